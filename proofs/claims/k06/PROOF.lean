import PyProof.Rows.All
import Wide.All
import OpenK.AllK
import Wide.FinOn
import Lean
import PyProof.EqAt
import PyProof.EqKinds
import PyProof.TupleCall
import PySem.Challenge.RW_retrace_k06_names_and_rows_refused
set_option Elab.async false
set_option linter.all false
set_option maxHeartbeats 4000000
set_option maxRecDepth 100000
namespace L2
open PySem PySem.Spec PyProof.Rows
abbrev Key:=Sum Int Str
def ph:Key->Value->Bool
 |.inl k,v=>Value.isInt k v
 |.inr x,v=>Value.isStrOf x v
def M9(w:World):Key->Int
 |.inl k=>hashInt k
 |.inr x=>hashStr w x
theorem du:∀{k:Key} {v:Value},ph k v=true->(∃i t,k=Sum.inl i/\v=Value.int i t)\/(∃x t,k=Sum.inr x/\v=Value.str x t)
 |.inl i,v,h=>by
  obtain⟨t,e⟩:=Value.isInt_shape (k:=i) (v:=v) h
  exact .inl ⟨i,t,rfl,e⟩
 |.inr x,v,h=>by
  obtain⟨t,e⟩:=Value.isStrOf_shape (x:=x) (v:=v) h
  exact .inr ⟨x,t,rfl,e⟩
theorem yc(i:Int)(t:Tok):ph (.inl i) (.int i t)=true:=by simp [ph,Value.isInt]
theorem yd(x:Str)(t:Tok):ph (.inr x) (.str x t)=true:=by simp [ph,Value.isStrOf]
theorem FF(a b:Int):decide ((Sum.inl a:Key)=Sum.inl b)=(a == b):=by
 by_cases e:a=b
 ·subst e;simp
 ·have h : ¬ (Sum.inl a:Key)=Sum.inl b:=λq=>e (Sum.inl.inj q)
  rw [decide_eq_false h]
  exact (beq_eq_false_iff_ne.mpr e).symm
theorem FG(a b:Str):decide ((Sum.inr a:Key)=Sum.inr b)=decide (a=b):=by
 by_cases e:a=b
 ·subst e;simp
 ·have h : ¬ (Sum.inr a:Key)=Sum.inr b:=λq=>e (Sum.inr.inj q)
  rw [decide_eq_false h,decide_eq_false e]
theorem FH(a:Int)(b:Str):decide ((Sum.inl a:Key)=Sum.inr b)=false:=decide_eq_false (λq=>nomatch q)
theorem FI(a:Str)(b:Int):decide ((Sum.inr a:Key)=Sum.inl b)=false:=decide_eq_false (λq=>nomatch q)
def cy(prog:Program)(w:World):PySem.KeyKind prog w Key where
 is:=ph
 hash:=M9 w
 inj:=λv a b ha hb=>by
  rcases du ha with ⟨i,t,rfl,rfl⟩|⟨x,t,rfl,rfl⟩
  ·rcases du hb with ⟨j,u,rfl,e⟩|⟨y,u,rfl,e⟩
   ·injection e with e1 _;rw [e1]
   ·exact nomatch e
  ·rcases du hb with ⟨j,u,rfl,e⟩|⟨y,u,rfl,e⟩
   ·exact nomatch e
   ·injection e with e1 _;rw [e1]
 byValue:=λk v h=>by
  rcases du h with ⟨i,t,rfl,rfl⟩|⟨x,t,rfl,rfl⟩<;>rfl
 pyHash:=λhv h=>by
  rcases du hv with ⟨i,t,rfl,rfl⟩|⟨x,t,rfl,rfl⟩
  ·exact wpAny_pyHash_int h
  ·exact wpAny_pyHash_str h
 eqBool:=λhu hv h=>by
  rcases du hu with ⟨i,t,rfl,rfl⟩|⟨x,t,rfl,rfl⟩
  ·rcases du hv with ⟨j,u,rfl,rfl⟩|⟨y,u,rfl,rfl⟩
   ·rw [FF] at h;exact wpAny_eqBool_int h
   ·rw [FH] at h;exact SeqAt.EqAt.int_str i t y u _ _ _ _ h
  ·rcases du hv with ⟨j,u,rfl,rfl⟩|⟨y,u,rfl,rfl⟩
   ·rw [FI] at h;exact SeqAt.EqAt.str_int x t j u _ _ _ _ h
   ·rw [FG] at h;exact wpAny_eqBool_str h
 «strs»:=λk x t v h=>by
  rcases du h with ⟨i,u,rfl,e⟩|⟨y,u,rfl,e⟩
  ·exact nomatch e
  ·injection e with e1 _
   subst e1
   cases v<;>rfl
theorem rH(prog:Program)(w:World)(i:Int)(t:Tok):(cy prog w).is (.inl i) (.int i t)=true:=yc i t
theorem rJ(prog:Program)(w:World)(x:Str)(t:Tok):(cy prog w).is (.inr x) (.str x t)=true:=yd x t
inductive V where
 |eh|bl (b:Bool)|int (i:Int)|str (x:Str)|wx (b:Array UInt8)|Cq (b:UInt64)|ref (a:Addr)|ty (n:String)
 deriving DecidableEq
def RelV:V->Value->Prop
 |.eh,u=>u=Value.none
 |.bl b,u=>u=Value.bool b
 |.int i,u=>∃t,u=Value.int i t
 |.str x,u=>∃t,u=Value.str x t
 |.wx b,u=>∃t,u=Value.bytes b t
 |.Cq b,u=>∃t,u=Value.float b t
 |.ref a,u=>u=Value.ref a
 |.ty n,u=>u=Value.type n
abbrev Vals:List V->List Value->Prop:=Paired RelV
theorem Vals.length{xs:List V}{us:List Value}(r:Vals xs us):xs.length=us.length:=Paired.length r
theorem Vals.get:∀{xs:List V} {us:List Value} {i:Nat} {x:V},Vals xs us->xs[i]?=some x->∃u,us[i]?=some u/\RelV x u
 |_,_,_,_,.nil,e=>by simp at e
 |_,_,0,_,.cons r _,e=>by simp at e;subst e;exact⟨_,rfl,r⟩
 |_,_,i+1,x,.cons _ t,e=>by
  obtain⟨u,h1,h2⟩:=Vals.get (i:=i) (x:=x) t (by simpa using e)
  exact⟨u,by simpa using h1,h2⟩
theorem Vals.set{x:V}{u:Value}(r:RelV x u):∀{xs:List V} {us:List Value} (i:Nat),Vals xs us->Vals (xs.set i x) (us.set i u)
 |_,_,_,.nil=>.nil
 |_,_,0,.cons _ t=>.cons r t
 |_,_,i+1,.cons q t=>.cons q (Vals.set r i t)
theorem Vals.append:∀{xs ys:List V} {us ws:List Value},Vals xs us->Vals ys ws->Vals (xs++ys) (us++ws)
 |_,_,_,_,.nil,s=>s
 |_,_,_,_,.cons r t,s=>.cons r (Vals.append t s)
theorem Vals.take:∀{xs:List V} {us:List Value} (n:Nat),Vals xs us->Vals (xs.take n) (us.take n)
 |_,_,0,_=>.nil
 |_,_,_+1,.nil=>.nil
 |_,_,n+1,.cons r t=>.cons r (Vals.take n t)
theorem Vals.drop:∀{xs:List V} {us:List Value} (n:Nat),Vals xs us->Vals (xs.drop n) (us.drop n)
 |_,_,0,r=>r
 |_,_,_+1,.nil=>.nil
 |_,_,n+1,.cons _ t=>Vals.drop n t
def lB:Option V->Option Value->Prop
 |some v,some u=>RelV v u
 |none,none=>True
 |_,_=>False
def KV{κ:Type}:List (κ×V)->List (κ×Value)->Prop:=Paired λ(p:κ×V) (q:κ×Value)=>p.1=q.1/\RelV p.2 q.2
def kV:Key->V
 |.inl i=>.int i
 |.inr x=>.str x
inductive HO where
 |lst (xs:List V)
 |tup (xs:List V)
 |dK (kvs:List (Key×V))|dT (kvs:List (List Key×V))
 |set (S:Int->Bool) (n:Nat)
 |ins (C dx:Addr) (fs:List (Str×V))
 |own (x:Addr)
 |xd (fs:List (Str×V))
 |met (f x:Addr)
 |LQ (lo hi:Int)
 |uk (o:Obj) (u:HO)
 |ED (ps:Array Value)
 |ext (φ:Heap->Prop)
abbrev Hp:=Addr->Option HO
def upd(H:Hp)(a:Addr)(o:HO):Hp:=λb=>if b=a then some o else H b
theorem ae{H:Hp}{a:Addr}{o:HO}:upd H a o a=some o:=by unfold upd;rw [if_pos rfl]
theorem aK{H:Hp}{a b:Addr}{o:HO}(h:b≠a):upd H a o b=H b:=by unfold upd;rw [if_neg h]
theorem iH{H:Hp}{a:Addr}{o u:HO}:upd (upd H a o) a u=upd H a u:=by
 funext b;unfold upd;split<;>rfl
theorem pj{H:Hp}{a b:Addr}{o u:HO}(h:H a=some o)(h':H b=some u)(d:o≠u):a≠b:=by
 intro e;subst e;rw [h] at h';exact d (Option.some.inj h')
theorem aL{H:Hp}{a b:Addr}{o:HO}(h:H a=some o)(h':H b=none):a≠b:=by
 intro e;subst e;rw [h] at h';cases h'
section
variable (P:Program) (w:World)
def cZ(H:Hp)(h:Heap)(a:Addr):HO->Prop
 |.lst xs=>xs.length<=sizeLine/\∃(its:List Value) (n:Nat),Vals xs its/\h.get? a=some {cls:=.type "list",data:=.seq its.toArray n}
 |.tup xs=>xs.length<=sizeLine/\∃its:List Value,Vals xs its/\IsTup h a its.toArray
 |.dK kvs=>kvs.length<=sizeLine/\(a == sysModules)=false/\∃vs,KV kvs vs/\h.DictOf (cy P w) a vs
 |.dT kvs=>kvs.length<=sizeLine/\(a == sysModules)=false/\∃xs:List (List Key×Addr×Value),
   Paired (λ(p:List Key×V) (q:List Key×Addr×Value)=>p.1=q.1/\H q.2.1=some (.tup (p.1.map kV))/\RelV p.2 q.2.2) kvs xs /\
   ∃o es ep,h.get? a=some o/\o.ExactDict/\o.data=.dict es ep/\es.toList=xs.map (entryOfKey (tupleKind (cy P w)))/\(xs.map (·.1)).Nodup
 |.set S n=>h.SetOf (intKind P w) a S n
 |.ins C dx fs=>H dx=some (.own a)/\fs.length<=1000/\dx≠a/\h.get? a=some (PySem.W.instObj C dx) /\
   ∃mA,h.Ns1 dx mA/\(∀f,lB (fs.lookup f) (mA f))/\PySem.Within mA (fs.map (·.1))
 |.own _=>∃o,h.get? a=some o
 |.xd fs=>∃mA,h.Ns1 a mA/\∀f,lB (fs.lookup f) (mA f)
 |.LQ lo hi=>∃t u v,h.get? a=some {cls:=.type "range",data:=.fields #[.int lo t,.int hi u,.int 1 v]}
 |.uk o u=>h.get? a=some o/\cZ H h a u
 |.ED ps=>h.get? a=some {cls:=.none,data:=.fields ps}
 |.met f x=>h.get? a=some (PySem.W.methodObj (.ref f) (.ref x))
 |.ext φ=>φ h/\(∃o,h.get? a=some o)/\∀h1 h2:Heap,φ h1->(∀o,h1.get? a=some o->h2.get? a=some o)->φ h2
def il(H:Hp)(h:Heap):Prop:=∀a o,H a=some o->cZ P w H h a o
end
section
variable {P:Program} {w:World} {H H':Hp} {h h':Heap} {a:Addr} {o:HO}
theorem cZ.lt(x:cZ P w H h a o):a<h.objs.size:=by
 cases o with
 |lst xs=>obtain⟨_,_,_,_,e⟩:=x;exact Heap.lt_size e
 |tup xs=>obtain⟨_,_,_,p⟩:=x;exact p.lt
 |dK kvs=>obtain⟨_,_,_,_,o,_,_,e,_⟩:=x;exact Heap.lt_size e
 |dT kvs=>obtain⟨_,_,_,_,o,_,_,e,_⟩:=x;exact Heap.lt_size e
 |set S n=>obtain⟨o,_,_,_,e,_⟩:=x;exact Heap.lt_size e
 |ins C dx fs=>obtain⟨_,_,_,e,_⟩:=x;exact Heap.lt_size e
 |own y=>obtain⟨_,e⟩:=x;exact Heap.lt_size e
 |xd fs=>obtain⟨_,⟨_,_,_,e,_⟩,_⟩:=x;exact Heap.lt_size e
 |LQ lo hi=>obtain⟨_,_,_,e⟩:=x;exact Heap.lt_size e
 |uk ob u=>obtain⟨e,_⟩:=x;exact Heap.lt_size e
 |ED ps=>exact Heap.lt_size (show h.get? a=some _ from x)
 |met f y=>exact Heap.lt_size (show h.get? a=some _ from x)
 |ext φ=>obtain⟨_,⟨_,e⟩,_⟩:=x;exact Heap.lt_size e
theorem Paired.fP{α β:Type}{F G:α->β->Prop}:∀{l₁:List α} {l₂:List β},Paired F l₁ l₂->(∀a b,F a b->G a b)->Paired G l₁ l₂
 |_,_,.nil,_=>.nil
 |_,_,.cons r t,f=>.cons (f _ _ r) (Paired.fP t f)
theorem Paired.imp'{α β:Type}{F G:α->β->Prop}(f:∀a b,F a b->G a b){l₁:List α}{l₂:List β}(r:Paired F l₁ l₂):Paired G l₁ l₂:=Paired.fP r f
theorem cZ.ng(x:cZ P w H h a o)(k:∀b u,(b=a\/H b=some (.own a))->h.get? b=some u->h'.get? b=some u)
  (ho:∀b,H b=some (.own a)->H' b=some (.own a)) (ht:∀b xs,H b=some (.tup xs)->H' b=some (.tup xs)):cZ P w H' h' a o:=by
 induction o with
 |lst xs=>obtain⟨z,its,n,r,e⟩:=x;exact⟨z,its,n,r,k _ _ (.inl rfl) e⟩
 |tup xs=>obtain⟨z,its,r,ob,e,c⟩:=x;exact⟨z,its,r,ob,k _ _ (.inl rfl) e,c⟩
 |dK kvs=>obtain⟨z,y,vs,r,ob,es,ep,e,c⟩:=x;exact⟨z,y,vs,r,ob,es,ep,k _ _ (.inl rfl) e,c⟩
 |dT kvs=>
  obtain⟨z,y,xs,r,ob,es,ep,e,c⟩:=x
  exact⟨z,y,xs,Paired.fP r λp q z=>⟨z.1,ht _ _ z.2.1,z.2.2⟩,ob,es,ep,k _ _ (.inl rfl) e,c⟩
 |set S n=>obtain⟨ob,es,ep,t,e,c⟩:=x;exact⟨ob,es,ep,t,k _ _ (.inl rfl) e,c⟩
 |ins C dx fs=>
  obtain⟨d,z,ne,e,mA,⟨od,es,ep,e2,c⟩,r⟩:=x
  exact⟨ho _ d,z,ne,k _ _ (.inl rfl) e,mA,⟨od,es,ep,k _ _ (.inr d) e2,c⟩,r⟩
 |own y=>obtain⟨ob,e⟩:=x;exact⟨ob,k _ _ (.inl rfl) e⟩
 |xd fs=>obtain⟨mA,⟨od,es,ep,e,c⟩,r⟩:=x;exact⟨mA,⟨od,es,ep,k _ _ (.inl rfl) e,c⟩,r⟩
 |LQ lo hi=>obtain⟨t,u,v,e⟩:=x;exact⟨t,u,v,k _ _ (.inl rfl) e⟩
 |uk ob u ih=>obtain⟨e,q⟩:=x;exact⟨k _ _ (.inl rfl) e,ih q⟩
 |ED ps=>
  have e:h.get? a=some {cls:=.none,data:=.fields ps}:=x
  show h'.get? a=some {cls:=.none,data:=.fields ps}
  exact k a _ (.inl rfl) e
 |met f y=>
  have e:h.get? a=some (PySem.W.methodObj (.ref f) (.ref y)):=x
  show h'.get? a=some (PySem.W.methodObj (.ref f) (.ref y))
  exact k a _ (.inl rfl) e
 |ext φ=>obtain⟨p,⟨o,e⟩,st⟩:=x;exact⟨st _ _ p λo q=>k _ _ (.inl rfl) q,⟨o,k _ _ (.inl rfl) e⟩,st⟩
theorem il.lt(x:il P w H h)(e:H a=some o):a<h.objs.size:=(x a o e).lt
theorem il.fresh(x:il P w H h)(e:h.objs.size<=a):H a=none:=by
 cases q:H a with
 |none=>rfl
 |some u=>exact absurd (Nat.lt_of_lt_of_le (x.lt q) e) (Nat.lt_irrefl _)
theorem il.kept(x:il P w H h)(k:∀b u,h.get? b=some u->h'.get? b=some u):il P w H h':=λa o e=>
 (x a o e).ng (λb u _ q=>k b u q) (λ_ q=>q) λ_ _ q=>q
theorem il.laid(x:il P w H h)(k:∀b u,h.get? b=some u->h'.get? b=some u)(hp:h.objs.size<=a)(new:cZ P w (upd H a o) h' a o):il P w (upd H a o) h':=λb u e=>by
 have hn:=x.fresh hp
 by_cases hb:b=a
 ·subst hb;rw [ae] at e;cases e;exact new
 ·rw [aK hb] at e
  exact (x b u e).ng (λc v _ q=>k c v q) (λc q=>by rw [aK (aL q hn)];exact q) λc xs q=>by rw [aK (aL q hn)];exact q
end
def Rd(H:Hp)(a:Addr)(u:HO):Prop:=H a=some u\/∃o,H a=some (.uk o u)
theorem Rd.ok{P:Program}{w:World}{H:Hp}{h:Heap}{a:Addr}{u:HO}(r:Rd H a u)(x:il P w H h):cZ P w H h a u:=by
 rcases r with r|⟨o,r⟩
 ·exact x a u r
 ·obtain⟨_,q⟩:=x a _ r
  exact q
def Jg:Option HO->Prop
 |some (.lst _)=>True
 |some (.dK _)=>True
 |some (.dT _)=>True
 |some (.set _ _)=>True
 |some (.ins _ _ _)=>True
 |some (.ext _)=>True
 |_=>False
section
variable {P:Program} {w:World} {H:Hp} {h h':Heap} {x e:Addr} {o':HO}
theorem il.write(ok:il P w H h)(mu:Jg (H x))(he:e=x\/H e=some (.own x))(k:∀b u,b≠e->h.get? b=some u->h'.get? b=some u)(IA:∃u,h'.get? e=some u)
  (new:cZ P w (upd H x o') h' x o'):il P w (upd H x o') h':=λb u q=>by
 have Jh:∀c y,H c=some (.own y)->c≠x:=λc y r z=>by subst z;rw [r] at mu;exact mu
 have Na:∀c xs,H c=some (.tup xs)->c≠x:=λc xs r z=>by subst z;rw [r] at mu;exact mu
 by_cases hb:b=x
 ·subst hb;rw [ae] at q;cases q;exact new
 ·rw [aK hb] at q
  by_cases FJ:b=e
  ·have q':H b=some (.own x):=by
    rcases he with z|z
    ·exact absurd (FJ.trans z) hb
    ·rw [FJ];exact z
   rw [q] at q';cases q'
   obtain⟨v,hv⟩:=IA
   exact⟨v,by rw [FJ];exact hv⟩
  ·refine (ok b u q).ng (λc v hc r=>k c v ?_ r) (λc r=>by rw [aK (Jh c b r)];exact r) λc xs r=>by rw [aK (Na c xs r)];exact r
   rcases hc with rfl|hc
   ·exact FJ
   ·rintro rfl
    rcases he with z|z
    ·exact Jh c b hc z
    ·rw [hc] at z;cases z;exact hb rfl
end
structure Un (fs ex:List Addr) (H H':Hp) (h h':Heap):Prop where
 keep:∀b o,h.get? b=some o->H b=none->b∉fs->b∉ex->h'.get? b=some o
 slot:∀b o,h.get? b=some o->H b=none->b∈fs->b∉ex->∃sl,h'.get? b=some {o with slots:=sl}
 free:∀b o,h.get? b=some o->H b=none->b∉ex->H' b=none
 there:∀b o,h.get? b=some o->b∉ex->∃o',h'.get? b=some o'
 ni:∀b xs,H b=some (.tup xs)->H' b=some (.tup xs)
 mq:∀b o u,H b=some (.uk o u)->H' b=some (.uk o u)
 nj:∀b ps,H b=some (.ED ps)->∃more,H' b=some (.ED (ps++more))
section
variable {fs Nb ex TJ:List Addr} {H H1 H2:Hp} {h h1 h2 h':Heap} {a x e:Addr} {o:HO}
theorem Un.any(u:Un fs ex H H1 h h1){b:Addr}{ob:Obj}(q:h.get? b=some ob)(n:H b=none)(hx:b∉ex):∃sl,h1.get? b=some {ob with slots:=sl}:=by
 by_cases hb:b∈fs
 ·exact u.slot b ob q n hb hx
 ·exact⟨ob.slots,u.keep b ob q n hb hx⟩
theorem Un.kept(k:∀b u,h.get? b=some u->h'.get? b=some u):Un fs ex H H h h':=
 ⟨λb ob q _ _ _=>k b ob q,λb ob q _ _ _=>⟨ob.slots,k b ob q⟩,λ_ _ _ n _=>n,λb ob q _=>⟨ob,k b ob q⟩,λ_ _ q=>q,λ_ _ _ q=>q,λ_ ps q=>⟨#[],by rw [q];simp⟩⟩
theorem Un.refl:Un fs ex H H h h:=Un.kept λ_ _ q=>q
theorem Un.laid(k:∀b u,h.get? b=some u->h'.get? b=some u)(hp:h.objs.size<=a)(hn:H a=none):Un fs ex H (upd H a o) h h' where
 keep:=λb u q _ _ _=>k b u q
 slot:=λb u q _ _ _=>⟨u.slots,k b u q⟩
 free:=λb u q n _=>by rw [aK (Nat.ne_of_lt (Nat.lt_of_lt_of_le (Heap.lt_size q) hp))];exact n
 there:=λb u q _=>⟨u,k b u q⟩
 ni:=λb xs q=>by rw [aK (aL q hn)];exact q
 mq:=λb u xs q=>by rw [aK (aL q hn)];exact q
 nj:=λb ps q=>⟨#[],by rw [aK (aL q hn),q];simp⟩
theorem Un.write(mu:Jg (H x))(he:e=x\/H e=some (.own x))(k:∀b u,b≠e->h.get? b=some u->h'.get? b=some u)(IA:∃u,h'.get? e=some u):Un fs ex H (upd H x o) h h':=by
 have hx:∀b,H b=none->b≠x:=λb n z=>by subst z;rw [n] at mu;exact mu
 have hb:∀b,H b=none->b≠e:=λb n z=>by
  subst z
  rcases he with r|r
  ·exact hx b n r
  ·rw [n] at r;cases r
 have hm:∀b u,H b=some u -> ¬Jg (some u)->b≠x:=λb u q nm z=>by subst z;rw [q] at mu;exact nm mu
 refine⟨λb u q n _ _=>k b u (hb b n) q,λb u q n _ _=>⟨u.slots,k b u (hb b n) q⟩,λb u q n _=>by rw [aK (hx b n)];exact n,λb u q _=>?_,
  λb xs q=>by rw [aK (hm b _ q λz=>z)];exact q,λb u xs q=>by rw [aK (hm b _ q λz=>z)];exact q,λb ps q=>⟨#[],by rw [aK (hm b _ q λz=>z),q];simp⟩⟩
 by_cases FJ:b=e
 ·subst FJ;exact IA
 ·exact⟨u,k b u FJ q⟩
end
def LR(h:Heap)(H:Hp):List Addr:=(List.range h.objs.size).filter λa=>(H a).isSome
def qf(h:Heap)(H:Hp):Heap:=PySem.W.hideAll h (LR h H)
theorem ye(h:Heap)(H:Hp):(qf h H).objs.size=h.objs.size:=PySem.W.hideAll_size _ _
theorem zQ{h:Heap}{H:Hp}{b:Addr}{o:Obj}(e:h.get? b=some o)(n:H b=none):(qf h H).get? b=some o:=
 PySem.W.hideAll_get _ e λhm=>by
  have q:(H b).isSome=true:=(List.mem_filter.mp hm).2
  rw [n] at q;simp at q
theorem Cr{h:Heap}{H:Hp}{b:Addr}{o:Obj}(e:(qf h H).get? b=some o):h.get? b=some o/\H b=none:=by
 have e':h.get? b=some o:=PySem.W.of_hideAll (LR h H) e
 refine⟨e',?_⟩
 cases q:H b with
 |none=>rfl
 |some x=>
  have hm:b∈LR h H:=List.mem_filter.mpr ⟨List.mem_range.mpr (Heap.lt_size e'),by simp [q]⟩
  have z:(qf h H).get? b=none:=PySem.W.hideAll_none (LR h H) hm
  rw [z] at e;cases e
structure Mod (K:PySem.W.Frag) (mg:Str->Option Value) (base:Heap):Prop where
 Ct:K.In base
 glob:base.Ns mainGlobals mg
 blt:∃mb,base.Ns builtinsNs mb/\∀x:Str,x≠"__name__"->mb x=bootBuiltins x
 nolimit:base.NoLimit
structure Cx where
 prog:Program
 w:World
 K:PySem.W.Frag
 mg:Str->Option Value
 base:Heap
 A:Around
 N:List Str
 s₀:Shared
 H₀:Hp
 env:Env
 outer:List Env
 stack:List Env
 ex:List Addr
 fn:Str->Bool
 calm:Bool
 pn:List (Addr×Obj)
 xe:Value->Shared->Prop
def nq(l:List Env):List Addr:=l.filterMap (·.frame)
abbrev Cx.fs (X:Cx):List Addr:=nq X.outer
def LS(sc:Scope)(x:Str):Prop:=sc.names.lookup x=some .local\/sc.names.lookup x=some .cell\/sc.names.lookup x=some .free
def Loc(sc:Scope)(x:Str):Prop:=sc.names.lookup x=some .local\/sc.names.lookup x=some .cell
def Look(env:Env)(h:Heap)(m:Str->Option Value)(x:Str)(u:Value):Prop:=
 (env.kindOf x=some .local/\m x=some u)\/((env.kindOf x=some .cell\/env.kindOf x=some .free)/\∃c,env.cells.lookup x=some c/\h.IsCell c (some u))
structure Cx.Ok (X:Cx):Prop where
 mod:Mod X.K X.mg X.base
 kind:X.env.scope.kind=.function
 glob:X.env.globals=mainGlobals
 blt:X.env.builtins=builtinsNs
 above:X.s₀.heap.objs.size<=X.env.locals
 inj:∀x y c,X.env.cells.lookup x=some c->X.env.cells.lookup y=some c->x=y
 has:∀x,(X.env.kindOf x=some .cell\/X.env.kindOf x=some .free)->∃c,X.env.cells.lookup x=some c
 EE:∀x c,X.fn x=true->X.env.cells.lookup x=some c->X.s₀.heap.objs.size<=c
 hd:X.calm=true->X.A.handled=none
 frames:X.A.frames=some X.stack
 FK:X.stack=X.outer\/(X.stack=X.env::X.outer/\X.env.frame=some X.env.locals)
 Cb:∀b∈X.ex,b≠X.env.locals/\∀x c,X.env.cells.lookup x=some c->c≠b
 bs:∀b o,X.base.get? b=some o->X.s₀.heap.get? b=some o/\X.H₀ b=none
 wy:X.base.objs.size<=X.s₀.heap.objs.size
 qg:∀b o,X.base.get? b=some o->b∉X.ex
 rK:∀b∈X.ex,b∉X.fs
 ib:X.s₀.heap.FunFrames X.base X.outer
 zR:∀b∈X.fs,X.H₀ b=none
structure Inv (X:Cx) (pins:List (Addr×Obj)) (σ:List (Option V)) (H:Hp) (s:Shared):Prop where
 ok:X.Ok
 os:s.os=X.s₀.os
 bare:AllBare s.gens
 base:Un X.fs X.ex X.H₀ H X.s₀.heap s.heap
 loc:∃m,s.heap.Ns X.env.locals m/\∀(i:Nat) (x:Str) (v:V),X.N[i]?=some x->σ[i]?=some (some v)->LS X.env.scope x->∃u,RelV v u/\Look X.env s.heap m x u
 cell:∀x c,X.env.cells.lookup x=some c->∃v,s.heap.IsCell c v
 free:H X.env.locals=none
 gs:∀x c,X.env.cells.lookup x=some c->H c=none
 pin:∀p∈X.pn++pins,s.heap.get? p.1=some p.2/\H p.1=none/\p.1≠X.env.locals/\p.1∉X.fs/\∀v,p.2.data≠.cell v
 cw:il X.prog X.w H s.heap
 len:σ.length=X.N.length
section
variable {X:Cx} {pins:List (Addr×Obj)} {σ:List (Option V)} {H H':Hp} {s:Shared} {h':Heap}
theorem Cx.Ok.Nc(ok:X.Ok){b:Addr}{o:Obj}(e:X.base.get? b=some o):b∉X.fs:=λhb=>by
 have:=(ok.ib.mem hb).1
 rw [e] at this;cases this
theorem Inv.bs(I:Inv X pins σ H s):∀b o,X.base.get? b=some o->s.heap.get? b=some o/\H b=none:=λb o e=>
 ⟨I.base.keep b o (I.ok.bs b o e).1 (I.ok.bs b o e).2 (I.ok.Nc e) (I.ok.qg b o e),I.base.free b o (I.ok.bs b o e).1 (I.ok.bs b o e).2 (I.ok.qg b o e)⟩
theorem Inv.bk(I:Inv X pins σ H s):∀b o,X.base.get? b=some o->s.heap.get? b=some o:=λb o e=>(I.bs b o e).1
theorem Inv.mod(I:Inv X pins σ H s):Mod X.K X.mg X.base:=I.ok.mod
theorem Inv.kx(I:Inv X pins σ H s):X.K.In s.heap:=I.ok.mod.Ct.keeps I.bk
theorem Inv.lt(I:Inv X pins σ H s):X.env.locals<s.heap.objs.size:=let ⟨_,hn,_⟩:=I.loc;hn.lt
theorem Inv.sz(I:Inv X pins σ H s):X.s₀.heap.objs.size<=s.heap.objs.size:=Nat.le_trans I.ok.above (Nat.le_of_lt I.lt)
theorem Inv.Nd(I:Inv X pins σ H s){a:Addr}(h:s.heap.objs.size<=a):a∉X.fs:=λhb=>by
 obtain⟨_,o,ho,_⟩:=I.ok.ib.mem hb
 exact absurd (Nat.lt_of_lt_of_le (Heap.lt_size ho) (Nat.le_trans I.sz h)) (Nat.lt_irrefl _)
theorem Inv.Cu(I:Inv X pins σ H s):∀x c,X.env.cells.lookup x=some c->c≠X.env.locals:=λx c e z=>by
 obtain⟨v,o,ho,hd⟩:=I.cell x c e
 obtain⟨m,⟨o',es,ep,wz,oK,_⟩,_⟩:=I.loc
 rw [z,wz] at ho;cases ho;rw [oK] at hd;cases hd
theorem Inv.ib(I:Inv X pins σ H s):s.heap.FunFrames X.base X.outer:=by
 have all:∀(l:List Env),(∀b∈nq l,b∈X.fs)->X.s₀.heap.FunFrames X.base l->s.heap.FunFrames X.base l:=by
  intro l
  induction l with
  |nil=>intro _ _;trivial
  |cons env r ih=>
   intro hs hl
   obtain⟨hk,⟨L,o,hf,hn,ho,hd⟩,hr⟩:=hl
   have hL:L∈X.fs:=hs L (by unfold nq;rw [List.filterMap_cons,hf];exact List.mem_cons_self)
   obtain⟨sl,e⟩:=I.base.slot L o ho (I.ok.zR L hL) hL λz=>I.ok.rK L z hL
   exact⟨hk,⟨L,_,hf,hn,e,hd⟩,ih (λb hb=>hs b (by unfold nq;rw [List.filterMap_cons,hf];exact List.mem_cons_of_mem _ hb)) hr⟩
 exact all X.outer (λ_ hb=>hb) I.ok.ib
theorem Inv.stack(I:Inv X pins σ H s):s.heap.FunFrames X.base X.stack:=by
 rcases I.ok.FK with e|⟨e,hf⟩
 ·rw [e];exact I.ib
 ·rw [e]
  obtain⟨m,hn,_⟩:=I.loc
  refine .cons (by rw [I.ok.kind];decide) hf hn ?_ I.ib
  exact Heap.get?_none_of_le (Nat.le_trans I.ok.wy I.ok.above)
theorem Inv.qh(I:Inv X pins σ H s):∀b∈nq X.stack,b∈X.env.locals::X.fs:=λb hb=>by
 rcases I.ok.FK with e|⟨e,hf⟩
 ·rw [e] at hb;exact List.mem_cons_of_mem _ hb
 ·rw [e] at hb
  unfold nq at hb
  rw [List.filterMap_cons,hf] at hb
  exact hb
theorem Inv.mE(I:Inv X pins σ H s):∀b∈nq X.stack,H b=none:=λb hb=>by
 rcases List.mem_cons.mp (I.qh b hb) with e|hb
 ·rw [e];exact I.free
 ·obtain⟨_,o,ho,_⟩:=I.ok.ib.mem hb
  exact I.base.free b o ho (I.ok.zR b hb) λz=>I.ok.rK b z hb
theorem Inv.step{g':Array GenState}{t':Nat}{d':Drawn}{ch:List Addr}(I:Inv X pins σ H s)
  (Cc:∀b∈ch,(b∈X.ex\/X.s₀.heap.objs.size<=b)/\b≠X.env.locals/\(∀x c,X.env.cells.lookup x=some c->c≠b)/\∀p∈X.pn++pins,p.1≠b)
  (keep:∀b o,b≠X.env.locals->b∉X.fs->b∉ch->s.heap.get? b=some o->H b=none->h'.get? b=some o)
  (slot:∀b o,b≠X.env.locals->b∈X.fs->b∉ch->s.heap.get? b=some o->H b=none->∃sl,h'.get? b=some {o with slots:=sl}) (free:∀b o,b∉ch->s.heap.get? b=some o->H b=none->H' b=none)
  (there:∀b o,b∉ch->s.heap.get? b=some o->∃o',h'.get? b=some o')
  (ni:∀b xs,H b=some (.tup xs)->H' b=some (.tup xs)) (mq:∀b o u,H b=some (.uk o u)->H' b=some (.uk o u)) (nj:∀b ps,H b=some (.ED ps)->∃more,H' b=some (.ED (ps++more)))
  (ns:∀m,s.heap.Ns X.env.locals m->h'.Ns X.env.locals m) (cw:il X.prog X.w H' h') (hg:AllBare g') :
  Inv X pins σ H' {s with heap:=h',gens:=g',drawn:=d',toks:=t'}:=by
 have Rz:∀b o,X.s₀.heap.get? b=some o->b≠X.env.locals:=λb o e=>Nat.ne_of_lt (Nat.lt_of_lt_of_le (Heap.lt_size e) I.ok.above)
 have EF:∀b o,X.s₀.heap.get? b=some o->b∉X.ex->b∉ch:=λb o e hx hb=>by
  rcases (Cc b hb).1 with z|z
  ·exact hx z
  ·exact absurd (Nat.lt_of_lt_of_le (Heap.lt_size e) z) (Nat.lt_irrefl _)
 have cellK:∀x c,X.env.cells.lookup x=some c->∀v,s.heap.IsCell c v->h'.IsCell c v:=λx c e v ⟨o,ho,hd⟩=>by
  have Ji:c∉ch:=λz=>(Cc c z).2.2.1 x c e rfl
  by_cases hc:c∈X.fs
  ·obtain⟨sl,q⟩:=slot c o (I.Cu x c e) hc Ji ho (I.gs x c e)
   exact⟨_,q,hd⟩
  ·exact⟨o,keep c o (I.Cu x c e) hc Ji ho (I.gs x c e),hd⟩
 refine⟨I.ok,I.os,hg,⟨λb o e n hb hx=>?_,λb o e n hb hx=>?_,λb o e n hx=>?_,λb o e hx=>?_,λb xs e=>ni b xs (I.base.ni b xs e),λb o xs e=>mq b o xs (I.base.mq b o xs e),λb ps e=>?_⟩,?_,λx c e=>?_,?_,λx c e=>?_,λp hp=>?_,cw,I.len⟩
 ·exact keep b o (Rz b o e) hb (EF b o e hx) (I.base.keep b o e n hb hx) (I.base.free b o e n hx)
 ·obtain⟨sl,e1⟩:=I.base.slot b o e n hb hx
  obtain⟨Jj,e2⟩:=slot b _ (Rz b o e) hb (EF b o e hx) e1 (I.base.free b o e n hx)
  exact⟨Jj,e2⟩
 ·obtain⟨o',e1⟩:=I.base.there b o e hx
  exact free b o' (EF b o e hx) e1 (I.base.free b o e n hx)
 ·obtain⟨o',e1⟩:=I.base.there b o e hx
  exact there b o' (EF b o e hx) e1
 ·obtain⟨m1,e1⟩:=I.base.nj b ps e
  obtain⟨m2,e2⟩:=nj b _ e1
  exact⟨m1++m2,by rw [e2,Array.append_assoc]⟩
 ·obtain⟨m,hn,hl⟩:=I.loc
  refine⟨m,ns m hn,λi x v e1 e2 e3=>?_⟩
  obtain⟨u,r,l⟩:=hl i x v e1 e2 e3
  refine⟨u,r,?_⟩
  rcases l with l|⟨k,c,e,z⟩
  ·exact .inl l
  ·exact .inr ⟨k,c,e,cellK x c e _ z⟩
 ·obtain⟨v,z⟩:=I.cell x c e
  exact⟨v,cellK x c e v z⟩
 ·obtain⟨m,⟨o,_,_,ho,_⟩,_⟩:=I.loc
  exact free _ o (λz=>(Cc _ z).2.1 rfl) ho I.free
 ·obtain⟨v,o,ho,hd⟩:=I.cell x c e
  exact free c o (λz=>(Cc c z).2.2.1 x c e rfl) ho (I.gs x c e)
 ·obtain⟨e,n,ne,nf,d⟩:=I.pin p hp
  have Ji:p.1∉ch:=λz=>(Cc p.1 z).2.2.2 p hp rfl
  exact⟨keep p.1 p.2 ne nf Ji e n,free p.1 p.2 Ji e n,ne,nf,d⟩
theorem Inv.un{t':Nat}(I:Inv X pins σ H s)(u:Un X.fs [] H H' s.heap h')(cw:il X.prog X.w H' h'):Inv X pins σ H' {s with heap:=h',toks:=t'}:=by
 obtain⟨m,⟨o,es,ep,ho,r⟩,_⟩:=id I.loc
 obtain⟨sl,hL⟩:=u.any ho I.free (by simp)
 exact I.step (g':=s.gens) (d':=s.drawn) (ch:= []) (λ_ z=>nomatch z) (λb o _ hb _ e n=>u.keep b o e n hb (by simp)) (λb o _ hb _ e n=>u.slot b o e n hb (by simp)) (λb o _ e n=>u.free b o e n (by simp)) (λb o _ e=>u.there b o e (by simp)) u.ni u.mq u.nj (λm' hm=>by
  obtain⟨o',zD,LU,wz,r'⟩:=hm
  rw [ho] at wz;cases wz
  exact⟨_,zD,LU,hL,r'⟩) cw I.bare
theorem Inv.call{g':Array GenState}{t':Nat}{d':Drawn}{ch:List Addr}(I:Inv X pins σ H s)(u:Un (nq X.stack) ch H H' s.heap h')(cw:il X.prog X.w H' h')(hg:AllBare g')
  (Cc:∀b∈ch,(b∈X.ex\/X.s₀.heap.objs.size<=b)/\b≠X.env.locals/\(∀x c,X.env.cells.lookup x=some c->c≠b)/\∀p∈X.pn++pins,p.1≠b) :
  Inv X pins σ H' {s with heap:=h',gens:=g',drawn:=d',toks:=t'}:=by
 obtain⟨m,⟨o,es,ep,ho,r⟩,_⟩:=id I.loc
 obtain⟨sl,hL⟩:=u.any ho I.free λz=>(Cc _ z).2.1 rfl
 exact I.step (ch:=ch) Cc (λb o hL hb hc e n=>u.keep b o e n (λz=>(List.mem_cons.mp (I.qh b z)).elim hL hb) hc) (λb o _ _ hc e n=>u.any e n hc) (λb o hc e n=>u.free b o e n hc) (λb o hc e=>u.there b o e hc) u.ni u.mq u.nj (λm' hm=>by
  obtain⟨o',zD,LU,wz,r'⟩:=hm
  rw [ho] at wz;cases wz
  exact⟨_,zD,LU,hL,r'⟩) cw hg
theorem Inv.turned{t':Nat}{it:Addr}(I:Inv X pins σ H s)(k:∀b o,b≠it->s.heap.get? b=some o->h'.get? b=some o)(hn:H it=none)(hL:it≠X.env.locals)
  (h1:it∈X.ex\/X.s₀.heap.objs.size<=it) (h2:∀x c,X.env.cells.lookup x=some c->c≠it) (h3:∀p∈X.pn++pins,p.1≠it):Inv X pins σ H {s with heap:=h',toks:=t'}:=by
 have RA:∀b u,H b=some u->b≠it:=λb u e z=>by rw [z,hn] at e;cases e
 refine I.step (g':=s.gens) (d':=s.drawn) (ch:= [it]) (λb hb=>?_) (λb o _ _ hc e _=>k b o (λz=>hc (by simp [z])) e) (λb o _ _ hc e _=>⟨o.slots,k b o (λz=>hc (by simp [z])) e⟩) (λ_ _ _ _ n=>n)
  (λb o hc e=>⟨o,k b o (λz=>hc (by simp [z])) e⟩) (λ_ _ e=>e) (λ_ _ _ e=>e) (λb ps e=>⟨#[],by rw [e];simp⟩) (λm hm=>?_) (λb u e=>?_) I.bare
 ·have e:b=it:=by simpa using hb
  subst e
  exact⟨h1,hL,h2,h3⟩
 ·obtain⟨o,es,ep,ho,r⟩:=hm
  exact⟨o,es,ep,k _ o (Ne.symm hL) ho,r⟩
 ·refine (I.cw b u e).ng (λc v hc q=>k c v ?_ q) (λ_ q=>q) λ_ _ q=>q
  rcases hc with z|z
  ·rw [z];exact RA b u e
  ·exact RA c _ z
theorem Inv.tok(I:Inv X pins σ H s)(t:Nat):Inv X pins σ H {s with toks:=t}:=I.un (h':=s.heap) (t':=t) Un.refl I.cw
theorem Inv.kept{t':Nat}(I:Inv X pins σ H s)(k:∀b u,s.heap.get? b=some u->h'.get? b=some u):Inv X pins σ H {s with heap:=h',toks:=t'}:=I.un (Un.kept k) (I.cw.kept k)
theorem Inv.laid{a:Addr}{o:HO}{t':Nat}(I:Inv X pins σ H s)(k:∀b u,s.heap.get? b=some u->h'.get? b=some u)(hp:s.heap.objs.size<=a)(new:cZ X.prog X.w (upd H a o) h' a o) :
  Inv X pins σ (upd H a o) {s with heap:=h',toks:=t'}:=I.un (Un.laid k hp (I.cw.fresh hp)) (I.cw.laid k hp new)
theorem Inv.write{x e:Addr}{o:HO}{t':Nat}(I:Inv X pins σ H s)(mu:Jg (H x))(he:e=x\/H e=some (.own x))(k:∀b u,b≠e->s.heap.get? b=some u->h'.get? b=some u)(IA:∃u,h'.get? e=some u)
  (new:cZ X.prog X.w (upd H x o) h' x o):Inv X pins σ (upd H x o) {s with heap:=h',toks:=t'}:=I.un (Un.write mu he k IA) (I.cw.write mu he k IA new)
theorem Inv.qi{EG:List (Addr×Obj)}(I:Inv X pins σ H s)(h:∀p∈EG,s.heap.get? p.1=some p.2/\H p.1=none/\p.1≠X.env.locals/\p.1∉X.fs/\∀v,p.2.data≠.cell v):Inv X EG σ H s:=
 ⟨I.ok,I.os,I.bare,I.base,I.loc,I.cell,I.free,I.gs,λp hp=>(List.mem_append.mp hp).elim (λz=>I.pin p (List.mem_append_left _ z)) (h p),I.cw,I.len⟩
theorem nu{N:List Str}(hN:N.Nodup){i j:Nat}{x:Str}(a:N[i]?=some x)(b:N[j]?=some x):i=j:=by
 obtain⟨h1,e1⟩:=List.getElem?_eq_some_iff.mp a
 obtain⟨h2,e2⟩:=List.getElem?_eq_some_iff.mp b
 exact (List.getElem_inj hN).mp (e1.trans e2.symm)
theorem yf{M:Model}{A:Around}{E:Value->Shared->Prop}{i:Nat}{x:Str}{v:V}{u:Value}{Q:Unit->Shared->Prop}(I:Inv X pins σ H s)(hN:X.N.Nodup)(hi:X.N[i]?=some x)(hx:Loc X.env.scope x)(r:RelV v u)
  (h:∀s',Inv X pins (σ.set i (some v)) H s'->(∃a,Heap.SameBut a s.heap s'.heap/\(a=X.env.locals\/X.env.cells.lookup x=some a))->Q () s') (hf:X.fn x=true\/X.env.scope.names.lookup x=some .local:=by first|exact .inl rfl|exact .inr rfl|assumption):wpAny M A (storeName X.env x u) Q E s:=by
 obtain⟨m,hn,hl⟩:=id I.loc
 have Nf:(X.env.scope.kind == .class||(X.env.scope.kind == .module&&X.env.locals != X.env.globals))=false:=by rw [I.ok.kind];rfl
 have hiσ:i<σ.length:=by rw [I.len];exact (List.getElem?_eq_some_iff.mp hi).1
 have Cu:=I.Cu
 have tracked:∀{a:Addr} {h':Heap},(∃o,s.heap.get? a=some o/\H a=none)->Heap.SameBut a s.heap h'->il X.prog X.w H h':=λ{a h'} ha hs b ob e=>by
  obtain⟨_,_,jg⟩:=ha
  refine (I.cw b ob e).ng (λc w' hc q=>(hs.2 c ?_).trans q) (λ_ q=>q) λ_ _ q=>q
  rintro rfl
  rcases hc with rfl|hc
  ·rw [jg] at e;cases e
  ·rw [jg] at hc;cases hc
 rcases hx with hk|hk
 ·refine wpAny_storeName_local hk hn (λh' Cv hs=>?_) Nf
  obtain⟨oL,_,_,TL,_⟩:=id hn
  refine h _ ⟨I.ok,I.os,I.bare,⟨λb o e n hb hx=>?_,λb o e n hb hx=>?_,I.base.free,λb o e hx=>?_,I.base.ni,I.base.mq,I.base.nj⟩,⟨_,Cv,λj y v' e1 e2 e3=>?_⟩,λy c e=>?_,I.free,I.gs,λp hp=>?_,tracked ⟨oL,TL,I.free⟩ hs,by simpa using I.len⟩ ⟨_,hs,.inl rfl⟩
  ·exact (hs.2 b (Nat.ne_of_lt (Nat.lt_of_lt_of_le (Heap.lt_size e) I.ok.above))).trans (I.base.keep b o e n hb hx)
  ·obtain⟨sl,e1⟩:=I.base.slot b o e n hb hx
   exact⟨sl,(hs.2 b (Nat.ne_of_lt (Nat.lt_of_lt_of_le (Heap.lt_size e) I.ok.above))).trans e1⟩
  ·obtain⟨o',e1⟩:=I.base.there b o e hx
   exact⟨o',(hs.2 b (Nat.ne_of_lt (Nat.lt_of_lt_of_le (Heap.lt_size e) I.ok.above))).trans e1⟩
  ·by_cases hj:j=i
   ·subst hj
    rw [hi] at e1;cases e1
    rw [List.getElem?_set_self hiσ] at e2
    cases e2
    exact⟨u,r,.inl ⟨hk,by simp⟩⟩
   ·rw [List.getElem?_set_ne (Ne.symm hj)] at e2
    obtain⟨u',r',q⟩:=hl j y v' e1 e2 e3
    refine⟨u',r',?_⟩
    rcases q with ⟨k,e⟩|⟨k,c,e,z⟩
    ·refine .inl ⟨k,?_⟩
     have:y≠x:=λe=>hj (nu hN e1 (e▸hi))
     simp [this,e]
    ·exact .inr ⟨k,c,e,z.sameBut hs (Cu y c e)⟩
  ·obtain⟨w',z⟩:=I.cell y c e
   exact⟨w',z.sameBut hs (Cu y c e)⟩
  ·obtain⟨e,n,ne,nf,d⟩:=I.pin p hp
   exact⟨(hs.2 p.1 ne).trans e,n,ne,nf,d⟩
 ·have yg:X.fn x=true:=by
   rcases hf with z|z
   ·exact z
   ·rw [z] at hk;cases hk
  obtain⟨c,hc⟩:=I.ok.has x (.inl hk)
  obtain⟨w',z⟩:=I.cell x c hc
  refine wpAny_storeName_cell I.ok.kind hk hc z (λh' mw hs=>?_)
  obtain⟨oc,FL,Ng⟩:=id z
  refine h {s with heap:=h'} ⟨I.ok,I.os,I.bare,⟨λb o e n hb hx=>?_,λb o e n hb hx=>?_,I.base.free,λb o e hx=>?_,I.base.ni,I.base.mq,I.base.nj⟩,⟨m,hn.sameBut hs (Ne.symm (Cu x c hc)),λj y v' e1 e2 e3=>?_⟩,λy c' e=>?_,I.free,I.gs,λp hp=>?_,tracked ⟨oc,FL,I.gs x c hc⟩ hs,by simpa using I.len⟩ ⟨c,hs,.inr hc⟩
  ·exact (hs.2 b (Nat.ne_of_lt (Nat.lt_of_lt_of_le (Heap.lt_size e) (I.ok.EE x c yg hc)))).trans (I.base.keep b o e n hb hx)
  ·obtain⟨sl,e1⟩:=I.base.slot b o e n hb hx
   exact⟨sl,(hs.2 b (Nat.ne_of_lt (Nat.lt_of_lt_of_le (Heap.lt_size e) (I.ok.EE x c yg hc)))).trans e1⟩
  ·obtain⟨o',e1⟩:=I.base.there b o e hx
   exact⟨o',(hs.2 b (Nat.ne_of_lt (Nat.lt_of_lt_of_le (Heap.lt_size e) (I.ok.EE x c yg hc)))).trans e1⟩
  ·by_cases hj:j=i
   ·subst hj
    rw [hi] at e1;cases e1
    rw [List.getElem?_set_self hiσ] at e2
    cases e2
    exact⟨u,r,.inr ⟨.inl hk,c,hc,mw⟩⟩
   ·rw [List.getElem?_set_ne (Ne.symm hj)] at e2
    obtain⟨u',r',q⟩:=hl j y v' e1 e2 e3
    refine⟨u',r',?_⟩
    rcases q with q|⟨k,c',e,z'⟩
    ·exact .inl q
    ·refine .inr ⟨k,c',e,z'.sameBut hs ?_⟩
     rintro rfl
     exact hj (nu hN e1 (I.ok.inj _ _ _ e hc▸hi))
  ·by_cases RB:c'=c
   ·subst RB;exact⟨_,mw⟩
   ·obtain⟨w2,z2⟩:=I.cell y c' e
    exact⟨w2,z2.sameBut hs RB⟩
  ·obtain⟨e,n,ne,nf,d⟩:=I.pin p hp
   refine⟨(hs.2 p.1 ?_).trans e,n,ne,nf,d⟩
   intro q
   rw [q,FL] at e
   have q':oc=p.2:=Option.some.inj e
   exact d w' (by rw [<-q'];exact Ng)
theorem ny{M:Model}{A:Around}{E:Value->Shared->Prop}{i:Nat}{x:Str}{v:V}{u:Value}{Q:Unit->Shared->Prop}(I:Inv X pins σ H s)(hN:X.N.Nodup)(hi:X.N[i]?=some x)(hx:Loc X.env.scope x)(r:RelV v u)
  (h:∀s',Inv X pins (σ.set i (some v)) H s'->Q () s') (hf:X.fn x=true\/X.env.scope.names.lookup x=some .local:=by first|exact .inl rfl|exact .inr rfl|assumption):wpAny M A (storeName X.env x u) Q E s:=
 yf I hN hi hx r (λs' I' _=>h s' I') hf
theorem Inv.EH{s':Shared}{ch:List Addr}(I:Inv X pins σ H s)(ho:s'.os=s.os)(u:Un (nq X.stack) ch H H' s.heap s'.heap)(cw:il X.prog X.w H' s'.heap)(hg:AllBare s'.gens)
  (Cc:∀b∈ch,(b∈X.ex\/X.s₀.heap.objs.size<=b)/\b≠X.env.locals/\(∀x c,X.env.cells.lookup x=some c->c≠b)/\∀p∈X.pn++pins,p.1≠b):Inv X pins σ H' s':=by
 obtain⟨h',g',d',t',o'⟩:=s'
 have e:o'=s.os:=ho
 subst e
 exact I.call (g':=g') (t':=t') (d':=d') u cw hg Cc
end
abbrev XK:=Value->Option Addr->Hp->Prop
abbrev St:=List (Option V)
abbrev VK:=V->Hp->Prop
abbrev TE:=St->Hp->VK->Prop
abbrev TT:=St->Hp->(Bool->Hp->Prop)->Prop
abbrev TA:=St->Hp->(List V->Hp->Prop)->Prop
structure Ends where
 nx:St->Hp->Prop
 rt:VK
 bk:St->Hp->Prop:=λ_ _=>False
 ct:St->Hp->Prop:=λ_ _=>False
abbrev TS:=Ends->St->Hp->Prop
def EP(X:Cx)(pins:List (Addr×Obj))(σ:St)(Q:VK)(u:Value)(s':Shared):Prop:=∃v H',Inv X pins σ H' s'/\RelV v u/\Q v H'
def TP(X:Cx)(pins:List (Addr×Obj))(σ:St)(Q:Bool->Hp->Prop)(b:Bool)(s':Shared):Prop:=∃H',Inv X pins σ H' s'/\Q b H'
def AP(X:Cx)(pins:List (Addr×Obj))(σ:St)(Q:List V->Hp->Prop)(us:List Value)(s':Shared):Prop:=∃vs H',Inv X pins σ H' s'/\Vals vs us/\Q vs H'
def SP(X:Cx)(pins:List (Addr×Obj))(D:Ends)(f:Flow)(s':Shared):Prop:=
 match f with
 |.next=>∃σ' H',Inv X pins σ' H' s'/\D.nx σ' H'
 |.brk=>∃σ' H',Inv X pins σ' H' s'/\D.bk σ' H'
 |.cont=>∃σ' H',Inv X pins σ' H' s'/\D.ct σ' H'
 |.ret u=>∃v σ' H',Inv X pins σ' H' s'/\RelV v u/\D.rt v H'
def PE(X:Cx)(e:Expr)(t:TE):Prop:=
 ∀(pins:List (Addr×Obj)) (s:Shared) (σ:St) (H:Hp) (Q:VK),Inv X pins σ H s->t σ H Q->wpAny (model X.prog X.w) X.A (eval e X.env) (EP X pins σ Q) X.xe s
def PT(X:Cx)(e:Expr)(t:TT):Prop:=
 ∀(pins:List (Addr×Obj)) (s:Shared) (σ:St) (H:Hp) (Q:Bool->Hp->Prop),Inv X pins σ H s->t σ H Q->wpAny (model X.prog X.w) X.A (isTrue e X.env (eval e X.env)) (TP X pins σ Q) X.xe s
def PW(X:Cx)(e:Expr)(t:TT):Prop:=
 ∀(whole:Sem Value) (pins:List (Addr×Obj)) (s:Shared) (σ:St) (H:Hp) (Q:Bool->Hp->Prop),Inv X pins σ H s->t σ H Q->wpAny (model X.prog X.w) X.A (isTrue e X.env whole) (TP X pins σ Q) X.xe s
theorem PW.pt{X:Cx}{e:Expr}{t:TT}(h:PW X e t):PT X e t:=h _
def PA(X:Cx)(es:List Expr)(t:TA):Prop:=
 ∀(pos:Pos) (pins:List (Addr×Obj)) (s:Shared) (σ:St) (H:Hp) (Q:List V->Hp->Prop),Inv X pins σ H s->t σ H Q->wpAny (model X.prog X.w) X.A (spliced (backTo pos (starEach es X.env))) (AP X pins σ Q) X.xe s
def PS(X:Cx)(st:Stmt)(t:TS):Prop:=
 ∀(pins:List (Addr×Obj)) (s:Shared) (σ:St) (H:Hp) (D:Ends),Inv X pins σ H s->t D σ H->wpAny (model X.prog X.w) X.A (exec st X.env) (SP X pins D) X.xe s
def gi(X:Cx)(st:List Stmt)(t:TS):Prop:=
 ∀(pins:List (Addr×Obj)) (s:Shared) (σ:St) (H:Hp) (D:Ends),Inv X pins σ H s->t D σ H->wpAny (model X.prog X.w) X.A (execs st X.env) (SP X pins D) X.xe s
theorem cI{α:Type}{t:Sem α}{Q Q':α->Shared->Prop}{M:Model}{A:Around}{E:Value->Shared->Prop}{s:Shared}(h:wpAny M A t Q E s)(hQ:∀a s,Q a s->Q' a s):wpAny M A t Q' E s:=wpAny_mono h hQ λ_ _ x=>x
section
variable {X:Cx}
def bQ(i:Nat):TE:=λσ H Q=>∃v,σ[i]?=some (some v)/\Q v H
def tC(v:V):TE:=λ_ H Q=>Q v H
theorem FN{i:Nat}{x:Str}{pos:Pos}(hN:X.N[i]?=some x)(hv:LS X.env.scope x)(hd:(x == ("__debug__":Str))=false:=by decide)(rL:(x == ("__classdict__":Str))=false:=by decide):PE X (.Name x pos) (bQ i):=by
 intro pins s σ H Q I h
 obtain⟨v,e,h⟩:=h
 obtain⟨m,hn,hl⟩:=I.loc
 obtain⟨u,r,l⟩:=hl i x v hN e hv
 have fin:EP X pins σ Q u s:=⟨v,H,I,r,h⟩
 rcases l with ⟨hk,hm⟩|⟨hk,c,hc,EI⟩
 ·exact wpAny_Name (wpAny_loadName_local I.ok.kind hk hn hm fin) hd
 ·rcases hk with hk|hk
  ·exact wpAny_Name (wpAny_loadName_cell I.ok.kind hk hc EI fin) hd
  ·exact wpAny_Name (wpAny_loadName_free I.ok.kind hk hc EI fin rL) hd
theorem ag{i j pos}:PE X (.Constant (.int i) j pos) (tC (.int i)):=λ_ _ _ H _ I h=>wpAny_Constant_int ⟨.int i,H,I.tok _,⟨_,rfl⟩,h⟩
theorem cW{b j pos}:PE X (.Constant (.bool b) j pos) (tC (.bl b)):=λ_ _ _ H _ I h=>Constant_bool ⟨.bl b,H,I,rfl,h⟩
theorem um{j pos}:PE X (.Constant .none j pos) (tC .eh):=λ_ _ _ H _ I h=>Constant_none ⟨.eh,H,I,rfl,h⟩
theorem aD{x j pos}:PE X (.Constant (.str x) j pos) (tC (.str x)):=λ_ _ _ H _ I h=>Calls.Constant_str ⟨.str x,H,I.tok _,⟨_,rfl⟩,h⟩
def Gl(X:Cx)(x:Str):Prop:=X.env.kindOf x=some .globalImplicit
theorem iI{E:Value->Shared->Prop}{pins:List (Addr×Obj)}{s:Shared}{σ:St}{H:Hp}{x:Str}{u:Value}{pos:Pos}{Q:Value->Shared->Prop}(I:Inv X pins σ H s)(hg:Gl X x)(hm:X.mg x=some u)(h:Q u s)
  (hd:(x == ("__debug__":Str))=false:=by decide):wpAny (model X.prog X.w) X.A (eval (.Name x pos) X.env) Q E s:=
 Calls.Name_function_global I.ok.kind hg (Calls.loadGlobal_global (by rw [I.ok.glob];exact I.mod.glob.keeps I.bk) hm h) hd
theorem lC{E:Value->Shared->Prop}{pins:List (Addr×Obj)}{s:Shared}{σ:St}{H:Hp}{x:Str}{u:Value}{pos:Pos}{Q:Value->Shared->Prop}(I:Inv X pins σ H s)(hg:Gl X x)(hm:X.mg x=none)(hv:bootBuiltins x=some u)(h:Q u s)
  (hn:x≠"__name__":=by decide) (hd:(x == ("__debug__":Str))=false:=by decide):wpAny (model X.prog X.w) X.A (eval (.Name x pos) X.env) Q E s:=by
 obtain⟨mb,h1,h2⟩:=I.mod.blt
 exact Calls.Name_function_global I.ok.kind hg (Calls.loadGlobal_builtin (by rw [I.ok.glob];exact I.mod.glob.keeps I.bk) hm (by rw [I.ok.blt];exact h1.keeps I.bk) ((h2 x hn).trans hv) h) hd
theorem br{x:Str}{v:V}{u:Value}{pos:Pos}(hg:Gl X x)(hm:X.mg x=some u)(r:RelV v u)(hd:(x == ("__debug__":Str))=false:=by decide):PE X (.Name x pos) (tC v):=
 λ_ _ _ H _ I h=>iI I hg hm ⟨v,H,I,r,h⟩ hd
theorem Cw{x:Str}{v:V}{u:Value}{pos:Pos}(hg:Gl X x)(hm:X.mg x=none)(hv:bootBuiltins x=some u)(r:RelV v u)(hn:x≠"__name__":=by decide)(hd:(x == ("__debug__":Str))=false:=by decide):PE X (.Name x pos) (tC v):=
 λ_ _ _ H _ I h=>lC I hg hm hv ⟨v,H,I,r,h⟩ hn hd
variable {a b:Expr} {ta tb:TE} {pos:Pos}
def PC(X:Cx)(op:CmpOp)(a b:Expr)(t:TE):Prop:=
 ∀(pins:List (Addr×Obj)) (s:Shared) (σ:St) (H:Hp) (Q:VK),Inv X pins σ H s->t σ H Q ->
  wpAny (model X.prog X.w) X.A (eval a X.env) (λv s₁=>wpAny (model X.prog X.w) X.A (eval b X.env) (λu s₂=>wpAny (model X.prog X.w) X.A (compareOp op v u) (EP X pins σ Q) X.xe s₂) X.xe s₁) X.xe s
def tB(t:TE):TT:=λσ H Q=>t σ H λx H1=>∃c,x=.bl c/\Q c H1
theorem FO{op:CmpOp}{t:TE}(h:PC X op a b t)(h1:behindInMarks op b=false:=by first|exact zS _ (by decide) (by decide)|rfl):PE X (.Compare a [op] [b] pos) t:=λpins s σ H Q I hw=>wpAny_Compare1 (h pins s σ H Q I hw) h1
theorem FP{op:CmpOp}{t:TE}(h:PC X op a b t)(h1:behindInMarks op b=false:=by first|exact zS _ (by decide) (by decide)|rfl):PT X (.Compare a [op] [b] pos) (tB t):=by
 intro pins s σ H Q I hw
 refine wpAny_isTrue_Compare1 (cI (h pins s σ H _ I hw) λv s1 h1=>cI h1 λu s2 h2=>cI h2 λc s3 ⟨x,H1,I1,r1,q1⟩=>?_) h1
 obtain⟨d,rfl,q⟩:=q1
 cases r1
 exact wpAny_truthy_bool ⟨H1,I1,q⟩
theorem bf{e:Expr}{t:TE}(h:PE X e t)(he:∀whole,isTrue e X.env whole=(do let v <-whole;standAt e.pos;holding [v] (truthy v)):=by intro _;rfl):PT X e (tB t):=by
 intro pins s σ H Q I hw
 refine isTrue_plain (cI (h pins s σ H _ I hw) λv s1 ⟨x,H1,I1,r1,q1⟩=>?_) (he _)
 obtain⟨d,rfl,q⟩:=q1
 cases r1
 exact wpAny_truthy_bool ⟨H1,I1,q⟩
variable {tA Jk:TT} {rest:List Expr}
def Nh(t u:TT):TT:=λσ H Q=>t σ H λc H1=>if c=true then u σ H1 Q else Q false H1
def TM(t u:TT):TT:=λσ H Q=>t σ H λc H1=>if c=true then Q true H1 else u σ H1 Q
def Ni(t:TT):TT:=λσ H Q=>t σ H λc H1=>Q (!c) H1
theorem kz(ha:PT X a tA):PW X (.BoolOp .And [a] pos) tA:=by
 intro wh pins s σ H Q I h
 refine isTrue_and (cI (ha pins s σ H Q I h) λc s1 e=>?_)
 cases c with
 |true=>exact isTrue_and_nil e
 |false=>exact e
theorem dG(ha:PT X a tA):PW X (.BoolOp .Or [a] pos) tA:=by
 intro wh pins s σ H Q I h
 refine isTrue_or (cI (ha pins s σ H Q I h) λc s1 e=>?_)
 cases c with
 |false=>exact isTrue_or_nil e
 |true=>exact e
theorem nA(ha:PT X a tA)(hb:PW X (.BoolOp .And (b::rest) pos) Jk):PW X (.BoolOp .And (a::b::rest) pos) (Nh tA Jk):=by
 intro wh pins s σ H Q I h
 refine isTrue_and (cI (ha pins s σ H _ I h) λc s1 ⟨H1,I1,q1⟩=>?_)
 cases c with
 |true=>exact hb wh pins s1 σ H1 Q I1 q1
 |false=>exact⟨H1,I1,q1⟩
theorem dX(ha:PT X a tA)(hb:PW X (.BoolOp .Or (b::rest) pos) Jk):PW X (.BoolOp .Or (a::b::rest) pos) (TM tA Jk):=by
 intro wh pins s σ H Q I h
 refine isTrue_or (cI (ha pins s σ H _ I h) λc s1 ⟨H1,I1,q1⟩=>?_)
 cases c with
 |true=>exact⟨H1,I1,q1⟩
 |false=>exact hb wh pins s1 σ H1 Q I1 q1
theorem bh(ha:PT X a tA):PT X (.UnaryOp .Not a pos) (Ni tA):=by
 intro pins s σ H Q I h
 exact isTrue_not (ha pins s σ H (λc H1=>Q (!c) H1) I h)
def Jl(ta tb:TE):TE:=λσ H Q=>ta σ H λx H1=>∃c,x=.bl c/\if c=true then tb σ H1 Q else Q (.bl false) H1
def Nj(ta tb:TE):TE:=λσ H Q=>ta σ H λx H1=>∃c,x=.bl c/\if c=true then Q (.bl true) H1 else tb σ H1 Q
def Jm(ta:TE):TE:=λσ H Q=>ta σ H λx H1=>∃c,x=.bl c/\Q (.bl (!c)) H1
theorem di{op}{t:TE}(h:PE X a t):PE X (.BoolOp op [a] pos) t:=λpins s σ H Q I hw=>BoolOp_one (h pins s σ H Q I hw)
theorem cF(ha:PE X a ta)(hb:PE X (.BoolOp .And (b::rest) pos) tb):PE X (.BoolOp .And (a::b::rest) pos) (Jl ta tb):=by
 intro pins s σ H Q I h
 refine BoolOp_and (cI (ha pins s σ H _ I h) λv s1 ⟨x,H1,I1,r1,q1⟩=>?_)
 obtain⟨c,rfl,q1⟩:=q1
 cases r1
 refine wpAny_truthy_bool ?_
 cases c with
 |true=>exact hb pins s1 σ H1 Q I1 q1
 |false=>exact⟨.bl false,H1,I1,rfl,q1⟩
theorem EJ(ha:PE X a ta)(hb:PE X (.BoolOp .Or (b::rest) pos) tb):PE X (.BoolOp .Or (a::b::rest) pos) (Nj ta tb):=by
 intro pins s σ H Q I h
 refine BoolOp_or (cI (ha pins s σ H _ I h) λv s1 ⟨x,H1,I1,r1,q1⟩=>?_)
 obtain⟨c,rfl,q1⟩:=q1
 cases r1
 refine wpAny_truthy_bool ?_
 cases c with
 |false=>exact hb pins s1 σ H1 Q I1 q1
 |true=>exact⟨.bl true,H1,I1,rfl,q1⟩
theorem FQ(ha:PE X a ta):PE X (.UnaryOp .Not a pos) (Jm ta):=by
 intro pins s σ H Q I h
 refine UnaryOp_ (cI (ha pins s σ H _ I h) λv s1 ⟨x,H1,I1,r1,q1⟩=>?_)
 obtain⟨c,rfl,q1⟩:=q1
 cases r1
 exact not_of (wpAny_truthy_bool ⟨.bl (!c),H1,I1,rfl,q1⟩)
end
def bX(K:PySem.W.Frag)(H:Hp)(a:Addr)(xs:List V):Prop:=
 Rd H a (.lst xs) \/
  ∃(o:Obj) (its:Array Value) (n:Nat),K.lookup a=some o/\o.cls=.type "list"/\o.dict=none/\o.data=.seq its n/\its.size<=sizeLine/\Vals xs its.toList
def aR(K:PySem.W.Frag)(H:Hp)(a:Addr)(xs:List V):Prop:=
 Rd H a (.tup xs) \/
  ∃(o:Obj) (its:Array Value) (n:Nat),K.lookup a=some o/\o.cls=.type "tuple"/\o.data=.seq its n/\its.size<=sizeLine/\Vals xs its.toList
def Nk:Value->Option V
 |.none=>some .eh
 |.bool b=>some (.bl b)
 |.int i _=>some (.int i)
 |.str x _=>some (.str x)
 |.bytes b _=>some (.wx b)
 |.float b _=>some (.Cq b)
 |.ref a=>some (.ref a)
 |.type n=>some (.ty n)
 |_=>none
theorem RelV.abs{x:V}{u:Value}(r:RelV x u):Nk u=some x:=by
 cases x with
 |eh=>cases r;rfl
 |bl _=>cases r;rfl
 |int _=>obtain⟨t,rfl⟩:=r;rfl
 |str _=>obtain⟨t,rfl⟩:=r;rfl
 |wx _=>obtain⟨t,rfl⟩:=r;rfl
 |Cq _=>obtain⟨t,rfl⟩:=r;rfl
 |ref _=>cases r;rfl
 |ty _=>cases r;rfl
theorem RelV.inj{x y:V}{u:Value}(r:RelV x u)(q:RelV y u):x=y:=Option.some.inj (r.abs.symm.trans q.abs)
theorem Vals.inj:∀{xs ys:List V} {us:List Value},Vals xs us->Vals ys us->xs=ys
 |_,_,_,.nil,.nil=>rfl
 |_,_,_,.cons r t,.cons r' t'=>by rw [r.inj r',Vals.inj t t']
section
variable {X:Cx} {pins:List (Addr×Obj)} {σ:St} {H:Hp} {s:Shared} {a:Addr} {xs ys:List V}
theorem bX.of{K:PySem.W.Frag}(h:H a=some (.lst xs)):bX K H a xs:=.inl (.inl h)
theorem aR.of{K:PySem.W.Frag}(h:H a=some (.tup xs)):aR K H a xs:=.inl (.inl h)
theorem Inv.list(I:Inv X pins σ H s)(h:bX X.K H a xs):∃its:List Value,Vals xs its/\PlainL s.heap a its.toArray/\xs.length<=sizeLine:=by
 rcases h with h|⟨o,its,n,hk,hc,hd,hs,hz,r⟩
 ·obtain⟨z,its,n,r,e⟩:=h.ok I.cw
  exact⟨its,r,⟨_,n,e,rfl,rfl,rfl⟩,z⟩
 ·refine⟨its.toList,r,⟨o,n,I.kx a o hk,hc,hd,by simpa using hs⟩,?_⟩
  have e:=r.length
  simp only [Array.length_toList] at e
  omega
theorem Inv.tuple(I:Inv X pins σ H s)(h:aR X.K H a xs):∃its:List Value,Vals xs its/\IsTup s.heap a its.toArray/\xs.length<=sizeLine:=by
 rcases h with h|⟨o,its,n,hk,hc,hs,hz,r⟩
 ·obtain⟨z,its,r,p⟩:=h.ok I.cw
  exact⟨its,r,p,z⟩
 ·refine⟨its.toList,r,⟨o,I.kx a o hk,hc,n,by simpa using hs⟩,?_⟩
  have e:=r.length
  simp only [Array.length_toList] at e
  omega
theorem Inv.zT(I:Inv X pins σ H s)(h:bX X.K H a xs)(h':bX X.K H a ys):xs=ys:=by
 obtain⟨its,r,⟨o,n,e,_,_,d⟩,_⟩:=I.list h
 obtain⟨its',r',⟨o',n',e',_,_,d'⟩,_⟩:=I.list h'
 rw [e] at e';cases e'
 rw [d] at d'
 injection d' with d1 _
 have:its=its':=by simpa using congrArg Array.toList d1
 subst this
 exact r.inj r'
theorem Inv.ip(I:Inv X pins σ H s)(h:aR X.K H a xs)(h':aR X.K H a ys):xs=ys:=by
 obtain⟨its,r,⟨o,e,_,n,d⟩,_⟩:=I.tuple h
 obtain⟨its',r',⟨o',e',_,n',d'⟩,_⟩:=I.tuple h'
 rw [e] at e';cases e'
 rw [d] at d'
 injection d' with d1 _
 have:its=its':=by simpa using congrArg Array.toList d1
 subst this
 exact r.inj r'
end
abbrev Cx.oQ (X:Cx) (E:Value->Shared->Prop):Cx:={X with xe:=E}
abbrev Cx.EK (X:Cx):Cx:=X.oQ λ_ _=>False
theorem Cx.Ok.oQ{X:Cx}(ok:X.Ok)(E:Value->Shared->Prop):(X.oQ E).Ok:=
 ⟨ok.mod,ok.kind,ok.glob,ok.blt,ok.above,ok.inj,ok.has,ok.EE,ok.hd,ok.frames,ok.FK,ok.Cb,ok.bs,ok.wy,ok.qg,ok.rK,ok.ib,ok.zR⟩
theorem Cx.Ok.jh{X:Cx}{E:Value->Shared->Prop}(ok:(X.oQ E).Ok):X.Ok:=
 ⟨ok.mod,ok.kind,ok.glob,ok.blt,ok.above,ok.inj,ok.has,ok.EE,ok.hd,ok.frames,ok.FK,ok.Cb,ok.bs,ok.wy,ok.qg,ok.rK,ok.ib,ok.zR⟩
section
variable {X:Cx} {pins:List (Addr×Obj)} {σ:St} {H:Hp} {s:Shared} {E:Value->Shared->Prop}
theorem Inv.oQ(I:Inv X pins σ H s)(E:Value->Shared->Prop):Inv (X.oQ E) pins σ H s:=⟨I.ok.oQ E,I.os,I.bare,I.base,I.loc,I.cell,I.free,I.gs,I.pin,I.cw,I.len⟩
theorem Inv.jh(I:Inv (X.oQ E) pins σ H s):Inv X pins σ H s:=⟨I.ok.jh,I.os,I.bare,I.base,I.loc,I.cell,I.free,I.gs,I.pin,I.cw,I.len⟩
theorem SP.jh{D:Ends}{f:Flow}{s':Shared}(h:SP (X.oQ E) pins D f s'):SP X pins D f s':=by
 cases f with
 |next=>obtain⟨σ',H',I,q⟩:=h;exact⟨σ',H',I.jh,q⟩
 |brk=>obtain⟨σ',H',I,q⟩:=h;exact⟨σ',H',I.jh,q⟩
 |cont=>obtain⟨σ',H',I,q⟩:=h;exact⟨σ',H',I.jh,q⟩
 |ret u=>obtain⟨v,σ',H',I,r,q⟩:=h;exact⟨v,σ',H',I.jh,r,q⟩
theorem gi.EK{st:List Stmt}{t:TS}(h:gi X.EK st t):gi X st t:=λpins s σ H D I hw=>
 wpAny_mono (h pins s σ H D (I.oQ _) hw) (λ_ _ q=>q.jh) λ_ _ z=>False.elim z
end
section
variable {X:Cx} {st:Stmt} {rest:List Stmt} {t u:TS} {e:Expr} {te:TE} {pos:Pos}
def Jn:TS:=λD σ H=>D.nx σ H
def fX(t u:TS):TS:=λD σ H=>t {D with nx:=u D} σ H
theorem aI:gi X [] Jn:=λ_ _ σ H _ I h=>wpAny_execs_nil ⟨σ,H,I,h⟩
theorem ai(h1:PS X st t)(h2:gi X rest u):gi X (st::rest) (fX t u):=by
 intro pins s σ H D I h
 refine wpAny_execs_cons (cI (h1 pins s σ H {D with nx:=u D} I h) λf s1 q=>?_)
 cases f with
 |next=>
  obtain⟨σ',H',I',q⟩:=q
  exact h2 pins s1 σ' H' D I' q
 |ret v=>exact q
 |brk=>exact q
 |cont=>exact q
theorem aj(h1:PS X st t):gi X [st] t:=by
 intro pins s σ H D I h
 refine wpAny_execs_cons (cI (h1 pins s σ H D I h) λf s1 q=>?_)
 cases f with
 |next=>exact wpAny_execs_nil q
 |ret v=>exact q
 |brk=>exact q
 |cont=>exact q
theorem Inv.quiet{pins:List (Addr×Obj)}{σ:St}{H:Hp}{s:Shared}(I:Inv X pins σ H s):interactive X.env=false:=by simp [interactive,I.ok.kind]
def EL(te:TE):TS:=λD σ H=>te σ H λ_ H1=>D.nx σ H1
theorem eI(he:PE X e te)(hs:swapsWith e none pos.line X.env=pure false:=by rfl):PS X (.Expr e pos) (EL te):=by
 intro pins s σ H D I h
 exact wpAny_Expr_any (cI (he pins s σ H _ I h) λv s1 ⟨x,H1,I1,r1,q1⟩=>⟨σ,H1,I1,q1⟩) I.quiet hs
def FR(te:TE):TS:=λD σ H=>te σ H D.rt
theorem aC(he:PE X e te):PS X (.Return (some e) pos) (FR te):=by
 intro pins s σ H D I h
 exact wpAny_Return_some (cI (he pins s σ H _ I h) λv s1 ⟨x,H1,I1,r1,q1⟩=>⟨x,σ,H1,I1,r1,q1⟩)
def Nl(c:TT)(t u:TS):TS:=λD σ H=>c σ H λb H1=>if b=true then t D σ H1 else u D σ H1
theorem aX{c:Expr}{a b:List Stmt}{tc:TT}(hc:PT X c tc)(ha:gi X a t)(hb:gi X b u):PS X (.If c a b pos) (Nl tc t u):=by
 intro pins s σ H D I h
 refine wpAny_If (cI (hc pins s σ H _ I h) λd s1 ⟨H1,I1,q1⟩=>?_)
 cases d with
 |true=>exact ha pins s1 σ H1 D I1 q1
 |false=>exact hb pins s1 σ H1 D I1 q1
end
abbrev TG:=V->St->Hp->(St->Hp->Prop)->Prop
abbrev FT:=List V->St->Hp->(St->Hp->Prop)->Prop
def PG(X:Cx)(target:Expr)(t:TG):Prop:=
 ∀(pins:List (Addr×Obj)) (s:Shared) (σ:St) (H:Hp) (v:V) (u:Value) (Q:St->Hp->Prop),Inv X pins σ H s->RelV v u->t v σ H Q ->
  wpAny (model X.prog X.w) X.A (assign target X.env u) (λ_ s'=>∃σ' H',Inv X pins σ' H' s'/\Q σ' H') X.xe s
def ja(X:Cx)(ts:List Expr)(t:FT):Prop:=
 ∀(pins:List (Addr×Obj)) (s:Shared) (σ:St) (H:Hp) (vs:List V) (us:List Value) (Q:St->Hp->Prop),Inv X pins σ H s->Vals vs us->t vs σ H Q ->
  wpAny (model X.prog X.w) X.A (assignInOrder ((assignEach ts X.env).map (·.2)) us) (λ_ s'=>∃σ' H',Inv X pins σ' H' s'/\Q σ' H') X.xe s
abbrev FU:=V->V->V->Hp->(Hp->Prop)->Prop
def eU(X:Cx)(t:FU):Prop:=
 ∀(pins:List (Addr×Obj)) (s:Shared) (σ:St) (H:Hp) (o i v:V) (ov iv u:Value) (Q:Hp->Prop),Inv X pins σ H s->RelV o ov->RelV i iv->RelV v u->t o i v H Q ->
  wpAny (model X.prog X.w) X.A (setItem ov iv u) (λ_ s'=>∃H',Inv X pins σ H' s'/\Q H') X.xe s
section
variable {X:Cx} {pos:Pos}
def fK(i:Nat):TG:=λv σ H Q=>Q (σ.set i (some v)) H
theorem aM{i:Nat}{x:Str}(hN:X.N.Nodup)(hi:X.N[i]?=some x)(hx:Loc X.env.scope x)(hf:X.fn x=true\/X.env.scope.names.lookup x=some .local:=by first|exact .inl rfl|exact .inr rfl|assumption):PG X (.Name x pos) (fK i):=by
 intro pins s σ H v u Q I r h
 exact wpAny_assign_Name (ny I hN hi hx r (λs' I'=>⟨_,H,I',h⟩) hf)
def zU:FT:=λvs σ H Q=>vs = []/\Q σ H
def kA(t:TG)(u:FT):FT:=λvs σ H Q=>∃v r,vs=v::r/\t v σ H λσ' H'=>u r σ' H' Q
theorem gK:ja X [] zU:=by
 intro pins s σ H vs us Q I r h
 obtain⟨e,h⟩:=h
 subst e
 cases r
 exact assignInOrder_nil ⟨σ,H,I,h⟩
theorem bF{e:Expr}{es:List Expr}{t:TG}{u:FT}(h1:PG X e t)(h2:ja X es u)
  (hs:(assignEach (e::es) X.env).map (·.2)=assign e X.env::(assignEach es X.env).map (·.2):=by rfl):ja X (e::es) (kA t u):=by
 intro pins s σ H vs us Q I r h
 obtain⟨v,vr,e1,h⟩:=h
 subst e1
 cases r with
 |cons r rr=>
  rw [hs]
  refine assignInOrder_cons (cI (h1 pins s σ H _ _ _ I r h) λ_ s1 ⟨σ1,H1,I1,q1⟩=>?_)
  exact h2 pins s1 σ1 H1 _ _ Q I1 rr q1
def zV(K:PySem.W.Frag)(n:Nat)(t:FT):TG:=λv σ H Q=>∃a xs,v=.ref a/\aR K H a xs/\xs.length=n/\t xs σ H Q
theorem iJ{es:List Expr}{k:Nat}{t:FT}{n:Nat}(hc:X.calm=true)(h:ja X es t)
  (hn:(assignEach es X.env).length=n:=by rfl) (LV:(assignEach es X.env).findIdx? (·.1)=none:=by rfl):PG X (.Tuple es k pos) (zV X.K n t):=by
 intro pins s σ H v u Q I r hw
 obtain⟨a,xs,e1,hq,hl,hw⟩:=hw
 subst e1
 cases r
 obtain⟨its,rv,ht,hz⟩:=I.tuple hq
 refine assign_Tuple_tuple (I.ok.hd hc) ht (by simp [hn,<-hl,rv.length]) LV λh' hx=>?_
 have I1:Inv X pins σ H {s with heap:=h'}:=I.kept (t':=s.toks) λb o e=>hx b o (Nat.ne_of_lt (Heap.lt_size e)) e
 exact h pins _ σ H xs _ Q I1 (by simpa using rv) hw
def Nm(to ti:TE)(t:FU):TG:=λv σ H Q=>to σ H λo H1=>ti σ H1 λi H2=>t o i v H2 λH3=>Q σ H3
theorem FV{o i:Expr}{to ti:TE}{t:FU}(ho:PE X o to)(hi:PE X i ti)(hs:eU X t)
  (ha:∀v,assign (.Subscript o i pos) X.env v=(do
   let ov <-holding [v] (eval o X.env)
   let iv <-holding [v,ov] (eval i X.env)
   standAt pos
   holding [v,ov,iv] (setItem ov iv v)
   release [v,ov,iv] []):=by intro _;rfl):PG X (.Subscript o i pos) (Nm to ti t):=by
 intro pins s σ H v u Q I r h
 rw [ha]
 refine wpAny_bind (wpAny_holding (cI (ho pins s σ H _ I h) λov s1 ⟨x,H1,I1,r1,q1⟩=>?_))
 refine wpAny_bind (wpAny_holding (cI (hi pins s1 σ H1 _ I1 q1) λiv s2 ⟨y,H2,I2,r2,q2⟩=>?_))
 refine wpAny_bind (wpAny_standAt (wpAny_bind (wpAny_holding (cI (hs pins s2 σ H2 x y v ov iv u _ I2 r1 r2 r q2) λ_ s3 ⟨H3,I3,q3⟩=>?_))))
 exact wpAny_release ⟨σ,H3,I3,q3⟩
def uo(te:TE)(g:TG):TS:=λD σ H=>te σ H λx H1=>g x σ H1 D.nx
theorem nC{tg e:Expr}{te:TE}{g:TG}(he:PE X e te)(hg:PG X tg g)(hs:swapsWithSole [tg] e pos.line X.env=pure false:=by rfl)(hw:swappedStores [tg] e X.env=pure none:=by rfl)
  (h1:(assignEach [tg] X.env).map (·.2) = [assign tg X.env]:=by rfl):PS X (.Assign [tg] e pos) (uo te g):=by
 intro pins s σ H D I h
 refine wpAny_Assign_stores (cI (he pins s σ H _ I h) λv s1 ⟨x,H1,I1,r1,q1⟩=>?_) hs hw
 rw [h1]
 exact cI (hg pins s1 σ H1 x v _ I1 r1 q1) λ_ s2 q=>q
theorem aS{i:Nat}{x:Str}{e:Expr}{te:TE}{pos':Pos}(hN:X.N.Nodup)(hi:X.N[i]?=some x)(hx:Loc X.env.scope x)(he:PE X e te)(hs:swapsWith e (some (.Name x pos')) pos.line X.env=pure false:=by rfl)(hf:X.fn x=true\/X.env.scope.names.lookup x=some .local:=by first|exact .inl rfl|exact .inr rfl|assumption) :
  PS X (.Assign [.Name x pos'] e pos) (uo te (fK i)):=by
 intro pins s σ H D I h
 refine wpAny_Assign_Name (cI (he pins s σ H _ I h) λv s1 ⟨y,H1,I1,r1,q1⟩=>?_) hs
 exact ny I1 hN hi hx r1 (λs2 I2=>⟨_,H1,I2,q1⟩) hf
end
section
variable {X:Cx} {pos:Pos}
end
structure It where
 go:Nat->Hp->Prop
 rM:Nat->Hp->V->Hp->Prop
 stop:Nat->Hp->Prop
def kB(X:Cx)(pins:List (Addr×Obj))(H:Hp)(b:Addr):Prop:=
 H b=none/\b≠X.env.locals/\b∉X.fs/\(b∈X.ex\/X.s₀.heap.objs.size<=b)/\(∀x c,X.env.cells.lookup x=some c->c≠b)/\∀p∈X.pn++pins,p.1≠b
theorem Inv.uq{X:Cx}{pins:List (Addr×Obj)}{σ:St}{H H':Hp}{s:Shared}{b:Addr}(I:Inv X pins σ H s)(hb:s.heap.objs.size<=b)(hn:H' b=none):kB X pins H' b:=by
 refine⟨hn,Nat.ne_of_gt (Nat.lt_of_lt_of_le I.lt hb),I.Nd hb,.inr (Nat.le_trans I.sz hb),λx c e z=>?_,λp hp z=>?_⟩
 ·obtain⟨v,q⟩:=I.cell x c e
  exact absurd (Nat.lt_of_lt_of_le q.lt (by rw [z];exact hb)) (Nat.lt_irrefl _)
 ·exact absurd (Nat.lt_of_lt_of_le (Heap.lt_size (I.pin p hp).1) (by rw [z];exact hb)) (Nat.lt_irrefl _)
structure Turn (P:Program) (w:World) (K:PySem.W.Frag) (tg:Expr) (J:It) (fp:List Addr) (it:Addr) (tn:Nat->Heap->Prop):Prop where
 mem:it∈fp
 obj:∀i h,tn i h->∀b∈fp,∃o,h.get? b=some o/\∀v,o.data≠.cell v
 keep:∀i h h',tn i h->(∀b∈fp,∀o,h.get? b=some o->h'.get? b=some o)->tn i h'
 item:∀(X:Cx),X.prog=P->X.w=w->X.K=K->X.calm=true->∀(i:Nat) (pins:List (Addr×Obj)) (s:Shared) (σ:St) (H:Hp) (E:Value->Shared->Prop),Inv X pins σ H s->(∀b∈fp,kB X pins H b)->tn i s.heap->J.go i H ->
  wpAny (model P w) X.A (pyNext (.ref it)) (λr s1=>∃u,r=some u /\
   wpAny (model P w) X.A (letOwnedTupleGo tg (.ref it) u) (λ_ s2=>∃x H',Inv X pins σ H' s2/\RelV x u/\J.rM i H x H'/\tn (i+1) s2.heap/\∀b∈fp,H' b=none) E s1) E s
 done:∀(X:Cx),X.prog=P->X.w=w->X.K=K->X.calm=true->∀(i:Nat) (pins:List (Addr×Obj)) (s:Shared) (σ:St) (H:Hp) (E:Value->Shared->Prop),Inv X pins σ H s->(∀b∈fp,kB X pins H b)->tn i s.heap->J.stop i H ->
  wpAny (model P w) X.A (pyNext (.ref it)) (λr s1=>r=none/\Inv X pins σ H s1) E s
 self:∀(A:Around) (i:Nat) (s:Shared) (Q:Value->Shared->Prop) (E:Value->Shared->Prop),tn i s.heap->Q (.ref it) s->wpAny (model P w) A (pyIter (.ref it)) Q E s
abbrev TI:=St->Hp->(It->Hp->Prop)->Prop
def RC(X:Cx)(pins:List (Addr×Obj))(σ:St)(tg:Expr)(R:It->Hp->Prop)(Nn:Value)(s2:Shared):Prop:=
 ∃(it:Addr) (fp:List Addr) (tn:Nat->Heap->Prop) (J:It) (H':Hp),Nn=.ref it/\Inv X pins σ H' s2/\Turn X.prog X.w X.K tg J fp it tn/\tn 0 s2.heap/\(∀b∈fp,kB X pins H' b)/\R J H'
def PI(X:Cx)(tg iter:Expr)(wi:TI):Prop:=
 ∀(pins:List (Addr×Obj)) (s:Shared) (σ:St) (H:Hp) (R:It->Hp->Prop),Inv X pins σ H s->wi σ H R ->
  wpAny (model X.prog X.w) X.A (eval iter X.env) (λv s1=>wpAny (model X.prog X.w) X.A (pyIter v) (RC X pins σ tg R) X.xe s1) X.xe s
theorem wA{M:Model}{A:Around}{E:Value->Shared->Prop}{s:Shared}{tg:Expr}{it:Addr}{u:Value}{o:Obj}{n:String}{vs:Array Value}{Q:Unit->Shared->Prop}(ho:s.heap.get? it=some o)(hc:o.cls=.type n)(hd:o.data=.fields vs)
    (hn : ["enumerate","zip","dict_itemiterator","dict_reverseitemiterator","odict_iterator","itertools.zip_longest","itertools.pairwise"].contains n=false) (hQ:Q () s):wpAny M A (letOwnedTupleGo tg (.ref it) u) Q E s:=by
  unfold letOwnedTupleGo
  cases tg<;>first
    | exact wpAny_pure hQ
    | (cases u<;>first
        | exact wpAny_pure hQ
        | (refine wpAny_bind (wpAny_load ho ?_)
           rw [hc,hd]
           show wpAny M A (if (["enumerate","zip","dict_itemiterator","dict_reverseitemiterator","odict_iterator","itertools.zip_longest","itertools.pairwise"].contains n&&vs[0]? == some (rawInt _))=true then _ else _) Q E s
           rw [if_neg (by intro h;rw [hn,Bool.false_and] at h;cases h)]
           exact wpAny_pure hQ))
def EM(K:PySem.W.Frag)(a:Addr):It:=
 ⟨λi H=>∃xs x,bX K H a xs/\xs[i]?=some x,λi H x H'=>H'=H/\∀xs,bX K H a xs->xs[i]?=some x,λi H=>∃xs,bX K H a xs/\xs.length<=i⟩
def wB(K:PySem.W.Frag)(a:Addr):It:=
 ⟨λi H=>∃xs x,aR K H a xs/\xs[i]?=some x,λi H x H'=>H'=H/\∀xs,aR K H a xs->xs[i]?=some x,λi H=>∃xs,aR K H a xs/\xs.length<=i⟩
def IB(lo:Int)(n:Nat):It:=⟨λi _=>i<n,λi H x H'=>H'=H/\x=.int (lo+i),λi _=>n<=i⟩
theorem yh{P:Program}{w:World}{K:PySem.W.Frag}{tg:Expr}(a it:Addr):Turn P w K tg (EM K a) [it] it (λi h=>h.IsListIter it a i) where
 mem:=by simp
 obj:=λi h st b hb=>by
  have e:b=it:=by simpa using hb
  subst e
  obtain⟨o,e,c,d⟩:=st
  exact⟨o,e,λv z=>by rw [d] at z;cases z⟩
 keep:=λi h h' st k=>st.at λo e=>k it (by simp) o e
 item:=by
  intro X hP hw hK hc i pins s σ H E I hf st hg
  subst hP hw hK
  obtain⟨xs,x,hq,hx⟩:=hg
  obtain⟨its,rv,p,hz⟩:=I.list hq
  obtain⟨u,hu,ru⟩:=rv.get hx
  obtain⟨f0,f1,f2,f3,f4,f5⟩:=hf it (by simp)
  refine wpAny_pyNext_list_item st p.isList (x:=u) (by simpa using hu) λh' ur sb=>?_
  have I1:Inv X pins σ H {s with heap:=h'}:=I.turned (t':=s.toks) (λb o hb e=>(sb.2 b hb).trans e) f0 f1 f3 f4 f5
  obtain⟨o,e,c,d⟩:=id ur
  exact⟨u,rfl,wA (s:={s with heap:=h'}) e c d (by decide) ⟨x,H,I1,ru,⟨rfl,λys hy=>by rw [I.zT hy hq];exact hx⟩,ur,λb hb=>(hf b hb).1⟩⟩
 done:=by
  intro X hP hw hK hc i pins s σ H E I hf st hg
  subst hP hw hK
  obtain⟨xs,hq,hx⟩:=hg
  obtain⟨its,rv,p,hz⟩:=I.list hq
  obtain⟨f0,f1,f2,f3,f4,f5⟩:=hf it (by simp)
  have hl:=rv.length
  exact wpAny_pyNext_list_end (I.ok.hd hc) st p.isList (by simp;omega) λh' eb=>⟨rfl,I.turned (t':=s.toks) (λb o hb e=>eb b o hb e) f0 f1 f3 f4 f5⟩
 self:=λ_ _ _ _ _ st h=>wpAny_pyIter_listiter st h
theorem uu{P:Program}{w:World}{K:PySem.W.Frag}{tg:Expr}(a it:Addr):Turn P w K tg (wB K a) [it] it (λi h=>h.IsTupleIter it a i) where
 mem:=by simp
 obj:=λi h st b hb=>by
  have e:b=it:=by simpa using hb
  subst e
  obtain⟨o,e,c,d⟩:=st
  exact⟨o,e,λv z=>by rw [d] at z;cases z⟩
 keep:=λi h h' st k=>st.at λo e=>k it (by simp) o e
 item:=by
  intro X hP hw hK hc i pins s σ H E I hf st hg
  subst hP hw hK
  obtain⟨xs,x,hq,hx⟩:=hg
  obtain⟨its,rv,p,hz⟩:=I.tuple hq
  obtain⟨u,hu,ru⟩:=rv.get hx
  obtain⟨f0,f1,f2,f3,f4,f5⟩:=hf it (by simp)
  refine wpAny_pyNext_tuple_item st (show s.heap.IsTuple a its.toArray from p) (x:=u) (by simpa using hu) λh' ur sb=>?_
  have I1:Inv X pins σ H {s with heap:=h'}:=I.turned (t':=s.toks) (λb o hb e=>(sb.2 b hb).trans e) f0 f1 f3 f4 f5
  obtain⟨o,e,c,d⟩:=id ur
  exact⟨u,rfl,wA (s:={s with heap:=h'}) e c d (by decide) ⟨x,H,I1,ru,⟨rfl,λys hy=>by rw [I.ip hy hq];exact hx⟩,ur,λb hb=>(hf b hb).1⟩⟩
 done:=by
  intro X hP hw hK hc i pins s σ H E I hf st hg
  subst hP hw hK
  obtain⟨xs,hq,hx⟩:=hg
  obtain⟨its,rv,p,hz⟩:=I.tuple hq
  obtain⟨f0,f1,f2,f3,f4,f5⟩:=hf it (by simp)
  have hl:=rv.length
  exact wpAny_pyNext_tuple_end (I.ok.hd hc) st (show s.heap.IsTuple a its.toArray from p) (by simp;omega) λh' eb=>⟨rfl,I.turned (t':=s.toks) (λb o hb e=>eb b o hb e) f0 f1 f3 f4 f5⟩
 self:=λ_ _ _ _ _ st h=>wpAny_pyIter_tupleiter st h
theorem uv{P:Program}{w:World}{K:PySem.W.Frag}{tg:Expr}(it:Addr)(lo:Int)(n:Nat):Turn P w K tg (IB lo n) [it] it (λi h=>IsRangeIter h it (lo+(i:Nat)*1) ((n:Int)-(i:Nat)) 1) where
 mem:=by simp
 obj:=λi h st b hb=>by
  have e:b=it:=by simpa using hb
  subst e
  exact⟨_,st,λv z=>by
   have z':Data.fields _=Data.cell v:=z
   cases z'⟩
 keep:=λi h h' st k=>k it (by simp) _ st
 item:=by
  intro X hP hw hK hc i pins s σ H E I hf st hg
  subst hP hw hK
  obtain⟨f0,f1,f2,f3,f4,f5⟩:=hf it (by simp)
  have W:=Walks.range (prog:=X.prog) (w:=X.w) (I.ok.hd hc) it lo 1 n
  refine W.item i s _ _ hg st λv h' tk hv ur kk=>?_
  obtain⟨t,rfl⟩:=hv
  have I1:Inv X pins σ H {s with heap:=h',toks:=tk}:=I.turned (λb o hb e=>kk b o (by simpa using hb) e) f0 f1 f3 f4 f5
  refine⟨_,rfl,wA (s:={s with heap:=h',toks:=tk}) (n:="range_iterator") ur rfl rfl (by decide) ⟨.int (lo+i),H,I1,⟨t,?_⟩,⟨rfl,rfl⟩,ur,λb hb=>(hf b hb).1⟩⟩
  rw [Int.mul_one]
 done:=by
  intro X hP hw hK hc i pins s σ H E I hf st hg
  subst hP hw hK
  obtain⟨f0,f1,f2,f3,f4,f5⟩:=hf it (by simp)
  exact wpAny_pyNext_range_end (I.ok.hd hc) st (by have:n<=i:=hg;omega) λh' eb=>⟨rfl,I.turned (t':=s.toks) (λb o hb e=>eb b o hb e) f0 f1 f3 f4 f5⟩
 self:=λ_ _ _ _ _ st h=>wpAny_pyIter_rangeiter st h
section
variable {X:Cx} {tg:Expr}
def Jo(K:PySem.W.Frag)(tl:TE):TI:=λσ H R=>tl σ H λx H1=>∃a,x=.ref a/\(∃xs,bX K H1 a xs)/\R (EM K a) H1
def Jp(K:PySem.W.Frag)(tl:TE):TI:=λσ H R=>tl σ H λx H1=>∃a,x=.ref a/\(∃xs,aR K H1 a xs)/\R (wB K a) H1
theorem kC{l:Expr}{tl:TE}(hl:PE X l tl):PI X tg l (Jo X.K tl):=by
 intro pins s σ H R I h
 refine cI (hl pins s σ H _ I h) λv s1 ⟨x,H1,I1,r1,q1⟩=>?_
 obtain⟨a,e,⟨xs,hq⟩,q⟩:=q1
 subst e
 cases r1
 obtain⟨its,rv,p,hz⟩:=I1.list hq
 refine wpAny_pyIter_list p.isList ?_
 refine⟨s1.heap.objs.size,[s1.heap.objs.size],_,_,H1,rfl,I1.kept (t':=s1.toks) λb o e=>Heap.get?_push_of_some _ e,yh a _,⟨_,Heap.get?_push_size _ rfl,rfl,rfl⟩,λb hb=>?_,q⟩
 have e:b=s1.heap.objs.size:=by simpa using hb
 subst e
 exact I1.uq (Nat.le_refl _) (I1.cw.fresh (Nat.le_refl _))
theorem cG{l:Expr}{tl:TE}(hl:PE X l tl):PI X tg l (Jp X.K tl):=by
 intro pins s σ H R I h
 refine cI (hl pins s σ H _ I h) λv s1 ⟨x,H1,I1,r1,q1⟩=>?_
 obtain⟨a,e,⟨xs,hq⟩,q⟩:=q1
 subst e
 cases r1
 obtain⟨its,rv,p,hz⟩:=I1.tuple hq
 refine wpAny_pyIter_tuple (show s1.heap.IsTuple a its.toArray from p) ?_
 refine⟨s1.heap.objs.size,[s1.heap.objs.size],_,_,H1,rfl,I1.kept (t':=s1.toks) λb o e=>Heap.get?_push_of_some _ e,uu a _,⟨_,Heap.get?_push_size _ rfl,rfl,rfl⟩,λb hb=>?_,q⟩
 have e:b=s1.heap.objs.size:=by simpa using hb
 subst e
 exact I1.uq (Nat.le_refl _) (I1.cw.fresh (Nat.le_refl _))
theorem zW{pins:List (Addr×Obj)}{σ:St}{H:Hp}{s:Shared}{R:It->Hp->Prop}{E:Value->Shared->Prop}{lo hi:Int}{t u v:Tok}{tk:Nat}(I:Inv X pins σ H s)(h1 : -(2 ^ 62)<=lo)(h2:lo<2 ^ 62)(h3 : -(2 ^ 62)<=hi)(h4:hi<2 ^ 62)
  (q:R (IB lo (hi-lo).toNat) H):wpAny (model X.prog X.w) X.A (pyIter (.ref s.heap.objs.size)) (RC X pins σ tg R) E {s with heap:=s.heap.push {cls:=.type "range",data:=.fields #[.int lo t,.int hi u,.int 1 v]},toks:=tk}:=by
 refine wpAny_pyIter_range (IsRange.new ..) (small_one h1 h2 h3 h4) ?_
 have I1:Inv X pins σ H {s with heap:=s.heap.push {cls:=.type "range",data:=.fields #[.int lo t,.int hi u,.int 1 v]},toks:=tk}:=I.kept λb o e=>Heap.get?_push_of_some _ e
 refine⟨(s.heap.push {cls:=.type "range",data:=.fields #[.int lo t,.int hi u,.int 1 v]}).objs.size,[(s.heap.push {cls:=.type "range",data:=.fields #[.int lo t,.int hi u,.int 1 v]}).objs.size],_,_,H,rfl,
  I1.kept (t':=tk) λb o e=>Heap.get?_push_of_some _ e,uv _ lo (hi-lo).toNat,?_,λb hb=>?_,q⟩
 ·have e1:lo+((0:Nat):Int)*1=lo:=by simp
  have e2:(((hi-lo).toNat:Nat):Int)-((0:Nat):Int)=Builtin.Range.rangeSize lo hi 1:=by rw [rangeSize_one];split<;>omega
  show IsRangeIter _ _ (lo+((0:Nat):Int)*1) ((((hi-lo).toNat:Nat):Int)-((0:Nat):Int)) 1
  rw [e1,e2]
  exact Heap.get?_push_size _ rfl
 ·have e:b=(s.heap.push {cls:=.type "range",data:=.fields #[.int lo t,.int hi u,.int 1 v]}).objs.size:=by simpa using hb
  subst e
  exact I1.uq (Nat.le_refl _) (I1.cw.fresh (Nat.le_refl _))
def Jq(ta:TA):TI:=λσ H R=>ta σ H λvs H1=>∃j:Int,vs = [.int j] /\ -(2 ^ 62)<=j/\j<2 ^ 62/\R (IB 0 j.toNat) H1
theorem iq{a:Expr}{ta:TA}{p pos:Pos}(hg:Gl X "range")(hm:X.mg "range"=none)(ha:PA X [a] ta)(hs:starEach [a] X.env = [(false,eval a X.env)]:=by rfl):PI X tg (.Call (.Name "range" p) [a] [] pos) (Jq ta):=by
 intro pins s σ H R I h
 refine Call_ (lC I hg hm boot_range (PyProof.Rows.callWith_type1 (cI (ha pos pins s σ H _ I h) λus s1 ⟨vs,H1,I1,r1,q1⟩=>?_) hs rfl))
 obtain⟨j,e,q1,q2,q⟩:=q1
 subst e
 cases r1 with
 |cons r rr=>
  cases rr
  obtain⟨t,rfl⟩:=r
  exact call_range_1 (zW I1 (by omega) (by omega) q1 q2 (by simpa using q))
def Jr(wi:TI)(g:TG)(tb:TS):TS:=λD σ H=>wi σ H λJ H1=>∃W:Nat->Nat->St->Hp->Prop,(∃m,W 0 m σ H1)/\∀i m σ H,W i m σ H ->
 (J.stop i H/\D.nx σ H)\/(J.go i H/\∃N:St->Hp->Prop,(∀σ' H',N σ' H'->∃m',m'<m/\W (i+1) m' σ' H')/\∀x H',J.rM i H x H'->g x σ H' λσ2 H2=>tb {D with nx:=N,ct:=N,bk:=D.nx} σ2 H2)
def j8(fp:List Addr)(h:Heap):List (Addr×Obj):=fp.filterMap λb=>(h.get? b).map λo=>(b,o)
theorem g4{fp:List Addr}{h:Heap}{b:Addr}{o:Obj}(hb:b∈fp)(e:h.get? b=some o):(b,o)∈j8 fp h:=List.mem_filterMap.mpr ⟨b,hb,by rw [e];rfl⟩
theorem yj{fp:List Addr}{h:Heap}{p:Addr×Obj}(hp:p∈j8 fp h):p.1∈fp/\h.get? p.1=some p.2:=by
 obtain⟨b,hb,e⟩:=List.mem_filterMap.mp hp
 cases q:h.get? b with
 |none=>rw [q] at e;cases e
 |some o=>
  rw [q] at e
  have e':(b,o)=p:=Option.some.inj e
  subst e'
  exact⟨hb,q⟩
theorem Inv.pinned{pins:List (Addr×Obj)}{σ:St}{H:Hp}{s:Shared}{fp:List Addr}(I:Inv X pins σ H s)(hf:∀b∈fp,kB X pins H b)(ho:∀b∈fp,∃o,s.heap.get? b=some o/\∀v,o.data≠.cell v):Inv X (pins++j8 fp s.heap) σ H s:=
 I.qi λp hp=>(List.mem_append.mp hp).elim (λz=>I.pin p (List.mem_append_right _ z)) λz=>by
  obtain⟨hb,e⟩:=yj z
  obtain⟨f0,f1,f2,_⟩:=hf p.1 hb
  obtain⟨o,e',d⟩:=ho p.1 hb
  rw [e] at e';cases e'
  exact⟨e,f0,f1,f2,d⟩
theorem Inv.gu{pins pl:List (Addr×Obj)}{σ:St}{H:Hp}{s:Shared}(I:Inv X (pins++pl) σ H s):Inv X pins σ H s:=I.qi λp hp=>I.pin p (List.mem_append_right _ (List.mem_append_left _ hp))
theorem dO{iter:Expr}{body:List Stmt}{wi:TI}{g:TG}{tb:TS}{pos:Pos}(hp:PassesOwn (model X.prog X.w) X.A X.env X.xe)(hc:X.calm=true)(hi:PI X tg iter wi)(hg:PG X tg g)(hb:gi X body tb)
  (hs:∀x,foldedSetIterable iter X.env x=pure x:=by intro _;rfl):PS X (.For tg iter body [] pos) (Jr wi g tb):=by
 intro pins s σ H D I h
 refine wpAny_For (cI (hi pins s σ H _ I h) λv s1 h1=>cI h1 λNn s2 h2=>?_) hs
 obtain⟨it,fp,tn,J,H2,e,I2,T,LW,f2,W,⟨m0,w0⟩,turn⟩:=h2
 subst e
 have uw:∀{H':Hp},(∀b∈fp,H' b=none)->∀b∈fp,kB X pins H' b:=λhn b hb=>⟨hn b hb,(f2 b hb).2⟩
 refine codeAny_forLoop_any (λn s'=>∃i σ' H',Inv X pins σ' H' s'/\tn i s'.heap/\(∀b∈fp,H' b=none)/\W i n σ' H') ?_ m0 ⟨0,σ,H2,I2,LW,λb hb=>(f2 b hb).1,w0⟩
 rintro n s3 ⟨i,σ3,H3,I3,Js,LX,w3⟩
 rcases turn i n σ3 H3 w3 with ⟨stop,qn⟩|⟨go,N,hN,step⟩
 ·refine wpAny_passesOwn hp (cI (T.done X rfl rfl rfl hc i pins s3 σ3 H3 X.xe I3 (uw LX) Js stop) λr s4 ⟨hr,I4⟩=>?_)
  subst hr
  exact wpAny_execs_nil ⟨σ3,H3,I4,qn⟩
 ·refine wpAny_passesOwn hp (cI (T.item X rfl rfl rfl hc i pins s3 σ3 H3 X.xe I3 (uw LX) Js go) λr s4 ⟨u,hr,h4⟩=>?_)
  subst hr
  refine wpAny_passesOwn hp (cI h4 λ_ s5 ⟨x,H5,I5,r5,y5,IC,LY⟩=>?_)
  have TN:=I5.pinned (uw LY) (T.obj _ _ IC)
  refine wpAny_passesOwn hp (cI (hg _ s5 σ3 H5 x u _ TN r5 (step x H5 y5)) λ_ s6 ⟨σ6,H6,I6,q6⟩=>?_)
  refine wpAny_passesOwn hp (cI (hb _ s6 σ6 H6 _ I6 q6) λf s7 q7=>?_)
  have again:∀{σ7:St} {H7:Hp},Inv X (pins++j8 fp s5.heap) σ7 H7 s7->N σ7 H7->∃m,m<n/\∃i σ' H',Inv X pins σ' H' s7/\tn i s7.heap/\(∀b∈fp,H' b=none)/\W i m σ' H':=λ{σ7 H7} I7 n7=>by
   obtain⟨m',hm,w7⟩:=hN σ7 H7 n7
   refine⟨m',hm,i+1,σ7,H7,I7.gu,T.keep _ _ _ IC λb hb o e=>(I7.pin (b,o) (List.mem_append_right _ (List.mem_append_right _ (g4 hb e)))).1,λb hb=>?_,w7⟩
   obtain⟨o,e,d⟩:=T.obj _ _ IC b hb
   exact (I7.pin (b,o) (List.mem_append_right _ (List.mem_append_right _ (g4 hb e)))).2.1
  cases f with
  |next=>obtain⟨σ7,H7,I7,n7⟩:=q7;exact again I7 n7
  |cont=>obtain⟨σ7,H7,I7,n7⟩:=q7;exact again I7 n7
  |brk=>obtain⟨σ7,H7,I7,q7⟩:=q7;exact⟨σ7,H7,I7.gu,q7⟩
  |ret v=>obtain⟨x7,σ7,H7,I7,r7,q7⟩:=q7;exact⟨x7,σ7,H7,I7.gu,r7,q7⟩
end
theorem rN{K:PySem.W.Frag}{a:Addr}{xs:List V}{g:TG}{tb:TS}{D:Ends}{σ:St}{H:Hp}(Pv:Nat->St->Hp->Prop)(h0:Pv 0 σ H)(hl:∀i σ H,i<=xs.length->Pv i σ H->bX K H a xs)
  (hs:∀i x σ H,xs[i]?=some x->Pv i σ H->g x σ H λσ2 H2=>tb {D with nx:=Pv (i+1),ct:=Pv (i+1),bk:=D.nx} σ2 H2) (hd:∀σ H,Pv xs.length σ H->D.nx σ H) :
  ∃W:Nat->Nat->St->Hp->Prop,(∃m,W 0 m σ H)/\∀i m σ H,W i m σ H ->
   ((EM K a).stop i H/\D.nx σ H)\/((EM K a).go i H/\∃N:St->Hp->Prop,(∀σ' H',N σ' H'->∃m',m'<m/\W (i+1) m' σ' H')/\∀x H',(EM K a).rM i H x H'->g x σ H' λσ2 H2=>tb {D with nx:=N,ct:=N,bk:=D.nx} σ2 H2):=by
 refine⟨λi m σ H=>m=xs.length-i/\i<=xs.length/\Pv i σ H,⟨xs.length,by simp,Nat.zero_le _,h0⟩,?_⟩
 rintro i m σ H ⟨rfl,hi,p⟩
 have q:=hl i σ H hi p
 by_cases eQ:i<xs.length
 ·refine .inr ⟨⟨xs,xs[i],q,by simp [eQ]⟩,Pv (i+1),λσ' H' p'=>⟨xs.length-(i+1),by omega,rfl,eQ,p'⟩,λx H' y=>?_⟩
  obtain⟨e,y⟩:=y
  subst e
  exact hs i x σ _ (y xs q) p
 ·have e:i=xs.length:=by omega
  subst e
  exact .inl ⟨⟨xs,q,Nat.le_refl _⟩,hd σ H p⟩
theorem fz{K:PySem.W.Frag}{a:Addr}{xs:List V}{g:TG}{tb:TS}{D:Ends}{σ:St}{H:Hp}(Pv:Nat->St->Hp->Prop)(h0:Pv 0 σ H)(hl:∀i σ H,i<=xs.length->Pv i σ H->aR K H a xs)
  (hs:∀i x σ H,xs[i]?=some x->Pv i σ H->g x σ H λσ2 H2=>tb {D with nx:=Pv (i+1),ct:=Pv (i+1),bk:=D.nx} σ2 H2) (hd:∀σ H,Pv xs.length σ H->D.nx σ H) :
  ∃W:Nat->Nat->St->Hp->Prop,(∃m,W 0 m σ H)/\∀i m σ H,W i m σ H ->
   ((wB K a).stop i H/\D.nx σ H)\/((wB K a).go i H/\∃N:St->Hp->Prop,(∀σ' H',N σ' H'->∃m',m'<m/\W (i+1) m' σ' H')/\∀x H',(wB K a).rM i H x H'->g x σ H' λσ2 H2=>tb {D with nx:=N,ct:=N,bk:=D.nx} σ2 H2):=by
 refine⟨λi m σ H=>m=xs.length-i/\i<=xs.length/\Pv i σ H,⟨xs.length,by simp,Nat.zero_le _,h0⟩,?_⟩
 rintro i m σ H ⟨rfl,hi,p⟩
 have q:=hl i σ H hi p
 by_cases eQ:i<xs.length
 ·refine .inr ⟨⟨xs,xs[i],q,by simp [eQ]⟩,Pv (i+1),λσ' H' p'=>⟨xs.length-(i+1),by omega,rfl,eQ,p'⟩,λx H' y=>?_⟩
  obtain⟨e,y⟩:=y
  subst e
  exact hs i x σ _ (y xs q) p
 ·have e:i=xs.length:=by omega
  subst e
  exact .inl ⟨⟨xs,q,Nat.le_refl _⟩,hd σ H p⟩
theorem ir{lo:Int}{n:Nat}{g:TG}{tb:TS}{D:Ends}{σ:St}{H:Hp}(Pv:Nat->St->Hp->Prop)(h0:Pv 0 σ H)
  (hs:∀i σ H,i<n->Pv i σ H->g (.int (lo+i)) σ H λσ2 H2=>tb {D with nx:=Pv (i+1),ct:=Pv (i+1),bk:=D.nx} σ2 H2) (hd:∀σ H,Pv n σ H->D.nx σ H) :
  ∃W:Nat->Nat->St->Hp->Prop,(∃m,W 0 m σ H)/\∀i m σ H,W i m σ H ->
   ((IB lo n).stop i H/\D.nx σ H)\/((IB lo n).go i H/\∃N:St->Hp->Prop,(∀σ' H',N σ' H'->∃m',m'<m/\W (i+1) m' σ' H')/\∀x H',(IB lo n).rM i H x H'->g x σ H' λσ2 H2=>tb {D with nx:=N,ct:=N,bk:=D.nx} σ2 H2):=by
 refine⟨λi m σ H=>m=n-i/\i<=n/\Pv i σ H,⟨n,by simp,Nat.zero_le _,h0⟩,?_⟩
 rintro i m σ H ⟨rfl,hi,p⟩
 by_cases eQ:i<n
 ·refine .inr ⟨eQ,Pv (i+1),λσ' H' p'=>⟨n-(i+1),by omega,rfl,eQ,p'⟩,λx H' y=>?_⟩
  obtain⟨e,y⟩:=y
  subst e y
  exact hs i σ _ eQ p
 ·have e:i=n:=by omega
  subst e
  exact .inl ⟨Nat.le_refl _,hd σ H p⟩
abbrev R2:=V->V->Hp->VK->Prop
def eJ(X:Cx)(f:Value->Value->Sem Value)(r:R2):Prop:=
 ∀(pins:List (Addr×Obj)) (s:Shared) (σ:St) (H:Hp) (x y:V) (v u:Value) (Q:VK),Inv X pins σ H s->RelV x v->RelV y u->r x y H Q ->
  wpAny (model X.prog X.w) X.A (f v u) (EP X pins σ Q) X.xe s
def je(X:Cx)(f:Value->Sem Value)(r:V->Hp->VK->Prop):Prop:=
 ∀(pins:List (Addr×Obj)) (s:Shared) (σ:St) (H:Hp) (x:V) (v:Value) (Q:VK),Inv X pins σ H s->RelV x v->r x H Q ->
  wpAny (model X.prog X.w) X.A (f v) (EP X pins σ Q) X.xe s
def bI(X:Cx)(f:Value)(r:List V->Hp->VK->Prop):Prop:=
 ∀(pins:List (Addr×Obj)) (s:Shared) (σ:St) (H:Hp) (xs:List V) (us:List Value) (Q:VK),Inv X pins σ H s->Vals xs us->r xs H Q ->
  wpAny (model X.prog X.w) X.A (call f us) (EP X pins σ Q) X.xe s
def iG(r:R2)(ta tb:TE):TE:=λσ H Q=>ta σ H λx H1=>tb σ H1 λy H2=>r x y H2 Q
def Np(r:V->Hp->VK->Prop)(ta:TE):TE:=λσ H Q=>ta σ H λx H1=>r x H1 Q
def rI(C:Int->Int->Prop)(g:Int->Int->V):R2:=λx y H Q=>∃i j,x=.int i/\y=.int j/\C i j/\Q (g i j) H
def Cy(g:Int->Int->V):R2:=λx y H Q=>∃i j,x=.int i/\y=.int j/\Q (g i j) H
def rU(g:Int->V):V->Hp->VK->Prop:=λx H Q=>∃i,x=.int i/\Q (g i) H
section
variable {X:Cx} {a b c:Expr} {ta tb tc:TE} {pos:Pos}
theorem FW(ha:PE X a ta)(hb:PE X b tb){pins:List (Addr×Obj)}{s:Shared}{σ:St}{H:Hp}{R:V->V->Hp->Prop}(I:Inv X pins σ H s)
  (h:ta σ H λx H1=>tb σ H1 λy H2=>R x y H2) {Q:Value->Shared->Prop} {f:Value->Value->Sem Value}
  (hf:∀v u s2 x y H2,Inv X pins σ H2 s2->RelV x v->RelV y u->R x y H2->wpAny (model X.prog X.w) X.A (f v u) Q X.xe s2) :
  wpAny (model X.prog X.w) X.A (eval a X.env) (λv s₁=>wpAny (model X.prog X.w) X.A (eval b X.env) (λu s₂=>wpAny (model X.prog X.w) X.A (f v u) Q X.xe s₂) X.xe s₁) X.xe s:=by
 refine cI (ha pins s σ H _ I h) λv s1 ⟨x,H1,I1,r1,q1⟩=>?_
 refine cI (hb pins s1 σ H1 _ I1 q1) λu s2 ⟨y,H2,I2,r2,q2⟩=>?_
 exact hf v u s2 x y H2 I2 r1 r2 q2
theorem aU{op:Operator}{r:R2}(ho:eJ X (binaryOp op) r)(ha:PE X a ta)(hb:PE X b tb):PE X (.BinOp a op b pos) (iG r ta tb):=by
 intro pins s σ H Q I h
 exact wpAny_BinOp (FW ha hb I h λv u s2 x y H2 I2 rx ry q=>ho pins s2 σ H2 x y v u Q I2 rx ry q)
theorem pk{op:UnaryOp}{r:V->Hp->VK->Prop}(ho:je X (unaryOp op) r)(ha:PE X a ta):PE X (.UnaryOp op a pos) (Np r ta):=by
 intro pins s σ H Q I h
 exact UnaryOp_ (cI (ha pins s σ H _ I h) λv s1 ⟨x,H1,I1,r1,q1⟩=>ho pins s1 σ H1 x v Q I1 r1 q1)
theorem Nq{f:Value->Value->Sem Value}{C:Int->Int->Prop}{g:Int->Int->Int}
  (rule:∀(i j:Int) (t u:Tok) (s:Shared) (Q:Value->Shared->Prop) (E:Value->Shared->Prop),C i j->Q (.int (g i j) s.toks) {s with toks:=s.toks+1}->wpAny (model X.prog X.w) X.A (f (.int i t) (.int j u)) Q E s) :
  eJ X f (rI C λi j=>.int (g i j)):=by
 intro pins s σ H x y v u Q I rx ry h
 obtain⟨i,j,rfl,rfl,hc,q⟩:=h
 obtain⟨t,rfl⟩:=rx
 obtain⟨t',rfl⟩:=ry
 exact rule i j t t' s _ _ hc ⟨.int (g i j),H,I.tok _,⟨_,rfl⟩,q⟩
theorem Jt{f:Value->Value->Sem Value}{g:Int->Int->Int}
  (rule:∀(i j:Int) (t u:Tok) (s:Shared) (Q:Value->Shared->Prop) (E:Value->Shared->Prop),Q (.int (g i j) s.toks) {s with toks:=s.toks+1}->wpAny (model X.prog X.w) X.A (f (.int i t) (.int j u)) Q E s) :
  eJ X f (Cy λi j=>.int (g i j)):=by
 intro pins s σ H x y v u Q I rx ry h
 obtain⟨i,j,rfl,rfl,q⟩:=h
 obtain⟨t,rfl⟩:=rx
 obtain⟨t',rfl⟩:=ry
 exact rule i j t t' s _ _ ⟨.int (g i j),H,I.tok _,⟨_,rfl⟩,q⟩
theorem FX{f:Value->Value->Sem Value}{g:Int->Int->Bool}
  (rule:∀(i j:Int) (t u:Tok) (s:Shared) (Q:Value->Shared->Prop) (E:Value->Shared->Prop),Q (.bool (g i j)) s->wpAny (model X.prog X.w) X.A (f (.int i t) (.int j u)) Q E s) :
  eJ X f (Cy λi j=>.bl (g i j)):=by
 intro pins s σ H x y v u Q I rx ry h
 obtain⟨i,j,rfl,rfl,q⟩:=h
 obtain⟨t,rfl⟩:=rx
 obtain⟨t',rfl⟩:=ry
 exact rule i j t t' s _ _ ⟨.bl (g i j),H,I,rfl,q⟩
def Nr(i j:Int):Prop:=0<j/\j<1073741824
def FY(i j:Int):Prop:=(-(2 ^ 64)<i/\i<2 ^ 64)\/(-(2 ^ 64)<j/\j<2 ^ 64)
theorem FY.ok{i j:Int}(h:FY i j):IntMulOk i j:=by
 rcases h with ⟨h1,h2⟩|⟨h1,h2⟩
 ·exact .of_left (intBits_le_64 h1 h2)
 ·exact .of_right (intBits_le_64 h1 h2)
theorem eW:eJ X (binaryOp .Add) (Cy λi j=>.int (i+j)):=Jt λ_ _ _ _ _ _ _ q=>add_int q
theorem lD:eJ X (binaryOp .Sub) (Cy λi j=>.int (i-j)):=Jt λ_ _ _ _ _ _ _ q=>sub_int q
theorem lE:eJ X (binaryOp .Mult) (rI FY λi j=>.int (i*j)):=Nq λ_ _ _ _ _ _ _ hc q=>mul_int q hc.ok
theorem Cz:eJ X (binaryOp .FloorDiv) (rI Nr λi j=>.int (i / j)):=Nq λi j _ _ _ _ _ hc q=>by
 have h1:(0:Int)<j:=hc.1
 have h2:j<1073741824:=hc.2
 exact floordiv_int (by omega) (by rw [Int.fdiv_eq_ediv_of_nonneg i (by omega)];exact q) (.inl (PyProof.noPylong_small (by omega)))
theorem j9:eJ X (binaryOp .Mod) (rI (λ_ j=>0<j) λi j=>.int (i%j)):=Nq λi j _ _ _ _ _ hc q=>by
 have h1:(0:Int)<j:=hc
 exact mod_int' (by omega) (by rw [Int.fmod_eq_emod_of_nonneg i (by omega)];exact q)
theorem TQ{f:Value->Sem Value}{g:Int->Int}
  (rule:∀(i:Int) (t:Tok) (s:Shared) (Q:Value->Shared->Prop) (E:Value->Shared->Prop),Q (.int (g i) s.toks) {s with toks:=s.toks+1}->wpAny (model X.prog X.w) X.A (f (.int i t)) Q E s) :
  je X f (rU λi=>.int (g i)):=by
 intro pins s σ H x v Q I rx h
 obtain⟨i,rfl,q⟩:=h
 obtain⟨t,rfl⟩:=rx
 exact rule i t s _ _ ⟨.int (g i),H,I.tok _,⟨_,rfl⟩,q⟩
theorem lF:je X (unaryOp .USub) (rU λi=>.int (-i)):=TQ λ_ _ _ _ _ q=>neg_int q
end
def Ju:V->V->Bool
 |.eh,.eh=>true|.eh,.int _=>true|.int _,.eh=>true|.eh,.bl _=>true|.bl _,.eh=>true|.eh,.str _=>true|.str _,.eh=>true
 |.int _,.int _=>true|.bl _,.bl _=>true|.str _,.str _=>true|.wx _,.wx _=>true
 |.int _,.str _=>true|.str _,.int _=>true|.bl _,.str _=>true|.str _,.bl _=>true
 |_,_=>false
def TR:R2:=λx y H Q=>Ju x y=true/\Q (.bl (decide (x=y))) H
def TU:R2:=λx y H Q=>Ju x y=true/\Q (.bl (!decide (x=y))) H
theorem wC{i j:Int}:decide (V.int i=V.int j)=(i == j):=by
 rw [Bool.eq_iff_iff]
 simp
theorem zX{i j:Bool}:decide (V.bl i=V.bl j)=(i == j):=by
 rw [Bool.eq_iff_iff]
 simp
theorem wD{i j:Str}:decide (V.str i=V.str j)=(i == j):=by
 rw [Bool.eq_iff_iff]
 simp
theorem wF{i j:Array UInt8}:decide (V.wx i=V.wx j)=(i.toList == j.toList):=by
 rw [Bool.eq_iff_iff]
 cases i
 cases j
 simp
section
variable {X:Cx} {a b c:Expr} {ta tb tc:TE} {pos:Pos}
theorem bY{pins:List (Addr×Obj)}{σ:St}{H:Hp}{s:Shared}{Q:VK}{k k':Bool}(I:Inv X pins σ H s)(q:Q (.bl k) H)(e:k=k'):EP X pins σ Q (.bool k') s:=by
 subst e
 exact⟨.bl k,H,I,rfl,q⟩
theorem cA:eJ X (compareOp .Eq) TR:=by
 intro pins s σ H x y v u Q I rx ry h
 obtain⟨hs,q⟩:=h
 cases x with
 |eh=>
  cases rx
  cases y with
  |eh=>cases ry;exact PySem.EqNone.eq_none_none (bY I q (by simp))
  |bl j=>cases ry;exact PySem.EqNone.eq_none_bool (bY I q (by simp))
  |int j=>obtain⟨t',rfl⟩:=ry;exact PySem.EqNone.eq_none_int (bY I q (by simp))
  |str j=>obtain⟨t',rfl⟩:=ry;exact PySem.EqNone.eq_none_str (bY I q (by simp))
  |_=>exact absurd (show false=true from hs) Bool.false_ne_true
 |bl i=>
  cases rx
  cases y with
  |eh=>cases ry;exact PySem.EqNone.eq_bool_none (bY I q (by simp))
  |bl j=>cases ry;exact eq_bool (bY I q zX)
  |str j=>obtain⟨t',rfl⟩:=ry;exact PySem.EqMixed.eq_bool_str (bY I q (by simp))
  |_=>exact absurd (show false=true from hs) Bool.false_ne_true
 |int i=>
  obtain⟨t,rfl⟩:=rx
  cases y with
  |eh=>cases ry;exact PySem.EqNone.eq_int_none (bY I q (by simp))
  |int j=>obtain⟨t',rfl⟩:=ry;exact eq_int (bY I q wC)
  |str j=>obtain⟨t',rfl⟩:=ry;exact PySem.EqMixed.eq_int_str (bY I q (by simp))
  |_=>exact absurd (show false=true from hs) Bool.false_ne_true
 |str i=>
  obtain⟨t,rfl⟩:=rx
  cases y with
  |eh=>cases ry;exact PySem.EqNone.eq_str_none (bY I q (by simp))
  |bl j=>cases ry;exact PySem.EqMixed.eq_str_bool (bY I q (by simp))
  |int j=>obtain⟨t',rfl⟩:=ry;exact PySem.EqMixed.eq_str_int (bY I q (by simp))
  |str j=>obtain⟨t',rfl⟩:=ry;exact eq_str (bY I q wD)
  |_=>exact absurd (show false=true from hs) Bool.false_ne_true
 |wx i=>
  obtain⟨t,rfl⟩:=rx
  cases y with
  |wx j=>obtain⟨t',rfl⟩:=ry;exact PySem.W.eq_bytes (bY I q wF)
  |_=>exact absurd (show false=true from hs) Bool.false_ne_true
 |_=>cases y<;>exact absurd (show false=true from hs) Bool.false_ne_true
theorem ji:eJ X (compareOp .NotEq) TU:=by
 intro pins s σ H x y v u Q I rx ry h
 obtain⟨hs,q⟩:=h
 cases x with
 |eh=>
  cases rx
  cases y with
  |eh=>cases ry;exact PySem.EqNone.ne_none_none (bY I q (by simp))
  |bl j=>cases ry;exact PySem.EqNone.ne_none_bool (bY I q (by simp))
  |int j=>obtain⟨t',rfl⟩:=ry;exact PySem.EqNone.ne_none_int (bY I q (by simp))
  |str j=>obtain⟨t',rfl⟩:=ry;exact PySem.EqNone.ne_none_str (bY I q (by simp))
  |_=>exact absurd (show false=true from hs) Bool.false_ne_true
 |bl i=>
  cases rx
  cases y with
  |eh=>cases ry;exact PySem.EqNone.ne_bool_none (bY I q (by simp))
  |bl j=>cases ry;exact ne_bool (bY I q (congrArg not zX))
  |str j=>obtain⟨t',rfl⟩:=ry;exact PySem.EqMixed.ne_bool_str (bY I q (by simp))
  |_=>exact absurd (show false=true from hs) Bool.false_ne_true
 |int i=>
  obtain⟨t,rfl⟩:=rx
  cases y with
  |eh=>cases ry;exact PySem.EqNone.ne_int_none (bY I q (by simp))
  |int j=>obtain⟨t',rfl⟩:=ry;exact ne_int (bY I q (congrArg not wC))
  |str j=>obtain⟨t',rfl⟩:=ry;exact PySem.EqMixed.ne_int_str (bY I q (by simp))
  |_=>exact absurd (show false=true from hs) Bool.false_ne_true
 |str i=>
  obtain⟨t,rfl⟩:=rx
  cases y with
  |eh=>cases ry;exact PySem.EqNone.ne_str_none (bY I q (by simp))
  |bl j=>cases ry;exact PySem.EqMixed.ne_str_bool (bY I q (by simp))
  |int j=>obtain⟨t',rfl⟩:=ry;exact PySem.EqMixed.ne_str_int (bY I q (by simp))
  |str j=>obtain⟨t',rfl⟩:=ry;exact ne_str (bY I q (congrArg not wD))
  |_=>exact absurd (show false=true from hs) Bool.false_ne_true
 |wx i=>
  obtain⟨t,rfl⟩:=rx
  cases y with
  |wx j=>obtain⟨t',rfl⟩:=ry;exact PySem.W.ne_bytes (bY I q (congrArg not wF))
  |_=>exact absurd (show false=true from hs) Bool.false_ne_true
 |_=>cases y<;>exact absurd (show false=true from hs) Bool.false_ne_true
theorem wG:eJ X (compareOp .Lt) (Cy λi j=>.bl (decide (i<j))):=FX λ_ _ _ _ _ _ _ q=>lt_int q
theorem lV:eJ X (compareOp .LtE) (Cy λi j=>.bl (decide (i<=j))):=FX λ_ _ _ _ _ _ _ q=>le_int q
theorem lW:eJ X (compareOp .Gt) (Cy λi j=>.bl (decide (j<i))):=FX λ_ _ _ _ _ _ _ q=>gt_int q
theorem zY:eJ X (compareOp .Is) (λx y H Q=>y=.eh/\Q (.bl (decide (x=.eh))) H):=by
 intro pins s σ H x y v u Q I rx ry h
 obtain⟨rfl,q⟩:=h
 cases ry
 refine is_none_gen (bY I q ?_)
 cases x<;>first
  |(cases rx;rfl)
  |(obtain⟨t,rfl⟩:=rx;rfl)
theorem qj:eJ X (compareOp .NotIn) (λx y H Q=>∃i j,x=.str i/\y=.str j/\Q (.bl (!(!(Builtin.Str.occurrences j i 0 j.length 1).isEmpty))) H):=by
 intro pins s σ H x y v u Q I rx ry h
 obtain⟨i,j,rfl,rfl,q⟩:=h
 obtain⟨t,rfl⟩:=rx
 obtain⟨t',rfl⟩:=ry
 exact notIn_str (bY I q rfl)
theorem eJ.or{f:Value->Value->Sem Value}{r r':R2}(h:eJ X f r)(h':eJ X f r'):eJ X f (λx y H Q=>r x y H Q\/r' x y H Q):=by
 intro pins s σ H x y v u Q I rx ry q
 rcases q with q|q
 ·exact h pins s σ H x y v u Q I rx ry q
 ·exact h' pins s σ H x y v u Q I rx ry q
theorem aP(b:Expr){op:CmpOp}(h:op≠.In:=by decide)(h2:op≠.NotIn:=by decide):behindInMarks op b=false:=by
 have e1:(op == CmpOp.In)=false:=by cases op<;>first|rfl|exact absurd rfl h
 have e2:(op == CmpOp.NotIn)=false:=by cases op<;>first|rfl|exact absurd rfl h2
 cases b<;>simp [behindInMarks,e1,e2]
theorem bT{op:CmpOp}{r:R2}(ho:eJ X (compareOp op) r)(ha:PE X a ta)(hb:PE X b tb)(hm:behindInMarks op b=false):PE X (.Compare a [op] [b] pos) (iG r ta tb):=by
 intro pins s σ H Q I h
 exact wpAny_Compare1 (FW ha hb I h λv u s2 x y H2 I2 rx ry q=>ho pins s2 σ H2 x y v u Q I2 rx ry q) hm
def EN(t:TE):TT:=λσ H Q=>t σ H λx H'=>∃k,x=.bl k/\Q k H'
theorem aQ{op:CmpOp}{r:R2}(ho:eJ X (compareOp op) r)(ha:PE X a ta)(hb:PE X b tb)(hm:behindInMarks op b=false):PT X (.Compare a [op] [b] pos) (EN (iG r ta tb)):=by
 intro pins s σ H Q I h
 refine wpAny_isTrue_Compare1 (cI (ha pins s σ H _ I h) λv s1 ⟨x,H1,I1,r1,q1⟩=>cI (hb pins s1 σ H1 _ I1 q1) λu s2 ⟨y,H2,I2,r2,q2⟩=>
  cI (ho pins s2 σ H2 x y v u _ I2 r1 r2 q2) λc s3 ⟨z,H3,I3,r3,k,e,q3⟩=>?_) hm
 subst e
 cases r3
 exact wpAny_truthy_bool ⟨H3,I3,q3⟩
def zZ(r r':R2)(ta tb tc:TE):TE:=λσ H Q=>ta σ H λx H1=>tb σ H1 λy H2=>r x y H2 λz H3=>∃k,z=.bl k /\
 (if k=true then tc σ H3 λw' H4=>r' y w' H4 Q else Q (.bl false) H3)
theorem kD{op FZ:CmpOp}{r r':R2}(ho:eJ X (compareOp op) r)(wz:eJ X (compareOp FZ) r')(ha:PE X a ta)(hb:PE X b tb)(hc:PE X c tc)
  (hm:lastMarks [op,FZ] [b,c]=false:=by with_unfolding_all rfl):PE X (.Compare a [op,FZ] [b,c] pos) (zZ r r' ta tb tc):=by
 intro pins s σ H Q I h
 refine Compare_chain (cI (ha pins s σ H _ I h) λv s1 ⟨x,H1,I1,r1,q1⟩=>chain_link (cI (hb pins s1 σ H1 _ I1 q1) λu s2 ⟨y,H2,I2,r2,q2⟩=>
  cI (ho pins s2 σ H2 x y v u _ I2 r1 r2 q2) λd s3 ⟨z,H3,I3,r3,k,e,q3⟩=>?_)) hm
 subst e
 cases r3
 refine wpAny_truthy_bool ?_
 cases k with
 |false=>exact ite_ff ⟨.bl false,H3,I3,rfl,q3⟩
 |true=>exact ite_tt (chain_last (cI (hc pins s3 σ H3 _ I3 q3) λw' s4 ⟨z',H4,I4,r4,q4⟩=>wz pins s4 σ H4 y z' u w' Q I4 r2 r4 q4))
theorem Aa{op FZ:CmpOp}{r r':R2}(ho:eJ X (compareOp op) r)(wz:eJ X (compareOp FZ) r')(ha:PE X a ta)(hb:PE X b tb)(hc:PE X c tc)
  (hm:lastMarks [op,FZ] [b,c]=false:=by with_unfolding_all rfl):PT X (.Compare a [op,FZ] [b,c] pos) (EN (zZ r r' ta tb tc)):=by
 intro pins s σ H Q I h
 refine isTrue_chain (cI (ha pins s σ H _ I h) λv s1 ⟨x,H1,I1,r1,q1⟩=>test_link (cI (hb pins s1 σ H1 _ I1 q1) λu s2 ⟨y,H2,I2,r2,q2⟩=>
  cI (ho pins s2 σ H2 x y v u _ I2 r1 r2 q2) λd s3 ⟨z,H3,I3,r3,k,e,q3⟩=>?_)) hm
 subst e
 cases r3
 refine wpAny_truthy_bool ?_
 cases k with
 |false=>
  obtain⟨k',e',q'⟩:=q3
  cases e'
  exact ite_ff ⟨H3,I3,q'⟩
 |true=>
  refine ite_tt (test_last (cI (hc pins s3 σ H3 _ I3 q3) λw' s4 ⟨z',H4,I4,r4,q4⟩=>cI (wz pins s4 σ H4 y z' u w' _ I4 r2 r4 q4) λd' s5 ⟨z2,H5,I5,r5,k2,e2,q5⟩=>?_))
  subst e2
  cases r5
  exact wpAny_truthy_bool ⟨H5,I5,q5⟩
theorem lG:(sizeLine:Nat)<2 ^ 63:=by rw [sizeLine_eq];decide
theorem ux:eJ X (binaryOp .Add) (λx y H Q=>∃i j,x=.str i/\y=.str j/\i.length+j.length<=sizeLine/\Q (.str (i++j)) H):=by
 intro pins s σ H x y v u Q I rx ry h
 obtain⟨i,j,rfl,rfl,hz,q⟩:=h
 obtain⟨t,rfl⟩:=rx
 obtain⟨t',rfl⟩:=ry
 exact add_str (λt' tk=>⟨.str (i++j),H,I.tok _,⟨_,rfl⟩,q⟩) hz
theorem vals1{x:V}{us:List Value}(r:Vals [x] us):∃u,us = [u]/\RelV x u:=by
 cases r with
 |cons r1 r2=>cases r2;exact⟨_,rfl,r1⟩
theorem pq:bI X (.type "int") (λxs H Q=>(∃i,xs = [.int i]/\Q (.int i) H)\/∃k,xs = [.bl k]/\Q (.int (if k then 1 else 0)) H):=by
 intro pins s σ H xs us Q I r h
 rcases h with ⟨i,rfl,q⟩|⟨k,rfl,q⟩
 ·obtain⟨u,rfl,t,rfl⟩:=vals1 r
  exact call_int_int ⟨.int i,H,I,⟨_,rfl⟩,q⟩
 ·obtain⟨u,rfl,r1⟩:=vals1 r
  cases r1
  exact call_int_bool ⟨.int (if k then 1 else 0),H,I.tok _,⟨_,rfl⟩,q⟩
end
structure yk (h:Heap) (x dx C:Addr) (mA:Str->Option Value):Prop where
 obj:h.get? x=some (PySem.W.instObj C dx)
 ns:h.Ns1 dx mA
 ne:dx≠x
theorem ym{h:Heap}{dx:Addr}{mA:Str->Option Value}(n:h.Ns1 dx mA):∃od,h.get? dx=some od/\∀name,PySem.W.lookIn name od=some (mA name):=by
 obtain⟨o,es,ep,ho,hd,hk,_,hm⟩:=n
 refine⟨o,ho,λname=>?_⟩
 have e:=hm name
 unfold nsFind findBy at e
 rw [<-Array.find?_toList] at e
 unfold PySem.W.lookIn
 rw [hd]
 dsimp only
 split
 ·rename_i y q
  rw [q] at e
  exact congrArg some e
 ·rename_i q
  rw [q] at e
  have a:es.toList.any (·.refKey)=false:=by
   rw [List.any_eq_false]
   intro y hy
   obtain⟨z,t,yn⟩:=hk y (Array.mem_toList_iff.mp hy)
   simp [DictEntry.refKey,yn]
  have a' : ¬es.toList.any (·.refKey)=true:=by rw [a];exact Bool.false_ne_true
  rw [if_neg a']
  exact congrArg some e
theorem yk.look{h:Heap}{x dx C:Addr}{mA:Str->Option Value}(I:yk h x dx C mA):∃od,PySem.W.InstAt h x (PySem.W.instObj C dx) C (some od)/\∀name,PySem.W.lookIn name od=some (mA name):=
 let ⟨od,ho,hl⟩:=ym I.ns
 ⟨od,⟨I.obj,rfl,rfl,ho⟩,hl⟩
section
variable {prog:Program} {w:World} {A:Around} {E:Value->Shared->Prop} {s:Shared} {K:PySem.W.Frag} {x dx C f:Addr} {mA:Str->Option Value} {name:Str} {v:Value}
theorem get_map{expr:Bool}{Q:Value->Shared->Prop}(X:K.In s.heap)(I:yk s.heap x dx C mA)(hg:PySem.W.plainGet K C name=true)(hh:PySem.W.hasDictIn K C=true)
  (ha:PySem.W.findIn K (.ref C) name=some none) (hv:mA name=some v) (Nt:PySem.W.handedIn v=true) (h:Q v {s with toks:=s.toks+1}) :
  wpAny (model prog w) A (getAttr (.ref x) name expr) Q E s:=by
 obtain⟨od,J,hl⟩:=I.look
 exact PySem.W.get_value X J (PySem.W.plainGet_of hg).1 (PySem.W.findObj_own hh ha rfl (by rw [hl,hv])) Nt h
theorem CA{ns:List Str}{Q:Unit->Shared->Prop}(X:K.In s.heap)(I:yk s.heap x dx C mA)
  (hs:PySem.W.findIn K (.ref C) "__setattr__"=some (some (.builtin "object.__setattr__"))) (hp:PySem.W.plainOver K C=true) (ht:PySem.W.takerIn K C name=some none) (hh:PySem.W.hasDictIn K C=true)
  (hw:PySem.Within mA ns) (hsz:ns.length<=sizeLine)
  (h:∀h',yk h' x dx C (λy=>if y=name then some v else mA y)->Heap.SameBut dx s.heap h'->Q () {s with heap:=h',toks:=s.toks+2}) :
  wpAny (model prog w) A (setAttr (.ref x) name v) Q E s:=by
 obtain⟨od,J,hl⟩:=I.look
 refine PySem.W.set_plain X J hs (PySem.W.osa_open (s:={s with toks:=s.toks+1}) (r:=none) X J hp ht λb=>?_)
 obtain⟨cd,hc,oK⟩:=PySem.W.any_some hh
 have hx:s.heap.get? x=some ⟨.ref C,some dx,.plain,#[]⟩:=I.obj
 refine wpAny_bind (wpAny_pure (wpAny_bind (wpAny_bind (wpAny_loadPart hx (wpAny_bind (PySem.W.Looks.here (s:={s with toks:=s.toks+1}) (PySem.W.looks_clsIn X hc) ?_))))))
 rw [oK]
 refine wpAny_pure (a:=some dx) (wpAny_bind (wpAny_pure (wpAny_bind ?_)))
 refine wpAny_nsSet1 (s:={s with toks:=s.toks+1}) I.ns λh' Ab Ac=>?_
 obtain⟨oD,Xn,Xo,TV,TX,TY⟩:=Ab.count (PySem.Within.cons name v hw)
 refine wpAny_bind (wpAny_lookBehind TV (by rw [TX];exact pastItsLine_dict (Nat.le_trans TY (by rw [List.length_cons];omega))) ?_)
 exact wpAny_pure (h _ ⟨(Ac.2 _ (Ne.symm I.ne)).trans I.obj,Ab,I.ne⟩ Ac)
theorem Ad{R:Result->Shared->Prop}{vs:List Value}{kw:List (Str×Value)}(X:K.In s.heap)(hm:PySem.W.makesIn K C=true)
  (hi:PySem.W.findIn K (.ref C) "__init__"=some (some (.ref f))) (hf:PySem.W.typeIn K (.ref f)=some (.type "function"))
  (h:codeAny (model prog w) (A.under (.builtin "type.__call__" ⟨.ref C::vs,kw⟩)) (.call (.ref f) ⟨.ref (s.heap.objs.size+1)::vs,kw⟩) (PySem.W.InitBack (s.heap.objs.size+1) R)
   {s with heap:=(s.heap.push PySem.W.emptyDict).push (PySem.W.instObj C s.heap.objs.size)}) :
  codeAny (model prog w) A (.call (.ref C) ⟨vs,kw⟩) R s:=by
 obtain⟨hh,g,d,t,os⟩:=s
 exact PySem.W.make_core (PySem.W.makes_of X hm) (PySem.W.looks_findIn X hi) (λself=>PySem.W.bind_fn X self hf) (.inl rfl) h
end
def jV(f:Str)(v:V):List (Str×V)->List (Str×V)
 | []=> [(f,v)]
 |(g,x)::r=>if g=f then (g,v)::r else (g,x)::jV f v r
theorem lX(f g:Str)(v:V):∀fs:List (Str×V),(jV f v fs).lookup g=if g=f then some v else fs.lookup g
 | []=>by
  show List.lookup g [(f,v)]=_
  by_cases h:g=f
  ·have hb:(g == f)=true:=beq_iff_eq.mpr h
   simp only [List.lookup,hb,if_pos h]
  ·have hb:(g == f)=false:=beq_eq_false_iff_ne.mpr h
   simp only [List.lookup,hb,if_neg h]
 |(k,x)::r=>by
  have ih:=lX f g v r
  rw [show jV f v ((k,x)::r)=(if k=f then (k,v)::r else (k,x)::jV f v r) from rfl]
  by_cases hk:k=f
  ·rw [if_pos hk]
   by_cases h:g=k
   ·have hb:(g == k)=true:=beq_iff_eq.mpr h
    simp only [List.lookup,hb,if_pos (h.trans hk)]
   ·have hb:(g == k)=false:=beq_eq_false_iff_ne.mpr h
    simp only [List.lookup,hb,if_neg (λe:g=f=>h (e.trans hk.symm))]
  ·rw [if_neg hk]
   by_cases h:g=k
   ·have hb:(g == k)=true:=beq_iff_eq.mpr h
    simp only [List.lookup,hb,if_neg (λe:g=f=>hk (h.symm.trans e))]
   ·have hb:(g == k)=false:=beq_eq_false_iff_ne.mpr h
    simp only [List.lookup,hb]
    exact ih
theorem lH(f:Str)(v:V):∀fs:List (Str×V),f∈(jV f v fs).map (·.1)/\∀g,g∈fs.map (·.1)->g∈(jV f v fs).map (·.1)
 | []=>⟨by simp [jV],λg h=>by simp at h⟩
 |(k,x)::r=>by
  obtain⟨i1,i2⟩:=lH f v r
  rw [show jV f v ((k,x)::r)=(if k=f then (k,v)::r else (k,x)::jV f v r) from rfl]
  by_cases hk:k=f
  ·rw [if_pos hk]
   subst hk
   exact⟨by simp,λg h=>by simpa using h⟩
  ·rw [if_neg hk]
   refine⟨?_,λg h=>?_⟩
   ·rw [List.map_cons]
    exact List.mem_cons_of_mem _ i1
   ·rw [List.map_cons] at h ⊢
    rcases List.mem_cons.mp h with e|e
    ·exact List.mem_cons.mpr (.inl e)
    ·exact List.mem_cons_of_mem _ (i2 g e)
theorem lY(f:Str)(v:V):∀fs:List (Str×V),(jV f v fs).length<=fs.length+1
 | []=>by simp [jV]
 |(k,x)::r=>by
  have ih:=lY f v r
  rw [show jV f v ((k,x)::r)=(if k=f then (k,v)::r else (k,x)::jV f v r) from rfl]
  by_cases hk:k=f
  ·rw [if_pos hk,List.length_cons,List.length_cons];omega
  ·rw [if_neg hk,List.length_cons,List.length_cons];omega
theorem lB.some_of{v:V}{o:Option Value}(r:lB (some v) o):∃u,o=some u/\RelV v u:=by
 cases o with
 |none=>exact (show False from r).elim
 |some u=>exact⟨u,rfl,r⟩
theorem yo{v:V}{u:Value}(r:RelV v u):PySem.W.handedIn u=true:=by
 cases v with
 |eh=>cases (show u=Value.none from r);rfl
 |bl b=>cases (show u=Value.bool b from r);rfl
 |int i=>obtain⟨t,e⟩:=(show ∃t,u=Value.int i t from r);cases e;rfl
 |str x=>obtain⟨t,e⟩:=(show ∃t,u=Value.str x t from r);cases e;rfl
 |wx b=>obtain⟨t,e⟩:=(show ∃t,u=Value.bytes b t from r);cases e;rfl
 |Cq b=>obtain⟨t,e⟩:=(show ∃t,u=Value.float b t from r);cases e;rfl
 |ref a=>cases (show u=Value.ref a from r);rfl
 |ty n=>cases (show u=Value.type n from r);rfl
section
variable {P:Program} {w:World} {H H':Hp} {h h':Heap} {a C dx:Addr} {fs Nb:List (Str×V)}
theorem qk(cw:il P w H h)(e:H a=some (.ins C dx fs)):∃mA,yk h a dx C mA/\(∀f,lB (fs.lookup f) (mA f))/\PySem.Within mA (fs.map (·.1))/\fs.length<=1000/\H dx=some (.own a):=by
 obtain⟨d,z,ne,ob,mA,n,r,q⟩:=(show cZ P w H h a (.ins C dx fs) from cw a _ e)
 exact⟨mA,⟨ob,n,ne⟩,r,q,z,d⟩
end
structure EO (K:PySem.W.Frag) (C:Addr):Prop where
 pg:PySem.W.plainGet K C Str.empty=true
 hd:PySem.W.hasDictIn K C=true
 po:PySem.W.plainOver K C=true
 sa:PySem.W.findIn K (.ref C) "__setattr__"=some (some (.builtin "object.__setattr__"))
theorem EO.get{K:PySem.W.Frag}{C:Addr}(c:EO K C)(f:Str):PySem.W.plainGet K C f=true:=c.pg
def ij(K:PySem.W.Frag)(C:Addr)(f:Str):Prop:=PySem.W.findIn K (.ref C) f=some none
theorem ij.Jv{K:PySem.W.Frag}{C:Addr}{f:Str}(n:ij K C f):PySem.W.takerIn K C f=some none:=by
 unfold PySem.W.takerIn
 rw [show PySem.W.findIn K (.ref C) f=some none from n]
 rfl
section
variable {X:Cx} {pins:List (Addr×Obj)} {σ:St} {H:Hp} {s:Shared} {a C dx:Addr} {fs:List (Str×V)} {f:Str} {v:V} {A:Around} {E:Value->Shared->Prop}
theorem uy{b:Bool}{Q:Value->Shared->Prop}(I:Inv X pins σ H s)(e:H a=some (.ins C dx fs))(c:EO X.K C)(n:ij X.K C f)(l:fs.lookup f=some v)
  (h:∀u s',Inv X pins σ H s'->RelV v u->Q u s'):wpAny (model X.prog X.w) A (getAttr (.ref a) f b) Q E s:=by
 obtain⟨mA,O,r,_,_,_⟩:=qk I.cw e
 obtain⟨u,hu,ru⟩:=lB.some_of (v:=v) (o:=mA f) (by rw [<-l];exact r f)
 exact get_map I.kx O (c.get f) c.hd n hu (yo ru) (h u _ (I.tok _) ru)
theorem uz{y:V}{u:Value}{Q:Unit->Shared->Prop}(I:Inv X pins σ H s)(e:H a=some (.ins C dx fs))(c:EO X.K C)(n:ij X.K C f)(hl:fs.length<1000)(ry:RelV y u)
  (h:∀s',Inv X pins σ (upd H a (.ins C dx (jV f y fs))) s'->Q () s'):wpAny (model X.prog X.w) A (setAttr (.ref a) f u) Q E s:=by
 obtain⟨mA,O,r,wi,_,ho⟩:=qk I.cw e
 have hz:(fs.map (·.1)).length<=sizeLine:=by rw [List.length_map,sizeLine_eq];omega
 refine CA I.kx O c.sa c.po n.Jv c.hd wi hz λh' O' sb=>h _ ?_
 have hd:∃o,h'.get? dx=some o:=let ⟨o,_,_,e',_⟩:=O'.ns;⟨o,e'⟩
 refine I.write (x:=a) (e:=dx) (by rw [e];exact True.intro) (.inr ho) (λb q hb z=>(sb.2 b hb).trans z) hd ?_
 refine⟨by rw [aK O.ne];exact ho,?_,O.ne,O'.obj,_,O'.ns,λg=>?_,λg hg=>?_⟩
 ·have:=lY f y fs;omega
 ·show lB ((jV f y fs).lookup g) (if g=f then some u else mA g)
  rw [lX]
  by_cases q:g=f
  ·rw [if_pos q,if_pos q];exact ry
  ·rw [if_neg q,if_neg q];exact r g
 ·by_cases q:g=f
  ·rw [q];exact (lH f y fs).1
  ·refine (lH f y fs).2 g (wi g λz=>hg ?_)
   show (if g=f then some u else mA g)=none
   rw [if_neg q];exact z
theorem Inv.made(I:Inv X pins σ H s):Inv X pins σ (upd (upd H s.heap.objs.size (.own (s.heap.objs.size+1))) (s.heap.objs.size+1) (.ins C s.heap.objs.size []))
  {s with heap:=(s.heap.push PySem.W.emptyDict).push (PySem.W.instObj C s.heap.objs.size)}:=by
 have e1:(s.heap.push PySem.W.emptyDict).get? s.heap.objs.size=some PySem.W.emptyDict:=Heap.get?_push_size s.heap rfl
 have e2:((s.heap.push PySem.W.emptyDict).push (PySem.W.instObj C s.heap.objs.size)).get? (s.heap.objs.size+1)=some (PySem.W.instObj C s.heap.objs.size):=by
  have:=Heap.get?_push_size (s.heap.push PySem.W.emptyDict) (o:=PySem.W.instObj C s.heap.objs.size) rfl
  rwa [Heap.size_push] at this
 have e3:(s.heap.push PySem.W.emptyDict).Ns s.heap.objs.size (λ_=>none):=⟨PySem.W.emptyDict,#[],_,e1,rfl,(λe he=>absurd he (by simp)),λ_=>rfl⟩
 have I1:=I.laid (a:=s.heap.objs.size) (o:=.own (s.heap.objs.size+1)) (h':=s.heap.push PySem.W.emptyDict) (t':=s.toks) (λb u q=>Heap.get?_push_of_some _ q) (Nat.le_refl _) ⟨_,e1⟩
 refine I1.laid (a:=s.heap.objs.size+1) (o:=.ins C s.heap.objs.size []) (t':=s.toks) (λb u q=>Heap.get?_push_of_some _ q) (Nat.le_of_eq (Heap.size_push _ _)) ?_
 have ne:s.heap.objs.size≠s.heap.objs.size+1:=Nat.ne_of_lt (Nat.lt_succ_self _)
 refine⟨by rw [aK ne,ae],Nat.zero_le _,ne,e2,λ_=>none,(Heap.Ns1.of_empty e3).at λo q=>Heap.get?_push_of_some _ q,λ_=>True.intro,λy hy=>absurd rfl hy⟩
theorem CB{prog:Program}{w:World}{env:Env}{e:Expr}{f:Str}{pos:Pos}{s:Shared}{Q:Value->Shared->Prop}(hb:attributeBase e f env (eval e env)=eval e env)
  (h:wpAny (model prog w) A (eval e env) (λo s₁=>wpAny (model prog w) A (getAttr o f true) Q E s₁) E s):wpAny (model prog w) A (eval (.Attribute e f pos) env) Q E s:=
 Attribute_any_ h (by rw [arm_eval_Attribute,hb])
end
def Ae(K:PySem.W.Frag)(ta:TE)(f:Str):TE:=λσ H Q=>ta σ H λx H1=>∃a C dx fs v,x=.ref a/\H1 a=some (.ins C dx fs)/\EO K C/\ij K C f/\fs.lookup f=some v/\Q v H1
def Nu(K:PySem.W.Frag)(ta tv:TE)(f:Str):TS:=λD σ H=>tv σ H λy H1=>ta σ H1 λx H2=>∃a C dx fs,x=.ref a/\H2 a=some (.ins C dx fs)/\EO K C/\ij K C f/\fs.length<1000 /\
 D.nx σ (upd H2 a (.ins C dx (jV f y fs)))
section
variable {X:Cx} {o e value:Expr} {f:Str} {pos pos' rO:Pos} {ta tv:TE}
theorem iK(he:PE X e ta)(hb:attributeBase e f X.env (eval e X.env)=eval e X.env):PE X (.Attribute e f pos) (Ae X.K ta f):=by
 intro pins s σ H Q I h
 refine CB hb (cI (he pins s σ H _ I h) λu s1 ⟨x,H1,I1,rx,a,C,dx,fs,v,ex,ea,c,n,l,q⟩=>?_)
 subst ex
 obtain rfl:u=Value.ref a:=rx
 exact uy I1 ea c n l λu' s2 I2 ru=>⟨v,H1,I2,ru,q⟩
theorem ql(ha:PE X o ta)(hv:PE X value tv)(hs:swapsWith value (some (.Attribute o f pos')) pos.line X.env=pure false):PS X (.Assign [.Attribute o f pos'] value pos) (Nu X.K ta tv f):=by
 intro pins s σ H D I h
 refine plainObj_wpAny_Assign_Attribute (cI (hv pins s σ H _ I h) λu s1 ⟨y,H1,I1,ry,q⟩=>cI (ha pins s1 σ H1 _ I1 q) λov s2 ⟨x,H2,I2,rx,a,C,dx,fs,ex,ea,c,n,l,q2⟩=>?_) hs
 subst ex
 obtain rfl:ov=Value.ref a:=rx
 exact uz I2 ea c n l ry λs3 I3=>⟨σ,_,I3,q2⟩
end
section
variable {X:Cx} {pins:List (Addr×Obj)} {σ:St} {H:Hp} {s:Shared} {A:Around} {E:Value->Shared->Prop} {Q:Value->Shared->Prop} {c:Value} {b:Bool}
inductive lI (K:PySem.W.Frag) (H:Hp):V->Value->Prop where
 |eh:lI K H .eh (.type "NoneType")
 |bl (x:Bool):lI K H (.bl x) (.type "bool")
 |int (i:Int):lI K H (.int i) (.type "int")
 |str (x:Str):lI K H (.str x) (.type "str")
 |Cq (x:UInt64):lI K H (.Cq x) (.type "float")
 |lst {a:Addr} {xs:List V} (e:H a=some (.lst xs)):lI K H (.ref a) (.type "list")
 |uk {a:Addr} {o:Obj} {xs:List V} (e:H a=some (.uk o (.lst xs))):lI K H (.ref a) (.type "list")
 |tup {a:Addr} {xs:List V} (e:H a=some (.tup xs)):lI K H (.ref a) (.type "tuple")
 |dK {a:Addr} {kvs:List (Key×V)} (e:H a=some (.dK kvs)):lI K H (.ref a) (.type "dict")
 |dT {a:Addr} {kvs:List (List Key×V)} (e:H a=some (.dT kvs)):lI K H (.ref a) (.type "dict")
 |ins {a C dx:Addr} {fs:List (Str×V)} (e:H a=some (.ins C dx fs)) (cl:EO K C) (ha:PySem.W.findIn K (.ref C) "__class__"=some (some (.builtin "object.__class__")))
   (hn:PySem.W.specialIn K (.builtin "object.__class__") "__get__"=some (some (.builtin "getset_descriptor.__get__"))) (LZ:PySem.W.takesIn K (.builtin "object.__class__")=some true)
   (hm:PySem.W.mroIn K C (.type "object")=some true):lI K H (.ref a) (.ref C)
theorem yp{x:V}{u t:Value}(I:Inv X pins σ H s)(rx:RelV x u)(ty:lI X.K H x t)(e:PySem.W.kitOne X.K t c=some b)(h:∀tk,Q (.bool b) {s with toks:=tk}) :
  wpAny (model X.prog X.w) A (call (.builtin "isinstance") [u,c]) Q E s:=by
 cases ty with
 |eh=>cases (show u=Value.none from rx);exact PySem.W.kia_one PySem.W.kitx_none I.kx True.intro e (λz=>nomatch z) h
 |bl y=>cases (show u=Value.bool y from rx);exact PySem.W.kia_one PySem.W.kitx_bool I.kx True.intro e (λz=>nomatch z) h
 |int i=>obtain⟨t,q⟩:=(show ∃t,u=Value.int i t from rx);cases q;exact PySem.W.kia_one PySem.W.kitx_int I.kx True.intro e (λz=>nomatch z) h
 |str y=>obtain⟨t,q⟩:=(show ∃t,u=Value.str y t from rx);cases q;exact PySem.W.kia_one PySem.W.kitx_str I.kx True.intro e (λz=>nomatch z) h
 |Cq y=>obtain⟨t,q⟩:=(show ∃t,u=Value.float y t from rx);cases q;exact PySem.W.kia_one PySem.W.kitx_float I.kx True.intro e (λz=>nomatch z) h
 | @lst a xs ea=>
  cases (show u=Value.ref a from rx)
  obtain⟨_,_,n,_,h1⟩:=(show cZ X.prog X.w H s.heap a (.lst xs) from I.cw a _ ea)
  exact PySem.W.kia_one PySem.W.kitx_list I.kx ⟨_,h1,rfl⟩ e (λz=>nomatch z) h
 | @uk a ob xs ea=>
  cases (show u=Value.ref a from rx)
  obtain⟨_,_,_,n,_,h1⟩:=(show cZ X.prog X.w H s.heap a (.uk ob (.lst xs)) from I.cw a _ ea)
  exact PySem.W.kia_one PySem.W.kitx_list I.kx ⟨_,h1,rfl⟩ e (λz=>nomatch z) h
 | @tup a xs ea=>
  cases (show u=Value.ref a from rx)
  obtain⟨_,_,_,p⟩:=(show cZ X.prog X.w H s.heap a (.tup xs) from I.cw a _ ea)
  obtain⟨o,h1,h2,_⟩:=p
  exact PySem.W.kia_one PySem.W.kitx_tuple I.kx ⟨o,h1,h2⟩ e (λz=>nomatch z) h
 | @dK a kvs ea=>
  cases (show u=Value.ref a from rx)
  obtain⟨_,_,vs,_,p⟩:=(show cZ X.prog X.w H s.heap a (.dK kvs) from I.cw a _ ea)
  obtain⟨o,es,ep,h1,h2,_⟩:=p
  exact PySem.W.kia_one PySem.W.kitx_dict I.kx ⟨o,h1,h2.1⟩ e (λz=>nomatch z) h
 | @dT a kvs ea=>
  cases (show u=Value.ref a from rx)
  obtain⟨_,_,xs,_,o,es,ep,h1,h2,_⟩:=(show cZ X.prog X.w H s.heap a (.dT kvs) from I.cw a _ ea)
  exact PySem.W.kia_one PySem.W.kitx_dict I.kx ⟨o,h1,h2.1⟩ e (λz=>nomatch z) h
 | @ins a C dx fs ea cl ha hn LZ hm=>
  cases (show u=Value.ref a from rx)
  obtain⟨mA,O,_⟩:=qk I.cw ea
  obtain⟨od,J,_⟩:=O.look
  exact PySem.W.kia_one (PySem.W.kitx_own (cl.get _) cl.hd ha hn LZ hm) I.kx J e (λz=>nomatch z) h
end
structure fe (k:Nat) (A:Around):Prop where
 hd:A.handled=none
 dp:A.depth+3*k+5<recursionLimit
 un:A.units+16*k+200<cLine
theorem fe.mono{j k:Nat}{A:Around}(r:fe k A)(h:j<=k):fe j A:=⟨r.hd,by have:=r.dp;omega,by have:=r.un;omega⟩
theorem fe.deeper{k:Nat}{A:Around}(r:fe (k+1) A)(env:Env):fe k (A.deeper env):=
 ⟨r.hd,by have:=r.dp;show A.depth+1+3*k+5<_;omega,by have:=r.un;show A.units+3+16*k+200<_;omega⟩
theorem uA{A:Around}{C:Addr}{us:List Value}{kw:List (Str×Value)}:(A.under (.builtin "type.__call__" ⟨.ref C::us,kw⟩)).depth=A.depth+1:=by
 first|rfl|simp [Around.under,Code.weight,Code.isCreation,Code.isGuard,Code.isCaller,Code.frames,Code.isFrame,guardIds]
theorem uB{A:Around}{C:Addr}{us:List Value}{kw:List (Str×Value)}:(A.under (.builtin "type.__call__" ⟨.ref C::us,kw⟩)).units=A.units+1:=by
 first|rfl|simp [Around.under,Code.cUnits,Code.frames,Code.isFrame]
theorem fe.make{k:Nat}{A:Around}(r:fe (k+1) A)(C:Addr)(us:List Value)(kw:List (Str×Value)):fe k (A.under (.builtin "type.__call__" ⟨.ref C::us,kw⟩)):=
 ⟨r.hd,by have:=r.dp;rw [uA];omega,by have:=r.un;rw [uB];omega⟩
theorem fe.depth{k:Nat}{A:Around}(r:fe k A):A.depth<recursionLimit:=by have:=r.dp;omega
theorem fe.units{k:Nat}{A:Around}(r:fe k A):A.units+64<cLine:=by have:=r.un;omega
theorem fe.iL{k:Nat}{A:Around}(r:fe k A):A.units<cLine:=by have:=r.un;omega
def fE:TA:=λ_ H Q=>Q [] H
def bD(ta:TE)(tr:TA):TA:=λσ H Q=>ta σ H λx H1=>tr σ H1 λxs H2=>Q (x::xs) H2
section
variable {X:Cx} {e:Expr} {es:List Expr} {te:TE} {t:TA} {pos:Pos}
theorem aa:PA X [] fE:=λ_ _ _ _ H Q I h=>Calls.spliced_nil ⟨[],H,I,.nil,h⟩
theorem mG(ha:PE X e te)(hr:PA X es t)(hs:starEach (e::es) X.env=(false,eval e X.env)::starEach es X.env:=by rfl):PA X (e::es) (bD te t):=by
 intro pos pins s σ H Q I h
 rw [hs]
 show wpAny _ _ (spliced ((false,eval e X.env)::backTo pos (starEach es X.env))) _ _ s
 refine Calls.spliced_cons (cI (ha pins s σ H _ I h) λu s1 ⟨x,H1,I1,r1,q1⟩=>?_)
 exact cI (hr pos pins s1 σ H1 _ I1 q1) λus s2 ⟨xs,H2,I2,r2,q2⟩=>⟨x::xs,H2,I2,.cons r1 r2,q2⟩
def ic(t:TA):TE:=λσ H Q=>t σ H λxs H1=>xs.length<=sizeLine/\∀p,H1 p=none->Q (.ref p) (upd H1 p (.tup xs))
def Jw(t:TA):TE:=λσ H Q=>t σ H λxs H1=>xs.length<=sizeLine/\∀p,H1 p=none->Q (.ref p) (upd H1 p (.lst xs))
theorem aA{x1}(h:PA X es t):PE X (.Tuple es x1 pos) (ic t):=by
 intro pins s σ H Q I hq
 refine wpAny_Tuple_spliced (cI (h pos pins s σ H _ I hq) λus s1 ⟨xs,H1,I1,r,z,q⟩=>⟨by rw [<-r.length];exact z,?_⟩)
 have hf:H1 s1.heap.objs.size=none:=I1.cw.fresh (Nat.le_refl _)
 refine⟨.ref s1.heap.objs.size,upd H1 s1.heap.objs.size (.tup xs),I1.laid (t':=s1.toks) (λb u e=>Heap.get?_push_of_some _ e) (Nat.le_refl _) ?_,rfl,q _ hf⟩
 exact⟨z,us,r,⟨_,Heap.get?_push_size _ rfl,rfl,_,rfl⟩⟩
theorem bN(h:PA X es t):PE X (.List es pos) (Jw t):=by
 intro pins s σ H Q I hq
 refine wpAny_List_spliced (cI (h pos pins s σ H _ I hq) λus s1 ⟨xs,H1,I1,r,z,q⟩=>⟨by rw [<-r.length];exact z,?_⟩)
 have hf:H1 s1.heap.objs.size=none:=I1.cw.fresh (Nat.le_refl _)
 refine⟨.ref s1.heap.objs.size,upd H1 s1.heap.objs.size (.lst xs),I1.laid (t':=s1.toks) (λb u e=>Heap.get?_push_of_some _ e) (Nat.le_refl _) ?_,rfl,q _ hf⟩
 exact⟨z,us,0,r,Heap.get?_push_size _ rfl⟩
end
abbrev Sp:=List V->Hp->VK->XK->Prop
abbrev pw:=List Env->Hp->Shared->XK->Value->Shared->Prop
structure rP (P:Program) (w:World) (K:PySem.W.Frag) (mg:Str->Option Value) (base:Heap) (A:Around) (outer:List Env) (s:Shared) (H:Hp):Prop where
 frames:A.frames=some outer
 mod:Mod K mg base
 bs:∀b o,base.get? b=some o->s.heap.get? b=some o/\H b=none
 wy:base.objs.size<=s.heap.objs.size
 ib:s.heap.FunFrames base outer
 zR:∀b∈nq outer,H b=none
 cw:il P w H s.heap
 bare:AllBare s.gens
def CE(outer:List Env)(P:Program)(w:World)(H:Hp)(s:Shared)(Q:VK)(u:Value)(s':Shared):Prop:=
 ∃v H',s'.os=s.os/\AllBare s'.gens/\Un (nq outer) [] H H' s.heap s'.heap/\il P w H' s'.heap/\RelV v u/\Q v H'
def CR(CX:pw)(outer:List Env)(P:Program)(w:World)(H:Hp)(s:Shared)(Q:VK)(E:XK)(r:Result)(s':Shared):Prop:=
 match r with
 |.ok (.ret u)=>CE outer P w H s Q u s'
 |.ok _=>False
 |.error e=>CX outer H s E e s'
structure g7 (P:Program) (w:World) (K:PySem.W.Frag) (mg:Str->Option Value) (base:Heap) (CX:pw) (k:Nat) (f:Addr) (fd:FuncData) (ps:List Str) (sp:Sp):Prop where
 len:∀vs H Q E,sp vs H Q E->vs.length=ps.length
 run:∀(A:Around) (outer:List Env) (s:Shared) (H:Hp) (args:Args) (us:List Value) (vs:List V) (Q:VK) (E:XK),fe k A->rP P w K mg base A outer s H->BindsTo s fd args (ps.zip us)->Vals vs us->sp vs H Q E ->
  codeAny (model P w) A (.call (.ref f) args) (CR CX outer P w H s Q E) s
theorem g7.mono{P:Program}{w:World}{K:PySem.W.Frag}{mg:Str->Option Value}{base:Heap}{CX:pw}{j k:Nat}{f:Addr}{fd:FuncData}{ps:List Str}{sp:Sp}(F:g7 P w K mg base CX j f fd ps sp)(h:j<=k) :
  g7 P w K mg base CX k f fd ps sp:=⟨F.len,λA outer s H args us vs Q E hr=>F.run A outer s H args us vs Q E (hr.mono h)⟩
theorem g7.imp{P:Program}{w:World}{K:PySem.W.Frag}{mg:Str->Option Value}{base:Heap}{CX:pw}{k:Nat}{f:Addr}{fd:FuncData}{ps:List Str}{sp F1:Sp}(F:g7 P w K mg base CX k f fd ps sp)
  (h:∀vs H Q E,F1 vs H Q E->sp vs H Q E):g7 P w K mg base CX k f fd ps F1:=
 ⟨λvs H Q E q=>F.len vs H Q E (h _ _ _ _ q),λA outer s H args us vs Q E hr he hb hv hs=>F.run A outer s H args us vs Q E hr he hb hv (h _ _ _ _ hs)⟩
theorem rP.make{P:Program}{w:World}{K:PySem.W.Frag}{mg:Str->Option Value}{base:Heap}{A:Around}{outer:List Env}{s:Shared}{H:Hp}(e:rP P w K mg base A outer s H)(C:Addr)(us:List Value)(kw:List (Str×Value)) :
  rP P w K mg base (A.under (.builtin "type.__call__" ⟨.ref C::us,kw⟩)) outer s H:=⟨by first|exact e.frames|(simpa [Around.under,Code.envs,Code.isFrame,pushEnvs] using e.frames),e.mod,e.bs,e.wy,e.ib,e.zR,e.cw,e.bare⟩
section
variable {X:Cx} {pins:List (Addr×Obj)} {σ:St} {H:Hp} {s s':Shared}
theorem Inv.F2(I:Inv X pins σ H s):rP X.prog X.w X.K X.mg X.base X.A X.stack s H:=
 ⟨I.ok.frames,I.ok.mod,I.bs,Nat.le_trans I.ok.wy I.sz,I.stack,I.mE,I.cw,I.bare⟩
theorem Inv.after{Q:VK}{u:Value}(I:Inv X pins σ H s)(h:CE X.stack X.prog X.w H s Q u s'):EP X pins σ Q u s':=by
 obtain⟨v,H',os,bare,un,cw,r,q⟩:=h
 obtain⟨hh,g,d,t,TZ⟩:=s'
 obtain rfl:TZ=s.os:=os
 exact⟨v,H',I.call (h':=hh) (g':=g) (d':=d) (t':=t) (ch:= []) un cw bare (λb z=>absurd z (by simp)),r,q⟩
end
def rQ(sp:Sp)(ue:List V)(E:XK)(t:TA):TE:=λσ H Q=>t σ H λvs H1=>sp (vs++ue) H1 Q E
def ER(C:Addr)(sp:Sp)(ue:List V)(E:XK)(t:TA):TE:=λσ H Q=>t σ H λvs H1=>∀x dx,H1 x=none->H1 dx=none->dx≠x ->
 sp (.ref x::(vs++ue)) (upd (upd H1 dx (.own x)) x (.ins C dx [])) (λv H2=>v=.eh/\Q (.ref x) H2) E
def Binds(K:PySem.W.Frag)(fd:FuncData)(ps:List Str)(ds:List Value):Prop:=
 ∀(s:Shared) (us:List Value),K.In s.heap->(us++ds).length=ps.length->BindsTo s fd ⟨us,[]⟩ (ps.zip (us++ds))
theorem Binds.all{K:PySem.W.Frag}{fd:FuncData}{ps:List Str}(h:∀us:List Value,us.length=ps.length->bindArgs fd ⟨us,[]⟩=pure (ps.zip us)):Binds K fd ps []:=λs us _ hl=>by
 rw [List.append_nil] at hl ⊢
 exact .of_eq (h us hl)
def Passes(CX:pw)(X:Cx)(E:XK):Prop:=∀(pins:List (Addr×Obj)) (σ:St) (H:Hp) (s:Shared) (e:Value) (s':Shared),Inv X pins σ H s->CX X.stack H s E e s'->X.xe e s'
section
variable {X:Cx} {CX:pw} {k:Nat} {f C:Addr} {fd:FuncData} {ps:List Str} {sp:Sp} {ue:List V} {ds:List Value} {E:XK} {x m:Str} {p pos apos:Pos} {e o:Expr} {es:List Expr} {ta:TE} {t:TA}
theorem Af{pins:List (Addr×Obj)}{σ:St}{H:Hp}{s:Shared}{Q:VK}{us:List Value}{vs:List V}(F:g7 X.prog X.w X.K X.mg X.base CX k f fd ps sp)(hr:fe k X.A)(hb:Binds X.K fd ps ds)(hd:Vals ue ds)(hx:Passes CX X E)
  (I:Inv X pins σ H s) (r:Vals vs us) (h:sp (vs++ue) H Q E):wpAny (model X.prog X.w) X.A (call (.ref f) us) (EP X pins σ Q) X.xe s:=by
 have r2:Vals (vs++ue) (us++ds):=r.append hd
 have hl:(us++ds).length=ps.length:=by rw [<-r2.length];exact F.len _ _ _ _ h
 refine wpAny_call (codeAny_mono (F.run X.A X.stack s H ⟨us,[]⟩ (us++ds) (vs++ue) Q E hr I.F2 (hb s us I.kx hl) r2 h) λr s' hq=>?_)
 cases r with
 |error e=>exact hx pins σ H s e s' I hq
 |ok fl=>
  cases fl with
  |ret u=>exact I.after hq
  |next=>exact False.elim hq
  |brk=>exact False.elim hq
  |cont=>exact False.elim hq
theorem wH(F:g7 X.prog X.w X.K X.mg X.base CX k f fd ps sp)(hr:fe k X.A)(hg:Gl X x)(hm:X.mg x=some (.ref f))(hk:PySem.W.keepIn X.K (.ref f)=true)(hb:Binds X.K fd ps ds)(hd:Vals ue ds)(hx:Passes CX X E)
  (ha:PA X (e::es) t) (qm:(x == ("__debug__":Str))=false:=by decide) (he:starEach (e::es) X.env=(false,eval e X.env)::starEach es X.env:=by rfl) (gM:(backTo pos (starEach es X.env)).any (·.1)=false:=by rfl) :
  PE X (.Call (.Name x p) (e::es) [] pos) (rQ sp ue E t):=by
 intro pins s σ H Q I h
 refine wpAny_Call_Name_kw (iI I hg hm ?_ qm)
 refine PySem.W.callWith_K (h₀:=X.base) I.ok.mod.Ct hk (cI (ha pos pins s σ H _ I h) λus s1 ⟨vs,H1,I1,r,q⟩=>⟨I1.kx,?_⟩) he gM
 exact Af F hr hb hd hx I1 r q
structure Mk (K:PySem.W.Frag) (C f:Addr):Prop where
 makes:PySem.W.makesIn K C=true
 init:PySem.W.findIn K (.ref C) "__init__"=some (some (.ref f))
 fn:PySem.W.isFn K (.ref f)=true
 kp:PySem.W.keepIn K (.ref C)=true
theorem Ag{pins:List (Addr×Obj)}{σ:St}{H:Hp}{s:Shared}{Q:VK}{us:List Value}{vs:List V}(M:Mk X.K C f)(F:g7 X.prog X.w X.K X.mg X.base CX k f fd ps sp)(hr:fe (k+1) X.A)(hb:Binds X.K fd ps ds)(hd:Vals ue ds)
  (hx:Passes CX X E) (I:Inv X pins σ H s) (r:Vals vs us)
  (h:∀x dx,H x=none->H dx=none->dx≠x->sp (.ref x::(vs++ue)) (upd (upd H dx (.own x)) x (.ins C dx [])) (λv H2=>v=.eh/\Q (.ref x) H2) E) :
  wpAny (model X.prog X.w) X.A (call (.ref C) us) (EP X pins σ Q) X.xe s:=by
 have hq:=h (s.heap.objs.size+1) s.heap.objs.size (I.cw.fresh (Nat.le_succ _)) (I.cw.fresh (Nat.le_refl _)) (Nat.ne_of_lt (Nat.lt_succ_self _))
 have I2:=Inv.made (C:=C) I
 have r2:Vals (V.ref (s.heap.objs.size+1)::(vs++ue)) (Value.ref (s.heap.objs.size+1)::(us++ds)):=.cons rfl (r.append hd)
 have hl:(Value.ref (s.heap.objs.size+1)::us++ds).length=ps.length:=by
  have e:=r2.length
  rw [F.len _ _ _ _ hq] at e
  exact e.symm
 refine wpAny_call (Ad (f:=f) I.kx M.makes M.init (beq_iff_eq.mp M.fn) (codeAny_mono (F.run _ X.stack _ _ ⟨Value.ref (s.heap.objs.size+1)::us,[]⟩ (Value.ref (s.heap.objs.size+1)::(us++ds)) _ _ E (hr.make C us [])
  (I2.F2.make C us []) (hb _ (Value.ref (s.heap.objs.size+1)::us) I2.kx hl) r2 hq) λr s' F4=>?_))
 cases r with
 |error e=>exact hx pins σ _ _ e s' I2 F4
 |ok fl=>
  cases fl with
  |ret u=>
   obtain⟨v,H',I3,rv,ev,q3⟩:=I2.after F4
   subst ev
   exact⟨rv,⟨V.ref (s.heap.objs.size+1),H',I3,rfl,q3⟩⟩
  |next=>exact False.elim F4
  |brk=>exact False.elim F4
  |cont=>exact False.elim F4
theorem CC(M:Mk X.K C f)(F:g7 X.prog X.w X.K X.mg X.base CX k f fd ps sp)(hr:fe (k+1) X.A)(hg:Gl X x)(hm:X.mg x=some (.ref C))(hb:Binds X.K fd ps ds)(hd:Vals ue ds)(hx:Passes CX X E)
  (ha:PA X (e::es) t) (qm:(x == ("__debug__":Str))=false:=by decide) (he:starEach (e::es) X.env=(false,eval e X.env)::starEach es X.env:=by rfl) (gM:(backTo pos (starEach es X.env)).any (·.1)=false:=by rfl) :
  PE X (.Call (.Name x p) (e::es) [] pos) (ER C sp ue E t):=by
 intro pins s σ H Q I h
 refine wpAny_Call_Name_kw (iI I hg hm ?_ qm)
 refine PySem.W.callWith_K (h₀:=X.base) I.ok.mod.Ct M.kp (cI (ha pos pins s σ H _ I h) λus s1 ⟨vs,H1,I1,r,q⟩=>⟨I1.kx,?_⟩) he gM
 exact Ag M F hr hb hd hx I1 r q
end
section
variable {X:Cx} {CX:pw} {k:Nat} {f C:Addr} {fd:FuncData} {ps ks:List Str} {sp:Sp} {E:XK} {x m:Str} {p pos apos Nv:Pos} {e o:Expr} {es:List Expr} {T1:List Keyword} {te ta:TE} {t tk:TA} {nm:Option Str}
variable {g:List Value->List Value->List Value} {gV:List V->List V->List V}
end
structure aO (N P:List Str) (sc:Scope):Prop where
 kind:sc.kind=.function
 co:sc.isCoroutine=false
 gen:sc.isGenerator=false
 nd:N.Nodup
 pre:N.take P.length=P
 par:∀x∈P,sc.names.lookup x=some .local\/sc.names.lookup x=some .cell
 F5:∀y∈sc.names,y.2≠.free
theorem px{kindOf:Str->Option NameKind}{x:Str}:∀{binds:List (Str×Value)} {m:Str->Option Value},(∀v,(x,v)∉binds)->bindL kindOf binds m x=m x
 | [],_,_=>rfl
 |(n,v)::r,m,h=>by
  unfold bindL
  rw [px λw hw=>h w (List.mem_cons_of_mem _ hw)]
  split
  ·have:x≠n:=by rintro rfl;exact h v List.mem_cons_self
   simp [this]
  ·rfl
theorem pz{kindOf:Str->Option NameKind}{x:Str}:∀{binds:List (Str×Value)} {m:Str->Option Value},(∀v,(x,v)∉binds)->bindC kindOf binds m x=m x
 | [],_,_=>rfl
 |(n,v)::r,m,h=>by
  unfold bindC
  rw [pz λw hw=>h w (List.mem_cons_of_mem _ hw)]
  split
  ·rfl
  ·have:x≠n:=by rintro rfl;exact h v List.mem_cons_self
   simp [this]
theorem pA{kindOf:Str->Option NameKind}{x:Str}{v:Value}:∀{P:List Str} {vs:List Value} {i:Nat} {m:Str->Option Value},P.Nodup->P[i]?=some x->vs[i]?=some v->kindOf x=some .local ->
  bindL kindOf (P.zip vs) m x=some v
 | [],_,_,_,_,h,_,_=>by simp at h
 |_::_,[],_,_,_,_,h,_=>by simp at h
 |p::P,w::vs,0,m,nd,h1,h2,hk=>by
  simp at h1 h2;subst h1;subst h2
  show bindL kindOf ((p,w)::P.zip vs) m p=_
  unfold bindL
  rw [px λv hv=>(List.nodup_cons.mp nd).1 (List.of_mem_zip hv).1,if_pos hk]
  simp
 |p::P,w::vs,i+1,m,nd,h1,h2,hk=>by
  show bindL kindOf ((p,w)::P.zip vs) m x=_
  unfold bindL
  exact pA (i:=i) (List.nodup_cons.mp nd).2 (by simpa using h1) (by simpa using h2) hk
theorem pB{kindOf:Str->Option NameKind}{x:Str}{v:Value}:∀{P:List Str} {vs:List Value} {i:Nat} {m:Str->Option Value},P.Nodup->P[i]?=some x->vs[i]?=some v->kindOf x≠some .local ->
  bindC kindOf (P.zip vs) m x=some v
 | [],_,_,_,_,h,_,_=>by simp at h
 |_::_,[],_,_,_,_,h,_=>by simp at h
 |p::P,w::vs,0,m,nd,h1,h2,hk=>by
  simp at h1 h2;subst h1;subst h2
  show bindC kindOf ((p,w)::P.zip vs) m p=_
  unfold bindC
  rw [pz λv hv=>(List.nodup_cons.mp nd).1 (List.of_mem_zip hv).1,if_neg hk]
  simp
 |p::P,w::vs,i+1,m,nd,h1,h2,hk=>by
  show bindC kindOf ((p,w)::P.zip vs) m x=_
  unfold bindC
  exact pB (i:=i) (List.nodup_cons.mp nd).2 (by simpa using h1) (by simpa using h2) hk
def start(N:List Str)(vs:List V):St:=vs.map some++List.replicate (N.length-vs.length) none
def kE(CX:pw)(P:Program)(w:World)(K:PySem.W.Frag)(mg:Str->Option Value)(base:Heap)(N:List Str)(qual:Str)(scope:Scope)(f:Addr)(cd:Value)(A:Around)(outer:List Env)(s:Shared)(H:Hp)(E:XK):Cx where
 prog:=P
 w:=w
 K:=K
 mg:=mg
 base:=base
 A:=A.deeper (envOfC qual scope s.heap.objs.size f cd)
 N:=N
 s₀:=s
 H₀:=H
 env:=envOfC qual scope s.heap.objs.size f cd
 outer:=outer
 stack:=envOfC qual scope s.heap.objs.size f cd::outer
 ex:= []
 calm:=true
 fn:=λ_=>true
 pn:= []
 xe:=λe s'=>wpAny (model P w) (A.deeper (envOfC qual scope s.heap.objs.size f cd)) (leaving (envOfC qual scope s.heap.objs.size f cd) e) (λ_ yq=>CX outer H s E e yq) (λe' yq=>CX outer H s E e' yq) s'
theorem rR{sc:Scope}{n:Nat}{x:Str}(h:sc.names.lookup x=some .cell):∃c,(cellsFrom n sc.names []).lookup x=some c:=by
 have q:=PySem.W.cellsFrom_some sc.names n [] (.inl h)
 exact Option.isSome_iff_exists.mp q
theorem pC{CX:pw}{P:Program}{w:World}{K:PySem.W.Frag}{mg:Str->Option Value}{base:Heap}{N ps:List Str}{qual:Str}{scope:Scope}{f:Addr}{cd:Value}{A:Around}{outer:List Env}{s s1:Shared}{H:Hp}{E:XK}{us:List Value}{vs:List V}
  (S:aO N ps scope) (hd:A.handled=none) (e0:rP P w K mg base A outer s H) (hl:vs.length=ps.length) (r:Vals vs us)
  (x:InCallC s s.heap.objs.size (bindL (envOfC qual scope s.heap.objs.size f cd).kindOf (ps.zip us) λ_=>none) (cellsFrom (s.heap.objs.size+1) scope.names []) (bindC (envOfC qual scope s.heap.objs.size f cd).kindOf (ps.zip us) λ_=>none) s1) :
  Inv (kE CX P w K mg base N qual scope f cd A outer s H E) [] (start N vs) H s1:=by
 have gM:ps.length<=N.length:=by have:=congrArg List.length S.pre;rw [List.length_take] at this;omega
 obtain⟨h1,tk,rfl,hk⟩:=x.done
 have Jx:∀b:Addr,b∉(kE CX P w K mg base N qual scope f cd A outer s H E).ex:=λb z=>absurd (show b∈([]:List Addr) from z) (by simp)
 refine⟨⟨e0.mod,S.kind,rfl,rfl,Nat.le_refl _,λy z c h1 h2=>?_,λy hy=>?_,λy c _ h=>?_,λ_=>hd,Around.frames_deeper e0.frames,.inr ⟨rfl,rfl⟩,λb z=>absurd z (Jx b),e0.bs,e0.wy,λb _ _=>Jx b,λb z=>absurd z (Jx b),e0.ib,e0.zR⟩,
  rfl,e0.bare,Un.kept hk,⟨_,x.toInCall.ns,λi y v h1 h2 h3=>?_⟩,λy c h=>⟨_,x.cell y c h⟩,e0.cw.fresh (Nat.le_refl _),λy c h=>?_,λp hp=>absurd (show p∈([]:List (Addr×Obj)) from hp) (by simp),e0.cw.kept hk,?_⟩
 ·exact name_of_addr x.apart (PySem.mem_of_lookup h1) (PySem.mem_of_lookup h2)
 ·have hy:scope.names.lookup y=some .cell\/scope.names.lookup y=some .free:=hy
  rcases hy with hy|hy
  ·exact rR hy
  ·exact absurd rfl (S.F5 _ (PySem.mem_of_lookup hy))
 ·exact Nat.le_of_lt (x.above y c (PySem.mem_of_lookup h))
 ·have hi:i<vs.length:=by
   unfold start at h2
   by_cases hi:i<vs.length
   ·exact hi
   ·rw [List.getElem?_append_right (by simpa using hi)] at h2
    rw [List.getElem?_replicate] at h2
    split at h2<;>cases h2
  have ha:vs[i]?=some v:=by
   unfold start at h2
   rw [List.getElem?_append_left (by simpa using hi),List.getElem?_map] at h2
   cases e:vs[i]? with
   |none=>rw [e] at h2;cases h2
   |some a=>rw [e] at h2;cases h2;rfl
  obtain⟨u,hu,rv⟩:=r.get ha
  have hp:ps[i]?=some y:=by
   rw [<-S.pre,List.getElem?_take_of_lt (by omega)];exact h1
  have RD:ps.Nodup:=by rw [<-S.pre];exact S.nd.sublist (List.take_sublist _ _)
  refine⟨u,rv,?_⟩
  rcases S.par y (List.mem_of_getElem? hp) with k|k
  ·exact .inl ⟨k,pA RD hp hu k⟩
  ·obtain⟨c,e⟩:=rR (n:=s.heap.objs.size+1) k
   refine .inr ⟨.inl k,c,e,?_⟩
   have q:=x.cell y c e
   rw [pB RD hp hu (by show scope.names.lookup y≠_;rw [k];decide)] at q
   exact q
 ·exact e0.cw.fresh (Nat.le_of_lt (x.above y c (PySem.mem_of_lookup h)))
 ·unfold start
  show _=N.length
  rw [List.length_append,List.length_map,List.length_replicate]
  omega
theorem ES{CX:pw}{P:Program}{w:World}{K:PySem.W.Frag}{mg:Str->Option Value}{base:Heap}{k:Nat}{f:Addr}{name qual:Str}{params:Arguments}{body:List Stmt}{scope:Scope}{dV kV doc pm cD ct oc:Value}{an od:Option Addr}
  {uC:Array (Option Value)} {N ps:List Str} {sp:Sp} (lk:K.lookup f=some ⟨oc,od,.func (PySem.W.fnOf name qual params body scope dV kV doc pm an cD ct),uC⟩) (rL:PySem.W.codeIn K cD qual=true) (S:aO N ps scope)
  (len:∀vs H Q E,sp vs H Q E->vs.length=ps.length)
  (jj:∀(A:Around) (outer:List Env) (s:Shared) (H:Hp) (vs:List V) (Q:VK) (E:XK),fe k (A.deeper (envOfC qual scope s.heap.objs.size f cD))->sp vs H Q E ->
   ∃t,gi (kE CX P w K mg base N qual scope f cD A outer s H E) body t/\t {nx:=λ_ H'=>Q .eh H',rt:=Q} (start N vs) H) :
  g7 P w K mg base CX (k+1) f (PySem.W.fnOf name qual params body scope dV kV doc pm an cD ct) ps sp:=by
 refine⟨len,λA outer s H args us vs Q E hr e0 hb r wI=>?_⟩
 have hl:=len _ _ _ _ wI
 have KX:K.In s.heap:=e0.mod.Ct.keeps λb o e=>(e0.bs b o e).1
 have lim:s.heap.NoLimit:=e0.mod.nolimit.keeps λb o e=>(e0.bs b o e).1
 have Ah:∀y∈ps.zip us,scope.names.lookup y.1=some .local\/(scope.names.lookup y.1=some .cell/\((cellsFrom (s.heap.objs.size+1) scope.names []).lookup y.1).isSome=true):=λ⟨n,v⟩ hy=>by
  rcases S.par n (List.of_mem_zip hy).1 with q|q
  ·exact .inl q
  ·exact .inr ⟨q,PySem.W.cellsFrom_some _ _ _ (.inl q)⟩
 refine codeAny_call_function hr.depth (KX _ _ lk) rfl S.co S.gen rfl (PySem.W.codeRec_of KX rL) (hb _ _ _ _ ?_)
 refine wpAny_newFunctionEnv_cells S.kind Ah λenv he s1 x=>?_
 subst he
 refine⟨lim.keeps x.toInCall.keep,codeAny_func ?_⟩
 obtain⟨t,ht,hq⟩:=jj A outer s H vs Q E (hr.deeper _) wI
 have I:Inv (kE CX P w K mg base N qual scope f cD A outer s H E) [] (start N vs) H s1:=pC S hr.hd e0 hl r x
 refine wpAny_mono (ht [] s1 (start N vs) H _ I hq) (λfl s' hs=>?_) λe s' hs=>hs
 have fin:∀{σ':St} {H':Hp} {v:V} {u:Value},Inv (kE CX P w K mg base N qual scope f cD A outer s H E) [] σ' H' s'->RelV v u->Q v H'->CE outer P w H s Q u s':=
  λ{σ' H' v u} J rv q=>⟨v,H',J.os,J.bare,J.base,J.cw,rv,q⟩
 cases fl with
 |ret u=>
  obtain⟨v,σ',H',J,rv,q⟩:=hs
  exact fin J rv q
 |next=>
  obtain⟨σ',H',J,q⟩:=hs
  exact fin (v:=V.eh) (u:=Value.none) J rfl q
 |brk=>
  obtain⟨_,_,_,q⟩:=hs
  exact False.elim q
 |cont=>
  obtain⟨_,_,_,q⟩:=hs
  exact False.elim q
section
variable {X:Cx} {x:Str} {p pos:Pos} {e:Expr} {es:List Expr} {t:TA} {id T:String} {r:List V->Hp->VK->Prop}
def CD(r:List V->Hp->VK->Prop)(t:TA):TE:=λσ H Q=>t σ H λvs H1=>r vs H1 Q
theorem rS(hc:bI X (.builtin id) r)(hg:Gl X x)(hm:X.mg x=none)(hv:bootBuiltins x=some (.builtin id))(ha:PA X (e::es) t)(hn:x≠"__name__":=by decide)(qm:(x == ("__debug__":Str))=false:=by decide)
  (he:starEach (e::es) X.env=(false,eval e X.env)::starEach es X.env:=by rfl) (gM:(backTo pos (starEach es X.env)).any (·.1)=false:=by rfl):PE X (.Call (.Name x p) (e::es) [] pos) (CD r t):=by
 intro pins s σ H Q I h
 refine wpAny_Call_Name_kw (lC I hg hm hv ?_ hn qm)
 exact PyProof.Rows.callWith_builtin1 (cI (ha pos pins s σ H _ I h) λus s1 ⟨vs,H1,I1,r1,q1⟩=>hc pins s1 σ H1 vs us Q I1 r1 q1) he gM
theorem yr(hc:bI X (.type T) r)(hg:Gl X x)(hm:X.mg x=none)(hv:bootBuiltins x=some (.type T))(ha:PA X (e::es) t)(hn:x≠"__name__":=by decide)(qm:(x == ("__debug__":Str))=false:=by decide)
  (he:starEach (e::es) X.env=(false,eval e X.env)::starEach es X.env:=by rfl) (gM:(backTo pos (starEach es X.env)).any (·.1)=false:=by rfl):PE X (.Call (.Name x p) (e::es) [] pos) (CD r t):=by
 intro pins s σ H Q I h
 refine wpAny_Call_Name_kw (lC I hg hm hv ?_ hn qm)
 exact PyProof.Rows.callWith_type1 (cI (ha pos pins s σ H _ I h) λus s1 ⟨vs,H1,I1,r1,q1⟩=>hc pins s1 σ H1 vs us Q I1 r1 q1) he gM
end
end L2
namespace HT
open PySem PyProof.Rows
section
open PySem.SeqAt
open PySem.AutoSeq1 (wpAny_loadPart')
open PySem.MeetsSeq PySem.MeetsSeq2 PySem.MeetsSeq3
end
section
variable {prog:Program} {w:World} {A:Around} {E:Value->Shared->Prop} {s:Shared}
theorem CF{t b:Addr}{vs ws:List Value}{Q:Value->Shared->Prop}(ht:IsTup s.heap t vs.toArray)(hb:IsTup s.heap b ws.toArray)(hv:vs ≠ [])
  (h1:ws = []->Q (.ref t) s) (h2:ws ≠ []->Q (.ref s.heap.objs.size) {s with heap:=s.heap.push {cls:=.type "tuple",data:=.seq (vs++ws).toArray}})
  (hsz:vs.length+ws.length<=sizeLine):wpAny (model prog w) A (binaryOp .Add (.ref t) (.ref b)) Q E s:=by
 obtain⟨⟨cls,dd,data,sl⟩,ho,hc,n,hd⟩:=id ht
 obtain⟨⟨Nw,ID,data2,L8⟩,F6,rE,n2,hd2⟩:=id hb
 simp only at hc hd rE hd2
 subst hc hd rE hd2
 have e:vs.toArray++ws.toArray=(vs++ws).toArray:=by simp
 by_cases hw:ws = []
 ·exact concat_meets ⟨_,ho,rfl⟩ ⟨_,F6,rfl⟩ noFill_tuple_add seq_tuple_add PySem.F.slot_tuple_add PySem.F.entry_tuple_add (PySem.F.args_tuple_add_2 _ _)
   (tuple_addW1 t b vs.toArray ws.toArray n n2 dd ID sl L8 (by simpa using hv) (by simp [hw])) ⟨ho,F6,h1 hw⟩
 ·refine concat_meets ⟨_,ho,rfl⟩ ⟨_,F6,rfl⟩ noFill_tuple_add seq_tuple_add PySem.F.slot_tuple_add PySem.F.entry_tuple_add (PySem.F.args_tuple_add_2 _ _)
   (tuple_addW2 t b vs.toArray ws.toArray n n2 dd ID sl L8 (by simpa using hv) (by simpa using hw) (by rw [List.size_toArray,List.size_toArray];exact hsz)) ⟨ho,F6,?_⟩
  rw [e]
  exact h2 hw
def eS(n d:Nat):Option Int->Nat
 |none=>d
 |some v=>if v<0 then (v+(n:Int)).toNat else min v.toNat n
theorem kG(n d:Nat):eS n d none=d:=rfl
theorem mH(n d k:Nat):eS n d (some (k:Int))=min k n:=by
 show (if (k:Int)<0 then ((k:Int)+(n:Int)).toNat else min (k:Int).toNat n)=min k n
 rw [if_neg (by omega),Int.toNat_natCast]
theorem F7(n d:Nat)(hd:d<=n)(o:Option Int):eS n d o<=n:=by
 cases o with
 |none=>exact hd
 |some v=>
  show (if v<0 then (v+(n:Int)).toNat else min v.toNat n)<=n
  by_cases hv:v<0
  ·rw [if_pos hv];omega
  ·rw [if_neg hv];exact Nat.min_le_right _ _
theorem wJ(v:Int)(n d:Nat):(if v<0 then max (v+(n:Int)) 0 else min v (n:Int))=((eS n d (some v):Nat):Int):=by
 show (if v<0 then max (v+(n:Int)) 0 else min v (n:Int))=(((if v<0 then (v+(n:Int)).toNat else min v.toNat n):Nat):Int)
 by_cases hv:v<0
 ·simp only [if_pos hv];omega
 ·simp only [if_neg hv];omega
theorem uD(lo hi:Option Int)(n:Nat):Builtin.Slice.sliceAdjust lo hi 1 (n:Int)=(((eS n 0 lo:Nat):Int),((eS n n hi:Nat):Int)):=by
 have h1 : ¬ ((1:Int)<0):=by omega
 unfold Builtin.Slice.sliceAdjust
 simp only [h1,if_false]
 refine Prod.ext ?_ ?_
 ·cases lo with
  |none=>rfl
  |some v=>exact wJ v n 0
 ·cases hi with
  |none=>rfl
  |some v=>exact wJ v n n
theorem uE(i j:Nat):Builtin.Slice.slicePlaces (i:Int) (j:Int) 1=j-i:=by
 unfold Builtin.Slice.slicePlaces
 have h1:(1:Int) > 0:=by omega
 simp only [h1,if_true,Int.ediv_one]
 split<;>omega
theorem nD{v:Value}{o:Option Int}{Q:Option Int->Shared->Prop}(p:IsPart v o)(h:Q o s):wpAny (model prog w) A (Builtin.Slice.slicePartIndex v) Q E s:=by
 cases p with
 |none=>exact slicePart_none h
 |int i t=>exact slicePart_int h
theorem iu{sl:Addr}{vl vu:Value}{lo hi:Option Int}{n:Nat}{Q:Int×Int×Nat->Shared->Prop}(hs:s.heap.IsSliceOf sl vl vu .none)(pl:IsPart vl lo)(pu:IsPart vu hi)
  (h:Q (((eS n 0 lo:Nat):Int),1,eS n n hi-eS n 0 lo) s):wpAny (model prog w) A (Builtin.Slice.sliceApplied (.ref sl) (pure (n:Int))) Q E s:=by
 obtain⟨os,zE,F8,Jy⟩:=id hs
 unfold Builtin.Slice.sliceApplied Builtin.Slice.sliceFields
 refine wpAny_bind (wpAny_bind (wpAny_field zE Jy (x:=vl) rfl (wpAny_bind (wpAny_field zE Jy (x:=vu) rfl (wpAny_bind (wpAny_field zE Jy (x:=.none) rfl (wpAny_pure ?_)))))))
 refine wpAny_bind (slicePart_none ?_)
 show wpAny _ _ (if ((1:Int) == 0)=true then _ else _) _ _ s
 rw [if_neg (by decide)]
 refine wpAny_bind (nD pl (wpAny_bind (nD pu (wpAny_bind (wpAny_pure ?_)))))
 show wpAny _ _ (match Builtin.Slice.sliceAdjust lo hi 1 (n:Int) with|(lo,hi)=>pure (lo,(1:Int),Builtin.Slice.slicePlaces lo hi 1)) _ _ s
 rw [uD lo hi n]
 show wpAny _ _ (pure (((eS n 0 lo:Nat):Int),(1:Int),Builtin.Slice.slicePlaces ((eS n 0 lo:Nat):Int) ((eS n n hi:Nat):Int) 1)) _ _ s
 rw [uE]
 exact wpAny_pure h
theorem Ai(xs:Array Value)(i k:Nat):((List.range k).filterMap λ(m:Nat)=>xs[((i:Int)+(m:Int)*1).toNat]?).toArray=((xs.toList.drop i).take k).toArray:=by
 have e:(λ(m:Nat)=>xs[((i:Int)+(m:Int)*1).toNat]?)=λm=>xs[i+m]? :=by
  funext m
  have:((i:Int)+(m:Int)*1).toNat=i+m:=by omega
  rw [this]
 rw [e]
 have:=pick_run xs i k
 rw [List.filterMap_map] at this
 have e2:((λx=>xs[x]?) ∘ λx=>i+x)=λm=>xs[i+m]? :=rfl
 rw [e2] at this
 rw [this]
theorem kH{t sl:Addr}{items:Array Value}{vl vu:Value}{lo hi:Option Int}{Q:Value->Shared->Prop}(ht:IsTup s.heap t items)(hs:s.heap.IsSliceOf sl vl vu .none)(pl:IsPart vl lo)(pu:IsPart vu hi)
  (hw : ¬ (eS items.size 0 lo=0/\eS items.size items.size hi=items.size))
  (h:Q (.ref s.heap.objs.size) {s with heap:=s.heap.push {cls:=.type "tuple",data:=.seq ((items.toList.drop (eS items.size 0 lo)).take (eS items.size items.size hi-eS items.size 0 lo)).toArray}})
  (hsz:items.size<=sizeLine):wpAny (model prog w) A (getItem (.ref t) (.ref sl)) Q E s:=by
 have lZ:sizeOk (.seq ((items.toList.drop (eS items.size 0 lo)).take (eS items.size items.size hi-eS items.size 0 lo)).toArray):=by
  show ((items.toList.drop (eS items.size 0 lo)).take (eS items.size items.size hi-eS items.size 0 lo)).toArray.size<=sizeLine
  rw [List.size_toArray,List.length_take,List.length_drop,Array.length_toList]
  omega
 have hj:eS items.size items.size hi<=items.size:=F7 _ _ (Nat.le_refl _) hi
 obtain⟨os,zE,F8,Jy⟩:=id hs
 have Nx:s.TypeIs (.ref sl) "slice":=⟨os,zE,F8⟩
 unfold getItem
 try with_reducible refine wpAny_holding ?_
 first|refine wpAny_bind (wpAny_pure ?_)|skip
 refine wpAny_bind (wpAny_sequenceKey ht.typeIs (by decide) ?_)
 refine wpAny_bind (wpAny_callSpecial?_slot (name:=Str.ofString "__getitem__") ht.typeIs PyProof.Rows.slot_tuple_getitem
  (wpAny_call_entry PyProof.Rows.slot_tuple_getitem ht.typeIs entry_tuple_getitem ?_ (args_tuple_getitem _ _)))
 show wpAny _ _ (Builtin.Tuple.tupleItemsOf (.ref t) >>= _) _ _ s
 refine wpAny_bind (tupleItemsOf_ ht ?_)
 refine wpAny_bind (wpAny_typeOf Nx ?_)
 rw [if_pos (by decide)]
 refine wpAny_bind (iu hs pl pu ?_)
 have rT : ¬ ((((eS items.size 0 lo:Nat):Int) == 0&&(1:Int) == 1&&(eS items.size items.size hi-eS items.size 0 lo) == items.size)=true):=by
  intro q
  rw [Bool.and_eq_true,Bool.and_eq_true] at q
  have q1:((eS items.size 0 lo:Nat):Int)=0:=eq_of_beq q.1.1
  have q2:eS items.size items.size hi-eS items.size 0 lo=items.size:=eq_of_beq q.2
  exact hw ⟨by omega,by omega⟩
 show wpAny _ _ (if (((eS items.size 0 lo:Nat):Int) == 0&&(1:Int) == 1&&(eS items.size items.size hi-eS items.size 0 lo) == items.size)=true then _ else _) _ _ s
 rw [if_neg rT,Ai]
 first
  |exact wpAny_bind (m:=Builtin.Tuple.tupleExact _) (wpAny_newObj_type (wpAny_pure ⟨_,rfl,wpAny_pure h⟩) lZ)
  |exact wpAny_bind (m:=Builtin.Tuple.tupleExact _) (wpAny_newObj_type (wpAny_bind (wpAny_pure (wpAny_pure ⟨_,rfl,wpAny_pure h⟩))) lZ)
  |exact wpAny_bind (wpAny_bind (m:=Builtin.Tuple.tupleExact _) (wpAny_newObj_type (wpAny_pure (wpAny_pure ⟨_,rfl,wpAny_pure h⟩)) lZ))
  |exact wpAny_bind (wpAny_bind (m:=Builtin.Tuple.tupleExact _) (wpAny_newObj_type (wpAny_pure ⟨_,rfl,wpAny_pure h⟩) lZ))
end
end HT
namespace L2
open PySem PySem.Spec PyProof.Rows
abbrev TO:=St->Hp->(Option Int->Hp->Prop)->Prop
def PO(X:Cx)(e:Option Expr)(t:TO):Prop:=
 ∀(pins:List (Addr×Obj)) (s:Shared) (σ:St) (H:Hp) (Q:Option Int->Hp->Prop),Inv X pins σ H s->t σ H Q ->
  wpAny (model X.prog X.w) X.A (evalPart e X.env) (λu s'=>∃o H',Inv X pins σ H' s'/\IsPart u o/\Q o H') X.xe s
def mI:TO:=λ_ H Q=>Q none H
def rV(t:TE):TO:=λσ H Q=>t σ H λx H1=>∃i,x=.int i/\Q (some i) H1
section
variable {X:Cx} {e:Expr} {te:TE} {lo hi:Option Expr} {tl th:TO} {pos p2:Pos}
theorem cp:PO X none mI:=by
 intro pins s σ H Q I h
 rw [evalPart_none]
 exact wpAny_pure ⟨none,H,I,.none,h⟩
theorem bV(h:PE X e te):PO X (some e) (rV te):=by
 intro pins s σ H Q I hw
 rw [evalPart_some]
 refine cI (h pins s σ H _ I hw) λu s1 ⟨x,H1,I1,r1,q1⟩=>?_
 obtain⟨i,rfl,q⟩:=q1
 obtain⟨t,rfl⟩:=r1
 exact⟨some i,H1,I1,.int i t,q⟩
def jb(X:Cx)(r:V->Option Int->Option Int->Hp->VK->Prop):Prop:=
 ∀(pins:List (Addr×Obj)) (s:Shared) (σ:St) (H:Hp) (x:V) (v vl vu:Value) (lo hi:Option Int) (sl:Addr) (Q:VK),Inv X pins σ H s->RelV x v->s.heap.IsSliceOf sl vl vu .none->IsPart vl lo->IsPart vu hi->r x lo hi H Q ->
  ∃T id,typeLookup (.type T) "__getitem__"=pure (some (.builtin id))/\s.TypeIs v T/\wpAny (model X.prog X.w) X.A (getItem v (.ref sl)) (EP X pins σ Q) X.xe s
def L9(r:V->Option Int->Option Int->Hp->VK->Prop)(te:TE)(tl th:TO):TE:=λσ H Q=>te σ H λx H1=>tl σ H1 λl H2=>th σ H2 λu H3=>r x l u H3 Q
theorem bJ{r:V->Option Int->Option Int->Hp->VK->Prop}(hr:jb X r)(he:PE X e te)(hl:PO X lo tl)(hu:PO X hi th):PE X (.Subscript e (.Slice lo hi none p2) pos) (L9 r te tl th):=by
 intro pins s σ H Q I h
 refine Subscript_ (cI (he pins s σ H _ I h) λv s1 ⟨x,H1,I1,r1,q1⟩=>?_)
 refine wpAny_Slice (cI (hl pins s1 σ H1 _ I1 q1) λvl s2 ⟨l,H2,I2,pl,q2⟩=>cI (hu pins s2 σ H2 _ I2 q2) λvu s3 ⟨u,H3,I3,pu,q3⟩=>?_)
 rw [evalPart_none]
 refine wpAny_pure ?_
 have I4:Inv X pins σ H3 {s3 with heap:=s3.heap.push {cls:=.type "slice",data:=.fields #[vl,vu,.none]}}:=I3.kept (t':=s3.toks) λb ob q=>Heap.get?_push_of_some _ q
 obtain⟨T,id,hT,ht,hg⟩:=hr pins {s3 with heap:=s3.heap.push {cls:=.type "slice",data:=.fields #[vl,vu,.none]}} σ H3 x v vl vu l u s3.heap.objs.size Q I4 r1 (Heap.IsSliceOf.new ..) pl pu q3
 show wpAny (model X.prog X.w) X.A (subscriptTail e (.Slice lo hi none p2) v (.ref s3.heap.objs.size)) (EP X pins σ Q) X.xe {s3 with heap:=s3.heap.push {cls:=.type "slice",data:=.fields #[vl,vu,.none]}}
 exact tail_any (ops:= [.ref s3.heap.objs.size,v]) ht hT hg (by with_unfolding_all rfl)
def fR(xs:List V)(lo hi:Option Int):List V:=(xs.drop (HT.eS xs.length 0 lo)).take (HT.eS xs.length xs.length hi-HT.eS xs.length 0 lo)
theorem jk(xs:List V)(lo hi:Option Int):(fR xs lo hi).length<=xs.length:=by
 unfold fR
 rw [List.length_take,List.length_drop]
 omega
def Ny(K:PySem.W.Frag):V->Option Int->Option Int->Hp->VK->Prop:=λx lo hi H Q=>∃a xs,x=.ref a/\aR K H a xs /\
 ¬ (HT.eS xs.length 0 lo=0/\HT.eS xs.length xs.length hi=xs.length)/\∀p,H p=none->Q (.ref p) (upd H p (.tup (fR xs lo hi)))
theorem F9:jb X (Ny X.K):=by
 intro pins s σ H x v vl vu lo hi sl Q I rx hs pl pu h
 obtain⟨a,xs,rfl,hx,hw,q⟩:=h
 cases rx
 obtain⟨its,r,ht,hz⟩:=I.tuple hx
 have hlen:its.toArray.size=xs.length:=by rw [List.size_toArray];exact r.length.symm
 refine⟨"tuple",_,PyProof.Rows.slot_tuple_getitem.lookup,ht.typeIs,?_⟩
 refine HT.kH ht hs pl pu (by rw [hlen];exact hw) ?_ (by rw [hlen];exact hz)
 rw [hlen]
 refine⟨.ref s.heap.objs.size,_,I.laid (t':=s.toks) (o:=.tup (fR xs lo hi)) (λb ob q=>Heap.get?_push_of_some _ q) (Nat.le_refl _) ?_,rfl,q _ (I.cw.fresh (Nat.le_refl _))⟩
 exact⟨Nat.le_trans (jk xs lo hi) hz,_,(r.drop (HT.eS xs.length 0 lo)).take (HT.eS xs.length xs.length hi-HT.eS xs.length 0 lo),IsTup.new _ _⟩
def Jz(K:PySem.W.Frag):R2:=λx y H Q=>∃a b xs ys,x=.ref a/\y=.ref b/\aR K H a xs/\aR K H b ys/\xs ≠ []/\xs.length+ys.length<=sizeLine /\
 (ys = []->Q (.ref a) H)/\(ys ≠ []->∀p,H p=none->Q (.ref p) (upd H p (.tup (xs++ys))))
theorem Vals.mJ{xs:List V}{us:List Value}(r:Vals xs us):us = []↔xs = []:=by
 cases r with
 |nil=>simp
 |cons _ _=>simp
theorem CG:eJ X (binaryOp .Add) (Jz X.K):=by
 intro pins s σ H x y v u Q I rx ry h
 obtain⟨a,b,xs,ys,rfl,rfl,ha,hb,hx,hz,q1,q2⟩:=h
 cases rx
 cases ry
 obtain⟨its,r1,p1,_⟩:=I.tuple ha
 obtain⟨gN,r2,p2,_⟩:=I.tuple hb
 refine HT.CF p1 p2 (λz=>hx (r1.mJ.mp z)) (λz=>⟨.ref a,H,I,rfl,q1 (r2.mJ.mp z)⟩) (λz=>?_) (by rw [<-r1.length,<-r2.length];exact hz)
 refine⟨.ref s.heap.objs.size,_,I.laid (t':=s.toks) (o:=.tup (xs++ys)) (λb ob q=>Heap.get?_push_of_some _ q) (Nat.le_refl _) ?_,rfl,q2 (λw=>z (r2.mJ.mpr w)) _ (I.cw.fresh (Nat.le_refl _))⟩
 exact⟨by rw [List.length_append];exact hz,_,r1.append r2,IsTup.new _ _⟩
end
def CH(n:Nat)(i:Int):Option Nat:=if 0<=i then (if i<n then some i.toNat else none) else if -(n:Int)<=i then some (i+n).toNat else none
def nE{α:Type}(xs:List α)(i:Int):Option α:=(CH xs.length i).bind λj=>xs[j]?
theorem wK{n:Nat}{i:Int}{j:Nat}(h:CH n i=some j):seqIndex? i n=some j/\j<n /\ -(n:Int)<=i/\i<n:=by
 unfold CH at h
 by_cases h0:0<=i
 ·rw [if_pos h0] at h
  by_cases h1:i<n
  ·rw [if_pos h1] at h
   have e:i.toNat=j:=Option.some.inj h
   exact⟨by rw [seqIndex_of h0 h1,e],by omega,by omega,h1⟩
  ·rw [if_neg h1] at h;cases h
 ·rw [if_neg h0] at h
  by_cases h1 : -(n:Int)<=i
  ·rw [if_pos h1] at h
   have e:(i+n).toNat=j:=Option.some.inj h
   exact⟨by rw [seqIndex_neg (by omega) h1,e],by omega,h1,by omega⟩
  ·rw [if_neg h1] at h;cases h
theorem kI{α:Type}{xs:List α}{i:Int}{v:α}(h:nE xs i=some v):∃j,seqIndex? i xs.length=some j/\xs[j]?=some v/\j<xs.length /\ -(xs.length:Int)<=i/\i<xs.length:=by
 unfold nE at h
 cases e:CH xs.length i with
 |none=>rw [e] at h;cases h
 |some j=>
  rw [e] at h
  obtain⟨h1,h2,h3,h4⟩:=wK e
  exact⟨j,h1,h,h2,h3,h4⟩
theorem au{α:Type}{xs:List α}{j:Nat}{v:α}(h:xs[j]?=some v):nE xs (j:Int)=some v:=by
 have hj:j<xs.length:=(List.getElem?_eq_some_iff.mp h).1
 have e:CH xs.length (j:Int)=some j:=by
  unfold CH
  rw [if_pos (by omega),if_pos (by omega)];simp
 unfold nE;rw [e];exact h
theorem rW{α:Type}(xs:List α)(v:α):nE (xs ++ [v]) (-1)=some v:=by
 have hl:(xs ++ [v]).length=xs.length+1:=by simp
 have e:CH (xs ++ [v]).length (-1)=some xs.length:=by
  unfold CH
  rw [hl,if_neg (by decide),if_pos (by omega)]
  congr 1
  omega
 unfold nE
 rw [e]
 show (xs ++ [v])[xs.length]?=some v
 simp
def CI(b:Expr):Prop:=∀o i,subscripted b false o i=operate [o,i] (getItem o i)
def gj(X:Cx)(r:R2):Prop:=
 ∀(value slice:Expr) (pins:List (Addr×Obj)) (s:Shared) (σ:St) (H:Hp) (x y:V) (v u:Value) (Q:VK),Inv X pins σ H s->RelV x v->RelV y u->r x y H Q ->
  subscripted slice false v u=operate [v,u] (getItem v u)->wpAny (model X.prog X.w) X.A (subscriptTail value slice v u) (EP X pins σ Q) X.xe s
def Ma(X:Cx)(id:String)(r:V->List V->Hp->VK->Prop):Prop:=
 ∀(pins:List (Addr×Obj)) (s:Shared) (σ:St) (H:Hp) (x:V) (xs:List V) (v:Value) (us:List Value) (Q:VK),Inv X pins σ H s->RelV x v->Vals xs us->r x xs H Q ->
  wpAny (model X.prog X.w) X.A (call (.builtin id) (v::us)) (EP X pins σ Q) X.xe s
section
variable {X:Cx} {a b:Expr} {ta tb:TE} {pos:Pos}
theorem aJ{r:R2}(hr:gj X r)(ha:PE X a ta)(hb:PE X b tb)(hs:CI b):PE X (.Subscript a b pos) (iG r ta tb):=by
 intro pins s σ H Q I h
 exact Subscript_ (FW ha hb I h λv u s2 x y H2 I2 rx ry q=>hr a b pins s2 σ H2 x y v u Q I2 rx ry q (hs _ _))
def yt(K:PySem.W.Frag):R2:=λx y H Q=>∃p xs i v,x=.ref p/\y=.int i/\bX K H p xs/\nE xs i=some v/\Q v H
def eu(K:PySem.W.Frag):R2:=λx y H Q=>∃p xs i v,x=.ref p/\y=.int i/\aR K H p xs/\nE xs i=some v/\Q v H
def Nz:R2:=λx y H Q=>∃z i c,x=.str z/\y=.int i/\z.length<=sizeLine/\nE z.cps.toList i=some c/\Q (.str ⟨#[c]⟩) H
theorem cU:gj X (yt X.K):=by
 intro value slice pins s σ H x y v u Q I rx ry h hs
 obtain⟨p,xs,i,z,rfl,rfl,hq,he,q⟩:=h
 cases rx
 obtain⟨t,rfl⟩:=ry
 obtain⟨its,r,pl,hz⟩:=I.list hq
 obtain⟨j,h1,h2,h3,h4,h5⟩:=kI he
 obtain⟨w,ew,CJ⟩:=r.get h2
 have hl:=r.length
 have hn:=lG
 have fin:EP X pins σ Q w s:=⟨z,H,I,CJ,q⟩
 by_cases h0:0<=i
 ·have hj:i.toNat=j:=by
   rw [seqIndex_of h0 h5] at h1
   exact Option.some.inj h1
  exact item_listR pl.isList h0 (by omega) (by rw [hj];simpa using ew) fin hs
 ·have hj:(i+(its.toArray.size:Int)).toNat=j:=by
   rw [seqIndex_neg (by omega) h4] at h1
   rw [List.size_toArray,<-hl]
   exact Option.some.inj h1
  exact subscriptTail_builtinR (x:=w) pl.isList.typeIs slot_list_getitem.lookup
   (wpAny_getItem_list_neg (Q:=λr s'=>r=w/\EP X pins σ Q r s') pl.isList (by omega) (by rw [List.size_toArray]<;>omega) (by omega) (by rw [hj];simpa using ew) ⟨rfl,fin⟩) hs
theorem aG:gj X (eu X.K):=by
 intro value slice pins s σ H x y v u Q I rx ry h hs
 obtain⟨p,xs,i,z,rfl,rfl,hq,he,q⟩:=h
 cases rx
 obtain⟨t,rfl⟩:=ry
 obtain⟨its,r,pl,hz⟩:=I.tuple hq
 obtain⟨j,h1,h2,h3,h4,h5⟩:=kI he
 obtain⟨w,ew,CJ⟩:=r.get h2
 have hl:=r.length
 have hn:=lG
 have fin:EP X pins σ Q w s:=⟨z,H,I,CJ,q⟩
 exact subscriptTail_builtinR (x:=w) pl.typeIs slot_tuple_getitem.lookup
  (getItem_tuple (j:=j) (Q:=λr s'=>r=w/\EP X pins σ Q r s') pl (by omega) (by omega) (by rw [List.size_toArray,<-hl];exact h1) (by simpa using ew) ⟨rfl,fin⟩) hs
theorem uF:gj X Nz:=by
 intro value slice pins s σ H x y v u Q I rx ry h hs
 obtain⟨z,i,c,rfl,rfl,hz,he,q⟩:=h
 obtain⟨t,rfl⟩:=rx
 obtain⟨t',rfl⟩:=ry
 obtain⟨j,h1,h2,h3,h4,h5⟩:=kI he
 have hl:z.cps.toList.length=z.length:=by simp [Str.length]
 rw [hl] at h1 h4 h5
 have hn:=lG
 exact tail_any (typeIs_str s z t) slot_str_getitem.lookup (getItem_str (c:=c) (by
  have e1:decide (i < -(2 ^ 63:Int))=false:=decide_eq_false (by omega)
  have e2:decide (i>=2 ^ 63)=false:=decide_eq_false (by omega)
  rw [e1,e2,Bool.or_false]) (by rw [h1];simpa using h2) ⟨.str ⟨#[c]⟩,H,I.tok _,⟨_,rfl⟩,q⟩) hs
theorem uG(its:List Value)(n j:Nat)(u:Value):Obj.mapSeq (·.setIfInBounds j u) {cls:=.type "list",data:=.seq its.toArray n}={cls:=.type "list",data:=.seq (its.set j u).toArray n}:=by
 simp [Obj.mapSeq]
theorem Inv.lst{pins:List (Addr×Obj)}{σ:St}{H:Hp}{s:Shared}{p:Addr}{xs:List V}(I:Inv X pins σ H s)(h:H p=some (.lst xs)) :
  ∃(its:List Value) (n:Nat),Vals xs its/\s.heap.get? p=some {cls:=.type "list",data:=.seq its.toArray n}/\xs.length<=sizeLine:=by
 obtain⟨z,its,n,r,e⟩:=I.cw p _ h
 exact⟨its,n,r,e,z⟩
theorem Inv.Ga{pins:List (Addr×Obj)}{σ:St}{H:Hp}{s:Shared}{p:Addr}{xs ys:List V}{its its':List Value}{n n':Nat}{f:Obj->Obj}(I:Inv X pins σ H s)(h:H p=some (.lst xs))
  (ho:s.heap.get? p=some {cls:=.type "list",data:=.seq its.toArray n}) (hf:f {cls:=.type "list",data:=.seq its.toArray n}={cls:=.type "list",data:=.seq its'.toArray n'}) (r:Vals ys its') (hz:ys.length<=sizeLine) (t:Nat) :
  Inv X pins σ (upd H p (.lst ys)) {s with heap:=s.heap.update p f,toks:=t}:=by
 have e:(s.heap.update p f).get? p=some {cls:=.type "list",data:=.seq its'.toArray n'}:=by
  rw [Heap.get?_update_self f ho (by rw [hf]<;>rfl),hf]
 refine I.write (x:=p) (e:=p) (by rw [h];trivial) (.inl rfl) (λb u hb q=>(Heap.get?_update_other _ _ (Ne.symm hb)).trans q) ⟨_,e⟩ ?_
 exact⟨hz,its',n',r,e⟩
def JA:V->V->V->Hp->(Hp->Prop)->Prop:=λo i v H Q=>∃p xs k j,o=.ref p/\i=.int k/\H p=some (.lst xs)/\CH xs.length k=some j/\Q (upd H p (.lst (xs.set j v)))
theorem set_list:eU X JA:=by
 intro pins s σ H o i v ov iv u Q I ro ri rv h
 obtain⟨p,xs,k,j,rfl,rfl,hp,hj,q⟩:=h
 cases ro
 obtain⟨t,rfl⟩:=ri
 obtain⟨its,n,r,ho,hz⟩:=I.lst hp
 obtain⟨h1,h2,h3,h4⟩:=wK hj
 have hl:=r.length
 have hn:=lG
 have I':Inv X pins σ (upd H p (.lst (xs.set j v))) {s with heap:=s.heap.update p (Obj.mapSeq (·.setIfInBounds j u))}:=
  I.Ga hp ho (uG its n j u) (r.set rv j) (by rw [List.length_set];exact hz) s.toks
 by_cases h0:0<=k
 ·have hk:k.toNat=j:=by
   rw [seqIndex_of h0 h4] at h1
   exact Option.some.inj h1
  exact PySem.W.ki_setAt ho h0 (by omega) (by rw [List.size_toArray,<-hl];exact h4) (by rw [hk];exact⟨_,I',q⟩)
 ·have hk:(k+(its.toArray.size:Int)).toNat=j:=by
   rw [seqIndex_neg (by omega) h3] at h1
   rw [List.size_toArray,<-hl]
   exact Option.some.inj h1
  exact PySem.W.ki_setBack ho (by omega) (by rw [List.size_toArray,<-hl];exact h3) (by omega) (by rw [hk];exact⟨_,I',q⟩)
theorem qo(lo hi:Option Int)(n:Nat):(sliceBounds lo hi none n).1=((HT.eS n 0 lo:Nat):Int)/\(sliceBounds lo hi none n).2.1=((HT.eS n n hi:Nat):Int)/\(sliceBounds lo hi none n).2.2=1:=by
 refine⟨?_,?_,rfl⟩
 ·cases lo with
  |none=>simp [sliceBounds,HT.eS]
  |some i=>
   simp only [sliceBounds,HT.eS,Option.getD_none,show (1:Int) > 0 by decide,if_true]
   by_cases h:i<0
   ·simp only [h,if_true]<;>omega
   ·simp only [h,if_false]<;>omega
 ·cases hi with
  |none=>simp [sliceBounds,HT.eS]
  |some i=>
   simp only [sliceBounds,HT.eS,Option.getD_none,show (1:Int) > 0 by decide,if_true]
   by_cases h:i<0
   ·simp only [h,if_true]<;>omega
   ·simp only [h,if_false]<;>omega
theorem oR(its:List Value)(lo hi:Option Int):slicePick its.toArray lo hi none=((its.drop (HT.eS its.length 0 lo)).take (HT.eS its.length its.length hi-HT.eS its.length 0 lo)).toArray:=by
 obtain⟨h1,h2,h3⟩:=qo lo hi its.toArray.size
 unfold slicePick
 rw [h1,h2,h3]
 simp only [sliceRange_one,pick_run,List.size_toArray]<;>rfl
def NA(K:PySem.W.Frag):V->Option Int->Option Int->Hp->VK->Prop:=λx lo hi H Q=>∃a xs,x=.ref a/\bX K H a xs/\∀p,H p=none->Q (.ref p) (upd H p (.lst (fR xs lo hi)))
theorem iM:jb X (NA X.K):=by
 intro pins s σ H x v vl vu lo hi sl Q I rx hs pl pu h
 obtain⟨a,xs,rfl,hx,q⟩:=h
 cases rx
 obtain⟨its,r,ht,hz⟩:=I.list hx
 have hlen:=r.length
 refine⟨"list",_,slot_list_getitem.lookup,ht.isList.typeIs,?_⟩
 refine wpAny_getItem_list_slice ht.isList hs pl pu .none (by simp) ?_ (by rw [List.size_toArray]<;>omega)
 rw [oR,<-hlen]
 refine⟨.ref s.heap.objs.size,_,I.laid (t':=s.toks) (o:=.lst (fR xs lo hi)) (λb ob q=>Heap.get?_push_of_some _ q) (Nat.le_refl _) ?_,rfl,q _ (I.cw.fresh (Nat.le_refl _))⟩
 exact⟨Nat.le_trans (jk xs lo hi) hz,_,0,(r.drop (HT.eS xs.length 0 lo)).take (HT.eS xs.length xs.length hi-HT.eS xs.length 0 lo),Heap.get?_push_size _ rfl⟩
def iw:V->Bool
 |.eh=>true
 |.bl _=>true
 |.int _=>true
 |.str _=>true
 |_=>false
def wL:V->V->Bool
 |.eh,.eh=>true
 |.bl a,.bl b=>a == b
 |.bl a,.int b=>(if a then 1 else 0) == b
 |.int a,.bl b=>a == (if b then 1 else 0)
 |.int a,.int b=>a == b
 |.str a,.str b=>a == b
 |_,_=>false
theorem qp{A:Around}{s:Shared}{y x:V}{u v:Value}(ry:RelV y u)(rx:RelV x v)(fy:iw y=true)(fx:iw x=true):SeqAt.EqAt A s u v (wL y x):=by
 cases y with
 |eh=>
  cases ry
  cases x with
  |eh=>cases rx;exact SeqAt.EqAt.same _
  |bl b=>cases rx;exact SeqAt.EqAt.none_bool b
  |int b=>obtain⟨t,rfl⟩:=rx;exact SeqAt.EqAt.none_int b t
  |str b=>obtain⟨t,rfl⟩:=rx;exact SeqAt.EqAt.none_str b t
  |_=>exact absurd (show false=true from fx) Bool.false_ne_true
 |bl a=>
  cases ry
  cases x with
  |eh=>cases rx;exact SeqAt.EqAt.bool_none a
  |bl b=>cases rx;exact SeqAt.EqAt.bool_bool a b
  |int b=>obtain⟨t,rfl⟩:=rx;exact SeqAt.EqAt.bool_int a b t
  |str b=>obtain⟨t,rfl⟩:=rx;exact SeqAt.EqAt.bool_str a b t
  |_=>exact absurd (show false=true from fx) Bool.false_ne_true
 |int a=>
  obtain⟨t',rfl⟩:=ry
  cases x with
  |eh=>cases rx;exact SeqAt.EqAt.int_none a t'
  |bl b=>cases rx;exact SeqAt.EqAt.int_bool a t' b
  |int b=>obtain⟨t,rfl⟩:=rx;exact SeqAt.EqAt.int_int a t' b t
  |str b=>obtain⟨t,rfl⟩:=rx;exact SeqAt.EqAt.int_str a t' b t
  |_=>exact absurd (show false=true from fx) Bool.false_ne_true
 |str a=>
  obtain⟨t',rfl⟩:=ry
  cases x with
  |eh=>cases rx;exact SeqAt.EqAt.str_none a t'
  |bl b=>cases rx;exact SeqAt.EqAt.str_bool a t' b
  |int b=>obtain⟨t,rfl⟩:=rx;exact SeqAt.EqAt.str_int a t' b t
  |str b=>obtain⟨t,rfl⟩:=rx;exact SeqAt.EqAt.str_str a t' b t
  |_=>exact absurd (show false=true from fx) Bool.false_ne_true
 |_=>exact absurd (show false=true from fy) Bool.false_ne_true
def uH(x:V)(u:Value):Bool:=match u with
 |.none=>wL .eh x
 |.bool b=>wL (.bl b) x
 |.int i _=>wL (.int i) x
 |.str z _=>wL (.str z) x
 |_=>false
theorem Aj{x y:V}{u:Value}(r:RelV y u)(f:iw y=true):uH x u=wL y x:=by
 cases y with
 |eh=>cases r;rfl
 |bl b=>cases r;rfl
 |int i=>obtain⟨t,rfl⟩:=r;rfl
 |str z=>obtain⟨t,rfl⟩:=r;rfl
 |_=>exact absurd (show false=true from f) Bool.false_ne_true
theorem kJ{x:V}:∀{xs:List V} {us:List Value},Vals xs us->xs.all iw=true->us.any (uH x)=xs.any λy=>wL y x
 |_,_,.nil,_=>rfl
 |y::xs,u::us,.cons r t,f=>by
  rw [List.all_cons,Bool.and_eq_true] at f
  rw [List.any_cons,List.any_cons,Aj r f.1,kJ t f.2]
theorem jl{A:Around}{s:Shared}{x:V}{v:Value}(rx:RelV x v)(fx:iw x=true):∀{xs:List V} {us:List Value},Vals xs us->xs.all iw=true->∀u∈us,SeqAt.EqAt A s u v (uH x u)
 |_,_,.nil,_=>λu hu=>by cases hu
 |y::xs,u::us,.cons r t,f=>λu' hu=>by
  rw [List.all_cons,Bool.and_eq_true] at f
  rcases List.mem_cons.mp hu with rfl|hu
  ·rw [Aj r f.1];exact qp r rx f.1 fx
  ·exact jl rx fx t f.2 u' hu
def uI(x:V)(xs:List V):Bool:=xs.any λy=>wL y x
def RE(K:PySem.W.Frag)(neg:Bool):R2:=λx y H Q=>∃p xs,y=.ref p/\(bX K H p xs\/aR K H p xs)/\iw x=true/\xs.all iw=true/\Q (.bl (if neg then !uI x xs else uI x xs)) H
theorem fL:eJ X (compareOp .In) (RE X.K false):=by
 intro pins s σ H x y v u Q I rx ry h
 obtain⟨p,xs,rfl,hq,fx,fs,q⟩:=h
 cases ry
 rcases hq with hq|hq
 ·obtain⟨its,r,pl,hz⟩:=I.list hq
  refine SeqAt.in_listAt (uH x) pl.isList (λw hw=>jl rx fx r fs w (by simpa using hw)) ⟨.bl _,H,I,rfl,?_⟩
  rw [show its.toArray.any (uH x)=its.any (uH x) by simp,kJ r fs]
  exact q
 ·obtain⟨its,r,pl,hz⟩:=I.tuple hq
  refine SeqAt.in_tupleAt (uH x) pl (λw hw=>jl rx fx r fs w (by simpa using hw)) ⟨.bl _,H,I,rfl,?_⟩
  rw [show its.toArray.any (uH x)=its.any (uH x) by simp,kJ r fs]
  exact q
theorem qq:eJ X (compareOp .NotIn) (RE X.K true):=by
 intro pins s σ H x y v u Q I rx ry h
 obtain⟨p,xs,rfl,hq,fx,fs,q⟩:=h
 cases ry
 rcases hq with hq|hq
 ·obtain⟨its,r,pl,hz⟩:=I.list hq
  refine SeqAt.notIn_listAt (uH x) pl.isList (λw hw=>jl rx fx r fs w (by simpa using hw)) ⟨.bl _,H,I,rfl,?_⟩
  rw [show its.toArray.any (uH x)=its.any (uH x) by simp,kJ r fs]
  exact q
 ·obtain⟨its,r,pl,hz⟩:=I.tuple hq
  refine SeqAt.notIn_tupleAt (uH x) pl (λw hw=>jl rx fx r fs w (by simpa using hw)) ⟨.bl _,H,I,rfl,?_⟩
  rw [show its.toArray.any (uH x)=its.any (uH x) by simp,kJ r fs]
  exact q
theorem aN:bI X (.builtin "len") (λxs H Q=>∃p ys,xs = [.ref p]/\(bX X.K H p ys\/aR X.K H p ys)/\Q (.int ys.length) H):=by
 intro pins s σ H xs us Q I r h
 obtain⟨p,ys,rfl,hq,q⟩:=h
 obtain⟨u,rfl,rx⟩:=vals1 r
 cases rx
 have hn:=lG
 rcases hq with hq|hq
 ·obtain⟨its,r',pl,hz⟩:=I.list hq
  have hlen:=r'.length
  exact Calls.call_len_list pl.isList (by simp only [List.size_toArray]<;>omega) ⟨.int ys.length,H,I.tok _,⟨s.toks+1,by rw [List.size_toArray,hlen]⟩,q⟩
 ·obtain⟨its,r',pl,hz⟩:=I.tuple hq
  have hlen:=r'.length
  exact len_tuple pl (by simp only [List.size_toArray]<;>omega) ⟨.int ys.length,H,I.tok _,⟨s.toks+1,by rw [List.size_toArray,hlen]⟩,q⟩
theorem iN:bI X (.builtin "len") (λxs H Q=>∃z,xs = [.str z]/\z.length<=sizeLine/\Q (.int z.length) H):=by
 intro pins s σ H xs us Q I r h
 obtain⟨z,rfl,hz,q⟩:=h
 obtain⟨u,rfl,t,rfl⟩:=vals1 r
 have hn:=lG
 exact len_str (by omega) ⟨.int z.length,H,I.tok _,⟨_,rfl⟩,q⟩
theorem cJ:bI X (.type "list") (λxs H Q=>∃p ys,xs = [.ref p]/\(bX X.K H p ys\/aR X.K H p ys)/\∀l,H l=none->Q (.ref l) (upd H l (.lst ys))):=by
 intro pins s σ H xs us Q I r h
 obtain⟨p,ys,rfl,hq,q⟩:=h
 obtain⟨u,rfl,rx⟩:=vals1 r
 cases rx
 have fin:∀(its:List Value),Vals ys its->ys.length<=sizeLine->∀(h':Heap) (c':Nat),(∀b o',s.heap.get? b=some o'->h'.get? b=some o') ->
   h'.get? s.heap.objs.size=some {cls:=.type "list",dict:=none,data:=.seq its.toArray c',slots:=#[]}->EP X pins σ Q (.ref s.heap.objs.size) {s with heap:=h'}:=λits r' hz h' c' kp e=>
  ⟨.ref s.heap.objs.size,_,I.laid (t':=s.toks) kp (Nat.le_refl _) (show cZ X.prog X.w _ h' _ (.lst ys) from⟨hz,its,c',r',e⟩),rfl,q _ (I.cw.fresh (Nat.le_refl _))⟩
 rcases hq with hq|hq
 ·obtain⟨its,r',pl,hz⟩:=I.list hq
  have hlen:=r'.length
  obtain⟨o,ho,hc,n,hd⟩:=pl.isList
  exact call_list_seq p (.inl rfl) ho hc hd (λh' c' kp e=>fin its r' hz h' c' kp e) (by simp only [List.size_toArray]<;>omega)
 ·obtain⟨its,r',pl,hz⟩:=I.tuple hq
  have hlen:=r'.length
  obtain⟨o,ho,hc,n,hd⟩:=pl
  exact call_list_seq p (.inr rfl) ho hc hd (λh' c' kp e=>fin its r' hz h' c' kp e) (by simp only [List.size_toArray]<;>omega)
theorem dD:bI X (.type "tuple") (λxs H Q=>∃p ys,xs = [.ref p]/\((bX X.K H p ys/\∀l,H l=none->Q (.ref l) (upd H l (.tup ys)))\/(aR X.K H p ys/\Q (.ref p) H))):=by
 intro pins s σ H xs us Q I r h
 obtain⟨p,ys,rfl,h⟩:=h
 obtain⟨u,rfl,rx⟩:=vals1 r
 cases rx
 rcases h with ⟨hq,q⟩|⟨hq,q⟩
 ·obtain⟨its,r',pl,hz⟩:=I.list hq
  have hlen:=r'.length
  refine call_tuple_list pl.isList (λh' kp=>?_) (by simp only [List.size_toArray]<;>omega)
  have I1:Inv X pins σ H {s with heap:=h'}:=I.kept (t':=s.toks) kp
  have I2:Inv X pins σ (upd H h'.objs.size (.tup ys)) {s with heap:=h'.push {cls:=.type "tuple",data:=.seq its.toArray}}:=
   I1.laid (t':=s.toks) (λb o e=>Heap.get?_push_of_some _ e) (Nat.le_refl _) (show cZ X.prog X.w _ _ _ (.tup ys) from⟨hz,its,r',IsTup.new _ _⟩)
  exact⟨.ref h'.objs.size,_,I2,rfl,q _ (I1.cw.fresh (Nat.le_refl _))⟩
 ·obtain⟨its,r',pl,hz⟩:=I.tuple hq
  exact call_tuple_same pl ⟨.ref p,H,I,rfl,q⟩
def RF(K:PySem.W.Frag)(T:String)(x:V)(H:Hp):Prop:=match x with
 |.str _=>T="str"
 |.int _=>T="int"
 |.ref p=>(T="list"/\∃xs,bX K H p xs)\/(T="tuple"/\∃o,K.lookup p=some o/\o.cls=.type "tuple"/\o.dict=none) \/
   (T="dict"/\((∃kvs,H p=some (.dK kvs))\/∃kvs,H p=some (.dT kvs)))\/(T="set"/\∃S n,H p=some (.set S n))
 |_=>False
theorem Gb{pins:List (Addr×Obj)}{σ:St}{H:Hp}{s:Shared}{T:String}{x:V}{v:Value}(I:Inv X pins σ H s)(r:RelV x v)(ty:RF X.K T x H) :
  s.TypeIs v T/\∀a,v=.ref a->∃ob,s.heap.get? a=some ob/\ob.dict=none:=by
 cases x with
 |str z=>
  obtain⟨t,rfl⟩:=r
  cases (show T="str" from ty)
  exact⟨typeIs_str s z t,λ_ e=>nomatch e⟩
 |int i=>
  obtain⟨t,rfl⟩:=r
  cases (show T="int" from ty)
  exact⟨typeIs_int s i t,λ_ e=>nomatch e⟩
 |ref p=>
  cases r
  rcases ty with ⟨rfl,xs,hq⟩|⟨rfl,o,hk,hc,hd⟩|⟨rfl,hk⟩|⟨rfl,S,n,hk⟩
  ·obtain⟨its,_,pl,_⟩:=I.list hq
   refine⟨pl.isList.typeIs,λa e=>?_⟩
   cases e
   obtain⟨o,n,e,c,hd,_⟩:=pl
   exact⟨o,e,hd⟩
  ·refine⟨⟨o,I.kx p o hk,hc⟩,λa e=>?_⟩
   cases e
   exact⟨o,I.kx _ o hk,hd⟩
  ·have z:∃o,s.heap.get? p=some o/\o.ExactDict:=by
    rcases hk with ⟨kvs,hk⟩|⟨kvs,hk⟩
    ·obtain⟨_,_,_,_,o,_,_,e,ex,_⟩:=I.cw p _ hk
     exact⟨o,e,ex⟩
    ·obtain⟨_,_,_,_,o,_,_,e,ex,_⟩:=I.cw p _ hk
     exact⟨o,e,ex⟩
   obtain⟨o,e,ex⟩:=z
   refine⟨⟨o,e,ex.1⟩,λa e2=>?_⟩
   cases e2
   exact⟨o,e,ex.2.1⟩
  ·obtain⟨o,_,_,_,e,ex,_⟩:=I.cw p _ hk
   refine⟨⟨o,e,ex.1⟩,λa e2=>?_⟩
   cases e2
   exact⟨o,e,ex.2.1⟩
 |_=>exact False.elim ty
def NB(K:PySem.W.Frag)(T:String)(r:V->List V->Hp->VK->Prop)(to:TE)(t:TA):TE:=λσ H Q=>to σ H λx H1=>RF K T x H1/\t σ H1 λxs H2=>r x xs H2 Q
variable {o e:Expr} {es:List Expr} {to:TE} {t:TA} {name:Str} {apos gO:Pos} {T id:String} {r:V->List V->Hp->VK->Prop}
theorem j3(pa:PlainAttrs T)(slot:Slot T name id)(T2:typeOf (.builtin id)=pure (.type "method_descriptor"))(hm:Ma X id r)(ho:PE X o to)(ha:PA X (e::es) t)
  (rX:attributeBase o name X.env (eval o X.env)=eval o X.env:=by rfl)
  (Gd:((backTo gO (starEach (e::es) X.env)).all (λx=>!x.1)&&(backToKw gO (keywordEach [] X.env)).all (λx=>x.1.isSome)
   && decide ((e::es).length+([]:List Keyword).length+(if ([]:List Keyword).isEmpty then 0 else 1)<30))=true:=by rfl)
  (Ak:(apos.endLine == gO.line)=true:=by rfl) (hs:starEach (e::es) X.env=(false,eval e X.env)::starEach es X.env:=by rfl) (Ge:(backTo gO (starEach es X.env)).any (·.1)=false:=by rfl) :
  PE X (.Call (.Attribute o name apos) (e::es) [] gO) (NB X.K T r to t):=by
 intro pins s σ H Q I h
 refine wpAny_Call_method_late rX Gd Ak rfl (cI (ho pins s σ H _ I h) λv s1 ⟨x,H1,I1,r1,ty,q1⟩=>?_)
 obtain⟨h1,h2⟩:=Gb I1 r1 ty
 refine⟨T,id,pa,slot,T2,h1,h2,?_⟩
 have hA:=ha gO pins s1 σ H1 _ I1 q1
 rw [hs] at hA ⊢
 refine Calls.callWith_builtin (by show (false||(backTo gO (starEach es X.env)).any (·.1))=false;rw [Ge]<;>rfl) (Calls.evalArgs_plain ?_)
 exact cI hA λus s2 ⟨vs,H2,I2,r2,q2⟩=>hm pins s2 σ H2 x vs v us Q I2 r1 r2 q2
end
def T5(X:Cx)(id:String)(r:V->List V->Hp->VK->Prop):Prop:=
 ∀(pins:List (Addr×Obj)) (s:Shared) (σ:St) (H:Hp) (x:V) (xs:List V) (v:Value) (us:List Value) (Q:VK),Inv X pins σ H s->RelV x v->Vals xs us->r x xs H Q ->
  wpAny (model X.prog X.w) X.A (call (.builtin id) (v::us)) (EP X pins σ Q) X.xe s
theorem Vals.one:∀{x:V} {us:List Value},Vals [x] us->∃u,us = [u]/\RelV x u
 |_,_,.cons r .nil=>⟨_,rfl,r⟩
theorem Vals.two:∀{x y:V} {us:List Value},Vals [x,y] us->∃u v,us = [u,v]/\RelV x u/\RelV y v
 |_,_,_,.cons r (.cons q .nil)=>⟨_,_,rfl,r,q⟩
theorem Vals.zero:∀{us:List Value},Vals [] us->us = []
 |_,.nil=>rfl
theorem Vals.rep{xs:List V}{us:List Value}(h:Vals xs us):∀k:Nat,Vals (List.replicate k xs).flatten (List.replicate k us).flatten
 |0=>.nil
 |k+1=>by
  rw [List.replicate_succ,List.replicate_succ,List.flatten_cons,List.flatten_cons]
  exact Vals.append h (Vals.rep h k)
theorem foldl_rep(its:List Value):∀(k:Nat) (acc:List Value),
  List.foldl (λx1 x2=>x1++x2) acc.toArray (List.replicate k its.toArray)=(acc++(List.replicate k its).flatten).toArray
 |0,acc=>by simp
 |k+1,acc=>by
  have e:acc.toArray++its.toArray=(acc++its).toArray:=by simp
  have e2:(acc++its)++(List.replicate k its).flatten=acc++(List.replicate (k+1) its).flatten:=by
   rw [List.replicate_succ,List.flatten_cons,List.append_assoc]
  rw [<-e2,<-foldl_rep its k (acc++its),<-e,List.replicate_succ,List.foldl_cons]
section
variable {X:Cx} {pins:List (Addr×Obj)} {σ:St} {H:Hp} {s:Shared} {l b:Addr} {xs ys zs:List V}
theorem Inv.NC{its its':List Value}{n:Nat}{f:Array Value->Array Value}{t':Nat}(I:Inv X pins σ H s)(hH:H l=some (.lst xs))
  (e:s.heap.get? l=some {cls:=.type "list",data:=.seq its.toArray n}) (hf:f its.toArray=its'.toArray) (hv:Vals ys its') (hz:ys.length<=sizeLine) :
  Inv X pins σ (upd H l (.lst ys)) {s with heap:=s.heap.update l (Obj.mapSeq f),toks:=t'}:=by
 have q:=PySem.IsL.update e f
 rw [hf] at q
 refine I.write (x:=l) (e:=l) (by rw [hH];exact trivial) (.inl rfl) (λb' u hb hu=>(Heap.get?_update_other s.heap (Obj.mapSeq f) (Ne.symm hb)).trans hu) ⟨_,q⟩ ?_
 exact⟨hz,its',_,hv,q⟩
theorem Inv.Gf{its:List Value}{t':Nat}(I:Inv X pins σ H s)(hv:Vals ys its)(hz:ys.length<=sizeLine) :
  Inv X pins σ (upd H s.heap.objs.size (.lst ys)) {s with heap:=s.heap.push {cls:=.type "list",data:=.seq its.toArray},toks:=t'}:=
 I.laid (λ_ _ q=>Heap.get?_push_of_some _ q) (Nat.le_refl _) ⟨hz,its,0,hv,Heap.get?_push_size _ rfl⟩
theorem Inv.fresh(I:Inv X pins σ H s):H s.heap.objs.size=none:=I.cw.fresh (Nat.le_refl _)
theorem Inv.CK(I:Inv X pins σ H s)(hH:H l=some (.lst xs)):xs.length<=sizeLine/\∃(its:List Value) (n:Nat),Vals xs its/\xs.length=its.length/\s.heap.get? l=some {cls:=.type "list",data:=.seq its.toArray n}:=by
 obtain⟨z,its,n,r,e⟩:=I.cw l _ hH
 exact⟨z,its,n,r,r.length,e⟩
theorem Al{n:Nat}(h:n<=sizeLine):Builtin.List.listTooLong n=false:=by
 unfold Builtin.List.listTooLong
 exact decide_eq_false (by omega)
end
section
variable {X:Cx}
def wM:V->List V->Hp->VK->Prop:=λx vs H Q=>∃l xs y,x=.ref l/\vs = [y]/\H l=some (.lst xs)/\xs.length<sizeLine/\Q .eh (upd H l (.lst (xs ++ [y])))
theorem fM:T5 X "list.append" wM:=by
 intro pins s σ H x vs v us Q I rx rv h
 obtain⟨l,xs,y,rfl,rfl,hH,hz,q⟩:=h
 cases rx
 obtain⟨u,rfl,ru⟩:=rv.one
 obtain⟨z,its,n,r,hl,e⟩:=I.CK hH
 refine call_meets F.slot_list_append ⟨_,e,rfl⟩ F.entry_list_append (F.args_list_append_2 _ _) (PySem.list_append l its.toArray n u (by rw [List.size_toArray];omega)) ⟨e,?_⟩
 refine⟨.eh,_,I.NC (its':=its ++ [u]) hH e (by simp) (r.append (.cons ru .nil)) ?_,rfl,q⟩
 rw [List.length_append,List.length_singleton]
 omega
def Gg:R2:=λx y H Q=>∃l b xs zs,x=.ref l/\y=.ref b/\H l=some (.lst xs)/\H b=some (.lst zs)/\xs.length+zs.length<=sizeLine/\∀p,H p=none->Q (.ref p) (upd H p (.lst (xs++zs)))
theorem dE:eJ X (binaryOp .Add) Gg:=by
 intro pins s σ H x y v u Q I rx ry h
 obtain⟨l,b,xs,zs,rfl,rfl,hH,hB,hz,q⟩:=h
 cases rx
 cases ry
 obtain⟨z,its,n,r,hl,e⟩:=I.CK hH
 obtain⟨z2,gN,n2,r2,ET,e2⟩:=I.CK hB
 refine PySem.P.add_list e e2 ?_ (by rw [List.size_toArray,List.size_toArray];omega)
 have ea:its.toArray++gN.toArray=(its++gN).toArray:=by simp
 rw [ea]
 exact⟨.ref _,_,I.Gf (t':=s.toks) (r.append r2) (by rw [List.length_append];omega),rfl,q _ I.fresh⟩
def JB:R2:=λx y H Q=>∃l k xs,x=.ref l/\y=.int k/\H l=some (.lst xs) /\ -(2 ^ 63)<=k/\k<2 ^ 63/\xs.length*k.toNat<=sizeLine /\
 ∀p,H p=none->Q (.ref p) (upd H p (.lst (List.replicate k.toNat xs).flatten))
theorem len_rep{α:Type}(xs:List α)(k:Nat):(List.replicate k xs).flatten.length=k*xs.length:=by
 induction k with
 |zero=>simp
 |succ k ih=>rw [List.replicate_succ,List.flatten_cons,List.length_append,ih,Nat.succ_mul,Nat.add_comm]
theorem Gh:eJ X (binaryOp .Mult) JB:=by
 intro pins s σ H x y v u Q I rx ry h
 obtain⟨l,k,xs,rfl,rfl,hH,h1,h2,hz,q⟩:=h
 cases rx
 obtain⟨t,rfl⟩:=ry
 obtain⟨z,its,n,r,hl,e⟩:=I.CK hH
 have hlen:its.toArray.size*k.toNat<=sizeLine:=by rw [List.size_toArray,<-hl];exact hz
 have ND : ¬its.toArray.size*k.toNat > (2 ^ 63-1) / 8:=by
  have:(sizeLine:Nat)<=(2 ^ 63-1) / 8:=by decide
  omega
 have NF : ¬ (!Builtin.List.listFitsIndex k)=true:=by
  rw [fitsIndex_both h1 h2]
  exact Bool.false_ne_true
 have JC : ¬Builtin.List.listTooLong (its.toArray.size*k.toNat)=true:=by
  rw [Al hlen]
  exact Bool.false_ne_true
 have Am:List.foldl (λx1 x2=>x1++x2) #[] (List.replicate (if its.toArray.isEmpty=true then 0 else k.toNat) its.toArray)=(List.replicate k.toNat its).flatten.toArray:=by
  have f0:∀m:Nat,List.foldl (λx1 x2=>x1++x2) #[] (List.replicate m its.toArray)=(List.replicate m its).flatten.toArray:=λm=>by
   have:=foldl_rep its m []
   rw [List.nil_append] at this
   exact this
  rw [f0]
  cases its with
  |nil=>simp
  |cons a r'=>rw [if_neg (by simp)]
 refine wpAny_binaryOp_repeat_ref (T:="list") (U:="int") (by decide) ⟨_,e,rfl⟩ (λs'=>typeIs_int s' k t) noFill_list_mul F.fills_int_mul F.slot_int_rmul repeat_list F.slot_int_index.lookup
  (call_meets F.slot_int_rmul (typeIs_int s k t) F.entry_int_rmul (F.args_int_rmul_2 _ _) (int___rmul___int_list k t l its.toArray n)
   ⟨e,rfl,⟨_,e,rfl⟩,call_meets F.slot_list_mul ⟨_,e,rfl⟩ F.entry_list_mul (F.args_list_mul_2 _ _) (AutoListH.list___mul___list_int_3 l its.toArray n k t NF ND JC) ⟨e,?_⟩⟩)
 rw [Am]
 exact⟨.ref _,_,I.Gf (t':=s.toks) (r.rep k.toNat) (by rw [len_rep,Nat.mul_comm];exact hz),rfl,q _ I.fresh⟩
end
section
variable {prog:Program} {w:World} {A:Around} {E:Value->Shared->Prop} {s:Shared}
end
section
variable {X:Cx}
end
end L2
namespace Mb
open PySem PySem.W PySem.Calls PyProof.Rows
theorem mx{P:Params}{h:Heap}:∀(ns:List Int) (vs:List Value),WellAll P h vs (ns.map WData.int)->IntsAre vs ns:=by
 intro ns
 induction ns with
 |nil=>
  intro vs w
  rw [List.map_nil] at w
  cases w
  exact .nil
 |cons n ns ih=>
  intro vs w
  rw [List.map_cons] at w
  cases w with
  |cons a b=>
   cases a
   exact .cons _ _ (ih _ b)
theorem yu{l:OpenLaw}{n:Nat}(hn:l.most=some n){P:Params}{h:Heap}{args:List WData}{vals:List Value}
  (CL:l.row.toRowW.claim.pre args=true) (NG:WellAll P h vals args) :
  ∃a vs ns,vals = [Value.ref a]/\args = [WData.list (ns.map WData.int)]/\h.get? a=some {cls:=.type "list",data:=.seq vs.toArray}/\IntsAre vs ns/\ns.length<=n:=by
 have T6:WShape.hasAll [] args [.list .int]=true:=(pre_splitW CL).1
 have hc:l.pre.holds [] {args:=args}=true:=(pre_splitW CL).2
 obtain⟨d,r,rfl,h1,h2⟩:=hasAllW_cons T6
 obtain rfl:=hasAllW_nil h2
 obtain⟨xs,rfl,h3⟩:=hasW_list h1
 obtain⟨ns,rfl⟩:=items_int h3
 have hlen:ns.length<=n:=by
  unfold OpenLaw.pre at hc
  have h4:(WTm.not (.lt (.lit (.int (n:Int))) (.len (.arg 0)))).holds [] {args:= [.list (ns.map .int)]}=true:=by
   have h4:=(holds_andW hc).1
   rw [hn] at h4
   exact h4
  have h5:=condW_of h4 (w_not (w_lt w_lit (w_len_list (w_arg rfl))))
  rw [List.length_map] at h5
  refine Nat.le_of_not_lt λq=>?_
  have q':(n:Int)<((ns.length:Nat):Int):=by omega
  first
   |(rw [decide_eq_true q'] at h5;exact absurd h5 (by decide))
   |(simp at h5;omega)
 cases NG with
 |cons w1 w2=>
  cases w2
  cases w1 with
  |list ho dj=>exact⟨_,_,ns,rfl,rfl,ho,mx ns _ dj,hlen⟩
theorem yw(l:OpenLaw)(args:List WData):l.row.toRowW.claim.post args (.bool true) args=true:=
 postW_of (r:=l.row.toRowW) (X:=(true == true))
  (show WShape.has [] (.bool true) .bool=true by first|rfl|decide|simp [WShape.has,WShape.arms,WShape.armsAll])
  (show (WTm.eq .res (.lit (.bool true))).value [] {args:=args,res:=some (.bool true),after:=args}=some (.bool (true == true)) from w_eq_bool (w_res rfl) w_lit) rfl
theorem rY{l:OpenLaw}{n:Nat}{q:Program}{loose:List Str}{XP:(Str->Option Value)->Heap->Prop}{YP:World->Heap->Prop}{d:DefRec}
  (hn:l.most=some n) (JD:d.params.defaults = [])
  (call:∀(w:World) (s₀ s₁:Shared) (mg mb:Str->Option Value) (fa:Addr) (o:Obj) (pm cd doc:Value) (a:Addr) (vs:List Value) (ns:List Int),
   Ground q loose [] XP w s₀ mg mb s₁.heap->YP w s₁.heap ->
   s₁.heap.get? fa=some o->o.data=.func (docDef d.name d.params d.body d.scope pm cd doc)->s₁.heap.CodeRec cd d.name->mg d.name=some (.ref fa) ->
   s₁.heap.get? a=some {cls:=.type "list",data:=.seq vs.toArray}->IntsAre vs ns->ns.length<=n->s₁.gens = #[] ->
   codeAny (model l.prog w) callerA (.call (.ref fa) ⟨[.ref a],[]⟩) (λr s'=>r=.ok (.ret (.bool true))/\OldK s₁.heap s'.heap/\s'.os=s₁.os/\AllBare s'.gens) s₁) :
  WalkO q loose XP YP l.row.toRowW d [] (λf vs=>PySem.call f vs):=by
 intro w s₀ s₁ mg mb G Y fa o pm cd doc dV kV ho hd rL hD JE hg args vals as CL T7 Xp NG T8
 obtain rfl:dV=.none:=Dflts.none hD JD
 obtain rfl:kV=.none:=Dflts.noKw hD
 obtain⟨a,vs,ns,rfl,rfl,Gi,hints,hlen⟩:=yu hn CL NG
 refine enter_call (codeAny_mono (call w s₀ s₁ mg mb fa o pm cd doc a vs ns G Y ho (fd_plain hd) rL JE Gi hints hlen hg) λr s' hq=>?_)
 obtain⟨rfl,h2,h3,h4⟩:=hq
 exact⟨.inl ⟨.bool true,.bool true,[],rfl,λ_=>rfl,.bool true,yw l _,λ_=>⟨List.Pairwise.nil,λ_ hm=>(nomatch hm)⟩⟩,h2,h3,h4⟩
section
variable {prog:Program} {w:World} {A:Around} {E:Value->Shared->Prop} {s:Shared} {K:Frag}
end
end Mb
namespace L2
open PySem PySem.Spec PyProof.Rows
theorem pD:∀{vs:List Value} {ns:List Int},IntsAre vs ns->Vals (ns.map V.int) vs
 |_,_,.nil=>.nil
 |_,_,.cons n t h=>.cons ⟨t,rfl⟩ (pD h)
def Gj(H:Hp):Prop:=∀b,H b=none\/∃o xs,H b=some (.uk o (.lst xs))
theorem An{P:Program}{w:World}{K:PySem.W.Frag}{mg mb:Str->Option Value}{CX:pw}{k:Nat}{fa a:Addr}{fd:FuncData}{x:Str}{sp:Sp}{s₁:Shared}{vs:List Value}{ns:List Int}
  (KX:K.In s₁.heap) (IE:s₁.heap.Ns mainGlobals mg) (hb:s₁.heap.Ns builtinsNs mb) (JF:∀x:Str,x≠"__name__"->mb x=bootBuiltins x) (NH:s₁.heap.NoLimit) (hg:s₁.gens = #[])
  (ha:s₁.heap.get? a=some {cls:=.type "list",data:=.seq vs.toArray}) (hi:IntsAre vs ns) (hl:ns.length<=sizeLine) (hr:fe k callerA)
  (F:∀base:Heap,K.In base->base.Ns mainGlobals mg->g7 P w K mg base CX k fa fd [x] sp) (JG:∀(s:Shared) (u:Value),BindsTo s fd ⟨[u],[]⟩ [(x,u)])
  (wI:∀H:Hp,Gj H->bX K H a (ns.map V.int)->sp [.ref a] H (λv _=>v=.bl true) λ_ _ _=>False)
  (NI:∀H e s',CX [] H s₁ (λ_ _ _=>False) e s'->False) :
  codeAny (model P w) callerA (.call (.ref fa) ⟨[.ref a],[]⟩) (λr s'=>r=.ok (.ret (.bool true))/\OldK s₁.heap s'.heap/\s'.os=s₁.os/\AllBare s'.gens) s₁:=by
 have rv:=pD hi
 have NJ:=hi.length
 have core:∀H:Hp,Gj H->bX K H a (ns.map V.int)->il P w H s₁.heap->(∀b,H b≠none->b=a)->(H a≠none->K.lookup a=none) ->
   codeAny (model P w) callerA (.call (.ref fa) ⟨[.ref a],[]⟩) (λr s'=>r=.ok (.ret (.bool true))/\OldK s₁.heap s'.heap/\s'.os=s₁.os/\AllBare s'.gens) s₁:=by
  intro H hO hS cw hA hK
  have wN:∀{b:Addr} {o:Obj},s₁.heap.get? b=some o->H b=none->(qf s₁.heap H).get? b=some o:=λe n=>zQ e n
  have Jx:∀{b:Addr} {o:Obj} {es:Array DictEntry} {ep:Nat},s₁.heap.get? b=some o->o.data=.dict es ep->H b=none:=λ{b o es ep} e d=>by
   cases q:H b with
   |none=>rfl
   |some u=>
    have e':b=a:=hA b (by rw [q];simp)
    subst e'
    rw [ha] at e;cases e
    have d':Data.seq vs.toArray _=Data.dict es ep:=d
    cases d'
  have Mc:∀{b:Addr} {m:Str->Option Value},s₁.heap.Ns b m->(qf s₁.heap H).Ns b m:=λ{b m} ⟨o,es,ep,e,d,r⟩=>⟨o,es,ep,wN e (Jx e d),d,r⟩
  have RG:K.In (qf s₁.heap H):=λb o e=>wN (KX b o e) (by
   cases q:H b with
   |none=>rfl
   |some u=>
    have e':b=a:=hA b (by rw [q];simp)
    subst e'
    rw [hK (by rw [q];simp)] at e;cases e)
  have hM:Mod K mg (qf s₁.heap H):=⟨RG,Mc IE,⟨mb,Mc hb,JF⟩,let ⟨mc,h1,h2⟩:=NH;⟨mc,Mc h1,h2⟩⟩
  have e0:rP P w K mg (qf s₁.heap H) callerA [] s₁ H:=⟨rfl,hM,λb o e=>Cr e,Nat.le_of_eq (ye _ _),trivial,λb hb=>absurd (show b∈([]:List Addr) from hb) (by simp),cw,.of_eq hg⟩
  refine codeAny_mono ((F _ RG (Mc IE)).run callerA [] s₁ H ⟨[.ref a],[]⟩ [.ref a] [.ref a] _ _ hr e0 (JG s₁ (.ref a)) (.cons rfl .nil) (wI H hO hS)) λr s' h=>?_
  cases r with
  |error e=>exact (NI H e s' h).elim
  |ok fl=>
   cases fl with
   |next=>exact False.elim h
   |brk=>exact False.elim h
   |cont=>exact False.elim h
   |ret u=>
    obtain⟨v,H',os,bare,un,uJ,r',q⟩:=h
    have q':v=.bl true:=q
    subst q'
    obtain rfl:u=Value.bool true:=r'
    refine⟨rfl,OldK.of_keep λb o e=>?_,os,bare⟩
    cases q:H b with
    |none=>exact un.keep b o e q (by intro z;exact absurd (show b∈([]:List Addr) from z) (by simp)) (by simp)
    |some u=>
     rcases hO b with z|⟨ob,xs,z⟩
     ·rw [q] at z;cases z
     ·have z2:=un.mq b ob _ z
      obtain⟨e1,_⟩:=cw b _ z
      obtain⟨e2,_⟩:=uJ b _ z2
      rw [e] at e1;cases e1
      exact e2
 cases hk:K.lookup a with
 |some o=>
  have e:=KX a o hk
  rw [ha] at e
  cases e
  refine core (λ_=>none) (λ_=>.inl rfl) (.inr ⟨_,vs.toArray,_,hk,rfl,rfl,rfl,by rw [List.size_toArray,NJ];exact hl,by simpa using rv⟩) (λb u z=>by have z':(none:Option HO)=some u:=z;cases z') (λb z=>absurd rfl z) λz=>absurd rfl z
 |none=>
  refine core (λb=>if b=a then some (.uk {cls:=.type "list",data:=.seq vs.toArray} (.lst (ns.map V.int))) else none) (λb=>?_) (.inl (.inr ⟨{cls:=.type "list",data:=.seq vs.toArray},if_pos rfl⟩)) (λb u z=>?_) (λb z=>?_) λ_=>hk
  ·by_cases hb:b=a
   ·exact .inr ⟨_,_,if_pos hb⟩
   ·exact .inl (if_neg hb)
  ·by_cases hb:b=a
   ·have z':=(if_pos hb).symm.trans z
    cases z'
    subst hb
    exact⟨ha,by rw [List.length_map];exact hl,vs,_,rv,ha⟩
   ·have z':=(if_neg hb).symm.trans z
    cases z'
  ·by_cases hb:b=a
   ·exact hb
   ·exact absurd (if_neg hb) z
theorem CM{l:PySem.W.OpenLaw}{n k:Nat}{q:Program}{loose:List Str}{XP:(Str->Option Value)->Heap->Prop}{YP:World->Heap->Prop}{d:DefRec}{K:Params->PySem.W.Frag}{CX:World->pw}{sp:World->Sp}{x:Str}
  (hn:l.most=some n) (Ab:n<=sizeLine) (JD:d.params.defaults = []) (hr:fe k callerA)
  (hY:∀(w:World) (h:Heap),YP w h->(K w.params).In h)
  (F:∀(w:World) (mg:Str->Option Value) (fa:Addr) (h:Heap),(K w.params).In h->h.Ns mainGlobals mg->mg d.name=some (.ref fa) ->
   ∃fd:FuncData,(∀(s:Shared) (u:Value),BindsTo s fd ⟨[u],[]⟩ [(x,u)]) /\
    ∀base:Heap,(K w.params).In base->base.Ns mainGlobals mg->g7 l.prog w (K w.params) mg base (CX w) k fa fd [x] (sp w))
  (wI:∀(w:World) (H:Hp) (a:Addr) (ns:List Int),ns.length<=n->Gj H->bX (K w.params) H a (ns.map V.int)->sp w [.ref a] H (λv _=>v=.bl true) λ_ _ _=>False)
  (NI:∀(w:World) (H:Hp) (s:Shared) (e:Value) (s':Shared),CX w [] H s (λ_ _ _=>False) e s'->False) :
  PySem.W.WalkO q loose XP YP l.row.toRowW d [] (λf vs=>PySem.call f vs):=by
 refine Mb.rY hn JD λw s₀ s₁ mg mb fa o pm cd doc a vs ns G Y ho hd rL JE Gi hints hlen hg=>?_
 have KX:=hY w _ Y
 obtain⟨fd,hb,hF⟩:=F w mg fa _ KX G.T.g JE
 exact An KX G.T.g G.T.b G.T.builtins G.T.nolimit hg Gi hints (Nat.le_trans hlen Ab) hr hF hb (λH hO hS=>wI w H a ns hlen hO hS) λH e s'=>NI w H s₁ e s'
def inClass(s:Stmt)(j:Nat):Stmt:=match s with
 |.ClassDef _ _ _ body _ _ _ _ _ _ _=>body.getD j (.Pass ⟨0,0,0,0⟩)
 |_=>.Pass ⟨0,0,0,0⟩
def fA(s:Stmt):Arguments:=match s with
 |.FunctionDef _ a _ _ _ _ _ _ _ _=>a
 |_=>{posonlyargs:= [],args:= [],vararg:=none,kwonlyargs:= [],kw_defaults:= [],kwarg:=none,defaults:= []}
def dv(s:Stmt):List Stmt:=match s with
 |.FunctionDef _ _ b _ _ _ _ _ _ _=>b
 |_=> []
def ao(s:Stmt):Scope:=match s with
 |.FunctionDef _ _ _ _ _ _ sc _ _ _=>sc
 |_=>{kind:=.function,names:= [],isGenerator:=false,isCoroutine:=false}
abbrev rZ:pw:=λ_ _ _ _ _ _=>False
abbrev E0:XK:=λ_ _ _=>False
theorem Ao{X:Cx}:Passes rZ X E0:=λ_ _ _ _ _ _ _ h=>h.elim
structure EU (K:PySem.W.Frag) (x qual:Str) (st:Stmt) (f:Addr) (fd:FuncData):Prop where
 ex:∃(oc:Value) (od:Option Addr) (kV doc pm:Value) (an:Option Addr) (cD ct:Value) (uC:Array (Option Value)),
  fd=PySem.W.fnOf x qual (fA st) (dv st) (ao st) .none kV doc pm an cD ct/\K.lookup f=some ⟨oc,od,.func fd,uC⟩/\PySem.W.codeIn K cD qual=true
 kp:PySem.W.keepIn K (.ref f)=true
section
variable {P:Program} {w:World} {K:PySem.W.Frag} {mg:Str->Option Value} {base:Heap}
theorem EU.ok{x qual:Str}{st:Stmt}{f:Addr}{fd:FuncData}{N ps:List Str}{k:Nat}{sp:Sp}(F:EU K x qual st f fd)(S:aO N ps (ao st))(len:∀vs H Q E,sp vs H Q E->vs.length=ps.length)
  (jj:∀(cD:Value) (A:Around) (outer:List Env) (s:Shared) (H:Hp) (vs:List V) (Q:VK) (E:XK),fe k (A.deeper (envOfC qual (ao st) s.heap.objs.size f cD))->sp vs H Q E ->
   ∃t,gi (kE rZ P w K mg base N qual (ao st) f cD A outer s H E).EK (dv st) t/\t {nx:=λ_ H'=>Q .eh H',rt:=Q} (start N vs) H):g7 P w K mg base rZ (k+1) f fd ps sp:=by
 obtain⟨oc,od,kV,doc,pm,an,cD,ct,uC,rfl,lk,rL⟩:=F.ex
 refine ES lk rL S len λA outer s H vs Q E hr wI=>?_
 obtain⟨t,h,q⟩:=jj cD A outer s H vs Q E hr wI
 exact⟨t,h.EK,q⟩
theorem EU.binds{x qual:Str}{st:Stmt}{f:Addr}{fd:FuncData}{ps:List Str}(F:EU K x qual st f fd)
  (h:∀(kV doc pm:Value) (an:Option Addr) (cD ct:Value) (us:List Value),us.length=ps.length->bindArgs (PySem.W.fnOf x qual (fA st) (dv st) (ao st) .none kV doc pm an cD ct) ⟨us,[]⟩=pure (ps.zip us)):Binds K fd ps []:=by
 obtain⟨oc,od,kV,doc,pm,an,cD,ct,uC,rfl,lk,rL⟩:=F.ex
 exact .all (h kV doc pm an cD ct)
theorem uK{x qual:Str}{st:Stmt}{f:Addr}{oc:Value}{od an:Option Addr}{uC:Array (Option Value)}{kV doc pm cD ct:Value}(l:K.lookup f=some ⟨oc,od,.func (PySem.W.fnOf x qual (fA st) (dv st) (ao st) .none kV doc pm an cD ct),uC⟩)
  (c:PySem.W.codeIn K cD qual=true) (k:PySem.W.keepIn K (.ref f)=true):EU K x qual st f (PySem.W.fnOf x qual (fA st) (dv st) (ao st) .none kV doc pm an cD ct):=⟨⟨oc,od,kV,doc,pm,an,cD,ct,uC,rfl,l,c⟩,k⟩
end
theorem fS{A:Around}{k:Nat}(hr:fe k A):A.units+1<cLine:=Nat.lt_of_le_of_lt (Nat.add_le_add_left (by decide:1<=64) _) hr.units
section
variable {X:Cx}
theorem pv(i:Nat){x:Str}{pos:Pos}(hN:X.N[i]?=some x:=by rfl)(hv:LS X.env.scope x:=by first|exact Or.inl rfl|exact Or.inr (Or.inl rfl)|exact Or.inr (Or.inr rfl))(hd:(x == ("__debug__":Str))=false:=by decide)
  (rL:(x == ("__classdict__":Str))=false:=by decide):PE X (.Name x pos) (bQ i):=FN hN hv hd rL
end
theorem NK{A B:Prop}(h:B):if false=true then A else B:=by
 rw [if_neg Bool.false_ne_true]
 exact h
theorem bZ{c A B:Prop} [Decidable c](h1:c->A)(h2 : ¬c->B):if c then A else B:=by
 by_cases h:c
 ·rw [if_pos h]
  exact h1 h
 ·rw [if_neg h]
  exact h2 h
def ax(H H':Hp):Prop:=∀b o,H b=some o->H' b=some o
theorem ax.refl(H:Hp):ax H H:=λ_ _ h=>h
theorem ax.trans{H H1 H2:Hp}(a:ax H H1)(b:ax H1 H2):ax H H2:=λc o h=>b c o (a c o h)
theorem ax.free{H H':Hp}(e:ax H H'){l:Addr}(h:H' l=Option.none):H l=Option.none:=by
 cases q:H l with
 |none=>rfl
 |some o=>
  rw [e l o q] at h
  cases h
theorem ax.seq{K:PySem.W.Frag}{H H':Hp}{a:Addr}{xs:List V}(e:ax H H')(h:bX K H a xs):bX K H' a xs:=by
 rcases h with (h|⟨o,h⟩)|h
 ·exact .inl (.inl (e _ _ h))
 ·exact .inl (.inr ⟨o,e _ _ h⟩)
 ·exact .inr h
section
variable (P:Program) (w:World)
end
section
variable {P:Program} {w:World} {H H':Hp} {h h':Heap} {a:Addr} {o:HO}
end
section
variable {P:Program} {w:World} {H:Hp} {h h':Heap} {x e:Addr} {o':HO}
end
section
variable {fs Nb ex TJ:List Addr} {H H1 H2:Hp} {h h1 h2 h':Heap} {a x e:Addr} {o:HO}
end
section
variable {X:Cx} {pins:List (Addr×Obj)} {σ:List (Option V)} {H H':Hp} {s:Shared} {h':Heap}
end
section
variable {X:Cx}
variable {a b:Expr} {ta tb:TE} {pos:Pos}
variable {tA Jk:TT} {rest:List Expr}
end
section
variable {X:Cx} {pins:List (Addr×Obj)} {σ:St} {H:Hp} {s:Shared} {a:Addr} {xs ys:List V}
end
section
variable {X:Cx} {pins:List (Addr×Obj)} {σ:St} {H:Hp} {s:Shared} {E:Value->Shared->Prop}
end
section
variable {X:Cx} {st:Stmt} {rest:List Stmt} {t u:TS} {e:Expr} {te:TE} {pos:Pos}
end
section
variable {X:Cx} {pos:Pos}
end
section
variable {X:Cx} {pos:Pos}
end
section
variable {X:Cx} {tg:Expr}
end
section
variable {X:Cx} {a b c:Expr} {ta tb tc:TE} {pos:Pos}
end
section
variable {X:Cx} {a b c:Expr} {ta tb tc:TE} {pos:Pos}
end
section
variable {prog:Program} {w:World} {A:Around} {E:Value->Shared->Prop} {s:Shared} {K:PySem.W.Frag} {x dx C f:Addr} {mA:Str->Option Value} {name:Str} {v:Value}
end
section
variable {P:Program} {w:World} {H H':Hp} {h h':Heap} {a C dx:Addr} {fs Nb:List (Str×V)}
end
section
variable {X:Cx} {pins:List (Addr×Obj)} {σ:St} {H:Hp} {s:Shared} {a C dx:Addr} {fs:List (Str×V)} {f:Str} {v:V} {A:Around} {E:Value->Shared->Prop}
end
section
variable {X:Cx} {o e value:Expr} {f:Str} {pos pos' rO:Pos} {ta tv:TE}
end
section
variable {X:Cx} {pins:List (Addr×Obj)} {σ:St} {H:Hp} {s:Shared} {A:Around} {E:Value->Shared->Prop} {Q:Value->Shared->Prop} {c:Value} {b:Bool}
end
section
variable {X:Cx} {e:Expr} {es:List Expr} {te:TE} {t:TA} {pos:Pos}
end
section
variable {X:Cx} {pins:List (Addr×Obj)} {σ:St} {H:Hp} {s s':Shared}
end
section
variable {X:Cx} {CX:pw} {k:Nat} {f C:Addr} {fd:FuncData} {ps:List Str} {sp:Sp} {ue:List V} {ds:List Value} {E:XK} {x m:Str} {p pos apos:Pos} {e o:Expr} {es:List Expr} {ta:TE} {t:TA}
end
section
variable {X:Cx} {CX:pw} {k:Nat} {f C:Addr} {fd:FuncData} {ps ks:List Str} {sp:Sp} {E:XK} {x m:Str} {p pos apos Nv:Pos} {e o:Expr} {es:List Expr} {T1:List Keyword} {te ta:TE} {t tk:TA} {nm:Option Str}
variable {g:List Value->List Value->List Value} {gV:List V->List V->List V}
end
section
variable {X:Cx} {x:Str} {p pos:Pos} {e:Expr} {es:List Expr} {t:TA} {id T:String} {r:List V->Hp->VK->Prop}
end
section
variable {κ:Type} [DecidableEq κ]
def cP(kvs:List (κ×V))(k:κ):Option V:=(kvs.find? λkv=>decide (kv.1=k)).map (·.2)
def putK(kvs:List (κ×V))(k:κ)(v:V):List (κ×V):=
 if (kvs.any λkv=>decide (kv.1=k))=true then kvs.map (λkv=>if kv.1=k then (kv.1,v) else kv) else kvs ++ [(k,v)]
theorem da{p:κ×V}{r:List (κ×V)}{k:κ}(e:p.1=k):cP (p::r) k=some p.2:=by simp [cP,List.find?_cons,e]
theorem bG{p:κ×V}{r:List (κ×V)}{k:κ}(e : ¬p.1=k):cP (p::r) k=cP r k:=by simp [cP,List.find?_cons,e]
theorem jm(k:κ):∀kvs:List (κ×V),(kvs.any λkv=>decide (kv.1=k))=(cP kvs k).isSome
 | []=>rfl
 |p::r=>by
  rw [List.any_cons]
  by_cases e:p.1=k
  ·simp only [da e,decide_eq_true e,Bool.true_or,Option.isSome_some]
  ·rw [bG e,decide_eq_false e,Bool.false_or];exact jm k r
theorem si(k j:κ)(y:V):∀kvs:List (κ×V),cP (kvs.map λkv=>if kv.1=k then (kv.1,y) else kv) j=(cP kvs j).map λx=>if j=k then y else x
 | []=>rfl
 |p::r=>by
  have ih:=si k j y r
  rw [List.map_cons]
  by_cases h:p.1=k
  ·rw [if_pos h]
   by_cases e:p.1=j
   ·rw [da (p:=(p.1,y)) e,da e,Option.map_some,if_pos (e.symm.trans h)]
   ·rw [bG (p:=(p.1,y)) e,bG e,ih]
  ·rw [if_neg h]
   by_cases e:p.1=j
   ·rw [da (p:=p) e,da e,Option.map_some,if_neg (λz=>h (e.trans z))]
   ·rw [bG (p:=p) e,bG e,ih]
theorem pE(k j:κ)(y:V):∀kvs:List (κ×V),cP kvs k=none->cP (kvs ++ [(k,y)]) j=if j=k then some y else cP kvs j
 | [],_=>by
  by_cases e:k=j
  ·rw [if_pos e.symm];exact da (p:=(k,y)) e
  ·rw [if_neg (λz=>e z.symm)];exact bG (p:=(k,y)) e
 |p::r,hn=>by
  rw [List.cons_append]
  have hk : ¬p.1=k:=λz=>by rw [da z] at hn;cases hn
  rw [bG hk] at hn
  have ih:=pE k j y r hn
  by_cases e:p.1=j
  ·rw [da e,da e,if_neg (λz=>hk (e.trans z))]
  ·rw [bG e,bG e,ih]
theorem dH(kvs:List (κ×V))(k j:κ)(y:V):cP (putK kvs k y) j=if j=k then some y else cP kvs j:=by
 unfold putK
 by_cases a:(kvs.any λkv=>decide (kv.1=k))=true
 ·rw [if_pos a,si]
  rw [jm] at a
  by_cases e:j=k
  ·obtain⟨x,hx⟩:=Option.isSome_iff_exists.mp a
   rw [if_pos e,e,hx,Option.map_some,if_pos rfl]
  ·rw [if_neg e]
   cases cP kvs j with
   |none=>rfl
   |some x=>rw [Option.map_some,if_neg e]
 ·rw [if_neg a]
  refine pE k j y kvs ?_
  rw [jm] at a
  cases q:cP kvs k with
  |none=>rfl
  |some x=>rw [q] at a;exact (a rfl).elim
theorem fN(kvs:List (κ×V))(k:κ)(v:V):(putK kvs k v).length<=kvs.length+1:=by
 unfold putK
 split
 ·rw [List.length_map];omega
 ·rw [List.length_append,List.length_cons,List.length_nil];omega
theorem lB.ix{o:Option V}{u:Option Value}(r:lB o u):o.isSome=u.isSome:=by
 cases o with
 |none=>cases u with
  |none=>rfl
  |some _=>exact (show False from r).elim
 |some _=>cases u with
  |none=>exact (show False from r).elim
  |some _=>rfl
theorem KV.val{kvs:List (κ×V)}{vs:List (κ×Value)}(r:KV kvs vs)(k:κ):lB (cP kvs k) (valueAt vs k):=by
 unfold KV at r
 induction r with
 |nil=>exact True.intro
 | @cons p q ps qs h t ih=>
  obtain⟨h1,h2⟩:=h
  by_cases e:p.1=k
  ·have e':q.1=k:=h1.symm.trans e
   have b:valueAt (q::qs) k=some q.2:=by simp [valueAt,List.find?_cons,e']
   rw [da e,b];exact h2
  ·have e' : ¬q.1=k:=λz=>e (h1.trans z)
   have b:valueAt (q::qs) k=valueAt qs k:=by simp [valueAt,List.find?_cons,e']
   rw [bG e,b];exact ih
theorem KV.any{kvs:List (κ×V)}{vs:List (κ×Value)}(r:KV kvs vs)(k:κ):(kvs.any λkv=>decide (kv.1=k))=vs.any λkv=>decide (kv.1=k):=by
 unfold KV at r
 induction r with
 |nil=>rfl
 |cons h t ih=>rw [List.any_cons,List.any_cons,ih,h.1]
theorem KV.Gk{kvs:List (κ×V)}{vs:List (κ×Value)}(r:KV kvs vs)(k:κ){y:V}{u:Value}(ry:RelV y u) :
  KV (kvs.map λkv=>if kv.1=k then (kv.1,y) else kv) (vs.map λkv=>if kv.1=k then (kv.1,u) else kv):=by
 unfold KV at r ⊢
 induction r with
 |nil=>exact .nil
 | @cons p q ps qs h t ih=>
  rw [List.map_cons,List.map_cons]
  refine .cons ?_ ih
  obtain⟨h1,h2⟩:=h
  by_cases e:p.1=k
  ·rw [if_pos e,if_pos (h1.symm.trans e)];exact⟨h1,ry⟩
  ·rw [if_neg e,if_neg (λz=>e (h1.trans z))];exact⟨h1,h2⟩
theorem KV.put{kvs:List (κ×V)}{vs:List (κ×Value)}(r:KV kvs vs)(k:κ){y:V}{u:Value}(ry:RelV y u):KV (putK kvs k y) (stored vs k u):=by
 unfold putK stored
 rw [r.any k]
 by_cases e:(vs.any λkv=>decide (kv.1=k))=true
 ·rw [if_pos e,if_pos e];exact r.Gk k ry
 ·rw [if_neg e,if_neg e];exact Paired.snoc r ⟨rfl,ry⟩
theorem KV.keys{kvs:List (κ×V)}{vs:List (κ×Value)}(r:KV kvs vs):kvs.map (·.1)=vs.map (·.1):=by
 unfold KV at r
 induction r with
 |nil=>rfl
 |cons h t ih=>rw [List.map_cons,List.map_cons,ih,h.1]
theorem KV.length{kvs:List (κ×V)}{vs:List (κ×Value)}(r:KV kvs vs):kvs.length=vs.length:=Paired.length r
end
theorem ma{P:Program}{w:World}{k:Key}{u:Value}(r:RelV (kV k) u):(cy P w).is k u=true:=by
 cases k with
 |inl i=>obtain⟨t,e⟩:=(show ∃t,u=Value.int i t from r);subst e;exact rH P w i t
 |inr x=>obtain⟨t,e⟩:=(show ∃t,u=Value.str x t from r);subst e;exact rJ P w x t
theorem pF{P:Program}{w:World}:∀{ks:List Key} {us:List Value},Vals (ks.map kV) us->ItemsAre (cy P w) ks us
 | [],_,r=>by rw [List.map_nil] at r;cases r;exact .nil
 |k::ks,_,r=>by
  rw [List.map_cons] at r
  cases r with
  |cons h t=>exact .cons (ma h) (pF t)
abbrev KT (H:Hp):List (List Key×V)->List (List Key×Addr×Value)->Prop:=Paired λp q=>p.1=q.1/\H q.2.1=some (.tup (p.1.map kV))/\RelV p.2 q.2.2
theorem KT.val{H:Hp}{kvs:List (List Key×V)}{xs:List (List Key×Addr×Value)}(r:KT H kvs xs)(k:List Key):lB (cP kvs k) ((atKey xs k).map (·.2)):=by
 induction r with
 |nil=>exact True.intro
 | @cons p q ps qs h t ih=>
  obtain⟨h1,_,h2⟩:=h
  by_cases e:p.1=k
  ·have e':q.1=k:=h1.symm.trans e
   have b:atKey (q::qs) k=some q.2:=by simp [atKey,List.find?_cons,e']
   rw [da e,b];exact h2
  ·have e' : ¬q.1=k:=λz=>e (h1.trans z)
   have b:atKey (q::qs) k=atKey qs k:=by simp [atKey,List.find?_cons,e']
   rw [bG e,b];exact ih
theorem KT.Gk{H:Hp}{kvs:List (List Key×V)}{xs:List (List Key×Addr×Value)}(r:KT H kvs xs)(k:List Key){y:V}{u:Value}(ry:RelV y u) :
  KT H (kvs.map λkv=>if kv.1=k then (kv.1,y) else kv) (xs.map (putAt k u)):=by
 induction r with
 |nil=>exact .nil
 | @cons p q ps qs h t ih=>
  rw [List.map_cons,List.map_cons]
  refine .cons ?_ ih
  obtain⟨h1,h2,h3⟩:=h
  unfold putAt
  by_cases e:p.1=k
  ·rw [if_pos e,if_pos (h1.symm.trans e)];exact⟨h1,h2,ry⟩
  ·rw [if_neg e,if_neg (λz=>e (h1.trans z))];exact⟨h1,h2,h3⟩
theorem KT.put{H:Hp}{kvs:List (List Key×V)}{xs:List (List Key×Addr×Value)}(r:KT H kvs xs)(k:List Key){b:Addr}{y:V}{u:Value}(hb:H b=some (.tup (k.map kV)))(ry:RelV y u) :
  KT H (putK kvs k y) (storedH xs k b u):=by
 have e:(kvs.any λkv=>decide (kv.1=k))=(atKey xs k).isSome:=by
  rw [jm,(r.val k).ix,Option.isSome_map]
 unfold putK storedH
 rw [e]
 by_cases q:(atKey xs k).isSome=true
 ·rw [if_pos q,if_pos q];exact r.Gk k ry
 ·rw [if_neg q,if_neg q];exact Paired.snoc r ⟨rfl,hb,ry⟩
theorem KT.keeps{H H':Hp}{kvs:List (List Key×V)}{xs:List (List Key×Addr×Value)}(r:KT H kvs xs)(ht:∀b ys,H b=some (.tup ys)->H' b=some (.tup ys)):KT H' kvs xs:=
 Paired.fP r λ_ _ z=>⟨z.1,ht _ _ z.2.1,z.2.2⟩
section
variable {P:Program} {w:World} {H:Hp} {h:Heap} {a:Addr}
theorem EV{u:HO}(ok:il P w H h)(e:Rd H a u):cZ P w H h a u:=e.ok ok
theorem pG{kvs:List (Key×V)}(ok:il P w H h)(e:Rd H a (.dK kvs)):kvs.length<=sizeLine/\(a == sysModules)=false/\∃vs,KV kvs vs/\h.DictOf (cy P w) a vs:=
 show cZ P w H h a (.dK kvs) from EV ok e
theorem sj{kvs:List (Key×V)}(ok:il P w H h)(e:H a=some (.dK kvs)):kvs.length<=sizeLine/\(a == sysModules)=false/\∃vs,KV kvs vs/\h.DictOf (cy P w) a vs:=pG ok (.inl e)
theorem kK{ks:List Key}(ok:il P w H h)(e:H a=some (.tup (ks.map kV))):(tupleKind (cy P w)).is h ks a:=by
 obtain⟨_,its,r,o,h1,h2,n,h3⟩:=(show cZ P w H h a (.tup (ks.map kV)) from ok a _ e)
 exact⟨o,its.toArray,n,h1,h2,h3,by simpa using pF r⟩
theorem pH{kvs:List (List Key×V)}(ok:il P w H h)(e:Rd H a (.dT kvs)):kvs.length<=sizeLine/\(a == sysModules)=false /\
  ∃xs,KT H kvs xs/\h.DictOfH (tupleKind (cy P w)) a xs:=by
 obtain⟨z,y,xs,r,o,es,ep,h1,h2,h3,h4,h5⟩:=(show cZ P w H h a (.dT kvs) from EV ok e)
 refine⟨z,y,xs,r,o,es,ep,h1,h2,h3,h4,λx hx=>?_,h5⟩
 have all:∀{l:List (List Key×V)} {m:List (List Key×Addr×Value)},KT H l m->∀x∈m,(tupleKind (cy P w)).is h x.1 x.2.1:=by
  intro l m q
  induction q with
  |nil=>intro x hx;exact nomatch hx
  | @cons p q ps qs hq t ih=>
   intro x hx
   rcases List.mem_cons.mp hx with e|hx
   ·subst e
    exact kK ok (by rw [<-hq.1];exact hq.2.1)
   ·exact ih x hx
 exact all r x hx
theorem JH{kvs:List (List Key×V)}(ok:il P w H h)(e:H a=some (.dT kvs)):kvs.length<=sizeLine/\(a == sysModules)=false /\
  ∃xs,KT H kvs xs/\h.DictOfH (tupleKind (cy P w)) a xs:=pH ok (.inl e)
end
def jW(H:Hp)(a:Addr)(y:V)(r:Option V):Prop:=
 (∃kvs k,Rd H a (.dK kvs)/\y=kV k/\r=cP kvs k)\/∃kvs k b,Rd H a (.dT kvs)/\y=.ref b/\H b=some (.tup (k.map kV))/\r=cP kvs k
def uL(H:Hp)(a:Addr)(y v:V)(H':Hp):Prop:=
 (∃kvs k,H a=some (.dK kvs)/\y=kV k/\kvs.length<sizeLine/\H'=upd H a (.dK (putK kvs k v))) \/
 ∃kvs k b,H a=some (.dT kvs)/\y=.ref b/\H b=some (.tup (k.map kV))/\kvs.length<sizeLine/\H'=upd H a (.dT (putK kvs k v))
theorem jW.k{H:Hp}{a:Addr}{kvs:List (Key×V)}{k:Key}(e:H a=some (.dK kvs)):jW H a (kV k) (cP kvs k):=.inl ⟨kvs,k,.inl e,rfl,rfl⟩
theorem uL.k{H:Hp}{a:Addr}{kvs:List (Key×V)}{k:Key}{v:V}(e:H a=some (.dK kvs))(hl:kvs.length<sizeLine):uL H a (kV k) v (upd H a (.dK (putK kvs k v))):=.inl ⟨kvs,k,e,rfl,hl,rfl⟩
section
variable {X:Cx} {pins:List (Addr×Obj)} {σ:St} {H:Hp} {s:Shared} {a:Addr} {y v:V} {u r:Value} {o:Option V} {A:Around} {E:Value->Shared->Prop}
theorem Inv.big(I:Inv X pins σ H s):sysModules<s.heap.objs.size:=by
 have h:mainGlobals<s.heap.objs.size:=(I.mod.glob.keeps I.bk).lt
 exact Nat.lt_trans (by decide) h
theorem yx{Q:Value->Shared->Prop}(hu:A.units+1<cLine)(I:Inv X pins σ H s)(g:jW H a y (some v))(ry:RelV y u)(h:∀w' s',Inv X pins σ H s'->RelV v w'->Q w' s') :
  wpAny (model X.prog X.w) A (getItem (.ref a) u) Q E s:=by
 rcases g with ⟨kvs,k,e,ey,l⟩|⟨kvs,k,b,e,ey,eb,l⟩
 ·subst ey
  obtain⟨z,hd,vs,rel,dd⟩:=pG I.cw e
  obtain⟨w',hw,CJ⟩:=lB.some_of (v:=v) (o:=valueAt vs k) (by rw [l];exact rel.val k)
  exact wpAny_getItem_of (ma ry) dd.mapOf hw (h w' _ (I.tok _) CJ)
 ·subst ey
  cases (show u=Value.ref b from ry)
  obtain⟨z,hd,xs,rel,dd⟩:=pH I.cw e
  obtain⟨w',hw,CJ⟩:=lB.some_of (v:=v) (o:=(atKey xs k).map (·.2)) (by rw [l];exact rel.val k)
  obtain⟨p,hp,uM⟩:=Option.map_eq_some_iff.mp hw
  refine wpAny_getItem_heap (tupleKind_room_in1 hu) (kK I.cw eb) dd hp ?_
  rw [uM]
  exact h w' _ (I.tok _) CJ
theorem NL{Q:Value->Shared->Prop}(hu:A.units+1<cLine)(I:Inv X pins σ H s)(g:jW H a y o)(ry:RelV y u)(h:∀s',Inv X pins σ H s'->Q (.bool o.isSome) s') :
  wpAny (model X.prog X.w) A (compareOp .In u (.ref a)) Q E s:=by
 rcases g with ⟨kvs,k,e,ey,l⟩|⟨kvs,k,b,e,ey,eb,l⟩
 ·subst ey
  obtain⟨z,hd,vs,rel,dd⟩:=pG I.cw e
  refine wpAny_in_of (ma ry) hd dd.mapOf ?_
  rw [<- (rel.val k).ix,<-l]
  exact h _ (I.tok _)
 ·subst ey
  cases (show u=Value.ref b from ry)
  obtain⟨z,hd,xs,rel,dd⟩:=pH I.cw e
  refine wpAny_in_heap (tupleKind_room_in1 hu) (kK I.cw eb) hd dd ?_
  have q:=(rel.val k).ix
  rw [Option.isSome_map] at q
  rw [<-q,<-l]
  exact h _ (I.tok _)
theorem CN{Q:Value->Shared->Prop}(hu:A.units+1<cLine)(I:Inv X pins σ H s)(g:jW H a y o)(ry:RelV y u)(h:∀s',Inv X pins σ H s'->Q (.bool (!o.isSome)) s') :
  wpAny (model X.prog X.w) A (compareOp .NotIn u (.ref a)) Q E s:=by
 rcases g with ⟨kvs,k,e,ey,l⟩|⟨kvs,k,b,e,ey,eb,l⟩
 ·subst ey
  obtain⟨z,hd,vs,rel,dd⟩:=pG I.cw e
  refine wpAny_notIn_of (ma ry) hd dd.mapOf ?_
  rw [<- (rel.val k).ix,<-l]
  exact h _ (I.tok _)
 ·subst ey
  cases (show u=Value.ref b from ry)
  obtain⟨z,hd,xs,rel,dd⟩:=pH I.cw e
  refine wpAny_notIn_heap (tupleKind_room_in1 hu) (kK I.cw eb) hd dd ?_
  have q:=(rel.val k).ix
  rw [Option.isSome_map] at q
  rw [<-q,<-l]
  exact h _ (I.tok _)
theorem mK{h':Heap}{t':Nat}{ob:HO}(I:Inv X pins σ H s)(mu:Jg (H a))(hs:Heap.SameBut a s.heap h')(he:∃q,h'.get? a=some q)(new:cZ X.prog X.w (upd H a ob) h' a ob) :
  Inv X pins σ (upd H a ob) {s with heap:=h',toks:=t'}:=
 I.write (x:=a) (e:=a) mu (.inl rfl) (λb q hb z=>(hs.2 b hb).trans z) he new
theorem qr{P:Program}{w:World}{H':Hp}{h':Heap}{kvs:List (Key×V)}{vs:List (Key×Value)}(z:kvs.length<=sizeLine)(hd:(a == sysModules)=false)(rel:KV kvs vs)(dd:h'.DictOf (cy P w) a vs) :
  cZ P w H' h' a (.dK kvs):=⟨z,hd,vs,rel,dd⟩
theorem yy{H':Hp}{Q:Unit->Shared->Prop}(hu:A.units+1<cLine)(I:Inv X pins σ H s)(g:uL H a y v H')(ry:RelV y u)(rv:RelV v r)(h:∀s',Inv X pins σ H' s'->Q () s') :
  wpAny (model X.prog X.w) A (setItem (.ref a) u r) Q E s:=by
 rcases g with ⟨kvs,k,e,ey,l,eH⟩|⟨kvs,k,b,e,ey,eb,l,eH⟩
 ·subst ey eH
  obtain⟨z,hd,vs,rel,dd⟩:=sj I.cw e
  have hz:vs.length<=sizeLine:=by rw [<-rel.length];exact z
  have hl:(putK kvs k v).length<=sizeLine:=by have:=fN kvs k v;omega
  refine wpAny_setItem_pairs (hsz:=hz) (ma ry) dd λh' Ce hs=>h _ ?_
  have he:∃q,h'.get? a=some q:=let ⟨q,_,_,hq,_⟩:=Ce;⟨q,hq⟩
  exact mK I (by rw [e];exact True.intro) hs he (qr hl hd (rel.put k rv) Ce)
 ·subst ey eH
  cases (show u=Value.ref b from ry)
  obtain⟨z,hd,xs,rel,dd⟩:=JH I.cw e
  have hz:xs.length<=sizeLine:=by rw [<-Paired.length rel];exact z
  have hl:(putK kvs k v).length<=sizeLine:=by have:=fN kvs k v;omega
  refine wpAny_setItem_heap (hsz:=hz) (tupleKind_room_in1 hu) (kK I.cw eb) dd λh' Ce hs=>h _ ?_
  obtain⟨q,es,ep,hq,h2,h3,h4,_,h5⟩:=Ce
  refine mK I (by rw [e];exact True.intro) hs ⟨q,hq⟩ ⟨hl,hd,_,(rel.put k eb rv).keeps λc ys ec=>?_,q,es,ep,hq,h2,h3,h4,h5⟩
  rw [aK (pj ec e (λz=>nomatch z))]
  exact ec
end
section
variable {X:Cx} {pins:List (Addr×Obj)} {σ:St} {H:Hp} {s:Shared} {a:Addr} {kvs:List (Key×V)} {k:Key} {u:Value} {A:Around} {E:Value->Shared->Prop}
end
def JI(i:Expr):Prop:=∀ov iv,subscripted i false ov iv=operate [ov,iv] (getItem ov iv)
theorem CO{prog:Program}{w:World}{A:Around}{E:Value->Shared->Prop}{s:Shared}{env:Env}{value slice:Expr}{pos:Pos}{T id:String}{Q:Value->Shared->Prop}
  (hl:typeLookup (.type T) "__getitem__"=pure (some (.builtin id))) (hs:JI slice)
  (h:wpAny (model prog w) A (eval value env) (λo s₁=>wpAny (model prog w) A (eval slice env) (λi s₂=>s₂.TypeIs o T/\wpAny (model prog w) A (getItem o i) Q E s₂) E s₁) E s) :
  wpAny (model prog w) A (eval (.Subscript value slice pos) env) Q E s:=by
 refine Subscript_ (wpAny_mono h (λo s₁ h₁=>wpAny_mono h₁ (λi s₂ h₂=>?_) λ_ _ x=>x) λ_ _ x=>x)
 obtain⟨hT,h₂⟩:=h₂
 unfold subscriptTail
 refine wpAny_bind ?_
 rw [getitemInPython_of_ne hT.not_modules]
 refine wpAny_bind (wpAny_specialOf hT hl ?_)
 have fin:wpAny (model prog w) A (subscripted slice false o i) (λr s₃=>wpAny (model prog w) A (letTemporaryGo value o r >>= λ_=>pure r) Q E s₃) E s₂:=by
  rw [hs o i]
  exact wpAny_operating (wpAny_mono h₂ (λr s₃ h₃=>wpAny_bind (wpAny_letTemporaryGo (wpAny_pure h₃))) λ_ _ x=>x)
 first
  |exact wpAny_pure (wpAny_bind fin)
  |exact wpAny_bind (wpAny_pure (wpAny_bind fin))
  |exact wpAny_bind fin
theorem sk{X:Cx}{pins:List (Addr×Obj)}{σ:St}{H:Hp}{s:Shared}{a:Addr}{y:V}{o:Option V}(I:Inv X pins σ H s)(g:jW H a y o):s.TypeIs (.ref a) "dict":=by
 rcases g with ⟨kvs,k,e,_,_⟩|⟨kvs,k,b,e,_,_,_⟩
 ·obtain⟨_,_,vs,_,dd⟩:=pG I.cw e
  exact dd.typeIs
 ·obtain⟨_,_,xs,_,dd⟩:=pH I.cw e
  exact dd.typeIs
def JJ(td ty:TE):TE:=λσ H Q=>td σ H λx H1=>ty σ H1 λy H2=>∃a v,x=.ref a/\jW H2 a y (some v)/\Q v H2
def NM(ty td:TE):TE:=λσ H Q=>ty σ H λy H1=>td σ H1 λx H2=>∃a o,x=.ref a/\jW H2 a y o/\Q (.bl o.isSome) H2
def CP(ty td:TE):TE:=λσ H Q=>ty σ H λy H1=>td σ H1 λx H2=>∃a o,x=.ref a/\jW H2 a y o/\Q (.bl (!o.isSome)) H2
def JK(td ty tv:TE):TS:=λD σ H=>tv σ H λv H1=>td σ H1 λx H2=>ty σ H2 λy H3=>∃a H4,x=.ref a/\uL H3 a y v H4/\D.nx σ H4
section
variable {X:Cx} {o i e value:Expr} {pos pos' rO:Pos} {td ty tv:TE}
theorem eK(hu:X.A.units+1<cLine)(ho:PE X o td)(hi:PE X i ty)(hs:JI i):PE X (.Subscript o i pos) (JJ td ty):=by
 intro pins s σ H Q I h
 refine CO PySem.F.slot_dict_getitem.lookup hs (cI (ho pins s σ H _ I h) λu s1 ⟨x,H1,I1,rx,q1⟩=>cI (hi pins s1 σ H1 _ I1 q1) λiv s2 ⟨y,H2,I2,ry,a,v,ex,g,q2⟩=>?_)
 subst ex
 obtain rfl:u=Value.ref a:=rx
 exact⟨sk I2 g,yx hu I2 g ry λw' s3 I3 CJ=>⟨v,H2,I3,CJ,q2⟩⟩
theorem Gm(hu:X.A.units+1<cLine)(hi:PE X i ty)(ho:PE X o td):PC X .In i o (NM ty td):=by
 intro pins s σ H Q I h
 refine cI (hi pins s σ H _ I h) λiv s1 ⟨y,H1,I1,ry,q1⟩=>cI (ho pins s1 σ H1 _ I1 q1) λu s2 ⟨x,H2,I2,rx,a,ov,ex,g,q2⟩=>?_
 subst ex
 obtain rfl:u=Value.ref a:=rx
 exact NL hu I2 g ry λs3 I3=>⟨.bl ov.isSome,H2,I3,rfl,q2⟩
theorem yz(hu:X.A.units+1<cLine)(hi:PE X i ty)(ho:PE X o td):PC X .NotIn i o (CP ty td):=by
 intro pins s σ H Q I h
 refine cI (hi pins s σ H _ I h) λiv s1 ⟨y,H1,I1,ry,q1⟩=>cI (ho pins s1 σ H1 _ I1 q1) λu s2 ⟨x,H2,I2,rx,a,ov,ex,g,q2⟩=>?_
 subst ex
 obtain rfl:u=Value.ref a:=rx
 exact CN hu I2 g ry λs3 I3=>⟨.bl (!ov.isSome),H2,I3,rfl,q2⟩
theorem qt(hu:X.A.units+1<cLine)(ho:PE X o td)(hi:PE X i ty)(hv:PE X value tv)(hs:swapsWith value (some (.Subscript o i pos')) pos.line X.env=pure false) :
  PS X (.Assign [.Subscript o i pos'] value pos) (JK td ty tv):=by
 intro pins s σ H D I h
 refine wpAny_Assign_Subscript (cI (hv pins s σ H _ I h) λr s1 ⟨v,H1,I1,rv,q1⟩=>cI (ho pins s1 σ H1 _ I1 q1) λu s2 ⟨x,H2,I2,rx,q2⟩=>cI (hi pins s2 σ H2 _ I2 q2) λiv s3 ⟨y,H3,I3,ry,a,H4,ex,g,q3⟩=>?_) hs
 subst ex
 obtain rfl:u=Value.ref a:=rx
 exact yy hu I3 g ry rv λs4 I4=>⟨σ,H4,I4,q3⟩
end
theorem Ap{P:Program}{w:World}{H:Hp}(h:Heap)(hb:sysModules<h.objs.size):cZ P w H (h.push {cls:=.type "dict",data:=.dict #[]}) h.objs.size (.dK []):=
 ⟨Nat.zero_le _,beq_eq_false_iff_ne.mpr (Ne.symm (Nat.ne_of_lt hb)),[],.nil,Heap.DictOf.new h⟩
section
variable {X:Cx} {pos:Pos}
end
def uN:List (TE×TE)->St->Hp->(List (V×V)->Hp->Prop)->Prop
 | [],_,H,Q=>Q [] H
 |(tk,tv)::r,σ,H,Q=>tk σ H λx H1=>tv σ H1 λy H2=>uN r σ H2 λps H3=>Q ((x,y)::ps) H3
abbrev VV:List (V×V)->List (Value×Value)->Prop:=Paired λp q=>RelV p.1 q.1/\RelV p.2 q.2
def Md(X:Cx)(pos:Pos)(keys:List (Option Expr))(values:List Expr)(CQ:List (TE×TE)):Prop:=
 ∀(pins:List (Addr×Obj)) (s:Shared) (σ:St) (H:Hp) (Q:List (V×V)->Hp->Prop),Inv X pins σ H s->uN CQ σ H Q ->
  wpAny (model X.prog X.w) X.A (evalPairs (pairTrees keys values X.env pos)) (λvs s'=>∃ps H',Inv X pins σ H' s'/\VV ps vs/\Q ps H') X.xe s
theorem mL{X:Cx}{pos:Pos}:Md X pos [] [] []:=λpins s σ H Q I h=>pairTrees_nil_walk ⟨[],H,I,.nil,h⟩
theorem cQ{X:Cx}{pos:Pos}{k v:Expr}{ks:List (Option Expr)}{vs:List Expr}{tk tv:TE}{CQ:List (TE×TE)}(hk:PE X k tk)(hv:PE X v tv)(hr:Md X pos ks vs CQ) :
  Md X pos (some k::ks) (v::vs) ((tk,tv)::CQ):=λpins s σ H Q I h=>
 pairTrees_cons_walk (cI (hk pins s σ H _ I h) λu s1 ⟨x,H1,I1,rx,q1⟩=>cI (hv pins s1 σ H1 _ I1 q1) λw2 s2 ⟨y,H2,I2,ry,q2⟩=>
  cI (hr pins s2 σ H2 _ I2 q2) λws s3 ⟨ps,H3,I3,rel,q3⟩=>⟨(x,y)::ps,H3,I3,.cons ⟨rx,ry⟩ rel,q3⟩)
def bw(kvs more:List (Key×V)):List (Key×V):=more.foldl (λacc kv=>putK acc kv.1 kv.2) kvs
theorem KV.merge:∀{more:List (Key×V)} {rs:List (Key×Value)} {kvs:List (Key×V)} {vs:List (Key×Value)},KV more rs->KV kvs vs->KV (bw kvs more) (merged vs rs):=by
 intro more rs kvs vs r
 unfold KV at r
 induction r generalizing kvs vs with
 |nil=>intro q;exact q
 | @cons p q ps qs h t ih=>
  intro r0
  have e:KV (putK kvs p.1 p.2) (stored vs q.1 q.2):=by
   have:=r0.put p.1 h.2
   rw [<-h.1];exact this
  exact ih e
theorem gk:∀(more kvs:List (Key×V)),(bw kvs more).length<=kvs.length+more.length
 | [],kvs=>by show kvs.length<=kvs.length+0;omega
 |p::r,kvs=>by
  have h1:=gk r (putK kvs p.1 p.2)
  have h2:=fN kvs p.1 p.2
  show (bw (putK kvs p.1 p.2) r).length<=_
  rw [List.length_cons];omega
theorem nF{P:Program}{w:World}:∀{kvs:List (Key×V)} {ws:List (Value×Value)},VV (kvs.map λkv=>(kV kv.1,kv.2)) ws->∃rs,Carries (cy P w) ws rs/\KV kvs rs
 | [],_,r=>by rw [List.map_nil] at r;cases r;exact⟨[],True.intro,.nil⟩
 |p::kvs,_,r=>by
  rw [List.map_cons] at r
  cases r with
  | @cons a b as bs h t=>
   obtain⟨rs,c,q⟩:=nF (P:=P) (w:=w) t
   obtain⟨b1,b2⟩:=b
   exact⟨(p.1,b2)::rs,⟨ma h.1,rfl,c⟩,.cons ⟨rfl,h.2⟩ q⟩
def JL(CQ:List (TE×TE)):TE:=λσ H Q=>∀p,H p=none->uN CQ σ (upd H p (.dK [])) λps H2=>H2 p=some (.dK [])/\∃kvs:List (Key×V),ps=kvs.map (λkv=>(kV kv.1,kv.2))/\kvs.length<=15/\Q (.ref p) (upd H2 p (.dK (bw [] kvs)))
theorem mM{X:Cx}{pos:Pos}{keys:List (Option Expr)}{values:List Expr}{CQ:List (TE×TE)}(h:Md X pos keys values CQ)(dj:keys.all (·.isSome)=true)(hl:keys.length=values.length)(h0:keys ≠ [])
  (CT:keys.length<=15):PE X (.Dict keys values pos) (JL CQ):=by
 intro pins s σ H Q I q
 have hn:=I.cw.fresh (Nat.le_refl s.heap.objs.size)
 have I1:=I.laid (a:=s.heap.objs.size) (o:=.dK []) (h':=s.heap.push {cls:=.type "dict",data:=.dict #[]}) (t':=s.toks) (λ_ _ q=>Heap.get?_push_of_some _ q) (Nat.le_refl _) (Ap s.heap I.big)
 refine wpAny_Dict_walk (knd:=cy X.prog X.w) dj hl h0 CT (cI (h pins _ σ _ _ I1 (q _ hn)) λws s2 ⟨ps,H2,I2,rel,e,kvs,ep,lk,q2⟩=>?_)
 subst ep
 obtain⟨rs,c,rk⟩:=nF (P:=X.prog) (w:=X.w) rel
 obtain⟨z,hd,Xq,r0,dd⟩:=sj I2.cw e
 cases r0
 refine⟨rs,c,dd,λh' Ce hs=>⟨.ref s.heap.objs.size,_,?_,rfl,q2⟩⟩
 have hz:(bw [] kvs).length<=sizeLine:=by
  have h1:=gk kvs []
  rw [List.length_nil] at h1
  rw [sizeLine_eq];omega
 have he:∃q,h'.get? s.heap.objs.size=some q:=let ⟨q,_,_,hq,_⟩:=Ce;⟨q,hq⟩
 exact mK I2 (by rw [e];exact True.intro) hs he (qr hz hd (rk.merge .nil) Ce)
structure M1 (X:Cx) (o:Expr) (m:Str) (apos:Pos) (e:Expr) (gO:Pos):Prop where
 base:attributeBase o m X.env (eval o X.env)=eval o X.env
 T9:((backTo gO (starEach [e] X.env)).all (λx=>!x.1)&&(backToKw gO (keywordEach [] X.env)).all (λx=>x.1.isSome)
  && decide (([e]:List Expr).length+([]:List Keyword).length+(if ([]:List Keyword).isEmpty then 0 else 1)<30))=true
 line:(apos.endLine == gO.line)=true
 trees:backTo gO (starEach [e] X.env) = [(false,eval e X.env)]
def RH(H:Hp)(a:Addr):Prop:=(∃kvs,Rd H a (.dK kvs))\/∃kvs,Rd H a (.dT kvs)
theorem Gn{X:Cx}{pins:List (Addr×Obj)}{σ:St}{H:Hp}{s:Shared}{a:Addr}(I:Inv X pins σ H s)(d:RH H a) :
  s.TypeIs (.ref a) "dict"/\(∀b,Value.ref a=.ref b->∃ob,s.heap.get? b=some ob/\ob.dict=none)/\(a == sysModules)=false:=by
 rcases d with ⟨kvs,e⟩|⟨kvs,e⟩
 ·obtain⟨_,hd,vs,_,dd⟩:=pG I.cw e
  refine⟨dd.typeIs,λb q=>?_,hd⟩
  cases q
  obtain⟨ob,_,_,h1,h2,_⟩:=dd
  exact⟨ob,h1,h2.2.1⟩
 ·obtain⟨_,hd,xs,_,dd⟩:=pH I.cw e
  refine⟨dd.typeIs,λb q=>?_,hd⟩
  cases q
  obtain⟨ob,_,_,h1,h2,_⟩:=dd
  exact⟨ob,h1,h2.2.1⟩
section
variable {X:Cx} {pins:List (Addr×Obj)} {σ:St} {H:Hp} {s:Shared} {a:Addr} {y d:V} {u r:Value} {o:Option V} {A:Around} {E:Value->Shared->Prop}
end
section
variable {X:Cx} {o e f:Expr} {apos gO:Pos} {td ty tx:TE}
end
section
variable {X:Cx} {pins:List (Addr×Obj)} {σ:St} {H:Hp} {s:Shared} {a:Addr} {kvs:List (Key×V)} {A:Around} {E:Value->Shared->Prop}
end
section
variable {X:Cx} {pins:List (Addr×Obj)} {σ:St} {H:Hp} {s:Shared} {a:Addr} {y:V} {u:Value} {A:Around} {E:Value->Shared->Prop}
end
end L2
namespace Mb
open PySem PySem.W PySem.Calls PyProof.Rows
section
variable {prog:Program} {w:World} {A:Around} {E:Value->Shared->Prop} {s:Shared} {K:Frag}
end
end Mb
namespace L2
open PySem PySem.Spec PyProof.Rows
section
variable {P:Program} {w:World} {K:PySem.W.Frag} {mg:Str->Option Value} {base:Heap}
end
section
variable {X:Cx}
end
section
variable {κ:Type} [DecidableEq κ]
end
def my(cells:List (Str×Addr))(names:List (Str×NameKind))(acc:List (Str×Addr)):List (Str×Addr):=
 match names with
 | []=>acc
 |(n,k)::r=>my cells r (if k == .free then (n,(cells.lookup n).getD 0)::acc else acc)
theorem kL{cells:List (Str×Addr)}:∀{names:List (Str×NameKind)} {acc:List (Str×Addr)},(∀y∈names,y.2=.free->∃c,cells.lookup y.1=some c)->(∀x c,acc.lookup x=some c->cells.lookup x=some c) ->
  ∀x c,(my cells names acc).lookup x=some c->cells.lookup x=some c
 | [],acc,_,h,x,c,e=>h x c e
 |(n,k)::r,acc,hf,h,x,c,e=>by
  unfold my at e
  refine kL (λy hy=>hf y (List.mem_cons_of_mem _ hy)) ?_ x c e
  intro x' c' e'
  by_cases hk:k=.free
  ·subst hk
   obtain⟨d,hd⟩:=hf (n,.free) List.mem_cons_self rfl
   have oK:cells.lookup n=some d:=hd
   simp only [beq_self_eq_true,if_true,List.lookup_cons] at e'
   cases hx:x' == n with
   |true=>
    rw [hx] at e'
    have e2:x'=n:=by simpa using hx
    subst e2
    simp only [oK,Option.getD_some] at e'
    rw [oK];exact e'
   |false=>
    rw [hx] at e'
    exact h x' c' e'
  ·have hb:(k == NameKind.free)=false:=by simpa using hk
   simp only [hb,Bool.false_eq_true,if_false] at e'
   exact h x' c' e'
theorem nG{cells:List (Str×Addr)}:∀{names:List (Str×NameKind)} {acc:List (Str×Addr)} {x:Str},((∃c,acc.lookup x=some c)\/(x,NameKind.free)∈names)->∃c,(my cells names acc).lookup x=some c
 | [],acc,x,h=>by
  rcases h with h|h
  ·exact h
  ·cases h
 |(n,k)::r,acc,x,h=>by
  unfold my
  refine nG ?_
  by_cases hk:k=.free
  ·subst hk
   simp only [beq_self_eq_true,if_true,List.lookup_cons]
   cases hx:x == n with
   |true=>exact .inl ⟨_,rfl⟩
   |false=>
    rcases h with h|h
    ·exact .inl h
    ·rcases List.mem_cons.mp h with h|h
     ·cases h
      simp at hx
     ·exact .inr h
  ·have hb:(k == NameKind.free)=false:=by simpa using hk
   simp only [hb,Bool.false_eq_true,if_false]
   rcases h with h|h
   ·exact .inl h
   ·rcases List.mem_cons.mp h with h|h
    ·cases h
     exact absurd rfl hk
    ·exact .inr h
theorem j4{env:Env}:∀{names:List (Str×NameKind)} {acc:List (Str×Addr)},(∀y∈names,y.2=.free->∃c,env.cells.lookup y.1=some c) ->
  (forIn names acc λ(x:Str×NameKind) (r:List (Str×Addr))=>(if x.2 == .free then (do let a <-cellOf env x.1;pure (ForInStep.yield ((x.1,a)::r))) else pure (ForInStep.yield r):Sem (ForInStep (List (Str×Addr)))))=(pure (my env.cells names acc):Sem (List (Str×Addr)))
 | [],acc,_=>rfl
 |(n,k)::r,acc,hf=>by
  rw [List.forIn_cons]
  have ih:=λNN=>j4 (env:=env) (names:=r) (acc:=NN) λy hy=>hf y (List.mem_cons_of_mem _ hy)
  by_cases hk:k=.free
  ·subst hk
   obtain⟨c,hc⟩:=hf (n,.free) List.mem_cons_self rfl
   have mw:env.cells.lookup n=some c:=hc
   simp only [beq_self_eq_true,if_true,cellOf,mw,pure_bind,my,Option.getD_some]
   exact ih _
  ·have hb:(k == NameKind.free)=false:=by simpa using hk
   simp only [hb,Bool.false_eq_true,if_false,pure_bind,my]
   exact ih _
theorem uO{scope:Scope}{env:Env}(h:∀y∈scope.names,y.2=.free->∃c,env.cells.lookup y.1=some c):closureFor scope env=pure (my env.cells scope.names []):=by
 have q:=j4 (env:=env) (acc:= []) h
 unfold closureFor
 exact (congrArg (λm:Sem (List (Str×Addr))=>m >>= λcs=>pure cs) q).trans (by simp)
def ka(X:Cx)(N':List Str)(scope:Scope)(fp:List Addr)(s₀:Shared)(H₀:Hp):Cx:=
 {X with N:=N',s₀:=s₀,H₀:=H₀,env:=compEnvC scope (my X.env.cells scope.names []) s₀.heap.objs.size X.env,outer:=X.stack,ex:=fp,fn:=λ_=>false,pn:= [],xe:=λ_ _=>False}
structure jI (X:Cx) (N':List Str) (scope:Scope):Prop where
 kind:scope.kind=.function
 nd:N'.Nodup
 Aq:∀y∈scope.names,y.2≠.cell
 loc:∀y∈scope.names,y.2=.local->scope.names.lookup y.1=some .local
 Me:∀y∈scope.names,y.2=.free->X.env.kindOf y.1=some .cell
 own:∀x,(x,NameKind.free)∈scope.names->(relabel scope X.env).names.lookup x≠some .local
theorem qu{scope:Scope}{env:Env}{x:Str}(hc:∀y∈scope.names,y.2≠.cell)(h:(relabel scope env).names.lookup x=some .cell\/(relabel scope env).names.lookup x=some .free):(x,NameKind.free)∈scope.names:=by
 have key:∀(l:List (Str×NameKind)),(∀y∈l,y.2≠.cell)->∀k,(k=.cell\/k=.free) ->
   (l.map λ(n,k)=>if (k == NameKind.free&&env.scope.kind == .function&&env.kindOf n == some .cell) then (n,NameKind.cell) else (n,k)).lookup x=some k->(x,NameKind.free)∈l:=by
  intro l
  induction l with
  |nil=>intro _ k _ e;cases e
  |cons y r ih=>
   obtain⟨n,kk⟩:=y
   intro hc k hk e
   have hr:∀y∈r,y.2≠.cell:=λy hy=>hc y (List.mem_cons_of_mem _ hy)
   have Gp:kk≠.cell:=hc (n,kk) List.mem_cons_self
   rw [List.map_cons] at e
   by_cases hq:(kk == NameKind.free&&env.scope.kind == .function&&env.kindOf n == some .cell)=true
   ·simp only [hq,if_true,List.lookup_cons] at e
    have hf:kk=.free:=by
     have:=(Bool.and_eq_true _ _▸(Bool.and_eq_true _ _▸hq).1).1
     simpa using this
    cases hx:x == n with
    |true=>
     have:x=n:=by simpa using hx
     subst this;subst hf
     exact List.mem_cons_self
    |false=>
     rw [hx] at e
     exact List.mem_cons_of_mem _ (ih hr k hk e)
   ·have F4:(kk == NameKind.free&&env.scope.kind == .function&&env.kindOf n == some .cell)=false:=by simpa using hq
    simp only [F4,Bool.false_eq_true,if_false] at e
    rw [List.lookup_cons] at e
    cases hx:x == n with
    |true=>
     have EW:x=n:=by simpa using hx
     subst EW
     rw [hx] at e
     have e':kk=k:=by simpa using e
     rcases hk with hk|hk
     ·exact absurd (e'.trans hk) Gp
     ·rw [e',hk];exact List.mem_cons_self
    |false=>
     have e2:(r.map λ(n,k)=>if (k == NameKind.free&&env.scope.kind == .function&&env.kindOf n == some .cell) then (n,NameKind.cell) else (n,k)).lookup x=some k:=by
      rw [hx] at e
      exact e
     exact List.mem_cons_of_mem _ (ih hr k hk e2)
 rcases h with h|h
 ·exact key _ hc _ (.inl rfl) h
 ·exact key _ hc _ (.inr rfl) h
section
variable {X:Cx} {pins:List (Addr×Obj)} {σ:St} {H:Hp} {s:Shared} {N':List Str} {scope:Scope} {fp:List Addr}
def uP(X:Cx)(N':List Str)(scope:Scope)(σ σ':St):Prop:=
 σ'.length=N'.length/\∀(i:Nat) (x:Str) (v:V),N'[i]?=some x->σ'[i]?=some (some v)->(x,NameKind.free)∈scope.names/\∃(j:Nat),X.N[j]?=some x/\σ[j]?=some (some v)
theorem CU(S:jI X N' scope)(I:Inv X pins σ H s)(hf:∀b∈fp,kB X pins H b)(eQ:∀b∈fp,b<s.heap.objs.size):(ka X N' scope fp s H).Ok:=by
 have jg:∀y∈scope.names,y.2=.free->∃c,X.env.cells.lookup y.1=some c:=λy hy hk=>I.ok.has y.1 (.inl (S.Me y hy hk))
 have sub:=kL (cells:=X.env.cells) (names:=scope.names) (acc:= []) jg (λx c e=>by cases e)
 refine⟨I.ok.mod,S.kind,I.ok.glob,I.ok.blt,Nat.le_refl _,λx y c e1 e2=>I.ok.inj x y c (sub x c e1) (sub y c e2),λx hx=>?_,λx c hz=>?_,I.ok.hd,I.ok.frames,.inl rfl,λb hb=>?_,I.bs,Nat.le_trans I.ok.wy I.sz,λb o e hb=>?_,λb hb hs=>?_,I.stack,I.mE⟩
 ·exact nG (.inr (qu S.Aq hx))
 ·exact absurd (show false=true from hz) Bool.false_ne_true
 ·obtain⟨_,hL,_,_,hc,_⟩:=hf b hb
  refine⟨λe=>?_,λx c e=>hc x c (sub x c e)⟩
  have e':b=s.heap.objs.size:=e
  exact absurd (eQ b hb) (by rw [e'];exact Nat.lt_irrefl _)
 ·obtain⟨_,_,_,h2,_⟩:=hf b hb
  rcases h2 with h2|h2
  ·exact I.ok.qg b o e h2
  ·exact absurd (Nat.lt_of_lt_of_le (Heap.lt_size e) (Nat.le_trans I.ok.wy h2)) (Nat.lt_irrefl _)
 ·obtain⟨_,hL,Ua,_⟩:=hf b hb
  rcases List.mem_cons.mp (I.qh b hs) with z|z
  ·exact hL z
  ·exact Ua z
theorem Ar(S:jI X N' scope)(I:Inv X pins σ H s)(hf:∀b∈fp,kB X pins H b)(eQ:∀b∈fp,b<s.heap.objs.size){σ':St}(hc:uP X N' scope σ σ'){h1:Heap}{tk:Nat}
  (hn:h1.Ns s.heap.objs.size (λ_=>none)) (hk:∀b o,s.heap.get? b=some o->h1.get? b=some o):Inv (ka X N' scope fp s H) [] σ' H {s with heap:=h1,toks:=tk}:=by
 have jg:∀y∈scope.names,y.2=.free->∃c,X.env.cells.lookup y.1=some c:=λy hy hk=>I.ok.has y.1 (.inl (S.Me y hy hk))
 have sub:=kL (cells:=X.env.cells) (names:=scope.names) (acc:= []) jg (λx c e=>by cases e)
 refine⟨CU S I hf eQ,rfl,I.bare,Un.kept hk,⟨_,hn,λi x v e1 e2 e3=>?_⟩,λx c e=>?_,I.fresh,λx c e=>I.gs x c (sub x c e),λp hp=>absurd (show p∈([]:List (Addr×Obj)) from hp) (by simp),I.cw.kept hk,hc.1⟩
 ·obtain⟨hx,j,j1,j2⟩:=hc.2 i x v e1 e2
  obtain⟨m,_,hl⟩:=I.loc
  have RI:X.env.kindOf x=some .cell:=S.Me (x,.free) hx rfl
  obtain⟨u,r,l⟩:=hl j x v j1 j2 (.inr (.inl RI))
  refine⟨u,r,.inr ?_⟩
  rcases l with ⟨k,_⟩|⟨_,c,ec,z⟩
  ·rw [RI] at k;cases k
  ·obtain⟨c',RJ⟩:=nG (cells:=X.env.cells) (names:=scope.names) (acc:= []) (x:=x) (.inr hx)
   have RK:=sub x c' RJ
   rw [ec] at RK
   cases RK
   refine⟨?_,c,RJ,z.keeps hk⟩
   have Ub:LS (relabel scope X.env) x:=e3
   rcases Ub with q|q|q
   ·exfalso
    exact S.own x hx q
   ·exact .inl q
   ·exact .inr q
 ·obtain⟨v,z⟩:=I.cell x c (sub x c e)
  exact⟨v,z.keeps hk⟩
end
def eD(X:Cx)(ifs:List Expr)(t:TT):Prop:=
 ∀(pins:List (Addr×Obj)) (s:Shared) (σ:St) (H:Hp) (Q:Bool->Hp->Prop),Inv X pins σ H s->t σ H Q ->
  wpAny (model X.prog X.w) X.A (forIn ifs true λc r=>if r=true then (do let ok <-isTrue c X.env (eval c X.env);pure (ForInStep.yield ok)) else pure (ForInStep.yield r)) (TP X pins σ Q) X.xe s
theorem cB{X:Cx}:eD X [] (λ_ H Q=>Q true H):=by
 intro pins s σ H Q I h
 rw [List.forIn_nil]
 exact wpAny_pure ⟨H,I,h⟩
theorem jn{X:Cx}{c:Expr}{t:TT}(h:PT X c t):eD X [c] t:=by
 intro pins s σ H Q I hq
 rw [List.forIn_cons]
 refine wpAny_bind ?_
 rw [if_pos rfl]
 refine wpAny_bind (cI (h pins s σ H Q I hq) λb s1 q=>wpAny_pure ?_)
 dsimp only
 rw [List.forIn_nil]
 exact wpAny_pure q
def JM(wi:TI)(g:TG)(tc:TT)(te:TE)(σc:St->St):TE:=λσ H Q=>wi σ H λJ H1=>∀acc,H1 acc=none ->
 ∃W:Nat->Nat->St->List V->Hp->Prop,(∃m,W 0 m (σc σ) [] (upd H1 acc (.lst [])))/\∀i m σ2 ys H2,W i m σ2 ys H2->H2 acc=some (.lst ys) /\
  ((J.stop i H2/\Q (.ref acc) H2)\/(J.go i H2/\ys.length<sizeLine/\∀x H3,J.rM i H2 x H3->g x σ2 H3 λσ4 H4=>tc σ4 H4 λb H5=>
   if b=true then te σ4 H5 λy H6=>H6 acc=some (.lst ys)/\∃m',m'<m/\W (i+1) m' σ4 (ys ++ [y]) (upd H6 acc (.lst (ys ++ [y]))) else ∃m',m'<m/\W (i+1) m' σ4 ys H5))
theorem qv{prog:Program}{w:World}{A:Around}{R:Result->Shared->Prop}{s:Shared}{elt target iter:Expr}{ifs:List Expr}{scope:Scope}{pos:Pos}{it acc:Value}{env:Env}(I:Nat->Shared->Prop)
  (turn:∀n s,I n s->wpAny (model prog w) A (pyNext it) (λr s₁=>(r=none/\R (.ok .next) s₁)\/∃v,r=some v /\
    wpAny (model prog w) A (letOwnedTupleGo target it v) (λ_ s₂=>wpAny (model prog w) A (assign target env v) (λ_ s₃=>
     wpAny (model prog w) A (forIn ifs true λc r=>if r=true then (do let ok <-isTrue c env (eval c env);pure (ForInStep.yield ok)) else pure (ForInStep.yield r)) (λok s₄=>
      if ok=true then wpAny (model prog w) A (eval elt env) (λx s₅=>wpAny (model prog w) A (call (.builtin "list.append") [acc,x]) (λ_ s₆=>∃m,m<n/\I m s₆) (λ_ _=>False) s₅) (λ_ _=>False) s₄
      else ∃m,m<n/\I m s₄) (λ_ _=>False) s₃) (λ_ _=>False) s₂) (λ_ _=>False) s₁) (λ_ _=>False) s)
  (n:Nat) (h:I n s):codeAny (model prog w) A (.compLoop (.ListComp elt [⟨target,iter,ifs,0⟩] scope pos) 0 it acc env) R s:=by
 have no:∀{α:Type} {t:Sem α} {Q:α->Shared->Prop} {E:Value->Shared->Prop} {s:Shared},wpAny (model prog w) A t Q (λ_ _=>False) s->wpAny (model prog w) A t Q E s:=λh=>wpAny_mono h (λ_ _ q=>q) λ_ _ f=>f.elim
 refine codeAny_loop rfl I (λn s hI=>?_) n h
 show wpAny _ A ((compTurn (.ListComp elt [⟨target,iter,ifs,0⟩] scope pos) 0 it acc env).onRaise (λx=>do noteFrame x env;theTreesLotGoes x)) _ _ s
 refine wpAny_noted ?_
 rw [compTurn_list]
 refine wpAny_bind (wpAny_standAt (wpAny_bind (no (cI (turn n s hI) λr s₁ h₁=>?_))))
 rcases h₁ with ⟨rfl,h₁⟩|⟨v,rfl,h₁⟩
 ·exact wpAny_pure h₁
 ·refine wpAny_bind (no (cI h₁ λ_ s₂ h₂=>wpAny_bind (no (cI h₂ λ_ s₃ h₃=>wpAny_bind (no (cI h₃ λok s₄ h₄=>?_))))))
  cases ok with
  |false=>exact wpAny_pure ⟨rfl,h₄⟩
  |true=>exact wpAny_bind (wpAny_bind (no (cI h₄ λx s₅ h₅=>wpAny_bind (no (cI h₅ λ_ s₆ h₆=>wpAny_pure (wpAny_pure ⟨rfl,h₆⟩))))))
theorem CV{P:Program}{w:World}{H:Hp}{h h':Heap}{C:Addr}(ok:il P w H h)(hC:H C=none)(hs:Heap.SameBut C h h'):il P w H h':=λb o e=>
 (ok b o e).ng (λc u hc q=>(hs.2 c (by
  rintro rfl
  rcases hc with rfl|hc
  ·rw [hC] at e;cases e
  ·rw [hC] at hc;cases hc)).trans q) (λ_ q=>q) λ_ _ q=>q
theorem cq{X:Cx}{tg iter elt:Expr}{ifs:List Expr}{scope:Scope}{pos:Pos}{N':List Str}{wi:TI}{g:TG}{tc:TT}{te:TE}{σc:St->St}
  (S:jI X N' scope) (JN:X.calm=true) (hσ:∀σ:St,σ.length=X.N.length->uP X N' scope σ (σc σ)) (hi:PI X tg iter wi)
  (hg:∀fp s₀ H₀,PG (ka X N' scope fp s₀ H₀) tg g) (hc:∀fp s₀ H₀,eD (ka X N' scope fp s₀ H₀) ifs tc) (he:∀fp s₀ H₀,PE (ka X N' scope fp s₀ H₀) elt te)
  (hs:∀x,foldedSetIterable iter X.env x=pure x:=by intro _;rfl):PE X (.ListComp elt [⟨tg,iter,ifs,0⟩] scope pos) (JM wi g tc te σc):=by
 intro pins s σ H Q I h
 have jg:∀y∈scope.names,y.2=.free->∃c,X.env.cells.lookup y.1=some c:=λy hy hk=>I.ok.has y.1 (.inl (S.Me y hy hk))
 have sub:=kL (cells:=X.env.cells) (names:=scope.names) (acc:= []) jg (λx c e=>by cases e)
 rw [eval_ListComp]
 refine wpAny_comprehension_free (use:=none) rfl hs (uO jg) S.kind S.loc (cI (hi pins s σ H _ I h) λv s1 h1=>cI h1 λNn s2 h2=>?_)
 obtain⟨it,fp,tn,J,H2,rfl,I2,T,LW,f2,h2⟩:=h2
 obtain⟨W,⟨m0,w0⟩,turn⟩:=h2 s2.heap.objs.size I2.fresh
 have RL:∀b∈fp,b<s2.heap.objs.size:=λb hb=>by
  obtain⟨o,ho,_⟩:=T.obj _ _ LW b hb
  exact Heap.lt_size ho
 refine wpAny_newObj_type (wpAny_newFunctionEnv S.Aq (by intro y hy;simp at hy) (λh₁ hns₁ hsb₁=>?_) S.kind)
 dsimp only at hns₁ hsb₁ ⊢
 have I3:Inv X pins σ (upd H2 s2.heap.objs.size (.lst [])) {s2 with heap:=s2.heap.push {cls:=.type "list",data:=.seq ([]:List Value).toArray}}:=I2.Gf (t':=s2.toks) (ys:= []) .nil (Nat.zero_le _)
 generalize JO:({s2 with heap:=s2.heap.push {cls:=.type "list",data:=.seq ([]:List Value).toArray}}:Shared)=s3 at I3
 have e3:s2.heap.push {cls:=.type "list",data:=.seq ([]:List Value).toArray}=s3.heap:=by rw [<-JO]
 have Uc:s3.heap.objs.size=s2.heap.objs.size+1:=by rw [<-e3,Heap.size_push]
 have NO:∀b o,s2.heap.get? b=some o->s3.heap.get? b=some o:=λb o e=>by rw [<-e3];exact Heap.get?_push_of_some _ e
 have f3:∀b∈fp,kB X pins (upd H2 s2.heap.objs.size (.lst [])) b:=λb hb=>by
  obtain⟨q1,q2⟩:=f2 b hb
  exact⟨by rw [aK (Nat.ne_of_lt (RL b hb))];exact q1,q2⟩
 have Ud:∀b∈fp,b<s3.heap.objs.size:=λb hb=>by rw [Uc];exact Nat.lt_succ_of_lt (RL b hb)
 rw [e3] at hns₁ hsb₁ ⊢
 have up1:∀b o,s3.heap.get? b=some o->h₁.get? b=some o:=λb o e=>hsb₁.extBut b o (Nat.ne_of_lt (Heap.lt_size e)) (Heap.get?_push_of_some _ e)
 have NP:h₁.Ns s3.heap.objs.size (λ_=>none):=by
  have q:=hns₁
  simpa using q
 have I4:Inv (ka X N' scope fp s3 (upd H2 s2.heap.objs.size (.lst []))) [] (σc σ) (upd H2 s2.heap.objs.size (.lst [])) {s3 with heap:=h₁,toks:=s2.toks}:=Ar S I3 f3 Ud (hσ σ I.len) NP up1
 have RM:tn 0 h₁:=T.keep _ _ _ LW λb hb o e=>up1 b o (NO b o e)
 generalize hX:ka X N' scope fp s3 (upd H2 s2.heap.objs.size (.lst []))=X' at I4
 have xP:X'.prog=X.prog:=by rw [<-hX];rfl
 have xw:X'.w=X.w:=by rw [<-hX];rfl
 have xK:X'.K=X.K:=by rw [<-hX];rfl
 have xA:X'.A=X.A:=by rw [<-hX];rfl
 have xc:X'.calm=true:=by rw [<-hX];exact JN
 have xx:X'.xe=λ_ _=>False:=by rw [<-hX];rfl
 have xe:X'.env=compEnvC scope (my X.env.cells scope.names []) s3.heap.objs.size X.env:=by rw [<-hX];rfl
 have Mf:PG X' tg g:=by rw [<-hX];exact hg _ _ _
 have mw:eD X' ifs tc:=by rw [<-hX];exact hc _ _ _
 have Ue:PE X' elt te:=by rw [<-hX];exact he _ _ _
 have EX:X'.ex=fp:=by rw [<-hX];rfl
 have Ug:X'.fs=nq X.stack:=by rw [<-hX];rfl
 have Uh:X'.pn = []:=by rw [<-hX];rfl
 have RN:X'.s₀=s3:=by rw [<-hX];rfl
 have Ui:X'.H₀=upd H2 s2.heap.objs.size (.lst []):=by rw [<-hX];rfl
 have NQ:=I4.ok
 have uw:∀{H':Hp},(∀b∈fp,H' b=none)->∀b∈fp,kB X' [] H' b:=λ{H'} hn b hb=>by
  obtain⟨_,q1,q2,q3,q4,q5⟩:=f3 b hb
  refine⟨hn b hb,(NQ.Cb b (by rw [EX];exact hb)).1,NQ.rK b (by rw [EX];exact hb),.inl (by rw [EX];exact hb),(NQ.Cb b (by rw [EX];exact hb)).2,λp hp=>?_⟩
  rw [Uh] at hp
  exact absurd (show p∈([]:List (Addr×Obj)) from hp) (by simp)
 have fin:∀(s':Shared) (σ':St) (H':Hp),Inv X' [] σ' H' s'->Q (.ref s2.heap.objs.size) H'->compPost (model X.prog X.w) X.A X.xe none (EP X pins σ Q) (.ref s2.heap.objs.size) s3.heap.objs.size (.ok .next) s':=λs' σ' H' I' q=>by
  have hC:X'.env.locals=s3.heap.objs.size:=by rw [xe];rfl
  obtain⟨m,hm,_⟩:=id I'.loc
  rw [hC] at hm
  refine⟨m,hm,λh' IF=>⟨.ref s2.heap.objs.size,H',?_,rfl,q⟩⟩
  have un:=I'.base
  rw [Ug,EX,RN,Ui] at un
  have EF:∀b o,s3.heap.get? b=some o->b≠s3.heap.objs.size:=λb o e=>Nat.ne_of_lt (Heap.lt_size e)
  have Uj:Un (nq X.stack) fp (upd H2 s2.heap.objs.size (.lst [])) H' s3.heap h':=
   ⟨λb o e n hb hx=>(IF.2 b (EF b o e)).trans (un.keep b o e n hb hx),λb o e n hb hx=>let ⟨sl,z⟩:=un.slot b o e n hb hx;⟨sl,(IF.2 b (EF b o e)).trans z⟩,un.free,
    λb o e hx=>let ⟨o',z⟩:=un.there b o e hx;⟨o',(IF.2 b (EF b o e)).trans z⟩,un.ni,un.mq,un.nj⟩
  have jX:H' s3.heap.objs.size=none:=by rw [<-hC];exact I'.free
  have uJ:il X.prog X.w H' s'.heap:=by rw [<-xP,<-xw];exact I'.cw
  refine I3.EH (s':={s' with heap:=h'}) (ch:=fp) ?_ Uj (CV uJ jX IF) I'.bare λb hb=>?_
  ·have z:=I'.os
   rw [RN] at z
   exact z
  ·obtain⟨_,q1,q2,q3,q4,q5⟩:=f3 b hb
   exact⟨q3,q1,q4,q5⟩
 have loop:codeAny (model X.prog X.w) X.A (.compLoop (.ListComp elt [⟨tg,iter,ifs,0⟩] scope pos) 0 (.ref it) (.ref s2.heap.objs.size) (compEnvC scope (my X.env.cells scope.names []) s3.heap.objs.size X.env))
   (compPost (model X.prog X.w) X.A X.xe none (EP X pins σ Q) (.ref s2.heap.objs.size) s3.heap.objs.size) {s3 with heap:=h₁,toks:=s2.toks}:=by
  refine qv (λn s'=>∃i σ' ys H',Inv X' [] σ' H' s'/\tn i s'.heap/\(∀b∈fp,H' b=none)/\W i n σ' ys H') ?_ m0 ⟨0,_,[],_,I4,RM,λb hb=>(f3 b hb).1,w0⟩
  rintro n s5 ⟨i,σ5,ys,H5,I5,IC,LY,w5⟩
  obtain⟨bR,hh⟩:=turn i n σ5 ys H5 w5
  rcases hh with ⟨stop,q⟩|⟨go,hsz,step⟩
  ·have d:=T.done X' xP xw xK xc i [] s5 σ5 H5 (λ_ _=>False) I5 (uw LY) IC stop
   rw [xA] at d
   exact cI d λr s6 ⟨hr,I6⟩=>.inl ⟨hr,fin s6 σ5 H5 I6 q⟩
  ·have d:=T.item X' xP xw xK xc i [] s5 σ5 H5 (λ_ _=>False) I5 (uw LY) IC go
   rw [xA] at d
   refine cI d λr s6 ⟨u,hr,h6⟩=>.inr ⟨u,hr,cI h6 λ_ s7 ⟨x,H7,I7,r7,y7,NR,Uk⟩=>?_⟩
   have Ul:=I7.pinned (uw Uk) (T.obj _ _ NR)
   have a1:=Mf _ s7 σ5 H7 x u _ Ul r7 (step x H7 y7)
   rw [xP,xw,xA,xe,xx] at a1
   refine cI a1 λ_ s8 ⟨σ8,H8,I8,q8⟩=>?_
   have a2:=mw _ s8 σ8 H8 _ I8 q8
   rw [xP,xw,xA,xe,xx] at a2
   refine cI a2 λok s9 ⟨H9,I9,q9⟩=>?_
   have back:∀{σz:St} {Hz:Hp} {sz:Shared},Inv X' ([]++j8 fp s7.heap) σz Hz sz->tn (i+1) sz.heap/\∀b∈fp,Hz b=none:=λ{σz Hz sz} Iz=>by
    refine⟨T.keep _ _ _ NR λb hb o e=>(Iz.pin (b,o) (List.mem_append_right _ (List.mem_append_right _ (g4 hb e)))).1,λb hb=>?_⟩
    obtain⟨o,e,_⟩:=T.obj _ _ NR b hb
    exact (Iz.pin (b,o) (List.mem_append_right _ (List.mem_append_right _ (g4 hb e)))).2.1
   cases ok with
   |false=>
    obtain⟨m',hm,w'⟩:=q9
    rw [if_neg Bool.false_ne_true]
    exact⟨m',hm,i+1,σ8,ys,H9,I9.gu,(back I9).1,(back I9).2,w'⟩
   |true=>
    rw [if_pos rfl] at q9 ⊢
    have a3:=Ue _ s9 σ8 H9 _ I9 q9
    rw [xP,xw,xA,xe,xx] at a3
    refine cI a3 λy sa ⟨yv,Ha,Ia,ra,JP,m',hm,w'⟩=>?_
    have a4:=fM (X:=X') _ sa σ8 Ha (.ref s2.heap.objs.size) [yv] (.ref s2.heap.objs.size) [y] (λv H'=>H'=upd Ha s2.heap.objs.size (.lst (ys ++ [yv]))) Ia rfl (.cons ra .nil) ⟨_,ys,yv,rfl,rfl,JP,hsz,rfl⟩
    rw [xP,xw,xA,xx] at a4
    refine cI a4 λ_ sb ⟨_,Hb,Ib,_,eb⟩=>?_
    subst eb
    exact⟨m',hm,i+1,σ8,ys ++ [yv],_,Ib.gu,(back Ib).1,(back Ib).2,w'⟩
 have es:({s2 with heap:=h₁,toks:=s2.toks+([]:List (Str×Value)).length}:Shared)={s3 with heap:=h₁,toks:=s2.toks}:=by rw [<-JO];rfl
 refine codeAny_compStart_list ?_ ?_
 ·exact es▸loop
 ·exact T.self _ 0 _ _ _ RM (es▸loop)
section
variable {P:Program} {w:World} {A:Around} {E:Value->Shared->Prop} {s:Shared}
theorem kM{d t:Addr}{k:Nat}{its:Array Value}{u:Value}{Q:Value->Shared->Prop}(hd:s.heap.IsTupleIter d t k)(ht:s.heap.IsTuple t its)(hu:its[k]?=some u)
  (hQ:∀hp,hp.IsTupleIter d t (k+1)->Heap.SameBut d s.heap hp->Q u {s with heap:=hp}):wpAny (model P w) A (Builtin.SmallTypes.nextOf (.ref d)) Q E s:=by
 obtain⟨od,CW,FL,CY⟩:=id hd
 obtain⟨ot,NS,_,nt,Gq⟩:=ht
 unfold Builtin.SmallTypes.nextOf
 refine wpAny_bind (wpAny_callSpecial?_slot (name:=Str.ofString "__next__") hd.typeIs F.slot_tuple_iterator_next (wpAny_call_entry F.slot_tuple_iterator_next hd.typeIs F.entry_tuple_iterator_next ?_ (F.args_tuple_iterator_next_1 _)))
 show wpAny _ _ (field (.ref d) 0 >>= _) _ _ s
 refine wpAny_bind (wpAny_field CW CY (x:=.ref t) rfl ?_)
 show wpAny _ _ (if (Value.ref t == Value.none)=true then _ else _) _ _ s
 rw [if_neg (by intro z;exact Bool.false_ne_true z)]
 show wpAny _ _ (field (.ref d) 1 >>= _) _ _ s
 refine wpAny_bind (wpAny_field CW CY (x:=.int k 0) rfl ?_)
 show wpAny _ _ (seqItems? (.ref t) >>= _) _ _ s
 refine wpAny_bind (wpAny_seqItems NS Gq ?_)
 simp only [Int.toNat_natCast,hu]
 refine wpAny_bind (wpAny_setField CW CY (by simp) (wpAny_pure ⟨u,rfl,wpAny_pure (hQ _ ⟨_,Heap.get?_update_self _ CW (Obj.isFreed_of_fields (Obj.data_mapFields CY _)),(Obj.cls_mapFields ..).trans FL,?_⟩ (Heap.SameBut.update ..))⟩))
 rw [Obj.data_mapFields CY]
 simp [rawInt]
theorem iO{d t:Addr}{k:Nat}{its:Array Value}{Q:Value->Shared->Prop}(hh:A.handled=none)(hd:s.heap.IsTupleIter d t k)(ht:s.heap.IsTuple t its)(hu:its[k]?=none)
  (hE:∀hp e,Heap.ExtBut d s.heap hp->(∃o,hp.get? e=some o/\o.cls=.type "StopIteration")->E (.ref e) {s with heap:=hp}):wpAny (model P w) A (Builtin.SmallTypes.nextOf (.ref d)) Q E s:=by
 obtain⟨od,CW,FL,CY⟩:=id hd
 obtain⟨ot,NS,_,nt,Gq⟩:=ht
 unfold Builtin.SmallTypes.nextOf
 refine wpAny_bind (wpAny_callSpecial?_slot (name:=Str.ofString "__next__") hd.typeIs F.slot_tuple_iterator_next (wpAny_call_entry F.slot_tuple_iterator_next hd.typeIs F.entry_tuple_iterator_next ?_ (F.args_tuple_iterator_next_1 _)))
 show wpAny _ _ (field (.ref d) 0 >>= _) _ _ s
 refine wpAny_bind (wpAny_field CW CY (x:=.ref t) rfl ?_)
 show wpAny _ _ (if (Value.ref t == Value.none)=true then _ else _) _ _ s
 rw [if_neg (by intro z;exact Bool.false_ne_true z)]
 show wpAny _ _ (field (.ref d) 1 >>= _) _ _ s
 refine wpAny_bind (wpAny_field CW CY (x:=.int k 0) rfl ?_)
 show wpAny _ _ (seqItems? (.ref t) >>= _) _ _ s
 refine wpAny_bind (wpAny_seqItems NS Gq ?_)
 simp only [Int.toNat_natCast,hu]
 refine wpAny_bind (wpAny_rule (wpAny_bind (wpAny_setField CW CY (by simp) ?_)))
 show wpAny _ _ (newExc (.type "StopIteration") [] >>= _) _ _ _
 refine wpAny_bind ?_
 simp only [newExc,newTuple]
 refine wpAny_bind (wpAny_newObj_type ?_ (by size_fits))
 refine wpAny_bind (m:=firstArgMember _ _) (wpAny_of_eq (a:=Value.none) (by first|rfl|(simp only [firstArgMember];rfl)) ?_)
 refine wpAny_newObj_type ?_ (by size_fits)
 simp only [raiseNew]
 refine wpAny_bind (wpAny_handled ?_)
 first|rw [show A.in1.handled=none from hh]|rw [hh]
 refine wpAny_bind (wpAny_pure (wpAny_throw ?_))
 exact hE _ _ (((Heap.SameBut.update ..).extBut.push _).push _) ⟨_,Heap.get?_push_size _ rfl,rfl⟩
structure yA (z a b c d:Addr):Prop where
 az:a≠z
 bz:b≠z
 cz:c≠z
 dz:d≠z
 ab:a≠b
 ac:a≠c
 ad:a≠d
 bc:b≠c
 bd:b≠d
 cd:c≠d
structure EY (h:Heap) (z a b c d t1 t2:Addr) (k:Nat) (f0:Value):Prop where
 zip:IsZip h z a b f0
 its:IsPair h a (.ref c) (.ref d)
 own:∃x y,IsPair h b x y
 i1:h.IsTupleIter c t1 k
 i2:h.IsTupleIter d t2 k
theorem As{z a b c d t1 t2:Addr}{k:Nat}{xs ys:Array Value}{x y:Value}{Q:Value->Shared->Prop}(D:yA z a b c d)(Z:EY s.heap z a b c d t1 t2 k .none)
  (o1:t1≠z/\t1≠b/\t1≠c/\t1≠d) (o2:t2≠z/\t2≠b/\t2≠c/\t2≠d) (wO:s.heap.IsTuple t1 xs) (mz:s.heap.IsTuple t2 ys) (hx:xs[k]?=some x) (hy:ys[k]?=some y)
  (hQ:∀hp,EY hp z a b c d t1 t2 (k+1) (rawInt s.heap.objs.size)->IsPair hp s.heap.objs.size x y->(∀e o,e≠z->e≠b->e≠c->e≠d->s.heap.get? e=some o->hp.get? e=some o)->Q (.ref s.heap.objs.size) {s with heap:=hp}) :
  wpAny (model P w) A (Builtin.«zip.__next__» ⟨[.ref z],[]⟩) (λfin s'=>∃v,fin=.done (.ret v)/\Q v s') E s:=by
 obtain⟨zz,zi,⟨p,q,zo⟩,z1,z2⟩:=Z
 show wpAny _ _ (field (.ref z) 2 >>= _) _ _ _
 refine wpAny_bind (wpAny_field zz rfl (x:=.bool false) rfl ?_)
 show wpAny _ _ (field (.ref z) 3 >>= _) _ _ _
 refine wpAny_bind (wpAny_field zz rfl (x:=.ref a) rfl ?_)
 refine wpAny_bind (wpAny_seqItems zi rfl ?_)
 show wpAny _ _ (Builtin.SmallTypes.ownedTupleIsFree (.ref z) >>= _) _ _ _
 refine wpAny_bind ?_
 unfold Builtin.SmallTypes.ownedTupleIsFree
 refine wpAny_bind (wpAny_field zz rfl (x:=.none) rfl (wpAny_pure ?_))
 simp only [if_true]
 refine wpAny_bind (wpAny_rule ?_)
 refine wpAny_bind (wpAny_field zz rfl (x:=.ref b) rfl ?_)
 refine wpAny_bind (wpAny_setField_rec zz (by simp) λk1 y1 s1=>?_)
 replace y1:IsZip k1 z a b .ellipsis:=y1
 refine wpAny_bind ?_
 simp only [List.zipIdx_cons,List.zipIdx_nil,List.forIn_cons,List.forIn_nil]
 refine wpAny_bind (wpAny_bind (wpAny_onRaise ?_))
 show wpAny _ _ (Builtin.SmallTypes.nextOf (.ref c) >>= _) _ _ _
 refine wpAny_bind (kM (z1.extBut s1.extBut D.cz) (wO.extBut s1.extBut o1.1) hx λk2 y2 s2=>wpAny_pure ?_)
 have w2:IsPair k2 b p q:=s2.extBut _ _ D.bc (s1.extBut _ _ D.bz zo)
 refine wpAny_bind (wpAny_seqItems w2 rfl ?_)
 refine wpAny_bind (wpAny_updateSeq_pair w2 λk3 y3 s3=>?_)
 replace y3:IsPair k3 b x q:=y3
 refine wpAny_bind (wpAny_letGo (wpAny_pure ?_))
 refine wpAny_bind (wpAny_bind (wpAny_onRaise ?_))
 show wpAny _ _ (Builtin.SmallTypes.nextOf (.ref d) >>= _) _ _ _
 refine wpAny_bind (kM (((z2.extBut s1.extBut D.dz).extBut s2.extBut D.cd.symm).extBut s3.extBut D.bd.symm) (((mz.extBut s1.extBut o2.1).extBut s2.extBut o2.2.2.1).extBut s3.extBut o2.2.1) hy λk4 y4 s4=>wpAny_pure ?_)
 have w4:IsPair k4 b x q:=s4.extBut _ _ D.bd y3
 refine wpAny_bind (wpAny_seqItems w4 rfl ?_)
 refine wpAny_bind (wpAny_updateSeq_pair w4 λk5 y5 s5=>?_)
 replace y5:IsPair k5 b x y:=y5
 refine wpAny_bind (wpAny_letGo (wpAny_pure (wpAny_pure ?_)))
 refine wpAny_bind (wpAny_seqItems y5 rfl ?_)
 refine wpAny_bind (wpAny_newTuple ?_)
 have sz:k5.objs.size=s.heap.objs.size:=by rw [s5.1,s4.1,s3.1,s2.1,s1.1]
 have JQ:IsZip k5 z a b .ellipsis:=s5.extBut _ _ D.bz.symm (s4.extBut _ _ D.dz.symm (s3.extBut _ _ D.bz.symm (s2.extBut _ _ D.cz.symm y1)))
 have JR:∀e o,e≠z->e≠b->e≠c->e≠d->s.heap.get? e=some o->k5.get? e=some o:=λe o e1 e2 e3 e4 g=>s5.extBut _ _ e2 (s4.extBut _ _ e4 (s3.extBut _ _ e2 (s2.extBut _ _ e3 (s1.extBut _ _ e1 g))))
 have c5:k5.IsTupleIter c t1 (k+1):=((y2.extBut s3.extBut D.bc.symm).extBut s4.extBut D.cd).extBut s5.extBut D.bc.symm
 have d5:k5.IsTupleIter d t2 (k+1):=y4.extBut s5.extBut D.bd.symm
 have JS:z<k5.objs.size:=Heap.lt_size JQ
 show wpAny _ _ (Builtin.SmallTypes.ownedTupleHandOut (.ref z) (.ref k5.objs.size) >>= _) _ _ _
 refine wpAny_bind ?_
 unfold Builtin.SmallTypes.ownedTupleHandOut
 have NT:IsZip (k5.push {cls:=.type "tuple",data:=.seq #[x,y]}) z a b .ellipsis:=Heap.get?_push_of_some _ JQ
 refine wpAny_bind (wpAny_setField_rec NT (by simp) λk7 y7 s7=>?_)
 replace y7:IsZip k7 z a b (rawInt k5.objs.size):=y7
 refine wpAny_setField_rec y7 (by simp) λk8 y8 s8=>?_
 replace y8:IsZip k8 z a b (rawInt k5.objs.size):=y8
 have up:∀e o,e≠z->k5.get? e=some o->k8.get? e=some o:=λe o e1 g=>s8.extBut _ _ e1 (s7.extBut _ _ e1 (Heap.get?_push_of_some _ g))
 have t8:IsPair k8 k5.objs.size x y:=s8.extBut _ _ (Nat.ne_of_gt JS) (s7.extBut _ _ (Nat.ne_of_gt JS) (Heap.get?_push_size _ rfl))
 rw [sz] at y8 t8
 refine wpAny_pure ⟨_,rfl,?_⟩
 show Q (.ref k5.objs.size) _
 rw [sz]
 exact hQ k8 ⟨y8,up _ _ D.az (JR _ _ D.az D.ab D.ac D.ad zi),⟨x,y,up _ _ D.bz y5⟩,c5.at λo g=>up _ o D.cz g,d5.at λo g=>up _ o D.dz g⟩ t8 λe o e1 e2 e3 e4 g=>up e o e1 (JR e o e1 e2 e3 e4 g)
theorem CZ{z a b c d t1 t2:Addr}{k:Nat}{xs ys:Array Value}{Q:Fin->Shared->Prop}(hh:A.handled=none)(D:yA z a b c d)(Z:EY s.heap z a b c d t1 t2 k .none)
  (o1:t1≠z/\t1≠b/\t1≠c/\t1≠d) (o2:t2≠z/\t2≠b/\t2≠c/\t2≠d) (wO:s.heap.IsTuple t1 xs) (mz:s.heap.IsTuple t2 ys) (uQ:xs[k]?=none\/ys[k]?=none)
  (hE:∀hp e,(∀f o,f≠z->f≠b->f≠c->f≠d->s.heap.get? f=some o->hp.get? f=some o)->(∃o,hp.get? e=some o/\o.cls=.type "StopIteration")->E (.ref e) {s with heap:=hp}) :
  wpAny (model P w) A (Builtin.«zip.__next__» ⟨[.ref z],[]⟩) Q E s:=by
 obtain⟨zz,zi,⟨p,q,zo⟩,z1,z2⟩:=Z
 show wpAny _ _ (field (.ref z) 2 >>= _) _ _ _
 refine wpAny_bind (wpAny_field zz rfl (x:=.bool false) rfl ?_)
 show wpAny _ _ (field (.ref z) 3 >>= _) _ _ _
 refine wpAny_bind (wpAny_field zz rfl (x:=.ref a) rfl ?_)
 refine wpAny_bind (wpAny_seqItems zi rfl ?_)
 show wpAny _ _ (Builtin.SmallTypes.ownedTupleIsFree (.ref z) >>= _) _ _ _
 refine wpAny_bind ?_
 unfold Builtin.SmallTypes.ownedTupleIsFree
 refine wpAny_bind (wpAny_field zz rfl (x:=.none) rfl (wpAny_pure ?_))
 simp only [if_true]
 refine wpAny_bind (wpAny_rule ?_)
 refine wpAny_bind (wpAny_field zz rfl (x:=.ref b) rfl ?_)
 refine wpAny_bind (wpAny_setField_rec zz (by simp) λk1 y1 s1=>?_)
 replace y1:IsZip k1 z a b .ellipsis:=y1
 refine wpAny_bind ?_
 simp only [List.zipIdx_cons,List.zipIdx_nil,List.forIn_cons,List.forIn_nil]
 refine wpAny_bind (wpAny_bind (wpAny_onRaise ?_))
 show wpAny _ _ (Builtin.SmallTypes.nextOf (.ref c) >>= _) _ _ _
 cases hx:xs[k]? with
 |none=>
  refine wpAny_bind (iO hh (z1.extBut s1.extBut D.cz) (wO.extBut s1.extBut o1.1) hx λk2 e s2 he=>?_)
  obtain⟨oe,uR,Au⟩:=he
  have JT:IsZip k2 z a b .ellipsis:=s2 _ _ D.cz.symm y1
  have ez:e≠z:=λg=>by subst g;rw [JT] at uR;cases uR;simp at Au
  refine wpAny_setField_rec JT (by simp) λk3 _ s3=>hE k3 e (λf o f1 _ f3 _ g=>s3.extBut _ _ f1 (s2 _ _ f3 (s1.extBut _ _ f1 g))) ⟨oe,s3.extBut _ _ ez uR,Au⟩
 |some x=>
  have hy:ys[k]?=none:=by
   rcases uQ with h|h
   ·rw [hx] at h;cases h
   ·exact h
  refine wpAny_bind (kM (z1.extBut s1.extBut D.cz) (wO.extBut s1.extBut o1.1) hx λk2 y2 s2=>wpAny_pure ?_)
  have w2:IsPair k2 b p q:=s2.extBut _ _ D.bc (s1.extBut _ _ D.bz zo)
  refine wpAny_bind (wpAny_seqItems w2 rfl ?_)
  refine wpAny_bind (wpAny_updateSeq_pair w2 λk3 y3 s3=>?_)
  refine wpAny_bind (wpAny_letGo (wpAny_pure ?_))
  refine wpAny_bind (wpAny_bind (wpAny_onRaise ?_))
  show wpAny _ _ (Builtin.SmallTypes.nextOf (.ref d) >>= _) _ _ _
  refine wpAny_bind (iO hh (((z2.extBut s1.extBut D.dz).extBut s2.extBut D.cd.symm).extBut s3.extBut D.bd.symm) (((mz.extBut s1.extBut o2.1).extBut s2.extBut o2.2.2.1).extBut s3.extBut o2.2.1) hy λk4 e s4 he=>?_)
  obtain⟨oe,uR,Au⟩:=he
  have JU:IsZip k4 z a b .ellipsis:=s4 _ _ D.dz.symm (s3.extBut _ _ D.bz.symm (s2.extBut _ _ D.cz.symm y1))
  have ez:e≠z:=λg=>by subst g;rw [JU] at uR;cases uR;simp at Au
  refine wpAny_setField_rec JU (by simp) λk5 _ s5=>hE k5 e (λf o f1 f2 f3 f4 g=>s5.extBut _ _ f1 (s4 _ _ f4 (s3.extBut _ _ f2 (s2.extBut _ _ f3 (s1.extBut _ _ f1 g))))) ⟨oe,s5.extBut _ _ ez uR,Au⟩
theorem Av{z a b c d t1 t2:Addr}{k:Nat}{xs ys:Array Value}{x y:Value}{Q:Option Value->Shared->Prop}(D:yA z a b c d)(Z:EY s.heap z a b c d t1 t2 k .none)
  (o1:t1≠z/\t1≠b/\t1≠c/\t1≠d) (o2:t2≠z/\t2≠b/\t2≠c/\t2≠d) (wO:s.heap.IsTuple t1 xs) (mz:s.heap.IsTuple t2 ys) (hx:xs[k]?=some x) (hy:ys[k]?=some y)
  (hQ:∀hp,EY hp z a b c d t1 t2 (k+1) (rawInt s.heap.objs.size)->IsPair hp s.heap.objs.size x y->(∀e o,e≠z->e≠b->e≠c->e≠d->s.heap.get? e=some o->hp.get? e=some o)->Q (some (.ref s.heap.objs.size)) {s with heap:=hp}) :
  wpAny (model P w) A (pyNext (.ref z)) Q E s:=by
 have hT:s.TypeIs (.ref z) "zip":=⟨_,Z.zip,rfl⟩
 unfold pyNext
 exact wpAny_bind (wpAny_attempt (wpAny_callSpecial?_slot (name:=Str.ofString "__next__") hT F.slot_zip_next (wpAny_call_entry F.slot_zip_next hT F.entry_zip_next
  (As D Z o1 o2 wO mz hx hy λhp q1 q2 q3=>wpAny_pure (hQ hp q1 q2 q3)) (F.args_zip_next_1 _))))
theorem Aw{z a b c d t1 t2:Addr}{k:Nat}{xs ys:Array Value}{Q:Option Value->Shared->Prop}(hh:A.handled=none)(D:yA z a b c d)(Z:EY s.heap z a b c d t1 t2 k .none)
  (o1:t1≠z/\t1≠b/\t1≠c/\t1≠d) (o2:t2≠z/\t2≠b/\t2≠c/\t2≠d) (wO:s.heap.IsTuple t1 xs) (mz:s.heap.IsTuple t2 ys) (uQ:xs[k]?=none\/ys[k]?=none)
  (hQ:∀hp,(∀f o,f≠z->f≠b->f≠c->f≠d->s.heap.get? f=some o->hp.get? f=some o)->Q none {s with heap:=hp}):wpAny (model P w) A (pyNext (.ref z)) Q E s:=by
 have hT:s.TypeIs (.ref z) "zip":=⟨_,Z.zip,rfl⟩
 unfold pyNext
 refine wpAny_bind (wpAny_attempt (wpAny_callSpecial?_slot (name:=Str.ofString "__next__") hT F.slot_zip_next
  (wpAny_call_entry F.slot_zip_next hT F.entry_zip_next (CZ hh D Z o1 o2 wO mz uQ λhp e hk he=>?_) (F.args_zip_next_1 _))))
 obtain⟨o,ho,hc⟩:=he
 refine wpAny_bind (wpAny_isInstance (T:="StopIteration") (b:=true) ⟨o,ho,hc⟩ isSubtype_stop ?_)
 exact wpAny_pure (hQ _ hk)
end
theorem wQ(n:Nat):yA (n+4) (n+2) (n+3) n (n+1):=by
 have h:∀i j:Nat,i≠j->n+i≠n+j:=λi j h e=>h (Nat.add_left_cancel e)
 exact⟨h 2 4 (by decide),h 3 4 (by decide),h 0 4 (by decide),h 1 4 (by decide),h 2 3 (by decide),h 2 0 (by decide),h 2 1 (by decide),h 3 0 (by decide),h 3 1 (by decide),h 0 1 (by decide)⟩
theorem Ax(n:Nat)(e:Addr)(he:e ∈ [n+4,n+2,n+3,n,n+1]):n<=e:=by
 simp only [List.mem_cons,List.not_mem_nil,or_false] at he
 rcases he with rfl|rfl|rfl|rfl|rfl
 ·exact Nat.le_add_right _ _
 ·exact Nat.le_add_right _ _
 ·exact Nat.le_add_right _ _
 ·exact Nat.le_refl _
 ·exact Nat.le_add_right _ _
def RO(K:PySem.W.Frag)(t1 t2:Addr):It:=
  ⟨λi H => ∃xs ys x y,aR K H t1 xs/\aR K H t2 ys/\xs[i]?=some x/\ys[i]?=some y,
   λi H v H' => ∃T,H T=none/\v=.ref T/\∀xs ys x y,aR K H t1 xs->aR K H t2 ys->xs[i]?=some x->ys[i]?=some y->H'=upd H T (.tup [x,y]),
   λi H => ∃xs ys,aR K H t1 xs/\aR K H t2 ys/\(xs.length<=i\/ys.length<=i)⟩
theorem gX{X:Cx}{pins:List (Addr×Obj)}{σ:St}{H:Hp}{s:Shared}{t b:Addr}{xs:List V}(I:Inv X pins σ H s)(h:aR X.K H t xs)(f:kB X pins H b):t≠b:=by
 rintro rfl
 obtain⟨f0,f1,f2,f3,f4,f5⟩:=f
 rcases h with (h|⟨o,h⟩)|⟨o,its,n,hk,_⟩
 ·rw [f0] at h;cases h
 ·rw [f0] at h;cases h
 ·have e:=I.ok.mod.Ct t o hk
  rcases f3 with q|q
  ·exact I.ok.qg t o e q
  ·exact absurd (Nat.lt_of_lt_of_le (Heap.lt_size e) (Nat.le_trans I.ok.wy q)) (Nat.lt_irrefl _)
theorem sx{P:Program}{w:World}{K:PySem.W.Frag}{es:List Expr}{k:Nat}{pos:Pos}{z a b c d t1 t2:Addr}(D:yA z a b c d) :
  Turn P w K (.Tuple es k pos) (RO K t1 t2) [z,a,b,c,d] z (λi h=>EY h z a b c d t1 t2 i .none) where
 mem:=by simp
 obj:=λi h st e he=>by
  obtain⟨zz,zi,⟨p,q,zo⟩,⟨o1,e1,c1,d1⟩,⟨o2,e2,c2,d2⟩⟩:=st
  simp at he
  rcases he with rfl|rfl|rfl|rfl|rfl
  ·exact⟨_,zz,λv g=>by cases g⟩
  ·exact⟨_,zi,λv g=>by cases g⟩
  ·exact⟨_,zo,λv g=>by cases g⟩
  ·exact⟨_,e1,λv g=>by rw [d1] at g;cases g⟩
  ·exact⟨_,e2,λv g=>by rw [d2] at g;cases g⟩
 keep:=λi h h' st kp=>by
  obtain⟨zz,zi,⟨p,q,zo⟩,z1,z2⟩:=st
  exact⟨kp z (by simp) _ zz,kp a (by simp) _ zi,⟨p,q,kp b (by simp) _ zo⟩,z1.at λo e=>kp c (by simp) o e,z2.at λo e=>kp d (by simp) o e⟩
 item:=by
  intro X hP hw hK hc i pins s σ H E I hf st hg
  subst hP hw hK
  obtain⟨xs,ys,x,y,h1,h2,hx,hy⟩:=hg
  obtain⟨Ay,r1,p1,l1⟩:=I.tuple h1
  obtain⟨gN,r2,p2,l2⟩:=I.tuple h2
  obtain⟨u1,md,JV⟩:=r1.get hx
  obtain⟨u2,kN,Gr⟩:=r2.get hy
  have C0:=λ(e:Addr) (he:e ∈ [z,a,b,c,d])=>gX I h1 (hf e he)
  have qw:=λ(e:Addr) (he:e ∈ [z,a,b,c,d])=>gX I h2 (hf e he)
  refine Av D st ⟨C0 z (by simp),C0 b (by simp),C0 c (by simp),C0 d (by simp)⟩ ⟨qw z (by simp),qw b (by simp),qw c (by simp),qw d (by simp)⟩
   (show s.heap.IsTuple t1 Ay.toArray from p1) (show s.heap.IsTuple t2 gN.toArray from p2) (x:=u1) (y:=u2) (by simpa using md) (by simpa using kN) λhp Z' pr kp=>?_
  refine⟨_,rfl,wpAny_letOwnedTupleGo_zip Z'.zip λhq zq sq=>?_⟩
  have nT:H s.heap.objs.size=none:=I.fresh
  have cC:∀e o,e ∉ [z,b,c,d]->s.heap.get? e=some o->hq.get? e=some o:=λe o he g=>by
   simp at he
   exact sq.extBut _ _ he.1 (kp e o he.1 he.2.1 he.2.2.1 he.2.2.2 g)
  have Tz:s.heap.objs.size≠z:=Nat.ne_of_gt (Heap.lt_size st.zip)
  have NU:IsPair hq s.heap.objs.size u1 u2:=sq.extBut _ _ Tz pr
  have tracked:∀e u,H e=some u->e ∉ [z,b,c,d]:=λe u he hm=>by
   have:H e=none:=(hf e (by simp at hm ⊢;rcases hm with r|r|r|r<;>simp [r])).1
   rw [this] at he;cases he
  have uJ:il X.prog X.w (upd H s.heap.objs.size (.tup [x,y])) hq:=λe u he=>by
   by_cases ee:e=s.heap.objs.size
   ·subst ee
    rw [ae] at he
    cases he
    exact⟨(by show 2<=sizeLine;decide),[u1,u2],.cons JV (.cons Gr .nil),⟨_,NU,rfl,_,rfl⟩⟩
   ·rw [aK ee] at he
    refine (I.cw e u he).ng (λf o uS g=>cC f o ?_ g) (λf g=>by rw [aK (aL g nT)];exact g) λf zs g=>by rw [aK (aL g nT)];exact g
    rcases uS with rfl|uS
    ·exact tracked f u he
    ·exact tracked f _ uS
  have I1:Inv X pins σ (upd H s.heap.objs.size (.tup [x,y])) {s with heap:=hq}:=by
   refine I.step (g':=s.gens) (d':=s.drawn) (t':=s.toks) (ch:= [z,b,c,d]) (λe he=>?_) (λe o _ _ he g _=>cC e o he g) (λe o _ _ he g _=>⟨o.slots,cC e o he g⟩)
    (λe o _ g n=>by rw [aK (Nat.ne_of_lt (Heap.lt_size g))];exact n) (λe o he g=>⟨o,cC e o he g⟩) (λe zs g=>by rw [aK (aL g nT)];exact g) (λe o u g=>by rw [aK (aL g nT)];exact g)
    (λe ps g=>⟨#[],by rw [aK (aL g nT),g];simp⟩) (λm hm=>?_) uJ I.bare
   ·obtain⟨f0,f1,f2,f3,f4,f5⟩:=hf e (by simp at he ⊢;rcases he with r|r|r|r<;>simp [r])
    exact⟨f3,f1,f4,f5⟩
   ·obtain⟨o,zD,ep,ho,r⟩:=hm
    refine⟨o,zD,ep,cC _ o (λnH=>?_) ho,r⟩
    exact (hf X.env.locals (by simp at nH ⊢;rcases nH with r|r|r|r<;>simp [r])).2.1 rfl
  refine⟨.ref s.heap.objs.size,_,I1,rfl,⟨_,nT,rfl,λNV RP x' y' g1 g2 gx gy=>?_⟩,?_,λe he=>?_⟩
  ·have e1:=I.ip g1 h1
   have e2:=I.ip g2 h2
   subst e1;subst e2
   rw [hx] at gx;rw [hy] at gy
   cases gx;cases gy
   rfl
  ·obtain⟨_,zi,⟨p,q,zo⟩,z1,z2⟩:=Z'
   exact⟨zq,sq.extBut _ _ D.az zi,⟨p,q,sq.extBut _ _ D.bz zo⟩,z1.extBut sq.extBut D.cz,z2.extBut sq.extBut D.dz⟩
  ·rw [aK]
   ·exact (hf e he).1
   ·obtain⟨o,ho,_⟩:∃o,s.heap.get? e=some o/\True:=by
     obtain⟨zz,zi,⟨p,q,zo⟩,⟨o1,e1,c1,d1⟩,⟨o2,e2,c2,d2⟩⟩:=st
     simp at he
     rcases he with rfl|rfl|rfl|rfl|rfl
     ·exact⟨_,zz,trivial⟩
     ·exact⟨_,zi,trivial⟩
     ·exact⟨_,zo,trivial⟩
     ·exact⟨_,e1,trivial⟩
     ·exact⟨_,e2,trivial⟩
    exact Nat.ne_of_lt (Heap.lt_size ho)
 done:=by
  intro X hP hw hK hc i pins s σ H E I hf st hg
  subst hP hw hK
  obtain⟨xs,ys,h1,h2,hx⟩:=hg
  obtain⟨Ay,r1,p1,l1⟩:=I.tuple h1
  obtain⟨gN,r2,p2,l2⟩:=I.tuple h2
  have e1:=r1.length
  have e2:=r2.length
  have C0:=λ(e:Addr) (he:e ∈ [z,a,b,c,d])=>gX I h1 (hf e he)
  have qw:=λ(e:Addr) (he:e ∈ [z,a,b,c,d])=>gX I h2 (hf e he)
  refine Aw (I.ok.hd hc) D st ⟨C0 z (by simp),C0 b (by simp),C0 c (by simp),C0 d (by simp)⟩ ⟨qw z (by simp),qw b (by simp),qw c (by simp),qw d (by simp)⟩
   (show s.heap.IsTuple t1 Ay.toArray from p1) (show s.heap.IsTuple t2 gN.toArray from p2) (by
    rcases hx with q|q
    ·exact .inl (by simp;omega)
    ·exact .inr (by simp;omega)) λhq kp=>⟨rfl,?_⟩
  have cC:∀e o,e ∉ [z,b,c,d]->s.heap.get? e=some o->hq.get? e=some o:=λe o he g=>by
   simp at he
   exact kp e o he.1 he.2.1 he.2.2.1 he.2.2.2 g
  have tracked:∀e u,H e=some u->e ∉ [z,b,c,d]:=λe u he hm=>by
   have:H e=none:=(hf e (by simp at hm ⊢;rcases hm with r|r|r|r<;>simp [r])).1
   rw [this] at he;cases he
  refine I.step (g':=s.gens) (d':=s.drawn) (t':=s.toks) (ch:= [z,b,c,d]) (λe he=>?_) (λe o _ _ he g _=>cC e o he g) (λe o _ _ he g _=>⟨o.slots,cC e o he g⟩)
   (λe o _ g n=>n) (λe o he g=>⟨o,cC e o he g⟩) (λe zs g=>g) (λe o u g=>g) (λe ps g=>⟨#[],by rw [g];simp⟩) (λm hm=>?_) (λe u he=>?_) I.bare
  ·obtain⟨f0,f1,f2,f3,f4,f5⟩:=hf e (by simp at he ⊢;rcases he with r|r|r|r<;>simp [r])
   exact⟨f3,f1,f4,f5⟩
  ·obtain⟨o,zD,ep,ho,r⟩:=hm
   refine⟨o,zD,ep,cC _ o (λnH=>?_) ho,r⟩
   exact (hf X.env.locals (by simp at nH ⊢;rcases nH with r|r|r|r<;>simp [r])).2.1 rfl
  ·refine (I.cw e u he).ng (λf o uS g=>cC f o ?_ g) (λf g=>g) λf zs g=>g
   rcases uS with rfl|uS
   ·exact tracked f u he
   ·exact tracked f _ uS
 self:=λ_ _ _ _ _ st h=>wpAny_pyIter_zip st.zip h
abbrev Mg (h:Heap) (t1:Addr):Heap:=h.push {cls:=.type "tuple_iterator",data:=.fields #[.ref t1,.int 0 0]}
abbrev Mh (h:Heap) (t1 t2:Addr):Heap:=(Mg h t1).push {cls:=.type "tuple_iterator",data:=.fields #[.ref t2,.int 0 0]}
abbrev Mi (h:Heap) (t1 t2:Addr):Heap:=(Mh h t1 t2).push {cls:=.type "tuple",data:=.seq #[.ref h.objs.size,.ref (Mg h t1).objs.size]}
abbrev Mj (h:Heap) (t1 t2:Addr):Heap:=(Mi h t1 t2).push {cls:=.type "tuple",data:=.seq #[.none,.none]}
abbrev Dc (h:Heap) (t1 t2:Addr):Heap:=(Mj h t1 t2).push {cls:=.type "zip",data:=.fields #[.none,.bool false,.bool false,.ref (Mh h t1 t2).objs.size,.ref (Mi h t1 t2).objs.size]}
theorem sy(t1 t2:Addr)(xs ys:Array Value) :
  Meets (Builtin.«zip.__new__» ⟨[.type "zip",.ref t1,.ref t2],[]⟩) (λ_ R s=>s.heap.IsTuple t1 xs/\s.heap.IsTuple t2 ys/\R (.ok (.ret (.ref (Mj s.heap t1 t2).objs.size))) {s with heap:=Dc s.heap t1 t2}):=
 .of_wp λprog w A R s h=>by
  obtain⟨hp,g,d,tk,os⟩:=s;obtain⟨wO,mz,h⟩:=h
  have yB:=sub_zip
  have Gs:Heap.IsTuple (Shared.heap ⟨hp,g,d,tk,os⟩) t1 xs:=wO
  have Az:Heap.IsTuple (Shared.heap ⟨hp.push {cls:=.type "tuple_iterator",data:=.fields #[.ref t1,.int 0 0]},g,d,tk,os⟩) t2 ys:=Heap.IsTuple.push mz _
  wp_walk using wpAny_pyIter_tuple Gs,wpAny_pyIter_tuple Az
  exact⟨_,rfl,h⟩
def NW(K:PySem.W.Frag)(ta:TA):TI:=λσ H R=>ta σ H λvs H1=>∃t1 t2,vs = [.ref t1,.ref t2]/\(∃xs,aR K H1 t1 xs)/\(∃ys,aR K H1 t2 ys)/\R (RO K t1 t2) H1
theorem uT{X:Cx}{es:List Expr}{k:Nat}{rO:Pos}{a b:Expr}{ta:TA}{p pos:Pos}(hg:Gl X "zip")(hm:X.mg "zip"=none)(ha:PA X [a,b] ta)(hs:starEach [a,b] X.env = [(false,eval a X.env),(false,eval b X.env)]:=by rfl)
  (Ac:starEach [b] X.env = [(false,eval b X.env)]:=by rfl):PI X (.Tuple es k rO) (.Call (.Name "zip" p) [a,b] [] pos) (NW X.K ta):=by
 intro pins s σ H R I h
 refine Call_ (lC I hg hm (show bootBuiltins "zip"=some (.type "zip") from by decide +kernel) (PyProof.Rows.callWith_type1 (cI (ha pos pins s σ H _ I h) λus s1 ⟨vs,H1,I1,r1,q1⟩=>?_) (by rw [hs,Ac]) (by rw [Ac];rfl)))
 obtain⟨t1,t2,e,⟨xs,g1⟩,⟨ys,g2⟩,q⟩:=q1
 subst e
 obtain⟨u1,u2,rfl,JV,Gr⟩:=r1.two
 cases JV
 cases Gr
 obtain⟨Ay,r1,p1,l1⟩:=I1.tuple g1
 obtain⟨gN,r2,p2,l2⟩:=I1.tuple g2
 refine callType_new F.called_zip (by decide) (F.typeCall_zip_2 _ _) (F.newCall_zip_2 _ _) (λobj=>F.args_object_init_3 obj _ _) F.entry_zip_new
  (sy t1 t2 Ay.toArray gN.toArray) ⟨p1,p2,?_⟩
 have z1:(Mg s1.heap t1).objs.size=s1.heap.objs.size+1:=Heap.size_push ..
 have z2:(Mh s1.heap t1 t2).objs.size=s1.heap.objs.size+2:=by rw [Heap.size_push,z1]
 have z3:(Mi s1.heap t1 t2).objs.size=s1.heap.objs.size+3:=by rw [Heap.size_push,z2]
 have z4:(Mj s1.heap t1 t2).objs.size=s1.heap.objs.size+4:=by rw [Heap.size_push,z3]
 have y5:(Dc s1.heap t1 t2).get? (Mj s1.heap t1 t2).objs.size=some _:=Heap.get?_push_size _ rfl
 have y4:(Dc s1.heap t1 t2).get? (Mi s1.heap t1 t2).objs.size=some _:=Heap.get?_push_of_some _ (Heap.get?_push_size _ rfl)
 have y3:(Dc s1.heap t1 t2).get? (Mh s1.heap t1 t2).objs.size=some _:=Heap.get?_push_of_some _ (Heap.get?_push_of_some _ (Heap.get?_push_size _ rfl))
 have y2:(Dc s1.heap t1 t2).get? (Mg s1.heap t1).objs.size=some _:=Heap.get?_push_of_some _ (Heap.get?_push_of_some _ (Heap.get?_push_of_some _ (Heap.get?_push_size _ rfl)))
 have y1:(Dc s1.heap t1 t2).get? s1.heap.objs.size=some _:=Heap.get?_push_of_some _ (Heap.get?_push_of_some _ (Heap.get?_push_of_some _ (Heap.get?_push_of_some _ (Heap.get?_push_size _ rfl))))
 have up:∀e o,s1.heap.get? e=some o->(Dc s1.heap t1 t2).get? e=some o:=λe o g=>Heap.get?_push_of_some _ (Heap.get?_push_of_some _ (Heap.get?_push_of_some _ (Heap.get?_push_of_some _ (Heap.get?_push_of_some _ g))))
 show _/\_
 rw [z2,z3,z4] at y5
 rw [z1,z2] at y3
 rw [z3] at y4
 rw [z1] at y2
 rw [z4]
 refine⟨⟨_,y5,rfl⟩,?_⟩
 have I2:Inv X pins σ H1 {s1 with heap:=Dc s1.heap t1 t2}:=I1.kept (t':=s1.toks) up
 have D:yA (s1.heap.objs.size+4) (s1.heap.objs.size+2) (s1.heap.objs.size+3) s1.heap.objs.size (s1.heap.objs.size+1):=wQ s1.heap.objs.size
 have Z:EY (Dc s1.heap t1 t2) (s1.heap.objs.size+4) (s1.heap.objs.size+2) (s1.heap.objs.size+3) s1.heap.objs.size (s1.heap.objs.size+1) t1 t2 0 .none:=⟨y5,y3,⟨_,_,y4⟩,⟨_,y1,rfl,rfl⟩,⟨_,y2,rfl,rfl⟩⟩
 refine (sx (P:=X.prog) (w:=X.w) (K:=X.K) (es:=es) (k:=k) (pos:=rO) D).self X.A 0 _ _ _ Z ?_
 refine⟨s1.heap.objs.size+4,_,_,_,H1,rfl,I2,sx D,Z,λe he=>?_,q⟩
 have hle:s1.heap.objs.size<=e:=Ax s1.heap.objs.size e he
 exact I1.uq hle (I1.cw.fresh hle)
def RQ(x:Str):It:=⟨λi _=>i<x.cps.size,λi H v H'=>H'=H/\∃c,x.cps[i]?=some c/\v=.str ⟨#[c]⟩,λi _=>i=x.cps.size⟩
theorem nI{P:Program}{w:World}{K:PySem.W.Frag}{y:Str}{py:Pos}{it:Addr}{T:String}{x:Str}{t:Tok}
  (W:∀A':Around,A'.handled=none->Walks P w A' it [it] [it] x.cps.size (SignAt x) (λi h=>h.IsStrIter it T x t i)) (hs:∀(A:Around) (i:Nat) (s:Shared) (Q:Value->Shared->Prop) (E:Value->Shared->Prop),s.heap.IsStrIter it T x t i->Q (.ref it) s->wpAny (model P w) A (pyIter (.ref it)) Q E s) :
  Turn P w K (.Name y py) (RQ x) [it] it (λi h=>h.IsStrIter it T x t i) where
 mem:=by simp
 obj:=λi h st b hb=>by
  have e:b=it:=by simpa using hb
  subst e
  obtain⟨o,e,c,d⟩:=st
  exact⟨o,e,λv z=>by rw [d] at z;cases z⟩
 keep:=λi h h' st k=>by
  obtain⟨o,e,r⟩:=st
  exact⟨o,k it (by simp) o e,r⟩
 item:=by
  intro X hP hw hK hc i pins s σ H E I hf st hg
  subst hP hw hK
  obtain⟨f0,f1,f2,f3,f4,f5⟩:=hf it (by simp)
  refine (W X.A (I.ok.hd hc)).item i s _ E hg st λv h' tk hv ur kp=>?_
  obtain⟨c,u,mw,rfl⟩:=hv
  have I1:Inv X pins σ H {s with heap:=h',toks:=tk}:=I.turned (t':=tk) (λb o hb e=>kp b o (by simpa using hb) e) f0 f1 f3 f4 f5
  exact⟨_,rfl,wpAny_pure ⟨.str ⟨#[c]⟩,H,I1,⟨u,rfl⟩,⟨rfl,c,mw,rfl⟩,ur,λb hb=>(hf b hb).1⟩⟩
 done:=by
  intro X hP hw hK hc i pins s σ H E I hf st hg
  subst hP hw hK
  obtain⟨f0,f1,f2,f3,f4,f5⟩:=hf it (by simp)
  have e:i=x.cps.size:=hg
  subst e
  exact (W X.A (I.ok.hd hc)).done s _ E st λh' tk kp=>⟨rfl,I.turned (t':=tk) (λb o hb e=>kp b o (by simpa using hb) e) f0 f1 f3 f4 f5⟩
 self:=hs
def NX(tl:TE):TI:=λσ H R=>tl σ H λx H1=>∃z,x=.str z/\R (RQ z) H1
theorem AA{X:Cx}{y:Str}{py:Pos}{l:Expr}{tl:TE}(hl:PE X l tl):PI X (.Name y py) l (NX tl):=by
 intro pins s σ H R I h
 refine cI (hl pins s σ H _ I h) λv s1 ⟨x,H1,I1,r1,q1⟩=>?_
 obtain⟨z,rfl,q⟩:=q1
 obtain⟨t,rfl⟩:=r1
 have fp:∀b ∈ [s1.heap.objs.size],kB X pins H1 b:=λb hb=>by
  have e:b=s1.heap.objs.size:=by simpa using hb
  subst e
  exact I1.uq (Nat.le_refl _) I1.fresh
 cases ha:z.cps.all (·< 128)
 ·refine wpAny_pyIter_wide ha ?_
  exact⟨_,_,_,_,H1,rfl,I1.kept (t':=s1.toks) λb o e=>Heap.get?_push_of_some _ e,nI (t:=t) (λA' hA=>Walks.strWide hA _ z t) (λA i s Q E st hq=>wpAny_pyIter_striter_wide st hq),⟨_,Heap.get?_push_size _ rfl,rfl,rfl⟩,fp,q⟩
 ·refine wpAny_pyIter_ascii ha ?_
  exact⟨_,_,_,_,H1,rfl,I1.kept (t':=s1.toks) λb o e=>Heap.get?_push_of_some _ e,nI (t:=t) (λA' hA=>Walks.strAscii hA _ z t) (λA i s Q E st hq=>wpAny_pyIter_striter_ascii st hq),⟨_,Heap.get?_push_size _ rfl,rfl,rfl⟩,fp,q⟩
def pI(H:Hp):V->Option String
 |.eh=>some "NoneType"
 |.bl _=>some "bool"
 |.int _=>some "int"
 |.str _=>some "str"
 |.ref a=>match H a with
  |some (.lst _)=>some "list"
  |some (.tup _)=>some "tuple"
  |some (.dK _)=>some "dict"
  |_=>none
 |_=>none
def sC(t c:String):Bool:=t == c||(t == "bool"&&c == "int")
theorem Dd{K:PySem.W.Frag}{H:Hp}{x:V}{t:String}(h:pI H x=some t):lI K H x (.type t):=by
 cases x with
 |eh=>cases h;exact .eh
 |bl b=>cases h;exact .bl b
 |int i=>cases h;exact .int i
 |str z=>cases h;exact .str z
 |ref a=>
  unfold pI at h
  dsimp only at h
  split at h
  ·rename_i e;cases h;exact .lst e
  ·rename_i e;cases h;exact .tup e
  ·rename_i e;cases h;exact .dK e
  ·cases h
 |wx _=>cases h
 |Cq _=>cases h
 |ty _=>cases h
theorem wR{H:Hp}{x:V}{t:String}(h:pI H x=some t):t ∈ ["NoneType","bool","int","str","list","tuple","dict"]:=by
 cases x with
 |ref a=>
  unfold pI at h
  dsimp only at h
  split at h<;>first|(cases h;simp)|cases h
 |_=>first|(cases h;simp)|cases h
theorem Gu{K:PySem.W.Frag}{t c:String}(ht:t ∈ ["NoneType","bool","int","str","list","tuple","dict"])(hc:c ∈ ["str","int","bool","tuple","list"]):PySem.W.kitOne K (.type t) (.type c)=some (sC t c):=by
 simp only [List.mem_cons,List.not_mem_nil,or_false] at ht hc
 rcases hc with rfl|rfl|rfl|rfl|rfl<;>rcases ht with rfl|rfl|rfl|rfl|rfl|rfl|rfl<;>rfl
theorem bu{X:Cx}:bI X (.builtin "isinstance") (λxs H Q=>∃x c t,xs = [x,.ty c]/\pI H x=some t/\c ∈ ["str","int","bool","tuple","list"]/\Q (.bl (sC t c)) H):=by
 intro pins s σ H xs us Q I r h
 obtain⟨x,c,t,rfl,ht,hc,q⟩:=h
 obtain⟨u,v,rfl,ru,rv⟩:=r.two
 obtain rfl:v=Value.type c:=rv
 exact yp I ru (Dd ht) (Gu (wR ht) hc) λtk=>⟨.bl _,H,I.tok tk,rfl,q⟩
theorem gv{X:Cx}(hc:X.calm=true):bI X (.builtin "all") (λxs H Q=>∃(l:Addr) (bs:List Bool),xs = [.ref l]/\bX X.K H l (bs.map V.bl)/\Q (.bl (bs.all id)) H):=by
 intro pins s σ H xs us Q I r h
 obtain⟨l,bs,rfl,hl,q⟩:=h
 obtain⟨u,rfl,ru⟩:=r.one
 cases ru
 obtain⟨its,rv,⟨o,n,ho,FL,CW,zE⟩,hz⟩:=I.list hl
 have hL:s.heap.IsList l its.toArray:=⟨o,ho,FL,n,zE⟩
 have eQ:l<s.heap.objs.size:=Heap.lt_size ho
 have len:bs.length=its.length:=by have:=rv.length;rw [List.length_map] at this;exact this
 refine call_all_walk (wpAny_pyIter_list hL ?_)
 refine⟨s.heap.objs.size,[s.heap.objs.size,l],[s.heap.objs.size],its.toArray.size,_,_,λi=>(bs[i]?).getD true,rfl,Walks.list (A:=X.A.in1) (I.ok.hd hc) _ l (Nat.ne_of_lt eQ) its.toArray,
  ⟨⟨_,Heap.get?_push_size _ rfl,rfl,rfl⟩,hL.push _⟩,λi v s' Q' E' hP hQ=>?_,λh' tk kp=>?_⟩
 ·have hv:its[i]?=some v:=by simpa using hP
  have hi:i<its.length:=(List.getElem?_eq_some_iff.mp hv).1
  have hb:bs[i]?=some bs[i]:=List.getElem?_eq_getElem (by omega)
  obtain⟨u',EZ,Um⟩:=rv.get (i:=i) (x:=.bl bs[i]) (by rw [List.getElem?_map,hb];rfl)
  rw [hv] at EZ
  cases EZ
  obtain rfl:v=Value.bool bs[i]:=Um
  dsimp only at hQ
  rw [hb] at hQ
  exact wpAny_truthy_bool hQ
 ·have e:((List.range its.toArray.size).all λi=>(bs[i]?).getD true)=bs.all id:=by
   rw [List.size_toArray,<-len]
   rw [Bool.eq_iff_iff,List.all_eq_true,List.all_eq_true]
   constructor
   ·intro g b hb
    obtain⟨i,hi,e⟩:=List.mem_iff_getElem.mp hb
    have:=g i (List.mem_range.mpr hi)
    rw [List.getElem?_eq_getElem hi,e] at this
    exact this
   ·intro g i hi
    have IG:=List.mem_range.mp hi
    rw [List.getElem?_eq_getElem IG]
    exact g _ (List.getElem_mem IG)
  rw [e]
  refine⟨.bl (bs.all id),H,I.kept (t':=tk) λb o e=>?_,rfl,q⟩
  exact kp b o (λz=>by rw [List.mem_singleton.mp z] at e;exact Nat.lt_irrefl _ (Heap.lt_size e)) (Heap.get?_push_of_some _ e)
theorem pJ{X:Cx}:eJ X (compareOp .LtE) (λx y H Q=>∃i j,x=.str i/\y=.str j/\Q (.bl (!decide (j.cps.toList<i.cps.toList))) H):=by
 intro pins s σ H x y v u Q I rx ry h
 obtain⟨i,j,rfl,rfl,q⟩:=h
 obtain⟨t,rfl⟩:=rx
 obtain⟨t',rfl⟩:=ry
 exact PySem.P.le_str ⟨.bl _,H,I,rfl,q⟩
theorem ah{H:Hp}{p:Addr}(h:H p=none)(o:HO):ax H (upd H p o):=λb u q=>by rw [aK (aL q h)];exact q
theorem uU{xs:List V}{lo hi:Option Int}(h:HT.eS xs.length 0 lo=0/\HT.eS xs.length xs.length hi=xs.length):fR xs lo hi=xs:=by
 unfold fR
 rw [h.1,h.2,List.drop_zero,Nat.sub_zero,List.take_length]
theorem mB{P:Program}{w:World}{A:Around}{E:Value->Shared->Prop}{s:Shared}{t sl:Addr}{items:Array Value}{vl vu:Value}{lo hi:Option Int}{Q:Value->Shared->Prop}(ht:IsTup s.heap t items)(hs:s.heap.IsSliceOf sl vl vu .none)(pl:IsPart vl lo)(pu:IsPart vu hi)
  (hw:HT.eS items.size 0 lo=0/\HT.eS items.size items.size hi=items.size) (h:Q (.ref t) s):wpAny (model P w) A (getItem (.ref t) (.ref sl)) Q E s:=by
 obtain⟨os,zE,F8,Jy⟩:=id hs
 have Nx:s.TypeIs (.ref sl) "slice":=⟨os,zE,F8⟩
 unfold getItem
 try with_reducible refine wpAny_holding ?_
 first|refine wpAny_bind (wpAny_pure ?_)|skip
 refine wpAny_bind (wpAny_sequenceKey ht.typeIs (by decide) ?_)
 refine wpAny_bind (wpAny_callSpecial?_slot (name:=Str.ofString "__getitem__") ht.typeIs PyProof.Rows.slot_tuple_getitem (wpAny_call_entry PyProof.Rows.slot_tuple_getitem ht.typeIs entry_tuple_getitem ?_ (args_tuple_getitem _ _)))
 show wpAny _ _ (Builtin.Tuple.tupleItemsOf (.ref t) >>= _) _ _ s
 refine wpAny_bind (tupleItemsOf_ ht ?_)
 refine wpAny_bind (wpAny_typeOf Nx ?_)
 rw [if_pos (by decide)]
 refine wpAny_bind (HT.iu hs pl pu ?_)
 show wpAny _ _ (if (((HT.eS items.size 0 lo:Nat):Int) == 0&&(1:Int) == 1&&(HT.eS items.size items.size hi-HT.eS items.size 0 lo) == items.size)=true then _ else _) _ _ s
 rw [if_pos (by rw [hw.1,hw.2];simp)]
 refine wpAny_bind (m:=Builtin.Tuple.tupleIsExact (.ref t)) ?_
 unfold Builtin.Tuple.tupleIsExact
 refine wpAny_bind (wpAny_typeOf ht.typeIs (wpAny_pure ?_))
 rw [if_pos (by decide)]
 first
  |exact wpAny_bind (wpAny_rule (wpAny_pure ⟨_,rfl,wpAny_pure h⟩))
  |exact wpAny_bind (wpAny_bind (wpAny_rule (wpAny_pure (wpAny_pure ⟨_,rfl,wpAny_pure h⟩))))
  |exact wpAny_bind (wpAny_rule (wpAny_bind (wpAny_pure (wpAny_pure ⟨_,rfl,wpAny_pure h⟩))))
def wU:V->Option Int->Option Int->Hp->VK->Prop:=λx lo hi H Q=>∃a xs,x=.ref a/\H a=some (.tup xs)/\∀p H',ax H H'->H' p=some (.tup (fR xs lo hi))->Q (.ref p) H'
theorem dg{X:Cx}:jb X wU:=by
 intro pins s σ H x v vl vu lo hi sl Q I rx hs pl pu h
 obtain⟨a,xs,rfl,hx,q⟩:=h
 by_cases hw:HT.eS xs.length 0 lo=0/\HT.eS xs.length xs.length hi=xs.length
 ·cases rx
  obtain⟨its,r,ht,hz⟩:=I.tuple (aR.of hx)
  have hlen:its.toArray.size=xs.length:=by rw [List.size_toArray];exact r.length.symm
  refine⟨"tuple",_,PyProof.Rows.slot_tuple_getitem.lookup,ht.typeIs,?_⟩
  exact mB ht hs pl pu (by rw [hlen];exact hw) ⟨.ref a,H,I,rfl,q a H (ax.refl H) (by rw [uU hw];exact hx)⟩
 ·exact F9 pins s σ H (.ref a) v vl vu lo hi sl Q I rx hs pl pu ⟨a,xs,rfl,aR.of hx,hw,λp hp=>q p _ (ah hp _) ae⟩
def qx:R2:=λx y H Q=>∃a b xs ys,x=.ref a/\y=.ref b/\H a=some (.tup xs)/\H b=some (.tup ys)/\xs.length+ys.length<=sizeLine/\∀p H',ax H H'->H' p=some (.tup (xs++ys))->Q (.ref p) H'
theorem bK{X:Cx}:eJ X (binaryOp .Add) qx:=by
 intro pins s σ H x y v u Q I rx ry h
 obtain⟨a,b,xs,ys,rfl,rfl,ha,hb,hz,q⟩:=h
 by_cases hx:xs = []
 ·cases rx
  cases ry
  subst hx
  obtain⟨its,r1,p1,_⟩:=I.tuple (aR.of ha)
  obtain⟨gN,r2,p2,_⟩:=I.tuple (aR.of hb)
  obtain⟨⟨cls,dd,data,sl⟩,ho,hc,n,hd⟩:=id p1
  obtain⟨⟨Nw,ID,data2,L8⟩,F6,rE,n2,hd2⟩:=id p2
  simp only at hc hd rE hd2
  subst hc hd rE hd2
  obtain rfl:=r1.zero
  exact concat_meets ⟨_,ho,rfl⟩ ⟨_,F6,rfl⟩ noFill_tuple_add seq_tuple_add PySem.F.slot_tuple_add PySem.F.entry_tuple_add (PySem.F.args_tuple_add_2 _ _)
   (tuple_addW0 a b #[] gN.toArray n n2 dd ID sl L8 rfl) ⟨ho,F6,⟨.ref b,H,I.tok _,rfl,q b H (ax.refl H) hb⟩⟩
 ·exact CG pins s σ H (.ref a) (.ref b) v u Q I rx ry ⟨a,b,xs,ys,rfl,rfl,aR.of ha,aR.of hb,hx,hz,λe=>q a H (ax.refl H) (by rw [e,List.append_nil];exact ha),λ_ p hp=>q p _ (ah hp _) ae⟩
theorem qy{X:Cx}(hu:X.A.units<cLine):eJ X (compareOp .Eq) (λx y H Q => ∃a b xs ys,x=.ref a/\y=.ref b/\aR X.K H a xs/\aR X.K H b ys/\(xs = []\/ys = [])/\Q (.bl (xs.isEmpty&&ys.isEmpty)) H):=by
  intro pins s σ H x y v u Q I rx ry h
  obtain⟨a,b,xs,ys,rfl,rfl,ha,hb,he,q⟩:=h
  cases rx
  cases ry
  obtain⟨its,r1,p1,_⟩:=I.tuple ha
  obtain⟨gN,r2,p2,_⟩:=I.tuple hb
  have l1:=r1.length
  have l2:=r2.length
  refine SeqAt.eq_tupleAt (e:=λ_ => true) (show s.heap.IsTuple a its.toArray from p1) (show s.heap.IsTuple b gN.toArray from p2) hu (λj h1 h2 => ?_) ⟨.bl (xs.isEmpty&&ys.isEmpty),H,I,?_,q⟩
  · exfalso
    rw [List.size_toArray] at h1 h2
    rcases he with rfl | rfl
    · simp at l1;omega
    · simp at l2;omega
  · show Value.bool _=Value.bool _
    congr 1
    rcases he with rfl | rfl
    · have:its = []:=by simpa using l1.symm
      subst this
      cases ys with
      | nil => have:gN = []:=by simpa using l2.symm
               subst this;rfl
      | cons c d => cases gN with
        | nil => simp at l2
        | cons => simp
    · have:gN = []:=by simpa using l2.symm
      subst this
      cases xs with
      | nil => have:its = []:=by simpa using l1.symm
               subst this;rfl
      | cons c d => cases its with
        | nil => simp at l1
        | cons => simp
theorem mO{X:Cx}(hu:X.A.units<cLine):eJ X (compareOp .Eq) (λx y H Q=>∃a b xs,x=.ref a/\y=.ref b/\bX X.K H a xs/\bX X.K H b []/\Q (.bl xs.isEmpty) H):=by
 intro pins s σ H x y v u Q I rx ry h
 obtain⟨a,b,xs,rfl,rfl,ha,hb,q⟩:=h
 cases rx
 cases ry
 obtain⟨its,r1,⟨o1,n1,e1,c1,d1,k1⟩,_⟩:=I.list ha
 obtain⟨gN,r2,⟨o2,n2,e2,c2,d2,k2⟩,_⟩:=I.list hb
 obtain rfl:=r2.zero
 have L1:s.heap.IsList a its.toArray:=⟨o1,e1,c1,n1,k1⟩
 have RR:s.heap.IsList b ([]:List Value).toArray:=⟨o2,e2,c2,n2,k2⟩
 cases xs with
 |nil=>
  obtain rfl:=r1.zero
  exact SeqAt.eq_listAt (e:=λ_=>true) L1 RR rfl hu (λj h1 h2=>absurd h1 (by simp)) ⟨.bl true,H,I,rfl,q⟩
 |cons x xr=>
  cases r1 with
  |cons r rr=>exact SeqAt.eq_list_lengthsAt L1 RR (by simp) hu ⟨.bl false,H,I,rfl,q⟩
structure sD (w:World) (K:PySem.W.Frag) (a:Addr) (tab:Str->Option (List Str)):Prop where
 ex:∃(es:Array DictEntry) (n:Nat),K.lookup a=some ⟨.type "dict",none,.dict es n,#[]⟩/\PySem.W.KeysLit w.params es.toList /\
  ∀x,match tab x with
   |some ks=>∃b,findBy Value.isStrOf es x=some (.ref b)/\∃(o:Obj) (its:Array Value) (m:Nat),K.lookup b=some o/\o.cls=.type "tuple"/\o.data=.seq its m/\its.size<=sizeLine/\Vals (ks.map V.str) its.toList
   |none=>findBy Value.isStrOf es x=none
 lo:(a == sysModules)=false
def NY(K:PySem.W.Frag)(tab:Str->Option (List Str))(te:TE):TE:=λσ H Q=>te σ H λy H1=>∃x,y=.str x/\(match tab x with
 |some ks=>∀b,aR K H1 b (ks.map V.str)->Q (.ref b) H1
 |none=>Q .eh H1)
theorem pK{X:Cx}{n:Str}{e:Expr}{a:Addr}{tab:Str->Option (List Str)}{te:TE}{p apos gO:Pos}(T:sD X.w X.K a tab)(hg:Gl X n)(hm:X.mg n=some (.ref a))(he:PE X e te)(hd:(n == ("__debug__":Str))=false:=by decide)
  (rX:attributeBase (.Name n p) "get" X.env (eval (.Name n p) X.env)=eval (.Name n p) X.env:=by rfl)
  (Gd:((backTo gO (starEach [e] X.env)).all (λx=>!x.1)&&(backToKw gO (keywordEach [] X.env)).all (λx=>x.1.isSome)
   && decide ([e].length+([]:List Keyword).length+(if ([]:List Keyword).isEmpty then 0 else 1)<30))=true:=by rfl)
  (Ak:(apos.endLine == gO.line)=true:=by rfl) (hs:starEach [e] X.env = [(false,eval e X.env)]:=by rfl) :
  PE X (.Call (.Attribute (.Name n p) "get" apos) [e] [] gO) (NY X.K tab te):=by
 intro pins s σ H Q I h
 obtain⟨es,k,lk,keys,look⟩:=T.ex
 have RS:=PySem.W.mapOf_K (prog:=X.prog) (w:=X.w) I.kx lk keys
 refine wpAny_Call_method_late rX Gd Ak rfl (iI I hg hm ?_ hd)
 refine⟨"dict","dict.get",PySem.F.plainAttrs_dict,PySem.F.slot_dict_get,PySem.F.type_dict_get,RS.typeIs,RS.noDict,?_⟩
 have Uo:PA X [e] (bD te fE):=mG he aa (by rw [hs];rfl)
 have hA:=Uo gO pins s σ H (λvs H1=>match vs with
  | [y]=>∃x,y=.str x/\(match tab x with
   |some ks=>∀b,aR X.K H1 b (ks.map V.str)->Q (.ref b) H1
   |none=>Q .eh H1)
  |_=>False) I h
 rw [hs] at hA ⊢
 refine Calls.callWith_builtin (by rfl) (Calls.evalArgs_plain ?_)
 refine cI hA λus s2 ⟨vs,H2,I2,r2,q2⟩=>?_
 have Gv:=PySem.W.mapOf_K (prog:=X.prog) (w:=X.w) I2.kx lk keys
 match vs,r2,q2 with
 | [y],r2,⟨x,ey,q⟩=>
  subst ey
  obtain⟨u,rfl,t,rfl⟩:=r2.one
  refine call_meetsIn PySem.F.slot_dict_get Gv.typeIs PySem.F.entry_dict_get (PySem.F.args_dict_get_2 _ _) (meets_dict_get (strKind X.prog X.w) a (strKind_is X.prog X.w x t) T.lo) ⟨_,Gv,?_⟩
  have lx:=look x
  cases ht:tab x with
  |some ks=>
   rw [ht] at lx q
   obtain⟨b,fb,o,its,m,l1,l2,l3,l4,l5⟩:=lx
   rw [fb]
   exact⟨.ref b,H2,I2.tok _,rfl,q b (.inr ⟨o,its,m,l1,l2,l3,l4,l5⟩)⟩
  |none=>
   rw [ht] at lx q
   rw [lx]
   exact⟨.eh,H2,I2.tok _,rfl,q⟩
structure Src (K:PySem.W.Frag) (mg:Str->Option Value) (x:Str) (st:Stmt) (ps:List Str):Prop where
 ex:∃(f:Addr) (fd:FuncData),EU K x x st f fd/\mg x=some (.ref f)/\Binds K fd ps []
structure Def (P:Program) (w:World) (K:PySem.W.Frag) (mg:Str->Option Value) (base:Heap) (k:Nat) (x:Str) (ps:List Str) (sp:Sp):Prop where
 ex:∃(f:Addr) (fd:FuncData),g7 P w K mg base rZ k f fd ps sp/\mg x=some (.ref f)/\PySem.W.keepIn K (.ref f)=true/\Binds K fd ps []
section
variable {P:Program} {w:World} {K:PySem.W.Frag} {mg:Str->Option Value} {base:Heap} {x:Str} {st:Stmt} {ps N:List Str} {k j:Nat} {sp F1:Sp}
theorem Src.ok(S:Src K mg x st ps)(F:aO N ps (ao st))(len:∀vs H Q E,sp vs H Q E->vs.length=ps.length)
  (jj:∀(f:Addr) (cD:Value) (A:Around) (outer:List Env) (s:Shared) (H:Hp) (vs:List V) (Q:VK) (E:XK),fe k (A.deeper (envOfC x (ao st) s.heap.objs.size f cD))->sp vs H Q E ->
   ∃t,gi (kE rZ P w K mg base N x (ao st) f cD A outer s H E).EK (dv st) t/\t {nx:=λ_ H'=>Q .eh H',rt:=Q} (start N vs) H):Def P w K mg base (k+1) x ps sp:=by
 obtain⟨f,fd,F0,hm,hb⟩:=S.ex
 exact⟨f,fd,F0.ok F len (jj f),hm,F0.kp,hb⟩
theorem Def.mono(D:Def P w K mg base j x ps sp)(h:j<=k):Def P w K mg base k x ps sp:=by
 obtain⟨f,fd,F,r⟩:=D.ex
 exact⟨f,fd,F.mono h,r⟩
theorem Def.imp(D:Def P w K mg base k x ps sp)(h:∀vs H Q E,F1 vs H Q E->sp vs H Q E):Def P w K mg base k x ps F1:=by
 obtain⟨f,fd,F,r⟩:=D.ex
 exact⟨f,fd,F.imp h,r⟩
theorem Src.no(S:Src K mg x st ps)(h:∀vs H Q E,¬sp vs H Q E):Def P w K mg base k x ps sp:=by
 obtain⟨f,fd,F0,hm,hb⟩:=S.ex
 exact⟨f,fd,⟨λvs H Q E q=>absurd q (h vs H Q E),λA outer s H args us vs Q E _ _ _ _ q=>absurd q (h vs H Q E)⟩,hm,F0.kp,hb⟩
end
def gE:Expr->Bool
 |.Starred _ _=>false
 |_=>true
theorem ej{e:Expr}{es:List Expr}{env:Env}(h:gE e=true):starEach (e::es) env=(false,eval e env)::starEach es env:=by
 cases e<;>first|rfl|cases h
theorem gz{env:Env}{pos:Pos}:∀{es:List Expr},es.all gE=true->(backTo pos (starEach es env)).any (·.1)=false
 | [],_=>rfl
 |e::es,h=>by
  rw [List.all_cons,Bool.and_eq_true] at h
  rw [ej h.1]
  have ih:=gz (env:=env) (pos:=pos) h.2
  show (false||(backTo pos (starEach es env)).any (·.1))=false
  rw [ih];rfl
theorem aq{X:Cx}{e:Expr}{es:List Expr}{te:TE}{t:TA}(ha:PE X e te)(hr:PA X es t)(h:gE e=true:=by rfl):PA X (e::es) (bD te t):=mG ha hr (ej h)
def uV:Expr->Option V
 |.Constant (.str x) _ _=>some (.str x)
 |.Constant (.int i) _ _=>some (.int i)
 |.Constant (.bool b) _ _=>some (.bl b)
 |.Constant .none _ _=>some .eh
 |_=>none
theorem AB{X:Cx}{e:Expr}{v:V}(h:uV e=some v):PE X e (tC v)/\gE e=true:=by
 unfold uV at h
 split at h
 ·cases h;exact⟨aD,rfl⟩
 ·cases h;exact⟨ag,rfl⟩
 ·cases h;exact⟨cW,rfl⟩
 ·cases h;exact⟨um,rfl⟩
 ·cases h
theorem bq{X:Cx}:∀{es:List Expr} (vs:List V),es.map uV=vs.map some->PA X es (λ_ H Q=>Q vs H)
 | [],[],_=>aa
 | [],_::_,h=>by cases h
 |_::_,[],h=>by cases h
 |e::es,v::vs,h=>by
  rw [List.map_cons,List.map_cons] at h
  injection h with h1 h2
  obtain⟨a,b⟩:=AB (X:=X) h1
  exact aq a (bq vs h2) b
def NZ(t u:TS):TS:=λD σ H=>∃M:St->Hp->Prop,t {D with nx:=M} σ H/\∀σ' H',M σ' H'->u D σ' H'
theorem cE{X:Cx}{st:Stmt}{rest:List Stmt}{t u:TS}(h1:PS X st t)(h2:gi X rest u):gi X (st::rest) (NZ t u):=by
 intro pins s σ H D I h
 obtain⟨M,a,b⟩:=h
 refine wpAny_execs_cons (cI (h1 pins s σ H {D with nx:=M} I a) λf s1 q=>?_)
 cases f with
 |next=>
  obtain⟨σ',H',I',q⟩:=q
  exact h2 pins s1 σ' H' D I' (b σ' H' q)
 |ret v=>exact q
 |brk=>exact q
 |cont=>exact q
def JW(t:TT):TT:=λσ H Q=>∃M:Bool->Hp->Prop,t σ H M/\∀v H',M v H'->Q v H'
theorem cN{X:Cx}{e:Expr}{t:TT}(h:PT X e t):PT X e (JW t):=by
 intro pins s σ H Q I hq
 obtain⟨M,a,b⟩:=hq
 exact cI (h pins s σ H M I a) λu s1 ⟨H',I',q⟩=>⟨H',I',b u H' q⟩
def nJ(sp:Sp)(t:TA):TE:=λσ H Q=>t σ H λvs H1=>sp vs H1 Q E0
theorem aw{X:Cx}{k:Nat}{x:Str}{ps:List Str}{sp:Sp}{p pos:Pos}{e:Expr}{es:List Expr}{t:TA}(D:Def X.prog X.w X.K X.mg X.base k x ps sp)(hr:fe k X.A)(hg:Gl X x)(ha:PA X (e::es) t)
  (qm:(x == ("__debug__":Str))=false:=by decide) (gM:(e::es).all gE=true:=by rfl) :
  PE X (.Call (.Name x p) (e::es) [] pos) (nJ sp t):=by
 obtain⟨f,fd,F,hm,hk,hb⟩:=D.ex
 intro pins s σ H Q I h
 have q:=wH (p:=p) (pos:=pos) F hr hg hm hk hb .nil (Ao (X:=X)) ha qm (ej (by rw [List.all_cons,Bool.and_eq_true] at gM;exact gM.1)) (gz (by rw [List.all_cons,Bool.and_eq_true] at gM;exact gM.2)) pins s σ H Q I
 refine q ?_
 have e2:rQ sp [] E0 t=nJ sp t:=by
  funext σ H Q
  unfold rQ nJ
  simp only [List.append_nil]
 rw [e2]
 exact h
theorem aW{X:Cx}{x:Str}{p pos:Pos}{e:Expr}{es:List Expr}{t:TA}{id:String}{r:List V->Hp->VK->Prop}(hc:bI X (.builtin id) r)(hg:Gl X x)(hm:X.mg x=none)(hv:bootBuiltins x=some (.builtin id))(ha:PA X (e::es) t)
  (hn:x≠"__name__":=by decide) (qm:(x == ("__debug__":Str))=false:=by decide) (gM:(e::es).all gE=true:=by rfl):PE X (.Call (.Name x p) (e::es) [] pos) (CD r t):=
 rS hc hg hm hv ha hn qm (ej (by rw [List.all_cons,Bool.and_eq_true] at gM;exact gM.1)) (gz (by rw [List.all_cons,Bool.and_eq_true] at gM;exact gM.2))
theorem eM{X:Cx}{x:Str}{p pos:Pos}{e:Expr}{es:List Expr}{t:TA}{id:String}{r:List V->Hp->VK->Prop}(hc:bI X (.type id) r)(hg:Gl X x)(hm:X.mg x=none)(hv:bootBuiltins x=some (.type id))(ha:PA X (e::es) t)
  (hn:x≠"__name__":=by decide) (qm:(x == ("__debug__":Str))=false:=by decide) (gM:(e::es).all gE=true:=by rfl):PE X (.Call (.Name x p) (e::es) [] pos) (CD r t):=
 yr hc hg hm hv ha hn qm (ej (by rw [List.all_cons,Bool.and_eq_true] at gM;exact gM.1)) (gz (by rw [List.all_cons,Bool.and_eq_true] at gM;exact gM.2))
def AD(k:Nat)(js:List Nat)(σ:St):St:=List.replicate k none++js.map λj=>(σ[j]?).join
theorem gP{X:Cx}{N':List Str}{scope:Scope}(k:Nat)(js:List Nat)(hl:k+js.length=N'.length)(hn:js.map (λj=>X.N[j]?)=(N'.drop k).map some)(hf:∀x∈N'.drop k,(x,NameKind.free)∈scope.names) :
  ∀σ:St,σ.length=X.N.length->uP X N' scope σ (AD k js σ):=by
 intro σ _
 refine⟨by unfold AD;rw [List.length_append,List.length_replicate,List.length_map];exact hl,λi x v h1 h2=>?_⟩
 unfold AD at h2
 by_cases hi:i<k
 ·rw [List.getElem?_append_left (by simpa using hi),List.getElem?_replicate,if_pos hi] at h2
  cases h2
 ·rw [List.getElem?_append_right (by simpa using hi),List.length_replicate,List.getElem?_map] at h2
  cases hj:js[i-k]? with
  |none=>rw [hj] at h2;cases h2
  |some j=>
   rw [hj] at h2
   have h3:(σ[j]?).join=some v:=by simpa using h2
   have e1:(N'.drop k)[i-k]?=some x:=by rw [List.getElem?_drop];rw [show k+(i-k)=i by omega];exact h1
   have e2:=congrArg (λl=>l[i-k]?) hn
   simp only [List.getElem?_map,hj,e1,Option.map_some] at e2
   refine⟨hf x (List.mem_of_getElem? e1),j,Option.some.inj e2,?_⟩
   cases hs:σ[j]? with
   |none=>rw [hs] at h3;cases h3
   |some o=>
    rw [hs] at h3
    have:o=some v:=h3
    rw [this]
theorem bg{X:Cx}{N':List Str}{scope:Scope}(sc:Scope)(uf:X.env.scope=sc)(a:scope.kind=.function)(b:N'.Nodup)(c:∀y∈scope.names,y.2≠.cell)(d:∀y∈scope.names,y.2=.local->scope.names.lookup y.1=some .local)
  (e:∀y∈scope.names,y.2=.free->sc.names.lookup y.1=some .cell)
  (f:∀y∈scope.names,y.2=.free->(scope.names.map λ(n,k)=>if (k == .free&&sc.kind == .function&&sc.names.lookup n == some .cell) then (n,NameKind.cell) else (n,k)).lookup y.1≠some .local):jI X N' scope:=by
 subst uf
 exact⟨a,b,c,d,e,λx hx=>f (x,.free) hx rfl⟩
theorem bO:bootBuiltins "len"=some (.builtin "len"):=PySem.boot_len
theorem aE:bootBuiltins "isinstance"=some (.builtin "isinstance"):=by decide +kernel
theorem nK:bootBuiltins "all"=some (.builtin "all"):=by decide +kernel
theorem fT:bootBuiltins "list"=some (.type "list"):=by decide +kernel
theorem bL:bootBuiltins "tuple"=some (.type "tuple"):=by decide +kernel
theorem lJ:bootBuiltins "str"=some (.type "str"):=by decide +kernel
theorem qz:bootBuiltins "int"=some (.type "int"):=by decide +kernel
theorem wV:bootBuiltins "bool"=some (.type "bool"):=by decide +kernel
theorem dw{X:Cx}{x:Str}{n:String}{pos:Pos}(hm:X.mg x=none)(hv:bootBuiltins x=some (.type n))(hg:Gl X x)(hn:x≠"__name__":=by decide)(hd:(x == ("__debug__":Str))=false:=by decide):PE X (.Name x pos) (tC (.ty n)):=
 Cw hg hm hv rfl hn hd
theorem JX{α:Type}{xs:List α}{k:Int}(h0:0<=k)(h1:k<(xs.length:Int)):∃v,nE xs k=some v/\xs[k.toNat]?=some v:=by
 have hk:k.toNat<xs.length:=by omega
 have z:k=((k.toNat:Nat):Int):=by omega
 refine⟨xs[k.toNat],?_,List.getElem?_eq_getElem hk⟩
 have q:=au (xs:=xs) (j:=k.toNat) (v:=xs[k.toNat]) (List.getElem?_eq_getElem hk)
 rw [<-z] at q
 exact q
theorem lK{α:Type}{xs:List α}{k:Int}(h0:0<=k)(h1:k<(xs.length:Int)):∃v,nE xs k=some v/\v∈xs:=by
 obtain⟨v,a,b⟩:=JX h0 h1
 exact⟨v,a,List.mem_of_getElem? b⟩
theorem Gw{ns:List Str}{k:Int}(h0:0<=k)(h1:k<(ns.length:Int)):∃x,nE (ns.map V.str) k=some (.str x)/\x∈ns:=by
 obtain⟨v,a,b⟩:=lK (xs:=ns.map V.str) h0 (by rw [List.length_map];exact h1)
 obtain⟨x,hx,rfl⟩:=List.mem_map.mp b
 exact⟨x,a,hx⟩
def jJ(p:Addr)(H H':Hp):Prop:=∀b o,b≠p->H b=some o->H' b=some o
def Gen(p:Addr)(H:Hp):Prop:=∃n:Int,H p=some (.lst [.int n])/\0<=n/\n<2147483629
structure Ext (p:Addr) (H H':Hp):Prop where
 but:jJ p H H'
 gen:Gen p H'
theorem Ext.refl{p:Addr}{H:Hp}(g:Gen p H):Ext p H H:=⟨λ_ _ _ h=>h,g⟩
theorem Ext.trans{p:Addr}{H H1 H2:Hp}(a:Ext p H H1)(b:Ext p H1 H2):Ext p H H2:=⟨λc o hc h=>b.but c o hc (a.but c o hc h),b.gen⟩
theorem Gen.same{p:Addr}{H H':Hp}(g:Gen p H)(s:ax H H'):Gen p H':=let ⟨n,h,r⟩:=g;⟨n,s _ _ h,r⟩
theorem ax.ext{p:Addr}{H H':Hp}(g:Gen p H)(s:ax H H'):Ext p H H':=⟨λb o _ h=>s b o h,g.same s⟩
theorem Ext.new{p q:Addr}{H:Hp}(g:Gen p H)(h:H q=none)(o:HO):Ext p H (upd H q o):=ax.ext g (ah h o)
theorem Gen.ne{p q:Addr}{H:Hp}(g:Gen p H)(h:H q=none):q≠p:=λe=>by
 obtain⟨n,hp,_⟩:=g
 rw [<-e,h] at hp;cases hp
theorem Ext.free{p q:Addr}{H H':Hp}(e:Ext p H H')(h:H' q=none):H q=none:=by
 have j5:=e.gen.ne h
 cases hq:H q with
 |none=>rfl
 |some o=>rw [e.but q o j5 hq] at h;cases h
theorem Ext.tup{p a:Addr}{H H':Hp}{xs:List V}(g:Gen p H)(e:Ext p H H')(h:H a=some (.tup xs)):H' a=some (.tup xs):=by
 obtain⟨n,hp,_⟩:=g
 exact e.but a _ (pj h hp (by intro z;cases z)) h
def small(c:Nat):Bool:=decide (97<=c)&&decide (c<=122)
def Lt(x:Str):Prop:=∀c∈x.cps.toList,small c=true
def fc(x:Str):Bool:=decide (1<=x.length/\x.length<=6)&&x.cps.toList.all small
theorem Lt.one{c:Nat}(h:small c=true):Lt ⟨#[c]⟩:=λd hd=>by
 have:d=c:=by simpa using hd
 rw [this];exact h
theorem cps_append(x y:Str):(x++y).cps=x.cps++y.cps:=rfl
theorem uW(x y:Str):(x++y).length=x.length+y.length:=by
 show (x.cps++y.cps).size=x.cps.size+y.cps.size
 simp
theorem Lt.append{x y:Str}(a:Lt x)(b:Lt y):Lt (x++y):=λc hc=>by
 rw [cps_append] at hc
 simp at hc
 rcases hc with h|h
 ·exact a c (by simpa using h)
 ·exact b c (by simpa using h)
theorem E2{x:Str}(h:Lt x)(h1:1<=x.length)(h2:x.length<=6):fc x=true:=by
 unfold fc
 rw [decide_eq_true ⟨h1,h2⟩,Bool.true_and,List.all_eq_true]
 exact h
abbrev nM:Str:="abcdefghijklmnopqrstuvwxyz"
theorem kO:nM.cps.toList = [97,98,99,100,101,102,103,104,105,106,107,108,109,110,111,112,113,114,115,116,117,118,119,120,121,122]:=by decide +kernel
theorem De:nM.length=26:=by decide +kernel
theorem AE{k:Int}(h0:0<=k)(h1:k<26):∃c,nE nM.cps.toList k=some c/\small c=true:=by
 obtain⟨c,a,b⟩:=lK (xs:=nM.cps.toList) h0 (by rw [kO];exact h1)
 refine⟨c,a,?_⟩
 rw [kO] at b
 have:∀d ∈ [97,98,99,100,101,102,103,104,105,106,107,108,109,110,111,112,113,114,115,116,117,118,119,120,121,122],small d=true:=by decide
 exact this c b
theorem JY(c:Nat):(!decide ((⟨#[c]⟩:Str).cps.toList<("a":Str).cps.toList))=decide (97<=c):=by
 have e:("a":Str).cps.toList = [97]:=by decide +kernel
 rw [e]
 by_cases h:97<=c
 ·rw [decide_eq_true h,decide_eq_false]
  ·rfl
  ·intro z
   have z' : [c] < [97]:=z
   simp [List.cons_lt_cons_iff] at z'
   omega
 ·rw [decide_eq_false h,decide_eq_true]
  ·rfl
  ·show [c] < [97]
   simp [List.cons_lt_cons_iff]
   omega
theorem N0(c:Nat):(!decide (("z":Str).cps.toList<(⟨#[c]⟩:Str).cps.toList))=decide (c<=122):=by
 have e:("z":Str).cps.toList = [122]:=by decide +kernel
 rw [e]
 by_cases h:c<=122
 ·rw [decide_eq_true h,decide_eq_false]
  ·rfl
  ·intro z
   have z' : [122] < [c]:=z
   simp [List.cons_lt_cons_iff] at z'
   omega
 ·rw [decide_eq_false h,decide_eq_true]
  ·rfl
  ·show [122] < [c]
   simp [List.cons_lt_cons_iff]
   omega
theorem Df(c:Nat):(!(Builtin.Str.occurrences nM ⟨#[c]⟩ 0 nM.length 1).isEmpty)=small c:=by
 rw [PySem.StrLaws.found_one,kO]
 unfold small
 by_cases h:97<=c/\c<=122
 ·rw [decide_eq_true h.1,decide_eq_true h.2,decide_eq_true]
  ·rfl
  ·have:∀d,d<26->(97+d) ∈ [97,98,99,100,101,102,103,104,105,106,107,108,109,110,111,112,113,114,115,116,117,118,119,120,121,122]:=by decide
   have:=this (c-97) (by omega)
   rw [show 97+(c-97)=c by omega] at this
   exact this
 ·rw [decide_eq_false]
  ·by_cases h1:97<=c
   ·rw [decide_eq_true h1,decide_eq_false (by omega)];rfl
   ·rw [decide_eq_false h1];rfl
  ·intro z
   have:∀d ∈ [97,98,99,100,101,102,103,104,105,106,107,108,109,110,111,112,113,114,115,116,117,118,119,120,121,122],97<=d/\d<=122:=by decide
   exact h (this c z)
structure Rel (H:Hp) (Rl:Hp->Prop):Prop where
 here:Rl H
 put:∀H1 a o,H a=none->Rl H1->Rl (upd H1 a o)
theorem Rel.same(H:Hp):Rel H (ax H):=⟨ax.refl H,λH1 a o ha s b u hb=>by rw [aK (aL hb ha)];exact s b u hb⟩
theorem dP{α β:Type}{R:α->β->Prop}:∀{a b:List α} {c d:List β},Paired R a c->Paired R b d->Paired R (a++b) (c++d)
 |_,_,_,_,.nil,s=>s
 |_,_,_,_,.cons r t,s=>.cons r (dP t s)
theorem Dg{J:It}{te:TE}{cs σ0:St}{H:Hp}{Qf:Addr->Hp->Prop}{Rl:Hp->Prop}(R:Rel H Rl)(items:List V)(Pv:V->V->Prop)(hz:items.length<=10000)
  (Dh:∀i H2,Rl H2->i<items.length->J.go i H2) (sE:∀H2,Rl H2->J.stop items.length H2) (nN:∀i H2 x H3,Rl H2->i<items.length->J.rM i H2 x H3->H3=H2/\items[i]?=some x)
  (hσ:σ0=none::cs)
  (step:∀x acc ys H2 (k:VK),x∈items->H acc=none->H2 acc=some (.lst ys)->Rl H2->(∀y H3,Pv x y->Rl H3->H3 acc=some (.lst ys)->k y H3)->te (some x::cs) H2 k)
  (fin:∀acc ys H',H acc=none->Rl H'->H' acc=some (.lst ys)->Paired Pv items ys->Qf acc H') :
  ∀acc,H acc=none->∃W:Nat->Nat->St->List V->Hp->Prop,(∃m,W 0 m σ0 [] (upd H acc (.lst [])))/\∀i m σ2 ys H2,W i m σ2 ys H2->H2 acc=some (.lst ys) /\
  ((J.stop i H2/\Qf acc H2)\/(J.go i H2/\ys.length<sizeLine/\∀x H3,J.rM i H2 x H3->fK 0 x σ2 H3 λσ4 H4=>(λ(_:St) (H:Hp) (Q:Bool->Hp->Prop)=>Q true H) σ4 H4 λb H5=>
   if b=true then te σ4 H5 λy H6=>H6 acc=some (.lst ys)/\∃m',m'<m/\W (i+1) m' σ4 (ys ++ [y]) (upd H6 acc (.lst (ys ++ [y]))) else ∃m',m'<m/\W (i+1) m' σ4 ys H5)):=by
 intro acc bR
 subst hσ
 refine⟨λi m σ2 ys H2=>m=items.length-i/\i<=items.length/\(∃x0,σ2=x0::cs)/\Paired Pv (items.take i) ys/\H2 acc=some (.lst ys)/\Rl H2,
  ⟨_,rfl,Nat.zero_le _,⟨_,rfl⟩,(by rw [List.take_zero];exact .nil),ae,R.put _ _ _ bR R.here⟩,?_⟩
 rintro i _ σ2 ys H2 ⟨rfl,hi,⟨x0,rfl⟩,hp,ha,hr⟩
 refine⟨ha,?_⟩
 by_cases eQ:i<items.length
 ·refine .inr ⟨Dh i H2 hr eQ,?_,λx H3 hy=>?_⟩
  ·have:=Paired.length hp
   rw [List.length_take] at this
   have:ys.length<=10000:=by omega
   exact Nat.lt_of_le_of_lt this (by decide)
  obtain⟨rfl,hx⟩:=nN i H2 x H3 hr eQ hy
  refine step x acc ys H3 _ (List.mem_of_getElem? hx) bR ha hr λy H4 hv Up JZ=>?_
  refine⟨JZ,_,(by omega:items.length-(i+1)<items.length-i),rfl,eQ,⟨_,rfl⟩,?_,ae,R.put _ _ _ bR Up⟩
  rw [List.take_add_one,hx]
  exact dP hp (.cons hv .nil)
 ·obtain rfl:i=items.length:=by omega
  rw [List.take_length] at hp
  exact .inl ⟨sE H2 hr,fin acc ys H2 bR hr ha hp⟩
theorem nO{f:V->V}:∀{xs ys:List V},Paired (λx y=>y=f x) xs ys->ys=xs.map f
 |_,_,.nil=>rfl
 |_,_,.cons e t=>by rw [List.map_cons,<-nO t,e]
theorem fj{K:PySem.W.Frag}{a:Addr}{xs:List V}{te:TE}{cs σ0:St}{H:Hp}{Qf:Addr->Hp->Prop}(f:V->V)(ha:H a=some (.tup xs))(hz:xs.length<=10000)(hσ:σ0=none::cs)
  (step:∀x H2 (k:VK),x∈xs->ax H H2->(∀H3,ax H2 H3->k (f x) H3)->te (some x::cs) H2 k)
  (fin:∀acc H',H acc=none->ax H H'->H' acc=some (.lst (xs.map f))->Qf acc H') :
  ∀acc,H acc=none->∃W:Nat->Nat->St->List V->Hp->Prop,(∃m,W 0 m σ0 [] (upd H acc (.lst [])))/\∀i m σ2 ys H2,W i m σ2 ys H2->H2 acc=some (.lst ys) /\
  (((wB K a).stop i H2/\Qf acc H2)\/((wB K a).go i H2/\ys.length<sizeLine/\∀x H3,(wB K a).rM i H2 x H3->fK 0 x σ2 H3 λσ4 H4=>(λ(_:St) (H:Hp) (Q:Bool->Hp->Prop)=>Q true H) σ4 H4 λb H5=>
   if b=true then te σ4 H5 λy H6=>H6 acc=some (.lst ys)/\∃m',m'<m/\W (i+1) m' σ4 (ys ++ [y]) (upd H6 acc (.lst (ys ++ [y]))) else ∃m',m'<m/\W (i+1) m' σ4 ys H5)):=
 Dg (Rel.same H) xs (λx y=>y=f x) hz (λi H2 s hi=>⟨xs,_,aR.of (s _ _ ha),List.getElem?_eq_getElem hi⟩) (λH2 s=>⟨xs,aR.of (s _ _ ha),Nat.le_refl _⟩)
  (λi H2 x H3 s _ y=>⟨y.1,y.2 xs (aR.of (s _ _ ha))⟩) hσ (λx acc ys H2 k hx hn hl s hk=>step x H2 k hx s λH3 s3=>hk _ _ rfl (s.trans s3) (s3 _ _ hl))
  λacc ys H' hn s hl hp=>fin acc H' hn s (by rw [<-nO hp];exact hl)
def qA(P:Program)(w:World)(K:PySem.W.Frag)(mg:Str->Option Value)(base:Heap)(k:Nat)(tx:TE)(t:TA):TE:=λσ H Q=>tx σ H λv H1=>∃(f:Addr) (fd:FuncData) (ps:List Str) (sp:Sp),
 v=.ref f/\g7 P w K mg base rZ k f fd ps sp/\PySem.W.keepIn K (.ref f)=true/\Binds K fd ps []/\t σ H1 λvs H2=>sp vs H2 Q E0
theorem sF{X:Cx}{k:Nat}{x:Str}{tx:TE}{p pos:Pos}{e:Expr}{es:List Expr}{t:TA}(hx:PE X (.Name x p) tx)(hr:fe k X.A)(ha:PA X (e::es) t)(gM:(e::es).all gE=true:=by rfl) :
  PE X (.Call (.Name x p) (e::es) [] pos) (qA X.prog X.w X.K X.mg X.base k tx t):=by
 intro pins s σ H Q I h
 rw [List.all_cons,Bool.and_eq_true] at gM
 refine wpAny_Call_Name_kw (cI (hx pins s σ H _ I h) λv s1 ⟨y,H1,I1,r,f,fd,ps,sp,e1,F,hk,hb,q⟩=>?_)
 subst e1
 cases r
 refine PySem.W.callWith_K (h₀:=X.base) I1.ok.mod.Ct hk (cI (ha pos pins s1 σ H1 _ I1 q) λus s2 ⟨vs,H2,I2,r2,q2⟩=>⟨I2.kx,?_⟩) (ej gM.1) (gz gM.2)
 exact Af F hr hb .nil (Ao (X:=X)) I2 r2 (by rw [List.append_nil];exact q2)
theorem qB{J:It}{tc:TT}{te:TE}{cs σ0:St}{H:Hp}{Qf:Addr->Hp->Prop}(items:List V)(c:V->Bool)(f:V->V)(hz:items.length<=10000)
  (Dh:∀i H2,ax H H2->i<items.length->J.go i H2) (sE:∀H2,ax H H2->J.stop items.length H2) (nN:∀i H2 x H3,ax H H2->i<items.length->J.rM i H2 x H3->H3=H2/\items[i]?=some x)
  (hσ:σ0=none::cs)
  (test:∀(i:Nat) (x:V) (H2:Hp) (k:Bool->Hp->Prop),items[i]?=some x->ax H H2->(∀H3,ax H2 H3->k (c x) H3)->tc (some x::cs) H2 k)
  (step:∀x H2 (k:VK),x∈items->ax H H2->(∀H3,ax H2 H3->k (f x) H3)->te (some x::cs) H2 k)
  (fin:∀acc H',H acc=none->ax H H'->H' acc=some (.lst ((items.filter c).map f))->Qf acc H') :
  ∀acc,H acc=none->∃W:Nat->Nat->St->List V->Hp->Prop,(∃m,W 0 m σ0 [] (upd H acc (.lst [])))/\∀i m σ2 ys H2,W i m σ2 ys H2->H2 acc=some (.lst ys) /\
  ((J.stop i H2/\Qf acc H2)\/(J.go i H2/\ys.length<sizeLine/\∀x H3,J.rM i H2 x H3->fK 0 x σ2 H3 λσ4 H4=>tc σ4 H4 λb H5=>
   if b=true then te σ4 H5 λy H6=>H6 acc=some (.lst ys)/\∃m',m'<m/\W (i+1) m' σ4 (ys ++ [y]) (upd H6 acc (.lst (ys ++ [y]))) else ∃m',m'<m/\W (i+1) m' σ4 ys H5)):=by
 intro acc bR
 subst hσ
 have R:=Rel.same H
 refine⟨λi m σ2 ys H2=>m=items.length-i/\i<=items.length/\(∃x0,σ2=x0::cs)/\ys=((items.take i).filter c).map f/\H2 acc=some (.lst ys)/\ax H H2,
  ⟨_,rfl,Nat.zero_le _,⟨_,rfl⟩,(by rw [List.take_zero];rfl),ae,R.put _ _ _ bR R.here⟩,?_⟩
 rintro i _ σ2 ys H2 ⟨rfl,hi,⟨x0,rfl⟩,rfl,ha,hr⟩
 refine⟨ha,?_⟩
 by_cases eQ:i<items.length
 ·refine .inr ⟨Dh i H2 hr eQ,?_,λx H3 hy=>?_⟩
  ·have h1:=List.length_filter_le c (items.take i)
   rw [List.length_take] at h1
   rw [List.length_map]
   exact Nat.lt_of_le_of_lt (show _<=10000 by omega) (by decide)
  obtain⟨rfl,hx⟩:=nN i H2 x H3 hr eQ hy
  have et:items.take (i+1)=items.take i ++ [x]:=by rw [List.take_add_one,hx];rfl
  refine test i x H3 _ hx hr λH4 s4=>?_
  cases hc:c x with
  |true=>
   refine (if_pos rfl).mpr ?_
   refine step x H4 _ (List.mem_of_getElem? hx) (hr.trans s4) λH5 s5=>?_
   refine⟨s5 _ _ (s4 _ _ ha),_,(by omega:items.length-(i+1)<items.length-i),rfl,eQ,⟨_,rfl⟩,?_,ae,R.put _ _ _ bR (hr.trans (s4.trans s5))⟩
   rw [et,List.filter_append,List.filter_cons_of_pos hc,List.filter_nil,List.map_append]
   rfl
  |false=>
   refine (if_neg Bool.false_ne_true).mpr ?_
   refine⟨_,(by omega:items.length-(i+1)<items.length-i),rfl,eQ,⟨_,rfl⟩,?_,s4 _ _ ha,hr.trans s4⟩
   rw [et,List.filter_append,List.filter_cons_of_neg (by rw [hc];exact Bool.false_ne_true),List.filter_nil,List.append_nil]
 ·obtain rfl:i=items.length:=by omega
  rw [List.take_length] at ha ⊢
  exact .inl ⟨sE H2 hr,fin acc H2 bR hr ha⟩
def lA(C t:Addr)(tb:Value):Obj:={cls:=.ref C,data:=.fields #[.ref t,tb,.none,.none,.bool false,.none]}
def Ex(h:Heap)(a C T:Addr)(fl:Value):Prop:=(∃t,h.get? a=some (lA C t (.ref T)))/\T≠a/\∃oT ts,h.get? T=some oT/\oT.data=.fields ts/\ts[3]?=some fl
structure Mv (fs:List Addr) (a T:Addr) (h h':Heap):Prop where
 keep:∀b o,h.get? b=some o->b∉fs->b≠a->b≠T->h'.get? b=some o
 slot:∀b o,h.get? b=some o->b∈fs->b≠a->b≠T->∃sl,h'.get? b=some {o with slots:=sl}
theorem Mv.any{fs:List Addr}{a T b:Addr}{h h':Heap}{o:Obj}(m:Mv fs a T h h')(e:h.get? b=some o)(h1:b≠a)(h2:b≠T):∃sl,h'.get? b=some {o with slots:=sl}:=by
 by_cases hb:b∈fs
 ·exact m.slot b o e hb h1 h2
 ·exact⟨o.slots,m.keep b o e hb h1 h2⟩
section
variable {M:Model} {A:Around} {E:Value->Shared->Prop} {s:Shared} {base:Heap} {env:Env} {outer:List Env} {L a C t T:Addr} {Q:Unit->Shared->Prop}
theorem Di(C t:Addr)(tb x:Value):(lA C t tb).mapFields (·.setIfInBounds 1 x)=lA C t x:=rfl
theorem sG{tb head:Value}{Dj:Bool}(jX:A.frames=some (env::outer))(hl:s.heap.FunFrames base (env::outer))(hf:env.frame=some L)(he:s.heap.get? a=some (lA C t tb))
  (h:∀h' T',s.heap.get? T'=none->s.heap.objs.size<=T'->Ex h' a C T' (rawInt L)->Mv ((env::outer).filterMap (·.frame)) a a s.heap h'->Q () {s with heap:=h'}) :
  wpAny M A (do let x <-frameOf env;let pl <-entryPlaceOf L Dj;let b <-EntryCells.newEntry head x .none (rawInt L) .none pl;setField (.ref a) 1 b) Q E s:=by
 have J1:a∉(env::outer).filterMap (·.frame):=λhm=>by
  obtain⟨_,o,ho,hn⟩:=hl.mem hm
  rw [he] at ho;cases ho;exact hn _ rfl
 refine wpAny_bind (wpAny_frameOf_fun jX hl hf λh1 hs=>?_)
 refine wpAny_bind (wpAny_entryPlaceOf λpl gM=>?_)
 unfold EntryCells.newEntry newFields
 refine wpAny_bind (wpAny_newObj_type ?_ (gM.sizeOk5 _ _ _ _ _))
 have Ml:h1.get? a=some (lA C t tb):=(hs.2.1 a J1).trans he
 have Mm:=Heap.get?_push_of_some (h:=h1) {cls:=.type "traceback",dict:=none,data:=.fields ([head,.ref L,.none,rawInt L,.none]++(if pl.isEmpty then List.replicate 6 Value.none else pl)).toArray} Ml
 refine wpAny_setField Mm rfl (Nat.lt_of_sub_pos (Nat.succ_pos 4)) ?_
 have j5:h1.objs.size≠a:=Nat.ne_of_gt (Heap.lt_size Ml)
 have Uq:∀b o,s.heap.get? b=some o->b≠h1.objs.size:=λb o e=>by
  obtain⟨sl,e1⟩:=hs.2.2 b o e
  exact Nat.ne_of_lt (Heap.lt_size e1)
 have jg:s.heap.get? h1.objs.size=none:=by
  cases q:s.heap.get? h1.objs.size with
  |none=>rfl
  |some o=>exact absurd rfl (Uq _ o q)
 refine h _ h1.objs.size jg (Nat.le_of_eq hs.1.symm) ⟨⟨t,?_⟩,j5,{cls:=.type "traceback",dict:=none,data:=.fields ([head,.ref L,.none,rawInt L,.none]++(if pl.isEmpty then List.replicate 6 Value.none else pl)).toArray},_,?_,rfl,?_⟩ ⟨λb o e hb ha _=>?_,λb o e hb ha _=>?_⟩
 ·rw [<-Di C t tb]
  exact Heap.get?_update_self _ Mm rfl
 ·rw [Heap.get?_update_other _ _ (Ne.symm j5)]
  exact Heap.get?_push_size h1 rfl
 ·first|(simp;done)|(rcases gM with rfl|⟨_,_,_,_,_,_,_,rfl⟩<;>simp)
 ·rw [Heap.get?_update_other _ _ (Ne.symm ha)]
  exact Heap.get?_push_of_some _ ((hs.2.1 b hb).trans e)
 ·obtain⟨sl,e1⟩:=hs.2.2 b o e
  refine⟨sl,?_⟩
  rw [Heap.get?_update_other _ _ (Ne.symm ha)]
  exact Heap.get?_push_of_some _ e1
theorem J2(jX:A.frames=some (env::outer))(hl:s.heap.FunFrames base (env::outer))(hf:env.frame=some L)(he:s.heap.get? a=some (lA C t .none))
  (h:∀h' T',s.heap.get? T'=none->s.heap.objs.size<=T'->Ex h' a C T' (rawInt L)->Mv ((env::outer).filterMap (·.frame)) a a s.heap h'->Q () {s with heap:=h'}):wpAny M A (noteFrame (.ref a) env) Q E s:=by
 unfold noteFrame
 simp only [hf]
 refine wpAny_bind (wpAny_field he rfl (x:=.none) rfl ?_)
 rw [if_neg (by decide)]
 exact sG jX hl hf he h
theorem J3(jX:A.frames=some (env::outer))(hl:s.heap.FunFrames base (env::outer))(hf:env.frame=some L)(he:Ex s.heap a C T .none)
  (h:∀h' T',s.heap.get? T'=none->s.heap.objs.size<=T'->Ex h' a C T' (rawInt L)->Mv ((env::outer).filterMap (·.frame)) a T s.heap h'->Q () {s with heap:=h'}):wpAny M A (noteFrame (.ref a) env) Q E s:=by
 obtain⟨⟨t,ha⟩,j5,oT,ts,hT,hd,h3⟩:=he
 unfold noteFrame
 simp only [hf]
 refine wpAny_bind (wpAny_field ha rfl (x:=.ref T) rfl ?_)
 rw [if_pos (show (Value.ref T != Value.none)=true from by simp)]
 refine wpAny_bind (wpAny_field hT hd h3 ?_)
 rw [if_neg (show ¬ ((Value.none == rawInt L)=true) from by simp [rawInt])]
 refine wpAny_bind (wpAny_setField hT hd (Array.getElem?_eq_some_iff.mp h3).1 ?_)
 have J4:∀b,b≠T->(s.heap.update T (Obj.mapFields (·.setIfInBounds 3 Value.none))).get? b=s.heap.get? b:=λb hb=>Heap.get?_update_other _ _ (Ne.symm hb)
 have nr:∀b o,s.heap.get? b=some o->(∀vs,o.data≠.fields vs)->b≠T:=λb o hb J1 q=>by
  rw [q,hT] at hb;cases hb;exact J1 ts hd
 refine sG (s:={s with heap:=s.heap.update T (Obj.mapFields (·.setIfInBounds 3 Value.none))}) jX (hl.of_keeps λb o hb J1=>⟨o,(J4 b (nr b o hb J1)).trans hb,rfl⟩) hf ((J4 a (Ne.symm j5)).trans ha) λh' T' f1 Ur f2 f3=>?_
 refine h h' T' ?_ ?_ f2 ⟨λb o e hb h1 h2=>f3.keep b o ((J4 b h2).trans e) hb h1 h1,λb o e hb h1 h2=>f3.slot b o ((J4 b h2).trans e) hb h1 h1⟩
 ·by_cases q:T'=T
  ·rw [q] at f1
   have z:=Heap.get?_update_self (Obj.mapFields (·.setIfInBounds 3 Value.none)) hT (Obj.isFreed_of_fields (Obj.data_mapFields hd _))
   rw [z] at f1
   cases f1
  ·exact (J4 T' q).symm.trans f1
 ·have z:=Heap.size_after_update s.heap T (Obj.mapFields (·.setIfInBounds 3 Value.none))
  exact Nat.le_trans (Nat.le_of_eq z.symm) Ur
theorem Dk{fl:Value}(he:Ex s.heap a C T fl)(h:∀h',Ex h' a C T .none->Heap.SameBut T s.heap h'->Q () {s with heap:=h'}):wpAny M A (setFlight (.ref a) none) Q E s:=by
 obtain⟨⟨t,ha⟩,j5,oT,ts,hT,hd,h3⟩:=he
 have hz:3<ts.size:=(Array.getElem?_eq_some_iff.mp h3).1
 unfold setFlight
 refine wpAny_bind (wpAny_field ha rfl (x:=.ref T) rfl ?_)
 rw [if_pos (show (Value.ref T != Value.none)=true from by simp)]
 refine wpAny_setField hT hd hz (h _ ⟨⟨t,(Heap.get?_update_other _ _ j5).trans ha⟩,j5,_,_,Heap.get?_update_self _ hT (Obj.isFreed_of_fields (Obj.data_mapFields hd _)),Obj.data_mapFields hd _,by simp [hz]⟩ (Heap.SameBut.update ..))
end
theorem oS:entryFor table "proto.unchain"=some Builtin.«proto.unchain»:=entryFor_of_tree (by kernel_rfl)
section
variable {prog:Program} {w:World} {A:Around} {E:Value->Shared->Prop} {s:Shared} {e C t:Addr} {tb:Value}
theorem uX{x:Value}{Q:Value->Shared->Prop}(he:s.heap.get? e=some (lA C t tb))(h:Q .none s) :
  wpAny (model prog w) A (runValue (.builtin "proto.unchain" ⟨[x,.ref e,.ref e,.bool false],[]⟩)) Q E s:=by
 refine wpAny_runValue (codeAny_builtin oS ?_)
 unfold Builtin.«proto.unchain»
 refine wpAny_bind (wpAny_field he rfl (x:=.none) rfl ?_)
 show wpAny (model prog w) _ (if (Value.none == Value.none)=true then (ret .none:Sem Fin) else _) _ _ _
 rw [if_pos (by decide)]
 exact wpAny_pure h
theorem AF{α:Type}{x:Addr}{ox:Obj}{vs:Array Value}{Q:α->Shared->Prop}(hh:A.handled=some (.ref e))(he:s.heap.get? e=some (lA C t tb))(hx:s.heap.get? x=some ox)(hd:ox.data=.fields vs)(hz:2<vs.size)(j5:e≠x)
  (h:E (.ref x) {s with heap:=s.heap.update x (Obj.mapFields (·.setIfInBounds 2 (.ref e)))}):wpAny (model prog w) A (raiseNew (.ref x):Sem α) Q E s:=by
 unfold raiseNew
 refine wpAny_bind (wpAny_handled ?_)
 rw [hh]
 show wpAny _ _ (if (Value.ref e != Value.ref x)=true then _ else _) _ _ _
 rw [if_pos (by simp [j5])]
 refine wpAny_bind (wpAny_holding (uX he ?_))
 exact wpAny_bind (wpAny_setField (M:=model prog w) (A:=A) (E:=E) (x:=.ref e) hx hd hz (wpAny_throw h))
theorem uY{it tp:Addr}{i:Nat}{items}{Q:Option Value->Shared->Prop}(hh:A.handled=some (.ref e))(he:s.heap.get? e=some (lA C t tb))(j5:e≠it)
  (hit:s.heap.IsTupleIter it tp i) (ht:s.heap.IsTuple tp items) (hx:items[i]?=none)
  (hQ:∀h',Heap.ExtBut it s.heap h'->Q none {s with heap:=h'}):wpAny (model prog w) A (pyNext (.ref it)) Q E s:=by
 obtain⟨o,ho,hc,hd⟩:=id hit
 obtain⟨ol,Mn,_,nl,J5⟩:=ht
 unfold pyNext
 refine wpAny_bind (wpAny_attempt (wpAny_callSpecial?_slot (name:=Str.ofString "__next__") hit.typeIs F.slot_tuple_iterator_next (wpAny_call_entry F.slot_tuple_iterator_next hit.typeIs F.entry_tuple_iterator_next ?_ (F.args_tuple_iterator_next_1 _))))
 show wpAny _ _ (field (.ref it) 0 >>= _) _ _ s
 refine wpAny_bind (wpAny_field ho hd (x:=.ref tp) rfl ?_)
 show wpAny _ _ (if (Value.ref tp == Value.none)=true then _ else _) _ _ s
 rw [if_neg (show ¬ ((Value.ref tp == Value.none)=true) from Bool.false_ne_true)]
 show wpAny _ _ (field (.ref it) 1 >>= _) _ _ s
 refine wpAny_bind (wpAny_field ho hd (x:=.int i 0) rfl ?_)
 show wpAny _ _ (seqItems? (.ref tp) >>= _) _ _ s
 refine wpAny_bind (wpAny_seqItems Mn J5 ?_)
 simp only [Int.toNat_natCast,hx]
 refine wpAny_bind (wpAny_rule (wpAny_bind (wpAny_setField ho hd (by simp) ?_)))
 show wpAny _ _ (newExc (.type "StopIteration") [] >>= _) _ _ _
 refine wpAny_bind ?_
 simp only [newExc,newTuple]
 refine wpAny_bind (wpAny_newObj_type ?_ (by size_fits))
 refine wpAny_bind (m:=firstArgMember _ _) (wpAny_of_eq (a:=Value.none) (by first|rfl|(simp only [firstArgMember];rfl)) ?_)
 refine wpAny_newObj_type ?_ (by size_fits)
 have k1:∀{h1:Heap} {ob:Obj},h1.get? e=some (lA C t tb)->(h1.push ob).get? e=some (lA C t tb):=λq=>Heap.get?_push_of_some _ q
 have k0:(s.heap.update it (Obj.mapFields (·.setIfInBounds 0 Value.none))).get? e=some (lA C t tb):=(Heap.get?_update_other _ _ (Ne.symm j5)).trans he
 refine AF (C:=C) (t:=t) (tb:=tb) (e:=e) hh (k1 (k1 k0)) (Heap.get?_push_size _ rfl) rfl (by simp [ownMembersOf]) (Nat.ne_of_lt (Heap.lt_size (k1 k0))) ?_
 refine wpAny_bind (wpAny_isInstance (T:="StopIteration") (b:=true) ⟨_,Heap.get?_update_self _ (Heap.get?_push_size _ rfl) rfl,rfl⟩ isSubtype_stop ?_)
 refine wpAny_pure (hQ _ ?_)
 intro b o hb q
 have q1:(s.heap.update it (Obj.mapFields (·.setIfInBounds 0 Value.none))).get? b=some o:=(Heap.get?_update_other _ _ (Ne.symm hb)).trans q
 have q2:=Heap.get?_push_of_some ({cls:=.type "tuple",data:=.seq #[]}:Obj) q1
 exact (Heap.get?_update_other _ _ (Ne.symm (Nat.ne_of_lt (Heap.lt_size q2)))).trans (Heap.get?_push_of_some _ q2)
end
theorem cZ.there{P:Program}{w:World}{H:Hp}{h:Heap}{a:Addr}{o:HO}(x:cZ P w H h a o):∃ob,h.get? a=some ob:=by
 cases o with
 |lst xs=>obtain⟨_,_,_,_,e⟩:=x;exact⟨_,e⟩
 |tup xs=>obtain⟨_,_,_,o,e,_⟩:=x;exact⟨_,e⟩
 |dK kvs=>obtain⟨_,_,_,_,o,_,_,e,_⟩:=x;exact⟨_,e⟩
 |dT kvs=>obtain⟨_,_,_,_,o,_,_,e,_⟩:=x;exact⟨_,e⟩
 |set S n=>obtain⟨o,_,_,_,e,_⟩:=x;exact⟨_,e⟩
 |ins C dx fs=>obtain⟨_,_,_,e,_⟩:=x;exact⟨_,e⟩
 |own y=>exact x
 |xd fs=>obtain⟨_,⟨o,_,_,e,_⟩,_⟩:=x;exact⟨_,e⟩
 |LQ lo hi=>obtain⟨_,_,_,e⟩:=x;exact⟨_,e⟩
 |uk ob u=>obtain⟨e,_⟩:=x;exact⟨_,e⟩
 |ED ps=>exact⟨_,(show h.get? a=some _ from x)⟩
 |met f y=>exact⟨_,(show h.get? a=some _ from x)⟩
 |ext φ=>exact x.2.1
theorem il.none_of{P:Program}{w:World}{H:Hp}{h:Heap}{a:Addr}(x:il P w H h)(e:h.get? a=none):H a=none:=by
 cases q:H a with
 |none=>rfl
 |some o=>
  obtain⟨ob,z⟩:=(x a o q).there
  rw [e] at z;cases z
theorem il.keep{P:Program}{w:World}{H:Hp}{h h':Heap}(x:il P w H h)(k:∀b u o,H b=some u->h.get? b=some o->h'.get? b=some o):il P w H h':=λa o e=>
 (x a o e).ng (λb u hb q=>by
  rcases hb with rfl|hb
  ·exact k _ _ _ e q
  ·exact k _ _ _ hb q) (λ_ q=>q) λ_ _ q=>q
structure Fl (P:Program) (w:World) (l:List Env) (H:Hp) (s:Shared) (H':Hp) (a C:Addr) (fl:Value) (s':Shared):Prop where
 os:s'.os=s.os
 bare:AllBare s'.gens
 un:Un (nq l) [] H H' s.heap s'.heap
 cw:il P w H' s'.heap
 na:H' a=none
 new:s.heap.get? a=none
 ex:∃T,Ex s'.heap a C T fl/\H' T=none/\s.heap.get? T=none
def Dl(P:Program)(w:World):pw:=λl H s E e s'=>∃a C H',e=.ref a/\Fl P w l H s H' a C .none s'/\E (.ref C) none H'
section
variable {X:Cx} {pins:List (Addr×Obj)} {σ:St} {H H':Hp} {s s':Shared} {a C:Addr} {fl:Value}
theorem Fl.inv(I:Inv X pins σ H s)(f:Fl X.prog X.w X.stack H s H' a C fl s'):Inv X pins σ H' s':=I.EH (ch:= []) f.os f.un f.cw f.bare (λb hb=>absurd hb (by simp))
theorem Fl.Mo(I:Inv X pins σ H s)(f:Fl X.prog X.w X.stack H s H' a C fl s'):∀b∈nq X.stack,H' b=none:=λb hb=>by
 obtain⟨_,o,ho,_⟩:=I.stack.mem hb
 exact f.un.free b o ho (I.mE b hb) (by simp)
theorem Fl.move{l:List Env}{RT:Value}{T T':Addr}{h':Heap}(f:Fl X.prog X.w l H s H' a C fl s')(jX:∀b∈nq l,H' b=none)(hT:H' T=none)(E3:s.heap.get? T=none)(m:Mv (nq l) a T s'.heap h')
  (e:Ex h' a C T' RT) (II:H' T'=none) (N1:s.heap.get? T'=none):Fl X.prog X.w l H s H' a C RT {s' with heap:=h'} where
 os:=f.os
 bare:=f.bare
 un:=by
  have na:∀b o,s.heap.get? b=some o->b≠a:=λb o q z=>by rw [z,f.new] at q;cases q
  have nT:∀b o,s.heap.get? b=some o->b≠T:=λb o q z=>by rw [z,E3] at q;cases q
  refine⟨λb o q n hb hx=>m.keep b o (f.un.keep b o q n hb hx) hb (na b o q) (nT b o q),λb o q n hb hx=>?_,f.un.free,λb o q hx=>?_,f.un.ni,f.un.mq,f.un.nj⟩
  ·obtain⟨sl,q1⟩:=f.un.slot b o q n hb hx
   obtain⟨Jj,q2⟩:=m.slot b _ q1 hb (na b o q) (nT b o q)
   exact⟨Jj,q2⟩
  ·obtain⟨o',q1⟩:=f.un.there b o q hx
   obtain⟨sl,q2⟩:=m.any q1 (na b o q) (nT b o q)
   exact⟨_,q2⟩
 cw:=f.cw.keep λb u o e q=>m.keep b o q (λz=>by rw [jX b z] at e;cases e) (λz=>by rw [z,f.na] at e;cases e) (λz=>by rw [z,hT] at e;cases e)
 na:=f.na
 new:=f.new
 ex:=⟨T',e,II,N1⟩
theorem Fl.fresh{l:List Env}{T':Addr}(f:Fl X.prog X.w l H s H' a C fl s')(hn:s'.heap.get? T'=none)(hs:s'.heap.objs.size<=T'):H' T'=none/\s.heap.get? T'=none:=by
 refine⟨f.cw.fresh hs,?_⟩
 cases q:s.heap.get? T' with
 |none=>rfl
 |some o=>
  obtain⟨o',z⟩:=f.un.there T' o q (by simp)
  rw [hn] at z;cases z
theorem Fl.ib(I:Inv X pins σ H s)(f:Fl X.prog X.w X.stack H s H' a C fl s'):s'.heap.FunFrames X.base X.stack:=(f.inv I).stack
variable {M:Model} {A:Around} {E:Value->Shared->Prop} {Q:Unit->Shared->Prop}
theorem Fl.note{outer:List Env}(I:Inv X pins σ H s)(LV:X.stack=X.env::outer)(hf:X.env.frame=some X.env.locals)(jX:A.frames=some X.stack)(f:Fl X.prog X.w X.stack H s H' a C .none s')
  (h:∀yq,Fl X.prog X.w X.stack H s H' a C (rawInt X.env.locals) yq->Q () yq):wpAny M A (noteFrame (.ref a) X.env) Q E s':=by
 obtain⟨T,e,hT,E3⟩:=f.ex
 have hl:=f.ib I
 have fm:∀b∈nq X.stack,H' b=none:=f.Mo I
 rw [LV] at jX hl
 refine J3 jX hl hf e λh' T' n1 n2 e' m=>h _ ?_
 obtain⟨g1,g2⟩:=f.fresh n1 n2
 exact f.move fm hT E3 (by rw [LV];exact m) e' g1 g2
theorem Fl.land{l:List Env}(f:Fl X.prog X.w l H s H' a C fl s')(jX:∀b∈nq l,H' b=none)(h:∀yq,Fl X.prog X.w l H s H' a C .none yq->Q () yq):wpAny M A (setFlight (.ref a) none) Q E s':=by
 obtain⟨T,e,hT,E3⟩:=f.ex
 exact Dk e λh' e' sb=>h _ (f.move jX hT E3 ⟨λb o q _ _ hb=>(sb.2 b hb).trans q,λb o q _ _ hb=>⟨o.slots,(sb.2 b hb).trans q⟩⟩ e' hT E3)
theorem Fl.out(I:Inv X pins σ H s)(hx:X.ex = [])(f:Fl X.prog X.w X.stack H s H' a C fl s'):Fl X.prog X.w X.outer X.H₀ X.s₀ H' a C fl s':=by
 have J:=f.inv I
 have old:∀b,s.heap.get? b=none->X.s₀.heap.get? b=none:=λb q=>by
  cases z:X.s₀.heap.get? b with
  |none=>rfl
  |some o=>
   obtain⟨o',y⟩:=I.base.there b o z (by rw [hx];simp)
   rw [q] at y;cases y
 obtain⟨T,e,hT,E3⟩:=f.ex
 have un:=J.base
 rw [hx] at un
 exact⟨J.os,J.bare,un,J.cw,f.na,old _ f.new,T,e,hT,old _ E3⟩
end
structure J7 (X:Cx):Prop where
 st:X.stack=X.env::X.outer
 fr:X.env.frame=some X.env.locals
 ex:X.ex = []
def kP(X:Cx)(E:XK):Prop:=∀e s',wpAny (model X.prog X.w) X.A (leaving X.env e) (λ_ yq=>Dl X.prog X.w X.outer X.H₀ X.s₀ E e yq) (λe' yq=>Dl X.prog X.w X.outer X.H₀ X.s₀ E e' yq) s'->X.xe e s'
theorem kP.pass{X:Cx}{E:XK}(fr:J7 X)(o:kP X E):Passes (Dl X.prog X.w) X E:=by
 intro pins σ H s e s' I h
 obtain⟨a,C,H',rfl,f,q⟩:=h
 refine o _ _ ?_
 unfold leaving
 refine wpAny_bind (f.note I fr.st fr.fr I.ok.frames λs2 f2=>?_)
 refine f2.land (f2.Mo I) λs3 f3=>?_
 exact⟨a,C,H',rfl,f3.out I fr.ex,q⟩
theorem kP.made{X:Cx}{E:XK}{pins:List (Addr×Obj)}{σ:St}{H:Hp}{s:Shared}{h':Heap}{a C:Addr}{vs:List Value}(fr:J7 X)(o:kP X E)(I:Inv X pins σ H s)(m:Heap.MadeExcOf s.heap h' a (.ref C) vs)(q:E (.ref C) none H) :
  X.xe (.ref a) {s with heap:=h'}:=by
 refine o _ _ ?_
 obtain⟨t,ha,Mp,ht⟩:=m.there
 have J:Inv X pins σ H {s with heap:=h'}:=I.kept (t':=s.toks) m.keeps
 have fm:∀b∈nq X.stack,H b=none:=J.mE
 unfold leaving
 have hl:=J.stack
 have jX:=J.ok.frames
 rw [fr.st] at hl jX
 have hn:H a=none:=I.cw.none_of m.new
 have gone:∀b,h'.get? b=none->s.heap.get? b=none:=λb q=>by
  cases z:s.heap.get? b with
  |none=>rfl
  |some o=>rw [m.keeps b o z] at q;cases q
 refine wpAny_bind (J2 (s:={s with heap:=h'}) jX hl fr.fr ha λh2 T n1 n2 e mv=>?_)
 have hT:H T=none:=J.cw.fresh n2
 have f:Fl X.prog X.w X.stack H s H a C (rawInt X.env.locals) {s with heap:=h2}:=by
  have na:∀b o,s.heap.get? b=some o->b≠a:=λb o q z=>by rw [z,m.new] at q;cases q
  have Mq:Mv (nq X.stack) a a h' h2:=by rw [fr.st];exact mv
  refine⟨rfl,J.bare,⟨λb o q n hb hx=>Mq.keep b o (m.keeps b o q) hb (na b o q) (na b o q),λb o q n hb hx=>Mq.slot b o (m.keeps b o q) hb (na b o q) (na b o q),λb o _ n _=>n,λb o q _=>?_,λ_ _ q=>q,λ_ _ _ q=>q,λ_ ps q=>⟨#[],by rw [q];simp⟩⟩,?_,hn,m.new,T,e,hT,gone T n1⟩
  ·obtain⟨sl,q2⟩:=Mq.any (m.keeps b o q) (na b o q) (na b o q)
   exact⟨_,q2⟩
  ·exact J.cw.keep λb u o e q=>Mq.keep b o q (λz=>by rw [fm b z] at e;cases e) (λz=>by rw [z,hn] at e;cases e) (λz=>by rw [z,hn] at e;cases e)
 refine f.land fm λs3 f3=>?_
 exact⟨a,C,H,rfl,f3.out I fr.ex,q⟩
abbrev sH:List Value:= [.type "ValueError",.type "Exception",.type "BaseException",.type "object"]
def qC(K:PySem.W.Frag)(C:Addr):Prop:=PySem.W.excIn K C sH "ValueError.__new__"=true
theorem Dm{K:PySem.W.Frag}{h:Heap}{C:Addr}(X:K.In h)(q:qC K C) :
  ∃bm N nm qn bs hdct sn sub ab col dd k0 k1 k2 k3 k5 mN,h.get? C=some (excClassObj nm qn C N bs bm hdct sn sub ab col dd k0 k1 k2 k3 k5 "ValueError.__new__")/\h.Ns N mN/\mN "__init__"=none/\OwnTail h sH bm:=by
 unfold qC PySem.W.excIn at q
 split at q
 ·rename_i dd cd sl ho
  split at q
  ·rename_i C' bm k0 k1 k2 k3 n k5 hm hs
   simp only [Bool.and_eq_true,beq_iff_eq,Bool.not_eq_true'] at q
   obtain⟨⟨⟨⟨⟨rfl,rfl⟩,J8⟩,ht⟩,cw⟩,IJ⟩:=q
   obtain⟨nm,bs,mro,ns,qn,hd,sn,sub,ab,col,del⟩:=cd
   dsimp only at hm J8 cw IJ
   subst hm J8
   obtain⟨l⟩:=sl
   dsimp only at hs
   subst hs
   exact⟨bm,ns,nm,qn,bs,hd,sn,sub,ab,col,dd,k0,k1,k2,k3,k5,_,X _ _ ho,.of_isNs (PySem.W.isNs_of_in X cw),PySem.W.nsMap_none_of_in X cw IJ,PySem.W.tail_of_in X ht⟩
  ·cases q
 ·cases q
def Gx(E:XK)(C:Addr)(te:TE):TS:=λ_ σ H=>te σ H λ_ H1=>E (.ref C) none H1
theorem fk{X:Cx}{E:XK}{x:Str}{C:Addr}{e0:Expr}{te:TE}{np gO pos:Pos}(fr:J7 X)(o:kP X E)(hc:X.calm=true)(hg:Gl X x)(hm:X.mg x=some (.ref C))(hK:qC X.K C)(he:PE X e0 te)
  (gM:gE e0=true:=by rfl) (hd:(x == ("__debug__":Str))=false:=by decide):PS X (.Raise (some (.Call (.Name x np) [e0] [] gO)) none pos) (Gx E C te):=by
 intro pins s σ H D I h
 obtain⟨bm,N,nm,qn,bs,hdct,sn,sub,ab,col,dd,k0,k1,k2,k3,k5,mN,hC,hN,IJ,T⟩:=Dm I.mod.Ct hK
 have hs:=ej (es:= []) (env:=X.env) gM
 refine wpAny_Raise_call_subT (C:=C) (nm:=nm) (q:=qn) (N:=N) (bs:=bs) (bm:=bm) (hdct:=hdct) (sn:=sn) (sub:=sub) (ab:=ab) (col:=col) (dd:=dd) (k0:=k0) (k1:=k1) (k2:=k2) (k3:=k3) (k5:=k5)
  PySem.F.excBase_ValueError (mN:=mN) (T.hasType (by decide)) (I.ok.hd hc) (by rw [hs];rfl) IJ (iI I hg hm ⟨rfl,?_⟩ hd)
 rw [hs]
 refine Calls.evalArgs_plain (Calls.spliced_cons (cI (he pins s σ H _ I h) λv s2 ⟨y,H1,I1,r,q⟩=>?_))
 exact Calls.spliced_nil ⟨rfl,(by show 1<=sizeLine;decide),I1.bk _ _ hC,hN.keeps I1.bk,T.keeps I1.bk,λh' e m=>o.made fr I1 m q⟩
structure lL (P:Program) (w:World) (K:PySem.W.Frag) (mg:Str->Option Value) (base:Heap) (k:Nat) (x:Str) (ps:List Str) (sp:Sp):Prop where
 ex:∃(f:Addr) (fd:FuncData),g7 P w K mg base (Dl P w) k f fd ps sp/\mg x=some (.ref f)/\PySem.W.keepIn K (.ref f)=true/\Binds K fd ps []
section
variable {P:Program} {w:World} {K:PySem.W.Frag} {mg:Str->Option Value} {base:Heap} {x:Str} {st:Stmt} {ps N:List Str} {k j:Nat} {sp F1:Sp}
theorem Src.Mr(S:Src K mg x st ps)(F:aO N ps (ao st))(len:∀vs H Q E,sp vs H Q E->vs.length=ps.length)
  (jj:∀(f:Addr) (cD:Value) (A:Around) (outer:List Env) (s:Shared) (H:Hp) (vs:List V) (Q:VK) (E:XK),fe k (A.deeper (envOfC x (ao st) s.heap.objs.size f cD))->sp vs H Q E ->
   ∃t,gi (kE (Dl P w) P w K mg base N x (ao st) f cD A outer s H E) (dv st) t/\t {nx:=λ_ H'=>Q .eh H',rt:=Q} (start N vs) H):lL P w K mg base (k+1) x ps sp:=by
 obtain⟨f,fd,F0,hm,hb⟩:=S.ex
 obtain⟨oc,od,kV,doc,pm,an,cD,ct,uC,rfl,lk,rL⟩:=F0.ex
 exact⟨f,_,ES lk rL F len λA outer s H vs Q E hr wI=>jj f cD A outer s H vs Q E hr wI,hm,F0.kp,hb⟩
theorem lL.mono(D:lL P w K mg base j x ps sp)(h:j<=k):lL P w K mg base k x ps sp:=by
 obtain⟨f,fd,F,r⟩:=D.ex
 exact⟨f,fd,F.mono h,r⟩
theorem fY{CX:pw}{s:Shared}{H:Hp}{E:XK}{f:Addr}{cD:Value}{A:Around}{outer:List Env}{sc:Scope}:J7 (kE CX P w K mg base N x sc f cD A outer s H E):=⟨rfl,rfl,rfl⟩
theorem fZ{s:Shared}{H:Hp}{E:XK}{f:Addr}{cD:Value}{A:Around}{outer:List Env}{sc:Scope}:kP (kE (Dl P w) P w K mg base N x sc f cD A outer s H E) E:=λ_ _ h=>h
end
def AG(sp:Sp)(E:XK)(t:TA):TE:=λσ H Q=>t σ H λvs H1=>sp vs H1 Q E
theorem mP{X:Cx}{k:Nat}{x:Str}{ps:List Str}{sp:Sp}{E:XK}{p pos:Pos}{e:Expr}{es:List Expr}{t:TA}(D:lL X.prog X.w X.K X.mg X.base k x ps sp)(hr:fe k X.A)(hp:Passes (Dl X.prog X.w) X E)(hg:Gl X x)(ha:PA X (e::es) t)
  (qm:(x == ("__debug__":Str))=false:=by decide) (gM:(e::es).all gE=true:=by rfl):PE X (.Call (.Name x p) (e::es) [] pos) (AG sp E t):=by
 obtain⟨f,fd,F,hm,hk,hb⟩:=D.ex
 intro pins s σ H Q I h
 rw [List.all_cons,Bool.and_eq_true] at gM
 have q:=wH (p:=p) (pos:=pos) F hr hg hm hk hb .nil hp ha qm (ej gM.1) (gz gM.2) pins s σ H Q I
 refine q ?_
 have e2:rQ sp [] E t=AG sp E t:=by
  funext σ H Q
  unfold rQ AG
  simp only [List.append_nil]
 rw [e2]
 exact h
theorem Cx.Ok.N2{X:Cx}(ok:X.Ok)(pl:List (Addr×Obj))(E:Value->Shared->Prop):Cx.Ok {X with pn:=pl,xe:=E}:=
 ⟨ok.mod,ok.kind,ok.glob,ok.blt,ok.above,ok.inj,ok.has,ok.EE,ok.hd,ok.frames,ok.FK,ok.Cb,ok.bs,ok.wy,ok.qg,ok.rK,ok.ib,ok.zR⟩
abbrev Cx.tr (X:Cx) (pn:List (Addr×Obj)) (E1:XK):Cx:={X with pn:=pn,xe:=λe s'=>∃σ H s,Inv {X with pn:=pn} [] σ H s/\Dl X.prog X.w X.stack H s E1 e s'}
theorem Dn{X:Cx}{pn:List (Addr×Obj)}{E1:XK}:Passes (Dl X.prog X.w) (X.tr pn E1) E1:=by
 intro pins σ H s e s' I h
 refine⟨σ,H,s,?_,h⟩
 have J:Inv (X.tr pn E1) [] σ H s:=I.qi λp hp=>absurd hp (by simp)
 exact⟨J.ok.N2 pn X.xe,J.os,J.bare,J.base,J.loc,J.cell,J.free,J.gs,J.pin,J.cw,J.len⟩
abbrev Cx.hn (X:Cx) (pn:List (Addr×Obj)) (a:Addr):Cx:={X with A:=X.A.mark (some (.ref a)),calm:=false,pn:=pn,xe:=λ_ _=>False}
structure Hd (X:Cx) (a C:Addr):Prop where
 hd:X.A.handled=some (.ref a)
 pn:∃t tb,(a,lA C t tb)∈X.pn
section
variable {X:Cx} {pins pn:List (Addr×Obj)} {σ:St} {H H':Hp} {s s':Shared} {a C:Addr}
theorem Inv.N3(I:Inv X pins σ H s)(E:Value->Shared->Prop):Inv {X with pn:=X.pn++pins,xe:=E} [] σ H s:=
 ⟨I.ok.N2 _ _,I.os,I.bare,I.base,I.loc,I.cell,I.free,I.gs,λp hp=>I.pin p (by simpa using hp),I.cw,I.len⟩
theorem Inv.uZ{E:Value->Shared->Prop}(ok:X.Ok)(I:Inv {X with pn:=X.pn++pins,xe:=E} [] σ H s):Inv X pins σ H s:=
 ⟨ok,I.os,I.bare,I.base,I.loc,I.cell,I.free,I.gs,λp hp=>I.pin p (by simpa using hp),I.cw,I.len⟩
theorem Inv.N4{oe:Obj}(I:Inv {X with pn:=pn} [] σ H s)(ho:s.heap.get? a=some oe)(hn:H a=none)(hl:a≠X.env.locals)(hf:a∉X.fs)(hc:∀v,oe.data≠.cell v):Inv (X.hn ((a,oe)::pn) a) [] σ H s:=by
 refine⟨⟨I.ok.mod,I.ok.kind,I.ok.glob,I.ok.blt,I.ok.above,I.ok.inj,I.ok.has,I.ok.EE,λz=>(Bool.false_ne_true z).elim,I.ok.frames,I.ok.FK,I.ok.Cb,I.ok.bs,I.ok.wy,I.ok.qg,I.ok.rK,I.ok.ib,I.ok.zR⟩,I.os,I.bare,I.base,I.loc,I.cell,I.free,I.gs,λp hp=>?_,I.cw,I.len⟩
 have Dp:p∈(a,oe)::pn:=by simpa using hp
 rcases List.mem_cons.mp Dp with rfl|Dp
 ·exact⟨ho,hn,hl,hf,hc⟩
 ·exact I.pin p (by simpa using Dp)
theorem Inv.N5{oe:Obj}(ok:Cx.Ok {X with pn:=pn})(I:Inv (X.hn ((a,oe)::pn) a) [] σ H s):Inv {X with pn:=pn} [] σ H s:=
 ⟨ok,I.os,I.bare,I.base,I.loc,I.cell,I.free,I.gs,λp hp=>I.pin p (by
  have Dp:p∈pn:=by simpa using hp
  simpa using Or.inr Dp),I.cw,I.len⟩
theorem Inv.N6{i:Nat}{n:Str}{h':Heap}{v:Option Value}{m:Str->Option Value}{tk:Nat}(I:Inv X pins σ H s)(hN:X.N.Nodup)(hi:X.N[i]?=some n)(hl:X.env.kindOf n=some .local)(hn:s.heap.Ns X.env.locals m)
  (Cv:h'.Ns X.env.locals (λx=>if x=n then v else m x)) (hs:Heap.SameBut X.env.locals s.heap h'):Inv X pins (σ.set i none) H {s with heap:=h',toks:=tk}:=by
 obtain⟨m1,Us,oM⟩:=id I.loc
 have e1:m1=m:=by
  funext x
  obtain⟨o,es,ep,ho,hd,_,hf⟩:=Us
  obtain⟨o',zD,LU,wz,oK,_,E4⟩:=hn
  rw [ho] at wz;cases wz
  rw [hd] at oK;cases oK
  rw [<-hf,<-E4]
 subst e1
 have ln:∀{b:Addr} {o:Obj},X.s₀.heap.get? b=some o->b≠X.env.locals:=λq=>Nat.ne_of_lt (Nat.lt_of_lt_of_le (Heap.lt_size q) I.ok.above)
 refine⟨I.ok,I.os,I.bare,⟨λb o q n hb hx=>(hs.2 b (ln q)).trans (I.base.keep b o q n hb hx),λb o q n hb hx=>?_,I.base.free,λb o q hx=>?_,I.base.ni,I.base.mq,I.base.nj⟩,⟨_,Cv,λj y v' q1 q2 q3=>?_⟩,λy c q=>?_,I.free,I.gs,λp hp=>?_,I.cw.keep λb u o q z=>?_,by simpa using I.len⟩
 ·obtain⟨sl,z⟩:=I.base.slot b o q n hb hx
  exact⟨sl,(hs.2 b (ln q)).trans z⟩
 ·obtain⟨o',z⟩:=I.base.there b o q hx
  exact⟨o',(hs.2 b (ln q)).trans z⟩
 ·by_cases hj:j=i
  ·subst hj
   rw [List.getElem?_set] at q2
   split at q2
   ·split at q2<;>cases q2
   ·exact absurd rfl (by assumption)
  ·rw [List.getElem?_set_ne (Ne.symm hj)] at q2
   obtain⟨u,r,z⟩:=oM j y v' q1 q2 q3
   refine⟨u,r,?_⟩
   rcases z with ⟨k,z⟩|⟨k,c,z1,z2⟩
   ·have:y≠n:=λz=>hj (nu hN q1 (z▸hi))
    exact .inl ⟨k,by simp [this,z]⟩
   ·exact .inr ⟨k,c,z1,z2.sameBut hs (I.Cu y c z1)⟩
 ·obtain⟨v',z⟩:=I.cell y c q
  exact⟨v',z.sameBut hs (I.Cu y c q)⟩
 ·obtain⟨z1,z2,z3,z4,z5⟩:=I.pin p hp
  exact⟨(hs.2 p.1 z3).trans z1,z2,z3,z4,z5⟩
 ·exact (hs.2 b (λy=>by rw [y,I.free] at q;cases q)).trans z
end
structure Gy (K:PySem.W.Frag) (R:Addr):Prop where
 ty:PySem.W.typeIn K (.ref R)=some (.type "type")
 cl:(PySem.W.clsIn K R).isSome=true
 ba:PySem.W.subIn K (.ref R) (.type "BaseException")=some true
theorem pL{K:PySem.W.Frag}{M:Model}{h:Heap}{R:Addr}(X:K.In h)(q:(PySem.W.clsIn K R).isSome=true):PySem.W.Looks M h (isType (.ref R)) true:=by
 unfold PySem.W.clsIn at q
 split at q
 ·rename_i c' d' Ut Jj ho
  intro A' Q' E' s' k z
  unfold isType loadHead
  exact wpAny_bind (wpAny_loadPart (k _ _ (X _ _ ho)) (wpAny_pure z))
 ·cases q
theorem Dq{K:PySem.W.Frag}{M:Model}{A:Around}{E:Value->Shared->Prop}{Q:Bool->Shared->Prop}{s:Shared}{a C R:Addr}{oe:Obj}(X:K.In s.heap)(hR:Gy K R)(ha:s.heap.get? a=some oe)(hc:oe.cls=.ref C)
  (h4:PySem.W.subIn K (.ref C) (.ref R)=some true) (q:Q true s):wpAny M A (excMatches (.ref a) (.ref R)) Q E s:=by
 obtain⟨h,g,d,tk,os⟩:=s
 have L1:PySem.W.Looks M h (typeOf (.ref R)) (.type "type"):=PySem.W.looks_typeIn X hR.ty
 have L2:PySem.W.Looks M h (isSubtype (.ref R) (.type "BaseException")) true:=PySem.W.looks_subIn X hR.ba
 have L3:PySem.W.Looks M h (isType (.ref R)) true:=pL X hR.cl
 have L4:PySem.W.Looks M h (isSubtype (.ref C) (.ref R)) true:=PySem.W.looks_subIn X h4
 have L5:PySem.W.Looks M h (typeOf (.ref a)) (.ref C):=hc▸(PySem.W.Looks.ld ha).andThen .now
 have L6:PySem.W.Looks M h (isInstance (.ref R) (.type "tuple")) false:=L1.andThen (PySem.W.Looks.of_pure tc_notTuple)
 have L7:PySem.W.Looks M h (isExcClass (.ref R)) true:=L3.andThen L2
 unfold excMatches
 refine wpAny_bind (L6.at ?_)
 dsimp only
 rw [if_neg (by decide)]
 refine wpAny_bind (wpAny_pure ?_)
 refine wpAny_bind ?_
 rw [List.forIn_cons]
 refine wpAny_bind (wpAny_bind (L7.at ?_))
 rw [if_neg (by decide)]
 refine wpAny_pure ?_
 dsimp only
 rw [List.forIn_nil]
 refine wpAny_pure ?_
 refine wpAny_bind (L5.at ?_)
 refine wpAny_bind ?_
 rw [List.forIn_cons]
 refine wpAny_bind (wpAny_bind (L4.at ?_))
 rw [if_pos rfl]
 refine wpAny_pure ?_
 dsimp only
 exact wpAny_pure (wpAny_pure q)
def oU(e:Int×Value):Str:=strOf e.2
def jo(P:Program)(w:World)(h:Heap)(a:Addr)(ws:List Str):Prop:=
 ∃(o:Obj) (es:Array (Int×Value)) (ep:Nat) (t:SetTable),h.get? a=some o/\o.ExactSet/\o.data=.set es ep t/\ElemsOf (PySem.strKind P w) es.toList/\(es.toList.map oU).Perm ws/\ws.Nodup /\
  es.size<scanBound/\t.fits es.size=true/\(w.params.followText "set-order"=false->t.led=true/\(es.size≠0->t.plain=false))
def iP(ws:List Str)(x:Str):List Str:=if x∈ws then ws else ws ++ [x]
theorem yC(t:SetTable)(n:Nat):(t.orStandIn n).led=t.led:=by
 unfold SetTable.orStandIn
 split<;>rfl
theorem u6(t:SetTable)(es:Array (Int×Value))(h:Int)(x:Value):(layNew t es h x).2.1.led=t.led:=by
 unfold layNew
 split
 ·dsimp only;rw [yC];rfl
 ·rfl
theorem u7{t t':SetTable}{hs:Array Int}{n:Nat}{os:Array Nat}(h:t.relaid hs n=some (t',os)):t'.led=t.led/\t'.plain=t.plain:=by
 unfold SetTable.relaid SetTable.laid at h
 cases hc:SetTable.layClean (SetTable.sizeAbove n-1) hs with
 |none=>rw [hc] at h;cases h
 |some ow=>
  rw [hc] at h
  cases h
  exact⟨rfl,rfl⟩
theorem yD(t:SetTable)(es:Array (Int×Value))(n:Nat):(relayAll t es n).2.1.led=t.led/\(t.plain=false->(relayAll t es n).2.1.plain=false):=by
 unfold relayAll
 split
 ·rename_i t' os e
  have:=u7 e
  dsimp only
  split
  ·exact⟨this.1,λh=>this.2.trans h⟩
  ·exact⟨rfl,λ_=>rfl⟩
 ·exact⟨rfl,λ_=>rfl⟩
theorem Gz{P:Program}{w:World}{es:List (Int×Value)}(zF:ElemsOf (PySem.strKind P w) es){e:Int×Value}(he:e∈es):∃t,e.2=.str (oU e) t:=by
 obtain⟨⟨k,hk,_⟩,_⟩:=zF e he
 obtain⟨t,ht⟩:=Value.isStrOf_shape hk
 exact⟨t,by unfold oU;rw [ht];rfl⟩
theorem found_iff{P:Program}{w:World}{es:List (Int×Value)}(zF:ElemsOf (PySem.strKind P w) es)(x:Str):(∃e∈es,(PySem.strKind P w).is x e.2=true)↔x∈es.map oU:=by
 constructor
 ·rintro⟨e,he,hp⟩
  obtain⟨t,ht⟩:=Value.isStrOf_shape hp
  refine List.mem_map.mpr ⟨e,he,?_⟩
  unfold oU;rw [ht];rfl
 ·intro h
  obtain⟨e,he,rfl⟩:=List.mem_map.mp h
  obtain⟨t,ht⟩:=Gz zF he
  exact⟨e,he,by rw [ht];exact strKind_is P w _ t⟩
section
variable {P:Program} {w:World} {A:Around} {E:Value->Shared->Prop} {s:Shared}
theorem stored{a:Addr}{o:Obj}{es i7:Array (Int×Value)}{ep:Nat}{t t1:SetTable}{ws:List Str}(ho:s.heap.get? a=some o)(hex:o.ExactSet)(hd:o.data=.set es ep t)
  (zF:ElemsOf (PySem.strKind P w) i7.toList) (hp:(i7.toList.map oU).Perm ws) (nd:ws.Nodup) (hb:i7.size<scanBound) (hf:t1.fits i7.size=true)
  (hl:w.params.followText "set-order"=false->t1.led=true/\(i7.size≠0->t1.plain=false)) :
  (s.heap.update a (Obj.putSet i7 t1)).get? a=some {o with data:=.set i7 (ep+1) t1}/\jo P w (s.heap.update a (Obj.putSet i7 t1)) a ws:=by
 have hg:(s.heap.update a (Obj.putSet i7 t1)).get? a=some {o with data:=.set i7 (ep+1) t1}:=by
  have q:=Heap.get?_update_self (Obj.putSet i7 t1) ho (by rw [putSet_of i7 t1 hd];rfl)
  rw [putSet_of i7 t1 hd] at q
  exact q
 exact⟨hg,_,i7,ep+1,t1,hg,hex,rfl,zF,hp,nd,hb,hf,hl⟩
theorem AH{a:Addr}{ws:List Str}{x:Str}{tk:Tok}{Q:Bool->Shared->Prop}(hS:jo P w s.heap a ws)(RU:ws.length+1<scanBound)
  (h:∀(b:Bool) (h':Heap),Heap.SameBut a s.heap h'->jo P w h' a (iP ws x)->Q b {s with heap:=h'}):wpAny (model P w) A (setAddHashed a (.str x tk) ((PySem.strKind P w).hash x)) Q E s:=by
 obtain⟨o,es,ep,t,ho,hex,hd,zF,sI,nd,hb,hf,GA⟩:=hS
 have yn:=strKind_is P w x tk
 have hlen:es.size=ws.length:=by rw [<-sI.length_eq,List.length_map,Array.length_toList]
 unfold setAddHashed setAddHashedIn
 refine wpAny_holding (wpAny_bind (wpAny_setState_of ho hd hf ?_))
 dsimp only
 rw [byScan_of (x:=.str x tk) rfl hb zF]
 simp only [↓reduceIte]
 unfold setAddByScan
 refine wpAny_bind (wpAny_bind (wpAny_rule (wpAny_bind (wpAny_setScan_of yn ho hd hf zF ?_))))
 cases hr:List.findIdx? (λe=>(PySem.strKind P w).is x e.2) es.toList with
 |some j=>
  dsimp only
  obtain⟨hj,J9,_⟩:=List.findIdx?_eq_some_iff_getElem.mp hr
  have hx:x∈ws:=sI.mem_iff.mp ((found_iff zF x).mp ⟨_,List.getElem_mem hj,J9⟩)
  refine wpAny_pure (wpAny_pure ?_)
  have q:=h false s.heap (Heap.SameBut.refl a s.heap) ⟨o,es,ep,t,ho,hex,hd,zF,by unfold iP;rw [if_pos hx];exact sI,by unfold iP;rw [if_pos hx];exact nd,hb,hf,GA⟩
  exact q
 |none=>
  dsimp only
  have hx:x∉ws:=λhx=>by
   obtain⟨e,he,hp⟩:=(found_iff zF x).mpr (sI.mem_iff.mpr hx)
   have:=List.findIdx?_eq_none_iff.mp hr e he
   rw [hp] at this
   cases this
  have ei:iP ws x=ws ++ [x]:=by unfold iP;rw [if_neg hx]
  rw [ei] at h
  have RV:(ws ++ [x]).Nodup:=List.nodup_append.mpr ⟨nd,by simp,λy hy z hz=>by
   rw [List.mem_singleton] at hz
   subst hz
   exact λe=>hx (e▸hy)⟩
  have Ka:=layNew_perm t es ((PySem.strKind P w).hash x) (.str x tk)
  have yE:=layNew_fits t es ((PySem.strKind P w).hash x) (.str x tk)
  have oM:=u6 t es ((PySem.strKind P w).hash x) (.str x tk)
  generalize layNew t es ((PySem.strKind P w).hash x) (.str x tk)=L at Ka yE oM ⊢
  obtain⟨i7,t1,AI,Uu⟩:=L
  dsimp only at Ka yE oM ⊢
  rw [Array.toList_push] at Ka
  have Kb:ElemsOf (PySem.strKind P w) i7.toList:=(zF.push yn rfl).perm Ka
  have u9:(i7.toList.map oU).Perm (ws ++ [x]):=(Ka.map oU).trans (by rw [List.map_append];exact sI.append (List.Perm.refl _))
  have Uv:i7.size=ws.length+1:=by rw [<-Array.length_toList,<-List.length_map (f:=oU),u9.length_eq,List.length_append];rfl
  have va:i7.size<scanBound:=by omega
  have gw:∀(b:Bool) {s₁:Shared} {Q':Unit->Shared->Prop},Q' () s₁->wpAny (model P w) A (match b with|true=>rule "set.scan.the-table-gave-way"|false=>pure ()) Q' E s₁:=λb s₁ Q' hq=>by
   cases b
   ·exact wpAny_pure hq
   ·exact wpAny_rule hq
  refine wpAny_bind (gw _ ?_)
  have tail:∀t2:SetTable,t2.fits i7.size=true->t2.led=t.led->t2.plain=false->wpAny (model P w) A (do
    storeSet a i7 t2
    if (!AI&&t2.tooFull)=true then do
      (match (relayAll t2 i7 (SetTable.grown i7.size)).2.2 with|true=>rule "set.scan.the-table-gave-way"|false=>pure ())
      storeSet a (relayAll t2 i7 (SetTable.grown i7.size)).1 (relayAll t2 i7 (SetTable.grown i7.size)).2.1
      pure (some true)
     else pure (some true)) (λr s'=>∃h',r=some true/\s'={s with heap:=h'}/\Heap.SameBut a s.heap h'/\jo P w h' a (ws ++ [x])) E s:=by
   intro t2 Ms ET uM
   refine wpAny_bind (wpAny_storeSet_of ho hd ?_ (fits_of_scanBound va))
   obtain⟨Kc,Uw⟩:=stored (P:=P) (w:=w) ho hex hd Kb u9 RV va Ms λz=>⟨ET.trans (GA z).1,λ_=>uM⟩
   have GB:=Heap.SameBut.update s.heap a (Obj.putSet i7 t2)
   split
   ·have sJ:=relayAll_perm t2 i7 (SetTable.grown i7.size)
    have jX:=relayAll_fits t2 i7 (SetTable.grown i7.size)
    have Mt:=yD t2 i7 (SetTable.grown i7.size)
    generalize relayAll t2 i7 (SetTable.grown i7.size)=R at sJ jX Mt ⊢
    obtain⟨RW,t3,RX⟩:=R
    dsimp only at sJ jX Mt ⊢
    have hsz:RW.size=i7.size:=by rw [<-Array.length_toList,sJ.length_eq,Array.length_toList]
    have vb:RW.size<scanBound:=by omega
    refine wpAny_bind (gw _ ?_)
    refine wpAny_bind (wpAny_storeSet_of Kc rfl ?_ (fits_of_scanBound vb))
    obtain⟨_,N7⟩:=stored (P:=P) (w:=w) (s:={s with heap:=s.heap.update a (Obj.putSet i7 t2)}) Kc hex rfl (Kb.perm sJ) ((sJ.map oU).trans u9) RV vb jX λz=>⟨Mt.1.trans (ET.trans (GA z).1),λ_=>Mt.2 uM⟩
    exact wpAny_pure ⟨_,rfl,rfl,GB.trans (Heap.SameBut.update _ a _),N7⟩
   ·exact wpAny_pure ⟨_,rfl,rfl,GB,Uw⟩
  have fin:∀(r:Option Bool) (s':Shared),(∃h',r=some true/\s'={s with heap:=h'}/\Heap.SameBut a s.heap h'/\jo P w h' a (ws ++ [x]))->∃h',r=some true/\s'={s with heap:=h'}/\Q true {s with heap:=h'}:=λr s' ⟨h',e1,e2,e3,e4⟩=>⟨h',e1,e2,h true h' e3 e4⟩
  split
  ·refine wpAny_bind ?_
   rw [hashByValue_scannable 8 (x:=.str x tk) rfl]
   refine wpAny_pure (wpAny_mono (tail {t1 with plain:=false} (SetTable.fits_plain_off yE) oM rfl) (λr s' z=>?_) λ_ _ e=>e)
   obtain⟨h',rfl,rfl,q⟩:=fin r s' z
   exact wpAny_pure q
  ·rename_i gM
   refine wpAny_bind (wpAny_pure ?_)
   refine wpAny_mono (tail t1 yE oM (Bool.eq_false_iff.mpr gM)) (λr s' z=>?_) λ_ _ e=>e
   obtain⟨h',rfl,rfl,q⟩:=fin r s' z
   exact wpAny_pure q
end
def dh(l:List Str):List Str:=l.foldl iP []
theorem vc(l:List Str)(x:Str):dh (l ++ [x])=iP (dh l) x:=by unfold dh;rw [List.foldl_append];rfl
theorem vd{ws:List Str}(h:ws.Nodup)(x:Str):(iP ws x).Nodup:=by
 unfold iP
 split
 ·exact h
 ·rename_i hx
  exact List.nodup_append.mpr ⟨h,by simp,λy hy z hz=>by
   rw [List.mem_singleton] at hz
   subst hz
   exact λe=>hx (e▸hy)⟩
theorem AJ{ws:List Str}{x y:Str}:y∈iP ws x↔y∈ws\/y=x:=by
 unfold iP
 split
 ·rename_i hx
  exact⟨.inl,λh=>h.elim id λe=>e▸hx⟩
 ·rw [List.mem_append,List.mem_singleton]
theorem me(l:List Str):(dh l).Nodup/\∀y,y∈dh l↔y∈l:=by
 suffices h:∀(l:List Str) (ws:List Str),ws.Nodup->(l.foldl iP ws).Nodup/\∀y,y∈l.foldl iP ws↔y∈ws\/y∈l by
  obtain⟨a,b⟩:=h l [] List.nodup_nil
  exact⟨a,λy=>(b y).trans (by simp)⟩
 intro l
 induction l with
 |nil=>intro ws h;exact⟨h,λy=>by simp⟩
 |cons x r ih=>
  intro ws h
  obtain⟨a,b⟩:=ih (iP ws x) (vd h x)
  exact⟨a,λy=>(b y).trans (by rw [AJ,List.mem_cons,or_assoc])⟩
theorem jo.at{P:Program}{w:World}{h h':Heap}{a:Addr}{ws:List Str}(H:jo P w h a ws)(k:∀o,h.get? a=some o->h'.get? a=some o):jo P w h' a ws:=by
 obtain⟨o,es,ep,t,ho,r⟩:=H
 exact⟨o,es,ep,t,k o ho,r⟩
section
variable {P:Program} {w:World} {A:Around} {E:Value->Shared->Prop}
theorem yF{R:Result->Shared->Prop}{I S l:Addr}{its:Array Value}{xs:List Str}(W:Walks P w A.in1 I [I,l] [I] its.size (λi v=>its[i]?=some v) (λi h=>h.IsListIter I l i/\h.IsList l its))(N8:S≠I)(Ux:S≠l)
  (hx:∀(i:Nat) (v:Value),its[i]?=some v->∃x t,xs[i]?=some x/\v=.str x t) (hn:xs.length=its.size) (hb:∀i,(dh (xs.take i)).length+1<scanBound) :
  ∀(k i:Nat) (s:Shared),its.size-i=k->i<=its.size->s.heap.IsListIter I l i/\s.heap.IsList l its->jo P w s.heap S (dh (xs.take i)) ->
   (∀(h':Heap) (tk:Nat),(∀b o,b≠S->b≠I->s.heap.get? b=some o->h'.get? b=some o)->jo P w h' S (dh xs)->R (.ok (.ret .none)) {s with heap:=h',toks:=tk}) ->
   codeAny (model P w) A (.builtin "set.update.loop" ⟨[.ref S,.ref I],[]⟩) R s:=by
 intro k
 induction k with
 |zero=>
  intro i s hk hi st hS q
  obtain rfl:i=its.size:=by omega
  refine codeAny_builtin F.entry_set_update_loop ?_
  rw [Around.under_plainId F.plain_set_update_loop _]
  show wpAny _ A.in1 (pyNext (.ref I) >>= _) _ _ s
  refine wpAny_bind (W.done s _ _ st λh' tk kp=>?_)
  show wpAny _ A.in1 (ret Value.none) _ _ _
  have e:dh (xs.take its.size)=dh xs:=by rw [<-hn,List.take_length]
  exact wpAny_pure (q h' tk (λb o _ Uy g=>kp b o (by simp [Uy]) g) (e▸hS.at λo g=>kp S o (by simp [N8]) g))
 |succ k ih=>
  intro i s hk hi st hS q
  have eQ:i<its.size:=by omega
  refine codeAny_builtin F.entry_set_update_loop ?_
  rw [Around.under_plainId F.plain_set_update_loop _]
  show wpAny _ A.in1 (pyNext (.ref I) >>= _) _ _ s
  refine wpAny_bind (W.item i s _ _ eQ st λv h' tk hv ur kp=>?_)
  obtain⟨x,t,gm,rfl⟩:=hx i v hv
  have N9:jo P w h' S (dh (xs.take i)):=hS.at λo g=>kp S o (by simp [N8]) g
  show wpAny _ A.in1 (holding [Value.str x t] (setAdd S (.str x t)) >>= _) _ _ _
  refine wpAny_bind (wpAny_holding ?_)
  unfold setAdd
  refine wpAny_holding (wpAny_bind ((PySem.strKind P w).pyHash (k:=x) (strKind_is _ _ _ _) ?_))
  refine AH (s:={s with heap:=h',toks:=tk+1}) N9 (hb i) λb h2 sb N7=>?_
  have e:dh (xs.take (i+1))=iP (dh (xs.take i)) x:=by rw [List.take_add_one,gm];exact vc _ _
  refine wpAny_pure ⟨plainId_quiet F.plain_set_update_loop _,ih (i+1) _ (by omega) eQ (W.frame _ _ _ ur λc hc o g=>?_) (e▸N7) λh3 Uz UA Oa=>?_⟩
  ·rw [sb.2 c (by
    simp only [List.mem_cons,List.not_mem_nil,or_false] at hc
    rcases hc with rfl|rfl
    ·exact Ne.symm N8
    ·exact Ne.symm Ux)]
   exact g
  ·refine q h3 Uz (λc o RY RZ g=>UA c o RY RZ ?_) Oa
   show h2.get? c=some o
   rw [sb.2 c RY]
   exact kp c o (by simp [RZ]) g
theorem Dr(a:Value){s:Shared}{Q₁:Value->Shared->Prop}
  (h:Q₁ (.ref s.heap.objs.size) {s with heap:=s.heap.push {cls:=.type "set",dict:=none,data:=.set #[] 0 (.fresh 0 0 (!w.params.followText "set-order"))}}) :
  codeAny (model P w) A (.call (.builtin "set.__new__") ⟨[.type "set",a],[]⟩) (wants Q₁ E) s:=by
 refine codeAny_of_tree ?_
 show wpAny _ A.in1 (do checkBuiltinCall "set.__new__" ⟨[.type "set",a],[]⟩;again (.builtin "set.__new__" ⟨[.type "set",a],[]⟩)) _ _ s
 refine wpAny_bind (wpAny_of_eq (F.newCall_set_1 a) (wpAny_pure ⟨plainId_quiet F.plain_set_new _,codeAny_builtin F.entry_set_new ?_⟩))
 rw [Around.under_plainId F.plain_set_new _]
 unfold Builtin.«set.__new__» Builtin.Frozenset.newClass
 have yB:=sub_set_self
 obtain⟨hp,g,d,tk,os⟩:=s
 dsimp only
 wp_walk
 refine wpAny_askSetting (wpAny_pure ?_)
 dsimp only
 simp only [newObj]
 refine wpAny_bind (wpAny_alloc (wpAny_pure ?_))
 exact wpAny_pure h
end
section
variable {P:Program} {w:World} {A:Around} {E:Value->Shared->Prop} {s:Shared}
theorem AK{x:Value}{Q:Value->Shared->Prop}
  (Kd:wpAny (model P w) A.in1.in1 (Builtin.«set.__init__» ⟨[.ref s.heap.objs.size,x],[]⟩)
    (λfin s'=>match fin with|.done f=>wants (λr s₂=>r=.none/\Q (.ref s.heap.objs.size) s₂) E (.ok f) s'|.again c'=>c'.quiet=true/\codeAny (model P w) A.in1 c' (wants (λr s₂=>r=.none/\Q (.ref s.heap.objs.size) s₂) E) s')
    (λe s'=>wants (λr s₂=>r=.none/\Q (.ref s.heap.objs.size) s₂) E (.error e) s') {s with heap:=s.heap.push {cls:=.type "set",dict:=none,data:=.set #[] 0 (.fresh 0 0 (!w.params.followText "set-order"))}}) :
  wpAny (model P w) A (call (.type "set") [x]) Q E s:=by
 have ft:=F.called_set
 obtain⟨c,tl,UB⟩:=ft.mro;have R0:=ft.made;have yB:=ft.sub;have h1:=ft.notType;have h2:=ft.canCreate;have Xr:=F.typeCall_set_1 x
 refine wpAny_call (codeAny_of_tree (show wpAny _ _ (callAny (.type "set") _) _ _ _ from wpAny_pure ⟨Code.quiet_builtin _ (by decide +kernel),codeAny_builtin F.entry_type_call ?_⟩))
 rw [Around.under_plain (weight_type_call_type "set" [x] []) rfl]
 repeat (any_goals (first|assumption|wp_step))
 refine codeAny_mono (Dr (P:=P) (w:=w) x (E:=E) (Q₁:=λobj s₁=>obj=.ref s.heap.objs.size/\s₁={s with heap:=s.heap.push {cls:=.type "set",dict:=none,data:=.set #[] 0 (.fresh 0 0 (!w.params.followText "set-order"))}}) ⟨rfl,rfl⟩) λr s₁ hr=>?_
 match r,hr with
 |.error e,hr=>exact hr
 |.ok (.ret obj),hr=>
  obtain⟨rfl,rfl⟩:=hr
  have hT:Shared.TypeIs {s with heap:=s.heap.push {cls:=.type "set",dict:=none,data:=.set #[] 0 (.fresh 0 0 (!w.params.followText "set-order"))}} (.ref s.heap.objs.size) "set":=⟨_,Heap.get?_push_size _ rfl,rfl⟩
  have Xs:=ft.init.lookup;have Xt:=ft.init.bind (.ref s.heap.objs.size)
  repeat (any_goals (first|assumption|wp_step))
  refine codeAny_mono (codeAny_call_builtin ft.init.plain F.entry_set_init (check_set_init_1 hT Kd)) λr₂ s₂ hr₂=>?_
  match r₂,hr₂ with
  |.error e,hr₂=>exact hr₂
  |.ok (.ret u),hr₂=>
   obtain⟨rfl,hq⟩:=hr₂
   repeat (any_goals (first|assumption|wp_step))
  |.ok .next,hr₂=>exact hr₂.elim
  |.ok .brk,hr₂=>exact hr₂.elim
  |.ok .cont,hr₂=>exact hr₂.elim
 |.ok .next,hr=>exact hr.elim
 |.ok .brk,hr=>exact hr.elim
 |.ok .cont,hr=>exact hr.elim
end
section
variable {P:Program} {w:World} {A:Around} {E:Value->Shared->Prop} {s:Shared}
theorem qD{l:Addr}{its:Array Value}{xs:List Str}{Q:Value->Shared->Prop}(hh:A.handled=none)(hl:s.heap.IsList l its)
  (hx:∀(i:Nat) (v:Value),its[i]?=some v->∃x t,xs[i]?=some x/\v=.str x t) (hn:xs.length=its.size) (hb:∀i,(dh (xs.take i)).length+1<scanBound)
  (h:∀(h':Heap) (tk:Nat),jo P w h' s.heap.objs.size (dh xs)->(∀b o,s.heap.get? b=some o->h'.get? b=some o)->Q (.ref s.heap.objs.size) {s with heap:=h',toks:=tk}) :
  wpAny (model P w) A (call (.type "set") [.ref l]) Q E s:=by
 refine AK ?_
 generalize ho:({cls:=.type "set",dict:=none,data:=.set #[] 0 (.fresh 0 0 (!w.params.followText "set-order"))}:Obj)=o
 have hS:(s.heap.push o).get? s.heap.objs.size=some o:=Heap.get?_push_size _ (by rw [<-ho];rfl)
 have UC:jo P w (s.heap.push o) s.heap.objs.size (dh (xs.take 0)):=by
  refine⟨o,#[],0,.fresh 0 0 (!w.params.followText "set-order"),hS,by rw [<-ho];exact⟨rfl,rfl,rfl⟩,by rw [<-ho],λe he=>by simp at he,?_,?_,by decide,by rfl,λz=>⟨?_,λy=>absurd rfl y⟩⟩
  ·exact List.Perm.refl _
  ·exact List.nodup_nil
  ·show (!w.params.followText "set-order")=true
   rw [z];rfl
 obtain⟨ol,Mn,zG,nl,J5⟩:=hl
 have Ob:=Heap.get?_push_of_some o Mn
 have oM:(s.heap.push o).IsList l its:=⟨_,Ob,zG,nl,J5⟩
 have Ke:l<s.heap.objs.size:=Heap.lt_size Mn
 have hsz:(s.heap.push o).objs.size=s.heap.objs.size+1:=size_push' _ _
 obtain⟨oc,od,Xu,uC⟩:=ol
 simp only at zG J5
 subst zG;subst J5
 have e1:=F.sub_list_set
 have e2:=F.sub_list_frozenset
 have e3:(Value.type "list" == Value.type "dict")=false:=by decide
 have n1:l≠(s.heap.push o).objs.size:=by rw [hsz];exact Nat.ne_of_lt (Nat.lt_succ_of_lt Ke)
 have n2:s.heap.objs.size≠(s.heap.push o).objs.size:=by rw [hsz];exact Nat.ne_of_lt (Nat.lt_succ_self _)
 subst ho
 unfold Builtin.«set.__init__» noKeywords Builtin.Frozenset.updateFrom
 generalize UD:pyIter=PI
 wp_walk
 subst UD
 refine wpAny_pyIter_list oM ?_
 refine wpAny_bind (wpAny_runValue ?_)
 have UE:A.in1.in1.in1.handled=none:=by simp [hh]
 refine yF (P:=P) (w:=w) (A:=A.in1.in1) (xs:=xs) (Walks.list UE _ l n1 its) n2 (Nat.ne_of_gt Ke) hx hn hb (its.size-0) 0 _ (by omega) (Nat.zero_le _) ⟨⟨_,Heap.get?_push_size _ rfl,rfl,rfl⟩,oM.push _⟩ (UC.at λo' g=>Heap.get?_push_of_some _ g) λh' tk kp N9=>?_
 show wpAny _ _ _ _ _ _
 refine wpAny_pure ?_
 show wpAny _ _ (ret Value.none) _ _ _
 refine wpAny_pure ⟨rfl,h h' tk N9 λc o' g=>?_⟩
 have gc:=Heap.lt_size g
 exact kp c o' (Nat.ne_of_lt gc) (by rw [hsz];exact Nat.ne_of_lt (Nat.lt_succ_of_lt gc)) (Heap.get?_push_of_some _ (Heap.get?_push_of_some _ g))
end
section
variable {P:Program} {w:World} {A:Around} {E:Value->Shared->Prop} {s:Shared}
end
section
variable {P:Program} {w:World} {A:Around} {E:Value->Shared->Prop} {s:Shared}
end
section
variable {P:Program} {w:World} {A:Around} {E:Value->Shared->Prop}
end
section
variable {P:Program} {w:World} {A:Around} {E:Value->Shared->Prop}
end
section
variable {P:Program} {w:World} {A:Around} {E:Value->Shared->Prop}
end
section
variable {P:Program} {w:World} {A:Around} {E:Value->Shared->Prop} {s:Shared}
end
section
variable {P:Program} {w:World} {A:Around} {E:Value->Shared->Prop} {s:Shared}
end
section
variable {P:Program} {w:World} {A:Around} {E:Value->Shared->Prop} {s:Shared}
end
theorem pM:∀{ws:List Str} {us:List Value},Vals (ws.map V.str) us->StrsAre us ws
 | [],us,h=>by cases h;exact .nil
 |x::r,us,h=>by
  cases h with
  |cons a b=>
   obtain⟨t,rfl⟩:=a
   exact .cons x t (pM b)
theorem nQ:∀(l ws:List Str),ws.length<=(l.foldl iP ws).length
 | [],ws=>Nat.le_refl _
 |x::r,ws=>by
  refine Nat.le_trans ?_ (nQ r (iP ws x))
  unfold iP
  split
  ·exact Nat.le_refl _
  ·rw [List.length_append];exact Nat.le_add_right _ _
theorem ve(ws:List Str)(i:Nat):(dh (ws.take i)).length<=(dh ws).length:=by
 have e:dh ws=(ws.drop i).foldl iP (dh (ws.take i)):=by
  unfold dh
  rw [<-List.foldl_append,List.take_append_drop]
 rw [e]
 exact nQ _ _
theorem nS{X:Cx}(hc:X.calm=true):bI X (.type "set") (λxs H Q=>∃(l:Addr) (ws:List Str),xs = [.ref l]/\bX X.K H l (ws.map V.str)/\(dh ws).length<64/\∀a,H a=none->Q (.ref a) (upd H a (.ext λh=>jo X.prog X.w h a (dh ws)))):=by
 intro pins s σ H xs us Q I r h
 obtain⟨l,ws,rfl,hl,UG,q⟩:=h
 obtain⟨u,rfl,ru⟩:=r.one
 cases ru
 obtain⟨its,rv,pl,hz⟩:=I.list hl
 have hS:=pM rv
 have uf:(64:Nat)<scanBound:=by decide
 have hlen:ws.length=its.toArray.size:=by rw [List.size_toArray,<-rv.length,List.length_map]
 refine qD (xs:=ws) (I.ok.hd hc) pl.isList (λi v hv=>?_) hlen (λi=>by have:=ve ws i;omega) λh' tk Kf kp=>?_
 ·rw [List.getElem?_toArray] at hv
  have hi:i<ws.length:=by
   rw [hlen,List.size_toArray]
   exact (List.getElem?_eq_some_iff.mp hv).1
  obtain⟨t,ht⟩:=hS.at (List.getElem?_eq_getElem hi)
  rw [ht] at hv
  exact⟨_,t,List.getElem?_eq_getElem hi,by injection hv with hv;exact hv.symm⟩
 ·refine⟨.ref s.heap.objs.size,_,I.laid (t':=tk) kp (Nat.le_refl _) (show cZ X.prog X.w _ h' _ (.ext λh=>jo X.prog X.w h s.heap.objs.size (dh ws)) from⟨Kf,let ⟨o,_,_,_,ho,_⟩:=Kf;⟨o,ho⟩,λh1 h2 z k=>z.at k⟩),rfl,q _ I.fresh⟩
end L2
namespace L2
open PySem PySem.Spec PyProof.Rows PySem.SeqAt
def Alike(H:Hp):Nat->V->V->Prop
 |0,_,_=>False
 |n+1,x,y=>(x=y/\(iw x=true\/∃a,x=.ref a))\/∃a b xs ys,x=.ref a/\y=.ref b/\H a=some (.tup xs)/\H b=some (.tup ys)/\Paired (Alike H n) xs ys
theorem gY{α β:Type}{R:α->β->Prop}:∀{xs:List α} {ys:List β},Paired R xs ys->∀{i:Nat} {x:α} {y:β},xs[i]?=some x->ys[i]?=some y->R x y
 | [],[],_,i,x,y,h,_=>by simp at h
 |_::_,_::_,.cons a b,0,x,y,h,k=>by
  simp at h k
  subst h;subst k
  exact a
 |_::_,_::_,.cons a b,i+1,x,y,h,k=>gY b (by simpa using h) (by simpa using k)
section
variable {X:Cx} {pins:List (Addr×Obj)} {σ:St} {H:Hp} {s:Shared}
theorem jq{R:V->V->Prop}{xs ys:List V}{us vs:List Value}(p:Paired R xs ys)(ru:Vals xs us)(rv:Vals ys vs){j:Nat}(h1:j<us.toArray.size)(h2:j<vs.toArray.size):∃x y,R x y/\RelV x us.toArray[j]/\RelV y vs.toArray[j]:=by
 have l1:=ru.length
 have l2:=rv.length
 simp only [List.size_toArray] at h1 h2
 obtain⟨x,hx⟩:∃x,xs[j]?=some x:=⟨_,List.getElem?_eq_getElem (by omega)⟩
 obtain⟨y,hy⟩:∃y,ys[j]?=some y:=⟨_,List.getElem?_eq_getElem (by omega)⟩
 obtain⟨u,hu,UH⟩:=ru.get hx
 obtain⟨v,hv,UI⟩:=rv.get hy
 have e1:us.toArray[j]=u:=by
  rw [List.getElem?_eq_getElem h1] at hu
  simpa using hu
 have e2:vs.toArray[j]=v:=by
  rw [List.getElem?_eq_getElem h2] at hv
  simpa using hv
 exact⟨x,y,gY p hx hy,e1▸UH,e2▸UI⟩
theorem nU(I:Inv X pins σ H s):∀{n:Nat} {x y:V} {u v:Value} {A:Around},Alike H n x y->RelV x u->RelV y v->A.units+n<cLine->EqAt A s u v true
 |0,_,_,_,_,_,h,_,_,_=>h.elim
 |n+1,x,y,u,v,A,h,ru,rv,hu=>by
  rcases h with ⟨rfl,hf|⟨a,rfl⟩⟩|⟨a,b,xs,ys,rfl,rfl,ha,hb,p⟩
  ·have q:=qp (A:=A) (s:=s) ru rv hf hf
   have e:wL x x=true:=by
    cases x<;>simp_all [wL,iw]
   rw [e] at q
   exact q
  ·cases ru;cases rv
   exact EqAt.same _
  ·cases ru;cases rv
   by_cases j5:a=b
   ·subst j5;exact EqAt.same _
   obtain⟨_,its,r1,t1⟩:=I.cw a _ ha
   obtain⟨_,GC,r2,t2⟩:=I.cw b _ hb
   have hl:its.toArray.size=GC.toArray.size:=by rw [List.size_toArray,List.size_toArray,<-r1.length,<-r2.length,p.length]
   refine EqAt.of_refs j5 ?_
   have q:=RcAt.tuples (A:=A) (s:=s) (e:=λ_=>true) t1 t2 (by omega) λj h1 h2=>by
    obtain⟨x,y,Kg,rx,ry⟩:=jq p r1 r2 h1 h2
    exact nU I Kg rx ry (by show A.units+1+n<cLine;omega)
   have e:((List.range (min its.toArray.size GC.toArray.size)).all (λ_=>true)&&its.toArray.size == GC.toArray.size)=true:=by
    rw [hl];simp
   rw [e] at q
   exact q
theorem GD(hu:X.A.units+64<cLine):eJ X (compareOp .Eq) (λx y H Q=>∃(a b:Addr) (xs ys:List V) (n:Nat),x=.ref a/\y=.ref b/\bX X.K H a xs/\bX X.K H b ys/\n<=60/\Paired (Alike H n) xs ys/\Q (.bl true) H):=by
 intro pins s σ H x y v u Q I rx ry h
 obtain⟨a,b,xs,ys,n,rfl,rfl,ha,hb,hn,p,q⟩:=h
 cases rx
 cases ry
 obtain⟨its,r1,p1,_⟩:=I.list ha
 obtain⟨GC,r2,p2,_⟩:=I.list hb
 have hl:its.toArray.size=GC.toArray.size:=by rw [List.size_toArray,List.size_toArray,<-r1.length,<-r2.length,p.length]
 refine SeqAt.eq_listAt (e:=λ_=>true) p1.isList p2.isList hl (by omega) (λj h1 h2=>?_) ⟨.bl true,H,I,?_,q⟩
 ·obtain⟨x,y,Kg,rx,ry⟩:=jq p r1 r2 h1 h2
  exact nU I Kg rx ry (by show X.A.units+1+n<cLine;omega)
 ·show Value.bool _=Value.bool true
  rw [show (List.range its.toArray.size).all (λ_=>true)=true by simp]
theorem vh(hu:X.A.units+64<cLine):eJ X (compareOp .NotEq) (λx y H Q=>∃(a b:Addr) (xs ys:List V) (n:Nat),x=.ref a/\y=.ref b/\bX X.K H a xs/\bX X.K H b ys/\n<=60/\Paired (Alike H n) xs ys/\Q (.bl false) H):=by
 intro pins s σ H x y v u Q I rx ry h
 obtain⟨a,b,xs,ys,n,rfl,rfl,ha,hb,hn,p,q⟩:=h
 cases rx
 cases ry
 obtain⟨its,r1,p1,_⟩:=I.list ha
 obtain⟨GC,r2,p2,_⟩:=I.list hb
 have hl:its.toArray.size=GC.toArray.size:=by rw [List.size_toArray,List.size_toArray,<-r1.length,<-r2.length,p.length]
 refine RcNeAt.lists (A:=X.A) (s:=s) (e:=λ_=>true) p1.isList p2.isList hl (by omega) (λj h1 h2=>?_) X.prog X.w _ _ ⟨.bl false,H,I,?_,q⟩
 ·obtain⟨x,y,Kg,rx,ry⟩:=jq p r1 r2 h1 h2
  exact nU I Kg rx ry (by show X.A.units+1+n<cLine;omega)
 ·show Value.bool _=Value.bool false
  rw [show (List.range its.toArray.size).all (λ_=>true)=true by simp];rfl
end
end L2
namespace L2
open PySem PySem.Spec PyProof.Rows
structure AL (K:PySem.W.Frag) (C:Addr) (qual:Str) (st:Stmt) (ps:List Str):Prop where
 ex:∃(f:Addr) (fd:FuncData),EU K "__init__" qual st f fd/\Mk K C f/\Binds K fd ps []
structure vi (P:Program) (w:World) (K:PySem.W.Frag) (mg:Str->Option Value) (base:Heap) (k:Nat) (x:Str) (C:Addr) (ps:List Str) (sp:Sp):Prop where
 ex:∃(f:Addr) (fd:FuncData),g7 P w K mg base rZ k f fd ps sp/\Mk K C f/\Binds K fd ps []/\mg x=some (.ref C)
section
variable {P:Program} {w:World} {K:PySem.W.Frag} {mg:Str->Option Value} {base:Heap} {x qual:Str} {st:Stmt} {ps N:List Str} {k j:Nat} {sp F1:Sp} {C:Addr} {CX:pw}
theorem AL.ok(S:AL K C qual st ps)(hx:mg x=some (.ref C))(F:aO N ps (ao st))(len:∀vs H Q E,sp vs H Q E->vs.length=ps.length)
  (jj:∀(f:Addr) (cD:Value) (A:Around) (outer:List Env) (s:Shared) (H:Hp) (vs:List V) (Q:VK) (E:XK),fe k (A.deeper (envOfC qual (ao st) s.heap.objs.size f cD))->sp vs H Q E ->
   ∃t,gi (kE rZ P w K mg base N qual (ao st) f cD A outer s H E).EK (dv st) t/\t {nx:=λ_ H'=>Q .eh H',rt:=Q} (start N vs) H):vi P w K mg base (k+1) x C ps sp:=by
 obtain⟨f,fd,F0,hm,hb⟩:=S.ex
 exact⟨f,fd,F0.ok F len (jj f),hm,hb,hx⟩
theorem vi.mono(D:vi P w K mg base j x C ps sp)(h:j<=k):vi P w K mg base k x C ps sp:=by
 obtain⟨f,fd,F,r⟩:=D.ex
 exact⟨f,fd,F.mono h,r⟩
end
section
variable {X:Cx} {k:Nat} {C:Addr} {ps:List Str} {sp:Sp} {CX:pw} {E:XK} {m x:Str} {p pos apos:Pos} {e o:Expr} {es:List Expr} {ta:TE} {t:TA}
theorem sL(D:vi X.prog X.w X.K X.mg X.base k x C ps sp)(hr:fe (k+1) X.A)(hg:Gl X x)(ha:PA X (e::es) t)(qm:(x == ("__debug__":Str))=false:=by decide)(gM:(e::es).all gE=true:=by rfl) :
  PE X (.Call (.Name x p) (e::es) [] pos) (ER C sp [] E0 t):=by
 obtain⟨f,fd,F,M,hb,hm⟩:=D.ex
 rw [List.all_cons,Bool.and_eq_true] at gM
 exact CC M F hr hg hm hb .nil Ao ha qm (ej gM.1) (gz gM.2)
end
theorem yG:typeLookup (.type "list") "keys"=pure none:=by rw [typeLookup_type,builtinLookup_eq_fast];kernel_rfl
theorem nV:entryFor table "dict.update.loop"=some Builtin.«dict.update.loop»:=entryFor_of_tree (by kernel_rfl)
theorem sM{prog:Program}{w:World}{A:Around}{E:Value->Shared->Prop}{s:Shared}{a:Addr}{o:Obj}{xs:Array Value}{k:Nat}{Q:Option Value->Shared->Prop}
  (hx:s.heap.get? a=some o) (hc:o.cls=.type "list") (Kh:o.data=.seq xs k) (hd:o.dict=none) (hA:A.handled=none)
  (h:∀h' tk,(∀b ob,s.heap.get? b=some ob->h'.get? b=some ob)->Q none {s with heap:=h',toks:=tk}) :
  wpAny (model prog w) A (getAttr? (.ref a) "keys") Q E s:=by
 obtain⟨c,Xv,dat,sl⟩:=o
 simp only at hc Kh hd
 subst hc Kh hd
 obtain⟨hp,g,d,tk,os⟩:=s
 have hT:∀R1,(⟨hp,g,d,R1,os⟩:Shared).TypeIs (.ref a) "list":=λ_=>⟨_,hx,rfl⟩
 have f1:=sub_AttributeError
 have f3:=F.slot_list_getattribute.lookup
 have f4:=F.slot_list_getattribute.bind (.ref a)
 have f5:=am_list_getattr_none
 unfold getAttr? getAttrBy? getAttrBy
 repeat (any_goals (first|assumption|exact hT _|((with_reducible show wpAny _ _ (call (Value.builtin "list.__getattribute__") _ _) _ _ _);refine call_meets F.slot_list_getattribute (hT _) am_entry_list_getattribute (F.args_list_getattribute_2 _ _) (meets_getattribute_miss_list a xs k sl "keys" _ yG (by decide +kernel) (by size_fits)) ⟨hx,hA,λh' R1 e EW=>?_⟩)|wp_step))
 obtain⟨t',u',he⟩:=EW.there
 show wpAny _ _ (getattributeRaised _ _ _ _ _ _ _) _ _ _
 unfold getattributeRaised
 repeat (any_goals (first|assumption|wp_step))
 exact h _ _ EW.keeps
theorem iQ:plainId "dict.update.loop"=true:=by decide +kernel
def qE{P:Program}{w:World}{κ:Type} [DecidableEq κ](knd:KeyKind P w κ)(h:Heap)(u:Value)(p:κ×Value):Prop:=∃t key,u=Value.ref t/\h.IsTuple t #[key,p.2]/\knd.is p.1 key=true
section
variable {P:Program} {w:World} {κ:Type} [DecidableEq κ] {knd:KeyKind P w κ} {A:Around}
theorem vj{d it l:Addr}{its:Array Value}{ps:List (κ×Value)}{R:Result->Shared->Prop}(hh:A.handled=none)(hp:∀i:Nat,its[i]?=none↔ps[i]?=none)(hz:ps.length<=1000) :
  ∀(m i:Nat) (kvs:List (κ×Value)) (s:Shared),ps.length-i=m->s.heap.IsListIter it l i->s.heap.IsList l its->s.heap.DictOf knd d kvs->kvs.length<=i ->
   (∀(j:Nat) (u:Value) (p:κ×Value),its[j]?=some u->ps[j]?=some p->qE knd s.heap u p) ->
   (∀h' tk,h'.DictOf knd d (merged kvs (ps.drop i))->(∀b o,b≠d->b≠it->s.heap.get? b=some o->h'.get? b=some o)->R (.ok (.ret .none)) {s with heap:=h',toks:=tk}) ->
   codeAny (model P w) A (.builtin "dict.update.loop" ⟨[.ref d,.ref it,rawInt i,.none],[]⟩) R s:=by
 intro m
 induction m with
 |zero=>
  intro i kvs s hm hit hl hd hk vk hR
  refine codeAny_builtin nV ?_
  rw [Around.under_plainId iQ]
  unfold Builtin.«dict.update.loop»
  have hn:ps[i]?=none:=by rw [List.getElem?_eq_none_iff];omega
  have hx:=(hp i).mpr hn
  have Mu:d≠it:=λz=>by
   subst z
   obtain⟨o,e,c,dat⟩:=hit
   obtain⟨o',es,ep,e',c',dd,_⟩:=hd
   rw [e] at e'
   cases e'
   rw [dat] at dd
   cases dd
  refine wpAny_bind (wpAny_pyNext_list_end hh hit hl hx λh' eb=>?_)
  show wpAny _ _ (Builtin.Dict.addKeywords d [] >>= _) _ _ _
  refine wpAny_bind (wpAny_pure (wpAny_pure ?_))
  refine hR h' s.toks ?_ λb o h1 h2 e=>eb b o h2 e
  rw [List.drop_eq_nil_of_le (by omega)]
  exact hd.extBut eb Mu
 |succ m ih=>
  intro i kvs s hm hit hl hd hk vk hR
  refine codeAny_builtin nV ?_
  rw [Around.under_plainId iQ]
  unfold Builtin.«dict.update.loop»
  have eQ:i<ps.length:=by omega
  obtain⟨p,Mw⟩:∃p,ps[i]?=some p:=⟨_,List.getElem?_eq_getElem eQ⟩
  have IJ:its[i]?≠none:=λz=>by rw [hp i,Mw] at z;cases z
  obtain⟨u,R3⟩:=Option.ne_none_iff_exists'.mp IJ
  obtain⟨t,key,rfl,hT,yn⟩:=vk i u p R3 Mw
  have Mu:d≠it:=λz=>by
   subst z
   obtain⟨o,e,c,dat⟩:=hit
   obtain⟨o',es,ep,e',c',dd,_⟩:=hd
   rw [e] at e'
   cases e'
   rw [dat] at dd
   cases dd
  have dl:d≠l:=λz=>by
   subst z
   obtain⟨o,e,c,n,dat⟩:=hl
   obtain⟨o',es,ep,e',c',dd,_⟩:=hd
   rw [e] at e'
   cases e'
   rw [dat] at dd
   cases dd
  have lit:l≠it:=λz=>by
   subst z
   obtain⟨o,e,c,n,dat⟩:=hl
   obtain⟨o',e',c',dd⟩:=hit
   rw [e] at e'
   cases e'
   rw [dat] at dd
   cases dd
  have Ki:∀{t:Addr} {xs:Array Value},s.heap.IsTuple t xs->t≠it:=λhx z=>by
   subst z
   obtain⟨o,e,c,n,dat⟩:=hx
   obtain⟨o',e',c',dd⟩:=hit
   rw [e] at e'
   cases e'
   rw [dat] at dd
   cases dd
  have Oc:∀{t:Addr} {xs:Array Value},s.heap.IsTuple t xs->t≠d:=λhx z=>by
   subst z
   obtain⟨o,e,c,n,dat⟩:=hx
   obtain⟨o',es,ep,e',c',dd,_⟩:=hd
   rw [e] at e'
   cases e'
   rw [dat] at dd
   cases dd
  have UJ:ps.drop i=p::ps.drop (i+1):=by
   rw [List.drop_eq_getElem_cons eQ]
   congr 1
   rw [List.getElem?_eq_getElem eQ] at Mw
   injection Mw
  refine wpAny_bind (wpAny_pyNext_list_item hit hl R3 λh1 Od GB=>?_)
  have kT:∀{t:Addr} {xs:Array Value},s.heap.IsTuple t xs->h1.IsTuple t xs:=λhx=>by
   have ne:=Ki hx
   obtain⟨o,e,r⟩:=hx
   exact⟨o,(GB.2 _ ne).trans e,r⟩
  have Ds:h1.DictOf knd d kvs:=hd.extBut GB.extBut Mu
  have Gs:=kT hT
  have UK:Shared.TypeIs {s with heap:=h1} (.ref t) "tuple":=by obtain⟨o,e,c,_⟩:=Gs;exact⟨o,e,c⟩
  refine wpAny_bind (wpAny_holding (wpAny_bind (wpAny_tryCatch ?_)))
  unfold Builtin.Dict.pairItems
  refine wpAny_bind (wpAny_typeOf UK ?_)
  rw [if_pos (by decide)]
  obtain⟨o,e,c,n,dat⟩:=id Gs
  refine wpAny_bind ?_
  unfold seqItems?
  refine wpAny_bind (wpAny_load e ?_)
  rw [dat]
  refine wpAny_pure (wpAny_pure ?_)
  have l3:(1000:Nat)<=sizeLine:=by decide
  refine wpAny_holding (wpAny_dictSet_pairs yn Ds (λh2 hd2 Mx=>?_) (by omega))
  refine wpAny_pure ⟨plainId_quiet iQ _,?_⟩
  have e1:rawInt ((i:Int)+1)=rawInt ((i+1:Nat):Int):=rfl
  refine ih (i+1) (PySem.stored kvs p.1 p.2) {s with heap:=h2,toks:=s.toks+1} (by omega) ?_ ?_ hd2 ?_ ?_ λh' tk oK k'=>?_
  ·obtain⟨o,e,r⟩:=Od
   exact⟨o,(Mx.2 _ (Ne.symm Mu)).trans e,r⟩
  ·exact (hl.extBut GB.extBut lit).extBut Mx.extBut (Ne.symm dl)
  ·unfold PySem.stored
   split
   ·rw [List.length_map];omega
   ·rw [List.length_append];simp;omega
  ·intro j u' p' EZ Dp
   obtain⟨t',Oe,rfl,II,GF⟩:=vk j u' p' EZ Dp
   have nd:=Oc II
   obtain⟨o',e',r'⟩:=kT II
   exact⟨t',Oe,rfl,⟨o',(Mx.2 _ nd).trans e',r'⟩,GF⟩
  ·refine hR h' tk ?_ λb ob GG R4 eb=>k' b ob GG R4 ((Mx.2 _ GG).trans ((GB.2 _ R4).trans eb))
   rw [UJ]
   exact oK
theorem vm{l:Addr}{its:Array Value}{ps:List (κ×Value)}{Q:Value->Shared->Prop}{E:Value->Shared->Prop}{s:Shared}(hh:A.handled=none)(hl:PlainL s.heap l its)(hp:∀i:Nat,its[i]?=none↔ps[i]?=none)(hz:ps.length<=1000)
  (vk:∀(j:Nat) (u:Value) (p:κ×Value),its[j]?=some u->ps[j]?=some p->qE knd s.heap u p)
  (h:∀h' tk,h'.DictOf knd s.heap.objs.size (merged [] ps)->(∀b o,s.heap.get? b=some o->h'.get? b=some o)->Q (.ref s.heap.objs.size) {s with heap:=h',toks:=tk}) :
  wpAny (model P w) A (call (.type "dict") [.ref l]) Q E s:=by
 refine callType_codes (Q₁:=λobj s₁=>obj=.ref s.heap.objs.size/\s₁={s with heap:=s.heap.push {cls:=.type "dict",data:=.dict #[]}}) F.kt_called_dict (F.kt_typeCall_dict_1 _) F.entry_dict_init (kt_code_dict_new _ ⟨rfl,rfl⟩) ?_
 rintro obj s₁ ⟨rfl,rfl⟩
 have Am:(s.heap.push {cls:=.type "dict",data:=.dict #[]}).DictOf knd s.heap.objs.size []:=Heap.DictOf.new s.heap
 refine⟨Am.typeIs,F.args_dict_init_2 _ _,?_⟩
 unfold Builtin.«dict.__init__»
 refine wpAny_bind ?_
 unfold Builtin.Dict.selfAndRest
 refine wpAny_bind (wpAny_notOrdered_dict Am.typeIs ?_)
 show wpAny _ _ (pure (s.heap.objs.size,[Value.ref l])) _ _ _
 refine wpAny_pure ?_
 show wpAny _ _ (Builtin.Dict.updateFrom "dict.__init__" s.heap.objs.size (.ref l) [] .none) _ _ _
 unfold Builtin.Dict.updateFrom
 obtain⟨o,n,e,c,dn,dat⟩:=id hl
 have e1:(s.heap.push {cls:=.type "dict",data:=.dict #[]}).get? l=some o:=Heap.get?_push_of_some _ e
 have hT:Shared.TypeIs {s with heap:=s.heap.push {cls:=.type "dict",data:=.dict #[]}} (.ref l) "list":=⟨o,e1,c⟩
 refine wpAny_bind (wpAny_typeOf hT ?_)
 rw [if_pos (by decide)]
 refine wpAny_bind (sM e1 c dat dn hh λh1 UL k1=>?_)
 rw [if_pos (by rfl)]
 refine wpAny_bind (wpAny_rule ?_)
 have oM:PlainL h1 l its:=⟨o,n,k1 _ _ e1,c,dn,dat⟩
 have Ds:h1.DictOf knd s.heap.objs.size []:=by
  obtain⟨o',es,ep,e',r⟩:=Am
  exact⟨o',es,ep,k1 _ _ e',r⟩
 refine wpAny_bind (wpAny_pyIter_list oM.isList ?_)
 refine wpAny_pure ⟨plainId_quiet iQ _,?_⟩
 have kp:∀b o,s.heap.get? b=some o->(h1.push {cls:=.type "list_iterator",data:=.fields #[.ref l,.int 0 0]}).get? b=some o:=λb o q=>Heap.get?_push_of_some _ (k1 _ _ (Heap.get?_push_of_some _ q))
 refine vj (A:=A.in1) (R:=wants (λr s₂=>r=Value.none/\Q (Value.ref s.heap.objs.size) s₂) E) (knd:=knd) (d:=s.heap.objs.size) (l:=l) (its:=its) hh hp hz ps.length 0 [] {s with heap:=h1.push {cls:=.type "list_iterator",data:=.fields #[.ref l,.int 0 0]},toks:=UL} (by omega) ⟨_,Heap.get?_push_size _ rfl,rfl,rfl⟩ ?_ (Ds.push _) (Nat.le_refl _) (λj u p hu J9=>?_) λh' tk oK k'=>⟨rfl,?_⟩
 ·exact⟨o,kp _ _ e,c,n,dat⟩
 ·obtain⟨t,key,rfl,⟨o',e',r'⟩,hk⟩:=vk j u p hu J9
  exact⟨t,key,rfl,⟨o',kp _ _ e',r'⟩,hk⟩
 ·rw [List.drop_zero] at oK
  refine h h' tk oK λb ob q=>k' b ob (λz=>?_) (λz=>?_) (kp _ _ q)
  ·have:=Heap.lt_size q
   rw [z] at this
   exact Nat.lt_irrefl _ this
  ·have:=Heap.lt_size (k1 _ _ (Heap.get?_push_of_some {cls:=.type "dict",data:=.dict #[]} q))
   rw [z] at this
   exact Nat.lt_irrefl _ this
end
theorem Paired.at'{α β:Type}{F:α->β->Prop}:∀{xs:List α} {ys:List β} {i:Nat} {x:α} {y:β},Paired F xs ys->xs[i]?=some x->ys[i]?=some y->F x y
 |_,_,0,_,_,.cons h _,e1,e2=>by
  simp at e1 e2
  subst e1;subst e2
  exact h
 |_,_,i+1,_,_,.cons _ h,e1,e2=>Paired.at' h (by simpa using e1) (by simpa using e2)
 |_,_,_,_,_,.nil,e1,_=>by simp at e1
theorem Du{X:Cx}{pins:List (Addr×Obj)}{s:Shared}{σ:St}{H:Hp}(I:Inv X pins σ H s){b:Addr}{k:Key}{v:V}(hb:H b=some (.tup [kV k,v])):∃r,RelV v r/\qE (cy X.prog X.w) s.heap (.ref b) (k,r):=by
 obtain⟨its,rv,tp,_⟩:=I.tuple (aR.of hb)
 obtain⟨key,r,e,rk,rr⟩:=Vals.two rv
 subst e
 exact⟨r,rr,b,key,rfl,tp,ma rk⟩
theorem sN{X:Cx}{pins:List (Addr×Obj)}{s:Shared}{σ:St}{H:Hp}(I:Inv X pins σ H s):∀{ts:List V} {kvs:List (Key×V)} {its:List Value},Vals ts its->Paired (λt (kv:Key×V)=>∃b,t=V.ref b/\H b=some (.tup [kV kv.1,kv.2])) ts kvs ->
   ∃ps:List (Key×Value),KV kvs ps/\Paired (λu p=>qE (cy X.prog X.w) s.heap u p) its ps
 |_,_,_,.nil,.nil=>⟨[],.nil,.nil⟩
 |_,_,_,.cons r1 r2,.cons ⟨b,e,hb⟩ h2=>by
  subst e
  cases r1
  obtain⟨ps,k1,k2⟩:=sN I r2 h2
  obtain⟨r,rr,pa⟩:=Du I hb
  exact⟨(_,r)::ps,.cons ⟨rfl,rr⟩ k1,.cons pa k2⟩
theorem gG{X:Cx}(hc:X.calm=true):bI X (.type "dict") (λxs H Q=>∃(l:Addr) (ts:List V) (kvs:List (Key×V)),xs = [.ref l]/\bX X.K H l ts/\kvs.length<=100/\Paired (λt (kv:Key×V)=>∃b,t=V.ref b/\H b=some (.tup [kV kv.1,kv.2])) ts kvs /\
  ∀a,H a=none->Q (.ref a) (upd H a (.dK (bw [] kvs)))):=by
 intro pins s σ H xs us Q I r h
 obtain⟨l,ts,kvs,rfl,hl,hz,hp,q⟩:=h
 obtain⟨u,rfl,ru⟩:=vals1 r
 cases ru
 obtain⟨its,rv,pl,_⟩:=I.list hl
 have hlen:its.length=kvs.length:=by rw [<-rv.length,hp.length]
 obtain⟨ps,R5,UM⟩:=sN I rv hp
 have gM:ps.length=kvs.length:=R5.length.symm
 have l3:(1000:Nat)<=sizeLine:=by decide
 refine vm (knd:=cy X.prog X.w) (its:=its.toArray) (ps:=ps) (I.ok.hd hc) pl (λi=>?_) (by omega) (λj u p hu J9=>?_) λh' tk oK k'=>?_
 ·rw [List.getElem?_toArray,List.getElem?_eq_none_iff,List.getElem?_eq_none_iff];omega
 ·rw [List.getElem?_toArray] at hu
  exact Paired.at' UM hu J9
 ·have rel:KV (bw [] kvs) (merged [] ps):=KV.merge R5 .nil
  have My:=gk kvs []
  refine⟨.ref s.heap.objs.size,_,I.laid (a:=s.heap.objs.size) (o:=.dK (bw [] kvs)) (t':=tk) k' (Nat.le_refl _) ?_,rfl,q _ (I.cw.fresh (Nat.le_refl _))⟩
  exact qr (by simp at My;omega) (beq_eq_false_iff_ne.mpr (Ne.symm (Nat.ne_of_lt I.big))) rel oK
theorem yH{X:Cx}:bI X (.builtin "len") (λxs H Q=>∃(a:Addr) (ws:List Str),xs = [.ref a]/\H a=some (.ext λh=>jo X.prog X.w h a ws)/\Q (.int ws.length) H):=by
 intro pins s σ H xs us Q I r h
 obtain⟨a,ws,rfl,ha,q⟩:=h
 obtain⟨u,rfl,ru⟩:=vals1 r
 cases ru
 obtain⟨o,es,ep,t,e,ex,hd,_,hp,_,hs,hf,_⟩:=(I.cw a _ ha).1
 have hl:es.size=ws.length:=by
  have:=hp.length_eq
  rw [List.length_map] at this
  simpa using this
 have uf:(scanBound:Int)<2 ^ 63:=by decide
 exact call_len_set e ex hd hf (by omega) ⟨.int ws.length,H,I.tok _,⟨s.toks+1,by rw [hl]⟩,q⟩
def Of(K:PySem.W.Frag)(a:Addr)(tab:Str->Option (List Str)):R2:=λx y H Q=>x=.ref a/\∃k ks,y=.str k/\tab k=some ks/\∀b,aR K H b (ks.map V.str)->Q (.ref b) H
theorem GH{X:Cx}{a:Addr}{tab:Str->Option (List Str)}(T:sD X.w X.K a tab):gj X (Of X.K a tab):=by
 intro value slice pins s σ H x y v u Q I rx ry h hs
 obtain⟨rfl,k,ks,rfl,hk,q⟩:=h
 cases rx
 obtain⟨t,rfl⟩:=ry
 obtain⟨es,m,lk,keys,look⟩:=T.ex
 have hm:=PySem.W.mapOf_K (prog:=X.prog) (w:=X.w) I.kx lk keys
 have lx:=look k
 rw [hk] at lx
 obtain⟨b,fb,o,its,m',l1,l2,l3,l4,l5⟩:=lx
 exact subscriptTail_builtinR hm.typeIs PySem.F.slot_dict_getitem.lookup (wpAny_getItem_of (knd:=strKind X.prog X.w) (strKind_is X.prog X.w k t) hm fb ⟨rfl,⟨.ref b,H,I.tok _,rfl,q b (.inr ⟨o,its,m',l1,l2,l3,l4,l5⟩)⟩⟩) hs
def sO(i:Nat)(D:Ends):Ends:={nx:=λσ H=>D.nx (σ.set i none) H,rt:=D.rt,bk:=λσ H=>D.bk (σ.set i none) H,ct:=λσ H=>D.ct (σ.set i none) H}
def Og(K:PySem.W.Frag)(R:Addr)(L i:Nat)(tb:XK->TS)(ts:Addr->Addr->TS):TS:=λD σ H=>∃E1:XK,tb E1 D σ H /\
 ∀(C:Addr) (od:Option Addr) (H':Hp) (a:Addr) (σ':St),E1 (.ref C) od H'->σ'.length=L->PySem.W.subIn K (.ref C) (.ref R)=some true/\ts a C (sO i D) (σ'.set i (some (.ref a))) H'
section
variable {X:Cx} {pins:List (Addr×Obj)} {D:Ends} {f:Flow} {s:Shared}
theorem SP.uZ{E:Value->Shared->Prop}(ok:X.Ok)(h:SP {X with pn:=X.pn++pins,xe:=E} [] D f s):SP X pins D f s:=by
 cases f with
 |next=>obtain⟨σ',H',I,q⟩:=h;exact⟨σ',H',I.uZ ok,q⟩
 |brk=>obtain⟨σ',H',I,q⟩:=h;exact⟨σ',H',I.uZ ok,q⟩
 |cont=>obtain⟨σ',H',I,q⟩:=h;exact⟨σ',H',I.uZ ok,q⟩
 |ret u=>obtain⟨v,σ',H',I,r,q⟩:=h;exact⟨v,σ',H',I.uZ ok,r,q⟩
end
theorem GI{X:Cx}{x n:Str}{R:Addr}{i:Nat}{body E5:List Stmt}{b0:Stmt}{np Kj pos:Pos}{tb:XK->TS}{ts:Addr->Addr->TS}(fr:J7 X)(hN:X.N.Nodup)(hi:X.N[i]?=some n)(hl:X.env.scope.names.lookup n=some .local)(hf:X.fn n=true)
  (hg:Gl X x) (hm:X.mg x=some (.ref R)) (hR:Gy X.K R) (hb:∀pn E1,gi (X.tr pn E1) body (tb E1)) (hs:∀pn a C,Hd (X.hn pn a) a C->gi (X.hn pn a) (b0::E5) (ts a C))
  (hd:(x == ("__debug__":Str))=false:=by decide):PS X (.Try body [.ExceptHandler (some (.Name x np)) (some n) (b0::E5) Kj] [] [] pos) (Og X.K R X.N.length i tb ts):=by
 intro pins s σ H D I h
 obtain⟨E1,va,hh⟩:=h
 have ok:=I.ok
 refine wpAny_Try_except (wpAny_mono (hb (X.pn++pins) E1 [] s σ H D (I.N3 _) va) (λf s1 q=>?_) λe s1 q=>?_)
 ·have q':=SP.uZ ok q
  cases f with
  |next=>exact wpAny_execs_nil q'
  |brk=>exact q'
  |cont=>exact q'
  |ret u=>exact q'
 obtain⟨σ',H0,s0,J,a,C,H',rfl,UN,hE⟩:=q
 obtain⟨yB,UO⟩:=hh C none H' a σ' hE J.len
 have Oh:∀{b:Addr},s0.heap.get? b=none->b≠X.env.locals:=λz e=>by
  obtain⟨m,⟨o,_,_,ho,_⟩,_⟩:=J.loc
  rw [e] at z
  rw [z] at ho;cases ho
 have UP:∀{b:Addr},s0.heap.get? b=none->b∉X.fs:=λz e=>by
  obtain⟨_,o,ho,_⟩:=J.ib.mem e
  rw [z] at ho;cases ho
 have hand:∀{fl:Value} {s2:Shared} (f2:Fl X.prog X.w X.stack H0 s0 H' a C fl s2),∃t T,s2.heap.get? a=some (lA C t (.ref T))/\Inv (X.hn ((a,lA C t (.ref T))::(X.pn++pins)) a) [] σ' H' s2:=λ{fl s2} f2=>by
  obtain⟨T,⟨⟨t,ha⟩,_⟩,_⟩:=f2.ex
  exact⟨t,T,ha,(f2.inv (X:={X with pn:=X.pn++pins}) J).N4 ha f2.na (Oh f2.new) (UP f2.new) (by intro v z;cases z)⟩
 refine UN.note (X:={X with pn:=X.pn++pins}) J fr.st fr.fr ok.frames λs2 f2=>?_
 refine f2.land (X:={X with pn:=X.pn++pins}) (f2.Mo (X:={X with pn:=X.pn++pins}) J) λs3 f3=>?_
 obtain⟨t3,T3,AM,I3⟩:=hand f3
 refine wpAny_handleBy_cons (codeAny_handlers_test ?_) (by intro z;cases z)
 refine iI (X:=X.hn ((a,lA C t3 (.ref T3))::(X.pn++pins)) a) I3 hg hm ?_ hd
 refine Dq I3.kx hR AM rfl yB ?_
 refine codeAny_handlers_suite_as ?_
 refine f3.land (X:={X with pn:=X.pn++pins}) (f3.Mo (X:={X with pn:=X.pn++pins}) J) λs4 f4=>?_
 obtain⟨t4,T4,JZ,I4⟩:=hand f4
 refine ny (X:=X.hn ((a,lA C t4 (.ref T4))::(X.pn++pins)) a) (v:=.ref a) I4 hN hi (.inl hl) rfl (λs5 I5=>?_) (.inl hf)
 refine wpAny_mono (hs _ a C ⟨rfl,t4,.ref T4,List.mem_cons_self⟩ [] s5 _ H' (sO i D) I5 UO) (λfl s6 q6=>?_) λ_ _ z=>z.elim
 have UQ:Cx.Ok {X with pn:=X.pn++pins}:=ok.N2 _ _
 have go:∀{σ6:St} {H6:Hp} {Q:Unit->Shared->Prop},Inv (X.hn ((a,lA C t4 (.ref T4))::(X.pn++pins)) a) [] σ6 H6 s6->(∀s7,Inv X pins (σ6.set i none) H6 s7->Q () s7) ->
   wpAny (model X.prog X.w) X.A (do bindName X.env n .none;unbindBehindTheSuite X.env n Kj) Q X.xe s6:=λ{σ6 H6 Q} I6 k=>by
  have J6:Inv X pins σ6 H6 s6:=Inv.uZ (E:=X.xe) ok (I6.N5 UQ)
  obtain⟨m,hn,_⟩:=id J6.loc
  refine wpAny_nameGoes_keeps hl hn (by rw [ok.kind];rfl) λh' v Cv IF=>?_
  exact k _ (J6.N6 hN hi hl hn Cv IF)
 cases fl with
 |next=>obtain⟨σ6,H6,I6,q⟩:=q6;exact go I6 λs7 I7=>⟨_,_,I7,q⟩
 |brk=>obtain⟨σ6,H6,I6,q⟩:=q6;exact go I6 λs7 I7=>⟨_,_,I7,q⟩
 |cont=>obtain⟨σ6,H6,I6,q⟩:=q6;exact go I6 λs7 I7=>⟨_,_,I7,q⟩
 |ret u=>obtain⟨v,σ6,H6,I6,r,q⟩:=q6;exact go I6 λs7 I7=>⟨v,_,_,I7,r,q⟩
structure nW (k:Nat) (A:Around) (a:Addr):Prop where
 hd:A.handled=some (.ref a)
 dp:A.depth+3*k+5<recursionLimit
 un:A.units+16*k+200<cLine
theorem fe.hand{k:Nat}{A:Around}(r:fe k A)(a:Addr):nW k (A.mark (some (.ref a))) a:=⟨rfl,r.dp,r.un⟩
theorem nW.deeper{k:Nat}{A:Around}{a:Addr}(r:nW (k+1) A a)(env:Env):nW k (A.deeper env) a:=
 ⟨r.hd,by have:=r.dp;show A.depth+1+3*k+5<_;omega,by have:=r.un;show A.units+3+16*k+200<_;omega⟩
abbrev Oi (P:Program) (w:World) (K:PySem.W.Frag) (mg:Str->Option Value) (base:Heap) (N:List Str) (qual:Str) (scope:Scope) (f:Addr) (cd:Value) (A:Around) (outer:List Env) (s:Shared) (H:Hp) (a:Addr) (oe:Obj):Cx:=
 {(kE rZ P w K mg base N qual scope f cd A outer s H E0).EK with calm:=false,pn:= [(a,oe)]}
structure vn (P:Program) (w:World) (K:PySem.W.Frag) (mg:Str->Option Value) (base:Heap) (k:Nat) (x:Str) (ps:List Str) (sp:Addr->Addr->Sp):Prop where
 ex:∃(f:Addr) (fd:FuncData),(∀(A:Around) (outer:List Env) (s:Shared) (H:Hp) (args:Args) (us:List Value) (vs:List V) (Q:VK) (a C t:Addr) (tb:Value),nW k A a->rP P w K mg base A outer s H->s.heap.get? a=some (lA C t tb)->H a=none ->
   a∉nq outer->BindsTo s fd args (ps.zip us)->Vals vs us->sp a C vs H Q E0->codeAny (model P w) A (.call (.ref f) args) (CR rZ outer P w H s Q E0) s) /\
  (∀a C vs H Q E,sp a C vs H Q E->vs.length=ps.length)/\mg x=some (.ref f)/\PySem.W.keepIn K (.ref f)=true/\Binds K fd ps []
section
variable {P:Program} {w:World} {K:PySem.W.Frag} {mg:Str->Option Value} {base:Heap} {x:Str} {st:Stmt} {ps N:List Str} {k:Nat} {sp:Addr->Addr->Sp}
theorem Src.UR(S:Src K mg x st ps)(F:aO N ps (ao st))(len:∀a C vs H Q E,sp a C vs H Q E->vs.length=ps.length)
  (jj:∀(f:Addr) (cD:Value) (A:Around) (outer:List Env) (s:Shared) (H:Hp) (vs:List V) (Q:VK) (a C t:Addr) (tb:Value),nW k (A.deeper (envOfC x (ao st) s.heap.objs.size f cD)) a->sp a C vs H Q E0 ->
   Hd (Oi P w K mg base N x (ao st) f cD A outer s H a (lA C t tb)) a C ->
   ∃tt,gi (Oi P w K mg base N x (ao st) f cD A outer s H a (lA C t tb)) (dv st) tt/\tt {nx:=λ_ H'=>Q .eh H',rt:=Q} (start N vs) H):vn P w K mg base (k+1) x ps sp:=by
 obtain⟨f,fd,F0,hm,hb⟩:=S.ex
 obtain⟨oc,od,kV,doc,pm,an,cD,ct,uC,rfl,lk,rL⟩:=F0.ex
 refine⟨f,_,λA outer s H args us vs Q a C t tb hr e0 R6 E6 yI US r wI=>?_,len,hm,F0.kp,hb⟩
 have hl:=len _ _ _ _ _ _ wI
 have KX:K.In s.heap:=e0.mod.Ct.keeps λb o e=>(e0.bs b o e).1
 have lim:s.heap.NoLimit:=e0.mod.nolimit.keeps λb o e=>(e0.bs b o e).1
 have Ah:∀y∈ps.zip us,(ao st).names.lookup y.1=some .local\/((ao st).names.lookup y.1=some .cell/\((cellsFrom (s.heap.objs.size+1) (ao st).names []).lookup y.1).isSome=true):=λ⟨n,v⟩ hy=>by
  rcases F.par n (List.of_mem_zip hy).1 with q|q
  ·exact .inl q
  ·exact .inr ⟨q,PySem.W.cellsFrom_some _ _ _ (.inl q)⟩
 refine codeAny_call_function (by have:=hr.dp;omega) (KX _ _ lk) rfl F.co F.gen rfl (PySem.W.codeRec_of KX rL) (US _ _ _ _ ?_)
 refine wpAny_newFunctionEnv_cells F.kind Ah λenv he s1 y=>?_
 subst he
 refine⟨lim.keeps y.toInCall.keep,codeAny_func ?_⟩
 have J0:Inv (kE rZ P w K mg base N x (ao st) f cD {A with handled:=none} outer s H E0) [] (start N vs) H s1:=pC F rfl ⟨e0.frames,e0.mod,e0.bs,e0.wy,e0.ib,e0.zR,e0.cw,e0.bare⟩ hl r y
 have eQ:a<s.heap.objs.size:=Heap.lt_size R6
 have I:Inv (Oi P w K mg base N x (ao st) f cD A outer s H a (lA C t tb)) [] (start N vs) H s1:=by
  refine⟨⟨J0.ok.mod,J0.ok.kind,J0.ok.glob,J0.ok.blt,J0.ok.above,J0.ok.inj,J0.ok.has,J0.ok.EE,λz=>(Bool.false_ne_true z).elim,J0.ok.frames,J0.ok.FK,J0.ok.Cb,J0.ok.bs,J0.ok.wy,J0.ok.qg,J0.ok.rK,J0.ok.ib,J0.ok.zR⟩,J0.os,J0.bare,J0.base,J0.loc,J0.cell,J0.free,J0.gs,λp hp=>?_,J0.cw,J0.len⟩
  have e:p=(a,lA C t tb):=by simpa using hp
  subst e
  exact⟨y.toInCall.keep _ _ R6,E6,Nat.ne_of_lt (Nat.lt_of_lt_of_le eQ J0.ok.above),yI,by intro v z;cases z⟩
 obtain⟨tt,ht,hq⟩:=jj f cD A outer s H vs Q a C t tb (hr.deeper _) wI ⟨hr.hd,t,tb,by simp⟩
 refine wpAny_mono (ht [] s1 (start N vs) H _ I hq) (λfl s' hs=>?_) λe s' hs=>hs.elim
 cases fl with
 |ret u=>
  obtain⟨v,σ',H',J,rv,q⟩:=hs
  exact⟨v,H',J.os,J.bare,J.base,J.cw,rv,q⟩
 |next=>
  obtain⟨σ',H',J,q⟩:=hs
  exact⟨.eh,H',J.os,J.bare,J.base,J.cw,rfl,q⟩
 |brk=>
  obtain⟨_,_,_,q⟩:=hs
  exact False.elim q
 |cont=>
  obtain⟨_,_,_,q⟩:=hs
  exact False.elim q
end
theorem vn.mono{P:Program}{w:World}{K:PySem.W.Frag}{mg:Str->Option Value}{base:Heap}{x:Str}{ps:List Str}{j k:Nat}{sp:Addr->Addr->Sp}(D:vn P w K mg base j x ps sp)(h:j<=k):vn P w K mg base k x ps sp:=by
 obtain⟨f,fd,run,r⟩:=D.ex
 exact⟨f,fd,λA outer s H args us vs Q a C t tb hr=>run A outer s H args us vs Q a C t tb ⟨hr.hd,by have:=hr.dp;omega,by have:=hr.un;omega⟩,r⟩
theorem Dv{X:Cx}{k:Nat}{x:Str}{ps:List Str}{sp:Addr->Addr->Sp}{a C:Addr}{p pos:Pos}{e:Expr}{es:List Expr}{t:TA}(D:vn X.prog X.w X.K X.mg X.base k x ps sp)(hh:Hd X a C)(hr:nW k X.A a)(hg:Gl X x)(ha:PA X (e::es) t)
  (qm:(x == ("__debug__":Str))=false:=by decide) (gM:(e::es).all gE=true:=by rfl):PE X (.Call (.Name x p) (e::es) [] pos) (nJ (sp a C) t):=by
 obtain⟨f,fd,run,len,hm,hk,hb⟩:=D.ex
 intro pins s σ H Q I h
 rw [List.all_cons,Bool.and_eq_true] at gM
 refine wpAny_Call_Name_kw (iI I hg hm ?_ qm)
 refine PySem.W.callWith_K (h₀:=X.base) I.ok.mod.Ct hk (cI (ha pos pins s σ H _ I h) λus s1 ⟨vs,H1,I1,r,q⟩=>⟨I1.kx,?_⟩) (ej gM.1) (gz gM.2)
 obtain⟨t0,tb,Kk⟩:=hh.pn
 obtain⟨z1,z2,z3,z4,_⟩:=I1.pin (a,lA C t0 tb) (List.mem_append_left _ Kk)
 have hl:us.length=ps.length:=by rw [<-r.length];exact len _ _ _ _ _ _ q
 have nf:a∉nq X.stack:=λz=>by
  rcases List.mem_cons.mp (I1.qh a z) with e|e
  ·exact z3 e
  ·exact z4 e
 refine wpAny_call (codeAny_mono (run X.A X.stack s1 H1 ⟨us,[]⟩ us vs Q a C t0 tb hr I1.F2 z1 z2 nf (by have w:=hb s1 us I1.kx (by simpa using hl);simpa using w) r q) λres s' hq=>?_)
 cases res with
 |error e=>exact hq.elim
 |ok fl=>
  cases fl with
  |ret u=>exact I1.after hq
  |next=>exact False.elim hq
  |brk=>exact False.elim hq
  |cont=>exact False.elim hq
theorem wW{X:Cx}{tg l:Expr}{body:List Stmt}{tl:TE}{g:TG}{tb:TS}{pos:Pos}{a0 C:Addr}(hh:Hd X a0 C)(hp:PassesOwn (model X.prog X.w) X.A X.env X.xe)(hl:PE X l tl)(hg:PG X tg g)(hb:gi X body tb)
  (hs:∀x,foldedSetIterable l X.env x=pure x:=by intro _;rfl):PS X (.For tg l body [] pos) (Jr (Jp X.K tl) g tb):=by
 intro pins s σ H D I h
 refine wpAny_For (cI (hl pins s σ H _ I h) λv s1 ⟨x,H1,I1,r1,a,e,⟨xs,hq⟩,q⟩=>?_) hs
 subst e
 cases r1
 obtain⟨its,rv,p,hz⟩:=I1.tuple hq
 refine wpAny_pyIter_tuple (show s1.heap.IsTuple a its.toArray from p) ?_
 obtain⟨W,⟨m0,w0⟩,turn⟩:=q
 have fp:kB X pins H1 s1.heap.objs.size:=I1.uq (Nat.le_refl _) (I1.cw.fresh (Nat.le_refl _))
 generalize hit:s1.heap.objs.size=it at fp ⊢
 refine codeAny_forLoop_any (λn s'=>∃i σ' H',Inv X pins σ' H' s'/\s'.heap.IsTupleIter it a i/\H' it=none/\W i n σ' H') ?_ m0 ⟨0,σ,H1,I1.kept (t':=s1.toks) (λb o e=>Heap.get?_push_of_some _ e),⟨_,by rw [<-hit];exact Heap.get?_push_size _ rfl,rfl,rfl⟩,fp.1,w0⟩
 rintro n s3 ⟨i,σ3,H3,I3,Js,LX,w3⟩
 have f3:kB X pins H3 it:=⟨LX,fp.2⟩
 obtain⟨f0,f1,f2,f4,f5,f6⟩:=id f3
 rcases turn i n σ3 H3 w3 with ⟨stop,qn⟩|⟨go,N,hN,step⟩
 ·obtain⟨UT,Mz,Oj⟩:=stop
  obtain⟨GJ,Ol,p3,_⟩:=I3.tuple Mz
  have R7:=Ol.length
  obtain⟨t0,Om,Kk⟩:=hh.pn
  have Kl:(a0,lA C t0 Om)∈X.pn++pins:=List.mem_append_left _ Kk
  obtain⟨z1,_⟩:=I3.pin (a0,lA C t0 Om) Kl
  refine wpAny_passesOwn hp (uY hh.hd z1 (f6 _ Kl) Js (show s3.heap.IsTuple a GJ.toArray from p3) (by simp;omega) λh' eb=>?_)
  exact wpAny_execs_nil ⟨σ3,H3,I3.turned (t':=s3.toks) (λb o hb e=>eb b o hb e) f0 f1 f4 f5 f6,qn⟩
 ·obtain⟨UT,x3,Mz,Oj⟩:=go
  obtain⟨GJ,Ol,p3,_⟩:=I3.tuple Mz
  obtain⟨u,hu,ru⟩:=Ol.get Oj
  refine wpAny_passesOwn hp (wpAny_pyNext_tuple_item Js (show s3.heap.IsTuple a GJ.toArray from p3) (x:=u) (by simpa using hu) λh' ur sb=>?_)
  have I4:Inv X pins σ3 H3 {s3 with heap:=h'}:=I3.turned (t':=s3.toks) (λb o hb e=>(sb.2 b hb).trans e) f0 f1 f4 f5 f6
  obtain⟨ot,et,ct,dt⟩:=id ur
  refine wpAny_passesOwn hp (wA (s:={s3 with heap:=h'}) et ct dt (by decide) ?_)
  have I5:=I4.pinned (fp:= [it]) (λb hb=>by rw [List.mem_singleton.mp hb];exact f3) (λb hb=>by rw [List.mem_singleton.mp hb];exact⟨ot,et,λv z=>by rw [dt] at z;cases z⟩)
  refine wpAny_passesOwn hp (cI (hg _ {s3 with heap:=h'} σ3 H3 x3 u _ I5 ru (step x3 H3 ⟨rfl,λys hy=>by rw [I3.ip hy Mz];exact Oj⟩)) λ_ s6 ⟨σ6,H6,I6,q6⟩=>?_)
  refine wpAny_passesOwn hp (cI (hb _ s6 σ6 H6 _ I6 q6) λf s7 q7=>?_)
  have again:∀{σ7:St} {H7:Hp},Inv X (pins++j8 [it] h') σ7 H7 s7->N σ7 H7->∃m,m<n/\∃i σ' H',Inv X pins σ' H' s7/\s7.heap.IsTupleIter it a i/\H' it=none/\W i m σ' H':=λ{σ7 H7} I7 n7=>by
   obtain⟨m',UU,w7⟩:=hN σ7 H7 n7
   have pm:(it,ot)∈X.pn++(pins++j8 [it] h'):=List.mem_append_right _ (List.mem_append_right _ (g4 (List.mem_singleton.mpr rfl) et))
   exact⟨m',UU,i+1,σ7,H7,I7.gu,ur.at λo e=>by rw [et] at e;cases e;exact (I7.pin _ pm).1,(I7.pin _ pm).2.1,w7⟩
  cases f with
  |next=>obtain⟨σ7,H7,I7,n7⟩:=q7;exact again I7 n7
  |cont=>obtain⟨σ7,H7,I7,n7⟩:=q7;exact again I7 n7
  |brk=>obtain⟨σ7,H7,I7,q7⟩:=q7;exact⟨σ7,H7,I7.gu,q7⟩
  |ret v=>obtain⟨x7,σ7,H7,I7,r7,q7⟩:=q7;exact⟨x7,σ7,H7,I7.gu,r7,q7⟩
end L2
namespace L2
open PySem PySem.Spec PyProof.Rows PySem.W
structure ExcAt (K:Frag) (C:Addr):Prop where
 ga:findIn K (.ref C) "__getattribute__"=some (some (.builtin "BaseException.__getattribute__"))
 gr:findIn K (.ref C) "__getattr__"=some none
 fo:findObj K C none "__class__"=some (.bind (.builtin "getset_descriptor.__get__") (.builtin "object.__class__"))
 mo:mroIn K C (.type "object")=some true
 ba:subIn K (.ref C) (.type "BaseException")=some true
theorem yJ{prog:Program}{w:World}{A:Around}{E:Value->Shared->Prop}{s:Shared}{K:Frag}{a C:Addr}{ox:Obj}{Q:Option Value->Shared->Prop}(X:K.In s.heap)(I:InstAt s.heap a ox C none)(F:ExcAt K C)
  (h:Q (some (.ref C)) {s with toks:=s.toks+1}):wpAny (model prog w) A (getAttr? (.ref a) "__class__") Q E s:=by
 obtain⟨hh,g,d,t,os⟩:=s
 have L0:=I.type (M:=model prog w)
 have L1:=looks_findIn (M:=model prog w) X F.ga
 have L2:=looks_findIn (M:=model prog w) X F.gr
 have L3:=looks_find (M:=model prog w) X I F.fo
 unfold getAttr? getAttrBy? getAttrBy
 refine wpAny_bind (wpAny_mkText (wpAny_bind (wpAny_attempt (wpAny_holding (wpAny_bind (L0.at (wpAny_bind (L1.at ?_))))))))
 show wpAny _ _ (getAttrByItsOwn _ _ _ _ _ _) _ _ _
 unfold getAttrByItsOwn hookBefore
 refine wpAny_bind ?_
 show wpAny _ _ (typeLookup (.ref C) "__getattr__") _ _ _
 refine L2.at ?_
 refine wpAny_bind (wpAny_attempt (wpAny_holding ?_))
 show wpAny _ _ (boundAndCalled (.builtin "BaseException.__getattribute__") (.ref a) _) _ _ _
 unfold boundAndCalled
 rw [PySem.F.attr_ValueError.ga.bind (.ref a)]
 refine wpAny_bind (wpAny_pure ?_)
 show wpAny _ _ (call (.builtin "BaseException.__getattribute__") [.ref a,.str "__class__" t]) _ _ _
 refine wpAny_call (codeAny_call_builtin PySem.F.attr_ValueError.ga.plain PySem.F.entry_bexc_ga ?_)
 have hk:builtinKind "BaseException.__getattribute__"=some .slot:=by decide +kernel
 have GK:splitId "BaseException.__getattribute__"=some ("BaseException","__getattribute__"):=by decide +kernel
 have Km:=PySem.F.args_bexc_ga (.ref a) (.str "__class__" t)
 have LI:Looks (model prog w) hh (isInstance (.ref a) (.type "BaseException")) true:=L0.andThen (looks_subIn X F.ba)
 simp only [checkBuiltinCall,hk,GK]
 refine wpAny_bind (LI.at ?_)
 rw [if_neg (by decide)]
 refine wpAny_of_eq (a:=()) Km ?_
 unfold Builtin.«object.__getattribute__»
 refine wpAny_bind (wpAny_pure ?_)
 dsimp only
 refine wpAny_bind (wpAny_pure ?_)
 refine wpAny_bind (L0.at (wpAny_bind (L3.at ?_)))
 dsimp only
 show wpAny _ _ ((do let v <-holding [Value.builtin "object.__class__"] (call (.builtin "getset_descriptor.__get__") [.builtin "object.__class__",.ref a,.ref C]);ret v):Sem Fin) _ _ _
 refine wpAny_bind (wpAny_holding (wpAny_call (class_get (ox:=ox) (od:=none) X I F.mo (wpAny_pure ?_))))
 show wpAny _ _ (handedOut (.ref C)) _ _ _
 exact wpAny_pure (wpAny_pure h)
end L2
namespace L2
open PySem PySem.Spec PyProof.Rows PySem.SeqAt
theorem AN{K:PySem.W.Frag}{a C:Addr}{ox:Obj}(F:ExcAt K C)(hc:(PySem.W.clsIn K C).isSome=true):PySem.W.KitX K (.ref a) (.ref C) (λh=>PySem.W.InstAt h a ox C none) where
 ty:=λ_ _ _ I=>I.type
 it:=λ_ _ X _=>pL X hc
 ne:=λh tp dd its n sl X UW=>by
  refine Bool.eq_false_iff.mpr λq=>?_
  have e:C=tp:=Value.ref.inj (beq_iff_eq.mp q)
  subst e
  unfold PySem.W.clsIn at hc
  split at hc
  ·rename_i c' d' Ut Jj ho
   have z:=(X _ _ ho).symm.trans UW
   cases z
  ·cases hc
 ca:=λX I k=>yJ X I F k
theorem ek{X:Cx}{a C:Addr}(hh:Hd X a C)(F:ExcAt X.K C)(hc:(PySem.W.clsIn X.K C).isSome=true) :
  bI X (.builtin "isinstance") (λxs H Q=>∃(c:V) (cv:Value) (b:Bool),xs = [.ref a,c]/\((∃D,c=.ref D/\cv=.ref D)\/∃n,c=.ty n/\cv=.type n)/\PySem.W.kitOne X.K (.ref C) cv=some b/\Q (.bl b) H):=by
 intro pins s σ H xs us Q I r h
 obtain⟨c,cv,b,rfl,UX,hk,q⟩:=h
 obtain⟨u,v,rfl,ru,rv⟩:=r.two
 cases ru
 have ev:v=cv:=by
  rcases UX with ⟨D,rfl,rfl⟩|⟨n,rfl,rfl⟩
  ·exact rv
  ·exact rv
 subst ev
 obtain⟨t0,tb,Kk⟩:=hh.pn
 obtain⟨z1,_⟩:=I.pin (a,lA C t0 tb) (List.mem_append_left _ Kk)
 have J:PySem.W.InstAt s.heap a (lA C t0 tb) C none:=⟨z1,rfl,rfl,trivial⟩
 exact PySem.W.kia_one (AN F hc) I.kx J hk (λz=>nomatch z) λtk=>⟨.bl b,H,I.tok tk,rfl,q⟩
theorem sP{bs:List Bool}{us:List Value}(r:Vals (bs.map V.bl) us):us=bs.map Value.bool:=by
 induction bs generalizing us with
 |nil=>cases r;rfl
 |cons b t ih=>
  cases r with
  |cons r1 r2=>rw [ih r2,(show _=Value.bool b from r1)];rfl
def Kn:Value->Bool
 |.bool b=>b
 |_=>false
theorem AO{A:Around}{s:Shared}(b:Bool):EqAt A s (.bool b) (.bool true) b:=by
 have r1:RelV (.bl b) (.bool b):=rfl
 have r2:RelV (.bl true) (.bool true):=rfl
 have q:=qp (A:=A) (s:=s) r1 r2 rfl rfl
 have e:wL (.bl b) (.bl true)=b:=by cases b<;>rfl
 rw [e] at q
 exact q
theorem nX:∀(bs:List Bool),(bs.map Value.bool).countP Kn=bs.count true
 | []=>rfl
 |b::t=>by
  rw [List.map_cons,List.countP_cons,nX t,List.count_cons]
  cases b<;>rfl
theorem yK{X:Cx}:Ma X "list.count" (λx xs H Q=>∃(l:Addr) (bs:List Bool),x=.ref l/\xs = [.bl true]/\H l=some (.lst (bs.map V.bl))/\Q (.int (bs.count true:Nat)) H):=by
 intro pins s σ H x xs v us Q I rx r h
 obtain⟨l,bs,rfl,rfl,hl,q⟩:=h
 cases rx
 obtain⟨u,rfl,ru⟩:=r.one
 obtain rfl:u=Value.bool true:=ru
 obtain⟨_,its,n,rv,ho⟩:=I.cw l _ hl
 obtain rfl:=sP rv
 refine call_meets PySem.F.slot_list_count ⟨_,ho,rfl⟩ PySem.F.entry_list_count (PySem.F.args_list_count_2 _ _) (list_countAt l (bs.map Value.bool).toArray n none #[] (.bool true) Kn) ⟨ho,λy hy=>?_,⟨.int _,H,I.tok _,⟨_,rfl⟩,?_⟩⟩
 ·have Cf:y∈bs.map Value.bool:=by simpa using hy
  obtain⟨b,_,rfl⟩:=List.mem_map.mp Cf
  exact AO b
 ·rw [show (bs.map Value.bool).toArray.toList=bs.map Value.bool from rfl,nX]
  exact q
theorem yL{X:Cx}:Ma X "list.index" (λx xs H Q=>∃(l:Addr) (bs:List Bool) (j:Nat),x=.ref l/\xs = [.bl true]/\H l=some (.lst (bs.map V.bl))/\j<1000/\bs[j]?=some true/\(∀m,m<j->bs[m]?=some false)/\Q (.int (j:Nat)) H):=by
 intro pins s σ H x xs v us Q I rx r h
 obtain⟨l,bs,j,rfl,rfl,hl,R8,hj,rT,q⟩:=h
 cases rx
 obtain⟨u,rfl,ru⟩:=r.one
 obtain rfl:u=Value.bool true:=ru
 obtain⟨_,its,n,rv,ho⟩:=I.cw l _ hl
 obtain rfl:=sP rv
 obtain⟨UY,UZ⟩:=List.getElem?_eq_some_iff.mp hj
 refine call_meets PySem.F.slot_list_index ⟨_,ho,rfl⟩ PySem.F.entry_list_index (PySem.F.args_list_index_2 _ _) (PySem.MeetsSeq.list_index l (bs.map Value.bool).toArray n (.bool true) Kn (λy hy=>?_) j (by simpa using UY) (by omega) ?_ (λm hm U0=>?_)) ⟨ho,⟨.int _,H,I.tok _,⟨_,rfl⟩,q⟩⟩
 ·have Cf:y∈bs.map Value.bool:=by simpa using hy
  obtain⟨b,_,rfl⟩:=List.mem_map.mp Cf
  intro prog w A E s' Q' hq
  exact AO (A:=A) (s:=s') b prog w E Q' hq
 ·simp [UZ,Kn]
 ·have My:m<bs.length:=by simpa using hm
  have z:=rT m U0
  rw [List.getElem?_eq_getElem My] at z
  simp [Option.some.inj z,Kn]
end L2
namespace L2
open PySem PySem.Spec PyProof.Rows
def GL(K:PySem.W.Frag):List V->Hp->VK->Prop:=λxs H Q=>∃p ys,xs = [V.ref p]/\(bX K H p ys\/aR K H p ys)/\Q (V.int ys.length) H
theorem wX{J:It}{tc:TT}{te:TE}{cs σ0:St}{H:Hp}{Qf:Addr->Hp->Prop}(items:List V)(Iv:Addr->Nat->List V->Hp->Prop)(hz:items.length<=10000)(hσ:σ0=none::cs)
  (h0:∀acc,H acc=none->Iv acc 0 [] (upd H acc (.lst [])))
  (Dh:∀acc i ys H2,Iv acc i ys H2->i<items.length->J.go i H2) (sE:∀acc ys H2,Iv acc items.length ys H2->J.stop items.length H2)
  (nN:∀acc i ys H2 x H3,Iv acc i ys H2->i<items.length->J.rM i H2 x H3->H3=H2/\items[i]?=some x)
  (step:∀acc i x ys H2 (kT:VK) (kF:Hp->Prop),H acc=none->items[i]?=some x->Iv acc i ys H2->H2 acc=some (.lst ys) ->
   (∀y H6,H6 acc=some (.lst ys)->Iv acc (i+1) (ys ++ [y]) (upd H6 acc (.lst (ys ++ [y])))->kT y H6)->(∀H5,H5 acc=some (.lst ys)->Iv acc (i+1) ys H5->kF H5) ->
   tc (some x::cs) H2 λb H5=>if b=true then te (some x::cs) H5 kT else kF H5)
  (fin:∀acc ys H',H acc=none->Iv acc items.length ys H'->H' acc=some (.lst ys)->ys.length<=items.length->Qf acc H') :
  ∀acc,H acc=none->∃W:Nat->Nat->St->List V->Hp->Prop,(∃m,W 0 m σ0 [] (upd H acc (.lst [])))/\∀i m σ2 ys H2,W i m σ2 ys H2->H2 acc=some (.lst ys) /\
  ((J.stop i H2/\Qf acc H2)\/(J.go i H2/\ys.length<sizeLine/\∀x H3,J.rM i H2 x H3->fK 0 x σ2 H3 λσ4 H4=>tc σ4 H4 λb H5=>
   if b=true then te σ4 H5 λy H6=>H6 acc=some (.lst ys)/\∃m',m'<m/\W (i+1) m' σ4 (ys ++ [y]) (upd H6 acc (.lst (ys ++ [y]))) else ∃m',m'<m/\W (i+1) m' σ4 ys H5)):=by
 intro acc bR
 subst hσ
 refine⟨λi m σ2 ys H2=>m=items.length-i/\i<=items.length/\(∃x0,σ2=x0::cs)/\ys.length<=i/\H2 acc=some (.lst ys)/\Iv acc i ys H2,
  ⟨_,rfl,Nat.zero_le _,⟨_,rfl⟩,Nat.le_refl _,ae,h0 acc bR⟩,?_⟩
 rintro i _ σ2 ys H2 ⟨rfl,hi,⟨x0,rfl⟩,hp,ha,hr⟩
 refine⟨ha,?_⟩
 by_cases eQ:i<items.length
 ·refine .inr ⟨Dh acc i ys H2 hr eQ,?_,λx H3 hy=>?_⟩
  ·exact Nat.lt_of_le_of_lt (show ys.length<=10000 by omega) (by decide)
  obtain⟨rfl,hx⟩:=nN acc i ys H2 x H3 hr eQ hy
  refine step acc i x ys H3 _ _ bR hx hr ha (λy H6 U1 h6=>?_) (λH5 U2 h5=>?_)
  ·exact⟨U1,_,(by omega:items.length-(i+1)<items.length-i),rfl,eQ,⟨_,rfl⟩,by rw [List.length_append];show ys.length+1<=i+1;omega,ae,h6⟩
  ·exact⟨_,(by omega:items.length-(i+1)<items.length-i),rfl,eQ,⟨_,rfl⟩,by omega,U2,h5⟩
 ·obtain rfl:i=items.length:=by omega
  exact .inl ⟨sE acc ys H2 hr,fin acc ys H2 bR hr ha hp⟩
theorem wY{K:PySem.W.Frag}{a:Addr}{xs:List V}{tc:TT}{te:TE}{cs σ0:St}{H:Hp}{Qf:Addr->Hp->Prop}(Iv:Addr->Nat->List V->Hp->Prop)(hz:xs.length<=10000)(hσ:σ0=none::cs)
  (h0:∀acc,H acc=none->Iv acc 0 [] (upd H acc (.lst []))) (hl:∀acc i ys H2,Iv acc i ys H2->H2 a=some (.lst xs))
  (step:∀acc i x ys H2 (kT:VK) (kF:Hp->Prop),H acc=none->xs[i]?=some x->Iv acc i ys H2->H2 acc=some (.lst ys) ->
   (∀y H6,H6 acc=some (.lst ys)->Iv acc (i+1) (ys ++ [y]) (upd H6 acc (.lst (ys ++ [y])))->kT y H6)->(∀H5,H5 acc=some (.lst ys)->Iv acc (i+1) ys H5->kF H5) ->
   tc (some x::cs) H2 λb H5=>if b=true then te (some x::cs) H5 kT else kF H5)
  (fin:∀acc ys H',H acc=none->Iv acc xs.length ys H'->H' acc=some (.lst ys)->ys.length<=xs.length->Qf acc H') :
  ∀acc,H acc=none->∃W:Nat->Nat->St->List V->Hp->Prop,(∃m,W 0 m σ0 [] (upd H acc (.lst [])))/\∀i m σ2 ys H2,W i m σ2 ys H2->H2 acc=some (.lst ys) /\
  (((EM K a).stop i H2/\Qf acc H2)\/((EM K a).go i H2/\ys.length<sizeLine/\∀x H3,(EM K a).rM i H2 x H3->fK 0 x σ2 H3 λσ4 H4=>tc σ4 H4 λb H5=>
   if b=true then te σ4 H5 λy H6=>H6 acc=some (.lst ys)/\∃m',m'<m/\W (i+1) m' σ4 (ys ++ [y]) (upd H6 acc (.lst (ys ++ [y]))) else ∃m',m'<m/\W (i+1) m' σ4 ys H5)):=
 wX xs Iv hz hσ h0 (λacc i ys H2 q hi=>⟨xs,_,bX.of (hl acc i ys H2 q),List.getElem?_eq_getElem hi⟩) (λacc ys H2 q=>⟨xs,bX.of (hl acc _ ys H2 q),Nat.le_refl _⟩)
  (λacc i ys H2 x H3 q _ y=>⟨y.1,y.2 xs (bX.of (hl acc i ys H2 q))⟩) step fin
theorem wZ{K:PySem.W.Frag}{a:Addr}{xs:List V}{tc:TT}{te:TE}{cs σ0:St}{H:Hp}{Qf:Addr->Hp->Prop}(Iv:Addr->Nat->List V->Hp->Prop)(hz:xs.length<=10000)(hσ:σ0=none::cs)
  (h0:∀acc,H acc=none->Iv acc 0 [] (upd H acc (.lst []))) (hl:∀acc i ys H2,Iv acc i ys H2->H2 a=some (.tup xs))
  (step:∀acc i x ys H2 (kT:VK) (kF:Hp->Prop),H acc=none->xs[i]?=some x->Iv acc i ys H2->H2 acc=some (.lst ys) ->
   (∀y H6,H6 acc=some (.lst ys)->Iv acc (i+1) (ys ++ [y]) (upd H6 acc (.lst (ys ++ [y])))->kT y H6)->(∀H5,H5 acc=some (.lst ys)->Iv acc (i+1) ys H5->kF H5) ->
   tc (some x::cs) H2 λb H5=>if b=true then te (some x::cs) H5 kT else kF H5)
  (fin:∀acc ys H',H acc=none->Iv acc xs.length ys H'->H' acc=some (.lst ys)->ys.length<=xs.length->Qf acc H') :
  ∀acc,H acc=none->∃W:Nat->Nat->St->List V->Hp->Prop,(∃m,W 0 m σ0 [] (upd H acc (.lst [])))/\∀i m σ2 ys H2,W i m σ2 ys H2->H2 acc=some (.lst ys) /\
  (((wB K a).stop i H2/\Qf acc H2)\/((wB K a).go i H2/\ys.length<sizeLine/\∀x H3,(wB K a).rM i H2 x H3->fK 0 x σ2 H3 λσ4 H4=>tc σ4 H4 λb H5=>
   if b=true then te σ4 H5 λy H6=>H6 acc=some (.lst ys)/\∃m',m'<m/\W (i+1) m' σ4 (ys ++ [y]) (upd H6 acc (.lst (ys ++ [y]))) else ∃m',m'<m/\W (i+1) m' σ4 ys H5)):=
 wX xs Iv hz hσ h0 (λacc i ys H2 q hi=>⟨xs,_,aR.of (hl acc i ys H2 q),List.getElem?_eq_getElem hi⟩) (λacc ys H2 q=>⟨xs,aR.of (hl acc _ ys H2 q),Nat.le_refl _⟩)
  (λacc i ys H2 x H3 q _ y=>⟨y.1,y.2 xs (aR.of (hl acc i ys H2 q))⟩) step fin
theorem iR{h h':Heap}{c:Addr}{T:String}{x:Str}{t:Tok}{i:Nat}(z:h.IsStrIter c T x t i)(k:∀o,h.get? c=some o->h'.get? c=some o):h'.IsStrIter c T x t i:=by
 obtain⟨o,a,b,d⟩:=z
 exact⟨o,k o a,b,d⟩
section
variable {P:Program} {w:World} {A:Around} {E:Value->Shared->Prop} {s:Shared}
structure sQ (h:Heap) (z a b c d:Addr) (x0:Str) (t0:Tok) (t2:Addr) (k:Nat) (f0:Value):Prop where
 zip:IsZip h z a b f0
 its:IsPair h a (.ref c) (.ref d)
 own:∃x y,IsPair h b x y
 i1:h.IsStrIter c "str_ascii_iterator" x0 t0 k
 i2:h.IsTupleIter d t2 k
theorem yM(hh:A.handled=none){z a b c d t2:Addr}{x0:Str}{t0:Tok}{cc k:Nat}{ys:Array Value}{y:Value}{Q:Value->Shared->Prop}(D:yA z a b c d)(Z:sQ s.heap z a b c d x0 t0 t2 k .none)
  (o2:t2≠z/\t2≠b/\t2≠c/\t2≠d) (mz:s.heap.IsTuple t2 ys) (hx:x0.cps[k]?=some cc) (hy:ys[k]?=some y)
  (hQ:∀hp tk u,sQ hp z a b c d x0 t0 t2 (k+1) (rawInt s.heap.objs.size)->IsPair hp s.heap.objs.size (.str ⟨#[cc]⟩ u) y->(∀e o,e≠z->e≠b->e≠c->e≠d->s.heap.get? e=some o->hp.get? e=some o)->Q (.ref s.heap.objs.size) {s with heap:=hp,toks:=tk}) :
  wpAny (model P w) A (Builtin.«zip.__next__» ⟨[.ref z],[]⟩) (λfin s'=>∃v,fin=.done (.ret v)/\Q v s') E s:=by
 obtain⟨zz,zi,⟨p,q,zo⟩,z1,z2⟩:=Z
 have eQ:k<x0.cps.size:=by
  obtain⟨h,_⟩:=Array.getElem?_eq_some_iff.mp hx
  exact h
 show wpAny _ _ (field (.ref z) 2 >>= _) _ _ _
 refine wpAny_bind (wpAny_field zz rfl (x:=.bool false) rfl ?_)
 show wpAny _ _ (field (.ref z) 3 >>= _) _ _ _
 refine wpAny_bind (wpAny_field zz rfl (x:=.ref a) rfl ?_)
 refine wpAny_bind (wpAny_seqItems zi rfl ?_)
 show wpAny _ _ (Builtin.SmallTypes.ownedTupleIsFree (.ref z) >>= _) _ _ _
 refine wpAny_bind ?_
 unfold Builtin.SmallTypes.ownedTupleIsFree
 refine wpAny_bind (wpAny_field zz rfl (x:=.none) rfl (wpAny_pure ?_))
 simp only [if_true]
 refine wpAny_bind (wpAny_rule ?_)
 refine wpAny_bind (wpAny_field zz rfl (x:=.ref b) rfl ?_)
 refine wpAny_bind (wpAny_setField_rec zz (by simp) λk1 y1 s1=>?_)
 replace y1:IsZip k1 z a b .ellipsis:=y1
 refine wpAny_bind ?_
 simp only [List.zipIdx_cons,List.zipIdx_nil,List.forIn_cons,List.forIn_nil]
 refine wpAny_bind (wpAny_bind (wpAny_onRaise ?_))
 show wpAny _ _ (Builtin.SmallTypes.nextOf (.ref c) >>= _) _ _ _
 refine wpAny_bind ((Draws.strAscii hh c x0 t0).item k _ _ _ eQ (iR z1 λo g=>s1.extBut _ _ D.cz g) λv k2 tk hv y2 s2=>wpAny_pure ?_)
 obtain⟨c',u,mw,rfl⟩:=hv
 rw [hx] at mw
 cases mw
 have w2:IsPair k2 b p q:=s2.extBut _ _ D.bc (s1.extBut _ _ D.bz zo)
 refine wpAny_bind (wpAny_seqItems w2 rfl ?_)
 refine wpAny_bind (wpAny_updateSeq_pair w2 λk3 y3 s3=>?_)
 replace y3:IsPair k3 b (.str ⟨#[cc]⟩ u) q:=y3
 refine wpAny_bind (wpAny_letGo (wpAny_pure ?_))
 refine wpAny_bind (wpAny_bind (wpAny_onRaise ?_))
 show wpAny _ _ (Builtin.SmallTypes.nextOf (.ref d) >>= _) _ _ _
 refine wpAny_bind (kM (((z2.extBut s1.extBut D.dz).extBut s2.extBut D.cd.symm).extBut s3.extBut D.bd.symm) (((mz.extBut s1.extBut o2.1).extBut s2.extBut o2.2.2.1).extBut s3.extBut o2.2.1) hy λk4 y4 s4=>wpAny_pure ?_)
 have w4:IsPair k4 b (.str ⟨#[cc]⟩ u) q:=s4.extBut _ _ D.bd y3
 refine wpAny_bind (wpAny_seqItems w4 rfl ?_)
 refine wpAny_bind (wpAny_updateSeq_pair w4 λk5 y5 s5=>?_)
 replace y5:IsPair k5 b (.str ⟨#[cc]⟩ u) y:=y5
 refine wpAny_bind (wpAny_letGo (wpAny_pure (wpAny_pure ?_)))
 refine wpAny_bind (wpAny_seqItems y5 rfl ?_)
 refine wpAny_bind (wpAny_newTuple ?_)
 have sz:k5.objs.size=s.heap.objs.size:=by rw [s5.1,s4.1,s3.1,s2.1,s1.1]
 have JQ:IsZip k5 z a b .ellipsis:=s5.extBut _ _ D.bz.symm (s4.extBut _ _ D.dz.symm (s3.extBut _ _ D.bz.symm (s2.extBut _ _ D.cz.symm y1)))
 have JR:∀e o,e≠z->e≠b->e≠c->e≠d->s.heap.get? e=some o->k5.get? e=some o:=λe o e1 e2 e3 e4 g=>s5.extBut _ _ e2 (s4.extBut _ _ e4 (s3.extBut _ _ e2 (s2.extBut _ _ e3 (s1.extBut _ _ e1 g))))
 have c5:k5.IsStrIter c "str_ascii_iterator" x0 t0 (k+1):=iR y2 λo g=>s5.extBut _ _ D.bc.symm (s4.extBut _ _ D.cd (s3.extBut _ _ D.bc.symm g))
 have d5:k5.IsTupleIter d t2 (k+1):=y4.extBut s5.extBut D.bd.symm
 have JS:z<k5.objs.size:=Heap.lt_size JQ
 show wpAny _ _ (Builtin.SmallTypes.ownedTupleHandOut (.ref z) (.ref k5.objs.size) >>= _) _ _ _
 refine wpAny_bind ?_
 unfold Builtin.SmallTypes.ownedTupleHandOut
 have NT:IsZip (k5.push {cls:=.type "tuple",data:=.seq #[.str ⟨#[cc]⟩ u,y]}) z a b .ellipsis:=Heap.get?_push_of_some _ JQ
 refine wpAny_bind (wpAny_setField_rec NT (by simp) λk7 y7 s7=>?_)
 replace y7:IsZip k7 z a b (rawInt k5.objs.size):=y7
 refine wpAny_setField_rec y7 (by simp) λk8 y8 s8=>?_
 replace y8:IsZip k8 z a b (rawInt k5.objs.size):=y8
 have up:∀e o,e≠z->k5.get? e=some o->k8.get? e=some o:=λe o e1 g=>s8.extBut _ _ e1 (s7.extBut _ _ e1 (Heap.get?_push_of_some _ g))
 have t8:IsPair k8 k5.objs.size (.str ⟨#[cc]⟩ u) y:=s8.extBut _ _ (Nat.ne_of_gt JS) (s7.extBut _ _ (Nat.ne_of_gt JS) (Heap.get?_push_size _ rfl))
 rw [sz] at y8 t8
 refine wpAny_pure ⟨_,rfl,?_⟩
 show Q (.ref k5.objs.size) _
 rw [sz]
 exact hQ k8 _ u ⟨y8,up _ _ D.az (JR _ _ D.az D.ab D.ac D.ad zi),⟨_,y,up _ _ D.bz y5⟩,iR c5 λo g=>up _ o D.cz g,d5.at λo g=>up _ o D.dz g⟩ t8 λe o e1 e2 e3 e4 g=>up e o e1 (JR e o e1 e2 e3 e4 g)
theorem AQ{z a b c d t2:Addr}{x0:Str}{t0:Tok}{k:Nat}{ys:Array Value}{Q:Fin->Shared->Prop}(hh:A.handled=none)(hk:k<=x0.cps.size)(D:yA z a b c d)(Z:sQ s.heap z a b c d x0 t0 t2 k .none)
  (o2:t2≠z/\t2≠b/\t2≠c/\t2≠d) (mz:s.heap.IsTuple t2 ys) (uQ:x0.cps.size<=k\/ys[k]?=none)
  (hE:∀hp tk e,(∀f o,f≠z->f≠b->f≠c->f≠d->s.heap.get? f=some o->hp.get? f=some o)->(∃o,hp.get? e=some o/\o.cls=.type "StopIteration")->E (.ref e) {s with heap:=hp,toks:=tk}) :
  wpAny (model P w) A (Builtin.«zip.__next__» ⟨[.ref z],[]⟩) Q E s:=by
 obtain⟨zz,zi,⟨p,q,zo⟩,z1,z2⟩:=Z
 show wpAny _ _ (field (.ref z) 2 >>= _) _ _ _
 refine wpAny_bind (wpAny_field zz rfl (x:=.bool false) rfl ?_)
 show wpAny _ _ (field (.ref z) 3 >>= _) _ _ _
 refine wpAny_bind (wpAny_field zz rfl (x:=.ref a) rfl ?_)
 refine wpAny_bind (wpAny_seqItems zi rfl ?_)
 show wpAny _ _ (Builtin.SmallTypes.ownedTupleIsFree (.ref z) >>= _) _ _ _
 refine wpAny_bind ?_
 unfold Builtin.SmallTypes.ownedTupleIsFree
 refine wpAny_bind (wpAny_field zz rfl (x:=.none) rfl (wpAny_pure ?_))
 simp only [if_true]
 refine wpAny_bind (wpAny_rule ?_)
 refine wpAny_bind (wpAny_field zz rfl (x:=.ref b) rfl ?_)
 refine wpAny_bind (wpAny_setField_rec zz (by simp) λk1 y1 s1=>?_)
 replace y1:IsZip k1 z a b .ellipsis:=y1
 refine wpAny_bind ?_
 simp only [List.zipIdx_cons,List.zipIdx_nil,List.forIn_cons,List.forIn_nil]
 refine wpAny_bind (wpAny_bind (wpAny_onRaise ?_))
 show wpAny _ _ (Builtin.SmallTypes.nextOf (.ref c) >>= _) _ _ _
 have hle:k<=x0.cps.size:=hk
 by_cases hx:k=x0.cps.size
 ·subst hx
  refine wpAny_bind ((Draws.strAscii hh c x0 t0).done _ _ _ (iR z1 λo g=>s1.extBut _ _ D.cz g) λk2 e s2 he=>?_)
  obtain⟨oe,uR,Au⟩:=he
  have JT:IsZip k2 z a b .ellipsis:=s2 _ _ D.cz.symm y1
  have ez:e≠z:=λg=>by subst g;rw [JT] at uR;cases uR;simp at Au
  refine wpAny_setField_rec JT (by simp) λk3 _ s3=>hE k3 _ e (λf o f1 _ f3 _ g=>s3.extBut _ _ f1 (s2 _ _ f3 (s1.extBut _ _ f1 g))) ⟨oe,s3.extBut _ _ ez uR,Au⟩
 ·have eQ:k<x0.cps.size:=by omega
  have hy:ys[k]?=none:=by
   rcases uQ with h|h
   ·omega
   ·exact h
  refine wpAny_bind ((Draws.strAscii hh c x0 t0).item k _ _ _ eQ (iR z1 λo g=>s1.extBut _ _ D.cz g) λv k2 tk hv y2 s2=>wpAny_pure ?_)
  have w2:IsPair k2 b p q:=s2.extBut _ _ D.bc (s1.extBut _ _ D.bz zo)
  refine wpAny_bind (wpAny_seqItems w2 rfl ?_)
  refine wpAny_bind (wpAny_updateSeq_pair w2 λk3 y3 s3=>?_)
  refine wpAny_bind (wpAny_letGo (wpAny_pure ?_))
  refine wpAny_bind (wpAny_bind (wpAny_onRaise ?_))
  show wpAny _ _ (Builtin.SmallTypes.nextOf (.ref d) >>= _) _ _ _
  refine wpAny_bind (iO hh (((z2.extBut s1.extBut D.dz).extBut s2.extBut D.cd.symm).extBut s3.extBut D.bd.symm) (((mz.extBut s1.extBut o2.1).extBut s2.extBut o2.2.2.1).extBut s3.extBut o2.2.1) hy λk4 e s4 he=>?_)
  obtain⟨oe,uR,Au⟩:=he
  have JU:IsZip k4 z a b .ellipsis:=s4 _ _ D.dz.symm (s3.extBut _ _ D.bz.symm (s2.extBut _ _ D.cz.symm y1))
  have ez:e≠z:=λg=>by subst g;rw [JU] at uR;cases uR;simp at Au
  refine wpAny_setField_rec JU (by simp) λk5 _ s5=>hE k5 _ e (λf o f1 f2 f3 f4 g=>s5.extBut _ _ f1 (s4 _ _ f4 (s3.extBut _ _ f2 (s2.extBut _ _ f3 (s1.extBut _ _ f1 g))))) ⟨oe,s5.extBut _ _ ez uR,Au⟩
theorem yN(hh:A.handled=none){z a b c d t2:Addr}{x0:Str}{t0:Tok}{cc k:Nat}{ys:Array Value}{y:Value}{Q:Option Value->Shared->Prop}(D:yA z a b c d)(Z:sQ s.heap z a b c d x0 t0 t2 k .none)
  (o2:t2≠z/\t2≠b/\t2≠c/\t2≠d) (mz:s.heap.IsTuple t2 ys) (hx:x0.cps[k]?=some cc) (hy:ys[k]?=some y)
  (hQ:∀hp tk u,sQ hp z a b c d x0 t0 t2 (k+1) (rawInt s.heap.objs.size)->IsPair hp s.heap.objs.size (.str ⟨#[cc]⟩ u) y->(∀e o,e≠z->e≠b->e≠c->e≠d->s.heap.get? e=some o->hp.get? e=some o)->Q (some (.ref s.heap.objs.size)) {s with heap:=hp,toks:=tk}) :
  wpAny (model P w) A (pyNext (.ref z)) Q E s:=by
 have hT:s.TypeIs (.ref z) "zip":=⟨_,Z.zip,rfl⟩
 unfold pyNext
 exact wpAny_bind (wpAny_attempt (wpAny_callSpecial?_slot (name:=Str.ofString "__next__") hT F.slot_zip_next (wpAny_call_entry F.slot_zip_next hT F.entry_zip_next
  (yM (A:=A.in1) hh D Z o2 mz hx hy λhp tk u q1 q2 q3=>wpAny_pure (hQ hp tk u q1 q2 q3)) (F.args_zip_next_1 _))))
theorem yO{z a b c d t2:Addr}{x0:Str}{t0:Tok}{k:Nat}{ys:Array Value}{Q:Option Value->Shared->Prop}(hh:A.handled=none)(hk:k<=x0.cps.size)(D:yA z a b c d)(Z:sQ s.heap z a b c d x0 t0 t2 k .none)
  (o2:t2≠z/\t2≠b/\t2≠c/\t2≠d) (mz:s.heap.IsTuple t2 ys) (uQ:x0.cps.size<=k\/ys[k]?=none)
  (hQ:∀hp tk,(∀f o,f≠z->f≠b->f≠c->f≠d->s.heap.get? f=some o->hp.get? f=some o)->Q none {s with heap:=hp,toks:=tk}):wpAny (model P w) A (pyNext (.ref z)) Q E s:=by
 have hT:s.TypeIs (.ref z) "zip":=⟨_,Z.zip,rfl⟩
 unfold pyNext
 refine wpAny_bind (wpAny_attempt (wpAny_callSpecial?_slot (name:=Str.ofString "__next__") hT F.slot_zip_next
  (wpAny_call_entry F.slot_zip_next hT F.entry_zip_next (AQ (A:=A.in1) hh hk D Z o2 mz uQ λhp tk e hk he=>?_) (F.args_zip_next_1 _))))
 obtain⟨o,ho,hc⟩:=he
 refine wpAny_bind (wpAny_isInstance (T:="StopIteration") (b:=true) ⟨o,ho,hc⟩ isSubtype_stop ?_)
 exact wpAny_pure (hQ _ _ hk)
end
def AR(K:PySem.W.Frag)(x0:Str)(t2:Addr):It:=
  ⟨λi H => ∃ys c y,x0.cps[i]?=some c/\aR K H t2 ys/\ys[i]?=some y,
   λi H v H' => ∃T,H T=none/\v=.ref T/\∀ys c y,x0.cps[i]?=some c->aR K H t2 ys->ys[i]?=some y->H'=upd H T (.tup [.str ⟨#[c]⟩,y]),
   λi H => i<=x0.cps.size/\∃ys,aR K H t2 ys/\(x0.cps.size<=i\/ys.length<=i)⟩
theorem pN{P:Program}{w:World}{K:PySem.W.Frag}{es:List Expr}{k:Nat}{pos:Pos}{z a b c d t2:Addr}{x0:Str}{t0:Tok}(D:yA z a b c d) :
  Turn P w K (.Tuple es k pos) (AR K x0 t2) [z,a,b,c,d] z (λi h=>sQ h z a b c d x0 t0 t2 i .none) where
 mem:=by simp
 obj:=λi h st e he=>by
  obtain⟨zz,zi,⟨p,q,zo⟩,⟨o1,e1,c1,d1⟩,⟨o2,e2,c2,d2⟩⟩:=st
  simp at he
  rcases he with rfl|rfl|rfl|rfl|rfl
  ·exact⟨_,zz,λv g=>by cases g⟩
  ·exact⟨_,zi,λv g=>by cases g⟩
  ·exact⟨_,zo,λv g=>by cases g⟩
  ·exact⟨_,e1,λv g=>by rw [d1] at g;cases g⟩
  ·exact⟨_,e2,λv g=>by rw [d2] at g;cases g⟩
 keep:=λi h h' st kp=>by
  obtain⟨zz,zi,⟨p,q,zo⟩,z1,z2⟩:=st
  exact⟨kp z (by simp) _ zz,kp a (by simp) _ zi,⟨p,q,kp b (by simp) _ zo⟩,iR z1 λo e=>kp c (by simp) o e,z2.at λo e=>kp d (by simp) o e⟩
 item:=by
  intro X hP hw hK hc i pins s σ H E I hf st hg
  subst hP hw hK
  obtain⟨ys,cc,y,hx,h2,hy⟩:=hg
  obtain⟨gN,r2,p2,l2⟩:=I.tuple h2
  obtain⟨u2,kN,Gr⟩:=r2.get hy
  have qw:=λ(e:Addr) (he:e ∈ [z,a,b,c,d])=>gX I h2 (hf e he)
  refine yN (I.ok.hd hc) D st ⟨qw z (by simp),qw b (by simp),qw c (by simp),qw d (by simp)⟩
   (show s.heap.IsTuple t2 gN.toArray from p2) hx (y:=u2) (by simpa using kN) λhp tk u1 Z' pr kp=>?_
  refine⟨_,rfl,wpAny_letOwnedTupleGo_zip Z'.zip λhq zq sq=>?_⟩
  have nT:H s.heap.objs.size=none:=I.fresh
  have cC:∀e o,e ∉ [z,b,c,d]->s.heap.get? e=some o->hq.get? e=some o:=λe o he g=>by
   simp at he
   exact sq.extBut _ _ he.1 (kp e o he.1 he.2.1 he.2.2.1 he.2.2.2 g)
  have Tz:s.heap.objs.size≠z:=Nat.ne_of_gt (Heap.lt_size st.zip)
  have NU:IsPair hq s.heap.objs.size (.str ⟨#[cc]⟩ u1) u2:=sq.extBut _ _ Tz pr
  have tracked:∀e u,H e=some u->e ∉ [z,b,c,d]:=λe u he hm=>by
   have:H e=none:=(hf e (by simp at hm ⊢;rcases hm with r|r|r|r<;>simp [r])).1
   rw [this] at he;cases he
  have uJ:il X.prog X.w (upd H s.heap.objs.size (.tup [.str ⟨#[cc]⟩,y])) hq:=λe u he=>by
   by_cases ee:e=s.heap.objs.size
   ·subst ee
    rw [ae] at he
    cases he
    exact⟨(by show 2<=sizeLine;decide),[.str ⟨#[cc]⟩ u1,u2],.cons ⟨u1,rfl⟩ (.cons Gr .nil),⟨_,NU,rfl,_,rfl⟩⟩
   ·rw [aK ee] at he
    refine (I.cw e u he).ng (λf o uS g=>cC f o ?_ g) (λf g=>by rw [aK (aL g nT)];exact g) λf zs g=>by rw [aK (aL g nT)];exact g
    rcases uS with rfl|uS
    ·exact tracked f u he
    ·exact tracked f _ uS
  have I1:Inv X pins σ (upd H s.heap.objs.size (.tup [.str ⟨#[cc]⟩,y])) {s with heap:=hq,toks:=tk}:=by
   refine I.step (g':=s.gens) (d':=s.drawn) (t':=tk) (ch:= [z,b,c,d]) (λe he=>?_) (λe o _ _ he g _=>cC e o he g) (λe o _ _ he g _=>⟨o.slots,cC e o he g⟩)
    (λe o _ g n=>by rw [aK (Nat.ne_of_lt (Heap.lt_size g))];exact n) (λe o he g=>⟨o,cC e o he g⟩) (λe zs g=>by rw [aK (aL g nT)];exact g) (λe o u g=>by rw [aK (aL g nT)];exact g)
    (λe ps g=>⟨#[],by rw [aK (aL g nT),g];simp⟩) (λm hm=>?_) uJ I.bare
   ·obtain⟨f0,f1,f2,f3,f4,f5⟩:=hf e (by simp at he ⊢;rcases he with r|r|r|r<;>simp [r])
    exact⟨f3,f1,f4,f5⟩
   ·obtain⟨o,zD,ep,ho,r⟩:=hm
    refine⟨o,zD,ep,cC _ o (λnH=>?_) ho,r⟩
    exact (hf X.env.locals (by simp at nH ⊢;rcases nH with r|r|r|r<;>simp [r])).2.1 rfl
  refine⟨.ref s.heap.objs.size,_,I1,rfl,⟨_,nT,rfl,λRP c' y' gx g2 gy=>?_⟩,?_,λe he=>?_⟩
  ·have e2:=I.ip g2 h2
   subst e2
   rw [hx] at gx;rw [hy] at gy
   cases gx;cases gy
   rfl
  ·obtain⟨_,zi,⟨p,q,zo⟩,z1,z2⟩:=Z'
   exact⟨zq,sq.extBut _ _ D.az zi,⟨p,q,sq.extBut _ _ D.bz zo⟩,iR z1 λo g=>sq.extBut _ _ D.cz g,z2.extBut sq.extBut D.dz⟩
  ·rw [aK]
   ·exact (hf e he).1
   ·obtain⟨o,ho,_⟩:∃o,s.heap.get? e=some o/\True:=by
     obtain⟨zz,zi,⟨p,q,zo⟩,⟨o1,e1,c1,d1⟩,⟨o2,e2,c2,d2⟩⟩:=st
     simp at he
     rcases he with rfl|rfl|rfl|rfl|rfl
     ·exact⟨_,zz,trivial⟩
     ·exact⟨_,zi,trivial⟩
     ·exact⟨_,zo,trivial⟩
     ·exact⟨_,e1,trivial⟩
     ·exact⟨_,e2,trivial⟩
    exact Nat.ne_of_lt (Heap.lt_size ho)
 done:=by
  intro X hP hw hK hc i pins s σ H E I hf st hg
  subst hP hw hK
  obtain⟨hk,ys,h2,hx⟩:=hg
  obtain⟨gN,r2,p2,l2⟩:=I.tuple h2
  have e2:=r2.length
  have qw:=λ(e:Addr) (he:e ∈ [z,a,b,c,d])=>gX I h2 (hf e he)
  refine yO (I.ok.hd hc) hk D st ⟨qw z (by simp),qw b (by simp),qw c (by simp),qw d (by simp)⟩
   (show s.heap.IsTuple t2 gN.toArray from p2) (by
    rcases hx with q|q
    ·exact .inl q
    ·exact .inr (by simp;omega)) λhq tk kp=>⟨rfl,?_⟩
  have cC:∀e o,e ∉ [z,b,c,d]->s.heap.get? e=some o->hq.get? e=some o:=λe o he g=>by
   simp at he
   exact kp e o he.1 he.2.1 he.2.2.1 he.2.2.2 g
  have tracked:∀e u,H e=some u->e ∉ [z,b,c,d]:=λe u he hm=>by
   have:H e=none:=(hf e (by simp at hm ⊢;rcases hm with r|r|r|r<;>simp [r])).1
   rw [this] at he;cases he
  refine I.step (g':=s.gens) (d':=s.drawn) (t':=tk) (ch:= [z,b,c,d]) (λe he=>?_) (λe o _ _ he g _=>cC e o he g) (λe o _ _ he g _=>⟨o.slots,cC e o he g⟩)
   (λe o _ g n=>n) (λe o he g=>⟨o,cC e o he g⟩) (λe zs g=>g) (λe o u g=>g) (λe ps g=>⟨#[],by rw [g];simp⟩) (λm hm=>?_) (λe u he=>?_) I.bare
  ·obtain⟨f0,f1,f2,f3,f4,f5⟩:=hf e (by simp at he ⊢;rcases he with r|r|r|r<;>simp [r])
   exact⟨f3,f1,f4,f5⟩
  ·obtain⟨o,zD,ep,ho,r⟩:=hm
   refine⟨o,zD,ep,cC _ o (λnH=>?_) ho,r⟩
   exact (hf X.env.locals (by simp at nH ⊢;rcases nH with r|r|r|r<;>simp [r])).2.1 rfl
  ·refine (I.cw e u he).ng (λf o uS g=>cC f o ?_ g) (λf g=>g) λf zs g=>g
   rcases uS with rfl|uS
   ·exact tracked f u he
   ·exact tracked f _ uS
 self:=λ_ _ _ _ _ st h=>wpAny_pyIter_zip st.zip h
abbrev MA (h:Heap) (x0:Str) (t0:Tok):Heap:=h.push {cls:=.type "str_ascii_iterator",data:=.fields #[.str x0 t0,.int 0 0]}
abbrev MB (h:Heap) (x0:Str) (t0:Tok) (t2:Addr):Heap:=(MA h x0 t0).push {cls:=.type "tuple_iterator",data:=.fields #[.ref t2,.int 0 0]}
abbrev MC (h:Heap) (x0:Str) (t0:Tok) (t2:Addr):Heap:=(MB h x0 t0 t2).push {cls:=.type "tuple",data:=.seq #[.ref h.objs.size,.ref (MA h x0 t0).objs.size]}
abbrev MD (h:Heap) (x0:Str) (t0:Tok) (t2:Addr):Heap:=(MC h x0 t0 t2).push {cls:=.type "tuple",data:=.seq #[.none,.none]}
abbrev Dw (h:Heap) (x0:Str) (t0:Tok) (t2:Addr):Heap:=(MD h x0 t0 t2).push {cls:=.type "zip",data:=.fields #[.none,.bool false,.bool false,.ref (MB h x0 t0 t2).objs.size,.ref (MC h x0 t0 t2).objs.size]}
theorem sR(x0:Str)(t0:Tok)(t2:Addr)(ys:Array Value)(hx:x0.cps.all (·< 128)=true) :
  Meets (Builtin.«zip.__new__» ⟨[.type "zip",.str x0 t0,.ref t2],[]⟩) (λ_ R s=>s.heap.IsTuple t2 ys/\R (.ok (.ret (.ref (MD s.heap x0 t0 t2).objs.size))) {s with heap:=Dw s.heap x0 t0 t2}):=
 .of_wp λprog w A R s h=>by
  obtain⟨hp,g,d,tk,os⟩:=s;obtain⟨mz,h⟩:=h
  have yB:=sub_zip
  have Az:Heap.IsTuple (Shared.heap ⟨hp.push {cls:=.type "str_ascii_iterator",data:=.fields #[.str x0 t0,.int 0 0]},g,d,tk,os⟩) t2 ys:=Heap.IsTuple.push mz _
  wp_walk using wpAny_pyIter_ascii hx,wpAny_pyIter_tuple Az
  exact⟨_,rfl,h⟩
def Ko(K:PySem.W.Frag)(ta:TA):TI:=λσ H R=>ta σ H λvs H1=>∃x0 t2,vs = [.str x0,.ref t2]/\x0.cps.all (·< 128)=true/\(∃ys,aR K H1 t2 ys)/\R (AR K x0 t2) H1
theorem Dx{X:Cx}{es:List Expr}{k:Nat}{rO:Pos}{a b:Expr}{ta:TA}{p pos:Pos}(hg:Gl X "zip")(hm:X.mg "zip"=none)(ha:PA X [a,b] ta)(hs:starEach [a,b] X.env = [(false,eval a X.env),(false,eval b X.env)]:=by rfl)
  (Ac:starEach [b] X.env = [(false,eval b X.env)]:=by rfl):PI X (.Tuple es k rO) (.Call (.Name "zip" p) [a,b] [] pos) (Ko X.K ta):=by
 intro pins s σ H R I h
 refine Call_ (lC I hg hm (show bootBuiltins "zip"=some (.type "zip") from by decide +kernel) (PyProof.Rows.callWith_type1 (cI (ha pos pins s σ H _ I h) λus s1 ⟨vs,H1,I1,r1,q1⟩=>?_) (by rw [hs,Ac]) (by rw [Ac];rfl)))
 obtain⟨x0,t2,e,Oo,⟨ys,g2⟩,q⟩:=q1
 subst e
 obtain⟨u1,u2,rfl,JV,Gr⟩:=r1.two
 obtain⟨t0,rfl⟩:=JV
 cases Gr
 obtain⟨gN,r2,p2,l2⟩:=I1.tuple g2
 refine callType_new F.called_zip (by decide) (F.typeCall_zip_2 _ _) (F.newCall_zip_2 _ _) (λobj=>F.args_object_init_3 obj _ _) F.entry_zip_new
  (sR x0 t0 t2 gN.toArray Oo) ⟨p2,?_⟩
 have z1:(MA s1.heap x0 t0).objs.size=s1.heap.objs.size+1:=Heap.size_push ..
 have z2:(MB s1.heap x0 t0 t2).objs.size=s1.heap.objs.size+2:=by rw [Heap.size_push,z1]
 have z3:(MC s1.heap x0 t0 t2).objs.size=s1.heap.objs.size+3:=by rw [Heap.size_push,z2]
 have z4:(MD s1.heap x0 t0 t2).objs.size=s1.heap.objs.size+4:=by rw [Heap.size_push,z3]
 have y5:(Dw s1.heap x0 t0 t2).get? (MD s1.heap x0 t0 t2).objs.size=some _:=Heap.get?_push_size _ rfl
 have y4:(Dw s1.heap x0 t0 t2).get? (MC s1.heap x0 t0 t2).objs.size=some _:=Heap.get?_push_of_some _ (Heap.get?_push_size _ rfl)
 have y3:(Dw s1.heap x0 t0 t2).get? (MB s1.heap x0 t0 t2).objs.size=some _:=Heap.get?_push_of_some _ (Heap.get?_push_of_some _ (Heap.get?_push_size _ rfl))
 have y2:(Dw s1.heap x0 t0 t2).get? (MA s1.heap x0 t0).objs.size=some _:=Heap.get?_push_of_some _ (Heap.get?_push_of_some _ (Heap.get?_push_of_some _ (Heap.get?_push_size _ rfl)))
 have y1:(Dw s1.heap x0 t0 t2).get? s1.heap.objs.size=some _:=Heap.get?_push_of_some _ (Heap.get?_push_of_some _ (Heap.get?_push_of_some _ (Heap.get?_push_of_some _ (Heap.get?_push_size _ rfl))))
 have up:∀e o,s1.heap.get? e=some o->(Dw s1.heap x0 t0 t2).get? e=some o:=λe o g=>Heap.get?_push_of_some _ (Heap.get?_push_of_some _ (Heap.get?_push_of_some _ (Heap.get?_push_of_some _ (Heap.get?_push_of_some _ g))))
 show _/\_
 rw [z2,z3,z4] at y5
 rw [z1,z2] at y3
 rw [z3] at y4
 rw [z1] at y2
 rw [z4]
 refine⟨⟨_,y5,rfl⟩,?_⟩
 have I2:Inv X pins σ H1 {s1 with heap:=Dw s1.heap x0 t0 t2}:=I1.kept (t':=s1.toks) up
 have D:yA (s1.heap.objs.size+4) (s1.heap.objs.size+2) (s1.heap.objs.size+3) s1.heap.objs.size (s1.heap.objs.size+1):=wQ s1.heap.objs.size
 have Z:sQ (Dw s1.heap x0 t0 t2) (s1.heap.objs.size+4) (s1.heap.objs.size+2) (s1.heap.objs.size+3) s1.heap.objs.size (s1.heap.objs.size+1) x0 t0 t2 0 .none:=⟨y5,y3,⟨_,_,y4⟩,⟨_,y1,rfl,rfl⟩,⟨_,y2,rfl,rfl⟩⟩
 refine (pN (P:=X.prog) (w:=X.w) (K:=X.K) (es:=es) (k:=k) (pos:=rO) D).self X.A 0 _ _ _ Z ?_
 refine⟨s1.heap.objs.size+4,_,_,_,H1,rfl,I2,pN D,Z,λe he=>?_,q⟩
 have hle:s1.heap.objs.size<=e:=Ax s1.heap.objs.size e he
 exact I1.uq hle (I1.cw.fresh hle)
theorem AS{K:PySem.W.Frag}{x0:Str}{b:Addr}{ys:List V}{g:TG}{tb:TS}{D:Ends}{σ:St}{H:Hp}(Pv:Nat->St->Hp->Prop)(h0:Pv 0 σ H)(hl:∀i σ H,Pv i σ H->aR K H b ys)
  (hs:∀i c y σ H T,x0.cps[i]?=some c->ys[i]?=some y->Pv i σ H->H T=none->g (.ref T) σ (upd H T (.tup [.str ⟨#[c]⟩,y])) λσ2 H2=>tb {D with nx:=Pv (i+1),ct:=Pv (i+1),bk:=D.nx} σ2 H2)
  (hd:∀i σ H,(x0.cps.size<=i\/ys.length<=i)->Pv i σ H->D.nx σ H) :
  ∃W:Nat->Nat->St->Hp->Prop,(∃m,W 0 m σ H)/\∀i m σ H,W i m σ H ->
   ((AR K x0 b).stop i H/\D.nx σ H)\/((AR K x0 b).go i H/\∃N:St->Hp->Prop,(∀σ' H',N σ' H'->∃m',m'<m/\W (i+1) m' σ' H')/\∀x H',(AR K x0 b).rM i H x H'->g x σ H' λσ2 H2=>tb {D with nx:=N,ct:=N,bk:=D.nx} σ2 H2):=by
 refine⟨λi m σ H=>m=x0.cps.size+1-i/\i<=x0.cps.size/\Pv i σ H,⟨_,rfl,Nat.zero_le _,h0⟩,?_⟩
 rintro i m σ H ⟨rfl,hi,p⟩
 have q2:=hl i σ H p
 by_cases hx:i<x0.cps.size
 case neg=>exact .inl ⟨⟨hi,ys,q2,.inl (by omega)⟩,hd i σ H (.inl (by omega)) p⟩
 by_cases hy:i<ys.length
 case neg=>exact .inl ⟨⟨hi,ys,q2,.inr (by omega)⟩,hd i σ H (.inr (by omega)) p⟩
 have gx:x0.cps[i]?=some x0.cps[i]:=Array.getElem?_eq_getElem hx
 have gy:ys[i]?=some ys[i]:=List.getElem?_eq_getElem hy
 refine .inr ⟨⟨ys,_,_,gx,q2,gy⟩,Pv (i+1),λσ' H' p'=>⟨_,by omega,rfl,hx,p'⟩,λx H' Kp=>?_⟩
 obtain⟨T,hT,rfl,e⟩:=Kp
 rw [e ys _ _ gx q2 gy]
 exact hs i _ _ σ H T gx gy p hT
section
variable {X:Cx} {pins:List (Addr×Obj)} {σ:St} {H:Hp} {s:Shared} {a b:Addr} {A:Around} {E:Value->Shared->Prop}
theorem AU{kvs more:List (Key×V)}{Q:Value->Shared->Prop}(I:Inv X pins σ H s)(e:H a=some (.dK kvs))(e2:H b=some (.dK more))(j5:a≠b)(hl:kvs.length+more.length<=sizeLine)
  (h:∀s',Inv X pins σ (upd H a (.dK (bw kvs more))) s'->Q .none s'):wpAny (model X.prog X.w) A (call (.builtin "dict.update") [.ref a,.ref b]) Q E s:=by
 obtain⟨z,hd,vs,rel,dd⟩:=sj I.cw e
 obtain⟨z2,hd2,U3,Kq,ID⟩:=sj I.cw e2
 refine call_meetsIn PySem.F.slot_dict_update dd.typeIs PySem.F.entry_dict_update (PySem.F.args_dict_update_2 _ _) (meets_dict_update (cy X.prog X.w) a b j5 hd2)
  ⟨vs,U3,dd,ID,by rw [<-rel.length,<-Kq.length];exact hl,λh' Ce _ hs=>h _ ?_⟩
 have he:∃q,h'.get? a=some q:=let ⟨q,_,_,hq,_⟩:=Ce;⟨q,hq⟩
 have My:=gk more kvs
 exact mK I (by rw [e];exact True.intro) hs he (qr (by omega) hd (KV.merge Kq rel) Ce)
end
def Kr(td ty:TE):TE:=λσ H Q=>td σ H λx H1=>∃a,x=.ref a/\RH H1 a/\ty σ H1 λy H2=>∃b kvs more,y=.ref b/\a≠b/\H2 a=some (.dK kvs)/\H2 b=some (.dK more)/\kvs.length+more.length<=sizeLine/\Q .eh (upd H2 a (.dK (bw kvs more)))
theorem Dy{X:Cx}{o e:Expr}{apos gO:Pos}{td ty:TE}(ho:PE X o td)(he:PE X e ty)(m:M1 X o "update" apos e gO):PE X (.Call (.Attribute o "update" apos) [e] [] gO) (Kr td ty):=by
 intro pins s σ H Q I h
 refine wpAny_Call_method m.base m.T9 m.line PySem.F.plainAttrs_dict PySem.F.slot_dict_update PySem.F.type_dict_update (cI (ho pins s σ H _ I h) λu s1 ⟨x,H1,I1,rx,a,ex,d,q1⟩=>?_)
 subst ex
 obtain rfl:u=Value.ref a:=rx
 obtain⟨t1,t2,_⟩:=Gn I1 d
 refine⟨t1,t2,?_⟩
 rw [m.trees]
 refine Calls.callWith_builtin rfl (Calls.evalArgs_plain (Calls.spliced_cons (cI (he pins s1 σ H1 _ I1 q1) λiv s2 ⟨y,H2,I2,ry,b,kvs,more,ey,j5,ha,hb,hl,q2⟩=>Calls.spliced_nil ?_)))
 subst ey
 cases ry
 exact AU I2 ha hb j5 hl λs' I3=>⟨.eh,_,I3,rfl,q2⟩
theorem Dz{P:Program}{w:World}{x:Str}{v:Value}(h:(cy P w).is (Sum.inr x) v=true):∃t,v=.str x t:=by
 rw [(cy P w).strs (Sum.inr x) x 0 v (ma (k:=Sum.inr x) ⟨0,rfl⟩)] at h
 cases v with
 |str y t=>exact⟨t,by rw [show y=x from by simpa [Value.isStr] using h]⟩
 |_=>simp [Value.isStr] at h
theorem nY:∀{ws:List Str} {l:List Value},l.length=ws.length->(∀(j:Nat) (v:Value),l[j]?=some v->∃(x:Str) (t:Tok),ws[j]?=some x/\v=Value.str x t)->Vals (ws.map V.str) l
 | [],[],_,_=>.nil
 | [],_::_,h,_=>by simp at h
 |_::_,[],h,_=>by simp at h
 |x::ws,v::l,h,k=>by
  refine .cons ?_ (nY (by simpa using h) λj u hu=>?_)
  ·obtain⟨y,t,e1,e2⟩:=k 0 v rfl
   have U4:x=y:=by simpa using e1
   subst U4
   exact⟨t,e2⟩
  ·exact k (j+1) u hu
theorem yP{P:Program}{w:World}{ws:List Str}{kvs:List (Key×Value)}{acc:Array Value}(hk:kvs.map (·.1)=ws.map Sum.inr)(h:ItemsOf (λi v=>∃k x,kvs[i]?=some (k,x)/\(cy P w).is k v=true) acc kvs.length):Vals (ws.map V.str) acc.toList:=by
 obtain⟨h1,h2⟩:=h
 have hl:ws.length=kvs.length:=by have:=congrArg List.length hk;simpa using this.symm
 refine nY (by rw [Array.length_toList,h1,hl]) λj v hv=>?_
 obtain⟨k,x,e,hi⟩:=h2 j v (by simpa using hv)
 have e3:(kvs.map (·.1))[j]?=some k:=by rw [List.getElem?_map,e];rfl
 rw [hk,List.getElem?_map] at e3
 obtain⟨y,hy,rfl⟩:=Option.map_eq_some_iff.mp e3
 obtain⟨t,rfl⟩:=Dz hi
 exact⟨y,t,hy,rfl⟩
theorem vo{X:Cx}(hc:X.calm=true):bI X (.type "list") (λxs H Q=>∃(a:Addr) (kvs:List (Key×V)) (ws:List Str),xs = [.ref a]/\H a=some (.dK kvs)/\kvs.map (·.1)=ws.map Sum.inr/\∀l,H l=none->Q (.ref l) (upd H l (.lst (ws.map V.str)))):=by
 intro pins s σ H xs us Q I r h
 obtain⟨a,kvs,ws,rfl,ha,hk,q⟩:=h
 obtain⟨u,rfl,ru⟩:=vals1 r
 cases ru
 obtain⟨z,hd,vs,rel,o,es,ep,ho⟩:=sj I.cw ha
 refine PySem.W.kdl_call (PySem.W.kdl_dict (knd:=cy X.prog X.w) (kvs:=vs) (ep:=ep) hd) (I.ok.hd hc) ⟨o,es,ho⟩ (by rw [<-rel.length];exact z) λh' tk acc c kp e it=>?_
 have hv:Vals (ws.map V.str) acc.toList:=yP (by rw [<-rel.keys];exact hk) it
 refine⟨.ref s.heap.objs.size,_,I.laid (t':=tk) kp (Nat.le_refl _) (show cZ X.prog X.w _ h' _ (.lst (ws.map V.str)) from⟨?_,acc.toList,c,hv,e⟩),rfl,q _ (I.cw.fresh (Nat.le_refl _))⟩
 have:ws.length=kvs.length:=by have:=congrArg List.length hk;simpa using this.symm
 rw [List.length_map];omega
end L2
namespace L2
open PySem PySem.Spec PyProof.Rows PySem.SeqAt
def R9(z:Str):Value->Bool
 |.str w _=>w == z
 |_=>false
theorem GN{A:Around}{s:Shared}(w z:Str)(t u:Tok):EqAt A s (.str w t) (.str z u) (w == z):=by
 have r1:RelV (.str w) (.str w t):=⟨t,rfl⟩
 have r2:RelV (.str z) (.str z u):=⟨u,rfl⟩
 exact qp (A:=A) (s:=s) r1 r2 rfl rfl
theorem nZ{z:Str}:∀{ws:List Str} {us:List Value},Vals (ws.map V.str) us->us.countP (R9 z)=ws.count z
 | [],_,r=>by rw [List.map_nil] at r;cases r;rfl
 |w::t,_,r=>by
  rw [List.map_cons] at r
  cases r with
  |cons r1 r2=>
   obtain⟨tk,rfl⟩:=r1
   rw [List.countP_cons,nZ r2,List.count_cons]
   rfl
theorem pO:∀{ws:List Str} {us:List Value},Vals (ws.map V.str) us->∀y∈us,∃(w:Str) (t:Tok),y=Value.str w t
 | [],_,r,y,hy=>by rw [List.map_nil] at r;cases r;simp at hy
 |w::t,_,r,y,hy=>by
  rw [List.map_cons] at r
  cases r with
  |cons r1 r2=>
   obtain⟨tk,rfl⟩:=r1
   rcases List.mem_cons.mp hy with rfl|hy
   ·exact⟨w,tk,rfl⟩
   ·exact pO r2 y hy
def DA:V->List V->Hp->VK->Prop:=λx xs H Q=>∃(l:Addr) (ws:List Str) (z:Str),x=.ref l/\xs = [.str z]/\H l=some (.lst (ws.map V.str))/\Q (.int (ws.count z:Nat)) H
theorem yQ{X:Cx}:Ma X "list.count" DA:=by
 intro pins s σ H x xs v us Q I rx r h
 obtain⟨l,ws,z,rfl,rfl,hl,q⟩:=h
 cases rx
 obtain⟨u,rfl,tz,rfl⟩:=r.one
 obtain⟨_,its,n,rv,ho⟩:=I.cw l _ hl
 refine call_meets PySem.F.slot_list_count ⟨_,ho,rfl⟩ PySem.F.entry_list_count (PySem.F.args_list_count_2 _ _) (list_countAt l its.toArray n none #[] (.str z tz) (R9 z)) ⟨ho,λy hy=>?_,⟨.int _,H,I.tok _,⟨_,rfl⟩,?_⟩⟩
 ·obtain⟨w,t,rfl⟩:=pO rv y (by simpa using hy)
  exact GN w z t tz
 ·rw [show its.toArray.toList=its from rfl,nZ rv]
  exact q
end L2
namespace L2
open PySem PySem.Spec PyProof.Rows
theorem iy:fillsNumberSlot (.type "tuple") "mul"=pure false:=
 PySem.fillsNumberSlot_seq (id:="tuple.__mul__") (r:=some (.builtin "tuple.__rmul__")) F.slot_tuple_mul.lookup (by decide +kernel) F.slot_tuple_rmul.lookup (by decide +kernel)
theorem kQ:seqRepeat? (.type "tuple")=pure (some (.builtin "tuple.__mul__")):=by
 unfold seqRepeat?
 rw [PySem.seqSlot_of (T:="tuple") (name:="__mul__") (id:="tuple.__mul__") F.slot_tuple_mul.lookup (by decide +kernel),PySem.seqSlot_of (T:="tuple") (name:="__rmul__") (id:="tuple.__rmul__") F.slot_tuple_rmul.lookup (by decide +kernel)]
 rfl
theorem jr(a:Int)(t:Tok)(l:Addr)(items:Array Value)(n:Nat)(dd:Option Addr)(sl:Array (Option Value)) :
  Meets (Builtin.«int.__rmul__» ⟨[.int a t,.ref l],[]⟩) (λ_ R s=>s.heap.get? l=some {cls:=.type "tuple",dict:=dd,data:=.seq items n,slots:=sl}/\R (.ok (.ret Value.notImplemented)) s):=
 .of_wp λprog w A R s h=>by obtain⟨hp,g,d,tk,os⟩:=s;obtain⟨hl,h⟩:=h;wp_walk;exact⟨_,rfl,h⟩
theorem vp(t:Tok)(l:Addr)(items:Array Value)(n:Nat)(dd:Option Addr)(sl:Array (Option Value)) :
  Meets (Builtin.«tuple.__mul__» ⟨[.ref l,.int 1 t],[]⟩) (λ_ R s=>s.heap.get? l=some {cls:=.type "tuple",dict:=dd,data:=.seq items n,slots:=sl}/\R (.ok (.ret (.ref l))) s):=
 .of_wp λprog w A R s h=>by
  obtain⟨hp,g,d,tk,os⟩:=s;obtain⟨hl,h⟩:=h
  unfold Builtin.«tuple.__mul__»
  wp_walk
  exact⟨_,rfl,h⟩
theorem vq(k:Int)(t:Tok)(l:Addr)(items:Array Value)(n:Nat)(dd:Option Addr)(sl:Array (Option Value))(h0:items.isEmpty=false)(h1:2<=k)(h2:k<=1000)(h3:items.size<=10) :
  Meets (Builtin.«tuple.__mul__» ⟨[.ref l,.int k t],[]⟩) (λ_ R s=>s.heap.get? l=some {cls:=.type "tuple",dict:=dd,data:=.seq items n,slots:=sl}/\R (.ok (.ret (.ref s.heap.objs.size))) {s with heap:=s.heap.push {cls:=.type "tuple",data:=.seq (List.foldl (λx1 x2=>x1++x2) #[] (List.replicate k.toNat items))}}):=
 .of_wp λprog w A R s h=>by
  obtain⟨hp,g,d,tk,os⟩:=s;obtain⟨hl,h⟩:=h
  have c1:(decide (k < -(2 ^ 63:Int))||decide (k>=2 ^ 63))=false:=by
   rw [decide_eq_false (by omega),decide_eq_false (by omega)];rfl
  have c2:(items.isEmpty||k == 1)=false:=by
   rw [h0,Bool.false_or]
   exact beq_eq_false_iff_ne.mpr (by omega)
  have c3:(decide (k<=0)||items.isEmpty)=false:=by rw [h0,decide_eq_false (by omega)];rfl
  unfold Builtin.«tuple.__mul__»
  have l3:(100000:Nat)<sizeLine:=by rw [sizeLine_eq];decide
  have hle:(items.size:Int)*k<=10*1000:=Int.mul_le_mul (by omega) h2 (by omega) (by omega)
  wp_walk
  rw [if_neg (by rw [c1];exact Bool.false_ne_true)]
  wp_walk
  rw [if_neg (by rw [c2];exact Bool.false_ne_true)]
  wp_walk
  rw [if_neg (by rw [c3];exact Bool.false_ne_true)]
  wp_walk
  rw [if_neg (by omega)]
  wp_walk
  have hlen:(List.foldl (λx1 x2=>x1++x2) #[] (List.replicate k.toNat items)).size<=sizeLine:=by
   have e:=foldl_rep items.toList k.toNat []
   rw [List.nil_append] at e
   have e':List.foldl (λx1 x2=>x1++x2) #[] (List.replicate k.toNat items)=(List.replicate k.toNat items.toList).flatten.toArray:=e
   rw [e',List.size_toArray,len_rep]
   have hk:(k.toNat:Int)=k:=Int.toNat_of_nonneg (by omega)
   have:((k.toNat*items.toList.length:Nat):Int)<=10000:=by
    rw [Int.natCast_mul,hk,Int.mul_comm,Array.length_toList]
    exact hle
   omega
  rw [if_neg (by unfold Builtin.Tuple.tupleTooMany;rw [decide_eq_true_eq];omega)]
  wp_walk
  exact⟨_,rfl,h⟩
def Ks:R2:=λx y H Q=>∃(l:Addr) (k:Int) (xs:List V),x=.ref l/\y=.int k/\H l=some (.tup xs)/\xs ≠ []/\xs.length<=10/\1<=k/\k<=1000/\(k=1->Q (.ref l) H)/\(k≠1->∀p,H p=none->Q (.ref p) (upd H p (.tup (List.replicate k.toNat xs).flatten)))
theorem DB{X:Cx}:eJ X (binaryOp .Mult) Ks:=by
 intro pins s σ H x y v u Q I rx ry h
 obtain⟨l,k,xs,rfl,rfl,hH,j5,pP,h1,h2,q1,q2⟩:=h
 cases rx
 obtain⟨t,rfl⟩:=ry
 obtain⟨its,r,p,z⟩:=I.tuple (aR.of hH)
 obtain⟨⟨cls,dd,data,sl⟩,e,hc,n,hd⟩:=id p
 simp only at hc hd
 subst hc hd
 have hl:=r.length
 refine wpAny_binaryOp_repeat_ref (T:="tuple") (U:="int") (by decide) ⟨_,e,rfl⟩ (λs'=>typeIs_int s' k t) iy F.fills_int_mul F.slot_int_rmul kQ F.slot_int_index.lookup
  (call_meets F.slot_int_rmul (typeIs_int s k t) F.entry_int_rmul (F.args_int_rmul_2 _ _) (jr k t l its.toArray n dd sl) ⟨e,rfl,⟨_,e,rfl⟩,?_⟩)
 by_cases hk:k=1
 ·subst hk
  exact call_meets F.slot_tuple_mul ⟨_,e,rfl⟩ F.entry_tuple_mul (F.args_tuple_mul_2 _ _) (vp t l its.toArray n dd sl) ⟨e,.ref l,H,I,rfl,q1 rfl⟩
 have GO:its.toArray.isEmpty=false:=by
  cases its with
  |nil=>exact absurd (r.mJ.mp rfl) j5
  |cons _ _=>rfl
 refine call_meets F.slot_tuple_mul ⟨_,e,rfl⟩ F.entry_tuple_mul (F.args_tuple_mul_2 _ _) (vq k t l its.toArray n dd sl GO (by omega) h2 (by rw [List.size_toArray];omega)) ⟨e,?_⟩
 have f0:List.foldl (λx1 x2=>x1++x2) #[] (List.replicate k.toNat its.toArray)=(List.replicate k.toNat its).flatten.toArray:=by
  have:=foldl_rep its k.toNat []
  rw [List.nil_append] at this
  exact this
 rw [f0]
 refine⟨.ref s.heap.objs.size,_,I.laid (t':=s.toks) (o:=.tup (List.replicate k.toNat xs).flatten) (λb ob q=>Heap.get?_push_of_some _ q) (Nat.le_refl _) ?_,rfl,q2 hk _ (I.cw.fresh (Nat.le_refl _))⟩
 refine⟨?_,_,r.rep k.toNat,IsTup.new _ _⟩
 rw [len_rep]
 have l3:(100000:Nat)<sizeLine:=by rw [sizeLine_eq];decide
 have GF:k.toNat<=1000:=by omega
 have:k.toNat*xs.length<=1000*10:=Nat.mul_le_mul GF pP
 omega
theorem vt(k:Int)(t:Tok)(l:Addr)(n:Nat)(dd:Option Addr)(sl:Array (Option Value))(h1:0<=k)(h2:k<=1000) :
  Meets (Builtin.«tuple.__mul__» ⟨[.ref l,.int k t],[]⟩) (λ_ R s=>s.heap.get? l=some {cls:=.type "tuple",dict:=dd,data:=.seq #[] n,slots:=sl}/\R (.ok (.ret (.ref l))) s):=
 .of_wp λprog w A R s h=>by
  obtain⟨hp,g,d,tk,os⟩:=s;obtain⟨hl,h⟩:=h
  have c1:(decide (k < -(2 ^ 63:Int))||decide (k>=2 ^ 63))=false:=by
   rw [decide_eq_false (by omega),decide_eq_false (by omega)];rfl
  unfold Builtin.«tuple.__mul__»
  wp_walk
  rw [if_neg (by rw [c1];exact Bool.false_ne_true)]
  wp_walk
  first|rw [if_pos rfl]|skip
  wp_walk
  exact⟨_,rfl,h⟩
theorem vw(t:Tok)(l:Addr)(items:Array Value)(n:Nat)(dd:Option Addr)(sl:Array (Option Value))(h0:items.isEmpty=false) :
  Meets (Builtin.«tuple.__mul__» ⟨[.ref l,.int 0 t],[]⟩) (λ_ R s=>s.heap.get? l=some {cls:=.type "tuple",dict:=dd,data:=.seq items n,slots:=sl}/\R (.ok (.ret (.ref s.heap.objs.size))) {s with heap:=s.heap.push {cls:=.type "tuple",data:=.seq #[]}}):=
 .of_wp λprog w A R s h=>by
  obtain⟨hp,g,d,tk,os⟩:=s;obtain⟨hl,h⟩:=h
  unfold Builtin.«tuple.__mul__»
  wp_walk
  exact⟨_,rfl,h⟩
def qF:R2:=λx y H Q=>∃(l:Addr) (k:Int) (xs:List V),x=.ref l/\y=.int k/\H l=some (.tup xs)/\xs.length<=10/\0<=k/\k<=1000/\∀p H',ax H H'->H' p=some (.tup (List.replicate k.toNat xs).flatten)->Q (.ref p) H'
theorem og{X:Cx}:eJ X (binaryOp .Mult) qF:=by
 intro pins s σ H x y v u Q I rx ry h
 obtain⟨l,k,xs,rfl,rfl,hH,pP,h1,h2,q⟩:=h
 by_cases Dh:xs ≠ []/\1<=k
 ·refine DB pins s σ H _ _ v u Q I rx ry ⟨l,k,xs,rfl,rfl,hH,Dh.1,pP,Dh.2,h2,λe=>q l H (ax.refl H) ?_,λ_ p hp=>q p _ (ah hp _) ae⟩
  subst e
  show H l=some (.tup (List.replicate 1 xs).flatten)
  rw [hH]
  simp
 cases rx
 obtain⟨t,rfl⟩:=ry
 obtain⟨its,r,p,z⟩:=I.tuple (aR.of hH)
 obtain⟨⟨cls,dd,data,sl⟩,e,hc,n,hd⟩:=id p
 simp only at hc hd
 subst hc hd
 refine wpAny_binaryOp_repeat_ref (T:="tuple") (U:="int") (by decide) ⟨_,e,rfl⟩ (λs'=>typeIs_int s' k t) iy F.fills_int_mul F.slot_int_rmul kQ F.slot_int_index.lookup
  (call_meets F.slot_int_rmul (typeIs_int s k t) F.entry_int_rmul (F.args_int_rmul_2 _ _) (jr k t l its.toArray n dd sl) ⟨e,rfl,⟨_,e,rfl⟩,?_⟩)
 cases xs with
 |nil=>
  obtain rfl:its = []:=by cases r;rfl
  refine call_meets F.slot_tuple_mul ⟨_,e,rfl⟩ F.entry_tuple_mul (F.args_tuple_mul_2 _ _) (vt k t l n dd sl h1 h2) ⟨e,.ref l,H,I,rfl,q l H (ax.refl H) ?_⟩
  rw [hH]
  simp
 |cons y ys=>
  have hk:k=0:=by
   by_cases h:1<=k
   ·exact absurd ⟨List.cons_ne_nil _ _,h⟩ Dh
   ·omega
  subst hk
  have GO:its.toArray.isEmpty=false:=by cases r;rfl
  refine call_meets F.slot_tuple_mul ⟨_,e,rfl⟩ F.entry_tuple_mul (F.args_tuple_mul_2 _ _) (vw t l its.toArray n dd sl GO) ⟨e,?_⟩
  refine⟨.ref s.heap.objs.size,_,I.laid (t':=s.toks) (o:=.tup []) (λb ob q=>Heap.get?_push_of_some _ q) (Nat.le_refl _) ⟨Nat.zero_le _,[],.nil,IsTup.new _ _⟩,rfl,q _ _ (ah (I.cw.fresh (Nat.le_refl _)) _) ae⟩
end L2
namespace L2
open PySem PySem.Spec PyProof.Rows PySem.SeqAt PySem.MeetsSeq PySem.Builtin PySem.Builtin.Tuple
theorem w6{X:Cx}(hu:X.A.units<cLine):eJ X (compareOp .NotEq) (λx y H Q=>∃a b xs,x=.ref a/\y=.ref b/\aR X.K H a xs/\aR X.K H b []/\Q (.bl (!xs.isEmpty)) H):=by
 intro pins s σ H x y v u Q I rx ry h
 obtain⟨a,b,xs,rfl,rfl,ha,hb,q⟩:=h
 cases rx
 cases ry
 obtain⟨its,r1,p1,_⟩:=I.tuple ha
 obtain⟨gN,r2,p2,_⟩:=I.tuple hb
 obtain rfl:=r2.zero
 have l1:=r1.length
 refine RcNeAt.tuples (A:=X.A) (s:=s) (e:=λ_=>true) (show s.heap.IsTuple a its.toArray from p1) (show s.heap.IsTuple b ([]:List Value).toArray from p2) hu (λj h1 h2=>absurd h2 (by simp)) X.prog X.w _ _ ⟨.bl (!xs.isEmpty),H,I,?_,q⟩
 show Value.bool _=Value.bool _
 congr 2
 cases xs with
 |nil=>obtain rfl:=r1.zero;rfl
 |cons c d=>cases its with
  |nil=>simp at l1
  |cons=>simp
end L2
namespace L2
open PySem PySem.Spec PyProof.Rows PySem.SeqAt
end L2
namespace bo
open PySem L2
seal L2.PE L2.PS L2.gi L2.PT L2.PW L2.PA L2.PG L2.ja L2.PI L2.PO L2.eD L2.PC L2.eJ L2.bI L2.gj L2.jb L2.eU L2.je
def top(i:Nat):Stmt:=PySem.Challenge.pw_retrace_k06_names_and_rows_refused.main.body.getD i (.Pass ⟨0,0,0,0⟩)
def cR(x:Str):Option (List Str):=
 if x="number" then some ["number"] else if x="box" then some ["box"] else if x="plus" then some ["value","value"] else if x="minus" then some ["value","value"] else if x="times" then some ["value","value"]
 else if x="over" then some ["value","value"] else if x="rest" then some ["value","value"] else if x="less" then some ["value","value"] else if x="same" then some ["value","value"] else if x="not" then some ["value"]
 else if x="item" then some ["list","value"] else if x="size" then some ["list"] else none
def bP(x:Str):Option (List Str):=
 if x="set" then some ["box","value"] else
 if x="push" then some ["list","value"] else
 if x="pop" then some ["box","list"] else
 if x="put" then some ["list","value","value"] else
 if x="ask" then some ["box","door"] else
 if x="tell" then some ["value"] else
 if x="if" then some ["value","rows","rows"] else
 if x="while" then some ["value","rows"] else
 if x="try" then some ["rows","box","rows"] else
 if x="fail" then some ["value"] else
 if x="call" then some ["box","function","values"] else
 if x="return" then some ["value"] else none
theorem gQ{CX:pw}{P:Program}{w:World}{K:PySem.W.Frag}{mg:Str->Option Value}{base:Heap}{N:List Str}{q:Str}{sc:Scope}{f:Addr}{cd:Value}{A:Around}{o:List Env}{s:Shared}{H:Hp}{E:XK}:(kE CX P w K mg base N q sc f cd A o s H E).EK.K=K:=rfl
structure Txt (w:World) (K:PySem.W.Frag) (mg:Str->Option Value):Prop where
 cH:mg "len"=none
 aH:mg "isinstance"=none
 sS:mg "all"=none
 w8:mg "zip"=none
 kR:mg "range"=none
 g8:mg "list"=none
 cm:mg "tuple"=none
 pQ:mg "str"=none
 w9:mg "int"=none
 AV:mg "bool"=none
 Kt:mg "set"=none
 vx:mg "dict"=none
 qG:mg "ValueError"=none
 most:∃t,mg "MOST_LETTERS"=some (.int 6 t)
 great:∃t,mg "GREATEST"=some (.int 999999 t)
 deep:∃t,mg "DEEPEST"=some (.int 4 t)
 around:∃t,mg "NO_ROW"=some (.int (-1) t)
 GP:∃t,mg "MOST_BOXES"=some (.int 6 t)
 GQ:∃t,mg "MOST_LISTS"=some (.int 3 t)
 DC:∃t,mg "MOST_THINGS"=some (.int 12 t)
 Ku:∃t,mg "MOST_FUNCTIONS"=some (.int 4 t)
 cnames:∃t,mg "MOST_NAMES"=some (.int 3 t)
 Kv:∃t,mg "DEEPEST_ROW"=some (.int 5 t)
 Kw:∃t,mg "MOST_NUMBERS"=some (.int 60 t)
 tab:∃a,mg "VALUE_FORMS"=some (.ref a)/\sD w K a cR
 Kx:∃a,mg "ROW_FORMS"=some (.ref a)/\sD w K a bP
section
variable {P:Program} {w:World} {K:PySem.W.Frag} {mg:Str->Option Value} {base:Heap} (T:Txt w K mg)
theorem xg:aO ["_law_state_here","_law_size","_law_mixed"] ["_law_state_here","_law_size"] (ao (top 59)):=⟨rfl,rfl,rfl,by decide +kernel,rfl,by decide +kernel,by decide +kernel⟩
def f7:Sp:=λvs H Q _=>∃(p:Addr) (k:Int),vs = [.ref p,.int k]/\Gen p H/\0<k/\∀(r:Int) (H':Hp),0<=r->r<k->Ext p H H'->Q (.int r) H'
theorem GR(S:Src K mg "_law_next" (top 59) ["_law_state_here","_law_size"]):Def P w K mg base 1 "_law_next" ["_law_state_here","_law_size"] f7:=by
 refine S.ok xg (λvs H Q E h=>?_) (λf cD A outer s H vs Q E hr h=>?_)
 ·obtain⟨p,k,rfl,_⟩:=h;rfl
 obtain⟨p,k,rfl,⟨n,hp,h0,h1⟩,hk,q⟩:=h
 refine⟨_,(ai (nC (aU j9 (aU eW (aU lE (aJ cU (pv 0) ag (λ_ _=>rfl)) ag) ag) ag) (FV (pv 0) ag set_list)) (ai (aS (i:=2) xg.nd rfl (Or.inl rfl) (aU j9 (aU lE (aJ cU (pv 0) ag (λ_ _=>rfl)) (aJ cU (pv 0) ag (λ_ _=>rfl))) ag)) (aj (aC (aU j9 (aU Cz (pv 2) ag) (pv 1)))))),?_⟩
 have Oq:∀m:Int,nE [V.int m] 0=some (.int m):=λm=>rfl
 refine⟨_,rfl,p,_,0,_,rfl,rfl,bX.of hp,Oq n,n,69621,rfl,rfl,.inr ⟨by decide,by decide⟩,_,_,rfl,rfl,_,_,rfl,rfl,(by show (0:Int)<2147483629;decide),?_⟩
 refine⟨_,rfl,p,_,0,0,rfl,rfl,hp,rfl,?_⟩
 have hm:=Int.emod_nonneg (n*69621+11) (show (2147483629:Int)≠0 by decide)
 have Gv:=Int.emod_lt_of_pos (n*69621+11) (show (0:Int)<2147483629 by decide)
 generalize GS:(n*69621+11)%2147483629=m at hm Gv
 refine⟨_,rfl,p,_,0,_,rfl,rfl,bX.of ae,Oq _,?_⟩
 refine⟨_,rfl,p,_,0,_,rfl,rfl,bX.of ae,Oq _,m,m,by rw [<-GS],by rw [<-GS],.inl ⟨by omega,by omega⟩,_,_,rfl,rfl,(by show (0:Int)<2147483587;decide),?_⟩
 have g:Ext p H (upd H p (.lst [.int m])):=⟨λb o hb h=>by rw [aK hb];exact h,⟨m,ae,hm,Gv⟩⟩
 refine⟨_,rfl,_,7,rfl,rfl,⟨by decide,by decide⟩,_,rfl,_,_,rfl,rfl,hk,?_⟩
 refine q _ _ (Int.emod_nonneg _ (by omega)) (Int.emod_lt_of_pos _ hk) ?_
 subst GS
 exact g
theorem vy:aO ["_law_script","_law_k"] ["_law_script","_law_k"] (ao (top 57)):=⟨rfl,rfl,rfl,by decide +kernel,rfl,by decide +kernel,by decide +kernel⟩
def AW(K:PySem.W.Frag):Sp:=λvs H Q _=>∃(a:Addr) (ns:List Int) (k:Int),vs = [.ref a,.int k]/\bX K H a (ns.map V.int)/\0<=k/\∀i:Int,Q (.int i) H
theorem yR(T:Txt w K mg)(S:Src K mg "_law_cell_at" (top 57) ["_law_script","_law_k"]):Def P w K mg base 1 "_law_cell_at" ["_law_script","_law_k"] (AW K):=by
 refine S.ok vy (λvs H Q E h=>?_) (λf cD A outer s H vs Q E hr h=>?_)
 ·obtain⟨a,ns,k,rfl,_⟩:=h;rfl
 obtain⟨a,ns,k,rfl,hS,hk,q⟩:=h
 refine⟨_,(ai (aX (aQ wG (pv 1) (rS aN rfl T.cH bO (mG (pv 0) aa)) (aP _)) (aj (aC (aJ cU (pv 0) (pv 1) (λ_ _=>rfl)))) aI) (aj (aC ag))),?_⟩
 refine⟨_,rfl,_,rfl,a,_,rfl,.inl hS,_,_,rfl,rfl,_,rfl,?_⟩
 refine bZ (λc=>?_) (λc=>?_)
 ·have c':k<(((ns.map V.int).length:Nat):Int):=of_decide_eq_true c
  rw [List.length_map] at c'
  obtain⟨v,e,hv⟩:=lK (xs:=ns.map V.int) hk (by rw [List.length_map];exact c')
  obtain⟨i,_,rfl⟩:=List.mem_map.mp hv
  exact⟨_,rfl,_,rfl,a,_,_,_,rfl,rfl,hS,e,q _⟩
 ·exact q 0
theorem sT:aO ["_law_cell","_law_k","_law_drawn"] ["_law_cell","_law_k"] (ao (top 58)):=⟨rfl,rfl,rfl,by decide +kernel,rfl,by decide +kernel,by decide +kernel⟩
def xh:Sp:=λvs H Q _=>∃(c k:Int),vs = [.int c,.int k]/\0<=k/\k<100/\∀(p:Addr) (n:Int),H p=none->0<=n->n<2147483629->Q (.ref p) (upd H p (.lst [.int n]))
theorem DD(S:Src K mg "_law_state" (top 58) ["_law_cell","_law_k"]):Def P w K mg base 1 "_law_state" ["_law_cell","_law_k"] xh:=by
 refine S.ok sT (λvs H Q E h=>?_) (λf cD A outer s H vs Q E hr h=>?_)
 ·obtain⟨c,k,rfl,_⟩:=h;rfl
 obtain⟨c,k,rfl,h0,h1,q⟩:=h
 refine⟨_,(ai (aS (i:=2) sT.nd rfl (Or.inl rfl) (aU j9 (aU lE (aU eW (aU eW (pv 0) (aU lE ag (pv 1))) ag) ag) ag)) (aj (aC (bN (mG (aU j9 (aU eW (aU eW (aU lE (pv 2) (pv 2)) (aU lE ag (pv 2))) (pv 1)) ag) aa))))),?_⟩
 refine⟨_,rfl,_,rfl,7919,k,rfl,rfl,.inl ⟨by decide,by decide⟩,_,_,rfl,rfl,_,_,rfl,rfl,_,48271,rfl,rfl,.inr ⟨by decide,by decide⟩,_,_,rfl,rfl,(by show (0:Int)<2147483647;decide),?_⟩
 have hm:=Int.emod_nonneg ((c+7919*k+1)*48271) (show (2147483647:Int)≠0 by decide)
 have Gv:=Int.emod_lt_of_pos ((c+7919*k+1)*48271) (show (0:Int)<2147483647 by decide)
 generalize GS:((c+7919*k+1)*48271)%2147483647=m at hm Gv
 refine⟨_,rfl,_,rfl,m,m,by rw [<-GS],by rw [<-GS],.inl ⟨by omega,by omega⟩,_,rfl,7,m,rfl,by rw [<-GS],.inl ⟨by decide,by decide⟩,_,_,rfl,rfl,_,rfl,_,_,rfl,rfl,_,_,rfl,rfl,(by show (0:Int)<2147483629;decide),(by show 1<=sizeLine;decide),λp hp=>?_⟩
 exact q p _ hp (Int.emod_nonneg _ (by decide)) (Int.emod_lt_of_pos _ (by decide))
end
theorem dQ{c:Bool}{A B:Prop}(h:c=true)(x:A):if c=true then A else B:=by rw [if_pos h];exact x
theorem dM{c:Bool}{A B:Prop}(h:c=false)(x:B):if c=true then A else B:=by rw [if_neg (by rw [h];exact Bool.false_ne_true)];exact x
def Dt(p:Addr)(H:Hp):Nat->V->Prop
 |0,_=>False
 |n+1,v=>match v with
  |.eh=>True
  |.bl _=>True
  |.int _=>True
  |.str x=>x.length<=9100
  |.ref a=>(∃xs,H a=some (.tup xs)/\xs.length<=9100/\∀x∈xs,Dt p H n x)\/(∃xs,H a=some (.lst xs)/\a≠p/\xs.length<=9100/\∀x∈xs,Dt p H n x)\/H a=some (.dK [])
  |_=>False
theorem Dt.ext{p:Addr}{H H':Hp}(g:Gen p H)(e:Ext p H H'):∀{n:Nat} {v:V},Dt p H n v->Dt p H' n v
 |0,_,h=>h
 |n+1,v,h=>by
  cases v with
  |ref a=>
   rcases h with ⟨xs,h1,h2,h3⟩|⟨xs,h1,h0,h2,h3⟩|h
   ·exact .inl ⟨xs,e.tup g h1,h2,λx hx=>Dt.ext g e (h3 x hx)⟩
   ·exact .inr (.inl ⟨xs,e.but a _ h0 h1,h0,h2,λx hx=>Dt.ext g e (h3 x hx)⟩)
   ·obtain⟨k,hp,_⟩:=id g
    exact .inr (.inr (e.but a _ (pj h hp (by intro z;cases z)) h))
  |_=>exact h
theorem Dt.succ{p:Addr}{H:Hp}:∀{n:Nat} {v:V},Dt p H n v->Dt p H (n+1) v
 |0,_,h=>h.elim
 |n+1,v,h=>by
  cases v with
  |ref a=>
   rcases h with ⟨xs,h1,h2,h3⟩|⟨xs,h1,h0,h2,h3⟩|h
   ·exact .inl ⟨xs,h1,h2,λx hx=>Dt.succ (h3 x hx)⟩
   ·exact .inr (.inl ⟨xs,h1,h0,h2,λx hx=>Dt.succ (h3 x hx)⟩)
   ·exact .inr (.inr h)
  |_=>exact h
theorem Dt.up{p:Addr}{H:Hp}{n m:Nat}{v:V}(h:Dt p H n v)(l:n<=m):Dt p H m v:=by
 induction l with
 |refl=>exact h
 |step _ ih=>exact ih.succ
theorem Dt.same{p:Addr}{H H':Hp}(e:ax H H'):∀{n:Nat} {v:V},Dt p H n v->Dt p H' n v
 |0,_,h=>h
 |n+1,v,h=>by
  cases v with
  |ref a=>
   rcases h with ⟨xs,h1,h2,h3⟩|⟨xs,h1,h0,h2,h3⟩|h
   ·exact .inl ⟨xs,e _ _ h1,h2,λx hx=>Dt.same e (h3 x hx)⟩
   ·exact .inr (.inl ⟨xs,e _ _ h1,h0,h2,λx hx=>Dt.same e (h3 x hx)⟩)
   ·exact .inr (.inr (e _ _ h))
  |_=>exact h
section
variable {P:Program} {w:World} {K:PySem.W.Frag} {mg:Str->Option Value} {base:Heap}
end
def gH:V->Bool
 |.str s=>fc s
 |_=>false
def iS:V->Bool
 |.int i=>decide (0<=i)&&decide (i<=999999)
 |_=>false
theorem Dt.kind{p:Addr}{H:Hp}{n:Nat}{v:V}(h:Dt p H n v):(v=.eh/\pI H v=some "NoneType")\/(∃b,v=.bl b/\pI H v=some "bool")\/(∃i,v=.int i/\pI H v=some "int")\/(∃x:Str,v=.str x/\pI H v=some "str"/\x.length<=9100) \/
  (∃(m:Nat) (a:Addr) (xs:List V),n=m+1/\v=.ref a/\pI H v=some "tuple"/\H a=some (.tup xs)/\xs.length<=9100/\∀x∈xs,Dt p H m x) \/
  (∃(m:Nat) (a:Addr) (xs:List V),n=m+1/\v=.ref a/\pI H v=some "list"/\H a=some (.lst xs)/\xs.length<=9100/\∀x∈xs,Dt p H m x)\/(∃a,v=.ref a/\pI H v=some "dict"/\H a=some (.dK [])):=by
 cases n with
 |zero=>exact h.elim
 |succ n=>
  cases v with
  |eh=>exact .inl ⟨rfl,rfl⟩
  |bl b=>exact .inr (.inl ⟨b,rfl,rfl⟩)
  |int i=>exact .inr (.inr (.inl ⟨i,rfl,rfl⟩))
  |str x=>exact .inr (.inr (.inr (.inl ⟨x,rfl,rfl,h⟩)))
  |ref a=>
   rcases h with ⟨xs,h1,h2,h3⟩|⟨xs,h1,h0,h2,h3⟩|h
   ·exact .inr (.inr (.inr (.inr (.inl ⟨n,a,xs,rfl,rfl,by unfold pI;dsimp only;rw [h1],h1,h2,h3⟩))))
   ·exact .inr (.inr (.inr (.inr (.inr (.inl ⟨n,a,xs,rfl,rfl,by unfold pI;dsimp only;rw [h1],h1,h2,h3⟩)))))
   ·exact .inr (.inr (.inr (.inr (.inr (.inr ⟨a,rfl,by unfold pI;dsimp only;rw [h],h⟩)))))
  |wx _=>exact h.elim
  |Cq _=>exact h.elim
  |ty _=>exact h.elim
theorem Dt.strOr{p:Addr}{H:Hp}{n:Nat}{v:V}(h:Dt p H n v):∃t,pI H v=some t/\((∃x:Str,v=.str x/\t="str"/\x.length<=9100)\/(sC t "str"=false/\gH v=false/\∀x,v≠.str x)):=by
 rcases h.kind with ⟨rfl,ty⟩|⟨b,rfl,ty⟩|⟨i,rfl,ty⟩|⟨x,rfl,ty,hx⟩|⟨m,a,xs,_,rfl,ty,_⟩|⟨m,a,xs,_,rfl,ty,_⟩|⟨a,rfl,ty,_⟩
 ·exact⟨_,ty,.inr ⟨by decide,rfl,λx z=>by cases z⟩⟩
 ·exact⟨_,ty,.inr ⟨by decide,rfl,λx z=>by cases z⟩⟩
 ·exact⟨_,ty,.inr ⟨by decide,rfl,λx z=>by cases z⟩⟩
 ·exact⟨_,ty,.inl ⟨x,rfl,rfl,hx⟩⟩
 ·exact⟨_,ty,.inr ⟨by decide,rfl,λx z=>by cases z⟩⟩
 ·exact⟨_,ty,.inr ⟨by decide,rfl,λx z=>by cases z⟩⟩
 ·exact⟨_,ty,.inr ⟨by decide,rfl,λx z=>by cases z⟩⟩
section
variable {P:Program} {w:World} {K:PySem.W.Frag} {mg:Str->Option Value} {base:Heap}
theorem vz:aO ["thing"] ["thing"] (ao (top 26)):=⟨rfl,rfl,rfl,by decide +kernel,rfl,by decide +kernel,by decide +kernel⟩
def eX:Sp:=λvs H Q _=>∃(v:V) (p:Addr) (n:Nat),vs = [v]/\Dt p H n v/\∀H',ax H H'->Q (.bl (gH v)) H'
theorem take_one{x:Str}{i c:Nat}(h:x.cps[i]?=some c):x.cps.toList.take (i+1)=x.cps.toList.take i ++ [c]:=by
 rw [List.take_add_one]
 congr 1
 rw [Array.getElem?_toList,h]
 rfl
theorem yS(T:Txt w K mg)(S:Src K mg "is_name" (top 26) ["thing"]):Def P w K mg base 1 "is_name" ["thing"] eX:=by
 obtain⟨tm,oh⟩:=T.most
 refine S.ok vz (λvs H Q E h=>?_) (λf cD A outer s H vs Q E hr h=>?_)
 ·obtain⟨v,p,n,rfl,_⟩:=h;rfl
 obtain⟨v,p,n,rfl,hv,q⟩:=h
 refine⟨_,(ai (aX (bh (bf (aW bu rfl T.aH aE (aq (pv 0) (aq (dw T.pQ lJ rfl) aa)))))
   (aj (aC cW)) aI)
   (aj (aC (cF (kD lV lV ag (aW iN rfl T.cH bO (aq (pv 0) aa)) (br (v:=.int (6)) rfl oh ⟨_,rfl⟩)) (di (aW (gv rfl) rfl T.sS nK (aq (cq (N':= ["sign"]) (bg (ao (top 26)) (by rfl) (by decide +kernel) (by decide +kernel) (by decide +kernel) (by decide +kernel) (by decide +kernel) (by decide +kernel)) rfl (gP 1 [] (by rfl) (by rfl) (by decide +kernel)) (AA (pv 0)) (λ_ _ _=>aM (i:=0) (show (["sign"]:List Str).Nodup by decide +kernel) rfl (Or.inl rfl) (Or.inr rfl)) (λ_ _ _=>cB) (λ_ _ _=>(kD pJ pJ aD (pv 0) aD))) aa))))))),?_⟩
 try dsimp only [gQ]
 obtain⟨t,ty,⟨x,rfl,rfl,hx⟩|⟨hf,hn,_⟩⟩:=hv.strOr
 ·refine⟨_,rfl,_,"str",_,rfl,ty,by simp,_,rfl,dM (by decide) ?_⟩
  have l3:(10000:Nat)<sizeLine:=by rw [sizeLine_eq];decide
  have zG:x.cps.toList.length=x.length:=by simp [Str.length]
  refine⟨_,rfl,x,rfl,by omega,_,_,rfl,rfl,_,rfl,bZ (λc1=>?_) (λc1=>?_)⟩
  ·refine⟨_,_,rfl,rfl,_,rfl,bZ (λc2=>?_) (λc2=>?_)⟩
   ·refine⟨_,rfl,x,rfl,λacc bR=>?_⟩
    refine⟨λi m σ2 ys H2=>m=x.cps.size-i/\i<=x.cps.size/\(∃x0,σ2 = [x0])/\ys=((x.cps.toList.take i).map small).map V.bl/\H2 acc=some (.lst ys)/\ax H H2,⟨_,rfl,Nat.zero_le _,⟨_,rfl⟩,rfl,ae,ah bR _⟩,?_⟩
    rintro i m σ2 ys H2 ⟨rfl,hi,⟨x0,rfl⟩,rfl,ha,sm⟩
    refine⟨ha,?_⟩
    by_cases eQ:i<x.cps.size
    ·refine .inr ⟨eQ,(by rw [List.length_map,List.length_map,List.length_take];omega),?_⟩
     rintro v H3 ⟨rfl,c,hc,rfl⟩
     have fin:∀b:Bool,b=small c->H3 acc=some (.lst (((x.cps.toList.take i).map small).map V.bl))/\∃m',m'<x.cps.size-i/\m'=x.cps.size-(i+1)/\i+1<=x.cps.size/\(∃x0,[some (V.str ⟨#[c]⟩)] = [x0]) /\
       ((x.cps.toList.take i).map small).map V.bl ++ [V.bl b]=((x.cps.toList.take (i+1)).map small).map V.bl/\(upd H3 acc (.lst (((x.cps.toList.take i).map small).map V.bl ++ [V.bl b]))) acc=some (.lst (((x.cps.toList.take i).map small).map V.bl ++ [V.bl b]))/\ax H (upd H3 acc (.lst (((x.cps.toList.take i).map small).map V.bl ++ [V.bl b]))):=λb hb=>by
      refine⟨ha,_,by omega,rfl,eQ,⟨_,rfl⟩,?_,ae,λb' o eN=>?_⟩
      ·rw [take_one hc,List.map_append,List.map_append,hb];rfl
      ·rw [aK (aL eN bR)];exact sm _ _ eN
     refine⟨_,rfl,_,_,rfl,rfl,_,rfl,bZ (λd1=>?_) (λd1=>?_)⟩
     ·rw [JY] at d1
      refine⟨_,_,rfl,rfl,?_⟩
      refine fin _ ?_
      rw [N0]
      unfold small
      rw [d1,Bool.true_and]
     ·rw [JY] at d1
      refine fin _ ?_
      unfold small
      rw [Bool.eq_false_iff.mpr d1,Bool.false_and]
    ·have e:i=x.cps.size:=by omega
     subst e
     refine .inl ⟨rfl,acc,(x.cps.toList.take x.cps.size).map small,rfl,bX.of ha,?_⟩
     have ez:gH (.str x)=((x.cps.toList.take x.cps.size).map small).all id:=by
      show fc x=_
      unfold fc
      have oM:1<=x.length/\x.length<=6:=by
       have a1:=of_decide_eq_true c1
       have a2:=of_decide_eq_true c2
       omega
      rw [decide_eq_true oM,Bool.true_and,List.all_map,show x.cps.toList.take x.cps.size=x.cps.toList by rw [<-Array.length_toList,List.take_length]]
      rfl
     rw [<-ez]
     exact q _ sm
   ·have yT:=Bool.eq_false_iff.mpr c2
    have ez:gH (.str x)=false:=by
     show fc x=_
     unfold fc
     rw [decide_eq_false (λz=>(of_decide_eq_false yT) (by omega)),Bool.false_and]
    rw [<-ez]
    exact q _ (ax.refl H)
  ·have Ot:=Bool.eq_false_iff.mpr c1
   have ez:gH (.str x)=false:=by
    show fc x=_
    unfold fc
    rw [decide_eq_false (λz=>(of_decide_eq_false Ot) (by omega)),Bool.false_and]
   refine⟨_,rfl,NK ?_⟩
   rw [<-ez]
   exact q _ (ax.refl H)
 ·refine⟨_,rfl,_,"str",_,rfl,ty,by simp,_,rfl,dQ (by rw [hf];rfl) ?_⟩
  have z:=q H (ax.refl H)
  rw [hn] at z
  exact z
end
section
variable {P:Program} {w:World} {K:PySem.W.Frag} {mg:Str->Option Value} {base:Heap}
def oi(lo hi:Int):V->Bool
 |.int i=>decide (lo<=i)&&decide (i<=hi)
 |_=>false
theorem Dt.E7{p:Addr}{H:Hp}{n:Nat}{v:V}(h:Dt p H n v):∃t,pI H v=some t/\((∃i:Int,v=.int i/\t="int")\/((iS v=false/\∀lo hi,oi lo hi v=false)/\((sC t "bool"=true)\/(sC t "bool"=false/\sC t "int"=false)))):=by
 rcases h.kind with ⟨rfl,ty⟩|⟨b,rfl,ty⟩|⟨i,rfl,ty⟩|⟨x,rfl,ty,hx⟩|⟨m,a,xs,_,rfl,ty,_⟩|⟨m,a,xs,_,rfl,ty,_⟩|⟨a,rfl,ty,_⟩
 ·exact⟨_,ty,.inr ⟨⟨rfl,λ_ _=>rfl⟩,.inr ⟨by decide,by decide⟩⟩⟩
 ·exact⟨_,ty,.inr ⟨⟨rfl,λ_ _=>rfl⟩,.inl (by decide)⟩⟩
 ·exact⟨_,ty,.inl ⟨i,rfl,rfl⟩⟩
 ·exact⟨_,ty,.inr ⟨⟨rfl,λ_ _=>rfl⟩,.inr ⟨by decide,by decide⟩⟩⟩
 ·exact⟨_,ty,.inr ⟨⟨rfl,λ_ _=>rfl⟩,.inr ⟨by decide,by decide⟩⟩⟩
 ·exact⟨_,ty,.inr ⟨⟨rfl,λ_ _=>rfl⟩,.inr ⟨by decide,by decide⟩⟩⟩
 ·exact⟨_,ty,.inr ⟨⟨rfl,λ_ _=>rfl⟩,.inr ⟨by decide,by decide⟩⟩⟩
theorem sU:aO ["thing","least","most"] ["thing","least","most"] (ao (top 27)):=⟨rfl,rfl,rfl,by decide +kernel,rfl,by decide +kernel,by decide +kernel⟩
def xi:Sp:=λvs H Q _=>∃(v:V) (p:Addr) (n:Nat) (lo hi:Int),vs = [v,.int lo,.int hi]/\Dt p H n v/\Q (.bl (oi lo hi v)) H
theorem vA(T:Txt w K mg)(S:Src K mg "is_whole" (top 27) ["thing","least","most"]):Def P w K mg base 1 "is_whole" ["thing","least","most"] xi:=by
 refine S.ok sU (λvs H Q E h=>?_) (λf cD A outer s H vs Q E hr h=>?_)
 ·obtain⟨v,p,n,lo,hi,rfl,_⟩:=h;rfl
 obtain⟨v,p,n,lo,hi,rfl,hv,q⟩:=h
 refine⟨_,(ai (aX (cN (PW.pt (dX (bf (aW bu rfl T.aH aE (aq (pv 0) (aq (dw T.AV wV rfl) aa)))) (dG (bh (bf (aW bu rfl T.aH aE (aq (pv 0) (aq (dw T.w9 qz rfl) aa)))))))))
   (aj (aC cW)) aI)
   (aj (aC (kD lV lV (pv 1) (pv 0) (pv 2))))),?_⟩
 try dsimp only [gQ]
 obtain⟨t,ty,⟨i,rfl,rfl⟩|⟨hn,hb|⟨hb,IG⟩⟩⟩:=hv.E7
 ·refine⟨λt H'=>H=H'/\t=false,?_,?_⟩
  ·exact⟨_,rfl,_,"bool",_,rfl,ty,by simp,_,rfl,dM (by decide) ⟨_,rfl,_,"int",_,rfl,ty,by simp,_,rfl,rfl,by decide⟩⟩
  rintro t H' ⟨rfl,rfl⟩
  refine dM rfl ⟨_,rfl,_,rfl,_,_,rfl,rfl,_,rfl,bZ (λc1=>?_) (λc1=>?_)⟩
  ·refine⟨_,rfl,_,_,rfl,rfl,?_⟩
   have e:oi lo hi (.int i)=decide (i<=hi):=by show (decide (lo<=i)&&decide (i<=hi))=_;rw [c1,Bool.true_and]
   rw [e] at q
   exact q
  ·have e:oi lo hi (.int i)=false:=by show (decide (lo<=i)&&decide (i<=hi))=_;rw [Bool.eq_false_iff.mpr c1,Bool.false_and]
   rw [e] at q
   exact q
 ·refine⟨λt H'=>H=H'/\t=true,⟨_,rfl,_,"bool",_,rfl,ty,by simp,_,rfl,dQ hb ⟨rfl,rfl⟩⟩,?_⟩
  rintro t H' ⟨rfl,rfl⟩
  rw [hn.2 lo hi] at q
  exact dQ rfl q
 ·refine⟨λt H'=>H=H'/\t=true,⟨_,rfl,_,"bool",_,rfl,ty,by simp,_,rfl,dM hb ⟨_,rfl,_,"int",_,rfl,ty,by simp,_,rfl,rfl,by rw [IG];rfl⟩⟩,?_⟩
  rintro t H' ⟨rfl,rfl⟩
  rw [hn.2 lo hi] at q
  exact dQ rfl q
theorem qH:aO ["thing"] ["thing"] (ao (top 28)):=⟨rfl,rfl,rfl,by decide +kernel,rfl,by decide +kernel,by decide +kernel⟩
def gn:Sp:=λvs H Q _=>∃(v:V) (p:Addr) (n:Nat),vs = [v]/\Dt p H n v/\Q (.bl (iS v)) H
theorem yU(v:V):oi 0 999999 v=iS v:=by cases v<;>rfl
theorem sV(T:Txt w K mg)(vB:Def P w K mg base 1 "is_whole" ["thing","least","most"] xi)(S:Src K mg "is_number" (top 28) ["thing"]):Def P w K mg base 2 "is_number" ["thing"] gn:=by
 obtain⟨tm,vC⟩:=T.great
 refine S.ok qH (λvs H Q E h=>?_) (λf cD A outer s H vs Q E hr h=>?_)
 ·obtain⟨v,p,n,rfl,_⟩:=h;rfl
 obtain⟨v,p,n,rfl,hv,q⟩:=h
 refine⟨_,(aj (aC (aw (vB) hr rfl (aq (pv 0) (aq ag (aq (br (v:=.int (999999)) rfl vC ⟨_,rfl⟩) aa)))))),?_⟩
 try dsimp only [gQ]
 rw [<-yU] at q
 exact⟨_,rfl,v,p,n,0,999999,rfl,hv,q⟩
end
def bb(H:Hp):V->Option (List V)
 |.ref a=>match H a with
  |some (.tup xs)=>some xs
  |_=>none
 |_=>none
theorem ak{H:Hp}{a:Addr}{xs:List V}(h:H a=some (.tup xs)):bb H (.ref a)=some xs:=by
 unfold bb;dsimp only;rw [h]
theorem Dt.cS{p:Addr}{H:Hp}{n:Nat}{v:V}(h:Dt p H n v):∃t,pI H v=some t/\((∃(m:Nat) (a:Addr) (xs:List V),n=m+1/\v=.ref a/\t="tuple"/\H a=some (.tup xs)/\xs.length<=9100/\∀x∈xs,Dt p H m x)\/(sC t "tuple"=false/\bb H v=none)):=by
 rcases h.kind with ⟨rfl,ty⟩|⟨b,rfl,ty⟩|⟨i,rfl,ty⟩|⟨x,rfl,ty,hx⟩|⟨m,a,xs,r1,rfl,ty,ha,hl,hx⟩|⟨m,a,xs,_,rfl,ty,ha,_⟩|⟨a,rfl,ty,ha⟩
 ·exact⟨_,ty,.inr ⟨by decide,rfl⟩⟩
 ·exact⟨_,ty,.inr ⟨by decide,rfl⟩⟩
 ·exact⟨_,ty,.inr ⟨by decide,rfl⟩⟩
 ·exact⟨_,ty,.inr ⟨by decide,rfl⟩⟩
 ·exact⟨_,ty,.inl ⟨m,a,xs,r1,rfl,rfl,ha,hl,hx⟩⟩
 ·exact⟨_,ty,.inr ⟨by decide,by unfold bb;dsimp only;rw [ha]⟩⟩
 ·exact⟨_,ty,.inr ⟨by decide,by unfold bb;dsimp only;rw [ha]⟩⟩
theorem bj{p:Addr}{H H':Hp}{n:Nat}{v:V}(s:ax H H')(h:Dt p H n v):bb H' v=bb H v:=by
 obtain⟨t,ty,⟨m,a,xs,rfl,rfl,rfl,ha,_⟩|⟨hf,hn⟩⟩:=h.cS
 ·rw [ak ha,ak (s _ _ ha)]
 ·rw [hn]
  obtain⟨t',Ky,⟨m,a,xs,rfl,rfl,rfl,ha,_⟩|⟨E4,Cv⟩⟩:=(h.same s).cS
  ·exfalso
   have Ab:bb H (.ref a)=none:=hn
   rcases h.kind with ⟨q,_⟩|⟨b,q,_⟩|⟨i,q,_⟩|⟨x,q,_,_⟩|⟨m',a',NV,_,q,_,E8,_⟩|⟨m',a',NV,_,q,_,E8,_⟩|⟨a',q,_,E8⟩
   ·cases q
   ·cases q
   ·cases q
   ·cases q
   ·cases q;rw [ak E8] at Ab;cases Ab
   ·cases q;rw [s _ _ E8] at ha;cases ha
   ·cases q;rw [s _ _ E8] at ha;cases ha
  ·exact Cv
def aV(H:Hp)(m:Nat)(φ:Hp->V->Bool)(v:V):Bool:=match bb H v with
 |some xs=>decide (xs.length<=m)&&xs.all (φ H)
 |none=>false
def E9(φ:Hp->V->Bool):Prop:=∀{p:Addr} {H H':Hp} {n:Nat} {v:V},ax H H'->Dt p H n v->φ H' v=φ H v
theorem all_congr{α:Type}{f g:α->Bool}:∀{l:List α},(∀x∈l,f x=g x)->l.all f=l.all g
 | [],_=>rfl
 |x::r,h=>by rw [List.all_cons,List.all_cons,h x (List.mem_cons_self),all_congr λy hy=>h y (List.mem_cons_of_mem _ hy)]
theorem gR{m:Nat}{φ:Hp->V->Bool}(st:E9 φ):E9 (λH v=>aV H m φ v):=by
 intro p H H' n v s h
 show aV H' m φ v=aV H m φ v
 unfold aV
 rw [bj s h]
 obtain⟨t,ty,⟨k,a,xs,rfl,rfl,rfl,ha,_,hx⟩|⟨hf,hn⟩⟩:=h.cS
 ·rw [ak ha]
  dsimp only
  rw [all_congr λx hm=>st s (hx x hm)]
 ·rw [hn]
def fh(φ:Hp->V->Bool):Sp:=λvs H Q _=>∃(v:V) (p:Addr) (n:Nat),vs = [v]/\Dt p H n v/\∀H',ax H H'->Q (.bl (φ H v)) H'
section
variable {P:Program} {w:World} {K:PySem.W.Frag} {mg:Str->Option Value} {base:Heap}
theorem sW:aO ["thing","most","is_one"] ["thing","most","is_one"] (ao (top 45)):=⟨rfl,rfl,rfl,by decide +kernel,rfl,by decide +kernel,by decide +kernel⟩
def gS(P:Program)(w:World)(K:PySem.W.Frag)(mg:Str->Option Value)(base:Heap)(k:Nat):Sp:=λvs H Q _=>∃(v:V) (m:Nat) (f:Addr) (fd:FuncData) (ps:List Str) (φ:Hp->V->Bool) (p:Addr) (n:Nat),
 vs = [v,.int m,.ref f]/\Dt p H n v/\g7 P w K mg base rZ k f fd ps (fh φ)/\PySem.W.keepIn K (.ref f)=true/\Binds K fd ps []/\E9 φ/\∀H',ax H H'->Q (.bl (aV H m φ v)) H'
theorem iT{k:Nat}(T:Txt w K mg)(S:Src K mg "is_tuple_of" (top 45) ["thing","most","is_one"]):Def P w K mg base (k+1) "is_tuple_of" ["thing","most","is_one"] (gS P w K mg base k):=by
 refine S.ok sW (λvs H Q E h=>?_) (λf0 cD A outer s H vs Q E hr h=>?_)
 ·obtain⟨v,m,f,fd,ps,φ,p,n,rfl,_⟩:=h;rfl
 obtain⟨v,m,f,fd,ps,φ,p,n,rfl,hv,F,hk,hb,st,q⟩:=h
 refine⟨_,(aj (aC (cF (aW bu rfl T.aH aE (aq (pv 0) (aq (dw T.cm bL rfl) aa))) (cF (bT lV (aW aN rfl T.cH bO (aq (pv 0) aa)) (pv 1) (aP _)) (di (aW (gv rfl) rfl T.sS nK (aq (cq (N':= ["part","is_one"]) (bg (ao (top 45)) (by rfl) (by decide +kernel) (by decide +kernel) (by decide +kernel) (by decide +kernel) (by decide +kernel) (by decide +kernel)) rfl (gP 1 [2] (by rfl) (by rfl) (by decide +kernel)) (cG (pv 0)) (λ_ _ _=>aM (i:=0) (show (["part","is_one"]:List Str).Nodup by decide +kernel) rfl (Or.inl rfl) (Or.inr rfl)) (λ_ _ _=>cB) (λ_ _ _=>(show PE _ _ (qA P w K mg base k (bQ 1) (bD (bQ 0) fE)) from sF (pv 1) hr (aq (pv 0) aa)))) aa))))))),?_⟩
 try dsimp only [gQ]
 obtain⟨t,ty,⟨j,a,xs,rfl,rfl,rfl,ha,hl,hx⟩|⟨hf,hn⟩⟩:=hv.cS
 ·refine⟨_,rfl,_,"tuple",_,rfl,ty,by simp,_,rfl,dQ (by decide) ?_⟩
  refine⟨_,rfl,a,_,rfl,.inr (aR.of ha),_,rfl,_,_,rfl,rfl,_,rfl,bZ (λc=>?_) (λc=>?_)⟩
  ·refine⟨_,rfl,a,rfl,⟨xs,aR.of ha⟩,fj (te:=qA P w K mg base k (bQ 1) (bD (bQ 0) fE)) (cs:= [some (.ref f)]) (λx=>.bl (φ H x)) ha (by omega) (by rfl) (λx H2 k2 zH s2 oN=>?_) (λacc H' E6 s' AX=>?_)⟩
   ·refine⟨_,rfl,f,fd,ps,fh φ,rfl,F,hk,hb,_,rfl,x,p,j,rfl,(hx x zH).same s2,λH3 s3=>?_⟩
    rw [st s2 (hx x zH)]
    exact oN H3 s3
   ·refine⟨acc,xs.map (φ H),rfl,bX.of (by rw [List.map_map];exact AX),?_⟩
    have e:aV H m φ (.ref a)=(xs.map (φ H)).all id:=by
     unfold aV
     rw [ak ha]
     dsimp only
     rw [decide_eq_true (by have:=of_decide_eq_true c;omega),Bool.true_and,List.all_map]
     rfl
    rw [<-e]
    exact q H' s'
  ·have e:aV H m φ (.ref a)=false:=by
    unfold aV
    rw [ak ha]
    dsimp only
    rw [decide_eq_false (by have:=of_decide_eq_false (Bool.eq_false_iff.mpr c);omega),Bool.false_and]
   rw [<-e]
   exact q H (ax.refl H)
 ·refine⟨_,rfl,_,"tuple",_,rfl,ty,by simp,_,rfl,dM hf ?_⟩
  have e:aV H m φ v=false:=by unfold aV;rw [hn]
  rw [<-e]
  exact q H (ax.refl H)
def jt(H:Hp)(v:V):Bool:=match bb H v with
 |some xs=>decide (xs.length=2)
 |none=>false
theorem DE:aO ["thing"] ["thing"] (ao (top 46)):=⟨rfl,rfl,rfl,by decide +kernel,rfl,by decide +kernel,by decide +kernel⟩
def vD:Sp:=λvs H Q _=>∃(v:V) (p:Addr) (n:Nat),vs = [v]/\Dt p H n v/\Q (.bl (jt H v)) H
theorem GU(T:Txt w K mg)(S:Src K mg "is_pair" (top 46) ["thing"]):Def P w K mg base 1 "is_pair" ["thing"] vD:=by
 refine S.ok DE (λvs H Q E h=>?_) (λf0 cD A outer s H vs Q E hr h=>?_)
 ·obtain⟨v,p,n,rfl,_⟩:=h;rfl
 obtain⟨v,p,n,rfl,hv,q⟩:=h
 refine⟨_,(aj (aC (cF (aW bu rfl T.aH aE (aq (pv 0) (aq (dw T.cm bL rfl) aa))) (di (bT cA (aW aN rfl T.cH bO (aq (pv 0) aa)) ag (aP _)))))),?_⟩
 try dsimp only [gQ]
 obtain⟨t,ty,⟨j,a,xs,rfl,rfl,rfl,ha,hl,hx⟩|⟨hf,hn⟩⟩:=hv.cS
 ·refine⟨_,rfl,_,"tuple",_,rfl,ty,by simp,_,rfl,dQ (by decide) ?_⟩
  refine⟨_,rfl,a,_,rfl,.inr (aR.of ha),rfl,?_⟩
  have e:jt H (.ref a)=decide (V.int (xs.length:Int)=V.int 2):=by
   unfold jt
   rw [ak ha]
   dsimp only
   by_cases h2:xs.length=2
   ·rw [decide_eq_true h2,decide_eq_true (by rw [h2];rfl)]
   ·rw [decide_eq_false h2,decide_eq_false (by intro z;injection z with z;omega)]
  rw [e] at q
  exact q
 ·refine⟨_,rfl,_,"tuple",_,rfl,ty,by simp,_,rfl,dM hf ?_⟩
  have e:jt H v=false:=by unfold jt;rw [hn]
  rw [<-e]
  exact q
theorem qI:E9 (λ_ x=>iS x):=λ_ _=>rfl
theorem qJ{p:Addr}{H H':Hp}{n m:Nat}{v:V}(s:ax H H')(h:Dt p H n v):aV H' m (λ_ x=>iS x) v=aV H m (λ_ x=>iS x) v:=gR qI s h
def cg(H:Hp)(v:V):V:=match bb H v with
 |some (y::_)=>y
 |_=>.eh
theorem sX:aO ["things"] ["things"] (ao (top 50)):=⟨rfl,rfl,rfl,by decide +kernel,rfl,by decide +kernel,by decide +kernel⟩
def iz:Sp:=λvs H Q _=>∃(a:Addr) (xs:List V),vs = [.ref a]/\H a=some (.tup xs)/\xs.length<=9100/\(∀x∈xs,∃b y ys,x=.ref b/\H b=some (.tup (y::ys))) /\
 ∀acc H',H acc=none->ax H H'->H' acc=some (.lst (xs.map (cg H)))->Q (.ref acc) H'
theorem vE(T:Txt w K mg)(S:Src K mg "names_of" (top 50) ["things"]):Def P w K mg base 1 "names_of" ["things"] iz:=by
 refine S.ok sX (λvs H Q E h=>?_) (λf0 cD A outer s H vs Q E hr h=>?_)
 ·obtain⟨a,xs,rfl,_⟩:=h;rfl
 obtain⟨a,xs,rfl,ha,hl,hx,q⟩:=h
 refine⟨_,(aj (aC (cq (N':= ["thing"]) (bg (ao (top 50)) (by rfl) (by decide +kernel) (by decide +kernel) (by decide +kernel) (by decide +kernel) (by decide +kernel) (by decide +kernel)) rfl (gP 1 [] (by rfl) (by rfl) (by decide +kernel)) (cG (pv 0)) (λ_ _ _=>aM (i:=0) (show (["thing"]:List Str).Nodup by decide +kernel) rfl (Or.inl rfl) (Or.inr rfl)) (λ_ _ _=>cB) (λ_ _ _=>(aJ (show gj _ (eu K) from aG) (pv 0) ag (λ_ _=>rfl)))))),?_⟩
 try dsimp only [gQ]
 refine⟨_,rfl,a,rfl,⟨xs,aR.of ha⟩,fj (te:=iG (eu K) (bQ 0) (tC (.int 0))) (cs:= []) (cg H) ha (by omega) (by rfl) (λx H2 k2 zH s2 oN=>?_) (λacc H' E6 s' AX=>q acc H' E6 s' AX)⟩
 obtain⟨b,y,ys,rfl,hb⟩:=hx x zH
 have e:cg H (.ref b)=y:=by unfold cg;rw [ak hb]
 have z:=oN H2 (ax.refl H2)
 rw [e] at z
 exact⟨_,rfl,b,_,0,_,rfl,rfl,aR.of (s2 _ _ hb),au (j:=0) rfl,z⟩
end
def vF(ns:List Str):V->Bool
 |.str s=>(ns.map V.str).any λy=>wL y (.str s)
 |_=>false
theorem jK(ns:List Str):(ns.map V.str).all iw=true:=by
 rw [List.all_eq_true]
 intro x hx
 obtain⟨y,_,rfl⟩:=List.mem_map.mp hx
 rfl
theorem GV{ns:List Str}{v:V}(h:∀x,v≠.str x):vF ns v=false:=by
 cases v with
 |str x=>exact absurd rfl (h x)
 |_=>rfl
def fF(bs ls:List Str)(rec:V->Bool)(kind:Str)(x:V):Bool:=
 if kind="number" then iS x else if kind="box" then vF bs x else if kind="list" then vF ls x else rec x
def isVal(H:Hp)(bs ls:List Str):Nat->V->Bool
 |0,_=>false
 |k+1,v=>match bb H v with
  |some (.str x::rest)=>match cR x with
   |some ks=>decide (rest.length=ks.length)&&(ks.zip rest).all λp=>fF bs ls (isVal H bs ls k) p.1 p.2
   |none=>false
  |_=>false
theorem fG{H:Hp}{bs ls:List Str}{k:Nat}{a:Addr}{x:Str}{rest:List V}(h:H a=some (.tup (.str x::rest))):isVal H bs ls (k+1) (.ref a)=(match cR x with
   |some ks=>decide (rest.length=ks.length)&&(ks.zip rest).all λp=>fF bs ls (isVal H bs ls k) p.1 p.2
   |none=>false):=by
 show (match bb H (.ref a) with
  |some (.str x::rest)=>match cR x with
   |some ks=>decide (rest.length=ks.length)&&(ks.zip rest).all λp=>fF bs ls (isVal H bs ls k) p.1 p.2
   |none=>false
  |_=>false)=_
 rw [ak h]
theorem iA{H:Hp}{bs ls:List Str}{k:Nat}{a:Addr}(h:H a=some (.tup [])):isVal H bs ls k (.ref a)=false:=by
 cases k with
 |zero=>rfl
 |succ k=>
  show (match bb H (.ref a) with
   |some (.str x::rest)=>match cR x with
    |some ks=>decide (rest.length=ks.length)&&(ks.zip rest).all λp=>fF bs ls (isVal H bs ls k) p.1 p.2
    |none=>false
   |_=>false)=_
  rw [ak h]
theorem gZ{H:Hp}{bs ls:List Str}{k:Nat}{a:Addr}{y:V}{rest:List V}(h:H a=some (.tup (y::rest)))(hy:∀x,y≠.str x):isVal H bs ls k (.ref a)=false:=by
 cases k with
 |zero=>rfl
 |succ k=>
  show (match bb H (.ref a) with
   |some (.str x::rest)=>match cR x with
    |some ks=>decide (rest.length=ks.length)&&(ks.zip rest).all λp=>fF bs ls (isVal H bs ls k) p.1 p.2
    |none=>false
   |_=>false)=_
  rw [ak h]
  cases y with
  |str x=>exact absurd rfl (hy x)
  |_=>rfl
theorem fH{H:Hp}{bs ls:List Str}{k:Nat}{v:V}(h:bb H v=none):isVal H bs ls k v=false:=by
 cases k with
 |zero=>rfl
 |succ k=>
  show (match bb H v with
   |some (.str x::rest)=>match cR x with
    |some ks=>decide (rest.length=ks.length)&&(ks.zip rest).all λp=>fF bs ls (isVal H bs ls k) p.1 p.2
    |none=>false
   |_=>false)=_
  rw [h]
theorem dc{p:Addr}{H H':Hp}{bs ls:List Str}(e:ax H H'):∀{k n:Nat} {v:V},Dt p H n v->isVal H' bs ls k v=isVal H bs ls k v
 |0,_,_,_=>rfl
 |k+1,n,v,h=>by
  rcases h.kind with ⟨rfl,ty⟩|⟨b,rfl,ty⟩|⟨i,rfl,ty⟩|⟨x,rfl,ty,hx⟩|⟨m,a,xs,_,rfl,ty,ha,_,hx⟩|⟨m,a,xs,_,rfl,ty,ha,_⟩|⟨a,rfl,ty,ha⟩
  ·rfl
  ·rfl
  ·rfl
  ·rfl
  ·cases xs with
   |nil=>rw [iA ha,iA (e _ _ ha)]
   |cons y rest=>
    by_cases hy:∃x,y=.str x
    ·obtain⟨x,rfl⟩:=hy
     rw [fG ha,fG (e _ _ ha)]
     cases cR x with
     |none=>rfl
     |some ks=>
      dsimp only
      congr 1
      refine all_congr λq hq=>?_
      have hm:q.2∈rest:=(List.of_mem_zip hq).2
      unfold fF
      rw [dc e (hx q.2 (List.mem_cons_of_mem _ hm))]
    ·have Cf:∀x,y≠.str x:=λx z=>hy ⟨x,z⟩
     rw [gZ ha Cf,gZ (e _ _ ha) Cf]
  ·rw [fH (H:=H') (by unfold bb;dsimp only;rw [e _ _ ha]),fH (H:=H) (by unfold bb;dsimp only;rw [ha])]
  ·rw [fH (H:=H') (by unfold bb;dsimp only;rw [e _ _ ha]),fH (H:=H) (by unfold bb;dsimp only;rw [ha])]
theorem pR{x:Str}{ks:List Str}(h:cR x=some ks):1<=ks.length/\ks.length<=2:=by
 unfold cR at h
 have go:∀{c:Prop} [Decidable c] {l:List Str} {r:Option (List Str)},(if c then some l else r)=some ks->1<=l.length/\l.length<=2->(r=some ks->1<=ks.length/\ks.length<=2)->1<=ks.length/\ks.length<=2:=λ{c} _ {l} {r} h hl hr=>by
  by_cases hc:c
  ·rw [if_pos hc] at h
   injection h with h
   exact h▸hl
  ·rw [if_neg hc] at h
   exact hr h
 have two:∀a b:Str,1 <= [a,b].length /\ [a,b].length<=2:=λ_ _=>⟨by simp,by simp⟩
 have one:∀a:Str,1 <= [a].length /\ [a].length<=2:=λ_=>⟨by simp,by simp⟩
 refine go h (one _) λh=>go h (one _) λh=>go h (two _ _) λh=>go h (two _ _) λh=>go h (two _ _) λh=>go h (two _ _) λh=>go h (two _ _) λh=>go h (two _ _) λh=>go h (two _ _) λh=>go h (one _) λh=>go h (two _ _) λh=>go h (one _) λh=>?_
 cases h
theorem vG{ns:List Str}{v:V}(h:∀x∈ns,fc x=true)(hv:gH v=false):vF ns v=false:=by
 cases v with
 |str s=>
  show (ns.map V.str).any _=false
  rw [List.any_eq_false]
  intro y hy
  obtain⟨z,hz,rfl⟩:=List.mem_map.mp hy
  intro e
  have e':z=s:=by
   have:(z == s)=true:=e
   simpa using this
  have:=h z hz
  rw [e'] at this
  have Nt:fc s=false:=hv
  rw [Nt] at this
  cases this
 |_=>rfl
theorem ik{v:V}(h:gH v=true):∃x,v=.str x:=by
 cases v with
 |str s=>exact⟨s,rfl⟩
 |_=>cases h
theorem ax.ke{K:PySem.W.Frag}{H H':Hp}{a:Addr}{xs:List V}(e:ax H H')(h:aR K H a xs):aR K H' a xs:=by
 rcases h with (h|⟨o,h⟩)|h
 ·exact .inl (.inl (e _ _ h))
 ·exact .inl (.inr ⟨o,e _ _ h⟩)
 ·exact .inr h
theorem ju(y:V)(ys:List V):fR (y::ys) (some 1) none=ys:=by
 unfold fR
 have e1:HT.eS (y::ys).length 0 (some 1)=1:=by
  have:=HT.mH (y::ys).length 0 1
  rw [show (some (1:Int))=some ((1:Nat):Int) from rfl,this,List.length_cons]
  omega
 rw [e1,HT.kG]
 simp
def g9(k:Nat):Sp:=λvs H Q _=>∃(v:V) (b l:Addr) (d:Int) (p:Addr) (n:Nat) (bs ls:List Str),vs = [v,.ref b,.ref l,.int d]/\d=(k:Int)/\Dt p H n v/\H b=some (.lst (bs.map V.str))/\H l=some (.lst (ls.map V.str))/\(∀x∈bs,fc x=true)/\(∀x∈ls,fc x=true) /\
 ∀H',ax H H'->Q (.bl (isVal H bs ls k v)) H'
def vH(k:Nat):Sp:=λvs H Q _=>∃(kind:Str) (v:V) (b l:Addr) (d:Int) (k':Nat) (p:Addr) (n:Nat) (bs ls:List Str),vs = [.str kind,v,.ref b,.ref l,.int d]/\k=k'+1/\d=(k':Int)/\Dt p H n v/\H b=some (.lst (bs.map V.str))/\H l=some (.lst (ls.map V.str)) /\
 (∀x∈bs,fc x=true)/\(∀x∈ls,fc x=true)/\∀H',ax H H'->Q (.bl (fF bs ls (isVal H bs ls k') kind v)) H'
section
variable {P:Program} {w:World} {K:PySem.W.Frag} {mg:Str->Option Value} {base:Heap}
theorem vI:aO ["kind","part","boxes","lists","depth"] ["kind","part","boxes","lists","depth"] (ao (top 31)):=⟨rfl,rfl,rfl,by decide +kernel,rfl,by decide +kernel,by decide +kernel⟩
theorem qK{k j:Nat}(T:Txt w K mg)(bH:Def P w K mg base 1 "is_name" ["thing"] eX)(bp:Def P w K mg base 2 "is_number" ["thing"] gn)(S:Src K mg "is_part" (top 31) ["kind","part","boxes","lists","depth"])
  (fU:Def P w K mg base (j+2) "is_value_within" ["thing","boxes","lists","depth"] (g9 k)):Def P w K mg base (j+3) "is_part" ["kind","part","boxes","lists","depth"] (vH (k+1)):=by
 refine S.ok vI (λvs H Q E h=>?_) (λf cD A outer s H vs Q E hr h=>?_)
 ·obtain⟨kind,v,b,l,d,k',p,n,bs,ls,rfl,_⟩:=h;rfl
 obtain⟨kind,v,b,l,d,k',p,n,bs,ls,rfl,hk,rfl,hv,hb,hl,mQ,vJ,q⟩:=h
 obtain rfl:k=k':=by omega
 refine⟨_,(ai (aX (aQ cA (pv 0) aD (aP _))
   (aj (aC (aw (bp.mono (Nat.le_add_left 2 _)) hr rfl (aq (pv 1) aa)))) aI)
   (ai (aX (aQ cA (pv 0) aD (aP _))
   (aj (aC (cF (aw (bH.mono (Nat.le_add_left 1 (_+1))) hr rfl (aq (pv 1) aa)) (di (bT fL (pv 1) (pv 2) (by rfl)))))) aI)
   (ai (aX (aQ cA (pv 0) aD (aP _))
   (aj (aC (cF (aw (bH.mono (Nat.le_add_left 1 (_+1))) hr rfl (aq (pv 1) aa)) (di (bT fL (pv 1) (pv 3) (by rfl)))))) aI)
   (aj (aC (aw (fU) hr rfl (aq (pv 1) (aq (pv 2) (aq (pv 3) (aq (pv 4) aa)))))))))),?_⟩
 try dsimp only [gQ]
 have among:∀(ns:List Str) (c:Addr),H c=some (.lst (ns.map V.str))->(∀x∈ns,fc x=true)->(∀H',ax H H'->Q (.bl (vF ns v)) H')->∀H1,ax H H1->(if gH v=true then (∃p' xs,V.ref c=.ref p'/\(bX K H1 p' xs\/aR K H1 p' xs)/\iw v=true/\xs.all iw=true/\Q (.bl (if false then !uI v xs else uI v xs)) H1) else Q (.bl false) H1):=λns c hc IE q' H1 s1=>by
  refine bZ (λz=>?_) (λz=>?_)
  ·obtain⟨x,rfl⟩:=ik z
   exact⟨c,_,rfl,.inl (bX.of (s1 _ _ hc)),rfl,jK ns,q' H1 s1⟩
  ·have:=q' H1 s1
   rw [vG IE (Bool.eq_false_iff.mpr z)] at this
   exact this
 refine⟨_,rfl,rfl,_,rfl,bZ (λc=>?_) (λc=>?_)⟩
 ·have c':kind="number":=by have:=of_decide_eq_true c;injection this
  refine⟨_,rfl,v,p,n,rfl,hv,?_⟩
  have z:=q H (ax.refl H)
  unfold fF at z
  rw [if_pos c'] at z
  exact z
 have n1:kind≠"number":=λz=>c (decide_eq_true (by rw [z]))
 refine⟨_,rfl,rfl,_,rfl,bZ (λc=>?_) (λc=>?_)⟩
 ·have c':kind="box":=by have:=of_decide_eq_true c;injection this
  unfold fF at q
  rw [if_neg n1,if_pos c'] at q
  refine⟨_,rfl,v,p,n,rfl,hv,λH1 s1=>⟨_,rfl,?_⟩⟩
  have z:=among bs b hb mQ q H1 s1
  refine bZ (λy=>?_) (λy=>?_)
  ·rw [if_pos y] at z
   exact⟨_,rfl,_,rfl,z⟩
  ·rw [if_neg y] at z
   exact z
 have n2:kind≠"box":=λz=>c (decide_eq_true (by rw [z]))
 refine⟨_,rfl,rfl,_,rfl,bZ (λc=>?_) (λc=>?_)⟩
 ·have c':kind="list":=by have:=of_decide_eq_true c;injection this
  unfold fF at q
  rw [if_neg n1,if_neg n2,if_pos c'] at q
  refine⟨_,rfl,v,p,n,rfl,hv,λH1 s1=>⟨_,rfl,?_⟩⟩
  have z:=among ls l hl vJ q H1 s1
  refine bZ (λy=>?_) (λy=>?_)
  ·rw [if_pos y] at z
   exact⟨_,rfl,_,rfl,z⟩
  ·rw [if_neg y] at z
   exact z
 have n3:kind≠"list":=λz=>c (decide_eq_true (by rw [z]))
 unfold fF at q
 rw [if_neg n1,if_neg n2,if_neg n3] at q
 exact⟨_,rfl,_,rfl,_,rfl,_,rfl,v,b,l,_,p,n,bs,ls,rfl,rfl,hv,hb,hl,mQ,vJ,q⟩
end
section
variable {P:Program} {w:World} {K:PySem.W.Frag} {mg:Str->Option Value} {base:Heap}
def sY:List V->Bool
 |.str _::_=>true
 |_=>false
def cX(H:Hp)(v:V):Bool:=match bb H v with
 |some xs=>sY xs
 |none=>false
theorem sZ:aO ["thing"] ["thing"] (ao (top 14)):=⟨rfl,rfl,rfl,by decide +kernel,rfl,by decide +kernel,by decide +kernel⟩
def lM:Sp:=λvs H Q _=>∃(v:V) (p:Addr) (n:Nat),vs = [v]/\Dt p H n v/\Q (.bl (cX H v)) H
theorem f9(T:Txt w K mg)(S:Src K mg "has_word" (top 14) ["thing"]):Def P w K mg base 1 "has_word" ["thing"] lM:=by
 refine S.ok sZ (λvs H Q E h=>?_) (λf cD A outer s H vs Q E hr h=>?_)
 ·obtain⟨v,p,n,rfl,_⟩:=h;rfl
 obtain⟨v,p,n,rfl,hv,q⟩:=h
 refine⟨_,(aj (aC (cF (aW bu rfl T.aH aE (aq (pv 0) (aq (dw T.cm bL rfl) aa))) (cF (bT lW (aW aN rfl T.cH bO (aq (pv 0) aa)) ag (aP _)) (di (aW bu rfl T.aH aE (aq (aJ aG (pv 0) ag (λ_ _=>rfl)) (aq (dw T.pQ lJ rfl) aa)))))))),?_⟩
 try dsimp only [gQ]
 obtain⟨t,ty,⟨m,a,xs,_,rfl,rfl,ha,jY,hx⟩|⟨ht,hn⟩⟩:=hv.cS
 ·refine⟨_,rfl,_,"tuple",_,rfl,ty,by simp,_,rfl,dQ (by decide) ?_⟩
  refine⟨_,rfl,a,xs,rfl,.inr (aR.of ha),_,_,rfl,rfl,_,rfl,?_⟩
  have e:cX H (.ref a)=sY xs:=by unfold cX;rw [ak ha]
  cases xs with
  |nil=>
   refine dM (by decide) ?_
   rw [e] at q
   exact q
  |cons y ys=>
   refine dQ (decide_eq_true (by rw [List.length_cons];omega)) ?_
   obtain⟨t,ty,⟨x,rfl,rfl,_⟩|⟨hf,_,rT⟩⟩:=(hx y List.mem_cons_self).strOr
   ·rw [e] at q
    exact⟨_,rfl,a,_,0,_,rfl,rfl,aR.of ha,au (j:=0) rfl,_,"str",_,rfl,ty,by simp,q⟩
   ·have e2:sY (y::ys)=false:=by
     cases y with
     |str z=>exact absurd rfl (rT z)
     |_=>rfl
    rw [e,e2,<-hf] at q
    exact⟨_,rfl,a,_,0,_,rfl,rfl,aR.of ha,au (j:=0) rfl,_,"str",_,rfl,ty,by simp,q⟩
 ·refine⟨_,rfl,_,"tuple",_,rfl,ty,by simp,_,rfl,dM ht ?_⟩
  have e:cX H v=false:=by unfold cX;rw [hn]
  rw [e] at q
  exact q
theorem oj:aO ["word"] ["word"] (ao (top 15)):=⟨rfl,rfl,rfl,by decide +kernel,rfl,by decide +kernel,by decide +kernel⟩
def xj(K:PySem.W.Frag):Sp:=λvs H Q _=>∃(x:Str),vs = [.str x]/\(match cR x with
 |some ks=>∀b,aR K H b (ks.map V.str)->Q (.ref b) H
 |none=>Q .eh H)
theorem fq(T:Txt w K mg)(S:Src K mg "value_kinds" (top 15) ["word"]):Def P w K mg base 1 "value_kinds" ["word"] (xj K):=by
 obtain⟨aF,mF,tab⟩:=T.tab
 refine S.ok oj (λvs H Q E h=>?_) (λf cD A outer s H vs Q E hr h=>?_)
 ·obtain⟨x,rfl,_⟩:=h;rfl
 obtain⟨x,rfl,q⟩:=h
 exact⟨_,(aj (aC (pK tab rfl mF (pv 0)))),_,rfl,x,rfl,q⟩
theorem pS:aO ["thing","boxes","lists","depth","kinds"] ["thing","boxes","lists","depth"] (ao (top 30)):=⟨rfl,rfl,rfl,by decide +kernel,rfl,by decide +kernel,by decide +kernel⟩
theorem om{α:Type}(f:α->Bool)(l:List α):(l.map f).all id=l.all f:=by
 rw [List.all_map];rfl
theorem jv{k j:Nat}(T:Txt w K mg)(kg:Def P w K mg base 1 "has_word" ["thing"] lM)(oV:Def P w K mg base 1 "value_kinds" ["word"] (xj K))(S:Src K mg "is_value_within" (top 30) ["thing","boxes","lists","depth"])
  (vK:Def P w K mg base (j+1) "is_part" ["kind","part","boxes","lists","depth"] (vH k)):Def P w K mg base (j+2) "is_value_within" ["thing","boxes","lists","depth"] (g9 k):=by
 refine S.ok pS (λvs H Q E h=>?_) (λf cD A outer s H vs Q E hr h=>?_)
 ·obtain⟨v,b,l,d,p,n,bs,ls,rfl,_⟩:=h;rfl
 obtain⟨v,b,l,d,p,n,bs,ls,rfl,rfl,hv,hb,hl,mQ,vJ,q⟩:=h
 refine⟨_,(ai (aX (cN (PW.pt (dX (aQ cA (pv 3) ag (aP _)) (dG (bh (bf (aw (kg.mono (Nat.le_add_left 1 _)) hr rfl (aq (pv 0) aa))))))))
   (aj (aC cW)) aI)
   (ai (aS (i:=4) pS.nd rfl (Or.inl rfl) (aw (oV.mono (Nat.le_add_left 1 _)) hr rfl (aq (aJ aG (pv 0) ag (λ_ _=>rfl)) aa)))
   (ai (aX (cN (PW.pt (dX (aQ zY (pv 4) um (aP _)) (dG (aQ ji (aW aN rfl T.cH bO (aq (pv 0) aa)) (aU eW ag (aW aN rfl T.cH bO (aq (pv 4) aa))) (aP _))))))
   (aj (aC cW)) aI)
   (aj (aC (aW (gv rfl) rfl T.sS nK (aq (cq (N':= ["kind","part","boxes","lists","depth"]) (bg (ao (top 30)) (by rfl) (by decide +kernel) (by decide +kernel) (by decide +kernel) (by decide +kernel) (by decide +kernel) (by decide +kernel)) rfl (gP 2 [1,2,3] (by rfl) (by rfl) (by decide +kernel)) (uT rfl T.w8 (aq (pv 4) (aq (bJ dg (pv 0) (bV ag) cp) aa))) (λ_ _ _=>(show PG _ _ (zV K 2 (kA (fK 0) (kA (fK 1) zU))) from iJ (n:=2) rfl (bF (aM (i:=0) (show (["kind","part","boxes","lists","depth"]:List Str).Nodup by decide +kernel) rfl (Or.inl rfl) (Or.inr rfl)) (bF (aM (i:=1) (show (["kind","part","boxes","lists","depth"]:List Str).Nodup by decide +kernel) rfl (Or.inl rfl) (Or.inr rfl)) gK)))) (λ_ _ _=>cB) (λ_ _ _=>(aw (vK) hr rfl (aq (pv 0) (aq (pv 1) (aq (pv 2) (aq (pv 3) (aq (aU lD (pv 4) ag) aa)))))))) aa))))))),?_⟩
 try dsimp only [gQ]
 refine⟨λt H'=>H=H'/\((t=true/\isVal H bs ls k v=false)\/(t=false/\∃(k' m:Nat) (a:Addr) (x:Str) (ys:List V),k=k'+1/\v=.ref a/\H a=some (.tup (.str x::ys))/\(V.str x::ys).length<=9100/\∀u∈V.str x::ys,Dt p H m u)),?_,?_⟩
 ·refine⟨_,rfl,rfl,_,rfl,bZ (λc=>?_) (λc=>?_)⟩
  ·have c':=of_decide_eq_true c
   injection c' with c'
   obtain rfl:k=0:=by omega
   exact⟨rfl,.inl ⟨rfl,rfl⟩⟩
  cases k with
  |zero=>exact absurd (decide_eq_true rfl) c
  |succ k'=>
  refine⟨_,rfl,v,p,n,rfl,hv,_,rfl,rfl,?_⟩
  obtain⟨t,ty,⟨m,a,xs,_,rfl,rfl,ha,jY,hx⟩|⟨ht,hn⟩⟩:=hv.cS
  ·have e:cX H (.ref a)=sY xs:=by unfold cX;rw [ak ha]
   rw [e]
   cases xs with
   |nil=>exact .inl ⟨rfl,iA ha⟩
   |cons y ys=>
    by_cases hy:∃x,y=.str x
    ·obtain⟨x,rfl⟩:=hy
     exact .inr ⟨rfl,k',m,a,x,ys,rfl,rfl,ha,jY,hx⟩
    ·have rT:∀x,y≠.str x:=λx z=>hy ⟨x,z⟩
     refine .inl ⟨?_,gZ ha rT⟩
     cases y with
     |str z=>exact absurd rfl (rT z)
     |_=>rfl
  ·have e:cX H v=false:=by unfold cX;rw [hn]
   rw [e]
   exact .inl ⟨rfl,fH hn⟩
 rintro t H' ⟨rfl,⟨rfl,hn⟩|⟨rfl,k,m,a,x,ys,rfl,rfl,ha,jY,hx⟩⟩
 ·have z:=q H (ax.refl H)
  rw [hn] at z
  exact dQ rfl z
 refine dM rfl ?_
 refine⟨_,rfl,a,_,0,_,rfl,rfl,aR.of ha,au (j:=0) rfl,x,rfl,?_⟩
 have eV:=fG (bs:=bs) (ls:=ls) (k:=k) ha
 cases i8:cR x with
 |none=>
  rw [i8] at eV
  have z:=q H (ax.refl H)
  rw [eV] at z
  refine⟨λt H'=>H=H'/\t=true,⟨_,rfl,rfl,_,rfl,dQ (by decide) ⟨rfl,rfl⟩⟩,?_⟩
  rintro t H' ⟨rfl,rfl⟩
  exact dQ rfl z
 |some ks=>
 rw [i8] at eV
 dsimp only at eV ⊢
 intro bk hk
 refine⟨λt H'=>H=H'/\t = !decide (ys.length=ks.length),?_,?_⟩
 ·refine⟨_,rfl,rfl,_,rfl,dM (decide_eq_false (by intro z;cases z)) ?_⟩
  refine⟨_,rfl,a,_,rfl,.inr (aR.of ha),_,rfl,bk,_,rfl,.inr hk,_,_,rfl,rfl,rfl,_,rfl,rfl,?_⟩
  have e1:((V.str x::ys).length:Int)=1+(ys.length:Int):=by rw [List.length_cons];omega
  rw [e1,List.length_map]
  by_cases hlen:ys.length=ks.length
  ·rw [decide_eq_true hlen,hlen,decide_eq_true rfl]
  ·rw [decide_eq_false hlen,decide_eq_false]
   intro z;injection z with z;omega
 rintro t H' ⟨rfl,rfl⟩
 by_cases hlen:ys.length=ks.length
 case neg=>
  have z:=q H (ax.refl H)
  rw [eV,decide_eq_false hlen,Bool.false_and] at z
  exact dQ (by rw [decide_eq_false hlen];rfl) z
 refine dM (by rw [decide_eq_true hlen];rfl) ?_
 rw [decide_eq_true hlen,Bool.true_and] at eV
 have Cg:=pR i8
 have l3:(100:Nat)<sizeLine:=by decide
 refine⟨_,rfl,_,rfl,_,rfl,a,_,rfl,ha,λpt H1 s1 h1=>?_⟩
 rw [ju] at h1
 refine⟨bk,pt,rfl,⟨_,ax.ke s1 hk⟩,⟨_,aR.of h1⟩,λacc bR=>?_⟩
 let f:Str×V->Bool:=λp=>fF bs ls (isVal H bs ls k) p.1 p.2
 refine⟨λi m σ2 zs H2=>m=ks.length-i/\i<=ks.length/\(∃x0 x1,σ2 = [x0,x1,some (.ref b),some (.ref l),some (.int ((k+1:Nat):Int))])/\zs=(((ks.zip ys).take i).map f).map V.bl/\H2 acc=some (.lst zs)/\ax H1 H2,
  ⟨_,rfl,Nat.zero_le _,⟨_,_,rfl⟩,rfl,ae,ah bR _⟩,?_⟩
 rintro i _ σ2 zs H2 ⟨rfl,hi,⟨x0,x1,rfl⟩,rfl,oW,sm⟩
 refine⟨oW,?_⟩
 have Kz:(ks.zip ys).length=ks.length:=by rw [List.length_zip,hlen,Nat.min_self]
 by_cases eQ:i<ks.length
 ·obtain⟨ki,ug⟩:∃ki,ks[i]?=some ki:=⟨_,List.getElem?_eq_getElem eQ⟩
  obtain⟨yi,yV⟩:∃yi,ys[i]?=some yi:=⟨_,List.getElem?_eq_getElem (by omega)⟩
  have tj:(ks.map V.str)[i]?=some (.str ki):=by rw [List.getElem?_map,ug];rfl
  have hz:(ks.zip ys)[i]?=some (ki,yi):=by rw [List.getElem?_zip_eq_some];exact⟨ug,yV⟩
  have oN:=ax.ke sm (ax.ke s1 hk)
  have AY:aR K H2 pt ys:=aR.of (sm _ _ h1)
  refine .inr ⟨⟨_,_,_,_,oN,AY,tj,yV⟩,?_,?_⟩
  ·rw [List.length_map,List.length_map,List.length_take]
   omega
  rintro v H3 ⟨Tp,hT,rfl,nN⟩
  have e3:=nN _ _ _ _ oN AY tj yV
  subst e3
  have s3:=ah hT (.tup [.str ki,yi])
  have mh:=s1.trans (sm.trans s3)
  have zI:=hx yi (List.mem_cons_of_mem _ (List.mem_of_getElem? yV))
  refine⟨Tp,_,rfl,aR.of ae,rfl,_,_,rfl,_,_,rfl,rfl,?_⟩
  refine⟨_,rfl,_,rfl,_,rfl,_,rfl,_,rfl,_,_,rfl,rfl,?_⟩
  refine⟨ki,yi,b,l,_,k,p,m,bs,ls,rfl,rfl,(by omega),zI.same mh,mh _ _ hb,mh _ _ hl,mQ,vJ,λH4 s4=>?_⟩
  have GW:=s4 _ _ (s3 _ _ oW)
  have ef:fF bs ls (isVal (upd H2 Tp (.tup [.str ki,yi])) bs ls k) ki yi=f (ki,yi):=by
   show fF bs ls _ ki yi=fF bs ls _ ki yi
   unfold fF
   rw [dc mh zI]
  rw [ef]
  refine⟨GW,_,(by omega:ks.length-(i+1)<ks.length-i),rfl,eQ,⟨_,_,rfl⟩,?_,ae,λb' o eN=>?_⟩
  ·rw [List.take_add_one,hz,List.map_append,List.map_append];rfl
  ·rw [aK (aL eN bR)];exact s4 _ _ (s3 _ _ (sm _ _ eN))
 ·obtain rfl:i=ks.length:=by omega
  refine .inl ⟨⟨_,_,ax.ke sm (ax.ke s1 hk),aR.of (sm _ _ h1),.inl (Nat.le_of_eq (List.length_map _))⟩,?_⟩
  refine⟨acc,_,rfl,bX.of oW,?_⟩
  have z:=q H2 (s1.trans sm)
  rw [eV] at z
  rw [om,<-Kz,List.take_length]
  exact z
theorem tq:aO ["thing","boxes","lists"] ["thing","boxes","lists"] (ao (top 29)):=⟨rfl,rfl,rfl,by decide +kernel,rfl,by decide +kernel,by decide +kernel⟩
def mR:Sp:=λvs H Q _=>∃(v:V) (b l:Addr) (p:Addr) (n:Nat) (bs ls:List Str),vs = [v,.ref b,.ref l]/\Dt p H n v/\H b=some (.lst (bs.map V.str))/\H l=some (.lst (ls.map V.str))/\(∀x∈bs,fc x=true)/\(∀x∈ls,fc x=true) /\
 ∀H',ax H H'->Q (.bl (isVal H bs ls 4 v)) H'
theorem vL{j:Nat}(T:Txt w K mg)(S:Src K mg "is_value" (top 29) ["thing","boxes","lists"])
  (fU:Def P w K mg base j "is_value_within" ["thing","boxes","lists","depth"] (g9 4)):Def P w K mg base (j+1) "is_value" ["thing","boxes","lists"] mR:=by
 obtain⟨tm,yW⟩:=T.deep
 refine S.ok tq (λvs H Q E h=>?_) (λf cD A outer s H vs Q E hr h=>?_)
 ·obtain⟨v,b,l,p,n,bs,ls,rfl,_⟩:=h;rfl
 obtain⟨v,b,l,p,n,bs,ls,rfl,hv,hb,hl,mQ,vJ,q⟩:=h
 refine⟨_,(aj (aC (aw (fU) hr rfl (aq (pv 0) (aq (pv 1) (aq (pv 2) (aq (br (v:=.int (4)) rfl yW ⟨_,rfl⟩) aa))))))),?_⟩
 try dsimp only [gQ]
 exact⟨_,rfl,_,rfl,_,rfl,v,b,l,_,p,n,bs,ls,rfl,rfl,hv,hb,hl,mQ,vJ,q⟩
theorem tu(T:Txt w K mg)(Sh:Src K mg "has_word" (top 14) ["thing"])(Sk:Src K mg "value_kinds" (top 15) ["word"])(bH:Def P w K mg base 1 "is_name" ["thing"] eX)(bp:Def P w K mg base 2 "is_number" ["thing"] gn)(S1:Src K mg "is_value" (top 29) ["thing","boxes","lists"])
  (S2:Src K mg "is_value_within" (top 30) ["thing","boxes","lists","depth"]) (S3:Src K mg "is_part" (top 31) ["kind","part","boxes","lists","depth"]):Def P w K mg base 11 "is_value" ["thing","boxes","lists"] mR:=by
 have p0:Def P w K mg base 1 "is_part" ["kind","part","boxes","lists","depth"] (vH 0):=S3.no λvs H Q E h=>by
  obtain⟨_,_,_,_,_,k',_,_,_,_,_,hk,_⟩:=h
  omega
 have w0:=jv T (f9 T Sh) (fq T Sk) S2 p0
 have p1:=qK T bH bp S3 w0
 have w1:=jv T (f9 T Sh) (fq T Sk) S2 p1
 have p2:=qK T bH bp S3 w1
 have w2:=jv T (f9 T Sh) (fq T Sk) S2 p2
 have p3:=qK T bH bp S3 w2
 have w3:=jv T (f9 T Sh) (fq T Sk) S2 p3
 have p4:=qK T bH bp S3 w3
 have w4:=jv T (f9 T Sh) (fq T Sk) S2 p4
 exact vL T S1 w4
end
def fI(H:Hp)(v:V):Bool:=match bb H v with
 |some [y,z]=>gH y&&iS z
 |_=>false
def cM(H:Hp)(v:V):Bool:=match bb H v with
 |some [y,z]=>gH y&&aV H 12 (λ_ x=>iS x) z
 |_=>false
def dy(H:Hp)(v:V):Bool:=match bb H v with
 |some [x,ps,os,rs]=>gH x&&(aV H 3 (λ_ x=>gH x) ps&&(aV H 3 (λ_ x=>gH x) os&&(bb H rs).isSome))
 |_=>false
theorem oo:E9 (λ_ x=>gH x):=λ_ _=>rfl
theorem lN{p:Addr}{H H':Hp}{n m:Nat}{v:V}(s:ax H H')(h:Dt p H n v):aV H' m (λ_ x=>gH x) v=aV H m (λ_ x=>gH x) v:=gR oo s h
theorem mS:E9 fI:=by
 intro p H H' n v s h
 unfold fI
 rw [bj s h]
theorem iB:E9 cM:=by
 intro p H H' n v s h
 unfold cM
 rw [bj s h]
 obtain⟨t,ty,⟨k,a,xs,rfl,rfl,rfl,ha,_,hx⟩|⟨hf,hn⟩⟩:=h.cS
 ·rw [ak ha]
  match xs,hx with
  | [],_=>rfl
  | [_],_=>rfl
  | [y,z],hx=>
   dsimp only
   rw [qJ s (hx z (by simp))]
  |_::_::_::_,_=>rfl
 ·rw [hn]
theorem jL:E9 dy:=by
 intro p H H' n v s h
 unfold dy
 rw [bj s h]
 obtain⟨t,ty,⟨k,a,xs,rfl,rfl,rfl,ha,_,hx⟩|⟨hf,hn⟩⟩:=h.cS
 ·rw [ak ha]
  match xs,hx with
  | [],_=>rfl
  | [_],_=>rfl
  | [_,_],_=>rfl
  | [_,_,_],_=>rfl
  | [x,ps,os,rs],hx=>
   dsimp only
   rw [lN s (hx ps (by simp)),lN s (hx os (by simp)),bj s (hx rs (by simp))]
  |_::_::_::_::_::_,_=>rfl
 ·rw [hn]
theorem jw:∀{l m:List Str},l.Nodup->(∀x∈l,x∈m)->l.length<=m.length
 | [],_,_,_=>Nat.zero_le _
 |x::r,m,h,k=>by
  have hx:=k x List.mem_cons_self
  obtain⟨h1,h2⟩:=List.nodup_cons.mp h
  have:=jw (l:=r) (m:=m.erase x) h2 λy hy=>(List.mem_erase_of_ne (λe=>h1 (by rw [<-e];exact hy))).mpr (k y (List.mem_cons_of_mem _ hy))
  rw [List.length_erase_of_mem hx] at this
  have hp:0<m.length:=List.length_pos_of_mem hx
  rw [List.length_cons]
  omega
theorem twice:∀{m:List Str},¬m.Nodup->∃x,x∈m/\x∈m.erase x
 | [],h=>absurd List.nodup_nil h
 |y::r,h=>by
  by_cases hy:y∈r
  ·exact⟨y,List.mem_cons_self,by rw [List.erase_cons_head];exact hy⟩
  ·obtain⟨x,h1,h2⟩:=twice (m:=r) λz=>h (List.nodup_cons.mpr ⟨hy,z⟩)
   have ne:y≠x:=λe=>hy (by rw [e];exact h1)
   refine⟨x,List.mem_cons_of_mem _ h1,?_⟩
   rw [List.erase_cons_tail (by simpa using ne)]
   exact List.mem_cons_of_mem _ h2
theorem AZ(ws:List Str):decide ((dh ws).length=ws.length)=decide ws.Nodup:=by
 obtain⟨n1,m1⟩:=me ws
 have le:=jw n1 λx hx=>(m1 x).mp hx
 by_cases h:ws.Nodup
 ·have ge:=jw h λx hx=>(m1 x).mpr hx
  rw [decide_eq_true h,decide_eq_true (by omega)]
 ·rw [decide_eq_false h,decide_eq_false]
  intro e
  obtain⟨x,h1,h2⟩:=twice h
  have hp:0<ws.length:=List.length_pos_of_mem h1
  have:(dh ws).length<=(ws.erase x).length:=jw n1 λy hy=>by
   by_cases e:y=x
   ·rw [e];exact h2
   ·exact (List.mem_erase_of_ne e).mpr ((m1 y).mp hy)
  rw [List.length_erase_of_mem h1] at this
  omega
section
variable {P:Program} {w:World} {K:PySem.W.Frag} {mg:Str->Option Value} {base:Heap}
theorem qL:aO ["word"] ["word"] (ao (top 16)):=⟨rfl,rfl,rfl,by decide +kernel,rfl,by decide +kernel,by decide +kernel⟩
def tD(K:PySem.W.Frag):Sp:=λvs H Q _=>∃(x:Str),vs = [.str x]/\(match bP x with
 |some ks=>∀b,aR K H b (ks.map V.str)->Q (.ref b) H
 |none=>Q .eh H)
theorem tE(T:Txt w K mg)(S:Src K mg "row_kinds" (top 16) ["word"]):Def P w K mg base 1 "row_kinds" ["word"] (tD K):=by
 obtain⟨aF,mF,tab⟩:=T.Kx
 refine S.ok qL (λvs H Q E h=>?_) (λf cD A outer s H vs Q E hr h=>?_)
 ·obtain⟨x,rfl,_⟩:=h;rfl
 obtain⟨x,rfl,q⟩:=h
 exact⟨_,(aj (aC (pK tab rfl mF (pv 0)))),_,rfl,x,rfl,q⟩
theorem two_or{α:Type}{f:V->V->Bool}{xs:List V}(h : ¬xs.length=2):(match (some xs:Option (List V)) with
 |some [y,z]=>f y z
 |_=>false)=false:=by
 match xs,h with
 | [],_=>rfl
 | [_],_=>rfl
 | [_,_],h=>exact absurd rfl h
 |_::_::_::_,_=>rfl
theorem GX:aO ["thing"] ["thing"] (ao (top 47)):=⟨rfl,rfl,rfl,by decide +kernel,rfl,by decide +kernel,by decide +kernel⟩
theorem KA(T:Txt w K mg)(bH:Def P w K mg base 1 "is_name" ["thing"] eX)(bp:Def P w K mg base 2 "is_number" ["thing"] gn)(lO:Def P w K mg base 1 "is_pair" ["thing"] vD)
  (S:Src K mg "is_box" (top 47) ["thing"]):Def P w K mg base 3 "is_box" ["thing"] (fh fI):=by
 refine S.ok GX (λvs H Q E h=>?_) (λf0 cD A outer s H vs Q E hr h=>?_)
 ·obtain⟨v,p,n,rfl,_⟩:=h;rfl
 obtain⟨v,p,n,rfl,hv,q⟩:=h
 refine⟨_,(aj (aC (cF (aw (lO.mono (by decide)) hr rfl (aq (pv 0) aa)) (cF (aw (bH.mono (by decide)) hr rfl (aq (aJ aG (pv 0) ag (λ_ _=>rfl)) aa)) (di (aw (bp.mono (by decide)) hr rfl (aq (aJ aG (pv 0) ag (λ_ _=>rfl)) aa))))))),?_⟩
 try dsimp only [gQ]
 refine⟨_,rfl,v,p,n,rfl,hv,_,rfl,bZ (λc=>?_) (λc=>?_)⟩
 ·obtain⟨t,ty,⟨j,a,xs,rfl,rfl,rfl,ha,hl,hx⟩|⟨hf,hn⟩⟩:=hv.cS
  case inr=>unfold jt at c;rw [hn] at c;cases c
  have c2:xs.length=2:=by unfold jt at c;rw [ak ha] at c;exact of_decide_eq_true c
  match xs,c2,hx,ha with
  | [y,z],_,hx,ha=>
  have eA:fI H (.ref a)=(gH y&&iS z):=by unfold fI;rw [ak ha]
  refine⟨_,rfl,a,_,0,_,rfl,rfl,aR.of ha,au (j:=0) rfl,y,p,j,rfl,hx y (by simp),λH1 s1=>?_⟩
  refine⟨_,rfl,bZ (λd=>?_) (λd=>?_)⟩
  ·refine⟨_,rfl,a,_,1,_,rfl,rfl,aR.of (s1 _ _ ha),au (j:=1) rfl,z,p,j,rfl,(hx z (by simp)).same s1,?_⟩
   rw [d,Bool.true_and] at eA
   rw [<-eA]
   exact q H1 s1
  ·rw [Bool.eq_false_iff.mpr d,Bool.false_and] at eA
   rw [<-eA]
   exact q H1 s1
 ·have e:fI H v=false:=by
   unfold fI jt at *
   cases h:bb H v with
   |none=>rfl
   |some xs=>
    rw [h] at c
    exact two_or (α:=Nat) λz=>c (decide_eq_true z)
  rw [<-e]
  exact q H (ax.refl H)
theorem DF:aO ["thing"] ["thing"] (ao (top 48)):=⟨rfl,rfl,rfl,by decide +kernel,rfl,by decide +kernel,by decide +kernel⟩
theorem GY(T:Txt w K mg)(bH:Def P w K mg base 1 "is_name" ["thing"] eX)(bp:Def P w K mg base 2 "is_number" ["thing"] gn)(lO:Def P w K mg base 1 "is_pair" ["thing"] vD)
  (cK:Def P w K mg base 3 "is_tuple_of" ["thing","most","is_one"] (gS P w K mg base 2)) (S:Src K mg "is_list" (top 48) ["thing"]):Def P w K mg base 4 "is_list" ["thing"] (fh cM):=by
 obtain⟨tm,oX⟩:=T.DC
 obtain⟨fn,fd,F,yg,DG,DH⟩:=bp.ex
 refine S.ok DF (λvs H Q E h=>?_) (λf0 cD A outer s H vs Q E hr h=>?_)
 ·obtain⟨v,p,n,rfl,_⟩:=h;rfl
 obtain⟨v,p,n,rfl,hv,q⟩:=h
 refine⟨_,(aj (aC (cF (aw (lO.mono (by decide)) hr rfl (aq (pv 0) aa)) (cF (aw (bH.mono (by decide)) hr rfl (aq (aJ aG (pv 0) ag (λ_ _=>rfl)) aa)) (di (aw (cK) hr rfl (aq (aJ aG (pv 0) ag (λ_ _=>rfl)) (aq (br (v:=.int (12)) rfl oX ⟨_,rfl⟩) (aq (br (v:=.ref fn) rfl yg rfl) aa))))))))),?_⟩
 try dsimp only [gQ]
 refine⟨_,rfl,v,p,n,rfl,hv,_,rfl,bZ (λc=>?_) (λc=>?_)⟩
 ·obtain⟨t,ty,⟨j,a,xs,rfl,rfl,rfl,ha,hl,hx⟩|⟨hf,hn⟩⟩:=hv.cS
  case inr=>unfold jt at c;rw [hn] at c;cases c
  have c2:xs.length=2:=by unfold jt at c;rw [ak ha] at c;exact of_decide_eq_true c
  match xs,c2,hx,ha with
  | [y,z],_,hx,ha=>
  have eA:cM H (.ref a)=(gH y&&aV H 12 (λ_ x=>iS x) z):=by unfold cM;rw [ak ha]
  refine⟨_,rfl,a,_,0,_,rfl,rfl,aR.of ha,au (j:=0) rfl,y,p,j,rfl,hx y (by simp),λH1 s1=>?_⟩
  refine⟨_,rfl,bZ (λd=>?_) (λd=>?_)⟩
  ·refine⟨_,rfl,a,_,1,_,rfl,rfl,aR.of (s1 _ _ ha),au (j:=1) rfl,z,12,fn,fd,_,λ_ x=>iS x,p,j,rfl,(hx z (by simp)).same s1,F.imp (λvs H Q E h=>?_),DG,DH,qI,λH2 s2=>?_⟩
   ·obtain⟨v,p,n,e,hv,q⟩:=h
    exact⟨v,p,n,e,hv,q H (ax.refl H)⟩
   ·rw [qJ s1 (hx z (by simp))]
    rw [d,Bool.true_and] at eA
    rw [<-eA]
    exact q H2 (s1.trans s2)
  ·rw [Bool.eq_false_iff.mpr d,Bool.false_and] at eA
   rw [<-eA]
   exact q H1 s1
 ·have e:cM H v=false:=by
   unfold cM jt at *
   cases h:bb H v with
   |none=>rfl
   |some xs=>
    rw [h] at c
    exact two_or (α:=Nat) λz=>c (decide_eq_true z)
  rw [<-e]
  exact q H (ax.refl H)
theorem GZ:aO ["thing"] ["thing"] (ao (top 49)):=⟨rfl,rfl,rfl,by decide +kernel,rfl,by decide +kernel,by decide +kernel⟩
theorem KC(T:Txt w K mg)(bH:Def P w K mg base 1 "is_name" ["thing"] eX)
  (cK:Def P w K mg base 2 "is_tuple_of" ["thing","most","is_one"] (gS P w K mg base 1)) (S:Src K mg "is_function" (top 49) ["thing"]):Def P w K mg base 3 "is_function" ["thing"] (fh dy):=by
 obtain⟨tm,kS⟩:=T.cnames
 obtain⟨fn,fd,F,yg,DG,DH⟩:=bH.ex
 refine S.ok GZ (λvs H Q E h=>?_) (λf0 cD A outer s H vs Q E hr h=>?_)
 ·obtain⟨v,p,n,rfl,_⟩:=h;rfl
 obtain⟨v,p,n,rfl,hv,q⟩:=h
 refine⟨_,(ai (aX (cN (PW.pt (dX (bh (bf (aW bu rfl T.aH aE (aq (pv 0) (aq (dw T.cm bL rfl) aa))))) (dX (aQ ji (aW aN rfl T.cH bO (aq (pv 0) aa)) ag (aP _)) (dG (bh (bf (aw (bH.mono (by decide)) hr rfl (aq (aJ aG (pv 0) ag (λ_ _=>rfl)) aa)))))))))
   (aj (aC cW)) aI)
   (ai (aX (cN (PW.pt (dX (bh (bf (aw (cK) hr rfl (aq (aJ aG (pv 0) ag (λ_ _=>rfl)) (aq (br (v:=.int (3)) rfl kS ⟨_,rfl⟩) (aq (br (v:=.ref fn) rfl yg rfl) aa)))))) (dG (bh (bf (aw (cK) hr rfl (aq (aJ aG (pv 0) ag (λ_ _=>rfl)) (aq (br (v:=.int (3)) rfl kS ⟨_,rfl⟩) (aq (br (v:=.ref fn) rfl yg rfl) aa))))))))))
   (aj (aC cW)) aI)
   (aj (aC (aW bu rfl T.aH aE (aq (aJ aG (pv 0) ag (λ_ _=>rfl)) (aq (dw T.cm bL rfl) aa))))))),?_⟩
 try dsimp only [gQ]
 refine⟨λt H'=>ax H H'/\((t=true/\dy H v=false)\/(t=false/\∃(j:Nat) (a:Addr) (x ps os rs:V),v=.ref a/\H a=some (.tup [x,ps,os,rs])/\gH x=true/\∀y ∈ [x,ps,os,rs],Dt p H j y)),?_,?_⟩
 ·obtain⟨t,ty,⟨j,a,xs,rfl,rfl,rfl,ha,hl,hx⟩|⟨hf,hn⟩⟩:=hv.cS
  case inr=>exact⟨_,rfl,_,"tuple",_,rfl,ty,by simp,_,rfl,dQ (by rw [hf];rfl) ⟨ax.refl H,.inl ⟨rfl,by unfold dy;rw [hn]⟩⟩⟩
  refine⟨_,rfl,_,"tuple",_,rfl,ty,by simp,_,rfl,dM (by decide) ?_⟩
  refine⟨_,rfl,a,_,rfl,.inr (aR.of ha),rfl,_,rfl,?_⟩
  by_cases c4:xs.length=4
  case neg=>
   refine dQ ?_ ⟨ax.refl H,.inl ⟨rfl,?_⟩⟩
   ·rw [decide_eq_false (by intro z;injection z with z;omega)];rfl
   ·unfold dy
    rw [ak ha]
    match xs,c4 with
    | [],_=>rfl
    | [_],_=>rfl
    | [_,_],_=>rfl
    | [_,_,_],_=>rfl
    | [_,_,_,_],h=>exact absurd rfl h
    |_::_::_::_::_::_,_=>rfl
  match xs,c4,hx,ha with
  | [x,ps,os,rs],_,hx,ha=>
  refine dM (by rw [decide_eq_true (show V.int (([x,ps,os,rs].length:Nat):Int)=V.int 4 from rfl)];rfl) ?_
  refine⟨_,rfl,a,_,0,_,rfl,rfl,aR.of ha,au (j:=0) rfl,x,p,j,rfl,hx x (by simp),λH1 s1=>?_⟩
  refine⟨_,rfl,s1,?_⟩
  cases hm:gH x with
  |false=>exact .inl ⟨rfl,by unfold dy;rw [ak ha];dsimp only;rw [hm,Bool.false_and]⟩
  |true=>exact .inr ⟨rfl,j,a,x,ps,os,rs,rfl,ha,hm,hx⟩
 rintro t H1 ⟨s1,⟨rfl,e⟩|⟨rfl,j,a,x,ps,os,rs,rfl,ha,hm,hx⟩⟩
 ·rw [<-e]
  exact dQ rfl (q H1 s1)
 refine dM rfl ?_
 have eF:dy H (.ref a)=(aV H 3 (λ_ x=>gH x) ps&&(aV H 3 (λ_ x=>gH x) os&&(bb H rs).isSome)):=by unfold dy;rw [ak ha];dsimp only;rw [hm,Bool.true_and]
 have Fp:g7 P w K mg base rZ 1 fn fd ["thing"] (fh λ_ x=>gH x):=F
 refine⟨λt H'=>ax H H'/\t = !(aV H 3 (λ_ x=>gH x) ps&&aV H 3 (λ_ x=>gH x) os),?_,?_⟩
 ·refine⟨_,rfl,a,_,1,_,rfl,rfl,aR.of (s1 _ _ ha),au (j:=1) rfl,ps,3,fn,fd,_,λ_ x=>gH x,p,j,rfl,(hx ps (by simp)).same s1,Fp,DG,DH,oo,λH2 s2=>?_⟩
  rw [lN s1 (hx ps (by simp))]
  have jc:=s1.trans s2
  refine⟨_,rfl,?_⟩
  cases hp:aV H 3 (λ_ x=>gH x) ps with
  |false=>exact dQ rfl ⟨jc,rfl⟩
  |true=>
   refine dM rfl ?_
   refine⟨_,rfl,a,_,2,_,rfl,rfl,aR.of (jc _ _ ha),au (j:=2) rfl,os,3,fn,fd,_,λ_ x=>gH x,p,j,rfl,(hx os (by simp)).same jc,Fp,DG,DH,oo,λH3 s3=>?_⟩
   rw [lN jc (hx os (by simp))]
   exact⟨_,rfl,jc.trans s3,by rw [Bool.true_and]⟩
 rintro t H2 ⟨s2,rfl⟩
 cases hb:(aV H 3 (λ_ x=>gH x) ps&&aV H 3 (λ_ x=>gH x) os) with
 |false=>
  refine dQ rfl ?_
  have e:dy H (.ref a)=false:=by rw [eF,<-Bool.and_assoc,hb,Bool.false_and]
  rw [<-e]
  exact q H2 s2
 |true=>
  refine dM rfl ?_
  rw [eF,<-Bool.and_assoc,hb,Bool.true_and] at q
  have Fc:=(hx rs (by simp)).same s2
  obtain⟨t,ty,⟨j',b,xs,_,rfl,rfl,eN,_,_⟩|⟨hf,hn⟩⟩:=Fc.cS
  ·refine⟨_,rfl,a,_,3,_,rfl,rfl,aR.of (s2 _ _ ha),au (j:=3) rfl,_,"tuple",_,rfl,ty,by simp,?_⟩
   have:=q H2 s2
   rw [<-bj s2 (hx _ (by simp)),ak eN] at this
   exact this
  ·refine⟨_,rfl,a,_,3,_,rfl,rfl,aR.of (s2 _ _ ha),au (j:=3) rfl,_,"tuple",_,rfl,ty,by simp,?_⟩
   have:=q H2 s2
   rw [<-bj s2 (hx _ (by simp)),hn] at this
   rw [hf]
   exact this
theorem G0:bootBuiltins "set"=some (.type "set"):=by decide +kernel
theorem qM:bootBuiltins "dict"=some (.type "dict"):=by decide +kernel
theorem G1:aO ["function"] ["function"] (ao (top 51)):=⟨rfl,rfl,rfl,by decide +kernel,rfl,by decide +kernel,by decide +kernel⟩
def A0:Sp:=λvs H Q _=>∃(a pa oa:Addr) (x r:V) (ps os:List V),vs = [.ref a]/\H a=some (.tup [x,.ref pa,.ref oa,r])/\H pa=some (.tup ps)/\H oa=some (.tup os)/\ps.length<=9100/\os.length<=9100 /\
 ∀l H',H l=none->ax H H'->H' l=some (.lst (ps++os))->Q (.ref l) H'
theorem KD(T:Txt w K mg)(S:Src K mg "own_names" (top 51) ["function"]):Def P w K mg base 1 "own_names" ["function"] A0:=by
 refine S.ok G1 (λvs H Q E h=>?_) (λf0 cD A outer s H vs Q E hr h=>?_)
 ·obtain⟨a,pa,oa,x,r,ps,os,rfl,_⟩:=h;rfl
 obtain⟨a,pa,oa,x,r,ps,os,rfl,ha,hp,ho,lp,lo,q⟩:=h
 refine⟨_,(aj (aC (aU dE (eM cJ rfl T.g8 fT (aq (aJ aG (pv 0) ag (λ_ _=>rfl)) aa)) (eM cJ rfl T.g8 fT (aq (aJ aG (pv 0) ag (λ_ _=>rfl)) aa))))),?_⟩
 try dsimp only [gQ]
 have l3:(100000:Nat)<sizeLine:=by rw [sizeLine_eq];decide
 refine⟨_,rfl,a,_,1,_,rfl,rfl,aR.of ha,au (j:=1) rfl,pa,_,rfl,.inr (aR.of hp),λu1 h1=>?_⟩
 have s1:=ah h1 (.lst ps)
 refine⟨_,rfl,a,_,2,_,rfl,rfl,aR.of (s1 _ _ ha),au (j:=2) rfl,oa,_,rfl,.inr (aR.of (s1 _ _ ho)),λu2 h2=>?_⟩
 have s2:=ah h2 (.lst os)
 refine⟨u1,u2,ps,os,rfl,rfl,s2 _ _ ae,ae,by omega,λu3 h3=>?_⟩
 have s3:=ah h3 (.lst (ps++os))
 exact q u3 _ (s1.free (s2.free h3)) (s1.trans (s2.trans s3)) ae
theorem yX:aO ["names"] ["names"] (ao (top 52)):=⟨rfl,rfl,rfl,by decide +kernel,rfl,by decide +kernel,by decide +kernel⟩
def jx:Sp:=λvs H Q _=>∃(l:Addr) (ws:List Str),vs = [.ref l]/\H l=some (.lst (ws.map V.str))/\ws.length<64/\∀H',ax H H'->Q (.bl (decide ws.Nodup)) H'
theorem A1(T:Txt w K mg)(S:Src K mg "are_unlike" (top 52) ["names"]):Def P w K mg base 1 "are_unlike" ["names"] jx:=by
 refine S.ok yX (λvs H Q E h=>?_) (λf0 cD A outer s H vs Q E hr h=>?_)
 ·obtain⟨l,ws,rfl,_⟩:=h;rfl
 obtain⟨l,ws,rfl,hl,hz,q⟩:=h
 refine⟨_,(aj (aC (bT cA (aW yH rfl T.cH bO (aq (eM (nS rfl) rfl T.Kt G0 (aq (pv 0) aa)) aa)) (aW aN rfl T.cH bO (aq (pv 0) aa)) (aP _)))),?_⟩
 try dsimp only [gQ]
 obtain⟨n1,m1⟩:=me ws
 have le:=jw n1 λx hx=>(m1 x).mp hx
 refine⟨_,rfl,l,ws,rfl,bX.of hl,by omega,λa ha=>?_⟩
 refine⟨a,_,rfl,ae,_,rfl,l,_,rfl,.inl (bX.of ((ah ha _) _ _ hl)),rfl,?_⟩
 have z:=q _ (ah ha (.ext λh=>jo P w h a (dh ws)))
 rw [<-AZ] at z
 have e:decide (V.int ((dh ws).length:Int)=V.int (((ws.map V.str).length:Nat):Int))=decide ((dh ws).length=ws.length):=by
  rw [List.length_map]
  by_cases h:(dh ws).length=ws.length
  ·rw [decide_eq_true h,h,decide_eq_true rfl]
  ·rw [decide_eq_false h,decide_eq_false]
   intro z;injection z with z;omega
 rw [e]
 exact z
end
abbrev gJ:=List (Key×V)
def ME(kvs:gJ):V->Bool
 |.str x=>(cP kvs (Sum.inr x)).isSome
 |_=>false
def bM(H:Hp)(rec:V->Bool)(v:V):Bool:=match bb H v with
 |some xs=>xs.all rec
 |none=>false
def ie(H:Hp)(bs ls:List Str)(kvs:gJ)(rec:V->Bool)(kind:Str)(v:V):Bool:=
 if kind="rows" then bM H rec v else if kind="value" then isVal H bs ls 4 v else if kind="values" then bM H (isVal H bs ls 4) v else
 gH v&&(if kind="box" then vF bs v else if kind="list" then vF ls v else if kind="function" then ME kvs v else decide (kind="door"))
def tF(H:Hp)(kvs:gJ):List V->Bool
 | [_,.str f,v]=>match bb H v with
  |some xs=>decide (cP kvs (Sum.inr f)=some (V.int (xs.length:Int)))
  |none=>false
 |_=>false
def jy(H:Hp)(bs ls:List Str)(kvs:gJ)(r:Bool)(rec:V->Bool)(x:Str)(rest:List V):Bool:=match bP x with
 |some ks=>decide (rest.length=ks.length)&&(!(decide (x="return") && !r)&&(((ks.zip rest).all λp=>ie H bs ls kvs rec p.1 p.2)&&(!decide (x="call")||tF H kvs rest)))
 |none=>false
def bU(H:Hp)(bs ls:List Str)(kvs:gJ)(r:Bool):Nat->V->Bool
 |0,_=>false
 |k+1,v=>match bb H v with
  |some (.str x::rest)=>jy H bs ls kvs r (bU H bs ls kvs r k) x rest
  |_=>false
theorem fO{H:Hp}{bs ls:List Str}{kvs:gJ}{r:Bool}{k:Nat}{a:Addr}{x:Str}{rest:List V}(h:H a=some (.tup (.str x::rest))):bU H bs ls kvs r (k+1) (.ref a)=jy H bs ls kvs r (bU H bs ls kvs r k) x rest:=by
 show (match bb H (.ref a) with
  |some (.str x::rest)=>jy H bs ls kvs r (bU H bs ls kvs r k) x rest
  |_=>false)=_
 rw [ak h]
theorem cT{H:Hp}{bs ls:List Str}{kvs:gJ}{r:Bool}{k:Nat}{v:V}(h:cX H v=false):bU H bs ls kvs r k v=false:=by
 cases k with
 |zero=>rfl
 |succ k=>
  show (match bb H v with
   |some (.str x::rest)=>jy H bs ls kvs r (bU H bs ls kvs r k) x rest
   |_=>false)=_
  unfold cX at h
  cases e:bb H v with
  |none=>rfl
  |some xs=>
   rw [e] at h
   cases xs with
   |nil=>rfl
   |cons y ys=>
    cases y with
    |str x=>cases h
    |_=>rfl
theorem fJ{p:Addr}{H H':Hp}{n:Nat}{v:V}{f g:V->Bool}(e:ax H H')(h:Dt p H n v)(hf:∀m z,Dt p H m z->f z=g z):bM H' f v=bM H g v:=by
 unfold bM
 rw [bj e h]
 obtain⟨t,ty,⟨m,a,xs,_,rfl,rfl,ha,_,hx⟩|⟨_,hn⟩⟩:=h.cS
 ·rw [ak ha]
  exact all_congr λz hz=>hf m z (hx z hz)
 ·rw [hn]
theorem oq{p:Addr}{H H':Hp}{n:Nat}{v:V}{bs ls:List Str}{kvs:gJ}{f g:V->Bool}(e:ax H H')(h:Dt p H n v)(hf:∀m z,Dt p H m z->f z=g z)(kind:Str):ie H' bs ls kvs f kind v=ie H bs ls kvs g kind v:=by
 unfold ie
 rw [fJ e h hf,dc e h,fJ e h λm z hz=>dc e hz]
theorem vM{p:Addr}{H H':Hp}{m:Nat}{kvs:gJ}{rest:List V}(e:ax H H')(h:∀z∈rest,Dt p H m z):tF H' kvs rest=tF H kvs rest:=by
 match rest,h with
 | [],_=>rfl
 | [_],_=>rfl
 | [_,b],_=>cases b<;>rfl
 | [a,b,v],h=>
  cases b with
  |str f=>
   show (match bb H' v with
    |some xs=>decide (cP kvs (Sum.inr f)=some (V.int (xs.length:Int)))
    |none=>false)=(match bb H v with
    |some xs=>decide (cP kvs (Sum.inr f)=some (V.int (xs.length:Int)))
    |none=>false)
   rw [bj e (h v (by simp))]
  |_=>rfl
 |a::b::c::d::r,_=>cases b<;>rfl
theorem dq{p:Addr}{H H':Hp}{bs ls:List Str}{kvs:gJ}{r:Bool}(e:ax H H'):∀{k n:Nat} {v:V},Dt p H n v->bU H' bs ls kvs r k v=bU H bs ls kvs r k v
 |0,_,_,_=>rfl
 |k+1,n,v,h=>by
  obtain⟨t,ty,⟨m,a,xs,_,rfl,rfl,ha,_,hx⟩|⟨_,hn⟩⟩:=h.cS
  ·cases xs with
   |nil=>rw [cT (H:=H) (by unfold cX;rw [ak ha];rfl),cT (H:=H') (by unfold cX;rw [ak (e _ _ ha)];rfl)]
   |cons y ys=>
    by_cases hy:∃x,y=.str x
    ·obtain⟨x,rfl⟩:=hy
     rw [fO ha,fO (e _ _ ha)]
     unfold jy
     cases bP x with
     |none=>rfl
     |some ks=>
      dsimp only
      rw [vM e λz hz=>hx z (List.mem_cons_of_mem _ hz)]
      rw [all_congr (l:=ks.zip ys) λq hq=>oq (f:=bU H' bs ls kvs r k) (g:=bU H bs ls kvs r k) e (hx q.2 (List.mem_cons_of_mem _ (List.of_mem_zip hq).2)) (λm z hz=>dq e hz) q.1]
    ·have hw:∀H2:Hp,H2 a=some (.tup (y::ys))->cX H2 (.ref a)=false:=λH2 h2=>by
      unfold cX
      rw [ak h2]
      cases y with
      |str x=>exact absurd ⟨x,rfl⟩ hy
      |_=>rfl
     rw [cT (hw H ha),cT (hw H' (e _ _ ha))]
  ·rw [cT (H:=H) (by unfold cX;rw [hn]),cT (H:=H') (by unfold cX;rw [bj e h,hn])]
structure IK (K:PySem.W.Frag) (mg:Str->Option Value) (C:Addr):Prop where
 m:mg "Scope"=some (.ref C)
 cl:L2.EO K C
 nB:ij K C "boxes"
 nL:ij K C "lists"
 nP:ij K C "param_counts"
 nR:ij K C "may_return"
abbrev sf (b l d:Addr) (r:Bool):List (Str×V):= [("boxes",.ref b),("lists",.ref l),("param_counts",.ref d),("may_return",.bl r)]
structure tG (C:Addr) (H:Hp) (sc:Addr) (bs ls:List Str) (kvs:gJ) (r:Bool):Prop where
 at_:∃dx b l d,H sc=some (.ins C dx (sf b l d r))/\H b=some (.lst (bs.map V.str))/\H l=some (.lst (ls.map V.str))/\H d=some (.dK kvs)
 hb:∀x∈bs,fc x=true
 hl:∀x∈ls,fc x=true
 hk:∀f u,cP kvs (Sum.inr f)=some u->∃n:Int,u=.int n
theorem tG.same{C:Addr}{H H':Hp}{sc:Addr}{bs ls:List Str}{kvs:gJ}{r:Bool}(h:tG C H sc bs ls kvs r)(s:ax H H'):tG C H' sc bs ls kvs r:=by
 obtain⟨⟨dx,b,l,d,h1,h2,h3,h4⟩,a,b',c⟩:=h
 exact⟨⟨dx,b,l,d,s _ _ h1,s _ _ h2,s _ _ h3,s _ _ h4⟩,a,b',c⟩
def IL(j:Nat):Stmt:=inClass (top 40) j
section
variable {P:Program} {w:World} {K:PySem.W.Frag} {mg:Str->Option Value} {base:Heap} {CS:Addr}
theorem DI:aO ["self","boxes","lists","param_counts","may_return"] ["self","boxes","lists","param_counts","may_return"] (ao (IL 0)):=⟨rfl,rfl,rfl,by decide +kernel,rfl,by decide +kernel,by decide +kernel⟩
def A2(C:Addr):Sp:=λvs H Q _=>∃(x dx b l d:Addr) (r:Bool),vs = [.ref x,.ref b,.ref l,.ref d,.bl r]/\H x=some (.ins C dx [])/\Q .eh (L2.upd H x (.ins C dx (sf b l d r)))
theorem d_init(Z:IK K mg CS)(S:AL K CS "Scope.__init__" (IL 0) ["self","boxes","lists","param_counts","may_return"]):vi P w K mg base 1 "Scope" CS ["self","boxes","lists","param_counts","may_return"] (A2 CS):=by
 refine S.ok Z.m DI (λvs H Q E h=>?_) (λf cD A outer s H vs Q E hr h=>?_)
 ·obtain⟨x,dx,b,l,d,r,rfl,_⟩:=h;rfl
 obtain⟨x,dx,b,l,d,r,rfl,hx,q⟩:=h
 refine⟨_,(ai (ql (pv 0) (pv 1) rfl)
   (ai (ql (pv 0) (pv 2) rfl)
   (ai (ql (pv 0) (pv 3) rfl)
   (aj (ql (pv 0) (pv 4) rfl))))),?_⟩
 try dsimp only [gQ]
 refine⟨_,rfl,_,rfl,x,CS,dx,_,rfl,hx,Z.cl,Z.nB,(by show 0<1000;decide),?_⟩
 refine⟨_,rfl,_,rfl,x,CS,dx,_,rfl,ae,Z.cl,Z.nL,(by show 1<1000;decide),?_⟩
 refine⟨_,rfl,_,rfl,x,CS,dx,_,rfl,ae,Z.cl,Z.nP,(by show 2<1000;decide),?_⟩
 refine⟨_,rfl,_,rfl,x,CS,dx,_,rfl,ae,Z.cl,Z.nR,(by show 3<1000;decide),?_⟩
 rw [iH,iH,iH]
 exact q
def Fd(C:Addr)(k:Nat):Sp:=λvs H Q _=>∃(v:V) (sc:Addr) (d:Int) (p:Addr) (n:Nat) (bs ls:List Str) (kvs:gJ) (r:Bool),vs = [v,.ref sc,.int d]/\d+(k:Int)=6/\Dt p H n v/\tG C H sc bs ls kvs r /\
 ∀H',ax H H'->Q (.bl (bU H bs ls kvs r k v)) H'
def qN(C:Addr)(k:Nat):Sp:=λvs H Q _=>∃(v:V) (sc:Addr) (d:Int) (p:Addr) (n:Nat) (bs ls:List Str) (kvs:gJ) (r:Bool),vs = [v,.ref sc,.int d]/\d+(k:Int)=6/\Dt p H n v/\tG C H sc bs ls kvs r /\
 ∀H',ax H H'->Q (.bl (bM H (bU H bs ls kvs r k) v)) H'
def qO(C:Addr)(k:Nat):Sp:=λvs H Q _=>∃(kind:Str) (v:V) (sc:Addr) (d:Int) (k':Nat) (p:Addr) (n:Nat) (bs ls:List Str) (kvs:gJ) (r:Bool),vs = [.str kind,v,.ref sc,.int d]/\k=k'+1/\d+(k:Int)=6/\Dt p H n v/\tG C H sc bs ls kvs r /\
 ∀H',ax H H'->Q (.bl (ie H bs ls kvs (bU H bs ls kvs r k') kind v)) H'
theorem A3:aO ["rows","scope","depth","row"] ["rows","scope","depth"] (ao (top 53)):=⟨rfl,rfl,rfl,by decide +kernel,rfl,by decide +kernel,by decide +kernel⟩
theorem iC{f:V->Bool}{xs:List V}{i:Nat}{x:V}(h:xs[i]?=some x)(a:(xs.take i).all f=true)(b:f x=true):(xs.take (i+1)).all f=true:=by
 rw [List.take_add_one,h,List.all_append,a,Bool.true_and]
 simp [b]
theorem jM{f:V->Bool}{xs:List V}{x:V}(h:x∈xs)(b:f x=false):xs.all f=false:=by
 rw [List.all_eq_false]
 exact⟨x,h,by rw [b];exact Bool.false_ne_true⟩
theorem pT{k j:Nat}(T:Txt w K mg)(S:Src K mg "are_rows" (top 53) ["rows","scope","depth"])(ou:Def P w K mg base j "is_row" ["row","scope","depth"] (Fd CS k)):Def P w K mg base (j+1) "are_rows" ["rows","scope","depth"] (qN CS k):=by
 refine S.ok A3 (λvs H Q E h=>?_) (λf cD A outer s H vs Q E hr h=>?_)
 ·obtain⟨v,sc,d,p,n,bs,ls,kvs,r,rfl,_⟩:=h;rfl
 obtain⟨v,sc,d,p,n,bs,ls,kvs,r,rfl,hd,hv,hS,q⟩:=h
 refine⟨_,(ai (aX (bh (bf (aW bu rfl T.aH aE (aq (pv 0) (aq (dw T.cm bL rfl) aa)))))
   (aj (aC cW)) aI)
   (ai (dO PassesOwn.never rfl (cG (pv 0)) (aM (i:=3) A3.nd rfl (Or.inl rfl))
   (aj (aX (bh (bf (aw (ou) hr rfl (aq (pv 3) (aq (pv 1) (aq (pv 2) aa))))))
   (aj (aC cW)) aI)))
   (aj (aC cW)))),?_⟩
 try dsimp only [gQ]
 obtain⟨t,ty,⟨m,a,xs,_,rfl,rfl,ha,hl,hx⟩|⟨hf,hn⟩⟩:=hv.cS
 case inr=>
  refine⟨_,rfl,_,"tuple",_,rfl,ty,by simp,_,rfl,dQ (by rw [hf];rfl) ?_⟩
  have e:bM H (bU H bs ls kvs r k) v=false:=by unfold bM;rw [hn]
  rw [e] at q
  exact q H (ax.refl H)
 refine⟨_,rfl,_,"tuple",_,rfl,ty,by simp,_,rfl,dM (by decide) ?_⟩
 have eR:bM H (bU H bs ls kvs r k) (.ref a)=xs.all (bU H bs ls kvs r k):=by unfold bM;rw [ak ha]
 rw [eR] at q
 refine⟨_,rfl,a,rfl,⟨_,aR.of ha⟩,fz (xs:=xs) (λi σ H'=>∃x3,σ = [some (.ref a),some (.ref sc),some (.int d),x3]/\ax H H'/\(xs.take i).all (bU H bs ls kvs r k)=true) ⟨_,rfl,ax.refl H,rfl⟩ ?_ ?_ ?_⟩
 ·rintro i σ H' _ ⟨x3,rfl,s1,_⟩
  exact aR.of (s1 _ _ ha)
 ·rintro i x σ H' gm ⟨x3,rfl,s1,dj⟩
  have pU:=List.mem_of_getElem? gm
  have hD:=hx x pU
  refine⟨_,rfl,_,rfl,_,rfl,x,sc,d,p,m,bs,ls,kvs,r,rfl,hd,hD.same s1,hS.same s1,λH2 s2=>?_⟩
  rw [dq s1 hD]
  refine⟨_,rfl,?_⟩
  cases hb:bU H bs ls kvs r k x with
  |false=>
   refine dQ rfl ?_
   rw [jM pU hb] at q
   exact q H2 (s1.trans s2)
  |true=>exact dM rfl ⟨_,rfl,s1.trans s2,iC gm dj hb⟩
 ·rintro σ H' ⟨x3,rfl,s1,dj⟩
  rw [List.take_length] at dj
  rw [dj] at q
  exact q H' s1
end
section
variable {P:Program} {w:World} {K:PySem.W.Frag} {mg:Str->Option Value} {base:Heap} {CS:Addr}
theorem A4:aO ["kind","part","scope","depth"] ["kind","part","scope","depth"] (ao (top 55)):=⟨rfl,rfl,rfl,by decide +kernel,rfl,by decide +kernel,by decide +kernel⟩
theorem jN{x y:Str}(c : ¬decide (V.str x=V.str y)=true):x≠y:=λz=>c (decide_eq_true (by rw [z]))
theorem jO{x y:Str}(c:decide (V.str x=V.str y)=true):x=y:=by have:=of_decide_eq_true c;injection this
theorem kU{k j:Nat}(T:Txt w K mg)(Z:IK K mg CS)(bH:Def P w K mg base 1 "is_name" ["thing"] eX)(hG:Def P w K mg base 11 "is_value" ["thing","boxes","lists"] mR)(S:Src K mg "is_row_part" (top 55) ["kind","part","scope","depth"])
  (eY:Def P w K mg base (j+11) "are_rows" ["rows","scope","depth"] (qN CS k)):Def P w K mg base (j+12) "is_row_part" ["kind","part","scope","depth"] (qO CS (k+1)):=by
 refine S.ok A4 (λvs H Q E h=>?_) (λf cD A outer s H vs Q E hr h=>?_)
 ·obtain⟨kind,v,sc,d,k',p,n,bs,ls,kvs,r,rfl,_⟩:=h;rfl
 obtain⟨kind,v,sc,d,k',p,n,bs,ls,kvs,r,rfl,hk,hd,hv,hS,q⟩:=h
 obtain rfl:k=k':=by omega
 refine⟨_,(ai (aX (aQ cA (pv 0) aD (aP _))
   (aj (aC (aw (eY) hr rfl (aq (pv 1) (aq (pv 2) (aq (aU eW (pv 3) ag) aa)))))) aI)
   (ai (aX (aQ cA (pv 0) aD (aP _))
   (aj (aC (aw (hG.mono (Nat.le_add_left 11 _)) hr rfl (aq (pv 1) (aq (iK (pv 2) rfl) (aq (iK (pv 2) rfl) aa)))))) aI)
   (ai (aX (aQ cA (pv 0) aD (aP _))
   (aj (aC (cF (aW bu rfl T.aH aE (aq (pv 1) (aq (dw T.cm bL rfl) aa))) (di (aW (gv rfl) rfl T.sS nK (aq (cq (N':= ["one","scope"]) (bg (ao (top 55)) (by rfl) (by decide +kernel) (by decide +kernel) (by decide +kernel) (by decide +kernel) (by decide +kernel) (by decide +kernel)) rfl (gP 1 [2] (by rfl) (by rfl) (by decide +kernel)) (cG (pv 1)) (λ_ _ _=>aM (i:=0) (show (["one","scope"]:List Str).Nodup by decide +kernel) rfl (Or.inl rfl) (Or.inr rfl)) (λ_ _ _=>cB) (λ_ _ _=>(aw (hG.mono (Nat.le_add_left 11 _)) hr rfl (aq (pv 0) (aq (show PE _ _ (Ae K (bQ 1) "boxes") from iK (pv 1) rfl) (aq (show PE _ _ (Ae K (bQ 1) "lists") from iK (pv 1) rfl) aa)))))) aa)))))) aI)
   (ai (aX (bh (bf (aw (bH.mono (Nat.le_add_left 1 _)) hr rfl (aq (pv 1) aa))))
   (aj (aC cW)) aI)
   (ai (aX (aQ cA (pv 0) aD (aP _))
   (aj (aC (bT fL (pv 1) (iK (pv 2) rfl) (by rfl)))) aI)
   (ai (aX (aQ cA (pv 0) aD (aP _))
   (aj (aC (bT fL (pv 1) (iK (pv 2) rfl) (by rfl)))) aI)
   (ai (aX (aQ cA (pv 0) aD (aP _))
   (aj (aC (FO (Gm (fS hr) (pv 1) (iK (pv 2) rfl))))) aI)
   (aj (aC (bT cA (pv 0) aD (aP _))))))))))),?_⟩
 try dsimp only [gQ]
 obtain⟨⟨dx,b,l,dd,uf,hb,hl,Ou⟩,mQ,vJ,Gp⟩:=id hS
 unfold ie at q
 refine⟨_,rfl,rfl,_,rfl,bZ (λc=>?_) (λc=>?_)⟩
 ·rw [if_pos (jO c)] at q
  exact⟨_,rfl,_,rfl,_,rfl,_,_,rfl,rfl,v,sc,d+1,p,n,bs,ls,kvs,r,rfl,by omega,hv,hS,q⟩
 rw [if_neg (jN c)] at q
 refine⟨_,rfl,rfl,_,rfl,bZ (λc=>?_) (λc=>?_)⟩
 ·rw [if_pos (jO c)] at q
  refine⟨_,rfl,_,rfl,sc,CS,dx,_,_,rfl,uf,Z.cl,Z.nB,rfl,?_⟩
  refine⟨_,rfl,sc,CS,dx,_,_,rfl,uf,Z.cl,Z.nL,rfl,?_⟩
  exact⟨v,b,l,p,n,bs,ls,rfl,hv,hb,hl,mQ,vJ,q⟩
 rw [if_neg (jN c)] at q
 refine⟨_,rfl,rfl,_,rfl,bZ (λc=>?_) (λc=>?_)⟩
 ·rw [if_pos (jO c)] at q
  obtain⟨t,ty,⟨m,a,xs,_,rfl,rfl,ha,U5,hx⟩|⟨hf,hn⟩⟩:=hv.cS
  case inr=>
   refine⟨_,rfl,_,"tuple",_,rfl,ty,by simp,_,rfl,dM hf ?_⟩
   have e:bM H (isVal H bs ls 4) v=false:=by unfold bM;rw [hn]
   rw [e] at q
   exact q H (ax.refl H)
  refine⟨_,rfl,_,"tuple",_,rfl,ty,by simp,_,rfl,dQ (by decide) ?_⟩
  refine⟨_,rfl,a,rfl,⟨xs,aR.of ha⟩,fj (te:=nJ mR (bD (bQ 0) (bD (Ae K (bQ 1) "boxes") (bD (Ae K (bQ 1) "lists") fE)))) (cs:= [some (.ref sc)]) (λx=>.bl (isVal H bs ls 4 x)) ha (by omega) (by rfl) (λx H2 k2 zH s2 oN=>?_) (λacc H' E6 s' AX=>?_)⟩
  ·refine⟨_,rfl,_,rfl,sc,CS,dx,_,_,rfl,s2 _ _ uf,Z.cl,Z.nB,rfl,?_⟩
   refine⟨_,rfl,sc,CS,dx,_,_,rfl,s2 _ _ uf,Z.cl,Z.nL,rfl,?_⟩
   refine⟨x,b,l,p,m,bs,ls,rfl,(hx x zH).same s2,s2 _ _ hb,s2 _ _ hl,mQ,vJ,λH3 s3=>?_⟩
   rw [dc s2 (hx x zH)]
   exact oN H3 s3
  ·refine⟨acc,xs.map (isVal H bs ls 4),rfl,bX.of (by rw [List.map_map];exact AX),?_⟩
   have e:bM H (isVal H bs ls 4) (.ref a)=(xs.map (isVal H bs ls 4)).all id:=by
    unfold bM
    rw [ak ha,List.all_map]
    rfl
   rw [<-e]
   exact q H' s'
 rw [if_neg (jN c)] at q
 refine⟨_,rfl,v,p,n,rfl,hv,λH1 s1=>⟨_,rfl,?_⟩⟩
 cases hm:gH v with
 |false=>
  rw [hm,Bool.false_and] at q
  exact dQ rfl (q H1 s1)
 |true=>
 refine dM rfl ?_
 rw [hm,Bool.true_and] at q
 obtain⟨x,rfl⟩:=ik hm
 have G2:=s1 _ _ uf
 refine⟨_,rfl,rfl,_,rfl,bZ (λc=>?_) (λc=>?_)⟩
 ·rw [if_pos (jO c)] at q
  exact⟨_,rfl,_,rfl,sc,CS,dx,_,_,rfl,G2,Z.cl,Z.nB,rfl,b,_,rfl,.inl (bX.of (s1 _ _ hb)),rfl,jK bs,q H1 s1⟩
 rw [if_neg (jN c)] at q
 refine⟨_,rfl,rfl,_,rfl,bZ (λc=>?_) (λc=>?_)⟩
 ·rw [if_pos (jO c)] at q
  exact⟨_,rfl,_,rfl,sc,CS,dx,_,_,rfl,G2,Z.cl,Z.nL,rfl,l,_,rfl,.inl (bX.of (s1 _ _ hl)),rfl,jK ls,q H1 s1⟩
 rw [if_neg (jN c)] at q
 refine⟨_,rfl,rfl,_,rfl,bZ (λc=>?_) (λc=>?_)⟩
 ·rw [if_pos (jO c)] at q
  exact⟨_,rfl,_,rfl,sc,CS,dx,_,_,rfl,G2,Z.cl,Z.nP,rfl,dd,_,rfl,jW.k (k:=Sum.inr x) (s1 _ _ Ou),q H1 s1⟩
 rw [if_neg (jN c)] at q
 refine⟨_,rfl,rfl,?_⟩
 have e:decide (V.str kind=V.str "door")=decide (kind="door"):=by
  by_cases h:kind="door"
  ·rw [decide_eq_true h,h,decide_eq_true rfl]
  ·rw [decide_eq_false h,decide_eq_false]
   intro z;injection z with z;exact h z
 rw [e]
 exact q H1 s1
end
theorem iU{x:Str}{ks:List Str}(h:bP x=some ks):ks.length<=3:=by
 unfold bP at h
 have go:∀{c:Prop} [Decidable c] {l:List Str} {r:Option (List Str)},(if c then some l else r)=some ks->l.length<=3->(r=some ks->ks.length<=3)->ks.length<=3:=λ{c} _ {l} {r} h hl hr=>by
  by_cases hc:c
  ·rw [if_pos hc] at h
   injection h with h
   exact h▸hl
  ·rw [if_neg hc] at h
   exact hr h
 refine go h (by simp) λh=>go h (by simp) λh=>go h (by simp) λh=>go h (by simp) λh=>go h (by simp) λh=>go h (by simp) λh=>go h (by simp) λh=>go h (by simp) λh=>go h (by simp) λh=>go h (by simp) λh=>go h (by simp) λh=>go h (by simp) λh=>?_
 cases h
theorem three:∀{ys:List V},ys.length=3->∃a b c,ys = [a,b,c]
 | [a,b,c],_=>⟨a,b,c,rfl⟩
 | [],h=>by simp at h
 | [_],h=>by simp at h
 | [_,_],h=>by simp at h
 |_::_::_::_::_,h=>by simp at h
section
variable {P:Program} {w:World} {K:PySem.W.Frag} {mg:Str->Option Value} {base:Heap} {CS:Addr}
theorem A5:aO ["row","scope","depth","kinds"] ["row","scope","depth"] (ao (top 54)):=⟨rfl,rfl,rfl,by decide +kernel,rfl,by decide +kernel,by decide +kernel⟩
theorem pV{k j:Nat}(T:Txt w K mg)(Z:IK K mg CS)(kg:Def P w K mg base 1 "has_word" ["thing"] lM)(tH:Def P w K mg base 1 "row_kinds" ["word"] (tD K))(S:Src K mg "is_row" (top 54) ["row","scope","depth"])
  (vK:Def P w K mg base (j+1) "is_row_part" ["kind","part","scope","depth"] (qO CS k)):Def P w K mg base (j+2) "is_row" ["row","scope","depth"] (Fd CS k):=by
 obtain⟨tm,oY⟩:=T.Kv
 refine S.ok A5 (λvs H Q E h=>?_) (λf cD A outer s H vs Q E hr h=>?_)
 ·obtain⟨v,sc,d,p,n,bs,ls,kvs,r,rfl,_⟩:=h;rfl
 obtain⟨v,sc,d,p,n,bs,ls,kvs,r,rfl,hd,hv,hS,q⟩:=h
 refine⟨_,(ai (aX (cN (PW.pt (dX (aQ lW (pv 2) (br (v:=.int (5)) rfl oY ⟨_,rfl⟩) (aP _)) (dG (bh (bf (aw (kg.mono (Nat.le_add_left 1 _)) hr rfl (aq (pv 0) aa))))))))
   (aj (aC cW)) aI)
   (ai (aS (i:=3) A5.nd rfl (Or.inl rfl) (aw (tH.mono (Nat.le_add_left 1 _)) hr rfl (aq (aJ aG (pv 0) ag (λ_ _=>rfl)) aa)))
   (ai (aX (cN (PW.pt (dX (aQ zY (pv 3) um (aP _)) (dG (aQ ji (aW aN rfl T.cH bO (aq (pv 0) aa)) (aU eW ag (aW aN rfl T.cH bO (aq (pv 3) aa))) (aP _))))))
   (aj (aC cW)) aI)
   (ai (aX (cN (PW.pt (nA (aQ cA (aJ aG (pv 0) ag (λ_ _=>rfl)) aD (aP _)) (kz (bh (bf (iK (pv 1) rfl)))))))
   (aj (aC cW)) aI)
   (ai (aX (bh (bf (aW (gv rfl) rfl T.sS nK (aq (cq (N':= ["kind","part","scope","depth"]) (bg (ao (top 54)) (by rfl) (by decide +kernel) (by decide +kernel) (by decide +kernel) (by decide +kernel) (by decide +kernel) (by decide +kernel)) rfl (gP 2 [1,2] (by rfl) (by rfl) (by decide +kernel)) (uT rfl T.w8 (aq (pv 3) (aq (bJ dg (pv 0) (bV ag) cp) aa))) (λ_ _ _=>(show PG _ _ (zV K 2 (kA (fK 0) (kA (fK 1) zU))) from iJ (n:=2) rfl (bF (aM (i:=0) (show (["kind","part","scope","depth"]:List Str).Nodup by decide +kernel) rfl (Or.inl rfl) (Or.inr rfl)) (bF (aM (i:=1) (show (["kind","part","scope","depth"]:List Str).Nodup by decide +kernel) rfl (Or.inl rfl) (Or.inr rfl)) gK)))) (λ_ _ _=>cB) (λ_ _ _=>(aw (vK) hr rfl (aq (pv 0) (aq (pv 1) (aq (pv 2) (aq (pv 3) aa))))))) aa))))
   (aj (aC cW)) aI)
   (aj (aC (EJ (bT ji (aJ aG (pv 0) ag (λ_ _=>rfl)) aD (aP _)) (di (bT cA (aW aN rfl T.cH bO (aq (aJ aG (pv 0) ag (λ_ _=>rfl)) aa)) (eK (fS hr) (iK (pv 1) rfl) (aJ aG (pv 0) ag (λ_ _=>rfl)) (λ_ _=>rfl)) (aP _))))))))))),?_⟩
 try dsimp only [gQ]
 obtain⟨⟨dx,b,l,dd,uf,hb,hl,Ou⟩,mQ,vJ,Gp⟩:=id hS
 refine⟨λt H'=>H=H'/\((t=true/\bU H bs ls kvs r k v=false)\/(t=false/\∃(k' m:Nat) (a:Addr) (x:Str) (ys:List V),k=k'+1/\v=.ref a/\H a=some (.tup (.str x::ys))/\(V.str x::ys).length<=9100/\∀u∈V.str x::ys,Dt p H m u)),?_,?_⟩
 ·refine⟨_,rfl,_,_,rfl,rfl,_,rfl,bZ (λc=>?_) (λc=>?_)⟩
  ·have c':=of_decide_eq_true c
   obtain rfl:k=0:=by omega
   exact⟨rfl,.inl ⟨rfl,rfl⟩⟩
  have c':=of_decide_eq_false (Bool.eq_false_iff.mpr c)
  obtain⟨k',rfl⟩:∃k',k=k'+1:=⟨k-1,by omega⟩
  refine⟨_,rfl,v,p,n,rfl,hv,_,rfl,rfl,?_⟩
  obtain⟨t,ty,⟨m,a,xs,_,rfl,rfl,ha,jY,hx⟩|⟨ht,hn⟩⟩:=hv.cS
  ·have e:cX H (.ref a)=sY xs:=by unfold cX;rw [ak ha]
   cases hw:cX H (.ref a) with
   |false=>exact .inl ⟨rfl,cT hw⟩
   |true=>
    rw [e] at hw
    cases xs with
    |nil=>cases hw
    |cons y ys=>
     cases y with
     |str x=>exact .inr ⟨rfl,k',m,a,x,ys,rfl,rfl,ha,jY,hx⟩
     |_=>cases hw
  ·have e:cX H v=false:=by unfold cX;rw [hn]
   rw [e]
   exact .inl ⟨rfl,cT e⟩
 rintro t H' ⟨rfl,⟨rfl,hn⟩|⟨rfl,k,m,a,x,ys,rfl,rfl,ha,jY,hx⟩⟩
 ·have z:=q H (ax.refl H)
  rw [hn] at z
  exact dQ rfl z
 refine dM rfl ?_
 refine⟨_,rfl,a,_,0,_,rfl,rfl,aR.of ha,au (j:=0) rfl,x,rfl,?_⟩
 have eV:=fO (bs:=bs) (ls:=ls) (kvs:=kvs) (r:=r) (k:=k) ha
 unfold jy at eV
 cases i8:bP x with
 |none=>
  rw [i8] at eV
  have z:=q H (ax.refl H)
  rw [eV] at z
  refine⟨λt H'=>H=H'/\t=true,⟨_,rfl,rfl,_,rfl,dQ (by decide) ⟨rfl,rfl⟩⟩,?_⟩
  rintro t H' ⟨rfl,rfl⟩
  exact dQ rfl z
 |some ks=>
 rw [i8] at eV
 dsimp only at eV ⊢
 intro bk hk
 refine⟨λt H'=>H=H'/\t = !decide (ys.length=ks.length),?_,?_⟩
 ·refine⟨_,rfl,rfl,_,rfl,dM (decide_eq_false (by intro z;cases z)) ?_⟩
  refine⟨_,rfl,a,_,rfl,.inr (aR.of ha),_,rfl,bk,_,rfl,.inr hk,_,_,rfl,rfl,rfl,_,rfl,rfl,?_⟩
  have e1:((V.str x::ys).length:Int)=1+(ys.length:Int):=by rw [List.length_cons];omega
  rw [e1,List.length_map]
  by_cases hlen:ys.length=ks.length
  ·rw [decide_eq_true hlen,hlen,decide_eq_true rfl]
  ·rw [decide_eq_false hlen,decide_eq_false]
   intro z;injection z with z;omega
 rintro t H' ⟨rfl,rfl⟩
 by_cases hlen:ys.length=ks.length
 case neg=>
  have z:=q H (ax.refl H)
  rw [eV,decide_eq_false hlen,Bool.false_and] at z
  exact dQ (by rw [decide_eq_false hlen];rfl) z
 refine dM (by rw [decide_eq_true hlen];rfl) ?_
 rw [decide_eq_true hlen,Bool.true_and] at eV
 have Cg:=iU i8
 have l3:(100:Nat)<sizeLine:=by decide
 have KG:∀y:Str,decide (V.str x=V.str y)=decide (x=y):=λy=>by
  by_cases h:x=y
  ·rw [decide_eq_true h,h,decide_eq_true rfl]
  ·rw [decide_eq_false h,decide_eq_false]
   intro z;injection z with z;exact h z
 refine⟨λt H'=>H=H'/\t=(decide (x="return") && !r),?_,?_⟩
 ·refine⟨_,rfl,a,_,0,_,rfl,rfl,aR.of ha,au (j:=0) rfl,rfl,_,rfl,?_⟩
  rw [KG]
  refine bZ (λc=>?_) (λc=>?_)
  ·exact⟨_,rfl,sc,CS,dx,_,_,rfl,uf,Z.cl,Z.nR,rfl,_,rfl,rfl,by rw [c,Bool.true_and]⟩
  ·exact⟨rfl,by rw [Bool.eq_false_iff.mpr c,Bool.false_and]⟩
 rintro t H' ⟨rfl,rfl⟩
 cases tI:(decide (x="return") && !r) with
 |true=>
  rw [tI] at eV
  have z:=q H (ax.refl H)
  rw [eV] at z
  exact dQ rfl z
 |false=>
 refine dM rfl ?_
 rw [tI] at eV
 rw [Bool.not_false,Bool.true_and] at eV
 refine⟨_,rfl,_,rfl,1,rfl,a,_,rfl,ha,λpt H1 s1 h1=>?_⟩
 rw [ju] at h1
 refine⟨bk,pt,rfl,⟨_,ax.ke s1 hk⟩,⟨_,aR.of h1⟩,λacc bR=>?_⟩
 let f:Str×V->Bool:=λp=>ie H bs ls kvs (bU H bs ls kvs r k) p.1 p.2
 refine⟨λi m σ2 zs H2=>m=ks.length-i/\i<=ks.length/\(∃x0 x1,σ2 = [x0,x1,some (.ref sc),some (.int d)])/\zs=(((ks.zip ys).take i).map f).map V.bl/\H2 acc=some (.lst zs)/\ax H1 H2,
  ⟨_,rfl,Nat.zero_le _,⟨_,_,rfl⟩,rfl,ae,ah bR _⟩,?_⟩
 rintro i _ σ2 zs H2 ⟨rfl,hi,⟨x0,x1,rfl⟩,rfl,oW,sm⟩
 refine⟨oW,?_⟩
 have Kz:(ks.zip ys).length=ks.length:=by rw [List.length_zip,hlen,Nat.min_self]
 by_cases eQ:i<ks.length
 ·obtain⟨ki,ug⟩:∃ki,ks[i]?=some ki:=⟨_,List.getElem?_eq_getElem eQ⟩
  obtain⟨yi,yV⟩:∃yi,ys[i]?=some yi:=⟨_,List.getElem?_eq_getElem (by omega)⟩
  have tj:(ks.map V.str)[i]?=some (.str ki):=by rw [List.getElem?_map,ug];rfl
  have hz:(ks.zip ys)[i]?=some (ki,yi):=by rw [List.getElem?_zip_eq_some];exact⟨ug,yV⟩
  have oN:=ax.ke sm (ax.ke s1 hk)
  have AY:aR K H2 pt ys:=aR.of (sm _ _ h1)
  refine .inr ⟨⟨_,_,_,_,oN,AY,tj,yV⟩,?_,?_⟩
  ·rw [List.length_map,List.length_map,List.length_take]
   omega
  rintro v H3 ⟨Tp,hT,rfl,nN⟩
  have e3:=nN _ _ _ _ oN AY tj yV
  subst e3
  have s3:=ah hT (.tup [.str ki,yi])
  have mh:=s1.trans (sm.trans s3)
  have zI:=hx yi (List.mem_cons_of_mem _ (List.mem_of_getElem? yV))
  refine⟨Tp,_,rfl,aR.of ae,rfl,_,_,rfl,_,_,rfl,rfl,?_⟩
  refine⟨_,rfl,_,rfl,_,rfl,_,rfl,ki,yi,sc,d,k,p,m,bs,ls,kvs,r,rfl,rfl,hd,zI.same mh,hS.same mh,λH4 s4=>?_⟩
  have GW:=s4 _ _ (s3 _ _ oW)
  have ef:ie (upd H2 Tp (.tup [.str ki,yi])) bs ls kvs (bU (upd H2 Tp (.tup [.str ki,yi])) bs ls kvs r k) ki yi=f (ki,yi):=oq mh zI (λm z hz=>dq mh hz) ki
  rw [ef]
  refine⟨GW,_,(by omega:ks.length-(i+1)<ks.length-i),rfl,eQ,⟨_,_,rfl⟩,?_,ae,λb' o eN=>?_⟩
  ·rw [List.take_add_one,hz,List.map_append,List.map_append];rfl
  ·rw [aK (aL eN bR)];exact s4 _ _ (s3 _ _ (sm _ _ eN))
 obtain rfl:i=ks.length:=by omega
 refine .inl ⟨⟨_,_,ax.ke sm (ax.ke s1 hk),aR.of (sm _ _ h1),.inl (Nat.le_of_eq (List.length_map _))⟩,?_⟩
 refine⟨acc,_,rfl,bX.of oW,_,rfl,?_⟩
 have jc:=s1.trans sm
 have Ov:(((ks.zip ys).take ks.length).map f).all id=(ks.zip ys).all f:=by rw [om,<-Kz,List.take_length]
 rw [Ov]
 cases dj:(ks.zip ys).all f with
 |false=>
  have oy:((ks.zip ys).all λp=>ie H bs ls kvs (bU H bs ls kvs r k) p.1 p.2)=false:=dj
  rw [oy,Bool.false_and] at eV
  rw [eV] at q
  exact dQ rfl (q H2 jc)
 |true=>
 refine dM rfl ?_
 have oy:((ks.zip ys).all λp=>ie H bs ls kvs (bU H bs ls kvs r k) p.1 p.2)=true:=dj
 rw [oy,Bool.true_and] at eV
 rw [eV] at q
 have z:=q H2 jc
 refine⟨_,rfl,a,_,0,_,rfl,rfl,aR.of (jc _ _ ha),au (j:=0) rfl,rfl,_,rfl,?_⟩
 rw [KG]
 by_cases hc:x="call"
 case neg=>
  rw [decide_eq_false hc] at z ⊢
  exact dQ rfl z
 subst hc
 rw [decide_eq_true rfl] at z ⊢
 refine dM rfl ?_
 rw [Bool.not_true,Bool.false_or] at z
 have DJ:ks=(["box","function","values"]:List Str):=by
  have:bP "call"=some (["box","function","values"]:List Str):=rfl
  rw [this] at i8
  injection i8 with e
  exact e.symm
 subst DJ
 obtain⟨y0,y1,y2,rfl⟩:=three hlen
 have h3:ie H bs ls kvs (bU H bs ls kvs r k) "box" y0=true/\ie H bs ls kvs (bU H bs ls kvs r k) "function" y1=true/\ie H bs ls kvs (bU H bs ls kvs r k) "values" y2=true:=by
  have:=oy
  simp only [List.zip_cons_cons,List.zip_nil_right,List.all_cons,List.all_nil,Bool.and_true,Bool.and_eq_true] at this
  exact this
 have f1:gH y1=true/\ME kvs y1=true:=by
  have:=h3.2.1
  unfold ie at this
  rw [if_neg (by decide),if_neg (by decide),if_neg (by decide),if_neg (by decide),if_neg (by decide),if_pos rfl,Bool.and_eq_true] at this
  exact this
 have f2:bM H (isVal H bs ls 4) y2=true:=by
  have:=h3.2.2
  unfold ie at this
  rw [if_neg (by decide),if_neg (by decide),if_pos rfl] at this
  exact this
 obtain⟨g,rfl⟩:=ik f1.1
 obtain⟨u,hu⟩:=Option.isSome_iff_exists.mp (show (cP kvs (Sum.inr g)).isSome=true from f1.2)
 obtain⟨N,rfl⟩:=Gp g u hu
 obtain⟨t,ty,⟨m2,a2,xs,_,rfl,rfl,uh,_,_⟩|⟨_,hn⟩⟩:=(hx y2 (by simp)).cS
 case inr=>unfold bM at f2;rw [hn] at f2;cases f2
 refine⟨_,rfl,a,_,3,_,rfl,rfl,aR.of (jc _ _ ha),au (j:=3) rfl,a2,_,rfl,.inr (aR.of (jc _ _ uh)),?_⟩
 refine⟨_,rfl,sc,CS,dx,_,_,rfl,jc _ _ uf,Z.cl,Z.nP,rfl,?_⟩
 refine⟨_,rfl,a,_,2,_,rfl,rfl,aR.of (jc _ _ ha),au (j:=2) rfl,dd,V.int N,rfl,by rw [<-hu];exact jW.k (k:=Sum.inr g) (jc _ _ Ou),rfl,?_⟩
 have ec:tF H kvs [y0,.str g,.ref a2]=decide (V.int (xs.length:Int)=V.int N):=by
  show (match bb H (.ref a2) with
   |some xs=>decide (cP kvs (Sum.inr g)=some (V.int (xs.length:Int)))
   |none=>false)=_
  rw [ak uh,hu]
  dsimp only
  by_cases h:(xs.length:Int)=N
  ·rw [h,decide_eq_true rfl,decide_eq_true rfl]
  ·rw [decide_eq_false (by intro z;injection z with z;injection z with z;exact h z.symm),decide_eq_false (by intro z;injection z with z;exact h z)]
 rw [<-ec]
 exact z
end
def cj(H:Hp):V->List V
 |.ref b=>match H b with
  |some (.tup bs)=>bs
  |_=> []
 |_=> []
theorem dR{H:Hp}{b:Addr}{bs:List V}(h:H b=some (.tup bs)):cj H (.ref b)=bs:=by unfold cj;dsimp only;rw [h]
def jP:List Str->List V->Nat->List V
 |k::ks,v::vs,i+1=>(if k="rows" then [v] else [])++jP ks vs i
 |_,_,_=> []
theorem oz(ks:List Str)(vs:List V):jP ks vs 0 = []:=by cases ks<;>cases vs<;>rfl
theorem oA:∀{ks:List Str} {vs:List V} {i:Nat} {k:Str} {v:V},ks[i]?=some k->vs[i]?=some v->jP ks vs (i+1)=jP ks vs i++(if k="rows" then [v] else [])
 |k::ks,v::vs,0,_,_,h1,h2=>by
  simp at h1 h2
  subst h1;subst h2
  show (if k="rows" then [v] else [])++jP ks vs 0=_
  rw [oz,List.append_nil]
  rfl
 |k::ks,v::vs,i+1,k',v',h1,h2=>by
  show (if k="rows" then [v] else [])++jP ks vs (i+1)=((if k="rows" then [v] else [])++jP ks vs i)++_
  rw [oA (k:=k') (v:=v') (by simpa using h1) (by simpa using h2),List.append_assoc]
 | [],_,_,_,_,h1,_=>by simp at h1
 |_::_,[],_,_,_,_,h2=>by simp at h2
theorem qP:∀{ks:List Str} {vs:List V} {i:Nat},(jP ks vs i).length<=i
 | [],_,_=>by simp [jP]
 |_::_,[],_=>by simp [jP]
 |_::_,_::_,0=>by simp [jP]
 |k::ks,v::vs,i+1=>by
  show ((if k="rows" then [v] else [])++jP ks vs i).length<=i+1
  have:=qP (ks:=ks) (vs:=vs) (i:=i)
  rw [List.length_append]
  by_cases e:k="rows"
  ·rw [if_pos e];simp;omega
  ·rw [if_neg e];simp;omega
theorem qQ:∀{ks:List Str} {vs:List V} {i:Nat} {x:V},x∈jP ks vs i->∃j:Nat,ks[j]?=some "rows"/\vs[j]?=some x
 | [],_,_,_,h=>by simp [jP] at h
 |_::_,[],_,_,h=>by simp [jP] at h
 |_::_,_::_,0,_,h=>by simp [jP] at h
 |k::ks,v::vs,i+1,x,h=>by
  rcases List.mem_append.mp (show x∈(if k="rows" then [v] else [])++jP ks vs i from h) with h|h
  ·by_cases e:k="rows"
   ·rw [if_pos e] at h
    simp at h
    subst h
    exact⟨0,by simp [e],by simp⟩
   ·rw [if_neg e] at h
    simp at h
  ·obtain⟨j,h1,h2⟩:=qQ h
   exact⟨j+1,by simpa using h1,by simpa using h2⟩
def TK(H H':Hp):Prop:=∀a xs,H a=some (.tup xs)->H' a=some (.tup xs)
theorem TK.trans{H H1 H2:Hp}(a:TK H H1)(b:TK H1 H2):TK H H2:=λc xs h=>b c xs (a c xs h)
theorem TK.of{H H':Hp}(s:ax H H'):TK H H':=λc xs h=>s c _ h
def jJ(T:Addr)(H H':Hp):Prop:=∀c o,c≠T->H c=some o->H' c=some o
theorem jJ.tk{T:Addr}{H H':Hp}{us:List V}(b:jJ T H H')(h:H T=some (.lst us)):TK H H':=λc xs hc=>b c _ (pj hc h (by intro z;cases z)) hc
theorem jJ.trans{T:Addr}{H H1 H2:Hp}(a:jJ T H H1)(b:jJ T H1 H2):jJ T H H2:=λc o hc h=>b c o hc (a c o hc h)
theorem jJ.of{T:Addr}{H H':Hp}(s:ax H H'):jJ T H H':=λc o _ h=>s c o h
def jZ(H:Hp):Nat->V->Prop
 |0,_=>False
 |k+1,v=>∃(a:Addr) (x:Str) (rest:List V) (ks:List Str),v=.ref a/\H a=some (.tup (.str x::rest))/\bP x=some ks/\rest.length=ks.length /\
  ∀b∈jP ks rest ks.length,∃(c:Addr) (bs:List V),b=.ref c/\H c=some (.tup bs)/\∀y∈bs,jZ H k y
theorem jZ.tk{H H':Hp}(t:TK H H'):∀{k:Nat} {v:V},jZ H k v->jZ H' k v
 |0,_,h=>h
 |k+1,v,⟨a,x,rest,ks,e,h1,h2,h3,h4⟩=>⟨a,x,rest,ks,e,t _ _ h1,h2,h3,λb hb=>by
   obtain⟨c,bs,e,hc,hy⟩:=h4 b hb
   exact⟨c,bs,e,t _ _ hc,λy Cf=>(hy y Cf).tk t⟩⟩
def inner(H:Hp)(v:V):List V:=match bb H v with
 |some (.str x::rest)=>match bP x with
  |some ks=>(jP ks rest ks.length).flatMap (cj H)
  |none=> []
 |_=> []
theorem hJ{H:Hp}{a:Addr}{x:Str}{rest:List V}{ks:List Str}(h:H a=some (.tup (.str x::rest)))(hk:bP x=some ks):inner H (.ref a)=(jP ks rest ks.length).flatMap (cj H):=by
 unfold inner
 rw [ak h]
 dsimp only
 rw [hk]
def cnt(H:Hp):Nat->List V->Nat
 |0,_=>0
 |k+1,rows=>(rows.map λv=>1+cnt H k (inner H v)).sum
theorem cnt_nil(H:Hp)(k:Nat):cnt H k []=0:=by cases k<;>rfl
theorem cnt_cons(H:Hp)(k:Nat)(v:V)(r:List V):cnt H (k+1) (v::r)=1+cnt H k (inner H v)+cnt H (k+1) r:=by
 show ((v::r).map λv=>1+cnt H k (inner H v)).sum=_
 rw [List.map_cons,List.sum_cons]
 rfl
theorem jQ(H:Hp)(k:Nat)(a b:List V):cnt H k (a++b)=cnt H k a+cnt H k b:=by
 cases k with
 |zero=>rfl
 |succ k=>
  show ((a++b).map _).sum=(a.map _).sum+(b.map _).sum
  rw [List.map_append,List.sum_append]
theorem tJ{H H':Hp}(t:TK H H'){k:Nat}{v:V}(h:jZ H (k+1) v):inner H' v=inner H v:=by
 obtain⟨a,x,rest,ks,rfl,h1,h2,h3,h4⟩:=h
 rw [hJ h1 h2,hJ (t _ _ h1) h2]
 have go:∀{l:List V},(∀b∈l,∃(c:Addr) (bs:List V),b=.ref c/\H c=some (.tup bs))->l.flatMap (cj H')=l.flatMap (cj H):=by
  intro l
  induction l with
  |nil=>intro _;rfl
  |cons b r ih=>
   intro hl
   obtain⟨c,bs,rfl,hc⟩:=hl b List.mem_cons_self
   rw [List.flatMap_cons,List.flatMap_cons,dR hc,dR (t _ _ hc),ih λy hy=>hl y (List.mem_cons_of_mem _ hy)]
 exact go λb hb=>by
  obtain⟨c,bs,e,hc,_⟩:=h4 b hb
  exact⟨c,bs,e,hc⟩
theorem tK{H:Hp}{k:Nat}{v:V}(h:jZ H (k+1) v):∀y∈inner H v,jZ H k y:=by
 obtain⟨a,x,rest,ks,rfl,h1,h2,h3,h4⟩:=h
 rw [hJ h1 h2]
 intro y hy
 obtain⟨b,hb,MF⟩:=List.mem_flatMap.mp hy
 obtain⟨c,bs,rfl,hc,Cf⟩:=h4 b hb
 rw [dR hc] at MF
 exact Cf y MF
theorem hU{H H':Hp}(t:TK H H'):∀{k:Nat} {rows:List V},(∀v∈rows,jZ H k v)->cnt H' k rows=cnt H k rows
 |0,_,_=>rfl
 |k+1,[],_=>by rw [cnt_nil,cnt_nil]
 |k+1,v::r,h=>by
  have hv:=h v List.mem_cons_self
  rw [cnt_cons,cnt_cons,tJ t hv,hU t (tK hv),hU t (rows:=r) λy hy=>h y (List.mem_cons_of_mem _ hy)]
termination_by k rows=>(k,rows.length)
theorem mT{p:Addr}{H:Hp}{bs ls:List Str}{kvs:gJ}{r:Bool}:∀{k n:Nat} {v:V},Dt p H n v->bU H bs ls kvs r k v=true->jZ H k v
 |0,_,_,_,h=>by cases h
 |k+1,n,v,hD,h=>by
  obtain⟨t,ty,⟨m,a,xs,_,rfl,rfl,ha,_,hx⟩|⟨_,hn⟩⟩:=hD.cS
  ·cases xs with
   |nil=>rw [cT (by unfold cX;rw [ak ha];rfl)] at h;cases h
   |cons y ys=>
    by_cases hy:∃x,y=.str x
    ·obtain⟨x,rfl⟩:=hy
     rw [fO ha] at h
     unfold jy at h
     cases hf:bP x with
     |none=>rw [hf] at h;cases h
     |some ks=>
      rw [hf] at h
      dsimp only at h
      rw [Bool.and_eq_true,Bool.and_eq_true,Bool.and_eq_true] at h
      obtain⟨h1,_,h3,_⟩:=h
      have hl:=of_decide_eq_true h1
      refine⟨a,x,ys,ks,rfl,ha,hf,hl,λb hb=>?_⟩
      obtain⟨j,j1,j2⟩:=qQ hb
      have hz:(("rows":Str),b)∈ks.zip ys:=List.mem_of_getElem? (i:=j) (by rw [List.getElem?_zip_eq_some];exact⟨j1,j2⟩)
      have hp:=List.all_eq_true.mp h3 _ hz
      have uM:ie H bs ls kvs (bU H bs ls kvs r k) "rows" b=true:=hp
      unfold ie at uM
      rw [if_pos rfl] at uM
      have U6:=hx b (List.mem_cons_of_mem _ (List.mem_of_getElem? j2))
      obtain⟨t,ty,⟨m2,c,U7,_,rfl,rfl,hc,_,zH⟩|⟨_,hn⟩⟩:=U6.cS
      ·unfold bM at uM
       rw [ak hc] at uM
       exact⟨c,U7,rfl,hc,λy hy=>mT (zH y hy) (List.all_eq_true.mp uM y hy)⟩
      ·unfold bM at uM
       rw [hn] at uM
       cases uM
    ·rw [cT (by
      unfold cX
      rw [ak ha]
      cases y with
      |str x=>exact absurd ⟨x,rfl⟩ hy
      |_=>rfl)] at h
     cases h
  ·rw [cT (by unfold cX;rw [hn])] at h
   cases h
section
variable {P:Program} {w:World} {K:PySem.W.Frag} {mg:Str->Option Value} {base:Heap}
theorem A6:aO ["row"] ["row"] (ao (top 17)):=⟨rfl,rfl,rfl,by decide +kernel,rfl,by decide +kernel,by decide +kernel⟩
def qR:Sp:=λvs H Q _=>∃(a:Addr) (x:Str) (rest:List V) (ks:List Str),vs = [.ref a]/\H a=some (.tup (.str x::rest))/\bP x=some ks/\rest.length=ks.length/\∀p H',ax H H'->H p=none->H' p=some (.lst (jP ks rest ks.length))->Q (.ref p) H'
theorem DK(T:Txt w K mg)(S:Src K mg "parts_within" (top 17) ["row"]):Def P w K mg base 1 "parts_within" ["row"] qR:=by
 obtain⟨aF,mF,tab⟩:=T.Kx
 refine S.ok A6 (λvs H Q E h=>?_) (λf cD A outer s H vs Q E hr h=>?_)
 ·obtain⟨a,x,rest,ks,rfl,_⟩:=h;rfl
 obtain⟨a,wd,rest,ks,rfl,ha,Cg,hlen,q⟩:=h
 have DJ:=iU Cg
 refine⟨_,(aj (aC (cq (N':= ["kind","part"]) (bg (ao (top 17)) (by rfl) (by decide +kernel) (by decide +kernel) (by decide +kernel) (by decide +kernel) (by decide +kernel) (by decide +kernel)) rfl (gP 2 [] (by rfl) (by rfl) (by decide +kernel)) (uT rfl T.w8 (aq (aJ (GH tab) (br (v:=.ref aF) rfl mF rfl) (aJ aG (pv 0) ag (λ_ _=>rfl)) (λ_ _=>rfl)) (aq (bJ dg (pv 0) (bV ag) cp) aa))) (λ_ _ _=>(show PG _ _ (zV K 2 (kA (fK 0) (kA (fK 1) zU))) from iJ (n:=2) rfl (bF (aM (i:=0) (show (["kind","part"]:List Str).Nodup by decide +kernel) rfl (Or.inl rfl) (Or.inr rfl)) (bF (aM (i:=1) (show (["kind","part"]:List Str).Nodup by decide +kernel) rfl (Or.inl rfl) (Or.inr rfl)) gK)))) (λ_ _ _=>jn (aQ cA (pv 0) aD (aP _))) (λ_ _ _=>(pv 1))))),?_⟩
 try dsimp only [gQ]
 have l3:(100:Nat)<sizeLine:=by decide
 refine⟨_,rfl,a,_,0,_,rfl,rfl,aR.of ha,au (j:=0) rfl,rfl,wd,ks,rfl,Cg,λbk Ow=>?_⟩
 refine⟨_,rfl,1,rfl,a,_,rfl,ha,λpt H1 s1 h1=>?_⟩
 rw [ju] at h1
 refine⟨bk,pt,rfl,⟨_,ax.ke s1 Ow⟩,⟨_,aR.of h1⟩,λacc bR=>?_⟩
 refine⟨λi m σ2 zs H2=>m=ks.length-i/\i<=ks.length/\(∃x0 x1,σ2 = [x0,x1])/\zs=jP ks rest i/\H2 acc=some (.lst zs)/\ax H1 H2,
  ⟨_,rfl,Nat.zero_le _,⟨_,_,rfl⟩,(oz _ _).symm,ae,ah bR _⟩,?_⟩
 rintro i _ σ2 zs H2 ⟨rfl,hi,⟨x0,x1,rfl⟩,rfl,oW,sm⟩
 refine⟨oW,?_⟩
 by_cases eQ:i<ks.length
 ·obtain⟨ki,ug⟩:∃ki,ks[i]?=some ki:=⟨_,List.getElem?_eq_getElem eQ⟩
  obtain⟨yi,yV⟩:∃yi,rest[i]?=some yi:=⟨_,List.getElem?_eq_getElem (by omega)⟩
  have tj:(ks.map V.str)[i]?=some (.str ki):=by rw [List.getElem?_map,ug];rfl
  have oN:=ax.ke sm (ax.ke s1 Ow)
  have AY:aR K H2 pt rest:=aR.of (sm _ _ h1)
  refine .inr ⟨⟨_,_,_,_,oN,AY,tj,yV⟩,?_,?_⟩
  ·have:=qP (ks:=ks) (vs:=rest) (i:=i)
   omega
  rintro v H3 ⟨Tp,hT,rfl,nN⟩
  have e3:=nN _ _ _ _ oN AY tj yV
  subst e3
  have s3:=ah hT (.tup [.str ki,yi])
  refine⟨Tp,_,rfl,aR.of ae,rfl,_,_,rfl,_,_,rfl,rfl,?_⟩
  refine⟨_,rfl,rfl,_,rfl,?_⟩
  have es:=oA ug yV
  have KH:=s3 _ _ oW
  by_cases ck:ki="rows"
  ·refine dQ (decide_eq_true (by rw [ck])) ?_
   rw [if_pos ck] at es
   refine⟨_,rfl,KH,_,(by omega:ks.length-(i+1)<ks.length-i),rfl,eQ,⟨_,_,rfl⟩,es.symm,ae,λb' o' eN=>?_⟩
   rw [aK (aL eN bR)]
   exact s3 _ _ (sm _ _ eN)
  ·refine dM (decide_eq_false λz=>ck (by injection z)) ?_
   rw [if_neg ck,List.append_nil] at es
   exact⟨_,(by omega:ks.length-(i+1)<ks.length-i),rfl,eQ,⟨_,_,rfl⟩,es.symm,KH,λb' o' eN=>s3 _ _ (sm _ _ eN)⟩
 ·obtain rfl:i=ks.length:=by omega
  refine .inl ⟨⟨_,_,ax.ke sm (ax.ke s1 Ow),aR.of (sm _ _ h1),.inl (by rw [List.length_map];exact Nat.le_refl _)⟩,?_⟩
  exact q acc H2 (s1.trans sm) (s1.free bR) oW
theorem qS:aO ["triples","rows","around","row","number","part"] ["triples","rows","around"] (ao (top 21)):=⟨rfl,rfl,rfl,by decide +kernel,rfl,by decide +kernel,by decide +kernel⟩
def xk(d:Nat):Sp:=λvs H Q _=>∃(t r:Addr) (a:Int) (us rows:List V),vs = [.ref t,.ref r,.int a]/\H t=some (.lst us)/\H r=some (.tup rows)/\(∀x∈rows,jZ H d x)/\us.length+cnt H d rows<=1000000 /\
 ∀H' new,jJ t H H'->H' t=some (.lst (us++new))->new.length=cnt H d rows->Q .eh H'
def G3(d:Nat):Sp:=λvs H Q E=>∃d',d=d'+1/\xk d' vs H Q E
theorem A7{d j:Nat}(T:Txt w K mg)(fU:Def P w K mg base 1 "parts_within" ["row"] qR)(S:Src K mg "add_rows" (top 21) ["triples","rows","around"])(IH:Def P w K mg base (j+1) "add_rows" ["triples","rows","around"] (G3 d)) :
  Def P w K mg base (j+2) "add_rows" ["triples","rows","around"] (xk d):=by
 refine S.ok qS (λvs H Q E h=>?_) (λf cD A outer s H vs Q E hr h=>?_)
 ·obtain⟨t,r,a,us,rows,rfl,_⟩:=h;rfl
 obtain⟨t,r,a,us,rows,rfl,ht,KI,hR,hB,q⟩:=h
 refine⟨_,(aj (dO PassesOwn.never rfl (cG (pv 1)) (aM (i:=3) qS.nd rfl (Or.inl rfl))
   (ai (aS (i:=4) qS.nd rfl (Or.inl rfl) (aW aN rfl T.cH bO (aq (pv 0) aa)))
   (ai (eI (j3 PySem.F.plainAttrs_list PySem.F.slot_list_append PySem.F.type_list_append fM (pv 0) (aq (aA (aq (pv 4) (aq (pv 3) (aq (pv 2) aa)))) aa)))
   (aj (dO PassesOwn.never rfl (kC (aw (fU.mono (Nat.le_add_left 1 _)) hr rfl (aq (pv 3) aa))) (aM (i:=5) qS.nd rfl (Or.inl rfl))
   (aj (eI (aw (IH) hr rfl (aq (pv 0) (aq (pv 5) (aq (pv 4) aa)))))))))))),?_⟩
 try dsimp only [gQ]
 have l3:(1000100:Nat)<sizeLine:=by decide
 refine⟨_,rfl,r,rfl,⟨_,aR.of KI⟩,?_⟩
 have rt:r≠t:=pj KI ht (by intro z;cases z)
 have split:∀i,cnt H d rows=cnt H d (rows.take i)+cnt H d (rows.drop i):=λi=>by rw [<-jQ,List.take_append_drop]
 refine fz (xs:=rows) (λi σ H'=>∃(new:List V) (x3 x4 x5:Option V),σ = [some (.ref t),some (.ref r),some (.int a),x3,x4,x5]/\jJ t H H'/\H' t=some (.lst (us++new))/\new.length=cnt H d (rows.take i)) ?_ ?_ ?_ ?_
 ·exact⟨[],_,_,_,rfl,λ_ _ _ h=>h,by rw [List.append_nil];exact ht,by rw [List.take_zero,cnt_nil];rfl⟩
 ·rintro i σ H' hi ⟨new,x3,x4,x5,rfl,hb,_⟩
  exact aR.of (hb r _ rt KI)
 ·rintro i x σ H' gm ⟨new,x3,x4,x5,rfl,hb,hT,Ci⟩
  have hx:=hR x (List.mem_of_getElem? gm)
  obtain⟨d',rfl⟩:∃d',d=d'+1:=by
   cases d with
   |zero=>exact hx.elim
   |succ d'=>exact⟨d',rfl⟩
  have MG:=jJ.tk hb ht
  have lZ:cnt H (d'+1) (rows.take (i+1))=cnt H (d'+1) (rows.take i)+(1+cnt H d' (inner H x)):=by
   rw [List.take_add_one,gm,jQ]
   show _+cnt H (d'+1) [x]=_
   rw [cnt_cons,cnt_nil]
   omega
  have yB:cnt H d' (inner H x)+1+cnt H (d'+1) (rows.take i)<=cnt H (d'+1) rows:=by
   have:=split (i+1)
   omega
  have hlen:(us++new).length=us.length+cnt H (d'+1) (rows.take i):=by rw [List.length_append,Ci]
  refine⟨_,rfl,t,_,rfl,.inl (bX.of hT),?_⟩
  refine⟨_,rfl,.inl ⟨rfl,_,bX.of hT⟩,_,rfl,_,rfl,_,rfl,(by show 3<=sizeLine;omega),λu hu=>?_⟩
  have su:=ah hu (.tup [.int ((us++new).length:Int),x,.int a])
  refine⟨t,_,_,rfl,rfl,su _ _ hT,(by omega),?_⟩
  generalize hN:((us++new).length:Int)=N at su ⊢
  have b2:jJ t H' (upd (upd H' u (.tup [.int N,x,.int a])) t (.lst ((us++new) ++ [.ref u]))):=λc o hc h=>by rw [aK hc];exact su _ _ h
  have Az:upd (upd H' u (.tup [.int N,x,.int a])) t (.lst ((us++new) ++ [.ref u])) t=some (.lst ((us++new) ++ [.ref u])):=ae
  generalize upd (upd H' u (.tup [.int N,x,.int a])) t (.lst ((us++new) ++ [.ref u]))=H2 at *
  have A8:=MG.trans (jJ.tk b2 hT)
  obtain⟨xa,wd,rest,ks,rfl,Sa,Cg,KJ,sJ⟩:=id (jZ.tk A8 hx)
  refine⟨_,rfl,xa,wd,rest,ks,rfl,Sa,Cg,KJ,λp H3 s3 Sb h3=>?_⟩
  have Ox:p≠t:=λz=>by rw [z,Az] at Sb;cases Sb
  have Sd:=s3 _ _ Az
  have Oy:inner H2 (.ref xa)=(jP ks rest ks.length).flatMap (cj H2):=hJ Sa Cg
  have Oz:cnt H2 d' (inner H2 (.ref xa))=cnt H d' (inner H (.ref xa)):=by rw [tJ A8 hx,hU A8 (tK hx)]
  rw [Oy] at Oz
  generalize jP ks rest ks.length=ps at h3 sJ Oz
  refine⟨p,rfl,⟨_,bX.of h3⟩,?_⟩
  have G4:∀i,cnt H2 d' (ps.flatMap (cj H2))=cnt H2 d' ((ps.take i).flatMap (cj H2))+cnt H2 d' ((ps.drop i).flatMap (cj H2)):=λi=>by rw [<-jQ,<-List.flatMap_append,List.take_append_drop]
  refine rN (xs:=ps) (λi2 σ H4=>∃(lP:List V) (y5:Option V),σ = [some (.ref t),some (.ref r),some (.int a),some (.ref xa),some (.int N),y5]/\jJ t H3 H4/\H4 t=some (.lst (((us++new) ++ [.ref u])++lP))/\lP.length=cnt H2 d' ((ps.take i2).flatMap (cj H2))) ?_ ?_ ?_ ?_
  ·exact⟨[],_,rfl,λ_ _ _ h=>h,by rw [List.append_nil];exact Sd,by rw [List.take_zero,List.flatMap_nil,cnt_nil];rfl⟩
  ·rintro i2 σ H4 _ ⟨lP,y5,rfl,b4,_⟩
   exact bX.of (b4 p _ Ox h3)
  ·rintro i2 v σ H4 KL ⟨lP,y5,rfl,b4,OA,A9⟩
   have MH:=List.mem_of_getElem? KL
   obtain⟨b,bs,rfl,vb,mQ⟩:=sJ v MH
   have G5:TK H2 H4:=(TK.of s3).trans (jJ.tk b4 Sd)
   have OB:cnt H2 d' ((ps.take (i2+1)).flatMap (cj H2))=cnt H2 d' ((ps.take i2).flatMap (cj H2))+cnt H2 d' bs:=by
    rw [List.take_add_one,KL,List.flatMap_append,jQ]
    show _+cnt H2 d' ([V.ref b].flatMap (cj H2))=_
    rw [List.flatMap_cons,List.flatMap_nil,List.append_nil,dR vb]
   have Ac:=G4 (i2+1)
   have Se:cnt H4 d' bs=cnt H2 d' bs:=hU G5 mQ
   have KN:(((us++new) ++ [V.ref u])++lP).length=us.length+cnt H (d'+1) (rows.take i)+1+cnt H2 d' ((ps.take i2).flatMap (cj H2)):=by
    rw [List.length_append,List.length_append,hlen,A9];rfl
   refine⟨_,rfl,_,rfl,_,rfl,d',rfl,t,b,N,((us++new) ++ [V.ref u])++lP,bs,rfl,OA,G5 _ _ vb,λy hy=>(mQ y hy).tk G5,?_,λH5 OC b5 h5 t5=>?_⟩
   ·rw [KN,Se]
    omega
   ·exact⟨lP++OC,_,rfl,jJ.trans b4 b5,by rw [h5];simp,by rw [List.length_append,A9,t5,Se,OB]⟩
  ·rintro σ H4 ⟨lP,y5,rfl,b4,OA,A9⟩
   rw [List.take_length] at A9
   exact⟨new++(.ref u::lP),_,_,_,rfl,jJ.trans hb (jJ.trans b2 (jJ.trans (jJ.of (T:=t) s3) b4)),by rw [OA];simp,by rw [List.length_append,List.length_cons,Ci,A9,lZ,Oz];omega⟩
 ·rintro σ H' ⟨new,x3,x4,x5,rfl,hb,hT,Ci⟩
  rw [List.take_length] at Ci
  exact q H' new hb hT Ci
theorem Fe(T:Txt w K mg)(fU:Def P w K mg base 1 "parts_within" ["row"] qR)(S:Src K mg "add_rows" (top 21) ["triples","rows","around"]):∀d:Nat,Def P w K mg base (d+2) "add_rows" ["triples","rows","around"] (xk d)
 |0=>A7 T fU S (S.no λvs H Q E h=>by obtain⟨k',hk,_⟩:=h;omega)
 |d+1=>A7 T fU S ((Fe T fU S d).imp λvs H Q E h=>by
   obtain⟨k',hk,h⟩:=h
   obtain rfl:d=k':=by omega
   exact h)
end
def jd:V->Str
 |.str x=>x
 |_=>""
def aB(H:Hp)(xs:List V):List Str:=xs.map λx=>jd (cg H x)
def IM(φ:Hp->V->Bool):Prop:=∀{H:Hp} {v:V},φ H v=true->∃(a:Addr) (y:Str) (ys:List V),v=.ref a/\H a=some (.tup (.str y::ys))/\fc y=true
theorem dS{H:Hp}{v:V}{xs:List V}(h:bb H v=some xs):∃a,v=.ref a/\H a=some (.tup xs):=by
 cases v with
 |ref a=>
  unfold bb at h
  dsimp only at h
  split at h
  ·rename_i ha
   cases h
   exact⟨a,rfl,ha⟩
  ·cases h
 |_=>cases h
theorem fB:IM fI:=by
 intro H v h
 unfold fI at h
 cases e:bb H v with
 |none=>rw [e] at h;cases h
 |some xs=>
  rw [e] at h
  match xs,e,h with
  | [],_,h=>cases h
  | [_],_,h=>cases h
  | [y,z],e,h=>
   dsimp only at h
   rw [Bool.and_eq_true] at h
   obtain⟨x,rfl⟩:=ik h.1
   obtain⟨a,rfl,ha⟩:=dS e
   exact⟨a,x,_,rfl,ha,h.1⟩
  |_::_::_::_,_,h=>cases h
theorem dY:IM cM:=by
 intro H v h
 unfold cM at h
 cases e:bb H v with
 |none=>rw [e] at h;cases h
 |some xs=>
  rw [e] at h
  match xs,e,h with
  | [],_,h=>cases h
  | [_],_,h=>cases h
  | [y,z],e,h=>
   dsimp only at h
   rw [Bool.and_eq_true] at h
   obtain⟨x,rfl⟩:=ik h.1
   obtain⟨a,rfl,ha⟩:=dS e
   exact⟨a,x,_,rfl,ha,h.1⟩
  |_::_::_::_,_,h=>cases h
theorem dI{H:Hp}{v:V}(h:dy H v=true):∃(a pa oa ra:Addr) (x:Str) (ps os:List Str) (rs:List V),v=.ref a/\H a=some (.tup [.str x,.ref pa,.ref oa,.ref ra])/\fc x=true /\
  H pa=some (.tup (ps.map V.str))/\H oa=some (.tup (os.map V.str))/\H ra=some (.tup rs)/\ps.length<=3/\os.length<=3/\(∀y∈ps,fc y=true)/\(∀y∈os,fc y=true):=by
 have KO:∀{u:V},aV H 3 (λ_ x=>gH x) u=true->∃(b:Addr) (ys:List Str),u=.ref b/\H b=some (.tup (ys.map V.str))/\ys.length<=3/\∀y∈ys,fc y=true:=by
  intro u hu
  unfold aV at hu
  cases e:bb H u with
  |none=>rw [e] at hu;cases hu
  |some xs=>
   rw [e] at hu
   dsimp only at hu
   rw [Bool.and_eq_true] at hu
   obtain⟨b,rfl,hb⟩:=dS e
   have ex:xs=(xs.map jd).map V.str:=by
    rw [List.map_map]
    conv=>lhs;rw [<-List.map_id xs]
    refine List.map_congr_left λy hy=>?_
    obtain⟨z,rfl⟩:=ik (List.all_eq_true.mp hu.2 y hy)
    rfl
   refine⟨b,xs.map jd,rfl,by rw [<-ex];exact hb,by rw [List.length_map];exact of_decide_eq_true hu.1,λy hy=>?_⟩
   obtain⟨z,hz,rfl⟩:=List.mem_map.mp hy
   have:=List.all_eq_true.mp hu.2 z hz
   obtain⟨z',rfl⟩:=ik this
   exact this
 unfold dy at h
 cases e:bb H v with
 |none=>rw [e] at h;cases h
 |some xs=>
  rw [e] at h
  match xs,e,h with
  | [],_,h=>cases h
  | [_],_,h=>cases h
  | [_,_],_,h=>cases h
  | [_,_,_],_,h=>cases h
  | [x,p,o,r],e,h=>
   dsimp only at h
   rw [Bool.and_eq_true,Bool.and_eq_true,Bool.and_eq_true] at h
   obtain⟨h1,h2,h3,h4⟩:=h
   obtain⟨x,rfl⟩:=ik h1
   obtain⟨a,rfl,ha⟩:=dS e
   obtain⟨pa,ps,rfl,hp,lp,np⟩:=KO h2
   obtain⟨oa,os,rfl,ho,lo,no⟩:=KO h3
   obtain⟨rs,hr⟩:=Option.isSome_iff_exists.mp h4
   obtain⟨ra,rfl,gp⟩:=dS hr
   exact⟨a,pa,oa,ra,x,ps,os,rs,rfl,ha,h1,hp,ho,gp,lp,lo,np,no⟩
  |_::_::_::_::_::_,_,h=>cases h
theorem mU:IM dy:=by
 intro H v h
 obtain⟨a,pa,oa,ra,x,ps,os,rs,rfl,ha,hx,_⟩:=dI h
 exact⟨a,x,_,rfl,ha,hx⟩
theorem fC{φ:Hp->V->Bool}(N:IM φ){H:Hp}{xs:List V}(h:xs.all (φ H)=true):xs.map (cg H)=(aB H xs).map V.str:=by
 unfold aB
 rw [List.map_map]
 refine List.map_congr_left λx hx=>?_
 obtain⟨a,y,z,rfl,ha,_⟩:=N (List.all_eq_true.mp h x hx)
 show cg H (.ref a)=V.str (jd (cg H (.ref a)))
 have e:cg H (.ref a)=.str y:=by unfold cg;rw [ak ha]
 rw [e]
 rfl
theorem Ba{φ:Hp->V->Bool}(N:IM φ){H:Hp}{xs:List V}(h:xs.all (φ H)=true):∀y∈aB H xs,fc y=true:=by
 intro y hy
 obtain⟨x,hx,rfl⟩:=List.mem_map.mp hy
 obtain⟨a,y,z,rfl,ha,hn⟩:=N (List.all_eq_true.mp h x hx)
 have e:cg H (.ref a)=.str y:=by unfold cg;rw [ak ha]
 rw [e]
 exact hn
theorem dZ{p:Addr}{H H':Hp}{n:Nat}{xs:List V}(s:ax H H')(hx:∀x∈xs,Dt p H n x):xs.map (cg H')=xs.map (cg H):=
 List.map_congr_left λx hm=>by unfold cg;rw [bj s (hx x hm)]
def aY(H:Hp)(v:V):List V:=(bb H v).getD []
def eE(H:Hp)(b l:V):Bool:=aV H 6 fI b&&(aV H 3 cM l&&decide (aB H (aY H b)++aB H (aY H l)).Nodup)
theorem bW{H:Hp}{m:Nat}{φ:Hp->V->Bool}{v:V}(h:aV H m φ v=true):∃(a:Addr) (xs:List V),v=.ref a/\H a=some (.tup xs)/\aY H v=xs/\xs.length<=m/\xs.all (φ H)=true:=by
 unfold aV at h
 cases e:bb H v with
 |none=>rw [e] at h;cases h
 |some xs=>
  rw [e] at h
  dsimp only at h
  rw [Bool.and_eq_true] at h
  obtain⟨a,rfl,ha⟩:=dS e
  exact⟨a,xs,rfl,ha,by unfold aY;rw [e];rfl,of_decide_eq_true h.1,h.2⟩
theorem Dt.parts{p:Addr}{H:Hp}{n:Nat}{a:Addr}{xs:List V}(h:Dt p H n (.ref a))(ha:H a=some (.tup xs)):∃m,∀x∈xs,Dt p H m x:=by
 obtain⟨t,ty,⟨m,a',NV,_,e,_,E8,_,hx⟩|⟨_,hn⟩⟩:=h.cS
 ·cases e
  rw [ha] at E8
  cases E8
  exact⟨m,hx⟩
 ·rw [ak ha] at hn;cases hn
section
variable {P:Program} {w:World} {K:PySem.W.Frag} {mg:Str->Option Value} {base:Heap}
theorem DL:aO ["boxes","lists"] ["boxes","lists"] (ao (top 42)):=⟨rfl,rfl,rfl,by decide +kernel,rfl,by decide +kernel,by decide +kernel⟩
def Bb(C:Addr):Sp:=λvs H Q E=>∃(b l:V) (p:Addr) (n:Nat),vs = [b,l]/\Dt p H n b/\Dt p H n l/\(eE H b l=true->∀H',ax H H'->Q .eh H')/\(eE H b l=false->∀H',ax H H'->E (.ref C) none H')
theorem G6{C:Addr}(T:Txt w K mg)(cL:mg "NoProgram"=some (.ref C))(dA:qC K C)(Bc:Def P w K mg base 3 "is_box" ["thing"] (fh fI))(vN:Def P w K mg base 4 "is_list" ["thing"] (fh cM))
  (cK:Def P w K mg base 5 "is_tuple_of" ["thing","most","is_one"] (gS P w K mg base 4)) (cO:Def P w K mg base 1 "names_of" ["things"] iz) (gA:Def P w K mg base 1 "are_unlike" ["names"] jx)
  (S:Src K mg "check_variables" (top 42) ["boxes","lists"]):lL P w K mg base 6 "check_variables" ["boxes","lists"] (Bb C):=by
 obtain⟨tm,qT⟩:=T.GP
 obtain⟨Xw,qU⟩:=T.GQ
 obtain⟨fb,OD,Fb,OE,OF,JF⟩:=(Bc.mono (by decide:3<=4)).ex
 obtain⟨fl,OG,Fl,OH,KJ,OI⟩:=vN.ex
 refine S.Mr DL (λvs H Q E h=>?_) (λf0 cD A outer s H vs Q E hr h=>?_)
 ·obtain⟨b,l,p,n,rfl,_⟩:=h;rfl
 obtain⟨b,l,p,n,rfl,hb,hl,q1,q2⟩:=h
 refine⟨_,(ai (aX (bh (bf (aw (cK) hr rfl (aq (pv 0) (aq (br (v:=.int (6)) rfl qT ⟨_,rfl⟩) (aq (br (v:=.ref fb) rfl OE rfl) aa))))))
   (aj (fk fY fZ rfl rfl cL dA aD)) aI)
   (ai (aX (bh (bf (aw (cK) hr rfl (aq (pv 1) (aq (br (v:=.int (3)) rfl qU ⟨_,rfl⟩) (aq (br (v:=.ref fl) rfl OH rfl) aa))))))
   (aj (fk fY fZ rfl rfl cL dA aD)) aI)
   (aj (aX (bh (bf (aw (gA.mono (by decide)) hr rfl (aq (aU dE (aw (cO.mono (by decide)) hr rfl (aq (pv 0) aa)) (aw (cO.mono (by decide)) hr rfl (aq (pv 1) aa))) aa))))
   (aj (fk fY fZ rfl rfl cL dA aD)) aI)))),?_⟩
 try dsimp only [gQ]
 have l3:(100000:Nat)<sizeLine:=by rw [sizeLine_eq];decide
 refine⟨_,rfl,b,6,fb,OD,_,fI,p,n,rfl,hb,Fb,OF,JF,mS,λH1 s1=>⟨_,rfl,?_⟩⟩
 unfold eE at q1 q2
 cases c1:aV H 6 fI b with
 |false=>
  rw [c1] at q2
  exact dQ rfl (q2 rfl H1 s1)
 |true=>
 rw [c1,Bool.true_and] at q1 q2
 refine dM rfl ?_
 refine⟨_,rfl,l,3,fl,OG,_,cM,p,n,rfl,hl.same s1,Fl,KJ,OI,iB,λH2 s2=>⟨_,rfl,?_⟩⟩
 have jc:=s1.trans s2
 have e2:aV H1 3 cM l=aV H 3 cM l:=gR iB s1 hl
 rw [e2]
 cases c2:aV H 3 cM l with
 |false=>
  rw [c2] at q2
  exact dQ rfl (q2 rfl H2 jc)
 |true=>
 rw [c2,Bool.true_and] at q1 q2
 refine dM rfl ?_
 obtain⟨ab,xb,rfl,xm,tb,lb,iV⟩:=bW c1
 obtain⟨al,xl,rfl,xn,tl,ll,iW⟩:=bW c2
 rw [tb,tl] at q1 q2
 obtain⟨mb,vO⟩:=hb.parts xm
 obtain⟨ml,vP⟩:=hl.parts xn
 refine⟨_,rfl,ab,xb,rfl,jc _ _ xm,by omega,λx hx=>?_,λu1 H3 md s3 h3=>?_⟩
 ·obtain⟨a,y,ys,e,ha,_⟩:=fB (List.all_eq_true.mp iV x hx)
  exact⟨a,_,_,e,jc _ _ ha⟩
 rw [dZ jc vO,fC fB iV] at h3
 have mh:=jc.trans s3
 refine⟨_,rfl,al,xl,rfl,mh _ _ xn,by omega,λx hx=>?_,λu2 H4 kN s4 h4=>?_⟩
 ·obtain⟨a,y,ys,e,ha,_⟩:=dY (List.all_eq_true.mp iW x hx)
  exact⟨a,_,_,e,mh _ _ ha⟩
 rw [dZ mh vP,fC dY iW] at h4
 have KP:=mh.trans s4
 have OJ:(aB H xb).length=xb.length:=List.length_map _
 have OK:(aB H xl).length=xl.length:=List.length_map _
 refine⟨u1,u2,_,_,rfl,rfl,s4 _ _ h3,h4,by rw [List.length_map,List.length_map];omega,λu3 oO=>?_⟩
 have s5:=ah oO (.lst ((aB H xb).map V.str++(aB H xl).map V.str))
 refine⟨u3,aB H xb++aB H xl,rfl,by rw [List.map_append];exact ae,by rw [List.length_append];omega,λH6 s6=>⟨_,rfl,?_⟩⟩
 have IP:=KP.trans (s5.trans s6)
 cases c3:decide (aB H xb++aB H xl).Nodup with
 |true=>exact dM rfl (q1 c3 H6 IP)
 |false=>exact dQ rfl (q2 c3 H6 IP)
def iX(H:Hp)(v:V):List Str:=match bb H v with
 |some [_,p,o,_]=>(aY H p).map jd++(aY H o).map jd
 |_=> []
theorem tL(ps:List Str):(ps.map V.str).map jd=ps:=by
 rw [List.map_map]
 conv=>rhs;rw [<-List.map_id ps]
 exact List.map_congr_left λ_ _=>rfl
theorem dU{H:Hp}{a pa oa:Addr}{x r:V}{ps os:List Str}(h:H a=some (.tup [x,.ref pa,.ref oa,r]))(hp:H pa=some (.tup (ps.map V.str)))(ho:H oa=some (.tup (os.map V.str))):iX H (.ref a)=ps++os:=by
 unfold iX aY
 rw [ak h]
 dsimp only
 rw [ak hp,ak ho]
 show (ps.map V.str).map jd++(os.map V.str).map jd=_
 rw [tL,tL]
def dm(H:Hp)(ts:List Str)(v:V):Bool:=aV H 4 dy v&&(decide (aB H (aY H v)).Nodup&&(aY H v).all λf=>decide (ts++iX H f).Nodup)
theorem xo:aO ["functions","taken","function"] ["functions","taken"] (ao (top 43)):=⟨rfl,rfl,rfl,by decide +kernel,rfl,by decide +kernel,by decide +kernel⟩
def Bd(C:Addr):Sp:=λvs H Q E=>∃(v:V) (tk:Addr) (ts:List Str) (p:Addr) (n:Nat),vs = [v,.ref tk]/\H tk=some (.lst (ts.map V.str))/\ts.length<=20/\Dt p H n v/\(dm H ts v=true->∀H',ax H H'->Q .eh H')/\(dm H ts v=false->∀H',ax H H'->E (.ref C) none H')
theorem G7{C:Addr}(T:Txt w K mg)(cL:mg "NoProgram"=some (.ref C))(dA:qC K C)(Be:Def P w K mg base 3 "is_function" ["thing"] (fh dy))
  (cK:Def P w K mg base 4 "is_tuple_of" ["thing","most","is_one"] (gS P w K mg base 3)) (cO:Def P w K mg base 1 "names_of" ["things"] iz) (gA:Def P w K mg base 1 "are_unlike" ["names"] jx) (pW:Def P w K mg base 1 "own_names" ["function"] A0)
  (S:Src K mg "check_functions" (top 43) ["functions","taken"]):lL P w K mg base 5 "check_functions" ["functions","taken"] (Bd C):=by
 obtain⟨tm,lQ⟩:=T.Ku
 obtain⟨ff,OL,Ff,OM,ON,OO⟩:=Be.ex
 refine S.Mr xo (λvs H Q E h=>?_) (λf0 cD A outer s H vs Q E hr h=>?_)
 ·obtain⟨v,tk,ts,p,n,rfl,_⟩:=h;rfl
 obtain⟨v,tk,ts,p,n,rfl,LZ,Xx,hv,q1,q2⟩:=h
 refine⟨_,(ai (aX (bh (bf (aw (cK) hr rfl (aq (pv 0) (aq (br (v:=.int (4)) rfl lQ ⟨_,rfl⟩) (aq (br (v:=.ref ff) rfl OM rfl) aa))))))
   (aj (fk fY fZ rfl rfl cL dA aD)) aI)
   (ai (aX (bh (bf (aw (gA.mono (by decide)) hr rfl (aq (aw (cO.mono (by decide)) hr rfl (aq (pv 0) aa)) aa))))
   (aj (fk fY fZ rfl rfl cL dA aD)) aI)
   (aj (dO PassesOwn.leaving rfl (cG (pv 0)) (aM (i:=2) xo.nd rfl (Or.inl rfl))
   (aj (aX (bh (bf (aw (gA.mono (by decide)) hr rfl (aq (aU dE (pv 1) (aw (pW.mono (by decide)) hr rfl (aq (pv 2) aa))) aa))))
   (aj (fk fY fZ rfl rfl cL dA aD)) aI)))))),?_⟩
 try dsimp only [gQ]
 have l3:(100000:Nat)<sizeLine:=by rw [sizeLine_eq];decide
 refine⟨_,rfl,v,4,ff,OL,_,dy,p,n,rfl,hv,Ff,ON,OO,jL,λH1 s1=>⟨_,rfl,?_⟩⟩
 unfold dm at q1 q2
 cases c1:aV H 4 dy v with
 |false=>
  rw [c1] at q2
  exact dQ rfl (q2 rfl H1 s1)
 |true=>
 rw [c1,Bool.true_and] at q1 q2
 refine dM rfl ?_
 obtain⟨a,xs,rfl,ha,tv,lx,gC⟩:=bW c1
 rw [tv] at q1 q2
 obtain⟨m,hx⟩:=hv.parts ha
 refine⟨_,rfl,a,xs,rfl,s1 _ _ ha,by omega,λx hm=>?_,λu1 H2 md s2 h2=>?_⟩
 ·obtain⟨b,y,ys,e,hb,_⟩:=mU (List.all_eq_true.mp gC x hm)
  exact⟨b,_,_,e,s1 _ _ hb⟩
 rw [dZ s1 hx,fC mU gC] at h2
 have ln:(aB H xs).length=xs.length:=List.length_map _
 refine⟨u1,aB H xs,rfl,h2,by omega,λH3 s3=>⟨_,rfl,?_⟩⟩
 have mh:=s1.trans (s2.trans s3)
 cases c2:decide (aB H xs).Nodup with
 |false=>
  rw [c2] at q2
  exact dQ rfl (q2 rfl H3 mh)
 |true=>
 rw [c2,Bool.true_and] at q1 q2
 refine dM rfl ?_
 refine⟨_,rfl,a,rfl,⟨_,aR.of (mh _ _ ha)⟩,fz (xs:=xs) (λi σ H'=>∃x2,σ = [some (.ref a),some (.ref tk),x2]/\ax H H'/\(xs.take i).all (λf=>decide (ts++iX H f).Nodup)=true) ⟨_,rfl,mh,rfl⟩ ?_ ?_ ?_⟩
 ·rintro i σ H' _ ⟨x2,rfl,s4,_⟩
  exact aR.of (s4 _ _ ha)
 ·rintro i x σ H' gm ⟨x2,rfl,s4,dj⟩
  have pU:=List.mem_of_getElem? gm
  obtain⟨b,pa,oa,ra,y,ps,os,rs,rfl,hb,_,hp,ho,gp,lp,lo,_,_⟩:=dI (List.all_eq_true.mp gC x pU)
  have eo:=dU hb hp ho
  refine⟨_,rfl,_,rfl,b,pa,oa,_,_,_,_,rfl,s4 _ _ hb,s4 _ _ hp,s4 _ _ ho,by rw [List.length_map];omega,by rw [List.length_map];omega,λu H5 hu s5 h5=>?_⟩
  have Sf:=s4.trans s5
  refine⟨tk,u,_,_,rfl,rfl,Sf _ _ LZ,h5,by rw [List.length_append,List.length_map,List.length_map,List.length_map];omega,λu3 oO=>?_⟩
  have s6:=ah oO (.lst (ts.map V.str++(ps.map V.str++os.map V.str)))
  refine⟨u3,ts++(ps++os),rfl,by rw [List.map_append,List.map_append];exact ae,by rw [List.length_append,List.length_append];omega,λH7 s7=>⟨_,rfl,?_⟩⟩
  have Sg:=Sf.trans (s6.trans s7)
  cases c3:decide (ts++(ps++os)).Nodup with
  |false=>
   refine dQ rfl (q2 ?_ H7 Sg)
   exact jM pU (by rw [eo];exact c3)
  |true=>exact dM rfl ⟨_,rfl,Sg,iC gm dj (by rw [eo];exact c3)⟩
 ·rintro σ H' ⟨x2,rfl,s4,dj⟩
  rw [List.take_length] at dj
  exact q1 dj H' s4
end
def hV(H:Hp)(v:V):List V:=match bb H v with
 |some [_,_,_,r]=>cj H r
 |_=> []
theorem jz{H:Hp}{a r:Addr}{x y z:V}{rs:List V}(h:H a=some (.tup [x,y,z,.ref r]))(hr:H r=some (.tup rs)):hV H (.ref a)=rs:=by
 unfold hV
 rw [ak h]
 exact dR hr
def gI(H:Hp)(fs:List V):Nat:=(fs.map λf=>1+cnt H 5 (hV H f)).sum
theorem tM(H:Hp)(a b:List V):gI H (a++b)=gI H a+gI H b:=by
 show ((a++b).map _).sum=(a.map _).sum+(b.map _).sum
 rw [List.map_append,List.sum_append]
def vQ(H:Hp)(v:V):Prop:=∃(a r:Addr) (x y z:V) (rs:List V),v=.ref a/\H a=some (.tup [x,y,z,.ref r])/\H r=some (.tup rs)/\∀u∈rs,jZ H 5 u
section
variable {P:Program} {w:World} {K:PySem.W.Frag} {mg:Str->Option Value} {base:Heap}
theorem mV:aO ["program","triples","function","number"] ["program"] (ao (top 20)):=⟨rfl,rfl,rfl,by decide +kernel,rfl,by decide +kernel,by decide +kernel⟩
def tN:Sp:=λvs H Q _=>∃(a fa ra:Addr) (x0 x1:V) (fs rows:List V),vs = [.ref a]/\H a=some (.tup [x0,x1,.ref fa,.ref ra])/\H fa=some (.tup fs)/\H ra=some (.tup rows)/\(∀f∈fs,vQ H f)/\(∀u∈rows,jZ H 5 u)/\gI H fs+cnt H 5 rows<=1000000 /\
 ∀H' t us,ax H H'->H t=none->H' t=some (.lst us)->us.length=gI H fs+cnt H 5 rows->Q (.ref t) H'
theorem yY(T:Txt w K mg)(Fg:Def P w K mg base 7 "add_rows" ["triples","rows","around"] (xk 5))(S:Src K mg "rows_of" (top 20) ["program"]):Def P w K mg base 8 "rows_of" ["program"] tN:=by
 obtain⟨tm,tO⟩:=T.around
 refine S.ok mV (λvs H Q E h=>?_) (λf cD A outer s H vs Q E hr h=>?_)
 ·obtain⟨a,fa,ra,x0,x1,fs,rows,rfl,_⟩:=h;rfl
 obtain⟨a,fa,ra,x0,x1,fs,rows,rfl,ha,yI,gp,hF,hR,hB,q⟩:=h
 refine⟨_,(ai (aS (i:=1) mV.nd rfl (Or.inl rfl) (bN aa))
   (ai (dO PassesOwn.never rfl (cG (aJ aG (pv 0) ag (λ_ _=>rfl))) (aM (i:=2) mV.nd rfl (Or.inl rfl))
   (ai (aS (i:=3) mV.nd rfl (Or.inl rfl) (aW aN rfl T.cH bO (aq (pv 1) aa)))
   (ai (eI (j3 PySem.F.plainAttrs_list PySem.F.slot_list_append PySem.F.type_list_append fM (pv 1) (aq (aA (aq (pv 3) (aq (aA (aq aD (aq (aJ aG (pv 2) ag (λ_ _=>rfl)) aa))) (aq (br (v:=.int (-1)) rfl tO ⟨_,rfl⟩) aa)))) aa)))
   (aj (eI (aw (Fg) hr rfl (aq (pv 1) (aq (aJ aG (pv 2) ag (λ_ _=>rfl)) (aq (pv 3) aa)))))))))
   (ai (eI (aw (Fg) hr rfl (aq (pv 1) (aq (aJ aG (pv 0) ag (λ_ _=>rfl)) (aq (br (v:=.int (-1)) rfl tO ⟨_,rfl⟩) aa)))))
   (aj (aC (pv 1)))))),?_⟩
 try dsimp only [gQ]
 have l3:(1000100:Nat)<sizeLine:=by decide
 refine⟨(by show 0<=sizeLine;omega),λt ht=>?_⟩
 have st:=ah ht (.lst [])
 refine⟨_,rfl,a,_,2,_,rfl,rfl,aR.of (st _ _ ha),au (j:=2) rfl,fa,rfl,⟨_,aR.of (st _ _ yI)⟩,?_⟩
 have split:∀i,gI H fs=gI H (fs.take i)+gI H (fs.drop i):=λi=>by rw [<-tM,List.take_append_drop]
 refine fz (xs:=fs) (λi σ H'=>∃(us:List V) (x2 x3:Option V),σ = [some (.ref a),some (.ref t),x2,x3]/\ax H H'/\H' t=some (.lst us)/\us.length=gI H (fs.take i)) ?_ ?_ ?_ ?_
 ·exact⟨[],_,_,rfl,st,ae,by rw [List.take_zero];rfl⟩
 ·rintro i σ H' hi ⟨us,x2,x3,rfl,hs,_⟩
  exact aR.of (hs _ _ yI)
 ·rintro i x σ H' gm ⟨us,x2,x3,rfl,hs,hT,Ci⟩
  obtain⟨b,r,nm,y,z,rs,rfl,hb,Si,Fc⟩:=hF x (List.mem_of_getElem? gm)
  have jX:=jz hb Si
  have lZ:gI H (fs.take (i+1))=gI H (fs.take i)+(1+cnt H 5 rs):=by
   rw [List.take_add_one,gm,tM]
   show _+gI H [V.ref b]=_
   show _+([V.ref b].map λf=>1+cnt H 5 (hV H f)).sum=_
   rw [List.map_cons,List.map_nil,List.sum_cons,List.sum_nil,jX]
   omega
  have wI:=split (i+1)
  refine⟨_,rfl,t,_,rfl,.inl (bX.of hT),?_⟩
  refine⟨_,rfl,.inl ⟨rfl,_,bX.of hT⟩,_,rfl,_,rfl,b,_,0,_,rfl,rfl,aR.of (hs _ _ hb),au (j:=0) rfl,(by show 2<=sizeLine;omega),λu1 md=>?_⟩
  have U8:=ah md (.tup [.str "def",nm])
  refine⟨(by show 3<=sizeLine;omega),λu hu=>?_⟩
  have su:=U8.trans (ah hu (.tup [.int (us.length:Int),.ref u1,.int (-1)]))
  refine⟨t,_,_,rfl,rfl,su _ _ hT,(by omega),?_⟩
  have Az:upd (upd (upd H' u1 (.tup [.str "def",nm])) u (.tup [.int (us.length:Int),.ref u1,.int (-1)])) t (.lst (us ++ [.ref u])) t=some (.lst (us ++ [.ref u])):=ae
  have b2:jJ t H' (upd (upd (upd H' u1 (.tup [.str "def",nm])) u (.tup [.int (us.length:Int),.ref u1,.int (-1)])) t (.lst (us ++ [.ref u]))):=λc o hc h=>by rw [aK hc];exact su _ _ h
  generalize upd (upd (upd H' u1 (.tup [.str "def",nm])) u (.tup [.int (us.length:Int),.ref u1,.int (-1)])) t (.lst (us ++ [.ref u]))=H2 at *
  have ui:ax H H2:=λc o h=>b2 c o (aL h ht) (hs _ _ h)
  have A8:=TK.of ui
  have ec:cnt H2 5 rs=cnt H 5 rs:=hU A8 Fc
  refine⟨_,rfl,_,rfl,b,_,3,_,rfl,rfl,aR.of (ui _ _ hb),au (j:=3) rfl,_,rfl,?_⟩
  refine⟨t,r,(us.length:Int),us ++ [.ref u],rs,rfl,Az,ui _ _ Si,λy hy=>(Fc y hy).tk A8,?_,λH4 lP b4 h4 t4=>?_⟩
  ·rw [List.length_append,ec,List.length_singleton]
   omega
  ·refine⟨us++(.ref u::lP),_,_,rfl,λc o h=>b4 c o (aL h ht) (ui _ _ h),by rw [h4];simp,?_⟩
   rw [List.length_append,List.length_cons,t4,ec,Ci,lZ]
   omega
 ·rintro σ H' ⟨us,x2,x3,rfl,hs,hT,Ci⟩
  rw [List.take_length] at Ci
  have MG:=TK.of hs
  have ec:cnt H' 5 rows=cnt H 5 rows:=hU MG hR
  refine⟨_,rfl,_,rfl,a,_,3,_,rfl,rfl,aR.of (hs _ _ ha),au (j:=3) rfl,?_⟩
  refine⟨t,ra,-1,us,rows,rfl,hT,hs _ _ gp,λy hy=>(hR y hy).tk MG,by rw [ec];omega,λH4 lP b4 h4 t4=>?_⟩
  refine⟨_,rfl,q H4 t (us++lP) (λc o h=>b4 c o (aL h ht) (hs _ _ h)) ht h4 ?_⟩
  rw [List.length_append,t4,ec,Ci]
end
def tP(H:Hp)(v:V):List V:=match bb H v with
 |some [_,p,_,_]=>aY H p
 |_=> []
theorem kW{H:Hp}{a pa:Addr}{x y z:V}{ps:List V}(h:H a=some (.tup [x,.ref pa,y,z]))(hp:H pa=some (.tup ps)):tP H (.ref a)=ps:=by
 unfold tP aY
 rw [ak h]
 dsimp only
 rw [ak hp]
 rfl
def kh(H:Hp)(fs:List V):List (Key×V):=fs.map λf=>(Sum.inr (jd (cg H f)),V.int ((tP H f).length:Int))
def AllInt(kvs:List (Key×V)):Prop:=∀kv∈kvs,∃n:Int,kv.2=.int n
theorem AllInt.put{kvs:List (Key×V)}{k:Key}{v:V}(h:AllInt kvs)(hv:∃n:Int,v=.int n):AllInt (putK kvs k v):=by
 intro kv qV
 unfold putK at qV
 split at qV
 ·obtain⟨OP,h1,rfl⟩:=List.mem_map.mp qV
  split
  ·exact hv
  ·exact h _ h1
 ·rcases List.mem_append.mp qV with h1|h1
  ·exact h _ h1
  ·simp at h1
   subst h1
   exact hv
theorem AllInt.merge:∀{more kvs:List (Key×V)},AllInt more->AllInt kvs->AllInt (bw kvs more)
 | [],_,_,h=>h
 |p::r,kvs,hm,h=>AllInt.merge (more:=r) (kvs:=putK kvs p.1 p.2) (λkv qV=>hm kv (List.mem_cons_of_mem _ qV)) (h.put (hm p List.mem_cons_self))
theorem AllInt.val{kvs:List (Key×V)}(h:AllInt kvs){k:Key}{u:V}(e:cP kvs k=some u):∃n:Int,u=.int n:=by
 unfold cP at e
 cases hf:kvs.find? (λkv=>decide (kv.1=k)) with
 |none=>rw [hf] at e;cases e
 |some kv=>
  rw [hf] at e
  have e':kv.2=u:=by simpa using e
  rw [<-e']
  exact h kv (List.mem_of_find?_eq_some hf)
theorem G8(H:Hp)(fs:List V):AllInt (kh H fs):=by
 intro kv qV
 obtain⟨f,_,rfl⟩:=List.mem_map.mp qV
 exact⟨_,rfl⟩
def dN(H:Hp)(v:V):V:=match bb H v with
 |some [_,_,_,r]=>r
 |_=>.eh
def kvsOf(H:Hp)(fs:List V):gJ:=bw [] (kh H fs)
def i9(H:Hp)(xb xl xf:List V)(f:V):Bool:=bM H (bU H (aB H xb++iX H f) (aB H xl) (kvsOf H xf) true 5) (dN H f)
def eG(H:Hp)(xb xl xf:List V)(r:V):Bool:=xf.all (i9 H xb xl xf)&&bM H (bU H (aB H xb) (aB H xl) (kvsOf H xf) false 5) r
theorem pX{H1:Hp}{C x dx:Addr}{fs:List (Str×V)}(hx:H1 x=none)(KQ:H1 dx=none)(ne:dx≠x):ax H1 (upd (upd H1 dx (.own x)) x (.ins C dx fs)):=λb o h=>by
 rw [aK (aL h hx),aK (aL h KQ)]
 exact h
section
variable {P:Program} {w:World} {K:PySem.W.Frag} {mg:Str->Option Value} {base:Heap} {CS:Addr}
theorem gD:aO ["program","boxes","lists","functions","rows","param_counts","function","scope"] ["program"] (ao (top 44)):=⟨rfl,rfl,rfl,by decide +kernel,rfl,by decide +kernel,by decide +kernel⟩
def xp(C:Addr):Sp:=λvs H Q E=>∃(a ba la fa:Addr) (r:V) (xb xl xf:List V) (p:Addr) (n:Nat),vs = [.ref a]/\H a=some (.tup [.ref ba,.ref la,.ref fa,r])/\H ba=some (.tup xb)/\H la=some (.tup xl)/\H fa=some (.tup xf) /\
 xb.length<=6/\xl.length<=3/\xf.length<=4/\xb.all (fI H)=true/\xl.all (cM H)=true/\xf.all (dy H)=true/\(∀x∈xb,Dt p H n x)/\(∀x∈xl,Dt p H n x)/\(∀x∈xf,Dt p H n x)/\Dt p H n r /\
 (eG H xb xl xf r=true->∀H',ax H H'->Q .eh H')/\(eG H xb xl xf r=false->∀H',ax H H'->E (.ref C) none H')
theorem DM{C:Addr}(T:Txt w K mg)(Z:IK K mg CS)(mW:mg "NoRow"=some (.ref C))(xq:qC K C)(Bf:vi P w K mg base 25 "Scope" CS ["self","boxes","lists","param_counts","may_return"] (A2 CS))(eY:Def P w K mg base 26 "are_rows" ["rows","scope","depth"] (qN CS 5))
  (cO:Def P w K mg base 1 "names_of" ["things"] iz) (pW:Def P w K mg base 1 "own_names" ["function"] A0)
  (S:Src K mg "check_rows" (top 44) ["program"]):lL P w K mg base 27 "check_rows" ["program"] (xp C):=by
 refine S.Mr gD (λvs H Q E h=>?_) (λf0 cD A outer s H vs Q E hr h=>?_)
 ·obtain⟨a,ba,la,fa,r,xb,xl,xf,p,n,rfl,_⟩:=h;rfl
 obtain⟨a,ba,la,fa,r,xb,xl,xf,p,n,rfl,ha,Sj,Sl,yI,lb,ll,lf,iV,iW,gC,vO,vP,vR,xt,q1,q2⟩:=h
 refine⟨_,(ai (nC (pv 0) (iJ rfl (bF (aM (i:=1) gD.nd rfl (Or.inl rfl)) (bF (aM (i:=2) gD.nd rfl (Or.inl rfl)) (bF (aM (i:=3) gD.nd rfl (Or.inl rfl)) (bF (aM (i:=4) gD.nd rfl (Or.inl rfl)) gK))))))
   (ai (aS (i:=5) gD.nd rfl (Or.inl rfl) (eM (gG rfl) rfl T.vx qM (aq (cq (N':= ["function"]) (bg (ao (top 44)) (by rfl) (by decide +kernel) (by decide +kernel) (by decide +kernel) (by decide +kernel) (by decide +kernel) (by decide +kernel)) rfl (gP 1 [] (by rfl) (by rfl) (by decide +kernel)) (cG (pv 3)) (λ_ _ _=>aM (i:=0) (show (["function"]:List Str).Nodup by decide +kernel) rfl (Or.inl rfl) (Or.inr rfl)) (λ_ _ _=>cB) (λ_ _ _=>(aA (aq (aJ (show gj _ (eu K) from aG) (pv 0) ag (λ_ _=>rfl)) (aq (aW (show bI _ _ (GL K) from aN) rfl T.cH bO (aq (aJ (show gj _ (eu K) from aG) (pv 0) ag (λ_ _=>rfl)) aa)) aa))))) aa)))
   (ai (dO PassesOwn.leaving rfl (cG (pv 3)) (aM (i:=6) gD.nd rfl (Or.inl rfl))
   (ai (aS (i:=7) gD.nd rfl (Or.inl rfl) (sL (Bf) hr rfl (aq (aU dE (aw (cO.mono (by decide)) hr rfl (aq (pv 1) aa)) (aw (pW.mono (by decide)) hr rfl (aq (pv 6) aa))) (aq (aw (cO.mono (by decide)) hr rfl (aq (pv 2) aa)) (aq (pv 5) (aq cW aa))))))
   (aj (aX (bh (bf (aw (eY) hr rfl (aq (aJ aG (pv 6) ag (λ_ _=>rfl)) (aq (pv 7) (aq ag aa))))))
   (aj (fk fY fZ rfl rfl mW xq aD)) aI))))
   (aj (aX (bh (bf (aw (eY) hr rfl (aq (pv 4) (aq (sL (Bf) hr rfl (aq (aw (cO.mono (by decide)) hr rfl (aq (pv 1) aa)) (aq (aw (cO.mono (by decide)) hr rfl (aq (pv 2) aa)) (aq (pv 5) (aq cW aa))))) (aq ag aa))))))
   (aj (fk fY fZ rfl rfl mW xq aD)) aI))))),?_⟩
 try dsimp only [gQ]
 have l3:(100000:Nat)<sizeLine:=by rw [sizeLine_eq];decide
 refine⟨_,rfl,a,_,rfl,aR.of ha,rfl,_,_,rfl,_,_,rfl,_,_,rfl,_,_,rfl,rfl,?_⟩
 refine⟨_,rfl,fa,rfl,⟨_,aR.of yI⟩,λacc bR=>?_⟩
 refine⟨λi m σ2 ys H2=>m=xf.length-i/\i<=xf.length/\(∃x0,σ2 = [x0])/\Paired (λt (kv:Key×V)=>∃b,t=V.ref b/\H2 b=some (.tup [kV kv.1,kv.2])) ys (kh H (xf.take i))/\H2 acc=some (.lst ys)/\ax H H2,
  ⟨_,rfl,Nat.zero_le _,⟨_,rfl⟩,.nil,ae,ah bR _⟩,?_⟩
 rintro i _ σ2 ys H2 ⟨rfl,hi,⟨x0,rfl⟩,hP,oW,sm⟩
 refine⟨oW,?_⟩
 by_cases eQ:i<xf.length
 ·refine .inr ⟨⟨xf,_,aR.of (sm _ _ yI),List.getElem?_eq_getElem eQ⟩,?_,?_⟩
  ·have:=hP.length
   unfold kh at this
   rw [List.length_map,List.length_take] at this
   omega
  rintro v H3 ⟨rfl,hy⟩
  have gm:=hy xf (aR.of (sm _ _ yI))
  have pU:=List.mem_of_getElem? gm
  obtain⟨b,pa,oa,ra,y,ps,os,rs,rfl,hb,_,hp,ho,gp,lp,lo,_,_⟩:=dI (List.all_eq_true.mp gC v pU)
  refine⟨_,rfl,b,_,0,_,rfl,rfl,aR.of (sm _ _ hb),au (j:=0) rfl,?_⟩
  refine⟨_,rfl,b,_,1,_,rfl,rfl,aR.of (sm _ _ hb),au (j:=1) rfl,pa,_,rfl,.inr (aR.of (sm _ _ hp)),(by show 2<=sizeLine;omega),λu hu=>?_⟩
  have su:=ah hu (.tup [.str y,.int (((ps.map V.str).length:Nat):Int)])
  have eP:kh H (xf.take (i+1))=kh H (xf.take i) ++ [(Sum.inr y,V.int (((ps.map V.str).length:Nat):Int))]:=by
   unfold kh
   rw [List.take_add_one,gm,List.map_append]
   show _ ++ [(Sum.inr (jd (cg H (.ref b))),V.int ((tP H (.ref b)).length:Int))]=_
   rw [kW hb hp]
   have e:cg H (.ref b)=.str y:=by unfold cg;rw [ak hb]
   rw [e]
   rfl
  have OQ:=su _ _ oW
  have keep:∀c o,c≠acc->(upd H3 u (.tup [.str y,.int (((ps.map V.str).length:Nat):Int)])) c=some o->upd (upd H3 u (.tup [.str y,.int (((ps.map V.str).length:Nat):Int)])) acc (.lst (ys ++ [V.ref u])) c=some o:=λc o hc h=>by rw [aK hc];exact h
  refine⟨OQ,_,(by omega:xf.length-(i+1)<xf.length-i),rfl,eQ,⟨_,rfl⟩,?_,ae,λc o hc=>?_⟩
  ·rw [eP]
   refine dP (Paired.imp' (λt kv hk=>?_) hP) (.cons ⟨u,rfl,keep _ _ (λz=>by rw [z,oW] at hu;cases hu) ae⟩ .nil)
   obtain⟨c,e,hc⟩:=hk
   exact⟨c,e,keep _ _ (pj hc oW (by intro z;cases z)) (su _ _ hc)⟩
  ·rw [aK (aL hc bR)]
   exact su _ _ (sm _ _ hc)
 obtain rfl:i=xf.length:=by omega
 rw [List.take_length] at hP
 refine .inl ⟨⟨xf,aR.of (sm _ _ yI),Nat.le_refl _⟩,?_⟩
 refine⟨acc,ys,kh H xf,rfl,bX.of oW,by unfold kh;rw [List.length_map];omega,hP,λpd U9=>?_⟩
 have sd:=sm.trans (ah U9 (.dK (bw [] (kh H xf))))
 have G9:upd H2 pd (.dK (bw [] (kh H xf))) pd=some (.dK (kvsOf H xf)):=ae
 generalize upd H2 pd (.dK (bw [] (kh H xf)))=H3 at sd G9
 have Gp:∀f u,cP (kvsOf H xf) (Sum.inr f)=some u->∃n:Int,u=.int n:=λf u e=>((G8 H xf).merge (λ_ h=>by simp at h)).val e
 have nb:=Ba fB iV
 have nl:=Ba dY iW
 have OJ:(aB H xb).length=xb.length:=List.length_map _
 have OK:(aB H xl).length=xl.length:=List.length_map _
 unfold eG at q1 q2
 refine⟨_,rfl,fa,rfl,⟨_,aR.of (sd _ _ yI)⟩,fz (xs:=xf) (λi σ H'=>∃x6 x7,σ = [some (.ref a),some (.ref ba),some (.ref la),some (.ref fa),some r,some (.ref pd),x6,x7]/\ax H3 H'/\(xf.take i).all (i9 H xb xl xf)=true) ⟨_,_,rfl,ax.refl H3,rfl⟩ ?_ ?_ ?_⟩
 ·rintro i σ H' _ ⟨x6,x7,rfl,s4,_⟩
  exact aR.of (s4 _ _ (sd _ _ yI))
 ·rintro i v σ H4 gm ⟨x6,x7,rfl,s4,dj⟩
  have jf:=sd.trans s4
  have pU:=List.mem_of_getElem? gm
  obtain⟨b,pa,oa,ra,y,ps,os,rs,rfl,hb,_,hp,ho,gp,lp,lo,np,no⟩:=dI (List.all_eq_true.mp gC v pU)
  have eo:=dU hb hp ho
  have e4:dN H (.ref b)=.ref ra:=by unfold dN;rw [ak hb]
  refine⟨_,rfl,ba,xb,rfl,jf _ _ Sj,by omega,λx hx=>?_,λu1 H5 md s5 h5=>?_⟩
  ·obtain⟨c,y,ys,e,hc,_⟩:=fB (List.all_eq_true.mp iV x hx)
   exact⟨c,_,_,e,jf _ _ hc⟩
  rw [dZ jf vO,fC fB iV] at h5
  have j6:=jf.trans s5
  refine⟨_,rfl,b,pa,oa,_,_,_,_,rfl,j6 _ _ hb,j6 _ _ hp,j6 _ _ ho,by rw [List.length_map];omega,by rw [List.length_map];omega,λu2 H6 kN s6 h6=>?_⟩
  have ky:=j6.trans s6
  refine⟨u1,u2,_,_,rfl,rfl,s6 _ _ h5,h6,by rw [List.length_append,List.length_map,List.length_map,List.length_map];omega,λu3 oO=>?_⟩
  have s7:=ah oO (.lst ((aB H xb).map V.str++(ps.map V.str++os.map V.str)))
  have h7:upd H6 u3 (.lst ((aB H xb).map V.str++(ps.map V.str++os.map V.str))) u3=some (.lst ((aB H xb++iX H (.ref b)).map V.str)):=by rw [ae,eo,List.map_append,List.map_append]
  generalize upd H6 u3 (.lst ((aB H xb).map V.str++(ps.map V.str++os.map V.str)))=H7 at s7 h7
  have oZ:=ky.trans s7
  refine⟨_,rfl,la,xl,rfl,oZ _ _ Sl,by omega,λx hx=>?_,λu4 H8 KR s8 h8=>?_⟩
  ·obtain⟨c,y,ys,e,hc,_⟩:=dY (List.all_eq_true.mp iW x hx)
   exact⟨c,_,_,e,oZ _ _ hc⟩
  rw [dZ oZ vP,fC dY iW] at h8
  have zJ:=oZ.trans s8
  refine⟨_,rfl,λsc dx uf KQ ne=>⟨sc,dx,u3,u4,pd,true,rfl,ae,rfl,?_⟩⟩
  rw [iH]
  have s9:=pX (C:=CS) (fs:=sf u3 u4 pd true) uf KQ ne
  have hS:tG CS (upd (upd H8 dx (.own sc)) sc (.ins CS dx (sf u3 u4 pd true))) sc (aB H xb++iX H (.ref b)) (aB H xl) (kvsOf H xf) true:=
   ⟨⟨dx,u3,u4,pd,ae,s9 _ _ (s8 _ _ h7),s9 _ _ h8,s9 _ _ (s8 _ _ (s7 _ _ (s6 _ _ (s5 _ _ (s4 _ _ G9)))))⟩,λx hx=>by
    rcases List.mem_append.mp hx with h|h
    ·exact nb x h
    ·rw [eo] at h
     rcases List.mem_append.mp h with h|h
     ·exact np x h
     ·exact no x h,nl,Gp⟩
  generalize upd (upd H8 dx (.own sc)) sc (.ins CS dx (sf u3 u4 pd true))=H9 at s9 hS
  have xu:=zJ.trans s9
  obtain⟨mb,Va⟩:=(vR _ pU).parts hb
  have KS:=Va (.ref ra) (by simp)
  refine⟨_,rfl,b,_,3,_,rfl,rfl,aR.of (xu _ _ hb),au (j:=3) rfl,_,rfl,.ref ra,sc,1,p,mb,_,_,_,true,rfl,by decide,KS.same xu,hS,λpb lR=>⟨_,rfl,?_⟩⟩
  have er:bM H9 (bU H9 (aB H xb++iX H (.ref b)) (aB H xl) (kvsOf H xf) true 5) (.ref ra)=i9 H xb xl xf (.ref b):=by
   unfold i9
   rw [e4]
   exact fJ xu KS λm z hz=>dq xu hz
  rw [er]
  cases c:i9 H xb xl xf (.ref b) with
  |false=>
   rw [jM pU c] at q2
   exact dQ rfl (q2 rfl pb (xu.trans lR))
  |true=>exact dM rfl ⟨_,_,rfl,s4.trans (s5.trans (s6.trans (s7.trans (s8.trans (s9.trans lR))))),iC gm dj c⟩
 ·rintro σ H4 ⟨x6,x7,rfl,s4,dj⟩
  rw [List.take_length] at dj
  rw [dj,Bool.true_and] at q1 q2
  have jf:=sd.trans s4
  refine⟨_,rfl,_,rfl,ba,xb,rfl,jf _ _ Sj,by omega,λx hx=>?_,λu1 H5 md s5 h5=>?_⟩
  ·obtain⟨c,y,ys,e,hc,_⟩:=fB (List.all_eq_true.mp iV x hx)
   exact⟨c,_,_,e,jf _ _ hc⟩
  rw [dZ jf vO,fC fB iV] at h5
  have j6:=jf.trans s5
  refine⟨_,rfl,la,xl,rfl,j6 _ _ Sl,by omega,λx hx=>?_,λu4 H8 KR s8 h8=>?_⟩
  ·obtain⟨c,y,ys,e,hc,_⟩:=dY (List.all_eq_true.mp iW x hx)
   exact⟨c,_,_,e,j6 _ _ hc⟩
  rw [dZ j6 vP,fC dY iW] at h8
  have zJ:=j6.trans s8
  refine⟨_,rfl,λsc dx uf KQ ne=>⟨sc,dx,u1,u4,pd,false,rfl,ae,rfl,?_⟩⟩
  rw [iH]
  have s9:=pX (C:=CS) (fs:=sf u1 u4 pd false) uf KQ ne
  have hS:tG CS (upd (upd H8 dx (.own sc)) sc (.ins CS dx (sf u1 u4 pd false))) sc (aB H xb) (aB H xl) (kvsOf H xf) false:=
   ⟨⟨dx,u1,u4,pd,ae,s9 _ _ (s8 _ _ h5),s9 _ _ h8,s9 _ _ (s8 _ _ (s5 _ _ (s4 _ _ G9)))⟩,nb,nl,Gp⟩
  generalize upd (upd H8 dx (.own sc)) sc (.ins CS dx (sf u1 u4 pd false))=H9 at s9 hS
  have xu:=zJ.trans s9
  refine⟨r,sc,1,p,n,_,_,_,false,rfl,by decide,xt.same xu,hS,λpb lR=>⟨_,rfl,?_⟩⟩
  have er:bM H9 (bU H9 (aB H xb) (aB H xl) (kvsOf H xf) false 5) r=bM H (bU H (aB H xb) (aB H xl) (kvsOf H xf) false 5) r:=fJ xu xt λm z hz=>dq xu hz
  rw [er]
  cases c:bM H (bU H (aB H xb) (aB H xl) (kvsOf H xf) false 5) r with
  |false=>exact dQ rfl (q2 c pb (xu.trans lR))
  |true=>exact dM rfl (q1 c pb (xu.trans lR))
end
def total(H:Hp)(f r:V):Nat:=gI H (aY H f)+cnt H 5 (aY H r)
def verdict(H:Hp)(b l f r:V):Nat:=
 if eE H b l=false then 1 else if dm H (aB H (aY H b)++aB H (aY H l)) f=false then 1 else if bb H r=none then 1 else
 if eG H (aY H b) (aY H l) (aY H f) r=false then 2 else if 60<total H f r then 3 else 0
theorem qW{H H':Hp}(t:TK H H'):∀{fs:List V},(∀f∈fs,vQ H f)->gI H' fs=gI H fs
 | [],_=>rfl
 |f::r,h=>by
  obtain⟨a,ra,x,y,z,rs,rfl,ha,gp,Fc⟩:=h f List.mem_cons_self
  show ((V.ref a::r).map λf=>1+cnt H' 5 (hV H' f)).sum=((V.ref a::r).map λf=>1+cnt H 5 (hV H f)).sum
  rw [List.map_cons,List.map_cons,List.sum_cons,List.sum_cons,jz ha gp,jz (t _ _ ha) (t _ _ gp),hU t Fc]
  have:=qW t (fs:=r) λy hy=>h y (List.mem_cons_of_mem _ hy)
  unfold gI at this
  rw [this]
theorem vQ.tk{H H':Hp}(t:TK H H'){v:V}(h:vQ H v):vQ H' v:=by
 obtain⟨a,ra,x,y,z,rs,rfl,ha,gp,Fc⟩:=h
 exact⟨a,ra,x,y,z,rs,rfl,t _ _ ha,t _ _ gp,λu hu=>(Fc u hu).tk t⟩
theorem mi{p:Addr}{H H':Hp}{n:Nat}{xb xl xf:List V}{r:V}(s:ax H H')(vO:∀x∈xb,Dt p H n x)(vP:∀x∈xl,Dt p H n x)(vR:∀x∈xf,Dt p H n x)(gC:xf.all (dy H)=true)(hr:Dt p H n r) :
  eG H' xb xl xf r=eG H xb xl xf r:=by
 have nms:∀{xs:List V},(∀x∈xs,Dt p H n x)->aB H' xs=aB H xs:=λ{xs} hx=>List.map_congr_left λx hm=>by unfold cg;rw [bj s (hx x hm)]
 have OR:kh H' xf=kh H xf:=List.map_congr_left λf hf=>by
  obtain⟨b,pa,oa,ra,y,ps,os,rs,rfl,hb,_,hp,ho,gp,_⟩:=dI (List.all_eq_true.mp gC f hf)
  have e1:cg H (.ref b)=.str y:=by unfold cg;rw [ak hb]
  have e2:cg H' (.ref b)=.str y:=by unfold cg;rw [ak (s _ _ hb)]
  rw [e1,e2,kW hb hp,kW (s _ _ hb) (s _ _ hp)]
 have hk:kvsOf H' xf=kvsOf H xf:=by unfold kvsOf;rw [OR]
 unfold eG
 rw [nms vO,nms vP,hk]
 rw [fJ s hr λm z hz=>dq s hz]
 congr 1
 refine all_congr λf hf=>?_
 obtain⟨b,pa,oa,ra,y,ps,os,rs,rfl,hb,_,hp,ho,gp,_⟩:=dI (List.all_eq_true.mp gC f hf)
 unfold i9
 rw [nms vO,nms vP,hk,dU hb hp ho,dU (s _ _ hb) (s _ _ hp) (s _ _ ho)]
 have e1:dN H (.ref b)=.ref ra:=by unfold dN;rw [ak hb]
 have e2:dN H' (.ref b)=.ref ra:=by unfold dN;rw [ak (s _ _ hb)]
 rw [e1,e2]
 obtain⟨m,hx⟩:=(vR _ hf).parts hb
 exact fJ s (hx _ (by simp)) λm z hz=>dq s hz
theorem iY{p:Addr}{H:Hp}{n:Nat}{a:Addr}{rs:List V}{bs ls:List Str}{kvs:gJ}{r:Bool}(hD:Dt p H n (.ref a))(ha:H a=some (.tup rs))(h:bM H (bU H bs ls kvs r 5) (.ref a)=true):∀u∈rs,jZ H 5 u:=by
 obtain⟨m,hx⟩:=hD.parts ha
 unfold bM at h
 rw [ak ha] at h
 exact λu hu=>mT (hx u hu) (List.all_eq_true.mp h u hu)
section
variable {P:Program} {w:World} {K:PySem.W.Frag} {mg:Str->Option Value} {base:Heap} {CS:Addr}
theorem xv:aO ["boxes","lists","functions","rows","program"] ["boxes","lists","functions","rows"] (ao (top 41)):=⟨rfl,rfl,rfl,by decide +kernel,rfl,by decide +kernel,by decide +kernel⟩
def Bg(C1 C2 C3:Addr):Sp:=λvs H Q E=>∃(b l f r:V) (p:Addr) (n:Nat),vs = [b,l,f,r]/\Dt p H n b/\Dt p H n l/\Dt p H n f/\Dt p H n r/\total H f r<=1000000 /\
 (verdict H b l f r=0->∀t H',ax H H'->H t=none->H' t=some (.tup [b,l,f,r])->Q (.ref t) H')/\(verdict H b l f r=1->∀H',ax H H'->E (.ref C1) none H') /\
 (verdict H b l f r=2->∀H',ax H H'->E (.ref C2) none H')/\(verdict H b l f r=3->∀H',ax H H'->E (.ref C3) none H')
theorem Hc{C1 C2 C3:Addr}(T:Txt w K mg)(cL:mg "NoProgram"=some (.ref C1))(dA:qC K C1)(lS:mg "TooLong"=some (.ref C3))(yZ:qC K C3)
  (kX:lL P w K mg base 6 "check_variables" ["boxes","lists"] (Bb C1)) (kY:lL P w K mg base 5 "check_functions" ["functions","taken"] (Bd C1)) (qX:lL P w K mg base 27 "check_rows" ["program"] (xp C2))
  (cO:Def P w K mg base 1 "names_of" ["things"] iz) (lT:Def P w K mg base 8 "rows_of" ["program"] tN)
  (S:Src K mg "program_of" (top 41) ["boxes","lists","functions","rows"]):lL P w K mg base 28 "program_of" ["boxes","lists","functions","rows"] (Bg C1 C2 C3):=by
 obtain⟨tm,oB⟩:=T.Kw
 refine S.Mr xv (λvs H Q E h=>?_) (λf0 cD A outer s H vs Q E hr h=>?_)
 ·obtain⟨b,l,f,r,p,n,rfl,_⟩:=h;rfl
 obtain⟨b,l,f,r,p,n,rfl,hb,hl,hf,xt,hB,q0,q1,q2,q3⟩:=h
 refine⟨_,(ai (eI (mP (kX.mono (by decide)) hr (kP.pass fY fZ) rfl (aq (pv 0) (aq (pv 1) aa))))
   (ai (eI (mP (kY.mono (by decide)) hr (kP.pass fY fZ) rfl (aq (pv 2) (aq (aU dE (aw (cO.mono (by decide)) hr rfl (aq (pv 0) aa)) (aw (cO.mono (by decide)) hr rfl (aq (pv 1) aa))) aa))))
   (ai (aX (bh (bf (aW bu rfl T.aH aE (aq (pv 3) (aq (dw T.cm bL rfl) aa)))))
   (aj (fk fY fZ rfl rfl cL dA aD)) aI)
   (ai (aS (i:=4) xv.nd rfl (Or.inl rfl) (aA (aq (pv 0) (aq (pv 1) (aq (pv 2) (aq (pv 3) aa))))))
   (ai (eI (mP (qX) hr (kP.pass fY fZ) rfl (aq (pv 4) aa)))
   (ai (aX (aQ lW (aW aN rfl T.cH bO (aq (aw (lT.mono (by decide)) hr rfl (aq (pv 4) aa)) aa)) (br (v:=.int (60)) rfl oB ⟨_,rfl⟩) (aP _))
   (aj (fk fY fZ rfl rfl lS yZ aD)) aI)
   (aj (aC (pv 4))))))))),?_⟩
 try dsimp only [gQ]
 have l3:(1000100:Nat)<sizeLine:=by rw [sizeLine_eq];decide
 unfold verdict at q0 q1 q2 q3
 refine⟨_,rfl,_,rfl,b,l,p,n,rfl,hb,hl,λv1 H1 s1=>?_,λv1 H1 s1=>q1 (by rw [if_pos v1]) H1 s1⟩
 rw [if_neg (by rw [v1];exact Bool.noConfusion)] at q0 q1 q2 q3
 have DN:=v1
 unfold eE at DN
 rw [Bool.and_eq_true,Bool.and_eq_true] at DN
 obtain⟨ab,xb,rfl,xm,tb,lb,iV⟩:=bW DN.1
 obtain⟨al,xl,rfl,xn,tl,ll,iW⟩:=bW DN.2.1
 rw [tb,tl] at q0 q1 q2 q3
 obtain⟨mb,vO⟩:=hb.parts xm
 obtain⟨ml,vP⟩:=hl.parts xn
 refine⟨_,rfl,_,rfl,ab,xb,rfl,s1 _ _ xm,by omega,λx hx=>?_,λu1 H2 md s2 h2=>?_⟩
 ·obtain⟨c,y,ys,e,hc,_⟩:=fB (List.all_eq_true.mp iV x hx)
  exact⟨c,_,_,e,s1 _ _ hc⟩
 rw [dZ s1 vO,fC fB iV] at h2
 have ui:=s1.trans s2
 refine⟨_,rfl,al,xl,rfl,ui _ _ xn,by omega,λx hx=>?_,λu2 H3 kN s3 h3=>?_⟩
 ·obtain⟨c,y,ys,e,hc,_⟩:=dY (List.all_eq_true.mp iW x hx)
  exact⟨c,_,_,e,ui _ _ hc⟩
 rw [dZ ui vP,fC dY iW] at h3
 have qY:=ui.trans s3
 have OJ:(aB H xb).length=xb.length:=List.length_map _
 have OK:(aB H xl).length=xl.length:=List.length_map _
 refine⟨u1,u2,_,_,rfl,rfl,s3 _ _ h2,h3,by rw [List.length_map,List.length_map];omega,λu3 oO=>?_⟩
 have s4:=ah oO (.lst ((aB H xb).map V.str++(aB H xl).map V.str))
 have h4:upd H3 u3 (.lst ((aB H xb).map V.str++(aB H xl).map V.str)) u3=some (.lst ((aB H xb++aB H xl).map V.str)):=by rw [ae,List.map_append]
 generalize upd H3 u3 (.lst ((aB H xb).map V.str++(aB H xl).map V.str))=H4 at s4 h4
 have jf:=qY.trans s4
 have eF:dm H4 (aB H xb++aB H xl) f=dm H (aB H xb++aB H xl) f:=by
  unfold dm
  have e1:aV H4 4 dy f=aV H 4 dy f:=gR jL jf hf
  have e2:aY H4 f=aY H f:=by unfold aY;rw [bj jf hf]
  rw [e1,e2]
  cases c:aV H 4 dy f with
  |false=>rfl
  |true=>
   obtain⟨af,xf,rfl,rF,tf,lf,gC⟩:=bW c
   rw [tf]
   obtain⟨mf,vR⟩:=hf.parts rF
   have e3:aB H4 xf=aB H xf:=List.map_congr_left λx hm=>by unfold cg;rw [bj jf (vR x hm)]
   rw [e3]
   congr 1
   congr 1
   refine all_congr λg hg=>?_
   obtain⟨b',pa,oa,ra,y,ps,os,rs,rfl,eN,_,hp,ho,_⟩:=dI (List.all_eq_true.mp gC g hg)
   rw [dU eN hp ho,dU (jf _ _ eN) (jf _ _ hp) (jf _ _ ho)]
 refine⟨f,u3,aB H xb++aB H xl,p,n,rfl,h4,by rw [List.length_append];omega,hf.same jf,λv2 H5 s5=>?ok2,λv2 H5 s5=>?bad2⟩
 case bad2=>
  rw [eF] at v2
  exact q1 (by rw [if_pos v2]) H5 (jf.trans s5)
 rw [eF] at v2
 rw [if_neg (by rw [v2];exact Bool.noConfusion)] at q0 q1 q2 q3
 have j6:=jf.trans s5
 have He:=v2
 unfold dm at He
 rw [Bool.and_eq_true,Bool.and_eq_true] at He
 obtain⟨af,xf,rfl,rF,tf,lf,gC⟩:=bW He.1
 rw [tf] at q0 q1 q2 q3
 obtain⟨mf,vR⟩:=hf.parts rF
 obtain⟨t,ty,⟨mr,ar,xr,_,rfl,rfl,Bh,lr,Sn⟩|⟨Vb,Vc⟩⟩:=(xt.same j6).cS
 case inr=>
  refine⟨_,rfl,_,"tuple",_,rfl,ty,by simp,_,rfl,dQ (by rw [Vb];rfl) (q1 ?_ H5 j6)⟩
  rw [if_pos (by rw [<-bj j6 xt];exact Vc)]
 refine⟨_,rfl,_,"tuple",_,rfl,ty,by simp,_,rfl,dM (by decide) ?_⟩
 have Bi:bb H (.ref ar)=some xr:=by rw [<-bj j6 xt,ak Bh]
 rw [if_neg (by rw [Bi];exact Option.some_ne_none _)] at q0 q1 q2 q3
 have tr:aY H (.ref ar)=xr:=by unfold aY;rw [Bi];rfl
 obtain⟨_,e,KU⟩:=dS Bi
 cases e
 refine⟨_,rfl,_,rfl,_,rfl,_,rfl,(by show 4<=sizeLine;omega),λpr sJ=>?_⟩
 have s6:=ah sJ (.tup [.ref ab,.ref al,.ref af,.ref ar])
 have h6:upd H5 pr (.tup [.ref ab,.ref al,.ref af,.ref ar]) pr=some (.tup [.ref ab,.ref al,.ref af,.ref ar]):=ae
 generalize upd H5 pr (.tup [.ref ab,.ref al,.ref af,.ref ar])=H6 at s6 h6
 have ky:=j6.trans s6
 have up:∀{x:V} {m:Nat},Dt p H m x->Dt p H6 (max mb (max ml (max mf n))) x->True:=λ_ _=>trivial
 have KW:∀x∈xb,Dt p H (mb+ml+mf+n) x:=λx hx=>(vO x hx).up (by omega)
 have KY:∀x∈xl,Dt p H (mb+ml+mf+n) x:=λx hx=>(vP x hx).up (by omega)
 have KZ:∀x∈xf,Dt p H (mb+ml+mf+n) x:=λx hx=>(vR x hx).up (by omega)
 have K0:Dt p H (mb+ml+mf+n) (.ref ar):=xt.up (by omega)
 have eR:=mi ky KW KY KZ gC K0
 refine⟨_,rfl,pr,ab,al,af,.ref ar,xb,xl,xf,p,mb+ml+mf+n,rfl,h6,ky _ _ xm,ky _ _ xn,ky _ _ rF,lb,ll,lf,
  by rw [all_congr λx hx=>mS ky (vO x hx)];exact iV,by rw [all_congr λx hx=>iB ky (vP x hx)];exact iW,by rw [all_congr λx hx=>jL ky (vR x hx)];exact gC,
  λx hx=>(KW x hx).same ky,λx hx=>(KY x hx).same ky,λx hx=>(KZ x hx).same ky,K0.same ky,λv3 H7 s7=>?ok3,λv3 H7 s7=>?bad3⟩
 case bad3=>
  rw [eR] at v3
  exact q2 (by rw [if_pos v3]) H7 (ky.trans s7)
 rw [eR] at v3
 rw [if_neg (by rw [v3];exact Bool.noConfusion)] at q0 q1 q2 q3
 have oZ:=ky.trans s7
 have IQ:=TK.of oZ
 unfold eG at v3
 rw [Bool.and_eq_true] at v3
 have IS:∀g∈xf,vQ H g:=λg hg=>by
  obtain⟨b',pa,oa,ra,y,ps,os,rs,rfl,eN,_,hp,ho,gp,_⟩:=dI (List.all_eq_true.mp gC g hg)
  have e4:dN H (.ref b')=.ref ra:=by unfold dN;rw [ak eN]
  have jX:=List.all_eq_true.mp v3.1 _ hg
  unfold i9 at jX
  rw [e4] at jX
  obtain⟨m',EW⟩:=(vR _ hg).parts eN
  exact⟨b',ra,_,_,_,rs,rfl,eN,gp,iY (EW _ (by simp)) gp jX⟩
 have MI:∀u∈xr,jZ H 5 u:=iY xt KU v3.2
 unfold total at hB q0 q3
 rw [tf,tr] at hB q0 q3
 have ec:gI H7 xf+cnt H7 5 xr=gI H xf+cnt H 5 xr:=by rw [qW IQ IS,hU IQ MI]
 refine⟨_,rfl,pr,af,ar,.ref ab,.ref al,xf,xr,rfl,s7 _ _ h6,oZ _ _ rF,oZ _ _ KU,λg hg=>(IS g hg).tk IQ,λu hu=>(MI u hu).tk IQ,by rw [ec];exact hB,λH8 t us s8 ht h8 Vd=>?_⟩
 rw [ec] at Vd
 refine⟨t,us,rfl,.inl (bX.of h8),_,_,rfl,rfl,_,rfl,bZ (λc=>?_) (λc=>?_)⟩
 ·have c':=of_decide_eq_true c
  have:60<gI H xf+cnt H 5 xr:=by omega
  exact q3 (by rw [if_pos this]) H8 (oZ.trans s8)
 ·have c':=of_decide_eq_false (Bool.eq_false_iff.mpr c)
  have : ¬ 60<gI H xf+cnt H 5 xr:=by omega
  exact⟨_,rfl,q0 (by rw [if_neg this]) pr H8 (oZ.trans s8) (j6.free sJ) (s8 _ _ (s7 _ _ h6))⟩
end
structure One (K:PySem.W.Frag) (R C:Addr) (Cs:List Addr) (bs:List Bool):Prop where
 exc:qC K C
 at_:ExcAt K C
 cl:(PySem.W.clsIn K C).isSome=true
 sub:PySem.W.subIn K (.ref C) (.ref R)=some true
 kv:PySem.W.kitOne K (.ref C) (.type "ValueError")=some true
 is:Paired (λD b=>PySem.W.kitOne K (.ref C) (.ref D)=some b) Cs bs
structure MJ (K:PySem.W.Frag) (mg:Str->Option Value) (R C1 C2 C3 C4 C5 C6 C7 C8 C9:Addr):Prop where
 m0:mg "RunError"=some (.ref R)
 m1:mg "NoProgram"=some (.ref C1)
 m2:mg "NoRow"=some (.ref C2)
 m3:mg "TooLong"=some (.ref C3)
 m4:mg "NoWorld"=some (.ref C4)
 m5:mg "NoText"=some (.ref C5)
 m6:mg "NoStep"=some (.ref C6)
 m7:mg "NoCell"=some (.ref C7)
 m8:mg "NoDoor"=some (.ref C8)
 m9:mg "NoWord"=some (.ref C9)
 hit:Gy K R
 o1:One K R C1 [C1,C2,C3,C4,C5,C6,C7,C8,C9] [true,false,false,false,false,false,false,false,false]
 o2:One K R C2 [C1,C2,C3,C4,C5,C6,C7,C8,C9] [false,true,false,false,false,false,false,false,false]
 o3:One K R C3 [C1,C2,C3,C4,C5,C6,C7,C8,C9] [false,false,true,false,false,false,false,false,false]
theorem pe:bootBuiltins "ValueError"=some (.type "ValueError"):=by decide +kernel
section
variable {P:Program} {w:World} {K:PySem.W.Frag} {mg:Str->Option Value} {base:Heap} {R dB gT fg iD jA jB jC jD jE:Addr}
theorem kZ:aO ["_law_e","_law_found","_law_kind_here"] ["_law_e"] (ao (top 76)):=⟨rfl,rfl,rfl,by decide +kernel,rfl,by decide +kernel,by decide +kernel⟩
def xy(C1 C2 C3:Addr):Addr->Addr->Sp:=λa C vs H Q _=>vs = [.ref a]/\((C=C1/\∀H',ax H H'->Q (.str "program") H')\/(C=C2/\∀H',ax H H'->Q (.str "row") H')\/(C=C3/\∀H',ax H H'->Q (.str "long") H'))
theorem xB{a fd t:Addr}{H H0:Hp}{bs cs:List Bool}(IT:H fd=none)(s0:ax H H0)(hf:H0 fd=some (.lst (cs.map V.bl)))(ht:H0 t=some (.tup (bs.map V.bl)))(Mp:t≠fd)(hl:bs.length+cs.length<=100){D:Ends}{x0:Option V}
  (h:∀(x2:Option V) (H':Hp),ax H H'->H' fd=some (.lst ((cs++bs).map V.bl))->D.nx [some (.ref a),some (.ref fd),x2] H') :
  ∃W:Nat->Nat->St->Hp->Prop,(∃m,W 0 m [some (.ref a),some (.ref fd),x0] H0)/\∀i m σ H,W i m σ H ->
   ((wB K t).stop i H/\D.nx σ H)\/((wB K t).go i H/\∃N:St->Hp->Prop,(∀σ' H',N σ' H'->∃m',m'<m/\W (i+1) m' σ' H')/\∀x H',(wB K t).rM i H x H'->fK 2 x σ H' λσ2 H2=>
    EL (NB K "list" wM (bQ 1) (bD (bQ 2) fE)) {D with nx:=N,ct:=N,bk:=D.nx} σ2 H2):=by
 refine fz (xs:=bs.map V.bl) (λi σ H'=>∃x2,σ = [some (.ref a),some (.ref fd),x2]/\ax H H'/\H' fd=some (.lst ((cs++bs.take i).map V.bl))/\H' t=some (.tup (bs.map V.bl))) ⟨x0,rfl,s0,by rw [List.take_zero,List.append_nil];exact hf,ht⟩
  (λi σ H' _ q=>by obtain⟨_,_,_,_,q⟩:=q;exact aR.of q) ?_ ?_
 ·rintro i x σ H' hx ⟨x2,rfl,s1,yE,wO⟩
  rw [List.getElem?_map] at hx
  cases hb:bs[i]? with
  |none=>rw [hb] at hx;cases hx
  |some b=>
   rw [hb] at hx
   cases hx
   have hi:=(List.getElem?_eq_some_iff.mp hb).1
   refine⟨_,rfl,.inl ⟨rfl,_,bX.of yE⟩,_,rfl,fd,_,_,rfl,rfl,yE,?_,?_⟩
   ·rw [List.length_map,List.length_append,List.length_take]
    exact Nat.lt_of_le_of_lt (show _<=100 by omega) (by decide)
   ·refine⟨_,rfl,λb' o eN=>?_,?_,?_⟩
    ·rw [aK (aL eN IT)];exact s1 _ _ eN
    ·rw [ae,List.take_add_one,hb,<-List.append_assoc]
     show some (HO.lst ((cs++bs.take i).map V.bl ++ [V.bl b]))=some (HO.lst ((cs++bs.take i ++ [b]).map V.bl))
     rw [List.map_append (l₁:=cs++bs.take i)]
     rfl
    ·rw [aK Mp];exact wO
 ·rintro σ H' ⟨x2,rfl,s1,yE,_⟩
  rw [List.length_map,List.take_length] at yE
  exact h x2 H' s1 yE
theorem nine{R:Addr->Bool->Prop}{a1 a2 a3 a4 a5 a6 a7 a8 a9:Addr}{b1 b2 b3 b4 b5 b6 b7 b8 b9:Bool}(h:Paired R [a1,a2,a3,a4,a5,a6,a7,a8,a9] [b1,b2,b3,b4,b5,b6,b7,b8,b9]) :
  R a1 b1/\R a2 b2/\R a3 b3/\R a4 b4/\R a5 b5/\R a6 b6/\R a7 b7/\R a8 b8/\R a9 b9:=by
 cases h with
 |cons r1 h=>cases h with
 |cons r2 h=>cases h with
 |cons r3 h=>cases h with
 |cons r4 h=>cases h with
 |cons r5 h=>cases h with
 |cons r6 h=>cases h with
 |cons r7 h=>cases h with
 |cons r8 h=>cases h with
 |cons r9 h=>exact⟨r1,r2,r3,r4,r5,r6,r7,r8,r9⟩
theorem DO(T:Txt w K mg)(Z:MJ K mg R dB gT fg iD jA jB jC jD jE)(S:Src K mg "_law_class" (top 76) ["_law_e"]):vn P w K mg base 1 "_law_class" ["_law_e"] (xy dB gT fg):=by
 have cL:=Z.m1
 have mW:=Z.m2
 have lS:=Z.m3
 have y6:=Z.m4
 have Bj:=Z.m5
 have Bl:=Z.m6
 have Bm:=Z.m7
 have Bn:=Z.m8
 have Bo:=Z.m9
 refine S.UR kZ (λa C vs H Q E h=>?_) (λf0 cD A outer s H vs Q a C t0 Om hr h hh=>?_)
 ·obtain⟨rfl,_⟩:=h;rfl
 obtain⟨rfl,h⟩:=h
 have hO:∃(b1 b2 b3:Bool) (wd:Str),One K R C [dB,gT,fg,iD,jA,jB,jC,jD,jE] [b1,b2,b3,false,false,false,false,false,false] /\
   ((b1=true/\b2=false/\b3=false/\wd="program")\/(b1=false/\b2=true/\b3=false/\wd="row")\/(b1=false/\b2=false/\b3=true/\wd="long"))/\∀H',ax H H'->Q (.str wd) H':=by
  rcases h with ⟨eC,q⟩|⟨eC,q⟩|⟨eC,q⟩
  ·exact⟨_,_,_,_,eC▸Z.o1,.inl ⟨rfl,rfl,rfl,rfl⟩,q⟩
  ·exact⟨_,_,_,_,eC▸Z.o2,.inr (.inl ⟨rfl,rfl,rfl,rfl⟩),q⟩
  ·exact⟨_,_,_,_,eC▸Z.o3,.inr (.inr ⟨rfl,rfl,rfl,rfl⟩),q⟩
 obtain⟨b1,b2,b3,wd,O,hB,q⟩:=hO
 obtain⟨k1,k2,k3,k4,k5,k6,k7,k8,k9⟩:=nine O.is
 have F:=O.at_
 have hc:=O.cl
 refine⟨_,(ai (aS (i:=1) kZ.nd rfl (Or.inl rfl) (bN aa))
   (ai (wW hh PassesOwn.never (aA (aq (aW (ek hh F hc) rfl T.aH aE (aq (pv 0) (aq (br (v:=.ref dB) rfl cL rfl) aa))) (aq (aW (ek hh F hc) rfl T.aH aE (aq (pv 0) (aq (br (v:=.ref gT) rfl mW rfl) aa))) (aq (aW (ek hh F hc) rfl T.aH aE (aq (pv 0) (aq (br (v:=.ref fg) rfl lS rfl) aa))) (aq (aW (ek hh F hc) rfl T.aH aE (aq (pv 0) (aq (br (v:=.ref iD) rfl y6 rfl) aa))) aa))))) (aM (i:=2) kZ.nd rfl (Or.inl rfl))
   (aj (eI (j3 PySem.F.plainAttrs_list PySem.F.slot_list_append PySem.F.type_list_append fM (pv 1) (aq (pv 2) aa)))))
   (ai (wW hh PassesOwn.never (aA (aq (aW (ek hh F hc) rfl T.aH aE (aq (pv 0) (aq (br (v:=.ref jA) rfl Bj rfl) aa))) (aq (aW (ek hh F hc) rfl T.aH aE (aq (pv 0) (aq (br (v:=.ref jB) rfl Bl rfl) aa))) (aq (aW (ek hh F hc) rfl T.aH aE (aq (pv 0) (aq (br (v:=.ref jC) rfl Bm rfl) aa))) (aq (aW (ek hh F hc) rfl T.aH aE (aq (pv 0) (aq (br (v:=.ref jD) rfl Bn rfl) aa))) aa))))) (aM (i:=2) kZ.nd rfl (Or.inl rfl))
   (aj (eI (j3 PySem.F.plainAttrs_list PySem.F.slot_list_append PySem.F.type_list_append fM (pv 1) (aq (pv 2) aa)))))
   (ai (eI (j3 PySem.F.plainAttrs_list PySem.F.slot_list_append PySem.F.type_list_append fM (pv 1) (aq (aW (ek hh F hc) rfl T.aH aE (aq (pv 0) (aq (br (v:=.ref jE) rfl Bo rfl) aa))) aa)))
   (ai (aX (cN (PW.pt (dX (bh (bf (aW (ek hh F hc) rfl T.aH aE (aq (pv 0) (aq (dw T.qG pe rfl) aa))))) (dG (aQ ji (j3 PySem.F.plainAttrs_list PySem.F.slot_list_count PySem.F.type_list_count yK (pv 1) (bq [.bl true] (by rfl))) ag (aP _))))))
   (aj (aC aD)) aI)
   (aj (aC (aJ cU (bN (bq [.str "program",.str "row",.str "long",.str "world",.str "text",.str "step",.str "cell",.str "door",.str "word"] (by rfl))) (j3 PySem.F.plainAttrs_list PySem.F.slot_list_index PySem.F.type_list_index yL (pv 1) (bq [.bl true] (by rfl))) (λ_ _=>rfl))))))))),?_⟩
 try dsimp only [gQ]
 refine⟨(by show 0<=sizeLine;decide),λfd IT=>?_⟩
 have s0:=ah IT (.lst [])
 refine⟨_,rfl,_,_,_,rfl,.inl ⟨_,rfl,rfl⟩,k1,_,rfl,_,_,_,rfl,.inl ⟨_,rfl,rfl⟩,k2,_,rfl,_,_,_,rfl,.inl ⟨_,rfl,rfl⟩,k3,_,rfl,_,_,_,rfl,.inl ⟨_,rfl,rfl⟩,k4,(by show 4<=sizeLine;decide),λt ht=>?_⟩
 have ne1:t≠fd:=λz=>by rw [z,ae] at ht;cases ht
 refine⟨t,rfl,⟨_,aR.of ae⟩,xB (bs:= [b1,b2,b3,false]) (cs:= []) IT (s0.trans (ah ht _)) (by rw [aK (Ne.symm ne1)];exact ae) ae ne1 (by show 4<=100;decide) (λx2 H1 s1 yE=>?_)⟩
 refine⟨_,rfl,_,_,_,rfl,.inl ⟨_,rfl,rfl⟩,k5,_,rfl,_,_,_,rfl,.inl ⟨_,rfl,rfl⟩,k6,_,rfl,_,_,_,rfl,.inl ⟨_,rfl,rfl⟩,k7,_,rfl,_,_,_,rfl,.inl ⟨_,rfl,rfl⟩,k8,(by show 4<=sizeLine;decide),λt' OS=>?_⟩
 have ne2:t'≠fd:=λz=>by rw [z,yE] at OS;cases OS
 refine⟨t',rfl,⟨_,aR.of ae⟩,xB (bs:= [false,false,false,false]) (cs:= [b1,b2,b3,false]) IT (s1.trans (ah OS _)) (by rw [aK (Ne.symm ne2)];exact yE) ae ne2 (by show 8<=100;decide) (λx3 H2 s2 Ms=>?_)⟩
 refine⟨_,rfl,.inl ⟨rfl,_,bX.of Ms⟩,_,rfl,_,_,_,rfl,.inl ⟨_,rfl,rfl⟩,k9,fd,_,_,rfl,rfl,Ms,(by show 8<sizeLine;decide),?_⟩
 have s3:ax H (upd H2 fd (.lst (([b1,b2,b3,false] ++ [false,false,false,false]).map V.bl ++ [V.bl false]))):=λb o hb=>by rw [aK (aL hb IT)];exact s2 _ _ hb
 have Fh:(upd H2 fd (.lst (([b1,b2,b3,false] ++ [false,false,false,false]).map V.bl ++ [V.bl false]))) fd=some (.lst ([b1,b2,b3,false,false,false,false,false,false].map V.bl)):=ae
 generalize upd H2 fd (.lst (([b1,b2,b3,false] ++ [false,false,false,false]).map V.bl ++ [V.bl false]))=H3 at s3 Fh ⊢
 refine⟨λt H'=>H3=H'/\t=false,⟨_,rfl,_,_,_,rfl,.inr ⟨_,rfl,rfl⟩,O.kv,_,rfl,dM rfl ⟨_,rfl,.inl ⟨rfl,_,bX.of Fh⟩,fd,_,rfl,rfl,Fh,rfl,_,rfl,rfl,by rcases hB with ⟨rfl,rfl,rfl,_⟩|⟨rfl,rfl,rfl,_⟩|⟨rfl,rfl,rfl,_⟩<;>decide⟩⟩,?_⟩
 rintro t H' ⟨rfl,rfl⟩
 refine dM rfl ?_
 refine⟨(by show 9<=sizeLine;decide),λL hL=>?_⟩
 have s4:=s3.trans (ah hL (.lst [V.str "program",.str "row",.str "long",.str "world",.str "text",.str "step",.str "cell",.str "door",.str "word"]))
 have xC:(upd H3 L (.lst [V.str "program",.str "row",.str "long",.str "world",.str "text",.str "step",.str "cell",.str "door",.str "word"])) fd=some (.lst ([b1,b2,b3,false,false,false,false,false,false].map V.bl)):=by rw [aK (aL Fh hL)];exact Fh
 rcases hB with ⟨rfl,rfl,rfl,rfl⟩|⟨rfl,rfl,rfl,rfl⟩|⟨rfl,rfl,rfl,rfl⟩
 ·refine⟨_,rfl,.inl ⟨rfl,_,bX.of xC⟩,fd,_,0,rfl,rfl,xC,by decide,rfl,(λm hm=>?_),L,_,0,_,rfl,rfl,bX.of ae,au (j:=0) rfl,q _ s4⟩
  exact absurd hm (Nat.not_lt_zero _)
 ·refine⟨_,rfl,.inl ⟨rfl,_,bX.of xC⟩,fd,_,1,rfl,rfl,xC,by decide,rfl,(λm hm=>?_),L,_,1,_,rfl,rfl,bX.of ae,au (j:=1) rfl,q _ s4⟩
  match m,hm with
  |0,_=>rfl
 ·refine⟨_,rfl,.inl ⟨rfl,_,bX.of xC⟩,fd,_,2,rfl,rfl,xC,by decide,rfl,(λm hm=>?_),L,_,2,_,rfl,rfl,bX.of ae,au (j:=2) rfl,q _ s4⟩
  match m,hm with
  |0,_=>rfl
  |1,_=>rfl
end
section
variable {P:Program} {w:World} {K:PySem.W.Frag} {mg:Str->Option Value} {base:Heap}
theorem vS:aO ["_law_thing"] ["_law_thing"] (ao (top 62)):=⟨rfl,rfl,rfl,by decide +kernel,rfl,by decide +kernel,by decide +kernel⟩
theorem y9(T:Txt w K mg)(S:Src K mg "_law_is_number" (top 62) ["_law_thing"]):Def P w K mg base 1 "_law_is_number" ["_law_thing"] gn:=by
 refine S.ok vS (λvs H Q E h=>?_) (λf cD A outer s H vs Q E hr h=>?_)
 ·obtain⟨v,p,n,rfl,_⟩:=h;rfl
 obtain⟨v,p,n,rfl,hv,q⟩:=h
 refine⟨_,(aj (aC (cF (aW bu rfl T.aH aE (aq (pv 0) (aq (dw T.w9 qz rfl) aa))) (cF (FQ (aW bu rfl T.aH aE (aq (pv 0) (aq (dw T.AV wV rfl) aa)))) (di (kD lV wG ag (pv 0) ag)))))),?_⟩
 try dsimp only [gQ]
 obtain⟨t,ty,⟨i,rfl,rfl⟩|⟨hn,hb|⟨hb,hi⟩⟩⟩:=hv.E7
 ·refine⟨_,rfl,_,"int",_,rfl,ty,by simp,_,rfl,dQ (by decide) ?_⟩
  refine⟨_,rfl,_,"bool",_,rfl,ty,by simp,_,rfl,_,rfl,dQ (by decide) ?_⟩
  refine⟨_,rfl,_,_,rfl,rfl,_,rfl,bZ (λc1=>?_) (λc1=>?_)⟩
  ·refine⟨_,_,rfl,rfl,?_⟩
   have e:iS (.int i)=decide (i<1000000):=by
    show (decide (0<=i)&&decide (i<=999999))=_
    rw [c1,Bool.true_and]
    by_cases h:i<=999999
    ·rw [decide_eq_true h,decide_eq_true (by omega)]
    ·rw [decide_eq_false h,decide_eq_false (by omega)]
   rw [e] at q
   exact q
  ·have e:iS (.int i)=false:=by show (decide (0<=i)&&decide (i<=999999))=_;rw [Bool.eq_false_iff.mpr c1,Bool.false_and]
   rw [e] at q
   exact q
 ·rw [hn.1] at q
  have hi:sC t "int"=true:=by
   have hc:t ∈ ["NoneType","bool","int","str","list","tuple","dict"]:=wR ty
   simp only [List.mem_cons,List.not_mem_nil,or_false] at hc
   rcases hc with rfl|rfl|rfl|rfl|rfl|rfl|rfl<;>first|decide|exact absurd hb (by decide)
  exact⟨_,rfl,_,"int",_,rfl,ty,by simp,_,rfl,dQ hi ⟨_,rfl,_,"bool",_,rfl,ty,by simp,_,rfl,_,rfl,dM (by rw [hb];rfl) q⟩⟩
 ·rw [hn.1] at q
  exact⟨_,rfl,_,"int",_,rfl,ty,by simp,_,rfl,dM hi q⟩
theorem Bp:aO ["_law_thing"] ["_law_thing"] (ao (top 61)):=⟨rfl,rfl,rfl,by decide +kernel,rfl,by decide +kernel,by decide +kernel⟩
theorem DP(T:Txt w K mg)(S:Src K mg "_law_is_name" (top 61) ["_law_thing"]):Def P w K mg base 1 "_law_is_name" ["_law_thing"] eX:=by
 refine S.ok Bp (λvs H Q E h=>?_) (λf cD A outer s H vs Q E hr h=>?_)
 ·obtain⟨v,p,n,rfl,_⟩:=h;rfl
 obtain⟨v,p,n,rfl,hv,q⟩:=h
 refine⟨_,(ai (aX (cN (PW.pt (dX (bh (bf (aW bu rfl T.aH aE (aq (pv 0) (aq (dw T.pQ lJ rfl) aa))))) (dG (bh (Aa lV lV ag (aW iN rfl T.cH bO (aq (pv 0) aa)) ag))))))
   (aj (aC cW)) aI)
   (aj (aC (bT (mO hr.iL) (cq (N':= ["_law_sign"]) (bg (ao (top 61)) (by rfl) (by decide +kernel) (by decide +kernel) (by decide +kernel) (by decide +kernel) (by decide +kernel) (by decide +kernel)) rfl (gP 1 [] (by rfl) (by rfl) (by decide +kernel)) (AA (pv 0)) (λ_ _ _=>aM (i:=0) (show (["_law_sign"]:List Str).Nodup by decide +kernel) rfl (Or.inl rfl) (Or.inr rfl)) (λ_ _ _=>jn (aQ qj (pv 0) aD (by rfl))) (λ_ _ _=>(pv 0))) (bN aa) (aP _))))),?_⟩
 try dsimp only [gQ]
 have l3:(10000:Nat)<sizeLine:=by rw [sizeLine_eq];decide
 refine⟨λt H'=>H=H'/\((t=true/\gH v=false)\/(t=false/\∃x:Str,v=.str x/\x.length<=9100/\1<=x.length/\x.length<=6)),?_,?_⟩
 ·obtain⟨t,ty,⟨x,rfl,rfl,hx⟩|⟨hf,hn,_⟩⟩:=hv.strOr
  ·refine⟨_,rfl,_,"str",_,rfl,ty,by simp,_,rfl,dM (by decide) ?_⟩
   refine⟨_,rfl,x,rfl,by omega,_,_,rfl,rfl,_,rfl,bZ (λc1=>?_) (λc1=>?_)⟩
   ·refine⟨_,_,rfl,rfl,_,rfl,rfl,?_⟩
    have a1:=of_decide_eq_true c1
    by_cases h6:((x.length:Nat):Int)<=6
    ·exact .inr ⟨by rw [decide_eq_true h6];rfl,x,rfl,hx,by omega,by omega⟩
    ·refine .inl ⟨by rw [decide_eq_false h6];rfl,?_⟩
     show fc x=_
     unfold fc
     rw [decide_eq_false (by omega),Bool.false_and]
   ·refine⟨_,rfl,rfl,.inl ⟨rfl,?_⟩⟩
    have a1:=of_decide_eq_false (Bool.eq_false_iff.mpr c1)
    show fc x=_
    unfold fc
    rw [decide_eq_false (by omega),Bool.false_and]
  ·exact⟨_,rfl,_,"str",_,rfl,ty,by simp,_,rfl,dQ (by rw [hf];rfl) ⟨rfl,.inl ⟨rfl,hn⟩⟩⟩
 rintro t H' ⟨rfl,⟨rfl,hn⟩|⟨rfl,x,rfl,hx,h1,h6⟩⟩
 ·have z:=q H (ax.refl H)
  rw [hn] at z
  exact dQ rfl z
 refine dM rfl ?_
 have zG:x.cps.toList.length=x.length:=by simp [Str.length]
 let sg:Nat->V:=λc=>.str ⟨#[c]⟩
 refine⟨_,rfl,x,rfl,λacc bR=>?_⟩
 refine⟨λi m σ2 ys H2=>m=x.cps.size-i/\i<=x.cps.size/\(∃x0,σ2 = [x0])/\ys=((x.cps.toList.take i).filter λc=>!small c).map sg/\H2 acc=some (.lst ys)/\ax H H2,⟨_,rfl,Nat.zero_le _,⟨_,rfl⟩,rfl,ae,ah bR _⟩,?_⟩
 rintro i m σ2 ys H2 ⟨rfl,hi,⟨x0,rfl⟩,rfl,ha,sm⟩
 refine⟨ha,?_⟩
 by_cases eQ:i<x.cps.size
 ·refine .inr ⟨eQ,?_,?_⟩
  ·rw [List.length_map]
   have:=List.length_filter_le (λc=>!small c) (x.cps.toList.take i)
   rw [List.length_take] at this
   omega
  rintro v H3 ⟨rfl,c,hc,rfl⟩
  refine⟨_,rfl,_,_,rfl,rfl,_,rfl,?_⟩
  have eo:(!(!(Builtin.Str.occurrences nM ⟨#[c]⟩ 0 nM.length 1).isEmpty)) = !small c:=by rw [Df]
  refine bZ (λd1=>?_) (λd1=>?_)
  ·have Bq:(!small c)=true:=by rw [<-eo];exact d1
   refine⟨_,rfl,ha,_,(by omega:x.cps.size-(i+1)<x.cps.size-i),rfl,eQ,⟨_,rfl⟩,?_,ae,λb' o eN=>?_⟩
   ·rw [take_one hc,List.filter_append,List.map_append]
    congr 1
    rw [List.filter_cons,if_pos Bq]
    rfl
   ·rw [aK (aL eN bR)];exact sm _ _ eN
  ·have Bq : ¬ (!small c)=true:=by rw [<-eo];exact d1
   refine⟨_,(by omega:x.cps.size-(i+1)<x.cps.size-i),rfl,eQ,⟨_,rfl⟩,?_,ha,sm⟩
   rw [take_one hc,List.filter_append,List.filter_cons,if_neg Bq]
   simp
 ·have e:i=x.cps.size:=by omega
  subst e
  refine .inl ⟨rfl,?_⟩
  refine⟨(by show 0<=sizeLine;decide),λb hb=>?_⟩
  have s2:=ah hb (.lst [])
  refine⟨acc,b,_,rfl,rfl,bX.of (s2 _ _ ha),bX.of ae,?_⟩
  have et:x.cps.toList.take x.cps.size=x.cps.toList:=by rw [<-Array.length_toList,List.take_length]
  have ez:gH (.str x)=(((x.cps.toList.take x.cps.size).filter λc=>!small c).map sg).isEmpty:=by
   show fc x=_
   unfold fc
   rw [decide_eq_true ⟨h1,h6⟩,Bool.true_and,et]
   rw [Bool.eq_iff_iff,List.all_eq_true,List.isEmpty_iff,List.map_eq_nil_iff,List.filter_eq_nil_iff]
   constructor
   ·intro h c hc;rw [h c hc];decide
   ·intro h c hc
    have:=h c hc
    simpa using this
  rw [<-ez]
  exact q _ (sm.trans s2)
theorem Br:aO ["_law_thing","_law_names_here"] ["_law_thing","_law_names_here"] (ao (top 63)):=⟨rfl,rfl,rfl,by decide +kernel,rfl,by decide +kernel,by decide +kernel⟩
def mX:Sp:=λvs H Q _=>∃(v:V) (b p:Addr) (n:Nat) (ns:List Str),vs = [v,.ref b]/\Dt p H n v/\H b=some (.lst (ns.map V.str))/\Q (.bl (vF ns v)) H
theorem DQ(T:Txt w K mg)(S:Src K mg "_law_among" (top 63) ["_law_thing","_law_names_here"]):Def P w K mg base 1 "_law_among" ["_law_thing","_law_names_here"] mX:=by
 refine S.ok Br (λvs H Q E h=>?_) (λf cD A outer s H vs Q E hr h=>?_)
 ·obtain⟨v,b,p,n,ns,rfl,_⟩:=h;rfl
 obtain⟨v,b,p,n,ns,rfl,hv,hb,q⟩:=h
 refine⟨_,(aj (aC (cF (aW bu rfl T.aH aE (aq (pv 0) (aq (dw T.pQ lJ rfl) aa))) (di (bT fL (pv 0) (pv 1) (by rfl)))))),?_⟩
 try dsimp only [gQ]
 obtain⟨t,ty,⟨x,rfl,rfl,hx⟩|⟨hf,hn,rT⟩⟩:=hv.strOr
 ·exact⟨_,rfl,_,"str",_,rfl,ty,by simp,_,rfl,dQ (by decide) ⟨_,rfl,_,rfl,b,_,rfl,.inl (bX.of hb),rfl,jK ns,q⟩⟩
 ·rw [GV rT] at q
  exact⟨_,rfl,_,"str",_,rfl,ty,by simp,_,rfl,dM hf q⟩
end
theorem K1(x:Str)(ws:List Str):uI (.str x) (ws.map V.str)=decide (x∈ws):=by
 unfold uI
 rw [Bool.eq_iff_iff,List.any_eq_true,decide_eq_true_iff]
 constructor
 ·rintro⟨y,hy,e⟩
  obtain⟨z,hz,rfl⟩:=List.mem_map.mp hy
  have e':(z == x)=true:=e
  have e2:z=x:=by simpa using e'
  exact e2▸hz
 ·intro h
  refine⟨.str x,List.mem_map.mpr ⟨x,h,rfl⟩,?_⟩
  show (x == x)=true
  simp
theorem gb{H:Hp}{bs ls:List Str}{k:Nat}{a:Addr}{x:Str}{rest:List V}{ks:List Str}(h:H a=some (.tup (.str x::rest)))(hf:cR x=some ks)(hl:rest.length≠ks.length):isVal H bs ls k (.ref a)=false:=by
 cases k with
 |zero=>rfl
 |succ k=>rw [fG h,hf];dsimp only;rw [decide_eq_false hl,Bool.false_and]
theorem mj{H:Hp}{bs ls:List Str}{k:Nat}{a:Addr}{x:Str}{rest:List V}(h:H a=some (.tup (.str x::rest)))(hf:cR x=none):isVal H bs ls k (.ref a)=false:=by
 cases k with
 |zero=>rfl
 |succ k=>rw [fG h,hf]
theorem za{H:Hp}{bs ls:List Str}{k:Nat}{a:Addr}{y:V}(h:H a=some (.tup [y])):isVal H bs ls k (.ref a)=false:=by
 by_cases hy:∃x,y=.str x
 ·obtain⟨x,rfl⟩:=hy
  cases hf:cR x with
  |none=>exact mj h hf
  |some ks=>
   have:=pR hf
   exact gb h hf (by show 0≠_;omega)
 ·exact gZ h λx z=>hy ⟨x,z⟩
theorem jR{H:Hp}{bs ls:List Str}{k:Nat}{a:Addr}{x kd:Str}{y:V}(h:H a=some (.tup [.str x,y]))(hf:cR x=some [kd]):isVal H bs ls (k+1) (.ref a)=fF bs ls (isVal H bs ls k) kd y:=by
 rw [fG h,hf]
 show (decide (1=1)&&(fF bs ls (isVal H bs ls k) kd y&&true))=_
 rw [Bool.and_true];rfl
theorem xD{H:Hp}{bs ls:List Str}{k:Nat}{a:Addr}{x k1 k2:Str}{y z:V}(h:H a=some (.tup [.str x,y,z]))(hf:cR x=some [k1,k2]):isVal H bs ls (k+1) (.ref a)=(fF bs ls (isVal H bs ls k) k1 y&&fF bs ls (isVal H bs ls k) k2 z):=by
 rw [fG h,hf]
 show (decide (2=2)&&(fF bs ls (isVal H bs ls k) k1 y&&(fF bs ls (isVal H bs ls k) k2 z&&true)))=_
 rw [Bool.and_true];rfl
theorem pY{bs ls:List Str}{f:V->Bool}{y:V}:fF bs ls f "number" y=iS y:=by unfold fF;rw [if_pos rfl]
theorem Bs{bs ls:List Str}{f:V->Bool}{y:V}:fF bs ls f "box" y=vF bs y:=by unfold fF;rw [if_neg (by decide),if_pos rfl]
theorem xE{bs ls:List Str}{f:V->Bool}{y:V}:fF bs ls f "list" y=vF ls y:=by unfold fF;rw [if_neg (by decide),if_neg (by decide),if_pos rfl]
theorem lg{bs ls:List Str}{f:V->Bool}{y:V}:fF bs ls f "value" y=f y:=by unfold fF;rw [if_neg (by decide),if_neg (by decide),if_neg (by decide)]
theorem zc{x:Str}(h:x∈(["plus","minus","times","over","rest","less","same"]:List Str)):cR x=some ([("value":Str),("value":Str)]):=by
 simp only [List.mem_cons,List.not_mem_nil,or_false] at h
 rcases h with rfl|rfl|rfl|rfl|rfl|rfl|rfl<;>decide
theorem Bt{x:Str}(h1:x∉(["number","box","size"]:List Str))(h2:x≠"item")(h3:x≠"not")(h4:x∉(["plus","minus","times","over","rest","less","same"]:List Str)):cR x=none:=by
 simp only [List.mem_cons,List.not_mem_nil,or_false,not_or] at h1 h4
 obtain⟨a1,a2,a3⟩:=h1
 obtain⟨b1,b2,b3,b4,b5,b6,b7⟩:=h4
 unfold cR
 rw [if_neg a1,if_neg a2,if_neg b1,if_neg b2,if_neg b3,if_neg b4,if_neg b5,if_neg b6,if_neg b7,if_neg h3,if_neg h2,if_neg a3]
theorem Hf{y:V}{ys:List V}(h:decide (V.int ((y::ys).length:Int)=V.int 2)=true):∃z,ys = [z]:=by
 have h:=of_decide_eq_true h
 injection h with h
 rw [List.length_cons] at h
 exact List.length_eq_one_iff.mp (by omega)
theorem xF{y:V}{ys:List V}(h : ¬decide (V.int ((y::ys).length:Int)=V.int 2)=true):ys.length≠1:=λe=>h (decide_eq_true (by rw [List.length_cons,e];rfl))
theorem K2{y:V}{ys:List V}(h:decide (V.int ((y::ys).length:Int)=V.int 3)=true):∃z1 z2,ys = [z1,z2]:=by
 have h:=of_decide_eq_true h
 injection h with h
 rw [List.length_cons] at h
 match ys,h with
 | [z1,z2],_=>exact⟨z1,z2,rfl⟩
 | [],h=>exact absurd h (by decide)
 | [_],h=>exact absurd h (by show ¬ ((2:Int)=3);decide)
 |_::_::_::_,h=>exact absurd h (by simp only [List.length_cons];omega)
theorem Fi{y:V}{ys:List V}(h : ¬decide (V.int ((y::ys).length:Int)=V.int 3)=true):ys.length≠2:=λe=>h (decide_eq_true (by rw [List.length_cons,e];rfl))
section
variable {P:Program} {w:World} {K:PySem.W.Frag} {mg:Str->Option Value} {base:Heap}
theorem zd:aO ["_law_thing","_law_boxes","_law_lists","_law_deep_here"] ["_law_thing","_law_boxes","_law_lists","_law_deep_here"] (ao (top 64)):=⟨rfl,rfl,rfl,by decide +kernel,rfl,by decide +kernel,by decide +kernel⟩
def Hg(k:Nat):Sp:=λvs H Q E=>∃k',k=k'+1/\g9 k' vs H Q E
theorem xG{k j:Nat}(T:Txt w K mg)(bp:Def P w K mg base 1 "_law_is_number" ["_law_thing"] gn)(ig:Def P w K mg base 1 "_law_among" ["_law_thing","_law_names_here"] mX)
  (S:Src K mg "_law_is_value" (top 64) ["_law_thing","_law_boxes","_law_lists","_law_deep_here"]) (IH:Def P w K mg base (j+1) "_law_is_value" ["_law_thing","_law_boxes","_law_lists","_law_deep_here"] (Hg k)) :
  Def P w K mg base (j+2) "_law_is_value" ["_law_thing","_law_boxes","_law_lists","_law_deep_here"] (g9 k):=by
 refine S.ok zd (λvs H Q E h=>?_) (λf cD A outer s H vs Q E hr h=>?_)
 ·obtain⟨v,b,l,d,p,n,bs,ls,rfl,_⟩:=h;rfl
 obtain⟨v,b,l,d,p,n,bs,ls,rfl,rfl,hv,hb,hl,mQ,vJ,q⟩:=h
 refine⟨_,(ai (aX (cN (PW.pt (dX (aQ cA (pv 3) ag (aP _)) (dX (bh (bf (aW bu rfl T.aH aE (aq (pv 0) (aq (dw T.cm bL rfl) aa))))) (dX (aQ wG (aW aN rfl T.cH bO (aq (pv 0) aa)) ag (aP _)) (dG (bh (bf (aW bu rfl T.aH aE (aq (aJ aG (pv 0) ag (λ_ _=>rfl)) (aq (dw T.pQ lJ rfl) aa)))))))))))
   (aj (aC cW)) aI)
   (ai (aX (aQ fL (aJ aG (pv 0) ag (λ_ _=>rfl)) (bN (bq [.str "number",.str "box",.str "size"] (by rfl))) (by rfl))
   (ai (aX (aQ cA (aJ aG (pv 0) ag (λ_ _=>rfl)) aD (aP _))
   (aj (aC (cF (bT cA (aW aN rfl T.cH bO (aq (pv 0) aa)) ag (aP _)) (di (aw (bp.mono (Nat.le_add_left 1 _)) hr rfl (aq (aJ aG (pv 0) ag (λ_ _=>rfl)) aa)))))) aI)
   (aj (aC (cF (bT cA (aW aN rfl T.cH bO (aq (pv 0) aa)) ag (aP _)) (di (aw (ig.mono (Nat.le_add_left 1 _)) hr rfl (aq (aJ aG (pv 0) ag (λ_ _=>rfl)) (aq (aJ cU (bN (aq (pv 1) (aq (pv 2) aa))) (eM pq rfl T.w9 qz (aq (bT cA (aJ aG (pv 0) ag (λ_ _=>rfl)) aD (aP _)) aa)) (λ_ _=>rfl)) aa)))))))) aI)
   (ai (aX (aQ cA (aJ aG (pv 0) ag (λ_ _=>rfl)) aD (aP _))
   (aj (aC (cF (bT cA (aW aN rfl T.cH bO (aq (pv 0) aa)) ag (aP _)) (cF (aw (ig.mono (Nat.le_add_left 1 _)) hr rfl (aq (aJ aG (pv 0) ag (λ_ _=>rfl)) (aq (pv 2) aa))) (di (aw (IH) hr rfl (aq (aJ aG (pv 0) ag (λ_ _=>rfl)) (aq (pv 1) (aq (pv 2) (aq (aU lD (pv 3) ag) aa)))))))))) aI)
   (ai (aX (aQ cA (aJ aG (pv 0) ag (λ_ _=>rfl)) aD (aP _))
   (aj (aC (cF (bT cA (aW aN rfl T.cH bO (aq (pv 0) aa)) ag (aP _)) (di (aw (IH) hr rfl (aq (aJ aG (pv 0) ag (λ_ _=>rfl)) (aq (pv 1) (aq (pv 2) (aq (aU lD (pv 3) ag) aa))))))))) aI)
   (ai (aX (cN (PW.pt (dX (aQ qq (aJ aG (pv 0) ag (λ_ _=>rfl)) (bN (bq [.str "plus",.str "minus",.str "times",.str "over",.str "rest",.str "less",.str "same"] (by rfl))) (by rfl)) (dG (aQ ji (aW aN rfl T.cH bO (aq (pv 0) aa)) ag (aP _))))))
   (aj (aC cW)) aI)
   (aj (aC (cF (aw (IH) hr rfl (aq (aJ aG (pv 0) ag (λ_ _=>rfl)) (aq (pv 1) (aq (pv 2) (aq (aU lD (pv 3) ag) aa))))) (di (aw (IH) hr rfl (aq (aJ aG (pv 0) ag (λ_ _=>rfl)) (aq (pv 1) (aq (pv 2) (aq (aU lD (pv 3) ag) aa)))))))))))))),?_⟩
 try dsimp only [gQ]
 have l3:(10000:Nat)<sizeLine:=by rw [sizeLine_eq];decide
 refine⟨λt H'=>H=H'/\((t=true/\isVal H bs ls k v=false)\/(t=false/\∃(k' m:Nat) (a:Addr) (x:Str) (ys:List V),k=k'+1/\v=.ref a/\H a=some (.tup (.str x::ys))/\1<=ys.length/\∀y∈ys,Dt p H m y)),?_,?_⟩
 ·refine⟨_,rfl,rfl,_,rfl,bZ (λc=>?_) (λc=>?_)⟩
  ·have c':=of_decide_eq_true c
   injection c' with c'
   obtain rfl:k=0:=by omega
   exact⟨rfl,.inl ⟨rfl,rfl⟩⟩
  cases k with
  |zero=>exact absurd (decide_eq_true rfl) c
  |succ k'=>
  obtain⟨t,ty,⟨m,a,xs,_,rfl,rfl,ha,jY,hx⟩|⟨ht,hn⟩⟩:=hv.cS
  ·refine⟨_,rfl,_,"tuple",_,rfl,ty,by simp,_,rfl,dM (by decide) ?_⟩
   refine⟨_,rfl,a,xs,rfl,.inr (aR.of ha),_,_,rfl,rfl,_,rfl,bZ (λc2=>?_) (λc2=>?_)⟩
   ·have yT:=of_decide_eq_true c2
    match xs,ha,yT with
    | [],ha,_=>exact⟨rfl,.inl ⟨rfl,iA ha⟩⟩
    | [y],ha,_=>exact⟨rfl,.inl ⟨rfl,za ha⟩⟩
    |y::z::r,ha,yT=>exact absurd yT (by simp only [List.length_cons];omega)
   have yT : ¬ ((xs.length:Int)<2):=λz=>c2 (decide_eq_true z)
   match xs,ha,yT,hx,jY with
   | [],ha,yT,hx,jY=>exact absurd yT (by show ¬ ¬ ((0:Int)<2);omega)
   |y::ys,ha,yT,hx,jY=>
   have hy:=hx y List.mem_cons_self
   obtain⟨t,ty,⟨x,rfl,rfl,K3⟩|⟨hf,_,rT⟩⟩:=hy.strOr
   ·exact⟨_,rfl,a,_,0,_,rfl,rfl,aR.of ha,au (j:=0) rfl,_,"str",_,rfl,ty,by simp,_,rfl,rfl,.inr ⟨by decide,k',m,a,x,ys,rfl,rfl,ha,by simp only [List.length_cons] at yT;omega,λz hz=>hx z (List.mem_cons_of_mem _ hz)⟩⟩
   ·exact⟨_,rfl,a,_,0,_,rfl,rfl,aR.of ha,au (j:=0) rfl,_,"str",_,rfl,ty,by simp,_,rfl,rfl,.inl ⟨by rw [hf];rfl,gZ ha rT⟩⟩
  ·exact⟨_,rfl,_,"tuple",_,rfl,ty,by simp,_,rfl,dQ (by rw [ht];rfl) ⟨rfl,.inl ⟨rfl,fH hn⟩⟩⟩
 rintro t H' ⟨rfl,⟨rfl,hn⟩|⟨rfl,k,m,a,x,ys,rfl,rfl,ha,ET,hx⟩⟩
 ·have z:=q H (ax.refl H)
  rw [hn] at z
  exact dQ rfl z
 refine dM rfl ?_
 refine⟨_,rfl,a,_,0,_,rfl,rfl,aR.of ha,au (j:=0) rfl,?_⟩
 refine⟨(by show 3<=sizeLine;omega),λc hc=>?_⟩
 have s1:=ah hc (.lst [.str "number",.str "box",.str "size"])
 have oP:=s1 _ _ ha
 refine⟨c,_,rfl,.inl (bX.of ae),rfl,rfl,_,rfl,?_⟩
 have ei:uI (.str x) [.str "number",.str "box",.str "size"]=decide (x∈(["number","box","size"]:List Str)):=K1 x ["number","box","size"]
 refine bZ (λd1=>?_) (λd1=>?_)
 ·have Bq:=of_decide_eq_true (ei▸d1:decide (x∈(["number","box","size"]:List Str))=true)
  refine⟨_,rfl,a,_,0,_,rfl,rfl,aR.of oP,au (j:=0) rfl,rfl,_,rfl,bZ (λd2=>?_) (λd2=>?_)⟩
  ·have ze:=of_decide_eq_true d2
   injection ze with ze
   subst ze
   refine⟨_,rfl,a,_,rfl,.inr (aR.of oP),rfl,_,rfl,bZ (λd3=>?_) (λd3=>?_)⟩
   ·obtain⟨z,rfl⟩:=Hf d3
    refine⟨_,rfl,a,_,1,_,rfl,rfl,aR.of oP,au (j:=1) rfl,z,p,m,rfl,(hx z (by simp)).same s1,?_⟩
    have y:=q _ s1
    rw [jR ha (show cR "number"=some [("number":Str)] from by decide),pY] at y
    exact y
   ·have y:=q _ s1
    rw [gb ha (show cR "number"=some [("number":Str)] from by decide) (xF d3)] at y
    exact y
  ·have ze:x≠"number":=λz=>d2 (decide_eq_true (by rw [z]))
   have hf:(x="box"/\cR x=some [("box":Str)])\/(x="size"/\cR x=some [("list":Str)]):=by
    simp only [List.mem_cons,List.not_mem_nil,or_false] at Bq
    rcases Bq with r|rfl|rfl
    ·exact absurd r ze
    ·exact .inl ⟨rfl,by decide⟩
    ·exact .inr ⟨rfl,by decide⟩
   refine⟨_,rfl,a,_,rfl,.inr (aR.of oP),rfl,_,rfl,bZ (λd3=>?_) (λd3=>?_)⟩
   ·obtain⟨z,rfl⟩:=Hf d3
    refine⟨_,rfl,a,_,1,_,rfl,rfl,aR.of oP,au (j:=1) rfl,_,rfl,_,rfl,(by show 2<=sizeLine;omega),λc2 rE=>?_⟩
    have s2:=s1.trans (ah rE (.lst [.ref b,.ref l]))
    have uh:=s2 _ _ ha
    have y:=q _ s2
    have hz:=(hx z (by simp)).same s2
    rcases hf with ⟨rfl,hf⟩|⟨rfl,hf⟩
    ·refine⟨_,rfl,a,_,0,_,rfl,rfl,aR.of uh,au (j:=0) rfl,rfl,.inr ⟨_,rfl,c2,_,_,V.ref b,rfl,rfl,bX.of ae,au (j:=0) rfl,z,b,p,m,bs,rfl,hz,s2 _ _ hb,?_⟩⟩
     rw [jR ha hf,Bs] at y
     exact y
    ·refine⟨_,rfl,a,_,0,_,rfl,rfl,aR.of uh,au (j:=0) rfl,rfl,.inr ⟨_,rfl,c2,_,_,V.ref l,rfl,rfl,bX.of ae,au (j:=1) rfl,z,l,p,m,ls,rfl,hz,s2 _ _ hl,?_⟩⟩
     rw [jR ha hf,xE] at y
     exact y
   ·have y:=q _ s1
    rcases hf with ⟨_,hf⟩|⟨_,hf⟩
    ·rw [gb ha hf (xF d3)] at y
     exact y
    ·rw [gb ha hf (xF d3)] at y
     exact y
 have n1:=of_decide_eq_false (ei▸Bool.eq_false_iff.mpr d1:decide (x∈(["number","box","size"]:List Str))=false)
 have va:=s1 _ _ hb
 have oM:=s1 _ _ hl
 refine⟨_,rfl,a,_,0,_,rfl,rfl,aR.of oP,au (j:=0) rfl,rfl,_,rfl,bZ (λd2=>?_) (λd2=>?_)⟩
 ·have ze:=of_decide_eq_true d2
  injection ze with ze
  subst ze
  have hf:cR "item"=some [("list":Str),("value":Str)]:=by decide
  refine⟨_,rfl,a,_,rfl,.inr (aR.of oP),rfl,_,rfl,bZ (λd3=>?_) (λd3=>?_)⟩
  ·obtain⟨z1,z2,rfl⟩:=K2 d3
   have y:=λH2 s2=>q H2 (s1.trans s2)
   rw [xD ha hf,xE,lg] at y
   refine⟨_,rfl,a,_,1,_,rfl,rfl,aR.of oP,au (j:=1) rfl,_,rfl,z1,l,p,m,ls,rfl,(hx z1 (by simp)).same s1,oM,_,rfl,bZ (λd4=>?_) (λd4=>?_)⟩
   ·refine⟨_,rfl,a,_,2,_,rfl,rfl,aR.of oP,au (j:=2) rfl,_,rfl,_,rfl,_,rfl,_,_,rfl,rfl,k,rfl,z2,b,l,_,p,m,bs,ls,rfl,(by omega),(hx z2 (by simp)).same s1,va,oM,mQ,vJ,λH2 s2=>?_⟩
    have y2:=y H2 s2
    rw [d4,Bool.true_and,<-dc s1 (hx z2 (by simp))] at y2
    exact y2
   ·have y2:=y _ (ax.refl _)
    rw [Bool.eq_false_iff.mpr d4,Bool.false_and] at y2
    exact y2
  ·have y:=q _ s1
   rw [gb ha hf (Fi d3)] at y
   exact y
 have n2:x≠"item":=λz=>d2 (decide_eq_true (by rw [z]))
 refine⟨_,rfl,a,_,0,_,rfl,rfl,aR.of oP,au (j:=0) rfl,rfl,_,rfl,bZ (λd2=>?_) (λd2=>?_)⟩
 ·have ze:=of_decide_eq_true d2
  injection ze with ze
  subst ze
  have hf:cR "not"=some [("value":Str)]:=by decide
  refine⟨_,rfl,a,_,rfl,.inr (aR.of oP),rfl,_,rfl,bZ (λd3=>?_) (λd3=>?_)⟩
  ·obtain⟨z2,rfl⟩:=Hf d3
   refine⟨_,rfl,a,_,1,_,rfl,rfl,aR.of oP,au (j:=1) rfl,_,rfl,_,rfl,_,rfl,_,_,rfl,rfl,k,rfl,z2,b,l,_,p,m,bs,ls,rfl,(by omega),(hx z2 (by simp)).same s1,va,oM,mQ,vJ,λH2 s2=>?_⟩
   have y2:=q H2 (s1.trans s2)
   rw [jR ha hf,lg,<-dc s1 (hx z2 (by simp))] at y2
   exact y2
  ·have y:=q _ s1
   rw [gb ha hf (xF d3)] at y
   exact y
 have n3:x≠"not":=λz=>d2 (decide_eq_true (by rw [z]))
 let ws:List Str:= ["plus","minus","times","over","rest","less","same"]
 refine⟨λt H'=>ax (upd H c (.lst [.str "number",.str "box",.str "size"])) H'/\((t=true/\isVal H bs ls (k+1) (.ref a)=false)\/(t=false/\cR x=some [("value":Str),("value":Str)]/\∃z1 z2,ys = [z1,z2])),?_,?_⟩
 ·refine⟨_,rfl,a,_,0,_,rfl,rfl,aR.of oP,au (j:=0) rfl,(by show 7<=sizeLine;omega),λc2 rE=>?_⟩
  have s2:=ah rE (.lst (ws.map V.str))
  have uh:=s2 _ _ oP
  refine⟨c2,_,rfl,.inl (bX.of ae),rfl,rfl,_,rfl,?_⟩
  have So:uI (.str x) (ws.map V.str)=decide (x∈ws):=K1 x ws
  refine bZ (λd3=>?_) (λd3=>?_)
  ·have OT:(!decide (x∈ws))=true:=So▸d3
   have Hh:x∉ws:=by simpa using OT
   exact⟨s2,.inl ⟨rfl,mj ha (Bt n1 n2 n3 Hh)⟩⟩
  ·have OT : ¬ (!decide (x∈ws))=true:=So▸d3
   have Hh:x∈ws:=by simpa using OT
   have hf:=zc Hh
   refine⟨_,rfl,a,_,rfl,.inr (aR.of uh),rfl,_,rfl,s2,?_⟩
   by_cases d4:decide (V.int ((V.str x::ys).length:Int)=V.int 3)=true
   ·exact .inr ⟨by rw [d4];rfl,hf,K2 d4⟩
   ·exact .inl ⟨by rw [Bool.eq_false_iff.mpr d4];rfl,gb ha hf (Fi d4)⟩
 rintro t H2 ⟨s2,⟨rfl,hn⟩|⟨rfl,hf,z1,z2,rfl⟩⟩
 ·have y:=q _ (s1.trans s2)
  rw [hn] at y
  exact dQ rfl y
 refine dM rfl ?_
 have jc:=s1.trans s2
 have y:=λH3 s3=>q H3 (jc.trans s3)
 rw [xD ha hf,lg,lg] at y
 refine⟨_,rfl,a,_,1,_,rfl,rfl,aR.of (jc _ _ ha),au (j:=1) rfl,_,rfl,_,rfl,_,rfl,_,_,rfl,rfl,k,rfl,z1,b,l,_,p,m,bs,ls,rfl,(by omega),(hx z1 (by simp)).same jc,jc _ _ hb,jc _ _ hl,mQ,vJ,λH3 s3=>?_⟩
 refine⟨_,rfl,bZ (λd4=>?_) (λd4=>?_)⟩
 ·have mh:=jc.trans s3
  refine⟨_,rfl,a,_,2,_,rfl,rfl,aR.of (mh _ _ ha),au (j:=2) rfl,_,rfl,_,rfl,_,rfl,_,_,rfl,rfl,k,rfl,z2,b,l,_,p,m,bs,ls,rfl,(by omega),(hx z2 (by simp)).same mh,mh _ _ hb,mh _ _ hl,mQ,vJ,λH4 s4=>?_⟩
  have y2:=y H4 (s3.trans s4)
  rw [<-dc jc (hx z1 (by simp)),d4,Bool.true_and,<-dc mh (hx z2 (by simp))] at y2
  exact y2
 ·have y2:=y H3 s3
  rw [<-dc jc (hx z1 (by simp)),Bool.eq_false_iff.mpr d4,Bool.false_and] at y2
  exact y2
theorem tQ(T:Txt w K mg)(bp:Def P w K mg base 1 "_law_is_number" ["_law_thing"] gn)(ig:Def P w K mg base 1 "_law_among" ["_law_thing","_law_names_here"] mX)
  (S:Src K mg "_law_is_value" (top 64) ["_law_thing","_law_boxes","_law_lists","_law_deep_here"]):∀k,Def P w K mg base (k+2) "_law_is_value" ["_law_thing","_law_boxes","_law_lists","_law_deep_here"] (g9 k)
 |0=>xG T bp ig S (S.no λvs H Q E h=>by obtain⟨k',hk,_⟩:=h;omega)
 |k+1=>xG T bp ig S ((tQ T bp ig S k).imp λvs H Q E h=>by
   obtain⟨k',hk,h⟩:=h
   obtain rfl:k=k':=by omega
   exact h)
end
end bo
namespace bo
open PySem L2
abbrev zf (H:Hp) (ts:List V) (ps:gJ):Prop:=Paired (λt (kv:Key×V)=>∃b,t=V.ref b/\H b=some (.tup [kV kv.1,kv.2])) ts ps
structure Hi (H:Hp) (d:Addr) (bs ls:List Str) (kvs:gJ) (r:Bool):Prop where
 at_:∃(dk:gJ) (b l g:Addr) (ts:List V) (ps:gJ),H d=some (.dK dk)/\cP dk (Sum.inr "boxes")=some (.ref b)/\cP dk (Sum.inr "lists")=some (.ref l)/\cP dk (Sum.inr "functions")=some (.ref g)/\cP dk (Sum.inr "inside")=some (.bl r) /\
  H b=some (.lst (bs.map V.str))/\H l=some (.lst (ls.map V.str))/\H g=some (.lst ts)/\zf H ts ps/\ps.length<=100/\kvs=bw [] ps
 ks:∃ws:List Str,kvs.map (·.1)=ws.map Sum.inr
 hb:∀x∈bs,fc x=true
 hl:∀x∈ls,fc x=true
 hk:∀f u,cP kvs (Sum.inr f)=some u->fc f=true/\∃n:Int,u=.int n
theorem zf.same{H H':Hp}{ts:List V}{ps:gJ}(s:ax H H')(h:zf H ts ps):zf H' ts ps:=Paired.fP h λt kv z=>by obtain⟨b,e,hb⟩:=z;exact⟨b,e,s _ _ hb⟩
theorem Hi.same{H H':Hp}{d:Addr}{bs ls:List Str}{kvs:gJ}{r:Bool}(h:Hi H d bs ls kvs r)(s:ax H H'):Hi H' d bs ls kvs r:=by
 obtain⟨⟨dk,b,l,g,ts,ps,h1,h2,h3,h4,h5,h6,h7,h8,h9,pP,vT⟩,k,x,y,z⟩:=h
 exact⟨⟨dk,b,l,g,ts,ps,s _ _ h1,h2,h3,h4,h5,s _ _ h6,s _ _ h7,s _ _ h8,h9.same s,pP,vT⟩,k,x,y,z⟩
theorem eO{H:Hp}{d:Addr}{dk:gJ}{x:Str}{v:V}(h:H d=some (.dK dk))(e:cP dk (Sum.inr x)=some v):jW H d (.str x) (some v):=e▸jW.k (k:=Sum.inr x) h
def Cd(c:Nat)(kind:Str):Prop:=(c=118/\kind="value")\/(c=114/\kind="rows")\/(c=97/\kind="values")\/(c=100/\kind="door")\/(c=98/\kind="box")\/(c=108/\kind="list")\/(c=102/\kind="function")
def gf(k:Str):Nat:=if k="value" then 118 else if k="rows" then 114 else if k="values" then 97 else if k="door" then 100 else if k="box" then 98 else if k="list" then 108 else 102
def codes(ks:List Str):Str:=⟨(ks.map gf).toArray⟩
def zK:gJ:= [(Sum.inr "set",.str "bv"),(Sum.inr "push",.str "lv"),(Sum.inr "pop",.str "bl"),(Sum.inr "put",.str "lvv"),(Sum.inr "ask",.str "bd"),(Sum.inr "tell",.str "v")]
def zL:gJ:= [(Sum.inr "if",.str "vrr"),(Sum.inr "while",.str "vr"),(Sum.inr "try",.str "rbr"),(Sum.inr "fail",.str "v"),(Sum.inr "call",.str "bfa"),(Sum.inr "return",.str "v")]
def MK:gJ:=bw (bw [] zK) zL
theorem Hj:MK=zK++zL:=rfl
theorem DR(x:Str):cP MK (Sum.inr x)=(bP x).map λks=>V.str (codes ks):=by
 rw [Hj]
 by_cases q0:x="set"
 ·subst q0;decide +kernel
 by_cases q1:x="push"
 ·subst q1;decide +kernel
 by_cases q2:x="pop"
 ·subst q2;decide +kernel
 by_cases q3:x="put"
 ·subst q3;decide +kernel
 by_cases q4:x="ask"
 ·subst q4;decide +kernel
 by_cases q5:x="tell"
 ·subst q5;decide +kernel
 by_cases q6:x="if"
 ·subst q6;decide +kernel
 by_cases q7:x="while"
 ·subst q7;decide +kernel
 by_cases q8:x="try"
 ·subst q8;decide +kernel
 by_cases q9:x="fail"
 ·subst q9;decide +kernel
 by_cases Bu:x="call"
 ·subst Bu;decide +kernel
 by_cases Bv:x="return"
 ·subst Bv;decide +kernel
 have no:∀{y:Str},x≠y -> ¬ ((Sum.inr y:Key)=Sum.inr x):=λh z=>h (by injection z with z;exact z.symm)
 have er:bP x=none:=by
  unfold bP
  rw [if_neg q0,if_neg q1,if_neg q2,if_neg q3,if_neg q4,if_neg q5,if_neg q6,if_neg q7,if_neg q8,if_neg q9,if_neg Bu,if_neg Bv]
 rw [er]
 unfold zK zL
 rw [List.cons_append,bG (no q0),List.cons_append,bG (no q1),List.cons_append,bG (no q2),List.cons_append,bG (no q3),List.cons_append,bG (no q4),List.cons_append,bG (no q5),List.nil_append,bG (no q6),bG (no q7),bG (no q8),bG (no q9),bG (no Bu),bG (no Bv)]
 rfl
theorem K4{x:Str}{ks:List Str}(h:bP x=some ks):∀k∈ks,Cd (gf k) k:=by
 unfold bP at h
 have go:∀{c:Prop} [Decidable c] {l:List Str} {r:Option (List Str)},(if c then some l else r)=some ks->(∀k∈l,Cd (gf k) k)->(r=some ks->∀k∈ks,Cd (gf k) k)->∀k∈ks,Cd (gf k) k:=λ{c} _ {l} {r} h hl hr=>by
  by_cases hc:c
  ·rw [if_pos hc] at h
   injection h with h
   exact h▸hl
  ·rw [if_neg hc] at h
   exact hr h
 have cv:Cd (gf "value") "value":=.inl ⟨rfl,rfl⟩
 have cr:Cd (gf "rows") "rows":=.inr (.inl ⟨rfl,rfl⟩)
 have ca:Cd (gf "values") "values":=.inr (.inr (.inl ⟨rfl,rfl⟩))
 have Ve:Cd (gf "door") "door":=.inr (.inr (.inr (.inl ⟨rfl,rfl⟩)))
 have cb:Cd (gf "box") "box":=.inr (.inr (.inr (.inr (.inl ⟨rfl,rfl⟩))))
 have cl:Cd (gf "list") "list":=.inr (.inr (.inr (.inr (.inr (.inl ⟨rfl,rfl⟩)))))
 have cf:Cd (gf "function") "function":=.inr (.inr (.inr (.inr (.inr (.inr ⟨rfl,rfl⟩)))))
 have i1:∀{a:Str},Cd (gf a) a->∀k ∈ [a],Cd (gf k) k:=λh k hk=>by simp at hk;subst hk;exact h
 have i2:∀{a b:Str},Cd (gf a) a->Cd (gf b) b->∀k ∈ [a,b],Cd (gf k) k:=λh1 h2 k hk=>by simp at hk;rcases hk with rfl|rfl<;>assumption
 have i3:∀{a b c:Str},Cd (gf a) a->Cd (gf b) b->Cd (gf c) c->∀k ∈ [a,b,c],Cd (gf k) k:=λh1 h2 h3 k hk=>by simp at hk;rcases hk with rfl|rfl|rfl<;>assumption
 refine go h (i2 cb cv) λh=>go h (i2 cl cv) λh=>go h (i2 cb cl) λh=>go h (i3 cl cv cv) λh=>go h (i2 cb Ve) λh=>go h (i1 cv) λh=>go h (i3 cv cr cr) λh=>go h (i2 cv cr) λh=>go h (i3 cr cb cr) λh=>go h (i1 cv) λh=>go h (i3 cb cf ca) λh=>go h (i1 cv) λh=>?_
 cases h
theorem zg(ks:List Str):(codes ks).length=ks.length:=by simp [codes,Str.length]
theorem Bw{ks:List Str}{i c:Nat}(h:(codes ks).cps[i]?=some c):∃k,ks[i]?=some k/\c=gf k:=by
 unfold codes at h
 rw [List.getElem?_toArray,List.getElem?_map] at h
 obtain⟨k,hk,rfl⟩:=Option.map_eq_some_iff.mp h
 exact⟨k,hk,rfl⟩
theorem zh(ks:List Str):(codes ks).cps.all (·< 128)=true:=by
 unfold codes
 rw [List.all_toArray,List.all_eq_true]
 intro c hc
 obtain⟨k,_,rfl⟩:=List.mem_map.mp hc
 unfold gf
 repeat' split
 all_goals decide
theorem lh{H:Hp}{bs ls:List Str}{kvs:gJ}{f:V->Bool}{v:V}:ie H bs ls kvs f "value" v=isVal H bs ls 4 v:=by unfold ie;rw [if_neg (by decide),if_pos rfl]
theorem xH{H:Hp}{bs ls:List Str}{kvs:gJ}{f:V->Bool}{v:V}:ie H bs ls kvs f "rows" v=bM H f v:=by unfold ie;rw [if_pos rfl]
theorem pZ{H:Hp}{bs ls:List Str}{kvs:gJ}{f:V->Bool}{v:V}:ie H bs ls kvs f "values" v=bM H (isVal H bs ls 4) v:=by unfold ie;rw [if_neg (by decide),if_neg (by decide),if_pos rfl]
theorem DS{H:Hp}{bs ls:List Str}{kvs:gJ}{f:V->Bool}{v:V}:ie H bs ls kvs f "door" v=gH v:=by
 unfold ie
 rw [if_neg (by decide),if_neg (by decide),if_neg (by decide),if_neg (by decide),if_neg (by decide),if_neg (by decide),decide_eq_true rfl,Bool.and_true]
theorem vU{a b:Bool}(h:a=false->b=false):(a&&b)=b:=by
 cases a with
 |true=>rfl
 |false=>rw [h rfl];rfl
theorem Bx{H:Hp}{bs ls:List Str}{kvs:gJ}{f:V->Bool}{v:V}(hb:∀x∈bs,fc x=true):ie H bs ls kvs f "box" v=vF bs v:=by
 unfold ie
 rw [if_neg (by decide),if_neg (by decide),if_neg (by decide),if_pos rfl]
 exact vU (vG hb)
theorem DT{H:Hp}{bs ls:List Str}{kvs:gJ}{f:V->Bool}{v:V}(hl:∀x∈ls,fc x=true):ie H bs ls kvs f "list" v=vF ls v:=by
 unfold ie
 rw [if_neg (by decide),if_neg (by decide),if_neg (by decide),if_neg (by decide),if_pos rfl]
 exact vU (vG hl)
theorem DU{kvs:gJ}{ws:List Str}(hk:kvs.map (·.1)=ws.map Sum.inr)(v:V):vF ws v=ME kvs v:=by
 cases v with
 |str x=>
  show uI (.str x) (ws.map V.str)=(cP kvs (Sum.inr x)).isSome
  rw [K1,<-jm]
  rw [Bool.eq_iff_iff,decide_eq_true_iff,List.any_eq_true]
  constructor
  ·intro h
   have:(Sum.inr x:Key)∈kvs.map (·.1):=by rw [hk];exact List.mem_map.mpr ⟨x,h,rfl⟩
   obtain⟨kv,h1,h2⟩:=List.mem_map.mp this
   exact⟨kv,h1,decide_eq_true h2⟩
  ·rintro⟨kv,h1,h2⟩
   have:(Sum.inr x:Key)∈ws.map Sum.inr:=by rw [<-hk];exact List.mem_map.mpr ⟨kv,h1,of_decide_eq_true h2⟩
   obtain⟨y,hy,e⟩:=List.mem_map.mp this
   injection e with e
   exact e▸hy
 |_=>rfl
theorem Hk{H:Hp}{bs ls:List Str}{kvs:gJ}{f:V->Bool}{v:V}{ws:List Str}(hk:kvs.map (·.1)=ws.map Sum.inr)(hn:∀f u,cP kvs (Sum.inr f)=some u->fc f=true/\∃n:Int,u=.int n):ie H bs ls kvs f "function" v=vF ws v:=by
 unfold ie
 rw [if_neg (by decide),if_neg (by decide),if_neg (by decide),if_neg (by decide),if_neg (by decide),if_pos rfl,DU hk]
 refine vU λh=>?_
 cases v with
 |str x=>
  show (cP kvs (Sum.inr x)).isSome=false
  cases e:cP kvs (Sum.inr x) with
  |none=>rfl
  |some u=>
   have h1:=(hn x u e).1
   have h2:fc x=false:=h
   rw [h1] at h2;cases h2
 |_=>rfl
def Fj(k:Nat):Sp:=λvs H Q _=>∃(v:V) (sc:Addr) (d:Int) (p:Addr) (n:Nat) (bs ls:List Str) (kvs:gJ) (r:Bool),vs = [v,.ref sc,.int d]/\d+(k:Int)=6/\Dt p H n v/\Hi H sc bs ls kvs r/\∀H',ax H H'->Q (.bl (bU H bs ls kvs r k v)) H'
def vV(k:Nat):Sp:=λvs H Q _=>∃(v:V) (sc:Addr) (d:Int) (p:Addr) (n:Nat) (bs ls:List Str) (kvs:gJ) (r:Bool),vs = [v,.ref sc,.int d]/\d+(k:Int)=6/\Dt p H n v/\Hi H sc bs ls kvs r/\∀H',ax H H'->Q (.bl (bM H (bU H bs ls kvs r k) v)) H'
def vW(k:Nat):Sp:=λvs H Q _=>∃(c:Nat) (kind:Str) (v:V) (sc:Addr) (d:Int) (k':Nat) (p:Addr) (n:Nat) (bs ls:List Str) (kvs:gJ) (r:Bool),vs = [.str ⟨#[c]⟩,v,.ref sc,.int d]/\Cd c kind/\k=k'+1/\d+(k:Int)=6/\Dt p H n v/\Hi H sc bs ls kvs r /\
 ∀H',ax H H'->Q (.bl (ie H bs ls kvs (bU H bs ls kvs r k') kind v)) H'
seal L2.PE L2.PS L2.gi L2.PT L2.PW L2.PA L2.PG L2.ja L2.PI L2.PO L2.eD L2.PC L2.eJ L2.bI L2.gj L2.jb L2.eU L2.je
section
variable {P:Program} {w:World} {K:PySem.W.Frag} {mg:Str->Option Value} {base:Heap}
theorem DV:aO ["_law_thing","_law_names_here","_law_deep_here"] ["_law_thing","_law_names_here","_law_deep_here"] (ao (top 65)):=⟨rfl,rfl,rfl,by decide +kernel,rfl,by decide +kernel,by decide +kernel⟩
theorem lU{k j:Nat}(T:Txt w K mg)(S:Src K mg "_law_are_rows" (top 65) ["_law_thing","_law_names_here","_law_deep_here"])(ou:Def P w K mg base j "_law_is_row" ["_law_thing","_law_names_here","_law_deep_here"] (Fj k)):Def P w K mg base (j+1) "_law_are_rows" ["_law_thing","_law_names_here","_law_deep_here"] (vV k):=by
 refine S.ok DV (λvs H Q E h=>?_) (λf cD A outer s H vs Q E hr h=>?_)
 ·obtain⟨v,sc,d,p,n,bs,ls,kvs,r,rfl,_⟩:=h;rfl
 obtain⟨v,sc,d,p,n,bs,ls,kvs,r,rfl,hd,hv,hS,q⟩:=h
 refine⟨_,(ai (aX (bh (bf (aW bu rfl T.aH aE (aq (pv 0) (aq (dw T.cm bL rfl) aa)))))
   (aj (aC cW)) aI)
   (aj (aC (bT (mO hr.iL) (cq (N':= ["_law_row","_law_names_here","_law_deep_here"]) (bg (ao (top 65)) (by rfl) (by decide +kernel) (by decide +kernel) (by decide +kernel) (by decide +kernel) (by decide +kernel) (by decide +kernel)) rfl (gP 1 [1,2] (by rfl) (by rfl) (by decide +kernel)) (cG (pv 0)) (λ_ _ _=>aM (i:=0) (show (["_law_row","_law_names_here","_law_deep_here"]:List Str).Nodup by decide +kernel) rfl (Or.inl rfl) (Or.inr rfl)) (λ_ _ _=>jn (bh (bf (aw (ou) hr rfl (aq (pv 0) (aq (pv 1) (aq (pv 2) aa))))))) (λ_ _ _=>(pv 0))) (bN aa) (aP _))))),?_⟩
 try dsimp only [gQ]
 obtain⟨t,ty,⟨m,a,xs,_,rfl,rfl,ha,hl,hx⟩|⟨hf,hn⟩⟩:=hv.cS
 case inr=>
  refine⟨_,rfl,_,"tuple",_,rfl,ty,by simp,_,rfl,dQ (by rw [hf];rfl) ?_⟩
  have e:bM H (bU H bs ls kvs r k) v=false:=by unfold bM;rw [hn]
  rw [e] at q
  exact q H (ax.refl H)
 refine⟨_,rfl,_,"tuple",_,rfl,ty,by simp,_,rfl,dM (by decide) ?_⟩
 have eR:bM H (bU H bs ls kvs r k) (.ref a)=xs.all (bU H bs ls kvs r k):=by unfold bM;rw [ak ha]
 rw [eR] at q
 refine⟨_,rfl,a,rfl,⟨xs,aR.of ha⟩,qB (cs:= [some (.ref sc),some (.int d)]) xs (λx=>!bU H bs ls kvs r k x) id (by omega) (λi H2 s hi=>⟨xs,_,aR.of (s _ _ ha),List.getElem?_eq_getElem hi⟩) (λH2 s=>⟨xs,aR.of (s _ _ ha),Nat.le_refl _⟩)
  (λi H2 x H3 s _ y=>⟨y.1,y.2 xs (aR.of (s _ _ ha))⟩) rfl (λi x H2 kk gm s2 hk=>?_) (λx H2 kk zH s2 hk=>?_) (λacc H' E6 s' AX=>?_)⟩
 ·have hD:=hx x (List.mem_of_getElem? gm)
  refine⟨_,rfl,_,rfl,_,rfl,x,sc,d,p,m,bs,ls,kvs,r,rfl,hd,hD.same s2,hS.same s2,λH3 s3=>⟨_,rfl,?_⟩⟩
  rw [dq s2 hD]
  exact hk H3 s3
 ·exact⟨_,rfl,hk H2 (ax.refl H2)⟩
 ·refine⟨(by show 0<=sizeLine;decide),λb hb=>?_⟩
  have s2:=ah hb (.lst [])
  refine⟨acc,b,_,rfl,rfl,bX.of (s2 _ _ AX),bX.of ae,?_⟩
  have ez:xs.all (bU H bs ls kvs r k)=((xs.filter λx=>!bU H bs ls kvs r k x).map id).isEmpty:=by
   rw [Bool.eq_iff_iff,List.all_eq_true,List.isEmpty_iff,List.map_eq_nil_iff,List.filter_eq_nil_iff]
   constructor
   ·intro h c hc;rw [h c hc];decide
   ·intro h c hc
    have:=h c hc
    simpa using this
  rw [<-ez]
  exact q _ (s'.trans s2)
end
end bo
namespace bo
open PySem L2
seal L2.PE L2.PS L2.gi L2.PT L2.PW L2.PA L2.PG L2.ja L2.PI L2.PO L2.eD L2.PC L2.eJ L2.bI L2.gj L2.jb L2.eU L2.je
section
variable {P:Program} {w:World} {K:PySem.W.Frag} {mg:Str->Option Value} {base:Heap}
theorem qZ:aO ["_law_kind_here","_law_part","_law_names_here","_law_deep_here","_law_one","_law_some"] ["_law_kind_here","_law_part","_law_names_here","_law_deep_here"] (ao (top 67)):=⟨rfl,rfl,rfl,by decide +kernel,rfl,by decide +kernel,by decide +kernel⟩
theorem sg{c e:Nat}{y:Str}(hy:y=⟨#[e]⟩):decide (V.str ⟨#[c]⟩=V.str y)=decide (c=e):=by
 subst hy
 by_cases h:c=e
 ·rw [decide_eq_true h,h,decide_eq_true rfl]
 ·rw [decide_eq_false h,decide_eq_false]
  intro z;injection z with z;injection z with z;apply h;simpa using z
theorem oC{k j:Nat}(T:Txt w K mg)(hG:∀k,Def P w K mg base (k+2) "_law_is_value" ["_law_thing","_law_boxes","_law_lists","_law_deep_here"] (g9 k))(bH:Def P w K mg base 1 "_law_is_name" ["_law_thing"] eX)(ig:Def P w K mg base 1 "_law_among" ["_law_thing","_law_names_here"] mX)
  (S:Src K mg "_law_fits" (top 67) ["_law_kind_here","_law_part","_law_names_here","_law_deep_here"]) (eY:Def P w K mg base (j+7) "_law_are_rows" ["_law_thing","_law_names_here","_law_deep_here"] (vV k)) :
  Def P w K mg base (j+8) "_law_fits" ["_law_kind_here","_law_part","_law_names_here","_law_deep_here"] (vW (k+1)):=by
 refine S.ok qZ (λvs H Q E h=>?_) (λf cD A outer s H vs Q E hr h=>?_)
 ·obtain⟨c,kind,v,sc,d,k',p,n,bs,ls,kvs,r,rfl,_⟩:=h;rfl
 obtain⟨c,kind,v,sc,d,k',p,n,bs,ls,kvs,r,rfl,hc,hk,hd,hv,hS,q⟩:=h
 obtain rfl:k=k':=by omega
 refine⟨_,(ai (aX (aQ cA (pv 0) aD (aP _))
   (aj (aC (aw ((hG 4).mono (by omega)) hr rfl (aq (pv 1) (aq (eK (fS hr) (pv 2) aD (λ_ _=>rfl)) (aq (eK (fS hr) (pv 2) aD (λ_ _=>rfl)) (aq ag aa))))))) aI)
   (ai (aX (aQ cA (pv 0) aD (aP _))
   (aj (aC (aw (eY) hr rfl (aq (pv 1) (aq (pv 2) (aq (aU eW (pv 3) ag) aa)))))) aI)
   (ai (aX (aQ cA (pv 0) aD (aP _))
   (ai (aX (bh (bf (aW bu rfl T.aH aE (aq (pv 1) (aq (dw T.cm bL rfl) aa)))))
   (aj (aC cW)) aI)
   (ai (dO PassesOwn.never rfl (cG (pv 1)) (aM (i:=4) qZ.nd rfl (Or.inl rfl))
   (aj (aX (bh (bf (aw ((hG 4).mono (by omega)) hr rfl (aq (pv 4) (aq (eK (fS hr) (pv 2) aD (λ_ _=>rfl)) (aq (eK (fS hr) (pv 2) aD (λ_ _=>rfl)) (aq ag aa)))))))
   (aj (aC cW)) aI)))
   (aj (aC cW)))) aI)
   (ai (aX (aQ cA (pv 0) aD (aP _))
   (aj (aC (aw (bH.mono (by omega)) hr rfl (aq (pv 1) aa)))) aI)
   (ai (aS (i:=5) qZ.nd rfl (Or.inl rfl) (mM (cQ aD (eK (fS hr) (pv 2) aD (λ_ _=>rfl)) (cQ aD (eK (fS hr) (pv 2) aD (λ_ _=>rfl)) (cQ aD (eM (vo rfl) rfl T.g8 fT (aq (eM (gG rfl) rfl T.vx qM (aq (eK (fS hr) (pv 2) aD (λ_ _=>rfl)) aa)) aa)) mL))) rfl rfl (by intro z;cases z) (by decide)))
   (aj (aC (aw (ig.mono (by omega)) hr rfl (aq (pv 1) (aq (eK (fS hr) (pv 5) (pv 0) (λ_ _=>rfl)) aa)))))))))),?_⟩
 try dsimp only [gQ]
 obtain⟨⟨dk,b,l,g,ts,ps,h1,hB,hL,hF,hI,hb,hl,hg,vk,hz,qV⟩,⟨ws,OU⟩,nb,nl,nk⟩:=id hS
 have gB:=eO h1 hB
 have gL:=eO h1 hL
 have gF:=eO h1 hF
 have ev:("v":Str)=⟨#[118]⟩:=by decide +kernel
 have er:("r":Str)=⟨#[114]⟩:=by decide +kernel
 have ea:("a":Str)=⟨#[97]⟩:=by decide +kernel
 have ed:("d":Str)=⟨#[100]⟩:=by decide +kernel
 refine⟨_,rfl,rfl,_,rfl,?_⟩
 rw [sg ev]
 refine bZ (λc1=>?_) (λc1=>?_)
 ·have Ot:=of_decide_eq_true c1
  subst Ot
  obtain rfl:kind="value":=by
   rcases hc with ⟨_,e⟩|⟨e,_⟩|⟨e,_⟩|⟨e,_⟩|⟨e,_⟩|⟨e,_⟩|⟨e,_⟩<;>first|exact e|cases e
  rw [lh] at q
  exact⟨_,rfl,_,rfl,sc,_,rfl,gB,_,rfl,sc,_,rfl,gL,v,b,l,4,p,n,bs,ls,rfl,rfl,hv,hb,hl,nb,nl,q⟩
 refine⟨_,rfl,rfl,_,rfl,?_⟩
 rw [sg er]
 refine bZ (λc2=>?_) (λc2=>?_)
 ·have yT:=of_decide_eq_true c2
  subst yT
  obtain rfl:kind="rows":=by
   rcases hc with ⟨e,_⟩|⟨_,e⟩|⟨e,_⟩|⟨e,_⟩|⟨e,_⟩|⟨e,_⟩|⟨e,_⟩<;>first|exact e|cases e
  rw [xH] at q
  exact⟨_,rfl,_,rfl,_,rfl,_,_,rfl,rfl,v,sc,d+1,p,n,bs,ls,kvs,r,rfl,by omega,hv,hS,q⟩
 refine⟨_,rfl,rfl,_,rfl,?_⟩
 rw [sg ea]
 refine bZ (λc3=>?_) (λc3=>?_)
 ·have Vf:=of_decide_eq_true c3
  subst Vf
  obtain rfl:kind="values":=by
   rcases hc with ⟨e,_⟩|⟨e,_⟩|⟨_,e⟩|⟨e,_⟩|⟨e,_⟩|⟨e,_⟩|⟨e,_⟩<;>first|exact e|cases e
  rw [pZ] at q
  obtain⟨t,ty,⟨m,a,xs,_,rfl,rfl,ha,U5,hx⟩|⟨hf,hn⟩⟩:=hv.cS
  case inr=>
   refine⟨_,rfl,_,"tuple",_,rfl,ty,by simp,_,rfl,dQ (by rw [hf];rfl) ?_⟩
   have e:bM H (isVal H bs ls 4) v=false:=by unfold bM;rw [hn]
   rw [e] at q
   exact q H (ax.refl H)
  refine⟨_,rfl,_,"tuple",_,rfl,ty,by simp,_,rfl,dM (by decide) ?_⟩
  have eR:bM H (isVal H bs ls 4) (.ref a)=xs.all (isVal H bs ls 4):=by unfold bM;rw [ak ha]
  rw [eR] at q
  refine⟨_,rfl,a,rfl,⟨_,aR.of ha⟩,fz (xs:=xs) (λi σ H'=>∃x4 x5,σ = [some (.str ⟨#[97]⟩),some (.ref a),some (.ref sc),some (.int d),x4,x5]/\ax H H'/\(xs.take i).all (isVal H bs ls 4)=true) ⟨_,_,rfl,ax.refl H,rfl⟩ ?_ ?_ ?_⟩
  ·rintro i σ H' _ ⟨x4,x5,rfl,s1,_⟩
   exact aR.of (s1 _ _ ha)
  ·rintro i x σ H' gm ⟨x4,x5,rfl,s1,dj⟩
   have pU:=List.mem_of_getElem? gm
   have hD:=hx x pU
   refine⟨_,rfl,_,rfl,sc,_,rfl,eO (s1 _ _ h1) hB,_,rfl,sc,_,rfl,eO (s1 _ _ h1) hL,x,b,l,4,p,m,bs,ls,rfl,rfl,hD.same s1,s1 _ _ hb,s1 _ _ hl,nb,nl,λH2 s2=>⟨_,rfl,?_⟩⟩
   rw [dc s1 hD]
   cases eN:isVal H bs ls 4 x with
   |false=>
    refine dQ rfl ?_
    rw [jM pU eN] at q
    exact q H2 (s1.trans s2)
   |true=>exact dM rfl ⟨_,_,rfl,s1.trans s2,iC gm dj eN⟩
  ·rintro σ H' ⟨x4,x5,rfl,s1,dj⟩
   rw [List.take_length] at dj
   rw [dj] at q
   exact q H' s1
 refine⟨_,rfl,rfl,_,rfl,?_⟩
 rw [sg ed]
 refine bZ (λc4=>?_) (λc4=>?_)
 ·have Vg:=of_decide_eq_true c4
  subst Vg
  obtain rfl:kind="door":=by
   rcases hc with ⟨e,_⟩|⟨e,_⟩|⟨e,_⟩|⟨_,e⟩|⟨e,_⟩|⟨e,_⟩|⟨e,_⟩<;>first|exact e|cases e
  rw [DS] at q
  exact⟨_,rfl,v,p,n,rfl,hv,q⟩
 have n1:c≠118:=λz=>c1 (decide_eq_true z)
 have n2:c≠114:=λz=>c2 (decide_eq_true z)
 have n3:c≠97:=λz=>c3 (decide_eq_true z)
 have n4:c≠100:=λz=>c4 (decide_eq_true z)
 refine λu hu=>?_
 have s0:=ah hu (.dK [])
 have GG:=s0 _ _ h1
 have Mf:=s0 _ _ hg
 have K5:=vk.same s0
 have OV:upd H u (.dK []) u=some (.dK []):=ae
 generalize upd H u (.dK [])=H0 at s0 GG Mf K5 OV
 refine⟨_,rfl,sc,_,rfl,eO GG hB,_,rfl,sc,_,rfl,eO GG hL,_,rfl,sc,_,rfl,eO GG hF,g,ts,ps,rfl,bX.of Mf,hz,K5,λa1 oP=>?_⟩
 rw [<-qV]
 have s1:=ah oP (.dK kvs)
 refine⟨a1,kvs,ws,rfl,ae,OU,λa2 uh=>?_⟩
 have s2:=ah uh (.lst (ws.map V.str))
 have h2:upd (upd H0 a1 (.dK kvs)) a2 (.lst (ws.map V.str)) a2=some (.lst (ws.map V.str)):=ae
 have ui:=s1.trans s2
 generalize upd (upd H0 a1 (.dK kvs)) a2 (.lst (ws.map V.str))=H2 at ui h2
 refine⟨ui _ _ OV,[(Sum.inr "b",.ref b),(Sum.inr "l",.ref l),(Sum.inr "f",.ref a2)],rfl,(by show 3<=15;decide),?_⟩
 have sf:ax H (upd H2 u (.dK (bw [] [(Sum.inr "b",.ref b),(Sum.inr "l",.ref l),(Sum.inr "f",.ref a2)]))):=λb' o eN=>by rw [aK (aL eN hu)];exact ui _ _ (s0 _ _ eN)
 have h3:upd H2 u (.dK (bw [] [(Sum.inr "b",.ref b),(Sum.inr "l",.ref l),(Sum.inr "f",.ref a2)])) u=some (.dK [(Sum.inr "b",.ref b),(Sum.inr "l",.ref l),(Sum.inr "f",.ref a2)]):=ae
 have ne2:a2≠u:=λz=>by
  have:=s1 _ _ OV
  rw [<-z,uh] at this
  cases this
 have h4:upd H2 u (.dK (bw [] [(Sum.inr "b",.ref b),(Sum.inr "l",.ref l),(Sum.inr "f",.ref a2)])) a2=some (.lst (ws.map V.str)):=by rw [aK ne2];exact h2
 generalize upd H2 u (.dK (bw [] [(Sum.inr "b",.ref b),(Sum.inr "l",.ref l),(Sum.inr "f",.ref a2)]))=H3 at sf h3 h4
 have kb:(Sum.inr ("b":Str):Key)=Sum.inr ⟨#[98]⟩:=by decide +kernel
 have kl:(Sum.inr ("l":Str):Key)=Sum.inr ⟨#[108]⟩:=by decide +kernel
 have kf:(Sum.inr ("f":Str):Key)=Sum.inr ⟨#[102]⟩:=by decide +kernel
 have Vh : ¬ ((Sum.inr ("b":Str):Key)=Sum.inr ⟨#[108]⟩):=by decide +kernel
 have Vi : ¬ ((Sum.inr ("b":Str):Key)=Sum.inr ⟨#[102]⟩):=by decide +kernel
 have Vj : ¬ ((Sum.inr ("l":Str):Key)=Sum.inr ⟨#[102]⟩):=by decide +kernel
 rcases hc with ⟨e,_⟩|⟨e,_⟩|⟨e,_⟩|⟨e,_⟩|⟨rfl,rfl⟩|⟨rfl,rfl⟩|⟨rfl,rfl⟩
 ·exact absurd e n1
 ·exact absurd e n2
 ·exact absurd e n3
 ·exact absurd e n4
 ·rw [Bx nb] at q
  exact⟨_,rfl,_,rfl,_,rfl,u,.ref b,rfl,eO (x:=⟨#[98]⟩) h3 (da kb),v,b,p,n,bs,rfl,hv.same sf,sf _ _ hb,q H3 sf⟩
 ·rw [DT nl] at q
  exact⟨_,rfl,_,rfl,_,rfl,u,.ref l,rfl,eO (x:=⟨#[108]⟩) h3 ((bG Vh).trans (da kl)),v,l,p,n,ls,rfl,hv.same sf,sf _ _ hl,q H3 sf⟩
 ·rw [Hk OU nk] at q
  exact⟨_,rfl,_,rfl,_,rfl,u,.ref a2,rfl,eO (x:=⟨#[102]⟩) h3 ((bG Vi).trans ((bG Vj).trans (da kf))),v,a2,p,n,ws,rfl,hv.same sf,h4,q H3 sf⟩
end
section
variable {P:Program} {w:World} {K:PySem.W.Frag} {mg:Str->Option Value} {base:Heap}
theorem rd:aO ["_law_thing","_law_names_here","_law_deep_here","_law_forms","_law_kind_here","_law_part"] ["_law_thing","_law_names_here","_law_deep_here"] (ao (top 66)):=⟨rfl,rfl,rfl,by decide +kernel,rfl,by decide +kernel,by decide +kernel⟩
theorem p5{k j:Nat}(T:Txt w K mg)(S:Src K mg "_law_is_row" (top 66) ["_law_thing","_law_names_here","_law_deep_here"])(Hl:Def P w K mg base (j+1) "_law_fits" ["_law_kind_here","_law_part","_law_names_here","_law_deep_here"] (vW k)) :
  Def P w K mg base (j+2) "_law_is_row" ["_law_thing","_law_names_here","_law_deep_here"] (Fj k):=by
 refine S.ok rd (λvs H Q E h=>?_) (λf cD A outer s H vs Q E hr h=>?_)
 ·obtain⟨v,sc,d,p,n,bs,ls,kvs,r,rfl,_⟩:=h;rfl
 obtain⟨v,sc,d,p,n,bs,ls,kvs,r,rfl,hd,hv,hS,q⟩:=h
 refine⟨_,(ai (aX (cN (PW.pt (dX (aQ lW (pv 2) ag (aP _)) (dX (bh (bf (aW bu rfl T.aH aE (aq (pv 0) (aq (dw T.cm bL rfl) aa))))) (dX (aQ (qy hr.iL) (pv 0) (aA aa) (aP _)) (dG (bh (bf (aW bu rfl T.aH aE (aq (aJ aG (pv 0) ag (λ_ _=>rfl)) (aq (dw T.pQ lJ rfl) aa)))))))))))
   (aj (aC cW)) aI)
   (ai (aS (i:=3) rd.nd rfl (Or.inl rfl) (mM (cQ aD aD (cQ aD aD (cQ aD aD (cQ aD aD (cQ aD aD (cQ aD aD mL)))))) rfl rfl (by intro z;cases z) (by decide)))
   (ai (eI (Dy (pv 3) (mM (cQ aD aD (cQ aD aD (cQ aD aD (cQ aD aD (cQ aD aD (cQ aD aD mL)))))) rfl rfl (by intro z;cases z) (by decide)) ⟨rfl,rfl,rfl,rfl⟩))
   (ai (aX (cN (PW.pt (dX (FP (yz (fS hr) (aJ aG (pv 0) ag (λ_ _=>rfl)) (pv 3))) (dG (aQ ji (aW iN rfl T.cH bO (aq (eK (fS hr) (pv 3) (aJ aG (pv 0) ag (λ_ _=>rfl)) (λ_ _=>rfl)) aa)) (aU lD (aW aN rfl T.cH bO (aq (pv 0) aa)) ag) (aP _))))))
   (aj (aC cW)) aI)
   (ai (aX (cN (PW.pt (nA (aQ cA (aJ aG (pv 0) ag (λ_ _=>rfl)) aD (aP _)) (kz (bh (bf (eK (fS hr) (pv 1) aD (λ_ _=>rfl))))))))
   (aj (aC cW)) aI)
   (ai (dO PassesOwn.never rfl (Dx rfl T.w8 (aq (eK (fS hr) (pv 3) (aJ aG (pv 0) ag (λ_ _=>rfl)) (λ_ _=>rfl)) (aq (bJ dg (pv 0) (bV ag) cp) aa))) (iJ rfl (bF (aM (i:=4) rd.nd rfl (Or.inl rfl)) (bF (aM (i:=5) rd.nd rfl (Or.inl rfl)) gK)))
   (aj (aX (bh (bf (aw (Hl) hr rfl (aq (pv 4) (aq (pv 5) (aq (pv 1) (aq (pv 2) aa)))))))
   (aj (aC cW)) aI)))
   (aj (aC (EJ (bT ji (aJ aG (pv 0) ag (λ_ _=>rfl)) aD (aP _)) (di (bT cA (aW aN rfl T.cH bO (aq (aJ aG (pv 0) ag (λ_ _=>rfl)) aa)) (eK (fS hr) (eM (gG rfl) rfl T.vx qM (aq (eK (fS hr) (pv 1) aD (λ_ _=>rfl)) aa)) (aJ aG (pv 0) ag (λ_ _=>rfl)) (λ_ _=>rfl)) (aP _)))))))))))),?_⟩
 try dsimp only [gQ]
 have l3:(100000:Nat)<sizeLine:=by rw [sizeLine_eq];decide
 refine⟨λt H'=>ax H H'/\((t=true/\bU H bs ls kvs r k v=false)\/(t=false/\∃(k' m:Nat) (a:Addr) (x:Str) (ys:List V),k=k'+1/\v=.ref a/\H a=some (.tup (.str x::ys))/\(V.str x::ys).length<=9100/\∀u∈V.str x::ys,Dt p H m u)),?_,?_⟩
 ·refine⟨_,rfl,_,_,rfl,rfl,_,rfl,bZ (λc=>?_) (λc=>?_)⟩
  ·have c':=of_decide_eq_true c
   obtain rfl:k=0:=by omega
   exact⟨ax.refl H,.inl ⟨rfl,rfl⟩⟩
  have c':=of_decide_eq_false (Bool.eq_false_iff.mpr c)
  obtain⟨k',rfl⟩:∃k',k=k'+1:=⟨k-1,by omega⟩
  obtain⟨t,ty,⟨m,a,xs,_,rfl,rfl,ha,jY,hx⟩|⟨ht,hn⟩⟩:=hv.cS
  case inr=>exact⟨_,rfl,_,"tuple",_,rfl,ty,by simp,_,rfl,dQ (by rw [ht];rfl) ⟨ax.refl H,.inl ⟨rfl,cT (by unfold cX;rw [hn])⟩⟩⟩
  refine⟨_,rfl,_,"tuple",_,rfl,ty,by simp,_,rfl,dM (by decide) ?_⟩
  refine⟨_,rfl,(by show 0<=sizeLine;decide),λb hb=>?_⟩
  have s1:=ah hb (.tup [])
  refine⟨a,b,xs,[],rfl,rfl,aR.of (s1 _ _ ha),aR.of ae,.inr rfl,_,rfl,bZ (λc2=>?_) (λc2=>?_)⟩
  ·cases xs with
   |nil=>exact⟨s1,.inl ⟨rfl,cT (by unfold cX;rw [ak ha];rfl)⟩⟩
   |cons y ys=>cases c2
  cases xs with
  |nil=>exact absurd rfl c2
  |cons y ys=>
  obtain⟨t,ty,⟨x,rfl,rfl,K3⟩|⟨hf,_,rT⟩⟩:=(hx y List.mem_cons_self).strOr
  ·exact⟨_,rfl,a,_,0,_,rfl,rfl,aR.of (s1 _ _ ha),au (j:=0) rfl,_,"str","str",rfl,rfl,by simp,_,rfl,s1,.inr ⟨by decide,k',m,a,x,ys,rfl,rfl,ha,jY,hx⟩⟩
  ·have hw:cX H (.ref a)=false:=by
    unfold cX
    rw [ak ha]
    cases y with
    |str x=>exact absurd rfl (rT x)
    |_=>rfl
   obtain⟨t',Ky,⟨x',rfl,_⟩|⟨E4,_⟩⟩:=((hx y List.mem_cons_self).same s1).strOr
   ·exact absurd rfl (rT x')
   ·exact⟨_,rfl,a,_,0,_,rfl,rfl,aR.of (s1 _ _ ha),au (j:=0) rfl,_,"str",_,rfl,Ky,by simp,_,rfl,s1,.inl ⟨by rw [E4];rfl,cT hw⟩⟩
 rintro t H1 ⟨s1,⟨rfl,hn⟩|⟨rfl,k,m,a,x,ys,rfl,rfl,ha,jY,hx⟩⟩
 ·have z:=q H1 s1
  rw [hn] at z
  exact dQ rfl z
 refine dM rfl ?_
 have oP:=s1 _ _ ha
 refine λu hu=>⟨ae,zK,rfl,by decide,?_⟩
 rw [iH]
 have s2:=ah hu (.dK (bw [] zK))
 have kN:upd H1 u (.dK (bw [] zK)) u=some (.dK (bw [] zK)):=ae
 have uh:=s2 _ _ oP
 generalize upd H1 u (.dK (bw [] zK))=H2 at s2 kN uh
 refine⟨_,rfl,u,rfl,.inl ⟨_,.inl kN⟩,λu2 oO=>⟨ae,zL,rfl,by decide,?_⟩⟩
 rw [iH]
 have ne:u≠u2:=λz=>by rw [z,oO] at kN;cases kN
 refine⟨u2,bw [] zK,bw [] zL,rfl,ne,by rw [aK ne];exact kN,ae,by decide,?_⟩
 have s3:ax H1 (upd (upd H2 u2 (.dK (bw [] zL))) u (.dK (bw (bw [] zK) (bw [] zL)))):=λb o hb=>by
  rw [aK (aL hb hu)]
  exact (s2.trans (ah oO (.dK (bw [] zL)))) _ _ hb
 have hF:upd (upd H2 u2 (.dK (bw [] zL))) u (.dK (bw (bw [] zK) (bw [] zL))) u=some (.dK MK):=by rw [ae];rfl
 generalize upd (upd H2 u2 (.dK (bw [] zL))) u (.dK (bw (bw [] zK) (bw [] zL)))=H3 at s3 hF
 have qY:=s1.trans s3
 have AM:=qY _ _ ha
 have Oa:=hS.same qY
 have gx:jW H3 u (.str x) (cP MK (Sum.inr x)):=jW.k (k:=Sum.inr x) hF
 rw [DR] at gx
 have eV:=fO (bs:=bs) (ls:=ls) (kvs:=kvs) (r:=r) (k:=k) ha
 unfold jy at eV
 cases i8:bP x with
 |none=>
  rw [i8] at eV gx
  have z:=q H3 qY
  rw [eV] at z
  refine⟨λt H'=>H3=H'/\t=true,⟨_,rfl,a,_,0,_,rfl,rfl,aR.of AM,au (j:=0) rfl,_,rfl,u,_,rfl,gx,_,rfl,dQ rfl ⟨rfl,rfl⟩⟩,?_⟩
  rintro t H' ⟨rfl,rfl⟩
  exact dQ rfl z
 |some ks=>
 rw [i8] at eV gx
 dsimp only at eV
 have OW:jW H3 u (.str x) (some (V.str (codes ks))):=gx
 have Cg:=iU i8
 have zG:=zg ks
 refine⟨λt H'=>H3=H'/\t = !decide (ys.length=ks.length),?_,?_⟩
 ·refine⟨_,rfl,a,_,0,_,rfl,rfl,aR.of AM,au (j:=0) rfl,_,rfl,u,_,rfl,OW,_,rfl,dM rfl ?_⟩
  refine⟨_,rfl,_,rfl,a,_,0,_,rfl,rfl,aR.of AM,au (j:=0) rfl,u,_,rfl,OW,_,rfl,by omega,?_⟩
  refine⟨_,rfl,a,_,rfl,.inr (aR.of AM),_,_,rfl,rfl,rfl,_,rfl,rfl,?_⟩
  have e1:((V.str x::ys).length:Int)-1=(ys.length:Int):=by rw [List.length_cons];omega
  show (!decide (V.int ((codes ks).length:Int)=V.int (((V.str x::ys).length:Int)-1)))=_
  rw [e1,zG]
  by_cases hlen:ys.length=ks.length
  ·rw [decide_eq_true hlen,hlen,decide_eq_true rfl]
  ·rw [decide_eq_false hlen,decide_eq_false]
   intro z;injection z with z;omega
 rintro t H' ⟨rfl,rfl⟩
 by_cases hlen:ys.length=ks.length
 case neg=>
  have z:=q H3 qY
  rw [eV,decide_eq_false hlen,Bool.false_and] at z
  exact dQ (by rw [decide_eq_false hlen];rfl) z
 refine dM (by rw [decide_eq_true hlen];rfl) ?_
 rw [decide_eq_true hlen,Bool.true_and] at eV
 have KG:∀y:Str,decide (V.str x=V.str y)=decide (x=y):=λy=>by
  by_cases h:x=y
  ·rw [decide_eq_true h,h,decide_eq_true rfl]
  ·rw [decide_eq_false h,decide_eq_false]
   intro z;injection z with z;exact h z
 obtain⟨⟨dk,b,l,g,ts,ps,h1,hB,hL,IS,hI,hb,hl,hg,vk,hz,qV⟩,⟨ws,OU⟩,nb,nl,nk⟩:=id Oa
 refine⟨λt H'=>H3=H'/\t=(decide (x="return") && !r),?_,?_⟩
 ·refine⟨_,rfl,a,_,0,_,rfl,rfl,aR.of AM,au (j:=0) rfl,rfl,_,rfl,?_⟩
  rw [KG]
  refine bZ (λc=>?_) (λc=>?_)
  ·exact⟨_,rfl,sc,_,rfl,eO h1 hI,_,rfl,rfl,by rw [c,Bool.true_and]⟩
  ·exact⟨rfl,by rw [Bool.eq_false_iff.mpr c,Bool.false_and]⟩
 rintro t H' ⟨rfl,rfl⟩
 cases tI:(decide (x="return") && !r) with
 |true=>
  rw [tI] at eV
  have z:=q H3 qY
  rw [eV] at z
  exact dQ rfl z
 |false=>
 refine dM rfl ?_
 rw [tI] at eV
 rw [Bool.not_false,Bool.true_and] at eV
 refine⟨_,rfl,_,rfl,a,_,0,_,rfl,rfl,aR.of AM,au (j:=0) rfl,u,_,rfl,OW,_,rfl,1,rfl,a,_,rfl,AM,λpt H4 s4 h4=>?_⟩
 rw [ju] at h4
 have jf:=qY.trans s4
 let f:Str×V->Bool:=λp=>ie H bs ls kvs (bU H bs ls kvs r k) p.1 p.2
 have rL:=K4 i8
 have Kz:(ks.zip ys).length=ks.length:=by rw [List.length_zip,hlen,Nat.min_self]
 refine⟨codes ks,pt,rfl,zh ks,⟨_,aR.of h4⟩,AS (ys:=ys) (λi σ H'=>∃x4 x5,σ = [some (.ref a),some (.ref sc),some (.int d),some (.ref u),x4,x5]/\ax H4 H'/\((ks.zip ys).take i).all f=true) ⟨_,_,rfl,ax.refl H4,rfl⟩ ?_ ?_ ?_⟩
 ·rintro i σ H' ⟨x4,x5,rfl,s5,_⟩
  exact aR.of (s5 _ _ h4)
 ·rintro i c y σ H' T' hc hy ⟨x4,x5,rfl,s5,dj⟩ II
  obtain⟨ki,ug,rfl⟩:=Bw hc
  have hz:(ks.zip ys)[i]?=some (ki,y):=by rw [List.getElem?_zip_eq_some];exact⟨ug,hy⟩
  have s6:=ah II (.tup [.str ⟨#[gf ki]⟩,y])
  have ky:=jf.trans (s5.trans s6)
  have zI:=hx y (List.mem_cons_of_mem _ (List.mem_of_getElem? hy))
  refine⟨T',_,rfl,aR.of ae,rfl,_,_,rfl,_,_,rfl,rfl,?_⟩
  refine⟨_,rfl,_,rfl,_,rfl,_,rfl,gf ki,ki,y,sc,d,k,p,m,bs,ls,kvs,r,rfl,rL ki (List.mem_of_getElem? ug),rfl,hd,zI.same ky,hS.same ky,λH7 s7=>⟨_,rfl,?_⟩⟩
  have ef:ie (upd H' T' (.tup [.str ⟨#[gf ki]⟩,y])) bs ls kvs (bU (upd H' T' (.tup [.str ⟨#[gf ki]⟩,y])) bs ls kvs r k) ki y=f (ki,y):=oq ky zI (λm z hz=>dq ky hz) ki
  rw [ef]
  cases eN:f (ki,y) with
  |false=>
   refine dQ rfl ?_
   have rT:((ks.zip ys).all λp=>ie H bs ls kvs (bU H bs ls kvs r k) p.1 p.2)=false:=by
    rw [List.all_eq_false]
    exact⟨_,List.mem_of_getElem? hz,by show ¬f (ki,y)=true;rw [eN];exact Bool.false_ne_true⟩
   rw [rT,Bool.false_and] at eV
   rw [eV] at q
   exact q H7 (ky.trans s7)
  |true=>
   refine dM rfl ⟨_,_,rfl,s5.trans (s6.trans s7),?_⟩
   rw [List.take_add_one,hz,List.all_append,dj,Bool.true_and]
   simp [eN]
 ·rintro i σ H' hi ⟨x4,x5,rfl,s5,dj⟩
  have IG:(ks.zip ys).length<=i:=by
   rw [Kz]
   rcases hi with hi|hi
   ·have:(codes ks).cps.size=ks.length:=zG
    omega
   ·omega
  rw [List.take_of_length_le IG] at dj
  have oy:((ks.zip ys).all λp=>ie H bs ls kvs (bU H bs ls kvs r k) p.1 p.2)=true:=dj
  rw [oy,Bool.true_and] at eV
  rw [eV] at q
  have j6:=jf.trans s5
  have z:=λH6 (s6:ax H' H6)=>q H6 (j6.trans s6)
  refine⟨_,rfl,a,_,0,_,rfl,rfl,aR.of (j6 _ _ ha),au (j:=0) rfl,rfl,_,rfl,?_⟩
  rw [KG]
  by_cases hc:x="call"
  case neg=>
   rw [decide_eq_false hc] at z ⊢
   exact dQ rfl (z H' (ax.refl H'))
  subst hc
  rw [decide_eq_true rfl] at z ⊢
  refine dM rfl ?_
  rw [Bool.not_true,Bool.false_or] at z
  have DJ:ks=(["box","function","values"]:List Str):=by
   have:bP "call"=some (["box","function","values"]:List Str):=rfl
   rw [this] at i8
   injection i8 with e
   exact e.symm
  subst DJ
  obtain⟨y0,y1,y2,rfl⟩:=three hlen
  have h3:ie H bs ls kvs (bU H bs ls kvs r k) "box" y0=true/\ie H bs ls kvs (bU H bs ls kvs r k) "function" y1=true/\ie H bs ls kvs (bU H bs ls kvs r k) "values" y2=true:=by
   have:=oy
   simp only [List.zip_cons_cons,List.zip_nil_right,List.all_cons,List.all_nil,Bool.and_true,Bool.and_eq_true] at this
   exact this
  have f1:gH y1=true/\ME kvs y1=true:=by
   have:=h3.2.1
   unfold ie at this
   rw [if_neg (by decide),if_neg (by decide),if_neg (by decide),if_neg (by decide),if_neg (by decide),if_pos rfl,Bool.and_eq_true] at this
   exact this
  have f2:bM H (isVal H bs ls 4) y2=true:=by
   have:=h3.2.2
   rw [pZ] at this
   exact this
  obtain⟨g',rfl⟩:=ik f1.1
  obtain⟨u',EZ⟩:=Option.isSome_iff_exists.mp (show (cP kvs (Sum.inr g')).isSome=true from f1.2)
  obtain⟨N,rfl⟩:=(nk g' u' EZ).2
  obtain⟨t,ty,⟨m2,a2,xs,_,rfl,rfl,K6,_,_⟩|⟨_,hn⟩⟩:=(hx y2 (by simp)).cS
  case inr=>unfold bM at f2;rw [hn] at f2;cases f2
  have OX:=s4.trans s5
  refine⟨_,rfl,a,_,3,_,rfl,rfl,aR.of (j6 _ _ ha),au (j:=3) rfl,a2,_,rfl,.inr (aR.of (j6 _ _ K6)),?_⟩
  refine⟨_,rfl,sc,_,rfl,eO (OX _ _ h1) IS,g,ts,ps,rfl,bX.of (OX _ _ hg),hz,vk.same OX,λa1 oP=>?_⟩
  rw [<-qV]
  have s7:=ah oP (.dK kvs)
  refine⟨_,rfl,a,_,2,_,rfl,rfl,aR.of (s7 _ _ (j6 _ _ ha)),au (j:=2) rfl,a1,V.int N,rfl,eO ae EZ,rfl,?_⟩
  have ec:tF H kvs [y0,.str g',.ref a2]=decide (V.int (xs.length:Int)=V.int N):=by
   show (match bb H (.ref a2) with
    |some xs=>decide (cP kvs (Sum.inr g')=some (V.int (xs.length:Int)))
    |none=>false)=_
   rw [ak K6,EZ]
   dsimp only
   by_cases h:(xs.length:Int)=N
   ·rw [h,decide_eq_true rfl,decide_eq_true rfl]
   ·rw [decide_eq_false (by intro z;injection z with z;injection z with z;exact h z.symm),decide_eq_false (by intro z;injection z with z;exact h z)]
  rw [<-ec]
  exact z _ s7
end
theorem all_empty{f:V->Bool}{xs:List V}:xs.all f=((xs.filter λx=>!f x).map id).isEmpty:=by
 rw [Bool.eq_iff_iff,List.all_eq_true,List.isEmpty_iff,List.map_eq_nil_iff,List.filter_eq_nil_iff]
 constructor
 ·intro h c hc;rw [h c hc];decide
 ·intro h c hc
  have:=h c hc
  simpa using this
def dJ(H:Hp)(n:Int)(v:V):Bool:=match bb H v with
 |some (y::ys)=>decide (((y::ys).length:Int)=n)&&gH y
 |_=>false
section
variable {P:Program} {w:World} {K:PySem.W.Frag} {mg:Str->Option Value} {base:Heap}
theorem DW:aO ["_law_thing","_law_most","_law_good"] ["_law_thing","_law_most","_law_good"] (ao (top 68)):=⟨rfl,rfl,rfl,by decide +kernel,rfl,by decide +kernel,by decide +kernel⟩
theorem vX{k:Nat}(T:Txt w K mg)(S:Src K mg "_law_all" (top 68) ["_law_thing","_law_most","_law_good"]):Def P w K mg base (k+1) "_law_all" ["_law_thing","_law_most","_law_good"] (gS P w K mg base k):=by
 refine S.ok DW (λvs H Q E h=>?_) (λf0 cD A outer s H vs Q E hr h=>?_)
 ·obtain⟨v,m,f,fd,ps,φ,p,n,rfl,_⟩:=h;rfl
 obtain⟨v,m,f,fd,ps,φ,p,n,rfl,hv,F,hk,hb,st,q⟩:=h
 refine⟨_,(ai (aX (cN (PW.pt (dX (bh (bf (aW bu rfl T.aH aE (aq (pv 0) (aq (dw T.cm bL rfl) aa))))) (dG (aQ lW (aW aN rfl T.cH bO (aq (pv 0) aa)) (pv 1) (aP _))))))
   (aj (aC cW)) aI)
   (aj (aC (bT (mO hr.iL) (cq (N':= ["_law_one","_law_good"]) (bg (ao (top 68)) (by rfl) (by decide +kernel) (by decide +kernel) (by decide +kernel) (by decide +kernel) (by decide +kernel) (by decide +kernel)) rfl (gP 1 [2] (by rfl) (by rfl) (by decide +kernel)) (cG (pv 0)) (λ_ _ _=>aM (i:=0) (show (["_law_one","_law_good"]:List Str).Nodup by decide +kernel) rfl (Or.inl rfl) (Or.inr rfl)) (λ_ _ _=>jn (bh (bf (show PE _ _ (qA P w K mg base k (bQ 1) (bD (bQ 0) fE)) from sF (pv 1) hr (aq (pv 0) aa))))) (λ_ _ _=>(pv 0))) (bN aa) (aP _))))),?_⟩
 try dsimp only [gQ]
 obtain⟨t,ty,⟨j,a,xs,rfl,rfl,rfl,ha,hl,hx⟩|⟨hf,hn⟩⟩:=hv.cS
 case inr=>
  have e:aV H m φ v=false:=by unfold aV;rw [hn]
  rw [e] at q
  refine⟨λt H'=>H=H'/\t=true,⟨_,rfl,_,"tuple",_,rfl,ty,by simp,_,rfl,dQ (by rw [hf];rfl) ⟨rfl,rfl⟩⟩,?_⟩
  rintro t H' ⟨rfl,rfl⟩
  exact dQ rfl (q H (ax.refl H))
 refine⟨λt H'=>H=H'/\t=decide ((m:Int)<(xs.length:Int)),⟨_,rfl,_,"tuple",_,rfl,ty,by simp,_,rfl,dM (by decide) ⟨_,rfl,a,_,rfl,.inr (aR.of ha),_,rfl,_,_,rfl,rfl,_,rfl,rfl,rfl⟩⟩,?_⟩
 rintro t H' ⟨rfl,rfl⟩
 by_cases c:(m:Int)<(xs.length:Int)
 ·have e:aV H m φ (.ref a)=false:=by
   unfold aV
   rw [ak ha]
   dsimp only
   rw [decide_eq_false (by omega),Bool.false_and]
  rw [e] at q
  exact dQ (decide_eq_true c) (q H (ax.refl H))
 refine dM (decide_eq_false c) ?_
 have e:aV H m φ (.ref a)=xs.all (φ H):=by
  unfold aV
  rw [ak ha]
  dsimp only
  rw [decide_eq_true (by omega),Bool.true_and]
 rw [e] at q
 refine⟨_,rfl,a,rfl,⟨xs,aR.of ha⟩,qB (cs:= [some (.ref f)]) xs (λx=>!φ H x) id (by omega) (λi H2 s hi=>⟨xs,_,aR.of (s _ _ ha),List.getElem?_eq_getElem hi⟩) (λH2 s=>⟨xs,aR.of (s _ _ ha),Nat.le_refl _⟩)
  (λi H2 x H3 s _ y=>⟨y.1,y.2 xs (aR.of (s _ _ ha))⟩) rfl (λi x H2 kk gm s2 oN=>?_) (λx H2 kk zH s2 oN=>?_) (λacc H' E6 s' AX=>?_)⟩
 ·have hD:=hx x (List.mem_of_getElem? gm)
  refine⟨_,rfl,f,fd,ps,fh φ,rfl,F,hk,hb,_,rfl,x,p,j,rfl,hD.same s2,λH3 s3=>⟨_,rfl,?_⟩⟩
  rw [st s2 hD]
  exact oN H3 s3
 ·exact⟨_,rfl,oN H2 (ax.refl H2)⟩
 ·refine⟨(by show 0<=sizeLine;decide),λb hb=>?_⟩
  have s2:=ah hb (.lst [])
  refine⟨acc,b,_,rfl,rfl,bX.of (s2 _ _ AX),bX.of ae,?_⟩
  rw [<-all_empty]
  exact q _ (s'.trans s2)
theorem By:aO ["_law_thing","_law_size"] ["_law_thing","_law_size"] (ao (top 69)):=⟨rfl,rfl,rfl,by decide +kernel,rfl,by decide +kernel,by decide +kernel⟩
def mY:Sp:=λvs H Q _=>∃(v:V) (m:Int) (p:Addr) (n:Nat),vs = [v,.int m]/\1<=m/\Dt p H n v/\∀H',ax H H'->Q (.bl (dJ H m v)) H'
theorem DX(T:Txt w K mg)(bH:Def P w K mg base 1 "_law_is_name" ["_law_thing"] eX)(S:Src K mg "_law_named" (top 69) ["_law_thing","_law_size"]):Def P w K mg base 2 "_law_named" ["_law_thing","_law_size"] mY:=by
 refine S.ok By (λvs H Q E h=>?_) (λf0 cD A outer s H vs Q E hr h=>?_)
 ·obtain⟨v,m,p,n,rfl,_⟩:=h;rfl
 obtain⟨v,m,p,n,rfl,hm,hv,q⟩:=h
 refine⟨_,(aj (aC (cF (aW bu rfl T.aH aE (aq (pv 0) (aq (dw T.cm bL rfl) aa))) (cF (bT cA (aW aN rfl T.cH bO (aq (pv 0) aa)) (pv 1) (aP _)) (di (aw (bH) hr rfl (aq (aJ aG (pv 0) ag (λ_ _=>rfl)) aa))))))),?_⟩
 try dsimp only [gQ]
 obtain⟨t,ty,⟨j,a,xs,rfl,rfl,rfl,ha,hl,hx⟩|⟨hf,hn⟩⟩:=hv.cS
 case inr=>
  have e:dJ H m v=false:=by unfold dJ;rw [hn]
  rw [e] at q
  exact⟨_,rfl,_,"tuple",_,rfl,ty,by simp,_,rfl,dM hf (q H (ax.refl H))⟩
 refine⟨_,rfl,_,"tuple",_,rfl,ty,by simp,_,rfl,dQ (by decide) ?_⟩
 refine⟨_,rfl,a,_,rfl,.inr (aR.of ha),_,rfl,rfl,_,rfl,?_⟩
 cases xs with
 |nil=>
  have e:dJ H m (.ref a)=false:=by unfold dJ;rw [ak ha]
  rw [e] at q
  refine dM (decide_eq_false λz=>?_) (q H (ax.refl H))
  injection z with z
  have z':(0:Int)=m:=z
  omega
 |cons y ys=>
 have e:dJ H m (.ref a)=(decide (((y::ys).length:Int)=m)&&gH y):=by unfold dJ;rw [ak ha]
 rw [e] at q
 by_cases c:((y::ys).length:Int)=m
 ·rw [decide_eq_true c,Bool.true_and] at q
  refine dQ (decide_eq_true (by rw [c])) ?_
  exact⟨_,rfl,a,_,0,_,rfl,rfl,aR.of ha,au (j:=0) rfl,y,p,j,rfl,hx y List.mem_cons_self,q⟩
 ·rw [decide_eq_false c,Bool.false_and] at q
  exact dM (decide_eq_false λz=>c (by injection z)) (q H (ax.refl H))
theorem jF{H:Hp}{m:Int}{v:V}(h:dJ H m v=true):∃(a:Addr) (y:V) (ys:List V),v=.ref a/\H a=some (.tup (y::ys))/\((y::ys).length:Int)=m/\gH y=true:=by
 unfold dJ at h
 cases e:bb H v with
 |none=>rw [e] at h;cases h
 |some xs=>
  obtain⟨a,rfl,ha⟩:=dS e
  rw [e] at h
  cases xs with
  |nil=>cases h
  |cons y ys=>
   rw [Bool.and_eq_true] at h
   exact⟨a,y,ys,rfl,ha,of_decide_eq_true h.1,h.2⟩
theorem two_of{y:V}{ys:List V}(h:((y::ys).length:Int)=2):∃z,ys = [z]:=by
 rw [List.length_cons] at h
 exact List.length_eq_one_iff.mp (by omega)
theorem DY{y:V}{ys:List V}(h:((y::ys).length:Int)=4):∃a b c,ys = [a,b,c]:=three (by rw [List.length_cons] at h;omega)
theorem p6{H:Hp}{v:V}{φ:Hp->V->Bool}(hn:∀{H:Hp} {v:V},φ H v=true->dJ H 2 v=true)(h:dJ H 2 v=false):φ H v=false:=by
 cases e:φ H v with
 |false=>rfl
 |true=>rw [hn e] at h;cases h
theorem zj{H:Hp}{v:V}(h:fI H v=true):dJ H 2 v=true:=by
 unfold fI at h
 unfold dJ
 split at h
 ·rename_i y z e
  rw [e]
  rw [Bool.and_eq_true] at h
  dsimp only
  rw [h.1];rfl
 ·cases h
theorem vY{H:Hp}{v:V}(h:cM H v=true):dJ H 2 v=true:=by
 unfold cM at h
 unfold dJ
 split at h
 ·rename_i y z e
  rw [e]
  rw [Bool.and_eq_true] at h
  dsimp only
  rw [h.1];rfl
 ·cases h
theorem zk{H:Hp}{v:V}(h:dy H v=true):dJ H 4 v=true:=by
 unfold dy at h
 unfold dJ
 split at h
 ·rename_i x ps os rs e
  rw [e]
  rw [Bool.and_eq_true] at h
  dsimp only
  rw [h.1];rfl
 ·cases h
theorem DZ:aO ["_law_thing"] ["_law_thing"] (ao (top 70)):=⟨rfl,rfl,rfl,by decide +kernel,rfl,by decide +kernel,by decide +kernel⟩
theorem Hm(T:Txt w K mg)(lj:Def P w K mg base 2 "_law_named" ["_law_thing","_law_size"] mY)(bp:Def P w K mg base 1 "_law_is_number" ["_law_thing"] gn)(S:Src K mg "_law_is_box" (top 70) ["_law_thing"]):Def P w K mg base 3 "_law_is_box" ["_law_thing"] (fh fI):=by
 refine S.ok DZ (λvs H Q E h=>?_) (λf0 cD A outer s H vs Q E hr h=>?_)
 ·obtain⟨v,p,n,rfl,_⟩:=h;rfl
 obtain⟨v,p,n,rfl,hv,q⟩:=h
 refine⟨_,(aj (aC (cF (aw (lj) hr rfl (aq (pv 0) (aq ag aa))) (di (aw (bp.mono (by decide)) hr rfl (aq (aJ aG (pv 0) ag (λ_ _=>rfl)) aa)))))),?_⟩
 try dsimp only [gQ]
 refine⟨_,rfl,v,2,p,n,rfl,by decide,hv,λH1 s1=>⟨_,rfl,?_⟩⟩
 cases c:dJ H 2 v with
 |false=>
  rw [p6 (φ:=fI) zj c] at q
  exact dM rfl (q H1 s1)
 |true=>
 refine dQ rfl ?_
 obtain⟨a,y,ys,rfl,ha,hl,hy⟩:=jF c
 obtain⟨z,rfl⟩:=two_of hl
 obtain⟨j,hx⟩:=hv.parts ha
 have e:fI H (.ref a)=iS z:=by unfold fI;rw [ak ha];dsimp only;rw [hy,Bool.true_and]
 rw [e] at q
 exact⟨_,rfl,a,_,1,_,rfl,rfl,aR.of (s1 _ _ ha),au (j:=1) rfl,z,p,j,rfl,(hx z (by simp)).same s1,q H1 s1⟩
theorem Bz:aO ["_law_thing"] ["_law_thing"] (ao (top 71)):=⟨rfl,rfl,rfl,by decide +kernel,rfl,by decide +kernel,by decide +kernel⟩
theorem D0(T:Txt w K mg)(lj:Def P w K mg base 2 "_law_named" ["_law_thing","_law_size"] mY)(bp:Def P w K mg base 1 "_law_is_number" ["_law_thing"] gn)(mm:Def P w K mg base 2 "_law_all" ["_law_thing","_law_most","_law_good"] (gS P w K mg base 1))
  (S:Src K mg "_law_is_list" (top 71) ["_law_thing"]):Def P w K mg base 3 "_law_is_list" ["_law_thing"] (fh cM):=by
 obtain⟨fn,fd,F,yg,DG,DH⟩:=bp.ex
 refine S.ok Bz (λvs H Q E h=>?_) (λf0 cD A outer s H vs Q E hr h=>?_)
 ·obtain⟨v,p,n,rfl,_⟩:=h;rfl
 obtain⟨v,p,n,rfl,hv,q⟩:=h
 refine⟨_,(aj (aC (cF (aw (lj) hr rfl (aq (pv 0) (aq ag aa))) (di (aw (mm) hr rfl (aq (aJ aG (pv 0) ag (λ_ _=>rfl)) (aq ag (aq (br (v:=.ref fn) rfl yg rfl) aa)))))))),?_⟩
 try dsimp only [gQ]
 refine⟨_,rfl,v,2,p,n,rfl,by decide,hv,λH1 s1=>⟨_,rfl,?_⟩⟩
 cases c:dJ H 2 v with
 |false=>
  rw [p6 (φ:=cM) vY c] at q
  exact dM rfl (q H1 s1)
 |true=>
 refine dQ rfl ?_
 obtain⟨a,y,ys,rfl,ha,hl,hy⟩:=jF c
 obtain⟨z,rfl⟩:=two_of hl
 obtain⟨j,hx⟩:=hv.parts ha
 have e:cM H (.ref a)=aV H 12 (λ_ x=>iS x) z:=by unfold cM;rw [ak ha];dsimp only;rw [hy,Bool.true_and]
 rw [e] at q
 refine⟨_,rfl,a,_,1,_,rfl,rfl,aR.of (s1 _ _ ha),au (j:=1) rfl,z,12,fn,fd,_,λ_ x=>iS x,p,j,rfl,(hx z (by simp)).same s1,F.imp (λvs H Q E h=>?_),DG,DH,qI,λH2 s2=>?_⟩
 ·obtain⟨v,p,n,e,hv,q⟩:=h
  exact⟨v,p,n,e,hv,q H (ax.refl H)⟩
 ·rw [qJ s1 (hx z (by simp))]
  exact q H2 (s1.trans s2)
theorem D1:aO ["_law_thing"] ["_law_thing"] (ao (top 72)):=⟨rfl,rfl,rfl,by decide +kernel,rfl,by decide +kernel,by decide +kernel⟩
theorem Hn(T:Txt w K mg)(lj:Def P w K mg base 2 "_law_named" ["_law_thing","_law_size"] mY)(bH:Def P w K mg base 1 "_law_is_name" ["_law_thing"] eX)(mm:Def P w K mg base 2 "_law_all" ["_law_thing","_law_most","_law_good"] (gS P w K mg base 1))
  (S:Src K mg "_law_is_function" (top 72) ["_law_thing"]):Def P w K mg base 3 "_law_is_function" ["_law_thing"] (fh dy):=by
 obtain⟨fn,fd,F,yg,DG,DH⟩:=bH.ex
 refine S.ok D1 (λvs H Q E h=>?_) (λf0 cD A outer s H vs Q E hr h=>?_)
 ·obtain⟨v,p,n,rfl,_⟩:=h;rfl
 obtain⟨v,p,n,rfl,hv,q⟩:=h
 refine⟨_,(ai (aX (cN (PW.pt (dX (bh (bf (aw (lj) hr rfl (aq (pv 0) (aq ag aa))))) (dG (bh (bf (aW bu rfl T.aH aE (aq (aJ aG (pv 0) ag (λ_ _=>rfl)) (aq (dw T.cm bL rfl) aa)))))))))
   (aj (aC cW)) aI)
   (aj (aC (cF (aw (mm) hr rfl (aq (aJ aG (pv 0) ag (λ_ _=>rfl)) (aq ag (aq (br (v:=.ref fn) rfl yg rfl) aa)))) (di (aw (mm) hr rfl (aq (aJ aG (pv 0) ag (λ_ _=>rfl)) (aq ag (aq (br (v:=.ref fn) rfl yg rfl) aa))))))))),?_⟩
 try dsimp only [gQ]
 refine⟨λt H'=>ax H H'/\((t=true/\dy H v=false)\/(t=false/\∃(j:Nat) (a ra:Addr) (y ps os:V) (rs:List V),v=.ref a/\H a=some (.tup [y,ps,os,.ref ra])/\H ra=some (.tup rs)/\gH y=true/\Dt p H j ps/\Dt p H j os)),?_,?_⟩
 ·refine⟨_,rfl,v,4,p,n,rfl,by decide,hv,λH1 s1=>⟨_,rfl,?_⟩⟩
  cases c:dJ H 4 v with
  |false=>
   refine dQ rfl ⟨s1,.inl ⟨rfl,?_⟩⟩
   cases e:dy H v with
   |false=>rfl
   |true=>rw [zk e] at c;cases c
  |true=>
  refine dM rfl ?_
  obtain⟨a,y,ys,rfl,ha,hl,hy⟩:=jF c
  obtain⟨ps,os,rv,rfl⟩:=DY hl
  obtain⟨j,hx⟩:=hv.parts ha
  obtain⟨t,ty,⟨m,ra,rs,_,rfl,rfl,gp,_,_⟩|⟨hf,hn⟩⟩:=((hx rv (by simp)).same s1).cS
  ·refine⟨_,rfl,a,_,3,_,rfl,rfl,aR.of (s1 _ _ ha),au (j:=3) rfl,_,"tuple",_,rfl,ty,by simp,_,rfl,s1,.inr ⟨by decide,j,a,ra,y,ps,os,rs,rfl,ha,?_,hy,hx ps (by simp),hx os (by simp)⟩⟩
   have e0:bb H (.ref ra)=some rs:=by rw [<-bj s1 (hx _ (by simp)),ak gp]
   obtain⟨_,e1,e2⟩:=dS e0
   cases e1
   exact e2
  ·refine⟨_,rfl,a,_,3,_,rfl,rfl,aR.of (s1 _ _ ha),au (j:=3) rfl,_,"tuple",_,rfl,ty,by simp,_,rfl,s1,.inl ⟨by rw [hf];rfl,?_⟩⟩
   unfold dy
   rw [ak ha]
   dsimp only
   rw [<-bj s1 (hx rv (by simp)),hn]
   simp
 rintro t H1 ⟨s1,⟨rfl,hn⟩|⟨rfl,j,a,ra,y,ps,os,rs,rfl,ha,gp,hy,vk,zE⟩⟩
 ·rw [hn] at q
  exact dQ rfl (q H1 s1)
 refine dM rfl ?_
 have e:dy H (.ref a)=(aV H 3 (λ_ x=>gH x) ps&&aV H 3 (λ_ x=>gH x) os):=by
  unfold dy
  rw [ak ha]
  dsimp only
  rw [ak gp,hy,Bool.true_and]
  simp
 rw [e] at q
 refine⟨_,rfl,a,_,1,_,rfl,rfl,aR.of (s1 _ _ ha),au (j:=1) rfl,ps,3,fn,fd,_,λ_ x=>gH x,p,j,rfl,vk.same s1,F,DG,DH,oo,λH2 s2=>⟨_,rfl,?_⟩⟩
 rw [lN s1 vk]
 cases c:aV H 3 (λ_ x=>gH x) ps with
 |false=>
  rw [c,Bool.false_and] at q
  exact dM rfl (q H2 (s1.trans s2))
 |true=>
 rw [c,Bool.true_and] at q
 refine dQ rfl ?_
 refine⟨_,rfl,a,_,2,_,rfl,rfl,aR.of (s2 _ _ (s1 _ _ ha)),au (j:=2) rfl,os,3,fn,fd,_,λ_ x=>gH x,p,j,rfl,zE.same (s1.trans s2),F,DG,DH,oo,λH3 s3=>?_⟩
 rw [lN (s1.trans s2) zE]
 exact q H3 (s1.trans (s2.trans s3))
theorem tR:∀{ws:List Str},decide ws.Nodup=((((ws.map V.str).filter λv=>decide (1<ws.count (jd v)))).map id).isEmpty:=by
 intro ws
 rw [Bool.eq_iff_iff,decide_eq_true_iff,List.isEmpty_iff,List.map_eq_nil_iff,List.filter_eq_nil_iff,List.nodup_iff_count]
 constructor
 ·intro h v hv
  have:=h (jd v)
  rw [decide_eq_true_iff];omega
 ·intro h x
  by_cases hx:x∈ws
  ·have:=h (.str x) (List.mem_map.mpr ⟨x,hx,rfl⟩)
   rw [decide_eq_true_iff] at this
   have e:jd (V.str x)=x:=rfl
   rw [e] at this
   omega
  ·rw [List.count_eq_zero_of_not_mem hx];omega
theorem vZ:aO ["_law_names_here"] ["_law_names_here"] (ao (top 73)):=⟨rfl,rfl,rfl,by decide +kernel,rfl,by decide +kernel,by decide +kernel⟩
theorem zm(T:Txt w K mg)(S:Src K mg "_law_unlike" (top 73) ["_law_names_here"]):Def P w K mg base 1 "_law_unlike" ["_law_names_here"] jx:=by
 refine S.ok vZ (λvs H Q E h=>?_) (λf0 cD A outer s H vs Q E hr h=>?_)
 ·obtain⟨l,ws,rfl,_⟩:=h;rfl
 obtain⟨l,ws,rfl,hl,UG,q⟩:=h
 refine⟨_,(aj (aC (bT (mO hr.iL) (cq (N':= ["_law_name","_law_names_here"]) (bg (ao (top 73)) (by rfl) (by decide +kernel) (by decide +kernel) (by decide +kernel) (by decide +kernel) (by decide +kernel) (by decide +kernel)) rfl (gP 1 [0] (by rfl) (by rfl) (by decide +kernel)) (kC (pv 0)) (λ_ _ _=>aM (i:=0) (show (["_law_name","_law_names_here"]:List Str).Nodup by decide +kernel) rfl (Or.inl rfl) (Or.inr rfl)) (λ_ _ _=>jn (aQ lW (show PE _ _ (NB K "list" _ _ _) from (j3 PySem.F.plainAttrs_list PySem.F.slot_list_count PySem.F.type_list_count yQ (pv 1) (aq (pv 0) aa))) ag (aP _))) (λ_ _ _=>(pv 0))) (bN aa) (aP _)))),?_⟩
 try dsimp only [gQ]
 refine⟨_,rfl,l,rfl,⟨_,bX.of hl⟩,qB (cs:= [some (.ref l)]) (ws.map V.str) (λv=>decide (1<ws.count (jd v))) id (by rw [List.length_map];omega) (λi H2 s hi=>⟨_,_,bX.of (s _ _ hl),List.getElem?_eq_getElem hi⟩) (λH2 s=>⟨_,bX.of (s _ _ hl),Nat.le_refl _⟩)
  (λi H2 x H3 s _ y=>⟨y.1,y.2 _ (bX.of (s _ _ hl))⟩) rfl (λi x H2 kk gm s2 oN=>?_) (λx H2 kk zH s2 oN=>?_) (λacc H' E6 s' AX=>?_)⟩
 ·obtain⟨x,hx,rfl⟩:=List.mem_map.mp (List.mem_of_getElem? gm)
  refine⟨_,rfl,.inl ⟨rfl,_,bX.of (s2 _ _ hl)⟩,_,rfl,l,ws,x,rfl,rfl,s2 _ _ hl,_,_,rfl,rfl,_,rfl,?_⟩
  have e:decide ((1:Int)<((ws.count x:Nat):Int))=decide (1<ws.count (jd (V.str x))):=decide_eq_decide.mpr (by show _↔1<ws.count x;omega)
  rw [e]
  exact oN H2 (ax.refl H2)
 ·exact⟨_,rfl,oN H2 (ax.refl H2)⟩
 ·refine⟨(by show 0<=sizeLine;decide),λb hb=>?_⟩
  have s2:=ah hb (.lst [])
  refine⟨acc,b,_,rfl,rfl,bX.of (s2 _ _ AX),bX.of ae,?_⟩
  rw [<-tR]
  exact q _ (s'.trans s2)
end
theorem D2{H:Hp}{a:Addr}{xs:List V}(h:H a=some (.tup xs)):pI H (.ref a)=some "tuple":=by unfold pI;dsimp only;rw [h]
def oE(x:Str):Bool:=decide (x∈(["if","while","try"]:List Str))
theorem D3{x:Str}{ks:List Str}(h:bP x=some ks)(hd:oE x=false):∀k∈ks,k≠"rows":=by
 have oK:x∉(["if","while","try"]:List Str):=of_decide_eq_false hd
 simp only [List.mem_cons,List.not_mem_nil,or_false,not_or] at oK
 obtain⟨n1,n2,n3⟩:=oK
 unfold bP at h
 have go:∀{c:Prop} [Decidable c] {l:List Str} {r:Option (List Str)},(if c then some l else r)=some ks->(c->∀k∈l,k≠"rows")->(r=some ks->∀k∈ks,k≠"rows")->∀k∈ks,k≠"rows":=λ{c} _ {l} {r} h hl hr=>by
  by_cases hc:c
  ·rw [if_pos hc] at h
   injection h with h
   exact h▸hl hc
  ·rw [if_neg hc] at h
   exact hr h
 refine go h (λ_=>by decide) λh=>go h (λ_=>by decide) λh=>go h (λ_=>by decide) λh=>go h (λ_=>by decide) λh=>go h (λ_=>by decide) λh=>go h (λ_=>by decide) λh=>go h (λz=>absurd z n1) λh=>go h (λz=>absurd z n2) λh=>go h (λz=>absurd z n3) λh=>go h (λ_=>by decide) λh=>go h (λ_=>by decide) λh=>go h (λ_=>by decide) λh=>?_
 cases h
theorem BA{x:Str}{ks:List Str}(h:bP x=some ks)(hd:oE x=true):∀k∈ks,k="rows"\/k="value"\/k="box":=by
 have oK:x∈(["if","while","try"]:List Str):=of_decide_eq_true hd
 simp only [List.mem_cons,List.not_mem_nil,or_false] at oK
 rcases oK with rfl|rfl|rfl
 ·obtain rfl:ks=(["value","rows","rows"]:List Str):=by
   have:bP "if"=some (["value","rows","rows"]:List Str):=rfl
   rw [this] at h;injection h with h;exact h.symm
  intro k hk;simp at hk;rcases hk with rfl|rfl<;>simp
 ·obtain rfl:ks=(["value","rows"]:List Str):=by
   have:bP "while"=some (["value","rows"]:List Str):=rfl
   rw [this] at h;injection h with h;exact h.symm
  intro k hk;simp at hk;rcases hk with rfl|rfl<;>simp
 ·obtain rfl:ks=(["rows","box","rows"]:List Str):=by
   have:bP "try"=some (["rows","box","rows"]:List Str):=rfl
   rw [this] at h;injection h with h;exact h.symm
  intro k hk;simp at hk;rcases hk with rfl|rfl|rfl<;>simp
theorem v5{H:Hp}{bs ls:List Str}{k:Nat}{v:V}(h:isVal H bs ls k v=true):∃(a:Addr) (x:Str) (ys:List V),v=.ref a/\H a=some (.tup (.str x::ys)):=by
 cases e:bb H v with
 |none=>rw [fH e] at h;cases h
 |some xs=>
  obtain⟨a,rfl,ha⟩:=dS e
  cases xs with
  |nil=>rw [iA ha] at h;cases h
  |cons y ys=>
   by_cases hy:∃x,y=.str x
   ·obtain⟨x,rfl⟩:=hy
    exact⟨a,x,ys,rfl,ha⟩
   ·rw [gZ ha λx z=>hy ⟨x,z⟩] at h;cases h
theorem p7{H:Hp}{bs ls:List Str}{kvs:gJ}{r:Bool}{k:Nat}{v:V}(h:bU H bs ls kvs r k v=true):∃(k':Nat) (a:Addr) (x:Str) (ys:List V) (ks:List Str),k=k'+1/\v=.ref a/\H a=some (.tup (.str x::ys))/\bP x=some ks/\ys.length=ks.length/\∀q∈ks.zip ys,ie H bs ls kvs (bU H bs ls kvs r k') q.1 q.2=true:=by
 cases k with
 |zero=>cases h
 |succ k=>
 cases e:bb H v with
 |none=>rw [cT (by unfold cX;rw [e])] at h;cases h
 |some xs=>
  obtain⟨a,rfl,ha⟩:=dS e
  by_cases hy:∃x ys,xs=.str x::ys
  ·obtain⟨x,ys,rfl⟩:=hy
   rw [fO ha] at h
   unfold jy at h
   cases hf:bP x with
   |none=>rw [hf] at h;cases h
   |some ks=>
    rw [hf] at h
    dsimp only at h
    rw [Bool.and_eq_true,Bool.and_eq_true,Bool.and_eq_true] at h
    exact⟨k,a,x,ys,ks,rfl,rfl,ha,hf,of_decide_eq_true h.1,λq hq=>List.all_eq_true.mp h.2.2.1 q hq⟩
  ·have hw:cX H (.ref a)=false:=by
    unfold cX
    rw [ak ha]
    match xs,hy with
    | [],_=>rfl
    |y::ys,hy=>
     cases y with
     |str x=>exact absurd ⟨x,ys,rfl⟩ hy
     |_=>rfl
   rw [cT hw] at h;cases h
theorem D4{H:Hp}{bs ls:List Str}{kvs:gJ}{r:Bool}{k:Nat}{rows:List V}(h:∀v∈rows,bU H bs ls kvs r k v=true):cnt H k rows=rows.length+(rows.map λv=>cnt H (k-1) (inner H v)).sum:=by
 cases k with
 |zero=>
  cases rows with
  |nil=>rfl
  |cons v r=>exact absurd (h v List.mem_cons_self) (by intro z;cases z)
 |succ k=>
  show _=rows.length+(rows.map λv=>cnt H k (inner H v)).sum
  clear h
  induction rows with
  |nil=>rw [cnt_nil];rfl
  |cons v r ih=>rw [cnt_cons,ih,List.map_cons,List.sum_cons,List.length_cons];omega
def lq(k:Nat):Sp:=λvs H Q _=>∃(ra:Addr) (rows:List V) (p:Addr) (n:Nat) (bs ls:List Str) (kvs:gJ) (r:Bool),vs = [.ref ra]/\H ra=some (.tup rows)/\(∀x∈rows,Dt p H n x)/\(∀x∈rows,bU H bs ls kvs r k x=true)/\∀H',ax H H'->Q (.int (cnt H k rows)) H'
def K7(k:Nat):Sp:=λvs H Q E=>∃k',k=k'+1/\lq k' vs H Q E
section
variable {P:Program} {w:World} {K:PySem.W.Frag} {mg:Str->Option Value} {base:Heap}
theorem iE:aO ["_law_rows","_law_found","_law_row","_law_part"] ["_law_rows"] (ao (top 74)):=⟨rfl,rfl,rfl,by decide +kernel,rfl,by decide +kernel,by decide +kernel⟩
theorem p8{k j:Nat}(T:Txt w K mg)(S:Src K mg "_law_count" (top 74) ["_law_rows"])(IH:Def P w K mg base (j+1) "_law_count" ["_law_rows"] (K7 k)):Def P w K mg base (j+2) "_law_count" ["_law_rows"] (lq k):=by
 refine S.ok iE (λvs H Q E h=>?_) (λf0 cD A outer s H vs Q E hr h=>?_)
 ·obtain⟨ra,rows,p,n,bs,ls,kvs,r,rfl,_⟩:=h;rfl
 obtain⟨ra,rows,p,n,bs,ls,kvs,r,rfl,gp,hD,hR,q⟩:=h
 refine⟨_,(ai (aS (i:=1) iE.nd rfl (Or.inl rfl) (aW aN rfl T.cH bO (aq (pv 0) aa)))
   (ai (dO PassesOwn.never rfl (cG (pv 0)) (aM (i:=2) iE.nd rfl (Or.inl rfl))
   (aj (dO PassesOwn.never rfl (cG (bJ dg (pv 2) (bV ag) cp)) (aM (i:=3) iE.nd rfl (Or.inl rfl))
   (aj (aX (cN (PW.pt (nA (aQ fL (aJ aG (pv 2) ag (λ_ _=>rfl)) (bN (bq [.str "if",.str "while",.str "try"] (by rfl))) (by rfl)) (kz (bf (aW bu rfl T.aH aE (aq (pv 3) (aq (dw T.cm bL rfl) aa))))))))
   (aj (aX (cN (PW.pt (dX (aQ (qy hr.iL) (pv 3) (aA aa) (aP _)) (dG (bf (aW bu rfl T.aH aE (aq (aJ aG (pv 3) ag (λ_ _=>rfl)) (aq (dw T.cm bL rfl) aa))))))))
   (aj (aS (i:=1) iE.nd rfl (Or.inl rfl) (aU eW (pv 1) (aw (IH) hr rfl (aq (pv 3) aa))))) aI)) aI)))))
   (aj (aC (pv 1))))),?_⟩
 try dsimp only [gQ]
 refine⟨_,rfl,ra,rows,rfl,.inr (aR.of gp),?_⟩
 refine⟨_,rfl,ra,rfl,⟨_,aR.of gp⟩,fz (xs:=rows) (λi σ H'=>∃x2 x3,σ = [some (.ref ra),some (.int ((rows.length+((rows.take i).map λv=>cnt H (k-1) (inner H v)).sum:Nat):Int)),x2,x3]/\ax H H') ⟨_,_,by rw [List.take_zero];rfl,ax.refl H⟩ ?_ ?_ ?_⟩
 ·rintro i σ H' _ ⟨x2,x3,rfl,s1⟩
  exact aR.of (s1 _ _ gp)
 ·rintro i v σ H' KL ⟨x2,x3,rfl,s1⟩
  have MH:=List.mem_of_getElem? KL
  obtain⟨k',a,x,ys,ks,rfl,rfl,ha,hf,hlen,Ox⟩:=p7 (hR v MH)
  have Sq:k'+1-1=k':=rfl
  obtain⟨m,Vk⟩:=(hD _ MH).parts ha
  have ei:inner H (.ref a)=(jP ks ys ks.length).flatMap (cj H):=hJ ha hf
  generalize rX:(rows.length+((rows.take i).map λv=>cnt H (k'+1-1) (inner H v)).sum:Nat)=B
  refine⟨_,rfl,1,rfl,a,_,rfl,s1 _ _ ha,λpt H2 s2 h2=>?_⟩
  rw [ju] at h2
  have ui:=s1.trans s2
  refine⟨pt,rfl,⟨_,aR.of h2⟩,fz (xs:=ys) (λi2 σ H'=>∃x3,σ = [some (.ref ra),some (.int ((B+cnt H k' ((jP ks ys i2).flatMap (cj H)):Nat):Int)),some (.ref a),x3]/\ax H2 H') ⟨_,by rw [oz];show _ = [_,some (V.int ((B+cnt H k' []:Nat):Int)),_,_];rw [cnt_nil];rfl,ax.refl H2⟩ ?_ ?_ ?_⟩
  ·rintro i2 σ H3 _ ⟨x3,rfl,s3⟩
   exact aR.of (s3 _ _ h2)
  ·rintro i2 y σ H3 hy ⟨x3,rfl,s3⟩
   have qY:=ui.trans s3
   obtain⟨ki,ug⟩:∃ki,ks[i2]?=some ki:=by
    obtain⟨eQ,_⟩:=List.getElem?_eq_some_iff.mp hy
    exact⟨_,List.getElem?_eq_getElem (by omega)⟩
   have vk:=oA ug hy
   have OY:=Ox (ki,y) (List.mem_of_getElem? (by rw [List.getElem?_zip_eq_some];exact⟨ug,hy⟩))
   have zI:=Vk y (List.mem_cons_of_mem _ (List.mem_of_getElem? hy))
   have skip:ki≠"rows"->jP ks ys (i2+1)=jP ks ys i2:=λh=>by rw [vk,if_neg h,List.append_nil]
   refine⟨λtt H'=>ax H3 H'/\tt=(oE x&&(bb H y).isSome),?_,?_⟩
   ·refine⟨_,rfl,a,_,0,_,rfl,rfl,aR.of (qY _ _ ha),au (j:=0) rfl,(by show 3<=sizeLine;decide),λc hc=>?_⟩
    have s4:=ah hc (.lst [.str "if",.str "while",.str "try"])
    refine⟨c,_,rfl,.inl (bX.of ae),rfl,rfl,_,rfl,?_⟩
    have ei:uI (.str x) [.str "if",.str "while",.str "try"]=oE x:=K1 x ["if","while","try"]
    refine bZ (λd1=>?_) (λd1=>?_)
    ·have Bq:oE x=true:=by rw [<-ei];exact d1
     have eT:=bj (qY.trans s4) zI
     obtain⟨t',Ky,⟨m',c',zs,_,rfl,rfl,mw,_,_⟩|⟨E4,Cv⟩⟩:=((zI.same qY).same s4).cS
     ·exact⟨_,rfl,_,"tuple",_,rfl,Ky,by simp,_,rfl,s4,by rw [<-eT,ak mw,Bq];rfl⟩
     ·exact⟨_,rfl,_,"tuple",_,rfl,Ky,by simp,_,rfl,s4,by rw [<-eT,Cv,E4,Bq];rfl⟩
    ·have Bq:oE x=false:=by rw [<-ei];exact Bool.eq_false_iff.mpr d1
     exact⟨s4,by rw [Bq,Bool.false_and]⟩
   rintro tt H4 ⟨s4,rfl⟩
   have jf:=qY.trans s4
   cases hd:oE x with
   |false=>exact dM rfl ⟨some y,by rw [skip (D3 hf hd ki (List.mem_of_getElem? ug))];rfl,s3.trans s4⟩
   |true=>
   rcases BA hf hd ki (List.mem_of_getElem? ug) with rfl|rfl|rfl
   ·have hb:bM H (bU H bs ls kvs r k') y=true:=by rw [<-xH];exact OY
    cases eT:bb H y with
    |none=>unfold bM at hb;rw [eT] at hb;cases hb
    |some zs=>
    have dj:zs.all (bU H bs ls kvs r k')=true:=by unfold bM at hb;rw [eT] at hb;exact hb
    obtain⟨c,rfl,hc⟩:=dS eT
    obtain⟨m2,Ho⟩:=zI.parts hc
    refine dQ rfl ?_
    refine⟨λtt H'=>ax H4 H'/\tt=true,?_,?_⟩
    ·refine⟨_,rfl,(by show 0<=sizeLine;decide),λb hb=>?_⟩
     have s5:=ah hb (.tup [])
     refine⟨c,b,zs,[],rfl,rfl,aR.of (s5 _ _ (jf _ _ hc)),aR.of ae,.inr rfl,_,rfl,bZ (λd1=>⟨s5,rfl⟩) (λd1=>?_)⟩
     cases zs with
     |nil=>exact absurd rfl d1
     |cons z zs=>
     obtain⟨_,a2,x',RP,_,_,rfl,uh,_⟩:=p7 (List.all_eq_true.mp dj z List.mem_cons_self)
     exact⟨_,rfl,c,_,0,_,rfl,rfl,aR.of (s5 _ _ (jf _ _ hc)),au (j:=0) rfl,_,"tuple","tuple",rfl,D2 (s5 _ _ (jf _ _ uh)),by simp,_,rfl,s5,by decide⟩
    rintro tt H5 ⟨s5,rfl⟩
    have j6:=jf.trans s5
    refine dQ rfl ?_
    refine⟨_,rfl,_,rfl,k',rfl,c,zs,p,m2,bs,ls,kvs,r,rfl,j6 _ _ hc,λz hz=>(Ho z hz).same j6,λz hz=>by rw [dq j6 (Ho z hz)];exact List.all_eq_true.mp dj z hz,λH6 s6=>?_⟩
    refine⟨_,_,rfl,rfl,some (.ref c),?_,s3.trans (s4.trans (s5.trans s6))⟩
    have ec:cnt H5 k' zs=cnt H k' zs:=hU (TK.of j6) λz hz=>mT (Ho z hz) (List.all_eq_true.mp dj z hz)
    have en:(B+cnt H k' ((jP ks ys (i2+1)).flatMap (cj H)):Nat)=B+cnt H k' ((jP ks ys i2).flatMap (cj H))+cnt H5 k' zs:=by
     rw [ec,vk,if_pos rfl,List.flatMap_append,jQ,List.flatMap_cons,List.flatMap_nil,List.append_nil,dR hc]
     omega
    rw [en,Int.natCast_add]
    rfl
   ·have hv:isVal H bs ls 4 y=true:=by rw [<-lh];exact OY
    obtain⟨c,z,zs,rfl,hc⟩:=v5 hv
    refine dQ (by rw [ak hc];rfl) ?_
    refine⟨λtt H'=>ax H4 H'/\tt=false,?_,?_⟩
    ·refine⟨_,rfl,(by show 0<=sizeLine;decide),λb hb=>?_⟩
     have s5:=ah hb (.tup [])
     refine⟨c,b,_,[],rfl,rfl,aR.of (s5 _ _ (jf _ _ hc)),aR.of ae,.inr rfl,_,rfl,bZ (λd1=>by cases d1) (λd1=>?_)⟩
     exact⟨_,rfl,c,_,0,_,rfl,rfl,aR.of (s5 _ _ (jf _ _ hc)),au (j:=0) rfl,_,"tuple","str",rfl,rfl,by simp,_,rfl,s5,by decide⟩
    rintro tt H5 ⟨s5,rfl⟩
    exact dM rfl ⟨some (.ref c),by rw [skip (by decide)];rfl,s3.trans (s4.trans s5)⟩
   ·have hv:gH y=true:=by
     have:=OY
     unfold ie at this
     dsimp only at this
     rw [if_neg (by decide),if_neg (by decide),if_neg (by decide),Bool.and_eq_true] at this
     exact this.1
    obtain⟨z,rfl⟩:=ik hv
    exact dM rfl ⟨some (.str z),by rw [skip (by decide)];rfl,s3.trans s4⟩
  ·rintro σ H3 ⟨x3,rfl,s3⟩
   have en:(rows.length+((rows.take (i+1)).map λv=>cnt H (k'+1-1) (inner H v)).sum:Nat)=B+cnt H k' ((jP ks ys ys.length).flatMap (cj H)):=by
    rw [List.take_add_one,KL,List.map_append,List.sum_append,<-rX,hlen,<-ei]
    show rows.length+(_+(cnt H k' (inner H (.ref a))+0))=rows.length+_+cnt H k' (inner H (.ref a))
    omega
   rw [en]
   exact⟨_,_,rfl,ui.trans s3⟩
 ·rintro σ H' ⟨x2,x3,rfl,s1⟩
  rw [List.take_length,<-D4 hR]
  exact⟨_,rfl,q H' s1⟩
theorem tS(T:Txt w K mg)(S:Src K mg "_law_count" (top 74) ["_law_rows"]):∀k:Nat,Def P w K mg base (k+2) "_law_count" ["_law_rows"] (lq k)
 |0=>p8 T S (S.no λvs H Q E h=>by obtain⟨k',hk,_⟩:=h;omega)
 |k+1=>p8 T S ((tS T S k).imp λvs H Q E h=>by
   obtain⟨k',hk,h⟩:=h
   obtain rfl:k=k':=by omega
   exact h)
end
def tT(n:Nat):Str:=if n=0 then "" else if n=1 then "program" else if n=2 then "row" else "long"
theorem hW{K:PySem.W.Frag}{H H2:Hp}{x:V}{k:VK}(hx:∃b y ys,x=.ref b/\H b=some (.tup (y::ys)))(s:ax H H2)(hk:∀H3,ax H2 H3->k (cg H x) H3):iG (eu K) (bQ 0) (tC (V.int 0)) [some x] H2 k:=by
 obtain⟨b,y,ys,rfl,hb⟩:=hx
 have e:cg H (.ref b)=y:=by unfold cg;rw [ak hb]
 rw [e] at hk
 exact⟨_,rfl,b,_,0,_,rfl,rfl,aR.of (s _ _ hb),au (j:=0) rfl,hk H2 (ax.refl H2)⟩
theorem rg{φ:Hp->V->Bool}(N:IM φ){H:Hp}{xs:List V}(h:xs.all (φ H)=true):∀x∈xs,∃b y ys,x=.ref b/\H b=some (.tup (y::ys)):=λx hx=>by
 obtain⟨a,y,ys,e,ha,_⟩:=N (List.all_eq_true.mp h x hx)
 exact⟨a,_,_,e,ha⟩
def AllK(kvs:gJ):Prop:=∀kv∈kvs,∃(f:Str) (n:Int),kv=(Sum.inr f,.int n)/\fc f=true
theorem AllK.put{kvs:gJ}{f:Str}{n:Int}(h:AllK kvs)(hf:fc f=true):AllK (putK kvs (Sum.inr f) (.int n)):=by
 intro kv qV
 unfold putK at qV
 split at qV
 ·obtain⟨OP,h1,rfl⟩:=List.mem_map.mp qV
  by_cases e:OP.1=Sum.inr f
  ·rw [if_pos e];exact⟨f,n,by rw [e],hf⟩
  ·rw [if_neg e];exact h OP h1
 ·rcases List.mem_append.mp qV with h1|h1
  ·exact h kv h1
  ·rw [List.mem_singleton] at h1;subst h1;exact⟨f,n,rfl,hf⟩
theorem AllK.merge:∀{more kvs:gJ},AllK more->AllK kvs->AllK (bw kvs more)
 | [],_,_,h=>h
 |kv::more,kvs,hm,h=>by
  obtain⟨f,n,rfl,hf⟩:=hm kv List.mem_cons_self
  exact AllK.merge (more:=more) (λy hy=>hm y (List.mem_cons_of_mem _ hy)) (h.put hf)
theorem AllK.keys:∀{kvs:gJ},AllK kvs->∃ws:List Str,kvs.map (·.1)=ws.map Sum.inr
 | [],_=>⟨[],rfl⟩
 |kv::r,h=>by
  obtain⟨f,n,rfl,_⟩:=h kv List.mem_cons_self
  obtain⟨ws,e⟩:=AllK.keys (kvs:=r) λy hy=>h y (List.mem_cons_of_mem _ hy)
  exact⟨f::ws,by rw [List.map_cons,List.map_cons,e]⟩
theorem AllK.val{kvs:gJ}(h:AllK kvs){f:Str}{u:V}(e:cP kvs (Sum.inr f)=some u):fc f=true/\∃n:Int,u=.int n:=by
 unfold cP at e
 obtain⟨kv,h1,rfl⟩:=Option.map_eq_some_iff.mp e
 obtain⟨g,n,rfl,hg⟩:=h kv (List.mem_of_find?_eq_some h1)
 have h2:=List.find?_some h1
 have h3:(Sum.inr g:Key)=Sum.inr f:=of_decide_eq_true h2
 injection h3 with h3
 subst h3
 exact⟨hg,n,rfl⟩
theorem cY{H:Hp}{a:Addr}{xs:List V}(h:H a=some (.tup xs)):aY H (.ref a)=xs:=by unfold aY;rw [ak h];rfl
theorem jJ.upd{T:Addr}{H:Hp}{o:HO}:jJ T H (L2.upd H T o):=λc q hc h=>by rw [aK hc];exact h
theorem xI(g:V->Nat):∀(xs:List V),(xs.map λf=>1+g f).sum=xs.length+(xs.map g).sum
 | []=>rfl
 |x::r=>by rw [List.map_cons,List.map_cons,List.sum_cons,List.sum_cons,xI g r,List.length_cons];omega
section
variable {P:Program} {w:World} {K:PySem.W.Frag} {mg:Str->Option Value} {base:Heap}
theorem hZ:aO ["_law_boxes","_law_lists","_law_functions","_law_rows","_law_names_here","_law_one","_law_scope","_law_found"] ["_law_boxes","_law_lists","_law_functions","_law_rows"] (ao (top 75)):=⟨rfl,rfl,rfl,by decide +kernel,rfl,by decide +kernel,by decide +kernel⟩
def xJ:Sp:=λvs H Q _=>∃(b l f r:V) (p:Addr) (n:Nat),vs = [b,l,f,r]/\Dt p H n b/\Dt p H n l/\Dt p H n f/\Dt p H n r/\∀H',ax H H'->Q (.str (tT (verdict H b l f r))) H'
theorem D5(T:Txt w K mg)(Bc:Def P w K mg base 3 "_law_is_box" ["_law_thing"] (fh fI))(vN:Def P w K mg base 3 "_law_is_list" ["_law_thing"] (fh cM))(Be:Def P w K mg base 3 "_law_is_function" ["_law_thing"] (fh dy))
  (mm:Def P w K mg base 4 "_law_all" ["_law_thing","_law_most","_law_good"] (gS P w K mg base 3)) (gA:Def P w K mg base 1 "_law_unlike" ["_law_names_here"] jx)
  (eY:Def P w K mg base 22 "_law_are_rows" ["_law_thing","_law_names_here","_law_deep_here"] (vV 5)) (D6:∀k,Def P w K mg base (k+2) "_law_count" ["_law_rows"] (lq k))
  (S:Src K mg "_law_kind" (top 75) ["_law_boxes","_law_lists","_law_functions","_law_rows"]):Def P w K mg base 23 "_law_kind" ["_law_boxes","_law_lists","_law_functions","_law_rows"] xJ:=by
 obtain⟨fb,OD,Fb,OE,OF,JF⟩:=Bc.ex
 obtain⟨fl,OG,Fl,OH,KJ,OI⟩:=vN.ex
 obtain⟨ff,OL,Ff,OM,ON,OO⟩:=Be.ex
 refine S.ok hZ (λvs H Q E h=>?_) (λf0 cD A outer s H vs Q E hr h=>?_)
 ·obtain⟨b,l,f,r,p,n,rfl,_⟩:=h;rfl
 obtain⟨b,l,f,r,p,n,rfl,hb,hl,hf,xt,q⟩:=h
 refine⟨_,(cE (aX (cN (PW.pt (dX (bh (bf (aw (mm.mono (by decide)) hr rfl (aq (pv 0) (aq ag (aq (br (v:=.ref fb) rfl OE rfl) aa)))))) (dG (bh (bf (aw (mm.mono (by decide)) hr rfl (aq (pv 1) (aq ag (aq (br (v:=.ref fl) rfl OH rfl) aa))))))))))
   (aj (aC aD)) aI)
   (cE (aX (bh (bf (aW bu rfl T.aH aE (aq (pv 3) (aq (dw T.cm bL rfl) aa)))))
   (aj (aC aD)) aI)
   (cE (aS (i:=4) hZ.nd rfl (Or.inl rfl) (aU dE (cq (N':= ["_law_one"]) (bg (ao (top 75)) (by rfl) (by decide +kernel) (by decide +kernel) (by decide +kernel) (by decide +kernel) (by decide +kernel) (by decide +kernel)) rfl (gP 1 [] (by rfl) (by rfl) (by decide +kernel)) (cG (pv 0)) (λ_ _ _=>aM (i:=0) (show (["_law_one"]:List Str).Nodup by decide +kernel) rfl (Or.inl rfl) (Or.inr rfl)) (λ_ _ _=>cB) (λ_ _ _=>(aJ (show gj _ (eu K) from aG) (pv 0) ag (λ_ _=>rfl)))) (cq (N':= ["_law_one"]) (bg (ao (top 75)) (by rfl) (by decide +kernel) (by decide +kernel) (by decide +kernel) (by decide +kernel) (by decide +kernel) (by decide +kernel)) rfl (gP 1 [] (by rfl) (by rfl) (by decide +kernel)) (cG (pv 1)) (λ_ _ _=>aM (i:=0) (show (["_law_one"]:List Str).Nodup by decide +kernel) rfl (Or.inl rfl) (Or.inr rfl)) (λ_ _ _=>cB) (λ_ _ _=>(aJ (show gj _ (eu K) from aG) (pv 0) ag (λ_ _=>rfl))))))
   (cE (aX (cN (PW.pt (dX (bh (bf (aw (mm.mono (by decide)) hr rfl (aq (pv 2) (aq ag (aq (br (v:=.ref ff) rfl OM rfl) aa)))))) (dG (bh (bf (aw (gA.mono (by decide)) hr rfl (aq (pv 4) aa))))))))
   (aj (aC aD)) aI)
   (cE (aX (bh (bf (aw (gA.mono (by decide)) hr rfl (aq (cq (N':= ["_law_one"]) (bg (ao (top 75)) (by rfl) (by decide +kernel) (by decide +kernel) (by decide +kernel) (by decide +kernel) (by decide +kernel) (by decide +kernel)) rfl (gP 1 [] (by rfl) (by rfl) (by decide +kernel)) (cG (pv 2)) (λ_ _ _=>aM (i:=0) (show (["_law_one"]:List Str).Nodup by decide +kernel) rfl (Or.inl rfl) (Or.inr rfl)) (λ_ _ _=>cB) (λ_ _ _=>(aJ (show gj _ (eu K) from aG) (pv 0) ag (λ_ _=>rfl)))) aa))))
   (aj (aC aD)) aI)
   (cE (dO PassesOwn.never rfl (cG (pv 2)) (aM (i:=5) hZ.nd rfl (Or.inl rfl))
   (aj (aX (bh (bf (aw (gA.mono (by decide)) hr rfl (aq (aU dE (aU dE (pv 4) (eM cJ rfl T.g8 fT (aq (aJ aG (pv 5) ag (λ_ _=>rfl)) aa))) (eM cJ rfl T.g8 fT (aq (aJ aG (pv 5) ag (λ_ _=>rfl)) aa))) aa))))
   (aj (aC aD)) aI)))
   (cE (aS (i:=6) hZ.nd rfl (Or.inl rfl) (mM (cQ aD (cq (N':= ["_law_one"]) (bg (ao (top 75)) (by rfl) (by decide +kernel) (by decide +kernel) (by decide +kernel) (by decide +kernel) (by decide +kernel) (by decide +kernel)) rfl (gP 1 [] (by rfl) (by rfl) (by decide +kernel)) (cG (pv 1)) (λ_ _ _=>aM (i:=0) (show (["_law_one"]:List Str).Nodup by decide +kernel) rfl (Or.inl rfl) (Or.inr rfl)) (λ_ _ _=>cB) (λ_ _ _=>(aJ (show gj _ (eu K) from aG) (pv 0) ag (λ_ _=>rfl)))) mL) rfl rfl (by intro z;cases z) (by decide)))
   (cE (qt (fS hr) (pv 6) aD (cq (N':= ["_law_one"]) (bg (ao (top 75)) (by rfl) (by decide +kernel) (by decide +kernel) (by decide +kernel) (by decide +kernel) (by decide +kernel) (by decide +kernel)) rfl (gP 1 [] (by rfl) (by rfl) (by decide +kernel)) (cG (pv 2)) (λ_ _ _=>aM (i:=0) (show (["_law_one"]:List Str).Nodup by decide +kernel) rfl (Or.inl rfl) (Or.inr rfl)) (λ_ _ _=>cB) (λ_ _ _=>(aA (aq (aJ (show gj _ (eu K) from aG) (pv 0) ag (λ_ _=>rfl)) (aq (aW (show bI _ _ (GL K) from aN) rfl T.cH bO (aq (aJ (show gj _ (eu K) from aG) (pv 0) ag (λ_ _=>rfl)) aa)) aa))))) rfl)
   (cE (aS (i:=7) hZ.nd rfl (Or.inl rfl) (aW aN rfl T.cH bO (aq (pv 2) aa)))
   (cE (dO PassesOwn.never rfl (cG (aU bK (pv 2) (aA (aq (aA (aq aD (aq (aA aa) (aq (aA aa) (aq (pv 3) aa))))) aa)))) (aM (i:=5) hZ.nd rfl (Or.inl rfl))
   (ai (qt (fS hr) (pv 6) aD (aU dE (aU dE (cq (N':= ["_law_box"]) (bg (ao (top 75)) (by rfl) (by decide +kernel) (by decide +kernel) (by decide +kernel) (by decide +kernel) (by decide +kernel) (by decide +kernel)) rfl (gP 1 [] (by rfl) (by rfl) (by decide +kernel)) (cG (pv 0)) (λ_ _ _=>aM (i:=0) (show (["_law_box"]:List Str).Nodup by decide +kernel) rfl (Or.inl rfl) (Or.inr rfl)) (λ_ _ _=>cB) (λ_ _ _=>(aJ (show gj _ (eu K) from aG) (pv 0) ag (λ_ _=>rfl)))) (eM cJ rfl T.g8 fT (aq (aJ aG (pv 5) ag (λ_ _=>rfl)) aa))) (eM cJ rfl T.g8 fT (aq (aJ aG (pv 5) ag (λ_ _=>rfl)) aa))) rfl)
   (ai (qt (fS hr) (pv 6) aD (bT ji (aJ aG (pv 5) ag (λ_ _=>rfl)) aD (aP _)) rfl)
   (ai (aX (bh (bf (aw (eY) hr rfl (aq (aJ aG (pv 5) ag (λ_ _=>rfl)) (aq (pv 6) (aq ag aa))))))
   (aj (aC aD)) aI)
   (aj (aS (i:=7) hZ.nd rfl (Or.inl rfl) (aU eW (pv 7) (aw ((D6 5).mono (by decide)) hr rfl (aq (aJ aG (pv 5) ag (λ_ _=>rfl)) aa)))))))))
   (aj (aC (aJ cU (bN (bq [.str "",.str "long"] (by rfl))) (eM pq rfl T.w9 qz (aq (bT lW (pv 7) ag (aP _)) aa)) (λ_ _=>rfl)))))))))))))),?_⟩
 try dsimp only [gQ]
 have l3:(100000:Nat)<sizeLine:=by rw [sizeLine_eq];decide
 have v1:verdict H b l f r=1->∀H',ax H H'->Q (.str "program") H':=λe=>by rw [e] at q;exact q
 refine⟨λσ H'=>σ = [some b,some l,some f,some r,none,none,none,none]/\ax H H'/\aV H 6 fI b=true/\aV H 3 cM l=true,?_,?_⟩
 ·refine⟨λt H'=>ax H H'/\t = !(aV H 6 fI b&&aV H 3 cM l),?_,?_⟩
  ·refine⟨_,rfl,b,6,fb,OD,_,fI,p,n,rfl,hb,Fb,OF,JF,mS,λH1 s1=>⟨_,rfl,?_⟩⟩
   cases c1:aV H 6 fI b with
   |false=>exact dQ rfl ⟨s1,rfl⟩
   |true=>
   refine dM rfl ?_
   refine⟨_,rfl,l,3,fl,OG,_,cM,p,n,rfl,hl.same s1,Fl,KJ,OI,iB,λH2 s2=>⟨_,rfl,s1.trans s2,?_⟩⟩
   have e2:aV H1 3 cM l=aV H 3 cM l:=gR iB s1 hl
   rw [e2,Bool.true_and]
  rintro t H1 ⟨s1,rfl⟩
  cases c:(aV H 6 fI b&&aV H 3 cM l) with
  |false=>
   refine dQ rfl (v1 ?_ H1 s1)
   unfold verdict
   rw [if_pos]
   unfold eE
   rw [<-Bool.and_assoc,c,Bool.false_and]
  |true=>
   rw [Bool.and_eq_true] at c
   exact dM rfl ⟨rfl,s1,c.1,c.2⟩
 rintro σ H1 ⟨rfl,s1,c1,c2⟩
 obtain⟨ab,xb,rfl,xm,tb,lb,iV⟩:=bW c1
 obtain⟨al,xl,rfl,xn,tl,ll,iW⟩:=bW c2
 refine⟨λσ H'=>σ = [some (.ref ab),some (.ref al),some f,some r,none,none,none,none]/\ax H H'/\∃ar xr,r=.ref ar/\H ar=some (.tup xr),?_,?_⟩
 ·have eT:=bj s1 xt
  obtain⟨t,ty,⟨m,ar,xr,_,rfl,rfl,Bh,_,_⟩|⟨E4,hn⟩⟩:=(xt.same s1).cS
  ·rw [ak Bh] at eT
   obtain⟨_,e,Bi⟩:=dS eT.symm
   cases e
   exact⟨_,rfl,_,"tuple",_,rfl,ty,by simp,_,rfl,dM (by decide) ⟨rfl,s1,ar,xr,rfl,Bi⟩⟩
  ·refine⟨_,rfl,_,"tuple",_,rfl,ty,by simp,_,rfl,dQ (by rw [E4];rfl) (v1 ?_ H1 s1)⟩
   unfold verdict
   by_cases e1:eE H (.ref ab) (.ref al)=false
   ·rw [if_pos e1]
   rw [if_neg e1]
   by_cases e2:dm H (aB H (aY H (.ref ab))++aB H (aY H (.ref al))) f=false
   ·rw [if_pos e2]
   rw [if_neg e2,if_pos (by rw [<-eT,hn])]
 rintro σ H2 ⟨rfl,s2,ar,xr,rfl,Bh⟩
 obtain⟨mb,vO⟩:=hb.parts xm
 obtain⟨ml,vP⟩:=hl.parts xn
 have Sr:∀{H':Hp},ax H H'->xb.map (cg H')=(aB H xb).map V.str:=λs=>by rw [dZ s vO,fC fB iV]
 have Ss:∀{H':Hp},ax H H'->xl.map (cg H')=(aB H xl).map V.str:=λs=>by rw [dZ s vP,fC dY iW]
 have refs:∀{H':Hp} {xs:List V},ax H H'->(∀x∈xs,∃b y ys,x=.ref b/\H b=some (.tup (y::ys)))->∀x∈xs,∃b y ys,x=.ref b/\H' b=some (.tup (y::ys)):=λs h x hx=>by
  obtain⟨b,y,ys,e,hb⟩:=h x hx
  exact⟨b,y,ys,e,s _ _ hb⟩
 have rb:=rg fB iV
 have rl:=rg dY iW
 refine⟨λσ H'=>∃nm,σ = [some (.ref ab),some (.ref al),some f,some (.ref ar),some (.ref nm),none,none,none]/\ax H H'/\H' nm=some (.lst ((aB H xb++aB H xl).map V.str)),?_,?_⟩
 ·refine⟨_,rfl,ab,rfl,⟨xb,aR.of (s2 _ _ xm)⟩,fj (te:=iG (eu K) (bQ 0) (tC (V.int 0))) (cs:= []) (cg H2) (s2 _ _ xm) (by omega) rfl (λx H3 k3 hx s3 hk=>hW (refs s2 rb x hx) s3 hk) (λu1 H3 md s3 h3=>?_)⟩
  rw [Sr s2] at h3
  have qY:=s2.trans s3
  refine⟨_,rfl,al,rfl,⟨xl,aR.of (qY _ _ xn)⟩,fj (te:=iG (eu K) (bQ 0) (tC (V.int 0))) (cs:= []) (cg H3) (qY _ _ xn) (by omega) rfl (λx H4 k4 hx s4 hk=>hW (refs qY rl x hx) s4 hk) (λu2 H4 kN s4 h4=>?_)⟩
  rw [Ss qY] at h4
  refine⟨u1,u2,_,_,rfl,rfl,s4 _ _ h3,h4,by simp only [aB,List.length_map];omega,λu3 oO=>⟨u3,rfl,qY.trans (s4.trans (ah oO _)),?_⟩⟩
  rw [ae,List.map_append]
 rintro σ H3 ⟨nm,rfl,s3,Fm⟩
 have OJ:(aB H xb).length=xb.length:=List.length_map _
 have OK:(aB H xl).length=xl.length:=List.length_map _
 have vv:verdict H (.ref ab) (.ref al) f (.ref ar)=if eE H (.ref ab) (.ref al)=false then 1 else if dm H (aB H xb++aB H xl) f=false then 1 else if eG H xb xl (aY H f) (.ref ar)=false then 2 else if 60<total H f (.ref ar) then 3 else 0:=by
  unfold verdict
  rw [tb,tl,ak Bh,if_neg (c:=some xr=none) (Option.some_ne_none _)]
 have Su:eE H (.ref ab) (.ref al)=decide (aB H xb++aB H xl).Nodup:=by unfold eE;rw [c1,c2,tb,tl,Bool.true_and,Bool.true_and]
 refine⟨λσ H'=>σ = [some (.ref ab),some (.ref al),some f,some (.ref ar),some (.ref nm),none,none,none]/\ax H3 H'/\aV H 4 dy f=true/\(aB H xb++aB H xl).Nodup,?_,?_⟩
 ·refine⟨λt H'=>ax H3 H'/\t = !(aV H 4 dy f&&decide (aB H xb++aB H xl).Nodup),?_,?_⟩
  ·refine⟨_,rfl,f,4,ff,OL,_,dy,p,n,rfl,hf.same s3,Ff,ON,OO,jL,λH4 s4=>⟨_,rfl,?_⟩⟩
   have e3:aV H3 4 dy f=aV H 4 dy f:=gR jL s3 hf
   rw [e3]
   cases c3:aV H 4 dy f with
   |false=>exact dQ rfl ⟨s4,rfl⟩
   |true=>
   refine dM rfl ?_
   exact⟨_,rfl,nm,_,rfl,s4 _ _ Fm,by rw [List.length_append];omega,λH5 s5=>⟨_,rfl,s4.trans s5,rfl⟩⟩
  rintro t H4 ⟨s4,rfl⟩
  cases c:(aV H 4 dy f&&decide (aB H xb++aB H xl).Nodup) with
  |false=>
   refine dQ rfl (v1 ?_ H4 (s3.trans s4))
   rw [vv,Su]
   cases d:decide (aB H xb++aB H xl).Nodup with
   |false=>rw [if_pos rfl]
   |true=>
    rw [d,Bool.and_true] at c
    rw [if_neg Bool.noConfusion,if_pos]
    unfold dm
    rw [c,Bool.false_and]
  |true=>
   rw [Bool.and_eq_true] at c
   exact dM rfl ⟨rfl,s4,c.1,of_decide_eq_true c.2⟩
 rintro σ H4 ⟨rfl,s4,c3,OZ⟩
 obtain⟨af,xf,rfl,rF,tf,lf,gC⟩:=bW c3
 obtain⟨mf,vR⟩:=hf.parts rF
 have jf:=s3.trans s4
 have Vl:∀{H':Hp},ax H H'->xf.map (cg H')=(aB H xf).map V.str:=λs=>by rw [dZ s vR,fC mU gC]
 have rf:=rg mU gC
 have Xy:(aB H xf).length=xf.length:=List.length_map _
 have ent:eE H (.ref ab) (.ref al)=true:=by rw [Su];exact decide_eq_true OZ
 have O0:dm H (aB H xb++aB H xl) (.ref af)=(decide (aB H xf).Nodup&&xf.all λf=>decide ((aB H xb++aB H xl)++iX H f).Nodup):=by unfold dm;rw [c3,tf,Bool.true_and]
 have vf:dm H (aB H xb++aB H xl) (.ref af)=false->verdict H (.ref ab) (.ref al) (.ref af) (.ref ar)=1:=λe=>by rw [vv,ent,if_neg Bool.noConfusion,if_pos e]
 have O1:=s4 _ _ Fm
 refine⟨λσ H'=>σ = [some (.ref ab),some (.ref al),some (.ref af),some (.ref ar),some (.ref nm),none,none,none]/\ax H4 H'/\(aB H xf).Nodup,?_,?_⟩
 ·refine⟨_,rfl,af,rfl,⟨xf,aR.of (jf _ _ rF)⟩,fj (te:=iG (eu K) (bQ 0) (tC (V.int 0))) (cs:= []) (cg H4) (jf _ _ rF) (by omega) rfl (λx H5 k5 hx s5 hk=>hW (refs jf rf x hx) s5 hk) (λu1 H5 md s5 h5=>?_)⟩
  rw [Vl jf] at h5
  refine⟨u1,_,rfl,h5,by omega,λH6 s6=>⟨_,rfl,?_⟩⟩
  by_cases d:(aB H xf).Nodup
  ·exact dM (by rw [decide_eq_true d];rfl) ⟨rfl,s5.trans s6,d⟩
  ·refine dQ (by rw [decide_eq_false d];rfl) (v1 (vf ?_) H6 (jf.trans (s5.trans s6)))
   rw [O0,decide_eq_false d,Bool.false_and]
 rintro σ H5 ⟨rfl,s5,O2⟩
 have j6:=jf.trans s5
 have O3:=s5 _ _ O1
 let own:V->Bool:=λf=>decide ((aB H xb++aB H xl)++iX H f).Nodup
 have zp:∀g∈xf,∃(b pa oa ra:Addr) (y:Str) (ps os:List Str) (rs:List V),g=.ref b/\H b=some (.tup [.str y,.ref pa,.ref oa,.ref ra])/\fc y=true/\H pa=some (.tup (ps.map V.str))/\H oa=some (.tup (os.map V.str))/\H ra=some (.tup rs)/\ps.length<=3/\os.length<=3/\(∀x∈ps,fc x=true)/\(∀x∈os,fc x=true):=λg hg=>dI (List.all_eq_true.mp gC g hg)
 refine⟨λσ H'=>∃x5,σ = [some (.ref ab),some (.ref al),some (.ref af),some (.ref ar),some (.ref nm),x5,none,none]/\ax H5 H'/\xf.all own=true,?_,?_⟩
 ·refine⟨_,rfl,af,rfl,⟨_,aR.of (j6 _ _ rF)⟩,fz (xs:=xf) (λi σ H'=>∃x5,σ = [some (.ref ab),some (.ref al),some (.ref af),some (.ref ar),some (.ref nm),x5,none,none]/\ax H5 H'/\(xf.take i).all own=true) ⟨_,rfl,ax.refl H5,rfl⟩ ?_ ?_ ?_⟩
  ·rintro i σ H' _ ⟨x5,rfl,s6,_⟩
   exact aR.of (s6 _ _ (j6 _ _ rF))
  ·rintro i g σ H6 Sv ⟨x5,rfl,s6,dj⟩
   have Sw:=List.mem_of_getElem? Sv
   obtain⟨c,pa,oa,ra,y,ps,os,rs,rfl,hc,hy,jS,kj,gp,ML,MM,K8,K9⟩:=zp g Sw
   have ky:=j6.trans s6
   have eo:iX H (.ref c)=ps++os:=dU hc jS kj
   refine⟨_,rfl,_,rfl,c,_,1,_,rfl,rfl,aR.of (ky _ _ hc),au (j:=1) rfl,pa,_,rfl,.inr (aR.of (ky _ _ jS)),λu1 md=>?_⟩
   have s7:=ah md (.lst (ps.map V.str))
   refine⟨nm,u1,_,_,rfl,rfl,s7 _ _ (s6 _ _ O3),ae,by simp only [List.length_map,List.length_append];omega,λu2 kN=>?_⟩
   have s8:=ah kN (.lst ((aB H xb++aB H xl).map V.str++ps.map V.str))
   have zJ:=ky.trans (s7.trans s8)
   refine⟨_,rfl,c,_,2,_,rfl,rfl,aR.of (zJ _ _ hc),au (j:=2) rfl,oa,_,rfl,.inr (aR.of (zJ _ _ kj)),λu3 oO=>?_⟩
   have s9:=ah oO (.lst (os.map V.str))
   refine⟨u2,u3,_,_,rfl,rfl,s9 _ _ ae,ae,by simp only [List.length_map,List.length_append];omega,λu4 KR=>?_⟩
   have lR:=ah KR (.lst (((aB H xb++aB H xl).map V.str++ps.map V.str)++os.map V.str))
   refine⟨u4,(aB H xb++aB H xl)++iX H (.ref c),rfl,by rw [ae,eo];simp only [List.map_append,List.append_assoc],by rw [eo];simp only [List.length_append];omega,λxM tU=>⟨_,rfl,?_⟩⟩
   have sn:=s7.trans (s8.trans (s9.trans (lR.trans tU)))
   cases d:own (.ref c) with
   |false=>
    refine dQ (by show (!own (.ref c))=true;rw [d];rfl) (v1 (vf ?_) xM (ky.trans sn))
    rw [O0]
    have:(xf.all λf=>decide ((aB H xb++aB H xl)++iX H f).Nodup)=false:=jM Sw d
    rw [this,Bool.and_false]
   |true=>exact dM (by show (!own (.ref c))=false;rw [d];rfl) ⟨_,rfl,s6.trans sn,iC Sv dj d⟩
  ·rintro σ H6 ⟨x5,rfl,s6,dj⟩
   rw [List.take_length] at dj
   exact⟨x5,rfl,s6,dj⟩
 rintro σ H6 ⟨x5,rfl,s6,O4⟩
 have ky:=j6.trans s6
 have O5:dm H (aB H xb++aB H xl) (.ref af)=true:=by
  rw [O0,decide_eq_true O2,Bool.true_and]
  exact O4
 have Sx:verdict H (.ref ab) (.ref al) (.ref af) (.ref ar)=if eG H xb xl xf (.ref ar)=false then 2 else if 60<total H (.ref af) (.ref ar) then 3 else 0:=by
  rw [vv,ent,O5,if_neg Bool.noConfusion,if_neg Bool.noConfusion,tf]
 refine⟨λσ H'=>∃u ll,σ = [some (.ref ab),some (.ref al),some (.ref af),some (.ref ar),some (.ref nm),x5,some (.ref u),none]/\ax H6 H'/\H6 u=none/\H' u=some (.dK [(Sum.inr "lists",.ref ll)])/\H' ll=some (.lst ((aB H xl).map V.str))/\ll≠u,?_,?_⟩
 ·refine λu hu=>?_
  have s7:=ah hu (.dK [])
  have oZ:=ky.trans s7
  have IU:upd H6 u (.dK []) u=some (.dK []):=ae
  generalize upd H6 u (.dK [])=H7 at s7 oZ IU
  refine⟨_,rfl,al,rfl,⟨xl,aR.of (oZ _ _ xn)⟩,fj (te:=iG (eu K) (bQ 0) (tC (V.int 0))) (cs:= []) (cg H7) (oZ _ _ xn) (by omega) rfl (λx H4 k4 hx s4 hk=>hW (refs oZ rl x hx) s4 hk) (λu1 H8 md s8 h8=>?_)⟩
  rw [Ss oZ] at h8
  have ne:u1≠u:=λz=>by rw [z,IU] at md;cases md
  refine⟨s8 _ _ IU,[(Sum.inr "lists",.ref u1)],rfl,(by show 1<=15;decide),u,u1,rfl,λb' o eN=>?_,hu,ae,by rw [aK ne];exact h8,ne⟩
  rw [aK (aL eN hu)]
  exact s8 _ _ (s7 _ _ eN)
 rintro σ H7 ⟨u,ll,rfl,s7,Vm,IU,Vn,Sy⟩
 have oZ:=ky.trans s7
 have Sz:H u=none:=ky.free Vm
 let pc:=kh H xf
 have Vo:pc.length=xf.length:=List.length_map _
 refine⟨λσ H'=>∃g ts dk,σ = [some (.ref ab),some (.ref al),some (.ref af),some (.ref ar),some (.ref nm),x5,some (.ref u),none]/\ax H H'/\H' u=some (.dK dk)/\dk.length<=2/\cP dk (Sum.inr "lists")=some (.ref ll)/\cP dk (Sum.inr "functions")=some (.ref g)/\H' ll=some (.lst ((aB H xl).map V.str))/\H' g=some (.lst ts)/\zf H' ts pc/\g≠u,?_,?_⟩
 ·refine⟨_,rfl,af,rfl,⟨xf,aR.of (oZ _ _ rF)⟩,wZ (K:=K) (tc:=λ_ H Q=>Q true H) (te:=ic (bD (iG (eu K) (bQ 0) (tC (V.int 0))) (bD (CD (GL K) (bD (iG (eu K) (bQ 0) (tC (V.int 1))) fE)) fE))) (cs:= [])
   (λacc i ys H'=>H7 acc=none/\ax H7 H'/\zf H' ys (pc.take i)) (by omega) rfl (λacc bR=>⟨bR,ah bR _,by rw [List.take_zero];exact .nil⟩) (λacc i ys H' h=>h.2.1 _ _ (oZ _ _ rF)) ?_ ?_⟩
  ·rintro acc i x ys H8 kT kF bR gm ⟨_,s8,hp⟩ Cj Hq O6
   have zJ:=oZ.trans s8
   obtain⟨c,pa,oa,ra,y,ps,os,rs,rfl,hc,hy,jS,kj,gp,ML,MM,K8,K9⟩:=zp x (List.mem_of_getElem? gm)
   refine⟨_,rfl,c,_,0,_,rfl,rfl,aR.of (zJ _ _ hc),au (j:=0) rfl,_,rfl,c,_,1,_,rfl,rfl,aR.of (zJ _ _ hc),au (j:=1) rfl,pa,_,rfl,.inr (aR.of (zJ _ _ jS)),(by show 2<=sizeLine;omega),λt ht=>?_⟩
   have s9:=ah ht (.tup [.str y,.int ((ps.map V.str).length:Int)])
   refine Hq _ _ (s9 _ _ Cj) ⟨bR,λb' o eN=>?_,?_⟩
   ·rw [aK (aL eN bR)];exact s9 _ _ (s8 _ _ eN)
   ·have Vp:t≠acc:=λz=>by rw [z,Cj] at ht;cases ht
    have OR:pc[i]?=some (Sum.inr y,V.int ((ps.map V.str).length:Int)):=by
     show (xf.map _)[i]?=_
     rw [List.getElem?_map,gm]
     have e1:cg H (.ref c)=.str y:=by unfold cg;rw [ak hc]
     show some (Sum.inr (jd (cg H (.ref c))),V.int ((tP H (.ref c)).length:Int))=_
     rw [e1,kW hc jS]
     rfl
    rw [List.take_add_one,OR]
    refine dP (Paired.fP hp λt' kv z=>?_) (.cons ⟨t,rfl,?_⟩ .nil)
    ·obtain⟨b',e,eN⟩:=z
     refine⟨b',e,?_⟩
     rw [aK (λz=>by rw [z,Cj] at eN;cases eN)]
     exact s9 _ _ eN
    ·rw [aK Vp];exact ae
  ·rintro acc ys H8 bR ⟨_,s8,hp⟩ Cj _
   have zJ:=oZ.trans s8
   have SA:acc≠u:=λz=>by rw [z,IU] at bR;cases bR
   rw [<-Vo,List.take_length] at hp
   have MN:=s8 _ _ IU
   refine⟨_,rfl,u,_,rfl,uL.k (k:=Sum.inr "functions") MN (by show 1<sizeLine;omega),acc,ys,_,rfl,λb' o eN=>?_,ae,fN _ _ _,?_,?_,?_,?_,?_,SA⟩
   ·rw [aK (aL eN Sz)];exact zJ _ _ eN
   ·rw [dH,if_neg (by decide),da rfl]
   ·rw [dH,if_pos rfl]
   ·rw [aK Sy];exact s8 _ _ Vn
   ·rw [aK SA];exact Cj
   ·exact Paired.fP hp λt' kv z=>by
     obtain⟨b',e,eN⟩:=z
     exact⟨b',e,by rw [aK (λz=>by rw [z,MN] at eN;cases eN)];exact eN⟩
 rintro σ H8 ⟨g,ts,dk,rfl,s8,MN,Xz,vl,vg,Cj,Vq,Vr,neg⟩
 refine⟨λσ H'=>σ = [some (.ref ab),some (.ref al),some (.ref af),some (.ref ar),some (.ref nm),x5,some (.ref u),some (.int (xf.length:Int))]/\H8=H',?_,?_⟩
 ·exact⟨_,rfl,af,xf,rfl,.inr (aR.of (s8 _ _ rF)),rfl,rfl⟩
 rintro σ H' ⟨rfl,rfl⟩
 have SD:AllK (kvsOf H xf):=AllK.merge (λkv qV=>by
  obtain⟨x,hx,rfl⟩:=List.mem_map.mp qV
  obtain⟨c,pa,oa,ra,y,ps,os,rs,rfl,hc,hy,_⟩:=zp x hx
  have e1:cg H (.ref c)=.str y:=by unfold cg;rw [ak hc]
  exact⟨y,_,by rw [e1];rfl,hy⟩) (λkv h=>by simp at h)
 have IV:∀x∈aB H xb,fc x=true:=λx hx=>by
  obtain⟨v,hv,rfl⟩:=List.mem_map.mp hx
  obtain⟨a,y,ys,rfl,ha,hy⟩:=fB (List.all_eq_true.mp iV v hv)
  have e1:cg H (.ref a)=.str y:=by unfold cg;rw [ak ha]
  rw [e1];exact hy
 have MO:∀x∈aB H xl,fc x=true:=λx hx=>by
  obtain⟨v,hv,rfl⟩:=List.mem_map.mp hx
  obtain⟨a,y,ys,rfl,ha,hy⟩:=dY (List.all_eq_true.mp iW v hv)
  have e1:cg H (.ref a)=.str y:=by unfold cg;rw [ak ha]
  rw [e1];exact hy
 let gd:Hp->V->Bool:=λh x=>bM H (bU H (aB H xb++iX h x) (aB H xl) (kvsOf H xf) (!decide (cg h x=.str "")) 5) (dN h x)
 let ct:Hp->V->Nat:=λh x=>cnt H 5 (cj H (dN h x))
 refine⟨λσ H'=>∃(N:Nat) (x5:Option V),σ = [some (.ref ab),some (.ref al),some (.ref af),some (.ref ar),some (.ref nm),x5,some (.ref u),some (.int (N:Int))]/\ax H H'/\eG H xb xl xf (.ref ar)=true/\N=total H (.ref af) (.ref ar),?_,?_⟩
 ·refine⟨_,rfl,(by show 0<=sizeLine;omega),λe1 Ml=>?_⟩
  have s9:=ah Ml (.tup [])
  refine⟨(by show 0<=sizeLine;omega),λe2 Mm=>?_⟩
  have lR:=ah Mm (.tup [])
  refine⟨_,rfl,(by show 4<=sizeLine;omega),λt1 wO=>?_⟩
  have tU:=ah wO (.tup [.str "",.ref e1,.ref e2,.ref ar])
  refine⟨(by show 1<=sizeLine;omega),λt2 mz=>?_⟩
  have jc:=ah mz (.tup [.ref t1])
  have sA:=s9.trans (lR.trans (tU.trans jc))
  have SF:=jc _ _ (tU _ _ (lR _ _ (show upd H8 e1 (.tup []) e1=some (.tup []) from ae)))
  have SG:=jc _ _ (tU _ _ (show upd (upd H8 e1 (.tup [])) e2 (.tup []) e2=some (.tup []) from ae))
  have Gs:=jc _ _ (show upd (upd (upd H8 e1 (.tup [])) e2 (.tup [])) t1 (.tup [.str "",.ref e1,.ref e2,.ref ar]) t1=some (.tup [.str "",.ref e1,.ref e2,.ref ar]) from ae)
  have Az:upd (upd (upd (upd H8 e1 (.tup [])) e2 (.tup [])) t1 (.tup [.str "",.ref e1,.ref e2,.ref ar])) t2 (.tup [.ref t1]) t2=some (.tup [.ref t1]):=ae
  generalize upd (upd (upd (upd H8 e1 (.tup [])) e2 (.tup [])) t1 (.tup [.str "",.ref e1,.ref e2,.ref ar])) t2 (.tup [.ref t1])=H9 at sA SF SG Gs Az
  have xu:=s8.trans sA
  refine⟨af,t2,xf,[.ref t1],rfl,rfl,xu _ _ rF,Az,by rw [List.length_singleton];omega,λft HB sB MP=>?_⟩
  have Ck:=xu.trans sB
  have MQ:=sA.trans sB
  have BB:=sB _ _ Gs
  have La:=sB _ _ SF
  have Lb:=sB _ _ SG
  have O7:=MQ _ _ MN
  have Vs:=MQ _ _ Cj
  have Vt:=MQ _ _ Vq
  have Vu:=Vr.same MQ
  have v7:∀{c:Addr} {y pa oa ra:V},HB c=some (.tup [y,pa,oa,ra])->cg HB (.ref c)=y/\dN HB (.ref c)=ra:=λh=>⟨by unfold cg;rw [ak h],by unfold dN;rw [ak h]⟩
  have item:∀x∈xf ++ [V.ref t1],∃(c pa oa ra:Addr) (y:Str) (ps os:List Str) (rs:List V) (m:Nat),x=.ref c/\HB c=some (.tup [.str y,.ref pa,.ref oa,.ref ra])/\HB pa=some (.tup (ps.map V.str))/\HB oa=some (.tup (os.map V.str))/\H ra=some (.tup rs)/\ps.length<=3/\os.length<=3/\(∀x∈ps,fc x=true)/\(∀x∈os,fc x=true)/\Dt p H m (.ref ra):=λx hx=>by
   rcases List.mem_append.mp hx with hx|hx
   ·obtain⟨c,pa,oa,ra,y,ps,os,rs,rfl,hc,hy,jS,kj,gp,ML,MM,K8,K9⟩:=zp x hx
    obtain⟨m,hd⟩:=(vR _ hx).parts hc
    exact⟨c,pa,oa,ra,y,ps,os,rs,m,rfl,Ck _ _ hc,Ck _ _ jS,Ck _ _ kj,gp,ML,MM,K8,K9,hd _ (by simp)⟩
   ·rw [List.mem_singleton] at hx
    subst hx
    exact⟨t1,e1,e2,ar,"",[],[],xr,n,rfl,BB,La,Lb,Bh,by decide,by decide,λx h=>by simp at h,λx h=>by simp at h,xt⟩
  have tV:eG H xb xl xf (.ref ar)=(xf ++ [V.ref t1]).all (gd HB):=by
   unfold eG
   rw [List.all_append,List.all_cons,List.all_nil,Bool.and_true]
   have e1:xf.all (i9 H xb xl xf)=xf.all (gd HB):=all_congr λx hx=>by
    obtain⟨c,pa,oa,ra,y,ps,os,rs,rfl,hc,hy,jS,kj,gp,_⟩:=zp x hx
    show i9 H xb xl xf (.ref c)=bM H (bU H (aB H xb++iX HB (.ref c)) (aB H xl) (kvsOf H xf) (!decide (cg HB (.ref c)=.str "")) 5) (dN HB (.ref c))
    have j5 : ¬ (V.str y=V.str ""):=λz=>by
     injection z with z
     rw [z] at hy
     exact absurd hy (by decide)
    unfold i9
    rw [(v7 (Ck _ _ hc)).1,(v7 (Ck _ _ hc)).2,dU (Ck _ _ hc) (Ck _ _ jS) (Ck _ _ kj),dU hc jS kj,decide_eq_false j5]
    have e4:dN H (.ref c)=.ref ra:=by unfold dN;rw [ak hc]
    rw [e4]
    rfl
   rw [e1]
   congr 1
   show _=bM H (bU H (aB H xb++iX HB (.ref t1)) (aB H xl) (kvsOf H xf) (!decide (cg HB (.ref t1)=.str "")) 5) (dN HB (.ref t1))
   rw [(v7 BB).1,(v7 BB).2,dU (ps:= []) (os:= []) BB La Lb,decide_eq_true rfl,List.append_nil,List.append_nil]
   rfl
  refine⟨ft,rfl,⟨_,aR.of MP⟩,fz (xs:=xf ++ [V.ref t1]) (λi σ H'=>∃(x5:Option V) (dk:gJ),σ = [some (.ref ab),some (.ref al),some (.ref af),some (.ref ar),some (.ref nm),x5,some (.ref u),some (.int ((xf.length+(((xf ++ [V.ref t1]).take i).map (ct HB)).sum:Nat):Int))] /\
   ax H H'/\jJ u HB H'/\H' u=some (.dK dk)/\dk.length<=2+2*i/\cP dk (Sum.inr "lists")=some (.ref ll)/\cP dk (Sum.inr "functions")=some (.ref g)/\((xf ++ [V.ref t1]).take i).all (gd HB)=true) ⟨_,dk,by rw [List.take_zero];rfl,Ck,λc o _ h=>h,O7,by omega,vl,vg,rfl⟩ ?_ ?_ ?_⟩
  ·rintro i σ H' _ ⟨x5,dk,rfl,s0,bt,_⟩
   exact aR.of (bt _ _ (λz=>by rw [z,O7] at MP;cases MP) MP)
  ·rintro i x σ pb gm ⟨x5,zM,rfl,v8,bt,Hr,Vv,O8,O9,dj⟩
   have pU:=List.mem_of_getElem? gm
   have hi:i<=4:=by
    obtain⟨eQ,_⟩:=List.getElem?_eq_some_iff.mp gm
    rw [List.length_append,List.length_singleton] at eQ
    omega
   obtain⟨c,pa,oa,ra,y,ps,os,rs,m,rfl,hc,jS,kj,gp,ML,MM,K8,K9,Pa⟩:=item x pU
   obtain⟨SH,Pb⟩:=v7 hc
   have eo:iX HB (.ref c)=ps++os:=dU hc jS kj
   have rG:∀{a:Addr} {xs:List V},HB a=some (.tup xs)->a≠u:=λh z=>by rw [z,O7] at h;cases h
   have Hs:=bt _ _ (rG hc) hc
   have Lc:=bt _ _ (rG jS) jS
   have Ld:=bt _ _ (rG kj) kj
   refine⟨_,rfl,ab,rfl,⟨xb,aR.of (v8 _ _ xm)⟩,fj (te:=iG (eu K) (bQ 0) (tC (V.int 0))) (cs:= []) (cg pb) (v8 _ _ xm) (by omega) rfl (λx H4 k4 hx s4 hk=>hW (refs v8 rb x hx) s4 hk) (λu1 xM md tU vT=>?_)⟩
   rw [Sr v8] at vT
   refine⟨_,rfl,c,_,1,_,rfl,rfl,aR.of (tU _ _ Hs),au (j:=1) rfl,pa,_,rfl,.inr (aR.of (tU _ _ Lc)),λu2 kN=>?_⟩
   have jc:=ah kN (.lst (ps.map V.str))
   refine⟨u1,u2,_,_,rfl,rfl,jc _ _ vT,ae,by simp only [List.length_map];omega,λu3 oO=>?_⟩
   have mh:=ah oO (.lst ((aB H xb).map V.str++ps.map V.str))
   have BC:=tU.trans (jc.trans mh)
   have SI:upd (upd xM u2 (.lst (ps.map V.str))) u3 (.lst ((aB H xb).map V.str++ps.map V.str)) u3=some (.lst ((aB H xb).map V.str++ps.map V.str)):=ae
   generalize upd (upd xM u2 (.lst (ps.map V.str))) u3 (.lst ((aB H xb).map V.str++ps.map V.str))=zN at BC SI
   refine⟨_,rfl,c,_,2,_,rfl,rfl,aR.of (BC _ _ Hs),au (j:=2) rfl,oa,_,rfl,.inr (aR.of (BC _ _ Ld)),λu4 KR=>?_⟩
   have KP:=ah KR (.lst (os.map V.str))
   refine⟨u3,u4,_,_,rfl,rfl,KP _ _ SI,ae,by simp only [List.length_append,List.length_map];omega,λu5 Pc=>?_⟩
   have Vw:=ah Pc (.lst (((aB H xb).map V.str++ps.map V.str)++os.map V.str))
   have D7:=BC.trans (KP.trans Vw)
   have CT:upd (upd zN u4 (.lst (os.map V.str))) u5 (.lst (((aB H xb).map V.str++ps.map V.str)++os.map V.str)) u5=some (.lst ((aB H xb++(ps++os)).map V.str)):=by rw [ae];simp only [List.map_append,List.append_assoc]
   have ne5:u5≠u:=λz=>by rw [z,(BC.trans KP) _ _ Hr] at Pc;cases Pc
   generalize upd (upd zN u4 (.lst (os.map V.str))) u5 (.lst (((aB H xb).map V.str++ps.map V.str)++os.map V.str))=D8 at D7 CT
   refine⟨_,rfl,u,_,rfl,uL.k (k:=Sum.inr "boxes") (D7 _ _ Hr) (by omega),?_⟩
   have MR:jJ u D8 (upd D8 u (.dK (putK zM (Sum.inr "boxes") (.ref u5)))):=jJ.upd
   have SJ:upd D8 u (.dK (putK zM (Sum.inr "boxes") (.ref u5))) u=some (.dK (putK zM (Sum.inr "boxes") (.ref u5))):=ae
   have D9:=fN zM (Sum.inr "boxes") (V.ref u5)
   generalize upd D8 u (.dK (putK zM (Sum.inr "boxes") (.ref u5)))=zO at MR SJ
   have Pd:=MR _ _ (rG hc) (D7 _ _ Hs)
   refine⟨_,rfl,c,_,0,_,rfl,rfl,aR.of Pd,au (j:=0) rfl,rfl,_,rfl,u,_,rfl,uL.k (k:=Sum.inr "inside") SJ (by omega),?_⟩
   let rr:Bool:=!decide (V.str y=V.str "")
   have Pe:jJ u zO (upd zO u (.dK (putK (putK zM (Sum.inr "boxes") (.ref u5)) (Sum.inr "inside") (.bl rr)))):=jJ.upd
   have zP:upd zO u (.dK (putK (putK zM (Sum.inr "boxes") (.ref u5)) (Sum.inr "inside") (.bl rr))) u=some (.dK (putK (putK zM (Sum.inr "boxes") (.ref u5)) (Sum.inr "inside") (.bl rr))):=ae
   have Vx:=fN (putK zM (Sum.inr "boxes") (V.ref u5)) (Sum.inr "inside") (V.bl rr)
   show fX _ _ _ _ (upd zO u (.dK (putK (putK zM (Sum.inr "boxes") (.ref u5)) (Sum.inr "inside") (.bl rr))))
   generalize upd zO u (.dK (putK (putK zM (Sum.inr "boxes") (.ref u5)) (Sum.inr "inside") (.bl rr)))=v9 at Pe zP ⊢
   have b1:jJ u pb v9:=(jJ.of D7).trans (MR.trans Pe)
   have bB:jJ u HB v9:=bt.trans b1
   have BD:ax H v9:=λb' o eN=>b1 _ _ (aL eN Sz) (v8 _ _ eN)
   have Le:=bB _ _ (rG hc) hc
   have Ea:∀{a b:Str},a≠b -> ¬ ((Sum.inr a:Key)=Sum.inr b):=λh z=>h (by injection z)
   have hS:Hi v9 u (aB H xb++(ps++os)) (aB H xl) (kvsOf H xf) rr:=by
    refine⟨⟨_,u5,ll,g,ts,pc,zP,?_,?_,?_,?_,(MR.trans Pe) _ _ ne5 CT,bB _ _ Sy Vs,bB _ _ neg Vt,Paired.fP Vu λt' kv z=>?_,by omega,rfl⟩,SD.keys,λx hx=>?_,MO,λf v e=>SD.val e⟩
    ·rw [dH,if_neg (Ea (by decide)),dH,if_pos rfl]
    ·rw [dH,if_neg (Ea (by decide)),dH,if_neg (Ea (by decide))];exact O8
    ·rw [dH,if_neg (Ea (by decide)),dH,if_neg (Ea (by decide))];exact O9
    ·rw [dH,if_pos rfl]
    ·obtain⟨b',e,eN⟩:=z
     exact⟨b',e,bB _ _ (rG eN) eN⟩
    ·rcases List.mem_append.mp hx with hx|hx
     ·exact IV x hx
     ·rcases List.mem_append.mp hx with hx|hx
      ·exact K8 x hx
      ·exact K9 x hx
   refine⟨_,rfl,c,_,3,_,rfl,rfl,aR.of Le,au (j:=3) rfl,_,rfl,.ref ra,u,1,p,m,_,_,_,_,rfl,by decide,Pa.same BD,hS,λBE uj=>⟨_,rfl,?_⟩⟩
   have eg:bM v9 (bU v9 (aB H xb++(ps++os)) (aB H xl) (kvsOf H xf) rr 5) (.ref ra)=gd HB (.ref c):=by
    rw [fJ BD Pa λm z hz=>dq BD hz]
    show _=bM H (bU H (aB H xb++iX HB (.ref c)) (aB H xl) (kvsOf H xf) (!decide (cg HB (.ref c)=.str "")) 5) (dN HB (.ref c))
    rw [eo,SH,Pb]
   rw [eg]
   cases d:gd HB (.ref c) with
   |false=>
    refine dQ rfl ?_
    have:eG H xb xl xf (.ref ar)=false:=by rw [tV];exact jM pU d
    rw [Sx,if_pos this] at q
    exact q BE (BD.trans uj)
   |true=>
   refine dM rfl ?_
   have BF:=BD.trans uj
   have tW:∀v∈rs,bU H (aB H xb++(ps++os)) (aB H xl) (kvsOf H xf) rr 5 v=true:=by
    have d':bM H (bU H (aB H xb++iX HB (.ref c)) (aB H xl) (kvsOf H xf) (!decide (cg HB (.ref c)=.str "")) 5) (dN HB (.ref c))=true:=d
    rw [eo,SH,Pb] at d'
    unfold bM at d'
    rw [ak gp] at d'
    exact λv hv=>List.all_eq_true.mp d' v hv
   obtain⟨m2,Ho⟩:=Pa.parts gp
   refine⟨_,rfl,_,rfl,c,_,3,_,rfl,rfl,aR.of (uj _ _ Le),au (j:=3) rfl,ra,rs,p,m2,_,_,_,_,rfl,BF _ _ gp,λz hz=>(Ho z hz).same BF,λz hz=>by rw [dq BF (Ho z hz)];exact tW z hz,λMS Ht=>?_⟩
   have ec:cnt BE 5 rs=ct HB (.ref c):=by
    rw [hU (TK.of BF) λz hz=>mT (Ho z hz) (tW z hz)]
    show _=cnt H 5 (cj H (dN HB (.ref c)))
    rw [Pb,dR gp]
   refine⟨_,_,rfl,rfl,some (.ref c),_,?_,BF.trans Ht,bB.trans (jJ.of (uj.trans Ht)),Ht _ _ (uj _ _ zP),by omega,?_,?_,?_⟩
   ·rw [ec,List.take_add_one,gm,List.map_append,List.sum_append]
    show _ = [_,_,_,_,_,_,_,some (V.int ((xf.length+(_+(ct HB (.ref c)+0)):Nat):Int))]
    rw [Nat.add_zero,<-Nat.add_assoc,Int.natCast_add]
    rfl
   ·rw [dH,if_neg (Ea (by decide)),dH,if_neg (Ea (by decide))];exact O8
   ·rw [dH,if_neg (Ea (by decide)),dH,if_neg (Ea (by decide))];exact O9
   ·exact iC gm dj d
  ·rintro σ pb ⟨x5,zM,rfl,v8,bt,Hr,Vv,O8,O9,dj⟩
   rw [List.take_length] at dj
   refine⟨_,x5,by rw [List.take_length],v8,by rw [tV];exact dj,?_⟩
   unfold total
   rw [tf,cY Bh]
   show _=(xf.map λf=>1+cnt H 5 (hV H f)).sum+_
   rw [xI,List.map_append,List.sum_append]
   have e1:xf.map (ct HB)=xf.map λf=>cnt H 5 (hV H f):=List.map_congr_left λx hx=>by
    obtain⟨c,pa,oa,ra,y,ps,os,rs,rfl,hc,hy,jS,kj,gp,_⟩:=zp x hx
    show cnt H 5 (cj H (dN HB (.ref c)))=_
    rw [(v7 (Ck _ _ hc)).2,jz hc gp,dR gp]
   have e2:ct HB (.ref t1)=cnt H 5 xr:=by
    show cnt H 5 (cj H (dN HB (.ref t1)))=_
    rw [(v7 BB).2,dR Bh]
   rw [e1]
   show _+(_+(ct HB (.ref t1)+0))=_
   rw [e2]
   omega
 rintro σ H9 ⟨N,x5,rfl,s9,Vy,hN⟩
 have e0:verdict H (.ref ab) (.ref al) (.ref af) (.ref ar)=if 60<N then 3 else 0:=by rw [Sx,Vy,if_neg Bool.noConfusion,hN]
 rw [e0] at q
 refine⟨(by show 2<=sizeLine;omega),λL hL=>?_⟩
 have lR:=ah hL (.lst [.str "",.str "long"])
 by_cases SK:60<N
 ·rw [if_pos SK] at q
  refine⟨_,rfl,_,_,rfl,rfl,.inr ⟨_,rfl,?_⟩⟩
  rw [decide_eq_true (by omega)]
  exact⟨L,_,1,_,rfl,rfl,bX.of ae,au (j:=1) rfl,q _ (s9.trans lR)⟩
 ·rw [if_neg SK] at q
  refine⟨_,rfl,_,_,rfl,rfl,.inr ⟨_,rfl,?_⟩⟩
  rw [decide_eq_false (by omega)]
  exact⟨L,_,0,_,rfl,rfl,bX.of ae,au (j:=0) rfl,q _ (s9.trans lR)⟩
end
section
variable {P:Program} {w:World} {K:PySem.W.Frag} {mg:Str->Option Value} {base:Heap}
theorem eZ:aO ["_law_state_here","_law_amount","_law_letters","_law_shift","_law_found","_law_k","_law_name","_law_turn","_law_words"] ["_law_state_here","_law_amount"] (ao (top 60)):=⟨rfl,rfl,rfl,by decide +kernel,rfl,by decide +kernel,by decide +kernel⟩
def xN:Sp:=λvs H Q _=>∃(p:Addr) (m:Int),vs = [.ref p,.int m]/\Gen p H/\0<=m/\m<=9/\∀(a:Addr) (ns:List Str) (H':Hp),Ext p H H'->H a=none->H' a=some (.lst (ns.map V.str))->(ns.length:Int)=m->(∀x∈ns,fc x=true)->ns.Nodup->Q (.ref a) H'
def Eb:List Str:= ["box","list","def","end","else","catch","own","set","push","while","try"]
def Hu:List Str:= ["number","size","plus","item","not","ask"]
theorem Ec:∀x∈Eb++Hu,2<=x.length:=by decide +kernel
theorem Ed{i j:Int}{c:Nat}(i0:0<=i)(i1:i<26)(j0:0<=j)(j1:j<26)(h1:nE nM.cps.toList i=some c)(h2:nE nM.cps.toList j=some c):i=j:=by
 obtain⟨a,rfl⟩:=Int.eq_ofNat_of_zero_le i0
 obtain⟨b,rfl⟩:=Int.eq_ofNat_of_zero_le j0
 have f1:=kI h1
 have f2:=kI h2
 obtain⟨k1,e1,g1,_⟩:=f1
 obtain⟨k2,e2,g2,_⟩:=f2
 rw [kO] at e1 g1 e2 g2
 rw [seqIndex_of (by omega) (by simpa using i1)] at e1
 rw [seqIndex_of (by omega) (by simpa using j1)] at e2
 have nd : [97,98,99,100,101,102,103,104,105,106,107,108,109,110,111,112,113,114,115,116,117,118,119,120,121,122].Nodup:=by decide
 have q1:=Option.some.inj e1
 have q2:=Option.some.inj e2
 have z:=(List.getElem?_inj (List.getElem?_eq_some_iff.mp g1).1 nd).mp (g1.trans g2.symm)
 omega
def IW(sh:Int)(i:Nat)(ns:List Str):Prop:=ns.Nodup/\∀x∈ns,2<=x.length\/∃(j:Nat) (c:Nat),j<i/\nE nM.cps.toList ((sh+(0+(j:Int)))%26)=some c/\x=⟨#[c]⟩
theorem one_inj{c d:Nat}(h:(⟨#[c]⟩:Str)=⟨#[d]⟩):c=d:=by
 have z:=congrArg (λs:Str=>s.cps.toList) h
 simpa using z
theorem IW.one{sh:Int}{i:Nat}{ns:List Str}{c:Nat}(u:IW sh i ns)(hi:i<26)(hc:nE nM.cps.toList ((sh+(0+(i:Int)))%26)=some c):(⟨#[c]⟩:Str)∉ns:=λh=>by
 rcases u.2 _ h with z|⟨j,d,hj,hd,e⟩
 ·have:(⟨#[c]⟩:Str).length=1:=rfl
  omega
 ·cases one_inj e
  have z:=Ed (Int.emod_nonneg _ (by decide)) (Int.emod_lt_of_pos _ (by decide)) (Int.emod_nonneg _ (by decide)) (Int.emod_lt_of_pos _ (by decide)) hc hd
  omega
theorem IW.put{sh:Int}{i:Nat}{ns:List Str}{nm:Str}(u:IW sh i ns)(hn:nm∉ns)(h:2<=nm.length\/∃c,nE nM.cps.toList ((sh+(0+(i:Int)))%26)=some c/\nm=⟨#[c]⟩):IW sh (i+1) (ns ++ [nm]):=by
 refine⟨?_,λx hx=>?_⟩
 ·rw [List.nodup_append]
  exact⟨u.1,by simp,λa ha b hb=>by rw [List.mem_singleton.mp hb];exact λz=>hn (z▸ha)⟩
 ·rcases List.mem_append.mp hx with h1|h1
  ·rcases u.2 x h1 with z|⟨j,d,hj,r⟩
   ·exact .inl z
   ·exact .inr ⟨j,d,by omega,r⟩
  ·rw [List.mem_singleton.mp h1]
   rcases h with z|⟨c,r⟩
   ·exact .inl z
   ·exact .inr ⟨i,c,by omega,r⟩
theorem xO{x:Str}:∀{ns:List Str},uI (.str x) (ns.map V.str)=decide (x∈ns)
 | []=>by simp [uI]
 |y::ns=>by
  have ih:=xO (x:=x) (ns:=ns)
  unfold uI at ih ⊢
  rw [List.map_cons,List.any_cons,ih]
  by_cases h:y=x
  ·subst h
   simp [wL]
  ·have h' : ¬x=y:=λz=>h z.symm
   simp [wL,h,h']
theorem Lf:∀x∈Eb++Hu,fc x=true:=by decide +kernel
theorem Pf{r:Int}(h0:0<=r)(h1:r<6){k:Int}(k0:0<=k)(k1:k<5):∃i:Int,nE [V.int 0,V.int 0,V.int 1,V.int 5,V.int r] k=some (.int i)/\0<=i/\i<=5:=by
 obtain⟨v,a,b⟩:=lK (xs:= [V.int 0,V.int 0,V.int 1,V.int 5,V.int r]) k0 k1
 simp at b
 rcases b with rfl|rfl|rfl|rfl
 ·exact⟨_,a,by omega,by omega⟩
 ·exact⟨_,a,by omega,by omega⟩
 ·exact⟨_,a,by omega,by omega⟩
 ·exact⟨_,a,by omega,by omega⟩
def Lg(p a:Addr)(m sh:Int)(i:Nat)(H2:Hp)(σ:St)(H':Hp):Prop:=
 ∃(nm:Str) (x7 x8:Option V),σ = [some (.ref p),some (.int m),some (.str nM),some (.int sh),some (.ref a),some (.int (0+(i:Int))),some (.str nm),x7,x8]/\Ext p H2 H'/\fc nm=true/\(2<=nm.length\/∃c,nE nM.cps.toList ((sh+(0+(i:Int)))%26)=some c/\nm=⟨#[c]⟩)
def Lh(p a:Addr)(m sh:Int)(i:Nat)(ns:List Str)(H2:Hp)(σ:St)(H':Hp):Prop:=
 ∃(nm:Str) (x7 x8:Option V),σ = [some (.ref p),some (.int m),some (.str nM),some (.int sh),some (.ref a),some (.int (0+(i:Int))),some (.str nm),x7,x8]/\Ext p H2 H'/\fc nm=true/\nm∉ns/\(2<=nm.length\/∃c,nE nM.cps.toList ((sh+(0+(i:Int)))%26)=some c/\nm=⟨#[c]⟩)
theorem Ee(T:Txt w K mg)(bE:Def P w K mg base 1 "_law_next" ["_law_state_here","_law_size"] f7)(S:Src K mg "_law_names" (top 60) ["_law_state_here","_law_amount"]):Def P w K mg base 2 "_law_names" ["_law_state_here","_law_amount"] xN:=by
 refine S.ok eZ (λvs H Q E h=>?_) (λf cD A outer s H vs Q E hr h=>?_)
 ·obtain⟨p,m,rfl,_⟩:=h;rfl
 obtain⟨p,m,rfl,g,m0,m9,q⟩:=h
 refine⟨_,(ai (aS (i:=2) eZ.nd rfl (Or.inl rfl) aD)
   (ai (aS (i:=3) eZ.nd rfl (Or.inl rfl) (aw (bE) hr rfl (aq (pv 0) (aq ag aa))))
   (ai (aS (i:=4) eZ.nd rfl (Or.inl rfl) (bN aa))
   (ai (dO PassesOwn.never rfl (iq rfl T.kR (aq (pv 1) aa)) (aM (i:=5) eZ.nd rfl (Or.inl rfl))
   (ai (aS (i:=6) eZ.nd rfl (Or.inl rfl) (aJ uF (pv 2) (aU j9 (aU eW (pv 3) (pv 5)) ag) (λ_ _=>rfl)))
   (cE (dO PassesOwn.never rfl (iq rfl T.kR (aq (aJ cU (bN (aq ag (aq ag (aq ag (aq ag (aq (aw (bE) hr rfl (aq (pv 0) (aq ag aa))) aa)))))) (aw (bE) hr rfl (aq (pv 0) (aq ag aa))) (λ_ _=>rfl)) aa)) (aM (i:=7) eZ.nd rfl (Or.inl rfl))
   (aj (aS (i:=6) eZ.nd rfl (Or.inl rfl) (aU ux (aJ uF (pv 2) (aw (bE) hr rfl (aq (pv 0) (aq ag aa))) (λ_ _=>rfl)) (pv 6)))))
   (cE (aX (aQ cA (aw (bE) hr rfl (aq (pv 0) (aq ag aa))) ag (aP _))
   (ai (aS (i:=8) eZ.nd rfl (Or.inl rfl) (bN (bq [.str "box",.str "list",.str "def",.str "end",.str "else",.str "catch",.str "own",.str "set",.str "push",.str "while",.str "try"] (by rfl))))
   (aj (aS (i:=6) eZ.nd rfl (Or.inl rfl) (aJ cU (aU dE (pv 8) (bN (bq [.str "number",.str "size",.str "plus",.str "item",.str "not",.str "ask"] (by rfl)))) (aw (bE) hr rfl (aq (pv 0) (aq ag aa))) (λ_ _=>rfl))))) aI)
   (cE (aX (aQ fL (pv 6) (pv 4) (by rfl))
   (aj (aS (i:=6) eZ.nd rfl (Or.inl rfl) (aJ uF (pv 2) (aU j9 (aU eW (pv 3) (pv 5)) ag) (λ_ _=>rfl)))) aI)
   (aj (eI (j3 PySem.F.plainAttrs_list PySem.F.slot_list_append PySem.F.type_list_append fM (pv 4) (aq (pv 6) aa)))))))))
   (aj (aC (pv 4))))))),?_⟩
 have zl:nM.length<=sizeLine:=by rw [De];decide
 refine⟨_,rfl,p,26,rfl,g,by decide,λsh H1 s0 s1 e1=>?_⟩
 refine⟨(by show 0<=sizeLine;decide),λa ha=>?_⟩
 have Hv:a≠p:=e1.gen.ne ha
 have g2:Ext p H1 (upd H1 a (.lst [])):=Ext.new e1.gen ha _
 refine⟨_,rfl,m,rfl,by omega,by omega,?_⟩
 refine ir (n:=m.toNat) (λi σ H'=>∃(ns:List Str) (x5 x6 x7 x8:Option V),σ = [some (.ref p),some (.int m),some (.str nM),some (.int sh),some (.ref a),x5,x6,x7,x8]/\Ext p H1 H'/\H' a=some (.lst (ns.map V.str))/\ns.length=i/\(∀x∈ns,fc x=true)/\IW sh i ns) ?_ ?_ ?_
 ·exact⟨[],_,_,_,_,rfl,g2,ae,rfl,by simp,by simp,by simp⟩
 ·rintro i σ H2 hi ⟨ns,x5,x6,x7,x8,rfl,e2,hl,hn,Fm,MT⟩
  have Vz:=Int.emod_nonneg (sh+(0+(i:Int))) (show (26:Int)≠0 by decide)
  have Sq:=Int.emod_lt_of_pos (sh+(0+(i:Int))) (show (0:Int)<26 by decide)
  obtain⟨c,hc,F8⟩:=AE Vz Sq
  refine⟨_,rfl,_,rfl,_,rfl,_,_,rfl,rfl,_,_,rfl,rfl,(by show (0:Int)<26;decide),nM,_,c,rfl,rfl,zl,hc,?_⟩
  refine⟨Lg p a m sh i H2,?_,?_⟩
  ·refine⟨_,rfl,p,6,rfl,e2.gen,by decide,λr H3 r0 r1 e3=>?_⟩
   refine⟨(by show 5<=sizeLine;decide),λb hb=>?_⟩
   have e4:Ext p H3 (upd H3 b (.lst [.int 0,.int 0,.int 1,.int 5,.int r])):=Ext.new e3.gen hb _
   refine⟨_,rfl,p,5,rfl,e4.gen,by decide,λr2 H5 k0 k1 e5=>?_⟩
   obtain⟨y,hy,y0,y5⟩:=Pf r0 r1 k0 k1
   have VA:b≠p:=e3.gen.ne hb
   refine⟨b,_,r2,_,rfl,rfl,bX.of (e5.but b _ VA ae),hy,y,rfl,by omega,by omega,?_⟩
   have IX:Ext p H2 H5:=e3.trans (e4.trans e5)
   refine ir (n:=y.toNat) (λj σ H'=>∃(nm:Str) (x7:Option V),σ = [some (.ref p),some (.int m),some (.str nM),some (.int sh),some (.ref a),some (.int (0+(i:Int))),some (.str nm),x7,x8]/\Ext p H2 H'/\Lt nm/\nm.length=j+1/\(j=0->nm=⟨#[c]⟩)) ?_ ?_ ?_
   ·exact⟨_,_,rfl,IX,Lt.one F8,rfl,λ_=>rfl⟩
   ·rintro j σ H6 hj ⟨nm,SM,rfl,e6,eQ,hlen,Li⟩
    refine⟨_,rfl,_,rfl,p,26,rfl,e6.gen,by decide,λr3 H7 t0 t1 e7=>?_⟩
    obtain⟨c2,rE,Pg⟩:=AE t0 t1
    have VB:(⟨#[c2]⟩:Str).length+nm.length<=sizeLine:=by
     have:(⟨#[c2]⟩:Str).length=1:=rfl
     have h3:(100:Nat)<=sizeLine:=by decide
     omega
    refine⟨nM,_,c2,rfl,rfl,zl,rE,_,rfl,_,nm,rfl,rfl,VB,?_⟩
    refine⟨_,_,rfl,e6.trans e7,(Lt.one Pg).append eQ,?_,λz=>by omega⟩
    rw [uW,hlen]
    show 1+(j+1)=j+1+1
    omega
   ·rintro σ H6 ⟨nm,SM,rfl,e6,eQ,hlen,Li⟩
    refine⟨nm,SM,x8,rfl,e6,E2 eQ (by omega) (by omega),?_⟩
    by_cases z:y.toNat=0
    ·exact .inr ⟨c,hc,Li z⟩
    ·exact .inl (by omega)
  ·rintro σ H6 ⟨nm,x7,x8,rfl,e6,VC,VD⟩
   refine⟨Lg p a m sh i H2,?_,?_⟩
   ·refine⟨_,rfl,p,6,rfl,e6.gen,by decide,λr4 H7 u0 u1 e7=>⟨rfl,_,rfl,bZ (λ_=>?_) (λ_=>?_)⟩⟩
    ·refine⟨(by show 11<=sizeLine;decide),λb hb=>?_⟩
     have e8:Ext p H7 (upd H7 b (.lst (Eb.map V.str))):=Ext.new e7.gen hb _
     refine⟨_,rfl,(by show 6<=sizeLine;decide),λb2 vb=>?_⟩
     have e9:Ext p _ (upd (upd H7 b (.lst (Eb.map V.str))) b2 (.lst (Hu.map V.str))):=Ext.new e8.gen vb _
     have Ph:b≠b2:=aL (o:=.lst (Eb.map V.str)) ae vb
     refine⟨b,b2,Eb.map V.str,Hu.map V.str,rfl,rfl,(by rw [aK Ph];exact ae),ae,(by show 17<=sizeLine;decide),λb3 Hw=>?_⟩
     have e10:Ext p _ (upd (upd (upd H7 b (.lst (Eb.map V.str))) b2 (.lst (Hu.map V.str))) b3 (.lst (Eb.map V.str++Hu.map V.str))):=Ext.new e9.gen Hw _
     refine⟨_,rfl,p,17,rfl,e10.gen,by decide,λr5 H8 v0 v1 e11=>?_⟩
     obtain⟨x,hx,pU⟩:=Gw (ns:=Eb++Hu) v0 v1
     rw [List.map_append] at hx
     refine⟨b3,_,r5,_,rfl,rfl,bX.of (e11.but b3 _ (e9.gen.ne Hw) ae),hx,?_⟩
     exact⟨x,x7,_,rfl,e6.trans (e7.trans (e8.trans (e9.trans (e10.trans e11)))),Lf x pU,.inl (Ec x pU)⟩
    ·exact⟨nm,x7,x8,rfl,e6.trans e7,VC,VD⟩
   ·rintro σ H7 ⟨nm,x7,x8,rfl,e7,Lj,VE⟩
    have VF:H7 a=some (.lst (ns.map V.str)):=e7.but a _ Hv hl
    refine⟨Lh p a m sh i ns H2,?_,?_⟩
    ·refine⟨_,rfl,_,rfl,a,_,rfl,.inl (bX.of VF),rfl,?_,?_⟩
     ·rw [List.all_eq_true]
      intro x hx
      obtain⟨y',_,rfl⟩:=List.mem_map.mp hx
      rfl
     refine⟨_,rfl,bZ (λ_=>?_) (λVG=>?_)⟩
     ·refine⟨_,rfl,_,rfl,_,rfl,_,_,rfl,rfl,_,_,rfl,rfl,(by show (0:Int)<26;decide),nM,_,c,rfl,rfl,zl,hc,?_⟩
      exact⟨_,x7,x8,rfl,e7,E2 (Lt.one F8) (by show 1<=1;decide) (by show 1<=6;decide),MT.one (by omega) hc,.inr ⟨c,hc,rfl⟩⟩
     ·refine⟨nm,x7,x8,rfl,e7,Lj,λz=>VG ?_,VE⟩
      show uI (.str nm) (ns.map V.str)=true
      rw [xO]
      exact decide_eq_true z
    ·rintro σ H8 ⟨nm,x7,x8,rfl,e8,VH,Pj,VI⟩
     have Cj:H8 a=some (.lst (ns.map V.str)):=e8.but a _ Hv hl
     have z9:(ns.map V.str).length<sizeLine:=by
      rw [List.length_map]
      have h3:(100:Nat)<sizeLine:=by decide
      omega
     refine⟨_,rfl,.inl ⟨rfl,_,bX.of Cj⟩,_,rfl,a,_,_,rfl,rfl,Cj,z9,?_⟩
     refine⟨ns ++ [nm],_,_,_,_,rfl,⟨λb' o eN ho=>?_,?_⟩,?_,by rw [List.length_append,hn];rfl,λx hx=>?_,MT.put Pj VI⟩
     ·have Ef:=(e2.trans e8).but b' o eN ho
      rw [aK (aL ho ha)];exact Ef
     ·obtain⟨n',Dp,r'⟩:=e8.gen
      exact⟨n',by rw [aK (Ne.symm Hv)];exact Dp,r'⟩
     ·rw [ae,List.map_append];rfl
     ·rcases List.mem_append.mp hx with h|h
      ·exact Fm x h
      ·rw [List.mem_singleton.mp h];exact VH
 ·rintro σ H2 ⟨ns,x5,x6,x7,x8,rfl,e2,hl,hn,Fm,MT⟩
  exact⟨_,rfl,q a ns H2 (e1.trans e2) (e1.free ha) hl (by omega) Fm MT.1⟩
end
end bo
namespace bo
open PySem L2
def Sm(p:Addr)(H:Hp):Nat->V->Prop
 |0,_=>False
 |n+1,v=>match v with
  |.eh=>True
  |.bl _=>True
  |.int _=>True
  |.str x=>x.length<=9100
  |.ref a=>(∃xs,H a=some (.tup xs)/\xs.length<=4/\∀x∈xs,Sm p H n x)\/(∃xs,H a=some (.lst xs)/\a≠p/\xs.length<=4/\∀x∈xs,Sm p H n x)
  |_=>False
theorem Sm.dt{p:Addr}{H:Hp}:∀{n:Nat} {v:V},Sm p H n v->Dt p H n v
 |0,_,h=>h
 |n+1,v,h=>by
  cases v with
  |ref a=>
   rcases h with ⟨xs,h1,h2,h3⟩|⟨xs,h1,h0,h2,h3⟩
   ·exact .inl ⟨xs,h1,by omega,λx hx=>(h3 x hx).dt⟩
   ·exact .inr (.inl ⟨xs,h1,h0,by omega,λx hx=>(h3 x hx).dt⟩)
  |_=>exact h
theorem Sm.ext{p:Addr}{H H':Hp}(g:Gen p H)(e:Ext p H H'):∀{n:Nat} {v:V},Sm p H n v->Sm p H' n v
 |0,_,h=>h
 |n+1,v,h=>by
  cases v with
  |ref a=>
   rcases h with ⟨xs,h1,h2,h3⟩|⟨xs,h1,h0,h2,h3⟩
   ·exact .inl ⟨xs,e.tup g h1,h2,λx hx=>Sm.ext g e (h3 x hx)⟩
   ·exact .inr ⟨xs,e.but a _ h0 h1,h0,h2,λx hx=>Sm.ext g e (h3 x hx)⟩
  |_=>exact h
theorem Sm.same{p:Addr}{H H':Hp}(e:ax H H'):∀{n:Nat} {v:V},Sm p H n v->Sm p H' n v
 |0,_,h=>h
 |n+1,v,h=>by
  cases v with
  |ref a=>
   rcases h with ⟨xs,h1,h2,h3⟩|⟨xs,h1,h0,h2,h3⟩
   ·exact .inl ⟨xs,e _ _ h1,h2,λx hx=>Sm.same e (h3 x hx)⟩
   ·exact .inr ⟨xs,e _ _ h1,h0,h2,λx hx=>Sm.same e (h3 x hx)⟩
  |_=>exact h
theorem Sm.succ{p:Addr}{H:Hp}:∀{n:Nat} {v:V},Sm p H n v->Sm p H (n+1) v
 |0,_,h=>h.elim
 |n+1,v,h=>by
  cases v with
  |ref a=>
   rcases h with ⟨xs,h1,h2,h3⟩|⟨xs,h1,h0,h2,h3⟩
   ·exact .inl ⟨xs,h1,h2,λx hx=>Sm.succ (h3 x hx)⟩
   ·exact .inr ⟨xs,h1,h0,h2,λx hx=>Sm.succ (h3 x hx)⟩
  |_=>exact h
theorem Sm.up{p:Addr}{H:Hp}{n m:Nat}{v:V}(h:Sm p H n v)(l:n<=m):Sm p H m v:=by
 induction l with
 |refl=>exact h
 |step _ ih=>exact ih.succ
theorem Sm.parts{p:Addr}{H:Hp}{n:Nat}{a:Addr}{xs:List V}(h:Sm p H n (.ref a))(ha:H a=some (.tup xs)):xs.length<=4/\∀x∈xs,Sm p H n x:=by
 cases n with
 |zero=>exact h.elim
 |succ n=>
  rcases h with ⟨ys,h1,h2,h3⟩|⟨ys,h1,_⟩
  ·rw [ha] at h1
   cases h1
   exact⟨h2,λx hx=>(h3 x hx).succ⟩
  ·rw [ha] at h1;cases h1
def Bk:Nat->Nat
 |0=>0
 |k+1=>4*(1+3*Bk k)
theorem wa{p:Addr}{H:Hp}{n:Nat}:∀{k:Nat} {rows:List V},(∀v∈rows,Sm p H n v)->cnt H k rows<=rows.length*(1+3*Bk (k-1))/\(rows.length<=4->cnt H k rows<=Bk k)
 |0,rows,_=>⟨Nat.zero_le _,λ_=>Nat.zero_le _⟩
 |k+1,rows,h=>by
  have IY:∀v,Sm p H n v->cnt H k (inner H v)<=3*Bk k:=λv hv=>by
   unfold inner
   split
   ·rename_i x rest e
    obtain⟨a,rfl,ha⟩:=dS e
    obtain⟨_,hx⟩:=hv.parts ha
    split
    ·rename_i ks Cg
     have VJ:=iU Cg
     have gM:=qP (ks:=ks) (vs:=rest) (i:=ks.length)
     have go:∀{l:List V},(∀b∈l,Sm p H n b)->cnt H k (l.flatMap (cj H))<=l.length*Bk k:=by
      intro l
      induction l with
      |nil=>intro _;rw [List.flatMap_nil,cnt_nil];exact Nat.zero_le _
      |cons b r ih=>
       intro hl
       rw [List.flatMap_cons,jQ,List.length_cons,Nat.succ_mul]
       have h1:=ih λy hy=>hl y (List.mem_cons_of_mem _ hy)
       have h2:cnt H k (cj H b)<=Bk k:=by
        have hb:=hl b List.mem_cons_self
        cases b with
        |ref c=>
         unfold cj
         dsimp only
         split
         ·rename_i bs hc
          obtain⟨l4,mQ⟩:=hb.parts hc
          exact (wa mQ).2 l4
         ·rw [cnt_nil];exact Nat.zero_le _
        |_=>show cnt H k []<=_;rw [cnt_nil];exact Nat.zero_le _
       omega
     refine Nat.le_trans (go λb hb=>?_) (Nat.mul_le_mul_right _ (Nat.le_trans gM VJ))
     obtain⟨j,_,hj⟩:=qQ hb
     exact hx b (List.mem_cons_of_mem _ (List.mem_of_getElem? hj))
    ·rw [cnt_nil];exact Nat.zero_le _
   ·rw [cnt_nil];exact Nat.zero_le _
  have one:cnt H (k+1) rows<=rows.length*(1+3*Bk k):=by
   induction rows with
   |nil=>rw [cnt_nil];exact Nat.zero_le _
   |cons v r ih=>
    rw [cnt_cons,List.length_cons,Nat.succ_mul]
    have h1:=ih λy hy=>h y (List.mem_cons_of_mem _ hy)
    have h2:=IY v (h v List.mem_cons_self)
    omega
  exact⟨one,λl4=>Nat.le_trans one (Nat.mul_le_mul_right _ l4)⟩
theorem tX{p:Addr}{H:Hp}{n:Nat}{f r:V}(hf:Sm p H n f)(hr:Sm p H n r):total H f r<=1000000:=by
 have B5:Bk 5=90484:=rfl
 have h1:cnt H 5 (aY H r)<=Bk 5:=by
  unfold aY
  cases e:bb H r with
  |none=>show cnt H 5 []<=_;rw [cnt_nil];exact Nat.zero_le _
  |some xs=>
   obtain⟨a,rfl,ha⟩:=dS e
   obtain⟨l4,hx⟩:=hr.parts ha
   exact (wa hx).2 l4
 have h2:gI H (aY H f)<=4*(1+Bk 5):=by
  unfold aY
  cases e:bb H f with
  |none=>exact Nat.zero_le _
  |some xs=>
   obtain⟨a,rfl,ha⟩:=dS e
   obtain⟨l4,hx⟩:=hf.parts ha
   show gI H xs<=_
   have go:∀{l:List V},(∀g∈l,Sm p H n g)->gI H l<=l.length*(1+Bk 5):=by
    intro l
    induction l with
    |nil=>intro _;exact Nat.zero_le _
    |cons g r ih=>
     intro hl
     show ((g::r).map λf=>1+cnt H 5 (hV H f)).sum<=_
     rw [List.map_cons,List.sum_cons,List.length_cons,Nat.succ_mul]
     have h1:(r.map λf=>1+cnt H 5 (hV H f)).sum<=r.length*(1+Bk 5):=ih λy hy=>hl y (List.mem_cons_of_mem _ hy)
     have h2:cnt H 5 (hV H g)<=Bk 5:=by
      unfold hV
      split
      ·rename_i x y z w e
       obtain⟨c,rfl,hc⟩:=dS e
       obtain⟨_,hp⟩:=(hl _ List.mem_cons_self).parts hc
       have hw:=hp w (by simp)
       cases w with
       |ref c'=>
        unfold cj
        dsimp only
        split
        ·rename_i bs mw
         obtain⟨VL,mQ⟩:=hw.parts mw
         exact (wa mQ).2 VL
        ·rw [cnt_nil];exact Nat.zero_le _
       |_=>show cnt H 5 []<=_;rw [cnt_nil];exact Nat.zero_le _
      ·rw [cnt_nil];exact Nat.zero_le _
     omega
   exact Nat.le_trans (go hx) (Nat.mul_le_mul_right _ l4)
 unfold total
 omega
theorem rh{p:Addr}{H H':Hp}{n:Nat}{b l f r:V}(s:ax H H')(hb:Dt p H n b)(hl:Dt p H n l)(hf:Dt p H n f)(hr:Dt p H n r):verdict H' b l f r=verdict H b l f r:=by
 have eB:aV H' 6 fI b=aV H 6 fI b:=gR mS s hb
 have eL:aV H' 3 cM l=aV H 3 cM l:=gR iB s hl
 have eF:aV H' 4 dy f=aV H 4 dy f:=gR jL s hf
 have th:∀{v:V},Dt p H n v->aY H' v=aY H v:=λh=>by unfold aY;rw [bj s h]
 have nms:∀{v:V},Dt p H n v->aB H' (aY H v)=aB H (aY H v):=λ{v} h=>List.map_congr_left λx hx=>by
  unfold aY at hx
  cases e:bb H v with
  |none=>rw [e] at hx;simp at hx
  |some xs=>
   rw [e] at hx
   obtain⟨a,rfl,ha⟩:=dS e
   obtain⟨m,hD⟩:=h.parts ha
   unfold cg
   rw [bj s (hD x hx)]
 have eV:eE H' b l=eE H b l:=by unfold eE;rw [eB,eL,th hb,th hl,nms hb,nms hl]
 unfold verdict
 rw [eV,th hb,th hl,nms hb,nms hl,bj s hr]
 by_cases v1:eE H b l=false
 ·rw [if_pos v1,if_pos v1]
 rw [if_neg v1,if_neg v1]
 have DN:=eq_true_of_ne_false v1
 unfold eE at DN
 rw [Bool.and_eq_true,Bool.and_eq_true] at DN
 have fu:dm H' (aB H (aY H b)++aB H (aY H l)) f=dm H (aB H (aY H b)++aB H (aY H l)) f:=by
  unfold dm
  rw [eF,th hf,nms hf]
  cases c:aV H 4 dy f with
  |false=>rfl
  |true=>
   obtain⟨af,xf,rfl,rF,tf,lf,gC⟩:=bW c
   rw [tf]
   congr 2
   refine all_congr λx hx=>?_
   obtain⟨c',pa,oa,ra,y,ps,os,rs,rfl,hc,_,hp,ho,_⟩:=dI (List.all_eq_true.mp gC x hx)
   rw [dU hc hp ho,dU (s _ _ hc) (s _ _ hp) (s _ _ ho)]
 rw [fu]
 by_cases v2:dm H (aB H (aY H b)++aB H (aY H l)) f=false
 ·rw [if_pos v2,if_pos v2]
 rw [if_neg v2,if_neg v2]
 by_cases v3:bb H r=none
 ·rw [if_pos v3,if_pos v3]
 rw [if_neg v3,if_neg v3,th hf]
 have He:=eq_true_of_ne_false v2
 unfold dm at He
 rw [Bool.and_eq_true] at He
 obtain⟨ab,xb,rfl,xm,tb,lb,iV⟩:=bW DN.1
 obtain⟨al,xl,rfl,xn,tl,ll,iW⟩:=bW DN.2.1
 obtain⟨af,xf,rfl,rF,tf,lf,gC⟩:=bW He.1
 obtain⟨mb,vO⟩:=hb.parts xm
 obtain⟨ml,vP⟩:=hl.parts xn
 obtain⟨mf,vR⟩:=hf.parts rF
 rw [tb,tl,tf]
 have eR:=mi (xb:=xb) (xl:=xl) (xf:=xf) (r:=r) (n:=mb+ml+mf+n) s (λx hx=>(vO x hx).up (by omega)) (λx hx=>(vP x hx).up (by omega)) (λx hx=>(vR x hx).up (by omega)) gC (hr.up (by omega))
 rw [eR]
 by_cases v4:eG H xb xl xf r=false
 ·rw [if_pos v4,if_pos v4]
 rw [if_neg v4,if_neg v4]
 have MU:=eq_true_of_ne_false v4
 obtain⟨xr,Sn⟩:=Option.ne_none_iff_exists'.mp v3
 obtain⟨ar,rfl,Bh⟩:=dS Sn
 unfold eG at MU
 rw [Bool.and_eq_true] at MU
 have IS:∀g∈xf,vQ H g:=λg hg=>by
  obtain⟨b',pa,oa,ra,y,ps,os,rs,rfl,eN,_,hp,ho,gp,_⟩:=dI (List.all_eq_true.mp gC g hg)
  have e4:dN H (.ref b')=.ref ra:=by unfold dN;rw [ak eN]
  have jX:=List.all_eq_true.mp MU.1 _ hg
  unfold i9 at jX
  rw [e4] at jX
  obtain⟨m',EW⟩:=(vR _ hg).parts eN
  exact⟨b',ra,_,_,_,rs,rfl,eN,gp,iY (EW _ (by simp)) gp jX⟩
 have MI:∀u∈xr,jZ H 5 u:=iY hr Bh MU.2
 have et:total H' (.ref af) (.ref ar)=total H (.ref af) (.ref ar):=by
  unfold total
  rw [th hf,th hr,tf,cY Bh,qW (TK.of s) IS,hU (TK.of s) MI]
 rw [et]
seal L2.PE L2.PS L2.gi L2.PT L2.PW L2.PA L2.PG L2.ja L2.PI L2.PO L2.eD L2.PC L2.eJ L2.bI L2.gj L2.jb L2.eU L2.je
section
variable {P:Program} {w:World} {K:PySem.W.Frag} {mg:Str->Option Value} {base:Heap} {R dB gT fg iD jA jB jC jD jE:Addr}
theorem xQ:aO ["_law_parts","_law_e"] ["_law_parts"] (ao (top 83)):=⟨rfl,rfl,rfl,by decide +kernel,rfl,by decide +kernel,by decide +kernel⟩
def BG:Sp:=λvs H Q _=>∃(t p:Addr) (n:Nat) (b l f r:V),vs = [.ref t]/\H t=some (.tup [b,l,f,r])/\Dt p H n b/\Dt p H n l/\Dt p H n f/\Dt p H n r/\total H f r<=1000000 /\
 (verdict H b l f r=0->∀(u pr:Addr) (H':Hp),ax H H'->H' u=some (.lst [.ref pr])->H' pr=some (.tup [b,l,f,r])->Q (.ref u) H')/\(verdict H b l f r≠0->∀H',ax H H'->Q (.str (tT (verdict H b l f r))) H')
theorem wb(H:Hp)(b l f r:V):verdict H b l f r=0\/verdict H b l f r=1\/verdict H b l f r=2\/verdict H b l f r=3:=by
 unfold verdict
 repeat' split
 all_goals simp
theorem Hx(T:Txt w K mg)(Z:MJ K mg R dB gT fg iD jA jB jC jD jE)(wc:lL P w K mg base 28 "program_of" ["boxes","lists","functions","rows"] (Bg dB gT fg))
  (Eg:vn P w K mg base 28 "_law_class" ["_law_e"] (xy dB gT fg)) (S:Src K mg "_law_told" (top 83) ["_law_parts"]):Def P w K mg base 29 "_law_told" ["_law_parts"] BG:=by
 refine S.ok xQ (λvs H Q E h=>?_) (λf0 cD A outer s H vs Q E hr h=>?_)
 ·obtain⟨t,p,n,b,l,f,r,rfl,_⟩:=h;rfl
 obtain⟨t,p,n,b,l,f,r,rfl,ht,hb,hl,hf,xt,hB,q0,q1⟩:=h
 refine⟨_,(aj (GI (i:=1) (R:=R) ⟨rfl,rfl,rfl⟩ xQ.nd rfl rfl rfl rfl Z.m0 Z.hit
  (λpn E1=>aj (aC (bN (aq (mP wc hr Dn rfl (aq (aJ (show gj _ (eu K) from aG) (pv 0) ag (λ_ _=>rfl)) (aq (aJ (show gj _ (eu K) from aG) (pv 0) ag (λ_ _=>rfl)) (aq (aJ (show gj _ (eu K) from aG) (pv 0) ag (λ_ _=>rfl)) (aq (aJ (show gj _ (eu K) from aG) (pv 0) ag (λ_ _=>rfl)) aa))))) aa))))
  (λpn a C hh=>aj (aC (Dv Eg hh (hr.hand a) rfl (aq (pv 1) aa)))))),?_⟩
 refine⟨λcls _ H'=>ax H H'/\((cls=.ref dB/\verdict H b l f r=1)\/(cls=.ref gT/\verdict H b l f r=2)\/(cls=.ref fg/\verdict H b l f r=3)),?_,?_⟩
 ·refine⟨_,rfl,t,_,0,_,rfl,rfl,aR.of ht,au (j:=0) rfl,_,rfl,t,_,1,_,rfl,rfl,aR.of ht,au (j:=1) rfl,_,rfl,t,_,2,_,rfl,rfl,aR.of ht,au (j:=2) rfl,_,rfl,t,_,3,_,rfl,rfl,aR.of ht,au (j:=3) rfl,b,l,f,r,p,n,rfl,hb,hl,hf,xt,hB,
   λv0 u H4 s4 hu h4=>?_,λv1 H4 s4=>⟨s4,.inl ⟨rfl,v1⟩⟩,λv2 H4 s4=>⟨s4,.inr (.inl ⟨rfl,v2⟩)⟩,λv3 H4 s4=>⟨s4,.inr (.inr ⟨rfl,v3⟩)⟩⟩
  refine⟨(by show 1<=sizeLine;decide),λc hc=>?_⟩
  have s5:=ah hc (.lst [.ref u])
  exact q0 v0 c u _ (s4.trans s5) ae (s5 _ _ h4)
 ·rintro C od H' a σ' ⟨s',h⟩ hlen
  have:1<σ'.length:=by rw [hlen];exact Nat.lt_succ_self 1
  rcases h with ⟨e,v⟩|⟨e,v⟩|⟨e,v⟩
  ·cases e
   refine⟨Z.o1.sub,.ref a,by rw [List.getElem?_set_self this],rfl,.inl ⟨rfl,λH2 s2=>?_⟩⟩
   have:=q1 (by rw [v];decide) H2 (s'.trans s2)
   rw [v] at this
   exact this
  ·cases e
   refine⟨Z.o2.sub,.ref a,by rw [List.getElem?_set_self this],rfl,.inr (.inl ⟨rfl,λH2 s2=>?_⟩)⟩
   have:=q1 (by rw [v];decide) H2 (s'.trans s2)
   rw [v] at this
   exact this
  ·cases e
   refine⟨Z.o3.sub,.ref a,by rw [List.getElem?_set_self this],rfl,.inr (.inr ⟨rfl,λH2 s2=>?_⟩)⟩
   have:=q1 (by rw [v];decide) H2 (s'.trans s2)
   rw [v] at this
   exact this
end
end bo
namespace bo
open PySem L2
seal L2.PE L2.PS L2.gi L2.PT L2.PW L2.PA L2.PG L2.ja L2.PI L2.PO L2.eD L2.PC L2.eJ L2.bI L2.gj L2.jb L2.eU L2.je
theorem rj{ns:List Str}{k:Int}(h:0<=k):fR (ns.map V.str) none (some k)=(ns.take k.toNat).map V.str:=by
 unfold fR
 rw [HT.kG,List.drop_zero,Nat.sub_zero]
 have e:HT.eS (ns.map V.str).length (ns.map V.str).length (some k)=min k.toNat (ns.map V.str).length:=by
  show (if k<0 then _ else _)=_
  rw [if_neg (by omega)]
 rw [e,List.length_map,List.map_take]
 by_cases c:k.toNat<=ns.length
 ·rw [Nat.min_eq_left c]
 ·rw [Nat.min_eq_right (by omega),List.take_of_length_le (by rw [List.length_map];omega),List.take_of_length_le (by rw [List.length_map];omega)]
theorem we(ns:List Str)(j:Nat):fR (ns.map V.str) (some (j:Int)) none=(ns.drop j).map V.str:=by
 unfold fR
 rw [HT.kG,HT.mH,List.length_map,List.map_drop]
 by_cases c:j<=ns.length
 ·rw [Nat.min_eq_left c,List.take_of_length_le (by rw [List.length_drop,List.length_map];omega)]
 ·rw [Nat.min_eq_right (by omega),List.drop_of_length_le (by rw [List.length_map];omega),List.drop_of_length_le (by rw [List.length_map];omega)]
  simp
theorem Hy(ns:List Str):fR (ns.map V.str) (some 3) none=(ns.drop 3).map V.str:=we ns 3
theorem HA(ns:List Str):fR (ns.map V.str) (some 5) none=(ns.drop 5).map V.str:=we ns 5
theorem HC(ns:List Str):fR (ns.map V.str) (some 7) none=(ns.drop 7).map V.str:=we ns 7
def HD(H:Hp)(x:V)(y:Str):Prop:=∃(c:Addr) (i:Int),x=.ref c/\H c=some (.tup [.str y,.int i])/\0<=i/\i<9
def IZ(H:Hp)(x:V)(y:Str):Prop:=∃(c d:Addr) (k:Nat),x=.ref c/\H c=some (.tup [.str y,.ref d])/\H d=some (.tup (List.replicate k (V.int 1)))/\k<=3
def BH(H:Hp)(x:V)(y:Str):Prop:=∃(c d:Addr),x=.ref c/\H c=some (.tup [.str "set",.str y,.ref d])/\H d=some (.tup [.str "number",.int 2])
def BJ(H:Hp)(x:V):Prop:=∃(c d:Addr),x=.ref c/\H c=some (.tup [.str "return",.ref d])/\H d=some (.tup [.str "number",.int 1])
def tY(H:Hp)(x:V)(y:Str):Prop:=∃(c d:Addr),x=.ref c/\H c=some (.tup [.str "tell",.ref d])/\H d=some (.tup [.str "box",.str y])
def I0(H:Hp)(nms:List Str)(x:V)(y:Str):Prop:=∃(c pa oa ra:Addr) (j k:Nat) (ss:List V) (v:V),x=.ref c/\H c=some (.tup [.str y,.ref pa,.ref oa,.ref ra])/\H pa=some (.tup (((nms.drop 5).take j).map V.str))/\j<=2/\H oa=some (.tup (((nms.drop 7).take k).map V.str))/\k<=2 /\
 H ra=some (.tup (ss ++ [v]))/\Paired (BH H) ss ((nms.drop 7).take k)/\BJ H v
theorem HD.tk{H H':Hp}(t:TK H H'){x:V}{y:Str}(h:HD H x y):HD H' x y:=let ⟨c,i,e,h1,r⟩:=h;⟨c,i,e,t _ _ h1,r⟩
theorem IZ.tk{H H':Hp}(t:TK H H'){x:V}{y:Str}(h:IZ H x y):IZ H' x y:=let ⟨c,d,k,e,h1,h2,r⟩:=h;⟨c,d,k,e,t _ _ h1,t _ _ h2,r⟩
theorem BH.tk{H H':Hp}(t:TK H H'){x:V}{y:Str}(h:BH H x y):BH H' x y:=let ⟨c,d,e,h1,h2⟩:=h;⟨c,d,e,t _ _ h1,t _ _ h2⟩
theorem BJ.tk{H H':Hp}(t:TK H H'){x:V}(h:BJ H x):BJ H' x:=let ⟨c,d,e,h1,h2⟩:=h;⟨c,d,e,t _ _ h1,t _ _ h2⟩
theorem tY.tk{H H':Hp}(t:TK H H'){x:V}{y:Str}(h:tY H x y):tY H' x y:=let ⟨c,d,e,h1,h2⟩:=h;⟨c,d,e,t _ _ h1,t _ _ h2⟩
theorem I0.tk{H H':Hp}(t:TK H H'){nms:List Str}{x:V}{y:Str}(h:I0 H nms x y):I0 H' nms x y:=by
 obtain⟨c,pa,oa,ra,j,k,ss,v,e,h1,h2,h3,h4,h5,h6,h7,h8⟩:=h
 exact⟨c,pa,oa,ra,j,k,ss,v,e,t _ _ h1,t _ _ h2,h3,t _ _ h4,h5,t _ _ h6,Paired.fP h7 λ_ _ z=>z.tk t,h8.tk t⟩
theorem Ext.tk{p:Addr}{H H':Hp}(g:Gen p H)(e:Ext p H H'):TK H H':=λ_ _ h=>e.tup g h
structure rm (H:Hp) (b l f r:Addr) (nms ts:List Str) (i j:Nat):Prop where
 nm:nms.length=9/\(∀x∈nms,fc x=true)/\nms.Nodup
 tm:ts.length<=2/\(∀x∈ts,fc x=true)/\ts.Nodup
 bx:∃xb,H b=some (.tup xb)/\Paired (HD H) xb (nms.take i)/\i<=3
 lx:∃xl,H l=some (.tup xl)/\Paired (IZ H) xl ((nms.drop 3).take j)/\j<=2
 fx:∃xf,H f=some (.tup xf)/\Paired (I0 H nms) xf ts
 rx:∃xr,H r=some (.tup xr)/\Paired (tY H) xr (nms.take i)
theorem rm.tk{H H':Hp}(t:TK H H'){b l f r:Addr}{nms ts:List Str}{i j:Nat}(h:rm H b l f r nms ts i j):rm H' b l f r nms ts i j:=by
 obtain⟨a,c,⟨xb,b1,b2,b3⟩,⟨xl,l1,l2,l3⟩,⟨xf,f1,f2⟩,⟨xr,r1,r2⟩⟩:=h
 exact⟨a,c,⟨xb,t _ _ b1,Paired.fP b2 λ_ _ z=>z.tk t,b3⟩,⟨xl,t _ _ l1,Paired.fP l2 λ_ _ z=>z.tk t,l3⟩,⟨xf,t _ _ f1,Paired.fP f2 λ_ _ z=>z.tk t⟩,⟨xr,t _ _ r1,Paired.fP r2 λ_ _ z=>z.tk t⟩⟩
def xR:Sp:=λvs H Q _=>∃(p:Addr),vs = [.ref p]/\Gen p H/\∀(t b l f r:Addr) (nms ts:List Str) (i j:Nat) (H':Hp),Ext p H H'->H' t=some (.tup [.ref b,.ref l,.ref f,.ref r])->rm H' b l f r nms ts i j->Q (.ref t) H'
section
variable {P:Program} {w:World} {K:PySem.W.Frag} {mg:Str->Option Value} {base:Heap}
theorem Ext.put{p acc:Addr}{H H1:Hp}{o:HO}(bR:H acc=none)(ne:acc≠p)(e:Ext p H H1):Ext p H (upd H1 acc o):=⟨λc q hc h=>by rw [aK (aL h bR)];exact e.but c q hc h,by
 obtain⟨n,hp,r⟩:=e.gen
 exact⟨n,by rw [aK (Ne.symm ne)];exact hp,r⟩⟩
theorem fw:aO ["_law_state_here","_law_names_here","_law_boxes","_law_lists","_law_functions","_law_title","_law_params","_law_owns","_law_rows"] ["_law_state_here"] (ao (top 82)):=⟨rfl,rfl,rfl,by decide +kernel,rfl,by decide +kernel,by decide +kernel⟩
theorem Eh(T:Txt w K mg)(bE:Def P w K mg base 1 "_law_next" ["_law_state_here","_law_size"] f7)(xS:Def P w K mg base 2 "_law_names" ["_law_state_here","_law_amount"] xN)
  (S:Src K mg "_law_small" (top 82) ["_law_state_here"]):Def P w K mg base 3 "_law_small" ["_law_state_here"] xR:=by
 refine S.ok fw (λvs H Q E h=>?_) (λf0 cD A outer s H vs Q E hr h=>?_)
 ·obtain⟨p,rfl,_⟩:=h;rfl
 obtain⟨p,rfl,g,q⟩:=h
 refine⟨_,(ai (aS (i:=1) fw.nd rfl (Or.inl rfl) (aw (xS) hr rfl (aq (pv 0) (aq ag aa))))
   (cE (aS (i:=2) fw.nd rfl (Or.inl rfl) (eM dD rfl T.cm bL (aq (cq (N':= ["_law_name","_law_state_here"]) (bg (ao (top 82)) (by rfl) (by decide +kernel) (by decide +kernel) (by decide +kernel) (by decide +kernel) (by decide +kernel) (by decide +kernel)) rfl (gP 1 [0] (by rfl) (by rfl) (by decide +kernel)) (kC (bJ iM (pv 1) cp (bV (aw (bE.mono (by decide)) hr rfl (aq (pv 0) (aq ag aa)))))) (λ_ _ _=>aM (i:=0) (show (["_law_name","_law_state_here"]:List Str).Nodup by decide +kernel) rfl (Or.inl rfl) (Or.inr rfl)) (λ_ _ _=>cB) (λ_ _ _=>(aA (aq (pv 0) (aq (aw (bE.mono (by decide)) hr rfl (aq (pv 1) (aq ag aa))) aa))))) aa)))
   (cE (aS (i:=3) fw.nd rfl (Or.inl rfl) (eM dD rfl T.cm bL (aq (cq (N':= ["_law_name","_law_state_here"]) (bg (ao (top 82)) (by rfl) (by decide +kernel) (by decide +kernel) (by decide +kernel) (by decide +kernel) (by decide +kernel) (by decide +kernel)) rfl (gP 1 [0] (by rfl) (by rfl) (by decide +kernel)) (kC (bJ iM (bJ iM (pv 1) (bV ag) cp) cp (bV (aw (bE.mono (by decide)) hr rfl (aq (pv 0) (aq ag aa)))))) (λ_ _ _=>aM (i:=0) (show (["_law_name","_law_state_here"]:List Str).Nodup by decide +kernel) rfl (Or.inl rfl) (Or.inr rfl)) (λ_ _ _=>cB) (λ_ _ _=>(aA (aq (pv 0) (aq (aU og (aA (bq [.int 1] (by rfl))) (aw (bE.mono (by decide)) hr rfl (aq (pv 1) (aq ag aa)))) aa))))) aa)))
   (cE (aS (i:=4) fw.nd rfl (Or.inl rfl) (aA aa))
   (cE (dO PassesOwn.never rfl (kC (aw (xS) hr rfl (aq (pv 0) (aq (aw (bE.mono (by decide)) hr rfl (aq (pv 0) (aq ag aa))) aa)))) (aM (i:=5) fw.nd rfl (Or.inl rfl))
   (ai (aS (i:=6) fw.nd rfl (Or.inl rfl) (eM dD rfl T.cm bL (aq (bJ iM (bJ iM (pv 1) (bV ag) cp) cp (bV (aw (bE.mono (by decide)) hr rfl (aq (pv 0) (aq ag aa))))) aa)))
   (ai (aS (i:=7) fw.nd rfl (Or.inl rfl) (eM dD rfl T.cm bL (aq (bJ iM (bJ iM (pv 1) (bV ag) cp) cp (bV (aw (bE.mono (by decide)) hr rfl (aq (pv 0) (aq ag aa))))) aa)))
   (ai (aS (i:=8) fw.nd rfl (Or.inl rfl) (aU bK (eM dD rfl T.cm bL (aq (cq (N':= ["_law_name"]) (bg (ao (top 82)) (by rfl) (by decide +kernel) (by decide +kernel) (by decide +kernel) (by decide +kernel) (by decide +kernel) (by decide +kernel)) rfl (gP 1 [] (by rfl) (by rfl) (by decide +kernel)) (cG (pv 7)) (λ_ _ _=>aM (i:=0) (show (["_law_name"]:List Str).Nodup by decide +kernel) rfl (Or.inl rfl) (Or.inr rfl)) (λ_ _ _=>cB) (λ_ _ _=>(aA (aq aD (aq (pv 0) (aq (aA (bq [.str "number",.int 2] (by rfl))) aa)))))) aa)) (aA (aq (aA (aq aD (aq (aA (bq [.str "number",.int 1] (by rfl))) aa))) aa))))
   (aj (aS (i:=4) fw.nd rfl (Or.inl rfl) (aU bK (pv 4) (aA (aq (aA (aq (pv 5) (aq (pv 6) (aq (pv 7) (aq (pv 8) aa))))) aa)))))))))
   (aj (aC (aA (aq (pv 2) (aq (pv 3) (aq (pv 4) (aq (eM dD rfl T.cm bL (aq (cq (N':= ["_law_name","_law_number"]) (bg (ao (top 82)) (by rfl) (by decide +kernel) (by decide +kernel) (by decide +kernel) (by decide +kernel) (by decide +kernel) (by decide +kernel)) rfl (gP 2 [] (by rfl) (by rfl) (by decide +kernel)) (cG (pv 2)) (λ_ _ _=>(show PG _ _ (zV K 2 (kA (fK 0) (kA (fK 1) zU))) from iJ (n:=2) rfl (bF (aM (i:=0) (show (["_law_name","_law_number"]:List Str).Nodup by decide +kernel) rfl (Or.inl rfl) (Or.inr rfl)) (bF (aM (i:=1) (show (["_law_name","_law_number"]:List Str).Nodup by decide +kernel) rfl (Or.inl rfl) (Or.inr rfl)) gK)))) (λ_ _ _=>cB) (λ_ _ _=>(aA (aq aD (aq (aA (aq aD (aq (pv 0) aa))) aa))))) aa)) aa)))))))))))),?_⟩
 try dsimp only [gQ]
 have l3:(100000:Nat)<sizeLine:=by rw [sizeLine_eq];decide
 refine⟨_,rfl,p,9,rfl,g,by decide,by decide,λan nms H1 e1 VM SN SO Fm OZ=>?_⟩
 have VN:nms.length=9:=by omega
 have Cm:an≠p:=g.ne VM
 refine⟨λσ H'=>∃(b:Addr) (xb:List V) (i:Nat),σ = [some (.ref p),some (.ref an),some (.ref b),none,none,none,none,none,none]/\Ext p H H'/\H' an=some (.lst (nms.map V.str))/\H' b=some (.tup xb)/\Paired (HD H') xb (nms.take i)/\i<=3,?_,?_⟩
 ·refine⟨_,rfl,_,rfl,p,4,rfl,e1.gen,by decide,λk H2 k0 k1 e2=>?_⟩
  have lu:=e1.trans e2
  refine⟨k,rfl,an,_,rfl,bX.of (e2.but _ _ Cm SN),λsl HE=>?_⟩
  rw [rj k0]
  have Pk:sl≠p:=lu.gen.ne HE
  have e3:=Ext.new lu.gen HE (.lst ((nms.take k.toNat).map V.str))
  have h3:upd H2 sl (.lst ((nms.take k.toNat).map V.str)) sl=some (.lst ((nms.take k.toNat).map V.str)):=ae
  have mn:=lu.trans e3
  have MV:=e3.but _ _ Cm (e2.but _ _ Cm SN)
  generalize upd H2 sl (.lst ((nms.take k.toNat).map V.str))=H3 at e3 h3 mn MV
  refine⟨sl,rfl,⟨_,bX.of h3⟩,wY (K:=K) (tc:=λ_ H Q=>Q true H) (te:=ic (bD (bQ 0) (bD (nJ f7 (bD (bQ 1) (bD (tC (V.int 9)) fE))) fE))) (cs:= [some (.ref p)])
   (λacc i ys H'=>H3 acc=none/\Ext p H3 H'/\Paired (HD H') ys ((nms.take k.toNat).take i)) (by rw [List.length_map,List.length_take];omega) rfl (λacc bR=>⟨bR,Ext.new e3.gen bR _,by rw [List.take_zero];exact .nil⟩) (λacc i ys H' h=>h.2.1.but _ _ Pk h3) ?_ ?_⟩
  ·rintro acc i x ys H4 kT kF bR gm ⟨_,e4,hp⟩ MW Hq O6
   have zr:acc≠p:=mn.gen.ne bR
   rw [List.getElem?_map] at gm
   obtain⟨y,hy,rfl⟩:=Option.map_eq_some_iff.mp gm
   refine⟨_,rfl,_,rfl,p,9,rfl,e4.gen,by decide,λr H5 r0 r1 e5=>⟨(by show 2<=sizeLine;omega),λu hu=>?_⟩⟩
   have e6:=e5.trans (Ext.new e5.gen hu (.tup [.str y,.int r]))
   have h6:upd H5 u (.tup [.str y,.int r]) u=some (.tup [.str y,.int r]):=ae
   generalize upd H5 u (.tup [.str y,.int r])=H6 at e6 h6
   have Ja:=e6.but _ _ zr MW
   have VO:u≠acc:=λz=>by rw [z,Ja] at h6;cases h6
   refine Hq _ _ Ja ⟨bR,Ext.put bR zr (e4.trans e6),?_⟩
   have HF:TK H4 (upd H6 acc (.lst (ys ++ [.ref u]))):=λc xs h=>by
    rw [aK (λz=>by rw [z,MW] at h;cases h)]
    exact e6.tup e4.gen h
   rw [List.take_add_one,hy]
   exact dP (Paired.fP hp λ_ _ z=>z.tk HF) (.cons ⟨u,r,rfl,by rw [aK VO];exact h6,r0,r1⟩ .nil)
  ·rintro acc ys H4 bR ⟨_,e4,hp⟩ MW _
   have zr:acc≠p:=mn.gen.ne bR
   rw [List.length_map,List.take_length] at hp
   refine⟨acc,_,rfl,.inl ⟨bX.of MW,λb hb=>?_⟩⟩
   have e5:=Ext.new e4.gen hb (.tup ys)
   refine⟨b,ys,k.toNat,rfl,mn.trans (e4.trans e5),e5.but _ _ Cm (e4.but _ _ Cm MV),ae,Paired.fP hp λ_ _ z=>z.tk (Ext.tk e4.gen e5),by omega⟩
 rintro σ H2 ⟨b,xb,i,rfl,e2,Ab,vb,zt,SQ⟩
 refine⟨λσ H'=>∃(l:Addr) (xl:List V) (j:Nat),σ = [some (.ref p),some (.ref an),some (.ref b),some (.ref l),none,none,none,none,none]/\Ext p H2 H'/\H' l=some (.tup xl)/\Paired (IZ H') xl ((nms.drop 3).take j)/\j<=2,?_,?_⟩
 ·refine⟨_,rfl,3,rfl,an,_,rfl,bX.of Ab,λs1 Lk=>?_⟩
  rw [Hy]
  have Pl:s1≠p:=e2.gen.ne Lk
  have e3:=Ext.new e2.gen Lk (.lst ((nms.drop 3).map V.str))
  have h3:upd H2 s1 (.lst ((nms.drop 3).map V.str)) s1=some (.lst ((nms.drop 3).map V.str)):=ae
  generalize upd H2 s1 (.lst ((nms.drop 3).map V.str))=H3 at e3 h3
  refine⟨_,rfl,p,3,rfl,e3.gen,by decide,λk H4 k0 k1 e4=>?_⟩
  refine⟨k,rfl,s1,_,rfl,bX.of (e4.but _ _ Pl h3),λsl HE=>?_⟩
  rw [rj k0]
  have VP:=e3.trans e4
  have Pk:sl≠p:=e4.gen.ne HE
  have e5:=Ext.new e4.gen HE (.lst (((nms.drop 3).take k.toNat).map V.str))
  have h5:upd H4 sl (.lst (((nms.drop 3).take k.toNat).map V.str)) sl=some (.lst (((nms.drop 3).take k.toNat).map V.str)):=ae
  have IX:=VP.trans e5
  generalize upd H4 sl (.lst (((nms.drop 3).take k.toNat).map V.str))=H5 at e5 h5 IX
  refine⟨sl,rfl,⟨_,bX.of h5⟩,wY (K:=K) (tc:=λ_ H Q=>Q true H) (te:=ic (bD (bQ 0) (bD (iG qF (ic λ_ H Q=>Q [V.int 1] H) (nJ f7 (bD (bQ 1) (bD (tC (V.int 4)) fE)))) fE))) (cs:= [some (.ref p)])
   (λacc i ys H'=>H5 acc=none/\Ext p H5 H'/\Paired (IZ H') ys (((nms.drop 3).take k.toNat).take i)) (by rw [List.length_map,List.length_take,List.length_drop];omega) rfl (λacc bR=>⟨bR,Ext.new IX.gen bR _,by rw [List.take_zero];exact .nil⟩) (λacc i ys H' h=>h.2.1.but _ _ Pk h5) ?_ ?_⟩
  ·rintro acc i' x ys H6 kT kF bR gm ⟨_,e6,hp⟩ Ja Hq O6
   have zr:acc≠p:=IX.gen.ne bR
   rw [List.getElem?_map] at gm
   obtain⟨y,hy,rfl⟩:=Option.map_eq_some_iff.mp gm
   refine⟨_,rfl,(by show 1<=sizeLine;omega),λu1 md=>?_⟩
   have e7:=Ext.new e6.gen md (.tup [.int 1])
   have h7:upd H6 u1 (.tup [.int 1]) u1=some (.tup [.int 1]):=ae
   generalize upd H6 u1 (.tup [.int 1])=H7 at e7 h7
   refine⟨_,rfl,p,4,rfl,e7.gen,by decide,λr H8 r0 r1 e8=>?_⟩
   refine⟨u1,r,[.int 1],rfl,rfl,e8.tup e7.gen h7,by decide,r0,by omega,λu2 H9 s9 h9=>⟨(by show 2<=sizeLine;omega),λu3 oO=>?_⟩⟩
   have e9:=ax.ext e8.gen s9
   have VQ:=e7.trans (e8.trans e9)
   have e10:=Ext.new e9.gen oO (.tup [.str y,.ref u2])
   have pP:upd H9 u3 (.tup [.str y,.ref u2]) u3=some (.tup [.str y,.ref u2]):=ae
   have Pm:=e10.tup e9.gen h9
   have Ei:=VQ.trans e10
   generalize upd H9 u3 (.tup [.str y,.ref u2])=pb at e10 pP Pm Ei
   have jY:=Ei.but _ _ zr Ja
   have rG:∀{c:Addr} {xs:List V},pb c=some (.tup xs)->c≠acc:=λh z=>by rw [z,jY] at h;cases h
   refine Hq _ _ jY ⟨bR,Ext.put bR zr (e6.trans Ei),?_⟩
   have HF:TK H6 (upd pb acc (.lst (ys ++ [.ref u3]))):=λc xs h=>by
    have h':=Ei.tup e6.gen h
    rw [aK (rG h')]
    exact h'
   rw [List.take_add_one,hy]
   refine dP (Paired.fP hp λ_ _ z=>z.tk HF) (.cons ⟨u3,u2,r.toNat,rfl,by rw [aK (rG pP)];exact pP,?_,by omega⟩ .nil)
   rw [aK (rG Pm),Pm]
   have:∀m:Nat,(List.replicate m [V.int 1]).flatten=List.replicate m (V.int 1):=λm=>by
    induction m with
    |zero=>rfl
    |succ m ih=>rw [List.replicate_succ,List.flatten_cons,ih];rfl
   rw [this]
  ·rintro acc ys H6 bR ⟨_,e6,hp⟩ Ja _
   rw [List.length_map,List.take_length] at hp
   refine⟨acc,_,rfl,.inl ⟨bX.of Ja,λb' eN=>?_⟩⟩
   have e7:=Ext.new e6.gen eN (.tup ys)
   exact⟨b',ys,k.toNat,rfl,IX.trans (e6.trans e7),ae,Paired.fP hp λ_ _ z=>z.tk (Ext.tk e6.gen e7),by omega⟩
 rintro σ H3 ⟨l,xl,j,rfl,e3,R7,Ll,VS⟩
 have Pn:=Ext.tk e2.gen e3
 have MV:=e3.but _ _ Cm Ab
 have Hw:=Pn _ _ vb
 have Po:=Paired.fP zt λ_ _ z=>z.tk Pn
 have mn:=e2.trans e3
 clear zt vb Ab Pn
 refine⟨λσ H'=>∃(f:Addr),σ = [some (.ref p),some (.ref an),some (.ref b),some (.ref l),some (.ref f),none,none,none,none]/\Ext p H3 H'/\H' f=some (.tup []),?_,?_⟩
 ·exact⟨(by show 0<=sizeLine;omega),λf hf=>⟨f,rfl,Ext.new e3.gen hf _,ae⟩⟩
 rintro σ H4 ⟨f,rfl,e4,xC⟩
 refine⟨λσ H'=>∃(f:Addr) (xf:List V) (ts:List Str) (x5 x6 x7 x8:Option V),σ = [some (.ref p),some (.ref an),some (.ref b),some (.ref l),some (.ref f),x5,x6,x7,x8]/\Ext p H3 H'/\ts.length<=2/\(∀x∈ts,fc x=true)/\ts.Nodup/\H' f=some (.tup xf)/\Paired (I0 H' nms) xf ts,?_,?_⟩
 ·refine⟨_,rfl,_,rfl,p,3,rfl,e4.gen,by decide,λk H5 k0 k1 e5=>?_⟩
  refine⟨p,k,rfl,e5.gen,k0,by omega,λtn ts H6 e6 Mp Cn XA Pp Pq=>?_⟩
  have Pr:=e5.trans e6
  have VT:tn≠p:=e5.gen.ne Mp
  have MX:=Pr.tup e4.gen xC
  refine⟨tn,rfl,⟨_,bX.of Cn⟩,rN (xs:=ts.map V.str) (λi σ H'=>∃(f:Addr) (xf:List V) (x5 x6 x7 x8:Option V),σ = [some (.ref p),some (.ref an),some (.ref b),some (.ref l),some (.ref f),x5,x6,x7,x8]/\Ext p H6 H'/\H' f=some (.tup xf)/\Paired (I0 H' nms) xf (ts.take i)) ⟨f,[],_,_,_,_,rfl,Ext.refl e6.gen,MX,by rw [List.take_zero];exact .nil⟩ ?_ ?_ ?_⟩
  ·rintro i' σ H' _ ⟨_,_,_,_,_,_,rfl,e7,_⟩
   exact bX.of (e7.but _ _ VT Cn)
  ·rintro i' x σ H7 gm ⟨f',xf,x5,x6,x7,x8,rfl,e7,Pu,i8⟩
   rw [List.getElem?_map] at gm
   obtain⟨y,hy,rfl⟩:=Option.map_eq_some_iff.mp gm
   have SR:=e7.but _ _ Cm (Pr.but _ _ Cm (e4.but _ _ Cm MV))
   refine⟨_,rfl,5,rfl,an,_,rfl,bX.of SR,λs1 Lk=>?_⟩
   rw [HA]
   have Pl:s1≠p:=e7.gen.ne Lk
   have e8:=Ext.new e7.gen Lk (.lst ((nms.drop 5).map V.str))
   have h8:upd H7 s1 (.lst ((nms.drop 5).map V.str)) s1=some (.lst ((nms.drop 5).map V.str)):=ae
   generalize upd H7 s1 (.lst ((nms.drop 5).map V.str))=H8 at e8 h8
   refine⟨_,rfl,p,3,rfl,e8.gen,by decide,λCo H9 SS VU e9=>?_⟩
   refine⟨Co,rfl,s1,_,rfl,bX.of (e9.but _ _ Pl h8),λs2 Ac=>?_⟩
   rw [rj SS]
   have e10:=Ext.new e9.gen Ac (.lst (((nms.drop 5).take Co.toNat).map V.str))
   have pP:upd H9 s2 (.lst (((nms.drop 5).take Co.toNat).map V.str)) s2=some (.lst (((nms.drop 5).take Co.toNat).map V.str)):=ae
   have Lm:=e8.trans (e9.trans e10)
   generalize upd H9 s2 (.lst (((nms.drop 5).take Co.toNat).map V.str))=pb at e10 pP Lm
   refine⟨s2,_,rfl,.inl ⟨bX.of pP,λpa jS=>?_⟩⟩
   have e11:=Ext.new e10.gen jS (.tup (((nms.drop 5).take Co.toNat).map V.str))
   have vT:upd pb pa (.tup (((nms.drop 5).take Co.toNat).map V.str)) pa=some (.tup (((nms.drop 5).take Co.toNat).map V.str)):=ae
   have zu:=Lm.trans e11
   generalize upd pb pa (.tup (((nms.drop 5).take Co.toNat).map V.str))=xM at e11 vT zu
   have Pw:=zu.but _ _ Cm SR
   refine⟨_,rfl,7,rfl,an,_,rfl,bX.of Pw,λs3 JO=>?_⟩
   rw [HC]
   have VW:s3≠p:=zu.gen.ne JO
   have Ef:=Ext.new zu.gen JO (.lst ((nms.drop 7).map V.str))
   have SU:upd xM s3 (.lst ((nms.drop 7).map V.str)) s3=some (.lst ((nms.drop 7).map V.str)):=ae
   generalize upd xM s3 (.lst ((nms.drop 7).map V.str))=Px at Ef SU
   refine⟨_,rfl,p,3,rfl,Ef.gen,by decide,λk2 zN VX XB zv=>?_⟩
   refine⟨k2,rfl,s3,_,rfl,bX.of (zv.but _ _ VW SU),λs4 VY=>?_⟩
   rw [rj VX]
   have Fn:=Ext.new zv.gen VY (.lst (((nms.drop 7).take k2.toNat).map V.str))
   have MY:upd zN s4 (.lst (((nms.drop 7).take k2.toNat).map V.str)) s4=some (.lst (((nms.drop 7).take k2.toNat).map V.str)):=ae
   have Fo:=Ef.trans (zv.trans Fn)
   generalize upd zN s4 (.lst (((nms.drop 7).take k2.toNat).map V.str))=MZ at Fn MY Fo
   refine⟨s4,_,rfl,.inl ⟨bX.of MY,λoa kj=>?_⟩⟩
   have M3:=Ext.new Fn.gen kj (.tup (((nms.drop 7).take k2.toNat).map V.str))
   have CT:upd MZ oa (.tup (((nms.drop 7).take k2.toNat).map V.str)) oa=some (.tup (((nms.drop 7).take k2.toNat).map V.str)):=ae
   have xT:=Fo.trans M3
   generalize upd MZ oa (.tup (((nms.drop 7).take k2.toNat).map V.str))=D8 at M3 CT xT
   have Py:=xT.tup zu.gen vT
   refine⟨_,rfl,oa,rfl,⟨_,aR.of CT⟩,wZ (K:=K) (tc:=λ_ H Q=>Q true H) (te:=ic (bD (tC (V.str "set")) (bD (bQ 0) (bD (ic λ_ H Q=>Q [V.str "number",V.int 2] H) fE)))) (cs:= [])
    (λacc i ys H'=>D8 acc=none/\ax D8 H'/\Paired (BH H') ys (((nms.drop 7).take k2.toNat).take i)) (by rw [List.length_map,List.length_take,List.length_drop];omega) rfl (λacc bR=>⟨bR,ah bR _,by rw [List.take_zero];exact .nil⟩) (λacc i ys H' h=>h.2.1 _ _ CT) ?_ ?_⟩
   ·rintro acc i2 x ys zO kT kF bR gm ⟨_,IP,hp⟩ D9 Hq O6
    rw [List.getElem?_map] at gm
    obtain⟨z,hz,rfl⟩:=Option.map_eq_some_iff.mp gm
    refine⟨_,rfl,(by show 2<=sizeLine;omega),λu1 md=>⟨(by show 3<=sizeLine;omega),λu2 kN=>?_⟩⟩
    have Fq:=ah md (.tup [.str "number",.int 2])
    have zP:upd zO u1 (.tup [.str "number",.int 2]) u1=some (.tup [.str "number",.int 2]):=ae
    generalize upd zO u1 (.tup [.str "number",.int 2])=v9 at Fq zP kN ⊢
    have uj:=ah kN (.tup [.str "set",.str z,.ref u1])
    have Cp:upd v9 u2 (.tup [.str "set",.str z,.ref u1]) u2=some (.tup [.str "set",.str z,.ref u1]):=ae
    have wg:=uj _ _ zP
    have rn:=Fq.trans uj
    generalize upd v9 u2 (.tup [.str "set",.str z,.ref u1])=BE at uj Cp wg rn ⊢
    have BK:=rn _ _ D9
    have rG:∀{c:Addr} {xs:List V},BE c=some (.tup xs)->c≠acc:=λh z=>by rw [z,BK] at h;cases h
    refine Hq _ _ BK ⟨bR,λb' o eN=>?_,?_⟩
    ·rw [aK (aL eN bR)];exact rn _ _ (IP _ _ eN)
    have HF:TK zO (upd BE acc (.lst (ys ++ [.ref u2]))):=λc xs h=>by
     have h':=rn _ _ h
     rw [aK (rG h')]
     exact h'
    rw [List.take_add_one,hz]
    exact dP (Paired.fP hp λ_ _ z=>z.tk HF) (.cons ⟨u2,u1,rfl,by rw [aK (rG Cp)];exact Cp,by rw [aK (rG wg)];exact wg⟩ .nil)
   ·rintro acc ys zO bR ⟨_,IP,hp⟩ D9 Kp
    rw [List.length_map,List.take_length] at hp
    have XC:ys.length<=2:=by rw [hp.length,List.length_take];omega
    refine⟨acc,_,rfl,.inl ⟨bX.of D9,λta SV=>?_⟩⟩
    have Fq:=IP.trans (ah SV (.tup ys))
    have zP:upd zO ta (.tup ys) ta=some (.tup ys):=ae
    have Ln:=Paired.fP hp λ_ _ z=>z.tk (TK.of (ah SV (.tup ys)))
    generalize upd zO ta (.tup ys)=v9 at Fq zP Ln
    refine⟨(by show 2<=sizeLine;omega),λu1 md=>?_⟩
    have uj:=ah md (.tup [.str "number",.int 1])
    have Cp:upd v9 u1 (.tup [.str "number",.int 1]) u1=some (.tup [.str "number",.int 1]):=ae
    generalize upd v9 u1 (.tup [.str "number",.int 1])=BE at uj Cp
    refine⟨(by show 2<=sizeLine;omega),λu2 kN=>?_⟩
    have Ht:=ah kN (.tup [.str "return",.ref u1])
    have SW:upd BE u2 (.tup [.str "return",.ref u1]) u2=some (.tup [.str "return",.ref u1]):=ae
    generalize upd BE u2 (.tup [.str "return",.ref u1])=MS at Ht SW
    refine⟨(by show 1<=sizeLine;omega),λu3 oO=>?_⟩
    have M4:=ah oO (.tup [.ref u2])
    have SX:upd MS u3 (.tup [.ref u2]) u3=some (.tup [.ref u2]):=ae
    have xU:=uj.trans (Ht.trans M4)
    have tI:BJ (upd MS u3 (.tup [.ref u2])) (.ref u2):=⟨u2,u1,rfl,M4 _ _ SW,M4 _ _ (Ht _ _ Cp)⟩
    generalize upd MS u3 (.tup [.ref u2])=XD at M4 SX xU tI
    refine⟨ta,u3,ys,[.ref u2],rfl,rfl,xU _ _ zP,SX,by rw [List.length_singleton];omega,λra SY Pz VZ=>?_⟩
    have Fs:=Fq.trans (xU.trans Pz)
    have S0:=ax.ext xT.gen Fs
    have PB:=zu.trans (xT.trans S0)
    refine⟨_,rfl,_,rfl,_,rfl,_,rfl,_,rfl,(by show 4<=sizeLine;omega),λc hc=>?_⟩
    have S4:=ah hc (.tup [.str y,.ref pa,.ref oa,.ref ra])
    have S5:upd SY c (.tup [.str y,.ref pa,.ref oa,.ref ra]) c=some (.tup [.str y,.ref pa,.ref oa,.ref ra]):=ae
    generalize upd SY c (.tup [.str y,.ref pa,.ref oa,.ref ra])=S6 at S4 S5
    refine⟨(by show 1<=sizeLine;omega),λc2 rE=>?_⟩
    have PD:=ah rE (.tup [.ref c])
    have S7:upd S6 c2 (.tup [.ref c]) c2=some (.tup [.ref c]):=ae
    have p9:=S4.trans PD
    have Lo:=PD _ _ S5
    generalize upd S6 c2 (.tup [.ref c])=XE at PD S7 p9 Lo
    have HG:=PB.trans (ax.ext S0.gen p9)
    have V0:xf.length<=2:=by rw [i8.length,List.length_take];omega
    refine⟨f',c2,xf,[.ref c],rfl,rfl,HG.tup e7.gen Pu,S7,by rw [List.length_singleton];omega,λf2 XF Jb V1=>?_⟩
    have Lp:=HG.trans (ax.ext HG.gen Jb)
    have IQ:=Ext.tk e7.gen Lp
    have Lq:=TK.of (Fs.trans (p9.trans Jb))
    have PF:=TK.of (xU.trans (Pz.trans (p9.trans Jb)))
    have PH:=TK.of (Pz.trans (p9.trans Jb))
    have PJ:=TK.of (p9.trans Jb)
    refine⟨f2,_,_,_,_,_,rfl,e7.trans Lp,V1,?_⟩
    rw [List.take_add_one,hy]
    exact dP (Paired.fP i8 λ_ _ z=>z.tk IQ) (.cons ⟨c,pa,oa,ra,Co.toNat,k2.toNat,ys,.ref u2,rfl,Jb _ _ Lo,Lq _ _ Py,by omega,Lq _ _ CT,by omega,PJ _ _ VZ,Paired.fP Ln λ_ _ z=>z.tk PF,tI.tk PH⟩ .nil)
  ·rintro σ H7 ⟨f',xf,x5,x6,x7,x8,rfl,e7,Pu,i8⟩
   rw [List.length_map,List.take_length] at i8
   exact⟨f',xf,ts,x5,x6,x7,x8,rfl,e4.trans (Pr.trans e7),by omega,Pp,Pq,Pu,i8⟩
 rintro σ H5 ⟨f',xf,ts,x5,x6,x7,x8,rfl,e5,mz,Pp,Pq,V2,i8⟩
 have M5:=Ext.tk e3.gen e5
 have Lr:=M5 _ _ Hw
 have V3:=M5 _ _ R7
 have BL:=Paired.fP Po λ_ _ z=>z.tk M5
 have PK:=Paired.fP Ll λ_ _ z=>z.tk M5
 refine⟨_,rfl,_,rfl,_,rfl,_,rfl,b,rfl,⟨_,aR.of Lr⟩,λacc bR=>?_⟩
 have V4:xb.length<=3:=by rw [BL.length,List.length_take];omega
 refine⟨λi2 m σ2 ys H2=>m=xb.length-i2/\i2<=xb.length/\(∃x0 x1,σ2 = [x0,x1])/\Paired (tY H2) ys ((nms.take i).take i2)/\H2 acc=some (.lst ys)/\ax H5 H2,⟨_,rfl,Nat.zero_le _,⟨_,_,rfl⟩,by rw [List.take_zero];exact .nil,ae,ah bR _⟩,?_⟩
 rintro i2 m σ2 ys H6 ⟨rfl,hi,⟨x0,x1,rfl⟩,hp,oW,s6⟩
 refine⟨oW,?_⟩
 have XG:ys.length<=3:=by rw [hp.length,List.length_take,List.length_take];omega
 by_cases eQ:i2<xb.length
 ·refine .inr ⟨⟨xb,_,aR.of (s6 _ _ Lr),List.getElem?_eq_getElem eQ⟩,by omega,?_⟩
  rintro x H7 ⟨rfl,hx⟩
  have gm:=hx xb (aR.of (s6 _ _ Lr))
  obtain⟨y,hy⟩:∃y,(nms.take i)[i2]?=some y:=⟨_,List.getElem?_eq_getElem (by rw [<-BL.length];exact eQ)⟩
  obtain⟨c,v,rfl,hc,_⟩:=gY BL gm hy
  refine⟨c,_,rfl,aR.of (s6 _ _ hc),rfl,_,_,rfl,_,_,rfl,rfl,?_⟩
  refine⟨_,rfl,(by show 2<=sizeLine;omega),λu1 md=>⟨(by show 2<=sizeLine;omega),λu2 kN=>?_⟩⟩
  have Fq:=ah md (.tup [.str "box",.str y])
  have zP:upd H7 u1 (.tup [.str "box",.str y]) u1=some (.tup [.str "box",.str y]):=ae
  generalize upd H7 u1 (.tup [.str "box",.str y])=v9 at Fq zP kN ⊢
  have uj:=ah kN (.tup [.str "tell",.ref u1])
  have Cp:upd v9 u2 (.tup [.str "tell",.ref u1]) u2=some (.tup [.str "tell",.ref u1]):=ae
  have wg:=uj _ _ zP
  have rn:=Fq.trans uj
  generalize upd v9 u2 (.tup [.str "tell",.ref u1])=BE at uj Cp wg rn ⊢
  have BK:=rn _ _ oW
  have rG:∀{c:Addr} {xs:List V},BE c=some (.tup xs)->c≠acc:=λh z=>by rw [z,BK] at h;cases h
  refine⟨BK,_,(by omega:xb.length-(i2+1)<xb.length-i2),rfl,eQ,⟨_,_,rfl⟩,?_,ae,λb' o eN=>?_⟩
  ·have HF:TK H7 (upd BE acc (.lst (ys ++ [.ref u2]))):=λc xs h=>by
    have h':=rn _ _ h
    rw [aK (rG h')]
    exact h'
   rw [List.take_add_one,hy]
   exact dP (Paired.fP hp λ_ _ z=>z.tk HF) (.cons ⟨u2,u1,rfl,by rw [aK (rG Cp)];exact Cp,by rw [aK (rG wg)];exact wg⟩ .nil)
  ·rw [aK (aL eN bR)];exact rn _ _ (s6 _ _ eN)
 obtain rfl:i2=xb.length:=by omega
 refine .inl ⟨⟨xb,aR.of (s6 _ _ Lr),Nat.le_refl _⟩,?_⟩
 rw [BL.length,List.take_length] at hp
 refine⟨acc,_,rfl,.inl ⟨bX.of oW,λr K0=>?_⟩⟩
 have s7:=s6.trans (ah K0 (.tup ys))
 have h7:upd H6 r (.tup ys) r=some (.tup ys):=ae
 have S8:=Paired.fP hp λ_ _ z=>z.tk (TK.of (ah K0 (.tup ys)))
 generalize upd H6 r (.tup ys)=H7 at s7 h7 S8
 refine⟨(by show 4<=sizeLine;omega),λt ht=>?_⟩
 have s8:=ah ht (.tup [.ref b,.ref l,.ref f',.ref r])
 have t8:=TK.of s8
 have Jc:=TK.of (s7.trans s8)
 have V5:=ax.ext e5.gen (s7.trans s8)
 exact q t b l f' r nms ts i j _ (mn.trans (e5.trans V5)) ae ⟨⟨VN,Fm,OZ⟩,⟨mz,Pp,Pq⟩,⟨xb,Jc _ _ Lr,Paired.fP BL λ_ _ z=>z.tk Jc,SQ⟩,⟨xl,Jc _ _ V3,Paired.fP PK λ_ _ z=>z.tk Jc,VS⟩,⟨xf,Jc _ _ V2,Paired.fP i8 λ_ _ z=>z.tk Jc⟩,⟨ys,t8 _ _ h7,Paired.fP S8 λ_ _ z=>z.tk t8⟩⟩
end
end bo
namespace bo
open PySem L2
abbrev VR:=Hp->V->Prop
def SE(p:Addr):VR:=λH v=>∃n,Sm p H n v
def fD(k:Nat)(R:VR):VR:=λH v=>∃a xs,v=.ref a/\H a=some (.tup xs)/\xs.length<=k/\∀x∈xs,R H x
def pf(p:Addr)(m:Nat)(R:VR):VR:=λH v=>∃a xs,v=.ref a/\H a=some (.lst xs)/\a≠p/\xs.length=m/\∀x∈xs,R H x
def rp(lo hi:Int):VR:=λ_ v=>∃i,v=.int i/\lo<=i/\i<hi
def PL:VR:=λ_ v=>∃x:Str,v=.str x/\x.length<=9100
def fV(p:Addr)(R:VR):Prop:=∀(H H':Hp) (v:V),Gen p H->Ext p H H'->R H v->R H' v
section
variable {p:Addr}
theorem ay:fV p (SE p):=λ_ _ _ g e ⟨n,h⟩=>⟨n,h.ext g e⟩
theorem bS{k:Nat}{R:VR}(st:fV p R):fV p (fD k R):=λ_ _ _ g e ⟨a,xs,h1,h2,h3,h4⟩=>⟨a,xs,h1,e.tup g h2,h3,λx hx=>st _ _ _ g e (h4 x hx)⟩
theorem fW{m:Nat}{R:VR}(st:fV p R):fV p (pf p m R):=λ_ _ _ g e ⟨a,xs,h1,h2,h3,h4,h5⟩=>⟨a,xs,h1,e.but _ _ h3 h2,h3,h4,λx hx=>st _ _ _ g e (h5 x hx)⟩
theorem qa:fV p PL:=λ_ _ _ _ _ h=>h
theorem oF{H:Hp}:∀{xs:List V},(∀x∈xs,SE p H x)->∃n,∀x∈xs,Sm p H n x
 | [],_=>⟨0,λx h=>by simp at h⟩
 |x::r,h=>by
  obtain⟨n,hn⟩:=h x List.mem_cons_self
  obtain⟨m,hm⟩:=oF (xs:=r) λy hy=>h y (List.mem_cons_of_mem _ hy)
  refine⟨n+m,λy hy=>?_⟩
  rcases List.mem_cons.mp hy with rfl|hy
  ·exact hn.up (by omega)
  ·exact (hm y hy).up (by omega)
theorem ia{H:Hp}{k:Nat}{v:V}(hk:k<=4)(h:fD k (SE p) H v):SE p H v:=by
 obtain⟨a,xs,rfl,h1,h2,h3⟩:=h
 obtain⟨n,hn⟩:=oF h3
 exact⟨n+1,.inl ⟨xs,h1,by omega,hn⟩⟩
theorem Ls{H:Hp}{m:Nat}{v:V}(hk:m<=4)(h:pf p m (SE p) H v):SE p H v:=by
 obtain⟨a,xs,rfl,h1,h0,h2,h3⟩:=h
 obtain⟨n,hn⟩:=oF h3
 exact⟨n+1,.inr ⟨xs,h1,h0,by omega,hn⟩⟩
theorem wj{H:Hp}{i:Int}:SE p H (.int i):=⟨1,trivial⟩
theorem kn{H:Hp}{x:Str}(h:x.length<=9100):SE p H (.str x):=⟨1,h⟩
theorem j7{m:Nat}(h:m<=1000):m<=sizeLine:=by
 have l3:(100000:Nat)<sizeLine:=by rw [sizeLine_eq];decide
 omega
def Ev(p:Addr)(H0:Hp)(σ:St)(t:TE)(R:VR):Prop:=∀H,Ext p H0 H->∀Q:VK,(∀v H',Ext p H H'->R H' v->Q v H')->t σ H Q
def Ej(p:Addr)(H0:Hp)(σ:St)(t:TA)(m:Nat)(R:VR):Prop:=∀H,Ext p H0 H->∀Q:List V->Hp->Prop,(∀vs H',Ext p H H'->vs.length=m->(∀v∈vs,R H' v)->Q vs H')->t σ H Q
variable {H0:Hp} {σ:St} {R:VR}
theorem Ev.imp{t:TE}{R':VR}(h:Ev p H0 σ t R)(f:∀{H v},R H v->R' H v):Ev p H0 σ t R':=λH e Q q=>h H e Q λv H' e' r=>q v H' e' (f r)
theorem bA{i:Nat}{v:V}(g0:Gen p H0)(st:fV p R)(hr:R H0 v)(h:σ[i]?=some (some v)):Ev p H0 σ (bQ i) R:=λH e Q q=>⟨v,h,q v H (Ext.refl e.gen) (st _ _ _ g0 e hr)⟩
theorem Lu{v:V}(hr:∀H,R H v):Ev p H0 σ (tC v) R:=λH e Q q=>q v H (Ext.refl e.gen) (hr H)
theorem cx:Ej p H0 σ fE 0 R:=λH e Q q=>q [] H (Ext.refl e.gen) rfl (λv h=>by simp at h)
theorem aT{t:TE}{ts:TA}{m:Nat}(st:fV p R)(h1:Ev p H0 σ t R)(h2:Ej p H0 σ ts m R):Ej p H0 σ (bD t ts) (m+1) R:=λH e Q q=>h1 H e _ λv H1 e1 r1=>h2 H1 (e.trans e1) _ λvs H2 e2 hl r2=>q (v::vs) H2 (e1.trans e2) (by rw [List.length_cons,hl]) λx hx=>by
 rcases List.mem_cons.mp hx with rfl|hx
 ·exact st _ _ _ e1.gen e2 r1
 ·exact r2 x hx
theorem Ek{vs:List V}(hv:∀v∈vs,∀H,R H v):Ej p H0 σ (λ_ H Q=>Q vs H) vs.length R:=λH e Q q=>q vs H (Ext.refl e.gen) rfl λv h=>hv v h H
theorem dF{t:TA}{m:Nat}(st:fV p R)(h:Ej p H0 σ t m R)(hm:m<=1000:=by decide):Ev p H0 σ (ic t) (fD m R):=λH e Q q=>h H e _ λvs H1 e1 hl r=>⟨j7 (by omega),λa ha=>by
 have e2:=Ext.new e1.gen ha (.tup vs)
 exact q _ _ (e1.trans e2) ⟨a,vs,rfl,ae,by omega,λx hx=>st _ _ _ e1.gen e2 (r x hx)⟩⟩
theorem gg{t:TA}{m:Nat}(st:fV p R)(h:Ej p H0 σ t m R)(hm:m<=1000:=by decide):Ev p H0 σ (Jw t) (pf p m R):=λH e Q q=>h H e _ λvs H1 e1 hl r=>⟨j7 (by omega),λa ha=>by
 have e2:=Ext.new e1.gen ha (.lst vs)
 exact q _ _ (e1.trans e2) ⟨a,vs,rfl,ae,e1.gen.ne ha,hl,λx hx=>st _ _ _ e1.gen e2 (r x hx)⟩⟩
theorem cV{ta tb:TE}{k1 k2:Nat}(st:fV p R)(ha:Ev p H0 σ ta (fD k1 R))(hb:Ev p H0 σ tb (fD k2 R))(hm:k1+k2<=1000:=by decide):Ev p H0 σ (iG qx ta tb) (fD (k1+k2) R):=λH e Q q=>ha H e _ λv H1 e1 r1=>hb H1 (e.trans e1) _ λu H2 e2 r2=>by
 obtain⟨a,xs,rfl,h1,h2,h3⟩:=bS st _ _ _ e1.gen e2 r1
 obtain⟨b,ys,rfl,h4,h5,h6⟩:=r2
 have l3:(100000:Nat)<sizeLine:=by rw [sizeLine_eq];decide
 refine⟨a,b,xs,ys,rfl,rfl,h1,h4,by omega,λc H3 s3 h7=>?_⟩
 have e3:=ax.ext e2.gen s3
 refine q _ _ (e1.trans (e2.trans e3)) ⟨c,_,rfl,h7,by rw [List.length_append];omega,λx hx=>?_⟩
 rcases List.mem_append.mp hx with hx|hx
 ·exact st _ _ _ e2.gen e3 (h3 x hx)
 ·exact st _ _ _ e2.gen e3 (h6 x hx)
theorem jT{ta tb:TE}{k1 k2:Nat}(st:fV p R)(ha:Ev p H0 σ ta (pf p k1 R))(hb:Ev p H0 σ tb (pf p k2 R))(hm:k1+k2<=1000:=by decide):Ev p H0 σ (iG Gg ta tb) (pf p (k1+k2) R):=λH e Q q=>ha H e _ λv H1 e1 r1=>hb H1 (e.trans e1) _ λu H2 e2 r2=>by
 obtain⟨a,xs,rfl,h1,h0,h2,h3⟩:=fW st _ _ _ e1.gen e2 r1
 obtain⟨b,ys,rfl,h4,V6,h5,h6⟩:=r2
 have l3:(100000:Nat)<sizeLine:=by rw [sizeLine_eq];decide
 refine⟨a,b,xs,ys,rfl,rfl,h1,h4,by omega,λc hc=>?_⟩
 have e3:=Ext.new e2.gen hc (.lst (xs++ys))
 refine q _ _ (e1.trans (e2.trans e3)) ⟨c,_,rfl,ae,e2.gen.ne hc,by rw [List.length_append];omega,λx hx=>?_⟩
 rcases List.mem_append.mp hx with hx|hx
 ·exact st _ _ _ e2.gen e3 (h3 x hx)
 ·exact st _ _ _ e2.gen e3 (h6 x hx)
theorem gU{i:Nat}{k:Int}(h:σ[i]?=some (some (.ref p)))(hk:0<k:=by decide):Ev p H0 σ (nJ f7 (bD (bQ i) (bD (tC (V.int k)) fE))) (rp 0 k):=λH e Q q=>⟨.ref p,h,p,k,rfl,e.gen,hk,λr H' r0 r1 e'=>q _ _ e' ⟨r,rfl,r0,r1⟩⟩
theorem oG{K:PySem.W.Frag}{ta tb:TE}{m:Nat}{n:Int}(st:fV p R)(ha:Ev p H0 σ ta (pf p m R))(hb:Ev p H0 σ tb (rp 0 n))(hn:n=(m:Int):=by rfl):Ev p H0 σ (iG (yt K) ta tb) R:=λH e Q q=>ha H e _ λv H1 e1 r1=>hb H1 (e.trans e1) _ λu H2 e2 r2=>by
 subst hn
 obtain⟨a,xs,rfl,h1,h0,h2,h3⟩:=fW st _ _ _ e1.gen e2 r1
 obtain⟨i,rfl,i0,i1⟩:=r2
 obtain⟨x,hx,hm⟩:=lK (xs:=xs) i0 (by rw [h2];exact i1)
 exact⟨a,xs,i,x,rfl,rfl,bX.of h1,hx,q _ _ (e1.trans e2) (h3 x hm)⟩
theorem jG{te:TE}{k k':Nat}{tl th:TO}{lo hi:Option Int}(st:fV p R)(ha:Ev p H0 σ te (fD k R))(hl:∀H Q,Q lo H->tl σ H Q)(hh:∀H Q,Q hi H->th σ H Q)(hc:∀xs:List V,xs.length<=k->(fR xs lo hi).length<=k'):Ev p H0 σ (L9 wU te tl th) (fD k' R):=λH e Q q=>ha H e _ λv H1 e1 r1=>hl H1 _ (hh H1 _ (by
 obtain⟨a,xs,rfl,h1,h2,h3⟩:=r1
 refine⟨a,xs,rfl,h1,λc H2 s2 h4=>?_⟩
 have e2:=ax.ext e1.gen s2
 refine q _ _ (e1.trans e2) ⟨c,_,rfl,h4,hc xs h2,λx hx=>st _ _ _ e1.gen e2 (h3 x ?_)⟩
 unfold fR at hx
 exact List.mem_of_mem_drop (List.mem_of_mem_take hx)))
theorem gq{Q:Option Int->Hp->Prop}{H:Hp}(h:Q none H):mI σ H Q:=h
theorem rq{Q:Option Int->Hp->Prop}{H:Hp}{i:Int}(h:Q (some i) H):rV (tC (V.int i)) σ H Q:=⟨i,rfl,h⟩
theorem BM(xs:List V):(fR xs none (some 1)).length<=1:=by
 unfold fR
 have e:HT.eS xs.length xs.length (some 1)=min 1 xs.length:=HT.mH _ _ 1
 have e0:HT.eS xs.length 0 none=0:=rfl
 rw [e,e0,List.length_take]
 omega
theorem Lv(xs:List V):(fR xs (some (-1)) none).length<=1:=by
 unfold fR
 rw [HT.kG]
 have e:HT.eS xs.length 0 (some (-1))=((-1:Int)+(xs.length:Int)).toNat:=by
  unfold HT.eS
  dsimp only
  rw [if_pos (by decide)]
 rw [e,List.length_take,List.length_drop]
 omega
theorem fD.le{k k':Nat}{H:Hp}{v:V}(h:k<=k')(x:fD k R H v):fD k' R H v:=let ⟨a,xs,h1,h2,h3,h4⟩:=x;⟨a,xs,h1,h2,Nat.le_trans h3 h,h4⟩
structure Dat (p:Addr) (R:VR):Prop where
 st:fV p R
 tp:∀{H v},fD 4 R H v->R H v
 int:∀(H:Hp) (i:Int),R H (.int i)
 str:∀(H:Hp) (x:Str),x.length<=9100->R H (.str x)
theorem wk:Dat p (SE p):=⟨ay,ia (by decide),λ_ _=>wj,λ_ _ h=>kn h⟩
def Pt(H:Hp):Nat->V->Prop
 |0,_=>False
 |n+1,v=>match v with
  |.int _=>True
  |.str x=>x.length<=9100
  |.ref a=>∃xs,H a=some (.tup xs)/\xs.length<=4/\∀x∈xs,Pt H n x
  |_=>False
theorem Pt.tk{H H':Hp}(t:TK H H'):∀{n:Nat} {v:V},Pt H n v->Pt H' n v
 |0,_,h=>h
 |n+1,v,h=>by
  cases v with
  |ref a=>
   obtain⟨xs,h1,h2,h3⟩:=h
   exact⟨xs,t _ _ h1,h2,λx hx=>Pt.tk t (h3 x hx)⟩
  |_=>exact h
theorem Pt.sm{H:Hp}:∀{n:Nat} {v:V},Pt H n v->Sm p H n v
 |0,_,h=>h
 |n+1,v,h=>by
  cases v with
  |ref a=>
   obtain⟨xs,h1,h2,h3⟩:=h
   exact .inl ⟨xs,h1,h2,λx hx=>Pt.sm (h3 x hx)⟩
  |int i=>exact trivial
  |str x=>exact h
  |_=>exact h.elim
theorem Pt.succ{H:Hp}:∀{n:Nat} {v:V},Pt H n v->Pt H (n+1) v
 |0,_,h=>h.elim
 |n+1,v,h=>by
  cases v with
  |ref a=>
   obtain⟨xs,h1,h2,h3⟩:=h
   exact⟨xs,h1,h2,λx hx=>Pt.succ (h3 x hx)⟩
  |_=>exact h
theorem Pt.up{H:Hp}{n m:Nat}{v:V}(h:Pt H n v)(l:n<=m):Pt H m v:=by
 induction l with
 |refl=>exact h
 |step _ ih=>exact ih.succ
def PT:VR:=λH v=>∃n,Pt H n v
theorem PT.se{H:Hp}{v:V}(h:PT H v):SE p H v:=let ⟨n,h⟩:=h;⟨n,h.sm⟩
theorem PT.tk{H H':Hp}(t:TK H H'){v:V}(h:PT H v):PT H' v:=let ⟨n,h⟩:=h;⟨n,h.tk t⟩
theorem wm{H:Hp}:∀{xs:List V},(∀x∈xs,PT H x)->∃n,∀x∈xs,Pt H n x
 | [],_=>⟨0,λx h=>by simp at h⟩
 |x::r,h=>by
  obtain⟨n,hn⟩:=h x List.mem_cons_self
  obtain⟨m,hm⟩:=wm (xs:=r) λy hy=>h y (List.mem_cons_of_mem _ hy)
  refine⟨n+m,λy hy=>?_⟩
  rcases List.mem_cons.mp hy with rfl|hy
  ·exact hn.up (by omega)
  ·exact (hm y hy).up (by omega)
theorem bC:Dat p PT:=⟨λ_ _ _ g e h=>h.tk (Ext.tk g e),λ{H v} h=>by
  obtain⟨a,xs,rfl,h1,h2,h3⟩:=h
  obtain⟨n,hn⟩:=wm h3
  exact⟨n+1,xs,h1,h2,hn⟩,λ_ _=>⟨1,trivial⟩,λ_ _ h=>⟨1,h⟩⟩
theorem iZ(d:Dat p R)(i:Int):Ev p H0 σ (ic λ_ H Q=>Q [V.str "number",V.int i] H) R:=by
 have h:Ej p H0 σ (λ_ H Q=>Q [V.str "number",V.int i] H) 2 R:=Ek (vs:= [V.str "number",V.int i]) λv hv H=>by
  rcases List.mem_cons.mp hv with rfl|hv
  ·exact d.str _ _ (by decide +kernel)
  ·rw [List.mem_singleton] at hv;subst hv;exact d.int _ _
 exact (dF d.st h).imp λz=>d.tp (z.le (by decide))
theorem ko(d:Dat p R)(x:Str)(h:x.length<=9100:=by decide +kernel):Ev p H0 σ (tC (V.str x)) R:=Lu λH=>d.str _ _ h
theorem mC(d:Dat p R):Ev p H0 σ (ic fE) R:=(dF d.st cx).imp λz=>d.tp (z.le (by decide))
theorem BN(d:Dat p R){t:TE}(h:Ev p H0 σ t R):Ev p H0 σ (ic (bD t fE)) R:=(dF d.st (aT d.st h cx)).imp λz=>d.tp (z.le (by decide))
theorem zw(d:Dat p R){t u:TE}(h:Ev p H0 σ t R)(h2:Ev p H0 σ u R):Ev p H0 σ (ic (bD t (bD u fE))) R:=(dF d.st (aT d.st h (aT d.st h2 cx))).imp λz=>d.tp (z.le (by decide))
theorem El(d:Dat p R){t u v:TE}(h:Ev p H0 σ t R)(h2:Ev p H0 σ u R)(h3:Ev p H0 σ v R):Ev p H0 σ (ic (bD t (bD u (bD v fE)))) R:=(dF d.st (aT d.st h (aT d.st h2 (aT d.st h3 cx)))).imp λz=>d.tp (z.le (by decide))
theorem kq(d:Dat p R){t u v w:TE}(h:Ev p H0 σ t R)(h2:Ev p H0 σ u R)(h3:Ev p H0 σ v R)(h4:Ev p H0 σ w R):Ev p H0 σ (ic (bD t (bD u (bD v (bD w fE))))) R:=(dF d.st (aT d.st h (aT d.st h2 (aT d.st h3 (aT d.st h4 cx))))).imp λz=>d.tp z
theorem BO(d:Dat p R){H:Hp}{v:V}(h:PL H v):R H v:=by
 obtain⟨x,rfl,hx⟩:=h
 exact d.str _ _ hx
theorem dW{t:TE}{i:Nat}{rest:TS}{D:Ends}{H:Hp}(h:Ev p H0 σ t R)(e:Ext p H0 H)(k:∀v H',Ext p H H'->R H' v->rest D (σ.set i (some v)) H'):fX (uo t (fK i)) rest D σ H:=h H e _ k
theorem rz{t:TE}{i:Nat}{D:Ends}{H:Hp}(h:Ev p H0 σ t R)(e:Ext p H0 H)(k:∀v H',Ext p H H'->R H' v->D.nx (σ.set i (some v)) H'):uo t (fK i) D σ H:=h H e _ k
end
seal L2.PE L2.PS L2.gi L2.PT L2.PW L2.PA L2.PG L2.ja L2.PI L2.PO L2.eD L2.PC L2.eJ L2.bI L2.gj L2.jb L2.eU L2.je
section
variable {P:Program} {w:World} {K:PySem.W.Frag} {mg:Str->Option Value} {base:Heap}
theorem ly:aO ["_law_row","_law_count_here","_law_box","_law_state_here","_law_k","_law_some"] ["_law_row","_law_count_here","_law_box","_law_state_here"] (ao (top 77)):=⟨rfl,rfl,rfl,by decide +kernel,rfl,by decide +kernel,by decide +kernel⟩
def wo:Sp:=λvs H Q _=>∃(r b:V) (k:Int) (p:Addr),vs = [r,.int k,b,.ref p]/\Gen p H/\0<=k/\k<=100/\PT H r/\PT H b/\∀v H',Ext p H H'->PT H' v->Q v H'
theorem HH(T:Txt w K mg)(bE:Def P w K mg base 1 "_law_next" ["_law_state_here","_law_size"] f7)(S:Src K mg "_law_deep" (top 77) ["_law_row","_law_count_here","_law_box","_law_state_here"]):Def P w K mg base 2 "_law_deep" ["_law_row","_law_count_here","_law_box","_law_state_here"] wo:=by
 refine S.ok ly (λvs H Q E h=>?_) (λf0 cD A outer s H vs Q E hr h=>?_)
 ·obtain⟨r,b,k,p,rfl,_⟩:=h;rfl
 obtain⟨r,b,k,p,rfl,g,k0,k1,KI,zt,q⟩:=h
 refine⟨_,(ai (dO PassesOwn.never rfl (iq rfl T.kR (aq (pv 1) aa)) (aM (i:=4) ly.nd rfl (Or.inl rfl))
   (ai (aS (i:=5) ly.nd rfl (Or.inl rfl) (bN (aq (aA (aq aD (aq (aA (bq [.str "number",.int 0] (by rfl))) (aq (aA (aq (pv 0) aa)) aa)))) (aq (aA (aq aD (aq (aA (bq [.str "number",.int 1] (by rfl))) (aq (aA (aq (pv 0) aa)) (aq (aA aa) aa))))) aa))))
   (ai (aS (i:=5) ly.nd rfl (Or.inl rfl) (aU dE (pv 5) (bN (aq (aA (aq aD (aq (aA (bq [.str "number",.int 1] (by rfl))) (aq (aA aa) (aq (aA (aq (pv 0) aa)) aa))))) (aq (aA (aq aD (aq (aA (aq (pv 0) aa)) (aq (pv 2) (aq (aA aa) aa))))) (aq (aA (aq aD (aq (aA aa) (aq (pv 2) (aq (aA (aq (pv 0) aa)) aa))))) aa))))))
   (aj (aS (i:=0) ly.nd rfl (Or.inl rfl) (aJ cU (pv 5) (aw (bE.mono (by decide)) hr rfl (aq (pv 3) (aq ag aa))) (λ_ _=>rfl)))))))
   (aj (aC (pv 0)))),?_⟩
 try dsimp only [gQ]
 refine⟨_,rfl,k,rfl,by omega,by omega,?_⟩
 refine ir (n:=k.toNat) (λi σ H'=>∃(v:V) (x4 x5:Option V),σ = [some v,some (.int k),some b,some (.ref p),x4,x5]/\Ext p H H'/\PT H' v) ⟨r,_,_,rfl,Ext.refl g,KI⟩ ?_ ?_
 ·rintro i σ H1 hi ⟨v,x4,x5,rfl,e1,hv⟩
  have va:=bC.st _ _ _ g e1 zt
  have row:∀{x4 x5:Option V},Ev p H1 [some v,some (.int k),some b,some (.ref p),x4,x5] (bQ 0) PT:=bA e1.gen bC.st hv rfl
  have box:∀{x4 x5:Option V},Ev p H1 [some v,some (.int k),some b,some (.ref p),x4,x5] (bQ 2) PT:=bA e1.gen bC.st va rfl
  show fX _ _ _ [some v,some (.int k),some b,some (.ref p),some (.int (0+i)),x5] H1
  refine dW (gg bC.st (aT bC.st (El bC (ko bC "while") (iZ bC 0) (BN bC row)) (aT bC.st (kq bC (ko bC "if") (iZ bC 1) (BN bC row) (mC bC)) cx))) (Ext.refl e1.gen) λv1 H2 e2 r2=>?_
  show fX _ _ _ [some v,some (.int k),some b,some (.ref p),some (.int (0+i)),some v1] H2
  have L1:Ev p H2 [some v,some (.int k),some b,some (.ref p),some (.int (0+i)),some v1] (bQ 5) (pf p 2 PT):=bA e2.gen (fW bC.st) r2 rfl
  have HI:∀{x4 x5:Option V},Ev p H2 [some v,some (.int k),some b,some (.ref p),x4,x5] (bQ 0) PT:=bA e2.gen bC.st (bC.st _ _ _ e1.gen e2 hv) rfl
  have Lw:∀{x4 x5:Option V},Ev p H2 [some v,some (.int k),some b,some (.ref p),x4,x5] (bQ 2) PT:=bA e2.gen bC.st (bC.st _ _ _ e1.gen e2 va) rfl
  refine dW (jT bC.st L1 (gg bC.st (aT bC.st (kq bC (ko bC "if") (iZ bC 1) (mC bC) (BN bC HI)) (aT bC.st (kq bC (ko bC "try") (BN bC HI) Lw (mC bC)) (aT bC.st (kq bC (ko bC "try") (mC bC) Lw (BN bC HI)) cx))))) (Ext.refl e2.gen) λv2 H3 e3 r3=>?_
  show uo _ _ _ [some v,some (.int k),some b,some (.ref p),some (.int (0+i)),some v2] H3
  have L2:Ev p H3 [some v,some (.int k),some b,some (.ref p),some (.int (0+i)),some v2] (bQ 5) (pf p 5 PT):=bA e3.gen (fW bC.st) r3 rfl
  refine rz (oG (K:=K) bC.st L2 (gU (k:=5) rfl)) (Ext.refl e3.gen) λv3 H4 e4 r4=>?_
  exact⟨v3,_,_,rfl,e1.trans (e2.trans (e3.trans e4)),r4⟩
 ·rintro σ H1 ⟨v,x4,x5,rfl,e1,hv⟩
  exact⟨_,rfl,q v H1 e1 hv⟩
end
end bo
namespace bo
open PySem L2
seal L2.PE L2.PS L2.gi L2.PT L2.PW L2.PA L2.PG L2.ja L2.PI L2.PO L2.eD L2.PC L2.eJ L2.bI L2.gj L2.jb L2.eU L2.je
theorem BP{H:Hp}:∀{xs:List V} {ws:List Str},Paired (HD H) xs ws->xs.map (cg H)=ws.map V.str
 |_,_,.nil=>rfl
 |_,_,.cons h t=>by
  obtain⟨c,k,rfl,hc,_⟩:=h
  rw [List.map_cons,List.map_cons,BP t]
  congr 1
  unfold cg;rw [ak hc]
theorem i4{x:Str}(h:fc x=true):x.length<=6:=by
 unfold fc at h
 rw [Bool.and_eq_true] at h
 have:=of_decide_eq_true h.1
 omega
section
variable {p:Addr} {H0:Hp} {σ:St} {R:VR}
theorem BQ{a k:Int}{tn:TE}(h:Ev p H0 σ tn (rp 0 k)):Ev p H0 σ (iG (Cy λi j=>V.int (i+j)) (tC (V.int a)) tn) (rp a (a+k)):=λH e Q q=>h H e _ λv H' e' r=>by
 obtain⟨i,rfl,i0,i1⟩:=r
 exact⟨a,i,rfl,rfl,q _ _ e' ⟨a+i,rfl,by omega,by omega⟩⟩
theorem xV{i:Nat}{t1 tc t3:TE}{lo hi:Int}(g0:Gen p H0)(h1:Ev p H0 σ t1 PT)(hc:Ev p H0 σ tc (rp lo hi))(h3:Ev p H0 σ t3 PT)(hp:σ[i]?=some (some (.ref p)))(T8:0<=lo:=by decide)(XH:hi<=101:=by decide):Ev p H0 σ (nJ wo (bD t1 (bD tc (bD t3 (bD (bQ i) fE))))) PT:=λH e Q q=>
 h1 H e _ λv1 H1 e1 r1=>hc H1 (e.trans e1) _ λv2 H2 e2 r2=>h3 H2 (e.trans (e1.trans e2)) _ λv3 H3 e3 r3=>by
  obtain⟨k,rfl,k0,k1⟩:=r2
  exact⟨.ref p,hp,v1,v3,k,p,rfl,e3.gen,by omega,by omega,bC.st _ _ _ e1.gen (e2.trans e3) r1,r3,λv H4 e4 r4=>q v H4 (e1.trans (e2.trans (e3.trans e4))) r4⟩
theorem HJ{K:PySem.W.Frag}{ta:TE}{m:Nat}(st:fV p R)(ha:Ev p H0 σ ta (pf p m R))(hm:0<m:=by decide):Ev p H0 σ (iG (yt K) ta (tC (V.int 0))) R:=λH e Q q=>ha H e _ λv H1 e1 r1=>by
 obtain⟨a,xs,rfl,h1,h0,h2,h3⟩:=r1
 cases xs with
 |nil=>simp at h2;omega
 |cons x r=>exact⟨a,_,0,x,rfl,rfl,bX.of h1,au (j:=0) rfl,q _ _ e1 (h3 x List.mem_cons_self)⟩
theorem BR{K:PySem.W.Frag}{i j m:Nat}{v:V}(g0:Gen p H0)(st:fV p R)(hv:pf p m R H0 v)(hm:0<m)(hi:σ[i]?=some (some v))(hp:σ[j]?=some (some (.ref p))):Ev p H0 σ (iG (yt K) (bQ i) (nJ f7 (bD (bQ j) (bD (CD (λxs H Q=>∃p ys,xs = [V.ref p]/\(bX K H p ys\/aR K H p ys)/\Q (V.int ys.length) H) (bD (bQ i) fE)) fE)))) R:=λH e Q q=>by
 obtain⟨a,xs,rfl,h1,h0,h2,h3⟩:=fW st _ _ _ g0 e hv
 refine⟨_,hi,_,hp,_,hi,a,xs,rfl,.inl (bX.of h1),p,_,rfl,e.gen,by omega,λr H' r0 r1 e'=>?_⟩
 obtain⟨x,hx,hm⟩:=lK (xs:=xs) r0 r1
 exact⟨a,xs,r,x,rfl,rfl,bX.of (e'.but _ _ h0 h1),hx,q _ _ e' (st _ _ _ e.gen e' (h3 x hm))⟩
theorem Em{K:PySem.W.Frag}{ta:TE}{m:Nat}(st:fV p R)(ha:Ev p H0 σ ta (pf p m R))(hm:0<m):Ev p H0 σ (iG (yt K) ta (Np (rU λi=>V.int (-i)) (tC (V.int 1)))) R:=λH e Q q=>ha H e _ λv H1 e1 r1=>by
 obtain⟨a,xs,rfl,h1,h0,h2,h3⟩:=r1
 rcases List.eq_nil_or_concat xs with rfl|⟨ys,y,ex⟩
 ·simp at h2;omega
 rw [List.concat_eq_append] at ex
 subst ex
 exact⟨1,rfl,a,_,-1,y,rfl,rfl,bX.of h1,rW ys y,q _ _ e1 (h3 y (by simp))⟩
theorem BS{ta tb:TE}{i k1 k2:Nat}{rest:TS}{D:Ends}{H:Hp}(st:fV p R)(ha:Ev p H0 σ ta (pf p k1 R))(hb:Ev p H0 σ tb (pf p k2 R))(e:Ext p H0 H)
  (k:∀a xs H',Ext p H H'->H a=none->H' a=some (.lst xs)->a≠p->xs.length=k1+k2->(∀x∈xs,R H' x)->rest D (σ.set i (some (.ref a))) H') (hm:k1+k2<=1000:=by decide):fX (uo (iG Gg ta tb) (fK i)) rest D σ H:=ha H e _ λv H1 e1 r1=>hb H1 (e.trans e1) _ λu H2 e2 r2=>by
 obtain⟨a,xs,rfl,h1,h0,h2,h3⟩:=fW st _ _ _ e1.gen e2 r1
 obtain⟨b,ys,rfl,h4,V6,h5,h6⟩:=r2
 have l3:(100000:Nat)<sizeLine:=by rw [sizeLine_eq];decide
 refine⟨a,b,xs,ys,rfl,rfl,h1,h4,by omega,λc hc=>?_⟩
 have e3:=Ext.new e2.gen hc (.lst (xs++ys))
 refine k c _ _ (e1.trans (e2.trans e3)) ((e1.trans e2).free hc) ae (e2.gen.ne hc) (by rw [List.length_append];omega) λx hx=>?_
 rcases List.mem_append.mp hx with hx|hx
 ·exact st _ _ _ e2.gen e3 (h3 x hx)
 ·exact st _ _ _ e2.gen e3 (h6 x hx)
end
section
variable {P:Program} {w:World} {K:PySem.W.Frag} {mg:Str->Option Value} {base:Heap}
theorem gh:aO ["_law_parts","_law_state_here","_law_value","_law_k","_law_box","_law_owns","_law_one","_law_plain","_law_door","_law_some"] ["_law_parts","_law_state_here"] (ao (top 78)):=⟨rfl,rfl,rfl,by decide +kernel,rfl,by decide +kernel,by decide +kernel⟩
def Ft:Sp:=λvs H Q _=>∃(t p b l f r:Addr) (nms ts:List Str) (i j:Nat),vs = [.ref t,.ref p]/\Gen p H/\H t=some (.tup [.ref b,.ref l,.ref f,.ref r])/\rm H b l f r nms ts i j/\∀v H',Ext p H H'->PT H' v->Q v H'
theorem Lx(T:Txt w K mg)(bE:Def P w K mg base 1 "_law_next" ["_law_state_here","_law_size"] f7)(BU:Def P w K mg base 2 "_law_deep" ["_law_row","_law_count_here","_law_box","_law_state_here"] wo)
  (S:Src K mg "_law_bad_row" (top 78) ["_law_parts","_law_state_here"]):Def P w K mg base 3 "_law_bad_row" ["_law_parts","_law_state_here"] Ft:=by
 refine S.ok gh (λvs H Q E h=>?_) (λf0 cD A outer s H vs Q E hr h=>?_)
 ·obtain⟨t,p,b,l,f,r,nms,ts,i,j,rfl,_⟩:=h;rfl
 obtain⟨t,p,b,l,f,r,nms,ts,i,j,rfl,g,ht,hP,q⟩:=h
 refine⟨_,(ai (aS (i:=2) gh.nd rfl (Or.inl rfl) (aA (bq [.str "number",.int 1] (by rfl))))
   (ai (dO PassesOwn.never rfl (iq rfl T.kR (aq (aU eW ag (aw (bE.mono (by decide)) hr rfl (aq (pv 1) (aq ag aa)))) aa)) (aM (i:=3) gh.nd rfl (Or.inl rfl))
   (aj (aS (i:=2) gh.nd rfl (Or.inl rfl) (aA (aq aD (aq (pv 2) aa))))))
   (ai (aS (i:=4) gh.nd rfl (Or.inl rfl) (aJ cU (aU dE (cq (N':= ["_law_one"]) (bg (ao (top 78)) (by rfl) (by decide +kernel) (by decide +kernel) (by decide +kernel) (by decide +kernel) (by decide +kernel) (by decide +kernel)) rfl (gP 1 [] (by rfl) (by rfl) (by decide +kernel)) (cG (aJ aG (pv 0) ag (λ_ _=>rfl))) (λ_ _ _=>aM (i:=0) (show (["_law_one"]:List Str).Nodup by decide +kernel) rfl (Or.inl rfl) (Or.inr rfl)) (λ_ _ _=>cB) (λ_ _ _=>(aJ (show gj _ (eu K) from aG) (pv 0) ag (λ_ _=>rfl)))) (bN (bq [.str "zz"] (by rfl)))) ag (λ_ _=>rfl)))
   (ai (aS (i:=5) gh.nd rfl (Or.inl rfl) (bN (bq [.str "zz"] (by rfl))))
   (ai (dO PassesOwn.never rfl (cG (aJ aG (pv 0) ag (λ_ _=>rfl))) (aM (i:=6) gh.nd rfl (Or.inl rfl))
   (aj (aS (i:=5) gh.nd rfl (Or.inl rfl) (aU dE (aU dE (pv 5) (eM cJ rfl T.g8 fT (aq (aJ aG (pv 6) ag (λ_ _=>rfl)) aa))) (eM cJ rfl T.g8 fT (aq (aJ aG (pv 6) ag (λ_ _=>rfl)) aa))))))
   (ai (aS (i:=7) gh.nd rfl (Or.inl rfl) (aA (aq aD (aq (aA (bq [.str "number",.int 1] (by rfl))) aa))))
   (ai (aS (i:=8) gh.nd rfl (Or.inl rfl) (aJ cU (bN (bq [.str "Aa",.str "a1",.str "",.str "abcdefg",.int 7,.str "door"] (by rfl))) (aw (bE.mono (by decide)) hr rfl (aq (pv 1) (aq ag aa))) (λ_ _=>rfl)))
   (ai (aS (i:=9) gh.nd rfl (Or.inl rfl) (bN (aq (aA (aq aD (aq (aA (bq [.str "number",.int 1] (by rfl))) aa))) (aq (aA (aq aD (aq (pv 2) aa))) (aq (aw (BU) hr rfl (aq (pv 7) (aq (aU eW ag (aw (bE.mono (by decide)) hr rfl (aq (pv 1) (aq ag aa)))) (aq (pv 4) (aq (pv 1) aa))))) aa)))))
   (ai (aS (i:=9) gh.nd rfl (Or.inl rfl) (aU dE (pv 9) (bN (aq (aw (BU) hr rfl (aq (aJ cU (pv 9) ag (λ_ _=>rfl)) (aq (aU eW ag (aw (bE.mono (by decide)) hr rfl (aq (pv 1) (aq ag aa)))) (aq (pv 4) (aq (pv 1) aa))))) (aq (aA (aq aD (aq (pv 4) (aq aD (aq (aA aa) aa))))) (aq (aA (aq aD (aq (pv 4) (aq (pv 8) aa)))) aa))))))
   (ai (aS (i:=9) gh.nd rfl (Or.inl rfl) (aU dE (pv 9) (bN (aq (aA (aq aD (aq (aJ cU (pv 5) (aw (bE.mono (by decide)) hr rfl (aq (pv 1) (aq (aW aN rfl T.cH bO (aq (pv 5) aa)) aa))) (λ_ _=>rfl)) (aq (aA (bq [.str "number",.int 1] (by rfl))) aa)))) (aq (aA (bq [.str "end"] (by rfl))) aa)))))
   (ai (eI (j3 PySem.F.plainAttrs_list PySem.F.slot_list_append PySem.F.type_list_append fM (pv 9) (aq (aA (aq aD (aq (aJ cU (pv 5) (pk lF ag) (λ_ _=>rfl)) (aq (aA (bq [.str "number",.int 1] (by rfl))) aa)))) aa)))
   (aj (aC (aJ cU (pv 9) (aw (bE.mono (by decide)) hr rfl (aq (pv 1) (aq ag aa))) (λ_ _=>rfl))))))))))))))),?_⟩
 try dsimp only [gQ]
 have l3:(100000:Nat)<sizeLine:=by rw [sizeLine_eq];decide
 have dp:Dat p PT:=bC
 show fX _ _ _ [some (.ref t),some (.ref p),none,none,none,none,none,none,none,none] H
 refine dW (iZ dp 1) (Ext.refl g) λv1 H1 e1 r1=>?_
 show fX _ _ _ [some (.ref t),some (.ref p),some v1,none,none,none,none,none,none,none] H1
 refine⟨_,rfl,p,3,rfl,e1.gen,by decide,λk1 H2 SS VU e2=>⟨_,_,rfl,rfl,2+k1,rfl,by omega,by omega,?_⟩⟩
 have lu:=e1.trans e2
 refine ir (n:=(2+k1).toNat) (λi σ H'=>∃(v:V) (x3:Option V),σ = [some (.ref t),some (.ref p),some v,x3,none,none,none,none,none,none]/\Ext p H H'/\PT H' v) ⟨v1,_,rfl,lu,dp.st _ _ _ e1.gen e2 r1⟩ ?_ ?_
 ·rintro i2 σ H3 hi ⟨v,x3,rfl,e3,hv⟩
  show uo _ _ _ [some (.ref t),some (.ref p),some v,some (.int (0+i2)),none,none,none,none,none,none] H3
  refine rz (zw dp (ko dp "not") (bA e3.gen dp.st hv rfl)) (Ext.refl e3.gen) λv2 H4 e4 r4=>?_
  exact⟨v2,_,rfl,e3.trans e4,r4⟩
 rintro σ H3 ⟨v,x3,rfl,e3,hv⟩
 have HK:=hP.tk (Ext.tk g e3)
 have Jd:=e3.tup g ht
 obtain⟨xb,Hw,zt,SQ⟩:=HK.bx
 have fx:xb.map (cg H3)=(nms.take i).map V.str:=BP zt
 have rb:∀x∈xb,∃b y ys,x=.ref b/\H3 b=some (.tup (y::ys)):=λx hx=>by
  obtain⟨k,hk⟩:=List.getElem?_of_mem hx
  obtain⟨y,hy⟩:∃y,(nms.take i)[k]?=some y:=⟨_,List.getElem?_eq_getElem (by rw [<-zt.length];exact (List.getElem?_eq_some_iff.mp hk).1)⟩
  obtain⟨c,n,rfl,hc,_⟩:=gY zt hk hy
  exact⟨c,_,_,rfl,hc⟩
 have V4:xb.length<=3:=by rw [zt.length,List.length_take];omega
 refine⟨_,rfl,t,_,0,_,rfl,rfl,aR.of Jd,au (j:=0) rfl,b,rfl,⟨xb,aR.of Hw⟩,fj (te:=iG (eu K) (bQ 0) (tC (V.int 0))) (cs:= []) (cg H3) Hw (by omega) rfl (λx H4 k4 hx s4 hk=>hW (rb x hx) s4 hk) (λu1 H4 md s4 h4=>?_)⟩
 rw [fx] at h4
 refine⟨(by show 1<=sizeLine;omega),λu2 kN=>?_⟩
 have s5:=ah kN (.lst [.str "zz"])
 refine⟨u1,u2,_,_,rfl,rfl,s5 _ _ h4,ae,by rw [List.length_map,List.length_take];show _+1<=_;omega,λu3 oO=>?_⟩
 have e4:=ax.ext e3.gen (s4.trans (s5.trans (ah oO (.lst ((nms.take i).map V.str ++ [.str "zz"])))))
 obtain⟨bx,PM,PN⟩:∃bx:Str,((nms.take i).map V.str ++ [V.str "zz"])[0]?=some (.str bx)/\bx.length<=9100:=by
  cases IE:nms.take i with
  |nil=>exact⟨"zz",rfl,by decide +kernel⟩
  |cons x r=>exact⟨x,rfl,by have:=i4 (hP.nm.2.1 x (List.mem_of_mem_take (by rw [IE];exact List.mem_cons_self)));omega⟩
 refine⟨u3,_,0,_,rfl,rfl,bX.of ae,au (j:=0) PM,?_⟩
 have xW:=e3.trans e4
 have S9:=dp.st _ _ _ e3.gen e4 hv
 generalize upd (upd H4 u2 (.lst [.str "zz"])) u3 (.lst ((nms.take i).map V.str ++ [.str "zz"]))=H5 at e4 xW S9 ⊢
 show fX _ _ _ [some (.ref t),some (.ref p),some v,x3,some (.str bx),none,none,none,none,none] H5
 have Ta:∀H,PT H (.str bx):=λH=>⟨1,PN⟩
 refine⟨(by show 1<=sizeLine;omega),λo1 Kc=>?_⟩
 have e6:=Ext.new xW.gen Kc (.lst [.str "zz"])
 have h6:upd H5 o1 (.lst [.str "zz"]) o1=some (.lst ((["zz"]:List Str).map V.str)):=ae
 have V7:o1≠p:=xW.gen.ne Kc
 have HL:=xW.trans e6
 have Tb:=dp.st _ _ _ e4.gen e6 S9
 generalize upd H5 o1 (.lst [.str "zz"])=H6 at e6 h6 HL Tb
 show fX _ _ _ [some (.ref t),some (.ref p),some v,x3,some (.str bx),some (.ref o1),none,none,none,none] H6
 have Fu:=hP.tk (Ext.tk g HL)
 have Cn:=HL.tup g ht
 obtain⟨xf,MX,i8⟩:=Fu.fx
 have V0:xf.length<=2:=by rw [i8.length];exact hP.tm.1
 refine⟨_,rfl,t,_,2,_,rfl,rfl,aR.of Cn,au (j:=2) rfl,f,rfl,⟨xf,aR.of MX⟩,fz (xs:=xf) (λi σ H'=>∃(o:Addr) (ns:List Str) (x6:Option V),σ = [some (.ref t),some (.ref p),some v,x3,some (.str bx),some (.ref o),x6,none,none,none]/\ax H6 H'/\H' o=some (.lst (ns.map V.str))/\o≠p/\ns ≠ []/\ns.length<=1+4*i/\∀x∈ns,x.length<=9100)
  ⟨o1,["zz"],_,rfl,ax.refl H6,h6,V7,by decide,by decide,λx hx=>by simp at hx;subst hx;decide +kernel⟩ ?_ ?_ ?_⟩
 ·rintro i2 σ H' _ ⟨_,_,_,rfl,s7,_⟩
  exact aR.of (s7 _ _ MX)
 ·rintro i2 x σ H7 gm ⟨o,ns,x6,rfl,s7,ho,op,j5,SO,PQ⟩
  obtain⟨y,hy⟩:∃y,ts[i2]?=some y:=⟨_,List.getElem?_eq_getElem (by rw [<-i8.length];exact (List.getElem?_eq_some_iff.mp gm).1)⟩
  obtain⟨c,pa,oa,ra,j1,k1,ss,vv,rfl,hc,jS,hj,kj,hk,gp,_,_⟩:=gY i8 gm hy
  have XI:i2<2:=by have:=(List.getElem?_eq_some_iff.mp gm).1;omega
  have XJ:((nms.drop 5).take j1).length<=2:=by rw [List.length_take];omega
  have XM:((nms.drop 7).take k1).length<=2:=by rw [List.length_take];omega
  refine⟨_,rfl,_,rfl,c,_,1,_,rfl,rfl,aR.of (s7 _ _ hc),au (j:=1) rfl,pa,_,rfl,.inr (aR.of (s7 _ _ jS)),λa1 oP=>?_⟩
  have s8:=ah oP (.lst (((nms.drop 5).take j1).map V.str))
  refine⟨o,a1,_,_,rfl,rfl,s8 _ _ ho,ae,by simp only [List.length_map];omega,λa2 uh=>?_⟩
  have s9:=ah uh (.lst (ns.map V.str++((nms.drop 5).take j1).map V.str))
  have M6:=s7.trans (s8.trans s9)
  refine⟨_,rfl,c,_,2,_,rfl,rfl,aR.of (M6 _ _ hc),au (j:=2) rfl,oa,_,rfl,.inr (aR.of (M6 _ _ kj)),λa3 AM=>?_⟩
  have lR:=ah AM (.lst (((nms.drop 7).take k1).map V.str))
  refine⟨a2,a3,_,_,rfl,rfl,lR _ _ ae,ae,by simp only [List.length_map,List.length_append];omega,λa4 JZ=>?_⟩
  have tU:=ah JZ (.lst ((ns.map V.str++((nms.drop 5).take j1).map V.str)++((nms.drop 7).take k1).map V.str))
  have PR:=M6.trans (lR.trans tU)
  refine⟨a4,ns++(nms.drop 5).take j1++(nms.drop 7).take k1,_,rfl,PR,by rw [ae];simp only [List.map_append],(ax.ext HL.gen (M6.trans lR)).gen.ne JZ,by simp [j5],by simp only [List.length_append];omega,λx hx=>?_⟩
  rcases List.mem_append.mp hx with hx|hx
  ·rcases List.mem_append.mp hx with hx|hx
   ·exact PQ x hx
   ·have:=i4 (hP.nm.2.1 x (List.mem_of_mem_drop (List.mem_of_mem_take hx)));omega
  ·have:=i4 (hP.nm.2.1 x (List.mem_of_mem_drop (List.mem_of_mem_take hx)));omega
 rintro σ H7 ⟨o,ns,x6,rfl,s7,ho,op,j5,SO,PQ⟩
 have e7:=ax.ext HL.gen s7
 have V8:=HL.trans e7
 have V9:=dp.st _ _ _ HL.gen e7 Tb
 have hO:pf p ns.length PL H7 (.ref o):=⟨o,_,rfl,ho,op,by rw [List.length_map],λx hx=>by
  obtain⟨y,hy,rfl⟩:=List.mem_map.mp hx
  exact⟨y,rfl,PQ y hy⟩⟩
 have Tc:0<ns.length:=List.length_pos_iff.mpr j5
 show fX _ _ _ [some (.ref t),some (.ref p),some v,x3,some (.str bx),some (.ref o),x6,none,none,none] H7
 refine dW (zw dp (ko dp "tell") (iZ dp 1)) (Ext.refl e7.gen) λpl H8 e8 r8=>?_
 show fX _ _ _ [some (.ref t),some (.ref p),some v,x3,some (.str bx),some (.ref o),x6,some pl,none,none] H8
 have Td:=V8.trans e8
 refine dW (oG (K:=K) (m:=6) dp.st (gg dp.st (show Ej p H8 _ _ 6 PT from Ek (vs:= [.str "Aa",.str "a1",.str "",.str "abcdefg",.int 7,.str "door"]) λv hv H=>?_)) (gU (k:=6) rfl)) (Ext.refl Td.gen) λdr H9 e9 r9=>?_
 ·simp only [List.mem_cons,List.not_mem_nil,or_false] at hv
  rcases hv with rfl|rfl|rfl|rfl|rfl|rfl
  ·exact dp.str _ _ (by decide +kernel)
  ·exact dp.str _ _ (by decide +kernel)
  ·exact dp.str _ _ (by decide +kernel)
  ·exact dp.str _ _ (by decide +kernel)
  ·exact dp.int _ _
  ·exact dp.str _ _ (by decide +kernel)
 have Te:=e8.trans e9
 have Je:=Td.trans e9
 have Wa:=dp.st _ _ _ e7.gen Te V9
 have Wb:=dp.st _ _ _ e8.gen e9 r8
 have Wc:=fW qa _ _ _ e7.gen Te hO
 show fX _ _ _ [some (.ref t),some (.ref p),some v,x3,some (.str bx),some (.ref o),x6,some pl,some dr,none] H9
 refine dW (gg dp.st (aT dp.st (zw dp (ko dp "return") (iZ dp 1)) (aT dp.st (zw dp (ko dp "tell") (bA Je.gen dp.st Wa rfl)) (aT dp.st (xV Je.gen (bA Je.gen dp.st Wb rfl) (BQ (a:=3) (gU (k:=3) rfl)) (bA Je.gen dp.st (Ta _) rfl) rfl) cx)))) (Ext.refl Je.gen) λso pb e10 Wd=>?_
 show fX _ _ _ [some (.ref t),some (.ref p),some v,x3,some (.str bx),some (.ref o),x6,some pl,some dr,some so] pb
 have zx:=Je.trans e10
 have We:=dp.st _ _ _ e9.gen e10 r9
 have Ly:Ev p pb [some (.ref t),some (.ref p),some v,x3,some (.str bx),some (.ref o),x6,some pl,some dr,some so] (bQ 9) (pf p 3 PT):=bA zx.gen (fW dp.st) Wd rfl
 have HM:Ev p pb [some (.ref t),some (.ref p),some v,x3,some (.str bx),some (.ref o),x6,some pl,some dr,some so] (bQ 4) PT:=bA zx.gen dp.st (Ta _) rfl
 refine dW (jT dp.st Ly (gg dp.st (aT dp.st (xV zx.gen (HJ (K:=K) dp.st Ly) (BQ (a:=1) (gU (k:=3) rfl)) HM rfl) (aT dp.st (kq dp (ko dp "call") HM (ko dp "zz") (mC dp)) (aT dp.st (El dp (ko dp "ask") HM (bA zx.gen dp.st We rfl)) cx))))) (Ext.refl zx.gen) λPU xM e11 Wf=>?_
 show fX _ _ _ [some (.ref t),some (.ref p),some v,x3,some (.str bx),some (.ref o),x6,some pl,some dr,some PU] xM
 have BV:=zx.trans e11
 have Lz:=fW qa _ _ _ e9.gen (e10.trans e11) Wc
 have PV:Ev p xM [some (.ref t),some (.ref p),some v,x3,some (.str bx),some (.ref o),x6,some pl,some dr,some PU] (bQ 9) (pf p 6 PT):=bA BV.gen (fW dp.st) Wf rfl
 have PX:Ev p xM [some (.ref t),some (.ref p),some v,x3,some (.str bx),some (.ref o),x6,some pl,some dr,some PU] (ic λ_ H Q=>Q [V.str "end"] H) PT:=(dF dp.st (show Ej p xM _ _ 1 PT from Ek (vs:= [V.str "end"]) λv hv H=>by rw [List.mem_singleton] at hv;subst hv;exact dp.str _ _ (by decide +kernel))).imp λz=>dp.tp (z.le (by decide))
 refine BS dp.st PV (gg dp.st (aT dp.st (El dp (ko dp "set") ((BR (K:=K) BV.gen qa Lz Tc rfl rfl).imp (BO dp)) (iZ dp 1)) (aT dp.st PX cx))) (Ext.refl BV.gen) λsa xs Px Ef jX LA PY HE Wg=>?_
 show fX _ _ _ [some (.ref t),some (.ref p),some v,x3,some (.str bx),some (.ref o),x6,some pl,some dr,some (.ref sa)] Px
 have HN:=BV.trans Ef
 have PZ:H sa=none:=BV.free jX
 have P0:=fW qa _ _ _ e11.gen Ef Lz
 refine⟨_,rfl,.inl ⟨rfl,_,bX.of LA⟩,?_⟩
 refine (El dp (ko dp "set") ((Em (K:=K) qa (bA HN.gen (fW qa) P0 rfl) Tc).imp (BO dp)) (iZ dp 1)) Px (Ext.refl HN.gen) _ λnv zN zv Wh=>?_
 have Fv:=zv.but _ _ PY LA
 refine⟨sa,xs,nv,rfl,rfl,Fv,by omega,?_⟩
 have Tf:TK zN (upd zN sa (.lst (xs ++ [nv]))):=λc ys h=>by rw [aK (λz=>by rw [z,Fv] at h;cases h)];exact h
 have Fn:Ext p H (upd zN sa (.lst (xs ++ [nv]))):=Ext.put PZ PY (HN.trans zv)
 have MY:upd zN sa (.lst (xs ++ [nv])) sa=some (.lst (xs ++ [nv])):=ae
 have Tg:pf p 9 PT (upd zN sa (.lst (xs ++ [nv]))) (.ref sa):=⟨sa,_,rfl,MY,PY,by rw [List.length_append,HE];rfl,λx hx=>by
  rcases List.mem_append.mp hx with hx|hx
  ·exact (dp.st _ _ _ Ef.gen zv (Wg x hx)).tk Tf
  ·rw [List.mem_singleton] at hx;subst hx;exact Wh.tk Tf⟩
 generalize upd zN sa (.lst (xs ++ [nv]))=MZ at Fn Tg ⊢
 refine (oG (K:=K) (σ:= [some (.ref t),some (.ref p),some v,x3,some (.str bx),some (.ref o),x6,some pl,some dr,some (.ref sa)]) dp.st (bA (i:=9) Fn.gen (fW dp.st) Tg rfl) (gU (i:=1) (k:=9) rfl)) MZ (Ext.refl Fn.gen) _ λv D8 M3 Wi=>?_
 exact q v D8 (Fn.trans M3) Wi
end
def M7(p:Addr):VR:=λH v=>∃a x y,v=.ref a/\H a=some (.tup [x,y])/\SE p H x/\SE p H y
section
variable {p:Addr} {H0:Hp} {σ:St} {R:VR}
theorem iF:fV p (M7 p):=λ_ _ _ g e ⟨a,x,y,h1,h2,h3,h4⟩=>⟨a,x,y,h1,e.tup g h2,ay _ _ _ g e h3,ay _ _ _ g e h4⟩
theorem qb{t u:TE}(h1:Ev p H0 σ t (SE p))(h2:Ev p H0 σ u (SE p)):Ev p H0 σ (ic (bD t (bD u fE))) (M7 p):=λH e Q q=>h1 H e _ λv1 H1 e1 r1=>h2 H1 (e.trans e1) _ λv2 H2 e2 r2=>⟨j7 (by show 2<=1000;decide),λa ha=>by
 have e3:=Ext.new e2.gen ha (.tup [v1,v2])
 exact q _ _ (e1.trans (e2.trans e3)) ⟨a,v1,v2,rfl,ae,ay _ _ _ e1.gen (e2.trans e3) r1,ay _ _ _ e2.gen e3 r2⟩⟩
theorem fQ{k:Nat}{t:TE}(h:Ev p H0 σ t (fD k (SE p)))(hk:k<=4:=by decide):Ev p H0 σ t (SE p):=h.imp (ia hk)
theorem En{ta:TE}{k:Nat}(st:fV p R)(ha:Ev p H0 σ ta (fD k R))(hk:k<=10:=by decide):Ev p H0 σ (iG qF ta (tC (V.int 2))) (fD (2*k) R):=λH e Q q=>ha H e _ λv H1 e1 r1=>by
 obtain⟨a,xs,rfl,h1,h2,h3⟩:=r1
 refine⟨a,2,xs,rfl,rfl,h1,by omega,by decide,by decide,λc H2 s2 h4=>?_⟩
 have e2:=ax.ext e1.gen s2
 have ex:(List.replicate (2:Int).toNat xs).flatten=xs++xs:=by
  show xs++(xs ++ [])=_
  rw [List.append_nil]
 rw [ex] at h4
 refine q _ _ (e1.trans e2) ⟨c,_,rfl,h4,by rw [List.length_append];omega,λx hx=>?_⟩
 rcases List.mem_append.mp hx with hx|hx<;>exact st _ _ _ e1.gen e2 (h3 x hx)
theorem Fw{k:Nat}{vs:List V}(st:fV p R)(hv:∀v∈vs,∀H,R H v)(hk:vs.length=k)(h:k<=1000:=by decide):Ev p H0 σ (ic λ_ H Q=>Q vs H) (fD k R):=by
 subst hk
 exact dF st (Ek hv) h
theorem BW{K:PySem.W.Frag}{t:TE}{k:Nat}(ha:Ev p H0 σ t (fD k (SE p)))(hk:k<=4:=by decide):Ev p H0 σ (CD (λxs H Q=>∃p ys,xs = [V.ref p]/\(bX K H p ys\/aR K H p ys)/\∀l,H l=none->Q (V.ref l) (upd H l (.lst ys))) (bD t fE)) (SE p):=λH e Q q=>ha H e _ λv H1 e1 r1=>by
 obtain⟨a,xs,rfl,h1,h2,h3⟩:=r1
 refine⟨a,xs,rfl,.inr (aR.of h1),λl hl=>?_⟩
 have e2:=Ext.new e1.gen hl (.lst xs)
 exact q _ _ (e1.trans e2) (Ls (m:=xs.length) (by omega) ⟨l,xs,rfl,ae,e1.gen.ne hl,rfl,λx hx=>ay _ _ _ e1.gen e2 (h3 x hx)⟩)
theorem BX{K:PySem.W.Frag}{ta tb:TE}{k:Nat}(st:fV p R)(ha:Ev p H0 σ ta (fD k R))(hb:Ev p H0 σ tb R)(hk:k<=100:=by decide):Ev p H0 σ (iG (eu K) (iG qx ta (ic (bD tb fE))) (tC (V.int 0))) R:=λH e Q q=>ha H e _ λv H1 e1 r1=>hb H1 (e.trans e1) _ λu H2 e2 r2=>⟨j7 (by show 1<=1000;decide),λc hc=>by
 have e3:=Ext.new e2.gen hc (.tup [u])
 obtain⟨a,xs,rfl,h1,h2,h3⟩:=bS st _ _ _ e1.gen (e2.trans e3) r1
 have Wj:=st _ _ _ e2.gen e3 r2
 have l3:(100000:Nat)<sizeLine:=by rw [sizeLine_eq];decide
 refine⟨a,c,xs,[u],rfl,rfl,h1,ae,by rw [List.length_singleton];omega,λd H4 s4 h4=>?_⟩
 have e4:=ax.ext e3.gen s4
 have xW:=e1.trans (e2.trans (e3.trans e4))
 cases xs with
 |nil=>exact⟨d,_,0,u,rfl,rfl,aR.of h4,au (j:=0) rfl,q _ _ xW (st _ _ _ e3.gen e4 Wj)⟩
 |cons x r=>exact⟨d,_,0,x,rfl,rfl,aR.of h4,au (j:=0) rfl,q _ _ xW (st _ _ _ e3.gen e4 (h3 x List.mem_cons_self))⟩⟩
theorem BY{Q:Option Int->Hp->Prop}{H:Hp}(h:Q (some (-1)) H):rV (Np (rU λi=>V.int (-i)) (tC (V.int 1))) σ H Q:=⟨1,rfl,-1,rfl,h⟩
end
section
variable {P:Program} {w:World} {K:PySem.W.Frag} {mg:Str->Option Value} {base:Heap}
theorem gW:aO ["_law_one","_law_names_here","_law_bad","_law_state_here","_law_name","_law_params","_law_owns","_law_inner","_law_more_here"] ["_law_one","_law_names_here","_law_bad","_law_state_here"] (ao (top 79)):=⟨rfl,rfl,rfl,by decide +kernel,rfl,by decide +kernel,by decide +kernel⟩
def BZ:Sp:=λvs H Q _=>∃(c p:Addr) (nh bad:V) (y pa oa ra:V),vs = [.ref c,nh,bad,.ref p]/\Gen p H/\H c=some (.tup [y,pa,oa,ra])/\SE p H y/\fD 2 (SE p) H pa/\fD 2 (SE p) H oa/\fD 3 (SE p) H ra/\fD 5 (SE p) H nh/\SE p H bad/\∀v H',Ext p H H'->SE p H' v->Q v H'
theorem HP(T:Txt w K mg)(bE:Def P w K mg base 1 "_law_next" ["_law_state_here","_law_size"] f7)(S:Src K mg "_law_other_function" (top 79) ["_law_one","_law_names_here","_law_bad","_law_state_here"]) :
  Def P w K mg base 2 "_law_other_function" ["_law_one","_law_names_here","_law_bad","_law_state_here"] BZ:=by
 refine S.ok gW (λvs H Q E h=>?_) (λf0 cD A outer s H vs Q E hr h=>?_)
 ·obtain⟨c,p,nh,bad,y,pa,oa,ra,rfl,_⟩:=h;rfl
 obtain⟨c,p,nh,bad,y,pa,oa,ra,rfl,g,hc,hy,jS,kj,gp,LB,HQ,q⟩:=h
 refine⟨_,(ai (nC (pv 0) (iJ rfl (bF (aM (i:=4) gW.nd rfl (Or.inl rfl)) (bF (aM (i:=5) gW.nd rfl (Or.inl rfl)) (bF (aM (i:=6) gW.nd rfl (Or.inl rfl)) (bF (aM (i:=7) gW.nd rfl (Or.inl rfl)) gK))))))
   (ai (aS (i:=8) gW.nd rfl (Or.inl rfl) (bN (aq (aA (aq (pv 4) (aq (pv 5) (aq (aU bK (pv 6) (bJ dg (pv 5) cp (bV ag))) (aq (pv 7) aa))))) (aq (aA (aq (pv 4) (aq (aU bK (pv 5) (bJ dg (pv 5) cp (bV ag))) (aq (pv 6) (aq (aA aa) aa))))) aa))))
   (ai (aS (i:=8) gW.nd rfl (Or.inl rfl) (aU dE (pv 8) (bN (aq (aA (aq (pv 4) (aq (pv 5) (aq (aU og (pv 6) ag) (aq (aA aa) aa))))) (aq (aA (aq (pv 4) (aq (aU bK (pv 5) (aA (bq [.str "own"] (by rfl)))) (aq (pv 6) (aq (pv 7) aa))))) aa)))))
   (ai (aS (i:=8) gW.nd rfl (Or.inl rfl) (aU dE (pv 8) (bN (aq (aA (aq (pv 4) (aq (pv 5) (aq (pv 6) (aq (eM cJ rfl T.g8 fT (aq (pv 7) aa)) aa))))) (aq (aA (aq (pv 4) (aq (pv 5) (aq (bJ dg (pv 1) (bV (pk lF ag)) cp) (aq (aA aa) aa))))) (aq (aA (aq (pv 4) (aq (bJ dg (pv 1) cp (bV ag)) (aq (aA aa) (aq (aA aa) aa))))) aa))))))
   (ai (aS (i:=8) gW.nd rfl (Or.inl rfl) (aU dE (pv 8) (bN (aq (aA (aq (aJ aG (aU bK (pv 1) (aA (aq (pv 4) aa))) ag (λ_ _=>rfl)) (aq (pv 5) (aq (pv 6) (aq (aA aa) aa))))) (aq (aA (aq (pv 4) (aq (pv 5) (aq (pv 6) (aq (aU bK (pv 7) (aA (aq (pv 2) aa))) aa))))) aa)))))
   (aj (aC (aJ cU (pv 8) (aw (bE.mono (by decide)) hr rfl (aq (pv 3) (aq ag aa))) (λ_ _=>rfl))))))))),?_⟩
 try dsimp only [gQ]
 have de:Dat p (SE p):=wk
 refine⟨_,rfl,c,_,rfl,aR.of hc,rfl,y,_,rfl,pa,_,rfl,oa,_,rfl,ra,_,rfl,rfl,?_⟩
 let σ:Option V->St:=λm=> [some (.ref c),some nh,some bad,some (.ref p),some y,some pa,some oa,some ra,m]
 show fX _ _ _ (σ none) H
 have nm:∀{H1:Hp} {m:Option V},Ext p H H1->Ev p H1 (σ m) (bQ 4) (SE p):=λe=>bA e.gen ay (ay _ _ _ g e hy) rfl
 have ps:∀{H1:Hp} {m:Option V},Ext p H H1->Ev p H1 (σ m) (bQ 5) (fD 2 (SE p)):=λe=>bA e.gen (bS ay) (bS ay _ _ _ g e jS) rfl
 have os:∀{H1:Hp} {m:Option V},Ext p H H1->Ev p H1 (σ m) (bQ 6) (fD 2 (SE p)):=λe=>bA e.gen (bS ay) (bS ay _ _ _ g e kj) rfl
 have IY:∀{H1:Hp} {m:Option V},Ext p H H1->Ev p H1 (σ m) (bQ 7) (fD 3 (SE p)):=λe=>bA e.gen (bS ay) (bS ay _ _ _ g e gp) rfl
 have P1:∀{H1:Hp} {m:Option V},Ext p H H1->Ev p H1 (σ m) (bQ 1) (fD 5 (SE p)):=λe=>bA e.gen (bS ay) (bS ay _ _ _ g e LB) rfl
 have bd:∀{H1:Hp} {m:Option V},Ext p H H1->Ev p H1 (σ m) (bQ 2) (SE p):=λe=>bA e.gen ay (ay _ _ _ g e HQ) rfl
 have p1:∀{H1:Hp} {m:Option V},Ext p H H1->Ev p H1 (σ m) (L9 wU (bQ 5) mI (rV (tC (V.int 1)))) (fD 1 (SE p)):=λe=>jG ay (ps e) (λ_ _ h=>gq h) (λ_ _ h=>rq h) λxs _=>BM xs
 have e0:=Ext.refl g
 refine dW (gg ay (aT ay (kq de (nm e0) (fQ (ps e0)) (fQ (cV ay (os e0) (p1 e0))) (fQ (IY e0))) (aT ay (kq de (nm e0) (fQ (cV ay (ps e0) (p1 e0))) (fQ (os e0)) (mC de)) cx))) e0 λm1 H1 e1 r1=>?_
 show fX _ _ _ (σ (some m1)) H1
 have own:∀{H1:Hp} {m:Option V},Ev p H1 (σ m) (ic λ_ H Q=>Q [V.str "own"] H) (fD 1 (SE p)):=Fw (k:=1) ay (λv hv H=>by rw [List.mem_singleton] at hv;subst hv;exact de.str _ _ (by decide +kernel)) rfl
 refine dW (jT ay (bA e1.gen (fW ay) r1 rfl) (gg ay (aT ay (kq de (nm e1) (fQ (ps e1)) (fQ (En ay (os e1))) (mC de)) (aT ay (kq de (nm e1) (fQ (cV ay (ps e1) own)) (fQ (os e1)) (fQ (IY e1))) cx)))) (Ext.refl e1.gen) λm2 H2 e2 r2=>?_
 show fX _ _ _ (σ (some m2)) H2
 have lu:=e1.trans e2
 refine dW (jT ay (bA lu.gen (fW ay) r2 rfl) (gg ay (aT ay (kq de (nm lu) (fQ (ps lu)) (fQ (os lu)) (BW (K:=K) (IY lu))) (aT ay (kq de (nm lu) (fQ (ps lu)) (fQ (jG (k':=1) ay (P1 lu) (λ_ _ h=>BY h) (λ_ _ h=>gq h) λxs _=>Lv xs)) (mC de)) (aT ay (kq de (nm lu) (fQ (jG (k':=1) ay (P1 lu) (λ_ _ h=>gq h) (λ_ _ h=>rq h) λxs _=>BM xs)) (mC de) (mC de)) cx))))) (Ext.refl lu.gen) λm3 H3 e3 r3=>?_
 show fX _ _ _ (σ (some m3)) H3
 have mn:=lu.trans e3
 refine dW (jT ay (bA mn.gen (fW ay) r3 rfl) (gg ay (aT ay (kq de (BX (K:=K) ay (P1 mn) (nm mn)) (fQ (ps mn)) (fQ (os mn)) (mC de)) (aT ay (kq de (nm mn) (fQ (ps mn)) (fQ (os mn)) (fQ (cV ay (IY mn) (dF ay (aT ay (bd mn) cx))))) cx)))) (Ext.refl mn.gen) λm4 H4 e4 r4=>?_
 have xW:=mn.trans e4
 refine (oG (K:=K) (σ:=σ (some m4)) ay (bA (i:=8) xW.gen (fW ay) r4 rfl) (gU (i:=3) (k:=9) rfl)) H4 (Ext.refl xW.gen) _ λv H5 e5 r5=>?_
 exact q v H5 (xW.trans e5) r5
end
def HR(p:Addr):VR:=λH x=>SE p H x/\∃c y z,x=.ref c/\H c=some (.tup [.str y,z])/\y.length<=9100
def P2(p:Addr):VR:=λH x=>SE p H x/\∃c y pa oa ra,x=.ref c/\H c=some (.tup [y,pa,oa,ra])/\SE p H y/\fD 2 (SE p) H pa/\fD 2 (SE p) H oa/\fD 3 (SE p) H ra
def P4(p:Addr):VR:=λH v=>∃a b l f r,v=.ref a/\H a=some (.tup [b,l,f,r])/\SE p H b/\SE p H l/\SE p H f/\SE p H r
section
variable {p:Addr} {H0:Hp} {σ:St} {R:VR}
theorem qc:fV p (HR p):=λ_ _ _ g e ⟨h,c,y,z,h1,h2,h3⟩=>⟨ay _ _ _ g e h,c,y,z,h1,e.tup g h2,h3⟩
theorem B0:fV p (P2 p):=λ_ _ _ g e ⟨h,c,y,pa,oa,ra,h1,h2,h3,h4,h5,h6⟩=>⟨ay _ _ _ g e h,c,y,pa,oa,ra,h1,e.tup g h2,ay _ _ _ g e h3,bS ay _ _ _ g e h4,bS ay _ _ _ g e h5,bS ay _ _ _ g e h6⟩
theorem fD.imp{k:Nat}{R R':VR}{H:Hp}{v:V}(f:∀x,R H x->R' H x)(h:fD k R H v):fD k R' H v:=let ⟨a,xs,h1,h2,h3,h4⟩:=h;⟨a,xs,h1,h2,h3,λx hx=>f x (h4 x hx)⟩
theorem oH{t u v w:TE}(h1:Ev p H0 σ t (SE p))(h2:Ev p H0 σ u (SE p))(h3:Ev p H0 σ v (SE p))(h4:Ev p H0 σ w (SE p)):Ev p H0 σ (ic (bD t (bD u (bD v (bD w fE))))) (P4 p):=λH e Q q=>
 h1 H e _ λv1 H1 e1 r1=>h2 H1 (e.trans e1) _ λv2 H2 e2 r2=>h3 H2 (e.trans (e1.trans e2)) _ λv3 H3 e3 r3=>h4 H3 (e.trans (e1.trans (e2.trans e3))) _ λv4 H4 e4 r4=>⟨j7 (by show 4<=1000;decide),λa ha=>by
  have e5:=Ext.new e4.gen ha (.tup [v1,v2,v3,v4])
  exact q _ _ (e1.trans (e2.trans (e3.trans (e4.trans e5)))) ⟨a,v1,v2,v3,v4,rfl,ae,ay _ _ _ e1.gen (e2.trans (e3.trans (e4.trans e5))) r1,ay _ _ _ e2.gen (e3.trans (e4.trans e5)) r2,ay _ _ _ e3.gen (e4.trans e5) r3,ay _ _ _ e4.gen e5 r4⟩⟩
theorem Fx{K:PySem.W.Frag}{i:Nat}{a c:Addr}{r:List V}{y:Str}{z:V}(g0:Gen p H0)(hv:σ[i]?=some (some (.ref a)))(ha:H0 a=some (.tup (.ref c::r)))(hc:H0 c=some (.tup [.str y,z]))(hy:y.length<=9100):Ev p H0 σ (iG (eu K) (iG (eu K) (bQ i) (tC (V.int 0))) (tC (V.int 0))) (SE p):=λH e Q q=>
 ⟨_,hv,a,_,0,_,rfl,rfl,aR.of (e.tup g0 ha),au (j:=0) rfl,c,_,0,_,rfl,rfl,aR.of (e.tup g0 hc),au (j:=0) rfl,q _ _ (Ext.refl e.gen) (kn hy)⟩
theorem B1{ta:TE}{m:Nat}(st:fV p R)(ha:Ev p H0 σ ta (pf p m R))(hm:m<=100:=by decide):Ev p H0 σ (iG JB ta (tC (V.int 2))) (pf p (2*m) R):=λH e Q q=>ha H e _ λv H1 e1 r1=>by
 obtain⟨a,xs,rfl,h1,h0,h2,h3⟩:=r1
 have l3:(100000:Nat)<sizeLine:=by rw [sizeLine_eq];decide
 refine⟨a,2,xs,rfl,rfl,h1,by decide,by decide,by show xs.length*2<=sizeLine;omega,λc hc=>?_⟩
 have ex:(List.replicate (2:Int).toNat xs).flatten=xs++xs:=by
  show xs++(xs ++ [])=_
  rw [List.append_nil]
 rw [ex]
 have e2:=Ext.new e1.gen hc (.lst (xs++xs))
 refine q _ _ (e1.trans e2) ⟨c,_,rfl,ae,e1.gen.ne hc,by rw [List.length_append];omega,λx hx=>?_⟩
 rcases List.mem_append.mp hx with hx|hx<;>exact st _ _ _ e1.gen e2 (h3 x hx)
theorem mZ{xs:List V}{k:Nat}{lo hi:Option Int}(h:xs.length<=k):(fR xs lo hi).length<=k:=Nat.le_trans (jk xs lo hi) h
end
section
variable {P:Program} {w:World} {K:PySem.W.Frag} {mg:Str->Option Value} {base:Heap}
theorem rA:aO ["_law_boxes","_law_lists","_law_state_here","_law_some"] ["_law_boxes","_law_lists","_law_state_here"] (ao (top 80)):=⟨rfl,rfl,rfl,by decide +kernel,rfl,by decide +kernel,by decide +kernel⟩
def B2:Sp:=λvs H Q _=>∃(b l:V) (p:Addr),vs = [b,l,.ref p]/\Gen p H/\fD 3 (HR p) H b/\fD 2 (HR p) H l/\∀v H',Ext p H H'->M7 p H' v->Q v H'
theorem HS(T:Txt w K mg)(bE:Def P w K mg base 1 "_law_next" ["_law_state_here","_law_size"] f7)(S:Src K mg "_law_other_stores" (top 80) ["_law_boxes","_law_lists","_law_state_here"]) :
  Def P w K mg base 2 "_law_other_stores" ["_law_boxes","_law_lists","_law_state_here"] B2:=by
 refine S.ok rA (λvs H Q E h=>?_) (λf0 cD A outer s H vs Q E hr h=>?_)
 ·obtain⟨b,l,p,rfl,_⟩:=h;rfl
 obtain⟨b,l,p,rfl,g,hb,hl,q⟩:=h
 refine⟨_,(ai (aS (i:=3) rA.nd rfl (Or.inl rfl) (bN (aq (aA (aq (aU bK (pv 0) (bJ dg (pv 0) cp (bV ag))) (aq (pv 1) aa))) (aq (aA (aq (pv 0) (aq (aU bK (pv 1) (bJ dg (pv 1) cp (bV ag))) aa))) (aq (aA (aq (aU bK (pv 0) (aA (aq (aA (bq [.str "if",.int 1] (by rfl))) aa))) (aq (pv 1) aa))) (aq (aA (aq (bJ dg (pv 0) (bV ag) cp) (aq (pv 1) aa))) aa))))))
   (ai (aX (cN (PW.pt (nA (aQ (w6 hr.iL) (pv 0) (aA aa) (aP _)) (kz (aQ (w6 hr.iL) (pv 1) (aA aa) (aP _))))))
   (aj (aS (i:=3) rA.nd rfl (Or.inl rfl) (aU dE (pv 3) (aU Gh (bN (aq (aA (aq (aU bK (pv 0) (aA (aq (aA (aq (aJ aG (aJ aG (pv 1) ag (λ_ _=>rfl)) ag (λ_ _=>rfl)) (aq ag aa))) aa))) (aq (pv 1) aa))) (aq (aA (aq (pv 0) (aq (aU bK (pv 1) (aA (aq (aA (aq (aJ aG (aJ aG (pv 0) ag (λ_ _=>rfl)) ag (λ_ _=>rfl)) (aq (aA aa) aa))) aa))) aa))) aa))) ag)))) aI)
   (aj (aC (aJ cU (pv 3) (aw (bE.mono (by decide)) hr rfl (aq (pv 2) (aq (aW aN rfl T.cH bO (aq (pv 3) aa)) aa))) (λ_ _=>rfl)))))),?_⟩
 try dsimp only [gQ]
 have de:Dat p (SE p):=wk
 let σ:Option V->St:=λm=> [some b,some l,some (.ref p),m]
 show fX _ _ _ (σ none) H
 have Wk:fD 3 (SE p) H b:=hb.imp λ_ z=>z.1
 have Ke:fD 2 (SE p) H l:=hl.imp λ_ z=>z.1
 have bv:∀{H1:Hp} {m:Option V},Ext p H H1->Ev p H1 (σ m) (bQ 0) (fD 3 (SE p)):=λe=>bA e.gen (bS ay) (bS ay _ _ _ g e Wk) rfl
 have lv:∀{H1:Hp} {m:Option V},Ext p H H1->Ev p H1 (σ m) (bQ 1) (fD 2 (SE p)):=λe=>bA e.gen (bS ay) (bS ay _ _ _ g e Ke) rfl
 have e0:=Ext.refl g
 have if1:∀{H1:Hp} {m:Option V},Ev p H1 (σ m) (ic λ_ H Q=>Q [V.str "if",V.int 1] H) (SE p):=(Fw (k:=2) ay (λv hv H=>by
  rcases List.mem_cons.mp hv with rfl|hv
  ·exact de.str _ _ (by decide +kernel)
  ·rw [List.mem_singleton] at hv;subst hv;exact wj) rfl).imp (ia (by decide))
 refine dW (gg iF (aT iF (qb (fQ (cV ay (bv e0) (jG (k':=1) ay (bv e0) (λ_ _ h=>gq h) (λ_ _ h=>rq h) λxs _=>BM xs))) (fQ (lv e0))) (aT iF (qb (fQ (bv e0)) (fQ (cV ay (lv e0) (jG (k':=1) ay (lv e0) (λ_ _ h=>gq h) (λ_ _ h=>rq h) λxs _=>BM xs))))
  (aT iF (qb (fQ (cV ay (bv e0) (dF ay (aT ay if1 cx)))) (fQ (lv e0))) (aT iF (qb (fQ (jG (k':=3) ay (bv e0) (λ_ _ h=>rq h) (λ_ _ h=>gq h) λxs h=>mZ h)) (fQ (lv e0))) cx))))) e0 λm1 H1 e1 r1=>?_
 have fin:∀{m:Nat} {v:V} {H':Hp},Ext p H H'->pf p m (M7 p) H' v->0<m->FR (iG (yt K) (bQ 3) (nJ f7 (bD (bQ 2) (bD (CD (λxs H Q=>∃p ys,xs = [V.ref p]/\(bX K H p ys\/aR K H p ys)/\Q (V.int ys.length) H) (bD (bQ 3) fE)) fE)))) {nx:=λ_ H'=>Q .eh H',rt:=Q} (σ (some v)) H':=λe r hm=>(BR (K:=K) e.gen iF r hm rfl rfl) _ (Ext.refl e.gen) _ λv H2 e2 r2=>q v H2 (e.trans e2) r2
 show fX _ _ _ (σ (some m1)) H1
 obtain⟨ab,xb,rfl,va,Wl,vb⟩:=bS qc _ _ _ g e1 hb
 obtain⟨al,xl,rfl,oM,Wm,ET⟩:=bS qc _ _ _ g e1 hl
 refine⟨λt H'=>Ext p H1 H'/\(t=true->xb ≠ []/\xl ≠ []),?_,?_⟩
 ·refine⟨_,rfl,j7 (by show 0<=1000;decide),λz1 P5=>?_⟩
  have e2:=Ext.new e1.gen P5 (.tup [])
  refine⟨ab,z1,xb,rfl,rfl,aR.of (e2.tup e1.gen va),aR.of ae,_,rfl,bZ (λc=>?_) (λc=>⟨e2,λz=>by cases z⟩)⟩
  refine⟨_,rfl,j7 (by show 0<=1000;decide),λz2 Wn=>?_⟩
  have e3:=Ext.new e2.gen Wn (.tup [])
  have zv:=e2.trans e3
  refine⟨al,z2,xl,rfl,rfl,aR.of (zv.tup e1.gen oM),aR.of ae,_,rfl,zv,λz=>⟨λn=>?_,λn=>?_⟩⟩
  ·rw [n] at c;cases c
  ·rw [n] at z;cases z
 rintro t H2 ⟨e2,j5⟩
 have lu:=e1.trans e2
 have r2:=fW iF _ _ _ e1.gen e2 r1
 refine bZ (λc=>?_) (λc=>fin lu r2 (by decide))
 obtain⟨nb,nl⟩:=j5 c
 cases xb with
 |nil=>exact absurd rfl nb
 |cons XN xb=>
 cases xl with
 |nil=>exact absurd rfl nl
 |cons XO xl=>
 obtain⟨_,cb,yb,zb,rfl,Wo,MF⟩:=vb _ List.mem_cons_self
 obtain⟨_,cl,yl,zl,rfl,zG,Kp⟩:=ET _ List.mem_cons_self
 have A8:=Ext.tk e1.gen e2
 have P6:∀{H1:Hp} {m:Option V},Ev p H1 (σ m) (tC (V.int 1)) (SE p):=Lu λH=>wj
 refine rz (σ:=σ (some m1)) (jT iF (bA (i:=3) lu.gen (fW iF) r2 rfl) (B1 iF (gg iF (aT iF (qb (fQ (cV ay (bv lu) (dF ay (aT ay (zw de (Fx (K:=K) lu.gen rfl (A8 _ _ oM) (A8 _ _ zG) Kp) P6) cx)))) (fQ (lv lu)))
  (aT iF (qb (fQ (bv lu)) (fQ (cV ay (lv lu) (dF ay (aT ay (zw de (Fx (K:=K) lu.gen rfl (A8 _ _ va) (A8 _ _ Wo) MF) (mC de)) cx))))) cx))))) (Ext.refl lu.gen) λm3 H3 e3 r3=>?_
 exact fin (lu.trans e3) r3 (by decide)
end
section
variable {p:Addr} {H:Hp}
theorem jH{a:Addr}{xs:List V}(h:H a=some (.tup xs))(hl:xs.length<=4)(hx:∀x∈xs,PT H x):PT H (.ref a):=let ⟨n,hn⟩:=wm hx;⟨n+1,xs,h,hl,hn⟩
theorem i5{x:Str}(h:x.length<=9100):PT H (.str x):=⟨1,h⟩
theorem wq{i:Int}:PT H (.int i):=⟨1,trivial⟩
theorem cn{α β:Type}{R:α->β->Prop}{xs:List α}{ys:List β}(h:Paired R xs ys){x:α}(hx:x∈xs):∃y,y∈ys/\R x y:=by
 obtain⟨k,hk⟩:=List.getElem?_of_mem hx
 obtain⟨y,hy⟩:∃y,ys[k]?=some y:=⟨_,List.getElem?_eq_getElem (by rw [<-h.length];exact (List.getElem?_eq_some_iff.mp hk).1)⟩
 exact⟨y,List.mem_of_getElem? hy,gY h hk hy⟩
theorem B3{d:Addr}{i:Int}(h:H d=some (.tup [.str "number",.int i])):PT H (.ref d):=jH h (by show 2<=4;decide) λx hx=>by
 simp only [List.mem_cons,List.not_mem_nil,or_false] at hx
 rcases hx with rfl|rfl
 ·exact i5 (by decide +kernel)
 ·exact wq
variable {b l f r:Addr} {nms ts:List Str} {i j:Nat}
theorem rm.Fy(h:rm H b l f r nms ts i j):fD 3 (HR p) H (.ref b):=by
 obtain⟨xb,h1,h2,h3⟩:=h.bx
 refine⟨b,xb,rfl,h1,by rw [h2.length,List.length_take];omega,λx hx=>?_⟩
 obtain⟨y,hy,c,k,rfl,hc,_⟩:=cn h2 hx
 have hl:=i4 (h.nm.2.1 y (List.mem_of_mem_take hy))
 refine⟨(jH hc (by show 2<=4;decide) λz hz=>?_).se,c,y,_,rfl,hc,by omega⟩
 simp only [List.mem_cons,List.not_mem_nil,or_false] at hz
 rcases hz with rfl|rfl
 ·exact i5 (by omega)
 ·exact wq
theorem rm.lists(h:rm H b l f r nms ts i j):fD 2 (HR p) H (.ref l):=by
 obtain⟨xl,h1,h2,h3⟩:=h.lx
 refine⟨l,xl,rfl,h1,by rw [h2.length,List.length_take];omega,λx hx=>?_⟩
 obtain⟨y,hy,c,d,k,rfl,hc,hd,hk⟩:=cn h2 hx
 have hl:=i4 (h.nm.2.1 y (List.mem_of_mem_drop (List.mem_of_mem_take hy)))
 refine⟨(jH hc (by show 2<=4;decide) λz hz=>?_).se,c,y,_,rfl,hc,by omega⟩
 simp only [List.mem_cons,List.not_mem_nil,or_false] at hz
 rcases hz with rfl|rfl
 ·exact i5 (by omega)
 ·exact jH hd (by rw [List.length_replicate];omega) λz hz=>by rw [(List.mem_replicate.mp hz).2];exact wq
theorem rm.rows(h:rm H b l f r nms ts i j):fD 3 (SE p) H (.ref r):=by
 obtain⟨xr,h1,h2⟩:=h.rx
 obtain⟨_,_,_,h3⟩:=h.bx
 refine⟨r,xr,rfl,h1,by rw [h2.length,List.length_take];omega,λx hx=>?_⟩
 obtain⟨y,hy,c,d,rfl,hc,hd⟩:=cn h2 hx
 have hl:=i4 (h.nm.2.1 y (List.mem_of_mem_take hy))
 refine (jH hc (by show 2<=4;decide) λz hz=>?_).se
 simp only [List.mem_cons,List.not_mem_nil,or_false] at hz
 rcases hz with rfl|rfl
 ·exact i5 (by decide +kernel)
 ·refine jH hd (by show 2<=4;decide) λz hz=>?_
  simp only [List.mem_cons,List.not_mem_nil,or_false] at hz
  rcases hz with rfl|rfl
  ·exact i5 (by decide +kernel)
  ·exact i5 (by omega)
theorem rm.ib(h:rm H b l f r nms ts i j):fD 2 (P2 p) H (.ref f):=by
 obtain⟨xf,h1,h2⟩:=h.fx
 refine⟨f,xf,rfl,h1,by rw [h2.length];exact h.tm.1,λx hx=>?_⟩
 obtain⟨y,hy,c,pa,oa,ra,j',k',ss,v,rfl,hc,jS,hj,kj,hk,gp,HU,d1,d2,rfl,Ds,hd2⟩:=cn h2 hx
 have Kp:=i4 (h.tm.2.1 y hy)
 have Th:∀x∈(nms.drop 5).take j',fc x=true:=λx hx=>h.nm.2.1 x (List.mem_of_mem_drop (List.mem_of_mem_take hx))
 have Lj:∀x∈(nms.drop 7).take k',fc x=true:=λx hx=>h.nm.2.1 x (List.mem_of_mem_drop (List.mem_of_mem_take hx))
 have l5:((nms.drop 5).take j').length<=2:=by rw [List.length_take];omega
 have l7:((nms.drop 7).take k').length<=2:=by rw [List.length_take];omega
 have txt:∀{ws:List Str} {a:Addr},H a=some (.tup (ws.map V.str))->ws.length<=2->(∀x∈ws,fc x=true)->fD 2 (SE p) H (.ref a):=λ{ws a} ha hl hn=>⟨a,_,rfl,ha,by rw [List.length_map];exact hl,λx hx=>by
  obtain⟨y,hy,rfl⟩:=List.mem_map.mp hx
  exact kn (by have:=i4 (hn y hy);omega)⟩
 have rows:∀x∈ss ++ [V.ref d1],PT H x:=λx hx=>by
  rcases List.mem_append.mp hx with hx|hx
  ·obtain⟨z,hz,c1,c2,rfl,LC,rE⟩:=cn HU hx
   have XQ:=i4 (Lj z hz)
   refine jH LC (by show 3<=4;decide) λu hu=>?_
   simp only [List.mem_cons,List.not_mem_nil,or_false] at hu
   rcases hu with rfl|rfl|rfl
   ·exact i5 (by decide +kernel)
   ·exact i5 (by omega)
   ·exact B3 rE
  ·rw [List.mem_singleton] at hx
   subst hx
   refine jH Ds (by show 2<=4;decide) λu hu=>?_
   simp only [List.mem_cons,List.not_mem_nil,or_false] at hu
   rcases hu with rfl|rfl
   ·exact i5 (by decide +kernel)
   ·exact B3 hd2
 have XR:ss.length<=2:=by rw [HU.length];exact l7
 have tW:fD 3 (SE p) H (.ref ra):=⟨ra,_,rfl,gp,by rw [List.length_append,List.length_singleton];omega,λx hx=>(rows x hx).se⟩
 refine⟨ia (k:=4) (by decide) ⟨c,_,rfl,hc,by show 4<=4;decide,λu hu=>?_⟩,c,_,_,_,_,rfl,hc,kn (by omega),txt jS l5 Th,txt kj l7 Lj,tW⟩
 simp only [List.mem_cons,List.not_mem_nil,or_false] at hu
 rcases hu with rfl|rfl|rfl|rfl
 ·exact kn (by omega)
 ·exact ia (by decide) (txt jS l5 Th)
 ·exact ia (by decide) (txt kj l7 Lj)
 ·exact ia (by decide) tW
end
section
variable {p:Addr} {H0:Hp} {σ:St} {R:VR}
theorem Eo{ta tb:TE}(st:fV p R)(ha:Ev p H0 σ ta (fD 1 R))(hb:Ev p H0 σ tb (rp 0 4)):Ev p H0 σ (iG qF ta tb) (fD 3 R):=λH e Q q=>ha H e _ λv H1 e1 r1=>hb H1 (e.trans e1) _ λu H2 e2 r2=>by
 obtain⟨a,xs,rfl,h1,h2,h3⟩:=bS st _ _ _ e1.gen e2 r1
 obtain⟨k,rfl,k0,k1⟩:=r2
 refine⟨a,k,xs,rfl,rfl,h1,by omega,k0,by omega,λc H3 s3 h4=>?_⟩
 have e3:=ax.ext e2.gen s3
 have key:∀m:Nat,(List.replicate m xs).flatten.length<=m/\∀x∈(List.replicate m xs).flatten,x∈xs:=λm=>by
  induction m with
  |zero=>exact⟨Nat.le_refl 0,λx h=>by simp at h⟩
  |succ m ih=>
   rw [List.replicate_succ,List.flatten_cons]
   refine⟨by rw [List.length_append];omega,λx hx=>?_⟩
   rcases List.mem_append.mp hx with hx|hx
   ·exact hx
   ·exact ih.2 x hx
 obtain⟨kl,km⟩:=key k.toNat
 exact q _ _ (e1.trans (e2.trans e3)) ⟨c,_,rfl,h4,by omega,λx hx=>st _ _ _ e2.gen e3 (h3 x (km x hx))⟩
theorem zy{K:PySem.W.Frag}{i:Nat}{v:V}{tn:TE}(g0:Gen p H0)(hv:fD 2 R H0 v)(hi:σ[i]?=some (some v))(hn:Ev p H0 σ tn (rp 0 2)):Ev p H0 σ (iG (Cy λi j=>V.int (i+j)) (CD (λxs H Q=>∃p ys,xs = [V.ref p]/\(bX K H p ys\/aR K H p ys)/\Q (V.int ys.length) H) (bD (bQ i) fE)) tn) (rp 0 4):=λH e Q q=>by
 obtain⟨a,xs,rfl,h1,h2,h3⟩:=hv
 refine⟨_,hi,a,xs,rfl,.inr (aR.of (e.tup g0 h1)),hn H e _ λu H1 e1 r1=>?_⟩
 obtain⟨k,rfl,k0,k1⟩:=r1
 exact⟨_,_,rfl,rfl,q _ _ e1 ⟨_,rfl,by omega,by omega⟩⟩
theorem zA{K:PySem.W.Frag}{ta:TE}{k:Nat}{u:V}(st:fV p R)(ha:Ev p H0 σ ta (fD k R))(hu:∀H,R H u)(hk:k<=100:=by decide):Ev p H0 σ (iG (eu K) (iG qx ta (ic λ_ H Q=>Q [u] H)) (tC (V.int 0))) R:=λH e Q q=>ha H e _ λv H1 e1 r1=>⟨j7 (by show 1<=1000;decide),λc hc=>by
 have e3:=Ext.new e1.gen hc (.tup [u])
 obtain⟨a,xs,rfl,h1,h2,h3⟩:=bS st _ _ _ e1.gen e3 r1
 have l3:(100000:Nat)<sizeLine:=by rw [sizeLine_eq];decide
 refine⟨a,c,xs,[u],rfl,rfl,h1,ae,by rw [List.length_singleton];omega,λd H4 s4 h4=>?_⟩
 have e4:=ax.ext e3.gen s4
 have xW:=e1.trans (e3.trans e4)
 cases xs with
 |nil=>exact⟨d,_,0,u,rfl,rfl,aR.of h4,au (j:=0) rfl,q _ _ xW (hu _)⟩
 |cons x r=>exact⟨d,_,0,x,rfl,rfl,aR.of h4,au (j:=0) rfl,q _ _ xW (st _ _ _ e3.gen e4 (h3 x List.mem_cons_self))⟩⟩
theorem HV{te tn:TE}{k:Nat}(st:fV p R)(ha:Ev p H0 σ te (fD k R))(hn:Ev p H0 σ tn (rp 0 2)):Ev p H0 σ (L9 wU te mI (rV tn)) (fD 1 R):=λH e Q q=>ha H e _ λv H1 e1 r1=>hn H1 (e.trans e1) _ λu H2 e2 r2=>by
 obtain⟨k,rfl,k0,k1⟩:=r2
 obtain⟨a,xs,rfl,h1,h2,h3⟩:=bS st _ _ _ e1.gen e2 r1
 refine⟨k,rfl,a,xs,rfl,h1,λc H3 s3 h4=>?_⟩
 have e3:=ax.ext e2.gen s3
 refine q _ _ (e1.trans (e2.trans e3)) ⟨c,_,rfl,h4,?_,λx hx=>st _ _ _ e2.gen e3 (h3 x ?_)⟩
 ·unfold fR
  have e0:HT.eS xs.length 0 none=0:=rfl
  have e1:HT.eS xs.length xs.length (some k)=min k.toNat xs.length:=by
   unfold HT.eS
   dsimp only
   rw [if_neg (by omega)]
  rw [e0,e1,List.length_take]
  omega
 ·unfold fR at hx
  exact List.mem_of_mem_drop (List.mem_of_mem_take hx)
theorem P7(xs:List V):(fR xs none (some 3)).length<=3:=by
 unfold fR
 have e:HT.eS xs.length xs.length (some 3)=min 3 xs.length:=HT.mH _ _ 3
 have e0:HT.eS xs.length 0 none=0:=rfl
 rw [e,e0,List.length_take]
 omega
end
section
variable {P:Program} {w:World} {K:PySem.W.Frag} {mg:Str->Option Value} {base:Heap}
theorem dC:aO ["_law_parts","_law_state_here","_law_boxes","_law_lists","_law_functions","_law_rows","_law_bad","_law_names_here","_law_kind_here","_law_stores","_law_name","_law_params","_law_owns","_law_inner","_law_values","_law_first","_law_twice","_law_other"] ["_law_parts","_law_state_here"] (ao (top 81)):=⟨rfl,rfl,rfl,by decide +kernel,rfl,by decide +kernel,by decide +kernel⟩
def B4:Sp:=λvs H Q _=>∃(t p b l f r:Addr) (nms ts:List Str) (i j:Nat),vs = [.ref t,.ref p]/\Gen p H/\H t=some (.tup [.ref b,.ref l,.ref f,.ref r])/\rm H b l f r nms ts i j/\∀v H',Ext p H H'->P4 p H' v->Q v H'
theorem HW(T:Txt w K mg)(bE:Def P w K mg base 1 "_law_next" ["_law_state_here","_law_size"] f7)(LD:Def P w K mg base 3 "_law_bad_row" ["_law_parts","_law_state_here"] Ft)(HX:Def P w K mg base 2 "_law_other_stores" ["_law_boxes","_law_lists","_law_state_here"] B2)
  (HY:Def P w K mg base 2 "_law_other_function" ["_law_one","_law_names_here","_law_bad","_law_state_here"] BZ) (S:Src K mg "_law_more" (top 81) ["_law_parts","_law_state_here"]):Def P w K mg base 4 "_law_more" ["_law_parts","_law_state_here"] B4:=by
 refine S.ok dC (λvs H Q E h=>?_) (λf0 cD A outer s H vs Q E hr h=>?_)
 ·obtain⟨t,p,b,l,f,r,nms,ts,i,j,rfl,_⟩:=h;rfl
 obtain⟨t,p,b,l,f,r,nms,ts,i,j,rfl,g,ht,hP,q⟩:=h
 refine⟨_,(cE (nC (pv 0) (iJ rfl (bF (aM (i:=2) dC.nd rfl (Or.inl rfl)) (bF (aM (i:=3) dC.nd rfl (Or.inl rfl)) (bF (aM (i:=4) dC.nd rfl (Or.inl rfl)) (bF (aM (i:=5) dC.nd rfl (Or.inl rfl)) gK))))))
   (cE (aS (i:=6) dC.nd rfl (Or.inl rfl) (aw (LD) hr rfl (aq (pv 0) (aq (pv 1) aa))))
   (cE (aS (i:=7) dC.nd rfl (Or.inl rfl) (eM dD rfl T.cm bL (aq (cq (N':= ["_law_one"]) (bg (ao (top 81)) (by rfl) (by decide +kernel) (by decide +kernel) (by decide +kernel) (by decide +kernel) (by decide +kernel) (by decide +kernel)) rfl (gP 1 [] (by rfl) (by rfl) (by decide +kernel)) (cG (aU bK (pv 2) (pv 3))) (λ_ _ _=>aM (i:=0) (show (["_law_one"]:List Str).Nodup by decide +kernel) rfl (Or.inl rfl) (Or.inr rfl)) (λ_ _ _=>cB) (λ_ _ _=>(aJ (show gj _ (eu K) from aG) (pv 0) ag (λ_ _=>rfl)))) aa)))
   (cE (aS (i:=8) dC.nd rfl (Or.inl rfl) (aw (bE.mono (by decide)) hr rfl (aq (pv 1) (aq ag aa))))
   (ai (aX (aQ cA (pv 8) ag (aP _))
   (ai (aS (i:=9) dC.nd rfl (Or.inl rfl) (aw (HX.mono (by decide)) hr rfl (aq (pv 2) (aq (pv 3) (aq (pv 1) aa)))))
   (aj (aC (aA (aq (aJ aG (pv 9) ag (λ_ _=>rfl)) (aq (aJ aG (pv 9) ag (λ_ _=>rfl)) (aq (pv 4) (aq (pv 5) aa)))))))) aI)
   (ai (aX (cN (PW.pt (dX (aQ (qy hr.iL) (pv 4) (aA aa) (aP _)) (dG (aQ wG (pv 8) ag (aP _))))))
   (aj (aC (aA (aq (pv 2) (aq (pv 3) (aq (pv 4) (aq (aU bK (pv 5) (aA (aq (pv 6) aa))) aa))))))) aI)
   (ai (nC (aJ aG (pv 4) (pk lF ag) (λ_ _=>rfl)) (iJ rfl (bF (aM (i:=10) dC.nd rfl (Or.inl rfl)) (bF (aM (i:=11) dC.nd rfl (Or.inl rfl)) (bF (aM (i:=12) dC.nd rfl (Or.inl rfl)) (bF (aM (i:=13) dC.nd rfl (Or.inl rfl)) gK))))))
   (ai (aX (aQ cA (pv 8) ag (aP _))
   (ai (aS (i:=14) dC.nd rfl (Or.inl rfl) (aU og (aA (aq (aA (bq [.str "number",.int 1] (by rfl))) aa)) (aU eW (aW aN rfl T.cH bO (aq (pv 11) aa)) (aw (bE.mono (by decide)) hr rfl (aq (pv 1) (aq ag aa))))))
   (aj (aC (aA (aq (pv 2) (aq (pv 3) (aq (pv 4) (aq (aU bK (pv 5) (aA (aq (aA (aq aD (aq (aJ aG (aU bK (pv 7) (aA (bq [.str "zz"] (by rfl)))) ag (λ_ _=>rfl)) (aq (pv 10) (aq (pv 14) aa))))) aa))) aa)))))))) aI)
   (ai (aX (aQ cA (pv 8) ag (aP _))
   (aj (aC (aA (aq (pv 2) (aq (pv 3) (aq (aU bK (pv 4) (bJ dg (pv 4) cp (bV ag))) (aq (pv 5) aa))))))) aI)
   (ai (aS (i:=15) dC.nd rfl (Or.inl rfl) (aU bK (bJ dg (aJ aG (pv 4) ag (λ_ _=>rfl)) cp (bV ag)) (aA (aq (aU bK (aJ aG (aJ aG (pv 4) ag (λ_ _=>rfl)) ag (λ_ _=>rfl)) (aA (aq (pv 6) aa))) aa))))
   (ai (aX (aQ cA (pv 8) ag (aP _))
   (ai (aS (i:=16) dC.nd rfl (Or.inl rfl) (aU bK (pv 2) (bJ dg (pv 2) cp (bV (aw (bE.mono (by decide)) hr rfl (aq (pv 1) (aq ag aa)))))))
   (aj (aC (aA (aq (pv 16) (aq (pv 3) (aq (aU bK (aA (aq (pv 15) aa)) (bJ dg (pv 4) (bV ag) cp)) (aq (aJ cU (bN (aq (pv 5) (aq (eM cJ rfl T.g8 fT (aq (pv 5) aa)) aa))) (aw (bE.mono (by decide)) hr rfl (aq (pv 1) (aq ag aa))) (λ_ _=>rfl)) aa)))))))) aI)
   (ai (aS (i:=17) dC.nd rfl (Or.inl rfl) (aw (HY.mono (by decide)) hr rfl (aq (aJ aG (pv 4) (pk lF ag) (λ_ _=>rfl)) (aq (pv 7) (aq (pv 6) (aq (pv 1) aa))))))
   (ai (aX (cN (PW.pt (nA (aQ cA (pv 8) ag (aP _)) (kz (aQ lW (aW aN rfl T.cH bO (aq (pv 4) aa)) ag (aP _))))))
   (aj (aC (aA (aq (pv 2) (aq (pv 3) (aq (aU bK (aU bK (aA (aq (pv 15) aa)) (bJ dg (pv 4) (bV ag) (bV (pk lF ag)))) (aA (aq (pv 17) aa))) (aq (pv 5) aa))))))) aI)
   (aj (aC (aA (aq (pv 2) (aq (pv 3) (aq (aU bK (bJ dg (pv 4) cp (bV (pk lF ag))) (aA (aq (pv 17) aa))) (aq (pv 5) aa)))))))))))))))))))),?_⟩
 try dsimp only [gQ]
 have de:Dat p (SE p):=wk
 have hB:fD 3 (HR p) H (.ref b):=hP.Fy
 have hL:fD 2 (HR p) H (.ref l):=hP.lists
 have hF:fD 2 (P2 p) H (.ref f):=hP.ib
 have hR:fD 3 (SE p) H (.ref r):=hP.rows
 refine⟨λσ H'=>σ = [some (.ref t),some (.ref p),some (.ref b),some (.ref l),some (.ref f),some (.ref r),none,none,none,none,none,none,none,none,none,none,none,none]/\H=H',?_,?_⟩
 ·exact⟨_,rfl,t,_,rfl,aR.of ht,rfl,_,_,rfl,_,_,rfl,_,_,rfl,_,_,rfl,rfl,rfl,rfl⟩
 rintro σ H' ⟨rfl,rfl⟩
 refine⟨λσ H'=>∃bad,σ = [some (.ref t),some (.ref p),some (.ref b),some (.ref l),some (.ref f),some (.ref r),some bad,none,none,none,none,none,none,none,none,none,none,none]/\Ext p H H'/\SE p H' bad,?_,?_⟩
 ·exact⟨_,rfl,_,rfl,t,p,b,l,f,r,nms,ts,i,j,rfl,g,ht,hP,λv H1 e1 r1=>⟨v,rfl,e1,r1.se⟩⟩
 rintro σ H1 ⟨bad,rfl,e1,HQ⟩
 refine⟨λσ H'=>∃nh,σ = [some (.ref t),some (.ref p),some (.ref b),some (.ref l),some (.ref f),some (.ref r),some bad,some nh,none,none,none,none,none,none,none,none,none,none]/\Ext p H1 H'/\fD 5 (SE p) H' nh,?_,?_⟩
 ·obtain⟨_,xb,eb,va,Wl,vb⟩:=bS qc _ _ _ g e1 hB
  cases eb
  obtain⟨_,xl,el,oM,Wm,ET⟩:=bS qc _ _ _ g e1 hL
  cases el
  have l3:(100000:Nat)<sizeLine:=by rw [sizeLine_eq];decide
  refine⟨_,rfl,_,rfl,b,l,xb,xl,rfl,rfl,va,oM,by omega,λct H2 s2 h2=>?_⟩
  have hd:∀x∈xb++xl,∃c y z,x=.ref c/\H2 c=some (.tup [.str y,z])/\y.length<=9100:=λx hx=>by
   rcases List.mem_append.mp hx with hx|hx
   ·obtain⟨_,c,y,z,e,hc,hy⟩:=vb x hx
    exact⟨c,y,z,e,s2 _ _ hc,hy⟩
   ·obtain⟨_,c,y,z,e,hc,hy⟩:=ET x hx
    exact⟨c,y,z,e,s2 _ _ hc,hy⟩
  refine⟨ct,rfl,⟨_,aR.of h2⟩,fj (te:=iG (eu K) (bQ 0) (tC (V.int 0))) (cs:= []) (cg H2) h2 (by rw [List.length_append];omega) rfl (λx H3 k3 hx s3 hk=>?_) (λu1 H3 md s3 h3=>?_)⟩
  ·obtain⟨c,y,z,e,hc,_⟩:=hd x hx
   exact hW ⟨c,_,_,e,hc⟩ s3 hk
  ·refine⟨u1,_,rfl,.inl ⟨bX.of h3,λnh LB=>?_⟩⟩
   have s4:=ah LB (.tup ((xb++xl).map (cg H2)))
   refine⟨.ref nh,rfl,ax.ext e1.gen (s2.trans (s3.trans s4)),nh,_,rfl,ae,by rw [List.length_map,List.length_append];omega,λx hx=>?_⟩
   obtain⟨z,hz,rfl⟩:=List.mem_map.mp hx
   obtain⟨c,y,z',rfl,hc,hy⟩:=hd z hz
   have ef:cg H2 (.ref c)=.str y:=by unfold cg;rw [ak hc]
   rw [ef]
   exact kn hy
 rintro σ H2 ⟨nh,rfl,e2,LB⟩
 refine⟨λσ H'=>∃k,σ = [some (.ref t),some (.ref p),some (.ref b),some (.ref l),some (.ref f),some (.ref r),some bad,some nh,some (.int k),none,none,none,none,none,none,none,none,none]/\Ext p H2 H',?_,?_⟩
 ·exact⟨_,rfl,p,8,rfl,e2.gen,by decide,λk H3 _ _ e3=>⟨k,rfl,e3⟩⟩
 rintro σ H3 ⟨k,rfl,e3⟩
 have zv:=e2.trans e3
 have mn:=e1.trans zv
 have Fz:=ay _ _ _ e1.gen zv HQ
 have LF:=bS ay _ _ _ e2.gen e3 LB
 have Ti:=bS qc _ _ _ g mn hB
 have Tj:=bS qc _ _ _ g mn hL
 have Tn:=bS B0 _ _ _ g mn hF
 have Wq:=bS ay _ _ _ g mn hR
 have g3:=mn.gen
 have bv:∀{H':Hp} {σ:St},Ext p H3 H'->σ[2]?=some (some (.ref b))->Ev p H' σ (bQ 2) (fD 3 (SE p)):=λe h=>bA e.gen (bS ay) (bS ay _ _ _ g3 e (Ti.imp λ_ z=>z.1)) h
 have lv:∀{H':Hp} {σ:St},Ext p H3 H'->σ[3]?=some (some (.ref l))->Ev p H' σ (bQ 3) (fD 2 (SE p)):=λe h=>bA e.gen (bS ay) (bS ay _ _ _ g3 e (Tj.imp λ_ z=>z.1)) h
 have fv:∀{H':Hp} {σ:St},Ext p H3 H'->σ[4]?=some (some (.ref f))->Ev p H' σ (bQ 4) (fD 2 (SE p)):=λe h=>bA e.gen (bS ay) (bS ay _ _ _ g3 e (Tn.imp λ_ z=>z.1)) h
 have rv:∀{H':Hp} {σ:St},Ext p H3 H'->σ[5]?=some (some (.ref r))->Ev p H' σ (bQ 5) (fD 3 (SE p)):=λe h=>bA e.gen (bS ay) (bS ay _ _ _ g3 e Wq) h
 have bd:∀{H':Hp} {σ:St},Ext p H3 H'->σ[6]?=some (some bad)->Ev p H' σ (bQ 6) (SE p):=λe h=>bA e.gen ay (ay _ _ _ g3 e Fz) h
 have nv:∀{H':Hp} {σ:St},Ext p H3 H'->σ[7]?=some (some nh)->Ev p H' σ (bQ 7) (fD 5 (SE p)):=λe h=>bA e.gen (bS ay) (bS ay _ _ _ g3 e LF) h
 have fin:∀{te:TE} {σ:St} {H':Hp},Ext p H3 H'->Ev p H' σ te (P4 p)->FR te {nx:=λ_ H'=>Q .eh H',rt:=Q} σ H':=λe h=>h _ (Ext.refl e.gen) _ λv H5 e5 r5=>q v H5 (mn.trans (e.trans e5)) r5
 have XS:=Ext.refl g3
 refine⟨_,rfl,rfl,_,rfl,bZ (λc=>?_) (λc=>?_)⟩
 ·refine⟨_,rfl,_,rfl,_,rfl,.ref b,.ref l,p,rfl,g3,Ti,Tj,λsv H4 e4 r4=>?_⟩
  obtain⟨sa,x,y,rfl,LA,hx,hy⟩:=r4
  refine fin e4 (oH (t:=iG (eu K) (bQ 9) (tC (V.int 0))) (u:=iG (eu K) (bQ 9) (tC (V.int 1))) ?_ ?_ (fQ (fv e4 rfl)) (fQ (rv e4 rfl)))
  ·exact λH5 e5 Q q=>⟨_,rfl,sa,_,0,_,rfl,rfl,aR.of (e5.tup e4.gen LA),au (j:=0) rfl,q _ _ (Ext.refl e5.gen) (ay _ _ _ e4.gen e5 hx)⟩
  ·exact λH5 e5 Q q=>⟨_,rfl,sa,_,1,_,rfl,rfl,aR.of (e5.tup e4.gen LA),au (j:=1) rfl,q _ _ (Ext.refl e5.gen) (ay _ _ _ e4.gen e5 hy)⟩
 obtain⟨_,xf,ef,Fh,XT,i8⟩:=id Tn
 cases ef
 refine⟨λtt H'=>Ext p H3 H'/\(tt=false->xf ≠ []),?_,?_⟩
 ·refine⟨_,rfl,j7 (by show 0<=1000;decide),λz1 P5=>?_⟩
  have e4:=Ext.new g3 P5 (.tup [])
  refine⟨f,z1,xf,[],rfl,rfl,aR.of (e4.tup g3 Fh),aR.of ae,.inr rfl,_,rfl,bZ (λc=>⟨e4,λz=>by cases z⟩) (λc=>?_)⟩
  exact⟨_,rfl,_,_,rfl,rfl,_,rfl,e4,λ_ n=>c (by rw [n];rfl)⟩
 rintro tt H4 ⟨e4,j5⟩
 refine bZ (λc=>fin e4 (oH (fQ (bv e4 rfl)) (fQ (lv e4 rfl)) (fQ (fv e4 rfl)) (fQ (cV ay (rv e4 rfl) (dF ay (aT ay (bd e4 rfl) cx)))))) (λc=>?_)
 have LG:=j5 (by cases tt with|false=>rfl|true=>exact absurd rfl c)
 obtain⟨ys,last,Cb⟩:∃ys last,xf=ys ++ [last]:=by
  rcases List.eq_nil_or_concat xf with h|⟨ys,y,h⟩
  ·exact absurd h LG
  ·exact⟨ys,y,by rw [h,List.concat_eq_append]⟩
 have Wr:=Ext.tk g3 e4
 have xC:=Wr _ _ Fh
 have LH:=B0 _ _ _ g3 e4 (i8 last (by rw [Cb];simp))
 obtain⟨Ke,c,y,pa,oa,ra,rfl,hc,hy,jS,kj,gp⟩:=id LH
 have FA:nE xf (-1)=some (.ref c):=by rw [Cb];exact rW ys _
 obtain⟨x0,xr,EX⟩:∃x0 xr,xf=x0::xr:=by
  cases xf with
  |nil=>exact absurd rfl LG
  |cons x0 xr=>exact⟨x0,xr,rfl⟩
 obtain⟨XU,c0,y0,XW,XX,XY,rfl,To,Ws,P8,P9,LJ⟩:=B0 _ _ _ g3 e4 (i8 x0 (by rw [EX];simp))
 have B6:xf[0]?=some (.ref c0):=by rw [EX];rfl
 refine⟨_,rfl,1,rfl,f,xf,-1,_,rfl,rfl,aR.of xC,FA,c,_,rfl,aR.of hc,rfl,_,_,rfl,_,_,rfl,_,_,rfl,_,_,rfl,rfl,?_⟩
 let σ:Option V->Option V->Option V->Option V->St:=λQa Qb Qc Qd=> [some (.ref t),some (.ref p),some (.ref b),some (.ref l),some (.ref f),some (.ref r),some bad,some nh,some (.int k),none,some y,some pa,some oa,some ra,Qa,Qb,Qc,Qd]
 show fX _ _ _ (σ none none none none) H4
 have Tq:∀{Qa Qb Qc Qd:Option V},Ev p H4 (σ Qa Qb Qc Qd) (bQ 10) (SE p):=bA e4.gen ay hy rfl
 have LK:∀{H':Hp} {σ:St},Ev p H' σ (tC (V.str "call")) (SE p):=ko de "call"
 refine⟨_,rfl,rfl,_,rfl,bZ (λc=>?_) (λc=>?_)⟩
 ·show fX _ _ _ (σ none none none none) H4
  refine dW (Eo ay (dF ay (aT ay (iZ de 1) cx)) (zy (K:=K) e4.gen jS rfl (gU (i:=1) (k:=2) rfl))) (Ext.refl e4.gen) λvv H5 e5 r5=>?_
  have tZ:=e4.trans e5
  refine fin (σ:=σ (some vv) none none none) tZ (oH (fQ (bv tZ rfl)) (fQ (lv tZ rfl)) (fQ (fv tZ rfl)) (fQ (cV ay (rv tZ rfl) (dF ay (aT ay (kq de LK (zA (K:=K) ay (nv tZ rfl) λH=>kn (by decide +kernel)) (bA (i:=10) tZ.gen ay (ay _ _ _ e4.gen e5 hy) rfl) (fQ (bA (i:=14) tZ.gen (bS ay) r5 rfl))) cx)))))
 refine⟨_,rfl,rfl,_,rfl,bZ (λc=>?_) (λc=>?_)⟩
 ·exact fin (σ:=σ none none none none) e4 (oH (fQ (bv e4 rfl)) (fQ (lv e4 rfl)) (fQ (cV ay (fv e4 rfl) (jG (k':=1) ay (fv e4 rfl) (λ_ _ h=>gq h) (λ_ _ h=>rq h) λxs _=>BM xs))) (fQ (rv e4 rfl)))
 have f0:Ev p H4 (σ none none none none) (iG (eu K) (bQ 4) (tC (V.int 0))) (fD 4 (SE p)):=λH5 e5 Q q=>⟨_,rfl,f,xf,0,_,rfl,rfl,aR.of (e5.tup e4.gen xC),au (j:=0) B6,q _ _ (Ext.refl e5.gen) ⟨c0,_,rfl,e5.tup e4.gen To,by show 4<=4;decide,λx hx=>by
  simp only [List.mem_cons,List.not_mem_nil,or_false] at hx
  rcases hx with rfl|rfl|rfl|rfl
  ·exact ay _ _ _ e4.gen e5 Ws
  ·exact ay _ _ _ e4.gen e5 (ia (by decide) P8)
  ·exact ay _ _ _ e4.gen e5 (ia (by decide) P9)
  ·exact ay _ _ _ e4.gen e5 (ia (by decide) LJ)⟩⟩
 have Wt:Ev p H4 (σ none none none none) (iG (eu K) (iG (eu K) (bQ 4) (tC (V.int 0))) (tC (V.int 3))) (fD 3 (SE p)):=λH5 e5 Q q=>⟨_,rfl,f,xf,0,_,rfl,rfl,aR.of (e5.tup e4.gen xC),au (j:=0) B6,c0,_,3,_,rfl,rfl,aR.of (e5.tup e4.gen To),au (j:=3) rfl,q _ _ (Ext.refl e5.gen) (bS ay _ _ _ e4.gen e5 LJ)⟩
 show fX _ _ _ (σ none none none none) H4
 refine dW (cV ay (jG (k':=3) ay f0 (λ_ _ h=>gq h) (λ_ _ h=>rq h) λxs _=>P7 xs) (dF ay (aT ay (fQ (cV ay Wt (dF ay (aT ay (bd e4 rfl) cx)))) cx))) (Ext.refl e4.gen) λfi H5 e5 r5=>?_
 have tZ:=e4.trans e5
 have Tr:=ia (by decide) r5
 show fX _ _ _ (σ none (some fi) none none) H5
 refine⟨_,rfl,rfl,_,rfl,bZ (λc=>?_) (λc=>?_)⟩
 ·show fX _ _ _ (σ none (some fi) none none) H5
  refine dW (cV ay (bv tZ rfl) (HV ay (bv tZ rfl) (gU (i:=1) (k:=2) rfl))) (Ext.refl tZ.gen) λtw H6 e6 r6=>?_
  have qd:=tZ.trans e6
  refine fin (σ:=σ none (some fi) (some tw) none) qd (oH (fQ (bA (i:=16) qd.gen (bS ay) r6 rfl)) (fQ (lv qd rfl)) (fQ (cV ay (dF ay (aT ay (bA (i:=15) qd.gen ay (ay _ _ _ e5.gen e6 Tr) rfl) cx)) (jG (k':=2) ay (fv qd rfl) (λ_ _ h=>rq h) (λ_ _ h=>gq h) λxs h=>mZ h)))
   (oG (K:=K) (m:=2) ay (gg ay (aT ay (fQ (rv qd rfl)) (aT ay (BW (K:=K) (rv qd rfl)) cx))) (gU (i:=1) (k:=2) rfl)))
 have Qe:=Ext.tk e4.gen e5
 refine⟨_,rfl,1,rfl,f,xf,-1,_,rfl,rfl,aR.of (Qe _ _ xC),FA,_,rfl,_,rfl,_,rfl,_,p,nh,bad,y,pa,oa,ra,rfl,tZ.gen,Qe _ _ hc,ay _ _ _ e4.gen e5 hy,bS ay _ _ _ e4.gen e5 jS,bS ay _ _ _ e4.gen e5 kj,bS ay _ _ _ e4.gen e5 gp,bS ay _ _ _ g3 tZ LF,ay _ _ _ g3 tZ Fz,λot H6 e6 r6=>?_⟩
 have qd:=tZ.trans e6
 show fX _ _ _ (σ none (some fi) none (some ot)) H6
 have Ts:Ev p H6 (σ none (some fi) none (some ot)) (bQ 17) (SE p):=bA qd.gen ay r6 rfl
 refine⟨λtt H'=>H6=H',?_,?_⟩
 ·refine⟨_,rfl,rfl,_,rfl,bZ (λc=>?_) (λc=>rfl)⟩
  exact⟨_,rfl,f,xf,rfl,.inr (aR.of ((Ext.tk e5.gen e6) _ _ (Qe _ _ xC))),_,_,rfl,rfl,_,rfl,rfl⟩
 rintro tt H' rfl
 refine bZ (λc=>?_) (λc=>?_)
 ·exact fin (σ:=σ none (some fi) none (some ot)) qd (oH (fQ (bv qd rfl)) (fQ (lv qd rfl)) (fQ (cV ay (cV ay (dF ay (aT ay (bA (i:=15) qd.gen ay (ay _ _ _ e5.gen e6 Tr) rfl) cx)) (jG (k':=2) ay (fv qd rfl) (λ_ _ h=>rq h) (λ_ _ h=>BY h) λxs h=>mZ h)) (dF ay (aT ay Ts cx)))) (fQ (rv qd rfl)))
 ·exact fin (σ:=σ none (some fi) none (some ot)) qd (oH (fQ (bv qd rfl)) (fQ (lv qd rfl)) (fQ (cV ay (jG (k':=2) ay (fv qd rfl) (λ_ _ h=>gq h) (λ_ _ h=>BY h) λxs h=>mZ h) (dF ay (aT ay Ts cx)))) (fQ (rv qd rfl)))
end
end bo
namespace bo
open PySem L2
section
variable {H:Hp}
theorem nc{R:V->Str->Prop}(f:∀x y,R x y->cg H x=.str y):∀{xs:List V} {ws:List Str},Paired R xs ws->aB H xs=ws
 |_,_,.nil=>rfl
 |_,_,.cons h t=>by
  show jd (cg H _)::aB H _=_
  rw [f _ _ h,nc f t]
  rfl
theorem wt{c:Addr}{y:V}{ys:List V}(h:H c=some (.tup (y::ys))):cg H (.ref c)=y:=by unfold cg;rw [ak h]
theorem xX{bs:List Str}{y:Str}(h:y∈bs):vF bs (.str y)=true:=by
 show uI (.str y) (bs.map V.str)=true
 rw [K1]
 exact decide_eq_true h
theorem xY{bs ls:List Str}{d:Addr}{i:Int}(h:H d=some (.tup [.str "number",.int i]))(h0:0<=i)(h1:i<=999999):isVal H bs ls 4 (.ref d)=true:=by
 rw [jR h (show cR "number"=some [("number":Str)] from by decide),pY]
 show (decide (0<=i)&&decide (i<=999999))=true
 rw [decide_eq_true h0,decide_eq_true h1];rfl
theorem Ep{bs ls:List Str}{d:Addr}{y:Str}(h:H d=some (.tup [.str "box",.str y]))(hy:y∈bs):isVal H bs ls 4 (.ref d)=true:=by
 rw [jR h (show cR "box"=some [("box":Str)] from by decide),Bs]
 exact xX hy
theorem FC{bs ls:List Str}{kvs:gJ}{r:Bool}{c d:Addr}{x:Str}(hc:H c=some (.tup [.str x,.ref d]))(hx:bP x=some [("value":Str)])(hr:(decide (x="return") && !r)=false)(zG:x≠"call")(hv:isVal H bs ls 4 (.ref d)=true):bU H bs ls kvs r 5 (.ref c)=true:=by
 rw [fO hc]
 unfold jy
 rw [hx]
 dsimp only
 rw [hr,decide_eq_false zG]
 show (true&&(!false&&((ie H bs ls kvs _ "value" (.ref d)&&true)&&(!false||_))))=true
 rw [lh,hv]
 rfl
theorem Er{bs ls:List Str}{kvs:gJ}{r:Bool}{c d:Addr}{y:Str}(hc:H c=some (.tup [.str "set",.str y,.ref d]))(hb:∀x∈bs,fc x=true)(hy:y∈bs)(hv:isVal H bs ls 4 (.ref d)=true):bU H bs ls kvs r 5 (.ref c)=true:=by
 rw [fO hc]
 unfold jy
 rw [show bP "set"=some (["box","value"]:List Str) from rfl]
 dsimp only
 rw [decide_eq_false (show ¬ (("set":Str)="return") by decide),decide_eq_false (show ¬ (("set":Str)="call") by decide)]
 show (true&&(!(false && !r)&&((ie H bs ls kvs _ "box" (.str y)&&(ie H bs ls kvs _ "value" (.ref d)&&true))&&(!false||_))))=true
 rw [lh,Bx hb,hv,xX hy]
 rfl
theorem FD{c:Addr}{x:Str}{v:V}(hc:H c=some (.tup [.str x,v]))(hx:bP x=some [("value":Str)]):inner H (.ref c) = []:=by
 rw [hJ hc hx]
 show (jP ["value"] [v] 1).flatMap (cj H) = []
 show (((if ("value":Str)="rows" then [v] else [])++jP [] [] 0).flatMap (cj H)) = []
 rw [if_neg (by decide)]
 rfl
theorem Es{c:Addr}{u v:V}(hc:H c=some (.tup [.str "set",u,v])):inner H (.ref c) = []:=by
 rw [hJ hc (show bP "set"=some (["box","value"]:List Str) from rfl)]
 show (((if ("box":Str)="rows" then [u] else [])++((if ("value":Str)="rows" then [v] else [])++jP [] [] 0)).flatMap (cj H)) = []
 rw [if_neg (by decide),if_neg (by decide)]
 rfl
theorem oI:∀{rows:List V},(∀v∈rows,inner H v = [])->cnt H 5 rows=rows.length
 | [],_=>cnt_nil H 5
 |v::r,h=>by
  rw [cnt_cons,h v List.mem_cons_self,cnt_nil,oI λy hy=>h y (List.mem_cons_of_mem _ hy),List.length_cons]
  omega
variable {b l f r:Addr} {nms ts:List Str} {i j:Nat}
theorem LL{nms:List Str}{i j j' k':Nat}(hi:i<=3)(hj:j<=2)(Jf:j'<=2):((nms.take i++(nms.drop 3).take j)++((nms.drop 5).take j'++(nms.drop 7).take k')).Sublist nms:=by
 have e1:nms=nms.take 3++((nms.drop 3).take 2++((nms.drop 5).take 2++nms.drop 7)):=by
  have h5:nms.drop 5=(nms.drop 3).drop 2:=by rw [List.drop_drop]
  have h7:nms.drop 7=(nms.drop 5).drop 2:=by rw [List.drop_drop]
  rw [h7,List.take_append_drop,h5,List.take_append_drop,List.take_append_drop]
 have t:∀{l:List Str} {a b:Nat},a<=b->(l.take a).Sublist (l.take b):=λ{l a b} h=>by
  have:l.take a=(l.take b).take a:=by rw [List.take_take,Nat.min_eq_left h]
  rw [this]
  exact List.take_sublist _ _
 conv=>rhs;rw [e1]
 rw [List.append_assoc]
 exact (t hi).append ((t hj).append ((t Jf).append (List.take_sublist _ _)))
theorem rm.verdict(h:rm H b l f r nms ts i j):bo.verdict H (.ref b) (.ref l) (.ref f) (.ref r)=0:=by
 obtain⟨xb,hb,zt,hi⟩:=h.bx
 obtain⟨xl,hl,Ll,hj⟩:=h.lx
 obtain⟨xf,hf,i8⟩:=h.fx
 obtain⟨xr,hr,Qg⟩:=h.rx
 have IV:aB H xb=nms.take i:=nc (λx y z=>by obtain⟨c,k,rfl,hc,_⟩:=z;exact wt hc) zt
 have MO:aB H xl=(nms.drop 3).take j:=nc (λx y z=>by obtain⟨c,d,k,rfl,hc,_⟩:=z;exact wt hc) Ll
 have Wu:aB H xf=ts:=nc (λx y z=>by obtain⟨c,pa,oa,ra,j',k',ss,v,rfl,hc,_⟩:=z;exact wt hc) i8
 have lb:xb.length<=3:=by rw [zt.length,List.length_take];omega
 have ll:xl.length<=2:=by rw [Ll.length,List.length_take];omega
 have lf:xf.length<=2:=by rw [i8.length];exact h.tm.1
 have Tt:∀x∈nms.take i,fc x=true:=λx hx=>h.nm.2.1 x (List.mem_of_mem_take hx)
 have dn:∀{a b:Nat},∀x∈(nms.drop a).take b,fc x=true:=λx hx=>h.nm.2.1 x (List.mem_of_mem_drop (List.mem_of_mem_take hx))
 have iV:xb.all (fI H)=true:=List.all_eq_true.mpr λx hx=>by
  obtain⟨y,hy,c,k,rfl,hc,k0,k1⟩:=cn zt hx
  unfold fI
  rw [ak hc]
  show (fc y&&(decide (0<=k)&&decide (k<=999999)))=true
  rw [Tt y hy,decide_eq_true k0,decide_eq_true (by omega)];rfl
 have iW:xl.all (cM H)=true:=List.all_eq_true.mpr λx hx=>by
  obtain⟨y,hy,c,d,k,rfl,hc,hd,hk⟩:=cn Ll hx
  unfold cM
  rw [ak hc]
  show (fc y&&aV H 12 (λ_ x=>iS x) (.ref d))=true
  rw [dn y hy,Bool.true_and]
  unfold aV
  rw [ak hd]
  dsimp only
  rw [decide_eq_true (by rw [List.length_replicate];omega),Bool.true_and,List.all_eq_true]
  intro z hz
  rw [(List.mem_replicate.mp hz).2]
  decide
 have txt:∀{a:Addr} {ws:List Str},H a=some (.tup (ws.map V.str))->ws.length<=3->(∀x∈ws,fc x=true)->aV H 3 (λ_ x=>gH x) (.ref a)=true:=λ{a ws} ha hl hn=>by
  unfold aV
  rw [ak ha]
  dsimp only
  rw [decide_eq_true (by rw [List.length_map];exact hl),Bool.true_and,List.all_eq_true]
  intro z hz
  obtain⟨y,hy,rfl⟩:=List.mem_map.mp hz
  exact hn y hy
 have gC:xf.all (dy H)=true:=List.all_eq_true.mpr λx hx=>by
  obtain⟨y,hy,c,pa,oa,ra,j',k',ss,v,rfl,hc,jS,Jf,kj,GF,gp,_⟩:=cn i8 hx
  unfold dy
  rw [ak hc]
  show (fc y&&(aV H 3 (λ_ x=>gH x) (.ref pa)&&(aV H 3 (λ_ x=>gH x) (.ref oa)&&(bb H (.ref ra)).isSome)))=true
  rw [h.tm.2.1 y hy,txt jS (by rw [List.length_take];omega) dn,txt kj (by rw [List.length_take];omega) dn,ak gp]
  rfl
 have Qh:aV H 6 fI (.ref b)=true:=by
  unfold aV;rw [ak hb];dsimp only;rw [decide_eq_true (by omega),iV];rfl
 have Qi:aV H 3 cM (.ref l)=true:=by
  unfold aV;rw [ak hl];dsimp only;rw [decide_eq_true (by omega),iW];rfl
 have Qj:aV H 4 dy (.ref f)=true:=by
  unfold aV;rw [ak hf];dsimp only;rw [decide_eq_true (by omega),gC];rfl
 have Wv:(nms.take i++(nms.drop 3).take j).Nodup:=by
  have:=(LL (nms:=nms) (k':=0) hi hj (Nat.zero_le 2)).nodup h.nm.2.2
  rw [List.take_zero,List.take_zero,List.append_nil,List.append_nil] at this
  exact this
 have Ww:eE H (.ref b) (.ref l)=true:=by
  unfold eE
  rw [Qh,Qi,cY hb,cY hl,IV,MO,decide_eq_true Wv];rfl
 have Wx:dm H (aB H xb++aB H xl) (.ref f)=true:=by
  unfold dm
  rw [Qj,cY hf,Wu,decide_eq_true h.tm.2.2,Bool.true_and,Bool.true_and,List.all_eq_true]
  intro x hx
  obtain⟨y,hy,c,pa,oa,ra,j',k',ss,v,rfl,hc,jS,Jf,kj,GF,gp,_⟩:=cn i8 hx
  rw [dU hc jS kj,IV,MO]
  exact decide_eq_true ((LL hi hj Jf).nodup h.nm.2.2)
 have Wy:eG H xb xl xf (.ref r)=true:=by
  unfold eG
  rw [Bool.and_eq_true]
  refine⟨List.all_eq_true.mpr λx hx=>?_,?_⟩
  ·obtain⟨y,hy,c,pa,oa,ra,j',k',ss,v,rfl,hc,jS,Jf,kj,GF,gp,HU,d1,d2,rfl,Ds,hd2⟩:=cn i8 hx
   unfold i9
   have e4:dN H (.ref c)=.ref ra:=by unfold dN;rw [ak hc]
   rw [e4,dU hc jS kj,IV]
   unfold bM
   rw [ak gp]
   dsimp only
   rw [List.all_eq_true]
   intro z hz
   have mQ:∀x∈nms.take i++((nms.drop 5).take j'++(nms.drop 7).take k'),fc x=true:=λx hx=>by
    rcases List.mem_append.mp hx with hx|hx
    ·exact Tt x hx
    ·rcases List.mem_append.mp hx with hx|hx
     ·exact dn x hx
     ·exact dn x hx
   rcases List.mem_append.mp hz with hz|hz
   ·obtain⟨y2,AY,c1,c2,rfl,LC,rE⟩:=cn HU hz
    exact Er LC mQ (List.mem_append_right _ (List.mem_append_right _ AY)) (xY rE (by decide) (by decide))
   ·rw [List.mem_singleton] at hz
    subst hz
    exact FC Ds rfl rfl (by decide) (xY hd2 (by decide) (by decide))
  ·unfold bM
   rw [ak hr]
   dsimp only
   rw [List.all_eq_true]
   intro z hz
   obtain⟨y,hy,c,d,rfl,hc,hd⟩:=cn Qg hz
   exact FC hc rfl rfl (by decide) (Ep hd (by rw [IV];exact hy))
 have XZ:total H (.ref f) (.ref r)<=60:=by
  unfold total
  rw [cY hf,cY hr]
  have h1:cnt H 5 xr=xr.length:=oI λv hv=>by
   obtain⟨y,hy,c,d,rfl,hc,hd⟩:=cn Qg hv
   exact FD hc rfl
  have h2:gI H xf<=xf.length*4:=by
   have go:∀{xs:List V},(∀x∈xs,1+cnt H 5 (hV H x)<=4)->gI H xs<=xs.length*4:=λ{xs}=>by
    induction xs with
    |nil=>intro _;exact Nat.zero_le _
    |cons x t ih=>
     intro hx
     show ((x::t).map λf=>1+cnt H 5 (hV H f)).sum<=_
     rw [List.map_cons,List.sum_cons,List.length_cons,Nat.succ_mul]
     have:=hx x List.mem_cons_self
     have h3:(t.map λf=>1+cnt H 5 (hV H f)).sum<=t.length*4:=ih λy hy=>hx y (List.mem_cons_of_mem _ hy)
     omega
   refine go λx hx=>?_
   obtain⟨y,hy,c,pa,oa,ra,j',k',ss,v,rfl,hc,jS,Jf,kj,GF,gp,HU,d1,d2,rfl,Ds,hd2⟩:=cn i8 hx
   rw [jz hc gp,oI λv hv=>?_]
   ·have:ss.length<=2:=by rw [HU.length,List.length_take];omega
    rw [List.length_append,List.length_singleton];omega
   ·rcases List.mem_append.mp hv with hv|hv
    ·obtain⟨y2,AY,c1,c2,rfl,LC,rE⟩:=cn HU hv
     exact Es LC
    ·rw [List.mem_singleton] at hv
     subst hv
     exact FD Ds rfl
  have h3:xr.length<=3:=by rw [Qg.length,List.length_take];omega
  omega
 unfold bo.verdict
 rw [Ww,if_neg Bool.noConfusion,cY hb,cY hl,Wx,if_neg Bool.noConfusion,ak hr,if_neg (c:=some xr=none) (Option.some_ne_none _),cY hf,Wy,if_neg Bool.noConfusion,if_neg (by omega)]
end
section
variable {p:Addr} {H H':Hp}
theorem ua{b l f r:V}(hs:∀x ∈ [b,l,f,r],SE p H x):∃n,Dt p H n b/\Dt p H n l/\Dt p H n f/\Dt p H n r/\total H f r<=1000000:=by
 obtain⟨n,hn⟩:=oF hs
 exact⟨n,(hn b (by simp)).dt,(hn l (by simp)).dt,(hn f (by simp)).dt,(hn r (by simp)).dt,tX (hn f (by simp)) (hn r (by simp))⟩
theorem lz{x:V}(h:SE p H x):Alike H' 1 x x:=by
 obtain⟨n,h⟩:=h
 cases n with
 |zero=>exact h.elim
 |succ n=>
  refine .inl ⟨rfl,?_⟩
  cases x with
  |ref a=>exact .inr ⟨a,rfl⟩
  |eh=>exact .inl rfl
  |bl _=>exact .inl rfl
  |int _=>exact .inl rfl
  |str _=>exact .inl rfl
  |_=>exact h.elim
theorem rB{t u:Addr}{b l f r:V}(hs:∀x ∈ [b,l,f,r],SE p H x)(ht:H' t=some (.tup [b,l,f,r]))(hu:H' u=some (.tup [b,l,f,r])):Paired (Alike H' 2) [.ref t] [.ref u]:=
 .cons (.inr ⟨t,u,_,_,rfl,rfl,ht,hu,.cons (lz (hs b (by simp))) (.cons (lz (hs l (by simp))) (.cons (lz (hs f (by simp))) (.cons (lz (hs r (by simp))) .nil)))⟩) .nil
theorem B7{v:Nat}(h:v=0\/v=1\/v=2\/v=3)(e:tT v=""):v=0:=by
 rcases h with rfl|rfl|rfl|rfl
 ·rfl
 all_goals exact absurd e (by decide)
variable {b l f r:Addr} {nms ts:List Str} {i j:Nat}
theorem rm.se(h:rm H b l f r nms ts i j):∀x ∈ [V.ref b,.ref l,.ref f,.ref r],SE p H x:=λx hx=>by
 simp only [List.mem_cons,List.not_mem_nil,or_false] at hx
 rcases hx with rfl|rfl|rfl|rfl
 ·exact ia (by decide) (h.Fy.imp λ_ z=>z.1)
 ·exact ia (by decide) (h.lists.imp λ_ z=>z.1)
 ·exact ia (by decide) (h.ib.imp λ_ z=>z.1)
 ·exact ia (by decide) h.rows
end
theorem HZ{p:Addr}{H0 H H':Hp}(hp:H0 p=none)(s:ax H0 H)(e:Ext p H H'):ax H0 H':=λb o h=>e.but b o (aL h hp) (s b o h)
seal L2.PE L2.PS L2.gi L2.PT L2.PW L2.PA L2.PG L2.ja L2.PI L2.PO L2.eD L2.PC L2.eJ L2.bI L2.gj L2.jb L2.eU L2.je
section
variable {P:Program} {w:World} {K:PySem.W.Frag} {mg:Str->Option Value} {base:Heap}
theorem kr:aO ["_law_script","_law_good","_law_state_here","_law_turn","_law_parts","_law_due"] ["_law_script"] (ao (top 84)):=⟨rfl,rfl,rfl,by decide +kernel,rfl,by decide +kernel,by decide +kernel⟩
def xZ(K:PySem.W.Frag):Sp:=λvs H Q _=>∃(a:Addr) (ns:List Int),vs = [.ref a]/\bX K H a (ns.map V.int)/\∀H',Q (.bl true) H'
theorem LM(T:Txt w K mg)(qe:Def P w K mg base 1 "_law_cell_at" ["_law_script","_law_k"] (AW K))(x9:Def P w K mg base 1 "_law_state" ["_law_cell","_law_k"] xh)(Et:Def P w K mg base 3 "_law_small" ["_law_state_here"] xR)
  (rC:Def P w K mg base 29 "_law_told" ["_law_parts"] BG) (Ic:Def P w K mg base 4 "_law_more" ["_law_parts","_law_state_here"] B4) (Ie:Def P w K mg base 23 "_law_kind" ["_law_boxes","_law_lists","_law_functions","_law_rows"] xJ)
  {f:Addr} {fd:FuncData} (F:EU K "law" "law" (top 84) f fd):g7 P w K mg base rZ 30 f fd ["_law_script"] (xZ K):=by
 refine F.ok kr (λvs H Q E h=>?_) (λcD A outer s H vs Q E hr h=>?_)
 ·obtain⟨a,ns,rfl,_⟩:=h;rfl
 obtain⟨a,ns,rfl,hS,q⟩:=h
 refine⟨_,(ai (aS (i:=1) kr.nd rfl (Or.inl rfl) (aw (Et.mono (by decide)) hr rfl (aq (aw (x9.mono (by decide)) hr rfl (aq (aw (qe.mono (by decide)) hr rfl (aq (pv 0) (aq ag aa))) (aq ag aa))) aa)))
   (ai (aS (i:=2) kr.nd rfl (Or.inl rfl) (aw (x9.mono (by decide)) hr rfl (aq (aw (qe.mono (by decide)) hr rfl (aq (pv 0) (aq ag aa))) (aq ag aa))))
   (ai (aX (aQ (vh hr.units) (aw (rC) hr rfl (aq (pv 1) aa)) (bN (aq (pv 1) aa)) (aP _))
   (aj (aC cW)) aI)
   (ai (dO PassesOwn.never rfl (iq rfl T.kR (bq [.int 5] (by rfl))) (aM (i:=3) kr.nd rfl (Or.inl rfl))
   (ai (aS (i:=4) kr.nd rfl (Or.inl rfl) (aw (Ic.mono (by decide)) hr rfl (aq (pv 1) (aq (pv 2) aa))))
   (ai (aS (i:=5) kr.nd rfl (Or.inl rfl) (aw (Ie.mono (by decide)) hr rfl (aq (aJ aG (pv 4) ag (λ_ _=>rfl)) (aq (aJ aG (pv 4) ag (λ_ _=>rfl)) (aq (aJ aG (pv 4) ag (λ_ _=>rfl)) (aq (aJ aG (pv 4) ag (λ_ _=>rfl)) aa))))))
   (cE (aX (aQ cA (pv 5) aD (aP _))
   (aj (aS (i:=5) kr.nd rfl (Or.inl rfl) (bN (aq (pv 4) aa)))) aI)
   (aj (aX (cN (PW.pt (dX (aQ ((vh hr.units).or ji) (aw (rC) hr rfl (aq (pv 4) aa)) (pv 5) (aP _)) (dG (aQ ((vh hr.units).or ji) (aw (rC) hr rfl (aq (pv 4) aa)) (pv 5) (aP _))))))
   (aj (aC cW)) aI))))))
   (aj (aC (bT (GD hr.units) (aw (rC) hr rfl (aq (pv 1) aa)) (bN (aq (pv 1) aa)) (aP _)))))))),?_⟩
 try dsimp only [gQ]
 have z1:(1:Nat)<=sizeLine:=j7 (by decide)
 refine⟨_,rfl,a,ns,0,rfl,hS,by decide,λi0=>⟨i0,1,rfl,by decide,by decide,λp n hp n0 n1=>?_⟩⟩
 have s1:=ah hp (.lst [.int n])
 refine⟨p,rfl,⟨n,ae,n0,n1⟩,λt b l f r nms ts i j H2 e2 mz Wz=>?_⟩
 have s2:=HZ hp s1 e2
 refine⟨_,rfl,a,ns,1,rfl,ax.seq s2 hS,by decide,λi1=>⟨i1,2,rfl,by decide,by decide,λp2 n2 uM WA WB=>?_⟩⟩
 have s3:=ah uM (.lst [.int n2])
 have g3:Gen p2 (upd H2 p2 (.lst [.int n2])):=⟨n2,ae,WA,WB⟩
 have Jd:=s3 _ _ mz
 have HK:=Wz.tk (TK.of s3)
 generalize upd H2 p2 (.lst [.int n2])=H3 at s3 g3 Jd HK
 obtain⟨m1,WC,WD,WE,WG,WH⟩:=ua (p:=p2) HK.se
 refine⟨_,rfl,_,p2,m1,_,_,_,_,rfl,Jd,WC,WD,WE,WG,WH,(λ_ u pr H4 s4 hu sJ=>?_),(λv=>absurd HK.verdict v)⟩
 refine⟨_,rfl,z1,λc hc=>?_⟩
 have s5:=s4.trans (ah hc (.lst [.ref t]))
 refine⟨u,c,_,_,2,rfl,rfl,bX.of (ah hc _ _ _ hu),bX.of ae,by decide,rB (HK.se (p:=p2)) (ah hc _ _ _ sJ) (s5 _ _ Jd),_,rfl,dM rfl ?_⟩
 have g5:=g3.same s5
 have Tu:=s5 _ _ Jd
 have Tv:=HK.tk (TK.of s5)
 generalize upd H4 c (.lst [.ref t])=H5 at s5 g5 Tu Tv
 refine⟨5,rfl,by decide,by decide,?_⟩
 refine ir (n:=5) (λk σ H'=>∃(x3 x4 x5:Option V),σ = [some (.ref a),some (.ref t),some (.ref p2),x3,x4,x5]/\Gen p2 H'/\H' t=some (.tup [.ref b,.ref l,.ref f,.ref r])/\rm H' b l f r nms ts i j) ⟨_,_,_,rfl,g5,Tu,Tv⟩ ?_ ?_
 ·rintro k σ H6 hk ⟨x3,x4,x5,rfl,g6,Cn,Fu⟩
  refine⟨_,rfl,_,rfl,t,p2,b,l,f,r,nms,ts,i,j,rfl,g6,Cn,Fu,λv H7 e7 r7=>?_⟩
  obtain⟨c',b',l',f',r',rfl,mw,sb,sl,sf,sr⟩:=r7
  have hs:∀x ∈ [b',l',f',r'],SE p2 H7 x:=λx hx=>by
   simp only [List.mem_cons,List.not_mem_nil,or_false] at hx
   rcases hx with rfl|rfl|rfl|rfl<;>assumption
  obtain⟨m,hm⟩:=oF hs
  have db:=(hm b' (by simp)).dt
  have dl:=(hm l' (by simp)).dt
  have df:=(hm f' (by simp)).dt
  have dr:=(hm r' (by simp)).dt
  have t7:=Ext.tk g6 e7
  refine⟨_,rfl,c',_,0,_,rfl,rfl,aR.of mw,au (j:=0) rfl,_,rfl,c',_,1,_,rfl,rfl,aR.of mw,au (j:=1) rfl,_,rfl,c',_,2,_,rfl,rfl,aR.of mw,au (j:=2) rfl,_,rfl,c',_,3,_,rfl,rfl,aR.of mw,au (j:=3) rfl,b',l',f',r',p2,m,rfl,db,dl,df,dr,λH8 s8=>?_⟩
  refine⟨λσ H'=>∃M8,σ = [some (.ref a),some (.ref t),some (.ref p2),some (.int (0+k)),some (.ref c'),some M8]/\ax H7 H'/\((verdict H7 b' l' f' r'=0/\∃u,M8=.ref u/\H' u=some (.lst [.ref c']))\/(verdict H7 b' l' f' r'≠0/\M8=.str (tT (verdict H7 b' l' f' r')))),?_,?_⟩
  ·refine⟨_,rfl,rfl,_,rfl,bZ (λc=>?_) (λc=>?_)⟩
   ·have c0:V.str (tT (verdict H7 b' l' f' r'))=V.str "":=of_decide_eq_true c
    injection c0 with c0
    exact⟨_,rfl,z1,λu hu=>⟨_,rfl,s8.trans (ah hu _),.inl ⟨B7 (wb _ _ _ _ _) c0,u,rfl,ae⟩⟩⟩
   ·exact⟨_,rfl,s8,.inr ⟨λz=>c (by rw [z];rfl),rfl⟩⟩
  rintro σ H9 ⟨M8,rfl,s9,hd⟩
  have Qk:∀{H':Hp},ax H7 H'->∀x ∈ [b',l',f',r'],SE p2 H' x:=λs x hx=>⟨m,(hm x hx).same s⟩
  have vs:∀{H':Hp},ax H7 H'->verdict H' b' l' f' r'=verdict H7 b' l' f' r':=λs=>rh s db dl df dr
  refine⟨λtt H'=>ax H7 H'/\tt=false,?_,?_⟩
  ·obtain⟨m2,WI,WJ,WK,WL,WM⟩:=ua (p:=p2) (Qk s9)
   refine⟨_,rfl,_,p2,m2,_,_,_,_,rfl,(s9 _ _ mw),WI,WJ,WK,WL,WM,(λv0 u pr pb lR hu sJ=>?_),(λv1 pb lR=>?_)⟩
   ·have mD:=s9.trans lR
    rcases hd with ⟨w0,ud,rfl,Tw⟩|⟨w1,_⟩
    ·refine⟨_,rfl,.inl ⟨u,ud,_,_,2,rfl,rfl,bX.of hu,bX.of (lR _ _ Tw),by decide,rB hs sJ (mD _ _ mw),_,rfl,dM rfl ?_⟩⟩
     obtain⟨m3,WN,WO,WQ,WR,WS⟩:=ua (p:=p2) (Qk mD)
     refine⟨_,rfl,_,p2,m3,_,_,_,_,rfl,(mD _ _ mw),WN,WO,WQ,WR,WS,(λv0 u2 X0 xM tU kN Ql=>?_),(λv1=>absurd ((vs mD).trans w0) v1)⟩
     exact⟨_,rfl,.inl ⟨u2,ud,_,_,2,rfl,rfl,bX.of kN,bX.of (tU _ _ (lR _ _ Tw)),by decide,rB hs Ql (tU _ _ (mD _ _ mw)),_,rfl,mD.trans tU,rfl⟩⟩
    ·exact absurd ((vs s9).symm.trans v0) w1
   ·have mD:=s9.trans lR
    rcases hd with ⟨w0,_⟩|⟨w1,rfl⟩
    ·exact absurd ((vs s9).trans w0) v1
    ·rw [vs s9]
     refine⟨_,rfl,.inr ⟨rfl,_,rfl,dM (by rw [decide_eq_true rfl];rfl) ?_⟩⟩
     obtain⟨m4,WT,WU,WV,WW,WX⟩:=ua (p:=p2) (Qk mD)
     refine⟨_,rfl,_,p2,m4,_,_,_,_,rfl,(mD _ _ mw),WT,WU,WV,WW,WX,(λv0=>absurd ((vs mD).symm.trans v0) w1),(λv1 xM tU=>?_)⟩
     rw [vs mD]
     exact⟨_,rfl,.inr ⟨rfl,_,rfl,mD.trans tU,by rw [decide_eq_true rfl];rfl⟩⟩
  rintro tt pb ⟨lR,rfl⟩
  exact dM rfl ⟨_,_,_,rfl,e7.gen.same lR,(TK.of lR) _ _ (t7 _ _ Cn),(Fu.tk t7).tk (TK.of lR)⟩
 ·rintro σ H6 ⟨x3,x4,x5,rfl,g6,Cn,Fu⟩
  obtain⟨m5,WY,WZ,W0,W2,W3⟩:=ua (p:=p2) Fu.se
  refine⟨_,rfl,_,p2,m5,_,_,_,_,rfl,Cn,WY,WZ,W0,W2,W3,(λ_ u pr H7 s7 hu sJ=>?_),(λv=>absurd Fu.verdict v)⟩
  refine⟨_,rfl,z1,λc hc=>?_⟩
  have s8:=s7.trans (ah hc (.lst [.ref t]))
  exact⟨u,c,_,_,2,rfl,rfl,bX.of (ah hc _ _ _ hu),bX.of ae,by decide,rB (Fu.se (p:=p2)) (ah hc _ _ _ sJ) (s8 _ _ Cn),q _⟩
end
end bo
namespace bo
open PySem L2
section
variable {w:World} {K:PySem.W.Frag} {mg:Str->Option Value} {h:Heap}
theorem aZ{x:Str}{st:Stmt}{ps:List Str}{f:Addr}{oc:Value}{od an:Option Addr}{uC:Array (Option Value)}{kV doc pm cD ct:Value}(X:K.In h)(G:h.Ns mainGlobals mg)
  (hb:∀(kV doc pm:Value) (an:Option Addr) (cD ct:Value) (us:List Value),us.length=ps.length->bindArgs (PySem.W.fnOf x x (fA st) (dv st) (ao st) .none kV doc pm an cD ct) ⟨us,[]⟩=pure (ps.zip us))
  (a:PySem.W.nsIn K mainGlobals x=some (some (.ref f))) (l:K.lookup f=some ⟨oc,od,.func (PySem.W.fnOf x x (fA st) (dv st) (ao st) .none kV doc pm an cD ct),uC⟩)
  (c:PySem.W.codeIn K cD x=true) (k:PySem.W.keepIn K (.ref f)=true):Src K mg x st ps:=
 have F:=uK (st:=st) l c k
 ⟨f,_,F,PySem.W.mg_of X G a,F.binds hb⟩
theorem Eu{qual:Str}{st:Stmt}{ps:List Str}{C f:Addr}{oc:Value}{od an:Option Addr}{uC:Array (Option Value)}{kV doc pm cD ct:Value}
  (hb:∀(kV doc pm:Value) (an:Option Addr) (cD ct:Value) (us:List Value),us.length=ps.length->bindArgs (PySem.W.fnOf "__init__" qual (fA st) (dv st) (ao st) .none kV doc pm an cD ct) ⟨us,[]⟩=pure (ps.zip us))
  (a:PySem.W.findIn K (.ref C) "__init__"=some (some (.ref f))) (i:PySem.W.isFn K (.ref f)=true) (l:K.lookup f=some ⟨oc,od,.func (PySem.W.fnOf "__init__" qual (fA st) (dv st) (ao st) .none kV doc pm an cD ct),uC⟩)
  (c:PySem.W.codeIn K cD qual=true) (k:PySem.W.keepIn K (.ref f)=true) (mk:PySem.W.makesIn K C=true) (kc:PySem.W.keepIn K (.ref C)=true):AL K C qual st ps:=
 have F:=uK (st:=st) l c k
 ⟨f,_,F,⟨mk,a,i,kc⟩,F.binds hb⟩
def BI(i:Nat)(n:Str)(ps:List Str):Prop:=∀(kV doc pm:Value) (an:Option Addr) (cD ct:Value) (us:List Value),us.length=ps.length->bindArgs (PySem.W.fnOf n n (fA (top i)) (dv (top i)) (ao (top i)) .none kV doc pm an cD ct) ⟨us,[]⟩=pure (ps.zip us)
theorem Qm:BI 14 "has_word" ["thing"]:=λ_ _ _ _ _ _ us h=>match us,h with| [_],_=>rfl
theorem Qn:BI 15 "value_kinds" ["word"]:=λ_ _ _ _ _ _ us h=>match us,h with| [_],_=>rfl
theorem Qo:BI 16 "row_kinds" ["word"]:=λ_ _ _ _ _ _ us h=>match us,h with| [_],_=>rfl
theorem Qp:BI 17 "parts_within" ["row"]:=λ_ _ _ _ _ _ us h=>match us,h with| [_],_=>rfl
theorem Qq:BI 20 "rows_of" ["program"]:=λ_ _ _ _ _ _ us h=>match us,h with| [_],_=>rfl
theorem Qr:BI 21 "add_rows" ["triples","rows","around"]:=λ_ _ _ _ _ _ us h=>match us,h with| [_,_,_],_=>rfl
theorem Qs:BI 26 "is_name" ["thing"]:=λ_ _ _ _ _ _ us h=>match us,h with| [_],_=>rfl
theorem Qt:BI 27 "is_whole" ["thing","least","most"]:=λ_ _ _ _ _ _ us h=>match us,h with| [_,_,_],_=>rfl
theorem Qu:BI 28 "is_number" ["thing"]:=λ_ _ _ _ _ _ us h=>match us,h with| [_],_=>rfl
theorem Qv:BI 29 "is_value" ["thing","boxes","lists"]:=λ_ _ _ _ _ _ us h=>match us,h with| [_,_,_],_=>rfl
theorem Qw:BI 30 "is_value_within" ["thing","boxes","lists","depth"]:=λ_ _ _ _ _ _ us h=>match us,h with| [_,_,_,_],_=>rfl
theorem Qx:BI 31 "is_part" ["kind","part","boxes","lists","depth"]:=λ_ _ _ _ _ _ us h=>match us,h with| [_,_,_,_,_],_=>rfl
theorem Qy:BI 41 "program_of" ["boxes","lists","functions","rows"]:=λ_ _ _ _ _ _ us h=>match us,h with| [_,_,_,_],_=>rfl
theorem Qz:BI 42 "check_variables" ["boxes","lists"]:=λ_ _ _ _ _ _ us h=>match us,h with| [_,_],_=>rfl
theorem QA:BI 43 "check_functions" ["functions","taken"]:=λ_ _ _ _ _ _ us h=>match us,h with| [_,_],_=>rfl
theorem QB:BI 44 "check_rows" ["program"]:=λ_ _ _ _ _ _ us h=>match us,h with| [_],_=>rfl
theorem QC:BI 45 "is_tuple_of" ["thing","most","is_one"]:=λ_ _ _ _ _ _ us h=>match us,h with| [_,_,_],_=>rfl
theorem QD:BI 46 "is_pair" ["thing"]:=λ_ _ _ _ _ _ us h=>match us,h with| [_],_=>rfl
theorem QE:BI 47 "is_box" ["thing"]:=λ_ _ _ _ _ _ us h=>match us,h with| [_],_=>rfl
theorem QF:BI 48 "is_list" ["thing"]:=λ_ _ _ _ _ _ us h=>match us,h with| [_],_=>rfl
theorem QG:BI 49 "is_function" ["thing"]:=λ_ _ _ _ _ _ us h=>match us,h with| [_],_=>rfl
theorem QH:BI 50 "names_of" ["things"]:=λ_ _ _ _ _ _ us h=>match us,h with| [_],_=>rfl
theorem QI:BI 51 "own_names" ["function"]:=λ_ _ _ _ _ _ us h=>match us,h with| [_],_=>rfl
theorem QJ:BI 52 "are_unlike" ["names"]:=λ_ _ _ _ _ _ us h=>match us,h with| [_],_=>rfl
theorem QK:BI 53 "are_rows" ["rows","scope","depth"]:=λ_ _ _ _ _ _ us h=>match us,h with| [_,_,_],_=>rfl
theorem QL:BI 54 "is_row" ["row","scope","depth"]:=λ_ _ _ _ _ _ us h=>match us,h with| [_,_,_],_=>rfl
theorem QM:BI 55 "is_row_part" ["kind","part","scope","depth"]:=λ_ _ _ _ _ _ us h=>match us,h with| [_,_,_,_],_=>rfl
theorem QN:BI 57 "_law_cell_at" ["_law_script","_law_k"]:=λ_ _ _ _ _ _ us h=>match us,h with| [_,_],_=>rfl
theorem QO:BI 58 "_law_state" ["_law_cell","_law_k"]:=λ_ _ _ _ _ _ us h=>match us,h with| [_,_],_=>rfl
theorem QP:BI 59 "_law_next" ["_law_state_here","_law_size"]:=λ_ _ _ _ _ _ us h=>match us,h with| [_,_],_=>rfl
theorem QQ:BI 60 "_law_names" ["_law_state_here","_law_amount"]:=λ_ _ _ _ _ _ us h=>match us,h with| [_,_],_=>rfl
theorem QR:BI 61 "_law_is_name" ["_law_thing"]:=λ_ _ _ _ _ _ us h=>match us,h with| [_],_=>rfl
theorem QS:BI 62 "_law_is_number" ["_law_thing"]:=λ_ _ _ _ _ _ us h=>match us,h with| [_],_=>rfl
theorem QT:BI 63 "_law_among" ["_law_thing","_law_names_here"]:=λ_ _ _ _ _ _ us h=>match us,h with| [_,_],_=>rfl
theorem QU:BI 64 "_law_is_value" ["_law_thing","_law_boxes","_law_lists","_law_deep_here"]:=λ_ _ _ _ _ _ us h=>match us,h with| [_,_,_,_],_=>rfl
theorem QV:BI 65 "_law_are_rows" ["_law_thing","_law_names_here","_law_deep_here"]:=λ_ _ _ _ _ _ us h=>match us,h with| [_,_,_],_=>rfl
theorem QW:BI 66 "_law_is_row" ["_law_thing","_law_names_here","_law_deep_here"]:=λ_ _ _ _ _ _ us h=>match us,h with| [_,_,_],_=>rfl
theorem QX:BI 67 "_law_fits" ["_law_kind_here","_law_part","_law_names_here","_law_deep_here"]:=λ_ _ _ _ _ _ us h=>match us,h with| [_,_,_,_],_=>rfl
theorem QY:BI 68 "_law_all" ["_law_thing","_law_most","_law_good"]:=λ_ _ _ _ _ _ us h=>match us,h with| [_,_,_],_=>rfl
theorem QZ:BI 69 "_law_named" ["_law_thing","_law_size"]:=λ_ _ _ _ _ _ us h=>match us,h with| [_,_],_=>rfl
theorem Q0:BI 70 "_law_is_box" ["_law_thing"]:=λ_ _ _ _ _ _ us h=>match us,h with| [_],_=>rfl
theorem Q1:BI 71 "_law_is_list" ["_law_thing"]:=λ_ _ _ _ _ _ us h=>match us,h with| [_],_=>rfl
theorem Q2:BI 72 "_law_is_function" ["_law_thing"]:=λ_ _ _ _ _ _ us h=>match us,h with| [_],_=>rfl
theorem Q3:BI 73 "_law_unlike" ["_law_names_here"]:=λ_ _ _ _ _ _ us h=>match us,h with| [_],_=>rfl
theorem Q4:BI 74 "_law_count" ["_law_rows"]:=λ_ _ _ _ _ _ us h=>match us,h with| [_],_=>rfl
theorem Q5:BI 75 "_law_kind" ["_law_boxes","_law_lists","_law_functions","_law_rows"]:=λ_ _ _ _ _ _ us h=>match us,h with| [_,_,_,_],_=>rfl
theorem Q6:BI 76 "_law_class" ["_law_e"]:=λ_ _ _ _ _ _ us h=>match us,h with| [_],_=>rfl
theorem Q7:BI 77 "_law_deep" ["_law_row","_law_count_here","_law_box","_law_state_here"]:=λ_ _ _ _ _ _ us h=>match us,h with| [_,_,_,_],_=>rfl
theorem Q8:BI 78 "_law_bad_row" ["_law_parts","_law_state_here"]:=λ_ _ _ _ _ _ us h=>match us,h with| [_,_],_=>rfl
theorem Q9:BI 79 "_law_other_function" ["_law_one","_law_names_here","_law_bad","_law_state_here"]:=λ_ _ _ _ _ _ us h=>match us,h with| [_,_,_,_],_=>rfl
theorem Ra:BI 80 "_law_other_stores" ["_law_boxes","_law_lists","_law_state_here"]:=λ_ _ _ _ _ _ us h=>match us,h with| [_,_,_],_=>rfl
theorem Rb:BI 81 "_law_more" ["_law_parts","_law_state_here"]:=λ_ _ _ _ _ _ us h=>match us,h with| [_,_],_=>rfl
theorem Rc:BI 82 "_law_small" ["_law_state_here"]:=λ_ _ _ _ _ _ us h=>match us,h with| [_],_=>rfl
theorem Rf:BI 83 "_law_told" ["_law_parts"]:=λ_ _ _ _ _ _ us h=>match us,h with| [_],_=>rfl
theorem W4(kV doc pm:Value)(an:Option Addr)(cD ct:Value)(us:List Value)(hl:us.length=(["self","boxes","lists","param_counts","may_return"]:List Str).length):bindArgs (PySem.W.fnOf "__init__" "Scope.__init__" (fA (IL 0)) (dv (IL 0)) (ao (IL 0)) .none kV doc pm an cD ct) ⟨us,[]⟩=pure ((["self","boxes","lists","param_counts","may_return"]:List Str).zip us):=
 match us,hl with| [_,_,_,_,_],_=>rfl
theorem Ig{a a0 a1 a2 a3 a4 a5 a6 a7 a8 a9 Ew Ey:Addr}{h0 h1 h2 h3 h4 h5 h6 h7 h8 h9 pP vT:Int}{t0 t1 t2 t3 t4 t5 t6 t7 t8 t9 Ih LN:Tok}{n:Nat}(l:K.lookup a=some ⟨.type "dict",none,.dict #[⟨h0,.str "number" t0,.ref a0⟩,⟨h1,.str "box" t1,.ref a1⟩,⟨h2,.str "plus" t2,.ref a2⟩,⟨h3,.str "minus" t3,.ref a3⟩,⟨h4,.str "times" t4,.ref a4⟩,⟨h5,.str "over" t5,.ref a5⟩,⟨h6,.str "rest" t6,.ref a6⟩,⟨h7,.str "less" t7,.ref a7⟩,⟨h8,.str "same" t8,.ref a8⟩,⟨h9,.str "not" t9,.ref a9⟩,⟨pP,.str "item" Ih,.ref Ew⟩,⟨vT,.str "size" LN,.ref Ey⟩] n,#[]⟩)(lo:(a == sysModules)=false)
  (e0:h0=PyData.keyHash w.params "number")
  (e1:h1=PyData.keyHash w.params "box")
  (e2:h2=PyData.keyHash w.params "plus")
  (e3:h3=PyData.keyHash w.params "minus")
  (e4:h4=PyData.keyHash w.params "times")
  (e5:h5=PyData.keyHash w.params "over")
  (e6:h6=PyData.keyHash w.params "rest")
  (e7:h7=PyData.keyHash w.params "less")
  (e8:h8=PyData.keyHash w.params "same")
  (e9:h9=PyData.keyHash w.params "not")
  (e10:pP=PyData.keyHash w.params "item")
  (e11:vT=PyData.keyHash w.params "size")
  {o0:Obj} (l0:K.lookup a0=some o0) (c0:o0.cls=.type "tuple") {m0:Nat} {Rg:Tok} (d0:o0.data=.seq #[.str "number" Rg] m0)
  {o1:Obj} (l1:K.lookup a1=some o1) (c1:o1.cls=.type "tuple") {m1:Nat} {Rh:Tok} (d1:o1.data=.seq #[.str "box" Rh] m1)
  {o2:Obj} (l2:K.lookup a2=some o2) (c2:o2.cls=.type "tuple") {m2:Nat} {Ri Rj:Tok} (d2:o2.data=.seq #[.str "value" Ri,.str "value" Rj] m2)
  {o3:Obj} (l3:K.lookup a3=some o3) (c3:o3.cls=.type "tuple") {m3:Nat} {Rk Rm:Tok} (d3:o3.data=.seq #[.str "value" Rk,.str "value" Rm] m3)
  {o4:Obj} (l4:K.lookup a4=some o4) (c4:o4.cls=.type "tuple") {m4:Nat} {Rn Ro:Tok} (d4:o4.data=.seq #[.str "value" Rn,.str "value" Ro] m4)
  {o5:Obj} (l5:K.lookup a5=some o5) (c5:o5.cls=.type "tuple") {m5:Nat} {Rp W5:Tok} (d5:o5.data=.seq #[.str "value" Rp,.str "value" W5] m5)
  {o6:Obj} (l6:K.lookup a6=some o6) (c6:o6.cls=.type "tuple") {m6:Nat} {Rq Rr:Tok} (d6:o6.data=.seq #[.str "value" Rq,.str "value" Rr] m6)
  {o7:Obj} (l7:K.lookup a7=some o7) (c7:o7.cls=.type "tuple") {m7:Nat} {Rt Ru:Tok} (d7:o7.data=.seq #[.str "value" Rt,.str "value" Ru] m7)
  {o8:Obj} (l8:K.lookup a8=some o8) (c8:o8.cls=.type "tuple") {m8:Nat} {Rv Rw:Tok} (d8:o8.data=.seq #[.str "value" Rv,.str "value" Rw] m8)
  {o9:Obj} (l9:K.lookup a9=some o9) (c9:o9.cls=.type "tuple") {m9:Nat} {Rx:Tok} (d9:o9.data=.seq #[.str "value" Rx] m9)
  {Ez:Obj} (l10:K.lookup Ew=some Ez) (c10:Ez.cls=.type "tuple") {m10:Nat} {Ii Ij:Tok} (d10:Ez.data=.seq #[.str "list" Ii,.str "value" Ij] m10)
  {EA:Obj} (l11:K.lookup Ey=some EA) (c11:EA.cls=.type "tuple") {LO:Nat} {Ik:Tok} (d11:EA.data=.seq #[.str "list" Ik] LO)
  : sD w K a cR:=by
 have nz:∀{x y:Str},x≠y->(y == x)=false:=λh=>by simpa using λz=>h z.symm
 refine⟨⟨_,n,l,⟨⟨_,_,rfl,e0⟩,⟨_,_,rfl,e1⟩,⟨_,_,rfl,e2⟩,⟨_,_,rfl,e3⟩,⟨_,_,rfl,e4⟩,⟨_,_,rfl,e5⟩,⟨_,_,rfl,e6⟩,⟨_,_,rfl,e7⟩,⟨_,_,rfl,e8⟩,⟨_,_,rfl,e9⟩,⟨_,_,rfl,e10⟩,⟨_,_,rfl,e11⟩,trivial⟩,λx=>?_⟩,lo⟩
 by_cases q0:x="number"
 ·subst q0
  exact⟨a0,by rfl,o0,_,m0,l0,c0,d0,(by show 1<=sizeLine;decide),.cons ⟨_,rfl⟩ (.nil)⟩
 by_cases q1:x="box"
 ·subst q1
  exact⟨a1,by rfl,o1,_,m1,l1,c1,d1,(by show 1<=sizeLine;decide),.cons ⟨_,rfl⟩ (.nil)⟩
 by_cases q2:x="plus"
 ·subst q2
  exact⟨a2,by rfl,o2,_,m2,l2,c2,d2,(by show 2<=sizeLine;decide),.cons ⟨_,rfl⟩ (.cons ⟨_,rfl⟩ (.nil))⟩
 by_cases q3:x="minus"
 ·subst q3
  exact⟨a3,by rfl,o3,_,m3,l3,c3,d3,(by show 2<=sizeLine;decide),.cons ⟨_,rfl⟩ (.cons ⟨_,rfl⟩ (.nil))⟩
 by_cases q4:x="times"
 ·subst q4
  exact⟨a4,by rfl,o4,_,m4,l4,c4,d4,(by show 2<=sizeLine;decide),.cons ⟨_,rfl⟩ (.cons ⟨_,rfl⟩ (.nil))⟩
 by_cases q5:x="over"
 ·subst q5
  exact⟨a5,by rfl,o5,_,m5,l5,c5,d5,(by show 2<=sizeLine;decide),.cons ⟨_,rfl⟩ (.cons ⟨_,rfl⟩ (.nil))⟩
 by_cases q6:x="rest"
 ·subst q6
  exact⟨a6,by rfl,o6,_,m6,l6,c6,d6,(by show 2<=sizeLine;decide),.cons ⟨_,rfl⟩ (.cons ⟨_,rfl⟩ (.nil))⟩
 by_cases q7:x="less"
 ·subst q7
  exact⟨a7,by rfl,o7,_,m7,l7,c7,d7,(by show 2<=sizeLine;decide),.cons ⟨_,rfl⟩ (.cons ⟨_,rfl⟩ (.nil))⟩
 by_cases q8:x="same"
 ·subst q8
  exact⟨a8,by rfl,o8,_,m8,l8,c8,d8,(by show 2<=sizeLine;decide),.cons ⟨_,rfl⟩ (.cons ⟨_,rfl⟩ (.nil))⟩
 by_cases q9:x="not"
 ·subst q9
  exact⟨a9,by rfl,o9,_,m9,l9,c9,d9,(by show 1<=sizeLine;decide),.cons ⟨_,rfl⟩ (.nil)⟩
 by_cases Bu:x="item"
 ·subst Bu
  exact⟨Ew,by rfl,Ez,_,m10,l10,c10,d10,(by show 2<=sizeLine;decide),.cons ⟨_,rfl⟩ (.cons ⟨_,rfl⟩ (.nil))⟩
 by_cases Bv:x="size"
 ·subst Bv
  exact⟨Ey,by rfl,EA,_,LO,l11,c11,d11,(by show 1<=sizeLine;decide),.cons ⟨_,rfl⟩ (.nil)⟩
 have ef:cR x=none:=by
  unfold cR
  rw [if_neg q0,if_neg q1,if_neg q2,if_neg q3,if_neg q4,if_neg q5,if_neg q6,if_neg q7,if_neg q8,if_neg q9,if_neg Bu,if_neg Bv]
 rw [ef]
 show Option.map _ (Array.find? _ _)=none
 rw [show (Array.find? (λe:DictEntry=>Value.isStrOf x e.key) #[⟨h0,.str "number" t0,.ref a0⟩,⟨h1,.str "box" t1,.ref a1⟩,⟨h2,.str "plus" t2,.ref a2⟩,⟨h3,.str "minus" t3,.ref a3⟩,⟨h4,.str "times" t4,.ref a4⟩,⟨h5,.str "over" t5,.ref a5⟩,⟨h6,.str "rest" t6,.ref a6⟩,⟨h7,.str "less" t7,.ref a7⟩,⟨h8,.str "same" t8,.ref a8⟩,⟨h9,.str "not" t9,.ref a9⟩,⟨pP,.str "item" Ih,.ref Ew⟩,⟨vT,.str "size" LN,.ref Ey⟩])=none from by
  rw [Array.find?_eq_none]
  intro e he
  simp only [Array.mem_def,List.mem_cons,List.not_mem_nil,or_false] at he
  rcases he with rfl|rfl|rfl|rfl|rfl|rfl|rfl|rfl|rfl|rfl|rfl|rfl
  ·show ¬ (("number":Str) == x)=true;rw [nz q0];decide
  ·show ¬ (("box":Str) == x)=true;rw [nz q1];decide
  ·show ¬ (("plus":Str) == x)=true;rw [nz q2];decide
  ·show ¬ (("minus":Str) == x)=true;rw [nz q3];decide
  ·show ¬ (("times":Str) == x)=true;rw [nz q4];decide
  ·show ¬ (("over":Str) == x)=true;rw [nz q5];decide
  ·show ¬ (("rest":Str) == x)=true;rw [nz q6];decide
  ·show ¬ (("less":Str) == x)=true;rw [nz q7];decide
  ·show ¬ (("same":Str) == x)=true;rw [nz q8];decide
  ·show ¬ (("not":Str) == x)=true;rw [nz q9];decide
  ·show ¬ (("item":Str) == x)=true;rw [nz Bu];decide
  ·show ¬ (("size":Str) == x)=true;rw [nz Bv];decide]
 rfl
theorem EB{a a0 a1 a2 a3 a4 a5 a6 a7 a8 a9 Ew Ey:Addr}{h0 h1 h2 h3 h4 h5 h6 h7 h8 h9 pP vT:Int}{t0 t1 t2 t3 t4 t5 t6 t7 t8 t9 Ih LN:Tok}{n:Nat}(l:K.lookup a=some ⟨.type "dict",none,.dict #[⟨h0,.str "set" t0,.ref a0⟩,⟨h1,.str "push" t1,.ref a1⟩,⟨h2,.str "pop" t2,.ref a2⟩,⟨h3,.str "put" t3,.ref a3⟩,⟨h4,.str "ask" t4,.ref a4⟩,⟨h5,.str "tell" t5,.ref a5⟩,⟨h6,.str "if" t6,.ref a6⟩,⟨h7,.str "while" t7,.ref a7⟩,⟨h8,.str "try" t8,.ref a8⟩,⟨h9,.str "fail" t9,.ref a9⟩,⟨pP,.str "call" Ih,.ref Ew⟩,⟨vT,.str "return" LN,.ref Ey⟩] n,#[]⟩)(lo:(a == sysModules)=false)
  (e0:h0=PyData.keyHash w.params "set")
  (e1:h1=PyData.keyHash w.params "push")
  (e2:h2=PyData.keyHash w.params "pop")
  (e3:h3=PyData.keyHash w.params "put")
  (e4:h4=PyData.keyHash w.params "ask")
  (e5:h5=PyData.keyHash w.params "tell")
  (e6:h6=PyData.keyHash w.params "if")
  (e7:h7=PyData.keyHash w.params "while")
  (e8:h8=PyData.keyHash w.params "try")
  (e9:h9=PyData.keyHash w.params "fail")
  (e10:pP=PyData.keyHash w.params "call")
  (e11:vT=PyData.keyHash w.params "return")
  {o0:Obj} (l0:K.lookup a0=some o0) (c0:o0.cls=.type "tuple") {m0:Nat} {Rg W6:Tok} (d0:o0.data=.seq #[.str "box" Rg,.str "value" W6] m0)
  {o1:Obj} (l1:K.lookup a1=some o1) (c1:o1.cls=.type "tuple") {m1:Nat} {Rh W7:Tok} (d1:o1.data=.seq #[.str "list" Rh,.str "value" W7] m1)
  {o2:Obj} (l2:K.lookup a2=some o2) (c2:o2.cls=.type "tuple") {m2:Nat} {Ri Rj:Tok} (d2:o2.data=.seq #[.str "box" Ri,.str "list" Rj] m2)
  {o3:Obj} (l3:K.lookup a3=some o3) (c3:o3.cls=.type "tuple") {m3:Nat} {Rk Rm W8:Tok} (d3:o3.data=.seq #[.str "list" Rk,.str "value" Rm,.str "value" W8] m3)
  {o4:Obj} (l4:K.lookup a4=some o4) (c4:o4.cls=.type "tuple") {m4:Nat} {Rn Ro:Tok} (d4:o4.data=.seq #[.str "box" Rn,.str "door" Ro] m4)
  {o5:Obj} (l5:K.lookup a5=some o5) (c5:o5.cls=.type "tuple") {m5:Nat} {Rp:Tok} (d5:o5.data=.seq #[.str "value" Rp] m5)
  {o6:Obj} (l6:K.lookup a6=some o6) (c6:o6.cls=.type "tuple") {m6:Nat} {Rq Rr W9:Tok} (d6:o6.data=.seq #[.str "value" Rq,.str "rows" Rr,.str "rows" W9] m6)
  {o7:Obj} (l7:K.lookup a7=some o7) (c7:o7.cls=.type "tuple") {m7:Nat} {Rt Ru:Tok} (d7:o7.data=.seq #[.str "value" Rt,.str "rows" Ru] m7)
  {o8:Obj} (l8:K.lookup a8=some o8) (c8:o8.cls=.type "tuple") {m8:Nat} {Rv Rw Xa:Tok} (d8:o8.data=.seq #[.str "rows" Rv,.str "box" Rw,.str "rows" Xa] m8)
  {o9:Obj} (l9:K.lookup a9=some o9) (c9:o9.cls=.type "tuple") {m9:Nat} {Rx:Tok} (d9:o9.data=.seq #[.str "value" Rx] m9)
  {Ez:Obj} (l10:K.lookup Ew=some Ez) (c10:Ez.cls=.type "tuple") {m10:Nat} {Ii Ij Ry:Tok} (d10:Ez.data=.seq #[.str "box" Ii,.str "function" Ij,.str "values" Ry] m10)
  {EA:Obj} (l11:K.lookup Ey=some EA) (c11:EA.cls=.type "tuple") {LO:Nat} {Ik:Tok} (d11:EA.data=.seq #[.str "value" Ik] LO)
  : sD w K a bP:=by
 have nz:∀{x y:Str},x≠y->(y == x)=false:=λh=>by simpa using λz=>h z.symm
 refine⟨⟨_,n,l,⟨⟨_,_,rfl,e0⟩,⟨_,_,rfl,e1⟩,⟨_,_,rfl,e2⟩,⟨_,_,rfl,e3⟩,⟨_,_,rfl,e4⟩,⟨_,_,rfl,e5⟩,⟨_,_,rfl,e6⟩,⟨_,_,rfl,e7⟩,⟨_,_,rfl,e8⟩,⟨_,_,rfl,e9⟩,⟨_,_,rfl,e10⟩,⟨_,_,rfl,e11⟩,trivial⟩,λx=>?_⟩,lo⟩
 by_cases q0:x="set"
 ·subst q0
  exact⟨a0,by rfl,o0,_,m0,l0,c0,d0,(by show 2<=sizeLine;decide),.cons ⟨_,rfl⟩ (.cons ⟨_,rfl⟩ (.nil))⟩
 by_cases q1:x="push"
 ·subst q1
  exact⟨a1,by rfl,o1,_,m1,l1,c1,d1,(by show 2<=sizeLine;decide),.cons ⟨_,rfl⟩ (.cons ⟨_,rfl⟩ (.nil))⟩
 by_cases q2:x="pop"
 ·subst q2
  exact⟨a2,by rfl,o2,_,m2,l2,c2,d2,(by show 2<=sizeLine;decide),.cons ⟨_,rfl⟩ (.cons ⟨_,rfl⟩ (.nil))⟩
 by_cases q3:x="put"
 ·subst q3
  exact⟨a3,by rfl,o3,_,m3,l3,c3,d3,(by show 3<=sizeLine;decide),.cons ⟨_,rfl⟩ (.cons ⟨_,rfl⟩ (.cons ⟨_,rfl⟩ (.nil)))⟩
 by_cases q4:x="ask"
 ·subst q4
  exact⟨a4,by rfl,o4,_,m4,l4,c4,d4,(by show 2<=sizeLine;decide),.cons ⟨_,rfl⟩ (.cons ⟨_,rfl⟩ (.nil))⟩
 by_cases q5:x="tell"
 ·subst q5
  exact⟨a5,by rfl,o5,_,m5,l5,c5,d5,(by show 1<=sizeLine;decide),.cons ⟨_,rfl⟩ (.nil)⟩
 by_cases q6:x="if"
 ·subst q6
  exact⟨a6,by rfl,o6,_,m6,l6,c6,d6,(by show 3<=sizeLine;decide),.cons ⟨_,rfl⟩ (.cons ⟨_,rfl⟩ (.cons ⟨_,rfl⟩ (.nil)))⟩
 by_cases q7:x="while"
 ·subst q7
  exact⟨a7,by rfl,o7,_,m7,l7,c7,d7,(by show 2<=sizeLine;decide),.cons ⟨_,rfl⟩ (.cons ⟨_,rfl⟩ (.nil))⟩
 by_cases q8:x="try"
 ·subst q8
  exact⟨a8,by rfl,o8,_,m8,l8,c8,d8,(by show 3<=sizeLine;decide),.cons ⟨_,rfl⟩ (.cons ⟨_,rfl⟩ (.cons ⟨_,rfl⟩ (.nil)))⟩
 by_cases q9:x="fail"
 ·subst q9
  exact⟨a9,by rfl,o9,_,m9,l9,c9,d9,(by show 1<=sizeLine;decide),.cons ⟨_,rfl⟩ (.nil)⟩
 by_cases Bu:x="call"
 ·subst Bu
  exact⟨Ew,by rfl,Ez,_,m10,l10,c10,d10,(by show 3<=sizeLine;decide),.cons ⟨_,rfl⟩ (.cons ⟨_,rfl⟩ (.cons ⟨_,rfl⟩ (.nil)))⟩
 by_cases Bv:x="return"
 ·subst Bv
  exact⟨Ey,by rfl,EA,_,LO,l11,c11,d11,(by show 1<=sizeLine;decide),.cons ⟨_,rfl⟩ (.nil)⟩
 have ef:bP x=none:=by
  unfold bP
  rw [if_neg q0,if_neg q1,if_neg q2,if_neg q3,if_neg q4,if_neg q5,if_neg q6,if_neg q7,if_neg q8,if_neg q9,if_neg Bu,if_neg Bv]
 rw [ef]
 show Option.map _ (Array.find? _ _)=none
 rw [show (Array.find? (λe:DictEntry=>Value.isStrOf x e.key) #[⟨h0,.str "set" t0,.ref a0⟩,⟨h1,.str "push" t1,.ref a1⟩,⟨h2,.str "pop" t2,.ref a2⟩,⟨h3,.str "put" t3,.ref a3⟩,⟨h4,.str "ask" t4,.ref a4⟩,⟨h5,.str "tell" t5,.ref a5⟩,⟨h6,.str "if" t6,.ref a6⟩,⟨h7,.str "while" t7,.ref a7⟩,⟨h8,.str "try" t8,.ref a8⟩,⟨h9,.str "fail" t9,.ref a9⟩,⟨pP,.str "call" Ih,.ref Ew⟩,⟨vT,.str "return" LN,.ref Ey⟩])=none from by
  rw [Array.find?_eq_none]
  intro e he
  simp only [Array.mem_def,List.mem_cons,List.not_mem_nil,or_false] at he
  rcases he with rfl|rfl|rfl|rfl|rfl|rfl|rfl|rfl|rfl|rfl|rfl|rfl
  ·show ¬ (("set":Str) == x)=true;rw [nz q0];decide
  ·show ¬ (("push":Str) == x)=true;rw [nz q1];decide
  ·show ¬ (("pop":Str) == x)=true;rw [nz q2];decide
  ·show ¬ (("put":Str) == x)=true;rw [nz q3];decide
  ·show ¬ (("ask":Str) == x)=true;rw [nz q4];decide
  ·show ¬ (("tell":Str) == x)=true;rw [nz q5];decide
  ·show ¬ (("if":Str) == x)=true;rw [nz q6];decide
  ·show ¬ (("while":Str) == x)=true;rw [nz q7];decide
  ·show ¬ (("try":Str) == x)=true;rw [nz q8];decide
  ·show ¬ (("fail":Str) == x)=true;rw [nz q9];decide
  ·show ¬ (("call":Str) == x)=true;rw [nz Bu];decide
  ·show ¬ (("return":Str) == x)=true;rw [nz Bv];decide]
 rfl
end
theorem Il{l:PySem.W.OpenLaw}{w:World}{K:PySem.W.Frag}{h:Heap}{mg:Str->Option Value}{fa f3:Addr}{R C1 C2 C3 C4 C5 C6 C7 C8 C9 CS:Addr}(X:K.In h)(G:h.Ns mainGlobals mg)(yI:mg "law"=some (.ref fa))(T:Txt w K mg)(Z:MJ K mg R C1 C2 C3 C4 C5 C6 C7 C8 C9)(W:IK K mg CS)(M0:AL K CS "Scope.__init__" (IL 0) ["self","boxes","lists","param_counts","may_return"])
  (S14:Src K mg "has_word" (top 14) ["thing"])
  (S15:Src K mg "value_kinds" (top 15) ["word"])
  (S16:Src K mg "row_kinds" (top 16) ["word"])
  (S17:Src K mg "parts_within" (top 17) ["row"])
  (S20:Src K mg "rows_of" (top 20) ["program"])
  (S21:Src K mg "add_rows" (top 21) ["triples","rows","around"])
  (S26:Src K mg "is_name" (top 26) ["thing"])
  (S27:Src K mg "is_whole" (top 27) ["thing","least","most"])
  (S28:Src K mg "is_number" (top 28) ["thing"])
  (S29:Src K mg "is_value" (top 29) ["thing","boxes","lists"])
  (S30:Src K mg "is_value_within" (top 30) ["thing","boxes","lists","depth"])
  (S31:Src K mg "is_part" (top 31) ["kind","part","boxes","lists","depth"])
  (S41:Src K mg "program_of" (top 41) ["boxes","lists","functions","rows"])
  (S42:Src K mg "check_variables" (top 42) ["boxes","lists"])
  (S43:Src K mg "check_functions" (top 43) ["functions","taken"])
  (S44:Src K mg "check_rows" (top 44) ["program"])
  (S45:Src K mg "is_tuple_of" (top 45) ["thing","most","is_one"])
  (S46:Src K mg "is_pair" (top 46) ["thing"])
  (S47:Src K mg "is_box" (top 47) ["thing"])
  (S48:Src K mg "is_list" (top 48) ["thing"])
  (S49:Src K mg "is_function" (top 49) ["thing"])
  (S50:Src K mg "names_of" (top 50) ["things"])
  (S51:Src K mg "own_names" (top 51) ["function"])
  (S52:Src K mg "are_unlike" (top 52) ["names"])
  (S53:Src K mg "are_rows" (top 53) ["rows","scope","depth"])
  (S54:Src K mg "is_row" (top 54) ["row","scope","depth"])
  (S55:Src K mg "is_row_part" (top 55) ["kind","part","scope","depth"])
  (S57:Src K mg "_law_cell_at" (top 57) ["_law_script","_law_k"])
  (S58:Src K mg "_law_state" (top 58) ["_law_cell","_law_k"])
  (S59:Src K mg "_law_next" (top 59) ["_law_state_here","_law_size"])
  (S60:Src K mg "_law_names" (top 60) ["_law_state_here","_law_amount"])
  (S61:Src K mg "_law_is_name" (top 61) ["_law_thing"])
  (S62:Src K mg "_law_is_number" (top 62) ["_law_thing"])
  (S63:Src K mg "_law_among" (top 63) ["_law_thing","_law_names_here"])
  (S64:Src K mg "_law_is_value" (top 64) ["_law_thing","_law_boxes","_law_lists","_law_deep_here"])
  (S65:Src K mg "_law_are_rows" (top 65) ["_law_thing","_law_names_here","_law_deep_here"])
  (S66:Src K mg "_law_is_row" (top 66) ["_law_thing","_law_names_here","_law_deep_here"])
  (S67:Src K mg "_law_fits" (top 67) ["_law_kind_here","_law_part","_law_names_here","_law_deep_here"])
  (S68:Src K mg "_law_all" (top 68) ["_law_thing","_law_most","_law_good"])
  (S69:Src K mg "_law_named" (top 69) ["_law_thing","_law_size"])
  (S70:Src K mg "_law_is_box" (top 70) ["_law_thing"])
  (S71:Src K mg "_law_is_list" (top 71) ["_law_thing"])
  (S72:Src K mg "_law_is_function" (top 72) ["_law_thing"])
  (S73:Src K mg "_law_unlike" (top 73) ["_law_names_here"])
  (S74:Src K mg "_law_count" (top 74) ["_law_rows"])
  (S75:Src K mg "_law_kind" (top 75) ["_law_boxes","_law_lists","_law_functions","_law_rows"])
  (S76:Src K mg "_law_class" (top 76) ["_law_e"])
  (S77:Src K mg "_law_deep" (top 77) ["_law_row","_law_count_here","_law_box","_law_state_here"])
  (S78:Src K mg "_law_bad_row" (top 78) ["_law_parts","_law_state_here"])
  (S79:Src K mg "_law_other_function" (top 79) ["_law_one","_law_names_here","_law_bad","_law_state_here"])
  (S80:Src K mg "_law_other_stores" (top 80) ["_law_boxes","_law_lists","_law_state_here"])
  (S81:Src K mg "_law_more" (top 81) ["_law_parts","_law_state_here"])
  (S82:Src K mg "_law_small" (top 82) ["_law_state_here"])
  (S83:Src K mg "_law_told" (top 83) ["_law_parts"])
  {Xb Tx:Option Addr} {Xc:Array (Option Value)} {Xd TB TC TF LP TH:Value}
  (a3:PySem.W.nsIn K mainGlobals "law"=some (some (.ref f3))) (l3:K.lookup f3=some ⟨Xd,Xb,.func (PySem.W.fnOf "law" "law" (fA (top 84)) (dv (top 84)) (ao (top 84)) .none TB TC TF Tx LP TH),Xc⟩) (c3:PySem.W.codeIn K LP "law"=true) (k3:PySem.W.keepIn K (.ref f3)=true) :
  ∃fd:FuncData,(∀(s:Shared) (v:Value),BindsTo s fd ⟨[v],[]⟩ [("_law_script",v)])/\∀base:Heap,K.In base->base.Ns mainGlobals mg->g7 l.prog w K mg base rZ 30 fa fd ["_law_script"] (xZ K):=by
 have e:=yI.symm.trans (PySem.W.mg_of X G a3)
 cases e
 have F3:=uK (st:=top 84) l3 c3 k3
 refine⟨PySem.W.fnOf "law" "law" (fA (top 84)) (dv (top 84)) (ao (top 84)) .none TB TC TF Tx LP TH,λs v=>.of_eq rfl,λbase _ _=>?_⟩
 exact
  have i6:=yS T S26
  have B8:=sV T (vA T S27) S28
  have ub:=tu T S14 S15 i6 B8 S29 S30 S31
  have ya:=vE T S50
  have pW:=KD T S51
  have FE:=A1 T S52
  have B9:=GU T S46
  have zB:=f9 T S14
  have zC:=tE T S16
  have r0:Def _ w K mg base 9 "is_row_part" ["kind","part","scope","depth"] (qO CS 0):=S55.no λvs H Q E h=>by
   obtain⟨_,_,_,_,k',_,_,_,_,_,_,_,hk,_⟩:=h
   omega
  have w0:=pV (j:=8) T W zB zC S54 r0
  have a0:=pT T S53 w0
  have r1:=kU (j:=0) T W i6 ub S55 a0
  have w1:=pV (j:=11) T W zB zC S54 r1
  have a1:=pT T S53 w1
  have r2:=kU (j:=3) T W i6 ub S55 a1
  have w2:=pV (j:=14) T W zB zC S54 r2
  have a2:=pT T S53 w2
  have r3:=kU (j:=6) T W i6 ub S55 a2
  have w3:=pV (j:=17) T W zB zC S54 r3
  have a3:=pT T S53 w3
  have r4:=kU (j:=9) T W i6 ub S55 a3
  have w4:=pV (j:=20) T W zB zC S54 r4
  have a4:=pT T S53 w4
  have r5:=kU (j:=12) T W i6 ub S55 a4
  have w5:=pV (j:=23) T W zB zC S54 r5
  have a5:=pT T S53 w5
  have lT:=yY T (Fe T (DK T S17) S21 5) S20
  have Im:=G6 T Z.m1 Z.o1.exc (KA T i6 B8 B9 S47) (GY T i6 B8 B9 (iT (k:=2) T S45) S48) (iT (k:=4) T S45) ya FE S42
  have Io:=G7 T Z.m1 Z.o1.exc (KC T i6 (iT (k:=1) T S45) S49) (iT (k:=3) T S45) ya FE pW S43
  have EC:=DM T W Z.m2 Z.o2.exc ((d_init W M0).mono (by decide)) a5 ya pW S44
  have wc:=Hc T Z.m1 Z.o1.exc Z.m3 Z.o3.exc Im Io EC ya lT S41
  have bE:=GR S59
  have ku:=DP T S61
  have Ca:=y9 T S62
  have jU:=DQ T S63
  have uc:=tQ T Ca jU S64
  have rD:=DX T ku S69
  have y0:Def _ w K mg base 5 "_law_fits" ["_law_kind_here","_law_part","_law_names_here","_law_deep_here"] (vW 0):=S67.no λvs H Q E h=>by
   obtain⟨_,_,_,_,_,k',_,_,_,_,_,_,_,_,hk,_⟩:=h
   omega
  have u0:=lU T S65 (p5 (j:=4) T S66 y0)
  have u1:=lU T S65 (p5 (j:=7) T S66 (oC (j:=0) T uc ku jU S67 u0))
  have u2:=lU T S65 (p5 (j:=10) T S66 (oC (j:=3) T uc ku jU S67 u1))
  have u3:=lU T S65 (p5 (j:=13) T S66 (oC (j:=6) T uc ku jU S67 u2))
  have u4:=lU T S65 (p5 (j:=16) T S66 (oC (j:=9) T uc ku jU S67 u3))
  have u5:=lU T S65 (p5 (j:=19) T S66 (oC (j:=12) T uc ku jU S67 u4))
  have Ip:=D5 T (Hm T rD Ca S70) (D0 T rD Ca (vX (k:=1) T S68) S71) (Hn T rD ku (vX (k:=1) T S68) S72) (vX (k:=3) T S68) (zm T S73) u5 (tS T S74) S75
  have Iq:=Hx T Z wc ((DO T Z S76).mono (by decide)) S83
  have Ir:=HW T bE (Lx T bE (HH T bE S77) S78) (HS T bE S80) (HP T bE S79) S81
  LM T (yR T S57) (DD S58) (Eh T bE (Ee T bE S60) S82) Iq Ir Ip F3
theorem Iu{w:World}{K:PySem.W.Frag}{h:Heap}{mg:Str->Option Value}(X:K.In h)(G:h.Ns mainGlobals mg){t0 t1 t2 t3 t4 t5 t6 t7 t8 t9 Ih:Tok}
  (z0:PySem.W.nsIn K mainGlobals "len"=some none) (z1:PySem.W.nsIn K mainGlobals "isinstance"=some none) (z2:PySem.W.nsIn K mainGlobals "all"=some none) (z3:PySem.W.nsIn K mainGlobals "zip"=some none) (z4:PySem.W.nsIn K mainGlobals "range"=some none) (z5:PySem.W.nsIn K mainGlobals "list"=some none) (z6:PySem.W.nsIn K mainGlobals "tuple"=some none) (z7:PySem.W.nsIn K mainGlobals "str"=some none) (z8:PySem.W.nsIn K mainGlobals "int"=some none) (z9:PySem.W.nsIn K mainGlobals "bool"=some none) (z10:PySem.W.nsIn K mainGlobals "set"=some none) (z11:PySem.W.nsIn K mainGlobals "dict"=some none) (z12:PySem.W.nsIn K mainGlobals "ValueError"=some none)
  (m0:PySem.W.nsIn K mainGlobals "MOST_LETTERS"=some (some (.int 6 t0))) (m1:PySem.W.nsIn K mainGlobals "GREATEST"=some (some (.int 999999 t1))) (m2:PySem.W.nsIn K mainGlobals "DEEPEST"=some (some (.int 4 t2))) (m3:PySem.W.nsIn K mainGlobals "NO_ROW"=some (some (.int (-1) t3))) (m4:PySem.W.nsIn K mainGlobals "MOST_BOXES"=some (some (.int 6 t4))) (m5:PySem.W.nsIn K mainGlobals "MOST_LISTS"=some (some (.int 3 t5))) (m6:PySem.W.nsIn K mainGlobals "MOST_THINGS"=some (some (.int 12 t6))) (m7:PySem.W.nsIn K mainGlobals "MOST_FUNCTIONS"=some (some (.int 4 t7))) (m8:PySem.W.nsIn K mainGlobals "MOST_NAMES"=some (some (.int 3 t8))) (m9:PySem.W.nsIn K mainGlobals "DEEPEST_ROW"=some (some (.int 5 t9))) (m10:PySem.W.nsIn K mainGlobals "MOST_NUMBERS"=some (some (.int 60 Ih))) {av ar:Addr}
  (mv:PySem.W.nsIn K mainGlobals "VALUE_FORMS"=some (some (.ref av))) (mr:PySem.W.nsIn K mainGlobals "ROW_FORMS"=some (some (.ref ar))) (tv:sD w K av cR) (tr:sD w K ar bP):Txt w K mg:=
 ⟨PySem.W.mg_none_of X G z0,PySem.W.mg_none_of X G z1,PySem.W.mg_none_of X G z2,PySem.W.mg_none_of X G z3,PySem.W.mg_none_of X G z4,PySem.W.mg_none_of X G z5,PySem.W.mg_none_of X G z6,PySem.W.mg_none_of X G z7,PySem.W.mg_none_of X G z8,PySem.W.mg_none_of X G z9,PySem.W.mg_none_of X G z10,PySem.W.mg_none_of X G z11,PySem.W.mg_none_of X G z12,⟨_,PySem.W.mg_of X G m0⟩,⟨_,PySem.W.mg_of X G m1⟩,⟨_,PySem.W.mg_of X G m2⟩,⟨_,PySem.W.mg_of X G m3⟩,⟨_,PySem.W.mg_of X G m4⟩,⟨_,PySem.W.mg_of X G m5⟩,⟨_,PySem.W.mg_of X G m6⟩,⟨_,PySem.W.mg_of X G m7⟩,⟨_,PySem.W.mg_of X G m8⟩,⟨_,PySem.W.mg_of X G m9⟩,⟨_,PySem.W.mg_of X G m10⟩,⟨av,PySem.W.mg_of X G mv,tv⟩,⟨ar,PySem.W.mg_of X G mr,tr⟩⟩
theorem oJ{K:PySem.W.Frag}{v:Value}:PySem.W.kitOne K v v=some true:=by unfold PySem.W.kitOne;rw [if_pos (beq_self_eq_true _)]
theorem cu{K:PySem.W.Frag}{C D:Addr}{cd:ClassData}{b:Bool}(c:PySem.W.clsIn K D=some cd)(t:PySem.W.typeIn K (.ref D)=some (.type "type"))(s:PySem.W.subIn K (.ref C) (.ref D)=some b)(d:(Value.ref C == Value.ref D)=false):PySem.W.kitOne K (.ref C) (.ref D)=some b:=by
 unfold PySem.W.kitOne PySem.W.kitCls
 rw [if_neg (by rw [d];exact Bool.false_ne_true)]
 dsimp only
 rw [if_pos (by rw [c,t];rfl)]
 exact s
theorem wu{K:PySem.W.Frag}{C:Addr}(s:PySem.W.subIn K (.ref C) (.type "ValueError")=some true):PySem.W.kitOne K (.ref C) (.type "ValueError")=some true:=by
 unfold PySem.W.kitOne PySem.W.kitCls
 rw [if_neg (show ¬ ((Value.ref C == Value.type "ValueError")=true) from Bool.false_ne_true)]
 dsimp only
 rw [if_pos (by decide +kernel)]
 exact s
theorem find_none{K:PySem.W.Frag}{C:Addr}{cd:ClassData}{a g:Value}{name:Str}(hc:PySem.W.clsIn K C=some cd)(ha:PySem.W.findIn K (.ref C) name=some (some a))(hg:PySem.W.specialIn K a "__get__"=some (some g))(ht:PySem.W.takesIn K a=some true):PySem.W.findObj K C none name=some (.bind g a):=by
 unfold PySem.W.findObj
 rw [hc,Option.bind_some,ha,Option.bind_some]
 simp [hg,ht]
theorem Iw{K:PySem.W.Frag}{h:Heap}{mg:Str->Option Value}{R C1 C2 C3 C4 C5 C6 C7 C8 C9:Addr}{Xe Xf Xg LP Xh Xi Xj Xk Xl Xm:ClassData}(X:K.In h)(G:h.Ns mainGlobals mg)
  (n0:PySem.W.nsIn K mainGlobals "RunError"=some (some (.ref R))) (n1:PySem.W.nsIn K mainGlobals "NoProgram"=some (some (.ref C1))) (n2:PySem.W.nsIn K mainGlobals "NoRow"=some (some (.ref C2))) (n3:PySem.W.nsIn K mainGlobals "TooLong"=some (some (.ref C3))) (n4:PySem.W.nsIn K mainGlobals "NoWorld"=some (some (.ref C4))) (n5:PySem.W.nsIn K mainGlobals "NoText"=some (some (.ref C5))) (n6:PySem.W.nsIn K mainGlobals "NoStep"=some (some (.ref C6))) (n7:PySem.W.nsIn K mainGlobals "NoCell"=some (some (.ref C7))) (n8:PySem.W.nsIn K mainGlobals "NoDoor"=some (some (.ref C8))) (n9:PySem.W.nsIn K mainGlobals "NoWord"=some (some (.ref C9)))
  (h1:PySem.W.typeIn K (.ref R)=some (.type "type")) (h2:PySem.W.clsIn K R=some Xe) (h3:PySem.W.subIn K (.ref R) (.type "BaseException")=some true) (b2:PySem.W.specialIn K (.builtin "object.__class__") "__get__"=some (some (.builtin "getset_descriptor.__get__"))) (b3:PySem.W.takesIn K (.builtin "object.__class__")=some true) (c1:PySem.W.clsIn K C1=some Xf) (t1:PySem.W.typeIn K (.ref C1)=some (.type "type")) (c2:PySem.W.clsIn K C2=some Xg) (t2:PySem.W.typeIn K (.ref C2)=some (.type "type")) (c3:PySem.W.clsIn K C3=some LP) (t3:PySem.W.typeIn K (.ref C3)=some (.type "type")) (c4:PySem.W.clsIn K C4=some Xh) (t4:PySem.W.typeIn K (.ref C4)=some (.type "type")) (c5:PySem.W.clsIn K C5=some Xi) (t5:PySem.W.typeIn K (.ref C5)=some (.type "type")) (c6:PySem.W.clsIn K C6=some Xj) (t6:PySem.W.typeIn K (.ref C6)=some (.type "type")) (c7:PySem.W.clsIn K C7=some Xk) (t7:PySem.W.typeIn K (.ref C7)=some (.type "type")) (c8:PySem.W.clsIn K C8=some Xl) (t8:PySem.W.typeIn K (.ref C8)=some (.type "type")) (c9:PySem.W.clsIn K C9=some Xm) (t9:PySem.W.typeIn K (.ref C9)=some (.type "type")) (e1x:PySem.W.excIn K C1 sH "ValueError.__new__"=true) (a1x:PySem.W.findIn K (.ref C1) "__getattribute__"=some (some (.builtin "BaseException.__getattribute__"))) (a2x:PySem.W.findIn K (.ref C1) "__getattr__"=some none) (b1x:PySem.W.findIn K (.ref C1) "__class__"=some (some (.builtin "object.__class__"))) (a4x:PySem.W.mroIn K C1 (.type "object")=some true) (a5x:PySem.W.subIn K (.ref C1) (.type "BaseException")=some true) (sux:PySem.W.subIn K (.ref C1) (.ref R)=some true) (s2x:PySem.W.subIn K (.ref C1) (.ref C2)=some false) (d2x:(Value.ref C1 == Value.ref C2)=false) (s3x:PySem.W.subIn K (.ref C1) (.ref C3)=some false) (d3x:(Value.ref C1 == Value.ref C3)=false) (s4x:PySem.W.subIn K (.ref C1) (.ref C4)=some false) (d4x:(Value.ref C1 == Value.ref C4)=false) (s5x:PySem.W.subIn K (.ref C1) (.ref C5)=some false) (d5x:(Value.ref C1 == Value.ref C5)=false) (s6x:PySem.W.subIn K (.ref C1) (.ref C6)=some false) (d6x:(Value.ref C1 == Value.ref C6)=false) (s7x:PySem.W.subIn K (.ref C1) (.ref C7)=some false) (d7x:(Value.ref C1 == Value.ref C7)=false) (s8x:PySem.W.subIn K (.ref C1) (.ref C8)=some false) (d8x:(Value.ref C1 == Value.ref C8)=false) (s9x:PySem.W.subIn K (.ref C1) (.ref C9)=some false) (d9x:(Value.ref C1 == Value.ref C9)=false) (svx:PySem.W.subIn K (.ref C1) (.type "ValueError")=some true) (e1y:PySem.W.excIn K C2 sH "ValueError.__new__"=true) (a1y:PySem.W.findIn K (.ref C2) "__getattribute__"=some (some (.builtin "BaseException.__getattribute__"))) (a2y:PySem.W.findIn K (.ref C2) "__getattr__"=some none) (b1y:PySem.W.findIn K (.ref C2) "__class__"=some (some (.builtin "object.__class__"))) (a4y:PySem.W.mroIn K C2 (.type "object")=some true) (a5y:PySem.W.subIn K (.ref C2) (.type "BaseException")=some true) (suy:PySem.W.subIn K (.ref C2) (.ref R)=some true) (s1y:PySem.W.subIn K (.ref C2) (.ref C1)=some false) (d1y:(Value.ref C2 == Value.ref C1)=false) (s3y:PySem.W.subIn K (.ref C2) (.ref C3)=some false) (d3y:(Value.ref C2 == Value.ref C3)=false) (s4y:PySem.W.subIn K (.ref C2) (.ref C4)=some false) (d4y:(Value.ref C2 == Value.ref C4)=false) (s5y:PySem.W.subIn K (.ref C2) (.ref C5)=some false) (d5y:(Value.ref C2 == Value.ref C5)=false) (s6y:PySem.W.subIn K (.ref C2) (.ref C6)=some false) (d6y:(Value.ref C2 == Value.ref C6)=false) (s7y:PySem.W.subIn K (.ref C2) (.ref C7)=some false) (d7y:(Value.ref C2 == Value.ref C7)=false) (s8y:PySem.W.subIn K (.ref C2) (.ref C8)=some false) (d8y:(Value.ref C2 == Value.ref C8)=false) (s9y:PySem.W.subIn K (.ref C2) (.ref C9)=some false) (d9y:(Value.ref C2 == Value.ref C9)=false) (svy:PySem.W.subIn K (.ref C2) (.type "ValueError")=some true) (e1z:PySem.W.excIn K C3 sH "ValueError.__new__"=true) (a1z:PySem.W.findIn K (.ref C3) "__getattribute__"=some (some (.builtin "BaseException.__getattribute__"))) (a2z:PySem.W.findIn K (.ref C3) "__getattr__"=some none) (b1z:PySem.W.findIn K (.ref C3) "__class__"=some (some (.builtin "object.__class__"))) (a4z:PySem.W.mroIn K C3 (.type "object")=some true) (a5z:PySem.W.subIn K (.ref C3) (.type "BaseException")=some true) (suz:PySem.W.subIn K (.ref C3) (.ref R)=some true) (s1z:PySem.W.subIn K (.ref C3) (.ref C1)=some false) (d1z:(Value.ref C3 == Value.ref C1)=false) (s2z:PySem.W.subIn K (.ref C3) (.ref C2)=some false) (d2z:(Value.ref C3 == Value.ref C2)=false) (s4z:PySem.W.subIn K (.ref C3) (.ref C4)=some false) (d4z:(Value.ref C3 == Value.ref C4)=false) (s5z:PySem.W.subIn K (.ref C3) (.ref C5)=some false) (d5z:(Value.ref C3 == Value.ref C5)=false) (s6z:PySem.W.subIn K (.ref C3) (.ref C6)=some false) (d6z:(Value.ref C3 == Value.ref C6)=false) (s7z:PySem.W.subIn K (.ref C3) (.ref C7)=some false) (d7z:(Value.ref C3 == Value.ref C7)=false) (s8z:PySem.W.subIn K (.ref C3) (.ref C8)=some false) (d8z:(Value.ref C3 == Value.ref C8)=false) (s9z:PySem.W.subIn K (.ref C3) (.ref C9)=some false) (d9z:(Value.ref C3 == Value.ref C9)=false) (svz:PySem.W.subIn K (.ref C3) (.type "ValueError")=some true):MJ K mg R C1 C2 C3 C4 C5 C6 C7 C8 C9:=
 ⟨PySem.W.mg_of X G n0,PySem.W.mg_of X G n1,PySem.W.mg_of X G n2,PySem.W.mg_of X G n3,PySem.W.mg_of X G n4,PySem.W.mg_of X G n5,PySem.W.mg_of X G n6,PySem.W.mg_of X G n7,PySem.W.mg_of X G n8,PySem.W.mg_of X G n9,⟨h1,by rw [h2];rfl,h3⟩,⟨e1x,⟨a1x,a2x,find_none c1 b1x b2 b3,a4x,a5x⟩,by rw [c1];rfl,sux,wu svx,.cons (oJ) (.cons (cu c2 t2 s2x d2x) (.cons (cu c3 t3 s3x d3x) (.cons (cu c4 t4 s4x d4x) (.cons (cu c5 t5 s5x d5x) (.cons (cu c6 t6 s6x d6x) (.cons (cu c7 t7 s7x d7x) (.cons (cu c8 t8 s8x d8x) (.cons (cu c9 t9 s9x d9x) (.nil)))))))))⟩,⟨e1y,⟨a1y,a2y,find_none c2 b1y b2 b3,a4y,a5y⟩,by rw [c2];rfl,suy,wu svy,.cons (cu c1 t1 s1y d1y) (.cons (oJ) (.cons (cu c3 t3 s3y d3y) (.cons (cu c4 t4 s4y d4y) (.cons (cu c5 t5 s5y d5y) (.cons (cu c6 t6 s6y d6y) (.cons (cu c7 t7 s7y d7y) (.cons (cu c8 t8 s8y d8y) (.cons (cu c9 t9 s9y d9y) (.nil)))))))))⟩,⟨e1z,⟨a1z,a2z,find_none c3 b1z b2 b3,a4z,a5z⟩,by rw [c3];rfl,suz,wu svz,.cons (cu c1 t1 s1z d1z) (.cons (cu c2 t2 s2z d2z) (.cons (oJ) (.cons (cu c4 t4 s4z d4z) (.cons (cu c5 t5 s5z d5z) (.cons (cu c6 t6 s6z d6z) (.cons (cu c7 t7 s7z d7z) (.cons (cu c8 t8 s8z d8z) (.cons (cu c9 t9 s9z d9z) (.nil)))))))))⟩⟩
theorem Iy{K:PySem.W.Frag}{h:Heap}{mg:Str->Option Value}{C:Addr}(X:K.In h)(G:h.Ns mainGlobals mg)(m:PySem.W.nsIn K mainGlobals "Scope"=some (some (.ref C)))(pg:PySem.W.plainGet K C Str.empty=true)(hd:PySem.W.hasDictIn K C=true)(po:PySem.W.plainOver K C=true)(sa:PySem.W.findIn K (.ref C) "__setattr__"=some (some (.builtin "object.__setattr__")))(n0:PySem.W.findIn K (.ref C) "boxes"=some none)(n1:PySem.W.findIn K (.ref C) "lists"=some none)(n2:PySem.W.findIn K (.ref C) "param_counts"=some none)(n3:PySem.W.findIn K (.ref C) "may_return"=some none):IK K mg C:=⟨PySem.W.mg_of X G m,⟨pg,hd,po,sa⟩,n0,n1,n2,n3⟩
theorem walk{l:PySem.W.OpenLaw}{q:Program}{loose:List Str}{XP:(Str->Option Value)->Heap->Prop}{YP:World->Heap->Prop}{d:DefRec}{K:Params->PySem.W.Frag}(hn:l.most=some 63)(JD:d.params.defaults = [])
  (hY:∀(w:World) (h:Heap),YP w h->(K w.params).In h)
  (F:∀(w:World) (mg:Str->Option Value) (fa:Addr) (h:Heap),(K w.params).In h->h.Ns mainGlobals mg->mg d.name=some (.ref fa) ->
   ∃fd:FuncData,(∀(s:Shared) (u:Value),BindsTo s fd ⟨[u],[]⟩ [("_law_script",u)])/\∀base:Heap,(K w.params).In base->base.Ns mainGlobals mg->g7 l.prog w (K w.params) mg base rZ 30 fa fd ["_law_script"] (xZ (K w.params))) :
  PySem.W.WalkO q loose XP YP l.row.toRowW d [] (λf vs=>PySem.call f vs):=
 L2.CM (n:=63) (k:=30) (x:="_law_script") (CX:=λ_=>rZ) (sp:=λw=>xZ (K w.params)) hn (by decide) JD ⟨rfl,by decide,by decide⟩ hY F (λ_ _ a ns hl _ hS=>⟨a,ns,rfl,hS,λ_=>rfl⟩) λ_ _ _ _ _ z=>z
end bo
open PySem PySem.W PyProof.Rows
namespace PySem.W.Fast
theorem tw15388562099259820958:True:=⟨⟩
theorem tw10024264848746591587:True:=⟨⟩
theorem tw12348882785485580349:True:=⟨⟩
theorem tw16861796232552760862:True:=⟨⟩
theorem tw12861618520292273925:True:=⟨⟩
theorem tw8946036329869075770:True:=⟨⟩
theorem tw7856565574505347677:True:=⟨⟩
theorem tw11671419699497558092:True:=⟨⟩
theorem tw860137996789166232:True:=⟨⟩
theorem tw3902975167040802301:True:=⟨⟩
theorem tw3037203737018647388:True:=⟨⟩
theorem tw16041485223822787130:True:=⟨⟩
theorem tw13470045269679721413:True:=⟨⟩
theorem tw2933837306534782593:True:=⟨⟩
theorem tw4492857369612012009:True:=⟨⟩
theorem tw1971876976312846345:True:=⟨⟩
theorem tw14962480381129217816:True:=⟨⟩
theorem tw1760970361301730325:True:=⟨⟩
theorem tw4103894801381808569:True:=⟨⟩
theorem tw17878617771002069062:True:=⟨⟩
theorem tw13215198791129079684:True:=⟨⟩
theorem tw9606961555576696400:True:=⟨⟩
theorem tw16838205103839637957:True:=⟨⟩
theorem tw12372778534129236853:True:=⟨⟩
theorem tw499154408721111736:True:=⟨⟩
theorem tw6819949022734401249:True:=⟨⟩
theorem tw1815150854819071208:True:=⟨⟩
theorem tw2757195571974032974:True:=⟨⟩
theorem tw410062996696824939:True:=⟨⟩
theorem tw3601502112236316647:True:=⟨⟩
theorem tw12085160513810710361:True:=⟨⟩
theorem tw9256296878914913107:True:=⟨⟩
theorem tw1273293638529235684:True:=⟨⟩
theorem tw7295799028757526775:True:=⟨⟩
theorem tw49272353396722823:True:=⟨⟩
theorem tw6817616304787831128:True:=⟨⟩
theorem tw7408596982966376279:True:=⟨⟩
theorem tw11702053728855286152:True:=⟨⟩
theorem tw5459018719443853928:True:=⟨⟩
theorem tw14551652500241659349:True:=⟨⟩
theorem tw8326975371492762478:True:=⟨⟩
theorem tw12526839513871198760:True:=⟨⟩
theorem tw16993720617237409671:True:=⟨⟩
theorem tw4993323161271566072:True:=⟨⟩
theorem tw12383351386775702843:True:=⟨⟩
theorem tw7224702880342402915:True:=⟨⟩
theorem tw6041206961408803963:True:=⟨⟩
theorem tw2176221503479454860:True:=⟨⟩
theorem tw13645648900365346997:True:=⟨⟩
theorem tw6200703324406921645:True:=⟨⟩
theorem tw2445465334280529599:True:=⟨⟩
theorem tw10580617062594274205:True:=⟨⟩
theorem tw835711152786831086:True:=⟨⟩
theorem tw17856360308186766910:True:=⟨⟩
theorem tw582104519215520753:True:=⟨⟩
theorem tw18446560149450275421:True:=⟨⟩
theorem tw17572198065763212561:True:=⟨⟩
theorem tw3799871759510107655:True:=⟨⟩
theorem tw13788477530169158176:True:=⟨⟩
theorem tw14218539803512794083:True:=⟨⟩
theorem tw12506227085252421035:True:=⟨⟩
theorem tw1968174886681544051:True:=⟨⟩
theorem tw12715252370855502148:True:=⟨⟩
theorem tw2506996181829674432:True:=⟨⟩
theorem tw1209850780810939254:True:=⟨⟩
theorem tw10380805883642757948:True:=⟨⟩
theorem tw16107746970410279659:True:=⟨⟩
theorem tw112710797323887732:True:=⟨⟩
theorem tw8618578549664106273:True:=⟨⟩
theorem tw16480656411694141183:True:=⟨⟩
theorem tw15012593323885736442:True:=⟨⟩
theorem tw4218598310138149050:True:=⟨⟩
theorem tw13917487832161557309:True:=⟨⟩
theorem tw13971232107340979604:True:=⟨⟩
theorem tw7355869622762479663:True:=⟨⟩
theorem tw17907419860148333692:True:=⟨⟩
theorem tw15725956556215173961:True:=⟨⟩
theorem tw15006606531488894158:True:=⟨⟩
theorem tw14831271027820127521:True:=⟨⟩
theorem tw9139933294743130693:True:=⟨⟩
theorem tw16998995221985926679:True:=⟨⟩
theorem tw7206727660649487236:True:=⟨⟩
theorem tw7900367564234101405:True:=⟨⟩
theorem tw12242178589400719389:True:=⟨⟩
theorem tw11288477602410055361:True:=⟨⟩
theorem tw15316067903182384034:True:=⟨⟩
theorem tw9201743458410312748:True:=⟨⟩
theorem tw4249924116585183875:True:=⟨⟩
theorem tw1320314637025991791:True:=⟨⟩
theorem tw16271434301305621123:True:=⟨⟩
theorem tw12356987152198160415:True:=⟨⟩
theorem tw5216274625467030309:True:=⟨⟩
theorem tw11354912787539106517:True:=⟨⟩
theorem tw3951282951104567334:True:=⟨⟩
theorem tw271240521930556887:True:=⟨⟩
theorem tw5367083147006015989:True:=⟨⟩
theorem tw2380837601606367180:True:=⟨⟩
theorem tw6160565466902925679:True:=⟨⟩
theorem tw10672516352162671162:True:=⟨⟩
theorem tw6454671015070747900:True:=⟨⟩
theorem tw4944306273448563757:True:=⟨⟩
theorem tw17157776269240476150:True:=⟨⟩
theorem tw10859325264332890860:True:=⟨⟩
theorem tw17150890718198566428:True:=⟨⟩
theorem tw12694454274205665390:True:=⟨⟩
theorem tw7282161669712517198:True:=⟨⟩
theorem tw15007369704750166080:True:=⟨⟩
theorem tw13311878141512896933:True:=⟨⟩
theorem tw185275861617745584:True:=⟨⟩
theorem tw13415518322465041344:True:=⟨⟩
theorem tw9351008607070956256:True:=⟨⟩
theorem tw13323216351452067121:True:=⟨⟩
theorem tw8628461277618537318:True:=⟨⟩
theorem tw888128609015010640:True:=⟨⟩
theorem tw16279554295937120700:True:=⟨⟩
theorem tw12022566342885623615:True:=⟨⟩
theorem tw9039913655788854784:True:=⟨⟩
theorem tw17554469880764695935:True:=⟨⟩
theorem tw8090777682632244932:True:=⟨⟩
theorem tw16891990455436088784:True:=⟨⟩
theorem tw17929799651439340250:True:=⟨⟩
theorem tw14054103442852088458:True:=⟨⟩
theorem tw13365532966622160996:True:=⟨⟩
theorem tw5323540436388626680:True:=⟨⟩
theorem tw10241532500808068581:True:=⟨⟩
theorem tw5303679895645387999:True:=⟨⟩
theorem tw6453496394901783904:True:=⟨⟩
theorem tw10913967222722114357:True:=⟨⟩
theorem tw6094274738313691501:True:=⟨⟩
theorem tw7751657607469484925:True:=⟨⟩
theorem tw16567341142117231089:True:=⟨⟩
theorem tw4211639831769949387:True:=⟨⟩
theorem tw14460847055806615451:True:=⟨⟩
theorem tw11191411983867421415:True:=⟨⟩
theorem tw9592831275576070530:True:=⟨⟩
theorem tw1794903599321838052:True:=⟨⟩
theorem tw912768869097117502:True:=⟨⟩
theorem tw6597092107413689743:True:=⟨⟩
theorem tw15906422293320844753:True:=⟨⟩
theorem tw18169162315189296705:True:=⟨⟩
theorem tw9892794929854729267:True:=⟨⟩
theorem tw17500280463356606102:True:=⟨⟩
theorem tw14357516606226592931:True:=⟨⟩
theorem tw2586322402508569616:True:=⟨⟩
theorem tw14816012639332916599:True:=⟨⟩
theorem tw13952771217708376526:True:=⟨⟩
theorem tw10734127576433323509:True:=⟨⟩
theorem tw3095874819475249287:True:=⟨⟩
theorem tw1359833712196971618:True:=⟨⟩
theorem tw9234731466225819688:True:=⟨⟩
theorem tw162130320983083984:True:=⟨⟩
theorem tw14718850160613363750:True:=⟨⟩
theorem tw2393784761325928413:True:=⟨⟩
theorem tw8129658079136349986:True:=⟨⟩
theorem tw11383535324147641533:True:=⟨⟩
theorem tw6072122288888451761:True:=⟨⟩
theorem tw3435168756132271325:True:=⟨⟩
theorem tw6106033835755156468:True:=⟨⟩
theorem tw3607810260314585841:True:=⟨⟩
theorem tw1910776349346110156:True:=⟨⟩
theorem tw12220053430331986094:True:=⟨⟩
theorem tw2683893682884000198:True:=⟨⟩
theorem tw12289720620822926808:True:=⟨⟩
theorem tw3093238838965814748:True:=⟨⟩
theorem tw18059819414273460056:True:=⟨⟩
theorem tw2039753262219994262:True:=⟨⟩
theorem tw7222542442770852163:True:=⟨⟩
theorem tw13152320193825560439:True:=⟨⟩
theorem tw8454903748313521450:True:=⟨⟩
theorem tw3289552888151290061:True:=⟨⟩
theorem tw16371190509672303838:True:=⟨⟩
theorem tw14388108141666028062:True:=⟨⟩
theorem tw13836498638978620819:True:=⟨⟩
theorem tw1337579852220895984:True:=⟨⟩
theorem tw10966739052010465390:True:=⟨⟩
theorem tw9938255261567838389:True:=⟨⟩
theorem tw13144799132289763207:True:=⟨⟩
theorem tw1802185432893610702:True:=⟨⟩
theorem tw2587633195085141599:True:=⟨⟩
theorem tw4766662222564080509:True:=⟨⟩
theorem tw295921403461094932:True:=⟨⟩
theorem tw15973682048743188211:True:=⟨⟩
theorem tw15292993818762268982:True:=⟨⟩
theorem tw16950392188699861655:True:=⟨⟩
theorem tw15613024954656118694:True:=⟨⟩
theorem tw13794648960406969639:True:=⟨⟩
theorem tw6950902959794422693:True:=⟨⟩
theorem tw17425124497054675824:True:=⟨⟩
theorem tw14875688059838771334:True:=⟨⟩
theorem tw7575281126535975567:True:=⟨⟩
end PySem.W.Fast
set_option maxRecDepth 100000 in
set_option maxHeartbeats 0 in
theorem PySem.Challenge.cw_retrace_k06_names_and_rows_refused_holds : PySem.Challenge.rw_retrace_k06_names_and_rows_refused.Holds := by
 w_on;o_law;k_head;(case hw=>w_witness2)
 k_fill
 refine bo.walk (l:=PySem.Challenge.rw_retrace_k06_names_and_rows_refused) rfl rfl (λw h Y=>PySem.W.kIn_of Y) ?F
 case F=>
  intro w mg fa h KX G JE
  refine' bo.Il KX G JE ?T ?Z ?W ?M0 ?S14 ?S15 ?S16 ?S17 ?S20 ?S21 ?S26 ?S27 ?S28 ?S29 ?S30 ?S31 ?S41 ?S42 ?S43 ?S44 ?S45 ?S46 ?S47 ?S48 ?S49 ?S50 ?S51 ?S52 ?S53 ?S54 ?S55 ?S57 ?S58 ?S59 ?S60 ?S61 ?S62 ?S63 ?S64 ?S65 ?S66 ?S67 ?S68 ?S69 ?S70 ?S71 ?S72 ?S73 ?S74 ?S75 ?S76 ?S77 ?S78 ?S79 ?S80 ?S81 ?S82 ?S83 ?a3 ?l3 ?c3 ?k3
  (case a3|l3|c3|k3=>k_is)
  (case W=>refine' bo.Iy KX G ?m ?pg ?hd ?po ?sa ?n0 ?n1 ?n2 ?n3;(case m|pg|hd|po|sa|n0|n1|n2|n3=>k_is))
  (case M0=>refine' bo.Eu bo.W4 ?a ?i ?l ?c ?k ?mk ?kc;(case a|i|l|c|k|mk|kc=>k_is))
  (case S14=>refine' bo.aZ KX G bo.Qm ?a ?l ?c ?k;(case a|l|c|k=>k_is))
  (case S15=>refine' bo.aZ KX G bo.Qn ?a ?l ?c ?k;(case a|l|c|k=>k_is))
  (case S16=>refine' bo.aZ KX G bo.Qo ?a ?l ?c ?k;(case a|l|c|k=>k_is))
  (case S17=>refine' bo.aZ KX G bo.Qp ?a ?l ?c ?k;(case a|l|c|k=>k_is))
  (case S20=>refine' bo.aZ KX G bo.Qq ?a ?l ?c ?k;(case a|l|c|k=>k_is))
  (case S21=>refine' bo.aZ KX G bo.Qr ?a ?l ?c ?k;(case a|l|c|k=>k_is))
  (case S26=>refine' bo.aZ KX G bo.Qs ?a ?l ?c ?k;(case a|l|c|k=>k_is))
  (case S27=>refine' bo.aZ KX G bo.Qt ?a ?l ?c ?k;(case a|l|c|k=>k_is))
  (case S28=>refine' bo.aZ KX G bo.Qu ?a ?l ?c ?k;(case a|l|c|k=>k_is))
  (case S29=>refine' bo.aZ KX G bo.Qv ?a ?l ?c ?k;(case a|l|c|k=>k_is))
  (case S30=>refine' bo.aZ KX G bo.Qw ?a ?l ?c ?k;(case a|l|c|k=>k_is))
  (case S31=>refine' bo.aZ KX G bo.Qx ?a ?l ?c ?k;(case a|l|c|k=>k_is))
  (case S41=>refine' bo.aZ KX G bo.Qy ?a ?l ?c ?k;(case a|l|c|k=>k_is))
  (case S42=>refine' bo.aZ KX G bo.Qz ?a ?l ?c ?k;(case a|l|c|k=>k_is))
  (case S43=>refine' bo.aZ KX G bo.QA ?a ?l ?c ?k;(case a|l|c|k=>k_is))
  (case S44=>refine' bo.aZ KX G bo.QB ?a ?l ?c ?k;(case a|l|c|k=>k_is))
  (case S45=>refine' bo.aZ KX G bo.QC ?a ?l ?c ?k;(case a|l|c|k=>k_is))
  (case S46=>refine' bo.aZ KX G bo.QD ?a ?l ?c ?k;(case a|l|c|k=>k_is))
  (case S47=>refine' bo.aZ KX G bo.QE ?a ?l ?c ?k;(case a|l|c|k=>k_is))
  (case S48=>refine' bo.aZ KX G bo.QF ?a ?l ?c ?k;(case a|l|c|k=>k_is))
  (case S49=>refine' bo.aZ KX G bo.QG ?a ?l ?c ?k;(case a|l|c|k=>k_is))
  (case S50=>refine' bo.aZ KX G bo.QH ?a ?l ?c ?k;(case a|l|c|k=>k_is))
  (case S51=>refine' bo.aZ KX G bo.QI ?a ?l ?c ?k;(case a|l|c|k=>k_is))
  (case S52=>refine' bo.aZ KX G bo.QJ ?a ?l ?c ?k;(case a|l|c|k=>k_is))
  (case S53=>refine' bo.aZ KX G bo.QK ?a ?l ?c ?k;(case a|l|c|k=>k_is))
  (case S54=>refine' bo.aZ KX G bo.QL ?a ?l ?c ?k;(case a|l|c|k=>k_is))
  (case S55=>refine' bo.aZ KX G bo.QM ?a ?l ?c ?k;(case a|l|c|k=>k_is))
  (case S57=>refine' bo.aZ KX G bo.QN ?a ?l ?c ?k;(case a|l|c|k=>k_is))
  (case S58=>refine' bo.aZ KX G bo.QO ?a ?l ?c ?k;(case a|l|c|k=>k_is))
  (case S59=>refine' bo.aZ KX G bo.QP ?a ?l ?c ?k;(case a|l|c|k=>k_is))
  (case S60=>refine' bo.aZ KX G bo.QQ ?a ?l ?c ?k;(case a|l|c|k=>k_is))
  (case S61=>refine' bo.aZ KX G bo.QR ?a ?l ?c ?k;(case a|l|c|k=>k_is))
  (case S62=>refine' bo.aZ KX G bo.QS ?a ?l ?c ?k;(case a|l|c|k=>k_is))
  (case S63=>refine' bo.aZ KX G bo.QT ?a ?l ?c ?k;(case a|l|c|k=>k_is))
  (case S64=>refine' bo.aZ KX G bo.QU ?a ?l ?c ?k;(case a|l|c|k=>k_is))
  (case S65=>refine' bo.aZ KX G bo.QV ?a ?l ?c ?k;(case a|l|c|k=>k_is))
  (case S66=>refine' bo.aZ KX G bo.QW ?a ?l ?c ?k;(case a|l|c|k=>k_is))
  (case S67=>refine' bo.aZ KX G bo.QX ?a ?l ?c ?k;(case a|l|c|k=>k_is))
  (case S68=>refine' bo.aZ KX G bo.QY ?a ?l ?c ?k;(case a|l|c|k=>k_is))
  (case S69=>refine' bo.aZ KX G bo.QZ ?a ?l ?c ?k;(case a|l|c|k=>k_is))
  (case S70=>refine' bo.aZ KX G bo.Q0 ?a ?l ?c ?k;(case a|l|c|k=>k_is))
  (case S71=>refine' bo.aZ KX G bo.Q1 ?a ?l ?c ?k;(case a|l|c|k=>k_is))
  (case S72=>refine' bo.aZ KX G bo.Q2 ?a ?l ?c ?k;(case a|l|c|k=>k_is))
  (case S73=>refine' bo.aZ KX G bo.Q3 ?a ?l ?c ?k;(case a|l|c|k=>k_is))
  (case S74=>refine' bo.aZ KX G bo.Q4 ?a ?l ?c ?k;(case a|l|c|k=>k_is))
  (case S75=>refine' bo.aZ KX G bo.Q5 ?a ?l ?c ?k;(case a|l|c|k=>k_is))
  (case S76=>refine' bo.aZ KX G bo.Q6 ?a ?l ?c ?k;(case a|l|c|k=>k_is))
  (case S77=>refine' bo.aZ KX G bo.Q7 ?a ?l ?c ?k;(case a|l|c|k=>k_is))
  (case S78=>refine' bo.aZ KX G bo.Q8 ?a ?l ?c ?k;(case a|l|c|k=>k_is))
  (case S79=>refine' bo.aZ KX G bo.Q9 ?a ?l ?c ?k;(case a|l|c|k=>k_is))
  (case S80=>refine' bo.aZ KX G bo.Ra ?a ?l ?c ?k;(case a|l|c|k=>k_is))
  (case S81=>refine' bo.aZ KX G bo.Rb ?a ?l ?c ?k;(case a|l|c|k=>k_is))
  (case S82=>refine' bo.aZ KX G bo.Rc ?a ?l ?c ?k;(case a|l|c|k=>k_is))
  (case S83=>refine' bo.aZ KX G bo.Rf ?a ?l ?c ?k;(case a|l|c|k=>k_is))
  (case T=>
   refine' bo.Iu KX G ?z0 ?z1 ?z2 ?z3 ?z4 ?z5 ?z6 ?z7 ?z8 ?z9 ?z10 ?z11 ?z12 ?m0 ?m1 ?m2 ?m3 ?m4 ?m5 ?m6 ?m7 ?m8 ?m9 ?m10 ?mv ?mr ?tv ?tr
   (case z0|z1|z2|z3|z4|z5|z6|z7|z8|z9|z10|z11|z12|m0|m1|m2|m3|m4|m5|m6|m7|m8|m9|m10|mv|mr=>k_is)
   (case tv=>
    refine' bo.Ig ?l ?lo ?e0 ?e1 ?e2 ?e3 ?e4 ?e5 ?e6 ?e7 ?e8 ?e9 ?e10 ?e11 ?l0 ?c0 ?d0 ?l1 ?c1 ?d1 ?l2 ?c2 ?d2 ?l3 ?c3 ?d3 ?l4 ?c4 ?d4 ?l5 ?c5 ?d5 ?l6 ?c6 ?d6 ?l7 ?c7 ?d7 ?l8 ?c8 ?d8 ?l9 ?c9 ?d9 ?l10 ?c10 ?d10 ?l11 ?c11 ?d11
    (case l=>k_is);(case lo=>decide)
    (case e0|e1|e2|e3|e4|e5|e6|e7|e8|e9|e10|e11=>rfl)
    (case l0|l1|l2|l3|l4|l5|l6|l7|l8|l9|l10|l11=>k_is);(case c0|d0|c1|d1|c2|d2|c3|d3|c4|d4|c5|d5|c6|d6|c7|d7|c8|d8|c9|d9|c10|d10|c11|d11=>rfl))
   (case tr=>
    refine' bo.EB ?l ?lo ?e0 ?e1 ?e2 ?e3 ?e4 ?e5 ?e6 ?e7 ?e8 ?e9 ?e10 ?e11 ?l0 ?c0 ?d0 ?l1 ?c1 ?d1 ?l2 ?c2 ?d2 ?l3 ?c3 ?d3 ?l4 ?c4 ?d4 ?l5 ?c5 ?d5 ?l6 ?c6 ?d6 ?l7 ?c7 ?d7 ?l8 ?c8 ?d8 ?l9 ?c9 ?d9 ?l10 ?c10 ?d10 ?l11 ?c11 ?d11
    (case l=>k_is);(case lo=>decide)
    (case e0|e1|e2|e3|e4|e5|e6|e7|e8|e9|e10|e11=>rfl)
    (case l0|l1|l2|l3|l4|l5|l6|l7|l8|l9|l10|l11=>k_is);(case c0|d0|c1|d1|c2|d2|c3|d3|c4|d4|c5|d5|c6|d6|c7|d7|c8|d8|c9|d9|c10|d10|c11|d11=>rfl)))
  (case Z=>
   refine' bo.Iw KX G ?n0 ?n1 ?n2 ?n3 ?n4 ?n5 ?n6 ?n7 ?n8 ?n9 ?h1 ?h2 ?h3 ?b2 ?b3 ?c1 ?t1 ?c2 ?t2 ?c3 ?t3 ?c4 ?t4 ?c5 ?t5 ?c6 ?t6 ?c7 ?t7 ?c8 ?t8 ?c9 ?t9 ?e1x ?a1x ?a2x ?b1x ?a4x ?a5x ?sux ?s2x ?d2x ?s3x ?d3x ?s4x ?d4x ?s5x ?d5x ?s6x ?d6x ?s7x ?d7x ?s8x ?d8x ?s9x ?d9x ?svx ?e1y ?a1y ?a2y ?b1y ?a4y ?a5y ?suy ?s1y ?d1y ?s3y ?d3y ?s4y ?d4y ?s5y ?d5y ?s6y ?d6y ?s7y ?d7y ?s8y ?d8y ?s9y ?d9y ?svy ?e1z ?a1z ?a2z ?b1z ?a4z ?a5z ?suz ?s1z ?d1z ?s2z ?d2z ?s4z ?d4z ?s5z ?d5z ?s6z ?d6z ?s7z ?d7z ?s8z ?d8z ?s9z ?d9z ?svz
   (case n0|n1|n2|n3|n4|n5|n6|n7|n8|n9|h1|h2|h3|b2|b3|c1|t1|c2|t2|c3|t3|c4|t4|c5|t5|c6|t6|c7|t7|c8|t8|c9|t9|a1x|a2x|b1x|a4x|a5x|sux|s2x|s3x|s4x|s5x|s6x|s7x|s8x|s9x|svx|a1y|a2y|b1y|a4y|a5y|suy|s1y|s3y|s4y|s5y|s6y|s7y|s8y|s9y|svy|a1z|a2z|b1z|a4z|a5z|suz|s1z|s2z|s4z|s5z|s6z|s7z|s8z|s9z|svz=>k_is);(case e1x|e1y|e1z=>k_exc);(case d2x|d3x|d4x|d5x|d6x|d7x|d8x|d9x|d1y|d3y|d4y|d5y|d6y|d7y|d8y|d9y|d1z|d2z|d4z|d5z|d6z|d7z|d8z|d9z=>decide))
