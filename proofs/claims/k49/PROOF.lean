import PyProof.Rows.All
import Wide.All
import OpenK.AllK
import Wide.FinOn
import Lean
import PyProof.EqAt
import PyProof.EqKinds
import PyProof.TupleCall
import PySem.Challenge.RW_stormpost_k49_ways_or_sides_told
set_option genSizeOf false
set_option compiler.extract_closed false
set_option Elab.async false
set_option linter.all false
set_option maxRecDepth 100000
namespace L2
open PySem PySem.Spec PyProof.Rows
abbrev Key:=Sum Int Str
def qh:Key->Value->Bool
 |.inl k,v=>Value.isInt k v
 |.inr x,v=>Value.isStrOf x v
def Kx(w:World):Key->Int
 |.inl k=>hashInt k
 |.inr x=>hashStr w x
theorem bG:∀{k:Key}{v:Value},qh k v=true->(∃i t,k=Sum.inl i/\v=Value.int i t)\/(∃x t,k=Sum.inr x/\v=Value.str x t)
 |.inl i,v,h=>by obtain⟨t,e⟩:=Value.isInt_shape (k:=i) (v:=v) h;exact .inl ⟨i,t,rfl,e⟩
 |.inr x,v,h=>by obtain⟨t,e⟩:=Value.isStrOf_shape (x:=x) (v:=v) h;exact .inr ⟨x,t,rfl,e⟩
theorem yZ(i:Int)(t:Tok):qh (.inl i) (.int i t)=true:=by simp[qh,Value.isInt]
theorem yb(x:Str)(t:Tok):qh (.inr x) (.str x t)=true:=by simp[qh,Value.isStrOf]
theorem FJ(a b:Int):decide ((Sum.inl a:Key)=Sum.inl b)=(a==b):=by
 by_cases e:a=b
 ·subst e;simp
 have h:¬(Sum.inl a:Key)=Sum.inl b:=λq=>e (Sum.inl.inj q);rw[decide_eq_false h];exact(beq_eq_false_iff_ne.mpr e).symm
theorem FK(a b:Str):decide ((Sum.inr a:Key)=Sum.inr b)=decide (a=b):=by
 by_cases e:a=b
 ·subst e;simp
 have h:¬(Sum.inr a:Key)=Sum.inr b:=λq=>e (Sum.inr.inj q);rw[decide_eq_false h,decide_eq_false e]
theorem FL(a:Int)(b:Str):decide ((Sum.inl a:Key)=Sum.inr b)=false:=decide_eq_false (λq=>nomatch q)
theorem FN(a:Str)(b:Int):decide ((Sum.inr a:Key)=Sum.inl b)=false:=decide_eq_false (λq=>nomatch q)
def aR(prog:Program)(w:World):PySem.KeyKind prog w Key where
 is:=qh
 hash:=Kx w
 inj:=λv a b ha hb=>by
  rcases bG ha with⟨i,t,rfl,rfl⟩|⟨x,t,rfl,rfl⟩
  ·rcases bG hb with⟨j,u,rfl,e⟩|⟨y,u,rfl,e⟩
   ·injection e with e1 _;rw[e1]
   exact nomatch e
  rcases bG hb with⟨j,u,rfl,e⟩|⟨y,u,rfl,e⟩
  ·exact nomatch e
  injection e with e1 _;rw[e1]
 byValue:=λk v h=>by rcases bG h with⟨i,t,rfl,rfl⟩|⟨x,t,rfl,rfl⟩<;>rfl
 pyHash:=λhv h=>by
  rcases bG hv with⟨i,t,rfl,rfl⟩|⟨x,t,rfl,rfl⟩
  ·exact wpAny_pyHash_int h
  exact wpAny_pyHash_str h
 eqBool:=λhu hv h=>by
  rcases bG hu with⟨i,t,rfl,rfl⟩|⟨x,t,rfl,rfl⟩
  ·rcases bG hv with⟨j,u,rfl,rfl⟩|⟨y,u,rfl,rfl⟩
   ·rw[FJ]at h;exact wpAny_eqBool_int h
   rw[FL]at h;exact SeqAt.EqAt.int_str i t y u _ _ _ _ h
  rcases bG hv with⟨j,u,rfl,rfl⟩|⟨y,u,rfl,rfl⟩
  ·rw[FN]at h;exact SeqAt.EqAt.str_int x t j u _ _ _ _ h
  rw[FK]at h;exact wpAny_eqBool_str h
 «strs»:=λk x t v h=>by
  rcases bG h with⟨i,u,rfl,e⟩|⟨y,u,rfl,e⟩
  ·exact nomatch e
  injection e with e1 _;subst e1;cases v<;>rfl
theorem nM(prog:Program)(w:World)(i:Int)(t:Tok):(aR prog w).is (.inl i) (.int i t)=true:=yZ i t
theorem nN(prog:Program)(w:World)(x:Str)(t:Tok):(aR prog w).is (.inr x) (.str x t)=true:=yb x t
inductive V where
 |bS|bl (b:Bool)|int (i:Int)|str (x:Str)|AH (b:Array UInt8)|FO (b:UInt64)|ref (a:Addr)|ty (n:String)
 deriving DecidableEq
def RelV:V->Value->Prop
 |.bS,u=>u=Value.none
 |.bl b,u=>u=Value.bool b
 |.int i,u=>∃t,u=Value.int i t
 |.str x,u=>∃t,u=Value.str x t
 |.AH b,u=>∃t,u=Value.bytes b t
 |.FO b,u=>∃t,u=Value.float b t
 |.ref a,u=>u=Value.ref a
 |.ty n,u=>u=Value.type n
abbrev aX:List V->List Value->Prop:=Paired RelV
theorem aX.length{xs:List V}{us:List Value}(r:aX xs us):xs.length=us.length:=Paired.length r
theorem aX.get:∀{xs:List V}{us:List Value}{i:Nat}{x:V},aX xs us->xs[i]?=some x->∃u,us[i]?=some u/\RelV x u
 |_,_,_,_,.nil,e=>by simp at e
 |_,_,0,_,.cons r _,e=>by simp at e;subst e;exact⟨_,rfl,r⟩
 |_,_,i+1,x,.cons _ t,e=>by obtain⟨u,h1,h2⟩:=aX.get (i:=i) (x:=x) t (by simpa using e);exact⟨u,by simpa using h1,h2⟩
theorem aX.append:∀{xs ys:List V}{us ws:List Value},aX xs us->aX ys ws->aX (xs++ys) (us++ws)
 |_,_,_,_,.nil,s=>s
 |_,_,_,_,.cons r t,s=>.cons r (aX.append t s)
theorem aX.take:∀{xs:List V}{us:List Value}(n:Nat),aX xs us->aX (xs.take n) (us.take n)
 |_,_,0,_=>.nil
 |_,_,_+1,.nil=>.nil
 |_,_,n+1,.cons r t=>.cons r (aX.take n t)
theorem aX.drop:∀{xs:List V}{us:List Value}(n:Nat),aX xs us->aX (xs.drop n) (us.drop n)
 |_,_,0,r=>r
 |_,_,_+1,.nil=>.nil
 |_,_,n+1,.cons _ t=>aX.drop n t
def eZ:Option V->Option Value->Prop
 |some v,some u=>RelV v u
 |none,none=>True
 |_,_=>False
def KV{κ:Type}:List (κ×V)->List (κ×Value)->Prop:=Paired λ(p:κ×V)(q:κ×Value)=>p.1=q.1/\RelV p.2 q.2
def kV:Key->V
 |.inl i=>.int i
 |.inr x=>.str x
inductive HO where
 |lst (xs:List V)
 |tup (xs:List V)
 |dK (kvs:List (Key×V))|dT (kvs:List (List Key×V))
 |set (S:Int->Bool) (n:Nat)
 |ins (C dx:Addr) (fs:List (Str×V))
 |own (x:Addr)
 |xd (fs:List (Str×V))
 |met (f x:Addr)
 |Ky (lo hi:Int)
 |xT (o:Obj) (u:HO)
 |FP (ps:Array Value)
 |ext (φ:Heap->Prop)
abbrev Hp:=Addr->Option HO
def upd(H:Hp)(a:Addr)(o:HO):Hp:=λb=>if b=a then some o else H b
theorem aB{H:Hp}{a:Addr}{o:HO}:upd H a o a=some o:=by unfold upd;rw[if_pos rfl]
theorem aL{H:Hp}{a b:Addr}{o:HO}(h:b≠a):upd H a o b=H b:=by unfold upd;rw[if_neg h]
theorem kA{H:Hp}{a b:Addr}{o u:HO}(h:H a=some o)(h':H b=some u)(d:o≠u):a≠b:=by intro e;subst e;rw[h]at h';exact d (Option.some.inj h')
theorem ag{H:Hp}{a b:Addr}{o:HO}(h:H a=some o)(h':H b=none):a≠b:=by intro e;subst e;rw[h]at h';cases h'
section
variable(P:Program)(w:World)
def ay(H:Hp)(h:Heap)(a:Addr):HO->Prop
 |.lst xs=>xs.length<=sizeLine/\∃(aS:List Value)(n:Nat),aX xs aS/\h.get? a=some { cls:=.type "list",data:=.seq aS.toArray n }
 |.tup xs=>xs.length<=sizeLine/\∃aS:List Value,aX xs aS/\IsTup h a aS.toArray
 |.dK kvs=>kvs.length<=sizeLine/\(a==sysModules)=false/\∃vs,KV kvs vs/\h.DictOf (aR P w) a vs
 |.dT kvs=>kvs.length<=sizeLine/\(a==sysModules)=false/\∃xs:List (List Key×Addr×Value),
   Paired (λ(p:List Key×V)(q:List Key×Addr×Value)=>p.1=q.1/\H q.2.1=some (.tup (p.1.map kV))/\RelV p.2 q.2.2) kvs xs /\
   ∃o es ep,h.get? a=some o/\o.ExactDict/\o.data=.dict es ep/\es.toList=xs.map (entryOfKey (tupleKind (aR P w)))/\(xs.map (·.1)).Nodup
 |.set S n=>h.SetOf (intKind P w) a S n
 |.ins C dx fs=>H dx=some (.own a)/\fs.length<=1000/\dx≠a/\h.get? a=some (PySem.W.instObj C dx) /\
   ∃mA,h.Ns1 dx mA/\(∀f,eZ (fs.lookup f) (mA f))/\PySem.Within mA (fs.map (·.1))
 |.own _=>∃o,h.get? a=some o
 |.xd fs=>∃mA,h.Ns1 a mA/\∀f,eZ (fs.lookup f) (mA f)
 |.Ky lo hi=>∃t u v,h.get? a=some { cls:=.type "range",data:=.fields #[.int lo t,.int hi u,.int 1 v] }
 |.xT o u=>h.get? a=some o/\ay H h a u
 |.FP ps=>h.get? a=some { cls:=.none,data:=.fields ps }
 |.met f x=>h.get? a=some (PySem.W.methodObj (.ref f) (.ref x))
 |.ext φ=>φ h/\(∃o,h.get? a=some o)/\∀h1 h2:Heap,φ h1->(∀o,h1.get? a=some o->h2.get? a=some o)->φ h2
def kQ(H:Hp)(h:Heap):Prop:=∀a o,H a=some o->ay P w H h a o
end
section
variable{P:Program}{w:World}{H H':Hp}{h h':Heap}{a:Addr}{o:HO}
theorem ay.lt(x:ay P w H h a o):a<h.objs.size:=by
 cases o with
 |lst xs=>obtain⟨_,_,_,_,e⟩:=x;exact Heap.lt_size e
 |tup xs=>obtain⟨_,_,_,p⟩:=x;exact p.lt
 |dK kvs=>obtain⟨_,_,_,_,o,_,_,e,_⟩:=x;exact Heap.lt_size e
 |dT kvs=>obtain⟨_,_,_,_,o,_,_,e,_⟩:=x;exact Heap.lt_size e
 |set S n=>obtain⟨o,_,_,_,e,_⟩:=x;exact Heap.lt_size e
 |ins C dx fs=>obtain⟨_,_,_,e,_⟩:=x;exact Heap.lt_size e
 |own y=>obtain⟨_,e⟩:=x;exact Heap.lt_size e
 |xd fs=>obtain⟨_,⟨_,_,_,e,_⟩,_⟩:=x;exact Heap.lt_size e
 |Ky lo hi=>obtain⟨_,_,_,e⟩:=x;exact Heap.lt_size e
 |xT ob u=>obtain⟨e,_⟩:=x;exact Heap.lt_size e
 |FP ps=>exact Heap.lt_size (show h.get? a=some _ from x)
 |met f y=>exact Heap.lt_size (show h.get? a=some _ from x)
 |ext φ=>obtain⟨_,⟨_,e⟩,_⟩:=x;exact Heap.lt_size e
theorem Paired.FQ{α β:Type}{F G:α->β->Prop}:∀{l₁:List α}{l₂:List β},Paired F l₁ l₂->(∀a b,F a b->G a b)->Paired G l₁ l₂
 |_,_,.nil,_=>.nil
 |_,_,.cons r t,f=>.cons (f _ _ r) (Paired.FQ t f)
theorem ay.j8(x:ay P w H h a o)(k:∀b u,(b=a\/H b=some (.own a))->h.get? b=some u->h'.get? b=some u)(ho:∀b,H b=some (.own a)->H' b=some (.own a))(ht:∀b xs,H b=some (.tup xs)->H' b=some (.tup xs)):ay P w H' h' a o:=by
 induction o with
 |lst xs=>obtain⟨z,aS,n,r,e⟩:=x;exact⟨z,aS,n,r,k _ _ (.inl rfl) e⟩
 |tup xs=>obtain⟨z,aS,r,ob,e,c⟩:=x;exact⟨z,aS,r,ob,k _ _ (.inl rfl) e,c⟩
 |dK kvs=>obtain⟨z,y,vs,r,ob,es,ep,e,c⟩:=x;exact⟨z,y,vs,r,ob,es,ep,k _ _ (.inl rfl) e,c⟩
 |dT kvs =>
  obtain⟨z,y,xs,r,ob,es,ep,e,c⟩:=x;exact⟨z,y,xs,Paired.FQ r λp q z=>⟨z.1,ht _ _ z.2.1,z.2.2⟩,ob,es,ep,k _ _ (.inl rfl) e,c⟩
 |set S n=>obtain⟨ob,es,ep,t,e,c⟩:=x;exact⟨ob,es,ep,t,k _ _ (.inl rfl) e,c⟩
 |ins C dx fs =>
  obtain⟨d,z,ne,e,mA,⟨od,es,ep,e2,c⟩,r⟩:=x;exact⟨ho _ d,z,ne,k _ _ (.inl rfl) e,mA,⟨od,es,ep,k _ _ (.inr d) e2,c⟩,r⟩
 |own y=>obtain⟨ob,e⟩:=x;exact⟨ob,k _ _ (.inl rfl) e⟩
 |xd fs=>obtain⟨mA,⟨od,es,ep,e,c⟩,r⟩:=x;exact⟨mA,⟨od,es,ep,k _ _ (.inl rfl) e,c⟩,r⟩
 |Ky lo hi=>obtain⟨t,u,v,e⟩:=x;exact⟨t,u,v,k _ _ (.inl rfl) e⟩
 |xT ob u ih=>obtain⟨e,q⟩:=x;exact⟨k _ _ (.inl rfl) e,ih q⟩
 |FP ps =>
  have e:h.get? a=some { cls:=.none,data:=.fields ps }:=x;show h'.get? a=some { cls:=.none,data:=.fields ps };exact k a _ (.inl rfl) e
 |met f y =>
  have e:h.get? a=some (PySem.W.methodObj (.ref f) (.ref y)):=x;show h'.get? a=some (PySem.W.methodObj (.ref f) (.ref y));exact k a _ (.inl rfl) e
 |ext φ=>obtain⟨p,⟨o,e⟩,st⟩:=x;exact⟨st _ _ p λo q=>k _ _ (.inl rfl) q,⟨o,k _ _ (.inl rfl) e⟩,st⟩
theorem kQ.lt(x:kQ P w H h)(e:H a=some o):a<h.objs.size:=(x a o e).lt
theorem kQ.fresh(x:kQ P w H h)(e:h.objs.size<=a):H a=none:=by
 cases q:H a with
 |none=>rfl
 |some u=>exact absurd (Nat.lt_of_lt_of_le (x.lt q) e) (Nat.lt_irrefl _)
theorem kQ.kept(x:kQ P w H h)(k:∀b u,h.get? b=some u->h'.get? b=some u):kQ P w H h':=λa o e =>
 (x a o e).j8 (λb u _ q=>k b u q) (λ_ q=>q) λ_ _ q=>q
theorem kQ.laid(x:kQ P w H h)(k:∀b u,h.get? b=some u->h'.get? b=some u)(hp:h.objs.size<=a)(new:ay P w (upd H a o) h' a o):kQ P w (upd H a o) h':=λb u e=>by
 have hn:=x.fresh hp;by_cases hb:b=a
 ·subst hb;rw[aB]at e;cases e;exact new
 rw[aL hb]at e;exact(x b u e).j8 (λc v _ q=>k c v q) (λc q=>by rw[aL (ag q hn)];exact q) λc xs q=>by rw[aL (ag q hn)];exact q
end
def Rd(H:Hp)(a:Addr)(u:HO):Prop:=H a=some u\/∃o,H a=some (.xT o u)
theorem Rd.ok{P:Program}{w:World}{H:Hp}{h:Heap}{a:Addr}{u:HO}(r:Rd H a u)(x:kQ P w H h):ay P w H h a u:=by
 rcases r with r|⟨o,r⟩
 ·exact x a u r
 obtain⟨_,q⟩:=x a _ r;exact q
def G3:Option HO->Prop
 |some (.lst _)=>True
 |some (.dK _)=>True
 |some (.dT _)=>True
 |some (.set _ _)=>True
 |some (.ins _ _ _)=>True
 |some (.ext _)=>True
 |_=>False
section
variable{P:Program}{w:World}{H:Hp}{h h':Heap}{x e:Addr}{o':HO}
theorem kQ.write(ok:kQ P w H h)(mu:G3 (H x))(he:e=x\/H e=some (.own x))(k:∀b u,b≠e->h.get? b=some u->h'.get? b=some u)(G4:∃u,h'.get? e=some u)(new:ay P w (upd H x o') h' x o'):kQ P w (upd H x o') h':=λb u q=>by
 have HW:∀c y,H c=some (.own y)->c≠x:=λc y r z=>by subst z;rw[r]at mu;exact mu
 have Kz:∀c xs,H c=some (.tup xs)->c≠x:=λc xs r z=>by subst z;rw[r]at mu;exact mu
 by_cases hb:b=x
 ·subst hb;rw[aB]at q;cases q;exact new
 rw[aL hb]at q;by_cases FR:b=e
 ·have q':H b=some (.own x):=by
   rcases he with z|z
   ·exact absurd (FR.trans z) hb
   rw[FR];exact z
  rw[q]at q';cases q';obtain⟨v,hv⟩:=G4;exact⟨v,by rw[FR];exact hv⟩
 refine(ok b u q).j8 (λc v hc r=>k c v ?_ r) (λc r=>by rw[aL (HW c b r)];exact r) λc xs r=>by rw[aL (Kz c xs r)];exact r
 rcases hc with rfl|hc
 ·exact FR
 rintro rfl;rcases he with z|z
 ·exact HW c b hc z
 rw[hc]at z;cases z;exact hb rfl
end
structure Un(fs ex:List Addr)(H H':Hp)(h h':Heap):Prop where
 keep:∀b o,h.get? b=some o->H b=none->b∉fs->b∉ex->h'.get? b=some o
 slot:∀b o,h.get? b=some o->H b=none->b∈fs->b∉ex->∃sl,h'.get? b=some { o with slots:=sl }
 free:∀b o,h.get? b=some o->H b=none->b∉ex->H' b=none
 there:∀b o,h.get? b=some o->b∉ex->∃o',h'.get? b=some o'
 tY:∀b xs,H b=some (.tup xs)->H' b=some (.tup xs)
 rZ:∀b o u,H b=some (.xT o u)->H' b=some (.xT o u)
 tZ:∀b ps,H b=some (.FP ps)->∃more,H' b=some (.FP (ps++more))
section
variable{fs K0 ex OL:List Addr}{H H1 H2:Hp}{h h1 h2 h':Heap}{a x e:Addr}{o:HO}
theorem Un.any(u:Un fs ex H H1 h h1){b:Addr}{ob:Obj}(q:h.get? b=some ob)(n:H b=none)(hx:b∉ex):∃sl,h1.get? b=some { ob with slots:=sl }:=by
 by_cases hb:b∈fs
 ·exact u.slot b ob q n hb hx
 exact⟨ob.slots,u.keep b ob q n hb hx⟩
theorem Un.kept(k:∀b u,h.get? b=some u->h'.get? b=some u):Un fs ex H H h h' :=
 ⟨λb ob q _ _ _=>k b ob q,λb ob q _ _ _=>⟨ob.slots,k b ob q⟩,λ_ _ _ n _=>n,λb ob q _=>⟨ob,k b ob q⟩,λ_ _ q=>q,λ_ _ _ q=>q,λ_ ps q=>⟨#[],by rw[q];simp⟩⟩
theorem Un.refl:Un fs ex H H h h:=Un.kept λ_ _ q=>q
theorem Un.laid(k:∀b u,h.get? b=some u->h'.get? b=some u)(hp:h.objs.size<=a)(hn:H a=none):Un fs ex H (upd H a o) h h' where
 keep:=λb u q _ _ _=>k b u q
 slot:=λb u q _ _ _=>⟨u.slots,k b u q⟩
 free:=λb u q n _=>by rw[aL (Nat.ne_of_lt (Nat.lt_of_lt_of_le (Heap.lt_size q) hp))];exact n
 there:=λb u q _=>⟨u,k b u q⟩
 tY:=λb xs q=>by rw[aL (ag q hn)];exact q
 rZ:=λb u xs q=>by rw[aL (ag q hn)];exact q
 tZ:=λb ps q=>⟨#[],by rw[aL (ag q hn),q];simp⟩
theorem Un.write(mu:G3 (H x))(he:e=x\/H e=some (.own x))(k:∀b u,b≠e->h.get? b=some u->h'.get? b=some u)(G4:∃u,h'.get? e=some u):Un fs ex H (upd H x o) h h':=by
 have hx:∀b,H b=none->b≠x:=λb n z=>by subst z;rw[n]at mu;exact mu
 have hb:∀b,H b=none->b≠e:=λb n z=>by
  subst z;rcases he with r|r
  ·exact hx b n r
  rw[n]at r;cases r
 have hm:∀b u,H b=some u->¬G3 (some u)->b≠x:=λb u q nm z=>by subst z;rw[q]at mu;exact nm mu
 refine⟨λb u q n _ _=>k b u (hb b n) q,λb u q n _ _=>⟨u.slots,k b u (hb b n) q⟩,λb u q n _=>by rw[aL (hx b n)];exact n,λb u q _=>?_,
  λb xs q=>by rw[aL (hm b _ q λz=>z)];exact q,λb u xs q=>by rw[aL (hm b _ q λz=>z)];exact q,λb ps q=>⟨#[],by rw[aL (hm b _ q λz=>z),q];simp⟩⟩
 by_cases FR:b=e
 ·subst FR;exact G4
 exact⟨u,k b u FR q⟩
end
def HX(h:Heap)(H:Hp):List Addr:=(List.range h.objs.size).filter λa=>(H a).isSome
def rf(h:Heap)(H:Hp):Heap:=PySem.W.hideAll h (HX h H)
theorem yc(h:Heap)(H:Hp):(rf h H).objs.size=h.objs.size:=PySem.W.hideAll_size _ _
theorem AQ{h:Heap}{H:Hp}{b:Addr}{o:Obj}(e:h.get? b=some o)(n:H b=none):(rf h H).get? b=some o :=
 PySem.W.hideAll_get _ e λhm=>by have q:(H b).isSome=true:=(List.mem_filter.mp hm).2;rw[n]at q;simp at q
theorem Cn{h:Heap}{H:Hp}{b:Addr}{o:Obj}(e:(rf h H).get? b=some o):h.get? b=some o/\H b=none:=by
 have e':h.get? b=some o:=PySem.W.of_hideAll (HX h H) e;refine⟨e',?_⟩;cases q:H b with
 |none=>rfl
 |some x =>
  have hm:b∈HX h H:=List.mem_filter.mpr ⟨List.mem_range.mpr (Heap.lt_size e'),by simp[q]⟩;have z:(rf h H).get? b=none:=PySem.W.hideAll_none (HX h H) hm;rw[z]at e;cases e
structure Mod(K:PySem.W.Frag)(mg:Str->Option Value)(base:Heap):Prop where
 J6:K.In base
 glob:base.Ns mainGlobals mg
 blt:∃mb,base.Ns builtinsNs mb/\∀x:Str,x≠"__name__"->mb x=bootBuiltins x
 nolimit:base.NoLimit
structure Cx where
 prog:Program
 w:World
 K:PySem.W.Frag
 mg:Str->Option Value
 base:Heap
 A:Around
 N:List Str
 s₀:Shared
 H₀:Hp
 env:Env
 outer:List Env
 stack:List Env
 ex:List Addr
 fn:Str->Bool
 calm:Bool
 pn:List (Addr×Obj)
 xe:Value->Shared->Prop
def yd(l:List Env):List Addr:=l.filterMap (·.frame)
abbrev Cx.fs(X:Cx):List Addr:=yd X.outer
def J7(sc:Scope)(x:Str):Prop:=sc.names.lookup x=some .local\/sc.names.lookup x=some .cell\/sc.names.lookup x=some .free
def Loc(sc:Scope)(x:Str):Prop:=sc.names.lookup x=some .local\/sc.names.lookup x=some .cell
def Look(env:Env)(h:Heap)(m:Str->Option Value)(x:Str)(u:Value):Prop :=
 (env.kindOf x=some .local/\m x=some u)\/((env.kindOf x=some .cell\/env.kindOf x=some .free)/\∃c,env.cells.lookup x=some c/\h.IsCell c (some u))
structure Cx.Ok(X:Cx):Prop where
 mod:Mod X.K X.mg X.base
 kind:X.env.scope.kind=.function
 glob:X.env.globals=mainGlobals
 blt:X.env.builtins=builtinsNs
 above:X.s₀.heap.objs.size<=X.env.locals
 inj:∀x y c,X.env.cells.lookup x=some c->X.env.cells.lookup y=some c->x=y
 has:∀x,(X.env.kindOf x=some .cell\/X.env.kindOf x=some .free)->∃c,X.env.cells.lookup x=some c
 FT:∀x c,X.fn x=true->X.env.cells.lookup x=some c->X.s₀.heap.objs.size<=c
 hd:X.calm=true->X.A.handled=none
 frames:X.A.frames=some X.stack
 J8:X.stack=X.outer\/(X.stack=X.env::X.outer/\X.env.frame=some X.env.locals)
 HY:∀b∈X.ex,b≠X.env.locals/\∀x c,X.env.cells.lookup x=some c->c≠b
 bs:∀b o,X.base.get? b=some o->X.s₀.heap.get? b=some o/\X.H₀ b=none
 Co:X.base.objs.size<=X.s₀.heap.objs.size
 vP:∀b o,X.base.get? b=some o->b∉X.ex
 vQ:∀b∈X.ex,b∉X.fs
 n4:X.s₀.heap.FunFrames X.base X.outer
 FU:∀b∈X.fs,X.H₀ b=none
structure Inv(X:Cx)(pins:List (Addr×Obj))(σ:List (Option V))(H:Hp)(s:Shared):Prop where
 ok:X.Ok
 os:s.os=X.s₀.os
 bare:AllBare s.gens
 base:Un X.fs X.ex X.H₀ H X.s₀.heap s.heap
 loc:∃m,s.heap.Ns X.env.locals m/\∀(i:Nat)(x:Str)(v:V),X.N[i]?=some x->σ[i]?=some (some v)->J7 X.env.scope x->∃u,RelV v u/\Look X.env s.heap m x u
 cell:∀x c,X.env.cells.lookup x=some c->∃v,s.heap.IsCell c v
 free:H X.env.locals=none
 i7:∀x c,X.env.cells.lookup x=some c->H c=none
 pin:∀p∈X.pn++pins,s.heap.get? p.1=some p.2/\H p.1=none/\p.1≠X.env.locals/\p.1∉X.fs/\∀v,p.2.data≠.cell v
 aw:kQ X.prog X.w H s.heap
 len:σ.length=X.N.length
section
variable{X:Cx}{pins:List (Addr×Obj)}{σ:List (Option V)}{H H':Hp}{s:Shared}{h':Heap}
theorem Cx.Ok.K1(ok:X.Ok){b:Addr}{o:Obj}(e:X.base.get? b=some o):b∉X.fs:=λhb=>by have:=(ok.n4.mem hb).1;rw[e]at this;cases this
theorem Inv.bs(I:Inv X pins σ H s):∀b o,X.base.get? b=some o->s.heap.get? b=some o/\H b=none:=λb o e =>
 ⟨I.base.keep b o (I.ok.bs b o e).1 (I.ok.bs b o e).2 (I.ok.K1 e) (I.ok.vP b o e),I.base.free b o (I.ok.bs b o e).1 (I.ok.bs b o e).2 (I.ok.vP b o e)⟩
theorem Inv.bk(I:Inv X pins σ H s):∀b o,X.base.get? b=some o->s.heap.get? b=some o:=λb o e=>(I.bs b o e).1
theorem Inv.mod(I:Inv X pins σ H s):Mod X.K X.mg X.base:=I.ok.mod
theorem Inv.mV(I:Inv X pins σ H s):X.K.In s.heap:=I.ok.mod.J6.keeps I.bk
theorem Inv.lt(I:Inv X pins σ H s):X.env.locals<s.heap.objs.size:=let⟨_,hn,_⟩:=I.loc;hn.lt
theorem Inv.sz(I:Inv X pins σ H s):X.s₀.heap.objs.size<=s.heap.objs.size:=Nat.le_trans I.ok.above (Nat.le_of_lt I.lt)
theorem Inv.K2(I:Inv X pins σ H s){a:Addr}(h:s.heap.objs.size<=a):a∉X.fs:=λhb=>by obtain⟨_,o,ho,_⟩:=I.ok.n4.mem hb;exact absurd (Nat.lt_of_lt_of_le (Heap.lt_size ho) (Nat.le_trans I.sz h)) (Nat.lt_irrefl _)
theorem Inv.FV(I:Inv X pins σ H s):∀x c,X.env.cells.lookup x=some c->c≠X.env.locals:=λx c e z=>by obtain⟨v,o,ho,hd⟩:=I.cell x c e;obtain⟨m,⟨o',es,ep,tS,qA,_⟩,_⟩:=I.loc;rw[z,tS]at ho;cases ho;rw[qA]at hd;cases hd
theorem Inv.n4(I:Inv X pins σ H s):s.heap.FunFrames X.base X.outer:=by
 have all:∀(l:List Env),(∀b∈yd l,b∈X.fs)->X.s₀.heap.FunFrames X.base l->s.heap.FunFrames X.base l:=by
  intro l
  induction l with
  |nil=>intro _ _;trivial
  |cons env r ih =>
   intro hs hl;obtain⟨hk,⟨L,o,hf,hn,ho,hd⟩,hr⟩:=hl;have hL:L∈X.fs:=hs L (by unfold yd;rw[List.filterMap_cons,hf];exact List.mem_cons_self);obtain⟨sl,e⟩:=I.base.slot L o ho (I.ok.FU L hL) hL λz=>I.ok.vQ L z hL;exact⟨hk,⟨L,_,hf,hn,e,hd⟩,ih (λb hb=>hs b (by unfold yd;rw[List.filterMap_cons,hf];exact List.mem_cons_of_mem _ hb)) hr⟩
 exact all X.outer (λ_ hb=>hb) I.ok.n4
theorem Inv.stack(I:Inv X pins σ H s):s.heap.FunFrames X.base X.stack:=by
 rcases I.ok.J8 with e|⟨e,hf⟩
 ·rw[e];exact I.n4
 rw[e];obtain⟨m,hn,_⟩:=I.loc;refine .cons (by rw[I.ok.kind];decide) hf hn ?_ I.n4;exact Heap.get?_none_of_le (Nat.le_trans I.ok.Co I.ok.above)
theorem Inv.vR(I:Inv X pins σ H s):∀b∈yd X.stack,b∈X.env.locals::X.fs:=λb hb=>by
 rcases I.ok.J8 with e|⟨e,hf⟩
 ·rw[e]at hb;exact List.mem_cons_of_mem _ hb
 rw[e]at hb;unfold yd at hb;rw[List.filterMap_cons,hf]at hb;exact hb
theorem Inv.xU(I:Inv X pins σ H s):∀b∈yd X.stack,H b=none:=λb hb=>by
 rcases List.mem_cons.mp (I.vR b hb)with e|hb
 ·rw[e];exact I.free
 obtain⟨_,o,ho,_⟩:=I.ok.n4.mem hb;exact I.base.free b o ho (I.ok.FU b hb) λz=>I.ok.vQ b z hb
theorem Inv.step{g':Array GenState}{t':Nat}{d':Drawn}{ch:List Addr}(I:Inv X pins σ H s)(Cd:∀b∈ch,(b∈X.ex\/X.s₀.heap.objs.size<=b)/\b≠X.env.locals/\(∀x c,X.env.cells.lookup x=some c->c≠b)/\∀p∈X.pn++pins,p.1≠b)(keep:∀b o,b≠X.env.locals->b∉X.fs->b∉ch->s.heap.get? b=some o->H b=none->h'.get? b=some o)(slot:∀b o,b≠X.env.locals->b∈X.fs->b∉ch->s.heap.get? b=some o->H b=none->∃sl,h'.get? b=some { o with slots:=sl })(free:∀b o,b∉ch->s.heap.get? b=some o->H b=none->H' b=none)(there:∀b o,b∉ch->s.heap.get? b=some o->∃o',h'.get? b=some o')(tY:∀b xs,H b=some (.tup xs)->H' b=some (.tup xs))(rZ:∀b o u,H b=some (.xT o u)->H' b=some (.xT o u))(tZ:∀b ps,H b=some (.FP ps)->∃more,H' b=some (.FP (ps++more)))(ns:∀m,s.heap.Ns X.env.locals m->h'.Ns X.env.locals m)(aw:kQ X.prog X.w H' h')(hg:AllBare g'):
  Inv X pins σ H' { s with heap:=h',gens:=g',drawn:=d',toks:=t' }:=by
 have M8:∀b o,X.s₀.heap.get? b=some o->b≠X.env.locals:=λb o e=>Nat.ne_of_lt (Nat.lt_of_lt_of_le (Heap.lt_size e) I.ok.above);have J9:∀b o,X.s₀.heap.get? b=some o->b∉X.ex->b∉ch:=λb o e hx hb=>by
  rcases(Cd b hb).1 with z|z
  ·exact hx z
  exact absurd (Nat.lt_of_lt_of_le (Heap.lt_size e) z) (Nat.lt_irrefl _)
 have cellK:∀x c,X.env.cells.lookup x=some c->∀v,s.heap.IsCell c v->h'.IsCell c v:=λx c e v ⟨o,ho,hd⟩=>by
  have HZ:c∉ch:=λz=>(Cd c z).2.2.1 x c e rfl;by_cases hc:c∈X.fs
  ·obtain⟨sl,q⟩:=slot c o (I.FV x c e) hc HZ ho (I.i7 x c e);exact⟨_,q,hd⟩
  exact⟨o,keep c o (I.FV x c e) hc HZ ho (I.i7 x c e),hd⟩
 refine⟨I.ok,I.os,hg,⟨λb o e n hb hx=>?_,λb o e n hb hx=>?_,λb o e n hx=>?_,λb o e hx=>?_,λb xs e=>tY b xs (I.base.tY b xs e),λb o xs e=>rZ b o xs (I.base.rZ b o xs e),λb ps e=>?_⟩,?_,λx c e=>?_,?_,λx c e=>?_,λp hp=>?_,aw,I.len⟩
 ·exact keep b o (M8 b o e) hb (J9 b o e hx) (I.base.keep b o e n hb hx) (I.base.free b o e n hx)
 ·obtain⟨sl,e1⟩:=I.base.slot b o e n hb hx;obtain⟨K3,e2⟩:=slot b _ (M8 b o e) hb (J9 b o e hx) e1 (I.base.free b o e n hx);exact⟨K3,e2⟩
 ·obtain⟨o',e1⟩:=I.base.there b o e hx;exact free b o' (J9 b o e hx) e1 (I.base.free b o e n hx)
 ·obtain⟨o',e1⟩:=I.base.there b o e hx;exact there b o' (J9 b o e hx) e1
 ·obtain⟨m1,e1⟩:=I.base.tZ b ps e;obtain⟨m2,e2⟩:=tZ b _ e1;exact⟨m1++m2,by rw[e2,Array.append_assoc]⟩
 ·obtain⟨m,hn,hl⟩:=I.loc;refine⟨m,ns m hn,λi x v e1 e2 e3=>?_⟩;obtain⟨u,r,l⟩:=hl i x v e1 e2 e3;refine⟨u,r,?_⟩;rcases l with l|⟨k,c,e,z⟩
  ·exact .inl l
  exact .inr ⟨k,c,e,cellK x c e _ z⟩
 ·obtain⟨v,z⟩:=I.cell x c e;exact⟨v,cellK x c e v z⟩
 ·obtain⟨m,⟨o,_,_,ho,_⟩,_⟩:=I.loc;exact free _ o (λz=>(Cd _ z).2.1 rfl) ho I.free
 ·obtain⟨v,o,ho,hd⟩:=I.cell x c e;exact free c o (λz=>(Cd c z).2.2.1 x c e rfl) ho (I.i7 x c e)
 obtain⟨e,n,ne,nf,d⟩:=I.pin p hp;have HZ:p.1∉ch:=λz=>(Cd p.1 z).2.2.2 p hp rfl;exact⟨keep p.1 p.2 ne nf HZ e n,free p.1 p.2 HZ e n,ne,nf,d⟩
theorem Inv.un{t':Nat}(I:Inv X pins σ H s)(u:Un X.fs [] H H' s.heap h')(aw:kQ X.prog X.w H' h'):Inv X pins σ H' { s with heap:=h',toks:=t' }:=by
 obtain⟨m,⟨o,es,ep,ho,r⟩,_⟩:=id I.loc;obtain⟨sl,hL⟩:=u.any ho I.free (by simp);exact I.step (g':=s.gens) (d':=s.drawn) (ch:=[]) (λ_ z=>nomatch z) (λb o _ hb _ e n=>u.keep b o e n hb (by simp)) (λb o _ hb _ e n=>u.slot b o e n hb (by simp)) (λb o _ e n=>u.free b o e n (by simp)) (λb o _ e=>u.there b o e (by simp)) u.tY u.rZ u.tZ (λm' hm=>by obtain⟨o',K4,K5,tS,r'⟩:=hm;rw[ho]at tS;cases tS;exact⟨_,K4,K5,hL,r'⟩) aw I.bare
theorem Inv.call{g':Array GenState}{t':Nat}{d':Drawn}{ch:List Addr}(I:Inv X pins σ H s)(u:Un (yd X.stack) ch H H' s.heap h')(aw:kQ X.prog X.w H' h')(hg:AllBare g')(Cd:∀b∈ch,(b∈X.ex\/X.s₀.heap.objs.size<=b)/\b≠X.env.locals/\(∀x c,X.env.cells.lookup x=some c->c≠b)/\∀p∈X.pn++pins,p.1≠b):
  Inv X pins σ H' { s with heap:=h',gens:=g',drawn:=d',toks:=t' }:=by
 obtain⟨m,⟨o,es,ep,ho,r⟩,_⟩:=id I.loc;obtain⟨sl,hL⟩:=u.any ho I.free λz=>(Cd _ z).2.1 rfl;exact I.step (ch:=ch) Cd (λb o hL hb hc e n=>u.keep b o e n (λz=>(List.mem_cons.mp (I.vR b z)).elim hL hb) hc) (λb o _ _ hc e n=>u.any e n hc) (λb o hc e n=>u.free b o e n hc) (λb o hc e=>u.there b o e hc) u.tY u.rZ u.tZ (λm' hm=>by obtain⟨o',K4,K5,tS,r'⟩:=hm;rw[ho]at tS;cases tS;exact⟨_,K4,K5,hL,r'⟩) aw hg
theorem Inv.turned{t':Nat}{it:Addr}(I:Inv X pins σ H s)(k:∀b o,b≠it->s.heap.get? b=some o->h'.get? b=some o)(hn:H it=none)(hL:it≠X.env.locals)(h1:it∈X.ex\/X.s₀.heap.objs.size<=it)(h2:∀x c,X.env.cells.lookup x=some c->c≠it)(h3:∀p∈X.pn++pins,p.1≠it):Inv X pins σ H { s with heap:=h',toks:=t' }:=by
 have M9:∀b u,H b=some u->b≠it:=λb u e z=>by rw[z,hn]at e;cases e
 refine I.step (g':=s.gens) (d':=s.drawn) (ch:=[it]) (λb hb=>?_) (λb o _ _ hc e _=>k b o (λz=>hc (by simp[z])) e) (λb o _ _ hc e _=>⟨o.slots,k b o (λz=>hc (by simp[z])) e⟩) (λ_ _ _ _ n=>n)
  (λb o hc e=>⟨o,k b o (λz=>hc (by simp[z])) e⟩) (λ_ _ e=>e) (λ_ _ _ e=>e) (λb ps e=>⟨#[],by rw[e];simp⟩) (λm hm=>?_) (λb u e=>?_) I.bare
 ·have e:b=it:=by simpa using hb
  subst e;exact⟨h1,hL,h2,h3⟩
 ·obtain⟨o,es,ep,ho,r⟩:=hm;exact⟨o,es,ep,k _ o (Ne.symm hL) ho,r⟩
 refine(I.aw b u e).j8 (λc v hc q=>k c v ?_ q) (λ_ q=>q) λ_ _ q=>q;rcases hc with z|z
 ·rw[z];exact M9 b u e
 exact M9 c _ z
theorem Inv.tok(I:Inv X pins σ H s)(t:Nat):Inv X pins σ H { s with toks:=t }:=I.un (h':=s.heap) (t':=t) Un.refl I.aw
theorem Inv.kept{t':Nat}(I:Inv X pins σ H s)(k:∀b u,s.heap.get? b=some u->h'.get? b=some u):Inv X pins σ H { s with heap:=h',toks:=t' }:=I.un (Un.kept k) (I.aw.kept k)
theorem Inv.laid{a:Addr}{o:HO}{t':Nat}(I:Inv X pins σ H s)(k:∀b u,s.heap.get? b=some u->h'.get? b=some u)(hp:s.heap.objs.size<=a)(new:ay X.prog X.w (upd H a o) h' a o):
  Inv X pins σ (upd H a o) { s with heap:=h',toks:=t' }:=I.un (Un.laid k hp (I.aw.fresh hp)) (I.aw.laid k hp new)
theorem Inv.write{x e:Addr}{o:HO}{t':Nat}(I:Inv X pins σ H s)(mu:G3 (H x))(he:e=x\/H e=some (.own x))(k:∀b u,b≠e->s.heap.get? b=some u->h'.get? b=some u)(G4:∃u,h'.get? e=some u)(new:ay X.prog X.w (upd H x o) h' x o):Inv X pins σ (upd H x o) { s with heap:=h',toks:=t' }:=I.un (Un.write mu he k G4) (I.aw.write mu he k G4 new)
theorem Inv.xV{Ed:List (Addr×Obj)}(I:Inv X pins σ H s)(h:∀p∈Ed,s.heap.get? p.1=some p.2/\H p.1=none/\p.1≠X.env.locals/\p.1∉X.fs/\∀v,p.2.data≠.cell v):Inv X Ed σ H s :=
 ⟨I.ok,I.os,I.bare,I.base,I.loc,I.cell,I.free,I.i7,λp hp=>(List.mem_append.mp hp).elim (λz=>I.pin p (List.mem_append_left _ z)) (h p),I.aw,I.len⟩
theorem tf{N:List Str}(hN:N.Nodup){i j:Nat}{x:Str}(a:N[i]?=some x)(b:N[j]?=some x):i=j:=by obtain⟨h1,e1⟩:=List.getElem?_eq_some_iff.mp a;obtain⟨h2,e2⟩:=List.getElem?_eq_some_iff.mp b;exact(List.getElem_inj hN).mp (e1.trans e2.symm)
theorem qi{M:Model}{A:Around}{E:Value->Shared->Prop}{i:Nat}{x:Str}{v:V}{u:Value}{Q:Unit->Shared->Prop}(I:Inv X pins σ H s)(hN:X.N.Nodup)(hi:X.N[i]?=some x)(hx:Loc X.env.scope x)(r:RelV v u)(h:∀s',Inv X pins (σ.set i (some v)) H s'->(∃a,Heap.SameBut a s.heap s'.heap/\(a=X.env.locals\/X.env.cells.lookup x=some a))->Q () s')(hf:X.fn x=true\/X.env.scope.names.lookup x=some .local:=by first|exact .inl rfl|exact .inr rfl|assumption):wpAny M A (storeName X.env x u) Q E s:=by
 obtain⟨m,hn,hl⟩:=id I.loc;have K6:(X.env.scope.kind==.class||(X.env.scope.kind==.module&&X.env.locals != X.env.globals))=false:=by rw[I.ok.kind];rfl
 have hiσ:i<σ.length:=by rw[I.len];exact(List.getElem?_eq_some_iff.mp hi).1
 have FV:=I.FV;have tracked:∀{a:Addr}{h':Heap},(∃o,s.heap.get? a=some o/\H a=none)->Heap.SameBut a s.heap h'->kQ X.prog X.w H h':=λ{a h'} ha hs b ob e=>by
  obtain⟨_,_,Ee⟩:=ha;refine(I.aw b ob e).j8 (λc w' hc q=>(hs.2 c ?_).trans q) (λ_ q=>q) λ_ _ q=>q;rintro rfl;rcases hc with rfl|hc
  ·rw[Ee]at e;cases e
  rw[Ee]at hc;cases hc
 rcases hx with hk|hk
 ·refine wpAny_storeName_local hk hn (λh' KA hs=>?_) K6;obtain⟨oL,_,_,ye,_⟩:=id hn;refine h _ ⟨I.ok,I.os,I.bare,⟨λb o e n hb hx=>?_,λb o e n hb hx=>?_,I.base.free,λb o e hx=>?_,I.base.tY,I.base.rZ,I.base.tZ⟩,⟨_,KA,λj y v' e1 e2 e3=>?_⟩,λy c e=>?_,I.free,I.i7,λp hp=>?_,tracked ⟨oL,ye,I.free⟩ hs,by simpa using I.len⟩ ⟨_,hs,.inl rfl⟩
  ·exact(hs.2 b (Nat.ne_of_lt (Nat.lt_of_lt_of_le (Heap.lt_size e) I.ok.above))).trans (I.base.keep b o e n hb hx)
  ·obtain⟨sl,e1⟩:=I.base.slot b o e n hb hx;exact⟨sl,(hs.2 b (Nat.ne_of_lt (Nat.lt_of_lt_of_le (Heap.lt_size e) I.ok.above))).trans e1⟩
  ·obtain⟨o',e1⟩:=I.base.there b o e hx;exact⟨o',(hs.2 b (Nat.ne_of_lt (Nat.lt_of_lt_of_le (Heap.lt_size e) I.ok.above))).trans e1⟩
  ·by_cases hj:j=i
   ·subst hj;rw[hi]at e1;cases e1;rw[List.getElem?_set_self hiσ]at e2;cases e2;exact⟨u,r,.inl ⟨hk,by simp⟩⟩
   rw[List.getElem?_set_ne (Ne.symm hj)]at e2;obtain⟨u',r',q⟩:=hl j y v' e1 e2 e3;refine⟨u',r',?_⟩;rcases q with⟨k,e⟩|⟨k,c,e,z⟩
   ·refine .inl ⟨k,?_⟩;have:y≠x:=λe=>hj (tf hN e1 (e▸hi));simp[this,e]
   exact .inr ⟨k,c,e,z.sameBut hs (FV y c e)⟩
  ·obtain⟨w',z⟩:=I.cell y c e;exact⟨w',z.sameBut hs (FV y c e)⟩
  obtain⟨e,n,ne,nf,d⟩:=I.pin p hp;exact⟨(hs.2 p.1 ne).trans e,n,ne,nf,d⟩
 have K7:X.fn x=true:=by
  rcases hf with z|z
  ·exact z
  rw[z]at hk;cases hk
 obtain⟨c,hc⟩:=I.ok.has x (.inl hk);obtain⟨w',z⟩:=I.cell x c hc;refine wpAny_storeName_cell I.ok.kind hk hc z (λh' NA hs=>?_);obtain⟨oc,NB,K8⟩:=id z;refine h { s with heap:=h' } ⟨I.ok,I.os,I.bare,⟨λb o e n hb hx=>?_,λb o e n hb hx=>?_,I.base.free,λb o e hx=>?_,I.base.tY,I.base.rZ,I.base.tZ⟩,⟨m,hn.sameBut hs (Ne.symm (FV x c hc)),λj y v' e1 e2 e3=>?_⟩,λy c' e=>?_,I.free,I.i7,λp hp=>?_,tracked ⟨oc,NB,I.i7 x c hc⟩ hs,by simpa using I.len⟩ ⟨c,hs,.inr hc⟩
 ·exact(hs.2 b (Nat.ne_of_lt (Nat.lt_of_lt_of_le (Heap.lt_size e) (I.ok.FT x c K7 hc)))).trans (I.base.keep b o e n hb hx)
 ·obtain⟨sl,e1⟩:=I.base.slot b o e n hb hx;exact⟨sl,(hs.2 b (Nat.ne_of_lt (Nat.lt_of_lt_of_le (Heap.lt_size e) (I.ok.FT x c K7 hc)))).trans e1⟩
 ·obtain⟨o',e1⟩:=I.base.there b o e hx;exact⟨o',(hs.2 b (Nat.ne_of_lt (Nat.lt_of_lt_of_le (Heap.lt_size e) (I.ok.FT x c K7 hc)))).trans e1⟩
 ·by_cases hj:j=i
  ·subst hj;rw[hi]at e1;cases e1;rw[List.getElem?_set_self hiσ]at e2;cases e2;exact⟨u,r,.inr ⟨.inl hk,c,hc,NA⟩⟩
  rw[List.getElem?_set_ne (Ne.symm hj)]at e2;obtain⟨u',r',q⟩:=hl j y v' e1 e2 e3;refine⟨u',r',?_⟩;rcases q with q|⟨k,c',e,z'⟩
  ·exact .inl q
  refine .inr ⟨k,c',e,z'.sameBut hs ?_⟩;rintro rfl;exact hj (tf hN e1 (I.ok.inj _ _ _ e hc▸hi))
 ·by_cases Ha:c'=c
  ·subst Ha;exact⟨_,NA⟩
  obtain⟨w2,z2⟩:=I.cell y c' e;exact⟨w2,z2.sameBut hs Ha⟩
 obtain⟨e,n,ne,nf,d⟩:=I.pin p hp;refine⟨(hs.2 p.1 ?_).trans e,n,ne,nf,d⟩;intro q;rw[q,NB]at e;have q':oc=p.2:=Option.some.inj e;exact d w' (by rw[<-q'];exact K8)
theorem ti{M:Model}{A:Around}{E:Value->Shared->Prop}{i:Nat}{x:Str}{v:V}{u:Value}{Q:Unit->Shared->Prop}(I:Inv X pins σ H s)(hN:X.N.Nodup)(hi:X.N[i]?=some x)(hx:Loc X.env.scope x)(r:RelV v u)(h:∀s',Inv X pins (σ.set i (some v)) H s'->Q () s')(hf:X.fn x=true\/X.env.scope.names.lookup x=some .local:=by first|exact .inl rfl|exact .inr rfl|assumption):wpAny M A (storeName X.env x u) Q E s :=
 qi I hN hi hx r (λs' I' _=>h s' I') hf
theorem Inv.Hb{s':Shared}{ch:List Addr}(I:Inv X pins σ H s)(ho:s'.os=s.os)(u:Un (yd X.stack) ch H H' s.heap s'.heap)(aw:kQ X.prog X.w H' s'.heap)(hg:AllBare s'.gens)(Cd:∀b∈ch,(b∈X.ex\/X.s₀.heap.objs.size<=b)/\b≠X.env.locals/\(∀x c,X.env.cells.lookup x=some c->c≠b)/\∀p∈X.pn++pins,p.1≠b):Inv X pins σ H' s':=by obtain⟨h',g',d',t',o'⟩:=s';have e:o'=s.os:=ho;subst e;exact I.call (g':=g') (t':=t') (d':=d') u aw hg Cd
end
abbrev XK:=Value->Option Addr->Hp->Prop
abbrev St:=List (Option V)
abbrev VK:=V->Hp->Prop
abbrev TE:=St->Hp->VK->Prop
abbrev TT:=St->Hp->(Bool->Hp->Prop)->Prop
abbrev TA:=St->Hp->(List V->Hp->Prop)->Prop
structure Ends where
 nx:St->Hp->Prop
 rt:VK
 bk:St->Hp->Prop:=λ_ _=>False
 ct:St->Hp->Prop:=λ_ _=>False
abbrev TS:=Ends->St->Hp->Prop
def EP(X:Cx)(pins:List (Addr×Obj))(σ:St)(Q:VK)(u:Value)(s':Shared):Prop:=∃v H',Inv X pins σ H' s'/\RelV v u/\Q v H'
def TP(X:Cx)(pins:List (Addr×Obj))(σ:St)(Q:Bool->Hp->Prop)(b:Bool)(s':Shared):Prop:=∃H',Inv X pins σ H' s'/\Q b H'
def AP(X:Cx)(pins:List (Addr×Obj))(σ:St)(Q:List V->Hp->Prop)(us:List Value)(s':Shared):Prop:=∃vs H',Inv X pins σ H' s'/\aX vs us/\Q vs H'
def SP(X:Cx)(pins:List (Addr×Obj))(D:Ends)(f:Flow)(s':Shared):Prop :=
 match f with
 |.next=>∃σ' H',Inv X pins σ' H' s'/\D.nx σ' H'
 |.brk=>∃σ' H',Inv X pins σ' H' s'/\D.bk σ' H'
 |.cont=>∃σ' H',Inv X pins σ' H' s'/\D.ct σ' H'
 |.ret u=>∃v σ' H',Inv X pins σ' H' s'/\RelV v u/\D.rt v H'
def PE(X:Cx)(e:Expr)(t:TE):Prop :=
 ∀(pins:List (Addr×Obj))(s:Shared)(σ:St)(H:Hp)(Q:VK),Inv X pins σ H s->t σ H Q->wpAny (model X.prog X.w) X.A (eval e X.env) (EP X pins σ Q) X.xe s
def PT(X:Cx)(e:Expr)(t:TT):Prop :=
 ∀(pins:List (Addr×Obj))(s:Shared)(σ:St)(H:Hp)(Q:Bool->Hp->Prop),Inv X pins σ H s->t σ H Q->wpAny (model X.prog X.w) X.A (isTrue e X.env (eval e X.env)) (TP X pins σ Q) X.xe s
def PW(X:Cx)(e:Expr)(t:TT):Prop :=
 ∀(whole:Sem Value)(pins:List (Addr×Obj))(s:Shared)(σ:St)(H:Hp)(Q:Bool->Hp->Prop),Inv X pins σ H s->t σ H Q->wpAny (model X.prog X.w) X.A (isTrue e X.env whole) (TP X pins σ Q) X.xe s
theorem PW.pt{X:Cx}{e:Expr}{t:TT}(h:PW X e t):PT X e t:=h _
def PA(X:Cx)(es:List Expr)(t:TA):Prop :=
 ∀(pos:Pos)(pins:List (Addr×Obj))(s:Shared)(σ:St)(H:Hp)(Q:List V->Hp->Prop),Inv X pins σ H s->t σ H Q->wpAny (model X.prog X.w) X.A (spliced (backTo pos (starEach es X.env))) (AP X pins σ Q) X.xe s
def PS(X:Cx)(st:Stmt)(t:TS):Prop :=
 ∀(pins:List (Addr×Obj))(s:Shared)(σ:St)(H:Hp)(D:Ends),Inv X pins σ H s->t D σ H->wpAny (model X.prog X.w) X.A (exec st X.env) (SP X pins D) X.xe s
def AI(X:Cx)(st:List Stmt)(t:TS):Prop :=
 ∀(pins:List (Addr×Obj))(s:Shared)(σ:St)(H:Hp)(D:Ends),Inv X pins σ H s->t D σ H->wpAny (model X.prog X.w) X.A (execs st X.env) (SP X pins D) X.xe s
theorem az{α:Type}{t:Sem α}{Q Q':α->Shared->Prop}{M:Model}{A:Around}{E:Value->Shared->Prop}{s:Shared}(h:wpAny M A t Q E s)(hQ:∀a s,Q a s->Q' a s):wpAny M A t Q' E s:=wpAny_mono h hQ λ_ _ x=>x
section
variable{X:Cx}
def Hc(i:Nat):TE:=λσ H Q=>∃v,σ[i]?=some (some v)/\Q v H
def tC(v:V):TE:=λ_ H Q=>Q v H
theorem FW{i:Nat}{x:Str}{pos:Pos}(hN:X.N[i]?=some x)(hv:J7 X.env.scope x)(hd:(x==("__debug__":Str))=false:=by decide)(tT:(x==("__classdict__":Str))=false:=by decide):PE X (.Name x pos) (Hc i):=by
 intro pins s σ H Q I h;obtain⟨v,e,h⟩:=h;obtain⟨m,hn,hl⟩:=I.loc;obtain⟨u,r,l⟩:=hl i x v hN e hv;have fin:EP X pins σ Q u s:=⟨v,H,I,r,h⟩;rcases l with⟨hk,hm⟩|⟨hk,c,hc,xW⟩
 ·exact wpAny_Name (wpAny_loadName_local I.ok.kind hk hn hm fin) hd
 rcases hk with hk|hk
 ·exact wpAny_Name (wpAny_loadName_cell I.ok.kind hk hc xW fin) hd
 exact wpAny_Name (wpAny_loadName_free I.ok.kind hk hc xW fin tT) hd
theorem aG{i j pos}:PE X (.Constant (.int i) j pos) (tC (.int i)):=λ_ _ _ H _ I h=>wpAny_Constant_int ⟨.int i,H,I.tok _,⟨_,rfl⟩,h⟩
theorem gg{b j pos}:PE X (.Constant (.bool b) j pos) (tC (.bl b)):=λ_ _ _ H _ I h=>Constant_bool ⟨.bl b,H,I,rfl,h⟩
theorem vS{j pos}:PE X (.Constant .none j pos) (tC .bS):=λ_ _ _ H _ I h=>Constant_none ⟨.bS,H,I,rfl,h⟩
theorem rg{x j pos}:PE X (.Constant (.str x) j pos) (tC (.str x)):=λ_ _ _ H _ I h=>Calls.Constant_str ⟨.str x,H,I.tok _,⟨_,rfl⟩,h⟩
def Gl(X:Cx)(x:Str):Prop:=X.env.kindOf x=some .globalImplicit
theorem rh{E:Value->Shared->Prop}{pins:List (Addr×Obj)}{s:Shared}{σ:St}{H:Hp}{x:Str}{u:Value}{pos:Pos}{Q:Value->Shared->Prop}(I:Inv X pins σ H s)(hg:Gl X x)(hm:X.mg x=some u)(h:Q u s)(hd:(x==("__debug__":Str))=false:=by decide):wpAny (model X.prog X.w) X.A (eval (.Name x pos) X.env) Q E s :=
 Calls.Name_function_global I.ok.kind hg (Calls.loadGlobal_global (by rw[I.ok.glob];exact I.mod.glob.keeps I.bk) hm h) hd
theorem oP{E:Value->Shared->Prop}{pins:List (Addr×Obj)}{s:Shared}{σ:St}{H:Hp}{x:Str}{u:Value}{pos:Pos}{Q:Value->Shared->Prop}(I:Inv X pins σ H s)(hg:Gl X x)(hm:X.mg x=none)(hv:bootBuiltins x=some u)(h:Q u s)(hn:x≠"__name__":=by decide)(hd:(x==("__debug__":Str))=false:=by decide):wpAny (model X.prog X.w) X.A (eval (.Name x pos) X.env) Q E s:=by obtain⟨mb,h1,h2⟩:=I.mod.blt;exact Calls.Name_function_global I.ok.kind hg (Calls.loadGlobal_builtin (by rw[I.ok.glob];exact I.mod.glob.keeps I.bk) hm (by rw[I.ok.blt];exact h1.keeps I.bk) ((h2 x hn).trans hv) h) hd
theorem Cp{x:Str}{v:V}{u:Value}{pos:Pos}(hg:Gl X x)(hm:X.mg x=some u)(r:RelV v u)(hd:(x==("__debug__":Str))=false:=by decide):PE X (.Name x pos) (tC v) :=
 λ_ _ _ H _ I h=>rh I hg hm ⟨v,H,I,r,h⟩ hd
theorem gy{x:Str}{v:V}{u:Value}{pos:Pos}(hg:Gl X x)(hm:X.mg x=none)(hv:bootBuiltins x=some u)(r:RelV v u)(hn:x≠"__name__":=by decide)(hd:(x==("__debug__":Str))=false:=by decide):PE X (.Name x pos) (tC v) :=
 λ_ _ _ H _ I h=>oP I hg hm hv ⟨v,H,I,r,h⟩ hn hd
variable{a b:Expr}{ta tb:TE}{pos:Pos}
def PC(X:Cx)(op:CmpOp)(a b:Expr)(t:TE):Prop :=
 ∀(pins:List (Addr×Obj))(s:Shared)(σ:St)(H:Hp)(Q:VK),Inv X pins σ H s->t σ H Q ->
  wpAny (model X.prog X.w) X.A (eval a X.env) (λv s₁=>wpAny (model X.prog X.w) X.A (eval b X.env) (λu s₂=>wpAny (model X.prog X.w) X.A (compareOp op v u) (EP X pins σ Q) X.xe s₂) X.xe s₁) X.xe s
def tB(t:TE):TT:=λσ H Q=>t σ H λx H1=>∃c,x=.bl c/\Q c H1
theorem FX{op:CmpOp}{t:TE}(h:PC X op a b t)(h1:behindInMarks op b=false:=by first|exact AR _ (by decide) (by decide)|rfl):PE X (.Compare a [op] [b] pos) t:=λpins s σ H Q I hw=>wpAny_Compare1 (h pins s σ H Q I hw) h1
theorem oQ{op:CmpOp}{t:TE}(h:PC X op a b t)(h1:behindInMarks op b=false:=by first|exact AR _ (by decide) (by decide)|rfl):PT X (.Compare a [op] [b] pos) (tB t):=by intro pins s σ H Q I hw;refine wpAny_isTrue_Compare1 (az (h pins s σ H _ I hw) λv s1 h1=>az h1 λu s2 h2=>az h2 λc s3 ⟨x,H1,I1,r1,q1⟩=>?_) h1;obtain⟨d,rfl,q⟩:=q1;cases r1;exact wpAny_truthy_bool ⟨H1,I1,q⟩
theorem cI{e:Expr}{t:TE}(h:PE X e t)(he:∀whole,isTrue e X.env whole=(do let v <- whole;standAt e.pos;holding [v] (truthy v)):=by intro _;rfl):PT X e (tB t):=by intro pins s σ H Q I hw;refine isTrue_plain (az (h pins s σ H _ I hw) λv s1 ⟨x,H1,I1,r1,q1⟩=>?_) (he _);obtain⟨d,rfl,q⟩:=q1;cases r1;exact wpAny_truthy_bool ⟨H1,I1,q⟩
variable{tA Hd:TT}{rest:List Expr}
def K9(t u:TT):TT:=λσ H Q=>t σ H λc H1=>if c=true then u σ H1 Q else Q false H1
def OM(t u:TT):TT:=λσ H Q=>t σ H λc H1=>if c=true then Q true H1 else u σ H1 Q
def LA(t:TT):TT:=λσ H Q=>t σ H λc H1=>Q (!c) H1
theorem jv(ha:PT X a tA):PW X (.BoolOp .And [a] pos) tA:=by
 intro wh pins s σ H Q I h;refine isTrue_and (az (ha pins s σ H Q I h) λc s1 e=>?_);cases c with
 |true=>exact isTrue_and_nil e
 |false=>exact e
theorem kR(ha:PT X a tA):PW X (.BoolOp .Or [a] pos) tA:=by
 intro wh pins s σ H Q I h;refine isTrue_or (az (ha pins s σ H Q I h) λc s1 e=>?_);cases c with
 |false=>exact isTrue_or_nil e
 |true=>exact e
theorem kS(ha:PT X a tA)(hb:PW X (.BoolOp .And (b::rest) pos) Hd):PW X (.BoolOp .And (a::b::rest) pos) (K9 tA Hd):=by
 intro wh pins s σ H Q I h;refine isTrue_and (az (ha pins s σ H _ I h) λc s1 ⟨H1,I1,q1⟩=>?_);cases c with
 |true=>exact hb wh pins s1 σ H1 Q I1 q1
 |false=>exact⟨H1,I1,q1⟩
theorem kB(ha:PT X a tA)(hb:PW X (.BoolOp .Or (b::rest) pos) Hd):PW X (.BoolOp .Or (a::b::rest) pos) (OM tA Hd):=by
 intro wh pins s σ H Q I h;refine isTrue_or (az (ha pins s σ H _ I h) λc s1 ⟨H1,I1,q1⟩=>?_);cases c with
 |true=>exact⟨H1,I1,q1⟩
 |false=>exact hb wh pins s1 σ H1 Q I1 q1
theorem cc(ha:PT X a tA):PT X (.UnaryOp .Not a pos) (LA tA):=by intro pins s σ H Q I h;exact isTrue_not (ha pins s σ H (λc H1=>Q (!c) H1) I h)
def He(ta tb:TE):TE:=λσ H Q=>ta σ H λx H1=>∃c,x=.bl c/\if c=true then tb σ H1 Q else Q (.bl false) H1
def LB(ta tb:TE):TE:=λσ H Q=>ta σ H λx H1=>∃c,x=.bl c/\if c=true then Q (.bl true) H1 else tb σ H1 Q
def Hf(ta:TE):TE:=λσ H Q=>ta σ H λx H1=>∃c,x=.bl c/\Q (.bl (!c)) H1
theorem vT{op}{t:TE}(h:PE X a t):PE X (.BoolOp op [a] pos) t:=λpins s σ H Q I hw=>BoolOp_one (h pins s σ H Q I hw)
theorem AS(ha:PE X a ta)(hb:PE X (.BoolOp .And (b::rest) pos) tb):PE X (.BoolOp .And (a::b::rest) pos) (He ta tb):=by
 intro pins s σ H Q I h;refine BoolOp_and (az (ha pins s σ H _ I h) λv s1 ⟨x,H1,I1,r1,q1⟩=>?_);obtain⟨c,rfl,q1⟩:=q1;cases r1;refine wpAny_truthy_bool ?_;cases c with
 |true=>exact hb pins s1 σ H1 Q I1 q1
 |false=>exact⟨.bl false,H1,I1,rfl,q1⟩
theorem Hg(ha:PE X a ta)(hb:PE X (.BoolOp .Or (b::rest) pos) tb):PE X (.BoolOp .Or (a::b::rest) pos) (LB ta tb):=by
 intro pins s σ H Q I h;refine BoolOp_or (az (ha pins s σ H _ I h) λv s1 ⟨x,H1,I1,r1,q1⟩=>?_);obtain⟨c,rfl,q1⟩:=q1;cases r1;refine wpAny_truthy_bool ?_;cases c with
 |false=>exact hb pins s1 σ H1 Q I1 q1
 |true=>exact⟨.bl true,H1,I1,rfl,q1⟩
theorem FY(ha:PE X a ta):PE X (.UnaryOp .Not a pos) (Hf ta):=by intro pins s σ H Q I h;refine UnaryOp_ (az (ha pins s σ H _ I h) λv s1 ⟨x,H1,I1,r1,q1⟩=>?_);obtain⟨c,rfl,q1⟩:=q1;cases r1;exact not_of (wpAny_truthy_bool ⟨.bl (!c),H1,I1,rfl,q1⟩)
end
def af(K:PySem.W.Frag)(H:Hp)(a:Addr)(xs:List V):Prop :=
 Rd H a (.lst xs) \/
  ∃(o:Obj)(aS:Array Value)(n:Nat),K.lookup a=some o/\o.cls=.type "list"/\o.dict=none/\o.data=.seq aS n/\aS.size<=sizeLine/\aX xs aS.toList
def ar(K:PySem.W.Frag)(H:Hp)(a:Addr)(xs:List V):Prop :=
 Rd H a (.tup xs) \/
  ∃(o:Obj)(aS:Array Value)(n:Nat),K.lookup a=some o/\o.cls=.type "tuple"/\o.data=.seq aS n/\aS.size<=sizeLine/\aX xs aS.toList
def LC:Value->Option V
 |.none=>some .bS
 |.bool b=>some (.bl b)
 |.int i _=>some (.int i)
 |.str x _=>some (.str x)
 |.bytes b _=>some (.AH b)
 |.float b _=>some (.FO b)
 |.ref a=>some (.ref a)
 |.type n=>some (.ty n)
 |_=>none
theorem RelV.abs{x:V}{u:Value}(r:RelV x u):LC u=some x:=by
 cases x with
 |bS=>cases r;rfl
 |bl _=>cases r;rfl
 |int _=>obtain⟨t,rfl⟩:=r;rfl
 |str _=>obtain⟨t,rfl⟩:=r;rfl
 |AH _=>obtain⟨t,rfl⟩:=r;rfl
 |FO _=>obtain⟨t,rfl⟩:=r;rfl
 |ref _=>cases r;rfl
 |ty _=>cases r;rfl
theorem RelV.inj{x y:V}{u:Value}(r:RelV x u)(q:RelV y u):x=y:=Option.some.inj (r.abs.symm.trans q.abs)
theorem aX.inj:∀{xs ys:List V}{us:List Value},aX xs us->aX ys us->xs=ys
 |_,_,_,.nil,.nil=>rfl
 |_,_,_,.cons r t,.cons r' t'=>by rw[r.inj r',aX.inj t t']
section
variable{X:Cx}{pins:List (Addr×Obj)}{σ:St}{H:Hp}{s:Shared}{a:Addr}{xs ys:List V}
theorem af.of{K:PySem.W.Frag}(h:H a=some (.lst xs)):af K H a xs:=.inl (.inl h)
theorem ar.of{K:PySem.W.Frag}(h:H a=some (.tup xs)):ar K H a xs:=.inl (.inl h)
theorem Inv.list(I:Inv X pins σ H s)(h:af X.K H a xs):∃aS:List Value,aX xs aS/\PlainL s.heap a aS.toArray/\xs.length<=sizeLine:=by
 rcases h with h|⟨o,aS,n,hk,hc,hd,hs,hz,r⟩
 ·obtain⟨z,aS,n,r,e⟩:=h.ok I.aw;exact⟨aS,r,⟨_,n,e,rfl,rfl,rfl⟩,z⟩
 refine⟨aS.toList,r,⟨o,n,I.mV a o hk,hc,hd,by simpa using hs⟩,?_⟩;have e:=r.length;simp only[Array.length_toList]at e;lia
theorem Inv.tuple(I:Inv X pins σ H s)(h:ar X.K H a xs):∃aS:List Value,aX xs aS/\IsTup s.heap a aS.toArray/\xs.length<=sizeLine:=by
 rcases h with h|⟨o,aS,n,hk,hc,hs,hz,r⟩
 ·obtain⟨z,aS,r,p⟩:=h.ok I.aw;exact⟨aS,r,p,z⟩
 refine⟨aS.toList,r,⟨o,I.mV a o hk,hc,n,by simpa using hs⟩,?_⟩;have e:=r.length;simp only[Array.length_toList]at e;lia
theorem Inv.AU(I:Inv X pins σ H s)(h:af X.K H a xs)(h':af X.K H a ys):xs=ys:=by
 obtain⟨aS,r,⟨o,n,e,_,_,d⟩,_⟩:=I.list h;obtain⟨its',r',⟨o',n',e',_,_,d'⟩,_⟩:=I.list h';rw[e]at e';cases e';rw[d]at d';injection d' with d1 _;have:aS=its':=by simpa using congrArg Array.toList d1
 subst this;exact r.inj r'
theorem Inv.yf(I:Inv X pins σ H s)(h:ar X.K H a xs)(h':ar X.K H a ys):xs=ys:=by
 obtain⟨aS,r,⟨o,e,_,n,d⟩,_⟩:=I.tuple h;obtain⟨its',r',⟨o',e',_,n',d'⟩,_⟩:=I.tuple h';rw[e]at e';cases e';rw[d]at d';injection d' with d1 _;have:aS=its':=by simpa using congrArg Array.toList d1
 subst this;exact r.inj r'
end
abbrev Cx.qD(X:Cx)(E:Value->Shared->Prop):Cx:={ X with xe:=E }
abbrev Cx.rj(X:Cx):Cx:=X.qD λ_ _=>False
theorem Cx.Ok.qD{X:Cx}(ok:X.Ok)(E:Value->Shared->Prop):(X.qD E).Ok :=
 ⟨ok.mod,ok.kind,ok.glob,ok.blt,ok.above,ok.inj,ok.has,ok.FT,ok.hd,ok.frames,ok.J8,ok.HY,ok.bs,ok.Co,ok.vP,ok.vQ,ok.n4,ok.FU⟩
theorem Cx.Ok.jD{X:Cx}{E:Value->Shared->Prop}(ok:(X.qD E).Ok):X.Ok :=
 ⟨ok.mod,ok.kind,ok.glob,ok.blt,ok.above,ok.inj,ok.has,ok.FT,ok.hd,ok.frames,ok.J8,ok.HY,ok.bs,ok.Co,ok.vP,ok.vQ,ok.n4,ok.FU⟩
section
variable{X:Cx}{pins:List (Addr×Obj)}{σ:St}{H:Hp}{s:Shared}{E:Value->Shared->Prop}
theorem Inv.qD(I:Inv X pins σ H s)(E:Value->Shared->Prop):Inv (X.qD E) pins σ H s:=⟨I.ok.qD E,I.os,I.bare,I.base,I.loc,I.cell,I.free,I.i7,I.pin,I.aw,I.len⟩
theorem Inv.jD(I:Inv (X.qD E) pins σ H s):Inv X pins σ H s:=⟨I.ok.jD,I.os,I.bare,I.base,I.loc,I.cell,I.free,I.i7,I.pin,I.aw,I.len⟩
theorem SP.jD{D:Ends}{f:Flow}{s':Shared}(h:SP (X.qD E) pins D f s'):SP X pins D f s':=by
 cases f with
 |next=>obtain⟨σ',H',I,q⟩:=h;exact⟨σ',H',I.jD,q⟩
 |brk=>obtain⟨σ',H',I,q⟩:=h;exact⟨σ',H',I.jD,q⟩
 |cont=>obtain⟨σ',H',I,q⟩:=h;exact⟨σ',H',I.jD,q⟩
 |ret u=>obtain⟨v,σ',H',I,r,q⟩:=h;exact⟨v,σ',H',I.jD,r,q⟩
end
section
variable{X:Cx}{st:Stmt}{rest:List Stmt}{t u:TS}{e:Expr}{te:TE}{pos:Pos}
def Hh:TS:=λD σ H=>D.nx σ H
def LD(t u:TS):TS:=λD σ H=>t { D with nx:=u D } σ H
theorem ae:AI X [] Hh:=λ_ _ σ H _ I h=>wpAny_execs_nil ⟨σ,H,I,h⟩
theorem aE(h1:PS X st t)(h2:AI X rest u):AI X (st::rest) (LD t u):=by
 intro pins s σ H D I h;refine wpAny_execs_cons (az (h1 pins s σ H { D with nx:=u D } I h) λf s1 q=>?_)
 cases f with
 |next =>
  obtain⟨σ',H',I',q⟩:=q;exact h2 pins s1 σ' H' D I' q
 |ret v=>exact q
 |brk=>exact q
 |cont=>exact q
theorem aF(h1:PS X st t):AI X [st] t:=by
 intro pins s σ H D I h;refine wpAny_execs_cons (az (h1 pins s σ H D I h) λf s1 q=>?_);cases f with
 |next=>exact wpAny_execs_nil q
 |ret v=>exact q
 |brk=>exact q
 |cont=>exact q
theorem Inv.quiet{pins:List (Addr×Obj)}{σ:St}{H:Hp}{s:Shared}(I:Inv X pins σ H s):interactive X.env=false:=by simp[interactive,I.ok.kind]
def Hi(te:TE):TS:=λD σ H=>te σ H λ_ H1=>D.nx σ H1
theorem bL(he:PE X e te)(hs:swapsWith e none pos.line X.env=pure false:=by rfl):PS X (.Expr e pos) (Hi te):=by intro pins s σ H D I h;exact wpAny_Expr_any (az (he pins s σ H _ I h) λv s1 ⟨x,H1,I1,r1,q1⟩=>⟨σ,H1,I1,q1⟩) I.quiet hs
def LF(te:TE):TS:=λD σ H=>te σ H D.rt
theorem ab(he:PE X e te):PS X (.Return (some e) pos) (LF te):=by intro pins s σ H D I h;exact wpAny_Return_some (az (he pins s σ H _ I h) λv s1 ⟨x,H1,I1,r1,q1⟩=>⟨x,σ,H1,I1,r1,q1⟩)
def LG(c:TT)(t u:TS):TS:=λD σ H=>c σ H λb H1=>if b=true then t D σ H1 else u D σ H1
theorem a9{c:Expr}{a b:List Stmt}{tc:TT}(hc:PT X c tc)(ha:AI X a t)(hb:AI X b u):PS X (.If c a b pos) (LG tc t u):=by
 intro pins s σ H D I h;refine wpAny_If (az (hc pins s σ H _ I h) λd s1 ⟨H1,I1,q1⟩=>?_);cases d with
 |true=>exact ha pins s1 σ H1 D I1 q1
 |false=>exact hb pins s1 σ H1 D I1 q1
end
abbrev TG:=V->St->Hp->(St->Hp->Prop)->Prop
abbrev Ce:=List V->St->Hp->(St->Hp->Prop)->Prop
def PG(X:Cx)(target:Expr)(t:TG):Prop :=
 ∀(pins:List (Addr×Obj))(s:Shared)(σ:St)(H:Hp)(v:V)(u:Value)(Q:St->Hp->Prop),Inv X pins σ H s->RelV v u->t v σ H Q ->
  wpAny (model X.prog X.w) X.A (assign target X.env u) (λ_ s'=>∃σ' H',Inv X pins σ' H' s'/\Q σ' H') X.xe s
def G5(X:Cx)(ts:List Expr)(t:Ce):Prop :=
 ∀(pins:List (Addr×Obj))(s:Shared)(σ:St)(H:Hp)(vs:List V)(us:List Value)(Q:St->Hp->Prop),Inv X pins σ H s->aX vs us->t vs σ H Q ->
  wpAny (model X.prog X.w) X.A (assignInOrder ((assignEach ts X.env).map (·.2)) us) (λ_ s'=>∃σ' H',Inv X pins σ' H' s'/\Q σ' H') X.xe s
section
variable{X:Cx}{pos:Pos}
def kC(i:Nat):TG:=λv σ H Q=>Q (σ.set i (some v)) H
theorem aK{i:Nat}{x:Str}(hN:X.N.Nodup)(hi:X.N[i]?=some x)(hx:Loc X.env.scope x)(hf:X.fn x=true\/X.env.scope.names.lookup x=some .local:=by first|exact .inl rfl|exact .inr rfl|assumption):PG X (.Name x pos) (kC i):=by intro pins s σ H v u Q I r h;exact wpAny_assign_Name (ti I hN hi hx r (λs' I'=>⟨_,H,I',h⟩) hf)
def FZ:Ce:=λvs σ H Q=>vs=[]/\Q σ H
def tj(t:TG)(u:Ce):Ce:=λvs σ H Q=>∃v r,vs=v::r/\t v σ H λσ' H'=>u r σ' H' Q
theorem dM:G5 X [] FZ:=by intro pins s σ H vs us Q I r h;obtain⟨e,h⟩:=h;subst e;cases r;exact assignInOrder_nil ⟨σ,H,I,h⟩
theorem aU{e:Expr}{es:List Expr}{t:TG}{u:Ce}(h1:PG X e t)(h2:G5 X es u)(hs:(assignEach (e::es) X.env).map (·.2)=assign e X.env::(assignEach es X.env).map (·.2):=by rfl):G5 X (e::es) (tj t u):=by
 intro pins s σ H vs us Q I r h;obtain⟨v,vr,e1,h⟩:=h;subst e1;cases r with
 |cons r rr =>
  rw[hs];refine assignInOrder_cons (az (h1 pins s σ H _ _ _ I r h) λ_ s1 ⟨σ1,H1,I1,q1⟩=>?_);exact h2 pins s1 σ1 H1 _ _ Q I1 rr q1
def Cq(K:PySem.W.Frag)(n:Nat)(t:Ce):TG:=λv σ H Q=>∃a xs,v=.ref a/\ar K H a xs/\xs.length=n/\t xs σ H Q
theorem hE{es:List Expr}{k:Nat}{t:Ce}{n:Nat}(hc:X.calm=true)(h:G5 X es t)(hn:(assignEach es X.env).length=n:=by rfl)(xX:(assignEach es X.env).findIdx? (·.1)=none:=by rfl):PG X (.Tuple es k pos) (Cq X.K n t):=by
 intro pins s σ H v u Q I r hw;obtain⟨a,xs,e1,hq,hl,hw⟩:=hw;subst e1;cases r;obtain⟨aS,rv,ht,hz⟩:=I.tuple hq;refine assign_Tuple_tuple (I.ok.hd hc) ht (by simp[hn,<-hl,rv.length]) xX λh' hx=>?_;have I1:Inv X pins σ H { s with heap:=h' }:=I.kept (t':=s.toks) λb o e=>hx b o (Nat.ne_of_lt (Heap.lt_size e)) e
 exact h pins _ σ H xs _ Q I1 (by simpa using rv) hw
def Fb(te:TE)(g:TG):TS:=λD σ H=>te σ H λx H1=>g x σ H1 D.nx
theorem vU{tg e:Expr}{te:TE}{g:TG}(he:PE X e te)(hg:PG X tg g)(hs:swapsWithSole [tg] e pos.line X.env=pure false:=by rfl)(hw:swappedStores [tg] e X.env=pure none:=by rfl)(h1:(assignEach [tg] X.env).map (·.2)=[assign tg X.env]:=by rfl):PS X (.Assign [tg] e pos) (Fb te g):=by intro pins s σ H D I h;refine wpAny_Assign_stores (az (he pins s σ H _ I h) λv s1 ⟨x,H1,I1,r1,q1⟩=>?_) hs hw;rw[h1];exact az (hg pins s1 σ H1 x v _ I1 r1 q1) λ_ s2 q=>q
theorem aY{i:Nat}{x:Str}{e:Expr}{te:TE}{pos':Pos}(hN:X.N.Nodup)(hi:X.N[i]?=some x)(hx:Loc X.env.scope x)(he:PE X e te)(hs:swapsWith e (some (.Name x pos')) pos.line X.env=pure false:=by rfl)(hf:X.fn x=true\/X.env.scope.names.lookup x=some .local:=by first|exact .inl rfl|exact .inr rfl|assumption):
  PS X (.Assign [.Name x pos'] e pos) (Fb te (kC i)):=by
 intro pins s σ H D I h;refine wpAny_Assign_Name (az (he pins s σ H _ I h) λv s1 ⟨y,H1,I1,r1,q1⟩=>?_) hs;exact ti I1 hN hi hx r1 (λs2 I2=>⟨_,H1,I2,q1⟩) hf
end
section
variable{X:Cx}{pos:Pos}
def Fc(c:TT)(tb:TS):TS:=λD σ H=>∃W:Nat->St->Hp->Prop,(∃m,W m σ H)/\∀m σ H,W m σ H ->
 c σ H λb H1=>if b=true then ∃N:St->Hp->Prop,(∀σ' H',N σ' H'->∃m',m'<m/\W m' σ' H')/\tb { D with nx:=N,ct:=N,bk:=D.nx } σ H1 else D.nx σ H1
theorem tq{c:Expr}{body:List Stmt}{tc:TT}{tb:TS}(hp:PassesOwn (model X.prog X.w) X.A X.env X.xe)(hc:PT X c tc)(hb:AI X body tb):PS X (.While c body [] pos) (Fc tc tb):=by
 intro pins s σ H D I h;obtain⟨W,⟨m0,w0⟩,turn⟩:=h;refine wpAny_While (codeAny_whileLoop (λn s'=>∃σ' H',Inv X pins σ' H' s'/\W n σ' H') ?_ m0 ⟨σ,H,I,w0⟩);rintro n s1 ⟨σ1,H1,I1,w1⟩;refine wpAny_passesOwn hp (az (hc pins s1 σ1 H1 _ I1 (turn n σ1 H1 w1)) λb s2 ⟨H2,I2,q2⟩=>?_);cases b with
 |true =>
  obtain⟨N,hN,q2⟩:=q2;rw[if_pos rfl];refine wpAny_passesOwn hp (az (hb pins s2 σ1 H2 _ I2 q2) λf s3 q3=>?_);cases f with
  |next =>
   obtain⟨σ3,H3,I3,n3⟩:=q3;obtain⟨m',hm,w3⟩:=hN σ3 H3 n3;exact⟨m',hm,σ3,H3,I3,w3⟩
  |cont =>
   obtain⟨σ3,H3,I3,n3⟩:=q3;obtain⟨m',hm,w3⟩:=hN σ3 H3 n3;exact⟨m',hm,σ3,H3,I3,w3⟩
  |brk=>exact q3
  |ret v=>exact q3
 |false =>
  rw[if_neg Bool.false_ne_true];exact wpAny_execs_nil ⟨σ1,H2,I2,q2⟩
end
structure It where
 go:Nat->Hp->Prop
 yg:Nat->Hp->V->Hp->Prop
 stop:Nat->Hp->Prop
def oR(X:Cx)(pins:List (Addr×Obj))(H:Hp)(b:Addr):Prop :=
 H b=none/\b≠X.env.locals/\b∉X.fs/\(b∈X.ex\/X.s₀.heap.objs.size<=b)/\(∀x c,X.env.cells.lookup x=some c->c≠b)/\∀p∈X.pn++pins,p.1≠b
theorem Inv.rm{X:Cx}{pins:List (Addr×Obj)}{σ:St}{H H':Hp}{s:Shared}{b:Addr}(I:Inv X pins σ H s)(hb:s.heap.objs.size<=b)(hn:H' b=none):oR X pins H' b:=by
 refine⟨hn,Nat.ne_of_gt (Nat.lt_of_lt_of_le I.lt hb),I.K2 hb,.inr (Nat.le_trans I.sz hb),λx c e z=>?_,λp hp z=>?_⟩
 ·obtain⟨v,q⟩:=I.cell x c e;exact absurd (Nat.lt_of_lt_of_le q.lt (by rw[z];exact hb)) (Nat.lt_irrefl _)
 exact absurd (Nat.lt_of_lt_of_le (Heap.lt_size (I.pin p hp).1) (by rw[z];exact hb)) (Nat.lt_irrefl _)
structure Turn(P:Program)(w:World)(K:PySem.W.Frag)(tg:Expr)(J:It)(fp:List Addr)(it:Addr)(tn:Nat->Heap->Prop):Prop where
 mem:it∈fp
 obj:∀i h,tn i h->∀b∈fp,∃o,h.get? b=some o/\∀v,o.data≠.cell v
 keep:∀i h h',tn i h->(∀b∈fp,∀o,h.get? b=some o->h'.get? b=some o)->tn i h'
 item:∀(X:Cx),X.prog=P->X.w=w->X.K=K->X.calm=true->∀(i:Nat)(pins:List (Addr×Obj))(s:Shared)(σ:St)(H:Hp)(E:Value->Shared->Prop),Inv X pins σ H s->(∀b∈fp,oR X pins H b)->tn i s.heap->J.go i H ->
  wpAny (model P w) X.A (pyNext (.ref it)) (λr s1=>∃u,r=some u /\
   wpAny (model P w) X.A (letOwnedTupleGo tg (.ref it) u) (λ_ s2=>∃x H',Inv X pins σ H' s2/\RelV x u/\J.yg i H x H'/\tn (i+1) s2.heap/\∀b∈fp,H' b=none) E s1) E s
 done:∀(X:Cx),X.prog=P->X.w=w->X.K=K->X.calm=true->∀(i:Nat)(pins:List (Addr×Obj))(s:Shared)(σ:St)(H:Hp)(E:Value->Shared->Prop),Inv X pins σ H s->(∀b∈fp,oR X pins H b)->tn i s.heap->J.stop i H ->
  wpAny (model P w) X.A (pyNext (.ref it)) (λr s1=>r=none/\Inv X pins σ H s1) E s
 self:∀(A:Around)(i:Nat)(s:Shared)(Q:Value->Shared->Prop)(E:Value->Shared->Prop),tn i s.heap->Q (.ref it) s->wpAny (model P w) A (pyIter (.ref it)) Q E s
abbrev TI:=St->Hp->(It->Hp->Prop)->Prop
def NC(X:Cx)(pins:List (Addr×Obj))(σ:St)(tg:Expr)(R:It->Hp->Prop)(KC:Value)(s2:Shared):Prop :=
 ∃(it:Addr)(fp:List Addr)(tn:Nat->Heap->Prop)(J:It)(H':Hp),KC=.ref it/\Inv X pins σ H' s2/\Turn X.prog X.w X.K tg J fp it tn/\tn 0 s2.heap/\(∀b∈fp,oR X pins H' b)/\R J H'
def PI(X:Cx)(tg iter:Expr)(wi:TI):Prop :=
 ∀(pins:List (Addr×Obj))(s:Shared)(σ:St)(H:Hp)(R:It->Hp->Prop),Inv X pins σ H s->wi σ H R ->
  wpAny (model X.prog X.w) X.A (eval iter X.env) (λv s1=>wpAny (model X.prog X.w) X.A (pyIter v) (NC X pins σ tg R) X.xe s1) X.xe s
theorem tu{M:Model}{A:Around}{E:Value->Shared->Prop}{s:Shared}{tg:Expr}{it:Addr}{u:Value}{o:Obj}{n:String}{vs:Array Value}{Q:Unit->Shared->Prop}(ho:s.heap.get? it=some o)(hc:o.cls=.type n)(hd:o.data=.fields vs)(hn:["enumerate","zip","dict_itemiterator","dict_reverseitemiterator","odict_iterator","itertools.zip_longest","itertools.pairwise"].contains n=false)(hQ:Q () s):wpAny M A (letOwnedTupleGo tg (.ref it) u) Q E s:=by
 unfold letOwnedTupleGo;cases tg<;>first
  |exact wpAny_pure hQ
  | (cases u<;>first
    |exact wpAny_pure hQ
    | (refine wpAny_bind (wpAny_load ho ?_)
       rw[hc,hd];show wpAny M A (if(["enumerate","zip","dict_itemiterator","dict_reverseitemiterator","odict_iterator","itertools.zip_longest","itertools.pairwise"].contains n&&vs[0]?==some (rawInt _))=true then _ else _) Q E s;rw[if_neg (by intro h;rw[hn,Bool.false_and]at h;cases h)];exact wpAny_pure hQ))
def G6(K:PySem.W.Frag)(a:Addr):It :=
 ⟨λi H=>∃xs x,af K H a xs/\xs[i]?=some x,λi H x H'=>H'=H/\∀xs,af K H a xs->xs[i]?=some x,λi H=>∃xs,af K H a xs/\xs.length<=i⟩
def G7(K:PySem.W.Frag)(a:Addr):It :=
 ⟨λi H=>∃xs x,ar K H a xs/\xs[i]?=some x,λi H x H'=>H'=H/\∀xs,ar K H a xs->xs[i]?=some x,λi H=>∃xs,ar K H a xs/\xs.length<=i⟩
def Ef(lo:Int)(n:Nat):It:=⟨λi _=>i<n,λi H x H'=>H'=H/\x=.int (lo+i),λi _=>n<=i⟩
theorem qj{P:Program}{w:World}{K:PySem.W.Frag}{tg:Expr}(a it:Addr):Turn P w K tg (G6 K a) [it] it (λi h=>h.IsListIter it a i)where
 mem:=by simp
 obj:=λi h st b hb=>by
  have e:b=it:=by simpa using hb
  subst e;obtain⟨o,e,c,d⟩:=st;exact⟨o,e,λv z=>by rw[d]at z;cases z⟩
 keep:=λi h h' st k=>st.at λo e=>k it (by simp) o e
 item:=by
  intro X hP hw hK hc i pins s σ H E I hf st hg;subst hP hw hK;obtain⟨xs,x,hq,hx⟩:=hg;obtain⟨aS,rv,p,hz⟩:=I.list hq;obtain⟨u,hu,ru⟩:=rv.get hx;obtain⟨f0,f1,f2,f3,f4,f5⟩:=hf it (by simp);refine wpAny_pyNext_list_item st p.isList (x:=u) (by simpa using hu) λh' aP sb=>?_;have I1:Inv X pins σ H { s with heap:=h' }:=I.turned (t':=s.toks) (λb o hb e=>(sb.2 b hb).trans e) f0 f1 f3 f4 f5
  obtain⟨o,e,c,d⟩:=id aP;exact⟨u,rfl,tu (s:={ s with heap:=h' }) e c d (by decide) ⟨x,H,I1,ru,⟨rfl,λys hy=>by rw[I.AU hy hq];exact hx⟩,aP,λb hb=>(hf b hb).1⟩⟩
 done:=by intro X hP hw hK hc i pins s σ H E I hf st hg;subst hP hw hK;obtain⟨xs,hq,hx⟩:=hg;obtain⟨aS,rv,p,hz⟩:=I.list hq;obtain⟨f0,f1,f2,f3,f4,f5⟩:=hf it (by simp);have hl:=rv.length;exact wpAny_pyNext_list_end (I.ok.hd hc) st p.isList (by simp;lia) λh' eb=>⟨rfl,I.turned (t':=s.toks) (λb o hb e=>eb b o hb e) f0 f1 f3 f4 f5⟩
 self:=λ_ _ _ _ _ st h=>wpAny_pyIter_listiter st h
theorem oS{P:Program}{w:World}{K:PySem.W.Frag}{tg:Expr}(a it:Addr):Turn P w K tg (G7 K a) [it] it (λi h=>h.IsTupleIter it a i)where
 mem:=by simp
 obj:=λi h st b hb=>by
  have e:b=it:=by simpa using hb
  subst e;obtain⟨o,e,c,d⟩:=st;exact⟨o,e,λv z=>by rw[d]at z;cases z⟩
 keep:=λi h h' st k=>st.at λo e=>k it (by simp) o e
 item:=by
  intro X hP hw hK hc i pins s σ H E I hf st hg;subst hP hw hK;obtain⟨xs,x,hq,hx⟩:=hg;obtain⟨aS,rv,p,hz⟩:=I.tuple hq;obtain⟨u,hu,ru⟩:=rv.get hx;obtain⟨f0,f1,f2,f3,f4,f5⟩:=hf it (by simp);refine wpAny_pyNext_tuple_item st (show s.heap.IsTuple a aS.toArray from p) (x:=u) (by simpa using hu) λh' aP sb=>?_;have I1:Inv X pins σ H { s with heap:=h' }:=I.turned (t':=s.toks) (λb o hb e=>(sb.2 b hb).trans e) f0 f1 f3 f4 f5
  obtain⟨o,e,c,d⟩:=id aP;exact⟨u,rfl,tu (s:={ s with heap:=h' }) e c d (by decide) ⟨x,H,I1,ru,⟨rfl,λys hy=>by rw[I.yf hy hq];exact hx⟩,aP,λb hb=>(hf b hb).1⟩⟩
 done:=by intro X hP hw hK hc i pins s σ H E I hf st hg;subst hP hw hK;obtain⟨xs,hq,hx⟩:=hg;obtain⟨aS,rv,p,hz⟩:=I.tuple hq;obtain⟨f0,f1,f2,f3,f4,f5⟩:=hf it (by simp);have hl:=rv.length;exact wpAny_pyNext_tuple_end (I.ok.hd hc) st (show s.heap.IsTuple a aS.toArray from p) (by simp;lia) λh' eb=>⟨rfl,I.turned (t':=s.toks) (λb o hb e=>eb b o hb e) f0 f1 f3 f4 f5⟩
 self:=λ_ _ _ _ _ st h=>wpAny_pyIter_tupleiter st h
theorem vV{P:Program}{w:World}{K:PySem.W.Frag}{tg:Expr}(it:Addr)(lo:Int)(n:Nat):Turn P w K tg (Ef lo n) [it] it (λi h=>IsRangeIter h it (lo+(i:Nat)*1) ((n:Int)-(i:Nat)) 1)where
 mem:=by simp
 obj:=λi h st b hb=>by
  have e:b=it:=by simpa using hb
  subst e;exact⟨_,st,λv z=>by have z':Data.fields _=Data.cell v:=z;cases z'⟩
 keep:=λi h h' st k=>k it (by simp) _ st
 item:=by
  intro X hP hw hK hc i pins s σ H E I hf st hg;subst hP hw hK;obtain⟨f0,f1,f2,f3,f4,f5⟩:=hf it (by simp);have W:=Walks.range (prog:=X.prog) (w:=X.w) (I.ok.hd hc) it lo 1 n;refine W.item i s _ _ hg st λv h' tk hv aP kk=>?_;obtain⟨t,rfl⟩:=hv;have I1:Inv X pins σ H { s with heap:=h',toks:=tk }:=I.turned (λb o hb e=>kk b o (by simpa using hb) e) f0 f1 f3 f4 f5
  refine⟨_,rfl,tu (s:={ s with heap:=h',toks:=tk }) (n:="range_iterator") aP rfl rfl (by decide) ⟨.int (lo+i),H,I1,⟨t,?_⟩,⟨rfl,rfl⟩,aP,λb hb=>(hf b hb).1⟩⟩
  rw[Int.mul_one]
 done:=by intro X hP hw hK hc i pins s σ H E I hf st hg;subst hP hw hK;obtain⟨f0,f1,f2,f3,f4,f5⟩:=hf it (by simp);exact wpAny_pyNext_range_end (I.ok.hd hc) st (by have:n<=i:=hg;lia) λh' eb=>⟨rfl,I.turned (t':=s.toks) (λb o hb e=>eb b o hb e) f0 f1 f3 f4 f5⟩
 self:=λ_ _ _ _ _ st h=>wpAny_pyIter_rangeiter st h
section
variable{X:Cx}{tg:Expr}
def Eg(K:PySem.W.Frag)(tl:TE):TI:=λσ H R=>tl σ H λx H1=>∃a,x=.ref a/\(∃xs,af K H1 a xs)/\R (G6 K a) H1
def Hj(K:PySem.W.Frag)(tl:TE):TI:=λσ H R=>tl σ H λx H1=>∃a,x=.ref a/\(∃xs,ar K H1 a xs)/\R (G7 K a) H1
theorem Cr{l:Expr}{tl:TE}(hl:PE X l tl):PI X tg l (Eg X.K tl):=by
 intro pins s σ H R I h;refine az (hl pins s σ H _ I h) λv s1 ⟨x,H1,I1,r1,q1⟩=>?_;obtain⟨a,e,⟨xs,hq⟩,q⟩:=q1;subst e;cases r1;obtain⟨aS,rv,p,hz⟩:=I1.list hq;refine wpAny_pyIter_list p.isList ?_;refine⟨s1.heap.objs.size,[s1.heap.objs.size],_,_,H1,rfl,I1.kept (t':=s1.toks) λb o e=>Heap.get?_push_of_some _ e,qj a _,⟨_,Heap.get?_push_size _ rfl,rfl,rfl⟩,λb hb=>?_,q⟩;have e:b=s1.heap.objs.size:=by simpa using hb
 subst e;exact I1.rm (Nat.le_refl _) (I1.aw.fresh (Nat.le_refl _))
theorem Fd{l:Expr}{tl:TE}(hl:PE X l tl):PI X tg l (Hj X.K tl):=by
 intro pins s σ H R I h;refine az (hl pins s σ H _ I h) λv s1 ⟨x,H1,I1,r1,q1⟩=>?_;obtain⟨a,e,⟨xs,hq⟩,q⟩:=q1;subst e;cases r1;obtain⟨aS,rv,p,hz⟩:=I1.tuple hq;refine wpAny_pyIter_tuple (show s1.heap.IsTuple a aS.toArray from p) ?_;refine⟨s1.heap.objs.size,[s1.heap.objs.size],_,_,H1,rfl,I1.kept (t':=s1.toks) λb o e=>Heap.get?_push_of_some _ e,oS a _,⟨_,Heap.get?_push_size _ rfl,rfl,rfl⟩,λb hb=>?_,q⟩;have e:b=s1.heap.objs.size:=by simpa using hb
 subst e;exact I1.rm (Nat.le_refl _) (I1.aw.fresh (Nat.le_refl _))
theorem t9{pins:List (Addr×Obj)}{σ:St}{H:Hp}{s:Shared}{R:It->Hp->Prop}{E:Value->Shared->Prop}{lo hi:Int}{t u v:Tok}{tk:Nat}(I:Inv X pins σ H s)(h1:-(2 ^ 62)<=lo)(h2:lo<2 ^ 62)(h3:-(2 ^ 62)<=hi)(h4:hi<2 ^ 62)(q:R (Ef lo (hi-lo).toNat) H):wpAny (model X.prog X.w) X.A (pyIter (.ref s.heap.objs.size)) (NC X pins σ tg R) E { s with heap:=s.heap.push { cls:=.type "range",data:=.fields #[.int lo t,.int hi u,.int 1 v] },toks:=tk }:=by
 refine wpAny_pyIter_range (IsRange.new ..) (small_one h1 h2 h3 h4) ?_;have I1:Inv X pins σ H { s with heap:=s.heap.push { cls:=.type "range",data:=.fields #[.int lo t,.int hi u,.int 1 v] },toks:=tk }:=I.kept λb o e=>Heap.get?_push_of_some _ e
 refine⟨(s.heap.push { cls:=.type "range",data:=.fields #[.int lo t,.int hi u,.int 1 v] }).objs.size,[(s.heap.push { cls:=.type "range",data:=.fields #[.int lo t,.int hi u,.int 1 v] }).objs.size],_,_,H,rfl,
  I1.kept (t':=tk) λb o e=>Heap.get?_push_of_some _ e,vV _ lo (hi-lo).toNat,?_,λb hb=>?_,q⟩
 ·have e1:lo+((0:Nat):Int)*1=lo:=by simp
  have e2:(((hi-lo).toNat:Nat):Int)-((0:Nat):Int)=Builtin.Range.rangeSize lo hi 1:=by rw[rangeSize_one];split<;>lia
  show IsRangeIter _ _ (lo+((0:Nat):Int)*1) ((((hi-lo).toNat:Nat):Int)-((0:Nat):Int)) 1;rw[e1,e2];exact Heap.get?_push_size _ rfl
 have e:b=(s.heap.push { cls:=.type "range",data:=.fields #[.int lo t,.int hi u,.int 1 v] }).objs.size:=by simpa using hb
 subst e;exact I1.rm (Nat.le_refl _) (I1.aw.fresh (Nat.le_refl _))
def Hk(ta:TA):TI:=λσ H R=>ta σ H λvs H1=>∃j:Int,vs=[.int j]/\-(2 ^ 62)<=j/\j<2 ^ 62/\R (Ef 0 j.toNat) H1
def Hl(ta:TA):TI:=λσ H R=>ta σ H λvs H1=>∃i j:Int,vs=[.int i,.int j]/\(-(2 ^ 62)<=i/\i<2 ^ 62/\-(2 ^ 62)<=j/\j<2 ^ 62)/\R (Ef i (j-i).toNat) H1
theorem cC{a:Expr}{ta:TA}{p pos:Pos}(hg:Gl X "range")(hm:X.mg "range"=none)(ha:PA X [a] ta)(hs:starEach [a] X.env=[(false,eval a X.env)]:=by rfl):PI X tg (.Call (.Name "range" p) [a] [] pos) (Hk ta):=by
 intro pins s σ H R I h;refine Call_ (oP I hg hm boot_range (PyProof.Rows.callWith_type1 (az (ha pos pins s σ H _ I h) λus s1 ⟨vs,H1,I1,r1,q1⟩=>?_) hs rfl));obtain⟨j,e,q1,q2,q⟩:=q1;subst e;cases r1 with
 |cons r rr =>
  cases rr;obtain⟨t,rfl⟩:=r;exact call_range_1 (t9 I1 (by lia) (by lia) q1 q2 (by simpa using q))
theorem yh{a b:Expr}{ta:TA}{p pos:Pos}(hg:Gl X "range")(hm:X.mg "range"=none)(ha:PA X [a,b] ta)(hs:starEach [a,b] X.env=[(false,eval a X.env),(false,eval b X.env)]:=by rfl)(yk:starEach [b] X.env=[(false,eval b X.env)]:=by rfl):
  PI X tg (.Call (.Name "range" p) [a,b] [] pos) (Hl ta):=by
 intro pins s σ H R I h;refine Call_ (oP I hg hm boot_range (PyProof.Rows.callWith_type1 (az (ha pos pins s σ H _ I h) λus s1 ⟨vs,H1,I1,r1,q1⟩=>?_) (by rw[hs,yk]) (by rw[yk];rfl)));obtain⟨i,j,e,⟨q1,q2,q3,q4⟩,q⟩:=q1;subst e;cases r1 with
 |cons r rr =>
  cases rr with
  |cons r' rr =>
   cases rr;obtain⟨t,rfl⟩:=r;obtain⟨t',rfl⟩:=r';exact call_range_2 (t9 I1 q1 q2 q3 q4 q)
def LH(wi:TI)(g:TG)(tb:TS):TS:=λD σ H=>wi σ H λJ H1=>∃W:Nat->Nat->St->Hp->Prop,(∃m,W 0 m σ H1)/\∀i m σ H,W i m σ H ->
 (J.stop i H/\D.nx σ H)\/(J.go i H/\∃N:St->Hp->Prop,(∀σ' H',N σ' H'->∃m',m'<m/\W (i+1) m' σ' H')/\∀x H',J.yg i H x H'->g x σ H' λσ2 H2=>tb { D with nx:=N,ct:=N,bk:=D.nx } σ2 H2)
def oT(fp:List Addr)(h:Heap):List (Addr×Obj):=fp.filterMap λb=>(h.get? b).map λo=>(b,o)
theorem hJ{fp:List Addr}{h:Heap}{b:Addr}{o:Obj}(hb:b∈fp)(e:h.get? b=some o):(b,o)∈oT fp h:=List.mem_filterMap.mpr ⟨b,hb,by rw[e];rfl⟩
theorem ym{fp:List Addr}{h:Heap}{p:Addr×Obj}(hp:p∈oT fp h):p.1∈fp/\h.get? p.1=some p.2:=by
 obtain⟨b,hb,e⟩:=List.mem_filterMap.mp hp;cases q:h.get? b with
 |none=>rw[q]at e;cases e
 |some o =>
  rw[q]at e;have e':(b,o)=p:=Option.some.inj e;subst e';exact⟨hb,q⟩
theorem Inv.pinned{pins:List (Addr×Obj)}{σ:St}{H:Hp}{s:Shared}{fp:List Addr}(I:Inv X pins σ H s)(hf:∀b∈fp,oR X pins H b)(ho:∀b∈fp,∃o,s.heap.get? b=some o/\∀v,o.data≠.cell v):Inv X (pins++oT fp s.heap) σ H s :=
 I.xV λp hp=>(List.mem_append.mp hp).elim (λz=>I.pin p (List.mem_append_right _ z)) λz=>by obtain⟨hb,e⟩:=ym z;obtain⟨f0,f1,f2,_⟩:=hf p.1 hb;obtain⟨o,e',d⟩:=ho p.1 hb;rw[e]at e';cases e';exact⟨e,f0,f1,f2,d⟩
theorem Inv.jE{pins pl:List (Addr×Obj)}{σ:St}{H:Hp}{s:Shared}(I:Inv X (pins++pl) σ H s):Inv X pins σ H s:=I.xV λp hp=>I.pin p (List.mem_append_right _ (List.mem_append_left _ hp))
theorem bJ{iter:Expr}{body:List Stmt}{wi:TI}{g:TG}{tb:TS}{pos:Pos}(hp:PassesOwn (model X.prog X.w) X.A X.env X.xe)(hc:X.calm=true)(hi:PI X tg iter wi)(hg:PG X tg g)(hb:AI X body tb)(hs:∀x,foldedSetIterable iter X.env x=pure x:=by intro _;rfl):PS X (.For tg iter body [] pos) (LH wi g tb):=by
 intro pins s σ H D I h;refine wpAny_For (az (hi pins s σ H _ I h) λv s1 h1=>az h1 λKC s2 h2=>?_) hs;obtain⟨it,fp,tn,J,H2,e,I2,T,qE,f2,W,⟨m0,w0⟩,turn⟩:=h2;subst e;have vW:∀{H':Hp},(∀b∈fp,H' b=none)->∀b∈fp,oR X pins H' b:=λhn b hb=>⟨hn b hb,(f2 b hb).2⟩;refine codeAny_forLoop_any (λn s'=>∃i σ' H',Inv X pins σ' H' s'/\tn i s'.heap/\(∀b∈fp,H' b=none)/\W i n σ' H') ?_ m0 ⟨0,σ,H2,I2,qE,λb hb=>(f2 b hb).1,w0⟩;rintro n s3 ⟨i,σ3,H3,I3,gc,ND,w3⟩;rcases turn i n σ3 H3 w3 with⟨stop,qn⟩|⟨go,N,hN,step⟩
 ·refine wpAny_passesOwn hp (az (T.done X rfl rfl rfl hc i pins s3 σ3 H3 X.xe I3 (vW ND) gc stop) λr s4 ⟨hr,I4⟩=>?_);subst hr;exact wpAny_execs_nil ⟨σ3,H3,I4,qn⟩
 refine wpAny_passesOwn hp (az (T.item X rfl rfl rfl hc i pins s3 σ3 H3 X.xe I3 (vW ND) gc go) λr s4 ⟨u,hr,h4⟩=>?_);subst hr;refine wpAny_passesOwn hp (az h4 λ_ s5 ⟨x,H5,I5,r5,y5,G8,Hm⟩=>?_);have ON:=I5.pinned (vW Hm) (T.obj _ _ G8);refine wpAny_passesOwn hp (az (hg _ s5 σ3 H5 x u _ ON r5 (step x H5 y5)) λ_ s6 ⟨σ6,H6,I6,q6⟩=>?_);refine wpAny_passesOwn hp (az (hb _ s6 σ6 H6 _ I6 q6) λf s7 q7=>?_);have again:∀{σ7:St}{H7:Hp},Inv X (pins++oT fp s5.heap) σ7 H7 s7->N σ7 H7->∃m,m<n/\∃i σ' H',Inv X pins σ' H' s7/\tn i s7.heap/\(∀b∈fp,H' b=none)/\W i m σ' H':=λ{σ7 H7} I7 n7=>by obtain⟨m',hm,w7⟩:=hN σ7 H7 n7;refine⟨m',hm,i+1,σ7,H7,I7.jE,T.keep _ _ _ G8 λb hb o e=>(I7.pin (b,o) (List.mem_append_right _ (List.mem_append_right _ (hJ hb e)))).1,λb hb=>?_,w7⟩;obtain⟨o,e,d⟩:=T.obj _ _ G8 b hb;exact(I7.pin (b,o) (List.mem_append_right _ (List.mem_append_right _ (hJ hb e)))).2.1
 cases f with
 |next=>obtain⟨σ7,H7,I7,n7⟩:=q7;exact again I7 n7
 |cont=>obtain⟨σ7,H7,I7,n7⟩:=q7;exact again I7 n7
 |brk=>obtain⟨σ7,H7,I7,q7⟩:=q7;exact⟨σ7,H7,I7.jE,q7⟩
 |ret v=>obtain⟨x7,σ7,H7,I7,r7,q7⟩:=q7;exact⟨x7,σ7,H7,I7.jE,r7,q7⟩
end
theorem cM{K:PySem.W.Frag}{a:Addr}{xs:List V}{g:TG}{tb:TS}{D:Ends}{σ:St}{H:Hp}(Pv:Nat->St->Hp->Prop)(h0:Pv 0 σ H)(hl:∀i σ H,i<=xs.length->Pv i σ H->af K H a xs)(hs:∀i x σ H,xs[i]?=some x->Pv i σ H->g x σ H λσ2 H2=>tb { D with nx:=Pv (i+1),ct:=Pv (i+1),bk:=D.nx } σ2 H2)(hd:∀σ H,Pv xs.length σ H->D.nx σ H):
  ∃W:Nat->Nat->St->Hp->Prop,(∃m,W 0 m σ H)/\∀i m σ H,W i m σ H ->
   ((G6 K a).stop i H/\D.nx σ H)\/((G6 K a).go i H/\∃N:St->Hp->Prop,(∀σ' H',N σ' H'->∃m',m'<m/\W (i+1) m' σ' H')/\∀x H',(G6 K a).yg i H x H'->g x σ H' λσ2 H2=>tb { D with nx:=N,ct:=N,bk:=D.nx } σ2 H2):=by
 refine⟨λi m σ H=>m=xs.length-i/\i<=xs.length/\Pv i σ H,⟨xs.length,by simp,Nat.zero_le _,h0⟩,?_⟩;rintro i m σ H ⟨rfl,hi,p⟩;have q:=hl i σ H hi p;by_cases bq:i<xs.length
 ·refine .inr ⟨⟨xs,xs[i],q,by simp[bq]⟩,Pv (i+1),λσ' H' p'=>⟨xs.length-(i+1),by lia,rfl,bq,p'⟩,λx H' y=>?_⟩;obtain⟨e,y⟩:=y;subst e;exact hs i x σ _ (y xs q) p
 have e:i=xs.length:=by lia
 subst e;exact .inl ⟨⟨xs,q,Nat.le_refl _⟩,hd σ H p⟩
theorem xY{K:PySem.W.Frag}{a:Addr}{xs:List V}{g:TG}{tb:TS}{D:Ends}{σ:St}{H:Hp}(Pv:Nat->St->Hp->Prop)(h0:Pv 0 σ H)(hl:∀i σ H,i<=xs.length->Pv i σ H->ar K H a xs)(hs:∀i x σ H,xs[i]?=some x->Pv i σ H->g x σ H λσ2 H2=>tb { D with nx:=Pv (i+1),ct:=Pv (i+1),bk:=D.nx } σ2 H2)(hd:∀σ H,Pv xs.length σ H->D.nx σ H):
  ∃W:Nat->Nat->St->Hp->Prop,(∃m,W 0 m σ H)/\∀i m σ H,W i m σ H ->
   ((G7 K a).stop i H/\D.nx σ H)\/((G7 K a).go i H/\∃N:St->Hp->Prop,(∀σ' H',N σ' H'->∃m',m'<m/\W (i+1) m' σ' H')/\∀x H',(G7 K a).yg i H x H'->g x σ H' λσ2 H2=>tb { D with nx:=N,ct:=N,bk:=D.nx } σ2 H2):=by
 refine⟨λi m σ H=>m=xs.length-i/\i<=xs.length/\Pv i σ H,⟨xs.length,by simp,Nat.zero_le _,h0⟩,?_⟩;rintro i m σ H ⟨rfl,hi,p⟩;have q:=hl i σ H hi p;by_cases bq:i<xs.length
 ·refine .inr ⟨⟨xs,xs[i],q,by simp[bq]⟩,Pv (i+1),λσ' H' p'=>⟨xs.length-(i+1),by lia,rfl,bq,p'⟩,λx H' y=>?_⟩;obtain⟨e,y⟩:=y;subst e;exact hs i x σ _ (y xs q) p
 have e:i=xs.length:=by lia
 subst e;exact .inl ⟨⟨xs,q,Nat.le_refl _⟩,hd σ H p⟩
theorem dD{lo:Int}{n:Nat}{g:TG}{tb:TS}{D:Ends}{σ:St}{H:Hp}(Pv:Nat->St->Hp->Prop)(h0:Pv 0 σ H)(hs:∀i σ H,i<n->Pv i σ H->g (.int (lo+i)) σ H λσ2 H2=>tb { D with nx:=Pv (i+1),ct:=Pv (i+1),bk:=D.nx } σ2 H2)(hd:∀σ H,Pv n σ H->D.nx σ H):
  ∃W:Nat->Nat->St->Hp->Prop,(∃m,W 0 m σ H)/\∀i m σ H,W i m σ H ->
   ((Ef lo n).stop i H/\D.nx σ H)\/((Ef lo n).go i H/\∃N:St->Hp->Prop,(∀σ' H',N σ' H'->∃m',m'<m/\W (i+1) m' σ' H')/\∀x H',(Ef lo n).yg i H x H'->g x σ H' λσ2 H2=>tb { D with nx:=N,ct:=N,bk:=D.nx } σ2 H2):=by
 refine⟨λi m σ H=>m=n-i/\i<=n/\Pv i σ H,⟨n,by simp,Nat.zero_le _,h0⟩,?_⟩;rintro i m σ H ⟨rfl,hi,p⟩;by_cases bq:i<n
 ·refine .inr ⟨bq,Pv (i+1),λσ' H' p'=>⟨n-(i+1),by lia,rfl,bq,p'⟩,λx H' y=>?_⟩;obtain⟨e,y⟩:=y;subst e y;exact hs i σ _ bq p
 have e:i=n:=by lia
 subst e;exact .inl ⟨Nat.le_refl _,hd σ H p⟩
abbrev R2:=V->V->Hp->VK->Prop
def jF(X:Cx)(f:Value->Value->Sem Value)(r:R2):Prop :=
 ∀(pins:List (Addr×Obj))(s:Shared)(σ:St)(H:Hp)(x y:V)(v u:Value)(Q:VK),Inv X pins σ H s->RelV x v->RelV y u->r x y H Q ->
  wpAny (model X.prog X.w) X.A (f v u) (EP X pins σ Q) X.xe s
def LI(X:Cx)(f:Value->Sem Value)(r:V->Hp->VK->Prop):Prop :=
 ∀(pins:List (Addr×Obj))(s:Shared)(σ:St)(H:Hp)(x:V)(v:Value)(Q:VK),Inv X pins σ H s->RelV x v->r x H Q ->
  wpAny (model X.prog X.w) X.A (f v) (EP X pins σ Q) X.xe s
def dC(X:Cx)(f:Value)(r:List V->Hp->VK->Prop):Prop :=
 ∀(pins:List (Addr×Obj))(s:Shared)(σ:St)(H:Hp)(xs:List V)(us:List Value)(Q:VK),Inv X pins σ H s->aX xs us->r xs H Q ->
  wpAny (model X.prog X.w) X.A (call f us) (EP X pins σ Q) X.xe s
def Hn(r:R2)(ta tb:TE):TE:=λσ H Q=>ta σ H λx H1=>tb σ H1 λy H2=>r x y H2 Q
def OO(r:V->Hp->VK->Prop)(ta:TE):TE:=λσ H Q=>ta σ H λx H1=>r x H1 Q
def rI(C:Int->Int->Prop)(g:Int->Int->V):R2:=λx y H Q=>∃i j,x=.int i/\y=.int j/\C i j/\Q (g i j) H
def Fe(g:Int->Int->V):R2:=λx y H Q=>∃i j,x=.int i/\y=.int j/\Q (g i j) H
def rU(g:Int->V):V->Hp->VK->Prop:=λx H Q=>∃i,x=.int i/\Q (g i) H
section
variable{X:Cx}{a b c:Expr}{ta tb tc:TE}{pos:Pos}
theorem Ff(ha:PE X a ta)(hb:PE X b tb){pins:List (Addr×Obj)}{s:Shared}{σ:St}{H:Hp}{R:V->V->Hp->Prop}(I:Inv X pins σ H s)(h:ta σ H λx H1=>tb σ H1 λy H2=>R x y H2){Q:Value->Shared->Prop}{f:Value->Value->Sem Value}(hf:∀v u s2 x y H2,Inv X pins σ H2 s2->RelV x v->RelV y u->R x y H2->wpAny (model X.prog X.w) X.A (f v u) Q X.xe s2):
  wpAny (model X.prog X.w) X.A (eval a X.env) (λv s₁=>wpAny (model X.prog X.w) X.A (eval b X.env) (λu s₂=>wpAny (model X.prog X.w) X.A (f v u) Q X.xe s₂) X.xe s₁) X.xe s:=by
 refine az (ha pins s σ H _ I h) λv s1 ⟨x,H1,I1,r1,q1⟩=>?_;refine az (hb pins s1 σ H1 _ I1 q1) λu s2 ⟨y,H2,I2,r2,q2⟩=>?_;exact hf v u s2 x y H2 I2 r1 r2 q2
theorem ao{op:Operator}{r:R2}(ho:jF X (binaryOp op) r)(ha:PE X a ta)(hb:PE X b tb):PE X (.BinOp a op b pos) (Hn r ta tb):=by intro pins s σ H Q I h;exact wpAny_BinOp (Ff ha hb I h λv u s2 x y H2 I2 rx ry q=>ho pins s2 σ H2 x y v u Q I2 rx ry q)
theorem xZ{op:UnaryOp}{r:V->Hp->VK->Prop}(ho:LI X (unaryOp op) r)(ha:PE X a ta):PE X (.UnaryOp op a pos) (OO r ta):=by intro pins s σ H Q I h;exact UnaryOp_ (az (ha pins s σ H _ I h) λv s1 ⟨x,H1,I1,r1,q1⟩=>ho pins s1 σ H1 x v Q I1 r1 q1)
theorem KD{f:Value->Value->Sem Value}{C:Int->Int->Prop}{g:Int->Int->Int}(rule:∀(i j:Int)(t u:Tok)(s:Shared)(Q:Value->Shared->Prop)(E:Value->Shared->Prop),C i j->Q (.int (g i j) s.toks) { s with toks:=s.toks+1 }->wpAny (model X.prog X.w) X.A (f (.int i t) (.int j u)) Q E s):
  jF X f (rI C λi j=>.int (g i j)):=by
 intro pins s σ H x y v u Q I rx ry h;obtain⟨i,j,rfl,rfl,hc,q⟩:=h;obtain⟨t,rfl⟩:=rx;obtain⟨t',rfl⟩:=ry;exact rule i j t t' s _ _ hc ⟨.int (g i j),H,I.tok _,⟨_,rfl⟩,q⟩
theorem Ho{f:Value->Value->Sem Value}{g:Int->Int->Int}(rule:∀(i j:Int)(t u:Tok)(s:Shared)(Q:Value->Shared->Prop)(E:Value->Shared->Prop),Q (.int (g i j) s.toks) { s with toks:=s.toks+1 }->wpAny (model X.prog X.w) X.A (f (.int i t) (.int j u)) Q E s):
  jF X f (Fe λi j=>.int (g i j)):=by
 intro pins s σ H x y v u Q I rx ry h;obtain⟨i,j,rfl,rfl,q⟩:=h;obtain⟨t,rfl⟩:=rx;obtain⟨t',rfl⟩:=ry;exact rule i j t t' s _ _ ⟨.int (g i j),H,I.tok _,⟨_,rfl⟩,q⟩
theorem Fg{f:Value->Value->Sem Value}{g:Int->Int->Bool}(rule:∀(i j:Int)(t u:Tok)(s:Shared)(Q:Value->Shared->Prop)(E:Value->Shared->Prop),Q (.bool (g i j)) s->wpAny (model X.prog X.w) X.A (f (.int i t) (.int j u)) Q E s):
  jF X f (Fe λi j=>.bl (g i j)):=by
 intro pins s σ H x y v u Q I rx ry h;obtain⟨i,j,rfl,rfl,q⟩:=h;obtain⟨t,rfl⟩:=rx;obtain⟨t',rfl⟩:=ry;exact rule i j t t' s _ _ ⟨.bl (g i j),H,I,rfl,q⟩
def LJ(i j:Int):Prop:=0<j/\j<1073741824
def LK(i j:Int):Prop:=0<=j/\j<=1000000/\i.natAbs<2 ^ 64
def Fh(i j:Int):Prop:=(-(2 ^ 64)<i/\i<2 ^ 64)\/(-(2 ^ 64)<j/\j<2 ^ 64)
theorem Fh.ok{i j:Int}(h:Fh i j):IntMulOk i j:=by
 rcases h with⟨h1,h2⟩|⟨h1,h2⟩
 ·exact .of_left (intBits_le_64 h1 h2)
 exact .of_right (intBits_le_64 h1 h2)
theorem bK:jF X (binaryOp .Add) (Fe λi j=>.int (i+j)):=Ho λ_ _ _ _ _ _ _ q=>add_int q
theorem rn:jF X (binaryOp .Sub) (Fe λi j=>.int (i-j)):=Ho λ_ _ _ _ _ _ _ q=>sub_int q
theorem xf:jF X (binaryOp .FloorDiv) (rI LJ λi j=>.int (i/j)):=KD λi j _ _ _ _ _ hc q=>by have h1:(0:Int)<j:=hc.1;have h2:j<1073741824:=hc.2;exact floordiv_int (by lia) (by rw[Int.fdiv_eq_ediv_of_nonneg i (by lia)];exact q) (.inl (PyProof.noPylong_small (by lia)))
theorem fA:jF X (binaryOp .Mod) (rI (λ_ j=>0<j) λi j=>.int (i%j)):=KD λi j _ _ _ _ _ hc q=>by have h1:(0:Int)<j:=hc;exact mod_int' (by lia) (by rw[Int.fmod_eq_emod_of_nonneg i (by lia)];exact q)
theorem Fi:jF X (binaryOp .Pow) (rI LK λi j=>.int (i ^ j.toNat)):=KD λ_ _ _ _ _ _ _ hc q=>pow_int_small hc.1 hc.2.1 hc.2.2 q
theorem OP{f:Value->Sem Value}{g:Int->Int}(rule:∀(i:Int)(t:Tok)(s:Shared)(Q:Value->Shared->Prop)(E:Value->Shared->Prop),Q (.int (g i) s.toks) { s with toks:=s.toks+1 }->wpAny (model X.prog X.w) X.A (f (.int i t)) Q E s):
  LI X f (rU λi=>.int (g i)):=by
 intro pins s σ H x v Q I rx h;obtain⟨i,rfl,q⟩:=h;obtain⟨t,rfl⟩:=rx;exact rule i t s _ _ ⟨.int (g i),H,I.tok _,⟨_,rfl⟩,q⟩
theorem ro:LI X (unaryOp .USub) (rU λi=>.int (-i)):=OP λ_ _ _ _ _ q=>neg_int q
end
def Hq:V->V->Bool
 |.bS,.bS=>true|.bS,.int _=>true|.int _,.bS=>true|.bS,.bl _=>true|.bl _,.bS=>true|.bS,.str _=>true|.str _,.bS=>true
 |.int _,.int _=>true|.bl _,.bl _=>true|.str _,.str _=>true|.AH _,.AH _=>true
 |.int _,.str _=>true|.str _,.int _=>true|.bl _,.str _=>true|.str _,.bl _=>true
 |_,_=>false
def OQ:R2:=λx y H Q=>Hq x y=true/\Q (.bl (decide (x=y))) H
def OR:R2:=λx y H Q=>Hq x y=true/\Q (.bl (!decide (x=y))) H
theorem xh{i j:Int}:decide (V.int i=V.int j)=(i==j):=by rw[Bool.eq_iff_iff];simp
theorem AV{i j:Bool}:decide (V.bl i=V.bl j)=(i==j):=by rw[Bool.eq_iff_iff];simp
theorem xi{i j:Str}:decide (V.str i=V.str j)=(i==j):=by rw[Bool.eq_iff_iff];simp
theorem xj{i j:Array UInt8}:decide (V.AH i=V.AH j)=(i.toList==j.toList):=by rw[Bool.eq_iff_iff];cases i;cases j;simp
section
variable{X:Cx}{a b c:Expr}{ta tb tc:TE}{pos:Pos}
theorem av{pins:List (Addr×Obj)}{σ:St}{H:Hp}{s:Shared}{Q:VK}{k k':Bool}(I:Inv X pins σ H s)(q:Q (.bl k) H)(e:k=k'):EP X pins σ Q (.bool k') s:=by subst e;exact⟨.bl k,H,I,rfl,q⟩
theorem lS:jF X (compareOp .Eq) OQ:=by
 intro pins s σ H x y v u Q I rx ry h;obtain⟨hs,q⟩:=h;cases x with
 |bS =>
  cases rx;cases y with
  |bS=>cases ry;exact PySem.EqNone.eq_none_none (av I q (by simp))
  |bl j=>cases ry;exact PySem.EqNone.eq_none_bool (av I q (by simp))
  |int j=>obtain⟨t',rfl⟩:=ry;exact PySem.EqNone.eq_none_int (av I q (by simp))
  |str j=>obtain⟨t',rfl⟩:=ry;exact PySem.EqNone.eq_none_str (av I q (by simp))
  |_=>exact absurd (show false=true from hs) Bool.false_ne_true
 |bl i =>
  cases rx;cases y with
  |bS=>cases ry;exact PySem.EqNone.eq_bool_none (av I q (by simp))
  |bl j=>cases ry;exact eq_bool (av I q AV)
  |str j=>obtain⟨t',rfl⟩:=ry;exact PySem.EqMixed.eq_bool_str (av I q (by simp))
  |_=>exact absurd (show false=true from hs) Bool.false_ne_true
 |int i =>
  obtain⟨t,rfl⟩:=rx;cases y with
  |bS=>cases ry;exact PySem.EqNone.eq_int_none (av I q (by simp))
  |int j=>obtain⟨t',rfl⟩:=ry;exact eq_int (av I q xh)
  |str j=>obtain⟨t',rfl⟩:=ry;exact PySem.EqMixed.eq_int_str (av I q (by simp))
  |_=>exact absurd (show false=true from hs) Bool.false_ne_true
 |str i =>
  obtain⟨t,rfl⟩:=rx;cases y with
  |bS=>cases ry;exact PySem.EqNone.eq_str_none (av I q (by simp))
  |bl j=>cases ry;exact PySem.EqMixed.eq_str_bool (av I q (by simp))
  |int j=>obtain⟨t',rfl⟩:=ry;exact PySem.EqMixed.eq_str_int (av I q (by simp))
  |str j=>obtain⟨t',rfl⟩:=ry;exact eq_str (av I q xi)
  |_=>exact absurd (show false=true from hs) Bool.false_ne_true
 |AH i =>
  obtain⟨t,rfl⟩:=rx;cases y with
  |AH j=>obtain⟨t',rfl⟩:=ry;exact PySem.W.eq_bytes (av I q xj)
  |_=>exact absurd (show false=true from hs) Bool.false_ne_true
 |_=>cases y<;>exact absurd (show false=true from hs) Bool.false_ne_true
theorem uA:jF X (compareOp .NotEq) OR:=by
 intro pins s σ H x y v u Q I rx ry h;obtain⟨hs,q⟩:=h;cases x with
 |bS =>
  cases rx;cases y with
  |bS=>cases ry;exact PySem.EqNone.ne_none_none (av I q (by simp))
  |bl j=>cases ry;exact PySem.EqNone.ne_none_bool (av I q (by simp))
  |int j=>obtain⟨t',rfl⟩:=ry;exact PySem.EqNone.ne_none_int (av I q (by simp))
  |str j=>obtain⟨t',rfl⟩:=ry;exact PySem.EqNone.ne_none_str (av I q (by simp))
  |_=>exact absurd (show false=true from hs) Bool.false_ne_true
 |bl i =>
  cases rx;cases y with
  |bS=>cases ry;exact PySem.EqNone.ne_bool_none (av I q (by simp))
  |bl j=>cases ry;exact ne_bool (av I q (congrArg not AV))
  |str j=>obtain⟨t',rfl⟩:=ry;exact PySem.EqMixed.ne_bool_str (av I q (by simp))
  |_=>exact absurd (show false=true from hs) Bool.false_ne_true
 |int i =>
  obtain⟨t,rfl⟩:=rx;cases y with
  |bS=>cases ry;exact PySem.EqNone.ne_int_none (av I q (by simp))
  |int j=>obtain⟨t',rfl⟩:=ry;exact ne_int (av I q (congrArg not xh))
  |str j=>obtain⟨t',rfl⟩:=ry;exact PySem.EqMixed.ne_int_str (av I q (by simp))
  |_=>exact absurd (show false=true from hs) Bool.false_ne_true
 |str i =>
  obtain⟨t,rfl⟩:=rx;cases y with
  |bS=>cases ry;exact PySem.EqNone.ne_str_none (av I q (by simp))
  |bl j=>cases ry;exact PySem.EqMixed.ne_str_bool (av I q (by simp))
  |int j=>obtain⟨t',rfl⟩:=ry;exact PySem.EqMixed.ne_str_int (av I q (by simp))
  |str j=>obtain⟨t',rfl⟩:=ry;exact ne_str (av I q (congrArg not xi))
  |_=>exact absurd (show false=true from hs) Bool.false_ne_true
 |AH i =>
  obtain⟨t,rfl⟩:=rx;cases y with
  |AH j=>obtain⟨t',rfl⟩:=ry;exact PySem.W.ne_bytes (av I q (congrArg not xj))
  |_=>exact absurd (show false=true from hs) Bool.false_ne_true
 |_=>cases y<;>exact absurd (show false=true from hs) Bool.false_ne_true
theorem lT:jF X (compareOp .Lt) (Fe λi j=>.bl (decide (i<j))):=Fg λ_ _ _ _ _ _ _ q=>lt_int q
theorem xk:jF X (compareOp .LtE) (Fe λi j=>.bl (decide (i<=j))):=Fg λ_ _ _ _ _ _ _ q=>le_int q
theorem oU:jF X (compareOp .Gt) (Fe λi j=>.bl (decide (j<i))):=Fg λ_ _ _ _ _ _ _ q=>gt_int q
theorem Cs:jF X (compareOp .IsNot) (λx y H Q=>y=.bS/\Q (.bl (!decide (x=.bS))) H):=by
 intro pins s σ H x y v u Q I rx ry h;obtain⟨rfl,q⟩:=h;cases ry;refine isnot_none_gen (av I q ?_);cases x<;>first
  | (cases rx;rfl)
  | (obtain⟨t,rfl⟩:=rx;rfl)
theorem ah(b:Expr){op:CmpOp}(h:op≠.In:=by decide)(h2:op≠.NotIn:=by decide):behindInMarks op b=false:=by
 have e1:(op==CmpOp.In)=false:=by cases op<;>first|rfl|exact absurd rfl h
 have e2:(op==CmpOp.NotIn)=false:=by cases op<;>first|rfl|exact absurd rfl h2
 cases b<;>simp[behindInMarks,e1,e2]
theorem fb{op:CmpOp}{r:R2}(ho:jF X (compareOp op) r)(ha:PE X a ta)(hb:PE X b tb)(hm:behindInMarks op b=false):PE X (.Compare a [op] [b] pos) (Hn r ta tb):=by intro pins s σ H Q I h;exact wpAny_Compare1 (Ff ha hb I h λv u s2 x y H2 I2 rx ry q=>ho pins s2 σ H2 x y v u Q I2 rx ry q) hm
def Eh(t:TE):TT:=λσ H Q=>t σ H λx H'=>∃k,x=.bl k/\Q k H'
theorem aW{op:CmpOp}{r:R2}(ho:jF X (compareOp op) r)(ha:PE X a ta)(hb:PE X b tb)(hm:behindInMarks op b=false):PT X (.Compare a [op] [b] pos) (Eh (Hn r ta tb)):=by
 intro pins s σ H Q I h;refine wpAny_isTrue_Compare1 (az (ha pins s σ H _ I h) λv s1 ⟨x,H1,I1,r1,q1⟩=>az (hb pins s1 σ H1 _ I1 q1) λu s2 ⟨y,H2,I2,r2,q2⟩ =>
  az (ho pins s2 σ H2 x y v u _ I2 r1 r2 q2) λc s3 ⟨z,H3,I3,r3,k,e,q3⟩=>?_) hm
 subst e;cases r3;exact wpAny_truthy_bool ⟨H3,I3,q3⟩
def AW(r r':R2)(ta tb tc:TE):TE:=λσ H Q=>ta σ H λx H1=>tb σ H1 λy H2=>r x y H2 λz H3=>∃k,z=.bl k /\
 (if k=true then tc σ H3 λw' H4=>r' y w' H4 Q else Q (.bl false) H3)
theorem AX{op Fj:CmpOp}{r r':R2}(ho:jF X (compareOp op) r)(tS:jF X (compareOp Fj) r')(ha:PE X a ta)(hb:PE X b tb)(hc:PE X c tc)(hm:lastMarks [op,Fj] [b,c]=false:=by with_unfolding_all rfl):PE X (.Compare a [op,Fj] [b,c] pos) (AW r r' ta tb tc):=by
 intro pins s σ H Q I h;refine Compare_chain (az (ha pins s σ H _ I h) λv s1 ⟨x,H1,I1,r1,q1⟩=>chain_link (az (hb pins s1 σ H1 _ I1 q1) λu s2 ⟨y,H2,I2,r2,q2⟩ =>
  az (ho pins s2 σ H2 x y v u _ I2 r1 r2 q2) λd s3 ⟨z,H3,I3,r3,k,e,q3⟩=>?_)) hm
 subst e;cases r3;refine wpAny_truthy_bool ?_;cases k with
 |false=>exact ite_ff ⟨.bl false,H3,I3,rfl,q3⟩
 |true=>exact ite_tt (chain_last (az (hc pins s3 σ H3 _ I3 q3) λw' s4 ⟨z',H4,I4,r4,q4⟩=>tS pins s4 σ H4 y z' u w' Q I4 r2 r4 q4))
theorem AY{op Fj:CmpOp}{r r':R2}(ho:jF X (compareOp op) r)(tS:jF X (compareOp Fj) r')(ha:PE X a ta)(hb:PE X b tb)(hc:PE X c tc)(hm:lastMarks [op,Fj] [b,c]=false:=by with_unfolding_all rfl):PT X (.Compare a [op,Fj] [b,c] pos) (Eh (AW r r' ta tb tc)):=by
 intro pins s σ H Q I h;refine isTrue_chain (az (ha pins s σ H _ I h) λv s1 ⟨x,H1,I1,r1,q1⟩=>test_link (az (hb pins s1 σ H1 _ I1 q1) λu s2 ⟨y,H2,I2,r2,q2⟩ =>
  az (ho pins s2 σ H2 x y v u _ I2 r1 r2 q2) λd s3 ⟨z,H3,I3,r3,k,e,q3⟩=>?_)) hm
 subst e;cases r3;refine wpAny_truthy_bool ?_;cases k with
 |false =>
  obtain⟨k',e',q'⟩:=q3;cases e';exact ite_ff ⟨H3,I3,q'⟩
 |true =>
  refine ite_tt (test_last (az (hc pins s3 σ H3 _ I3 q3) λw' s4 ⟨z',H4,I4,r4,q4⟩=>az (tS pins s4 σ H4 y z' u w' _ I4 r2 r4 q4) λd' s5 ⟨z2,H5,I5,r5,k2,e2,q5⟩=>?_));subst e2;cases r5;exact wpAny_truthy_bool ⟨H5,I5,q5⟩
theorem vX:(sizeLine:Nat)<2 ^ 63:=by rw[sizeLine_eq];decide
theorem vals1{x:V}{us:List Value}(r:aX [x] us):∃u,us=[u]/\RelV x u:=by
 cases r with
 |cons r1 r2=>cases r2;exact⟨_,rfl,r1⟩
theorem vals2{x y:V}{us:List Value}(r:aX [x,y] us):∃u w',us=[u,w']/\RelV x u/\RelV y w':=by
 cases r with
 |cons r1 r2 =>
  cases r2 with
  |cons r3 r4=>cases r4;exact⟨_,_,rfl,r1,r3⟩
theorem mW(hc:X.calm=true):dC X (.builtin "max") (λxs H Q=>∃i j,xs=[.int i,.int j]/\Q (.int (if j>i then j else i)) H):=by
 intro pins s σ H xs us Q I r h;obtain⟨i,j,rfl,q⟩:=h;obtain⟨u,w',rfl,⟨t,rfl⟩,⟨t',rfl⟩⟩:=vals2 r;refine max_two_ints (I.ok.hd hc) λh' tk k=>⟨_,H,I.kept k,?_,q⟩;by_cases hj:j>i
 ·rw[if_pos hj,if_pos hj];exact⟨_,rfl⟩
 rw[if_neg hj,if_neg hj];exact⟨_,rfl⟩
theorem qk(hc:X.calm=true):dC X (.builtin "min") (λxs H Q=>∃i j,xs=[.int i,.int j]/\Q (.int (if j<i then j else i)) H):=by
 intro pins s σ H xs us Q I r h;obtain⟨i,j,rfl,q⟩:=h;obtain⟨u,w',rfl,⟨t,rfl⟩,⟨t',rfl⟩⟩:=vals2 r;refine min_two_ints (I.ok.hd hc) λh' tk k=>⟨_,H,I.kept k,?_,q⟩;by_cases hj:j<i
 ·rw[if_pos hj,if_pos hj];exact⟨_,rfl⟩
 rw[if_neg hj,if_neg hj];exact⟨_,rfl⟩
end
structure vY(h:Heap)(x dx C:Addr)(mA:Str->Option Value):Prop where
 obj:h.get? x=some (PySem.W.instObj C dx)
 ns:h.Ns1 dx mA
 ne:dx≠x
theorem yn{h:Heap}{dx:Addr}{mA:Str->Option Value}(n:h.Ns1 dx mA):∃od,h.get? dx=some od/\∀name,PySem.W.lookIn name od=some (mA name):=by
 obtain⟨o,es,ep,ho,hd,hk,_,hm⟩:=n;refine⟨o,ho,λname=>?_⟩;have e:=hm name;unfold nsFind findBy at e;rw[<-Array.find?_toList]at e;unfold PySem.W.lookIn;rw[hd];dsimp only;split
 ·rename_i y q;rw[q]at e;exact congrArg some e
 rename_i q;rw[q]at e;have a:es.toList.any (·.refKey)=false:=by rw[List.any_eq_false];intro y hy;obtain⟨z,t,vZ⟩:=hk y (Array.mem_toList_iff.mp hy);simp[DictEntry.refKey,vZ]
 have a':¬es.toList.any (·.refKey)=true:=by rw[a];exact Bool.false_ne_true
 rw[if_neg a'];exact congrArg some e
theorem vY.look{h:Heap}{x dx C:Addr}{mA:Str->Option Value}(I:vY h x dx C mA):∃od,PySem.W.InstAt h x (PySem.W.instObj C dx) C (some od)/\∀name,PySem.W.lookIn name od=some (mA name) :=
 let⟨od,ho,hl⟩:=yn I.ns
 ⟨od,⟨I.obj,rfl,rfl,ho⟩,hl⟩
section
variable{prog:Program}{w:World}{A:Around}{E:Value->Shared->Prop}{s:Shared}{K:PySem.W.Frag}{x dx C f:Addr}{mA:Str->Option Value}{name:Str}{v:Value}
theorem get_map{expr:Bool}{Q:Value->Shared->Prop}(X:K.In s.heap)(I:vY s.heap x dx C mA)(hg:PySem.W.plainGet K C name=true)(hh:PySem.W.hasDictIn K C=true)(ha:PySem.W.findIn K (.ref C) name=some none)(hv:mA name=some v)(lR:PySem.W.handedIn v=true)(h:Q v { s with toks:=s.toks+1 }):
  wpAny (model prog w) A (getAttr (.ref x) name expr) Q E s:=by
 obtain⟨od,J,hl⟩:=I.look;exact PySem.W.get_value X J (PySem.W.plainGet_of hg).1 (PySem.W.findObj_own hh ha rfl (by rw[hl,hv])) lR h
theorem AZ{pl:Sem Bool}{Q:Value×List Value->Shared->Prop}(X:K.In s.heap)(I:vY s.heap x dx C mA)(hg:PySem.W.plainGet K C name=true)(hf:PySem.W.findIn K (.ref C) name=some (some (.ref f)))(ht:PySem.W.isFn K (.ref f)=true)(hv:mA name=none)(h:Q (.ref f,[.ref x]) s):
  wpAny (model prog w) A (getMethod (.ref x) name pl) Q E s:=by
 obtain⟨od,J,hl⟩:=I.look;exact PySem.W.method_fn X J (PySem.W.plainGet_of hg).1 (PySem.W.plainGet_of hg).2 hf (beq_iff_eq.mp ht) (by show(PySem.W.lookIn name od).map (·.isSome)=some false;rw[hl,hv];rfl) h
theorem Ct{ns:List Str}{Q:Unit->Shared->Prop}(X:K.In s.heap)(I:vY s.heap x dx C mA)(hs:PySem.W.findIn K (.ref C) "__setattr__"=some (some (.builtin "object.__setattr__")))(hp:PySem.W.plainOver K C=true)(ht:PySem.W.takerIn K C name=some none)(hh:PySem.W.hasDictIn K C=true)(hw:PySem.Within mA ns)(hsz:ns.length<=sizeLine)(h:∀h',vY h' x dx C (λy=>if y=name then some v else mA y)->Heap.SameBut dx s.heap h'->Q () { s with heap:=h',toks:=s.toks+2 }):
  wpAny (model prog w) A (setAttr (.ref x) name v) Q E s:=by
 obtain⟨od,J,hl⟩:=I.look;refine PySem.W.set_plain X J hs (PySem.W.osa_open (s:={ s with toks:=s.toks+1 }) (r:=none) X J hp ht λb=>?_)
 obtain⟨cd,hc,qA⟩:=PySem.W.any_some hh;have hx:s.heap.get? x=some ⟨.ref C,some dx,.plain,#[]⟩:=I.obj;refine wpAny_bind (wpAny_pure (wpAny_bind (wpAny_bind (wpAny_loadPart hx (wpAny_bind (PySem.W.Looks.here (s:={ s with toks:=s.toks+1 }) (PySem.W.looks_clsIn X hc) ?_))))));rw[qA];refine wpAny_pure (a:=some dx) (wpAny_bind (wpAny_pure (wpAny_bind ?_)));refine wpAny_nsSet1 (s:={ s with toks:=s.toks+1 }) I.ns λh' KE yk=>?_
 obtain⟨oD,Qq,Qr,OS,OT,OU⟩:=KE.count (PySem.Within.cons name v hw);refine wpAny_bind (wpAny_lookBehind OS (by rw[OT];exact pastItsLine_dict (Nat.le_trans OU (by rw[List.length_cons];lia))) ?_);exact wpAny_pure (h _ ⟨(yk.2 _ (Ne.symm I.ne)).trans I.obj,KE,I.ne⟩ yk)
theorem Aa{R:Result->Shared->Prop}{vs:List Value}{kw:List (Str×Value)}(X:K.In s.heap)(hm:PySem.W.makesIn K C=true)(hi:PySem.W.findIn K (.ref C) "__init__"=some (some (.ref f)))(hf:PySem.W.typeIn K (.ref f)=some (.type "function"))(h:codeAny (model prog w) (A.under (.builtin "type.__call__" ⟨.ref C::vs,kw⟩)) (.call (.ref f) ⟨.ref (s.heap.objs.size+1)::vs,kw⟩) (PySem.W.InitBack (s.heap.objs.size+1) R)
   { s with heap:=(s.heap.push PySem.W.emptyDict).push (PySem.W.instObj C s.heap.objs.size) }):
  codeAny (model prog w) A (.call (.ref C) ⟨vs,kw⟩) R s:=by
 obtain⟨hh,g,d,t,os⟩:=s;exact PySem.W.make_core (PySem.W.makes_of X hm) (PySem.W.looks_findIn X hi) (λself=>PySem.W.bind_fn X self hf) (.inl rfl) h
end
def j9(f:Str)(v:V):List (Str×V)->List (Str×V)
 |[]=>[(f,v)]
 | (g,x)::r=>if g=f then(g,v)::r else(g,x)::j9 f v r
theorem nO(f g:Str)(v:V):∀fs:List (Str×V),(j9 f v fs).lookup g=if g=f then some v else fs.lookup g
 |[]=>by
  show List.lookup g [(f,v)]=_;by_cases h:g=f
  ·have hb:(g==f)=true:=beq_iff_eq.mpr h;simp only[List.lookup,hb,if_pos h]
  have hb:(g==f)=false:=beq_eq_false_iff_ne.mpr h;simp only[List.lookup,hb,if_neg h]
 | (k,x)::r=>by
  have ih:=nO f g v r;rw[show j9 f v ((k,x)::r)=(if k=f then(k,v)::r else(k,x)::j9 f v r)from rfl];by_cases hk:k=f
  ·rw[if_pos hk];by_cases h:g=k
   ·have hb:(g==k)=true:=beq_iff_eq.mpr h;simp only[List.lookup,hb,if_pos (h.trans hk)]
   have hb:(g==k)=false:=beq_eq_false_iff_ne.mpr h;simp only[List.lookup,hb,if_neg (λe:g=f=>h (e.trans hk.symm))]
  rw[if_neg hk];by_cases h:g=k
  ·have hb:(g==k)=true:=beq_iff_eq.mpr h;simp only[List.lookup,hb,if_neg (λe:g=f=>hk (h.symm.trans e))]
  have hb:(g==k)=false:=beq_eq_false_iff_ne.mpr h;simp only[List.lookup,hb];exact ih
theorem mX(f:Str)(v:V):∀fs:List (Str×V),f∈(j9 f v fs).map (·.1)/\∀g,g∈fs.map (·.1)->g∈(j9 f v fs).map (·.1)
 |[]=>⟨by simp[j9],λg h=>by simp at h⟩
 | (k,x)::r=>by
  obtain⟨i1,i2⟩:=mX f v r;rw[show j9 f v ((k,x)::r)=(if k=f then(k,v)::r else(k,x)::j9 f v r)from rfl];by_cases hk:k=f
  ·rw[if_pos hk];subst hk;exact⟨by simp,λg h=>by simpa using h⟩
  rw[if_neg hk];refine⟨?_,λg h=>?_⟩
  ·rw[List.map_cons];exact List.mem_cons_of_mem _ i1
  rw[List.map_cons]at h ⊢;rcases List.mem_cons.mp h with e|e
  ·exact List.mem_cons.mpr (.inl e)
  exact List.mem_cons_of_mem _ (i2 g e)
theorem nP(f:Str)(v:V):∀fs:List (Str×V),(j9 f v fs).length<=fs.length+1
 |[]=>by simp[j9]
 | (k,x)::r=>by
  have ih:=nP f v r;rw[show j9 f v ((k,x)::r)=(if k=f then(k,v)::r else(k,x)::j9 f v r)from rfl];by_cases hk:k=f
  ·rw[if_pos hk,List.length_cons,List.length_cons];lia
  rw[if_neg hk,List.length_cons,List.length_cons];lia
theorem eZ.some_of{v:V}{o:Option Value}(r:eZ (some v) o):∃u,o=some u/\RelV v u:=by
 cases o with
 |none=>exact(show False from r).elim
 |some u=>exact⟨u,rfl,r⟩
theorem eZ.none_of{o:Option Value}(r:eZ none o):o=none:=by
 cases o with
 |none=>rfl
 |some u=>exact(show False from r).elim
theorem yo{v:V}{u:Value}(r:RelV v u):PySem.W.handedIn u=true:=by
 cases v with
 |bS=>cases(show u=Value.none from r);rfl
 |bl b=>cases(show u=Value.bool b from r);rfl
 |int i=>obtain⟨t,e⟩:=(show ∃t,u=Value.int i t from r);cases e;rfl
 |str x=>obtain⟨t,e⟩:=(show ∃t,u=Value.str x t from r);cases e;rfl
 |AH b=>obtain⟨t,e⟩:=(show ∃t,u=Value.bytes b t from r);cases e;rfl
 |FO b=>obtain⟨t,e⟩:=(show ∃t,u=Value.float b t from r);cases e;rfl
 |ref a=>cases(show u=Value.ref a from r);rfl
 |ty n=>cases(show u=Value.type n from r);rfl
section
variable{P:Program}{w:World}{H H':Hp}{h h':Heap}{a C dx:Addr}{fs K0:List (Str×V)}
theorem oF(aw:kQ P w H h)(e:H a=some (.ins C dx fs)):∃mA,vY h a dx C mA/\(∀f,eZ (fs.lookup f) (mA f))/\PySem.Within mA (fs.map (·.1))/\fs.length<=1000/\H dx=some (.own a):=by obtain⟨d,z,ne,ob,mA,n,r,q⟩:=(show ay P w H h a (.ins C dx fs)from aw a _ e);exact⟨mA,⟨ob,n,ne⟩,r,q,z,d⟩
end
structure Ab(K:PySem.W.Frag)(C:Addr):Prop where
 pg:PySem.W.plainGet K C Str.empty=true
 hd:PySem.W.hasDictIn K C=true
 po:PySem.W.plainOver K C=true
 sa:PySem.W.findIn K (.ref C) "__setattr__"=some (some (.builtin "object.__setattr__"))
theorem Ab.get{K:PySem.W.Frag}{C:Addr}(c:Ab K C)(f:Str):PySem.W.plainGet K C f=true:=c.pg
def kT(K:PySem.W.Frag)(C:Addr)(f:Str):Prop:=PySem.W.findIn K (.ref C) f=some none
theorem kT.Hr{K:PySem.W.Frag}{C:Addr}{f:Str}(n:kT K C f):PySem.W.takerIn K C f=some none:=by unfold PySem.W.takerIn;rw[show PySem.W.findIn K (.ref C) f=some none from n];rfl
structure uB(K:PySem.W.Frag)(C:Addr)(m:Str)(f:Addr):Prop where
 at_:PySem.W.findIn K (.ref C) m=some (some (.ref f))
 fn:PySem.W.isFn K (.ref f)=true
 kp:PySem.W.keepIn K (.ref f)=true
section
variable{X:Cx}{pins:List (Addr×Obj)}{σ:St}{H:Hp}{s:Shared}{a C dx:Addr}{fs:List (Str×V)}{f:Str}{v:V}{A:Around}{E:Value->Shared->Prop}
theorem vc{b:Bool}{Q:Value->Shared->Prop}(I:Inv X pins σ H s)(e:H a=some (.ins C dx fs))(c:Ab X.K C)(n:kT X.K C f)(l:fs.lookup f=some v)(h:∀u s',Inv X pins σ H s'->RelV v u->Q u s'):wpAny (model X.prog X.w) A (getAttr (.ref a) f b) Q E s:=by obtain⟨mA,O,r,_,_,_⟩:=oF I.aw e;obtain⟨u,hu,ru⟩:=eZ.some_of (v:=v) (o:=mA f) (by rw[<-l];exact r f);exact get_map I.mV O (c.get f) c.hd n hu (yo ru) (h u _ (I.tok _) ru)
theorem oW{m:Str}{g:Addr}{pl:Sem Bool}{Q:Value×List Value->Shared->Prop}(I:Inv X pins σ H s)(e:H a=some (.ins C dx fs))(c:Ab X.K C)(k:uB X.K C m g)(l:fs.lookup m=none)(h:Q (.ref g,[.ref a]) s):wpAny (model X.prog X.w) A (getMethod (.ref a) m pl) Q E s:=by obtain⟨mA,O,r,_,_,_⟩:=oF I.aw e;have hn:mA m=none:=eZ.none_of (by rw[<-l];exact r m);exact AZ I.mV O (c.get m) k.at_ k.fn hn h
theorem vd{y:V}{u:Value}{Q:Unit->Shared->Prop}(I:Inv X pins σ H s)(e:H a=some (.ins C dx fs))(c:Ab X.K C)(n:kT X.K C f)(hl:fs.length<1000)(ry:RelV y u)(h:∀s',Inv X pins σ (upd H a (.ins C dx (j9 f y fs))) s'->Q () s'):wpAny (model X.prog X.w) A (setAttr (.ref a) f u) Q E s:=by
 obtain⟨mA,O,r,wi,_,ho⟩:=oF I.aw e;have hz:(fs.map (·.1)).length<=sizeLine:=by rw[List.length_map,sizeLine_eq];lia
 refine Ct I.mV O c.sa c.po n.Hr c.hd wi hz λh' O' sb=>h _ ?_;have hd:∃o,h'.get? dx=some o:=let⟨o,_,_,e',_⟩:=O'.ns;⟨o,e'⟩;refine I.write (x:=a) (e:=dx) (by rw[e];exact True.intro) (.inr ho) (λb q hb z=>(sb.2 b hb).trans z) hd ?_;refine⟨by rw[aL O.ne];exact ho,?_,O.ne,O'.obj,_,O'.ns,λg=>?_,λg hg=>?_⟩
 ·have:=nP f y fs;lia
 ·show eZ ((j9 f y fs).lookup g) (if g=f then some u else mA g);rw[nO];by_cases q:g=f
  ·rw[if_pos q,if_pos q];exact ry
  rw[if_neg q,if_neg q];exact r g
 by_cases q:g=f
 ·rw[q];exact(mX f y fs).1
 refine(mX f y fs).2 g (wi g λz=>hg ?_);show(if g=f then some u else mA g)=none;rw[if_neg q];exact z
theorem Inv.made(I:Inv X pins σ H s):Inv X pins σ (upd (upd H s.heap.objs.size (.own (s.heap.objs.size+1))) (s.heap.objs.size+1) (.ins C s.heap.objs.size []))
  { s with heap:=(s.heap.push PySem.W.emptyDict).push (PySem.W.instObj C s.heap.objs.size) }:=by
 have e1:(s.heap.push PySem.W.emptyDict).get? s.heap.objs.size=some PySem.W.emptyDict:=Heap.get?_push_size s.heap rfl;have e2:((s.heap.push PySem.W.emptyDict).push (PySem.W.instObj C s.heap.objs.size)).get? (s.heap.objs.size+1)=some (PySem.W.instObj C s.heap.objs.size):=by
  have:=Heap.get?_push_size (s.heap.push PySem.W.emptyDict) (o:=PySem.W.instObj C s.heap.objs.size) rfl
  rwa [Heap.size_push]at this
 have e3:(s.heap.push PySem.W.emptyDict).Ns s.heap.objs.size (λ_=>none):=⟨PySem.W.emptyDict,#[],_,e1,rfl,(λe he=>absurd he (by simp)),λ_=>rfl⟩;have I1:=I.laid (a:=s.heap.objs.size) (o:=.own (s.heap.objs.size+1)) (h':=s.heap.push PySem.W.emptyDict) (t':=s.toks) (λb u q=>Heap.get?_push_of_some _ q) (Nat.le_refl _) ⟨_,e1⟩;refine I1.laid (a:=s.heap.objs.size+1) (o:=.ins C s.heap.objs.size []) (t':=s.toks) (λb u q=>Heap.get?_push_of_some _ q) (Nat.le_of_eq (Heap.size_push _ _)) ?_;have ne:s.heap.objs.size≠s.heap.objs.size+1:=Nat.ne_of_lt (Nat.lt_succ_self _);refine⟨by rw[aL ne,aB],Nat.zero_le _,ne,e2,λ_=>none,(Heap.Ns1.of_empty e3).at λo q=>Heap.get?_push_of_some _ q,λ_=>True.intro,λy hy=>absurd rfl hy⟩
theorem Cu{prog:Program}{w:World}{env:Env}{e:Expr}{f:Str}{pos:Pos}{s:Shared}{Q:Value->Shared->Prop}(hb:attributeBase e f env (eval e env)=eval e env)(h:wpAny (model prog w) A (eval e env) (λo s₁=>wpAny (model prog w) A (getAttr o f true) Q E s₁) E s):wpAny (model prog w) A (eval (.Attribute e f pos) env) Q E s :=
 Attribute_any_ h (by rw[arm_eval_Attribute,hb])
end
def Hs(K:PySem.W.Frag)(ta:TE)(f:Str):TE:=λσ H Q=>ta σ H λx H1=>∃a C dx fs v,x=.ref a/\H1 a=some (.ins C dx fs)/\Ab K C/\kT K C f/\fs.lookup f=some v/\Q v H1
def Hu(K:PySem.W.Frag)(ta tv:TE)(f:Str):TS:=λD σ H=>tv σ H λy H1=>ta σ H1 λx H2=>∃a C dx fs,x=.ref a/\H2 a=some (.ins C dx fs)/\Ab K C/\kT K C f/\fs.length<1000 /\
 D.nx σ (upd H2 a (.ins C dx (j9 f y fs)))
section
variable{X:Cx}{o e value:Expr}{f:Str}{pos pos' Hw:Pos}{ta tv:TE}
theorem Fk(he:PE X e ta)(hb:attributeBase e f X.env (eval e X.env)=eval e X.env):PE X (.Attribute e f pos) (Hs X.K ta f):=by intro pins s σ H Q I h;refine Cu hb (az (he pins s σ H _ I h) λu s1 ⟨x,H1,I1,rx,a,C,dx,fs,v,ex,ea,c,n,l,q⟩=>?_);subst ex;obtain rfl:u=Value.ref a:=rx;exact vc I1 ea c n l λu' s2 I2 ru=>⟨v,H1,I2,ru,q⟩
theorem Fl(ha:PE X o ta)(hv:PE X value tv)(hs:swapsWith value (some (.Attribute o f pos')) pos.line X.env=pure false):PS X (.Assign [.Attribute o f pos'] value pos) (Hu X.K ta tv f):=by intro pins s σ H D I h;refine plainObj_wpAny_Assign_Attribute (az (hv pins s σ H _ I h) λu s1 ⟨y,H1,I1,ry,q⟩=>az (ha pins s1 σ H1 _ I1 q) λov s2 ⟨x,H2,I2,rx,a,C,dx,fs,ex,ea,c,n,l,q2⟩=>?_) hs;subst ex;obtain rfl:ov=Value.ref a:=rx;exact vd I2 ea c n l ry λs3 I3=>⟨σ,_,I3,q2⟩
end
section
variable{X:Cx}{pins:List (Addr×Obj)}{σ:St}{H:Hp}{s:Shared}{A:Around}{E:Value->Shared->Prop}{Q:Value->Shared->Prop}{c:Value}{b:Bool}
inductive mY(K:PySem.W.Frag)(H:Hp):V->Value->Prop where
 |bS:mY K H .bS (.type "NoneType")
 |bl (x:Bool):mY K H (.bl x) (.type "bool")
 |int (i:Int):mY K H (.int i) (.type "int")
 |str (x:Str):mY K H (.str x) (.type "str")
 |FO (x:UInt64):mY K H (.FO x) (.type "float")
 |lst {a:Addr} {xs:List V} (e:H a=some (.lst xs)):mY K H (.ref a) (.type "list")
 |xT {a:Addr} {o:Obj} {xs:List V} (e:H a=some (.xT o (.lst xs))):mY K H (.ref a) (.type "list")
 |tup {a:Addr} {xs:List V} (e:H a=some (.tup xs)):mY K H (.ref a) (.type "tuple")
 |dK {a:Addr} {kvs:List (Key×V)} (e:H a=some (.dK kvs)):mY K H (.ref a) (.type "dict")
 |dT {a:Addr} {kvs:List (List Key×V)} (e:H a=some (.dT kvs)):mY K H (.ref a) (.type "dict")
 |ins {a C dx:Addr} {fs:List (Str×V)} (e:H a=some (.ins C dx fs)) (cl:Ab K C) (ha:PySem.W.findIn K (.ref C) "__class__"=some (some (.builtin "object.__class__")))
   (hn:PySem.W.specialIn K (.builtin "object.__class__") "__get__"=some (some (.builtin "getset_descriptor.__get__"))) (NF:PySem.W.takesIn K (.builtin "object.__class__")=some true)
   (hm:PySem.W.mroIn K C (.type "object")=some true):mY K H (.ref a) (.ref C)
theorem yt{x:V}{u t:Value}(I:Inv X pins σ H s)(rx:RelV x u)(ty:mY X.K H x t)(e:PySem.W.kitOne X.K t c=some b)(h:∀tk,Q (.bool b) { s with toks:=tk }):
  wpAny (model X.prog X.w) A (call (.builtin "isinstance") [u,c]) Q E s:=by
 cases ty with
 |bS=>cases(show u=Value.none from rx);exact PySem.W.kia_one PySem.W.kitx_none I.mV True.intro e (λz=>nomatch z) h
 |bl y=>cases(show u=Value.bool y from rx);exact PySem.W.kia_one PySem.W.kitx_bool I.mV True.intro e (λz=>nomatch z) h
 |int i=>obtain⟨t,q⟩:=(show ∃t,u=Value.int i t from rx);cases q;exact PySem.W.kia_one PySem.W.kitx_int I.mV True.intro e (λz=>nomatch z) h
 |str y=>obtain⟨t,q⟩:=(show ∃t,u=Value.str y t from rx);cases q;exact PySem.W.kia_one PySem.W.kitx_str I.mV True.intro e (λz=>nomatch z) h
 |FO y=>obtain⟨t,q⟩:=(show ∃t,u=Value.float y t from rx);cases q;exact PySem.W.kia_one PySem.W.kitx_float I.mV True.intro e (λz=>nomatch z) h
 |@lst a xs ea =>
  cases(show u=Value.ref a from rx);obtain⟨_,_,n,_,h1⟩:=(show ay X.prog X.w H s.heap a (.lst xs)from I.aw a _ ea);exact PySem.W.kia_one PySem.W.kitx_list I.mV ⟨_,h1,rfl⟩ e (λz=>nomatch z) h
 |@xT a ob xs ea =>
  cases(show u=Value.ref a from rx);obtain⟨_,_,_,n,_,h1⟩:=(show ay X.prog X.w H s.heap a (.xT ob (.lst xs))from I.aw a _ ea);exact PySem.W.kia_one PySem.W.kitx_list I.mV ⟨_,h1,rfl⟩ e (λz=>nomatch z) h
 |@tup a xs ea =>
  cases(show u=Value.ref a from rx);obtain⟨_,_,_,p⟩:=(show ay X.prog X.w H s.heap a (.tup xs)from I.aw a _ ea);obtain⟨o,h1,h2,_⟩:=p;exact PySem.W.kia_one PySem.W.kitx_tuple I.mV ⟨o,h1,h2⟩ e (λz=>nomatch z) h
 |@dK a kvs ea =>
  cases(show u=Value.ref a from rx);obtain⟨_,_,vs,_,p⟩:=(show ay X.prog X.w H s.heap a (.dK kvs)from I.aw a _ ea);obtain⟨o,es,ep,h1,h2,_⟩:=p;exact PySem.W.kia_one PySem.W.kitx_dict I.mV ⟨o,h1,h2.1⟩ e (λz=>nomatch z) h
 |@dT a kvs ea =>
  cases(show u=Value.ref a from rx);obtain⟨_,_,xs,_,o,es,ep,h1,h2,_⟩:=(show ay X.prog X.w H s.heap a (.dT kvs)from I.aw a _ ea);exact PySem.W.kia_one PySem.W.kitx_dict I.mV ⟨o,h1,h2.1⟩ e (λz=>nomatch z) h
 |@ins a C dx fs ea cl ha hn NF hm =>
  cases(show u=Value.ref a from rx);obtain⟨mA,O,_⟩:=oF I.aw ea;obtain⟨od,J,_⟩:=O.look;exact PySem.W.kia_one (PySem.W.kitx_own (cl.get _) cl.hd ha hn NF hm) I.mV J e (λz=>nomatch z) h
end
structure cX(k:Nat)(A:Around):Prop where
 hd:A.handled=none
 dp:A.depth+3*k+5<recursionLimit
 un:A.units+16*k+200<cLine
theorem cX.mono{j k:Nat}{A:Around}(r:cX k A)(h:j<=k):cX j A:=⟨r.hd,by have:=r.dp;lia,by have:=r.un;lia⟩
theorem cX.deeper{k:Nat}{A:Around}(r:cX (k+1) A)(env:Env):cX k (A.deeper env) :=
 ⟨r.hd,by have:=r.dp;show A.depth+1+3*k+5<_;lia,by have:=r.un;show A.units+3+16*k+200<_;lia⟩
theorem ve{A:Around}{C:Addr}{us:List Value}{kw:List (Str×Value)}:(A.under (.builtin "type.__call__" ⟨.ref C::us,kw⟩)).depth=A.depth+1:=by
 first|rfl|simp[Around.under,Code.weight,Code.isCreation,Code.isGuard,Code.isCaller,Code.frames,Code.isFrame,guardIds]
theorem vf{A:Around}{C:Addr}{us:List Value}{kw:List (Str×Value)}:(A.under (.builtin "type.__call__" ⟨.ref C::us,kw⟩)).units=A.units+1:=by
 first|rfl|simp[Around.under,Code.cUnits,Code.frames,Code.isFrame]
theorem cX.make{k:Nat}{A:Around}(r:cX (k+1) A)(C:Addr)(us:List Value)(kw:List (Str×Value)):cX k (A.under (.builtin "type.__call__" ⟨.ref C::us,kw⟩)) :=
 ⟨r.hd,by have:=r.dp;rw[ve];lia,by have:=r.un;rw[vf];lia⟩
theorem cX.depth{k:Nat}{A:Around}(r:cX k A):A.depth<recursionLimit:=by have:=r.dp;lia
theorem cX.units{k:Nat}{A:Around}(r:cX k A):A.units+64<cLine:=by have:=r.un;lia
def Cv:TA:=λ_ H Q=>Q [] H
def Hx(ta:TE)(tr:TA):TA:=λσ H Q=>ta σ H λx H1=>tr σ H1 λxs H2=>Q (x::xs) H2
section
variable{X:Cx}{e:Expr}{es:List Expr}{te:TE}{t:TA}{pos:Pos}
theorem aC:PA X [] Cv:=λ_ _ _ _ H Q I h=>Calls.spliced_nil ⟨[],H,I,.nil,h⟩
theorem aA(ha:PE X e te)(hr:PA X es t)(hs:starEach (e::es) X.env=(false,eval e X.env)::starEach es X.env:=by rfl):PA X (e::es) (Hx te t):=by intro pos pins s σ H Q I h;rw[hs];show wpAny _ _ (spliced ((false,eval e X.env)::backTo pos (starEach es X.env))) _ _ s;refine Calls.spliced_cons (az (ha pins s σ H _ I h) λu s1 ⟨x,H1,I1,r1,q1⟩=>?_);exact az (hr pos pins s1 σ H1 _ I1 q1) λus s2 ⟨xs,H2,I2,r2,q2⟩=>⟨x::xs,H2,I2,.cons r1 r2,q2⟩
def LL(t:TA):TE:=λσ H Q=>t σ H λxs H1=>xs.length<=sizeLine/\∀p,H1 p=none->Q (.ref p) (upd H1 p (.tup xs))
def LM(t:TA):TE:=λσ H Q=>t σ H λxs H1=>xs.length<=sizeLine/\∀p,H1 p=none->Q (.ref p) (upd H1 p (.lst xs))
theorem ak{x1}(h:PA X es t):PE X (.Tuple es x1 pos) (LL t):=by intro pins s σ H Q I hq;refine wpAny_Tuple_spliced (az (h pos pins s σ H _ I hq) λus s1 ⟨xs,H1,I1,r,z,q⟩=>⟨by rw[<-r.length];exact z,?_⟩);have hf:H1 s1.heap.objs.size=none:=I1.aw.fresh (Nat.le_refl _);refine⟨.ref s1.heap.objs.size,upd H1 s1.heap.objs.size (.tup xs),I1.laid (t':=s1.toks) (λb u e=>Heap.get?_push_of_some _ e) (Nat.le_refl _) ?_,rfl,q _ hf⟩;exact⟨z,us,r,⟨_,Heap.get?_push_size _ rfl,rfl,_,rfl⟩⟩
theorem cB(h:PA X es t):PE X (.List es pos) (LM t):=by intro pins s σ H Q I hq;refine wpAny_List_spliced (az (h pos pins s σ H _ I hq) λus s1 ⟨xs,H1,I1,r,z,q⟩=>⟨by rw[<-r.length];exact z,?_⟩);have hf:H1 s1.heap.objs.size=none:=I1.aw.fresh (Nat.le_refl _);refine⟨.ref s1.heap.objs.size,upd H1 s1.heap.objs.size (.lst xs),I1.laid (t':=s1.toks) (λb u e=>Heap.get?_push_of_some _ e) (Nat.le_refl _) ?_,rfl,q _ hf⟩;exact⟨z,us,0,r,Heap.get?_push_size _ rfl⟩
end
abbrev Sp:=List V->Hp->VK->XK->Prop
abbrev vg:=List Env->Hp->Shared->XK->Value->Shared->Prop
structure vh(P:Program)(w:World)(K:PySem.W.Frag)(mg:Str->Option Value)(base:Heap)(A:Around)(outer:List Env)(s:Shared)(H:Hp):Prop where
 frames:A.frames=some outer
 mod:Mod K mg base
 bs:∀b o,base.get? b=some o->s.heap.get? b=some o/\H b=none
 Co:base.objs.size<=s.heap.objs.size
 n4:s.heap.FunFrames base outer
 FU:∀b∈yd outer,H b=none
 aw:kQ P w H s.heap
 bare:AllBare s.gens
def CE(outer:List Env)(P:Program)(w:World)(H:Hp)(s:Shared)(Q:VK)(u:Value)(s':Shared):Prop :=
 ∃v H',s'.os=s.os/\AllBare s'.gens/\Un (yd outer) [] H H' s.heap s'.heap/\kQ P w H' s'.heap/\RelV v u/\Q v H'
def CR(CX:vg)(outer:List Env)(P:Program)(w:World)(H:Hp)(s:Shared)(Q:VK)(E:XK)(r:Result)(s':Shared):Prop :=
 match r with
 |.ok (.ret u)=>CE outer P w H s Q u s'
 |.ok _=>False
 |.error e=>CX outer H s E e s'
structure cf(P:Program)(w:World)(K:PySem.W.Frag)(mg:Str->Option Value)(base:Heap)(CX:vg)(k:Nat)(f:Addr)(fd:FuncData)(ps:List Str)(sp:Sp):Prop where
 len:∀vs H Q E,sp vs H Q E->vs.length=ps.length
 run:∀(A:Around)(outer:List Env)(s:Shared)(H:Hp)(args:Args)(us:List Value)(vs:List V)(Q:VK)(E:XK),cX k A->vh P w K mg base A outer s H->BindsTo s fd args (ps.zip us)->aX vs us->sp vs H Q E ->
  codeAny (model P w) A (.call (.ref f) args) (CR CX outer P w H s Q E) s
theorem cf.mono{P:Program}{w:World}{K:PySem.W.Frag}{mg:Str->Option Value}{base:Heap}{CX:vg}{j k:Nat}{f:Addr}{fd:FuncData}{ps:List Str}{sp:Sp}(F:cf P w K mg base CX j f fd ps sp)(h:j<=k):
  cf P w K mg base CX k f fd ps sp:=⟨F.len,λA outer s H args us vs Q E hr=>F.run A outer s H args us vs Q E (hr.mono h)⟩
theorem vh.make{P:Program}{w:World}{K:PySem.W.Frag}{mg:Str->Option Value}{base:Heap}{A:Around}{outer:List Env}{s:Shared}{H:Hp}(e:vh P w K mg base A outer s H)(C:Addr)(us:List Value)(kw:List (Str×Value)):
  vh P w K mg base (A.under (.builtin "type.__call__" ⟨.ref C::us,kw⟩)) outer s H:=⟨by first|exact e.frames|(simpa[Around.under,Code.envs,Code.isFrame,pushEnvs]using e.frames),e.mod,e.bs,e.Co,e.n4,e.FU,e.aw,e.bare⟩
section
variable{X:Cx}{pins:List (Addr×Obj)}{σ:St}{H:Hp}{s s':Shared}
theorem Inv.Hy(I:Inv X pins σ H s):vh X.prog X.w X.K X.mg X.base X.A X.stack s H :=
 ⟨I.ok.frames,I.ok.mod,I.bs,Nat.le_trans I.ok.Co I.sz,I.stack,I.xU,I.aw,I.bare⟩
theorem Inv.after{Q:VK}{u:Value}(I:Inv X pins σ H s)(h:CE X.stack X.prog X.w H s Q u s'):EP X pins σ Q u s':=by obtain⟨v,H',os,bare,un,aw,r,q⟩:=h;obtain⟨hh,g,d,t,LN⟩:=s';obtain rfl:LN=s.os:=os;exact⟨v,H',I.call (h':=hh) (g':=g) (d':=d) (t':=t) (ch:=[]) un aw bare (λb z=>absurd z (by simp)),r,q⟩
end
def Ei(sp:Sp)(qB:List V)(E:XK)(t:TA):TE:=λσ H Q=>t σ H λvs H1=>sp (vs++qB) H1 Q E
def Ej(C:Addr)(m:Str)(sp:Sp)(qB:List V)(E:XK)(ta:TE)(t:TA):TE:=λσ H Q=>ta σ H λx H1=>∃a dx fs,x=.ref a/\H1 a=some (.ins C dx fs)/\fs.lookup m=none /\
 t σ H1 λvs H2=>sp (x::(vs++qB)) H2 Q E
def Hz(C:Addr)(sp:Sp)(qB:List V)(E:XK)(t:TA):TE:=λσ H Q=>t σ H λvs H1=>∀x dx,H1 x=none->H1 dx=none->dx≠x ->
 sp (.ref x::(vs++qB)) (upd (upd H1 dx (.own x)) x (.ins C dx [])) (λv H2=>v=.bS/\Q (.ref x) H2) E
def Binds(K:PySem.W.Frag)(fd:FuncData)(ps:List Str)(ds:List Value):Prop :=
 ∀(s:Shared)(us:List Value),K.In s.heap->(us++ds).length=ps.length->BindsTo s fd ⟨us,[]⟩ (ps.zip (us++ds))
theorem Binds.all{K:PySem.W.Frag}{fd:FuncData}{ps:List Str}(h:∀us:List Value,us.length=ps.length->bindArgs fd ⟨us,[]⟩=pure (ps.zip us)):Binds K fd ps []:=λs us _ hl=>by rw[List.append_nil]at hl ⊢;exact .of_eq (h us hl)
def jG(CX:vg)(X:Cx)(E:XK):Prop:=∀(pins:List (Addr×Obj))(σ:St)(H:Hp)(s:Shared)(e:Value)(s':Shared),Inv X pins σ H s->CX X.stack H s E e s'->X.xe e s'
section
variable{X:Cx}{CX:vg}{k:Nat}{f C:Addr}{fd:FuncData}{ps:List Str}{sp:Sp}{qB:List V}{ds:List Value}{E:XK}{x m:Str}{p pos apos:Pos}{e o:Expr}{es:List Expr}{ta:TE}{t:TA}
theorem vi{pins:List (Addr×Obj)}{σ:St}{H:Hp}{s:Shared}{Q:VK}{us:List Value}{vs:List V}(F:cf X.prog X.w X.K X.mg X.base CX k f fd ps sp)(hr:cX k X.A)(hb:Binds X.K fd ps ds)(hd:aX qB ds)(hx:jG CX X E)(I:Inv X pins σ H s)(r:aX vs us)(h:sp (vs++qB) H Q E):wpAny (model X.prog X.w) X.A (call (.ref f) us) (EP X pins σ Q) X.xe s:=by
 have r2:aX (vs++qB) (us++ds):=r.append hd;have hl:(us++ds).length=ps.length:=by rw[<-r2.length];exact F.len _ _ _ _ h
 refine wpAny_call (codeAny_mono (F.run X.A X.stack s H ⟨us,[]⟩ (us++ds) (vs++qB) Q E hr I.Hy (hb s us I.mV hl) r2 h) λr s' hq=>?_);cases r with
 |error e=>exact hx pins σ H s e s' I hq
 |ok fl =>
  cases fl with
  |ret u=>exact I.after hq
  |next=>exact False.elim hq
  |brk=>exact False.elim hq
  |cont=>exact False.elim hq
theorem Cw(F:cf X.prog X.w X.K X.mg X.base CX k f fd ps sp)(hr:cX k X.A)(hg:Gl X x)(hm:X.mg x=some (.ref f))(hk:PySem.W.keepIn X.K (.ref f)=true)(hb:Binds X.K fd ps ds)(hd:aX qB ds)(hx:jG CX X E)(ha:PA X (e::es) t)(Cy:(x==("__debug__":Str))=false:=by decide)(he:starEach (e::es) X.env=(false,eval e X.env)::starEach es X.env:=by rfl)(vK:(backTo pos (starEach es X.env)).any (·.1)=false:=by rfl):
  PE X (.Call (.Name x p) (e::es) [] pos) (Ei sp qB E t):=by
 intro pins s σ H Q I h;refine wpAny_Call_Name_kw (rh I hg hm ?_ Cy);refine PySem.W.callWith_K (h₀:=X.base) I.ok.mod.J6 hk (az (ha pos pins s σ H _ I h) λus s1 ⟨vs,H1,I1,r,q⟩=>⟨I1.mV,?_⟩) he vK;exact vi F hr hb hd hx I1 r q
theorem Cz{pl:Sem Bool}(he:PE X o ta)(c:Ab X.K C)(hm:uB X.K C m f)(F:cf X.prog X.w X.K X.mg X.base CX k f fd ps sp)(hr:cX k X.A)(hb:Binds X.K fd ps ds)(hd:aX qB ds)(hx:jG CX X E)(ha:PA X (e::es) t)(xX:starEach (e::es) X.env=(false,eval e X.env)::starEach es X.env:=by rfl)(vK:(backTo pos (starEach es X.env)).any (·.1)=false:=by rfl)(ht:eval (.Call (.Attribute o m apos) (e::es) [] pos) X.env=(do
   let ov <- eval o X.env
   standAt apos.atName
   let(f,first) <- holding [ov] (getMethod ov m pl)
   callWith pos f first (backTo pos (starEach (e::es) X.env)) (backToKw pos (keywordEach [] X.env))):=by rfl):
  PE X (.Call (.Attribute o m apos) (e::es) [] pos) (Ej C m sp qB E ta t):=by
 intro pins s σ H Q I h;refine PySem.W.methodCall_KW (pl:=pl) (az (he pins s σ H _ I h) λu s1 ⟨x,H1,I1,rx,a,dx,fs,ex,ea,l,q⟩=>?_) ht;subst ex;obtain rfl:u=Value.ref a:=rx;refine oW I1 ea c hm l ?_;refine PySem.W.callWith_K (first:=[.ref a]) (h₀:=X.base) I.ok.mod.J6 hm.kp (az (ha pos pins s1 σ H1 _ I1 q) λus s2 ⟨vs,H2,I2,r,q2⟩=>⟨I2.mV,?_⟩) xX vK;exact vi (us:=.ref a::us) (vs:=.ref a::vs) F hr hb hd hx I2 (.cons rfl r) q2
theorem oX{pl:Sem Bool}(he:PE X o ta)(c:Ab X.K C)(hm:uB X.K C m f)(F:cf X.prog X.w X.K X.mg X.base CX k f fd ps sp)(hr:cX k X.A)(hb:Binds X.K fd ps ds)(hd:aX qB ds)(hx:jG CX X E)(ht:eval (.Call (.Attribute o m apos) [] [] pos) X.env=(do
   let ov <- eval o X.env
   standAt apos.atName
   let(f,first) <- holding [ov] (getMethod ov m pl)
   callWith pos f first (backTo pos (starEach [] X.env)) (backToKw pos (keywordEach [] X.env))):=by rfl):
  PE X (.Call (.Attribute o m apos) [] [] pos) (Ej C m sp qB E ta Cv):=by
 intro pins s σ H Q I h;refine PySem.W.methodCall_KW (pl:=pl) (az (he pins s σ H _ I h) λu s1 ⟨x,H1,I1,rx,a,dx,fs,ex,ea,l,q⟩=>?_) ht;subst ex;obtain rfl:u=Value.ref a:=rx;refine oW I1 ea c hm l ?_;exact PySem.W.callWith_K0 (first:=[.ref a]) I1.mV hm.kp (vi (us:=[.ref a]) (vs:=[.ref a]) F hr hb hd hx I1 (.cons rfl .nil) q)
structure Mk(K:PySem.W.Frag)(C f:Addr):Prop where
 makes:PySem.W.makesIn K C=true
 init:PySem.W.findIn K (.ref C) "__init__"=some (some (.ref f))
 fn:PySem.W.isFn K (.ref f)=true
 kp:PySem.W.keepIn K (.ref C)=true
theorem Ac{pins:List (Addr×Obj)}{σ:St}{H:Hp}{s:Shared}{Q:VK}{us:List Value}{vs:List V}(M:Mk X.K C f)(F:cf X.prog X.w X.K X.mg X.base CX k f fd ps sp)(hr:cX (k+1) X.A)(hb:Binds X.K fd ps ds)(hd:aX qB ds)(hx:jG CX X E)(I:Inv X pins σ H s)(r:aX vs us)(h:∀x dx,H x=none->H dx=none->dx≠x->sp (.ref x::(vs++qB)) (upd (upd H dx (.own x)) x (.ins C dx [])) (λv H2=>v=.bS/\Q (.ref x) H2) E):
  wpAny (model X.prog X.w) X.A (call (.ref C) us) (EP X pins σ Q) X.xe s:=by
 have hq:=h (s.heap.objs.size+1) s.heap.objs.size (I.aw.fresh (Nat.le_succ _)) (I.aw.fresh (Nat.le_refl _)) (Nat.ne_of_lt (Nat.lt_succ_self _));have I2:=Inv.made (C:=C) I;have r2:aX (V.ref (s.heap.objs.size+1)::(vs++qB)) (Value.ref (s.heap.objs.size+1)::(us++ds)):=.cons rfl (r.append hd);have hl:(Value.ref (s.heap.objs.size+1)::us++ds).length=ps.length:=by have e:=r2.length;rw[F.len _ _ _ _ hq]at e;exact e.symm
 refine wpAny_call (Aa (f:=f) I.mV M.makes M.init (beq_iff_eq.mp M.fn) (codeAny_mono (F.run _ X.stack _ _ ⟨Value.ref (s.heap.objs.size+1)::us,[]⟩ (Value.ref (s.heap.objs.size+1)::(us++ds)) _ _ E (hr.make C us [])
  (I2.Hy.make C us []) (hb _ (Value.ref (s.heap.objs.size+1)::us) I2.mV hl) r2 hq) λr s' IA=>?_))
 cases r with
 |error e=>exact hx pins σ _ _ e s' I2 IA
 |ok fl =>
  cases fl with
  |ret u =>
   obtain⟨v,H',I3,rv,ev,q3⟩:=I2.after IA;subst ev;exact⟨rv,⟨V.ref (s.heap.objs.size+1),H',I3,rfl,q3⟩⟩
  |next=>exact False.elim IA
  |brk=>exact False.elim IA
  |cont=>exact False.elim IA
theorem Ae(M:Mk X.K C f)(F:cf X.prog X.w X.K X.mg X.base CX k f fd ps sp)(hr:cX (k+1) X.A)(hg:Gl X x)(hm:X.mg x=some (.ref C))(hb:Binds X.K fd ps ds)(hd:aX qB ds)(hx:jG CX X E)(Cy:(x==("__debug__":Str))=false:=by decide):PE X (.Call (.Name x p) [] [] pos) (Hz C sp qB E Cv):=by intro pins s σ H Q I h;refine wpAny_Call_Name_kw (rh I hg hm ?_ Cy);exact PySem.W.callWith_K0 I.mV M.kp (Ac (us:=[]) M F hr hb hd hx I .nil h)
end
section
variable{X:Cx}{CX:vg}{k:Nat}{f C:Addr}{fd:FuncData}{ps ks:List Str}{sp:Sp}{E:XK}{x m:Str}{p pos apos LO:Pos}{e o:Expr}{es:List Expr}{OV:List Keyword}{te ta:TE}{t tk:TA}{nm:Option Str}
variable{g:List Value->List Value->List Value}{gV:List V->List V->List V}
end
structure aV(N P:List Str)(sc:Scope):Prop where
 kind:sc.kind=.function
 co:sc.isCoroutine=false
 gen:sc.isGenerator=false
 nd:N.Nodup
 pre:N.take P.length=P
 par:∀x∈P,sc.names.lookup x=some .local\/sc.names.lookup x=some .cell
 Fm:∀y∈sc.names,y.2≠.free
theorem qm{kindOf:Str->Option NameKind}{x:Str}:∀{binds:List (Str×Value)}{m:Str->Option Value},(∀v,(x,v)∉binds)->bindL kindOf binds m x=m x
 |[],_,_=>rfl
 | (n,v)::r,m,h=>by
  unfold bindL;rw[qm λw hw=>h w (List.mem_cons_of_mem _ hw)];split
  ·have:x≠n:=(by rintro rfl;exact h v List.mem_cons_self);simp[this]
  rfl
theorem qo{kindOf:Str->Option NameKind}{x:Str}:∀{binds:List (Str×Value)}{m:Str->Option Value},(∀v,(x,v)∉binds)->bindC kindOf binds m x=m x
 |[],_,_=>rfl
 | (n,v)::r,m,h=>by
  unfold bindC;rw[qo λw hw=>h w (List.mem_cons_of_mem _ hw)];split
  ·rfl
  have:x≠n:=by rintro rfl;exact h v List.mem_cons_self
  simp[this]
theorem qp{kindOf:Str->Option NameKind}{x:Str}{v:Value}:∀{P:List Str}{vs:List Value}{i:Nat}{m:Str->Option Value},P.Nodup->P[i]?=some x->vs[i]?=some v->kindOf x=some .local ->
  bindL kindOf (P.zip vs) m x=some v
 |[],_,_,_,_,h,_,_=>by simp at h
 |_::_,[],_,_,_,_,h,_=>by simp at h
 |p::P,w::vs,0,m,nd,h1,h2,hk=>by simp at h1 h2;subst h1;subst h2;show bindL kindOf ((p,w)::P.zip vs) m p=_;unfold bindL;rw[qm λv hv=>(List.nodup_cons.mp nd).1 (List.of_mem_zip hv).1,if_pos hk];simp
 |p::P,w::vs,i+1,m,nd,h1,h2,hk=>by show bindL kindOf ((p,w)::P.zip vs) m x=_;unfold bindL;exact qp (i:=i) (List.nodup_cons.mp nd).2 (by simpa using h1) (by simpa using h2) hk
theorem qq{kindOf:Str->Option NameKind}{x:Str}{v:Value}:∀{P:List Str}{vs:List Value}{i:Nat}{m:Str->Option Value},P.Nodup->P[i]?=some x->vs[i]?=some v->kindOf x≠some .local ->
  bindC kindOf (P.zip vs) m x=some v
 |[],_,_,_,_,h,_,_=>by simp at h
 |_::_,[],_,_,_,_,h,_=>by simp at h
 |p::P,w::vs,0,m,nd,h1,h2,hk=>by simp at h1 h2;subst h1;subst h2;show bindC kindOf ((p,w)::P.zip vs) m p=_;unfold bindC;rw[qo λv hv=>(List.nodup_cons.mp nd).1 (List.of_mem_zip hv).1,if_neg hk];simp
 |p::P,w::vs,i+1,m,nd,h1,h2,hk=>by show bindC kindOf ((p,w)::P.zip vs) m x=_;unfold bindC;exact qq (i:=i) (List.nodup_cons.mp nd).2 (by simpa using h1) (by simpa using h2) hk
def start(N:List Str)(vs:List V):St:=vs.map some++List.replicate (N.length-vs.length) none
def yu(CX:vg)(P:Program)(w:World)(K:PySem.W.Frag)(mg:Str->Option Value)(base:Heap)(N:List Str)(qual:Str)(scope:Scope)(f:Addr)(cd:Value)(A:Around)(outer:List Env)(s:Shared)(H:Hp)(E:XK):Cx where
 prog:=P
 w:=w
 K:=K
 mg:=mg
 base:=base
 A:=A.deeper (envOfC qual scope s.heap.objs.size f cd)
 N:=N
 s₀:=s
 H₀:=H
 env:=envOfC qual scope s.heap.objs.size f cd
 outer:=outer
 stack:=envOfC qual scope s.heap.objs.size f cd::outer
 ex:=[]
 calm:=true
 fn:=λ_=>true
 pn:=[]
 xe:=λe s'=>wpAny (model P w) (A.deeper (envOfC qual scope s.heap.objs.size f cd)) (leaving (envOfC qual scope s.heap.objs.size f cd) e) (λ_ LP=>CX outer H s E e LP) (λe' LP=>CX outer H s E e' LP) s'
theorem uC{sc:Scope}{n:Nat}{x:Str}(h:sc.names.lookup x=some .cell):∃c,(cellsFrom n sc.names []).lookup x=some c:=by have q:=PySem.W.cellsFrom_some sc.names n [] (.inl h);exact Option.isSome_iff_exists.mp q
theorem yv{CX:vg}{P:Program}{w:World}{K:PySem.W.Frag}{mg:Str->Option Value}{base:Heap}{N ps:List Str}{qual:Str}{scope:Scope}{f:Addr}{cd:Value}{A:Around}{outer:List Env}{s s1:Shared}{H:Hp}{E:XK}{us:List Value}{vs:List V}(S:aV N ps scope)(hd:A.handled=none)(e0:vh P w K mg base A outer s H)(hl:vs.length=ps.length)(r:aX vs us)(x:InCallC s s.heap.objs.size (bindL (envOfC qual scope s.heap.objs.size f cd).kindOf (ps.zip us) λ_=>none) (cellsFrom (s.heap.objs.size+1) scope.names []) (bindC (envOfC qual scope s.heap.objs.size f cd).kindOf (ps.zip us) λ_=>none) s1):
  Inv (yu CX P w K mg base N qual scope f cd A outer s H E) [] (start N vs) H s1:=by
 have vK:ps.length<=N.length:=by have:=congrArg List.length S.pre;rw[List.length_take]at this;lia
 obtain⟨h1,tk,rfl,hk⟩:=x.done;have IB:∀b:Addr,b∉(yu CX P w K mg base N qual scope f cd A outer s H E).ex:=λb z=>absurd (show b∈([]:List Addr)from z) (by simp);refine⟨⟨e0.mod,S.kind,rfl,rfl,Nat.le_refl _,λy z c h1 h2=>?_,λy hy=>?_,λy c _ h=>?_,λ_=>hd,Around.frames_deeper e0.frames,.inr ⟨rfl,rfl⟩,λb z=>absurd z (IB b),e0.bs,e0.Co,λb _ _=>IB b,λb z=>absurd z (IB b),e0.n4,e0.FU⟩,
  rfl,e0.bare,Un.kept hk,⟨_,x.toInCall.ns,λi y v h1 h2 h3=>?_⟩,λy c h=>⟨_,x.cell y c h⟩,e0.aw.fresh (Nat.le_refl _),λy c h=>?_,λp hp=>absurd (show p∈([]:List (Addr×Obj))from hp) (by simp),e0.aw.kept hk,?_⟩
 ·exact name_of_addr x.apart (PySem.mem_of_lookup h1) (PySem.mem_of_lookup h2)
 ·have hy:scope.names.lookup y=some .cell\/scope.names.lookup y=some .free:=hy;rcases hy with hy|hy
  ·exact uC hy
  exact absurd rfl (S.Fm _ (PySem.mem_of_lookup hy))
 ·exact Nat.le_of_lt (x.above y c (PySem.mem_of_lookup h))
 ·have hi:i<vs.length:=by
   unfold start at h2;by_cases hi:i<vs.length
   ·exact hi
   rw[List.getElem?_append_right (by simpa using hi)]at h2;rw[List.getElem?_replicate]at h2;split at h2<;>cases h2
  have ha:vs[i]?=some v:=by
   unfold start at h2;rw[List.getElem?_append_left (by simpa using hi),List.getElem?_map]at h2;cases e:vs[i]? with
   |none=>rw[e]at h2;cases h2
   |some a=>rw[e]at h2;cases h2;rfl
  obtain⟨u,hu,rv⟩:=r.get ha;have hp:ps[i]?=some y:=by rw[<-S.pre,List.getElem?_take_of_lt (by lia)];exact h1
  have NG:ps.Nodup:=by rw[<-S.pre];exact S.nd.sublist (List.take_sublist _ _)
  refine⟨u,rv,?_⟩;rcases S.par y (List.mem_of_getElem? hp)with k|k
  ·exact .inl ⟨k,qp NG hp hu k⟩
  obtain⟨c,e⟩:=uC (n:=s.heap.objs.size+1) k;refine .inr ⟨.inl k,c,e,?_⟩;have q:=x.cell y c e;rw[qq NG hp hu (by show scope.names.lookup y≠_;rw[k];decide)]at q;exact q
 ·exact e0.aw.fresh (Nat.le_of_lt (x.above y c (PySem.mem_of_lookup h)))
 unfold start;show _=N.length;rw[List.length_append,List.length_map,List.length_replicate];lia
theorem Af{CX:vg}{P:Program}{w:World}{K:PySem.W.Frag}{mg:Str->Option Value}{base:Heap}{k:Nat}{f:Addr}{name qual:Str}{params:Arguments}{body:List Stmt}{scope:Scope}{dV kV doc pm bf ct oc:Value}{an od:Option Addr}{yw:Array (Option Value)}{N ps:List Str}{sp:Sp}(lk:K.lookup f=some ⟨oc,od,.func (PySem.W.fnOf name qual params body scope dV kV doc pm an bf ct),yw⟩)(tT:PySem.W.codeIn K bf qual=true)(S:aV N ps scope)(len:∀vs H Q E,sp vs H Q E->vs.length=ps.length)(oY:∀(A:Around)(outer:List Env)(s:Shared)(H:Hp)(vs:List V)(Q:VK)(E:XK),cX k (A.deeper (envOfC qual scope s.heap.objs.size f bf))->sp vs H Q E ->
   ∃t,AI (yu CX P w K mg base N qual scope f bf A outer s H E) body t/\t { nx:=λ_ H'=>Q .bS H',rt:=Q } (start N vs) H):
  cf P w K mg base CX (k+1) f (PySem.W.fnOf name qual params body scope dV kV doc pm an bf ct) ps sp:=by
 refine⟨len,λA outer s H args us vs Q E hr e0 hb r AJ=>?_⟩;have hl:=len _ _ _ _ AJ;have KX:K.In s.heap:=e0.mod.J6.keeps λb o e=>(e0.bs b o e).1;have lim:s.heap.NoLimit:=e0.mod.nolimit.keeps λb o e=>(e0.bs b o e).1;have IC:∀y∈ps.zip us,scope.names.lookup y.1=some .local\/(scope.names.lookup y.1=some .cell/\((cellsFrom (s.heap.objs.size+1) scope.names []).lookup y.1).isSome=true):=λ⟨n,v⟩ hy=>by
  rcases S.par n (List.of_mem_zip hy).1 with q|q
  ·exact .inl q
  exact .inr ⟨q,PySem.W.cellsFrom_some _ _ _ (.inl q)⟩
 refine codeAny_call_function hr.depth (KX _ _ lk) rfl S.co S.gen rfl (PySem.W.codeRec_of KX tT) (hb _ _ _ _ ?_);refine wpAny_newFunctionEnv_cells S.kind IC λenv he s1 x=>?_;subst he;refine⟨lim.keeps x.toInCall.keep,codeAny_func ?_⟩;obtain⟨t,ht,hq⟩:=oY A outer s H vs Q E (hr.deeper _) AJ;have I:Inv (yu CX P w K mg base N qual scope f bf A outer s H E) [] (start N vs) H s1:=yv S hr.hd e0 hl r x;refine wpAny_mono (ht [] s1 (start N vs) H _ I hq) (λfl s' hs=>?_) λe s' hs=>hs;have fin:∀{σ':St}{H':Hp}{v:V}{u:Value},Inv (yu CX P w K mg base N qual scope f bf A outer s H E) [] σ' H' s'->RelV v u->Q v H'->CE outer P w H s Q u s' :=
  λ{σ' H' v u} J rv q=>⟨v,H',J.os,J.bare,J.base,J.aw,rv,q⟩
 cases fl with
 |ret u =>
  obtain⟨v,σ',H',J,rv,q⟩:=hs;exact fin J rv q
 |next =>
  obtain⟨σ',H',J,q⟩:=hs;exact fin (v:=V.bS) (u:=Value.none) J rfl q
 |brk =>
  obtain⟨_,_,_,q⟩:=hs;exact False.elim q
 |cont =>
  obtain⟨_,_,_,q⟩:=hs;exact False.elim q
section
variable{X:Cx}{x:Str}{p pos:Pos}{e:Expr}{es:List Expr}{t:TA}{id T:String}{r:List V->Hp->VK->Prop}
def KG(r:List V->Hp->VK->Prop)(t:TA):TE:=λσ H Q=>t σ H λvs H1=>r vs H1 Q
theorem aZ(hc:dC X (.builtin id) r)(hg:Gl X x)(hm:X.mg x=none)(hv:bootBuiltins x=some (.builtin id))(ha:PA X (e::es) t)(hn:x≠"__name__":=by decide)(Cy:(x==("__debug__":Str))=false:=by decide)(he:starEach (e::es) X.env=(false,eval e X.env)::starEach es X.env:=by rfl)(vK:(backTo pos (starEach es X.env)).any (·.1)=false:=by rfl):PE X (.Call (.Name x p) (e::es) [] pos) (KG r t):=by intro pins s σ H Q I h;refine wpAny_Call_Name_kw (oP I hg hm hv ?_ hn Cy);exact PyProof.Rows.callWith_builtin1 (az (ha pos pins s σ H _ I h) λus s1 ⟨vs,H1,I1,r1,q1⟩=>hc pins s1 σ H1 vs us Q I1 r1 q1) he vK
theorem eU(hc:dC X (.type T) r)(hg:Gl X x)(hm:X.mg x=none)(hv:bootBuiltins x=some (.type T))(ha:PA X (e::es) t)(hn:x≠"__name__":=by decide)(Cy:(x==("__debug__":Str))=false:=by decide)(he:starEach (e::es) X.env=(false,eval e X.env)::starEach es X.env:=by rfl)(vK:(backTo pos (starEach es X.env)).any (·.1)=false:=by rfl):PE X (.Call (.Name x p) (e::es) [] pos) (KG r t):=by intro pins s σ H Q I h;refine wpAny_Call_Name_kw (oP I hg hm hv ?_ hn Cy);exact PyProof.Rows.callWith_type1 (az (ha pos pins s σ H _ I h) λus s1 ⟨vs,H1,I1,r1,q1⟩=>hc pins s1 σ H1 vs us Q I1 r1 q1) he vK
end
end L2
namespace HT
open PySem PyProof.Rows
section
open PySem.SeqAt
open PySem.AutoSeq1 (wpAny_loadPart')
open PySem.MeetsSeq PySem.MeetsSeq2 PySem.MeetsSeq3
end
section
variable{prog:Program}{w:World}{A:Around}{E:Value->Shared->Prop}{s:Shared}
theorem C0{t b:Addr}{vs ws:List Value}{Q:Value->Shared->Prop}(ht:IsTup s.heap t vs.toArray)(hb:IsTup s.heap b ws.toArray)(hv:vs≠[])(h1:ws=[]->Q (.ref t) s)(h2:ws≠[]->Q (.ref s.heap.objs.size) { s with heap:=s.heap.push { cls:=.type "tuple",data:=.seq (vs++ws).toArray } })(hsz:vs.length+ws.length<=sizeLine):wpAny (model prog w) A (binaryOp .Add (.ref t) (.ref b)) Q E s:=by
 obtain⟨⟨cls,dd,data,sl⟩,ho,hc,n,hd⟩:=id ht;obtain⟨⟨Fn,Cf,data2,vj⟩,yx,Ag,n2,hd2⟩:=id hb;simp only at hc hd Ag hd2;subst hc hd Ag hd2;have e:vs.toArray++ws.toArray=(vs++ws).toArray:=by simp
 by_cases hw:ws=[]
 ·exact concat_meets ⟨_,ho,rfl⟩ ⟨_,yx,rfl⟩ noFill_tuple_add seq_tuple_add PySem.F.slot_tuple_add PySem.F.entry_tuple_add (PySem.F.args_tuple_add_2 _ _)
   (tuple_addW1 t b vs.toArray ws.toArray n n2 dd Cf sl vj (by simpa using hv) (by simp[hw])) ⟨ho,yx,h1 hw⟩
 refine concat_meets ⟨_,ho,rfl⟩ ⟨_,yx,rfl⟩ noFill_tuple_add seq_tuple_add PySem.F.slot_tuple_add PySem.F.entry_tuple_add (PySem.F.args_tuple_add_2 _ _)
  (tuple_addW2 t b vs.toArray ws.toArray n n2 dd Cf sl vj (by simpa using hv) (by simpa using hw) (by rw[List.size_toArray,List.size_toArray];exact hsz)) ⟨ho,yx,?_⟩
 rw[e];exact h2 hw
def qr(n d:Nat):Option Int->Nat
 |none=>d
 |some v=>if v<0 then(v+(n:Int)).toNat else min v.toNat n
theorem uD(n d:Nat):qr n d none=d:=rfl
theorem xm(n d k:Nat):qr n d (some (k:Int))=min k n:=by show(if(k:Int)<0 then((k:Int)+(n:Int)).toNat else min (k:Int).toNat n)=min k n;rw[if_neg (by lia),Int.toNat_natCast]
end
end HT
namespace L2
open PySem PySem.Spec PyProof.Rows
abbrev TO:=St->Hp->(Option Int->Hp->Prop)->Prop
def PO(X:Cx)(e:Option Expr)(t:TO):Prop :=
 ∀(pins:List (Addr×Obj))(s:Shared)(σ:St)(H:Hp)(Q:Option Int->Hp->Prop),Inv X pins σ H s->t σ H Q ->
  wpAny (model X.prog X.w) X.A (evalPart e X.env) (λu s'=>∃o H',Inv X pins σ H' s'/\IsPart u o/\Q o H') X.xe s
def C1:TO:=λ_ H Q=>Q none H
def ID(t:TE):TO:=λσ H Q=>t σ H λx H1=>∃i,x=.int i/\Q (some i) H1
section
variable{X:Cx}{e:Expr}{te:TE}{lo hi:Option Expr}{tl th:TO}{pos p2:Pos}
theorem rp:PO X none C1:=by intro pins s σ H Q I h;rw[evalPart_none];exact wpAny_pure ⟨none,H,I,.none,h⟩
theorem lU(h:PE X e te):PO X (some e) (ID te):=by intro pins s σ H Q I hw;rw[evalPart_some];refine az (h pins s σ H _ I hw) λu s1 ⟨x,H1,I1,r1,q1⟩=>?_;obtain⟨i,rfl,q⟩:=q1;obtain⟨t,rfl⟩:=r1;exact⟨some i,H1,I1,.int i t,q⟩
def LQ(X:Cx)(r:V->Option Int->Option Int->Hp->VK->Prop):Prop :=
 ∀(pins:List (Addr×Obj))(s:Shared)(σ:St)(H:Hp)(x:V)(v vl vu:Value)(lo hi:Option Int)(sl:Addr)(Q:VK),Inv X pins σ H s->RelV x v->s.heap.IsSliceOf sl vl vu .none->IsPart vl lo->IsPart vu hi->r x lo hi H Q ->
  ∃T id,typeLookup (.type T) "__getitem__"=pure (some (.builtin id))/\s.TypeIs v T/\wpAny (model X.prog X.w) X.A (getItem v (.ref sl)) (EP X pins σ Q) X.xe s
def OW(r:V->Option Int->Option Int->Hp->VK->Prop)(te:TE)(tl th:TO):TE:=λσ H Q=>te σ H λx H1=>tl σ H1 λl H2=>th σ H2 λu H3=>r x l u H3 Q
theorem lV{r:V->Option Int->Option Int->Hp->VK->Prop}(hr:LQ X r)(he:PE X e te)(hl:PO X lo tl)(hu:PO X hi th):PE X (.Subscript e (.Slice lo hi none p2) pos) (OW r te tl th):=by
 intro pins s σ H Q I h;refine Subscript_ (az (he pins s σ H _ I h) λv s1 ⟨x,H1,I1,r1,q1⟩=>?_);refine wpAny_Slice (az (hl pins s1 σ H1 _ I1 q1) λvl s2 ⟨l,H2,I2,pl,q2⟩=>az (hu pins s2 σ H2 _ I2 q2) λvu s3 ⟨u,H3,I3,pu,q3⟩=>?_);rw[evalPart_none];refine wpAny_pure ?_;have I4:Inv X pins σ H3 { s3 with heap:=s3.heap.push { cls:=.type "slice",data:=.fields #[vl,vu,.none] } }:=I3.kept (t':=s3.toks) λb ob q=>Heap.get?_push_of_some _ q
 obtain⟨T,id,hT,ht,hg⟩:=hr pins { s3 with heap:=s3.heap.push { cls:=.type "slice",data:=.fields #[vl,vu,.none] } } σ H3 x v vl vu l u s3.heap.objs.size Q I4 r1 (Heap.IsSliceOf.new ..) pl pu q3;show wpAny (model X.prog X.w) X.A (subscriptTail e (.Slice lo hi none p2) v (.ref s3.heap.objs.size)) (EP X pins σ Q) X.xe { s3 with heap:=s3.heap.push { cls:=.type "slice",data:=.fields #[vl,vu,.none] } };exact tail_any (ops:=[.ref s3.heap.objs.size,v]) ht hT hg (by with_unfolding_all rfl)
def n5(xs:List V)(lo hi:Option Int):List V:=(xs.drop (HT.qr xs.length 0 lo)).take (HT.qr xs.length xs.length hi-HT.qr xs.length 0 lo)
theorem uE(xs:List V)(lo hi:Option Int):(n5 xs lo hi).length<=xs.length:=by unfold n5;rw[List.length_take,List.length_drop];lia
def IE(K:PySem.W.Frag):R2:=λx y H Q=>∃a b xs ys,x=.ref a/\y=.ref b/\ar K H a xs/\ar K H b ys/\xs≠[]/\xs.length+ys.length<=sizeLine /\
 (ys=[]->Q (.ref a) H)/\(ys≠[]->∀p,H p=none->Q (.ref p) (upd H p (.tup (xs++ys))))
theorem aX.rq{xs:List V}{us:List Value}(r:aX xs us):us=[]↔xs=[]:=by
 cases r with
 |nil=>simp
 |cons _ _=>simp
theorem C2:jF X (binaryOp .Add) (IE X.K):=by intro pins s σ H x y v u Q I rx ry h;obtain⟨a,b,xs,ys,rfl,rfl,ha,hb,hx,hz,q1,q2⟩:=h;cases rx;cases ry;obtain⟨aS,r1,p1,_⟩:=I.tuple ha;obtain⟨mZ,r2,p2,_⟩:=I.tuple hb;refine HT.C0 p1 p2 (λz=>hx (r1.rq.mp z)) (λz=>⟨.ref a,H,I,rfl,q1 (r2.rq.mp z)⟩) (λz=>?_) (by rw[<-r1.length,<-r2.length];exact hz);refine⟨.ref s.heap.objs.size,_,I.laid (t':=s.toks) (o:=.tup (xs++ys)) (λb ob q=>Heap.get?_push_of_some _ q) (Nat.le_refl _) ?_,rfl,q2 (λw=>z (r2.rq.mpr w)) _ (I.aw.fresh (Nat.le_refl _))⟩;exact⟨by rw[List.length_append];exact hz,_,r1.append r2,IsTup.new _ _⟩
end
def C3(n:Nat)(i:Int):Option Nat:=if 0<=i then(if i<n then some i.toNat else none)else if -(n:Int)<=i then some (i+n).toNat else none
def nQ{α:Type}(xs:List α)(i:Int):Option α:=(C3 xs.length i).bind λj=>xs[j]?
theorem xn{n:Nat}{i:Int}{j:Nat}(h:C3 n i=some j):seqIndex? i n=some j/\j<n/\-(n:Int)<=i/\i<n:=by
 unfold C3 at h;by_cases h0:0<=i
 ·rw[if_pos h0]at h;by_cases h1:i<n
  ·rw[if_pos h1]at h;have e:i.toNat=j:=Option.some.inj h;exact⟨by rw[seqIndex_of h0 h1,e],by lia,by lia,h1⟩
  rw[if_neg h1]at h;cases h
 rw[if_neg h0]at h;by_cases h1:-(n:Int)<=i
 ·rw[if_pos h1]at h;have e:(i+n).toNat=j:=Option.some.inj h;exact⟨by rw[seqIndex_neg (by lia) h1,e],by lia,h1,by lia⟩
 rw[if_neg h1]at h;cases h
theorem xo{α:Type}{xs:List α}{i:Int}{v:α}(h:nQ xs i=some v):∃j,seqIndex? i xs.length=some j/\xs[j]?=some v/\j<xs.length/\-(xs.length:Int)<=i/\i<xs.length:=by
 unfold nQ at h;cases e:C3 xs.length i with
 |none=>rw[e]at h;cases h
 |some j =>
  rw[e]at h;obtain⟨h1,h2,h3,h4⟩:=xn e;exact⟨j,h1,h,h2,h3,h4⟩
theorem bM{α:Type}{xs:List α}{j:Nat}{v:α}(h:xs[j]?=some v):nQ xs (j:Int)=some v:=by
 have hj:j<xs.length:=(List.getElem?_eq_some_iff.mp h).1;have e:C3 xs.length (j:Int)=some j:=by unfold C3;rw[if_pos (by lia),if_pos (by lia)];simp
 unfold nQ;rw[e];exact h
theorem uF{α:Type}(xs:List α)(v:α):nQ (xs++[v]) (-1)=some v:=by
 have hl:(xs++[v]).length=xs.length+1:=by simp
 have e:C3 (xs++[v]).length (-1)=some xs.length:=by
  unfold C3;rw[hl,if_neg (by decide),if_pos (by lia)]
  congr 1
  lia
 unfold nQ;rw[e];show(xs++[v])[xs.length]?=some v;simp
def C4(b:Expr):Prop:=∀o i,subscripted b false o i=operate [o,i] (getItem o i)
def IF(X:Cx)(r:R2):Prop :=
 ∀(value slice:Expr)(pins:List (Addr×Obj))(s:Shared)(σ:St)(H:Hp)(x y:V)(v u:Value)(Q:VK),Inv X pins σ H s->RelV x v->RelV y u->r x y H Q ->
  subscripted slice false v u=operate [v,u] (getItem v u)->wpAny (model X.prog X.w) X.A (subscriptTail value slice v u) (EP X pins σ Q) X.xe s
def NH(X:Cx)(id:String)(r:V->List V->Hp->VK->Prop):Prop :=
 ∀(pins:List (Addr×Obj))(s:Shared)(σ:St)(H:Hp)(x:V)(xs:List V)(v:Value)(us:List Value)(Q:VK),Inv X pins σ H s->RelV x v->aX xs us->r x xs H Q ->
  wpAny (model X.prog X.w) X.A (call (.builtin id) (v::us)) (EP X pins σ Q) X.xe s
section
variable{X:Cx}{a b:Expr}{ta tb:TE}{pos:Pos}
theorem aO{r:R2}(hr:IF X r)(ha:PE X a ta)(hb:PE X b tb)(hs:C4 b):PE X (.Subscript a b pos) (Hn r ta tb):=by intro pins s σ H Q I h;exact Subscript_ (Ff ha hb I h λv u s2 x y H2 I2 rx ry q=>hr a b pins s2 σ H2 x y v u Q I2 rx ry q (hs _ _))
def IG(K:PySem.W.Frag):R2:=λx y H Q=>∃p xs i v,x=.ref p/\y=.int i/\af K H p xs/\nQ xs i=some v/\Q v H
def IH(K:PySem.W.Frag):R2:=λx y H Q=>∃p xs i v,x=.ref p/\y=.int i/\ar K H p xs/\nQ xs i=some v/\Q v H
theorem C5:IF X (IG X.K):=by
 intro value slice pins s σ H x y v u Q I rx ry h hs;obtain⟨p,xs,i,z,rfl,rfl,hq,he,q⟩:=h;cases rx;obtain⟨t,rfl⟩:=ry;obtain⟨aS,r,pl,hz⟩:=I.list hq;obtain⟨j,h1,h2,h3,h4,h5⟩:=xo he;obtain⟨w,ew,md⟩:=r.get h2;have hl:=r.length;have hn:=vX;have fin:EP X pins σ Q w s:=⟨z,H,I,md,q⟩;by_cases h0:0<=i
 ·have hj:i.toNat=j:=by rw[seqIndex_of h0 h5]at h1;exact Option.some.inj h1
  exact item_listR pl.isList h0 (by lia) (by rw[hj];simpa using ew) fin hs
 have hj:(i+(aS.toArray.size:Int)).toNat=j:=by rw[seqIndex_neg (by lia) h4]at h1;rw[List.size_toArray,<-hl];exact Option.some.inj h1
 exact subscriptTail_builtinR (x:=w) pl.isList.typeIs slot_list_getitem.lookup
  (wpAny_getItem_list_neg (Q:=λr s'=>r=w/\EP X pins σ Q r s') pl.isList (by lia) (by rw[List.size_toArray]<;>lia) (by lia) (by rw[hj];simpa using ew) ⟨rfl,fin⟩) hs
theorem Fo:IF X (IH X.K):=by
 intro value slice pins s σ H x y v u Q I rx ry h hs;obtain⟨p,xs,i,z,rfl,rfl,hq,he,q⟩:=h;cases rx;obtain⟨t,rfl⟩:=ry;obtain⟨aS,r,pl,hz⟩:=I.tuple hq;obtain⟨j,h1,h2,h3,h4,h5⟩:=xo he;obtain⟨w,ew,md⟩:=r.get h2;have hl:=r.length;have hn:=vX;have fin:EP X pins σ Q w s:=⟨z,H,I,md,q⟩;exact subscriptTail_builtinR (x:=w) pl.typeIs slot_tuple_getitem.lookup
  (getItem_tuple (j:=j) (Q:=λr s'=>r=w/\EP X pins σ Q r s') pl (by lia) (by lia) (by rw[List.size_toArray,<-hl];exact h1) (by simpa using ew) ⟨rfl,fin⟩) hs
theorem r9(lo hi:Option Int)(n:Nat):(sliceBounds lo hi none n).1=((HT.qr n 0 lo:Nat):Int)/\(sliceBounds lo hi none n).2.1=((HT.qr n n hi:Nat):Int)/\(sliceBounds lo hi none n).2.2=1:=by
 refine⟨?_,?_,rfl⟩
 ·cases lo with
  |none=>simp[sliceBounds,HT.qr]
  |some i =>
   simp only[sliceBounds,HT.qr,Option.getD_none,show(1:Int)>0 by decide,if_true];by_cases h:i<0
   ·simp only[h,if_true]<;>lia
   simp only[h,if_false]<;>lia
 cases hi with
 |none=>simp[sliceBounds,HT.qr]
 |some i =>
  simp only[sliceBounds,HT.qr,Option.getD_none,show(1:Int)>0 by decide,if_true];by_cases h:i<0
  ·simp only[h,if_true]<;>lia
  simp only[h,if_false]<;>lia
theorem qF(aS:List Value)(lo hi:Option Int):slicePick aS.toArray lo hi none=((aS.drop (HT.qr aS.length 0 lo)).take (HT.qr aS.length aS.length hi-HT.qr aS.length 0 lo)).toArray:=by obtain⟨h1,h2,h3⟩:=r9 lo hi aS.toArray.size;unfold slicePick;rw[h1,h2,h3];simp only[sliceRange_one,pick_run,List.size_toArray]<;>rfl
def II(K:PySem.W.Frag):V->Option Int->Option Int->Hp->VK->Prop:=λx lo hi H Q=>∃a xs,x=.ref a/\af K H a xs/\∀p,H p=none->Q (.ref p) (upd H p (.lst (n5 xs lo hi)))
theorem C6:LQ X (II X.K):=by intro pins s σ H x v vl vu lo hi sl Q I rx hs pl pu h;obtain⟨a,xs,rfl,hx,q⟩:=h;cases rx;obtain⟨aS,r,ht,hz⟩:=I.list hx;have hlen:=r.length;refine⟨"list",_,slot_list_getitem.lookup,ht.isList.typeIs,?_⟩;refine wpAny_getItem_list_slice ht.isList hs pl pu .none (by simp) ?_ (by rw[List.size_toArray]<;>lia);rw[qF,<-hlen];refine⟨.ref s.heap.objs.size,_,I.laid (t':=s.toks) (o:=.lst (n5 xs lo hi)) (λb ob q=>Heap.get?_push_of_some _ q) (Nat.le_refl _) ?_,rfl,q _ (I.aw.fresh (Nat.le_refl _))⟩;exact⟨Nat.le_trans (uE xs lo hi) hz,_,0,(r.drop (HT.qr xs.length 0 lo)).take (HT.qr xs.length xs.length hi-HT.qr xs.length 0 lo),Heap.get?_push_size _ rfl⟩
def i8:V->Bool
 |.bS=>true
 |.bl _=>true
 |.int _=>true
 |.str _=>true
 |_=>false
def vk:V->V->Bool
 |.bS,.bS=>true
 |.bl a,.bl b=>a==b
 |.bl a,.int b=>(if a then 1 else 0)==b
 |.int a,.bl b=>a==(if b then 1 else 0)
 |.int a,.int b=>a==b
 |.str a,.str b=>a==b
 |_,_=>false
theorem vm{A:Around}{s:Shared}{y x:V}{u v:Value}(ry:RelV y u)(rx:RelV x v)(fy:i8 y=true)(fx:i8 x=true):SeqAt.EqAt A s u v (vk y x):=by
 cases y with
 |bS =>
  cases ry;cases x with
  |bS=>cases rx;exact SeqAt.EqAt.same _
  |bl b=>cases rx;exact SeqAt.EqAt.none_bool b
  |int b=>obtain⟨t,rfl⟩:=rx;exact SeqAt.EqAt.none_int b t
  |str b=>obtain⟨t,rfl⟩:=rx;exact SeqAt.EqAt.none_str b t
  |_=>exact absurd (show false=true from fx) Bool.false_ne_true
 |bl a =>
  cases ry;cases x with
  |bS=>cases rx;exact SeqAt.EqAt.bool_none a
  |bl b=>cases rx;exact SeqAt.EqAt.bool_bool a b
  |int b=>obtain⟨t,rfl⟩:=rx;exact SeqAt.EqAt.bool_int a b t
  |str b=>obtain⟨t,rfl⟩:=rx;exact SeqAt.EqAt.bool_str a b t
  |_=>exact absurd (show false=true from fx) Bool.false_ne_true
 |int a =>
  obtain⟨t',rfl⟩:=ry;cases x with
  |bS=>cases rx;exact SeqAt.EqAt.int_none a t'
  |bl b=>cases rx;exact SeqAt.EqAt.int_bool a t' b
  |int b=>obtain⟨t,rfl⟩:=rx;exact SeqAt.EqAt.int_int a t' b t
  |str b=>obtain⟨t,rfl⟩:=rx;exact SeqAt.EqAt.int_str a t' b t
  |_=>exact absurd (show false=true from fx) Bool.false_ne_true
 |str a =>
  obtain⟨t',rfl⟩:=ry;cases x with
  |bS=>cases rx;exact SeqAt.EqAt.str_none a t'
  |bl b=>cases rx;exact SeqAt.EqAt.str_bool a t' b
  |int b=>obtain⟨t,rfl⟩:=rx;exact SeqAt.EqAt.str_int a t' b t
  |str b=>obtain⟨t,rfl⟩:=rx;exact SeqAt.EqAt.str_str a t' b t
  |_=>exact absurd (show false=true from fx) Bool.false_ne_true
 |_=>exact absurd (show false=true from fy) Bool.false_ne_true
def vn(x:V)(u:Value):Bool:=match u with
 |.none=>vk .bS x
 |.bool b=>vk (.bl b) x
 |.int i _=>vk (.int i) x
 |.str z _=>vk (.str z) x
 |_=>false
theorem Ah{x y:V}{u:Value}(r:RelV y u)(f:i8 y=true):vn x u=vk y x:=by
 cases y with
 |bS=>cases r;rfl
 |bl b=>cases r;rfl
 |int i=>obtain⟨t,rfl⟩:=r;rfl
 |str z=>obtain⟨t,rfl⟩:=r;rfl
 |_=>exact absurd (show false=true from f) Bool.false_ne_true
theorem lW{x:V}:∀{xs:List V}{us:List Value},aX xs us->xs.all i8=true->us.any (vn x)=xs.any λy=>vk y x
 |_,_,.nil,_=>rfl
 |y::xs,u::us,.cons r t,f=>by rw[List.all_cons,Bool.and_eq_true]at f;rw[List.any_cons,List.any_cons,Ah r f.1,lW t f.2]
theorem jH{A:Around}{s:Shared}{x:V}{v:Value}(rx:RelV x v)(fx:i8 x=true):∀{xs:List V}{us:List Value},aX xs us->xs.all i8=true->∀u∈us,SeqAt.EqAt A s u v (vn x u)
 |_,_,.nil,_=>λu hu=>by cases hu
 |y::xs,u::us,.cons r t,f=>λu' hu=>by
  rw[List.all_cons,Bool.and_eq_true]at f;rcases List.mem_cons.mp hu with rfl|hu
  ·rw[Ah r f.1];exact vm r rx f.1 fx
  exact jH rx fx t f.2 u' hu
def Cg(x:V)(xs:List V):Bool:=xs.any λy=>vk y x
def KH(K:PySem.W.Frag)(neg:Bool):R2:=λx y H Q=>∃p xs,y=.ref p/\(af K H p xs\/ar K H p xs)/\i8 x=true/\xs.all i8=true/\Q (.bl (if neg then !Cg x xs else Cg x xs)) H
theorem qt:jF X (compareOp .In) (KH X.K false):=by
 intro pins s σ H x y v u Q I rx ry h;obtain⟨p,xs,rfl,hq,fx,fs,q⟩:=h;cases ry;rcases hq with hq|hq
 ·obtain⟨aS,r,pl,hz⟩:=I.list hq;refine SeqAt.in_listAt (vn x) pl.isList (λw hw=>jH rx fx r fs w (by simpa using hw)) ⟨.bl _,H,I,rfl,?_⟩;rw[show aS.toArray.any (vn x)=aS.any (vn x) by simp,lW r fs];exact q
 obtain⟨aS,r,pl,hz⟩:=I.tuple hq;refine SeqAt.in_tupleAt (vn x) pl (λw hw=>jH rx fx r fs w (by simpa using hw)) ⟨.bl _,H,I,rfl,?_⟩;rw[show aS.toArray.any (vn x)=aS.any (vn x) by simp,lW r fs];exact q
theorem sE:jF X (compareOp .NotIn) (KH X.K true):=by
 intro pins s σ H x y v u Q I rx ry h;obtain⟨p,xs,rfl,hq,fx,fs,q⟩:=h;cases ry;rcases hq with hq|hq
 ·obtain⟨aS,r,pl,hz⟩:=I.list hq;refine SeqAt.notIn_listAt (vn x) pl.isList (λw hw=>jH rx fx r fs w (by simpa using hw)) ⟨.bl _,H,I,rfl,?_⟩;rw[show aS.toArray.any (vn x)=aS.any (vn x) by simp,lW r fs];exact q
 obtain⟨aS,r,pl,hz⟩:=I.tuple hq;refine SeqAt.notIn_tupleAt (vn x) pl (λw hw=>jH rx fx r fs w (by simpa using hw)) ⟨.bl _,H,I,rfl,?_⟩;rw[show aS.toArray.any (vn x)=aS.any (vn x) by simp,lW r fs];exact q
theorem sF:dC X (.builtin "len") (λxs H Q=>∃p ys,xs=[.ref p]/\(af X.K H p ys\/ar X.K H p ys)/\Q (.int ys.length) H):=by
 intro pins s σ H xs us Q I r h;obtain⟨p,ys,rfl,hq,q⟩:=h;obtain⟨u,rfl,rx⟩:=vals1 r;cases rx;have hn:=vX;rcases hq with hq|hq
 ·obtain⟨aS,r',pl,hz⟩:=I.list hq;have hlen:=r'.length;exact Calls.call_len_list pl.isList (by simp only[List.size_toArray]<;>lia) ⟨.int ys.length,H,I.tok _,⟨s.toks+1,by rw[List.size_toArray,hlen]⟩,q⟩
 obtain⟨aS,r',pl,hz⟩:=I.tuple hq;have hlen:=r'.length;exact len_tuple pl (by simp only[List.size_toArray]<;>lia) ⟨.int ys.length,H,I.tok _,⟨s.toks+1,by rw[List.size_toArray,hlen]⟩,q⟩
theorem qG:dC X (.type "tuple") (λxs H Q=>∃p ys,xs=[.ref p]/\((af X.K H p ys/\∀l,H l=none->Q (.ref l) (upd H l (.tup ys)))\/(ar X.K H p ys/\Q (.ref p) H))):=by
 intro pins s σ H xs us Q I r h;obtain⟨p,ys,rfl,h⟩:=h;obtain⟨u,rfl,rx⟩:=vals1 r;cases rx;rcases h with⟨hq,q⟩|⟨hq,q⟩
 ·obtain⟨aS,r',pl,hz⟩:=I.list hq;have hlen:=r'.length;refine call_tuple_list pl.isList (λh' kp=>?_) (by simp only[List.size_toArray]<;>lia);have I1:Inv X pins σ H { s with heap:=h' }:=I.kept (t':=s.toks) kp;have I2:Inv X pins σ (upd H h'.objs.size (.tup ys)) { s with heap:=h'.push { cls:=.type "tuple",data:=.seq aS.toArray } } :=
   I1.laid (t':=s.toks) (λb o e=>Heap.get?_push_of_some _ e) (Nat.le_refl _) (show ay X.prog X.w _ _ _ (.tup ys)from⟨hz,aS,r',IsTup.new _ _⟩)
  exact⟨.ref h'.objs.size,_,I2,rfl,q _ (I1.aw.fresh (Nat.le_refl _))⟩
 obtain⟨aS,r',pl,hz⟩:=I.tuple hq;exact call_tuple_same pl ⟨.ref p,H,I,rfl,q⟩
def NI(K:PySem.W.Frag)(T:String)(x:V)(H:Hp):Prop:=match x with
 |.str _=>T="str"
 |.int _=>T="int"
 |.ref p=>(T="list"/\∃xs,af K H p xs)\/(T="tuple"/\∃o,K.lookup p=some o/\o.cls=.type "tuple"/\o.dict=none) \/
   (T="dict"/\((∃kvs,H p=some (.dK kvs))\/∃kvs,H p=some (.dT kvs)))\/(T="set"/\∃S n,H p=some (.set S n))
 |_=>False
theorem Fp{pins:List (Addr×Obj)}{σ:St}{H:Hp}{s:Shared}{T:String}{x:V}{v:Value}(I:Inv X pins σ H s)(r:RelV x v)(ty:NI X.K T x H):
  s.TypeIs v T/\∀a,v=.ref a->∃ob,s.heap.get? a=some ob/\ob.dict=none:=by
 cases x with
 |str z =>
  obtain⟨t,rfl⟩:=r;cases(show T="str"from ty);exact⟨typeIs_str s z t,λ_ e=>nomatch e⟩
 |int i =>
  obtain⟨t,rfl⟩:=r;cases(show T="int"from ty);exact⟨typeIs_int s i t,λ_ e=>nomatch e⟩
 |ref p =>
  cases r;rcases ty with⟨rfl,xs,hq⟩|⟨rfl,o,hk,hc,hd⟩|⟨rfl,hk⟩|⟨rfl,S,n,hk⟩
  ·obtain⟨aS,_,pl,_⟩:=I.list hq;refine⟨pl.isList.typeIs,λa e=>?_⟩;cases e;obtain⟨o,n,e,c,hd,_⟩:=pl;exact⟨o,e,hd⟩
  ·refine⟨⟨o,I.mV p o hk,hc⟩,λa e=>?_⟩;cases e;exact⟨o,I.mV _ o hk,hd⟩
  ·have z:∃o,s.heap.get? p=some o/\o.ExactDict:=by
    rcases hk with⟨kvs,hk⟩|⟨kvs,hk⟩
    ·obtain⟨_,_,_,_,o,_,_,e,ex,_⟩:=I.aw p _ hk;exact⟨o,e,ex⟩
    obtain⟨_,_,_,_,o,_,_,e,ex,_⟩:=I.aw p _ hk;exact⟨o,e,ex⟩
   obtain⟨o,e,ex⟩:=z;refine⟨⟨o,e,ex.1⟩,λa e2=>?_⟩;cases e2;exact⟨o,e,ex.2.1⟩
  obtain⟨o,_,_,_,e,ex,_⟩:=I.aw p _ hk;refine⟨⟨o,e,ex.1⟩,λa e2=>?_⟩;cases e2;exact⟨o,e,ex.2.1⟩
 |_=>exact False.elim ty
def NJ(K:PySem.W.Frag)(T:String)(r:V->List V->Hp->VK->Prop)(to:TE)(t:TA):TE:=λσ H Q=>to σ H λx H1=>NI K T x H1/\t σ H1 λxs H2=>r x xs H2 Q
variable{o e:Expr}{es:List Expr}{to:TE}{t:TA}{name:Str}{apos cY:Pos}{T id:String}{r:V->List V->Hp->VK->Prop}
theorem IJ(pa:PlainAttrs T)(slot:Slot T name id)(LR:typeOf (.builtin id)=pure (.type "method_descriptor"))(hm:NH X id r)(ho:PE X o to)(ha:PA X (e::es) t)(Ai:attributeBase o name X.env (eval o X.env)=eval o X.env:=by rfl)(Fq:((backTo cY (starEach (e::es) X.env)).all (λx=>!x.1)&&(backToKw cY (keywordEach [] X.env)).all (λx=>x.1.isSome)
   && decide ((e::es).length+([]:List Keyword).length+(if([]:List Keyword).isEmpty then 0 else 1)<30))=true:=by rfl)(Aj:(apos.endLine==cY.line)=true:=by rfl)(hs:starEach (e::es) X.env=(false,eval e X.env)::starEach es X.env:=by rfl)(vo:(backTo cY (starEach es X.env)).any (·.1)=false:=by rfl):
  PE X (.Call (.Attribute o name apos) (e::es) [] cY) (NJ X.K T r to t):=by
 intro pins s σ H Q I h;refine wpAny_Call_method_late Ai Fq Aj rfl (az (ho pins s σ H _ I h) λv s1 ⟨x,H1,I1,r1,ty,q1⟩=>?_);obtain⟨h1,h2⟩:=Fp I1 r1 ty;refine⟨T,id,pa,slot,LR,h1,h2,?_⟩;have hA:=ha cY pins s1 σ H1 _ I1 q1;rw[hs]at hA ⊢;refine Calls.callWith_builtin (by show(false||(backTo cY (starEach es X.env)).any (·.1))=false;rw[vo]<;>rfl) (Calls.evalArgs_plain ?_);exact az hA λus s2 ⟨vs,H2,I2,r2,q2⟩=>hm pins s2 σ H2 x vs v us Q I2 r1 r2 q2
end
def NK(X:Cx)(id:String)(r:V->List V->Hp->VK->Prop):Prop :=
 ∀(pins:List (Addr×Obj))(s:Shared)(σ:St)(H:Hp)(x:V)(xs:List V)(v:Value)(us:List Value)(Q:VK),Inv X pins σ H s->RelV x v->aX xs us->r x xs H Q ->
  wpAny (model X.prog X.w) X.A (call (.builtin id) (v::us)) (EP X pins σ Q) X.xe s
theorem aX.one:∀{x:V}{us:List Value},aX [x] us->∃u,us=[u]/\RelV x u
 |_,_,.cons r .nil=>⟨_,rfl,r⟩
theorem aX.two:∀{x y:V}{us:List Value},aX [x,y] us->∃u v,us=[u,v]/\RelV x u/\RelV y v
 |_,_,_,.cons r (.cons q .nil)=>⟨_,_,rfl,r,q⟩
theorem aX.eraseIdx:∀{xs:List V}{us:List Value}(i:Nat),aX xs us->aX (xs.eraseIdx i) (us.eraseIdx i)
 |_,_,_,.nil=>.nil
 |_,_,0,.cons _ t=>t
 |_,_,i+1,.cons r t=>.cons r (aX.eraseIdx i t)
theorem aX.rep{xs:List V}{us:List Value}(h:aX xs us):∀k:Nat,aX (List.replicate k xs).flatten (List.replicate k us).flatten
 |0=>.nil
 |k+1=>by rw[List.replicate_succ,List.replicate_succ,List.flatten_cons,List.flatten_cons];exact aX.append h (aX.rep h k)
theorem qu{α:Type}:∀(l:List α)(i:Nat),(l.eraseIdx i).length<=l.length
 |[],_=>Nat.le_refl _
 |_::_,0=>Nat.le_succ _
 |_::r,i+1=>Nat.succ_le_succ (qu r i)
theorem foldl_rep(aS:List Value):∀(k:Nat)(acc:List Value),
  List.foldl (λx1 x2=>x1++x2) acc.toArray (List.replicate k aS.toArray)=(acc++(List.replicate k aS).flatten).toArray
 |0,acc=>by simp
 |k+1,acc=>by
  have e:acc.toArray++aS.toArray=(acc++aS).toArray:=by simp
  have e2:(acc++aS)++(List.replicate k aS).flatten=acc++(List.replicate (k+1) aS).flatten:=by rw[List.replicate_succ,List.flatten_cons,List.append_assoc]
  rw[<-e2,<-foldl_rep aS k (acc++aS),<-e,List.replicate_succ,List.foldl_cons]
section
variable{X:Cx}{pins:List (Addr×Obj)}{σ:St}{H:Hp}{s:Shared}{l b:Addr}{xs ys zs:List V}
theorem Inv.IK{aS its':List Value}{n:Nat}{f:Array Value->Array Value}{t':Nat}(I:Inv X pins σ H s)(hH:H l=some (.lst xs))(e:s.heap.get? l=some { cls:=.type "list",data:=.seq aS.toArray n })(hf:f aS.toArray=its'.toArray)(hv:aX ys its')(hz:ys.length<=sizeLine):
  Inv X pins σ (upd H l (.lst ys)) { s with heap:=s.heap.update l (Obj.mapSeq f),toks:=t' }:=by
 have q:=PySem.IsL.update e f;rw[hf]at q;refine I.write (x:=l) (e:=l) (by rw[hH];exact trivial) (.inl rfl) (λb' u hb hu=>(Heap.get?_update_other s.heap (Obj.mapSeq f) (Ne.symm hb)).trans hu) ⟨_,q⟩ ?_;exact⟨hz,its',_,hv,q⟩
theorem Inv.IL{aS:List Value}{t':Nat}(I:Inv X pins σ H s)(hv:aX ys aS)(hz:ys.length<=sizeLine):
  Inv X pins σ (upd H s.heap.objs.size (.lst ys)) { s with heap:=s.heap.push { cls:=.type "list",data:=.seq aS.toArray },toks:=t' } :=
 I.laid (λ_ _ q=>Heap.get?_push_of_some _ q) (Nat.le_refl _) ⟨hz,aS,0,hv,Heap.get?_push_size _ rfl⟩
theorem Inv.fresh(I:Inv X pins σ H s):H s.heap.objs.size=none:=I.aw.fresh (Nat.le_refl _)
theorem Inv.Fs(I:Inv X pins σ H s)(hH:H l=some (.lst xs)):xs.length<=sizeLine/\∃(aS:List Value)(n:Nat),aX xs aS/\xs.length=aS.length/\s.heap.get? l=some { cls:=.type "list",data:=.seq aS.toArray n }:=by obtain⟨z,aS,n,r,e⟩:=I.aw l _ hH;exact⟨z,aS,n,r,r.length,e⟩
theorem Ak{n:Nat}(h:n<=sizeLine):Builtin.List.listTooLong n=false:=by unfold Builtin.List.listTooLong;exact decide_eq_false (by lia)
end
section
variable{X:Cx}
def C7:V->List V->Hp->VK->Prop:=λx vs H Q=>∃l xs y,x=.ref l/\vs=[y]/\H l=some (.lst xs)/\xs.length<sizeLine/\Q .bS (upd H l (.lst (xs++[y])))
theorem dE:NK X "list.append" C7:=by intro pins s σ H x vs v us Q I rx rv h;obtain⟨l,xs,y,rfl,rfl,hH,hz,q⟩:=h;cases rx;obtain⟨u,rfl,ru⟩:=rv.one;obtain⟨z,aS,n,r,hl,e⟩:=I.Fs hH;refine call_meets F.slot_list_append ⟨_,e,rfl⟩ F.entry_list_append (F.args_list_append_2 _ _) (PySem.list_append l aS.toArray n u (by rw[List.size_toArray];lia)) ⟨e,?_⟩;refine⟨.bS,_,I.IK (its':=aS++[u]) hH e (by simp) (r.append (.cons ru .nil)) ?_,rfl,q⟩;rw[List.length_append,List.length_singleton];lia
def Ft:V->List V->Hp->VK->Prop:=λx vs H Q=>∃l xs i k y,x=.ref l/\vs=[.int i]/\H l=some (.lst xs)/\-(2 ^ 63)<=i/\i<2 ^ 63/\seqIndex? i xs.length=some k/\xs[k]?=some y/\Q y (upd H l (.lst (xs.eraseIdx k)))
theorem Am:NK X "list.pop" Ft:=by
 intro pins s σ H x vs v us Q I rx rv h;obtain⟨l,xs,i,k,y,rfl,rfl,hH,h1,h2,hk,hy,q⟩:=h;cases rx;obtain⟨u,rfl,ru⟩:=rv.one;obtain⟨t,rfl⟩:=ru;obtain⟨z,aS,n,r,hl,e⟩:=I.Fs hH;obtain⟨w,hw,md⟩:=r.get hy;refine call_meets F.slot_list_pop ⟨_,e,rfl⟩ F.entry_list_pop (F.args_list_pop_2 _ _)
  (MeetsSeq.list_pop_at l aS.toArray n i t k w (fitsIndex_both h1 h2) (by rw[List.size_toArray,<-hl];exact hk) (by rw[<-Array.getElem?_toList];exact hw) (by rw[List.size_toArray];lia)) ⟨e,?_⟩
 refine⟨y,_,I.IK (its':=aS.eraseIdx k) hH e ?_ (r.eraseIdx k) ?_,md,q⟩
 ·show aS.toArray.eraseIdxIfInBounds k=(aS.eraseIdx k).toArray;rw[List.eraseIdxIfInBounds_toArray]
 have:=qu xs k;lia
def LS:R2:=λx y H Q=>∃l k xs,x=.ref l/\y=.int k/\H l=some (.lst xs)/\-(2 ^ 63)<=k/\k<2 ^ 63/\xs.length*k.toNat<=sizeLine /\
 ∀p,H p=none->Q (.ref p) (upd H p (.lst (List.replicate k.toNat xs).flatten))
theorem len_rep{α:Type}(xs:List α)(k:Nat):(List.replicate k xs).flatten.length=k*xs.length:=by
 induction k with
 |zero=>simp
 |succ k ih=>rw[List.replicate_succ,List.flatten_cons,List.length_append,ih,Nat.succ_mul,Nat.add_comm]
theorem Fu:jF X (binaryOp .Mult) LS:=by
 intro pins s σ H x y v u Q I rx ry h;obtain⟨l,k,xs,rfl,rfl,hH,h1,h2,hz,q⟩:=h;cases rx;obtain⟨t,rfl⟩:=ry;obtain⟨z,aS,n,r,hl,e⟩:=I.Fs hH;have hlen:aS.toArray.size*k.toNat<=sizeLine:=by rw[List.size_toArray,<-hl];exact hz
 have LU:¬aS.toArray.size*k.toNat>(2 ^ 63-1)/8:=by
  have:(sizeLine:Nat)<=(2 ^ 63-1)/8:=by decide
  lia
 have LV:¬(!Builtin.List.listFitsIndex k)=true:=by rw[fitsIndex_both h1 h2];exact Bool.false_ne_true
 have IM:¬Builtin.List.listTooLong (aS.toArray.size*k.toNat)=true:=by rw[Ak hlen];exact Bool.false_ne_true
 have uG:List.foldl (λx1 x2=>x1++x2) #[] (List.replicate (if aS.toArray.isEmpty=true then 0 else k.toNat) aS.toArray)=(List.replicate k.toNat aS).flatten.toArray:=by
  have f0:∀m:Nat,List.foldl (λx1 x2=>x1++x2) #[] (List.replicate m aS.toArray)=(List.replicate m aS).flatten.toArray:=λm=>by have:=foldl_rep aS m [];rw[List.nil_append]at this;exact this
  rw[f0];cases aS with
  |nil=>simp
  |cons a r'=>rw[if_neg (by simp)]
 refine wpAny_binaryOp_repeat_ref (T:="list") (U:="int") (by decide) ⟨_,e,rfl⟩ (λs'=>typeIs_int s' k t) noFill_list_mul F.fills_int_mul F.slot_int_rmul repeat_list F.slot_int_index.lookup
  (call_meets F.slot_int_rmul (typeIs_int s k t) F.entry_int_rmul (F.args_int_rmul_2 _ _) (int___rmul___int_list k t l aS.toArray n)
   ⟨e,rfl,⟨_,e,rfl⟩,call_meets F.slot_list_mul ⟨_,e,rfl⟩ F.entry_list_mul (F.args_list_mul_2 _ _) (AutoListH.list___mul___list_int_3 l aS.toArray n k t LV LU IM) ⟨e,?_⟩⟩)
 rw[uG];exact⟨.ref _,_,I.IL (t':=s.toks) (r.rep k.toNat) (by rw[len_rep,Nat.mul_comm];exact hz),rfl,q _ I.fresh⟩
end
section
variable{prog:Program}{w:World}{A:Around}{E:Value->Shared->Prop}{s:Shared}
end
section
variable{X:Cx}
end
end L2
namespace Att
open PySem PySem.W PySem.Calls PyProof.Rows
theorem n8{P:Params}{h:Heap}:∀(ns:List Int)(vs:List Value),WellAll P h vs (ns.map WData.int)->IntsAre vs ns:=by
 intro ns
 induction ns with
 |nil =>
  intro vs w;rw[List.map_nil]at w;cases w;exact .nil
 |cons n ns ih =>
  intro vs w;rw[List.map_cons]at w;cases w with
  |cons a b =>
   cases a;exact .cons _ _ (ih _ b)
theorem yy{l:OpenLaw}{n:Nat}(hn:l.most=some n){P:Params}{h:Heap}{args:List WData}{vals:List Value}(vp:l.row.toRowW.claim.pre args=true)(Ci:WellAll P h vals args):
  ∃a vs ns,vals=[Value.ref a]/\args=[WData.list (ns.map WData.int)]/\h.get? a=some { cls:=.type "list",data:=.seq vs.toArray }/\IntsAre vs ns/\ns.length<=n:=by
 have OX:WShape.hasAll [] args [.list .int]=true:=(pre_splitW vp).1;have hc:l.pre.holds [] { args:=args }=true:=(pre_splitW vp).2;obtain⟨d,r,rfl,h1,h2⟩:=hasAllW_cons OX;obtain rfl:=hasAllW_nil h2;obtain⟨xs,rfl,h3⟩:=hasW_list h1;obtain⟨ns,rfl⟩:=items_int h3;have hlen:ns.length<=n:=by
  unfold OpenLaw.pre at hc;have h4:(WTm.not (.lt (.lit (.int (n:Int))) (.len (.arg 0)))).holds [] { args:=[.list (ns.map .int)] }=true:=by have h4:=(holds_andW hc).1;rw[hn]at h4;exact h4
  have h5:=condW_of h4 (w_not (w_lt w_lit (w_len_list (w_arg rfl))));rw[List.length_map]at h5;refine Nat.le_of_not_lt λq=>?_;have q':(n:Int)<((ns.length:Nat):Int):=by lia
  first
   | (rw[decide_eq_true q']at h5;exact absurd h5 (by decide))
   | (simp at h5;lia)
 cases Ci with
 |cons w1 w2 =>
  cases w2;cases w1 with
  |list ho y4=>exact⟨_,_,ns,rfl,rfl,ho,n8 ns _ y4,hlen⟩
theorem y6(l:OpenLaw)(args:List WData):l.row.toRowW.claim.post args (.bool true) args=true :=
 postW_of (r:=l.row.toRowW) (X:=(true==true))
  (show WShape.has [] (.bool true) .bool=true by first|rfl|decide|simp[WShape.has,WShape.arms,WShape.armsAll])
  (show(WTm.eq .res (.lit (.bool true))).value [] { args:=args,res:=some (.bool true),after:=args }=some (.bool (true==true))from w_eq_bool (w_res rfl) w_lit) rfl
theorem uH{l:OpenLaw}{n:Nat}{q:Program}{loose:List Str}{XP:(Str->Option Value)->Heap->Prop}{YP:World->Heap->Prop}{d:DefRec}(hn:l.most=some n)(IP:d.params.defaults=[])(call:∀(w:World)(s₀ s₁:Shared)(mg mb:Str->Option Value)(fa:Addr)(o:Obj)(pm cd doc:Value)(a:Addr)(vs:List Value)(ns:List Int),
   Ground q loose [] XP w s₀ mg mb s₁.heap->YP w s₁.heap ->
   s₁.heap.get? fa=some o->o.data=.func (docDef d.name d.params d.body d.scope pm cd doc)->s₁.heap.CodeRec cd d.name->mg d.name=some (.ref fa) ->
   s₁.heap.get? a=some { cls:=.type "list",data:=.seq vs.toArray }->IntsAre vs ns->ns.length<=n->s₁.gens=#[] ->
   codeAny (model l.prog w) callerA (.call (.ref fa) ⟨[.ref a],[]⟩) (λr s'=>r=.ok (.ret (.bool true))/\OldK s₁.heap s'.heap/\s'.os=s₁.os/\AllBare s'.gens) s₁):
  WalkO q loose XP YP l.row.toRowW d [] (λf vs=>PySem.call f vs):=by
 intro w s₀ s₁ mg mb G Y fa o pm cd doc dV kV ho hd tT hD Fv hg args vals as vp OY Qs Ci Cj;obtain rfl:dV=.none:=Dflts.none hD IP;obtain rfl:kV=.none:=Dflts.noKw hD;obtain⟨a,vs,ns,rfl,rfl,Fw,hints,hlen⟩:=yy hn vp Ci;refine enter_call (codeAny_mono (call w s₀ s₁ mg mb fa o pm cd doc a vs ns G Y ho (fd_plain hd) tT Fv Fw hints hlen hg) λr s' hq=>?_);obtain⟨rfl,h2,h3,h4⟩:=hq;exact⟨.inl ⟨.bool true,.bool true,[],rfl,λ_=>rfl,.bool true,y6 l _,λ_=>⟨List.Pairwise.nil,λ_ hm=>(nomatch hm)⟩⟩,h2,h3,h4⟩
section
variable{prog:Program}{w:World}{A:Around}{E:Value->Shared->Prop}{s:Shared}{K:Frag}
end
end Att
namespace L2
open PySem PySem.Spec PyProof.Rows
theorem qv:∀{vs:List Value}{ns:List Int},IntsAre vs ns->aX (ns.map V.int) vs
 |_,_,.nil=>.nil
 |_,_,.cons n t h=>.cons ⟨t,rfl⟩ (qv h)
def Fx(H:Hp):Prop:=∀b,H b=none\/∃o xs,H b=some (.xT o (.lst xs))
theorem An{P:Program}{w:World}{K:PySem.W.Frag}{mg mb:Str->Option Value}{CX:vg}{k:Nat}{fa a:Addr}{fd:FuncData}{x:Str}{sp:Sp}{s₁:Shared}{vs:List Value}{ns:List Int}(KX:K.In s₁.heap)(NL:s₁.heap.Ns mainGlobals mg)(hb:s₁.heap.Ns builtinsNs mb)(OZ:∀x:Str,x≠"__name__"->mb x=bootBuiltins x)(LW:s₁.heap.NoLimit)(hg:s₁.gens=#[])(ha:s₁.heap.get? a=some { cls:=.type "list",data:=.seq vs.toArray })(hi:IntsAre vs ns)(hl:ns.length<=sizeLine)(hr:cX k callerA)(F:∀base:Heap,K.In base->base.Ns mainGlobals mg->cf P w K mg base CX k fa fd [x] sp)(IQ:∀(s:Shared)(u:Value),BindsTo s fd ⟨[u],[]⟩ [(x,u)])(AJ:∀H:Hp,Fx H->af K H a (ns.map V.int)->sp [.ref a] H (λv _=>v=.bl true) λ_ _ _=>False)(LX:∀H e s',CX [] H s₁ (λ_ _ _=>False) e s'->False):
  codeAny (model P w) callerA (.call (.ref fa) ⟨[.ref a],[]⟩) (λr s'=>r=.ok (.ret (.bool true))/\OldK s₁.heap s'.heap/\s'.os=s₁.os/\AllBare s'.gens) s₁:=by
 have rv:=qv hi;have LY:=hi.length;have core:∀H:Hp,Fx H->af K H a (ns.map V.int)->kQ P w H s₁.heap->(∀b,H b≠none->b=a)->(H a≠none->K.lookup a=none) ->
   codeAny (model P w) callerA (.call (.ref fa) ⟨[.ref a],[]⟩) (λr s'=>r=.ok (.ret (.bool true))/\OldK s₁.heap s'.heap/\s'.os=s₁.os/\AllBare s'.gens) s₁:=by
  intro H hO hS aw hA hK;have xp:∀{b:Addr}{o:Obj},s₁.heap.get? b=some o->H b=none->(rf s₁.heap H).get? b=some o:=λe n=>AQ e n;have IB:∀{b:Addr}{o:Obj}{es:Array DictEntry}{ep:Nat},s₁.heap.get? b=some o->o.data=.dict es ep->H b=none:=λ{b o es ep} e d=>by
   cases q:H b with
   |none=>rfl
   |some u =>
    have e':b=a:=hA b (by rw[q];simp);subst e';rw[ha]at e;cases e;have d':Data.seq vs.toArray _=Data.dict es ep:=d;cases d'
  have KI:∀{b:Addr}{m:Str->Option Value},s₁.heap.Ns b m->(rf s₁.heap H).Ns b m:=λ{b m} ⟨o,es,ep,e,d,r⟩=>⟨o,es,ep,xp e (IB e d),d,r⟩;have NM:K.In (rf s₁.heap H):=λb o e=>xp (KX b o e) (by
   cases q:H b with
   |none=>rfl
   |some u =>
    have e':b=a:=hA b (by rw[q];simp);subst e';rw[hK (by rw[q];simp)]at e;cases e)
  have hM:Mod K mg (rf s₁.heap H):=⟨NM,KI NL,⟨mb,KI hb,OZ⟩,let⟨mc,h1,h2⟩:=LW;⟨mc,KI h1,h2⟩⟩;have e0:vh P w K mg (rf s₁.heap H) callerA [] s₁ H:=⟨rfl,hM,λb o e=>Cn e,Nat.le_of_eq (yc _ _),trivial,λb hb=>absurd (show b∈([]:List Addr)from hb) (by simp),aw,.of_eq hg⟩;refine codeAny_mono ((F _ NM (KI NL)).run callerA [] s₁ H ⟨[.ref a],[]⟩ [.ref a] [.ref a] _ _ hr e0 (IQ s₁ (.ref a)) (.cons rfl .nil) (AJ H hO hS)) λr s' h=>?_;cases r with
  |error e=>exact(LX H e s' h).elim
  |ok fl =>
   cases fl with
   |next=>exact False.elim h
   |brk=>exact False.elim h
   |cont=>exact False.elim h
   |ret u =>
    obtain⟨v,H',os,bare,un,LZ,r',q⟩:=h;have q':v=.bl true:=q;subst q';obtain rfl:u=Value.bool true:=r';refine⟨rfl,OldK.of_keep λb o e=>?_,os,bare⟩;cases q:H b with
    |none=>exact un.keep b o e q (by intro z;exact absurd (show b∈([]:List Addr)from z) (by simp)) (by simp)
    |some u =>
     rcases hO b with z|⟨ob,xs,z⟩
     ·rw[q]at z;cases z
     have z2:=un.rZ b ob _ z;obtain⟨e1,_⟩:=aw b _ z;obtain⟨e2,_⟩:=LZ b _ z2;rw[e]at e1;cases e1;exact e2
 cases hk:K.lookup a with
 |some o =>
  have e:=KX a o hk;rw[ha]at e;cases e;refine core (λ_=>none) (λ_=>.inl rfl) (.inr ⟨_,vs.toArray,_,hk,rfl,rfl,rfl,by rw[List.size_toArray,LY];exact hl,by simpa using rv⟩) (λb u z=>by have z':(none:Option HO)=some u:=z;cases z') (λb z=>absurd rfl z) λz=>absurd rfl z
 |none =>
  refine core (λb=>if b=a then some (.xT { cls:=.type "list",data:=.seq vs.toArray } (.lst (ns.map V.int)))else none) (λb=>?_) (.inl (.inr ⟨{ cls:=.type "list",data:=.seq vs.toArray },if_pos rfl⟩)) (λb u z=>?_) (λb z=>?_) λ_=>hk
  ·by_cases hb:b=a
   ·exact .inr ⟨_,_,if_pos hb⟩
   exact .inl (if_neg hb)
  ·by_cases hb:b=a
   ·have z':=(if_pos hb).symm.trans z;cases z';subst hb;exact⟨ha,by rw[List.length_map];exact hl,vs,_,rv,ha⟩
   have z':=(if_neg hb).symm.trans z;cases z'
  by_cases hb:b=a
  ·exact hb
  exact absurd (if_neg hb) z
abbrev cZ{K:PySem.W.Frag}{h:Heap}(_:K.In h):PySem.W.Frag:=K
theorem C8{l:PySem.W.OpenLaw}{n k:Nat}{q:Program}{loose:List Str}{XP:(Str->Option Value)->Heap->Prop}{YP:World->Heap->Prop}{d:DefRec}{K:Params->PySem.W.Frag}{CX:World->vg}{sp:World->Sp}{x:Str}(hn:l.most=some n)(KE:n<=sizeLine)(IP:d.params.defaults=[])(hr:cX k callerA)(hY:∀(w:World)(h:Heap),YP w h->(K w.params).In h)(F:∀(w:World)(mg:Str->Option Value)(fa:Addr)(h:Heap),(K w.params).In h->h.Ns mainGlobals mg->mg d.name=some (.ref fa) ->
   ∃fd:FuncData,(∀(s:Shared)(u:Value),BindsTo s fd ⟨[u],[]⟩ [(x,u)]) /\
    ∀base:Heap,(K w.params).In base->base.Ns mainGlobals mg->cf l.prog w (K w.params) mg base (CX w) k fa fd [x] (sp w))(AJ:∀(w:World)(H:Hp)(a:Addr)(ns:List Int),ns.length<=n->Fx H->af (K w.params) H a (ns.map V.int)->sp w [.ref a] H (λv _=>v=.bl true) λ_ _ _=>False)(LX:∀(w:World)(H:Hp)(s:Shared)(e:Value)(s':Shared),CX w [] H s (λ_ _ _=>False) e s'->False):
  PySem.W.WalkO q loose XP YP l.row.toRowW d [] (λf vs=>PySem.call f vs):=by
 refine Att.uH hn IP λw s₀ s₁ mg mb fa o pm cd doc a vs ns G Y ho hd tT Fv Fw hints hlen hg=>?_;have KX:=hY w _ Y;obtain⟨fd,hb,hF⟩:=F w mg fa _ KX G.T.g Fv;exact An KX G.T.g G.T.b G.T.builtins G.T.nolimit hg Fw hints (Nat.le_trans hlen KE) hr hF hb (λH hO hS=>AJ w H a ns hlen hO hS) λH e s'=>LX w H s₁ e s'
def bz(s:Stmt):Arguments:=match s with
 |.FunctionDef _ a _ _ _ _ _ _ _ _=>a
 |_=>{ posonlyargs:=[],args:=[],vararg:=none,kwonlyargs:=[],kw_defaults:=[],kwarg:=none,defaults:=[] }
def bN(s:Stmt):List Stmt:=match s with
 |.FunctionDef _ _ b _ _ _ _ _ _ _=>b
 |_=>[]
def aH(s:Stmt):Scope:=match s with
 |.FunctionDef _ _ _ _ _ _ sc _ _ _=>sc
 |_=>{ kind:=.function,names:=[],isGenerator:=false,isCoroutine:=false }
abbrev E0:XK:=λ_ _ _=>False
structure qH(K:PySem.W.Frag)(x qual:Str)(st:Stmt)(f:Addr)(fd:FuncData):Prop where
 ex:∃(oc:Value)(od:Option Addr)(kV doc pm:Value)(an:Option Addr)(bf ct:Value)(yw:Array (Option Value)),
  fd=PySem.W.fnOf x qual (bz st) (bN st) (aH st) .none kV doc pm an bf ct/\K.lookup f=some ⟨oc,od,.func fd,yw⟩/\PySem.W.codeIn K bf qual=true
 kp:PySem.W.keepIn K (.ref f)=true
section
variable{P:Program}{w:World}{K:PySem.W.Frag}{mg:Str->Option Value}{base:Heap}
theorem qH.binds{x qual:Str}{st:Stmt}{f:Addr}{fd:FuncData}{ps:List Str}(F:qH K x qual st f fd)(h:∀(kV doc pm:Value)(an:Option Addr)(bf ct:Value)(us:List Value),us.length=ps.length->bindArgs (PySem.W.fnOf x qual (bz st) (bN st) (aH st) .none kV doc pm an bf ct) ⟨us,[]⟩=pure (ps.zip us)):Binds K fd ps []:=by obtain⟨oc,od,kV,doc,pm,an,bf,ct,yw,rfl,lk,tT⟩:=F.ex;exact .all (h kV doc pm an bf ct)
theorem kU{x qual:Str}{st:Stmt}{f:Addr}{oc:Value}{od an:Option Addr}{yw:Array (Option Value)}{kV doc pm bf ct:Value}(l:K.lookup f=some ⟨oc,od,.func (PySem.W.fnOf x qual (bz st) (bN st) (aH st) .none kV doc pm an bf ct),yw⟩)(c:PySem.W.codeIn K bf qual=true)(k:PySem.W.keepIn K (.ref f)=true):qH K x qual st f (PySem.W.fnOf x qual (bz st) (bN st) (aH st) .none kV doc pm an bf ct):=⟨⟨oc,od,kV,doc,pm,an,bf,ct,yw,rfl,l,c⟩,k⟩
end
theorem b9{A:Around}{k:Nat}(hr:cX k A):A.units+1<cLine:=Nat.lt_of_le_of_lt (Nat.add_le_add_left (by decide:1<=64) _) hr.units
section
variable{X:Cx}
theorem pv(i:Nat){x:Str}{pos:Pos}(hN:X.N[i]?=some x:=by rfl)(hv:J7 X.env.scope x:=by first|exact Or.inl rfl|exact Or.inr (Or.inl rfl)|exact Or.inr (Or.inr rfl))(hd:(x==("__debug__":Str))=false:=by decide)(tT:(x==("__classdict__":Str))=false:=by decide):PE X (.Name x pos) (Hc i):=FW hN hv hd tT
end
theorem c8{A B:Prop}(h:B):if false=true then A else B:=by rw[if_neg Bool.false_ne_true];exact h
theorem gh{A B:Prop}(h:A):if true=true then A else B:=by rw[if_pos rfl];exact h
theorem IS{c A B:Prop}[Decidable c](h1:c->A)(h2:¬c->B):if c then A else B:=by
 by_cases h:c
 ·rw[if_pos h];exact h1 h
 rw[if_neg h];exact h2 h
def aI(H H':Hp):Prop:=∀b o,H b=some o->H' b=some o
theorem aI.refl(H:Hp):aI H H:=λ_ _ h=>h
theorem aI.trans{H H1 H2:Hp}(a:aI H H1)(b:aI H1 H2):aI H H2:=λc o h=>b c o (a c o h)
theorem aI.free{H H':Hp}(e:aI H H'){l:Addr}(h:H' l=Option.none):H l=Option.none:=by
 cases q:H l with
 |none=>rfl
 |some o =>
  rw[e l o q]at h;cases h
theorem aI.seq{K:PySem.W.Frag}{H H':Hp}{a:Addr}{xs:List V}(e:aI H H')(h:af K H a xs):af K H' a xs:=by
 rcases h with(h|⟨o,h⟩)|h
 ·exact .inl (.inl (e _ _ h))
 ·exact .inl (.inr ⟨o,e _ _ h⟩)
 exact .inr h
def bT(env:Env):List (Str×NameKind)->List (Str×Addr)->List (Str×Addr)
 |[],acc=>acc
 | (n,k)::r,acc=>if k==.free then bT env r ((n,(env.cells.lookup n).getD 0)::acc)else bT env r acc
theorem kW{env:Env}:∀(names:List (Str×NameKind))(acc:List (Str×Addr))(f:Str×NameKind->List (Str×Addr)->Sem (ForInStep (List (Str×Addr)))),
  (∀n k cs,f (n,k) cs=if k==.free then(do let c <- cellOf env n;pure (.yield ((n,c)::cs)))else pure (.yield cs)) ->
  (∀x∈names,x.2=.free->∃c,env.cells.lookup x.1=some c)->(forIn names acc f:Sem _)=pure (bT env names acc)
 |[],acc,f,_,_=>rfl
 | (n,k)::r,acc,f,hf,h=>by
  rw[List.forIn_cons,hf];unfold bT;by_cases hk:(k==.free)=true
  ·rw[if_pos hk,if_pos hk];obtain⟨c,e⟩:=h (n,k) List.mem_cons_self (beq_iff_eq.mp hk);have e':env.cells.lookup n=some c:=e;unfold cellOf;rw[e'];show(forIn r ((n,c)::acc) f:Sem _)=_;exact kW r _ f hf λx hx=>h x (List.mem_cons_of_mem _ hx)
  rw[if_neg hk,if_neg hk];show(forIn r acc f:Sem _)=_;exact kW r _ f hf λx hx=>h x (List.mem_cons_of_mem _ hx)
theorem oZ{env:Env}{scope:Scope}(h:∀x∈scope.names,x.2=.free->∃c,env.cells.lookup x.1=some c):closureFor scope env=pure (bT env scope.names []):=by
 unfold closureFor;have e:=kW scope.names [] (λx cs=>if x.2==.free then(do let c <- cellOf env x.1;pure (.yield ((x.1,c)::cs)))else pure (.yield cs)) (λ_ _ _=>rfl) h
 show(forIn scope.names [] _ >>= λcs=>pure cs)=_;exact(lX e)
where
 lX {α:Type} {a:α} {t:Sem α} (e:t=pure a):(t >>= λx=>pure x)=pure a:=by rw[e];rfl
theorem bh{env:Env}{x:Str}{c:Addr}:∀(names:List (Str×NameKind))(acc:List (Str×Addr)),(∀y∈names,y.2=.free->∃c,env.cells.lookup y.1=some c) ->
  (∀c,acc.lookup x=some c->env.cells.lookup x=some c)->(bT env names acc).lookup x=some c->env.cells.lookup x=some c
 |[],acc,_,ha,h=>ha c h
 | (n,k)::r,acc,hn,ha,h=>by
  unfold bT at h;have hr:∀y∈r,y.2=.free->∃c,env.cells.lookup y.1=some c:=λy hy=>hn y (List.mem_cons_of_mem _ hy);by_cases hk:(k==.free)=true
  ·rw[if_pos hk]at h;obtain⟨c',e⟩:=hn (n,k) List.mem_cons_self (beq_iff_eq.mp hk);have e':env.cells.lookup n=some c':=e;rw[e']at h;refine bh r _ hr (λc2 q=>?_) h;rw[List.lookup_cons]at q;cases hb:x==n with
   |true=>rw[hb]at q;cases q;rw[beq_iff_eq.mp hb];exact e'
   |false=>rw[hb]at q;exact ha c2 q
  rw[if_neg hk]at h;exact bh r _ hr ha h
theorem hU{env:Env}{x:Str}:∀(names:List (Str×NameKind))(acc:List (Str×Addr)),((x,NameKind.free)∈names\/∃c,acc.lookup x=some c)->∃c,(bT env names acc).lookup x=some c
 |[],acc,h=>h.elim (λz=>by cases z) id
 | (n,k)::r,acc,h=>by
  unfold bT;by_cases hk:(k==.free)=true
  ·rw[if_pos hk];refine hU r _ ?_;cases hb:x==n with
   |true=>exact .inr ⟨_,by rw[List.lookup_cons,hb]⟩
   |false =>
    rcases h with h|⟨c,h⟩
    ·rcases List.mem_cons.mp h with e|e
     ·injection e with e1 _;rw[e1]at hb;simp at hb
     exact .inl e
    exact .inr ⟨c,by rw[List.lookup_cons,hb];exact h⟩
  rw[if_neg hk];refine hU r _ ?_;rcases h with h|h
  ·rcases List.mem_cons.mp h with e|e
   ·injection e with _ e2;rw[<-e2]at hk;exact absurd rfl hk
   exact .inl e
  exact .inr h
theorem kX{x:Str}{c:Addr}:∀(names:List (Str×NameKind))(n:Nat)(acc:List (Str×Addr)),(cellsFrom n names acc).lookup x=some c->acc.lookup x=some c\/(n<=c/\(x,NameKind.cell)∈names)
 |[],_,_,h=>.inl h
 | (y,k)::r,n,acc,h=>by
  unfold cellsFrom at h;by_cases hk:(k==.cell)=true
  ·rw[if_pos hk]at h;rcases kX r _ _ h with q|⟨q1,q2⟩
   ·rw[List.lookup_cons]at q;cases hb:x==y with
    |true=>rw[hb]at q;cases q;exact .inr ⟨Nat.le_refl _,by rw[beq_iff_eq.mp hb,beq_iff_eq.mp hk];exact List.mem_cons_self⟩
    |false=>rw[hb]at q;exact .inl q
   exact .inr ⟨by lia,List.mem_cons_of_mem _ q2⟩
  rw[if_neg hk]at h;rcases kX r _ _ h with q|⟨q1,q2⟩
  ·exact .inl q
  exact .inr ⟨q1,List.mem_cons_of_mem _ q2⟩
theorem jw{x:Str}{lo:Nat}:∀(names:List (Str×NameKind))(n:Nat)(acc:List (Str×Addr)),lo<=n->((x,NameKind.cell)∈names\/∃c,acc.lookup x=some c/\lo<=c)->∃c,(cellsFrom n names acc).lookup x=some c/\lo<=c
 |[],_,_,_,h=>h.elim (λz=>by cases z) id
 | (y,k)::r,n,acc,hn,h=>by
  unfold cellsFrom;by_cases hk:(k==.cell)=true
  ·rw[if_pos hk];refine jw r _ _ (by lia) ?_;cases hb:x==y with
   |true=>exact .inr ⟨n,by rw[List.lookup_cons,hb],hn⟩
   |false =>
    rcases h with h|⟨c,h,hc⟩
    ·rcases List.mem_cons.mp h with e|e
     ·injection e with e1 _;rw[e1]at hb;simp at hb
     exact .inl e
    exact .inr ⟨c,by rw[List.lookup_cons,hb];exact h,hc⟩
  rw[if_neg hk];refine jw r _ _ hn ?_;rcases h with h|h
  ·rcases List.mem_cons.mp h with e|e
   ·injection e with _ e2;rw[<-e2]at hk;exact absurd rfl hk
   exact .inl e
  exact .inr h
theorem hV{x:Str}:∀(names:List (Str×NameKind))(n:Nat)(acc:List (Str×Addr)),(x,NameKind.cell)∉names->(cellsFrom n names acc).lookup x=acc.lookup x
 |[],_,_,_=>rfl
 | (y,k)::r,n,acc,h=>by
  unfold cellsFrom;have hr:(x,NameKind.cell)∉r:=λz=>h (List.mem_cons_of_mem _ z);by_cases hk:(k==.cell)=true
  ·rw[if_pos hk,hV r _ _ hr,List.lookup_cons];cases hb:x==y with
   |true=>exact absurd (by rw[beq_iff_eq.mp hb,beq_iff_eq.mp hk];exact List.mem_cons_self) h
   |false=>rfl
  rw[if_neg hk];exact hV r _ _ hr
theorem me:∀(names:List (Str×NameKind))(n:Nat)(acc:List (Str×Addr)),(∀x c,acc.lookup x=some c->c<n)->(∀x y c,acc.lookup x=some c->acc.lookup y=some c->x=y) ->
  ∀x y c,(cellsFrom n names acc).lookup x=some c->(cellsFrom n names acc).lookup y=some c->x=y
 |[],_,_,_,h=>h
 | (z,k)::r,n,acc,bq,h=>by
  unfold cellsFrom;by_cases hk:(k==.cell)=true
  ·rw[if_pos hk];refine me r (n+1) _ (λx c e=>?_) λx y c e1 e2=>?_
   ·rw[List.lookup_cons]at e;cases hb:x==z with
    |true=>rw[hb]at e;cases e;exact Nat.lt_succ_self _
    |false=>rw[hb]at e;exact Nat.lt_succ_of_lt (bq x c e)
   rw[List.lookup_cons]at e1 e2;cases hb:x==z with
   |true =>
    rw[hb]at e1;cases e1;cases IT:y==z with
    |true=>rw[beq_iff_eq.mp hb,beq_iff_eq.mp IT]
    |false=>rw[IT]at e2;exact absurd (bq y _ e2) (Nat.lt_irrefl _)
   |false =>
    rw[hb]at e1;cases IT:y==z with
    |true=>rw[IT]at e2;cases e2;exact absurd (bq x _ e1) (Nat.lt_irrefl _)
    |false=>rw[IT]at e2;exact h x y c e1 e2
  rw[if_neg hk];exact me r n _ bq h
theorem f9{x:Str}{c:Addr}:∀(names:List (Str×NameKind))(h:Heap)(acc:List (Str×Addr)),(∀y c,acc.lookup y=some c->∃v,h.IsCell c v) ->
  (cellsFrom h.objs.size names acc).lookup x=some c->∃v,(pushCells h names).IsCell c v
 |[],h,acc,ha,e=>ha x c e
 | (y,k)::r,h,acc,ha,e=>by
  unfold cellsFrom at e;unfold pushCells;by_cases hk:(k==.cell)=true
  ·rw[if_pos hk]at e ⊢;rw[show h.objs.size+1=(h.push { cls:=.type "cell",data:=.cell none }).objs.size from(Heap.size_push ..).symm]at e;refine f9 r _ _ (λz c' q=>?_) e;rw[List.lookup_cons]at q;cases hb:z==y with
   |true=>rw[hb]at q;cases q;exact⟨none,_,Heap.get?_push_size _ rfl,rfl⟩
   |false =>
    rw[hb]at q;obtain⟨v,w⟩:=ha z c' q;exact⟨v,w.keeps λb o e=>Heap.get?_push_of_some _ e⟩
  rw[if_neg hk]at e ⊢;exact f9 r _ _ ha e
section
variable{M:Model}{A:Around}{E:Value->Shared->Prop}{s:Shared}
theorem uI{scope:Scope}{globals:Addr}{cl:List (Str×Addr)}{qual:Str}{env:Env}{Q:Env->Shared->Prop}(h:Q { scope,locals:=s.heap.objs.size,globals,cells:=cellsFrom (s.heap.objs.size+1) scope.names cl,qual,func:=none,code:=env.code,frame:=env.frame,builtins:=env.builtins }
   { s with heap:=pushCells (s.heap.push { cls:=.type "dict",data:=.dict #[] }) scope.names }):
  wpAny M A (newFunctionEnv scope globals cl [] qual none .none (some env)) Q E s:=by
 simp only[newFunctionEnv,Option.isSome_some,if_true];refine wpAny_bind (wpAny_alloc ?_);refine wpAny_bind (wpAny_layCells _ (λname kind cells=>by cases Oa:kind==NameKind.cell<;>simp[Oa]) _ _ _ _ ?_);rw[show({ s with heap:=s.heap.push { cls:=.type "dict",data:=.dict #[] } }:Shared).heap.objs.size=s.heap.objs.size+1 from Heap.size_push ..];refine wpAny_bind ?_;rw[List.forIn_nil];exact wpAny_pure (wpAny_pure h)
end
section
variable{prog:Program}{w:World}{A:Around}{R:Result->Shared->Prop}{s:Shared}
theorem sG{elt target iter:Expr}{ifs:List Expr}{scope:Scope}{pos:Pos}{it acc:Value}{env:Env}(I:Nat->Shared->Prop)(turn:∀n s,I n s->wpAny (model prog w) A (pyNext it) (λr s₁=>match r with
   |none=>R (.ok .next) s₁
   |some v=>wpAny (model prog w) A (letOwnedTupleGo target it v) (λ_ s₁'=>wpAny (model prog w) A (assign target env v) (λ_ s₂ =>
     wpAny (model prog w) A (forIn ifs true λc r=>if r=true then do let ok <- isTrue c env (eval c env);pure (ForInStep.yield ok)else pure (ForInStep.yield r)) (λok s₃ =>
      if ok=true then wpAny (model prog w) A (eval elt env) (λx s₄ =>
       wpAny (model prog w) A (call (.builtin "list.append") [acc,x]) (λ_ s₅=>∃m,m<n/\I m s₅) (λ_ _=>False) s₄) (λ_ _=>False) s₃
      else ∃m,m<n/\I m s₃) (λ_ _=>False) s₂) (λ_ _=>False) s₁') (λ_ _=>False) s₁) (λ_ _=>False) s)(n:Nat)(h:I n s):
  codeAny (model prog w) A (.compLoop (.ListComp elt [⟨target,iter,ifs,0⟩] scope pos) 0 it acc env) R s:=by
 refine codeAny_loop rfl I (λn s hI=>?_) n h;show wpAny _ A ((compTurn (.ListComp elt [⟨target,iter,ifs,0⟩] scope pos) 0 it acc env).onRaise (λx=>do noteFrame x env;theTreesLotGoes x)) _ _ s
 refine wpAny_noted ?_;rw[compTurn_list];refine wpAny_bind (wpAny_standAt (wpAny_bind (wpAny_mono (turn n s hI) (λr s₁ h₁=>?_) λ_ _ h'=>h'.elim)));cases r with
 |none=>exact wpAny_pure h₁
 |some v =>
  refine wpAny_bind (wpAny_mono h₁ (λ_ s₁' h₁'=>?_) λ_ _ h'=>h'.elim);refine wpAny_bind (wpAny_mono h₁' (λ_ s₂ h₂=>wpAny_bind (wpAny_mono h₂ (λok s₃ h₃=>?_) λ_ _ h'=>h'.elim)) λ_ _ h'=>h'.elim);cases ok with
  |false=>exact wpAny_pure ⟨rfl,h₃⟩
  |true =>
   exact wpAny_bind (wpAny_bind (wpAny_mono h₃ (λx s₄ h₄=>wpAny_bind (wpAny_mono h₄ (λ_ s₅ h₅=>wpAny_pure (wpAny_pure ⟨rfl,h₅⟩)) λ_ _ h'=>h'.elim)) λ_ _ h'=>h'.elim))
end
def sH(X:Cx)(Nc:List Str)(scope:Scope)(C:Addr)(fp:List Addr)(s:Shared)(H:Hp):Cx where
 prog:=X.prog
 w:=X.w
 K:=X.K
 mg:=X.mg
 base:=X.base
 A:=X.A
 N:=Nc
 s₀:=s
 H₀:=H
 env:=compEnvC scope (cellsFrom (C+1) scope.names (bT X.env scope.names [])) C X.env
 outer:=X.stack
 stack:=X.stack
 ex:=fp
 fn:=λx=>scope.names.contains (x,NameKind.cell)
 calm:=X.calm
 pn:=[]
 xe:=λ_ _=>False
structure cS(X:Cx)(Nc:List Str)(ix:List (Option Nat))(scope:Scope):Prop where
 kind:scope.kind=.function
 nd:Nc.Nodup
 len:ix.length=Nc.length
 loc:∀x∈scope.names,x.2=.local->scope.names.lookup x.1=some .local
 free:∀x∈scope.names,x.2=.free->X.env.kindOf x.1=some .cell\/X.env.kindOf x.1=some .free
 once:∀x,(x,NameKind.free)∈scope.names->(x,NameKind.cell)∉scope.names
 out:∀(i j:Nat)(x:Str),ix[i]?=some (some j)->Nc[i]?=some x->X.N[j]?=some x/\scope.names.lookup x=some .free
def og(ix:List (Option Nat))(σ:St):St:=ix.map λo=>o.bind λj=>(σ[j]?).bind id
theorem hW{env:Env}{x:Str}:∀{names:List (Str×NameKind)}{k:NameKind},names.lookup x=some k ->
  (names.map λ(n,k)=>if(k==NameKind.free&&env.scope.kind==.function&&env.kindOf n==some .cell)then(n,NameKind.cell)else(n,k)).lookup x =
   some (if(k==NameKind.free&&env.scope.kind==.function&&env.kindOf x==some .cell)then NameKind.cell else k)
 |[],_,h=>by simp at h
 | (n,k')::r,k,h=>by
  show List.lookup x ((if(k'==NameKind.free&&env.scope.kind==.function&&env.kindOf n==some .cell)=true then(n,NameKind.cell)else(n,k'))::_)=_;cases hx:x==n with
  |true =>
   simp only[List.lookup_cons,hx]at h;cases h;have e:=beq_iff_eq.mp hx;subst e;split<;>simp[List.lookup_cons]
  |false =>
   simp only[List.lookup_cons,hx]at h;have ih:=hW (env:=env) (names:=r) h;split<;>(simp only[List.lookup_cons,hx];exact ih)
theorem lY{env:Env}{x:Str}:∀{names:List (Str×NameKind)},names.lookup x=none ->
  (names.map λ(n,k)=>if(k==NameKind.free&&env.scope.kind==.function&&env.kindOf n==some .cell)then(n,NameKind.cell)else(n,k)).lookup x=none
 |[],_=>rfl
 | (n,k')::r,h=>by
  show List.lookup x ((if(k'==NameKind.free&&env.scope.kind==.function&&env.kindOf n==some .cell)=true then(n,NameKind.cell)else(n,k'))::_)=_;cases hx:x==n with
  |true=>simp only[List.lookup_cons,hx]at h;cases h
  |false =>
   simp only[List.lookup_cons,hx]at h;have ih:=lY (env:=env) (names:=r) h;split<;>(simp only[List.lookup_cons,hx];exact ih)
section
variable{X:Cx}{pins:List (Addr×Obj)}{σ:St}{H:Hp}{s:Shared}{Nc:List Str}{ix:List (Option Nat)}{scope:Scope}{fp:List Addr}
theorem cS.cells(S:cS X Nc ix scope)(I:Inv X pins σ H s):∀x∈scope.names,x.2=.free->∃c,X.env.cells.lookup x.1=some c:=λx hx hf=>I.ok.has x.1 (S.free x hx hf)
theorem qx(S:cS X Nc ix scope)(I:Inv X pins σ H s){C:Addr}{x:Str}{c:Addr}(e:(cellsFrom (C+1) scope.names (bT X.env scope.names [])).lookup x=some c):
  X.env.cells.lookup x=some c\/(C+1<=c/\(x,NameKind.cell)∈scope.names):=by
 rcases kX _ _ _ e with q|q
 ·exact .inl (bh _ _ (S.cells I) (λ_ z=>by simp at z) q)
 exact .inr q
theorem Ao(S:cS X Nc ix scope)(I:Inv X pins σ H s)(La:∀b∈fp,oR X pins H b)(ho:∀b∈fp,∃o,s.heap.get? b=some o){t':Nat}:
  Inv (sH X Nc scope (s.heap.objs.size+1) fp s H) [] (og ix σ) (upd H s.heap.objs.size (.lst []))
   { s with heap:=pushCells ((s.heap.push { cls:=.type "list",dict:=none,data:=.seq ([]:List Value).toArray }).push { cls:=.type "dict",data:=.dict #[] }) scope.names,toks:=t' }:=by
 have keep:∀b o,s.heap.get? b=some o->(pushCells ((s.heap.push { cls:=.type "list",dict:=none,data:=.seq ([]:List Value).toArray }).push { cls:=.type "dict",data:=.dict #[] }) scope.names).get? b=some o :=
  λb o e=>pushCells_keeps _ _ b o (Heap.get?_push_of_some _ (Heap.get?_push_of_some _ e))
 have hD:(pushCells ((s.heap.push { cls:=.type "list",dict:=none,data:=.seq ([]:List Value).toArray }).push { cls:=.type "dict",data:=.dict #[] }) scope.names).get? s.heap.objs.size =
   some { cls:=.type "list",dict:=none,data:=.seq ([]:List Value).toArray }:=pushCells_keeps _ _ _ _ (Heap.get?_push_of_some _ (Heap.get?_push_size _ rfl))
 have hsz:(s.heap.push { cls:=.type "list",dict:=none,data:=.seq ([]:List Value).toArray }).objs.size=s.heap.objs.size+1:=Heap.size_push ..;have fresh:∀a:Addr,s.heap.objs.size<=a->H a=none:=λa h=>I.aw.fresh h;have Ha:∀x c,X.env.cells.lookup x=some c->c<s.heap.objs.size:=λx c e=>let⟨_,q⟩:=I.cell x c e;q.lt;have Ob:∀x c,(bT X.env scope.names []).lookup x=some c->c<s.heap.objs.size+1+1:=λx c e =>
  Nat.lt_succ_of_lt (Nat.lt_succ_of_lt (Ha x c (bh _ _ (S.cells I) (λ_ z=>by simp at z) e)))
 have Lb:∀x y c,(bT X.env scope.names []).lookup x=some c->(bT X.env scope.names []).lookup y=some c->x=y:=λx y c e1 e2 =>
  I.ok.inj x y c (bh _ _ (S.cells I) (λ_ z=>by simp at z) e1) (bh _ _ (S.cells I) (λ_ z=>by simp at z) e2)
 refine⟨⟨I.ok.mod,S.kind,I.ok.glob,I.ok.blt,Nat.le_succ _,me _ _ _ Ob Lb,λx hx=>?has,λx c hf e=>?FT,I.ok.hd,I.ok.frames,.inl rfl,λb hb=>?HY,I.bs,Nat.le_trans I.ok.Co I.sz,λb o e hb=>?vP,λb hb hs=>?vQ,I.stack,I.xU⟩,
  rfl,I.bare,Un.laid keep (Nat.le_refl _) (fresh _ (Nat.le_refl _)),⟨λ_=>none,?ns,λi x v e1 e2 e3=>?loc⟩,λx c e=>?cell,?free,λx c e=>?i7,λp hp=>absurd (show p∈([]:List (Addr×Obj))from hp) (by simp),I.aw.laid keep (Nat.le_refl _) ?obj,?len⟩
 case has =>
  have hx:(relabel scope X.env).names.lookup x=some .cell\/(relabel scope X.env).names.lookup x=some .free:=hx;show ∃c,(cellsFrom (s.heap.objs.size+1+1) scope.names (bT X.env scope.names [])).lookup x=some c;cases hk:scope.names.lookup x with
  |none =>
   rw[show(relabel scope X.env).names.lookup x=none from lY hk]at hx;rcases hx with z|z<;>cases z
  |some k =>
   have hm:=PySem.mem_of_lookup hk;rw[show(relabel scope X.env).names.lookup x=_ from hW hk]at hx;cases k with
   |cell=>obtain⟨c,e,_⟩:=jw (x:=x) (lo:=0) scope.names (s.heap.objs.size+1+1) (bT X.env scope.names []) (Nat.zero_le _) (.inl hm);exact⟨c,e⟩
   |free =>
    obtain⟨c,e⟩:=hU (env:=X.env) (x:=x) scope.names [] (.inl hm);exact⟨c,by rw[hV _ _ _ (S.once x hm)];exact e⟩
   |_=>rcases hx with z|z<;>simp at z
 case FT =>
  have hm:(x,NameKind.cell)∈scope.names:=List.contains_iff_mem.mp hf;obtain⟨c',e',hc⟩:=jw (x:=x) (lo:=s.heap.objs.size+1+1) scope.names (s.heap.objs.size+1+1) (bT X.env scope.names []) (Nat.le_refl _) (.inl hm);have e2:(cellsFrom (s.heap.objs.size+1+1) scope.names (bT X.env scope.names [])).lookup x=some c:=e;rw[e']at e2;cases e2;exact Nat.le_trans (Nat.le_trans (Nat.le_succ _) (Nat.le_succ _)) hc
 case HY =>
  obtain⟨o,eo⟩:=ho b hb;have bq:=Heap.lt_size eo;refine⟨Nat.ne_of_lt (Nat.lt_succ_of_lt bq),λx c e=>?_⟩;rcases qx S I e with q|⟨q,_⟩
  ·exact(La b hb).2.2.2.2.1 x c q
  exact Nat.ne_of_gt (Nat.lt_of_lt_of_le (Nat.lt_succ_of_lt (Nat.lt_succ_of_lt bq)) q)
 case vP =>
  obtain⟨_,_,_,q,_⟩:=La b hb;rcases q with q|q
  ·exact I.ok.vP b o e q
  exact absurd (Nat.lt_of_lt_of_le (Nat.lt_of_lt_of_le (Heap.lt_size e) I.ok.Co) q) (Nat.lt_irrefl _)
 case vQ =>
  obtain⟨_,q1,q2,_⟩:=La b hb;rcases List.mem_cons.mp (I.vR b hs)with z|z
  ·exact q1 z
  exact q2 z
 case ns =>
  refine Heap.Ns.keeps (h:=(s.heap.push { cls:=.type "list",dict:=none,data:=.seq ([]:List Value).toArray }).push { cls:=.type "dict",data:=.dict #[] }) ?_ (pushCells_keeps _ _);have q:=Heap.Ns.new (s.heap.push { cls:=.type "list",dict:=none,data:=.seq ([]:List Value).toArray }) (.type "dict");rw[hsz]at q;exact q
 case loc =>
  have Ek:(ix.map λo=>o.bind λj=>(σ[j]?).bind id)[i]?=some (some v):=e2;rw[List.getElem?_map]at Ek;cases ei:ix[i]? with
  |none=>rw[ei]at Ek;cases Ek
  |some o =>
   rw[ei]at Ek;cases o with
   |none=>simp at Ek
   |some j =>
    obtain⟨hN,NN⟩:=S.out i j x ei e1;have ej:σ[j]?=some (some v):=by
     cases q:σ[j]? with
     |none=>simp[q]at Ek
     |some y=>simp[q]at Ek;rw[Ek]
    have hm:=PySem.mem_of_lookup NN;have Lc:J7 X.env.scope x:=by
     rcases S.free (x,.free) hm rfl with z|z
     ·exact .inr (.inl z)
     exact .inr (.inr z)
    obtain⟨m0,Qt,Oc⟩:=I.loc;obtain⟨u,r,l⟩:=Oc j x v hN ej Lc;refine⟨u,r,?_⟩;have hk:X.env.kindOf x=some .cell\/X.env.kindOf x=some .free:=S.free (x,.free) hm rfl;rcases l with⟨z,_⟩|⟨_,c,ec,xW⟩
    ·rcases hk with y|y<;>(rw[z]at y;cases y)
    refine .inr ⟨?_,c,?_,xW.keeps keep⟩
    ·show(relabel scope X.env).names.lookup x=_\/(relabel scope X.env).names.lookup x=_;rw[show(relabel scope X.env).names.lookup x=_ from hW NN];split
     ·exact .inl rfl
     exact .inr rfl
    show(cellsFrom (s.heap.objs.size+1+1) scope.names (bT X.env scope.names [])).lookup x=some c;rw[hV _ _ _ (S.once x hm)];obtain⟨c',e'⟩:=hU (env:=X.env) (x:=x) scope.names [] (.inl hm);have q:=bh _ _ (S.cells I) (λ_ z=>by simp at z) e';rw[ec]at q;cases q;exact e'
 case cell =>
  have q:=f9 (x:=x) (c:=c) scope.names ((s.heap.push { cls:=.type "list",dict:=none,data:=.seq ([]:List Value).toArray }).push { cls:=.type "dict",data:=.dict #[] }) (bT X.env scope.names [])
   (λy c' e'=>by obtain⟨v,z⟩:=I.cell y c' (bh _ _ (S.cells I) (λ_ z=>by simp at z) e');exact⟨v,z.keeps λb o e=>Heap.get?_push_of_some _ (Heap.get?_push_of_some _ e)⟩)
  rw[Heap.size_push,hsz]at q;exact q e
 case free =>
  show upd H s.heap.objs.size (.lst []) (s.heap.objs.size+1)=none;rw[aL (Nat.succ_ne_self _)];exact fresh _ (Nat.le_succ _)
 case i7 =>
  rcases qx S I e with q|⟨q,_⟩
  ·rw[aL (Nat.ne_of_lt (Ha x c q))];exact I.i7 x c q
  have h1:s.heap.objs.size<c:=Nat.lt_of_lt_of_le (Nat.lt_succ_of_lt (Nat.lt_succ_self _)) q;rw[aL (Nat.ne_of_gt h1)];exact fresh c (Nat.le_of_lt h1)
 case obj=>exact⟨Nat.zero_le _,[],0,.nil,hD⟩
 case len =>
  show(og ix σ).length=Nc.length;unfold og;rw[List.length_map,S.len]
end
def IU(X:Cx)(ifs:List Expr)(t:TT):Prop :=
 ∀(pins:List (Addr×Obj))(s:Shared)(σ:St)(H:Hp)(Q:Bool->Hp->Prop),Inv X pins σ H s->t σ H Q ->
  wpAny (model X.prog X.w) X.A (forIn ifs true λc r=>if r=true then do let ok <- isTrue c X.env (eval c X.env);pure (ForInStep.yield ok)else pure (ForInStep.yield r)) (TP X pins σ Q) X.xe s
def IV:TT:=λ_ H Q=>Q true H
theorem cg{X:Cx}:IU X [] IV:=λ_ _ _ H _ I h=>wpAny_tests_nil ⟨H,I,h⟩
theorem lZ{X:Cx}{c:Expr}{t:TT}(h:PT X c t):IU X [c] t:=λpins s σ H Q I hw=>wpAny_tests_one (h pins s σ H Q I hw)
def oh(J:It)(g:TG)(tt:TT)(te:TE)(D:Addr)(σ:St)(H:Hp)(Q:VK):Prop:=∃W:Nat->Nat->St->Hp->Prop,(∃m,W 0 m σ H)/\∀i m σ' H',W i m σ' H' ->
 (J.stop i H'/\Q (.ref D) H')\/(J.go i H'/\∀x H2,J.yg i H' x H2->g x σ' H2 λσ3 H3=>tt σ3 H3 λb H4 =>
  if b=true then te σ3 H4 λv H5=>∃xs,H5 D=some (.lst xs)/\xs.length<sizeLine/\∃m',m'<m/\W (i+1) m' σ3 (upd H5 D (.lst (xs++[v])))
  else ∃m',m'<m/\W (i+1) m' σ3 H4)
def NO(wi:TI)(ix:List (Option Nat))(g:TG)(tt:TT)(te:TE):TE:=λσ H Q=>wi σ H λJ H1=>∀D,H1 D=none->oh J g tt te D (og ix σ) (upd H1 D (.lst [])) Q
section
variable{X:Cx}{tg elt iter:Expr}{ifs:List Expr}{scope:Scope}{pos:Pos}{wi:TI}{g:TG}{tt:TT}{te:TE}{Nc:List Str}{ix:List (Option Nat)}
theorem uJ{pins:List (Addr×Obj)}{σ:St}{H:Hp}{s:Shared}{it:Addr}{fp:List Addr}{tn:Nat->Heap->Prop}{J:It}{Q:VK}{R:Value->Addr->Result->Shared->Prop}(hc:X.calm=true)(S:cS X Nc ix scope)(I:Inv X pins σ H s)(T:Turn X.prog X.w X.K tg J fp it tn)(st:tn 0 s.heap)(f:∀b∈fp,oR X pins H b)(hg:PG (sH X Nc scope (s.heap.objs.size+1) fp s H) tg g)(ht:IU (sH X Nc scope (s.heap.objs.size+1) fp s H) ifs tt)(he:PE (sH X Nc scope (s.heap.objs.size+1) fp s H) elt te)(h:∀D,H D=none->∃W:Nat->Nat->St->Hp->Prop,(∃m,W 0 m (og ix σ) (upd H D (.lst [])))/\∀i m σ' H',W i m σ' H' ->
   (J.stop i H'/\Q (.ref D) H')\/(J.go i H'/\∀x H2,J.yg i H' x H2->g x σ' H2 λσ3 H3=>tt σ3 H3 λb H4 =>
    if b=true then te σ3 H4 λv H5=>∃xs,H5 D=some (.lst xs)/\xs.length<sizeLine/\∃m',m'<m/\W (i+1) m' σ3 (upd H5 D (.lst (xs++[v])))
    else ∃m',m'<m/\W (i+1) m' σ3 H4))(hR:∀σ' H' s',Inv (sH X Nc scope (s.heap.objs.size+1) fp s H) [] σ' H' s'->(∀b∈fp,H' b=none)->Q (.ref s.heap.objs.size) H'->R (.ref s.heap.objs.size) (s.heap.objs.size+1) (.ok .next) s'):
  wpAny (model X.prog X.w) X.A (newList []) (λacc s₃=>wpAny (model X.prog X.w) X.A (newFunctionEnv scope X.env.globals (bT X.env scope.names []) [] X.env.qual none .none (some X.env)) (λIW s₄ =>
   codeAny (model X.prog X.w) X.A (.compStart (.ListComp elt [⟨tg,iter,ifs,0⟩] scope pos) 0 (.ref it) acc { IW with scope:=relabel scope X.env }) (R acc IW.locals) s₄) X.xe s₃) X.xe s:=by
 obtain⟨W,⟨m0,w0⟩,turn⟩:=h s.heap.objs.size (I.aw.fresh (Nat.le_refl _));refine wpAny_newObj_type (uI ?_);have I4:=Ao (t':=s.toks) S I f (λb hb=>let⟨o,e,_⟩:=T.obj _ _ st b hb;⟨o,e⟩);have hsz:(s.heap.push { cls:=.type "list",dict:=none,data:=.seq ([]:List Value).toArray }).objs.size=s.heap.objs.size+1:=Heap.size_push ..;dsimp only;rw[hsz];have xq:tn 0 (pushCells ((s.heap.push { cls:=.type "list",dict:=none,data:=.seq ([]:List Value).toArray }).push { cls:=.type "dict",data:=.dict #[] }) scope.names) :=
  T.keep _ _ _ st λb _ o e=>pushCells_keeps _ _ b o (Heap.get?_push_of_some _ (Heap.get?_push_of_some _ e))
 have Od:∀b∈fp,upd H s.heap.objs.size (.lst []) b=none:=λb hb=>by obtain⟨o,e,_⟩:=T.obj _ _ st b hb;rw[aL (Nat.ne_of_lt (Heap.lt_size e))];exact(f b hb).1
 have vW:∀{H':Hp},(∀b∈fp,H' b=none)->∀b∈fp,oR (sH X Nc scope (s.heap.objs.size+1) fp s H) [] H' b:=λ{H'} hn b hb=>by obtain⟨q1,q2⟩:=I4.ok.HY b hb;exact⟨hn b hb,q1,I4.ok.vQ b hb,.inl hb,q2,λp hp=>absurd (show p∈([]:List (Addr×Obj))from hp) (by simp)⟩
 have loop:codeAny (model X.prog X.w) X.A (.compLoop (.ListComp elt [⟨tg,iter,ifs,0⟩] scope pos) 0 (.ref it) (.ref s.heap.objs.size) (sH X Nc scope (s.heap.objs.size+1) fp s H).env)
   (R (.ref s.heap.objs.size) (s.heap.objs.size+1))
   { s with heap:=pushCells ((s.heap.push { cls:=.type "list",dict:=none,data:=.seq ([]:List Value).toArray }).push { cls:=.type "dict",data:=.dict #[] }) scope.names }:=by
  refine sG (λn s'=>∃i σ' H',Inv (sH X Nc scope (s.heap.objs.size+1) fp s H) [] σ' H' s'/\tn i s'.heap/\(∀b∈fp,H' b=none)/\W i n σ' H') ?_ m0 ⟨0,_,_,I4,xq,Od,w0⟩;rintro n s5 ⟨i,σ5,H5,I5,G8,Hm,w5⟩;rcases turn i n σ5 H5 w5 with⟨stop,qn⟩|⟨go,step⟩
  ·refine az (T.done (sH X Nc scope (s.heap.objs.size+1) fp s H) rfl rfl rfl hc i [] s5 σ5 H5 _ I5 (vW Hm) G8 stop) λr s6 ⟨hr,I6⟩=>?_;subst hr;exact hR σ5 H5 s6 I6 Hm qn
  refine az (T.item (sH X Nc scope (s.heap.objs.size+1) fp s H) rfl rfl rfl hc i [] s5 σ5 H5 _ I5 (vW Hm) G8 go) λr s6 ⟨u,hr,h6⟩=>?_;subst hr;refine az h6 λ_ s7 ⟨x,H7,I7,r7,y7,Ld,Oe⟩=>?_;have Of:=I7.pinned (vW Oe) (T.obj _ _ Ld);refine az (hg _ s7 σ5 H7 x u _ Of r7 (step x H7 y7)) λ_ s8 ⟨σ8,H8,I8,q8⟩=>?_;refine az (ht _ s8 σ8 H8 _ I8 q8) λb s9 ⟨H9,I9,q9⟩=>?_;have again:∀{s':Shared}{σ':St}{H':Hp},Inv (sH X Nc scope (s.heap.objs.size+1) fp s H) ([]++oT fp s7.heap) σ' H' s'->tn (i+1) s'.heap/\∀b∈fp,H' b=none:=λ{s' σ' H'} I'=>by refine⟨T.keep _ _ _ Ld λb hb o e=>(I'.pin (b,o) (List.mem_append_right _ (List.mem_append_right _ (hJ hb e)))).1,λb hb=>?_⟩;obtain⟨o,e,d⟩:=T.obj _ _ Ld b hb;exact(I'.pin (b,o) (List.mem_append_right _ (List.mem_append_right _ (hJ hb e)))).2.1
  cases b with
  |false =>
   rw[if_neg Bool.false_ne_true]at q9 ⊢;obtain⟨m',hm,w9⟩:=q9;obtain⟨a1,a2⟩:=again I9;exact⟨m',hm,i+1,σ8,H9,I9.jE,a1,a2,w9⟩
  |true =>
   rw[if_pos rfl]at q9 ⊢;refine az (he _ s9 σ8 H9 _ I9 q9) λv Fy ⟨x',IX,Og,Oh,xs,eD,bq,m',hm,Oi⟩=>?_;refine az (dE (X:=sH X Nc scope (s.heap.objs.size+1) fp s H) _ Fy σ8 IX (.ref s.heap.objs.size) [x'] (.ref s.heap.objs.size) [v] (λ_ H'=>H'=upd IX s.heap.objs.size (.lst (xs++[x']))) Og rfl (.cons Oh .nil)
    ⟨_,xs,x',rfl,rfl,eD,bq,rfl⟩) λ_ Qu ⟨_,Qv,NP,_,Oj⟩=>?_
   subst Oj;obtain⟨a1,a2⟩:=again NP;exact⟨m',hm,i+1,σ8,_,NP.jE,a1,a2,Oi⟩
 exact codeAny_compStart_list loop (T.self X.A 0 _ _ _ xq loop)
theorem comp_back{pins:List (Addr×Obj)}{σ σ':St}{H H':Hp}{s s':Shared}{fp:List Addr}(I:Inv X pins σ H s)(f:∀b∈fp,oR X pins H b)(J:Inv (sH X Nc scope (s.heap.objs.size+1) fp s H) [] σ' H' s'):Inv X pins σ H' s' :=
 I.Hb (ch:=fp) J.os J.base J.aw J.bare λb hb=>let⟨_,q1,_,q3,q4,q5⟩:=f b hb;⟨q3,q1,q4,q5⟩
theorem Inv.El{pins:List (Addr×Obj)}{σ:St}{H:Hp}{s:Shared}{C:Addr}{h':Heap}(I:Inv X pins σ H s)(f:oR X pins H C)(hs:Heap.SameBut C s.heap h'):Inv X pins σ H { s with heap:=h' } :=
 I.turned (t':=s.toks) (it:=C) (λb o hb e=>(hs.2 b hb).trans e) f.1 f.2.1 f.2.2.2.1 f.2.2.2.2.1 f.2.2.2.2.2
theorem i9(hc:X.calm=true)(S:cS X Nc ix scope)(hi:PI X tg iter wi)(hb:∀(C:Addr)(fp:List Addr)(s:Shared)(H:Hp),PG (sH X Nc scope C fp s H) tg g/\IU (sH X Nc scope C fp s H) ifs tt/\PE (sH X Nc scope C fp s H) elt te)(hs:∀x,foldedSetIterable iter X.env x=pure x:=by intro _;rfl):PE X (.ListComp elt [⟨tg,iter,ifs,0⟩] scope pos) (NO wi ix g tt te):=by intro pins s σ H Q I h;rw[eval_ListComp];refine wpAny_comprehension_free (use:=none) rfl hs (oZ (S.cells I)) S.kind S.loc (az (hi pins s σ H _ I h) λv s1 h1=>az h1 λKC s2 h2=>?_);obtain⟨it,fp,tn,J,H2,e,I2,T,qE,f2,q2⟩:=h2;subst e;obtain⟨hg,ht,he⟩:=hb (s2.heap.objs.size+1) fp s2 H2;refine uJ (R:=λacc C=>compPost (model X.prog X.w) X.A X.xe none (EP X pins σ Q) acc C) hc S I2 T qE f2 hg ht he q2 λσ' H' s' J' Ol q'=>?_;obtain⟨m,hn,_⟩:=J'.loc;refine⟨m,hn,λh' Le=>⟨.ref _,H',?_,rfl,q'⟩⟩;exact(comp_back I2 f2 J').El (I2.rm (Nat.le_succ _) J'.free) Le
theorem lb{i:Nat}{y:Str}{py IY:Pos}(hN:X.N.Nodup)(hy:X.N[i]?=some y)(hl:Loc X.env.scope y)(hc:X.calm=true)(S:cS X Nc ix scope)(hi:PI X tg iter wi)(hb:∀(C:Addr)(fp:List Addr)(s:Shared)(H:Hp),PG (sH X Nc scope C fp s H) tg g/\IU (sH X Nc scope C fp s H) ifs tt/\PE (sH X Nc scope C fp s H) elt te)(Om:swapsWith (.ListComp elt [⟨tg,iter,ifs,0⟩] scope pos) (some (.Name y py)) IY.line X.env=pure true:=by rfl)(hs:∀x,foldedSetIterable iter X.env x=pure x:=by intro _;rfl)(hf:X.fn y=true\/X.env.scope.names.lookup y=some .local:=by first|exact .inl rfl|exact .inr rfl|assumption):
  PS X (.Assign [.Name y py] (.ListComp elt [⟨tg,iter,ifs,0⟩] scope pos) IY) (Fb (NO wi ix g tt te) (kC i)):=by
 intro pins s σ H D I h;rw[exec_Assign_Name_used _ _ _ _ Om];refine wpAny_bind (wpAny_standAt (wpAny_bind ?_));show wpAny _ X.A (do let _ <- comprehension (.ListComp elt [⟨tg,iter,ifs,0⟩] scope pos) scope X.env _ (newList []) false (eval iter X.env) (some (assign (.Name y py) X.env))) _ _ s
 refine wpAny_bind (wpAny_mono (wpAny_comprehension_free (use:=some (assign (.Name y py) X.env)) (Q:=λ_ s'=>SP X pins D .next s') rfl hs (oZ (S.cells I)) S.kind S.loc
  (az (hi pins s σ H _ I h) λv s1 h1=>az h1 λKC s2 h2=>?_)) (λ_ s' hq=>wpAny_pure (wpAny_pure hq)) λ_ _ e=>e)
 obtain⟨it,fp,tn,J,H2,e,I2,T,qE,f2,q2⟩:=h2;subst e;obtain⟨hg,ht,he⟩:=hb (s2.heap.objs.size+1) fp s2 H2;refine uJ (Q:=λx H1=>kC i x σ H1 D.nx) (R:=λacc C=>compPost (model X.prog X.w) X.A X.xe (some (assign (.Name y py) X.env)) (λ_ s'=>SP X pins D .next s') acc C) hc S I2 T qE f2 hg ht he q2 λσ' H' s' J' Ol q'=>?_;obtain⟨m,hn,_⟩:=J'.loc;have I3:=comp_back I2 f2 J';have fC:=I2.rm (Nat.le_succ _) J'.free;show wpAny _ X.A (assign (.Name y py) X.env (.ref s2.heap.objs.size)) _ _ s';refine wpAny_assign_Name (qi (v:=.ref s2.heap.objs.size) I3 hN hy hl rfl (λs4 I4 ⟨a,Oo,ha⟩=>?_) hf);have Oq:s2.heap.objs.size+1≠a:=by
  rcases ha with z|z
  ·rw[z];exact fC.2.1
  exact Ne.symm (fC.2.2.2.2.1 y a z)
 refine⟨m,hn.sameBut Oo Oq,λh' Le=>⟨_,H',I4.El fC Le,q'⟩⟩
end
structure Fz(P:Program)(w:World)(outer:List Env)(H:Hp)(s:Shared)(a C:Addr)(a0:Value)(B:Heap)(H':Hp)(s':Shared):Prop where
 os:s'.os=s.os
 bare:AllBare s'.gens
 un:Un (yd outer) [] H H' s.heap s'.heap
 aw:kQ P w H' s'.heap
 Qw:Heap.FlyingW B outer a (.ref C) a0 s'.heap
 Qx:∀b o,s.heap.get? b=some o->b∉yd outer->∃o',B.get? b=some o'
 HX:∀b u,H' b=some u->∃o',B.get? b=some o'
def qI(P:Program)(w:World):vg:=λouter H s E e s'=>∃(a C:Addr)(a0:Value)(B:Heap)(H':Hp),e=.ref a/\Fz P w outer H s a C a0 B H' s'/\E (.ref C) none H'
section
variable{X:Cx}{E:XK}{pins:List (Addr×Obj)}{σ:St}{H:Hp}{s:Shared}
end
def ExcAt(a C:Addr)(h:Heap):Prop:=∃oe vs,h.get? a=some oe/\oe.cls=.ref C/\oe.data=.fields vs
theorem sI{K:PySem.W.Frag}{M:Model}{h:Heap}{C:Addr}(KX:K.In h)(z0:(PySem.W.clsIn K C).isSome=true):PySem.W.Looks M h (isType (.ref C)) true:=by
 unfold PySem.W.clsIn at z0;split at z0
 ·rename_i c' d' Ot K3 ho;intro A' Q' E' s' k q;unfold isType loadHead;exact wpAny_bind (wpAny_loadPart (k _ _ (KX _ _ ho)) (wpAny_pure q))
 cases z0
section
variable{X:Cx}{E:XK}{pins:List (Addr×Obj)}{σ:St}{H:Hp}{s:Shared}{a:Addr}
end
structure kY(K:PySem.W.Frag)(C:Addr):Prop where
 ga:PySem.W.findIn K (.ref C) "__getattribute__"=some (some (.builtin "BaseException.__getattribute__"))
 Ou:PySem.W.findIn K (.ref C) "__getattr__"=some none
 at_:PySem.W.findIn K (.ref C) "__class__"=some (some (.builtin "object.__class__"))
 cls:(PySem.W.clsIn K C).isSome=true
 obj:PySem.W.mroIn K C (.type "object")=some true
 base:PySem.W.subIn K (.ref C) (.type "BaseException")=some true
section
variable{prog:Program}{w:World}{A:Around}{E:Value->Shared->Prop}{h:Heap}{g:Array GenState}{d:Drawn}{t:Nat}{os:OsState}{K:PySem.W.Frag}{a C:Addr}
theorem ExcAt.type{M:Model}(x:ExcAt a C h):PySem.W.Looks M h (typeOf (.ref a)) (.ref C):=by obtain⟨oe,vs,he,hc,hd⟩:=x;exact hc▸(PySem.W.Looks.ld he).andThen .now
open PySem.W Builtin Builtin.ObjectAttr Builtin.Getset_descriptor in
theorem qJ{R:Result->Shared->Prop}{tp:Value}(KX:K.In h)(x:ExcAt a C h)(c:kY K C)(hq:R (.ok (.ret (.ref C))) ⟨h,g,d,t,os⟩):
  codeAny (model prog w) A (.call (.builtin "getset_descriptor.__get__") ⟨[.builtin "object.__class__",.ref a,tp],[]⟩) R ⟨h,g,d,t,os⟩:=by
 have L0:=x.type (M:=model prog w);have L1:=looks_mroIn (M:=model prog w) KX c.obj;refine codeAny_call_builtin KF.slot_gs.plain KF.entry_gs (KF.slot_gs.check _ _ _ _ _ _ _ _ KF.type_class (KF.args_gs _ _ _) ?_);unfold Builtin.«getset_descriptor.__get__» descrGet;rw[dga_obj];refine wpAny_bind (wpAny_pure ?_);unfold descrGetter descrCheckInstance descrNameAndClass isInstance;simp only[KF.owner_class]
 repeat lk
 refine⟨Code.quiet_builtin _ (by decide +kernel),codeAny_builtin KF.entry_class ?_⟩;unfold Builtin.«object.__class__» shownTypeOf
 repeat lk
 exact hq
open PySem.W in
theorem y8{M:Model}{Em:Value}{Q:Unit->Shared->Prop}(KX:K.In h)(x:ExcAt a C h)(c:kY K C)(hq:Q () ⟨h,g,d,t,os⟩):
  wpAny M A (checkBuiltinCall "BaseException.__getattribute__" ⟨[.ref a,Em],[]⟩) Q E ⟨h,g,d,t,os⟩:=by
 have hk:builtinKind "BaseException.__getattribute__"=some .slot:=by decide +kernel
 have F0:splitId "BaseException.__getattribute__"=some ("BaseException","__getattribute__"):=by decide +kernel
 have ha:=PySem.F.args_bexc_ga (.ref a) Em;have L0:=x.type (M:=M);have L1:=looks_subIn (M:=M) KX c.base;simp only[checkBuiltinCall,hk,F0];refine wpAny_bind ?_;unfold isInstance;refine wpAny_bind (L0.at ?_);refine L1.at ?_
 repeat (first|assumption|wp_step)
open PySem.W in
theorem y9{tk:Tok}{Q:Fin->Shared->Prop}(KX:K.In h)(x:ExcAt a C h)(c:kY K C)(hq:Q (.done (.ret (.ref C))) ⟨h,g,d,t,os⟩):
  wpAny (model prog w) A (Builtin.«object.__getattribute__» ⟨[.ref a,.str "__class__" tk],[]⟩) Q E ⟨h,g,d,t,os⟩:=by
 have Qy:(⟨h,g,d,t,os⟩:Shared).TypeIs (.builtin "object.__class__") "getset_descriptor":=PySem.F.typeOf_object_class;have f5:=PySem.F.typeOf_object_class;have f6:=PySem.F.slot_gs_get.lookup;have f7:=PySem.F.slot_gs_set.lookup;have L0:=x.type (M:=model prog w);have L1:=looks_findIn (M:=model prog w) KX c.at_
 repeat (any_goals (first|assumption|with_reducible refine L0.at ?_|with_reducible refine L1.at ?_|wp_step))
 refine qJ KX x c ?_
 repeat (any_goals (first|assumption|wp_step))
open PySem.W in
theorem Ap{Q:Option Value->Shared->Prop}(KX:K.In h)(x:ExcAt a C h)(c:kY K C)(hq:Q (some (.ref C)) ⟨h,g,d,t+1,os⟩):
  wpAny (model prog w) A (getAttr? (.ref a) "__class__") Q E ⟨h,g,d,t,os⟩:=by
 have f3:=PySem.F.excAttr_ValueError.ga.bind (.ref a);have L0:=x.type (M:=model prog w);have L1:=looks_findIn (M:=model prog w) KX c.ga;have L2:=looks_findIn (M:=model prog w) KX c.Ou;have NQ:(Value.builtin "BaseException.__getattribute__"==Value.builtin "object.__getattribute__")=false:=by decide +kernel
 have NR:(onTheHeap (Value.ref C)&&Value.builtin "BaseException.__getattribute__"==Value.builtin "object.__getattribute__")=false:=by rw[NQ];rfl
 unfold getAttr? getAttrBy? getAttrBy
 repeat (any_goals (first|assumption|with_reducible refine L0.at ?_|with_reducible refine L1.at ?_|with_reducible refine L2.at ?_|wp_step))
 refine codeAny_call_builtin PySem.F.excAttr_ValueError.ga.plain PySem.F.entry_bexc_ga (y8 KX x c (y9 KX x c ?_))
 repeat (any_goals (first|assumption|wp_step))
open PySem.W in
theorem Aq(c:kY K C):KitX K (.ref a) (.ref C) (ExcAt a C)where
 ty:=λ_ _ _ x=>x.type
 it:=λ_ _ KX _=>sI KX c.cls
 ne:=λh tp dd aS n sl KX qK=>by
  refine Bool.eq_false_iff.mpr λq=>?_;have e:C=tp:=Value.ref.inj (beq_iff_eq.mp q);subst e;have z:=c.cls;unfold PySem.W.clsIn at z;split at z
  ·rename_i c' d' Ot K3 ho;have z:=(KX _ _ ho).symm.trans qK;cases z
  cases z
 ca:=λ{prog w A E Q s} KX x k=>by obtain⟨h,g,d,t,os⟩:=s;exact Ap KX x c k
end
theorem PS.rj{X:Cx}{st:Stmt}{t:TS}(h:PS X.rj st t):PS X st t:=λpins s σ H D I hw =>
 wpAny_mono (h pins s σ H D (I.qD _) hw) (λ_ _ q=>q.jD) λ_ _ z=>False.elim z
theorem aq{X:Cx}:jG (qI X.prog X.w) X E0:=λ_ _ _ _ _ _ _ h=>by obtain⟨_,_,_,_,_,_,_,q⟩:=h;exact q.elim
structure Def(P:Program)(w:World)(K:PySem.W.Frag)(mg:Str->Option Value)(base:Heap)(k:Nat)(x:Str)(ps:List Str)(sp:Sp):Prop where
 ex:∃(f:Addr)(fd:FuncData),cf P w K mg base (qI P w) k f fd ps sp/\mg x=some (.ref f)/\PySem.W.keepIn K (.ref f)=true/\Binds K fd ps []
section
variable{P:Program}{w:World}{K:PySem.W.Frag}{mg:Str->Option Value}{base:Heap}
theorem Def.mono{j k:Nat}{x:Str}{ps:List Str}{sp:Sp}(D:Def P w K mg base j x ps sp)(h:j<=k):Def P w K mg base k x ps sp:=let⟨f,fd,a,r⟩:=D.ex;⟨f,fd,a.mono h,r⟩
structure aM(K:PySem.W.Frag)(mg:Str->Option Value)(x:Str)(st:Stmt):Prop where
 ex:∃(f:Addr)(fd:FuncData),qH K x x st f fd/\mg x=some (.ref f)
theorem aM.mk'{h:Heap}{x:Str}{st:Stmt}{f:Addr}{oc:Value}{od an:Option Addr}{yw:Array (Option Value)}{kV doc pm bf ct:Value}(KX:K.In h)(G:h.Ns mainGlobals mg)(a:PySem.W.nsIn K mainGlobals x=some (some (.ref f)))(l:K.lookup f=some ⟨oc,od,.func (PySem.W.fnOf x x (bz st) (bN st) (aH st) .none kV doc pm an bf ct),yw⟩)(c:PySem.W.codeIn K bf x=true)(k:PySem.W.keepIn K (.ref f)=true):aM K mg x st:=⟨f,_,kU l c k,PySem.W.mg_of KX G a⟩
abbrev Lf(P:Program)(w:World)(K:PySem.W.Frag)(mg:Str->Option Value)(base:Heap)(N:List Str)(x:Str)(st:Stmt)(f:Addr)(bf:Value)(A:Around)(outer:List Env)(s:Shared)(H:Hp)(E:XK):Cx :=
 yu (qI P w) P w K mg base N x (aH st) f bf A outer s H E
theorem aM.def{x:Str}{st:Stmt}{N ps:List Str}{k:Nat}{sp:Sp}(F:aM K mg x st)(S:aV N ps (aH st))(hb:∀(kV doc pm:Value)(an:Option Addr)(bf ct:Value)(us:List Value),us.length=ps.length->bindArgs (PySem.W.fnOf x x (bz st) (bN st) (aH st) .none kV doc pm an bf ct) ⟨us,[]⟩=pure (ps.zip us))(len:∀vs H Q E,sp vs H Q E->vs.length=ps.length)(oY:∀(f:Addr)(bf:Value)(A:Around)(outer:List Env)(s:Shared)(H:Hp)(vs:List V)(Q:VK)(E:XK),cX k (A.deeper (envOfC x (aH st) s.heap.objs.size f bf))->sp vs H Q E ->
   ∃t,AI (Lf P w K mg base N x st f bf A outer s H E) (bN st) t/\t { nx:=λ_ H'=>Q .bS H',rt:=Q } (start N vs) H):Def P w K mg base (k+1) x ps sp:=by
 obtain⟨f,fd,F1,hm⟩:=F.ex;have b:=F1.binds hb;have kp:=F1.kp;obtain⟨oc,od,kV,doc,pm,an,bf,ct,yw,rfl,lk,tT⟩:=F1.ex;exact⟨f,_,Af lk tT S len λA outer s H vs Q E hr AJ=>oY f bf A outer s H vs Q E hr AJ,hm,kp,b⟩
end
section
variable{X:Cx}{k:Nat}{ps:List Str}{sp:Sp}{E:XK}{x:Str}{p pos:Pos}{e:Expr}{es:List Expr}{t:TA}
theorem aa(D:Def X.prog X.w X.K X.mg X.base k x ps sp)(hr:cX k X.A)(hx:jG (qI X.prog X.w) X E)(ha:PA X (e::es) t)(hg:Gl X x:=by rfl)(Cy:(x==("__debug__":Str))=false:=by decide)(he:starEach (e::es) X.env=(false,eval e X.env)::starEach es X.env:=by rfl)(vK:(backTo pos (starEach es X.env)).any (·.1)=false:=by rfl):
  PE X (.Call (.Name x p) (e::es) [] pos) (Ei sp [] E t):=by
 obtain⟨f,fd,F,hm,hk,hb⟩:=D.ex;exact Cw F hr hg hm hk hb .nil hx ha Cy he vK
end
section
variable{X:Cx}
def En(K:PySem.W.Frag):R2:=λx y H Q=>∃l b xs zs,x=.ref l/\y=.ref b/\af K H l xs/\af K H b zs/\xs.length+zs.length<=sizeLine/\∀p,H p=none->Q (.ref p) (upd H p (.lst (xs++zs)))
theorem C9:jF X (binaryOp .Add) (En X.K):=by
 intro pins s σ H x y v u Q I rx ry h;obtain⟨l,b,xs,zs,rfl,rfl,hH,hB,hz,q⟩:=h;cases rx;cases ry;obtain⟨aS,r,pl,_⟩:=I.list hH;obtain⟨mZ,r2,Ov,_⟩:=I.list hB;obtain⟨⟨cls,dd,data,sl⟩,ho,hc,n,hd⟩:=id pl.isList;obtain⟨⟨Fn,Cf,data2,vj⟩,yx,Ag,n2,hd2⟩:=id Ov.isList;simp only at hc hd Ag hd2;subst hc hd Ag hd2;have e:aS.toArray++mZ.toArray=(aS++mZ).toArray:=by simp
 have hsz:aS.toArray.size+mZ.toArray.size<=sizeLine:=by rw[List.size_toArray,List.size_toArray,<-r.length,<-r2.length];exact hz
 refine concat_meets ⟨_,ho,rfl⟩ ⟨_,yx,rfl⟩ noFill_list_add seq_list_add PySem.F.slot_list_add PySem.F.entry_list_add (PySem.F.args_list_add_2 _ _) (list_addW l b aS.toArray mZ.toArray n n2 dd Cf sl vj hsz) ⟨ho,yx,?_⟩;rw[e];exact⟨.ref _,_,I.IL (t':=s.toks) (r.append r2) (by rw[List.length_append];exact hz),rfl,q _ I.fresh⟩
def IZ:V->Value->Prop
 |.ty n,c=>c=.type n
 |.ref a,c=>c=.ref a
 |_,_=>False
theorem Ar{v:V}{c u:Value}(h:IZ v c)(r:RelV v u):u=c:=by
 cases v with
 |ty n=>exact(show u=Value.type n from r).trans (show c=Value.type n from h).symm
 |ref a=>exact(show u=Value.ref a from r).trans (show c=Value.ref a from h).symm
 |_=>exact h.elim
inductive Lg(K:PySem.W.Frag)(H:Hp):V->Value->Prop where
 |of{x:V} {t:Value}:mY K H x t->Lg K H x t
 |exc {a C:Addr}:H a=some (.ext (ExcAt a C))->kY K C->Lg K H (.ref a) (.ref C)
def Ia(K:PySem.W.Frag):List V->Hp->VK->Prop:=λxs H Q=>∃x y t c b,xs=[x,y]/\IZ y c/\Lg K H x t/\PySem.W.kitOne K t c=some b/\Q (.bl b) H
theorem As:dC X (.builtin "isinstance") (Ia X.K):=by
 intro pins s σ H vs us Q I rv h;obtain⟨x,y,t,c,b,rfl,hc,ty,e,q⟩:=h;obtain⟨u,v,rfl,ru,md⟩:=rv.two;obtain rfl:=Ar hc md;cases ty with
 |of ty=>exact yt I ru ty e λtk=>⟨.bl b,H,I.tok _,rfl,q⟩
 |exc ex ec =>
  cases ru;exact PySem.W.kia_one (Aq ec) I.mV (I.aw _ _ ex).1 e (λz=>nomatch z) λtk=>⟨.bl b,H,I.tok _,rfl,q⟩
end
theorem Au{X:Cx}(K:PySem.W.Frag){e1 e2:Expr}{t:TA}{p pos:Pos}(hm:X.mg "isinstance"=none)(ha:PA X [e1,e2] t)(hK:X.K=K:=by rfl)(hg:Gl X "isinstance":=by rfl)(he:starEach [e1,e2] X.env=(false,eval e1 X.env)::starEach [e2] X.env:=by rfl)(vK:(backTo pos (starEach [e2] X.env)).any (·.1)=false:=by rfl):
  PE X (.Call (.Name "isinstance" p) [e1,e2] [] pos) (KG (Ia K) t):=by
 subst hK;exact aZ As hg hm boot_isinstance ha (by decide) (by decide) he vK
def qy(K:PySem.W.Frag):Sp:=λvs H Q _=>∃(a:Addr)(ns:List Int),vs=[.ref a]/\af K H a (ns.map V.int)/\ns.length<=63/\∀H',Q (.bl true) H'
section
variable{P:Program}{w:World}{K:PySem.W.Frag}{mg:Str->Option Value}{base:Heap}
theorem qH.Ow{x:Str}{st:Stmt}{f:Addr}{fd:FuncData}{N ps:List Str}{k:Nat}{sp:Sp}(F:qH K x x st f fd)(S:aV N ps (aH st))(len:∀vs H Q E,sp vs H Q E->vs.length=ps.length)(oY:∀(f:Addr)(bf:Value)(A:Around)(outer:List Env)(s:Shared)(H:Hp)(vs:List V)(Q:VK)(E:XK),cX k (A.deeper (envOfC x (aH st) s.heap.objs.size f bf))->sp vs H Q E ->
   ∃t,AI (Lf P w K mg base N x st f bf A outer s H E) (bN st) t/\t { nx:=λ_ H'=>Q .bS H',rt:=Q } (start N vs) H):cf P w K mg base (qI P w) (k+1) f fd ps sp:=by
 obtain⟨oc,od,kV,doc,pm,an,bf,ct,yw,rfl,lk,tT⟩:=F.ex;exact Af lk tT S len λA outer s H vs Q E hr AJ=>oY f bf A outer s H vs Q E hr AJ
theorem Av{st:Stmt}{fa:Addr}{k:Nat}(S:aM K mg "law" st)(hb:∀(kV doc pm:Value)(an:Option Addr)(bf ct:Value)(us:List Value),us.length=1->bindArgs (PySem.W.fnOf "law" "law" (bz st) (bN st) (aH st) .none kV doc pm an bf ct) ⟨us,[]⟩=pure ((["script"]:List Str).zip us))(Fv:mg "law"=some (.ref fa))(hF:∀(f:Addr)(fd:FuncData)(base:Heap),qH K "law" "law" st f fd->cf P w K mg base (qI P w) k f fd ["script"] (qy K)):
  ∃fd:FuncData,(∀(s:Shared)(u:Value),BindsTo s fd ⟨[u],[]⟩ [("script",u)])/\∀base:Heap,K.In base->base.Ns mainGlobals mg->cf P w K mg base (qI P w) k fa fd ["script"] (qy K):=by
 obtain⟨f,fd,F,hm⟩:=S.ex;rw[Fv]at hm;cases hm;refine⟨fd,?_,λbase _ _=>hF fa fd base F⟩;obtain⟨oc,od,kV,doc,pm,an,bf,ct,yw,rfl,lk,tT⟩:=F.ex;exact λs u=>.of_eq (hb kV doc pm an bf ct [u] rfl)
end
theorem Aw{l:PySem.W.OpenLaw}{k:Nat}{q:Program}{loose:List Str}{XP:(Str->Option Value)->Heap->Prop}{YP:World->Heap->Prop}{d:DefRec}{K:Params->PySem.W.Frag}(hr:cX k callerA)(hn:l.most=some 63)(IP:d.params.defaults=[])(hY:∀(w:World)(h:Heap),YP w h->(K w.params).In h)(F:∀(w:World)(mg:Str->Option Value)(fa:Addr)(h:Heap),(K w.params).In h->h.Ns mainGlobals mg->mg d.name=some (.ref fa) ->
   ∃fd:FuncData,(∀(s:Shared)(u:Value),BindsTo s fd ⟨[u],[]⟩ [("script",u)]) /\
    ∀base:Heap,(K w.params).In base->base.Ns mainGlobals mg->cf l.prog w (K w.params) mg base (qI l.prog w) k fa fd ["script"] (qy (K w.params))):
  PySem.W.WalkO q loose XP YP l.row.toRowW d [] (λf vs=>PySem.call f vs) :=
 C8 (n:=63) (k:=k) (x:="script") (CX:=λw=>qI l.prog w) (sp:=λw=>qy (K w.params)) hn (by decide) IP hr hY F (λ_ _ a ns hl _ hS=>⟨a,ns,rfl,hS,hl,λ_=>rfl⟩)
  λ_ _ _ _ _ h=>by obtain⟨_,_,_,_,_,_,_,q⟩:=h;exact q.elim
theorem jx{X:Cx}{x:Str}{n:Int}{pos:Pos}(h:∃tk,X.mg x=some (.int n tk))(hg:Gl X x:=by rfl)(hd:(x==("__debug__":Str))=false:=by decide):PE X (.Name x pos) (tC (.int n)):=by obtain⟨tk,e⟩:=h;exact Cp hg e ⟨tk,rfl⟩ hd
theorem dR{p A B:Prop}[Decidable p](hp:¬p)(h:B):if decide p=true then A else B:=by rw[decide_eq_false hp];exact c8 h
theorem dS{p A B:Prop}[Decidable p](hp:p)(h:A):if decide p=true then A else B:=by rw[decide_eq_true hp];exact gh h
theorem nR{p A B:Prop}[Decidable p](hp:p)(h:B):if(!decide p)=true then A else B:=by rw[decide_eq_true hp];exact c8 h
theorem qz{p A B:Prop}[Decidable p](hp:¬p)(h:A):if(!decide p)=true then A else B:=by rw[decide_eq_false hp];exact gh h
theorem DA{n:Int}(h:-(10 ^ 60)<=n)(h2:n<=10 ^ 60):n.natAbs<2 ^ 1000:=by
 have:n.natAbs<=10 ^ 60:=by lia
 exact Nat.lt_of_le_of_lt this (by decide)
theorem aI.put{H H':Hp}{p:Addr}{o:HO}(s:aI H H')(hp:H p=none):aI H (upd H' p o):=λb u e=>by rw[aL (ag e hp)];exact s b u e
theorem aI.new{H H':Hp}{p:Addr}{o:HO}(s:aI H H')(hp:H' p=none):aI H (upd H' p o):=s.put (s.free hp)
theorem all_true(n:Nat):(List.range n).all (λ_=>true)=true:=by simp
section
variable{X:Cx}{pins:List (Addr×Obj)}{σ:St}{H:Hp}{s:Shared}
theorem jI{xs:List V}{aS:List Value}(r:aX xs aS)(j:Nat)(h:j<aS.toArray.size):∃x,xs[j]?=some x/\RelV x aS.toArray[j]:=by
 have hj:j<aS.length:=by simpa using h
 have hl:=r.length;have hx:xs[j]?=some xs[j]:=by simp[show j<xs.length by lia]
 obtain⟨u,hu,ru⟩:=r.get hx;refine⟨_,hx,?_⟩;have e:aS.toArray[j]=u:=by
  have:=hu;rw[List.getElem?_eq_getElem hj]at this
  simpa using Option.some.inj this
 rw[e];exact ru
end
section
variable{X:Cx}
theorem df{A:Around}{k:Nat}(hr:cX k A):A.units+16<cLine:=by have:=hr.un;lia
end
def xr(Nc:List Str)(ix:List (Option Nat))(scope sc:Scope)(N:List Str):Bool :=
 decide (scope.kind=.function)&&decide Nc.Nodup&&decide (ix.length=Nc.length) &&
 (scope.names.all λx=>decide (x.2=.local->scope.names.lookup x.1=some .local)) &&
 (scope.names.all λx=>decide (x.2=.free->sc.names.lookup x.1=some .cell\/sc.names.lookup x.1=some .free)) &&
 (scope.names.all λx=>decide (x.2=.free->(x.1,NameKind.cell)∉scope.names)) &&
 ((ix.zip Nc).all λp=>match p.1 with|none=>true|some j=>decide (N[j]?=some p.2/\scope.names.lookup p.2=some .free))
theorem cJ{X:Cx}{Nc:List Str}{ix:List (Option Nat)}{scope:Scope}(sc:Scope)(N:List Str)(Ib:X.env.scope=sc)(hN:X.N=N)(h:xr Nc ix scope sc N=true):cS X Nc ix scope:=by
 subst Ib hN;simp only[xr,Bool.and_eq_true,decide_eq_true_eq,List.all_eq_true]at h;obtain⟨⟨⟨⟨⟨⟨h1,h2⟩,h3⟩,h4⟩,h5⟩,h6⟩,h7⟩:=h;refine⟨h1,h2,h3,h4,h5,λx hx=>h6 _ hx rfl,λi j x e1 e2=>?_⟩;have hm:(some j,x)∈ix.zip Nc:=by refine List.mem_iff_getElem?.mpr ⟨i,?_⟩;rw[List.getElem?_zip_eq_some];exact⟨e1,e2⟩
 have:=h7 _ hm
 simpa using this
section
variable{K:PySem.W.Frag}{g:TG}{tt:TT}{te:TE}{D:Addr}{σ:St}{H:Hp}{Q:VK}
theorem hX{a:Addr}{xs:List V}(Pv:Nat->St->Hp->Prop)(h0:Pv 0 σ H)(hl:∀i σ H,i<=xs.length->Pv i σ H->af K H a xs)(hs:∀(i:Nat)(x:V)(σ:St)(H:Hp)(N:St->Hp->Prop),(∀σ H,Pv (i+1) σ H->N σ H)->xs[i]?=some x->Pv i σ H->g x σ H λσ3 H3=>tt σ3 H3 λb H4 =>
   if b=true then te σ3 H4 λv H5=>∃ys,H5 D=some (.lst ys)/\ys.length<sizeLine/\N σ3 (upd H5 D (.lst (ys++[v])))else N σ3 H4)(hd:∀σ H,Pv xs.length σ H->Q (.ref D) H):
  oh (G6 K a) g tt te D σ H Q:=by
 refine⟨λi m σ H=>m=xs.length-i/\i<=xs.length/\Pv i σ H,⟨xs.length,by simp,Nat.zero_le _,h0⟩,?_⟩;rintro i m σ' H' ⟨rfl,hi,p⟩;have q:=hl i σ' H' hi p;by_cases bq:i<xs.length
 ·refine .inr ⟨⟨xs,xs[i],q,by simp[bq]⟩,λx H2 y=>?_⟩;obtain⟨e,y⟩:=y;subst e;exact hs i x σ' _ (λσ3 H3=>∃m',m'<xs.length-i/\m'=xs.length-(i+1)/\i+1<=xs.length/\Pv (i+1) σ3 H3) (λσ3 H3 z=>⟨xs.length-(i+1),by lia,rfl,bq,z⟩) (y xs q) p
 have e:i=xs.length:=by lia
 subst e;exact .inl ⟨⟨xs,q,Nat.le_refl _⟩,hd σ' H' p⟩
theorem oi{lo:Int}{n:Nat}(Pv:Nat->St->Hp->Prop)(h0:Pv 0 σ H)(hs:∀(i:Nat)(σ:St)(H:Hp)(N:St->Hp->Prop),(∀σ H,Pv (i+1) σ H->N σ H)->i<n->Pv i σ H->g (.int (lo+i)) σ H λσ3 H3=>tt σ3 H3 λb H4 =>
   if b=true then te σ3 H4 λv H5=>∃ys,H5 D=some (.lst ys)/\ys.length<sizeLine/\N σ3 (upd H5 D (.lst (ys++[v])))else N σ3 H4)(hd:∀σ H,Pv n σ H->Q (.ref D) H):
  oh (Ef lo n) g tt te D σ H Q:=by
 refine⟨λi m σ H=>m=n-i/\i<=n/\Pv i σ H,⟨n,by simp,Nat.zero_le _,h0⟩,?_⟩;rintro i m σ' H' ⟨rfl,hi,p⟩;by_cases bq:i<n
 ·refine .inr ⟨bq,λx H2 y=>?_⟩;obtain⟨e,y⟩:=y;subst e y;exact hs i σ' _ (λσ3 H3=>∃m',m'<n-i/\m'=n-(i+1)/\i+1<=n/\Pv (i+1) σ3 H3) (λσ3 H3 z=>⟨n-(i+1),by lia,rfl,bq,z⟩) bq p
 have e:i=n:=by lia
 subst e;exact .inl ⟨Nat.le_refl _,hd σ' H' p⟩
end
theorem fe{ns:List Int}{i:Nat}{y:V}(h:(ns.map V.int)[i]?=some y):∃z,ns[i]?=some z/\y=V.int z:=by
 rw[List.getElem?_map]at h;cases e:ns[i]? with
 |none=>rw[e]at h;cases h
 |some z=>rw[e]at h;exact⟨z,rfl,(Option.some.inj h).symm⟩
theorem take_succ{α:Type}{l:List α}{i:Nat}{x:α}(h:l[i]?=some x):l.take (i+1)=l.take i++[x]:=by rw[List.take_succ,h];rfl
theorem ck{i:Nat}{x:V}{σ:St}{H:Hp}{A B:St->Hp->Prop}(h:A (σ.set i (some x)) H):kC i x σ H λσ3 H3=>IV σ3 H3 λb H4=>if b=true then A σ3 H4 else B σ3 H4:=by show if true=true then A (σ.set i (some x)) H else B (σ.set i (some x)) H;exact gh h
section
variable{X:Cx}{pins:List (Addr×Obj)}{σ:St}{H:Hp}{s:Shared}{h':Heap}
end
section
variable{X:Cx}
theorem F2{i j:Nat}{x y:Str}{px py pos:Pos}{k:Nat}(hc:X.calm=true)(hN:X.N.Nodup)(hi:X.N[i]?=some x)(hj:X.N[j]?=some y)(lx:Loc X.env.scope x)(ly:Loc X.env.scope y)(fx:X.fn x=true\/X.env.scope.names.lookup x=some .local:=by first|exact .inl rfl|exact .inr rfl)(fy:X.fn y=true\/X.env.scope.names.lookup y=some .local:=by first|exact .inl rfl|exact .inr rfl)(hs:(assignEach [.Name x px,.Name y py] X.env).map (·.2)=[assign (.Name x px) X.env,assign (.Name y py) X.env]:=by rfl)(yk:(assignEach [.Name y py] X.env).map (·.2)=[assign (.Name y py) X.env]:=by rfl)(Lh:(assignEach [] X.env).map (·.2)=[]:=by rfl)(hn:(assignEach [.Name x px,.Name y py] X.env).length=2:=by rfl)(xX:(assignEach [.Name x px,.Name y py] X.env).findIdx? (·.1)=none:=by rfl):
  PG X (.Tuple [.Name x px,.Name y py] k pos) (Cq X.K 2 (tj (kC i) (tj (kC j) FZ))) :=
 hE hc (aU (aK hN hi lx fx) (aU (aK hN hj ly fy) dM (by rw[yk,Lh])) (by rw[hs,yk])) hn xX
end
section
variable{K:PySem.W.Frag}{g:TG}{tt:TT}{te:TE}{D:Addr}{σ:St}{H:Hp}{Q:VK}
end
section
variable{X:Cx}
end
section
variable{K:PySem.W.Frag}{g:TG}{tt:TT}{te:TE}{D:Addr}{σ:St}{H:Hp}{Q:VK}
end
theorem Ax(ns:List Int)(lo hi:Option Int):∃as:List Int,n5 (ns.map V.int) lo hi=as.map V.int/\(∀a∈as,a∈ns)/\as.length<=ns.length:=by
 refine⟨(ns.drop (HT.qr (ns.map V.int).length 0 lo)).take (HT.qr (ns.map V.int).length (ns.map V.int).length hi-HT.qr (ns.map V.int).length 0 lo),?_,λa ha=>List.mem_of_mem_drop (List.mem_of_mem_take ha),?_⟩
 ·unfold n5;rw[List.map_take,List.map_drop]
 rw[List.length_take,List.length_drop];lia
end L2
namespace L2
open PySem PySem.Spec PyProof.Rows
def Li(t:TS):TS:=λD σ H=>∃R:St->Hp->Prop,t { D with nx:=R } σ H/\∀σ' H',R σ' H'->D.nx σ' H'
theorem vq{X:Cx}{st:Stmt}{t:TS}(h:PS X st t):PS X st (Li t):=by
 intro pins s σ H D I ⟨R,h1,h2⟩;refine wpAny_mono (h pins s σ H { D with nx:=R } I h1) (λf s' q=>?_) λ_ _ z=>z
 cases f with
 |next=>obtain⟨σ',H',I',q⟩:=q;exact⟨σ',H',I',h2 σ' H' q⟩
 |brk=>exact q
 |cont=>exact q
 |ret u=>exact q
section
variable{X:Cx}(K:PySem.W.Frag)
theorem aN(hK:X.K=K:=by rfl):IF X (IG K):=by subst hK;exact C5
theorem aT(hK:X.K=K:=by rfl):IF X (IH K):=by subst hK;exact Fo
theorem lg(hK:X.K=K:=by rfl):LQ X (II K):=by subst hK;exact C6
theorem bW(hK:X.K=K:=by rfl):dC X (.builtin "len") (λxs H Q=>∃p ys,xs=[.ref p]/\(af K H p ys\/ar K H p ys)/\Q (.int ys.length) H):=by subst hK;exact sF
theorem oG(hK:X.K=K:=by rfl):jF X (binaryOp .Add) (En K):=by subst hK;exact C9
theorem bC{tg l:Expr}{tl:TE}(hl:PE X l tl)(hK:X.K=K:=by rfl):PI X tg l (Eg K tl):=by subst hK;exact Cr hl
theorem lh{i j:Nat}{x y:Str}{px py pos:Pos}{k:Nat}(hc:X.calm=true)(hN:X.N.Nodup)(hi:X.N[i]?=some x)(hj:X.N[j]?=some y)(lx:Loc X.env.scope x)(ly:Loc X.env.scope y)(hK:X.K=K:=by rfl)(fx:X.fn x=true\/X.env.scope.names.lookup x=some .local:=by first|exact .inl rfl|exact .inr rfl)(fy:X.fn y=true\/X.env.scope.names.lookup y=some .local:=by first|exact .inl rfl|exact .inr rfl)(hs:(assignEach [.Name x px,.Name y py] X.env).map (·.2)=[assign (.Name x px) X.env,assign (.Name y py) X.env]:=by rfl)(yk:(assignEach [.Name y py] X.env).map (·.2)=[assign (.Name y py) X.env]:=by rfl)(Lh:(assignEach [] X.env).map (·.2)=[]:=by rfl)(hn:(assignEach [.Name x px,.Name y py] X.env).length=2:=by rfl)(xX:(assignEach [.Name x px,.Name y py] X.env).findIdx? (·.1)=none:=by rfl):
  PG X (.Tuple [.Name x px,.Name y py] k pos) (Cq K 2 (tj (kC i) (tj (kC j) FZ))):=by
 subst hK;exact F2 hc hN hi hj lx ly fx fy hs yk Lh hn xX
theorem kZ{o e:Expr}{es:List Expr}{to:TE}{t:TA}{name:Str}{apos cY:Pos}{T id:String}{r:V->List V->Hp->VK->Prop}(pa:PlainAttrs T)(slot:Slot T name id)(LR:typeOf (.builtin id)=pure (.type "method_descriptor"))(hm:NH X id r)(ho:PE X o to)(ha:PA X (e::es) t)(hK:X.K=K:=by rfl)(Ai:attributeBase o name X.env (eval o X.env)=eval o X.env:=by rfl)(Fq:((backTo cY (starEach (e::es) X.env)).all (λx=>!x.1)&&(backToKw cY (keywordEach [] X.env)).all (λx=>x.1.isSome)
   && decide ((e::es).length+([]:List Keyword).length+(if([]:List Keyword).isEmpty then 0 else 1)<30))=true:=by rfl)(Aj:(apos.endLine==cY.line)=true:=by rfl)(hs:starEach (e::es) X.env=(false,eval e X.env)::starEach es X.env:=by rfl)(vo:(backTo cY (starEach es X.env)).any (·.1)=false:=by rfl):
  PE X (.Call (.Attribute o name apos) (e::es) [] cY) (NJ K T r to t):=by subst hK;exact IJ pa slot LR hm ho ha Ai Fq Aj hs vo
end
section
variable{X:Cx}
end
theorem turn_if{i:Nat}{x:V}{σ:St}{H:Hp}{tt:TT}{A B:St->Hp->Prop}(h:tt (σ.set i (some x)) H λb H4=>if b=true then A (σ.set i (some x)) H4 else B (σ.set i (some x)) H4):kC i x σ H λσ3 H3=>tt σ3 H3 λb H4=>if b=true then A σ3 H4 else B σ3 H4:=h
section
variable{prog:Program}{w:World}{A:Around}{E:Value->Shared->Prop}{s:Shared}
end
section
variable{prog:Program}{w:World}{A:Around}{E:Value->Shared->Prop}{s:Shared}
end
section
variable{X:Cx}
end
section
variable{K:PySem.W.Frag}{g:TG}{tt:TT}{te:TE}{D:Addr}{σ:St}{H:Hp}{Q:VK}
end
section
variable{K:PySem.W.Frag}{g:TG}{tt:TT}{te:TE}{D:Addr}{σ:St}{H:Hp}{Q:VK}
end
section
variable{P:Program}{w:World}{K:PySem.W.Frag}{mg:Str->Option Value}{base:Heap}
def Lj:Sp:=λ_ _ _ _=>False
theorem aM.no{x:Str}{st:Stmt}{N ps:List Str}(F:aM K mg x st)(S:aV N ps (aH st))(hb:∀(kV doc pm:Value)(an:Option Addr)(bf ct:Value)(us:List Value),us.length=ps.length->bindArgs (PySem.W.fnOf x x (bz st) (bN st) (aH st) .none kV doc pm an bf ct) ⟨us,[]⟩=pure (ps.zip us)):Def P w K mg base 1 x ps Lj :=
 F.def S hb (λ_ _ _ _ h=>h.elim) λ_ _ _ _ _ _ _ _ _ _ h=>h.elim
end
theorem aI.tup{K:PySem.W.Frag}{H H':Hp}{a:Addr}{xs:List V}(e:aI H H')(h:ar K H a xs):ar K H' a xs:=by
 rcases h with(h|⟨o,h⟩)|h
 ·exact .inl (.inl (e _ _ h))
 ·exact .inl (.inr ⟨o,e _ _ h⟩)
 exact .inr h
theorem rA{X:Cx}{st:Stmt}:PS X st (λ_ _ _=>False):=λ_ _ _ _ _ _ h=>h.elim
theorem Ic{X:Cx}{e:Expr}:PE X e (λ_ _ _=>False):=λ_ _ _ _ _ _ h=>h.elim
section
variable{prog:Program}{w:World}{A:Around}{E:Value->Shared->Prop}{s:Shared}
end
section
variable{X:Cx}
def Ie(K:PySem.W.Frag):R2:=λx y H Q=>∃a b xs ys,x=.ref a/\y=.ref b/\ar K H a xs/\ar K H b ys/\xs.length+ys.length<=sizeLine/\∀r H',aI H H'->ar K H' r (xs++ys)->Q (.ref r) H'
theorem DB(K:PySem.W.Frag)(hK:X.K=K:=by rfl):jF X (binaryOp .Add) (Ie K):=by
 subst hK;intro pins s σ H x y v u Q I rx ry h;obtain⟨a,b,xs,ys,rfl,rfl,hx,hy,hz,q⟩:=h;by_cases he:xs=[]
 ·subst he;cases rx;cases ry;obtain⟨aS,r,ht,_⟩:=I.tuple hx;obtain⟨mZ,r2,Eo,_⟩:=I.tuple hy;cases r;obtain⟨⟨cls,dd,data,sl⟩,ho,hc,n,hd⟩:=id ht;obtain⟨⟨Fn,Cf,data2,vj⟩,yx,Ag,n2,hd2⟩:=id Eo;simp only at hc hd Ag hd2;subst hc hd Ag hd2;refine concat_meets ⟨_,ho,rfl⟩ ⟨_,yx,rfl⟩ PySem.noFill_tuple_add PySem.seq_tuple_add PySem.F.slot_tuple_add PySem.F.entry_tuple_add (PySem.F.args_tuple_add_2 _ _) (tuple_addW0 a b _ mZ.toArray n n2 dd Cf sl vj (by simp)) ⟨ho,yx,?_⟩;exact⟨.ref b,H,I,rfl,q b H (aI.refl _) hy⟩
 refine C2 pins s σ H (.ref a) (.ref b) v u Q I rx ry ⟨a,b,xs,ys,rfl,rfl,hx,hy,he,hz,?_⟩;by_cases hw:ys=[]
 ·subst hw
  first
   |exact⟨λ_=>q a H (aI.refl _) (by rw[List.append_nil];exact hx),λz=>absurd rfl z⟩
   |exact .inl ⟨rfl,q a H (aI.refl _) (by rw[List.append_nil];exact hx)⟩
 first
  |exact⟨λz=>absurd z hw,λ_ p hp=>q p _ ((aI.refl _).new hp) (ar.of aB)⟩
  |exact .inr ⟨hw,λp hp=>q p _ ((aI.refl _).new hp) (ar.of aB)⟩
end
inductive uK(K:PySem.W.Frag)(H:Hp):Nat->V->V->Prop where
 |flat {n:Nat} (x:V):i8 x=true->uK K H n x x
 |same {n:Nat} (a:Addr):uK K H n (.ref a) (.ref a)
 |lst {n:Nat} {a b:Addr} {xs ys:List V} (ha:af K H a xs) (hb:af K H b ys) (hl:xs.length=ys.length) (h:∀(j:Nat)(x y:V),xs[j]?=some x->ys[j]?=some y->uK K H n x y):uK K H (n+1) (.ref a) (.ref b)
 |tup {n:Nat} {a b:Addr} {xs ys:List V} (ha:ar K H a xs) (hb:ar K H b ys) (hl:xs.length=ys.length) (h:∀(j:Nat)(x y:V),xs[j]?=some x->ys[j]?=some y->uK K H n x y):uK K H (n+1) (.ref a) (.ref b)
theorem Ay:∀(x:V),i8 x=true->vk x x=true
 |.bS,_=>rfl
 |.bl b,_=>by simp[vk]
 |.int i,_=>by simp[vk]
 |.str z,_=>by simp[vk]
 |.ref _,h=>absurd h (by intro z;cases z)
 |.ty _,h=>absurd h (by intro z;cases z)
section
variable{X:Cx}{pins:List (Addr×Obj)}{σ:St}{H:Hp}{s:Shared}
theorem DC(I:Inv X pins σ H s){n:Nat}{x y:V}(h:uK X.K H n x y):∀{A:Around}{u v:Value},A.units+n<cLine->RelV x u->RelV y v->SeqAt.EqAt A s u v true:=by
 induction h with
 |flat x fx=>intro A u v _ ru rv;have:=vm (A:=A) (s:=s) ru rv fx fx;rwa [Ay x fx]at this
 |same a=>intro A u v _ ru rv;cases ru;cases rv;exact SeqAt.EqAt.same _
 |@lst n a b xs ys ha hb hl h ih =>
  intro A u v hu ru rv;cases ru;cases rv;by_cases zA:a=b
  ·subst zA;exact SeqAt.EqAt.same _
  obtain⟨aS,r1,p1,_⟩:=I.list ha;obtain⟨mZ,r2,p2,_⟩:=I.list hb;have l1:=r1.length;have l2:=r2.length;refine SeqAt.EqAt.of_refs zA ?_;have q:=SeqAt.RcAt.lists (A:=A) (s:=s) (e:=λ_=>true) p1.isList p2.isList (by simp;lia) (by lia) λj h1 h2=>?_
  ·rw[all_true]at q;exact q
  obtain⟨x,hx,rx⟩:=jI r1 j h1;obtain⟨y,hy,ry⟩:=jI r2 j h2;exact ih j x y hx hy (A:=A.in1) (by show A.units+1+n<cLine;lia) rx ry
 |@tup n a b xs ys ha hb hl h ih =>
  intro A u v hu ru rv;cases ru;cases rv;by_cases zA:a=b
  ·subst zA;exact SeqAt.EqAt.same _
  obtain⟨aS,r1,p1,_⟩:=I.tuple ha;obtain⟨mZ,r2,p2,_⟩:=I.tuple hb;have l1:=r1.length;have l2:=r2.length;refine SeqAt.EqAt.of_refs zA ?_;have q:=SeqAt.RcAt.tuples (A:=A) (s:=s) (e:=λ_=>true) (show s.heap.IsTuple a aS.toArray from p1) (show s.heap.IsTuple b mZ.toArray from p2) (by lia) λj h1 h2=>?_
  ·rw[all_true,Bool.true_and,show(aS.toArray.size==mZ.toArray.size)=true by simp;lia]at q;exact q
  obtain⟨x,hx,rx⟩:=jI r1 j h1;obtain⟨y,hy,ry⟩:=jI r2 j h2;exact ih j x y hx hy (A:=A.in1) (by show A.units+1+n<cLine;lia) rx ry
end
section
variable{X:Cx}
def Lk(K:PySem.W.Frag)(neg:Bool):R2:=λx y H Q=>∃a b xs ys,x=.ref a/\y=.ref b/\af K H a xs/\af K H b ys /\
 ((xs.length=ys.length/\(∀(j:Nat)(u v:V),xs[j]?=some u->ys[j]?=some v->uK K H 8 u v)/\Q (.bl (!neg)) H)\/(xs.length≠ys.length/\Q (.bl neg) H))
theorem xt(K:PySem.W.Frag)(hu:X.A.units+16<cLine)(hK:X.K=K:=by rfl):jF X (compareOp .Eq) (Lk K false):=by
 subst hK;intro pins s σ H x y v u Q I rx ry h;obtain⟨a,b,xs,ys,rfl,rfl,ha,hb,h⟩:=h;cases rx;cases ry;obtain⟨aS,r1,p1,_⟩:=I.list ha;obtain⟨mZ,r2,p2,_⟩:=I.list hb;have l1:=r1.length;have l2:=r2.length;rcases h with⟨hl,he,q⟩|⟨hl,q⟩
 ·refine SeqAt.eq_listAt (e:=λ_=>true) p1.isList p2.isList (by simp;lia) (by lia) (λj h1 h2=>?_) ?_
  ·obtain⟨x,hx,rx⟩:=jI r1 j h1;obtain⟨y,hy,ry⟩:=jI r2 j h2;exact DC I (he j x y hx hy) (A:=X.A.in1) (by show X.A.units+1+8<cLine;lia) rx ry
  rw[all_true];exact⟨.bl true,H,I,rfl,q⟩
 refine SeqAt.eq_list_lengthsAt p1.isList p2.isList (by simp;lia) (by lia) ?_;exact⟨.bl false,H,I,rfl,q⟩
theorem oH(K:PySem.W.Frag){tg l:Expr}{tl:TE}(hl:PE X l tl)(hK:X.K=K:=by rfl):PI X tg l (Hj K tl):=by subst hK;exact Fd hl
theorem dU(K:PySem.W.Frag)(hK:X.K=K:=by rfl):dC X (.type "tuple") (λxs H Q=>∃p ys,xs=[.ref p]/\((af K H p ys/\∀l,H l=none->Q (.ref l) (upd H l (.tup ys)))\/(ar K H p ys/\Q (.ref p) H))):=by subst hK;exact qG
end
section
variable{K:PySem.W.Frag}{g:TG}{tt:TT}{te:TE}{D:Addr}{σ:St}{H:Hp}{Q:VK}
theorem Az{a:Addr}{xs:List V}(Pv:Nat->St->Hp->Prop)(h0:Pv 0 σ H)(hl:∀i σ H,i<=xs.length->Pv i σ H->ar K H a xs)(hs:∀(i:Nat)(x:V)(σ:St)(H:Hp)(N:St->Hp->Prop),(∀σ H,Pv (i+1) σ H->N σ H)->xs[i]?=some x->Pv i σ H->g x σ H λσ3 H3=>tt σ3 H3 λb H4 =>
   if b=true then te σ3 H4 λv H5=>∃ys,H5 D=some (.lst ys)/\ys.length<sizeLine/\N σ3 (upd H5 D (.lst (ys++[v])))else N σ3 H4)(hd:∀σ H,Pv xs.length σ H->Q (.ref D) H):oh (G7 K a) g tt te D σ H Q:=by
 refine⟨λi m σ H=>m=xs.length-i/\i<=xs.length/\Pv i σ H,⟨xs.length,by simp,Nat.zero_le _,h0⟩,?_⟩;rintro i m σ' H' ⟨rfl,hi,p⟩;have q:=hl i σ' H' hi p;by_cases bq:i<xs.length
 ·refine .inr ⟨⟨xs,xs[i],q,by simp[bq]⟩,λx H2 y=>?_⟩;obtain⟨e,y⟩:=y;subst e;exact hs i x σ' _ (λσ3 H3=>∃m',m'<xs.length-i/\m'=xs.length-(i+1)/\i+1<=xs.length/\Pv (i+1) σ3 H3) (λσ3 H3 z=>⟨xs.length-(i+1),by lia,rfl,bq,z⟩) (y xs q) p
 have e:i=xs.length:=by lia
 subst e;exact .inl ⟨⟨xs,q,Nat.le_refl _⟩,hd σ' H' p⟩
end
theorem rB:∀{ns:List Int}{aS:List Value},aX (ns.map V.int) aS->∃ps:List (Int×Tok),aS=ps.map (λq=>Value.int q.1 q.2)/\ps.map (·.1)=ns
 |[],_,.nil=>⟨[],rfl,rfl⟩
 |n::ns,_,.cons r rr=>by obtain⟨t,rfl⟩:=r;obtain⟨ps,rfl,e⟩:=rB rr;exact⟨(n,t)::ps,rfl,by rw[List.map_cons,e]⟩
section
variable{X:Cx}
theorem zB(hc:X.calm=true):dC X (.builtin "min") (λxs H Q=>∃(p:Addr)(ns:List Int),xs=[.ref p]/\af X.K H p (ns.map V.int)/\ns≠[]/\∀M,M∈ns->(∀a∈ns,M<=a)->Q (.int M) H):=by
 intro pins s σ H xs us Q I r h;obtain⟨p,ns,rfl,hq,Ig,q⟩:=h;obtain⟨u,rfl,rx⟩:=vals1 r;cases rx;obtain⟨aS,r1,p1,_⟩:=I.list hq;obtain⟨ps,rfl,Ll⟩:=rB r1;have hh:X.A.handled=none:=I.ok.hd hc;have hsz:0<ps.length:=by
  rcases ps with _|⟨a,b⟩
  ·exact absurd Ll.symm Ig
  simp
 refine min_intList (xs:=ps.toArray) hh (by simpa[intItems]using p1.isList) (by simpa using hsz) λv h' tk hv hk=>?_;obtain⟨t,rfl⟩:=intItems_at hv;obtain⟨h1,h2⟩:=argBest_lt (numAt ps.toArray) (ps.toArray.size-1);refine⟨.int _,H,I.kept (t':=tk) hk,⟨t,rfl⟩,q _ ?_ λa ha=>?_⟩
 ·rw[<-Ll,numAt_eq];exact getD_mem (by simp at h1 ⊢;lia)
 rw[<-Ll]at ha;obtain⟨j,hj,rfl⟩:=mem_getD ha;rw[List.length_map]at hj;have:=h2 j (by simp;lia);rw[numAt_eq,numAt_eq]at this;rw[numAt_eq];exact this
def Lm(K:PySem.W.Frag):List V->Hp->VK->Prop:=λxs H Q=>∃(p:Addr)(ns:List Int),xs=[.ref p]/\af K H p (ns.map V.int)/\ns≠[]/\∀M,M∈ns->(∀a∈ns,M<=a)->Q (.int M) H
theorem zC(K:PySem.W.Frag)(hc:X.calm=true:=by rfl)(hK:X.K=K:=by rfl):dC X (.builtin "min") (Lm K):=by subst hK;exact zB hc
end
section
variable(P:Program)(w:World)
end
section
variable{P:Program}{w:World}{H H':Hp}{h h':Heap}{a:Addr}{o:HO}
end
section
variable{P:Program}{w:World}{H:Hp}{h h':Heap}{x e:Addr}{o':HO}
end
section
variable{fs K0 ex OL:List Addr}{H H1 H2:Hp}{h h1 h2 h':Heap}{a x e:Addr}{o:HO}
end
section
variable{X:Cx}{pins:List (Addr×Obj)}{σ:List (Option V)}{H H':Hp}{s:Shared}{h':Heap}
end
section
variable{X:Cx}
variable{a b:Expr}{ta tb:TE}{pos:Pos}
variable{tA Hd:TT}{rest:List Expr}
end
section
variable{X:Cx}{pins:List (Addr×Obj)}{σ:St}{H:Hp}{s:Shared}{a:Addr}{xs ys:List V}
end
section
variable{X:Cx}{pins:List (Addr×Obj)}{σ:St}{H:Hp}{s:Shared}{E:Value->Shared->Prop}
end
section
variable{X:Cx}{st:Stmt}{rest:List Stmt}{t u:TS}{e:Expr}{te:TE}{pos:Pos}
end
section
variable{X:Cx}{pos:Pos}
end
section
variable{X:Cx}{pos:Pos}
end
section
variable{X:Cx}{tg:Expr}
end
section
variable{X:Cx}{a b c:Expr}{ta tb tc:TE}{pos:Pos}
end
section
variable{X:Cx}{a b c:Expr}{ta tb tc:TE}{pos:Pos}
end
section
variable{prog:Program}{w:World}{A:Around}{E:Value->Shared->Prop}{s:Shared}{K:PySem.W.Frag}{x dx C f:Addr}{mA:Str->Option Value}{name:Str}{v:Value}
end
section
variable{P:Program}{w:World}{H H':Hp}{h h':Heap}{a C dx:Addr}{fs K0:List (Str×V)}
end
section
variable{X:Cx}{pins:List (Addr×Obj)}{σ:St}{H:Hp}{s:Shared}{a C dx:Addr}{fs:List (Str×V)}{f:Str}{v:V}{A:Around}{E:Value->Shared->Prop}
end
section
variable{X:Cx}{o e value:Expr}{f:Str}{pos pos' Hw:Pos}{ta tv:TE}
end
section
variable{X:Cx}{pins:List (Addr×Obj)}{σ:St}{H:Hp}{s:Shared}{A:Around}{E:Value->Shared->Prop}{Q:Value->Shared->Prop}{c:Value}{b:Bool}
end
section
variable{X:Cx}{e:Expr}{es:List Expr}{te:TE}{t:TA}{pos:Pos}
end
section
variable{X:Cx}{pins:List (Addr×Obj)}{σ:St}{H:Hp}{s s':Shared}
end
section
variable{X:Cx}{CX:vg}{k:Nat}{f C:Addr}{fd:FuncData}{ps:List Str}{sp:Sp}{qB:List V}{ds:List Value}{E:XK}{x m:Str}{p pos apos:Pos}{e o:Expr}{es:List Expr}{ta:TE}{t:TA}
end
section
variable{X:Cx}{CX:vg}{k:Nat}{f C:Addr}{fd:FuncData}{ps ks:List Str}{sp:Sp}{E:XK}{x m:Str}{p pos apos LO:Pos}{e o:Expr}{es:List Expr}{OV:List Keyword}{te ta:TE}{t tk:TA}{nm:Option Str}
variable{g:List Value->List Value->List Value}{gV:List V->List V->List V}
end
section
variable{X:Cx}{x:Str}{p pos:Pos}{e:Expr}{es:List Expr}{t:TA}{id T:String}{r:List V->Hp->VK->Prop}
end
section
variable{κ:Type}[DecidableEq κ]
def dg(kvs:List (κ×V))(k:κ):Option V:=(kvs.find? λkv=>decide (kv.1=k)).map (·.2)
def putK(kvs:List (κ×V))(k:κ)(v:V):List (κ×V) :=
 if(kvs.any λkv=>decide (kv.1=k))=true then kvs.map (λkv=>if kv.1=k then(kv.1,v)else kv)else kvs++[(k,v)]
def oj(kvs:List (κ×V))(k:κ):List (κ×V):=kvs.filter λkv=>decide (kv.1≠k)
theorem om{p:κ×V}{r:List (κ×V)}{k:κ}(e:p.1=k):dg (p::r) k=some p.2:=by simp[dg,List.find?_cons,e]
theorem oo{p:κ×V}{r:List (κ×V)}{k:κ}(e:¬p.1=k):dg (p::r) k=dg r k:=by simp[dg,List.find?_cons,e]
theorem uL(k:κ):∀kvs:List (κ×V),(kvs.any λkv=>decide (kv.1=k))=(dg kvs k).isSome
 |[]=>rfl
 |p::r=>by
  rw[List.any_cons];by_cases e:p.1=k
  ·simp only[om e,decide_eq_true e,Bool.true_or,Option.isSome_some]
  rw[oo e,decide_eq_false e,Bool.false_or];exact uL k r
theorem jJ(kvs:List (κ×V))(k:κ)(v:V):(putK kvs k v).length<=kvs.length+1:=by
 unfold putK;split
 ·rw[List.length_map];lia
 rw[List.length_append,List.length_cons,List.length_nil];lia
theorem eZ.dF{o:Option V}{u:Option Value}(r:eZ o u):o.isSome=u.isSome:=by
 cases o with
 |none=>cases u with
  |none=>rfl
  |some _=>exact(show False from r).elim
 |some _=>cases u with
  |none=>exact(show False from r).elim
  |some _=>rfl
theorem eZ.getD{o:Option V}{u:Option Value}{d:V}{d':Value}(r:eZ o u)(rd:RelV d d'):RelV (o.getD d) (u.getD d'):=by
 cases o with
 |none=>cases u with
  |none=>exact rd
  |some _=>exact(show False from r).elim
 |some _=>cases u with
  |none=>exact(show False from r).elim
  |some _=>exact r
theorem KV.val{kvs:List (κ×V)}{vs:List (κ×Value)}(r:KV kvs vs)(k:κ):eZ (dg kvs k) (valueAt vs k):=by
 unfold KV at r
 induction r with
 |nil=>exact True.intro
 |@cons p q ps qs h t ih =>
  obtain⟨h1,h2⟩:=h;by_cases e:p.1=k
  ·have e':q.1=k:=h1.symm.trans e;have b:valueAt (q::qs) k=some q.2:=(by simp[valueAt,List.find?_cons,e']);rw[om e,b];exact h2
  have e':¬q.1=k:=λz=>e (h1.trans z);have b:valueAt (q::qs) k=valueAt qs k:=by simp[valueAt,List.find?_cons,e']
  rw[oo e,b];exact ih
theorem KV.any{kvs:List (κ×V)}{vs:List (κ×Value)}(r:KV kvs vs)(k:κ):(kvs.any λkv=>decide (kv.1=k))=vs.any λkv=>decide (kv.1=k):=by
 unfold KV at r
 induction r with
 |nil=>rfl
 |cons h t ih=>rw[List.any_cons,List.any_cons,ih,h.1]
theorem KV.A0{kvs:List (κ×V)}{vs:List (κ×Value)}(r:KV kvs vs)(k:κ){y:V}{u:Value}(ry:RelV y u):
  KV (kvs.map λkv=>if kv.1=k then(kv.1,y)else kv) (vs.map λkv=>if kv.1=k then(kv.1,u)else kv):=by
 unfold KV at r ⊢
 induction r with
 |nil=>exact .nil
 |@cons p q ps qs h t ih =>
  rw[List.map_cons,List.map_cons];refine .cons ?_ ih;obtain⟨h1,h2⟩:=h;by_cases e:p.1=k
  ·rw[if_pos e,if_pos (h1.symm.trans e)];exact⟨h1,ry⟩
  rw[if_neg e,if_neg (λz=>e (h1.trans z))];exact⟨h1,h2⟩
theorem KV.put{kvs:List (κ×V)}{vs:List (κ×Value)}(r:KV kvs vs)(k:κ){y:V}{u:Value}(ry:RelV y u):KV (putK kvs k y) (stored vs k u):=by
 unfold putK stored;rw[r.any k];by_cases e:(vs.any λkv=>decide (kv.1=k))=true
 ·rw[if_pos e,if_pos e];exact r.A0 k ry
 rw[if_neg e,if_neg e];exact Paired.snoc r ⟨rfl,ry⟩
theorem KV.drop{kvs:List (κ×V)}{vs:List (κ×Value)}(r:KV kvs vs)(k:κ):KV (oj kvs k) (without vs k):=by
 unfold KV at r ⊢;unfold oj without
 induction r with
 |nil=>exact .nil
 |@cons p q ps qs h t ih =>
  obtain⟨h1,h2⟩:=h;rw[List.filter_cons,List.filter_cons];by_cases e:p.1=k
  ·have a:¬decide (p.1≠k)=true:=(by simp[e]);have b:¬decide (q.1≠k)=true:=(by simp[h1.symm.trans e]);rw[if_neg a,if_neg b];exact ih
  have e':¬q.1=k:=λz=>e (h1.trans z);have a:decide (p.1≠k)=true:=by simp[e]
  have b:decide (q.1≠k)=true:=by simp[e']
  rw[if_pos a,if_pos b];exact .cons ⟨h1,h2⟩ ih
theorem KV.length{kvs:List (κ×V)}{vs:List (κ×Value)}(r:KV kvs vs):kvs.length=vs.length:=Paired.length r
theorem A1(kvs:List (κ×V))(k:κ):(oj kvs k).length<=kvs.length:=List.length_filter_le _ _
end
theorem jK{P:Program}{w:World}{k:Key}{u:Value}(r:RelV (kV k) u):(aR P w).is k u=true:=by
 cases k with
 |inl i=>obtain⟨t,e⟩:=(show ∃t,u=Value.int i t from r);subst e;exact nM P w i t
 |inr x=>obtain⟨t,e⟩:=(show ∃t,u=Value.str x t from r);subst e;exact nN P w x t
theorem rC{P:Program}{w:World}:∀{ks:List Key}{us:List Value},aX (ks.map kV) us->ItemsAre (aR P w) ks us
 |[],_,r=>by rw[List.map_nil]at r;cases r;exact .nil
 |k::ks,_,r=>by
  rw[List.map_cons]at r;cases r with
  |cons h t=>exact .cons (jK h) (rC t)
abbrev KT(H:Hp):List (List Key×V)->List (List Key×Addr×Value)->Prop:=Paired λp q=>p.1=q.1/\H q.2.1=some (.tup (p.1.map kV))/\RelV p.2 q.2.2
theorem KT.val{H:Hp}{kvs:List (List Key×V)}{xs:List (List Key×Addr×Value)}(r:KT H kvs xs)(k:List Key):eZ (dg kvs k) ((atKey xs k).map (·.2)):=by
 induction r with
 |nil=>exact True.intro
 |@cons p q ps qs h t ih =>
  obtain⟨h1,_,h2⟩:=h;by_cases e:p.1=k
  ·have e':q.1=k:=h1.symm.trans e;have b:atKey (q::qs) k=some q.2:=(by simp[atKey,List.find?_cons,e']);rw[om e,b];exact h2
  have e':¬q.1=k:=λz=>e (h1.trans z);have b:atKey (q::qs) k=atKey qs k:=by simp[atKey,List.find?_cons,e']
  rw[oo e,b];exact ih
theorem KT.A0{H:Hp}{kvs:List (List Key×V)}{xs:List (List Key×Addr×Value)}(r:KT H kvs xs)(k:List Key){y:V}{u:Value}(ry:RelV y u):
  KT H (kvs.map λkv=>if kv.1=k then(kv.1,y)else kv) (xs.map (putAt k u)):=by
 induction r with
 |nil=>exact .nil
 |@cons p q ps qs h t ih =>
  rw[List.map_cons,List.map_cons];refine .cons ?_ ih;obtain⟨h1,h2,h3⟩:=h;unfold putAt;by_cases e:p.1=k
  ·rw[if_pos e,if_pos (h1.symm.trans e)];exact⟨h1,h2,ry⟩
  rw[if_neg e,if_neg (λz=>e (h1.trans z))];exact⟨h1,h2,h3⟩
theorem KT.put{H:Hp}{kvs:List (List Key×V)}{xs:List (List Key×Addr×Value)}(r:KT H kvs xs)(k:List Key){b:Addr}{y:V}{u:Value}(hb:H b=some (.tup (k.map kV)))(ry:RelV y u):
  KT H (putK kvs k y) (storedH xs k b u):=by
 have e:(kvs.any λkv=>decide (kv.1=k))=(atKey xs k).isSome:=by rw[uL,(r.val k).dF,Option.isSome_map]
 unfold putK storedH;rw[e];by_cases q:(atKey xs k).isSome=true
 ·rw[if_pos q,if_pos q];exact r.A0 k ry
 rw[if_neg q,if_neg q];exact Paired.snoc r ⟨rfl,hb,ry⟩
theorem KT.keeps{H H':Hp}{kvs:List (List Key×V)}{xs:List (List Key×Addr×Value)}(r:KT H kvs xs)(ht:∀b ys,H b=some (.tup ys)->H' b=some (.tup ys)):KT H' kvs xs :=
 Paired.FQ r λ_ _ z=>⟨z.1,ht _ _ z.2.1,z.2.2⟩
section
variable{P:Program}{w:World}{H:Hp}{h:Heap}{a:Addr}
theorem Ep{u:HO}(ok:kQ P w H h)(e:Rd H a u):ay P w H h a u:=e.ok ok
theorem nT{kvs:List (Key×V)}(ok:kQ P w H h)(e:Rd H a (.dK kvs)):kvs.length<=sizeLine/\(a==sysModules)=false/\∃vs,KV kvs vs/\h.DictOf (aR P w) a vs :=
 show ay P w H h a (.dK kvs)from Ep ok e
theorem xu{kvs:List (Key×V)}(ok:kQ P w H h)(e:H a=some (.dK kvs)):kvs.length<=sizeLine/\(a==sysModules)=false/\∃vs,KV kvs vs/\h.DictOf (aR P w) a vs:=nT ok (.inl e)
theorem kc{ks:List Key}(ok:kQ P w H h)(e:H a=some (.tup (ks.map kV))):(tupleKind (aR P w)).is h ks a:=by obtain⟨_,aS,r,o,h1,h2,n,h3⟩:=(show ay P w H h a (.tup (ks.map kV))from ok a _ e);exact⟨o,aS.toArray,n,h1,h2,h3,by simpa using rC r⟩
theorem nU{kvs:List (List Key×V)}(ok:kQ P w H h)(e:Rd H a (.dT kvs)):kvs.length<=sizeLine/\(a==sysModules)=false /\
  ∃xs,KT H kvs xs/\h.DictOfH (tupleKind (aR P w)) a xs:=by
 obtain⟨z,y,xs,r,o,es,ep,h1,h2,h3,h4,h5⟩:=(show ay P w H h a (.dT kvs)from Ep ok e);refine⟨z,y,xs,r,o,es,ep,h1,h2,h3,h4,λx hx=>?_,h5⟩;have all:∀{l:List (List Key×V)}{m:List (List Key×Addr×Value)},KT H l m->∀x∈m,(tupleKind (aR P w)).is h x.1 x.2.1:=by
  intro l m q
  induction q with
  |nil=>intro x hx;exact nomatch hx
  |@cons p q ps qs hq t ih =>
   intro x hx;rcases List.mem_cons.mp hx with e|hx
   ·subst e;exact kc ok (by rw[<-hq.1];exact hq.2.1)
   exact ih x hx
 exact all r x hx
theorem Ih{kvs:List (List Key×V)}(ok:kQ P w H h)(e:H a=some (.dT kvs)):kvs.length<=sizeLine/\(a==sysModules)=false /\
  ∃xs,KT H kvs xs/\h.DictOfH (tupleKind (aR P w)) a xs:=nU ok (.inl e)
end
def bx(H:Hp)(a:Addr)(y:V)(r:Option V):Prop :=
 (∃kvs k,Rd H a (.dK kvs)/\y=kV k/\r=dg kvs k)\/∃kvs k b,Rd H a (.dT kvs)/\y=.ref b/\H b=some (.tup (k.map kV))/\r=dg kvs k
def A2(H:Hp)(a:Addr)(y v:V)(H':Hp):Prop :=
 (∃kvs k,H a=some (.dK kvs)/\y=kV k/\kvs.length<sizeLine/\H'=upd H a (.dK (putK kvs k v))) \/
 ∃kvs k b,H a=some (.dT kvs)/\y=.ref b/\H b=some (.tup (k.map kV))/\kvs.length<sizeLine/\H'=upd H a (.dT (putK kvs k v))
theorem bx.k{H:Hp}{a:Addr}{kvs:List (Key×V)}{k:Key}(e:H a=some (.dK kvs)):bx H a (kV k) (dg kvs k):=.inl ⟨kvs,k,.inl e,rfl,rfl⟩
theorem A2.k{H:Hp}{a:Addr}{kvs:List (Key×V)}{k:Key}{v:V}(e:H a=some (.dK kvs))(hl:kvs.length<sizeLine):A2 H a (kV k) v (upd H a (.dK (putK kvs k v))):=.inl ⟨kvs,k,e,rfl,hl,rfl⟩
section
variable{X:Cx}{pins:List (Addr×Obj)}{σ:St}{H:Hp}{s:Shared}{a:Addr}{y v:V}{u r:Value}{o:Option V}{A:Around}{E:Value->Shared->Prop}
theorem Inv.Ln(I:Inv X pins σ H s):sysModules<s.heap.objs.size:=by have h:mainGlobals<s.heap.objs.size:=(I.mod.glob.keeps I.bk).lt;exact Nat.lt_trans (by decide) h
theorem zD{Q:Value->Shared->Prop}(hu:A.units+1<cLine)(I:Inv X pins σ H s)(g:bx H a y (some v))(ry:RelV y u)(h:∀w' s',Inv X pins σ H s'->RelV v w'->Q w' s'):
  wpAny (model X.prog X.w) A (getItem (.ref a) u) Q E s:=by
 rcases g with⟨kvs,k,e,ey,l⟩|⟨kvs,k,b,e,ey,eb,l⟩
 ·subst ey;obtain⟨z,hd,vs,rel,dd⟩:=nT I.aw e;obtain⟨w',hw,md⟩:=eZ.some_of (v:=v) (o:=valueAt vs k) (by rw[l];exact rel.val k);exact wpAny_getItem_of (jK ry) dd.mapOf hw (h w' _ (I.tok _) md)
 subst ey;cases(show u=Value.ref b from ry);obtain⟨z,hd,xs,rel,dd⟩:=nU I.aw e;obtain⟨w',hw,md⟩:=eZ.some_of (v:=v) (o:=(atKey xs k).map (·.2)) (by rw[l];exact rel.val k);obtain⟨p,hp,xv⟩:=Option.map_eq_some_iff.mp hw;refine wpAny_getItem_heap (tupleKind_room_in1 hu) (kc I.aw eb) dd hp ?_;rw[xv];exact h w' _ (I.tok _) md
theorem Lo{Q:Value->Shared->Prop}(hu:A.units+1<cLine)(I:Inv X pins σ H s)(g:bx H a y o)(ry:RelV y u)(h:∀s',Inv X pins σ H s'->Q (.bool o.isSome) s'):
  wpAny (model X.prog X.w) A (compareOp .In u (.ref a)) Q E s:=by
 rcases g with⟨kvs,k,e,ey,l⟩|⟨kvs,k,b,e,ey,eb,l⟩
 ·subst ey;obtain⟨z,hd,vs,rel,dd⟩:=nT I.aw e;refine wpAny_in_of (jK ry) hd dd.mapOf ?_;rw[<-(rel.val k).dF,<-l];exact h _ (I.tok _)
 subst ey;cases(show u=Value.ref b from ry);obtain⟨z,hd,xs,rel,dd⟩:=nU I.aw e;refine wpAny_in_heap (tupleKind_room_in1 hu) (kc I.aw eb) hd dd ?_;have q:=(rel.val k).dF;rw[Option.isSome_map]at q;rw[<-q,<-l];exact h _ (I.tok _)
theorem DD{Q:Value->Shared->Prop}(hu:A.units+1<cLine)(I:Inv X pins σ H s)(g:bx H a y o)(ry:RelV y u)(h:∀s',Inv X pins σ H s'->Q (.bool (!o.isSome)) s'):
  wpAny (model X.prog X.w) A (compareOp .NotIn u (.ref a)) Q E s:=by
 rcases g with⟨kvs,k,e,ey,l⟩|⟨kvs,k,b,e,ey,eb,l⟩
 ·subst ey;obtain⟨z,hd,vs,rel,dd⟩:=nT I.aw e;refine wpAny_notIn_of (jK ry) hd dd.mapOf ?_;rw[<-(rel.val k).dF,<-l];exact h _ (I.tok _)
 subst ey;cases(show u=Value.ref b from ry);obtain⟨z,hd,xs,rel,dd⟩:=nU I.aw e;refine wpAny_notIn_heap (tupleKind_room_in1 hu) (kc I.aw eb) hd dd ?_;have q:=(rel.val k).dF;rw[Option.isSome_map]at q;rw[<-q,<-l];exact h _ (I.tok _)
theorem lj{h':Heap}{t':Nat}{ob:HO}(I:Inv X pins σ H s)(mu:G3 (H a))(hs:Heap.SameBut a s.heap h')(he:∃q,h'.get? a=some q)(new:ay X.prog X.w (upd H a ob) h' a ob):
  Inv X pins σ (upd H a ob) { s with heap:=h',toks:=t' } :=
 I.write (x:=a) (e:=a) mu (.inl rfl) (λb q hb z=>(hs.2 b hb).trans z) he new
theorem vt{P:Program}{w:World}{H':Hp}{h':Heap}{kvs:List (Key×V)}{vs:List (Key×Value)}(z:kvs.length<=sizeLine)(hd:(a==sysModules)=false)(rel:KV kvs vs)(dd:h'.DictOf (aR P w) a vs):
  ay P w H' h' a (.dK kvs):=⟨z,hd,vs,rel,dd⟩
theorem zE{H':Hp}{Q:Unit->Shared->Prop}(hu:A.units+1<cLine)(I:Inv X pins σ H s)(g:A2 H a y v H')(ry:RelV y u)(rv:RelV v r)(h:∀s',Inv X pins σ H' s'->Q () s'):
  wpAny (model X.prog X.w) A (setItem (.ref a) u r) Q E s:=by
 rcases g with⟨kvs,k,e,ey,l,eH⟩|⟨kvs,k,b,e,ey,eb,l,eH⟩
 ·subst ey eH;obtain⟨z,hd,vs,rel,dd⟩:=xu I.aw e;have hz:vs.length<=sizeLine:=by rw[<-rel.length];exact z
  have hl:(putK kvs k v).length<=sizeLine:=by have:=jJ kvs k v;lia
  refine wpAny_setItem_pairs (hsz:=hz) (jK ry) dd λh' AK hs=>h _ ?_;have he:∃q,h'.get? a=some q:=let⟨q,_,_,hq,_⟩:=AK;⟨q,hq⟩;exact lj I (by rw[e];exact True.intro) hs he (vt hl hd (rel.put k rv) AK)
 subst ey eH;cases(show u=Value.ref b from ry);obtain⟨z,hd,xs,rel,dd⟩:=Ih I.aw e;have hz:xs.length<=sizeLine:=by rw[<-Paired.length rel];exact z
 have hl:(putK kvs k v).length<=sizeLine:=by have:=jJ kvs k v;lia
 refine wpAny_setItem_heap (hsz:=hz) (tupleKind_room_in1 hu) (kc I.aw eb) dd λh' AK hs=>h _ ?_;obtain⟨q,es,ep,hq,h2,h3,h4,_,h5⟩:=AK;refine lj I (by rw[e];exact True.intro) hs ⟨q,hq⟩ ⟨hl,hd,_,(rel.put k eb rv).keeps λc ys ec=>?_,q,es,ep,hq,h2,h3,h4,h5⟩;rw[aL (kA ec e (λz=>nomatch z))]
 exact ec
end
section
variable{X:Cx}{pins:List (Addr×Obj)}{σ:St}{H:Hp}{s:Shared}{a:Addr}{kvs:List (Key×V)}{k:Key}{u:Value}{A:Around}{E:Value->Shared->Prop}
theorem Ii{v:V}{more:List Value}{Q:Value->Shared->Prop}(I:Inv X pins σ H s)(e:H a=some (.dK kvs))(ry:RelV (kV k) u)(l:dg kvs k=some v)(hm:more=[]\/∃x,more=[x])(h:∀w' s',Inv X pins σ (upd H a (.dK (oj kvs k))) s'->RelV v w'->Q w' s'):wpAny (model X.prog X.w) A (call (.builtin "dict.pop") (.ref a::u::more)) Q E s:=by
 obtain⟨z,hd,vs,rel,dd⟩:=xu I.aw e;obtain⟨w',hw,md⟩:=eZ.some_of (v:=v) (o:=valueAt vs k) (by rw[<-l];exact rel.val k);have hp:(keyPart u).isSome=true:=by
  cases k with
  |inl i=>obtain⟨t,q⟩:=(show ∃t,u=Value.int i t from ry);subst q;rfl
  |inr x=>obtain⟨t,q⟩:=(show ∃t,u=Value.str x t from ry);subst q;rfl
 have ha:argsOk "dict.pop" ⟨.ref a::u::more,[]⟩:=by
  rcases hm with q|⟨x,q⟩
  ·subst q;exact PySem.F.args_dict_pop_2 _ _
  subst q;exact PySem.F.args_dict_pop_3 _ _ _
 refine call_meetsIn PySem.F.slot_dict_pop dd.typeIs PySem.F.entry_dict_pop ha (meets_dict_pop_there (aR X.prog X.w) a (jK ry) more hm hp)
  ⟨vs,w',dd,by rw[<-rel.length];exact z,hw,λh' AK hs=>h w' _ ?_ md⟩
 have he:∃q,h'.get? a=some q:=let⟨q,_,_,hq,_⟩:=AK;⟨q,hq⟩;exact lj I (by rw[e];exact True.intro) hs he (vt (Nat.le_trans (A1 kvs k) z) hd (rel.drop k) AK)
theorem F3{r:Value}{Q:Value->Shared->Prop}(I:Inv X pins σ H s)(e:H a=some (.dK kvs))(ry:RelV (kV k) u)(l:dg kvs k=none)(h:∀s',Inv X pins σ H s'->Q r s'):
  wpAny (model X.prog X.w) A (call (.builtin "dict.pop") [.ref a,u,r]) Q E s:=by
 obtain⟨z,hd,vs,rel,dd⟩:=xu I.aw e;have hn:valueAt vs k=none:=eZ.none_of (by rw[<-l];exact rel.val k);have hp:(keyPart u).isSome=true:=by
  cases k with
  |inl i=>obtain⟨t,q⟩:=(show ∃t,u=Value.int i t from ry);subst q;rfl
  |inr x=>obtain⟨t,q⟩:=(show ∃t,u=Value.str x t from ry);subst q;rfl
 exact call_meetsIn PySem.F.slot_dict_pop dd.typeIs PySem.F.entry_dict_pop (PySem.F.args_dict_pop_3 _ _ _) (meets_dict_pop_default (aR X.prog X.w) a (jK ry) hd hp r) ⟨vs,dd,hn,h _ (I.tok _)⟩
end
def DE(i:Expr):Prop:=∀ov iv,subscripted i false ov iv=operate [ov,iv] (getItem ov iv)
theorem sJ{prog:Program}{w:World}{A:Around}{E:Value->Shared->Prop}{s:Shared}{env:Env}{value slice:Expr}{pos:Pos}{T id:String}{Q:Value->Shared->Prop}(hl:typeLookup (.type T) "__getitem__"=pure (some (.builtin id)))(hs:DE slice)(h:wpAny (model prog w) A (eval value env) (λo s₁=>wpAny (model prog w) A (eval slice env) (λi s₂=>s₂.TypeIs o T/\wpAny (model prog w) A (getItem o i) Q E s₂) E s₁) E s):
  wpAny (model prog w) A (eval (.Subscript value slice pos) env) Q E s:=by
 refine Subscript_ (wpAny_mono h (λo s₁ h₁=>wpAny_mono h₁ (λi s₂ h₂=>?_) λ_ _ x=>x) λ_ _ x=>x);obtain⟨hT,h₂⟩:=h₂;unfold subscriptTail;refine wpAny_bind ?_;rw[getitemInPython_of_ne hT.not_modules];refine wpAny_bind (wpAny_specialOf hT hl ?_);have fin:wpAny (model prog w) A (subscripted slice false o i) (λr s₃=>wpAny (model prog w) A (letTemporaryGo value o r >>= λ_=>pure r) Q E s₃) E s₂:=by rw[hs o i];exact wpAny_operating (wpAny_mono h₂ (λr s₃ h₃=>wpAny_bind (wpAny_letTemporaryGo (wpAny_pure h₃))) λ_ _ x=>x)
 first
  |exact wpAny_pure (wpAny_bind fin)
  |exact wpAny_bind (wpAny_pure (wpAny_bind fin))
  |exact wpAny_bind fin
theorem uM{X:Cx}{pins:List (Addr×Obj)}{σ:St}{H:Hp}{s:Shared}{a:Addr}{y:V}{o:Option V}(I:Inv X pins σ H s)(g:bx H a y o):s.TypeIs (.ref a) "dict":=by
 rcases g with⟨kvs,k,e,_,_⟩|⟨kvs,k,b,e,_,_,_⟩
 ·obtain⟨_,_,vs,_,dd⟩:=nT I.aw e;exact dd.typeIs
 obtain⟨_,_,xs,_,dd⟩:=nU I.aw e;exact dd.typeIs
def Ij(td ty:TE):TE:=λσ H Q=>td σ H λx H1=>ty σ H1 λy H2=>∃a v,x=.ref a/\bx H2 a y (some v)/\Q v H2
def Lp(ty td:TE):TE:=λσ H Q=>ty σ H λy H1=>td σ H1 λx H2=>∃a o,x=.ref a/\bx H2 a y o/\Q (.bl o.isSome) H2
def DF(ty td:TE):TE:=λσ H Q=>ty σ H λy H1=>td σ H1 λx H2=>∃a o,x=.ref a/\bx H2 a y o/\Q (.bl (!o.isSome)) H2
def Ik(td ty tv:TE):TS:=λD σ H=>tv σ H λv H1=>td σ H1 λx H2=>ty σ H2 λy H3=>∃a H4,x=.ref a/\A2 H3 a y v H4/\D.nx σ H4
section
variable{X:Cx}{o i e value:Expr}{pos pos' Hw:Pos}{td ty tv:TE}
theorem eE(hu:X.A.units+1<cLine)(ho:PE X o td)(hi:PE X i ty)(hs:DE i):PE X (.Subscript o i pos) (Ij td ty):=by intro pins s σ H Q I h;refine sJ PySem.F.slot_dict_getitem.lookup hs (az (ho pins s σ H _ I h) λu s1 ⟨x,H1,I1,rx,q1⟩=>az (hi pins s1 σ H1 _ I1 q1) λiv s2 ⟨y,H2,I2,ry,a,v,ex,g,q2⟩=>?_);subst ex;obtain rfl:u=Value.ref a:=rx;exact⟨uM I2 g,zD hu I2 g ry λw' s3 I3 md=>⟨v,H2,I3,md,q2⟩⟩
theorem vx(hu:X.A.units+1<cLine)(hi:PE X i ty)(ho:PE X o td):PC X .In i o (Lp ty td):=by intro pins s σ H Q I h;refine az (hi pins s σ H _ I h) λiv s1 ⟨y,H1,I1,ry,q1⟩=>az (ho pins s1 σ H1 _ I1 q1) λu s2 ⟨x,H2,I2,rx,a,ov,ex,g,q2⟩=>?_;subst ex;obtain rfl:u=Value.ref a:=rx;exact Lo hu I2 g ry λs3 I3=>⟨.bl ov.isSome,H2,I3,rfl,q2⟩
theorem mh(hu:X.A.units+1<cLine)(hi:PE X i ty)(ho:PE X o td):PC X .NotIn i o (DF ty td):=by intro pins s σ H Q I h;refine az (hi pins s σ H _ I h) λiv s1 ⟨y,H1,I1,ry,q1⟩=>az (ho pins s1 σ H1 _ I1 q1) λu s2 ⟨x,H2,I2,rx,a,ov,ex,g,q2⟩=>?_;subst ex;obtain rfl:u=Value.ref a:=rx;exact DD hu I2 g ry λs3 I3=>⟨.bl (!ov.isSome),H2,I3,rfl,q2⟩
theorem iA(hu:X.A.units+1<cLine)(ho:PE X o td)(hi:PE X i ty)(hv:PE X value tv)(hs:swapsWith value (some (.Subscript o i pos')) pos.line X.env=pure false):
  PS X (.Assign [.Subscript o i pos'] value pos) (Ik td ty tv):=by
 intro pins s σ H D I h;refine wpAny_Assign_Subscript (az (hv pins s σ H _ I h) λr s1 ⟨v,H1,I1,rv,q1⟩=>az (ho pins s1 σ H1 _ I1 q1) λu s2 ⟨x,H2,I2,rx,q2⟩=>az (hi pins s2 σ H2 _ I2 q2) λiv s3 ⟨y,H3,I3,ry,a,H4,ex,g,q3⟩=>?_) hs;subst ex;obtain rfl:u=Value.ref a:=rx;exact zE hu I3 g ry rv λs4 I4=>⟨σ,H4,I4,q3⟩
end
theorem uN{P:Program}{w:World}{H:Hp}(h:Heap)(hb:sysModules<h.objs.size):ay P w H (h.push { cls:=.type "dict",data:=.dict #[] }) h.objs.size (.dK []) :=
 ⟨Nat.zero_le _,beq_eq_false_iff_ne.mpr (Ne.symm (Nat.ne_of_lt hb)),[],.nil,Heap.DictOf.new h⟩
def F4:TE:=λ_ H Q=>∀p,H p=none->Q (.ref p) (upd H p (.dK []))
section
variable{X:Cx}{pos:Pos}
theorem uO:PE X (.Dict [] [] pos) F4:=λpins s σ H Q I h =>
 wpAny_Dict_empty ⟨.ref s.heap.objs.size,_,I.laid (a:=s.heap.objs.size) (o:=.dK []) (t':=s.toks) (λ_ _ q=>Heap.get?_push_of_some _ q) (Nat.le_refl _) (uN s.heap I.Ln),rfl,h _ (I.aw.fresh (Nat.le_refl _))⟩
end
def vy:List (TE×TE)->St->Hp->(List (V×V)->Hp->Prop)->Prop
 |[],_,H,Q=>Q [] H
 | (tk,tv)::r,σ,H,Q=>tk σ H λx H1=>tv σ H1 λy H2=>vy r σ H2 λps H3=>Q ((x,y)::ps) H3
abbrev VV:List (V×V)->List (Value×Value)->Prop:=Paired λp q=>RelV p.1 q.1/\RelV p.2 q.2
def KJ(X:Cx)(pos:Pos)(keys:List (Option Expr))(values:List Expr)(DG:List (TE×TE)):Prop :=
 ∀(pins:List (Addr×Obj))(s:Shared)(σ:St)(H:Hp)(Q:List (V×V)->Hp->Prop),Inv X pins σ H s->vy DG σ H Q ->
  wpAny (model X.prog X.w) X.A (evalPairs (pairTrees keys values X.env pos)) (λvs s'=>∃ps H',Inv X pins σ H' s'/\VV ps vs/\Q ps H') X.xe s
theorem DH{X:Cx}{pos:Pos}:KJ X pos [] [] []:=λpins s σ H Q I h=>pairTrees_nil_walk ⟨[],H,I,.nil,h⟩
theorem A3{X:Cx}{pos:Pos}{k v:Expr}{ks:List (Option Expr)}{vs:List Expr}{tk tv:TE}{DG:List (TE×TE)}(hk:PE X k tk)(hv:PE X v tv)(hr:KJ X pos ks vs DG):
  KJ X pos (some k::ks) (v::vs) ((tk,tv)::DG):=λpins s σ H Q I h =>
 pairTrees_cons_walk (az (hk pins s σ H _ I h) λu s1 ⟨x,H1,I1,rx,q1⟩=>az (hv pins s1 σ H1 _ I1 q1) λw2 s2 ⟨y,H2,I2,ry,q2⟩ =>
  az (hr pins s2 σ H2 _ I2 q2) λws s3 ⟨ps,H3,I3,rel,q3⟩=>⟨(x,y)::ps,H3,I3,.cons ⟨rx,ry⟩ rel,q3⟩)
def fB(kvs more:List (Key×V)):List (Key×V):=more.foldl (λacc kv=>putK acc kv.1 kv.2) kvs
theorem KV.merge:∀{more:List (Key×V)}{rs:List (Key×Value)}{kvs:List (Key×V)}{vs:List (Key×Value)},KV more rs->KV kvs vs->KV (fB kvs more) (merged vs rs):=by
 intro more rs kvs vs r;unfold KV at r
 induction r generalizing kvs vs with
 |nil=>intro q;exact q
 |@cons p q ps qs h t ih =>
  intro r0;have e:KV (putK kvs p.1 p.2) (stored vs q.1 q.2):=by have:=r0.put p.1 h.2;rw[<-h.1];exact this
  exact ih e
theorem kD:∀(more kvs:List (Key×V)),(fB kvs more).length<=kvs.length+more.length
 |[],kvs=>by show kvs.length<=kvs.length+0;lia
 |p::r,kvs=>by have h1:=kD r (putK kvs p.1 p.2);have h2:=jJ kvs p.1 p.2;show(fB (putK kvs p.1 p.2) r).length<=_;rw[List.length_cons];lia
theorem oq{P:Program}{w:World}:∀{kvs:List (Key×V)}{ws:List (Value×Value)},VV (kvs.map λkv=>(kV kv.1,kv.2)) ws->∃rs,Carries (aR P w) ws rs/\KV kvs rs
 |[],_,r=>by rw[List.map_nil]at r;cases r;exact⟨[],True.intro,.nil⟩
 |p::kvs,_,r=>by
  rw[List.map_cons]at r;cases r with
  |@cons a b as bs h t =>
   obtain⟨rs,c,q⟩:=oq (P:=P) (w:=w) t;obtain⟨b1,b2⟩:=b;exact⟨(p.1,b2)::rs,⟨jK h.1,rfl,c⟩,.cons ⟨rfl,h.2⟩ q⟩
def Er(DG:List (TE×TE)):TE:=λσ H Q=>∀p,H p=none->vy DG σ (upd H p (.dK [])) λps H2=>H2 p=some (.dK [])/\∃kvs:List (Key×V),ps=kvs.map (λkv=>(kV kv.1,kv.2))/\kvs.length<=15/\Q (.ref p) (upd H2 p (.dK (fB [] kvs)))
theorem DI{X:Cx}{pos:Pos}{keys:List (Option Expr)}{values:List Expr}{DG:List (TE×TE)}(h:KJ X pos keys values DG)(y4:keys.all (·.isSome)=true)(hl:keys.length=values.length)(h0:keys≠[])(Ox:keys.length<=15):PE X (.Dict keys values pos) (Er DG):=by
 intro pins s σ H Q I q;have hn:=I.aw.fresh (Nat.le_refl s.heap.objs.size);have I1:=I.laid (a:=s.heap.objs.size) (o:=.dK []) (h':=s.heap.push { cls:=.type "dict",data:=.dict #[] }) (t':=s.toks) (λ_ _ q=>Heap.get?_push_of_some _ q) (Nat.le_refl _) (uN s.heap I.Ln);refine wpAny_Dict_walk (knd:=aR X.prog X.w) y4 hl h0 Ox (az (h pins _ σ _ _ I1 (q _ hn)) λws s2 ⟨ps,H2,I2,rel,e,kvs,ep,lk,q2⟩=>?_);subst ep;obtain⟨rs,c,rk⟩:=oq (P:=X.prog) (w:=X.w) rel;obtain⟨z,hd,Qz,r0,dd⟩:=xu I2.aw e;cases r0;refine⟨rs,c,dd,λh' AK hs=>⟨.ref s.heap.objs.size,_,?_,rfl,q2⟩⟩;have hz:(fB [] kvs).length<=sizeLine:=by have h1:=kD kvs [];rw[List.length_nil]at h1;rw[sizeLine_eq];lia
 have he:∃q,h'.get? s.heap.objs.size=some q:=let⟨q,_,_,hq,_⟩:=AK;⟨q,hq⟩;exact lj I2 (by rw[e];exact True.intro) hs he (vt hz hd (rk.merge .nil) AK)
structure M1(X:Cx)(o:Expr)(m:Str)(apos:Pos)(e:Expr)(cY:Pos):Prop where
 base:attributeBase o m X.env (eval o X.env)=eval o X.env
 AL:((backTo cY (starEach [e] X.env)).all (λx=>!x.1)&&(backToKw cY (keywordEach [] X.env)).all (λx=>x.1.isSome)
  && decide (([e]:List Expr).length+([]:List Keyword).length+(if([]:List Keyword).isEmpty then 0 else 1)<30))=true
 line:(apos.endLine==cY.line)=true
 trees:backTo cY (starEach [e] X.env)=[(false,eval e X.env)]
structure M2(X:Cx)(o:Expr)(m:Str)(apos:Pos)(e f:Expr)(cY:Pos):Prop where
 base:attributeBase o m X.env (eval o X.env)=eval o X.env
 AL:((backTo cY (starEach [e,f] X.env)).all (λx=>!x.1)&&(backToKw cY (keywordEach [] X.env)).all (λx=>x.1.isSome)
  && decide (([e,f]:List Expr).length+([]:List Keyword).length+(if([]:List Keyword).isEmpty then 0 else 1)<30))=true
 line:(apos.endLine==cY.line)=true
 trees:backTo cY (starEach [e,f] X.env)=[(false,eval e X.env),(false,eval f X.env)]
def KL(H:Hp)(a:Addr):Prop:=(∃kvs,Rd H a (.dK kvs))\/∃kvs,Rd H a (.dT kvs)
theorem vz{X:Cx}{pins:List (Addr×Obj)}{σ:St}{H:Hp}{s:Shared}{a:Addr}(I:Inv X pins σ H s)(d:KL H a):
  s.TypeIs (.ref a) "dict"/\(∀b,Value.ref a=.ref b->∃ob,s.heap.get? b=some ob/\ob.dict=none)/\(a==sysModules)=false:=by
 rcases d with⟨kvs,e⟩|⟨kvs,e⟩
 ·obtain⟨_,hd,vs,_,dd⟩:=nT I.aw e;refine⟨dd.typeIs,λb q=>?_,hd⟩;cases q;obtain⟨ob,_,_,h1,h2,_⟩:=dd;exact⟨ob,h1,h2.2.1⟩
 obtain⟨_,hd,xs,_,dd⟩:=nU I.aw e;refine⟨dd.typeIs,λb q=>?_,hd⟩;cases q;obtain⟨ob,_,_,h1,h2,_⟩:=dd;exact⟨ob,h1,h2.2.1⟩
section
variable{X:Cx}{pins:List (Addr×Obj)}{σ:St}{H:Hp}{s:Shared}{a:Addr}{y d:V}{u r:Value}{o:Option V}{A:Around}{E:Value->Shared->Prop}
theorem F5{Q:Value->Shared->Prop}(hu:A.units+1<cLine)(I:Inv X pins σ H s)(g:bx H a y o)(ry:RelV y u)(h:∀w' s',Inv X pins σ H s'->RelV (o.getD .bS) w'->Q w' s'):
  wpAny (model X.prog X.w) A (call (.builtin "dict.get") [.ref a,u]) Q E s:=by
 rcases g with⟨kvs,k,e,ey,l⟩|⟨kvs,k,b,e,ey,eb,l⟩
 ·subst ey;obtain⟨z,hd,vs,rel,dd⟩:=nT I.aw e;refine call_meetsIn PySem.F.slot_dict_get dd.typeIs PySem.F.entry_dict_get (PySem.F.args_dict_get_2 _ _) (meets_dict_get (aR X.prog X.w) a (jK ry) hd) ⟨_,dd.mapOf,h _ _ (I.tok _) ?_⟩;rw[l];exact(rel.val k).getD rfl
 subst ey;cases(show u=Value.ref b from ry);obtain⟨z,hd,xs,rel,dd⟩:=nU I.aw e;refine call_meetsIn PySem.F.slot_dict_get dd.typeIs PySem.F.entry_dict_get (PySem.F.args_dict_get_2 _ _) (meetsH_dict_get (tupleKind (aR X.prog X.w)) a b hd) ⟨tupleKind_room_in1 hu,k,xs,kc I.aw eb,dd,h _ _ (I.tok _) ?_⟩;rw[l];exact(rel.val k).getD rfl
theorem F6{Q:Value->Shared->Prop}(hu:A.units+1<cLine)(I:Inv X pins σ H s)(g:bx H a y o)(ry:RelV y u)(rd:RelV d r)(h:∀w' s',Inv X pins σ H s'->RelV (o.getD d) w'->Q w' s'):
  wpAny (model X.prog X.w) A (call (.builtin "dict.get") [.ref a,u,r]) Q E s:=by
 rcases g with⟨kvs,k,e,ey,l⟩|⟨kvs,k,b,e,ey,eb,l⟩
 ·subst ey;obtain⟨z,hd,vs,rel,dd⟩:=nT I.aw e;refine call_meetsIn PySem.F.slot_dict_get dd.typeIs PySem.F.entry_dict_get (PySem.F.args_dict_get_3 _ _ _) (meets_dict_get_default (aR X.prog X.w) a (jK ry) hd r) ⟨_,dd.mapOf,h _ _ (I.tok _) ?_⟩;rw[l];exact(rel.val k).getD rd
 subst ey;cases(show u=Value.ref b from ry);obtain⟨z,hd,xs,rel,dd⟩:=nU I.aw e;refine call_meetsIn PySem.F.slot_dict_get dd.typeIs PySem.F.entry_dict_get (PySem.F.args_dict_get_3 _ _ _) (meetsH_dict_get_default (tupleKind (aR X.prog X.w)) a b hd r) ⟨tupleKind_room_in1 hu,k,xs,kc I.aw eb,dd,h _ _ (I.tok _) ?_⟩;rw[l];exact(rel.val k).getD rd
end
def F7(td ty:TE):TE:=λσ H Q=>td σ H λx H1=>∃a,x=.ref a/\KL H1 a/\ty σ H1 λy H2=>∃o,bx H2 a y o/\Q (o.getD .bS) H2
def F8(td ty tx:TE):TE:=λσ H Q=>td σ H λx H1=>∃a,x=.ref a/\KL H1 a/\ty σ H1 λy H2=>tx σ H2 λz H3=>∃o,bx H3 a y o/\Q (o.getD z) H3
def F9(td ty tx:TE):TE:=λσ H Q=>td σ H λx H1=>∃a,x=.ref a/\KL H1 a/\ty σ H1 λy H2=>tx σ H2 λz H3=>∃kvs k,H3 a=some (.dK kvs)/\y=kV k /\
 (∀v,dg kvs k=some v->Q v (upd H3 a (.dK (oj kvs k))))/\(dg kvs k=none->Q z H3)
section
variable{X:Cx}{o e f:Expr}{apos cY:Pos}{td ty tx:TE}
theorem A4(hu:X.A.units+1<cLine)(ho:PE X o td)(he:PE X e ty)(m:M1 X o "get" apos e cY):PE X (.Call (.Attribute o "get" apos) [e] [] cY) (F7 td ty):=by intro pins s σ H Q I h;refine wpAny_Call_method m.base m.AL m.line PySem.F.plainAttrs_dict PySem.F.slot_dict_get PySem.F.type_dict_get (az (ho pins s σ H _ I h) λu s1 ⟨x,H1,I1,rx,a,ex,d,q1⟩=>?_);subst ex;obtain rfl:u=Value.ref a:=rx;obtain⟨t1,t2,_⟩:=vz I1 d;refine⟨t1,t2,?_⟩;rw[m.trees];refine Calls.callWith_builtin rfl (Calls.evalArgs_plain (Calls.spliced_cons (az (he pins s1 σ H1 _ I1 q1) λiv s2 ⟨y,H2,I2,ry,ov,g,q2⟩=>Calls.spliced_nil ?_)));exact F5 hu I2 g ry λw' s3 I3 md=>⟨_,H2,I3,md,q2⟩
theorem A5(hu:X.A.units+1<cLine)(ho:PE X o td)(he:PE X e ty)(hf:PE X f tx)(m:M2 X o "get" apos e f cY):PE X (.Call (.Attribute o "get" apos) [e,f] [] cY) (F8 td ty tx):=by
 intro pins s σ H Q I h;refine wpAny_Call_method m.base m.AL m.line PySem.F.plainAttrs_dict PySem.F.slot_dict_get PySem.F.type_dict_get (az (ho pins s σ H _ I h) λu s1 ⟨x,H1,I1,rx,a,ex,d,q1⟩=>?_);subst ex;obtain rfl:u=Value.ref a:=rx;obtain⟨t1,t2,_⟩:=vz I1 d;refine⟨t1,t2,?_⟩;rw[m.trees];refine Calls.callWith_builtin rfl (Calls.evalArgs_plain (Calls.spliced_cons (az (he pins s1 σ H1 _ I1 q1) λiv s2 ⟨y,H2,I2,ry,q2⟩ =>
  Calls.spliced_cons (az (hf pins s2 σ H2 _ I2 q2) λfv s3 ⟨z,H3,I3,rz,ov,g,q3⟩=>Calls.spliced_nil ?_))))
 exact F6 hu I3 g ry rz λw' s4 I4 md=>⟨_,H3,I4,md,q3⟩
theorem A6(ho:PE X o td)(he:PE X e ty)(hf:PE X f tx)(m:M2 X o "pop" apos e f cY):PE X (.Call (.Attribute o "pop" apos) [e,f] [] cY) (F9 td ty tx):=by
 intro pins s σ H Q I h;refine wpAny_Call_method m.base m.AL m.line PySem.F.plainAttrs_dict PySem.F.slot_dict_pop PySem.F.type_dict_pop (az (ho pins s σ H _ I h) λu s1 ⟨x,H1,I1,rx,a,ex,d,q1⟩=>?_);subst ex;obtain rfl:u=Value.ref a:=rx;obtain⟨t1,t2,_⟩:=vz I1 d;refine⟨t1,t2,?_⟩;rw[m.trees];refine Calls.callWith_builtin rfl (Calls.evalArgs_plain (Calls.spliced_cons (az (he pins s1 σ H1 _ I1 q1) λiv s2 ⟨y,H2,I2,ry,q2⟩ =>
  Calls.spliced_cons (az (hf pins s2 σ H2 _ I2 q2) λfv s3 ⟨z,H3,I3,rz,kvs,k,ea,ey,q3,q4⟩=>Calls.spliced_nil ?_))))
 subst ey;cases l:dg kvs k with
 |some v=>exact Ii I3 ea ry l (.inr ⟨fv,rfl⟩) λw' s4 I4 md=>⟨v,_,I4,md,q3 v l⟩
 |none=>exact F3 I3 ea ry l λs4 I4=>⟨z,H3,I4,rz,q4 l⟩
end
section
variable{X:Cx}{pins:List (Addr×Obj)}{σ:St}{H:Hp}{s:Shared}{a:Addr}{kvs:List (Key×V)}{A:Around}{E:Value->Shared->Prop}
end
section
variable{X:Cx}{pins:List (Addr×Obj)}{σ:St}{H:Hp}{s:Shared}{a:Addr}{y:V}{u:Value}{A:Around}{E:Value->Shared->Prop}
end
end L2
namespace Att
open PySem PySem.W PySem.Calls PyProof.Rows
section
variable{prog:Program}{w:World}{A:Around}{E:Value->Shared->Prop}{s:Shared}{K:Frag}
end
end Att
namespace L2
open PySem PySem.Spec PyProof.Rows
section
variable{P:Program}{w:World}{K:PySem.W.Frag}{mg:Str->Option Value}{base:Heap}
end
section
variable{X:Cx}
end
section
variable{κ:Type}[DecidableEq κ]
theorem xw:∀{l:List κ}{k:κ},l.Nodup->¬k∈l->(l++[k]).Nodup
 |[],k,_,_=>by simp
 |a::r,k,h,hk=>by
  obtain⟨h1,h2⟩:=List.nodup_cons.mp h;show(a::(r++[k])).Nodup;refine List.nodup_cons.mpr ⟨λm=>?_,xw h2 λm=>hk (List.mem_cons.mpr (Or.inr m))⟩;rcases List.mem_append.mp m with q|q
  ·exact h1 q
  exact hk (List.mem_cons.mpr (Or.inl (List.mem_singleton.mp q).symm))
end
def GA(P:Program)(w:World)(d:Addr)(vs:List (Key×Value))(ep:Nat):HO:=.ext λh=>h.DictAt (aR P w) d vs ep
def zF(P:Program)(w:World)(d:Addr)(kvs:List (Key×V))(u:HO):Prop:=kvs.length<=sizeLine/\(d==sysModules)=false/\∃vs ep,KV kvs vs/\u=GA P w d vs ep
def Lq(d:Addr)(u:HO)(kvs:List (Key×V)):It where
 go:=λi H=>H d=some u/\i<kvs.length
 yg:=λi H x H'=>H'=H/\∃k v,kvs[i]?=some (k,v)/\x=kV k
 stop:=λi H=>H d=some u/\kvs.length<=i
theorem A7{P:Program}{w:World}{k:Key}{u:Value}(h:(aR P w).is k u=true):RelV (kV k) u:=by
 rcases bG (k:=k) (v:=u) h with⟨i,t,rfl,rfl⟩|⟨x,t,rfl,rfl⟩
 ·exact⟨t,rfl⟩
 exact⟨t,rfl⟩
theorem A8{kvs:List (Key×V)}{vs:List (Key×Value)}(r:KV kvs vs){i:Nat}{k:Key}{u:Value}(h:vs[i]?=some (k,u)):∃v,kvs[i]?=some (k,v):=by
 induction r generalizing i with
 |nil=>simp at h
 |@cons p q ps qs hp t ih =>
  cases i with
  |zero=>simp at h;subst h;obtain⟨a,b⟩:=p;exact⟨b,by simp;exact hp.1⟩
  |succ i=>simp at h;obtain⟨v,e⟩:=ih h;exact⟨v,by simpa using e⟩
theorem zG{P:Program}{w:World}{K:PySem.W.Frag}{tg:Expr}{d it:Addr}{kvs:List (Key×V)}{vs:List (Key×Value)}{ep:Nat}(r:KV kvs vs):
  Turn P w K tg (Lq d (GA P w d vs ep) kvs) [it] it (λi h=>h.IsKeyIter it d i vs.length ep)where
 mem:=by simp
 obj:=λi h st b hb=>by
  have e:b=it:=by simpa using hb
  subst e;obtain⟨o,e,c,dd⟩:=st;exact⟨o,e,λv z=>by rw[dd]at z;cases z⟩
 keep:=λi h h' st k=>st.at λo e=>k it (by simp) o e
 item:=by
  intro X hP hw hK hc i pins s σ H E I hf st hg;subst hP hw hK;obtain⟨hd,hi⟩:=hg;have hm:s.heap.DictAt (aR X.prog X.w) d vs ep:=(show ay X.prog X.w H s.heap d (GA X.prog X.w d vs ep)from I.aw d _ hd).1;have l:=r.length;obtain⟨⟨k,v⟩,hx⟩:∃p,vs[i]?=some p:=⟨vs[i]'(by lia),by simp[show i<vs.length by lia]⟩;obtain⟨v',lR⟩:=A8 r hx;obtain⟨f0,f1,f2,f3,f4,f5⟩:=hf it (by simp);refine wpAny_pyNext_dict_item st hm hx λkey h' vZ aP sb=>?_;have I1:Inv X pins σ H { s with heap:=h' }:=I.turned (t':=s.toks) (λb o hb e=>sb.extBut b o hb e) f0 f1 f3 f4 f5
  obtain⟨o,e,c,dd⟩:=id aP;exact⟨key,rfl,tu (s:={ s with heap:=h' }) e c dd (by decide) ⟨kV k,H,I1,A7 vZ,⟨rfl,k,v',lR,rfl⟩,aP,λb hb=>(hf b hb).1⟩⟩
 done:=by intro X hP hw hK hc i pins s σ H E I hf st hg;subst hP hw hK;obtain⟨hd,hi⟩:=hg;have hm:s.heap.DictAt (aR X.prog X.w) d vs ep:=(show ay X.prog X.w H s.heap d (GA X.prog X.w d vs ep)from I.aw d _ hd).1;have l:=r.length;obtain⟨f0,f1,f2,f3,f4,f5⟩:=hf it (by simp);exact wpAny_pyNext_dict_end (I.ok.hd hc) st hm (by simp;lia) λh' eb=>⟨rfl,I.turned (t':=s.toks) (λb o hb e=>eb b o hb e) f0 f1 f3 f4 f5⟩
 self:=λ_ _ _ _ _ st h=>wpAny_pyIter_keyiter st h
section
variable{X:Cx}
theorem Inv.freeze{pins:List (Addr×Obj)}{σ:St}{H:Hp}{s:Shared}{d:Addr}{kvs:List (Key×V)}(I:Inv X pins σ H s)(hd:H d=some (.dK kvs)):
  ∃vs ep,KV kvs vs/\kvs.length<=sizeLine/\(d==sysModules)=false/\s.heap.DictAt (aR X.prog X.w) d vs ep/\Inv X pins σ (upd H d (GA X.prog X.w d vs ep)) s:=by
 obtain⟨z,hs,vs,rel,o,es,ep,ho,r⟩:=(show ay X.prog X.w H s.heap d (.dK kvs)from I.aw d _ hd);have hm:s.heap.DictAt (aR X.prog X.w) d vs ep:=⟨o,es,ho,r⟩;refine⟨vs,ep,rel,z,hs,hm,?_⟩;exact I.write (x:=d) (e:=d) (h':=s.heap) (t':=s.toks) (by rw[hd];exact True.intro) (.inl rfl) (λ_ _ _ q=>q) ⟨o,ho⟩ ⟨hm,⟨o,ho⟩,λh1 h2 x k=>x.at' k⟩
theorem Inv.A9{pins:List (Addr×Obj)}{σ:St}{H:Hp}{s:Shared}{d:Addr}{kvs:List (Key×V)}{u:HO}(I:Inv X pins σ H s)(ok:zF X.prog X.w d kvs u)(hd:H d=some u):Inv X pins σ (upd H d (.dK kvs)) s:=by obtain⟨z,hs,vs,ep,rel,rfl⟩:=ok;have hm:s.heap.DictAt (aR X.prog X.w) d vs ep:=(show ay X.prog X.w H s.heap d (GA X.prog X.w d vs ep)from I.aw d _ hd).1;obtain⟨o,es,ho,r⟩:=id hm;exact I.write (x:=d) (e:=d) (h':=s.heap) (t':=s.toks) (by rw[hd];exact True.intro) (.inl rfl) (λ_ _ _ q=>q) ⟨o,ho⟩ ⟨z,hs,vs,rel,hm.dictOf⟩
def Il(P:Program)(w:World)(td:TE):TI:=λσ H R=>td σ H λx H1=>∃d kvs,x=.ref d/\H1 d=some (.dK kvs)/\∀u,zF P w d kvs u->R (Lq d u kvs) (upd H1 d u)
theorem uP(P:Program)(w:World){tg l:Expr}{td:TE}(hl:PE X l td)(hP:X.prog=P:=by rfl)(hw:X.w=w:=by rfl):PI X tg l (Il P w td):=by
 subst hP hw;intro pins s σ H R I h;refine az (hl pins s σ H _ I h) λv s1 ⟨x,H1,I1,r1,q1⟩=>?_;obtain⟨d,kvs,rfl,hd,q⟩:=q1;cases r1;obtain⟨vs,ep,rel,z,hs,hm,I2⟩:=I1.freeze hd;refine wpAny_pyIter_dict hs hm ?_;refine⟨s1.heap.objs.size,[s1.heap.objs.size],_,_,_,rfl,I2.kept (t':=s1.toks) λb o e=>Heap.get?_push_of_some _ e,zG rel,⟨_,Heap.get?_push_size _ rfl,rfl,rfl⟩,λb hb=>?_,q _ ⟨z,hs,vs,ep,rel,rfl⟩⟩;have e:b=s1.heap.objs.size:=by simpa using hb
 subst e;exact I2.rm (Nat.le_refl _) (I2.aw.fresh (Nat.le_refl _))
end
section
variable{g:TG}{tt:TT}{te:TE}{D:Addr}{σ:St}{H:Hp}{Q:VK}
theorem xx{d:Addr}{u:HO}{kvs:List (Key×V)}(Pv:Nat->St->Hp->Prop)(h0:Pv 0 σ H)(hl:∀i σ H,i<=kvs.length->Pv i σ H->H d=some u)(hs:∀(i:Nat)(k:Key)(v:V)(σ:St)(H:Hp)(N:St->Hp->Prop),(∀σ H,Pv (i+1) σ H->N σ H)->kvs[i]?=some (k,v)->Pv i σ H->g (kV k) σ H λσ3 H3=>tt σ3 H3 λb H4 =>
   if b=true then te σ3 H4 λv H5=>∃ys,H5 D=some (.lst ys)/\ys.length<sizeLine/\N σ3 (upd H5 D (.lst (ys++[v])))else N σ3 H4)(hd:∀σ H,Pv kvs.length σ H->Q (.ref D) H):oh (Lq d u kvs) g tt te D σ H Q:=by
 refine⟨λi m σ H=>m=kvs.length-i/\i<=kvs.length/\Pv i σ H,⟨kvs.length,by simp,Nat.zero_le _,h0⟩,?_⟩;rintro i m σ' H' ⟨rfl,hi,p⟩;have q1:=hl i σ' H' hi p;by_cases bq:i<kvs.length
 ·refine .inr ⟨⟨q1,bq⟩,λx H2 y=>?_⟩;obtain⟨rfl,k,v,ex,rfl⟩:=y;exact hs i k v σ' _ (λσ3 H3=>∃m',m'<kvs.length-i/\m'=kvs.length-(i+1)/\i+1<=kvs.length/\Pv (i+1) σ3 H3) (λσ3 H3 z=>⟨kvs.length-(i+1),by lia,rfl,bq,z⟩) ex p
 have e:i=kvs.length:=by lia
 subst e;exact .inl ⟨⟨q1,Nat.le_refl _⟩,hd σ' H' p⟩
end
section
variable{X:Cx}
def Im(P:Program)(w:World)(t:TE):TE:=λσ H Q=>t σ H λx H1=>∃d kvs u,zF P w d kvs u/\H1 d=some u/\Q x (upd H1 d (.dK kvs))
theorem DJ(P:Program)(w:World){e:Expr}{t:TE}(h:PE X e t)(hP:X.prog=P:=by rfl)(hw:X.w=w:=by rfl):PE X e (Im P w t):=by subst hP hw;intro pins s σ H Q I q;exact az (h pins s σ H _ I q) λv s1 ⟨x,H1,I1,r1,d,kvs,u,ok,hd,q1⟩=>⟨x,_,I1.A9 ok hd,r1,q1⟩
def Io(P:Program)(w:World)(t:TS):TS:=λD σ H=>t { D with nx:=λσ' H'=>∃d kvs u,zF P w d kvs u/\H' d=some u/\D.nx σ' (upd H' d (.dK kvs)) } σ H
theorem DK(P:Program)(w:World){st:Stmt}{t:TS}(h:PS X st t)(hP:X.prog=P:=by rfl)(hw:X.w=w:=by rfl):PS X st (Io P w t):=by
 subst hP hw;intro pins s σ H D I q;refine wpAny_mono (h pins s σ H _ I q) (λf s' q=>?_) λ_ _ z=>z;cases f with
 |next=>obtain⟨σ',H',I',d,kvs,u,ok,hd,q⟩:=q;exact⟨σ',_,I'.A9 ok hd,q⟩
 |brk=>exact q
 |cont=>exact q
 |ret u=>exact q
end
section
variable{g:TG}{tt:TT}{te:TE}{D:Addr}{σ:St}{H:Hp}{Q:VK}
end
section
variable{X:Cx}{o e value:Expr}{f:Str}{pos pos':Pos}{ta tv:TE}
theorem lq(K:PySem.W.Frag)(he:PE X e ta)(hb:attributeBase e f X.env (eval e X.env)=eval e X.env)(hK:X.K=K:=by rfl):PE X (.Attribute e f pos) (Hs K ta f):=by subst hK;exact Fk he hb
theorem DL(K:PySem.W.Frag)(ha:PE X o ta)(hv:PE X value tv)(hs:swapsWith value (some (.Attribute o f pos')) pos.line X.env=pure false)(hK:X.K=K:=by rfl):PS X (.Assign [.Attribute o f pos'] value pos) (Hu K ta tv f):=by subst hK;exact Fl ha hv hs
end
section
variable{X:Cx}
end
section
variable{X:Cx}{te:TE}{t:TA}{es Q0:List Expr}
end
section
variable{prog:Program}{w:World}{A:Around}{E:Value->Shared->Prop}{s:Shared}
end
section
variable{prog:Program}{w:World}{A:Around}{E:Value->Shared->Prop}{s:Shared}
end
section
variable{X:Cx}
end
section
variable{K:PySem.W.Frag}{g:TG}{σ:St}{H:Hp}
end
section
variable{X:Cx}
inductive Es(K:PySem.W.Frag)(H:Hp):V->Value->Prop where
 |bS:Es K H .bS (.type "NoneType")
 |int (i:Int):Es K H (.int i) (.type "int")
 |bl (b:Bool):Es K H (.bl b) (.type "bool")
 |str (x:Str):Es K H (.str x) (.type "str")
 |tup {a:Addr} {xs:List V}:ar K H a xs->Es K H (.ref a) (.type "tuple")
 |lst {a:Addr} {xs:List V}:af K H a xs->Es K H (.ref a) (.type "list")
theorem DM{pins:List (Addr×Obj)}{σ:St}{H:Hp}{s:Shared}{x:V}{u t:Value}(I:Inv X pins σ H s)(r:RelV x u)(ty:Es X.K H x t):∃G:Heap->Prop,PySem.W.KitX X.K u t G/\G s.heap/\u≠.builtin "__main__.__loader__#opaque":=by
 cases ty with
 |bS=>cases(show u=Value.none from r);exact⟨_,PySem.W.kitx_none,True.intro,λz=>nomatch z⟩
 |int i=>obtain⟨t,q⟩:=(show ∃t,u=Value.int i t from r);cases q;exact⟨_,PySem.W.kitx_int,True.intro,λz=>nomatch z⟩
 |bl b=>cases(show u=Value.bool b from r);exact⟨_,PySem.W.kitx_bool,True.intro,λz=>nomatch z⟩
 |str x=>obtain⟨t,q⟩:=(show ∃t,u=Value.str x t from r);cases q;exact⟨_,PySem.W.kitx_str,True.intro,λz=>nomatch z⟩
 |@tup a xs h =>
  cases(show u=Value.ref a from r);obtain⟨aS,_,⟨o,ho,hc,_⟩,_⟩:=I.tuple h;exact⟨_,PySem.W.kitx_tuple,⟨o,ho,hc⟩,λz=>nomatch z⟩
 |@lst a xs h =>
  cases(show u=Value.ref a from r);obtain⟨aS,_,p,_⟩:=I.list h;obtain⟨o,ho,hc,_⟩:=p.isList;exact⟨_,PySem.W.kitx_list,⟨o,ho,hc⟩,λz=>nomatch z⟩
def Et(K:PySem.W.Frag):List V->Hp->VK->Prop:=λxs H Q=>∃x n t b,xs=[x,.ty n]/\Es K H x t/\PySem.W.kitOne K t (.type n)=some b/\Q (.bl b) H
theorem zH:dC X (.builtin "isinstance") (Et X.K):=by intro pins s σ H vs us Q I rv h;obtain⟨x,n,t,b,rfl,ty,e,q⟩:=h;obtain⟨u,v,rfl,ru,md⟩:=rv.two;obtain rfl:v=.type n:=md;obtain⟨G,z,g,hn⟩:=DM I ru ty;exact PySem.W.kia_one z I.mV g e hn λtk=>⟨.bl b,H,I.tok _,rfl,q⟩
theorem lr(K:PySem.W.Frag){e1 e2:Expr}{t:TA}{p pos:Pos}(hm:X.mg "isinstance"=none)(ha:PA X [e1,e2] t)(hK:X.K=K:=by rfl)(hg:Gl X "isinstance":=by rfl)(he:starEach [e1,e2] X.env=(false,eval e1 X.env)::starEach [e2] X.env:=by rfl)(vK:(backTo pos (starEach [e2] X.env)).any (·.1)=false:=by rfl):
  PE X (.Call (.Name "isinstance" p) [e1,e2] [] pos) (KG (Et K) t):=by
 subst hK;exact aZ zH hg hm boot_isinstance ha (by decide) (by decide) he vK
end
def ent:Option Int->V
 |none=>.bS
 |some n=>.int n
theorem uQ(e:Option Int):i8 (ent e)=true:=by cases e<;>rfl
theorem DN(x y:Option Int):vk (ent x) (ent y)=decide (x=y):=by
 cases x<;>cases y
 ·rfl
 ·rfl
 ·rfl
 rename_i a b;show(a==b)=_;by_cases h:a=b<;>simp[h]
theorem BA:∀(x y:List (Option Int)),((List.range (min x.length y.length)).all (λj=>decide ((x[j]?).getD none=(y[j]?).getD none))&&(x.length==y.length))=decide (x=y)
 |x,y=>by
  by_cases h:x=y
  ·subst h;simp
  rw[decide_eq_false h];by_cases hl:x.length=y.length
  ·rw[Bool.and_eq_false_iff];left;rw[List.all_eq_false];apply Classical.byContradiction;intro hn;apply h;apply List.ext_getElem?;intro j;by_cases hj:j<x.length
   ·have G9:j<y.length:=(by lia);have:=Classical.byContradiction λhz=>hn ⟨j,List.mem_range.mpr (by lia),hz⟩;have e:=of_decide_eq_true this;simp only[List.getElem?_eq_getElem hj,List.getElem?_eq_getElem G9,Option.getD_some]at e ⊢;rw[e]
   rw[List.getElem?_eq_none (by lia),List.getElem?_eq_none (by lia)]
  simp[hl]
section
variable{X:Cx}{pins:List (Addr×Obj)}{σ:St}{H:Hp}{s:Shared}
end
section
variable{X:Cx}
end
def fD(h:Heap)(x:List (Option Int))(a:Addr):Prop:=∃aS:List Value,aX (x.map ent) aS/\h.IsTuple a aS.toArray
def ls:Int:=0xFCA86420
def oI:Option Int->Int
 |some k=>hashInt k
 |none=>ls
def oJ(x:List (Option Int)):Int:=reduceHash (Builtin.Tuple.tupleHashOf (x.map oI))
theorem oK{h:Heap}{a:Addr}{x y:Array Value}(hx:h.IsTuple a x)(hy:h.IsTuple a y):x=y:=by obtain⟨o,ho,_,n,hd⟩:=hx;obtain⟨o',tS,_,n',qA⟩:=hy;rw[ho]at tS;obtain rfl:=Option.some.inj tS;rw[hd]at qA;injection qA with h1 _
theorem uR:∀{x y:List (Option Int)}{vs:List Value},aX (x.map ent) vs->aX (y.map ent) vs->x=y
 |[],[],_,_,_=>rfl
 |[],_::_,_,.nil,h=>by cases h
 |_::_,[],_,h,.nil=>by cases h
 |a::x,b::y,_,.cons r t,.cons r' t'=>by
  rw[uR t t']
  congr 1
  cases a with
  |none =>
   cases b with
   |none=>rfl
   |some j=>cases(show _=Value.none from r);obtain⟨_,e⟩:=(show ∃t,Value.none=Value.int j t from r');cases e
  |some i =>
   obtain⟨u,rfl⟩:=(show ∃t,_=Value.int i t from r);cases b with
   |none=>have e:=(show Value.int i u=Value.none from r');cases e
   |some j=>obtain⟨_,e⟩:=(show ∃t,Value.int i u=Value.int j t from r');cases e;rfl
theorem fD.inj{h:Heap}{a:Addr}{x y:List (Option Int)}(hx:fD h x a)(hy:fD h y a):x=y:=by
 obtain⟨aS,r,ht⟩:=hx;obtain⟨its',r',Oy⟩:=hy;have e:=oK ht Oy;have e':aS=its':=by simpa using congrArg Array.toList e
 subst e';exact uR r r'
theorem ot{h h':Heap}{a d:Addr}{x:Array Value}{o:Obj}{es ep}(hx:h.IsTuple a x)(ho:h.get? d=some o)(hd:o.data=.dict es ep)(hs:Heap.SameBut d h h'):h'.IsTuple a x:=by
 obtain⟨o',tS,hc,n,qA⟩:=hx;have Ig:a≠d:=by rintro rfl;rw[ho]at tS;obtain rfl:=Option.some.inj tS;rw[hd]at qA;exact nomatch qA
 exact⟨o',(hs.2 a Ig).trans tS,hc,n,qA⟩
section
variable{prog:Program}{w:World}{A:Around}{E:Value->Shared->Prop}{s:Shared}
theorem uS{Q:Int->Shared->Prop}(h:Q ls { s with toks:=s.toks+1 }):wpAny (model prog w) A (pyHash .none) Q E s:=by
 have hT:=typeIs_none s;unfold pyHash;unfold pyHashByItsType;have hv:[Value.none].any Value.onHeap=false:=rfl;refine wpAny_bind ?_;rw[cRoomFor,if_neg (by rw[hv];exact Bool.false_ne_true)];refine wpAny_pure ?_;refine wpAny_bind (wpAny_specialOf hT F.slot_NoneType_hash.lookup ?_);refine(show wpAny _ _ (if(some (Value.builtin "NoneType.__hash__")==some Value.none)=true then _ else _) Q E s from ?_);rw[if_neg (by rw[beq_builtin_none];exact Bool.false_ne_true)];refine wpAny_bind (wpAny_specialOf hT F.slot_NoneType_hash.lookup ?_);refine(show wpAny _ _ (callSpecialIfBoundUnlessNone? Value.none "__hash__" _ >>= _) Q E s from ?_);refine wpAny_bind (wpAny_callSpecialIfBoundUnlessNone?_slot hT F.slot_NoneType_hash (wpAny_call_entry F.slot_NoneType_hash hT F.entry_NoneType_hash ?_ (F.args_NoneType_hash_1 _)));refine(show wpAny _ _ (do ret (<- mkInt 0xFCA86420)) _ _ s from wpAny_ret_mkInt ?_)
 exact wpAny_pure h
theorem lu{a:Addr}{all:List (Value×Int×Nat)}{Q:Int->Shared->Prop}(hu:A.units<cLine)(ht:s.heap.IsTuple a (all.map (·.1)).toArray)(hi:∀x∈all,∀(tk:Nat)(Q:Int->Shared->Prop),Q x.2.1 { s with toks:=tk+x.2.2 }->wpAny (model prog w) A.in1 (pyHash x.1) Q E { s with toks:=tk })(h:Q (reduceHash (Builtin.Tuple.tupleHashOf (all.map (·.2.1)))) { s with toks:=s.toks+((all.map (·.2.2)).sum+1) }):wpAny (model prog w) A (pyHash (.ref a)) Q E s:=by
 have hT:s.TypeIs (.ref a) "tuple":=let⟨o,ho,hc,_⟩:=ht;⟨o,ho,hc⟩;obtain⟨o,ho,_,n,hd⟩:=ht;unfold pyHash;unfold pyHashByItsType;refine wpAny_bind (wpAny_cRoomFor_or (.inr hu) ?_);refine wpAny_bind (wpAny_specialOf hT F.slot_tuple_hash.lookup ?_);refine(show wpAny _ _ (if(some (Value.builtin "tuple.__hash__")==some Value.none)=true then _ else _) Q E s from ?_);rw[if_neg (by rw[beq_builtin_none];exact Bool.false_ne_true)];refine wpAny_bind (wpAny_specialOf hT F.slot_tuple_hash.lookup ?_);refine(show wpAny _ _ (callSpecialIfBoundUnlessNone? (.ref a) "__hash__" _ >>= _) Q E s from ?_);refine wpAny_bind (wpAny_callSpecialIfBoundUnlessNone?_slot hT F.slot_tuple_hash (wpAny_call_entry F.slot_tuple_hash hT F.entry_tuple_hash ?_ (F.args_tuple_hash_1 _)));refine(show wpAny _ _ (Builtin.Tuple.tupleItemsOf (.ref a) >>= _) _ _ s from wpAny_bind (wpAny_tupleItemsOf ho hd (wpAny_bind ?_)));rw[<-Array.forIn_toList];refine wpAny_forIn_list _
  (λrest (b:Array Int) s'=>∃done left,all=done++left/\rest=left.map (·.1)/\b.toList=done.map (·.2.1)/\s'={ s with toks:=s.toks+(done.map (·.2.2)).sum })
  _ ?_ ?_ _ _ ⟨[],all,rfl,by simp,rfl,rfl⟩
 ·rintro x rest b s' ⟨done,left,rfl,hl,hb,rfl⟩
  match left,hl with
  |y::Eu,hl =>
   rw[List.map_cons]at hl;obtain⟨rfl,rfl⟩:=List.cons.inj hl;refine wpAny_bind (hi y (by simp) _ _ ?_)
   first
    |exact wpAny_pure ⟨done++[y],Eu,by simp,rfl,by simp[hb],by simp[Nat.add_assoc]⟩
    |exact wpAny_bind (wpAny_pure (wpAny_pure ⟨done++[y],Eu,by simp,rfl,by simp[hb],by simp[Nat.add_assoc]⟩))
 rintro b s' ⟨done,left,rfl,hl,hb,rfl⟩;have:left=[]:=List.map_eq_nil_iff.mp hl.symm;subst this;rw[List.append_nil]at h;refine(show wpAny _ _ (retInt (Builtin.Tuple.tupleHashOf b.toList)) _ _ _ from ?_);rw[hb];refine wpAny_ret_mkInt ?_;refine(show wpAny _ _ (if(decide (-(2:Int) ^ 63<=Builtin.Tuple.tupleHashOf (done.map (·.2.1)))&&decide (Builtin.Tuple.tupleHashOf (done.map (·.2.1))<2 ^ 63))=true then _ else _) Q E _ from ?_);unfold reduceHash at h;by_cases hr:(decide (-(2:Int) ^ 63<=Builtin.Tuple.tupleHashOf (done.map (·.2.1)))&&decide (Builtin.Tuple.tupleHashOf (done.map (·.2.1))<2 ^ 63))=true
 ·rw[if_pos hr];rw[if_pos hr]at h;exact wpAny_pure (by simpa[Nat.add_assoc]using h)
 rw[if_neg hr];rw[if_neg hr]at h;exact wpAny_bind (wpAny_rule (wpAny_pure (by simpa[Nat.add_assoc]using h)))
theorem ox{x:List (Option Int)}{a:Addr}{Q:Int->Shared->Prop}(hu:A.units<cLine)(hx:fD s.heap x a)(h:Q (oJ x) { s with toks:=s.toks+(x.length+1) }):wpAny (model prog w) A (pyHash (.ref a)) Q E s:=by
 obtain⟨aS,r,ht⟩:=hx;have hl:=r.length;rw[List.length_map]at hl;have sums:∀{x:List (Option Int)}{aS:List Value},aX (x.map ent) aS->∃all:List (Value×Int×Nat),all.map (·.1)=aS/\all.map (·.2.1)=x.map oI/\(all.map (·.2.2)).sum=x.length/\∀y∈all,y.2.2=1/\((y.1=.none/\y.2.1=ls)\/∃i t,y.1=.int i t/\y.2.1=hashInt i):=by
  intro x
  induction x with
  |nil=>intro aS r;cases r;exact⟨[],rfl,rfl,rfl,λy hy=>by cases hy⟩
  |cons e x ih =>
   intro aS r;cases r with
   |cons r t =>
    obtain⟨all,a1,a2,a3,a4⟩:=ih t;cases e with
    |none =>
     cases(show _=Value.none from r);refine⟨(.none,ls,1)::all,by simp[a1],by simp[a2,oI],by simp[a3];lia,λy hy=>?_⟩;rcases List.mem_cons.mp hy with rfl|hy
     ·exact⟨rfl,.inl ⟨rfl,rfl⟩⟩
     exact a4 y hy
    |some i =>
     obtain⟨u,rfl⟩:=(show ∃t,_=Value.int i t from r);refine⟨(.int i u,hashInt i,1)::all,by simp[a1],by simp[a2,oI],by simp[a3];lia,λy hy=>?_⟩;rcases List.mem_cons.mp hy with rfl|hy
     ·exact⟨rfl,.inr ⟨i,u,rfl,rfl⟩⟩
     exact a4 y hy
 obtain⟨all,a1,a2,a3,a4⟩:=sums r;refine lu (all:=all) hu (by rw[a1];exact ht) (λy hy tk Q' hq=>?_) (by rw[a2,a3];exact h);obtain⟨e1,e2⟩:=a4 y hy;rw[e1]at hq;rcases e2 with⟨e3,e4⟩|⟨i,t,e3,e4⟩
 ·rw[e3];rw[e4]at hq;exact uS hq
 rw[e3];rw[e4]at hq;exact wpAny_pyHash_int hq
theorem rowAt{x y:List (Option Int)}{a b:Addr}(hu:A.units<cLine)(hx:fD s.heap x a)(hy:fD s.heap y b):SeqAt.EqAt A s (.ref a) (.ref b) (decide (x=y)):=by
 by_cases zA:a=b
 ·subst zA;rw[decide_eq_true (hx.inj hy)];exact SeqAt.EqAt.same _
 obtain⟨aS,r1,p1⟩:=hx;obtain⟨mZ,r2,p2⟩:=hy;have l1:=r1.length;have l2:=r2.length;rw[List.length_map]at l1 l2;refine SeqAt.EqAt.of_refs zA ?_;have q:=SeqAt.RcAt.tuples (A:=A) (s:=s) (e:=λj=>decide ((x[j]?).getD none=(y[j]?).getD none)) p1 p2 hu λj h1 h2=>?_
 ·rw[List.size_toArray,List.size_toArray,<-l1,<-l2,BA]at q;exact q
 obtain⟨u,hx,rx⟩:=jI r1 j h1;obtain⟨v,hy,ry⟩:=jI r2 j h2;rw[List.getElem?_map]at hx hy;cases ex:x[j]? with
 |none=>rw[ex]at hx;cases hx
 |some eu =>
  cases ey:y[j]? with
  |none=>rw[ey]at hy;cases hy
  |some ev =>
   rw[ex]at hx;rw[ey]at hy;obtain rfl:ent eu=u:=Option.some.inj hx;obtain rfl:ent ev=v:=Option.some.inj hy;have:=vm (A:=A.in1) (s:=s) rx ry (uQ eu) (uQ ev);rw[DN]at this;exact this
theorem nV(n:Nat){a:Addr}{items:Array Value}{Q:Bool->Shared->Prop}(ht:s.heap.IsTuple a items)(hi:∀v∈items.toList,∀Q:Bool->Shared->Prop,Q true s->wpAny (model prog w) A (eqIsQuiet n v) Q E s)(h:Q true s):wpAny (model prog w) A (eqIsQuiet (n+1) (.ref a)) Q E s:=by
 have hT:s.TypeIs (.ref a) "tuple":=let⟨o,ho,hc,_⟩:=ht;⟨o,ho,hc⟩;obtain⟨o,ho,_,m,hd⟩:=ht;unfold eqIsQuiet;refine wpAny_bind (wpAny_specialOf hT F.slot_tuple_eq.lookup ?_);refine(show wpAny _ _ (isInstance (.ref a) (.type "tuple") >>= _) _ _ s from wpAny_bind (wpAny_isInstance hT isSubtype_tuple_tuple ?_));simp only[Bool.not_true,Bool.false_eq_true,if_false];refine wpAny_bind (wpAny_seqItems ho hd (wpAny_bind ?_));refine(show wpAny _ _ (forIn items _ _) _ _ s from ?_);rw[<-Array.forIn_toList];refine wpAny_forIn_list _ (λrest r s'=>r.1=none/\s'=s/\∀v∈rest,v∈items.toList) _ ?_ ?_ _ _ ⟨rfl,rfl,λv hv=>hv⟩
 ·rintro v rest r s' ⟨hr,rfl,y4⟩;refine wpAny_bind (hi v (y4 v List.mem_cons_self) _ ?_);simp only[Bool.not_true,Bool.false_eq_true,if_false];exact wpAny_pure ⟨rfl,rfl,λu Oz=>y4 u (List.mem_cons_of_mem _ Oz)⟩
 rintro⟨r1,r2⟩ s' ⟨hr,rfl,_⟩;simp only at hr;subst hr;exact wpAny_pure h
theorem rD(n:Nat){x:List (Option Int)}{a:Addr}{Q:Bool->Shared->Prop}(hx:fD s.heap x a)(h:Q true s):wpAny (model prog w) A (eqIsQuiet (n+1) (.ref a)) Q E s:=by
 obtain⟨aS,r,ht⟩:=hx;refine nV n ht (λv hv Q' hq=>?_) h;have hb:carriedByValue v=true:=by
  have lR:v∈aS:=by simpa using hv
  clear hv;have all:∀{x:List (Option Int)}{aS:List Value},aX (x.map ent) aS->∀v∈aS,carriedByValue v=true:=by
   intro x
   induction x with
   |nil=>intro aS r v hv;cases r;cases hv
   |cons e x ih =>
    intro aS r v hv;cases r with
    |cons r t =>
     rcases List.mem_cons.mp hv with rfl|hv
     ·cases e with
      |none=>cases(show v=Value.none from r);rfl
      |some i=>obtain⟨u,rfl⟩:=(show ∃t,v=Value.int i t from r);rfl
     exact ih t v hv
  exact all r v lR
 rw[eqIsQuiet_byValue _ hb];exact wpAny_pure hq
end
section
variable{X:Cx}{pins:List (Addr×Obj)}{σ:St}{H:Hp}{s:Shared}{a:Addr}{xs:SX}{A:Around}{E:Value->Shared->Prop}
theorem Ew(I:Inv X pins σ H s){b:Addr}{x:List (Option Int)}(h:ar X.K H b (x.map ent)):fD s.heap x b:=by obtain⟨aS,r,ht,_⟩:=I.tuple h;exact⟨aS,r,ht⟩
end
section
variable{X:Cx}
variable{o i value:Expr}{pos pos':Pos}{td ty tv:TE}
end
def mm(d:Addr)(es:Array DictEntry)(ep:Nat)(h:Heap):Prop:=∃o,h.get? d=some o/\o.ExactDict/\o.data=.dict es ep
theorem mm.typeIs{s:Shared}{d:Addr}{es:Array DictEntry}{ep:Nat}(x:mm d es ep s.heap):s.TypeIs (.ref d) "dict":=let⟨o,ho,hc,_⟩:=x;⟨o,ho,hc.1⟩
theorem mm.at_{h h':Heap}{d:Addr}{es:Array DictEntry}{ep:Nat}(x:mm d es ep h)(e:∀o,h.get? d=some o->h'.get? d=some o):mm d es ep h':=let⟨o,ho,r⟩:=x;⟨o,e _ ho,r⟩
section
variable{prog:Program}{w:World}{A:Around}{E:Value->Shared->Prop}{s:Shared}{d:Addr}{es:Array DictEntry}{ep:Nat}
theorem BB{Q:Value->Shared->Prop}(hd:(d==sysModules)=false)(x:mm d es ep s.heap)(hQ:Q (.ref s.heap.objs.size) { s with heap:=s.heap.push { cls:=.type "dict_keyiterator",data:=.fields #[.ref d,.int 0 0,.int es.size 0,.int ep 0] } }):
  wpAny (model prog w) A (pyIter (.ref d)) Q E s:=by
 have hT:=x.typeIs;obtain⟨o,ho,hc,zJ⟩:=x;refine wpAny_pyIter_slot hT F.slot_dict_iter (wpAny_call_entry F.slot_dict_iter hT F.entry_dict_iter ?_ (F.args_dict_iter_1 _));unfold Builtin.«dict.__iter__»;refine wpAny_bind ?_;unfold Builtin.Dict.dictSlotNone;refine wpAny_bind (wpAny_notOrdered_dict hT ?_);refine(show wpAny _ _ (pure (Value.ref d)) _ _ s from wpAny_pure ?_);refine(show wpAny _ _ (Builtin.Dict.showsAll d >>= _) _ _ s from ?_);unfold Builtin.Dict.showsAll;rw[if_neg (by rw[hd];exact Bool.false_ne_true)];refine wpAny_bind (wpAny_pure (wpAny_bind (wpAny_dictEntries ho zJ (wpAny_bind (wpAny_dictEpoch ho zJ ?_)))));refine wpAny_bind (wpAny_newObj_type (wpAny_pure ⟨_,rfl,"dict_keyiterator",_,⟨_,Heap.get?_push_size _ rfl,rfl⟩,F.slot_dict_keyiterator_next.lookup,?_⟩))
 simpa[rawInt]using hQ
theorem BC{it:Addr}{i:Nat}{Q:Option Value->Shared->Prop}(hit:s.heap.IsKeyIter it d i es.size ep)(x:mm d es ep s.heap)(bq:i<es.size)(hQ:∀h',h'.IsKeyIter it d (i+1) es.size ep->Heap.SameBut it s.heap h'->Q (some es[i].key) { s with heap:=h' }):wpAny (model prog w) A (pyNext (.ref it)) Q E s:=by
 obtain⟨o,ho,hc,hd⟩:=id hit;obtain⟨od,Ip,tT,Iq⟩:=x;unfold pyNext;refine wpAny_bind (wpAny_attempt (wpAny_callSpecial?_slot (name:=Str.ofString "__next__") hit.typeIs F.slot_dict_keyiterator_next
  (wpAny_call_entry F.slot_dict_keyiterator_next hit.typeIs F.entry_dict_keyiterator_next ?_ (F.args_dict_keyiterator_next_1 _))))
 refine wpAny_bind (wpAny_pure ?_);refine wpAny_bind ?_;refine wpAny_bind ?_
 first|refine wpAny_bind (wpAny_typeNameOfWhole_keyiter hit.typeIs (wpAny_pure ?_))|refine wpAny_bind (wpAny_typeNameOf_keyiter hit.typeIs (wpAny_pure ?_))
 refine wpAny_bind (wpAny_fieldsOf ho hd ?_);have GB:Builtin.Dict_items.ownsTuple "dict_keyiterator"=false:=by decide
 simp only[GB,Bool.false_eq_true,if_false];refine(show wpAny _ _ (if(Value.ref d==Value.none)=true then _ else _) _ _ s from ?_);rw[if_neg (show ¬((Value.ref d==Value.none)=true)from Bool.false_ne_true)];refine wpAny_bind (wpAny_pure (wpAny_bind (wpAny_dictEntries Ip Iq ?_)));rw[if_neg (by simp)];refine wpAny_bind (wpAny_pure (wpAny_bind (wpAny_dictEpoch Ip Iq ?_)));rw[if_neg (by simp)];refine wpAny_pure ?_;simp only[show ¬((i:Int)<0)from by lia,if_false,Int.toNat_natCast,Array.getElem?_eq_getElem bq];refine wpAny_bind ?_
 first|refine wpAny_bind (wpAny_typeNameOfWhole_keyiter hit.typeIs (wpAny_pure ?_))|refine wpAny_bind (wpAny_typeNameOf_keyiter hit.typeIs (wpAny_pure ?_))
 refine wpAny_bind (wpAny_isOneOf_keyiter hit.typeIs ?_);refine(show wpAny _ _ (setField (.ref it) 1 (rawInt ((i:Int)+1)) >>= _) _ _ s from ?_);refine wpAny_bind (wpAny_setField ho hd (by simp) ?_);have Ir:(s.heap.update it (Obj.mapFields (·.setIfInBounds 1 (rawInt ((i:Int)+1))))).IsKeyIter it d (i+1) es.size ep :=
  ⟨_,Heap.get?_update_self _ ho (Obj.isFreed_of_fields (Obj.data_mapFields hd _)),(Obj.cls_mapFields ..).trans hc,by rw[Obj.data_mapFields hd];simp[rawInt]⟩
 refine wpAny_bind (wpAny_holding ?_);refine wpAny_bind (wpAny_isOneOf_keyiter (s:={ s with heap:=s.heap.update it (Obj.mapFields (·.setIfInBounds 1 (rawInt ((i:Int)+1)))) }) Ir.typeIs ?_);refine(show wpAny _ _ (pure es[i].key) _ _ _ from ?_);exact wpAny_pure (wpAny_pure ⟨_,rfl,wpAny_pure (hQ _ Ir (Heap.SameBut.update ..))⟩)
end
section
variable{prog:Program}{w:World}{A:Around}{E:Value->Shared->Prop}{s:Shared}{d:Addr}{es:Array DictEntry}{ep:Nat}
theorem DO{it:Addr}{i:Nat}{Q:Option Value->Shared->Prop}(hh:A.handled=none)(hit:s.heap.IsKeyIter it d i es.size ep)(x:mm d es ep s.heap)(O0:es.size<=i)(hQ:∀h',Heap.ExtBut it s.heap h'->Q none { s with heap:=h' }):wpAny (model prog w) A (pyNext (.ref it)) Q E s:=by
 obtain⟨o,ho,hc,hd⟩:=id hit;obtain⟨od,Ip,tT,Iq⟩:=x;unfold pyNext;refine wpAny_bind (wpAny_attempt (wpAny_callSpecial?_slot (name:=Str.ofString "__next__") hit.typeIs F.slot_dict_keyiterator_next
  (wpAny_call_entry F.slot_dict_keyiterator_next hit.typeIs F.entry_dict_keyiterator_next ?_ (F.args_dict_keyiterator_next_1 _))))
 refine wpAny_bind (wpAny_pure ?_);refine wpAny_bind ?_;refine wpAny_bind ?_
 first|refine wpAny_bind (wpAny_typeNameOfWhole_keyiter hit.typeIs (wpAny_pure ?_))|refine wpAny_bind (wpAny_typeNameOf_keyiter hit.typeIs (wpAny_pure ?_))
 refine wpAny_bind (wpAny_fieldsOf ho hd ?_);have GB:Builtin.Dict_items.ownsTuple "dict_keyiterator"=false:=by decide
 simp only[GB,Bool.false_eq_true,if_false];refine(show wpAny _ _ (if(Value.ref d==Value.none)=true then _ else _) _ _ s from ?_);rw[if_neg (show ¬((Value.ref d==Value.none)=true)from Bool.false_ne_true)];refine wpAny_bind (wpAny_pure (wpAny_bind (wpAny_dictEntries Ip Iq ?_)));rw[if_neg (by simp)];refine wpAny_bind (wpAny_pure (wpAny_bind (wpAny_dictEpoch Ip Iq ?_)));rw[if_neg (by simp)];refine wpAny_pure ?_;simp only[show ¬((i:Int)<0)from by lia,if_false,Int.toNat_natCast,Array.getElem?_eq_none O0];refine wpAny_bind ?_
 first|refine wpAny_bind (wpAny_typeNameOfWhole_keyiter hit.typeIs (wpAny_pure ?_))|refine wpAny_bind (wpAny_typeNameOf_keyiter hit.typeIs (wpAny_pure ?_))
 refine(show wpAny _ _ (setField (.ref it) 0 .none >>= _) _ _ s from ?_);refine wpAny_bind (wpAny_setField ho hd (by simp) ?_);refine(show wpAny _ _ (newExc (.type "StopIteration") [] >>= _) _ _ _ from ?_);refine wpAny_bind ?_;simp only[newExc,newTuple];refine wpAny_bind (wpAny_newObj_type ?_ (by size_fits));refine wpAny_bind (m:=firstArgMember _ _) (wpAny_of_eq (a:=Value.none) (by first|rfl|(simp only[firstArgMember];rfl)) ?_);refine wpAny_newObj_type ?_ (by size_fits);simp only[raiseNew];refine wpAny_bind (wpAny_handled ?_);rw[show A.in1.handled=none from hh];refine wpAny_bind (wpAny_pure (wpAny_throw ?_));refine wpAny_bind (wpAny_isInstance (T:="StopIteration") (b:=true) ⟨_,Heap.get?_push_size _ rfl,rfl⟩ isSubtype_stop ?_);exact wpAny_pure (hQ _ (((Heap.SameBut.update ..).extBut.push _).push _))
end
section
variable{X:Cx}
end
section
variable{prog:Program}{w:World}{A:Around}{h0:Heap}{d it l:Addr}{L:List RQ}
end
section
variable{X:Cx}{pins:List (Addr×Obj)}{σ:St}{H:Hp}{s:Shared}
end
section
variable{X:Cx}{pins:List (Addr×Obj)}{σ:St}{H:Hp}{s:Shared}
end
section
variable{X:Cx}
end
section
variable{X:Cx}
end
section
variable{g:TG}{σ:St}{H:Hp}
end
section
variable{X:Cx}
end
section
variable{X:Cx}{E:XK}{pins:List (Addr×Obj)}{σ:St}{H:Hp}{s:Shared}
end
abbrev sL(cs:List Nat):Str:=⟨cs.toArray⟩
section
variable{X:Cx}
end
section
variable{K:PySem.W.Frag}{g:TG}{tt:TT}{te:TE}{D:Addr}{σ:St}{H:Hp}{Q:VK}
end
section
variable{X:Cx}
end
section
variable{X:Cx}{pins:List (Addr×Obj)}{σ:St}{H:Hp}{s:Shared}
end
section
variable{prog:Program}{w:World}{A:Around}{E:Value->Shared->Prop}{h:Heap}{g:Array GenState}{d:Drawn}{t:Nat}{os:OsState}{K:PySem.W.Frag}{C B f:Addr}
end
section
variable{X:Cx}{CX:vg}{k:Nat}{f C B:Addr}{fd:FuncData}{ps:List Str}{sp:Sp}{E:XK}{x:Str}{p pos:Pos}{e:Expr}{es:List Expr}{t:TA}
end
section
variable{X:Cx}{pins:List (Addr×Obj)}{σ:St}{H:Hp}{s:Shared}{C B f a:Addr}
end
section
variable{prog:Program}{w:World}{A:Around}{E:Value->Shared->Prop}{h:Heap}{g:Array GenState}{d:Drawn}{t:Nat}{os:OsState}{K:PySem.W.Frag}{a C B f dx:Addr}{name:Str}{v:Value}{mA:Str->Option Value}
end
section
variable{X:Cx}
end
section
variable{P:Program}{w:World}{K:PySem.W.Frag}{mg:Str->Option Value}{base:Heap}
theorem qH.DP{x qual:Str}{st:Stmt}{f:Addr}{fd:FuncData}{N ps:List Str}{k:Nat}{sp:Sp}(F:qH K x qual st f fd)(S:aV N ps (aH st))(len:∀vs H Q E,sp vs H Q E->vs.length=ps.length)(oY:∀(f:Addr)(bf:Value)(A:Around)(outer:List Env)(s:Shared)(H:Hp)(vs:List V)(Q:VK)(E:XK),cX k (A.deeper (envOfC qual (aH st) s.heap.objs.size f bf))->sp vs H Q E ->
   ∃t,AI (Lf P w K mg base N qual st f bf A outer s H E) (bN st) t/\t { nx:=λ_ H'=>Q .bS H',rt:=Q } (start N vs) H):cf P w K mg base (qI P w) (k+1) f fd ps sp:=by
 obtain⟨oc,od,kV,doc,pm,an,bf,ct,yw,rfl,lk,tT⟩:=F.ex;exact Af lk tT S len λA outer s H vs Q E hr AJ=>oY f bf A outer s H vs Q E hr AJ
end
section
variable{prog:Program}{w:World}{A:Around}{E:Value->Shared->Prop}
theorem Ex{it l:Addr}{xs:Array Value}(ne:l≠it):∀(n i:Nat)(s:Shared)(Q:List Value->Shared->Prop),s.heap.IsListIter it l i->s.heap.IsList l xs->i+n<=xs.size ->
  (∀g,g.IsListIter it l (i+n)->Heap.SameBut it s.heap g->Q ((xs.toList.drop i).take n) { s with heap:=g })->wpAny (model prog w) A (draw (.ref it) n) Q E s
 |0,i,s,Q,a,_,_,q=>wpAny_pure (by have:=q s.heap a (Heap.SameBut.refl ..);rw[List.take_zero]at this;exact this)
 |n+1,i,s,Q,a,b,le,q=>by
  have lt:i<xs.size:=Nat.lt_of_lt_of_le (Nat.lt_add_of_pos_right (Nat.succ_pos n)) le;have e1:xs.toList.drop i=xs[i]::xs.toList.drop (i+1):=by simp[List.drop_eq_getElem_cons,lt]
  show wpAny _ _ (pyNext (.ref it) >>= _) Q E s;refine wpAny_bind (wpAny_pyNext_list_item a b (x:=xs[i]) (by simp[lt]) λg a1 c1=>?_);refine wpAny_bind (wpAny_holding (Ex ne n (i+1) _ _ a1 (b.extBut c1.extBut ne) (by lia) λg2 a2 c2=>wpAny_pure ?_));have z:=q g2 (by rw[Nat.add_comm n 1,<-Nat.add_assoc];exact a2) (c1.trans c2);rw[e1,List.take_succ_cons]at z;exact z
theorem DQ{s:Shared}{l:Addr}{xs:Array Value}{ts:List (Bool×(Value->Sem Unit))}{Q:Unit->Shared->Prop}(hh:A.handled=none)(b:s.heap.IsList l xs)(hn:ts.length=xs.size)(hs:ts.findIdx? (·.1)=none)(q:∀g,Heap.ExtBut s.heap.objs.size s.heap g->wpAny (model prog w) A (assignInOrder (ts.map (·.2)) xs.toList) Q E { s with heap:=g }):wpAny (model prog w) A (unpack (.ref l) ts) Q E s:=by
 have ne:l≠s.heap.objs.size:=by obtain⟨o,ho,_⟩:=b;exact Nat.ne_of_lt (Heap.lt_size ho)
 unfold unpack;rw[hn,hs];refine wpAny_bind (wpAny_holding ?_);unfold unpackItems;refine wpAny_bind ?_;unfold notIterableAtAll;refine wpAny_bind (wpAny_specialOf b.typeIs slot_list_iter.lookup (wpAny_pure ?_));simp only[Bool.false_eq_true,if_false];refine wpAny_bind (wpAny_holding (wpAny_pyIter_list b ?_));refine wpAny_bind (wpAny_holding (Ex ne xs.size 0 _ _ ⟨_,Heap.get?_push_size _ rfl,rfl,rfl⟩ (b.push _) (by lia) λg a1 c1=>?_));have al:(xs.toList.drop 0).take xs.size=xs.toList:=by rw[List.drop_zero];exact List.take_of_length_le (by simp)
 rw[al,if_neg (by simp)];have b1:g.IsList l xs:=(b.push _).extBut c1.extBut ne;refine wpAny_bind (wpAny_holding (wpAny_pyNext_list_end hh a1 b1 (by simp) λg2 c2=>?_));simp only[Option.isSome_none,Bool.false_eq_true,if_false];exact wpAny_pure (q g2 λy o hy e=>c2 y o hy (c1.extBut y o hy (Heap.get?_push_of_some _ e)))
end
def Iu(K:PySem.W.Frag)(n:Nat)(t:Ce):TG:=λv σ H Q=>∃a xs,v=.ref a/\af K H a xs/\xs.length=n/\t xs σ H Q
theorem DR{X:Cx}(K:PySem.W.Frag){pos:Pos}{es:List Expr}{k:Nat}{t:Ce}{n:Nat}(hc:X.calm=true)(h:G5 X es t)(hK:X.K=K:=by rfl)(hn:(assignEach es X.env).length=n:=by rfl)(xX:(assignEach es X.env).findIdx? (·.1)=none:=by rfl):PG X (.Tuple es k pos) (Iu K n t):=by
 subst hK;intro pins s σ H v u Q I r hw;obtain⟨a,xs,e1,hq,hl,hw⟩:=hw;subst e1;cases r;obtain⟨aS,rv,ht,_⟩:=I.list hq;have Lr:s.heap.IsList a aS.toArray:=by obtain⟨o,n,e,c,_,d⟩:=ht;exact⟨o,e,c,n,d⟩
 rw[assign_Tuple];refine wpAny_bind (wpAny_standAt (DQ (I.ok.hd hc) Lr (by simp[hn,<-hl,rv.length]) xX λg hx=>?_));have I1:Inv X pins σ H { s with heap:=g }:=I.kept (t':=s.toks) λb o e=>hx b o (Nat.ne_of_lt (Heap.lt_size e)) e
 exact h pins _ σ H xs _ Q I1 (by simpa using rv) hw
def iB(ks:List Key)(k:Key):Bool:=ks.any λx=>decide (x=k)
theorem uT{ks:List Key}{k:Key}:iB ks k=true↔k∈ks:=by unfold iB;rw[List.any_eq_true];exact⟨λ⟨x,h,e⟩=>by rw[<-of_decide_eq_true e];exact h,λh=>⟨k,h,decide_eq_true rfl⟩⟩
theorem zK{ks:List Key}{k x:Key}:iB (x::ks) k=(iB ks k||decide (k=x)):=by show(decide (x=k)||iB ks k)=_;rw[Bool.or_comm];exact congrArg _ (decide_eq_decide.mpr eq_comm)
def dd:List Key->List Key
 |[]=>[]
 |k::ks=>if iB ks k=true then dd ks else k::dd ks
theorem wB:∀(ks:List Key),(dd ks).length<=ks.length
 |[]=>Nat.le_refl _
 |x::ks=>by
  have:=wB ks;unfold dd;split
  ·rw[List.length_cons];lia
  rw[List.length_cons,List.length_cons];lia
theorem oy:∀(ks:List Key),(dd ks).length=ks.length↔ks.Nodup
 |[]=>by simp[dd]
 |x::ks=>by
  have h:=wB ks;have ih:=oy ks;rw[List.nodup_cons];unfold dd;split
  ·rename_i hx;have hx:=uT.mp hx;rw[List.length_cons];exact⟨λz=>by lia,λz=>absurd hx z.1⟩
  rename_i hx;have hx:¬x∈ks:=λz=>hx (uT.mpr z);rw[List.length_cons,List.length_cons];exact⟨λz=>⟨hx,ih.mp (by lia)⟩,λz=>by have:=ih.mpr z.2;lia⟩
theorem BD{prog:Program}{w:World}:∀{k:Key}{v:Value},RelV (kV k) v->(aR prog w).is k v=true/\v.scannable=true
 |.inl i,_,⟨t,e⟩=>by subst e;exact⟨nM prog w i t,rfl⟩
 |.inr x,_,⟨t,e⟩=>by subst e;exact⟨nN prog w x t,rfl⟩
section
variable{prog:Program}{w:World}{A:Around}{R:Result->Shared->Prop}{I:Addr}{fp wr:List Addr}{G:Array GenState->Array GenState->Prop}{St:Nat->Shared->Prop}
end
section
variable{prog:Program}{w:World}{A:Around}{E:Value->Shared->Prop}{s:Shared}
end
section
variable{prog:Program}{w:World}{A:Around}{E:Value->Shared->Prop}{s:Shared}
end
def uU(b:Bool)(K:PySem.W.Frag)(H:Hp)(a:Addr)(xs:List V):Prop:=if b=true then af K H a xs else ar K H a xs
theorem uU.or{b:Bool}{K:PySem.W.Frag}{H:Hp}{a:Addr}{xs:List V}(h:uU b K H a xs):af K H a xs\/ar K H a xs:=by
 cases b
 ·exact .inr h
 exact .inl h
def GC(b:Bool)(K:PySem.W.Frag)(a:Addr)(xs:List V):It:=⟨λi H=>uU b K H a xs/\i<xs.length,λi H x H'=>H'=H/\xs[i]?=some x,λi H=>uU b K H a xs/\xs.length<=i⟩
theorem Turn.weak{P:Program}{w:World}{K:PySem.W.Frag}{tg:Expr}{J J':It}{fp:List Addr}{it:Addr}{tn:Nat->Heap->Prop}(T:Turn P w K tg J fp it tn)(hg:∀i H,J'.go i H->J.go i H)(hy:∀i H x H',J'.go i H->J.yg i H x H'->J'.yg i H x H')(hs:∀i H,J'.stop i H->J.stop i H):Turn P w K tg J' fp it tn where
 mem:=T.mem
 obj:=T.obj
 keep:=T.keep
 item:=λX hP hw hK hc i pins s σ H E I hf st g=>az (T.item X hP hw hK hc i pins s σ H E I hf st (hg i H g)) λr s1 ⟨u,e,q⟩=>⟨u,e,az q λ_ s2 ⟨x,H',I2,r2,y,rest⟩=>⟨x,H',I2,r2,hy i H x H' g y,rest⟩⟩
 done:=λX hP hw hK hc i pins s σ H E I hf st g=>T.done X hP hw hK hc i pins s σ H E I hf st (hs i H g)
 self:=T.self
section
variable{X:Cx}{tg:Expr}
def Ls(K:PySem.W.Frag)(tl:TE):TI:=λσ H R=>tl σ H λx H1=>∃(b:Bool)(a:Addr)(xs:List V),x=.ref a/\uU b K H1 a xs/\R (GC b K a xs) H1
theorem xy(K:PySem.W.Frag){l:Expr}{tl:TE}(hl:PE X l tl)(hK:X.K=K:=by rfl):PI X tg l (Ls K tl):=by
 subst hK;intro pins s σ H R I h;refine az (hl pins s σ H _ I h) λv s1 ⟨x,H1,I1,r1,q1⟩=>?_;obtain⟨b,a,xs,e,hq,q⟩:=q1;subst e;cases r1;cases b with
 |true =>
  obtain⟨aS,rv,p,hz⟩:=I1.list (show af X.K H1 a xs from hq);refine wpAny_pyIter_list p.isList ⟨s1.heap.objs.size,[s1.heap.objs.size],_,_,H1,rfl,I1.kept (t':=s1.toks) λb o e=>Heap.get?_push_of_some _ e,
   (qj a _).weak (J':=GC true X.K a xs) (λi H g=>⟨xs,xs[i]'g.2,g.1,by simp[g.2]⟩) (λi H x H' g y=>⟨y.1,y.2 xs g.1⟩) (λi H g=>⟨xs,g.1,g.2⟩),⟨_,Heap.get?_push_size _ rfl,rfl,rfl⟩,λb hb=>?_,q⟩
  cases List.mem_singleton.mp hb;exact I1.rm (Nat.le_refl _) (I1.aw.fresh (Nat.le_refl _))
 |false =>
  obtain⟨aS,rv,p,hz⟩:=I1.tuple (show ar X.K H1 a xs from hq);refine wpAny_pyIter_tuple (show s1.heap.IsTuple a aS.toArray from p) ⟨s1.heap.objs.size,[s1.heap.objs.size],_,_,H1,rfl,I1.kept (t':=s1.toks) λb o e=>Heap.get?_push_of_some _ e,
   (oS a _).weak (J':=GC false X.K a xs) (λi H g=>⟨xs,xs[i]'g.2,g.1,by simp[g.2]⟩) (λi H x H' g y=>⟨y.1,y.2 xs g.1⟩) (λi H g=>⟨xs,g.1,g.2⟩),⟨_,Heap.get?_push_size _ rfl,rfl,rfl⟩,λb hb=>?_,q⟩
  cases List.mem_singleton.mp hb;exact I1.rm (Nat.le_refl _) (I1.aw.fresh (Nat.le_refl _))
end
theorem DS{b:Bool}{K:PySem.W.Frag}{a:Addr}{xs:List V}{g:TG}{tb:TS}{D:Ends}{σ:St}{H:Hp}(Pv:Nat->St->Hp->Prop)(h0:Pv 0 σ H)(hl:∀i σ H,i<=xs.length->Pv i σ H->uU b K H a xs)(hs:∀i x σ H,xs[i]?=some x->Pv i σ H->g x σ H λσ2 H2=>tb { D with nx:=Pv (i+1),ct:=Pv (i+1),bk:=D.nx } σ2 H2)(hd:∀σ H,Pv xs.length σ H->D.nx σ H):
  ∃W:Nat->Nat->St->Hp->Prop,(∃m,W 0 m σ H)/\∀i m σ H,W i m σ H ->
   ((GC b K a xs).stop i H/\D.nx σ H)\/((GC b K a xs).go i H/\∃N:St->Hp->Prop,(∀σ' H',N σ' H'->∃m',m'<m/\W (i+1) m' σ' H')/\∀x H',(GC b K a xs).yg i H x H'->g x σ H' λσ2 H2=>tb { D with nx:=N,ct:=N,bk:=D.nx } σ2 H2):=by
 refine⟨λi m σ H=>m=xs.length-i/\i<=xs.length/\Pv i σ H,⟨_,rfl,Nat.zero_le _,h0⟩,?_⟩;rintro i m σ H ⟨rfl,hi,p⟩;have q:=hl i σ H hi p;by_cases lt:i<xs.length
 ·refine .inr ⟨⟨q,lt⟩,Pv (i+1),λσ' H' p'=>⟨xs.length-(i+1),by lia,rfl,lt,p'⟩,?_⟩;rintro x H' ⟨rfl,y⟩;exact hs i x σ _ y p
 obtain rfl:i=xs.length:=by lia
 exact .inl ⟨⟨q,Nat.le_refl _⟩,hd σ H p⟩
section
variable{X:Cx}{tg:Expr}
theorem ke(K:PySem.W.Frag)(hK:X.K=K:=by rfl):jF X (compareOp .In) (KH K false):=by subst hK;exact qt
theorem kE(K:PySem.W.Frag)(hK:X.K=K:=by rfl):jF X (compareOp .NotIn) (KH K true):=by subst hK;exact sE
theorem sM:jF X (binaryOp .Mult) (rI IntMulOk λi j=>.int (i*j)):=KD λ_ _ _ _ _ _ _ hc q=>mul_int q hc
end
inductive aQ(K:PySem.W.Frag)(H:Hp):Nat->V->PyData->Prop where
 |bS {n:Nat}:aQ K H n .bS .none
 |bl {n:Nat} (b:Bool):aQ K H n (.bl b) (.bool b)
 |int {n:Nat} (i:Int):aQ K H n (.int i) (.int i)
 |str {n:Nat} (x:Str) (h:PyData.strOk x=true):aQ K H n (.str x) (.str x)
 |lst {n:Nat} {a:Addr} {xs:List V} {ds:List PyData} (ha:af K H a xs) (hl:xs.length=ds.length) (h:∀(i:Nat)(x:V)(d:PyData),xs[i]?=some x->ds[i]?=some d->aQ K H n x d):aQ K H (n+1) (.ref a) (.list ds)
 |tup {n:Nat} {a:Addr} {xs:List V} {ds:List PyData} (ha:ar K H a xs) (hl:xs.length=ds.length) (h:∀(i:Nat)(x:V)(d:PyData),xs[i]?=some x->ds[i]?=some d->aQ K H n x d):aQ K H (n+1) (.ref a) (.tuple ds)
theorem wC:∀(ds:List PyData),(∀d∈ds,d.canLay0=true)->PyData.canLayAll0 ds=true
 |[],_=>rfl
 |d::ds,h=>by show(PyData.canLay0 d&&PyData.canLayAll0 ds)=true;rw[h d List.mem_cons_self,wC ds λx hx=>h x (List.mem_cons_of_mem _ hx)];rfl
theorem wD{n:Nat}:∀(ds:List PyData),(∀d∈ds,d.depth<=n)->PyData.depthAll ds<=n
 |[],_=>Nat.zero_le _
 |d::ds,h=>by show max (PyData.depth d) (PyData.depthAll ds)<=n;exact Nat.max_le.mpr ⟨h d List.mem_cons_self,wD ds λx hx=>h x (List.mem_cons_of_mem _ hx)⟩
theorem oM{xs:List V}{ds:List PyData}(hl:xs.length=ds.length){d:PyData}(h:d∈ds):∃(i:Nat)(x:V),xs[i]?=some x/\ds[i]?=some d:=by obtain⟨i,hi,e⟩:=List.getElem_of_mem h;exact⟨i,xs[i]'(by lia),List.getElem?_eq_getElem _,by rw[List.getElem?_eq_getElem hi,e]⟩
theorem aQ.lay{K:PySem.W.Frag}{H:Hp}{n:Nat}{v:V}{d:PyData}(h:aQ K H n v d):d.canLay0=true:=by
 induction h with
 |bS=>rfl
 |bl=>rfl
 |int=>rfl
 |str x hx=>exact hx
 |lst ha hl h ih=>exact wC _ λd hd=>let⟨i,x,h1,h2⟩:=oM hl hd;ih i x d h1 h2
 |tup ha hl h ih=>exact wC _ λd hd=>let⟨i,x,h1,h2⟩:=oM hl hd;ih i x d h1 h2
theorem aQ.KN{K:PySem.W.Frag}{H:Hp}{n:Nat}{v:V}{d:PyData}(h:aQ K H n v d):d.depth<=n:=by
 induction h with
 |bS=>exact Nat.zero_le _
 |bl=>exact Nat.zero_le _
 |int=>exact Nat.zero_le _
 |str x hx=>exact Nat.zero_le _
 |lst ha hl h ih=>exact Nat.succ_le_succ (wD _ λd hd=>let⟨i,x,h1,h2⟩:=oM hl hd;ih i x d h1 h2)
 |tup ha hl h ih=>exact Nat.succ_le_succ (wD _ λd hd=>let⟨i,x,h1,h2⟩:=oM hl hd;ih i x d h1 h2)
theorem aQ.up{K:PySem.W.Frag}{H:Hp}{n m:Nat}{v:V}{d:PyData}(h:aQ K H n v d)(hm:n<=m):aQ K H m v d:=by
 induction h generalizing m with
 |bS=>exact .bS
 |bl b=>exact .bl b
 |int i=>exact .int i
 |str x hx=>exact .str x hx
 |lst ha hl h ih=>cases m with
  |zero=>lia
  |succ m=>exact .lst ha hl λi x d h1 h2=>ih i x d h1 h2 (by lia)
 |tup ha hl h ih=>cases m with
  |zero=>lia
  |succ m=>exact .tup ha hl λi x d h1 h2=>ih i x d h1 h2 (by lia)
theorem jL{h:Heap}:∀(us:List Value)(ds:List PyData),us.length=ds.length->(∀(i:Nat)(u:Value)(d:PyData),us[i]?=some u->ds[i]?=some d->∃as,Reads h u d as)->∃as,ReadsAll h us ds as
 |[],[],_,_=>⟨[],.nil⟩
 |[],_::_,e,_=>by cases e
 |_::_,[],e,_=>by cases e
 |u::us,d::ds,e,q=>by obtain⟨as,r⟩:=q 0 u d rfl rfl;obtain⟨bs,rs⟩:=jL us ds (Nat.succ.inj e) λi u d h1 h2=>q (i+1) u d (by simpa using h1) (by simpa using h2);exact⟨as++bs,.cons r rs⟩
theorem aX.back:∀{xs:List V}{us:List Value}{i:Nat}{u:Value},aX xs us->us[i]?=some u->∃x,xs[i]?=some x/\RelV x u
 |_,_,_,_,.nil,e=>by simp at e
 |_,_,0,_,.cons r _,e=>by simp at e;subst e;exact⟨_,rfl,r⟩
 |_,_,i+1,u,.cons _ t,e=>by obtain⟨x,h1,h2⟩:=aX.back (i:=i) (u:=u) t (by simpa using e);exact⟨x,by simpa using h1,h2⟩
section
variable{X:Cx}{pins:List (Addr×Obj)}{σ:St}{H:Hp}{s:Shared}
theorem aQ.reads(I:Inv X pins σ H s){n:Nat}{v:V}{d:PyData}(h:aQ X.K H n v d):∀{u:Value},RelV v u->∃as,Reads s.heap u d as:=by
 induction h with
 |bS=>intro u r;cases r;exact⟨_,.none⟩
 |bl b=>intro u r;cases r;exact⟨_,.bool b⟩
 |int i=>intro u r;obtain⟨t,rfl⟩:=r;exact⟨_,.int i t⟩
 |str x hx=>intro u r;obtain⟨t,rfl⟩:=r;exact⟨_,.str x t⟩
 |lst ha hl h ih =>
  intro u r;cases r;obtain⟨aS,rv,⟨o,n,ho,hc,_,hd⟩,hz⟩:=I.list ha;obtain⟨as,rs⟩:=jL (h:=s.heap) aS _ (by rw[<-rv.length,hl]) λi u d h1 h2=>by obtain⟨x,h3,h4⟩:=rv.back h1;exact ih i x d h3 h2 h4
  exact⟨_,.list ho hc hd (by simpa using rs)⟩
 |tup ha hl h ih =>
  intro u r;cases r;obtain⟨aS,rv,⟨o,ho,hc,n,hd⟩,hz⟩:=I.tuple ha;obtain⟨as,rs⟩:=jL (h:=s.heap) aS _ (by rw[<-rv.length,hl]) λi u d h1 h2=>by obtain⟨x,h3,h4⟩:=rv.back h1;exact ih i x d h3 h2 h4
  exact⟨_,.tuple ho hc hd (by simpa using rs)⟩
def Iv(K:PySem.W.Frag)(neg:Bool):R2:=λx y H Q=>∃d e,aQ K H 8 x d/\aQ K H 8 y e/\Q (.bl (if neg then !PyData.eqv d e else PyData.eqv d e)) H
theorem oz(K:PySem.W.Frag)(hu:X.A.units+16<cLine)(hK:X.K=K:=by rfl):jF X (compareOp .Eq) (Iv K false):=by subst hK;intro pins s σ H x y v u Q I rx ry h;obtain⟨d,e,h1,h2,q⟩:=h;obtain⟨as,r1⟩:=h1.reads I rx;obtain⟨bs,r2⟩:=h2.reads I ry;have z:=h1.KN;exact SeqAt.compareEq_reads r1 r2 h1.lay h2.lay (by lia) ⟨.bl _,H,I,rfl,q⟩
theorem GD(K:PySem.W.Frag)(hu:X.A.units+16<cLine)(hK:X.K=K:=by rfl):jF X (compareOp .NotEq) (Iv K true):=by subst hK;intro pins s σ H x y v u Q I rx ry h;obtain⟨d,e,h1,h2,q⟩:=h;obtain⟨as,r1⟩:=h1.reads I rx;obtain⟨bs,r2⟩:=h2.reads I ry;have z:=h1.KN;exact SeqAt.compareNe_reads r1 r2 h1.lay h2.lay (by lia) ⟨.bl _,H,I,rfl,q⟩
end
theorem aQ.eqv{K:PySem.W.Frag}{H:Hp}{n:Nat}{v:V}{d:PyData}(h:aQ K H n v d):PyData.eqv d d=true:=SeqAt.eqv_refl d h.lay
theorem aQ.same{K:PySem.W.Frag}{H H':Hp}{n:Nat}{v:V}{d:PyData}(h:aQ K H n v d)(s:aI H H'):aQ K H' n v d:=by
 induction h with
 |bS=>exact .bS
 |bl b=>exact .bl b
 |int i=>exact .int i
 |str x hx=>exact .str x hx
 |lst ha hl h ih=>exact .lst (s.seq ha) hl ih
 |tup ha hl h ih=>exact .tup (s.tup ha) hl ih
def Kept(H H':Hp):Prop:=∀(a:Addr)(xs:List V),Rd H a (.tup xs)->Rd H' a (.tup xs)
theorem Kept.tup{K:PySem.W.Frag}{H H':Hp}{a:Addr}{xs:List V}(k:Kept H H')(h:ar K H a xs):ar K H' a xs:=h.elim (λh=>.inl (k a xs h)) .inr
mutual
def vL:PyData->Bool
 |.none|.bool _|.int _|.str _=>true
 |.tuple xs=>cm xs
 |.list _|.dict _=>false
def cm:List PyData->Bool
 |[]=>true
 |x::xs=>vL x&&cm xs
end
theorem o3:∀{ds:List PyData}{d:PyData},cm ds=true->d∈ds->vL d=true
 |x::xs,d,h,hd=>by
  have h:(vL x&&cm xs)=true:=h;rw[Bool.and_eq_true]at h;rcases List.mem_cons.mp hd with rfl|hd
  ·exact h.1
  exact o3 h.2 hd
theorem aQ.kept{K:PySem.W.Frag}{H H':Hp}{n:Nat}{v:V}{d:PyData}(h:aQ K H n v d)(k:Kept H H')(hn:vL d=true):aQ K H' n v d:=by
 induction h with
 |bS=>exact .bS
 |bl b=>exact .bl b
 |int i=>exact .int i
 |str x hx=>exact .str x hx
 |lst ha hl h ih=>cases hn
 |tup ha hl h ih=>exact .tup (k.tup ha) hl λi x d h1 h2=>ih i x d h1 h2 (o3 hn (List.mem_of_getElem? h2))
theorem uU.same{b:Bool}{K:PySem.W.Frag}{H H':Hp}{a:Addr}{xs:List V}(h:uU b K H a xs)(s:aI H H'):uU b K H' a xs:=by
 cases b
 ·exact s.tup (show ar K H a xs from h)
 exact s.seq (show af K H a xs from h)
def fE(A:Around)(s:Shared)(x y:Value)(b:Bool):Prop:=∀(prog:Program)(w:World)(E:Value->Shared->Prop)(Q:Value->Shared->Prop),Q (.bool b) s->wpAny (model prog w) A (richCompare .Lt x y) Q E s
def iC(e l:Nat->Bool)(z:Bool):List Nat->Bool
 |[]=>z
 |j::r=>if e j=true then iC e l z r else l j
theorem wF(l b:Addr)(us ws:Array Value)(n n2:Nat)(dd Cf:Option Addr)(sl vj:Array (Option Value))(e g:Nat->Bool):
  Meets (Builtin.«tuple.__lt__» ⟨[.ref l,.ref b],[]⟩)
   (λA R s=>s.heap.get? l=some { cls:=.type "tuple",dict:=dd,data:=.seq us n,slots:=sl }/\s.heap.get? b=some { cls:=.type "tuple",dict:=Cf,data:=.seq ws n2,slots:=vj } /\
    (∀(j:Nat)(h1:j<us.size)(h2:j<ws.size),SeqAt.EqAt A.in1 s us[j] ws[j] (e j))/\(∀(j:Nat)(h1:j<us.size)(h2:j<ws.size),e j=false->fE A.in1 s us[j] ws[j] (g j)) /\
    R (.ok (.ret (.bool (iC e g (decide (us.size<ws.size)) (List.range (min us.size ws.size)))))) s) :=
 .of_wp λprog w A R s h=>by
  obtain⟨hp,g0,d,tk,os⟩:=s;obtain⟨hl,hb,he,hg,h⟩:=h;have f2:=AutoSeq1.sub_tuple_tuple;have hZ:(us.toList.zip ws.toList).length=min us.size ws.size:=by simp
  wp_walk using AutoSeq1.wpAny_loadPart' hl,AutoSeq1.wpAny_loadPart' hb,wpAny_forIn_list _ (λrest b s'=>b.1=none/\s'=⟨hp,g0,d,tk,os⟩/\∃i,rest=(us.toList.zip ws.toList).drop i /\
   R (.ok (.ret (.bool (iC e g (decide (us.size<ws.size)) ((List.range (min us.size ws.size)).drop i))))) ⟨hp,g0,d,tk,os⟩) _
  case turn =>
   rintro⟨y,x⟩ rest b s' ⟨tU,rfl,i,hz,hR⟩;have hL:i<(us.toList.zip ws.toList).length:=by
    rcases Nat.lt_or_ge i (us.toList.zip ws.toList).length with h'|h'
    ·exact h'
    rw[List.drop_of_length_le h']at hz;cases hz
   have hm:i<min us.size ws.size:=hZ▸hL;have h1:i<us.size:=Nat.lt_of_lt_of_le hm (Nat.min_le_left _ _);have h2:i<ws.size:=Nat.lt_of_lt_of_le hm (Nat.min_le_right _ _);rw[List.drop_eq_getElem_cons hL]at hz;injection hz with hq hw;have hy:y=us[i]:=(by have:=congrArg Prod.fst hq;simpa using this);have hx:x=ws[i]:=(by have:=congrArg Prod.snd hq;simpa using this);subst hy hx;have hd:(List.range (min us.size ws.size)).drop i=i::(List.range (min us.size ws.size)).drop (i+1):=(by simp[List.drop_eq_getElem_cons,hm]);rw[hd]at hR;refine wpAny_bind (he i h1 h2 prog w _ _ ?_);cases hy:e i with
   |true =>
    rw[iC,if_pos hy]at hR
    wp_walk
    exact⟨rfl,rfl,i+1,hw,hR⟩
   |false =>
    rw[iC,if_neg (by rw[hy];decide)]at hR;refine wpAny_bind (wpAny_rule (wpAny_bind (hg i h1 h2 hy prog w _ _ ?_)))
    wp_walk
    exact⟨_,rfl,hR⟩
  case fin =>
   rintro⟨b1,b2⟩ s' ⟨tU,rfl,i,hz,hR⟩;simp only at tU;subst tU;have hG:min us.size ws.size<=i:=by
    rcases Nat.lt_or_ge i (us.toList.zip ws.toList).length with h'|h'
    ·rw[List.drop_eq_getElem_cons h']at hz;cases hz
    exact hZ▸h'
   rw[List.drop_of_length_le (by simpa using hG)]at hR
   wp_walk
   exact⟨_,rfl,by simpa[Builtin.Tuple.tupleCompareSizes,iC]using hR⟩
  case h =>
   exact⟨rfl,rfl,0,rfl,by simpa using h⟩
theorem fE.tuples{A:Around}{s:Shared}{l b:Addr}{us ws:Array Value}{e g:Nat->Bool}(hl:s.heap.IsTuple l us)(hb:s.heap.IsTuple b ws)(hu:A.units<cLine)(he:∀(j:Nat)(h1:j<us.size)(h2:j<ws.size),SeqAt.EqAt A.in1 s us[j] ws[j] (e j))(hg:∀(j:Nat)(h1:j<us.size)(h2:j<ws.size),e j=false->fE A.in1 s us[j] ws[j] (g j)):fE A s (.ref l) (.ref b) (iC e g (decide (us.size<ws.size)) (List.range (min us.size ws.size))):=λprog w E Q h=>by
 obtain⟨⟨cls,dd,data,sl⟩,ho,hc,n,hd⟩:=id hl;obtain⟨⟨Fn,Cf,data2,vj⟩,yx,Ag,n2,hd2⟩:=id hb;simp only at hc hd Ag hd2;subst hc hd Ag hd2;exact richCompare_meets_room (op:=.Lt) ⟨_,ho,rfl⟩ ⟨_,yx,rfl⟩ F.slot_tuple_lt F.entry_tuple_lt (F.args_tuple_lt_2 _ _) (wF l b us ws n n2 dd Cf sl vj e g)
  ⟨ho,yx,he,hg,show Value.bool _≠Value.notImplemented/\Q (.bool _) s from⟨(λx=>nomatch x),h⟩⟩ hu
mutual
def bD:PyData->PyData->Bool
 |.int a,.int b=>decide (a<b)
 |.str x,.str y=>decide (x.cps.toList<y.cps.toList)
 |.tuple xs,.tuple ys=>d0 xs ys
 |_,_=>false
def d0:List PyData->List PyData->Bool
 |[],[]=>false
 |[],_::_=>true
 |_::_,[]=>false
 |x::xs,y::ys=>if PyData.eqv x y=true then d0 xs ys else bD x y
end
mutual
def o4:PyData->PyData->Bool
 |.int _,.int _=>true
 |.str _,.str _=>true
 |.tuple xs,.tuple ys=>kf xs ys
 |_,_=>false
def kf:List PyData->List PyData->Bool
 |x::xs,y::ys=>o4 x y&&kf xs ys
 |_,_=>true
end
abbrev jy(xs ys:List PyData)(j:Nat):Bool:=bD (xs.getD j .none) (ys.getD j .none)
theorem uV(e g:Nat->Bool)(z:Bool):∀l:List Nat,iC e g z (l.map (·+1))=iC (λj=>e (j+1)) (λj=>g (j+1)) z l
 |[]=>rfl
 |x::r=>by rw[List.map_cons,iC,iC,uV e g z r]
theorem sN:∀xs ys:List PyData,iC (SeqAt.pairEq xs ys) (jy xs ys) (decide (xs.length<ys.length)) (List.range (min xs.length ys.length))=d0 xs ys
 |[],[]=>by rfl
 |[],_::_=>by simp[iC,d0]
 |_::_,[]=>by simp[iC,d0]
 |x::xs,y::ys=>by
  have e:min (x::xs).length (y::ys).length=min xs.length ys.length+1:=by simp only[List.length_cons];lia
  rw[e,List.range_succ_eq_map,iC];have e2:List.map Nat.succ (List.range (min xs.length ys.length))=(List.range (min xs.length ys.length)).map (·+1):=rfl;rw[e2,uV,d0];have e3:decide ((x::xs).length<(y::ys).length)=decide (xs.length<ys.length):=by simp
  rw[e3];have:=sN xs ys;rw[<-this];rfl
section
variable{A:Around}{s:Shared}
theorem fE.int(i j:Int)(t u:Tok):fE A s (.int i t) (.int j u) (decide (i<j)):=λprog w E Q h=>lt_int h
theorem fE.str(x y:Str)(t u:Tok):fE A s (.str x t) (.str y u) (decide (x.cps.toList<y.cps.toList)):=λprog w E Q h=>lt_str h
end
theorem gk{h:Heap}:∀{vs:List Value}{xs:List PyData}{as:List Addr},ReadsAll h vs xs as->vs.length=xs.length
 |_,_,_,.nil=>rfl
 |_,_,_,.cons _ q=>congrArg Nat.succ (gk q)
theorem dW{h:Heap}:∀{vs:List Value}{xs:List PyData}{as:List Addr},ReadsAll h vs xs as->∀(j:Nat)(hj:j<vs.length),∃bs,Reads h vs[j] (xs.getD j .none) bs
 |_,_,_,.nil,_,hj=>absurd hj (Nat.not_lt_zero _)
 |_,_,_,.cons r _,0,_=>⟨_,r⟩
 |_,_,_,.cons _ q,j+1,hj=>dW q j (Nat.lt_of_succ_lt_succ hj)
theorem sO:∀(xs ys:List PyData),kf xs ys=true->∀j,j<xs.length->j<ys.length->o4 (xs.getD j .none) (ys.getD j .none)=true
 |[],_,_,_,h,_=>absurd h (Nat.not_lt_zero _)
 |_::_,[],_,_,_,h=>absurd h (Nat.not_lt_zero _)
 |x::xs,y::ys,o,j,h1,h2=>by
  have go:o4 x y=true/\kf xs ys=true:=by simpa[kf]using o
  cases j with
  |zero=>exact go.1
  |succ j=>exact sO xs ys go.2 j (Nat.lt_of_succ_lt_succ h1) (Nat.lt_of_succ_lt_succ h2)
theorem o5:∀(xs:List PyData),PyData.canLayAll0 xs=true->∀j,j<xs.length->(xs.getD j .none).canLay0=true
 |[],_,_,h=>absurd h (Nat.not_lt_zero _)
 |x::xs,o,j,h=>by
  have ga:x.canLay0=true/\PyData.canLayAll0 xs=true:=by simpa[PyData.canLayAll0]using o
  cases j with
  |zero=>exact ga.1
  |succ j=>exact o5 xs ga.2 j (Nat.lt_of_succ_lt_succ h)
theorem wG:∀(xs:List PyData)(j:Nat),j<xs.length->(xs.getD j .none).depth<=PyData.depthAll xs
 |[],_,h=>absurd h (Nat.not_lt_zero _)
 |x::xs,j,h=>by
  show _<=max x.depth (PyData.depthAll xs);cases j with
  |zero=>exact Nat.le_max_left _ _
  |succ j=>exact Nat.le_trans (wG xs j (Nat.lt_of_succ_lt_succ h)) (Nat.le_max_right _ _)
theorem BE:∀(n:Nat)(d e:PyData)(A:Around)(s:Shared)(a b:Value)(as bs:List Addr),d.depth<=n->Reads s.heap a d as->Reads s.heap b e bs->d.canLay0=true->e.canLay0=true->o4 d e=true ->
  A.units+n<cLine->fE A s a b (bD d e):=by
 intro n
 induction n with
 |zero =>
  intro d e A s a b as bs hn ra rb ha hb ho hu;cases ra with
  |int=>cases rb with
   |int=>exact fE.int _ _ _ _
   |_=>simp[o4]at ho
  |str=>cases rb with
   |str=>exact fE.str _ _ _ _
   |_=>simp[o4]at ho
  |tuple=>exact absurd hn (by show ¬(_+1<=0);lia)
  |_=>simp[o4]at ho
 |succ n ih =>
  intro d e A s a b as bs hn ra rb ha hb ho hu;cases ra with
  |int=>cases rb with
   |int=>exact fE.int _ _ _ _
   |_=>simp[o4]at ho
  |str=>cases rb with
   |str=>exact fE.str _ _ _ _
   |_=>simp[o4]at ho
  |@tuple a o vs m xs _ h1 h2 h3 h4 =>
   cases rb with
   |@tuple b o2 ws m2 ys _ k1 k2 k3 k4 =>
    have l1:=gk h4;have l2:=gk k4;have e1:vs.size=xs.length:=(by simpa using l1);have e2:ws.size=ys.length:=(by simpa using l2);have ho:kf xs ys=true:=(by simpa[o4]using ho);have hn:PyData.depthAll xs<=n:=Nat.le_of_succ_le_succ hn;have q:=fE.tuples (A:=A) (s:=s) (e:=SeqAt.pairEq xs ys) (g:=jy xs ys) ⟨o,h1,h2,m,h3⟩ ⟨o2,k1,k2,m2,k3⟩ (by lia) (λj j1 j2=>?_) (λj j1 j2 _=>?_)
    ·rw[e1,e2,sN]at q;have e3:bD (.tuple xs) (.tuple ys)=d0 xs ys:=(by rw[bD]);rw[e3];exact q
    ·have:=SeqAt.eqAt_readsAll xs ys A.in1 s vs.toList ws.toList _ _ h4 k4 ha hb (by show A.units+1+_<cLine;lia) j (by simpa using j1) (by simpa using j2)
     simpa using this
    obtain⟨DT,q1⟩:=dW h4 j (by simpa using j1);obtain⟨Lu,q2⟩:=dW k4 j (by simpa using j2);have:=ih _ _ A.in1 s _ _ DT Lu (Nat.le_trans (wG xs j (by lia)) hn) q1 q2 (o5 xs ha j (by lia)) (o5 ys hb j (by lia)) (sO xs ys ho j (by lia) (by lia)) (by show A.units+1+n<cLine;lia)
    simpa[jy]using this
   |_=>simp[o4]at ho
  |_=>simp[o4]at ho
section
open PySem.W
structure Ord(N:Nat)(lt:Nat->Nat->Bool):Prop where
 cb:∀x y,x<N->y<N->lt x y=true->lt y x=false
 lz:∀x y z,x<N->y<N->z<N->lt y x=false->lt z y=false->lt z x=false
structure cA(N:Nat)(p:Array Nat):Prop where
 sz:p.size=N
 lo:∀i,i<N->p.getD i 0<N
 pm:p.Perm (List.toArray (List.range N))
variable{N:Nat}{lt:Nat->Nat->Bool}{cmp:Nat->Nat->(Bool->Shared->Prop)->Shared->Prop}{s:Shared}
def kF(lt:Nat->Nat->Bool)(p:Array Nat)(m:Nat):Prop:=∀i j,i<=j->j<m->lt (p.getD j 0) (p.getD i 0)=false
def Ey(lt:Nat->Nat->Bool)(p:Array Nat)(m:Nat):Prop:=∀i j,i<=j->j<m->lt (p.getD i 0) (p.getD j 0)=false
def HE(lt:Nat->Nat->Bool)(p:Array Nat)(a b:Nat):Prop:=∀i j,a<=i->i<b->a<=j->j<b->lt (p.getD i 0) (p.getD j 0)=false
theorem Ord.refl(o:Ord N lt){x:Nat}(h:x<N):lt x x=false:=by
 cases e:lt x x with
 |false=>rfl
 |true=>rw[<-o.cb x x h h e,e]
theorem cA.of{p q:Array Nat}(h:cA N p)(hp:q.Perm p)(hz:q.size=p.size):cA N q:=by
 have e:=hp.trans h.pm;refine⟨hz.trans h.sz,λi hi=>?_,e⟩;have hq:i<q.size:=by rw[hz,h.sz];exact hi
 have m:q.getD i 0∈q:=by
  have:q.getD i 0=q[i]:=by simp[Array.getD,hq]
  rw[this];exact Array.getElem_mem hq
 have m2:=e.mem_iff.mp m
 simpa using m2
theorem gC{p:Array Nat}{i j:Nat}(hj:j<=p.size)(k:Nat):(kas_rev p i j).getD k 0=if i<=k/\k<j then p.getD (i+j-1-k) 0 else p.getD k 0:=by unfold kas_rev;rw[Array.getD_eq_getD_getElem?,getElem?_mirror_all hj k];split<;>rw[Array.getD_eq_getD_getElem?]
theorem cA.rev{p:Array Nat}{i j:Nat}(h:cA N p):cA N (kas_rev p i j):=h.of (mirror_perm ..) (mirror_size ..)
theorem wH{p:Array Nat}{k l:Nat}(hk:k<p.size)(hl:l<=k)(i:Nat):(bubble p k (k-l)).getD i 0=if i=l then p.getD k 0 else if l<i/\i<=k then p.getD (i-1) 0 else p.getD i 0:=by
 rw[Array.getD_eq_getD_getElem?,getElem?_bubble hk _ (by lia)];have e:k-(k-l)=l:=by lia
 rw[e];by_cases c1:i=l
 ·rw[if_pos c1,if_pos c1];exact(Array.getD_eq_getD_getElem? ..).symm
 rw[if_neg c1,if_neg c1];by_cases c2:l<i/\i<=k
 ·rw[if_pos c2,if_pos c2];exact(Array.getD_eq_getD_getElem? ..).symm
 rw[if_neg c2,if_neg c2];exact(Array.getD_eq_getD_getElem? ..).symm
theorem cA.NS{p:Array Nat}{i j:Nat}(h:cA N p):cA N (bubble p i j):=h.of (bubble_perm ..) (bubble_size ..)
def Ez(N:Nat)(lt:Nat->Nat->Bool)(cmp:Nat->Nat->(Bool->Shared->Prop)->Shared->Prop)(s:Shared):Prop:=∀i j C,i<N->j<N->C (lt i j) s->cmp i j C s
theorem wI(hc:Ez N lt cmp s)(o:Ord N lt){p:Array Nat}(h:cA N p){Q:Nat->Shared->Prop}:∀(f n:Nat),1<=n->n+f<=N->kF lt p n ->
  (∀m,n<=m->m<=n+f->kF lt p m->(m=n+f\/lt (p.getD m 0) (p.getD (m-1) 0)=true)->Q m s)->(kas_asc p f n).kasWp cmp Q s
 |0,n,_,_,a,q=>q n (Nat.le_refl _) (by lia) a (.inl rfl)
 |f+1,n,h1,hf,a,q=>by
  refine hc _ _ _ (h.lo n (by lia)) (h.lo _ (by lia)) ?_;cases e:lt (p.getD n 0) (p.getD (n-1) 0)with
  |true=>exact q n (Nat.le_refl _) (by lia) a (.inr e)
  |false =>
   refine wI hc o h f (n+1) (by lia) (by lia) (λi j rE hj=>?_) λm m1 m2 m3 m4=>q m (by lia) (by lia) m3 (m4.imp (λz=>by lia) id);by_cases Iw:j<n
   ·exact a i j rE Iw
   obtain rfl:j=n:=(by lia);by_cases hi:i=j
   ·subst hi;exact o.refl (h.lo i (by lia))
   exact o.lz _ (p.getD (j-1) 0) _ (h.lo i (by lia)) (h.lo _ (by lia)) (h.lo j (by lia)) (a i (j-1) (by lia) (by lia)) e
theorem Ey.rev{p:Array Nat}{n r:Nat}(h:cA N p)(hn:n<=N)(hr:r<=n)(d:Ey lt p n)(e:HE lt p r n):Ey lt (kas_rev p r n) n:=by
 intro i j rE hj;rw[gC (by rw[h.sz];exact hn),gC (by rw[h.sz];exact hn)];by_cases c1:r<=i
 ·rw[if_pos ⟨c1,by lia⟩,if_pos ⟨by lia,hj⟩];exact e _ _ (by lia) (by lia) (by lia) (by lia)
 rw[if_neg (by lia)];by_cases c2:r<=j
 ·rw[if_pos ⟨c2,hj⟩];exact d _ _ (by lia) (by lia)
 rw[if_neg (by lia)];exact d _ _ rE hj
theorem oN(hc:Ez N lt cmp s)(o:Ord N lt){Q:Array Nat×Nat×Nat->Shared->Prop}:∀(f:Nat)(p:Array Nat)(n q:Nat),cA N p->q+1<=n->n+f<=N->Ey lt p n->HE lt p (n-(q+1)) n ->
  (∀p' n' q',cA N p'->q'+1<=n'->n'<=n+f->Ey lt p' n'->HE lt p' (n'-(q'+1)) n'->Q (p',n',q') s)->(kas_desc f p n q).kasWp cmp Q s
 |0,p,n,q,h,h1,hf,d,e,k=>k p n q h h1 (by lia) d e
 |f+1,p,n,q,h,h1,hf,d,e,k=>by
  refine hc _ _ _ (h.lo n (by lia)) (h.lo _ (by lia)) ?_;have more:∀p':Array Nat,cA N p'->Ey lt p' n->lt (p'.getD (n-1) 0) (p'.getD n 0)=false->Ey lt p' (n+1):=by
   intro p' h' d' z i j rE hj;by_cases Iw:j<n
   ·exact d' i j rE Iw
   obtain rfl:j=n:=(by lia);by_cases hi:i=j
   ·subst hi;exact o.refl (h'.lo i (by lia))
   exact o.lz _ (p'.getD (j-1) 0) _ (h'.lo j (by lia)) (h'.lo _ (by lia)) (h'.lo i (by lia)) z (d' i (j-1) (by lia) (by lia))
  have one:∀p':Array Nat,cA N p'->HE lt p' (n+1-(0+1)) (n+1):=by intro p' h' i j a1 a2 a3 a4;obtain rfl:i=n:=(by lia);obtain rfl:j=i:=(by lia);exact o.refl (h'.lo j (by lia))
  cases e1:lt (p.getD n 0) (p.getD (n-1) 0)with
  |true =>
   have z:=o.cb _ _ (h.lo n (by lia)) (h.lo _ (by lia)) e1;show(if q>0 then kas_desc f (kas_rev p (n-(q+1)) n) (n+1) 0 else kas_desc f p (n+1) 0).kasWp cmp Q s;by_cases hq:q>0
   ·rw[if_pos hq];have dr:=d.rev h (by lia) (by lia) e;have z2:lt ((kas_rev p (n-(q+1)) n).getD (n-1) 0) ((kas_rev p (n-(q+1)) n).getD n 0)=false:=by rw[gC (by rw[h.sz];lia),gC (by rw[h.sz];lia),if_pos (by lia),if_neg (by lia)];exact o.lz _ (p.getD (n-1) 0) _ (h.lo n (by lia)) (h.lo _ (by lia)) (h.lo _ (by lia)) z (e _ _ (by lia) (by lia) (by lia) (by lia))
    exact oN hc o f _ (n+1) 0 h.rev (by lia) (by lia) (more _ h.rev dr z2) (one _ h.rev) λp' n' q' a b c=>k p' n' q' a b (by lia)
   rw[if_neg hq];exact oN hc o f p (n+1) 0 h (by lia) (by lia) (more _ h d z) (one _ h) λp' n' q' a b c=>k p' n' q' a b (by lia)
  |false =>
   refine hc _ _ _ (h.lo _ (by lia)) (h.lo n (by lia)) ?_;cases e2:lt (p.getD (n-1) 0) (p.getD n 0)with
   |true=>exact k p n q h h1 (by lia) d e
   |false =>
    refine oN hc o f p (n+1) (q+1) h (by lia) (by lia) (more _ h d e2) (λi j a1 a2 a3 a4=>?_) λp' n' q' a b c=>k p' n' q' a b (by lia);have fwd:∀i,n-(q+1)<=i->i<n->lt (p.getD i 0) (p.getD n 0)=false/\lt (p.getD n 0) (p.getD i 0)=false:=by
     intro i b1 b2;exact⟨o.lz _ (p.getD (n-1) 0) _ (h.lo n (by lia)) (h.lo _ (by lia)) (h.lo i (by lia)) e2 (e _ _ b1 b2 (by lia) (by lia)),
      o.lz _ (p.getD (n-1) 0) _ (h.lo i (by lia)) (h.lo _ (by lia)) (h.lo n (by lia)) (e _ _ (by lia) (by lia) b1 b2) e1⟩
    by_cases c1:i<n
    ·by_cases c2:j<n
     ·exact e i j (by lia) c1 (by lia) c2
     obtain rfl:j=n:=(by lia);exact(fwd i (by lia) c1).1
    obtain rfl:i=n:=(by lia);by_cases c2:j<i
    ·exact(fwd j (by lia) c2).2
    obtain rfl:j=i:=(by lia);exact o.refl (h.lo j (by lia))
theorem uW(hc:Ez N lt cmp s)(o:Ord N lt){p:Array Nat}{n:Nat}(h:cA N p)(h1:1<=n)(hn:n<=N)(d:Ey lt p n){Q:Nat×Array Nat->Shared->Prop}(q:∀m p',1<=m->m<=N->cA N p'->kF lt p' m->Q (m,p') s):(kas_tail3 n N p).kasWp cmp Q s:=by unfold kas_tail3;rw[KasT.kasWp_bind];refine wI hc o h.rev (N-n) n h1 (by lia) (λi j rE hj=>?_) λm a b c _=>q m _ (by lia) (by lia) h.rev c;rw[gC (by rw[h.sz];exact hn),gC (by rw[h.sz];exact hn),if_pos ⟨Nat.zero_le _,hj⟩,if_pos ⟨Nat.zero_le _,by lia⟩];exact d _ _ (by lia) (by lia)
theorem nW(hc:Ez N lt cmp s)(o:Ord N lt){p:Array Nat}{n:Nat}(h:cA N p)(h1:1<=n)(hn:n<N)(e:HE lt p 0 n)(z:lt (p.getD n 0) (p.getD (n-1) 0)=true){Q:Nat×Array Nat->Shared->Prop}(q:∀m p',1<=m->m<=N->cA N p'->kF lt p' m->Q (m,p') s):(kas_descPart n N p).kasWp cmp Q s:=by
 unfold kas_descPart;rw[KasT.kasWp_bind];have z':=o.cb _ _ (h.lo n hn) (h.lo _ (by lia)) z;refine oN hc o (N-(n+1)) p (n+1) 0 h (by lia) (by lia) (λi j rE hj=>?_) (λi j a1 a2 a3 a4=>?_) λp' n' q' g1 g2 g3 g4 g5=>?_
 ·by_cases Iw:j<n
  ·exact e i j (by lia) (by lia) (by lia) Iw
  obtain rfl:j=n:=by lia
  by_cases hi:i=j
  ·subst hi;exact o.refl (h.lo i (by lia))
  exact o.lz _ (p.getD (j-1) 0) _ (h.lo j (by lia)) (h.lo _ (by lia)) (h.lo i (by lia)) z' (e _ _ (by lia) (by lia) (by lia) (by lia))
 ·obtain rfl:i=n:=by lia
  obtain rfl:j=i:=by lia
  exact o.refl (h.lo j (by lia))
 show(if q'>0 then kas_tail3 n' N (kas_rev p' (n'-(q'+1)) n')else kas_tail3 n' N p').kasWp cmp Q s;by_cases hq:q'>0
 ·rw[if_pos hq];exact uW hc o g1.rev (by lia) (by lia) (g4.rev g1 (by lia) (by lia) g5) q
 rw[if_neg hq];exact uW hc o g1 (by lia) (by lia) g4 q
theorem uX(hc:Ez N lt cmp s)(o:Ord N lt){p:Array Nat}(h:cA N p)(hN:1<=N){Q:Nat×Array Nat->Shared->Prop}(q:∀m p',1<=m->m<=N->cA N p'->kF lt p' m->Q (m,p') s):(kas_count N p).kasWp cmp Q s:=by
 unfold kas_count;rw[KasT.kasWp_bind];refine wI hc o h (N-1) 1 (Nat.le_refl _) (by lia) (λi j rE hj=>?_) λm a b c z=>?_
 ·obtain rfl:j=0:=by lia
  obtain rfl:i=0:=by lia
  exact o.refl (h.lo 0 (by lia))
 show(if(m==N)=true then KasT.ret (m,p)else if m>1 then .ask (p.getD 0 0) (p.getD (m-1) 0) λc=>if c=true then .ret (m,p)else kas_descPart m N (kas_rev p 0 m)else kas_descPart m N p).kasWp cmp Q s;by_cases hm:m=N
 ·rw[if_pos (by simp[hm])];exact q m p a (by lia) h c
 rw[if_neg (by simp[hm])];have z':lt (p.getD m 0) (p.getD (m-1) 0)=true:=z.resolve_left (by lia);by_cases h1:m>1
 ·rw[if_pos h1];refine hc _ _ _ (h.lo 0 (by lia)) (h.lo _ (by lia)) ?_;cases e:lt (p.getD 0 0) (p.getD (m-1) 0)with
  |true=>exact q m p a (by lia) h c
  |false =>
   have eq:HE lt p 0 m:=by intro i j _ i2 _ j2;exact o.lz _ (p.getD (m-1) 0) _ (h.lo j (by lia)) (h.lo _ (by lia)) (h.lo i (by lia)) (c j (m-1) (by lia) (by lia)) (o.lz _ (p.getD 0 0) _ (h.lo _ (by lia)) (h.lo 0 (by lia)) (h.lo i (by lia)) e (c 0 i (by lia) (by lia)))
   refine nW hc o h.rev (by lia) (by lia) (λi j _ i2 _ j2=>?_) ?_ q
   ·rw[gC (by rw[h.sz];lia),gC (by rw[h.sz];lia),if_pos (by lia),if_pos (by lia)];exact eq _ _ (by lia) (by lia) (by lia) (by lia)
   rw[gC (by rw[h.sz];lia),gC (by rw[h.sz];lia),if_neg (by lia),if_pos (by lia)];cases e3:lt (p.getD m 0) (p.getD (0+m-1-(m-1)) 0)with
   |true=>rfl
   |false =>
    have:=o.lz _ (p.getD (0+m-1-(m-1)) 0) _ (h.lo _ (by lia)) (h.lo _ (by lia)) (h.lo m (by lia)) (eq (0+m-1-(m-1)) (m-1) (by lia) (by lia) (by lia) (by lia)) e3;rw[z']at this;cases this
 rw[if_neg h1];obtain rfl:m=1:=by lia
 refine nW hc o h (by lia) (by lia) (λi j _ i2 _ j2=>?_) z' q;obtain rfl:j=0:=by lia
 obtain rfl:i=0:=by lia
 exact o.refl (h.lo 0 (by lia))
theorem o6(hc:Ez N lt cmp s)(o:Ord N lt){p:Array Nat}{k:Nat}(h:cA N p)(hk:k<N)(a:kF lt p k){Q:Nat->Shared->Prop}:∀(f l r:Nat),l<=r->r<=k->r-l<=f ->
  (∀i,i<l->lt (p.getD k 0) (p.getD i 0)=false)->(∀i,r<=i->i<k->lt (p.getD i 0) (p.getD k 0)=false) ->
  (∀l,l<=k->(∀i,i<l->lt (p.getD k 0) (p.getD i 0)=false)->(∀i,l<=i->i<k->lt (p.getD i 0) (p.getD k 0)=false)->Q l s)->(kas_place p k f l r).kasWp cmp Q s
 |0,l,r,h1,h2,h3,g1,g2,q=>q l (by lia) g1 (λi a b=>g2 i (by lia) b)
 |f+1,l,r,h1,h2,h3,g1,g2,q=>by
  show(if l ≥ r then KasT.ret l else .ask (p.getD k 0) (p.getD ((l+r)/2) 0) λc=>if c=true then kas_place p k f l ((l+r)/2)else kas_place p k f ((l+r)/2+1) r).kasWp cmp Q s;by_cases NT:l ≥ r
  ·rw[if_pos NT];exact q l (by lia) g1 (λi a b=>g2 i (by lia) b)
  rw[if_neg NT];refine hc _ _ _ (h.lo k hk) (h.lo _ (by lia)) ?_;cases e:lt (p.getD k 0) (p.getD ((l+r)/2) 0)with
  |true =>
   have e':=o.cb _ _ (h.lo k hk) (h.lo _ (by lia)) e;refine o6 hc o h hk a f l ((l+r)/2) (by lia) (by lia) (by lia) g1 (λi a1 a2=>?_) q;exact o.lz _ (p.getD ((l+r)/2) 0) _ (h.lo k hk) (h.lo _ (by lia)) (h.lo i (by lia)) e' (a _ _ a1 a2)
  |false =>
   refine o6 hc o h hk a f ((l+r)/2+1) r (by lia) h2 (by lia) (λi a1=>?_) g2 q;exact o.lz _ (p.getD ((l+r)/2) 0) _ (h.lo i (by lia)) (h.lo _ (by lia)) (h.lo k hk) (a _ _ (by lia) (by lia)) e
theorem wJ(hc:Ez N lt cmp s)(o:Ord N lt){Q:Array Nat->Shared->Prop}:∀(f:Nat)(p:Array Nat)(k:Nat),cA N p->k+f<=N->kF lt p k ->
  (∀p',cA N p'->kF lt p' (k+f)->Q p' s)->(kas_bin f p k).kasWp cmp Q s
 |0,p,k,h,_,a,q=>q p h a
 |f+1,p,k,h,hf,a,q=>by
  show((kas_place p k k 0 k).bind λl=>kas_bin f (bubble p k (k-l)) (k+1)).kasWp cmp Q s;rw[KasT.kasWp_bind];refine o6 hc o h (by lia) a k 0 k (Nat.zero_le _) (Nat.le_refl _) (by lia) (λi hi=>absurd hi (Nat.not_lt_zero _)) (λi a b=>by lia) λl hl g1 g2=>?_;refine wJ hc o f _ (k+1) h.NS (by lia) (λi j rE hj=>?_) λp' h' a'=>q p' h' (by rw[show k+(f+1)=k+1+f by lia];exact a');have b1:(bubble p k (k-l)).getD l 0=p.getD k 0:=by rw[wH (by rw[h.sz];lia) hl,if_pos rfl]
  have b2:∀i,l<i->i<=k->(bubble p k (k-l)).getD i 0=p.getD (i-1) 0:=λi x y=>by rw[wH (by rw[h.sz];lia) hl,if_neg (by lia),if_pos ⟨x,y⟩]
  have b3:∀i,i<l->(bubble p k (k-l)).getD i 0=p.getD i 0:=λi x=>by rw[wH (by rw[h.sz];lia) hl,if_neg (by lia),if_neg (by lia)]
  rcases Nat.lt_trichotomy i l with ci|ci|ci
  ·rw[b3 i ci];rcases Nat.lt_trichotomy j l with cj|cj|cj
   ·rw[b3 j cj];exact a _ _ rE (by lia)
   ·rw[cj,b1];exact g1 i ci
   rw[b2 j cj (by lia)];exact a _ _ (by lia) (by lia)
  ·rw[ci,b1];rcases Nat.lt_trichotomy j l with cj|cj|cj
   ·lia
   ·rw[cj,b1];exact o.refl (h.lo k (by lia))
   rw[b2 j cj (by lia)];exact g2 _ (by lia) (by lia)
  rw[b2 i ci (by lia),b2 j (by lia) (by lia)];exact a _ _ (by lia) (by lia)
theorem DU(hc:Ez N lt cmp s)(o:Ord N lt)(hN:1<=N){Q:Array Nat->Shared->Prop}(q:∀p,cA N p->kF lt p N->Q p s):(kas_sort N).kasWp cmp Q s:=by
 unfold kas_sort;rw[KasT.kasWp_bind];refine uX hc o ⟨by simp,λi hi=>by simp[Array.getD,hi],Array.Perm.refl _⟩ hN λm p' h1 hm h a=>?_;show(if m<N then kas_bin (N-max m 1) p' (max m 1)else KasT.ret p').kasWp cmp Q s;have e:max m 1=m:=by lia
 rw[e];by_cases bq:m<N
 ·rw[if_pos bq];exact wJ hc o _ _ _ h (by lia) a λO1 O2 NU=>q O1 O2 (by rw[show m+(N-m)=N by lia]at NU;exact NU)
 rw[if_neg bq];obtain rfl:m=N:=by lia
 exact q p' h a
end
section
open PySem.W
variable{prog:Program}{w:World}{A:Around}{E:Value->Shared->Prop}{s:Shared}
def Grows(h h':Heap):Prop:=∀(b:Addr)(o:Obj),h.get? b=some o->h'.get? b=some o
structure kg(prog:Program)(w:World)(A:Around)(h:Heap)(vs:List Value)(lt:Nat->Nat->Bool)(κ:SortKind):Prop where
 ord:Ord vs.length lt
 kind:∀(s':Shared)(E:Value->Shared->Prop)(Q:SortKind->Shared->Prop),Grows h s'.heap->2<=vs.length->Q κ s'->wpAny (model prog w) A (keyKind' vs.toArray) Q E s'
 cmp:∀(s':Shared)(i j:Nat)(C:Bool->Shared->Prop),Grows h s'.heap->i<vs.length->j<vs.length->C (lt i j) s'->wpAny (model prog w) A (keyLt' κ (vs.getD i Value.none) (vs.getD j Value.none)) C (λ_ _=>False) s'
def ff(vs:List Value)(p:Array Nat):List Value:=p.toList.map λi=>vs.getD i Value.none
theorem zL(vs:List Value):ff vs (List.toArray (List.range vs.length))=vs:=by unfold ff;refine List.ext_getElem (by simp) λi h1 h2=>?_;simp[h2]
theorem l7{h:Heap}{a:Addr}{vs:List Value}{n:Nat}{κ:SortKind}{lt:Nat->Nat->Bool}{P:PySem.Fin->Shared->Prop}(ho:s.heap.get? a=some (seqObj "list" vs.toArray n))(hg:∀(b:Addr)(o:Obj),h.get? b=some o->b≠a/\s.heap.get? b=some o)(S:kg prog w A h vs lt κ)(GF:vs.length<64)(q:∀p,cA vs.length p->kF lt p vs.length->P (.done (.ret .none)) { s with heap:=sortedHeap s.heap a vs (ff vs p).toArray }):wpAny (model prog w) A (Builtin.«list.sort» ⟨[.ref a],[]⟩) P E s:=by
 rw[list_sort_plain];have ha:a<s.heap.objs.size:=Heap.lt_size ho;have hz:vs.toArray.size=vs.length:=List.size_toArray ..;refine wpAny_bind (listItems_at ho rfl (wpAny_bind (listUpdate_at ho rfl ?_ (by rw[hz,sizeLine_eq];lia) (Nat.zero_le _))));obtain⟨e1,Iy⟩:∃e1,(s.heap.update a (Obj.mapSeq λ_=>#[])).get? a=some (seqObj "list" #[] e1):=⟨_,get?_update_seq ho (λ_=>#[])⟩;refine wpAny_bind (seqEpoch_at Iy rfl (wpAny_bind (wpAny_newTuple ?_ (by show vs.length<=_;rw[sizeLine_eq];lia))));refine wpAny_bind (wpAny_newList (wpAny_holding ?_) (Nat.zero_le _));have GG:(((s.heap.update a (Obj.mapSeq λ_=>#[])).push (seqObj "tuple" vs.toArray 0)).push (seqObj "list" #[] 0)).get? a=some (seqObj "list" #[] e1):=Heap.get?_push_of_some _ (Heap.get?_push_of_some _ Iy);have gr:Grows h (((s.heap.update a (Obj.mapSeq λ_=>#[])).push (seqObj "tuple" vs.toArray 0)).push (seqObj "list" #[] 0)):=λb o e =>
  Heap.get?_push_of_some _ (Heap.get?_push_of_some _ (((Heap.SameBut.update s.heap a (Obj.mapSeq λ_=>(#[]:Array Value))).2 b (hg b o e).1).trans (hg b o e).2))
 show wpAny (model prog w) A _ P E { s with heap:=((s.heap.update a (Obj.mapSeq λ_=>#[])).push (seqObj "tuple" vs.toArray 0)).push (seqObj "list" #[] 0) }
 dsimp only;by_cases h2:vs.toArray.size<2
 ·rw[if_pos h2,if_pos h2];refine wpAny_bind (wpAny_pure ?_);rw[StateT.run_pure];refine wpAny_bind (wpAny_pure ?_);dsimp only;refine wpAny_bind (seqEpoch_at GG rfl ?_);have BF:(arrOf (SortSt.mk' general' (vs.toArray.zip vs.toArray) #[] 7 none)).map (·.2)=vs.toArray:=by show(pairsOf vs).map (·.2)=_;apply Array.toList_inj.mp;rw[Array.toList_map,pairsOf_toList,List.map_snd_zip (Nat.le_refl _)]
  rw[BF];refine wpAny_bind (listUpdate_at GG rfl ?_ (Nat.zero_le _) (by rw[hz,sizeLine_eq];lia));simp only[bne_self_eq_false,Bool.false_eq_true,if_false];have:=q (List.toArray (List.range vs.length)) ⟨by simp,λi hi=>by simp[Array.getD,hi],Array.Perm.refl _⟩ (λi j rE hj=>by obtain rfl:j=i:=(by lia);exact S.ord.refl (by simp[Array.getD,hj]))
  rw[zL]at this;exact wpAny_pure this
 rw[if_neg h2,if_neg h2];have HF:2<=vs.length:=by lia
 refine wpAny_bind (S.kind _ E _ gr HF ?_);have O3:SortSt.mk' κ (vs.toArray.zip vs.toArray) #[] 7 none=kas_st κ (pairsOf vs) (List.toArray (List.range vs.length)):=by have e:=kas_range (pairsOf vs);rw[pairsOf_size]at e;show SortSt.mk' κ (pairsOf vs) #[] 7 none=SortSt.mk' κ _ #[] 7 none;rw[e]
 have run:=kas_runs (prog:=prog) (w:=w) (A:=A) (E:=E) (κ:=κ) (it:=pairsOf vs) (s:={ s with heap:=((s.heap.update a (Obj.mapSeq λ_=>#[])).push (seqObj "tuple" vs.toArray 0)).push (seqObj "list" #[] 0) })
  (Q:=λ_ aP s'=>s'={ s with heap:=((s.heap.update a (Obj.mapSeq λ_=>#[])).push (seqObj "tuple" vs.toArray 0)).push (seqObj "list" #[] 0) }/\∃p,cA vs.length p/\kF lt p vs.length/\arrOf aP=p.map (kas_item (pairsOf vs))/\failedOf aP=none)
  (G:=λp s'=>s'={ s with heap:=((s.heap.update a (Obj.mapSeq λ_=>#[])).push (seqObj "tuple" vs.toArray 0)).push (seqObj "list" #[] 0) }/\cA vs.length p/\kF lt p vs.length)
  HF GF (λp' aP s' _ a2 a3 a4=>⟨a4.1,p',a4.2.1,a4.2.2,a2,a3⟩) (DU (λi j C hi hj hC=>by rw[<-kas_ask_eq];exact S.cmp _ i j C gr hi hj hC) S.ord (by lia) λp hp ap=>⟨rfl,hp,ap⟩)
 rw[<-O3]at run;refine wpAny_bind (wpAny_mono run ?_ λ_ _ e=>e);rintro⟨⟨⟩,aP⟩ s' ⟨rfl,p,hp,ap,O4,hf⟩;dsimp only;have BF:(arrOf aP).map (·.2)=(ff vs p).toArray:=by apply Array.toList_inj.mp;rw[O4,Array.map_map,Array.toList_map];exact List.map_congr_left λi _=>by show(kas_item (pairsOf vs) i).2=_;rw[kas_item_eq]
 have hsz:(ff vs p).toArray.size=vs.length:=by unfold ff;rw[List.size_toArray,List.length_map,Array.length_toList,hp.sz]
 rw[BF];refine wpAny_bind (seqEpoch_at GG rfl ?_);refine wpAny_bind (listUpdate_at GG rfl ?_ (Nat.zero_le _) (Nat.le_trans (Nat.le_of_eq hsz) (by rw[sizeLine_eq];lia)));rw[hf];simp only[bne_self_eq_false,Bool.false_eq_true,if_false];exact wpAny_pure (q p hp ap)
theorem zM{x:Value}{vs:List Value}{κ:SortKind}{lt:Nat->Nat->Bool}{Q:Value->Shared->Prop}(GF:vs.length<64)(col:∀R:List Value->Shared->Prop,(∀(h':Heap)(tk:Tok),Grows s.heap h'->s.heap.objs.size<=h'.objs.size->R vs { s with heap:=h',toks:=tk })->wpAny (model prog w) A.in1 (collect x) R E s)(S:kg prog w A.in1.in1 s.heap vs lt κ)(q:∀(p:Array Nat)(h':Heap)(tk:Tok)(e:Nat)(l:Addr),cA vs.length p->kF lt p vs.length->Grows s.heap h'->s.heap.objs.size<=l->h'.get? l=some (seqObj "list" (ff vs p).toArray e)->Q (.ref l) { s with heap:=h',toks:=tk }):
  wpAny (model prog w) A (call (.builtin "sorted") [x]) Q E s:=by
 refine Calls.call_function_entry kind_sorted plain_sorted entry_sorted (args_sorted1 _) ?_;unfold Builtin.«sorted»;refine wpAny_bind (m:=checkCount "sorted" 1 1 _) (wpAny_pure ?_);refine wpAny_bind (col _ λh' tk g hz=>?_);refine wpAny_bind (wpAny_newList ?_ (by rw[sizeLine_eq];lia));have ye:(h'.push (seqObj "list" vs.toArray 0)).get? h'.objs.size=some (seqObj "list" vs.toArray 0):=Heap.get?_push_size _ rfl;show wpAny _ _ _ _ _ { s with heap:=h'.push (seqObj "list" vs.toArray 0),toks:=tk };refine wpAny_bind (wpAny_holding (wpAny_call_entry slot_list_sort ⟨_,ye,rfl⟩ entry_list_sort (l7 (h:=s.heap) ye (λb o e=>⟨λz=>absurd (Heap.lt_size e) (by rw[z];exact Nat.not_lt.mpr hz),Heap.get?_push_of_some _ (g b o e)⟩) S GF λp hp ap=>⟨_,rfl,?_⟩) (args_list_sort _)))
 obtain⟨e,he⟩:∃e,(sortedHeap (h'.push (seqObj "list" vs.toArray 0)) h'.objs.size vs (ff vs p).toArray).get? h'.objs.size=some (seqObj "list" (ff vs p).toArray e):=by unfold sortedHeap;obtain⟨e1,z1⟩:∃e1,((h'.push (seqObj "list" vs.toArray 0)).update h'.objs.size (Obj.mapSeq λ_=>#[])).get? h'.objs.size=some (seqObj "list" #[] e1):=⟨_,get?_update_seq ye (λ_=>#[])⟩;exact⟨_,get?_update_seq (Heap.get?_push_of_some _ (Heap.get?_push_of_some _ z1)) _⟩
 refine wpAny_pure ⟨_,rfl,q p _ tk e _ hp ap (λb o z=>?_) hz he⟩;have nb:b≠h'.objs.size:=λy=>absurd (Heap.lt_size z) (by rw[y];exact Nat.not_lt.mpr hz);unfold sortedHeap;rw[(Heap.SameBut.update _ h'.objs.size (Obj.mapSeq λ_=>(ff vs p).toArray)).2 b nb];refine Heap.get?_push_of_some _ (Heap.get?_push_of_some _ ?_);rw[(Heap.SameBut.update _ h'.objs.size (Obj.mapSeq λ_=>(#[]:Array Value))).2 b nb];exact Heap.get?_push_of_some _ (g b o z)
end
section
open PySem.W
variable{prog:Program}{w:World}{A:Around}{E:Value->Shared->Prop}{s:Shared}
theorem nX{T:String}{l:Addr}{o:Obj}{vs:List Value}{n:Nat}{Q:List Value->Shared->Prop}(ho:s.heap.get? l=some o)(hc:o.cls=.type T)(hT:T="list"\/T="tuple")(hd:o.data=.seq vs.toArray n)(hz:vs.length<=sizeLine)(q:Q vs { s with heap:=(s.heap.push (seqObj "list" #[] 0)).update s.heap.objs.size (Obj.mapSeq (·++vs.toArray)) }):wpAny (model prog w) A (collect (.ref l)) Q E s:=by
 unfold collect;refine wpAny_bind (wpAny_runValue (codeAny_builtin entry_proto_collect' ?_));show wpAny _ _ (do again (.builtin "list.__iadd__" ⟨[<-newList [],.ref l],[]⟩)) _ _ s
 refine wpAny_bind (wpAny_newList (wpAny_pure ⟨Code.quiet_builtin _ (by decide +kernel),codeAny_builtin entry_list_iadd' ?_⟩));show wpAny _ _ (Builtin.List.listExtendWith (.ref s.heap.objs.size) (.ref l) (.ref s.heap.objs.size)) _ _ { s with heap:=s.heap.push (seqObj "list" #[] 0) };unfold Builtin.List.listExtendWith;have hp:(s.heap.push (seqObj "list" #[] 0)).get? l=some o:=Heap.get?_push_of_some _ ho;have hn:(s.heap.push (seqObj "list" #[] 0)).get? s.heap.objs.size=some (seqObj "list" #[] 0):=Heap.get?_push_size _ rfl;refine wpAny_bind (wpAny_typeOf (T:=T) ⟨o,hp,hc⟩ ?_);rw[if_pos (by rcases hT with rfl|rfl<;>simp[show(Value.type "list"==Value.type "list")=true from rfl,show(Value.type "tuple"==Value.type "tuple")=true from rfl])];refine wpAny_bind (listItems_at hp hd (wpAny_bind (listItems_at hn rfl ?_)));rw[if_neg (by simp)];refine wpAny_bind (listUpdate_at hn rfl ?_ (Nat.zero_le _) (by show(#[]++vs.toArray).size<=sizeLine+1;rw[Array.size_append,List.size_toArray];simp;lia));refine wpAny_pure ?_;show wpAny (model prog w) A (do
   let o <- load s.heap.objs.size
   match o.data with
   |.seq xs _=>pure xs.toList
   |_=>unsupported "internal:collect") Q E { s with heap:=(s.heap.push (seqObj "list" #[] 0)).update s.heap.objs.size (Obj.mapSeq (·++vs.toArray)) }
 refine wpAny_bind (wpAny_load (get?_update_seq hn _) ?_);show wpAny _ _ (pure ((#[]:Array Value)++vs.toArray).toList) Q E _;rw[show((#[]:Array Value)++vs.toArray).toList=vs by simp];exact wpAny_pure q
end
inductive E1(ds:List PyData):Prop where
 |ints (h:∀d∈ds,∃i,d=.int i)
 |strs (h:∀d∈ds,∃x,d=.str x)
 |rows (h:∀d∈ds,∃i r,d=.tuple (.int i::r))
structure mq(ds:List PyData):Prop where
 kd:E1 ds
 ok:∀d∈ds,∀e∈ds,o4 d e=true
 cb:∀d∈ds,∀e∈ds,bD d e=true->bD e d=false
 lz:∀d∈ds,∀e∈ds,∀f∈ds,bD e d=false->bD f e=false->bD f d=false
theorem getD_mem{α:Type}{l:List α}{i:Nat}{z:α}(h:i<l.length):l.getD i z∈l:=by rw[List.getD_eq_getElem?_getD,List.getElem?_eq_getElem h];exact List.getElem_mem h
section
open PySem.W
variable{prog:Program}{w:World}{A:Around}
theorem nY{s:Shared}{C:Bool->Shared->Prop}{xs ys:List PyData}{z:Bool}:∀(us vs:List Value)(i j:Nat)(hl:us.length+j=xs.length)(hm:vs.length+j=ys.length)(rE:j=i)(_:∀(k:Nat) (h1:k<us.length) (h2:k<vs.length),SeqAt.EqAt A s us[k] vs[k] (SeqAt.pairEq xs ys (k+j)))(_:∀(k:Nat) (h1:k<us.length) (h2:k<vs.length),SeqAt.pairEq xs ys (k+j)=false->∀Q:Bool->Shared->Prop,Q (jy xs ys (k+j)) s->wpAny (model prog w) A (oneLt' (true&&(k+j==0)) us[k] vs[k]) Q (λ_ _=>False) s)(_:C (iC (SeqAt.pairEq xs ys) (jy xs ys) z ((List.range (min us.length vs.length)).map (·+j))) s),KatLex prog w A true z C (us.zip vs) i s
 |[],vs,i,j,hl,hm,rE,he,hg,q=>by simpa[iC,KatLex]using q
 |_::_,[],i,j,hl,hm,rE,he,hg,q=>by simpa[iC,KatLex]using q
 |u::us,v::vs,i,j,hl,hm,rE,he,hg,q=>by
  subst rE;rw[List.zip_cons_cons];refine kat_cons (he 0 (Nat.zero_lt_succ _) (Nat.zero_lt_succ _) prog w _ _ ?_);have e:min (u::us).length (v::vs).length=min us.length vs.length+1:=by simp only[List.length_cons];lia
  rw[e,List.range_succ_eq_map,List.map_cons,iC]at q;refine kat_go (λc=>kat_yes ?_) (λc=>kat_no ?_)
  ·rw[if_pos c]at q;refine nY (xs:=xs) (ys:=ys) us vs (j+1) (j+1) (by simp at hl;lia) (by simp at hm;lia) rfl (λk h1 h2=>?_) (λk h1 h2 c2 Q hQ=>?_) ?_
   ·have:=he (k+1) (Nat.succ_lt_succ h1) (Nat.succ_lt_succ h2);rw[show k+1+j=k+(j+1) by lia]at this;exact this
   ·have:=hg (k+1) (Nat.succ_lt_succ h1) (Nat.succ_lt_succ h2);rw[show k+1+j=k+(j+1) by lia]at this;exact this c2 Q hQ
   rw[List.map_map]at q;have e2:((λx=>x+j)∘Nat.succ)=λx=>x+(j+1):=(by funext x;show x+1+j=x+(j+1);lia);rw[e2]at q;exact q
  rw[if_neg (by rw[c];decide)]at q;have:=hg 0 (Nat.zero_lt_succ _) (Nat.zero_lt_succ _) c C q;rw[Nat.zero_add]at this;exact this
theorem BG{s:Shared}{p q:Value}{b:Bool}{Q:Bool->Shared->Prop}{E:Value->Shared->Prop}(h:fE A s p q b)(k:Q b s):wpAny (model prog w) A (oneLt' false p q) Q E s:=by rw[oneLt'_eq];simp only[Bool.false_eq_true,if_false];exact wpAny_bind (h prog w _ _ (wpAny_truthy_bool k))
theorem jM{h:Heap}{vs:List Value}{ds:List PyData}(hl:vs.length=ds.length)(hr:∀(j:Nat)(hj:j<vs.length),∃as,Reads h vs[j] (ds.getD j .none) as)(hy:∀d∈ds,d.canLay0=true)(hp:∀d∈ds,d.depth<=8)(O:mq ds)(hu:A.units+12<cLine):∃κ,kg prog w A h vs (λi j=>bD (ds.getD i .none) (ds.getD j .none)) κ:=by
 have ord:Ord vs.length (λi j=>bD (ds.getD i .none) (ds.getD j .none)):=⟨λx y hx O5=>O.cb _ (getD_mem (by lia)) _ (getD_mem (by lia)),λx y z hx O5 hz=>O.lz _ (getD_mem (by lia)) _ (getD_mem (by lia)) _ (getD_mem (by lia))⟩;have gv:∀(i:Nat)(hi:i<vs.length),vs.getD i Value.none=vs[i]:=λi hi=>by simp[hi]
 rcases O.kd with hk|hk|hk
 ·refine⟨oneType',ord,λs' E Q g h2 q=>kas_kind (T:=Value.type "int") h2 (λv hv=>?_) (by decide) (by decide) q,λs' i j C g hi hj q=>?_⟩
  ·obtain⟨j,hj,rfl⟩:=List.getElem_of_mem hv;obtain⟨as,r⟩:=hr j hj;obtain⟨k,e⟩:=hk _ (getD_mem (i:=j) (z:=.none) (by lia));rw[e]at r;cases r1:vs[j]<;>rw[r1]at r<;>cases r;exact Looks.of_pure rfl
  rw[gv i hi,gv j hj];obtain⟨as,r⟩:=hr i hi;obtain⟨bs,t⟩:=hr j hj;obtain⟨k,e⟩:=hk _ (getD_mem (i:=i) (z:=.none) (by lia));obtain⟨m,f⟩:=hk _ (getD_mem (i:=j) (z:=.none) (by lia));rw[e]at r;rw[f]at t;simp only[e,f,bD]at q;generalize vs[i]=u1 at r ⊢;generalize vs[j]=u2 at t ⊢;cases r;cases t;exact kat_lt_int q
 ·refine⟨oneType',ord,λs' E Q g h2 q=>kas_kind (T:=Value.type "str") h2 (λv hv=>?_) (by decide) (by decide) q,λs' i j C g hi hj q=>?_⟩
  ·obtain⟨j,hj,rfl⟩:=List.getElem_of_mem hv;obtain⟨as,r⟩:=hr j hj;obtain⟨k,e⟩:=hk _ (getD_mem (i:=j) (z:=.none) (by lia));rw[e]at r;cases r1:vs[j]<;>rw[r1]at r<;>cases r;exact Looks.of_pure rfl
  rw[gv i hi,gv j hj];obtain⟨as,r⟩:=hr i hi;obtain⟨bs,t⟩:=hr j hj;obtain⟨k,e⟩:=hk _ (getD_mem (i:=i) (z:=.none) (by lia));obtain⟨m,f⟩:=hk _ (getD_mem (i:=j) (z:=.none) (by lia));rw[e]at r;rw[f]at t;simp only[e,f,bD]at q;generalize vs[i]=u1 at r ⊢;generalize vs[j]=u2 at t ⊢;cases r;cases t;exact kas_lt_str q
 have tup:∀(j:Nat)(hj:j<vs.length),∃(a:Addr)(o:Obj)(xs:Array Value)(n:Nat)(k:Int)(t:Tok)(r:List PyData)(as:List Addr),vs[j]=.ref a/\h.get? a=some o/\o.cls=.type "tuple"/\o.data=.seq xs n/\ds.getD j .none=.tuple (.int k::r)/\ReadsAll h xs.toList (.int k::r) as/\xs[0]?=some (.int k t):=by
  intro j hj;obtain⟨as,r⟩:=hr j hj;obtain⟨k,rr,e⟩:=hk _ (getD_mem (i:=j) (z:=.none) (by lia));rw[e]at r;generalize hv:vs[j]=u1 at r;cases r with
  |@tuple a o xs n _ _ h1 h2 h3 h4 =>
   have h0:∃t,xs[0]?=some (.int k t):=by
    generalize hx:xs.toList=l at h4;cases h4 with
    |cons r1 r2 =>
     cases r1 with
     |int _ t=>exact⟨t,by rw[<-Array.getElem?_toList,hx];rfl⟩
   obtain⟨t,ht⟩:=h0;exact⟨a,o,xs,n,k,t,rr,_,rfl,h1,h2,h3,e,h4,ht⟩
 have GH:∀(l:List Value)(_:∀v∈l,∃(a:Addr) (o:Obj) (xs:Array Value) (n:Nat) (k:Int) (t:Tok),v=.ref a/\h.get? a=some o/\o.cls=.type "tuple"/\o.data=.seq xs n/\xs[0]?=some (.int k t))(h':Heap),Grows h h'->∃fs,KatTups h' l fs/\fs.length=l.length/\∀f∈fs,∃k t,f=Value.int k t:=by
  intro l
  induction l with
  |nil=>intro _ h' _;exact⟨[],trivial,rfl,λf hf=>absurd hf (by simp)⟩
  |cons v l ih =>
   intro hv h' g;obtain⟨fs,k1,k2,k3⟩:=ih (λv lR=>hv v (List.mem_cons_of_mem _ lR)) h' g;obtain⟨a,o,xs,n,k,t,rfl,h1,h2,h3,h4⟩:=hv v List.mem_cons_self;exact⟨.int k t::fs,.cons (g a o h1) h2 h3 h4 k1,by simp[k2],λf hf=>(List.mem_cons.mp hf).elim (λe=>⟨k,t,e⟩) (k3 f)⟩
 refine⟨tuples' (Value.type "int" != Value.type "tuple"),ord,λs' E Q g h2 q=>?_,λs' i j C g hi hj q=>?_⟩
 ·obtain⟨fs,k1,k2,k3⟩:=GH vs (λv hv=>by obtain⟨j,hj,rfl⟩:=List.getElem_of_mem hv;obtain⟨a,o,xs,n,k,t,r,as,e1,e2,e3,e4,e5,e6,e7⟩:=tup j hj;exact⟨a,o,xs,n,k,t,e1,e2,e3,e4,e7⟩) s'.heap g
  exact kat_kind (T:=Value.type "int") k1 (by lia) (λv hv=>by obtain⟨k,t,rfl⟩:=k3 v hv;exact Looks.of_pure rfl) (by decide) q
 rw[gv i hi,gv j hj];obtain⟨a,o,xs,n,k,t,r,as,e1,e2,e3,e4,e5,e6,e7⟩:=tup i hi;obtain⟨a',o',HG,n',k',t',r',Q1,f1,f2,f3,f4,f5,f6,f7⟩:=tup j hj;have mi:=getD_mem (l:=ds) (i:=i) (z:=.none) (by lia);have mj:=getD_mem (l:=ds) (i:=j) (z:=.none) (by lia);have di:=hp _ mi;have dj:=hp _ mj;have yi:=hy _ mi;have yj:=hy _ mj;have ho:=O.ok _ mi _ mj;rw[e5]at di yi;rw[f5]at dj yj;rw[e5,f5]at ho;simp only[e5,f5]at q;have di:PyData.depthAll (.int k::r)<=7:=Nat.le_of_succ_le_succ di;have dj:PyData.depthAll (.int k'::r')<=7:=Nat.le_of_succ_le_succ dj;have yi:PyData.canLayAll0 (.int k::r)=true:=yi;have yj:PyData.canLayAll0 (.int k'::r')=true:=yj;have ho:kf (.int k::r) (.int k'::r')=true:=by simpa[o4]using ho
 rw[e1,f1];have g6:=ReadsAll.keeps g e6;have NV:=ReadsAll.keeps g f6;have l1:=gk e6;have l2:=gk f6;refine kat_lt (g a o e2) e4 (g a' o' f2) f4 ?_;have sz:decide (xs.size<HG.size)=decide ((PyData.int k::r).length<(PyData.int k'::r').length):=by rw[<-l1,<-l2];simp
 rw[sz];refine nY (xs:=.int k::r) (ys:=.int k'::r') xs.toList HG.toList 0 0 (by lia) (by lia) rfl (λm h1 h2=>?_) (λm h1 h2 c Q hQ=>?_) ?_
 ·exact SeqAt.eqAt_readsAll _ _ A s' xs.toList HG.toList _ _ g6 NV yi yj (by lia) m h1 h2
 ·by_cases hm:m=0
  ·subst hm;have z1:xs.toList[0]=.int k t:=by have:xs.toList[0]?=some (.int k t):=(by rw[Array.getElem?_toList];exact e7);rw[List.getElem?_eq_getElem h1]at this;exact Option.some.inj this
   have z2:HG.toList[0]=.int k' t':=by have:HG.toList[0]?=some (.int k' t'):=(by rw[Array.getElem?_toList];exact f7);rw[List.getElem?_eq_getElem h2]at this;exact Option.some.inj this
   rw[z1,z2];exact oneLt_int (by simpa[jy,bD]using hQ)
  have eb:(true&&(m+0==0))=false:=by simp[hm]
  rw[eb];obtain⟨DT,q1⟩:=dW g6 m h1;obtain⟨Lu,q2⟩:=dW NV m h2;exact BG (BE 7 _ _ A s' _ _ DT Lu (Nat.le_trans (wG _ m (by lia)) di) q1 q2 (o5 _ yi m (by lia)) (o5 _ yj m (by lia)) (sO _ _ ho m (by lia) (by lia)) (by lia)) hQ
 have e0:((List.range (min xs.toList.length HG.toList.length)).map (·+0))=List.range (min (PyData.int k::r).length (PyData.int k'::r').length):=by rw[l1,l2];simp
 rw[e0,sN]
 simpa[bD]using q
end
section
variable{α:Type}
theorem nZ{n:Nat}{p:Array Nat}{lt:Nat->Nat->Bool}(h:cA n p)(a:kF lt p n)(l:List α)(hl:l.length=n)(z:α)(R:α->α->Prop)(hR:∀i j,i<n->j<n->lt j i=false->R (l.getD i z) (l.getD j z)):
  (p.toList.map λi=>l.getD i z).Perm l/\(p.toList.map λi=>l.getD i z).Pairwise R:=by
 constructor
 ·have e:(List.range n).map (λi=>l.getD i z)=l:=by refine List.ext_getElem (by simp[hl]) λi h1 h2=>?_;simp[h2]
  have:=(Array.perm_iff_toList_perm.mp h.pm).map (λi=>l.getD i z);rw[show(List.toArray (List.range n)).toList=List.range n from rfl,e]at this;exact this
 rw[List.pairwise_map,List.pairwise_iff_getElem];intro i j hi hj rE;have hz:p.toList.length=n:=by rw[Array.length_toList,h.sz]
 have gi:p.toList[i]=p.getD i 0:=by simp[Array.getD,show i<p.size by rw[h.sz];lia]
 have gj:p.toList[j]=p.getD j 0:=by simp[Array.getD,show j<p.size by rw[h.sz];lia]
 rw[gi,gj];exact hR _ _ (h.lo i (by lia)) (h.lo j (by lia)) (a i j (by lia) (by lia))
end
def Lv(K:PySem.W.Frag):List V->Hp->VK->Prop:=λxs H Q=>∃(b:Bool)(p:Addr)(zs:List (V×PyData)),xs=[.ref p]/\uU b K H p (zs.map (·.1))/\zs.length<64/\(∀z∈zs,aQ K H 8 z.1 z.2)/\mq (zs.map (·.2)) /\
 ∀(ys:List (V×PyData))(q:Addr),ys.Perm zs->ys.Pairwise (λx y=>bD y.2 x.2=false)->H q=none->Q (.ref q) (upd H q (.lst (ys.map (·.1))))
theorem aX.pick{xs:List V}{us:List Value}(r:aX xs us):∀(l:List Nat),(∀i∈l,i<xs.length)->aX (l.map λi=>xs.getD i .bS) (l.map λi=>us.getD i Value.none)
 |[],_=>.nil
 |i::l,h=>by
  have hi:=h i List.mem_cons_self;obtain⟨u,h1,h2⟩:=r.get (List.getElem?_eq_getElem hi);refine .cons ?_ (aX.pick r l λj hj=>h j (List.mem_cons_of_mem _ hj));have e1:xs.getD i .bS=xs[i]:=by simp[hi]
  have e2:us.getD i Value.none=u:=by rw[List.getD_eq_getElem?_getD,h1];rfl
  show RelV (xs.getD i .bS) (us.getD i Value.none);rw[e1,e2];exact h2
theorem cT{X:Cx}(K:PySem.W.Frag)(hu:X.A.units+16<cLine)(hK:X.K=K:=by rfl):dC X (.builtin "sorted") (Lv K):=by
 subst hK;intro pins s σ H xs us Q I r h;obtain⟨b,p,zs,rfl,hq,GF,hd,O,q⟩:=h;obtain⟨u,rfl,rx⟩:=vals1 r;cases rx;obtain⟨T,o,aS,n,hT,ho,hc,zJ,r1⟩:∃(T:String)(o:Obj)(aS:List Value)(n:Nat),(T="list"\/T="tuple")/\s.heap.get? p=some o/\o.cls=.type T/\o.data=.seq aS.toArray n/\aX (zs.map (·.1)) aS:=by
  rcases hq.or with hq|hq
  ·obtain⟨aS,r1,⟨o,n,ho,hc,_,hd⟩,_⟩:=I.list hq;exact⟨"list",o,aS,n,.inl rfl,ho,hc,hd,r1⟩
  obtain⟨aS,r1,⟨o,ho,hc,n,hd⟩,_⟩:=I.tuple hq;exact⟨"tuple",o,aS,n,.inr rfl,ho,hc,hd,r1⟩
 have hlen:aS.length=zs.length:=by rw[<-r1.length,List.length_map]
 obtain⟨κ,S⟩:=jM (prog:=X.prog) (w:=X.w) (A:=X.A.in1.in1) (h:=s.heap) (vs:=aS) (ds:=zs.map (·.2)) (by rw[hlen,List.length_map]) (λj hj=>by obtain⟨x,h1,h2⟩:=r1.back (List.getElem?_eq_getElem hj);have hz:j<zs.length:=(by lia);have e1:x=zs[j].1:=(by simpa[hz]using h1.symm);have e2:(zs.map (·.2)).getD j .none=zs[j].2:=(by simp[hz]);rw[e2];exact(e1▸hd _ (List.getElem_mem hz)).reads I h2)
  (λd qA=>by obtain⟨z,hz,rfl⟩:=List.mem_map.mp qA;exact(hd z hz).lay) (λd qA=>by obtain⟨z,hz,rfl⟩:=List.mem_map.mp qA;exact(hd z hz).KN) O (by show X.A.units+1+1+12<cLine;lia)
 refine zM (by lia) (λR k=>nX ho hc hT zJ (by rw[sizeLine_eq];lia) (k _ s.toks (λb o e=>?_) ?_)) S λpm h' tk e l hp ap g hz hl=>?_
 ·have nb:b≠s.heap.objs.size:=λy=>absurd (Heap.lt_size e) (by rw[y];exact Nat.lt_irrefl _);rw[(Heap.SameBut.update _ s.heap.objs.size (Obj.mapSeq (·++aS.toArray))).2 b nb];exact Heap.get?_push_of_some _ e
 ·rw[Heap.size_update,size_push'];exact Nat.le_succ _
 obtain⟨z1,z2⟩:=nZ hp ap zs hlen.symm (V.bS,PyData.none) (λx y=>bD y.2 x.2=false) (λi j hi hj h0=>by
  have rF:i<zs.length:=by lia
  have G9:j<zs.length:=by lia
  simpa[rF,G9]using h0)
 have ev:(pm.toList.map λi=>(zs.map (·.1)).getD i V.bS)=(pm.toList.map λi=>zs.getD i (V.bS,PyData.none)).map (·.1):=by
  rw[List.map_map];refine List.map_congr_left λi hi=>?_;show _=(zs.getD i (V.bS,PyData.none)).1;by_cases hz:i<zs.length
  ·simp[hz]
  simp[Nat.le_of_not_lt hz]
 have BH:∀i∈pm.toList,i<(zs.map (·.1)).length:=by
  intro i hi;have:=(Array.perm_iff_toList_perm.mp hp.pm).mem_iff.mp hi;have:i<aS.length:=by simpa using this
  rw[List.length_map];lia
 have rv:=r1.pick pm.toList BH;rw[ev]at rv;refine⟨.ref l,_,I.laid (t':=tk) (o:=.lst ((pm.toList.map λi=>zs.getD i (V.bS,PyData.none)).map (·.1))) (λb o eb=>g b o eb) hz ⟨by rw[List.length_map,List.length_map,Array.length_toList,hp.sz,sizeLine_eq];lia,_,e,rv,hl⟩,rfl,q _ _ z1 z2 (I.aw.fresh hz)⟩
section
variable{X:Cx}
end
theorem DV{X:Cx}(K:PySem.W.Frag){pos:Pos}{es:List Expr}{k:Nat}{t:Ce}{n:Nat}(hc:X.calm=true)(h:G5 X es t)(hK:X.K=K:=by rfl)(hn:(assignEach es X.env).length=n:=by rfl)(xX:(assignEach es X.env).findIdx? (·.1)=none:=by rfl):PG X (.Tuple es k pos) (Cq K n t):=by subst hK;exact hE hc h hn xX
section
open PySem.W
variable{prog:Program}{w:World}{A:Around}{E:Value->Shared->Prop}{s:Shared}{T:String}{r d:Addr}{n:Nat}{P:Nat->Value->Prop}{OK:Heap->Prop}
theorem uY{R:List Value->Shared->Prop}(K:KdlSrc prog w T r d n P OK)(hh:A.handled=none)(aw:OK s.heap)(hn:n<=sizeLine)(q:∀(g:Heap)(tk:Nat)(acc:Array Value),Grows s.heap g->s.heap.objs.size<=g.objs.size->ItemsOf P acc n->R acc.toList { s with heap:=g,toks:=tk }):wpAny (model prog w) A (collect (.ref r)) R E s:=by
 have lt:=K.there _ aw;unfold collect;refine wpAny_bind (wpAny_runValue (codeAny_builtin entry_proto_collect' ?_));rw[Around.under_plainId PySem.F.plain_proto_collect _];show wpAny _ A.in1 (newList [] >>= λx=>again (.builtin "list.__iadd__" ⟨[x,.ref r],[]⟩)) _ _ s;refine wpAny_bind (wpAny_newObj_type (wpAny_pure ⟨plainId_quiet PySem.F.plain_list_iadd _,codeAny_builtin entry_list_iadd' ?_⟩));rw[Around.under_plainId PySem.F.plain_list_iadd _];have e1:(s.heap.push { cls:=.type "list",data:=.seq ([]:List Value).toArray }).get? s.heap.objs.size=some { cls:=.type "list",data:=.seq #[] }:=Heap.get?_push_size _ rfl;show wpAny _ A.in1 (Builtin.List.listExtendWith (.ref s.heap.objs.size) (.ref r) (.ref s.heap.objs.size)) _ _ _;have z:=kdl_extend (A:=A) (s:={ s with heap:=s.heap.push { cls:=.type "list",data:=.seq ([]:List Value).toArray } })
  (R:=λ(f:Result)(t:Shared)=>∃(g:Heap)(tk:Nat)(acc:Array Value)(c:Nat),f=.ok (.ret (.ref s.heap.objs.size))/\t={ s with heap:=g,toks:=tk }/\Grows s.heap g/\g.get? s.heap.objs.size=some { cls:=.type "list",dict:=none,data:=.seq acc c,slots:=#[] }/\ItemsOf P acc n)
  K hh (K.keep _ _ aw λb _ o e=>Heap.get?_push_of_some _ e) s.heap.objs.size (Nat.ne_of_gt lt.1) (Nat.ne_of_gt lt.2) (.ref s.heap.objs.size) 0 e1
  (λg tk acc c hk hS ha=>⟨g,tk,acc,c,rfl,rfl,λb o e=>hk b o (Nat.ne_of_lt (Heap.lt_size e)) (Heap.get?_push_of_some _ e),hS,ha⟩) hn
 refine wpAny_mono z (λfin t x=>?_) λe t x=>?_
 ·cases fin with
  |done f =>
   obtain⟨g,tk,acc,c,e,rfl,hk,hS,ha⟩:=x;cases e;show wpAny _ A (load s.heap.objs.size >>= _) _ _ _;exact wpAny_bind (wpAny_load hS (wpAny_pure (q g tk acc hk (Nat.le_of_lt (Heap.lt_size hS)) ha)))
  |again c₁ =>
   refine⟨x.1,codeAny_mono x.2 λf t2 y=>?_⟩;obtain⟨g,tk,acc,c,rfl,rfl,hk,hS,ha⟩:=y;show wpAny _ A (load s.heap.objs.size >>= _) _ _ _;exact wpAny_bind (wpAny_load hS (wpAny_pure (q g tk acc hk (Nat.le_of_lt (Heap.lt_size hS)) ha)))
 obtain⟨_,_,_,_,y,_⟩:=x;cases y
theorem wK{x:Value}{lt:Nat->Nat->Bool}{Q:Value->Shared->Prop}(G:List Value->Prop)(GF:∀vs,G vs->vs.length<64)(col:∀R:List Value->Shared->Prop,(∀(vs:List Value)(h':Heap)(tk:Tok),G vs->Grows s.heap h'->s.heap.objs.size<=h'.objs.size->R vs { s with heap:=h',toks:=tk })->wpAny (model prog w) A.in1 (collect x) R E s)(S:∀vs,G vs->∃κ,kg prog w A.in1.in1 s.heap vs lt κ)(q:∀(vs:List Value)(p:Array Nat)(h':Heap)(tk:Tok)(e:Nat)(l:Addr),G vs->cA vs.length p->kF lt p vs.length->Grows s.heap h'->s.heap.objs.size<=l->h'.get? l=some (seqObj "list" (ff vs p).toArray e)->Q (.ref l) { s with heap:=h',toks:=tk }):
  wpAny (model prog w) A (call (.builtin "sorted") [x]) Q E s:=by
 refine Calls.call_function_entry kind_sorted plain_sorted entry_sorted (args_sorted1 _) ?_;unfold Builtin.«sorted»;refine wpAny_bind (m:=checkCount "sorted" 1 1 _) (wpAny_pure ?_);refine wpAny_bind (col _ λvs h' tk hG g hz=>?_);have hv:=GF vs hG;obtain⟨κ,S⟩:=S vs hG;refine wpAny_bind (wpAny_newList ?_ (by rw[sizeLine_eq];lia));have ye:(h'.push (seqObj "list" vs.toArray 0)).get? h'.objs.size=some (seqObj "list" vs.toArray 0):=Heap.get?_push_size _ rfl;show wpAny _ _ _ _ _ { s with heap:=h'.push (seqObj "list" vs.toArray 0),toks:=tk };refine wpAny_bind (wpAny_holding (wpAny_call_entry slot_list_sort ⟨_,ye,rfl⟩ entry_list_sort (l7 (h:=s.heap) ye (λb o e=>⟨λz=>absurd (Heap.lt_size e) (by rw[z];exact Nat.not_lt.mpr hz),Heap.get?_push_of_some _ (g b o e)⟩) S hv λp hp ap=>⟨_,rfl,?_⟩) (args_list_sort _)))
 obtain⟨e,he⟩:∃e,(sortedHeap (h'.push (seqObj "list" vs.toArray 0)) h'.objs.size vs (ff vs p).toArray).get? h'.objs.size=some (seqObj "list" (ff vs p).toArray e):=by unfold sortedHeap;obtain⟨e1,z1⟩:∃e1,((h'.push (seqObj "list" vs.toArray 0)).update h'.objs.size (Obj.mapSeq λ_=>#[])).get? h'.objs.size=some (seqObj "list" #[] e1):=⟨_,get?_update_seq ye (λ_=>#[])⟩;exact⟨_,get?_update_seq (Heap.get?_push_of_some _ (Heap.get?_push_of_some _ z1)) _⟩
 refine wpAny_pure ⟨_,rfl,q vs p _ tk e _ hG hp ap (λb o z=>?_) hz he⟩;have nb:b≠h'.objs.size:=λy=>absurd (Heap.lt_size z) (by rw[y];exact Nat.not_lt.mpr hz);unfold sortedHeap;rw[(Heap.SameBut.update _ h'.objs.size (Obj.mapSeq λ_=>(ff vs p).toArray)).2 b nb];refine Heap.get?_push_of_some _ (Heap.get?_push_of_some _ ?_);rw[(Heap.SameBut.update _ h'.objs.size (Obj.mapSeq λ_=>(#[]:Array Value))).2 b nb];exact Heap.get?_push_of_some _ (g b o z)
end
theorem DW(ns:List Int):mq (ns.map PyData.int)where
 kd:=.ints λd hd=>by obtain⟨n,_,rfl⟩:=List.mem_map.mp hd;exact⟨n,rfl⟩
 ok:=λd hd e he=>by obtain⟨n,_,rfl⟩:=List.mem_map.mp hd;obtain⟨m,_,rfl⟩:=List.mem_map.mp he;simp[o4]
 cb:=λd hd e he h=>by obtain⟨n,_,rfl⟩:=List.mem_map.mp hd;obtain⟨m,_,rfl⟩:=List.mem_map.mp he;simp only[bD,decide_eq_true_eq,decide_eq_false_iff_not]at h ⊢;lia
 lz:=λd hd e he f hf h1 h2=>by obtain⟨n,_,rfl⟩:=List.mem_map.mp hd;obtain⟨m,_,rfl⟩:=List.mem_map.mp he;obtain⟨k,_,rfl⟩:=List.mem_map.mp hf;simp only[bD,decide_eq_false_iff_not]at h1 h2 ⊢;lia
theorem rG:∀{ns:List Int}{us:List Value},us.length=ns.length->(∀(i:Nat)(u:Value),us[i]?=some u->∃t,u=Value.int (ns.getD i 0) t)->aX (ns.map V.int) us
 |[],[],_,_=>.nil
 |[],_::_,h,_=>by cases h
 |_::_,[],h,_=>by cases h
 |n::ns,u::us,h,q=>by
  refine .cons (q 0 u rfl) (rG (Nat.succ.inj h) λi v e=>?_);have:=q (i+1) v (by simpa using e)
  simpa using this
section
variable{X:Cx}
theorem BI(hc:X.calm=true){pins:List (Addr×Obj)}{σ:St}{H:Hp}{s:Shared}{A:Around}{E:Value->Shared->Prop}{d:Addr}{kvs:List (Key×V)}{ns:List Int}(I:Inv X pins σ H s)(hA:A.handled=X.A.handled)(hd:H d=some (.dK kvs))(hk:kvs.map (·.1)=ns.map Sum.inl){R:List Value->Shared->Prop}(q:∀(vs:List Value)(h':Heap)(tk:Tok),aX (ns.map V.int) vs->Grows s.heap h'->s.heap.objs.size<=h'.objs.size->R vs { s with heap:=h',toks:=tk }):wpAny (model X.prog X.w) A (collect (.ref d)) R E s:=by
 obtain⟨vs,ep,rel,z,hs,hm,_⟩:=I.freeze hd;have hl:kvs.length=ns.length:=by have:=congrArg List.length hk;rwa [List.length_map,List.length_map]at this
 have HF:=rel.length;refine uY (PySem.W.kdl_dict (knd:=aR X.prog X.w) (kvs:=vs) (ep:=ep) hs) (hA.trans (I.ok.hd hc)) hm (by lia) λg tk acc hg hz ha=>q _ g tk ?_ hg hz;obtain⟨a1,a2⟩:=ha;refine rG (by rw[Array.length_toList,a1];lia) λi u hu=>?_;obtain⟨k,x,e1,e2⟩:=a2 i u (by simpa using hu);obtain⟨v,ev⟩:=A8 rel e1;have ek:(kvs.map (·.1))[i]?=some k:=by rw[List.getElem?_map,ev];rfl
 rw[hk,List.getElem?_map]at ek;cases en:ns[i]? with
 |none=>rw[en]at ek;cases ek
 |some n =>
  rw[en]at ek;obtain rfl:Sum.inl n=k:=Option.some.inj ek;have er:ns.getD i 0=n:=by rw[List.getD_eq_getElem?_getD,en];rfl
  rw[er];exact A7 e2
def Iz:List V->Hp->VK->Prop:=λxs H Q=>∃(d:Addr)(kvs:List (Key×V))(ns:List Int),xs=[.ref d]/\H d=some (.dK kvs)/\kvs.map (·.1)=ns.map Sum.inl/\ns.length<64/\∀(ys:List Int)(q:Addr),ys.Perm ns->ys.Pairwise (·<=·)->H q=none->Q (.ref q) (upd H q (.lst (ys.map V.int)))
theorem iD(hu:X.A.units+16<cLine)(hc:X.calm=true:=by rfl):dC X (.builtin "sorted") Iz:=by
 intro pins s σ H xs us Q I r h;obtain⟨d,kvs,ns,rfl,hd,hk,GF,q⟩:=h;obtain⟨u,rfl,rx⟩:=vals1 r;cases rx;have S:∀vs,aX (ns.map V.int) vs->∃κ,kg X.prog X.w X.A.in1.in1 s.heap vs (λi j=>bD ((ns.map PyData.int).getD i .none) ((ns.map PyData.int).getD j .none)) κ:=λvs hv=>by
  have hl:=hv.length;rw[List.length_map]at hl;refine jM (by rw[List.length_map];lia) (λj hj=>?_) (λd qA=>by obtain⟨n,_,rfl⟩:=List.mem_map.mp qA;rfl) (λd qA=>by obtain⟨n,_,rfl⟩:=List.mem_map.mp qA;exact Nat.zero_le _) (DW ns) (by show X.A.units+1+1+12<cLine;lia);obtain⟨x,h1,h2⟩:=hv.back (List.getElem?_eq_getElem hj);rw[List.getElem?_map]at h1;cases en:ns[j]? with
  |none=>rw[en]at h1;cases h1
  |some n =>
   rw[en]at h1;obtain rfl:V.int n=x:=Option.some.inj h1;obtain⟨t,ht⟩:=(show ∃t,vs[j]=Value.int n t from h2);have er:(ns.map PyData.int).getD j .none=.int n:=(by rw[List.getD_eq_getElem?_getD,List.getElem?_map,en];rfl);rw[ht,er];exact⟨_,.int n t⟩
 refine wK (λvs=>aX (ns.map V.int) vs) (λvs hv=>by have:=hv.length;rw[List.length_map]at this;lia) (λR k=>BI (A:=X.A.in1) hc I rfl hd hk λvs h' tk hv g hz=>k vs h' tk hv g hz) S λvs p h' tk e l hv hp ap g hz hl=>?_;have hlen:ns.length=vs.length:=by have:=hv.length;rwa [List.length_map]at this
 obtain⟨z1,z2⟩:=nZ hp ap ns hlen (0:Int) (λx y=>x<=y) (λi j hi hj h0=>by
  have rF:i<ns.length:=by lia
  have G9:j<ns.length:=by lia
  simp[rF,G9,bD]at h0
  simpa[rF,G9]using h0)
 have BH:∀i∈p.toList,i<(ns.map V.int).length:=by
  intro i hi;have:=(Array.perm_iff_toList_perm.mp hp.pm).mem_iff.mp hi;have:i<vs.length:=by simpa using this
  rw[List.length_map];lia
 have rv:=hv.pick p.toList BH;have ev:(p.toList.map λi=>(ns.map V.int).getD i V.bS)=(p.toList.map λi=>ns.getD i 0).map V.int:=by rw[List.map_map];refine List.map_congr_left λi hi=>?_;have:=BH i hi;rw[List.length_map]at this;simp[this]
 rw[ev]at rv;refine⟨.ref l,_,I.laid (t':=tk) (o:=.lst ((p.toList.map λi=>ns.getD i 0).map V.int)) (λb o eb=>g b o eb) hz ⟨by rw[List.length_map,List.length_map,Array.length_toList,hp.sz,sizeLine_eq];lia,_,e,rv,hl⟩,rfl,q _ _ z1 z2 (I.aw.fresh hz)⟩
end
abbrev Tk:=List Int
def d9(a b:Int):List (Option Int):=[some a,some b]
structure cK(K:PySem.W.Frag)(H:Hp)(a:Addr)(k:Tk):Prop where
 ex:(∃x y,k=[x,y]/\ar K H a [.int x,.int y])\/(∃x y z w b,k=[x,y,z,w]/\ar K H a [.int x,.int y,.ref b]/\ar K H b [.int z,.int w])
theorem cK.same{K:PySem.W.Frag}{H H':Hp}{a:Addr}{s:Tk}(h:cK K H a s)(e:aI H H'):cK K H' a s:=by
 rcases h.ex with⟨x,y,h1,h2⟩|⟨x,y,z,w,b,h1,h2,h3⟩
 ·exact⟨.inl ⟨x,y,h1,e.tup h2⟩⟩
 exact⟨.inr ⟨x,y,z,w,b,h1,e.tup h2,e.tup h3⟩⟩
theorem cK.kept{K:PySem.W.Frag}{H H':Hp}{a:Addr}{s:Tk}(h:cK K H a s)(e:Kept H H'):cK K H' a s:=by
 rcases h.ex with⟨x,y,h1,h2⟩|⟨x,y,z,w,b,h1,h2,h3⟩
 ·exact⟨.inl ⟨x,y,h1,e.tup h2⟩⟩
 exact⟨.inr ⟨x,y,z,w,b,h1,e.tup h2,e.tup h3⟩⟩
def l8(h:Heap)(k:Tk)(a:Addr):Prop:=(∃x y,k=[x,y]/\fD h (d9 x y) a)\/(∃x y z w b t t',k=[x,y,z,w]/\h.IsTuple a #[.int x t,.int y t',.ref b]/\fD h (d9 z w) b)
def wL:Tk->Int
 |[x,y]=>oJ (d9 x y)
 |[x,y,z,w]=>reduceHash (Builtin.Tuple.tupleHashOf [hashInt x,hashInt y,oJ (d9 z w)])
 |_=>0
def x6:Tk->Nat
 |[_,_]=>3
 |_=>6
theorem l9{h:Heap}{x y:Int}{a:Addr}(r:fD h (d9 x y) a):∃t u,h.IsTuple a #[.int x t,.int y u]:=by
 obtain⟨aS,r,ht⟩:=r;cases r with
 |cons r1 r =>
  cases r with
  |cons r2 r =>
   cases r;obtain⟨t,rfl⟩:=(show ∃t,_=Value.int x t from r1);obtain⟨u,rfl⟩:=(show ∃t,_=Value.int y t from r2);exact⟨t,u,ht⟩
theorem l8.inj{h:Heap}{a:Addr}{x y:Tk}(hx:l8 h x a)(hy:l8 h y a):x=y:=by
 rcases hx with⟨p,q,rfl,r⟩|⟨p,q,z,w,b,t,t',rfl,r,r2⟩
 ·rcases hy with⟨p',q',rfl,r'⟩|⟨p',q',z',w',b',u,u',rfl,r',I0⟩
  ·have:=r.inj r';simp only[d9,List.cons.injEq,Option.some.injEq,and_true]at this;rw[this.1,this.2]
  obtain⟨t,u2,ht⟩:=l9 r;exact absurd (congrArg Array.size (oK ht r')) (by show ¬((2:Nat)=3);decide)
 rcases hy with⟨p',q',rfl,r'⟩|⟨p',q',z',w',b',u,u',rfl,r',I0⟩
 ·obtain⟨t2,u2,ht⟩:=l9 r';exact absurd (congrArg Array.size (oK ht r)) (by show ¬((2:Nat)=3);decide)
 have e:=oK r r';simp only[Array.mk.injEq,List.cons.injEq,Value.int.injEq,Value.ref.injEq,and_true]at e;obtain⟨⟨rfl,_⟩,⟨rfl,_⟩,rfl⟩:=e;have:=r2.inj I0;simp only[d9,List.cons.injEq,Option.some.injEq,and_true]at this;rw[this.1,this.2]
section
variable{prog:Program}{w:World}{A:Around}{E:Value->Shared->Prop}{s:Shared}
theorem zN{x:Tk}{a:Addr}{Q:Int->Shared->Prop}(hu:A.units+1<cLine)(hx:l8 s.heap x a)(h:Q (wL x) { s with toks:=s.toks+x6 x }):wpAny (model prog w) A (pyHash (.ref a)) Q E s:=by
 rcases hx with⟨p,q,rfl,r⟩|⟨p,q,z,ww,b,t,t',rfl,r,r2⟩
 ·exact ox (by lia) r h
 refine lu (all:=[(.int p t,hashInt p,1),(.int q t',hashInt q,1),(.ref b,oJ (d9 z ww),3)]) (by lia) r (λy hy tk Q' hq=>?_) h;simp only[List.mem_cons,List.not_mem_nil,or_false]at hy;rcases hy with rfl|rfl|rfl
 ·exact wpAny_pyHash_int hq
 ·exact wpAny_pyHash_int hq
 exact ox (by show A.units+1<cLine;exact hu) r2 hq
theorem Lw{x y:Tk}{a b:Addr}(hu:A.units+1<cLine)(hx:l8 s.heap x a)(hy:l8 s.heap y b):SeqAt.EqAt A s (.ref a) (.ref b) (decide (x=y)):=by
 by_cases zA:a=b
 ·subst zA;rw[decide_eq_true (hx.inj hy)];exact SeqAt.EqAt.same _
 rcases hx with⟨p,q,rfl,r⟩|⟨p,q,z,ww,c,t,t',rfl,r,r2⟩
 ·rcases hy with⟨p',q',rfl,r'⟩|⟨p',q',z',w',c',u,u',rfl,r',I0⟩
  ·have:=rowAt (A:=A) (by lia) r r';have e:decide (d9 p q=d9 p' q')=decide ([p,q]=[p',q']):=(by simp[d9]);rw[e]at this;exact this
  obtain⟨t,t2,ht⟩:=l9 r;refine SeqAt.EqAt.of_refs zA ?_;have z:=SeqAt.RcAt.tuples (A:=A) (s:=s) (e:=λj=>if j=0 then(p==p')else(q==q')) ht r' (by lia) λj h1 h2=>?_
  ·have e:((List.range (min (#[Value.int p t,Value.int q t2]:Array Value).size (#[Value.int p' u,Value.int q' u',Value.ref c']:Array Value).size)).all (λj=>if j=0 then(p==p')else(q==q'))&&(#[Value.int p t,Value.int q t2]:Array Value).size==(#[Value.int p' u,Value.int q' u',Value.ref c']:Array Value).size)=decide ([p,q]=[p',q',z',w']):=by rw[decide_eq_false (by simp)];have e2:((#[Value.int p t,Value.int q t2]:Array Value).size==(#[Value.int p' u,Value.int q' u',Value.ref c']:Array Value).size)=false:=rfl;rw[e2,Bool.and_false]
   exact e▸z
  match j,h1,h2 with
  |0,_,_=>exact SeqAt.EqAt.int_int _ _ _ _
  |1,_,_=>exact SeqAt.EqAt.int_int _ _ _ _
  |j+2,h1,_=>exact absurd h1 (by show ¬(j+2<2);lia)
 rcases hy with⟨p',q',rfl,r'⟩|⟨p',q',z',w',c',u,u',rfl,r',I0⟩
 ·obtain⟨t3,t4,ht⟩:=l9 r';refine SeqAt.EqAt.of_refs zA ?_;have zz:=SeqAt.RcAt.tuples (A:=A) (s:=s) (e:=λj=>if j=0 then(p==p')else(q==q')) r ht (by lia) λj h1 h2=>?_
  ·have e:((List.range (min (#[Value.int p t,Value.int q t',Value.ref c]:Array Value).size (#[Value.int p' t3,Value.int q' t4]:Array Value).size)).all (λj=>if j=0 then(p==p')else(q==q'))&&(#[Value.int p t,Value.int q t',Value.ref c]:Array Value).size==(#[Value.int p' t3,Value.int q' t4]:Array Value).size)=decide ([p,q,z,ww]=[p',q']):=by rw[decide_eq_false (by simp)];have e2:((#[Value.int p t,Value.int q t',Value.ref c]:Array Value).size==(#[Value.int p' t3,Value.int q' t4]:Array Value).size)=false:=rfl;rw[e2,Bool.and_false]
   exact e▸zz
  match j,h1,h2 with
  |0,_,_=>exact SeqAt.EqAt.int_int _ _ _ _
  |1,_,_=>exact SeqAt.EqAt.int_int _ _ _ _
  |j+2,_,h2=>exact absurd h2 (by show ¬(j+2<2);lia)
 refine SeqAt.EqAt.of_refs zA ?_;have zz:=SeqAt.RcAt.tuples (A:=A) (s:=s) (e:=λj=>if j=0 then(p==p')else if j=1 then(q==q')else decide (d9 z ww=d9 z' w')) r r' (by lia) λj h1 h2=>?_
 ·have e:((List.range (min 3 3)).all (λj=>if j=0 then(p==p')else if j=1 then(q==q')else decide (d9 z ww=d9 z' w'))&&((3:Nat)==3))=decide ([p,q,z,ww]=[p',q',z',w']):=by have e3:List.range (min 3 3)=[0,1,2]:=rfl;rw[e3,Bool.eq_iff_iff];simp[d9]
  exact e▸zz
 match j,h1,h2 with
 |0,_,_=>exact SeqAt.EqAt.int_int _ _ _ _
 |1,_,_=>exact SeqAt.EqAt.int_int _ _ _ _
 |2,_,_=>exact rowAt (by show A.units+1<cLine;exact hu) r2 I0
 |j+3,h1,_=>exact absurd h1 (by show ¬(j+3<3);lia)
theorem BJ{x:Tk}{a:Addr}{Q:Bool->Shared->Prop}(hx:l8 s.heap x a)(h:Q true s):wpAny (model prog w) A (eqIsQuiet 8 (.ref a)) Q E s:=by
 rcases hx with⟨p,q,rfl,r⟩|⟨p,q,z,ww,b,t,t',rfl,r,r2⟩
 ·exact rD 7 r h
 refine nV 7 r (λv hv Q' hq=>?_) h;simp only[List.mem_cons,List.not_mem_nil,or_false]at hv;rcases hv with rfl|rfl|rfl
 ·rw[eqIsQuiet_byValue _ rfl];exact wpAny_pure hq
 ·rw[eqIsQuiet_byValue _ rfl];exact wpAny_pure hq
 exact rD 6 r2 hq
end
def BK(prog:Program)(w:World):HeapKind prog w Tk where
 is:=l8
 hash:=wL
 draws:=x6
 room:=λA=>A.units+1<cLine
 inj:=λhx hy=>hx.inj hy
 keeps:=λ{h h' k a d o es ep} hx ho hd hs=>by
  rcases hx with⟨p,q,rfl,⟨i1,r1,p1⟩⟩|⟨p,q,z,ww,b,t,t',rfl,r,⟨i1,r1,p1⟩⟩
  ·exact .inl ⟨p,q,rfl,i1,r1,ot p1 ho hd hs⟩
  exact .inr ⟨p,q,z,ww,b,t,t',rfl,ot r ho hd hs,i1,r1,ot p1 ho hd hs⟩
 pyHash:=λhu hk h=>zN hu hk h
 eqBool:=λhu hx hy h=>Lw hu hx hy _ _ _ _ h
 quiet:=λhk h=>BJ hk h
abbrev TX:=List (Tk×Addr×V)
def mB(q:Tk×Addr×Value):DictEntry:=⟨wL q.1,.ref q.2.1,q.2.2⟩
abbrev Q3:TX->List (Tk×Addr×Value)->Prop:=Paired λp q=>p.1=q.1/\p.2.1=q.2.1/\RelV p.2.2 q.2.2
def DKφ(a:Addr)(xs:TX)(h:Heap):Prop:=xs.length<=sizeLine/\(a==sysModules)=false/\(xs.map (·.1)).Nodup/\∃vs:List (Tk×Addr×Value),Q3 xs vs/\∃o es ep,h.get? a=some o/\o.ExactDict/\o.data=.dict es ep/\es.toList=vs.map mB
def gf(a:Addr)(xs:TX):HO:=.ext (DKφ a xs)
def jB(xs:TX)(k:Tk):Option V:=(xs.find? λx=>decide (x.1=k)).map (·.2.2)
def iE(xs:TX)(k:Tk)(b:Addr)(v:V):TX:=if(jB xs k).isSome then xs.map (λx=>if x.1=k then(x.1,x.2.1,v)else x)else xs++[(k,b,v)]
theorem dX(xs:TX)(k:Tk):(jB xs k).isSome=decide (k∈xs.map (·.1)):=by unfold jB;rw[Option.isSome_map,Bool.eq_iff_iff,decide_eq_true_iff,List.find?_isSome];simp only[decide_eq_true_eq,List.mem_map]
theorem o7{xs:TX}{k:Tk}{b:Addr}{v:V}(h:k∉xs.map (·.1)):iE xs k b v=xs++[(k,b,v)]:=by unfold iE;rw[dX,decide_eq_false h];rfl
theorem qL{xs:TX}{k:Tk}{b:Addr}{v:V}(h:k∈xs.map (·.1)):(iE xs k b v).map (·.1)=xs.map (·.1):=by unfold iE;rw[dX,decide_eq_true h,if_pos rfl,List.map_map];apply List.map_congr_left;intro x _;show(if x.1=k then(x.1,x.2.1,v)else x).1=x.1;split<;>rfl
theorem BL(xs:TX)(k:Tk)(b:Addr)(v:V):(iE xs k b v).length<=xs.length+1:=by
 unfold iE;split
 ·rw[List.length_map];lia
 simp
theorem wM{xs:TX}(hn:(xs.map (·.1)).Nodup)(k:Tk)(b:Addr)(v:V):((iE xs k b v).map (·.1)).Nodup:=by
 by_cases h:k∈xs.map (·.1)
 ·rw[qL h];exact hn
 rw[o7 h,List.map_append];exact xw hn h
theorem Q3.val{xs:TX}{vs:List (Tk×Addr×Value)}(r:Q3 xs vs)(k:Tk):eZ (jB xs k) ((atKey vs k).map (·.2)):=by
 induction r with
 |nil=>exact True.intro
 |@cons p q ps qs h t ih =>
  obtain⟨h1,_,h2⟩:=h;by_cases e:p.1=k
  ·have e':q.1=k:=h1.symm.trans e;have b:atKey (q::qs) k=some q.2:=(by simp[atKey,List.find?_cons,e']);have b':jB (p::ps) k=some p.2.2:=(by simp[jB,List.find?_cons,e]);rw[b',b];exact h2
  have e':¬q.1=k:=λz=>e (h1.trans z);have b:atKey (q::qs) k=atKey qs k:=by simp[atKey,List.find?_cons,e']
  have b':jB (p::ps) k=jB ps k:=by simp[jB,List.find?_cons,e]
  rw[b',b];exact ih
theorem Q3.A0{xs:TX}{vs:List (Tk×Addr×Value)}(r:Q3 xs vs)(k:Tk){y:V}{u:Value}(ry:RelV y u):
  Q3 (xs.map λx=>if x.1=k then(x.1,x.2.1,y)else x) (vs.map (putAt k u)):=by
 induction r with
 |nil=>exact .nil
 |@cons p q ps qs h t ih =>
  rw[List.map_cons,List.map_cons];refine .cons ?_ ih;obtain⟨h1,h2,h3⟩:=h;unfold putAt;by_cases e:p.1=k
  ·rw[if_pos e,if_pos (h1.symm.trans e)];exact⟨h1,h2,ry⟩
  rw[if_neg e,if_neg (λz=>e (h1.trans z))];exact⟨h1,h2,h3⟩
theorem Q3.put{xs:TX}{vs:List (Tk×Addr×Value)}(r:Q3 xs vs)(k:Tk)(b:Addr){y:V}{u:Value}(ry:RelV y u):Q3 (iE xs k b y) (storedH vs k b u):=by
 have e:(jB xs k).isSome=(atKey vs k).isSome:=by rw[(r.val k).dF,Option.isSome_map]
 unfold iE storedH;rw[e];by_cases q:(atKey vs k).isSome=true
 ·rw[if_pos q,if_pos q];exact r.A0 k ry
 rw[if_neg q,if_neg q];exact Paired.snoc r ⟨rfl,rfl,ry⟩
theorem Q3.keys{xs:TX}{vs:List (Tk×Addr×Value)}(r:Q3 xs vs):xs.map (·.1)=vs.map (·.1):=by
 induction r with
 |nil=>rfl
 |cons h t ih=>rw[List.map_cons,List.map_cons,ih,h.1]
def GI(d:Addr)(es:Array DictEntry)(ep:Nat):HO:=.ext (mm d es ep)
def zO(d:Addr)(xs:TX)(u:HO):Prop:=xs.length<=sizeLine/\(d==sysModules)=false/\(xs.map (·.1)).Nodup/\∃(vs:List (Tk×Addr×Value))(es:Array DictEntry)(ep:Nat),Q3 xs vs/\es.toList=vs.map mB/\u=GI d es ep
structure TD(K:PySem.W.Frag)(H:Hp)(a:Addr)(xs:TX):Prop where
 at_:H a=some (gf a xs)\/∃u,H a=some u/\zO a xs u
 keys:∀p∈xs,cK K H p.2.1 p.1
section
variable{X:Cx}{pins:List (Addr×Obj)}{σ:St}{H:Hp}{s:Shared}{a:Addr}{xs:TX}{A:Around}{E:Value->Shared->Prop}
theorem DX(I:Inv X pins σ H s){b:Addr}{k:Tk}(h:cK X.K H b k):l8 s.heap k b:=by
 rcases h.ex with⟨x,y,e,h1⟩|⟨x,y,z,w,p,e,h1,h2⟩
 ·exact .inl ⟨x,y,e,Ew I h1⟩
 obtain⟨aS,r,ht,_⟩:=I.tuple h1;cases r with
 |cons r1 r =>
  cases r with
  |cons r2 r =>
   cases r with
   |cons r3 r =>
    cases r;obtain⟨t,rfl⟩:=r1;obtain⟨t',rfl⟩:=r2;cases r3;exact .inr ⟨x,y,z,w,p,t,t',e,ht,Ew I h2⟩
theorem TD.raw(I:Inv X pins σ H s)(d:H a=some (gf a xs)):DKφ a xs s.heap:=(I.aw a _ d).1
theorem TD.either(I:Inv X pins σ H s)(d:H a=some (gf a xs)\/∃u,H a=some u/\zO a xs u):DKφ a xs s.heap:=by
 rcases d with d|⟨u,d,z,hd,hn,vs,es,ep,r,h4,rfl⟩
 ·exact TD.raw I d
 obtain⟨o,h1,h2,h3⟩:=(show ay X.prog X.w H s.heap a (GI a es ep)from I.aw a _ d).1;exact⟨z,hd,hn,vs,r,o,es,ep,h1,h2,h3,h4⟩
theorem TD.dict(I:Inv X pins σ H s)(d:TD X.K H a xs):xs.length<=sizeLine/\(a==sysModules)=false/\(xs.map (·.1)).Nodup/\∃vs,Q3 xs vs/\s.heap.DictOfH (BK X.prog X.w) a vs:=by
 obtain⟨z,hd,hn,vs,r,o,es,ep,h1,h2,h3,h4⟩:=TD.either I d.at_;refine⟨z,hd,hn,vs,r,o,es,ep,h1,h2,h3,h4,?_,by rw[<-r.keys];exact hn⟩;have all:∀{l:TX}{m:List (Tk×Addr×Value)},Q3 l m->(∀p∈l,cK X.K H p.2.1 p.1)->∀x∈m,(BK X.prog X.w).is s.heap x.1 x.2.1:=by
  intro l m q
  induction q with
  |nil=>intro _ x hx;exact nomatch hx
  |@cons p q ps qs hq t ih =>
   intro hl x hx;rcases List.mem_cons.mp hx with e|hx
   ·subst e;rw[<-hq.1,<-hq.2.1];exact DX I (hl p List.mem_cons_self)
   exact ih (λp hp=>hl p (List.mem_cons_of_mem _ hp)) x hx
 exact all r d.keys
theorem BM{P:Program}{w:World}{H':Hp}{h':Heap}(z:xs.length<=sizeLine)(hd:(a==sysModules)=false)(hn:(xs.map (·.1)).Nodup){vs:List (Tk×Addr×Value)}(r:Q3 xs vs){o:Obj}{es:Array DictEntry}{ep:Nat}(h1:h'.get? a=some o)(h2:o.ExactDict)(h3:o.data=.dict es ep)(h4:es.toList=vs.map mB):ay P w H' h' a (gf a xs) :=
 ⟨⟨z,hd,hn,vs,r,o,es,ep,h1,h2,h3,h4⟩,⟨o,h1⟩,λg1 g2 ⟨z,hd,hn,vs,r,o,es,ep,h1,h2,h3,h4⟩ k=>⟨z,hd,hn,vs,r,o,es,ep,k o h1,h2,h3,h4⟩⟩
theorem GJ:G3 (some (gf a xs)):=True.intro
theorem zP{b:Addr}{k:Tk}{v:V}{r:Value}{Q:Unit->Shared->Prop}(hu:A.units+2<cLine)(I:Inv X pins σ H s)(d:TD X.K H a xs)(da:H a=some (gf a xs))(hb:cK X.K H b k)(hl:xs.length<sizeLine)(rv:RelV v r)(h:∀s',Inv X pins σ (upd H a (gf a (iE xs k b v))) s'->Q () s'):wpAny (model X.prog X.w) A (setItem (.ref a) (.ref b) r) Q E s:=by
 obtain⟨z,hd,hn,vs,rel,dd⟩:=d.dict I;have hz:vs.length<=sizeLine:=by rw[<-Paired.length rel];exact z
 refine wpAny_setItem_heap (hsz:=hz) (show A.in1.units+1<cLine from by show A.units+1+1<cLine;lia) (DX I hb) dd λh' AK hs=>h _ ?_;obtain⟨q,es,ep,hq,h2,h3,h4,_,h5⟩:=AK;refine lj I (by rw[da];exact GJ) hs ⟨q,hq⟩ (BM (by have:=BL xs k b v;lia) hd (wM hn k b v) (rel.put k b rv) hq h2 h3 h4)
end
def JA(K:PySem.W.Frag):R2:=λx y H Q=>∃a b xs k v,x=.ref a/\y=.ref b/\TD K H a xs/\cK K H b k/\jB xs k=some v/\Q v H
def Lx(K:PySem.W.Frag)(neg:Bool):R2:=λx y H Q=>∃a b xs k,x=.ref b/\y=.ref a/\TD K H a xs/\cK K H b k/\Q (.bl (if neg then !decide (k∈xs.map (·.1))else decide (k∈xs.map (·.1)))) H
section
variable{X:Cx}
theorem DY(K:PySem.W.Frag)(hu:X.A.units+16<cLine)(hK:X.K=K:=by rfl):jF X (compareOp .In) (Lx K false):=by subst hK;intro pins s σ H x y v u Q I rx ry h;obtain⟨a,b,xs,k,rfl,rfl,d,hb,q⟩:=h;cases rx;cases ry;obtain⟨z,hd,hn,vs,rel,dd⟩:=d.dict I;refine wpAny_in_heap (show X.A.in1.units+1<cLine from by show X.A.units+1+1<cLine;lia) (DX I hb) hd dd ?_;have e:=(rel.val k).dF;rw[Option.isSome_map]at e;rw[<-e,dX];exact⟨.bl _,H,I.tok _,rfl,q⟩
variable{o i value:Expr}{pos pos':Pos}{td ty tv:TE}
theorem oO(K:PySem.W.Frag)(hu:X.A.units+16<cLine)(ho:PE X o td)(hi:PE X i ty)(hs:DE i)(hK:X.K=K:=by rfl):PE X (.Subscript o i pos) (Hn (JA K) td ty):=by subst hK;intro pins s σ H Q I h;refine sJ PySem.F.slot_dict_getitem.lookup hs (az (ho pins s σ H _ I h) λu s1 ⟨x,H1,I1,rx,q1⟩=>az (hi pins s1 σ H1 _ I1 q1) λiv s2 ⟨y,H2,I2,ry,a,b,xs,k,v,ex,ey,d,hb,hv,q2⟩=>?_);subst ex;subst ey;cases rx;cases ry;obtain⟨z,hd,hn,vs,rel,dd⟩:=d.dict I2;obtain⟨w',hw,md⟩:=eZ.some_of (v:=v) (o:=(atKey vs k).map (·.2)) (by rw[<-hv];exact rel.val k);obtain⟨p,hp,xv⟩:=Option.map_eq_some_iff.mp hw;refine⟨dd.typeIs,wpAny_getItem_heap (show X.A.in1.units+1<cLine from by show X.A.units+1+1<cLine;lia) (DX I2 hb) dd hp ?_⟩;rw[xv];exact⟨v,H2,I2.tok _,md,q2⟩
def JB(K:PySem.W.Frag)(td ty tv:TE):TS:=λD σ H=>tv σ H λv H1=>td σ H1 λx H2=>ty σ H2 λy H3=>∃a b xs k,x=.ref a/\y=.ref b/\TD K H3 a xs/\H3 a=some (gf a xs)/\cK K H3 b k/\xs.length<sizeLine/\D.nx σ (upd H3 a (gf a (iE xs k b v)))
theorem sP(K:PySem.W.Frag)(hu:X.A.units+16<cLine)(ho:PE X o td)(hi:PE X i ty)(hv:PE X value tv)(hs:swapsWith value (some (.Subscript o i pos')) pos.line X.env=pure false)(hK:X.K=K:=by rfl):
  PS X (.Assign [.Subscript o i pos'] value pos) (JB K td ty tv):=by
 subst hK;intro pins s σ H D I h;refine wpAny_Assign_Subscript (az (hv pins s σ H _ I h) λr s1 ⟨v,H1,I1,rv,q1⟩=>az (ho pins s1 σ H1 _ I1 q1) λu s2 ⟨x,H2,I2,rx,q2⟩=>az (hi pins s2 σ H2 _ I2 q2) λiv s3 ⟨y,H3,I3,ry,a,b,xs,k,ex,ey,d,da,hb,hl,q3⟩=>?_) hs;subst ex;subst ey;cases rx;cases ry;exact zP (by lia) I3 d da hb hl rv λs4 I4=>⟨σ,_,I4,q3⟩
def JC:TE:=λ_ H Q=>∀p,H p=none->Q (.ref p) (upd H p (gf p []))
theorem zQ{P:Program}{w:World}{H:Hp}(h:Heap)(hb:sysModules<h.objs.size):ay P w H (h.push { cls:=.type "dict",data:=.dict #[] }) h.objs.size (gf h.objs.size []) :=
 BM (Nat.zero_le _) (beq_eq_false_iff_ne.mpr (Ne.symm (Nat.ne_of_lt hb))) List.nodup_nil .nil (Heap.get?_push_size _ rfl) ⟨rfl,rfl,rfl⟩ (ep:=0) rfl rfl
theorem x8:PE X (.Dict [] [] pos) JC:=λpins s σ H Q I h =>
 wpAny_Dict_empty ⟨.ref s.heap.objs.size,_,I.laid (a:=s.heap.objs.size) (o:=gf s.heap.objs.size []) (t':=s.toks) (λ_ _ q=>Heap.get?_push_of_some _ q) (Nat.le_refl _) (zQ s.heap I.Ln),rfl,h _ (I.aw.fresh (Nat.le_refl _))⟩
end
def zR(d:Addr)(u:HO)(xs:TX):It where
 go:=λi H=>H d=some u/\i<xs.length
 yg:=λi H x H'=>H'=H/\∃p,xs[i]?=some p/\x=.ref p.2.1
 stop:=λi H=>H d=some u/\xs.length<=i
theorem Q3.addrs{xs:TX}{vs:List (Tk×Addr×Value)}(r:Q3 xs vs):aX (xs.map λp=>V.ref p.2.1) (vs.map λq=>Value.ref q.2.1):=by
 induction r with
 |nil=>exact .nil
 |@cons p q ps qs h t ih =>
  refine .cons ?_ ih;show Value.ref q.2.1=Value.ref p.2.1;rw[h.2.1]
theorem uZ{P:Program}{w:World}{K:PySem.W.Frag}{tg:Expr}{d it:Addr}{xs:TX}{vs:List (Tk×Addr×Value)}{es:Array DictEntry}{ep:Nat}(r:Q3 xs vs)(he:es.toList=vs.map mB):
  Turn P w K tg (zR d (GI d es ep) xs) [it] it (λi h=>h.IsKeyIter it d i es.size ep)where
 mem:=by simp
 obj:=λi h st b hb=>by
  have e:b=it:=by simpa using hb
  subst e;obtain⟨o,e,c,dd⟩:=st;exact⟨o,e,λv z=>by rw[dd]at z;cases z⟩
 keep:=λi h h' st k=>st.at λo e=>k it (by simp) o e
 item:=by
  intro X hP hw hK hc i pins s σ H E I hf st hg;subst hP hw hK;obtain⟨hd,hi⟩:=hg;have hm:mm d es ep s.heap:=(show ay X.prog X.w H s.heap d (GI d es ep)from I.aw d _ hd).1;have hl:es.size=xs.length:=by have:=congrArg List.length he;simp only[Array.length_toList,List.length_map]at this;rw[this,<-Paired.length r]
  obtain⟨f0,f1,f2,f3,f4,f5⟩:=hf it (by simp);have rF:i<es.size:=by lia
  refine BC st hm rF λh' aP sb=>?_;have I1:Inv X pins σ H { s with heap:=h' }:=I.turned (t':=s.toks) (λb o hb e=>sb.extBut b o hb e) f0 f1 f3 f4 f5
  obtain⟨o,e,c,dd⟩:=id aP;have ex:xs[i]?=some xs[i]:=by simp[hi]
  obtain⟨p,hp⟩:∃p,xs[i]=p:=⟨_,rfl⟩;rw[hp]at ex;obtain⟨u,hu,ru⟩:=(Q3.addrs r).get (i:=i) (x:=V.ref p.2.1) (by rw[List.getElem?_map,ex];rfl);have ek:es[i].key=u:=by
   have e2:es.toList[i]?=some es[i]:=(by simp[rF]);rw[he,List.getElem?_map]at e2;rw[List.getElem?_map]at hu;cases ew:vs[i]? with
   |none=>rw[ew]at e2;cases e2
   |some q =>
    rw[ew]at e2 hu;rw[<-Option.some.inj e2,<-Option.some.inj hu];rfl
  exact⟨es[i].key,rfl,tu (s:={ s with heap:=h' }) e c dd (by decide) ⟨.ref p.2.1,H,I1,by rw[ek];exact ru,⟨rfl,p,ex,rfl⟩,aP,λb hb=>(hf b hb).1⟩⟩
 done:=by
  intro X hP hw hK hc i pins s σ H E I hf st hg;subst hP hw hK;obtain⟨hd,hi⟩:=hg;have hm:mm d es ep s.heap:=(show ay X.prog X.w H s.heap d (GI d es ep)from I.aw d _ hd).1;have hl:es.size=xs.length:=by have:=congrArg List.length he;simp only[Array.length_toList,List.length_map]at this;rw[this,<-Paired.length r]
  obtain⟨f0,f1,f2,f3,f4,f5⟩:=hf it (by simp);exact DO (I.ok.hd hc) st hm (by lia) λh' eb=>⟨rfl,I.turned (t':=s.toks) (λb o hb e=>eb b o hb e) f0 f1 f3 f4 f5⟩
 self:=λ_ _ _ _ _ st h=>wpAny_pyIter_keyiter st h
section
variable{X:Cx}
theorem Inv.BN{pins:List (Addr×Obj)}{σ:St}{H:Hp}{s:Shared}{d:Addr}{xs:TX}(I:Inv X pins σ H s)(hd:H d=some (gf d xs)):
  ∃vs es ep,Q3 xs vs/\es.toList=vs.map mB/\xs.length<=sizeLine/\(d==sysModules)=false/\(xs.map (·.1)).Nodup/\mm d es ep s.heap/\Inv X pins σ (upd H d (GI d es ep)) s:=by
 obtain⟨z,hs,hn,vs,r,o,es,ep,h1,h2,h3,h4⟩:=TD.raw I hd;have hm:mm d es ep s.heap:=⟨o,h1,h2,h3⟩;refine⟨vs,es,ep,r,h4,z,hs,hn,hm,?_⟩;exact I.write (x:=d) (e:=d) (h':=s.heap) (t':=s.toks) (by rw[hd];exact True.intro) (.inl rfl) (λ_ _ _ q=>q) ⟨o,h1⟩ ⟨hm,⟨o,h1⟩,λg1 g2 x k=>x.at_ k⟩
theorem Inv.BO{pins:List (Addr×Obj)}{σ:St}{H:Hp}{s:Shared}{d:Addr}{xs:TX}{u:HO}(I:Inv X pins σ H s)(ok:zO d xs u)(hd:H d=some u):Inv X pins σ (upd H d (gf d xs)) s:=by obtain⟨z,hs,hn,vs,es,ep,r,h4,rfl⟩:=ok;obtain⟨o,h1,h2,h3⟩:=(show ay X.prog X.w H s.heap d (GI d es ep)from I.aw d _ hd).1;exact I.write (x:=d) (e:=d) (h':=s.heap) (t':=s.toks) (by rw[hd];exact True.intro) (.inl rfl) (λ_ _ _ q=>q) ⟨o,h1⟩ (BM z hs hn r h1 h2 h3 h4)
def DZ(td:TE):TI:=λσ H R=>td σ H λx H1=>∃d xs,x=.ref d/\H1 d=some (gf d xs)/\∀u,zO d xs u->R (zR d u xs) (upd H1 d u)
theorem mw{tg l:Expr}{td:TE}(hl:PE X l td):PI X tg l (DZ td):=by
 intro pins s σ H R I h;refine az (hl pins s σ H _ I h) λv s1 ⟨x,H1,I1,r1,q1⟩=>?_;obtain⟨d,xs,rfl,hd,q⟩:=q1;cases r1;obtain⟨vs,es,ep,rel,he,z,hs,hn,hm,I2⟩:=I1.BN hd;refine BB hs hm ?_;refine⟨s1.heap.objs.size,[s1.heap.objs.size],_,_,_,rfl,I2.kept (t':=s1.toks) λb o e=>Heap.get?_push_of_some _ e,uZ rel he,⟨_,Heap.get?_push_size _ rfl,rfl,rfl⟩,λb hb=>?_,q _ ⟨z,hs,hn,vs,es,ep,rel,he,rfl⟩⟩;have e:b=s1.heap.objs.size:=by simpa using hb
 subst e;exact I2.rm (Nat.le_refl _) (I2.aw.fresh (Nat.le_refl _))
def Dc(t:TS):TS:=λD σ H=>t { D with nx:=λσ' H'=>∃d xs u,zO d xs u/\H' d=some u/\D.nx σ' (upd H' d (gf d xs)) } σ H
theorem zS{st:Stmt}{t:TS}(h:PS X st t):PS X st (Dc t):=by
 intro pins s σ H D I q;refine wpAny_mono (h pins s σ H _ I q) (λf s' q=>?_) λ_ _ z=>z;cases f with
 |next=>obtain⟨σ',H',I',d,xs,u,ok,hd,q⟩:=q;exact⟨σ',_,I'.BO ok hd,q⟩
 |brk=>exact q
 |cont=>exact q
 |ret u=>exact q
def Dd(t:TE):TE:=λσ H Q=>t σ H λx H'=>∃d xs u,zO d xs u/\H' d=some u/\Q x (upd H' d (gf d xs))
theorem zT{e:Expr}{t:TE}(h:PE X e t):PE X e (Dd t):=by intro pins s σ H Q I q;exact az (h pins s σ H _ I q) λv s1 ⟨x,H1,I1,r1,d,xs,u,ok,hd,q1⟩=>⟨x,_,I1.BO ok hd,r1,q1⟩
end
section
variable{g:TG}{tt:TT}{te:TE}{D:Addr}{σ:St}{H:Hp}{Q:VK}
theorem zU{d:Addr}{u:HO}{xs:TX}(Pv:Nat->St->Hp->Prop)(h0:Pv 0 σ H)(hl:∀i σ H,i<=xs.length->Pv i σ H->H d=some u)(hs:∀(i:Nat)(p:Tk×Addr×V)(σ:St)(H:Hp)(N:St->Hp->Prop),(∀σ H,Pv (i+1) σ H->N σ H)->xs[i]?=some p->Pv i σ H->g (.ref p.2.1) σ H λσ3 H3=>tt σ3 H3 λb H4 =>
   if b=true then te σ3 H4 λv H5=>∃ys,H5 D=some (.lst ys)/\ys.length<sizeLine/\N σ3 (upd H5 D (.lst (ys++[v])))else N σ3 H4)(hd:∀σ H,Pv xs.length σ H->Q (.ref D) H):oh (zR d u xs) g tt te D σ H Q:=by
 refine⟨λi m σ H=>m=xs.length-i/\i<=xs.length/\Pv i σ H,⟨xs.length,by simp,Nat.zero_le _,h0⟩,?_⟩;rintro i m σ' H' ⟨rfl,hi,p⟩;have q1:=hl i σ' H' hi p;by_cases bq:i<xs.length
 ·refine .inr ⟨⟨q1,bq⟩,λx H2 y=>?_⟩;obtain⟨rfl,k,ex,rfl⟩:=y;exact hs i k σ' _ (λσ3 H3=>∃m',m'<xs.length-i/\m'=xs.length-(i+1)/\i+1<=xs.length/\Pv (i+1) σ3 H3) (λσ3 H3 z=>⟨xs.length-(i+1),by lia,rfl,bq,z⟩) ex p
 have e:i=xs.length:=by lia
 subst e;exact .inl ⟨⟨q1,Nat.le_refl _⟩,hd σ' H' p⟩
theorem o8{d:Addr}{u:HO}{xs:TX}{tb:TS}{D:Ends}(Pv:Nat->St->Hp->Prop)(h0:Pv 0 σ H)(hl:∀i σ H,i<=xs.length->Pv i σ H->H d=some u)(hs:∀(i:Nat)(p:Tk×Addr×V)(σ:St)(H:Hp),xs[i]?=some p->Pv i σ H->g (.ref p.2.1) σ H λσ2 H2=>tb { D with nx:=Pv (i+1),ct:=Pv (i+1),bk:=D.nx } σ2 H2)(hd:∀σ H,Pv xs.length σ H->D.nx σ H):
  ∃W:Nat->Nat->St->Hp->Prop,(∃m,W 0 m σ H)/\∀i m σ H,W i m σ H ->
   ((zR d u xs).stop i H/\D.nx σ H)\/((zR d u xs).go i H/\∃N:St->Hp->Prop,(∀σ' H',N σ' H'->∃m',m'<m/\W (i+1) m' σ' H')/\∀x H',(zR d u xs).yg i H x H'->g x σ H' λσ2 H2=>tb { D with nx:=N,ct:=N,bk:=D.nx } σ2 H2):=by
 refine⟨λi m σ H=>m=xs.length-i/\i<=xs.length/\Pv i σ H,⟨xs.length,by simp,Nat.zero_le _,h0⟩,?_⟩;rintro i m σ' H' ⟨rfl,hi,p⟩;have q1:=hl i σ' H' hi p;by_cases bq:i<xs.length
 ·refine .inr ⟨⟨q1,bq⟩,Pv (i+1),λσ3 H3 z=>⟨xs.length-(i+1),by lia,rfl,bq,z⟩,λx H2 y=>?_⟩;obtain⟨rfl,k,ex,rfl⟩:=y;exact hs i k σ' _ ex p
 have e:i=xs.length:=by lia
 subst e;exact .inl ⟨⟨q1,Nat.le_refl _⟩,hd σ' H' p⟩
end
end L2
namespace L2
section
open PySem PySem.Spec PyProof.Rows
variable{X:Cx}
def GK(P:Program)(w:World)(td ty:TE):TE:=λσ H Q=>td σ H λx H1=>ty σ H1 λy H2=>∃a kvs u k v,x=.ref a/\H2 a=some u/\zF P w a kvs u/\y=kV k/\dg kvs k=some v/\Q v H2
theorem o9(P:Program)(w:World){o i:Expr}{pos:Pos}{td ty:TE}(ho:PE X o td)(hi:PE X i ty)(hs:DE i)(hP:X.prog=P:=by rfl)(hw:X.w=w:=by rfl):PE X (.Subscript o i pos) (GK P w td ty):=by subst hP hw;intro pins s σ H Q I h;refine sJ PySem.F.slot_dict_getitem.lookup hs (az (ho pins s σ H _ I h) λu s1 ⟨x,H1,I1,rx,q1⟩=>az (hi pins s1 σ H1 _ I1 q1) λiv s2 ⟨y,H2,I2,ry,a,kvs,uo,k,v,ex,De,ok,ey,hv,q2⟩=>?_);subst ex ey;obtain rfl:u=Value.ref a:=rx;obtain⟨z,hs',vs,ep,rel,rfl⟩:=ok;have hm:s2.heap.DictAt (aR X.prog X.w) a vs ep:=(show ay X.prog X.w H2 s2.heap a (GA X.prog X.w a vs ep)from I2.aw a _ De).1;obtain⟨w',O6,md⟩:=eZ.some_of (v:=v) (o:=valueAt vs k) (by rw[<-hv];exact rel.val k);exact⟨hm.dictOf.typeIs,wpAny_getItem_of (jK ry) hm.dictOf.mapOf O6 ⟨v,H2,I2.tok _,md,q2⟩⟩
end
open PySem PySem.Spec PyProof.Rows
structure tV(b:Bool)(t:SetTable):Prop where
 led:t.led=b
 Ly:t.dummies=#[]
 zV:t.place.toList.Pairwise (·<·)
theorem pA(xs:Array Nat)(j:Nat)(zV:xs.toList.Pairwise (·<·)):∀(fuel lo hi:Nat),lo<=hi->hi<=xs.size->hi-lo<=fuel->(∀(i x:Nat),i<lo->xs[i]?=some x->x<j)->(∀(i x:Nat),hi<=i->xs[i]?=some x->j<=x) ->
  (∀(i x:Nat),i<SetTable.below.go xs j fuel lo hi->xs[i]?=some x->x<j)/\(∀(i x:Nat),SetTable.below.go xs j fuel lo hi<=i->xs[i]?=some x->j<=x)/\SetTable.below.go xs j fuel lo hi<=xs.size
 |0,lo,hi,h1,h2,h3,a,b=>by
  unfold SetTable.below.go;obtain rfl:lo=hi:=by lia
  exact⟨a,b,h2⟩
 |fuel+1,lo,hi,h1,h2,h3,a,b=>by
  unfold SetTable.below.go;by_cases c:lo<hi
  ·rw[if_pos c];have ml:(lo+hi)/2<xs.size:=(by lia);have em:xs[(lo+hi)/2]?=some xs[(lo+hi)/2]:=(by simp[ml]);have eg:xs.getD ((lo+hi)/2) j=xs[(lo+hi)/2]:=(by simp[Array.getD,ml]);have le:∀{i k x y:Nat},i<=k->xs[i]?=some x->xs[k]?=some y->x<=y:=λ{i k x y} O7 hx hy=>by
    obtain⟨i1,e1⟩:=Array.getElem?_eq_some_iff.mp hx;obtain⟨k1,e2⟩:=Array.getElem?_eq_some_iff.mp hy;rcases Nat.lt_or_eq_of_le O7 with c|c
    ·have:=List.pairwise_iff_getElem.mp zV i k (by simpa using i1) (by simpa using k1) c;simp[e1,e2]at this;lia
    subst c;rw[hx]at hy;cases hy;exact Nat.le_refl _
   dsimp only;rw[eg];by_cases c2:xs[(lo+hi)/2]<j
   ·simp only[if_pos c2];exact pA xs j zV fuel _ hi (by lia) h2 (by lia) (λi x rF hx=>by have:=le (show i<=(lo+hi)/2 by lia) hx em;lia) b
   simp only[if_neg c2];exact pA xs j zV fuel lo _ (by lia) (by lia) (by lia) a (λi x rF hx=>by have:=le rF em hx;lia)
  rw[if_neg c];obtain rfl:lo=hi:=by lia
  exact⟨a,b,h2⟩
theorem BP{xs:Array Nat}(j:Nat)(zV:xs.toList.Pairwise (·<·)):(∀(i x:Nat),i<SetTable.below xs j->xs[i]?=some x->x<j)/\(∀(i x:Nat),SetTable.below xs j<=i->xs[i]?=some x->j<=x)/\SetTable.below xs j<=xs.size:=by unfold SetTable.below;refine pA xs j zV xs.size 0 xs.size (Nat.zero_le _) (Nat.le_refl _) (by lia) (λi x h=>by lia) λi x h e=>?_;have:=(Array.getElem?_eq_some_iff.mp e).1;lia
theorem wN{xs:Array Nat}{j:Nat}(zV:xs.toList.Pairwise (·<·))(ne:xs[SetTable.below xs j]?≠some j):(SetTable.insertAt xs (SetTable.below xs j) j).toList.Pairwise (·<·):=by
 obtain⟨h1,h2,h3⟩:=BP j zV;rw[SetTable.toList_insertAt];generalize SetTable.below xs j=p at h1 h2 h3 ne;have up:∀x∈xs.toList.drop p,j<x:=λx hx=>by
  obtain⟨k,hk,rfl⟩:=List.getElem_of_mem hx;rw[List.length_drop]at hk;have kl:p+k<xs.size:=by simp at hk;lia
  have e:xs[p+k]?=some xs[p+k]:=by simp[kl]
  have:=h2 (p+k) _ (by lia) e;rw[List.getElem_drop];simp only[Array.getElem_toList];rcases Nat.lt_or_eq_of_le this with c|c
  ·exact c
  exfalso;rcases Nat.eq_zero_or_pos k with z|z
  ·subst z;exact ne (by rw[show p=p+0 by rfl,e,<-c])
  have pl:p<xs.size:=by lia
  have ep:xs[p]?=some xs[p]:=by simp[pl]
  have a:=h2 p _ (Nat.le_refl _) ep;have b:=List.pairwise_iff_getElem.mp zV p (p+k) (by simpa using pl) (by simpa using kl) (by lia);simp at b;lia
 refine List.pairwise_append.mpr ⟨zV.sublist (List.take_sublist _ _),List.pairwise_cons.mpr ⟨up,zV.sublist (List.drop_sublist _ _)⟩,λa ha b hb=>?_⟩;have aj:a<j:=by
  obtain⟨k,hk,rfl⟩:=List.getElem_of_mem ha;rw[List.length_take]at hk;have kl:k<xs.size:=by simp at hk;lia
  rw[List.getElem_take];exact h1 k _ (by lia) (by simp[kl])
 rcases List.mem_cons.mp hb with rfl|hb
 ·exact aj
 have:=up b hb;lia
theorem tV.standIn{b:Bool}{t:SetTable}(h:tV b t)(n:Nat):tV b (t.standIn n):=⟨h.led,rfl,by show(Array.range n).toList.Pairwise (·<·);rw[Array.toList_range];exact List.pairwise_lt_range⟩
theorem tV.BQ{b:Bool}{t:SetTable}(h:tV b t):tV b { t with plain:=false }:=⟨h.led,h.Ly,h.zV⟩
theorem x9(j:Nat):SetTable.has #[] j=false:=by simp[SetTable.has]
theorem wO{b:Bool}{t:SetTable}(h:tV b t)(j:Nat):(t.slot j=.empty/\t.place[SetTable.below t.place j]?≠some j)\/∃i,t.slot j=.live i:=by
 unfold SetTable.slot;by_cases c:t.place[SetTable.below t.place j]?==some j
 ·exact .inr ⟨SetTable.below t.place j,by simp only[c,if_true]⟩
 refine .inl ⟨?_,by simpa using c⟩;simp only[c,h.Ly,x9];simp
theorem ua{b:Bool}{t:SetTable}(h:tV b t)(f:Nat->Int)(hh:Int):∀(fuel:Nat)(p:SetTable.Probe)(j:Nat)(dm:Option Nat),p.dummy=none->SetTable.probe.go t f hh fuel p=some (.empty j dm)->dm=none/\t.place[SetTable.below t.place j]?≠some j
 |0,p,j,dm,_,e=>by unfold SetTable.probe.go at e;cases e
 |fuel+1,p,j,dm,hp,e=>by
  unfold SetTable.probe.go at e;have O8:(t.advance p).dummy=none:=by
   unfold SetTable.advance;split
   ·exact hp
   exact hp
  rcases wO h p.j with⟨z,ne⟩|⟨i,z⟩
  ·rw[z]at e;simp only[Option.some.injEq,SetTable.Met.empty.injEq]at e;obtain⟨rfl,rfl⟩:=e;exact⟨hp,ne⟩
  rw[z]at e;simp only at e;split at e
  ·cases e
  exact ua h f hh fuel _ j dm O8 e
theorem tV.layNew{b:Bool}{t:SetTable}(h:tV b t)(es:Array (Int×Value))(hh:Int)(x:Value):tV b (layNew t es hh x).2.1:=by
 unfold PySem.layNew;split
 ·rename_i slot wd e;have put:tV b (t.put slot).1:=by
   unfold SetTable.freeSlot at e;split at e
   ·rename_i j dm e2;unfold SetTable.probe at e2;obtain⟨z1,z2⟩:=ua h _ _ _ _ j dm rfl e2;subst z1;obtain⟨rfl,_⟩:=Prod.mk.inj (Option.some.inj e);unfold SetTable.put;exact⟨h.led,by show(if SetTable.has t.dummies _ then _ else t.dummies)=#[];rw[h.Ly,x9];rfl,wN h.zV z2⟩
   cases e
  dsimp only;unfold SetTable.orStandIn;split
  ·exact put
  exact put.standIn _
 exact h.standIn _
theorem tV.relayAll{b:Bool}{t:SetTable}(h:tV b t)(es:Array (Int×Value))(n:Nat):tV b (relayAll t es n).2.1:=by
 unfold PySem.relayAll;split
 ·rename_i t' order e;dsimp only;split
  ·unfold SetTable.relaid SetTable.laid at e;obtain⟨ow,_,e⟩:=Option.bind_eq_some_iff.mp e;obtain⟨rfl,_⟩:=Prod.mk.inj (Option.some.inj e);refine⟨h.led,rfl,?_⟩;show(((List.range _).filterMap λj=>(ow.getD j none).map (j,·)).map (·.1)).Pairwise (·<·);rw[List.pairwise_map,List.pairwise_filterMap];refine List.pairwise_lt_range.imp λ{a c} L3 x hx y hy=>?_;obtain⟨u,_,rfl⟩:=Option.map_eq_some_iff.mp hx;obtain⟨v,_,rfl⟩:=Option.map_eq_some_iff.mp hy;exact L3
  exact h.standIn _
 exact h.standIn _
def pB(w:World):Bool:=w.params.followText "set-order"
section
variable{prog:Program}{w:World}{K:Type}[DecidableEq K](knd:KeyKind prog w K)
def mC(h:Heap)(a:Addr)(S:K->Bool)(n:Nat):Prop :=
 ∃o es ep t,h.get? a=some o/\o.ExactSet/\o.data=.set es ep t/\ElemsOf knd es.toList/\(∀k,S k=true↔∃e∈es.toList,knd.is k e.2=true)/\es.size<scanBound/\t.fits es.size=true/\es.size=n/\tV (!pB w) t
variable{knd}
variable{A:Around}{E:Value->Shared->Prop}{s:Shared}
theorem pC{h:Heap}{a:Addr}{o:Obj}{es:Array (Int×Value)}{ep:Nat}{t:SetTable}(ho:h.get? a=some o)(hex:o.ExactSet)(hd:o.data=.set es ep t){ez:Array (Int×Value)}{tz:SetTable}{S':K->Bool}(e1:ElemsOf knd ez.toList)(e2:∀k,S' k=true↔∃e∈ez.toList,knd.is k e.2=true)(e3:ez.size<scanBound)(e4:tz.fits ez.size=true)(e5:tV (!pB w) tz):
  (h.update a (Obj.putSet ez tz)).get? a=some { o with data:=.set ez (ep+1) tz }/\mC knd (h.update a (Obj.putSet ez tz)) a S' ez.size:=by
 have g:=(SetOf_store (knd:=knd) ho hex hd e1 e2 e3 e4).1;exact⟨g,_,ez,ep+1,tz,g,hex,rfl,e1,e2,e3,e4,rfl,e5⟩
theorem yA{g:Bool->Sem Unit}(hg:∀(b:Bool)(z:Shared)(Q':Unit->Shared->Prop),Q' () z->wpAny (model prog w) A (g b) Q' E z){a:Addr}{o:Obj}{es:Array (Int×Value)}{ep:Nat}{t:SetTable}(ho:s.heap.get? a=some o)(hex:o.ExactSet)(hd:o.data=.set es ep t){ez:Array (Int×Value)}{tz:SetTable}{S':K->Bool}(e1:ElemsOf knd ez.toList)(e2:∀k,S' k=true↔∃e∈ez.toList,knd.is k e.2=true)(e3:ez.size<scanBound)(e4:tz.fits ez.size=true)(e5:tV (!pB w) tz){wd:Bool}{R:Option Bool->Shared->Prop}(h:∀h',Heap.SameBut a s.heap h'->mC knd h' a S' ez.size->R (some true) { s with heap:=h' }):
  wpAny (model prog w) A (do
    storeSet a ez tz
    if(!wd&&tz.tooFull)=true then do
      g (relayAll tz ez (SetTable.grown ez.size)).2.2
      storeSet a (relayAll tz ez (SetTable.grown ez.size)).1 (relayAll tz ez (SetTable.grown ez.size)).2.1
      pure (some true)
     else pure (some true)) R E s:=by
 refine wpAny_bind (wpAny_storeSet_of ho hd ?_ (fits_of_scanBound e3));obtain⟨o1,S1⟩:=pC (knd:=knd) ho hex hd e1 e2 e3 e4 e5;have sb:=Heap.SameBut.update s.heap a (Obj.putSet ez tz);split
 ·have hp:=relayAll_perm tz ez (SetTable.grown ez.size);have hf:=relayAll_fits tz ez (SetTable.grown ez.size);have ht:=e5.relayAll ez (SetTable.grown ez.size);generalize relayAll tz ez (SetTable.grown ez.size)=Rl at hp hf ht ⊢;obtain⟨ey,ty,gv⟩:=Rl;dsimp only at hp hf ht ⊢;have f2:∀k,S' k=true↔∃e∈ey.toList,knd.is k e.2=true:=λk=>(e2 k).trans ⟨λ⟨e,he,q⟩=>⟨e,hp.mem_iff.mpr he,q⟩,λ⟨e,he,q⟩=>⟨e,hp.mem_iff.mp he,q⟩⟩;have hz:ey.size=ez.size:=by rw[<-Array.length_toList,hp.length_eq,Array.length_toList]
  have f3:ey.size<scanBound:=by rw[hz];exact e3
  refine wpAny_bind (hg _ _ _ (wpAny_bind (wpAny_storeSet_of o1 rfl ?_ (fits_of_scanBound f3))));obtain⟨_,S2⟩:=pC (knd:=knd) o1 hex rfl (e1.perm hp) f2 f3 hf ht;rw[hz]at S2;exact wpAny_pure (h _ (sb.trans (Heap.SameBut.update _ a _)) S2)
 exact wpAny_pure (h _ sb S1)
theorem BR{a:Addr}{S:K->Bool}{n:Nat}{k:K}{x:Value}{Q:Bool->Shared->Prop}(vZ:knd.is k x=true)(Ib:x.scannable=true)(hS:mC knd s.heap a S n)(BS:n+1<scanBound)(h:∀h',Heap.SameBut a s.heap h'->mC knd h' a (λk'=>S k'||decide (k'=k)) (if S k then n else n+1)->Q (!S k) { s with heap:=h' }):
  wpAny (model prog w) A (setAddHashed a x (knd.hash k)) Q E s:=by
 obtain⟨o,es,ep,t,ho,hex,hd,zW,sQ,hb,hf,hn,tok⟩:=hS;have room:es.size+1<scanBound:=by rw[hn];exact BS
 unfold setAddHashed setAddHashedIn;refine wpAny_holding (wpAny_bind (wpAny_setState_of ho hd hf ?_));dsimp only;rw[byScan_of Ib hb zW];simp only[↓reduceIte];unfold setAddByScan;refine wpAny_bind (wpAny_bind (wpAny_rule (wpAny_bind (wpAny_setScan_of vZ ho hd hf zW ?_))));cases hr:List.findIdx? (λe=>knd.is k e.2) es.toList with
 |some j =>
  dsimp only;obtain⟨jl,pj,_⟩:=List.findIdx?_eq_some_iff_getElem.mp hr;have sk:S k=true:=(sQ k).mpr ⟨es.toList[j],List.getElem_mem jl,pj⟩;refine wpAny_pure (wpAny_pure ?_);have e:s={ s with heap:=s.heap }:=by cases s;rfl
  have z:=h s.heap (Heap.SameBut.refl a s.heap) ⟨o,es,ep,t,ho,hex,hd,zW,λk'=>by rw[Bool.or_eq_true,decide_eq_true_eq,<-sQ k'];exact⟨λu=>u.elim id (λe=>e▸sk),.inl⟩,hb,hf,by rw[sk];exact hn,tok⟩
  rw[sk]at z;rw[e];exact z
 |none =>
  dsimp only;have sk:S k=false:=by
   cases u:S k with
   |false=>rfl
   |true =>
    obtain⟨e,he,hp⟩:=(sQ k).mp u;have:=List.findIdx?_eq_none_iff.mp hr e he;rw[hp]at this;cases this
  have gw:∀(b:Bool){z:Shared}{Q':Unit->Shared->Prop},Q' () z->wpAny (model prog w) A (match b with|true=>rule "set.scan.the-table-gave-way"|false=>pure ()) Q' E z:=λb z Q' q=>by cases b<;>first|exact wpAny_pure q|exact wpAny_rule q
  have hp:=layNew_perm t es (knd.hash k) x;have JD:=layNew_fits t es (knd.hash k) x;have JE:=tok.layNew es (knd.hash k) x;generalize layNew t es (knd.hash k) x=Lz at hp JD JE ⊢;obtain⟨ez,tz,wd,gv⟩:=Lz;dsimp only at hp JD JE ⊢;rw[Array.toList_push]at hp;have f1:ElemsOf knd ez.toList:=(zW.push vZ Ib).perm hp;have f2:∀k',(S k'||decide (k'=k))=true↔∃e∈ez.toList,knd.is k' e.2=true:=mem_push_iff vZ sQ hp;have zs:ez.size=es.size+1:=by rw[<-Array.length_toList,hp.length_eq,List.length_append,Array.length_toList];rfl
  have f3:ez.size<scanBound:=by rw[zs];exact room
  refine wpAny_bind (gw _ ?_);have fin:∀h',Heap.SameBut a s.heap h'->mC knd h' a (λk'=>S k'||decide (k'=k)) ez.size->Q true { s with heap:=h' }:=by intro h' sb S1;have z:=h h' sb;rw[sk]at z;rw[zs,hn]at S1;exact z S1
  split
  ·refine wpAny_bind ?_;rw[hashByValue_scannable 8 Ib];refine wpAny_pure (yA ?_ ho hex hd f1 f2 f3 ?_ ?_ ?_)
   ·intro b z Q' q;cases b<;>first|exact wpAny_pure q|exact wpAny_rule q
   ·split
    ·exact JD
    exact SetTable.fits_plain_off JD
   ·split
    ·exact JE
    exact JE.BQ
   intro h' sb S1;dsimp only;exact wpAny_pure (fin h' sb S1)
  refine wpAny_bind (wpAny_pure ?_);simp only[↓reduceIte];refine yA ?_ ho hex hd f1 f2 f3 JD JE ?_
  ·intro b z Q' q;cases b<;>first|exact wpAny_pure q|exact wpAny_rule q
  intro h' sb S1;dsimp only;exact wpAny_pure (fin h' sb S1)
end
section
variable{prog:Program}{w:World}{A:Around}{E:Value->Shared->Prop}{s:Shared}
theorem zX(a:Value){Q₁:Value->Shared->Prop}(h:Q₁ (.ref s.heap.objs.size) { s with heap:=s.heap.push { cls:=.type "set",dict:=none,data:=.set #[] 0 (.fresh 0 0 (!pB w)) } }):
  codeAny (model prog w) A (.call (.builtin "set.__new__") ⟨[.type "set",a],[]⟩) (wants Q₁ E) s:=by
 refine codeAny_of_tree (show wpAny _ A.in1 (do checkBuiltinCall "set.__new__" ⟨[.type "set",a],[]⟩;again (.builtin "set.__new__" ⟨[.type "set",a],[]⟩)) _ _ s from ?_)
 refine wpAny_bind (wpAny_of_eq (PySem.F.newCall_set_1 a) (wpAny_pure ⟨plainId_quiet PySem.F.plain_set_new _,codeAny_builtin PySem.F.entry_set_new ?_⟩));rw[Around.under_plainId PySem.F.plain_set_new _];unfold Builtin.«set.__new__» Builtin.Frozenset.newClass;have O9:=sub_set_self;obtain⟨hp,g,d,tk,os⟩:=s;dsimp only
 wp_walk
 refine wpAny_askSetting (wpAny_pure ?_);dsimp only;simp only[newObj];exact wpAny_bind (wpAny_alloc (wpAny_pure (wpAny_pure h)))
end
theorem zY{prog:Program}{w:World}{h:Heap}{a:Addr}{k:Key}{ks:List Key}(q:mC (aR prog w) h a (λk'=>iB ks k'||decide (k'=k)) (if iB ks k then(dd ks).length else(dd ks).length+1)):mC (aR prog w) h a (iB (k::ks)) (dd (k::ks)).length:=by
 have e1:(λk'=>iB ks k'||decide (k'=k))=iB (k::ks):=funext λk'=>zK.symm;have e2:(if iB ks k then(dd ks).length else(dd ks).length+1)=(dd (k::ks)).length:=by show _=(if iB ks k=true then dd ks else k::dd ks).length;split<;>rfl
 rw[e1,e2]at q;exact q
section
variable{prog:Program}{w:World}{A:Around}{R:Result->Shared->Prop}{I:Addr}{fp wr:List Addr}{G:Array GenState->Array GenState->Prop}{St:Nat->Shared->Prop}
theorem zZ(us:List Value)(ks:List Key)(hu:aX (ks.map kV) us)(W:WalksS prog w A.in1 I fp wr G us.length (λi v=>us[i]?=some v) St)(S:Addr)(nS:S∉fp)(hb:us.length+1<scanBound):
  ∀(m i:Nat)(s:Shared),us.length-i=m->i<=us.length->St i s->mC (aR prog w) s.heap S (iB (ks.take i).reverse) (dd (ks.take i).reverse).length ->
   (∀s',Moved (S::wr) G s s'->mC (aR prog w) s'.heap S (iB ks.reverse) (dd ks.reverse).length->R (.ok (.ret .none)) s') ->
   codeAny (model prog w) A (.builtin "set.update.loop" ⟨[.ref S,.ref I],[]⟩) R s:=by
 have hlen:ks.length=us.length:=by rw[<-hu.length,List.length_map]
 have nw:S∉wr:=λz=>nS (W.sub _ z);have sb:∀b∈wr,b∈S::wr:=λb z=>List.mem_cons_of_mem _ z;have stays:∀{s s':Shared}{f:Key->Bool}{n:Nat},Moved wr G s s'->mC (aR prog w) s.heap S f n->mC (aR prog w) s'.heap S f n :=
  λhm ⟨o,es,ep,t,ho,r⟩=>⟨o,es,ep,t,hm.heap S _ nw ho,r⟩
 intro m
 induction m with
 |zero =>
  intro i s hm hi st hS hR;obtain rfl:i=us.length:=by lia
  refine codeAny_builtin F.entry_set_update_loop ?_;rw[Around.under_plainId F.plain_set_update_loop _];refine wpAny_bind (m:=pyNext (.ref I)) (W.done s _ _ st λs' mv=>?_);refine wpAny_pure (hR s' (mv.mono sb) ?_);have e:ks.take us.length=ks:=List.take_of_length_le (by lia);rw[e]at hS;exact stays mv hS
 |succ m ih =>
  intro i s hm hi st hS hR;have bq:i<us.length:=by lia
  refine codeAny_builtin F.entry_set_update_loop ?_;rw[Around.under_plainId F.plain_set_update_loop _];refine wpAny_bind (m:=pyNext (.ref I)) (W.item i s _ _ bq st λv s' hv aP mv=>?_);obtain⟨k,hk,rk⟩:∃k,ks[i]?=some k/\RelV (kV k) v:=by have rF:i<ks.length:=(by lia);obtain⟨u,e1,e2⟩:=hu.get (i:=i) (x:=kV ks[i]) (by rw[List.getElem?_map,List.getElem?_eq_getElem rF];rfl);have lR:us[i]?=some v:=hv;rw[e1]at lR;cases lR;exact⟨_,List.getElem?_eq_getElem rF,e2⟩
  obtain⟨k1,k2⟩:=BD (prog:=prog) (w:=w) rk;refine wpAny_bind (m:=holding [v] (setAdd S v)) (wpAny_holding ?_);unfold setAdd;refine wpAny_holding (wpAny_bind ((aR prog w).pyHash k1 ?_));have PB:=stays mv hS;have BS:(dd (ks.take i).reverse).length+1<scanBound:=by have:=wB (ks.take i).reverse;rw[List.length_reverse,List.length_take]at this;lia
  refine BR (knd:=aR prog w) (s:={ s' with toks:=s'.toks+1 }) k1 k2 PB BS λh' eq PD=>?_
  have e:(ks.take (i+1)).reverse=k::(ks.take i).reverse:=by rw[List.take_succ,hk,List.reverse_append];rfl
  have NW:=zY PD;rw[<-e]at NW;refine wpAny_pure ⟨plainId_quiet F.plain_set_update_loop _,ih (i+1) _ (by lia) bq (W.frame _ s' _ _ aP (Nat.le_succ _) λb z o eo=>?_) NW λs2 PF PH=>hR s2 (Moved.trans W.gtrans ((mv.mono sb).then_heap (Nat.le_succ _) λb o z eo=>?_) PF) PH⟩
  ·rw[eq.2 b (λy:b=S=>nS (by rw[<-y];exact z))];exact eo
  rw[eq.2 b (λy:b=S=>z (by rw[y];exact List.mem_cons_self))];exact eo
end
section
variable{prog:Program}{w:World}{A:Around}{E:Value->Shared->Prop}{s:Shared}
set_option maxHeartbeats 2000000 in
theorem ub{u:Value}{Q:Value->Shared->Prop}(hn:wpAny (model prog w) A.in1.in1 (Builtin.«set.__init__» ⟨[.ref s.heap.objs.size,u],[]⟩)
    (λfin s'=>match fin with|.done f=>wants (λr s2=>r=.none/\Q (.ref s.heap.objs.size) s2) E (.ok f) s'|.again c'=>c'.quiet=true/\codeAny (model prog w) A.in1 c' (wants (λr s2=>r=.none/\Q (.ref s.heap.objs.size) s2) E) s')
    (λe s'=>wants (λr s2=>r=.none/\Q (.ref s.heap.objs.size) s2) E (.error e) s') { s with heap:=s.heap.push { cls:=.type "set",dict:=none,data:=.set #[] 0 (.fresh 0 0 (!pB w)) } }):
  wpAny (model prog w) A (call (.type "set") [u]) Q E s:=by
 have ft:=F.called_set;obtain⟨c0,Q2,PJ⟩:=ft.mro;have g1:=ft.made;have g2:=ft.sub;have g3:=ft.notType;have g4:=ft.canCreate;have g5:=F.typeCall_set_1 u;refine wpAny_call (codeAny_of_tree (wpAny_pure (a:=_) ⟨Code.quiet_builtin _ (by decide +kernel),codeAny_builtin F.entry_type_call ?_⟩));rw[Around.under_plain (weight_type_call_type "set" [u] []) rfl]
 repeat (any_goals (first|assumption|(wp_step)))
 refine codeAny_mono (zX u (E:=E) (Q₁:=λobj z=>obj=.ref s.heap.objs.size/\z={ s with heap:=s.heap.push { cls:=.type "set",dict:=none,data:=.set #[] 0 (.fresh 0 0 (!pB w)) } }) ⟨rfl,rfl⟩) λr s₁ hr=>?_
 cases r with
 |error e=>exact hr
 |ok fl =>
  cases fl with
  |ret obj =>
   obtain⟨rfl,rfl⟩:=hr;have hT:Shared.TypeIs { s with heap:=s.heap.push { cls:=.type "set",dict:=none,data:=.set #[] 0 (.fresh 0 0 (!pB w)) } } (.ref s.heap.objs.size) "set":=⟨_,Heap.get?_push_size _ rfl,rfl⟩;have g6:=ft.init.lookup;have g7:=ft.init.bind (.ref s.heap.objs.size)
   repeat (any_goals (first|assumption|(wp_step)))
   refine codeAny_mono (codeAny_call_builtin ft.init.plain F.entry_set_init (check_set_init_1 hT hn)) λr2 s2 wQ=>?_;cases r2 with
   |error e=>exact wQ
   |ok f2 =>
    cases f2 with
    |ret r =>
     obtain⟨rfl,hq⟩:=wQ
     repeat (any_goals (first|assumption|(wp_step)))
    |_=>exact wQ.elim
  |_=>exact hr.elim
end
section
variable{prog:Program}{w:World}{A:Around}{E:Value->Shared->Prop}{s:Shared}
set_option maxHeartbeats 4000000 in
theorem nc{T:String}{l:Addr}{us:List Value}{ks:List Key}{Q:Value->Shared->Prop}(hh:A.handled=none)(hT:(T="list"/\s.heap.IsList l us.toArray)\/(T="tuple"/\s.heap.IsTuple l us.toArray))(hu:aX (ks.map kV) us)(hb:us.length+1<scanBound)(h:∀(h':Heap)(tk:Nat),mC (aR prog w) h' s.heap.objs.size (iB ks.reverse) (dd ks.reverse).length->(∀b o,s.heap.get? b=some o->h'.get? b=some o)->Q (.ref s.heap.objs.size) { s with heap:=h',toks:=tk }):
  wpAny (model prog w) A (call (.type "set") [.ref l]) Q E s:=by
 refine ub ?_;have hS:(s.heap.push { cls:=.type "set",dict:=none,data:=.set #[] 0 (.fresh 0 0 (!pB w)) }).get? s.heap.objs.size=some { cls:=.type "set",dict:=none,data:=.set #[] 0 (.fresh 0 0 (!pB w)) }:=Heap.get?_push_size _ rfl;have z4:A.in1.in1.in1.handled=none:=by simp[hh]
 have bq:l<s.heap.objs.size:=by rcases hT with⟨_,o,ho,_⟩|⟨_,o,ho,_⟩<;>exact Heap.lt_size ho
 have nl:l≠(s.heap.push { cls:=.type "set",dict:=none,data:=.set #[] 0 (.fresh 0 0 (!pB w)) }).objs.size:=by rw[Heap.size_push];exact Nat.ne_of_lt (Nat.lt_succ_of_lt bq)
 have nS:s.heap.objs.size∉[(s.heap.push { cls:=.type "set",dict:=none,data:=.set #[] 0 (.fresh 0 0 (!pB w)) }).objs.size,l]:=by
  rw[Heap.size_push];intro z;rcases List.mem_cons.mp z with z|z
  ·exact absurd z (Nat.ne_of_lt (Nat.lt_succ_self _))
  exact absurd (List.mem_singleton.mp z) (Nat.ne_of_gt bq)
 have fin:∀(I:Obj)(G:Array GenState->Array GenState->Prop)(hG:∀a b,G a b->b=a)(St:Nat->Shared->Prop),
   WalksS prog w A.in1.in1.in1 (s.heap.push { cls:=.type "set",dict:=none,data:=.set #[] 0 (.fresh 0 0 (!pB w)) }).objs.size [(s.heap.push { cls:=.type "set",dict:=none,data:=.set #[] 0 (.fresh 0 0 (!pB w)) }).objs.size,l] [(s.heap.push { cls:=.type "set",dict:=none,data:=.set #[] 0 (.fresh 0 0 (!pB w)) }).objs.size] G us.length (λi v=>us[i]?=some v) St ->
   St 0 { s with heap:=(s.heap.push { cls:=.type "set",dict:=none,data:=.set #[] 0 (.fresh 0 0 (!pB w)) }).push I } ->
   codeAny (model prog w) A.in1.in1 (.builtin "set.update.loop" ⟨[.ref s.heap.objs.size,.ref (s.heap.push { cls:=.type "set",dict:=none,data:=.set #[] 0 (.fresh 0 0 (!pB w)) }).objs.size],[]⟩)
    (λr s'=>∃v,r=.ok (.ret v)/\Q (.ref s.heap.objs.size) s') { s with heap:=(s.heap.push { cls:=.type "set",dict:=none,data:=.set #[] 0 (.fresh 0 0 (!pB w)) }).push I }:=by
  intro I G hG St W PK;refine zZ us ks hu W s.heap.objs.size nS hb us.length 0 _ rfl (Nat.zero_le _) PK ?_ λs' hm PL=>⟨_,rfl,?_⟩
  ·have L4:((s.heap.push { cls:=.type "set",dict:=none,data:=.set #[] 0 (.fresh 0 0 (!pB w)) }).push I).get? s.heap.objs.size=some { cls:=.type "set",dict:=none,data:=.set #[] 0 (.fresh 0 0 (!pB w)) }:=Heap.get?_push_of_some _ hS;exact⟨_,#[],0,_,L4,⟨rfl,rfl,rfl⟩,rfl,λe he=>by simp at he,λk=>by simp[iB],by decide,rfl,rfl,⟨rfl,rfl,.nil⟩⟩
  obtain⟨h',g',d',PM,LN⟩:=s';have eg:g'=s.gens:=hG _ _ hm.gens;have ed:d'=s.drawn:=hm.drawn;have eo:LN=s.os:=hm.os;subst eg ed eo;refine h h' PM PL λb o e=>?_;have JF:=Heap.lt_size e;refine hm.heap b o (λz=>?_) (Heap.get?_push_of_some _ (Heap.get?_push_of_some _ e));rcases List.mem_cons.mp z with z|z
  ·rw[z]at JF;exact Nat.lt_irrefl _ JF
  have z:=List.mem_singleton.mp z;rw[Heap.size_push]at z;rw[z]at JF;exact absurd JF (Nat.not_lt.mpr (Nat.le_succ _))
 unfold Builtin.«set.__init__» noKeywords Builtin.Frozenset.updateFrom;have eP:(λ(i:Nat)(v:Value)=>us.toArray[i]?=some v)=λi v=>us[i]?=some v:=by funext i v;simp
 generalize NX:pyIter=PI;rcases hT with⟨rfl,hl⟩|⟨rfl,hl⟩
 ·obtain⟨ol,JG,JH,HH,JI⟩:=hl;obtain⟨L5,BU,JJ,wR⟩:=ol;simp only at JH JI;subst JH JI;have GL:(s.heap.push { cls:=.type "set",dict:=none,data:=.set #[] 0 (.fresh 0 0 (!pB w)) }).get? l=some { cls:=.type "list",dict:=BU,data:=.seq us.toArray HH,slots:=wR }:=Heap.get?_push_of_some _ JG;have y1:=F.sub_list_set;have y2:=F.sub_list_frozenset;have y3:(Value.type "list"==Value.type "dict")=false:=by decide
  wp_walk
  subst NX;have E2:(s.heap.push { cls:=.type "set",dict:=none,data:=.set #[] 0 (.fresh 0 0 (!pB w)) }).IsList l us.toArray:=⟨_,GL,rfl,HH,rfl⟩;refine wpAny_pyIter_list E2 (wpAny_bind (wpAny_runValue ?_));have W:=(Walks.list z4 _ l nl us.toArray).toS (prog:=prog) (w:=w);rw[eP,List.size_toArray]at W;refine codeAny_mono (fin _ _ (λa b e=>e) _ W ⟨⟨_,Heap.get?_push_size _ rfl,rfl,rfl⟩,E2.push _⟩) λr s' hr=>?_;obtain⟨v,rfl,q⟩:=hr;exact wpAny_pure (a:=_) (wpAny_pure (a:=_) ⟨rfl,q⟩)
 obtain⟨ol,JG,JH,HH,JI⟩:=hl;obtain⟨L5,BU,JJ,wR⟩:=ol;simp only at JH JI;subst JH JI;have GL:(s.heap.push { cls:=.type "set",dict:=none,data:=.set #[] 0 (.fresh 0 0 (!pB w)) }).get? l=some { cls:=.type "tuple",dict:=BU,data:=.seq us.toArray HH,slots:=wR }:=Heap.get?_push_of_some _ JG;have y1:isSubtype (.type "tuple") (.type "set")=pure false:=by rw[isSubtype_type];kernel_rfl
 have y2:isSubtype (.type "tuple") (.type "frozenset")=pure false:=by rw[isSubtype_type];kernel_rfl
 have y3:(Value.type "tuple"==Value.type "dict")=false:=by decide
 wp_walk
 subst NX;have E2:(s.heap.push { cls:=.type "set",dict:=none,data:=.set #[] 0 (.fresh 0 0 (!pB w)) }).IsTuple l us.toArray:=⟨_,GL,rfl,HH,rfl⟩;refine wpAny_pyIter_tuple E2 (wpAny_bind (wpAny_runValue ?_));have W:=(Walks.tuple z4 _ l nl us.toArray).toS (prog:=prog) (w:=w);rw[eP,List.size_toArray]at W;refine codeAny_mono (fin _ _ (λa b e=>e) _ W ⟨⟨_,Heap.get?_push_size _ rfl,rfl,rfl⟩,E2.push _⟩) λr s' hr=>?_;obtain⟨v,rfl,q⟩:=hr;exact wpAny_pure (a:=_) (wpAny_pure (a:=_) ⟨rfl,q⟩)
end
section
variable{prog:Program}{w:World}{A:Around}{E:Value->Shared->Prop}{s:Shared}
end
section
variable{prog:Program}{w:World}{A:Around}{E:Value->Shared->Prop}{s:Shared}
end
section
variable{prog:Program}{w:World}{A:Around}{E:Value->Shared->Prop}{s:Shared}
end
section
variable{prog:Program}{w:World}{A:Around}{E:Value->Shared->Prop}{s:Shared}
end
section
open PySem.W
variable{prog:Program}{w:World}{A:Around}{E:Value->Shared->Prop}{s:Shared}
end
def yB(P:Program)(w:World)(a:Addr)(ks:List Key):HO:=.ext λh=>mC (aR P w) h a (iB ks) (dd ks).length
section
variable{X:Cx}
def E3(P:Program)(w:World)(K:PySem.W.Frag):List V->Hp->VK->Prop:=λxs H Q=>∃(p:Addr)(ks:List Key),xs=[.ref p]/\(af K H p (ks.map kV)\/ar K H p (ks.map kV))/\ks.length+1<scanBound/\∀q,H q=none->Q (.ref q) (upd H q (yB P w q ks.reverse))
theorem zb(K:PySem.W.Frag)(hK:X.K=K:=by rfl)(hc:X.calm=true:=by rfl):dC X (.type "set") (E3 X.prog X.w K):=by
 subst hK;intro pins s σ H xs us Q I r h;obtain⟨p,ks,rfl,hs,hb,q⟩:=h;obtain⟨u,rfl,rx⟩:=vals1 r;cases rx;have hn:H s.heap.objs.size=none:=I.aw.fresh (Nat.le_refl _);have fin:∀(h':Heap)(tk:Nat),mC (aR X.prog X.w) h' s.heap.objs.size (iB ks.reverse) (dd ks.reverse).length->(∀b o,s.heap.get? b=some o->h'.get? b=some o)->EP X pins σ Q (.ref s.heap.objs.size) { s with heap:=h',toks:=tk }:=by intro h' tk hS kp;have e0:=hS;obtain⟨o,_,_,_,ho,_⟩:=e0;exact⟨.ref s.heap.objs.size,_,I.laid (o:=yB X.prog X.w s.heap.objs.size ks.reverse) kp (Nat.le_refl _) ⟨hS,⟨o,ho⟩,λh1 h2 ⟨o,es,ep,t,ho,rr⟩ hk=>⟨o,es,ep,t,hk _ ho,rr⟩⟩,rfl,q _ hn⟩
 rcases hs with hs|hs
 ·obtain⟨aS,rv,pl,hz⟩:=I.list hs;have hl:=rv.length;rw[List.length_map]at hl;exact nc (I.ok.hd hc) (.inl ⟨rfl,pl.isList⟩) rv (by lia) fin
 obtain⟨aS,rv,pl,hz⟩:=I.tuple hs;have hl:=rv.length;rw[List.length_map]at hl;exact nc (I.ok.hd hc) (.inr ⟨rfl,pl⟩) rv (by lia) fin
end
section
open PySem.W
variable{X:Cx}
theorem zc(P:Program)(w:World)(K:PySem.W.Frag)(hP:X.prog=P:=by rfl)(hw:X.w=w:=by rfl)(hK:X.K=K:=by rfl)(hc:X.calm=true:=by rfl):dC X (.type "set") (E3 P w K):=by subst hP hw;exact zb K hK hc
end
section
variable{X:Cx}
def JK(P:Program)(w:World):List V->Hp->VK->Prop:=λxs H Q=>∃(p:Addr)(ks:List Key),xs=[.ref p]/\H p=some (yB P w p ks)/\Q (.int (dd ks).length) H
theorem zd(P:Program)(w:World)(hP:X.prog=P:=by rfl)(hw:X.w=w:=by rfl):dC X (.builtin "len") (JK P w):=by
 subst hP hw;intro pins s σ H xs us Q I r h;obtain⟨p,ks,rfl,hp,q⟩:=h;obtain⟨u,rfl,rx⟩:=vals1 r;cases rx;obtain⟨⟨o,es,ep,t,ho,hex,hd,zW,sQ,hb,hf,hn,_⟩,_⟩:=I.aw p _ hp;refine PySem.call_len_set ho hex hd hf ?_ ⟨.int _,H,I.tok _,⟨_,by rw[hn]⟩,q⟩;have:scanBound<2 ^ 63:=by decide
 lia
end
section
open PySem.W
def gallop':Bool->Keyed->Array Keyed->Nat->Nat->Nat->StateT SortSt Sem (Option Nat):=sortPriv% PySem.Builtin.gallop
def mergeLo':Array Keyed->Array Keyed->StateT SortSt Sem (Array Keyed):=sortPriv% PySem.Builtin.mergeLo
def mergeHi':Array Keyed->Array Keyed->StateT SortSt Sem (Array Keyed):=sortPriv% PySem.Builtin.mergeHi
def setMg:Nat->StateT SortSt Sem Unit:=sortPriv% PySem.Builtin.setMinGallop
variable{prog:Program}{w:World}{A:Around}{E:Value->Shared->Prop}{s:Shared}{κ:SortKind}
def mx(prog:Program)(w:World)(A:Around)(s:Shared)(κ:SortKind)(x y:Keyed)(b:Bool):Prop :=
 ∀Q:Bool->Shared->Prop,Q b s->wpAny (model prog w) A (keyLt' κ x.1 y.1) Q (λ_ _=>False) s
theorem mD{x y:Keyed}{b:Bool}{st:SortSt}{Q:Option Bool->SortSt->Prop}(h:mx prog w A s κ x y b)(hk:PyProof.Rows.kindOf st=κ)(q:Q (some b) st):wpS (model prog w) A E s (lt' x y) Q st:=by subst hk;rw[lt'_eq];refine wpS_bind (wpS_get (wpS_bind (wpS_lift (wpAny_attempt (wpAny_mono (h (λc s'=>c=b/\s'=s) ⟨rfl,rfl⟩) (λc s' hc=>?_) λ_ _ hF=>hF.elim)))));obtain⟨rfl,rfl⟩:=hc;exact⟨rfl,wpS_pure q⟩
theorem aJ{α:Type}{c:Prop}[Decidable c]{m n:StateT SortSt Sem α}{st:SortSt}{Q:α->SortSt->Prop}(h1:c->wpS (model prog w) A E s m Q st)(h2:¬c->wpS (model prog w) A E s n Q st):wpS (model prog w) A E s (if c then m else n) Q st:=by
 by_cases h:c
 ·rw[if_pos h];exact h1 h
 rw[if_neg h];exact h2 h
theorem au{arr:Array Keyed}{i:Nat}{x:Keyed}{st:SortSt}{Q:Keyed->SortSt->Prop}(h:arr[i]?=some x)(q:Q x st):wpS (model prog w) A E s (elem' arr i) Q st:=by rw[elem'_eq,h];exact wpS_pure q
theorem pE{left:Bool}{key x:Keyed}{arr:Array Keyed}{i:Nat}{b:Bool}{st:SortSt}{Q:Option Bool->SortSt->Prop}(hx:arr[i]?=some x)(hk:PyProof.Rows.kindOf st=κ)(h:if left=true then mx prog w A s κ x key b else mx prog w A s κ key x (!b))(q:Q (some b) st):
  wpS (model prog w) A E s (elem' arr i >>= λx=>if left=true then lt' x key else lt' key x >>= λr=>pure (Option.map (λx=>!x) r)) Q st:=by
 refine wpS_bind (au hx ?_);cases left with
 |true=>exact mD h hk q
 |false=>exact wpS_bind (mD h hk (wpS_pure (by simpa using q)))
theorem my{left:Bool}{key:Keyed}{arr:Array Keyed}{base n hint:Nat}{f:Nat->Bool}{st:SortSt}{Q:Option Nat->SortSt->Prop}(hk:PyProof.Rows.kindOf st=κ)(hh:hint<n)(hf:∀i,i<n->∃x,arr[base+i]?=some x/\if left=true then mx prog w A s κ x key (f i)else mx prog w A s κ key x (!f i))(q:∀k,k<=n->(k=0\/f (k-1)=true)->(k=n\/f k=false)->Q (some k) st):wpS (model prog w) A E s (gallop' left key arr base n hint) Q st:=by
 obtain⟨x0,e0,e1⟩:=hf hint hh;refine wpS_bind (pE e0 hk e1 ?_);dsimp only;cases e:f hint with
 |true =>
  refine wpS_bind (wpS_mono (wpS_forRange (I:=λx c aP=>aP=st/\∃l o,c=(none,l,o)/\l<o/\x+1<=o/\hint+l<n/\f (hint+l)=true)
   (Q:=λc aP=>aP=st/\∃l o,c=(none,l,o)/\l<o/\hint+l<n/\f (hint+l)=true/\(o ≥ n-hint\/f (hint+o)=false)) ?_ ?_ ⟨rfl,0,1,rfl,by lia,by lia,hh,e⟩) ?_)
  ·rintro x c aP _ hx ⟨rfl,l,o,rfl,a1,a2,a3,a4⟩;dsimp only;by_cases hc:o ≥ n-hint
   ·rw[if_pos hc];exact wpS_pure ⟨rfl,l,o,rfl,a1,a3,a4,.inl hc⟩
   rw[if_neg hc];obtain⟨x1,g1,g2⟩:=hf (hint+o) (by lia);refine wpS_bind (pE g1 hk g2 ?_);dsimp only;cases e2:f (hint+o)with
   |true=>exact wpS_pure ⟨rfl,_,_,rfl,by lia,by lia,by lia,e2⟩
   |false=>exact wpS_pure ⟨rfl,_,_,rfl,a1,a3,a4,.inr e2⟩
  ·rintro c aP ⟨rfl,l,o,rfl,a1,a2,a3,a4⟩;exact⟨rfl,l,o,rfl,a1,a3,a4,.inl (by lia)⟩
  rintro c Df ⟨rfl,l,o,rfl,a1,a3,a4,a5⟩;have z:hint+min o (n-hint)=n\/f (hint+min o (n-hint))=false:=by
   by_cases hc:o ≥ n-hint
   ·exact .inl (by lia)
   rw[show min o (n-hint)=o by lia];exact .inr (a5.resolve_left hc)
  dsimp only;refine wpS_bind (wpS_mono (wpS_forRange (I:=λx c aP=>aP=Df/\∃l r,c=(none,l,r)/\l<=r/\r<=n/\r-l<=n-x/\(l=0\/f (l-1)=true)/\(r=n\/f r=false))
   (Q:=λc aP=>aP=Df/\∃l,c=(none,l,l)/\l<=n/\(l=0\/f (l-1)=true)/\(l=n\/f l=false)) ?_ ?_ ⟨rfl,hint+l+1,hint+min o (n-hint),rfl,by lia,by lia,by lia,.inr (by simpa using a4),z⟩) ?_)
  ·rintro x c aP _ hx ⟨rfl,l,r,rfl,a1,a2,a3,a4,a5⟩;dsimp only;by_cases hc:l ≥ r
   ·rw[if_pos hc];obtain rfl:l=r:=(by lia);exact wpS_pure ⟨rfl,l,rfl,a2,a4,a5⟩
   rw[if_neg hc];obtain⟨x1,e1,e2⟩:=hf (l+(r-l)/2) (by lia);refine wpS_bind (pE e1 hk e2 ?_);dsimp only;cases e:f (l+(r-l)/2)with
   |true=>exact wpS_pure ⟨rfl,_,_,rfl,by lia,a2,by lia,.inr (by simpa using e),a5⟩
   |false=>exact wpS_pure ⟨rfl,_,_,rfl,by lia,by lia,by lia,a4,.inr e⟩
  ·rintro c aP ⟨rfl,l,r,rfl,a1,a2,a3,a4,a5⟩;obtain rfl:l=r:=(by lia);exact⟨rfl,l,rfl,a2,a4,a5⟩
  rintro c aP ⟨rfl,l,rfl,a2,a4,a5⟩;exact wpS_pure (q l a2 a4 a5)
 |false =>
  refine wpS_bind (wpS_mono (wpS_forRange (I:=λx c aP=>aP=st/\∃l o,c=(none,l,o)/\l<o/\x+1<=o/\l<=hint/\f (hint-l)=false)
   (Q:=λc aP=>aP=st/\∃l o,c=(none,l,o)/\l<o/\l<=hint/\f (hint-l)=false/\(o ≥ hint+1\/f (hint-o)=true)) ?_ ?_ ⟨rfl,0,1,rfl,by lia,by lia,by lia,e⟩) ?_)
  ·rintro x c aP _ hx ⟨rfl,l,o,rfl,a1,a2,a3,a4⟩;dsimp only;by_cases hc:o ≥ hint+1
   ·rw[if_pos hc];exact wpS_pure ⟨rfl,l,o,rfl,a1,a3,a4,.inl hc⟩
   rw[if_neg hc];obtain⟨x1,g1,g2⟩:=hf (hint-o) (by lia);refine wpS_bind (pE g1 hk g2 ?_);dsimp only;cases e2:f (hint-o)with
   |true=>exact wpS_pure ⟨rfl,_,_,rfl,a1,a3,a4,.inr e2⟩
   |false=>exact wpS_pure ⟨rfl,_,_,rfl,by lia,by lia,by lia,e2⟩
  ·rintro c aP ⟨rfl,l,o,rfl,a1,a2,a3,a4⟩;exact⟨rfl,l,o,rfl,a1,a3,a4,.inl (by lia)⟩
  rintro c Df ⟨rfl,l,o,rfl,a1,a3,a4,a5⟩;have z:hint+1-min o (hint+1)=0\/f (hint+1-min o (hint+1)-1)=true:=by
   by_cases hc:o ≥ hint+1
   ·exact .inl (by lia)
   refine .inr ?_;rw[show hint+1-min o (hint+1)-1=hint-o by lia];exact a5.resolve_left hc
  dsimp only;refine wpS_bind (wpS_mono (wpS_forRange (I:=λx c aP=>aP=Df/\∃l r,c=(none,l,r)/\l<=r/\r<=n/\r-l<=n-x/\(l=0\/f (l-1)=true)/\(r=n\/f r=false))
   (Q:=λc aP=>aP=Df/\∃l,c=(none,l,l)/\l<=n/\(l=0\/f (l-1)=true)/\(l=n\/f l=false)) ?_ ?_ ⟨rfl,hint+1-min o (hint+1),hint-l,rfl,by lia,by lia,by lia,z,.inr a4⟩) ?_)
  ·rintro x c aP _ hx ⟨rfl,l,r,rfl,a1,a2,a3,a4,a5⟩;dsimp only;by_cases hc:l ≥ r
   ·rw[if_pos hc];obtain rfl:l=r:=(by lia);exact wpS_pure ⟨rfl,l,rfl,a2,a4,a5⟩
   rw[if_neg hc];obtain⟨x1,e1,e2⟩:=hf (l+(r-l)/2) (by lia);refine wpS_bind (pE e1 hk e2 ?_);dsimp only;cases e:f (l+(r-l)/2)with
   |true=>exact wpS_pure ⟨rfl,_,_,rfl,by lia,a2,by lia,.inr (by simpa using e),a5⟩
   |false=>exact wpS_pure ⟨rfl,_,_,rfl,by lia,by lia,by lia,a4,.inr e⟩
  ·rintro c aP ⟨rfl,l,r,rfl,a1,a2,a3,a4,a5⟩;obtain rfl:l=r:=(by lia);exact⟨rfl,l,rfl,a2,a4,a5⟩
  rintro c aP ⟨rfl,l,rfl,a2,a4,a5⟩;exact wpS_pure (q l a2 a4 a5)
def Al(G:Keyed->Prop)(a:Array Keyed):Prop:=∀x,x∈a->G x
variable{G:Keyed->Prop}
theorem Al.push{a:Array Keyed}{x:Keyed}(h:Al G a)(hx:G x):Al G (a.push x):=λy hy=>by
 rcases Array.mem_push.mp hy with z|rfl
 ·exact h y z
 exact hx
theorem Al.app{a b:Array Keyed}(h:Al G a)(h2:Al G b):Al G (a++b):=λy hy=>(Array.mem_append.mp hy).elim (h y) (h2 y)
theorem Al.ext{a:Array Keyed}(h:Al G a)(i j:Nat):Al G (a.extract i j):=λy hy=>by rw[Array.mem_extract_iff_getElem]at hy;obtain⟨k,hk,rfl⟩:=hy;exact h _ (Array.getElem_mem _)
theorem Al.rev{a:Array Keyed}(h:Al G a):Al G a.reverse:=λy hy=>h y (Array.mem_reverse.mp hy)
theorem Al.at{a:Array Keyed}(h:Al G a){i:Nat}(hi:i<a.size):∃x,a[i]?=some x/\G x:=⟨a[i],getElem?_pos a i hi,h _ (Array.getElem_mem hi)⟩
theorem pF{a b:Array Keyed}{x:Keyed}(h:a[0]?=some x):(a++b)[0]?=some x:=by
 have hz:0<a.size:=by
  rcases Nat.eq_zero_or_pos a.size with z|z
  ·rw[Array.getElem?_eq_none (by lia)]at h;cases h
  exact z
 rw[Array.getElem?_append_left hz];exact h
theorem Dg{a:Array Keyed}{x y:Keyed}(h:a[0]?=some x):(a.push y)[0]?=some x:=by
 have:=pF (b:=#[y]) h
 simpa using this
theorem BV{a:Array Keyed}{x:Keyed}{n:Nat}(h:a[0]?=some x)(hn:0<n):(a.extract 0 n)[0]?=some x:=by
 rw[Array.getElem?_extract];have hz:0<a.size:=by
  rcases Nat.eq_zero_or_pos a.size with z|z
  ·rw[Array.getElem?_eq_none (by lia)]at h;cases h
  exact z
 rw[if_pos (by lia)];exact h
theorem iF{left:Bool}{key:Keyed}{arr:Array Keyed}{base n hint:Nat}{st:SortSt}{Q:Option Nat->SortSt->Prop}(hG:∀x y,G x->G y->∃b,mx prog w A s κ x y b)(hk:PyProof.Rows.kindOf st=κ)(hh:hint<n)(hz:base+n<=arr.size)(ha:Al G arr)(hy:G key)(q:∀k,k<=n->Q (some k) st):wpS (model prog w) A E s (gallop' left key arr base n hint) Q st:=by
 have:∀i,∃b:Bool,i<n->∃x,arr[base+i]?=some x/\if left=true then mx prog w A s κ x key b else mx prog w A s κ key x (!b):=λi=>by
  by_cases hi:i<n
  ·obtain⟨x,e,hx⟩:=ha.at (i:=base+i) (by lia);cases left with
   |true=>obtain⟨b,hb⟩:=hG x key hx hy;exact⟨b,λ_=>⟨x,e,hb⟩⟩
   |false=>obtain⟨b,hb⟩:=hG key x hy hx;exact⟨!b,λ_=>⟨x,e,by simpa using hb⟩⟩
  exact⟨true,λz=>absurd z hi⟩
 obtain⟨f,hf⟩:=Classical.axiomOfChoice this;exact my hk hh hf λk L6 _ _=>q k L6
theorem kh{key b0:Keyed}{arr:Array Keyed}{base n hint:Nat}{st:SortSt}{Q:Option Nat->SortSt->Prop}(hG:∀x y,G x->G y->∃b,mx prog w A s κ x y b)(hk:PyProof.Rows.kindOf st=κ)(hh:hint<n)(hz:base+n<=arr.size)(ha:Al G arr)(hy:G key)(h0:arr[base]?=some b0)(hb:mx prog w A s κ b0 key true)(q:∀k,1<=k->k<=n->Q (some k) st):wpS (model prog w) A E s (gallop' true key arr base n hint) Q st:=by
 have:∀i,∃b:Bool,(i=0->b=true)/\(i<n->∃x,arr[base+i]?=some x/\if true=true then mx prog w A s κ x key b else mx prog w A s κ key x (!b)):=λi=>by
  by_cases h1:i=0
  ·subst h1;exact⟨true,λ_=>rfl,λ_=>⟨b0,h0,hb⟩⟩
  by_cases hi:i<n
  ·obtain⟨x,e,hx⟩:=ha.at (i:=base+i) (by lia);obtain⟨b,hb⟩:=hG x key hx hy;exact⟨b,λz=>absurd z h1,λ_=>⟨x,e,hb⟩⟩
  exact⟨true,λ_=>rfl,λz=>absurd z hi⟩
 obtain⟨f,hf⟩:=Classical.axiomOfChoice this;refine my hk hh (λi hi=>(hf i).2 hi) λk L6 k1 k2=>q k ?_ L6;rcases Nat.eq_zero_or_pos k with rfl|z
 ·rcases k2 with k2|k2
  ·lia
  rw[(hf 0).1 rfl]at k2;cases k2
 exact z
structure Sm(κ:SortKind)(arr:Array Keyed)(pd:Array (Nat×Nat×Nat))(st:SortSt):Prop where
 k:PyProof.Rows.kindOf st=κ
 a:arrOf st=arr
 p:pendingOf st=pd
 f:failedOf st=none
structure Gd(G:Keyed->Prop)(b0:Keyed)(out:Array Keyed):Prop where
 al:Al G out
 hd:out[0]?=some b0
theorem Gd.push{b0 x:Keyed}{out:Array Keyed}(h:Gd G b0 out)(hx:G x):Gd G b0 (out.push x):=⟨h.al.push hx,Dg h.hd⟩
theorem Gd.app{b0:Keyed}{out b:Array Keyed}(h:Gd G b0 out)(hb:Al G b):Gd G b0 (out++b):=⟨h.al.app hb,pF h.hd⟩
theorem JL{a b:Array Keyed}{b0:Keyed}{arr:Array Keyed}{pd:Array (Nat×Nat×Nat)}{st:SortSt}{Q:Array Keyed->SortSt->Prop}(hG:∀x y,G x->G y->∃c,mx prog w A s κ x y c)(S:Sm κ arr pd st)(ha:Al G a)(hb:Al G b)(h0:b[0]?=some b0)(hz:0<a.size)(q:∀r aP,Gd G b0 r->Sm κ arr pd aP->Q r aP):wpS (model prog w) A E s (mergeLo' a b) Q st:=by
 have KO:0<b.size:=by
  rcases Nat.eq_zero_or_pos b.size with z|z
  ·rw[Array.getElem?_eq_none (by lia)]at h0;cases h0
  exact z
 have g0:Gd G b0 #[b0]:=⟨λx hx=>by
  obtain rfl:x=b0:=by simpa using hx
  obtain⟨y,e,hy⟩:=hb.at KO;rw[h0]at e;cases e;exact hy,rfl⟩
 refine wpS_bind (wpS_lift (wpAny_rule ⟨rfl,?_⟩));refine wpS_bind (au h0 ?_);by_cases c1:(1==b.size)=true
 ·rw[if_pos c1];exact wpS_pure (q _ _ ((g0.app (ha.ext _ _)).app (hb.ext _ _)) S)
 rw[if_neg c1];have c1:1<b.size:=by have z:¬1=b.size:=(by simpa using c1);lia
 by_cases c2:(0+1==a.size)=true
 ·rw[if_pos c2];exact wpS_pure (q _ _ ((g0.app (hb.ext _ _)).app (ha.ext _ _)) S)
 rw[if_neg c2];have c2:0+1<a.size:=by have z:¬0+1=a.size:=(by simpa using c2);lia
 refine wpS_bind (wpS_get ?_);dsimp only;refine wpS_bind (wpS_mono (wpS_forRange (I:=λx c aP=>Sm κ arr pd aP/\∃out ia ib mg,c=(none,out,ia,ib,mg)/\Gd G b0 out/\ia+1<a.size/\ib<b.size/\x+1<=ia+ib)
  (Q:=λc aP=>Sm κ arr pd aP/\∃r,c.1=some r/\Gd G b0 r) ?_ ?_ ⟨S,_,_,_,_,rfl,g0,c2,c1,by lia⟩) ?_)
 ·rintro x c Df _ hx ⟨S1,out,ia,ib,mg,rfl,g1,i1,i2,i3⟩;dsimp only;refine wpS_bind (wpS_mono (wpS_forRange (I:=λy c aP=>Sm κ arr pd aP/\∃out ia ib ac bc,c=(none,out,ia,ib,ac,bc)/\Gd G b0 out/\ia+1<a.size/\ib<b.size/\x+1+y<=ia+ib)
   (Q:=λc aP=>Sm κ arr pd aP/\((∃r,c.1=some r/\Gd G b0 r)\/∃out ia ib ac bc,c=(none,out,ia,ib,ac,bc)/\Gd G b0 out/\ia+1<a.size/\ib<b.size/\x+2<=ia+ib)) ?_ ?_ ⟨S1,_,_,_,_,_,rfl,g1,i1,i2,by lia⟩) ?_)
  ·rintro y c qE _ hy ⟨S2,out,ia,ib,ac,bc,rfl,g2,i1,i2,i3⟩;dsimp only;obtain⟨xb,eb,gb⟩:=hb.at i2;obtain⟨xa,ea,ga⟩:=ha.at (i:=ia) (by lia);obtain⟨v,hv⟩:=hG xb xa gb ga;refine wpS_bind (au eb (wpS_bind (au ea (wpS_bind (mD hv S2.k ?_)))));dsimp only;cases v with
   |true =>
    rw[if_pos rfl];refine wpS_bind (au eb ?_);by_cases d1:(ib+1==b.size)=true
    ·rw[if_pos d1];exact wpS_pure ⟨S2,.inl ⟨_,rfl,((g2.push gb).app (ha.ext _ _)).app (hb.ext _ _)⟩⟩
    rw[if_neg d1];have d1:¬ib+1=b.size:=(by simpa using d1);split
    ·exact wpS_pure ⟨S2,.inr ⟨_,_,_,_,_,rfl,g2.push gb,i1,by lia,by lia⟩⟩
    exact wpS_pure ⟨S2,_,_,_,_,_,rfl,g2.push gb,i1,by lia,by lia⟩
   |false =>
    rw[if_neg (by decide)];refine wpS_bind (au ea ?_);by_cases d1:(ia+1+1==a.size)=true
    ·rw[if_pos d1];exact wpS_pure ⟨S2,.inl ⟨_,rfl,((g2.push ga).app (hb.ext _ _)).app (ha.ext _ _)⟩⟩
    rw[if_neg d1];have d1:¬ia+1+1=a.size:=(by simpa using d1);split
    ·exact wpS_pure ⟨S2,.inr ⟨_,_,_,_,_,rfl,g2.push ga,by lia,i2,by lia⟩⟩
    exact wpS_pure ⟨S2,_,_,_,_,_,rfl,g2.push ga,by lia,i2,by lia⟩
  ·rintro c qE ⟨S2,out,ia,ib,ac,bc,rfl,g2,i1,i2,i3⟩;exact⟨S2,.inr ⟨_,_,_,_,_,rfl,g2,i1,i2,by lia⟩⟩
  rintro c qE ⟨S2,⟨r,e,gr⟩|⟨out,ia,ib,ac,bc,rfl,g2,i1,i2,i3⟩⟩
  ·obtain⟨c,_⟩:=c;obtain rfl:c=some r:=e;exact wpS_pure ⟨S2,r,rfl,gr⟩
  dsimp only;refine wpS_bind (wpS_lift (wpAny_rule ⟨rfl,?_⟩));refine wpS_bind (wpS_mono (wpS_forRange (I:=λy c aP=>Sm κ arr pd aP/\∃out ia ib mg ac bc,c=(none,out,ia,ib,mg,ac,bc)/\Gd G b0 out/\ia+1<a.size/\ib<b.size/\x+2<=ia+ib)
   (Q:=λc aP=>Sm κ arr pd aP/\((∃r,c.1=some r/\Gd G b0 r)\/∃out ia ib mg ac bc,c=(none,out,ia,ib,mg,ac,bc)/\Gd G b0 out/\ia+1<a.size/\ib<b.size/\x+2<=ia+ib)) ?_ ?_ ⟨S2,_,_,_,_,_,_,rfl,g2,i1,i2,by lia⟩) ?_)
  ·rintro y c gc _ hy ⟨S3,out,ia,ib,mg,ac,bc,rfl,g3,i1,i2,i3⟩;have L7:∀mg (P:Unit->SortSt->Prop),(∀aP,Sm κ arr pd aP->P () aP)->wpS (model prog w) A E s (setMg mg) P gc:=λmg P h=>wpS_modify (h _ ⟨S3.k,S3.a,S3.p,S3.f⟩);obtain⟨xb,eb,gb⟩:=hb.at i2;refine aJ (λ_=>?_) (λ_=>?_)
   all_goals
    refine wpS_bind (L7 _ _ λxq S4=>?_);refine wpS_bind (au eb (wpS_bind (iF hG S4.k (by dsimp only;lia) (by dsimp only;lia) ha gb λk hk=>?_)));replace hk:k<=a.size-ia:=hk;refine aJ (λKP=>?_) (λKP=>?_)
    ·refine aJ (λc=>wpS_pure ⟨S4,.inl ⟨_,rfl,((g3.app (ha.ext _ _)).app (hb.ext _ _)).app (ha.ext _ _)⟩⟩) (λ(c1:¬(ia+k+1==a.size)=true)=>?_);refine aJ (λc=>wpS_pure ⟨S4,.inl ⟨_,rfl,((g3.app (ha.ext _ _)).app (ha.ext _ _)).app (hb.ext _ _)⟩⟩) (λ(c2:¬(ia+k==a.size)=true)=>?_);have c1:¬ia+k+1=a.size:=(by simpa using c1);have c2:¬ia+k=a.size:=(by simpa using c2);have i4:ia+k+1<a.size:=(by lia);have g4:=g3.app (ha.ext ia (ia+k));obtain⟨xa,ea,ga⟩:=ha.at (i:=ia+k) (by lia);have e4:x+2<=ia+k+ib:=(by lia);refine wpS_bind (au eb ?_);refine aJ (λc=>wpS_pure ⟨S4,.inl ⟨_,rfl,((g4.push gb).app (ha.ext _ _)).app (hb.ext _ _)⟩⟩) (λ(c3:¬(ib+1==b.size)=true)=>?_);have c3:¬ib+1=b.size:=(by simpa using c3);refine wpS_bind (au ea (wpS_bind (iF hG S4.k (by dsimp only;lia) (by dsimp only;lia) hb ga λk2 wU=>?_)));replace wU:k2<=b.size-(ib+1):=wU;refine aJ (λh2=>?_) (λh2=>?_)
     ·refine aJ (λc=>wpS_pure ⟨S4,.inl ⟨_,rfl,(((g4.push gb).app (hb.ext _ _)).app (ha.ext _ _)).app (hb.ext _ _)⟩⟩) (λ(c4:¬(ib+1+k2==b.size)=true)=>?_);have c4:¬ib+1+k2=b.size:=(by simpa using c4);refine wpS_bind (au ea ?_);refine aJ (λc=>wpS_pure ⟨S4,.inl ⟨_,rfl,((((g4.push gb).app (hb.ext _ _)).push ga).app (hb.ext _ _)).app (ha.ext _ _)⟩⟩) (λc=>?_);have c5:¬(ia+k)+1+1=a.size:=(by simpa using c);exact aJ (λ_=>wpS_pure ⟨S4,.inr ⟨_,(ia+k)+1,ib+1+k2,_,_,_,rfl,((g4.push gb).app (hb.ext _ _)).push ga,by lia,by lia,by lia⟩⟩) (λ_=>wpS_pure ⟨S4,_,(ia+k)+1,ib+1+k2,_,_,_,rfl,((g4.push gb).app (hb.ext _ _)).push ga,by lia,by lia,by lia⟩)
     refine wpS_bind (au ea ?_);refine aJ (λc=>wpS_pure ⟨S4,.inl ⟨_,rfl,(((g4.push gb).push ga).app (hb.ext _ _)).app (ha.ext _ _)⟩⟩) (λc=>?_);have c5:¬(ia+k)+1+1=a.size:=(by simpa using c);exact aJ (λ_=>wpS_pure ⟨S4,.inr ⟨_,(ia+k)+1,ib+1,_,_,_,rfl,(g4.push gb).push ga,by lia,by lia,by lia⟩⟩) (λ_=>wpS_pure ⟨S4,_,(ia+k)+1,ib+1,_,_,_,rfl,(g4.push gb).push ga,by lia,by lia,by lia⟩)
    have i4:=i1;have g4:=g3;obtain⟨xa,ea,ga⟩:=ha.at (i:=ia) (by lia);have e4:x+2<=ia+ib:=(by lia);refine wpS_bind (au eb ?_);refine aJ (λc=>wpS_pure ⟨S4,.inl ⟨_,rfl,((g4.push gb).app (ha.ext _ _)).app (hb.ext _ _)⟩⟩) (λ(c3:¬(ib+1==b.size)=true)=>?_);have c3:¬ib+1=b.size:=(by simpa using c3);refine wpS_bind (au ea (wpS_bind (iF hG S4.k (by dsimp only;lia) (by dsimp only;lia) hb ga λk2 wU=>?_)));replace wU:k2<=b.size-(ib+1):=wU;refine aJ (λh2=>?_) (λh2=>?_)
    ·refine aJ (λc=>wpS_pure ⟨S4,.inl ⟨_,rfl,(((g4.push gb).app (hb.ext _ _)).app (ha.ext _ _)).app (hb.ext _ _)⟩⟩) (λ(c4:¬(ib+1+k2==b.size)=true)=>?_);have c4:¬ib+1+k2=b.size:=(by simpa using c4);refine wpS_bind (au ea ?_);refine aJ (λc=>wpS_pure ⟨S4,.inl ⟨_,rfl,((((g4.push gb).app (hb.ext _ _)).push ga).app (hb.ext _ _)).app (ha.ext _ _)⟩⟩) (λc=>?_);have c5:¬ia+1+1=a.size:=(by simpa using c);exact aJ (λ_=>wpS_pure ⟨S4,.inr ⟨_,ia+1,ib+1+k2,_,_,_,rfl,((g4.push gb).app (hb.ext _ _)).push ga,by lia,by lia,by lia⟩⟩) (λ_=>wpS_pure ⟨S4,_,ia+1,ib+1+k2,_,_,_,rfl,((g4.push gb).app (hb.ext _ _)).push ga,by lia,by lia,by lia⟩)
    refine wpS_bind (au ea ?_);refine aJ (λc=>wpS_pure ⟨S4,.inl ⟨_,rfl,(((g4.push gb).push ga).app (hb.ext _ _)).app (ha.ext _ _)⟩⟩) (λc=>?_);have c5:¬ia+1+1=a.size:=(by simpa using c);exact aJ (λ_=>wpS_pure ⟨S4,.inr ⟨_,ia+1,ib+1,_,_,_,rfl,(g4.push gb).push ga,by lia,by lia,by lia⟩⟩) (λ_=>wpS_pure ⟨S4,_,ia+1,ib+1,_,_,_,rfl,(g4.push gb).push ga,by lia,by lia,by lia⟩)
  ·rintro c gc ⟨S3,h⟩;exact⟨S3,.inr h⟩
  rintro c gc ⟨S3,⟨r,e,gr⟩|⟨out,ia,ib,mg,ac,bc,rfl,g3,i1,i2,i3⟩⟩
  ·obtain⟨c,_⟩:=c;obtain rfl:c=some r:=e;exact wpS_pure ⟨S3,r,rfl,gr⟩
  dsimp only;exact wpS_bind (wpS_modify (wpS_pure ⟨⟨S3.k,S3.a,S3.p,S3.f⟩,_,_,_,_,rfl,g3,i1,i2,by lia⟩))
 ·rintro c aP ⟨S',out,ia,ib,mg,rfl,g1,i1,i2,i3⟩;lia
 rintro c aP ⟨S',r,e,g1⟩;obtain⟨c,_⟩:=c;obtain rfl:c=some r:=e;exact wpS_pure (q r aP g1 S')
theorem iG{a b out:Array Keyed}{b0:Keyed}{na nb:Nat}(ha:Al G a)(hb:Al G b)(h0:b[0]?=some b0)(ho:Al G out)(hn:na=0)(hm:0<nb):Gd G b0 (a.extract 0 na++b.extract 0 nb++out.reverse):=by
 subst hn;refine⟨((ha.ext _ _).app (hb.ext _ _)).app ho.rev,pF ?_⟩;have e:a.extract 0 0=#[]:=by simp
 rw[e,Array.empty_append];exact BV h0 hm
theorem gn{a b out:Array Keyed}{b0:Keyed}{na nb:Nat}(ha:Al G a)(hb:Al G b)(h0:b[0]?=some b0)(ho:Al G out)(hm:0<nb):Gd G b0 (b.extract 0 nb++a.extract 0 na++out.reverse) :=
 ⟨((hb.ext _ _).app (ha.ext _ _)).app ho.rev,pF (pF (BV h0 hm))⟩
theorem JM{a b:Array Keyed}{b0:Keyed}{arr:Array Keyed}{pd:Array (Nat×Nat×Nat)}{st:SortSt}{Q:Array Keyed->SortSt->Prop}(hG:∀x y,G x->G y->∃c,mx prog w A s κ x y c)(S:Sm κ arr pd st)(ha:Al G a)(hb:Al G b)(h0:b[0]?=some b0)(hz:0<a.size)(bq:∀x,x∈a->mx prog w A s κ b0 x true)(q:∀r aP,Gd G b0 r->Sm κ arr pd aP->Q r aP):wpS (model prog w) A E s (mergeHi' a b) Q st:=by
 have KO:0<b.size:=by
  rcases Nat.eq_zero_or_pos b.size with z|z
  ·rw[Array.getElem?_eq_none (by lia)]at h0;cases h0
  exact z
 have KQ:∀i,i<a.size->∃x,a[i]?=some x/\G x/\mx prog w A s κ b0 x true:=λi hi=>⟨a[i],getElem?_pos a i hi,ha _ (Array.getElem_mem hi),bq _ (Array.getElem_mem hi)⟩;refine wpS_bind (wpS_lift (wpAny_rule ⟨rfl,?_⟩));obtain⟨xl,el,gl,_⟩:=KQ (a.size-1) (by lia);have g0:Al G #[xl]:=λx hx=>by
  obtain rfl:x=xl:=by simpa using hx
  exact gl
 refine wpS_bind (au el ?_);refine aJ (λ(c:(a.size-1==0)=true)=>wpS_pure (q _ _ (iG ha hb h0 g0 (by simpa using c) KO) S)) (λ(c:¬(a.size-1==0)=true)=>?_);have c1:¬a.size-1=0:=by simpa using c
 refine aJ (λ_=>wpS_pure (q _ _ (gn ha hb h0 g0 KO) S)) (λ(c:¬(b.size==1)=true)=>?_);have c2:¬b.size=1:=by simpa using c
 refine wpS_bind (wpS_get ?_);refine wpS_bind (wpS_mono (wpS_forRange (I:=λx c aP=>Sm κ arr pd aP/\∃na nb out mg,c=(none,na,nb,out,mg)/\Al G out/\1<=na/\na<=a.size/\2<=nb/\nb<=b.size/\x+na+nb+1<=a.size+b.size)
  (Q:=λc aP=>Sm κ arr pd aP/\∃r,c.1=some r/\Gd G b0 r) ?_ ?_ ⟨S,_,_,_,_,rfl,g0,by lia,by lia,by lia,by lia,by lia⟩) ?_)
 ·rintro x c Df _ hx ⟨S1,na,nb,out,mg,rfl,g1,i1,i2,i3,i4,i5⟩;refine wpS_bind (wpS_mono (wpS_forRange (I:=λy c aP=>Sm κ arr pd aP/\∃na nb out ac bc,c=(none,na,nb,out,ac,bc)/\Al G out/\1<=na/\na<=a.size/\2<=nb/\nb<=b.size/\x+y+na+nb+1<=a.size+b.size)
   (Q:=λc aP=>Sm κ arr pd aP/\((∃r,c.1=some r/\Gd G b0 r)\/∃na nb out ac bc,c=(none,na,nb,out,ac,bc)/\Al G out/\1<=na/\na<=a.size/\2<=nb/\nb<=b.size/\x+na+nb+2<=a.size+b.size)) ?_ ?_ ⟨S1,_,_,_,_,_,rfl,g1,i1,i2,i3,i4,by lia⟩) ?_)
  ·rintro y c qE _ hy ⟨S2,na,nb,out,ac,bc,rfl,g2,i1,i2,i3,i4,i5⟩;obtain⟨xb,eb,gb⟩:=hb.at (i:=nb-1) (by lia);obtain⟨xa,ea,ga,_⟩:=KQ (na-1) (by lia);obtain⟨v,hv⟩:=hG xb xa gb ga;refine wpS_bind (au eb (wpS_bind (au ea (wpS_bind (mD hv S2.k ?_)))));refine aJ (λ_=>?_) (λ_=>?_)
   ·refine wpS_bind (au ea ?_);refine aJ (λ(c:(na-1==0)=true)=>wpS_pure ⟨S2,.inl ⟨_,rfl,iG ha hb h0 (g2.push ga) (by simpa using c) (by dsimp only;lia)⟩⟩) (λ(c:¬(na-1==0)=true)=>?_);have c3:¬na-1=0:=(by simpa using c);exact aJ (λ_=>wpS_pure ⟨S2,.inr ⟨na-1,nb,_,_,_,rfl,g2.push ga,by lia,by lia,by lia,by lia,by lia⟩⟩) (λ_=>wpS_pure ⟨S2,na-1,nb,_,_,_,rfl,g2.push ga,by lia,by lia,by lia,by lia,by lia⟩)
   refine wpS_bind (au eb ?_);refine aJ (λ(c:(nb-1==1)=true)=>wpS_pure ⟨S2,.inl ⟨_,rfl,gn ha hb h0 (g2.push gb) (by dsimp only;lia)⟩⟩) (λ(c:¬(nb-1==1)=true)=>?_);have c3:¬nb-1=1:=(by simpa using c);exact aJ (λ_=>wpS_pure ⟨S2,.inr ⟨na,nb-1,_,_,_,rfl,g2.push gb,by lia,by lia,by lia,by lia,by lia⟩⟩) (λ_=>wpS_pure ⟨S2,na,nb-1,_,_,_,rfl,g2.push gb,by lia,by lia,by lia,by lia,by lia⟩)
  ·rintro c qE ⟨S2,na,nb,out,ac,bc,rfl,g2,i1,i2,i3,i4,i5⟩;exact⟨S2,.inr ⟨_,_,_,_,_,rfl,g2,i1,i2,i3,i4,by lia⟩⟩
  rintro c qE ⟨S2,⟨r,e,gr⟩|⟨na,nb,out,ac,bc,rfl,g2,i1,i2,i3,i4,i5⟩⟩
  ·obtain⟨c,_⟩:=c;obtain rfl:c=some r:=e;exact wpS_pure ⟨S2,r,rfl,gr⟩
  refine wpS_bind (wpS_lift (wpAny_rule ⟨rfl,?_⟩));refine wpS_bind (wpS_mono (wpS_forRange (I:=λy c aP=>Sm κ arr pd aP/\∃na nb out mg ac bc,c=(none,na,nb,out,mg,ac,bc)/\Al G out/\1<=na/\na<=a.size/\2<=nb/\nb<=b.size/\x+na+nb+2<=a.size+b.size)
   (Q:=λc aP=>Sm κ arr pd aP/\((∃r,c.1=some r/\Gd G b0 r)\/∃na nb out mg ac bc,c=(none,na,nb,out,mg,ac,bc)/\Al G out/\1<=na/\na<=a.size/\2<=nb/\nb<=b.size/\x+na+nb+2<=a.size+b.size)) ?_ ?_ ⟨S2,_,_,_,_,_,_,rfl,g2,i1,i2,i3,i4,by lia⟩) ?_)
  ·rintro y c gc _ hy ⟨S3,na,nb,out,mg,ac,bc,rfl,g3,i1,i2,i3,i4,i5⟩;have L7:∀mg (P:Unit->SortSt->Prop),(∀aP,Sm κ arr pd aP->P () aP)->wpS (model prog w) A E s (setMg mg) P gc:=λmg P h=>wpS_modify (h _ ⟨S3.k,S3.a,S3.p,S3.f⟩);obtain⟨xb,eb,gb⟩:=hb.at (i:=nb-1) (by lia);refine aJ (λ_=>?_) (λ_=>?_)
   all_goals
    refine wpS_bind (L7 _ _ λxq S4=>?_);refine wpS_bind (au eb (wpS_bind (iF hG S4.k (by dsimp only;lia) (by dsimp only;lia) ha gb λk hk=>?_)));replace hk:k<=na:=hk;refine aJ (λKP=>?_) (λKP=>?_)
    ·refine aJ (λ(c:(k==0)=true)=>wpS_pure ⟨S4,.inl ⟨_,rfl,iG ha hb h0 (g3.app (ha.ext _ _).rev) (by simpa using c) (by dsimp only;lia)⟩⟩) (λ(c1:¬(k==0)=true)=>?_);have c1:¬k=0:=(by simpa using c1);have g4:=g3.app (ha.ext k na).rev;obtain⟨xa,ea,ga,la⟩:=KQ (k-1) (by lia);refine wpS_bind (au eb ?_);refine aJ (λc=>wpS_pure ⟨S4,.inl ⟨_,rfl,gn ha hb h0 (g4.push gb) (by dsimp only;lia)⟩⟩) (λ(c3:¬(nb-1==1)=true)=>?_);have c3:¬nb-1=1:=(by simpa using c3);refine wpS_bind (au ea (wpS_bind (kh hG S4.k (by dsimp only;lia) (by dsimp only;lia) hb ga h0 la λk2 E4 wU=>?_)));replace wU:k2<=nb-1:=wU;refine aJ (λh2=>?_) (λ(h2:¬nb-1-k2>0)=>?_)
     ·refine aJ (λc=>wpS_pure ⟨S4,.inl ⟨_,rfl,gn ha hb h0 ((g4.push gb).app (hb.ext _ _).rev) E4⟩⟩) (λ(c4:¬(k2==1)=true)=>?_);have c4:¬k2=1:=(by simpa using c4);refine aJ (λ(c:(k2==0)=true)=>absurd (show k2=0 by simpa using c) (by lia)) (λ_=>?_);refine wpS_bind (au ea ?_);refine aJ (λ(c:(k-1==0)=true)=>wpS_pure ⟨S4,.inl ⟨_,rfl,iG ha hb h0 (((g4.push gb).app (hb.ext _ _).rev).push ga) (by simpa using c) E4⟩⟩) (λ(c:¬(k-1==0)=true)=>?_);have c5:¬k-1=0:=(by simpa using c);exact aJ (λ_=>wpS_pure ⟨S4,.inr ⟨k-1,k2,_,_,_,_,rfl,((g4.push gb).app (hb.ext _ _).rev).push ga,by lia,by lia,by lia,by lia,by lia⟩⟩) (λ_=>wpS_pure ⟨S4,k-1,k2,_,_,_,_,rfl,((g4.push gb).app (hb.ext _ _).rev).push ga,by lia,by lia,by lia,by lia,by lia⟩)
     refine wpS_bind (au ea ?_);refine aJ (λ(c:(k-1==0)=true)=>wpS_pure ⟨S4,.inl ⟨_,rfl,iG ha hb h0 ((g4.push gb).push ga) (by simpa using c) (by dsimp only;lia)⟩⟩) (λ(c:¬(k-1==0)=true)=>?_);have c5:¬k-1=0:=(by simpa using c);exact aJ (λ_=>wpS_pure ⟨S4,.inr ⟨k-1,nb-1,_,_,_,_,rfl,(g4.push gb).push ga,by lia,by lia,by lia,by lia,by lia⟩⟩) (λ_=>wpS_pure ⟨S4,k-1,nb-1,_,_,_,_,rfl,(g4.push gb).push ga,by lia,by lia,by lia,by lia,by lia⟩)
    have E4:¬na-k>0:=KP;have g4:=g3;obtain⟨xa,ea,ga,la⟩:=KQ (na-1) (by lia);refine wpS_bind (au eb ?_);refine aJ (λc=>wpS_pure ⟨S4,.inl ⟨_,rfl,gn ha hb h0 (g4.push gb) (by dsimp only;lia)⟩⟩) (λ(c3:¬(nb-1==1)=true)=>?_);have c3:¬nb-1=1:=(by simpa using c3);refine wpS_bind (au ea (wpS_bind (kh hG S4.k (by dsimp only;lia) (by dsimp only;lia) hb ga h0 la λk2 E4 wU=>?_)));replace wU:k2<=nb-1:=wU;refine aJ (λh2=>?_) (λ(h2:¬nb-1-k2>0)=>?_)
    ·refine aJ (λc=>wpS_pure ⟨S4,.inl ⟨_,rfl,gn ha hb h0 ((g4.push gb).app (hb.ext _ _).rev) E4⟩⟩) (λ(c4:¬(k2==1)=true)=>?_);have c4:¬k2=1:=(by simpa using c4);refine aJ (λ(c:(k2==0)=true)=>absurd (show k2=0 by simpa using c) (by lia)) (λ_=>?_);refine wpS_bind (au ea ?_);refine aJ (λ(c:(na-1==0)=true)=>wpS_pure ⟨S4,.inl ⟨_,rfl,iG ha hb h0 (((g4.push gb).app (hb.ext _ _).rev).push ga) (by simpa using c) E4⟩⟩) (λ(c:¬(na-1==0)=true)=>?_);have c5:¬na-1=0:=(by simpa using c);exact aJ (λ_=>wpS_pure ⟨S4,.inr ⟨na-1,k2,_,_,_,_,rfl,((g4.push gb).app (hb.ext _ _).rev).push ga,by lia,by lia,by lia,by lia,by lia⟩⟩) (λ_=>wpS_pure ⟨S4,na-1,k2,_,_,_,_,rfl,((g4.push gb).app (hb.ext _ _).rev).push ga,by lia,by lia,by lia,by lia,by lia⟩)
    refine wpS_bind (au ea ?_);refine aJ (λ(c:(na-1==0)=true)=>wpS_pure ⟨S4,.inl ⟨_,rfl,iG ha hb h0 ((g4.push gb).push ga) (by simpa using c) (by dsimp only;lia)⟩⟩) (λ(c:¬(na-1==0)=true)=>?_);have c5:¬na-1=0:=(by simpa using c);exact aJ (λ_=>wpS_pure ⟨S4,.inr ⟨na-1,nb-1,_,_,_,_,rfl,(g4.push gb).push ga,by lia,by lia,by lia,by lia,by lia⟩⟩) (λ_=>wpS_pure ⟨S4,na-1,nb-1,_,_,_,_,rfl,(g4.push gb).push ga,by lia,by lia,by lia,by lia,by lia⟩)
  ·rintro c gc ⟨S3,h⟩;exact⟨S3,.inr h⟩
  rintro c gc ⟨S3,⟨r,e,gr⟩|⟨na,nb,out,mg,ac,bc,rfl,g3,i1,i2,i3,i4,i5⟩⟩
  ·obtain⟨c,_⟩:=c;obtain rfl:c=some r:=e;exact wpS_pure ⟨S3,r,rfl,gr⟩
  exact wpS_bind (wpS_modify (wpS_pure ⟨⟨S3.k,S3.a,S3.p,S3.f⟩,na,nb,_,_,rfl,g3,i1,i2,i3,i4,by lia⟩))
 ·rintro c aP ⟨S',na,nb,out,mg,rfl,g1,i1,i2,i3,i4,i5⟩;lia
 rintro c aP ⟨S',r,e,g1⟩;obtain⟨c,_⟩:=c;obtain rfl:c=some r:=e;exact wpS_pure (q r aP g1 S')
theorem Dh{st aP:SortSt}{Q:PUnit->SortSt->Prop}(h:Q ⟨⟩ aP):wpS (model prog w) A E s (set aP:StateT SortSt Sem PUnit) Q st:=by unfold wpS;rw[StateT.run_set];exact wpAny_pure ⟨rfl,h⟩
theorem sR(sa:Nat):∀(l:List Keyed)(m:Nat)(arr:Array Keyed),Al G arr->(∀x∈l,G x) ->
  ((l.zipIdx m).foldl (λa x=>match x with|(p,j)=>a.setIfInBounds (sa+j) p) arr).size=arr.size/\Al G ((l.zipIdx m).foldl (λa x=>match x with|(p,j)=>a.setIfInBounds (sa+j) p) arr) /\
  ∀i,i<sa+m->((l.zipIdx m).foldl (λa x=>match x with|(p,j)=>a.setIfInBounds (sa+j) p) arr)[i]?=arr[i]?
 |[],_,_,h,_=>⟨rfl,h,λ_ _=>rfl⟩
 |x::l,m,arr,h,hl=>by
  obtain⟨a1,a2,a3⟩:=sR sa l (m+1) (arr.setIfInBounds (sa+m) x) (λy hy=>by
   obtain⟨i,hi,rfl⟩:=Array.mem_iff_getElem.mp hy;rw[Array.getElem_setIfInBounds (by simpa using hi)];split
   ·exact hl x (.head _)
   exact h _ (Array.getElem_mem _)) λy hy=>hl y (.tail _ hy)
  refine⟨a1.trans (by simp),a2,λi hi=>(a3 i (by lia)).trans ?_⟩;rw[Array.getElem?_setIfInBounds_ne (by lia)]
structure L8(N:Nat)(item:Nat->Keyed)(κ:SortKind)(m:Nat)(st:SortSt):Prop where
 k:PyProof.Rows.kindOf st=κ
 p:(pendingOf st).size<=1
 f:failedOf st=none
 sz:(arrOf st).size=N
 al:Al (λx=>∃i,i<N/\x=item i) (arrOf st)
 hd:(arrOf st)[0]?=some (item m)
theorem wp_at{N:Nat}{item:Nat->Keyed}{lt:Nat->Nat->Bool}{p:Array Nat}{n1 M pw:Nat}{st:SortSt}{Q:Bool->SortSt->Prop}(hA:∀i j,i<N->j<N->mx prog w A s κ (item i) (item j) (lt i j))(o:Ord N lt)(hp:cA N p)(hN:n1+M=N)(h1:0<n1)(hM:0<M)(S:Sm κ (p.map item) #[(0,n1,pw),(n1,M,0)] st)(as:∀i j,i<=j->j<n1->lt (p.getD j 0) (p.getD i 0)=false)(q:∀m aP,L8 N item κ m aP->(m=p.getD 0 0/\lt (p.getD n1 0) m=false\/m=p.getD n1 0/\lt m (p.getD 0 0)=true)->Q true aP):wpS (model prog w) A E s (mergeAt' 0) Q st:=by
 have hG:∀x y,(∃i,i<N/\x=item i)->(∃i,i<N/\y=item i)->∃b,mx prog w A s κ x y b:=by rintro x y ⟨i,hi,rfl⟩ ⟨j,hj,rfl⟩;exact⟨_,hA i j hi hj⟩
 have sz:=hp.sz;have al:Al (λx=>∃i,i<N/\x=item i) (p.map item):=λx hx=>by
  obtain⟨i,hi,rfl⟩:=Array.mem_iff_getElem.mp hx;have rF:i<p.size:=by simpa using hi
  refine⟨p.getD i 0,hp.lo i (by lia),?_⟩;simp[Array.getD,rF]
 have at':∀i,i<N->(p.map item)[i]?=some (item (p.getD i 0)):=λi hi=>by
  have rF:i<p.size:=by lia
  simp[Array.getD,rF]
 have gz:∀i,i<N->∃j,j<N/\item (p.getD i 0)=item j:=λi hi=>⟨_,hp.lo i hi,rfl⟩;have key:=S;obtain⟨sk,sa,sp,sf⟩:=key;refine wpS_bind (wpS_get ?_);have e0:pendingOf st=#[(0,n1,pw),(n1,M,0)]:=sp;rw[show(pendingOf st)[0]?=some (0,n1,pw) by rw[e0];rfl,show(pendingOf st)[0+1]?=some (n1,M,0) by rw[e0];rfl];refine wpS_bind (Dh ?_);have e1:(arrOf st)[n1]?=some (item (p.getD n1 0)):=by rw[sa];exact at' n1 (by lia)
 refine wpS_bind (au e1 ?_);refine wpS_bind (my (κ:=κ) (f:=λi=>!lt (p.getD n1 0) (p.getD i 0)) sk h1 (λi hi=>⟨item (p.getD i 0),by show(arrOf st)[0+i]?=_;rw[sa,Nat.zero_add];exact at' i (by lia),?_⟩) λk hk k1 k2=>?_)
 ·rw[if_neg (by decide),Bool.not_not];exact hA _ _ (hp.lo _ (by lia)) (hp.lo _ (by lia))
 have hz:∀aP,PyProof.Rows.kindOf aP=κ->failedOf aP=none->arrOf aP=p.map item->(pendingOf aP).size<=1->L8 N item κ (p.getD 0 0) aP:=λaP a1 a2 a3 a4 =>
  ⟨a1,a4,a2,by rw[a3];simpa using sz,by rw[a3];exact al,by rw[a3];exact at' 0 (by lia)⟩
 have L9:(((pendingOf st).setIfInBounds 0 (0,n1+M,pw)).eraseIdxIfInBounds (0+1)).size<=1:=by rw[e0];simp
 have NY:0<k->lt (p.getD n1 0) (p.getD 0 0)=false:=λk0=>by
  have z:=k1.resolve_left (by lia);have z:lt (p.getD n1 0) (p.getD (k-1) 0)=false:=by simpa using z
  exact o.lz _ (p.getD (k-1) 0) _ (hp.lo _ (by lia)) (hp.lo _ (by lia)) (hp.lo _ (by lia)) (as _ _ (Nat.zero_le _) (by lia)) z
 refine aJ (λ(c:(n1-k==0)=true)=>wpS_pure (q _ _ (hz _ sk sf sa L9) (.inl ⟨rfl,NY (by have z:n1-k=0:=(by simpa using c);lia)⟩))) (λ(c:¬(n1-k==0)=true)=>?_);have c1:¬n1-k=0:=by simpa using c
 have gt:∀i,k<=i->i<n1->lt (p.getD n1 0) (p.getD i 0)=true:=λi i1 i2=>by
  have z:=k2.resolve_left (by lia);have z:lt (p.getD n1 0) (p.getD k 0)=true:=by simpa using z
  cases e:lt (p.getD n1 0) (p.getD i 0)with
  |true=>rfl
  |false=>rw[o.lz _ (p.getD i 0) _ (hp.lo _ (by lia)) (hp.lo _ (by lia)) (hp.lo _ (by lia)) (as _ _ i1 i2) e]at z;cases z
 have e2:(arrOf st)[0+k+(n1-k)-1]?=some (item (p.getD (n1-1) 0)):=by rw[sa,show 0+k+(n1-k)-1=n1-1 by lia];exact at' _ (by lia)
 refine wpS_bind (au e2 ?_);have tr:∀i,k<=i->i<n1->mx prog w A s κ (item (p.getD n1 0)) (item (p.getD i 0)) true:=λi i1 i2=>by have:=hA (p.getD n1 0) (p.getD i 0) (hp.lo _ (by lia)) (hp.lo _ (by lia));rw[gt i i1 i2]at this;exact this
 refine wpS_bind (kh (b0:=item (p.getD n1 0)) hG sk (by lia) (by show _<=(arrOf st).size;rw[sa];simp;lia) (by show Al _ (arrOf st);rw[sa];exact al) (gz _ (by lia)) e1 (tr _ (by lia) (by lia)) λnb b1 b2=>?_);refine aJ (λ(c:(nb==0)=true)=>absurd (show nb=0 by simpa using c) (by lia)) (λ_=>?_);have hx:Al (λx=>∃i,i<N/\x=item i) ((arrOf st).extract (0+k) n1):=by rw[sa];exact al.ext _ _
 have hy:Al (λx=>∃i,i<N/\x=item i) ((arrOf st).extract n1 (n1+nb)):=by rw[sa];exact al.ext _ _
 have NZ:((arrOf st).extract n1 (n1+nb))[0]?=some (item (p.getD n1 0)):=by rw[sa,Array.getElem?_extract,if_pos (by simp;lia)];exact at' n1 (by lia)
 have Na:0<((arrOf st).extract (0+k) n1).size:=by rw[sa];simp;lia
 have PN:∀x,x∈(arrOf st).extract (0+k) n1->mx prog w A s κ (item (p.getD n1 0)) x true:=λx hx=>by
  rw[sa,Array.mem_extract_iff_getElem]at hx;obtain⟨i,hi,rfl⟩:=hx;have GN:i<n1-k:=by simp at hi;lia
  have:=tr (0+k+i) (by lia) (by lia);have e:=at' (0+k+i) (by lia);rw[getElem?_pos (p.map item) (0+k+i) (by simp;lia)]at e;rw[Option.some.inj e];exact this
 have S2:Sm κ (p.map item) (((pendingOf st).setIfInBounds 0 (0,n1+M,pw)).eraseIdxIfInBounds (0+1)) (SortSt.mk' (PyProof.Rows.kindOf st) (arrOf st) (((pendingOf st).setIfInBounds 0 (0,n1+M,pw)).eraseIdxIfInBounds (0+1)) (gallopOf st) (failedOf st)):=⟨sk,sa,rfl,sf⟩;have fin:∀r aP,Gd (λx=>∃i,i<N/\x=item i) (item (p.getD n1 0)) r->Sm κ (p.map item) (((pendingOf st).setIfInBounds 0 (0,n1+M,pw)).eraseIdxIfInBounds (0+1)) aP->∀g,Q true (SortSt.mk' (PyProof.Rows.kindOf aP) (List.foldl (λa x=>match x with|(p,j)=>a.setIfInBounds (0+k+j) p) (arrOf aP) r.toList.zipIdx) (pendingOf aP) g (failedOf aP))/\(failedOf aP).isNone=true:=λr aP hr S' g=>by
  refine⟨?_,by rw[S'.f];rfl⟩;obtain⟨a1,a2,a3⟩:=sR (G:=λx=>∃i,i<N/\x=item i) (0+k) r.toList 0 (arrOf aP) (by rw[S'.a];exact al) (λx hx=>hr.al x (by simpa using hx));have Nb:=a1.trans (show(arrOf aP).size=N by rw[S'.a];simpa using sz);rcases Nat.eq_zero_or_pos k with rfl|k0
  ·refine q (p.getD n1 0) _ ⟨S'.k,by rw[show(pendingOf _)=_ from S'.p];exact L9,S'.f,Nb,a2,?_⟩ (.inr ⟨rfl,gt 0 (Nat.le_refl _) h1⟩);have HI:=hr.hd;cases er:r.toList with
   |nil =>
    have:r=#[]:=(by rw[<-Array.toList_inj,er]);rw[this]at HI;cases HI
   |cons y l =>
    have ey:y=item (p.getD n1 0):=by rw[<-Array.getElem?_toList,er]at HI;exact Option.some.inj HI
    show(List.foldl (λa x=>match x with|(p,j)=>a.setIfInBounds (0+0+j) p) (arrOf aP) ((y::l).zipIdx))[0]?=_
    obtain⟨_,_,d3⟩:=sR (G:=λ_=>True) (0+0) l 1 ((arrOf aP).setIfInBounds 0 y) (λ_ _=>trivial) (λ_ _=>trivial);refine(d3 0 (by lia)).trans ?_;rw[Array.getElem?_setIfInBounds_self_of_lt (by rw[S'.a];simp;lia),ey]
  refine q (p.getD 0 0) _ ⟨S'.k,by rw[show(pendingOf _)=_ from S'.p];exact L9,S'.f,Nb,a2,?_⟩ (.inl ⟨rfl,NY k0⟩);refine(a3 0 (by lia)).trans ?_;rw[S'.a];exact at' 0 (by lia)
 refine aJ (λ_=>?_) (λ_=>?_)
 ·refine wpS_bind (JL hG S2 hx hy NZ Na λr aP hr S'=>?_);refine wpS_bind (wpS_modify (wpS_bind (wpS_get (wpS_pure ?_))));obtain⟨f1,f2⟩:=fin r aP hr S' (gallopOf aP);rw[show(failedOf (SortSt.mk' _ _ _ _ (failedOf aP))).isNone=true from f2];exact f1
 refine wpS_bind (JM hG S2 hx hy NZ Na PN λr aP hr S'=>?_);refine wpS_bind (wpS_modify (wpS_bind (wpS_get (wpS_pure ?_))));obtain⟨f1,f2⟩:=fin r aP hr S' (gallopOf aP);rw[show(failedOf (SortSt.mk' _ _ _ _ (failedOf aP))).isNone=true from f2];exact f1
def ev{α:Type}(lt:Nat->Nat->Bool):KasT α->α
 |.ret a=>a
 |.ask i j k=>ev lt (k (lt i j))
theorem BW{α:Type}{lt:Nat->Nat->Bool}{Q:α->Shared->Prop}{s:Shared}:∀t:KasT α,t.kasWp (λi j C s=>C (lt i j) s) Q s->Q (ev lt t) s
 |.ret _,h=>h
 |.ask i j k,h=>BW (k (lt i j)) h
theorem mE{α β:Type}{lt:Nat->Nat->Bool}{f:α->KasT β}:∀t:KasT α,ev lt (t.bind f)=ev lt (f (ev lt t))
 |.ret _=>rfl
 |.ask i j k=>mE (k (lt i j))
theorem BX{pre:Array Keyed}{q:Array Nat}{item:Nat->Keyed}{lo i:Nat}(hp:pre.size=lo)(hi:i<q.size):(pre++q.map item)[lo+i]?=some (item (q.getD i 0)):=by subst hp;rw[Array.getElem?_append_right (by lia),Nat.add_sub_cancel_left];simp[Array.getD,hi]
theorem kj{pre:Array Keyed}{q:Array Nat}{item:Nat->Keyed}{k:Nat}:(pre++q.map item)[k]?=if k<pre.size then pre[k]? else(q[k-pre.size]?).map item:=by
 rw[Array.getElem?_append];split
 ·rfl
 rw[Array.getElem?_map]
theorem Di{pre:Array Keyed}{q:Array Nat}{item:Nat->Keyed}{lo i j:Nat}(hp:pre.size=lo)(hi:i<=j)(hj:j<=q.size):mirror (pre++q.map item) (lo+i) (lo+j) ((lo+j-(lo+i))/2)=pre++(kas_rev q i j).map item:=by
 subst hp;apply Array.ext_getElem?;intro k;rw[getElem?_mirror_all (by simp;lia),kj,kj,kj];unfold kas_rev;rw[getElem?_mirror_all hj];by_cases h1:k<pre.size
 ·rw[if_neg (by lia),if_pos h1,if_pos h1]
 rw[if_neg h1,if_neg h1];by_cases h2:pre.size+i<=k/\k<pre.size+j
 ·rw[if_pos h2,if_neg (by lia),if_pos (by lia)]
  congr 2;lia
 rw[if_neg h2,if_neg (by lia)]
theorem Dj{pre:Array Keyed}{q:Array Nat}{item:Nat->Keyed}{lo k l:Nat}(hp:pre.size=lo)(hl:l<=k)(hk:k<q.size):bubble (pre++q.map item) (lo+k) (lo+k-(lo+l))=pre++(bubble q k (k-l)).map item:=by
 subst hp;apply Array.ext_getElem?;intro i;rw[getElem?_bubble (by simp;lia) _ (by lia),kj,kj,kj,kj,getElem?_bubble hk _ (by lia)];by_cases h1:i<pre.size
 ·rw[if_neg (by lia),if_neg (by lia),if_pos h1,if_pos h1]
 simp only[if_neg h1];by_cases h2:i=pre.size+k-(pre.size+k-(pre.size+l))
 ·rw[if_pos h2,if_neg (show ¬pre.size+k<pre.size by lia),if_pos (show i-pre.size=k-(k-l) by lia)]
  congr 2;lia
 rw[if_neg h2,if_neg (show ¬i-pre.size=k-(k-l) by lia)];by_cases h3:pre.size+k-(pre.size+k-(pre.size+l))<i/\i<=pre.size+k
 ·rw[if_pos h3,if_neg (show ¬i-1<pre.size by lia),if_pos (show k-(k-l)<i-pre.size/\i-pre.size<=k by lia)]
  congr 2;lia
 rw[if_neg h3,if_neg (show ¬(k-(k-l)<i-pre.size/\i-pre.size<=k) by lia)]
section
variable{N lo:Nat}{item:Nat->Keyed}{lt:Nat->Nat->Bool}{pre:Array Keyed}{pd:Array (Nat×Nat×Nat)}
theorem cn{q:Array Nat}{st:SortSt}{i j u v:Nat}{Q:Option Bool->SortSt->Prop}(hA:∀i j,i<N->j<N->mx prog w A s κ (item i) (item j) (lt i j))(hp:pre.size=lo)(h:cA N q)(S:Sm κ (pre++q.map item) pd st)(hi:i<N)(hj:j<N)(eu:u=lo+i)(ev:v=lo+j)(k:Q (some (lt (q.getD i 0) (q.getD j 0))) st):wpS (model prog w) A E s (ltAt' u v) Q st:=by subst eu;subst ev;have e1:=BX (item:=item) hp (show i<q.size by rw[h.sz];exact hi);have e2:=BX (item:=item) hp (show j<q.size by rw[h.sz];exact hj);rw[ltAt'_eq];refine wpS_bind (wpS_get (wpS_bind (au (by rw[S.a];exact e1) (wpS_bind (au (by rw[S.a];exact e2) (mD (hA _ _ (h.lo i hi) (h.lo j hj)) S.k k))))))
theorem cp{q:Array Nat}{st:SortSt}{i j u v:Nat}{Q:Unit->SortSt->Prop}(hp:pre.size=lo)(h:cA N q)(S:Sm κ (pre++q.map item) pd st)(hi:i<=j)(hj:j<=N)(eu:u=lo+i)(ev:v=lo+j)(k:∀aP,Sm κ (pre++(kas_rev q i j).map item) pd aP->Q () aP):wpS (model prog w) A E s (reverseSlice' u v) Q st:=by subst eu;subst ev;rw[reverseSlice'_eq];exact wpS_modify (k _ ⟨S.k,by show mirror (arrOf st) _ _ _=_;rw[S.a];exact Di hp hi (by rw[h.sz];exact hj),S.p,S.f⟩)
theorem BY{q:Array Nat}{st:SortSt}{l k u v:Nat}{Q:Unit->SortSt->Prop}(hp:pre.size=lo)(h:cA N q)(S:Sm κ (pre++q.map item) pd st)(hl:l<=k)(hk:k<N)(eu:u=lo+k)(ev:v=lo+l)(kk:∀aP,Sm κ (pre++(bubble q k (k-l)).map item) pd aP->Q () aP):wpS (model prog w) A E s (moveDown' u v) Q st:=by subst eu;subst ev;rw[moveDown'_eq];exact wpS_modify (kk _ ⟨S.k,by show bubble (arrOf st) _ _=_;rw[S.a];exact Dj hp hl (by rw[h.sz];exact hk),S.p,S.f⟩)
theorem GO{q:Array Nat}{st:SortSt}{n ok:Nat}{Q:Bool->SortSt->Prop}(hA:∀i j,i<N->j<N->mx prog w A s κ (item i) (item j) (lt i j))(hp:pre.size=lo)(h:cA N q)(S:Sm κ (pre++q.map item) pd st)(h1:1<=ok)(aw:ok<=n)(hn:n<=N)(k:∀aP,Sm κ (pre++(ev lt (kas_bin (n-ok) q ok)).map item) pd aP->Q true aP):wpS (model prog w) A E s (binarySort' lo n ok) Q st:=by
 refine wpS_bind (wpS_mono (wpS_forRange (I:=λx c aP=>c=(none,())/\∃q',cA N q'/\Sm κ (pre++q'.map item) pd aP/\ev lt (kas_bin (n-x) q' x)=ev lt (kas_bin (n-ok) q ok))
  (Q:=λc aP=>c=(none,())/\Sm κ (pre++(ev lt (kas_bin (n-ok) q ok)).map item) pd aP) ?_ ?_ ?_) ?_)
 ·rintro x c aP NR NQ ⟨rfl,q',h',S',e'⟩;rw[show n-x=n-(x+1)+1 by lia]at e';have e2:ev lt (kas_bin (n-(x+1)) (bubble q' x (x-ev lt (kas_place q' x x 0 x))) (x+1))=ev lt (kas_bin (n-ok) q ok):=by rw[<-e'];exact(mE (lt:=lt) (kas_place q' x x 0 x) (f:=λl=>kas_bin (n-(x+1)) (bubble q' x (x-l)) (x+1))).symm
  refine wpS_bind (wpS_mono (wpS_forRange (I:=λy c c9=>c9=aP/\∃l r,c=(none,l,r)/\l<=r/\r<=x/\ev lt (kas_place q' x (x-y) l r)=ev lt (kas_place q' x x 0 x))
   (Q:=λc c9=>c9=aP/\∃r,c=(none,ev lt (kas_place q' x x 0 x),r)/\ev lt (kas_place q' x x 0 x)<=x) ?_ ?_ ⟨rfl,0,x,rfl,by lia,by lia,rfl⟩) ?_)
  ·rintro y c c9 _ hy ⟨rfl,l,r,rfl,l1,l2,e3⟩;rw[show x-y=x-(y+1)+1 by lia]at e3;have e4:ev lt (if l ≥ r then KasT.ret l else .ask (q'.getD x 0) (q'.getD ((l+r)/2) 0) λc=>if c=true then kas_place q' x (x-(y+1)) l ((l+r)/2)else kas_place q' x (x-(y+1)) ((l+r)/2+1) r)=ev lt (kas_place q' x x 0 x):=e3;refine aJ (λ(c:l ≥ r)=>wpS_pure ?_) (λ(c:¬l ≥ r)=>?_)
   ·rw[if_pos c]at e4;have e5:l=ev lt (kas_place q' x x 0 x):=e4;exact⟨rfl,r,by rw[<-e5],by lia⟩
   rw[if_neg c]at e4;refine wpS_bind (cn hA hp h' S' (i:=x) (j:=(l+r)/2) (by lia) (by lia) rfl rfl ?_);have e5:ev lt (if lt (q'.getD x 0) (q'.getD ((l+r)/2) 0)=true then kas_place q' x (x-(y+1)) l ((l+r)/2)else kas_place q' x (x-(y+1)) ((l+r)/2+1) r)=ev lt (kas_place q' x x 0 x):=e4;refine aJ (λc=>wpS_pure ?_) (λc=>wpS_pure ?_)
   ·rw[if_pos c]at e5;exact⟨rfl,l,(l+r)/2,rfl,by lia,by lia,e5⟩
   rw[if_neg c]at e5;exact⟨rfl,(l+r)/2+1,r,rfl,by lia,by lia,e5⟩
  ·rintro c c9 ⟨rfl,l,r,rfl,l1,l2,e3⟩;rw[show x-max 0 x=0 by lia]at e3;have e5:l=ev lt (kas_place q' x x 0 x):=e3;exact⟨rfl,r,by rw[<-e5],by lia⟩
  rintro c c9 ⟨rfl,r,rfl,l1⟩;exact wpS_bind (BY hp h' S' l1 (by lia) rfl rfl λgc S3=>wpS_pure ⟨rfl,_,h'.NS,S3,e2⟩)
 ·rintro c aP ⟨rfl,q',h',S',e'⟩;rw[show n-max (max ok 1) n=0 by lia]at e';have e5:q'=ev lt (kas_bin (n-ok) q ok):=e';exact⟨rfl,by rw[<-e5];exact S'⟩
 ·exact⟨rfl,q,h,S,by rw[show max ok 1=ok by lia]⟩
 rintro c aP ⟨rfl,S'⟩;exact wpS_pure (k _ S')
end
section
variable{N lo:Nat}{item:Nat->Keyed}{lt:Nat->Nat->Bool}{pre:Array Keyed}{pd:Array (Nat×Nat×Nat)}
theorem pG{p:Array Nat}{f n:Nat}:ev lt (kas_asc p (f+1) n)=if lt (p.getD n 0) (p.getD (n-1) 0)=true then n else ev lt (kas_asc p f (n+1)):=by show ev lt (if lt (p.getD n 0) (p.getD (n-1) 0)=true then KasT.ret n else kas_asc p f (n+1))=_;split<;>rfl
theorem yC{p:Array Nat}{f n q:Nat}:ev lt (kas_desc (f+1) p n q)=if lt (p.getD n 0) (p.getD (n-1) 0)=true then(if q>0 then ev lt (kas_desc f (kas_rev p (n-(q+1)) n) (n+1) 0)else ev lt (kas_desc f p (n+1) 0))
  else if lt (p.getD (n-1) 0) (p.getD n 0)=true then(p,n,q)else ev lt (kas_desc f p (n+1) (q+1)):=by
 show ev lt (if lt (p.getD n 0) (p.getD (n-1) 0)=true then(if q>0 then kas_desc f (kas_rev p (n-(q+1)) n) (n+1) 0 else kas_desc f p (n+1) 0)
  else .ask (p.getD (n-1) 0) (p.getD n 0) λd=>if d=true then .ret (p,n,q)else kas_desc f p (n+1) (q+1))=_
 split
 ·split<;>rfl
 show ev lt (if lt (p.getD (n-1) 0) (p.getD n 0)=true then KasT.ret (p,n,q)else kas_desc f p (n+1) (q+1))=_;split<;>rfl
theorem mF{p:Array Nat}{n:Nat}:ev lt (kas_tail3 n N p)=(ev lt (kas_asc (kas_rev p 0 n) (N-n) n),kas_rev p 0 n):=by unfold kas_tail3;rw[mE];rfl
theorem ng{p:Array Nat}{n:Nat}{D:Array Nat×Nat×Nat}(hD:ev lt (kas_desc (N-(n+1)) p (n+1) 0)=D):ev lt (kas_descPart n N p)=if D.2.2>0 then ev lt (kas_tail3 D.2.1 N (kas_rev D.1 (D.2.1-(D.2.2+1)) D.2.1))else ev lt (kas_tail3 D.2.1 N D.1):=by unfold kas_descPart;rw[mE,hD];split<;>rfl
theorem BZ{p:Array Nat}{m:Nat}(hm:ev lt (kas_asc p (N-1) 1)=m):ev lt (kas_count N p)=if(m==N)=true then(m,p)else if m>1 then(if lt (p.getD 0 0) (p.getD (m-1) 0)=true then(m,p)else ev lt (kas_descPart m N (kas_rev p 0 m)))else ev lt (kas_descPart m N p):=by
 unfold kas_count;rw[mE,hm];split
 ·rfl
 split
 ·show ev lt (if lt (p.getD 0 0) (p.getD (m-1) 0)=true then KasT.ret (m,p)else kas_descPart m N (kas_rev p 0 m))=_;split<;>rfl
 rfl
theorem GP{q:Array Nat}{st:SortSt}{Q:Option Nat->SortSt->Prop}(hA:∀i j,i<N->j<N->mx prog w A s κ (item i) (item j) (lt i j))(hp:pre.size=lo)(h:cA N q)(S:Sm κ (pre++q.map item) pd st)(hN:1<=N)(k:∀aP,Sm κ (pre++(ev lt (kas_count N q)).2.map item) pd aP->Q (some (ev lt (kas_count N q)).1) aP):wpS (model prog w) A E s (countRun' lo N) Q st:=by
 obtain⟨m,hm⟩:∃m,ev lt (kas_asc q (N-1) 1)=m:=⟨_,rfl⟩;rw[BZ hm]at k;refine wpS_bind (wpS_mono (wpS_forRange (I:=λx c aP=>c=(none,x)/\Sm κ (pre++q.map item) pd aP/\ev lt (kas_asc q (N-x) x)=m)
  (Q:=λc aP=>c=(none,m)/\Sm κ (pre++q.map item) pd aP/\1<=m/\m<=N) ?_ ?_ ⟨rfl,S,hm⟩) ?_)
 ·rintro x c aP x1 x2 ⟨rfl,S',e⟩;rw[show N-x=N-(x+1)+1 by lia,pG]at e;refine wpS_bind (cn hA hp h S' (i:=x) (j:=x-1) (by lia) (by lia) rfl (by dsimp only;lia) ?_);refine aJ (λc=>wpS_pure ?_) (λc=>wpS_pure ?_)
  ·rw[if_pos c]at e;subst e;exact⟨rfl,S',by lia,by lia⟩
  rw[if_neg c]at e;exact⟨rfl,S',e⟩
 ·rintro c aP ⟨rfl,S',e⟩;rw[show N-max 1 N=0 by lia]at e;have e:max 1 N=m:=e;subst e;exact⟨rfl,S',by lia,by lia⟩
 rintro c aP ⟨rfl,S',m1,m2⟩;refine aJ (λ(c:(m==N)=true)=>?_) (λ(c:¬(m==N)=true)=>?_)
 ·rw[if_pos c]at k;exact wpS_pure (k _ S')
 rw[if_neg c]at k;have mN:m<N:=by have z:¬m=N:=(by simpa using c);lia
 refine aJ (λ(c:m>1)=>?_) (λ(c:¬m>1)=>?_)
 ·rw[if_pos c]at k;refine wpS_bind (cn hA hp h S' (i:=0) (j:=m-1) (by lia) (by lia) rfl (by dsimp only;lia) ?_);refine aJ (λc=>?_) (λc=>?_)
  ·rw[if_pos c]at k;exact wpS_pure (k _ S')
  rw[if_neg c]at k;refine wpS_bind (cp hp h S' (i:=0) (j:=m) (by lia) (by lia) rfl rfl λqE S2=>?_);have h2:=h.rev (i:=0) (j:=m);generalize kas_rev q 0 m=q2 at S2 h2 k;obtain⟨D,hD⟩:∃D,ev lt (kas_desc (N-(m+1)) q2 (m+1) 0)=D:=⟨_,rfl⟩;rw[ng hD]at k;refine wpS_bind (wpS_lift (wpAny_rule ⟨rfl,?_⟩));refine wpS_bind (wpS_mono (wpS_forRange (I:=λx c aP=>∃q' ne,c=(none,x,ne)/\cA N q'/\Sm κ (pre++q'.map item) pd aP/\ne+1<=x/\ev lt (kas_desc (N-x) q' x ne)=D)
   (Q:=λc aP=>c=(none,D.2.1,D.2.2)/\cA N D.1/\Sm κ (pre++D.1.map item) pd aP/\D.2.2+1<=D.2.1/\D.2.1<=N) ?_ ?_ ⟨q2,0,rfl,h2,S2,by lia,hD⟩) ?_)
  ·rintro x c aP x1 x2 ⟨q',ne,rfl,h',S',i1,e⟩;replace x1:m+1<=x:=x1;rw[show N-x=N-(x+1)+1 by lia,yC]at e;refine wpS_bind (cn hA hp h' S' (i:=x) (j:=x-1) (by lia) (by lia) rfl (by dsimp only;lia) ?_);refine aJ (λc=>?_) (λc=>?_)
   ·rw[if_pos c]at e;refine aJ (λ(c:ne>0)=>?_) (λ(c:¬ne>0)=>?_)
    ·rw[if_pos c]at e;exact wpS_bind (cp hp h' S' (i:=x-(ne+1)) (j:=x) (by lia) (by lia) (by dsimp only;lia) rfl λgc S3=>wpS_pure ⟨_,0,rfl,h'.rev,S3,by lia,e⟩)
    rw[if_neg c]at e;exact wpS_pure ⟨q',0,rfl,h',S',by lia,e⟩
   rw[if_neg c]at e;refine wpS_bind (cn hA hp h' S' (i:=x-1) (j:=x) (by lia) (by lia) (by dsimp only;lia) rfl ?_);refine aJ (λc=>wpS_pure ?_) (λc=>wpS_pure ?_)
   ·rw[if_pos c]at e;subst e;exact⟨rfl,h',S',i1,by dsimp only;lia⟩
   rw[if_neg c]at e;exact⟨q',ne+1,rfl,h',S',by lia,e⟩
  ·rintro c aP ⟨q',ne,rfl,h',S',i1,e⟩;replace e:ev lt (kas_desc (N-max (m+1) N) q' (max (m+1) N) ne)=D:=e;replace i1:ne+1<=max (m+1) N:=i1;rw[show N-max (m+1) N=0 by lia]at e;have e:(q',max (m+1) N,ne)=D:=e;subst e;exact⟨rfl,h',S',i1,by dsimp only;lia⟩
  rintro c aP ⟨rfl,h',S',i1,i2⟩;obtain⟨q5,n,ne⟩:=D;dsimp only at h' S' i1 i2 k;refine aJ (λ(c:ne>0)=>?_) (λ(c:¬ne>0)=>?_)
  ·rw[if_pos c,mF]at k;refine wpS_bind (cp hp h' S' (i:=n-(ne+1)) (j:=n) (by lia) (by lia) (by dsimp only;lia) rfl λgc S3=>?_);have h3:=h'.rev (i:=n-(ne+1)) (j:=n);generalize kas_rev q5 (n-(ne+1)) n=q3 at S3 h3 k;refine wpS_bind (cp hp h3 S3 (i:=0) (j:=n) (by lia) (by lia) rfl rfl λxq S4=>?_);obtain⟨T,hT⟩:∃T,ev lt (kas_asc (kas_rev q3 0 n) (N-n) n)=T:=⟨_,rfl⟩;rw[hT]at k;have h4:=h3.rev (i:=0) (j:=n);generalize kas_rev q3 0 n=q4 at S4 hT k h4;refine wpS_bind (wpS_mono (wpS_forRange (I:=λx c aP=>c=(none,x)/\Sm κ (pre++q4.map item) pd aP/\ev lt (kas_asc q4 (N-x) x)=T)
    (Q:=λc aP=>c=(none,T)/\Sm κ (pre++q4.map item) pd aP) ?_ ?_ ⟨rfl,S4,hT⟩) ?_)
   ·rintro x c aP x1 x2 ⟨rfl,S',e⟩;replace x1:n<=x:=x1;rw[show N-x=N-(x+1)+1 by lia,pG]at e;refine wpS_bind (cn hA hp h4 S' (i:=x) (j:=x-1) (by lia) (by lia) rfl (by dsimp only;lia) ?_);refine aJ (λc=>wpS_pure ?_) (λc=>wpS_pure ?_)
    ·rw[if_pos c]at e;subst e;exact⟨rfl,S'⟩
    rw[if_neg c]at e;exact⟨rfl,S',e⟩
   ·rintro c aP ⟨rfl,S',e⟩;replace e:ev lt (kas_asc q4 (N-max n N) (max n N))=T:=e;rw[show N-max n N=0 by lia]at e;have e:max n N=T:=e;subst e;exact⟨rfl,S'⟩
   rintro c aP ⟨rfl,S'⟩;exact wpS_pure (k _ S')
  rw[if_neg c,mF]at k;have S3:=S';have h3:=h';generalize q5=q3 at S3 h3 k;refine wpS_bind (cp hp h3 S3 (i:=0) (j:=n) (by lia) (by lia) rfl rfl λxq S4=>?_);obtain⟨T,hT⟩:∃T,ev lt (kas_asc (kas_rev q3 0 n) (N-n) n)=T:=⟨_,rfl⟩;rw[hT]at k;have h4:=h3.rev (i:=0) (j:=n);generalize kas_rev q3 0 n=q4 at S4 hT k h4;refine wpS_bind (wpS_mono (wpS_forRange (I:=λx c aP=>c=(none,x)/\Sm κ (pre++q4.map item) pd aP/\ev lt (kas_asc q4 (N-x) x)=T)
   (Q:=λc aP=>c=(none,T)/\Sm κ (pre++q4.map item) pd aP) ?_ ?_ ⟨rfl,S4,hT⟩) ?_)
  ·rintro x c aP x1 x2 ⟨rfl,S',e⟩;replace x1:n<=x:=x1;rw[show N-x=N-(x+1)+1 by lia,pG]at e;refine wpS_bind (cn hA hp h4 S' (i:=x) (j:=x-1) (by lia) (by lia) rfl (by dsimp only;lia) ?_);refine aJ (λc=>wpS_pure ?_) (λc=>wpS_pure ?_)
   ·rw[if_pos c]at e;subst e;exact⟨rfl,S'⟩
   rw[if_neg c]at e;exact⟨rfl,S',e⟩
  ·rintro c aP ⟨rfl,S',e⟩;replace e:ev lt (kas_asc q4 (N-max n N) (max n N))=T:=e;rw[show N-max n N=0 by lia]at e;have e:max n N=T:=e;subst e;exact⟨rfl,S'⟩
  rintro c aP ⟨rfl,S'⟩;exact wpS_pure (k _ S')
 rw[if_neg c]at k;have S2:=S';have h2:=h;generalize q=q2 at S2 h2 k;obtain⟨D,hD⟩:∃D,ev lt (kas_desc (N-(m+1)) q2 (m+1) 0)=D:=⟨_,rfl⟩;rw[ng hD]at k;refine wpS_bind (wpS_lift (wpAny_rule ⟨rfl,?_⟩));refine wpS_bind (wpS_mono (wpS_forRange (I:=λx c aP=>∃q' ne,c=(none,x,ne)/\cA N q'/\Sm κ (pre++q'.map item) pd aP/\ne+1<=x/\ev lt (kas_desc (N-x) q' x ne)=D)
  (Q:=λc aP=>c=(none,D.2.1,D.2.2)/\cA N D.1/\Sm κ (pre++D.1.map item) pd aP/\D.2.2+1<=D.2.1/\D.2.1<=N) ?_ ?_ ⟨q2,0,rfl,h2,S2,by lia,hD⟩) ?_)
 ·rintro x c aP x1 x2 ⟨q',ne,rfl,h',S',i1,e⟩;replace x1:m+1<=x:=x1;rw[show N-x=N-(x+1)+1 by lia,yC]at e;refine wpS_bind (cn hA hp h' S' (i:=x) (j:=x-1) (by lia) (by lia) rfl (by dsimp only;lia) ?_);refine aJ (λc=>?_) (λc=>?_)
  ·rw[if_pos c]at e;refine aJ (λ(c:ne>0)=>?_) (λ(c:¬ne>0)=>?_)
   ·rw[if_pos c]at e;exact wpS_bind (cp hp h' S' (i:=x-(ne+1)) (j:=x) (by lia) (by lia) (by dsimp only;lia) rfl λgc S3=>wpS_pure ⟨_,0,rfl,h'.rev,S3,by lia,e⟩)
   rw[if_neg c]at e;exact wpS_pure ⟨q',0,rfl,h',S',by lia,e⟩
  rw[if_neg c]at e;refine wpS_bind (cn hA hp h' S' (i:=x-1) (j:=x) (by lia) (by lia) (by dsimp only;lia) rfl ?_);refine aJ (λc=>wpS_pure ?_) (λc=>wpS_pure ?_)
  ·rw[if_pos c]at e;subst e;exact⟨rfl,h',S',i1,by dsimp only;lia⟩
  rw[if_neg c]at e;exact⟨q',ne+1,rfl,h',S',by lia,e⟩
 ·rintro c aP ⟨q',ne,rfl,h',S',i1,e⟩;replace e:ev lt (kas_desc (N-max (m+1) N) q' (max (m+1) N) ne)=D:=e;replace i1:ne+1<=max (m+1) N:=i1;rw[show N-max (m+1) N=0 by lia]at e;have e:(q',max (m+1) N,ne)=D:=e;subst e;exact⟨rfl,h',S',i1,by dsimp only;lia⟩
 rintro c aP ⟨rfl,h',S',i1,i2⟩;obtain⟨q5,n,ne⟩:=D;dsimp only at h' S' i1 i2 k;refine aJ (λ(c:ne>0)=>?_) (λ(c:¬ne>0)=>?_)
 ·rw[if_pos c,mF]at k;refine wpS_bind (cp hp h' S' (i:=n-(ne+1)) (j:=n) (by lia) (by lia) (by dsimp only;lia) rfl λgc S3=>?_);have h3:=h'.rev (i:=n-(ne+1)) (j:=n);generalize kas_rev q5 (n-(ne+1)) n=q3 at S3 h3 k;refine wpS_bind (cp hp h3 S3 (i:=0) (j:=n) (by lia) (by lia) rfl rfl λxq S4=>?_);obtain⟨T,hT⟩:∃T,ev lt (kas_asc (kas_rev q3 0 n) (N-n) n)=T:=⟨_,rfl⟩;rw[hT]at k;have h4:=h3.rev (i:=0) (j:=n);generalize kas_rev q3 0 n=q4 at S4 hT k h4;refine wpS_bind (wpS_mono (wpS_forRange (I:=λx c aP=>c=(none,x)/\Sm κ (pre++q4.map item) pd aP/\ev lt (kas_asc q4 (N-x) x)=T)
   (Q:=λc aP=>c=(none,T)/\Sm κ (pre++q4.map item) pd aP) ?_ ?_ ⟨rfl,S4,hT⟩) ?_)
  ·rintro x c aP x1 x2 ⟨rfl,S',e⟩;replace x1:n<=x:=x1;rw[show N-x=N-(x+1)+1 by lia,pG]at e;refine wpS_bind (cn hA hp h4 S' (i:=x) (j:=x-1) (by lia) (by lia) rfl (by dsimp only;lia) ?_);refine aJ (λc=>wpS_pure ?_) (λc=>wpS_pure ?_)
   ·rw[if_pos c]at e;subst e;exact⟨rfl,S'⟩
   rw[if_neg c]at e;exact⟨rfl,S',e⟩
  ·rintro c aP ⟨rfl,S',e⟩;replace e:ev lt (kas_asc q4 (N-max n N) (max n N))=T:=e;rw[show N-max n N=0 by lia]at e;have e:max n N=T:=e;subst e;exact⟨rfl,S'⟩
  rintro c aP ⟨rfl,S'⟩;exact wpS_pure (k _ S')
 rw[if_neg c,mF]at k;have S3:=S';have h3:=h';generalize q5=q3 at S3 h3 k;refine wpS_bind (cp hp h3 S3 (i:=0) (j:=n) (by lia) (by lia) rfl rfl λxq S4=>?_);obtain⟨T,hT⟩:∃T,ev lt (kas_asc (kas_rev q3 0 n) (N-n) n)=T:=⟨_,rfl⟩;rw[hT]at k;have h4:=h3.rev (i:=0) (j:=n);generalize kas_rev q3 0 n=q4 at S4 hT k h4;refine wpS_bind (wpS_mono (wpS_forRange (I:=λx c aP=>c=(none,x)/\Sm κ (pre++q4.map item) pd aP/\ev lt (kas_asc q4 (N-x) x)=T)
  (Q:=λc aP=>c=(none,T)/\Sm κ (pre++q4.map item) pd aP) ?_ ?_ ⟨rfl,S4,hT⟩) ?_)
 ·rintro x c aP x1 x2 ⟨rfl,S',e⟩;replace x1:n<=x:=x1;rw[show N-x=N-(x+1)+1 by lia,pG]at e;refine wpS_bind (cn hA hp h4 S' (i:=x) (j:=x-1) (by lia) (by lia) rfl (by dsimp only;lia) ?_);refine aJ (λc=>wpS_pure ?_) (λc=>wpS_pure ?_)
  ·rw[if_pos c]at e;subst e;exact⟨rfl,S'⟩
  rw[if_neg c]at e;exact⟨rfl,S',e⟩
 ·rintro c aP ⟨rfl,S',e⟩;replace e:ev lt (kas_asc q4 (N-max n N) (max n N))=T:=e;rw[show N-max n N=0 by lia]at e;have e:max n N=T:=e;subst e;exact⟨rfl,S'⟩
 rintro c aP ⟨rfl,S'⟩;exact wpS_pure (k _ S')
end
section
variable{N:Nat}{item:Nat->Keyed}{lt:Nat->Nat->Bool}
theorem Ba(s:Shared)(o:Ord N lt){q:Array Nat}(h:cA N q)(hN:1<=N):1<=(ev lt (kas_count N q)).1/\(ev lt (kas_count N q)).1<=N/\cA N (ev lt (kas_count N q)).2/\kF lt (ev lt (kas_count N q)).2 (ev lt (kas_count N q)).1 :=
 BW (s:=s) (Q:=λr _=>1<=r.1/\r.1<=N/\cA N r.2/\kF lt r.2 r.1) _ (uX (λi j C _ _ h=>h) o h hN λm p' a b c d=>⟨a,b,c,d⟩)
theorem GQ(s:Shared)(o:Ord N lt){q:Array Nat}{f k:Nat}(h:cA N q)(hk:k+f<=N)(a:kF lt q k):cA N (ev lt (kas_bin f q k))/\kF lt (ev lt (kas_bin f q k)) (k+f) :=
 BW (s:=s) (Q:=λr _=>cA N r/\kF lt r (k+f)) _ (wJ (λi j C _ _ h=>h) o f q k h hk a λp' a b=>⟨a,b⟩)
theorem ze(h2:2<=N)(wV:N<128):∃mr,minRun' N N 0=mr/\N<=2*mr/\mr<=N/\1<=mr:=by
 obtain⟨f,rfl⟩:∃f,N=f+2:=⟨N-2,by lia⟩;refine⟨_,rfl,?_⟩;have e:minRun' (f+2) (f+2) 0=if f+2<64 then f+2+0 else if(f+2)/2<64 then(f+2)/2+max 0 ((f+2)%2)else minRun' f ((f+2)/2/2) (max (max 0 ((f+2)%2)) ((f+2)/2%2)):=rfl;rw[e];split
 ·lia
 rw[if_pos (by lia)];lia
theorem yD{q:Array Nat}{pre:Array Keyed}{pd:Array (Nat×Nat×Nat)}{lo:Nat}{st:SortSt}{Q:Option Nat->SortSt->Prop}(hA:∀i j,i<N->j<N->mx prog w A s κ (item i) (item j) (lt i j))(o:Ord N lt)(hp:pre.size=lo)(h:cA N q)(S:Sm κ (pre++q.map item) pd st)(hN:1<=N)(k:∀m p aP,cA N p->kF lt p m->1<=m->m<=N->Sm κ (pre++p.map item) pd aP->Q (some m) aP):wpS (model prog w) A E s (countRun' lo N) Q st:=by obtain⟨c1,c2,c3,c4⟩:=Ba s o h hN;exact GP hA hp h S hN λaP S'=>k _ _ _ c3 c4 c1 c2 S'
theorem yE{q:Array Nat}{pre:Array Keyed}{pd:Array (Nat×Nat×Nat)}{lo n ok:Nat}{st:SortSt}{Q:Bool->SortSt->Prop}(hA:∀i j,i<N->j<N->mx prog w A s κ (item i) (item j) (lt i j))(o:Ord N lt)(hp:pre.size=lo)(h:cA N q)(S:Sm κ (pre++q.map item) pd st)(h1:1<=ok)(aw:ok<=n)(hn:n<=N)(a:kF lt q ok)(k:∀p aP,cA N p->kF lt p n->Sm κ (pre++p.map item) pd aP->Q true aP):wpS (model prog w) A E s (binarySort' lo n ok) Q st:=by obtain⟨d1,d2⟩:=GQ s o (f:=n-ok) h (by lia) a;rw[show ok+(n-ok)=n by lia]at d2;exact GO hA hp h S h1 aw hn λc9 PQ=>k _ _ d1 d2 PQ
structure kG(N:Nat)(item:Nat->Keyed)(lt:Nat->Nat->Bool)(κ:SortKind)(st:SortSt)(m:Nat):Prop where
 mg:L8 N item κ m st
 lo:m<N
 le:∀j,j<N->lt j m=false
theorem cA.has{p:Array Nat}(h:cA N p){i:Nat}(hi:i<N):∃j,j<N/\p.getD j 0=i:=by have m:i∈p:=h.pm.mem_iff.mpr (by simpa using hi);obtain⟨j,hj,e⟩:=Array.mem_iff_getElem.mp m;exact⟨j,by rw[<-h.sz];exact hj,by rw[<-e];simp[Array.getD,hj]⟩
theorem GR{p:Array Nat}(hp:cA N p):Al (λx=>∃i,i<N/\x=item i) (p.map item):=λx hx=>by
 obtain⟨i,hi,rfl⟩:=Array.mem_iff_getElem.mp hx;have rF:i<p.size:=by simpa using hi
 refine⟨p.getD i 0,hp.lo i (by rw[<-hp.sz];exact rF),?_⟩;simp[Array.getD,rF]
theorem kG.one{p:Array Nat}{pd:Array (Nat×Nat×Nat)}{st:SortSt}(hN:1<=N)(hp:cA N p)(as:kF lt p N)(S:Sm κ (p.map item) pd st)(hd:pd.size<=1):kG N item lt κ st (p.getD 0 0)where
 mg:=⟨S.k,by rw[S.p];exact hd,S.f,by rw[S.a];simpa using hp.sz,by rw[S.a];exact GR hp,by
  rw[S.a];have:0<p.size:=by rw[hp.sz];lia
  simp[Array.getD,this]⟩
 lo:=hp.lo 0 (by lia)
 le:=λj hj=>by obtain⟨i,hi,rfl⟩:=hp.has hj;exact as 0 i (Nat.zero_le _) hi
theorem yF{p:Array Nat}{n1:Nat}(hp:cA N p)(h1:n1<=N){q:Array Nat}:(p.extract 0 n1++q.map λi=>p.getD (n1+i) 0).map item=(p.extract 0 n1).map item++q.map λi=>item (p.getD (n1+i) 0):=by rw[Array.map_append,Array.map_map];rfl
theorem yG{p:Array Nat}{n1:Nat}(hp:cA N p)(h1:n1<=N):p.extract 0 n1++(List.toArray (List.range (N-n1))).map (λi=>p.getD (n1+i) 0)=p:=by
 have sz:=hp.sz;apply Array.ext_getElem?;intro k;rw[Array.getElem?_append,Array.getElem?_extract];have e:(p.extract 0 n1).size=n1:=by simp;lia
 rw[e];by_cases c:k<n1
 ·rw[if_pos c,if_pos (by lia),Nat.zero_add]
 rw[if_neg c];by_cases d:k<N
 ·have d':k<p.size:=by lia
  have:k-n1<N-n1:=by lia
  simp[this,Array.getD,show n1+(k-n1)=k by lia,d']
 rw[Array.getElem?_eq_none (by simp;lia),Array.getElem?_eq_none (by lia)]
theorem GS{p q:Array Nat}{n1:Nat}(hp:cA N p)(h1:n1<=N)(hq:cA (N-n1) q):(∀i,i<n1->(p.extract 0 n1++q.map λi=>p.getD (n1+i) 0).getD i 0=p.getD i 0)/\∀i,n1<=i->i<N->(p.extract 0 n1++q.map λi=>p.getD (n1+i) 0).getD i 0=p.getD (n1+q.getD (i-n1) 0) 0:=by
 have sz:=hp.sz;have sq:=hq.sz;have e:(p.extract 0 n1).size=n1:=by simp;lia
 refine⟨λi hi=>?_,λi i1 i2=>?_⟩
 ·rw[Array.getD_eq_getD_getElem?,Array.getElem?_append_left (by lia),Array.getElem?_extract,if_pos (by lia),Nat.zero_add,<-Array.getD_eq_getD_getElem?]
 rw[Array.getD_eq_getD_getElem?,Array.getElem?_append_right (by lia),e,Array.getElem?_map];have:i-n1<q.size:=by lia
 simp[this]
theorem GU{p q:Array Nat}{n1:Nat}(hp:cA N p)(h1:n1<=N)(hq:cA (N-n1) q):cA N (p.extract 0 n1++q.map λi=>p.getD (n1+i) 0):=by
 refine hp.of ?_ ?_
 ·have a:(q.map λi=>p.getD (n1+i) 0).Perm ((List.toArray (List.range (N-n1))).map λi=>p.getD (n1+i) 0):=by rw[Array.perm_iff_toList_perm,Array.toList_map,Array.toList_map];exact(Array.perm_iff_toList_perm.mp hq.pm).map _
  have b:=(Array.Perm.refl (p.extract 0 n1)).append a
  rwa [yG hp h1]at b
 have sz:=hp.sz;have sq:=hq.sz;simp;lia
theorem Dk{st:SortSt}{Q:Unit->SortSt->Prop}(hA:∀i j,i<N->j<N->mx prog w A s κ (item i) (item j) (lt i j))(o:Ord N lt)(h2:2<=N)(wV:N<128)(S:Sm κ ((List.toArray (List.range N)).map item) #[] st)(q:∀aP m,kG N item lt κ aP m->Q () aP):wpS (model prog w) A E s sortRuns' Q st:=by
 obtain⟨mr,PR,m1,m2,m3⟩:=ze h2 wV;have r0:cA N (List.toArray (List.range N)):=⟨by simp,λi hi=>by simp[Array.getD,hi],Array.Perm.refl _⟩;have hs:(arrOf st).size=N:=by rw[S.a];simp
 rw[sortRuns'_eq];refine wpS_bind (wpS_get ?_);simp only[hs,PR];refine wpS_bind (wpS_mono (wpS_forRange
  (I:=λx c aP=>(x=0/\c=(none,0)/\Sm κ ((List.toArray (List.range N)).map item) #[] aP)\/(x=1/\∃p n1,c=(none,n1)/\cA N p/\kF lt p n1/\mr<=n1/\n1<N/\Sm κ (p.map item) #[(0,n1,0)] aP) \/
   (1<=x/\c=(none,N)/\((∃m,kG N item lt κ aP m)\/∃p n1 pw,cA N p/\kF lt p n1/\0<n1/\n1<N/\(∀i j,n1<=i->i<=j->j<N->lt (p.getD j 0) (p.getD i 0)=false)/\Sm κ (p.map item) #[(0,n1,pw),(n1,N-n1,0)] aP)))
  (Q:=λc aP=>c=(none,N)/\((∃m,kG N item lt κ aP m)\/∃p n1 pw,cA N p/\kF lt p n1/\0<n1/\n1<N/\(∀i j,n1<=i->i<=j->j<N->lt (p.getD j 0) (p.getD i 0)=false)/\Sm κ (p.map item) #[(0,n1,pw),(n1,N-n1,0)] aP)) ?step ?fin (.inl ⟨rfl,rfl,S⟩)) ?post)
 case fin =>
  rintro c aP (⟨hx,_,_⟩|⟨hx,_⟩|⟨_,hc,hD⟩)
  ·lia
  ·lia
  exact⟨hc,hD⟩
 case step =>
  rintro x c aP _ hx (⟨rfl,rfl,S'⟩|⟨rfl,p,n1,rfl,hp,as,i1,i2,S'⟩|⟨NR,rfl,hD⟩)
  ·refine aJ (λ(c:0 ≥ N)=>absurd c (by lia)) (λ_=>?_);have JN:∀n p gc,cA N p->kF lt p n->mr<=n->n<=N->Sm κ (#[]++p.map item) #[] gc->∀Q':ForInStep (Option Unit×Nat)->SortSt->Prop,
     (∀xq,((∃p n1,(none,0+n)=((none:Option Unit),n1)/\cA N p/\kF lt p n1/\mr<=n1/\n1<N/\Sm κ (p.map item) #[(0,n1,0)] xq)\/((none,0+n)=((none:Option Unit),N)/\∃m,kG N item lt κ xq m))->Q' (.yield (none,0+n)) xq) ->
     wpS (model prog w) A E s (do
      modify λs=>setPending s ((pendingOf s).push (0,n,0))
      pure (ForInStep.yield ((none:Option Unit),0+n))) Q' gc:=by
    intro n p gc hp as i1 i2 S3 Q' hQ;rw[Array.empty_append]at S3;refine wpS_bind (wpS_modify (wpS_pure (hQ _ ?_)));have S4:Sm κ (p.map item) #[(0,n,0)] (setPending gc ((pendingOf gc).push (0,n,0))):=⟨S3.k,S3.a,by show(pendingOf gc).push (0,n,0)=_;rw[S3.p];rfl,S3.f⟩;by_cases c:n=N
    ·subst c;exact .inr ⟨by rw[Nat.zero_add],_,kG.one (by lia) hp as S4 (Nat.le_refl _)⟩
    exact .inl ⟨p,n,by rw[Nat.zero_add],hp,as,i1,by lia,S4⟩
   refine wpS_bind (yD (N:=N) (lo:=0) (pre:=#[]) hA o rfl r0 (by rw[Array.empty_append];exact S') (by lia) λm p qE xv DT i1 i2 S2=>?_);have hb:∀gc,Sm κ (#[]++p.map item) #[] gc->True:=λ_ _=>trivial;refine aJ (λ(c:m<mr)=>?_) (λ(c:¬m<mr)=>?_)
   ·refine wpS_bind (wpS_lift (wpAny_rule ⟨rfl,?_⟩));refine wpS_bind (yE (N:=N) (pre:=#[]) (n:=min N mr) hA o rfl xv S2 i1 (by lia) (by lia) DT λp3 gc KR MA S3=>?_);refine aJ (λc=>absurd c (by decide)) (λ_=>?_);refine wpS_bind (wpS_get ?_);have hb:(pendingOf gc).back?=none:=(by rw[S3.p];rfl);rw[hb];exact JN (min N mr) p3 gc KR MA (by lia) (by lia) S3 _ λxq h=>.inr (h.imp (λh=>⟨rfl,h⟩) λh=>⟨Nat.le_refl _,h.1,.inl h.2⟩)
   refine wpS_bind (wpS_get ?_);have hb:(pendingOf qE).back?=none:=(by rw[S2.p];rfl);rw[hb];exact JN m p qE xv DT (by lia) (by lia) S2 _ λxq h=>.inr (h.imp (λh=>⟨rfl,h⟩) λh=>⟨Nat.le_refl _,h.1,.inl h.2⟩)
  ·have hM:cA (N-n1) (List.toArray (List.range (N-n1))):=⟨by simp,λi hi=>by simp[Array.getD,hi],Array.Perm.refl _⟩;have sz:=hp.sz;have vp:((p.extract 0 n1).map item).size=n1:=(by simp;lia);have o2:Ord (N-n1) (λi j=>lt (p.getD (n1+i) 0) (p.getD (n1+j) 0)):=⟨λx y hx hy=>o.cb _ _ (hp.lo _ (by lia)) (hp.lo _ (by lia)),λx y z hx hy hz=>o.lz _ _ _ (hp.lo _ (by lia)) (hp.lo _ (by lia)) (hp.lo _ (by lia))⟩;have Nf:∀i j,i<N-n1->j<N-n1->mx prog w A s κ (item (p.getD (n1+i) 0)) (item (p.getD (n1+j) 0)) (lt (p.getD (n1+i) 0) (p.getD (n1+j) 0)):=λi j hi hj=>hA _ _ (hp.lo _ (by lia)) (hp.lo _ (by lia));have S1:Sm κ ((p.extract 0 n1).map item++(List.toArray (List.range (N-n1))).map λi=>item (p.getD (n1+i) 0)) #[(0,n1,0)] aP:=(by rw[<-yF hp (by lia),yG hp (by lia)];exact S');have JO:∀n q2 gc,cA (N-n1) q2->kF (λi j=>lt (p.getD (n1+i) 0) (p.getD (n1+j) 0)) q2 n->n=N-n1->Sm κ ((p.extract 0 n1).map item++q2.map λi=>item (p.getD (n1+i) 0)) #[(0,n1,0)] gc->∀pw g:Nat,
     ∃p' n' PU,cA N p'/\kF lt p' n'/\0<n'/\n'<N/\(∀i j,n'<=i->i<=j->j<N->lt (p'.getD j 0) (p'.getD i 0)=false)/\Sm κ (p'.map item) #[(0,n',PU),(n',N-n',0)] (SortSt.mk' (PyProof.Rows.kindOf gc) (arrOf gc) (((pendingOf gc).modify ((pendingOf gc).size-1) λx=>(x.1,x.2.1,pw)).push (n1,n,0)) g (failedOf gc)):=by
    intro n q2 gc h2 a2 en S3 pw g;subst en;obtain⟨t1,t2⟩:=GS hp (Nat.le_of_lt i2) h2;refine⟨p.extract 0 n1++q2.map λi=>p.getD (n1+i) 0,n1,pw,GU hp (by lia) h2,λi j rE hj=>?_,by lia,i2,λi j h1 rE hj=>?_,S3.k,by rw[yF hp (by lia)];exact S3.a,?_,S3.f⟩
    ·rw[t1 i (by lia),t1 j hj];exact as i j rE hj
    ·rw[t2 i h1 (by lia),t2 j (by lia) hj];exact a2 (i-n1) (j-n1) (by lia) (by lia)
    show((pendingOf gc).modify ((pendingOf gc).size-1) λx=>(x.1,x.2.1,pw)).push (n1,N-n1,0)=_;rw[S3.p];rfl
   refine aJ (λ(c:n1 ≥ N)=>absurd c (by lia)) (λ_=>?_);refine wpS_bind (yD (N:=N-n1) (lo:=n1) Nf o2 vp hM S1 (by lia) λm q2 qE JP DT j1 j2 S2=>?_);refine aJ (λ(c:m<mr)=>?_) (λ(c:¬m<mr)=>?_)
   ·refine wpS_bind (wpS_lift (wpAny_rule ⟨rfl,?_⟩));refine wpS_bind (yE (N:=N-n1) (n:=min (N-n1) mr) Nf o2 vp JP S2 j1 (by lia) (by lia) DT λq3 gc PV MA S3=>?_);refine aJ (λc=>absurd c (by decide)) (λ_=>?_);refine wpS_bind (wpS_get ?_);have hb:(pendingOf gc).back?=some (0,n1,0):=(by rw[S3.p];rfl);rw[hb];refine wpS_bind (wpS_mono (wpS_forRange (I:=λ_ c c9=>c=(none,())/\c9=gc) (Q:=λc c9=>c=(none,())/\c9=gc) ?_ (λ_ _ hh=>hh) ⟨rfl,rfl⟩) ?_)
    ·rintro x c c9 _ _ ⟨rfl,rfl⟩;refine wpS_bind (wpS_get ?_);rw[if_neg (by rw[S3.p];exact Nat.lt_irrefl 1)];exact wpS_pure ⟨rfl,rfl⟩
    rintro c c9 ⟨rfl,rfl⟩;exact wpS_bind (wpS_modify (wpS_bind (wpS_modify (wpS_pure (.inr (.inr ⟨by lia,by dsimp only;rw[show n1+min (N-n1) mr=N by lia],.inr (JO _ _ _ PV MA (by lia) S3 _ _)⟩))))))
   refine wpS_bind (wpS_get ?_);have hb:(pendingOf qE).back?=some (0,n1,0):=(by rw[S2.p];rfl);rw[hb];refine wpS_bind (wpS_mono (wpS_forRange (I:=λ_ c c9=>c=(none,())/\c9=qE) (Q:=λc c9=>c=(none,())/\c9=qE) ?_ (λ_ _ hh=>hh) ⟨rfl,rfl⟩) ?_)
   ·rintro x c c9 _ _ ⟨rfl,rfl⟩;refine wpS_bind (wpS_get ?_);rw[if_neg (by rw[S2.p];exact Nat.lt_irrefl 1)];exact wpS_pure ⟨rfl,rfl⟩
   rintro c c9 ⟨rfl,rfl⟩;exact wpS_bind (wpS_modify (wpS_bind (wpS_modify (wpS_pure (.inr (.inr ⟨by lia,by dsimp only;rw[show n1+m=N by lia],.inr (JO _ _ _ JP DT (by lia) S2 _ _)⟩))))))
  exact aJ (λ_=>wpS_pure ⟨rfl,hD⟩) (λ(c:¬N ≥ N)=>absurd (Nat.le_refl N) c)
 case post =>
  rintro c aP ⟨rfl,hD⟩;refine wpS_bind (wpS_mono (wpS_forRange (I:=λx c c9=>c=(none,())/\((∃m,kG N item lt κ c9 m)\/x=0/\∃p n1 pw,cA N p/\kF lt p n1/\0<n1/\n1<N/\(∀i j,n1<=i->i<=j->j<N->lt (p.getD j 0) (p.getD i 0)=false)/\Sm κ (p.map item) #[(0,n1,pw),(n1,N-n1,0)] c9))
   (Q:=λc c9=>c=(none,())/\∃m,kG N item lt κ c9 m) ?_ ?_ ⟨rfl,hD.imp id λh=>⟨rfl,h⟩⟩) ?_)
  ·rintro x c c9 _ _ ⟨rfl,⟨m,L⟩|⟨rfl,p,n1,pw,hp,as,i1,i2,bs,S'⟩⟩
   ·refine wpS_bind (wpS_get ?_);exact aJ (λ_=>wpS_pure ⟨rfl,m,L⟩) (λc=>absurd L.mg.p c)
   refine wpS_bind (wpS_get ?_);have e:(pendingOf c9).size=2:=(by rw[S'.p];rfl);refine aJ (λc=>absurd c (by rw[e];decide)) (λ_=>?_);rw[e];refine wpS_bind (wp_at (n1:=n1) (M:=N-n1) (pw:=pw) hA o hp (by lia) i1 (by lia) S' as λm gc M h=>?_);refine aJ (λc=>absurd c (by decide)) (λ_=>wpS_pure ⟨rfl,.inl ⟨m,M,?_,λj hj=>?_⟩⟩)
   ·rcases h with⟨rfl,_⟩|⟨rfl,_⟩
    ·exact hp.lo _ (by lia)
    exact hp.lo _ i2
   obtain⟨i,hi,rfl⟩:=hp.has hj;by_cases c:i<n1
   ·have z:=as 0 i (Nat.zero_le _) c;rcases h with⟨rfl,_⟩|⟨rfl,g⟩
    ·exact z
    exact o.lz _ (p.getD 0 0) _ (hp.lo _ i2) (hp.lo _ (by lia)) (hp.lo _ hi) (o.cb _ _ (hp.lo _ i2) (hp.lo _ (by lia)) g) z
   have z:=bs n1 i (Nat.le_refl _) (by lia) hi;rcases h with⟨rfl,g⟩|⟨rfl,_⟩
   ·exact o.lz _ (p.getD n1 0) _ (hp.lo _ (by lia)) (hp.lo _ i2) (hp.lo _ hi) g z
   exact z
  ·rintro c c9 ⟨rfl,h|⟨hx,_⟩⟩
   ·exact⟨rfl,h⟩
   lia
  rintro c c9 ⟨rfl,m,L⟩;exact wpS_pure (q _ m L)
end
theorem uc{N:Nat}{item:Nat->Keyed}:∀l:List Keyed,(∀x∈l,∃i,i<N/\x=item i)->∃q:List Nat,l=q.map item/\∀i∈q,i<N
 |[],_=>⟨[],rfl,λ_ h=>by cases h⟩
 |x::l,h=>by obtain⟨i,hi,rfl⟩:=h x (.head _);obtain⟨q,rfl,hq⟩:=uc l λy hy=>h y (.tail _ hy);exact⟨i::q,rfl,λj hj=>(List.mem_cons.mp hj).elim (λe=>e▸hi) (hq j)⟩
theorem GV{N m:Nat}{item:Nat->Keyed}{arr:Array Keyed}(h:Al (λx=>∃i,i<N/\x=item i) arr)(hd:arr[0]?=some (item m))(hm:m<N):∃l:List Nat,arr.toList=(m::l).map item/\∀i∈m::l,i<N:=by
 cases e:arr.toList with
 |nil =>
  have:arr=#[]:=by rw[<-Array.toList_inj,e]
  rw[this]at hd;cases hd
 |cons x l =>
  obtain⟨q,rfl,hq⟩:=uc l (λy hy=>h y (by rw[<-Array.mem_toList_iff,e];exact .tail _ hy));refine⟨q,?_,λi hi=>(List.mem_cons.mp hi).elim (λz=>z▸hm) (hq i)⟩;rw[<-Array.getElem?_toList,e]at hd;rw[List.map_cons,Option.some.inj hd]
theorem qM{h:Heap}{a:Addr}{vs:List Value}{n:Nat}{κ:SortKind}{lt:Nat->Nat->Bool}{P:PySem.Fin->Shared->Prop}(ho:s.heap.get? a=some (seqObj "list" vs.toArray n))(hg:∀(b:Addr)(o:Obj),h.get? b=some o->b≠a/\s.heap.get? b=some o)(S:kg prog w A h vs lt κ)(h2:2<=vs.length)(wV:vs.length<128)(q:∀m l,(m::l).length=vs.length->(∀i∈m::l,i<vs.length)->(∀j,j<vs.length->lt j m=false)->P (.done (.ret .none)) { s with heap:=sortedHeap s.heap a vs (List.toArray ((m::l).map λi=>vs.getD i Value.none)) }):wpAny (model prog w) A (Builtin.«list.sort» ⟨[.ref a],[]⟩) P E s:=by
 rw[list_sort_plain];have ha:a<s.heap.objs.size:=Heap.lt_size ho;have hz:vs.toArray.size=vs.length:=List.size_toArray ..;refine wpAny_bind (listItems_at ho rfl (wpAny_bind (listUpdate_at ho rfl ?_ (by rw[hz,sizeLine_eq];lia) (Nat.zero_le _))));obtain⟨e1,Iy⟩:∃e1,(s.heap.update a (Obj.mapSeq λ_=>#[])).get? a=some (seqObj "list" #[] e1):=⟨_,get?_update_seq ho (λ_=>#[])⟩;refine wpAny_bind (seqEpoch_at Iy rfl (wpAny_bind (wpAny_newTuple ?_ (by show vs.length<=_;rw[sizeLine_eq];lia))));refine wpAny_bind (wpAny_newList (wpAny_holding ?_) (Nat.zero_le _));have GG:(((s.heap.update a (Obj.mapSeq λ_=>#[])).push (seqObj "tuple" vs.toArray 0)).push (seqObj "list" #[] 0)).get? a=some (seqObj "list" #[] e1):=Heap.get?_push_of_some _ (Heap.get?_push_of_some _ Iy);have gr:Grows h (((s.heap.update a (Obj.mapSeq λ_=>#[])).push (seqObj "tuple" vs.toArray 0)).push (seqObj "list" #[] 0)):=λb o e =>
  Heap.get?_push_of_some _ (Heap.get?_push_of_some _ (((Heap.SameBut.update s.heap a (Obj.mapSeq λ_=>(#[]:Array Value))).2 b (hg b o e).1).trans (hg b o e).2))
 show wpAny (model prog w) A _ P E { s with heap:=((s.heap.update a (Obj.mapSeq λ_=>#[])).push (seqObj "tuple" vs.toArray 0)).push (seqObj "list" #[] 0) }
 dsimp only;have Ng:¬vs.toArray.size<2:=by lia
 rw[if_neg Ng,if_neg Ng];refine wpAny_bind (S.kind _ E _ gr h2 ?_);have e:=kas_range (pairsOf vs);rw[pairsOf_size]at e;have run:=Dk (prog:=prog) (w:=w) (A:=A) (E:=E) (κ:=κ) (item:=kas_item (pairsOf vs)) (lt:=lt) (s:={ s with heap:=((s.heap.update a (Obj.mapSeq λ_=>#[])).push (seqObj "tuple" vs.toArray 0)).push (seqObj "list" #[] 0) }) (st:=SortSt.mk' κ (vs.toArray.zip vs.toArray) #[] 7 none)
  (Q:=λ_ aP=>∃m,kG vs.length (kas_item (pairsOf vs)) lt κ aP m) (λi j hi hj C hC=>by rw[kas_item_eq,kas_item_eq];exact S.cmp _ i j C gr hi hj hC) S.ord h2 wV ⟨rfl,e.symm,rfl,rfl⟩ λaP m L=>⟨m,L⟩
 refine wpAny_bind (wpAny_mono run ?_ λ_ _ e=>e);rintro⟨⟨⟩,aP⟩ s' ⟨rfl,m,L⟩;dsimp only;obtain⟨l,hl,Cj⟩:=GV L.mg.al L.mg.hd L.lo;have BF:(arrOf aP).map (·.2)=List.toArray ((m::l).map λi=>vs.getD i Value.none):=by apply Array.toList_inj.mp;rw[Array.toList_map,hl,List.map_map];exact List.map_congr_left λi _=>by show(kas_item (pairsOf vs) i).2=_;rw[kas_item_eq]
 have hlen:(m::l).length=vs.length:=by have z:=L.mg.sz;rw[<-Array.length_toList,hl,List.length_map]at z;exact z
 rw[BF];refine wpAny_bind (seqEpoch_at GG rfl ?_);refine wpAny_bind (listUpdate_at GG rfl ?_ (Nat.zero_le _) (by rw[List.size_toArray,List.length_map,hlen,sizeLine_eq];lia));rw[show failedOf aP=none from L.mg.f];simp only[bne_self_eq_false,Bool.false_eq_true,if_false];exact wpAny_pure (q m l hlen Cj L.le)
theorem wW{x:Value}{vs:List Value}{κ:SortKind}{lt:Nat->Nat->Bool}{Q:Value->Shared->Prop}(h2:2<=vs.length)(wV:vs.length<128)(col:∀R:List Value->Shared->Prop,(∀(h':Heap)(tk:Tok),Grows s.heap h'->s.heap.objs.size<=h'.objs.size->R vs { s with heap:=h',toks:=tk })->wpAny (model prog w) A.in1 (collect x) R E s)(S:kg prog w A.in1.in1 s.heap vs lt κ)(q:∀(m:Nat)(l:List Nat)(h':Heap)(tk:Tok)(e:Nat)(a:Addr),(m::l).length=vs.length->(∀i∈m::l,i<vs.length)->(∀j,j<vs.length->lt j m=false)->Grows s.heap h'->s.heap.objs.size<=a->h'.get? a=some (seqObj "list" (List.toArray ((m::l).map λi=>vs.getD i Value.none)) e)->Q (.ref a) { s with heap:=h',toks:=tk }):
  wpAny (model prog w) A (call (.builtin "sorted") [x]) Q E s:=by
 refine Calls.call_function_entry kind_sorted plain_sorted entry_sorted (args_sorted1 _) ?_;unfold Builtin.«sorted»;refine wpAny_bind (m:=checkCount "sorted" 1 1 _) (wpAny_pure ?_);refine wpAny_bind (col _ λh' tk g hz=>?_);refine wpAny_bind (wpAny_newList ?_ (by rw[sizeLine_eq];lia));have ye:(h'.push (seqObj "list" vs.toArray 0)).get? h'.objs.size=some (seqObj "list" vs.toArray 0):=Heap.get?_push_size _ rfl;show wpAny _ _ _ _ _ { s with heap:=h'.push (seqObj "list" vs.toArray 0),toks:=tk };refine wpAny_bind (wpAny_holding (wpAny_call_entry slot_list_sort ⟨_,ye,rfl⟩ entry_list_sort (qM (h:=s.heap) ye (λb o e=>⟨λz=>absurd (Heap.lt_size e) (by rw[z];exact Nat.not_lt.mpr hz),Heap.get?_push_of_some _ (g b o e)⟩) S h2 wV λm l hl Cj hle=>⟨_,rfl,?_⟩) (args_list_sort _)))
 obtain⟨e,he⟩:∃e,(sortedHeap (h'.push (seqObj "list" vs.toArray 0)) h'.objs.size vs (List.toArray ((m::l).map λi=>vs.getD i Value.none))).get? h'.objs.size=some (seqObj "list" (List.toArray ((m::l).map λi=>vs.getD i Value.none)) e):=by unfold sortedHeap;obtain⟨e1,z1⟩:∃e1,((h'.push (seqObj "list" vs.toArray 0)).update h'.objs.size (Obj.mapSeq λ_=>#[])).get? h'.objs.size=some (seqObj "list" #[] e1):=⟨_,get?_update_seq ye (λ_=>#[])⟩;exact⟨_,get?_update_seq (Heap.get?_push_of_some _ (Heap.get?_push_of_some _ z1)) _⟩
 refine wpAny_pure ⟨_,rfl,q m l _ tk e _ hl Cj hle (λb o z=>?_) hz he⟩;have nb:b≠h'.objs.size:=λy=>absurd (Heap.lt_size z) (by rw[y];exact Nat.not_lt.mpr hz);unfold sortedHeap;rw[(Heap.SameBut.update _ h'.objs.size (Obj.mapSeq λ_=>List.toArray ((m::l).map λi=>vs.getD i Value.none))).2 b nb];refine Heap.get?_push_of_some _ (Heap.get?_push_of_some _ ?_);rw[(Heap.SameBut.update _ h'.objs.size (Obj.mapSeq λ_=>(#[]:Array Value))).2 b nb];exact Heap.get?_push_of_some _ (g b o z)
end
def JQ(K:PySem.W.Frag):List V->Hp->VK->Prop:=λxs H Q=>∃(b:Bool)(p:Addr)(zs:List (V×PyData)),xs=[.ref p]/\uU b K H p (zs.map (·.1))/\zs.length<128/\(∀z∈zs,aQ K H 8 z.1 z.2)/\mq (zs.map (·.2)) /\
 ∀(ys:List (V×PyData))(q:Addr),ys.length=zs.length->(∀y∈ys,y∈zs)->(∀y l,ys=y::l->∀z∈zs,bD z.2 y.2=false)->H q=none->Q (.ref q) (upd H q (.lst (ys.map (·.1))))
theorem sS{X:Cx}(K:PySem.W.Frag)(hu:X.A.units+16<cLine)(hK:X.K=K:=by rfl):dC X (.builtin "sorted") (JQ K):=by
 intro pins s σ H xs us Q I r h;obtain⟨b,p,zs,rfl,hq,wV,hd,O,q⟩:=h;by_cases h2:zs.length<2
 ·refine cT K hu hK pins s σ H _ us Q I r ⟨b,p,zs,rfl,hq,by lia,hd,O,λys a pm pw ha=>q ys a pm.length_eq (λy hy=>pm.mem_iff.mp hy) (λy l e z hz=>?_) ha⟩;subst e;have PX:=pm.mem_iff.mpr hz;have hl:=pm.length_eq;obtain rfl:l=[]:=by
   cases l with
   |nil=>rfl
   |cons _ _=>simp at hl;lia
  obtain rfl:z=y:=by simpa using PX
  cases e:bD z.2 z.2 with
  |false=>rfl
  |true =>
   have t:=O.cb _ (List.mem_map_of_mem hz) _ (List.mem_map_of_mem hz) e;rw[e]at t;exact t
 subst hK;obtain⟨u,rfl,rx⟩:=vals1 r;cases rx;obtain⟨T,o,aS,n,hT,ho,hc,zJ,r1⟩:∃(T:String)(o:Obj)(aS:List Value)(n:Nat),(T="list"\/T="tuple")/\s.heap.get? p=some o/\o.cls=.type T/\o.data=.seq aS.toArray n/\aX (zs.map (·.1)) aS:=by
  rcases hq.or with hq|hq
  ·obtain⟨aS,r1,⟨o,n,ho,hc,_,hd⟩,_⟩:=I.list hq;exact⟨"list",o,aS,n,.inl rfl,ho,hc,hd,r1⟩
  obtain⟨aS,r1,⟨o,ho,hc,n,hd⟩,_⟩:=I.tuple hq;exact⟨"tuple",o,aS,n,.inr rfl,ho,hc,hd,r1⟩
 have hlen:aS.length=zs.length:=by rw[<-r1.length,List.length_map]
 obtain⟨κ,S⟩:=jM (prog:=X.prog) (w:=X.w) (A:=X.A.in1.in1) (h:=s.heap) (vs:=aS) (ds:=zs.map (·.2)) (by rw[hlen,List.length_map]) (λj hj=>by obtain⟨x,h1,h2⟩:=r1.back (List.getElem?_eq_getElem hj);have hz:j<zs.length:=(by lia);have e1:x=zs[j].1:=(by simpa[hz]using h1.symm);have e2:(zs.map (·.2)).getD j .none=zs[j].2:=(by simp[hz]);rw[e2];exact(e1▸hd _ (List.getElem_mem hz)).reads I h2)
  (λd qA=>by obtain⟨z,hz,rfl⟩:=List.mem_map.mp qA;exact(hd z hz).lay) (λd qA=>by obtain⟨z,hz,rfl⟩:=List.mem_map.mp qA;exact(hd z hz).KN) O (by show X.A.units+1+1+12<cLine;lia)
 refine wW (by lia) (by lia) (λR k=>nX ho hc hT zJ (by rw[sizeLine_eq];lia) (k _ s.toks (λb o e=>?_) ?_)) S λm l h' tk e a hl Cj hle g hz ha=>?_
 ·have nb:b≠s.heap.objs.size:=λy=>absurd (Heap.lt_size e) (by rw[y];exact Nat.lt_irrefl _);rw[(Heap.SameBut.update _ s.heap.objs.size (Obj.mapSeq (·++aS.toArray))).2 b nb];exact Heap.get?_push_of_some _ e
 ·rw[Heap.size_update,size_push'];exact Nat.le_succ _
 have gd:∀i,i<zs.length->zs.getD i (V.bS,PyData.none)∈zs:=λi hi=>getD_mem hi;have ev:((m::l).map λi=>(zs.map (·.1)).getD i V.bS)=((m::l).map λi=>zs.getD i (V.bS,PyData.none)).map (·.1):=by
  rw[List.map_map];refine List.map_congr_left λi hi=>?_;show _=(zs.getD i (V.bS,PyData.none)).1;have hz:i<zs.length:=by have:=Cj i hi;lia
  simp[hz]
 have rv:=r1.pick (m::l) λi hi=>by rw[List.length_map];have:=Cj i hi;lia
 rw[ev]at rv;refine⟨.ref a,_,I.laid (t':=tk) (o:=.lst (((m::l).map λi=>zs.getD i (V.bS,PyData.none)).map (·.1))) (λb o eb=>g b o eb) hz ⟨by rw[List.length_map,List.length_map,hl,sizeLine_eq];lia,_,e,rv,ha⟩,rfl,q _ _ (by rw[List.length_map,hl,hlen]) (λy hy=>?_) (λy l' e z hz=>?_) (I.aw.fresh hz)⟩
 ·obtain⟨i,hi,rfl⟩:=List.mem_map.mp hy;exact gd i (by have:=Cj i hi;lia)
 rw[List.map_cons]at e;obtain⟨rfl,_⟩:=List.cons.inj e;obtain⟨j,hj,rfl⟩:=List.mem_iff_getElem.mp hz;have:=hle j (by lia);have hm:m<zs.length:=by have:=Cj m (.head _);lia
 simpa[hj,hm]using this
end L2
set_option genInjectivity false
namespace K49
open PySem L2 PyProof.Rows
theorem zz0:0<=sizeLine:=by decide
theorem zz1:1<=sizeLine:=by decide
theorem zz2:2<=sizeLine:=by decide
theorem zz3:3<=sizeLine:=by decide
theorem zz4:4<=sizeLine:=by decide
theorem zz6:6<=sizeLine:=by decide
def top(i:Nat):Stmt:=PySem.Challenge.pw_stormpost_k49_ways_or_sides_told.main.body.getD i (.Pass ⟨0,0,0,0⟩)
abbrev iH:Stmt:=top 6
abbrev eF:Stmt:=top 8
abbrev eG:Stmt:=top 9
abbrev cq:Stmt:=top 10
abbrev fg:Stmt:=top 11
abbrev jN:Stmt:=top 12
abbrev eI:Stmt:=top 20
abbrev dN:Stmt:=top 21
abbrev dO:Stmt:=top 22
abbrev eJ:Stmt:=top 24
abbrev fj:Stmt:=top 25
abbrev cU:Stmt:=top 26
abbrev fk:Stmt:=top 27
abbrev cu:Stmt:=top 30
abbrev eK:Stmt:=top 31
abbrev eM:Stmt:=top 32
abbrev br:Stmt:=top 33
abbrev fm:Stmt:=top 34
abbrev cV:Stmt:=top 35
abbrev fF:Stmt:=top 36
abbrev eN:Stmt:=top 37
abbrev iI:Stmt:=top 38
abbrev cW:Stmt:=top 39
abbrev cN:Stmt:=top 40
abbrev bO:Stmt:=top 41
abbrev eO:Stmt:=top 42
abbrev bH:Stmt:=top 43
abbrev cD:Stmt:=top 44
abbrev yH:Stmt:=top 45
def jz:Stmt->List Stmt
 |.ClassDef _ _ _ b _ _ _ _ _ _ _=>b
 |_=>[]
abbrev mz:Stmt:=(jz (top 28)).getD 0 (.Pass ⟨0,0,0,0⟩)
abbrev m7:Stmt:=(jz (top 28)).getD 1 (.Pass ⟨0,0,0,0⟩)
abbrev ko:Stmt:=(jz (top 28)).getD 2 (.Pass ⟨0,0,0,0⟩)
abbrev j0:Stmt:=(jz (top 28)).getD 3 (.Pass ⟨0,0,0,0⟩)
abbrev mG:Stmt:=(jz (top 28)).getD 4 (.Pass ⟨0,0,0,0⟩)
abbrev sT:Stmt:=(jz (top 28)).getD 5 (.Pass ⟨0,0,0,0⟩)
structure Ad where
 BadNews:Addr
 Map:Addr
 init:Addr
 pH:Addr
 pI:Addr
 j3:Addr
 ud:Addr
 Bb:Addr
structure Txt(K:PySem.W.Frag)(mg:Str->Option Value)(t:Ad):Prop where
 Dl:∃tk,mg "HOUSES"=some (.int 32 tk)
 Ck:∃tk,mg "LONGEST_NAME"=some (.int 4 tk)
 ue:∃tk,mg "MOST_BIRTH"=some (.int 9000 tk)
 uf:∃tk,mg "MOST_NAMES"=some (.int 4 tk)
 wX:∃tk,mg "MOST_NEAR"=some (.int 5 tk)
 sU:∃tk,mg "MOST_NUMBER"=some (.int 900000 tk)
 ug:∃tk,mg "MOST_QUIET"=some (.int 10 tk)
 Nh:mg "all"=none
 GW:mg "bool"=none
 JR:mg "int"=none
 bo:mg "isinstance"=none
 jA:mg "len"=none
 GX:mg "list"=none
 Bc:mg "max"=none
 Bd:mg "min"=none
 dP:mg "range"=none
 JS:mg "set"=none
 cv:mg "sorted"=none
 eQ:mg "tuple"=none
 JT:mg "BadNews"=some (.ref t.BadNews)
 MB:mg "Map"=some (.ref t.Map)
 JU:PySem.W.excIn K t.BadNews [.type "ValueError",.type "Exception",.type "BaseException",.type "object"] "ValueError.__new__"=true
 JV:kY K t.BadNews
 MC:Mk K t.Map t.init
 fi:∃fd,qH K "__init__" "Map.__init__" mz t.init fd
 pJ:Ab K t.Map
 dG:kT K t.Map "latest"
 Dm:uB K t.Map "hear" t.pH
 GY:∃fd,qH K "hear" "Map.hear" m7 t.pH fd
 Dn:uB K t.Map "news" t.pI
 GZ:∃fd,qH K "news" "Map.news" ko t.pI fd
 uh:uB K t.Map "wires" t.j3
 Dp:∃fd,qH K "wires" "Map.wires" j0 t.j3 fd
 HJ:uB K t.Map "holder" t.ud
 JW:∃fd,qH K "holder" "Map.holder" mG t.ud fd
 KS:uB K t.Map "copy" t.Bb
 MD:∃fd,qH K "copy" "Map.copy" sT t.Bb fd
 sV:PySem.W.kitOne K (.type "int") (.type "bool")=some false
 ui:PySem.W.kitOne K (.type "int") (.type "int")=some true
 qN:PySem.W.kitOne K (.type "list") (.type "list")=some true
 cP:PySem.W.kitOne K (.type "tuple") (.type "tuple")=some true
section
variable{P:Program}{w:World}{K:PySem.W.Frag}{mg:Str->Option Value}{base:Heap}{t:Ad}
theorem Dq{xs:List V}{hi:Int}(h2:0<=hi):n5 xs none (some hi)=xs.take hi.toNat:=by
 unfold n5;obtain⟨b,rfl⟩:=Int.eq_ofNat_of_zero_le h2;rw[HT.xm,HT.uD,Int.toNat_natCast,List.drop_zero,Nat.sub_zero];by_cases g:b<=xs.length
 ·rw[Nat.min_eq_left g]
 rw[Nat.min_eq_right (by lia),List.take_length,List.take_of_length_le (by lia)]
theorem yI{xs:List V}{lo:Int}(h1:0<=lo):n5 xs (some lo) none=xs.drop lo.toNat:=by
 unfold n5;obtain⟨a,rfl⟩:=Int.eq_ofNat_of_zero_le h1;rw[HT.xm,HT.uD,Int.toNat_natCast];by_cases h:a<=xs.length
 ·rw[Nat.min_eq_left h,List.take_of_length_le (by rw[List.length_drop];lia)]
 rw[Nat.min_eq_right (by lia),List.drop_length,List.drop_of_length_le (by lia),List.take_nil]
def kq(S:List Addr)(H H':Hp):Prop:=∀b o,b∉S->H b=some o->H' b=some o
theorem kq.refl{S:List Addr}{H:Hp}:kq S H H:=λ_ _ _ e=>e
theorem kq.upd{S:List Addr}{H H':Hp}{p:Addr}{o:HO}(m:kq S H H')(h:p∈S\/H p=none):kq S H (upd H' p o):=λb u n e=>by rw[aL (λz=>by rw[z]at n e;exact h.elim n λy=>by rw[y]at e;cases e)];exact m b u n e
def KU(n:Int):Prop:=0<=n/\n<32
def AM(n:Int):Prop:=n.natAbs<2 ^ 1000
theorem AM.of{n:Int}(h:-(10 ^ 60)<=n)(h2:n<=10 ^ 60):AM n:=DA h h2
def ni:Sp:=λvs H Q _=>∃n:Int,vs=[.int n]/\Q (.bl (decide (0<=n/\n<32))) H
theorem uj:aV ["number"] ["number"] (aH iH):=⟨rfl,rfl,rfl,by decide +kernel,rfl,by decide +kernel,by decide +kernel⟩
theorem uk(F:aM K mg "is_house" iH)(T:Txt K mg t):Def P w K mg base 1 "is_house" ["number"] ni:=by
 refine F.def uj (λ_ _ _ _ _ _ us hl=>match us,hl with|[_],_=>rfl) (λvs H Q E h=>?_) (λf bf A outer s H vs Q E hr h=>?_)
 ·obtain⟨n,rfl,_⟩:=h;rfl
 obtain⟨n,rfl,q⟩:=h;refine⟨_,aF (ab (AX xk lT aG (pv 0) (jx T.Dl))),?_⟩;refine⟨_,rfl,_,_,rfl,rfl,_,rfl,?_⟩;by_cases h0:0<=n
 ·rw[decide_eq_true h0];refine gh ⟨_,_,rfl,rfl,?_⟩;have e:decide (n<32)=decide (0<=n/\n<32):=by simp[h0]
  show Q (.bl (decide (n<32))) H;rw[e];exact q
 rw[decide_eq_false h0];refine c8 ?_;have e:false=decide (0<=n/\n<32):=by simp[h0]
 show Q (.bl false) H;rw[e];exact q
def gD(C:Addr):Sp:=λvs H Q E=>∃n:Int,vs=[.int n]/\AM n/\(KU n->Q .bS H)/\(¬KU n->False)
theorem qO:aV ["number"] ["number"] (aH eI):=⟨rfl,rfl,rfl,by decide +kernel,rfl,by decide +kernel,by decide +kernel⟩
theorem qP(F:aM K mg "look_house" eI)(T:Txt K mg t)(kr:Def P w K mg base 1 "is_house" ["number"] ni):Def P w K mg base 2 "look_house" ["number"] (gD t.BadNews):=by
 refine F.def qO (λ_ _ _ _ _ _ us hl=>match us,hl with|[_],_=>rfl) (λvs H Q E h=>?_) (λf bf A outer s H vs Q E hr h=>?_)
 ·obtain⟨n,rfl,_⟩:=h;rfl
 obtain⟨n,rfl,hm,q1,q2⟩:=h;refine⟨_,aF (a9 (cc (cI (aa (kr.mono (by decide)) hr aq (aA (pv 0) aC))))
   (aF (rA))
   (ae)),?_⟩
 have sl:(5000:Nat)<=sizeLine:=by decide
 refine⟨_,rfl,n,rfl,_,rfl,?_⟩;by_cases h0:0<=n/\n<32
 ·rw[decide_eq_true h0];exact c8 (q1 h0)
 rw[decide_eq_false h0];exact gh (q2 h0)
def fG(C:Addr):Sp:=λvs H Q E=>∃n lo hi:Int,vs=[.int n,.int lo,.int hi]/\AM n/\AM lo/\AM hi/\(lo<=n/\n<=hi->Q .bS H)/\(¬(lo<=n/\n<=hi)->False)
theorem pK:aV ["number","least","most"] ["number","least","most"] (aH dN):=⟨rfl,rfl,rfl,by decide +kernel,rfl,by decide +kernel,by decide +kernel⟩
theorem pL(F:aM K mg "look_bounds" dN)(T:Txt K mg t):Def P w K mg base 1 "look_bounds" ["number","least","most"] (fG t.BadNews):=by
 refine F.def pK (λ_ _ _ _ _ _ us hl=>match us,hl with|[_,_,_],_=>rfl) (λvs H Q E h=>?_) (λf bf A outer s H vs Q E hr h=>?_)
 ·obtain⟨n,lo,hi,rfl,_⟩:=h;rfl
 obtain⟨n,lo,hi,rfl,hn,Cj,Q4,q1,q2⟩:=h;refine⟨_,aF (a9 (cc (AY xk xk (pv 1) (pv 0) (pv 2)))
   (aF (rA))
   (ae)),?_⟩
 have sl:(5000:Nat)<=sizeLine:=by decide
 refine⟨_,rfl,_,rfl,_,_,rfl,rfl,_,rfl,?_⟩;by_cases h1:lo<=n
 ·refine dS h1 ?_;refine⟨_,rfl,_,_,rfl,rfl,_,rfl,?_⟩;by_cases h2:n<=hi
  ·rw[decide_eq_true h2];exact c8 (q1 ⟨h1,h2⟩)
  rw[decide_eq_false h2];exact gh (q2 λz=>h2 z.2)
 refine dR h1 ?_;exact⟨_,rfl,gh (q2 λz=>h1 z.1)⟩
theorem rH{α:Type}{l:List α}:l.reverse.Nodup↔l.Nodup:=by unfold List.Nodup;rw[List.pairwise_reverse];exact⟨λh=>h.imp λe z=>e z.symm,λh=>h.imp λe z=>e z.symm⟩
def fH(K:PySem.W.Frag)(C:Addr):Sp:=λvs H Q E=>∃(b:Bool)(l:Addr)(ks:List Key)(m:Int),vs=[.ref l,.int m]/\uU b K H l (ks.map kV)/\ks.length<=1000/\0<=m/\m<=1000 /\
 ((ks.length:Int)<=m/\ks.Nodup->∀H',aI H H'->Q .bS H')/\(¬((ks.length:Int)<=m/\ks.Nodup)->False)
theorem pM:aV ["things","most"] ["things","most"] (aH dO):=⟨rfl,rfl,rfl,by decide +kernel,rfl,by decide +kernel,by decide +kernel⟩
theorem pN(F:aM K mg "look_unlike" dO)(T:Txt K mg t):Def P w K mg base 1 "look_unlike" ["things","most"] (fH K t.BadNews):=by
 refine F.def pM (λ_ _ _ _ _ _ us hl=>match us,hl with|[_,_],_=>rfl) (λvs H Q E h=>?_) (λf bf A outer s H vs Q E hr h=>?_)
 ·obtain⟨b,l,ks,m,rfl,_⟩:=h;rfl
 obtain⟨b,l,ks,m,rfl,hl,hk,m0,m1,q1,q2⟩:=h;refine⟨_,aE (a9 (aW oU (aZ (bW K) (by rfl) T.jA boot_len (aA (pv 0) aC)) (pv 1) (ah _))
   (aF (rA))
   (ae))
  (aF (a9 (aW uA (aZ (zd P w) (by rfl) T.jA boot_len (aA (eU (zc P w K) (by rfl) T.JS boot_set (aA (pv 0) aC)) aC)) (aZ (bW K) (by rfl) T.jA boot_len (aA (pv 0) aC)) (ah _))
   (aF (rA))
   (ae))),?_⟩
 have sl:(5000:Nat)<=sizeLine:=by decide
 refine⟨_,rfl,l,_,rfl,hl.or,_,rfl,_,_,rfl,rfl,_,rfl,?_⟩;rw[List.length_map];have sb:2000<scanBound:=by decide
 by_cases h1:m<(ks.length:Nat)
 ·exact dS h1 (q2 λr=>by have:=r.1;lia)
 refine dR h1 ?_;refine⟨_,rfl,l,ks,rfl,hl.or,by lia,λp hp=>?_⟩;have s1:=(aI.refl H).new (o:=yB P w p ks.reverse) hp;refine⟨p,_,rfl,aB,_,rfl,l,_,rfl,(hl.same s1).or,rfl,_,rfl,?_⟩;rw[List.length_map];by_cases h2:ks.Nodup
 ·have e:=(oy ks.reverse).mpr (rH.mpr h2);rw[List.length_reverse]at e;refine nR (by rw[e]) ?_;exact q1 ⟨by lia,h2⟩ _ s1
 refine qz (λe=>h2 (rH.mp ((oy ks.reverse).mp (by have:=V.int.inj e;rw[List.length_reverse];lia)))) ?_;exact q2 λr=>h2 r.2
def ME(c:Nat):Prop:=97<=c/\c<=122
instance (c:Nat):Decidable (ME c):=by unfold ME;infer_instance
def Ga(cs:List Nat):Prop:=(1<=cs.length/\cs.length<=4)/\∀c∈cs,ME c
instance (cs:List Nat):Decidable (Ga cs):=by unfold Ga;infer_instance
def MF(cs:List Nat):V:=.str (sL cs)
def JX(ns:List (List Nat)):Prop:=ns.length<=4/\ns.Nodup/\∀n∈ns,Ga n
def kH(K:PySem.W.Frag)(C:Addr):Sp:=λvs H Q _=>∃(b:Bool)(l:Addr),vs=[.ref l]/\uU b K H l []/\∀H',aI H H'->Q .bS H'
theorem kI:aV ["names","name"] ["names"] (aH eJ):=⟨rfl,rfl,rfl,by decide +kernel,rfl,by decide +kernel,by decide +kernel⟩
theorem qQ(F:aM K mg "look_names" eJ)(T:Txt K mg t)(bt:Def P w K mg base 1 "look_unlike" ["things","most"] (fH K t.BadNews)):Def P w K mg base 2 "look_names" ["names"] (kH K t.BadNews):=by
 refine F.def kI (λ_ _ _ _ _ _ us hl=>match us,hl with|[_],_=>rfl) (λvs H Q E h=>?_) (λf bf A outer s H vs Q E hr h=>?_)
 ·obtain⟨b,l,rfl,_⟩:=h;rfl
 obtain⟨b,l,rfl,hl,q⟩:=h;refine⟨_,aE (bL (aa (bt.mono (by decide)) hr aq (aA (pv 0) (aA (jx T.uf) aC))))
  (aF (PS.rj (bJ PassesOwn.never rfl (xy K (pv 0)) (aK (i:=1) kI.nd rfl (Or.inl rfl))
   (aF (a9 (cc (cI (Ic)))
    (aF (rA))
    (ae)))))),?_⟩
 refine⟨_,rfl,b,l,[],4,rfl,hl,by decide,by decide,by decide,λ_ H1 s1=>?_,λz=>z ⟨by decide,List.Pairwise.nil⟩⟩;have E2:=hl.same s1;refine⟨_,rfl,b,l,_,rfl,E2,DS (b:=b) (K:=K) (a:=l) (xs:=[]) (λi σ H'=>aI H1 H') (aI.refl _) (λi σ H' _ e=>E2.same e) (λi y σ H' hi _=>by cases hi) ?_⟩;exact λσ H' s2=>q _ (s1.trans s2)
structure Wr where
 o:Int
 q:Int
 a:Int
 b:Int
def m9(w:Wr):PyData:=.tuple [.int w.o,.int w.q,.tuple [.int w.a,.int w.b]]
def wY(w:Wr):Prop:=KU w.o/\(1<=w.q/\w.q<=10)/\(1<=w.a/\w.a<=9000)/\(1<=w.b/\w.b<=9000)
def KW(w:Wr):Prop:=AM w.o/\AM w.q/\AM w.a/\AM w.b
theorem wY.PY{w:Wr}(h:wY w):KW w:=⟨.of (by have:=h.1.1;lia) (by have:=h.1.2;lia),.of (by have:=h.2.1.1;lia) (by have:=h.2.1.2;lia),.of (by have:=h.2.2.1.1;lia) (by have:=h.2.2.1.2;lia),.of (by have:=h.2.2.2.1;lia) (by have:=h.2.2.2.2;lia)⟩
theorem mH{K:PySem.W.Frag}{H:Hp}{n:Nat}{v:V}{i:Int}(h:aQ K H n v (.int i)):v=.int i:=by cases h;rfl
theorem MG{K:PySem.W.Frag}{H:Hp}{n:Nat}{v:V}{x:Str}(h:aQ K H n v (.str x)):v=.str x:=by cases h;rfl
theorem sW{K:PySem.W.Frag}{H:Hp}{n:Nat}{v:V}{ds:List PyData}(h:aQ K H (n+1) v (.tuple ds)):∃a xs,v=.ref a/\ar K H a xs/\xs.length=ds.length/\∀(i:Nat)(x:V)(d:PyData),xs[i]?=some x->ds[i]?=some d->aQ K H n x d:=by
 cases h with
 |tup ha hl h=>exact⟨_,_,rfl,ha,hl,h⟩
def wZ(K:PySem.W.Frag)(H:Hp)(v:V)(w:Wr):Prop:=aQ K H 2 v (m9 w)
theorem wZ.out{K:PySem.W.Frag}{H:Hp}{v:V}{w:Wr}(h:wZ K H v w):∃a p,v=.ref a/\ar K H a [.int w.o,.int w.q,.ref p]/\ar K H p [.int w.a,.int w.b]:=by
 obtain⟨a,xs,rfl,h1,h2,h3⟩:=sW h
 match xs,h2 with
 |[x,y,z],_ =>
  obtain rfl:=mH (h3 0 x _ rfl rfl);obtain rfl:=mH (h3 1 y _ rfl rfl);obtain⟨p,ys,rfl,g1,g2,g3⟩:=sW (h3 2 z _ rfl rfl)
  match ys,g2 with
  |[x,y],_ =>
   obtain rfl:=mH (g3 0 x _ rfl rfl);obtain rfl:=mH (g3 1 y _ rfl rfl);exact⟨a,p,rfl,h1,g1⟩
theorem wZ.mk{K:PySem.W.Frag}{H:Hp}{a p:Addr}{w:Wr}(h1:ar K H a [.int w.o,.int w.q,.ref p])(h2:ar K H p [.int w.a,.int w.b]):wZ K H (.ref a) w:=by
 refine .tup h1 rfl λi x d e1 e2=>?_
 match i with
 |0=>cases e1;cases e2;exact .int _
 |1=>cases e1;cases e2;exact .int _
 |2 =>
  cases e1;cases e2;refine .tup h2 rfl λi x d e1 e2=>?_
  match i with
  |0=>cases e1;cases e2;exact .int _
  |1=>cases e1;cases e2;exact .int _
  |i+2=>simp at e1
 |i+3=>simp at e1
def mI(K:PySem.W.Frag)(C:Addr):Sp:=λvs H Q E=>∃(v:V)(w:Wr),vs=[v]/\wZ K H v w/\KW w/\(wY w->∀(r:Addr) H',aI H H'->wZ K H' (.ref r) w->Q (.ref r) H')/\(¬wY w->False)
theorem mJ:aV ["wire","birth"] ["wire"] (aH fj):=⟨rfl,rfl,rfl,by decide +kernel,rfl,by decide +kernel,by decide +kernel⟩
theorem sX(F:aM K mg "made_wire" fj)(T:Txt K mg t)(cE:Def P w K mg base 2 "look_house" ["number"] (gD t.BadNews))(bU:Def P w K mg base 1 "look_bounds" ["number","least","most"] (fG t.BadNews)):Def P w K mg base 3 "made_wire" ["wire"] (mI K t.BadNews):=by
 refine F.def mJ (λ_ _ _ _ _ _ us hl=>match us,hl with|[_],_=>rfl) (λvs H Q E h=>?_) (λf bf A outer s H vs Q E hr h=>?_)
 ·obtain⟨v,x,rfl,_⟩:=h;rfl
 obtain⟨v,x,rfl,hw,hs,q1,q2⟩:=h;refine⟨_,aE (bL (aa (cE.mono (by decide)) hr aq (aA (aO (aT K) (pv 0) aG (λ_ _=>rfl)) aC)))
  (aE (bL (aa (bU.mono (by decide)) hr aq (aA (aO (aT K) (pv 0) aG (λ_ _=>rfl)) (aA aG (aA (jx T.ug) aC)))))
  (aE (PS.rj (bJ PassesOwn.never rfl (oH K (aO (aT K) (pv 0) aG (λ_ _=>rfl))) (aK (i:=1) mJ.nd rfl (Or.inl rfl))
   (aF (bL (aa (bU.mono (by decide)) hr aq (aA (pv 1) (aA aG (aA (jx T.ue) aC))))))))
  (aF (ab (ak (aA (aO (aT K) (pv 0) aG (λ_ _=>rfl)) (aA (aO (aT K) (pv 0) aG (λ_ _=>rfl)) (aA (eU (dU K) (by rfl) T.eQ boot_tuple (aA (aO (aT K) (pv 0) aG (λ_ _=>rfl)) aC)) aC)))))))),?_⟩
 obtain⟨a,p,rfl,h1,h2⟩:=hw.out;refine⟨_,rfl,a,_,_,_,rfl,rfl,h1,rfl,x.o,rfl,hs.1,λg1=>?_,λg1=>q2 λz=>g1 z.1⟩;refine⟨_,rfl,a,_,_,_,rfl,rfl,h1,rfl,x.q,1,10,rfl,hs.2.1,.of (by decide) (by decide),.of (by decide) (by decide),λg2=>?_,λg2=>q2 λz=>g2 z.2.1⟩;refine⟨_,rfl,a,_,_,_,rfl,rfl,h1,rfl,p,rfl,⟨_,h2⟩,xY (K:=K) (a:=p) (xs:=[.int x.a,.int x.b]) (λi σ H'=>∃v:Option V,σ=[some (.ref a),v]/\H'=H/\(1<=i->1<=x.a/\x.a<=9000)/\(2<=i->1<=x.b/\x.b<=9000)) ⟨none,rfl,rfl,λz=>by lia,λz=>by lia⟩ (λi σ H' _ ⟨_,_,e,_⟩=>by rw[e];exact h2) ?_ ?_⟩
 ·rintro i y σ H' hi ⟨v,rfl,rfl,k1,k2⟩
  match i,hi with
  |0,hi =>
   cases hi;refine⟨_,rfl,x.a,1,9000,rfl,hs.2.2.1,.of (by decide) (by decide),.of (by decide) (by decide),λg=>⟨_,rfl,rfl,λ_=>g,λz=>by lia⟩,λg=>q2 λz=>g z.2.2.1⟩
  |1,hi =>
   cases hi;refine⟨_,rfl,x.b,1,9000,rfl,hs.2.2.2,.of (by decide) (by decide),.of (by decide) (by decide),λg=>⟨_,rfl,rfl,λ_=>k1 (by lia),λ_=>g⟩,λg=>q2 λz=>g z.2.2.2⟩
  |i+2,hi=>simp at hi
 rintro σ H' ⟨v,rfl,rfl,k1,k2⟩;refine⟨_,rfl,a,_,_,_,rfl,rfl,h1,rfl,_,rfl,a,_,_,_,rfl,rfl,h1,rfl,_,rfl,a,_,_,_,rfl,rfl,h1,rfl,p,_,rfl,.inr ⟨h2,?_⟩⟩;refine⟨zz3,λr wQ=>?_⟩;have s1:=(aI.refl H').new (o:=.tup [.int x.o,.int x.q,.ref p]) wQ;exact q1 ⟨g1,g2,k1 (by show 1<=2;decide),k2 (by show 2<=2;decide)⟩ r _ s1 (.mk (.inl (.inl aB)) (s1.tup h2))
theorem Gb{K:PySem.W.Frag}{g:TG}{tt:TT}{te:TE}{D:Addr}{σ:L2.St}{H:Hp}{Q:VK}{b:Bool}{a:Addr}{xs:List V}(Pv:Nat->L2.St->Hp->Prop)(h0:Pv 0 σ H)(hl:∀i σ H,i<=xs.length->Pv i σ H->uU b K H a xs)(hs:∀(i:Nat)(x:V)(σ:L2.St)(H:Hp)(N:L2.St->Hp->Prop),(∀σ H,Pv (i+1) σ H->N σ H)->xs[i]?=some x->Pv i σ H->g x σ H λσ3 H3=>tt σ3 H3 λb H4 =>
   if b=true then te σ3 H4 λv H5=>∃ys,H5 D=some (.lst ys)/\ys.length<sizeLine/\N σ3 (upd H5 D (.lst (ys++[v])))else N σ3 H4)(hd:∀σ H,Pv xs.length σ H->Q (.ref D) H):oh (GC b K a xs) g tt te D σ H Q:=by
 refine⟨λi m σ H=>m=xs.length-i/\i<=xs.length/\Pv i σ H,⟨xs.length,by simp,Nat.zero_le _,h0⟩,?_⟩;rintro i m σ' H' ⟨rfl,hi,p⟩;by_cases bq:i<xs.length
 ·refine .inr ⟨⟨hl i σ' H' hi p,bq⟩,λx H2 y=>?_⟩;obtain⟨e,y⟩:=y;subst e;exact hs i x σ' _ (λσ3 H3=>∃m',m'<xs.length-i/\m'=xs.length-(i+1)/\i+1<=xs.length/\Pv (i+1) σ3 H3) (λσ3 H3 z=>⟨xs.length-(i+1),by lia,rfl,bq,z⟩) y p
 have e:i=xs.length:=by lia
 subst e;exact .inl ⟨⟨hl _ σ' H' hi p,Nat.le_refl _⟩,hd σ' H' p⟩
def sY{α:Type}(lt:α->α->Bool)(x:α):List α->List α
 |[]=>[x]
 |y::r=>if lt y x=true then y::sY lt x r else x::y::r
def MH{α:Type}(lt:α->α->Bool)(l:List α):List α:=l.foldl (λacc x=>sY lt x acc) []
theorem j4{α:Type}{lt:α->α->Bool}{x:α}:∀l:List α,(sY lt x l).Perm (x::l)
 |[]=>.refl _
 |y::r=>by
  unfold sY;split
  ·exact((j4 r).cons y).trans (.swap x y r)
  exact .refl _
theorem rJ{α:Type}{lt:α->α->Bool}{S:α->Prop}(cb:∀a b,S a->S b->lt a b=true->lt b a=false)(lz:∀a b c,S a->S b->S c->lt b a=false->lt c b=false->lt c a=false){x:α}(hx:S x):
  ∀l:List α,(∀y∈l,S y)->l.Pairwise (λa b=>lt b a=false)->(sY lt x l).Pairwise (λa b=>lt b a=false)
 |[],_,_=>List.pairwise_singleton _ _
 |y::r,hl,h=>by
  obtain⟨h1,h2⟩:=List.pairwise_cons.mp h;have hy:=hl y List.mem_cons_self;unfold sY;split
  ·rename_i c;refine List.pairwise_cons.mpr ⟨λz hz=>?_,rJ cb lz hx r (λz hz=>hl z (List.mem_cons_of_mem _ hz)) h2⟩;rcases List.mem_cons.mp ((j4 r).mem_iff.mp hz)with rfl|hz
   ·exact cb _ _ hy hx c
   exact h1 z hz
  rename_i c;have c:lt y x=false:=by simpa using c
  refine List.pairwise_cons.mpr ⟨λz hz=>?_,h⟩;rcases List.mem_cons.mp hz with rfl|hz
  ·exact c
  exact lz x y z hx hy (hl z (List.mem_cons_of_mem _ hz)) c (h1 z hz)
theorem yJ{α:Type}{lt:α->α->Bool}{S:α->Prop}(cb:∀a b,S a->S b->lt a b=true->lt b a=false)(lz:∀a b c,S a->S b->S c->lt b a=false->lt c b=false->lt c a=false):
  ∀(l acc:List α),(∀y∈l,S y)->(∀y∈acc,S y)->acc.Pairwise (λa b=>lt b a=false)->(l.foldl (λacc x=>sY lt x acc) acc).Perm (acc++l)/\(l.foldl (λacc x=>sY lt x acc) acc).Pairwise (λa b=>lt b a=false)
 |[],acc,_,_,h=>⟨by rw[List.append_nil];exact .refl _,h⟩
 |x::l,acc,hl,ha,h=>by have hx:=hl x List.mem_cons_self;have:=yJ cb lz l (sY lt x acc) (λy hy=>hl y (List.mem_cons_of_mem _ hy)) (λy hy=>(List.mem_cons.mp ((j4 acc).mem_iff.mp hy)).elim (λe=>e▸hx) (ha y)) (rJ cb lz hx acc ha h);refine⟨this.1.trans (((j4 acc).append_right l).trans ?_),this.2⟩;exact List.perm_middle.symm
def sD(ds:List PyData):List PyData:=MH bD ds
theorem fq{ds:List PyData}(O:mq ds):(sD ds).Perm ds/\(sD ds).Pairwise (λa b=>bD b a=false) :=
 yJ (lt:=bD) (S:=(·∈ds)) (λa b ha hb=>O.cb a ha b hb) (λa b c ha hb hc=>O.lz a ha b hb c hc) ds [] (λ_ h=>h) (λ_ h=>absurd h List.not_mem_nil) .nil
theorem zf{ds es:List PyData}(O:mq ds)(PZ:∀d∈ds,∀e∈ds,bD d e=false->bD e d=false->d=e)(hp:es.Perm ds)(hs:es.Pairwise (λa b=>bD b a=false)):es=sD ds :=
 List.Perm.eq_of_pairwise (le:=λa b=>bD b a=false) (λa b ha hb h1 h2=>PZ a (hp.mem_iff.mp ha) b ((fq O).1.mem_iff.mp hb) h2 h1) hs (fq O).2 (hp.trans (fq O).1.symm)
theorem mK{α:Type}{κ:Type}[LT κ][DecidableLT κ](Pa:∀a b:κ,a<b->¬b<a)(lz:∀a b c:κ,¬b<a->¬c<b->¬c<a){key:α->κ}{f:α->PyData}(hk:∀x y,bD (f x) (f y)=decide (key x<key y))(ok:∀x y,o4 (f x) (f y)=true){l:List α}(kd:E1 (l.map f)):mq (l.map f)where
 kd:=kd
 ok:=λd hd e he=>by obtain⟨x,_,rfl⟩:=List.mem_map.mp hd;obtain⟨y,_,rfl⟩:=List.mem_map.mp he;exact ok x y
 cb:=λd hd e he h=>by obtain⟨x,_,rfl⟩:=List.mem_map.mp hd;obtain⟨y,_,rfl⟩:=List.mem_map.mp he;rw[hk,decide_eq_true_iff]at h;rw[hk,decide_eq_false_iff_not];exact Pa _ _ h
 lz:=λd hd e he g hg h1 h2=>by obtain⟨x,_,rfl⟩:=List.mem_map.mp hd;obtain⟨y,_,rfl⟩:=List.mem_map.mp he;obtain⟨z,_,rfl⟩:=List.mem_map.mp hg;rw[hk,decide_eq_false_iff_not]at h1 h2 ⊢;exact lz _ _ _ h1 h2
def zg(w:Wr):List Int:=[w.o,w.q,w.a,w.b]
theorem Be(v w:Wr):bD (m9 v) (m9 w)=decide (zg v<zg w):=by obtain⟨o,q,a,b⟩:=v;obtain⟨o',q',a',b'⟩:=w;simp only[m9,zg,bD,d0,PyData.eqv,PyData.eqvAll,List.cons_lt_cons_iff];by_cases h1:o=o'<;>by_cases h2:q=q'<;>by_cases h3:a=a'<;>by_cases h4:b=b'<;>simp[h1,h2,h3,h4]
theorem Gc(v w:Wr):o4 (m9 v) (m9 w)=true:=by simp[m9,o4,kf]
theorem Ge(ws:List Wr):mq (ws.map m9):=mK (κ:=List Int) (λa b h=>List.lt_asymm h) (λa b c h1 h2=>List.not_lt.mpr (List.le_trans (List.not_lt.mp h1) (List.not_lt.mp h2))) Be Gc (.rows λd hd=>by obtain⟨w,_,rfl⟩:=List.mem_map.mp hd;exact⟨_,_,rfl⟩)
theorem MI(ws:List Wr):∀d∈ws.map m9,∀e∈ws.map m9,bD d e=false->bD e d=false->d=e:=by intro d hd e he h1 h2;obtain⟨v,_,rfl⟩:=List.mem_map.mp hd;obtain⟨w,_,rfl⟩:=List.mem_map.mp he;rw[Be,decide_eq_false_iff_not]at h1 h2;have k:zg v=zg w:=List.le_antisymm (List.not_lt.mp h2) (List.not_lt.mp h1);obtain⟨o,q,a,b⟩:=v;obtain⟨o',q',a',b'⟩:=w;simp only[zg,List.cons.injEq,and_true]at k;obtain⟨rfl,rfl,rfl,rfl⟩:=k;rfl
def AN(cs:List Nat):PyData:=.str (sL cs)
theorem Gf(m n:List Nat):bD (AN m) (AN n)=decide (m<n):=by simp[AN,bD,sL]
theorem JY(ns:List (List Nat)):mq (ns.map AN):=mK (κ:=List Nat) (key:=id) (λa b h=>List.lt_asymm h) (λa b c h1 h2=>List.not_lt.mpr (List.le_trans (List.not_lt.mp h1) (List.not_lt.mp h2))) Gf (λx y=>by simp[AN,o4]) (.strs λd hd=>by obtain⟨w,_,rfl⟩:=List.mem_map.mp hd;exact⟨_,rfl⟩)
def nA(house:Int)(ws:List Wr):Prop:=(∀w∈ws,wY w)/\ws.length<=5/\(ws.map (·.o)).Nodup/\house∉ws.map (·.o)
theorem um{house:Int}{ws vs:List Wr}(h:vs.Perm ws):nA house vs↔nA house ws:=by unfold nA;rw[h.length_eq,(h.map (·.o)).nodup_iff,(h.map (·.o)).mem_iff];exact⟨λz=>⟨λw hw=>z.1 w (h.mem_iff.mpr hw),z.2⟩,λz=>⟨λw hw=>z.1 w (h.mem_iff.mp hw),z.2⟩⟩
theorem wZ.same{K:PySem.W.Frag}{H H':Hp}{v:V}{w:Wr}(h:wZ K H v w)(s:aI H H'):wZ K H' v w:=aQ.same h s
def jO(K:PySem.W.Frag)(H:Hp)(zs:List (V×Wr)):Prop:=∀z∈zs,wZ K H z.1 z.2
theorem jO.same{K:PySem.W.Frag}{H H':Hp}{zs:List (V×Wr)}(h:jO K H zs)(s:aI H H'):jO K H' zs:=λz hz=>(h z hz).same s
theorem jO.tup{K:PySem.W.Frag}{H:Hp}{zs:List (V×Wr)}{a:Addr}(h:jO K H zs)(ha:ar K H a (zs.map (·.1))):aQ K H 3 (.ref a) (.tuple (zs.map λz=>m9 z.2)):=by
 refine .tup ha (by simp) λi x d e1 e2=>?_;rw[List.getElem?_map]at e1 e2;cases e:zs[i]? with
 |none=>rw[e]at e1;cases e1
 |some z=>rw[e]at e1 e2;cases e1;cases e2;exact h z (List.mem_of_getElem? e)
theorem perm_back{α β:Type}(g:α->β){l m:List β}(h:l.Perm m):∀zs:List α,m=zs.map g->∃us:List α,us.Perm zs/\l=us.map g:=by
 induction h with
 |nil=>intro zs e;cases zs with
  |nil=>exact⟨[],.refl _,rfl⟩
  |cons z r=>cases e
 |cons x _ ih=>intro zs e;cases zs with
  |nil=>cases e
  |cons z r =>
   obtain⟨e1,e2⟩:=List.cons.inj e;obtain⟨us,h1,h2⟩:=ih r e2;exact⟨z::us,h1.cons z,by rw[List.map_cons,<-h2,e1]⟩
 |swap x y l=>intro zs e;cases zs with
  |nil=>cases e
  |cons z r=>cases r with
   |nil=>cases e
   |cons z2 r =>
    obtain⟨e1,e2⟩:=List.cons.inj e;obtain⟨e3,e4⟩:=List.cons.inj e2;exact⟨z2::z::r,.swap z z2 r,by rw[List.map_cons,List.map_cons,<-e4,e1,e3]⟩
 |trans _ _ Pb Pc =>
  intro zs e;obtain⟨us,h1,h2⟩:=Pc zs e;obtain⟨vs,h3,h4⟩:=Pb us h2;exact⟨vs,h3.trans h1,h4⟩
theorem Bf{H:Hp}{D:Addr}{xs:List V}{o:HO}(h:H D=some (.lst xs)):Kept H (upd H D o):=λa ys e=>by
 have ne:a≠D:=by rintro rfl;rcases e with e|⟨u,e⟩<;>(rw[h]at e;cases e)
 rcases e with e|⟨u,e⟩
 ·exact .inl (by rw[aL ne];exact e)
 exact .inr ⟨u,by rw[aL ne];exact e⟩
theorem Bg(w:Wr):vL (m9 w)=true:=by simp[m9,vL,cm]
theorem wZ.kept{K:PySem.W.Frag}{H H':Hp}{v:V}{w:Wr}(h:wZ K H v w)(k:Kept H H'):wZ K H' v w:=aQ.kept h k (Bg w)
theorem jO.kept{K:PySem.W.Frag}{H H':Hp}{zs:List (V×Wr)}(h:jO K H zs)(k:Kept H H'):jO K H' zs:=λz hz=>(h z hz).kept k
theorem Bh(ns:List Int):ns.map V.int=(ns.map Sum.inl).map kV:=by rw[List.map_map];rfl
theorem rK{ns:List Int}:(ns.map (Sum.inl:Int->Key)).Nodup↔ns.Nodup:=by unfold List.Nodup;rw[List.pairwise_map];exact⟨λh=>h.imp λe z=>e (by rw[z]),λh=>h.imp λe z=>e (Sum.inl.inj z)⟩
theorem gp(n:Int)(ns:List Int):Cg (.int n) (ns.map V.int)=decide (n∈ns):=by
 unfold Cg;rw[Bool.eq_iff_iff,List.any_map,List.any_eq_true,decide_eq_true_iff];constructor
 ·rintro⟨x,hx,h⟩;have:x=n:=by simpa[vk]using h
  exact this▸hx
 intro h;exact⟨n,h,by simp[vk]⟩
theorem eV(ns:List Int):(ns.map V.int).all i8=true:=by rw[List.all_map,List.all_eq_true];intro _ _;rfl
def mL(K:PySem.W.Frag)(C:Addr):Sp:=λvs H Q E=>∃(b:Bool)(l:Addr)(zs:List (V×Wr))(house:Int),vs=[.int house,.ref l]/\uU b K H l (zs.map (·.1))/\jO K H zs/\zs.length<=50/\(∀z∈zs,KW z.2) /\
 (nA house (zs.map (·.2))->∀(r:Addr)(H':Hp),aI H H'->aQ K H' 3 (.ref r) (.tuple (sD ((zs.map (·.2)).map m9)))->Q (.ref r) H')/\(¬nA house (zs.map (·.2))->False)
theorem iJ:aV ["house","near","wires","others"] ["house","near"] (aH cU):=⟨rfl,rfl,rfl,by decide +kernel,rfl,by decide +kernel,by decide +kernel⟩
set_option maxHeartbeats 1000000 in
theorem sZ(F:aM K mg "made_near" cU)(T:Txt K mg t)(jP:Def P w K mg base 3 "made_wire" ["wire"] (mI K t.BadNews))(bt:Def P w K mg base 1 "look_unlike" ["things","most"] (fH K t.BadNews)):Def P w K mg base 4 "made_near" ["house","near"] (mL K t.BadNews):=by
 refine F.def iJ (λ_ _ _ _ _ _ us hl=>match us,hl with|[_,_],_=>rfl) (λvs H Q E h=>?_) (λf bf A outer s H vs Q E hr h=>?_)
 ·obtain⟨b,l,zs,house,rfl,_⟩:=h;rfl
 obtain⟨b,l,zs,house,rfl,hl,hw,hn,hs,q1,q2⟩:=h;refine⟨_,aE (aY (i:=2) iJ.nd rfl (Or.inl rfl) (aZ (cT K (df hr)) (by rfl) T.cv boot_sorted (aA (i9 rfl (Nc:=["wire"]) (ix:=[none]) (cJ (aH cU) ["house","near","wires","others"] rfl rfl (by decide +kernel)) (xy K (pv 1)) (λC fp s H=>⟨(aK (i:=0) (show(["wire"]:List Str).Nodup by decide +kernel) rfl (Or.inl rfl)),cg,(aa (jP.mono (by decide)) hr aq (aA (pv 0) aC))⟩)) aC)))
  (aE (lb (i:=3) iJ.nd rfl (Or.inl rfl) rfl (Nc:=["wire"]) (ix:=[none]) (cJ (aH cU) ["house","near","wires","others"] rfl rfl (by decide +kernel)) (bC K (pv 2)) (λC fp s H=>⟨(aK (i:=0) (show(["wire"]:List Str).Nodup by decide +kernel) rfl (Or.inl rfl)),cg,(aO (aT K) (pv 0) aG (λ_ _=>rfl))⟩))
  (aE (bL (aa (bt.mono (by decide)) hr aq (aA (pv 3) (aA (jx T.wX) aC))))
  (aE (a9 (aW qt (pv 0) (pv 3) (by rfl))
   (aF (rA))
   (ae))
  (aF (ab (eU (dU K) (by rfl) T.eQ boot_tuple (aA (pv 2) aC))))))),?_⟩
 have hsz:(2000:Nat)<=sizeLine:=by decide
 refine⟨_,rfl,b,l,_,rfl,hl,λD hD=>?_⟩;refine Gb (b:=b) (K:=K) (a:=l) (xs:=zs.map (·.1)) (λi σ H'=>∃(v:Option V)(us:List (V×Wr)),σ=[v]/\aI H H'/\H' D=some (.lst (us.map (·.1)))/\jO K H' us/\us.map (·.2)=(zs.take i).map (·.2)/\∀z∈zs.take i,wY z.2)
  ⟨none,[],rfl,(aI.refl _).new hD,aB,λz hz=>absurd hz List.not_mem_nil,rfl,λz hz=>absurd hz List.not_mem_nil⟩ (λi σ H' _ ⟨_,_,_,s1,_⟩=>hl.same s1) ?_ ?_
 ·rintro i x σ H' N hN hi ⟨v,us,rfl,s1,e1,hu,De,hg⟩;rw[List.getElem?_map]at hi;cases ez:zs[i]? with
  |none=>rw[ez]at hi;cases hi
  |some z =>
   rw[ez]at hi;obtain rfl:z.1=x:=Option.some.inj hi;have hm:z∈zs:=List.mem_of_getElem? ez;have GN:i<zs.length:=(List.getElem?_eq_some_iff.mp ez).1;refine ck ?_;refine⟨_,rfl,z.1,z.2,rfl,(hw z hm).same s1,hs z hm,λg r H2 s2 wa=>?_,λg=>?_⟩
   ·have Q5:us.length=i:=by have:=congrArg List.length De;rw[List.length_map,List.length_map,List.length_take]at this;lia
    refine⟨_,s2 _ _ e1,by rw[List.length_map];lia,hN _ _ ⟨_,us++[(.ref r,z.2)],rfl,(s1.trans s2).put hD,by rw[aB,List.map_append];rfl,λy hy=>?_,?_,λy hy=>?_⟩⟩
    ·have kp:=Bf (o:=.lst (us.map (·.1)++[V.ref r])) (s2 _ _ e1);rcases List.mem_append.mp hy with h|h
     ·exact((hu y h).same s2).kept kp
     rw[List.mem_singleton.mp h];exact wa.kept kp
    ·rw[take_succ ez,List.map_append,List.map_append,De];rfl
    rw[take_succ ez]at hy;rcases List.mem_append.mp hy with h|h
    ·exact hg y h
    rw[List.mem_singleton.mp h];exact g
   exact(q2 λz'=>g (z'.1 _ (List.mem_map.mpr ⟨z,hm,rfl⟩))).elim
 rintro σ H' ⟨v,us,rfl,s1,e1,hu,De,hg⟩;rw[List.length_map]at De hg;rw[List.take_length]at De hg;have Pd:us.length=zs.length:=by
  have:=congrArg List.length De
  rwa [List.length_map,List.length_map]at this
 refine⟨true,D,us.map λz=>(z.1,m9 z.2),rfl,by rw[List.map_map];exact af.of e1,by rw[List.length_map];lia,λy hy=>?_,?_,λys r hp yK wQ=>?_⟩
 ·obtain⟨z,hz,rfl⟩:=List.mem_map.mp hy;exact aQ.up (hu z hz) (by decide)
 ·have:=Ge (us.map (·.2));rw[List.map_map]at this ⊢;exact this
 obtain⟨vs,Bi,rfl⟩:=perm_back (λz:V×Wr=>(z.1,m9 z.2)) hp us rfl;have Ni:vs.length=zs.length:=Bi.length_eq.trans Pd;have MJ:(vs.map (·.2)).Perm (zs.map (·.2)):=by rw[<-De];exact Bi.map _
 have es:vs.map (λz=>m9 z.2)=sD ((zs.map (·.2)).map m9):=by
  refine zf (Ge _) (MI _) ?_ ?_
  ·have:=MJ.map m9;rw[List.map_map]at this;exact this
  rw[List.pairwise_map]at yK ⊢;exact yK
 have s2:=s1.new (o:=.lst ((vs.map λz=>(z.1,m9 z.2)).map (·.1))) wQ;have e2:(upd H' r (.lst ((vs.map λz=>(z.1,m9 z.2)).map (·.1)))) r=some (.lst (vs.map (·.1))):=by rw[aB,List.map_map];rfl
 have zh:jO K (upd H' r (.lst ((vs.map λz=>(z.1,m9 z.2)).map (·.1)))) vs:=λz hz=>(hu z (Bi.mem_iff.mp hz)).same ((aI.refl H').new wQ);generalize upd H' r (.lst ((vs.map λz=>(z.1,m9 z.2)).map (·.1)))=H1 at s2 e2 zh ⊢;refine⟨_,rfl,r,rfl,⟨_,af.of e2⟩,λD2 HK=>?_⟩;refine hX (K:=K) (a:=r) (xs:=vs.map (·.1)) (λi σ H2=>∃v:Option V,σ=[v]/\aI H1 H2/\H2 D2=some (.lst (((vs.take i).map (·.2.o)).map V.int))) ⟨none,rfl,(aI.refl _).new HK,aB⟩ (λi σ H2 _ ⟨_,_,s3,_⟩=>af.of (s3 _ _ e2)) ?_ ?_
 ·rintro i x σ H2 N hN hi ⟨v,rfl,s3,e3⟩;rw[List.getElem?_map]at hi;cases ez:vs[i]? with
  |none=>rw[ez]at hi;cases hi
  |some z =>
   rw[ez]at hi;obtain rfl:z.1=x:=Option.some.inj hi;have hm:z∈vs:=List.mem_of_getElem? ez;have GN:i<vs.length:=(List.getElem?_eq_some_iff.mp ez).1;obtain⟨a,p,ea,h1,h2⟩:=((zh z hm).same s3).out;refine ck ?_;refine⟨_,rfl,a,_,_,_,ea,rfl,h1,rfl,_,e3,by rw[List.length_map,List.length_map,List.length_take];lia,hN _ _ ⟨_,rfl,s3.put HK,?_⟩⟩;rw[aB,take_succ ez,List.map_append,List.map_append];rfl
 rintro σ H2 ⟨v,rfl,s3,e3⟩;rw[List.length_map,List.take_length]at e3;have eo:vs.map (·.2.o)=(vs.map (·.2)).map (·.o):=by rw[List.map_map];rfl
 rw[eo]at e3;have MK:=um (house:=house) MJ;have all:∀x∈vs.map (·.2),wY x:=λx hx=>by have:=MJ.mem_iff.mp hx;obtain⟨z,hz,rfl⟩:=List.mem_map.mp this;exact hg z hz
 have hlen:((vs.map (·.2)).map (·.o)).length=zs.length:=by rw[List.length_map,List.length_map];exact Ni
 refine⟨_,rfl,true,D2,((vs.map (·.2)).map (·.o)).map Sum.inl,5,rfl,by rw[<-Bh];exact af.of e3,by rw[List.length_map];lia,by decide,by decide,?_,?_⟩
 ·rw[List.length_map,rK];rintro⟨k1,k2⟩ H3 s4;refine⟨_,rfl,_,rfl,D2,_,rfl,.inl (af.of (s4 _ _ e3)),rfl,eV _,_,rfl,?_⟩;show if(Cg (.int house) (((vs.map (·.2)).map (·.o)).map V.int))=true then _ else _;rw[gp];by_cases hh:house∈(vs.map (·.2)).map (·.o)
  ·refine dS hh ?_;exact q2 λz=>(MK.mpr z).2.2.2 hh
  refine dR hh ?_;refine⟨_,rfl,r,_,rfl,.inl ⟨af.of (s4 _ _ (s3 _ _ e2)),λp xv=>?_⟩⟩;have s5:=(aI.refl H3).new (o:=.tup (vs.map (·.1))) xv;refine q1 (MK.mp ⟨all,by rw[List.length_map];rw[List.length_map,List.length_map]at k1;lia,k2,hh⟩) p _ ((s2.trans (s3.trans s4)).trans s5) ?_;rw[<-es];exact jO.tup (zh.same ((s3.trans s4).trans s5)) (.inl (.inl aB))
 rw[List.length_map,rK];intro hb;exact q2 λz=>hb (by have:=MK.mpr z;exact⟨by have:=this.2.1;rw[List.length_map]at this ⊢;rw[List.length_map];lia,this.2.2.1⟩)
structure Nw where
 h:Int
 n:Int
 near:List Wr
 names:List (List Nat)
def Gg(N:Nw):Prop:=KU N.h/\(0<=N.n/\N.n<=900000)/\nA N.h N.near/\JX N.names
def ML(N:Nw):PyData:=.tuple [.int N.h,.int N.n,.tuple (sD (N.near.map m9)),.tuple (sD (N.names.map AN))]
def mM(K:PySem.W.Frag)(C:Addr):Sp:=λvs H Q _=>∃(b c:Bool)(l m:Addr)(zs:List (V×Wr))(N:Nw),vs=[.int N.h,.int N.n,.ref l,.ref m]/\uU b K H l (zs.map (·.1))/\jO K H zs/\zs.map (·.2)=N.near/\uU c K H m [] /\
 AM N.h/\AM N.n/\zs.length<=50/\(∀z∈zs,KW z.2)/\N.names=[] /\
 (Gg N->∀(r:Addr)(H':Hp),aI H H'->aQ K H' 4 (.ref r) (ML N)->Q (.ref r) H')/\(¬Gg N->False)
theorem se:aV ["house","number","near","names"] ["house","number","near","names"] (aH fk):=⟨rfl,rfl,rfl,by decide +kernel,rfl,by decide +kernel,by decide +kernel⟩
set_option maxHeartbeats 1000000 in
theorem sg(F:aM K mg "made_news" fk)(T:Txt K mg t)(cE:Def P w K mg base 2 "look_house" ["number"] (gD t.BadNews))(bU:Def P w K mg base 1 "look_bounds" ["number","least","most"] (fG t.BadNews))(iK:Def P w K mg base 2 "look_names" ["names"] (kH K t.BadNews))(jQ:Def P w K mg base 4 "made_near" ["house","near"] (mL K t.BadNews)):Def P w K mg base 5 "made_news" ["house","number","near","names"] (mM K t.BadNews):=by
 refine F.def se (λ_ _ _ _ _ _ us hl=>match us,hl with|[_,_,_,_],_=>rfl) (λvs H Q E h=>?_) (λf bf A outer s H vs Q E hr h=>?_)
 ·obtain⟨b,c,l,m,zs,N,rfl,_⟩:=h;rfl
 obtain⟨b,c,l,m,zs,N,rfl,hl,hw,Nj,hm,sh,sn,hz,hs,HL,q1,q2⟩:=h;refine⟨_,aE (bL (aa (cE.mono (by decide)) hr aq (aA (pv 0) aC)))
  (aE (bL (aa (bU.mono (by decide)) hr aq (aA (pv 1) (aA aG (aA (jx T.sU) aC)))))
  (aE (bL (aa (iK.mono (by decide)) hr aq (aA (pv 3) aC)))
  (aF (ab (ak (aA (pv 0) (aA (pv 1) (aA (aa (jQ.mono (by decide)) hr aq (aA (pv 0) (aA (pv 2) aC))) (aA (eU (dU K) (by rfl) T.eQ boot_tuple (aA (aZ (cT K (df hr)) (by rfl) T.cv boot_sorted (aA (pv 3) aC)) aC)) aC))))))))),?_⟩
 have hsz:(2000:Nat)<=sizeLine:=by decide
 refine⟨_,rfl,N.h,rfl,sh,λg1=>?_,λg1=>q2 λz=>g1 z.1⟩;refine⟨_,rfl,N.n,0,900000,rfl,sn,.of (by decide) (by decide),.of (by decide) (by decide),λg2=>?_,λg2=>q2 λz=>g2 z.2.1⟩;refine⟨_,rfl,c,m,rfl,hm,λH1 s1=>?_⟩;refine⟨_,rfl,_,rfl,_,rfl,_,rfl,b,l,zs,N.h,rfl,hl.same s1,hw.same s1,hz,hs,λg4 r H2 s2 d2=>?_,λg4=>q2 λz=>g4 (by rw[Nj];exact z.2.2.1)⟩;rw[Nj]at g4 d2;have JZ:=(hm.same s1).same s2;refine⟨_,rfl,c,m,[],rfl,JZ,by decide,λy hy=>absurd hy List.not_mem_nil,JY [],λys p hp _ xv=>?_⟩;obtain rfl:=hp.eq_nil;have s3:=(aI.refl H2).new (o:=.lst []) xv;have e3:(upd H2 p (.lst [])) p=some (.lst []):=aB;generalize MM:upd H2 p (.lst (([]:List (V×PyData)).map (·.1)))=H3;have MM:upd H2 p (.lst [])=H3:=MM;rw[MM]at s3 e3;refine⟨p,_,rfl,.inl ⟨af.of e3,λx hx=>?_⟩⟩;have s4:=(aI.refl H3).new (o:=.tup []) hx;have d4:aQ K (upd H3 x (.tup [])) 3 (.ref x) (.tuple (sD (N.names.map AN))):=by rw[HL];exact .tup (.inl (.inl aB)) rfl λi y d e1 e2=>by cases e1
 have d5:=(d2.same s3).same s4;generalize upd H3 x (.tup [])=H4 at s4 d4 d5 ⊢;refine⟨zz4,λy hy=>?_⟩;have s5:=(aI.refl H4).new (o:=.tup [.int N.h,.int N.n,.ref r,.ref x]) hy;refine q1 ⟨g1,g2,g4,by rw[HL];exact⟨by decide,List.Pairwise.nil,λn hn=>absurd hn List.not_mem_nil⟩⟩ y _ ((((s1.trans s2).trans s3).trans s4).trans s5) ?_;refine .tup (.inl (.inl aB)) rfl λi v d e1 e2=>?_
 match i with
 |0=>cases e1;cases e2;exact .int _
 |1=>cases e1;cases e2;exact .int _
 |2=>cases e1;cases e2;exact d5.same s5
 |3=>cases e1;cases e2;exact d4.same s5
 |i+4=>simp at e1
def Ja(N:Nw):PyData:=.tuple [.int N.h,.int N.n,.tuple (N.near.map m9),.tuple (N.names.map AN)]
theorem yL{α:Type}(f:α->PyData){l:List α}(O:mq (l.map f)):∃l':List α,l'.Perm l/\sD (l.map f)=l'.map f:=perm_back f (fq O).1 l rfl
theorem Dr(N:Nw):∃ws ns,ws.Perm N.near/\ns.Perm N.names/\ML N=Ja ⟨N.h,N.n,ws,ns⟩:=by obtain⟨ws,h1,e1⟩:=yL m9 (Ge N.near);obtain⟨ns,h2,e2⟩:=yL AN (JY N.names);exact⟨ws,ns,h1,h2,by unfold ML Ja;rw[e1,e2]⟩
def Bj(K:PySem.W.Frag)(H:Hp)(v:V)(N:Nw):Prop:=aQ K H 4 v (Ja N)
theorem si:∀{ds:List PyData},(∀d∈ds,vL d=true)->cm ds=true
 |[],_=>by simp[cm]
 |d::ds,h=>by rw[cm,h d List.mem_cons_self,si λx hx=>h x (List.mem_cons_of_mem _ hx)];rfl
theorem Gh(N:Nw):vL (Ja N)=true:=by
 have h1:cm (N.near.map m9)=true:=si λd hd=>by obtain⟨w,_,rfl⟩:=List.mem_map.mp hd;exact Bg w
 have h2:cm (N.names.map AN)=true:=si λd hd=>by obtain⟨w,_,rfl⟩:=List.mem_map.mp hd;simp[AN,vL]
 simp[Ja,vL,cm,h1,h2]
theorem Bj.kept{K:PySem.W.Frag}{H H':Hp}{v:V}{N:Nw}(h:Bj K H v N)(k:Kept H H'):Bj K H' v N:=aQ.kept h k (Gh N)
theorem Bj.same{K:PySem.W.Frag}{H H':Hp}{v:V}{N:Nw}(h:Bj K H v N)(s:aI H H'):Bj K H' v N:=aQ.same h s
theorem Bj.out{K:PySem.W.Frag}{H:Hp}{v:V}{N:Nw}(h:Bj K H v N):∃a p q zs,v=.ref a/\ar K H a [.int N.h,.int N.n,.ref p,.ref q]/\ar K H p (zs.map (·.1))/\jO K H zs/\zs.map (·.2)=N.near/\ar K H q (N.names.map MF):=by
 obtain⟨a,xs,rfl,h1,h2,h3⟩:=sW h
 match xs,h2 with
 |[x,y,z,w],_ =>
  obtain rfl:=mH (h3 0 x _ rfl rfl);obtain rfl:=mH (h3 1 y _ rfl rfl);obtain⟨p,ys,rfl,g1,g2,g3⟩:=sW (h3 2 z _ rfl rfl);obtain⟨q,ks,rfl,k1,k2,k3⟩:=sW (h3 3 w _ rfl rfl);rw[List.length_map]at g2 k2;have hk:ks=N.names.map MF:=by refine List.ext_getElem (by rw[List.length_map];exact k2) λi i1 i2=>?_;rw[List.length_map]at i2;have:=MG (k3 i ks[i] (AN N.names[i]) (by simp) (by simp[i2]));rw[this];simp[MF]
  subst hk;refine⟨a,p,q,ys.zip N.near,rfl,h1,?_,λz hz=>?_,?_,k1⟩
  ·rw[List.map_fst_zip (Nat.le_of_eq g2)];exact g1
  ·obtain⟨i,hi,rfl⟩:=List.getElem_of_mem hz;rw[List.length_zip]at hi;rw[List.getElem_zip];have j1:=Nat.lt_of_lt_of_le hi (Nat.min_le_right _ _);exact g3 i _ _ (by simp) (by simp[j1])
  rw[List.map_snd_zip (Nat.le_of_eq g2.symm)]
abbrev Ms:=List (V×Nw)
def tW(m:V×Nw):Key×V:=(Sum.inl m.2.h,m.1)
def hs(ms:Ms):List Int:=ms.map (·.2.h)
def pO(ms:Ms)(v:V)(N:Nw):Ms:=if N.h∈hs ms then ms.map (λm=>if m.2.h=N.h then(v,N)else m)else ms++[(v,N)]
def ur(ms:Ms)(N:Nw):Prop:=∀m∈ms,m.2.h=N.h->m.2.n<N.n
theorem Bk(ms:Ms)(h:Int):dg (ms.map tW) (Sum.inl h)=(ms.find? λm=>decide (m.2.h=h)).map (·.1):=by
 unfold dg;rw[List.find?_map,Option.map_map];have e:((λkv:Key×V=>decide (kv.1=Sum.inl h))∘tW)=λm:V×Nw=>decide (m.2.h=h):=by
  funext m
  simp[tW]
 rw[e];rfl
theorem Jb(ms:Ms)(v:V)(N:Nw):putK (ms.map tW) (Sum.inl N.h) v=(pO ms v N).map tW:=by
 unfold putK pO;have e:((ms.map tW).any λkv=>decide (kv.1=Sum.inl N.h))=decide (N.h∈hs ms):=by
  rw[List.any_map,Bool.eq_iff_iff,List.any_eq_true,decide_eq_true_iff];unfold hs;rw[List.mem_map];constructor
  ·rintro⟨m,hm,h⟩;exact⟨m,hm,by simpa[tW]using h⟩
  rintro⟨m,hm,h⟩;exact⟨m,hm,by simp[tW,h]⟩
 rw[e];by_cases h:N.h∈hs ms
 ·rw[if_pos (by simpa using h),if_pos h,List.map_map,List.map_map];refine List.map_congr_left λm _=>?_;show(if(tW m).1=Sum.inl N.h then((tW m).1,v)else tW m)=tW (if m.2.h=N.h then(v,N)else m);by_cases c:m.2.h=N.h
  ·rw[if_pos c,if_pos (by simp[tW,c])];simp[tW,c]
  rw[if_neg c,if_neg (by simp[tW,c])]
 rw[if_neg (by simpa using h),if_neg h,List.map_append];rfl
theorem Ds(ms:Ms)(v:V)(N:Nw):hs (pO ms v N)=if N.h∈hs ms then hs ms else hs ms++[N.h]:=by
 unfold pO;by_cases h:N.h∈hs ms
 ·rw[if_pos h,if_pos h];unfold hs;rw[List.map_map];refine List.map_congr_left λm _=>?_;show(if m.2.h=N.h then(v,N)else m).2.h=m.2.h;split
  ·rename_i c;exact c.symm
  rfl
 rw[if_neg h,if_neg h];unfold hs;rw[List.map_append];rfl
theorem wc{ms:Ms}(hn:(hs ms).Nodup)(v:V)(N:Nw):(hs (pO ms v N)).Nodup:=by
 rw[Ds];split
 ·exact hn
 rename_i h;refine List.nodup_append.mpr ⟨hn,by simp,λa ha b hb=>?_⟩;rw[List.mem_singleton.mp hb];rintro rfl;exact h ha
theorem Bl{ms:Ms}{v:V}{N:Nw}{m:V×Nw}:m∈pO ms v N->m=(v,N)\/m∈ms:=by
 unfold pO;split
 ·intro h;obtain⟨x,hx,e⟩:=List.mem_map.mp h;split at e
  ·exact .inl e.symm
  exact .inr (e▸hx)
 intro h;rcases List.mem_append.mp h with h|h
 ·exact .inr h
 exact .inl (List.mem_singleton.mp h)
structure jR(K:PySem.W.Frag)(C:Addr)(H:Hp)(x d:Addr)(ms:Ms):Prop where
 o:∃dx,H x=some (.ins C dx [("latest",.ref d)])
 d:H d=some (.dK (ms.map tW))
 nd:(hs ms).Nodup
 all:∀m∈ms,Bj K H m.1 m.2
theorem jR.ne{K:PySem.W.Frag}{C:Addr}{H:Hp}{x d:Addr}{ms:Ms}(h:jR K C H x d ms):x≠d:=by obtain⟨dx,h1⟩:=h.o;exact kA h1 h.d (by intro z;cases z)
theorem jR.same{K:PySem.W.Frag}{C:Addr}{H H':Hp}{x d:Addr}{ms:Ms}(h:jR K C H x d ms)(s:aI H H'):jR K C H' x d ms :=
 ⟨let⟨dx,h1⟩:=h.o;⟨dx,s _ _ h1⟩,s _ _ h.d,h.nd,λm hm=>(h.all m hm).same s⟩
def mO(H:Hp)(a:Addr):Prop:=∀xs,¬Rd H a (.tup xs)
theorem kq.kept{S:List Addr}{H H':Hp}(m:kq S H H')(n:∀a∈S,mO H a):Kept H H':=λa xs e=>by
 have hn:a∉S:=λz=>n a z xs e;rcases e with e|⟨u,e⟩
 ·exact .inl (m _ _ hn e)
 exact .inr ⟨u,m _ _ hn e⟩
theorem mO.dk{H:Hp}{a:Addr}{xs:List (Key×V)}(h:H a=some (.dK xs)):mO H a:=λys e=>by rcases e with e|⟨u,e⟩<;>(rw[h]at e;cases e)
def yM(K:PySem.W.Frag)(C:Addr):Sp:=λvs H Q _=>∃x dx,vs=[.ref x]/\H x=some (.ins C dx [])/\∀(l:Addr)(H':Hp),H l=none->kq [x] H H'->jR K C H' x l []->Q .bS H'
theorem Dt:aV ["self"] ["self"] (aH mz):=⟨rfl,rfl,rfl,by decide +kernel,rfl,by decide +kernel,by decide +kernel⟩
theorem Du{fd:FuncData}(T:Txt K mg t)(F:qH K "__init__" "Map.__init__" mz t.init fd):cf P w K mg base (qI P w) 1 t.init fd ["self"] (yM K t.Map)/\Binds K fd ["self"] []:=by
 refine⟨F.DP Dt (λvs H Q E h=>?_) (λf bf A outer s H vs Q E hr h=>?_),F.binds λ_ _ _ _ _ _ us hl=>match us,hl with|[_],_=>rfl⟩
 ·obtain⟨x,dx,rfl,_⟩:=h;rfl
 obtain⟨x,dx,rfl,hx,q⟩:=h;refine⟨_,aF (DL K (pv 0) uO (by rfl)),?_⟩;refine λl hl=>?_;have n:x≠l:=ag hx hl;refine⟨_,rfl,x,t.Map,dx,_,rfl,by rw[aL n];exact hx,T.pJ,T.dG,by show 0<1000;decide,?_⟩;exact q l _ hl ((kq.refl.upd (.inr hl)).upd (.inl List.mem_cons_self)) ⟨⟨dx,aB⟩,by rw[aL (Ne.symm n)];exact aB,.nil,λm hm=>absurd hm List.not_mem_nil⟩
def yN(K:PySem.W.Frag)(C:Addr):Sp:=λvs H Q _=>∃(x d:Addr)(ms:Ms)(v:V)(N:Nw),vs=[.ref x,v]/\jR K C H x d ms/\Bj K H v N/\ms.length<=100/\(ur ms N->∀H',kq [d] H H'->jR K C H' x d (pO ms v N)->Q (.bl true) H')/\(¬ur ms N->Q (.bl false) H)
theorem sj:aV ["self","news","house","newer"] ["self","news"] (aH m7):=⟨rfl,rfl,rfl,by decide +kernel,rfl,by decide +kernel,by decide +kernel⟩
theorem Dv{fd:FuncData}(T:Txt K mg t)(F:qH K "hear" "Map.hear" m7 t.pH fd):cf P w K mg base (qI P w) 1 t.pH fd ["self","news"] (yN K t.Map)/\Binds K fd ["self","news"] []:=by
 refine⟨F.DP sj (λvs H Q E h=>?_) (λf bf A outer s H vs Q E hr h=>?_),F.binds λ_ _ _ _ _ _ us hl=>match us,hl with|[_,_],_=>rfl⟩
 ·obtain⟨x,d,ms,v,N,rfl,_⟩:=h;rfl
 obtain⟨x,d,ms,v,N,rfl,hM,hN,hl,q1,q2⟩:=h;refine⟨_,aE (aY (i:=2) sj.nd rfl (Or.inl rfl) (aO (aT K) (pv 1) aG (λ_ _=>rfl)))
  (aE (aY (i:=3) sj.nd rfl (Or.inl rfl) (Hg (FX (mh (b9 hr) (pv 2) (lq K (pv 0) (by rfl))) (by rfl)) (vT (fb oU (aO (aT K) (pv 1) aG (λ_ _=>rfl)) (aO (aT K) (eE (b9 hr) (lq K (pv 0) (by rfl)) (pv 2) (λ_ _=>rfl)) aG (λ_ _=>rfl)) (ah _)))))
  (aE (a9 (cI (pv 3))
   (aF (iA (b9 hr) (lq K (pv 0) (by rfl)) (pv 2) (pv 1) (by rfl)))
   (ae))
  (aF (ab (pv 3))))),?_⟩
 have hsz:(2000:Nat)<=sizeLine:=by decide
 obtain⟨dx,hx⟩:=hM.o;obtain⟨a,p,r,zs,rfl,h1,_⟩:=hN.out;have put:ur ms N->∃H',kq [d] H H'/\H'=upd H d (.dK (putK (ms.map tW) (Sum.inl N.h) (.ref a)))/\jR K t.Map H' x d (pO ms (.ref a) N):=λ_=>by
  have m:kq [d] H (upd H d (.dK (putK (ms.map tW) (Sum.inl N.h) (.ref a)))):=kq.refl.upd (.inl List.mem_cons_self);have kp:=m.kept λb hb=>by rw[List.mem_singleton.mp hb];exact mO.dk hM.d
  refine⟨_,m,rfl,⟨dx,by rw[aL hM.ne];exact hx⟩,by rw[aB,Jb],wc hM.nd _ _,λy hy=>?_⟩;rcases Bl hy with rfl|h
  ·exact hN.kept kp
  exact(hM.all y h).kept kp
 refine⟨_,rfl,a,_,_,_,rfl,rfl,h1,rfl,?_⟩;refine⟨_,rfl,_,rfl,x,t.Map,dx,_,_,rfl,hx,T.pJ,T.dG,rfl,d,_,rfl,bx.k (k:=Sum.inl N.h) hM.d,?_⟩;rw[Bk];cases ef:ms.find? (λm=>decide (m.2.h=N.h))with
 |none =>
  have uG:ur ms N:=λm hm e=>absurd (List.find?_eq_none.mp ef m hm) (by simp[e]);obtain⟨H',m,eH,MN⟩:=put uG;refine⟨true,rfl,gh ?_⟩;refine⟨_,rfl,_,rfl,gh ?_⟩;refine⟨_,rfl,_,rfl,x,t.Map,dx,_,_,rfl,hx,T.pJ,T.dG,rfl,_,rfl,d,_,rfl,.inl ⟨_,Sum.inl N.h,hM.d,rfl,by rw[List.length_map];lia,rfl⟩,?_⟩;refine⟨_,rfl,?_⟩;rw[<-eH];exact q1 uG H' m MN
 |some y =>
  have hy:y∈ms:=List.mem_of_find?_eq_some ef;have MO:y.2.h=N.h:=by simpa using List.find?_some ef
  obtain⟨ya,yp,yq,yz,ey,y1,_⟩:=(hM.all y hy).out;have gv:bx H d (.int N.h) (some y.1):=by have:=bx.k (k:=Sum.inl N.h) hM.d;rw[Bk,ef]at this;exact this
  have uG:ur ms N↔y.2.n<N.n:=by
   constructor
   ·exact λz=>z y hy MO
   intro z m hm e;have:m=y:=by
    obtain⟨i,hi,rfl⟩:=List.getElem_of_mem hm;obtain⟨j,hj,rfl⟩:=List.getElem_of_mem hy;have:i=j:=by have nd:=hM.nd;unfold hs at nd;have:=(List.getElem_inj (xs:=ms.map (·.2.h)) (h₀:=by simpa using hi) (h₁:=by simpa using hj) nd).mp (by simp[e,MO]);exact this
    subst this;rfl
   rw[this];exact z
  refine⟨false,rfl,c8 ?_⟩;refine⟨_,rfl,a,_,_,_,rfl,rfl,h1,rfl,_,rfl,x,t.Map,dx,_,_,rfl,hx,T.pJ,T.dG,rfl,_,rfl,d,y.1,rfl,gv,ya,_,_,_,ey,rfl,y1,rfl,_,_,rfl,rfl,?_⟩;refine⟨_,rfl,_,rfl,?_⟩;by_cases bq:y.2.n<N.n
  ·obtain⟨H',m,eH,MN⟩:=put (uG.mpr bq);refine dS bq ?_;refine⟨_,rfl,_,rfl,x,t.Map,dx,_,_,rfl,hx,T.pJ,T.dG,rfl,_,rfl,d,_,rfl,.inl ⟨_,Sum.inl N.h,hM.d,rfl,by rw[List.length_map];lia,rfl⟩,?_⟩;refine⟨_,rfl,?_⟩;rw[<-eH];show Q (.bl (decide (y.2.n<N.n))) H';rw[decide_eq_true bq];exact q1 (uG.mpr bq) H' m MN
  refine dR bq ?_;refine⟨_,rfl,?_⟩;show Q (.bl (decide (y.2.n<N.n))) H;rw[decide_eq_false bq];exact q2 λz=>bq (uG.mp z)
def pk(ms:Ms)(h:Int):V×Nw:=(ms.find? λm=>decide (m.2.h=h)).getD (.bS,⟨0,0,[],[]⟩)
theorem we{ms:Ms}{h:Int}(hh:h∈hs ms):∃y,ms.find? (λm=>decide (m.2.h=h))=some y/\y∈ms/\y.2.h=h/\pk ms h=y:=by
 obtain⟨m,hm,e⟩:=List.mem_map.mp hh;cases ef:ms.find? (λm=>decide (m.2.h=h))with
 |none=>exact absurd (List.find?_eq_none.mp ef m hm) (by simp[e])
 |some y=>exact⟨y,rfl,List.mem_of_find?_eq_some ef,by simpa using List.find?_some ef,by unfold pk;rw[ef];rfl⟩
theorem sm{ms:Ms}(nd:(hs ms).Nodup){m n:V×Nw}(hm:m∈ms)(hn:n∈ms)(e:m.2.h=n.2.h):m=n:=by obtain⟨i,hi,rfl⟩:=List.getElem_of_mem hm;obtain⟨j,hj,rfl⟩:=List.getElem_of_mem hn;unfold hs at nd;have:=(List.getElem_inj (xs:=ms.map (·.2.h)) (h₀:=by simpa using hi) (h₁:=by simpa using hj) nd).mp (by simp[e]);subst this;rfl
theorem Gi{ms:Ms}(nd:(hs ms).Nodup):(hs ms).map (pk ms)=ms:=by
 unfold hs;rw[List.map_map];have:ms.map (pk ms∘λm=>m.2.h)=ms.map id:=List.map_congr_left λm hm=>by obtain⟨y,_,h2,h3,h4⟩:=we (ms:=ms) (h:=m.2.h) (List.mem_map.mpr ⟨m,hm,rfl⟩);show pk ms m.2.h=m;rw[h4];exact sm nd h2 hm h3
 rw[this,List.map_id]
def yO(K:PySem.W.Frag)(C:Addr):Sp:=λvs H Q _=>∃(x d:Addr)(ms:Ms),vs=[.ref x]/\jR K C H x d ms/\ms.length<=50/\∀(r:Addr)(H':Hp)(us:Ms),aI H H'->H r=none->H' r=some (.lst (us.map (·.1)))->us.Perm ms->(hs us).Pairwise (·<·)->Q (.ref r) H'
theorem Dw:aV ["self"] ["self"] (aH ko):=⟨rfl,rfl,rfl,by decide +kernel,rfl,by decide +kernel,by decide +kernel⟩
theorem Dx{fd:FuncData}(T:Txt K mg t)(F:qH K "news" "Map.news" ko t.pI fd):cf P w K mg base (qI P w) 1 t.pI fd ["self"] (yO K t.Map)/\Binds K fd ["self"] []:=by
 refine⟨F.DP Dw (λvs H Q E h=>?_) (λf bf A outer s H vs Q E hr h=>?_),F.binds λ_ _ _ _ _ _ us hl=>match us,hl with|[_],_=>rfl⟩
 ·obtain⟨x,d,ms,rfl,_⟩:=h;rfl
 obtain⟨x,d,ms,rfl,hM,hl,q⟩:=h;refine⟨_,aF (ab (i9 rfl (Nc:=["house","self"]) (ix:=[none,some 0]) (cJ (aH ko) ["self"] rfl rfl (by decide +kernel)) (bC K (aZ (iD (df hr)) (by rfl) T.cv boot_sorted (aA (lq K (pv 0) (by rfl)) aC))) (λC fp s H=>⟨(aK (i:=0) (show(["house","self"]:List Str).Nodup by decide +kernel) rfl (Or.inl rfl)),cg,(eE (b9 hr) (lq K (pv 1) (by rfl)) (pv 0) (λ_ _=>rfl))⟩))),?_⟩;have hsz:(2000:Nat)<=sizeLine:=by decide
 obtain⟨dx,hx⟩:=hM.o;refine⟨_,rfl,x,t.Map,dx,_,_,rfl,hx,T.pJ,T.dG,rfl,d,_,hs ms,rfl,hM.d,by rw[List.map_map];unfold hs;rw[List.map_map];rfl,by unfold hs;rw[List.length_map];lia,λys sl hp yK Dy=>?_⟩;have s1:=(aI.refl H).new (o:=.lst (ys.map V.int)) Dy;have e1:(upd H sl (.lst (ys.map V.int))) sl=some (.lst (ys.map V.int)):=aB;generalize upd H sl (.lst (ys.map V.int))=H1 at s1 e1 ⊢;have HM:ys.length<=50:=by rw[hp.length_eq];unfold hs;rw[List.length_map];exact hl
 refine⟨sl,rfl,⟨_,af.of e1⟩,λD hD=>?_⟩;refine hX (K:=K) (a:=sl) (xs:=ys.map V.int) (λi σ H'=>∃v:Option V,σ=[v,some (.ref x)]/\aI H1 H'/\H' D=some (.lst (((ys.take i).map (pk ms)).map (·.1)))) ⟨none,rfl,(aI.refl _).new hD,aB⟩ (λi σ H' _ ⟨_,_,s2,_⟩=>af.of (s2 _ _ e1)) ?_ ?_
 ·rintro i y σ H' N hN hi ⟨v,rfl,s2,e2⟩;obtain⟨h,ho,rfl⟩:=fe hi;have GN:i<ys.length:=(List.getElem?_eq_some_iff.mp ho).1;obtain⟨y,ef,hy,MO,ep⟩:=we (hp.mem_iff.mp (List.mem_of_getElem? ho));have gv:bx H' d (.int h) (some y.1):=by have:=bx.k (k:=Sum.inl h) ((s1.trans s2) _ _ hM.d);rw[Bk,ef]at this;exact this
  refine ck ?_;refine⟨_,rfl,x,t.Map,dx,_,_,rfl,(s1.trans s2) _ _ hx,T.pJ,T.dG,rfl,_,rfl,d,y.1,rfl,gv,_,e2,by rw[List.length_map,List.length_map,List.length_take];lia,hN _ _ ⟨_,rfl,s2.put hD,?_⟩⟩;rw[aB,take_succ ho,List.map_append,List.map_append,<-ep];rfl
 rintro σ H' ⟨v,rfl,s2,e2⟩;rw[List.length_map,List.take_length]at e2;have pm:(ys.map (pk ms)).Perm ms:=by
  have:=hp.map (pk ms)
  rwa [Gi hM.nd]at this
 refine q D H' (ys.map (pk ms)) (s1.trans s2) (s1.free hD) e2 pm ?_;have eh:hs (ys.map (pk ms))=ys:=by
  unfold hs;rw[List.map_map];have:ys.map ((λm=>m.2.h)∘pk ms)=ys.map id:=List.map_congr_left λh hh=>by obtain⟨y,_,_,h3,h4⟩:=we (hp.mem_iff.mp hh);show(pk ms h).2.h=h;rw[h4];exact h3
  rw[this,List.map_id]
 rw[eh];have nd:ys.Nodup:=hp.nodup_iff.mpr hM.nd;exact(yK.and nd).imp λ⟨a,b⟩=>by lia
abbrev T3:=Int×Int×Int
def qC(t:T3):PyData:=.tuple [.int t.1,.int t.2.1,.int t.2.2]
def ax(us:Ms):List (Tk×Int):=us.flatMap λm=>m.2.near.map λw=>([m.2.h,w.o,w.a,w.b],w.q)
def jS(L:List (Tk×Int))(k:Tk):Option Int:=(L.find? λe=>decide (e.1=k)).map (·.2)
def dh(L:List (Tk×Int))(e:Tk×Int):Option T3 :=
 match e.1 with
 |[h,o,a,b]=>if h<o then(jS L [o,h,a,b]).map λq=>(h,o,if q>e.2 then q else e.2)else none
 |_=>none
def Bm(L:List (Tk×Int)):List T3:=L.filterMap (dh L)
def cL(ms:Ms)(t:T3):Prop:=t.1<t.2.1/\∃m1∈ms,∃m2∈ms,∃w1∈m1.2.near,∃w2∈m2.2.near,m1.2.h=t.1/\m2.2.h=t.2.1/\w1.o=t.2.1/\w2.o=t.1/\w1.a=w2.a/\w1.b=w2.b/\t.2.2=max w1.q w2.q
def nB(ms:Ms):Prop:=∀m∈ms,(m.2.near.map (·.o)).Nodup/\m.2.near.length<=5
theorem fI{us:Ms}{e:Tk×Int}:e∈ax us↔∃m∈us,∃w∈m.2.near,e=([m.2.h,w.o,w.a,w.b],w.q):=by
 unfold ax;rw[List.mem_flatMap];constructor
 ·rintro⟨m,hm,h⟩;obtain⟨w,hw,e⟩:=List.mem_map.mp h;exact⟨m,hm,w,hw,e.symm⟩
 rintro⟨m,hm,w,hw,e⟩;exact⟨m,hm,List.mem_map.mpr ⟨w,hw,e.symm⟩⟩
theorem rL{us:Ms}(nd:(hs us).Nodup)(ok:nB us):(ax us).Pairwise λe f=>(e.1.take 2)≠(f.1.take 2):=by
 unfold ax;rw[List.pairwise_flatMap];constructor
 ·intro m hm;have:=(ok m hm).1;unfold List.Nodup at this;rw[List.pairwise_map]at this ⊢;refine this.imp λh e=>h ?_;simp only[List.take_succ_cons,List.take_zero,List.cons.injEq,and_true]at e;exact e.2
 unfold hs List.Nodup at nd;rw[List.pairwise_map]at nd;refine nd.imp λh x hx y hy e=>?_;obtain⟨w,_,rfl⟩:=List.mem_map.mp hx;obtain⟨v,_,rfl⟩:=List.mem_map.mp hy;simp only[List.take_succ_cons,List.take_zero,List.cons.injEq,and_true]at e;exact h e.1
theorem flat_keys{us:Ms}(nd:(hs us).Nodup)(ok:nB us):((ax us).map (·.1)).Nodup:=by unfold List.Nodup;rw[List.pairwise_map];exact(rL nd ok).imp λh e=>h (by rw[e])
theorem dY{L:List (Tk×Int)}(nd:(L.map (·.1)).Nodup){k:Tk}{q:Int}:jS L k=some q↔(k,q)∈L:=by
 unfold jS;rw[Option.map_eq_some_iff];constructor
 ·rintro⟨e,h1,rfl⟩;have:=List.mem_of_find?_eq_some h1;have h2:e.1=k:=by simpa using List.find?_some h1
  rw[<-h2];exact this
 intro h;cases ef:L.find? (λe=>decide (e.1=k))with
 |none=>exact absurd (List.find?_eq_none.mp ef _ h) (by simp)
 |some e =>
  refine⟨e,rfl,?_⟩;have h1:=List.mem_of_find?_eq_some ef;have h2:e.1=k:=by simpa using List.find?_some ef
  obtain⟨i,hi,ei⟩:=List.getElem_of_mem h1;obtain⟨j,hj,ej⟩:=List.getElem_of_mem h;have:=(List.getElem_inj (xs:=L.map (·.1)) (h₀:=by simpa using hi) (h₁:=by simpa using hj) nd).mp (by simp[ei,ej,h2]);subst this;rw[ei]at ej;rw[ej]
theorem Dz{us:Ms}(nd:(hs us).Nodup)(ok:nB us){t:T3}:t∈Bm (ax us)↔cL us t:=by
 unfold Bm;rw[List.mem_filterMap];have kn:=flat_keys nd ok;constructor
 ·rintro⟨e,he,h⟩;obtain⟨m,hm,w,hw,rfl⟩:=fI.mp he;unfold dh at h;simp only at h;split at h
  ·rename_i bq;obtain⟨q,hq,rfl⟩:=Option.map_eq_some_iff.mp h;obtain⟨m2,JZ,w2,MP,e2⟩:=fI.mp ((dY kn).mp hq);simp only[Prod.mk.injEq,List.cons.injEq,and_true]at e2;obtain⟨⟨e3,e4,e5,e6⟩,e7⟩:=e2;refine⟨bq,m,hm,m2,JZ,w,hw,w2,MP,rfl,e3.symm,rfl,e4.symm,e5,e6,?_⟩;show(if q>w.q then q else w.q)=max w.q w2.q;rw[e7];split<;>lia
  cases h
 rintro⟨bq,m,hm,m2,JZ,w,hw,w2,MP,e1,e2,e3,e4,e5,e6,e7⟩;refine⟨([m.2.h,w.o,w.a,w.b],w.q),fI.mpr ⟨m,hm,w,hw,rfl⟩,?_⟩;unfold dh;simp only;rw[if_pos (by rw[e1,e3];exact bq)];have:jS (ax us) [w.o,m.2.h,w.a,w.b]=some w2.q:=(dY kn).mpr (fI.mpr ⟨m2,JZ,w2,MP,by rw[e2,e3,e4,e1,e5,e6]⟩);rw[this];show some (m.2.h,w.o,if w2.q>w.q then w2.q else w.q)=some t;obtain⟨a,b,l⟩:=t;simp only at e1 e3 e7;rw[e1,e3,e7]
 congr 3
 split<;>lia
theorem Bn{us:Ms}(nd:(hs us).Nodup)(ok:nB us):(Bm (ax us)).Pairwise λs t=>(s.1,s.2.1)≠(t.1,t.2.1):=by
 unfold Bm;rw[List.pairwise_filterMap];refine(rL nd ok).imp_of_mem λ{e f} he hf h b hb b' tU z=>h ?_;obtain⟨m,_,w,_,rfl⟩:=fI.mp he;obtain⟨m',_,w',_,rfl⟩:=fI.mp hf;unfold dh at hb tU;simp only at hb tU;split at hb
 ·split at tU
  ·obtain⟨q,_,rfl⟩:=Option.map_eq_some_iff.mp hb;obtain⟨q',_,rfl⟩:=Option.map_eq_some_iff.mp tU;simp only[Prod.mk.injEq]at z;simp[z.1,z.2]
  cases tU
 cases hb
theorem Bo{us:Ms}(ok:nB us):(ax us).length<=5*us.length:=by
 induction us with
 |nil=>exact Nat.le_refl _
 |cons m us ih =>
  have h1:=(ok m List.mem_cons_self).2;have h2:=ih λx hx=>ok x (List.mem_cons_of_mem _ hx);unfold ax at h2 ⊢;rw[List.flatMap_cons,List.length_append,List.length_map,List.length_cons];lia
def eR(t:T3):List Int:=[t.1,t.2.1,t.2.2]
theorem Bp(s t:T3):bD (qC s) (qC t)=decide (eR s<eR t):=by obtain⟨o,q,a⟩:=s;obtain⟨o',q',a'⟩:=t;simp only[qC,eR,bD,d0,PyData.eqv,PyData.eqvAll,List.cons_lt_cons_iff];by_cases h1:o=o'<;>by_cases h2:q=q'<;>by_cases h3:a=a'<;>simp[h1,h2,h3]
theorem Jc(ts:List T3):mq (ts.map qC):=mK (κ:=List Int) (λa b h=>List.lt_asymm h) (λa b c h1 h2=>List.not_lt.mpr (List.le_trans (List.not_lt.mp h1) (List.not_lt.mp h2))) Bp (λs t=>by simp[qC,o4,kf]) (.rows λd hd=>by obtain⟨w,_,rfl⟩:=List.mem_map.mp hd;exact⟨_,_,rfl⟩)
theorem uu{s t:T3}(h:eR s=eR t):s=t:=by obtain⟨a,b,c⟩:=s;obtain⟨a',b',c'⟩:=t;simp only[eR,List.cons.injEq,and_true]at h;rw[h.1,h.2.1,h.2.2]
theorem uv{ts us:List T3}(h1:ts.Pairwise λs t=>eR s<eR t)(h2:us.Pairwise λs t=>eR s<eR t)(h:∀t,t∈ts↔t∈us):ts=us:=by
 have Pe:∀t:T3,¬eR t<eR t:=λt=>List.lt_irrefl _;have nn:∀l:List T3,(l.Pairwise λs t=>eR s<eR t)->l.Nodup:=λl h=>by unfold List.Nodup;refine h.imp λ{s t} z=>?_;rintro rfl;exact Pe _ z
 have n1:=nn ts h1;have n2:=nn us h2;have p:=(List.perm_ext_iff_of_nodup n1 n2).mpr h;refine List.Perm.eq_of_pairwise (le:=λs t=>eR s<eR t) (λa b _ _ x y=>absurd y (List.lt_asymm x)) h1 h2 p
def qR(K:PySem.W.Frag)(H:Hp)(zs:List (V×T3)):Prop:=∀z∈zs,aQ K H 2 z.1 (qC z.2)
theorem uw(t:T3):vL (qC t)=true:=by simp[qC,vL,cm]
theorem qR.same{K:PySem.W.Frag}{H H':Hp}{zs:List (V×T3)}(h:qR K H zs)(s:aI H H'):qR K H' zs:=λz hz=>(h z hz).same s
def n9(K:PySem.W.Frag)(H:Hp)(r:Addr)(ts:List T3):Prop:=∃zs:List (V×T3),H r=some (.lst (zs.map (·.1)))/\qR K H zs/\zs.map (·.2)=ts
theorem n9.same{K:PySem.W.Frag}{H H':Hp}{r:Addr}{ts:List T3}(h:n9 K H r ts)(s:aI H H'):n9 K H' r ts:=by obtain⟨zs,h1,h2,h3⟩:=h;exact⟨zs,s _ _ h1,h2.same s,h3⟩
theorem bI{H:Hp}{D:Addr}{o:HO}(h:mO H D):Kept H (upd H D o):=(kq.refl (S:=[D]) (H:=H)).upd (.inl List.mem_cons_self) |>.kept λb hb=>by rw[List.mem_singleton.mp hb];exact h
theorem mO.Jd{H:Hp}{a:Addr}{xs:TX}(h:H a=some (gf a xs)):mO H a:=λys e=>by rcases e with e|⟨u,e⟩<;>(rw[h]at e;cases e)
theorem mO.lst{H:Hp}{a:Addr}{xs:List V}(h:H a=some (.lst xs)):mO H a:=λys e=>by rcases e with e|⟨u,e⟩<;>(rw[h]at e;cases e)
theorem sr{xs:TX}{L:List (Tk×Int)}(h:xs.map (λp=>(p.1,p.2.2))=L.map λe=>(e.1,V.int e.2))(k:Tk):jB xs k=(jS L k).map V.int:=by
 induction xs generalizing L with
 |nil =>
  cases L with
  |nil=>rfl
  |cons _ _=>cases h
 |cons p xs ih =>
  cases L with
  |nil=>cases h
  |cons e L =>
   rw[List.map_cons,List.map_cons]at h;obtain⟨h1,h2⟩:=List.cons.inj h;obtain⟨h3,h4⟩:=Prod.mk.inj h1;have:=ih h2;unfold jB jS at this ⊢;rw[List.find?_cons,List.find?_cons,<-h3];by_cases c:p.1=k
   ·simp[c,h4]
   simp only[c,decide_false];exact this
theorem yP{xs:TX}{L:List (Tk×Int)}(h:xs.map (λp=>(p.1,p.2.2))=L.map λe=>(e.1,V.int e.2)):xs.map (·.1)=L.map (·.1):=by have:=congrArg (List.map (·.1)) h;rw[List.map_map,List.map_map]at this;exact this
theorem pP(a b:Ms):ax (a++b)=ax a++ax b:=by unfold ax;rw[List.flatMap_append]
def fW(m:V×Nw)(w:Wr):Tk×Int:=([m.2.h,w.o,w.a,w.b],w.q)
theorem ux(m:V×Nw):ax [m]=m.2.near.map (fW m):=by unfold ax fW;simp
theorem wg{us:Ms}{i j:Nat}{m:V×Nw}{x:Wr}(hi:us[i]?=some m)(hj:m.2.near[j]?=some x):∃R,ax us=(ax (us.take i)++(m.2.near.take j).map (fW m))++fW m x::R:=by
 refine⟨(m.2.near.drop (j+1)).map (fW m)++ax (us.drop (i+1)),?_⟩;obtain⟨i1,i2⟩:=List.getElem?_eq_some_iff.mp hi;obtain⟨j1,j2⟩:=List.getElem?_eq_some_iff.mp hj;have e1:us=us.take i++m::us.drop (i+1):=by rw[<-i2,List.getElem_cons_drop,List.take_append_drop]
 have e2:m.2.near=m.2.near.take j++x::m.2.near.drop (j+1):=by rw[<-j2,List.getElem_cons_drop,List.take_append_drop]
 have e3:m.2.near.map (fW m)=(m.2.near.take j).map (fW m)++fW m x::(m.2.near.drop (j+1)).map (fW m):=by rw[<-List.map_cons,<-List.map_append,<-e2]
 have e4:ax us=ax (us.take i)++(m.2.near.map (fW m)++ax (us.drop (i+1))):=by rw[<-ux,<-pP,<-pP];exact congrArg ax (by rw[List.singleton_append];exact e1)
 rw[e4,e3];simp only[List.append_assoc,List.cons_append]
def pQ(K:PySem.W.Frag)(C:Addr):Sp:=λvs H Q _=>∃(x d:Addr)(ms:Ms),vs=[.ref x]/\jR K C H x d ms/\ms.length<=12/\nB ms/\∀(r:Addr)(H':Hp)(ts:List T3),aI H H'->H r=none->n9 K H' r ts->(∀t,t∈ts↔cL ms t)->(ts.Pairwise λs t=>eR s<eR t)->ts.length<=60->Q (.ref r) H'
theorem bP:aV ["self","told","house","number","near","names","other","quiet","pair","standing","back"] ["self"] (aH j0):=⟨rfl,rfl,rfl,by decide +kernel,rfl,by decide +kernel,by decide +kernel⟩
set_option maxHeartbeats 2000000 in
theorem Bq{fd fn:FuncData}(T:Txt K mg t)(F:qH K "wires" "Map.wires" j0 t.j3 fd)(wj:cf P w K mg base (qI P w) 1 t.pI fn ["self"] (yO K t.Map))(wm:Binds K fn ["self"] []):cf P w K mg base (qI P w) 2 t.j3 fd ["self"] (pQ K t.Map)/\Binds K fd ["self"] []:=by
 refine⟨F.DP bP (λvs H Q E h=>?_) (λf bf A outer s H vs Q E hr h=>?_),F.binds λ_ _ _ _ _ _ us hl=>match us,hl with|[_],_=>rfl⟩
 ·obtain⟨x,d,ms,rfl,_⟩:=h;rfl
 obtain⟨x,d,ms,rfl,hM,hl,aw,q⟩:=h;refine⟨_,aE (aY (i:=1) bP.nd rfl (Or.inl rfl) x8)
  (aE (PS.rj (bJ PassesOwn.never rfl (bC K (oX (pv 0) T.pJ T.Dn (wj.mono (by decide)) hr wm .nil aq)) (hE rfl (aU (aK (i:=2) bP.nd rfl (Or.inl rfl)) (aU (aK (i:=3) bP.nd rfl (Or.inl rfl)) (aU (aK (i:=4) bP.nd rfl (Or.inl rfl)) (aU (aK (i:=5) bP.nd rfl (Or.inl rfl)) dM)))))
   (aF (bJ PassesOwn.never rfl (oH K (pv 4)) (hE rfl (aU (aK (i:=6) bP.nd rfl (Or.inl rfl)) (aU (aK (i:=7) bP.nd rfl (Or.inl rfl)) (aU (aK (i:=8) bP.nd rfl (Or.inl rfl)) dM))))
    (aF (sP K (df hr) (pv 1) (ak (aA (pv 2) (aA (pv 6) (aA (pv 8) aC)))) (pv 7) (by rfl)))))))
  (aE (aY (i:=9) bP.nd rfl (Or.inl rfl) (cB aC))
  (aE (PS.rj (bJ PassesOwn.never rfl (mw (pv 1)) (hE rfl (aU (aK (i:=2) bP.nd rfl (Or.inl rfl)) (aU (aK (i:=6) bP.nd rfl (Or.inl rfl)) (aU (aK (i:=8) bP.nd rfl (Or.inl rfl)) dM))))
   (aE (aY (i:=10) bP.nd rfl (Or.inl rfl) (ak (aA (pv 6) (aA (pv 2) (aA (pv 8) aC)))))
   (aF (a9 (PW.pt (kS (aW lT (pv 2) (pv 6) (ah _)) (jv (aW (DY K (df hr)) (pv 10) (pv 1) (by rfl)))))
    (aF (bL (kZ K PySem.F.plainAttrs_list PySem.F.slot_list_append PySem.F.type_list_append dE (pv 9) (aA (ak (aA (pv 2) (aA (pv 6) (aA (aZ (mW rfl) (by rfl) T.Bc boot_max (aA (oO K (df hr) (pv 1) (ak (aA (pv 2) (aA (pv 6) (aA (pv 8) aC)))) (λ_ _=>rfl)) (aA (oO K (df hr) (pv 1) (pv 10) (λ_ _=>rfl)) aC))) aC)))) aC))))
    (ae))))))
  (aF (ab (aZ (cT K (df hr)) (by rfl) T.cv boot_sorted (aA (pv 9) aC))))))),?_⟩
 have hsz:(2000:Nat)<=sizeLine:=by decide
 refine λtd D0=>?_;have s1:=(aI.refl H).new (o:=gf td []) D0;have e1:(upd H td (gf td [])) td=some (gf td []):=aB;generalize upd H td (gf td [])=H1 at s1 e1 ⊢;obtain⟨dx,hx⟩:=hM.o;refine⟨_,rfl,x,dx,_,rfl,s1 _ _ hx,rfl,x,d,ms,rfl,hM.same s1,by lia,λr H2 us Nk _ e2 pm Q6=>?_⟩;have s2:=s1.trans Nk;have MQ:(hs us).Nodup:=(show(hs us).Perm (hs ms)from pm.map _).nodup_iff.mpr hM.nd;have KY:nB us:=λm hm=>aw m (pm.mem_iff.mp hm);have kn:=flat_keys MQ KY;have fl:=Bo KY;have ul:us.length<=12:=by rw[pm.length_eq];exact hl
 have nat:∀m∈us,Bj K H m.1 m.2:=λm hm=>hM.all m (pm.mem_iff.mp hm);have Pf:H2 td=some (gf td []):=Nk _ _ e1
 let I1:Nat->_->_->Prop:=λi σ H'=>∃(xs:TX)(v2 v3 v4 v5 v6 v7 v8:Option V),σ=[some (.ref x),some (.ref td),v2,v3,v4,v5,v6,v7,v8,none,none]/\aI H H'/\H' r=some (.lst (us.map (·.1)))/\H' td=some (gf td xs)/\(∀p∈xs,cK K H' p.2.1 p.1)/\xs.map (λp=>(p.1,p.2.2))=(ax (us.take i)).map λe=>(e.1,V.int e.2)
 refine⟨r,rfl,⟨_,af.of e2⟩,cM (K:=K) (a:=r) (xs:=us.map (·.1)) I1 ⟨[],none,none,none,none,none,none,none,rfl,s2,e2,Pf,λp hp=>absurd hp List.not_mem_nil,rfl⟩ (λi σ H' _ ⟨_,_,_,_,_,_,_,_,_,_,e,_⟩=>af.of e) ?_ ?_⟩
 ·rintro i y σ H3 hi ⟨xs,v2,v3,v4,v5,v6,v7,v8,rfl,s3,e3,d3,k3,m3⟩;rw[List.getElem?_map]at hi;cases ez:us[i]? with
  |none=>rw[ez]at hi;cases hi
  |some m =>
   rw[ez]at hi;obtain rfl:m.1=y:=Option.some.inj hi;have Pg:m∈us:=List.mem_of_getElem? ez;obtain⟨a,p,r2,zs,ea,h1,h2,h3,h4,h5⟩:=((nat m Pg).same s3).out;refine⟨a,_,ea,h1,rfl,_,_,rfl,_,_,rfl,_,_,rfl,_,_,rfl,rfl,?_⟩
   let I2:Nat->_->_->Prop:=λj σ H'=>∃(xs:TX)(v6 v7 v8:Option V),σ=[some (.ref x),some (.ref td),some (.int m.2.h),some (.int m.2.n),some (.ref p),some (.ref r2),v6,v7,v8,none,none]/\aI H H'/\H' r=some (.lst (us.map (·.1)))/\H' td=some (gf td xs)/\ar K H' p (zs.map (·.1))/\jO K H' zs/\(∀q∈xs,cK K H' q.2.1 q.1)/\xs.map (λp=>(p.1,p.2.2))=(ax (us.take i)++(m.2.near.take j).map (fW m)).map λe=>(e.1,V.int e.2)
   refine⟨_,rfl,p,rfl,⟨_,h2⟩,xY (K:=K) (a:=p) (xs:=zs.map (·.1)) I2 ⟨xs,v6,v7,v8,rfl,s3,e3,d3,h2,h3,k3,by rw[List.take_zero,List.map_nil,List.append_nil];exact m3⟩ (λj σ H' _ ⟨_,_,_,_,_,_,_,_,e,_⟩=>e) ?_ ?_⟩
   ·rintro j y σ H4 hj ⟨xs,v6,v7,v8,rfl,s4,e4,d4,p4,w4,k4,m4⟩;rw[List.getElem?_map]at hj;cases ej:zs[j]? with
    |none=>rw[ej]at hj;cases hj
    |some z =>
     rw[ej]at hj;obtain rfl:z.1=y:=Option.some.inj hj;have Ph:z∈zs:=List.mem_of_getElem? ej;have Nl:m.2.near[j]?=some z.2:=(by rw[<-h4,List.getElem?_map,ej];rfl);obtain⟨wa,wp,Pj,g1,g2⟩:=(w4 z Ph).out;refine⟨wa,_,Pj,g1,rfl,_,_,rfl,_,_,rfl,_,_,rfl,rfl,?_⟩;obtain⟨R,hR⟩:=wg ez Nl;have Gj:[m.2.h,z.2.o,z.2.a,z.2.b]∉xs.map (·.1):=by rw[yP m4];have:=kn;rw[hR,List.map_append]at this;intro sQ;exact(List.nodup_append.mp this).2.2 _ sQ _ (List.mem_map.mpr ⟨fW m z.2,List.mem_cons_self,rfl⟩) rfl
     have xl:xs.length<=60:=by have:=congrArg List.length m4;rw[List.length_map,List.length_map]at this;have h6:=congrArg List.length hR;rw[List.length_append,List.length_cons]at h6;lia
     refine⟨_,rfl,_,rfl,_,rfl,_,rfl,_,rfl,zz3,λtp qK=>?_⟩;have s5:=(aI.refl H4).new (o:=.tup [.int m.2.h,.int z.2.o,.ref wp]) qK;have t5:cK K (upd H4 tp (.tup [.int m.2.h,.int z.2.o,.ref wp])) tp [m.2.h,z.2.o,z.2.a,z.2.b]:=⟨.inr ⟨_,_,_,_,wp,rfl,ar.of aB,s5.tup g2⟩⟩;generalize upd H4 tp (.tup [.int m.2.h,.int z.2.o,.ref wp])=H5 at s5 t5;have d5:=s5 _ _ d4;have k5:∀q∈xs,cK K H5 q.2.1 q.1:=λq hq=>(k4 q hq).same s5;refine⟨td,tp,xs,_,rfl,rfl,⟨.inl d5,k5⟩,d5,t5,by lia,?_⟩;rw[o7 Gj];have kp:=bI (o:=gf td (xs++[([m.2.h,z.2.o,z.2.a,z.2.b],tp,V.int z.2.q)])) (mO.Jd d5);have Pk:r≠td:=kA (s5 _ _ e4) d5 (by intro z;cases z);refine⟨xs++[([m.2.h,z.2.o,z.2.a,z.2.b],tp,V.int z.2.q)],_,_,_,rfl,(s4.trans s5).put D0,by rw[aL Pk];exact s5 _ _ e4,aB,kp.tup (s5.tup p4),(w4.same s5).kept kp,λq hq=>?_,?_⟩
     ·rcases List.mem_append.mp hq with h|h
      ·exact(k5 q h).kept kp
      rw[List.mem_singleton.mp h];exact t5.kept kp
     rw[take_succ Nl,List.map_append,m4,List.map_append (l₁:=m.2.near.take j),<-List.append_assoc,List.map_append (l₂:=List.map (fW m) [z.2])];rfl
   rintro σ H4 ⟨xs,v6,v7,v8,rfl,s4,e4,d4,p4,w4,k4,m4⟩;have KZ:(zs.map (·.1)).length=m.2.near.length:=(by rw[<-h4,List.length_map,List.length_map]);rw[KZ,List.take_length]at m4;refine⟨xs,_,_,_,_,_,_,_,rfl,s4,e4,d4,k4,?_⟩;rw[m4,take_succ ez,pP,ux]
 rintro σ H3 ⟨xs,v2,v3,v4,v5,v6,v7,v8,rfl,s3,e3,d3,k3,m3⟩;rw[List.length_map,List.take_length]at m3;refine⟨zz0,λst xX=>?_⟩;have s4:=(aI.refl H3).new (o:=.lst []) xX;have e4:(upd H3 st (.lst [])) st=some (.lst []):=aB;have MR:H st=none:=s3.free xX;generalize upd H3 st (.lst [])=H4 at s4 e4 ⊢;have xl:xs.length<=60:=by have:=congrArg List.length m3;rw[List.length_map,List.length_map]at this;lia
 have d4:=s4 _ _ d3;refine⟨_,rfl,td,xs,rfl,d4,λu ou=>?_⟩;have kz:=bI (o:=u) (mO.Jd d4);have s5:aI H (upd H4 td u):=(s3.trans s4).put D0;have Nm:st≠td:=kA e4 d4 (by intro z;cases z);have e5:(upd H4 td u) st=some (.lst []):=by rw[aL Nm];exact e4
 have k5:∀p∈xs,cK K (upd H4 td u) p.2.1 p.1:=λp hp=>((k3 p hp).same s4).kept kz;have d5:(upd H4 td u) td=some u:=aB;generalize upd H4 td u=H5 at s5 e5 k5 d5 ⊢
 let I3:Nat->_->_->Prop:=λi σ H'=>∃(zs:List (V×T3))(v2 v3 v4 v5 v6 v7 v8 v10:Option V),σ=[some (.ref x),some (.ref td),v2,v3,v4,v5,v6,v7,v8,some (.ref st),v10]/\aI H H'/\H' td=some u/\(∀p∈xs,cK K H' p.2.1 p.1)/\H' st=some (.lst (zs.map (·.1)))/\qR K H' zs/\zs.map (·.2)=((ax us).take i).filterMap (dh (ax us))
 refine o8 (d:=td) (u:=u) (xs:=xs) I3 ⟨[],v2,v3,v4,v5,v6,v7,v8,none,rfl,s5,d5,k5,e5,λz hz=>absurd hz List.not_mem_nil,rfl⟩ (λi σ H' _ ⟨_,_,_,_,_,_,_,_,_,_,_,e,_⟩=>e) ?_ ?_
 ·rintro i p σ H6 hi ⟨zs,v2,v3,v4,v5,v6,v7,v8,v10,rfl,s6,d6,k6,e6,t6,m6⟩;have eL:∃e,(ax us)[i]?=some e/\p.1=e.1/\p.2.2=.int e.2:=by
   have:(xs.map λp=>(p.1,p.2.2))[i]?=some (p.1,p.2.2):=(by rw[List.getElem?_map,hi];rfl);rw[m3,List.getElem?_map]at this;cases ee:(ax us)[i]? with
   |none=>rw[ee]at this;cases this
   |some e =>
    rw[ee]at this;obtain⟨z1,z2⟩:=Prod.mk.inj (Option.some.inj this);exact⟨e,rfl,z1.symm,z2.symm⟩
  obtain⟨e,ee,Je,Nn⟩:=eL;obtain⟨m,hm,ww,Q7,rfl⟩:=fI.mp (List.mem_of_getElem? ee);have Np:=k6 p (List.mem_of_getElem? hi);rw[Je]at Np;rcases Np.ex with⟨_,_,z,_⟩|⟨h,o,a,b,pb,z,g1,g2⟩
  ·simp at z
  simp only[List.cons.injEq,and_true]at z;obtain⟨rfl,rfl,rfl,rfl⟩:=z;have KZ:zs.length<=60:=by have:=congrArg List.length m6;rw[List.length_map]at this;have h2:=List.length_filterMap_le (dh (ax us)) ((ax us).take i);rw[List.length_take]at h2;lia
  refine⟨p.2.1,_,rfl,g1,rfl,_,_,rfl,_,_,rfl,_,_,rfl,rfl,?_⟩;refine⟨_,rfl,_,rfl,_,rfl,zz3,λbk Pl=>?_⟩;have s7:=(aI.refl H6).new (o:=.tup [.int ww.o,.int m.2.h,.ref pb]) Pl;have tb:cK K (upd H6 bk (.tup [.int ww.o,.int m.2.h,.ref pb])) bk [ww.o,m.2.h,ww.a,ww.b]:=⟨.inr ⟨_,_,_,_,pb,rfl,ar.of aB,s7.tup g2⟩⟩;generalize upd H6 bk (.tup [.int ww.o,.int m.2.h,.ref pb])=H7 at s7 tb ⊢;have d7:=s7 _ _ d6;have k7:∀p∈xs,cK K H7 p.2.1 p.1:=λp hp=>(k6 p hp).same s7;have j8:dh (ax us) ([m.2.h,ww.o,ww.a,ww.b],ww.q)=none->I3 (i+1) [some (.ref x),some (.ref td),some (.int m.2.h),v3,v4,v5,some (.int ww.o),v7,some (.ref pb),some (.ref st),some (.ref bk)] H7:=λKa=>by refine⟨zs,_,_,_,_,_,_,_,_,rfl,s6.trans s7,d7,k7,s7 _ _ e6,t6.same s7,?_⟩;rw[take_succ ee,List.filterMap_append,m6,List.filterMap_cons,Ka];simp
  refine⟨_,rfl,_,rfl,_,_,rfl,rfl,_,rfl,?_⟩;by_cases bq:m.2.h<ww.o
  ·refine dS bq ?_;refine⟨_,rfl,_,rfl,td,bk,xs,_,rfl,rfl,⟨.inr ⟨u,d7,ou⟩,k7⟩,tb,_,rfl,?_⟩;show if decide ([ww.o,m.2.h,ww.a,ww.b]∈xs.map (·.1))=true then _ else _;have vb:=sr m3 [ww.o,m.2.h,ww.a,ww.b];by_cases BH:[ww.o,m.2.h,ww.a,ww.b]∈xs.map (·.1)
   ·refine dS BH ?_;have Jf:(jB xs [ww.o,m.2.h,ww.a,ww.b]).isSome=true:=(by rw[dX,decide_eq_true BH]);rw[vb,Option.isSome_map]at Jf;obtain⟨q2,JP⟩:=Option.isSome_iff_exists.mp Jf;rw[JP]at vb;have va:jB xs [m.2.h,ww.o,ww.a,ww.b]=some (.int ww.q):=by rw[sr m3,(dY kn).mpr (List.mem_of_getElem? ee)];rfl
    refine⟨_,rfl,.inl ⟨rfl,_,af.of (s7 _ _ e6)⟩,_,rfl,_,rfl,_,rfl,_,rfl,_,rfl,_,rfl,zz3,λkt Jg=>?_⟩;have s8:=(aI.refl H7).new (o:=.tup [.int m.2.h,.int ww.o,.ref pb]) Jg;have tk:cK K (upd H7 kt (.tup [.int m.2.h,.int ww.o,.ref pb])) kt [m.2.h,ww.o,ww.a,ww.b]:=⟨.inr ⟨_,_,_,_,pb,rfl,ar.of aB,s8.tup (s7.tup g2)⟩⟩;generalize upd H7 kt (.tup [.int m.2.h,.int ww.o,.ref pb])=H8 at s8 tk;have Nq:TD K H8 td xs:=⟨.inr ⟨u,s8 _ _ d7,ou⟩,λp hp=>(k7 p hp).same s8⟩;refine⟨td,kt,xs,_,_,rfl,rfl,Nq,tk,va,_,rfl,_,rfl,td,bk,xs,_,_,rfl,rfl,Nq,tb.same s8,vb,ww.q,q2,rfl,zz3,λtp qK=>?_⟩;have s9:=(aI.refl H8).new (o:=.tup [.int m.2.h,.int ww.o,.int (if q2>ww.q then q2 else ww.q)]) qK;have dn:aQ K (upd H8 tp (.tup [.int m.2.h,.int ww.o,.int (if q2>ww.q then q2 else ww.q)])) 2 (.ref tp) (qC (m.2.h,ww.o,if q2>ww.q then q2 else ww.q)):=by
     refine .tup (ar.of aB) rfl λi v d e1 e2=>?_
     match i with
     |0=>cases e1;cases e2;exact .int _
     |1=>cases e1;cases e2;exact .int _
     |2=>cases e1;cases e2;exact .int _
     |i+3=>simp at e1
    generalize upd H8 tp (.tup [.int m.2.h,.int ww.o,.int (if q2>ww.q then q2 else ww.q)])=H9 at s9 dn;have HN:=s7.trans (s8.trans s9);refine⟨st,_,_,rfl,rfl,HN _ _ e6,by rw[List.length_map];lia,?_⟩;have kp:=bI (o:=.lst (zs.map (·.1)++[V.ref tp])) (mO.lst (HN _ _ e6));refine⟨zs++[(.ref tp,(m.2.h,ww.o,if q2>ww.q then q2 else ww.q))],_,_,_,_,_,_,_,_,rfl,(s6.trans HN).put MR,by rw[aL (Ne.symm Nm)];exact HN _ _ d6,λp hp=>((k6 p hp).same HN).kept kp,by rw[aB,List.map_append];rfl,λz hz=>?_,?_⟩
    ·rcases List.mem_append.mp hz with h|h
     ·exact((t6 z h).same HN).kept kp (uw _)
     rw[List.mem_singleton.mp h];exact dn.kept kp (uw _)
    rw[take_succ ee,List.filterMap_append,List.map_append,m6,List.filterMap_cons];have:dh (ax us) ([m.2.h,ww.o,ww.a,ww.b],ww.q)=some (m.2.h,ww.o,if q2>ww.q then q2 else ww.q):=by unfold dh;simp only;rw[if_pos bq,JP];rfl
    rw[this];rfl
   refine dR BH ?_;refine j8 ?_;unfold dh;simp only;rw[if_pos bq];have Jf:(jB xs [ww.o,m.2.h,ww.a,ww.b]).isSome=false:=(by rw[dX,decide_eq_false BH]);rw[vb,Option.isSome_map]at Jf;have:jS (ax us) [ww.o,m.2.h,ww.a,ww.b]=none:=(by simpa using Jf);rw[this];rfl
  refine dR bq ?_;refine j8 ?_;unfold dh;simp only;rw[if_neg bq]
 rintro σ H6 ⟨zs,v2,v3,v4,v5,v6,v7,v8,v10,rfl,s6,d6,k6,e6,t6,m6⟩;have Pm:xs.length=(ax us).length:=by
  have:=congrArg List.length m3
  rwa [List.length_map,List.length_map]at this
 rw[Pm,List.take_length]at m6;have KZ:zs.length<=60:=by have:=congrArg List.length m6;rw[List.length_map]at this;have h2:=List.length_filterMap_le (dh (ax us)) (ax us);lia
 refine⟨_,rfl,true,st,zs.map λz=>(z.1,qC z.2),rfl,by rw[List.map_map];exact af.of e6,by rw[List.length_map];lia,λy hy=>?_,by have:=Jc (zs.map (·.2));rw[List.map_map]at this ⊢;exact this,λys r2 hp yK wQ=>?_⟩
 ·obtain⟨z,hz,rfl⟩:=List.mem_map.mp hy;exact aQ.up (t6 z hz) (by decide)
 obtain⟨vs,Bi,rfl⟩:=perm_back (λz:V×T3=>(z.1,qC z.2)) hp zs rfl;have s7:=(aI.refl H6).new (o:=.lst ((vs.map λz=>(z.1,qC z.2)).map (·.1))) wQ;have Jh:(vs.map (·.2)).Perm (Bm (ax us)):=by have:=Bi.map (·.2);rw[m6]at this;exact this
 refine q r2 _ (vs.map (·.2)) (s6.trans s7) (s6.free wQ) ⟨vs,by rw[aB,List.map_map];rfl,λz hz=>(t6 z (Bi.mem_iff.mp hz)).same s7,rfl⟩ (λtt=>?_) ?_ (by rw[List.length_map,Bi.length_eq];exact KZ)
 ·rw[Jh.mem_iff,Dz MQ KY];unfold cL;refine and_congr_right λ_=>?_;constructor
  ·rintro⟨m1,h1,m2,h2,z⟩;exact⟨m1,pm.mem_iff.mp h1,m2,pm.mem_iff.mp h2,z⟩
  rintro⟨m1,h1,m2,h2,z⟩;exact⟨m1,pm.mem_iff.mpr h1,m2,pm.mem_iff.mpr h2,z⟩
 have pw:(vs.map (·.2)).Pairwise λs t=>(s.1,s.2.1)≠(t.1,t.2.1):=(Jh.pairwise_iff λ{a b} h=>h.symm).mpr (Bn MQ KY);have so:(vs.map (·.2)).Pairwise λs t=>bD (qC t) (qC s)=false:=by rw[List.pairwise_map]at yK ⊢;exact yK
 refine(so.and pw).imp λ{s t} ⟨h1,h2⟩=>?_;rw[Bp,decide_eq_false_iff_not]at h1;by_cases h:eR s<eR t
 ·exact h
 exact absurd (by rw[uu (List.le_antisymm (List.not_lt.mp h1) (List.not_lt.mp h))]) h2
def oV:Option Int->V
 |none=>.bS
 |some n=>.int n
structure mP(K:PySem.W.Frag)(H:Hp)(l:Addr)(ps:List (Int×Int)):Prop where
 ex:∃zs:List (Addr×Int×Int),H l=some (.lst (zs.map λz=>V.ref z.1))/\(∀z∈zs,ar K H z.1 [.int z.2.1,.int z.2.2])/\zs.map (·.2)=ps
theorem mP.same{K:PySem.W.Frag}{H H':Hp}{l:Addr}{ps:List (Int×Int)}(h:mP K H l ps)(s:aI H H'):mP K H' l ps:=by obtain⟨zs,h1,h2,h3⟩:=h.ex;exact⟨zs,s _ _ h1,λz hz=>s.tup (h2 z hz),h3⟩
theorem wo:∀{l:List Wr},(l.map (·.o)).Nodup->∀{a b:Wr},a∈l->b∈l->a.o=b.o->a=b
 |[],_,_,_,h,_,_=>absurd h List.not_mem_nil
 |x::l,nd,a,b,ha,hb,e=>by
  rw[List.map_cons]at nd;obtain⟨h1,h2⟩:=List.nodup_cons.mp nd;rcases List.mem_cons.mp ha with rfl|ha
  ·rcases List.mem_cons.mp hb with rfl|hb
   ·rfl
   exact absurd (List.mem_map.mpr ⟨b,hb,e.symm⟩) h1
  rename_i Q8;rcases List.mem_cons.mp hb with hb|hb
  ·exact absurd (List.mem_map.mpr ⟨a,ha,by rw[e,hb]⟩) h1
  exact wo h2 ha hb e
theorem nj{ms:Ms}(nd:(hs ms).Nodup)(ok:nB ms){s t:T3}(hs':cL ms s)(ht:cL ms t)(e1:s.1=t.1)(e2:s.2.1=t.2.1):s=t:=by obtain⟨_,m1,h1,m2,h2,w1,g1,w2,g2,a1,a2,a3,a4,_,_,a5⟩:=hs';obtain⟨_,n1,k1,n2,k2,v1,f1,v2,f2,b1,b2,b3,b4,_,_,b5⟩:=ht;obtain rfl:=sm nd h1 k1 (by lia);obtain rfl:=sm nd h2 k2 (by lia);obtain rfl:=wo (ok m1 h1).1 g1 f1 (by lia);obtain rfl:=wo (ok m2 h2).1 g2 f2 (by lia);exact Prod.ext e1 (Prod.ext e2 (by rw[a5,b5]))
theorem pR{K:PySem.W.Frag}{H:Hp}{n:Nat}{v:V}{t:T3}(h:aQ K H n v (qC t)):∃a,v=.ref a/\ar K H a [.int t.1,.int t.2.1,.int t.2.2]:=by
 cases n with
 |zero=>cases h
 |succ n =>
  obtain⟨a,xs,rfl,h1,h2,h3⟩:=sW h
  match xs,h2 with
  |[x,y,z],_ =>
   obtain rfl:=mH (h3 0 x _ rfl rfl);obtain rfl:=mH (h3 1 y _ rfl rfl);obtain rfl:=mH (h3 2 z _ rfl rfl);exact⟨a,rfl,h1⟩
def HP(t:T3):List (Tk×Int):=[([t.1,t.2.1],t.2.2),([t.2.1,t.1],t.2.2)]
def bZ(ts:List T3):List (Tk×Int):=ts.flatMap HP
structure uy(ts:List T3):Prop where
 lt:∀t∈ts,t.1<t.2.1
 pw:ts.Pairwise λs t=>¬(s.1=t.1/\s.2.1=t.2.1)
theorem bB{ts:List T3}{e:Tk×Int}:e∈bZ ts↔∃t∈ts,e=([t.1,t.2.1],t.2.2)\/e=([t.2.1,t.1],t.2.2):=by unfold bZ HP;rw[List.mem_flatMap];simp only[List.mem_cons,List.not_mem_nil,or_false]
theorem jT:∀{ts:List T3},uy ts->((bZ ts).map (·.1)).Nodup
 |[],_=>List.nodup_nil
 |t::ts,h=>by
  obtain⟨p1,p2⟩:=List.pairwise_cons.mp h.pw;have ih:=jT (ts:=ts) ⟨λs hs=>h.lt s (List.mem_cons_of_mem _ hs),p2⟩;have t0:=h.lt t List.mem_cons_self;have no:∀k,k=[t.1,t.2.1]\/k=[t.2.1,t.1]->k∉(bZ ts).map (·.1):=λk hk hm=>by obtain⟨e,he,rfl⟩:=List.mem_map.mp hm;obtain⟨s,hs,z⟩:=bB.mp he;have s0:=h.lt s (List.mem_cons_of_mem _ hs);have:=p1 s hs;rcases z with rfl|rfl<;>rcases hk with hk|hk<;>simp only[List.cons.injEq,and_true]at hk<;>lia
  show(([t.1,t.2.1]::[t.2.1,t.1]::(bZ ts).map (·.1))).Nodup;refine List.nodup_cons.mpr ⟨λz=>?_,List.nodup_cons.mpr ⟨no _ (.inr rfl),ih⟩⟩;rcases List.mem_cons.mp z with z|z
  ·simp only[List.cons.injEq,and_true]at z;lia
  exact no _ (.inl rfl) z
theorem yQ(a b:List T3):bZ (a++b)=bZ a++bZ b:=by unfold bZ;rw[List.flatMap_append]
theorem yR(ts:List T3):(bZ ts).length=2*ts.length:=by
 induction ts with
 |nil=>rfl
 |cons t ts ih =>
  show(HP t++bZ ts).length=_;rw[List.length_append,ih,List.length_cons];show 2+_=_;lia
structure qS(K:PySem.W.Frag)(H:Hp)(td:Addr)(L:List (Tk×Int))(xs:TX):Prop where
 d:H td=some (gf td xs)
 k:∀p∈xs,cK K H p.2.1 p.1
 m:xs.map (λp=>(p.1,p.2.2))=L.map λe=>(e.1,V.int e.2)
theorem qS.same{K:PySem.W.Frag}{H H':Hp}{td:Addr}{L:List (Tk×Int)}{xs:TX}(h:qS K H td L xs)(s:aI H H'):qS K H' td L xs:=⟨s _ _ h.d,λp hp=>(h.k p hp).same s,h.m⟩
def kJ(K:PySem.W.Frag)(C:Addr):Sp:=λvs H Q _=>∃(x d:Addr)(ms:Ms),vs=[.ref x]/\jR K C H x d ms/\ms.length<=12/\nB ms/\∀(td:Addr)(H':Hp)(ts:List T3)(xs:TX),aI H H'->H td=none->qS K H' td (bZ ts) xs->(∀t,t∈ts↔cL ms t)->uy ts->ts.length<=60->Q (.ref td) H'
theorem cO:aV ["chart","lengths","one","other","length"] ["chart"] (aH eF):=⟨rfl,rfl,rfl,by decide +kernel,rfl,by decide +kernel,by decide +kernel⟩
set_option maxHeartbeats 2000000 in
theorem qT{fw:FuncData}(F:aM K mg "lengths_of" eF)(T:Txt K mg t)(j5:cf P w K mg base (qI P w) 2 t.j3 fw ["self"] (pQ K t.Map))(j6:Binds K fw ["self"] []):Def P w K mg base 3 "lengths_of" ["chart"] (kJ K t.Map):=by
 refine F.def cO (λ_ _ _ _ _ _ us hl=>match us,hl with|[_],_=>rfl) (λvs H Q E h=>?_) (λf bf A outer s H vs Q E hr h=>?_)
 ·obtain⟨x,d,ms,rfl,_⟩:=h;rfl
 obtain⟨x,d,ms,rfl,hM,hl,aw,q⟩:=h;refine⟨_,aE (aY (i:=1) cO.nd rfl (Or.inl rfl) x8)
  (aE (PS.rj (bJ PassesOwn.never rfl (bC K (oX (pv 0) T.pJ T.uh (j5.mono (by decide)) hr j6 .nil aq)) (hE rfl (aU (aK (i:=2) cO.nd rfl (Or.inl rfl)) (aU (aK (i:=3) cO.nd rfl (Or.inl rfl)) (aU (aK (i:=4) cO.nd rfl (Or.inl rfl)) dM))))
   (aE (sP K (df hr) (pv 1) (ak (aA (pv 2) (aA (pv 3) aC))) (pv 4) (by rfl))
   (aF (sP K (df hr) (pv 1) (ak (aA (pv 3) (aA (pv 2) aC))) (pv 4) (by rfl))))))
  (aF (ab (pv 1)))),?_⟩
 have hsz:(2000:Nat)<=sizeLine:=by decide
 refine λtd D0=>?_;have s1:=(aI.refl H).new (o:=gf td []) D0;have e1:(upd H td (gf td [])) td=some (gf td []):=aB;generalize upd H td (gf td [])=H1 at s1 e1 ⊢;obtain⟨dx,hx⟩:=hM.o;refine⟨_,rfl,x,dx,_,rfl,s1 _ _ hx,rfl,x,d,ms,rfl,hM.same s1,hl,aw,λr H2 ts s2 nr w2 m2 p2 tl=>?_⟩;have Pn:∀t∈ts,t.1<t.2.1:=λt ht=>((m2 t).mp ht).1;have Br:uy ts:=⟨Pn,p2.imp_of_mem λ{s t} hs ht h e=>by have:=nj hM.nd aw ((m2 s).mp hs) ((m2 t).mp ht) e.1 e.2;rw[this]at h;exact List.lt_irrefl _ h⟩
 have kn:=jT Br;obtain⟨zs,z1,z2,z3⟩:=w2;have S2:=s1.trans s2;have Po:r≠td:=λz=>by rw[z,e1]at nr;cases nr
 let I:Nat->_->_->Prop:=λi σ H'=>∃(xs:TX)(v2 v3 v4:Option V),σ=[some (.ref x),some (.ref td),v2,v3,v4]/\aI H H'/\H' r=some (.lst (zs.map (·.1)))/\qR K H' zs/\qS K H' td (bZ (ts.take i)) xs
 refine⟨r,rfl,⟨_,af.of z1⟩,cM (K:=K) (a:=r) (xs:=zs.map (·.1)) I ⟨[],none,none,none,rfl,S2,z1,z2,s2 _ _ e1,λp hp=>absurd hp List.not_mem_nil,rfl⟩ (λi σ H' _ ⟨_,_,_,_,_,_,e,_⟩=>af.of e) ?_ ?_⟩
 ·rintro i y σ H3 hi ⟨xs,v2,v3,v4,rfl,s3,e3,t3,l3⟩;rw[List.getElem?_map]at hi;cases ez:zs[i]? with
  |none=>rw[ez]at hi;cases hi
  |some z =>
   rw[ez]at hi;obtain rfl:z.1=y:=Option.some.inj hi;have et:ts[i]?=some z.2:=(by rw[<-z3,List.getElem?_map,ez];rfl);obtain⟨za,ea,g1⟩:=pR (t3 z (List.mem_of_getElem? ez));refine⟨za,_,ea,g1,rfl,_,_,rfl,_,_,rfl,_,_,rfl,rfl,?_⟩;have i1:i<ts.length:=(List.getElem?_eq_some_iff.mp et).1;have xl:xs.length<=200:=by have:=congrArg List.length l3.m;rw[List.length_map,List.length_map,yR,List.length_take]at this;lia
   have one:∀{H4:Hp}{xs:TX}{L R:List (Tk×Int)}{a b l:Int}{k:Addr},H4 k=none->bZ ts=L++([a,b],l)::R->aI H H4->H4 r=some (.lst (zs.map (·.1)))->qR K H4 zs->qS K H4 td L xs->xs.length<=300->cK K (upd H4 k (.tup [.int a,.int b])) k [a,b]/\TD K (upd H4 k (.tup [.int a,.int b])) td xs/\(upd H4 k (.tup [.int a,.int b])) td=some (gf td xs)/\aI H (upd (upd H4 k (.tup [.int a,.int b])) td (gf td (iE xs [a,b] k (.int l))))/\(upd (upd H4 k (.tup [.int a,.int b])) td (gf td (iE xs [a,b] k (.int l)))) r=some (.lst (zs.map (·.1)))/\qR K (upd (upd H4 k (.tup [.int a,.int b])) td (gf td (iE xs [a,b] k (.int l)))) zs/\qS K (upd (upd H4 k (.tup [.int a,.int b])) td (gf td (iE xs [a,b] k (.int l)))) td (L++[([a,b],l)]) (iE xs [a,b] k (.int l))/\(iE xs [a,b] k (.int l)).length<=xs.length+1:=by
    intro H4 xs L R a b l k hk hL s4 r4 t4 l4 xl;have s5:=(aI.refl H4).new (o:=.tup [.int a,.int b]) hk;have t5:cK K (upd H4 k (.tup [.int a,.int b])) k [a,b]:=⟨.inl ⟨_,_,rfl,ar.of aB⟩⟩;generalize upd H4 k (.tup [.int a,.int b])=H5 at s5 t5 ⊢;have Gj:[a,b]∉xs.map (·.1):=by rw[yP l4.m];have:=kn;rw[hL,List.map_append]at this;intro sQ;exact(List.nodup_append.mp this).2.2 _ sQ _ (List.mem_map.mpr ⟨([a,b],l),List.mem_cons_self,rfl⟩) rfl
    have d5:=s5 _ _ l4.d;rw[o7 Gj];have kp:=bI (o:=gf td (xs++[([a,b],k,V.int l)])) (mO.Jd d5);have k5:∀q∈xs,cK K H5 q.2.1 q.1:=λq hq=>(l4.k q hq).same s5;refine⟨t5,⟨.inl d5,k5⟩,d5,(s4.trans s5).put D0,by rw[aL Po];exact s5 _ _ r4,λz hz=>((t4 z hz).same s5).kept kp (uw _),⟨aB,λq hq=>?_,?_⟩,by rw[List.length_append];exact Nat.le_refl _⟩
    ·rcases List.mem_append.mp hq with h|h
     ·exact(k5 q h).kept kp
     rw[List.mem_singleton.mp h];exact t5.kept kp
    rw[List.map_append,l4.m,List.map_append];rfl
   obtain⟨R,hR⟩:∃R,bZ ts=bZ (ts.take i)++(HP z.2++R):=by obtain⟨j1,j2⟩:=List.getElem?_eq_some_iff.mp et;refine⟨bZ (ts.drop (i+1)),?_⟩;have e1:ts=ts.take i++z.2::ts.drop (i+1):=(by rw[<-j2,List.getElem_cons_drop,List.take_append_drop]);have:bZ (ts.take i++z.2::ts.drop (i+1))=bZ (ts.take i)++(HP z.2++bZ (ts.drop (i+1))):=(by rw[yQ];rfl);rw[<-this,<-e1]
   refine⟨_,rfl,_,rfl,_,rfl,_,rfl,zz2,λk1 E4=>?_⟩;obtain⟨a1,a2,a3,a4,a5,a6,a7,a8⟩:=one E4 hR s3 e3 t3 l3 (by lia);refine⟨td,k1,xs,_,rfl,rfl,a2,a3,a1,by lia,?_⟩;generalize upd (upd H3 k1 (.tup [.int z.2.1,.int z.2.2.1])) td (gf td (iE xs [z.2.1,z.2.2.1] k1 (.int z.2.2.2)))=H4 at a4 a5 a6 a7;generalize iE xs [z.2.1,z.2.2.1] k1 (.int z.2.2.2)=Pp at a7 a8;refine⟨_,rfl,_,rfl,_,rfl,_,rfl,zz2,λk2 wU=>?_⟩;obtain⟨b1,b2,b3,b4,b5,b6,b7,b8⟩:=one wU (L:=bZ (ts.take i)++[([z.2.1,z.2.2.1],z.2.2.2)]) (R:=R) (a:=z.2.2.1) (b:=z.2.1) (l:=z.2.2.2) (by rw[hR];unfold HP;simp) a4 a5 a6 a7 (by lia);refine⟨td,k2,Pp,_,rfl,rfl,b2,b3,b1,by lia,?_⟩;rw[List.append_assoc]at b7;exact⟨_,_,_,_,rfl,b4,b5,b6,by rw[take_succ et,yQ];exact b7⟩
 rintro σ H3 ⟨xs,v2,v3,v4,rfl,s3,e3,t3,l3⟩;have:(zs.map (·.1)).length=ts.length:=by rw[<-z3,List.length_map,List.length_map]
 rw[this,List.take_length]at l3;exact⟨_,rfl,q td H3 ts xs s3 D0 l3 m2 Br tl⟩
abbrev Hv:=List (Int×Int)
def gx(p:Int×Int):Key×V:=(Sum.inl p.1,.int p.2)
def lk(hv:Hv)(h:Int):Option Int:=(hv.find? λp=>decide (p.1=h)).map (·.2)
def jU(hv:Hv)(h n:Int):Hv:=if h∈hv.map (·.1)then hv.map (λp=>if p.1=h then(h,n)else p)else hv++[(h,n)]
theorem jV(hv:Hv)(h:Int):dg (hv.map gx) (Sum.inl h)=(lk hv h).map V.int:=by
 unfold dg lk;rw[List.find?_map,Option.map_map,Option.map_map];have e:((λkv:Key×V=>decide (kv.1=Sum.inl h))∘gx)=λp:Int×Int=>decide (p.1=h):=by
  funext m
  simp[gx]
 rw[e];rfl
theorem E5(hv:Hv)(h n:Int):putK (hv.map gx) (Sum.inl h) (.int n)=(jU hv h n).map gx:=by
 unfold putK jU;have e:((hv.map gx).any λkv=>decide (kv.1=Sum.inl h))=decide (h∈hv.map (·.1)):=by
  rw[List.any_map,Bool.eq_iff_iff,List.any_eq_true,decide_eq_true_iff,List.mem_map];constructor
  ·rintro⟨m,hm,h⟩;exact⟨m,hm,by simpa[gx]using h⟩
  rintro⟨m,hm,h⟩;exact⟨m,hm,by simp[gx,h]⟩
 rw[e];by_cases c:h∈hv.map (·.1)
 ·rw[if_pos (by simpa using c),if_pos c,List.map_map,List.map_map];refine List.map_congr_left λm _=>?_;show(if(gx m).1=Sum.inl h then((gx m).1,V.int n)else gx m)=gx (if m.1=h then(h,n)else m);by_cases c:m.1=h
  ·rw[if_pos c,if_pos (by simp[gx,c])];simp[gx,c]
  rw[if_neg c,if_neg (by simp[gx,c])]
 rw[if_neg (by simpa using c),if_neg c,List.map_append];rfl
theorem cw{hv:Hv}{h:Int}:lk hv h=none↔h∉hv.map (·.1):=by
 unfold lk;rw[Option.map_eq_none_iff,List.find?_eq_none];constructor
 ·intro a b;obtain⟨p,hp,e⟩:=List.mem_map.mp b;exact a p hp (by simpa using e)
 intro a p hp e;exact a (List.mem_map.mpr ⟨p,hp,by simpa using e⟩)
theorem dH(hv:Hv)(h n x:Int):lk (jU hv h n) x=if x=h then some n else lk hv x:=by
 unfold jU;by_cases c:h∈hv.map (·.1)
 ·rw[if_pos c];by_cases e:x=h
  ·subst e;rw[if_pos rfl];have key:∀l:Hv,x∈l.map (·.1)->lk (l.map λp=>if p.1=x then(x,n)else p) x=some n:=by
    intro l
    induction l with
    |nil=>intro z;cases z
    |cons p l ih =>
     intro z;unfold lk;rw[List.map_cons,List.find?_cons];by_cases d:p.1=x
     ·simp[d]
     simp only[d,if_false,decide_false];have:=ih ((List.mem_cons.mp z).resolve_left λe=>d e.symm);unfold lk at this;exact this
   exact key hv c
  rw[if_neg e];unfold lk
  congr 1
  clear c
  induction hv with
  |nil=>rfl
  |cons p l ih =>
   rw[List.map_cons,List.find?_cons,List.find?_cons,ih];by_cases d:p.1=h
   ·have h1:¬h=x:=λz=>e z.symm;simp[d,h1]
   simp[d]
 rw[if_neg c];unfold lk;rw[List.find?_append];by_cases e:x=h
 ·subst e;have:hv.find? (λp=>decide (p.1=x))=none:=by
   have:=cw.mpr c;unfold lk at this
   simpa using this
  rw[this];simp
 have:¬h=x:=λz=>e z.symm;simp[e,this]
theorem uz(hv:Hv)(h n:Int):(jU hv h n).map (·.1)=if h∈hv.map (·.1)then hv.map (·.1)else hv.map (·.1)++[h]:=by
 unfold jU;by_cases c:h∈hv.map (·.1)
 ·rw[if_pos c,if_pos c,List.map_map];refine List.map_congr_left λm _=>?_;show(if m.1=h then(h,n)else m).1=m.1;split
  ·rename_i c;exact c.symm
  rfl
 rw[if_neg c,if_neg c,List.map_append];rfl
theorem rM{hv:Hv}(nd:(hv.map (·.1)).Nodup)(h n:Int):((jU hv h n).map (·.1)).Nodup:=by
 rw[uz];split
 ·exact nd
 rename_i c;refine List.nodup_append.mpr ⟨nd,by simp,λa ha b hb=>?_⟩;rw[List.mem_singleton.mp hb];rintro rfl;exact c ha
theorem D1(hv:Hv)(h n:Int):(jU hv h n).length=if h∈hv.map (·.1)then hv.length else hv.length+1:=by
 have:=congrArg List.length (uz hv h n);rw[List.length_map]at this;rw[this];split
 ·rw[List.length_map]
 rw[List.length_append,List.length_map];rfl
structure Ht(L:List (Tk×Int))(goal:Int)(hv:Hv):Prop where
 nd:(hv.map (·.1)).Nodup
 g:lk hv goal=some 0
 pos:∀x n,lk hv x=some n->0<=n
 par:∀x n,lk hv x=some n->x≠goal->∃e l m,([x,e],l)∈L/\lk hv e=some m/\m+l<=n
 bd:∀x n,lk hv x=some n->n<=1000*((hv.length:Int)-1)
theorem Ht.start(L:List (Tk×Int))(goal:Int):Ht L goal [(goal,0)]:=by
 have one:∀x n,lk [(goal,0)] x=some n->x=goal/\n=0:=λx n h=>by
  unfold lk at h;by_cases c:goal=x
  ·subst c;simp at h;exact⟨rfl,h.symm⟩
  simp[c]at h
 refine⟨by simp,by simp[lk],λx n h=>?_,λx n h ne=>absurd (one x n h).1 ne,λx n h=>?_⟩
 ·rw[(one x n h).2];exact Int.le_refl _
 rw[(one x n h).2];show(0:Int)<=1000*(((1:Nat):Int)-1);decide
def Bs(hv:Hv)(b k:Int):Prop:=lk hv b=none\/∃n,lk hv b=some n/\k<n
theorem Ht.put{L:List (Tk×Int)}{goal:Int}{hv:Hv}(h:Ht L goal hv){b e l m:Int}(he:([b,e],l)∈L)(l1:1<=l)(l2:l<=1000)(hm:lk hv e=some m)(f:Bs hv b (m+l)):Ht L goal (jU hv b (m+l)):=by
 have m0:=h.pos _ _ hm;have bg:goal≠b:=λz=>by
  rcases f with f|⟨n,f,f2⟩
  ·rw[<-z,h.g]at f;cases f
  rw[<-z,h.g]at f;cases f;lia
 have be:e≠b:=λz=>by
  rcases f with f|⟨n,f,f2⟩
  ·rw[<-z,hm]at f;cases f
  rw[<-z,hm]at f;cases f;lia
 have len:(hv.length:Int)<=(jU hv b (m+l)).length/\(lk hv b=none->((jU hv b (m+l)).length:Int)=hv.length+1):=by
  rw[D1];constructor
  ·split<;>lia
  intro z;rw[if_neg (cw.mp z)];lia
 refine⟨rM h.nd _ _,by rw[dH,if_neg bg];exact h.g,λx n hx=>?_,λx n hx ne=>?_,λx n hx=>?_⟩
 ·rw[dH]at hx;split at hx
  ·cases hx;lia
  exact h.pos _ _ hx
 ·rw[dH]at hx;split at hx
  ·rename_i z;cases hx;rw[z];exact⟨e,l,m,he,by rw[dH,if_neg be];exact hm,Int.le_refl _⟩
  obtain⟨e',l',m',h1,h2,h3⟩:=h.par x n hx ne;by_cases c:e'=b
  ·rcases f with f|⟨n',f,f2⟩
   ·rw[c,f]at h2;cases h2
   rw[c,f]at h2;cases h2;exact⟨e',l',m+l,h1,by rw[dH,if_pos c],by lia⟩
  exact⟨e',l',m',h1,by rw[dH,if_neg c];exact h2,h3⟩
 rw[dH]at hx;split at hx
 ·cases hx;rcases f with f|⟨n',f,f2⟩
  ·have:=h.bd _ _ hm;have:=len.2 f;lia
  have:=h.bd _ _ f;lia
 have:=h.bd _ _ hx;lia
theorem cQ:∀(r fs:List Int),fs.Nodup->(∀x∈fs,x∈r)->fs.length<=r.length
 |[],fs,_,h=>by
  cases fs with
  |nil=>exact Nat.le_refl _
  |cons a b=>exact absurd (h a List.mem_cons_self) List.not_mem_nil
 |a::r,fs,nd,h=>by
  have ih:=cQ r (fs.erase a) (nd.erase a) λx hx=>by have Nr:=(nd.mem_erase_iff).mp hx;exact(List.mem_cons.mp (h x Nr.2)).resolve_left Nr.1
  rw[List.length_cons];by_cases ha:a∈fs
  ·rw[List.length_erase_of_mem ha]at ih;lia
  rw[List.erase_of_not_mem ha]at ih;lia
theorem Ht.size{L:List (Tk×Int)}{goal:Int}{hv:Hv}(h:Ht L goal hv):hv.length<=L.length+1:=by
 have:=cQ (goal::L.map λe=>e.1.headD 0) (hv.map (·.1)) h.nd λx hx=>by
  cases e:lk hv x with
  |none=>exact absurd hx (cw.mp e)
  |some n =>
   by_cases c:x=goal
   ·rw[c];exact List.mem_cons_self
   obtain⟨e',l',m',h1,_⟩:=h.par x n e c;exact List.mem_cons_of_mem _ (List.mem_map.mpr ⟨_,h1,rfl⟩)
 rw[List.length_map,List.length_cons,List.length_map]at this;exact this
theorem Bt{α:Type}(f g:α->Nat):∀l:List α,(∀x∈l,f x<=g x)->(l.map f).sum<=(l.map g).sum
 |[],_=>Nat.le_refl _
 |x::l,h=>by have:=Bt f g l λy hy=>h y (List.mem_cons_of_mem _ hy);have:=h x List.mem_cons_self;simp only[List.map_cons,List.sum_cons];lia
theorem Bu{α:Type}(f g:α->Nat):∀l:List α,(∀x∈l,f x<=g x)->(∃x∈l,f x<g x)->(l.map f).sum<(l.map g).sum
 |[],_,⟨_,h,_⟩=>absurd h List.not_mem_nil
 |x::l,h,⟨y,hy,hl⟩=>by
  have h0:=h x List.mem_cons_self;have h1:∀x∈l,f x<=g x:=λy hy=>h y (List.mem_cons_of_mem _ hy);simp only[List.map_cons,List.sum_cons];rcases List.mem_cons.mp hy with rfl|hy
  ·have:=Bt f g l h1;lia
  have:=Bu f g l h1 ⟨y,hy,hl⟩;lia
def mu(L:List (Tk×Int))(hv:Hv):Nat:=(L.map λe=>((lk hv (e.1.headD 0)).getD (1000*L.length+1)).toNat).sum
theorem Ht.Ji{L:List (Tk×Int)}{goal:Int}{hv:Hv}(h:Ht L goal hv){b e l m:Int}(he:([b,e],l)∈L)(l1:1<=l)(l2:l<=1000)(hm:lk hv e=some m)(f:Bs hv b (m+l)):mu L (jU hv b (m+l))<mu L hv:=by
 have h':=h.put he l1 l2 hm f;have m0:=h.pos _ _ hm;have key:(m+l).toNat<((lk hv b).getD (1000*L.length+1)).toNat:=by
  rcases f with f|⟨n,f,f2⟩
  ·have:=h'.bd b (m+l) (by rw[dH,if_pos rfl]);have:=h'.size;rw[f];show(m+l).toNat<(1000*(L.length:Int)+1).toNat;lia
  rw[f];show(m+l).toNat<n.toNat;lia
 unfold mu;refine Bu _ _ L (λx _=>?_) ⟨_,he,?_⟩
 ·rw[dH];split
  ·rename_i z;rw[z];exact Nat.le_of_lt key
  exact Nat.le_refl _
 rw[dH];show((if b=b then some (m+l)else lk hv b).getD _).toNat<((lk hv b).getD _).toNat;rw[if_pos rfl];exact key
def zi(hv:Hv)(e:Tk×Int):Prop:=∀b x,e.1=[b,x]->∀m,lk hv x=some m->∃n,lk hv b=some n/\n<=m+e.2
theorem u0{X:Cx}{pos:Pos}{k1 v1:Expr}{t1 u1:TE}(h1:PE X k1 t1)(g1:PE X v1 u1):PE X (.Dict [some k1] [v1] pos) (Er [(t1,u1)]) :=
 DI (A3 h1 g1 DH) rfl rfl (List.cons_ne_nil _ _) (show 1<=15 by decide)
def Sx(td:Addr)(H H':Hp):Prop:=∀b o,b≠td->H b=some o->H' b=some o
def Bv(L:List (Tk×Int)):Prop:=(L.map (·.1)).Nodup/\∀e∈L,∃a b,e.1=[a,b]/\1<=e.2/\e.2<=1000
def kK(K:PySem.W.Frag):Sp:=λvs H Q _=>∃(td:Addr)(goal:Int)(L:List (Tk×Int))(xs:TX),vs=[.ref td,.int goal]/\qS K H td L xs/\Bv L/\L.length<=1000/\∀(hd:Addr)(H':Hp)(hv:Hv),aI H H'->H hd=none->H' hd=some (.dK (hv.map gx))->Ht L goal hv->(∀e∈L,zi hv e)->Q (.ref hd) H'
theorem bV:aV ["lengths","goal","heights","falling","begin","end","height"] ["lengths","goal"] (aH eG):=⟨rfl,rfl,rfl,by decide +kernel,rfl,by decide +kernel,by decide +kernel⟩
set_option maxHeartbeats 2000000 in
theorem qU(F:aM K mg "heights_to" eG)(T:Txt K mg t):Def P w K mg base 1 "heights_to" ["lengths","goal"] (kK K):=by
 refine F.def bV (λ_ _ _ _ _ _ us hl=>match us,hl with|[_,_],_=>rfl) (λvs H Q E h=>?_) (λf bf A outer s H vs Q E hr h=>?_)
 ·obtain⟨td,goal,L,xs,rfl,_⟩:=h;rfl
 obtain⟨td,goal,L,xs,rfl,hL,Nt,ll,q⟩:=h;refine⟨_,aE (aY (i:=2) bV.nd rfl (Or.inl rfl) (u0 (pv 1) aG))
  (aE (aY (i:=3) bV.nd rfl (Or.inl rfl) gg)
  (aE (PS.rj (tq PassesOwn.never (cI (pv 3))
   (aE (aY (i:=3) bV.nd rfl (Or.inl rfl) gg)
   (aF (zS (bJ PassesOwn.never rfl (mw (pv 0)) (lh K (i:=4) (j:=5) rfl bV.nd rfl rfl (Or.inl rfl) (Or.inl rfl))
    (aF (a9 (oQ (vx (b9 hr) (pv 5) (pv 2)) (by rfl))
     (aE (aY (i:=6) bV.nd rfl (Or.inl rfl) (ao bK (eE (b9 hr) (pv 2) (pv 5) (λ_ _=>rfl)) (oO K (df hr) (pv 0) (ak (aA (pv 4) (aA (pv 5) aC))) (λ_ _=>rfl))))
     (aF (a9 (PW.pt (kB (oQ (mh (b9 hr) (pv 4) (pv 2)) (by rfl)) (kR (aW lT (pv 6) (eE (b9 hr) (pv 2) (pv 4) (λ_ _=>rfl)) (ah _)))))
      (aE (iA (b9 hr) (pv 2) (pv 4) (pv 6) (by rfl))
      (aF (aY (i:=3) bV.nd rfl (Or.inl rfl) gg)))
      (ae))))
     (ae)))))))))
  (aF (ab (pv 2))))),?_⟩
 have hsz:(20000:Nat)<=sizeLine:=by decide
 have Kb:∀{hd:Addr},H hd=none->hd≠td:=λz e=>by rw[e,hL.d]at z;cases z
 have MS:xs.length=L.length:=by
  have:=congrArg List.length hL.m
  rwa [List.length_map,List.length_map]at this
 refine λhd Jj=>⟨_,rfl,aB,[(Sum.inl goal,.int 0)],rfl,by show 1<=15;decide,?_⟩;have s1:aI H (upd (upd H hd (.dK [])) hd (.dK (fB [] [(Sum.inl goal,V.int 0)]))):=((aI.refl H).new Jj).put Jj;have e1:(upd (upd H hd (.dK [])) hd (.dK (fB [] [(Sum.inl goal,V.int 0)]))) hd=some (.dK ([(goal,(0:Int))].map gx)):=aB;generalize upd (upd H hd (.dK [])) hd (.dK (fB [] [(Sum.inl goal,V.int 0)]))=H1 at s1 e1 ⊢;have Jk:=Kb Jj
 let W:Nat->_->_->Prop:=λm σ H'=>∃(hv:Hv)(f:Bool)(v4 v5 v6:Option V),σ=[some (.ref td),some (.int goal),some (.ref hd),some (.bl f),v4,v5,v6]/\aI H H'/\H' hd=some (.dK (hv.map gx))/\Ht L goal hv/\((f=true/\m=mu L hv+1)\/(f=false/\m=0/\∀e∈L,zi hv e))
 refine⟨W,⟨_,[(goal,0)],true,none,none,none,rfl,s1,e1,Ht.start L goal,.inl ⟨rfl,rfl⟩⟩,?_⟩;rintro m σ H2 ⟨hv,f,v4,v5,v6,rfl,s2,e2,h2,hf⟩;refine⟨_,rfl,f,rfl,?_⟩;rcases hf.symm with⟨rfl,rfl,cl⟩|⟨rfl,rfl⟩
 ·refine c8 ?_;exact⟨_,rfl,q hd H2 hv s2 Jj e2 h2 cl⟩
 refine gh ⟨λσ' H'=>∃m',m'<mu L hv+1/\W m' σ' H',λσ' H' z=>z,?_⟩;have MT:=hL.same s2;refine⟨_,rfl,td,xs,rfl,MT.d,λu ou=>?_⟩;have kz:=bI (o:=u) (mO.Jd MT.d);have e3:(upd H2 td u) hd=some (.dK (hv.map gx)):=by rw[aL Jk];exact e2
 have d3:(upd H2 td u) td=some u:=aB;have k3:∀p∈xs,cK K (upd H2 td u) p.2.1 p.1:=λp hp=>(MT.k p hp).kept kz;have x3:Sx td H (upd H2 td u):=λb o nb e=>by rw[aL nb];exact s2 b o e
 generalize upd H2 td u=H3 at e3 d3 k3 x3 ⊢
 let J:Nat->_->_->Prop:=λi σ H'=>∃(lR:Hv)(f:Bool)(v4 v5 v6:Option V),σ=[some (.ref td),some (.int goal),some (.ref hd),some (.bl f),v4,v5,v6]/\Sx td H H'/\H' td=some u/\H' hd=some (.dK (lR.map gx))/\(∀p∈xs,cK K H' p.2.1 p.1)/\Ht L goal lR/\((f=true/\mu L lR<mu L hv)\/(f=false/\lR=hv/\∀e∈L.take i,zi hv e))
 refine o8 (d:=td) (u:=u) (xs:=xs) J ⟨hv,false,_,_,_,rfl,x3,d3,e3,k3,h2,.inr ⟨rfl,rfl,λe he=>absurd he (by simp)⟩⟩ (λi σ H' _ ⟨_,_,_,_,_,_,_,e,_⟩=>e) ?_ ?_
 ·rintro i p σ H4 hi ⟨lR,f,v4,v5,v6,rfl,x4,d4,e4,k4,h4,hf⟩;obtain⟨ed,ee,Je,Nn⟩:∃e,L[i]?=some e/\p.1=e.1/\p.2.2=.int e.2:=by
   have:(xs.map λp=>(p.1,p.2.2))[i]?=some (p.1,p.2.2):=(by rw[List.getElem?_map,hi];rfl);rw[hL.m,List.getElem?_map]at this;cases ee:L[i]? with
   |none=>rw[ee]at this;cases this
   |some e =>
    rw[ee]at this;obtain⟨z1,z2⟩:=Prod.mk.inj (Option.some.inj this);exact⟨e,rfl,z1.symm,z2.symm⟩
  have E6:=List.mem_of_getElem? ee;obtain⟨b,x,hk,l1,l2⟩:=Nt.2 ed E6;obtain⟨kk,l⟩:=ed;obtain rfl:kk=[b,x]:=hk;have pk:=k4 p (List.mem_of_getElem? hi);rw[Je]at pk;rcases pk.ex.symm with⟨_,_,_,_,_,z,_⟩|⟨_,_,z,g1⟩
  ·simp at z
  simp only[List.cons.injEq,and_true]at z;obtain⟨rfl,rfl⟩:=z;refine⟨p.2.1,_,rfl,g1,rfl,_,_,rfl,_,_,rfl,rfl,?_⟩;have Ni:=h4.size;have j8:∀{v6:Option V}{H5:Hp},Sx td H H5->H5 td=some u->H5 hd=some (.dK (lR.map gx))->(∀p∈xs,cK K H5 p.2.1 p.1)->zi lR ([b,x],l)->J (i+1) [some (.ref td),some (.int goal),some (.ref hd),some (.bl f),some (.int b),some (.int x),v6] H5:=λx5 d5 e5 k5 cl=>by
   refine⟨lR,f,_,_,_,rfl,x5,d5,e5,k5,h4,?_⟩;rcases hf with hf|⟨f1,f2,f3⟩
   ·exact .inl hf
   refine .inr ⟨f1,f2,λe he=>?_⟩;rw[take_succ ee]at he;rcases List.mem_append.mp he with he|he
   ·exact f3 e he
   rw[List.mem_singleton.mp he,<-f2];exact cl
  refine⟨_,rfl,_,rfl,hd,_,rfl,bx.k (k:=Sum.inl x) e4,?_⟩;rw[jV];cases em:lk lR x with
  |none =>
   refine⟨false,rfl,c8 ?_⟩;refine j8 x4 d4 e4 k4 λb' x' z m' AO=>?_;simp only[List.cons.injEq,and_true]at z;obtain⟨rfl,rfl⟩:=z;rw[em]at AO;cases AO
  |some m =>
   refine⟨true,rfl,gh ?_⟩;have gv:bx H4 hd (.int x) (some (.int m)):=by have:=bx.k (k:=Sum.inl x) e4;rw[jV,em]at this;exact this
   refine⟨_,rfl,_,rfl,hd,.int m,rfl,gv,_,rfl,_,rfl,_,rfl,zz2,λkt Jg=>?_⟩;have s5:=(aI.refl H4).new (o:=.tup [.int b,.int x]) Jg;have tk:cK K (upd H4 kt (.tup [.int b,.int x])) kt [b,x]:=⟨.inl ⟨_,_,rfl,ar.of aB⟩⟩;generalize upd H4 kt (.tup [.int b,.int x])=H5 at s5 tk ⊢;have k5:∀p∈xs,cK K H5 p.2.1 p.1:=λp hp=>(k4 p hp).same s5;have e5:=s5 _ _ e4;have d5:=s5 _ _ d4;have x5:Sx td H H5:=λb o nb e=>s5 b o (x4 b o nb e);have va:jB xs [b,x]=some (.int l):=by rw[sr hL.m,(dY Nt.1).mpr E6];rfl
   refine⟨td,kt,xs,_,_,rfl,rfl,⟨.inr ⟨u,d5,ou⟩,k5⟩,tk,va,_,_,rfl,rfl,?_⟩;have Jl:Bs lR b (m+l)->J (i+1) [some (.ref td),some (.int goal),some (.ref hd),some (.bl true),some (.int b),some (.int x),some (.int (m+l))] (upd H5 hd (.dK (putK (lR.map gx) (Sum.inl b) (.int (m+l))))):=λfl=>by
    have kp:=bI (o:=.dK (putK (lR.map gx) (Sum.inl b) (.int (m+l)))) (mO.dk e5);refine⟨jU lR b (m+l),true,_,_,_,rfl,λb o nb e=>?_,by rw[aL (Ne.symm Jk)];exact d5,by rw[aB,E5],λp hp=>(k5 p hp).kept kp,h4.put E6 l1 l2 em fl,.inl ⟨rfl,?_⟩⟩
    ·have:b≠hd:=λz=>(by rw[z,Jj]at e;cases e);rw[aL this];exact x5 b o nb e
    have:=h4.Ji E6 l1 l2 em fl;rcases hf with⟨_,hf⟩|⟨_,rfl,_⟩
    ·lia
    exact this
   refine⟨_,rfl,_,rfl,hd,_,rfl,bx.k (k:=Sum.inl b) e5,?_⟩;rw[jV];cases eb:lk lR b with
   |none =>
    refine⟨true,rfl,gh (gh ?_)⟩;refine⟨_,rfl,_,rfl,_,rfl,hd,_,rfl,.inl ⟨_,Sum.inl b,e5,rfl,by rw[List.length_map];lia,rfl⟩,?_⟩;exact Jl (.inl eb)
   |some n =>
    have MU:bx H5 hd (.int b) (some (.int n)):=by have:=bx.k (k:=Sum.inl b) e5;rw[jV,eb]at this;exact this
    refine⟨false,rfl,c8 ?_⟩;refine⟨_,rfl,_,rfl,_,rfl,hd,.int n,rfl,MU,_,_,rfl,rfl,_,rfl,?_⟩;by_cases c:m+l<n
    ·refine dS c ?_;refine⟨_,rfl,_,rfl,_,rfl,hd,_,rfl,.inl ⟨_,Sum.inl b,e5,rfl,by rw[List.length_map];lia,rfl⟩,?_⟩;exact Jl (.inr ⟨n,eb,c⟩)
    refine dR c ?_;refine j8 x5 d5 e5 k5 λb' x' z m' AO=>?_;simp only[List.cons.injEq,and_true]at z;obtain⟨rfl,rfl⟩:=z;rw[em]at AO;cases AO;exact⟨n,eb,by show n<=m+l;lia⟩
 rintro σ H4 ⟨lR,f,v4,v5,v6,rfl,x4,d4,e4,k4,h4,hf⟩;refine⟨td,xs,u,ou,d4,?_⟩;have s5:aI H (upd H4 td (gf td xs)):=λb o e=>by
  by_cases nb:b=td
  ·rw[nb,aB,<-hL.d,<-nb,e]
  rw[aL nb];exact x4 b o nb e
 have e5:(upd H4 td (gf td xs)) hd=some (.dK (lR.map gx)):=by rw[aL Jk];exact e4
 rcases hf with⟨rfl,hf⟩|⟨rfl,rfl,cl⟩
 ·exact⟨mu L lR+1,by lia,lR,true,_,_,_,rfl,s5,e5,h4,.inl ⟨rfl,rfl⟩⟩
 rw[MS,List.take_length]at cl;exact⟨0,by lia,lR,false,_,_,_,rfl,s5,e5,h4,.inr ⟨rfl,rfl,cl⟩⟩
def ku(hv:Hv)(x:Int)(e:Tk×Int):Option Int:=if e.1.headD 0=x/\(lk hv (e.1.getD 1 0)).map (·+e.2)=lk hv x then some (e.1.getD 1 0)else none
structure Fin(L:List (Tk×Int))(goal:Int)(hv:Hv):Prop where
 h:Ht L goal hv
 c:∀e∈L,zi hv e
 ok:Bv L
 sy:∀a b l,([a,b],l)∈L->([b,a],l)∈L
theorem Fin.step{L:List (Tk×Int)}{goal:Int}{hv:Hv}(f:Fin L goal hv){x n:Int}(hx:lk hv x=some n)(ne:x≠goal):∃e l m,([x,e],l)∈L/\lk hv e=some m/\m+l=n:=by obtain⟨e,l,m,h1,h2,h3⟩:=f.h.par x n hx ne;obtain⟨n',h4,h5⟩:=f.c _ h1 x e rfl m h2;rw[hx]at h4;cases h4;exact⟨e,l,m,h1,h2,by show m+l=n;have:n<=m+l:=h5;lia⟩
theorem Fin.near{L:List (Tk×Int)}{goal:Int}{hv:Hv}(f:Fin L goal hv){x n e l:Int}(hx:lk hv x=some n)(he:([x,e],l)∈L):∃m,lk hv e=some m:=by obtain⟨m,h4,h5⟩:=f.c _ (f.sy _ _ _ he) e x rfl n hx;exact⟨m,h4⟩
def E7(L:List (Tk×Int))(hv:Hv)(x e:Int):Prop:=(∃l m,([x,e],l)∈L/\lk hv e=some m/\lk hv x=some (m+l))/\∀e' l' m',([x,e'],l')∈L->lk hv e'=some m'->lk hv x=some (m'+l')->e<=e'
def kL(K:PySem.W.Frag):Sp:=λvs H Q _=>∃(td hd:Addr)(x n goal:Int)(L:List (Tk×Int))(xs:TX)(hv:Hv),vs=[.ref td,.ref hd,.int x]/\qS K H td L xs/\H hd=some (.dK (hv.map gx))/\Fin L goal hv/\L.length<=1000/\lk hv x=some n/\x≠goal/\∀(e:Int)(H':Hp),aI H H'->E7 L hv x e->Q (.int e) H'
theorem qV:aV ["lengths","heights","house"] ["lengths","heights","house"] (aH cq):=⟨rfl,rfl,rfl,by decide +kernel,rfl,by decide +kernel,by decide +kernel⟩
set_option maxHeartbeats 2000000 in
theorem qW(F:aM K mg "next_house" cq)(T:Txt K mg t):Def P w K mg base 1 "next_house" ["lengths","heights","house"] (kL K):=by
 refine F.def qV (λ_ _ _ _ _ _ us hl=>match us,hl with|[_,_,_],_=>rfl) (λvs H Q E h=>?_) (λf bf A outer s H vs Q E hr h=>?_)
 ·obtain⟨td,hd,x,n,goal,L,xs,hv,rfl,_⟩:=h;rfl
 obtain⟨td,hd,x,n,goal,L,xs,hv,rfl,hL,hH,fin,ll,hx,ne,q⟩:=h;refine⟨_,aF (ab (aZ (zC K) (by rfl) T.Bd boot_min (aA (zT (i9 rfl (Nc:=["begin","end","house","heights","lengths"]) (ix:=[none,none,some 2,some 1,some 0]) (cJ (aH cq) ["lengths","heights","house"] rfl rfl (by decide +kernel)) (mw (pv 0)) (λC fp s H=>⟨(lh K (i:=0) (j:=1) rfl (show(["begin","end","house","heights","lengths"]:List Str).Nodup by decide +kernel) rfl rfl (Or.inl rfl) (Or.inl rfl)),(lZ (PW.pt (kS (aW lS (pv 0) (pv 2) (ah _)) (jv (aW lS (ao bK (eE (b9 hr) (pv 3) (pv 1) (λ_ _=>rfl)) (oO K (df hr) (pv 4) (ak (aA (pv 0) (aA (pv 1) aC))) (λ_ _=>rfl))) (eE (b9 hr) (pv 3) (pv 2) (λ_ _=>rfl)) (ah _)))))),(pv 1)⟩))) aC))),?_⟩;have hsz:(20000:Nat)<=sizeLine:=by decide
 have MS:xs.length=L.length:=by
  have:=congrArg List.length hL.m
  rwa [List.length_map,List.length_map]at this
 have Jk:hd≠td:=kA hH hL.d (by intro z;cases z);refine⟨_,rfl,td,xs,rfl,hL.d,λu ou D hD=>?_⟩;have kz:=bI (o:=u) (mO.Jd hL.d);have d1:(upd H td u) td=some u:=aB;have e1:(upd H td u) hd=some (.dK (hv.map gx)):=by rw[aL Jk];exact hH
 have k1:∀p∈xs,cK K (upd H td u) p.2.1 p.1:=λp hp=>(hL.k p hp).kept kz;have x1:∀b o,b≠td->H b=some o->(upd H td u) b=some o:=λb o nb e=>by rw[aL nb];exact e
 generalize upd H td u=H1 at d1 e1 k1 x1 hD ⊢;refine zU (d:=td) (u:=u) (xs:=xs) (λi σ H'=>∃v0 v1:Option V,σ=[v0,v1,some (.int x),some (.ref hd),some (.ref td)]/\aI H1 H'/\H' D=some (.lst (((L.take i).filterMap (ku hv x)).map V.int))) ⟨none,none,rfl,(aI.refl _).new hD,aB⟩ (λi σ H' _ ⟨_,_,_,s,_⟩=>s _ _ d1) ?_ ?_
 ·rintro i p σ H4 N hN hi ⟨v0,v1,rfl,s4,e4⟩;obtain⟨ed,ee,Je,Nn⟩:∃e,L[i]?=some e/\p.1=e.1/\p.2.2=.int e.2:=by
   have:(xs.map λp=>(p.1,p.2.2))[i]?=some (p.1,p.2.2):=(by rw[List.getElem?_map,hi];rfl);rw[hL.m,List.getElem?_map]at this;cases ee:L[i]? with
   |none=>rw[ee]at this;cases this
   |some e =>
    rw[ee]at this;obtain⟨z1,z2⟩:=Prod.mk.inj (Option.some.inj this);exact⟨e,rfl,z1.symm,z2.symm⟩
  have E6:=List.mem_of_getElem? ee;have il:i<L.length:=(List.getElem?_eq_some_iff.mp ee).1;obtain⟨b,y,hk,l1,l2⟩:=fin.ok.2 ed E6;obtain⟨kk,l⟩:=ed;obtain rfl:kk=[b,y]:=hk;have pk:=(k1 p (List.mem_of_getElem? hi)).same s4;rw[Je]at pk;rcases pk.ex.symm with⟨_,_,_,_,_,z,_⟩|⟨_,_,z,g1⟩
  ·simp at z
  simp only[List.cons.injEq,and_true]at z;obtain⟨rfl,rfl⟩:=z;have Nu:(L.take (i+1)).filterMap (ku hv x)=(L.take i).filterMap (ku hv x)++(ku hv x ([b,y],l)).toList:=by
   rw[take_succ ee,List.filterMap_append]
   congr 1
  have cl:((L.take i).filterMap (ku hv x)).length<=1000:=by have:=List.length_filterMap_le (ku hv x) (L.take i);rw[List.length_take]at this;lia
  have skip:∀{H5:Hp},aI H4 H5->ku hv x ([b,y],l)=none->N [some (.int b),some (.int y),some (.int x),some (.ref hd),some (.ref td)] H5:=λs5 c=>hN _ _ ⟨_,_,rfl,s4.trans s5,by rw[Nu,c];simpa using s5 _ _ e4⟩;refine⟨p.2.1,_,rfl,g1,rfl,_,_,rfl,_,_,rfl,rfl,?_⟩;refine⟨_,rfl,_,rfl,rfl,_,rfl,?_⟩;by_cases c:b=x
  ·refine dS (congrArg V.int c) ?_;obtain⟨m,hm⟩:=fin.near hx (show([x,y],l)∈L by rw[<-c];exact E6);have gv:bx H4 hd (.int y) (some (.int m)):=by have:=bx.k (k:=Sum.inl y) (s4 _ _ e1);rw[jV,hm]at this;exact this
   refine⟨_,rfl,_,rfl,hd,.int m,rfl,gv,_,rfl,_,rfl,_,rfl,zz2,λkt Jg=>?_⟩;have s5:=(aI.refl H4).new (o:=.tup [.int b,.int y]) Jg;have tk:cK K (upd H4 kt (.tup [.int b,.int y])) kt [b,y]:=⟨.inl ⟨_,_,rfl,ar.of aB⟩⟩;generalize upd H4 kt (.tup [.int b,.int y])=H5 at s5 tk ⊢;have S5:=s4.trans s5;have va:jB xs [b,y]=some (.int l):=by rw[sr hL.m,(dY fin.ok.1).mpr E6];rfl
   have MU:bx H5 hd (.int x) (some (.int n)):=by have:=bx.k (k:=Sum.inl x) (S5 _ _ e1);rw[jV,hx]at this;exact this
   refine⟨td,kt,xs,_,_,rfl,rfl,⟨.inr ⟨u,S5 _ _ d1,ou⟩,λp hp=>(k1 p hp).same S5⟩,tk,va,_,_,rfl,rfl,_,rfl,_,rfl,hd,.int n,rfl,MU,rfl,_,rfl,?_⟩;by_cases c2:m+l=n
   ·refine dS (congrArg V.int c2) ?_;have cd:ku hv x ([b,y],l)=some y:=by unfold ku;exact if_pos ⟨c,by show(lk hv y).map (·+l)=lk hv x;rw[hm,hx];show some (m+l)=some n;rw[c2]⟩
    refine⟨_,rfl,_,s5 _ _ e4,by rw[List.length_map];lia,hN _ _ ⟨_,_,rfl,S5.put hD,?_⟩⟩;rw[aB,Nu,cd,List.map_append];rfl
   refine dR (λz=>c2 (V.int.inj z)) ?_;refine skip s5 ?_;unfold ku;refine if_neg λz=>c2 ?_;have z2:(lk hv y).map (·+l)=lk hv x:=z.2;rw[hm,hx]at z2;exact Option.some.inj z2
  refine dR (λz=>c (V.int.inj z)) ?_;refine skip (.refl _) ?_;unfold ku;exact if_neg λz=>c z.1
 rintro σ H4 ⟨v0,v1,rfl,s4,e4⟩;rw[MS,List.take_length]at e4;refine⟨td,xs,u,ou,s4 _ _ d1,?_⟩;have s5:aI H (upd H4 td (gf td xs)):=λb o e=>by
  by_cases nb:b=td
  ·rw[nb,aB,<-hL.d,<-nb,e]
  rw[aL nb];exact s4 b o (x1 b o nb e)
 have nD:D≠td:=λz=>by rw[z,d1]at hD;cases hD
 have e5:(upd H4 td (gf td xs)) D=some (.lst ((L.filterMap (ku hv x)).map V.int)):=by rw[aL nD];exact e4
 have mem:∀e,e∈L.filterMap (ku hv x)↔∃l m,([x,e],l)∈L/\lk hv e=some m/\lk hv x=some (m+l):=λe=>by
  rw[List.mem_filterMap];constructor
  ·rintro⟨⟨kk,l⟩,h1,h2⟩;obtain⟨b,y,hk,_⟩:=fin.ok.2 _ h1;obtain rfl:kk=[b,y]:=hk;unfold ku at h2;split at h2
   ·rename_i z;cases h2;obtain⟨z1,z2⟩:=z;have Pq:b=x:=z1;have Kc:(lk hv y).map (·+l)=lk hv x:=z2;rw[Pq]at h1;cases hm:lk hv y with
    |none=>rw[hm,hx]at Kc;cases Kc
    |some m=>rw[hm]at Kc;exact⟨l,m,h1,hm,Kc.symm⟩
   cases h2
  rintro⟨l,m,h1,h2,h3⟩;refine⟨_,h1,?_⟩;unfold ku;exact if_pos ⟨rfl,by show(lk hv e).map (·+l)=lk hv x;rw[h2,h3];rfl⟩
 refine⟨D,_,rfl,af.of e5,λz=>?_,λM hM hle=>q M _ s5 ⟨(mem M).mp hM,λe' l' m' h1 h2 h3=>hle e' ((mem e').mpr ⟨l',m',h1,h2,h3⟩)⟩⟩;obtain⟨e,l,m,h1,h2,h3⟩:=fin.step hx ne;have:=(mem e).mpr ⟨l,m,h1,h2,by rw[hx,h3]⟩;rw[z]at this;cases this
inductive Gr(L:List (Tk×Int))(hv:Hv)(goal:Int):Int->List Int->Prop
 |done:Gr L hv goal goal [goal]
 |step {x e:Int} {ws:List Int}:x≠goal->E7 L hv x e->Gr L hv goal e ws->Gr L hv goal x (x::ws)
def mQ(K:PySem.W.Frag):Sp:=λvs H Q _=>∃(td hd:Addr)(one n goal:Int)(L:List (Tk×Int))(xs:TX)(hv:Hv),vs=[.ref td,.ref hd,.int one,.int goal]/\qS K H td L xs/\H hd=some (.dK (hv.map gx))/\Fin L goal hv/\L.length<=200/\lk hv one=some n/\∀(r:Addr)(ws:List Int)(H':Hp),aI H H'->ar K H' r (ws.map V.int)->Gr L hv goal one ws->Q (.ref r) H'
theorem mR:aV ["lengths","heights","one","goal","way"] ["lengths","heights","one","goal"] (aH fg):=⟨rfl,rfl,rfl,by decide +kernel,rfl,by decide +kernel,by decide +kernel⟩
set_option maxHeartbeats 2000000 in
theorem su(F:aM K mg "least_way" fg)(T:Txt K mg t)(iL:Def P w K mg base 1 "next_house" ["lengths","heights","house"] (kL K)):Def P w K mg base 2 "least_way" ["lengths","heights","one","goal"] (mQ K):=by
 refine F.def mR (λ_ _ _ _ _ _ us hl=>match us,hl with|[_,_,_,_],_=>rfl) (λvs H Q E h=>?_) (λf bf A outer s H vs Q E hr h=>?_)
 ·obtain⟨td,hd,one,n,goal,L,xs,hv,rfl,_⟩:=h;rfl
 obtain⟨td,hd,one,n,goal,L,xs,hv,rfl,hL,hH,fin,ll,hx,q⟩:=h;refine⟨_,aE (aY (i:=4) mR.nd rfl (Or.inl rfl) (cB (aA (pv 2) aC)))
  (aE (PS.rj (tq PassesOwn.never (aW uA (aO (aN K) (pv 4) (xZ ro aG) (λ_ _=>rfl)) (pv 3) (ah _))
   (aF (bL (kZ K PySem.F.plainAttrs_list PySem.F.slot_list_append PySem.F.type_list_append dE (pv 4) (aA (aa (iL.mono (by decide)) hr aq (aA (pv 0) (aA (pv 1) (aA (aO (aN K) (pv 4) (xZ ro aG) (λ_ _=>rfl)) aC)))) aC))))))
  (aF (ab (eU (dU K) (by rfl) T.eQ boot_tuple (aA (pv 4) aC))))),?_⟩
 have hsz:(300000:Nat)<=sizeLine:=by decide
 refine⟨_,rfl,zz1,λwl Ci=>?_⟩;have s1:=(aI.refl H).new (o:=.lst [.int one]) Ci;have e1:(upd H wl (.lst [.int one])) wl=some (.lst [.int one]):=aB;generalize upd H wl (.lst [.int one])=H1 at s1 e1 ⊢;have n0:n<=200000:=by have:=fin.h.bd _ _ hx;have:=fin.h.size;lia
 let W:Nat->L2.St->Hp->Prop:=λk σ H'=>∃(pre:List Int)(x m:Int),σ=[some (.ref td),some (.ref hd),some (.int one),some (.int goal),some (.ref wl)]/\aI H H'/\H' wl=some (.lst ((pre++[x]).map V.int))/\lk hv x=some m/\k=m.toNat/\(pre.length:Int)+m<=n/\∀t,Gr L hv goal x (x::t)->Gr L hv goal one (pre++x::t)
 refine⟨W,⟨n.toNat,[],one,n,rfl,s1,e1,hx,rfl,by show((0:Nat):Int)+n<=n;lia,λt h=>h⟩,?_⟩;rintro k σ H2 ⟨pre,x,m,rfl,s2,e2,hm,rfl,pl,gr⟩;have m0:=fin.h.pos _ _ hm;have la:nQ ((pre++[x]).map V.int) (-1)=some (V.int x):=by rw[List.map_append];exact uF _ _
 refine⟨_,rfl,1,rfl,wl,_,_,.int x,rfl,rfl,af.of e2,la,_,rfl,rfl,_,rfl,?_⟩;by_cases c:x=goal
 ·refine nR (congrArg V.int c) ?_;subst c;refine⟨_,rfl,wl,_,rfl,.inl ⟨af.of e2,λr hr=>?_⟩⟩;exact q r (pre++[x]) _ (s2.new hr) (ar.of aB) (gr [] .done)
 refine qz (λz=>c (V.int.inj z)) ?_;refine⟨λσ' H'=>∃m',m'<m.toNat/\W m' σ' H',λσ' H' z=>z,?_⟩;refine⟨_,rfl,.inl ⟨rfl,_,af.of e2⟩,_,rfl,_,rfl,_,rfl,1,rfl,wl,_,_,.int x,rfl,rfl,af.of e2,la,td,hd,x,m,goal,L,xs,hv,rfl,hL.same s2,s2 _ _ hH,fin,by lia,hm,c,λe H3 s3 nx=>?_⟩;have e3:=s3 _ _ e2;refine⟨wl,_,_,rfl,rfl,e3,by rw[List.length_map,List.length_append];show pre.length+1<_;lia,?_⟩;obtain⟨⟨l,m',h1,h2,h3⟩,_⟩:=id nx;rw[hm]at h3;cases h3;obtain⟨_,_,_,l1,_⟩:=fin.ok.2 _ h1;have Q9:1<=l:=l1;have m1:=fin.h.pos _ _ h2;refine⟨m'.toNat,by lia,pre++[x],e,m',rfl,(s2.trans s3).put Ci,by rw[aB,List.map_append (l₁:=pre++[x])];rfl,h2,rfl,by rw[List.length_append];show((pre.length+1:Nat):Int)+m'<=n;lia,λt h=>?_⟩;rw[List.append_assoc];exact gr (e::t) (.step c nx h)
def adr:V->Addr
 |.ref a=>a
 |_=>0
def zj(ms:Ms):Prop:=∀m∈ms,∀w∈m.2.near,1<=w.q/\w.q<=10
theorem pS{ms:Ms}{ts:List T3}(hq:zj ms)(hm:∀t,t∈ts↔cL ms t)(td:uy ts):Bv (bZ ts)/\∀a b l,([a,b],l)∈bZ ts->([b,a],l)∈bZ ts:=by
 refine⟨⟨jT td,λe he=>?_⟩,λa b l h=>?_⟩
 ·obtain⟨t,ht,z⟩:=bB.mp he;obtain⟨_,m1,h1,m2,h2,w1,g1,w2,g2,_,_,_,_,_,_,a5⟩:=(hm t).mp ht;have q1:=hq m1 h1 w1 g1;have q2:=hq m2 h2 w2 g2;have:1<=t.2.2/\t.2.2<=1000:=by lia
  rcases z with rfl|rfl
  ·exact⟨_,_,rfl,this⟩
  exact⟨_,_,rfl,this⟩
 obtain⟨t,ht,z⟩:=bB.mp h;refine bB.mpr ⟨t,ht,?_⟩;rcases z with z|z
 ·cases z;exact .inr rfl
 cases z;exact .inl rfl
theorem Fin.of{ms:Ms}{ts:List T3}{goal:Int}{hv:Hv}(hq:zj ms)(hm:∀t,t∈ts↔cL ms t)(td:uy ts)(h:Ht (bZ ts) goal hv)(c:∀e∈bZ ts,zi hv e):Fin (bZ ts) goal hv:=⟨h,c,(pS hq hm td).1,(pS hq hm td).2⟩
theorem Ht.AL{ms:Ms}{ts:List T3}{goal:Int}{hv:Hv}(h:Ht (bZ ts) goal hv)(hm:∀t,t∈ts↔cL ms t):hv.length<=ms.length+1:=by
 have:=cQ (goal::hs ms) (hv.map (·.1)) h.nd λx hx=>by
  cases e:lk hv x with
  |none=>exact absurd hx (cw.mp e)
  |some n =>
   by_cases c:x=goal
   ·rw[c];exact List.mem_cons_self
   obtain⟨e',l',m',h1,_⟩:=h.par x n e c;obtain⟨t,ht,z⟩:=bB.mp h1;obtain⟨_,m1,g1,m2,g2,_,_,_,_,a1,a2,_⟩:=(hm t).mp ht;refine List.mem_cons_of_mem _ ?_;rcases z with z|z
   ·cases z;exact List.mem_map.mpr ⟨m1,g1,a1⟩
   cases z;exact List.mem_map.mpr ⟨m2,g2,a2⟩
 unfold hs at this;rw[List.length_map,List.length_cons,List.length_map]at this;exact this
theorem E8(h n:Int):vL (.tuple [.int h,.int n])=true:=by simp[vL,cm]
theorem Bw{K:PySem.W.Frag}{H:Hp}{n:Nat}{v:V}{a b:Int}(h:aQ K H (n+1) v (.tuple [.int a,.int b])):∃p,v=.ref p/\ar K H p [.int a,.int b]:=by
 obtain⟨p,xs,rfl,h1,h2,h3⟩:=sW h
 match xs,h2 with
 |[x,y],_ =>
  obtain rfl:=mH (h3 0 x _ rfl rfl);obtain rfl:=mH (h3 1 y _ rfl rfl);exact⟨p,rfl,h1⟩
def gE(hv:Hv)(ns:List Int):Hv:=ns.map λh=>(h,(lk hv h).getD 0)
def eW(K:PySem.W.Frag)(C:Addr):Sp:=λvs H Q _=>∃(x d:Addr)(one other:Int)(ms:Ms),vs=[.ref x,.int one,.int other]/\jR K C H x d ms/\ms.length<=12/\nB ms/\zj ms /\
 (∀(ts:List T3)(hv zh:Hv)(ns:List Int)(r p:Addr)(H':Hp),aI H H'->(∀t,t∈ts↔cL ms t)->uy ts->Fin (bZ ts) other hv->lk hv one=none->Fin (bZ ts) one zh->ns.Perm (zh.map (·.1))->ns.Pairwise (·<=·)->ar K H' r [.str "side",.ref p]->ar K H' p (ns.map V.int)->Q (.ref r) H') /\
 (∀(ts:List T3)(hv:Hv)(n:Int)(ns ws:List Int)(r p hl:Addr)(H':Hp),aI H H'->(∀t,t∈ts↔cL ms t)->uy ts->Fin (bZ ts) other hv->lk hv one=some n->Gr (bZ ts) hv other one ws->ns.Perm (hv.map (·.1))->ns.Pairwise (·<=·)->ar K H' r [.str "way",.ref p,.ref hl]->ar K H' p (ws.map V.int)->H hl=none->mP K H' hl (gE hv ns)->Q (.ref r) H')
theorem j7:aV ["chart","one","other","lengths","heights","way"] ["chart","one","other"] (aH jN):=⟨rfl,rfl,rfl,by decide +kernel,rfl,by decide +kernel,by decide +kernel⟩
set_option maxHeartbeats 2000000 in
theorem zk(F:aM K mg "way_of" jN)(T:Txt K mg t)(iM:Def P w K mg base 3 "lengths_of" ["chart"] (kJ K t.Map))(eT:Def P w K mg base 1 "heights_to" ["lengths","goal"] (kK K))(jW:Def P w K mg base 2 "least_way" ["lengths","heights","one","goal"] (mQ K)):Def P w K mg base 4 "way_of" ["chart","one","other"] (eW K t.Map):=by
 refine F.def j7 (λ_ _ _ _ _ _ us hl=>match us,hl with|[_,_,_],_=>rfl) (λvs H Q E h=>?_) (λf bf A outer s H vs Q E hr h=>?_)
 ·obtain⟨x,d,one,other,ms,rfl,_⟩:=h;rfl
 obtain⟨x,d,one,other,ms,rfl,hM,ml,Bx,hq,qs,qw⟩:=h;refine⟨_,aE (aY (i:=3) j7.nd rfl (Or.inl rfl) (aa (iM.mono (by decide)) hr aq (aA (pv 0) aC)))
  (aE (aY (i:=4) j7.nd rfl (Or.inr rfl) (aa (eT.mono (by decide)) hr aq (aA (pv 3) (aA (pv 2) aC))))
  (aE (a9 (oQ (mh (b9 hr) (pv 1) (pv 4)) (by rfl))
   (aF (ab (ak (aA rg (aA (eU (dU K) (by rfl) T.eQ boot_tuple (aA (aZ (iD (df hr)) (by rfl) T.cv boot_sorted (aA (aa (eT.mono (by decide)) hr aq (aA (pv 3) (aA (pv 1) aC))) aC)) aC)) aC)))))
   (ae))
  (aE (aY (i:=5) j7.nd rfl (Or.inl rfl) (aa (jW.mono (by decide)) hr aq (aA (pv 3) (aA (pv 4) (aA (pv 1) (aA (pv 2) aC))))))
  (aF (ab (ak (aA rg (aA (pv 5) (aA (i9 rfl (Nc:=["house","heights"]) (ix:=[none,some 4]) (cJ (aH jN) ["chart","one","other","lengths","heights","way"] rfl rfl (by decide +kernel)) (bC K (aZ (iD (df hr)) (by rfl) T.cv boot_sorted (aA (pv 4) aC))) (λC fp s H=>⟨(aK (i:=0) (show(["house","heights"]:List Str).Nodup by decide +kernel) rfl (Or.inl rfl)),cg,(ak (aA (pv 0) (aA (eE (b9 hr) (pv 1) (pv 0) (λ_ _=>rfl)) aC)))⟩)) aC))))))))),?_⟩
 have hsz:(20000:Nat)<=sizeLine:=by decide
 refine⟨_,rfl,x,d,ms,rfl,hM,ml,Bx,λtd H1 ts xs s1 RA hL hm Br tl=>?_⟩;have el:(bZ ts).length<=200:=by rw[yR];lia
 refine⟨_,rfl,_,rfl,td,other,bZ ts,xs,rfl,hL,(pS hq hm Br).1,by lia,λhd H2 hv s2 RB e2 ht cl=>?_⟩;have fin:=Fin.of hq hm Br ht cl;have S2:=s1.trans s2;refine⟨_,rfl,_,rfl,hd,_,rfl,bx.k (k:=Sum.inl one) e2,?_⟩;rw[jV];cases en:lk hv one with
 |none =>
  refine⟨true,rfl,gh ?_⟩;refine⟨_,rfl,_,rfl,td,one,bZ ts,xs,rfl,hL.same s2,(pS hq hm Br).1,by lia,λhd2 H3 zh s3 n3 e3 Eo Pr=>?_⟩;have f2:=Eo.AL hm;refine⟨hd2,_,zh.map (·.1),rfl,e3,by rw[List.map_map,List.map_map];rfl,by rw[List.length_map];lia,λys sl hp yK Dy=>?_⟩;have s4:=(aI.refl H3).new (o:=.lst (ys.map V.int)) Dy;refine⟨sl,_,rfl,.inl ⟨af.of aB,λp Jm=>?_⟩⟩;have s5:=s4.new (o:=.tup (ys.map V.int)) Jm;refine⟨zz2,λr hr=>?_⟩;have s6:=s5.new (o:=.tup [.str "side",.ref p]) hr;exact qs ts hv zh ys r p _ (S2.trans (s3.trans s6)) hm Br fin en (Fin.of hq hm Br Eo Pr) hp yK (ar.of aB) (ar.of (by rw[aL (ag aB hr)];exact aB))
 |some n =>
  refine⟨false,rfl,c8 ?_⟩;refine⟨_,rfl,_,rfl,_,rfl,_,rfl,td,hd,one,n,other,bZ ts,xs,hv,rfl,hL.same s2,e2,fin,el,en,λp ws H3 s3 hp gr=>?_⟩;have f1:=ht.AL hm;have e3:=s3 _ _ e2;refine⟨_,rfl,_,rfl,hd,_,hv.map (·.1),rfl,e3,by rw[List.map_map,List.map_map];rfl,by rw[List.length_map];lia,λys sl MV yK Dy=>?_⟩;have yl:ys.length<=20:=by rw[MV.length_eq,List.length_map];lia
  have s4:=(aI.refl H3).new (o:=.lst (ys.map V.int)) Dy;have e4:(upd H3 sl (.lst (ys.map V.int))) sl=some (.lst (ys.map V.int)):=aB;generalize upd H3 sl (.lst (ys.map V.int))=H4 at s4 e4 ⊢;refine⟨sl,rfl,⟨_,af.of e4⟩,λD hD=>?_⟩;refine hX (K:=K) (a:=sl) (xs:=ys.map V.int) (λi σ H'=>∃(v:Option V)(zs:List (V×Int)),σ=[v,some (.ref hd)]/\aI H4 H'/\H' D=some (.lst (zs.map (·.1)))/\zs.map (·.2)=ys.take i/\∀z∈zs,aQ K H' 2 z.1 (.tuple [.int z.2,.int ((lk hv z.2).getD 0)])) ⟨none,[],rfl,(aI.refl _).new hD,aB,rfl,λz hz=>absurd hz List.not_mem_nil⟩ (λi σ H' _ ⟨_,_,_,s,_⟩=>af.of (s _ _ e4)) ?_ ?_
  ·rintro i y σ H5 N hN hi ⟨v,zs,rfl,s5,e5,m5,t5⟩;obtain⟨h,ho,rfl⟩:=fe hi;have GN:i<ys.length:=(List.getElem?_eq_some_iff.mp ho).1;have hk:=MV.mem_iff.mp (List.mem_of_getElem? ho);obtain⟨k,hk⟩:∃k,lk hv h=some k:=by
    cases e:lk hv h with
    |none=>exact absurd hk (cw.mp e)
    |some k=>exact⟨k,rfl⟩
   have gv:bx H5 hd (.int h) (some (.int k)):=by have:=bx.k (k:=Sum.inl h) ((s4.trans s5) _ _ e3);rw[jV,hk]at this;exact this
   have zl:zs.length<=20:=by have:=congrArg List.length m5;rw[List.length_map,List.length_take]at this;lia
   refine ck ?_;refine⟨_,rfl,_,rfl,_,rfl,hd,.int k,rfl,gv,zz2,λtp qK=>?_⟩;have s6:=(aI.refl H5).new (o:=.tup [.int h,.int k]) qK;have dn:aQ K (upd H5 tp (.tup [.int h,.int k])) 2 (.ref tp) (.tuple [.int h,.int ((lk hv h).getD 0)]):=by
    rw[hk];refine .tup (ar.of aB) rfl λi v d e1 e2=>?_
    match i with
    |0=>cases e1;cases e2;exact .int _
    |1=>cases e1;cases e2;exact .int _
    |i+2=>simp at e1
   generalize upd H5 tp (.tup [.int h,.int k])=H6 at s6 dn;have e6:=s6 _ _ e5;have kp:=bI (o:=.lst (zs.map (·.1)++[V.ref tp])) (mO.lst e6);refine⟨_,e6,by rw[List.length_map];lia,hN _ _ ⟨_,zs++[(.ref tp,h)],rfl,(s5.trans s6).put hD,by rw[aB,List.map_append];rfl,by rw[List.map_append,m5,take_succ ho];rfl,λz hz=>?_⟩⟩;rcases List.mem_append.mp hz with h|h
   ·exact((t5 z h).same s6).kept kp (E8 _ _)
   rw[List.mem_singleton.mp h];exact dn.kept kp (E8 _ _)
  rintro σ H5 ⟨v,zs,rfl,s5,e5,m5,t5⟩;rw[List.length_map,List.take_length]at m5;refine⟨zz3,λr hr=>?_⟩;have s6:=(aI.refl H5).new (o:=.tup [.str "way",.ref p,.ref D]) hr;have S:=s4.trans (s5.trans s6);refine qw ts hv n ys ws r p D _ (S2.trans (s3.trans S)) hm Br fin en gr MV yK (ar.of aB) (S.tup hp) ((S2.trans (s3.trans s4)).free hD) ⟨zs.map λz=>(adr z.1,z.2,(lk hv z.2).getD 0),?_,λz hz=>?_,?_⟩
  ·rw[s6 _ _ e5,List.map_map]
   congr 2
   refine List.map_congr_left λz hz=>?_;obtain⟨p,ep,_⟩:=Bw (t5 z hz);show z.1=V.ref (adr z.1);rw[ep];rfl
  ·obtain⟨y,hy,rfl⟩:=List.mem_map.mp hz;obtain⟨p,ep,g⟩:=Bw ((t5 y hy).same s6);show ar K _ (adr y.1) _;rw[ep];exact g
  unfold gE;rw[<-m5,List.map_map,List.map_map];rfl
inductive Wk(L:List (Tk×Int))(goal:Int):Int->Int->Prop
 |nil:Wk L goal goal 0
 |cons {x e l s:Int}:([x,e],l)∈L->Wk L goal e s->Wk L goal x (l+s)
theorem Fin.le{L:List (Tk×Int)}{goal:Int}{hv:Hv}(f:Fin L goal hv){x s:Int}(w:Wk L goal x s):∃n,lk hv x=some n/\n<=s:=by
 induction w with
 |nil=>exact⟨0,f.h.g,Int.le_refl _⟩
 |@cons x e l s h w ih =>
  obtain⟨m,h1,h2⟩:=ih;obtain⟨n,h3,h4⟩:=f.c _ h x e rfl m h1;have h5:n<=m+l:=h4;exact⟨n,h3,by lia⟩
theorem Fin.pos{L:List (Tk×Int)}{goal:Int}{hv:Hv}(f:Fin L goal hv){x e l:Int}(h:([x,e],l)∈L):1<=l:=by obtain⟨_,_,_,h1,_⟩:=f.ok.2 _ h;exact h1
theorem Fin.wk{L:List (Tk×Int)}{goal:Int}{hv:Hv}(f:Fin L goal hv):∀(k:Nat){x n:Int},n.toNat<=k->lk hv x=some n->Wk L goal x n
 |k,x,n,hk,hx=>by
  by_cases c:x=goal
  ·subst c;rw[f.h.g]at hx;cases hx;exact .nil
  obtain⟨e,l,m,h1,h2,h3⟩:=f.step hx c;have l1:=f.pos h1;have m0:=f.h.pos _ _ h2
  match k,hk with
  |0,hk=>lia
  |k+1,hk =>
   have:=f.wk k (x:=e) (n:=m) (by lia) h2;rw[show n=l+m by lia];exact .cons h1 this
inductive Wl(L:List (Tk×Int))(goal:Int):Int->List Int->Int->Prop
 |done:Wl L goal goal [goal] 0
 |step {x e l s:Int} {ws:List Int}:([x,e],l)∈L->Wl L goal e ws s->Wl L goal x (x::ws) (l+s)
theorem Wl.wk{L:List (Tk×Int)}{goal x s:Int}{ws:List Int}(h:Wl L goal x ws s):Wk L goal x s:=by
 induction h with
 |done=>exact .nil
 |step h _ ih=>exact .cons h ih
theorem Wl.head{L:List (Tk×Int)}{goal x s:Int}{ws:List Int}(h:Wl L goal x ws s):∃t,ws=x::t:=by
 cases h with
 |done=>exact⟨[],rfl⟩
 |step _ _=>exact⟨_,rfl⟩
theorem Gr.head{L:List (Tk×Int)}{hv:Hv}{goal x:Int}{ws:List Int}(h:Gr L hv goal x ws):∃t,ws=x::t:=by
 cases h with
 |done=>exact⟨[],rfl⟩
 |step _ _ _=>exact⟨_,rfl⟩
theorem Gr.wl{L:List (Tk×Int)}{hv:Hv}{goal x:Int}{ws:List Int}(f:Fin L goal hv)(h:Gr L hv goal x ws):∃n,lk hv x=some n/\Wl L goal x ws n:=by
 induction h with
 |done=>exact⟨0,f.h.g,.done⟩
 |@step x e ws ne nx g ih =>
  obtain⟨n,h1,h2⟩:=ih;obtain⟨⟨l,m,h3,h4,h5⟩,_⟩:=nx;rw[h1]at h4;cases h4;exact⟨_,h5,by rw[show n+l=l+n by lia];exact .step h3 h2⟩
theorem Gr.least{L:List (Tk×Int)}{hv:Hv}{goal x:Int}{ws:List Int}(f:Fin L goal hv)(h:Gr L hv goal x ws):∀{vs:List Int}{s:Int},Wl L goal x vs s->lk hv x=some s->ws=vs\/ws<vs:=by
 induction h with
 |done =>
  intro vs s w hs;cases w with
  |done=>exact .inl rfl
  |@step _ e l s ws h w =>
   rw[f.h.g]at hs;have l1:=f.pos h;obtain⟨n,h1,h2⟩:=f.le w.wk;have:=f.h.pos _ _ h1;have:=Option.some.inj hs;lia
 |@step x e ws ne nx g ih =>
  intro vs s w hs;cases w with
  |done=>exact absurd rfl ne
  |@step _ e' l s vs h w =>
   obtain⟨m,h1,h2⟩:=f.le w.wk;obtain⟨n,h3,h4⟩:=f.c _ h x e' rfl m h1;rw[hs]at h3;cases h3;have h5:l+s<=m+l:=h4;obtain rfl:m=s:=(by lia);have h6:e<=e':=nx.2 e' l m h h1 (by rw[hs];congr 1;lia);rcases Int.lt_or_eq_of_le h6 with c|c
   ·obtain⟨t1,rfl⟩:=g.head;obtain⟨t2,rfl⟩:=w.head;exact .inr (List.Lex.cons (List.Lex.rel c))
   subst c;rcases ih w h1 with z|z
   ·exact .inl (by rw[z])
   exact .inr (List.Lex.cons z)
theorem By{a b:Int}(h:a.natAbs<2 ^ 64):IntMulOk a b:=Fh.ok (.inl ⟨by lia,by lia⟩)
def dq(K:PySem.W.Frag):Sp:=λvs H Q _=>∃(l:Addr)(ns:List Int)(k:Int),vs=[.ref l,.int k]/\af K H l (ns.map V.int)/\0<=k/\∀c:Int,Q (.int c) H
theorem oA:aV ["script","k"] ["script","k"] (aH cu):=⟨rfl,rfl,rfl,by decide +kernel,rfl,by decide +kernel,by decide +kernel⟩
theorem oB(F:aM K mg "_law_cell_at" cu)(T:Txt K mg t):Def P w K mg base 1 "_law_cell_at" ["script","k"] (dq K):=by
 refine F.def oA (λ_ _ _ _ _ _ us hl=>match us,hl with|[_,_],_=>rfl) (λvs H Q E h=>?_) (λf bf A outer s H vs Q E hr h=>?_)
 ·obtain⟨l,ns,k,rfl,_⟩:=h;rfl
 obtain⟨l,ns,k,rfl,hl,k0,q⟩:=h;refine⟨_,aE (a9 (aW lT (pv 1) (aZ (bW K) (by rfl) T.jA boot_len (aA (pv 0) aC)) (ah _))
   (aF (ab (aO (aN K) (pv 0) (pv 1) (λ_ _=>rfl))))
   (ae))
  (aF (ab aG)),?_⟩
 refine⟨_,rfl,_,rfl,l,_,rfl,.inl hl,_,_,rfl,rfl,_,rfl,?_⟩;by_cases z:k<((ns.map V.int).length:Nat)
 ·refine dS z ?_;rw[List.length_map]at z;obtain⟨j,rfl⟩:∃j:Nat,k=j:=⟨k.toNat,by lia⟩;have hj:j<ns.length:=by lia
  exact⟨_,rfl,_,rfl,l,_,_,V.int ns[j],rfl,rfl,hl,bM (by simp[hj]),q _⟩
 exact dR z (q 0)
def dQ:Sp:=λvs H Q _=>∃c k:Int,vs=[.int c,.int k]/\0<=k/\k<=1000/\∀m:Int,0<=m->Q (.int m) H
theorem gF:aV ["cell","k","near","stir"] ["cell","k"] (aH eK):=⟨rfl,rfl,rfl,by decide +kernel,rfl,by decide +kernel,by decide +kernel⟩
theorem qX(F:aM K mg "_law_mixed" eK)(T:Txt K mg t):Def P w K mg base 1 "_law_mixed" ["cell","k"] dQ:=by
 refine F.def gF (λ_ _ _ _ _ _ us hl=>match us,hl with|[_,_],_=>rfl) (λvs H Q E h=>?_) (λf bf A outer s H vs Q E hr h=>?_)
 ·obtain⟨c,k,rfl,_⟩:=h;rfl
 obtain⟨c,k,rfl,k0,k1,q⟩:=h;refine⟨_,aE (aY (i:=2) gF.nd rfl (Or.inl rfl) (ao bK (ao fA (pv 0) aG) (ao sM aG (pv 1))))
  (aE (aY (i:=3) gF.nd rfl (Or.inl rfl) (ao fA (ao sM (ao bK (pv 2) aG) (ao bK (pv 2) aG)) aG))
  (aF (ab (ao xf (ao fA (ao sM (pv 3) (pv 3)) aG) aG)))),?_⟩
 have n0:0<=c%998244353/\c%998244353<998244353:=⟨Int.emod_nonneg _ (by decide),Int.emod_lt_of_pos _ (by decide)⟩;refine⟨_,rfl,_,_,rfl,rfl,(by show(0:Int)<998244353;decide),_,rfl,_,_,rfl,rfl,By (by decide),_,_,rfl,rfl,?_⟩;dsimp only;have b1:0<=c%998244353+7919*k/\c%998244353+7919*k<=2000000000:=by lia
 generalize c%998244353+7919*k=x1 at b1;refine⟨_,rfl,_,_,rfl,rfl,_,rfl,_,_,rfl,rfl,_,_,rfl,rfl,By (by lia),_,_,rfl,rfl,(by show(0:Int)<998244353;decide),?_⟩;dsimp only;generalize(x1+11)*(x1+48271)=x2;have b2:0<=x2%998244353/\x2%998244353<998244353:=⟨Int.emod_nonneg _ (by decide),Int.emod_lt_of_pos _ (by decide)⟩;refine⟨_,rfl,_,rfl,_,_,rfl,rfl,By (by lia),_,_,rfl,rfl,(by show(0:Int)<1000000007;decide),_,_,rfl,rfl,⟨by decide,by decide⟩,?_⟩;exact q _ (Int.ediv_nonneg (Int.emod_nonneg _ (by decide)) (by decide))
def D3(bs ms:List Int):Prop:=ms.length=bs.length/\∀(i:Nat)(m b:Int),ms[i]?=some m->bs[i]?=some b->0<=m/\m<b
def gG(K:PySem.W.Frag):Sp:=λvs H Q _=>∃(c:Int)(l:Addr)(bs:List Int),vs=[.int c,.ref l]/\H l=some (.lst (bs.map V.int))/\bs.length<=100/\(∀b∈bs,0<b/\b<=1000000)/\∀(r:Addr)(H':Hp)(ms:List Int),aI H H'->H r=none->H' r=some (.lst (ms.map V.int))->D3 bs ms->Q (.ref r) H'
theorem bu:aV ["cell","bounds","left","made","k"] ["cell","bounds"] (aH eM):=⟨rfl,rfl,rfl,by decide +kernel,rfl,by decide +kernel,by decide +kernel⟩
set_option maxHeartbeats 1000000 in
theorem qY(F:aM K mg "_law_drawn" eM)(T:Txt K mg t)(bE:Def P w K mg base 1 "_law_mixed" ["cell","k"] dQ):Def P w K mg base 2 "_law_drawn" ["cell","bounds"] (gG K):=by
 refine F.def bu (λ_ _ _ _ _ _ us hl=>match us,hl with|[_,_],_=>rfl) (λvs H Q E h=>?_) (λf bf A outer s H vs Q E hr h=>?_)
 ·obtain⟨c,l,bs,rfl,_⟩:=h;rfl
 obtain⟨c,l,bs,rfl,hl,JF,hb,q⟩:=h;refine⟨_,aE (aY (i:=2) bu.nd rfl (Or.inl rfl) (pv 0))
  (aE (vq (a9 (aW lT (pv 0) (ao Fi aG aG) (ah _))
   (aF (aY (i:=2) bu.nd rfl (Or.inl rfl) aG))
   (ae)))
  (aE (aY (i:=3) bu.nd rfl (Or.inl rfl) (cB aC))
  (aE (PS.rj (bJ PassesOwn.never rfl (cC (by rfl) T.dP (aA (aZ (bW K) (by rfl) T.jA boot_len (aA (pv 1) aC)) aC)) (aK (i:=4) bu.nd rfl (Or.inl rfl))
   (aF (a9 (aW oU (pv 2) aG (ah _))
    (aE (bL (kZ K PySem.F.plainAttrs_list PySem.F.slot_list_append PySem.F.type_list_append dE (pv 3) (aA (ao fA (pv 2) (aO (aN K) (pv 1) (pv 4) (λ_ _=>rfl))) aC)))
    (aF (aY (i:=2) bu.nd rfl (Or.inl rfl) (ao xf (pv 2) (aO (aN K) (pv 1) (pv 4) (λ_ _=>rfl))))))
    (aF (bL (kZ K PySem.F.plainAttrs_list PySem.F.slot_list_append PySem.F.type_list_append dE (pv 3) (aA (ao fA (aa (bE.mono (by decide)) hr aq (aA (pv 0) (aA (pv 4) aC))) (aO (aN K) (pv 1) (pv 4) (λ_ _=>rfl))) aC))))))))
  (aF (ab (pv 3)))))),?_⟩
 have hsz:(2000:Nat)<=sizeLine:=by decide
 refine⟨_,rfl,?_⟩;refine⟨λσ H'=>H'=H/\∃left:Int,σ=[some (.int c),some (.ref l),some (.int left),none,none],?_,?_⟩
 ·refine⟨_,rfl,_,_,rfl,rfl,⟨by decide,by decide,by decide⟩,_,_,rfl,rfl,_,rfl,?_⟩;exact IS (λ_=>⟨rfl,_,rfl⟩) (λ_=>⟨rfl,_,rfl⟩)
 rintro σ H0 ⟨eH,left,rfl⟩;rw[eH];clear eH;refine⟨zz0,λL hL=>?_⟩;have s1:=(aI.refl H).new (o:=.lst []) hL;have e1:(upd H L (.lst [])) L=some (.lst []):=aB;generalize upd H L (.lst [])=H1 at s1 e1 ⊢;refine⟨_,rfl,l,_,rfl,.inl (af.of (s1 _ _ hl)),_,rfl,by rw[List.length_map];lia,by rw[List.length_map];lia,?_⟩;have hn:(((bs.map V.int).length:Nat):Int).toNat=bs.length:=by rw[List.length_map];lia
 refine dD (lo:=0) (n:=(((bs.map V.int).length:Nat):Int).toNat) (λi σ H2=>∃(rest:Int)(ms:List Int)(v4:Option V),σ=[some (.int c),some (.ref l),some (.int rest),some (.ref L),v4]/\aI H H2/\H2 L=some (.lst (ms.map V.int))/\ms.length=i/\∀(j:Nat)(m b:Int),ms[j]?=some m->bs[j]?=some b->0<=m/\m<b)
  ⟨_,[],none,rfl,s1,e1,rfl,λj m b hm=>by cases hm⟩ ?_ ?_
 ·rintro i σ H2 hi ⟨rest,ms,v4,rfl,s2,h2,Jn,hm⟩;rw[hn]at hi;have ei:bs[i]?=some bs[i]:=by simp[hi]
  generalize bs[i]=b at ei;obtain⟨b0,b1⟩:=hb b (List.mem_of_getElem? ei);have ai:nQ (bs.map V.int) (0+(i:Nat):Int)=some (.int b):=by rw[show(0+(i:Nat):Int)=(i:Nat) by lia];exact bM (by rw[List.getElem?_map,ei];rfl)
  have push:∀(x:Int),0<=x/\x<b->(aI H (upd H2 L (.lst (ms.map V.int++[V.int x])))/\(upd H2 L (.lst (ms.map V.int++[V.int x]))) L=some (.lst ((ms++[x]).map V.int))/\(ms++[x]).length=i+1/\∀(j:Nat)(m b:Int),(ms++[x])[j]?=some m->bs[j]?=some b->0<=m/\m<b):=λx hx=>⟨s2.put hL,by rw[aB,List.map_append];rfl,by rw[List.length_append,Jn];rfl,λj m b' AO tU=>by
   by_cases z:j<ms.length
   ·rw[List.getElem?_append_left z]at AO;exact hm j m b' AO tU
   have bq:=(List.getElem?_eq_some_iff.mp AO).1;rw[List.length_append]at bq;have e:j=ms.length:=(by simp at bq;lia);rw[e,List.getElem?_append_right (Nat.le_refl _),Nat.sub_self]at AO;cases AO;rw[e,Jn,ei]at tU;cases tU;exact hx⟩
  refine⟨_,rfl,_,_,rfl,rfl,_,rfl,?_⟩;refine IS (λ_=>?_) (λ_=>?_)
  ·refine⟨_,rfl,.inl ⟨rfl,_,af.of h2⟩,_,rfl,_,rfl,_,rfl,l,_,_,.int b,rfl,rfl,af.of (s2 _ _ hl),ai,_,_,rfl,rfl,b0,L,_,_,rfl,rfl,h2,by rw[List.length_map];lia,?_⟩;obtain⟨p1,p2,p3,p4⟩:=push (rest%b) ⟨Int.emod_nonneg _ (by lia),Int.emod_lt_of_pos _ b0⟩;refine⟨_,rfl,_,rfl,_,rfl,l,_,_,.int b,rfl,rfl,af.of (p1 _ _ hl),ai,_,_,rfl,rfl,⟨b0,by lia⟩,?_⟩;exact⟨_,_,_,rfl,p1,p2,p3,p4⟩
  refine⟨_,rfl,.inl ⟨rfl,_,af.of h2⟩,_,rfl,_,rfl,c,_,rfl,by lia,by lia,λm m0=>?_⟩;refine⟨_,rfl,_,rfl,l,_,_,.int b,rfl,rfl,af.of (s2 _ _ hl),ai,_,_,rfl,rfl,b0,L,_,_,rfl,rfl,h2,by rw[List.length_map];lia,?_⟩;obtain⟨p1,p2,p3,p4⟩:=push (m%b) ⟨Int.emod_nonneg _ (by lia),Int.emod_lt_of_pos _ b0⟩;exact⟨_,_,_,rfl,p1,p2,p3,p4⟩
 rintro σ H2 ⟨rest,ms,v4,rfl,s2,h2,Jn,hm⟩;rw[hn]at Jn;exact⟨_,rfl,q L H2 ms s2 hL h2 ⟨Jn,hm⟩⟩
def u5:List Int:=(List.range 32).map λk:Nat=>(0:Int)+(k:Nat)
theorem rN{α β:Type}(f:α->β):∀(l:List α)(k:Nat),(l.map f).eraseIdx k=(l.eraseIdx k).map f
 |[],_=>rfl
 |_::_,0=>rfl
 |a::l,k+1=>congrArg (f a::·) (rN f l k)
theorem pT{α:Type}:∀(l:List α)(k:Nat)(h:k<l.length),(l[k]::l.eraseIdx k).Perm l
 |[],_,h=>absurd h (Nat.not_lt_zero _)
 |_::_,0,_=>.refl _
 |a::l,k+1,h=>(List.Perm.swap a (l[k]'(Nat.lt_of_succ_lt_succ h)) _).trans ((pT l k (Nat.lt_of_succ_lt_succ h)).cons a)
structure qZ(os:List Int):Prop where
 nd:os.Nodup
 b:∀x∈os,0<=x/\x<32
theorem qZ.of{os lf:List Int}(p:(os++lf).Perm u5):qZ os:=by
 have nd:u5.Nodup:=by decide
 have:=p.nodup_iff.mpr nd;refine⟨(List.nodup_append.mp this).1,λx hx=>?_⟩;have:=p.mem_iff.mp (List.mem_append_left _ hx);have key:∀y∈u5,0<=y/\y<32:=by decide
 exact key x this
def jX(K:PySem.W.Frag):Sp:=λvs H Q _=>∃(l:Addr)(ms:List Int),vs=[.ref l]/\H l=some (.lst (ms.map V.int))/\ms.length<=30/\∀(r:Addr)(H':Hp)(os:List Int),aI H H'->H r=none->H' r=some (.lst (os.map V.int))->os.length=ms.length->qZ os->Q (.ref r) H'
theorem jY:aV ["drawn","left"] ["drawn"] (aH br):=⟨rfl,rfl,rfl,by decide +kernel,rfl,by decide +kernel,by decide +kernel⟩
set_option maxHeartbeats 1000000 in
theorem pU(F:aM K mg "_law_houses" br)(T:Txt K mg t):Def P w K mg base 1 "_law_houses" ["drawn"] (jX K):=by
 refine F.def jY (λ_ _ _ _ _ _ us hl=>match us,hl with|[_],_=>rfl) (λvs H Q E h=>?_) (λf bf A outer s H vs Q E hr h=>?_)
 ·obtain⟨l,ms,rfl,_⟩:=h;rfl
 obtain⟨l,ms,rfl,hl,ml,q⟩:=h;refine⟨_,aE (aY (i:=1) jY.nd rfl (Or.inr rfl) (i9 rfl (Nc:=["house"]) (ix:=[none]) (cJ (aH br) ["drawn","left"] rfl rfl (by decide +kernel)) (cC (by rfl) T.dP (aA aG aC)) (λC fp s H=>⟨(aK (i:=0) (show(["house"]:List Str).Nodup by decide +kernel) rfl (Or.inl rfl)),cg,(pv 0)⟩)))
  (aF (ab (i9 rfl (Nc:=["number","left"]) (ix:=[none,some 1]) (cJ (aH br) ["drawn","left"] rfl rfl (by decide +kernel)) (bC K (pv 0)) (λC fp s H=>⟨(aK (i:=0) (show(["number","left"]:List Str).Nodup by decide +kernel) rfl (Or.inl rfl)),cg,(kZ K PySem.F.plainAttrs_list PySem.F.slot_list_pop PySem.F.type_list_pop Am (pv 1) (aA (ao fA (pv 0) (aZ (bW K) (by rfl) T.jA boot_len (aA (pv 1) aC))) aC))⟩)))),?_⟩
 have hsz:(2000:Nat)<=sizeLine:=by decide
 refine⟨32,rfl,by decide,by decide,λD hD=>?_⟩;refine oi (lo:=0) (n:=32) (λi σ H'=>(∃v:Option V,σ=[v])/\aI H H'/\H' D=some (.lst (((List.range i).map λk:Nat=>(0:Int)+(k:Nat)).map V.int))) ⟨⟨none,rfl⟩,(aI.refl _).new hD,aB⟩ ?_ ?_
 ·rintro i σ H1 N hN hi ⟨⟨v,rfl⟩,s1,e1⟩;refine ck ?_;refine⟨_,rfl,_,e1,by rw[List.length_map,List.length_map,List.length_range];lia,hN _ _ ⟨⟨_,rfl⟩,s1.put hD,?_⟩⟩;rw[aB,List.range_succ,List.map_append,List.map_append];rfl
 rintro σ H1 ⟨⟨v,rfl⟩,s1,e1⟩;refine⟨_,rfl,?_⟩;refine⟨l,rfl,⟨_,af.of (s1 _ _ hl)⟩,λR hR=>?_⟩;have MW:D≠R:=ag e1 hR;have Nv:H R=none:=s1.free hR;refine hX (K:=K) (a:=l) (xs:=ms.map V.int) (λi σ H'=>∃(v:Option V)(lf os:List Int),σ=[v,some (.ref D)]/\aI H H'/\H' D=some (.lst (lf.map V.int))/\H' R=some (.lst (os.map V.int))/\os.length=i/\(os++lf).Perm u5) ⟨none,u5,[],rfl,s1.new hR,by rw[aL MW];exact e1,aB,rfl,.refl _⟩ (λi σ H' _ ⟨_,_,_,_,s2,_⟩=>af.of (s2 _ _ hl)) ?_ ?_
 ·rintro i y σ H2 N hN hi ⟨v,lf,os,rfl,s2,e2,r2,ol,pm⟩;obtain⟨m,hm,rfl⟩:=fe hi;have GN:i<ms.length:=(List.getElem?_eq_some_iff.mp hm).1;have ll:os.length+lf.length=32:=by have:=pm.length_eq;rw[List.length_append]at this;exact this
  have l0:(0:Int)<((lf.map V.int).length:Nat):=by rw[List.length_map];lia
  obtain⟨k,hk,kl⟩:∃k:Nat,m%((lf.map V.int).length:Nat)=(k:Int)/\k<lf.length:=by have h0:=Int.emod_nonneg m (show((lf.map V.int).length:Int)≠0 by lia);have h1:=Int.emod_lt_of_pos m l0;rw[List.length_map]at h0 h1 ⊢;exact⟨(m%(lf.length:Nat)).toNat,by lia,by lia⟩
  have sq:seqIndex? (k:Int) (lf.map V.int).length=some k:=(xn (by unfold C3;rw[if_pos (by lia),if_pos (by rw[List.length_map];lia)];simp)).1;refine ck ?_;refine⟨_,rfl,.inl ⟨rfl,_,af.of e2⟩,_,rfl,_,rfl,D,_,rfl,.inl (af.of e2),_,_,rfl,rfl,l0,D,_,_,k,.int lf[k],rfl,rfl,e2,by rw[hk];lia,by rw[hk];lia,by rw[hk];exact sq,by rw[List.getElem?_map];simp[kl],?_⟩;refine⟨_,by rw[aL (Ne.symm MW)];exact r2,by rw[List.length_map];lia,hN _ _ ⟨_,lf.eraseIdx k,os++[lf[k]],rfl,(s2.put hD).put Nv,?_,by rw[aB,List.map_append];rfl,by rw[List.length_append,ol];rfl,?_⟩⟩
  ·rw[aL MW,aB,rN]
  rw[List.append_assoc];exact((pT lf k kl).append_left os).trans pm
 rintro σ H2 ⟨v,lf,os,rfl,s2,e2,r2,ol,pm⟩;rw[List.length_map]at ol;exact q R H2 os s2 Nv r2 ol (.of pm)
structure Ne where
 q:Int
 a:Int
 b:Int
def Cm(e:Ne):PyData:=.tuple [.int e.q,.tuple [.int e.a,.int e.b]]
theorem wq(e:Ne):vL (Cm e)=true:=by simp[Cm,vL,cm]
abbrev Nd:=List (Int×V×Ne)
def kM(p:Int×V×Ne):Key×V:=(Sum.inl p.1,p.2.1)
def kx(d:Nd)(h:Int):Option (Int×V×Ne):=d.find? λp=>decide (p.1=h)
def putN(d:Nd)(h:Int)(v:V)(e:Ne):Nd:=if h∈d.map (·.1)then d.map (λp=>if p.1=h then(h,v,e)else p)else d++[(h,v,e)]
def Bz(d:Nd)(h:Int):Nd:=d.filter λp=>!decide (p.1=h)
theorem B0(d:Nd)(h:Int):dg (d.map kM) (Sum.inl h)=(kx d h).map (·.2.1):=by
 unfold dg kx;rw[List.find?_map,Option.map_map];have e:((λkv:Key×V=>decide (kv.1=Sum.inl h))∘kM)=λp:Int×V×Ne=>decide (p.1=h):=by
  funext m
  simp[kM]
 rw[e];rfl
theorem Jo(d:Nd)(h:Int)(v:V)(e:Ne):putK (d.map kM) (Sum.inl h) v=(putN d h v e).map kM:=by
 unfold putK putN;have ea:((d.map kM).any λkv=>decide (kv.1=Sum.inl h))=decide (h∈d.map (·.1)):=by
  rw[List.any_map,Bool.eq_iff_iff,List.any_eq_true,decide_eq_true_iff,List.mem_map];constructor
  ·rintro⟨m,hm,h⟩;exact⟨m,hm,by simpa[kM]using h⟩
  rintro⟨m,hm,h⟩;exact⟨m,hm,by simp[kM,h]⟩
 rw[ea];by_cases c:h∈d.map (·.1)
 ·rw[if_pos (by simpa using c),if_pos c,List.map_map,List.map_map];refine List.map_congr_left λm _=>?_;show(if(kM m).1=Sum.inl h then((kM m).1,v)else kM m)=kM (if m.1=h then(h,v,e)else m);by_cases c:m.1=h
  ·rw[if_pos c,if_pos (by simp[kM,c])];simp[kM,c]
  rw[if_neg c,if_neg (by simp[kM,c])]
 rw[if_neg (by simpa using c),if_neg c,List.map_append];rfl
theorem zm(d:Nd)(h:Int)(v:V)(e:Ne):(putN d h v e).map (·.1)=if h∈d.map (·.1)then d.map (·.1)else d.map (·.1)++[h]:=by
 unfold putN;by_cases c:h∈d.map (·.1)
 ·rw[if_pos c,if_pos c,List.map_map];refine List.map_congr_left λm _=>?_;show(if m.1=h then(h,v,e)else m).1=m.1;split
  ·rename_i c;exact c.symm
  rfl
 rw[if_neg c,if_neg c,List.map_append];rfl
theorem wu{d:Nd}(nd:(d.map (·.1)).Nodup)(h:Int)(v:V)(e:Ne):((putN d h v e).map (·.1)).Nodup:=by
 rw[zm];split
 ·exact nd
 rename_i c;refine List.nodup_append.mpr ⟨nd,by simp,λa ha b hb=>?_⟩;rw[List.mem_singleton.mp hb];rintro rfl;exact c ha
theorem u9{d:Nd}{h:Int}{v:V}{e:Ne}{p:Int×V×Ne}:p∈putN d h v e->p=(h,v,e)\/p∈d:=by
 unfold putN;split
 ·intro z;obtain⟨x,hx,e⟩:=List.mem_map.mp z;split at e
  ·exact .inl e.symm
  exact .inr (e▸hx)
 intro z;rcases List.mem_append.mp z with z|z
 ·exact .inr z
 exact .inl (List.mem_singleton.mp z)
structure D4(K:PySem.W.Frag)(H:Hp)(a:Addr)(xs:Nd):Prop where
 d:H a=some (.dK (xs.map kM))
 nd:(xs.map (·.1)).Nodup
 v:∀p∈xs,aQ K H 3 p.2.1 (Cm p.2.2)
theorem D4.same{K:PySem.W.Frag}{H H':Hp}{a:Addr}{d:Nd}(h:D4 K H a d)(s:aI H H'):D4 K H' a d:=⟨s _ _ h.d,h.nd,λp hp=>(h.v p hp).same s⟩
structure pV(K:PySem.W.Frag)(H:Hp)(nl:Addr)(ds:List (Addr×Nd)):Prop where
 l:H nl=some (.lst (ds.map λx=>V.ref x.1))
 d:∀x∈ds,D4 K H x.1 x.2
 ap:(ds.map (·.1)).Nodup
theorem pV.same{K:PySem.W.Frag}{H H':Hp}{nl:Addr}{ds:List (Addr×Nd)}(h:pV K H nl ds)(s:aI H H'):pV K H' nl ds:=⟨s _ _ h.l,λx hx=>(h.d x hx).same s,h.ap⟩
theorem pV.set{K:PySem.W.Frag}{H:Hp}{nl:Addr}{ds:List (Addr×Nd)}(h:pV K H nl ds){i:Nat}{x:Addr×Nd}(hi:ds[i]?=some x){d':Nd}(nd:(d'.map (·.1)).Nodup)(hv:∀p∈d',aQ K H 3 p.2.1 (Cm p.2.2)):pV K (upd H x.1 (.dK (d'.map kM))) nl (ds.set i (x.1,d')):=by
 have hx:=h.d x (List.mem_of_getElem? hi);have kp:=bI (o:=.dK (d'.map kM)) (mO.dk hx.d);have Pt:nl≠x.1:=kA h.l hx.d (by intro z;cases z);obtain⟨il,ie⟩:=List.getElem?_eq_some_iff.mp hi;have em:(ds.set i (x.1,d')).map (·.1)=ds.map (·.1):=by
  rw[List.map_set];refine List.ext_getElem (by simp) λj h1 h2=>?_;rw[List.getElem_set];split
  ·rename_i c;subst c;simp[ie]
  rfl
 have er:(ds.set i (x.1,d')).map (λx=>V.ref x.1)=ds.map λx=>V.ref x.1:=by have:=congrArg (List.map V.ref) em;rw[List.map_map,List.map_map]at this;exact this
 refine⟨by rw[aL Pt,er];exact h.l,λy hy=>?_,by rw[em];exact h.ap⟩;obtain⟨j,jl,rfl⟩:=List.getElem_of_mem hy;rw[List.getElem_set];split
 ·exact⟨aB,nd,λp hp=>(hv p hp).kept kp (wq _)⟩
 rename_i c;have MX:j<ds.length:=by simpa using jl
 have hj:=h.d ds[j] (List.getElem_mem MX);have ne:ds[j].1≠x.1:=λz=>by
  have p:=List.pairwise_iff_getElem.mp h.ap;rcases Nat.lt_or_gt_of_ne c with g|g
  ·exact p i j (by simpa using il) (by simpa using MX) g (by simp[ie,z])
  exact p j i (by simpa using MX) (by simpa using il) g (by simp[ie,z])
 exact⟨by rw[aL ne];exact hj.d,hj.nd,λp hp=>(hj.v p hp).kept kp (wq _)⟩
def kN(os:List Int)(many k:Nat)(h:Int):Prop:=(∃j:Nat,j<many/\j≠k/\os[j]?=some h)\/(many<5/\(os[6]?=some h\/os[7]?=some h))
def B1(e:Ne):Prop:=(1<=e.q/\e.q<=10)/\(1<=e.a/\e.a<=9000)/\(1<=e.b/\e.b<=9000)
def oC(os:List Int)(many:Nat)(ds:List (Addr×Nd)):Prop:=∀k x,ds[k]?=some x->∀p∈x.2,kN os many k p.1/\B1 p.2.2
theorem kN.mem{os:List Int}{many k:Nat}{h:Int}(a:kN os many k h):h∈os:=by rcases a with⟨j,_,_,e⟩|⟨_,e|e⟩<;>exact List.mem_of_getElem? e
theorem oC.len{os:List Int}{many:Nat}{ds:List (Addr×Nd)}(h:oC os many ds){k:Nat}{x:Addr×Nd}(hx:ds[k]?=some x)(nd:(x.2.map (·.1)).Nodup):x.2.length<=os.length:=by
 have:=cQ os (x.2.map (·.1)) nd λy hy=>by obtain⟨p,hp,rfl⟩:=List.mem_map.mp hy;exact(h k x hx p hp).1.mem
 rwa [List.length_map]at this
theorem oC.set{os:List Int}{many:Nat}{ds:List (Addr×Nd)}(h:oC os many ds){i:Nat}{x:Addr×Nd}(hx:ds[i]?=some x){d':Nd}(hd:∀p∈d',p∈x.2\/(kN os many i p.1/\B1 p.2.2)):oC os many (ds.set i (x.1,d')):=by
 intro k y hy p hp;rw[List.getElem?_set]at hy;split at hy
 ·rename_i c;subst c;split at hy
  ·cases hy;rcases hd p hp with z|z
   ·exact h i x hx p z
   exact z
  cases hy
 exact h k y hy p hp
structure Tl(K:PySem.W.Frag)(nl hl:Addr)(os:List Int)(S:List Addr)(H H':Hp)(ds:List (Addr×Nd)):Prop where
 m:kq S H H'
 r:pV K H' nl ds
 e:ds.map (·.1)=S
 k:oC os ds.length ds
 h:H' hl=some (.lst (os.map V.int))
theorem Tl.same{K:PySem.W.Frag}{nl hl:Addr}{os:List Int}{S:List Addr}{H H' H2:Hp}{ds:List (Addr×Nd)}(t:Tl K nl hl os S H H' ds)(s:aI H' H2):Tl K nl hl os S H H2 ds:=⟨λb o nb e=>s b o (t.m b o nb e),t.r.same s,t.e,t.k,s _ _ t.h⟩
theorem Tl.set{K:PySem.W.Frag}{nl hl:Addr}{os:List Int}{S:List Addr}{H H':Hp}{ds:List (Addr×Nd)}(t:Tl K nl hl os S H H' ds){i:Nat}{x:Addr×Nd}(hx:ds[i]?=some x){d':Nd}(nd:(d'.map (·.1)).Nodup)(hv:∀p∈d',aQ K H' 3 p.2.1 (Cm p.2.2))(hd:∀p∈d',p∈x.2\/(kN os ds.length i p.1/\B1 p.2.2)):Tl K nl hl os S H (upd H' x.1 (.dK (d'.map kM))) (ds.set i (x.1,d')):=by
 have Kd:=t.r.d x (List.mem_of_getElem? hx);obtain⟨il,ie⟩:=List.getElem?_eq_some_iff.mp hx;have em:(ds.set i (x.1,d')).map (·.1)=ds.map (·.1):=by
  rw[List.map_set];refine List.ext_getElem (by simp) λj h1 h2=>?_;rw[List.getElem_set];split
  ·rename_i c;subst c;simp[ie]
  rfl
 have xS:x.1∈S:=by rw[<-t.e];exact List.mem_map.mpr ⟨x,List.mem_of_getElem? hx,rfl⟩
 refine⟨λb o nb e=>?_,t.r.set hx nd hv,by rw[em];exact t.e,by rw[List.length_set];exact t.k.set hx hd,?_⟩
 ·rw[aL (λz=>nb (by rw[z];exact xS))];exact t.m b o nb e
 rw[aL (kA t.h Kd.d (by intro z;cases z))];exact t.h
theorem Tl.put{K:PySem.W.Frag}{nl hl:Addr}{os:List Int}{S:List Addr}{H H':Hp}{ds:List (Addr×Nd)}(t:Tl K nl hl os S H H' ds){i:Nat}{x:Addr×Nd}(hx:ds[i]?=some x){h:Int}{v:V}{e:Ne}(hv:aQ K H' 3 v (Cm e))(ha:kN os ds.length i h)(he:B1 e):Tl K nl hl os S H (upd H' x.1 (.dK (putK (x.2.map kM) (Sum.inl h) v))) (ds.set i (x.1,putN x.2 h v e)):=by
 have Kd:=t.r.d x (List.mem_of_getElem? hx);rw[Jo x.2 h v e];refine t.set hx (wu Kd.nd _ _ _) (λp hp=>?_) (λp hp=>?_)
 ·rcases u9 hp with rfl|z
  ·exact hv
  exact Kd.v p z
 rcases u9 hp with rfl|z
 ·exact .inr ⟨ha,he⟩
 exact .inl z
def mS(K:PySem.W.Frag):Sp:=λvs H Q _=>∃(nl hl:Addr)(c:Int)(pl:Bool)(os:List Int)(ds:List (Addr×Nd)),vs=[.ref nl,.ref hl,.int c,.int (ds.length:Nat),.bl pl]/\Tl K nl hl os (ds.map (·.1)) H H ds/\os.length=8/\2<=ds.length/\ds.length<=6/\∀(H':Hp)(Nx:List (Addr×Nd)),Tl K nl hl os (ds.map (·.1)) H H' Nx->Nx.length=ds.length->Q .bS H'
theorem Gk{K:PySem.W.Frag}{H:Hp}{p r:Addr}{q a b:Int}(h1:ar K H r [.int q,.ref p])(h2:ar K H p [.int a,.int b]):aQ K H 3 (.ref r) (Cm ⟨q,a,b⟩):=by
 refine .tup h1 rfl λi v d e1 e2=>?_
 match i with
 |0=>cases e1;cases e2;exact .int _
 |1 =>
  cases e1;cases e2;refine .tup h2 rfl λi v d e1 e2=>?_
  match i with
  |0=>cases e1;cases e2;exact .int _
  |1=>cases e1;cases e2;exact .int _
  |i+2=>simp at e1
 |i+2=>simp at e1
theorem Gm(d:Nd)(h:Int):oj (d.map kM) (Sum.inl h)=(Bz d h).map kM:=by
 unfold oj Bz;rw[List.filter_map]
 congr 1
 refine List.filter_congr λp _=>?_;simp[kM]
theorem bF:aV ["near","houses","cell","many","plain","a","step","length","more","kind","birth","b"] ["near","houses","cell","many","plain"] (aH fm):=⟨rfl,rfl,rfl,by decide +kernel,rfl,by decide +kernel,by decide +kernel⟩
set_option maxHeartbeats 2000000 in
theorem sv(F:aM K mg "_law_told" fm)(T:Txt K mg t)(cF:Def P w K mg base 2 "_law_drawn" ["cell","bounds"] (gG K)):Def P w K mg base 3 "_law_told" ["near","houses","cell","many","plain"] (mS K):=by
 refine F.def bF (λ_ _ _ _ _ _ us hl=>match us,hl with|[_,_,_,_,_],_=>rfl) (λvs H Q E h=>?_) (λf bf A outer s H vs Q E hr h=>?_)
 ·obtain⟨nl,hl,c,pl,os,ds,rfl,_⟩:=h;rfl
 obtain⟨nl,hl,c,pl,os,ds,rfl,tl,ol,d2,d6,q⟩:=h;refine⟨_,aE (vU (aa (cF.mono (by decide)) hr aq (aA (pv 2) (aA (cB (aA (pv 3) (aA (ao rn (pv 3) aG) (aA aG (aA aG (aA aG (aA aG aC))))))) aC))) (DR K rfl (aU (aK (i:=5) bF.nd rfl (Or.inl rfl)) (aU (aK (i:=6) bF.nd rfl (Or.inl rfl)) (aU (aK (i:=7) bF.nd rfl (Or.inl rfl)) (aU (aK (i:=8) bF.nd rfl (Or.inl rfl)) (aU (aK (i:=9) bF.nd rfl (Or.inl rfl)) (aU (aK (i:=10) bF.nd rfl (Or.inl rfl)) dM))))))))
  (aE (aY (i:=11) bF.nd rfl (Or.inl rfl) (ao fA (ao bK (ao bK (pv 5) aG) (pv 6)) (pv 3)))
  (aE (vq (a9 (cI (pv 4))
   (aF (vU (ak (aA aG (aA aG aC))) (lh K (i:=7) (j:=8) rfl bF.nd rfl rfl (Or.inl rfl) (Or.inl rfl))))
   (ae)))
  (aE (iA (b9 hr) (aO (aN K) (pv 0) (pv 5) (λ_ _=>rfl)) (aO (aN K) (pv 1) (pv 11) (λ_ _=>rfl)) (ak (aA (ao bK aG (pv 7)) (aA (ak (aA (ao bK aG (pv 10)) (aA aG aC))) aC))) (by rfl))
  (aE (vq (a9 (aW lS (pv 9) aG (ah _))
   (aF (bL (A6 (aO (aN K) (pv 0) (pv 11) (λ_ _=>rfl)) (aO (aN K) (pv 1) (pv 5) (λ_ _=>rfl)) vS ⟨rfl,rfl,rfl,rfl⟩)))
   (aF (a9 (aW lS (pv 9) aG (ah _))
    (aF (iA (b9 hr) (aO (aN K) (pv 0) (pv 11) (λ_ _=>rfl)) (aO (aN K) (pv 1) (pv 5) (λ_ _=>rfl)) (ak (aA (ao bK aG (pv 8)) (aA (ak (aA (ao bK aG (pv 10)) (aA aG aC))) aC))) (by rfl)))
    (aF (iA (b9 hr) (aO (aN K) (pv 0) (pv 11) (λ_ _=>rfl)) (aO (aN K) (pv 1) (pv 5) (λ_ _=>rfl)) (ak (aA (ao bK aG (aO (aN K) (cB (aA (pv 7) (aA (pv 8) aC))) (ao fA (pv 9) aG) (λ_ _=>rfl))) (aA (ak (aA (ao bK aG (pv 10)) (aA aG aC))) aC))) (by rfl)))))))
  (aF (a9 (PW.pt (kS (aW lS (pv 9) aG (ah _)) (jv (aW lT (pv 3) aG (ah _)))))
   (aF (iA (b9 hr) (aO (aN K) (pv 0) (pv 5) (λ_ _=>rfl)) (aO (aN K) (pv 1) (ao bK aG (ao fA (pv 10) aG)) (λ_ _=>rfl)) (ak (aA (ao bK aG (pv 8)) (aA (ak (aA aG (aA aG aC))) aC))) (by rfl)))
   (ae))))))),?_⟩
 have hsz:(2000:Nat)<=sizeLine:=by decide
 refine⟨_,rfl,_,rfl,_,rfl,_,_,rfl,rfl,zz6,λp1 Gn=>?_⟩;have s1:=(aI.refl H).new (o:=.lst [.int (ds.length:Nat),.int ((ds.length:Nat)-1),.int 10,.int 10,.int 8,.int 3]) Gn;refine⟨c,p1,[(ds.length:Nat),(ds.length:Nat)-1,10,10,8,3],rfl,aB,by show 6<=100;decide,λb hb=>?_,λdr H2 ms s2 RC e2 dk=>?_⟩
 ·simp only[List.mem_cons,List.not_mem_nil,or_false]at hb;lia
 have S2:=s1.trans s2;obtain⟨a,st,ln,mo,ki,bi,rfl⟩:∃a b c d e f,ms=[a,b,c,d,e,f]:=by
  match ms,dk.1 with
  |[a,b,c,d,e,f],_=>exact⟨a,b,c,d,e,f,rfl⟩
 have ka:=dk.2 0 _ _ rfl rfl;have ks:=dk.2 1 _ _ rfl rfl;have kl:=dk.2 2 _ _ rfl rfl;have km:=dk.2 3 _ _ rfl rfl;have kk:=dk.2 4 _ _ rfl rfl;have kb:=dk.2 5 _ _ rfl rfl;refine⟨dr,_,rfl,af.of e2,rfl,_,_,rfl,_,_,rfl,_,_,rfl,_,_,rfl,_,_,rfl,_,_,rfl,rfl,?_⟩;have mp:(0:Int)<(ds.length:Nat):=by lia
 refine⟨_,rfl,_,_,rfl,rfl,_,rfl,_,_,rfl,rfl,_,rfl,_,_,rfl,rfl,mp,?_⟩;obtain⟨b,hb,bl⟩:∃b:Nat,(a+1+st)%(ds.length:Nat)=(b:Int)/\b<ds.length:=by have h0:=Int.emod_nonneg (a+1+st) (show((ds.length:Nat):Int)≠0 by lia);have h1:=Int.emod_lt_of_pos (a+1+st) mp;exact⟨((a+1+st)%(ds.length:Nat)).toNat,by lia,by lia⟩
 obtain⟨an,rfl⟩:∃an:Nat,a=an:=⟨a.toNat,by lia⟩;have MY:an≠b:=λz=>by
  subst z;have h1:((ds.length:Nat):Int) ∣ 1+st:=⟨((an:Int)+1+st)/(ds.length:Nat),by have:=Int.mul_ediv_add_emod ((an:Int)+1+st) (ds.length:Nat);rw[hb]at this;lia⟩
  have:=Int.le_of_dvd (by lia) h1;lia
 dsimp only;rw[hb];refine⟨λσ H'=>aI H2 H'/\∃ln mo:Int,(0<=ln/\ln<10)/\(0<=mo/\mo<10)/\σ=[some (.ref nl),some (.ref hl),some (.int c),some (.int (ds.length:Nat)),some (.bl pl),some (.int an),some (.int st),some (.int ln),some (.int mo),some (.int ki),some (.int bi),some (.int b)],?_,?_⟩
 ·refine⟨_,rfl,pl,rfl,?_⟩;cases pl with
  |true =>
   refine gh ⟨zz2,λtp qK=>?_⟩;refine⟨tp,_,rfl,ar.of aB,rfl,_,_,rfl,_,_,rfl,rfl,?_⟩;exact⟨(aI.refl _).new qK,0,0,by decide,by decide,rfl⟩
  |false=>exact c8 ⟨.refl _,ln,mo,kl,km,rfl⟩
 clear kl km;rintro σ H3 ⟨s3,ln,mo,kl,km,rfl⟩;have t3:=(tl.same S2).same s3;have al:an<ds.length:=by lia
 have bb:0<=bi/\bi<3:=kb;have yS:∀{es:List (Addr×Nd)}{k:Nat}{x:Addr×Nd},es[k]?=some x->nQ (es.map λx=>V.ref x.1) (k:Int)=some (V.ref x.1):=λh=>bM (by rw[List.getElem?_map,h];rfl);have vM:∀{k:Nat}{h:Int},os[k]?=some h->nQ (os.map V.int) (k:Int)=some (V.int h):=λh=>bM (by rw[List.getElem?_map,h];rfl);obtain⟨ha,B2⟩:∃h,os[an]?=some h:=⟨os[an],by simp[show an<os.length by lia]⟩;obtain⟨tU,E9⟩:∃h,os[b]?=some h:=⟨os[b],by simp[show b<os.length by lia]⟩;have mk:∀{H3:Hp}{ip op:Addr}{q a b:Int},H3 ip=none->(upd H3 ip (.tup [.int a,.int b])) op=none->aI H3 (upd (upd H3 ip (.tup [.int a,.int b])) op (.tup [.int q,.ref ip]))/\aQ K (upd (upd H3 ip (.tup [.int a,.int b])) op (.tup [.int q,.ref ip])) 3 (.ref op) (Cm ⟨q,a,b⟩):=λh1 h2 =>
  ⟨((aI.refl _).new h1).new h2,Gk (ar.of aB) (ar.of (by rw[aL (ag aB h2)];exact aB))⟩
 have sz:∀{H':Hp}{es:List (Addr×Nd)}{k:Nat}{x:Addr×Nd},Tl K nl hl os (ds.map (·.1)) H H' es->es[k]?=some x->(x.2.map kM).length<=100:=λt h=>by rw[List.length_map];have:=t.k.len h (t.r.d _ (List.mem_of_getElem? h)).nd;lia
 have len:∀{H':Hp}{es:List (Addr×Nd)},Tl K nl hl os (ds.map (·.1)) H H' es->es.length=ds.length:=λt=>by
  have:=congrArg List.length t.e
  rwa [List.length_map,List.length_map]at this
 obtain⟨xa,D5⟩:∃x,ds[an]?=some x:=⟨ds[an],by simp[al]⟩;refine⟨_,rfl,_,_,rfl,rfl,_,rfl,_,_,rfl,rfl,zz2,λip Gp=>⟨zz2,λop Gq=>?_⟩⟩;obtain⟨u4,v4⟩:=mk (q:=1+ln) Gp Gq;have t4:=t3.same u4;generalize upd (upd H3 ip (.tup [.int (1+bi),.int 2])) op (.tup [.int (1+ln),.ref ip])=H4 at u4 v4 t4 ⊢;refine⟨_,rfl,_,rfl,nl,_,_,.ref xa.1,rfl,rfl,af.of t4.r.l,yS D5,_,rfl,_,rfl,hl,_,_,.int tU,rfl,rfl,af.of t4.h,vM E9,xa.1,_,rfl,.inl ⟨_,Sum.inl tU,(t4.r.d xa (List.mem_of_getElem? D5)).d,rfl,by have:=sz t4 D5;lia,rfl⟩,?_⟩;have t5:=t4.put D5 v4 (.inl ⟨b,bl,Ne.symm MY,E9⟩) ⟨⟨by show 1<=1+ln;lia,by show 1+ln<=10;lia⟩,⟨by show 1<=1+bi;lia,by show 1+bi<=9000;lia⟩,by show 1<=(2:Int)/\(2:Int)<=9000;decide⟩;generalize upd H4 xa.1 (.dK (putK (xa.2.map kM) (Sum.inl tU) (.ref op)))=H5 at t5 ⊢;generalize ds.set an (xa.1,putN xa.2 tU (.ref op) ⟨1+ln,1+bi,2⟩)=d5 at t5;have l5:=len t5;obtain⟨xb,vN⟩:∃x,d5[b]?=some x:=⟨d5[b],by simp[show b<d5.length by lia]⟩;refine⟨λσ H'=>(∃d6,Tl K nl hl os (ds.map (·.1)) H H' d6)/\σ=[some (.ref nl),some (.ref hl),some (.int c),some (.int (ds.length:Nat)),some (.bl pl),some (.int an),some (.int st),some (.int ln),some (.int mo),some (.int ki),some (.int bi),some (.int b)],?_,?_⟩
 ·refine⟨_,rfl,rfl,_,rfl,?_⟩;by_cases c0:ki=0
  ·refine dS (congrArg V.int c0) ?_;have xd:=t5.r.d xb (List.mem_of_getElem? vN);refine⟨_,rfl,_,rfl,nl,_,_,.ref xb.1,rfl,rfl,af.of t5.r.l,yS vN,xb.1,rfl,.inl ⟨_,.inl xd.d⟩,_,rfl,_,rfl,hl,_,_,.int ha,rfl,rfl,af.of t5.h,vM B2,_,Sum.inl ha,xd.d,rfl,λv hv=>?_,λhn=>?_⟩
   ·refine⟨⟨d5.set b (xb.1,Bz xb.2 ha),?_⟩,rfl⟩;rw[Gm];refine t5.set vN ?_ (λp hp=>xd.v p (List.mem_filter.mp hp).1) (λp hp=>.inl (List.mem_filter.mp hp).1);exact xd.nd.sublist ((List.filter_sublist).map _)
   exact⟨⟨d5,t5⟩,rfl⟩
  refine dR (λz=>c0 (V.int.inj z)) ?_;refine⟨_,rfl,rfl,_,rfl,?_⟩;by_cases c1:ki=1
  ·refine dS (congrArg V.int c1) ?_;refine⟨_,rfl,_,_,rfl,rfl,_,rfl,_,_,rfl,rfl,zz2,λip Gp=>⟨zz2,λop Gq=>?_⟩⟩;obtain⟨u6,v6⟩:=mk (q:=1+mo) Gp Gq;have t6:=t5.same u6;generalize upd (upd H5 ip (.tup [.int (2+bi),.int 2])) op (.tup [.int (1+mo),.ref ip])=H6 at u6 v6 t6 ⊢;refine⟨_,rfl,_,rfl,nl,_,_,.ref xb.1,rfl,rfl,af.of t6.r.l,yS vN,_,rfl,_,rfl,hl,_,_,.int ha,rfl,rfl,af.of t6.h,vM B2,xb.1,_,rfl,.inl ⟨_,Sum.inl ha,(t6.r.d xb (List.mem_of_getElem? vN)).d,rfl,by have:=sz t6 vN;lia,rfl⟩,?_⟩;exact⟨⟨_,t6.put vN v6 (.inl ⟨an,by lia,MY,B2⟩) ⟨⟨by show 1<=1+mo;lia,by show 1+mo<=10;lia⟩,⟨by show 1<=2+bi;lia,by show 2+bi<=9000;lia⟩,by show 1<=(2:Int)/\(2:Int)<=9000;decide⟩⟩,rfl⟩
  refine dR (λz=>c1 (V.int.inj z)) ?_;obtain⟨z,ez,z0⟩:∃z:Int,nQ [V.int ln,V.int mo] (ki%2)=some (.int z)/\0<=z/\z<10:=by
   rcases Int.emod_two_eq ki with e|e
   ·rw[e];exact⟨ln,rfl,kl⟩
   rw[e];exact⟨mo,rfl,km⟩
  refine⟨_,rfl,_,rfl,zz2,λlp Pu=>?_⟩;have s6:=(aI.refl H5).new (o:=.lst [.int ln,.int mo]) Pu;refine⟨_,rfl,_,_,rfl,rfl,(by show(0:Int)<2;decide),lp,_,_,.int z,rfl,rfl,af.of aB,ez,_,_,rfl,rfl,?_⟩;generalize upd H5 lp (.lst [.int ln,.int mo])=Pw at s6 ⊢;refine⟨_,rfl,_,_,rfl,rfl,zz2,λip Gp=>⟨zz2,λop Gq=>?_⟩⟩;obtain⟨u6,v6⟩:=mk (q:=1+z) Gp Gq;have t6:=(t5.same s6).same u6;generalize upd (upd Pw ip (.tup [.int (1+bi),.int 2])) op (.tup [.int (1+z),.ref ip])=H6 at u6 v6 t6 ⊢;refine⟨_,rfl,_,rfl,nl,_,_,.ref xb.1,rfl,rfl,af.of t6.r.l,yS vN,_,rfl,_,rfl,hl,_,_,.int ha,rfl,rfl,af.of t6.h,vM B2,xb.1,_,rfl,.inl ⟨_,Sum.inl ha,(t6.r.d xb (List.mem_of_getElem? vN)).d,rfl,by have:=sz t6 vN;lia,rfl⟩,?_⟩;exact⟨⟨_,t6.put vN v6 (.inl ⟨an,by lia,MY,B2⟩) ⟨⟨by show 1<=1+z;lia,by show 1+z<=10;lia⟩,⟨by show 1<=1+bi;lia,by show 1+bi<=9000;lia⟩,by show 1<=(2:Int)/\(2:Int)<=9000;decide⟩⟩,rfl⟩
 rintro σ H6 ⟨⟨e6,t6⟩,rfl⟩;have l6:=len t6;refine⟨_,rfl,rfl,_,rfl,?_⟩;by_cases c2:ki=2
 ·refine dS (congrArg V.int c2) ?_;refine⟨_,rfl,_,_,rfl,rfl,_,rfl,?_⟩;by_cases c5:((ds.length:Nat):Int)<5
  ·refine dS c5 ?_;obtain⟨xc,exc⟩:∃x,e6[an]?=some x:=⟨e6[an],by simp[show an<e6.length by lia]⟩;obtain⟨j,ej,jj⟩:∃j:Nat,6+bi%2=(j:Int)/\(j=6\/j=7):=by
    rcases Int.emod_two_eq bi with e|e
    ·exact⟨6,by lia,.inl rfl⟩
    exact⟨7,by lia,.inr rfl⟩
   obtain⟨hc,MZ⟩:∃h,os[j]?=some h:=⟨os[j]'(by lia),by simp[show j<os.length by lia]⟩;refine⟨_,rfl,_,_,rfl,rfl,zz2,λip Gp=>⟨zz2,λop Gq=>?_⟩⟩;obtain⟨u7,v7⟩:=mk (q:=1+mo) Gp Gq;have t7:=t6.same u7;generalize upd (upd H6 ip (.tup [.int 1,.int 1])) op (.tup [.int (1+mo),.ref ip])=H7 at u7 v7 t7 ⊢;refine⟨_,rfl,_,rfl,nl,_,_,.ref xc.1,rfl,rfl,af.of t7.r.l,yS exc,_,rfl,_,rfl,_,_,rfl,rfl,(by show(0:Int)<2;decide),_,_,rfl,rfl,hl,_,_,.int hc,rfl,rfl,af.of t7.h,(by rw[ej];exact vM MZ),xc.1,_,rfl,.inl ⟨_,Sum.inl hc,(t7.r.d xc (List.mem_of_getElem? exc)).d,rfl,by have:=sz t7 exc;lia,rfl⟩,?_⟩;have t8:=t7.put exc v7 (.inr ⟨by lia,by rcases jj with rfl|rfl;exact .inl MZ;exact .inr MZ⟩) ⟨⟨by show 1<=1+mo;lia,by show 1+mo<=10;lia⟩,by show 1<=(1:Int)/\(1:Int)<=9000;decide,by show 1<=(1:Int)/\(1:Int)<=9000;decide⟩;exact q _ _ t8 (len t8)
  exact dR c5 (q _ _ t6 l6)
 exact dR (λz=>c2 (V.int.inj z)) (q _ _ t6 l6)
def Jp:List Int:=[6,4,6,32,32,32,32,32,32,32,32]
theorem B3:∀b∈Jp,0<b/\b<=1000000:=by decide
def mT(K:PySem.W.Frag):Sp:=λvs H Q _=>∃(sc:Addr)(cs:List Int)(ex:Int),vs=[.ref sc,.int ex]/\af K H sc (cs.map V.int)/\cs.length<=100/\0<=ex/\ex<=100/\∀(r nl hl:Addr)(H':Hp)(os:List Int)(ds:List (Addr×Nd)),aI H H'->ar K H' r [.ref hl,.int (ds.length:Nat),.ref nl]->pV K H' nl ds->oC os ds.length ds->H' hl=some (.lst (os.map V.int))->qZ os->os.length=8->1<=ds.length->ds.length<=6->Q (.ref r) H'
theorem bp:aV ["script","extra","first","head","many","houses","near","cell"] ["script","extra"] (aH cV):=⟨rfl,rfl,rfl,by decide +kernel,rfl,by decide +kernel,by decide +kernel⟩
set_option maxHeartbeats 2000000 in
theorem sx(F:aM K mg "_law_news" cV)(T:Txt K mg t)(bX:Def P w K mg base 1 "_law_cell_at" ["script","k"] (dq K))(bE:Def P w K mg base 1 "_law_mixed" ["cell","k"] dQ)(cF:Def P w K mg base 2 "_law_drawn" ["cell","bounds"] (gG K))(gH:Def P w K mg base 1 "_law_houses" ["drawn"] (jX K))(jZ:Def P w K mg base 3 "_law_told" ["near","houses","cell","many","plain"] (mS K)):Def P w K mg base 4 "_law_news" ["script","extra"] (mT K):=by
 refine F.def bp (λ_ _ _ _ _ _ us hl=>match us,hl with|[_,_],_=>rfl) (λvs H Q E h=>?_) (λf bf A outer s H vs Q E hr h=>?_)
 ·obtain⟨sc,cs,ex,rfl,_⟩:=h;rfl
 obtain⟨sc,cs,ex,rfl,hS,cl,x0,x1,q⟩:=h;refine⟨_,aE (aY (i:=2) bp.nd rfl (Or.inr rfl) (aa (bX.mono (by decide)) hr aq (aA (pv 0) (aA aG aC))))
  (aE (aY (i:=3) bp.nd rfl (Or.inl rfl) (aa (cF.mono (by decide)) hr aq (aA (pv 2) (aA (ao (oG K) (cB (aA aG (aA aG (aA aG aC)))) (ao Fu (cB (aA aG aC)) aG)) aC))))
  (aE (aY (i:=4) bp.nd rfl (Or.inl rfl) (ao bK aG (aO (aN K) (pv 3) aG (λ_ _=>rfl))))
  (aE (aY (i:=5) bp.nd rfl (Or.inl rfl) (aa (gH.mono (by decide)) hr aq (aA (lV (lg K) (pv 3) (lU aG) rp) aC)))
  (aE (lb (i:=6) bp.nd rfl (Or.inl rfl) rfl (Nc:=["k"]) (ix:=[none]) (cJ (aH cV) ["script","extra","first","head","many","houses","near","cell"] rfl rfl (by decide +kernel)) (cC (by rfl) T.dP (aA (pv 4) aC)) (λC fp s H=>⟨(aK (i:=0) (show(["k"]:List Str).Nodup by decide +kernel) rfl (Or.inl rfl)),cg,uO⟩))
  (aE (PS.rj (bJ PassesOwn.never rfl (bC K (ao (oG K) (lV (lg K) (pv 0) (lU aG) (lU aG)) (i9 rfl (Nc:=["k","first"]) (ix:=[none,some 2]) (cJ (aH cV) ["script","extra","first","head","many","houses","near","cell"] rfl rfl (by decide +kernel)) (cC (by rfl) T.dP (aA (ao bK (aO (aN K) (pv 3) aG (λ_ _=>rfl)) (pv 1)) aC)) (λC fp s H=>⟨(aK (i:=0) (show(["k","first"]:List Str).Nodup by decide +kernel) rfl (Or.inl rfl)),cg,(aa (bE.mono (by decide)) hr aq (aA (pv 1) (aA (ao bK aG (pv 0)) aC)))⟩)))) (aK (i:=7) bp.nd rfl (Or.inl rfl))
   (aF (a9 (aW oU (pv 4) aG (ah _))
    (aF (bL (aa (jZ.mono (by decide)) hr aq (aA (pv 6) (aA (pv 5) (aA (pv 7) (aA (pv 4) (aA (fb lS (aO (aN K) (pv 3) aG (λ_ _=>rfl)) aG (ah _)) aC))))))))
    (ae)))))
  (aF (ab (ak (aA (pv 5) (aA (pv 4) (aA (pv 6) aC))))))))))),?_⟩
 have hsz:(2000:Nat)<=sizeLine:=by decide
 refine⟨_,rfl,sc,cs,0,rfl,hS,by decide,λfi=>?_⟩;refine⟨_,rfl,zz3,λp1 Gn=>⟨zz1,λp2 xv=>⟨p2,8,_,rfl,rfl,aB,by decide,by decide,by decide,λp3 KR=>?_⟩⟩⟩;have s3:=(((aI.refl H).new (o:=.lst [.int 6,.int 4,.int 6]) Gn).new (o:=.lst [.int 32]) xv).new (o:=.lst (List.replicate (8:Int).toNat [V.int 32]).flatten) KR;refine⟨p1,p3,_,_,rfl,rfl,af.of (by rw[aL (ag (by rw[aL (ag aB xv)];exact aB) KR),aL (ag aB xv)];exact aB),af.of aB,by decide,λp4 Px=>?_⟩;have s4:=s3.new (o:=.lst ([V.int 6,.int 4,.int 6]++(List.replicate (8:Int).toNat [V.int 32]).flatten)) Px;refine⟨fi,p4,Jp,rfl,aB,by decide,B3,λhd H5 ms s5 nh e5 dk=>?_⟩;have S5:=s4.trans s5;have D6:ms.length=11:=dk.1;obtain⟨m0,Ny⟩:∃m,ms[0]?=some m:=⟨ms[0],by simp[D6]⟩;obtain⟨m1,Py⟩:∃m,ms[1]?=some m:=⟨ms[1],by simp[D6]⟩;obtain⟨m2,Nz⟩:∃m,ms[2]?=some m:=⟨ms[2],by simp[D6]⟩;have k0:=dk.2 0 _ _ Ny rfl;have k2:=dk.2 2 _ _ Nz rfl;have at':∀{k:Nat}{m:Int},ms[k]?=some m->nQ (ms.map V.int) (k:Int)=some (V.int m):=λh=>bM (by rw[List.getElem?_map,h];rfl);refine⟨_,rfl,hd,_,_,.int m0,rfl,rfl,af.of e5,at' Ny,_,_,rfl,rfl,?_⟩;obtain⟨many,Jq⟩:∃many:Nat,1+m0=(many:Int):=⟨(1+m0).toNat,by lia⟩;refine⟨_,rfl,_,rfl,hd,_,rfl,af.of e5,λp6 Pz=>?_⟩;rw[yI (by decide),<-List.map_drop];have s6:=(aI.refl H5).new (o:=.lst ((ms.drop (3:Int).toNat).map V.int)) Pz;have e6:(upd H5 p6 (.lst ((ms.drop (3:Int).toNat).map V.int))) p6=some (.lst ((ms.drop (3:Int).toNat).map V.int)):=aB;generalize upd H5 p6 (.lst ((ms.drop (3:Int).toNat).map V.int))=H6 at s6 e6 ⊢;have P0:(ms.drop (3:Int).toNat).length=8:=by rw[List.length_drop,D6];rfl
 refine⟨p6,_,rfl,e6,by lia,λhl H7 os s7 N0 e7 ol rO=>?_⟩;rw[P0]at ol;have S7:=S5.trans (s6.trans s7);have N1:=(s6.trans s7) _ _ e5;dsimp only;rw[Jq];have mn:1<=many/\many<=6:=by lia
 refine⟨_,rfl,(many:Int),rfl,by lia,by lia,λnl HL=>?_⟩;have HH:H nl=none:=S7.free HL;refine oi (lo:=0) (n:=((many:Nat):Int).toNat) (λi σ H'=>∃(v:Option V)(ds:List (Addr×Nd)),σ=[v]/\aI H7 H'/\H' nl=some (.lst (ds.map λx=>V.ref x.1))/\ds.length=i/\(∀x∈ds,x.2=[]/\H' x.1=some (.dK [])/\H7 x.1=none)/\(ds.map (·.1)).Nodup) ⟨none,[],rfl,(aI.refl _).new HL,aB,rfl,λx hx=>absurd hx List.not_mem_nil,List.nodup_nil⟩ ?_ ?_
 ·rintro i σ H8 N hN hi ⟨v,ds,rfl,s8,e8,dl,Gs,Ma⟩;refine ck ?_;refine λp hp=>?_;have np:nl≠p:=ag e8 hp;refine⟨_,by rw[aL np];exact e8,by rw[List.length_map];lia,hN _ _ ⟨_,ds++[(p,[])],rfl,(s8.new hp).put HL,by rw[aB,List.map_append];rfl,by rw[List.length_append,dl];rfl,λx hx=>?_,?_⟩⟩
  ·rcases List.mem_append.mp hx with h|h
   ·obtain⟨a1,a2,a3⟩:=Gs x h;have n1:x.1≠nl:=kA a2 e8 (by intro z;cases z);have n2:x.1≠p:=ag a2 hp;exact⟨a1,by rw[aL n1,aL n2];exact a2,a3⟩
   rw[List.mem_singleton.mp h];exact⟨rfl,by rw[aL (Ne.symm np)];exact aB,s8.free hp⟩
  rw[List.map_append];refine List.nodup_append.mpr ⟨Ma,by simp,λa ha b hb=>?_⟩;rw[List.mem_singleton.mp hb];obtain⟨x,hx,rfl⟩:=List.mem_map.mp ha;exact ag (Gs x hx).2.1 hp
 rintro σ H8 ⟨v,ds,rfl,s8,e8,dl,Gs,Ma⟩;have RD:ds.length=many:=by lia
 have S8:=S7.trans s8;have P1:pV K H8 nl ds:=⟨e8,λx hx=>by obtain⟨a1,a2,_⟩:=Gs x hx;exact⟨by rw[a1];exact a2,by rw[a1];exact List.nodup_nil,λp hp=>by rw[a1]at hp;exact absurd hp List.not_mem_nil⟩,Ma⟩
 have P2:oC os ds.length ds:=λk x hx p hp=>by rw[(Gs x (List.mem_of_getElem? hx)).1]at hp;exact absurd hp List.not_mem_nil
 have fr:∀b∈ds.map (·.1),H b=none:=λb hb=>by obtain⟨x,hx,rfl⟩:=List.mem_map.mp hb;exact S7.free (Gs x hx).2.2
 have P4:Tl K nl hl os (ds.map (·.1)) H8 H8 ds:=⟨λb o _ e=>e,P1,rfl,P2,s8 _ _ e7⟩;refine⟨_,rfl,_,rfl,_,rfl,sc,_,rfl,S8.seq hS,λsl Dy=>?_⟩;obtain⟨ys,ey,_,yl⟩:=Ax cs (some 1) (some 31);rw[ey];have s9:=(aI.refl H8).new (o:=.lst (ys.map V.int)) Dy;have e9:(upd H8 sl (.lst (ys.map V.int))) sl=some (.lst (ys.map V.int)):=aB;generalize upd H8 sl (.lst (ys.map V.int))=H9 at s9 e9 ⊢;refine⟨_,rfl,hd,_,_,.int m2,rfl,rfl,af.of ((s8.trans s9) _ _ N1),at' Nz,_,rfl,_,_,rfl,rfl,_,rfl,by lia,by lia,λD hD=>?_⟩;refine oi (lo:=0) (n:=(m2+ex).toNat) (λi σ H'=>∃(v:Option V)(zs:List Int),σ=[v,some (.int fi)]/\aI H9 H'/\H' D=some (.lst (zs.map V.int))/\zs.length=i) ⟨none,[],rfl,(aI.refl _).new hD,aB,rfl⟩ ?_ ?_
 ·rintro i σ HA N hN hi ⟨v,zs,rfl,sA,eA,zl⟩;refine ck ?_;refine⟨_,rfl,_,rfl,_,_,rfl,rfl,fi,_,rfl,by lia,by lia,λm _=>?_⟩;exact⟨_,eA,by rw[List.length_map];lia,hN _ _ ⟨_,zs++[m],rfl,sA.put hD,by rw[aB,List.map_append];rfl,by rw[List.length_append,zl];rfl⟩⟩
 rintro σ HA ⟨v,zs,rfl,sA,eA,zl⟩;refine⟨sl,D,_,_,rfl,rfl,af.of (sA _ _ e9),af.of eA,by rw[List.length_map,List.length_map];lia,λpl vK=>?_⟩;rw[<-List.map_append];have sB:=(s9.trans sA).new (o:=.lst ((ys++zs).map V.int)) vK;have eB:(upd HA pl (.lst ((ys++zs).map V.int))) pl=some (.lst ((ys++zs).map V.int)):=aB;generalize upd HA pl (.lst ((ys++zs).map V.int))=HB at sB eB ⊢;generalize ys++zs=cells at eB ⊢;have Ke:=P4.same sB;have Jr:∀{b:Addr}{l:List V},HB b=some (.lst l)->b∉ds.map (·.1):=λe hb=>by obtain⟨x,hx,rfl⟩:=List.mem_map.mp hb;have:=sB _ _ (Gs x hx).2.1;rw[e]at this;cases this
 have N2:=(s8.trans sB) _ _ N1
 let I:Nat->_->_->Prop:=λi σ H'=>∃(es:List (Addr×Nd))(v7:Option V),σ=[some (.ref sc),some (.int ex),some (.int fi),some (.ref hd),some (.int (many:Nat)),some (.ref hl),some (.ref nl),v7]/\Tl K nl hl os (ds.map (·.1)) HB H' es
 refine⟨pl,rfl,⟨_,af.of eB⟩,cM (K:=K) (a:=pl) (xs:=cells.map V.int) I ⟨ds,none,rfl,⟨λb o _ e=>e,Ke.r,Ke.e,Ke.k,Ke.h⟩⟩ (λi σ H' _ ⟨_,_,_,t⟩=>af.of (t.m _ _ (Jr eB) eB)) ?_ ?_⟩
 ·rintro i y σ HC hi ⟨es,v7,rfl,tC⟩;obtain⟨c,_,rfl⟩:=fe hi;have el:es.length=many:=by have:=congrArg List.length tC.e;rw[List.length_map,List.length_map]at this;lia
  refine⟨_,rfl,_,_,rfl,rfl,_,rfl,?_⟩;by_cases c1:(1:Int)<(many:Nat)
  ·refine dS c1 ?_;refine⟨_,rfl,_,rfl,_,rfl,_,rfl,_,rfl,hd,_,_,.int m1,rfl,rfl,af.of (tC.m _ _ (Jr N2) N2),at' Py,rfl,?_⟩;refine⟨nl,hl,c,_,os,es,(by rw[el];exact rfl),⟨λb o _ e=>e,tC.r,rfl,tC.k,tC.h⟩,ol,by lia,by lia,λHD fs tD fl=>?_⟩;refine⟨fs,_,rfl,⟨λb o nb e=>tD.m b o (by rw[tC.e];exact nb) (tC.m b o nb e),tD.r,by rw[tD.e,tC.e],tD.k,tD.h⟩⟩
  exact dR c1 ⟨es,_,rfl,tC⟩
 rintro σ HC ⟨es,v7,rfl,tC⟩;have el:es.length=many:=by have:=congrArg List.length tC.e;rw[List.length_map,List.length_map]at this;lia
 refine⟨_,rfl,_,rfl,_,rfl,zz3,λr hr=>?_⟩;have sD:=(aI.refl HC).new (o:=.tup [.ref hl,.int (many:Nat),.ref nl]) hr;have sC:aI H HC:=λb o e=>tC.m b o (λhb=>by rw[fr b hb]at e;cases e) (S8.trans sB b o e);refine q r nl hl _ os es (sC.trans sD) (by rw[el];exact ar.of aB) (tC.r.same sD) tC.k (sD _ _ tC.h) rO ol (by lia) (by lia)
theorem kN.in{os:List Int}{many k:Nat}{h:Int}(a:kN os many k h):h∈((List.range many).filter λj=>decide (j≠k)).map (λj=>os.getD j 0)++(if many<5 then[os.getD 6 0,os.getD 7 0]else[]):=by
 have gd:∀{j:Nat},os[j]?=some h->os.getD j 0=h:=λe=>by rw[List.getD_eq_getElem?_getD,e];rfl
 rcases a with⟨j,jm,jk,e⟩|⟨m5,e|e⟩
 ·exact List.mem_append_left _ (List.mem_map.mpr ⟨j,List.mem_filter.mpr ⟨List.mem_range.mpr jm,by simpa using jk⟩,gd e⟩)
 ·exact List.mem_append_right _ (by rw[if_pos m5,gd e];exact List.mem_cons_self)
 exact List.mem_append_right _ (by rw[if_pos m5,gd e];exact List.mem_cons_of_mem _ List.mem_cons_self)
theorem D7:∀many:Nat,many<=6->∀k:Nat,k<many->((List.range many).filter λj=>decide (j≠k)).length+(if many<5 then 2 else 0)<=5:=by decide
theorem oC.Gu{os:List Int}{many:Nat}{ds:List (Addr×Nd)}(h:oC os many ds)(m6:many<=6){k:Nat}(km:k<many){x:Addr×Nd}(hx:ds[k]?=some x)(nd:(x.2.map (·.1)).Nodup):x.2.length<=5:=by
 have:=cQ _ (x.2.map (·.1)) nd λy hy=>by obtain⟨p,hp,rfl⟩:=List.mem_map.mp hy;exact(h k x hx p hp).1.in
 rw[List.length_map,List.length_append,List.length_map]at this;have f:=D7 many m6 k km;by_cases c:many<5
 ·rw[if_pos c]at this f;have:([os.getD 6 0,os.getD 7 0]:List Int).length=2:=rfl;lia
 rw[if_neg c]at this f;have:([]:List Int).length=0:=rfl;lia
theorem kN.ne{os:List Int}(ok:qZ os){many k:Nat}(m6:many<=6)(km:k<many){h g:Int}(a:kN os many k h)(e:os[k]?=some g):h≠g:=by
 have uq:∀{i j:Nat},os[i]?=some h->os[j]?=some g->i≠j->h≠g:=λ{i j} e1 e2 ne z=>by
  obtain⟨i1,i2⟩:=List.getElem?_eq_some_iff.mp e1;obtain⟨j1,j2⟩:=List.getElem?_eq_some_iff.mp e2;have p:=List.pairwise_iff_getElem.mp ok.nd;rcases Nat.lt_or_gt_of_ne ne with c|c
  ·exact p i j i1 j1 c (by rw[i2,j2,z])
  exact p j i j1 i1 c (by rw[i2,j2,z])
 rcases a with⟨j,jm,jk,e1⟩|⟨m5,e1|e1⟩
 ·exact uq e1 e jk
 ·exact uq e1 e (by lia)
 exact uq e1 e (by lia)
def zo(p:Int×V×Ne):Wr:=⟨p.1,p.2.2.q,p.2.2.a,p.2.2.b⟩
structure FA(os:List Int)(ds:List (Addr×Nd))(n:Int)(k:Nat)(N:Nw):Prop where
 h:os[k]?=some N.h
 n:N.n=n
 w:∃x,ds[k]?=some x/\N.near.Perm (x.2.map zo)
structure MapOf(os:List Int)(ds:List (Addr×Nd))(ms:Ms):Prop where
 l:ms.length=ds.length
 t:∀(k:Nat)(m:V×Nw),ms[k]?=some m->FA os ds 1 k m.2
theorem aI.A9{H0 H2:Hp}{a:Addr}{u o:HO}(h:H0 a=some o)(s:aI (upd H0 a u) H2):aI H0 (upd H2 a o):=λb p e=>by
 by_cases c:b=a
 ·subst c;rw[aB,<-h,e]
 rw[aL c];exact s b p (by rw[aL c];exact e)
theorem mO.dx{H:Hp}{a:Addr}{kvs:List (Key×V)}{u:HO}(ok:zF P w a kvs u)(h:H a=some u):mO H a:=λys e=>by obtain⟨_,_,_,_,_,rfl⟩:=ok;rcases e with e|⟨u,e⟩<;>(rw[h]at e;cases e)
theorem Gv{K:PySem.W.Frag}{H:Hp}{p r:Addr}{w:Wr}(h1:ar K H r [.int w.o,.int w.q,.ref p])(h2:ar K H p [.int w.a,.int w.b]):wZ K H (.ref r) w:=by
 refine .tup h1 rfl λi v d e1 e2=>?_
 match i with
 |0=>cases e1;cases e2;exact .int _
 |1=>cases e1;cases e2;exact .int _
 |2 =>
  cases e1;cases e2;refine .tup h2 rfl λi v d e1 e2=>?_
  match i with
  |0=>cases e1;cases e2;exact .int _
  |1=>cases e1;cases e2;exact .int _
  |i+2=>simp at e1
 |i+3=>simp at e1
theorem wx{K:PySem.W.Frag}{H:Hp}{n:Nat}{v:V}{e:Ne}(h:aQ K H (n+2) v (Cm e)):∃a p,v=.ref a/\ar K H a [.int e.q,.ref p]/\ar K H p [.int e.a,.int e.b]:=by
 obtain⟨a,xs,rfl,h1,h2,h3⟩:=sW h
 match xs,h2 with
 |[x,y],_ =>
  obtain rfl:=mH (h3 0 x _ rfl rfl);obtain⟨p,ys,rfl,g1,g2,g3⟩:=sW (h3 1 y _ rfl rfl)
  match ys,g2 with
  |[x,y],_ =>
   obtain rfl:=mH (g3 0 x _ rfl rfl);obtain rfl:=mH (g3 1 y _ rfl rfl);exact⟨a,p,rfl,h1,g1⟩
theorem B4{d:Nd}(nd:(d.map (·.1)).Nodup){p:Int×V×Ne}(hp:p∈d):kx d p.1=some p:=by
 unfold kx;cases e:d.find? λq=>decide (q.1=p.1)with
 |none=>exact absurd (List.find?_eq_none.mp e p hp) (by simp)
 |some q =>
  have h1:=List.mem_of_find?_eq_some e;have h2:q.1=p.1:=by simpa using List.find?_some e
  congr 1
  obtain⟨i,il,rfl⟩:=List.getElem_of_mem h1;obtain⟨j,jl,rfl⟩:=List.getElem_of_mem hp;have:i=j:=(List.getElem_inj (xs:=d.map (·.1)) (h₀:=by simpa using il) (h₁:=by simpa using jl) nd).mp (by simpa using h2);subst this;rfl
theorem D8{os:List Int}{ds:List (Addr×Nd)}(rO:qZ os)(nk:oC os ds.length ds)(d6:ds.length<=6){k:Nat}{x:Addr×Nd}(hx:ds[k]?=some x)(nd:(x.2.map (·.1)).Nodup){h n:Int}(hh:os[k]?=some h)(n0:0<=n)(n1:n<=900000):Gg ⟨h,n,x.2.map zo,[]⟩:=by
 have kl:k<ds.length:=(List.getElem?_eq_some_iff.mp hx).1;refine⟨rO.b h (List.mem_of_getElem? hh),⟨n0,n1⟩,⟨λw hw=>?_,?_,?_,?_⟩,?_⟩
 ·obtain⟨p,hp,rfl⟩:=List.mem_map.mp hw;obtain⟨a,e⟩:=nk k x hx p hp;exact⟨rO.b _ a.mem,e.1,e.2.1,e.2.2⟩
 ·show(x.2.map zo).length<=5;rw[List.length_map];exact nk.Gu d6 kl hx nd
 ·show((x.2.map zo).map (·.o)).Nodup;rw[List.map_map];exact nd
 ·show h∉(x.2.map zo).map (·.o);rw[List.map_map];intro hm;obtain⟨p,hp,e⟩:=List.mem_map.mp hm;exact(nk k x hx p hp).1.ne rO d6 kl hh e
 exact⟨by show 0<=4;decide,List.nodup_nil,λn hn=>absurd hn List.not_mem_nil⟩
def nq(K:PySem.W.Frag)(C:Addr):Sp:=λvs H Q _=>∃(nl hl:Addr)(os:List Int)(ds:List (Addr×Nd)),vs=[.ref hl,.int (ds.length:Nat),.ref nl]/\pV K H nl ds/\oC os ds.length ds/\H hl=some (.lst (os.map V.int))/\qZ os/\os.length=8/\1<=ds.length/\ds.length<=6/\∀(x d:Addr)(H':Hp)(ms:Ms),aI H H'->H x=none->H d=none->jR K C H' x d ms->MapOf os ds ms->Q (.ref x) H'
theorem fu:aV ["houses","many","near","known","k","told"] ["houses","many","near"] (aH fF):=⟨rfl,rfl,rfl,by decide +kernel,rfl,by decide +kernel,by decide +kernel⟩
set_option maxHeartbeats 2000000 in
theorem vA{fi fh:FuncData}(F:aM K mg "_law_map" fF)(T:Txt K mg t)(wz:cf P w K mg base (qI P w) 1 t.init fi ["self"] (yM K t.Map))(w8:Binds K fi ["self"] [])(xA:cf P w K mg base (qI P w) 1 t.pH fh ["self","news"] (yN K t.Map))(xB:Binds K fh ["self","news"] [])(ja:Def P w K mg base 5 "made_news" ["house","number","near","names"] (mM K t.BadNews)):Def P w K mg base 6 "_law_map" ["houses","many","near"] (nq K t.Map):=by
 refine F.def fu (λ_ _ _ _ _ _ us hl=>match us,hl with|[_,_,_],_=>rfl) (λvs H Q E h=>?_) (λf bf A outer s H vs Q E hr h=>?_)
 ·obtain⟨nl,hl,os,ds,rfl,_⟩:=h;rfl
 obtain⟨nl,hl,os,ds,rfl,nr,nk,hh,rO,ol,d1,d6,q⟩:=h;refine⟨_,aE (aY (i:=3) fu.nd rfl (Or.inl rfl) (Ae T.MC (wz.mono (by decide)) hr (by rfl) T.MB w8 .nil aq))
  (aE (PS.rj (bJ PassesOwn.never rfl (cC (by rfl) T.dP (aA (pv 1) aC)) (aK (i:=4) fu.nd rfl (Or.inr rfl))
   (aE (DK P w (lb (i:=5) fu.nd rfl (Or.inl rfl) rfl (Nc:=["other","near","k"]) (ix:=[none,some 2,some 4]) (cJ (aH fF) ["houses","many","near","known","k","told"] rfl rfl (by decide +kernel)) (uP P w (aO (aN K) (pv 2) (pv 4) (λ_ _=>rfl))) (λC fp s H=>⟨(aK (i:=0) (show(["other","near","k"]:List Str).Nodup by decide +kernel) rfl (Or.inl rfl)),cg,(ak (aA (pv 0) (aA (aO (aT K) (o9 P w (aO (aN K) (pv 1) (pv 2) (λ_ _=>rfl)) (pv 0) (λ_ _=>rfl)) aG (λ_ _=>rfl)) (aA (aO (aT K) (o9 P w (aO (aN K) (pv 1) (pv 2) (λ_ _=>rfl)) (pv 0) (λ_ _=>rfl)) aG (λ_ _=>rfl)) aC))))⟩)))
   (aF (bL (Cz (pv 3) T.pJ T.Dm (xA.mono (by decide)) hr xB .nil aq (aA (aa (ja.mono (by decide)) hr aq (aA (aO (aN K) (pv 0) (pv 4) (λ_ _=>rfl)) (aA aG (aA (pv 5) (aA (cB aC) aC))))) aC)))))))
  (aF (ab (pv 3)))),?_⟩
 have hsz:(2000:Nat)<=sizeLine:=by decide
 refine λtw tx Mb P5 Ig=>?_;have s1:aI H (upd (upd H tx (.own tw)) tw (.ins t.Map tx [])):=by
  have z:(upd H tx (.own tw)) tw=none:=by rw[aL (Ne.symm Ig)];exact Mb
  exact((aI.refl H).new P5).new z
 refine⟨tw,tx,rfl,aB,λtd H2 D0 m2 P6=>⟨rfl,?_⟩⟩;have Js:H td=none:=s1.free D0;have s2:aI H H2:=λb o e=>m2 b o (λz=>by rw[List.mem_singleton.mp z,Mb]at e;cases e) (s1 b o e)
 let I:Nat->_->_->Prop:=λi σ H'=>∃(v4 v5:Option V)(ms:Ms),σ=[some (.ref hl),some (.int (ds.length:Nat)),some (.ref nl),some (.ref tw),v4,v5]/\aI H H'/\jR K t.Map H' tw td ms/\ms.length=i/\∀(k:Nat)(m:V×Nw),ms[k]?=some m->FA os ds 1 k m.2
 refine⟨_,rfl,((ds.length:Nat):Int),rfl,by lia,by lia,?_⟩;refine dD (lo:=0) (n:=((ds.length:Nat):Int).toNat) I ⟨none,none,[],rfl,s2,P6,rfl,λk m hm=>by cases hm⟩ ?_ ?_
 ·rintro i σ H3 hi ⟨v4,v5,ms,rfl,s3,Mc,ml,tX⟩;have il:i<ds.length:=by lia
  obtain⟨x,ex⟩:∃x,ds[i]?=some x:=⟨ds[i],by simp[il]⟩;obtain⟨h,eh⟩:∃h,os[i]?=some h:=⟨os[i]'(by lia),by simp[show i<os.length by lia]⟩;have Kf:=nr.same s3;have FC:=Kf.d x (List.mem_of_getElem? ex);have yS:nQ (ds.map λx=>V.ref x.1) (0+(i:Nat):Int)=some (.ref x.1):=by rw[show(0+(i:Nat):Int)=(i:Nat) by lia];exact bM (by rw[List.getElem?_map,ex];rfl)
  have vM:nQ (os.map V.int) (0+(i:Nat):Int)=some (.int h):=by rw[show(0+(i:Nat):Int)=(i:Nat) by lia];exact bM (by rw[List.getElem?_map,eh];rfl)
  have xl:x.2.length<=5:=nk.Gu d6 il ex FC.nd;refine⟨_,rfl,_,rfl,nl,_,_,.ref x.1,rfl,rfl,af.of Kf.l,yS,x.1,_,rfl,FC.d,λu ok D hD=>?_⟩;have hu:(upd H3 x.1 u) x.1=some u:=aB;have P7:nl≠x.1:=kA Kf.l FC.d (by intro z;cases z);have Md:(upd H3 x.1 u) nl=some (.lst (ds.map λx=>V.ref x.1)):=by rw[aL P7];exact Kf.l
  have kz:=bI (o:=u) (mO.dk FC.d);have N3:∀p∈x.2,aQ K (upd H3 x.1 u) 3 p.2.1 (Cm p.2.2):=λp hp=>(FC.v p hp).kept kz (wq _);have th:∀{H5:Hp},aI (upd H3 x.1 u) H5->aI H3 (upd H5 x.1 (.dK (x.2.map kM))):=λs=>aI.A9 FC.d s;generalize upd H3 x.1 u=H4 at hu Md N3 th hD ⊢;refine xx (d:=x.1) (u:=u) (kvs:=x.2.map kM) (λj σ H'=>∃(v:Option V)(zs:List (V×Wr)),σ=[v,some (.ref nl),some (.int (0+(i:Nat)))]/\aI H4 H'/\H' D=some (.lst (zs.map (·.1)))/\jO K H' zs/\zs.map (·.2)=(x.2.take j).map zo) ⟨none,[],rfl,(aI.refl _).new hD,aB,λz hz=>absurd hz List.not_mem_nil,rfl⟩ (λj σ H' _ ⟨_,_,_,s,_⟩=>s _ _ hu) ?_ ?_
  ·rintro j k v σ H5 N hN hj ⟨v0,zs,rfl,s5,e5,w5,m5⟩;rw[List.getElem?_map]at hj;cases ep:x.2[j]? with
   |none=>rw[ep]at hj;cases hj
   |some p =>
    rw[ep]at hj;cases hj;have hp:=List.mem_of_getElem? ep;have jl:j<x.2.length:=(List.getElem?_eq_some_iff.mp ep).1;have vv:dg (x.2.map kM) (Sum.inl p.1)=some p.2.1:=(by rw[B0,B4 FC.nd hp];rfl);obtain⟨r,pp,ev,g1,g2⟩:=wx ((N3 p hp).same s5);refine ck ?_;refine⟨_,rfl,_,rfl,_,rfl,nl,_,_,.ref x.1,rfl,rfl,af.of (s5 _ _ Md),yS,_,rfl,x.1,_,u,Sum.inl p.1,p.2.1,rfl,s5 _ _ hu,ok,rfl,vv,r,_,_,.int p.2.2.q,ev,rfl,g1,rfl,?_⟩;refine⟨_,rfl,_,rfl,nl,_,_,.ref x.1,rfl,rfl,af.of (s5 _ _ Md),yS,_,rfl,x.1,_,u,Sum.inl p.1,p.2.1,rfl,s5 _ _ hu,ok,rfl,vv,r,_,_,.ref pp,ev,rfl,g1,rfl,zz3,λtp qK=>?_⟩;have s6:=(aI.refl H5).new (o:=.tup [kV (Sum.inl p.1),.int p.2.2.q,.ref pp]) qK;have dn:wZ K (upd H5 tp (.tup [kV (Sum.inl p.1),.int p.2.2.q,.ref pp])) (.ref tp) (zo p):=Gv (p:=pp) (ar.of aB) (s6.tup g2);generalize upd H5 tp (.tup [kV (Sum.inl p.1),.int p.2.2.q,.ref pp])=H6 at s6 dn;have e6:=s6 _ _ e5;have kp:=bI (o:=.lst (zs.map (·.1)++[V.ref tp])) (mO.lst e6);have zl:zs.length<=5:=by have:=congrArg List.length m5;rw[List.length_map,List.length_map,List.length_take]at this;lia
    refine⟨_,e6,by rw[List.length_map];lia,hN _ _ ⟨_,zs++[(.ref tp,zo p)],rfl,(s5.trans s6).put hD,by rw[aB,List.map_append];rfl,λz hz=>?_,by rw[List.map_append,m5,take_succ ep,List.map_append];rfl⟩⟩;rcases List.mem_append.mp hz with h|h
    ·exact((w5 z h).same s6).kept kp
    rw[List.mem_singleton.mp h];exact dn.kept kp
  rintro σ H5 ⟨v0,zs,rfl,s5,e5,w5,m5⟩;rw[List.length_map,List.take_length]at m5;have kp:=bI (o:=.dK (x.2.map kM)) (mO.dx ok (s5 _ _ hu));have P8:D≠x.1:=(ag hu hD).symm;have S5:=th s5;have FD:(upd H5 x.1 (.dK (x.2.map kM))) D=some (.lst (zs.map (·.1))):=by rw[aL P8];exact e5
  have N4:jO K (upd H5 x.1 (.dK (x.2.map kM))) zs:=w5.kept kp;refine⟨x.1,_,u,ok,s5 _ _ hu,?_⟩;generalize upd H5 x.1 (.dK (x.2.map kM))=H6 at S5 FD N4 ⊢;have zl:zs.length<=5:=by have:=congrArg List.length m5;rw[List.length_map,List.length_map]at this;lia
  have Jt:=Mc.same S5;obtain⟨dw,hw⟩:=Jt.o;have Kg:=D8 rO nk d6 ex FC.nd eh (n:=1) (by decide) (by decide);refine⟨_,rfl,tw,dw,_,rfl,hw,rfl,_,rfl,_,rfl,hl,_,_,.int h,rfl,rfl,af.of ((s3.trans S5) _ _ hh),vM,_,rfl,zz0,λel zW=>?_⟩;have s7:=(aI.refl H6).new (o:=.lst []) zW;refine⟨true,true,D,el,zs,⟨h,1,x.2.map zo,[]⟩,rfl,af.of (s7 _ _ FD),N4.same s7,m5,af.of aB,.of (by have:=Kg.1.1;have:0<=h:=this;lia) (by have:=Kg.1.2;have:h<32:=this;lia),.of (by show -(10 ^ 60)<=(1:Int);decide) (by show(1:Int)<=10 ^ 60;decide),by lia,λz hz=>?_,rfl,λ_ r H7 s8 hN=>?_,λz=>absurd Kg z⟩
  ·have:z.2∈x.2.map zo:=(by rw[<-m5];exact List.mem_map.mpr ⟨z,hz,rfl⟩);exact(Kg.2.2.1.1 _ this).PY
  obtain⟨ws,ns,pw,pn,en⟩:=Dr ⟨h,1,x.2.map zo,[]⟩;obtain rfl:=pn.eq_nil;rw[en]at hN;have S7:=s7.trans s8;have Kh:=Jt.same S7;have Ka:h∉hs ms:=λhm=>by obtain⟨m,hm,e⟩:=List.mem_map.mp hm;obtain⟨k,kl,rfl⟩:=List.getElem_of_mem hm;have e2:=(tX k ms[k] (by simp)).h;rw[e]at e2;obtain⟨a1,a2⟩:=List.getElem?_eq_some_iff.mp e2;obtain⟨b1,b2⟩:=List.getElem?_eq_some_iff.mp eh;have:=List.pairwise_iff_getElem.mp rO.nd k i a1 b1 (by lia);exact this (by rw[a2,b2])
  refine⟨tw,td,ms,.ref r,⟨h,1,ws,[]⟩,rfl,Kh,hN,by lia,λ_ H8 m8 N5=>?_,λz=>absurd (λn hn e=>absurd (List.mem_map.mpr ⟨n,hn,e⟩) Ka) z⟩;have ep:pO ms (.ref r) ⟨h,1,ws,[]⟩=ms++[(.ref r,⟨h,1,ws,[]⟩)]:=by unfold pO;rw[if_neg Ka]
  rw[ep]at N5;have S:=(s3.trans S5).trans S7;refine⟨_,_,_,rfl,λb o e=>m8 b o (λz=>by rw[List.mem_singleton.mp z,Js]at e;cases e) (S b o e),N5,by rw[List.length_append,ml];rfl,λk m hm=>?_⟩;by_cases c:k<ms.length
  ·rw[List.getElem?_append_left c]at hm;exact tX k m hm
  have bq:=(List.getElem?_eq_some_iff.mp hm).1;rw[List.length_append]at bq;have e:k=ms.length:=by simp at bq;lia
  rw[e,List.getElem?_append_right (Nat.le_refl _),Nat.sub_self]at hm;cases hm;rw[e,ml];exact⟨eh,rfl,x,ex,pw⟩
 rintro σ H3 ⟨v4,v5,ms,rfl,s3,Mc,ml,tX⟩;exact⟨_,rfl,q tw td H3 ms s3 Mb Js Mc ⟨by lia,tX⟩⟩
def Ent(D:Nat->Option (Addr×Nd))(k:Nat)(h:Int)(e:Ne):Prop:=∃x,D k=some x/\∃v,(h,v,e)∈x.2
structure B5(os:List Int)(D:Nat->Option (Addr×Nd))(ms:Ms):Prop where
 n:(hs ms).Nodup
 t:∀(k:Nat)(m:V×Nw),ms[k]?=some m->os[k]?=some m.2.h/\∃x,D k=some x/\m.2.near.Perm (x.2.map zo)
 b:∀(k:Nat),k<ms.length↔(D k).isSome=true
def Ki(os:List Int)(D:Nat->Option (Addr×Nd))(t:T3):Prop:=t.1<t.2.1/\∃(i j:Nat)(e1 e2:Ne),os[i]?=some t.1/\os[j]?=some t.2.1/\Ent D i t.2.1 e1/\Ent D j t.1 e2/\e1.a=e2.a/\e1.b=e2.b/\t.2.2=max e1.q e2.q
theorem B5.Gw{os:List Int}{D:Nat->Option (Addr×Nd)}{ms:Ms}(h:B5 os D ms)(t:T3):cL ms t↔Ki os D t:=by
 have fwd:∀{m:V×Nw}{w:Wr},m∈ms->w∈m.2.near->∃(i:Nat)(e:Ne),os[i]?=some m.2.h/\Ent D i w.o e/\e.a=w.a/\e.b=w.b/\e.q=w.q:=λ{m w} hm hw=>by obtain⟨i,il,rfl⟩:=List.getElem_of_mem hm;obtain⟨h1,x,h2,h3⟩:=h.t i ms[i] (by simp);obtain⟨p,hp,rfl⟩:=List.mem_map.mp (h3.mem_iff.mp hw);exact⟨i,p.2.2,h1,⟨x,h2,p.2.1,hp⟩,rfl,rfl,rfl⟩
 have bwd:∀{i:Nat}{g o:Int}{e:Ne},os[i]?=some g->Ent D i o e->∃m∈ms,∃w∈m.2.near,m.2.h=g/\w.o=o/\w.a=e.a/\w.b=e.b/\w.q=e.q:=λ{i g o e} hg he=>by obtain⟨x,h1,v,h2⟩:=he;have il:=(h.b i).mpr (by rw[h1];rfl);obtain⟨g1,y,g2,g3⟩:=h.t i ms[i] (by simp);rw[h1]at g2;cases g2;rw[hg]at g1;cases g1;exact⟨ms[i],List.getElem_mem il,zo (o,v,e),g3.mem_iff.mpr (List.mem_map.mpr ⟨_,h2,rfl⟩),rfl,rfl,rfl,rfl,rfl⟩
 unfold cL Ki;refine and_congr_right λ_=>?_;constructor
 ·rintro⟨m1,h1,m2,h2,w1,g1,w2,g2,a1,a2,a3,a4,a5,a6,a7⟩;obtain⟨i,e1,b1,b2,b3,b4,b5⟩:=fwd h1 g1;obtain⟨j,e2,c1,c2,c3,c4,c5⟩:=fwd h2 g2;exact⟨i,j,e1,e2,by rw[b1,a1],by rw[c1,a2],a3▸b2,a4▸c2,by lia,by lia,by rw[a7,b5,c5]⟩
 rintro⟨i,j,e1,e2,a1,a2,a3,a4,a5,a6,a7⟩;obtain⟨m1,h1,w1,g1,b1,b2,b3,b4,b5⟩:=bwd a1 a3;obtain⟨m2,h2,w2,g2,c1,c2,c3,c4,c5⟩:=bwd a2 a4;exact⟨m1,h1,m2,h2,w1,g1,w2,g2,b1,c1,b2,c2,by lia,by lia,by rw[a7,b5,c5]⟩
theorem MapOf.f{os:List Int}{ds:List (Addr×Nd)}{ms:Ms}(h:MapOf os ds ms)(nd:(hs ms).Nodup):B5 os (λk=>ds[k]?) ms:=by refine⟨nd,λk m hm=>⟨(h.t k m hm).h,(h.t k m hm).w⟩,λk=>?_⟩;rw[h.l];simp
theorem B5.ok{os:List Int}{D:Nat->Option (Addr×Nd)}{ms:Ms}(h:B5 os D ms)(hd:∀k x,D k=some x->(x.2.map (·.1)).Nodup/\x.2.length<=5/\∀p∈x.2,B1 p.2.2):nB ms/\zj ms:=by
 constructor
 ·intro m hm;obtain⟨i,il,rfl⟩:=List.getElem_of_mem hm;obtain⟨h1,x,h2,h3⟩:=h.t i ms[i] (by simp);obtain⟨d1,d2,_⟩:=hd i x h2;refine⟨?_,by rw[h3.length_eq,List.length_map];exact d2⟩;refine(h3.map (·.o)).nodup_iff.mpr ?_;rw[List.map_map];exact d1
 intro m hm w hw;obtain⟨i,il,rfl⟩:=List.getElem_of_mem hm;obtain⟨h1,x,h2,h3⟩:=h.t i ms[i] (by simp);obtain⟨p,hp,rfl⟩:=List.mem_map.mp (h3.mem_iff.mp hw);exact((hd i x h2).2.2 p hp).1
theorem yT{os:List Int}(ok:qZ os){i j:Nat}{h:Int}(e1:os[i]?=some h)(e2:os[j]?=some h):i=j:=by obtain⟨i1,i2⟩:=List.getElem?_eq_some_iff.mp e1;obtain⟨j1,j2⟩:=List.getElem?_eq_some_iff.mp e2;exact(List.getElem_inj (h₀:=i1) (h₁:=j1) ok.nd).mp (by rw[i2,j2])
theorem get_mem{d:Nd}{h:Int}{q:Int×V×Ne}(e:kx d h=some q):q∈d/\q.1=h:=⟨List.mem_of_find?_eq_some e,by simpa using List.find?_some e⟩
theorem tE{K:PySem.W.Frag}{H:Hp}{n:Nat}{p:Addr}{a b:Int}(h:ar K H p [.int a,.int b]):aQ K H (n+1) (.ref p) (.tuple [.int a,.int b]):=by
 refine .tup h rfl λi v d e1 e2=>?_
 match i with
 |0=>cases e1;cases e2;exact .int _
 |1=>cases e1;cases e2;exact .int _
 |i+2=>simp at e1
theorem B6(a b c d:Int):PyData.eqv (.tuple [.int a,.int b]) (.tuple [.int c,.int d])=decide (a=c/\b=d):=by simp[PyData.eqv,PyData.eqvAll];rfl
def iN(os:List Int)(ds:List (Addr×Nd))(a b:Nat):Option T3 :=
 (os[a]?).bind λha=>(os[b]?).bind λhb=>(ds[a]?).bind λxa=>(ds[b]?).bind λxb =>
  if ha<hb then(kx xa.2 hb).bind λp=>(kx xb.2 ha).bind λq=>if p.2.2.a=q.2.2.a/\p.2.2.b=q.2.2.b then some (ha,hb,if q.2.2.q>p.2.2.q then q.2.2.q else p.2.2.q)else none else none
theorem rP{os:List Int}{ds:List (Addr×Nd)}{a b:Nat}{ha hb:Int}{xa xb:Addr×Nd}(e1:os[a]?=some ha)(e2:os[b]?=some hb)(e3:ds[a]?=some xa)(e4:ds[b]?=some xb):iN os ds a b=if ha<hb then(kx xa.2 hb).bind λp=>(kx xb.2 ha).bind λq=>if p.2.2.a=q.2.2.a/\p.2.2.b=q.2.2.b then some (ha,hb,if q.2.2.q>p.2.2.q then q.2.2.q else p.2.2.q)else none else none:=by unfold iN;rw[e1,e2,e3,e4];rfl
theorem dZ{os:List Int}{ds:List (Addr×Nd)}{a b:Nat}{t:T3}(h:iN os ds a b=some t):os[a]?=some t.1/\os[b]?=some t.2.1/\t.1<t.2.1/\∃e1 e2,Ent (λk=>ds[k]?) a t.2.1 e1/\Ent (λk=>ds[k]?) b t.1 e2/\e1.a=e2.a/\e1.b=e2.b/\t.2.2=max e1.q e2.q:=by
 unfold iN at h;obtain⟨ha,e1,h⟩:=Option.bind_eq_some_iff.mp h;obtain⟨hb,e2,h⟩:=Option.bind_eq_some_iff.mp h;obtain⟨xa,e3,h⟩:=Option.bind_eq_some_iff.mp h;obtain⟨xb,e4,h⟩:=Option.bind_eq_some_iff.mp h;by_cases c:ha<hb
 ·rw[if_pos c]at h;obtain⟨p,g1,h⟩:=Option.bind_eq_some_iff.mp h;obtain⟨q,g2,h⟩:=Option.bind_eq_some_iff.mp h;by_cases c2:p.2.2.a=q.2.2.a/\p.2.2.b=q.2.2.b
  ·rw[if_pos c2]at h;cases h;obtain⟨m1,n1⟩:=get_mem g1;obtain⟨m2,n2⟩:=get_mem g2;refine⟨e1,e2,c,p.2.2,q.2.2,⟨xa,e3,p.2.1,?_⟩,⟨xb,e4,q.2.1,?_⟩,c2.1,c2.2,?_⟩
   ·rw[<-n1];exact m1
   ·rw[<-n2];exact m2
   show(if q.2.2.q>p.2.2.q then q.2.2.q else p.2.2.q)=max p.2.2.q q.2.2.q;split<;>lia
  rw[if_neg c2]at h;cases h
 rw[if_neg c]at h;cases h
theorem zp{os:List Int}{ds:List (Addr×Nd)}(nd:∀(k:Nat) x,ds[k]?=some x->(x.2.map (·.1)).Nodup){a b:Nat}{t:T3}(e1:os[a]?=some t.1)(e2:os[b]?=some t.2.1)(lt:t.1<t.2.1){n1 n2:Ne}(h1:Ent (λk=>ds[k]?) a t.2.1 n1)(h2:Ent (λk=>ds[k]?) b t.1 n2)(ea:n1.a=n2.a)(eb:n1.b=n2.b)(el:t.2.2=max n1.q n2.q):iN os ds a b=some t:=by
 obtain⟨xa,e3,v1,m1⟩:=h1;obtain⟨xb,e4,v2,m2⟩:=h2;rw[rP e1 e2 e3 e4,if_pos lt];have g1:=B4 (nd a xa e3) m1;have g2:=B4 (nd b xb e4) m2;rw[show kx xa.2 t.2.1=some (t.2.1,v1,n1)from g1,show kx xb.2 t.1=some (t.1,v2,n2)from g2];show(if n1.a=n2.a/\n1.b=n2.b then some (t.1,t.2.1,if n2.q>n1.q then n2.q else n1.q)else none)=some t;rw[if_pos ⟨ea,eb⟩]
 congr 1
 refine Prod.ext rfl (Prod.ext rfl ?_);show(if n2.q>n1.q then n2.q else n1.q)=t.2.2;rw[el];split<;>lia
def fJ(os:List Int)(ds:List (Addr×Nd))(a j:Nat):List T3:=(List.range j).filterMap (iN os ds a)
def dt(os:List Int)(ds:List (Addr×Nd))(i m:Nat):List T3:=(List.range i).flatMap λa=>fJ os ds a m
theorem pW(os:List Int)(ds:List (Addr×Nd))(a j:Nat):(fJ os ds a j).length<=j:=by unfold fJ;exact Nat.le_trans (List.length_filterMap_le ..) (by rw[List.length_range];exact Nat.le_refl _)
theorem nt(os:List Int)(ds:List (Addr×Nd))(i m:Nat):dt os ds (i+1) m=dt os ds i m++fJ os ds i m:=by unfold dt;rw[List.range_succ,List.flatMap_append];simp
theorem ky(os:List Int)(ds:List (Addr×Nd))(m:Nat):∀i,(dt os ds i m).length<=i*m
 |0=>by simp[dt]
 |i+1=>by rw[nt,List.length_append,Nat.succ_mul];have:=ky os ds m i;have:=pW os ds i m;lia
theorem nu(os:List Int)(ds:List (Addr×Nd))(a j:Nat):fJ os ds a (j+1)=fJ os ds a j++(iN os ds a j).toList:=by
 unfold fJ;rw[List.range_succ,List.filterMap_append]
 congr 1
theorem xC{os:List Int}{ds:List (Addr×Nd)}(nd:∀(k:Nat) x,ds[k]?=some x->(x.2.map (·.1)).Nodup)(t:T3):t∈dt os ds ds.length ds.length↔Ki os (λk=>ds[k]?) t:=by
 unfold dt fJ;rw[List.mem_flatMap];constructor
 ·rintro⟨a,ha,h⟩;obtain⟨b,hb,h⟩:=List.mem_filterMap.mp h;obtain⟨h1,h2,h3,e1,e2,h4,h5,h6,h7,h8⟩:=dZ h;exact⟨h3,a,b,e1,e2,h1,h2,h4,h5,h6,h7,h8⟩
 rintro⟨lt,a,b,e1,e2,h1,h2,h3,h4,h5,h6,h7⟩;have al:∀{k:Nat}{h:Int}{e:Ne},Ent (λk=>ds[k]?) k h e->k<ds.length:=λ⟨x,z,_⟩=>(List.getElem?_eq_some_iff.mp z).1;exact⟨a,List.mem_range.mpr (al h3),List.mem_filterMap.mpr ⟨b,List.mem_range.mpr (al h4),zp nd h1 h2 lt h3 h4 h5 h6 h7⟩⟩
theorem zq{os:List Int}(rO:qZ os)(ds:List (Addr×Nd))(m:Nat)(i:Nat):(dt os ds i m).Pairwise λs t=>(s.1,s.2.1)≠(t.1,t.2.1):=by
 unfold dt fJ;rw[List.pairwise_flatMap];constructor
 ·intro a _;rw[List.pairwise_filterMap];refine List.nodup_range.imp λ{b c} P9 s hs t ht e=>P9 ?_;have h1:=(dZ hs).2.1;have h2:=(dZ ht).2.1;rw[(Prod.mk.inj e).2]at h1;exact yT rO h1 h2
 refine List.nodup_range.imp λ{a c} L3 s hs t ht e=>L3 ?_;obtain⟨b,_,hs⟩:=List.mem_filterMap.mp hs;obtain⟨b',_,ht⟩:=List.mem_filterMap.mp ht;have h1:=(dZ hs).1;have h2:=(dZ ht).1;rw[(Prod.mk.inj e).1]at h1;exact yT rO h1 h2
def kO(K:PySem.W.Frag):Sp:=λvs H Q _=>∃(nl hl:Addr)(os:List Int)(ds:List (Addr×Nd)),vs=[.ref hl,.int (ds.length:Nat),.ref nl]/\pV K H nl ds/\H hl=some (.lst (os.map V.int))/\qZ os/\os.length=8/\ds.length<=6/\∀(r:Addr)(H':Hp)(ts:List T3),aI H H'->n9 K H' r ts->(∀t,t∈ts↔Ki os (λk=>ds[k]?) t)->(ts.Pairwise λs t=>eR s<eR t)->ts.length<=36->Q (.ref r) H'
theorem bw:aV ["houses","many","near","found","a","b","one","other"] ["houses","many","near"] (aH eN):=⟨rfl,rfl,rfl,by decide +kernel,rfl,by decide +kernel,by decide +kernel⟩
set_option maxHeartbeats 2000000 in
theorem qc(F:aM K mg "_law_wires" eN)(T:Txt K mg t):Def P w K mg base 1 "_law_wires" ["houses","many","near"] (kO K):=by
 refine F.def bw (λ_ _ _ _ _ _ us hl=>match us,hl with|[_,_,_],_=>rfl) (λvs H Q E h=>?_) (λf bf A outer s H vs Q E hr h=>?_)
 ·obtain⟨nl,hl,os,ds,rfl,_⟩:=h;rfl
 obtain⟨nl,hl,os,ds,rfl,nr,hh,rO,ol,d6,q⟩:=h;refine⟨_,aE (aY (i:=3) bw.nd rfl (Or.inl rfl) (cB aC))
  (aE (PS.rj (bJ PassesOwn.never rfl (cC (by rfl) T.dP (aA (pv 1) aC)) (aK (i:=4) bw.nd rfl (Or.inl rfl))
   (aF (bJ PassesOwn.never rfl (cC (by rfl) T.dP (aA (pv 1) aC)) (aK (i:=5) bw.nd rfl (Or.inl rfl))
    (aF (a9 (PW.pt (kS (aW lT (aO (aN K) (pv 0) (pv 4) (λ_ _=>rfl)) (aO (aN K) (pv 0) (pv 5) (λ_ _=>rfl)) (ah _)) (kS (oQ (vx (b9 hr) (aO (aN K) (pv 0) (pv 5) (λ_ _=>rfl)) (aO (aN K) (pv 2) (pv 4) (λ_ _=>rfl))) (by rfl)) (jv (oQ (vx (b9 hr) (aO (aN K) (pv 0) (pv 4) (λ_ _=>rfl)) (aO (aN K) (pv 2) (pv 5) (λ_ _=>rfl))) (by rfl))))))
     (aE (aY (i:=6) bw.nd rfl (Or.inl rfl) (eE (b9 hr) (aO (aN K) (pv 2) (pv 4) (λ_ _=>rfl)) (aO (aN K) (pv 0) (pv 5) (λ_ _=>rfl)) (λ_ _=>rfl)))
     (aE (aY (i:=7) bw.nd rfl (Or.inl rfl) (eE (b9 hr) (aO (aN K) (pv 2) (pv 5) (λ_ _=>rfl)) (aO (aN K) (pv 0) (pv 4) (λ_ _=>rfl)) (λ_ _=>rfl)))
     (aF (a9 (aW (oz K (df hr)) (aO (aT K) (pv 6) aG (λ_ _=>rfl)) (aO (aT K) (pv 7) aG (λ_ _=>rfl)) (ah _))
      (aF (bL (kZ K PySem.F.plainAttrs_list PySem.F.slot_list_append PySem.F.type_list_append dE (pv 3) (aA (ak (aA (aO (aN K) (pv 0) (pv 4) (λ_ _=>rfl)) (aA (aO (aN K) (pv 0) (pv 5) (λ_ _=>rfl)) (aA (aZ (mW rfl) (by rfl) T.Bc boot_max (aA (aO (aT K) (pv 6) aG (λ_ _=>rfl)) (aA (aO (aT K) (pv 7) aG (λ_ _=>rfl)) aC))) aC)))) aC))))
      (ae)))))
     (ae)))))))
  (aF (ab (aZ (cT K (df hr)) (by rfl) T.cv boot_sorted (aA (pv 3) aC))))),?_⟩
 have hsz:(2000:Nat)<=sizeLine:=by decide
 refine⟨zz0,λfo Kj=>?_⟩;have s0:=(aI.refl H).new (o:=.lst []) Kj;have e0:(upd H fo (.lst [])) fo=some (.lst []):=aB;generalize upd H fo (.lst [])=H0 at s0 e0 ⊢;have QA:∀(k:Nat) x,ds[k]?=some x->(x.2.map (·.1)).Nodup:=λk x h=>(nr.d x (List.mem_of_getElem? h)).nd;have yS:∀{k:Nat}{x:Addr×Nd},ds[k]?=some x->nQ (ds.map λx=>V.ref x.1) (0+(k:Nat):Int)=some (V.ref x.1):=λ{k x} h=>by rw[show(0+(k:Nat):Int)=(k:Nat) by lia];exact bM (by rw[List.getElem?_map,h];rfl)
 have vM:∀{k:Nat}{h:Int},os[k]?=some h->nQ (os.map V.int) (0+(k:Nat):Int)=some (V.int h):=λ{k h'} h=>by rw[show(0+(k:Nat):Int)=(k:Nat) by lia];exact bM (by rw[List.getElem?_map,h];rfl)
 let I:Nat->_->_->Prop:=λi σ H'=>∃(zs:List (V×T3))(v4 v5 v6 v7:Option V),σ=[some (.ref hl),some (.int (ds.length:Nat)),some (.ref nl),some (.ref fo),v4,v5,v6,v7]/\aI H H'/\H' fo=some (.lst (zs.map (·.1)))/\qR K H' zs/\zs.map (·.2)=dt os ds i ds.length
 refine⟨_,rfl,((ds.length:Nat):Int),rfl,by lia,by lia,?_⟩;refine dD (lo:=0) (n:=((ds.length:Nat):Int).toNat) I ⟨[],none,none,none,none,rfl,s0,e0,λz hz=>absurd hz List.not_mem_nil,rfl⟩ ?_ ?_
 ·rintro i σ H1 hi ⟨zs,v4,v5,v6,v7,rfl,s1,e1,t1,m1⟩;have il:i<ds.length:=by lia
  let J:Nat->_->_->Prop:=λj σ H'=>∃(zs:List (V×T3))(v5 v6 v7:Option V),σ=[some (.ref hl),some (.int (ds.length:Nat)),some (.ref nl),some (.ref fo),some (.int (0+(i:Nat))),v5,v6,v7]/\aI H H'/\H' fo=some (.lst (zs.map (·.1)))/\qR K H' zs/\zs.map (·.2)=dt os ds i ds.length++fJ os ds i j
  refine⟨_,rfl,((ds.length:Nat):Int),rfl,by lia,by lia,?_⟩;refine dD (lo:=0) (n:=((ds.length:Nat):Int).toNat) J ⟨zs,_,_,_,rfl,s1,e1,t1,by rw[m1];simp[fJ]⟩ ?_ ?_
  ·rintro j σ H2 hj ⟨zs,v5,v6,v7,rfl,s2,e2,t2,m2⟩;have jl:j<ds.length:=(by lia);obtain⟨xa,D5⟩:∃x,ds[i]?=some x:=⟨ds[i],by simp[il]⟩;obtain⟨xb,vN⟩:∃x,ds[j]?=some x:=⟨ds[j],by simp[jl]⟩;obtain⟨ha,B2⟩:∃h,os[i]?=some h:=⟨os[i],by simp[show i<os.length by lia]⟩;obtain⟨hb,E9⟩:∃h,os[j]?=some h:=⟨os[j],by simp[show j<os.length by lia]⟩;have HQ:=nr.same s2;have B7:=s2 _ _ hh;have dA:=HQ.d xa (List.mem_of_getElem? D5);have dB:=HQ.d xb (List.mem_of_getElem? vN);have gA:bx H2 xa.1 (.int hb) ((kx xa.2 hb).map (·.2.1)):=by have:=bx.k (k:=Sum.inl hb) dA.d;rw[B0]at this;exact this
   have gB:bx H2 xb.1 (.int ha) ((kx xb.2 ha).map (·.2.1)):=by have:=bx.k (k:=Sum.inl ha) dB.d;rw[B0]at this;exact this
   have wa:=rP (os:=os) B2 E9 D5 vN;have j8:∀{v6 v7:Option V},iN os ds i j=none->J (j+1) [some (.ref hl),some (.int (ds.length:Nat)),some (.ref nl),some (.ref fo),some (.int (0+(i:Nat))),some (.int (0+(j:Nat))),v6,v7] H2:=λh=>⟨zs,_,_,_,rfl,s2,e2,t2,by rw[m2,nu,h];simp⟩;refine⟨_,rfl,_,rfl,hl,_,_,.int ha,rfl,rfl,af.of B7,vM B2,_,rfl,_,rfl,hl,_,_,.int hb,rfl,rfl,af.of B7,vM E9,_,_,rfl,rfl,_,rfl,?_⟩;by_cases c:ha<hb
   ·refine dS c ?_;rw[if_pos c]at wa;refine⟨_,rfl,_,rfl,hl,_,_,.int hb,rfl,rfl,af.of B7,vM E9,_,rfl,_,rfl,nl,_,_,.ref xa.1,rfl,rfl,af.of HQ.l,yS D5,xa.1,_,rfl,gA,?_⟩;cases eA:kx xa.2 hb with
    |none =>
     rw[eA]at wa;exact⟨false,rfl,c8 (j8 wa)⟩
    |some p =>
     rw[eA]at wa gA;refine⟨true,rfl,gh ?_⟩;refine⟨_,rfl,_,rfl,hl,_,_,.int ha,rfl,rfl,af.of B7,vM B2,_,rfl,_,rfl,nl,_,_,.ref xb.1,rfl,rfl,af.of HQ.l,yS vN,xb.1,_,rfl,gB,?_⟩;cases eB:kx xb.2 ha with
     |none =>
      rw[eB]at wa;exact⟨false,rfl,c8 (j8 wa)⟩
     |some p2 =>
      rw[eB]at wa gB;obtain⟨ma,na⟩:=get_mem eA;obtain⟨mb,nb⟩:=get_mem eB;obtain⟨ra,qa,va,N6,QB⟩:=wx (dA.v p ma);obtain⟨rb,qb,vb,N7,QC⟩:=wx (dB.v p2 mb);refine⟨true,rfl,gh ?_⟩;refine⟨_,rfl,_,rfl,nl,_,_,.ref xa.1,rfl,rfl,af.of HQ.l,yS D5,_,rfl,_,rfl,hl,_,_,.int hb,rfl,rfl,af.of B7,vM E9,xa.1,p.2.1,rfl,gA,?_⟩;refine⟨_,rfl,_,rfl,nl,_,_,.ref xb.1,rfl,rfl,af.of HQ.l,yS vN,_,rfl,_,rfl,hl,_,_,.int ha,rfl,rfl,af.of B7,vM B2,xb.1,p2.2.1,rfl,gB,?_⟩;refine⟨_,rfl,ra,_,_,.ref qa,va,rfl,N6,rfl,_,rfl,rb,_,_,.ref qb,vb,rfl,N7,rfl,?_⟩;refine⟨.tuple [.int p.2.2.a,.int p.2.2.b],.tuple [.int p2.2.2.a,.int p2.2.2.b],tE QB,tE QC,_,rfl,?_⟩;have ee:PyData.eqv (.tuple [.int p.2.2.a,.int p.2.2.b]) (.tuple [.int p2.2.2.a,.int p2.2.2.b])=decide (p.2.2.a=p2.2.2.a/\p.2.2.b=p2.2.2.b):=B6 _ _ _ _;rw[if_neg (by decide),ee];have wa:iN os ds i j=if p.2.2.a=p2.2.2.a/\p.2.2.b=p2.2.2.b then some (ha,hb,if p2.2.2.q>p.2.2.q then p2.2.2.q else p.2.2.q)else none:=wa;by_cases c2:p.2.2.a=p2.2.2.a/\p.2.2.b=p2.2.2.b
      ·refine dS c2 ?_;rw[if_pos c2]at wa;refine⟨_,rfl,.inl ⟨rfl,_,af.of e2⟩,_,rfl,_,rfl,hl,_,_,.int ha,rfl,rfl,af.of B7,vM B2,_,rfl,_,rfl,hl,_,_,.int hb,rfl,rfl,af.of B7,vM E9,?_⟩;refine⟨_,rfl,ra,_,_,.int p.2.2.q,va,rfl,N6,rfl,_,rfl,rb,_,_,.int p2.2.2.q,vb,rfl,N7,rfl,_,_,rfl,zz3,λtp qK=>?_⟩;have s3:=(aI.refl H2).new (o:=.tup [.int ha,.int hb,.int (if p2.2.2.q>p.2.2.q then p2.2.2.q else p.2.2.q)]) qK;have dn:aQ K (upd H2 tp (.tup [.int ha,.int hb,.int (if p2.2.2.q>p.2.2.q then p2.2.2.q else p.2.2.q)])) 2 (.ref tp) (qC (ha,hb,if p2.2.2.q>p.2.2.q then p2.2.2.q else p.2.2.q)):=by
        refine .tup (ar.of aB) rfl λi v d e1 e2=>?_
        match i with
        |0=>cases e1;cases e2;exact .int _
        |1=>cases e1;cases e2;exact .int _
        |2=>cases e1;cases e2;exact .int _
        |i+3=>simp at e1
       generalize upd H2 tp (.tup [.int ha,.int hb,.int (if p2.2.2.q>p.2.2.q then p2.2.2.q else p.2.2.q)])=H3 at s3 dn;have e3:=s3 _ _ e2;have zl:zs.length<=100:=by have h1:=congrArg List.length m2;rw[List.length_map,List.length_append]at h1;have h2:=ky os ds ds.length i;have h3:=pW os ds i j;have h4:i*ds.length<=6*6:=Nat.mul_le_mul (by lia) d6;lia
       refine⟨fo,_,_,rfl,rfl,e3,by rw[List.length_map];lia,?_⟩;have kp:=bI (o:=.lst (zs.map (·.1)++[V.ref tp])) (mO.lst e3);refine⟨zs++[(.ref tp,(ha,hb,if p2.2.2.q>p.2.2.q then p2.2.2.q else p.2.2.q))],_,_,_,rfl,(s2.trans s3).put Kj,by rw[aB,List.map_append];rfl,λz hz=>?_,by rw[List.map_append,m2,nu,wa,List.append_assoc];rfl⟩;rcases List.mem_append.mp hz with h|h
       ·exact((t2 z h).same s3).kept kp (uw _)
       rw[List.mem_singleton.mp h];exact dn.kept kp (uw _)
      rw[if_neg c2]at wa;exact dR c2 (j8 wa)
   rw[if_neg c]at wa;exact dR c (j8 wa)
  rintro σ H2 ⟨zs,v5,v6,v7,rfl,s2,e2,t2,m2⟩;have:((ds.length:Nat):Int).toNat=ds.length:=by lia
  rw[this]at m2;exact⟨zs,_,_,_,_,rfl,s2,e2,t2,by rw[m2,nt]⟩
 rintro σ H1 ⟨zs,v4,v5,v6,v7,rfl,s1,e1,t1,m1⟩;have:((ds.length:Nat):Int).toNat=ds.length:=by lia
 rw[this]at m1;have zl:zs.length<=36:=by have h1:=congrArg List.length m1;rw[List.length_map]at h1;have h2:=ky os ds ds.length ds.length;have h4:ds.length*ds.length<=6*6:=Nat.mul_le_mul d6 d6;lia
 refine⟨_,rfl,true,fo,zs.map λz=>(z.1,qC z.2),rfl,by rw[List.map_map];exact af.of e1,by rw[List.length_map];lia,λy hy=>?_,by have:=Jc (zs.map (·.2));rw[List.map_map]at this ⊢;exact this,λys r2 hp yK wQ=>?_⟩
 ·obtain⟨z,hz,rfl⟩:=List.mem_map.mp hy;exact aQ.up (t1 z hz) (by decide)
 obtain⟨vs,Bi,rfl⟩:=perm_back (λz:V×T3=>(z.1,qC z.2)) hp zs rfl;have s7:=(aI.refl H1).new (o:=.lst ((vs.map λz=>(z.1,qC z.2)).map (·.1))) wQ;have Jh:(vs.map (·.2)).Perm (dt os ds ds.length ds.length):=by have:=Bi.map (·.2);rw[m1]at this;exact this
 refine q r2 _ (vs.map (·.2)) (s1.trans s7) ⟨vs,by rw[aB,List.map_map];rfl,λz hz=>(t1 z (Bi.mem_iff.mp hz)).same s7,rfl⟩ (λtt=>?_) ?_ (by rw[List.length_map,Bi.length_eq];exact zl)
 ·rw[Jh.mem_iff,xC QA]
 have pw:(vs.map (·.2)).Pairwise λs t=>(s.1,s.2.1)≠(t.1,t.2.1):=(Jh.pairwise_iff λ{a b} h=>h.symm).mpr (zq rO ds _ _);have so:(vs.map (·.2)).Pairwise λs t=>bD (qC t) (qC s)=false:=by rw[List.pairwise_map]at yK ⊢;exact yK
 refine(so.and pw).imp λ{s t} ⟨h1,h2⟩=>?_;rw[Bp,decide_eq_false_iff_not]at h1;by_cases h:eR s<eR t
 ·exact h
 exact absurd (by rw[uu (List.le_antisymm (List.not_lt.mp h1) (List.not_lt.mp h))]) h2
def vO(t:T3):List (Int×Int):=[(t.1,t.2.1),(t.2.1,t.1)]
def ba(ts:List T3):List (Int×Int):=ts.flatMap vO
def eC(ts:List T3)(goal:Int):Nat->List Int->List (List Int)
 |0,_=>[]
 |n+1,way=>if way.getLast?=some goal then[way]else(ba ts).flatMap λp=>if way.getLast?=some p.1/\p.2∉way then eC ts goal n (way++[p.2])else[]
def bA(ts:List T3)(goal:Int)(n:Nat)(way:List Int)(p:Int×Int):List (List Int):=if way.getLast?=some p.1/\p.2∉way then eC ts goal n (way++[p.2])else[]
theorem cR(ts:List T3)(goal:Int)(n:Nat)(way:List Int):eC ts goal (n+1) way=if way.getLast?=some goal then[way]else(ba ts).flatMap (bA ts goal n way):=by rw[eC];rfl
structure Wy(ts:List T3)(hs':List Int)(n:Nat)(ws:List Int):Prop where
 ne:ws≠[]
 nd:ws.Nodup
 mem:∀x∈ws,x∈hs'
 en:∀t∈ts,t.1∈hs'/\t.2.1∈hs'
 l:ws.length+n=hs'.length
theorem Wy.pos{ts:List T3}{hs':List Int}{n:Nat}{ws:List Int}(h:Wy ts hs' n ws){y:Int}(hy:y∈hs')(ny:y∉ws):1<=n:=by
 have:=cQ hs' (ws++[y]) (List.nodup_append.mpr ⟨h.nd,by simp,λa ha b hb=>by rw[List.mem_singleton.mp hb];rintro rfl;exact ny ha⟩) λx hx=>by
  rcases List.mem_append.mp hx with z|z
  ·exact h.mem x z
  rw[List.mem_singleton.mp z];exact hy
 rw[List.length_append]at this;have e:[y].length=1:=rfl;have:=h.l;lia
theorem dc{ts:List T3}{p:Int×Int}:p∈ba ts↔∃t∈ts,p=(t.1,t.2.1)\/p=(t.2.1,t.1):=by unfold ba vO;rw[List.mem_flatMap];simp only[List.mem_cons,List.not_mem_nil,or_false]
theorem Wy.next{ts:List T3}{hs':List Int}{n:Nat}{ws:List Int}(h:Wy ts hs' (n+1) ws){p:Int×Int}(hp:p∈ba ts)(ny:p.2∉ws):Wy ts hs' n (ws++[p.2]):=by
 have hy:p.2∈hs':=by
  obtain⟨t,ht,z⟩:=dc.mp hp;obtain⟨h1,h2⟩:=h.en t ht;rcases z with rfl|rfl
  ·exact h2
  exact h1
 refine⟨by simp,List.nodup_append.mpr ⟨h.nd,by simp,λa ha b hb=>by rw[List.mem_singleton.mp hb];rintro rfl;exact ny ha⟩,λx hx=>?_,h.en,by rw[List.length_append];have:=h.l;show ws.length+1+n=_;lia⟩;rcases List.mem_append.mp hx with z|z
 ·exact h.mem x z
 rw[List.mem_singleton.mp z];exact hy
theorem uy.B8{ts:List T3}(h:uy ts):(ba ts).Nodup:=by
 unfold ba List.Nodup;rw[List.pairwise_flatMap];constructor
 ·intro t ht;have:=h.lt t ht;unfold vO;simp only[List.pairwise_cons,List.mem_singleton,List.not_mem_nil,false_implies,implies_true,List.Pairwise.nil,and_true,forall_eq];intro e;have:=(Prod.mk.inj e).1;lia
 refine h.pw.imp_of_mem λ{s t} hs ht ne x hx y hy e=>ne ?_;have l1:=h.lt s hs;have l2:=h.lt t ht;unfold vO at hx hy;simp only[List.mem_cons,List.not_mem_nil,or_false]at hx hy;subst e;rcases hx with hx|hx<;>rcases hy with hy|hy<;>rw[hx]at hy<;>have a:=(Prod.mk.inj hy).1<;>have b:=(Prod.mk.inj hy).2<;>lia
def zr:Nat->Nat
 |0=>1
 |n+1=>(n+1)*zr n
theorem tF:∀n,1<=zr n
 |0=>Nat.le_refl _
 |n+1=>Nat.le_trans (tF n) (by show zr n<=(n+1)*zr n;rw[Nat.succ_mul];lia)
theorem tG{α β:Type}(f:α->List β)(c:Nat):∀(l:List α),(∀x∈l,(f x).length<=c)->(l.flatMap f).length<=(l.filter λx=>decide (f x≠[])).length*c
 |[],_=>by simp
 |x::l,h=>by
  have ih:=tG f c l λy hy=>h y (List.mem_cons_of_mem _ hy);have hx:=h x List.mem_cons_self;rw[List.flatMap_cons,List.length_append];by_cases e:f x=[]
  ·rw[List.filter_cons_of_neg (by simp[e]),e]
   simpa using ih
  rw[List.filter_cons_of_pos (by simp[e]),List.length_cons,Nat.succ_mul];lia
theorem rQ{ts:List T3}(td:uy ts){hs':List Int}{goal:Int}:∀(n:Nat){ws:List Int},Wy ts hs' n ws->(eC ts goal (n+1) ws).length<=zr n
 |n,ws,h=>by
  rw[cR];by_cases c:ws.getLast?=some goal
  ·rw[if_pos c];exact tF n
  rw[if_neg c]
  match n,h with
  |0,h =>
   have:(ba ts).flatMap (bA ts goal 0 ws)=[]:=by
    rw[List.flatMap_eq_nil_iff];intro p hp;unfold bA;split
    ·rw[eC]
    rfl
   rw[this];exact Nat.zero_le _
  |n+1,h =>
   have one:∀p∈ba ts,(bA ts goal (n+1) ws p).length<=zr n:=λp hp=>by
    unfold bA;split
    ·rename_i z;exact rQ td n (h.next hp z.2)
    exact Nat.zero_le _
   refine Nat.le_trans (tG _ (zr n) _ one) ?_;show _<=(n+1)*zr n;refine Nat.mul_le_mul_right _ ?_;have key:∀p∈(ba ts).filter λx=>decide (bA ts goal (n+1) ws x≠[]),p∈ba ts/\ws.getLast?=some p.1/\p.2∉ws:=λp hp=>by
    obtain⟨h1,h2⟩:=List.mem_filter.mp hp;have h2:bA ts goal (n+1) ws p≠[]:=(by simpa using h2);unfold bA at h2;split at h2
    ·rename_i z;exact⟨h1,z⟩
    exact absurd rfl h2
   have nd:(((ba ts).filter λx=>decide (bA ts goal (n+1) ws x≠[])).map (·.2)).Nodup:=by unfold List.Nodup;rw[List.pairwise_map];refine(td.B8.filter _).imp_of_mem λ{p q} hp hq ne e=>ne ?_;have e1:=(key p hp).2.1;rw[(key q hq).2.1]at e1;exact Prod.ext (Option.some.inj e1).symm e
   have:=cQ hs' (ws++((ba ts).filter λx=>decide (bA ts goal (n+1) ws x≠[])).map (·.2)) (List.nodup_append.mpr ⟨h.nd,nd,λa ha b hb=>by
    obtain⟨p,hp,rfl⟩:=List.mem_map.mp hb;rintro rfl;exact(key p hp).2.2 ha⟩) λx hx=>by
    rcases List.mem_append.mp hx with z|z
    ·exact h.mem x z
    obtain⟨p,hp,rfl⟩:=List.mem_map.mp z;obtain⟨t,ht,z⟩:=dc.mp (key p hp).1;obtain⟨h1,h2⟩:=h.en t ht;rcases z with rfl|rfl
    ·exact h2
    exact h1
   rw[List.length_append,List.length_map]at this;have:=h.l;lia
theorem D9:∀n,n<=6->zr n<=720:=by decide
structure rR(K:PySem.W.Frag)(H:Hp)(l:Addr)(vs:List (List Int)):Prop where
 ex:∃zs:List (Addr×List Int),H l=some (.lst (zs.map λz=>V.ref z.1))/\(∀z∈zs,ar K H z.1 (z.2.map V.int))/\zs.map (·.2)=vs
theorem rR.same{K:PySem.W.Frag}{H H':Hp}{l:Addr}{vs:List (List Int)}(h:rR K H l vs)(s:aI H H'):rR K H' l vs:=by obtain⟨zs,h1,h2,h3⟩:=h.ex;exact⟨zs,s _ _ h1,λz hz=>s.tup (h2 z hz),h3⟩
def B9(K:PySem.W.Frag):Nat->Sp
 |0=>λ_ _ _ _=>False
 |n+1=>λvs H Q _=>∃(l wa:Addr)(goal:Int)(ts:List T3)(hs' ws:List Int),vs=[.ref l,.ref wa,.int goal]/\n9 K H l ts/\uy ts/\ar K H wa (ws.map V.int)/\Wy ts hs' n ws/\hs'.length<=7/\∀(r:Addr)(H':Hp),aI H H'->rR K H' r (eC ts goal (n+1) ws)->Q (.ref r) H'
theorem bQ:aV ["wires","way","goal","found","a","b","length","one","other"] ["wires","way","goal"] (aH cW):=⟨rfl,rfl,rfl,by decide +kernel,rfl,by decide +kernel,by decide +kernel⟩
set_option maxHeartbeats 2000000 in
theorem fK(n:Nat)(F:aM K mg "_law_ways" cW)(T:Txt K mg t)(de:Def P w K mg base (n+1) "_law_ways" ["wires","way","goal"] (B9 K n)):Def P w K mg base (n+2) "_law_ways" ["wires","way","goal"] (B9 K (n+1)):=by
 refine F.def bQ (λ_ _ _ _ _ _ us hl=>match us,hl with|[_,_,_],_=>rfl) (λvs H Q E h=>?_) (λf bf A outer s H vs Q E hr h=>?_)
 ·obtain⟨l,wa,goal,ts,hs',ws,rfl,_⟩:=h;rfl
 obtain⟨l,wa,goal,ts,hs',ws,rfl,hl,td,hw,wy,h7,q⟩:=h;refine⟨_,aE (a9 (aW lS (aO (aT K) (pv 1) (xZ ro aG) (λ_ _=>rfl)) (pv 2) (ah _))
   (aF (ab (cB (aA (pv 1) aC))))
   (ae))
  (aE (aY (i:=3) bQ.nd rfl (Or.inl rfl) (cB aC))
  (aE (PS.rj (bJ PassesOwn.never rfl (bC K (pv 0)) (hE rfl (aU (aK (i:=4) bQ.nd rfl (Or.inl rfl)) (aU (aK (i:=5) bQ.nd rfl (Or.inl rfl)) (aU (aK (i:=6) bQ.nd rfl (Or.inl rfl)) dM))))
   (aF (bJ PassesOwn.never rfl (bC K (cB (aA (ak (aA (pv 4) (aA (pv 5) aC))) (aA (ak (aA (pv 5) (aA (pv 4) aC))) aC)))) (lh K (i:=7) (j:=8) rfl bQ.nd rfl rfl (Or.inl rfl) (Or.inl rfl))
    (aF (a9 (PW.pt (kS (aW lS (pv 7) (aO (aT K) (pv 1) (xZ ro aG) (λ_ _=>rfl)) (ah _)) (jv (aW (kE K) (pv 8) (pv 1) (by rfl)))))
     (aF (aY (i:=3) bQ.nd rfl (Or.inl rfl) (ao (oG K) (pv 3) (aa (de) hr aq (aA (pv 0) (aA (ao (DB K) (pv 1) (ak (aA (pv 8) aC))) (aA (pv 2) aC)))))))
     (ae)))))))
  (aF (ab (pv 3))))),?_⟩
 have hsz:(20000:Nat)<=sizeLine:=by decide
 have n6:n<=6:=by
  have h1:=wy.l;have h2:1<=ws.length:=by
   cases ws with
   |nil=>exact absurd rfl wy.ne
   |cons _ _=>simp
  lia
 have RE:ws.length<=7:=by have:=wy.l;lia
 have cb:=rQ td (goal:=goal) n wy;have f7:=D9 n n6;rw[cR]at cb q;obtain⟨pre,z,rfl⟩:∃pre z,ws=pre++[z]:=⟨ws.dropLast,ws.getLast wy.ne,(List.dropLast_concat_getLast _).symm⟩;have la:nQ ((pre++[z]).map V.int) (-1)=some (V.int z):=by rw[List.map_append];exact uF _ _
 have gl:∀x:Int,(pre++[z]).getLast?=some x↔z=x:=λx=>by rw[List.getLast?_concat,Option.some.injEq]
 refine⟨_,rfl,1,rfl,wa,_,_,.int z,rfl,rfl,hw,la,_,rfl,rfl,_,rfl,?_⟩;by_cases c:z=goal
 ·refine dS (congrArg V.int c) ?_;rw[if_pos ((gl goal).mpr c)]at q;refine⟨_,rfl,zz1,λr hr=>?_⟩;exact q r _ ((aI.refl H).new hr) ⟨[(wa,pre++[z])],aB,λy hy=>by rw[List.mem_singleton.mp hy];exact((aI.refl H).new hr).tup hw,rfl⟩
 refine dR (λe=>c (V.int.inj e)) ?_;rw[if_neg λe=>c ((gl goal).mp e)]at q cb;refine⟨zz0,λfo Kj=>?_⟩;have s0:=(aI.refl H).new (o:=.lst []) Kj;have e0:(upd H fo (.lst [])) fo=some (.lst []):=aB;generalize upd H fo (.lst [])=H0 at s0 e0 ⊢;obtain⟨zs,z1,z2,z3⟩:=hl;have EA:∀{A:List (Int×Int)}{p:Int×Int}{R:List (Int×Int)},ba ts=A++p::R->(A.flatMap (bA ts goal n (pre++[z]))).length+(bA ts goal n (pre++[z]) p).length<=720:=λ{A p R} e=>by rw[e,List.flatMap_append,List.flatMap_cons,List.length_append,List.length_append]at cb;lia
 let I:Nat->_->_->Prop:=λi σ H'=>∃(r:Addr)(v4 v5 v6 v7 v8:Option V),σ=[some (.ref l),some (.ref wa),some (.int goal),some (.ref r),v4,v5,v6,v7,v8]/\aI H H'/\rR K H' r ((ba (ts.take i)).flatMap (bA ts goal n (pre++[z])))
 refine⟨_,rfl,l,rfl,⟨_,af.of (s0 _ _ z1)⟩,cM (K:=K) (a:=l) (xs:=zs.map (·.1)) I ⟨fo,none,none,none,none,none,rfl,s0,[],e0,λz hz=>absurd hz List.not_mem_nil,rfl⟩ (λi σ H' _ ⟨_,_,_,_,_,_,_,s,_⟩=>af.of (s _ _ z1)) ?_ ?_⟩
 ·rintro i y σ H1 hi ⟨r,v4,v5,v6,v7,v8,rfl,s1,w1⟩;rw[List.getElem?_map]at hi;cases ez:zs[i]? with
  |none=>rw[ez]at hi;cases hi
  |some zt =>
   rw[ez]at hi;obtain rfl:zt.1=y:=Option.some.inj hi;have et:ts[i]?=some zt.2:=(by rw[<-z3,List.getElem?_map,ez];rfl);obtain⟨za,ea,g1⟩:=pR ((z2 zt (List.mem_of_getElem? ez)).same s1);refine⟨za,_,ea,g1,rfl,_,_,rfl,_,_,rfl,_,_,rfl,rfl,?_⟩;obtain⟨R,hR⟩:∃R,ba ts=ba (ts.take i)++(vO zt.2++R):=by obtain⟨j1,j2⟩:=List.getElem?_eq_some_iff.mp et;refine⟨ba (ts.drop (i+1)),?_⟩;have e1:ts=ts.take i++zt.2::ts.drop (i+1):=(by rw[<-j2,List.getElem_cons_drop,List.take_append_drop]);have:ba (ts.take i++zt.2::ts.drop (i+1))=ba (ts.take i)++(vO zt.2++ba (ts.drop (i+1))):=(by unfold ba;rw[List.flatMap_append,List.flatMap_cons]);rw[<-this,<-e1]
   refine⟨_,rfl,_,rfl,zz2,λt1 Ju=>⟨_,rfl,_,rfl,zz2,λt2 Eo=>⟨zz2,λil Me=>?_⟩⟩⟩;have u1:=(aI.refl H1).new (o:=.tup [.int zt.2.1,.int zt.2.2.1]) Ju;have u2:=(aI.refl (upd H1 t1 (.tup [.int zt.2.1,.int zt.2.2.1]))).new (o:=.tup [.int zt.2.2.1,.int zt.2.1]) Eo;have u3:=(aI.refl (upd (upd H1 t1 (.tup [.int zt.2.1,.int zt.2.2.1])) t2 (.tup [.int zt.2.2.1,.int zt.2.1]))).new (o:=.lst [.ref t1,.ref t2]) Me;have a1:ar K (upd (upd (upd H1 t1 (.tup [.int zt.2.1,.int zt.2.2.1])) t2 (.tup [.int zt.2.2.1,.int zt.2.1])) il (.lst [.ref t1,.ref t2])) t1 [.int zt.2.1,.int zt.2.2.1]:=(u2.trans u3).tup (ar.of aB);have a2:ar K (upd (upd (upd H1 t1 (.tup [.int zt.2.1,.int zt.2.2.1])) t2 (.tup [.int zt.2.2.1,.int zt.2.1])) il (.lst [.ref t1,.ref t2])) t2 [.int zt.2.2.1,.int zt.2.1]:=u3.tup (ar.of aB);have a3:(upd (upd (upd H1 t1 (.tup [.int zt.2.1,.int zt.2.2.1])) t2 (.tup [.int zt.2.2.1,.int zt.2.1])) il (.lst [.ref t1,.ref t2])) il=some (.lst [.ref t1,.ref t2]):=aB;have u:=u1.trans (u2.trans u3);generalize upd (upd (upd H1 t1 (.tup [.int zt.2.1,.int zt.2.2.1])) t2 (.tup [.int zt.2.2.1,.int zt.2.1])) il (.lst [.ref t1,.ref t2])=H2 at u a1 a2 a3 ⊢;have S2:=s1.trans u
   let J:Nat->_->_->Prop:=λj σ H'=>∃(r:Addr)(v7 v8:Option V),σ=[some (.ref l),some (.ref wa),some (.int goal),some (.ref r),some (.int zt.2.1),some (.int zt.2.2.1),some (.int zt.2.2.2),v7,v8]/\aI H2 H'/\rR K H' r ((ba (ts.take i)++(vO zt.2).take j).flatMap (bA ts goal n (pre++[z])))
   refine⟨il,rfl,⟨_,af.of a3⟩,cM (K:=K) (a:=il) (xs:=[.ref t1,.ref t2]) J ⟨r,_,_,rfl,.refl _,by rw[List.take_zero,List.append_nil];exact w1.same u⟩ (λj σ H' _ ⟨_,_,_,_,s,_⟩=>af.of (s _ _ a3)) ?_ ?_⟩
   ·rintro j y σ H3 hj ⟨r,v7,v8,rfl,s3,w3⟩;obtain⟨p,ep,ta,rfl,g3⟩:∃p,(vO zt.2)[j]?=some p/\∃ta,y=.ref ta/\ar K H3 ta [.int p.1,.int p.2]:=by
     match j,hj with
     |0,hj=>cases hj;exact⟨_,rfl,t1,rfl,s3.tup a1⟩
     |1,hj=>cases hj;exact⟨_,rfl,t2,rfl,s3.tup a2⟩
     |j+2,hj=>simp at hj
    have Kk:p∈ba ts:=by rw[hR];exact List.mem_append_right _ (List.mem_append_left _ (List.mem_of_getElem? ep))
    obtain⟨R',QD⟩:∃R',ba ts=(ba (ts.take i)++(vO zt.2).take j)++p::R':=by
     refine⟨(vO zt.2).drop (j+1)++R,?_⟩;obtain⟨j1,j2⟩:=List.getElem?_eq_some_iff.mp ep;have e2:vO zt.2=(vO zt.2).take j++p::(vO zt.2).drop (j+1):=(by rw[<-j2,List.getElem_cons_drop,List.take_append_drop]);rw[hR]
     conv=>lhs;rw[e2]
     simp
    have pl:=EA QD;refine⟨ta,_,rfl,g3,rfl,_,_,rfl,_,_,rfl,rfl,?_⟩;have Mf:=(S2.trans s3).tup hw;have Kl:(ba (ts.take i)++(vO zt.2).take (j+1)).flatMap (bA ts goal n (pre++[z]))=(ba (ts.take i)++(vO zt.2).take j).flatMap (bA ts goal n (pre++[z]))++bA ts goal n (pre++[z]) p:=by rw[take_succ ep,<-List.append_assoc,List.flatMap_append,List.flatMap_cons,List.flatMap_nil,List.append_nil]
    refine⟨_,rfl,_,rfl,1,rfl,wa,_,_,.int z,rfl,rfl,Mf,la,rfl,_,rfl,?_⟩;by_cases c1:p.1=z
    ·refine dS (congrArg V.int c1) ?_;refine⟨_,rfl,_,rfl,wa,_,rfl,.inr Mf,rfl,eV _,_,rfl,?_⟩;show if(!Cg (.int p.2) ((pre++[z]).map V.int))=true then _ else _;rw[gp];by_cases c2:p.2∈pre++[z]
     ·refine nR c2 ⟨r,_,_,rfl,s3,?_⟩;rw[Kl];have:bA ts goal n (pre++[z]) p=[]:=(by unfold bA;rw[if_neg λe=>e.2 c2]);rw[this,List.append_nil];exact w3
     refine qz c2 ?_;have eS:bA ts goal n (pre++[z]) p=eC ts goal n ((pre++[z])++[p.2]):=(by unfold bA;rw[if_pos ⟨(gl p.1).mpr c1.symm,c2⟩]);rw[eS]at Kl pl;have n1:1<=n:=by
      obtain⟨t,ht,zz⟩:=dc.mp Kk;obtain⟨h1,h2⟩:=wy.en t ht;refine wy.pos (y:=p.2) ?_ c2;rcases zz with rfl|rfl
      ·exact h2
      exact h1
     obtain⟨m,rfl⟩:∃m,n=m+1:=⟨n-1,by lia⟩;refine⟨_,rfl,_,rfl,_,rfl,_,rfl,zz1,λt3 QE=>?_⟩;have s4:=(aI.refl H3).new (o:=.tup [.int p.2]) QE;have e4:ar K (upd H3 t3 (.tup [.int p.2])) t3 [.int p.2]:=ar.of aB;generalize upd H3 t3 (.tup [.int p.2])=H4 at s4 e4 ⊢;refine⟨wa,t3,_,_,rfl,rfl,s4.tup Mf,e4,by rw[List.length_map];show _+1<=sizeLine;lia,λwb H5 s5 Mg=>?_⟩;have Mg:ar K H5 wb (((pre++[z])++[p.2]).map V.int):=(by rw[List.map_append];exact Mg);have S5:=(S2.trans s3).trans (s4.trans s5);refine⟨_,rfl,l,wb,goal,ts,hs',(pre++[z])++[p.2],rfl,⟨zs,S5 _ _ z1,λy hy=>(z2 y hy).same S5,z3⟩,td,Mg,wy.next Kk c2,h7,λrr H6 s6 w6=>?_⟩;obtain⟨xs,x1,x2,x3⟩:=(w3.same (s4.trans (s5.trans s6))).ex;obtain⟨ys,y1,y2,y3⟩:=w6.ex;have l1:=congrArg List.length x3;have l2:=congrArg List.length y3;rw[List.length_map]at l1 l2;refine⟨r,rr,_,_,rfl,rfl,af.of x1,af.of y1,by rw[List.length_map,List.length_map];lia,λr2 wQ=>?_⟩;have s7:=(aI.refl H6).new (o:=.lst (xs.map (λz=>V.ref z.1)++ys.map λz=>V.ref z.1)) wQ;refine⟨r2,_,_,rfl,s3.trans (s4.trans (s5.trans (s6.trans s7))),xs++ys,by rw[aB,List.map_append],λy hy=>?_,by rw[List.map_append,x3,y3,Kl]⟩;rcases List.mem_append.mp hy with h|h
     ·exact s7.tup (x2 y h)
     exact s7.tup (y2 y h)
    refine dR (λe=>c1 (V.int.inj e)) ⟨r,_,_,rfl,s3,?_⟩;rw[Kl];have:bA ts goal n (pre++[z]) p=[]:=(by unfold bA;rw[if_neg λe=>c1 ((gl p.1).mp e.1).symm]);rw[this,List.append_nil];exact w3
   rintro σ H3 ⟨r,v7,v8,rfl,s3,w3⟩;refine⟨r,_,_,_,_,_,rfl,S2.trans s3,?_⟩;have e:ba (ts.take (i+1))=ba (ts.take i)++(vO zt.2).take 2:=by rw[take_succ et];unfold ba;rw[List.flatMap_append,List.flatMap_cons,List.flatMap_nil,List.append_nil];rfl
   rw[e];exact w3
 rintro σ H1 ⟨r,v4,v5,v6,v7,v8,rfl,s1,w1⟩;have:(zs.map (·.1)).length=ts.length:=by rw[<-z3,List.length_map,List.length_map]
 rw[this,List.take_length]at w1;exact⟨_,rfl,q r H1 s1 w1⟩
theorem Gx(F:aM K mg "_law_ways" cW):Def P w K mg base 1 "_law_ways" ["wires","way","goal"] (B9 K 0):=by exact F.no bQ (λ_ _ _ _ _ _ us hl=>match us,hl with|[_,_,_],_=>rfl)
theorem tH(F:aM K mg "_law_ways" cW)(T:Txt K mg t):Def P w K mg base 8 "_law_ways" ["wires","way","goal"] (B9 K 7):=by exact fK 6 F T (fK 5 F T (fK 4 F T (fK 3 F T (fK 2 F T (fK 1 F T (fK 0 F T (Gx F)))))))
def jC(L:List (Tk×Int)):List Int->Option Int
 |x::y::r=>(jS L [x,y]).bind λl=>(jC L (y::r)).map (l+·)
 |_=>some 0
theorem vB(L:List (Tk×Int))(x y:Int)(r:List Int):jC L (x::y::r)=(jS L [x,y]).bind λl=>(jC L (y::r)).map (l+·):=by rw[jC]
theorem vC(L:List (Tk×Int))(x:Int):jC L [x]=some 0:=by rw[jC];intro x y r z;cases z
theorem Jv{α:Type}{l:List α}{i:Nat}{x y:α}(h1:l[i]?=some x)(h2:l[i+1]?=some y):l.drop i=x::y::l.drop (i+2)/\l.drop (i+1)=y::l.drop (i+2):=by
 obtain⟨i1,rfl⟩:=List.getElem?_eq_some_iff.mp h1;obtain⟨i2,rfl⟩:=List.getElem?_eq_some_iff.mp h2;have e2:l.drop (i+1)=l[i+1]::l.drop (i+2):=by rw[List.drop_eq_getElem_cons i2]
 exact⟨by rw[List.drop_eq_getElem_cons i1,e2],e2⟩
theorem jb:∀xs ys:List Int,PyData.eqvAll (xs.map .int) (ys.map .int)=decide (xs=ys)
 |[],[]=>by simp[PyData.eqvAll]
 |[],_::_=>by simp[PyData.eqvAll]
 |_::_,[]=>by simp[PyData.eqvAll]
 |x::xs,y::ys=>by
  have ih:=jb xs ys;simp only[List.map_cons,PyData.eqvAll,ih,PyData.eqv];by_cases c:x=y
  ·subst c;simp
  simp[c]
theorem CA(xs ys:List Int):PyData.eqv (.list (xs.map .int)) (.list (ys.map .int))=decide (xs=ys):=by rw[PyData.eqv];exact jb xs ys
theorem vD{K:PySem.W.Frag}{H:Hp}{n:Nat}{a:Addr}{xs:List Int}(h:af K H a (xs.map V.int)):aQ K H (n+1) (.ref a) (.list (xs.map .int)):=by
 refine .lst h (by rw[List.length_map,List.length_map]) λi x d e1 e2=>?_;rw[List.getElem?_map]at e1 e2;cases e:xs[i]? with
 |none=>rw[e]at e1;cases e1
 |some o=>rw[e]at e1 e2;cases e1;cases e2;exact .int _
theorem zu{xs ys:List Int}(h1:xs.Pairwise (·<·))(h2:ys.Pairwise (·<·))(h:∀x,x∈xs↔x∈ys):xs=ys:=by
 have nn:∀{l:List Int},l.Pairwise (·<·)->l.Nodup:=λh=>h.imp λz e=>by lia
 have p:xs.Perm ys:=(List.perm_ext_iff_of_nodup (nn h1) (nn h2)).mpr h;exact List.Perm.eq_of_pairwise (le:=(·<·)) (λa b _ _ x y=>absurd y (by lia)) h1 h2 p
theorem tI{xs:List Int}(h:xs.Pairwise (·<=·))(nd:xs.Nodup):xs.Pairwise (·<·):=(h.and nd).imp λ⟨a,b⟩=>by lia
theorem Fin.keys{L:List (Tk×Int)}{goal:Int}{hv:Hv}(f:Fin L goal hv)(x:Int):x∈hv.map (·.1)↔∃s,Wk L goal x s:=by
 constructor
 ·intro h;cases e:lk hv x with
  |none=>exact absurd h (cw.mp e)
  |some n=>exact⟨n,f.wk n.toNat (Nat.le_refl _) e⟩
 rintro⟨s,w⟩;obtain⟨n,h,_⟩:=f.le w;exact Classical.byContradiction λz=>by rw[cw.mpr z]at h;cases h
theorem yU{hv:Hv}{x:Int}(h:x∈hv.map (·.1)):∃n,lk hv x=some n:=by
 cases e:lk hv x with
 |none=>exact absurd h (cw.mp e)
 |some n=>exact⟨n,rfl⟩
structure CB(ns:List Int):Prop where
 r:ns.Pairwise (·<·)
 h:∀n∈ns,0<=n/\n<32
structure rS(L:List (Tk×Int))(one other:Int)(ns:List Int):Prop where
 r:CB ns
 o:one∈ns
 t:other∉ns
 e:∀a b l,([a,b],l)∈L->a∈ns->b∈ns
theorem Wl.jC{L:List (Tk×Int)}(kn:(L.map (·.1)).Nodup){goal x s:Int}{ws:List Int}(h:Wl L goal x ws s):jC L ws=some s/\ws.getLast?=some goal:=by
 induction h with
 |done=>exact⟨vC _ _,rfl⟩
 |@step x e l s ws h w ih =>
  obtain⟨t,rfl⟩:=w.head;rw[vB,(dY kn).mpr h,ih.1];exact⟨rfl,by rw[List.getLast?_cons_cons];exact ih.2⟩
theorem Gr.down{L:List (Tk×Int)}{hv:Hv}{goal x:Int}{ws:List Int}(f:Fin L goal hv)(h:Gr L hv goal x ws):∃n,lk hv x=some n/\(∀y∈ws,∃m,lk hv y=some m/\m<=n)/\ws.Nodup:=by
 induction h with
 |done=>exact⟨0,f.h.g,λy hy=>by rw[List.mem_singleton.mp hy];exact⟨0,f.h.g,Int.le_refl _⟩,by simp⟩
 |@step x e ws ne nx g ih =>
  obtain⟨n,h1,h2,h3⟩:=ih;obtain⟨⟨l,m,h4,h5,h6⟩,_⟩:=nx;rw[h1]at h5;cases h5;have l1:=f.pos h4;refine⟨n+l,h6,λy hy=>?_,List.nodup_cons.mpr ⟨λhm=>?_,h3⟩⟩
  ·rcases List.mem_cons.mp hy with rfl|hy
   ·exact⟨_,h6,Int.le_refl _⟩
   obtain⟨m,a,b⟩:=h2 y hy;exact⟨m,a,by lia⟩
  obtain⟨m,a,b⟩:=h2 x hm;rw[h6]at a;cases a;lia
theorem EB{ts:List T3}{p:Int×Int}(h:p∈ba ts):∃l,([p.1,p.2],l)∈bZ ts:=by
 obtain⟨t,ht,z⟩:=dc.mp h;refine⟨t.2.2,bB.mpr ⟨t,ht,?_⟩⟩;rcases z with rfl|rfl
 ·exact .inl rfl
 exact .inr rfl
theorem EC{ts:List T3}{a b l:Int}(h:([a,b],l)∈bZ ts):(a,b)∈ba ts:=by
 obtain⟨t,ht,z⟩:=bB.mp h;refine dc.mpr ⟨t,ht,?_⟩;rcases z with z|z
 ·have e:=(Prod.mk.inj z).1;simp only[List.cons.injEq,and_true]at e;exact .inl (Prod.ext e.1 e.2)
 have e:=(Prod.mk.inj z).1;simp only[List.cons.injEq,and_true]at e;exact .inr (Prod.ext e.1 e.2)
theorem rT{ts:List T3}{goal:Int}:∀(n:Nat){pre:List Int}{z:Int}{v:List Int},(pre++[z]).Nodup->v∈eC ts goal n (pre++[z])->∃s cb,v=pre++z::s/\Wl (bZ ts) goal z (z::s) cb/\v.Nodup
 |0,_,_,_,_,h=>by rw[eC]at h;exact absurd h List.not_mem_nil
 |n+1,pre,z,v,nd,h=>by
  rw[cR]at h;by_cases c:(pre++[z]).getLast?=some goal
  ·rw[if_pos c]at h;rw[List.getLast?_concat]at c;cases c;rw[List.mem_singleton.mp h];exact⟨[],0,rfl,.done,nd⟩
  rw[if_neg c]at h;obtain⟨p,hp,hv⟩:=List.mem_flatMap.mp h;unfold bA at hv;split at hv
  ·rename_i hc;have h1:=hc.1;rw[List.getLast?_concat]at h1;have h1:=Option.some.inj h1;obtain⟨s,cb,e,w,nv⟩:=rT n (pre:=pre++[z]) (z:=p.2) (List.nodup_append.mpr ⟨nd,by simp,λa ha b hb=>by rw[List.mem_singleton.mp hb];rintro rfl;exact hc.2 ha⟩) hv;obtain⟨l,hl⟩:=EB hp;rw[<-h1]at hl;exact⟨p.2::s,l+cb,by rw[e];simp,.step hl w,nv⟩
  exact absurd hv List.not_mem_nil
theorem zv{ts:List T3}{goal:Int}{z:Int}{ws:List Int}{cb:Int}(w:Wl (bZ ts) goal z ws cb):∀(n:Nat)(pre:List Int),ws.length<=n->(pre++ws).Nodup->pre++ws∈eC ts goal n (pre++[z]):=by
 induction w with
 |done =>
  intro n pre hn nd;obtain⟨m,rfl⟩:∃m,n=m+1:=⟨n-1,by have:1<=n:=hn;lia⟩;rw[cR,if_pos (by rw[List.getLast?_concat])];exact List.mem_singleton.mpr rfl
 |@step x e l s ws h w ih =>
  intro n pre hn nd;rw[List.length_cons]at hn;obtain⟨m,rfl⟩:∃m,n=m+1:=⟨n-1,by lia⟩;obtain⟨t,rfl⟩:=w.head;have gl:(e::t).getLast?=some goal:=by
   clear ih hn nd h;generalize e::t=vs at w
   induction w with
   |done=>rfl
   |@step x e l s ws h w ih =>
    obtain⟨t,rfl⟩:=w.head;rw[List.getLast?_cons_cons];exact ih
  have gm:goal∈e::t:=List.mem_of_getLast? gl;have Mh:=(List.nodup_append.mp nd).2.1;have xg:x≠goal:=λz=>(List.nodup_cons.mp Mh).1 (by rw[z];exact gm);rw[cR,if_neg (by rw[List.getLast?_concat];intro z;exact xg (Option.some.inj z))];refine List.mem_flatMap.mpr ⟨(x,e),EC h,?_⟩;have ne:e∉pre++[x]:=λhm=>by
   rcases List.mem_append.mp hm with hm|hm
   ·exact(List.nodup_append.mp nd).2.2 _ hm _ (List.mem_cons_of_mem _ List.mem_cons_self) rfl
   rw[List.mem_singleton.mp hm]at Mh;exact(List.nodup_cons.mp Mh).1 List.mem_cons_self
  unfold bA;rw[if_pos ⟨by rw[List.getLast?_concat],ne⟩];have:=ih m (pre++[x]) (by lia) (by simpa using nd)
  simpa using this
theorem Wl.all{ts:List T3}{goal x cb:Int}{ws:List Int}(w:Wl (bZ ts) goal x ws cb):∀y∈ws,y=x\/∃t∈ts,y=t.1\/y=t.2.1:=by
 induction w with
 |done=>intro y hy;exact .inl (List.mem_singleton.mp hy)
 |@step x e l s ws h w ih =>
  intro y hy;rcases List.mem_cons.mp hy with rfl|hy
  ·exact .inl rfl
  rcases ih y hy with rfl|z
  ·obtain⟨t,ht,z⟩:=bB.mp h;refine .inr ⟨t,ht,?_⟩;rcases z with z|z
   ·have e:=(Prod.mk.inj z).1;simp only[List.cons.injEq,and_true]at e;exact .inr e.2
   have e:=(Prod.mk.inj z).1;simp only[List.cons.injEq,and_true]at e;exact .inl e.2
  exact .inr z
theorem CC{hv:Hv}{ns:List Int}(hp:ns.Perm (hv.map (·.1)))(x:Int):lk (gE hv ns) x=lk hv x:=by
 by_cases c:x∈ns
 ·obtain⟨n,hn⟩:=yU (hp.mem_iff.mp c);rw[hn];unfold lk gE;rw[List.find?_map];cases e:ns.find? ((λp:Int×Int=>decide (p.1=x))∘λh=>(h,(lk hv h).getD 0))with
  |none=>exact absurd (List.find?_eq_none.mp e x c) (by simp)
  |some y =>
   have h2:y=x:=(by simpa using List.find?_some e);subst h2;show some ((lk hv y).getD 0)=some n;rw[hn];rfl
 rw[cw.mpr (λz=>c (hp.mem_iff.mpr z))];refine cw.mpr ?_;unfold gE;rw[List.map_map];intro hm;obtain⟨y,hy,e⟩:=List.mem_map.mp hm;exact c (by rw[<-show y=x from e];exact hy)
theorem xD(hv:Hv)(ns:List Int):(gE hv ns).map (·.1)=ns:=by unfold gE;rw[List.map_map];exact List.map_id'' (λ_=>rfl) _
theorem rV{ts Km:List T3}(h:∀t,t∈ts↔t∈Km)(e:Tk×Int):e∈bZ ts↔e∈bZ Km:=by
 rw[bB,bB];constructor
 ·rintro⟨t,ht,z⟩;exact⟨t,(h t).mp ht,z⟩
 rintro⟨t,ht,z⟩;exact⟨t,(h t).mpr ht,z⟩
theorem Wk.snoc{L:List (Tk×Int)}{g x s y l:Int}(w:Wk L g x s)(h:([g,y],l)∈L):∃s',Wk L y x s':=by
 induction w with
 |nil=>exact⟨_,.cons h .nil⟩
 |cons h1 _ ih =>
  obtain⟨s',z⟩:=ih;exact⟨_,.cons h1 z⟩
theorem Wk.symm{L:List (Tk×Int)}(sy:∀a b l,([a,b],l)∈L->([b,a],l)∈L){g x s:Int}(w:Wk L g x s):∃s',Wk L x g s':=by
 induction w with
 |nil=>exact⟨0,.nil⟩
 |cons h1 _ ih =>
  obtain⟨s',z⟩:=ih;exact z.snoc (sy _ _ _ h1)
theorem Wk.ends{ts:List T3}{goal x s:Int}(w:Wk (bZ ts) goal x s):x=goal\/∃t∈ts,x=t.1\/x=t.2.1:=by
 cases w with
 |nil=>exact .inl rfl
 |cons h _ =>
  obtain⟨t,ht,z⟩:=bB.mp h;refine .inr ⟨t,ht,?_⟩;rcases z with z|z
  ·have e:=(Prod.mk.inj z).1;simp only[List.cons.injEq,and_true]at e;exact .inl e.1
  have e:=(Prod.mk.inj z).1;simp only[List.cons.injEq,and_true]at e;exact .inr e.1
theorem zw{ts:List T3}{one other:Int}{hv zh:Hv}{ns:List Int}(f:Fin (bZ ts) other hv)(hn:lk hv one=none)(f2:Fin (bZ ts) one zh)(hp:ns.Perm (zh.map (·.1)))(hs:ns.Pairwise (·<=·))(ht:∀t∈ts,(0<=t.1/\t.1<32)/\(0<=t.2.1/\t.2.1<32))(ho:0<=one/\one<32):rS (bZ ts) one other ns:=by
 have mem:∀x,x∈ns↔∃s,Wk (bZ ts) one x s:=λx=>hp.mem_iff.trans (f2.keys x);refine⟨⟨tI hs (hp.nodup_iff.mpr f2.h.nd),λn hn=>?_⟩,(mem one).mpr ⟨0,.nil⟩,λz=>?_,λa b l he ha=>?_⟩
 ·obtain⟨s,w⟩:=(mem n).mp hn;rcases w.ends with rfl|⟨t,h,rfl|rfl⟩
  ·exact ho
  ·exact(ht t h).1
  exact(ht t h).2
 ·obtain⟨s,w⟩:=(mem other).mp z;obtain⟨s',w'⟩:=w.symm f2.sy;obtain⟨n,h1,_⟩:=f.le w';rw[hn]at h1;cases h1
 obtain⟨s,w⟩:=(mem a).mp ha;exact(mem b).mpr ⟨_,.cons (f2.sy _ _ _ he) w⟩
theorem rS.congr{L L':List (Tk×Int)}(h:∀e,e∈L↔e∈L'){one other:Int}{ns:List Int}(z:rS L one other ns):rS L' one other ns:=⟨z.r,z.o,z.t,λa b l he=>z.e a b l ((h _).mpr he)⟩
structure GoodW(ts:List T3)(one other:Int)(v:List Int)(cb:Int):Prop where
 w:Wl (bZ ts) other one v cb
 n:v.Nodup
theorem zx{ts:List T3}{one other:Int}{n:Nat}{v:List Int}(h:v∈eC ts other n [one]):∃cb,GoodW ts one other v cb:=by obtain⟨s,cb,e,w,nd⟩:=rT n (pre:=[]) (z:=one) (by simp) h;rw[List.nil_append]at e;subst e;exact⟨cb,w,nd⟩
theorem vE{ts:List T3}{one other cb:Int}{v eX:List Int}(g:GoodW ts one other v cb)(h6:eX.length=6)(en:∀t∈ts,t.1∈eX/\t.2.1∈eX):v.length<=7:=by
 have:=cQ (one::eX) v g.n λy hy=>by
  rcases g.w.all y hy with rfl|⟨t,ht,rfl|rfl⟩
  ·exact List.mem_cons_self
  ·exact List.mem_cons_of_mem _ (en t ht).1
  exact List.mem_cons_of_mem _ (en t ht).2
 rw[List.length_cons,h6]at this;exact this
theorem rW{ts:List T3}{one other cb:Int}{v eX:List Int}(g:GoodW ts one other v cb)(h6:eX.length=6)(en:∀t∈ts,t.1∈eX/\t.2.1∈eX):v∈eC ts other 7 [one]:=by
 have:=zv g.w 7 [] (vE g h6 en) (by simpa using g.n)
 simpa using this
theorem Wl.congr{L L':List (Tk×Int)}(h:∀e,e∈L->e∈L'){goal x s:Int}{ws:List Int}(w:Wl L goal x ws s):Wl L' goal x ws s:=by
 induction w with
 |done=>exact .done
 |step h1 _ ih=>exact .step (h _ h1) ih
def pD(p:Int×Int):PyData:=.tuple [.int p.1,.int p.2]
theorem FE(s t:Int×Int):bD (pD s) (pD t)=decide ([s.1,s.2]<[t.1,t.2]):=by obtain⟨o,q⟩:=s;obtain⟨o',q'⟩:=t;simp only[pD,bD,d0,PyData.eqv,PyData.eqvAll,List.cons_lt_cons_iff];by_cases h1:o=o'<;>by_cases h2:q=q'<;>simp[h1,h2]
theorem Mi(ps:Hv):mq (ps.map pD):=mK (κ:=List Int) (key:=λp=>[p.1,p.2]) (λa b h=>List.lt_asymm h) (λa b c h1 h2=>List.not_lt.mpr (List.le_trans (List.not_lt.mp h1) (List.not_lt.mp h2))) FE (λs t=>by simp[pD,o4,kf]) (.rows λd hd=>by obtain⟨w,_,rfl⟩:=List.mem_map.mp hd;exact⟨_,_,rfl⟩)
theorem yV{K:PySem.W.Frag}{H:Hp}{n:Nat}{a:Addr}{p:Int×Int}(h:ar K H a [.int p.1,.int p.2]):aQ K H (n+1) (.ref a) (pD p):=by
 refine .tup h rfl λi x d hx hd=>?_
 match i,hx,hd with
 |0,hx,hd=>cases hx;cases hd;exact .int _
 |1,hx,hd=>cases hx;cases hd;exact .int _
 |i+2,hx,_=>simp at hx
theorem pX{ts:List T3}(td:uy ts){hs':List Int}{goal:Int}:∀(n m:Nat){ws:List Int},Wy ts hs' n ws->(eC ts goal m ws).length<=zr n
 |_,0,_,_=>by rw[eC];exact Nat.zero_le _
 |n,m+1,ws,h=>by
  rw[cR];by_cases c:ws.getLast?=some goal
  ·rw[if_pos c];exact tF n
  rw[if_neg c]
  match n,h with
  |0,h =>
   have:(ba ts).flatMap (bA ts goal m ws)=[]:=by
    rw[List.flatMap_eq_nil_iff];intro p hp;unfold bA;split
    ·rename_i z;have hy:p.2∈hs':=by
      obtain⟨t,ht,e⟩:=dc.mp hp;obtain⟨h1,h2⟩:=h.en t ht;rcases e with rfl|rfl
      ·exact h2
      exact h1
     have:=h.pos hy z.2;lia
    rfl
   rw[this];exact Nat.zero_le _
  |n+1,h =>
   have one:∀p∈ba ts,(bA ts goal m ws p).length<=zr n:=λp hp=>by
    unfold bA;split
    ·rename_i z;exact pX td n m (h.next hp z.2)
    exact Nat.zero_le _
   refine Nat.le_trans (tG _ (zr n) _ one) ?_;show _<=(n+1)*zr n;refine Nat.mul_le_mul_right _ ?_;have key:∀p∈(ba ts).filter λx=>decide (bA ts goal m ws x≠[]),p∈ba ts/\ws.getLast?=some p.1/\p.2∉ws:=λp hp=>by
    obtain⟨h1,h2⟩:=List.mem_filter.mp hp;have h2:bA ts goal m ws p≠[]:=(by simpa using h2);unfold bA at h2;split at h2
    ·rename_i z;exact⟨h1,z⟩
    exact absurd rfl h2
   have nd:(((ba ts).filter λx=>decide (bA ts goal m ws x≠[])).map (·.2)).Nodup:=by unfold List.Nodup;rw[List.pairwise_map];refine(td.B8.filter _).imp_of_mem λ{p q} hp hq ne e=>ne ?_;have e1:=(key p hp).2.1;rw[(key q hq).2.1]at e1;exact Prod.ext (Option.some.inj e1).symm e
   have:=cQ hs' (ws++((ba ts).filter λx=>decide (bA ts goal m ws x≠[])).map (·.2)) (List.nodup_append.mpr ⟨h.nd,nd,λa ha b hb=>by
    obtain⟨p,hp,rfl⟩:=List.mem_map.mp hb;rintro rfl;exact(key p hp).2.2 ha⟩) λx hx=>by
    rcases List.mem_append.mp hx with z|z
    ·exact h.mem x z
    obtain⟨p,hp,rfl⟩:=List.mem_map.mp z;obtain⟨t,ht,z⟩:=dc.mp (key p hp).1;obtain⟨h1,h2⟩:=h.en t ht;rcases z with rfl|rfl
    ·exact h2
    exact h1
   rw[List.length_append,List.length_map]at this;have:=h.l;lia
theorem CD{ts:List T3}(td:uy ts){one other:Int}{eX:List Int}(h6:eX.length=6)(en:∀t∈ts,t.1∈eX/\t.2.1∈eX):(eC ts other 7 [one]).length<=120:=by
 by_cases c:one∈eX
 ·exact pX td (hs':=eX) 5 7 ⟨by simp,by simp,λy hy=>by rw[List.mem_singleton.mp hy];exact c,en,by show 1+5=_;lia⟩
 rw[cR];split
 ·show 1<=120;decide
 have:(ba ts).flatMap (bA ts other 6 [one])=[]:=by
  rw[List.flatMap_eq_nil_iff];intro p hp;unfold bA;split
  ·rename_i z;refine absurd ?_ c;have e:one=p.1:=Option.some.inj z.1;obtain⟨t,ht,y⟩:=dc.mp hp;rcases y with rfl|rfl
   ·rw[e];exact(en t ht).1
   rw[e];exact(en t ht).2
  rfl
 rw[this];exact Nat.zero_le _
def aD(p:Int×List Int):PyData:=.tuple [.int p.1,.tuple (p.2.map .int)]
theorem k8:∀xs ys:List Int,d0 (xs.map .int) (ys.map .int)=decide (xs<ys)
 |[],[]=>by simp[d0]
 |[],_::_=>by simp[d0]
 |_::_,[]=>by simp[d0]
 |x::xs,y::ys=>by
  have ih:=k8 xs ys;simp only[List.map_cons,d0,ih,PyData.eqv,bD,List.cons_lt_cons_iff];by_cases c:x=y
  ·subst c;simp
  simp[c]
theorem FF(s t:Int×List Int):bD (aD s) (aD t)=decide (s.1::s.2<t.1::t.2):=by
 obtain⟨n,xs⟩:=s;obtain⟨m,ys⟩:=t;have e1:PyData.eqv (.tuple (xs.map .int)) (.tuple (ys.map .int))=decide (xs=ys):=by rw[PyData.eqv];exact jb xs ys
 have e2:bD (.tuple (xs.map .int)) (.tuple (ys.map .int))=decide (xs<ys):=by rw[bD];exact k8 xs ys
 simp only[aD,bD,d0,e1,List.cons_lt_cons_iff];by_cases c:n=m
 ·subst c;by_cases d:xs=ys
  ·subst d;simp[PyData.eqv,List.lt_irrefl]
  simp[PyData.eqv,d,k8]
 simp[PyData.eqv,c]
theorem rX:∀xs ys:List Int,kf (xs.map .int) (ys.map .int)=true
 |[],_=>by simp[kf]
 |_::_,[]=>by simp[kf]
 |x::xs,y::ys=>by simp[kf,o4,rX xs ys]
theorem Mj(l:List (Int×List Int)):mq (l.map aD):=mK (κ:=List Int) (key:=λp=>p.1::p.2) (λa b h=>List.lt_asymm h) (λa b c h1 h2=>List.not_lt.mpr (List.le_trans (List.not_lt.mp h1) (List.not_lt.mp h2))) FF (λs t=>by simp[aD,o4,kf,rX]) (.rows λd hd=>by obtain⟨w,_,rfl⟩:=List.mem_map.mp hd;exact⟨_,_,rfl⟩)
theorem tJ{K:PySem.W.Frag}{H:Hp}{n:Nat}{a:Addr}{xs:List Int}(h:ar K H a (xs.map V.int)):aQ K H (n+1) (.ref a) (.tuple (xs.map .int)):=by
 refine .tup h (by rw[List.length_map,List.length_map]) λi x d e1 e2=>?_;rw[List.getElem?_map]at e1 e2;cases e:xs[i]? with
 |none=>rw[e]at e1;cases e1
 |some o=>rw[e]at e1 e2;cases e1;cases e2;exact .int _
theorem Gy{K:PySem.W.Frag}{H:Hp}{n:Nat}{a b:Addr}{p:Int×List Int}(h:ar K H a [.int p.1,.ref b])(h2:ar K H b (p.2.map V.int)):aQ K H (n+2) (.ref a) (aD p):=by
 refine .tup h rfl λi x d hx hd=>?_
 match i,hx,hd with
 |0,hx,hd=>cases hx;cases hd;exact .int _
 |1,hx,hd=>cases hx;cases hd;exact tJ h2
 |i+2,hx,_=>simp at hx
def CF(ts:List T3)(x y:Int):List Int:=(ts.filter λt=>decide (t.1=(if y<x then y else x)/\t.2.1=(if y>x then y else x))).map (·.2.2)
theorem CG{ts:List T3}(td:uy ts)(x y:Int):(CF ts x y).head?=jS (bZ ts) [x,y]:=by
 have kn:=jT td;have mem:∀l,l∈CF ts x y↔([x,y],l)∈bZ ts:=λl=>by
  unfold CF;rw[List.mem_map,bB];constructor
  ·rintro⟨t,ht,rfl⟩;obtain⟨h1,h2⟩:=List.mem_filter.mp ht;have h2:t.1=(if y<x then y else x)/\t.2.1=(if y>x then y else x):=(by simpa using h2);refine⟨t,h1,?_⟩;have lt:=td.lt t h1;by_cases c:y<x
   ·rw[if_pos c,if_neg (by lia)]at h2;exact .inr (by rw[h2.1,h2.2])
   rw[if_neg c]at h2;by_cases c2:y>x
   ·rw[if_pos c2]at h2;exact .inl (by rw[h2.1,h2.2])
   rw[if_neg c2]at h2;lia
  rintro⟨t,ht,z⟩;have lt:=td.lt t ht;refine⟨t,List.mem_filter.mpr ⟨ht,?_⟩,?_⟩
  ·rcases z with z|z
   ·have e:=(Prod.mk.inj z).1;simp only[List.cons.injEq,and_true]at e;obtain⟨rfl,rfl⟩:=e;rw[if_neg (by lia),if_pos lt];simp
   have e:=(Prod.mk.inj z).1;simp only[List.cons.injEq,and_true]at e;obtain⟨rfl,rfl⟩:=e;rw[if_pos lt,if_neg (by lia)];simp
  rcases z with z|z<;>exact((Prod.mk.inj z).2).symm
 cases e:CF ts x y with
 |nil =>
  cases el:jS (bZ ts) [x,y]with
  |none=>rfl
  |some l =>
   have:=(mem l).mpr ((dY kn).mp el);rw[e]at this;exact absurd this List.not_mem_nil
 |cons l r =>
  have h1:=(mem l).mp (by rw[e];exact List.mem_cons_self);rw[(dY kn).mpr h1];rfl
def jc(K:PySem.W.Frag):Sp:=λvs H Q _=>∃(l wa:Addr)(ts:List T3)(ws:List Int),vs=[.ref l,.ref wa]/\n9 K H l ts/\uy ts/\ts.length<=60/\ar K H wa (ws.map V.int)/\ws.length<=1000/\∀H',aI H H'->Q (oV (jC (bZ ts) ws)) H'
theorem bY:aV ["wires","way","total","k","pair","found"] ["wires","way"] (aH cN):=⟨rfl,rfl,rfl,by decide +kernel,rfl,by decide +kernel,by decide +kernel⟩
set_option maxHeartbeats 2000000 in
theorem pY(F:aM K mg "_law_length" cN)(T:Txt K mg t):Def P w K mg base 1 "_law_length" ["wires","way"] (jc K):=by
 refine F.def bY (λ_ _ _ _ _ _ us hl=>match us,hl with|[_,_],_=>rfl) (λvs H Q E h=>?_) (λf bf A outer s H vs Q E hr h=>?_)
 ·obtain⟨l,wa,ts,ws,rfl,_⟩:=h;rfl
 obtain⟨l,wa,ts,ws,rfl,hl,td,tl,hw,wl,q⟩:=h;refine⟨_,aE (aY (i:=2) bY.nd rfl (Or.inl rfl) aG)
  (aE (PS.rj (bJ PassesOwn.never rfl (yh (by rfl) T.dP (aA aG (aA (aZ (bW K) (by rfl) T.jA boot_len (aA (pv 1) aC)) aC))) (aK (i:=3) bY.nd rfl (Or.inl rfl))
   (aE (aY (i:=4) bY.nd rfl (Or.inr rfl) (ak (aA (aZ (qk rfl) (by rfl) T.Bd boot_min (aA (aO (aT K) (pv 1) (ao rn (pv 3) aG) (λ_ _=>rfl)) (aA (aO (aT K) (pv 1) (pv 3) (λ_ _=>rfl)) aC))) (aA (aZ (mW rfl) (by rfl) T.Bc boot_max (aA (aO (aT K) (pv 1) (ao rn (pv 3) aG) (λ_ _=>rfl)) (aA (aO (aT K) (pv 1) (pv 3) (λ_ _=>rfl)) aC))) aC))))
   (aE (lb (i:=5) bY.nd rfl (Or.inl rfl) rfl (Nc:=["a","b","length","pair"]) (ix:=[none,none,none,some 4]) (cJ (aH cN) ["wires","way","total","k","pair","found"] rfl rfl (by decide +kernel)) (bC K (pv 0)) (λC fp s H=>⟨(DV K (n:=3) rfl (aU (aK (i:=0) (show(["a","b","length","pair"]:List Str).Nodup by decide +kernel) rfl (Or.inl rfl)) (aU (aK (i:=1) (show(["a","b","length","pair"]:List Str).Nodup by decide +kernel) rfl (Or.inl rfl)) (aU (aK (i:=2) (show(["a","b","length","pair"]:List Str).Nodup by decide +kernel) rfl (Or.inl rfl)) dM)))),(lZ (aW (oz K (df hr)) (ak (aA (pv 0) (aA (pv 1) aC))) (pv 3) (ah _))),(pv 2)⟩))
   (aE (a9 (aW (oz K (df hr)) (pv 5) (cB aC) (ah _))
    (aF (ab vS))
    (ae))
   (aF (aY (i:=2) bY.nd rfl (Or.inl rfl) (ao bK (pv 2) (aO (aN K) (pv 5) aG (λ_ _=>rfl))))))))))
  (aF (ab (pv 2)))),?_⟩
 have hsz:(20000:Nat)<=sizeLine:=by decide
 obtain⟨zs,z1,z2,z3⟩:=hl;have zl:zs.length=ts.length:=by rw[<-z3,List.length_map]
 refine⟨_,rfl,wa,_,rfl,.inr hw,_,_,rfl,by rw[List.length_map];lia,?_⟩
 let I:Nat->_->_->Prop:=λi σ H'=>∃(cb:Int)(v3 v4 v5:Option V),σ=[some (.ref l),some (.ref wa),some (.int cb),v3,v4,v5]/\aI H H'/\jC (bZ ts) ws=(jC (bZ ts) (ws.drop i)).map (cb+·)
 have hn:((((ws.map V.int).length:Nat):Int)-1).toNat=ws.length-1:=by rw[List.length_map];lia
 refine dD (lo:=1) (n:=((((ws.map V.int).length:Nat):Int)-1).toNat) I ⟨0,none,none,none,rfl,.refl _,by rw[List.drop_zero];cases jC (bZ ts) ws<;>simp⟩ ?_ ?_
 ·rintro i σ H1 hi ⟨cb,v3,v4,v5,rfl,s1,e1⟩;rw[hn]at hi;obtain⟨a,ea⟩:∃a,ws[i]?=some a:=⟨ws[i],by simp[show i<ws.length by lia]⟩;obtain⟨b,eb⟩:∃b,ws[i+1]?=some b:=⟨ws[i+1],by simp[show i+1<ws.length by lia]⟩;obtain⟨d1,d2⟩:=Jv ea eb;have N8:nQ (ws.map V.int) ((1+(i:Nat):Int)-1)=some (.int a):=by rw[show(1+(i:Nat):Int)-1=(i:Nat) by lia];exact bM (by rw[List.getElem?_map,ea];rfl)
  have N9:nQ (ws.map V.int) (1+(i:Nat):Int)=some (.int b):=by rw[show(1+(i:Nat):Int)=((i+1:Nat):Int) by lia];exact bM (by rw[List.getElem?_map,eb];rfl)
  have ED:=s1.tup hw;refine⟨_,rfl,_,rfl,_,_,rfl,rfl,wa,_,_,.int a,rfl,rfl,ED,N8,_,rfl,_,rfl,wa,_,_,.int b,rfl,rfl,ED,N9,_,_,rfl,?_⟩;refine⟨_,rfl,_,rfl,_,_,rfl,rfl,wa,_,_,.int a,rfl,rfl,ED,N8,_,rfl,_,rfl,wa,_,_,.int b,rfl,rfl,ED,N9,_,_,rfl,zz2,λpa QF=>?_⟩;have s2:=(aI.refl H1).new (o:=.tup [.int (if b<a then b else a),.int (if b>a then b else a)]) QF;have e2:ar K (upd H1 pa (.tup [.int (if b<a then b else a),.int (if b>a then b else a)])) pa [.int (if b<a then b else a),.int (if b>a then b else a)]:=ar.of aB;generalize upd H1 pa (.tup [.int (if b<a then b else a),.int (if b>a then b else a)])=H2 at s2 e2 ⊢;have S2:=s1.trans s2;refine⟨_,rfl,l,rfl,⟨_,af.of (S2 _ _ z1)⟩,λD hD=>?_⟩
  let J:Nat->_->_->Prop:=λj σ H'=>∃v0 v1 v2:Option V,σ=[v0,v1,v2,some (.ref pa)]/\aI H2 H'/\H' D=some (.lst ((CF (ts.take j) a b).map V.int))
  refine hX (K:=K) (a:=l) (xs:=zs.map (·.1)) J ⟨none,none,none,rfl,(aI.refl _).new hD,aB⟩ (λj σ H' _ ⟨_,_,_,_,s,_⟩=>af.of ((S2.trans s) _ _ z1)) ?_ ?_
  ·rintro j y σ H3 N hN hj ⟨v0,v1,v2,rfl,s3,e3⟩;rw[List.getElem?_map]at hj;cases ez:zs[j]? with
   |none=>rw[ez]at hj;cases hj
   |some zt =>
    rw[ez]at hj;obtain rfl:zt.1=y:=Option.some.inj hj;have et:ts[j]?=some zt.2:=(by rw[<-z3,List.getElem?_map,ez];rfl);have jl:j<ts.length:=(List.getElem?_eq_some_iff.mp et).1;obtain⟨za,Kn,g1⟩:=pR ((z2 zt (List.mem_of_getElem? ez)).same (S2.trans s3));refine⟨za,_,Kn,g1,rfl,_,_,rfl,_,_,rfl,_,_,rfl,rfl,?_⟩;refine⟨_,rfl,_,rfl,zz2,λtp qK=>?_⟩;have s4:=(aI.refl H3).new (o:=.tup [.int zt.2.1,.int zt.2.2.1]) qK;have e4:ar K (upd H3 tp (.tup [.int zt.2.1,.int zt.2.2.1])) tp [.int zt.2.1,.int zt.2.2.1]:=ar.of aB;generalize upd H3 tp (.tup [.int zt.2.1,.int zt.2.2.1])=H4 at s4 e4 ⊢;refine⟨_,rfl,.tuple [.int zt.2.1,.int zt.2.2.1],.tuple [.int (if b<a then b else a),.int (if b>a then b else a)],tE e4,tE ((s3.trans s4).tup e2),_,rfl,?_⟩;rw[if_neg (by decide),B6];have fl:((CF (ts.take j) a b).map V.int).length<=60:=by unfold CF;rw[List.length_map,List.length_map];refine Nat.le_trans (List.length_filter_le _ _) ?_;rw[List.length_take];lia
    by_cases c:zt.2.1=(if b<a then b else a)/\zt.2.2.1=(if b>a then b else a)
    ·refine dS c ?_;refine⟨_,rfl,_,s4 _ _ e3,by lia,hN _ _ ⟨_,_,_,rfl,(s3.trans s4).put hD,?_⟩⟩;rw[aB,take_succ et];unfold CF;rw[List.filter_append,List.filter_cons_of_pos (by simpa using c),List.filter_nil,List.map_append,List.map_append];rfl
    refine dR c (hN _ _ ⟨_,_,_,rfl,s3.trans s4,?_⟩);rw[s4 _ _ e3,take_succ et];unfold CF;rw[List.filter_append,List.filter_cons_of_neg (by simpa using c),List.filter_nil,List.append_nil]
  rintro σ H3 ⟨v0,v1,v2,rfl,s3,e3⟩;rw[List.length_map,zl,List.take_length]at e3;have fl:=CG td a b;refine⟨_,rfl,zz0,λel zW=>?_⟩;have s4:=(aI.refl H3).new (o:=.lst []) zW;have e4:af K (upd H3 el (.lst [])) el (([]:List Int).map V.int):=af.of aB;generalize upd H3 el (.lst [])=H4 at s4 e4 ⊢;have S4:=S2.trans (s3.trans s4);refine⟨.list ((CF ts a b).map .int),.list (([]:List Int).map .int),vD (af.of (s4 _ _ e3)),vD e4,_,rfl,?_⟩;rw[if_neg (by decide),CA];rw[d1,vB,<-fl]at e1;cases ef:CF ts a b with
  |nil =>
   refine dS rfl ?_;rw[ef]at e1;have:=q H4 S4;rw[e1]at this;exact this
  |cons x r =>
   refine dR (by intro z;cases z) ?_;rw[ef]at e1 e3;refine⟨_,rfl,_,rfl,D,_,_,.int x,rfl,rfl,af.of (s4 _ _ e3),(by have z:=bM (show((x::r).map V.int)[0]?=some (V.int x)from rfl);exact z),_,_,rfl,rfl,?_⟩;refine⟨_,_,_,_,rfl,S4,?_⟩;rw[e1,d2];show((jC (bZ ts) (b::ws.drop (i+2))).map (x+·)).map (cb+·)=_;rw[Option.map_map]
   congr 1
   funext z
   show cb+(x+z)=cb+x+z;lia
 rintro σ H1 ⟨cb,v3,v4,v5,rfl,s1,e1⟩;rw[hn]at e1;have ew:jC (bZ ts) (ws.drop (ws.length-1))=some 0:=by
  cases e:ws with
  |nil=>rw[List.drop_nil,jC];intro x y r z;cases z
  |cons x r =>
   have:ws.drop (ws.length-1)=[ws[ws.length-1]'(by rw[e];simp)]:=by rw[List.drop_eq_getElem_cons (by rw[e];simp),List.drop_eq_nil_of_le (by lia)]
   rw[<-e,this,vC]
 rw[ew]at e1;have:=q H1 s1;rw[e1]at this;have e:cb+0=cb:=by lia
 refine⟨_,rfl,?_⟩;show Q (.int cb) H1;rw[<-e];exact this
structure xE(ts:List T3)(one other:Int)(ns:List Int):Prop where
 r:CB ns
 o:one∈ns
 t:other∉ns
 e:∀t∈ts,(t.1∈ns↔t.2.1∈ns)
theorem xF{ts:List T3}{one other:Int}{ns:List Int}:xE ts one other ns↔rS (bZ ts) one other ns:=by
 constructor
 ·rintro⟨h1,h2,h3,h4⟩;refine⟨h1,h2,h3,λa b l he ha=>?_⟩;obtain⟨t,ht,z⟩:=bB.mp he;rcases z with z|z
  ·have e:=(Prod.mk.inj z).1;simp only[List.cons.injEq,and_true]at e;obtain⟨rfl,rfl⟩:=e;exact(h4 t ht).mp ha
  have e:=(Prod.mk.inj z).1;simp only[List.cons.injEq,and_true]at e;obtain⟨rfl,rfl⟩:=e;exact(h4 t ht).mpr ha
 rintro⟨h1,h2,h3,h4⟩;exact⟨h1,h2,h3,λt ht=>⟨h4 t.1 t.2.1 t.2.2 (bB.mpr ⟨t,ht,.inl rfl⟩),h4 t.2.1 t.1 t.2.2 (bB.mpr ⟨t,ht,.inr rfl⟩)⟩⟩
theorem zy{ns:List Int}{i:Nat}{n:Int}(e:ns[i]?=some n):CB (ns.take (i+1))↔CB (ns.take i)/\(0<=n/\n<32)/\∀m,0<i->ns[i-1]?=some m->m<n:=by
 rw[take_succ e];constructor
 ·rintro⟨r,h⟩;obtain⟨r1,_,r3⟩:=List.pairwise_append.mp r;refine⟨⟨r1,λx hx=>h x (List.mem_append_left _ hx)⟩,h n (List.mem_append_right _ (List.mem_singleton.mpr rfl)),λm i0 hm=>?_⟩;refine r3 m (List.mem_of_getElem? (i:=i-1) ?_) n (List.mem_singleton.mpr rfl);rw[List.getElem?_take_of_lt (by lia)];exact hm
 rintro⟨⟨r,h⟩,hn,hm⟩;refine⟨List.pairwise_append.mpr ⟨r,by simp,λa ha b hb=>?_⟩,λx hx=>?_⟩
 ·rw[List.mem_singleton.mp hb];obtain⟨k,hk,rfl⟩:=List.getElem_of_mem ha;rw[List.length_take]at hk;have il:i<ns.length:=(List.getElem?_eq_some_iff.mp e).1;have i0:0<i:=by lia
  have el:ns[i-1]?=some (ns[i-1]'(by lia)):=by simp[show i-1<ns.length by lia]
  have:=hm _ i0 el;rw[List.getElem_take];rcases Nat.lt_or_eq_of_le (show k<=i-1 by lia)with c|c
  ·have z:=List.pairwise_iff_getElem.mp r k (i-1) (by rw[List.length_take];lia) (by rw[List.length_take];lia) c;rw[List.getElem_take,List.getElem_take]at z;lia
  subst c;exact this
 rcases List.mem_append.mp hx with z|z
 ·exact h x z
 rw[List.mem_singleton.mp z];exact hn
def fL(K:PySem.W.Frag):Sp:=λvs H Q _=>∃(l sd:Addr)(one other:Int)(ts:List T3)(ns:List Int),vs=[.ref l,.int one,.int other,.ref sd]/\n9 K H l ts/\ts.length<=60/\ar K H sd (ns.map V.int)/\ns.length<=1000/\∀(b:Bool)(H':Hp),aI H H'->(b=true↔xE ts one other ns)->Q (.bl b) H'
theorem fM:aV ["wires","one","other","side","k"] ["wires","one","other","side"] (aH bO):=⟨rfl,rfl,rfl,by decide +kernel,rfl,by decide +kernel,by decide +kernel⟩
set_option maxHeartbeats 2000000 in
theorem k9(F:aM K mg "_law_side_right" bO)(T:Txt K mg t):Def P w K mg base 1 "_law_side_right" ["wires","one","other","side"] (fL K):=by
 refine F.def fM (λ_ _ _ _ _ _ us hl=>match us,hl with|[_,_,_,_],_=>rfl) (λvs H Q E h=>?_) (λf bf A outer s H vs Q E hr h=>?_)
 ·obtain⟨l,sd,one,other,ts,ns,rfl,_⟩:=h;rfl
 obtain⟨l,sd,one,other,ts,ns,rfl,hl,tl,hs,nl,q⟩:=h;refine⟨_,aE (PS.rj (bJ PassesOwn.never rfl (cC (by rfl) T.dP (aA (aZ (bW K) (by rfl) T.jA boot_len (aA (pv 3) aC)) aC)) (aK (i:=4) fM.nd rfl (Or.inl rfl))
   (aF (a9 (PW.pt (kB (aW lT (aO (aT K) (pv 3) (pv 4) (λ_ _=>rfl)) aG (ah _)) (kB (aW oU (aO (aT K) (pv 3) (pv 4) (λ_ _=>rfl)) aG (ah _)) (kR (PW.pt (kS (aW oU (pv 4) aG (ah _)) (jv (aW xk (aO (aT K) (pv 3) (pv 4) (λ_ _=>rfl)) (aO (aT K) (pv 3) (ao rn (pv 4) aG) (λ_ _=>rfl)) (ah _)))))))))
    (aF (ab gg))
    (ae)))))
  (aE (a9 (PW.pt (kB (aW (kE K) (pv 1) (pv 3) (by rfl)) (kR (aW (ke K) (pv 2) (pv 3) (by rfl)))))
   (aF (ab gg))
   (ae))
  (aF (ab (fb (xt K (df hr)) (i9 rfl (Nc:=["wire","side"]) (ix:=[none,some 3]) (cJ (aH bO) ["wires","one","other","side","k"] rfl rfl (by decide +kernel)) (bC K (pv 0)) (λC fp s H=>⟨(aK (i:=0) (show(["wire","side"]:List Str).Nodup by decide +kernel) rfl (Or.inl rfl)),(lZ (aW uA (fb (ke K) (aO (aT K) (pv 0) aG (λ_ _=>rfl)) (pv 1) (by rfl)) (fb (ke K) (aO (aT K) (pv 0) aG (λ_ _=>rfl)) (pv 1) (by rfl)) (ah _))),(pv 0)⟩)) (cB aC) (ah _))))),?_⟩
 have hsz:(20000:Nat)<=sizeLine:=by decide
 have no:∀{H':Hp},aI H H'->¬xE ts one other ns->Q (.bl false) H':=λs h=>q false _ s ⟨λz=>(by cases z),λz=>absurd z h⟩;refine⟨_,rfl,sd,_,rfl,.inr hs,_,rfl,by rw[List.length_map];lia,by rw[List.length_map];lia,?_⟩;have hn:(((ns.map V.int).length:Nat):Int).toNat=ns.length:=by rw[List.length_map];lia
 refine dD (lo:=0) (n:=(((ns.map V.int).length:Nat):Int).toNat) (λi σ H'=>H'=H/\(∃v:Option V,σ=[some (.ref l),some (.int one),some (.int other),some (.ref sd),v])/\CB (ns.take i)) ⟨rfl,⟨none,rfl⟩,by rw[List.take_zero];exact⟨.nil,λn hn=>absurd hn List.not_mem_nil⟩⟩ ?_ ?_
 ·rintro i σ H1 hi ⟨eH,⟨v,rfl⟩,ri⟩;subst eH;rw[hn]at hi;obtain⟨n,en⟩:∃n,ns[i]?=some n:=⟨ns[i],by simp[hi]⟩;have Ml:nQ (ns.map V.int) (0+(i:Nat):Int)=some (.int n):=by rw[show(0+(i:Nat):Int)=(i:Nat) by lia];exact bM (by rw[List.getElem?_map,en];rfl)
  have sn:=zy en;have bad:¬((0<=n/\n<32)/\∀m,0<i->ns[i-1]?=some m->m<n)->Q (.bl false) H1:=λh=>no (.refl _) λz=>h (sn.mp ⟨z.r.r.sublist (List.take_sublist _ _),λx hx=>z.r.h x (List.mem_of_mem_take hx)⟩).2;refine⟨_,rfl,_,rfl,sd,_,_,.int n,rfl,rfl,hs,Ml,_,_,rfl,rfl,_,rfl,?_⟩;by_cases c1:n<0
  ·exact dS c1 (bad λh=>by have:=h.1.1;lia)
  refine dR c1 ?_;refine⟨_,rfl,_,rfl,sd,_,_,.int n,rfl,rfl,hs,Ml,_,_,rfl,rfl,_,rfl,?_⟩;by_cases c2:n>31
  ·exact dS c2 (bad λh=>by have:=h.1.2;lia)
  refine dR c2 ?_;refine⟨_,rfl,_,_,rfl,rfl,_,rfl,?_⟩;by_cases c3:(0+(i:Nat):Int)>0
  ·refine dS c3 ?_;have i0:0<i:=(by lia);obtain⟨m,em⟩:∃m,ns[i-1]?=some m:=⟨ns[i-1]'(by lia),by simp[show i-1<ns.length by lia]⟩;have QG:nQ (ns.map V.int) ((0+(i:Nat):Int)-1)=some (.int m):=by rw[show(0+(i:Nat):Int)-1=((i-1:Nat):Int) by lia];exact bM (by rw[List.getElem?_map,em];rfl)
   refine⟨_,rfl,_,rfl,sd,_,_,.int n,rfl,rfl,hs,Ml,_,rfl,_,rfl,_,_,rfl,rfl,sd,_,_,.int m,rfl,rfl,hs,QG,_,_,rfl,rfl,_,rfl,?_⟩;by_cases c4:n<=m
   ·exact dS c4 (bad λh=>by have:=h.2 m i0 em;lia)
   exact dR c4 ⟨rfl,⟨_,rfl⟩,sn.mpr ⟨ri,⟨by lia,by lia⟩,λm' _ h'=>by rw[em]at h';cases h';lia⟩⟩
  exact dR c3 ⟨rfl,⟨_,rfl⟩,sn.mpr ⟨ri,⟨by lia,by lia⟩,λm' h0=>by lia⟩⟩
 rintro σ H1 ⟨eH,⟨v,rfl⟩,ri⟩;subst eH;rw[hn,List.take_length]at ri;refine⟨_,rfl,_,rfl,sd,_,rfl,.inr hs,rfl,eV _,_,rfl,?_⟩;refine(show if(!Cg (.int one) (ns.map V.int))=true then _ else _ from ?_);rw[gp];by_cases c1:one∈ns
 ·refine nR c1 ?_;refine⟨_,rfl,_,rfl,sd,_,rfl,.inr hs,rfl,eV _,_,rfl,?_⟩;refine(show if(Cg (.int other) (ns.map V.int))=true then _ else _ from ?_);rw[gp];by_cases c2:other∈ns
  ·exact dS c2 (no (.refl _) λz=>z.t c2)
  refine dR c2 ?_;obtain⟨zs,z1,z2,z3⟩:=hl;have zl:zs.length=ts.length:=by rw[<-z3,List.length_map]
  refine⟨_,rfl,l,rfl,⟨_,af.of z1⟩,λD hD=>?_⟩
  let J:Nat->_->_->Prop:=λi σ H'=>∃(v:Option V)(ys:List (V×T3)),σ=[v,some (.ref sd)]/\aI H1 H'/\H' D=some (.lst (ys.map (·.1)))/\ys=(zs.take i).filter λz=>decide (¬(z.2.1∈ns↔z.2.2.1∈ns))
  refine hX (K:=K) (a:=l) (xs:=zs.map (·.1)) J ⟨none,[],rfl,(aI.refl _).new hD,aB,rfl⟩ (λi σ H' _ ⟨_,_,_,s,_⟩=>af.of (s _ _ z1)) ?_ ?_
  ·rintro i y σ H2 N hN hi ⟨v,ys,rfl,s2,e2,ey⟩;rw[List.getElem?_map]at hi;cases ez:zs[i]? with
   |none=>rw[ez]at hi;cases hi
   |some zt =>
    rw[ez]at hi;obtain rfl:zt.1=y:=Option.some.inj hi;have il:i<ts.length:=(by rw[<-zl];exact(List.getElem?_eq_some_iff.mp ez).1);obtain⟨za,Kn,g1⟩:=pR ((z2 zt (List.mem_of_getElem? ez)).same s2);have yk:=s2.tup hs;have yl:ys.length<=60:=by rw[ey];refine Nat.le_trans (List.length_filter_le _ _) ?_;rw[List.length_take];lia
    refine⟨_,rfl,za,_,_,.int zt.2.1,Kn,rfl,g1,rfl,_,rfl,sd,_,rfl,.inr yk,rfl,eV _,?_⟩;refine⟨_,rfl,za,_,_,.int zt.2.2.1,Kn,rfl,g1,rfl,_,rfl,sd,_,rfl,.inr yk,rfl,eV _,rfl,_,rfl,?_⟩;refine(show if(!decide (V.bl (Cg (.int zt.2.1) (ns.map V.int))=V.bl (Cg (.int zt.2.2.1) (ns.map V.int))))=true then _ else _ from ?_);rw[gp,gp];have bi:∀{p q:Prop}[Decidable p][Decidable q],(V.bl (decide p)=V.bl (decide q))↔(p↔q):=λ{p q} _ _=>by
     constructor
     ·intro h;have:=V.bl.inj h;constructor
      ·intro hp;rw[decide_eq_true hp]at this;exact of_decide_eq_true this.symm
      intro hq;rw[decide_eq_true hq]at this;exact of_decide_eq_true this
     intro h
     congr 1
     by_cases hp:p
     ·rw[decide_eq_true hp,decide_eq_true (h.mp hp)]
     rw[decide_eq_false hp,decide_eq_false λz=>hp (h.mpr z)]
    by_cases c:(zt.2.1∈ns↔zt.2.2.1∈ns)
    ·refine nR (bi.mpr c) (hN _ _ ⟨_,ys,rfl,s2,e2,?_⟩);rw[ey,take_succ ez,List.filter_append,List.filter_cons_of_neg (by simp[c]),List.filter_nil,List.append_nil]
    refine qz (λz=>c (bi.mp z)) ?_;refine⟨_,rfl,_,e2,by rw[List.length_map];lia,hN _ _ ⟨_,ys++[zt],rfl,s2.put hD,by rw[aB,List.map_append];rfl,?_⟩⟩;rw[ey,take_succ ez,List.filter_append,List.filter_cons_of_pos (by simpa using c),List.filter_nil]
  rintro σ H2 ⟨v,ys,rfl,s2,e2,ey⟩;rw[List.length_map,List.take_length]at ey;refine⟨zz0,λel zW=>?_⟩;have s3:=(aI.refl H2).new (o:=.lst []) zW;have e3:(upd H2 el (.lst [])) el=some (.lst []):=aB;generalize upd H2 el (.lst [])=H3 at s3 e3 ⊢;have S3:=s2.trans s3;have Jw:ys=[]↔∀t∈ts,(t.1∈ns↔t.2.1∈ns):=by
   rw[ey,List.filter_eq_nil_iff];constructor
   ·intro h t ht;rw[<-z3]at ht;obtain⟨z,hz,rfl⟩:=List.mem_map.mp ht;have:=h z hz
    simpa using this
   intro h z hz;have:=h z.2 (by rw[<-z3];exact List.mem_map.mpr ⟨z,hz,rfl⟩)
   simpa using this
  by_cases c:ys=[]
  ·have c':=c;refine⟨D,el,_,_,rfl,rfl,af.of (s3 _ _ e2),af.of e3,.inl ⟨by rw[c];rfl,λj u v hu hv=>(by cases hv),?_⟩⟩;exact q _ H3 S3 ⟨λ_=>⟨ri,c1,c2,Jw.mp c⟩,λ_=>rfl⟩
  refine⟨D,el,_,_,rfl,rfl,af.of (s3 _ _ e2),af.of e3,.inr ⟨λz=>c (by rw[List.length_map]at z;exact List.length_eq_zero_iff.mp z),?_⟩⟩;exact no S3 λz=>c (Jw.mpr z.e)
 exact qz c1 (no (.refl _) λz=>c1 z.o)
inductive FG(L:List (Tk×Int))(goal:Int):Nat->Int->Int->Prop
 |nil {k:Nat}:FG L goal k goal 0
 |cons {k:Nat} {x e l s:Int}:([x,e],l)∈L->FG L goal k e s->FG L goal (k+1) x (l+s)
structure tK(L:List (Tk×Int))(goal:Int)(fv:Hv):Prop where
 nd:(fv.map (·.1)).Nodup
 w:∀x n,lk fv x=some n->Wk L goal x n
def CH(f f':Hv):Prop:=∀x n,lk f x=some n->∃m,lk f' x=some m/\m<=n
theorem CH.refl(f:Hv):CH f f:=λ_ n h=>⟨n,h,Int.le_refl _⟩
theorem CH.trans{f g h:Hv}(a:CH f g)(b:CH g h):CH f h:=λx n e=>by obtain⟨m,e1,l1⟩:=a x n e;obtain⟨k,e2,l2⟩:=b x m e1;exact⟨k,e2,by lia⟩
def CI(L:List (Tk×Int))(goal:Int)(k:Nat)(fv:Hv):Prop:=∀x s,FG L goal k x s->∃n,lk fv x=some n/\n<=s
def CJ(t:T3):List T3:=[(t.1,t.2.1,t.2.2),(t.2.1,t.1,t.2.2)]
def HR(f f':Hv)(es:List T3):Prop:=∀p∈es,∀n,lk f p.1=some n->∃m,lk f' p.2.1=some m/\m<=n+p.2.2
theorem HR.le{f g h:Hv}{es:List T3}(r:HR f g es)(l:CH g h):HR f h es:=λp hp n e=>by obtain⟨m,e1,l1⟩:=r p hp n e;obtain⟨k,e2,l2⟩:=l _ _ e1;exact⟨k,e2,by lia⟩
theorem z5(L:List (Tk×Int))(goal:Int):tK L goal [(goal,0)]/\CI L goal 0 [(goal,0)]:=by
 refine⟨⟨by simp,λx n h=>?_⟩,λx s w=>?_⟩
 ·unfold lk at h;simp only[List.find?_cons,List.find?_nil]at h;by_cases c:goal=x
  ·subst c;simp at h;subst h;exact .nil
  simp[c]at h
 cases w;exact⟨0,by simp[lk],Int.le_refl _⟩
theorem EE{L:List (Tk×Int)}{goal one other n l:Int}{fv:Hv}(h:tK L goal fv)(he:([other,one],l)∈L)(e:lk fv one=some n):let v:=if n+l<(lk fv other).getD (n+l)then n+l else(lk fv other).getD (n+l);tK L goal (jU fv other v)/\CH fv (jU fv other v)/\∃m,lk (jU fv other v) other=some m/\m<=n+l:=by
 intro v;have hw:Wk L goal other (n+l):=by have:=Wk.cons he (h.w _ _ e);rw[Int.add_comm]at this;exact this
 have QH:v<=n+l:=by show(if n+l<(lk fv other).getD (n+l)then n+l else(lk fv other).getD (n+l))<=n+l;split<;>lia
 have vw:Wk L goal other v:=by
  show Wk L goal other (if n+l<(lk fv other).getD (n+l)then n+l else(lk fv other).getD (n+l));split
  ·exact hw
  cases e2:lk fv other with
  |none=>exact hw
  |some m=>exact h.w _ _ e2
 refine⟨⟨rM h.nd _ _,λx m hx=>?_⟩,λx m hx=>?_,v,by rw[dH,if_pos rfl],QH⟩
 ·rw[dH]at hx;split at hx
  ·rename_i c;cases hx;rw[c];exact vw
  exact h.w _ _ hx
 rw[dH];split
 ·rename_i c;subst c;refine⟨v,rfl,?_⟩;show(if n+l<(lk fv x).getD (n+l)then n+l else(lk fv x).getD (n+l))<=m;rw[hx];show(if n+l<m then n+l else m)<=m;split<;>lia
 exact⟨m,hx,Int.le_refl _⟩
theorem z6{ts:List T3}{goal:Int}{k:Nat}{f g:Hv}(c:CI (bZ ts) goal k f)(l:CH f g)(r:HR f g (ts.flatMap CJ)):CI (bZ ts) goal (k+1) g:=λx s w=>by
 cases w with
 |nil =>
  obtain⟨n,e,h⟩:=c goal 0 .nil;obtain⟨m,e2,h2⟩:=l _ _ e;exact⟨m,e2,by lia⟩
 |@cons _ x e l' s' he w =>
  obtain⟨n,e1,h⟩:=c e s' w;obtain⟨t,ht,z⟩:=bB.mp he;have:(e,x,l')∈ts.flatMap CJ:=by
   refine List.mem_flatMap.mpr ⟨t,ht,?_⟩;unfold CJ;rcases z with z|z
   ·have z1:=(Prod.mk.inj z).1;simp only[List.cons.injEq,and_true]at z1;obtain⟨rfl,rfl⟩:=z1;rw[(Prod.mk.inj z).2];simp
   have z1:=(Prod.mk.inj z).1;simp only[List.cons.injEq,and_true]at z1;obtain⟨rfl,rfl⟩:=z1;rw[(Prod.mk.inj z).2];simp
  obtain⟨m,e2,h2⟩:=r _ this n e1;have h2:m<=n+l':=h2;exact⟨m,e2,by lia⟩
theorem FG.mono{L:List (Tk×Int)}{goal:Int}{k:Nat}{x s:Int}(w:FG L goal k x s):∀{m:Nat},k<=m->FG L goal m x s:=by
 induction w with
 |nil=>exact λ_=>.nil
 |cons h _ ih =>
  intro m hm;obtain⟨j,rfl⟩:∃j,m=j+1:=⟨m-1,by lia⟩;exact .cons h (ih (by lia))
theorem Wl.QI{L:List (Tk×Int)}{goal x s:Int}{ws:List Int}(h:Wl L goal x ws s):∃k,ws.length=k+1/\FG L goal k x s:=by
 induction h with
 |done=>exact⟨0,rfl,.nil⟩
 |step h1 _ ih =>
  obtain⟨k,e,w⟩:=ih;exact⟨k+1,by rw[List.length_cons,e],.cons h1 w⟩
theorem Wk.simple{L:List (Tk×Int)}(pos:∀e∈L,1<=e.2){goal x s:Int}(w:Wk L goal x s):∃ws r,Wl L goal x ws r/\r<=s/\ws.Nodup:=by
 induction w with
 |nil=>exact⟨_,0,.done,Int.le_refl _,by simp⟩
 |@cons x e l s he _ ih =>
  obtain⟨ws,r,w,h,nd⟩:=ih;have l1:1<=l:=pos _ he;by_cases c:x∈ws
  ·
   have:∀{y t:Int}{vs:List Int},Wl L goal y vs t->vs.Nodup->x∈vs->∃us r,Wl L goal x us r/\r<=t/\us.Nodup:=by
    intro y t vs w
    induction w with
    |done=>intro nd hx;rw[List.mem_singleton.mp hx];exact⟨_,0,.done,Int.le_refl _,by simp⟩
    |@step y e' l' s' vs h1 w ih =>
     intro nd hx;rcases List.mem_cons.mp hx with rfl|hx
     ·exact⟨_,_,.step h1 w,Int.le_refl _,nd⟩
     obtain⟨us,r,a,b,c⟩:=ih (List.nodup_cons.mp nd).2 hx;have:1<=l':=pos _ h1;exact⟨us,r,a,by lia,c⟩
   obtain⟨us,r',a,b,d⟩:=this w nd c;exact⟨us,r',a,by lia,d⟩
  exact⟨_,_,.step he w,by lia,List.nodup_cons.mpr ⟨c,nd⟩⟩
structure EF(L:List (Tk×Int))(goal:Int)(fv:Hv):Prop where
 nd:(fv.map (·.1)).Nodup
 w:∀x n,lk fv x=some n->Wk L goal x n
 le:∀x s,Wk L goal x s->∃n,lk fv x=some n/\n<=s
theorem EG{ts:List T3}{goal:Int}{fv:Hv}{eX:List Int}(pos:∀t∈ts,1<=t.2.2)(h6:eX.length=6)(en:∀t∈ts,t.1∈eX/\t.2.1∈eX)(s:tK (bZ ts) goal fv)(c:CI (bZ ts) goal 6 fv):EF (bZ ts) goal fv:=by
 refine⟨s.nd,s.w,λx r w=>?_⟩;have pe:∀e∈bZ ts,1<=e.2:=λe he=>by obtain⟨t,ht,z⟩:=bB.mp he;rcases z with rfl|rfl<;>exact pos t ht
 obtain⟨ws,r',wl,h,nd⟩:=w.simple pe;obtain⟨k,el,wn⟩:=wl.QI;have:ws.length<=7:=by
  have:=cQ (x::eX) ws nd λy hy=>by
   rcases wl.all y hy with rfl|⟨t,ht,rfl|rfl⟩
   ·exact List.mem_cons_self
   ·exact List.mem_cons_of_mem _ (en t ht).1
   exact List.mem_cons_of_mem _ (en t ht).2
  rw[List.length_cons,h6]at this;exact this
 obtain⟨n,e,hn⟩:=c x r' (wn.mono (by lia));exact⟨n,e,by lia⟩
theorem tK.AL{ts:List T3}{goal:Int}{fv:Hv}(s:tK (bZ ts) goal fv){eX:List Int}(h6:eX.length=6)(en:∀t∈ts,t.1∈eX/\t.2.1∈eX):fv.length<=7:=by
 have:=cQ (goal::eX) (fv.map (·.1)) s.nd λx hx=>by
  obtain⟨n,e⟩:=yU hx;have w:=s.w x n e;cases w with
  |nil=>exact List.mem_cons_self
  |cons h _ =>
   obtain⟨t,ht,z⟩:=bB.mp h;rcases z with z|z
   ·have z1:=(Prod.mk.inj z).1;simp only[List.cons.injEq,and_true]at z1;rw[z1.1];exact List.mem_cons_of_mem _ (en t ht).1
   have z1:=(Prod.mk.inj z).1;simp only[List.cons.injEq,and_true]at z1;rw[z1.1];exact List.mem_cons_of_mem _ (en t ht).2
 rw[List.length_map,List.length_cons,h6]at this;exact this
def nz(K:PySem.W.Frag):Sp:=λvs H Q _=>∃(l:Addr)(goal:Int)(ts:List T3)(eX:List Int),vs=[.ref l,.int goal]/\n9 K H l ts/\(∀t∈ts,1<=t.2.2)/\eX.length=6/\(∀t∈ts,t.1∈eX/\t.2.1∈eX)/\∀(fd:Addr)(H':Hp)(fv:Hv),aI H H'->H fd=none->H' fd=some (.dK (fv.map gx))->EF (bZ ts) goal fv->fv.length<=7->Q (.ref fd) H'
theorem bj:aV ["wires","goal","far","turn","a","b","length","one","other","near"] ["wires","goal"] (aH iI):=⟨rfl,rfl,rfl,by decide +kernel,rfl,by decide +kernel,by decide +kernel⟩
set_option maxHeartbeats 2000000 in
theorem vF(F:aM K mg "_law_far" iI)(T:Txt K mg t):Def P w K mg base 1 "_law_far" ["wires","goal"] (nz K):=by
 refine F.def bj (λ_ _ _ _ _ _ us hl=>match us,hl with|[_,_],_=>rfl) (λvs H Q E h=>?_) (λf bf A outer s H vs Q E hr h=>?_)
 ·obtain⟨l,goal,ts,eX,rfl,_⟩:=h;rfl
 obtain⟨l,goal,ts,eX,rfl,hl,pos,h6,en,q⟩:=h;refine⟨_,aE (aY (i:=2) bj.nd rfl (Or.inl rfl) (u0 (pv 1) aG))
  (aE (PS.rj (bJ PassesOwn.never rfl (cC (by rfl) T.dP (aA aG aC)) (aK (i:=3) bj.nd rfl (Or.inl rfl))
   (aF (bJ PassesOwn.never rfl (bC K (pv 0)) (hE rfl (aU (aK (i:=4) bj.nd rfl (Or.inl rfl)) (aU (aK (i:=5) bj.nd rfl (Or.inl rfl)) (aU (aK (i:=6) bj.nd rfl (Or.inl rfl)) dM))))
    (aF (bJ PassesOwn.never rfl (bC K (cB (aA (ak (aA (pv 4) (aA (pv 5) aC))) (aA (ak (aA (pv 5) (aA (pv 4) aC))) aC)))) (lh K (i:=7) (j:=8) rfl bj.nd rfl rfl (Or.inl rfl) (Or.inl rfl))
     (aE (aY (i:=9) bj.nd rfl (Or.inl rfl) (A4 (b9 hr) (pv 2) (pv 7) ⟨rfl,rfl,rfl,rfl⟩))
     (aF (a9 (aW Cs (pv 9) vS (ah _))
      (aF (iA (b9 hr) (pv 2) (pv 8) (aZ (qk rfl) (by rfl) T.Bd boot_min (aA (A5 (b9 hr) (pv 2) (pv 8) (ao bK (pv 9) (pv 6)) ⟨rfl,rfl,rfl,rfl⟩) (aA (ao bK (pv 9) (pv 6)) aC))) (by rfl)))
      (ae))))))))))
  (aF (ab (pv 2)))),?_⟩
 have hsz:(20000:Nat)<=sizeLine:=by decide
 obtain⟨zs,z1,z2,z3⟩:=hl;have zl:zs.length=ts.length:=by rw[<-z3,List.length_map]
 obtain⟨Df,qE⟩:=z5 (bZ ts) goal;refine λfd Ko=>⟨_,rfl,aB,[(Sum.inl goal,.int 0)],rfl,by show 1<=15;decide,?_⟩;have s1:aI H (upd (upd H fd (.dK [])) fd (.dK (fB [] [(Sum.inl goal,V.int 0)]))):=((aI.refl H).new Ko).put Ko;have e1:(upd (upd H fd (.dK [])) fd (.dK (fB [] [(Sum.inl goal,V.int 0)]))) fd=some (.dK ([(goal,(0:Int))].map gx)):=aB;generalize upd (upd H fd (.dK [])) fd (.dK (fB [] [(Sum.inl goal,V.int 0)]))=H1 at s1 e1 ⊢
 let A:Nat->_->_->Prop:=λk σ H'=>∃(fv:Hv)(v3 v4 v5 v6 v7 v8 v9:Option V),σ=[some (.ref l),some (.int goal),some (.ref fd),v3,v4,v5,v6,v7,v8,v9]/\aI H H'/\H' fd=some (.dK (fv.map gx))/\tK (bZ ts) goal fv/\CI (bZ ts) goal k fv
 refine⟨6,rfl,by decide,by decide,?_⟩;refine dD (lo:=0) (n:=6) A ⟨_,none,none,none,none,none,none,none,rfl,s1,e1,Df,qE⟩ ?_ ?_
 ·rintro k σ H2 hk ⟨f0,v3,v4,v5,v6,v7,v8,v9,rfl,s2,e2,fs,fc⟩
  let B:Nat->_->_->Prop:=λi σ H'=>∃(fv:Hv)(v4 v5 v6 v7 v8 v9:Option V),σ=[some (.ref l),some (.int goal),some (.ref fd),some (.int (0+(k:Nat))),v4,v5,v6,v7,v8,v9]/\aI H H'/\H' fd=some (.dK (fv.map gx))/\tK (bZ ts) goal fv/\CH f0 fv/\HR f0 fv ((ts.take i).flatMap CJ)
  refine⟨_,rfl,l,rfl,⟨_,af.of (s2 _ _ z1)⟩,cM (K:=K) (a:=l) (xs:=zs.map (·.1)) B ⟨f0,_,_,_,_,_,_,rfl,s2,e2,fs,.refl _,λp hp=>by rw[List.take_zero]at hp;exact absurd hp List.not_mem_nil⟩ (λi σ H' _ ⟨_,_,_,_,_,_,_,_,s,_⟩=>af.of (s _ _ z1)) ?_ ?_⟩
  ·rintro i y σ H3 hi ⟨fv,v4,v5,v6,v7,v8,v9,rfl,s3,e3,Mm,Mn,Kp⟩;rw[List.getElem?_map]at hi;cases ez:zs[i]? with
   |none=>rw[ez]at hi;cases hi
   |some zt =>
    rw[ez]at hi;obtain rfl:zt.1=y:=Option.some.inj hi;have et:ts[i]?=some zt.2:=(by rw[<-z3,List.getElem?_map,ez];rfl);have mt:=List.mem_of_getElem? et;obtain⟨za,ea,g1⟩:=pR ((z2 zt (List.mem_of_getElem? ez)).same s3);refine⟨za,_,ea,g1,rfl,_,_,rfl,_,_,rfl,_,_,rfl,rfl,?_⟩;refine⟨_,rfl,_,rfl,zz2,λt1 Ju=>⟨_,rfl,_,rfl,zz2,λt2 Eo=>⟨zz2,λil Me=>?_⟩⟩⟩;have u1:=(aI.refl H3).new (o:=.tup [.int zt.2.1,.int zt.2.2.1]) Ju;have u2:=(aI.refl (upd H3 t1 (.tup [.int zt.2.1,.int zt.2.2.1]))).new (o:=.tup [.int zt.2.2.1,.int zt.2.1]) Eo;have u3:=(aI.refl (upd (upd H3 t1 (.tup [.int zt.2.1,.int zt.2.2.1])) t2 (.tup [.int zt.2.2.1,.int zt.2.1]))).new (o:=.lst [.ref t1,.ref t2]) Me;have a1:ar K (upd (upd (upd H3 t1 (.tup [.int zt.2.1,.int zt.2.2.1])) t2 (.tup [.int zt.2.2.1,.int zt.2.1])) il (.lst [.ref t1,.ref t2])) t1 [.int zt.2.1,.int zt.2.2.1]:=(u2.trans u3).tup (ar.of aB);have a2:ar K (upd (upd (upd H3 t1 (.tup [.int zt.2.1,.int zt.2.2.1])) t2 (.tup [.int zt.2.2.1,.int zt.2.1])) il (.lst [.ref t1,.ref t2])) t2 [.int zt.2.2.1,.int zt.2.1]:=u3.tup (ar.of aB);have a3:(upd (upd (upd H3 t1 (.tup [.int zt.2.1,.int zt.2.2.1])) t2 (.tup [.int zt.2.2.1,.int zt.2.1])) il (.lst [.ref t1,.ref t2])) il=some (.lst [.ref t1,.ref t2]):=aB;have u:=u1.trans (u2.trans u3);generalize upd (upd (upd H3 t1 (.tup [.int zt.2.1,.int zt.2.2.1])) t2 (.tup [.int zt.2.2.1,.int zt.2.1])) il (.lst [.ref t1,.ref t2])=H4 at u a1 a2 a3 ⊢;have e4:=u _ _ e3;have Mo:il≠fd:=kA a3 e4 (by intro z;cases z)
    let J:Nat->_->_->Prop:=λj σ H'=>∃(fv:Hv)(v7 v8 v9:Option V),σ=[some (.ref l),some (.int goal),some (.ref fd),some (.int (0+(k:Nat))),some (.int zt.2.1),some (.int zt.2.2.1),some (.int zt.2.2.2),v7,v8,v9]/\aI H H'/\H' fd=some (.dK (fv.map gx))/\H' il=some (.lst [.ref t1,.ref t2])/\ar K H' t1 [.int zt.2.1,.int zt.2.2.1]/\ar K H' t2 [.int zt.2.2.1,.int zt.2.1]/\tK (bZ ts) goal fv/\CH f0 fv/\HR f0 fv ((ts.take i).flatMap CJ++(CJ zt.2).take j)
    refine⟨il,rfl,⟨_,af.of a3⟩,cM (K:=K) (a:=il) (xs:=[.ref t1,.ref t2]) J ⟨fv,_,_,_,rfl,s3.trans u,e4,a3,a1,a2,Mm,Mn,by rw[List.take_zero,List.append_nil];exact Kp⟩ (λj σ H' _ ⟨_,_,_,_,_,_,_,e,_⟩=>af.of e) ?_ ?_⟩
    ·rintro j y σ H5 hj ⟨fw,v7,v8,v9,rfl,s5,e5,i5,b1,b2,Jx,HS,Kq⟩;obtain⟨p,ep,ta,rfl,g3⟩:∃p:T3,(CJ zt.2)[j]?=some p/\∃ta,y=.ref ta/\ar K H5 ta [.int p.1,.int p.2.1]:=by
      match j,hj with
      |0,hj=>cases hj;exact⟨_,rfl,t1,rfl,b1⟩
      |1,hj=>cases hj;exact⟨_,rfl,t2,rfl,b2⟩
      |j+2,hj=>simp at hj
     have pm:([p.2.1,p.1],zt.2.2.2)∈bZ ts/\p.2.2=zt.2.2.2:=by
      have hp:=List.mem_of_getElem? ep;unfold CJ at hp;rcases List.mem_cons.mp hp with rfl|hp
      ·exact⟨bB.mpr ⟨_,mt,.inr rfl⟩,rfl⟩
      rw[List.mem_singleton.mp hp];exact⟨bB.mpr ⟨_,mt,.inl rfl⟩,rfl⟩
     refine⟨ta,_,rfl,g3,rfl,_,_,rfl,_,_,rfl,rfl,?_⟩;refine⟨_,rfl,fd,rfl,.inl ⟨_,.inl e5⟩,_,rfl,_,bx.k (k:=Sum.inl p.1) e5,?_⟩;rw[jV];cases em:lk fw p.1 with
     |none =>
      refine⟨_,rfl,rfl,_,rfl,?_⟩;refine nR rfl ?_;refine⟨fw,_,_,_,rfl,s5,e5,i5,b1,b2,Jx,HS,?_⟩;rw[take_succ ep,<-List.append_assoc];intro p' Jm n hn;rcases List.mem_append.mp Jm with h|h
      ·exact Kq p' h n hn
      rw[List.mem_singleton.mp h]at hn;obtain⟨m,e,_⟩:=HS _ _ hn;rw[em]at e;cases e
     |some n =>
      refine⟨_,rfl,rfl,_,rfl,?_⟩;refine qz (by intro z;cases z) ?_;have fl:=Jx.AL h6 en;refine⟨_,rfl,fd,rfl,.inl ⟨_,.inl e5⟩,_,rfl,_,rfl,_,rfl,_,_,rfl,rfl,_,bx.k (k:=Sum.inl p.2.1) e5,?_⟩;rw[jV];have eg:((lk fw p.2.1).map V.int).getD (.int (n+zt.2.2.2))=.int ((lk fw p.2.1).getD (n+zt.2.2.2)):=(by cases lk fw p.2.1<;>rfl);rw[eg];refine⟨_,rfl,_,rfl,_,_,rfl,rfl,_,_,rfl,_,rfl,_,rfl,fd,_,rfl,A2.k (k:=Sum.inl p.2.1) e5 (by rw[List.length_map];lia),?_⟩;obtain⟨q1,q2,q3⟩:=EE Jx pm.1 em;rw[E5];have kp:=bI (o:=.dK ((jU fw p.2.1 (if n+zt.2.2.2<(lk fw p.2.1).getD (n+zt.2.2.2)then n+zt.2.2.2 else(lk fw p.2.1).getD (n+zt.2.2.2))).map gx)) (mO.dk e5);refine⟨_,_,_,_,rfl,s5.put Ko,aB,by rw[aL Mo];exact i5,kp.tup b1,kp.tup b2,q1,HS.trans q2,?_⟩;rw[take_succ ep,<-List.append_assoc];intro p' Jm n' hn;rcases List.mem_append.mp Jm with h|h
      ·exact(Kq.le q2) p' h n' hn
      rw[List.mem_singleton.mp h]at hn ⊢;obtain⟨m,e,hm⟩:=HS _ _ hn;rw[em]at e;cases e;obtain⟨m',e',AO⟩:=q3;exact⟨m',e',by rw[pm.2];lia⟩
    rintro σ H5 ⟨fw,v7,v8,v9,rfl,s5,e5,i5,b1,b2,Jx,HS,Kq⟩;refine⟨fw,_,_,_,_,_,_,rfl,s5,e5,Jx,HS,?_⟩;have:(ts.take (i+1)).flatMap CJ=(ts.take i).flatMap CJ++(CJ zt.2).take 2:=by rw[take_succ et,List.flatMap_append,List.flatMap_cons,List.flatMap_nil,List.append_nil];rfl
    rw[this];exact Kq
  rintro σ H3 ⟨fv,v4,v5,v6,v7,v8,v9,rfl,s3,e3,Mm,Mn,Kp⟩;rw[List.length_map,zl,List.take_length]at Kp;exact⟨fv,_,_,_,_,_,_,_,rfl,s3,e3,Mm,z6 fc Mn Kp⟩
 rintro σ H2 ⟨fv,v3,v4,v5,v6,v7,v8,v9,rfl,s2,e2,fs,fc⟩;exact⟨_,rfl,q fd H2 fv s2 Ko e2 (EG pos h6 en fs fc) (fs.AL h6 en)⟩
theorem tL:∀{hv:Hv},(hv.map (·.1)).Nodup->∀x n:Int,(x,n)∈hv↔lk hv x=some n
 |[],_,x,n=>by simp[lk]
 |p::hv,nd,x,n=>by
  obtain⟨n1,n2⟩:=List.nodup_cons.mp nd;have ih:=tL n2 x n;unfold lk at ih ⊢;rw[List.find?_cons,List.mem_cons];by_cases c:p.1=x
  ·subst c;rw[decide_eq_true rfl];constructor
   ·rintro(e|e)
    ·exact congrArg (some∘Prod.snd) e.symm
    exact absurd (List.mem_map.mpr ⟨_,e,rfl⟩) n1
   intro e;exact .inl (Prod.ext rfl (Option.some.inj e).symm)
  rw[decide_eq_false c];constructor
  ·rintro(e|e)
   ·exact absurd (congrArg Prod.fst e).symm c
   exact ih.mp e
  exact λe=>.inr (ih.mpr e)
theorem xG{ps qs:Hv}(h1:(ps.map (·.1)).Pairwise (·<·))(h2:(qs.map (·.1)).Pairwise (·<·))(h:∀p,p∈ps↔p∈qs):ps=qs:=by
 rw[List.pairwise_map]at h1 h2;have nn:∀{l:Hv},(l.Pairwise λa b=>a.1<b.1)->l.Nodup:=λh=>h.imp λz e=>by rw[e]at z;lia
 exact List.Perm.eq_of_pairwise (le:=λa b:Int×Int=>a.1<b.1) (λa b _ _ x y=>absurd y (by lia)) h1 h2 ((List.perm_ext_iff_of_nodup (nn h1) (nn h2)).mpr h)
def FH(L:List (Tk×Int))(goal x n:Int):Prop:=Wk L goal x n/\∀s,Wk L goal x s->n<=s
theorem Fin.Mp{L:List (Tk×Int)}{goal:Int}{hv:Hv}(f:Fin L goal hv)(x n:Int):lk hv x=some n↔FH L goal x n:=by
 constructor
 ·intro h;refine⟨f.wk n.toNat (Nat.le_refl _) h,λs w=>?_⟩;obtain⟨m,h1,h2⟩:=f.le w;rw[h]at h1;cases h1;exact h2
 rintro⟨w,h⟩;obtain⟨m,h1,h2⟩:=f.le w;have:=h m (f.wk m.toNat (Nat.le_refl _) h1);rw[h1]
 congr 1;lia
theorem EF.Mp{L:List (Tk×Int)}{goal:Int}{fv:Hv}(f:EF L goal fv)(x n:Int):lk fv x=some n↔FH L goal x n:=by
 constructor
 ·intro h;refine⟨f.w x n h,λs w=>?_⟩;obtain⟨m,h1,h2⟩:=f.le x s w;rw[h]at h1;cases h1;exact h2
 rintro⟨w,h⟩;obtain⟨m,h1,h2⟩:=f.le x n w;have:=h m (f.w x m h1);rw[h1]
 congr 1;lia
theorem CK{K:PySem.W.Frag}{H:Hp}{n:Nat}{l:Addr}{ps:Hv}(h:mP K H l ps):aQ K H (n+2) (.ref l) (.list (ps.map pD)):=by
 obtain⟨zs,z1,z2,rfl⟩:=h.ex;refine .lst (af.of z1) (by rw[List.length_map,List.length_map,List.length_map]) λi x d e1 e2=>?_;rw[List.getElem?_map]at e1;rw[List.getElem?_map,List.getElem?_map]at e2;cases e:zs[i]? with
 |none=>rw[e]at e1;cases e1
 |some o=>rw[e]at e1 e2;cases e1;cases e2;exact yV (z2 o (List.mem_of_getElem? e))
def EH(ws:List Int)(ps:Hv):PyData:=.tuple [.str "way",.tuple (ws.map .int),.list (ps.map pD)]
theorem yW{K:PySem.W.Frag}{H:Hp}{r p hl:Addr}{ws:List Int}{ps:Hv}(h:ar K H r [.str "way",.ref p,.ref hl])(h1:ar K H p (ws.map V.int))(h2:mP K H hl ps):aQ K H 8 (.ref r) (EH ws ps):=by
 refine .tup h rfl λi x d hx hd=>?_
 match i,hx,hd with
 |0,hx,hd=>cases hx;cases hd;exact .str _ (by decide +kernel)
 |1,hx,hd=>cases hx;cases hd;exact tJ h1
 |2,hx,hd=>cases hx;cases hd;exact CK h2
 |i+3,hx,_=>simp at hx
def gI:Sp:=λvs H Q _=>∃n:Int,vs=[.int n]/\Q (.bl true) H
theorem qd:aV ["found"] ["found"] (aH eO):=⟨rfl,rfl,rfl,by decide +kernel,rfl,by decide +kernel,by decide +kernel⟩
theorem qe(F:aM K mg "_law_whole" eO)(T:Txt K mg t):Def P w K mg base 1 "_law_whole" ["found"] gI:=by
 refine F.def qd (λ_ _ _ _ _ _ us hl=>match us,hl with|[_],_=>rfl) (λvs H Q E h=>?_) (λf bf A outer s H vs Q E hr h=>?_)
 ·obtain⟨n,rfl,_⟩:=h;rfl
 obtain⟨n,rfl,q⟩:=h;refine⟨_,aF (ab (AS (Au K T.bo (aA (pv 0) (aA (gy (v:=.ty "int") (by rfl) T.JR boot_int rfl) aC))) (vT (FY (Au K T.bo (aA (pv 0) (aA (gy (v:=.ty "bool") (by rfl) T.GW boot_bool rfl) aC))))))),?_⟩;refine⟨_,rfl,_,_,_,_,true,rfl,rfl,.of (.int n),T.ui,_,rfl,?_⟩;refine gh ?_;exact⟨_,rfl,_,_,_,_,false,rfl,rfl,.of (.int n),T.sV,_,rfl,q⟩
def fz(K:PySem.W.Frag):Sp:=λvs H Q _=>∃(r p hl l wl z0 w0:Addr)(other n0:Int)(ts:List T3)(eX ws:List Int)(ps:Hv)(rest:List V),vs=[.ref r,.ref l,.ref wl,.int other]/\ar K H r [.str "way",.ref p,.ref hl]/\ar K H p (ws.map V.int)/\ws.length<=20/\mP K H hl ps/\ps.length<=20/\n9 K H l ts/\(∀t∈ts,1<=t.2.2)/\eX.length=6/\(∀t∈ts,t.1∈eX/\t.2.1∈eX)/\H wl=some (.lst (V.ref z0::rest))/\ar K H z0 [.int n0,.ref w0]/\ar K H w0 (ws.map V.int)/\(ps.map (·.1)).Pairwise (·<·)/\(∀x n,(x,n)∈ps↔FH (bZ ts) other x n)/\∀H',aI H H'->Q (.bl true) H'
theorem cx:aV ["found","wires","ways","other","far","pair"] ["found","wires","ways","other"] (aH bH):=⟨rfl,rfl,rfl,by decide +kernel,rfl,by decide +kernel,by decide +kernel⟩
set_option maxHeartbeats 4000000 in
theorem mU(F:aM K mg "_law_way_right" bH)(T:Txt K mg t)(lA:Def P w K mg base 1 "_law_far" ["wires","goal"] (nz K))(bR:Def P w K mg base 1 "_law_whole" ["found"] gI):Def P w K mg base 2 "_law_way_right" ["found","wires","ways","other"] (fz K):=by
 refine F.def cx (λ_ _ _ _ _ _ us hl=>match us,hl with|[_,_,_,_],_=>rfl) (λvs H Q E h=>?_) (λf bf A outer s H vs Q E hr h=>?_)
 ·obtain⟨r,p,hl,l,wl,z0,w0,other,n0,ts,eX,ws,ps,rest,rfl,_⟩:=h;rfl
 obtain⟨r,p,hl,l,wl,z0,w0,other,n0,ts,eX,ws,ps,rest,rfl,HU,hp,RF,OA,RG,hw,pos,h6,en,Ci,Mq,QJ,QK,QL,q⟩:=h;refine⟨_,aE (aY (i:=4) cx.nd rfl (Or.inr rfl) (aa (lA.mono (by decide)) hr aq (aA (pv 1) (aA (pv 3) aC))))
  (aE (a9 (aW (GD K (df hr)) (pv 0) (ak (aA rg (aA (aO (aT K) (aO (aN K) (pv 2) aG (λ_ _=>rfl)) aG (λ_ _=>rfl)) (aA (aZ (cT K (df hr)) (by rfl) T.cv boot_sorted (aA (DJ P w (i9 rfl (Nc:=["house","far"]) (ix:=[none,some 4]) (cJ (aH bH) ["found","wires","ways","other","far","pair"] rfl rfl (by decide +kernel)) (uP P w (pv 4)) (λC fp s H=>⟨(aK (i:=0) (show(["house","far"]:List Str).Nodup by decide +kernel) rfl (Or.inl rfl)),cg,(ak (aA (pv 0) (aA (o9 P w (pv 1) (pv 0) (λ_ _=>rfl)) aC)))⟩))) aC)) aC)))) (ah _))
   (aF (ab gg))
   (ae))
  (aE (a9 (PW.pt (kB (cc (cI (lr K T.bo (aA (aO (aT K) (pv 0) aG (λ_ _=>rfl)) (aA (gy (v:=.ty "tuple") (by rfl) T.eQ boot_tuple rfl) aC))))) (kR (cc (cI (lr K T.bo (aA (aO (aT K) (pv 0) aG (λ_ _=>rfl)) (aA (gy (v:=.ty "list") (by rfl) T.GX boot_list rfl) aC))))))))
   (aF (ab gg))
   (ae))
  (aE (PS.rj (bJ PassesOwn.never rfl (bC K (aO (aT K) (pv 0) aG (λ_ _=>rfl))) (aK (i:=5) cx.nd rfl (Or.inl rfl))
   (aF (a9 (PW.pt (kB (cc (cI (lr K T.bo (aA (pv 5) (aA (gy (v:=.ty "tuple") (by rfl) T.eQ boot_tuple rfl) aC))))) (kB (cc (cI (aa (bR.mono (by decide)) hr aq (aA (aO (aT K) (pv 5) aG (λ_ _=>rfl)) aC)))) (kR (cc (cI (aa (bR.mono (by decide)) hr aq (aA (aO (aT K) (pv 5) aG (λ_ _=>rfl)) aC))))))))
    (aF (ab gg))
    (ae)))))
  (aF (ab (fb lS (aZ (bW K) (by rfl) T.jA boot_len (aA (i9 rfl (Nc:=["house"]) (ix:=[none]) (cJ (aH bH) ["found","wires","ways","other","far","pair"] rfl rfl (by decide +kernel)) (oH K (aO (aT K) (pv 0) aG (λ_ _=>rfl))) (λC fp s H=>⟨(aK (i:=0) (show(["house"]:List Str).Nodup by decide +kernel) rfl (Or.inl rfl)),(lZ (cc (cI (aa (bR.mono (by decide)) hr aq (aA (pv 0) aC))))),(pv 0)⟩)) aC)) aG (ah _))))))),?_⟩
 have hsz:(20000:Nat)<=sizeLine:=by decide
 refine⟨_,rfl,_,rfl,l,other,ts,eX,rfl,hw,pos,h6,en,λfd H1 fv s1 RH e1 fr fl=>?_⟩;refine⟨_,rfl,_,rfl,wl,_,_,.ref z0,rfl,rfl,af.of (s1 _ _ Ci),(show nQ (V.ref z0::rest) ((0:Nat):Int)=some (V.ref z0)from bM rfl),z0,_,_,.ref w0,rfl,rfl,s1.tup Mq,rfl,?_⟩;refine⟨_,rfl,fd,_,rfl,e1,λu ok D hD=>?_⟩;have hu:(upd H1 fd u) fd=some u:=aB;have th:∀{H5:Hp},aI (upd H1 fd u) H5->aI H1 (upd H5 fd (.dK (fv.map gx))):=λs=>aI.A9 e1 s;generalize upd H1 fd u=H2 at hu th hD ⊢;refine xx (d:=fd) (u:=u) (kvs:=fv.map gx) (λj σ H'=>∃(v:Option V)(qs:List (Addr×Int×Int)),σ=[v,some (.ref fd)]/\aI H2 H'/\H' D=some (.lst (qs.map λz=>V.ref z.1))/\(∀z∈qs,ar K H' z.1 [.int z.2.1,.int z.2.2])/\qs.map (·.2)=fv.take j) ⟨none,[],rfl,(aI.refl _).new hD,aB,λz hz=>absurd hz List.not_mem_nil,rfl⟩ (λj σ H' _ ⟨_,_,_,s,_⟩=>s _ _ hu) ?_ ?_
 ·rintro j k v σ H5 N hN hj ⟨v0,qs,rfl,s5,e5,t5,yX⟩;rw[List.getElem?_map]at hj;cases ep:fv[j]? with
  |none=>rw[ep]at hj;cases hj
  |some x =>
   rw[ep]at hj;cases hj;have Kk:=List.mem_of_getElem? ep;have jl:j<fv.length:=(List.getElem?_eq_some_iff.mp ep).1;have ql:qs.length<=7:=(by have:=congrArg List.length yX;rw[List.length_map,List.length_take]at this;lia);have hn:lk fv x.1=some x.2:=(tL fr.nd x.1 x.2).mp Kk;have vv:dg (fv.map gx) (Sum.inl x.1)=some (.int x.2):=(by rw[jV,hn];rfl);refine ck ?_;refine⟨_,rfl,_,rfl,_,rfl,fd,_,u,Sum.inl x.1,.int x.2,rfl,s5 _ _ hu,ok,rfl,vv,zz2,λtp qK=>?_⟩;have s6:=(aI.refl H5).new (o:=.tup [kV (Sum.inl x.1),.int x.2]) qK;have e6:ar K (upd H5 tp (.tup [kV (Sum.inl x.1),.int x.2])) tp [.int x.1,.int x.2]:=ar.of aB;generalize upd H5 tp (.tup [kV (Sum.inl x.1),.int x.2])=H6 at s6 e6 ⊢;have FD:=s6 _ _ e5;have kz:=bI (o:=.lst (qs.map (λz=>V.ref z.1)++[V.ref tp])) (mO.lst FD);refine⟨_,FD,by rw[List.length_map];lia,hN _ _ ⟨_,qs++[(tp,x.1,x.2)],rfl,(s5.trans s6).put hD,by rw[aB,List.map_append];rfl,λz hz=>?_,by rw[List.map_append,yX,take_succ ep];rfl⟩⟩;rcases List.mem_append.mp hz with h|h
   ·exact kz.tup (s6.tup (t5 z h))
   rw[List.mem_singleton.mp h];exact kz.tup e6
 rintro σ H5 ⟨v0,qs,rfl,s5,e5,t5,yX⟩;rw[List.length_map,List.take_length]at yX;have nD:D≠fd:=(ag hu hD).symm;have S5:=th s5;have kp:=bI (o:=.dK (fv.map gx)) (mO.dx ok (s5 _ _ hu));have FD:(upd H5 fd (.dK (fv.map gx))) D=some (.lst (qs.map λz=>V.ref z.1)):=by rw[aL nD];exact e5
 have Mr:∀z∈qs,ar K (upd H5 fd (.dK (fv.map gx))) z.1 [.int z.2.1,.int z.2.2]:=λz hz=>kp.tup (t5 z hz);refine⟨fd,_,u,ok,s5 _ _ hu,?_⟩;generalize upd H5 fd (.dK (fv.map gx))=H6 at S5 FD Mr ⊢;have ql:qs.length<=7:=by have:=congrArg List.length yX;rw[List.length_map]at this;lia
 refine⟨true,D,qs.map λz=>(V.ref z.1,pD z.2),rfl,by rw[List.map_map];exact af.of FD,by rw[List.length_map];lia,λz hz=>?_,by rw[List.map_map];have:=Mi (qs.map (·.2));rw[List.map_map]at this;exact this,λys rl hy hyp Kr=>?_⟩
 ·obtain⟨x,hx,rfl⟩:=List.mem_map.mp hz;exact yV (Mr x hx)
 obtain⟨y2,Mt,rfl⟩:=perm_back (λz:Addr×Int×Int=>(V.ref z.1,pD z.2)) hy qs rfl;have ev:(y2.map λz=>(V.ref z.1,pD z.2)).map (·.1)=y2.map λz=>V.ref z.1:=by rw[List.map_map];rfl
 rw[ev];have s7:=(aI.refl H6).new (o:=.lst (y2.map λz=>V.ref z.1)) Kr;have e7:(upd H6 rl (.lst (y2.map λz=>V.ref z.1))) rl=some (.lst (y2.map λz=>V.ref z.1)):=aB;have ep:y2.map (·.2)=ps:=by
  have nd:((y2.map (·.2)).map (·.1)).Nodup:=by have pm:((y2.map (·.2)).map (·.1)).Perm (fv.map (·.1)):=(by rw[<-yX];exact(Mt.map _).map _);exact pm.nodup_iff.mpr fr.nd
  refine xG (tI ?_ nd) QK λx=>?_
  ·rw[List.pairwise_map]at hyp;rw[List.map_map,List.pairwise_map];refine hyp.imp λ{a b} z=>?_;rw[FE]at z;have z:¬[b.2.1,b.2.2]<[a.2.1,a.2.2]:=(by simpa using z);rw[List.cons_lt_cons_iff]at z;show a.2.1<=b.2.1;lia
  rw[QL,<-fr.Mp,<-tL fr.nd,<-yX];exact(Mt.map _).mem_iff
 generalize upd H6 rl (.lst (y2.map λz=>V.ref z.1))=H7 at s7 e7 ⊢;have p7:mP K H7 rl ps:=⟨y2,e7,λz hz=>s7.tup (Mr z (Mt.mem_iff.mp hz)),ep⟩;have S7:=s1.trans (S5.trans s7);refine⟨zz3,λan QM=>?_⟩;have s8:=(aI.refl H7).new (o:=.tup [.str "way",.ref w0,.ref rl]) QM;have e8:ar K (upd H7 an (.tup [.str "way",.ref w0,.ref rl])) an [.str "way",.ref w0,.ref rl]:=ar.of aB;generalize upd H7 an (.tup [.str "way",.ref w0,.ref rl])=H8 at s8 e8 ⊢;have S8:=S7.trans s8;have d8:aQ K H8 8 (.ref r) (EH ws ps):=yW (S8.tup HU) (S8.tup hp) (OA.same S8);refine⟨EH ws ps,EH ws ps,d8,yW e8 (S8.tup QJ) (p7.same s8),?_⟩;rw[d8.eqv];refine⟨_,rfl,c8 ?_⟩;have r8:=S8.tup HU;have i1:nQ [V.str "way",V.ref p,V.ref hl] 1=some (.ref p):=rfl;have i2:nQ [V.str "way",V.ref p,V.ref hl] 2=some (.ref hl):=rfl;refine⟨_,rfl,r,_,_,.ref p,rfl,rfl,r8,rfl,_,_,_,true,rfl,.tup (S8.tup hp),T.cP,_,rfl,?_⟩;refine(show if(!true)=true then _ else _ from c8 ?_);obtain⟨zs,z1,z2,z3⟩:=(OA.same S8).ex;refine⟨_,rfl,r,_,_,.ref hl,rfl,rfl,r8,rfl,_,_,_,true,rfl,.lst (af.of z1),T.qN,_,rfl,?_⟩;refine(show if(!true)=true then _ else _ from c8 ?_)
 let I:Nat->_->_->Prop:=λi σ H'=>∃v5:Option V,σ=[some (.ref r),some (.ref l),some (.ref wl),some (.int other),some (.ref fd),v5]/\H'=H8
 refine⟨_,rfl,r,_,_,.ref hl,rfl,rfl,r8,rfl,hl,rfl,⟨_,af.of z1⟩,cM (K:=K) (a:=hl) (xs:=zs.map λz=>V.ref z.1) I ⟨none,rfl,rfl⟩ (λi σ H' _ ⟨_,_,e⟩=>by rw[e];exact af.of z1) ?_ ?_⟩
 ·rintro i y σ H9 hi ⟨v5,rfl,rfl⟩;rw[List.getElem?_map]at hi;cases ez:zs[i]? with
  |none=>rw[ez]at hi;cases hi
  |some z =>
   rw[ez]at hi;cases hi;have hz:=z2 z (List.mem_of_getElem? ez);refine⟨_,rfl,_,_,_,true,rfl,.tup hz,T.cP,_,rfl,?_⟩;refine(show if(!true)=true then _ else _ from c8 ?_);refine⟨_,rfl,z.1,_,_,.int z.2.1,rfl,rfl,hz,rfl,z.2.1,rfl,_,rfl,?_⟩;refine(show if(!true)=true then _ else _ from c8 ?_);refine⟨_,rfl,z.1,_,_,.int z.2.2,rfl,rfl,hz,rfl,z.2.2,rfl,_,rfl,?_⟩;refine(show if(!true)=true then _ else _ from c8 ?_);exact⟨_,rfl,rfl⟩
 rintro σ H9 ⟨v5,rfl,rfl⟩;refine⟨_,rfl,r,_,_,.ref p,rfl,rfl,r8,rfl,p,rfl,⟨_,S8.tup hp⟩,λD2 HK=>?_⟩;refine Az (K:=K) (a:=p) (xs:=ws.map V.int) (λi σ H'=>∃v:Option V,σ=[v]/\aI H9 H'/\H' D2=some (.lst [])) ⟨none,rfl,(aI.refl _).new HK,aB⟩ (λi σ H' _ ⟨_,_,s,_⟩=>s.tup (S8.tup hp)) ?_ ?_
 ·rintro i y σ IX N hN hi ⟨v,rfl,Fy,Jy⟩;obtain⟨n,_,rfl⟩:=fe hi;refine turn_if ?_;refine⟨_,rfl,n,rfl,_,rfl,?_⟩;refine(show if(!true)=true then _ else _ from c8 ?_);exact hN _ _ ⟨_,rfl,Fy,Jy⟩
 rintro σ IX ⟨v,rfl,Fy,Jy⟩;refine⟨D2,_,rfl,.inl (af.of Jy),?_⟩;exact⟨rfl,q _ (S8.trans Fy)⟩
inductive Jz(K:PySem.W.Frag)(H0 H:Hp)(ts:List T3)(one other:Int)(r:Addr):Prop
 |side (p:Addr) (ns:List Int):ar K H r [.str "side",.ref p]->ar K H p (ns.map V.int)->ns.length<=13->rS (bZ ts) one other ns->(∀x,x∈ns↔∃s,Wk (bZ ts) one x s)->(∀s,¬Wk (bZ ts) other one s)->Jz K H0 H ts one other r
 |way (p hl:Addr) (ws:List Int) (ps:Hv) (n:Int):ar K H r [.str "way",.ref p,.ref hl]->ar K H p (ws.map V.int)->ws.length<=13->H0 hl=none->mP K H hl ps->ps.length<=13->Wl (bZ ts) other one ws n->ws.Nodup->(∀vs s,Wl (bZ ts) other one vs s->n::ws=s::vs\/n::ws<s::vs)->(ps.map (·.1)).Pairwise (·<·)->(∀x n,(x,n)∈ps↔FH (bZ ts) other x n)->Jz K H0 H ts one other r
theorem Wk.congr{L L':List (Tk×Int)}(h:∀e,e∈L->e∈L'){goal x s:Int}(w:Wk L goal x s):Wk L' goal x s:=by
 induction w with
 |nil=>exact .nil
 |cons h1 _ ih=>exact .cons (h _ h1) ih
theorem FH.congr{L L':List (Tk×Int)}(h:∀e,e∈L↔e∈L'){goal x n:Int}:FH L goal x n↔FH L' goal x n :=
 ⟨λz=>⟨z.1.congr λe he=>(h e).mp he,λs w=>z.2 s (w.congr λe he=>(h e).mpr he)⟩,λz=>⟨z.1.congr λe he=>(h e).mpr he,λs w=>z.2 s (w.congr λe he=>(h e).mp he)⟩⟩
theorem xH{K:PySem.W.Frag}{C:Addr}{H:Hp}{x d:Addr}{one other:Int}{ms:Ms}{ts:List T3}{Q:VK}{E:XK}(hM:jR K C H x d ms)(ml:ms.length<=12)(Bx:nB ms)(hq:zj ms)(tX:∀t,t∈ts↔cL ms t)(Gz:∀t∈ts,(0<=t.1/\t.1<32)/\(0<=t.2.1/\t.2.1<32))(ho:0<=one/\one<32)(z:∀(r:Addr)(H1:Hp),aI H H1->Jz K H H1 ts one other r->Q (.ref r) H1):eW K C [.ref x,.int one,.int other] H Q E:=by
 refine⟨x,d,one,other,ms,rfl,hM,ml,Bx,hq,λKm hv zh ns r p H1 s1 hm Br fin HV fin2 pn sn HU Gn=>z r H1 s1 ?_,λKm hv n ns ws r p Lr H1 s1 hm Br fin HV gr pn sn HU Gn N0 pr=>z r H1 s1 ?_⟩
 ·have ec:=rV λt=>(hm t).trans (tX t).symm;have f:=fin2.h.AL hm;refine .side p ns HU Gn (by rw[pn.length_eq,List.length_map];lia) ((zw fin HV fin2 pn sn (λt ht=>Gz t ((tX t).mpr ((hm t).mp ht))) ho).congr ec) (λy=>(pn.mem_iff.trans (fin2.keys y)).trans ⟨λ⟨s,w⟩=>⟨s,w.congr λe he=>(ec e).mp he⟩,λ⟨s,w⟩=>⟨s,w.congr λe he=>(ec e).mpr he⟩⟩) λs w=>?_;obtain⟨m,h1,_⟩:=fin.le (w.congr λe he=>(ec e).mpr he);rw[HV]at h1;cases h1
 have ec:=rV λt=>(hm t).trans (tX t).symm;have f:=fin.h.AL hm;have nl:ns.length<=13:=by rw[pn.length_eq,List.length_map];lia
 obtain⟨n',KA,wt⟩:=gr.wl fin;rw[HV]at KA;cases KA;obtain⟨_,_,BH,Kb⟩:=gr.down fin;have wl:ws.length<=13:=by
  have:=cQ (hv.map (·.1)) ws Kb λy hy=>by
   obtain⟨m,e,_⟩:=BH y hy;cases Classical.em (y∈hv.map (·.1))with
   |inl z=>exact z
   |inr z=>rw[cw.mpr z]at e;cases e
  rw[List.length_map]at this;lia
 have rk:((gE hv ns).map (·.1)).Pairwise (·<·):=by rw[xD];exact tI sn (pn.nodup_iff.mpr fin.h.nd)
 refine .way p Lr ws (gE hv ns) n HU Gn wl N0 pr (by unfold gE;rw[List.length_map];exact nl) (wt.congr λe he=>(ec e).mp he) Kb (λvs s w=>?_) rk λy m=>?_
 ·have w':=w.congr λe he=>(ec e).mpr he;obtain⟨m,h1,h2⟩:=fin.le w'.wk;rw[HV]at h1;cases h1;rcases Int.lt_or_eq_of_le h2 with c|c
  ·exact .inr (List.Lex.rel c)
  subst c;rcases gr.least fin w' HV with e|e
  ·exact .inl (by rw[e])
  exact .inr (List.Lex.cons e)
 rw[tL (rk.imp λz e=>by lia),CC pn,fin.Mp,FH.congr ec]
def kP(K:PySem.W.Frag)(C:Addr):Sp:=λvs H Q _=>∃(x d l:Addr)(one other:Int)(ms:Ms)(ts:List T3)(eX:List Int),vs=[.ref x,.ref l,.int one,.int other]/\jR K C H x d ms/\ms.length<=12/\nB ms/\zj ms/\n9 K H l ts/\uy ts/\ts.length<=60/\(∀t,t∈ts↔cL ms t)/\(∀t∈ts,1<=t.2.2)/\eX.length=6/\(∀t∈ts,t.1∈eX/\t.2.1∈eX)/\(∀t∈ts,(0<=t.1/\t.1<32)/\(0<=t.2.1/\t.2.1<32))/\(0<=one/\one<32)/\∀H',aI H H'->Q (.bl true) H'
def yY(ns:List Int):PyData:=.tuple [.str "side",.tuple (ns.map .int)]
theorem vG{K:PySem.W.Frag}{H:Hp}{r p:Addr}{ns:List Int}(h:ar K H r [.str "side",.ref p])(h1:ar K H p (ns.map V.int)):aQ K H 8 (.ref r) (yY ns):=by
 refine .tup h rfl λi x d hx hd=>?_
 match i,hx,hd with
 |0,hx,hd=>cases hx;cases hd;exact .str _ (by decide +kernel)
 |1,hx,hd=>cases hx;cases hd;exact tJ h1
 |i+2,hx,_=>simp at hx
theorem Jz.tup{K:PySem.W.Frag}{H0 H:Hp}{ts:List T3}{one other:Int}{r:Addr}(h:Jz K H0 H ts one other r):∃xs,ar K H r xs/\2<=xs.length:=by
 cases h with
 |side p ns h1=>exact⟨_,h1,Nat.le_refl _⟩
 |way p hl ws ps n h1=>exact⟨_,h1,by show 2<=3;decide⟩
theorem gJ:aV ["known","wires","one","other","found","ways"] ["known","wires","one","other"] (aH cD):=⟨rfl,rfl,rfl,by decide +kernel,rfl,by decide +kernel,by decide +kernel⟩
set_option maxHeartbeats 4000000 in
theorem qf(F:aM K mg "_law_right" cD)(T:Txt K mg t)(jd:Def P w K mg base 4 "way_of" ["chart","one","other"] (eW K t.Map))(de:Def P w K mg base 8 "_law_ways" ["wires","way","goal"] (B9 K 7))(gK:Def P w K mg base 1 "_law_length" ["wires","way"] (jc K))(bR:Def P w K mg base 1 "_law_whole" ["found"] gI)(cy:Def P w K mg base 1 "_law_side_right" ["wires","one","other","side"] (fL K))(cG:Def P w K mg base 2 "_law_way_right" ["found","wires","ways","other"] (fz K)):Def P w K mg base 9 "_law_right" ["known","wires","one","other"] (kP K t.Map):=by
 refine F.def gJ (λ_ _ _ _ _ _ us hl=>match us,hl with|[_,_,_,_],_=>rfl) (λvs H Q E h=>?_) (λf bf A outer s H vs Q E hr h=>?_)
 ·obtain⟨x,d,l,one,other,ms,ts,eX,rfl,_⟩:=h;rfl
 obtain⟨x,d,l,one,other,ms,ts,eX,rfl,hM,ml,Bx,hq,hw,td,tl,tX,pos,h6,en,Gz,ho,q⟩:=h;refine⟨_,aE (aY (i:=4) gJ.nd rfl (Or.inl rfl) (aa (jd.mono (by decide)) hr aq (aA (pv 0) (aA (pv 2) (aA (pv 3) aC)))))
  (aE (a9 (PW.pt (kB (cc (cI (lr K T.bo (aA (pv 4) (aA (gy (v:=.ty "tuple") (by rfl) T.eQ boot_tuple rfl) aC))))) (kR (aW lT (aZ (bW K) (by rfl) T.jA boot_len (aA (pv 4) aC)) aG (ah _)))))
   (aF (ab gg))
   (ae))
  (aE (aY (i:=5) gJ.nd rfl (Or.inl rfl) (aZ (sS K (df hr)) (by rfl) T.cv boot_sorted (aA (i9 rfl (Nc:=["way","wires"]) (ix:=[none,some 1]) (cJ (aH cD) ["known","wires","one","other","found","ways"] rfl rfl (by decide +kernel)) (bC K (aa (de.mono (by decide)) hr aq (aA (pv 1) (aA (ak (aA (pv 2) aC)) (aA (pv 3) aC))))) (λC fp s H=>⟨(aK (i:=0) (show(["way","wires"]:List Str).Nodup by decide +kernel) rfl (Or.inl rfl)),cg,(ak (aA (aa (gK.mono (by decide)) hr aq (aA (pv 1) (aA (pv 0) aC))) (aA (pv 0) aC)))⟩)) aC)))
  (aE (a9 (aW (xt K (df hr)) (pv 5) (cB aC) (ah _))
   (aE (a9 (PW.pt (kB (aW uA (aO (aT K) (pv 4) aG (λ_ _=>rfl)) rg (ah _)) (kB (aW uA (aZ (bW K) (by rfl) T.jA boot_len (aA (pv 4) aC)) aG (ah _)) (kR (cc (cI (lr K T.bo (aA (aO (aT K) (pv 4) aG (λ_ _=>rfl)) (aA (gy (v:=.ty "tuple") (by rfl) T.eQ boot_tuple rfl) aC)))))))))
    (aF (ab gg))
    (ae))
   (aE (a9 (aW oU (aZ (bW K) (by rfl) T.jA boot_len (aA (i9 rfl (Nc:=["house"]) (ix:=[none]) (cJ (aH cD) ["known","wires","one","other","found","ways"] rfl rfl (by decide +kernel)) (oH K (aO (aT K) (pv 4) aG (λ_ _=>rfl))) (λC fp s H=>⟨(aK (i:=0) (show(["house"]:List Str).Nodup by decide +kernel) rfl (Or.inl rfl)),(lZ (cc (cI (aa (bR.mono (by decide)) hr aq (aA (pv 0) aC))))),(pv 0)⟩)) aC)) aG (ah _))
    (aF (ab gg))
    (ae))
   (aF (ab (AS (aa (cy.mono (by decide)) hr aq (aA (pv 1) (aA (pv 2) (aA (pv 3) (aA (aO (aT K) (pv 4) aG (λ_ _=>rfl)) aC))))) (vT (fb (oz K (df hr)) (aa (jd.mono (by decide)) hr aq (aA (pv 0) (aA (pv 2) (aA (pv 3) aC)))) (pv 4) (ah _))))))))
   (ae))
  (aE (a9 (cc (cI (aa (cG.mono (by decide)) hr aq (aA (pv 4) (aA (pv 1) (aA (pv 5) (aA (pv 3) aC)))))))
   (aF (ab gg))
   (ae))
  (aE (bL (kZ K PySem.F.plainAttrs_list PySem.F.slot_list_append PySem.F.type_list_append dE (aO (aT K) (pv 4) aG (λ_ _=>rfl)) (aA (ak (aA aG (aA aG aC))) aC)))
  (aF (ab (aa (cG.mono (by decide)) hr aq (aA (aa (jd.mono (by decide)) hr aq (aA (pv 0) (aA (pv 2) (aA (pv 3) aC)))) (aA (pv 1) (aA (pv 5) (aA (pv 3) aC)))))))))))),?_⟩
 have hsz:(20000:Nat)<=sizeLine:=by decide
 have kn:=jT td;refine⟨_,rfl,_,rfl,_,rfl,?_⟩;unfold Cv;show eW K t.Map [.ref x,.int one,.int other] H _ _;refine xH hM ml Bx hq tX Gz ho λr H1 s1 fd=>?_;obtain⟨xs,OB,xl⟩:=fd.tup;refine⟨_,rfl,_,_,_,true,rfl,.tup OB,T.cP,_,rfl,?_⟩;refine(show if(!true)=true then _ else _ from c8 ?_);refine⟨_,rfl,r,xs,rfl,.inr OB,?_⟩;refine⟨_,_,rfl,rfl,_,rfl,?_⟩;rw[decide_eq_false (show ¬((xs.length:Nat):Int)<2 by lia)];refine c8 ?_;have QN:=hM.same s1;have ED:=hw.same s1;refine⟨_,rfl,_,rfl,zz1,λt1 Ju=>?_⟩;have s2:=(aI.refl H1).new (o:=.tup [.int one]) Ju;have e2:ar K (upd H1 t1 (.tup [.int one])) t1 ([one].map V.int):=ar.of aB;generalize upd H1 t1 (.tup [.int one])=H2 at s2 e2 ⊢;have wy:Wy ts (one::eX) 6 [one]:=⟨by simp,by simp,λy hy=>by rw[List.mem_singleton.mp hy];exact List.mem_cons_self,λt ht=>⟨List.mem_cons_of_mem _ (en t ht).1,List.mem_cons_of_mem _ (en t ht).2⟩,by show 1+6=eX.length+1;lia⟩;refine⟨_,rfl,l,t1,other,ts,one::eX,[one],rfl,ED.same s2,td,e2,wy,by rw[List.length_cons,h6];decide,λra H3 s3 wA=>?_⟩;have S3:=s2.trans s3;obtain⟨zs,z1,z2,z3⟩:=wA.ex;have QO:zs.length<=120:=by have h1:=congrArg List.length z3;rw[List.length_map]at h1;exact Nat.le_trans (Nat.le_of_eq h1) (CD td h6 en)
 have good:∀z∈zs,∃cb,GoodW ts one other z.2 cb:=λz hz=>zx (n:=7) (by rw[<-z3];exact List.mem_map.mpr ⟨z,hz,rfl⟩);refine⟨ra,rfl,⟨_,af.of z1⟩,λD hD=>?_⟩
 let J:Nat->_->_->Prop:=λi σ H'=>∃(v:Option V)(qs:List (Addr×Addr×Int×List Int)),σ=[v,some (.ref l)]/\aI H3 H'/\H' D=some (.lst (qs.map λq=>V.ref q.1))/\(∀q∈qs,ar K H' q.1 [.int q.2.2.1,.ref q.2.1]/\ar K H' q.2.1 (q.2.2.2.map V.int)/\Wl (bZ ts) other one q.2.2.2 q.2.2.1)/\qs.map (λq=>(q.2.1,q.2.2.2))=zs.take i
 refine hX (K:=K) (a:=ra) (xs:=zs.map λz=>V.ref z.1) J ⟨none,[],rfl,(aI.refl _).new hD,aB,λz hz=>absurd hz List.not_mem_nil,rfl⟩ (λi σ H' _ ⟨_,_,_,s,_⟩=>af.of (s _ _ z1)) ?_ ?_
 ·rintro i y σ H4 N hN hi ⟨v,qs,rfl,s4,e4,t4,yX⟩;rw[List.getElem?_map]at hi;cases ez:zs[i]? with
  |none=>rw[ez]at hi;cases hi
  |some z =>
   rw[ez]at hi;cases hi;have hz:=List.mem_of_getElem? ez;have ql:qs.length<=120:=(by have:=congrArg List.length yX;rw[List.length_map,List.length_take]at this;lia);obtain⟨cb,g⟩:=good z hz;have gl:=vE g h6 en;have ew:=(g.w.jC kn).1;have tz:=s4.tup (z2 z hz);refine ck ?_;refine⟨_,rfl,_,rfl,l,z.1,ts,z.2,rfl,ED.same (S3.trans s4),td,tl,tz,by lia,λH5 s5=>?_⟩;rw[ew];refine⟨_,rfl,zz2,λtp qK=>?_⟩;have s6:=(aI.refl H5).new (o:=.tup [oV (some cb),.ref z.1]) qK;have e6:ar K (upd H5 tp (.tup [oV (some cb),.ref z.1])) tp [.int cb,.ref z.1]:=ar.of aB;generalize upd H5 tp (.tup [oV (some cb),.ref z.1])=H6 at s6 e6 ⊢;have OC:=s6 _ _ (s5 _ _ e4);have kz:=bI (o:=.lst (qs.map (λq=>V.ref q.1)++[V.ref tp])) (mO.lst OC);refine⟨_,OC,by rw[List.length_map];lia,hN _ _ ⟨_,qs++[(tp,z.1,cb,z.2)],rfl,(s4.trans (s5.trans s6)).put hD,by rw[aB,List.map_append];rfl,λy hy=>?_,by rw[List.map_append,yX,take_succ ez];rfl⟩⟩;rcases List.mem_append.mp hy with h|h
   ·obtain⟨a1,a2,a3⟩:=t4 y h;exact⟨kz.tup ((s5.trans s6).tup a1),kz.tup ((s5.trans s6).tup a2),a3⟩
   rw[List.mem_singleton.mp h];exact⟨kz.tup e6,kz.tup ((s5.trans s6).tup tz),g.w⟩
 rintro σ H4 ⟨v,qs,rfl,s4,e4,t4,yX⟩;rw[List.length_map,List.take_length]at yX;have ql:qs.length=zs.length:=by have:=congrArg List.length yX;rwa [List.length_map]at this
 refine⟨true,D,qs.map λq=>(V.ref q.1,aD (q.2.2.1,q.2.2.2)),rfl,by rw[List.map_map];exact af.of e4,by rw[List.length_map];lia,λz hz=>?_,by rw[List.map_map];have:=Mj (qs.map (·.2.2));rw[List.map_map]at this;exact this,λys rl HM QP Mu Kr=>?_⟩
 ·obtain⟨y,hy,rfl⟩:=List.mem_map.mp hz;exact Gy (n:=6) (t4 y hy).1 (t4 y hy).2.1
 have s5:=(aI.refl H4).new (o:=.lst (ys.map (·.1))) Kr;have e5:(upd H4 rl (.lst (ys.map (·.1)))) rl=some (.lst (ys.map (·.1))):=aB;generalize upd H4 rl (.lst (ys.map (·.1)))=H5 at s5 e5 ⊢;have QQ:=S3.trans (s4.trans s5);rw[List.length_map]at HM;refine⟨_,rfl,zz0,λel zW=>?_⟩;have s6:=(aI.refl H5).new (o:=.lst []) zW;have e6:(upd H5 el (.lst [])) el=some (.lst []):=aB;generalize upd H5 el (.lst [])=H6 at s6 e6 ⊢;have FI:=QQ.trans s6;have Ks:=s6 _ _ e5;by_cases cz:zs=[]
 ·subst cz;obtain rfl:ys=[]:=List.length_eq_zero_iff.mp (by rw[HM,ql];rfl);refine⟨rl,el,_,_,rfl,rfl,af.of Ks,af.of e6,.inl ⟨rfl,λj u v hu=>(by cases hu),_,rfl,?_⟩⟩;refine(show if(!false)=true then _ else _ from gh ?_);cases fd with
  |way p hl ws ps n h1 h2 h3 h4 h5 QR h7 h8 =>
   have:=rW ⟨h7,h8⟩ h6 en;rw[<-z3]at this;exact absurd this List.not_mem_nil
  |side p ns h1 h2 h3 h4 h5 h7 =>
   have r6:=FI.tup h1;have p6:=FI.tup h2;refine⟨_,rfl,r,_,_,.str "side",rfl,rfl,r6,rfl,rfl,_,rfl,nR rfl ?_⟩;refine⟨_,rfl,r,_,rfl,.inr r6,rfl,_,rfl,nR rfl ?_⟩;refine⟨_,rfl,r,_,_,.ref p,rfl,rfl,r6,rfl,_,_,_,true,rfl,.tup p6,T.cP,_,rfl,?_⟩;refine(show if(!true)=true then _ else _ from c8 ?_);refine⟨_,rfl,r,_,_,.ref p,rfl,rfl,r6,rfl,p,rfl,⟨_,p6⟩,λD2 HK=>?_⟩;refine Az (K:=K) (a:=p) (xs:=ns.map V.int) (λi σ H'=>∃v:Option V,σ=[v]/\aI H6 H'/\H' D2=some (.lst [])) ⟨none,rfl,(aI.refl _).new HK,aB⟩ (λi σ H' _ ⟨_,_,s,_⟩=>s.tup p6) ?_ ?_
   ·rintro i y σ IX N hN hi ⟨v,rfl,Fy,Jy⟩;obtain⟨n,_,rfl⟩:=fe hi;refine turn_if ?_;refine⟨_,rfl,n,rfl,_,rfl,?_⟩;refine(show if(!true)=true then _ else _ from c8 ?_);exact hN _ _ ⟨_,rfl,Fy,Jy⟩
   rintro σ H7 ⟨v,rfl,s7,e7⟩;refine⟨D2,_,rfl,.inl (af.of e7),_,_,rfl,rfl,_,rfl,c8 ?_⟩;have G0:=FI.trans s7;refine⟨_,rfl,_,rfl,_,rfl,_,rfl,r,_,_,.ref p,rfl,rfl,s7.tup r6,rfl,l,p,one,other,ts,ns,rfl,ED.same G0,tl,s7.tup p6,by lia,λb H8 s8 hb=>?_⟩;obtain rfl:b=true:=hb.mpr (xF.mpr h4);refine⟨_,rfl,gh ?_⟩;refine⟨_,rfl,_,rfl,_,rfl,?_⟩;show eW K t.Map [.ref x,.int one,.int other] H8 _ _;refine xH (QN.same (G0.trans s8)) ml Bx hq tX Gz ho λr2 H9 s9 Mv=>?_;have Mw:=G0.trans (s8.trans s9);cases Mv with
   |way p2 HF Mx OD n2 g1 g2 g3 g4 g5 g6 g7=>exact absurd g7.wk (h7 _)
   |side p2 J0 g1 g2 g3 g4 g5 g7 =>
    obtain rfl:J0=ns:=zu g4.r.r h4.r.r λy=>(g5 y).trans (h5 y).symm;have d1:aQ K H9 8 (.ref r2) (yY J0):=vG g1 g2;refine⟨_,rfl,yY J0,yY J0,d1,vG (Mw.tup h1) (Mw.tup h2),?_⟩;rw[d1.eqv];exact q _ (s1.trans Mw)
 refine⟨rl,el,_,_,rfl,rfl,af.of Ks,af.of e6,.inr ⟨λz=>cz (List.length_eq_zero_iff.mp (by rw[List.length_map,HM,ql]at z;exact z)),_,rfl,?_⟩⟩;refine c8 ?_;obtain⟨z0,Mq⟩:∃z,z∈zs:=by
  cases zs with
  |nil=>exact absurd rfl cz
  |cons z _=>exact⟨z,List.mem_cons_self⟩
 cases fd with
 |side p ns h1 h2 h3 h4 h5 h7 =>
  obtain⟨cb,g⟩:=good z0 Mq;exact absurd g.w.wk (h7 _)
 |way p hl ws ps n h1 h2 h3 h4 h5 QR h7 h8 h9 QS QT =>
  obtain⟨y0,yr,rfl⟩:∃y yr,ys=y::yr:=by
   cases ys with
   |nil=>rw[ql]at HM;exact absurd (List.length_eq_zero_iff.mp HM.symm) cz
   |cons y yr=>exact⟨y,yr,rfl⟩
  obtain⟨q0,QU,rfl⟩:=List.mem_map.mp (QP y0 List.mem_cons_self);obtain⟨a1,a2,a3⟩:=t4 q0 QU;have QV:∃qw∈qs,qw.2.2.2=ws:=by have:=rW ⟨h7,h8⟩ h6 en;rw[<-z3,<-yX,List.map_map]at this;obtain⟨qw,Kt,e⟩:=List.mem_map.mp this;exact⟨qw,Kt,e⟩
  obtain⟨qw,Kt,OE⟩:=QV;have QW:qw.2.2.1=n:=by have w1:=((t4 qw Kt).2.2.jC kn).1;rw[OE,(h7.jC kn).1]at w1;exact(Option.some.inj w1).symm
  have e0:q0.2.2.2=ws:=by
   have le:=Mu _ _ rfl _ (List.mem_map.mpr ⟨qw,Kt,rfl⟩);rw[FF,QW,OE]at le;have le:¬n::ws<q0.2.2.1::q0.2.2.2:=(by simpa using le);rcases h9 _ _ a3 with e|e
   ·exact(List.cons.inj e).2.symm
   exact absurd e le
  have r6:=FI.tup h1;have p6:=FI.tup h2;have OF:=(s5.trans s6).tup a1;have My:=(s5.trans s6).tup a2;rw[e0]at My;have QX:=h5.same FI;refine⟨_,rfl,_,rfl,_,rfl,_,rfl,r,p,hl,l,rl,q0.1,q0.2.1,other,q0.2.2.1,ts,eX,ws,ps,_,rfl,r6,p6,by lia,QX,by lia,ED.same FI,pos,h6,en,Ks,OF,My,QS,QT,λH7 s7=>?_⟩;refine⟨true,rfl,?_⟩;refine(show if(!true)=true then _ else _ from c8 ?_);have G0:=FI.trans s7;obtain⟨J1,v1,v2,v3⟩:=(h5.same G0).ex;have vl:J1.length<=13:=by have:=congrArg List.length v3;rw[List.length_map]at this;lia
  refine⟨_,rfl,r,_,_,.ref hl,rfl,rfl,G0.tup h1,rfl,.inl ⟨rfl,_,af.of v1⟩,zz2,λtp qK=>?_⟩;have s8:=(aI.refl H7).new (o:=.tup [.int 0,.int 0]) qK;generalize upd H7 tp (.tup [.int 0,.int 0])=H8 at s8 ⊢;have v8:=s8 _ _ v1;have Mz:=s7.trans s8;have kz:=bI (o:=.lst (J1.map (λz=>V.ref z.1)++[V.ref tp])) (mO.lst v8);refine⟨hl,_,_,rfl,rfl,v8,by rw[List.length_map];lia,?_⟩;have SH:aI H (upd H8 hl (.lst (J1.map (λz=>V.ref z.1)++[V.ref tp]))):=(s1.trans (G0.trans s8)).put h4;have QY:rl≠hl:=by obtain⟨w1,v1,_⟩:=h5.ex;exact(ag (((S3.trans s4)) _ _ v1) Kr).symm
  have e8:(upd H8 hl (.lst (J1.map (λz=>V.ref z.1)++[V.ref tp]))) rl=_:=(aL QY).trans (Mz _ _ Ks);have OG:=kz.tup (Mz.tup OF);have OH:=kz.tup (Mz.tup My);generalize upd H8 hl (.lst (J1.map (λz=>V.ref z.1)++[V.ref tp]))=H9 at SH e8 OG OH ⊢;refine⟨_,rfl,_,rfl,_,rfl,?_⟩;show eW K t.Map [.ref x,.int one,.int other] H9 _ _;refine xH (hM.same SH) ml Bx hq tX Gz ho λr2 HA sA Mv=>?_;cases Mv with
  |side p2 J0 g1 g2 g3 g4 g5 g7=>exact absurd h7.wk (g7 _)
  |way p2 HF Mx OD n2 g1 g2 g3 g4 g5 RI g7 g8 g9 QZ Qa =>
   obtain rfl:Mx=ws:=by
    rcases h9 _ _ g7 with e|e
    ·exact(List.cons.inj e).2.symm
    rcases g9 _ _ h7 with e'|e'
    ·exact(List.cons.inj e').2
    exact absurd e' (List.lt_asymm e)
   refine⟨_,rfl,_,rfl,_,rfl,r2,p2,HF,l,rl,q0.1,q0.2.1,other,q0.2.2.1,ts,eX,Mx,OD,_,rfl,g1,g2,by lia,g5,by lia,hw.same (SH.trans sA),pos,h6,en,sA _ _ e8,sA.tup OG,sA.tup OH,QZ,Qa,λHB sB=>q _ (SH.trans (sA.trans sB))⟩
theorem CL{K:PySem.W.Frag}{H:Hp}{r:Addr}{ts:List T3}(h:n9 K H r ts):aQ K H 8 (.ref r) (.list (ts.map qC)):=by
 obtain⟨zs,h1,h2,rfl⟩:=h;refine .lst (af.of h1) (by simp) λi v d e1 e2=>?_;rw[List.map_map,List.getElem?_map]at e2;rw[List.getElem?_map]at e1;cases e:zs[i]? with
 |none=>rw[e]at e1;cases e1
 |some z=>rw[e]at e1 e2;cases e1;cases e2;exact aQ.up (h2 z (List.mem_of_getElem? e)) (by decide)
theorem iO:aV ["script","houses","many","near","known","wires","at","one","other"] ["script"] (aH yH):=⟨rfl,rfl,rfl,by decide +kernel,rfl,by decide +kernel,by decide +kernel⟩
set_option maxHeartbeats 4000000 in
theorem G1{f:Addr}{fd fw:FuncData}(T:Txt K mg t)(F:qH K "law" "law" yH f fd)(bX:Def P w K mg base 1 "_law_cell_at" ["script","k"] (dq K))(bE:Def P w K mg base 1 "_law_mixed" ["cell","k"] dQ)(je:Def P w K mg base 4 "_law_news" ["script","extra"] (mT K))(lB:Def P w K mg base 6 "_law_map" ["houses","many","near"] (nq K t.Map))(iP:Def P w K mg base 1 "_law_wires" ["houses","many","near"] (kO K))(iQ:Def P w K mg base 9 "_law_right" ["known","wires","one","other"] (kP K t.Map))(j5:cf P w K mg base (qI P w) 2 t.j3 fw ["self"] (pQ K t.Map))(j6:Binds K fw ["self"] []):cf P w K mg base (qI P w) 10 f fd ["script"] (qy K):=by
 refine F.Ow iO (λvs H Q E h=>?_) (λf bf A outer s H vs Q E hr h=>?_)
 ·obtain⟨a,ns,rfl,_⟩:=h;rfl
 obtain⟨sc,cs,rfl,hS,hlen,q⟩:=h;refine⟨_,aE (vU (aa (je.mono (by decide)) hr aq (aA (pv 0) (aA aG aC))) (hE rfl (aU (aK (i:=1) iO.nd rfl (Or.inl rfl)) (aU (aK (i:=2) iO.nd rfl (Or.inl rfl)) (aU (aK (i:=3) iO.nd rfl (Or.inl rfl)) dM)))))
  (aE (aY (i:=4) iO.nd rfl (Or.inl rfl) (aa (lB.mono (by decide)) hr aq (aA (pv 1) (aA (pv 2) (aA (pv 3) aC)))))
  (aE (aY (i:=5) iO.nd rfl (Or.inl rfl) (aa (iP.mono (by decide)) hr aq (aA (pv 1) (aA (pv 2) (aA (pv 3) aC)))))
  (aE (aY (i:=6) iO.nd rfl (Or.inl rfl) (aa (bE.mono (by decide)) hr aq (aA (aa (bX.mono (by decide)) hr aq (aA (pv 0) (aA aG aC))) (aA aG aC))))
  (aE (PS.rj (bJ PassesOwn.never rfl (bC K (ao (oG K) (lV (lg K) (pv 1) rp (lU (pv 2))) (lV (lg K) (pv 1) (lU aG) rp))) (aK (i:=7) iO.nd rfl (Or.inl rfl))
   (aF (bJ PassesOwn.never rfl (bC K (cB (aA (aO (aN K) (pv 1) (ao fA (pv 6) (pv 2)) (λ_ _=>rfl)) (aA (aO (aN K) (pv 1) (ao bK aG (ao fA (pv 6) aG)) (λ_ _=>rfl)) aC)))) (aK (i:=8) iO.nd rfl (Or.inl rfl))
    (aF (a9 (cc (cI (aa (iQ.mono (by decide)) hr aq (aA (pv 4) (aA (pv 5) (aA (pv 7) (aA (pv 8) aC)))))))
     (aF (ab gg))
     (ae)))))))
  (aF (ab (fb (oz K (df hr)) (oX (pv 4) T.pJ T.uh (j5.mono (by decide)) hr j6 .nil aq) (pv 5) (ah _)))))))),?_⟩
 have hsz:(20000:Nat)<=sizeLine:=by decide
 refine⟨_,rfl,sc,cs,0,rfl,hS,by lia,by decide,by decide,λr0 nl hl H1 os ds s1 HI nr nk hh rO ol d1 d6=>?_⟩;refine⟨r0,_,rfl,HI,rfl,_,_,rfl,_,_,rfl,_,_,rfl,rfl,?_⟩;refine⟨_,rfl,_,rfl,_,rfl,nl,hl,os,ds,rfl,nr,nk,hh,rO,ol,d1,d6,λx d H2 ms s2 nx RJ hM mo=>?_⟩;have mf:=mo.f hM.nd;have ml:ms.length<=6:=by rw[mo.l];exact d6
 obtain⟨Bx,hq⟩:=mf.ok λk y hy=>⟨(nr.d y (List.mem_of_getElem? hy)).nd,nk.Gu d6 (List.getElem?_eq_some_iff.mp hy).1 hy (nr.d y (List.mem_of_getElem? hy)).nd,λp hp=>(nk k y hy p hp).2⟩;have B7:=s2 _ _ hh;refine⟨_,rfl,_,rfl,_,rfl,nl,hl,os,ds,rfl,nr.same s2,B7,rO,ol,d6,λl H3 ts s3 w3 tm tp tl=>?_⟩;have tX:∀t,t∈ts↔cL ms t:=λt=>(tm t).trans (mf.Gw t).symm;have td:uy ts:=⟨λt ht=>((tm t).mp ht).1,tp.imp_of_mem λ{a b} ha hb h e=>by have:=nj hM.nd Bx ((tX a).mp ha) ((tX b).mp hb) e.1 e.2;rw[this]at h;exact List.lt_irrefl _ h⟩
 have en:∀t∈ts,t.1∈os.take 6/\t.2.1∈os.take 6:=λt ht=>by obtain⟨_,i,j,e1,e2,h1,h2,⟨x1,g1,_⟩,⟨x2,g2,_⟩,_⟩:=(tm t).mp ht;have i1:i<ds.length:=(List.getElem?_eq_some_iff.mp g1).1;have j1:j<ds.length:=(List.getElem?_eq_some_iff.mp g2).1;have tk:∀{k:Nat}{h:Int},k<ds.length->os[k]?=some h->h∈os.take 6:=λ{k h} hk e=>List.mem_of_getElem? (show(os.take 6)[k]?=some h by rw[List.getElem?_take_of_lt (by lia)];exact e);exact⟨tk i1 h1,tk j1 h2⟩
 have Gz:∀t∈ts,(0<=t.1/\t.1<32)/\(0<=t.2.1/\t.2.1<32):=λt ht=>⟨rO.b _ (List.mem_of_mem_take (en t ht).1),rO.b _ (List.mem_of_mem_take (en t ht).2)⟩;have h6:(os.take 6).length=6:=by rw[List.length_take];lia
 have pos:∀t∈ts,1<=t.2.2:=λt h=>by obtain⟨a,b,_,h1⟩:=(pS hq tX td).1.2 _ (bB.mpr ⟨t,h,.inl rfl⟩);exact h1.1
 have S3:=s1.trans (s2.trans s3);have M0:=s3 _ _ B7;have mp:(0:Int)<(ds.length:Nat):=by lia
 refine⟨_,rfl,sc,cs,0,rfl,S3.seq hS,by decide,λc0=>?_⟩;refine⟨c0,80,rfl,by decide,by decide,λm m0=>?_⟩;obtain⟨k,hk,kl⟩:∃k:Nat,m%(ds.length:Nat)=(k:Int)/\k<ds.length:=by have h0:=Int.emod_nonneg m (show((ds.length:Nat):Int)≠0 by lia);have h1:=Int.emod_lt_of_pos m mp;exact⟨(m%(ds.length:Nat)).toNat,by lia,by lia⟩
 obtain⟨oa,eo⟩:∃h,os[k]?=some h:=⟨os[k]'(by lia),by simp[show k<os.length by lia]⟩;obtain⟨k2,wU,Qb⟩:∃k:Nat,6+m%2=(k:Int)/\k<os.length:=by have h0:=Int.emod_nonneg m (show(2:Int)≠0 by decide);have h1:=Int.emod_lt_of_pos m (show(0:Int)<2 by decide);exact⟨(6+m%2).toNat,by lia,by lia⟩
 obtain⟨ob,eb⟩:∃h,os[k2]?=some h:=⟨os[k2],by simp[Qb]⟩;have ec:n5 (os.map V.int) none (some ((ds.length:Nat):Int))=(os.take ds.length).map V.int:=by rw[Dq (by lia),<-List.map_take];rfl
 refine⟨_,rfl,_,rfl,_,rfl,hl,_,rfl,af.of M0,λsl Dy=>?_⟩;rw[ec];have s4:=(aI.refl H3).new (o:=.lst ((os.take ds.length).map V.int)) Dy;have e4:(upd H3 sl (.lst ((os.take ds.length).map V.int))) sl=some (.lst ((os.take ds.length).map V.int)):=aB;generalize upd H3 sl (.lst ((os.take ds.length).map V.int))=H4 at s4 e4 ⊢;refine⟨_,rfl,_,rfl,hl,_,rfl,af.of (s4 _ _ M0),λvj M3=>?_⟩;have Qc:n5 (os.map V.int) (some 6) none=(os.drop 6).map V.int:=by rw[yI (by decide),<-List.map_drop];rfl
 rw[Qc];have s5:=(aI.refl H4).new (o:=.lst ((os.drop 6).map V.int)) M3;have e5:(upd H4 vj (.lst ((os.drop 6).map V.int))) vj=some (.lst ((os.drop 6).map V.int)):=aB;generalize upd H4 vj (.lst ((os.drop 6).map V.int))=H5 at s5 e5 ⊢;refine⟨sl,vj,_,_,rfl,rfl,af.of (s5 _ _ e4),af.of e5,by rw[List.length_map,List.length_map,List.length_take,List.length_drop];lia,λwl Ci=>?_⟩;have el:(os.take ds.length).map V.int++(os.drop 6).map V.int=(os.take ds.length++os.drop 6).map V.int:=by rw[List.map_append]
 rw[el];have s6:=(aI.refl H5).new (o:=.lst ((os.take ds.length++os.drop 6).map V.int)) Ci;have e6:(upd H5 wl (.lst ((os.take ds.length++os.drop 6).map V.int))) wl=some (.lst ((os.take ds.length++os.drop 6).map V.int)):=aB;generalize upd H5 wl (.lst ((os.take ds.length++os.drop 6).map V.int))=H6 at s6 e6 ⊢;have M4:=s4.trans (s5.trans s6);have Jt:=hM.same (s3.trans M4);have w6:=w3.same M4;have Qd:=M4 _ _ M0;have J2:∀n∈os.take ds.length++os.drop 6,0<=n/\n<32:=λn hn=>by
  rcases List.mem_append.mp hn with h|h
  ·exact rO.b _ (List.mem_of_mem_take h)
  exact rO.b _ (List.mem_of_mem_drop h)
 generalize os.take ds.length++os.drop 6=us at e6 J2
 let I:Nat->_->_->Prop:=λi σ H'=>∃v7 v8:Option V,σ=[some (.ref sc),some (.ref hl),some (.int (ds.length:Nat)),some (.ref nl),some (.ref x),some (.ref l),some (.int m),v7,v8]/\aI H6 H'
 refine⟨wl,rfl,⟨_,af.of e6⟩,cM (K:=K) (a:=wl) (xs:=us.map V.int) I ⟨none,none,rfl,.refl _⟩ (λi σ H' _ ⟨_,_,_,s⟩=>af.of (s _ _ e6)) ?_ ?_⟩
 ·rintro i y σ H7 hi ⟨v7,v8,rfl,s7⟩;obtain⟨one,M5,rfl⟩:=fe hi;have ho:=J2 one (List.mem_of_getElem? M5);have OI:=s7 _ _ Qd;refine⟨_,rfl,_,rfl,_,rfl,_,_,rfl,rfl,mp,hl,_,_,.int oa,rfl,rfl,af.of OI,by rw[hk];exact bM (by rw[List.getElem?_map,eo];rfl),?_⟩;refine⟨_,rfl,_,rfl,_,_,rfl,rfl,(by show(0:Int)<2;decide),_,_,rfl,rfl,hl,_,_,.int ob,rfl,rfl,af.of OI,by rw[wU];exact bM (by rw[List.getElem?_map,eb];rfl),zz2,λol JG=>?_⟩;have s8:=(aI.refl H7).new (o:=.lst ([oa,ob].map V.int)) JG;have e8:(upd H7 ol (.lst ([oa,ob].map V.int))) ol=some (.lst ([oa,ob].map V.int)):=aB;have S8:=s7.trans s8
  let I2:Nat->_->_->Prop:=λi σ H'=>∃v8:Option V,σ=[some (.ref sc),some (.ref hl),some (.int (ds.length:Nat)),some (.ref nl),some (.ref x),some (.ref l),some (.int m),some (.int one),v8]/\aI (upd H7 ol (.lst ([oa,ob].map V.int))) H'
  refine⟨ol,rfl,⟨_,af.of e8⟩,cM (K:=K) (a:=ol) (xs:=[oa,ob].map V.int) I2 ⟨_,rfl,.refl _⟩ (λi σ H' _ ⟨_,_,s⟩=>af.of (s _ _ e8)) ?_ ?_⟩
  ·rintro i2 y2 σ2 H9 GN ⟨Qe,rfl,s9⟩;obtain⟨other,_,rfl⟩:=fe GN;have S9:=S8.trans s9;refine⟨_,rfl,_,rfl,_,rfl,_,rfl,x,d,l,one,other,ms,ts,os.take 6,rfl,Jt.same S9,by lia,Bx,hq,w6.same S9,td,by lia,tX,pos,h6,en,Gz,ho,λHA sA=>⟨true,rfl,?_⟩⟩;refine(show if(!true)=true then _ else _ from c8 ?_);exact⟨_,rfl,s9.trans sA⟩
  rintro σ2 H9 ⟨Qe,rfl,s9⟩;exact⟨_,_,rfl,S8.trans s9⟩
 rintro σ H7 ⟨v7,v8,rfl,s7⟩;have Kh:=Jt.same s7;obtain⟨Qf,Qg⟩:=Kh.o;refine⟨_,rfl,x,Qf,_,rfl,Qg,rfl,x,d,ms,rfl,Kh,by lia,Bx,λRK H9 RL s9 Qh w9 Qi Qj _=>?_⟩;obtain rfl:=uv tp Qj λt=>(tX t).trans (Qi t).symm;have OJ:=CL w9;refine⟨_,rfl,_,_,OJ,CL (w6.same (s7.trans s9)),?_⟩;rw[if_neg (by decide),OJ.eqv];exact q _
theorem EI{f:Addr}{fd:FuncData}(T:Txt K mg t)(F:qH K "law" "law" yH f fd)(lC:aM K mg "is_house" iH)(iR:aM K mg "lengths_of" eF)(iS:aM K mg "heights_to" eG)(iT:aM K mg "next_house" cq)(jf:aM K mg "least_way" fg)(pZ:aM K mg "way_of" jN)(iU:aM K mg "look_house" eI)(gL:aM K mg "look_bounds" dN)(gM:aM K mg "look_unlike" dO)(iV:aM K mg "look_names" eJ)(jg:aM K mg "made_wire" fj)(jh:aM K mg "made_near" cU)(ji:aM K mg "made_news" fk)(fN:aM K mg "_law_cell_at" cu)(iW:aM K mg "_law_mixed" eK)(iX:aM K mg "_law_drawn" eM)(gN:aM K mg "_law_houses" br)(jn:aM K mg "_law_told" fm)(jo:aM K mg "_law_news" cV)(lD:aM K mg "_law_map" fF)(iY:aM K mg "_law_wires" eN)(lE:aM K mg "_law_far" iI)(jq:aM K mg "_law_ways" cW)(gO:aM K mg "_law_length" cN)(c6:aM K mg "_law_side_right" bO)(iZ:aM K mg "_law_whole" eO)(dI:aM K mg "_law_way_right" bH)(ic:aM K mg "_law_right" cD):cf P w K mg base (qI P w) 10 f fd ["script"] (qy K):=by obtain⟨Ku,CM⟩:=T.fi;obtain⟨Kv,CN⟩:=T.GY;obtain⟨Kw,CO⟩:=T.GZ;obtain⟨J3,z7⟩:=T.Dp;have kr:=uk (P:=P) (w:=w) (base:=base) lC T;have cE:=qP iU T kr;have bU:=pL (P:=P) (w:=w) (base:=base) gL T;have bt:=pN (P:=P) (w:=w) (base:=base) gM T;have iK:=qQ iV T bt;have jP:=sX jg T cE bU;have jQ:=sZ jh T jP bt;have ja:=sg ji T cE bU iK jQ;obtain⟨wz,w8⟩:=Du (P:=P) (w:=w) (base:=base) T CM;obtain⟨xA,xB⟩:=Dv (P:=P) (w:=w) (base:=base) T CN;obtain⟨wj,wm⟩:=Dx (P:=P) (w:=w) (base:=base) T CO;obtain⟨j5,j6⟩:=Bq T z7 wj wm;have iM:=qT iR T j5 j6;have eT:=qU (P:=P) (w:=w) (base:=base) iS T;have iL:=qW (P:=P) (w:=w) (base:=base) iT T;have jW:=su jf T iL;have jd:=zk pZ T iM eT jW;have bX:=oB (P:=P) (w:=w) (base:=base) fN T;have bE:=qX (P:=P) (w:=w) (base:=base) iW T;have cF:=qY iX T bE;have gH:=pU (P:=P) (w:=w) (base:=base) gN T;have jZ:=sv jn T cF;have je:=sx jo T bX bE cF gH jZ;have lB:=vA lD T wz w8 xA xB ja;have iP:=qc (P:=P) (w:=w) (base:=base) iY T;have de:=tH (P:=P) (w:=w) (base:=base) jq T;have gK:=pY (P:=P) (w:=w) (base:=base) gO T;have cy:=k9 (P:=P) (w:=w) (base:=base) c6 T;have lA:=vF (P:=P) (w:=w) (base:=base) lE T;have bR:=qe (P:=P) (w:=w) (base:=base) iZ T;have cG:=mU dI T lA bR;have iQ:=qf ic T jd de gK bR cy cG;exact G1 T F bX bE je lB iP iQ j5 j6
end
end K49
namespace K49
open PySem L2 PyProof.Rows
theorem G2{K:PySem.W.Frag}{h:Heap}{mg:Str->Option Value}{cH fO pf gq gs eY dJ gu:Addr}{xI nC ph pq qg oE pz:Tok}{Qk:Value}{Ql Qm:Option Addr}{M6:Array (Option Value)}{Qn M7 Qo J4 Qp:Value}{EJ:Value}{EK EL:Option Addr}{CP:Array (Option Value)}{EM CQ EN vH EO:Value}{ER:Value}{ES ET:Option Addr}{CS:Array (Option Value)}{EU CT EV vI EW:Value}{CU:Value}{CV CW:Option Addr}{z8:Array (Option Value)}{CY z9 CZ rY Ca:Value}{AA:Value}{AB AD:Option Addr}{xJ:Array (Option Value)}{AE xK AF p0 AG:Value}{EX:Value}{EY EZ:Option Addr}{Cb:Array (Option Value)}{Ea Cc Eb vJ Ec:Value}(KX:K.In h)(G:h.Ns mainGlobals mg)(lF:PySem.W.nsIn K mainGlobals "BadNews"=some (some (.ref cH)))(xM:PySem.W.nsIn K mainGlobals "Map"=some (some (.ref fO)))(nE:PySem.W.nsIn K mainGlobals "HOUSES"=some (some (.int 32 xI)))(du:PySem.W.nsIn K mainGlobals "LONGEST_NAME"=some (some (.int 4 nC)))(gP:PySem.W.nsIn K mainGlobals "MOST_BIRTH"=some (some (.int 9000 ph)))(gQ:PySem.W.nsIn K mainGlobals "MOST_NAMES"=some (some (.int 4 pq)))(ig:PySem.W.nsIn K mainGlobals "MOST_NEAR"=some (some (.int 5 qg)))(fP:PySem.W.nsIn K mainGlobals "MOST_NUMBER"=some (some (.int 900000 oE)))(gR:PySem.W.nsIn K mainGlobals "MOST_QUIET"=some (some (.int 10 pz)))(tM:PySem.W.nsIn K mainGlobals "all"=some none)(p5:PySem.W.nsIn K mainGlobals "bool"=some none)(tN:PySem.W.nsIn K mainGlobals "int"=some none)(fQ:PySem.W.nsIn K mainGlobals "isinstance"=some none)(tO:PySem.W.nsIn K mainGlobals "len"=some none)(p8:PySem.W.nsIn K mainGlobals "list"=some none)(tP:PySem.W.nsIn K mainGlobals "max"=some none)(tQ:PySem.W.nsIn K mainGlobals "min"=some none)(nF:PySem.W.nsIn K mainGlobals "range"=some none)(tR:PySem.W.nsIn K mainGlobals "set"=some none)(lG:PySem.W.nsIn K mainGlobals "sorted"=some none)(nG:PySem.W.nsIn K mainGlobals "tuple"=some none)(lH:PySem.W.excIn K cH [.type "ValueError",.type "Exception",.type "BaseException",.type "object"] "ValueError.__new__"=true)(gS:PySem.W.findIn K (.ref cH) "__getattribute__"=some (some (.builtin "BaseException.__getattribute__")))(fR:PySem.W.findIn K (.ref cH) "__getattr__"=some none)(fS:PySem.W.findIn K (.ref cH) "__class__"=some (some (.builtin "object.__class__")))(fT:PySem.W.isClsIn K cH=true)(fU:PySem.W.mroIn K cH (.type "object")=some true)(dv:PySem.W.subIn K (.ref cH) (.type "BaseException")=some true)(nH:PySem.W.makesIn K fO=true)(p9:PySem.W.findIn K (.ref fO) "__init__"=some (some (.ref pf)))(xN:PySem.W.isFn K (.ref pf)=true)(xO:PySem.W.keepIn K (.ref fO)=true)(xP:K.lookup pf=some ⟨Qk,Ql,.func (PySem.W.fnOf "__init__" "Map.__init__" (bz mz) (bN mz) (aH mz) .none Qn M7 Qo Qm J4 Qp),M6⟩)(xQ:PySem.W.codeIn K J4 "Map.__init__"=true)(xR:PySem.W.keepIn K (.ref pf)=true)(nI:PySem.W.plainGet K fO Str.empty=true)(nJ:PySem.W.hasDictIn K fO=true)(nK:PySem.W.plainOver K fO=true)(nL:PySem.W.findIn K (.ref fO) "__setattr__"=some (some (.builtin "object.__setattr__")))(jr:PySem.W.findIn K (.ref fO) "latest"=some none)(gT:PySem.W.findIn K (.ref fO) "hear"=some (some (.ref gq)))(ij:PySem.W.isFn K (.ref gq)=true)(ik:PySem.W.keepIn K (.ref gq)=true)(lI:K.lookup gq=some ⟨EJ,EK,.func (PySem.W.fnOf "hear" "Map.hear" (bz m7) (bN m7) (aH m7) .none EM CQ EN EL vH EO),CP⟩)(lJ:PySem.W.codeIn K vH "Map.hear"=true)(lK:PySem.W.keepIn K (.ref gq)=true)(gU:PySem.W.findIn K (.ref fO) "news"=some (some (.ref gs)))(iq:PySem.W.isFn K (.ref gs)=true)(ir:PySem.W.keepIn K (.ref gs)=true)(lL:K.lookup gs=some ⟨ER,ES,.func (PySem.W.fnOf "news" "Map.news" (bz ko) (bN ko) (aH ko) .none EU CT EV ET vI EW),CS⟩)(lM:PySem.W.codeIn K vI "Map.news"=true)(lN:PySem.W.keepIn K (.ref gs)=true)(fV:PySem.W.findIn K (.ref fO) "wires"=some (some (.ref eY)))(gW:PySem.W.isFn K (.ref eY)=true)(gX:PySem.W.keepIn K (.ref eY)=true)(js:K.lookup eY=some ⟨CU,CV,.func (PySem.W.fnOf "wires" "Map.wires" (bz j0) (bN j0) (aH j0) .none CY z9 CZ CW rY Ca),z8⟩)(jt:PySem.W.codeIn K rY "Map.wires"=true)(ju:PySem.W.keepIn K (.ref eY)=true)(dy:PySem.W.findIn K (.ref fO) "holder"=some (some (.ref dJ)))(fX:PySem.W.isFn K (.ref dJ)=true)(fY:PySem.W.keepIn K (.ref dJ)=true)(iu:K.lookup dJ=some ⟨AA,AB,.func (PySem.W.fnOf "holder" "Map.holder" (bz mG) (bN mG) (aH mG) .none AE xK AF AD p0 AG),xJ⟩)(iw:PySem.W.codeIn K p0 "Map.holder"=true)(iy:PySem.W.keepIn K (.ref dJ)=true)(gY:PySem.W.findIn K (.ref fO) "copy"=some (some (.ref gu)))(iz:PySem.W.isFn K (.ref gu)=true)(i6:PySem.W.keepIn K (.ref gu)=true)(lO:K.lookup gu=some ⟨EX,EY,.func (PySem.W.fnOf "copy" "Map.copy" (bz sT) (bN sT) (aH sT) .none Ea Cc Eb EZ vJ Ec),Cb⟩)(lP:PySem.W.codeIn K vJ "Map.copy"=true)(lQ:PySem.W.keepIn K (.ref gu)=true)(fZ:PySem.W.kitOne K (.type "int") (.type "bool")=some false)(gZ:PySem.W.kitOne K (.type "int") (.type "int")=some true)(dz:PySem.W.kitOne K (.type "list") (.type "list")=some true)(c7:PySem.W.kitOne K (.type "tuple") (.type "tuple")=some true): ∃t,Txt K mg t:=⟨⟨cH,fO,pf,gq,gs,eY,dJ,gu⟩,⟨⟨_,PySem.W.mg_of KX G nE⟩,⟨_,PySem.W.mg_of KX G du⟩,⟨_,PySem.W.mg_of KX G gP⟩,⟨_,PySem.W.mg_of KX G gQ⟩,⟨_,PySem.W.mg_of KX G ig⟩,⟨_,PySem.W.mg_of KX G fP⟩,⟨_,PySem.W.mg_of KX G gR⟩,PySem.W.mg_none_of KX G tM,PySem.W.mg_none_of KX G p5,PySem.W.mg_none_of KX G tN,PySem.W.mg_none_of KX G fQ,PySem.W.mg_none_of KX G tO,PySem.W.mg_none_of KX G p8,PySem.W.mg_none_of KX G tP,PySem.W.mg_none_of KX G tQ,PySem.W.mg_none_of KX G nF,PySem.W.mg_none_of KX G tR,PySem.W.mg_none_of KX G lG,PySem.W.mg_none_of KX G nG,PySem.W.mg_of KX G lF,PySem.W.mg_of KX G xM,lH,⟨gS,fR,fS,fT,fU,dv⟩,⟨nH,p9,xN,xO⟩,⟨_,kU xP xQ xR⟩,⟨nI,nJ,nK,nL⟩,jr,⟨gT,ij,ik⟩,⟨_,kU lI lJ lK⟩,⟨gU,iq,ir⟩,⟨_,kU lL lM lN⟩,⟨fV,gW,gX⟩,⟨_,kU js jt ju⟩,⟨dy,fX,fY⟩,⟨_,kU iu iw iy⟩,⟨gY,iz,i6⟩,⟨_,kU lO lP lQ⟩,fZ,gZ,dz,c7⟩⟩
end K49
open PySem PySem.W PyProof.Rows
structure PySem.W.Fast:Prop where(tw18274832793880024326 tw15775269429269662775 tw809661710056282699 tw10777485393822121892 tw5676069883362703056 tw12920501669368598750 tw6630358045800324959 tw1357368527444852984 tw12565635490271016243 tw14360445016641963034 tw13329016675872431167 tw9261765711677546651 tw15229961587096988672 tw6890395156974110318 tw3315186840480490735 tw6884919123695956643 tw8704898498145160482 tw12632286001298426314 tw4691047896488905637 tw11981517127905048147 tw3685610487201479596 tw9209618131066974178 tw1226467129731806378 tw738656285159713952 tw5182093396273676594 tw3180829802019710182 tw4757074467519421295 tw1003248152657964551 tw1106576131158697491 tw4278741110736571533 tw14404191315364852416 tw2103391258399777934 tw9401080223521222509 tw17704500647625422418 tw2225348473127882742 tw15880068168940341821 tw5810515380583312453 tw15160672885913575057 tw14819117063028194788 tw12054490160713226680 tw12308998625951650715:True)
set_option maxRecDepth 100000 in
set_option maxHeartbeats 0 in
theorem PySem.Challenge.cw_stormpost_k49_ways_or_sides_told_holds : PySem.Challenge.rw_stormpost_k49_ways_or_sides_told.Holds := by
 w_on;o_law;k_head;(case hw=>w_witness2)
 k_fill
 refine L2.Aw (l:=PySem.Challenge.rw_stormpost_k49_ways_or_sides_told) (k:=10) ⟨rfl,by decide,by decide⟩ rfl rfl (λw h Y=>PySem.W.kIn_of Y) ?F
 case F =>
  intro w mg fa h KX G Fv;have lC:L2.aM (L2.cZ KX) mg "is_house" K49.iH:=by dsimp only[L2.cZ];refine' L2.aM.mk' KX G _ _ _ _;any_goals k_is
  have iR:L2.aM (L2.cZ KX) mg "lengths_of" K49.eF:=by dsimp only[L2.cZ];refine' L2.aM.mk' KX G _ _ _ _;any_goals k_is
  have iS:L2.aM (L2.cZ KX) mg "heights_to" K49.eG:=by dsimp only[L2.cZ];refine' L2.aM.mk' KX G _ _ _ _;any_goals k_is
  have iT:L2.aM (L2.cZ KX) mg "next_house" K49.cq:=by dsimp only[L2.cZ];refine' L2.aM.mk' KX G _ _ _ _;any_goals k_is
  have jf:L2.aM (L2.cZ KX) mg "least_way" K49.fg:=by dsimp only[L2.cZ];refine' L2.aM.mk' KX G _ _ _ _;any_goals k_is
  have pZ:L2.aM (L2.cZ KX) mg "way_of" K49.jN:=by dsimp only[L2.cZ];refine' L2.aM.mk' KX G _ _ _ _;any_goals k_is
  have iU:L2.aM (L2.cZ KX) mg "look_house" K49.eI:=by dsimp only[L2.cZ];refine' L2.aM.mk' KX G _ _ _ _;any_goals k_is
  have gL:L2.aM (L2.cZ KX) mg "look_bounds" K49.dN:=by dsimp only[L2.cZ];refine' L2.aM.mk' KX G _ _ _ _;any_goals k_is
  have gM:L2.aM (L2.cZ KX) mg "look_unlike" K49.dO:=by dsimp only[L2.cZ];refine' L2.aM.mk' KX G _ _ _ _;any_goals k_is
  have iV:L2.aM (L2.cZ KX) mg "look_names" K49.eJ:=by dsimp only[L2.cZ];refine' L2.aM.mk' KX G _ _ _ _;any_goals k_is
  have jg:L2.aM (L2.cZ KX) mg "made_wire" K49.fj:=by dsimp only[L2.cZ];refine' L2.aM.mk' KX G _ _ _ _;any_goals k_is
  have jh:L2.aM (L2.cZ KX) mg "made_near" K49.cU:=by dsimp only[L2.cZ];refine' L2.aM.mk' KX G _ _ _ _;any_goals k_is
  have ji:L2.aM (L2.cZ KX) mg "made_news" K49.fk:=by dsimp only[L2.cZ];refine' L2.aM.mk' KX G _ _ _ _;any_goals k_is
  have fN:L2.aM (L2.cZ KX) mg "_law_cell_at" K49.cu:=by dsimp only[L2.cZ];refine' L2.aM.mk' KX G _ _ _ _;any_goals k_is
  have iW:L2.aM (L2.cZ KX) mg "_law_mixed" K49.eK:=by dsimp only[L2.cZ];refine' L2.aM.mk' KX G _ _ _ _;any_goals k_is
  have iX:L2.aM (L2.cZ KX) mg "_law_drawn" K49.eM:=by dsimp only[L2.cZ];refine' L2.aM.mk' KX G _ _ _ _;any_goals k_is
  have gN:L2.aM (L2.cZ KX) mg "_law_houses" K49.br:=by dsimp only[L2.cZ];refine' L2.aM.mk' KX G _ _ _ _;any_goals k_is
  have jn:L2.aM (L2.cZ KX) mg "_law_told" K49.fm:=by dsimp only[L2.cZ];refine' L2.aM.mk' KX G _ _ _ _;any_goals k_is
  have jo:L2.aM (L2.cZ KX) mg "_law_news" K49.cV:=by dsimp only[L2.cZ];refine' L2.aM.mk' KX G _ _ _ _;any_goals k_is
  have lD:L2.aM (L2.cZ KX) mg "_law_map" K49.fF:=by dsimp only[L2.cZ];refine' L2.aM.mk' KX G _ _ _ _;any_goals k_is
  have iY:L2.aM (L2.cZ KX) mg "_law_wires" K49.eN:=by dsimp only[L2.cZ];refine' L2.aM.mk' KX G _ _ _ _;any_goals k_is
  have lE:L2.aM (L2.cZ KX) mg "_law_far" K49.iI:=by dsimp only[L2.cZ];refine' L2.aM.mk' KX G _ _ _ _;any_goals k_is
  have jq:L2.aM (L2.cZ KX) mg "_law_ways" K49.cW:=by dsimp only[L2.cZ];refine' L2.aM.mk' KX G _ _ _ _;any_goals k_is
  have gO:L2.aM (L2.cZ KX) mg "_law_length" K49.cN:=by dsimp only[L2.cZ];refine' L2.aM.mk' KX G _ _ _ _;any_goals k_is
  have c6:L2.aM (L2.cZ KX) mg "_law_side_right" K49.bO:=by dsimp only[L2.cZ];refine' L2.aM.mk' KX G _ _ _ _;any_goals k_is
  have iZ:L2.aM (L2.cZ KX) mg "_law_whole" K49.eO:=by dsimp only[L2.cZ];refine' L2.aM.mk' KX G _ _ _ _;any_goals k_is
  have dI:L2.aM (L2.cZ KX) mg "_law_way_right" K49.bH:=by dsimp only[L2.cZ];refine' L2.aM.mk' KX G _ _ _ _;any_goals k_is
  have ic:L2.aM (L2.cZ KX) mg "_law_right" K49.cD:=by dsimp only[L2.cZ];refine' L2.aM.mk' KX G _ _ _ _;any_goals k_is
  have J5:L2.aM (L2.cZ KX) mg "law" K49.yH:=by dsimp only[L2.cZ];refine' L2.aM.mk' KX G _ _ _ _;any_goals k_is
  have T:∃t,K49.Txt (L2.cZ KX) mg t:=by
   dsimp only[L2.cZ];refine' K49.G2 KX G ?lF ?xM ?nE ?du ?gP ?gQ ?ig ?fP ?gR ?tM ?p5 ?tN ?fQ ?tO ?p8 ?tP ?tQ ?nF ?tR ?lG ?nG ?lH ?gS ?fR ?fS ?fT ?fU ?dv ?nH ?p9 ?xN ?xO ?xP ?xQ ?xR ?nI ?nJ ?nK ?nL ?jr ?gT ?ij ?ik ?lI ?lJ ?lK ?gU ?iq ?ir ?lL ?lM ?lN ?fV ?gW ?gX ?js ?jt ?ju ?dy ?fX ?fY ?iu ?iw ?iy ?gY ?iz ?i6 ?lO ?lP ?lQ ?fZ ?gZ ?dz ?c7
   (case lF=>k_is)
   (case xM=>k_is)
   (case nE=>k_is)
   (case du=>k_is)
   (case gP=>k_is)
   (case gQ=>k_is)
   (case ig=>k_is)
   (case fP=>k_is)
   (case gR=>k_is)
   (case tM=>k_is)
   (case p5=>k_is)
   (case tN=>k_is)
   (case fQ=>k_is)
   (case tO=>k_is)
   (case p8=>k_is)
   (case tP=>k_is)
   (case tQ=>k_is)
   (case nF=>k_is)
   (case tR=>k_is)
   (case lG=>k_is)
   (case nG=>k_is)
   (case lH=>k_exc)
   (case gS=>k_is)
   (case fR=>k_is)
   (case fS=>k_is)
   (case fT=>k_is)
   (case fU=>k_is)
   (case dv=>k_is)
   (case nH=>k_is)
   (case p9=>k_is)
   (case xN=>k_is)
   (case xO=>k_is)
   (case xP=>k_is)
   (case xQ=>k_is)
   (case xR=>k_is)
   (case nI=>k_is)
   (case nJ=>k_is)
   (case nK=>k_is)
   (case nL=>k_is)
   (case jr=>k_is)
   (case gT=>k_is)
   (case ij=>k_is)
   (case ik=>k_is)
   (case lI=>k_is)
   (case lJ=>k_is)
   (case lK=>k_is)
   (case gU=>k_is)
   (case iq=>k_is)
   (case ir=>k_is)
   (case lL=>k_is)
   (case lM=>k_is)
   (case lN=>k_is)
   (case fV=>k_is)
   (case gW=>k_is)
   (case gX=>k_is)
   (case js=>k_is)
   (case jt=>k_is)
   (case ju=>k_is)
   (case dy=>k_is)
   (case fX=>k_is)
   (case fY=>k_is)
   (case iu=>k_is)
   (case iw=>k_is)
   (case iy=>k_is)
   (case gY=>k_is)
   (case iz=>k_is)
   (case i6=>k_is)
   (case lO=>k_is)
   (case lP=>k_is)
   (case lQ=>k_is)
   (case fZ=>kit_is)
   (case gZ=>kit_is)
   (case dz=>kit_is)
   (case c7=>kit_is)
  obtain⟨t,T⟩:=T;exact L2.Av J5 (λ_ _ _ _ _ _ us hl=>match us,hl with|[_],_=>rfl) Fv λf fd base F=>K49.EI T F lC iR iS iT jf pZ iU gL gM iV jg jh ji fN iW iX gN jn jo lD iY lE jq gO c6 iZ dI ic
#print axioms PySem.Challenge.cw_stormpost_k49_ways_or_sides_told_holds
