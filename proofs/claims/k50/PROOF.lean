import PyProof.Rows.All
import Wide.All
import OpenK.AllK
import Wide.FinOn
import Lean
import PyProof.EqAt
import PyProof.EqKinds
import PyProof.TupleCall
import PySem.Challenge.RW_stormpost_k50_whole_a_way_or_a_side
set_option genSizeOf false
set_option compiler.extract_closed false
set_option Elab.async false
set_option linter.all false
set_option maxRecDepth 100000
namespace L2
open PySem PySem.Spec PyProof.Rows
abbrev Key:=Sum Int Str
def tX:Key->Value->Bool
 |.inl k,v=>Value.isInt k v
 |.inr x,v=>Value.isStrOf x v
def Nh(w:World):Key->Int
 |.inl k=>hashInt k
 |.inr x=>hashStr w x
theorem bI:∀{k:Key}{v:Value},tX k v=true->(∃i t,k=Sum.inl i/\v=Value.int i t)\/(∃x t,k=Sum.inr x/\v=Value.str x t)
 |.inl i,v,h=>by obtain⟨t,e⟩:=Value.isInt_shape (k:=i) (v:=v) h;exact .inl ⟨i,t,rfl,e⟩
 |.inr x,v,h=>by obtain⟨t,e⟩:=Value.isStrOf_shape (x:=x) (v:=v) h;exact .inr ⟨x,t,rfl,e⟩
theorem BM(i:Int)(t:Tok):tX (.inl i) (.int i t)=true:=by simp[tX,Value.isInt]
theorem BN(x:Str)(t:Tok):tX (.inr x) (.str x t)=true:=by simp[tX,Value.isStrOf]
theorem IC(a b:Int):decide ((Sum.inl a:Key)=Sum.inl b)=(a==b):=by
 by_cases e:a=b
 ·subst e;simp
 have h:¬(Sum.inl a:Key)=Sum.inl b:=λq=>e (Sum.inl.inj q);rw[decide_eq_false h];exact(beq_eq_false_iff_ne.mpr e).symm
theorem ID(a b:Str):decide ((Sum.inr a:Key)=Sum.inr b)=decide (a=b):=by
 by_cases e:a=b
 ·subst e;simp
 have h:¬(Sum.inr a:Key)=Sum.inr b:=λq=>e (Sum.inr.inj q);rw[decide_eq_false h,decide_eq_false e]
theorem IE(a:Int)(b:Str):decide ((Sum.inl a:Key)=Sum.inr b)=false:=decide_eq_false (λq=>nomatch q)
theorem IF(a:Str)(b:Int):decide ((Sum.inr a:Key)=Sum.inl b)=false:=decide_eq_false (λq=>nomatch q)
def aL(prog:Program)(w:World):PySem.KeyKind prog w Key where
 is:=tX
 hash:=Nh w
 inj:=λv a b ha hb=>by
  rcases bI ha with⟨i,t,rfl,rfl⟩|⟨x,t,rfl,rfl⟩
  ·rcases bI hb with⟨j,u,rfl,e⟩|⟨y,u,rfl,e⟩
   ·injection e with e1 _;rw[e1]
   exact nomatch e
  rcases bI hb with⟨j,u,rfl,e⟩|⟨y,u,rfl,e⟩
  ·exact nomatch e
  injection e with e1 _;rw[e1]
 byValue:=λk v h=>by rcases bI h with⟨i,t,rfl,rfl⟩|⟨x,t,rfl,rfl⟩<;>rfl
 pyHash:=λhv h=>by
  rcases bI hv with⟨i,t,rfl,rfl⟩|⟨x,t,rfl,rfl⟩
  ·exact wpAny_pyHash_int h
  exact wpAny_pyHash_str h
 eqBool:=λhu hv h=>by
  rcases bI hu with⟨i,t,rfl,rfl⟩|⟨x,t,rfl,rfl⟩
  ·rcases bI hv with⟨j,u,rfl,rfl⟩|⟨y,u,rfl,rfl⟩
   ·rw[IC]at h;exact wpAny_eqBool_int h
   rw[IE]at h;exact SeqAt.EqAt.int_str i t y u _ _ _ _ h
  rcases bI hv with⟨j,u,rfl,rfl⟩|⟨y,u,rfl,rfl⟩
  ·rw[IF]at h;exact SeqAt.EqAt.str_int x t j u _ _ _ _ h
  rw[ID]at h;exact wpAny_eqBool_str h
 «strs»:=λk x t v h=>by
  rcases bI h with⟨i,u,rfl,e⟩|⟨y,u,rfl,e⟩
  ·exact nomatch e
  injection e with e1 _;subst e1;cases v<;>rfl
theorem pH(prog:Program)(w:World)(i:Int)(t:Tok):(aL prog w).is (.inl i) (.int i t)=true:=BM i t
theorem pI(prog:Program)(w:World)(x:Str)(t:Tok):(aL prog w).is (.inr x) (.str x t)=true:=BN x t
inductive V where
 |ba|bl (b:Bool)|int (i:Int)|str (x:Str)|Ci (b:Array UInt8)|IG (b:UInt64)|ref (a:Addr)|ty (n:String)
 deriving DecidableEq
def RelV:V->Value->Prop
 |.ba,u=>u=Value.none
 |.bl b,u=>u=Value.bool b
 |.int i,u=>∃t,u=Value.int i t
 |.str x,u=>∃t,u=Value.str x t
 |.Ci b,u=>∃t,u=Value.bytes b t
 |.IG b,u=>∃t,u=Value.float b t
 |.ref a,u=>u=Value.ref a
 |.ty n,u=>u=Value.type n
abbrev aW:List V->List Value->Prop:=Paired RelV
theorem aW.length{xs:List V}{us:List Value}(r:aW xs us):xs.length=us.length:=Paired.length r
theorem aW.get:∀{xs:List V}{us:List Value}{i:Nat}{x:V},aW xs us->xs[i]?=some x->∃u,us[i]?=some u/\RelV x u
 |_,_,_,_,.nil,e=>by simp at e
 |_,_,0,_,.cons r _,e=>by simp at e;subst e;exact⟨_,rfl,r⟩
 |_,_,i+1,x,.cons _ t,e=>by obtain⟨u,h1,h2⟩:=aW.get (i:=i) (x:=x) t (by simpa using e);exact⟨u,by simpa using h1,h2⟩
theorem aW.append:∀{xs ys:List V}{us ws:List Value},aW xs us->aW ys ws->aW (xs++ys) (us++ws)
 |_,_,_,_,.nil,s=>s
 |_,_,_,_,.cons r t,s=>.cons r (aW.append t s)
theorem aW.take:∀{xs:List V}{us:List Value}(n:Nat),aW xs us->aW (xs.take n) (us.take n)
 |_,_,0,_=>.nil
 |_,_,_+1,.nil=>.nil
 |_,_,n+1,.cons r t=>.cons r (aW.take n t)
theorem aW.drop:∀{xs:List V}{us:List Value}(n:Nat),aW xs us->aW (xs.drop n) (us.drop n)
 |_,_,0,r=>r
 |_,_,_+1,.nil=>.nil
 |_,_,n+1,.cons _ t=>aW.drop n t
def gZ:Option V->Option Value->Prop
 |some v,some u=>RelV v u
 |none,none=>True
 |_,_=>False
def KV{κ:Type}:List (κ×V)->List (κ×Value)->Prop:=Paired λ(p:κ×V)(q:κ×Value)=>p.1=q.1/\RelV p.2 q.2
def kV:Key->V
 |.inl i=>.int i
 |.inr x=>.str x
inductive HO where
 |lst (xs:List V)
 |tup (xs:List V)
 |dK (kvs:List (Key×V))|dT (kvs:List (List Key×V))
 |set (S:Int->Bool) (n:Nat)
 |ins (C dx:Addr) (fs:List (Str×V))
 |own (x:Addr)
 |xd (fs:List (Str×V))
 |met (f x:Addr)
 |My (lo hi:Int)
 |yk (o:Obj) (u:HO)
 |HK (ps:Array Value)
 |ext (φ:Heap->Prop)
abbrev Hp:=Addr->Option HO
def upd(H:Hp)(a:Addr)(o:HO):Hp:=λb=>if b=a then some o else H b
theorem aB{H:Hp}{a:Addr}{o:HO}:upd H a o a=some o:=by unfold upd;rw[if_pos rfl]
theorem aI{H:Hp}{a b:Addr}{o:HO}(h:b≠a):upd H a o b=H b:=by unfold upd;rw[if_neg h]
theorem lJ{H:Hp}{a b:Addr}{o u:HO}(h:H a=some o)(h':H b=some u)(d:o≠u):a≠b:=by intro e;subst e;rw[h]at h';exact d (Option.some.inj h')
theorem aY{H:Hp}{a b:Addr}{o:HO}(h:H a=some o)(h':H b=none):a≠b:=by intro e;subst e;rw[h]at h';cases h'
section
variable(P:Program)(w:World)
def ax(H:Hp)(h:Heap)(a:Addr):HO->Prop
 |.lst xs=>xs.length<=sizeLine/\∃(aM:List Value)(n:Nat),aW xs aM/\h.get? a=some { cls:=.type "list",data:=.seq aM.toArray n }
 |.tup xs=>xs.length<=sizeLine/\∃aM:List Value,aW xs aM/\IsTup h a aM.toArray
 |.dK kvs=>kvs.length<=sizeLine/\(a==sysModules)=false/\∃vs,KV kvs vs/\h.DictOf (aL P w) a vs
 |.dT kvs=>kvs.length<=sizeLine/\(a==sysModules)=false/\∃xs:List (List Key×Addr×Value),
   Paired (λ(p:List Key×V)(q:List Key×Addr×Value)=>p.1=q.1/\H q.2.1=some (.tup (p.1.map kV))/\RelV p.2 q.2.2) kvs xs /\
   ∃o es ep,h.get? a=some o/\o.ExactDict/\o.data=.dict es ep/\es.toList=xs.map (entryOfKey (tupleKind (aL P w)))/\(xs.map (·.1)).Nodup
 |.set S n=>h.SetOf (intKind P w) a S n
 |.ins C dx fs=>H dx=some (.own a)/\fs.length<=1000/\dx≠a/\h.get? a=some (PySem.W.instObj C dx) /\
   ∃mA,h.Ns1 dx mA/\(∀f,gZ (fs.lookup f) (mA f))/\PySem.Within mA (fs.map (·.1))
 |.own _=>∃o,h.get? a=some o
 |.xd fs=>∃mA,h.Ns1 a mA/\∀f,gZ (fs.lookup f) (mA f)
 |.My lo hi=>∃t u v,h.get? a=some { cls:=.type "range",data:=.fields #[.int lo t,.int hi u,.int 1 v] }
 |.yk o u=>h.get? a=some o/\ax H h a u
 |.HK ps=>h.get? a=some { cls:=.none,data:=.fields ps }
 |.met f x=>h.get? a=some (PySem.W.methodObj (.ref f) (.ref x))
 |.ext φ=>φ h/\(∃o,h.get? a=some o)/\∀h1 h2:Heap,φ h1->(∀o,h1.get? a=some o->h2.get? a=some o)->φ h2
def lG(H:Hp)(h:Heap):Prop:=∀a o,H a=some o->ax P w H h a o
end
section
variable{P:Program}{w:World}{H H':Hp}{h h':Heap}{a:Addr}{o:HO}
theorem ax.lt(x:ax P w H h a o):a<h.objs.size:=by
 cases o with
 |lst xs=>obtain⟨_,_,_,_,e⟩:=x;exact Heap.lt_size e
 |tup xs=>obtain⟨_,_,_,p⟩:=x;exact p.lt
 |dK kvs=>obtain⟨_,_,_,_,o,_,_,e,_⟩:=x;exact Heap.lt_size e
 |dT kvs=>obtain⟨_,_,_,_,o,_,_,e,_⟩:=x;exact Heap.lt_size e
 |set S n=>obtain⟨o,_,_,_,e,_⟩:=x;exact Heap.lt_size e
 |ins C dx fs=>obtain⟨_,_,_,e,_⟩:=x;exact Heap.lt_size e
 |own y=>obtain⟨_,e⟩:=x;exact Heap.lt_size e
 |xd fs=>obtain⟨_,⟨_,_,_,e,_⟩,_⟩:=x;exact Heap.lt_size e
 |My lo hi=>obtain⟨_,_,_,e⟩:=x;exact Heap.lt_size e
 |yk ob u=>obtain⟨e,_⟩:=x;exact Heap.lt_size e
 |HK ps=>exact Heap.lt_size (show h.get? a=some _ from x)
 |met f y=>exact Heap.lt_size (show h.get? a=some _ from x)
 |ext φ=>obtain⟨_,⟨_,e⟩,_⟩:=x;exact Heap.lt_size e
theorem Paired.IH{α β:Type}{F G:α->β->Prop}:∀{l₁:List α}{l₂:List β},Paired F l₁ l₂->(∀a b,F a b->G a b)->Paired G l₁ l₂
 |_,_,.nil,_=>.nil
 |_,_,.cons r t,f=>.cons (f _ _ r) (Paired.IH t f)
theorem ax.ic(x:ax P w H h a o)(k:∀b u,(b=a\/H b=some (.own a))->h.get? b=some u->h'.get? b=some u)(ho:∀b,H b=some (.own a)->H' b=some (.own a))(ht:∀b xs,H b=some (.tup xs)->H' b=some (.tup xs)):ax P w H' h' a o:=by
 induction o with
 |lst xs=>obtain⟨z,aM,n,r,e⟩:=x;exact⟨z,aM,n,r,k _ _ (.inl rfl) e⟩
 |tup xs=>obtain⟨z,aM,r,ob,e,c⟩:=x;exact⟨z,aM,r,ob,k _ _ (.inl rfl) e,c⟩
 |dK kvs=>obtain⟨z,y,vs,r,ob,es,ep,e,c⟩:=x;exact⟨z,y,vs,r,ob,es,ep,k _ _ (.inl rfl) e,c⟩
 |dT kvs =>
  obtain⟨z,y,xs,r,ob,es,ep,e,c⟩:=x;exact⟨z,y,xs,Paired.IH r λp q z=>⟨z.1,ht _ _ z.2.1,z.2.2⟩,ob,es,ep,k _ _ (.inl rfl) e,c⟩
 |set S n=>obtain⟨ob,es,ep,t,e,c⟩:=x;exact⟨ob,es,ep,t,k _ _ (.inl rfl) e,c⟩
 |ins C dx fs =>
  obtain⟨d,z,ne,e,mA,⟨od,es,ep,e2,c⟩,r⟩:=x;exact⟨ho _ d,z,ne,k _ _ (.inl rfl) e,mA,⟨od,es,ep,k _ _ (.inr d) e2,c⟩,r⟩
 |own y=>obtain⟨ob,e⟩:=x;exact⟨ob,k _ _ (.inl rfl) e⟩
 |xd fs=>obtain⟨mA,⟨od,es,ep,e,c⟩,r⟩:=x;exact⟨mA,⟨od,es,ep,k _ _ (.inl rfl) e,c⟩,r⟩
 |My lo hi=>obtain⟨t,u,v,e⟩:=x;exact⟨t,u,v,k _ _ (.inl rfl) e⟩
 |yk ob u ih=>obtain⟨e,q⟩:=x;exact⟨k _ _ (.inl rfl) e,ih q⟩
 |HK ps =>
  have e:h.get? a=some { cls:=.none,data:=.fields ps }:=x;show h'.get? a=some { cls:=.none,data:=.fields ps };exact k a _ (.inl rfl) e
 |met f y =>
  have e:h.get? a=some (PySem.W.methodObj (.ref f) (.ref y)):=x;show h'.get? a=some (PySem.W.methodObj (.ref f) (.ref y));exact k a _ (.inl rfl) e
 |ext φ=>obtain⟨p,⟨o,e⟩,st⟩:=x;exact⟨st _ _ p λo q=>k _ _ (.inl rfl) q,⟨o,k _ _ (.inl rfl) e⟩,st⟩
theorem lG.lt(x:lG P w H h)(e:H a=some o):a<h.objs.size:=(x a o e).lt
theorem lG.fresh(x:lG P w H h)(e:h.objs.size<=a):H a=none:=by
 cases q:H a with
 |none=>rfl
 |some u=>exact absurd (Nat.lt_of_lt_of_le (x.lt q) e) (Nat.lt_irrefl _)
theorem lG.kept(x:lG P w H h)(k:∀b u,h.get? b=some u->h'.get? b=some u):lG P w H h':=λa o e =>
 (x a o e).ic (λb u _ q=>k b u q) (λ_ q=>q) λ_ _ q=>q
theorem lG.laid(x:lG P w H h)(k:∀b u,h.get? b=some u->h'.get? b=some u)(hp:h.objs.size<=a)(new:ax P w (upd H a o) h' a o):lG P w (upd H a o) h':=λb u e=>by
 have hn:=x.fresh hp;by_cases hb:b=a
 ·subst hb;rw[aB]at e;cases e;exact new
 rw[aI hb]at e;exact(x b u e).ic (λc v _ q=>k c v q) (λc q=>by rw[aI (aY q hn)];exact q) λc xs q=>by rw[aI (aY q hn)];exact q
end
def Rd(H:Hp)(a:Addr)(u:HO):Prop:=H a=some u\/∃o,H a=some (.yk o u)
theorem Rd.ok{P:Program}{w:World}{H:Hp}{h:Heap}{a:Addr}{u:HO}(r:Rd H a u)(x:lG P w H h):ax P w H h a u:=by
 rcases r with r|⟨o,r⟩
 ·exact x a u r
 obtain⟨_,q⟩:=x a _ r;exact q
def KP:Option HO->Prop
 |some (.lst _)=>True
 |some (.dK _)=>True
 |some (.dT _)=>True
 |some (.set _ _)=>True
 |some (.ins _ _ _)=>True
 |some (.ext _)=>True
 |_=>False
section
variable{P:Program}{w:World}{H:Hp}{h h':Heap}{x e:Addr}{o':HO}
theorem lG.write(ok:lG P w H h)(mu:KP (H x))(he:e=x\/H e=some (.own x))(k:∀b u,b≠e->h.get? b=some u->h'.get? b=some u)(KQ:∃u,h'.get? e=some u)(new:ax P w (upd H x o') h' x o'):lG P w (upd H x o') h':=λb u q=>by
 have Kq:∀c y,H c=some (.own y)->c≠x:=λc y r z=>by subst z;rw[r]at mu;exact mu
 have Ni:∀c xs,H c=some (.tup xs)->c≠x:=λc xs r z=>by subst z;rw[r]at mu;exact mu
 by_cases hb:b=x
 ·subst hb;rw[aB]at q;cases q;exact new
 rw[aI hb]at q;by_cases II:b=e
 ·have q':H b=some (.own x):=by
   rcases he with z|z
   ·exact absurd (II.trans z) hb
   rw[II];exact z
  rw[q]at q';cases q';obtain⟨v,hv⟩:=KQ;exact⟨v,by rw[II];exact hv⟩
 refine(ok b u q).ic (λc v hc r=>k c v ?_ r) (λc r=>by rw[aI (Kq c b r)];exact r) λc xs r=>by rw[aI (Ni c xs r)];exact r
 rcases hc with rfl|hc
 ·exact II
 rintro rfl;rcases he with z|z
 ·exact Kq c b hc z
 rw[hc]at z;cases z;exact hb rfl
end
structure Un(fs ex:List Addr)(H H':Hp)(h h':Heap):Prop where
 keep:∀b o,h.get? b=some o->H b=none->b∉fs->b∉ex->h'.get? b=some o
 slot:∀b o,h.get? b=some o->H b=none->b∈fs->b∉ex->∃sl,h'.get? b=some { o with slots:=sl }
 free:∀b o,h.get? b=some o->H b=none->b∉ex->H' b=none
 there:∀b o,h.get? b=some o->b∉ex->∃o',h'.get? b=some o'
 mw:∀b xs,H b=some (.tup xs)->H' b=some (.tup xs)
 lh:∀b o u,H b=some (.yk o u)->H' b=some (.yk o u)
 mx:∀b ps,H b=some (.HK ps)->∃more,H' b=some (.HK (ps++more))
section
variable{fs Nj ex RU:List Addr}{H H1 H2:Hp}{h h1 h2 h':Heap}{a x e:Addr}{o:HO}
theorem Un.any(u:Un fs ex H H1 h h1){b:Addr}{ob:Obj}(q:h.get? b=some ob)(n:H b=none)(hx:b∉ex):∃sl,h1.get? b=some { ob with slots:=sl }:=by
 by_cases hb:b∈fs
 ·exact u.slot b ob q n hb hx
 exact⟨ob.slots,u.keep b ob q n hb hx⟩
theorem Un.kept(k:∀b u,h.get? b=some u->h'.get? b=some u):Un fs ex H H h h' :=
 ⟨λb ob q _ _ _=>k b ob q,λb ob q _ _ _=>⟨ob.slots,k b ob q⟩,λ_ _ _ n _=>n,λb ob q _=>⟨ob,k b ob q⟩,λ_ _ q=>q,λ_ _ _ q=>q,λ_ ps q=>⟨#[],by rw[q];simp⟩⟩
theorem Un.refl:Un fs ex H H h h:=Un.kept λ_ _ q=>q
theorem Un.laid(k:∀b u,h.get? b=some u->h'.get? b=some u)(hp:h.objs.size<=a)(hn:H a=none):Un fs ex H (upd H a o) h h' where
 keep:=λb u q _ _ _=>k b u q
 slot:=λb u q _ _ _=>⟨u.slots,k b u q⟩
 free:=λb u q n _=>by rw[aI (Nat.ne_of_lt (Nat.lt_of_lt_of_le (Heap.lt_size q) hp))];exact n
 there:=λb u q _=>⟨u,k b u q⟩
 mw:=λb xs q=>by rw[aI (aY q hn)];exact q
 lh:=λb u xs q=>by rw[aI (aY q hn)];exact q
 mx:=λb ps q=>⟨#[],by rw[aI (aY q hn),q];simp⟩
theorem Un.write(mu:KP (H x))(he:e=x\/H e=some (.own x))(k:∀b u,b≠e->h.get? b=some u->h'.get? b=some u)(KQ:∃u,h'.get? e=some u):Un fs ex H (upd H x o) h h':=by
 have hx:∀b,H b=none->b≠x:=λb n z=>by subst z;rw[n]at mu;exact mu
 have hb:∀b,H b=none->b≠e:=λb n z=>by
  subst z;rcases he with r|r
  ·exact hx b n r
  rw[n]at r;cases r
 have hm:∀b u,H b=some u->¬KP (some u)->b≠x:=λb u q nm z=>by subst z;rw[q]at mu;exact nm mu
 refine⟨λb u q n _ _=>k b u (hb b n) q,λb u q n _ _=>⟨u.slots,k b u (hb b n) q⟩,λb u q n _=>by rw[aI (hx b n)];exact n,λb u q _=>?_,
  λb xs q=>by rw[aI (hm b _ q λz=>z)];exact q,λb u xs q=>by rw[aI (hm b _ q λz=>z)];exact q,λb ps q=>⟨#[],by rw[aI (hm b _ q λz=>z),q];simp⟩⟩
 by_cases II:b=e
 ·subst II;exact KQ
 exact⟨u,k b u II q⟩
end
def wb(h:Heap)(H:Hp):List Addr:=(List.range h.objs.size).filter λa=>(H a).isSome
def uj(h:Heap)(H:Hp):Heap:=PySem.W.hideAll h (wb h H)
theorem BO(h:Heap)(H:Hp):(uj h H).objs.size=h.objs.size:=PySem.W.hideAll_size _ _
theorem Ct{h:Heap}{H:Hp}{b:Addr}{o:Obj}(e:h.get? b=some o)(n:H b=none):(uj h H).get? b=some o :=
 PySem.W.hideAll_get _ e λhm=>by have q:(H b).isSome=true:=(List.mem_filter.mp hm).2;rw[n]at q;simp at q
theorem FA{h:Heap}{H:Hp}{b:Addr}{o:Obj}(e:(uj h H).get? b=some o):h.get? b=some o/\H b=none:=by
 have e':h.get? b=some o:=PySem.W.of_hideAll (wb h H) e;refine⟨e',?_⟩;cases q:H b with
 |none=>rfl
 |some x =>
  have hm:b∈wb h H:=List.mem_filter.mpr ⟨List.mem_range.mpr (Heap.lt_size e'),by simp[q]⟩;have z:(uj h H).get? b=none:=PySem.W.hideAll_none (wb h H) hm;rw[z]at e;cases e
structure Mod(K:PySem.W.Frag)(mg:Str->Option Value)(base:Heap):Prop where
 FC:K.In base
 glob:base.Ns mainGlobals mg
 blt:∃mb,base.Ns builtinsNs mb/\∀x:Str,x≠"__name__"->mb x=bootBuiltins x
 nolimit:base.NoLimit
structure Cx where
 prog:Program
 w:World
 K:PySem.W.Frag
 mg:Str->Option Value
 base:Heap
 A:Around
 N:List Str
 s₀:Shared
 H₀:Hp
 env:Env
 outer:List Env
 stack:List Env
 ex:List Addr
 fn:Str->Bool
 calm:Bool
 pn:List (Addr×Obj)
 xe:Value->Shared->Prop
def fJ(l:List Env):List Addr:=l.filterMap (·.frame)
abbrev Cx.fs(X:Cx):List Addr:=fJ X.outer
def Kr(sc:Scope)(x:Str):Prop:=sc.names.lookup x=some .local\/sc.names.lookup x=some .cell\/sc.names.lookup x=some .free
def Loc(sc:Scope)(x:Str):Prop:=sc.names.lookup x=some .local\/sc.names.lookup x=some .cell
def Look(env:Env)(h:Heap)(m:Str->Option Value)(x:Str)(u:Value):Prop :=
 (env.kindOf x=some .local/\m x=some u)\/((env.kindOf x=some .cell\/env.kindOf x=some .free)/\∃c,env.cells.lookup x=some c/\h.IsCell c (some u))
structure Cx.Ok(X:Cx):Prop where
 mod:Mod X.K X.mg X.base
 kind:X.env.scope.kind=.function
 glob:X.env.globals=mainGlobals
 blt:X.env.builtins=builtinsNs
 above:X.s₀.heap.objs.size<=X.env.locals
 inj:∀x y c,X.env.cells.lookup x=some c->X.env.cells.lookup y=some c->x=y
 has:∀x,(X.env.kindOf x=some .cell\/X.env.kindOf x=some .free)->∃c,X.env.cells.lookup x=some c
 IJ:∀x c,X.fn x=true->X.env.cells.lookup x=some c->X.s₀.heap.objs.size<=c
 hd:X.calm=true->X.A.handled=none
 frames:X.A.frames=some X.stack
 yX:X.stack=X.outer\/(X.stack=X.env::X.outer/\X.env.frame=some X.env.locals)
 KR:∀b∈X.ex,b≠X.env.locals/\∀x c,X.env.cells.lookup x=some c->c≠b
 bs:∀b o,X.base.get? b=some o->X.s₀.heap.get? b=some o/\X.H₀ b=none
 FD:X.base.objs.size<=X.s₀.heap.objs.size
 ym:∀b o,X.base.get? b=some o->b∉X.ex
 wc:∀b∈X.ex,b∉X.fs
 oO:X.s₀.heap.FunFrames X.base X.outer
 IK:∀b∈X.fs,X.H₀ b=none
structure Inv(X:Cx)(pins:List (Addr×Obj))(σ:List (Option V))(H:Hp)(s:Shared):Prop where
 ok:X.Ok
 os:s.os=X.s₀.os
 bare:AllBare s.gens
 base:Un X.fs X.ex X.H₀ H X.s₀.heap s.heap
 loc:∃m,s.heap.Ns X.env.locals m/\∀(i:Nat)(x:Str)(v:V),X.N[i]?=some x->σ[i]?=some (some v)->Kr X.env.scope x->∃u,RelV v u/\Look X.env s.heap m x u
 cell:∀x c,X.env.cells.lookup x=some c->∃v,s.heap.IsCell c v
 free:H X.env.locals=none
 jc:∀x c,X.env.cells.lookup x=some c->H c=none
 pin:∀p∈X.pn++pins,s.heap.get? p.1=some p.2/\H p.1=none/\p.1≠X.env.locals/\p.1∉X.fs/\∀v,p.2.data≠.cell v
 aq:lG X.prog X.w H s.heap
 len:σ.length=X.N.length
section
variable{X:Cx}{pins:List (Addr×Obj)}{σ:List (Option V)}{H H':Hp}{s:Shared}{h':Heap}
theorem Cx.Ok.Nk(ok:X.Ok){b:Addr}{o:Obj}(e:X.base.get? b=some o):b∉X.fs:=λhb=>by have:=(ok.oO.mem hb).1;rw[e]at this;cases this
theorem Inv.bs(I:Inv X pins σ H s):∀b o,X.base.get? b=some o->s.heap.get? b=some o/\H b=none:=λb o e =>
 ⟨I.base.keep b o (I.ok.bs b o e).1 (I.ok.bs b o e).2 (I.ok.Nk e) (I.ok.ym b o e),I.base.free b o (I.ok.bs b o e).1 (I.ok.bs b o e).2 (I.ok.ym b o e)⟩
theorem Inv.bk(I:Inv X pins σ H s):∀b o,X.base.get? b=some o->s.heap.get? b=some o:=λb o e=>(I.bs b o e).1
theorem Inv.mod(I:Inv X pins σ H s):Mod X.K X.mg X.base:=I.ok.mod
theorem Inv.pJ(I:Inv X pins σ H s):X.K.In s.heap:=I.ok.mod.FC.keeps I.bk
theorem Inv.lt(I:Inv X pins σ H s):X.env.locals<s.heap.objs.size:=let⟨_,hn,_⟩:=I.loc;hn.lt
theorem Inv.sz(I:Inv X pins σ H s):X.s₀.heap.objs.size<=s.heap.objs.size:=Nat.le_trans I.ok.above (Nat.le_of_lt I.lt)
theorem Inv.Nl(I:Inv X pins σ H s){a:Addr}(h:s.heap.objs.size<=a):a∉X.fs:=λhb=>by obtain⟨_,o,ho,_⟩:=I.ok.oO.mem hb;exact absurd (Nat.lt_of_lt_of_le (Heap.lt_size ho) (Nat.le_trans I.sz h)) (Nat.lt_irrefl _)
theorem Inv.IL(I:Inv X pins σ H s):∀x c,X.env.cells.lookup x=some c->c≠X.env.locals:=λx c e z=>by obtain⟨v,o,ho,hd⟩:=I.cell x c e;obtain⟨m,⟨o',es,ep,wQ,qP,_⟩,_⟩:=I.loc;rw[z,wQ]at ho;cases ho;rw[qP]at hd;cases hd
theorem Inv.oO(I:Inv X pins σ H s):s.heap.FunFrames X.base X.outer:=by
 have all:∀(l:List Env),(∀b∈fJ l,b∈X.fs)->X.s₀.heap.FunFrames X.base l->s.heap.FunFrames X.base l:=by
  intro l
  induction l with
  |nil=>intro _ _;trivial
  |cons env r ih =>
   intro hs hl;obtain⟨hk,⟨L,o,hf,hn,ho,hd⟩,hr⟩:=hl;have hL:L∈X.fs:=hs L (by unfold fJ;rw[List.filterMap_cons,hf];exact List.mem_cons_self);obtain⟨sl,e⟩:=I.base.slot L o ho (I.ok.IK L hL) hL λz=>I.ok.wc L z hL;exact⟨hk,⟨L,_,hf,hn,e,hd⟩,ih (λb hb=>hs b (by unfold fJ;rw[List.filterMap_cons,hf];exact List.mem_cons_of_mem _ hb)) hr⟩
 exact all X.outer (λ_ hb=>hb) I.ok.oO
theorem Inv.stack(I:Inv X pins σ H s):s.heap.FunFrames X.base X.stack:=by
 rcases I.ok.yX with e|⟨e,hf⟩
 ·rw[e];exact I.oO
 rw[e];obtain⟨m,hn,_⟩:=I.loc;refine .cons (by rw[I.ok.kind];decide) hf hn ?_ I.oO;exact Heap.get?_none_of_le (Nat.le_trans I.ok.FD I.ok.above)
theorem Inv.yn(I:Inv X pins σ H s):∀b∈fJ X.stack,b∈X.env.locals::X.fs:=λb hb=>by
 rcases I.ok.yX with e|⟨e,hf⟩
 ·rw[e]at hb;exact List.mem_cons_of_mem _ hb
 rw[e]at hb;unfold fJ at hb;rw[List.filterMap_cons,hf]at hb;exact hb
theorem Inv.uk(I:Inv X pins σ H s):∀b∈fJ X.stack,H b=none:=λb hb=>by
 rcases List.mem_cons.mp (I.yn b hb)with e|hb
 ·rw[e];exact I.free
 obtain⟨_,o,ho,_⟩:=I.ok.oO.mem hb;exact I.base.free b o ho (I.ok.IK b hb) λz=>I.ok.wc b z hb
theorem Inv.step{g':Array GenState}{t':Nat}{d':Drawn}{ch:List Addr}(I:Inv X pins σ H s)(E5:∀b∈ch,(b∈X.ex\/X.s₀.heap.objs.size<=b)/\b≠X.env.locals/\(∀x c,X.env.cells.lookup x=some c->c≠b)/\∀p∈X.pn++pins,p.1≠b)(keep:∀b o,b≠X.env.locals->b∉X.fs->b∉ch->s.heap.get? b=some o->H b=none->h'.get? b=some o)(slot:∀b o,b≠X.env.locals->b∈X.fs->b∉ch->s.heap.get? b=some o->H b=none->∃sl,h'.get? b=some { o with slots:=sl })(free:∀b o,b∉ch->s.heap.get? b=some o->H b=none->H' b=none)(there:∀b o,b∉ch->s.heap.get? b=some o->∃o',h'.get? b=some o')(mw:∀b xs,H b=some (.tup xs)->H' b=some (.tup xs))(lh:∀b o u,H b=some (.yk o u)->H' b=some (.yk o u))(mx:∀b ps,H b=some (.HK ps)->∃more,H' b=some (.HK (ps++more)))(ns:∀m,s.heap.Ns X.env.locals m->h'.Ns X.env.locals m)(aq:lG X.prog X.w H' h')(hg:AllBare g'):
  Inv X pins σ H' { s with heap:=h',gens:=g',drawn:=d',toks:=t' }:=by
 have QI:∀b o,X.s₀.heap.get? b=some o->b≠X.env.locals:=λb o e=>Nat.ne_of_lt (Nat.lt_of_lt_of_le (Heap.lt_size e) I.ok.above);have Mz:∀b o,X.s₀.heap.get? b=some o->b∉X.ex->b∉ch:=λb o e hx hb=>by
  rcases(E5 b hb).1 with z|z
  ·exact hx z
  exact absurd (Nat.lt_of_lt_of_le (Heap.lt_size e) z) (Nat.lt_irrefl _)
 have cellK:∀x c,X.env.cells.lookup x=some c->∀v,s.heap.IsCell c v->h'.IsCell c v:=λx c e v ⟨o,ho,hd⟩=>by
  have Ks:c∉ch:=λz=>(E5 c z).2.2.1 x c e rfl;by_cases hc:c∈X.fs
  ·obtain⟨sl,q⟩:=slot c o (I.IL x c e) hc Ks ho (I.jc x c e);exact⟨_,q,hd⟩
  exact⟨o,keep c o (I.IL x c e) hc Ks ho (I.jc x c e),hd⟩
 refine⟨I.ok,I.os,hg,⟨λb o e n hb hx=>?_,λb o e n hb hx=>?_,λb o e n hx=>?_,λb o e hx=>?_,λb xs e=>mw b xs (I.base.mw b xs e),λb o xs e=>lh b o xs (I.base.lh b o xs e),λb ps e=>?_⟩,?_,λx c e=>?_,?_,λx c e=>?_,λp hp=>?_,aq,I.len⟩
 ·exact keep b o (QI b o e) hb (Mz b o e hx) (I.base.keep b o e n hb hx) (I.base.free b o e n hx)
 ·obtain⟨sl,e1⟩:=I.base.slot b o e n hb hx;obtain⟨IM,e2⟩:=slot b _ (QI b o e) hb (Mz b o e hx) e1 (I.base.free b o e n hx);exact⟨IM,e2⟩
 ·obtain⟨o',e1⟩:=I.base.there b o e hx;exact free b o' (Mz b o e hx) e1 (I.base.free b o e n hx)
 ·obtain⟨o',e1⟩:=I.base.there b o e hx;exact there b o' (Mz b o e hx) e1
 ·obtain⟨m1,e1⟩:=I.base.mx b ps e;obtain⟨m2,e2⟩:=mx b _ e1;exact⟨m1++m2,by rw[e2,Array.append_assoc]⟩
 ·obtain⟨m,hn,hl⟩:=I.loc;refine⟨m,ns m hn,λi x v e1 e2 e3=>?_⟩;obtain⟨u,r,l⟩:=hl i x v e1 e2 e3;refine⟨u,r,?_⟩;rcases l with l|⟨k,c,e,z⟩
  ·exact .inl l
  exact .inr ⟨k,c,e,cellK x c e _ z⟩
 ·obtain⟨v,z⟩:=I.cell x c e;exact⟨v,cellK x c e v z⟩
 ·obtain⟨m,⟨o,_,_,ho,_⟩,_⟩:=I.loc;exact free _ o (λz=>(E5 _ z).2.1 rfl) ho I.free
 ·obtain⟨v,o,ho,hd⟩:=I.cell x c e;exact free c o (λz=>(E5 c z).2.2.1 x c e rfl) ho (I.jc x c e)
 obtain⟨e,n,ne,nf,d⟩:=I.pin p hp;have Ks:p.1∉ch:=λz=>(E5 p.1 z).2.2.2 p hp rfl;exact⟨keep p.1 p.2 ne nf Ks e n,free p.1 p.2 Ks e n,ne,nf,d⟩
theorem Inv.un{t':Nat}(I:Inv X pins σ H s)(u:Un X.fs [] H H' s.heap h')(aq:lG X.prog X.w H' h'):Inv X pins σ H' { s with heap:=h',toks:=t' }:=by
 obtain⟨m,⟨o,es,ep,ho,r⟩,_⟩:=id I.loc;obtain⟨sl,hL⟩:=u.any ho I.free (by simp);exact I.step (g':=s.gens) (d':=s.drawn) (ch:=[]) (λ_ z=>nomatch z) (λb o _ hb _ e n=>u.keep b o e n hb (by simp)) (λb o _ hb _ e n=>u.slot b o e n hb (by simp)) (λb o _ e n=>u.free b o e n (by simp)) (λb o _ e=>u.there b o e (by simp)) u.mw u.lh u.mx (λm' hm=>by obtain⟨o',Nm,Nn,wQ,r'⟩:=hm;rw[ho]at wQ;cases wQ;exact⟨_,Nm,Nn,hL,r'⟩) aq I.bare
theorem Inv.call{g':Array GenState}{t':Nat}{d':Drawn}{ch:List Addr}(I:Inv X pins σ H s)(u:Un (fJ X.stack) ch H H' s.heap h')(aq:lG X.prog X.w H' h')(hg:AllBare g')(E5:∀b∈ch,(b∈X.ex\/X.s₀.heap.objs.size<=b)/\b≠X.env.locals/\(∀x c,X.env.cells.lookup x=some c->c≠b)/\∀p∈X.pn++pins,p.1≠b):
  Inv X pins σ H' { s with heap:=h',gens:=g',drawn:=d',toks:=t' }:=by
 obtain⟨m,⟨o,es,ep,ho,r⟩,_⟩:=id I.loc;obtain⟨sl,hL⟩:=u.any ho I.free λz=>(E5 _ z).2.1 rfl;exact I.step (ch:=ch) E5 (λb o hL hb hc e n=>u.keep b o e n (λz=>(List.mem_cons.mp (I.yn b z)).elim hL hb) hc) (λb o _ _ hc e n=>u.any e n hc) (λb o hc e n=>u.free b o e n hc) (λb o hc e=>u.there b o e hc) u.mw u.lh u.mx (λm' hm=>by obtain⟨o',Nm,Nn,wQ,r'⟩:=hm;rw[ho]at wQ;cases wQ;exact⟨_,Nm,Nn,hL,r'⟩) aq hg
theorem Inv.turned{t':Nat}{it:Addr}(I:Inv X pins σ H s)(k:∀b o,b≠it->s.heap.get? b=some o->h'.get? b=some o)(hn:H it=none)(hL:it≠X.env.locals)(h1:it∈X.ex\/X.s₀.heap.objs.size<=it)(h2:∀x c,X.env.cells.lookup x=some c->c≠it)(h3:∀p∈X.pn++pins,p.1≠it):Inv X pins σ H { s with heap:=h',toks:=t' }:=by
 have QJ:∀b u,H b=some u->b≠it:=λb u e z=>by rw[z,hn]at e;cases e
 refine I.step (g':=s.gens) (d':=s.drawn) (ch:=[it]) (λb hb=>?_) (λb o _ _ hc e _=>k b o (λz=>hc (by simp[z])) e) (λb o _ _ hc e _=>⟨o.slots,k b o (λz=>hc (by simp[z])) e⟩) (λ_ _ _ _ n=>n)
  (λb o hc e=>⟨o,k b o (λz=>hc (by simp[z])) e⟩) (λ_ _ e=>e) (λ_ _ _ e=>e) (λb ps e=>⟨#[],by rw[e];simp⟩) (λm hm=>?_) (λb u e=>?_) I.bare
 ·have e:b=it:=by simpa using hb
  subst e;exact⟨h1,hL,h2,h3⟩
 ·obtain⟨o,es,ep,ho,r⟩:=hm;exact⟨o,es,ep,k _ o (Ne.symm hL) ho,r⟩
 refine(I.aq b u e).ic (λc v hc q=>k c v ?_ q) (λ_ q=>q) λ_ _ q=>q;rcases hc with z|z
 ·rw[z];exact QJ b u e
 exact QJ c _ z
theorem Inv.tok(I:Inv X pins σ H s)(t:Nat):Inv X pins σ H { s with toks:=t }:=I.un (h':=s.heap) (t':=t) Un.refl I.aq
theorem Inv.kept{t':Nat}(I:Inv X pins σ H s)(k:∀b u,s.heap.get? b=some u->h'.get? b=some u):Inv X pins σ H { s with heap:=h',toks:=t' }:=I.un (Un.kept k) (I.aq.kept k)
theorem Inv.laid{a:Addr}{o:HO}{t':Nat}(I:Inv X pins σ H s)(k:∀b u,s.heap.get? b=some u->h'.get? b=some u)(hp:s.heap.objs.size<=a)(new:ax X.prog X.w (upd H a o) h' a o):
  Inv X pins σ (upd H a o) { s with heap:=h',toks:=t' }:=I.un (Un.laid k hp (I.aq.fresh hp)) (I.aq.laid k hp new)
theorem Inv.write{x e:Addr}{o:HO}{t':Nat}(I:Inv X pins σ H s)(mu:KP (H x))(he:e=x\/H e=some (.own x))(k:∀b u,b≠e->s.heap.get? b=some u->h'.get? b=some u)(KQ:∃u,h'.get? e=some u)(new:ax X.prog X.w (upd H x o) h' x o):Inv X pins σ (upd H x o) { s with heap:=h',toks:=t' }:=I.un (Un.write mu he k KQ) (I.aq.write mu he k KQ new)
theorem Inv.Aa{HL:List (Addr×Obj)}(I:Inv X pins σ H s)(h:∀p∈HL,s.heap.get? p.1=some p.2/\H p.1=none/\p.1≠X.env.locals/\p.1∉X.fs/\∀v,p.2.data≠.cell v):Inv X HL σ H s :=
 ⟨I.ok,I.os,I.bare,I.base,I.loc,I.cell,I.free,I.jc,λp hp=>(List.mem_append.mp hp).elim (λz=>I.pin p (List.mem_append_left _ z)) (h p),I.aq,I.len⟩
theorem we{N:List Str}(hN:N.Nodup){i j:Nat}{x:Str}(a:N[i]?=some x)(b:N[j]?=some x):i=j:=by obtain⟨h1,e1⟩:=List.getElem?_eq_some_iff.mp a;obtain⟨h2,e2⟩:=List.getElem?_eq_some_iff.mp b;exact(List.getElem_inj hN).mp (e1.trans e2.symm)
theorem tY{M:Model}{A:Around}{E:Value->Shared->Prop}{i:Nat}{x:Str}{v:V}{u:Value}{Q:Unit->Shared->Prop}(I:Inv X pins σ H s)(hN:X.N.Nodup)(hi:X.N[i]?=some x)(hx:Loc X.env.scope x)(r:RelV v u)(h:∀s',Inv X pins (σ.set i (some v)) H s'->(∃a,Heap.SameBut a s.heap s'.heap/\(a=X.env.locals\/X.env.cells.lookup x=some a))->Q () s')(hf:X.fn x=true\/X.env.scope.names.lookup x=some .local:=by first|exact .inl rfl|exact .inr rfl|assumption):wpAny M A (storeName X.env x u) Q E s:=by
 obtain⟨m,hn,hl⟩:=id I.loc;have FE:(X.env.scope.kind==.class||(X.env.scope.kind==.module&&X.env.locals != X.env.globals))=false:=by rw[I.ok.kind];rfl
 have hiσ:i<σ.length:=by rw[I.len];exact(List.getElem?_eq_some_iff.mp hi).1
 have IL:=I.IL;have tracked:∀{a:Addr}{h':Heap},(∃o,s.heap.get? a=some o/\H a=none)->Heap.SameBut a s.heap h'->lG X.prog X.w H h':=λ{a h'} ha hs b ob e=>by
  obtain⟨_,_,HM⟩:=ha;refine(I.aq b ob e).ic (λc w' hc q=>(hs.2 c ?_).trans q) (λ_ q=>q) λ_ _ q=>q;rintro rfl;rcases hc with rfl|hc
  ·rw[HM]at e;cases e
  rw[HM]at hc;cases hc
 rcases hx with hk|hk
 ·refine wpAny_storeName_local hk hn (λh' Ab hs=>?_) FE;obtain⟨oL,_,_,BP,_⟩:=id hn;refine h _ ⟨I.ok,I.os,I.bare,⟨λb o e n hb hx=>?_,λb o e n hb hx=>?_,I.base.free,λb o e hx=>?_,I.base.mw,I.base.lh,I.base.mx⟩,⟨_,Ab,λj y v' e1 e2 e3=>?_⟩,λy c e=>?_,I.free,I.jc,λp hp=>?_,tracked ⟨oL,BP,I.free⟩ hs,by simpa using I.len⟩ ⟨_,hs,.inl rfl⟩
  ·exact(hs.2 b (Nat.ne_of_lt (Nat.lt_of_lt_of_le (Heap.lt_size e) I.ok.above))).trans (I.base.keep b o e n hb hx)
  ·obtain⟨sl,e1⟩:=I.base.slot b o e n hb hx;exact⟨sl,(hs.2 b (Nat.ne_of_lt (Nat.lt_of_lt_of_le (Heap.lt_size e) I.ok.above))).trans e1⟩
  ·obtain⟨o',e1⟩:=I.base.there b o e hx;exact⟨o',(hs.2 b (Nat.ne_of_lt (Nat.lt_of_lt_of_le (Heap.lt_size e) I.ok.above))).trans e1⟩
  ·by_cases hj:j=i
   ·subst hj;rw[hi]at e1;cases e1;rw[List.getElem?_set_self hiσ]at e2;cases e2;exact⟨u,r,.inl ⟨hk,by simp⟩⟩
   rw[List.getElem?_set_ne (Ne.symm hj)]at e2;obtain⟨u',r',q⟩:=hl j y v' e1 e2 e3;refine⟨u',r',?_⟩;rcases q with⟨k,e⟩|⟨k,c,e,z⟩
   ·refine .inl ⟨k,?_⟩;have:y≠x:=λe=>hj (we hN e1 (e▸hi));simp[this,e]
   exact .inr ⟨k,c,e,z.sameBut hs (IL y c e)⟩
  ·obtain⟨w',z⟩:=I.cell y c e;exact⟨w',z.sameBut hs (IL y c e)⟩
  obtain⟨e,n,ne,nf,d⟩:=I.pin p hp;exact⟨(hs.2 p.1 ne).trans e,n,ne,nf,d⟩
 have Np:X.fn x=true:=by
  rcases hf with z|z
  ·exact z
  rw[z]at hk;cases hk
 obtain⟨c,hc⟩:=I.ok.has x (.inl hk);obtain⟨w',z⟩:=I.cell x c hc;refine wpAny_storeName_cell I.ok.kind hk hc z (λh' M0 hs=>?_);obtain⟨oc,IP,Nq⟩:=id z;refine h { s with heap:=h' } ⟨I.ok,I.os,I.bare,⟨λb o e n hb hx=>?_,λb o e n hb hx=>?_,I.base.free,λb o e hx=>?_,I.base.mw,I.base.lh,I.base.mx⟩,⟨m,hn.sameBut hs (Ne.symm (IL x c hc)),λj y v' e1 e2 e3=>?_⟩,λy c' e=>?_,I.free,I.jc,λp hp=>?_,tracked ⟨oc,IP,I.jc x c hc⟩ hs,by simpa using I.len⟩ ⟨c,hs,.inr hc⟩
 ·exact(hs.2 b (Nat.ne_of_lt (Nat.lt_of_lt_of_le (Heap.lt_size e) (I.ok.IJ x c Np hc)))).trans (I.base.keep b o e n hb hx)
 ·obtain⟨sl,e1⟩:=I.base.slot b o e n hb hx;exact⟨sl,(hs.2 b (Nat.ne_of_lt (Nat.lt_of_lt_of_le (Heap.lt_size e) (I.ok.IJ x c Np hc)))).trans e1⟩
 ·obtain⟨o',e1⟩:=I.base.there b o e hx;exact⟨o',(hs.2 b (Nat.ne_of_lt (Nat.lt_of_lt_of_le (Heap.lt_size e) (I.ok.IJ x c Np hc)))).trans e1⟩
 ·by_cases hj:j=i
  ·subst hj;rw[hi]at e1;cases e1;rw[List.getElem?_set_self hiσ]at e2;cases e2;exact⟨u,r,.inr ⟨.inl hk,c,hc,M0⟩⟩
  rw[List.getElem?_set_ne (Ne.symm hj)]at e2;obtain⟨u',r',q⟩:=hl j y v' e1 e2 e3;refine⟨u',r',?_⟩;rcases q with q|⟨k,c',e,z'⟩
  ·exact .inl q
  refine .inr ⟨k,c',e,z'.sameBut hs ?_⟩;rintro rfl;exact hj (we hN e1 (I.ok.inj _ _ _ e hc▸hi))
 ·by_cases Kt:c'=c
  ·subst Kt;exact⟨_,M0⟩
  obtain⟨w2,z2⟩:=I.cell y c' e;exact⟨w2,z2.sameBut hs Kt⟩
 obtain⟨e,n,ne,nf,d⟩:=I.pin p hp;refine⟨(hs.2 p.1 ?_).trans e,n,ne,nf,d⟩;intro q;rw[q,IP]at e;have q':oc=p.2:=Option.some.inj e;exact d w' (by rw[<-q'];exact Nq)
theorem qf{M:Model}{A:Around}{E:Value->Shared->Prop}{i:Nat}{x:Str}{v:V}{u:Value}{Q:Unit->Shared->Prop}(I:Inv X pins σ H s)(hN:X.N.Nodup)(hi:X.N[i]?=some x)(hx:Loc X.env.scope x)(r:RelV v u)(h:∀s',Inv X pins (σ.set i (some v)) H s'->Q () s')(hf:X.fn x=true\/X.env.scope.names.lookup x=some .local:=by first|exact .inl rfl|exact .inr rfl|assumption):wpAny M A (storeName X.env x u) Q E s :=
 tY I hN hi hx r (λs' I' _=>h s' I') hf
theorem Inv.Cu{s':Shared}{ch:List Addr}(I:Inv X pins σ H s)(ho:s'.os=s.os)(u:Un (fJ X.stack) ch H H' s.heap s'.heap)(aq:lG X.prog X.w H' s'.heap)(hg:AllBare s'.gens)(E5:∀b∈ch,(b∈X.ex\/X.s₀.heap.objs.size<=b)/\b≠X.env.locals/\(∀x c,X.env.cells.lookup x=some c->c≠b)/\∀p∈X.pn++pins,p.1≠b):Inv X pins σ H' s':=by obtain⟨h',g',d',t',o'⟩:=s';have e:o'=s.os:=ho;subst e;exact I.call (g':=g') (t':=t') (d':=d') u aq hg E5
end
abbrev XK:=Value->Option Addr->Hp->Prop
abbrev St:=List (Option V)
abbrev VK:=V->Hp->Prop
abbrev TE:=St->Hp->VK->Prop
abbrev TT:=St->Hp->(Bool->Hp->Prop)->Prop
abbrev TA:=St->Hp->(List V->Hp->Prop)->Prop
structure Ends where
 nx:St->Hp->Prop
 rt:VK
 bk:St->Hp->Prop:=λ_ _=>False
 ct:St->Hp->Prop:=λ_ _=>False
abbrev TS:=Ends->St->Hp->Prop
def EP(X:Cx)(pins:List (Addr×Obj))(σ:St)(Q:VK)(u:Value)(s':Shared):Prop:=∃v H',Inv X pins σ H' s'/\RelV v u/\Q v H'
def TP(X:Cx)(pins:List (Addr×Obj))(σ:St)(Q:Bool->Hp->Prop)(b:Bool)(s':Shared):Prop:=∃H',Inv X pins σ H' s'/\Q b H'
def AP(X:Cx)(pins:List (Addr×Obj))(σ:St)(Q:List V->Hp->Prop)(us:List Value)(s':Shared):Prop:=∃vs H',Inv X pins σ H' s'/\aW vs us/\Q vs H'
def SP(X:Cx)(pins:List (Addr×Obj))(D:Ends)(f:Flow)(s':Shared):Prop :=
 match f with
 |.next=>∃σ' H',Inv X pins σ' H' s'/\D.nx σ' H'
 |.brk=>∃σ' H',Inv X pins σ' H' s'/\D.bk σ' H'
 |.cont=>∃σ' H',Inv X pins σ' H' s'/\D.ct σ' H'
 |.ret u=>∃v σ' H',Inv X pins σ' H' s'/\RelV v u/\D.rt v H'
def PE(X:Cx)(e:Expr)(t:TE):Prop :=
 ∀(pins:List (Addr×Obj))(s:Shared)(σ:St)(H:Hp)(Q:VK),Inv X pins σ H s->t σ H Q->wpAny (model X.prog X.w) X.A (eval e X.env) (EP X pins σ Q) X.xe s
def PT(X:Cx)(e:Expr)(t:TT):Prop :=
 ∀(pins:List (Addr×Obj))(s:Shared)(σ:St)(H:Hp)(Q:Bool->Hp->Prop),Inv X pins σ H s->t σ H Q->wpAny (model X.prog X.w) X.A (isTrue e X.env (eval e X.env)) (TP X pins σ Q) X.xe s
def PW(X:Cx)(e:Expr)(t:TT):Prop :=
 ∀(whole:Sem Value)(pins:List (Addr×Obj))(s:Shared)(σ:St)(H:Hp)(Q:Bool->Hp->Prop),Inv X pins σ H s->t σ H Q->wpAny (model X.prog X.w) X.A (isTrue e X.env whole) (TP X pins σ Q) X.xe s
theorem PW.pt{X:Cx}{e:Expr}{t:TT}(h:PW X e t):PT X e t:=h _
def PA(X:Cx)(es:List Expr)(t:TA):Prop :=
 ∀(pos:Pos)(pins:List (Addr×Obj))(s:Shared)(σ:St)(H:Hp)(Q:List V->Hp->Prop),Inv X pins σ H s->t σ H Q->wpAny (model X.prog X.w) X.A (spliced (backTo pos (starEach es X.env))) (AP X pins σ Q) X.xe s
def PS(X:Cx)(st:Stmt)(t:TS):Prop :=
 ∀(pins:List (Addr×Obj))(s:Shared)(σ:St)(H:Hp)(D:Ends),Inv X pins σ H s->t D σ H->wpAny (model X.prog X.w) X.A (exec st X.env) (SP X pins D) X.xe s
def Cj(X:Cx)(st:List Stmt)(t:TS):Prop :=
 ∀(pins:List (Addr×Obj))(s:Shared)(σ:St)(H:Hp)(D:Ends),Inv X pins σ H s->t D σ H->wpAny (model X.prog X.w) X.A (execs st X.env) (SP X pins D) X.xe s
theorem av{α:Type}{t:Sem α}{Q Q':α->Shared->Prop}{M:Model}{A:Around}{E:Value->Shared->Prop}{s:Shared}(h:wpAny M A t Q E s)(hQ:∀a s,Q a s->Q' a s):wpAny M A t Q' E s:=wpAny_mono h hQ λ_ _ x=>x
section
variable{X:Cx}
def yo(i:Nat):TE:=λσ H Q=>∃v,σ[i]?=some (some v)/\Q v H
def tC(v:V):TE:=λ_ H Q=>Q v H
theorem IQ{i:Nat}{x:Str}{pos:Pos}(hN:X.N[i]?=some x)(hv:Kr X.env.scope x)(hd:(x==("__debug__":Str))=false:=by decide)(wR:(x==("__classdict__":Str))=false:=by decide):PE X (.Name x pos) (yo i):=by
 intro pins s σ H Q I h;obtain⟨v,e,h⟩:=h;obtain⟨m,hn,hl⟩:=I.loc;obtain⟨u,r,l⟩:=hl i x v hN e hv;have fin:EP X pins σ Q u s:=⟨v,H,I,r,h⟩;rcases l with⟨hk,hm⟩|⟨hk,c,hc,tZ⟩
 ·exact wpAny_Name (wpAny_loadName_local I.ok.kind hk hn hm fin) hd
 rcases hk with hk|hk
 ·exact wpAny_Name (wpAny_loadName_cell I.ok.kind hk hc tZ fin) hd
 exact wpAny_Name (wpAny_loadName_free I.ok.kind hk hc tZ fin wR) hd
theorem aE{i j pos}:PE X (.Constant (.int i) j pos) (tC (.int i)):=λ_ _ _ H _ I h=>wpAny_Constant_int ⟨.int i,H,I.tok _,⟨_,rfl⟩,h⟩
theorem cy{b j pos}:PE X (.Constant (.bool b) j pos) (tC (.bl b)):=λ_ _ _ H _ I h=>Constant_bool ⟨.bl b,H,I,rfl,h⟩
theorem yr{j pos}:PE X (.Constant .none j pos) (tC .ba):=λ_ _ _ H _ I h=>Constant_none ⟨.ba,H,I,rfl,h⟩
theorem cE{x j pos}:PE X (.Constant (.str x) j pos) (tC (.str x)):=λ_ _ _ H _ I h=>Calls.Constant_str ⟨.str x,H,I.tok _,⟨_,rfl⟩,h⟩
def Gl(X:Cx)(x:Str):Prop:=X.env.kindOf x=some .globalImplicit
theorem qQ{E:Value->Shared->Prop}{pins:List (Addr×Obj)}{s:Shared}{σ:St}{H:Hp}{x:Str}{u:Value}{pos:Pos}{Q:Value->Shared->Prop}(I:Inv X pins σ H s)(hg:Gl X x)(hm:X.mg x=some u)(h:Q u s)(hd:(x==("__debug__":Str))=false:=by decide):wpAny (model X.prog X.w) X.A (eval (.Name x pos) X.env) Q E s :=
 Calls.Name_function_global I.ok.kind hg (Calls.loadGlobal_global (by rw[I.ok.glob];exact I.mod.glob.keeps I.bk) hm h) hd
theorem oP{E:Value->Shared->Prop}{pins:List (Addr×Obj)}{s:Shared}{σ:St}{H:Hp}{x:Str}{u:Value}{pos:Pos}{Q:Value->Shared->Prop}(I:Inv X pins σ H s)(hg:Gl X x)(hm:X.mg x=none)(hv:bootBuiltins x=some u)(h:Q u s)(hn:x≠"__name__":=by decide)(hd:(x==("__debug__":Str))=false:=by decide):wpAny (model X.prog X.w) X.A (eval (.Name x pos) X.env) Q E s:=by obtain⟨mb,h1,h2⟩:=I.mod.blt;exact Calls.Name_function_global I.ok.kind hg (Calls.loadGlobal_builtin (by rw[I.ok.glob];exact I.mod.glob.keeps I.bk) hm (by rw[I.ok.blt];exact h1.keeps I.bk) ((h2 x hn).trans hv) h) hd
theorem FF{x:Str}{v:V}{u:Value}{pos:Pos}(hg:Gl X x)(hm:X.mg x=some u)(r:RelV v u)(hd:(x==("__debug__":Str))=false:=by decide):PE X (.Name x pos) (tC v) :=
 λ_ _ _ H _ I h=>qQ I hg hm ⟨v,H,I,r,h⟩ hd
theorem FG{x:Str}{v:V}{u:Value}{pos:Pos}(hg:Gl X x)(hm:X.mg x=none)(hv:bootBuiltins x=some u)(r:RelV v u)(hn:x≠"__name__":=by decide)(hd:(x==("__debug__":Str))=false:=by decide):PE X (.Name x pos) (tC v) :=
 λ_ _ _ H _ I h=>oP I hg hm hv ⟨v,H,I,r,h⟩ hn hd
variable{a b:Expr}{ta tb:TE}{pos:Pos}
def PC(X:Cx)(op:CmpOp)(a b:Expr)(t:TE):Prop :=
 ∀(pins:List (Addr×Obj))(s:Shared)(σ:St)(H:Hp)(Q:VK),Inv X pins σ H s->t σ H Q ->
  wpAny (model X.prog X.w) X.A (eval a X.env) (λv s₁=>wpAny (model X.prog X.w) X.A (eval b X.env) (λu s₂=>wpAny (model X.prog X.w) X.A (compareOp op v u) (EP X pins σ Q) X.xe s₂) X.xe s₁) X.xe s
def tB(t:TE):TT:=λσ H Q=>t σ H λx H1=>∃c,x=.bl c/\Q c H1
theorem IS{op:CmpOp}{t:TE}(h:PC X op a b t)(h1:behindInMarks op b=false:=by first|exact Cv _ (by decide) (by decide)|rfl):PE X (.Compare a [op] [b] pos) t:=λpins s σ H Q I hw=>wpAny_Compare1 (h pins s σ H Q I hw) h1
theorem oQ{op:CmpOp}{t:TE}(h:PC X op a b t)(h1:behindInMarks op b=false:=by first|exact Cv _ (by decide) (by decide)|rfl):PT X (.Compare a [op] [b] pos) (tB t):=by intro pins s σ H Q I hw;refine wpAny_isTrue_Compare1 (av (h pins s σ H _ I hw) λv s1 h1=>av h1 λu s2 h2=>av h2 λc s3 ⟨x,H1,I1,r1,q1⟩=>?_) h1;obtain⟨d,rfl,q⟩:=q1;cases r1;exact wpAny_truthy_bool ⟨H1,I1,q⟩
theorem fL{e:Expr}{t:TE}(h:PE X e t)(he:∀whole,isTrue e X.env whole=(do let v <- whole;standAt e.pos;holding [v] (truthy v)):=by intro _;rfl):PT X e (tB t):=by intro pins s σ H Q I hw;refine isTrue_plain (av (h pins s σ H _ I hw) λv s1 ⟨x,H1,I1,r1,q1⟩=>?_) (he _);obtain⟨d,rfl,q⟩:=q1;cases r1;exact wpAny_truthy_bool ⟨H1,I1,q⟩
variable{tA Ku:TT}{rest:List Expr}
def Nr(t u:TT):TT:=λσ H Q=>t σ H λc H1=>if c=true then u σ H1 Q else Q false H1
def RV(t u:TT):TT:=λσ H Q=>t σ H λc H1=>if c=true then Q true H1 else u σ H1 Q
def Nt(t:TT):TT:=λσ H Q=>t σ H λc H1=>Q (!c) H1
theorem ig(ha:PT X a tA):PW X (.BoolOp .And [a] pos) tA:=by
 intro wh pins s σ H Q I h;refine isTrue_and (av (ha pins s σ H Q I h) λc s1 e=>?_);cases c with
 |true=>exact isTrue_and_nil e
 |false=>exact e
theorem lj(ha:PT X a tA):PW X (.BoolOp .Or [a] pos) tA:=by
 intro wh pins s σ H Q I h;refine isTrue_or (av (ha pins s σ H Q I h) λc s1 e=>?_);cases c with
 |false=>exact isTrue_or_nil e
 |true=>exact e
theorem jr(ha:PT X a tA)(hb:PW X (.BoolOp .And (b::rest) pos) Ku):PW X (.BoolOp .And (a::b::rest) pos) (Nr tA Ku):=by
 intro wh pins s σ H Q I h;refine isTrue_and (av (ha pins s σ H _ I h) λc s1 ⟨H1,I1,q1⟩=>?_);cases c with
 |true=>exact hb wh pins s1 σ H1 Q I1 q1
 |false=>exact⟨H1,I1,q1⟩
theorem mz(ha:PT X a tA)(hb:PW X (.BoolOp .Or (b::rest) pos) Ku):PW X (.BoolOp .Or (a::b::rest) pos) (RV tA Ku):=by
 intro wh pins s σ H Q I h;refine isTrue_or (av (ha pins s σ H _ I h) λc s1 ⟨H1,I1,q1⟩=>?_);cases c with
 |true=>exact⟨H1,I1,q1⟩
 |false=>exact hb wh pins s1 σ H1 Q I1 q1
theorem js(ha:PT X a tA):PT X (.UnaryOp .Not a pos) (Nt tA):=by intro pins s σ H Q I h;exact isTrue_not (ha pins s σ H (λc H1=>Q (!c) H1) I h)
def HN(ta tb:TE):TE:=λσ H Q=>ta σ H λx H1=>∃c,x=.bl c/\if c=true then tb σ H1 Q else Q (.bl false) H1
def Nu(ta tb:TE):TE:=λσ H Q=>ta σ H λx H1=>∃c,x=.bl c/\if c=true then Q (.bl true) H1 else tb σ H1 Q
def Kv(ta:TE):TE:=λσ H Q=>ta σ H λx H1=>∃c,x=.bl c/\Q (.bl (!c)) H1
theorem lq{op}{t:TE}(h:PE X a t):PE X (.BoolOp op [a] pos) t:=λpins s σ H Q I hw=>BoolOp_one (h pins s σ H Q I hw)
theorem jt(ha:PE X a ta)(hb:PE X (.BoolOp .And (b::rest) pos) tb):PE X (.BoolOp .And (a::b::rest) pos) (HN ta tb):=by
 intro pins s σ H Q I h;refine BoolOp_and (av (ha pins s σ H _ I h) λv s1 ⟨x,H1,I1,r1,q1⟩=>?_);obtain⟨c,rfl,q1⟩:=q1;cases r1;refine wpAny_truthy_bool ?_;cases c with
 |true=>exact hb pins s1 σ H1 Q I1 q1
 |false=>exact⟨.bl false,H1,I1,rfl,q1⟩
theorem Kw(ha:PE X a ta)(hb:PE X (.BoolOp .Or (b::rest) pos) tb):PE X (.BoolOp .Or (a::b::rest) pos) (Nu ta tb):=by
 intro pins s σ H Q I h;refine BoolOp_or (av (ha pins s σ H _ I h) λv s1 ⟨x,H1,I1,r1,q1⟩=>?_);obtain⟨c,rfl,q1⟩:=q1;cases r1;refine wpAny_truthy_bool ?_;cases c with
 |false=>exact hb pins s1 σ H1 Q I1 q1
 |true=>exact⟨.bl true,H1,I1,rfl,q1⟩
theorem IT(ha:PE X a ta):PE X (.UnaryOp .Not a pos) (Kv ta):=by intro pins s σ H Q I h;refine UnaryOp_ (av (ha pins s σ H _ I h) λv s1 ⟨x,H1,I1,r1,q1⟩=>?_);obtain⟨c,rfl,q1⟩:=q1;cases r1;exact not_of (wpAny_truthy_bool ⟨.bl (!c),H1,I1,rfl,q1⟩)
end
def ag(K:PySem.W.Frag)(H:Hp)(a:Addr)(xs:List V):Prop :=
 Rd H a (.lst xs) \/
  ∃(o:Obj)(aM:Array Value)(n:Nat),K.lookup a=some o/\o.cls=.type "list"/\o.dict=none/\o.data=.seq aM n/\aM.size<=sizeLine/\aW xs aM.toList
def ao(K:PySem.W.Frag)(H:Hp)(a:Addr)(xs:List V):Prop :=
 Rd H a (.tup xs) \/
  ∃(o:Obj)(aM:Array Value)(n:Nat),K.lookup a=some o/\o.cls=.type "tuple"/\o.data=.seq aM n/\aM.size<=sizeLine/\aW xs aM.toList
def Nv:Value->Option V
 |.none=>some .ba
 |.bool b=>some (.bl b)
 |.int i _=>some (.int i)
 |.str x _=>some (.str x)
 |.bytes b _=>some (.Ci b)
 |.float b _=>some (.IG b)
 |.ref a=>some (.ref a)
 |.type n=>some (.ty n)
 |_=>none
theorem RelV.abs{x:V}{u:Value}(r:RelV x u):Nv u=some x:=by
 cases x with
 |ba=>cases r;rfl
 |bl _=>cases r;rfl
 |int _=>obtain⟨t,rfl⟩:=r;rfl
 |str _=>obtain⟨t,rfl⟩:=r;rfl
 |Ci _=>obtain⟨t,rfl⟩:=r;rfl
 |IG _=>obtain⟨t,rfl⟩:=r;rfl
 |ref _=>cases r;rfl
 |ty _=>cases r;rfl
theorem RelV.inj{x y:V}{u:Value}(r:RelV x u)(q:RelV y u):x=y:=Option.some.inj (r.abs.symm.trans q.abs)
theorem aW.inj:∀{xs ys:List V}{us:List Value},aW xs us->aW ys us->xs=ys
 |_,_,_,.nil,.nil=>rfl
 |_,_,_,.cons r t,.cons r' t'=>by rw[r.inj r',aW.inj t t']
section
variable{X:Cx}{pins:List (Addr×Obj)}{σ:St}{H:Hp}{s:Shared}{a:Addr}{xs ys:List V}
theorem ag.of{K:PySem.W.Frag}(h:H a=some (.lst xs)):ag K H a xs:=.inl (.inl h)
theorem ao.of{K:PySem.W.Frag}(h:H a=some (.tup xs)):ao K H a xs:=.inl (.inl h)
theorem Inv.list(I:Inv X pins σ H s)(h:ag X.K H a xs):∃aM:List Value,aW xs aM/\PlainL s.heap a aM.toArray/\xs.length<=sizeLine:=by
 rcases h with h|⟨o,aM,n,hk,hc,hd,hs,hz,r⟩
 ·obtain⟨z,aM,n,r,e⟩:=h.ok I.aq;exact⟨aM,r,⟨_,n,e,rfl,rfl,rfl⟩,z⟩
 refine⟨aM.toList,r,⟨o,n,I.pJ a o hk,hc,hd,by simpa using hs⟩,?_⟩;have e:=r.length;simp only[Array.length_toList]at e;lia
theorem Inv.tuple(I:Inv X pins σ H s)(h:ao X.K H a xs):∃aM:List Value,aW xs aM/\IsTup s.heap a aM.toArray/\xs.length<=sizeLine:=by
 rcases h with h|⟨o,aM,n,hk,hc,hs,hz,r⟩
 ·obtain⟨z,aM,r,p⟩:=h.ok I.aq;exact⟨aM,r,p,z⟩
 refine⟨aM.toList,r,⟨o,I.pJ a o hk,hc,n,by simpa using hs⟩,?_⟩;have e:=r.length;simp only[Array.length_toList]at e;lia
theorem Inv.Cw(I:Inv X pins σ H s)(h:ag X.K H a xs)(h':ag X.K H a ys):xs=ys:=by
 obtain⟨aM,r,⟨o,n,e,_,_,d⟩,_⟩:=I.list h;obtain⟨its',r',⟨o',n',e',_,_,d'⟩,_⟩:=I.list h';rw[e]at e';cases e';rw[d]at d';injection d' with d1 _;have:aM=its':=by simpa using congrArg Array.toList d1
 subst this;exact r.inj r'
theorem Inv.iH(I:Inv X pins σ H s)(h:ao X.K H a xs)(h':ao X.K H a ys):xs=ys:=by
 obtain⟨aM,r,⟨o,e,_,n,d⟩,_⟩:=I.tuple h;obtain⟨its',r',⟨o',e',_,n',d'⟩,_⟩:=I.tuple h';rw[e]at e';cases e';rw[d]at d';injection d' with d1 _;have:aM=its':=by simpa using congrArg Array.toList d1
 subst this;exact r.inj r'
end
abbrev Cx.p8(X:Cx)(E:Value->Shared->Prop):Cx:={ X with xe:=E }
abbrev Cx.wU(X:Cx):Cx:=X.p8 λ_ _=>False
theorem Cx.Ok.p8{X:Cx}(ok:X.Ok)(E:Value->Shared->Prop):(X.p8 E).Ok :=
 ⟨ok.mod,ok.kind,ok.glob,ok.blt,ok.above,ok.inj,ok.has,ok.IJ,ok.hd,ok.frames,ok.yX,ok.KR,ok.bs,ok.FD,ok.ym,ok.wc,ok.oO,ok.IK⟩
theorem Cx.Ok.eF{X:Cx}{E:Value->Shared->Prop}(ok:(X.p8 E).Ok):X.Ok :=
 ⟨ok.mod,ok.kind,ok.glob,ok.blt,ok.above,ok.inj,ok.has,ok.IJ,ok.hd,ok.frames,ok.yX,ok.KR,ok.bs,ok.FD,ok.ym,ok.wc,ok.oO,ok.IK⟩
section
variable{X:Cx}{pins:List (Addr×Obj)}{σ:St}{H:Hp}{s:Shared}{E:Value->Shared->Prop}
theorem Inv.p8(I:Inv X pins σ H s)(E:Value->Shared->Prop):Inv (X.p8 E) pins σ H s:=⟨I.ok.p8 E,I.os,I.bare,I.base,I.loc,I.cell,I.free,I.jc,I.pin,I.aq,I.len⟩
theorem Inv.eF(I:Inv (X.p8 E) pins σ H s):Inv X pins σ H s:=⟨I.ok.eF,I.os,I.bare,I.base,I.loc,I.cell,I.free,I.jc,I.pin,I.aq,I.len⟩
theorem SP.eF{D:Ends}{f:Flow}{s':Shared}(h:SP (X.p8 E) pins D f s'):SP X pins D f s':=by
 cases f with
 |next=>obtain⟨σ',H',I,q⟩:=h;exact⟨σ',H',I.eF,q⟩
 |brk=>obtain⟨σ',H',I,q⟩:=h;exact⟨σ',H',I.eF,q⟩
 |cont=>obtain⟨σ',H',I,q⟩:=h;exact⟨σ',H',I.eF,q⟩
 |ret u=>obtain⟨v,σ',H',I,r,q⟩:=h;exact⟨v,σ',H',I.eF,r,q⟩
end
section
variable{X:Cx}{st:Stmt}{rest:List Stmt}{t u:TS}{e:Expr}{te:TE}{pos:Pos}
def Kx:TS:=λD σ H=>D.nx σ H
def Nx(t u:TS):TS:=λD σ H=>t { D with nx:=u D } σ H
theorem aZ:Cj X [] Kx:=λ_ _ σ H _ I h=>wpAny_execs_nil ⟨σ,H,I,h⟩
theorem aD(h1:PS X st t)(h2:Cj X rest u):Cj X (st::rest) (Nx t u):=by
 intro pins s σ H D I h;refine wpAny_execs_cons (av (h1 pins s σ H { D with nx:=u D } I h) λf s1 q=>?_)
 cases f with
 |next =>
  obtain⟨σ',H',I',q⟩:=q;exact h2 pins s1 σ' H' D I' q
 |ret v=>exact q
 |brk=>exact q
 |cont=>exact q
theorem aF(h1:PS X st t):Cj X [st] t:=by
 intro pins s σ H D I h;refine wpAny_execs_cons (av (h1 pins s σ H D I h) λf s1 q=>?_);cases f with
 |next=>exact wpAny_execs_nil q
 |ret v=>exact q
 |brk=>exact q
 |cont=>exact q
theorem Inv.quiet{pins:List (Addr×Obj)}{σ:St}{H:Hp}{s:Shared}(I:Inv X pins σ H s):interactive X.env=false:=by simp[interactive,I.ok.kind]
def Ky(te:TE):TS:=λD σ H=>te σ H λ_ H1=>D.nx σ H1
theorem bV(he:PE X e te)(hs:swapsWith e none pos.line X.env=pure false:=by rfl):PS X (.Expr e pos) (Ky te):=by intro pins s σ H D I h;exact wpAny_Expr_any (av (he pins s σ H _ I h) λv s1 ⟨x,H1,I1,r1,q1⟩=>⟨σ,H1,I1,q1⟩) I.quiet hs
def Ny(te:TE):TS:=λD σ H=>te σ H D.rt
theorem aS(he:PE X e te):PS X (.Return (some e) pos) (Ny te):=by intro pins s σ H D I h;exact wpAny_Return_some (av (he pins s σ H _ I h) λv s1 ⟨x,H1,I1,r1,q1⟩=>⟨x,σ,H1,I1,r1,q1⟩)
def Nz(c:TT)(t u:TS):TS:=λD σ H=>c σ H λb H1=>if b=true then t D σ H1 else u D σ H1
theorem ay{c:Expr}{a b:List Stmt}{tc:TT}(hc:PT X c tc)(ha:Cj X a t)(hb:Cj X b u):PS X (.If c a b pos) (Nz tc t u):=by
 intro pins s σ H D I h;refine wpAny_If (av (hc pins s σ H _ I h) λd s1 ⟨H1,I1,q1⟩=>?_);cases d with
 |true=>exact ha pins s1 σ H1 D I1 q1
 |false=>exact hb pins s1 σ H1 D I1 q1
end
abbrev TG:=V->St->Hp->(St->Hp->Prop)->Prop
abbrev FH:=List V->St->Hp->(St->Hp->Prop)->Prop
def PG(X:Cx)(target:Expr)(t:TG):Prop :=
 ∀(pins:List (Addr×Obj))(s:Shared)(σ:St)(H:Hp)(v:V)(u:Value)(Q:St->Hp->Prop),Inv X pins σ H s->RelV v u->t v σ H Q ->
  wpAny (model X.prog X.w) X.A (assign target X.env u) (λ_ s'=>∃σ' H',Inv X pins σ' H' s'/\Q σ' H') X.xe s
def Kz(X:Cx)(ts:List Expr)(t:FH):Prop :=
 ∀(pins:List (Addr×Obj))(s:Shared)(σ:St)(H:Hp)(vs:List V)(us:List Value)(Q:St->Hp->Prop),Inv X pins σ H s->aW vs us->t vs σ H Q ->
  wpAny (model X.prog X.w) X.A (assignInOrder ((assignEach ts X.env).map (·.2)) us) (λ_ s'=>∃σ' H',Inv X pins σ' H' s'/\Q σ' H') X.xe s
abbrev M1:=V->V->Hp->VK->Prop
def QK(X:Cx)(op:Operator)(t:M1):Prop :=
 ∀(pins:List (Addr×Obj))(s:Shared)(σ:St)(H:Hp)(x y:V)(v u:Value)(Q:VK),Inv X pins σ H s->RelV x v->RelV y u->t x y H Q ->
  wpAny (model X.prog X.w) X.A (inplaceOp op v u) (EP X pins σ Q) X.xe s
section
variable{X:Cx}{pos:Pos}
def m7(i:Nat):TG:=λv σ H Q=>Q (σ.set i (some v)) H
theorem aJ{i:Nat}{x:Str}(hN:X.N.Nodup)(hi:X.N[i]?=some x)(hx:Loc X.env.scope x)(hf:X.fn x=true\/X.env.scope.names.lookup x=some .local:=by first|exact .inl rfl|exact .inr rfl|assumption):PG X (.Name x pos) (m7 i):=by intro pins s σ H v u Q I r h;exact wpAny_assign_Name (qf I hN hi hx r (λs' I'=>⟨_,H,I',h⟩) hf)
def IU:FH:=λvs σ H Q=>vs=[]/\Q σ H
def wg(t:TG)(u:FH):FH:=λvs σ H Q=>∃v r,vs=v::r/\t v σ H λσ' H'=>u r σ' H' Q
theorem eU:Kz X [] IU:=by intro pins s σ H vs us Q I r h;obtain⟨e,h⟩:=h;subst e;cases r;exact assignInOrder_nil ⟨σ,H,I,h⟩
theorem aa{e:Expr}{es:List Expr}{t:TG}{u:FH}(h1:PG X e t)(h2:Kz X es u)(hs:(assignEach (e::es) X.env).map (·.2)=assign e X.env::(assignEach es X.env).map (·.2):=by rfl):Kz X (e::es) (wg t u):=by
 intro pins s σ H vs us Q I r h;obtain⟨v,vr,e1,h⟩:=h;subst e1;cases r with
 |cons r rr =>
  rw[hs];refine assignInOrder_cons (av (h1 pins s σ H _ _ _ I r h) λ_ s1 ⟨σ1,H1,I1,q1⟩=>?_);exact h2 pins s1 σ1 H1 _ _ Q I1 rr q1
def IV(K:PySem.W.Frag)(n:Nat)(t:FH):TG:=λv σ H Q=>∃a xs,v=.ref a/\ao K H a xs/\xs.length=n/\t xs σ H Q
theorem ju{es:List Expr}{k:Nat}{t:FH}{n:Nat}(hc:X.calm=true)(h:Kz X es t)(hn:(assignEach es X.env).length=n:=by rfl)(Ac:(assignEach es X.env).findIdx? (·.1)=none:=by rfl):PG X (.Tuple es k pos) (IV X.K n t):=by
 intro pins s σ H v u Q I r hw;obtain⟨a,xs,e1,hq,hl,hw⟩:=hw;subst e1;cases r;obtain⟨aM,rv,ht,hz⟩:=I.tuple hq;refine assign_Tuple_tuple (I.ok.hd hc) ht (by simp[hn,<-hl,rv.length]) Ac λh' hx=>?_;have I1:Inv X pins σ H { s with heap:=h' }:=I.kept (t':=s.toks) λb o e=>hx b o (Nat.ne_of_lt (Heap.lt_size e)) e
 exact h pins _ σ H xs _ Q I1 (by simpa using rv) hw
def IW(te:TE)(g:TG):TS:=λD σ H=>te σ H λx H1=>g x σ H1 D.nx
theorem yt{tg e:Expr}{te:TE}{g:TG}(he:PE X e te)(hg:PG X tg g)(hs:swapsWithSole [tg] e pos.line X.env=pure false:=by rfl)(hw:swappedStores [tg] e X.env=pure none:=by rfl)(h1:(assignEach [tg] X.env).map (·.2)=[assign tg X.env]:=by rfl):PS X (.Assign [tg] e pos) (IW te g):=by intro pins s σ H D I h;refine wpAny_Assign_stores (av (he pins s σ H _ I h) λv s1 ⟨x,H1,I1,r1,q1⟩=>?_) hs hw;rw[h1];exact av (hg pins s1 σ H1 x v _ I1 r1 q1) λ_ s2 q=>q
theorem aT{i:Nat}{x:Str}{e:Expr}{te:TE}{pos':Pos}(hN:X.N.Nodup)(hi:X.N[i]?=some x)(hx:Loc X.env.scope x)(he:PE X e te)(hs:swapsWith e (some (.Name x pos')) pos.line X.env=pure false:=by rfl)(hf:X.fn x=true\/X.env.scope.names.lookup x=some .local:=by first|exact .inl rfl|exact .inr rfl|assumption):
  PS X (.Assign [.Name x pos'] e pos) (IW te (m7 i)):=by
 intro pins s σ H D I h;refine wpAny_Assign_Name (av (he pins s σ H _ I h) λv s1 ⟨y,H1,I1,r1,q1⟩=>?_) hs;exact qf I1 hN hi hx r1 (λs2 I2=>⟨_,H1,I2,q1⟩) hf
def N0(i:Nat)(te:TE)(ti:M1):TS:=λD σ H=>∃x,σ[i]?=some (some x)/\te σ H λy H1=>ti x y H1 λz H2=>D.nx (σ.set i (some z)) H2
theorem IY{i:Nat}{x:Str}{e:Expr}{te:TE}{op:Operator}{ti:M1}{pos':Pos}(hN:X.N.Nodup)(hi:X.N[i]?=some x)(hx:Loc X.env.scope x)(he:PE X e te)(ho:QK X op ti)(hf:X.fn x=true\/X.env.scope.names.lookup x=some .local:=by first|exact .inl rfl|exact .inr rfl|assumption):
  PS X (.AugAssign (.Name x pos') op e pos) (N0 i te ti):=by
 intro pins s σ H D I h;obtain⟨v,e1,h⟩:=h;obtain⟨m,hn,hl⟩:=I.loc;have RW:Kr X.env.scope x:=by rcases hx with k|k;exact .inl k;exact .inr (.inl k)
 obtain⟨u,r,l⟩:=hl i x v hi e1 RW;refine wpAny_AugAssign_Name ?_;have go:wpAny (model X.prog X.w) X.A (eval e X.env) (λw s₂=>wpAny (model X.prog X.w) X.A (inplaceOp op u w) (λr s₃=>wpAny (model X.prog X.w) X.A (storeName X.env x r) (λ_=>SP X pins D .next) X.xe s₃) X.xe s₂) X.xe s:=by refine av (he pins s σ H _ I h) λw s1 ⟨y,H1,I1,r1,q1⟩=>?_;refine av (ho pins s1 σ H1 v y u w _ I1 r r1 q1) λz s2 ⟨zv,H2,I2,r2,q2⟩=>?_;exact qf I2 hN hi hx r2 (λs3 I3=>⟨_,H2,I3,q2⟩) hf
 rcases l with⟨hk,hm⟩|⟨hk,c,hc,tZ⟩
 ·exact wpAny_loadName_local I.ok.kind hk hn hm go
 rcases hk with hk|hk
 ·exact wpAny_loadName_cell I.ok.kind hk hc tZ go
 rcases hx with k|k
 ·have:X.env.scope.names.lookup x=some .free:=hk;rw[k]at this;cases this
 have:X.env.scope.names.lookup x=some .free:=hk;rw[k]at this;cases this
def RX(f:Int->Int->Int):M1:=λx y H Q=>∃i j,x=.int i/\y=.int j/\Q (.int (f i j)) H
theorem IZ:QK X .Add (RX λi j=>i+j):=by intro pins s σ H x y v u Q I r1 r2 h;obtain⟨i,j,e1,e2,q⟩:=h;subst e1;subst e2;obtain⟨t,rfl⟩:=r1;obtain⟨t',rfl⟩:=r2;exact iadd_int ⟨.int _,H,I.tok _,⟨_,rfl⟩,q⟩
end
section
variable{X:Cx}{pos:Pos}
def Ia(c:TT)(tb:TS):TS:=λD σ H=>∃W:Nat->St->Hp->Prop,(∃m,W m σ H)/\∀m σ H,W m σ H ->
 c σ H λb H1=>if b=true then ∃N:St->Hp->Prop,(∀σ' H',N σ' H'->∃m',m'<m/\W m' σ' H')/\tb { D with nx:=N,ct:=N,bk:=D.nx } σ H1 else D.nx σ H1
theorem wj{c:Expr}{body:List Stmt}{tc:TT}{tb:TS}(hp:PassesOwn (model X.prog X.w) X.A X.env X.xe)(hc:PT X c tc)(hb:Cj X body tb):PS X (.While c body [] pos) (Ia tc tb):=by
 intro pins s σ H D I h;obtain⟨W,⟨m0,w0⟩,turn⟩:=h;refine wpAny_While (codeAny_whileLoop (λn s'=>∃σ' H',Inv X pins σ' H' s'/\W n σ' H') ?_ m0 ⟨σ,H,I,w0⟩);rintro n s1 ⟨σ1,H1,I1,w1⟩;refine wpAny_passesOwn hp (av (hc pins s1 σ1 H1 _ I1 (turn n σ1 H1 w1)) λb s2 ⟨H2,I2,q2⟩=>?_);cases b with
 |true =>
  obtain⟨N,hN,q2⟩:=q2;rw[if_pos rfl];refine wpAny_passesOwn hp (av (hb pins s2 σ1 H2 _ I2 q2) λf s3 q3=>?_);cases f with
  |next =>
   obtain⟨σ3,H3,I3,n3⟩:=q3;obtain⟨m',hm,w3⟩:=hN σ3 H3 n3;exact⟨m',hm,σ3,H3,I3,w3⟩
  |cont =>
   obtain⟨σ3,H3,I3,n3⟩:=q3;obtain⟨m',hm,w3⟩:=hN σ3 H3 n3;exact⟨m',hm,σ3,H3,I3,w3⟩
  |brk=>exact q3
  |ret v=>exact q3
 |false =>
  rw[if_neg Bool.false_ne_true];exact wpAny_execs_nil ⟨σ1,H2,I2,q2⟩
end
structure It where
 go:Nat->Hp->Prop
 Ae:Nat->Hp->V->Hp->Prop
 stop:Nat->Hp->Prop
def lr(X:Cx)(pins:List (Addr×Obj))(H:Hp)(b:Addr):Prop :=
 H b=none/\b≠X.env.locals/\b∉X.fs/\(b∈X.ex\/X.s₀.heap.objs.size<=b)/\(∀x c,X.env.cells.lookup x=some c->c≠b)/\∀p∈X.pn++pins,p.1≠b
theorem Inv.p9{X:Cx}{pins:List (Addr×Obj)}{σ:St}{H H':Hp}{s:Shared}{b:Addr}(I:Inv X pins σ H s)(hb:s.heap.objs.size<=b)(hn:H' b=none):lr X pins H' b:=by
 refine⟨hn,Nat.ne_of_gt (Nat.lt_of_lt_of_le I.lt hb),I.Nl hb,.inr (Nat.le_trans I.sz hb),λx c e z=>?_,λp hp z=>?_⟩
 ·obtain⟨v,q⟩:=I.cell x c e;exact absurd (Nat.lt_of_lt_of_le q.lt (by rw[z];exact hb)) (Nat.lt_irrefl _)
 exact absurd (Nat.lt_of_lt_of_le (Heap.lt_size (I.pin p hp).1) (by rw[z];exact hb)) (Nat.lt_irrefl _)
structure Turn(P:Program)(w:World)(K:PySem.W.Frag)(tg:Expr)(J:It)(fp:List Addr)(it:Addr)(tn:Nat->Heap->Prop):Prop where
 mem:it∈fp
 obj:∀i h,tn i h->∀b∈fp,∃o,h.get? b=some o/\∀v,o.data≠.cell v
 keep:∀i h h',tn i h->(∀b∈fp,∀o,h.get? b=some o->h'.get? b=some o)->tn i h'
 item:∀(X:Cx),X.prog=P->X.w=w->X.K=K->X.calm=true->∀(i:Nat)(pins:List (Addr×Obj))(s:Shared)(σ:St)(H:Hp)(E:Value->Shared->Prop),Inv X pins σ H s->(∀b∈fp,lr X pins H b)->tn i s.heap->J.go i H ->
  wpAny (model P w) X.A (pyNext (.ref it)) (λr s1=>∃u,r=some u /\
   wpAny (model P w) X.A (letOwnedTupleGo tg (.ref it) u) (λ_ s2=>∃x H',Inv X pins σ H' s2/\RelV x u/\J.Ae i H x H'/\tn (i+1) s2.heap/\∀b∈fp,H' b=none) E s1) E s
 done:∀(X:Cx),X.prog=P->X.w=w->X.K=K->X.calm=true->∀(i:Nat)(pins:List (Addr×Obj))(s:Shared)(σ:St)(H:Hp)(E:Value->Shared->Prop),Inv X pins σ H s->(∀b∈fp,lr X pins H b)->tn i s.heap->J.stop i H ->
  wpAny (model P w) X.A (pyNext (.ref it)) (λr s1=>r=none/\Inv X pins σ H s1) E s
 self:∀(A:Around)(i:Nat)(s:Shared)(Q:Value->Shared->Prop)(E:Value->Shared->Prop),tn i s.heap->Q (.ref it) s->wpAny (model P w) A (pyIter (.ref it)) Q E s
abbrev TI:=St->Hp->(It->Hp->Prop)->Prop
def QL(X:Cx)(pins:List (Addr×Obj))(σ:St)(tg:Expr)(R:It->Hp->Prop)(K0:Value)(s2:Shared):Prop :=
 ∃(it:Addr)(fp:List Addr)(tn:Nat->Heap->Prop)(J:It)(H':Hp),K0=.ref it/\Inv X pins σ H' s2/\Turn X.prog X.w X.K tg J fp it tn/\tn 0 s2.heap/\(∀b∈fp,lr X pins H' b)/\R J H'
def PI(X:Cx)(tg iter:Expr)(wi:TI):Prop :=
 ∀(pins:List (Addr×Obj))(s:Shared)(σ:St)(H:Hp)(R:It->Hp->Prop),Inv X pins σ H s->wi σ H R ->
  wpAny (model X.prog X.w) X.A (eval iter X.env) (λv s1=>wpAny (model X.prog X.w) X.A (pyIter v) (QL X pins σ tg R) X.xe s1) X.xe s
theorem tj{M:Model}{A:Around}{E:Value->Shared->Prop}{s:Shared}{tg:Expr}{it:Addr}{u:Value}{o:Obj}{n:String}{vs:Array Value}{Q:Unit->Shared->Prop}(ho:s.heap.get? it=some o)(hc:o.cls=.type n)(hd:o.data=.fields vs)(hn:["enumerate","zip","dict_itemiterator","dict_reverseitemiterator","odict_iterator","itertools.zip_longest","itertools.pairwise"].contains n=false)(hQ:Q () s):wpAny M A (letOwnedTupleGo tg (.ref it) u) Q E s:=by
 unfold letOwnedTupleGo;cases tg<;>first
  |exact wpAny_pure hQ
  | (cases u<;>first
    |exact wpAny_pure hQ
    | (refine wpAny_bind (wpAny_load ho ?_)
       rw[hc,hd];show wpAny M A (if(["enumerate","zip","dict_itemiterator","dict_reverseitemiterator","odict_iterator","itertools.zip_longest","itertools.pairwise"].contains n&&vs[0]?==some (rawInt _))=true then _ else _) Q E s;rw[if_neg (by intro h;rw[hn,Bool.false_and]at h;cases h)];exact wpAny_pure hQ))
def KS(K:PySem.W.Frag)(a:Addr):It :=
 ⟨λi H=>∃xs x,ag K H a xs/\xs[i]?=some x,λi H x H'=>H'=H/\∀xs,ag K H a xs->xs[i]?=some x,λi H=>∃xs,ag K H a xs/\xs.length<=i⟩
def KU(K:PySem.W.Frag)(a:Addr):It :=
 ⟨λi H=>∃xs x,ao K H a xs/\xs[i]?=some x,λi H x H'=>H'=H/\∀xs,ao K H a xs->xs[i]?=some x,λi H=>∃xs,ao K H a xs/\xs.length<=i⟩
def HP(lo:Int)(n:Nat):It:=⟨λi _=>i<n,λi H x H'=>H'=H/\x=.int (lo+i),λi _=>n<=i⟩
theorem tq{P:Program}{w:World}{K:PySem.W.Frag}{tg:Expr}(a it:Addr):Turn P w K tg (KS K a) [it] it (λi h=>h.IsListIter it a i)where
 mem:=by simp
 obj:=λi h st b hb=>by
  have e:b=it:=by simpa using hb
  subst e;obtain⟨o,e,c,d⟩:=st;exact⟨o,e,λv z=>by rw[d]at z;cases z⟩
 keep:=λi h h' st k=>st.at λo e=>k it (by simp) o e
 item:=by
  intro X hP hw hK hc i pins s σ H E I hf st hg;subst hP hw hK;obtain⟨xs,x,hq,hx⟩:=hg;obtain⟨aM,rv,p,hz⟩:=I.list hq;obtain⟨u,hu,ru⟩:=rv.get hx;obtain⟨f0,f1,f2,f3,f4,f5⟩:=hf it (by simp);refine wpAny_pyNext_list_item st p.isList (x:=u) (by simpa using hu) λh' oR sb=>?_;have I1:Inv X pins σ H { s with heap:=h' }:=I.turned (t':=s.toks) (λb o hb e=>(sb.2 b hb).trans e) f0 f1 f3 f4 f5
  obtain⟨o,e,c,d⟩:=id oR;exact⟨u,rfl,tj (s:={ s with heap:=h' }) e c d (by decide) ⟨x,H,I1,ru,⟨rfl,λys hy=>by rw[I.Cw hy hq];exact hx⟩,oR,λb hb=>(hf b hb).1⟩⟩
 done:=by intro X hP hw hK hc i pins s σ H E I hf st hg;subst hP hw hK;obtain⟨xs,hq,hx⟩:=hg;obtain⟨aM,rv,p,hz⟩:=I.list hq;obtain⟨f0,f1,f2,f3,f4,f5⟩:=hf it (by simp);have hl:=rv.length;exact wpAny_pyNext_list_end (I.ok.hd hc) st p.isList (by simp;lia) λh' eb=>⟨rfl,I.turned (t':=s.toks) (λb o hb e=>eb b o hb e) f0 f1 f3 f4 f5⟩
 self:=λ_ _ _ _ _ st h=>wpAny_pyIter_listiter st h
theorem qg{P:Program}{w:World}{K:PySem.W.Frag}{tg:Expr}(a it:Addr):Turn P w K tg (KU K a) [it] it (λi h=>h.IsTupleIter it a i)where
 mem:=by simp
 obj:=λi h st b hb=>by
  have e:b=it:=by simpa using hb
  subst e;obtain⟨o,e,c,d⟩:=st;exact⟨o,e,λv z=>by rw[d]at z;cases z⟩
 keep:=λi h h' st k=>st.at λo e=>k it (by simp) o e
 item:=by
  intro X hP hw hK hc i pins s σ H E I hf st hg;subst hP hw hK;obtain⟨xs,x,hq,hx⟩:=hg;obtain⟨aM,rv,p,hz⟩:=I.tuple hq;obtain⟨u,hu,ru⟩:=rv.get hx;obtain⟨f0,f1,f2,f3,f4,f5⟩:=hf it (by simp);refine wpAny_pyNext_tuple_item st (show s.heap.IsTuple a aM.toArray from p) (x:=u) (by simpa using hu) λh' oR sb=>?_;have I1:Inv X pins σ H { s with heap:=h' }:=I.turned (t':=s.toks) (λb o hb e=>(sb.2 b hb).trans e) f0 f1 f3 f4 f5
  obtain⟨o,e,c,d⟩:=id oR;exact⟨u,rfl,tj (s:={ s with heap:=h' }) e c d (by decide) ⟨x,H,I1,ru,⟨rfl,λys hy=>by rw[I.iH hy hq];exact hx⟩,oR,λb hb=>(hf b hb).1⟩⟩
 done:=by intro X hP hw hK hc i pins s σ H E I hf st hg;subst hP hw hK;obtain⟨xs,hq,hx⟩:=hg;obtain⟨aM,rv,p,hz⟩:=I.tuple hq;obtain⟨f0,f1,f2,f3,f4,f5⟩:=hf it (by simp);have hl:=rv.length;exact wpAny_pyNext_tuple_end (I.ok.hd hc) st (show s.heap.IsTuple a aM.toArray from p) (by simp;lia) λh' eb=>⟨rfl,I.turned (t':=s.toks) (λb o hb e=>eb b o hb e) f0 f1 f3 f4 f5⟩
 self:=λ_ _ _ _ _ st h=>wpAny_pyIter_tupleiter st h
theorem yu{P:Program}{w:World}{K:PySem.W.Frag}{tg:Expr}(it:Addr)(lo:Int)(n:Nat):Turn P w K tg (HP lo n) [it] it (λi h=>IsRangeIter h it (lo+(i:Nat)*1) ((n:Int)-(i:Nat)) 1)where
 mem:=by simp
 obj:=λi h st b hb=>by
  have e:b=it:=by simpa using hb
  subst e;exact⟨_,st,λv z=>by have z':Data.fields _=Data.cell v:=z;cases z'⟩
 keep:=λi h h' st k=>k it (by simp) _ st
 item:=by
  intro X hP hw hK hc i pins s σ H E I hf st hg;subst hP hw hK;obtain⟨f0,f1,f2,f3,f4,f5⟩:=hf it (by simp);have W:=Walks.range (prog:=X.prog) (w:=X.w) (I.ok.hd hc) it lo 1 n;refine W.item i s _ _ hg st λv h' tk hv oR kk=>?_;obtain⟨t,rfl⟩:=hv;have I1:Inv X pins σ H { s with heap:=h',toks:=tk }:=I.turned (λb o hb e=>kk b o (by simpa using hb) e) f0 f1 f3 f4 f5
  refine⟨_,rfl,tj (s:={ s with heap:=h',toks:=tk }) (n:="range_iterator") oR rfl rfl (by decide) ⟨.int (lo+i),H,I1,⟨t,?_⟩,⟨rfl,rfl⟩,oR,λb hb=>(hf b hb).1⟩⟩
  rw[Int.mul_one]
 done:=by intro X hP hw hK hc i pins s σ H E I hf st hg;subst hP hw hK;obtain⟨f0,f1,f2,f3,f4,f5⟩:=hf it (by simp);exact wpAny_pyNext_range_end (I.ok.hd hc) st (by have:n<=i:=hg;lia) λh' eb=>⟨rfl,I.turned (t':=s.toks) (λb o hb e=>eb b o hb e) f0 f1 f3 f4 f5⟩
 self:=λ_ _ _ _ _ st h=>wpAny_pyIter_rangeiter st h
section
variable{X:Cx}{tg:Expr}
def HQ(K:PySem.W.Frag)(tl:TE):TI:=λσ H R=>tl σ H λx H1=>∃a,x=.ref a/\(∃xs,ag K H1 a xs)/\R (KS K a) H1
def K1(K:PySem.W.Frag)(tl:TE):TI:=λσ H R=>tl σ H λx H1=>∃a,x=.ref a/\(∃xs,ao K H1 a xs)/\R (KU K a) H1
theorem FI{l:Expr}{tl:TE}(hl:PE X l tl):PI X tg l (HQ X.K tl):=by
 intro pins s σ H R I h;refine av (hl pins s σ H _ I h) λv s1 ⟨x,H1,I1,r1,q1⟩=>?_;obtain⟨a,e,⟨xs,hq⟩,q⟩:=q1;subst e;cases r1;obtain⟨aM,rv,p,hz⟩:=I1.list hq;refine wpAny_pyIter_list p.isList ?_;refine⟨s1.heap.objs.size,[s1.heap.objs.size],_,_,H1,rfl,I1.kept (t':=s1.toks) λb o e=>Heap.get?_push_of_some _ e,tq a _,⟨_,Heap.get?_push_size _ rfl,rfl,rfl⟩,λb hb=>?_,q⟩;have e:b=s1.heap.objs.size:=by simpa using hb
 subst e;exact I1.p9 (Nat.le_refl _) (I1.aq.fresh (Nat.le_refl _))
theorem Ib{l:Expr}{tl:TE}(hl:PE X l tl):PI X tg l (K1 X.K tl):=by
 intro pins s σ H R I h;refine av (hl pins s σ H _ I h) λv s1 ⟨x,H1,I1,r1,q1⟩=>?_;obtain⟨a,e,⟨xs,hq⟩,q⟩:=q1;subst e;cases r1;obtain⟨aM,rv,p,hz⟩:=I1.tuple hq;refine wpAny_pyIter_tuple (show s1.heap.IsTuple a aM.toArray from p) ?_;refine⟨s1.heap.objs.size,[s1.heap.objs.size],_,_,H1,rfl,I1.kept (t':=s1.toks) λb o e=>Heap.get?_push_of_some _ e,qg a _,⟨_,Heap.get?_push_size _ rfl,rfl,rfl⟩,λb hb=>?_,q⟩;have e:b=s1.heap.objs.size:=by simpa using hb
 subst e;exact I1.p9 (Nat.le_refl _) (I1.aq.fresh (Nat.le_refl _))
theorem wm{pins:List (Addr×Obj)}{σ:St}{H:Hp}{s:Shared}{R:It->Hp->Prop}{E:Value->Shared->Prop}{lo hi:Int}{t u v:Tok}{tk:Nat}(I:Inv X pins σ H s)(h1:-(2 ^ 62)<=lo)(h2:lo<2 ^ 62)(h3:-(2 ^ 62)<=hi)(h4:hi<2 ^ 62)(q:R (HP lo (hi-lo).toNat) H):wpAny (model X.prog X.w) X.A (pyIter (.ref s.heap.objs.size)) (QL X pins σ tg R) E { s with heap:=s.heap.push { cls:=.type "range",data:=.fields #[.int lo t,.int hi u,.int 1 v] },toks:=tk }:=by
 refine wpAny_pyIter_range (IsRange.new ..) (small_one h1 h2 h3 h4) ?_;have I1:Inv X pins σ H { s with heap:=s.heap.push { cls:=.type "range",data:=.fields #[.int lo t,.int hi u,.int 1 v] },toks:=tk }:=I.kept λb o e=>Heap.get?_push_of_some _ e
 refine⟨(s.heap.push { cls:=.type "range",data:=.fields #[.int lo t,.int hi u,.int 1 v] }).objs.size,[(s.heap.push { cls:=.type "range",data:=.fields #[.int lo t,.int hi u,.int 1 v] }).objs.size],_,_,H,rfl,
  I1.kept (t':=tk) λb o e=>Heap.get?_push_of_some _ e,yu _ lo (hi-lo).toNat,?_,λb hb=>?_,q⟩
 ·have e1:lo+((0:Nat):Int)*1=lo:=by simp
  have e2:(((hi-lo).toNat:Nat):Int)-((0:Nat):Int)=Builtin.Range.rangeSize lo hi 1:=by rw[rangeSize_one];split<;>lia
  show IsRangeIter _ _ (lo+((0:Nat):Int)*1) ((((hi-lo).toNat:Nat):Int)-((0:Nat):Int)) 1;rw[e1,e2];exact Heap.get?_push_size _ rfl
 have e:b=(s.heap.push { cls:=.type "range",data:=.fields #[.int lo t,.int hi u,.int 1 v] }).objs.size:=by simpa using hb
 subst e;exact I1.p9 (Nat.le_refl _) (I1.aq.fresh (Nat.le_refl _))
def K2(ta:TA):TI:=λσ H R=>ta σ H λvs H1=>∃j:Int,vs=[.int j]/\-(2 ^ 62)<=j/\j<2 ^ 62/\R (HP 0 j.toNat) H1
def K3(ta:TA):TI:=λσ H R=>ta σ H λvs H1=>∃i j:Int,vs=[.int i,.int j]/\(-(2 ^ 62)<=i/\i<2 ^ 62/\-(2 ^ 62)<=j/\j<2 ^ 62)/\R (HP i (j-i).toNat) H1
theorem bx{a:Expr}{ta:TA}{p pos:Pos}(hg:Gl X "range")(hm:X.mg "range"=none)(ha:PA X [a] ta)(hs:starEach [a] X.env=[(false,eval a X.env)]:=by rfl):PI X tg (.Call (.Name "range" p) [a] [] pos) (K2 ta):=by
 intro pins s σ H R I h;refine Call_ (oP I hg hm boot_range (PyProof.Rows.callWith_type1 (av (ha pos pins s σ H _ I h) λus s1 ⟨vs,H1,I1,r1,q1⟩=>?_) hs rfl));obtain⟨j,e,q1,q2,q⟩:=q1;subst e;cases r1 with
 |cons r rr =>
  cases rr;obtain⟨t,rfl⟩:=r;exact call_range_1 (wm I1 (by lia) (by lia) q1 q2 (by simpa using q))
theorem BQ{a b:Expr}{ta:TA}{p pos:Pos}(hg:Gl X "range")(hm:X.mg "range"=none)(ha:PA X [a,b] ta)(hs:starEach [a,b] X.env=[(false,eval a X.env),(false,eval b X.env)]:=by rfl)(um:starEach [b] X.env=[(false,eval b X.env)]:=by rfl):
  PI X tg (.Call (.Name "range" p) [a,b] [] pos) (K3 ta):=by
 intro pins s σ H R I h;refine Call_ (oP I hg hm boot_range (PyProof.Rows.callWith_type1 (av (ha pos pins s σ H _ I h) λus s1 ⟨vs,H1,I1,r1,q1⟩=>?_) (by rw[hs,um]) (by rw[um];rfl)));obtain⟨i,j,e,⟨q1,q2,q3,q4⟩,q⟩:=q1;subst e;cases r1 with
 |cons r rr =>
  cases rr with
  |cons r' rr =>
   cases rr;obtain⟨t,rfl⟩:=r;obtain⟨t',rfl⟩:=r';exact call_range_2 (wm I1 q1 q2 q3 q4 q)
def N1(wi:TI)(g:TG)(tb:TS):TS:=λD σ H=>wi σ H λJ H1=>∃W:Nat->Nat->St->Hp->Prop,(∃m,W 0 m σ H1)/\∀i m σ H,W i m σ H ->
 (J.stop i H/\D.nx σ H)\/(J.go i H/\∃N:St->Hp->Prop,(∀σ' H',N σ' H'->∃m',m'<m/\W (i+1) m' σ' H')/\∀x H',J.Ae i H x H'->g x σ H' λσ2 H2=>tb { D with nx:=N,ct:=N,bk:=D.nx } σ2 H2)
def oS(fp:List Addr)(h:Heap):List (Addr×Obj):=fp.filterMap λb=>(h.get? b).map λo=>(b,o)
theorem dW{fp:List Addr}{h:Heap}{b:Addr}{o:Obj}(hb:b∈fp)(e:h.get? b=some o):(b,o)∈oS fp h:=List.mem_filterMap.mpr ⟨b,hb,by rw[e];rfl⟩
theorem BR{fp:List Addr}{h:Heap}{p:Addr×Obj}(hp:p∈oS fp h):p.1∈fp/\h.get? p.1=some p.2:=by
 obtain⟨b,hb,e⟩:=List.mem_filterMap.mp hp;cases q:h.get? b with
 |none=>rw[q]at e;cases e
 |some o =>
  rw[q]at e;have e':(b,o)=p:=Option.some.inj e;subst e';exact⟨hb,q⟩
theorem Inv.pinned{pins:List (Addr×Obj)}{σ:St}{H:Hp}{s:Shared}{fp:List Addr}(I:Inv X pins σ H s)(hf:∀b∈fp,lr X pins H b)(ho:∀b∈fp,∃o,s.heap.get? b=some o/\∀v,o.data≠.cell v):Inv X (pins++oS fp s.heap) σ H s :=
 I.Aa λp hp=>(List.mem_append.mp hp).elim (λz=>I.pin p (List.mem_append_right _ z)) λz=>by obtain⟨hb,e⟩:=BR z;obtain⟨f0,f1,f2,_⟩:=hf p.1 hb;obtain⟨o,e',d⟩:=ho p.1 hb;rw[e]at e';cases e';exact⟨e,f0,f1,f2,d⟩
theorem Inv.dv{pins pl:List (Addr×Obj)}{σ:St}{H:Hp}{s:Shared}(I:Inv X (pins++pl) σ H s):Inv X pins σ H s:=I.Aa λp hp=>I.pin p (List.mem_append_right _ (List.mem_append_left _ hp))
theorem bL{iter:Expr}{body:List Stmt}{wi:TI}{g:TG}{tb:TS}{pos:Pos}(hp:PassesOwn (model X.prog X.w) X.A X.env X.xe)(hc:X.calm=true)(hi:PI X tg iter wi)(hg:PG X tg g)(hb:Cj X body tb)(hs:∀x,foldedSetIterable iter X.env x=pure x:=by intro _;rfl):PS X (.For tg iter body [] pos) (N1 wi g tb):=by
 intro pins s σ H D I h;refine wpAny_For (av (hi pins s σ H _ I h) λv s1 h1=>av h1 λK0 s2 h2=>?_) hs;obtain⟨it,fp,tn,J,H2,e,I2,T,K4,f2,W,⟨m0,w0⟩,turn⟩:=h2;subst e;have qA:∀{H':Hp},(∀b∈fp,H' b=none)->∀b∈fp,lr X pins H' b:=λhn b hb=>⟨hn b hb,(f2 b hb).2⟩;refine codeAny_forLoop_any (λn s'=>∃i σ' H',Inv X pins σ' H' s'/\tn i s'.heap/\(∀b∈fp,H' b=none)/\W i n σ' H') ?_ m0 ⟨0,σ,H2,I2,K4,λb hb=>(f2 b hb).1,w0⟩;rintro n s3 ⟨i,σ3,H3,I3,QM,QN,w3⟩;rcases turn i n σ3 H3 w3 with⟨stop,qn⟩|⟨go,N,hN,step⟩
 ·refine wpAny_passesOwn hp (av (T.done X rfl rfl rfl hc i pins s3 σ3 H3 X.xe I3 (qA QN) QM stop) λr s4 ⟨hr,I4⟩=>?_);subst hr;exact wpAny_execs_nil ⟨σ3,H3,I4,qn⟩
 refine wpAny_passesOwn hp (av (T.item X rfl rfl rfl hc i pins s3 σ3 H3 X.xe I3 (qA QN) QM go) λr s4 ⟨u,hr,h4⟩=>?_);subst hr;refine wpAny_passesOwn hp (av h4 λ_ s5 ⟨x,H5,I5,r5,y5,FJ,HR⟩=>?_);have RY:=I5.pinned (qA HR) (T.obj _ _ FJ);refine wpAny_passesOwn hp (av (hg _ s5 σ3 H5 x u _ RY r5 (step x H5 y5)) λ_ s6 ⟨σ6,H6,I6,q6⟩=>?_);refine wpAny_passesOwn hp (av (hb _ s6 σ6 H6 _ I6 q6) λf s7 q7=>?_);have again:∀{σ7:St}{H7:Hp},Inv X (pins++oS fp s5.heap) σ7 H7 s7->N σ7 H7->∃m,m<n/\∃i σ' H',Inv X pins σ' H' s7/\tn i s7.heap/\(∀b∈fp,H' b=none)/\W i m σ' H':=λ{σ7 H7} I7 n7=>by obtain⟨m',hm,w7⟩:=hN σ7 H7 n7;refine⟨m',hm,i+1,σ7,H7,I7.dv,T.keep _ _ _ FJ λb hb o e=>(I7.pin (b,o) (List.mem_append_right _ (List.mem_append_right _ (dW hb e)))).1,λb hb=>?_,w7⟩;obtain⟨o,e,d⟩:=T.obj _ _ FJ b hb;exact(I7.pin (b,o) (List.mem_append_right _ (List.mem_append_right _ (dW hb e)))).2.1
 cases f with
 |next=>obtain⟨σ7,H7,I7,n7⟩:=q7;exact again I7 n7
 |cont=>obtain⟨σ7,H7,I7,n7⟩:=q7;exact again I7 n7
 |brk=>obtain⟨σ7,H7,I7,q7⟩:=q7;exact⟨σ7,H7,I7.dv,q7⟩
 |ret v=>obtain⟨x7,σ7,H7,I7,r7,q7⟩:=q7;exact⟨x7,σ7,H7,I7.dv,r7,q7⟩
end
theorem dy{K:PySem.W.Frag}{a:Addr}{xs:List V}{g:TG}{tb:TS}{D:Ends}{σ:St}{H:Hp}(Pv:Nat->St->Hp->Prop)(h0:Pv 0 σ H)(hl:∀i σ H,i<=xs.length->Pv i σ H->ag K H a xs)(hs:∀i x σ H,xs[i]?=some x->Pv i σ H->g x σ H λσ2 H2=>tb { D with nx:=Pv (i+1),ct:=Pv (i+1),bk:=D.nx } σ2 H2)(hd:∀σ H,Pv xs.length σ H->D.nx σ H):
  ∃W:Nat->Nat->St->Hp->Prop,(∃m,W 0 m σ H)/\∀i m σ H,W i m σ H ->
   ((KS K a).stop i H/\D.nx σ H)\/((KS K a).go i H/\∃N:St->Hp->Prop,(∀σ' H',N σ' H'->∃m',m'<m/\W (i+1) m' σ' H')/\∀x H',(KS K a).Ae i H x H'->g x σ H' λσ2 H2=>tb { D with nx:=N,ct:=N,bk:=D.nx } σ2 H2):=by
 refine⟨λi m σ H=>m=xs.length-i/\i<=xs.length/\Pv i σ H,⟨xs.length,by simp,Nat.zero_le _,h0⟩,?_⟩;rintro i m σ H ⟨rfl,hi,p⟩;have q:=hl i σ H hi p;by_cases bM:i<xs.length
 ·refine .inr ⟨⟨xs,xs[i],q,by simp[bM]⟩,Pv (i+1),λσ' H' p'=>⟨xs.length-(i+1),by lia,rfl,bM,p'⟩,λx H' y=>?_⟩;obtain⟨e,y⟩:=y;subst e;exact hs i x σ _ (y xs q) p
 have e:i=xs.length:=by lia
 subst e;exact .inl ⟨⟨xs,q,Nat.le_refl _⟩,hd σ H p⟩
theorem Af{K:PySem.W.Frag}{a:Addr}{xs:List V}{g:TG}{tb:TS}{D:Ends}{σ:St}{H:Hp}(Pv:Nat->St->Hp->Prop)(h0:Pv 0 σ H)(hl:∀i σ H,i<=xs.length->Pv i σ H->ao K H a xs)(hs:∀i x σ H,xs[i]?=some x->Pv i σ H->g x σ H λσ2 H2=>tb { D with nx:=Pv (i+1),ct:=Pv (i+1),bk:=D.nx } σ2 H2)(hd:∀σ H,Pv xs.length σ H->D.nx σ H):
  ∃W:Nat->Nat->St->Hp->Prop,(∃m,W 0 m σ H)/\∀i m σ H,W i m σ H ->
   ((KU K a).stop i H/\D.nx σ H)\/((KU K a).go i H/\∃N:St->Hp->Prop,(∀σ' H',N σ' H'->∃m',m'<m/\W (i+1) m' σ' H')/\∀x H',(KU K a).Ae i H x H'->g x σ H' λσ2 H2=>tb { D with nx:=N,ct:=N,bk:=D.nx } σ2 H2):=by
 refine⟨λi m σ H=>m=xs.length-i/\i<=xs.length/\Pv i σ H,⟨xs.length,by simp,Nat.zero_le _,h0⟩,?_⟩;rintro i m σ H ⟨rfl,hi,p⟩;have q:=hl i σ H hi p;by_cases bM:i<xs.length
 ·refine .inr ⟨⟨xs,xs[i],q,by simp[bM]⟩,Pv (i+1),λσ' H' p'=>⟨xs.length-(i+1),by lia,rfl,bM,p'⟩,λx H' y=>?_⟩;obtain⟨e,y⟩:=y;subst e;exact hs i x σ _ (y xs q) p
 have e:i=xs.length:=by lia
 subst e;exact .inl ⟨⟨xs,q,Nat.le_refl _⟩,hd σ H p⟩
theorem dX{lo:Int}{n:Nat}{g:TG}{tb:TS}{D:Ends}{σ:St}{H:Hp}(Pv:Nat->St->Hp->Prop)(h0:Pv 0 σ H)(hs:∀i σ H,i<n->Pv i σ H->g (.int (lo+i)) σ H λσ2 H2=>tb { D with nx:=Pv (i+1),ct:=Pv (i+1),bk:=D.nx } σ2 H2)(hd:∀σ H,Pv n σ H->D.nx σ H):
  ∃W:Nat->Nat->St->Hp->Prop,(∃m,W 0 m σ H)/\∀i m σ H,W i m σ H ->
   ((HP lo n).stop i H/\D.nx σ H)\/((HP lo n).go i H/\∃N:St->Hp->Prop,(∀σ' H',N σ' H'->∃m',m'<m/\W (i+1) m' σ' H')/\∀x H',(HP lo n).Ae i H x H'->g x σ H' λσ2 H2=>tb { D with nx:=N,ct:=N,bk:=D.nx } σ2 H2):=by
 refine⟨λi m σ H=>m=n-i/\i<=n/\Pv i σ H,⟨n,by simp,Nat.zero_le _,h0⟩,?_⟩;rintro i m σ H ⟨rfl,hi,p⟩;by_cases bM:i<n
 ·refine .inr ⟨bM,Pv (i+1),λσ' H' p'=>⟨n-(i+1),by lia,rfl,bM,p'⟩,λx H' y=>?_⟩;obtain⟨e,y⟩:=y;subst e y;exact hs i σ _ bM p
 have e:i=n:=by lia
 subst e;exact .inl ⟨Nat.le_refl _,hd σ H p⟩
abbrev R2:=V->V->Hp->VK->Prop
def ij(X:Cx)(f:Value->Value->Sem Value)(r:R2):Prop :=
 ∀(pins:List (Addr×Obj))(s:Shared)(σ:St)(H:Hp)(x y:V)(v u:Value)(Q:VK),Inv X pins σ H s->RelV x v->RelV y u->r x y H Q ->
  wpAny (model X.prog X.w) X.A (f v u) (EP X pins σ Q) X.xe s
def N2(X:Cx)(f:Value->Sem Value)(r:V->Hp->VK->Prop):Prop :=
 ∀(pins:List (Addr×Obj))(s:Shared)(σ:St)(H:Hp)(x:V)(v:Value)(Q:VK),Inv X pins σ H s->RelV x v->r x H Q ->
  wpAny (model X.prog X.w) X.A (f v) (EP X pins σ Q) X.xe s
def bY(X:Cx)(f:Value)(r:List V->Hp->VK->Prop):Prop :=
 ∀(pins:List (Addr×Obj))(s:Shared)(σ:St)(H:Hp)(xs:List V)(us:List Value)(Q:VK),Inv X pins σ H s->aW xs us->r xs H Q ->
  wpAny (model X.prog X.w) X.A (call f us) (EP X pins σ Q) X.xe s
def Ic(r:R2)(ta tb:TE):TE:=λσ H Q=>ta σ H λx H1=>tb σ H1 λy H2=>r x y H2 Q
def RZ(r:V->Hp->VK->Prop)(ta:TE):TE:=λσ H Q=>ta σ H λx H1=>r x H1 Q
def rI(C:Int->Int->Prop)(g:Int->Int->V):R2:=λx y H Q=>∃i j,x=.int i/\y=.int j/\C i j/\Q (g i j) H
def Ie(g:Int->Int->V):R2:=λx y H Q=>∃i j,x=.int i/\y=.int j/\Q (g i j) H
def rU(g:Int->V):V->Hp->VK->Prop:=λx H Q=>∃i,x=.int i/\Q (g i) H
section
variable{X:Cx}{a b c:Expr}{ta tb tc:TE}{pos:Pos}
theorem Ig(ha:PE X a ta)(hb:PE X b tb){pins:List (Addr×Obj)}{s:Shared}{σ:St}{H:Hp}{R:V->V->Hp->Prop}(I:Inv X pins σ H s)(h:ta σ H λx H1=>tb σ H1 λy H2=>R x y H2){Q:Value->Shared->Prop}{f:Value->Value->Sem Value}(hf:∀v u s2 x y H2,Inv X pins σ H2 s2->RelV x v->RelV y u->R x y H2->wpAny (model X.prog X.w) X.A (f v u) Q X.xe s2):
  wpAny (model X.prog X.w) X.A (eval a X.env) (λv s₁=>wpAny (model X.prog X.w) X.A (eval b X.env) (λu s₂=>wpAny (model X.prog X.w) X.A (f v u) Q X.xe s₂) X.xe s₁) X.xe s:=by
 refine av (ha pins s σ H _ I h) λv s1 ⟨x,H1,I1,r1,q1⟩=>?_;refine av (hb pins s1 σ H1 _ I1 q1) λu s2 ⟨y,H2,I2,r2,q2⟩=>?_;exact hf v u s2 x y H2 I2 r1 r2 q2
theorem ah{op:Operator}{r:R2}(ho:ij X (binaryOp op) r)(ha:PE X a ta)(hb:PE X b tb):PE X (.BinOp a op b pos) (Ic r ta tb):=by intro pins s σ H Q I h;exact wpAny_BinOp (Ig ha hb I h λv u s2 x y H2 I2 rx ry q=>ho pins s2 σ H2 x y v u Q I2 rx ry q)
theorem Cy{op:UnaryOp}{r:V->Hp->VK->Prop}(ho:N2 X (unaryOp op) r)(ha:PE X a ta):PE X (.UnaryOp op a pos) (RZ r ta):=by intro pins s σ H Q I h;exact UnaryOp_ (av (ha pins s σ H _ I h) λv s1 ⟨x,H1,I1,r1,q1⟩=>ho pins s1 σ H1 x v Q I1 r1 q1)
theorem KW{f:Value->Value->Sem Value}{C:Int->Int->Prop}{g:Int->Int->Int}(rule:∀(i j:Int)(t u:Tok)(s:Shared)(Q:Value->Shared->Prop)(E:Value->Shared->Prop),C i j->Q (.int (g i j) s.toks) { s with toks:=s.toks+1 }->wpAny (model X.prog X.w) X.A (f (.int i t) (.int j u)) Q E s):
  ij X f (rI C λi j=>.int (g i j)):=by
 intro pins s σ H x y v u Q I rx ry h;obtain⟨i,j,rfl,rfl,hc,q⟩:=h;obtain⟨t,rfl⟩:=rx;obtain⟨t',rfl⟩:=ry;exact rule i j t t' s _ _ hc ⟨.int (g i j),H,I.tok _,⟨_,rfl⟩,q⟩
theorem K5{f:Value->Value->Sem Value}{g:Int->Int->Int}(rule:∀(i j:Int)(t u:Tok)(s:Shared)(Q:Value->Shared->Prop)(E:Value->Shared->Prop),Q (.int (g i j) s.toks) { s with toks:=s.toks+1 }->wpAny (model X.prog X.w) X.A (f (.int i t) (.int j u)) Q E s):
  ij X f (Ie λi j=>.int (g i j)):=by
 intro pins s σ H x y v u Q I rx ry h;obtain⟨i,j,rfl,rfl,q⟩:=h;obtain⟨t,rfl⟩:=rx;obtain⟨t',rfl⟩:=ry;exact rule i j t t' s _ _ ⟨.int (g i j),H,I.tok _,⟨_,rfl⟩,q⟩
theorem Ih{f:Value->Value->Sem Value}{g:Int->Int->Bool}(rule:∀(i j:Int)(t u:Tok)(s:Shared)(Q:Value->Shared->Prop)(E:Value->Shared->Prop),Q (.bool (g i j)) s->wpAny (model X.prog X.w) X.A (f (.int i t) (.int j u)) Q E s):
  ij X f (Ie λi j=>.bl (g i j)):=by
 intro pins s σ H x y v u Q I rx ry h;obtain⟨i,j,rfl,rfl,q⟩:=h;obtain⟨t,rfl⟩:=rx;obtain⟨t',rfl⟩:=ry;exact rule i j t t' s _ _ ⟨.bl (g i j),H,I,rfl,q⟩
def N3(i j:Int):Prop:=0<j/\j<1073741824
def N4(i j:Int):Prop:=0<=j/\j<=1000000/\i.natAbs<2 ^ 64
def FK(i j:Int):Prop:=(-(2 ^ 64)<i/\i<2 ^ 64)\/(-(2 ^ 64)<j/\j<2 ^ 64)
theorem FK.ok{i j:Int}(h:FK i j):IntMulOk i j:=by
 rcases h with⟨h1,h2⟩|⟨h1,h2⟩
 ·exact .of_left (intBits_le_64 h1 h2)
 exact .of_right (intBits_le_64 h1 h2)
theorem yv(k:Nat):(0:Int)<=2 ^ k:=by rw[two_pow_cast];exact Int.natCast_nonneg _
theorem bh:ij X (binaryOp .Add) (Ie λi j=>.int (i+j)):=K5 λ_ _ _ _ _ _ _ q=>add_int q
theorem qh:ij X (binaryOp .Sub) (Ie λi j=>.int (i-j)):=K5 λ_ _ _ _ _ _ _ q=>sub_int q
theorem Ii:ij X (binaryOp .Mult) (rI FK λi j=>.int (i*j)):=KW λ_ _ _ _ _ _ _ hc q=>mul_int q hc.ok
theorem m9:ij X (binaryOp .FloorDiv) (rI N3 λi j=>.int (i/j)):=KW λi j _ _ _ _ _ hc q=>by have h1:(0:Int)<j:=hc.1;have h2:j<1073741824:=hc.2;exact floordiv_int (by lia) (by rw[Int.fdiv_eq_ediv_of_nonneg i (by lia)];exact q) (.inl (PyProof.noPylong_small (by lia)))
theorem cz:ij X (binaryOp .Mod) (rI (λ_ j=>0<j) λi j=>.int (i%j)):=KW λi j _ _ _ _ _ hc q=>by have h1:(0:Int)<j:=hc;exact mod_int' (by lia) (by rw[Int.fmod_eq_emod_of_nonneg i (by lia)];exact q)
theorem Ij:ij X (binaryOp .Pow) (rI N4 λi j=>.int (i ^ j.toNat)):=KW λ_ _ _ _ _ _ _ hc q=>pow_int_small hc.1 hc.2.1 hc.2.2 q
theorem Ik:ij X (binaryOp .RShift) (rI (λ_ j=>0<=j) λi j=>.int (i/2 ^ j.toNat)):=KW λi j _ _ _ _ _ hc q =>
 rshift_int hc (by rw[Int.fdiv_eq_ediv_of_nonneg i (yv _)];exact q)
theorem Ra{f:Value->Sem Value}{g:Int->Int}(rule:∀(i:Int)(t:Tok)(s:Shared)(Q:Value->Shared->Prop)(E:Value->Shared->Prop),Q (.int (g i) s.toks) { s with toks:=s.toks+1 }->wpAny (model X.prog X.w) X.A (f (.int i t)) Q E s):
  N2 X f (rU λi=>.int (g i)):=by
 intro pins s σ H x v Q I rx h;obtain⟨i,rfl,q⟩:=h;obtain⟨t,rfl⟩:=rx;exact rule i t s _ _ ⟨.int (g i),H,I.tok _,⟨_,rfl⟩,q⟩
theorem yw:N2 X (unaryOp .USub) (rU λi=>.int (-i)):=Ra λ_ _ _ _ _ q=>neg_int q
end
def K6:V->V->Bool
 |.ba,.ba=>true|.ba,.int _=>true|.int _,.ba=>true|.ba,.bl _=>true|.bl _,.ba=>true|.ba,.str _=>true|.str _,.ba=>true
 |.int _,.int _=>true|.bl _,.bl _=>true|.str _,.str _=>true|.Ci _,.Ci _=>true
 |.int _,.str _=>true|.str _,.int _=>true|.bl _,.str _=>true|.str _,.bl _=>true
 |_,_=>false
def Rb:R2:=λx y H Q=>K6 x y=true/\Q (.bl (decide (x=y))) H
def Rc:R2:=λx y H Q=>K6 x y=true/\Q (.bl (!decide (x=y))) H
theorem Ag{i j:Int}:decide (V.int i=V.int j)=(i==j):=by rw[Bool.eq_iff_iff];simp
theorem Cz{i j:Bool}:decide (V.bl i=V.bl j)=(i==j):=by rw[Bool.eq_iff_iff];simp
theorem Ah{i j:Str}:decide (V.str i=V.str j)=(i==j):=by rw[Bool.eq_iff_iff];simp
theorem Ai{i j:Array UInt8}:decide (V.Ci i=V.Ci j)=(i.toList==j.toList):=by rw[Bool.eq_iff_iff];cases i;cases j;simp
section
variable{X:Cx}{a b c:Expr}{ta tb tc:TE}{pos:Pos}
theorem ar{pins:List (Addr×Obj)}{σ:St}{H:Hp}{s:Shared}{Q:VK}{k k':Bool}(I:Inv X pins σ H s)(q:Q (.bl k) H)(e:k=k'):EP X pins σ Q (.bool k') s:=by subst e;exact⟨.bl k,H,I,rfl,q⟩
theorem dR:ij X (compareOp .Eq) Rb:=by
 intro pins s σ H x y v u Q I rx ry h;obtain⟨hs,q⟩:=h;cases x with
 |ba =>
  cases rx;cases y with
  |ba=>cases ry;exact PySem.EqNone.eq_none_none (ar I q (by simp))
  |bl j=>cases ry;exact PySem.EqNone.eq_none_bool (ar I q (by simp))
  |int j=>obtain⟨t',rfl⟩:=ry;exact PySem.EqNone.eq_none_int (ar I q (by simp))
  |str j=>obtain⟨t',rfl⟩:=ry;exact PySem.EqNone.eq_none_str (ar I q (by simp))
  |_=>exact absurd (show false=true from hs) Bool.false_ne_true
 |bl i =>
  cases rx;cases y with
  |ba=>cases ry;exact PySem.EqNone.eq_bool_none (ar I q (by simp))
  |bl j=>cases ry;exact eq_bool (ar I q Cz)
  |str j=>obtain⟨t',rfl⟩:=ry;exact PySem.EqMixed.eq_bool_str (ar I q (by simp))
  |_=>exact absurd (show false=true from hs) Bool.false_ne_true
 |int i =>
  obtain⟨t,rfl⟩:=rx;cases y with
  |ba=>cases ry;exact PySem.EqNone.eq_int_none (ar I q (by simp))
  |int j=>obtain⟨t',rfl⟩:=ry;exact eq_int (ar I q Ag)
  |str j=>obtain⟨t',rfl⟩:=ry;exact PySem.EqMixed.eq_int_str (ar I q (by simp))
  |_=>exact absurd (show false=true from hs) Bool.false_ne_true
 |str i =>
  obtain⟨t,rfl⟩:=rx;cases y with
  |ba=>cases ry;exact PySem.EqNone.eq_str_none (ar I q (by simp))
  |bl j=>cases ry;exact PySem.EqMixed.eq_str_bool (ar I q (by simp))
  |int j=>obtain⟨t',rfl⟩:=ry;exact PySem.EqMixed.eq_str_int (ar I q (by simp))
  |str j=>obtain⟨t',rfl⟩:=ry;exact eq_str (ar I q Ah)
  |_=>exact absurd (show false=true from hs) Bool.false_ne_true
 |Ci i =>
  obtain⟨t,rfl⟩:=rx;cases y with
  |Ci j=>obtain⟨t',rfl⟩:=ry;exact PySem.W.eq_bytes (ar I q Ai)
  |_=>exact absurd (show false=true from hs) Bool.false_ne_true
 |_=>cases y<;>exact absurd (show false=true from hs) Bool.false_ne_true
theorem pK:ij X (compareOp .NotEq) Rc:=by
 intro pins s σ H x y v u Q I rx ry h;obtain⟨hs,q⟩:=h;cases x with
 |ba =>
  cases rx;cases y with
  |ba=>cases ry;exact PySem.EqNone.ne_none_none (ar I q (by simp))
  |bl j=>cases ry;exact PySem.EqNone.ne_none_bool (ar I q (by simp))
  |int j=>obtain⟨t',rfl⟩:=ry;exact PySem.EqNone.ne_none_int (ar I q (by simp))
  |str j=>obtain⟨t',rfl⟩:=ry;exact PySem.EqNone.ne_none_str (ar I q (by simp))
  |_=>exact absurd (show false=true from hs) Bool.false_ne_true
 |bl i =>
  cases rx;cases y with
  |ba=>cases ry;exact PySem.EqNone.ne_bool_none (ar I q (by simp))
  |bl j=>cases ry;exact ne_bool (ar I q (congrArg not Cz))
  |str j=>obtain⟨t',rfl⟩:=ry;exact PySem.EqMixed.ne_bool_str (ar I q (by simp))
  |_=>exact absurd (show false=true from hs) Bool.false_ne_true
 |int i =>
  obtain⟨t,rfl⟩:=rx;cases y with
  |ba=>cases ry;exact PySem.EqNone.ne_int_none (ar I q (by simp))
  |int j=>obtain⟨t',rfl⟩:=ry;exact ne_int (ar I q (congrArg not Ag))
  |str j=>obtain⟨t',rfl⟩:=ry;exact PySem.EqMixed.ne_int_str (ar I q (by simp))
  |_=>exact absurd (show false=true from hs) Bool.false_ne_true
 |str i =>
  obtain⟨t,rfl⟩:=rx;cases y with
  |ba=>cases ry;exact PySem.EqNone.ne_str_none (ar I q (by simp))
  |bl j=>cases ry;exact PySem.EqMixed.ne_str_bool (ar I q (by simp))
  |int j=>obtain⟨t',rfl⟩:=ry;exact PySem.EqMixed.ne_str_int (ar I q (by simp))
  |str j=>obtain⟨t',rfl⟩:=ry;exact ne_str (ar I q (congrArg not Ah))
  |_=>exact absurd (show false=true from hs) Bool.false_ne_true
 |Ci i =>
  obtain⟨t,rfl⟩:=rx;cases y with
  |Ci j=>obtain⟨t',rfl⟩:=ry;exact PySem.W.ne_bytes (ar I q (congrArg not Ai))
  |_=>exact absurd (show false=true from hs) Bool.false_ne_true
 |_=>cases y<;>exact absurd (show false=true from hs) Bool.false_ne_true
theorem pL:ij X (compareOp .Lt) (Ie λi j=>.bl (decide (i<j))):=Ih λ_ _ _ _ _ _ _ q=>lt_int q
theorem tu:ij X (compareOp .LtE) (Ie λi j=>.bl (decide (i<=j))):=Ih λ_ _ _ _ _ _ _ q=>le_int q
theorem pM:ij X (compareOp .Gt) (Ie λi j=>.bl (decide (j<i))):=Ih λ_ _ _ _ _ _ _ q=>gt_int q
theorem FL:ij X (compareOp .IsNot) (λx y H Q=>y=.ba/\Q (.bl (!decide (x=.ba))) H):=by
 intro pins s σ H x y v u Q I rx ry h;obtain⟨rfl,q⟩:=h;cases ry;refine isnot_none_gen (ar I q ?_);cases x<;>first
  | (cases rx;rfl)
  | (obtain⟨t,rfl⟩:=rx;rfl)
theorem aU(b:Expr){op:CmpOp}(h:op≠.In:=by decide)(h2:op≠.NotIn:=by decide):behindInMarks op b=false:=by
 have e1:(op==CmpOp.In)=false:=by cases op<;>first|rfl|exact absurd rfl h
 have e2:(op==CmpOp.NotIn)=false:=by cases op<;>first|rfl|exact absurd rfl h2
 cases b<;>simp[behindInMarks,e1,e2]
theorem bK{op:CmpOp}{r:R2}(ho:ij X (compareOp op) r)(ha:PE X a ta)(hb:PE X b tb)(hm:behindInMarks op b=false):PE X (.Compare a [op] [b] pos) (Ic r ta tb):=by intro pins s σ H Q I h;exact wpAny_Compare1 (Ig ha hb I h λv u s2 x y H2 I2 rx ry q=>ho pins s2 σ H2 x y v u Q I2 rx ry q) hm
def HS(t:TE):TT:=λσ H Q=>t σ H λx H'=>∃k,x=.bl k/\Q k H'
theorem aO{op:CmpOp}{r:R2}(ho:ij X (compareOp op) r)(ha:PE X a ta)(hb:PE X b tb)(hm:behindInMarks op b=false):PT X (.Compare a [op] [b] pos) (HS (Ic r ta tb)):=by
 intro pins s σ H Q I h;refine wpAny_isTrue_Compare1 (av (ha pins s σ H _ I h) λv s1 ⟨x,H1,I1,r1,q1⟩=>av (hb pins s1 σ H1 _ I1 q1) λu s2 ⟨y,H2,I2,r2,q2⟩ =>
  av (ho pins s2 σ H2 x y v u _ I2 r1 r2 q2) λc s3 ⟨z,H3,I3,r3,k,e,q3⟩=>?_) hm
 subst e;cases r3;exact wpAny_truthy_bool ⟨H3,I3,q3⟩
def C0(r r':R2)(ta tb tc:TE):TE:=λσ H Q=>ta σ H λx H1=>tb σ H1 λy H2=>r x y H2 λz H3=>∃k,z=.bl k /\
 (if k=true then tc σ H3 λw' H4=>r' y w' H4 Q else Q (.bl false) H3)
theorem qi{op Il:CmpOp}{r r':R2}(ho:ij X (compareOp op) r)(wQ:ij X (compareOp Il) r')(ha:PE X a ta)(hb:PE X b tb)(hc:PE X c tc)(hm:lastMarks [op,Il] [b,c]=false:=by with_unfolding_all rfl):PE X (.Compare a [op,Il] [b,c] pos) (C0 r r' ta tb tc):=by
 intro pins s σ H Q I h;refine Compare_chain (av (ha pins s σ H _ I h) λv s1 ⟨x,H1,I1,r1,q1⟩=>chain_link (av (hb pins s1 σ H1 _ I1 q1) λu s2 ⟨y,H2,I2,r2,q2⟩ =>
  av (ho pins s2 σ H2 x y v u _ I2 r1 r2 q2) λd s3 ⟨z,H3,I3,r3,k,e,q3⟩=>?_)) hm
 subst e;cases r3;refine wpAny_truthy_bool ?_;cases k with
 |false=>exact ite_ff ⟨.bl false,H3,I3,rfl,q3⟩
 |true=>exact ite_tt (chain_last (av (hc pins s3 σ H3 _ I3 q3) λw' s4 ⟨z',H4,I4,r4,q4⟩=>wQ pins s4 σ H4 y z' u w' Q I4 r2 r4 q4))
theorem C1{op Il:CmpOp}{r r':R2}(ho:ij X (compareOp op) r)(wQ:ij X (compareOp Il) r')(ha:PE X a ta)(hb:PE X b tb)(hc:PE X c tc)(hm:lastMarks [op,Il] [b,c]=false:=by with_unfolding_all rfl):PT X (.Compare a [op,Il] [b,c] pos) (HS (C0 r r' ta tb tc)):=by
 intro pins s σ H Q I h;refine isTrue_chain (av (ha pins s σ H _ I h) λv s1 ⟨x,H1,I1,r1,q1⟩=>test_link (av (hb pins s1 σ H1 _ I1 q1) λu s2 ⟨y,H2,I2,r2,q2⟩ =>
  av (ho pins s2 σ H2 x y v u _ I2 r1 r2 q2) λd s3 ⟨z,H3,I3,r3,k,e,q3⟩=>?_)) hm
 subst e;cases r3;refine wpAny_truthy_bool ?_;cases k with
 |false =>
  obtain⟨k',e',q'⟩:=q3;cases e';exact ite_ff ⟨H3,I3,q'⟩
 |true =>
  refine ite_tt (test_last (av (hc pins s3 σ H3 _ I3 q3) λw' s4 ⟨z',H4,I4,r4,q4⟩=>av (wQ pins s4 σ H4 y z' u w' _ I4 r2 r4 q4) λd' s5 ⟨z2,H5,I5,r5,k2,e2,q5⟩=>?_));subst e2;cases r5;exact wpAny_truthy_bool ⟨H5,I5,q5⟩
theorem ur:(sizeLine:Nat)<2 ^ 63:=by rw[sizeLine_eq];decide
theorem vals1{x:V}{us:List Value}(r:aW [x] us):∃u,us=[u]/\RelV x u:=by
 cases r with
 |cons r1 r2=>cases r2;exact⟨_,rfl,r1⟩
theorem vals2{x y:V}{us:List Value}(r:aW [x,y] us):∃u w',us=[u,w']/\RelV x u/\RelV y w':=by
 cases r with
 |cons r1 r2 =>
  cases r2 with
  |cons r3 r4=>cases r4;exact⟨_,_,rfl,r1,r3⟩
theorem C2:bY X (.builtin "abs") (λxs H Q=>∃i,xs=[.int i]/\Q (.int (if i<0 then -i else i)) H):=by intro pins s σ H xs us Q I r h;obtain⟨i,rfl,q⟩:=h;obtain⟨u,rfl,t,rfl⟩:=vals1 r;exact call_abs_int λu tk=>⟨.int (if i<0 then -i else i),H,I.tok _,⟨_,rfl⟩,q⟩
theorem t9(hc:X.calm=true):bY X (.builtin "max") (λxs H Q=>∃i j,xs=[.int i,.int j]/\Q (.int (if j>i then j else i)) H):=by
 intro pins s σ H xs us Q I r h;obtain⟨i,j,rfl,q⟩:=h;obtain⟨u,w',rfl,⟨t,rfl⟩,⟨t',rfl⟩⟩:=vals2 r;refine max_two_ints (I.ok.hd hc) λh' tk k=>⟨_,H,I.kept k,?_,q⟩;by_cases hj:j>i
 ·rw[if_pos hj,if_pos hj];exact⟨_,rfl⟩
 rw[if_neg hj,if_neg hj];exact⟨_,rfl⟩
theorem BS:bY X (.type "int") (λxs H Q=>(∃i,xs=[.int i]/\Q (.int i) H)\/∃k,xs=[.bl k]/\Q (.int (if k then 1 else 0)) H):=by
 intro pins s σ H xs us Q I r h;rcases h with⟨i,rfl,q⟩|⟨k,rfl,q⟩
 ·obtain⟨u,rfl,t,rfl⟩:=vals1 r;exact call_int_int ⟨.int i,H,I,⟨_,rfl⟩,q⟩
 obtain⟨u,rfl,r1⟩:=vals1 r;cases r1;exact call_int_bool ⟨.int (if k then 1 else 0),H,I.tok _,⟨_,rfl⟩,q⟩
end
structure yx(h:Heap)(x dx C:Addr)(mA:Str->Option Value):Prop where
 obj:h.get? x=some (PySem.W.instObj C dx)
 ns:h.Ns1 dx mA
 ne:dx≠x
theorem BU{h:Heap}{dx:Addr}{mA:Str->Option Value}(n:h.Ns1 dx mA):∃od,h.get? dx=some od/\∀name,PySem.W.lookIn name od=some (mA name):=by
 obtain⟨o,es,ep,ho,hd,hk,_,hm⟩:=n;refine⟨o,ho,λname=>?_⟩;have e:=hm name;unfold nsFind findBy at e;rw[<-Array.find?_toList]at e;unfold PySem.W.lookIn;rw[hd];dsimp only;split
 ·rename_i y q;rw[q]at e;exact congrArg some e
 rename_i q;rw[q]at e;have a:es.toList.any (·.refKey)=false:=by rw[List.any_eq_false];intro y hy;obtain⟨z,t,uu⟩:=hk y (Array.mem_toList_iff.mp hy);simp[DictEntry.refKey,uu]
 have a':¬es.toList.any (·.refKey)=true:=by rw[a];exact Bool.false_ne_true
 rw[if_neg a'];exact congrArg some e
theorem yx.look{h:Heap}{x dx C:Addr}{mA:Str->Option Value}(I:yx h x dx C mA):∃od,PySem.W.InstAt h x (PySem.W.instObj C dx) C (some od)/\∀name,PySem.W.lookIn name od=some (mA name) :=
 let⟨od,ho,hl⟩:=BU I.ns
 ⟨od,⟨I.obj,rfl,rfl,ho⟩,hl⟩
section
variable{prog:Program}{w:World}{A:Around}{E:Value->Shared->Prop}{s:Shared}{K:PySem.W.Frag}{x dx C f:Addr}{mA:Str->Option Value}{name:Str}{v:Value}
theorem get_map{expr:Bool}{Q:Value->Shared->Prop}(X:K.In s.heap)(I:yx s.heap x dx C mA)(hg:PySem.W.plainGet K C name=true)(hh:PySem.W.hasDictIn K C=true)(ha:PySem.W.findIn K (.ref C) name=some none)(hv:mA name=some v)(jv:PySem.W.handedIn v=true)(h:Q v { s with toks:=s.toks+1 }):
  wpAny (model prog w) A (getAttr (.ref x) name expr) Q E s:=by
 obtain⟨od,J,hl⟩:=I.look;exact PySem.W.get_value X J (PySem.W.plainGet_of hg).1 (PySem.W.findObj_own hh ha rfl (by rw[hl,hv])) jv h
theorem C3{pl:Sem Bool}{Q:Value×List Value->Shared->Prop}(X:K.In s.heap)(I:yx s.heap x dx C mA)(hg:PySem.W.plainGet K C name=true)(hf:PySem.W.findIn K (.ref C) name=some (some (.ref f)))(ht:PySem.W.isFn K (.ref f)=true)(hv:mA name=none)(h:Q (.ref f,[.ref x]) s):
  wpAny (model prog w) A (getMethod (.ref x) name pl) Q E s:=by
 obtain⟨od,J,hl⟩:=I.look;exact PySem.W.method_fn X J (PySem.W.plainGet_of hg).1 (PySem.W.plainGet_of hg).2 hf (beq_iff_eq.mp ht) (by show(PySem.W.lookIn name od).map (·.isSome)=some false;rw[hl,hv];rfl) h
theorem FN{ns:List Str}{Q:Unit->Shared->Prop}(X:K.In s.heap)(I:yx s.heap x dx C mA)(hs:PySem.W.findIn K (.ref C) "__setattr__"=some (some (.builtin "object.__setattr__")))(hp:PySem.W.plainOver K C=true)(ht:PySem.W.takerIn K C name=some none)(hh:PySem.W.hasDictIn K C=true)(hw:PySem.Within mA ns)(hsz:ns.length<=sizeLine)(h:∀h',yx h' x dx C (λy=>if y=name then some v else mA y)->Heap.SameBut dx s.heap h'->Q () { s with heap:=h',toks:=s.toks+2 }):
  wpAny (model prog w) A (setAttr (.ref x) name v) Q E s:=by
 obtain⟨od,J,hl⟩:=I.look;refine PySem.W.set_plain X J hs (PySem.W.osa_open (s:={ s with toks:=s.toks+1 }) (r:=none) X J hp ht λb=>?_)
 obtain⟨cd,hc,qP⟩:=PySem.W.any_some hh;have hx:s.heap.get? x=some ⟨.ref C,some dx,.plain,#[]⟩:=I.obj;refine wpAny_bind (wpAny_pure (wpAny_bind (wpAny_bind (wpAny_loadPart hx (wpAny_bind (PySem.W.Looks.here (s:={ s with toks:=s.toks+1 }) (PySem.W.looks_clsIn X hc) ?_))))));rw[qP];refine wpAny_pure (a:=some dx) (wpAny_bind (wpAny_pure (wpAny_bind ?_)));refine wpAny_nsSet1 (s:={ s with toks:=s.toks+1 }) I.ns λh' M3 um=>?_
 obtain⟨oD,UU,UW,Rf,Rg,Rh⟩:=M3.count (PySem.Within.cons name v hw);refine wpAny_bind (wpAny_lookBehind Rf (by rw[Rg];exact pastItsLine_dict (Nat.le_trans Rh (by rw[List.length_cons];lia))) ?_);exact wpAny_pure (h _ ⟨(um.2 _ (Ne.symm I.ne)).trans I.obj,M3,I.ne⟩ um)
theorem C4{R:Result->Shared->Prop}{vs:List Value}{kw:List (Str×Value)}(X:K.In s.heap)(hm:PySem.W.makesIn K C=true)(hi:PySem.W.findIn K (.ref C) "__init__"=some (some (.ref f)))(hf:PySem.W.typeIn K (.ref f)=some (.type "function"))(h:codeAny (model prog w) (A.under (.builtin "type.__call__" ⟨.ref C::vs,kw⟩)) (.call (.ref f) ⟨.ref (s.heap.objs.size+1)::vs,kw⟩) (PySem.W.InitBack (s.heap.objs.size+1) R)
   { s with heap:=(s.heap.push PySem.W.emptyDict).push (PySem.W.instObj C s.heap.objs.size) }):
  codeAny (model prog w) A (.call (.ref C) ⟨vs,kw⟩) R s:=by
 obtain⟨hh,g,d,t,os⟩:=s;exact PySem.W.make_core (PySem.W.makes_of X hm) (PySem.W.looks_findIn X hi) (λself=>PySem.W.bind_fn X self hf) (.inl rfl) h
end
def lH(f:Str)(v:V):List (Str×V)->List (Str×V)
 |[]=>[(f,v)]
 | (g,x)::r=>if g=f then(g,v)::r else(g,x)::lH f v r
theorem pN(f g:Str)(v:V):∀fs:List (Str×V),(lH f v fs).lookup g=if g=f then some v else fs.lookup g
 |[]=>by
  show List.lookup g [(f,v)]=_;by_cases h:g=f
  ·have hb:(g==f)=true:=beq_iff_eq.mpr h;simp only[List.lookup,hb,if_pos h]
  have hb:(g==f)=false:=beq_eq_false_iff_ne.mpr h;simp only[List.lookup,hb,if_neg h]
 | (k,x)::r=>by
  have ih:=pN f g v r;rw[show lH f v ((k,x)::r)=(if k=f then(k,v)::r else(k,x)::lH f v r)from rfl];by_cases hk:k=f
  ·rw[if_pos hk];by_cases h:g=k
   ·have hb:(g==k)=true:=beq_iff_eq.mpr h;simp only[List.lookup,hb,if_pos (h.trans hk)]
   have hb:(g==k)=false:=beq_eq_false_iff_ne.mpr h;simp only[List.lookup,hb,if_neg (λe:g=f=>h (e.trans hk.symm))]
  rw[if_neg hk];by_cases h:g=k
  ·have hb:(g==k)=true:=beq_iff_eq.mpr h;simp only[List.lookup,hb,if_neg (λe:g=f=>hk (h.symm.trans e))]
  have hb:(g==k)=false:=beq_eq_false_iff_ne.mpr h;simp only[List.lookup,hb];exact ih
theorem oU(f:Str)(v:V):∀fs:List (Str×V),f∈(lH f v fs).map (·.1)/\∀g,g∈fs.map (·.1)->g∈(lH f v fs).map (·.1)
 |[]=>⟨by simp[lH],λg h=>by simp at h⟩
 | (k,x)::r=>by
  obtain⟨i1,i2⟩:=oU f v r;rw[show lH f v ((k,x)::r)=(if k=f then(k,v)::r else(k,x)::lH f v r)from rfl];by_cases hk:k=f
  ·rw[if_pos hk];subst hk;exact⟨by simp,λg h=>by simpa using h⟩
  rw[if_neg hk];refine⟨?_,λg h=>?_⟩
  ·rw[List.map_cons];exact List.mem_cons_of_mem _ i1
  rw[List.map_cons]at h ⊢;rcases List.mem_cons.mp h with e|e
  ·exact List.mem_cons.mpr (.inl e)
  exact List.mem_cons_of_mem _ (i2 g e)
theorem pO(f:Str)(v:V):∀fs:List (Str×V),(lH f v fs).length<=fs.length+1
 |[]=>by simp[lH]
 | (k,x)::r=>by
  have ih:=pO f v r;rw[show lH f v ((k,x)::r)=(if k=f then(k,v)::r else(k,x)::lH f v r)from rfl];by_cases hk:k=f
  ·rw[if_pos hk,List.length_cons,List.length_cons];lia
  rw[if_neg hk,List.length_cons,List.length_cons];lia
theorem gZ.some_of{v:V}{o:Option Value}(r:gZ (some v) o):∃u,o=some u/\RelV v u:=by
 cases o with
 |none=>exact(show False from r).elim
 |some u=>exact⟨u,rfl,r⟩
theorem gZ.none_of{o:Option Value}(r:gZ none o):o=none:=by
 cases o with
 |none=>rfl
 |some u=>exact(show False from r).elim
theorem BV{v:V}{u:Value}(r:RelV v u):PySem.W.handedIn u=true:=by
 cases v with
 |ba=>cases(show u=Value.none from r);rfl
 |bl b=>cases(show u=Value.bool b from r);rfl
 |int i=>obtain⟨t,e⟩:=(show ∃t,u=Value.int i t from r);cases e;rfl
 |str x=>obtain⟨t,e⟩:=(show ∃t,u=Value.str x t from r);cases e;rfl
 |Ci b=>obtain⟨t,e⟩:=(show ∃t,u=Value.bytes b t from r);cases e;rfl
 |IG b=>obtain⟨t,e⟩:=(show ∃t,u=Value.float b t from r);cases e;rfl
 |ref a=>cases(show u=Value.ref a from r);rfl
 |ty n=>cases(show u=Value.type n from r);rfl
section
variable{P:Program}{w:World}{H H':Hp}{h h':Heap}{a C dx:Addr}{fs Nj:List (Str×V)}
theorem qR(aq:lG P w H h)(e:H a=some (.ins C dx fs)):∃mA,yx h a dx C mA/\(∀f,gZ (fs.lookup f) (mA f))/\PySem.Within mA (fs.map (·.1))/\fs.length<=1000/\H dx=some (.own a):=by obtain⟨d,z,ne,ob,mA,n,r,q⟩:=(show ax P w H h a (.ins C dx fs)from aq a _ e);exact⟨mA,⟨ob,n,ne⟩,r,q,z,d⟩
end
structure C5(K:PySem.W.Frag)(C:Addr):Prop where
 pg:PySem.W.plainGet K C Str.empty=true
 hd:PySem.W.hasDictIn K C=true
 po:PySem.W.plainOver K C=true
 sa:PySem.W.findIn K (.ref C) "__setattr__"=some (some (.builtin "object.__setattr__"))
theorem C5.get{K:PySem.W.Frag}{C:Addr}(c:C5 K C)(f:Str):PySem.W.plainGet K C f=true:=c.pg
def ls(K:PySem.W.Frag)(C:Addr)(f:Str):Prop:=PySem.W.findIn K (.ref C) f=some none
theorem ls.K7{K:PySem.W.Frag}{C:Addr}{f:Str}(n:ls K C f):PySem.W.takerIn K C f=some none:=by unfold PySem.W.takerIn;rw[show PySem.W.findIn K (.ref C) f=some none from n];rfl
structure wo(K:PySem.W.Frag)(C:Addr)(m:Str)(f:Addr):Prop where
 at_:PySem.W.findIn K (.ref C) m=some (some (.ref f))
 fn:PySem.W.isFn K (.ref f)=true
 kp:PySem.W.keepIn K (.ref f)=true
section
variable{X:Cx}{pins:List (Addr×Obj)}{σ:St}{H:Hp}{s:Shared}{a C dx:Addr}{fs:List (Str×V)}{f:Str}{v:V}{A:Around}{E:Value->Shared->Prop}
theorem yy{b:Bool}{Q:Value->Shared->Prop}(I:Inv X pins σ H s)(e:H a=some (.ins C dx fs))(c:C5 X.K C)(n:ls X.K C f)(l:fs.lookup f=some v)(h:∀u s',Inv X pins σ H s'->RelV v u->Q u s'):wpAny (model X.prog X.w) A (getAttr (.ref a) f b) Q E s:=by obtain⟨mA,O,r,_,_,_⟩:=qR I.aq e;obtain⟨u,hu,ru⟩:=gZ.some_of (v:=v) (o:=mA f) (by rw[<-l];exact r f);exact get_map I.pJ O (c.get f) c.hd n hu (BV ru) (h u _ (I.tok _) ru)
theorem qj{m:Str}{g:Addr}{pl:Sem Bool}{Q:Value×List Value->Shared->Prop}(I:Inv X pins σ H s)(e:H a=some (.ins C dx fs))(c:C5 X.K C)(k:wo X.K C m g)(l:fs.lookup m=none)(h:Q (.ref g,[.ref a]) s):wpAny (model X.prog X.w) A (getMethod (.ref a) m pl) Q E s:=by obtain⟨mA,O,r,_,_,_⟩:=qR I.aq e;have hn:mA m=none:=gZ.none_of (by rw[<-l];exact r m);exact C3 I.pJ O (c.get m) k.at_ k.fn hn h
theorem y0{y:V}{u:Value}{Q:Unit->Shared->Prop}(I:Inv X pins σ H s)(e:H a=some (.ins C dx fs))(c:C5 X.K C)(n:ls X.K C f)(hl:fs.length<1000)(ry:RelV y u)(h:∀s',Inv X pins σ (upd H a (.ins C dx (lH f y fs))) s'->Q () s'):wpAny (model X.prog X.w) A (setAttr (.ref a) f u) Q E s:=by
 obtain⟨mA,O,r,wi,_,ho⟩:=qR I.aq e;have hz:(fs.map (·.1)).length<=sizeLine:=by rw[List.length_map,sizeLine_eq];lia
 refine FN I.pJ O c.sa c.po n.K7 c.hd wi hz λh' O' sb=>h _ ?_;have hd:∃o,h'.get? dx=some o:=let⟨o,_,_,e',_⟩:=O'.ns;⟨o,e'⟩;refine I.write (x:=a) (e:=dx) (by rw[e];exact True.intro) (.inr ho) (λb q hb z=>(sb.2 b hb).trans z) hd ?_;refine⟨by rw[aI O.ne];exact ho,?_,O.ne,O'.obj,_,O'.ns,λg=>?_,λg hg=>?_⟩
 ·have:=pO f y fs;lia
 ·show gZ ((lH f y fs).lookup g) (if g=f then some u else mA g);rw[pN];by_cases q:g=f
  ·rw[if_pos q,if_pos q];exact ry
  rw[if_neg q,if_neg q];exact r g
 by_cases q:g=f
 ·rw[q];exact(oU f y fs).1
 refine(oU f y fs).2 g (wi g λz=>hg ?_);show(if g=f then some u else mA g)=none;rw[if_neg q];exact z
theorem Inv.made(I:Inv X pins σ H s):Inv X pins σ (upd (upd H s.heap.objs.size (.own (s.heap.objs.size+1))) (s.heap.objs.size+1) (.ins C s.heap.objs.size []))
  { s with heap:=(s.heap.push PySem.W.emptyDict).push (PySem.W.instObj C s.heap.objs.size) }:=by
 have e1:(s.heap.push PySem.W.emptyDict).get? s.heap.objs.size=some PySem.W.emptyDict:=Heap.get?_push_size s.heap rfl;have e2:((s.heap.push PySem.W.emptyDict).push (PySem.W.instObj C s.heap.objs.size)).get? (s.heap.objs.size+1)=some (PySem.W.instObj C s.heap.objs.size):=by
  have:=Heap.get?_push_size (s.heap.push PySem.W.emptyDict) (o:=PySem.W.instObj C s.heap.objs.size) rfl
  rwa [Heap.size_push]at this
 have e3:(s.heap.push PySem.W.emptyDict).Ns s.heap.objs.size (λ_=>none):=⟨PySem.W.emptyDict,#[],_,e1,rfl,(λe he=>absurd he (by simp)),λ_=>rfl⟩;have I1:=I.laid (a:=s.heap.objs.size) (o:=.own (s.heap.objs.size+1)) (h':=s.heap.push PySem.W.emptyDict) (t':=s.toks) (λb u q=>Heap.get?_push_of_some _ q) (Nat.le_refl _) ⟨_,e1⟩;refine I1.laid (a:=s.heap.objs.size+1) (o:=.ins C s.heap.objs.size []) (t':=s.toks) (λb u q=>Heap.get?_push_of_some _ q) (Nat.le_of_eq (Heap.size_push _ _)) ?_;have ne:s.heap.objs.size≠s.heap.objs.size+1:=Nat.ne_of_lt (Nat.lt_succ_self _);refine⟨by rw[aI ne,aB],Nat.zero_le _,ne,e2,λ_=>none,(Heap.Ns1.of_empty e3).at λo q=>Heap.get?_push_of_some _ q,λ_=>True.intro,λy hy=>absurd rfl hy⟩
theorem FO{prog:Program}{w:World}{env:Env}{e:Expr}{f:Str}{pos:Pos}{s:Shared}{Q:Value->Shared->Prop}(hb:attributeBase e f env (eval e env)=eval e env)(h:wpAny (model prog w) A (eval e env) (λo s₁=>wpAny (model prog w) A (getAttr o f true) Q E s₁) E s):wpAny (model prog w) A (eval (.Attribute e f pos) env) Q E s :=
 Attribute_any_ h (by rw[arm_eval_Attribute,hb])
end
def K8(K:PySem.W.Frag)(ta:TE)(f:Str):TE:=λσ H Q=>ta σ H λx H1=>∃a C dx fs v,x=.ref a/\H1 a=some (.ins C dx fs)/\C5 K C/\ls K C f/\fs.lookup f=some v/\Q v H1
def K9(K:PySem.W.Frag)(ta tv:TE)(f:Str):TS:=λD σ H=>tv σ H λy H1=>ta σ H1 λx H2=>∃a C dx fs,x=.ref a/\H2 a=some (.ins C dx fs)/\C5 K C/\ls K C f/\fs.length<1000 /\
 D.nx σ (upd H2 a (.ins C dx (lH f y fs)))
section
variable{X:Cx}{o e value:Expr}{f:Str}{pos pos' FP:Pos}{ta tv:TE}
theorem Im(he:PE X e ta)(hb:attributeBase e f X.env (eval e X.env)=eval e X.env):PE X (.Attribute e f pos) (K8 X.K ta f):=by intro pins s σ H Q I h;refine FO hb (av (he pins s σ H _ I h) λu s1 ⟨x,H1,I1,rx,a,C,dx,fs,v,ex,ea,c,n,l,q⟩=>?_);subst ex;obtain rfl:u=Value.ref a:=rx;exact yy I1 ea c n l λu' s2 I2 ru=>⟨v,H1,I2,ru,q⟩
theorem Io(ha:PE X o ta)(hv:PE X value tv)(hs:swapsWith value (some (.Attribute o f pos')) pos.line X.env=pure false):PS X (.Assign [.Attribute o f pos'] value pos) (K9 X.K ta tv f):=by intro pins s σ H D I h;refine plainObj_wpAny_Assign_Attribute (av (hv pins s σ H _ I h) λu s1 ⟨y,H1,I1,ry,q⟩=>av (ha pins s1 σ H1 _ I1 q) λov s2 ⟨x,H2,I2,rx,a,C,dx,fs,ex,ea,c,n,l,q2⟩=>?_) hs;subst ex;obtain rfl:ov=Value.ref a:=rx;exact y0 I2 ea c n l ry λs3 I3=>⟨σ,_,I3,q2⟩
end
section
variable{X:Cx}{pins:List (Addr×Obj)}{σ:St}{H:Hp}{s:Shared}{A:Around}{E:Value->Shared->Prop}{Q:Value->Shared->Prop}{c:Value}{b:Bool}
inductive oW(K:PySem.W.Frag)(H:Hp):V->Value->Prop where
 |ba:oW K H .ba (.type "NoneType")
 |bl (x:Bool):oW K H (.bl x) (.type "bool")
 |int (i:Int):oW K H (.int i) (.type "int")
 |str (x:Str):oW K H (.str x) (.type "str")
 |IG (x:UInt64):oW K H (.IG x) (.type "float")
 |lst {a:Addr} {xs:List V} (e:H a=some (.lst xs)):oW K H (.ref a) (.type "list")
 |yk {a:Addr} {o:Obj} {xs:List V} (e:H a=some (.yk o (.lst xs))):oW K H (.ref a) (.type "list")
 |tup {a:Addr} {xs:List V} (e:H a=some (.tup xs)):oW K H (.ref a) (.type "tuple")
 |dK {a:Addr} {kvs:List (Key×V)} (e:H a=some (.dK kvs)):oW K H (.ref a) (.type "dict")
 |dT {a:Addr} {kvs:List (List Key×V)} (e:H a=some (.dT kvs)):oW K H (.ref a) (.type "dict")
 |ins {a C dx:Addr} {fs:List (Str×V)} (e:H a=some (.ins C dx fs)) (cl:C5 K C) (ha:PySem.W.findIn K (.ref C) "__class__"=some (some (.builtin "object.__class__")))
   (hn:PySem.W.specialIn K (.builtin "object.__class__") "__get__"=some (some (.builtin "getset_descriptor.__get__"))) (QO:PySem.W.takesIn K (.builtin "object.__class__")=some true)
   (hm:PySem.W.mroIn K C (.type "object")=some true):oW K H (.ref a) (.ref C)
theorem BW{x:V}{u t:Value}(I:Inv X pins σ H s)(rx:RelV x u)(ty:oW X.K H x t)(e:PySem.W.kitOne X.K t c=some b)(h:∀tk,Q (.bool b) { s with toks:=tk }):
  wpAny (model X.prog X.w) A (call (.builtin "isinstance") [u,c]) Q E s:=by
 cases ty with
 |ba=>cases(show u=Value.none from rx);exact PySem.W.kia_one PySem.W.kitx_none I.pJ True.intro e (λz=>nomatch z) h
 |bl y=>cases(show u=Value.bool y from rx);exact PySem.W.kia_one PySem.W.kitx_bool I.pJ True.intro e (λz=>nomatch z) h
 |int i=>obtain⟨t,q⟩:=(show ∃t,u=Value.int i t from rx);cases q;exact PySem.W.kia_one PySem.W.kitx_int I.pJ True.intro e (λz=>nomatch z) h
 |str y=>obtain⟨t,q⟩:=(show ∃t,u=Value.str y t from rx);cases q;exact PySem.W.kia_one PySem.W.kitx_str I.pJ True.intro e (λz=>nomatch z) h
 |IG y=>obtain⟨t,q⟩:=(show ∃t,u=Value.float y t from rx);cases q;exact PySem.W.kia_one PySem.W.kitx_float I.pJ True.intro e (λz=>nomatch z) h
 |@lst a xs ea =>
  cases(show u=Value.ref a from rx);obtain⟨_,_,n,_,h1⟩:=(show ax X.prog X.w H s.heap a (.lst xs)from I.aq a _ ea);exact PySem.W.kia_one PySem.W.kitx_list I.pJ ⟨_,h1,rfl⟩ e (λz=>nomatch z) h
 |@yk a ob xs ea =>
  cases(show u=Value.ref a from rx);obtain⟨_,_,_,n,_,h1⟩:=(show ax X.prog X.w H s.heap a (.yk ob (.lst xs))from I.aq a _ ea);exact PySem.W.kia_one PySem.W.kitx_list I.pJ ⟨_,h1,rfl⟩ e (λz=>nomatch z) h
 |@tup a xs ea =>
  cases(show u=Value.ref a from rx);obtain⟨_,_,_,p⟩:=(show ax X.prog X.w H s.heap a (.tup xs)from I.aq a _ ea);obtain⟨o,h1,h2,_⟩:=p;exact PySem.W.kia_one PySem.W.kitx_tuple I.pJ ⟨o,h1,h2⟩ e (λz=>nomatch z) h
 |@dK a kvs ea =>
  cases(show u=Value.ref a from rx);obtain⟨_,_,vs,_,p⟩:=(show ax X.prog X.w H s.heap a (.dK kvs)from I.aq a _ ea);obtain⟨o,es,ep,h1,h2,_⟩:=p;exact PySem.W.kia_one PySem.W.kitx_dict I.pJ ⟨o,h1,h2.1⟩ e (λz=>nomatch z) h
 |@dT a kvs ea =>
  cases(show u=Value.ref a from rx);obtain⟨_,_,xs,_,o,es,ep,h1,h2,_⟩:=(show ax X.prog X.w H s.heap a (.dT kvs)from I.aq a _ ea);exact PySem.W.kia_one PySem.W.kitx_dict I.pJ ⟨o,h1,h2.1⟩ e (λz=>nomatch z) h
 |@ins a C dx fs ea cl ha hn QO hm =>
  cases(show u=Value.ref a from rx);obtain⟨mA,O,_⟩:=qR I.aq ea;obtain⟨od,J,_⟩:=O.look;exact PySem.W.kia_one (PySem.W.kitx_own (cl.get _) cl.hd ha hn QO hm) I.pJ J e (λz=>nomatch z) h
end
structure cw(k:Nat)(A:Around):Prop where
 hd:A.handled=none
 dp:A.depth+3*k+5<recursionLimit
 un:A.units+16*k+200<cLine
theorem cw.mono{j k:Nat}{A:Around}(r:cw k A)(h:j<=k):cw j A:=⟨r.hd,by have:=r.dp;lia,by have:=r.un;lia⟩
theorem cw.deeper{k:Nat}{A:Around}(r:cw (k+1) A)(env:Env):cw k (A.deeper env) :=
 ⟨r.hd,by have:=r.dp;show A.depth+1+3*k+5<_;lia,by have:=r.un;show A.units+3+16*k+200<_;lia⟩
theorem y4{A:Around}{C:Addr}{us:List Value}{kw:List (Str×Value)}:(A.under (.builtin "type.__call__" ⟨.ref C::us,kw⟩)).depth=A.depth+1:=by
 first|rfl|simp[Around.under,Code.weight,Code.isCreation,Code.isGuard,Code.isCaller,Code.frames,Code.isFrame,guardIds]
theorem y6{A:Around}{C:Addr}{us:List Value}{kw:List (Str×Value)}:(A.under (.builtin "type.__call__" ⟨.ref C::us,kw⟩)).units=A.units+1:=by
 first|rfl|simp[Around.under,Code.cUnits,Code.frames,Code.isFrame]
theorem cw.make{k:Nat}{A:Around}(r:cw (k+1) A)(C:Addr)(us:List Value)(kw:List (Str×Value)):cw k (A.under (.builtin "type.__call__" ⟨.ref C::us,kw⟩)) :=
 ⟨r.hd,by have:=r.dp;rw[y4];lia,by have:=r.un;rw[y6];lia⟩
theorem cw.depth{k:Nat}{A:Around}(r:cw k A):A.depth<recursionLimit:=by have:=r.dp;lia
theorem cw.units{k:Nat}{A:Around}(r:cw k A):A.units+64<cLine:=by have:=r.un;lia
def FQ:TA:=λ_ H Q=>Q [] H
def LA(ta:TE)(tr:TA):TA:=λσ H Q=>ta σ H λx H1=>tr σ H1 λxs H2=>Q (x::xs) H2
section
variable{X:Cx}{e:Expr}{es:List Expr}{te:TE}{t:TA}{pos:Pos}
theorem aC:PA X [] FQ:=λ_ _ _ _ H Q I h=>Calls.spliced_nil ⟨[],H,I,.nil,h⟩
theorem aA(ha:PE X e te)(hr:PA X es t)(hs:starEach (e::es) X.env=(false,eval e X.env)::starEach es X.env:=by rfl):PA X (e::es) (LA te t):=by intro pos pins s σ H Q I h;rw[hs];show wpAny _ _ (spliced ((false,eval e X.env)::backTo pos (starEach es X.env))) _ _ s;refine Calls.spliced_cons (av (ha pins s σ H _ I h) λu s1 ⟨x,H1,I1,r1,q1⟩=>?_);exact av (hr pos pins s1 σ H1 _ I1 q1) λus s2 ⟨xs,H2,I2,r2,q2⟩=>⟨x::xs,H2,I2,.cons r1 r2,q2⟩
def N5(t:TA):TE:=λσ H Q=>t σ H λxs H1=>xs.length<=sizeLine/\∀p,H1 p=none->Q (.ref p) (upd H1 p (.tup xs))
def N6(t:TA):TE:=λσ H Q=>t σ H λxs H1=>xs.length<=sizeLine/\∀p,H1 p=none->Q (.ref p) (upd H1 p (.lst xs))
theorem aw{x1}(h:PA X es t):PE X (.Tuple es x1 pos) (N5 t):=by intro pins s σ H Q I hq;refine wpAny_Tuple_spliced (av (h pos pins s σ H _ I hq) λus s1 ⟨xs,H1,I1,r,z,q⟩=>⟨by rw[<-r.length];exact z,?_⟩);have hf:H1 s1.heap.objs.size=none:=I1.aq.fresh (Nat.le_refl _);refine⟨.ref s1.heap.objs.size,upd H1 s1.heap.objs.size (.tup xs),I1.laid (t':=s1.toks) (λb u e=>Heap.get?_push_of_some _ e) (Nat.le_refl _) ?_,rfl,q _ hf⟩;exact⟨z,us,r,⟨_,Heap.get?_push_size _ rfl,rfl,_,rfl⟩⟩
theorem cJ(h:PA X es t):PE X (.List es pos) (N6 t):=by intro pins s σ H Q I hq;refine wpAny_List_spliced (av (h pos pins s σ H _ I hq) λus s1 ⟨xs,H1,I1,r,z,q⟩=>⟨by rw[<-r.length];exact z,?_⟩);have hf:H1 s1.heap.objs.size=none:=I1.aq.fresh (Nat.le_refl _);refine⟨.ref s1.heap.objs.size,upd H1 s1.heap.objs.size (.lst xs),I1.laid (t':=s1.toks) (λb u e=>Heap.get?_push_of_some _ e) (Nat.le_refl _) ?_,rfl,q _ hf⟩;exact⟨z,us,0,r,Heap.get?_push_size _ rfl⟩
end
abbrev Sp:=List V->Hp->VK->XK->Prop
abbrev y8:=List Env->Hp->Shared->XK->Value->Shared->Prop
structure y9(P:Program)(w:World)(K:PySem.W.Frag)(mg:Str->Option Value)(base:Heap)(A:Around)(outer:List Env)(s:Shared)(H:Hp):Prop where
 frames:A.frames=some outer
 mod:Mod K mg base
 bs:∀b o,base.get? b=some o->s.heap.get? b=some o/\H b=none
 FD:base.objs.size<=s.heap.objs.size
 oO:s.heap.FunFrames base outer
 IK:∀b∈fJ outer,H b=none
 aq:lG P w H s.heap
 bare:AllBare s.gens
def CE(outer:List Env)(P:Program)(w:World)(H:Hp)(s:Shared)(Q:VK)(u:Value)(s':Shared):Prop :=
 ∃v H',s'.os=s.os/\AllBare s'.gens/\Un (fJ outer) [] H H' s.heap s'.heap/\lG P w H' s'.heap/\RelV v u/\Q v H'
def CR(CX:y8)(outer:List Env)(P:Program)(w:World)(H:Hp)(s:Shared)(Q:VK)(E:XK)(r:Result)(s':Shared):Prop :=
 match r with
 |.ok (.ret u)=>CE outer P w H s Q u s'
 |.ok _=>False
 |.error e=>CX outer H s E e s'
structure dQ(P:Program)(w:World)(K:PySem.W.Frag)(mg:Str->Option Value)(base:Heap)(CX:y8)(k:Nat)(f:Addr)(fd:FuncData)(ps:List Str)(sp:Sp):Prop where
 len:∀vs H Q E,sp vs H Q E->vs.length=ps.length
 run:∀(A:Around)(outer:List Env)(s:Shared)(H:Hp)(args:Args)(us:List Value)(vs:List V)(Q:VK)(E:XK),cw k A->y9 P w K mg base A outer s H->BindsTo s fd args (ps.zip us)->aW vs us->sp vs H Q E ->
  codeAny (model P w) A (.call (.ref f) args) (CR CX outer P w H s Q E) s
theorem dQ.mono{P:Program}{w:World}{K:PySem.W.Frag}{mg:Str->Option Value}{base:Heap}{CX:y8}{j k:Nat}{f:Addr}{fd:FuncData}{ps:List Str}{sp:Sp}(F:dQ P w K mg base CX j f fd ps sp)(h:j<=k):
  dQ P w K mg base CX k f fd ps sp:=⟨F.len,λA outer s H args us vs Q E hr=>F.run A outer s H args us vs Q E (hr.mono h)⟩
theorem y9.make{P:Program}{w:World}{K:PySem.W.Frag}{mg:Str->Option Value}{base:Heap}{A:Around}{outer:List Env}{s:Shared}{H:Hp}(e:y9 P w K mg base A outer s H)(C:Addr)(us:List Value)(kw:List (Str×Value)):
  y9 P w K mg base (A.under (.builtin "type.__call__" ⟨.ref C::us,kw⟩)) outer s H:=⟨by first|exact e.frames|(simpa[Around.under,Code.envs,Code.isFrame,pushEnvs]using e.frames),e.mod,e.bs,e.FD,e.oO,e.IK,e.aq,e.bare⟩
section
variable{X:Cx}{pins:List (Addr×Obj)}{σ:St}{H:Hp}{s s':Shared}
theorem Inv.LB(I:Inv X pins σ H s):y9 X.prog X.w X.K X.mg X.base X.A X.stack s H :=
 ⟨I.ok.frames,I.ok.mod,I.bs,Nat.le_trans I.ok.FD I.sz,I.stack,I.uk,I.aq,I.bare⟩
theorem Inv.after{Q:VK}{u:Value}(I:Inv X pins σ H s)(h:CE X.stack X.prog X.w H s Q u s'):EP X pins σ Q u s':=by obtain⟨v,H',os,bare,un,aq,r,q⟩:=h;obtain⟨hh,g,d,t,LC⟩:=s';obtain rfl:LC=s.os:=os;exact⟨v,H',I.call (h':=hh) (g':=g) (d':=d) (t':=t) (ch:=[]) un aq bare (λb z=>absurd z (by simp)),r,q⟩
end
def HU(sp:Sp)(sO:List V)(E:XK)(t:TA):TE:=λσ H Q=>t σ H λvs H1=>sp (vs++sO) H1 Q E
def HV(C:Addr)(m:Str)(sp:Sp)(sO:List V)(E:XK)(ta:TE)(t:TA):TE:=λσ H Q=>ta σ H λx H1=>∃a dx fs,x=.ref a/\H1 a=some (.ins C dx fs)/\fs.lookup m=none /\
 t σ H1 λvs H2=>sp (x::(vs++sO)) H2 Q E
def LD(C:Addr)(sp:Sp)(sO:List V)(E:XK)(t:TA):TE:=λσ H Q=>t σ H λvs H1=>∀x dx,H1 x=none->H1 dx=none->dx≠x ->
 sp (.ref x::(vs++sO)) (upd (upd H1 dx (.own x)) x (.ins C dx [])) (λv H2=>v=.ba/\Q (.ref x) H2) E
def Binds(K:PySem.W.Frag)(fd:FuncData)(ps:List Str)(ds:List Value):Prop :=
 ∀(s:Shared)(us:List Value),K.In s.heap->(us++ds).length=ps.length->BindsTo s fd ⟨us,[]⟩ (ps.zip (us++ds))
theorem Binds.all{K:PySem.W.Frag}{fd:FuncData}{ps:List Str}(h:∀us:List Value,us.length=ps.length->bindArgs fd ⟨us,[]⟩=pure (ps.zip us)):Binds K fd ps []:=λs us _ hl=>by rw[List.append_nil]at hl ⊢;exact .of_eq (h us hl)
def gb(CX:y8)(X:Cx)(E:XK):Prop:=∀(pins:List (Addr×Obj))(σ:St)(H:Hp)(s:Shared)(e:Value)(s':Shared),Inv X pins σ H s->CX X.stack H s E e s'->X.xe e s'
section
variable{X:Cx}{CX:y8}{k:Nat}{f C:Addr}{fd:FuncData}{ps:List Str}{sp:Sp}{sO:List V}{ds:List Value}{E:XK}{x m:Str}{p pos apos:Pos}{e o:Expr}{es:List Expr}{ta:TE}{t:TA}
theorem zA{pins:List (Addr×Obj)}{σ:St}{H:Hp}{s:Shared}{Q:VK}{us:List Value}{vs:List V}(F:dQ X.prog X.w X.K X.mg X.base CX k f fd ps sp)(hr:cw k X.A)(hb:Binds X.K fd ps ds)(hd:aW sO ds)(hx:gb CX X E)(I:Inv X pins σ H s)(r:aW vs us)(h:sp (vs++sO) H Q E):wpAny (model X.prog X.w) X.A (call (.ref f) us) (EP X pins σ Q) X.xe s:=by
 have r2:aW (vs++sO) (us++ds):=r.append hd;have hl:(us++ds).length=ps.length:=by rw[<-r2.length];exact F.len _ _ _ _ h
 refine wpAny_call (codeAny_mono (F.run X.A X.stack s H ⟨us,[]⟩ (us++ds) (vs++sO) Q E hr I.LB (hb s us I.pJ hl) r2 h) λr s' hq=>?_);cases r with
 |error e=>exact hx pins σ H s e s' I hq
 |ok fl =>
  cases fl with
  |ret u=>exact I.after hq
  |next=>exact False.elim hq
  |brk=>exact False.elim hq
  |cont=>exact False.elim hq
theorem FR(F:dQ X.prog X.w X.K X.mg X.base CX k f fd ps sp)(hr:cw k X.A)(hg:Gl X x)(hm:X.mg x=some (.ref f))(hk:PySem.W.keepIn X.K (.ref f)=true)(hb:Binds X.K fd ps ds)(hd:aW sO ds)(hx:gb CX X E)(ha:PA X (e::es) t)(C6:(x==("__debug__":Str))=false:=by decide)(he:starEach (e::es) X.env=(false,eval e X.env)::starEach es X.env:=by rfl)(wV:(backTo pos (starEach es X.env)).any (·.1)=false:=by rfl):
  PE X (.Call (.Name x p) (e::es) [] pos) (HU sp sO E t):=by
 intro pins s σ H Q I h;refine wpAny_Call_Name_kw (qQ I hg hm ?_ C6);refine PySem.W.callWith_K (h₀:=X.base) I.ok.mod.FC hk (av (ha pos pins s σ H _ I h) λus s1 ⟨vs,H1,I1,r,q⟩=>⟨I1.pJ,?_⟩) he wV;exact zA F hr hb hd hx I1 r q
theorem FT{pl:Sem Bool}(he:PE X o ta)(c:C5 X.K C)(hm:wo X.K C m f)(F:dQ X.prog X.w X.K X.mg X.base CX k f fd ps sp)(hr:cw k X.A)(hb:Binds X.K fd ps ds)(hd:aW sO ds)(hx:gb CX X E)(ha:PA X (e::es) t)(Ac:starEach (e::es) X.env=(false,eval e X.env)::starEach es X.env:=by rfl)(wV:(backTo pos (starEach es X.env)).any (·.1)=false:=by rfl)(ht:eval (.Call (.Attribute o m apos) (e::es) [] pos) X.env=(do
   let ov <- eval o X.env
   standAt apos.atName
   let(f,first) <- holding [ov] (getMethod ov m pl)
   callWith pos f first (backTo pos (starEach (e::es) X.env)) (backToKw pos (keywordEach [] X.env))):=by rfl):
  PE X (.Call (.Attribute o m apos) (e::es) [] pos) (HV C m sp sO E ta t):=by
 intro pins s σ H Q I h;refine PySem.W.methodCall_KW (pl:=pl) (av (he pins s σ H _ I h) λu s1 ⟨x,H1,I1,rx,a,dx,fs,ex,ea,l,q⟩=>?_) ht;subst ex;obtain rfl:u=Value.ref a:=rx;refine qj I1 ea c hm l ?_;refine PySem.W.callWith_K (first:=[.ref a]) (h₀:=X.base) I.ok.mod.FC hm.kp (av (ha pos pins s1 σ H1 _ I1 q) λus s2 ⟨vs,H2,I2,r,q2⟩=>⟨I2.pJ,?_⟩) Ac wV;exact zA (us:=.ref a::us) (vs:=.ref a::vs) F hr hb hd hx I2 (.cons rfl r) q2
theorem wq{pl:Sem Bool}(he:PE X o ta)(c:C5 X.K C)(hm:wo X.K C m f)(F:dQ X.prog X.w X.K X.mg X.base CX k f fd ps sp)(hr:cw k X.A)(hb:Binds X.K fd ps ds)(hd:aW sO ds)(hx:gb CX X E)(ht:eval (.Call (.Attribute o m apos) [] [] pos) X.env=(do
   let ov <- eval o X.env
   standAt apos.atName
   let(f,first) <- holding [ov] (getMethod ov m pl)
   callWith pos f first (backTo pos (starEach [] X.env)) (backToKw pos (keywordEach [] X.env))):=by rfl):
  PE X (.Call (.Attribute o m apos) [] [] pos) (HV C m sp sO E ta FQ):=by
 intro pins s σ H Q I h;refine PySem.W.methodCall_KW (pl:=pl) (av (he pins s σ H _ I h) λu s1 ⟨x,H1,I1,rx,a,dx,fs,ex,ea,l,q⟩=>?_) ht;subst ex;obtain rfl:u=Value.ref a:=rx;refine qj I1 ea c hm l ?_;exact PySem.W.callWith_K0 (first:=[.ref a]) I1.pJ hm.kp (zA (us:=[.ref a]) (vs:=[.ref a]) F hr hb hd hx I1 (.cons rfl .nil) q)
structure Mk(K:PySem.W.Frag)(C f:Addr):Prop where
 makes:PySem.W.makesIn K C=true
 init:PySem.W.findIn K (.ref C) "__init__"=some (some (.ref f))
 fn:PySem.W.isFn K (.ref f)=true
 kp:PySem.W.keepIn K (.ref C)=true
theorem C7{pins:List (Addr×Obj)}{σ:St}{H:Hp}{s:Shared}{Q:VK}{us:List Value}{vs:List V}(M:Mk X.K C f)(F:dQ X.prog X.w X.K X.mg X.base CX k f fd ps sp)(hr:cw (k+1) X.A)(hb:Binds X.K fd ps ds)(hd:aW sO ds)(hx:gb CX X E)(I:Inv X pins σ H s)(r:aW vs us)(h:∀x dx,H x=none->H dx=none->dx≠x->sp (.ref x::(vs++sO)) (upd (upd H dx (.own x)) x (.ins C dx [])) (λv H2=>v=.ba/\Q (.ref x) H2) E):
  wpAny (model X.prog X.w) X.A (call (.ref C) us) (EP X pins σ Q) X.xe s:=by
 have hq:=h (s.heap.objs.size+1) s.heap.objs.size (I.aq.fresh (Nat.le_succ _)) (I.aq.fresh (Nat.le_refl _)) (Nat.ne_of_lt (Nat.lt_succ_self _));have I2:=Inv.made (C:=C) I;have r2:aW (V.ref (s.heap.objs.size+1)::(vs++sO)) (Value.ref (s.heap.objs.size+1)::(us++ds)):=.cons rfl (r.append hd);have hl:(Value.ref (s.heap.objs.size+1)::us++ds).length=ps.length:=by have e:=r2.length;rw[F.len _ _ _ _ hq]at e;exact e.symm
 refine wpAny_call (C4 (f:=f) I.pJ M.makes M.init (beq_iff_eq.mp M.fn) (codeAny_mono (F.run _ X.stack _ _ ⟨Value.ref (s.heap.objs.size+1)::us,[]⟩ (Value.ref (s.heap.objs.size+1)::(us++ds)) _ _ E (hr.make C us [])
  (I2.LB.make C us []) (hb _ (Value.ref (s.heap.objs.size+1)::us) I2.pJ hl) r2 hq) λr s' LF=>?_))
 cases r with
 |error e=>exact hx pins σ _ _ e s' I2 LF
 |ok fl =>
  cases fl with
  |ret u =>
   obtain⟨v,H',I3,rv,ev,q3⟩:=I2.after LF;subst ev;exact⟨rv,⟨V.ref (s.heap.objs.size+1),H',I3,rfl,q3⟩⟩
  |next=>exact False.elim LF
  |brk=>exact False.elim LF
  |cont=>exact False.elim LF
theorem C8(M:Mk X.K C f)(F:dQ X.prog X.w X.K X.mg X.base CX k f fd ps sp)(hr:cw (k+1) X.A)(hg:Gl X x)(hm:X.mg x=some (.ref C))(hb:Binds X.K fd ps ds)(hd:aW sO ds)(hx:gb CX X E)(C6:(x==("__debug__":Str))=false:=by decide):PE X (.Call (.Name x p) [] [] pos) (LD C sp sO E FQ):=by intro pins s σ H Q I h;refine wpAny_Call_Name_kw (qQ I hg hm ?_ C6);exact PySem.W.callWith_K0 I.pJ M.kp (C7 (us:=[]) M F hr hb hd hx I .nil h)
end
section
variable{X:Cx}{CX:y8}{k:Nat}{f C:Addr}{fd:FuncData}{ps ks:List Str}{sp:Sp}{E:XK}{x m:Str}{p pos apos N7:Pos}{e o:Expr}{es:List Expr}{Ri:List Keyword}{te ta:TE}{t tk:TA}{nm:Option Str}
variable{g:List Value->List Value->List Value}{gV:List V->List V->List V}
end
structure aQ(N P:List Str)(sc:Scope):Prop where
 kind:sc.kind=.function
 co:sc.isCoroutine=false
 gen:sc.isGenerator=false
 nd:N.Nodup
 pre:N.take P.length=P
 par:∀x∈P,sc.names.lookup x=some .local\/sc.names.lookup x=some .cell
 Ip:∀y∈sc.names,y.2≠.free
theorem uA{kindOf:Str->Option NameKind}{x:Str}:∀{binds:List (Str×Value)}{m:Str->Option Value},(∀v,(x,v)∉binds)->bindL kindOf binds m x=m x
 |[],_,_=>rfl
 | (n,v)::r,m,h=>by
  unfold bindL;rw[uA λw hw=>h w (List.mem_cons_of_mem _ hw)];split
  ·have:x≠n:=(by rintro rfl;exact h v List.mem_cons_self);simp[this]
  rfl
theorem uB{kindOf:Str->Option NameKind}{x:Str}:∀{binds:List (Str×Value)}{m:Str->Option Value},(∀v,(x,v)∉binds)->bindC kindOf binds m x=m x
 |[],_,_=>rfl
 | (n,v)::r,m,h=>by
  unfold bindC;rw[uB λw hw=>h w (List.mem_cons_of_mem _ hw)];split
  ·rfl
  have:x≠n:=by rintro rfl;exact h v List.mem_cons_self
  simp[this]
theorem uC{kindOf:Str->Option NameKind}{x:Str}{v:Value}:∀{P:List Str}{vs:List Value}{i:Nat}{m:Str->Option Value},P.Nodup->P[i]?=some x->vs[i]?=some v->kindOf x=some .local ->
  bindL kindOf (P.zip vs) m x=some v
 |[],_,_,_,_,h,_,_=>by simp at h
 |_::_,[],_,_,_,_,h,_=>by simp at h
 |p::P,w::vs,0,m,nd,h1,h2,hk=>by simp at h1 h2;subst h1;subst h2;show bindL kindOf ((p,w)::P.zip vs) m p=_;unfold bindL;rw[uA λv hv=>(List.nodup_cons.mp nd).1 (List.of_mem_zip hv).1,if_pos hk];simp
 |p::P,w::vs,i+1,m,nd,h1,h2,hk=>by show bindL kindOf ((p,w)::P.zip vs) m x=_;unfold bindL;exact uC (i:=i) (List.nodup_cons.mp nd).2 (by simpa using h1) (by simpa using h2) hk
theorem uD{kindOf:Str->Option NameKind}{x:Str}{v:Value}:∀{P:List Str}{vs:List Value}{i:Nat}{m:Str->Option Value},P.Nodup->P[i]?=some x->vs[i]?=some v->kindOf x≠some .local ->
  bindC kindOf (P.zip vs) m x=some v
 |[],_,_,_,_,h,_,_=>by simp at h
 |_::_,[],_,_,_,_,h,_=>by simp at h
 |p::P,w::vs,0,m,nd,h1,h2,hk=>by simp at h1 h2;subst h1;subst h2;show bindC kindOf ((p,w)::P.zip vs) m p=_;unfold bindC;rw[uB λv hv=>(List.nodup_cons.mp nd).1 (List.of_mem_zip hv).1,if_neg hk];simp
 |p::P,w::vs,i+1,m,nd,h1,h2,hk=>by show bindC kindOf ((p,w)::P.zip vs) m x=_;unfold bindC;exact uD (i:=i) (List.nodup_cons.mp nd).2 (by simpa using h1) (by simpa using h2) hk
def start(N:List Str)(vs:List V):St:=vs.map some++List.replicate (N.length-vs.length) none
def BX(CX:y8)(P:Program)(w:World)(K:PySem.W.Frag)(mg:Str->Option Value)(base:Heap)(N:List Str)(qual:Str)(scope:Scope)(f:Addr)(cd:Value)(A:Around)(outer:List Env)(s:Shared)(H:Hp)(E:XK):Cx where
 prog:=P
 w:=w
 K:=K
 mg:=mg
 base:=base
 A:=A.deeper (envOfC qual scope s.heap.objs.size f cd)
 N:=N
 s₀:=s
 H₀:=H
 env:=envOfC qual scope s.heap.objs.size f cd
 outer:=outer
 stack:=envOfC qual scope s.heap.objs.size f cd::outer
 ex:=[]
 calm:=true
 fn:=λ_=>true
 pn:=[]
 xe:=λe s'=>wpAny (model P w) (A.deeper (envOfC qual scope s.heap.objs.size f cd)) (leaving (envOfC qual scope s.heap.objs.size f cd) e) (λ_ Iq=>CX outer H s E e Iq) (λe' Iq=>CX outer H s E e' Iq) s'
theorem wu{sc:Scope}{n:Nat}{x:Str}(h:sc.names.lookup x=some .cell):∃c,(cellsFrom n sc.names []).lookup x=some c:=by have q:=PySem.W.cellsFrom_some sc.names n [] (.inl h);exact Option.isSome_iff_exists.mp q
theorem BY{CX:y8}{P:Program}{w:World}{K:PySem.W.Frag}{mg:Str->Option Value}{base:Heap}{N ps:List Str}{qual:Str}{scope:Scope}{f:Addr}{cd:Value}{A:Around}{outer:List Env}{s s1:Shared}{H:Hp}{E:XK}{us:List Value}{vs:List V}(S:aQ N ps scope)(hd:A.handled=none)(e0:y9 P w K mg base A outer s H)(hl:vs.length=ps.length)(r:aW vs us)(x:InCallC s s.heap.objs.size (bindL (envOfC qual scope s.heap.objs.size f cd).kindOf (ps.zip us) λ_=>none) (cellsFrom (s.heap.objs.size+1) scope.names []) (bindC (envOfC qual scope s.heap.objs.size f cd).kindOf (ps.zip us) λ_=>none) s1):
  Inv (BX CX P w K mg base N qual scope f cd A outer s H E) [] (start N vs) H s1:=by
 have wV:ps.length<=N.length:=by have:=congrArg List.length S.pre;rw[List.length_take]at this;lia
 obtain⟨h1,tk,rfl,hk⟩:=x.done;have LG:∀b:Addr,b∉(BX CX P w K mg base N qual scope f cd A outer s H E).ex:=λb z=>absurd (show b∈([]:List Addr)from z) (by simp);refine⟨⟨e0.mod,S.kind,rfl,rfl,Nat.le_refl _,λy z c h1 h2=>?_,λy hy=>?_,λy c _ h=>?_,λ_=>hd,Around.frames_deeper e0.frames,.inr ⟨rfl,rfl⟩,λb z=>absurd z (LG b),e0.bs,e0.FD,λb _ _=>LG b,λb z=>absurd z (LG b),e0.oO,e0.IK⟩,
  rfl,e0.bare,Un.kept hk,⟨_,x.toInCall.ns,λi y v h1 h2 h3=>?_⟩,λy c h=>⟨_,x.cell y c h⟩,e0.aq.fresh (Nat.le_refl _),λy c h=>?_,λp hp=>absurd (show p∈([]:List (Addr×Obj))from hp) (by simp),e0.aq.kept hk,?_⟩
 ·exact name_of_addr x.apart (PySem.mem_of_lookup h1) (PySem.mem_of_lookup h2)
 ·have hy:scope.names.lookup y=some .cell\/scope.names.lookup y=some .free:=hy;rcases hy with hy|hy
  ·exact wu hy
  exact absurd rfl (S.Ip _ (PySem.mem_of_lookup hy))
 ·exact Nat.le_of_lt (x.above y c (PySem.mem_of_lookup h))
 ·have hi:i<vs.length:=by
   unfold start at h2;by_cases hi:i<vs.length
   ·exact hi
   rw[List.getElem?_append_right (by simpa using hi)]at h2;rw[List.getElem?_replicate]at h2;split at h2<;>cases h2
  have ha:vs[i]?=some v:=by
   unfold start at h2;rw[List.getElem?_append_left (by simpa using hi),List.getElem?_map]at h2;cases e:vs[i]? with
   |none=>rw[e]at h2;cases h2
   |some a=>rw[e]at h2;cases h2;rfl
  obtain⟨u,hu,rv⟩:=r.get ha;have hp:ps[i]?=some y:=by rw[<-S.pre,List.getElem?_take_of_lt (by lia)];exact h1
  have QP:ps.Nodup:=by rw[<-S.pre];exact S.nd.sublist (List.take_sublist _ _)
  refine⟨u,rv,?_⟩;rcases S.par y (List.mem_of_getElem? hp)with k|k
  ·exact .inl ⟨k,uC QP hp hu k⟩
  obtain⟨c,e⟩:=wu (n:=s.heap.objs.size+1) k;refine .inr ⟨.inl k,c,e,?_⟩;have q:=x.cell y c e;rw[uD QP hp hu (by show scope.names.lookup y≠_;rw[k];decide)]at q;exact q
 ·exact e0.aq.fresh (Nat.le_of_lt (x.above y c (PySem.mem_of_lookup h)))
 unfold start;show _=N.length;rw[List.length_append,List.length_map,List.length_replicate];lia
theorem C9{CX:y8}{P:Program}{w:World}{K:PySem.W.Frag}{mg:Str->Option Value}{base:Heap}{k:Nat}{f:Addr}{name qual:Str}{params:Arguments}{body:List Stmt}{scope:Scope}{dV kV doc pm bU ct oc:Value}{an od:Option Addr}{BZ:Array (Option Value)}{N ps:List Str}{sp:Sp}(lk:K.lookup f=some ⟨oc,od,.func (PySem.W.fnOf name qual params body scope dV kV doc pm an bU ct),BZ⟩)(wR:PySem.W.codeIn K bU qual=true)(S:aQ N ps scope)(len:∀vs H Q E,sp vs H Q E->vs.length=ps.length)(qk:∀(A:Around)(outer:List Env)(s:Shared)(H:Hp)(vs:List V)(Q:VK)(E:XK),cw k (A.deeper (envOfC qual scope s.heap.objs.size f bU))->sp vs H Q E ->
   ∃t,Cj (BX CX P w K mg base N qual scope f bU A outer s H E) body t/\t { nx:=λ_ H'=>Q .ba H',rt:=Q } (start N vs) H):
  dQ P w K mg base CX (k+1) f (PySem.W.fnOf name qual params body scope dV kV doc pm an bU ct) ps sp:=by
 refine⟨len,λA outer s H args us vs Q E hr e0 hb r Aj=>?_⟩;have hl:=len _ _ _ _ Aj;have KX:K.In s.heap:=e0.mod.FC.keeps λb o e=>(e0.bs b o e).1;have lim:s.heap.NoLimit:=e0.mod.nolimit.keeps λb o e=>(e0.bs b o e).1;have Ak:∀y∈ps.zip us,scope.names.lookup y.1=some .local\/(scope.names.lookup y.1=some .cell/\((cellsFrom (s.heap.objs.size+1) scope.names []).lookup y.1).isSome=true):=λ⟨n,v⟩ hy=>by
  rcases S.par n (List.of_mem_zip hy).1 with q|q
  ·exact .inl q
  exact .inr ⟨q,PySem.W.cellsFrom_some _ _ _ (.inl q)⟩
 refine codeAny_call_function hr.depth (KX _ _ lk) rfl S.co S.gen rfl (PySem.W.codeRec_of KX wR) (hb _ _ _ _ ?_);refine wpAny_newFunctionEnv_cells S.kind Ak λenv he s1 x=>?_;subst he;refine⟨lim.keeps x.toInCall.keep,codeAny_func ?_⟩;obtain⟨t,ht,hq⟩:=qk A outer s H vs Q E (hr.deeper _) Aj;have I:Inv (BX CX P w K mg base N qual scope f bU A outer s H E) [] (start N vs) H s1:=BY S hr.hd e0 hl r x;refine wpAny_mono (ht [] s1 (start N vs) H _ I hq) (λfl s' hs=>?_) λe s' hs=>hs;have fin:∀{σ':St}{H':Hp}{v:V}{u:Value},Inv (BX CX P w K mg base N qual scope f bU A outer s H E) [] σ' H' s'->RelV v u->Q v H'->CE outer P w H s Q u s' :=
  λ{σ' H' v u} J rv q=>⟨v,H',J.os,J.bare,J.base,J.aq,rv,q⟩
 cases fl with
 |ret u =>
  obtain⟨v,σ',H',J,rv,q⟩:=hs;exact fin J rv q
 |next =>
  obtain⟨σ',H',J,q⟩:=hs;exact fin (v:=V.ba) (u:=Value.none) J rfl q
 |brk =>
  obtain⟨_,_,_,q⟩:=hs;exact False.elim q
 |cont =>
  obtain⟨_,_,_,q⟩:=hs;exact False.elim q
section
variable{X:Cx}{x:Str}{p pos:Pos}{e:Expr}{es:List Expr}{t:TA}{id T:String}{r:List V->Hp->VK->Prop}
def N8(r:List V->Hp->VK->Prop)(t:TA):TE:=λσ H Q=>t σ H λvs H1=>r vs H1 Q
theorem aX(hc:bY X (.builtin id) r)(hg:Gl X x)(hm:X.mg x=none)(hv:bootBuiltins x=some (.builtin id))(ha:PA X (e::es) t)(hn:x≠"__name__":=by decide)(C6:(x==("__debug__":Str))=false:=by decide)(he:starEach (e::es) X.env=(false,eval e X.env)::starEach es X.env:=by rfl)(wV:(backTo pos (starEach es X.env)).any (·.1)=false:=by rfl):PE X (.Call (.Name x p) (e::es) [] pos) (N8 r t):=by intro pins s σ H Q I h;refine wpAny_Call_Name_kw (oP I hg hm hv ?_ hn C6);exact PyProof.Rows.callWith_builtin1 (av (ha pos pins s σ H _ I h) λus s1 ⟨vs,H1,I1,r1,q1⟩=>hc pins s1 σ H1 vs us Q I1 r1 q1) he wV
theorem bE(hc:bY X (.type T) r)(hg:Gl X x)(hm:X.mg x=none)(hv:bootBuiltins x=some (.type T))(ha:PA X (e::es) t)(hn:x≠"__name__":=by decide)(C6:(x==("__debug__":Str))=false:=by decide)(he:starEach (e::es) X.env=(false,eval e X.env)::starEach es X.env:=by rfl)(wV:(backTo pos (starEach es X.env)).any (·.1)=false:=by rfl):PE X (.Call (.Name x p) (e::es) [] pos) (N8 r t):=by intro pins s σ H Q I h;refine wpAny_Call_Name_kw (oP I hg hm hv ?_ hn C6);exact PyProof.Rows.callWith_type1 (av (ha pos pins s σ H _ I h) λus s1 ⟨vs,H1,I1,r1,q1⟩=>hc pins s1 σ H1 vs us Q I1 r1 q1) he wV
end
end L2
namespace HT
open PySem PyProof.Rows
section
open PySem.SeqAt
open PySem.AutoSeq1 (wpAny_loadPart')
open PySem.MeetsSeq PySem.MeetsSeq2 PySem.MeetsSeq3
end
section
variable{prog:Program}{w:World}{A:Around}{E:Value->Shared->Prop}{s:Shared}
def cx(n d:Nat):Option Int->Nat
 |none=>d
 |some v=>if v<0 then(v+(n:Int)).toNat else min v.toNat n
theorem DA(n d:Nat):cx n d none=d:=rfl
theorem FU(n d k:Nat):cx n d (some (k:Int))=min k n:=by show(if(k:Int)<0 then((k:Int)+(n:Int)).toNat else min (k:Int).toNat n)=min k n;rw[if_neg (by lia),Int.toNat_natCast]
theorem Ir(n d:Nat)(hd:d<=n)(o:Option Int):cx n d o<=n:=by
 cases o with
 |none=>exact hd
 |some v =>
  show(if v<0 then(v+(n:Int)).toNat else min v.toNat n)<=n;by_cases hv:v<0
  ·rw[if_pos hv];lia
  rw[if_neg hv];exact Nat.min_le_right _ _
theorem Al(v:Int)(n d:Nat):(if v<0 then max (v+(n:Int)) 0 else min v (n:Int))=((cx n d (some v):Nat):Int):=by
 show(if v<0 then max (v+(n:Int)) 0 else min v (n:Int))=(((if v<0 then(v+(n:Int)).toNat else min v.toNat n):Nat):Int);by_cases hv:v<0
 ·simp only[if_pos hv];lia
 simp only[if_neg hv];lia
theorem zB(lo hi:Option Int)(n:Nat):Builtin.Slice.sliceAdjust lo hi 1 (n:Int)=(((cx n 0 lo:Nat):Int),((cx n n hi:Nat):Int)):=by
 have h1:¬((1:Int)<0):=by lia
 unfold Builtin.Slice.sliceAdjust;simp only[h1,if_false];refine Prod.ext ?_ ?_
 ·cases lo with
  |none=>rfl
  |some v=>exact Al v n 0
 cases hi with
 |none=>rfl
 |some v=>exact Al v n n
theorem zC(i j:Nat):Builtin.Slice.slicePlaces (i:Int) (j:Int) 1=j-i:=by
 unfold Builtin.Slice.slicePlaces;have h1:(1:Int)>0:=by lia
 simp only[h1,if_true,Int.ediv_one];split<;>lia
theorem ql{v:Value}{o:Option Int}{Q:Option Int->Shared->Prop}(p:IsPart v o)(h:Q o s):wpAny (model prog w) A (Builtin.Slice.slicePartIndex v) Q E s:=by
 cases p with
 |none=>exact slicePart_none h
 |int i t=>exact slicePart_int h
theorem iI{sl:Addr}{vl vu:Value}{lo hi:Option Int}{n:Nat}{Q:Int×Int×Nat->Shared->Prop}(hs:s.heap.IsSliceOf sl vl vu .none)(pl:IsPart vl lo)(pu:IsPart vu hi)(h:Q (((cx n 0 lo:Nat):Int),1,cx n n hi-cx n 0 lo) s):wpAny (model prog w) A (Builtin.Slice.sliceApplied (.ref sl) (pure (n:Int))) Q E s:=by
 obtain⟨os,oN,M4,LH⟩:=id hs;unfold Builtin.Slice.sliceApplied Builtin.Slice.sliceFields;refine wpAny_bind (wpAny_bind (wpAny_field oN LH (x:=vl) rfl (wpAny_bind (wpAny_field oN LH (x:=vu) rfl (wpAny_bind (wpAny_field oN LH (x:=.none) rfl (wpAny_pure ?_)))))));refine wpAny_bind (slicePart_none ?_);show wpAny _ _ (if((1:Int)==0)=true then _ else _) _ _ s;rw[if_neg (by decide)];refine wpAny_bind (ql pl (wpAny_bind (ql pu (wpAny_bind (wpAny_pure ?_)))));show wpAny _ _ (match Builtin.Slice.sliceAdjust lo hi 1 (n:Int)with|(lo,hi)=>pure (lo,(1:Int),Builtin.Slice.slicePlaces lo hi 1)) _ _ s
 rw[zB lo hi n];show wpAny _ _ (pure (((cx n 0 lo:Nat):Int),(1:Int),Builtin.Slice.slicePlaces ((cx n 0 lo:Nat):Int) ((cx n n hi:Nat):Int) 1)) _ _ s;rw[zC];exact wpAny_pure h
theorem DB(xs:Array Value)(i k:Nat):((List.range k).filterMap λ(m:Nat)=>xs[((i:Int)+(m:Int)*1).toNat]?).toArray=((xs.toList.drop i).take k).toArray:=by
 have e:(λ(m:Nat)=>xs[((i:Int)+(m:Int)*1).toNat]?)=λm=>xs[i+m]?:=by
  funext m
  have:((i:Int)+(m:Int)*1).toNat=i+m:=by lia
  rw[this]
 rw[e];have:=pick_run xs i k;rw[List.filterMap_map]at this;have e2:((λx=>xs[x]?)∘λx=>i+x)=λm=>xs[i+m]?:=rfl;rw[e2]at this;rw[this]
theorem nA{t sl:Addr}{items:Array Value}{vl vu:Value}{lo hi:Option Int}{Q:Value->Shared->Prop}(ht:IsTup s.heap t items)(hs:s.heap.IsSliceOf sl vl vu .none)(pl:IsPart vl lo)(pu:IsPart vu hi)(hw:¬(cx items.size 0 lo=0/\cx items.size items.size hi=items.size))(h:Q (.ref s.heap.objs.size) { s with heap:=s.heap.push { cls:=.type "tuple",data:=.seq ((items.toList.drop (cx items.size 0 lo)).take (cx items.size items.size hi-cx items.size 0 lo)).toArray } })(hsz:items.size<=sizeLine):wpAny (model prog w) A (getItem (.ref t) (.ref sl)) Q E s:=by
 have Am:sizeOk (.seq ((items.toList.drop (cx items.size 0 lo)).take (cx items.size items.size hi-cx items.size 0 lo)).toArray):=by show((items.toList.drop (cx items.size 0 lo)).take (cx items.size items.size hi-cx items.size 0 lo)).toArray.size<=sizeLine;rw[List.size_toArray,List.length_take,List.length_drop,Array.length_toList];lia
 have hj:cx items.size items.size hi<=items.size:=Ir _ _ (Nat.le_refl _) hi;obtain⟨os,oN,M4,LH⟩:=id hs;have N9:s.TypeIs (.ref sl) "slice":=⟨os,oN,M4⟩;unfold getItem
 try with_reducible refine wpAny_holding ?_
 first|refine wpAny_bind (wpAny_pure ?_)|skip
 refine wpAny_bind (wpAny_sequenceKey ht.typeIs (by decide) ?_);refine wpAny_bind (wpAny_callSpecial?_slot (name:=Str.ofString "__getitem__") ht.typeIs PyProof.Rows.slot_tuple_getitem
  (wpAny_call_entry PyProof.Rows.slot_tuple_getitem ht.typeIs entry_tuple_getitem ?_ (args_tuple_getitem _ _)))
 show wpAny _ _ (Builtin.Tuple.tupleItemsOf (.ref t) >>= _) _ _ s;refine wpAny_bind (tupleItemsOf_ ht ?_);refine wpAny_bind (wpAny_typeOf N9 ?_);rw[if_pos (by decide)];refine wpAny_bind (iI hs pl pu ?_);have KY:¬((((cx items.size 0 lo:Nat):Int)==0&&(1:Int)==1&&(cx items.size items.size hi-cx items.size 0 lo)==items.size)=true):=by intro q;rw[Bool.and_eq_true,Bool.and_eq_true]at q;have q1:((cx items.size 0 lo:Nat):Int)=0:=eq_of_beq q.1.1;have q2:cx items.size items.size hi-cx items.size 0 lo=items.size:=eq_of_beq q.2;exact hw ⟨by lia,by lia⟩
 show wpAny _ _ (if(((cx items.size 0 lo:Nat):Int)==0&&(1:Int)==1&&(cx items.size items.size hi-cx items.size 0 lo)==items.size)=true then _ else _) _ _ s;rw[if_neg KY,DB]
 first
  |exact wpAny_bind (m:=Builtin.Tuple.tupleExact _) (wpAny_newObj_type (wpAny_pure ⟨_,rfl,wpAny_pure h⟩) Am)
  |exact wpAny_bind (m:=Builtin.Tuple.tupleExact _) (wpAny_newObj_type (wpAny_bind (wpAny_pure (wpAny_pure ⟨_,rfl,wpAny_pure h⟩))) Am)
  |exact wpAny_bind (wpAny_bind (m:=Builtin.Tuple.tupleExact _) (wpAny_newObj_type (wpAny_pure (wpAny_pure ⟨_,rfl,wpAny_pure h⟩)) Am))
  |exact wpAny_bind (wpAny_bind (m:=Builtin.Tuple.tupleExact _) (wpAny_newObj_type (wpAny_pure ⟨_,rfl,wpAny_pure h⟩) Am))
end
end HT
namespace L2
open PySem PySem.Spec PyProof.Rows
abbrev TO:=St->Hp->(Option Int->Hp->Prop)->Prop
def PO(X:Cx)(e:Option Expr)(t:TO):Prop :=
 ∀(pins:List (Addr×Obj))(s:Shared)(σ:St)(H:Hp)(Q:Option Int->Hp->Prop),Inv X pins σ H s->t σ H Q ->
  wpAny (model X.prog X.w) X.A (evalPart e X.env) (λu s'=>∃o H',Inv X pins σ H' s'/\IsPart u o/\Q o H') X.xe s
def FV:TO:=λ_ H Q=>Q none H
def LI(t:TE):TO:=λσ H Q=>t σ H λx H1=>∃i,x=.int i/\Q (some i) H1
section
variable{X:Cx}{e:Expr}{te:TE}{lo hi:Option Expr}{tl th:TO}{pos p2:Pos}
theorem qS:PO X none FV:=by intro pins s σ H Q I h;rw[evalPart_none];exact wpAny_pure ⟨none,H,I,.none,h⟩
theorem gI(h:PE X e te):PO X (some e) (LI te):=by intro pins s σ H Q I hw;rw[evalPart_some];refine av (h pins s σ H _ I hw) λu s1 ⟨x,H1,I1,r1,q1⟩=>?_;obtain⟨i,rfl,q⟩:=q1;obtain⟨t,rfl⟩:=r1;exact⟨some i,H1,I1,.int i t,q⟩
def LJ(X:Cx)(r:V->Option Int->Option Int->Hp->VK->Prop):Prop :=
 ∀(pins:List (Addr×Obj))(s:Shared)(σ:St)(H:Hp)(x:V)(v vl vu:Value)(lo hi:Option Int)(sl:Addr)(Q:VK),Inv X pins σ H s->RelV x v->s.heap.IsSliceOf sl vl vu .none->IsPart vl lo->IsPart vu hi->r x lo hi H Q ->
  ∃T id,typeLookup (.type T) "__getitem__"=pure (some (.builtin id))/\s.TypeIs v T/\wpAny (model X.prog X.w) X.A (getItem v (.ref sl)) (EP X pins σ Q) X.xe s
def Rj(r:V->Option Int->Option Int->Hp->VK->Prop)(te:TE)(tl th:TO):TE:=λσ H Q=>te σ H λx H1=>tl σ H1 λl H2=>th σ H2 λu H3=>r x l u H3 Q
theorem iJ{r:V->Option Int->Option Int->Hp->VK->Prop}(hr:LJ X r)(he:PE X e te)(hl:PO X lo tl)(hu:PO X hi th):PE X (.Subscript e (.Slice lo hi none p2) pos) (Rj r te tl th):=by
 intro pins s σ H Q I h;refine Subscript_ (av (he pins s σ H _ I h) λv s1 ⟨x,H1,I1,r1,q1⟩=>?_);refine wpAny_Slice (av (hl pins s1 σ H1 _ I1 q1) λvl s2 ⟨l,H2,I2,pl,q2⟩=>av (hu pins s2 σ H2 _ I2 q2) λvu s3 ⟨u,H3,I3,pu,q3⟩=>?_);rw[evalPart_none];refine wpAny_pure ?_;have I4:Inv X pins σ H3 { s3 with heap:=s3.heap.push { cls:=.type "slice",data:=.fields #[vl,vu,.none] } }:=I3.kept (t':=s3.toks) λb ob q=>Heap.get?_push_of_some _ q
 obtain⟨T,id,hT,ht,hg⟩:=hr pins { s3 with heap:=s3.heap.push { cls:=.type "slice",data:=.fields #[vl,vu,.none] } } σ H3 x v vl vu l u s3.heap.objs.size Q I4 r1 (Heap.IsSliceOf.new ..) pl pu q3;show wpAny (model X.prog X.w) X.A (subscriptTail e (.Slice lo hi none p2) v (.ref s3.heap.objs.size)) (EP X pins σ Q) X.xe { s3 with heap:=s3.heap.push { cls:=.type "slice",data:=.fields #[vl,vu,.none] } };exact tail_any (ops:=[.ref s3.heap.objs.size,v]) ht hT hg (by with_unfolding_all rfl)
def oX(xs:List V)(lo hi:Option Int):List V:=(xs.drop (HT.cx xs.length 0 lo)).take (HT.cx xs.length xs.length hi-HT.cx xs.length 0 lo)
theorem pP(xs:List V)(lo hi:Option Int):(oX xs lo hi).length<=xs.length:=by unfold oX;rw[List.length_take,List.length_drop];lia
def OA(K:PySem.W.Frag):V->Option Int->Option Int->Hp->VK->Prop:=λx lo hi H Q=>∃a xs,x=.ref a/\ao K H a xs /\
 ¬(HT.cx xs.length 0 lo=0/\HT.cx xs.length xs.length hi=xs.length)/\∀p,H p=none->Q (.ref p) (upd H p (.tup (oX xs lo hi)))
theorem Iu:LJ X (OA X.K):=by
 intro pins s σ H x v vl vu lo hi sl Q I rx hs pl pu h;obtain⟨a,xs,rfl,hx,hw,q⟩:=h;cases rx;obtain⟨aM,r,ht,hz⟩:=I.tuple hx;have hlen:aM.toArray.size=xs.length:=by rw[List.size_toArray];exact r.length.symm
 refine⟨"tuple",_,PyProof.Rows.slot_tuple_getitem.lookup,ht.typeIs,?_⟩;refine HT.nA ht hs pl pu (by rw[hlen];exact hw) ?_ (by rw[hlen];exact hz);rw[hlen];refine⟨.ref s.heap.objs.size,_,I.laid (t':=s.toks) (o:=.tup (oX xs lo hi)) (λb ob q=>Heap.get?_push_of_some _ q) (Nat.le_refl _) ?_,rfl,q _ (I.aq.fresh (Nat.le_refl _))⟩;exact⟨Nat.le_trans (pP xs lo hi) hz,_,(r.drop (HT.cx xs.length 0 lo)).take (HT.cx xs.length xs.length hi-HT.cx xs.length 0 lo),IsTup.new _ _⟩
end
def FW(n:Nat)(i:Int):Option Nat:=if 0<=i then(if i<n then some i.toNat else none)else if -(n:Int)<=i then some (i+n).toNat else none
def qB{α:Type}(xs:List α)(i:Int):Option α:=(FW xs.length i).bind λj=>xs[j]?
theorem An{n:Nat}{i:Int}{j:Nat}(h:FW n i=some j):seqIndex? i n=some j/\j<n/\-(n:Int)<=i/\i<n:=by
 unfold FW at h;by_cases h0:0<=i
 ·rw[if_pos h0]at h;by_cases h1:i<n
  ·rw[if_pos h1]at h;have e:i.toNat=j:=Option.some.inj h;exact⟨by rw[seqIndex_of h0 h1,e],by lia,by lia,h1⟩
  rw[if_neg h1]at h;cases h
 rw[if_neg h0]at h;by_cases h1:-(n:Int)<=i
 ·rw[if_pos h1]at h;have e:(i+n).toNat=j:=Option.some.inj h;exact⟨by rw[seqIndex_neg (by lia) h1,e],by lia,h1,by lia⟩
 rw[if_neg h1]at h;cases h
theorem Ao{α:Type}{xs:List α}{i:Int}{v:α}(h:qB xs i=some v):∃j,seqIndex? i xs.length=some j/\xs[j]?=some v/\j<xs.length/\-(xs.length:Int)<=i/\i<xs.length:=by
 unfold qB at h;cases e:FW xs.length i with
 |none=>rw[e]at h;cases h
 |some j =>
  rw[e]at h;obtain⟨h1,h2,h3,h4⟩:=An e;exact⟨j,h1,h,h2,h3,h4⟩
theorem bW{α:Type}{xs:List α}{j:Nat}{v:α}(h:xs[j]?=some v):qB xs (j:Int)=some v:=by
 have hj:j<xs.length:=(List.getElem?_eq_some_iff.mp h).1;have e:FW xs.length (j:Int)=some j:=by unfold FW;rw[if_pos (by lia),if_pos (by lia)];simp
 unfold qB;rw[e];exact h
theorem wx{α:Type}(xs:List α)(v:α):qB (xs++[v]) (-1)=some v:=by
 have hl:(xs++[v]).length=xs.length+1:=by simp
 have e:FW (xs++[v]).length (-1)=some xs.length:=by
  unfold FW;rw[hl,if_neg (by decide),if_pos (by lia)]
  congr 1
  lia
 unfold qB;rw[e];show(xs++[v])[xs.length]?=some v;simp
def FX(b:Expr):Prop:=∀o i,subscripted b false o i=operate [o,i] (getItem o i)
def LK(X:Cx)(r:R2):Prop :=
 ∀(value slice:Expr)(pins:List (Addr×Obj))(s:Shared)(σ:St)(H:Hp)(x y:V)(v u:Value)(Q:VK),Inv X pins σ H s->RelV x v->RelV y u->r x y H Q ->
  subscripted slice false v u=operate [v,u] (getItem v u)->wpAny (model X.prog X.w) X.A (subscriptTail value slice v u) (EP X pins σ Q) X.xe s
def QQ(X:Cx)(id:String)(r:V->List V->Hp->VK->Prop):Prop :=
 ∀(pins:List (Addr×Obj))(s:Shared)(σ:St)(H:Hp)(x:V)(xs:List V)(v:Value)(us:List Value)(Q:VK),Inv X pins σ H s->RelV x v->aW xs us->r x xs H Q ->
  wpAny (model X.prog X.w) X.A (call (.builtin id) (v::us)) (EP X pins σ Q) X.xe s
section
variable{X:Cx}{a b:Expr}{ta tb:TE}{pos:Pos}
theorem aN{r:R2}(hr:LK X r)(ha:PE X a ta)(hb:PE X b tb)(hs:FX b):PE X (.Subscript a b pos) (Ic r ta tb):=by intro pins s σ H Q I h;exact Subscript_ (Ig ha hb I h λv u s2 x y H2 I2 rx ry q=>hr a b pins s2 σ H2 x y v u Q I2 rx ry q (hs _ _))
def LL(K:PySem.W.Frag):R2:=λx y H Q=>∃p xs i v,x=.ref p/\y=.int i/\ag K H p xs/\qB xs i=some v/\Q v H
def LM(K:PySem.W.Frag):R2:=λx y H Q=>∃p xs i v,x=.ref p/\y=.int i/\ao K H p xs/\qB xs i=some v/\Q v H
theorem FY:LK X (LL X.K):=by
 intro value slice pins s σ H x y v u Q I rx ry h hs;obtain⟨p,xs,i,z,rfl,rfl,hq,he,q⟩:=h;cases rx;obtain⟨t,rfl⟩:=ry;obtain⟨aM,r,pl,hz⟩:=I.list hq;obtain⟨j,h1,h2,h3,h4,h5⟩:=Ao he;obtain⟨w,ew,sR⟩:=r.get h2;have hl:=r.length;have hn:=ur;have fin:EP X pins σ Q w s:=⟨z,H,I,sR,q⟩;by_cases h0:0<=i
 ·have hj:i.toNat=j:=by rw[seqIndex_of h0 h5]at h1;exact Option.some.inj h1
  exact item_listR pl.isList h0 (by lia) (by rw[hj];simpa using ew) fin hs
 have hj:(i+(aM.toArray.size:Int)).toNat=j:=by rw[seqIndex_neg (by lia) h4]at h1;rw[List.size_toArray,<-hl];exact Option.some.inj h1
 exact subscriptTail_builtinR (x:=w) pl.isList.typeIs slot_list_getitem.lookup
  (wpAny_getItem_list_neg (Q:=λr s'=>r=w/\EP X pins σ Q r s') pl.isList (by lia) (by rw[List.size_toArray]<;>lia) (by lia) (by rw[hj];simpa using ew) ⟨rfl,fin⟩) hs
theorem Iv:LK X (LM X.K):=by
 intro value slice pins s σ H x y v u Q I rx ry h hs;obtain⟨p,xs,i,z,rfl,rfl,hq,he,q⟩:=h;cases rx;obtain⟨t,rfl⟩:=ry;obtain⟨aM,r,pl,hz⟩:=I.tuple hq;obtain⟨j,h1,h2,h3,h4,h5⟩:=Ao he;obtain⟨w,ew,sR⟩:=r.get h2;have hl:=r.length;have hn:=ur;have fin:EP X pins σ Q w s:=⟨z,H,I,sR,q⟩;exact subscriptTail_builtinR (x:=w) pl.typeIs slot_tuple_getitem.lookup
  (getItem_tuple (j:=j) (Q:=λr s'=>r=w/\EP X pins σ Q r s') pl (by lia) (by lia) (by rw[List.size_toArray,<-hl];exact h1) (by simpa using ew) ⟨rfl,fin⟩) hs
theorem Inv.lst{pins:List (Addr×Obj)}{σ:St}{H:Hp}{s:Shared}{p:Addr}{xs:List V}(I:Inv X pins σ H s)(h:H p=some (.lst xs)):
  ∃(aM:List Value)(n:Nat),aW xs aM/\s.heap.get? p=some { cls:=.type "list",data:=.seq aM.toArray n }/\xs.length<=sizeLine:=by
 obtain⟨z,aM,n,r,e⟩:=I.aq p _ h;exact⟨aM,n,r,e,z⟩
theorem uv(lo hi:Option Int)(n:Nat):(sliceBounds lo hi none n).1=((HT.cx n 0 lo:Nat):Int)/\(sliceBounds lo hi none n).2.1=((HT.cx n n hi:Nat):Int)/\(sliceBounds lo hi none n).2.2=1:=by
 refine⟨?_,?_,rfl⟩
 ·cases lo with
  |none=>simp[sliceBounds,HT.cx]
  |some i =>
   simp only[sliceBounds,HT.cx,Option.getD_none,show(1:Int)>0 by decide,if_true];by_cases h:i<0
   ·simp only[h,if_true]<;>lia
   simp only[h,if_false]<;>lia
 cases hi with
 |none=>simp[sliceBounds,HT.cx]
 |some i =>
  simp only[sliceBounds,HT.cx,Option.getD_none,show(1:Int)>0 by decide,if_true];by_cases h:i<0
  ·simp only[h,if_true]<;>lia
  simp only[h,if_false]<;>lia
theorem sS(aM:List Value)(lo hi:Option Int):slicePick aM.toArray lo hi none=((aM.drop (HT.cx aM.length 0 lo)).take (HT.cx aM.length aM.length hi-HT.cx aM.length 0 lo)).toArray:=by obtain⟨h1,h2,h3⟩:=uv lo hi aM.toArray.size;unfold slicePick;rw[h1,h2,h3];simp only[sliceRange_one,pick_run,List.size_toArray]<;>rfl
def LN(K:PySem.W.Frag):V->Option Int->Option Int->Hp->VK->Prop:=λx lo hi H Q=>∃a xs,x=.ref a/\ag K H a xs/\∀p,H p=none->Q (.ref p) (upd H p (.lst (oX xs lo hi)))
theorem FZ:LJ X (LN X.K):=by intro pins s σ H x v vl vu lo hi sl Q I rx hs pl pu h;obtain⟨a,xs,rfl,hx,q⟩:=h;cases rx;obtain⟨aM,r,ht,hz⟩:=I.list hx;have hlen:=r.length;refine⟨"list",_,slot_list_getitem.lookup,ht.isList.typeIs,?_⟩;refine wpAny_getItem_list_slice ht.isList hs pl pu .none (by simp) ?_ (by rw[List.size_toArray]<;>lia);rw[sS,<-hlen];refine⟨.ref s.heap.objs.size,_,I.laid (t':=s.toks) (o:=.lst (oX xs lo hi)) (λb ob q=>Heap.get?_push_of_some _ q) (Nat.le_refl _) ?_,rfl,q _ (I.aq.fresh (Nat.le_refl _))⟩;exact⟨Nat.le_trans (pP xs lo hi) hz,_,0,(r.drop (HT.cx xs.length 0 lo)).take (HT.cx xs.length xs.length hi-HT.cx xs.length 0 lo),Heap.get?_push_size _ rfl⟩
def jd:V->Bool
 |.ba=>true
 |.bl _=>true
 |.int _=>true
 |.str _=>true
 |_=>false
def zD:V->V->Bool
 |.ba,.ba=>true
 |.bl a,.bl b=>a==b
 |.bl a,.int b=>(if a then 1 else 0)==b
 |.int a,.bl b=>a==(if b then 1 else 0)
 |.int a,.int b=>a==b
 |.str a,.str b=>a==b
 |_,_=>false
theorem uw{A:Around}{s:Shared}{y x:V}{u v:Value}(ry:RelV y u)(rx:RelV x v)(fy:jd y=true)(fx:jd x=true):SeqAt.EqAt A s u v (zD y x):=by
 cases y with
 |ba =>
  cases ry;cases x with
  |ba=>cases rx;exact SeqAt.EqAt.same _
  |bl b=>cases rx;exact SeqAt.EqAt.none_bool b
  |int b=>obtain⟨t,rfl⟩:=rx;exact SeqAt.EqAt.none_int b t
  |str b=>obtain⟨t,rfl⟩:=rx;exact SeqAt.EqAt.none_str b t
  |_=>exact absurd (show false=true from fx) Bool.false_ne_true
 |bl a =>
  cases ry;cases x with
  |ba=>cases rx;exact SeqAt.EqAt.bool_none a
  |bl b=>cases rx;exact SeqAt.EqAt.bool_bool a b
  |int b=>obtain⟨t,rfl⟩:=rx;exact SeqAt.EqAt.bool_int a b t
  |str b=>obtain⟨t,rfl⟩:=rx;exact SeqAt.EqAt.bool_str a b t
  |_=>exact absurd (show false=true from fx) Bool.false_ne_true
 |int a =>
  obtain⟨t',rfl⟩:=ry;cases x with
  |ba=>cases rx;exact SeqAt.EqAt.int_none a t'
  |bl b=>cases rx;exact SeqAt.EqAt.int_bool a t' b
  |int b=>obtain⟨t,rfl⟩:=rx;exact SeqAt.EqAt.int_int a t' b t
  |str b=>obtain⟨t,rfl⟩:=rx;exact SeqAt.EqAt.int_str a t' b t
  |_=>exact absurd (show false=true from fx) Bool.false_ne_true
 |str a =>
  obtain⟨t',rfl⟩:=ry;cases x with
  |ba=>cases rx;exact SeqAt.EqAt.str_none a t'
  |bl b=>cases rx;exact SeqAt.EqAt.str_bool a t' b
  |int b=>obtain⟨t,rfl⟩:=rx;exact SeqAt.EqAt.str_int a t' b t
  |str b=>obtain⟨t,rfl⟩:=rx;exact SeqAt.EqAt.str_str a t' b t
  |_=>exact absurd (show false=true from fx) Bool.false_ne_true
 |_=>exact absurd (show false=true from fy) Bool.false_ne_true
def zE(x:V)(u:Value):Bool:=match u with
 |.none=>zD .ba x
 |.bool b=>zD (.bl b) x
 |.int i _=>zD (.int i) x
 |.str z _=>zD (.str z) x
 |_=>false
theorem DC{x y:V}{u:Value}(r:RelV y u)(f:jd y=true):zE x u=zD y x:=by
 cases y with
 |ba=>cases r;rfl
 |bl b=>cases r;rfl
 |int i=>obtain⟨t,rfl⟩:=r;rfl
 |str z=>obtain⟨t,rfl⟩:=r;rfl
 |_=>exact absurd (show false=true from f) Bool.false_ne_true
theorem nB{x:V}:∀{xs:List V}{us:List Value},aW xs us->xs.all jd=true->us.any (zE x)=xs.any λy=>zD y x
 |_,_,.nil,_=>rfl
 |y::xs,u::us,.cons r t,f=>by rw[List.all_cons,Bool.and_eq_true]at f;rw[List.any_cons,List.any_cons,DC r f.1,nB t f.2]
theorem jw{A:Around}{s:Shared}{x:V}{v:Value}(rx:RelV x v)(fx:jd x=true):∀{xs:List V}{us:List Value},aW xs us->xs.all jd=true->∀u∈us,SeqAt.EqAt A s u v (zE x u)
 |_,_,.nil,_=>λu hu=>by cases hu
 |y::xs,u::us,.cons r t,f=>λu' hu=>by
  rw[List.all_cons,Bool.and_eq_true]at f;rcases List.mem_cons.mp hu with rfl|hu
  ·rw[DC r f.1];exact uw r rx f.1 fx
  exact jw rx fx t f.2 u' hu
def Ck(x:V)(xs:List V):Bool:=xs.any λy=>zD y x
def KZ(K:PySem.W.Frag)(neg:Bool):R2:=λx y H Q=>∃p xs,y=.ref p/\(ag K H p xs\/ao K H p xs)/\jd x=true/\xs.all jd=true/\Q (.bl (if neg then !Ck x xs else Ck x xs)) H
theorem uE:ij X (compareOp .In) (KZ X.K false):=by
 intro pins s σ H x y v u Q I rx ry h;obtain⟨p,xs,rfl,hq,fx,fs,q⟩:=h;cases ry;rcases hq with hq|hq
 ·obtain⟨aM,r,pl,hz⟩:=I.list hq;refine SeqAt.in_listAt (zE x) pl.isList (λw hw=>jw rx fx r fs w (by simpa using hw)) ⟨.bl _,H,I,rfl,?_⟩;rw[show aM.toArray.any (zE x)=aM.any (zE x) by simp,nB r fs];exact q
 obtain⟨aM,r,pl,hz⟩:=I.tuple hq;refine SeqAt.in_tupleAt (zE x) pl (λw hw=>jw rx fx r fs w (by simpa using hw)) ⟨.bl _,H,I,rfl,?_⟩;rw[show aM.toArray.any (zE x)=aM.any (zE x) by simp,nB r fs];exact q
theorem ux:ij X (compareOp .NotIn) (KZ X.K true):=by
 intro pins s σ H x y v u Q I rx ry h;obtain⟨p,xs,rfl,hq,fx,fs,q⟩:=h;cases ry;rcases hq with hq|hq
 ·obtain⟨aM,r,pl,hz⟩:=I.list hq;refine SeqAt.notIn_listAt (zE x) pl.isList (λw hw=>jw rx fx r fs w (by simpa using hw)) ⟨.bl _,H,I,rfl,?_⟩;rw[show aM.toArray.any (zE x)=aM.any (zE x) by simp,nB r fs];exact q
 obtain⟨aM,r,pl,hz⟩:=I.tuple hq;refine SeqAt.notIn_tupleAt (zE x) pl (λw hw=>jw rx fx r fs w (by simpa using hw)) ⟨.bl _,H,I,rfl,?_⟩;rw[show aM.toArray.any (zE x)=aM.any (zE x) by simp,nB r fs];exact q
theorem uy:bY X (.builtin "len") (λxs H Q=>∃p ys,xs=[.ref p]/\(ag X.K H p ys\/ao X.K H p ys)/\Q (.int ys.length) H):=by
 intro pins s σ H xs us Q I r h;obtain⟨p,ys,rfl,hq,q⟩:=h;obtain⟨u,rfl,rx⟩:=vals1 r;cases rx;have hn:=ur;rcases hq with hq|hq
 ·obtain⟨aM,r',pl,hz⟩:=I.list hq;have hlen:=r'.length;exact Calls.call_len_list pl.isList (by simp only[List.size_toArray]<;>lia) ⟨.int ys.length,H,I.tok _,⟨s.toks+1,by rw[List.size_toArray,hlen]⟩,q⟩
 obtain⟨aM,r',pl,hz⟩:=I.tuple hq;have hlen:=r'.length;exact len_tuple pl (by simp only[List.size_toArray]<;>lia) ⟨.int ys.length,H,I.tok _,⟨s.toks+1,by rw[List.size_toArray,hlen]⟩,q⟩
theorem uz:bY X (.builtin "len") (λxs H Q=>∃z,xs=[.str z]/\z.length<=sizeLine/\Q (.int z.length) H):=by intro pins s σ H xs us Q I r h;obtain⟨z,rfl,hz,q⟩:=h;obtain⟨u,rfl,t,rfl⟩:=vals1 r;have hn:=ur;exact len_str (by lia) ⟨.int z.length,H,I.tok _,⟨_,rfl⟩,q⟩
theorem u5:bY X (.type "list") (λxs H Q=>∃p ys,xs=[.ref p]/\(ag X.K H p ys\/ao X.K H p ys)/\∀l,H l=none->Q (.ref l) (upd H l (.lst ys))):=by
 intro pins s σ H xs us Q I r h;obtain⟨p,ys,rfl,hq,q⟩:=h;obtain⟨u,rfl,rx⟩:=vals1 r;cases rx;have fin:∀(aM:List Value),aW ys aM->ys.length<=sizeLine->∀(h':Heap)(c':Nat),(∀b o',s.heap.get? b=some o'->h'.get? b=some o') ->
   h'.get? s.heap.objs.size=some { cls:=.type "list",dict:=none,data:=.seq aM.toArray c',slots:=#[] }->EP X pins σ Q (.ref s.heap.objs.size) { s with heap:=h' }:=λaM r' hz h' c' kp e =>
  ⟨.ref s.heap.objs.size,_,I.laid (t':=s.toks) kp (Nat.le_refl _) (show ax X.prog X.w _ h' _ (.lst ys)from⟨hz,aM,c',r',e⟩),rfl,q _ (I.aq.fresh (Nat.le_refl _))⟩
 rcases hq with hq|hq
 ·obtain⟨aM,r',pl,hz⟩:=I.list hq;have hlen:=r'.length;obtain⟨o,ho,hc,n,hd⟩:=pl.isList;exact call_list_seq p (.inl rfl) ho hc hd (λh' c' kp e=>fin aM r' hz h' c' kp e) (by simp only[List.size_toArray]<;>lia)
 obtain⟨aM,r',pl,hz⟩:=I.tuple hq;have hlen:=r'.length;obtain⟨o,ho,hc,n,hd⟩:=pl;exact call_list_seq p (.inr rfl) ho hc hd (λh' c' kp e=>fin aM r' hz h' c' kp e) (by simp only[List.size_toArray]<;>lia)
theorem sT:bY X (.type "tuple") (λxs H Q=>∃p ys,xs=[.ref p]/\((ag X.K H p ys/\∀l,H l=none->Q (.ref l) (upd H l (.tup ys)))\/(ao X.K H p ys/\Q (.ref p) H))):=by
 intro pins s σ H xs us Q I r h;obtain⟨p,ys,rfl,h⟩:=h;obtain⟨u,rfl,rx⟩:=vals1 r;cases rx;rcases h with⟨hq,q⟩|⟨hq,q⟩
 ·obtain⟨aM,r',pl,hz⟩:=I.list hq;have hlen:=r'.length;refine call_tuple_list pl.isList (λh' kp=>?_) (by simp only[List.size_toArray]<;>lia);have I1:Inv X pins σ H { s with heap:=h' }:=I.kept (t':=s.toks) kp;have I2:Inv X pins σ (upd H h'.objs.size (.tup ys)) { s with heap:=h'.push { cls:=.type "tuple",data:=.seq aM.toArray } } :=
   I1.laid (t':=s.toks) (λb o e=>Heap.get?_push_of_some _ e) (Nat.le_refl _) (show ax X.prog X.w _ _ _ (.tup ys)from⟨hz,aM,r',IsTup.new _ _⟩)
  exact⟨.ref h'.objs.size,_,I2,rfl,q _ (I1.aq.fresh (Nat.le_refl _))⟩
 obtain⟨aM,r',pl,hz⟩:=I.tuple hq;exact call_tuple_same pl ⟨.ref p,H,I,rfl,q⟩
def QR(K:PySem.W.Frag)(T:String)(x:V)(H:Hp):Prop:=match x with
 |.str _=>T="str"
 |.int _=>T="int"
 |.ref p=>(T="list"/\∃xs,ag K H p xs)\/(T="tuple"/\∃o,K.lookup p=some o/\o.cls=.type "tuple"/\o.dict=none) \/
   (T="dict"/\((∃kvs,H p=some (.dK kvs))\/∃kvs,H p=some (.dT kvs)))\/(T="set"/\∃S n,H p=some (.set S n))
 |_=>False
theorem Iw{pins:List (Addr×Obj)}{σ:St}{H:Hp}{s:Shared}{T:String}{x:V}{v:Value}(I:Inv X pins σ H s)(r:RelV x v)(ty:QR X.K T x H):
  s.TypeIs v T/\∀a,v=.ref a->∃ob,s.heap.get? a=some ob/\ob.dict=none:=by
 cases x with
 |str z =>
  obtain⟨t,rfl⟩:=r;cases(show T="str"from ty);exact⟨typeIs_str s z t,λ_ e=>nomatch e⟩
 |int i =>
  obtain⟨t,rfl⟩:=r;cases(show T="int"from ty);exact⟨typeIs_int s i t,λ_ e=>nomatch e⟩
 |ref p =>
  cases r;rcases ty with⟨rfl,xs,hq⟩|⟨rfl,o,hk,hc,hd⟩|⟨rfl,hk⟩|⟨rfl,S,n,hk⟩
  ·obtain⟨aM,_,pl,_⟩:=I.list hq;refine⟨pl.isList.typeIs,λa e=>?_⟩;cases e;obtain⟨o,n,e,c,hd,_⟩:=pl;exact⟨o,e,hd⟩
  ·refine⟨⟨o,I.pJ p o hk,hc⟩,λa e=>?_⟩;cases e;exact⟨o,I.pJ _ o hk,hd⟩
  ·have z:∃o,s.heap.get? p=some o/\o.ExactDict:=by
    rcases hk with⟨kvs,hk⟩|⟨kvs,hk⟩
    ·obtain⟨_,_,_,_,o,_,_,e,ex,_⟩:=I.aq p _ hk;exact⟨o,e,ex⟩
    obtain⟨_,_,_,_,o,_,_,e,ex,_⟩:=I.aq p _ hk;exact⟨o,e,ex⟩
   obtain⟨o,e,ex⟩:=z;refine⟨⟨o,e,ex.1⟩,λa e2=>?_⟩;cases e2;exact⟨o,e,ex.2.1⟩
  obtain⟨o,_,_,_,e,ex,_⟩:=I.aq p _ hk;refine⟨⟨o,e,ex.1⟩,λa e2=>?_⟩;cases e2;exact⟨o,e,ex.2.1⟩
 |_=>exact False.elim ty
def QS(K:PySem.W.Frag)(T:String)(r:V->List V->Hp->VK->Prop)(to:TE)(t:TA):TE:=λσ H Q=>to σ H λx H1=>QR K T x H1/\t σ H1 λxs H2=>r x xs H2 Q
variable{o e:Expr}{es:List Expr}{to:TE}{t:TA}{name:Str}{apos dz:Pos}{T id:String}{r:V->List V->Hp->VK->Prop}
theorem LO(pa:PlainAttrs T)(slot:Slot T name id)(OB:typeOf (.builtin id)=pure (.type "method_descriptor"))(hm:QQ X id r)(ho:PE X o to)(ha:PA X (e::es) t)(DD:attributeBase o name X.env (eval o X.env)=eval o X.env:=by rfl)(Iy:((backTo dz (starEach (e::es) X.env)).all (λx=>!x.1)&&(backToKw dz (keywordEach [] X.env)).all (λx=>x.1.isSome)
   && decide ((e::es).length+([]:List Keyword).length+(if([]:List Keyword).isEmpty then 0 else 1)<30))=true:=by rfl)(DE:(apos.endLine==dz.line)=true:=by rfl)(hs:starEach (e::es) X.env=(false,eval e X.env)::starEach es X.env:=by rfl)(zF:(backTo dz (starEach es X.env)).any (·.1)=false:=by rfl):
  PE X (.Call (.Attribute o name apos) (e::es) [] dz) (QS X.K T r to t):=by
 intro pins s σ H Q I h;refine wpAny_Call_method_late DD Iy DE rfl (av (ho pins s σ H _ I h) λv s1 ⟨x,H1,I1,r1,ty,q1⟩=>?_);obtain⟨h1,h2⟩:=Iw I1 r1 ty;refine⟨T,id,pa,slot,OB,h1,h2,?_⟩;have hA:=ha dz pins s1 σ H1 _ I1 q1;rw[hs]at hA ⊢;refine Calls.callWith_builtin (by show(false||(backTo dz (starEach es X.env)).any (·.1))=false;rw[zF]<;>rfl) (Calls.evalArgs_plain ?_);exact av hA λus s2 ⟨vs,H2,I2,r2,q2⟩=>hm pins s2 σ H2 x vs v us Q I2 r1 r2 q2
end
def QT(X:Cx)(id:String)(r:V->List V->Hp->VK->Prop):Prop :=
 ∀(pins:List (Addr×Obj))(s:Shared)(σ:St)(H:Hp)(x:V)(xs:List V)(v:Value)(us:List Value)(Q:VK),Inv X pins σ H s->RelV x v->aW xs us->r x xs H Q ->
  wpAny (model X.prog X.w) X.A (call (.builtin id) (v::us)) (EP X pins σ Q) X.xe s
theorem aW.one:∀{x:V}{us:List Value},aW [x] us->∃u,us=[u]/\RelV x u
 |_,_,.cons r .nil=>⟨_,rfl,r⟩
theorem aW.two:∀{x y:V}{us:List Value},aW [x,y] us->∃u v,us=[u,v]/\RelV x u/\RelV y v
 |_,_,_,.cons r (.cons q .nil)=>⟨_,_,rfl,r,q⟩
theorem aW.eraseIdx:∀{xs:List V}{us:List Value}(i:Nat),aW xs us->aW (xs.eraseIdx i) (us.eraseIdx i)
 |_,_,_,.nil=>.nil
 |_,_,0,.cons _ t=>t
 |_,_,i+1,.cons r t=>.cons r (aW.eraseIdx i t)
theorem aW.rep{xs:List V}{us:List Value}(h:aW xs us):∀k:Nat,aW (List.replicate k xs).flatten (List.replicate k us).flatten
 |0=>.nil
 |k+1=>by rw[List.replicate_succ,List.replicate_succ,List.flatten_cons,List.flatten_cons];exact aW.append h (aW.rep h k)
theorem uF{α:Type}:∀(l:List α)(i:Nat),(l.eraseIdx i).length<=l.length
 |[],_=>Nat.le_refl _
 |_::_,0=>Nat.le_succ _
 |_::r,i+1=>Nat.succ_le_succ (uF r i)
theorem foldl_rep(aM:List Value):∀(k:Nat)(acc:List Value),
  List.foldl (λx1 x2=>x1++x2) acc.toArray (List.replicate k aM.toArray)=(acc++(List.replicate k aM).flatten).toArray
 |0,acc=>by simp
 |k+1,acc=>by
  have e:acc.toArray++aM.toArray=(acc++aM).toArray:=by simp
  have e2:(acc++aM)++(List.replicate k aM).flatten=acc++(List.replicate (k+1) aM).flatten:=by rw[List.replicate_succ,List.flatten_cons,List.append_assoc]
  rw[<-e2,<-foldl_rep aM k (acc++aM),<-e,List.replicate_succ,List.foldl_cons]
section
variable{X:Cx}{pins:List (Addr×Obj)}{σ:St}{H:Hp}{s:Shared}{l b:Addr}{xs ys zs:List V}
theorem Inv.LP{aM its':List Value}{n:Nat}{f:Array Value->Array Value}{t':Nat}(I:Inv X pins σ H s)(hH:H l=some (.lst xs))(e:s.heap.get? l=some { cls:=.type "list",data:=.seq aM.toArray n })(hf:f aM.toArray=its'.toArray)(hv:aW ys its')(hz:ys.length<=sizeLine):
  Inv X pins σ (upd H l (.lst ys)) { s with heap:=s.heap.update l (Obj.mapSeq f),toks:=t' }:=by
 have q:=PySem.IsL.update e f;rw[hf]at q;refine I.write (x:=l) (e:=l) (by rw[hH];exact trivial) (.inl rfl) (λb' u hb hu=>(Heap.get?_update_other s.heap (Obj.mapSeq f) (Ne.symm hb)).trans hu) ⟨_,q⟩ ?_;exact⟨hz,its',_,hv,q⟩
theorem Inv.LQ{aM:List Value}{t':Nat}(I:Inv X pins σ H s)(hv:aW ys aM)(hz:ys.length<=sizeLine):
  Inv X pins σ (upd H s.heap.objs.size (.lst ys)) { s with heap:=s.heap.push { cls:=.type "list",data:=.seq aM.toArray },toks:=t' } :=
 I.laid (λ_ _ q=>Heap.get?_push_of_some _ q) (Nat.le_refl _) ⟨hz,aM,0,hv,Heap.get?_push_size _ rfl⟩
theorem Inv.fresh(I:Inv X pins σ H s):H s.heap.objs.size=none:=I.aq.fresh (Nat.le_refl _)
theorem Inv.Iz(I:Inv X pins σ H s)(hH:H l=some (.lst xs)):xs.length<=sizeLine/\∃(aM:List Value)(n:Nat),aW xs aM/\xs.length=aM.length/\s.heap.get? l=some { cls:=.type "list",data:=.seq aM.toArray n }:=by obtain⟨z,aM,n,r,e⟩:=I.aq l _ hH;exact⟨z,aM,n,r,r.length,e⟩
theorem DF{n:Nat}(h:n<=sizeLine):Builtin.List.listTooLong n=false:=by unfold Builtin.List.listTooLong;exact decide_eq_false (by lia)
end
section
variable{X:Cx}
def Fb:V->List V->Hp->VK->Prop:=λx vs H Q=>∃l xs y,x=.ref l/\vs=[y]/\H l=some (.lst xs)/\xs.length<sizeLine/\Q .ba (upd H l (.lst (xs++[y])))
theorem dY:QT X "list.append" Fb:=by intro pins s σ H x vs v us Q I rx rv h;obtain⟨l,xs,y,rfl,rfl,hH,hz,q⟩:=h;cases rx;obtain⟨u,rfl,ru⟩:=rv.one;obtain⟨z,aM,n,r,hl,e⟩:=I.Iz hH;refine call_meets F.slot_list_append ⟨_,e,rfl⟩ F.entry_list_append (F.args_list_append_2 _ _) (PySem.list_append l aM.toArray n u (by rw[List.size_toArray];lia)) ⟨e,?_⟩;refine⟨.ba,_,I.LP (its':=aM++[u]) hH e (by simp) (r.append (.cons ru .nil)) ?_,rfl,q⟩;rw[List.length_append,List.length_singleton];lia
def JA:V->List V->Hp->VK->Prop:=λx vs H Q=>∃l xs i k y,x=.ref l/\vs=[.int i]/\H l=some (.lst xs)/\-(2 ^ 63)<=i/\i<2 ^ 63/\seqIndex? i xs.length=some k/\xs[k]?=some y/\Q y (upd H l (.lst (xs.eraseIdx k)))
theorem DG:QT X "list.pop" JA:=by
 intro pins s σ H x vs v us Q I rx rv h;obtain⟨l,xs,i,k,y,rfl,rfl,hH,h1,h2,hk,hy,q⟩:=h;cases rx;obtain⟨u,rfl,ru⟩:=rv.one;obtain⟨t,rfl⟩:=ru;obtain⟨z,aM,n,r,hl,e⟩:=I.Iz hH;obtain⟨w,hw,sR⟩:=r.get hy;refine call_meets F.slot_list_pop ⟨_,e,rfl⟩ F.entry_list_pop (F.args_list_pop_2 _ _)
  (MeetsSeq.list_pop_at l aM.toArray n i t k w (fitsIndex_both h1 h2) (by rw[List.size_toArray,<-hl];exact hk) (by rw[<-Array.getElem?_toList];exact hw) (by rw[List.size_toArray];lia)) ⟨e,?_⟩
 refine⟨y,_,I.LP (its':=aM.eraseIdx k) hH e ?_ (r.eraseIdx k) ?_,sR,q⟩
 ·show aM.toArray.eraseIdxIfInBounds k=(aM.eraseIdx k).toArray;rw[List.eraseIdxIfInBounds_toArray]
 have:=uF xs k;lia
def OC:R2:=λx y H Q=>∃l k xs,x=.ref l/\y=.int k/\H l=some (.lst xs)/\-(2 ^ 63)<=k/\k<2 ^ 63/\xs.length*k.toNat<=sizeLine /\
 ∀p,H p=none->Q (.ref p) (upd H p (.lst (List.replicate k.toNat xs).flatten))
theorem len_rep{α:Type}(xs:List α)(k:Nat):(List.replicate k xs).flatten.length=k*xs.length:=by
 induction k with
 |zero=>simp
 |succ k ih=>rw[List.replicate_succ,List.flatten_cons,List.length_append,ih,Nat.succ_mul,Nat.add_comm]
theorem JB:ij X (binaryOp .Mult) OC:=by
 intro pins s σ H x y v u Q I rx ry h;obtain⟨l,k,xs,rfl,rfl,hH,h1,h2,hz,q⟩:=h;cases rx;obtain⟨t,rfl⟩:=ry;obtain⟨z,aM,n,r,hl,e⟩:=I.Iz hH;have hlen:aM.toArray.size*k.toNat<=sizeLine:=by rw[List.size_toArray,<-hl];exact hz
 have OD:¬aM.toArray.size*k.toNat>(2 ^ 63-1)/8:=by
  have:(sizeLine:Nat)<=(2 ^ 63-1)/8:=by decide
  lia
 have OE:¬(!Builtin.List.listFitsIndex k)=true:=by rw[fitsIndex_both h1 h2];exact Bool.false_ne_true
 have LR:¬Builtin.List.listTooLong (aM.toArray.size*k.toNat)=true:=by rw[DF hlen];exact Bool.false_ne_true
 have qC:List.foldl (λx1 x2=>x1++x2) #[] (List.replicate (if aM.toArray.isEmpty=true then 0 else k.toNat) aM.toArray)=(List.replicate k.toNat aM).flatten.toArray:=by
  have f0:∀m:Nat,List.foldl (λx1 x2=>x1++x2) #[] (List.replicate m aM.toArray)=(List.replicate m aM).flatten.toArray:=λm=>by have:=foldl_rep aM m [];rw[List.nil_append]at this;exact this
  rw[f0];cases aM with
  |nil=>simp
  |cons a r'=>rw[if_neg (by simp)]
 refine wpAny_binaryOp_repeat_ref (T:="list") (U:="int") (by decide) ⟨_,e,rfl⟩ (λs'=>typeIs_int s' k t) noFill_list_mul F.fills_int_mul F.slot_int_rmul repeat_list F.slot_int_index.lookup
  (call_meets F.slot_int_rmul (typeIs_int s k t) F.entry_int_rmul (F.args_int_rmul_2 _ _) (int___rmul___int_list k t l aM.toArray n)
   ⟨e,rfl,⟨_,e,rfl⟩,call_meets F.slot_list_mul ⟨_,e,rfl⟩ F.entry_list_mul (F.args_list_mul_2 _ _) (AutoListH.list___mul___list_int_3 l aM.toArray n k t OE OD LR) ⟨e,?_⟩⟩)
 rw[qC];exact⟨.ref _,_,I.LQ (t':=s.toks) (r.rep k.toNat) (by rw[len_rep,Nat.mul_comm];exact hz),rfl,q _ I.fresh⟩
end
section
variable{prog:Program}{w:World}{A:Around}{E:Value->Shared->Prop}{s:Shared}
end
section
variable{X:Cx}
end
end L2
namespace Att
open PySem PySem.W PySem.Calls PyProof.Rows
theorem qD{P:Params}{h:Heap}:∀(ns:List Int)(vs:List Value),WellAll P h vs (ns.map WData.int)->IntsAre vs ns:=by
 intro ns
 induction ns with
 |nil =>
  intro vs w;rw[List.map_nil]at w;cases w;exact .nil
 |cons n ns ih =>
  intro vs w;rw[List.map_cons]at w;cases w with
  |cons a b =>
   cases a;exact .cons _ _ (ih _ b)
theorem Ba{l:OpenLaw}{n:Nat}(hn:l.most=some n){P:Params}{h:Heap}{args:List WData}{vals:List Value}(Fc:l.row.toRowW.claim.pre args=true)(Ka:WellAll P h vals args):
  ∃a vs ns,vals=[Value.ref a]/\args=[WData.list (ns.map WData.int)]/\h.get? a=some { cls:=.type "list",data:=.seq vs.toArray }/\IntsAre vs ns/\ns.length<=n:=by
 have Rk:WShape.hasAll [] args [.list .int]=true:=(pre_splitW Fc).1;have hc:l.pre.holds [] { args:=args }=true:=(pre_splitW Fc).2;obtain⟨d,r,rfl,h1,h2⟩:=hasAllW_cons Rk;obtain rfl:=hasAllW_nil h2;obtain⟨xs,rfl,h3⟩:=hasW_list h1;obtain⟨ns,rfl⟩:=items_int h3;have hlen:ns.length<=n:=by
  unfold OpenLaw.pre at hc;have h4:(WTm.not (.lt (.lit (.int (n:Int))) (.len (.arg 0)))).holds [] { args:=[.list (ns.map .int)] }=true:=by have h4:=(holds_andW hc).1;rw[hn]at h4;exact h4
  have h5:=condW_of h4 (w_not (w_lt w_lit (w_len_list (w_arg rfl))));rw[List.length_map]at h5;refine Nat.le_of_not_lt λq=>?_;have q':(n:Int)<((ns.length:Nat):Int):=by lia
  first
   | (rw[decide_eq_true q']at h5;exact absurd h5 (by decide))
   | (simp at h5;lia)
 cases Ka with
 |cons w1 w2 =>
  cases w2;cases w1 with
  |list ho Bb=>exact⟨_,_,ns,rfl,rfl,ho,qD ns _ Bb,hlen⟩
theorem Bc(l:OpenLaw)(args:List WData):l.row.toRowW.claim.post args (.bool true) args=true :=
 postW_of (r:=l.row.toRowW) (X:=(true==true))
  (show WShape.has [] (.bool true) .bool=true by first|rfl|decide|simp[WShape.has,WShape.arms,WShape.armsAll])
  (show(WTm.eq .res (.lit (.bool true))).value [] { args:=args,res:=some (.bool true),after:=args }=some (.bool (true==true))from w_eq_bool (w_res rfl) w_lit) rfl
theorem wy{l:OpenLaw}{n:Nat}{q:Program}{loose:List Str}{XP:(Str->Option Value)->Heap->Prop}{YP:World->Heap->Prop}{d:DefRec}(hn:l.most=some n)(LS:d.params.defaults=[])(call:∀(w:World)(s₀ s₁:Shared)(mg mb:Str->Option Value)(fa:Addr)(o:Obj)(pm cd doc:Value)(a:Addr)(vs:List Value)(ns:List Int),
   Ground q loose [] XP w s₀ mg mb s₁.heap->YP w s₁.heap ->
   s₁.heap.get? fa=some o->o.data=.func (docDef d.name d.params d.body d.scope pm cd doc)->s₁.heap.CodeRec cd d.name->mg d.name=some (.ref fa) ->
   s₁.heap.get? a=some { cls:=.type "list",data:=.seq vs.toArray }->IntsAre vs ns->ns.length<=n->s₁.gens=#[] ->
   codeAny (model l.prog w) callerA (.call (.ref fa) ⟨[.ref a],[]⟩) (λr s'=>r=.ok (.ret (.bool true))/\OldK s₁.heap s'.heap/\s'.os=s₁.os/\AllBare s'.gens) s₁):
  WalkO q loose XP YP l.row.toRowW d [] (λf vs=>PySem.call f vs):=by
 intro w s₀ s₁ mg mb G Y fa o pm cd doc dV kV ho hd wR hD JC hg args vals as Fc Rm UX Ka M5;obtain rfl:dV=.none:=Dflts.none hD LS;obtain rfl:kV=.none:=Dflts.noKw hD;obtain⟨a,vs,ns,rfl,rfl,JD,hints,hlen⟩:=Ba hn Fc Ka;refine enter_call (codeAny_mono (call w s₀ s₁ mg mb fa o pm cd doc a vs ns G Y ho (fd_plain hd) wR JC JD hints hlen hg) λr s' hq=>?_);obtain⟨rfl,h2,h3,h4⟩:=hq;exact⟨.inl ⟨.bool true,.bool true,[],rfl,λ_=>rfl,.bool true,Bc l _,λ_=>⟨List.Pairwise.nil,λ_ hm=>(nomatch hm)⟩⟩,h2,h3,h4⟩
section
variable{prog:Program}{w:World}{A:Around}{E:Value->Shared->Prop}{s:Shared}{K:Frag}
end
end Att
namespace L2
open PySem PySem.Spec PyProof.Rows
theorem uG:∀{vs:List Value}{ns:List Int},IntsAre vs ns->aW (ns.map V.int) vs
 |_,_,.nil=>.nil
 |_,_,.cons n t h=>.cons ⟨t,rfl⟩ (uG h)
def JE(H:Hp):Prop:=∀b,H b=none\/∃o xs,H b=some (.yk o (.lst xs))
theorem DH{P:Program}{w:World}{K:PySem.W.Frag}{mg mb:Str->Option Value}{CX:y8}{k:Nat}{fa a:Addr}{fd:FuncData}{x:Str}{sp:Sp}{s₁:Shared}{vs:List Value}{ns:List Int}(KX:K.In s₁.heap)(QU:s₁.heap.Ns mainGlobals mg)(hb:s₁.heap.Ns builtinsNs mb)(Rn:∀x:Str,x≠"__name__"->mb x=bootBuiltins x)(OF:s₁.heap.NoLimit)(hg:s₁.gens=#[])(ha:s₁.heap.get? a=some { cls:=.type "list",data:=.seq vs.toArray })(hi:IntsAre vs ns)(hl:ns.length<=sizeLine)(hr:cw k callerA)(F:∀base:Heap,K.In base->base.Ns mainGlobals mg->dQ P w K mg base CX k fa fd [x] sp)(LU:∀(s:Shared)(u:Value),BindsTo s fd ⟨[u],[]⟩ [(x,u)])(Aj:∀H:Hp,JE H->ag K H a (ns.map V.int)->sp [.ref a] H (λv _=>v=.bl true) λ_ _ _=>False)(OG:∀H e s',CX [] H s₁ (λ_ _ _=>False) e s'->False):
  codeAny (model P w) callerA (.call (.ref fa) ⟨[.ref a],[]⟩) (λr s'=>r=.ok (.ret (.bool true))/\OldK s₁.heap s'.heap/\s'.os=s₁.os/\AllBare s'.gens) s₁:=by
 have rv:=uG hi;have OH:=hi.length;have core:∀H:Hp,JE H->ag K H a (ns.map V.int)->lG P w H s₁.heap->(∀b,H b≠none->b=a)->(H a≠none->K.lookup a=none) ->
   codeAny (model P w) callerA (.call (.ref fa) ⟨[.ref a],[]⟩) (λr s'=>r=.ok (.ret (.bool true))/\OldK s₁.heap s'.heap/\s'.os=s₁.os/\AllBare s'.gens) s₁:=by
  intro H hO hS aq hA hK;have Ap:∀{b:Addr}{o:Obj},s₁.heap.get? b=some o->H b=none->(uj s₁.heap H).get? b=some o:=λe n=>Ct e n;have LG:∀{b:Addr}{o:Obj}{es:Array DictEntry}{ep:Nat},s₁.heap.get? b=some o->o.data=.dict es ep->H b=none:=λ{b o es ep} e d=>by
   cases q:H b with
   |none=>rfl
   |some u =>
    have e':b=a:=hA b (by rw[q];simp);subst e';rw[ha]at e;cases e;have d':Data.seq vs.toArray _=Data.dict es ep:=d;cases d'
  have M6:∀{b:Addr}{m:Str->Option Value},s₁.heap.Ns b m->(uj s₁.heap H).Ns b m:=λ{b m} ⟨o,es,ep,e,d,r⟩=>⟨o,es,ep,Ap e (LG e d),d,r⟩;have QV:K.In (uj s₁.heap H):=λb o e=>Ap (KX b o e) (by
   cases q:H b with
   |none=>rfl
   |some u =>
    have e':b=a:=hA b (by rw[q];simp);subst e';rw[hK (by rw[q];simp)]at e;cases e)
  have hM:Mod K mg (uj s₁.heap H):=⟨QV,M6 QU,⟨mb,M6 hb,Rn⟩,let⟨mc,h1,h2⟩:=OF;⟨mc,M6 h1,h2⟩⟩;have e0:y9 P w K mg (uj s₁.heap H) callerA [] s₁ H:=⟨rfl,hM,λb o e=>FA e,Nat.le_of_eq (BO _ _),trivial,λb hb=>absurd (show b∈([]:List Addr)from hb) (by simp),aq,.of_eq hg⟩;refine codeAny_mono ((F _ QV (M6 QU)).run callerA [] s₁ H ⟨[.ref a],[]⟩ [.ref a] [.ref a] _ _ hr e0 (LU s₁ (.ref a)) (.cons rfl .nil) (Aj H hO hS)) λr s' h=>?_;cases r with
  |error e=>exact(OG H e s' h).elim
  |ok fl =>
   cases fl with
   |next=>exact False.elim h
   |brk=>exact False.elim h
   |cont=>exact False.elim h
   |ret u =>
    obtain⟨v,H',os,bare,un,OI,r',q⟩:=h;have q':v=.bl true:=q;subst q';obtain rfl:u=Value.bool true:=r';refine⟨rfl,OldK.of_keep λb o e=>?_,os,bare⟩;cases q:H b with
    |none=>exact un.keep b o e q (by intro z;exact absurd (show b∈([]:List Addr)from z) (by simp)) (by simp)
    |some u =>
     rcases hO b with z|⟨ob,xs,z⟩
     ·rw[q]at z;cases z
     have z2:=un.lh b ob _ z;obtain⟨e1,_⟩:=aq b _ z;obtain⟨e2,_⟩:=OI b _ z2;rw[e]at e1;cases e1;exact e2
 cases hk:K.lookup a with
 |some o =>
  have e:=KX a o hk;rw[ha]at e;cases e;refine core (λ_=>none) (λ_=>.inl rfl) (.inr ⟨_,vs.toArray,_,hk,rfl,rfl,rfl,by rw[List.size_toArray,OH];exact hl,by simpa using rv⟩) (λb u z=>by have z':(none:Option HO)=some u:=z;cases z') (λb z=>absurd rfl z) λz=>absurd rfl z
 |none =>
  refine core (λb=>if b=a then some (.yk { cls:=.type "list",data:=.seq vs.toArray } (.lst (ns.map V.int)))else none) (λb=>?_) (.inl (.inr ⟨{ cls:=.type "list",data:=.seq vs.toArray },if_pos rfl⟩)) (λb u z=>?_) (λb z=>?_) λ_=>hk
  ·by_cases hb:b=a
   ·exact .inr ⟨_,_,if_pos hb⟩
   exact .inl (if_neg hb)
  ·by_cases hb:b=a
   ·have z':=(if_pos hb).symm.trans z;cases z';subst hb;exact⟨ha,by rw[List.length_map];exact hl,vs,_,rv,ha⟩
   have z':=(if_neg hb).symm.trans z;cases z'
  by_cases hb:b=a
  ·exact hb
  exact absurd (if_neg hb) z
abbrev cI{K:PySem.W.Frag}{h:Heap}(_:K.In h):PySem.W.Frag:=K
theorem Fd{l:PySem.W.OpenLaw}{n k:Nat}{q:Program}{loose:List Str}{XP:(Str->Option Value)->Heap->Prop}{YP:World->Heap->Prop}{d:DefRec}{K:Params->PySem.W.Frag}{CX:World->y8}{sp:World->Sp}{x:Str}(hn:l.most=some n)(M3:n<=sizeLine)(LS:d.params.defaults=[])(hr:cw k callerA)(hY:∀(w:World)(h:Heap),YP w h->(K w.params).In h)(F:∀(w:World)(mg:Str->Option Value)(fa:Addr)(h:Heap),(K w.params).In h->h.Ns mainGlobals mg->mg d.name=some (.ref fa) ->
   ∃fd:FuncData,(∀(s:Shared)(u:Value),BindsTo s fd ⟨[u],[]⟩ [(x,u)]) /\
    ∀base:Heap,(K w.params).In base->base.Ns mainGlobals mg->dQ l.prog w (K w.params) mg base (CX w) k fa fd [x] (sp w))(Aj:∀(w:World)(H:Hp)(a:Addr)(ns:List Int),ns.length<=n->JE H->ag (K w.params) H a (ns.map V.int)->sp w [.ref a] H (λv _=>v=.bl true) λ_ _ _=>False)(OG:∀(w:World)(H:Hp)(s:Shared)(e:Value)(s':Shared),CX w [] H s (λ_ _ _=>False) e s'->False):
  PySem.W.WalkO q loose XP YP l.row.toRowW d [] (λf vs=>PySem.call f vs):=by
 refine Att.wy hn LS λw s₀ s₁ mg mb fa o pm cd doc a vs ns G Y ho hd wR JC JD hints hlen hg=>?_;have KX:=hY w _ Y;obtain⟨fd,hb,hF⟩:=F w mg fa _ KX G.T.g JC;exact DH KX G.T.g G.T.b G.T.builtins G.T.nolimit hg JD hints (Nat.le_trans hlen M3) hr hF hb (λH hO hS=>Aj w H a ns hlen hO hS) λH e s'=>OG w H s₁ e s'
def cM(s:Stmt):Arguments:=match s with
 |.FunctionDef _ a _ _ _ _ _ _ _ _=>a
 |_=>{ posonlyargs:=[],args:=[],vararg:=none,kwonlyargs:=[],kw_defaults:=[],kwarg:=none,defaults:=[] }
def bX(s:Stmt):List Stmt:=match s with
 |.FunctionDef _ _ b _ _ _ _ _ _ _=>b
 |_=>[]
def aG(s:Stmt):Scope:=match s with
 |.FunctionDef _ _ _ _ _ _ sc _ _ _=>sc
 |_=>{ kind:=.function,names:=[],isGenerator:=false,isCoroutine:=false }
abbrev E0:XK:=λ_ _ _=>False
structure sU(K:PySem.W.Frag)(x qual:Str)(st:Stmt)(f:Addr)(fd:FuncData):Prop where
 ex:∃(oc:Value)(od:Option Addr)(kV doc pm:Value)(an:Option Addr)(bU ct:Value)(BZ:Array (Option Value)),
  fd=PySem.W.fnOf x qual (cM st) (bX st) (aG st) .none kV doc pm an bU ct/\K.lookup f=some ⟨oc,od,.func fd,BZ⟩/\PySem.W.codeIn K bU qual=true
 kp:PySem.W.keepIn K (.ref f)=true
section
variable{P:Program}{w:World}{K:PySem.W.Frag}{mg:Str->Option Value}{base:Heap}
theorem sU.binds{x qual:Str}{st:Stmt}{f:Addr}{fd:FuncData}{ps:List Str}(F:sU K x qual st f fd)(h:∀(kV doc pm:Value)(an:Option Addr)(bU ct:Value)(us:List Value),us.length=ps.length->bindArgs (PySem.W.fnOf x qual (cM st) (bX st) (aG st) .none kV doc pm an bU ct) ⟨us,[]⟩=pure (ps.zip us)):Binds K fd ps []:=by obtain⟨oc,od,kV,doc,pm,an,bU,ct,BZ,rfl,lk,wR⟩:=F.ex;exact .all (h kV doc pm an bU ct)
theorem lu{x qual:Str}{st:Stmt}{f:Addr}{oc:Value}{od an:Option Addr}{BZ:Array (Option Value)}{kV doc pm bU ct:Value}(l:K.lookup f=some ⟨oc,od,.func (PySem.W.fnOf x qual (cM st) (bX st) (aG st) .none kV doc pm an bU ct),BZ⟩)(c:PySem.W.codeIn K bU qual=true)(k:PySem.W.keepIn K (.ref f)=true):sU K x qual st f (PySem.W.fnOf x qual (cM st) (bX st) (aG st) .none kV doc pm an bU ct):=⟨⟨oc,od,kV,doc,pm,an,bU,ct,BZ,rfl,l,c⟩,k⟩
end
theorem br{A:Around}{k:Nat}(hr:cw k A):A.units+1<cLine:=Nat.lt_of_le_of_lt (Nat.add_le_add_left (by decide:1<=64) _) hr.units
section
variable{X:Cx}
theorem pv(i:Nat){x:Str}{pos:Pos}(hN:X.N[i]?=some x:=by rfl)(hv:Kr X.env.scope x:=by first|exact Or.inl rfl|exact Or.inr (Or.inl rfl)|exact Or.inr (Or.inr rfl))(hd:(x==("__debug__":Str))=false:=by decide)(wR:(x==("__classdict__":Str))=false:=by decide):PE X (.Name x pos) (yo i):=IQ hN hv hd wR
end
theorem d0{A B:Prop}(h:B):if false=true then A else B:=by rw[if_neg Bool.false_ne_true];exact h
theorem eV{A B:Prop}(h:A):if true=true then A else B:=by rw[if_pos rfl];exact h
theorem Be{c A B:Prop}[Decidable c](h1:c->A)(h2:¬c->B):if c then A else B:=by
 by_cases h:c
 ·rw[if_pos h];exact h1 h
 rw[if_neg h];exact h2 h
def aH(H H':Hp):Prop:=∀b o,H b=some o->H' b=some o
theorem aH.refl(H:Hp):aH H H:=λ_ _ h=>h
theorem aH.trans{H H1 H2:Hp}(a:aH H H1)(b:aH H1 H2):aH H H2:=λc o h=>b c o (a c o h)
theorem aH.free{H H':Hp}(e:aH H H'){l:Addr}(h:H' l=Option.none):H l=Option.none:=by
 cases q:H l with
 |none=>rfl
 |some o =>
  rw[e l o q]at h;cases h
theorem aH.seq{K:PySem.W.Frag}{H H':Hp}{a:Addr}{xs:List V}(e:aH H H')(h:ag K H a xs):ag K H' a xs:=by
 rcases h with(h|⟨o,h⟩)|h
 ·exact .inl (.inl (e _ _ h))
 ·exact .inl (.inr ⟨o,e _ _ h⟩)
 exact .inr h
def bR(env:Env):List (Str×NameKind)->List (Str×Addr)->List (Str×Addr)
 |[],acc=>acc
 | (n,k)::r,acc=>if k==.free then bR env r ((n,(env.cells.lookup n).getD 0)::acc)else bR env r acc
theorem lz{env:Env}:∀(names:List (Str×NameKind))(acc:List (Str×Addr))(f:Str×NameKind->List (Str×Addr)->Sem (ForInStep (List (Str×Addr)))),
  (∀n k cs,f (n,k) cs=if k==.free then(do let c <- cellOf env n;pure (.yield ((n,c)::cs)))else pure (.yield cs)) ->
  (∀x∈names,x.2=.free->∃c,env.cells.lookup x.1=some c)->(forIn names acc f:Sem _)=pure (bR env names acc)
 |[],acc,f,_,_=>rfl
 | (n,k)::r,acc,f,hf,h=>by
  rw[List.forIn_cons,hf];unfold bR;by_cases hk:(k==.free)=true
  ·rw[if_pos hk,if_pos hk];obtain⟨c,e⟩:=h (n,k) List.mem_cons_self (beq_iff_eq.mp hk);have e':env.cells.lookup n=some c:=e;unfold cellOf;rw[e'];show(forIn r ((n,c)::acc) f:Sem _)=_;exact lz r _ f hf λx hx=>h x (List.mem_cons_of_mem _ hx)
  rw[if_neg hk,if_neg hk];show(forIn r acc f:Sem _)=_;exact lz r _ f hf λx hx=>h x (List.mem_cons_of_mem _ hx)
theorem l7{env:Env}{scope:Scope}(h:∀x∈scope.names,x.2=.free->∃c,env.cells.lookup x.1=some c):closureFor scope env=pure (bR env scope.names []):=by
 unfold closureFor;have e:=lz scope.names [] (λx cs=>if x.2==.free then(do let c <- cellOf env x.1;pure (.yield ((x.1,c)::cs)))else pure (.yield cs)) (λ_ _ _=>rfl) h
 show(forIn scope.names [] _ >>= λcs=>pure cs)=_;exact(nC e)
where
 nC {α:Type} {a:α} {t:Sem α} (e:t=pure a):(t >>= λx=>pure x)=pure a:=by rw[e];rfl
theorem bc{env:Env}{x:Str}{c:Addr}:∀(names:List (Str×NameKind))(acc:List (Str×Addr)),(∀y∈names,y.2=.free->∃c,env.cells.lookup y.1=some c) ->
  (∀c,acc.lookup x=some c->env.cells.lookup x=some c)->(bR env names acc).lookup x=some c->env.cells.lookup x=some c
 |[],acc,_,ha,h=>ha c h
 | (n,k)::r,acc,hn,ha,h=>by
  unfold bR at h;have hr:∀y∈r,y.2=.free->∃c,env.cells.lookup y.1=some c:=λy hy=>hn y (List.mem_cons_of_mem _ hy);by_cases hk:(k==.free)=true
  ·rw[if_pos hk]at h;obtain⟨c',e⟩:=hn (n,k) List.mem_cons_self (beq_iff_eq.mp hk);have e':env.cells.lookup n=some c':=e;rw[e']at h;refine bc r _ hr (λc2 q=>?_) h;rw[List.lookup_cons]at q;cases hb:x==n with
   |true=>rw[hb]at q;cases q;rw[beq_iff_eq.mp hb];exact e'
   |false=>rw[hb]at q;exact ha c2 q
  rw[if_neg hk]at h;exact bc r _ hr ha h
theorem iq{env:Env}{x:Str}:∀(names:List (Str×NameKind))(acc:List (Str×Addr)),((x,NameKind.free)∈names\/∃c,acc.lookup x=some c)->∃c,(bR env names acc).lookup x=some c
 |[],acc,h=>h.elim (λz=>by cases z) id
 | (n,k)::r,acc,h=>by
  unfold bR;by_cases hk:(k==.free)=true
  ·rw[if_pos hk];refine iq r _ ?_;cases hb:x==n with
   |true=>exact .inr ⟨_,by rw[List.lookup_cons,hb]⟩
   |false =>
    rcases h with h|⟨c,h⟩
    ·rcases List.mem_cons.mp h with e|e
     ·injection e with e1 _;rw[e1]at hb;simp at hb
     exact .inl e
    exact .inr ⟨c,by rw[List.lookup_cons,hb];exact h⟩
  rw[if_neg hk];refine iq r _ ?_;rcases h with h|h
  ·rcases List.mem_cons.mp h with e|e
   ·injection e with _ e2;rw[<-e2]at hk;exact absurd rfl hk
   exact .inl e
  exact .inr h
theorem l8{x:Str}{c:Addr}:∀(names:List (Str×NameKind))(n:Nat)(acc:List (Str×Addr)),(cellsFrom n names acc).lookup x=some c->acc.lookup x=some c\/(n<=c/\(x,NameKind.cell)∈names)
 |[],_,_,h=>.inl h
 | (y,k)::r,n,acc,h=>by
  unfold cellsFrom at h;by_cases hk:(k==.cell)=true
  ·rw[if_pos hk]at h;rcases l8 r _ _ h with q|⟨q1,q2⟩
   ·rw[List.lookup_cons]at q;cases hb:x==y with
    |true=>rw[hb]at q;cases q;exact .inr ⟨Nat.le_refl _,by rw[beq_iff_eq.mp hb,beq_iff_eq.mp hk];exact List.mem_cons_self⟩
    |false=>rw[hb]at q;exact .inl q
   exact .inr ⟨by lia,List.mem_cons_of_mem _ q2⟩
  rw[if_neg hk]at h;rcases l8 r _ _ h with q|⟨q1,q2⟩
  ·exact .inl q
  exact .inr ⟨q1,List.mem_cons_of_mem _ q2⟩
theorem kj{x:Str}{lo:Nat}:∀(names:List (Str×NameKind))(n:Nat)(acc:List (Str×Addr)),lo<=n->((x,NameKind.cell)∈names\/∃c,acc.lookup x=some c/\lo<=c)->∃c,(cellsFrom n names acc).lookup x=some c/\lo<=c
 |[],_,_,_,h=>h.elim (λz=>by cases z) id
 | (y,k)::r,n,acc,hn,h=>by
  unfold cellsFrom;by_cases hk:(k==.cell)=true
  ·rw[if_pos hk];refine kj r _ _ (by lia) ?_;cases hb:x==y with
   |true=>exact .inr ⟨n,by rw[List.lookup_cons,hb],hn⟩
   |false =>
    rcases h with h|⟨c,h,hc⟩
    ·rcases List.mem_cons.mp h with e|e
     ·injection e with e1 _;rw[e1]at hb;simp at hb
     exact .inl e
    exact .inr ⟨c,by rw[List.lookup_cons,hb];exact h,hc⟩
  rw[if_neg hk];refine kj r _ _ hn ?_;rcases h with h|h
  ·rcases List.mem_cons.mp h with e|e
   ·injection e with _ e2;rw[<-e2]at hk;exact absurd rfl hk
   exact .inl e
  exact .inr h
theorem ir{x:Str}:∀(names:List (Str×NameKind))(n:Nat)(acc:List (Str×Addr)),(x,NameKind.cell)∉names->(cellsFrom n names acc).lookup x=acc.lookup x
 |[],_,_,_=>rfl
 | (y,k)::r,n,acc,h=>by
  unfold cellsFrom;have hr:(x,NameKind.cell)∉r:=λz=>h (List.mem_cons_of_mem _ z);by_cases hk:(k==.cell)=true
  ·rw[if_pos hk,ir r _ _ hr,List.lookup_cons];cases hb:x==y with
   |true=>exact absurd (by rw[beq_iff_eq.mp hb,beq_iff_eq.mp hk];exact List.mem_cons_self) h
   |false=>rfl
  rw[if_neg hk];exact ir r _ _ hr
theorem oY:∀(names:List (Str×NameKind))(n:Nat)(acc:List (Str×Addr)),(∀x c,acc.lookup x=some c->c<n)->(∀x y c,acc.lookup x=some c->acc.lookup y=some c->x=y) ->
  ∀x y c,(cellsFrom n names acc).lookup x=some c->(cellsFrom n names acc).lookup y=some c->x=y
 |[],_,_,_,h=>h
 | (z,k)::r,n,acc,bM,h=>by
  unfold cellsFrom;by_cases hk:(k==.cell)=true
  ·rw[if_pos hk];refine oY r (n+1) _ (λx c e=>?_) λx y c e1 e2=>?_
   ·rw[List.lookup_cons]at e;cases hb:x==z with
    |true=>rw[hb]at e;cases e;exact Nat.lt_succ_self _
    |false=>rw[hb]at e;exact Nat.lt_succ_of_lt (bM x c e)
   rw[List.lookup_cons]at e1 e2;cases hb:x==z with
   |true =>
    rw[hb]at e1;cases e1;cases JF:y==z with
    |true=>rw[beq_iff_eq.mp hb,beq_iff_eq.mp JF]
    |false=>rw[JF]at e2;exact absurd (bM y _ e2) (Nat.lt_irrefl _)
   |false =>
    rw[hb]at e1;cases JF:y==z with
    |true=>rw[JF]at e2;cases e2;exact absurd (bM x _ e1) (Nat.lt_irrefl _)
    |false=>rw[JF]at e2;exact h x y c e1 e2
  rw[if_neg hk];exact oY r n _ bM h
theorem gc{x:Str}{c:Addr}:∀(names:List (Str×NameKind))(h:Heap)(acc:List (Str×Addr)),(∀y c,acc.lookup y=some c->∃v,h.IsCell c v) ->
  (cellsFrom h.objs.size names acc).lookup x=some c->∃v,(pushCells h names).IsCell c v
 |[],h,acc,ha,e=>ha x c e
 | (y,k)::r,h,acc,ha,e=>by
  unfold cellsFrom at e;unfold pushCells;by_cases hk:(k==.cell)=true
  ·rw[if_pos hk]at e ⊢;rw[show h.objs.size+1=(h.push { cls:=.type "cell",data:=.cell none }).objs.size from(Heap.size_push ..).symm]at e;refine gc r _ _ (λz c' q=>?_) e;rw[List.lookup_cons]at q;cases hb:z==y with
   |true=>rw[hb]at q;cases q;exact⟨none,_,Heap.get?_push_size _ rfl,rfl⟩
   |false =>
    rw[hb]at q;obtain⟨v,w⟩:=ha z c' q;exact⟨v,w.keeps λb o e=>Heap.get?_push_of_some _ e⟩
  rw[if_neg hk]at e ⊢;exact gc r _ _ ha e
section
variable{M:Model}{A:Around}{E:Value->Shared->Prop}{s:Shared}
theorem pQ{scope:Scope}{globals:Addr}{cl:List (Str×Addr)}{qual:Str}{env:Env}{Q:Env->Shared->Prop}(h:Q { scope,locals:=s.heap.objs.size,globals,cells:=cellsFrom (s.heap.objs.size+1) scope.names cl,qual,func:=none,code:=env.code,frame:=env.frame,builtins:=env.builtins }
   { s with heap:=pushCells (s.heap.push { cls:=.type "dict",data:=.dict #[] }) scope.names }):
  wpAny M A (newFunctionEnv scope globals cl [] qual none .none (some env)) Q E s:=by
 simp only[newFunctionEnv,Option.isSome_some,if_true];refine wpAny_bind (wpAny_alloc ?_);refine wpAny_bind (wpAny_layCells _ (λname kind cells=>by cases Ro:kind==NameKind.cell<;>simp[Ro]) _ _ _ _ ?_);rw[show({ s with heap:=s.heap.push { cls:=.type "dict",data:=.dict #[] } }:Shared).heap.objs.size=s.heap.objs.size+1 from Heap.size_push ..];refine wpAny_bind ?_;rw[List.forIn_nil];exact wpAny_pure (wpAny_pure h)
end
section
variable{prog:Program}{w:World}{A:Around}{R:Result->Shared->Prop}{s:Shared}
theorem u9{elt target iter:Expr}{ifs:List Expr}{scope:Scope}{pos:Pos}{it acc:Value}{env:Env}(I:Nat->Shared->Prop)(turn:∀n s,I n s->wpAny (model prog w) A (pyNext it) (λr s₁=>match r with
   |none=>R (.ok .next) s₁
   |some v=>wpAny (model prog w) A (letOwnedTupleGo target it v) (λ_ s₁'=>wpAny (model prog w) A (assign target env v) (λ_ s₂ =>
     wpAny (model prog w) A (forIn ifs true λc r=>if r=true then do let ok <- isTrue c env (eval c env);pure (ForInStep.yield ok)else pure (ForInStep.yield r)) (λok s₃ =>
      if ok=true then wpAny (model prog w) A (eval elt env) (λx s₄ =>
       wpAny (model prog w) A (call (.builtin "list.append") [acc,x]) (λ_ s₅=>∃m,m<n/\I m s₅) (λ_ _=>False) s₄) (λ_ _=>False) s₃
      else ∃m,m<n/\I m s₃) (λ_ _=>False) s₂) (λ_ _=>False) s₁') (λ_ _=>False) s₁) (λ_ _=>False) s)(n:Nat)(h:I n s):
  codeAny (model prog w) A (.compLoop (.ListComp elt [⟨target,iter,ifs,0⟩] scope pos) 0 it acc env) R s:=by
 refine codeAny_loop rfl I (λn s hI=>?_) n h;show wpAny _ A ((compTurn (.ListComp elt [⟨target,iter,ifs,0⟩] scope pos) 0 it acc env).onRaise (λx=>do noteFrame x env;theTreesLotGoes x)) _ _ s
 refine wpAny_noted ?_;rw[compTurn_list];refine wpAny_bind (wpAny_standAt (wpAny_bind (wpAny_mono (turn n s hI) (λr s₁ h₁=>?_) λ_ _ h'=>h'.elim)));cases r with
 |none=>exact wpAny_pure h₁
 |some v =>
  refine wpAny_bind (wpAny_mono h₁ (λ_ s₁' h₁'=>?_) λ_ _ h'=>h'.elim);refine wpAny_bind (wpAny_mono h₁' (λ_ s₂ h₂=>wpAny_bind (wpAny_mono h₂ (λok s₃ h₃=>?_) λ_ _ h'=>h'.elim)) λ_ _ h'=>h'.elim);cases ok with
  |false=>exact wpAny_pure ⟨rfl,h₃⟩
  |true =>
   exact wpAny_bind (wpAny_bind (wpAny_mono h₃ (λx s₄ h₄=>wpAny_bind (wpAny_mono h₄ (λ_ s₅ h₅=>wpAny_pure (wpAny_pure ⟨rfl,h₅⟩)) λ_ _ h'=>h'.elim)) λ_ _ h'=>h'.elim))
end
def mq(X:Cx)(Nc:List Str)(scope:Scope)(C:Addr)(fp:List Addr)(s:Shared)(H:Hp):Cx where
 prog:=X.prog
 w:=X.w
 K:=X.K
 mg:=X.mg
 base:=X.base
 A:=X.A
 N:=Nc
 s₀:=s
 H₀:=H
 env:=compEnvC scope (cellsFrom (C+1) scope.names (bR X.env scope.names [])) C X.env
 outer:=X.stack
 stack:=X.stack
 ex:=fp
 fn:=λx=>scope.names.contains (x,NameKind.cell)
 calm:=X.calm
 pn:=[]
 xe:=λ_ _=>False
structure cN(X:Cx)(Nc:List Str)(ix:List (Option Nat))(scope:Scope):Prop where
 kind:scope.kind=.function
 nd:Nc.Nodup
 len:ix.length=Nc.length
 loc:∀x∈scope.names,x.2=.local->scope.names.lookup x.1=some .local
 free:∀x∈scope.names,x.2=.free->X.env.kindOf x.1=some .cell\/X.env.kindOf x.1=some .free
 once:∀x,(x,NameKind.free)∈scope.names->(x,NameKind.cell)∉scope.names
 out:∀(i j:Nat)(x:Str),ix[i]?=some (some j)->Nc[i]?=some x->X.N[j]?=some x/\scope.names.lookup x=some .free
def qm(ix:List (Option Nat))(σ:St):St:=ix.map λo=>o.bind λj=>(σ[j]?).bind id
theorem iu{env:Env}{x:Str}:∀{names:List (Str×NameKind)}{k:NameKind},names.lookup x=some k ->
  (names.map λ(n,k)=>if(k==NameKind.free&&env.scope.kind==.function&&env.kindOf n==some .cell)then(n,NameKind.cell)else(n,k)).lookup x =
   some (if(k==NameKind.free&&env.scope.kind==.function&&env.kindOf x==some .cell)then NameKind.cell else k)
 |[],_,h=>by simp at h
 | (n,k')::r,k,h=>by
  show List.lookup x ((if(k'==NameKind.free&&env.scope.kind==.function&&env.kindOf n==some .cell)=true then(n,NameKind.cell)else(n,k'))::_)=_;cases hx:x==n with
  |true =>
   simp only[List.lookup_cons,hx]at h;cases h;have e:=beq_iff_eq.mp hx;subst e;split<;>simp[List.lookup_cons]
  |false =>
   simp only[List.lookup_cons,hx]at h;have ih:=iu (env:=env) (names:=r) h;split<;>(simp only[List.lookup_cons,hx];exact ih)
theorem nE{env:Env}{x:Str}:∀{names:List (Str×NameKind)},names.lookup x=none ->
  (names.map λ(n,k)=>if(k==NameKind.free&&env.scope.kind==.function&&env.kindOf n==some .cell)then(n,NameKind.cell)else(n,k)).lookup x=none
 |[],_=>rfl
 | (n,k')::r,h=>by
  show List.lookup x ((if(k'==NameKind.free&&env.scope.kind==.function&&env.kindOf n==some .cell)=true then(n,NameKind.cell)else(n,k'))::_)=_;cases hx:x==n with
  |true=>simp only[List.lookup_cons,hx]at h;cases h
  |false =>
   simp only[List.lookup_cons,hx]at h;have ih:=nE (env:=env) (names:=r) h;split<;>(simp only[List.lookup_cons,hx];exact ih)
section
variable{X:Cx}{pins:List (Addr×Obj)}{σ:St}{H:Hp}{s:Shared}{Nc:List Str}{ix:List (Option Nat)}{scope:Scope}{fp:List Addr}
theorem cN.cells(S:cN X Nc ix scope)(I:Inv X pins σ H s):∀x∈scope.names,x.2=.free->∃c,X.env.cells.lookup x.1=some c:=λx hx hf=>I.ok.has x.1 (S.free x hx hf)
theorem uH(S:cN X Nc ix scope)(I:Inv X pins σ H s){C:Addr}{x:Str}{c:Addr}(e:(cellsFrom (C+1) scope.names (bR X.env scope.names [])).lookup x=some c):
  X.env.cells.lookup x=some c\/(C+1<=c/\(x,NameKind.cell)∈scope.names):=by
 rcases l8 _ _ _ e with q|q
 ·exact .inl (bc _ _ (S.cells I) (λ_ z=>by simp at z) q)
 exact .inr q
theorem wz(S:cN X Nc ix scope)(I:Inv X pins σ H s)(OJ:∀b∈fp,lr X pins H b)(ho:∀b∈fp,∃o,s.heap.get? b=some o){t':Nat}:
  Inv (mq X Nc scope (s.heap.objs.size+1) fp s H) [] (qm ix σ) (upd H s.heap.objs.size (.lst []))
   { s with heap:=pushCells ((s.heap.push { cls:=.type "list",dict:=none,data:=.seq ([]:List Value).toArray }).push { cls:=.type "dict",data:=.dict #[] }) scope.names,toks:=t' }:=by
 have keep:∀b o,s.heap.get? b=some o->(pushCells ((s.heap.push { cls:=.type "list",dict:=none,data:=.seq ([]:List Value).toArray }).push { cls:=.type "dict",data:=.dict #[] }) scope.names).get? b=some o :=
  λb o e=>pushCells_keeps _ _ b o (Heap.get?_push_of_some _ (Heap.get?_push_of_some _ e))
 have hD:(pushCells ((s.heap.push { cls:=.type "list",dict:=none,data:=.seq ([]:List Value).toArray }).push { cls:=.type "dict",data:=.dict #[] }) scope.names).get? s.heap.objs.size =
   some { cls:=.type "list",dict:=none,data:=.seq ([]:List Value).toArray }:=pushCells_keeps _ _ _ _ (Heap.get?_push_of_some _ (Heap.get?_push_size _ rfl))
 have hsz:(s.heap.push { cls:=.type "list",dict:=none,data:=.seq ([]:List Value).toArray }).objs.size=s.heap.objs.size+1:=Heap.size_push ..;have fresh:∀a:Addr,s.heap.objs.size<=a->H a=none:=λa h=>I.aq.fresh h;have Kt:∀x c,X.env.cells.lookup x=some c->c<s.heap.objs.size:=λx c e=>let⟨_,q⟩:=I.cell x c e;q.lt;have Rp:∀x c,(bR X.env scope.names []).lookup x=some c->c<s.heap.objs.size+1+1:=λx c e =>
  Nat.lt_succ_of_lt (Nat.lt_succ_of_lt (Kt x c (bc _ _ (S.cells I) (λ_ z=>by simp at z) e)))
 have OL:∀x y c,(bR X.env scope.names []).lookup x=some c->(bR X.env scope.names []).lookup y=some c->x=y:=λx y c e1 e2 =>
  I.ok.inj x y c (bc _ _ (S.cells I) (λ_ z=>by simp at z) e1) (bc _ _ (S.cells I) (λ_ z=>by simp at z) e2)
 refine⟨⟨I.ok.mod,S.kind,I.ok.glob,I.ok.blt,Nat.le_succ _,oY _ _ _ Rp OL,λx hx=>?has,λx c hf e=>?IJ,I.ok.hd,I.ok.frames,.inl rfl,λb hb=>?KR,I.bs,Nat.le_trans I.ok.FD I.sz,λb o e hb=>?ym,λb hb hs=>?wc,I.stack,I.uk⟩,
  rfl,I.bare,Un.laid keep (Nat.le_refl _) (fresh _ (Nat.le_refl _)),⟨λ_=>none,?ns,λi x v e1 e2 e3=>?loc⟩,λx c e=>?cell,?free,λx c e=>?jc,λp hp=>absurd (show p∈([]:List (Addr×Obj))from hp) (by simp),I.aq.laid keep (Nat.le_refl _) ?obj,?len⟩
 case has =>
  have hx:(relabel scope X.env).names.lookup x=some .cell\/(relabel scope X.env).names.lookup x=some .free:=hx;show ∃c,(cellsFrom (s.heap.objs.size+1+1) scope.names (bR X.env scope.names [])).lookup x=some c;cases hk:scope.names.lookup x with
  |none =>
   rw[show(relabel scope X.env).names.lookup x=none from nE hk]at hx;rcases hx with z|z<;>cases z
  |some k =>
   have hm:=PySem.mem_of_lookup hk;rw[show(relabel scope X.env).names.lookup x=_ from iu hk]at hx;cases k with
   |cell=>obtain⟨c,e,_⟩:=kj (x:=x) (lo:=0) scope.names (s.heap.objs.size+1+1) (bR X.env scope.names []) (Nat.zero_le _) (.inl hm);exact⟨c,e⟩
   |free =>
    obtain⟨c,e⟩:=iq (env:=X.env) (x:=x) scope.names [] (.inl hm);exact⟨c,by rw[ir _ _ _ (S.once x hm)];exact e⟩
   |_=>rcases hx with z|z<;>simp at z
 case IJ =>
  have hm:(x,NameKind.cell)∈scope.names:=List.contains_iff_mem.mp hf;obtain⟨c',e',hc⟩:=kj (x:=x) (lo:=s.heap.objs.size+1+1) scope.names (s.heap.objs.size+1+1) (bR X.env scope.names []) (Nat.le_refl _) (.inl hm);have e2:(cellsFrom (s.heap.objs.size+1+1) scope.names (bR X.env scope.names [])).lookup x=some c:=e;rw[e']at e2;cases e2;exact Nat.le_trans (Nat.le_trans (Nat.le_succ _) (Nat.le_succ _)) hc
 case KR =>
  obtain⟨o,eo⟩:=ho b hb;have bM:=Heap.lt_size eo;refine⟨Nat.ne_of_lt (Nat.lt_succ_of_lt bM),λx c e=>?_⟩;rcases uH S I e with q|⟨q,_⟩
  ·exact(OJ b hb).2.2.2.2.1 x c q
  exact Nat.ne_of_gt (Nat.lt_of_lt_of_le (Nat.lt_succ_of_lt (Nat.lt_succ_of_lt bM)) q)
 case ym =>
  obtain⟨_,_,_,q,_⟩:=OJ b hb;rcases q with q|q
  ·exact I.ok.ym b o e q
  exact absurd (Nat.lt_of_lt_of_le (Nat.lt_of_lt_of_le (Heap.lt_size e) I.ok.FD) q) (Nat.lt_irrefl _)
 case wc =>
  obtain⟨_,q1,q2,_⟩:=OJ b hb;rcases List.mem_cons.mp (I.yn b hs)with z|z
  ·exact q1 z
  exact q2 z
 case ns =>
  refine Heap.Ns.keeps (h:=(s.heap.push { cls:=.type "list",dict:=none,data:=.seq ([]:List Value).toArray }).push { cls:=.type "dict",data:=.dict #[] }) ?_ (pushCells_keeps _ _);have q:=Heap.Ns.new (s.heap.push { cls:=.type "list",dict:=none,data:=.seq ([]:List Value).toArray }) (.type "dict");rw[hsz]at q;exact q
 case loc =>
  have HW:(ix.map λo=>o.bind λj=>(σ[j]?).bind id)[i]?=some (some v):=e2;rw[List.getElem?_map]at HW;cases ei:ix[i]? with
  |none=>rw[ei]at HW;cases HW
  |some o =>
   rw[ei]at HW;cases o with
   |none=>simp at HW
   |some j =>
    obtain⟨hN,Kb⟩:=S.out i j x ei e1;have ej:σ[j]?=some (some v):=by
     cases q:σ[j]? with
     |none=>simp[q]at HW
     |some y=>simp[q]at HW;rw[HW]
    have hm:=PySem.mem_of_lookup Kb;have OM:Kr X.env.scope x:=by
     rcases S.free (x,.free) hm rfl with z|z
     ·exact .inr (.inl z)
     exact .inr (.inr z)
    obtain⟨m0,UY,Rq⟩:=I.loc;obtain⟨u,r,l⟩:=Rq j x v hN ej OM;refine⟨u,r,?_⟩;have hk:X.env.kindOf x=some .cell\/X.env.kindOf x=some .free:=S.free (x,.free) hm rfl;rcases l with⟨z,_⟩|⟨_,c,ec,tZ⟩
    ·rcases hk with y|y<;>(rw[z]at y;cases y)
    refine .inr ⟨?_,c,?_,tZ.keeps keep⟩
    ·show(relabel scope X.env).names.lookup x=_\/(relabel scope X.env).names.lookup x=_;rw[show(relabel scope X.env).names.lookup x=_ from iu Kb];split
     ·exact .inl rfl
     exact .inr rfl
    show(cellsFrom (s.heap.objs.size+1+1) scope.names (bR X.env scope.names [])).lookup x=some c;rw[ir _ _ _ (S.once x hm)];obtain⟨c',e'⟩:=iq (env:=X.env) (x:=x) scope.names [] (.inl hm);have q:=bc _ _ (S.cells I) (λ_ z=>by simp at z) e';rw[ec]at q;cases q;exact e'
 case cell =>
  have q:=gc (x:=x) (c:=c) scope.names ((s.heap.push { cls:=.type "list",dict:=none,data:=.seq ([]:List Value).toArray }).push { cls:=.type "dict",data:=.dict #[] }) (bR X.env scope.names [])
   (λy c' e'=>by obtain⟨v,z⟩:=I.cell y c' (bc _ _ (S.cells I) (λ_ z=>by simp at z) e');exact⟨v,z.keeps λb o e=>Heap.get?_push_of_some _ (Heap.get?_push_of_some _ e)⟩)
  rw[Heap.size_push,hsz]at q;exact q e
 case free =>
  show upd H s.heap.objs.size (.lst []) (s.heap.objs.size+1)=none;rw[aI (Nat.succ_ne_self _)];exact fresh _ (Nat.le_succ _)
 case jc =>
  rcases uH S I e with q|⟨q,_⟩
  ·rw[aI (Nat.ne_of_lt (Kt x c q))];exact I.jc x c q
  have h1:s.heap.objs.size<c:=Nat.lt_of_lt_of_le (Nat.lt_succ_of_lt (Nat.lt_succ_self _)) q;rw[aI (Nat.ne_of_gt h1)];exact fresh c (Nat.le_of_lt h1)
 case obj=>exact⟨Nat.zero_le _,[],0,.nil,hD⟩
 case len =>
  show(qm ix σ).length=Nc.length;unfold qm;rw[List.length_map,S.len]
end
def Kc(X:Cx)(ifs:List Expr)(t:TT):Prop :=
 ∀(pins:List (Addr×Obj))(s:Shared)(σ:St)(H:Hp)(Q:Bool->Hp->Prop),Inv X pins σ H s->t σ H Q ->
  wpAny (model X.prog X.w) X.A (forIn ifs true λc r=>if r=true then do let ok <- isTrue c X.env (eval c X.env);pure (ForInStep.yield ok)else pure (ForInStep.yield r)) (TP X pins σ Q) X.xe s
def LV:TT:=λ_ H Q=>Q true H
theorem cO{X:Cx}:Kc X [] LV:=λ_ _ _ H _ I h=>wpAny_tests_nil ⟨H,I,h⟩
theorem nF{X:Cx}{c:Expr}{t:TT}(h:PT X c t):Kc X [c] t:=λpins s σ H Q I hw=>wpAny_tests_one (h pins s σ H Q I hw)
def pR(J:It)(g:TG)(tt:TT)(te:TE)(D:Addr)(σ:St)(H:Hp)(Q:VK):Prop:=∃W:Nat->Nat->St->Hp->Prop,(∃m,W 0 m σ H)/\∀i m σ' H',W i m σ' H' ->
 (J.stop i H'/\Q (.ref D) H')\/(J.go i H'/\∀x H2,J.Ae i H' x H2->g x σ' H2 λσ3 H3=>tt σ3 H3 λb H4 =>
  if b=true then te σ3 H4 λv H5=>∃xs,H5 D=some (.lst xs)/\xs.length<sizeLine/\∃m',m'<m/\W (i+1) m' σ3 (upd H5 D (.lst (xs++[v])))
  else ∃m',m'<m/\W (i+1) m' σ3 H4)
def ON(wi:TI)(ix:List (Option Nat))(g:TG)(tt:TT)(te:TE):TE:=λσ H Q=>wi σ H λJ H1=>∀D,H1 D=none->pR J g tt te D (qm ix σ) (upd H1 D (.lst [])) Q
section
variable{X:Cx}{tg elt iter:Expr}{ifs:List Expr}{scope:Scope}{pos:Pos}{wi:TI}{g:TG}{tt:TT}{te:TE}{Nc:List Str}{ix:List (Option Nat)}
theorem w6{pins:List (Addr×Obj)}{σ:St}{H:Hp}{s:Shared}{it:Addr}{fp:List Addr}{tn:Nat->Heap->Prop}{J:It}{Q:VK}{R:Value->Addr->Result->Shared->Prop}(hc:X.calm=true)(S:cN X Nc ix scope)(I:Inv X pins σ H s)(T:Turn X.prog X.w X.K tg J fp it tn)(st:tn 0 s.heap)(f:∀b∈fp,lr X pins H b)(hg:PG (mq X Nc scope (s.heap.objs.size+1) fp s H) tg g)(ht:Kc (mq X Nc scope (s.heap.objs.size+1) fp s H) ifs tt)(he:PE (mq X Nc scope (s.heap.objs.size+1) fp s H) elt te)(h:∀D,H D=none->∃W:Nat->Nat->St->Hp->Prop,(∃m,W 0 m (qm ix σ) (upd H D (.lst [])))/\∀i m σ' H',W i m σ' H' ->
   (J.stop i H'/\Q (.ref D) H')\/(J.go i H'/\∀x H2,J.Ae i H' x H2->g x σ' H2 λσ3 H3=>tt σ3 H3 λb H4 =>
    if b=true then te σ3 H4 λv H5=>∃xs,H5 D=some (.lst xs)/\xs.length<sizeLine/\∃m',m'<m/\W (i+1) m' σ3 (upd H5 D (.lst (xs++[v])))
    else ∃m',m'<m/\W (i+1) m' σ3 H4))(hR:∀σ' H' s',Inv (mq X Nc scope (s.heap.objs.size+1) fp s H) [] σ' H' s'->(∀b∈fp,H' b=none)->Q (.ref s.heap.objs.size) H'->R (.ref s.heap.objs.size) (s.heap.objs.size+1) (.ok .next) s'):
  wpAny (model X.prog X.w) X.A (newList []) (λacc s₃=>wpAny (model X.prog X.w) X.A (newFunctionEnv scope X.env.globals (bR X.env scope.names []) [] X.env.qual none .none (some X.env)) (λcenv s₄ =>
   codeAny (model X.prog X.w) X.A (.compStart (.ListComp elt [⟨tg,iter,ifs,0⟩] scope pos) 0 (.ref it) acc { cenv with scope:=relabel scope X.env }) (R acc cenv.locals) s₄) X.xe s₃) X.xe s:=by
 obtain⟨W,⟨m0,w0⟩,turn⟩:=h s.heap.objs.size (I.aq.fresh (Nat.le_refl _));refine wpAny_newObj_type (pQ ?_);have I4:=wz (t':=s.toks) S I f (λb hb=>let⟨o,e,_⟩:=T.obj _ _ st b hb;⟨o,e⟩);have hsz:(s.heap.push { cls:=.type "list",dict:=none,data:=.seq ([]:List Value).toArray }).objs.size=s.heap.objs.size+1:=Heap.size_push ..;dsimp only;rw[hsz];have LW:tn 0 (pushCells ((s.heap.push { cls:=.type "list",dict:=none,data:=.seq ([]:List Value).toArray }).push { cls:=.type "dict",data:=.dict #[] }) scope.names) :=
  T.keep _ _ _ st λb _ o e=>pushCells_keeps _ _ b o (Heap.get?_push_of_some _ (Heap.get?_push_of_some _ e))
 have OO:∀b∈fp,upd H s.heap.objs.size (.lst []) b=none:=λb hb=>by obtain⟨o,e,_⟩:=T.obj _ _ st b hb;rw[aI (Nat.ne_of_lt (Heap.lt_size e))];exact(f b hb).1
 have qA:∀{H':Hp},(∀b∈fp,H' b=none)->∀b∈fp,lr (mq X Nc scope (s.heap.objs.size+1) fp s H) [] H' b:=λ{H'} hn b hb=>by obtain⟨q1,q2⟩:=I4.ok.KR b hb;exact⟨hn b hb,q1,I4.ok.wc b hb,.inl hb,q2,λp hp=>absurd (show p∈([]:List (Addr×Obj))from hp) (by simp)⟩
 have loop:codeAny (model X.prog X.w) X.A (.compLoop (.ListComp elt [⟨tg,iter,ifs,0⟩] scope pos) 0 (.ref it) (.ref s.heap.objs.size) (mq X Nc scope (s.heap.objs.size+1) fp s H).env)
   (R (.ref s.heap.objs.size) (s.heap.objs.size+1))
   { s with heap:=pushCells ((s.heap.push { cls:=.type "list",dict:=none,data:=.seq ([]:List Value).toArray }).push { cls:=.type "dict",data:=.dict #[] }) scope.names }:=by
  refine u9 (λn s'=>∃i σ' H',Inv (mq X Nc scope (s.heap.objs.size+1) fp s H) [] σ' H' s'/\tn i s'.heap/\(∀b∈fp,H' b=none)/\W i n σ' H') ?_ m0 ⟨0,_,_,I4,LW,OO,w0⟩;rintro n s5 ⟨i,σ5,H5,I5,FJ,HR,w5⟩;rcases turn i n σ5 H5 w5 with⟨stop,qn⟩|⟨go,step⟩
  ·refine av (T.done (mq X Nc scope (s.heap.objs.size+1) fp s H) rfl rfl rfl hc i [] s5 σ5 H5 _ I5 (qA HR) FJ stop) λr s6 ⟨hr,I6⟩=>?_;subst hr;exact hR σ5 H5 s6 I6 HR qn
  refine av (T.item (mq X Nc scope (s.heap.objs.size+1) fp s H) rfl rfl rfl hc i [] s5 σ5 H5 _ I5 (qA HR) FJ go) λr s6 ⟨u,hr,h6⟩=>?_;subst hr;refine av h6 λ_ s7 ⟨x,H7,I7,r7,y7,JG,OP⟩=>?_;have OQ:=I7.pinned (qA OP) (T.obj _ _ JG);refine av (hg _ s7 σ5 H7 x u _ OQ r7 (step x H7 y7)) λ_ s8 ⟨σ8,H8,I8,q8⟩=>?_;refine av (ht _ s8 σ8 H8 _ I8 q8) λb s9 ⟨H9,I9,q9⟩=>?_;have again:∀{s':Shared}{σ':St}{H':Hp},Inv (mq X Nc scope (s.heap.objs.size+1) fp s H) ([]++oS fp s7.heap) σ' H' s'->tn (i+1) s'.heap/\∀b∈fp,H' b=none:=λ{s' σ' H'} I'=>by refine⟨T.keep _ _ _ JG λb hb o e=>(I'.pin (b,o) (List.mem_append_right _ (List.mem_append_right _ (dW hb e)))).1,λb hb=>?_⟩;obtain⟨o,e,d⟩:=T.obj _ _ JG b hb;exact(I'.pin (b,o) (List.mem_append_right _ (List.mem_append_right _ (dW hb e)))).2.1
  cases b with
  |false =>
   rw[if_neg Bool.false_ne_true]at q9 ⊢;obtain⟨m',hm,w9⟩:=q9;obtain⟨a1,a2⟩:=again I9;exact⟨m',hm,i+1,σ8,H9,I9.dv,a1,a2,w9⟩
  |true =>
   rw[if_pos rfl]at q9 ⊢;refine av (he _ s9 σ8 H9 _ I9 q9) λv OR ⟨x',LX,OS,OT,xs,eD,bM,m',hm,OU⟩=>?_;refine av (dY (X:=mq X Nc scope (s.heap.objs.size+1) fp s H) _ OR σ8 LX (.ref s.heap.objs.size) [x'] (.ref s.heap.objs.size) [v] (λ_ H'=>H'=upd LX s.heap.objs.size (.lst (xs++[x']))) OS rfl (.cons OT .nil)
    ⟨_,xs,x',rfl,rfl,eD,bM,rfl⟩) λ_ Rr ⟨_,Rt,LY,_,OV⟩=>?_
   subst OV;obtain⟨a1,a2⟩:=again LY;exact⟨m',hm,i+1,σ8,_,LY.dv,a1,a2,OU⟩
 exact codeAny_compStart_list loop (T.self X.A 0 _ _ _ LW loop)
theorem comp_back{pins:List (Addr×Obj)}{σ σ':St}{H H':Hp}{s s':Shared}{fp:List Addr}(I:Inv X pins σ H s)(f:∀b∈fp,lr X pins H b)(J:Inv (mq X Nc scope (s.heap.objs.size+1) fp s H) [] σ' H' s'):Inv X pins σ H' s' :=
 I.Cu (ch:=fp) J.os J.base J.aq J.bare λb hb=>let⟨_,q1,_,q3,q4,q5⟩:=f b hb;⟨q3,q1,q4,q5⟩
theorem Inv.DI{pins:List (Addr×Obj)}{σ:St}{H:Hp}{s:Shared}{C:Addr}{h':Heap}(I:Inv X pins σ H s)(f:lr X pins H C)(hs:Heap.SameBut C s.heap h'):Inv X pins σ H { s with heap:=h' } :=
 I.turned (t':=s.toks) (it:=C) (λb o hb e=>(hs.2 b hb).trans e) f.1 f.2.1 f.2.2.2.1 f.2.2.2.2.1 f.2.2.2.2.2
theorem je(hc:X.calm=true)(S:cN X Nc ix scope)(hi:PI X tg iter wi)(hb:∀(C:Addr)(fp:List Addr)(s:Shared)(H:Hp),PG (mq X Nc scope C fp s H) tg g/\Kc (mq X Nc scope C fp s H) ifs tt/\PE (mq X Nc scope C fp s H) elt te)(hs:∀x,foldedSetIterable iter X.env x=pure x:=by intro _;rfl):PE X (.ListComp elt [⟨tg,iter,ifs,0⟩] scope pos) (ON wi ix g tt te):=by intro pins s σ H Q I h;rw[eval_ListComp];refine wpAny_comprehension_free (use:=none) rfl hs (l7 (S.cells I)) S.kind S.loc (av (hi pins s σ H _ I h) λv s1 h1=>av h1 λK0 s2 h2=>?_);obtain⟨it,fp,tn,J,H2,e,I2,T,K4,f2,q2⟩:=h2;subst e;obtain⟨hg,ht,he⟩:=hb (s2.heap.objs.size+1) fp s2 H2;refine w6 (R:=λacc C=>compPost (model X.prog X.w) X.A X.xe none (EP X pins σ Q) acc C) hc S I2 T K4 f2 hg ht he q2 λσ' H' s' J' Ru q'=>?_;obtain⟨m,hn,_⟩:=J'.loc;refine⟨m,hn,λh' nG=>⟨.ref _,H',?_,rfl,q'⟩⟩;exact(comp_back I2 f2 J').DI (I2.p9 (Nat.le_succ _) J'.free) nG
theorem jx{i:Nat}{y:Str}{py LZ:Pos}(hN:X.N.Nodup)(hy:X.N[i]?=some y)(hl:Loc X.env.scope y)(hc:X.calm=true)(S:cN X Nc ix scope)(hi:PI X tg iter wi)(hb:∀(C:Addr)(fp:List Addr)(s:Shared)(H:Hp),PG (mq X Nc scope C fp s H) tg g/\Kc (mq X Nc scope C fp s H) ifs tt/\PE (mq X Nc scope C fp s H) elt te)(Rv:swapsWith (.ListComp elt [⟨tg,iter,ifs,0⟩] scope pos) (some (.Name y py)) LZ.line X.env=pure true:=by rfl)(hs:∀x,foldedSetIterable iter X.env x=pure x:=by intro _;rfl)(hf:X.fn y=true\/X.env.scope.names.lookup y=some .local:=by first|exact .inl rfl|exact .inr rfl|assumption):
  PS X (.Assign [.Name y py] (.ListComp elt [⟨tg,iter,ifs,0⟩] scope pos) LZ) (IW (ON wi ix g tt te) (m7 i)):=by
 intro pins s σ H D I h;rw[exec_Assign_Name_used _ _ _ _ Rv];refine wpAny_bind (wpAny_standAt (wpAny_bind ?_));show wpAny _ X.A (do let _ <- comprehension (.ListComp elt [⟨tg,iter,ifs,0⟩] scope pos) scope X.env _ (newList []) false (eval iter X.env) (some (assign (.Name y py) X.env))) _ _ s
 refine wpAny_bind (wpAny_mono (wpAny_comprehension_free (use:=some (assign (.Name y py) X.env)) (Q:=λ_ s'=>SP X pins D .next s') rfl hs (l7 (S.cells I)) S.kind S.loc
  (av (hi pins s σ H _ I h) λv s1 h1=>av h1 λK0 s2 h2=>?_)) (λ_ s' hq=>wpAny_pure (wpAny_pure hq)) λ_ _ e=>e)
 obtain⟨it,fp,tn,J,H2,e,I2,T,K4,f2,q2⟩:=h2;subst e;obtain⟨hg,ht,he⟩:=hb (s2.heap.objs.size+1) fp s2 H2;refine w6 (Q:=λx H1=>m7 i x σ H1 D.nx) (R:=λacc C=>compPost (model X.prog X.w) X.A X.xe (some (assign (.Name y py) X.env)) (λ_ s'=>SP X pins D .next s') acc C) hc S I2 T K4 f2 hg ht he q2 λσ' H' s' J' Ru q'=>?_;obtain⟨m,hn,_⟩:=J'.loc;have I3:=comp_back I2 f2 J';have fC:=I2.p9 (Nat.le_succ _) J'.free;show wpAny _ X.A (assign (.Name y py) X.env (.ref s2.heap.objs.size)) _ _ s';refine wpAny_assign_Name (tY (v:=.ref s2.heap.objs.size) I3 hN hy hl rfl (λs4 I4 ⟨a,mr,ha⟩=>?_) hf);have Rw:s2.heap.objs.size+1≠a:=by
  rcases ha with z|z
  ·rw[z];exact fC.2.1
  exact Ne.symm (fC.2.2.2.2.1 y a z)
 refine⟨m,hn.sameBut mr Rw,λh' nG=>⟨_,H',I4.DI fC nG,q'⟩⟩
end
structure zG(P:Program)(w:World)(outer:List Env)(H:Hp)(s:Shared)(a C:Addr)(a0:Value)(B:Heap)(H':Hp)(s':Shared):Prop where
 os:s'.os=s.os
 bare:AllBare s'.gens
 un:Un (fJ outer) [] H H' s.heap s'.heap
 aq:lG P w H' s'.heap
 sV:Heap.FlyingW B outer a (.ref C) a0 s'.heap
 yY:∀b o,s.heap.get? b=some o->b∉fJ outer->∃o',B.get? b=some o'
 wb:∀b u,H' b=some u->∃o',B.get? b=some o'
def qT(P:Program)(w:World):y8:=λouter H s E e s'=>∃(a C:Addr)(a0:Value)(B:Heap)(H':Hp),e=.ref a/\zG P w outer H s a C a0 B H' s'/\E (.ref C) none H'
theorem qU{l:List Env}{b:Addr}{base h:Heap}(F:h.FunFrames base l)(hb:b∈fJ l):base.get? b=none/\∃o,h.get? b=some o/\∀vs,o.data≠.fields vs:=F.mem hb
theorem w8{outer:List Env}{H H':Hp}{h h1 h2 B:Heap}(u:Un (fJ outer) [] H H' h h1)(F:h1.FunFrames B outer)(La:B.StaysIn h1)(Lb:B.StaysIn h2)(up:h1.UpToSlots h2)(yY:∀b o,h.get? b=some o->b∉fJ outer->∃o',B.get? b=some o'):Un (fJ outer) [] H H' h h2:=by
 have at2:∀b o,h.get? b=some o->b∉fJ outer->∀o1,h1.get? b=some o1->h2.get? b=some o1:=λb o e hb o1 e1=>by obtain⟨o',eB⟩:=yY b o e hb;have q:=La b o' eB;rw[e1]at q;cases q;exact Lb b _ eB
 refine⟨λb o e n hb hx=>at2 b o e hb o (u.keep b o e n hb hx),λb o e n hb hx=>?_,u.free,λb o e hx=>?_,u.mw,u.lh,u.mx⟩
 ·obtain⟨sl,e1⟩:=u.slot b o e n hb hx;obtain⟨_,o1,q1,q2⟩:=qU F hb;rw[e1]at q1;cases q1;obtain⟨Bf,e2⟩:=up b _ e1 q2;exact⟨Bf,e2⟩
 obtain⟨o1,e1⟩:=u.there b o e hx;by_cases hb:b∈fJ outer
 ·obtain⟨_,o2,q1,q2⟩:=qU F hb;obtain⟨Bf,e2⟩:=up b _ q1 q2;exact⟨_,e2⟩
 exact⟨o1,at2 b o e hb o1 e1⟩
theorem oZ{P:Program}{w:World}{H:Hp}{h1 h2 B:Heap}(x:lG P w H h1)(La:B.StaysIn h1)(Lb:B.StaysIn h2)(wb:∀b u,H b=some u->∃o',B.get? b=some o'):lG P w H h2:=λb o e=>by
 refine(x b o e).ic (λc u hc q=>?_) (λ_ q=>q) λ_ _ q=>q;have ht:∃o',B.get? c=some o':=by
  rcases hc with z|z
  ·rw[z];exact wb b o e
  exact wb c _ z
 obtain⟨o',eB⟩:=ht;have q1:=La c o' eB;rw[q]at q1;cases q1;exact Lb c _ eB
structure Body(X:Cx)(E:XK):Prop where
 xe:X.xe=λe s'=>wpAny (model X.prog X.w) X.A (leaving X.env e) (λ_ Iq=>qT X.prog X.w X.outer X.H₀ X.s₀ E e Iq) (λe' Iq=>qT X.prog X.w X.outer X.H₀ X.s₀ E e' Iq) s'
 yX:X.stack=X.env::X.outer
 fr:X.env.frame=some X.env.locals
 ex:X.ex=[]
section
variable{X:Cx}{E:XK}{pins:List (Addr×Obj)}{σ:St}{H:Hp}{s:Shared}
theorem Inv.old(I:Inv X pins σ H s){b:Addr}{o:Obj}(e:X.s₀.heap.get? b=some o):b≠X.env.locals:=Nat.ne_of_lt (Nat.lt_of_lt_of_le (Heap.lt_size e) I.ok.above)
theorem Body.base(Bd:Body X E)(I:Inv X pins σ H s):Un X.fs [] X.H₀ H X.s₀.heap s.heap:=by have q:=I.base;rw[Bd.ex]at q;exact q
theorem Body.xA(Bd:Body X E){b:Addr}(h1:b≠X.env.locals)(h2:b∉fJ X.outer):b∉fJ X.stack:=by
 rw[Bd.yX];intro z;obtain⟨env,he,hf⟩:=List.mem_filterMap.mp z;rcases List.mem_cons.mp he with rfl|he
 ·rw[Bd.fr]at hf;exact h1 (Option.some.inj hf).symm
 exact h2 (List.mem_filterMap.mpr ⟨env,he,hf⟩)
theorem nH(Bd:Body X E):gb (qT X.prog X.w) X E:=by
 intro pins σ H s e s' I h;obtain⟨a,C,a0,B,H',rfl,T,q⟩:=h;rw[Bd.xe];have Kb:X.A.frames=some (X.env::X.outer):=by rw[<-Bd.yX];exact I.ok.frames
 have sV:=T.sV;rw[Bd.yX]at sV;refine wpAny_leaves_onW Kb Bd.fr sV λh' JH up=>?_;have yY:∀b o,X.s₀.heap.get? b=some o->b∉fJ X.outer->∃o',B.get? b=some o':=λb o e hb=>by obtain⟨o1,e1⟩:=(Bd.base I).there b o e (by simp);exact T.yY b o1 e1 (Bd.xA (I.old e) hb)
 have u1:Un (fJ X.outer) [] X.H₀ H' X.s₀.heap s'.heap:=by
  have ub:=Bd.base I;refine⟨λb o e n hb hx=>T.un.keep b o (ub.keep b o e n hb hx) (ub.free b o e n hx) (Bd.xA (I.old e) hb) (by simp),λb o e n hb hx=>?_,λb o e n hx=>?_,λb o e hx=>?_,λb xs e=>T.un.mw b xs (ub.mw b xs e),
   λb o xs e=>T.un.lh b o xs (ub.lh b o xs e),λb ps e=>?_⟩
  ·obtain⟨sl,e1⟩:=ub.slot b o e n hb hx;obtain⟨IM,e2⟩:=T.un.any e1 (ub.free b o e n hx) (by simp);exact⟨IM,e2⟩
  ·obtain⟨o1,e1⟩:=ub.there b o e hx;exact T.un.free b o1 e1 (ub.free b o e n hx) (by simp)
  ·obtain⟨o1,e1⟩:=ub.there b o e hx;exact T.un.there b o1 e1 (by simp)
  obtain⟨m1,e1⟩:=ub.mx b ps e;obtain⟨m2,e2⟩:=T.un.mx b _ e1;exact⟨m1++m2,by rw[e2,Array.append_assoc]⟩
 have F':s'.heap.FunFrames B X.outer:=by obtain⟨_,_,⟨_,_,k⟩,_⟩:=sV;exact k
 exact⟨a,C,a0,B,H',rfl,⟨T.os.trans I.os,T.bare,w8 u1 F' sV.1 JH.1 up yY,oZ T.aq sV.1 JH.1 T.wb,JH,yY,T.wb⟩,q⟩
theorem DJ{K:PySem.W.Frag}{h:Heap}{mg:Str->Option Value}{x:Str}{C:Addr}{Lc:List Value}{newId:String}(KX:K.In h)(hm:mg x=some (.ref C))(q:PySem.W.excIn K C Lc newId=true):OwnCls x C Lc newId mg h:=by
 refine⟨hm,?_⟩;unfold PySem.W.excIn at q;split at q
 ·rename_i dd cd sl ho;split at q
  ·rename_i C' bm k0 k1 k2 k3 n k5 Aq hs;simp only[Bool.and_eq_true,beq_iff_eq,Bool.not_eq_true']at q;obtain⟨⟨⟨⟨⟨rfl,rfl⟩,Ld⟩,ht⟩,aq⟩,M7⟩:=q;obtain⟨nm,bs,mro,ns,qn,hd,sn,sub,ab,col,del⟩:=cd;dsimp only at Aq Ld aq M7;subst Aq Ld;have DK:sl=#[k0,k1,k2,k3,some (.builtin n),k5]:=by obtain⟨l⟩:=sl;simp only at hs;rw[hs]
   subst DK;exact⟨bm,ns,nm,qn,bs,hd,sn,sub,ab,col,dd,k0,k1,k2,k3,k5,_,KX _ _ ho,.of_isNs (PySem.W.isNs_of_in KX aq),PySem.W.nsMap_none_of_in KX aq M7,PySem.W.tail_of_in KX ht⟩
  cases q
 cases q
def JI(C:Addr)(E:XK)(t:TA):TS:=λ_ σ H=>t σ H λvs H1=>vs.length<=sizeLine/\E (.ref C) none H1
theorem iK{x:Str}{np dz pos:Pos}{e:Expr}{es:List Expr}{t:TA}{C:Addr}{Lc:List Value}{B newId JJ:String}(Bd:Body X E)(hc:X.calm=true)(hg:Gl X x)(hm:X.mg x=some (.ref C))(hk:PySem.W.excIn X.K C Lc newId=true)(FB:ExcBaseFacts B newId JJ Lc)(ha:PA X (e::es) t)(he:starEach (e::es) X.env=(false,eval e X.env)::starEach es X.env:=by rfl)(wV:(backTo dz (starEach es X.env)).any (·.1)=false:=by rfl)(C6:(x==("__debug__":Str))=false:=by decide):
  PS X (.Raise (some (.Call (.Name x np) (e::es) [] dz)) none pos) (JI C E t):=by
 intro pins s σ H D I h;have O:=DJ (I.mod.FC) hm hk;obtain⟨tl,N,nm,q,bs,hdct,sn,sub,ab,col,dd,k0,k1,k2,k3,k5,mN,hC,hN,M7,T⟩:=O.obj;refine wpAny_Raise_call_subT (C:=C) (nm:=nm) (q:=q) (N:=N) (bs:=bs) (bm:=tl) (hdct:=hdct) (sn:=sn) (sub:=sub) (ab:=ab) (col:=col) (dd:=dd) (k0:=k0) (k1:=k1) (k2:=k2) (k3:=k3) (k5:=k5)
  FB (mN:=mN) (T.hasType FB.hasBase) (I.ok.hd hc) (by rw[he];show(false||(backTo dz (starEach es X.env)).any (·.1))=false;rw[wV];rfl) M7 (qQ I hg hm ⟨rfl,?_⟩ C6)
 have hA:=ha dz pins s σ H _ I h;rw[he]at hA ⊢;refine Calls.evalArgs_plain (av hA λus s2 ⟨vs,H2,I2,r,hz,q2⟩=>?_);refine⟨rfl,by rw[<-r.length];exact hz,I2.bk _ _ hC,hN.keeps I2.bk,T.keeps I2.bk,λh' a hx=>?_⟩;rw[Bd.xe];have Kb:X.A.frames=some (X.env::X.outer):=by rw[<-Bd.yX];exact I.ok.frames
 have yZ:∀env∈X.stack,∀b,env.frame=some b->b∈fJ X.stack:=λenv he b hb=>List.mem_filterMap.mpr ⟨env,he,hb⟩;have F0:s2.heap.FunFrames (PySem.W.hideAll s2.heap (fJ X.stack)) X.stack:=PySem.W.funFrames_hide I2.stack yZ;have F1:s2.heap.FunFrames (PySem.W.hideAll s2.heap (fJ X.stack)) (X.env::X.outer):=by rw[<-Bd.yX];exact F0
 have OW:(PySem.W.hideAll s2.heap (fJ X.stack)).StaysIn s2.heap:=λb o q=>PySem.W.of_hideAll _ q;have HX:∀b o,s2.heap.get? b=some o->b∉fJ X.stack->(PySem.W.hideAll s2.heap (fJ X.stack)).get? b=some o:=λb o e hb=>PySem.W.hideAll_get _ e hb;refine wpAny_leaves_madeW Kb Bd.fr OW F1 hx λOX t sV tup tn up=>?_;have yY:∀b o,X.s₀.heap.get? b=some o->b∉fJ X.outer->∃o',(PySem.W.hideAll s2.heap (fJ X.stack)).get? b=some o':=λb o e hb=>by obtain⟨o1,e1⟩:=(Bd.base I2).there b o e (by simp);exact⟨o1,HX b o1 e1 (Bd.xA (I2.old e) hb)⟩
 have wb:∀b u,H2 b=some u->∃o',(PySem.W.hideAll s2.heap (fJ X.stack)).get? b=some o':=λb u e=>by
  have hb:b∉fJ X.stack:=λz=>by rw[I2.uk b z]at e;cases e
  have bM:=I2.aq.lt e;obtain⟨o1,e1⟩:∃o1,s2.heap.get? b=some o1:=by
   cases hq:s2.heap.get? b with
   |some o1=>exact⟨o1,rfl⟩
   |none=>exact absurd hq (xB (I2.aq b u e))
  exact⟨o1,HX b o1 e1 hb⟩
 have F2:s2.heap.FunFrames (PySem.W.hideAll s2.heap (fJ X.stack)) X.outer:=by obtain⟨_,_,k⟩:=F1;exact k
 have Rx:s2.heap.UpToSlots OX:=(Heap.UpToSlots.of_keeps hx.keeps).trans up;exact⟨a,C,.ref t,_,H2,rfl,⟨I2.os,I2.bare,w8 (Bd.base I2) F2 OW sV.1 Rx yY,oZ I2.aq OW sV.1 wb,sV,yY,wb⟩,q2⟩
where
 xB {P:Program} {w:World} {H:Hp} {h:Heap} {a:Addr} {o:HO} (x:ax P w H h a o):h.get? a≠none:=by
  cases o with
  |lst xs=>obtain⟨_,_,_,_,e⟩:=x;rw[e];simp
  |tup xs=>obtain⟨_,_,_,ob,e,_⟩:=x;rw[e];simp
  |dK kvs=>obtain⟨_,_,_,_,o,_,_,e,_⟩:=x;rw[e];simp
  |dT kvs=>obtain⟨_,_,_,_,o,_,_,e,_⟩:=x;rw[e];simp
  |set S n=>obtain⟨o,_,_,_,e,_⟩:=x;rw[e];simp
  |ins C dx fs=>obtain⟨_,_,_,e,_⟩:=x;rw[e];simp
  |own y=>obtain⟨_,e⟩:=x;rw[e];simp
  |xd fs=>obtain⟨_,⟨_,_,_,e,_⟩,_⟩:=x;rw[e];simp
  |My lo hi=>obtain⟨_,_,_,e⟩:=x;rw[e];simp
  |yk ob u=>obtain⟨e,_⟩:=x;rw[e];simp
  |HK ps=>have e:h.get? a=some _:=x;rw[e];simp
  |met f y=>have e:h.get? a=some _:=x;rw[e];simp
  |ext φ=>obtain⟨_,⟨_,e⟩,_⟩:=x;rw[e];simp
end
def ExcAt(a C:Addr)(h:Heap):Prop:=∃oe vs,h.get? a=some oe/\oe.cls=.ref C/\oe.data=.fields vs
theorem vA{K:PySem.W.Frag}{M:Model}{h:Heap}{C:Addr}(KX:K.In h)(z0:(PySem.W.clsIn K C).isSome=true):PySem.W.Looks M h (isType (.ref C)) true:=by
 unfold PySem.W.clsIn at z0;split at z0
 ·rename_i c' d' Ry IM ho;intro A' Q' E' s' k q;unfold isType loadHead;exact wpAny_bind (wpAny_loadPart (k _ _ (KX _ _ ho)) (wpAny_pure q))
 cases z0
section
variable{X:Cx}{E:XK}{pins:List (Addr×Obj)}{σ:St}{H:Hp}{s:Shared}{a:Addr}
end
structure l9(K:PySem.W.Frag)(C:Addr):Prop where
 ga:PySem.W.findIn K (.ref C) "__getattribute__"=some (some (.builtin "BaseException.__getattribute__"))
 Rz:PySem.W.findIn K (.ref C) "__getattr__"=some none
 at_:PySem.W.findIn K (.ref C) "__class__"=some (some (.builtin "object.__class__"))
 cls:(PySem.W.clsIn K C).isSome=true
 obj:PySem.W.mroIn K C (.type "object")=some true
 base:PySem.W.subIn K (.ref C) (.type "BaseException")=some true
section
variable{prog:Program}{w:World}{A:Around}{E:Value->Shared->Prop}{h:Heap}{g:Array GenState}{d:Drawn}{t:Nat}{os:OsState}{K:PySem.W.Frag}{a C:Addr}
theorem ExcAt.type{M:Model}(x:ExcAt a C h):PySem.W.Looks M h (typeOf (.ref a)) (.ref C):=by obtain⟨oe,vs,he,hc,hd⟩:=x;exact hc▸(PySem.W.Looks.ld he).andThen .now
open PySem.W Builtin Builtin.ObjectAttr Builtin.Getset_descriptor in
theorem sW{R:Result->Shared->Prop}{tp:Value}(KX:K.In h)(x:ExcAt a C h)(c:l9 K C)(hq:R (.ok (.ret (.ref C))) ⟨h,g,d,t,os⟩):
  codeAny (model prog w) A (.call (.builtin "getset_descriptor.__get__") ⟨[.builtin "object.__class__",.ref a,tp],[]⟩) R ⟨h,g,d,t,os⟩:=by
 have L0:=x.type (M:=model prog w);have L1:=looks_mroIn (M:=model prog w) KX c.obj;refine codeAny_call_builtin KF.slot_gs.plain KF.entry_gs (KF.slot_gs.check _ _ _ _ _ _ _ _ KF.type_class (KF.args_gs _ _ _) ?_);unfold Builtin.«getset_descriptor.__get__» descrGet;rw[dga_obj];refine wpAny_bind (wpAny_pure ?_);unfold descrGetter descrCheckInstance descrNameAndClass isInstance;simp only[KF.owner_class]
 repeat lk
 refine⟨Code.quiet_builtin _ (by decide +kernel),codeAny_builtin KF.entry_class ?_⟩;unfold Builtin.«object.__class__» shownTypeOf
 repeat lk
 exact hq
open PySem.W in
theorem Bg{M:Model}{HY:Value}{Q:Unit->Shared->Prop}(KX:K.In h)(x:ExcAt a C h)(c:l9 K C)(hq:Q () ⟨h,g,d,t,os⟩):
  wpAny M A (checkBuiltinCall "BaseException.__getattribute__" ⟨[.ref a,HY],[]⟩) Q E ⟨h,g,d,t,os⟩:=by
 have hk:builtinKind "BaseException.__getattribute__"=some .slot:=by decide +kernel
 have JK:splitId "BaseException.__getattribute__"=some ("BaseException","__getattribute__"):=by decide +kernel
 have ha:=PySem.F.args_bexc_ga (.ref a) HY;have L0:=x.type (M:=M);have L1:=looks_subIn (M:=M) KX c.base;simp only[checkBuiltinCall,hk,JK];refine wpAny_bind ?_;unfold isInstance;refine wpAny_bind (L0.at ?_);refine L1.at ?_
 repeat (first|assumption|wp_step)
open PySem.W in
theorem Bh{tk:Tok}{Q:Fin->Shared->Prop}(KX:K.In h)(x:ExcAt a C h)(c:l9 K C)(hq:Q (.done (.ret (.ref C))) ⟨h,g,d,t,os⟩):
  wpAny (model prog w) A (Builtin.«object.__getattribute__» ⟨[.ref a,.str "__class__" tk],[]⟩) Q E ⟨h,g,d,t,os⟩:=by
 have UZ:(⟨h,g,d,t,os⟩:Shared).TypeIs (.builtin "object.__class__") "getset_descriptor":=PySem.F.typeOf_object_class;have f5:=PySem.F.typeOf_object_class;have f6:=PySem.F.slot_gs_get.lookup;have f7:=PySem.F.slot_gs_set.lookup;have L0:=x.type (M:=model prog w);have L1:=looks_findIn (M:=model prog w) KX c.at_
 repeat (any_goals (first|assumption|with_reducible refine L0.at ?_|with_reducible refine L1.at ?_|wp_step))
 refine sW KX x c ?_
 repeat (any_goals (first|assumption|wp_step))
open PySem.W in
theorem DL{Q:Option Value->Shared->Prop}(KX:K.In h)(x:ExcAt a C h)(c:l9 K C)(hq:Q (some (.ref C)) ⟨h,g,d,t+1,os⟩):
  wpAny (model prog w) A (getAttr? (.ref a) "__class__") Q E ⟨h,g,d,t,os⟩:=by
 have f3:=PySem.F.excAttr_ValueError.ga.bind (.ref a);have L0:=x.type (M:=model prog w);have L1:=looks_findIn (M:=model prog w) KX c.ga;have L2:=looks_findIn (M:=model prog w) KX c.Rz;have R0:(Value.builtin "BaseException.__getattribute__"==Value.builtin "object.__getattribute__")=false:=by decide +kernel
 have Ua:(onTheHeap (Value.ref C)&&Value.builtin "BaseException.__getattribute__"==Value.builtin "object.__getattribute__")=false:=by rw[R0];rfl
 unfold getAttr? getAttrBy? getAttrBy
 repeat (any_goals (first|assumption|with_reducible refine L0.at ?_|with_reducible refine L1.at ?_|with_reducible refine L2.at ?_|wp_step))
 refine codeAny_call_builtin PySem.F.excAttr_ValueError.ga.plain PySem.F.entry_bexc_ga (Bg KX x c (Bh KX x c ?_))
 repeat (any_goals (first|assumption|wp_step))
open PySem.W in
theorem DM(c:l9 K C):KitX K (.ref a) (.ref C) (ExcAt a C)where
 ty:=λ_ _ _ x=>x.type
 it:=λ_ _ KX _=>vA KX c.cls
 ne:=λh tp dd aM n sl KX xC=>by
  refine Bool.eq_false_iff.mpr λq=>?_;have e:C=tp:=Value.ref.inj (beq_iff_eq.mp q);subst e;have z:=c.cls;unfold PySem.W.clsIn at z;split at z
  ·rename_i c' d' Ry IM ho;have z:=(KX _ _ ho).symm.trans xC;cases z
  cases z
 ca:=λ{prog w A E Q s} KX x k=>by obtain⟨h,g,d,t,os⟩:=s;exact DL KX x c k
end
abbrev TJ:=Str->St->Hp->VK->Prop
def PJ(X:Cx)(es:List Expr)(t:TJ):Prop :=
 ∀(out:Str)(pins:List (Addr×Obj))(s:Shared)(σ:St)(H:Hp)(Q:VK),Inv X pins σ H s->t out σ H Q->wpAny (model X.prog X.w) X.A (joinParts out (evalEach es X.env)) (EP X pins σ Q) X.xe s
section
variable{X:Cx}{e:Expr}{es:List Expr}{te:TE}{t:TJ}{pos:Pos}
def OY:TJ:=λout _ H Q=>out.length<=sizeLine/\Q (.str out) H
theorem vB:PJ X [] OY:=λout pins s σ H Q I h=>joinParts_nil (show EP X pins σ Q (.str out s.toks) { s with toks:=s.toks+1 }from⟨.str out,H,I.tok _,⟨_,rfl⟩,h.2⟩) h.1
def Le(te:TE)(t:TJ):TJ:=λout σ H Q=>te σ H λv H1=>∃y,v=.str y/\(out++y).length<=sizeLine/\t (out++y) σ H1 Q
theorem cP(he:PE X e te)(hr:PJ X es t):PJ X (e::es) (Le te t):=by intro out pins s σ H Q I h;refine joinParts_consE (joinParts_cons (av (he pins s σ H _ I h) λv s1 ⟨x,H1,I1,r1,y,ex,hz,q⟩=>?_));subst ex;obtain⟨tk,rfl⟩:=r1;exact⟨hz,hr _ pins s1 σ H1 Q I1 q⟩
theorem qV{e1 e2:Expr}{rest:List Expr}(h:PJ X (e1::e2::rest) t):PE X (.JoinedStr (e1::e2::rest) pos) (λσ H Q=>t Str.empty σ H Q):=λpins s σ H Q I hw=>JoinedStr_many (h Str.empty pins s σ H Q I hw)
def Lf(te:TE):TE:=λσ H Q=>te σ H λv H1=>∃i,v=.int i/\i.natAbs.log2<1920/\Q (.str (toString i)) H1
theorem nI(he:PE X e te):PE X (.FormattedValue e (-1) none pos) (Lf te):=by intro pins s σ H Q I h;refine FormattedValue_plain (av (he pins s σ H _ I h) λv s1 ⟨x,H1,I1,r1,i,ex,hi,q⟩=>?_);subst ex;obtain⟨tk,rfl⟩:=r1;exact formatField_int_small hi ⟨.str _,H1,I1.tok _,⟨_,rfl⟩,q⟩
def Lg(te:TE):TE:=λσ H Q=>te σ H λv H1=>∃y,v=.str y/\(reprText y).length<=sizeLine/\Q (.str (reprText y)) H1
theorem Fe(he:PE X e te):PE X (.FormattedValue e 114 none pos) (Lg te):=by intro pins s σ H Q I h;refine wpAny_FormattedValue_repr (av (he pins s σ H _ I h) λv s1 ⟨x,H1,I1,r1,y,ex,hi,q⟩=>?_);subst ex;obtain⟨tk,rfl⟩:=r1;refine pyReprObj_str ?_ hi;exact formatField_str (λt' tk=>⟨.str _,H1,(I1.tok _).tok _,⟨_,rfl⟩,q⟩) hi
theorem jy{i:Int}{n:Nat}(h:i.natAbs<2 ^ n)(hn:n<=1920)(h0:0<n):i.natAbs.log2<1920:=by
 by_cases z:i.natAbs=0
 ·rw[z];decide
 have:=(Nat.log2_lt z).mpr h;lia
end
theorem PS.wU{X:Cx}{st:Stmt}{t:TS}(h:PS X.wU st t):PS X st t:=λpins s σ H D I hw =>
 wpAny_mono (h pins s σ H D (I.p8 _) hw) (λ_ _ q=>q.eF) λ_ _ z=>False.elim z
theorem au{X:Cx}:gb (qT X.prog X.w) X E0:=λ_ _ _ _ _ _ _ h=>by obtain⟨_,_,_,_,_,_,_,q⟩:=h;exact q.elim
structure Def(P:Program)(w:World)(K:PySem.W.Frag)(mg:Str->Option Value)(base:Heap)(k:Nat)(x:Str)(ps:List Str)(sp:Sp):Prop where
 ex:∃(f:Addr)(fd:FuncData),dQ P w K mg base (qT P w) k f fd ps sp/\mg x=some (.ref f)/\PySem.W.keepIn K (.ref f)=true/\Binds K fd ps []
section
variable{P:Program}{w:World}{K:PySem.W.Frag}{mg:Str->Option Value}{base:Heap}
theorem Def.mono{j k:Nat}{x:Str}{ps:List Str}{sp:Sp}(D:Def P w K mg base j x ps sp)(h:j<=k):Def P w K mg base k x ps sp:=let⟨f,fd,a,r⟩:=D.ex;⟨f,fd,a.mono h,r⟩
structure aK(K:PySem.W.Frag)(mg:Str->Option Value)(x:Str)(st:Stmt):Prop where
 ex:∃(f:Addr)(fd:FuncData),sU K x x st f fd/\mg x=some (.ref f)
theorem aK.mk'{h:Heap}{x:Str}{st:Stmt}{f:Addr}{oc:Value}{od an:Option Addr}{BZ:Array (Option Value)}{kV doc pm bU ct:Value}(KX:K.In h)(G:h.Ns mainGlobals mg)(a:PySem.W.nsIn K mainGlobals x=some (some (.ref f)))(l:K.lookup f=some ⟨oc,od,.func (PySem.W.fnOf x x (cM st) (bX st) (aG st) .none kV doc pm an bU ct),BZ⟩)(c:PySem.W.codeIn K bU x=true)(k:PySem.W.keepIn K (.ref f)=true):aK K mg x st:=⟨f,_,lu l c k,PySem.W.mg_of KX G a⟩
abbrev M8(P:Program)(w:World)(K:PySem.W.Frag)(mg:Str->Option Value)(base:Heap)(N:List Str)(x:Str)(st:Stmt)(f:Addr)(bU:Value)(A:Around)(outer:List Env)(s:Shared)(H:Hp)(E:XK):Cx :=
 BX (qT P w) P w K mg base N x (aG st) f bU A outer s H E
theorem bB{N:List Str}{x:Str}{st:Stmt}{f:Addr}{bU:Value}{A:Around}{outer:List Env}{s:Shared}{H:Hp}{E:XK}:Body (M8 P w K mg base N x st f bU A outer s H E) E:=⟨rfl,rfl,rfl,rfl⟩
theorem aK.def{x:Str}{st:Stmt}{N ps:List Str}{k:Nat}{sp:Sp}(F:aK K mg x st)(S:aQ N ps (aG st))(hb:∀(kV doc pm:Value)(an:Option Addr)(bU ct:Value)(us:List Value),us.length=ps.length->bindArgs (PySem.W.fnOf x x (cM st) (bX st) (aG st) .none kV doc pm an bU ct) ⟨us,[]⟩=pure (ps.zip us))(len:∀vs H Q E,sp vs H Q E->vs.length=ps.length)(qk:∀(f:Addr)(bU:Value)(A:Around)(outer:List Env)(s:Shared)(H:Hp)(vs:List V)(Q:VK)(E:XK),cw k (A.deeper (envOfC x (aG st) s.heap.objs.size f bU))->sp vs H Q E ->
   ∃t,Cj (M8 P w K mg base N x st f bU A outer s H E) (bX st) t/\t { nx:=λ_ H'=>Q .ba H',rt:=Q } (start N vs) H):Def P w K mg base (k+1) x ps sp:=by
 obtain⟨f,fd,F1,hm⟩:=F.ex;have b:=F1.binds hb;have kp:=F1.kp;obtain⟨oc,od,kV,doc,pm,an,bU,ct,BZ,rfl,lk,wR⟩:=F1.ex;exact⟨f,_,C9 lk wR S len λA outer s H vs Q E hr Aj=>qk f bU A outer s H vs Q E hr Aj,hm,kp,b⟩
end
section
variable{X:Cx}{k:Nat}{ps:List Str}{sp:Sp}{E:XK}{x:Str}{p pos:Pos}{e:Expr}{es:List Expr}{t:TA}
theorem aV(D:Def X.prog X.w X.K X.mg X.base k x ps sp)(hr:cw k X.A)(hx:gb (qT X.prog X.w) X E)(ha:PA X (e::es) t)(hg:Gl X x:=by rfl)(C6:(x==("__debug__":Str))=false:=by decide)(he:starEach (e::es) X.env=(false,eval e X.env)::starEach es X.env:=by rfl)(wV:(backTo pos (starEach es X.env)).any (·.1)=false:=by rfl):
  PE X (.Call (.Name x p) (e::es) [] pos) (HU sp [] E t):=by
 obtain⟨f,fd,F,hm,hk,hb⟩:=D.ex;exact FR F hr hg hm hk hb .nil hx ha C6 he wV
end
section
variable{X:Cx}
def HZ(K:PySem.W.Frag):R2:=λx y H Q=>∃l b xs zs,x=.ref l/\y=.ref b/\ag K H l xs/\ag K H b zs/\xs.length+zs.length<=sizeLine/\∀p,H p=none->Q (.ref p) (upd H p (.lst (xs++zs)))
theorem Ff:ij X (binaryOp .Add) (HZ X.K):=by
 intro pins s σ H x y v u Q I rx ry h;obtain⟨l,b,xs,zs,rfl,rfl,hH,hB,hz,q⟩:=h;cases rx;cases ry;obtain⟨aM,r,pl,_⟩:=I.list hH;obtain⟨jn,r2,R1,_⟩:=I.list hB;obtain⟨⟨cls,dd,data,sl⟩,ho,hc,n,hd⟩:=id pl.isList;obtain⟨⟨OZ,JL,data2,Bf⟩,Lh,Li,n2,hd2⟩:=id R1.isList;simp only at hc hd Li hd2;subst hc hd Li hd2;have e:aM.toArray++jn.toArray=(aM++jn).toArray:=by simp
 have hsz:aM.toArray.size+jn.toArray.size<=sizeLine:=by rw[List.size_toArray,List.size_toArray,<-r.length,<-r2.length];exact hz
 refine concat_meets ⟨_,ho,rfl⟩ ⟨_,Lh,rfl⟩ noFill_list_add seq_list_add PySem.F.slot_list_add PySem.F.entry_list_add (PySem.F.args_list_add_2 _ _) (list_addW l b aM.toArray jn.toArray n n2 dd JL sl Bf hsz) ⟨ho,Lh,?_⟩;rw[e];exact⟨.ref _,_,I.LQ (t':=s.toks) (r.append r2) (by rw[List.length_append];exact hz),rfl,q _ I.fresh⟩
def Lj:V->Value->Prop
 |.ty n,c=>c=.type n
 |.ref a,c=>c=.ref a
 |_,_=>False
theorem DN{v:V}{c u:Value}(h:Lj v c)(r:RelV v u):u=c:=by
 cases v with
 |ty n=>exact(show u=Value.type n from r).trans (show c=Value.type n from h).symm
 |ref a=>exact(show u=Value.ref a from r).trans (show c=Value.ref a from h).symm
 |_=>exact h.elim
inductive Oa(K:PySem.W.Frag)(H:Hp):V->Value->Prop where
 |of{x:V} {t:Value}:oW K H x t->Oa K H x t
 |exc {a C:Addr}:H a=some (.ext (ExcAt a C))->l9 K C->Oa K H (.ref a) (.ref C)
def Lk(K:PySem.W.Frag):List V->Hp->VK->Prop:=λxs H Q=>∃x y t c b,xs=[x,y]/\Lj y c/\Oa K H x t/\PySem.W.kitOne K t c=some b/\Q (.bl b) H
theorem DO:bY X (.builtin "isinstance") (Lk X.K):=by
 intro pins s σ H vs us Q I rv h;obtain⟨x,y,t,c,b,rfl,hc,ty,e,q⟩:=h;obtain⟨u,v,rfl,ru,sR⟩:=rv.two;obtain rfl:=DN hc sR;cases ty with
 |of ty=>exact BW I ru ty e λtk=>⟨.bl b,H,I.tok _,rfl,q⟩
 |exc ex ec =>
  cases ru;exact PySem.W.kia_one (DM ec) I.pJ (I.aq _ _ ex).1 e (λz=>nomatch z) λtk=>⟨.bl b,H,I.tok _,rfl,q⟩
end
theorem JM{X:Cx}(K:PySem.W.Frag){e1 e2:Expr}{t:TA}{p pos:Pos}(hm:X.mg "isinstance"=none)(ha:PA X [e1,e2] t)(hK:X.K=K:=by rfl)(hg:Gl X "isinstance":=by rfl)(he:starEach [e1,e2] X.env=(false,eval e1 X.env)::starEach [e2] X.env:=by rfl)(wV:(backTo pos (starEach [e2] X.env)).any (·.1)=false:=by rfl):
  PE X (.Call (.Name "isinstance" p) [e1,e2] [] pos) (N8 (Lk K) t):=by
 subst hK;exact aX DO hg hm boot_isinstance ha (by decide) (by decide) he wV
def uI(K:PySem.W.Frag):Sp:=λvs H Q _=>∃(a:Addr)(ns:List Int),vs=[.ref a]/\ag K H a (ns.map V.int)/\ns.length<=63/\∀H',Q (.bl true) H'
section
variable{P:Program}{w:World}{K:PySem.W.Frag}{mg:Str->Option Value}{base:Heap}
theorem sU.R3{x:Str}{st:Stmt}{f:Addr}{fd:FuncData}{N ps:List Str}{k:Nat}{sp:Sp}(F:sU K x x st f fd)(S:aQ N ps (aG st))(len:∀vs H Q E,sp vs H Q E->vs.length=ps.length)(qk:∀(f:Addr)(bU:Value)(A:Around)(outer:List Env)(s:Shared)(H:Hp)(vs:List V)(Q:VK)(E:XK),cw k (A.deeper (envOfC x (aG st) s.heap.objs.size f bU))->sp vs H Q E ->
   ∃t,Cj (M8 P w K mg base N x st f bU A outer s H E) (bX st) t/\t { nx:=λ_ H'=>Q .ba H',rt:=Q } (start N vs) H):dQ P w K mg base (qT P w) (k+1) f fd ps sp:=by
 obtain⟨oc,od,kV,doc,pm,an,bU,ct,BZ,rfl,lk,wR⟩:=F.ex;exact C9 lk wR S len λA outer s H vs Q E hr Aj=>qk f bU A outer s H vs Q E hr Aj
theorem DP{st:Stmt}{fa:Addr}{k:Nat}(S:aK K mg "law" st)(hb:∀(kV doc pm:Value)(an:Option Addr)(bU ct:Value)(us:List Value),us.length=1->bindArgs (PySem.W.fnOf "law" "law" (cM st) (bX st) (aG st) .none kV doc pm an bU ct) ⟨us,[]⟩=pure ((["script"]:List Str).zip us))(JC:mg "law"=some (.ref fa))(hF:∀(f:Addr)(fd:FuncData)(base:Heap),sU K "law" "law" st f fd->dQ P w K mg base (qT P w) k f fd ["script"] (uI K)):
  ∃fd:FuncData,(∀(s:Shared)(u:Value),BindsTo s fd ⟨[u],[]⟩ [("script",u)])/\∀base:Heap,K.In base->base.Ns mainGlobals mg->dQ P w K mg base (qT P w) k fa fd ["script"] (uI K):=by
 obtain⟨f,fd,F,hm⟩:=S.ex;rw[JC]at hm;cases hm;refine⟨fd,?_,λbase _ _=>hF fa fd base F⟩;obtain⟨oc,od,kV,doc,pm,an,bU,ct,BZ,rfl,lk,wR⟩:=F.ex;exact λs u=>.of_eq (hb kV doc pm an bU ct [u] rfl)
end
theorem DQ{l:PySem.W.OpenLaw}{k:Nat}{q:Program}{loose:List Str}{XP:(Str->Option Value)->Heap->Prop}{YP:World->Heap->Prop}{d:DefRec}{K:Params->PySem.W.Frag}(hr:cw k callerA)(hn:l.most=some 63)(LS:d.params.defaults=[])(hY:∀(w:World)(h:Heap),YP w h->(K w.params).In h)(F:∀(w:World)(mg:Str->Option Value)(fa:Addr)(h:Heap),(K w.params).In h->h.Ns mainGlobals mg->mg d.name=some (.ref fa) ->
   ∃fd:FuncData,(∀(s:Shared)(u:Value),BindsTo s fd ⟨[u],[]⟩ [("script",u)]) /\
    ∀base:Heap,(K w.params).In base->base.Ns mainGlobals mg->dQ l.prog w (K w.params) mg base (qT l.prog w) k fa fd ["script"] (uI (K w.params))):
  PySem.W.WalkO q loose XP YP l.row.toRowW d [] (λf vs=>PySem.call f vs) :=
 Fd (n:=63) (k:=k) (x:="script") (CX:=λw=>qT l.prog w) (sp:=λw=>uI (K w.params)) hn (by decide) LS hr hY F (λ_ _ a ns hl _ hS=>⟨a,ns,rfl,hS,hl,λ_=>rfl⟩)
  λ_ _ _ _ _ h=>by obtain⟨_,_,_,_,_,_,_,q⟩:=h;exact q.elim
theorem iy{X:Cx}{x:Str}{n:Int}{pos:Pos}(h:∃tk,X.mg x=some (.int n tk))(hg:Gl X x:=by rfl)(hd:(x==("__debug__":Str))=false:=by decide):PE X (.Name x pos) (tC (.int n)):=by obtain⟨tk,e⟩:=h;exact FF hg e ⟨tk,rfl⟩ hd
theorem bu{p A B:Prop}[Decidable p](hp:¬p)(h:B):if decide p=true then A else B:=by rw[decide_eq_false hp];exact d0 h
theorem bw{p A B:Prop}[Decidable p](hp:p)(h:A):if decide p=true then A else B:=by rw[decide_eq_true hp];exact eV h
theorem jz{p A B:Prop}[Decidable p](hp:p)(h:B):if(!decide p)=true then A else B:=by rw[decide_eq_true hp];exact d0 h
theorem pS{p A B:Prop}[Decidable p](hp:¬p)(h:A):if(!decide p)=true then A else B:=by rw[decide_eq_false hp];exact eV h
theorem Bi{n:Int}(h:-1000<=n)(h2:n<=1000):n.natAbs<2 ^ 1000:=by
 have:n.natAbs<=1000:=by lia
 exact Nat.lt_of_le_of_lt this (by decide)
theorem Fg{n:Int}(h:-(10 ^ 60)<=n)(h2:n<=10 ^ 60):n.natAbs<2 ^ 1000:=by
 have:n.natAbs<=10 ^ 60:=by lia
 exact Nat.lt_of_le_of_lt this (by decide)
theorem aH.put{H H':Hp}{p:Addr}{o:HO}(s:aH H H')(hp:H p=none):aH H (upd H' p o):=λb u e=>by rw[aI (aY e hp)];exact s b u e
theorem aH.new{H H':Hp}{p:Addr}{o:HO}(s:aH H H')(hp:H' p=none):aH H (upd H' p o):=s.put (s.free hp)
theorem Ll{X:Cx}{E:XK}(Bd:Body X E):PassesOwn (model X.prog X.w) X.A X.env X.xe:=by rw[Bd.xe];exact PassesOwn.leaving
theorem all_true(n:Nat):(List.range n).all (λ_=>true)=true:=by simp
section
variable{X:Cx}{pins:List (Addr×Obj)}{σ:St}{H:Hp}{s:Shared}
theorem gf{xs:List V}{aM:List Value}(r:aW xs aM)(j:Nat)(h:j<aM.toArray.size):∃x,xs[j]?=some x/\RelV x aM.toArray[j]:=by
 have hj:j<aM.length:=by simpa using h
 have hl:=r.length;have hx:xs[j]?=some xs[j]:=by simp[show j<xs.length by lia]
 obtain⟨u,hu,ru⟩:=r.get hx;refine⟨_,hx,?_⟩;have e:aM.toArray[j]=u:=by
  have:=hu;rw[List.getElem?_eq_getElem hj]at this
  simpa using Option.some.inj this
 rw[e];exact ru
end
section
variable{X:Cx}
theorem c6{A:Around}{k:Nat}(hr:cw k A):A.units+16<cLine:=by have:=hr.un;lia
theorem DR:bY X (.builtin "all") (λxs H Q=>∃(p:Addr)(bs:List Bool),X.calm=true/\xs=[.ref p]/\ag X.K H p (bs.map V.bl)/\Q (.bl (bs.all id)) H):=by
 intro pins s σ H xs us Q I r h;obtain⟨p,bs,hc,rfl,hq,q⟩:=h;obtain⟨u,rfl,rx⟩:=vals1 r;cases rx;obtain⟨aM,r1,p1,_⟩:=I.list hq;have l1:=r1.length;rw[List.length_map]at l1;refine call_all_walk (wpAny_pyIter_list p1.isList ?_);have xD:p≠s.heap.objs.size:=by obtain⟨o,n,ho,_⟩:=p1;exact Nat.ne_of_lt (Heap.lt_size ho)
 refine⟨_,_,_,aM.toArray.size,_,_,λi=>bs.getD i true,rfl,Walks.list (A:=X.A.in1) (I.ok.hd hc) s.heap.objs.size p xD aM.toArray,?_,?_,λh' tk kp=>?_⟩
 ·exact⟨⟨_,Heap.get?_push_size _ rfl,rfl,rfl⟩,p1.isList.at λo e=>Heap.get?_push_of_some _ e⟩
 ·intro i v s' Q' E' hv hQ;have hi:i<aM.length:=by have:=hv;simp only[List.getElem?_toArray]at this;exact(List.getElem?_eq_some_iff.mp this).1
  have hb:(bs.map V.bl)[i]?=some (V.bl bs[i]):=by simp[show i<bs.length by lia]
  obtain⟨u,hu,ru⟩:=r1.get hb;have e:u=v:=by simp only[List.getElem?_toArray]at hv;rw[hu]at hv;exact Option.some.inj hv
  subst e;cases ru;refine wpAny_truthy_bool ?_;have e2:bs.getD i true=bs[i]:=by simp[List.getD,show i<bs.length by lia]
  rw[<-e2];exact hQ
 have e:(List.range aM.toArray.size).all (λi=>bs.getD i true)=bs.all id:=by
  have hz:aM.toArray.size=bs.length:=by simp;lia
  rw[hz,Bool.eq_iff_iff];simp only[List.all_eq_true,List.mem_range,id];constructor
  ·intro h b hb;obtain⟨n,hn,rfl⟩:=List.getElem_of_mem hb;have:=h n hn
   simpa[List.getD,hn]using this
  intro h i hi;have:=h bs[i] (List.getElem_mem hi)
  simpa[List.getD,hi]using this
 rw[e];exact⟨.bl (bs.all id),H,I.kept (t':=tk) λb o eb=>kp b o (by
  intro z;have hb:b=s.heap.objs.size:=by simpa using z
  exact absurd (Heap.lt_size eb) (by rw[hb];exact Nat.lt_irrefl _)) (Heap.get?_push_of_some _ eb),rfl,q⟩
end
def Ar(Nc:List Str)(ix:List (Option Nat))(scope sc:Scope)(N:List Str):Bool :=
 decide (scope.kind=.function)&&decide Nc.Nodup&&decide (ix.length=Nc.length) &&
 (scope.names.all λx=>decide (x.2=.local->scope.names.lookup x.1=some .local)) &&
 (scope.names.all λx=>decide (x.2=.free->sc.names.lookup x.1=some .cell\/sc.names.lookup x.1=some .free)) &&
 (scope.names.all λx=>decide (x.2=.free->(x.1,NameKind.cell)∉scope.names)) &&
 ((ix.zip Nc).all λp=>match p.1 with|none=>true|some j=>decide (N[j]?=some p.2/\scope.names.lookup p.2=some .free))
theorem cF{X:Cx}{Nc:List Str}{ix:List (Option Nat)}{scope:Scope}(sc:Scope)(N:List Str)(xE:X.env.scope=sc)(hN:X.N=N)(h:Ar Nc ix scope sc N=true):cN X Nc ix scope:=by
 subst xE hN;simp only[Ar,Bool.and_eq_true,decide_eq_true_eq,List.all_eq_true]at h;obtain⟨⟨⟨⟨⟨⟨h1,h2⟩,h3⟩,h4⟩,h5⟩,h6⟩,h7⟩:=h;refine⟨h1,h2,h3,h4,h5,λx hx=>h6 _ hx rfl,λi j x e1 e2=>?_⟩;have hm:(some j,x)∈ix.zip Nc:=by refine List.mem_iff_getElem?.mpr ⟨i,?_⟩;rw[List.getElem?_zip_eq_some];exact⟨e1,e2⟩
 have:=h7 _ hm
 simpa using this
section
variable{K:PySem.W.Frag}{g:TG}{tt:TT}{te:TE}{D:Addr}{σ:St}{H:Hp}{Q:VK}
theorem gJ{a:Addr}{xs:List V}(Pv:Nat->St->Hp->Prop)(h0:Pv 0 σ H)(hl:∀i σ H,i<=xs.length->Pv i σ H->ag K H a xs)(hs:∀(i:Nat)(x:V)(σ:St)(H:Hp)(N:St->Hp->Prop),(∀σ H,Pv (i+1) σ H->N σ H)->xs[i]?=some x->Pv i σ H->g x σ H λσ3 H3=>tt σ3 H3 λb H4 =>
   if b=true then te σ3 H4 λv H5=>∃ys,H5 D=some (.lst ys)/\ys.length<sizeLine/\N σ3 (upd H5 D (.lst (ys++[v])))else N σ3 H4)(hd:∀σ H,Pv xs.length σ H->Q (.ref D) H):
  pR (KS K a) g tt te D σ H Q:=by
 refine⟨λi m σ H=>m=xs.length-i/\i<=xs.length/\Pv i σ H,⟨xs.length,by simp,Nat.zero_le _,h0⟩,?_⟩;rintro i m σ' H' ⟨rfl,hi,p⟩;have q:=hl i σ' H' hi p;by_cases bM:i<xs.length
 ·refine .inr ⟨⟨xs,xs[i],q,by simp[bM]⟩,λx H2 y=>?_⟩;obtain⟨e,y⟩:=y;subst e;exact hs i x σ' _ (λσ3 H3=>∃m',m'<xs.length-i/\m'=xs.length-(i+1)/\i+1<=xs.length/\Pv (i+1) σ3 H3) (λσ3 H3 z=>⟨xs.length-(i+1),by lia,rfl,bM,z⟩) (y xs q) p
 have e:i=xs.length:=by lia
 subst e;exact .inl ⟨⟨xs,q,Nat.le_refl _⟩,hd σ' H' p⟩
theorem nJ{lo:Int}{n:Nat}(Pv:Nat->St->Hp->Prop)(h0:Pv 0 σ H)(hs:∀(i:Nat)(σ:St)(H:Hp)(N:St->Hp->Prop),(∀σ H,Pv (i+1) σ H->N σ H)->i<n->Pv i σ H->g (.int (lo+i)) σ H λσ3 H3=>tt σ3 H3 λb H4 =>
   if b=true then te σ3 H4 λv H5=>∃ys,H5 D=some (.lst ys)/\ys.length<sizeLine/\N σ3 (upd H5 D (.lst (ys++[v])))else N σ3 H4)(hd:∀σ H,Pv n σ H->Q (.ref D) H):
  pR (HP lo n) g tt te D σ H Q:=by
 refine⟨λi m σ H=>m=n-i/\i<=n/\Pv i σ H,⟨n,by simp,Nat.zero_le _,h0⟩,?_⟩;rintro i m σ' H' ⟨rfl,hi,p⟩;by_cases bM:i<n
 ·refine .inr ⟨bM,λx H2 y=>?_⟩;obtain⟨e,y⟩:=y;subst e y;exact hs i σ' _ (λσ3 H3=>∃m',m'<n-i/\m'=n-(i+1)/\i+1<=n/\Pv (i+1) σ3 H3) (λσ3 H3 z=>⟨n-(i+1),by lia,rfl,bM,z⟩) bM p
 have e:i=n:=by lia
 subst e;exact .inl ⟨Nat.le_refl _,hd σ' H' p⟩
end
theorem c7{ns:List Int}{i:Nat}{y:V}(h:(ns.map V.int)[i]?=some y):∃z,ns[i]?=some z/\y=V.int z:=by
 rw[List.getElem?_map]at h;cases e:ns[i]? with
 |none=>rw[e]at h;cases h
 |some z=>rw[e]at h;exact⟨z,rfl,(Option.some.inj h).symm⟩
theorem take_succ{α:Type}{l:List α}{i:Nat}{x:α}(h:l[i]?=some x):l.take (i+1)=l.take i++[x]:=by rw[List.take_succ,h];rfl
theorem c8{i:Nat}{x:V}{σ:St}{H:Hp}{A B:St->Hp->Prop}(h:A (σ.set i (some x)) H):m7 i x σ H λσ3 H3=>LV σ3 H3 λb H4=>if b=true then A σ3 H4 else B σ3 H4:=by show if true=true then A (σ.set i (some x)) H else B (σ.set i (some x)) H;exact eV h
section
variable{X:Cx}{pins:List (Addr×Obj)}{σ:St}{H:Hp}{s:Shared}{h':Heap}
theorem Inv.Fh{ch:List Addr}{t':Nat}(I:Inv X pins σ H s)(k:∀b o,b∉ch->s.heap.get? b=some o->h'.get? b=some o)(hf:∀b∈ch,lr X pins H b):Inv X pins σ H { s with heap:=h',toks:=t' }:=by
 have Lm:∀b u,H b=some u->b∉ch:=λb u e z=>by rw[(hf b z).1]at e;cases e
 refine I.Cu (s':={ s with heap:=h',toks:=t' }) (ch:=ch) rfl ⟨λb o e _ _ hx=>k b o hx e,λb o e _ _ hx=>⟨o.slots,k b o hx e⟩,λ_ _ _ n _=>n,λb o e hx=>⟨o,k b o hx e⟩,λ_ _ e=>e,λ_ _ _ e=>e,λb ps e=>⟨#[],by rw[e];simp⟩⟩ ?_ I.bare λb hb=>?_
 ·intro b o e;refine(I.aq b o e).ic (λc u hc q=>k c u ?_ q) (λ_ q=>q) λ_ _ q=>q;rcases hc with z|z
  ·rw[z];exact Lm b o e
  exact Lm c _ z
 obtain⟨_,q1,_,q3,q4,q5⟩:=hf b hb;exact⟨q3,q1,q4,q5⟩
theorem Inv.Bj{ch:List Addr}{T:Addr}{o:HO}{t':Nat}(I:Inv X pins σ H s)(k:∀b o,b∉ch->s.heap.get? b=some o->h'.get? b=some o)(hf:∀b∈ch,lr X pins H b)(hT:s.heap.objs.size<=T)(new:ax X.prog X.w (upd H T o) h' T o):Inv X pins σ (upd H T o) { s with heap:=h',toks:=t' }:=by
 have Lm:∀b u,H b=some u->b∉ch:=λb u e z=>by rw[(hf b z).1]at e;cases e
 have hn:=I.aq.fresh hT;have old:∀b u,s.heap.get? b=some u->b≠T:=λb u e=>Nat.ne_of_lt (Nat.lt_of_lt_of_le (Heap.lt_size e) hT);refine I.Cu (s':={ s with heap:=h',toks:=t' }) (ch:=ch) rfl ⟨λb o e _ _ hx=>k b o hx e,λb o e _ _ hx=>⟨o.slots,k b o hx e⟩,λb u e n _=>by rw[aI (old b u e)];exact n,λb o e hx=>⟨o,k b o hx e⟩,
  λb xs e=>by rw[aI (aY e hn)];exact e,λb o u e=>by rw[aI (aY e hn)];exact e,λb ps e=>⟨#[],by rw[aI (aY e hn),e];simp⟩⟩ ?_ I.bare λb hb=>?_
 ·intro b u e;by_cases hb:b=T
  ·subst hb;rw[aB]at e;cases e;exact new
  rw[aI hb]at e;refine(I.aq b u e).ic (λc v hc q=>k c v ?_ q) (λc q=>by rw[aI (aY q hn)];exact q) λc xs q=>by rw[aI (aY q hn)];exact q
  rcases hc with z|z
  ·rw[z];exact Lm b u e
  exact Lm c _ z
 obtain⟨_,q1,_,q3,q4,q5⟩:=hf b hb;exact⟨q3,q1,q4,q5⟩
end
section
variable{X:Cx}
theorem JN{i j:Nat}{x y:Str}{px py pos:Pos}{k:Nat}(hc:X.calm=true)(hN:X.N.Nodup)(hi:X.N[i]?=some x)(hj:X.N[j]?=some y)(lx:Loc X.env.scope x)(ly:Loc X.env.scope y)(fx:X.fn x=true\/X.env.scope.names.lookup x=some .local:=by first|exact .inl rfl|exact .inr rfl)(fy:X.fn y=true\/X.env.scope.names.lookup y=some .local:=by first|exact .inl rfl|exact .inr rfl)(hs:(assignEach [.Name x px,.Name y py] X.env).map (·.2)=[assign (.Name x px) X.env,assign (.Name y py) X.env]:=by rfl)(um:(assignEach [.Name y py] X.env).map (·.2)=[assign (.Name y py) X.env]:=by rfl)(Ob:(assignEach [] X.env).map (·.2)=[]:=by rfl)(hn:(assignEach [.Name x px,.Name y py] X.env).length=2:=by rfl)(Ac:(assignEach [.Name x px,.Name y py] X.env).findIdx? (·.1)=none:=by rfl):
  PG X (.Tuple [.Name x px,.Name y py] k pos) (IV X.K 2 (wg (m7 i) (wg (m7 j) IU))) :=
 ju hc (aa (aJ hN hi lx fx) (aa (aJ hN hj ly fy) eU (by rw[um,Ob])) (by rw[hs,um])) hn Ac
end
section
variable{K:PySem.W.Frag}{g:TG}{tt:TT}{te:TE}{D:Addr}{σ:St}{H:Hp}{Q:VK}
end
section
variable{X:Cx}
end
def zH(n:Nat)(f:Nat->V):List V:=(List.range n).map f
abbrev zI(n:Nat)(f:Nat->Addr):List V:=zH n λj=>V.ref (f j)
theorem Fi(n:Nat)(f:Nat->V):(zH n f).length=n:=by simp[zH]
theorem Fj{n i:Nat}{f:Nat->V}(h:i<n):(zH n f)[i]?=some (f i):=by simp[zH,h]
section
variable{K:PySem.W.Frag}{g:TG}{tt:TT}{te:TE}{D:Addr}{σ:St}{H:Hp}{Q:VK}
end
theorem nK(ns:List Int)(lo hi:Option Int):∃as:List Int,oX (ns.map V.int) lo hi=as.map V.int/\(∀a∈as,a∈ns)/\as.length<=ns.length:=by
 refine⟨(ns.drop (HT.cx (ns.map V.int).length 0 lo)).take (HT.cx (ns.map V.int).length (ns.map V.int).length hi-HT.cx (ns.map V.int).length 0 lo),?_,λa ha=>List.mem_of_mem_drop (List.mem_of_mem_take ha),?_⟩
 ·unfold oX;rw[List.map_take,List.map_drop]
 rw[List.length_take,List.length_drop];lia
end L2
namespace L2
open PySem PySem.Spec PyProof.Rows
def Oc(t:TS):TS:=λD σ H=>∃R:St->Hp->Prop,t { D with nx:=R } σ H/\∀σ' H',R σ' H'->D.nx σ' H'
theorem j0{X:Cx}{st:Stmt}{t:TS}(h:PS X st t):PS X st (Oc t):=by
 intro pins s σ H D I ⟨R,h1,h2⟩;refine wpAny_mono (h pins s σ H { D with nx:=R } I h1) (λf s' q=>?_) λ_ _ z=>z
 cases f with
 |next=>obtain⟨σ',H',I',q⟩:=q;exact⟨σ',H',I',h2 σ' H' q⟩
 |brk=>exact q
 |cont=>exact q
 |ret u=>exact q
section
variable{X:Cx}(K:PySem.W.Frag)
theorem aP(hK:X.K=K:=by rfl):LK X (LL K):=by subst hK;exact FY
theorem aR(hK:X.K=K:=by rfl):LK X (LM K):=by subst hK;exact Iv
theorem j3(hK:X.K=K:=by rfl):LJ X (LN K):=by subst hK;exact FZ
theorem bz(hK:X.K=K:=by rfl):bY X (.builtin "len") (λxs H Q=>∃p ys,xs=[.ref p]/\(ag K H p ys\/ao K H p ys)/\Q (.int ys.length) H):=by subst hK;exact uy
theorem zJ(hK:X.K=K:=by rfl):bY X (.type "list") (λxs H Q=>∃p ys,xs=[.ref p]/\(ag K H p ys\/ao K H p ys)/\∀l,H l=none->Q (.ref l) (upd H l (.lst ys))):=by subst hK;exact u5
theorem uJ(hc:X.calm=true)(hK:X.K=K:=by rfl):bY X (.builtin "all") (λxs H Q=>∃(p:Addr)(bs:List Bool),xs=[.ref p]/\ag K H p (bs.map V.bl)/\Q (.bl (bs.all id)) H):=by subst hK;intro pins s σ H xs us Q I r ⟨p,ns,h1,h2,h3⟩;exact DR pins s σ H xs us Q I r ⟨p,ns,hc,h1,h2,h3⟩
theorem iz(hK:X.K=K:=by rfl):ij X (binaryOp .Add) (HZ K):=by subst hK;exact Ff
theorem bF{tg l:Expr}{tl:TE}(hl:PE X l tl)(hK:X.K=K:=by rfl):PI X tg l (HQ K tl):=by subst hK;exact FI hl
theorem ko{i j:Nat}{x y:Str}{px py pos:Pos}{k:Nat}(hc:X.calm=true)(hN:X.N.Nodup)(hi:X.N[i]?=some x)(hj:X.N[j]?=some y)(lx:Loc X.env.scope x)(ly:Loc X.env.scope y)(hK:X.K=K:=by rfl)(fx:X.fn x=true\/X.env.scope.names.lookup x=some .local:=by first|exact .inl rfl|exact .inr rfl)(fy:X.fn y=true\/X.env.scope.names.lookup y=some .local:=by first|exact .inl rfl|exact .inr rfl)(hs:(assignEach [.Name x px,.Name y py] X.env).map (·.2)=[assign (.Name x px) X.env,assign (.Name y py) X.env]:=by rfl)(um:(assignEach [.Name y py] X.env).map (·.2)=[assign (.Name y py) X.env]:=by rfl)(Ob:(assignEach [] X.env).map (·.2)=[]:=by rfl)(hn:(assignEach [.Name x px,.Name y py] X.env).length=2:=by rfl)(Ac:(assignEach [.Name x px,.Name y py] X.env).findIdx? (·.1)=none:=by rfl):
  PG X (.Tuple [.Name x px,.Name y py] k pos) (IV K 2 (wg (m7 i) (wg (m7 j) IU))):=by
 subst hK;exact JN hc hN hi hj lx ly fx fy hs um Ob hn Ac
theorem oa{o e:Expr}{es:List Expr}{to:TE}{t:TA}{name:Str}{apos dz:Pos}{T id:String}{r:V->List V->Hp->VK->Prop}(pa:PlainAttrs T)(slot:Slot T name id)(OB:typeOf (.builtin id)=pure (.type "method_descriptor"))(hm:QQ X id r)(ho:PE X o to)(ha:PA X (e::es) t)(hK:X.K=K:=by rfl)(DD:attributeBase o name X.env (eval o X.env)=eval o X.env:=by rfl)(Iy:((backTo dz (starEach (e::es) X.env)).all (λx=>!x.1)&&(backToKw dz (keywordEach [] X.env)).all (λx=>x.1.isSome)
   && decide ((e::es).length+([]:List Keyword).length+(if([]:List Keyword).isEmpty then 0 else 1)<30))=true:=by rfl)(DE:(apos.endLine==dz.line)=true:=by rfl)(hs:starEach (e::es) X.env=(false,eval e X.env)::starEach es X.env:=by rfl)(zF:(backTo dz (starEach es X.env)).any (·.1)=false:=by rfl):
  PE X (.Call (.Attribute o name apos) (e::es) [] dz) (QS K T r to t):=by subst hK;exact LO pa slot OB hm ho ha DD Iy DE hs zF
end
section
variable{X:Cx}
end
section
variable{X:Cx}{tg:Expr}
end
section
variable{X:Cx}
theorem Fk:ij X (compareOp .IsNot) (λx y H Q=>∃b c,x=.bl b/\y=.bl c/\Q (.bl (b != c)) H):=by intro pins s σ H x y v u Q I rx ry h;obtain⟨b,c,rfl,rfl,q⟩:=h;cases rx;cases ry;exact isnot_bool (ar I q rfl)
end
section
variable{prog:Program}{w:World}{A:Around}{E:Value->Shared->Prop}{s:Shared}
theorem dZ{it t:Addr}{i:Nat}{items:Array Value}{x:Value}{Q:Value->Shared->Prop}(hit:s.heap.IsTupleIter it t i)(ht:s.heap.IsTuple t items)(hx:items[i]?=some x)(hQ:∀h',h'.IsTupleIter it t (i+1)->Heap.SameBut it s.heap h'->Q x { s with heap:=h' }):wpAny (model prog w) A (Builtin.SmallTypes.nextOf (.ref it)) Q E s:=by obtain⟨o,ho,hc,hd⟩:=id hit;obtain⟨u,hu,_,m,du⟩:=ht;unfold Builtin.SmallTypes.nextOf;refine wpAny_bind (wpAny_callSpecial?_slot (name:=Str.ofString "__next__") hit.typeIs F.slot_tuple_iterator_next (wpAny_call_entry F.slot_tuple_iterator_next hit.typeIs F.entry_tuple_iterator_next ?_ (F.args_tuple_iterator_next_1 _)));refine(show wpAny _ _ (field (.ref it) 0 >>= _) _ _ s from wpAny_bind (wpAny_field ho hd (x:=.ref t) rfl ?_));refine(show wpAny _ _ (if(Value.ref t==Value.none)=true then _ else _) _ _ s from ?_);rw[if_neg (by exact Bool.false_ne_true)];refine(show wpAny _ _ (field (.ref it) 1 >>= _) _ _ s from wpAny_bind (wpAny_field ho hd (x:=.int i 0) rfl ?_));refine(show wpAny _ _ (seqItems? (.ref t) >>= _) _ _ s from wpAny_bind (wpAny_seqItems hu du ?_));simp only[hx,Int.toNat_natCast];refine wpAny_bind (wpAny_setField ho hd (by simp) (wpAny_pure ⟨x,rfl,wpAny_pure (hQ _ ⟨_,Heap.get?_update_self _ ho (Obj.isFreed_of_fields (Obj.data_mapFields hd _)),(Obj.cls_mapFields ..).trans hc,?_⟩ (Heap.SameBut.update ..))⟩));rw[Obj.data_mapFields hd];simp[rawInt]
end
section
variable{prog:Program}{w:World}{A:Around}{E:Value->Shared->Prop}{s:Shared}
end
section
variable{X:Cx}
end
section
variable{K:PySem.W.Frag}{g:TG}{tt:TT}{te:TE}{D:Addr}{σ:St}{H:Hp}{Q:VK}
end
section
variable{K:PySem.W.Frag}{g:TG}{tt:TT}{te:TE}{D:Addr}{σ:St}{H:Hp}{Q:VK}
end
section
variable{P:Program}{w:World}{K:PySem.W.Frag}{mg:Str->Option Value}{base:Heap}
end
theorem aH.tup{K:PySem.W.Frag}{H H':Hp}{a:Addr}{xs:List V}(e:aH H H')(h:ao K H a xs):ao K H' a xs:=by
 rcases h with(h|⟨o,h⟩)|h
 ·exact .inl (.inl (e _ _ h))
 ·exact .inl (.inr ⟨o,e _ _ h⟩)
 exact .inr h
section
variable{prog:Program}{w:World}{A:Around}{E:Value->Shared->Prop}{s:Shared}
theorem zK{t sl:Addr}{items:Array Value}{vl vu:Value}{lo hi:Option Int}{Q:Value->Shared->Prop}(ht:IsTup s.heap t items)(hs:s.heap.IsSliceOf sl vl vu .none)(pl:IsPart vl lo)(pu:IsPart vu hi)(h1:HT.cx items.size 0 lo=0)(h2:HT.cx items.size items.size hi=items.size)(h:Q (.ref t) s):wpAny (model prog w) A (getItem (.ref t) (.ref sl)) Q E s:=by
 obtain⟨os,oN,M4,LH⟩:=id hs;have N9:s.TypeIs (.ref sl) "slice":=⟨os,oN,M4⟩;unfold getItem
 try with_reducible refine wpAny_holding ?_
 first|refine wpAny_bind (wpAny_pure ?_)|skip
 refine wpAny_bind (wpAny_sequenceKey ht.typeIs (by decide) (wpAny_bind (wpAny_callSpecial?_slot (name:=Str.ofString "__getitem__") ht.typeIs PyProof.Rows.slot_tuple_getitem (wpAny_call_entry PyProof.Rows.slot_tuple_getitem ht.typeIs PyProof.Rows.entry_tuple_getitem ?_ (PyProof.Rows.args_tuple_getitem _ _)))));refine(show wpAny _ _ (Builtin.Tuple.tupleItemsOf (.ref t) >>= _) _ _ s from wpAny_bind (PyProof.Rows.tupleItemsOf_ ht (wpAny_bind (wpAny_typeOf N9 ?_))));rw[if_pos (by decide)];refine wpAny_bind (HT.iI hs pl pu ?_);rw[h1,h2,Nat.sub_zero];refine(show wpAny _ _ (if((((0:Nat):Int)==0)&&(1:Int)==1&&items.size==items.size)=true then _ else _) _ _ s from ?_);rw[if_pos (by simp)];refine wpAny_bind ?_;unfold Builtin.Tuple.tupleIsExact;refine wpAny_bind (wpAny_typeOf ht.typeIs (wpAny_pure ?_));rw[if_pos (by decide)]
 first
  |exact wpAny_bind (wpAny_rule (wpAny_pure ⟨_,rfl,wpAny_pure h⟩))
  |exact wpAny_bind (wpAny_rule (wpAny_bind (wpAny_pure (wpAny_pure ⟨_,rfl,wpAny_pure h⟩))))
  |exact wpAny_bind (wpAny_bind (wpAny_rule (wpAny_pure (wpAny_pure ⟨_,rfl,wpAny_pure h⟩))))
end
section
variable{X:Cx}
def Od(K:PySem.W.Frag):V->Option Int->Option Int->Hp->VK->Prop:=λx lo hi H Q=>∃a xs,x=.ref a/\ao K H a xs/\∀r H',aH H H'->ao K H' r (oX xs lo hi)->Q (.ref r) H'
theorem Fl(K:PySem.W.Frag)(hK:X.K=K:=by rfl):LJ X (Od K):=by
 subst hK;intro pins s σ H x v vl vu lo hi sl Q I rx hs pl pu h;obtain⟨a,xs,rfl,hx,q⟩:=h;by_cases hw:HT.cx xs.length 0 lo=0/\HT.cx xs.length xs.length hi=xs.length
 ·cases rx;obtain⟨aM,r,ht,hz⟩:=I.tuple hx;have hlen:aM.toArray.size=xs.length:=by rw[List.size_toArray];exact r.length.symm
  refine⟨"tuple",_,PyProof.Rows.slot_tuple_getitem.lookup,ht.typeIs,?_⟩;refine zK ht hs pl pu (by rw[hlen];exact hw.1) (by rw[hlen];exact hw.2) ?_;refine⟨.ref a,H,I,rfl,q a H (aH.refl _) ?_⟩;have e:oX xs lo hi=xs:=by unfold oX;rw[hw.1,hw.2,List.drop_zero,Nat.sub_zero,List.take_length]
  rw[e];exact hx
 exact Iu pins s σ H (.ref a) v vl vu lo hi sl Q I rx hs pl pu ⟨a,xs,rfl,hx,hw,λp hp=>q p _ ((aH.refl _).new hp) (ao.of aB)⟩
theorem Bk(K:PySem.W.Frag)(hc:X.calm=true)(hK:X.K=K:=by rfl):bY X (.builtin "any") (λxs H Q=>∃(p:Addr)(bs:List Bool),xs=[.ref p]/\ag K H p (bs.map V.bl)/\Q (.bl (bs.any id)) H):=by
 subst hK;intro pins s σ H xs us Q I r h;obtain⟨p,bs,rfl,hq,q⟩:=h;obtain⟨u,rfl,rx⟩:=vals1 r;cases rx;obtain⟨aM,r1,p1,_⟩:=I.list hq;have l1:=r1.length;rw[List.length_map]at l1;refine call_any_walk (wpAny_pyIter_list p1.isList ?_);have xD:p≠s.heap.objs.size:=by obtain⟨o,n,ho,_⟩:=p1;exact Nat.ne_of_lt (Heap.lt_size ho)
 refine⟨_,_,_,aM.toArray.size,_,_,λi=>bs.getD i true,rfl,Walks.list (A:=X.A.in1) (I.ok.hd hc) s.heap.objs.size p xD aM.toArray,?_,?_,λh' tk kp=>?_⟩
 ·exact⟨⟨_,Heap.get?_push_size _ rfl,rfl,rfl⟩,p1.isList.at λo e=>Heap.get?_push_of_some _ e⟩
 ·intro i v s' Q' E' hv hQ;have hi:i<aM.length:=by have:=hv;simp only[List.getElem?_toArray]at this;exact(List.getElem?_eq_some_iff.mp this).1
  have hb:(bs.map V.bl)[i]?=some (V.bl bs[i]):=by simp[show i<bs.length by lia]
  obtain⟨u,hu,ru⟩:=r1.get hb;have e:u=v:=by simp only[List.getElem?_toArray]at hv;rw[hu]at hv;exact Option.some.inj hv
  subst e;cases ru;refine wpAny_truthy_bool ?_;have e2:bs.getD i true=bs[i]:=by simp[List.getD,show i<bs.length by lia]
  rw[<-e2];exact hQ
 have e:(List.range aM.toArray.size).any (λi=>bs.getD i true)=bs.any id:=by
  have hz:aM.toArray.size=bs.length:=by simp;lia
  rw[hz,Bool.eq_iff_iff];simp only[List.any_eq_true,List.mem_range,id];constructor
  ·rintro⟨i,hi,hb⟩;exact⟨bs[i],List.getElem_mem hi,by simpa[List.getD,hi]using hb⟩
  rintro⟨b,hb,R4⟩;obtain⟨n,hn,rfl⟩:=List.getElem_of_mem hb;exact⟨n,hn,by simpa[List.getD,hn]using R4⟩
 rw[e];exact⟨.bl (bs.any id),H,I.kept (t':=tk) λb o eb=>kp b o (by
  intro z;have hb:b=s.heap.objs.size:=by simpa using z
  exact absurd (Heap.lt_size eb) (by rw[hb];exact Nat.lt_irrefl _)) (Heap.get?_push_of_some _ eb),rfl,q⟩
end
inductive xF(K:PySem.W.Frag)(H:Hp):Nat->V->V->Prop where
 |flat {n:Nat} (x:V):jd x=true->xF K H n x x
 |same {n:Nat} (a:Addr):xF K H n (.ref a) (.ref a)
 |lst {n:Nat} {a b:Addr} {xs ys:List V} (ha:ag K H a xs) (hb:ag K H b ys) (hl:xs.length=ys.length) (h:∀(j:Nat)(x y:V),xs[j]?=some x->ys[j]?=some y->xF K H n x y):xF K H (n+1) (.ref a) (.ref b)
 |tup {n:Nat} {a b:Addr} {xs ys:List V} (ha:ao K H a xs) (hb:ao K H b ys) (hl:xs.length=ys.length) (h:∀(j:Nat)(x y:V),xs[j]?=some x->ys[j]?=some y->xF K H n x y):xF K H (n+1) (.ref a) (.ref b)
theorem DS:∀(x:V),jd x=true->zD x x=true
 |.ba,_=>rfl
 |.bl b,_=>by simp[zD]
 |.int i,_=>by simp[zD]
 |.str z,_=>by simp[zD]
 |.ref _,h=>absurd h (by intro z;cases z)
 |.ty _,h=>absurd h (by intro z;cases z)
section
variable{X:Cx}{pins:List (Addr×Obj)}{σ:St}{H:Hp}{s:Shared}
theorem Fm(I:Inv X pins σ H s){n:Nat}{x y:V}(h:xF X.K H n x y):∀{A:Around}{u v:Value},A.units+n<cLine->RelV x u->RelV y v->SeqAt.EqAt A s u v true:=by
 induction h with
 |flat x fx=>intro A u v _ ru rv;have:=uw (A:=A) (s:=s) ru rv fx fx;rwa [DS x fx]at this
 |same a=>intro A u v _ ru rv;cases ru;cases rv;exact SeqAt.EqAt.same _
 |@lst n a b xs ys ha hb hl h ih =>
  intro A u v hu ru rv;cases ru;cases rv;by_cases yb:a=b
  ·subst yb;exact SeqAt.EqAt.same _
  obtain⟨aM,r1,p1,_⟩:=I.list ha;obtain⟨jn,r2,p2,_⟩:=I.list hb;have l1:=r1.length;have l2:=r2.length;refine SeqAt.EqAt.of_refs yb ?_;have q:=SeqAt.RcAt.lists (A:=A) (s:=s) (e:=λ_=>true) p1.isList p2.isList (by simp;lia) (by lia) λj h1 h2=>?_
  ·rw[all_true]at q;exact q
  obtain⟨x,hx,rx⟩:=gf r1 j h1;obtain⟨y,hy,ry⟩:=gf r2 j h2;exact ih j x y hx hy (A:=A.in1) (by show A.units+1+n<cLine;lia) rx ry
 |@tup n a b xs ys ha hb hl h ih =>
  intro A u v hu ru rv;cases ru;cases rv;by_cases yb:a=b
  ·subst yb;exact SeqAt.EqAt.same _
  obtain⟨aM,r1,p1,_⟩:=I.tuple ha;obtain⟨jn,r2,p2,_⟩:=I.tuple hb;have l1:=r1.length;have l2:=r2.length;refine SeqAt.EqAt.of_refs yb ?_;have q:=SeqAt.RcAt.tuples (A:=A) (s:=s) (e:=λ_=>true) (show s.heap.IsTuple a aM.toArray from p1) (show s.heap.IsTuple b jn.toArray from p2) (by lia) λj h1 h2=>?_
  ·rw[all_true,Bool.true_and,show(aM.toArray.size==jn.toArray.size)=true by simp;lia]at q;exact q
  obtain⟨x,hx,rx⟩:=gf r1 j h1;obtain⟨y,hy,ry⟩:=gf r2 j h2;exact ih j x y hx hy (A:=A.in1) (by show A.units+1+n<cLine;lia) rx ry
end
section
variable{X:Cx}
def Oe(K:PySem.W.Frag)(neg:Bool):R2:=λx y H Q=>∃a b xs ys,x=.ref a/\y=.ref b/\ag K H a xs/\ag K H b ys /\
 ((xs.length=ys.length/\(∀(j:Nat)(u v:V),xs[j]?=some u->ys[j]?=some v->xF K H 8 u v)/\Q (.bl (!neg)) H)\/(xs.length≠ys.length/\Q (.bl neg) H))
theorem Fn(K:PySem.W.Frag)(hu:X.A.units+16<cLine)(hK:X.K=K:=by rfl):ij X (compareOp .Eq) (Oe K false):=by
 subst hK;intro pins s σ H x y v u Q I rx ry h;obtain⟨a,b,xs,ys,rfl,rfl,ha,hb,h⟩:=h;cases rx;cases ry;obtain⟨aM,r1,p1,_⟩:=I.list ha;obtain⟨jn,r2,p2,_⟩:=I.list hb;have l1:=r1.length;have l2:=r2.length;rcases h with⟨hl,he,q⟩|⟨hl,q⟩
 ·refine SeqAt.eq_listAt (e:=λ_=>true) p1.isList p2.isList (by simp;lia) (by lia) (λj h1 h2=>?_) ?_
  ·obtain⟨x,hx,rx⟩:=gf r1 j h1;obtain⟨y,hy,ry⟩:=gf r2 j h2;exact Fm I (he j x y hx hy) (A:=X.A.in1) (by show X.A.units+1+8<cLine;lia) rx ry
  rw[all_true];exact⟨.bl true,H,I,rfl,q⟩
 refine SeqAt.eq_list_lengthsAt p1.isList p2.isList (by simp;lia) (by lia) ?_;exact⟨.bl false,H,I,rfl,q⟩
theorem vC(K:PySem.W.Frag){tg l:Expr}{tl:TE}(hl:PE X l tl)(hK:X.K=K:=by rfl):PI X tg l (K1 K tl):=by subst hK;exact Ib hl
theorem cp(K:PySem.W.Frag)(hK:X.K=K:=by rfl):bY X (.type "tuple") (λxs H Q=>∃p ys,xs=[.ref p]/\((ag K H p ys/\∀l,H l=none->Q (.ref l) (upd H l (.tup ys)))\/(ao K H p ys/\Q (.ref p) H))):=by subst hK;exact sT
end
section
variable{K:PySem.W.Frag}{g:TG}{tt:TT}{te:TE}{D:Addr}{σ:St}{H:Hp}{Q:VK}
theorem JO{a:Addr}{xs:List V}(Pv:Nat->St->Hp->Prop)(h0:Pv 0 σ H)(hl:∀i σ H,i<=xs.length->Pv i σ H->ao K H a xs)(hs:∀(i:Nat)(x:V)(σ:St)(H:Hp)(N:St->Hp->Prop),(∀σ H,Pv (i+1) σ H->N σ H)->xs[i]?=some x->Pv i σ H->g x σ H λσ3 H3=>tt σ3 H3 λb H4 =>
   if b=true then te σ3 H4 λv H5=>∃ys,H5 D=some (.lst ys)/\ys.length<sizeLine/\N σ3 (upd H5 D (.lst (ys++[v])))else N σ3 H4)(hd:∀σ H,Pv xs.length σ H->Q (.ref D) H):pR (KU K a) g tt te D σ H Q:=by
 refine⟨λi m σ H=>m=xs.length-i/\i<=xs.length/\Pv i σ H,⟨xs.length,by simp,Nat.zero_le _,h0⟩,?_⟩;rintro i m σ' H' ⟨rfl,hi,p⟩;have q:=hl i σ' H' hi p;by_cases bM:i<xs.length
 ·refine .inr ⟨⟨xs,xs[i],q,by simp[bM]⟩,λx H2 y=>?_⟩;obtain⟨e,y⟩:=y;subst e;exact hs i x σ' _ (λσ3 H3=>∃m',m'<xs.length-i/\m'=xs.length-(i+1)/\i+1<=xs.length/\Pv (i+1) σ3 H3) (λσ3 H3 z=>⟨xs.length-(i+1),by lia,rfl,bM,z⟩) (y xs q) p
 have e:i=xs.length:=by lia
 subst e;exact .inl ⟨⟨xs,q,Nat.le_refl _⟩,hd σ' H' p⟩
end
theorem uK:∀{ns:List Int}{aM:List Value},aW (ns.map V.int) aM->∃ps:List (Int×Tok),aM=ps.map (λq=>Value.int q.1 q.2)/\ps.map (·.1)=ns
 |[],_,.nil=>⟨[],rfl,rfl⟩
 |n::ns,_,.cons r rr=>by obtain⟨t,rfl⟩:=r;obtain⟨ps,rfl,e⟩:=uK rr;exact⟨(n,t)::ps,rfl,by rw[List.map_cons,e]⟩
section
variable{X:Cx}
theorem Bl(hc:X.calm=true):bY X (.builtin "min") (λxs H Q=>∃(p:Addr)(ns:List Int),xs=[.ref p]/\ag X.K H p (ns.map V.int)/\ns≠[]/\∀M,M∈ns->(∀a∈ns,M<=a)->Q (.int M) H):=by
 intro pins s σ H xs us Q I r h;obtain⟨p,ns,rfl,hq,xD,q⟩:=h;obtain⟨u,rfl,rx⟩:=vals1 r;cases rx;obtain⟨aM,r1,p1,_⟩:=I.list hq;obtain⟨ps,rfl,Of⟩:=uK r1;have hh:X.A.handled=none:=I.ok.hd hc;have hsz:0<ps.length:=by
  rcases ps with _|⟨a,b⟩
  ·exact absurd Of.symm xD
  simp
 refine min_intList (xs:=ps.toArray) hh (by simpa[intItems]using p1.isList) (by simpa using hsz) λv h' tk hv hk=>?_;obtain⟨t,rfl⟩:=intItems_at hv;obtain⟨h1,h2⟩:=argBest_lt (numAt ps.toArray) (ps.toArray.size-1);refine⟨.int _,H,I.kept (t':=tk) hk,⟨t,rfl⟩,q _ ?_ λa ha=>?_⟩
 ·rw[<-Of,numAt_eq];exact getD_mem (by simp at h1 ⊢;lia)
 rw[<-Of]at ha;obtain⟨j,hj,rfl⟩:=mem_getD ha;rw[List.length_map]at hj;have:=h2 j (by simp;lia);rw[numAt_eq,numAt_eq]at this;rw[numAt_eq];exact this
def Og(K:PySem.W.Frag):List V->Hp->VK->Prop:=λxs H Q=>∃(p:Addr)(ns:List Int),xs=[.ref p]/\ag K H p (ns.map V.int)/\ns≠[]/\∀M,M∈ns->(∀a∈ns,M<=a)->Q (.int M) H
theorem Bm(K:PySem.W.Frag)(hc:X.calm=true:=by rfl)(hK:X.K=K:=by rfl):bY X (.builtin "min") (Og K):=by subst hK;exact Bl hc
end
section
variable(P:Program)(w:World)
end
section
variable{P:Program}{w:World}{H H':Hp}{h h':Heap}{a:Addr}{o:HO}
end
section
variable{P:Program}{w:World}{H:Hp}{h h':Heap}{x e:Addr}{o':HO}
end
section
variable{fs Nj ex RU:List Addr}{H H1 H2:Hp}{h h1 h2 h':Heap}{a x e:Addr}{o:HO}
end
section
variable{X:Cx}{pins:List (Addr×Obj)}{σ:List (Option V)}{H H':Hp}{s:Shared}{h':Heap}
end
section
variable{X:Cx}
variable{a b:Expr}{ta tb:TE}{pos:Pos}
variable{tA Ku:TT}{rest:List Expr}
end
section
variable{X:Cx}{pins:List (Addr×Obj)}{σ:St}{H:Hp}{s:Shared}{a:Addr}{xs ys:List V}
end
section
variable{X:Cx}{pins:List (Addr×Obj)}{σ:St}{H:Hp}{s:Shared}{E:Value->Shared->Prop}
end
section
variable{X:Cx}{st:Stmt}{rest:List Stmt}{t u:TS}{e:Expr}{te:TE}{pos:Pos}
end
section
variable{X:Cx}{pos:Pos}
end
section
variable{X:Cx}{pos:Pos}
end
section
variable{X:Cx}{tg:Expr}
end
section
variable{X:Cx}{a b c:Expr}{ta tb tc:TE}{pos:Pos}
end
section
variable{X:Cx}{a b c:Expr}{ta tb tc:TE}{pos:Pos}
end
section
variable{prog:Program}{w:World}{A:Around}{E:Value->Shared->Prop}{s:Shared}{K:PySem.W.Frag}{x dx C f:Addr}{mA:Str->Option Value}{name:Str}{v:Value}
end
section
variable{P:Program}{w:World}{H H':Hp}{h h':Heap}{a C dx:Addr}{fs Nj:List (Str×V)}
end
section
variable{X:Cx}{pins:List (Addr×Obj)}{σ:St}{H:Hp}{s:Shared}{a C dx:Addr}{fs:List (Str×V)}{f:Str}{v:V}{A:Around}{E:Value->Shared->Prop}
end
section
variable{X:Cx}{o e value:Expr}{f:Str}{pos pos' FP:Pos}{ta tv:TE}
end
section
variable{X:Cx}{pins:List (Addr×Obj)}{σ:St}{H:Hp}{s:Shared}{A:Around}{E:Value->Shared->Prop}{Q:Value->Shared->Prop}{c:Value}{b:Bool}
end
section
variable{X:Cx}{e:Expr}{es:List Expr}{te:TE}{t:TA}{pos:Pos}
end
section
variable{X:Cx}{pins:List (Addr×Obj)}{σ:St}{H:Hp}{s s':Shared}
end
section
variable{X:Cx}{CX:y8}{k:Nat}{f C:Addr}{fd:FuncData}{ps:List Str}{sp:Sp}{sO:List V}{ds:List Value}{E:XK}{x m:Str}{p pos apos:Pos}{e o:Expr}{es:List Expr}{ta:TE}{t:TA}
end
section
variable{X:Cx}{CX:y8}{k:Nat}{f C:Addr}{fd:FuncData}{ps ks:List Str}{sp:Sp}{E:XK}{x m:Str}{p pos apos N7:Pos}{e o:Expr}{es:List Expr}{Ri:List Keyword}{te ta:TE}{t tk:TA}{nm:Option Str}
variable{g:List Value->List Value->List Value}{gV:List V->List V->List V}
end
section
variable{X:Cx}{x:Str}{p pos:Pos}{e:Expr}{es:List Expr}{t:TA}{id T:String}{r:List V->Hp->VK->Prop}
end
section
variable{κ:Type}[DecidableEq κ]
def eW(kvs:List (κ×V))(k:κ):Option V:=(kvs.find? λkv=>decide (kv.1=k)).map (·.2)
def putK(kvs:List (κ×V))(k:κ)(v:V):List (κ×V) :=
 if(kvs.any λkv=>decide (kv.1=k))=true then kvs.map (λkv=>if kv.1=k then(kv.1,v)else kv)else kvs++[(k,v)]
def qo(kvs:List (κ×V))(k:κ):List (κ×V):=kvs.filter λkv=>decide (kv.1≠k)
theorem qp{p:κ×V}{r:List (κ×V)}{k:κ}(e:p.1=k):eW (p::r) k=some p.2:=by simp[eW,List.find?_cons,e]
theorem qq{p:κ×V}{r:List (κ×V)}{k:κ}(e:¬p.1=k):eW (p::r) k=eW r k:=by simp[eW,List.find?_cons,e]
theorem xG(k:κ):∀kvs:List (κ×V),(kvs.any λkv=>decide (kv.1=k))=(eW kvs k).isSome
 |[]=>rfl
 |p::r=>by
  rw[List.any_cons];by_cases e:p.1=k
  ·simp only[qp e,decide_eq_true e,Bool.true_or,Option.isSome_some]
  rw[qq e,decide_eq_false e,Bool.false_or];exact xG k r
theorem gK(kvs:List (κ×V))(k:κ)(v:V):(putK kvs k v).length<=kvs.length+1:=by
 unfold putK;split
 ·rw[List.length_map];lia
 rw[List.length_append,List.length_cons,List.length_nil];lia
theorem gZ.cq{o:Option V}{u:Option Value}(r:gZ o u):o.isSome=u.isSome:=by
 cases o with
 |none=>cases u with
  |none=>rfl
  |some _=>exact(show False from r).elim
 |some _=>cases u with
  |none=>exact(show False from r).elim
  |some _=>rfl
theorem KV.val{kvs:List (κ×V)}{vs:List (κ×Value)}(r:KV kvs vs)(k:κ):gZ (eW kvs k) (valueAt vs k):=by
 unfold KV at r
 induction r with
 |nil=>exact True.intro
 |@cons p q ps qs h t ih =>
  obtain⟨h1,h2⟩:=h;by_cases e:p.1=k
  ·have e':q.1=k:=h1.symm.trans e;have b:valueAt (q::qs) k=some q.2:=(by simp[valueAt,List.find?_cons,e']);rw[qp e,b];exact h2
  have e':¬q.1=k:=λz=>e (h1.trans z);have b:valueAt (q::qs) k=valueAt qs k:=by simp[valueAt,List.find?_cons,e']
  rw[qq e,b];exact ih
theorem KV.any{kvs:List (κ×V)}{vs:List (κ×Value)}(r:KV kvs vs)(k:κ):(kvs.any λkv=>decide (kv.1=k))=vs.any λkv=>decide (kv.1=k):=by
 unfold KV at r
 induction r with
 |nil=>rfl
 |cons h t ih=>rw[List.any_cons,List.any_cons,ih,h.1]
theorem KV.DT{kvs:List (κ×V)}{vs:List (κ×Value)}(r:KV kvs vs)(k:κ){y:V}{u:Value}(ry:RelV y u):
  KV (kvs.map λkv=>if kv.1=k then(kv.1,y)else kv) (vs.map λkv=>if kv.1=k then(kv.1,u)else kv):=by
 unfold KV at r ⊢
 induction r with
 |nil=>exact .nil
 |@cons p q ps qs h t ih =>
  rw[List.map_cons,List.map_cons];refine .cons ?_ ih;obtain⟨h1,h2⟩:=h;by_cases e:p.1=k
  ·rw[if_pos e,if_pos (h1.symm.trans e)];exact⟨h1,ry⟩
  rw[if_neg e,if_neg (λz=>e (h1.trans z))];exact⟨h1,h2⟩
theorem KV.put{kvs:List (κ×V)}{vs:List (κ×Value)}(r:KV kvs vs)(k:κ){y:V}{u:Value}(ry:RelV y u):KV (putK kvs k y) (stored vs k u):=by
 unfold putK stored;rw[r.any k];by_cases e:(vs.any λkv=>decide (kv.1=k))=true
 ·rw[if_pos e,if_pos e];exact r.DT k ry
 rw[if_neg e,if_neg e];exact Paired.snoc r ⟨rfl,ry⟩
theorem KV.drop{kvs:List (κ×V)}{vs:List (κ×Value)}(r:KV kvs vs)(k:κ):KV (qo kvs k) (without vs k):=by
 unfold KV at r ⊢;unfold qo without
 induction r with
 |nil=>exact .nil
 |@cons p q ps qs h t ih =>
  obtain⟨h1,h2⟩:=h;rw[List.filter_cons,List.filter_cons];by_cases e:p.1=k
  ·have a:¬decide (p.1≠k)=true:=(by simp[e]);have b:¬decide (q.1≠k)=true:=(by simp[h1.symm.trans e]);rw[if_neg a,if_neg b];exact ih
  have e':¬q.1=k:=λz=>e (h1.trans z);have a:decide (p.1≠k)=true:=by simp[e]
  have b:decide (q.1≠k)=true:=by simp[e']
  rw[if_pos a,if_pos b];exact .cons ⟨h1,h2⟩ ih
theorem KV.length{kvs:List (κ×V)}{vs:List (κ×Value)}(r:KV kvs vs):kvs.length=vs.length:=Paired.length r
theorem DU(kvs:List (κ×V))(k:κ):(qo kvs k).length<=kvs.length:=List.length_filter_le _ _
end
theorem lK{P:Program}{w:World}{k:Key}{u:Value}(r:RelV (kV k) u):(aL P w).is k u=true:=by
 cases k with
 |inl i=>obtain⟨t,e⟩:=(show ∃t,u=Value.int i t from r);subst e;exact pH P w i t
 |inr x=>obtain⟨t,e⟩:=(show ∃t,u=Value.str x t from r);subst e;exact pI P w x t
theorem uL{P:Program}{w:World}:∀{ks:List Key}{us:List Value},aW (ks.map kV) us->ItemsAre (aL P w) ks us
 |[],_,r=>by rw[List.map_nil]at r;cases r;exact .nil
 |k::ks,_,r=>by
  rw[List.map_cons]at r;cases r with
  |cons h t=>exact .cons (lK h) (uL t)
abbrev KT(H:Hp):List (List Key×V)->List (List Key×Addr×Value)->Prop:=Paired λp q=>p.1=q.1/\H q.2.1=some (.tup (p.1.map kV))/\RelV p.2 q.2.2
theorem KT.val{H:Hp}{kvs:List (List Key×V)}{xs:List (List Key×Addr×Value)}(r:KT H kvs xs)(k:List Key):gZ (eW kvs k) ((atKey xs k).map (·.2)):=by
 induction r with
 |nil=>exact True.intro
 |@cons p q ps qs h t ih =>
  obtain⟨h1,_,h2⟩:=h;by_cases e:p.1=k
  ·have e':q.1=k:=h1.symm.trans e;have b:atKey (q::qs) k=some q.2:=(by simp[atKey,List.find?_cons,e']);rw[qp e,b];exact h2
  have e':¬q.1=k:=λz=>e (h1.trans z);have b:atKey (q::qs) k=atKey qs k:=by simp[atKey,List.find?_cons,e']
  rw[qq e,b];exact ih
theorem KT.DT{H:Hp}{kvs:List (List Key×V)}{xs:List (List Key×Addr×Value)}(r:KT H kvs xs)(k:List Key){y:V}{u:Value}(ry:RelV y u):
  KT H (kvs.map λkv=>if kv.1=k then(kv.1,y)else kv) (xs.map (putAt k u)):=by
 induction r with
 |nil=>exact .nil
 |@cons p q ps qs h t ih =>
  rw[List.map_cons,List.map_cons];refine .cons ?_ ih;obtain⟨h1,h2,h3⟩:=h;unfold putAt;by_cases e:p.1=k
  ·rw[if_pos e,if_pos (h1.symm.trans e)];exact⟨h1,h2,ry⟩
  rw[if_neg e,if_neg (λz=>e (h1.trans z))];exact⟨h1,h2,h3⟩
theorem KT.put{H:Hp}{kvs:List (List Key×V)}{xs:List (List Key×Addr×Value)}(r:KT H kvs xs)(k:List Key){b:Addr}{y:V}{u:Value}(hb:H b=some (.tup (k.map kV)))(ry:RelV y u):
  KT H (putK kvs k y) (storedH xs k b u):=by
 have e:(kvs.any λkv=>decide (kv.1=k))=(atKey xs k).isSome:=by rw[xG,(r.val k).cq,Option.isSome_map]
 unfold putK storedH;rw[e];by_cases q:(atKey xs k).isSome=true
 ·rw[if_pos q,if_pos q];exact r.DT k ry
 rw[if_neg q,if_neg q];exact Paired.snoc r ⟨rfl,hb,ry⟩
theorem KT.keeps{H H':Hp}{kvs:List (List Key×V)}{xs:List (List Key×Addr×Value)}(r:KT H kvs xs)(ht:∀b ys,H b=some (.tup ys)->H' b=some (.tup ys)):KT H' kvs xs :=
 Paired.IH r λ_ _ z=>⟨z.1,ht _ _ z.2.1,z.2.2⟩
section
variable{P:Program}{w:World}{H:Hp}{h:Heap}{a:Addr}
theorem Ha{u:HO}(ok:lG P w H h)(e:Rd H a u):ax P w H h a u:=e.ok ok
theorem uM{kvs:List (Key×V)}(ok:lG P w H h)(e:Rd H a (.dK kvs)):kvs.length<=sizeLine/\(a==sysModules)=false/\∃vs,KV kvs vs/\h.DictOf (aL P w) a vs :=
 show ax P w H h a (.dK kvs)from Ha ok e
theorem As{kvs:List (Key×V)}(ok:lG P w H h)(e:H a=some (.dK kvs)):kvs.length<=sizeLine/\(a==sysModules)=false/\∃vs,KV kvs vs/\h.DictOf (aL P w) a vs:=uM ok (.inl e)
theorem qr{ks:List Key}(ok:lG P w H h)(e:H a=some (.tup (ks.map kV))):(tupleKind (aL P w)).is h ks a:=by obtain⟨_,aM,r,o,h1,h2,n,h3⟩:=(show ax P w H h a (.tup (ks.map kV))from ok a _ e);exact⟨o,aM.toArray,n,h1,h2,h3,by simpa using uL r⟩
theorem uN{kvs:List (List Key×V)}(ok:lG P w H h)(e:Rd H a (.dT kvs)):kvs.length<=sizeLine/\(a==sysModules)=false /\
  ∃xs,KT H kvs xs/\h.DictOfH (tupleKind (aL P w)) a xs:=by
 obtain⟨z,y,xs,r,o,es,ep,h1,h2,h3,h4,h5⟩:=(show ax P w H h a (.dT kvs)from Ha ok e);refine⟨z,y,xs,r,o,es,ep,h1,h2,h3,h4,λx hx=>?_,h5⟩;have all:∀{l:List (List Key×V)}{m:List (List Key×Addr×Value)},KT H l m->∀x∈m,(tupleKind (aL P w)).is h x.1 x.2.1:=by
  intro l m q
  induction q with
  |nil=>intro x hx;exact nomatch hx
  |@cons p q ps qs hq t ih =>
   intro x hx;rcases List.mem_cons.mp hx with e|hx
   ·subst e;exact qr ok (by rw[<-hq.1];exact hq.2.1)
   exact ih x hx
 exact all r x hx
theorem Ln{kvs:List (List Key×V)}(ok:lG P w H h)(e:H a=some (.dT kvs)):kvs.length<=sizeLine/\(a==sysModules)=false /\
  ∃xs,KT H kvs xs/\h.DictOfH (tupleKind (aL P w)) a xs:=uN ok (.inl e)
end
def cQ(H:Hp)(a:Addr)(y:V)(r:Option V):Prop :=
 (∃kvs k,Rd H a (.dK kvs)/\y=kV k/\r=eW kvs k)\/∃kvs k b,Rd H a (.dT kvs)/\y=.ref b/\H b=some (.tup (k.map kV))/\r=eW kvs k
def Lo(H:Hp)(a:Addr)(y v:V)(H':Hp):Prop :=
 (∃kvs k,H a=some (.dK kvs)/\y=kV k/\kvs.length<sizeLine/\H'=upd H a (.dK (putK kvs k v))) \/
 ∃kvs k b,H a=some (.dT kvs)/\y=.ref b/\H b=some (.tup (k.map kV))/\kvs.length<sizeLine/\H'=upd H a (.dT (putK kvs k v))
theorem cQ.k{H:Hp}{a:Addr}{kvs:List (Key×V)}{k:Key}(e:H a=some (.dK kvs)):cQ H a (kV k) (eW kvs k):=.inl ⟨kvs,k,.inl e,rfl,rfl⟩
section
variable{X:Cx}{pins:List (Addr×Obj)}{σ:St}{H:Hp}{s:Shared}{a:Addr}{y v:V}{u r:Value}{o:Option V}{A:Around}{E:Value->Shared->Prop}
theorem Inv.M9(I:Inv X pins σ H s):sysModules<s.heap.objs.size:=by have h:mainGlobals<s.heap.objs.size:=(I.mod.glob.keeps I.bk).lt;exact Nat.lt_trans (by decide) h
theorem Bn{Q:Value->Shared->Prop}(hu:A.units+1<cLine)(I:Inv X pins σ H s)(g:cQ H a y (some v))(ry:RelV y u)(h:∀w' s',Inv X pins σ H s'->RelV v w'->Q w' s'):
  wpAny (model X.prog X.w) A (getItem (.ref a) u) Q E s:=by
 rcases g with⟨kvs,k,e,ey,l⟩|⟨kvs,k,b,e,ey,eb,l⟩
 ·subst ey;obtain⟨z,hd,vs,rel,dd⟩:=uM I.aq e;obtain⟨w',hw,sR⟩:=gZ.some_of (v:=v) (o:=valueAt vs k) (by rw[l];exact rel.val k);exact wpAny_getItem_of (lK ry) dd.mapOf hw (h w' _ (I.tok _) sR)
 subst ey;cases(show u=Value.ref b from ry);obtain⟨z,hd,xs,rel,dd⟩:=uN I.aq e;obtain⟨w',hw,sR⟩:=gZ.some_of (v:=v) (o:=(atKey xs k).map (·.2)) (by rw[l];exact rel.val k);obtain⟨p,hp,Bo⟩:=Option.map_eq_some_iff.mp hw;refine wpAny_getItem_heap (tupleKind_room_in1 hu) (qr I.aq eb) dd hp ?_;rw[Bo];exact h w' _ (I.tok _) sR
theorem Oh{Q:Value->Shared->Prop}(hu:A.units+1<cLine)(I:Inv X pins σ H s)(g:cQ H a y o)(ry:RelV y u)(h:∀s',Inv X pins σ H s'->Q (.bool o.isSome) s'):
  wpAny (model X.prog X.w) A (compareOp .In u (.ref a)) Q E s:=by
 rcases g with⟨kvs,k,e,ey,l⟩|⟨kvs,k,b,e,ey,eb,l⟩
 ·subst ey;obtain⟨z,hd,vs,rel,dd⟩:=uM I.aq e;refine wpAny_in_of (lK ry) hd dd.mapOf ?_;rw[<-(rel.val k).cq,<-l];exact h _ (I.tok _)
 subst ey;cases(show u=Value.ref b from ry);obtain⟨z,hd,xs,rel,dd⟩:=uN I.aq e;refine wpAny_in_heap (tupleKind_room_in1 hu) (qr I.aq eb) hd dd ?_;have q:=(rel.val k).cq;rw[Option.isSome_map]at q;rw[<-q,<-l];exact h _ (I.tok _)
theorem Fo{Q:Value->Shared->Prop}(hu:A.units+1<cLine)(I:Inv X pins σ H s)(g:cQ H a y o)(ry:RelV y u)(h:∀s',Inv X pins σ H s'->Q (.bool (!o.isSome)) s'):
  wpAny (model X.prog X.w) A (compareOp .NotIn u (.ref a)) Q E s:=by
 rcases g with⟨kvs,k,e,ey,l⟩|⟨kvs,k,b,e,ey,eb,l⟩
 ·subst ey;obtain⟨z,hd,vs,rel,dd⟩:=uM I.aq e;refine wpAny_notIn_of (lK ry) hd dd.mapOf ?_;rw[<-(rel.val k).cq,<-l];exact h _ (I.tok _)
 subst ey;cases(show u=Value.ref b from ry);obtain⟨z,hd,xs,rel,dd⟩:=uN I.aq e;refine wpAny_notIn_heap (tupleKind_room_in1 hu) (qr I.aq eb) hd dd ?_;have q:=(rel.val k).cq;rw[Option.isSome_map]at q;rw[<-q,<-l];exact h _ (I.tok _)
theorem nL{h':Heap}{t':Nat}{ob:HO}(I:Inv X pins σ H s)(mu:KP (H a))(hs:Heap.SameBut a s.heap h')(he:∃q,h'.get? a=some q)(new:ax X.prog X.w (upd H a ob) h' a ob):
  Inv X pins σ (upd H a ob) { s with heap:=h',toks:=t' } :=
 I.write (x:=a) (e:=a) mu (.inl rfl) (λb q hb z=>(hs.2 b hb).trans z) he new
theorem vD{P:Program}{w:World}{H':Hp}{h':Heap}{kvs:List (Key×V)}{vs:List (Key×Value)}(z:kvs.length<=sizeLine)(hd:(a==sysModules)=false)(rel:KV kvs vs)(dd:h'.DictOf (aL P w) a vs):
  ax P w H' h' a (.dK kvs):=⟨z,hd,vs,rel,dd⟩
theorem Bp{H':Hp}{Q:Unit->Shared->Prop}(hu:A.units+1<cLine)(I:Inv X pins σ H s)(g:Lo H a y v H')(ry:RelV y u)(rv:RelV v r)(h:∀s',Inv X pins σ H' s'->Q () s'):
  wpAny (model X.prog X.w) A (setItem (.ref a) u r) Q E s:=by
 rcases g with⟨kvs,k,e,ey,l,eH⟩|⟨kvs,k,b,e,ey,eb,l,eH⟩
 ·subst ey eH;obtain⟨z,hd,vs,rel,dd⟩:=As I.aq e;have hz:vs.length<=sizeLine:=by rw[<-rel.length];exact z
  have hl:(putK kvs k v).length<=sizeLine:=by have:=gK kvs k v;lia
  refine wpAny_setItem_pairs (hsz:=hz) (lK ry) dd λh' Au hs=>h _ ?_;have he:∃q,h'.get? a=some q:=let⟨q,_,_,hq,_⟩:=Au;⟨q,hq⟩;exact nL I (by rw[e];exact True.intro) hs he (vD hl hd (rel.put k rv) Au)
 subst ey eH;cases(show u=Value.ref b from ry);obtain⟨z,hd,xs,rel,dd⟩:=Ln I.aq e;have hz:xs.length<=sizeLine:=by rw[<-Paired.length rel];exact z
 have hl:(putK kvs k v).length<=sizeLine:=by have:=gK kvs k v;lia
 refine wpAny_setItem_heap (hsz:=hz) (tupleKind_room_in1 hu) (qr I.aq eb) dd λh' Au hs=>h _ ?_;obtain⟨q,es,ep,hq,h2,h3,h4,_,h5⟩:=Au;refine nL I (by rw[e];exact True.intro) hs ⟨q,hq⟩ ⟨hl,hd,_,(rel.put k eb rv).keeps λc ys ec=>?_,q,es,ep,hq,h2,h3,h4,h5⟩;rw[aI (lJ ec e (λz=>nomatch z))]
 exact ec
end
section
variable{X:Cx}{pins:List (Addr×Obj)}{σ:St}{H:Hp}{s:Shared}{a:Addr}{kvs:List (Key×V)}{k:Key}{u:Value}{A:Around}{E:Value->Shared->Prop}
theorem Lp{v:V}{more:List Value}{Q:Value->Shared->Prop}(I:Inv X pins σ H s)(e:H a=some (.dK kvs))(ry:RelV (kV k) u)(l:eW kvs k=some v)(hm:more=[]\/∃x,more=[x])(h:∀w' s',Inv X pins σ (upd H a (.dK (qo kvs k))) s'->RelV v w'->Q w' s'):wpAny (model X.prog X.w) A (call (.builtin "dict.pop") (.ref a::u::more)) Q E s:=by
 obtain⟨z,hd,vs,rel,dd⟩:=As I.aq e;obtain⟨w',hw,sR⟩:=gZ.some_of (v:=v) (o:=valueAt vs k) (by rw[<-l];exact rel.val k);have hp:(keyPart u).isSome=true:=by
  cases k with
  |inl i=>obtain⟨t,q⟩:=(show ∃t,u=Value.int i t from ry);subst q;rfl
  |inr x=>obtain⟨t,q⟩:=(show ∃t,u=Value.str x t from ry);subst q;rfl
 have ha:argsOk "dict.pop" ⟨.ref a::u::more,[]⟩:=by
  rcases hm with q|⟨x,q⟩
  ·subst q;exact PySem.F.args_dict_pop_2 _ _
  subst q;exact PySem.F.args_dict_pop_3 _ _ _
 refine call_meetsIn PySem.F.slot_dict_pop dd.typeIs PySem.F.entry_dict_pop ha (meets_dict_pop_there (aL X.prog X.w) a (lK ry) more hm hp)
  ⟨vs,w',dd,by rw[<-rel.length];exact z,hw,λh' Au hs=>h w' _ ?_ sR⟩
 have he:∃q,h'.get? a=some q:=let⟨q,_,_,hq,_⟩:=Au;⟨q,hq⟩;exact nL I (by rw[e];exact True.intro) hs he (vD (Nat.le_trans (DU kvs k) z) hd (rel.drop k) Au)
theorem JP{r:Value}{Q:Value->Shared->Prop}(I:Inv X pins σ H s)(e:H a=some (.dK kvs))(ry:RelV (kV k) u)(l:eW kvs k=none)(h:∀s',Inv X pins σ H s'->Q r s'):
  wpAny (model X.prog X.w) A (call (.builtin "dict.pop") [.ref a,u,r]) Q E s:=by
 obtain⟨z,hd,vs,rel,dd⟩:=As I.aq e;have hn:valueAt vs k=none:=gZ.none_of (by rw[<-l];exact rel.val k);have hp:(keyPart u).isSome=true:=by
  cases k with
  |inl i=>obtain⟨t,q⟩:=(show ∃t,u=Value.int i t from ry);subst q;rfl
  |inr x=>obtain⟨t,q⟩:=(show ∃t,u=Value.str x t from ry);subst q;rfl
 exact call_meetsIn PySem.F.slot_dict_pop dd.typeIs PySem.F.entry_dict_pop (PySem.F.args_dict_pop_3 _ _ _) (meets_dict_pop_default (aL X.prog X.w) a (lK ry) hd hp r) ⟨vs,dd,hn,h _ (I.tok _)⟩
end
def Fp(i:Expr):Prop:=∀ov iv,subscripted i false ov iv=operate [ov,iv] (getItem ov iv)
theorem vE{prog:Program}{w:World}{A:Around}{E:Value->Shared->Prop}{s:Shared}{env:Env}{value slice:Expr}{pos:Pos}{T id:String}{Q:Value->Shared->Prop}(hl:typeLookup (.type T) "__getitem__"=pure (some (.builtin id)))(hs:Fp slice)(h:wpAny (model prog w) A (eval value env) (λo s₁=>wpAny (model prog w) A (eval slice env) (λi s₂=>s₂.TypeIs o T/\wpAny (model prog w) A (getItem o i) Q E s₂) E s₁) E s):
  wpAny (model prog w) A (eval (.Subscript value slice pos) env) Q E s:=by
 refine Subscript_ (wpAny_mono h (λo s₁ h₁=>wpAny_mono h₁ (λi s₂ h₂=>?_) λ_ _ x=>x) λ_ _ x=>x);obtain⟨hT,h₂⟩:=h₂;unfold subscriptTail;refine wpAny_bind ?_;rw[getitemInPython_of_ne hT.not_modules];refine wpAny_bind (wpAny_specialOf hT hl ?_);have fin:wpAny (model prog w) A (subscripted slice false o i) (λr s₃=>wpAny (model prog w) A (letTemporaryGo value o r >>= λ_=>pure r) Q E s₃) E s₂:=by rw[hs o i];exact wpAny_operating (wpAny_mono h₂ (λr s₃ h₃=>wpAny_bind (wpAny_letTemporaryGo (wpAny_pure h₃))) λ_ _ x=>x)
 first
  |exact wpAny_pure (wpAny_bind fin)
  |exact wpAny_bind (wpAny_pure (wpAny_bind fin))
  |exact wpAny_bind fin
theorem xH{X:Cx}{pins:List (Addr×Obj)}{σ:St}{H:Hp}{s:Shared}{a:Addr}{y:V}{o:Option V}(I:Inv X pins σ H s)(g:cQ H a y o):s.TypeIs (.ref a) "dict":=by
 rcases g with⟨kvs,k,e,_,_⟩|⟨kvs,k,b,e,_,_,_⟩
 ·obtain⟨_,_,vs,_,dd⟩:=uM I.aq e;exact dd.typeIs
 obtain⟨_,_,xs,_,dd⟩:=uN I.aq e;exact dd.typeIs
def Lq(td ty:TE):TE:=λσ H Q=>td σ H λx H1=>ty σ H1 λy H2=>∃a v,x=.ref a/\cQ H2 a y (some v)/\Q v H2
def Oi(ty td:TE):TE:=λσ H Q=>ty σ H λy H1=>td σ H1 λx H2=>∃a o,x=.ref a/\cQ H2 a y o/\Q (.bl o.isSome) H2
def Fq(ty td:TE):TE:=λσ H Q=>ty σ H λy H1=>td σ H1 λx H2=>∃a o,x=.ref a/\cQ H2 a y o/\Q (.bl (!o.isSome)) H2
def Lr(td ty tv:TE):TS:=λD σ H=>tv σ H λv H1=>td σ H1 λx H2=>ty σ H2 λy H3=>∃a H4,x=.ref a/\Lo H3 a y v H4/\D.nx σ H4
section
variable{X:Cx}{o i e value:Expr}{pos pos' FP:Pos}{td ty tv:TE}
theorem cc(hu:X.A.units+1<cLine)(ho:PE X o td)(hi:PE X i ty)(hs:Fp i):PE X (.Subscript o i pos) (Lq td ty):=by intro pins s σ H Q I h;refine vE PySem.F.slot_dict_getitem.lookup hs (av (ho pins s σ H _ I h) λu s1 ⟨x,H1,I1,rx,q1⟩=>av (hi pins s1 σ H1 _ I1 q1) λiv s2 ⟨y,H2,I2,ry,a,v,ex,g,q2⟩=>?_);subst ex;obtain rfl:u=Value.ref a:=rx;exact⟨xH I2 g,Bn hu I2 g ry λw' s3 I3 sR=>⟨v,H2,I3,sR,q2⟩⟩
theorem vF(hu:X.A.units+1<cLine)(hi:PE X i ty)(ho:PE X o td):PC X .In i o (Oi ty td):=by intro pins s σ H Q I h;refine av (hi pins s σ H _ I h) λiv s1 ⟨y,H1,I1,ry,q1⟩=>av (ho pins s1 σ H1 _ I1 q1) λu s2 ⟨x,H2,I2,rx,a,ov,ex,g,q2⟩=>?_;subst ex;obtain rfl:u=Value.ref a:=rx;exact Oh hu I2 g ry λs3 I3=>⟨.bl ov.isSome,H2,I3,rfl,q2⟩
theorem og(hu:X.A.units+1<cLine)(hi:PE X i ty)(ho:PE X o td):PC X .NotIn i o (Fq ty td):=by intro pins s σ H Q I h;refine av (hi pins s σ H _ I h) λiv s1 ⟨y,H1,I1,ry,q1⟩=>av (ho pins s1 σ H1 _ I1 q1) λu s2 ⟨x,H2,I2,rx,a,ov,ex,g,q2⟩=>?_;subst ex;obtain rfl:u=Value.ref a:=rx;exact Fo hu I2 g ry λs3 I3=>⟨.bl (!ov.isSome),H2,I3,rfl,q2⟩
theorem kq(hu:X.A.units+1<cLine)(ho:PE X o td)(hi:PE X i ty)(hv:PE X value tv)(hs:swapsWith value (some (.Subscript o i pos')) pos.line X.env=pure false):
  PS X (.Assign [.Subscript o i pos'] value pos) (Lr td ty tv):=by
 intro pins s σ H D I h;refine wpAny_Assign_Subscript (av (hv pins s σ H _ I h) λr s1 ⟨v,H1,I1,rv,q1⟩=>av (ho pins s1 σ H1 _ I1 q1) λu s2 ⟨x,H2,I2,rx,q2⟩=>av (hi pins s2 σ H2 _ I2 q2) λiv s3 ⟨y,H3,I3,ry,a,H4,ex,g,q3⟩=>?_) hs;subst ex;obtain rfl:u=Value.ref a:=rx;exact Bp hu I3 g ry rv λs4 I4=>⟨σ,H4,I4,q3⟩
end
theorem xI{P:Program}{w:World}{H:Hp}(h:Heap)(hb:sysModules<h.objs.size):ax P w H (h.push { cls:=.type "dict",data:=.dict #[] }) h.objs.size (.dK []) :=
 ⟨Nat.zero_le _,beq_eq_false_iff_ne.mpr (Ne.symm (Nat.ne_of_lt hb)),[],.nil,Heap.DictOf.new h⟩
def JQ:TE:=λ_ H Q=>∀p,H p=none->Q (.ref p) (upd H p (.dK []))
section
variable{X:Cx}{pos:Pos}
theorem xJ:PE X (.Dict [] [] pos) JQ:=λpins s σ H Q I h =>
 wpAny_Dict_empty ⟨.ref s.heap.objs.size,_,I.laid (a:=s.heap.objs.size) (o:=.dK []) (t':=s.toks) (λ_ _ q=>Heap.get?_push_of_some _ q) (Nat.le_refl _) (xI s.heap I.M9),rfl,h _ (I.aq.fresh (Nat.le_refl _))⟩
end
def zL:List (TE×TE)->St->Hp->(List (V×V)->Hp->Prop)->Prop
 |[],_,H,Q=>Q [] H
 | (tk,tv)::r,σ,H,Q=>tk σ H λx H1=>tv σ H1 λy H2=>zL r σ H2 λps H3=>Q ((x,y)::ps) H3
abbrev VV:List (V×V)->List (Value×Value)->Prop:=Paired λp q=>RelV p.1 q.1/\RelV p.2 q.2
def NA(X:Cx)(pos:Pos)(keys:List (Option Expr))(values:List Expr)(Fs:List (TE×TE)):Prop :=
 ∀(pins:List (Addr×Obj))(s:Shared)(σ:St)(H:Hp)(Q:List (V×V)->Hp->Prop),Inv X pins σ H s->zL Fs σ H Q ->
  wpAny (model X.prog X.w) X.A (evalPairs (pairTrees keys values X.env pos)) (λvs s'=>∃ps H',Inv X pins σ H' s'/\VV ps vs/\Q ps H') X.xe s
theorem Ft{X:Cx}{pos:Pos}:NA X pos [] [] []:=λpins s σ H Q I h=>pairTrees_nil_walk ⟨[],H,I,.nil,h⟩
theorem DV{X:Cx}{pos:Pos}{k v:Expr}{ks:List (Option Expr)}{vs:List Expr}{tk tv:TE}{Fs:List (TE×TE)}(hk:PE X k tk)(hv:PE X v tv)(hr:NA X pos ks vs Fs):
  NA X pos (some k::ks) (v::vs) ((tk,tv)::Fs):=λpins s σ H Q I h =>
 pairTrees_cons_walk (av (hk pins s σ H _ I h) λu s1 ⟨x,H1,I1,rx,q1⟩=>av (hv pins s1 σ H1 _ I1 q1) λw2 s2 ⟨y,H2,I2,ry,q2⟩ =>
  av (hr pins s2 σ H2 _ I2 q2) λws s3 ⟨ps,H3,I3,rel,q3⟩=>⟨(x,y)::ps,H3,I3,.cons ⟨rx,ry⟩ rel,q3⟩)
def j4(kvs more:List (Key×V)):List (Key×V):=more.foldl (λacc kv=>putK acc kv.1 kv.2) kvs
theorem KV.merge:∀{more:List (Key×V)}{rs:List (Key×Value)}{kvs:List (Key×V)}{vs:List (Key×Value)},KV more rs->KV kvs vs->KV (j4 kvs more) (merged vs rs):=by
 intro more rs kvs vs r;unfold KV at r
 induction r generalizing kvs vs with
 |nil=>intro q;exact q
 |@cons p q ps qs h t ih =>
  intro r0;have e:KV (putK kvs p.1 p.2) (stored vs q.1 q.2):=by have:=r0.put p.1 h.2;rw[<-h.1];exact this
  exact ih e
theorem lL:∀(more kvs:List (Key×V)),(j4 kvs more).length<=kvs.length+more.length
 |[],kvs=>by show kvs.length<=kvs.length+0;lia
 |p::r,kvs=>by have h1:=lL r (putK kvs p.1 p.2);have h2:=gK kvs p.1 p.2;show(j4 (putK kvs p.1 p.2) r).length<=_;rw[List.length_cons];lia
theorem qt{P:Program}{w:World}:∀{kvs:List (Key×V)}{ws:List (Value×Value)},VV (kvs.map λkv=>(kV kv.1,kv.2)) ws->∃rs,Carries (aL P w) ws rs/\KV kvs rs
 |[],_,r=>by rw[List.map_nil]at r;cases r;exact⟨[],True.intro,.nil⟩
 |p::kvs,_,r=>by
  rw[List.map_cons]at r;cases r with
  |@cons a b as bs h t =>
   obtain⟨rs,c,q⟩:=qt (P:=P) (w:=w) t;obtain⟨b1,b2⟩:=b;exact⟨(p.1,b2)::rs,⟨lK h.1,rfl,c⟩,.cons ⟨rfl,h.2⟩ q⟩
def Hb(Fs:List (TE×TE)):TE:=λσ H Q=>∀p,H p=none->zL Fs σ (upd H p (.dK [])) λps H2=>H2 p=some (.dK [])/\∃kvs:List (Key×V),ps=kvs.map (λkv=>(kV kv.1,kv.2))/\kvs.length<=15/\Q (.ref p) (upd H2 p (.dK (j4 [] kvs)))
theorem Fu{X:Cx}{pos:Pos}{keys:List (Option Expr)}{values:List Expr}{Fs:List (TE×TE)}(h:NA X pos keys values Fs)(Bb:keys.all (·.isSome)=true)(hl:keys.length=values.length)(h0:keys≠[])(R5:keys.length<=15):PE X (.Dict keys values pos) (Hb Fs):=by
 intro pins s σ H Q I q;have hn:=I.aq.fresh (Nat.le_refl s.heap.objs.size);have I1:=I.laid (a:=s.heap.objs.size) (o:=.dK []) (h':=s.heap.push { cls:=.type "dict",data:=.dict #[] }) (t':=s.toks) (λ_ _ q=>Heap.get?_push_of_some _ q) (Nat.le_refl _) (xI s.heap I.M9);refine wpAny_Dict_walk (knd:=aL X.prog X.w) Bb hl h0 R5 (av (h pins _ σ _ _ I1 (q _ hn)) λws s2 ⟨ps,H2,I2,rel,e,kvs,ep,lk,q2⟩=>?_);subst ep;obtain⟨rs,c,rk⟩:=qt (P:=X.prog) (w:=X.w) rel;obtain⟨z,hd,Ub,r0,dd⟩:=As I2.aq e;cases r0;refine⟨rs,c,dd,λh' Au hs=>⟨.ref s.heap.objs.size,_,?_,rfl,q2⟩⟩;have hz:(j4 [] kvs).length<=sizeLine:=by have h1:=lL kvs [];rw[List.length_nil]at h1;rw[sizeLine_eq];lia
 have he:∃q,h'.get? s.heap.objs.size=some q:=let⟨q,_,_,hq,_⟩:=Au;⟨q,hq⟩;exact nL I2 (by rw[e];exact True.intro) hs he (vD hz hd (rk.merge .nil) Au)
structure M2(X:Cx)(o:Expr)(m:Str)(apos:Pos)(e f:Expr)(dz:Pos):Prop where
 base:attributeBase o m X.env (eval o X.env)=eval o X.env
 Cm:((backTo dz (starEach [e,f] X.env)).all (λx=>!x.1)&&(backToKw dz (keywordEach [] X.env)).all (λx=>x.1.isSome)
  && decide (([e,f]:List Expr).length+([]:List Keyword).length+(if([]:List Keyword).isEmpty then 0 else 1)<30))=true
 line:(apos.endLine==dz.line)=true
 trees:backTo dz (starEach [e,f] X.env)=[(false,eval e X.env),(false,eval f X.env)]
def QW(H:Hp)(a:Addr):Prop:=(∃kvs,Rd H a (.dK kvs))\/∃kvs,Rd H a (.dT kvs)
theorem JR{X:Cx}{pins:List (Addr×Obj)}{σ:St}{H:Hp}{s:Shared}{a:Addr}(I:Inv X pins σ H s)(d:QW H a):
  s.TypeIs (.ref a) "dict"/\(∀b,Value.ref a=.ref b->∃ob,s.heap.get? b=some ob/\ob.dict=none)/\(a==sysModules)=false:=by
 rcases d with⟨kvs,e⟩|⟨kvs,e⟩
 ·obtain⟨_,hd,vs,_,dd⟩:=uM I.aq e;refine⟨dd.typeIs,λb q=>?_,hd⟩;cases q;obtain⟨ob,_,_,h1,h2,_⟩:=dd;exact⟨ob,h1,h2.2.1⟩
 obtain⟨_,hd,xs,_,dd⟩:=uN I.aq e;refine⟨dd.typeIs,λb q=>?_,hd⟩;cases q;obtain⟨ob,_,_,h1,h2,_⟩:=dd;exact⟨ob,h1,h2.2.1⟩
section
variable{X:Cx}{pins:List (Addr×Obj)}{σ:St}{H:Hp}{s:Shared}{a:Addr}{y d:V}{u r:Value}{o:Option V}{A:Around}{E:Value->Shared->Prop}
end
def JS(td ty tx:TE):TE:=λσ H Q=>td σ H λx H1=>∃a,x=.ref a/\QW H1 a/\ty σ H1 λy H2=>tx σ H2 λz H3=>∃kvs k,H3 a=some (.dK kvs)/\y=kV k /\
 (∀v,eW kvs k=some v->Q v (upd H3 a (.dK (qo kvs k))))/\(eW kvs k=none->Q z H3)
section
variable{X:Cx}{o e f:Expr}{apos dz:Pos}{td ty tx:TE}
theorem DW(ho:PE X o td)(he:PE X e ty)(hf:PE X f tx)(m:M2 X o "pop" apos e f dz):PE X (.Call (.Attribute o "pop" apos) [e,f] [] dz) (JS td ty tx):=by
 intro pins s σ H Q I h;refine wpAny_Call_method m.base m.Cm m.line PySem.F.plainAttrs_dict PySem.F.slot_dict_pop PySem.F.type_dict_pop (av (ho pins s σ H _ I h) λu s1 ⟨x,H1,I1,rx,a,ex,d,q1⟩=>?_);subst ex;obtain rfl:u=Value.ref a:=rx;obtain⟨t1,t2,_⟩:=JR I1 d;refine⟨t1,t2,?_⟩;rw[m.trees];refine Calls.callWith_builtin rfl (Calls.evalArgs_plain (Calls.spliced_cons (av (he pins s1 σ H1 _ I1 q1) λiv s2 ⟨y,H2,I2,ry,q2⟩ =>
  Calls.spliced_cons (av (hf pins s2 σ H2 _ I2 q2) λfv s3 ⟨z,H3,I3,rz,kvs,k,ea,ey,q3,q4⟩=>Calls.spliced_nil ?_))))
 subst ey;cases l:eW kvs k with
 |some v=>exact Lp I3 ea ry l (.inr ⟨fv,rfl⟩) λw' s4 I4 sR=>⟨v,_,I4,sR,q3 v l⟩
 |none=>exact JP I3 ea ry l λs4 I4=>⟨z,H3,I4,rz,q4 l⟩
end
section
variable{X:Cx}{pins:List (Addr×Obj)}{σ:St}{H:Hp}{s:Shared}{a:Addr}{kvs:List (Key×V)}{A:Around}{E:Value->Shared->Prop}
end
section
variable{X:Cx}{pins:List (Addr×Obj)}{σ:St}{H:Hp}{s:Shared}{a:Addr}{y:V}{u:Value}{A:Around}{E:Value->Shared->Prop}
end
end L2
namespace Att
open PySem PySem.W PySem.Calls PyProof.Rows
section
variable{prog:Program}{w:World}{A:Around}{E:Value->Shared->Prop}{s:Shared}{K:Frag}
end
end Att
namespace L2
open PySem PySem.Spec PyProof.Rows
section
variable{P:Program}{w:World}{K:PySem.W.Frag}{mg:Str->Option Value}{base:Heap}
end
section
variable{X:Cx}
end
section
variable{κ:Type}[DecidableEq κ]
theorem Av:∀{l:List κ}{k:κ},l.Nodup->¬k∈l->(l++[k]).Nodup
 |[],k,_,_=>by simp
 |a::r,k,h,hk=>by
  obtain⟨h1,h2⟩:=List.nodup_cons.mp h;show(a::(r++[k])).Nodup;refine List.nodup_cons.mpr ⟨λm=>?_,Av h2 λm=>hk (List.mem_cons.mpr (Or.inr m))⟩;rcases List.mem_append.mp m with q|q
  ·exact h1 q
  exact hk (List.mem_cons.mpr (Or.inl (List.mem_singleton.mp q).symm))
end
def JT(P:Program)(w:World)(d:Addr)(vs:List (Key×Value))(ep:Nat):HO:=.ext λh=>h.DictAt (aL P w) d vs ep
def DX(P:Program)(w:World)(d:Addr)(kvs:List (Key×V))(u:HO):Prop:=kvs.length<=sizeLine/\(d==sysModules)=false/\∃vs ep,KV kvs vs/\u=JT P w d vs ep
def Oj(d:Addr)(u:HO)(kvs:List (Key×V)):It where
 go:=λi H=>H d=some u/\i<kvs.length
 Ae:=λi H x H'=>H'=H/\∃k v,kvs[i]?=some (k,v)/\x=kV k
 stop:=λi H=>H d=some u/\kvs.length<=i
theorem vG{P:Program}{w:World}{k:Key}{u:Value}(h:(aL P w).is k u=true):RelV (kV k) u:=by
 rcases bI (k:=k) (v:=u) h with⟨i,t,rfl,rfl⟩|⟨x,t,rfl,rfl⟩
 ·exact⟨t,rfl⟩
 exact⟨t,rfl⟩
theorem DY{kvs:List (Key×V)}{vs:List (Key×Value)}(r:KV kvs vs){i:Nat}{k:Key}{u:Value}(h:vs[i]?=some (k,u)):∃v,kvs[i]?=some (k,v):=by
 induction r generalizing i with
 |nil=>simp at h
 |@cons p q ps qs hp t ih =>
  cases i with
  |zero=>simp at h;subst h;obtain⟨a,b⟩:=p;exact⟨b,by simp;exact hp.1⟩
  |succ i=>simp at h;obtain⟨v,e⟩:=ih h;exact⟨v,by simpa using e⟩
theorem Bq{P:Program}{w:World}{K:PySem.W.Frag}{tg:Expr}{d it:Addr}{kvs:List (Key×V)}{vs:List (Key×Value)}{ep:Nat}(r:KV kvs vs):
  Turn P w K tg (Oj d (JT P w d vs ep) kvs) [it] it (λi h=>h.IsKeyIter it d i vs.length ep)where
 mem:=by simp
 obj:=λi h st b hb=>by
  have e:b=it:=by simpa using hb
  subst e;obtain⟨o,e,c,dd⟩:=st;exact⟨o,e,λv z=>by rw[dd]at z;cases z⟩
 keep:=λi h h' st k=>st.at λo e=>k it (by simp) o e
 item:=by
  intro X hP hw hK hc i pins s σ H E I hf st hg;subst hP hw hK;obtain⟨hd,hi⟩:=hg;have hm:s.heap.DictAt (aL X.prog X.w) d vs ep:=(show ax X.prog X.w H s.heap d (JT X.prog X.w d vs ep)from I.aq d _ hd).1;have l:=r.length;obtain⟨⟨k,v⟩,hx⟩:∃p,vs[i]?=some p:=⟨vs[i]'(by lia),by simp[show i<vs.length by lia]⟩;obtain⟨v',jv⟩:=DY r hx;obtain⟨f0,f1,f2,f3,f4,f5⟩:=hf it (by simp);refine wpAny_pyNext_dict_item st hm hx λkey h' uu oR sb=>?_;have I1:Inv X pins σ H { s with heap:=h' }:=I.turned (t':=s.toks) (λb o hb e=>sb.extBut b o hb e) f0 f1 f3 f4 f5
  obtain⟨o,e,c,dd⟩:=id oR;exact⟨key,rfl,tj (s:={ s with heap:=h' }) e c dd (by decide) ⟨kV k,H,I1,vG uu,⟨rfl,k,v',jv,rfl⟩,oR,λb hb=>(hf b hb).1⟩⟩
 done:=by intro X hP hw hK hc i pins s σ H E I hf st hg;subst hP hw hK;obtain⟨hd,hi⟩:=hg;have hm:s.heap.DictAt (aL X.prog X.w) d vs ep:=(show ax X.prog X.w H s.heap d (JT X.prog X.w d vs ep)from I.aq d _ hd).1;have l:=r.length;obtain⟨f0,f1,f2,f3,f4,f5⟩:=hf it (by simp);exact wpAny_pyNext_dict_end (I.ok.hd hc) st hm (by simp;lia) λh' eb=>⟨rfl,I.turned (t':=s.toks) (λb o hb e=>eb b o hb e) f0 f1 f3 f4 f5⟩
 self:=λ_ _ _ _ _ st h=>wpAny_pyIter_keyiter st h
section
variable{X:Cx}
theorem Inv.freeze{pins:List (Addr×Obj)}{σ:St}{H:Hp}{s:Shared}{d:Addr}{kvs:List (Key×V)}(I:Inv X pins σ H s)(hd:H d=some (.dK kvs)):
  ∃vs ep,KV kvs vs/\kvs.length<=sizeLine/\(d==sysModules)=false/\s.heap.DictAt (aL X.prog X.w) d vs ep/\Inv X pins σ (upd H d (JT X.prog X.w d vs ep)) s:=by
 obtain⟨z,hs,vs,rel,o,es,ep,ho,r⟩:=(show ax X.prog X.w H s.heap d (.dK kvs)from I.aq d _ hd);have hm:s.heap.DictAt (aL X.prog X.w) d vs ep:=⟨o,es,ho,r⟩;refine⟨vs,ep,rel,z,hs,hm,?_⟩;exact I.write (x:=d) (e:=d) (h':=s.heap) (t':=s.toks) (by rw[hd];exact True.intro) (.inl rfl) (λ_ _ _ q=>q) ⟨o,ho⟩ ⟨hm,⟨o,ho⟩,λh1 h2 x k=>x.at' k⟩
theorem Inv.JU{pins:List (Addr×Obj)}{σ:St}{H:Hp}{s:Shared}{d:Addr}{kvs:List (Key×V)}{u:HO}(I:Inv X pins σ H s)(ok:DX X.prog X.w d kvs u)(hd:H d=some u):Inv X pins σ (upd H d (.dK kvs)) s:=by obtain⟨z,hs,vs,ep,rel,rfl⟩:=ok;have hm:s.heap.DictAt (aL X.prog X.w) d vs ep:=(show ax X.prog X.w H s.heap d (JT X.prog X.w d vs ep)from I.aq d _ hd).1;obtain⟨o,es,ho,r⟩:=id hm;exact I.write (x:=d) (e:=d) (h':=s.heap) (t':=s.toks) (by rw[hd];exact True.intro) (.inl rfl) (λ_ _ _ q=>q) ⟨o,ho⟩ ⟨z,hs,vs,rel,hm.dictOf⟩
def Ls(P:Program)(w:World)(td:TE):TI:=λσ H R=>td σ H λx H1=>∃d kvs,x=.ref d/\H1 d=some (.dK kvs)/\∀u,DX P w d kvs u->R (Oj d u kvs) (upd H1 d u)
theorem DZ(P:Program)(w:World){tg l:Expr}{td:TE}(hl:PE X l td)(hP:X.prog=P:=by rfl)(hw:X.w=w:=by rfl):PI X tg l (Ls P w td):=by
 subst hP hw;intro pins s σ H R I h;refine av (hl pins s σ H _ I h) λv s1 ⟨x,H1,I1,r1,q1⟩=>?_;obtain⟨d,kvs,rfl,hd,q⟩:=q1;cases r1;obtain⟨vs,ep,rel,z,hs,hm,I2⟩:=I1.freeze hd;refine wpAny_pyIter_dict hs hm ?_;refine⟨s1.heap.objs.size,[s1.heap.objs.size],_,_,_,rfl,I2.kept (t':=s1.toks) λb o e=>Heap.get?_push_of_some _ e,Bq rel,⟨_,Heap.get?_push_size _ rfl,rfl,rfl⟩,λb hb=>?_,q _ ⟨z,hs,vs,ep,rel,rfl⟩⟩;have e:b=s1.heap.objs.size:=by simpa using hb
 subst e;exact I2.p9 (Nat.le_refl _) (I2.aq.fresh (Nat.le_refl _))
end
section
variable{g:TG}{tt:TT}{te:TE}{D:Addr}{σ:St}{H:Hp}{Q:VK}
theorem Fv{d:Addr}{u:HO}{kvs:List (Key×V)}(Pv:Nat->St->Hp->Prop)(h0:Pv 0 σ H)(hl:∀i σ H,i<=kvs.length->Pv i σ H->H d=some u)(hs:∀(i:Nat)(k:Key)(v:V)(σ:St)(H:Hp)(N:St->Hp->Prop),(∀σ H,Pv (i+1) σ H->N σ H)->kvs[i]?=some (k,v)->Pv i σ H->g (kV k) σ H λσ3 H3=>tt σ3 H3 λb H4 =>
   if b=true then te σ3 H4 λv H5=>∃ys,H5 D=some (.lst ys)/\ys.length<sizeLine/\N σ3 (upd H5 D (.lst (ys++[v])))else N σ3 H4)(hd:∀σ H,Pv kvs.length σ H->Q (.ref D) H):pR (Oj d u kvs) g tt te D σ H Q:=by
 refine⟨λi m σ H=>m=kvs.length-i/\i<=kvs.length/\Pv i σ H,⟨kvs.length,by simp,Nat.zero_le _,h0⟩,?_⟩;rintro i m σ' H' ⟨rfl,hi,p⟩;have q1:=hl i σ' H' hi p;by_cases bM:i<kvs.length
 ·refine .inr ⟨⟨q1,bM⟩,λx H2 y=>?_⟩;obtain⟨rfl,k,v,ex,rfl⟩:=y;exact hs i k v σ' _ (λσ3 H3=>∃m',m'<kvs.length-i/\m'=kvs.length-(i+1)/\i+1<=kvs.length/\Pv (i+1) σ3 H3) (λσ3 H3 z=>⟨kvs.length-(i+1),by lia,rfl,bM,z⟩) ex p
 have e:i=kvs.length:=by lia
 subst e;exact .inl ⟨⟨q1,Nat.le_refl _⟩,hd σ' H' p⟩
end
section
variable{X:Cx}
def Lu(P:Program)(w:World)(t:TS):TS:=λD σ H=>t { D with nx:=λσ' H'=>∃d kvs u,DX P w d kvs u/\H' d=some u/\D.nx σ' (upd H' d (.dK kvs)) } σ H
theorem Fw(P:Program)(w:World){st:Stmt}{t:TS}(h:PS X st t)(hP:X.prog=P:=by rfl)(hw:X.w=w:=by rfl):PS X st (Lu P w t):=by
 subst hP hw;intro pins s σ H D I q;refine wpAny_mono (h pins s σ H _ I q) (λf s' q=>?_) λ_ _ z=>z;cases f with
 |next=>obtain⟨σ',H',I',d,kvs,u,ok,hd,q⟩:=q;exact⟨σ',_,I'.JU ok hd,q⟩
 |brk=>exact q
 |cont=>exact q
 |ret u=>exact q
end
section
variable{g:TG}{tt:TT}{te:TE}{D:Addr}{σ:St}{H:Hp}{Q:VK}
end
section
variable{X:Cx}{o e value:Expr}{f:Str}{pos pos':Pos}{ta tv:TE}
theorem nM(K:PySem.W.Frag)(he:PE X e ta)(hb:attributeBase e f X.env (eval e X.env)=eval e X.env)(hK:X.K=K:=by rfl):PE X (.Attribute e f pos) (K8 K ta f):=by subst hK;exact Im he hb
theorem Fx(K:PySem.W.Frag)(ha:PE X o ta)(hv:PE X value tv)(hs:swapsWith value (some (.Attribute o f pos')) pos.line X.env=pure false)(hK:X.K=K:=by rfl):PS X (.Assign [.Attribute o f pos'] value pos) (K9 K ta tv f):=by subst hK;exact Io ha hv hs
end
section
variable{X:Cx}
end
section
variable{X:Cx}{te:TE}{t:TA}{es Uc:List Expr}
end
section
variable{prog:Program}{w:World}{A:Around}{E:Value->Shared->Prop}{s:Shared}
end
section
variable{prog:Program}{w:World}{A:Around}{E:Value->Shared->Prop}{s:Shared}
end
section
variable{X:Cx}
end
section
variable{K:PySem.W.Frag}{g:TG}{σ:St}{H:Hp}
end
section
variable{X:Cx}
end
def ent:Option Int->V
 |none=>.ba
 |some n=>.int n
theorem Fy:∀{x y:Option Int},ent x=ent y->x=y
 |none,none,_=>rfl
 |none,some _,h=>by cases h
 |some _,none,h=>by cases h
 |some a,some b,h=>by cases h;rfl
theorem qu:∀{x y:List (Option Int)},x.map ent=y.map ent->x=y
 |[],[],_=>rfl
 |[],_::_,h=>by cases h
 |_::_,[],h=>by cases h
 |a::x,b::y,h=>by rw[List.map_cons,List.map_cons]at h;rw[Fy (List.cons.inj h).1,qu (List.cons.inj h).2]
theorem nN(e:Option Int):jd (ent e)=true:=by cases e<;>rfl
theorem Aw(x y:Option Int):zD (ent x) (ent y)=decide (x=y):=by
 cases x<;>cases y
 ·rfl
 ·rfl
 ·rfl
 rename_i a b;show(a==b)=_;by_cases h:a=b<;>simp[h]
theorem xK:∀(x y:List (Option Int)),((List.range (min x.length y.length)).all (λj=>decide ((x[j]?).getD none=(y[j]?).getD none))&&(x.length==y.length))=decide (x=y)
 |x,y=>by
  by_cases h:x=y
  ·subst h;simp
  rw[decide_eq_false h];by_cases hl:x.length=y.length
  ·rw[Bool.and_eq_false_iff];left;rw[List.all_eq_false];apply Classical.byContradiction;intro hn;apply h;apply List.ext_getElem?;intro j;by_cases hj:j<x.length
   ·have Fz:j<y.length:=(by lia);have:=Classical.byContradiction λhz=>hn ⟨j,List.mem_range.mpr (by lia),hz⟩;have e:=of_decide_eq_true this;simp only[List.getElem?_eq_getElem hj,List.getElem?_eq_getElem Fz,Option.getD_some]at e ⊢;rw[e]
   rw[List.getElem?_eq_none (by lia),List.getElem?_eq_none (by lia)]
  simp[hl]
section
variable{X:Cx}{pins:List (Addr×Obj)}{σ:St}{H:Hp}{s:Shared}
theorem JV(I:Inv X pins σ H s){a b:Addr}{x y:List (Option Int)}(ha:ao X.K H a (x.map ent))(hb:ao X.K H b (y.map ent)){A:Around}(hu:A.units<cLine):SeqAt.EqAt A s (.ref a) (.ref b) (decide (x=y)):=by
 by_cases yb:a=b
 ·subst yb;rw[decide_eq_true (qu (I.iH ha hb))];exact SeqAt.EqAt.same _
 obtain⟨aM,r1,p1,_⟩:=I.tuple ha;obtain⟨jn,r2,p2,_⟩:=I.tuple hb;have l1:=r1.length;have l2:=r2.length;rw[List.length_map]at l1 l2;refine SeqAt.EqAt.of_refs yb ?_;have q:=SeqAt.RcAt.tuples (A:=A) (s:=s) (e:=λj=>decide ((x[j]?).getD none=(y[j]?).getD none)) (show s.heap.IsTuple a aM.toArray from p1) (show s.heap.IsTuple b jn.toArray from p2) hu λj h1 h2=>?_
 ·rw[List.size_toArray,List.size_toArray,<-l1,<-l2,xK]at q;exact q
 obtain⟨u,hx,rx⟩:=gf r1 j h1;obtain⟨v,hy,ry⟩:=gf r2 j h2;rw[List.getElem?_map]at hx hy;cases ex:x[j]? with
 |none=>rw[ex]at hx;cases hx
 |some eu =>
  cases ey:y[j]? with
  |none=>rw[ey]at hy;cases hy
  |some ev =>
   rw[ex]at hx;rw[ey]at hy;obtain rfl:ent eu=u:=Option.some.inj hx;obtain rfl:ent ev=v:=Option.some.inj hy;have:=uw (A:=A.in1) (s:=s) rx ry (nN eu) (nN ev);rw[Aw]at this;exact this
def Ol(K:PySem.W.Frag)(neg:Bool):R2:=λx y H Q=>∃(a l:Addr)(es:List (Option Int))(n:Nat)(Kd:Nat->Addr)(JW:Nat->List (Option Int)),x=.ref a/\y=.ref l/\ao K H a (es.map ent)/\ag K H l (zI n Kd)/\(∀j,j<n->ao K H (Kd j) ((JW j).map ent)) /\
 Q (.bl (if neg then !((List.range n).any λj=>decide (JW j=es))else(List.range n).any λj=>decide (JW j=es))) H
open Classical in
noncomputable def Ax(K:PySem.W.Frag)(H:Hp)(es:List (Option Int)):Value->Bool
 |.ref c=>decide (ao K H c (es.map ent))
 |_=>false
theorem qx(I:Inv X pins σ H s){c:Addr}{x es:List (Option Int)}(h:ao X.K H c (x.map ent)):Ax X.K H es (.ref c)=decide (x=es):=by
 unfold Ax;by_cases e:x=es
 ·subst e;simp[h]
 rw[decide_eq_false e];exact @decide_eq_false _ (Classical.propDecidable _) λz=>e (qu (I.iH h z))
theorem xM:∀{n:Nat}{f:Nat->Addr}{us:List Value},aW (zI n f) us->us=(List.range n).map λj=>Value.ref (f j):=by
 intro n f us h;have hl:=h.length;rw[Fi]at hl;apply List.ext_getElem?;intro j;by_cases hj:j<n
 ·have ht:(zI n f)[j]?=some (.ref (f j)):=Fj hj;obtain⟨u,hu,ru⟩:=h.get ht;cases ru;rw[hu];simp[hj]
 rw[List.getElem?_eq_none (by lia),List.getElem?_eq_none (by simp;lia)]
theorem Dc(I:Inv X pins σ H s){n:Nat}{Kd:Nat->Addr}{JW:Nat->List (Option Int)}{es:List (Option Int)}{aM:List Value}(r:aW (zI n Kd) aM)(h:∀j,j<n->ao X.K H (Kd j) ((JW j).map ent)):
  aM.toArray.any (Ax X.K H es)=(List.range n).any λj=>decide (JW j=es):=by
 rw[xM r];rw[Bool.eq_iff_iff];simp only[List.any_toArray,List.any_eq_true,List.mem_map,List.mem_range];constructor
 ·rintro⟨v,⟨j,hj,rfl⟩,hv⟩;rw[qx I (h j hj)]at hv;exact⟨j,hj,hv⟩
 rintro⟨j,hj,hv⟩;exact⟨_,⟨j,hj,rfl⟩,by rw[qx I (h j hj)];exact hv⟩
end
section
variable{X:Cx}
theorem Dd(K:PySem.W.Frag)(hu:X.A.units+16<cLine)(hK:X.K=K:=by rfl):ij X (compareOp .In) (Ol K false):=by
 subst hK;intro pins s σ H x y v u Q I rx ry h;obtain⟨a,l,es,n,Kd,JW,rfl,rfl,ha,hl,hh,q⟩:=h;cases rx;cases ry;obtain⟨aM,r,pl,hz⟩:=I.list hl;refine SeqAt.in_listAt (Ax X.K H es) pl.isList (λw hw=>?_) ⟨.bl _,H,I,rfl,?_⟩
 ·have NB:w∈aM:=by simpa using hw
  rw[xM r,List.mem_map]at NB;obtain⟨j,hj,rfl⟩:=NB;rw[List.mem_range]at hj;rw[qx I (hh j hj)];exact JV I (hh j hj) ha (by show X.A.units+1<cLine;lia)
 rw[Dc I r hh];exact q
end
def fM(h:Heap)(x:List (Option Int))(a:Addr):Prop:=∃aM:List Value,aW (x.map ent) aM/\h.IsTuple a aM.toArray
def nO:Int:=0xFCA86420
def qW:Option Int->Int
 |some k=>hashInt k
 |none=>nO
def qX(x:List (Option Int)):Int:=reduceHash (Builtin.Tuple.tupleHashOf (x.map qW))
theorem qY{h:Heap}{a:Addr}{x y:Array Value}(hx:h.IsTuple a x)(hy:h.IsTuple a y):x=y:=by obtain⟨o,ho,_,n,hd⟩:=hx;obtain⟨o',wQ,_,n',qP⟩:=hy;rw[ho]at wQ;obtain rfl:=Option.some.inj wQ;rw[hd]at qP;injection qP with h1 _
theorem xN:∀{x y:List (Option Int)}{vs:List Value},aW (x.map ent) vs->aW (y.map ent) vs->x=y
 |[],[],_,_,_=>rfl
 |[],_::_,_,.nil,h=>by cases h
 |_::_,[],_,h,.nil=>by cases h
 |a::x,b::y,_,.cons r t,.cons r' t'=>by
  rw[xN t t']
  congr 1
  cases a with
  |none =>
   cases b with
   |none=>rfl
   |some j=>cases(show _=Value.none from r);obtain⟨_,e⟩:=(show ∃t,Value.none=Value.int j t from r');cases e
  |some i =>
   obtain⟨u,rfl⟩:=(show ∃t,_=Value.int i t from r);cases b with
   |none=>have e:=(show Value.int i u=Value.none from r');cases e
   |some j=>obtain⟨_,e⟩:=(show ∃t,Value.int i u=Value.int j t from r');cases e;rfl
theorem fM.inj{h:Heap}{a:Addr}{x y:List (Option Int)}(hx:fM h x a)(hy:fM h y a):x=y:=by
 obtain⟨aM,r,ht⟩:=hx;obtain⟨its',r',R6⟩:=hy;have e:=qY ht R6;have e':aM=its':=by simpa using congrArg Array.toList e
 subst e';exact xN r r'
theorem qy{h h':Heap}{a d:Addr}{x:Array Value}{o:Obj}{es ep}(hx:h.IsTuple a x)(ho:h.get? d=some o)(hd:o.data=.dict es ep)(hs:Heap.SameBut d h h'):h'.IsTuple a x:=by
 obtain⟨o',wQ,hc,n,qP⟩:=hx;have xD:a≠d:=by rintro rfl;rw[ho]at wQ;obtain rfl:=Option.some.inj wQ;rw[hd]at qP;exact nomatch qP
 exact⟨o',(hs.2 a xD).trans wQ,hc,n,qP⟩
section
variable{prog:Program}{w:World}{A:Around}{E:Value->Shared->Prop}{s:Shared}
theorem xO{Q:Int->Shared->Prop}(h:Q nO { s with toks:=s.toks+1 }):wpAny (model prog w) A (pyHash .none) Q E s:=by
 have hT:=typeIs_none s;unfold pyHash;unfold pyHashByItsType;have hv:[Value.none].any Value.onHeap=false:=rfl;refine wpAny_bind ?_;rw[cRoomFor,if_neg (by rw[hv];exact Bool.false_ne_true)];refine wpAny_pure ?_;refine wpAny_bind (wpAny_specialOf hT F.slot_NoneType_hash.lookup ?_);refine(show wpAny _ _ (if(some (Value.builtin "NoneType.__hash__")==some Value.none)=true then _ else _) Q E s from ?_);rw[if_neg (by rw[beq_builtin_none];exact Bool.false_ne_true)];refine wpAny_bind (wpAny_specialOf hT F.slot_NoneType_hash.lookup ?_);refine(show wpAny _ _ (callSpecialIfBoundUnlessNone? Value.none "__hash__" _ >>= _) Q E s from ?_);refine wpAny_bind (wpAny_callSpecialIfBoundUnlessNone?_slot hT F.slot_NoneType_hash (wpAny_call_entry F.slot_NoneType_hash hT F.entry_NoneType_hash ?_ (F.args_NoneType_hash_1 _)));refine(show wpAny _ _ (do ret (<- mkInt 0xFCA86420)) _ _ s from wpAny_ret_mkInt ?_)
 exact wpAny_pure h
theorem nP{a:Addr}{all:List (Value×Int×Nat)}{Q:Int->Shared->Prop}(hu:A.units<cLine)(ht:s.heap.IsTuple a (all.map (·.1)).toArray)(hi:∀x∈all,∀(tk:Nat)(Q:Int->Shared->Prop),Q x.2.1 { s with toks:=tk+x.2.2 }->wpAny (model prog w) A.in1 (pyHash x.1) Q E { s with toks:=tk })(h:Q (reduceHash (Builtin.Tuple.tupleHashOf (all.map (·.2.1)))) { s with toks:=s.toks+((all.map (·.2.2)).sum+1) }):wpAny (model prog w) A (pyHash (.ref a)) Q E s:=by
 have hT:s.TypeIs (.ref a) "tuple":=let⟨o,ho,hc,_⟩:=ht;⟨o,ho,hc⟩;obtain⟨o,ho,_,n,hd⟩:=ht;unfold pyHash;unfold pyHashByItsType;refine wpAny_bind (wpAny_cRoomFor_or (.inr hu) ?_);refine wpAny_bind (wpAny_specialOf hT F.slot_tuple_hash.lookup ?_);refine(show wpAny _ _ (if(some (Value.builtin "tuple.__hash__")==some Value.none)=true then _ else _) Q E s from ?_);rw[if_neg (by rw[beq_builtin_none];exact Bool.false_ne_true)];refine wpAny_bind (wpAny_specialOf hT F.slot_tuple_hash.lookup ?_);refine(show wpAny _ _ (callSpecialIfBoundUnlessNone? (.ref a) "__hash__" _ >>= _) Q E s from ?_);refine wpAny_bind (wpAny_callSpecialIfBoundUnlessNone?_slot hT F.slot_tuple_hash (wpAny_call_entry F.slot_tuple_hash hT F.entry_tuple_hash ?_ (F.args_tuple_hash_1 _)));refine(show wpAny _ _ (Builtin.Tuple.tupleItemsOf (.ref a) >>= _) _ _ s from wpAny_bind (wpAny_tupleItemsOf ho hd (wpAny_bind ?_)));rw[<-Array.forIn_toList];refine wpAny_forIn_list _
  (λrest (b:Array Int) s'=>∃done left,all=done++left/\rest=left.map (·.1)/\b.toList=done.map (·.2.1)/\s'={ s with toks:=s.toks+(done.map (·.2.2)).sum })
  _ ?_ ?_ _ _ ⟨[],all,rfl,by simp,rfl,rfl⟩
 ·rintro x rest b s' ⟨done,left,rfl,hl,hb,rfl⟩
  match left,hl with
  |y::Hc,hl =>
   rw[List.map_cons]at hl;obtain⟨rfl,rfl⟩:=List.cons.inj hl;refine wpAny_bind (hi y (by simp) _ _ ?_)
   first
    |exact wpAny_pure ⟨done++[y],Hc,by simp,rfl,by simp[hb],by simp[Nat.add_assoc]⟩
    |exact wpAny_bind (wpAny_pure (wpAny_pure ⟨done++[y],Hc,by simp,rfl,by simp[hb],by simp[Nat.add_assoc]⟩))
 rintro b s' ⟨done,left,rfl,hl,hb,rfl⟩;have:left=[]:=List.map_eq_nil_iff.mp hl.symm;subst this;rw[List.append_nil]at h;refine(show wpAny _ _ (retInt (Builtin.Tuple.tupleHashOf b.toList)) _ _ _ from ?_);rw[hb];refine wpAny_ret_mkInt ?_;refine(show wpAny _ _ (if(decide (-(2:Int) ^ 63<=Builtin.Tuple.tupleHashOf (done.map (·.2.1)))&&decide (Builtin.Tuple.tupleHashOf (done.map (·.2.1))<2 ^ 63))=true then _ else _) Q E _ from ?_);unfold reduceHash at h;by_cases hr:(decide (-(2:Int) ^ 63<=Builtin.Tuple.tupleHashOf (done.map (·.2.1)))&&decide (Builtin.Tuple.tupleHashOf (done.map (·.2.1))<2 ^ 63))=true
 ·rw[if_pos hr];rw[if_pos hr]at h;exact wpAny_pure (by simpa[Nat.add_assoc]using h)
 rw[if_neg hr];rw[if_neg hr]at h;exact wpAny_bind (wpAny_rule (wpAny_pure (by simpa[Nat.add_assoc]using h)))
theorem qz{x:List (Option Int)}{a:Addr}{Q:Int->Shared->Prop}(hu:A.units<cLine)(hx:fM s.heap x a)(h:Q (qX x) { s with toks:=s.toks+(x.length+1) }):wpAny (model prog w) A (pyHash (.ref a)) Q E s:=by
 obtain⟨aM,r,ht⟩:=hx;have hl:=r.length;rw[List.length_map]at hl;have sums:∀{x:List (Option Int)}{aM:List Value},aW (x.map ent) aM->∃all:List (Value×Int×Nat),all.map (·.1)=aM/\all.map (·.2.1)=x.map qW/\(all.map (·.2.2)).sum=x.length/\∀y∈all,y.2.2=1/\((y.1=.none/\y.2.1=nO)\/∃i t,y.1=.int i t/\y.2.1=hashInt i):=by
  intro x
  induction x with
  |nil=>intro aM r;cases r;exact⟨[],rfl,rfl,rfl,λy hy=>by cases hy⟩
  |cons e x ih =>
   intro aM r;cases r with
   |cons r t =>
    obtain⟨all,a1,a2,a3,a4⟩:=ih t;cases e with
    |none =>
     cases(show _=Value.none from r);refine⟨(.none,nO,1)::all,by simp[a1],by simp[a2,qW],by simp[a3];lia,λy hy=>?_⟩;rcases List.mem_cons.mp hy with rfl|hy
     ·exact⟨rfl,.inl ⟨rfl,rfl⟩⟩
     exact a4 y hy
    |some i =>
     obtain⟨u,rfl⟩:=(show ∃t,_=Value.int i t from r);refine⟨(.int i u,hashInt i,1)::all,by simp[a1],by simp[a2,qW],by simp[a3];lia,λy hy=>?_⟩;rcases List.mem_cons.mp hy with rfl|hy
     ·exact⟨rfl,.inr ⟨i,u,rfl,rfl⟩⟩
     exact a4 y hy
 obtain⟨all,a1,a2,a3,a4⟩:=sums r;refine nP (all:=all) hu (by rw[a1];exact ht) (λy hy tk Q' hq=>?_) (by rw[a2,a3];exact h);obtain⟨e1,e2⟩:=a4 y hy;rw[e1]at hq;rcases e2 with⟨e3,e4⟩|⟨i,t,e3,e4⟩
 ·rw[e3];rw[e4]at hq;exact xO hq
 rw[e3];rw[e4]at hq;exact wpAny_pyHash_int hq
theorem rowAt{x y:List (Option Int)}{a b:Addr}(hu:A.units<cLine)(hx:fM s.heap x a)(hy:fM s.heap y b):SeqAt.EqAt A s (.ref a) (.ref b) (decide (x=y)):=by
 by_cases yb:a=b
 ·subst yb;rw[decide_eq_true (hx.inj hy)];exact SeqAt.EqAt.same _
 obtain⟨aM,r1,p1⟩:=hx;obtain⟨jn,r2,p2⟩:=hy;have l1:=r1.length;have l2:=r2.length;rw[List.length_map]at l1 l2;refine SeqAt.EqAt.of_refs yb ?_;have q:=SeqAt.RcAt.tuples (A:=A) (s:=s) (e:=λj=>decide ((x[j]?).getD none=(y[j]?).getD none)) p1 p2 hu λj h1 h2=>?_
 ·rw[List.size_toArray,List.size_toArray,<-l1,<-l2,xK]at q;exact q
 obtain⟨u,hx,rx⟩:=gf r1 j h1;obtain⟨v,hy,ry⟩:=gf r2 j h2;rw[List.getElem?_map]at hx hy;cases ex:x[j]? with
 |none=>rw[ex]at hx;cases hx
 |some eu =>
  cases ey:y[j]? with
  |none=>rw[ey]at hy;cases hy
  |some ev =>
   rw[ex]at hx;rw[ey]at hy;obtain rfl:ent eu=u:=Option.some.inj hx;obtain rfl:ent ev=v:=Option.some.inj hy;have:=uw (A:=A.in1) (s:=s) rx ry (nN eu) (nN ev);rw[Aw]at this;exact this
theorem pT(n:Nat){a:Addr}{items:Array Value}{Q:Bool->Shared->Prop}(ht:s.heap.IsTuple a items)(hi:∀v∈items.toList,∀Q:Bool->Shared->Prop,Q true s->wpAny (model prog w) A (eqIsQuiet n v) Q E s)(h:Q true s):wpAny (model prog w) A (eqIsQuiet (n+1) (.ref a)) Q E s:=by
 have hT:s.TypeIs (.ref a) "tuple":=let⟨o,ho,hc,_⟩:=ht;⟨o,ho,hc⟩;obtain⟨o,ho,_,m,hd⟩:=ht;unfold eqIsQuiet;refine wpAny_bind (wpAny_specialOf hT F.slot_tuple_eq.lookup ?_);refine(show wpAny _ _ (isInstance (.ref a) (.type "tuple") >>= _) _ _ s from wpAny_bind (wpAny_isInstance hT isSubtype_tuple_tuple ?_));simp only[Bool.not_true,Bool.false_eq_true,if_false];refine wpAny_bind (wpAny_seqItems ho hd (wpAny_bind ?_));refine(show wpAny _ _ (forIn items _ _) _ _ s from ?_);rw[<-Array.forIn_toList];refine wpAny_forIn_list _ (λrest r s'=>r.1=none/\s'=s/\∀v∈rest,v∈items.toList) _ ?_ ?_ _ _ ⟨rfl,rfl,λv hv=>hv⟩
 ·rintro v rest r s' ⟨hr,rfl,Bb⟩;refine wpAny_bind (hi v (Bb v List.mem_cons_self) _ ?_);simp only[Bool.not_true,Bool.false_eq_true,if_false];exact wpAny_pure ⟨rfl,rfl,λu Om=>Bb u (List.mem_cons_of_mem _ Om)⟩
 rintro⟨r1,r2⟩ s' ⟨hr,rfl,_⟩;simp only at hr;subst hr;exact wpAny_pure h
theorem uO(n:Nat){x:List (Option Int)}{a:Addr}{Q:Bool->Shared->Prop}(hx:fM s.heap x a)(h:Q true s):wpAny (model prog w) A (eqIsQuiet (n+1) (.ref a)) Q E s:=by
 obtain⟨aM,r,ht⟩:=hx;refine pT n ht (λv hv Q' hq=>?_) h;have hb:carriedByValue v=true:=by
  have jv:v∈aM:=by simpa using hv
  clear hv;have all:∀{x:List (Option Int)}{aM:List Value},aW (x.map ent) aM->∀v∈aM,carriedByValue v=true:=by
   intro x
   induction x with
   |nil=>intro aM r v hv;cases r;cases hv
   |cons e x ih =>
    intro aM r v hv;cases r with
    |cons r t =>
     rcases List.mem_cons.mp hv with rfl|hv
     ·cases e with
      |none=>cases(show v=Value.none from r);rfl
      |some i=>obtain⟨u,rfl⟩:=(show ∃t,v=Value.int i t from r);rfl
     exact ih t v hv
  exact all r v jv
 rw[eqIsQuiet_byValue _ hb];exact wpAny_pure hq
end
section
variable{X:Cx}{pins:List (Addr×Obj)}{σ:St}{H:Hp}{s:Shared}{a:Addr}{xs:SX}{A:Around}{E:Value->Shared->Prop}
theorem Hd(I:Inv X pins σ H s){b:Addr}{x:List (Option Int)}(h:ao X.K H b (x.map ent)):fM s.heap x b:=by obtain⟨aM,r,ht,_⟩:=I.tuple h;exact⟨aM,r,ht⟩
end
section
variable{X:Cx}
variable{o i value:Expr}{pos pos':Pos}{td ty tv:TE}
end
def oh(d:Addr)(es:Array DictEntry)(ep:Nat)(h:Heap):Prop:=∃o,h.get? d=some o/\o.ExactDict/\o.data=.dict es ep
theorem oh.typeIs{s:Shared}{d:Addr}{es:Array DictEntry}{ep:Nat}(x:oh d es ep s.heap):s.TypeIs (.ref d) "dict":=let⟨o,ho,hc,_⟩:=x;⟨o,ho,hc.1⟩
theorem oh.at_{h h':Heap}{d:Addr}{es:Array DictEntry}{ep:Nat}(x:oh d es ep h)(e:∀o,h.get? d=some o->h'.get? d=some o):oh d es ep h':=let⟨o,ho,r⟩:=x;⟨o,e _ ho,r⟩
section
variable{prog:Program}{w:World}{A:Around}{E:Value->Shared->Prop}{s:Shared}{d:Addr}{es:Array DictEntry}{ep:Nat}
theorem De{Q:Value->Shared->Prop}(hd:(d==sysModules)=false)(x:oh d es ep s.heap)(hQ:Q (.ref s.heap.objs.size) { s with heap:=s.heap.push { cls:=.type "dict_keyiterator",data:=.fields #[.ref d,.int 0 0,.int es.size 0,.int ep 0] } }):
  wpAny (model prog w) A (pyIter (.ref d)) Q E s:=by
 have hT:=x.typeIs;obtain⟨o,ho,hc,F3⟩:=x;refine wpAny_pyIter_slot hT F.slot_dict_iter (wpAny_call_entry F.slot_dict_iter hT F.entry_dict_iter ?_ (F.args_dict_iter_1 _));unfold Builtin.«dict.__iter__»;refine wpAny_bind ?_;unfold Builtin.Dict.dictSlotNone;refine wpAny_bind (wpAny_notOrdered_dict hT ?_);refine(show wpAny _ _ (pure (Value.ref d)) _ _ s from wpAny_pure ?_);refine(show wpAny _ _ (Builtin.Dict.showsAll d >>= _) _ _ s from ?_);unfold Builtin.Dict.showsAll;rw[if_neg (by rw[hd];exact Bool.false_ne_true)];refine wpAny_bind (wpAny_pure (wpAny_bind (wpAny_dictEntries ho F3 (wpAny_bind (wpAny_dictEpoch ho F3 ?_)))));refine wpAny_bind (wpAny_newObj_type (wpAny_pure ⟨_,rfl,"dict_keyiterator",_,⟨_,Heap.get?_push_size _ rfl,rfl⟩,F.slot_dict_keyiterator_next.lookup,?_⟩))
 simpa[rawInt]using hQ
theorem Df{it:Addr}{i:Nat}{Q:Option Value->Shared->Prop}(hit:s.heap.IsKeyIter it d i es.size ep)(x:oh d es ep s.heap)(bM:i<es.size)(hQ:∀h',h'.IsKeyIter it d (i+1) es.size ep->Heap.SameBut it s.heap h'->Q (some es[i].key) { s with heap:=h' }):wpAny (model prog w) A (pyNext (.ref it)) Q E s:=by
 obtain⟨o,ho,hc,hd⟩:=id hit;obtain⟨od,Lv,wR,Lw⟩:=x;unfold pyNext;refine wpAny_bind (wpAny_attempt (wpAny_callSpecial?_slot (name:=Str.ofString "__next__") hit.typeIs F.slot_dict_keyiterator_next
  (wpAny_call_entry F.slot_dict_keyiterator_next hit.typeIs F.entry_dict_keyiterator_next ?_ (F.args_dict_keyiterator_next_1 _))))
 refine wpAny_bind (wpAny_pure ?_);refine wpAny_bind ?_;refine wpAny_bind ?_
 first|refine wpAny_bind (wpAny_typeNameOfWhole_keyiter hit.typeIs (wpAny_pure ?_))|refine wpAny_bind (wpAny_typeNameOf_keyiter hit.typeIs (wpAny_pure ?_))
 refine wpAny_bind (wpAny_fieldsOf ho hd ?_);have JX:Builtin.Dict_items.ownsTuple "dict_keyiterator"=false:=by decide
 simp only[JX,Bool.false_eq_true,if_false];refine(show wpAny _ _ (if(Value.ref d==Value.none)=true then _ else _) _ _ s from ?_);rw[if_neg (show ¬((Value.ref d==Value.none)=true)from Bool.false_ne_true)];refine wpAny_bind (wpAny_pure (wpAny_bind (wpAny_dictEntries Lv Lw ?_)));rw[if_neg (by simp)];refine wpAny_bind (wpAny_pure (wpAny_bind (wpAny_dictEpoch Lv Lw ?_)));rw[if_neg (by simp)];refine wpAny_pure ?_;simp only[show ¬((i:Int)<0)from by lia,if_false,Int.toNat_natCast,Array.getElem?_eq_getElem bM];refine wpAny_bind ?_
 first|refine wpAny_bind (wpAny_typeNameOfWhole_keyiter hit.typeIs (wpAny_pure ?_))|refine wpAny_bind (wpAny_typeNameOf_keyiter hit.typeIs (wpAny_pure ?_))
 refine wpAny_bind (wpAny_isOneOf_keyiter hit.typeIs ?_);refine(show wpAny _ _ (setField (.ref it) 1 (rawInt ((i:Int)+1)) >>= _) _ _ s from ?_);refine wpAny_bind (wpAny_setField ho hd (by simp) ?_);have F4:(s.heap.update it (Obj.mapFields (·.setIfInBounds 1 (rawInt ((i:Int)+1))))).IsKeyIter it d (i+1) es.size ep :=
  ⟨_,Heap.get?_update_self _ ho (Obj.isFreed_of_fields (Obj.data_mapFields hd _)),(Obj.cls_mapFields ..).trans hc,by rw[Obj.data_mapFields hd];simp[rawInt]⟩
 refine wpAny_bind (wpAny_holding ?_);refine wpAny_bind (wpAny_isOneOf_keyiter (s:={ s with heap:=s.heap.update it (Obj.mapFields (·.setIfInBounds 1 (rawInt ((i:Int)+1)))) }) F4.typeIs ?_);refine(show wpAny _ _ (pure es[i].key) _ _ _ from ?_);exact wpAny_pure (wpAny_pure ⟨_,rfl,wpAny_pure (hQ _ F4 (Heap.SameBut.update ..))⟩)
end
section
variable{prog:Program}{w:World}{A:Around}{E:Value->Shared->Prop}{s:Shared}{d:Addr}{es:Array DictEntry}{ep:Nat}
theorem F5{it:Addr}{i:Nat}{Q:Option Value->Shared->Prop}(hh:A.handled=none)(hit:s.heap.IsKeyIter it d i es.size ep)(x:oh d es ep s.heap)(R7:es.size<=i)(hQ:∀h',Heap.ExtBut it s.heap h'->Q none { s with heap:=h' }):wpAny (model prog w) A (pyNext (.ref it)) Q E s:=by
 obtain⟨o,ho,hc,hd⟩:=id hit;obtain⟨od,Lv,wR,Lw⟩:=x;unfold pyNext;refine wpAny_bind (wpAny_attempt (wpAny_callSpecial?_slot (name:=Str.ofString "__next__") hit.typeIs F.slot_dict_keyiterator_next
  (wpAny_call_entry F.slot_dict_keyiterator_next hit.typeIs F.entry_dict_keyiterator_next ?_ (F.args_dict_keyiterator_next_1 _))))
 refine wpAny_bind (wpAny_pure ?_);refine wpAny_bind ?_;refine wpAny_bind ?_
 first|refine wpAny_bind (wpAny_typeNameOfWhole_keyiter hit.typeIs (wpAny_pure ?_))|refine wpAny_bind (wpAny_typeNameOf_keyiter hit.typeIs (wpAny_pure ?_))
 refine wpAny_bind (wpAny_fieldsOf ho hd ?_);have JX:Builtin.Dict_items.ownsTuple "dict_keyiterator"=false:=by decide
 simp only[JX,Bool.false_eq_true,if_false];refine(show wpAny _ _ (if(Value.ref d==Value.none)=true then _ else _) _ _ s from ?_);rw[if_neg (show ¬((Value.ref d==Value.none)=true)from Bool.false_ne_true)];refine wpAny_bind (wpAny_pure (wpAny_bind (wpAny_dictEntries Lv Lw ?_)));rw[if_neg (by simp)];refine wpAny_bind (wpAny_pure (wpAny_bind (wpAny_dictEpoch Lv Lw ?_)));rw[if_neg (by simp)];refine wpAny_pure ?_;simp only[show ¬((i:Int)<0)from by lia,if_false,Int.toNat_natCast,Array.getElem?_eq_none R7];refine wpAny_bind ?_
 first|refine wpAny_bind (wpAny_typeNameOfWhole_keyiter hit.typeIs (wpAny_pure ?_))|refine wpAny_bind (wpAny_typeNameOf_keyiter hit.typeIs (wpAny_pure ?_))
 refine(show wpAny _ _ (setField (.ref it) 0 .none >>= _) _ _ s from ?_);refine wpAny_bind (wpAny_setField ho hd (by simp) ?_);refine(show wpAny _ _ (newExc (.type "StopIteration") [] >>= _) _ _ _ from ?_);refine wpAny_bind ?_;simp only[newExc,newTuple];refine wpAny_bind (wpAny_newObj_type ?_ (by size_fits));refine wpAny_bind (m:=firstArgMember _ _) (wpAny_of_eq (a:=Value.none) (by first|rfl|(simp only[firstArgMember];rfl)) ?_);refine wpAny_newObj_type ?_ (by size_fits);simp only[raiseNew];refine wpAny_bind (wpAny_handled ?_);rw[show A.in1.handled=none from hh];refine wpAny_bind (wpAny_pure (wpAny_throw ?_));refine wpAny_bind (wpAny_isInstance (T:="StopIteration") (b:=true) ⟨_,Heap.get?_push_size _ rfl,rfl⟩ isSubtype_stop ?_);exact wpAny_pure (hQ _ (((Heap.SameBut.update ..).extBut.push _).push _))
end
section
variable{X:Cx}
end
theorem xP:typeLookup (.type "list") "keys"=pure none:=by rw[typeLookup_type,builtinLookup_eq_fast];kernel_rfl
theorem kr:plainId "dict.update.loop"=true:=by decide +kernel
theorem uP:entryFor table "dict.update.loop"=some Builtin.«dict.update.loop»:=entryFor_of_tree (by kernel_rfl)
theorem Bs{prog:Program}{w:World}{A:Around}{E:Value->Shared->Prop}{s:Shared}{a:Addr}{xs:Array Value}{k:Nat}{Q:Option Value->Shared->Prop}(hx:s.heap.get? a=some { cls:=.type "list",data:=.seq xs k })(hA:A.handled=none)(h:∀h' tk,(∀b o,s.heap.get? b=some o->h'.get? b=some o)->Q none { s with heap:=h',toks:=tk }):wpAny (model prog w) A (getAttr? (.ref a) "keys") Q E s:=by
 obtain⟨hp,g,d,tk,os⟩:=s;have hT:∀He,(⟨hp,g,d,He,os⟩:Shared).TypeIs (.ref a) "list":=λ_=>⟨_,hx,rfl⟩;have f1:=sub_AttributeError;have f3:=F.slot_list_getattribute.lookup;have f4:=F.slot_list_getattribute.bind (.ref a);have f5:=am_list_getattr_none;unfold getAttr? getAttrBy? getAttrBy
 repeat (any_goals (first|assumption|exact hT _|((with_reducible show wpAny _ _ (call (Value.builtin "list.__getattribute__") _ _) _ _ _);refine call_meets F.slot_list_getattribute (hT _) am_entry_list_getattribute (F.args_list_getattribute_2 _ _) (meets_getattribute_miss_list a xs k _ "keys" _ xP (by decide)) ⟨hx,hA,λh' He e Lx=>?_⟩)|wp_step))
 obtain⟨t',u',he⟩:=Lx.there;refine(show wpAny _ _ (getattributeRaised _ _ _ _ _ _ _) _ _ _ from ?_);unfold getattributeRaised;have hE:∀He,(⟨h',g,d,He,os⟩:Shared).TypeIs (.ref e) "AttributeError":=λ_=>⟨_,he,rfl⟩
 repeat (any_goals (first|assumption|exact hE _|wp_step))
 exact h _ _ Lx.keeps
section
variable{prog:Program}{w:World}{A:Around}{h0:Heap}{d it l:Addr}{L:List RQ}
end
section
variable{X:Cx}{pins:List (Addr×Obj)}{σ:St}{H:Hp}{s:Shared}
end
section
variable{X:Cx}{pins:List (Addr×Obj)}{σ:St}{H:Hp}{s:Shared}
end
section
variable{X:Cx}
end
section
variable{X:Cx}
end
section
variable{g:TG}{σ:St}{H:Hp}
end
section
variable{X:Cx}
end
def less(B:Heap)(c:Addr):Heap:=B.update c λo=>{ o with data:=.freed }
theorem Ay(B:Heap)(c:Addr):(less B c).get? c=none:=by
 unfold less Heap.update Heap.get?;simp only[Array.getElem?_modify,if_true];cases e:B.objs[c]? with
 |none=>rfl
 |some o=>rfl
theorem vH{B:Heap}{b c:Addr}(h:b≠c):(less B c).get? b=B.get? b:=Heap.get?_update_other _ _ (Ne.symm h)
theorem vI(B:Heap)(c:Addr):(less B c).StaysIn B:=λb o e=>by
 by_cases h:b=c
 ·subst h;rw[Ay]at e;cases e
 rw[vH h]at e;exact e
theorem rA{base h h':Heap}{c:Addr}(hs:Heap.SameBut c h h'):∀{l:List Env},h.FunFrames base l->c∉fJ l->h'.FunFrames base l
 |[],_,_=>trivial
 |env::rest,⟨hk,⟨L,o,hf,hn,ho,hd⟩,hr⟩,hc=>by have hL:L≠c:=λz=>hc (List.mem_filterMap.mpr ⟨env,List.mem_cons_self,by rw[hf,z]⟩);refine⟨hk,⟨L,o,hf,hn,(hs.2 L hL).trans ho,hd⟩,rA hs hr λz=>hc ?_⟩;obtain⟨e,he,R8⟩:=List.mem_filterMap.mp z;exact List.mem_filterMap.mpr ⟨e,List.mem_cons_of_mem _ he,R8⟩
theorem Bt{B h h':Heap}{l:List Env}{e L c:Addr}{cls a0:Value}{oc:Obj}(x:Heap.HeldW B l e cls a0 L h)(hB:B.get? c=some oc)(hc:h.get? c=some oc)(hd:∀vs,oc.data≠.fields vs)(hs:Heap.SameBut c h h'):Heap.HeldW (less B c) l e cls a0 L h':=by
 have zM:c∉fJ l:=λz=>by obtain⟨q,_⟩:=x.2.2.1.mem z;rw[hB]at q;cases q
 obtain⟨f1,f2,f3,oe,vs,T,oT,ts,a1,a2,a3,a4,a5,a6,a7,a8,a9⟩:=PySem.W.heldW_base (vI B c) x;have R9:e≠c:=λz=>by subst z;rw[hc]at a1;cases a1;exact hd _ a3
 have SA:T≠c:=λz=>by subst z;rw[hc]at a7;cases a7;exact hd _ a8
 refine⟨λb o q=>?_,f2,rA hs f3 zM,oe,vs,T,oT,ts,(hs.2 e R9).trans a1,a2,a3,a4,a5,a6,(hs.2 T SA).trans a7,a8,a9⟩;have hb:b≠c:=λz=>by subst z;rw[Ay]at q;cases q
 exact(hs.2 b hb).trans (f1 b o q)
theorem flight_again{M:Model}{A:Around}{E:Value->Shared->Prop}{s:Shared}{base:Heap}{l:List Env}{e L:Addr}{cls a0:Value}{Q:Unit->Shared->Prop}(R:Heap.HeldW base l e cls a0 L s.heap)(h:∀h',Heap.HeldW base l e cls a0 L h'->(∀b o,s.heap.get? b=some o->(∀vs,o.data≠.fields vs)->h'.get? b=some o)->Q () { s with heap:=h' }):wpAny M A (setFlight (.ref e) (some L)) Q E s:=by
 obtain⟨SF,SG,hl,oe,vs,T,oT,ts,he,FE,hd,h1,NC,QX,hT,ND,h3⟩:=R;have hz:3<ts.size:=(Array.getElem?_eq_some_iff.mp h3).1;unfold setFlight;refine wpAny_bind (wpAny_field he hd h1 ?_);rw[if_pos (show(Value.ref T != Value.none)=true from by simp)];have JY:∀b,b≠T->(s.heap.update T (Obj.mapFields (·.setIfInBounds 3 ((some L).elim Value.none λf=>rawInt f)))).get? b=s.heap.get? b:=λb hb=>Heap.get?_update_other _ _ (Ne.symm hb);have nT:∀b o,s.heap.get? b=some o->(∀vs,o.data≠.fields vs)->b≠T:=λb o hb Hf z=>by subst z;rw[hT]at hb;cases hb;exact Hf ts ND
 refine wpAny_setField hT ND hz (h _ ⟨λb o q=>?_,SG,hl.of_keeps λb o hb Hf=>⟨o,(JY b (nT b o hb Hf)).trans hb,rfl⟩,?_⟩ λb o hb Hf=>(JY b (nT b o hb Hf)).trans hb)
 ·have hb:b≠T:=λz=>by subst z;rw[NC]at q;cases q
  exact(JY b hb).trans (SF b o q)
 exact⟨oe,vs,T,_,_,(JY e (Ne.symm QX)).trans he,FE,hd,h1,NC,QX,Heap.get?_update_self _ hT (Obj.isFreed_of_fields (Obj.data_mapFields ND _)),Obj.data_mapFields ND _,by simp[hz]⟩
section
variable{X:Cx}{E:XK}{pins:List (Addr×Obj)}{σ:St}{H:Hp}{s:Shared}
theorem Bu{outer:List Env}{H H':Hp}{h h1 h2 B:Heap}(u:Un (fJ outer) [] H H' h h1)(F:h1.FunFrames B outer)(La:B.StaysIn h1)(Lb:B.StaysIn h2)(up:∀b∈fJ outer,∀o,h1.get? b=some o->(∀vs,o.data≠.fields vs)->∃sl,h2.get? b=some { o with slots:=sl })(yY:∀b o,h.get? b=some o->b∉fJ outer->∃o',B.get? b=some o'):Un (fJ outer) [] H H' h h2:=by
 have at2:∀b o,h.get? b=some o->b∉fJ outer->∀o1,h1.get? b=some o1->h2.get? b=some o1:=λb o e hb o1 e1=>by obtain⟨o',eB⟩:=yY b o e hb;have q:=La b o' eB;rw[e1]at q;cases q;exact Lb b _ eB
 refine⟨λb o e n hb hx=>at2 b o e hb o (u.keep b o e n hb hx),λb o e n hb hx=>?_,u.free,λb o e hx=>?_,u.mw,u.lh,u.mx⟩
 ·obtain⟨sl,e1⟩:=u.slot b o e n hb hx;obtain⟨_,o1,q1,q2⟩:=qU F hb;rw[e1]at q1;cases q1;obtain⟨Bf,e2⟩:=up b hb _ e1 q2;exact⟨Bf,e2⟩
 obtain⟨o1,e1⟩:=u.there b o e hx;by_cases hb:b∈fJ outer
 ·obtain⟨_,o2,q1,q2⟩:=qU F hb;obtain⟨Bf,e2⟩:=up b hb _ q1 q2;exact⟨_,e2⟩
 exact⟨o1,at2 b o e hb o1 e1⟩
theorem leave_held{a C c L:Addr}{a0:Value}{B:Heap}{H':Hp}{s':Shared}{h6:Heap}(Bd:Body X E)(I:Inv X pins σ H s)(T:zG X.prog X.w X.stack H s a C a0 B H' s')(hL:X.env.frame=some L)(JZ:X.s₀.heap.objs.size<=c)(SH:H' c=none)(held:Heap.HeldW (less B c) X.stack a (.ref C) a0 L h6)(ups:∀b∈fJ X.outer,∀o,s'.heap.get? b=some o->(∀vs,o.data≠.fields vs)->∃sl,h6.get? b=some { o with slots:=sl })(q:E (.ref C) none H'):X.xe (.ref a) { s' with heap:=h6 }:=by
 rw[Bd.xe];have hh:=held;rw[Bd.yX]at hh;show wpAny _ X.A (do noteFrame (.ref a) X.env;setFlight (.ref a) none) _ _ _
 refine wpAny_bind (wpAny_noteFrame_againW hL hh.2.2.2 (wpAny_landsW hh λh7 F6 SI=>?_));have sV:Heap.FlyingW (less B c) X.outer a (.ref C) a0 h7:=⟨F6.1,F6.2.1,F6.2.2.1.2.2,F6.2.2.2⟩;have Oo:∀b o,X.s₀.heap.get? b=some o->b∉fJ X.outer->∃o',B.get? b=some o':=λb o e hb=>by obtain⟨o1,e1⟩:=(Bd.base I).there b o e (by simp);exact T.yY b o1 e1 (Bd.xA (I.old e) hb)
 have yY:∀b o,X.s₀.heap.get? b=some o->b∉fJ X.outer->∃o',(less B c).get? b=some o':=λb o e hb=>by rw[vH (Nat.ne_of_lt (Nat.lt_of_lt_of_le (Heap.lt_size e) JZ))];exact Oo b o e hb
 have u1:Un (fJ X.outer) [] X.H₀ H' X.s₀.heap s'.heap:=by
  have ub:=Bd.base I;refine⟨λb o e n hb hx=>T.un.keep b o (ub.keep b o e n hb hx) (ub.free b o e n hx) (Bd.xA (I.old e) hb) (by simp),λb o e n hb hx=>?_,λb o e n hx=>?_,λb o e hx=>?_,λb xs e=>T.un.mw b xs (ub.mw b xs e),
   λb o xs e=>T.un.lh b o xs (ub.lh b o xs e),λb ps e=>?_⟩
  ·obtain⟨sl,e1⟩:=ub.slot b o e n hb hx;obtain⟨IM,e2⟩:=T.un.any e1 (ub.free b o e n hx) (by simp);exact⟨IM,e2⟩
  ·obtain⟨o1,e1⟩:=ub.there b o e hx;exact T.un.free b o1 e1 (ub.free b o e n hx) (by simp)
  ·obtain⟨o1,e1⟩:=ub.there b o e hx;exact T.un.there b o1 e1 (by simp)
  obtain⟨m1,e1⟩:=ub.mx b ps e;obtain⟨m2,e2⟩:=T.un.mx b _ e1;exact⟨m1++m2,by rw[e2,Array.append_assoc]⟩
 have tf:=T.sV;rw[Bd.yX]at tf;have F':s'.heap.FunFrames (less B c) X.outer:=PySem.W.funFrames_base (vI B c) tf.2.2.1.2.2;have QY:(less B c).StaysIn s'.heap:=λb o e=>tf.1 b o (vI B c b o e);have wb:∀b u,H' b=some u->∃o',(less B c).get? b=some o':=λb u e=>by rw[vH λz=>by rw[z,SH]at e;cases e];exact T.wb b u e
 exact⟨a,C,a0,less B c,H',rfl,⟨T.os.trans I.os,T.bare,Bu u1 F' QY sV.1 (λb hb o e hn=>by obtain⟨sl,e2⟩:=ups b hb o e hn;obtain⟨Bf,e3⟩:=SI b { o with slots:=sl } e2 hn;exact⟨Bf,e3⟩) yY,oZ T.aq QY sV.1 wb,sV,yY,wb⟩,q⟩
end
section
variable{prog:Program}{w:World}{A:Around}{R:Result->Shared->Prop}{s:Shared}
theorem Bv{elt target iter:Expr}{ifs:List Expr}{scope:Scope}{pos:Pos}{it acc:Value}{env:Env}{Er:Value->Shared->Prop}(Ke:∀e s',Er e s'->notedBy (model prog w) A env (λe s'=>R (.error e) s') e s')(I:Nat->Shared->Prop)(turn:∀n s,I n s->wpAny (model prog w) A (pyNext it) (λr s₁=>match r with
   |none=>R (.ok .next) s₁
   |some v=>wpAny (model prog w) A (letOwnedTupleGo target it v) (λ_ s₁'=>wpAny (model prog w) A (assign target env v) (λ_ s₂ =>
     wpAny (model prog w) A (forIn ifs true λc r=>if r=true then do let ok <- isTrue c env (eval c env);pure (ForInStep.yield ok)else pure (ForInStep.yield r)) (λok s₃ =>
      if ok=true then wpAny (model prog w) A (eval elt env) (λx s₄ =>
       wpAny (model prog w) A (call (.builtin "list.append") [acc,x]) (λ_ s₅=>∃m,m<n/\I m s₅) Er s₄) Er s₃
      else ∃m,m<n/\I m s₃) Er s₂) Er s₁') Er s₁) Er s)(n:Nat)(h:I n s):
  codeAny (model prog w) A (.compLoop (.ListComp elt [⟨target,iter,ifs,0⟩] scope pos) 0 it acc env) R s:=by
 refine codeAny_loop rfl I (λn s hI=>?_) n h;show wpAny _ A ((compTurn (.ListComp elt [⟨target,iter,ifs,0⟩] scope pos) 0 it acc env).onRaise (λx=>do noteFrame x env;theTreesLotGoes x)) _ _ s
 refine wpAny_noted ?_;rw[compTurn_list];refine wpAny_bind (wpAny_standAt (wpAny_bind (wpAny_mono (turn n s hI) (λr s₁ h₁=>?_) Ke)));cases r with
 |none=>exact wpAny_pure h₁
 |some v =>
  refine wpAny_bind (wpAny_mono h₁ (λ_ s₁' h₁'=>?_) Ke);refine wpAny_bind (wpAny_mono h₁' (λ_ s₂ h₂=>wpAny_bind (wpAny_mono h₂ (λok s₃ h₃=>?_) Ke)) Ke);cases ok with
  |false=>exact wpAny_pure ⟨rfl,h₃⟩
  |true =>
   exact wpAny_bind (wpAny_bind (wpAny_mono h₃ (λx s₄ h₄=>wpAny_bind (wpAny_mono h₄ (λ_ s₅ h₅=>wpAny_pure (wpAny_pure ⟨rfl,h₅⟩)) Ke)) Ke))
end
def Dg(M:Model)(A:Around)(E:Value->Shared->Prop)(Q:Value->Shared->Prop)(acc:Value)(cenv:Env)(r:Result)(s':Shared):Prop :=
 match r with
 |.ok _=>∃m,s'.heap.Ns cenv.locals m/\∀h',Heap.SameBut cenv.locals s'.heap h'->Q acc { s' with heap:=h' }
 |.error x=>∃m,s'.heap.Ns cenv.locals m/\∀h',Heap.SameBut cenv.locals s'.heap h'->wpAny M A (passOn "comprehension.variables-let-go" x cenv:Sem Value) (λ_ _=>False) E { s' with heap:=h' }
theorem Bw{M:Model}{A:Around}{E:Value->Shared->Prop}{s:Shared}{env:Env}{e:Expr}{scope:Scope}{pos:Pos}{Dh first:Sem Value}{g:Comprehension}{gs:List Comprehension}{cl:List (Str×Addr)}{Q:Value->Shared->Prop}(zM:clausesOf e=g::gs)(hs:∀x,foldedSetIterable g.iter env x=pure x)(Ly:closureFor scope env=pure cl)(Ak:scope.kind=.function)(Ja:∀x∈scope.names,x.2=.local->scope.names.lookup x.1=some .local)(h:wpAny M A first (λx s1=>wpAny M A (pyIter x) (λit s2=>wpAny M A Dh (λacc s3=>wpAny M A (newFunctionEnv scope env.globals cl [] env.qual none .none (some env)) (λcenv s4 =>
   codeAny M A (.compStart e 0 it acc { cenv with scope:=relabel scope env }) (Dg M A E Q acc { cenv with scope:=relabel scope env }) s4) E s3) E s2) E s1) E s):
  wpAny M A (comprehension e scope env pos Dh false first none) Q E s:=by
 unfold comprehension;rw[Ly,zM];refine wpAny_bind (av h λx s1 h1=>wpAny_bind (wpAny_standAt (wpAny_bind (wpAny_of_eq (hs x) (wpAny_bind (wpAny_holding (av h1 λit s2 h2=>?_)))))));refine wpAny_standIf (wpAny_bind (av h2 λacc s3 h3=>wpAny_bind (wpAny_pure (wpAny_bind (av h3 λcenv s4 h4=>?_)))));dsimp only;refine wpAny_holding (wpAny_bind (wpAny_attempt (wpAny_holding (wpAny_run (codeAny_mono h4 λr s' hr=>?_)))));have own:∀x∈(scope.names.filter λx=>(x.2==.local||x.2==.cell)&&x.1 != (".0":Str)).reverse,x.2=.local->Env.kindOf { cenv with scope:=relabel scope env } x.1=some .local :=
  λx hx hl=>lookup_relabel_local (Ja x (List.mem_filter.mp (List.mem_reverse.mp hx)).1 hl)
 cases r with
 |ok f =>
  obtain⟨m,hn,hr⟩:=hr;exact wpAny_bind (wpAny_holding (wpAny_comp_letGo (cenv:={ cenv with scope:=relabel scope env }) Ak _ s' m own hn λh' _ _ hb=>wpAny_pure (hr h' hb)))
 |error x =>
  obtain⟨m,hn,hr⟩:=hr;exact wpAny_bind (wpAny_holding (wpAny_comp_letGo (cenv:={ cenv with scope:=relabel scope env }) Ak _ s' m own hn λh' _ _ hb=>wpAny_mono (hr h' hb) (λ_ _ z=>z.elim) λ_ _ z=>z))
def Di(X:Cx)(Nc:List Str)(scope:Scope)(C:Addr)(fp:List Addr)(s:Shared)(H:Hp)(E:XK):Cx:=(mq X Nc scope C fp s H).p8 λe s' =>
 ∃(a C':Addr)(a0:Value)(B:Heap)(σ':St)(H' H2:Hp)(s0:Shared),e=.ref a/\Inv (mq X Nc scope C fp s H) [] σ' H' s0/\zG X.prog X.w X.stack H' s0 a C' a0 B H2 s'/\E (.ref C') none H2
theorem L3{X:Cx}{Nc:List Str}{scope:Scope}{C:Addr}{fp:List Addr}{s:Shared}{H:Hp}{E:XK}:gb (qT X.prog X.w) (Di X Nc scope C fp s H E) E:=by intro QZ σ2 H2 s2 e s' I h;obtain⟨a,C',a0,B,H',rfl,T,q⟩:=h;exact⟨a,C',a0,B,σ2,H2,H',s2,rfl,(Inv.eF I).dv (pins:=[]),T,q⟩
section
variable{X:Cx}{tg elt iter:Expr}{ifs:List Expr}{scope:Scope}{pos:Pos}{wi:TI}{g:TG}{tt:TT}{te:TE}{Nc:List Str}{ix:List (Option Nat)}{E:XK}
theorem Jb(Bd:Body X E)(hc:X.calm=true)(S:cN X Nc ix scope)(hi:PI X tg iter wi)(hb:∀(C:Addr)(fp:List Addr)(s:Shared)(H:Hp),PG (Di X Nc scope C fp s H E) tg g/\Kc (Di X Nc scope C fp s H E) ifs tt/\PE (Di X Nc scope C fp s H E) elt te)(hs:∀x,foldedSetIterable iter X.env x=pure x:=by intro _;rfl):PE X (.ListComp elt [⟨tg,iter,ifs,0⟩] scope pos) (ON wi ix g tt te):=by
 intro pins s0 σ H0 Q I0 h0;rw[eval_ListComp];refine Bw rfl hs (l7 (S.cells I0)) S.kind S.loc (av (hi pins s0 σ H0 _ I0 h0) λv s1 h1=>av h1 λK0 s h2=>?_);obtain⟨it,fp,tn,J,H,e,I,T,st,f,q2⟩:=h2;subst e;obtain⟨hg,ht,he⟩:=hb (s.heap.objs.size+1) fp s H;obtain⟨W,⟨m0,w0⟩,turn⟩:=q2 s.heap.objs.size (I.aq.fresh (Nat.le_refl _));refine wpAny_newObj_type (pQ ?_);have I4:=wz (t':=s.toks) S I f (λb hb=>let⟨o,e,_⟩:=T.obj _ _ st b hb;⟨o,e⟩);have hsz:(s.heap.push { cls:=.type "list",dict:=none,data:=.seq ([]:List Value).toArray }).objs.size=s.heap.objs.size+1:=Heap.size_push ..;dsimp only;rw[hsz];have LW:tn 0 (pushCells ((s.heap.push { cls:=.type "list",dict:=none,data:=.seq ([]:List Value).toArray }).push { cls:=.type "dict",data:=.dict #[] }) scope.names) :=
  T.keep _ _ _ st λb _ o e=>pushCells_keeps _ _ b o (Heap.get?_push_of_some _ (Heap.get?_push_of_some _ e))
 have OO:∀b∈fp,upd H s.heap.objs.size (.lst []) b=none:=λb hb=>by obtain⟨o,e,_⟩:=T.obj _ _ st b hb;rw[aI (Nat.ne_of_lt (Heap.lt_size e))];exact(f b hb).1
 have qA:∀{H':Hp},(∀b∈fp,H' b=none)->∀b∈fp,lr (Di X Nc scope (s.heap.objs.size+1) fp s H E) [] H' b:=λ{H'} hn b hb=>by obtain⟨q1,q2⟩:=I4.ok.KR b hb;exact⟨hn b hb,q1,I4.ok.wc b hb,.inl hb,q2,λp hp=>absurd (show p∈([]:List (Addr×Obj))from hp) (by simp)⟩
 have Qa:∀{H':Hp},(∀b∈fp,H' b=none)->∀b∈fp,lr (mq X Nc scope (s.heap.objs.size+1) fp s H) [] H' b:=λhn b hb=>qA hn b hb;obtain⟨L,hL⟩:∃L,X.env.frame=some L:=⟨_,Bd.fr⟩;have Oq:X.A.frames=some (X.env::X.outer):=by rw[<-Bd.yX];exact I.ok.frames
 have raised:∀e s',(Di X Nc scope (s.heap.objs.size+1) fp s H E).xe e s'->notedBy (model X.prog X.w) X.A (mq X Nc scope (s.heap.objs.size+1) fp s H).env (λe s'=>Dg (model X.prog X.w) X.A X.xe (EP X pins σ Q) (.ref s.heap.objs.size) (mq X Nc scope (s.heap.objs.size+1) fp s H).env (.error e) s') e s':=by
  rintro e s' ⟨a,C',a0,B,σ',H',H2,sr,rfl,Jr,Tr,qE⟩;show wpAny _ X.A (noteFrame (.ref a) X.env) _ _ s';have sV:=Tr.sV;rw[Bd.yX]at sV;refine wpAny_looks_onW Oq hL sV λh4 held SJ=>?_;obtain⟨m,hn,_⟩:=Jr.loc;obtain⟨oc,es,ep,IP,L4⟩:=id hn;have FE:(mq X Nc scope (s.heap.objs.size+1) fp s H).env.locals=s.heap.objs.size+1:=rfl;have JZ:s.heap.objs.size+1∉fJ X.stack:=λz=>by obtain⟨_,o,ho,_⟩:=Heap.FunFrames.mem (show s.heap.FunFrames X.base X.stack from Jr.ok.oO) z;exact absurd (Heap.lt_size ho) (Nat.not_lt.mpr (Nat.le_succ _))
  have hd:∀vs,oc.data≠.fields vs:=λvs z=>by
   have:=L4
   simp_all
  have e1:s'.heap.get? (s.heap.objs.size+1)=some oc:=Tr.un.keep _ _ IP Jr.free JZ (by simp);obtain⟨oB,eB⟩:∃oB,B.get? (s.heap.objs.size+1)=some oB:=Tr.yY _ _ IP JZ;have e2:s'.heap.get? (s.heap.objs.size+1)=some oB:=Tr.sV.1 _ _ eB;rw[e1]at e2;cases e2;have e4:h4.get? (s.heap.objs.size+1)=some oc:=held.1 _ _ eB;have SK:H2 (s.heap.objs.size+1)=none:=Tr.un.free _ _ IP Jr.free (by simp);have IX:Inv X pins σ H' sr:=comp_back I f Jr;refine⟨m,Heap.Ns.at' hn λo eo=>?_,λh5 Qb=>?_⟩
  ·rw[show sr.heap.get? (mq X Nc scope (s.heap.objs.size+1) fp s H).env.locals=some oc from IP]at eo;cases eo;exact e4
  have Hg:=Bt held eB e4 hd Qb;obtain⟨_,_,_,oe,vs,TT,oT,ts,SM,_,qP,SN,_⟩:=id Hg;unfold PySem.passOn;refine wpAny_bind (wpAny_field SM qP SN ?_);rw[if_neg (show ¬((Value.ref TT==Value.none)=true)from by simp)];show wpAny _ X.A (do setFlight (.ref a) X.env.frame;throw (.ref a)) _ _ _
  rw[hL];refine wpAny_bind (flight_again Hg λh6 Hh SO=>wpAny_throw ?_);rw[<-Bd.yX]at Hh;show X.xe (.ref a) { s' with heap:=h6 };refine leave_held (s':=s') Bd IX Tr hL (Nat.le_trans I.sz (Nat.le_succ _)) SK Hh (λb hb o eo Hf=>?_) qE
  have SQ:b∈fJ X.stack:=by rw[Bd.yX];obtain⟨ev,h1,h2⟩:=List.mem_filterMap.mp hb;exact List.mem_filterMap.mpr ⟨ev,List.mem_cons_of_mem _ h1,h2⟩
  obtain⟨sl,e5⟩:=SJ b o eo Hf;have Ot:b≠s.heap.objs.size+1:=λz=>JZ (by rw[<-z];exact SQ);exact⟨sl,SO b _ ((Qb.2 b Ot).trans e5) Hf⟩
 have loop:codeAny (model X.prog X.w) X.A (.compLoop (.ListComp elt [⟨tg,iter,ifs,0⟩] scope pos) 0 (.ref it) (.ref s.heap.objs.size) (mq X Nc scope (s.heap.objs.size+1) fp s H).env)
   (Dg (model X.prog X.w) X.A X.xe (EP X pins σ Q) (.ref s.heap.objs.size) (mq X Nc scope (s.heap.objs.size+1) fp s H).env)
   { s with heap:=pushCells ((s.heap.push { cls:=.type "list",dict:=none,data:=.seq ([]:List Value).toArray }).push { cls:=.type "dict",data:=.dict #[] }) scope.names }:=by
  refine Bv raised (λn s'=>∃i σ' H',Inv (mq X Nc scope (s.heap.objs.size+1) fp s H) [] σ' H' s'/\tn i s'.heap/\(∀b∈fp,H' b=none)/\W i n σ' H') ?_ m0 ⟨0,_,_,I4,LW,OO,w0⟩;rintro n s5 ⟨i,σ5,H5,I5,FJ,HR,w5⟩;have Qc:Inv (Di X Nc scope (s.heap.objs.size+1) fp s H E) [] σ5 H5 s5:=Inv.p8 I5 _;rcases turn i n σ5 H5 w5 with⟨stop,qn⟩|⟨go,step⟩
  ·refine av (T.done (Di X Nc scope (s.heap.objs.size+1) fp s H E) rfl rfl rfl hc i [] s5 σ5 H5 _ Qc (qA HR) FJ stop) λr s6 ⟨hr,I6⟩=>?_;subst hr;have Ou:Inv (mq X Nc scope (s.heap.objs.size+1) fp s H) [] σ5 H5 s6:=Inv.eF I6;obtain⟨m,hn,_⟩:=Ou.loc;exact⟨m,hn,λh' nG=>⟨.ref _,H5,(comp_back I f Ou).DI (I.p9 (Nat.le_succ _) Ou.free) nG,rfl,qn⟩⟩
  refine av (T.item (Di X Nc scope (s.heap.objs.size+1) fp s H E) rfl rfl rfl hc i [] s5 σ5 H5 _ Qc (qA HR) FJ go) λr s6 ⟨u,hr,h6⟩=>?_;subst hr;refine av h6 λ_ s7 ⟨x,H7,I7,r7,y7,JG,OP⟩=>?_;have OQ:=Inv.pinned I7 (qA OP) (T.obj _ _ JG);refine av (hg _ s7 σ5 H7 x u _ OQ r7 (step x H7 y7)) λ_ s8 ⟨σ8,H8,I8,q8⟩=>?_;refine av (ht _ s8 σ8 H8 _ I8 q8) λb s9 ⟨H9,I9,q9⟩=>?_;have again:∀{s':Shared}{σ':St}{H':Hp},Inv (Di X Nc scope (s.heap.objs.size+1) fp s H E) ([]++oS fp s7.heap) σ' H' s'->tn (i+1) s'.heap/\∀b∈fp,H' b=none:=λ{s' σ' H'} I'=>by refine⟨T.keep _ _ _ JG λb hb o e=>(I'.pin (b,o) (List.mem_append_right _ (List.mem_append_right _ (dW hb e)))).1,λb hb=>?_⟩;obtain⟨o,e,d⟩:=T.obj _ _ JG b hb;exact(I'.pin (b,o) (List.mem_append_right _ (List.mem_append_right _ (dW hb e)))).2.1
  cases b with
  |false =>
   rw[if_neg Bool.false_ne_true]at q9 ⊢;obtain⟨m',hm,w9⟩:=q9;obtain⟨a1,a2⟩:=again I9;exact⟨m',hm,i+1,σ8,H9,Inv.eF (Inv.dv I9),a1,a2,w9⟩
  |true =>
   rw[if_pos rfl]at q9 ⊢;refine av (he _ s9 σ8 H9 _ I9 q9) λv OR ⟨x',LX,OS,OT,xs,eD,bM,m',hm,OU⟩=>?_;refine av (dY (X:=Di X Nc scope (s.heap.objs.size+1) fp s H E) _ OR σ8 LX (.ref s.heap.objs.size) [x'] (.ref s.heap.objs.size) [v] (λ_ H'=>H'=upd LX s.heap.objs.size (.lst (xs++[x']))) OS rfl (.cons OT .nil)
    ⟨_,xs,x',rfl,rfl,eD,bM,rfl⟩) λ_ Rr ⟨_,Rt,LY,_,OV⟩=>?_
   subst OV;obtain⟨a1,a2⟩:=again LY;exact⟨m',hm,i+1,σ8,_,Inv.eF (Inv.dv LY),a1,a2,OU⟩
 exact codeAny_compStart_list loop (T.self X.A 0 _ _ _ LW loop)
end
abbrev bA(cs:List Nat):Str:=⟨cs.toArray⟩
def Ov(cs:List Nat):It:=⟨λi _=>i<cs.length,λi H v H'=>H'=H/\∃c,cs[i]?=some c/\v=.str ⟨#[c]⟩,λi _=>cs.length<=i⟩
theorem Dj{P:Program}{w:World}{K:PySem.W.Frag}{tg:Expr}(it:Addr)(cs:List Nat)(t:Tok):Turn P w K tg (Ov cs) [it] it (λi h=>h.IsStrIter it "str_ascii_iterator" (bA cs) t i)where
 mem:=by simp
 obj:=λi h st b hb=>by
  have e:b=it:=by simpa using hb
  subst e;obtain⟨o,e,c,d⟩:=st;exact⟨o,e,λv z=>by rw[d]at z;cases z⟩
 keep:=λi h h' st k=>let⟨o,e,r⟩:=st;⟨o,k it (by simp) o e,r⟩
 item:=by
  intro X hP hw hK hc i pins s σ H E I hf st hg;subst hP hw hK;obtain⟨f0,f1,f2,f3,f4,f5⟩:=hf it (by simp);have hi:i<cs.length:=hg;refine wpAny_pyNext_ascii_item st (c:=cs[i]) (by simp[bA,hi]) λh' oR sb=>?_;have I1:Inv X pins σ H { s with heap:=h',toks:=s.toks+1 }:=I.turned (λb o hb e=>(sb.2 b hb).trans e) f0 f1 f3 f4 f5
  obtain⟨o,e,c,d⟩:=id oR;exact⟨_,rfl,tj (s:={ s with heap:=h',toks:=s.toks+1 }) e c d (by decide) ⟨.str ⟨#[cs[i]]⟩,H,I1,⟨_,rfl⟩,⟨rfl,cs[i],by simp[hi],rfl⟩,oR,λb hb=>(hf b hb).1⟩⟩
 done:=by intro X hP hw hK hc i pins s σ H E I hf st hg;subst hP hw hK;obtain⟨f0,f1,f2,f3,f4,f5⟩:=hf it (by simp);have hi:cs.length<=i:=hg;exact wpAny_pyNext_ascii_end (I.ok.hd hc) st (by simp[bA];lia) λh' eb=>⟨rfl,I.turned (t':=s.toks) (λb o hb e=>eb b o hb e) f0 f1 f3 f4 f5⟩
 self:=λ_ _ _ _ _ st h=>wpAny_pyIter_striter_ascii st h
section
variable{X:Cx}
def Ow(tl:TE):TI:=λσ H R=>tl σ H λx H1=>∃cs:List Nat,x=.str (bA cs)/\(∀c∈cs,c<128)/\R (Ov cs) H1
theorem Jc{tg l:Expr}{tl:TE}(hl:PE X l tl):PI X tg l (Ow tl):=by
 intro pins s σ H R I h;refine av (hl pins s σ H _ I h) λv s1 ⟨x,H1,I1,r1,q1⟩=>?_;obtain⟨cs,rfl,ha,q⟩:=q1;obtain⟨t,rfl⟩:=r1;refine wpAny_pyIter_ascii (by simp only[bA,List.all_toArray,List.all_eq_true,decide_eq_true_eq];exact ha) ?_;refine⟨s1.heap.objs.size,[s1.heap.objs.size],_,_,H1,rfl,I1.kept (t':=s1.toks) λb o e=>Heap.get?_push_of_some _ e,Dj _ cs t,⟨_,Heap.get?_push_size _ rfl,rfl,rfl⟩,λb hb=>?_,q⟩;have e:b=s1.heap.objs.size:=by simpa using hb
 subst e;exact I1.p9 (Nat.le_refl _) (I1.aq.fresh (Nat.le_refl _))
end
section
variable{K:PySem.W.Frag}{g:TG}{tt:TT}{te:TE}{D:Addr}{σ:St}{H:Hp}{Q:VK}
theorem Jd{cs:List Nat}(Pv:Nat->St->Hp->Prop)(h0:Pv 0 σ H)(hs:∀(i c:Nat)(σ:St)(H:Hp)(N:St->Hp->Prop),(∀σ H,Pv (i+1) σ H->N σ H)->cs[i]?=some c->Pv i σ H->g (.str ⟨#[c]⟩) σ H λσ3 H3=>tt σ3 H3 λb H4 =>
   if b=true then te σ3 H4 λv H5=>∃ys,H5 D=some (.lst ys)/\ys.length<sizeLine/\N σ3 (upd H5 D (.lst (ys++[v])))else N σ3 H4)(hd:∀σ H,Pv cs.length σ H->Q (.ref D) H):pR (Ov cs) g tt te D σ H Q:=by
 refine⟨λi m σ H=>m=cs.length-i/\i<=cs.length/\Pv i σ H,⟨cs.length,by simp,Nat.zero_le _,h0⟩,?_⟩;rintro i m σ' H' ⟨rfl,hi,p⟩;by_cases bM:i<cs.length
 ·refine .inr ⟨bM,λx H2 y=>?_⟩;obtain⟨e,c,hc,y⟩:=y;subst e y;exact hs i c σ' _ (λσ3 H3=>∃m',m'<cs.length-i/\m'=cs.length-(i+1)/\i+1<=cs.length/\Pv (i+1) σ3 H3) (λσ3 H3 z=>⟨cs.length-(i+1),by lia,rfl,bM,z⟩) hc p
 have e:i=cs.length:=by lia
 subst e;exact .inl ⟨Nat.le_refl _,hd σ' H' p⟩
end
section
variable{X:Cx}
end
theorem j5(a:List Nat):(bA a).length=a.length:=by simp[Str.length,bA]
section
variable{X:Cx}{pins:List (Addr×Obj)}{σ:St}{H:Hp}{s:Shared}
end
section
variable{prog:Program}{w:World}{A:Around}{E:Value->Shared->Prop}{h:Heap}{g:Array GenState}{d:Drawn}{t:Nat}{os:OsState}{K:PySem.W.Frag}{C B f:Addr}
end
section
variable{X:Cx}{CX:y8}{k:Nat}{f C B:Addr}{fd:FuncData}{ps:List Str}{sp:Sp}{E:XK}{x:Str}{p pos:Pos}{e:Expr}{es:List Expr}{t:TA}
end
section
variable{X:Cx}{pins:List (Addr×Obj)}{σ:St}{H:Hp}{s:Shared}{C B f a:Addr}
end
section
variable{prog:Program}{w:World}{A:Around}{E:Value->Shared->Prop}{h:Heap}{g:Array GenState}{d:Drawn}{t:Nat}{os:OsState}{K:PySem.W.Frag}{a C B f dx:Addr}{name:Str}{v:Value}{mA:Str->Option Value}
end
section
variable{X:Cx}
end
section
variable{P:Program}{w:World}{K:PySem.W.Frag}{mg:Str->Option Value}{base:Heap}
theorem sU.F7{x qual:Str}{st:Stmt}{f:Addr}{fd:FuncData}{N ps:List Str}{k:Nat}{sp:Sp}(F:sU K x qual st f fd)(S:aQ N ps (aG st))(len:∀vs H Q E,sp vs H Q E->vs.length=ps.length)(qk:∀(f:Addr)(bU:Value)(A:Around)(outer:List Env)(s:Shared)(H:Hp)(vs:List V)(Q:VK)(E:XK),cw k (A.deeper (envOfC qual (aG st) s.heap.objs.size f bU))->sp vs H Q E ->
   ∃t,Cj (M8 P w K mg base N qual st f bU A outer s H E) (bX st) t/\t { nx:=λ_ H'=>Q .ba H',rt:=Q } (start N vs) H):dQ P w K mg base (qT P w) (k+1) f fd ps sp:=by
 obtain⟨oc,od,kV,doc,pm,an,bU,ct,BZ,rfl,lk,wR⟩:=F.ex;exact C9 lk wR S len λA outer s H vs Q E hr Aj=>qk f bU A outer s H vs Q E hr Aj
end
section
variable{prog:Program}{w:World}{A:Around}{E:Value->Shared->Prop}
theorem Hi{it l:Addr}{xs:Array Value}(ne:l≠it):∀(n i:Nat)(s:Shared)(Q:List Value->Shared->Prop),s.heap.IsListIter it l i->s.heap.IsList l xs->i+n<=xs.size ->
  (∀g,g.IsListIter it l (i+n)->Heap.SameBut it s.heap g->Q ((xs.toList.drop i).take n) { s with heap:=g })->wpAny (model prog w) A (draw (.ref it) n) Q E s
 |0,i,s,Q,a,_,_,q=>wpAny_pure (by have:=q s.heap a (Heap.SameBut.refl ..);rw[List.take_zero]at this;exact this)
 |n+1,i,s,Q,a,b,le,q=>by
  have lt:i<xs.size:=Nat.lt_of_lt_of_le (Nat.lt_add_of_pos_right (Nat.succ_pos n)) le;have e1:xs.toList.drop i=xs[i]::xs.toList.drop (i+1):=by simp[List.drop_eq_getElem_cons,lt]
  show wpAny _ _ (pyNext (.ref it) >>= _) Q E s;refine wpAny_bind (wpAny_pyNext_list_item a b (x:=xs[i]) (by simp[lt]) λg a1 c1=>?_);refine wpAny_bind (wpAny_holding (Hi ne n (i+1) _ _ a1 (b.extBut c1.extBut ne) (by lia) λg2 a2 c2=>wpAny_pure ?_));have z:=q g2 (by rw[Nat.add_comm n 1,<-Nat.add_assoc];exact a2) (c1.trans c2);rw[e1,List.take_succ_cons]at z;exact z
theorem F8{s:Shared}{l:Addr}{xs:Array Value}{ts:List (Bool×(Value->Sem Unit))}{Q:Unit->Shared->Prop}(hh:A.handled=none)(b:s.heap.IsList l xs)(hn:ts.length=xs.size)(hs:ts.findIdx? (·.1)=none)(q:∀g,Heap.ExtBut s.heap.objs.size s.heap g->wpAny (model prog w) A (assignInOrder (ts.map (·.2)) xs.toList) Q E { s with heap:=g }):wpAny (model prog w) A (unpack (.ref l) ts) Q E s:=by
 have ne:l≠s.heap.objs.size:=by obtain⟨o,ho,_⟩:=b;exact Nat.ne_of_lt (Heap.lt_size ho)
 unfold unpack;rw[hn,hs];refine wpAny_bind (wpAny_holding ?_);unfold unpackItems;refine wpAny_bind ?_;unfold notIterableAtAll;refine wpAny_bind (wpAny_specialOf b.typeIs slot_list_iter.lookup (wpAny_pure ?_));simp only[Bool.false_eq_true,if_false];refine wpAny_bind (wpAny_holding (wpAny_pyIter_list b ?_));refine wpAny_bind (wpAny_holding (Hi ne xs.size 0 _ _ ⟨_,Heap.get?_push_size _ rfl,rfl,rfl⟩ (b.push _) (by lia) λg a1 c1=>?_));have al:(xs.toList.drop 0).take xs.size=xs.toList:=by rw[List.drop_zero];exact List.take_of_length_le (by simp)
 rw[al,if_neg (by simp)];have b1:g.IsList l xs:=(b.push _).extBut c1.extBut ne;refine wpAny_bind (wpAny_holding (wpAny_pyNext_list_end hh a1 b1 (by simp) λg2 c2=>?_));simp only[Option.isSome_none,Bool.false_eq_true,if_false];exact wpAny_pure (q g2 λy o hy e=>c2 y o hy (c1.extBut y o hy (Heap.get?_push_of_some _ e)))
end
def L5(K:PySem.W.Frag)(n:Nat)(t:FH):TG:=λv σ H Q=>∃a xs,v=.ref a/\ag K H a xs/\xs.length=n/\t xs σ H Q
theorem F9{X:Cx}(K:PySem.W.Frag){pos:Pos}{es:List Expr}{k:Nat}{t:FH}{n:Nat}(hc:X.calm=true)(h:Kz X es t)(hK:X.K=K:=by rfl)(hn:(assignEach es X.env).length=n:=by rfl)(Ac:(assignEach es X.env).findIdx? (·.1)=none:=by rfl):PG X (.Tuple es k pos) (L5 K n t):=by
 subst hK;intro pins s σ H v u Q I r hw;obtain⟨a,xs,e1,hq,hl,hw⟩:=hw;subst e1;cases r;obtain⟨aM,rv,ht,_⟩:=I.list hq;have Az:s.heap.IsList a aM.toArray:=by obtain⟨o,n,e,c,_,d⟩:=ht;exact⟨o,e,c,n,d⟩
 rw[assign_Tuple];refine wpAny_bind (wpAny_standAt (F8 (I.ok.hd hc) Az (by simp[hn,<-hl,rv.length]) Ac λg hx=>?_));have I1:Inv X pins σ H { s with heap:=g }:=I.kept (t':=s.toks) λb o e=>hx b o (Nat.ne_of_lt (Heap.lt_size e)) e
 exact h pins _ σ H xs _ Q I1 (by simpa using rv) hw
def cV(ks:List Key)(k:Key):Bool:=ks.any λx=>decide (x=k)
theorem iL{ks:List Key}{k:Key}:cV ks k=true↔k∈ks:=by unfold cV;rw[List.any_eq_true];exact⟨λ⟨x,h,e⟩=>by rw[<-of_decide_eq_true e];exact h,λh=>⟨k,h,decide_eq_true rfl⟩⟩
theorem uQ{ks:List Key}{k x:Key}:cV (x::ks) k=(cV ks k||decide (k=x)):=by show(decide (x=k)||cV ks k)=_;rw[Bool.or_comm];exact congrArg _ (decide_eq_decide.mpr eq_comm)
def dd:List Key->List Key
 |[]=>[]
 |k::ks=>if cV ks k=true then dd ks else k::dd ks
theorem mB{k:Key}:∀{ks:List Key},k∈dd ks↔k∈ks
 |[]=>by simp[dd]
 |x::ks=>by
  unfold dd;split
  ·rename_i h;have h:=iL.mp h;rw[mB (ks:=ks),List.mem_cons];exact⟨.inr,λz=>z.elim (λe=>by rw[e];exact h) id⟩
  rw[List.mem_cons,List.mem_cons,mB (ks:=ks)]
theorem rB:∀(ks:List Key),(dd ks).length<=ks.length
 |[]=>Nat.le_refl _
 |x::ks=>by
  have:=rB ks;unfold dd;split
  ·rw[List.length_cons];lia
  rw[List.length_cons,List.length_cons];lia
theorem iM:∀(ks:List Key),(dd ks).length=ks.length↔ks.Nodup
 |[]=>by simp[dd]
 |x::ks=>by
  have h:=rB ks;have ih:=iM ks;rw[List.nodup_cons];unfold dd;split
  ·rename_i hx;have hx:=iL.mp hx;rw[List.length_cons];exact⟨λz=>by lia,λz=>absurd hx z.1⟩
  rename_i hx;have hx:¬x∈ks:=λz=>hx (iL.mpr z);rw[List.length_cons,List.length_cons];exact⟨λz=>⟨hx,ih.mp (by lia)⟩,λz=>by have:=ih.mpr z.2;lia⟩
def Bx(P:Program)(w:World)(a:Addr)(ks:List Key):HO:=.ext λh=>h.SetOf (aL P w) a (cV ks) (dd ks).length
theorem xQ{prog:Program}{w:World}:∀{k:Key}{v:Value},RelV (kV k) v->(aL prog w).is k v=true/\v.scannable=true
 |.inl i,_,⟨t,e⟩=>by subst e;exact⟨pH prog w i t,rfl⟩
 |.inr x,_,⟨t,e⟩=>by subst e;exact⟨pI prog w x t,rfl⟩
theorem Dk{prog:Program}{w:World}{h:Heap}{a:Addr}{k:Key}{ks:List Key}(q:h.SetOf (aL prog w) a (λk'=>cV ks k'||decide (k'=k)) (if cV ks k then(dd ks).length else(dd ks).length+1)):h.SetOf (aL prog w) a (cV (k::ks)) (dd (k::ks)).length:=by
 have e1:(λk'=>cV ks k'||decide (k'=k))=cV (k::ks):=funext λk'=>uQ.symm;have e2:(if cV ks k then(dd ks).length else(dd ks).length+1)=(dd (k::ks)).length:=by show _=(if cV ks k=true then dd ks else k::dd ks).length;split<;>rfl
 rw[e1,e2]at q;exact q
section
variable{prog:Program}{w:World}{A:Around}{R:Result->Shared->Prop}{I:Addr}{fp wr:List Addr}{G:Array GenState->Array GenState->Prop}{St:Nat->Shared->Prop}
theorem Dl(us:List Value)(ks:List Key)(hu:aW (ks.map kV) us)(W:WalksS prog w A.in1 I fp wr G us.length (λi v=>us[i]?=some v) St)(S:Addr)(nS:S∉fp)(hb:us.length+1<scanBound):
  ∀(m i:Nat)(s:Shared),us.length-i=m->i<=us.length->St i s->s.heap.SetOf (aL prog w) S (cV (ks.take i).reverse) (dd (ks.take i).reverse).length ->
   (∀s',Moved (S::wr) G s s'->s'.heap.SetOf (aL prog w) S (cV ks.reverse) (dd ks.reverse).length->R (.ok (.ret .none)) s') ->
   codeAny (model prog w) A (.builtin "set.update.loop" ⟨[.ref S,.ref I],[]⟩) R s:=by
 have hlen:ks.length=us.length:=by rw[<-hu.length,List.length_map]
 have nw:S∉wr:=λz=>nS (W.sub _ z);have sb:∀b∈wr,b∈S::wr:=λb z=>List.mem_cons_of_mem _ z;have stays:∀{s s':Shared}{f:Key->Bool}{n:Nat},Moved wr G s s'->s.heap.SetOf (aL prog w) S f n->s'.heap.SetOf (aL prog w) S f n :=
  λhm ⟨o,es,ep,t,ho,r⟩=>⟨o,es,ep,t,hm.heap S _ nw ho,r⟩
 intro m
 induction m with
 |zero =>
  intro i s hm hi st hS hR;obtain rfl:i=us.length:=by lia
  refine codeAny_builtin F.entry_set_update_loop ?_;rw[Around.under_plainId F.plain_set_update_loop _];refine wpAny_bind (m:=pyNext (.ref I)) (W.done s _ _ st λs' mv=>?_);refine wpAny_pure (hR s' (mv.mono sb) ?_);have e:ks.take us.length=ks:=List.take_of_length_le (by lia);rw[e]at hS;exact stays mv hS
 |succ m ih =>
  intro i s hm hi st hS hR;have bM:i<us.length:=by lia
  refine codeAny_builtin F.entry_set_update_loop ?_;rw[Around.under_plainId F.plain_set_update_loop _];refine wpAny_bind (m:=pyNext (.ref I)) (W.item i s _ _ bM st λv s' hv oR mv=>?_);obtain⟨k,hk,rk⟩:∃k,ks[i]?=some k/\RelV (kV k) v:=by have sP:i<ks.length:=(by lia);obtain⟨u,e1,e2⟩:=hu.get (i:=i) (x:=kV ks[i]) (by rw[List.getElem?_map,List.getElem?_eq_getElem sP];rfl);have jv:us[i]?=some v:=hv;rw[e1]at jv;cases jv;exact⟨_,List.getElem?_eq_getElem sP,e2⟩
  obtain⟨k1,k2⟩:=xQ (prog:=prog) (w:=w) rk;refine wpAny_bind (m:=holding [v] (setAdd S v)) (wpAny_holding ?_);unfold setAdd;refine wpAny_holding (wpAny_bind ((aL prog w).pyHash k1 ?_));have Je:=stays mv hS;have xR:(dd (ks.take i).reverse).length+1<scanBound:=by have:=rB (ks.take i).reverse;rw[List.length_reverse,List.length_take]at this;lia
  refine wpAny_setAddHashed_of (knd:=aL prog w) (s:={ s' with toks:=s'.toks+1 }) k1 k2 Je xR λh' eq Ox=>?_
  have e:(ks.take (i+1)).reverse=k::(ks.take i).reverse:=by rw[List.take_succ,hk,List.reverse_append];rfl
  have L6:=Dk Ox;rw[<-e]at L6;refine wpAny_pure ⟨plainId_quiet F.plain_set_update_loop _,ih (i+1) _ (by lia) bM (W.frame _ s' _ _ oR (Nat.le_succ _) λb z o eo=>?_) L6 λs2 Oy Oz=>hR s2 (Moved.trans W.gtrans ((mv.mono sb).then_heap (Nat.le_succ _) λb o z eo=>?_) Oy) Oz⟩
  ·rw[eq.2 b (λy:b=S=>nS (by rw[<-y];exact z))];exact eo
  rw[eq.2 b (λy:b=S=>z (by rw[y];exact List.mem_cons_self))];exact eo
end
section
variable{prog:Program}{w:World}{A:Around}{E:Value->Shared->Prop}{s:Shared}
set_option maxHeartbeats 2000000 in
theorem zN{u:Value}{Q:Value->Shared->Prop}(hn:∀led:Bool,wpAny (model prog w) A.in1.in1 (Builtin.«set.__init__» ⟨[.ref s.heap.objs.size,u],[]⟩)
    (λfin s'=>match fin with|.done f=>wants (λr s2=>r=.none/\Q (.ref s.heap.objs.size) s2) E (.ok f) s'|.again c'=>c'.quiet=true/\codeAny (model prog w) A.in1 c' (wants (λr s2=>r=.none/\Q (.ref s.heap.objs.size) s2) E) s')
    (λe s'=>wants (λr s2=>r=.none/\Q (.ref s.heap.objs.size) s2) E (.error e) s') { s with heap:=s.heap.push { cls:=.type "set",dict:=none,data:=.set #[] 0 (.fresh 0 0 led) } }):
  wpAny (model prog w) A (call (.type "set") [u]) Q E s:=by
 have ft:=F.called_set;obtain⟨c0,SR,O0⟩:=ft.mro;have g1:=ft.made;have g2:=ft.sub;have g3:=ft.notType;have g4:=ft.canCreate;have g5:=F.typeCall_set_1 u;refine wpAny_call (codeAny_of_tree (wpAny_pure (a:=_) ⟨Code.quiet_builtin _ (by decide +kernel),codeAny_builtin F.entry_type_call ?_⟩));rw[Around.under_plain (weight_type_call_type "set" [u] []) rfl]
 repeat (any_goals (first|assumption|(wp_step)))
 refine codeAny_mono (code_set_new_1 u (E:=E) (Q₁:=λobj z=>∃led:Bool,obj=.ref s.heap.objs.size/\z={ s with heap:=s.heap.push { cls:=.type "set",dict:=none,data:=.set #[] 0 (.fresh 0 0 led) } }) λled=>⟨led,rfl,rfl⟩) λr s₁ hr=>?_
 cases r with
 |error e=>exact hr
 |ok fl =>
  cases fl with
  |ret obj =>
   obtain⟨led,rfl,rfl⟩:=hr;have hT:Shared.TypeIs { s with heap:=s.heap.push { cls:=.type "set",dict:=none,data:=.set #[] 0 (.fresh 0 0 led) } } (.ref s.heap.objs.size) "set":=⟨_,Heap.get?_push_size _ rfl,rfl⟩;have g6:=ft.init.lookup;have g7:=ft.init.bind (.ref s.heap.objs.size)
   repeat (any_goals (first|assumption|(wp_step)))
   refine codeAny_mono (codeAny_call_builtin ft.init.plain F.entry_set_init (check_set_init_1 hT (hn led))) λr2 s2 rC=>?_;cases r2 with
   |error e=>exact rC
   |ok f2 =>
    cases f2 with
    |ret r =>
     obtain⟨rfl,hq⟩:=rC
     repeat (any_goals (first|assumption|(wp_step)))
    |_=>exact rC.elim
  |_=>exact hr.elim
end
section
variable{prog:Program}{w:World}{A:Around}{E:Value->Shared->Prop}{s:Shared}
set_option maxHeartbeats 4000000 in
theorem rD{T:String}{l:Addr}{us:List Value}{ks:List Key}{Q:Value->Shared->Prop}(hh:A.handled=none)(hT:(T="list"/\s.heap.IsList l us.toArray)\/(T="tuple"/\s.heap.IsTuple l us.toArray))(hu:aW (ks.map kV) us)(hb:us.length+1<scanBound)(h:∀(h':Heap)(tk:Nat),h'.SetOf (aL prog w) s.heap.objs.size (cV ks.reverse) (dd ks.reverse).length->(∀b o,s.heap.get? b=some o->h'.get? b=some o)->Q (.ref s.heap.objs.size) { s with heap:=h',toks:=tk }):
  wpAny (model prog w) A (call (.type "set") [.ref l]) Q E s:=by
 refine zN λled=>?_;have hS:(s.heap.push { cls:=.type "set",dict:=none,data:=.set #[] 0 (.fresh 0 0 led) }).get? s.heap.objs.size=some { cls:=.type "set",dict:=none,data:=.set #[] 0 (.fresh 0 0 led) }:=Heap.get?_push_size _ rfl;have z4:A.in1.in1.in1.handled=none:=by simp[hh]
 have bM:l<s.heap.objs.size:=by rcases hT with⟨_,o,ho,_⟩|⟨_,o,ho,_⟩<;>exact Heap.lt_size ho
 have nl:l≠(s.heap.push { cls:=.type "set",dict:=none,data:=.set #[] 0 (.fresh 0 0 led) }).objs.size:=by rw[Heap.size_push];exact Nat.ne_of_lt (Nat.lt_succ_of_lt bM)
 have nS:s.heap.objs.size∉[(s.heap.push { cls:=.type "set",dict:=none,data:=.set #[] 0 (.fresh 0 0 led) }).objs.size,l]:=by
  rw[Heap.size_push];intro z;rcases List.mem_cons.mp z with z|z
  ·exact absurd z (Nat.ne_of_lt (Nat.lt_succ_self _))
  exact absurd (List.mem_singleton.mp z) (Nat.ne_of_gt bM)
 have fin:∀(I:Obj)(G:Array GenState->Array GenState->Prop)(hG:∀a b,G a b->b=a)(St:Nat->Shared->Prop),
   WalksS prog w A.in1.in1.in1 (s.heap.push { cls:=.type "set",dict:=none,data:=.set #[] 0 (.fresh 0 0 led) }).objs.size [(s.heap.push { cls:=.type "set",dict:=none,data:=.set #[] 0 (.fresh 0 0 led) }).objs.size,l] [(s.heap.push { cls:=.type "set",dict:=none,data:=.set #[] 0 (.fresh 0 0 led) }).objs.size] G us.length (λi v=>us[i]?=some v) St ->
   St 0 { s with heap:=(s.heap.push { cls:=.type "set",dict:=none,data:=.set #[] 0 (.fresh 0 0 led) }).push I } ->
   codeAny (model prog w) A.in1.in1 (.builtin "set.update.loop" ⟨[.ref s.heap.objs.size,.ref (s.heap.push { cls:=.type "set",dict:=none,data:=.set #[] 0 (.fresh 0 0 led) }).objs.size],[]⟩)
    (λr s'=>∃v,r=.ok (.ret v)/\Q (.ref s.heap.objs.size) s') { s with heap:=(s.heap.push { cls:=.type "set",dict:=none,data:=.set #[] 0 (.fresh 0 0 led) }).push I }:=by
  intro I G hG St W O1;refine Dl us ks hu W s.heap.objs.size nS hb us.length 0 _ rfl (Nat.zero_le _) O1 ?_ λs' hm O2=>⟨_,rfl,?_⟩
  ·have Jf:((s.heap.push { cls:=.type "set",dict:=none,data:=.set #[] 0 (.fresh 0 0 led) }).push I).get? s.heap.objs.size=some { cls:=.type "set",dict:=none,data:=.set #[] 0 (.fresh 0 0 led) }:=Heap.get?_push_of_some _ hS;exact⟨_,#[],0,_,Jf,⟨rfl,rfl,rfl⟩,rfl,λe he=>by simp at he,λk=>by simp[cV],by decide,rfl,rfl⟩
  obtain⟨h',g',d',He,LC⟩:=s';have eg:g'=s.gens:=hG _ _ hm.gens;have ed:d'=s.drawn:=hm.drawn;have eo:LC=s.os:=hm.os;subst eg ed eo;refine h h' He O2 λb o e=>?_;have E6:=Heap.lt_size e;refine hm.heap b o (λz=>?_) (Heap.get?_push_of_some _ (Heap.get?_push_of_some _ e));rcases List.mem_cons.mp z with z|z
  ·rw[z]at E6;exact Nat.lt_irrefl _ E6
  have z:=List.mem_singleton.mp z;rw[Heap.size_push]at z;rw[z]at E6;exact absurd E6 (Nat.not_lt.mpr (Nat.le_succ _))
 unfold Builtin.«set.__init__» noKeywords Builtin.Frozenset.updateFrom;have eP:(λ(i:Nat)(v:Value)=>us.toArray[i]?=some v)=λi v=>us[i]?=some v:=by funext i v;simp
 generalize L7:pyIter=PI;rcases hT with⟨rfl,hl⟩|⟨rfl,hl⟩
 ·obtain⟨ol,E7,zM,Cn,Dm⟩:=hl;obtain⟨Jg,rE,Dn,mC⟩:=ol;simp only at zM Dm;subst zM Dm;have zO:(s.heap.push { cls:=.type "set",dict:=none,data:=.set #[] 0 (.fresh 0 0 led) }).get? l=some { cls:=.type "list",dict:=rE,data:=.seq us.toArray Cn,slots:=mC }:=Heap.get?_push_of_some _ E7;have y1:=F.sub_list_set;have y2:=F.sub_list_frozenset;have y3:(Value.type "list"==Value.type "dict")=false:=by decide
  wp_walk
  subst L7;have yc:(s.heap.push { cls:=.type "set",dict:=none,data:=.set #[] 0 (.fresh 0 0 led) }).IsList l us.toArray:=⟨_,zO,rfl,Cn,rfl⟩;refine wpAny_pyIter_list yc (wpAny_bind (wpAny_runValue ?_));have W:=(Walks.list z4 _ l nl us.toArray).toS (prog:=prog) (w:=w);rw[eP,List.size_toArray]at W;refine codeAny_mono (fin _ _ (λa b e=>e) _ W ⟨⟨_,Heap.get?_push_size _ rfl,rfl,rfl⟩,yc.push _⟩) λr s' hr=>?_;obtain⟨v,rfl,q⟩:=hr;exact wpAny_pure (a:=_) (wpAny_pure (a:=_) ⟨rfl,q⟩)
 obtain⟨ol,E7,zM,Cn,Dm⟩:=hl;obtain⟨Jg,rE,Dn,mC⟩:=ol;simp only at zM Dm;subst zM Dm;have zO:(s.heap.push { cls:=.type "set",dict:=none,data:=.set #[] 0 (.fresh 0 0 led) }).get? l=some { cls:=.type "tuple",dict:=rE,data:=.seq us.toArray Cn,slots:=mC }:=Heap.get?_push_of_some _ E7;have y1:isSubtype (.type "tuple") (.type "set")=pure false:=by rw[isSubtype_type];kernel_rfl
 have y2:isSubtype (.type "tuple") (.type "frozenset")=pure false:=by rw[isSubtype_type];kernel_rfl
 have y3:(Value.type "tuple"==Value.type "dict")=false:=by decide
 wp_walk
 subst L7;have yc:(s.heap.push { cls:=.type "set",dict:=none,data:=.set #[] 0 (.fresh 0 0 led) }).IsTuple l us.toArray:=⟨_,zO,rfl,Cn,rfl⟩;refine wpAny_pyIter_tuple yc (wpAny_bind (wpAny_runValue ?_));have W:=(Walks.tuple z4 _ l nl us.toArray).toS (prog:=prog) (w:=w);rw[eP,List.size_toArray]at W;refine codeAny_mono (fin _ _ (λa b e=>e) _ W ⟨⟨_,Heap.get?_push_size _ rfl,rfl,rfl⟩,yc.push _⟩) λr s' hr=>?_;obtain⟨v,rfl,q⟩:=hr;exact wpAny_pure (a:=_) (wpAny_pure (a:=_) ⟨rfl,q⟩)
end
section
variable{X:Cx}
def O3(P:Program)(w:World)(K:PySem.W.Frag):List V->Hp->VK->Prop:=λxs H Q=>∃(p:Addr)(ks:List Key),xs=[.ref p]/\(ag K H p (ks.map kV)\/ao K H p (ks.map kV))/\ks.length+1<scanBound/\∀q,H q=none->Q (.ref q) (upd H q (Bx P w q ks.reverse))
theorem oj(K:PySem.W.Frag)(hK:X.K=K:=by rfl)(hc:X.calm=true:=by rfl):bY X (.type "set") (O3 X.prog X.w K):=by
 subst hK;intro pins s σ H xs us Q I r h;obtain⟨p,ks,rfl,hs,hb,q⟩:=h;obtain⟨u,rfl,rx⟩:=vals1 r;cases rx;have hn:H s.heap.objs.size=none:=I.aq.fresh (Nat.le_refl _);have fin:∀(h':Heap)(tk:Nat),h'.SetOf (aL X.prog X.w) s.heap.objs.size (cV ks.reverse) (dd ks.reverse).length->(∀b o,s.heap.get? b=some o->h'.get? b=some o)->EP X pins σ Q (.ref s.heap.objs.size) { s with heap:=h',toks:=tk }:=by intro h' tk hS kp;have e0:=hS;obtain⟨o,_,_,_,ho,_⟩:=e0;refine⟨.ref s.heap.objs.size,_,I.laid (o:=Bx X.prog X.w s.heap.objs.size ks.reverse) kp (Nat.le_refl _) ⟨hS,⟨o,ho⟩,λh1 h2 ⟨o,es,ep,t,ho,rr⟩ hk=>⟨o,es,ep,t,hk _ ho,rr⟩⟩,rfl,q _ hn⟩
 rcases hs with hs|hs
 ·obtain⟨aM,rv,pl,hz⟩:=I.list hs;have hl:=rv.length;rw[List.length_map]at hl;exact rD (I.ok.hd hc) (.inl ⟨rfl,pl.isList⟩) rv (by lia) fin
 obtain⟨aM,rv,pl,hz⟩:=I.tuple hs;have hl:=rv.length;rw[List.length_map]at hl;exact rD (I.ok.hd hc) (.inr ⟨rfl,pl⟩) rv (by lia) fin
def GA(P:Program)(w:World):List V->Hp->VK->Prop:=λxs H Q=>∃(p:Addr)(ks:List Key),xs=[.ref p]/\H p=some (Bx P w p ks)/\Q (.int (dd ks).length) H
theorem mD:bY X (.builtin "len") (GA X.prog X.w):=by
 intro pins s σ H xs us Q I r h;obtain⟨p,ks,rfl,hp,q⟩:=h;obtain⟨u,rfl,rx⟩:=vals1 r;cases rx;obtain⟨⟨o,es,ep,t,ho,hex,hd,Dp,qF,hb,hf,hn⟩,_⟩:=I.aq p _ hp;refine PySem.call_len_set ho hex hd hf ?_ ⟨.int _,H,I.tok _,⟨_,by rw[hn]⟩,q⟩;have:scanBound<2 ^ 63:=by decide
 lia
end
def yd(b:Bool)(K:PySem.W.Frag)(H:Hp)(a:Addr)(xs:List V):Prop:=if b=true then ag K H a xs else ao K H a xs
theorem yd.or{b:Bool}{K:PySem.W.Frag}{H:Hp}{a:Addr}{xs:List V}(h:yd b K H a xs):ag K H a xs\/ao K H a xs:=by
 cases b
 ·exact .inr h
 exact .inl h
def Jh(b:Bool)(K:PySem.W.Frag)(a:Addr)(xs:List V):It:=⟨λi H=>yd b K H a xs/\i<xs.length,λi H x H'=>H'=H/\xs[i]?=some x,λi H=>yd b K H a xs/\xs.length<=i⟩
theorem Turn.weak{P:Program}{w:World}{K:PySem.W.Frag}{tg:Expr}{J J':It}{fp:List Addr}{it:Addr}{tn:Nat->Heap->Prop}(T:Turn P w K tg J fp it tn)(hg:∀i H,J'.go i H->J.go i H)(hy:∀i H x H',J'.go i H->J.Ae i H x H'->J'.Ae i H x H')(hs:∀i H,J'.stop i H->J.stop i H):Turn P w K tg J' fp it tn where
 mem:=T.mem
 obj:=T.obj
 keep:=T.keep
 item:=λX hP hw hK hc i pins s σ H E I hf st g=>av (T.item X hP hw hK hc i pins s σ H E I hf st (hg i H g)) λr s1 ⟨u,e,q⟩=>⟨u,e,av q λ_ s2 ⟨x,H',I2,r2,y,rest⟩=>⟨x,H',I2,r2,hy i H x H' g y,rest⟩⟩
 done:=λX hP hw hK hc i pins s σ H E I hf st g=>T.done X hP hw hK hc i pins s σ H E I hf st (hs i H g)
 self:=T.self
section
variable{X:Cx}{tg:Expr}
def O4(K:PySem.W.Frag)(tl:TE):TI:=λσ H R=>tl σ H λx H1=>∃(b:Bool)(a:Addr)(xs:List V),x=.ref a/\yd b K H1 a xs/\R (Jh b K a xs) H1
theorem A0(K:PySem.W.Frag){l:Expr}{tl:TE}(hl:PE X l tl)(hK:X.K=K:=by rfl):PI X tg l (O4 K tl):=by
 subst hK;intro pins s σ H R I h;refine av (hl pins s σ H _ I h) λv s1 ⟨x,H1,I1,r1,q1⟩=>?_;obtain⟨b,a,xs,e,hq,q⟩:=q1;subst e;cases r1;cases b with
 |true =>
  obtain⟨aM,rv,p,hz⟩:=I1.list (show ag X.K H1 a xs from hq);refine wpAny_pyIter_list p.isList ⟨s1.heap.objs.size,[s1.heap.objs.size],_,_,H1,rfl,I1.kept (t':=s1.toks) λb o e=>Heap.get?_push_of_some _ e,
   (tq a _).weak (J':=Jh true X.K a xs) (λi H g=>⟨xs,xs[i]'g.2,g.1,by simp[g.2]⟩) (λi H x H' g y=>⟨y.1,y.2 xs g.1⟩) (λi H g=>⟨xs,g.1,g.2⟩),⟨_,Heap.get?_push_size _ rfl,rfl,rfl⟩,λb hb=>?_,q⟩
  cases List.mem_singleton.mp hb;exact I1.p9 (Nat.le_refl _) (I1.aq.fresh (Nat.le_refl _))
 |false =>
  obtain⟨aM,rv,p,hz⟩:=I1.tuple (show ao X.K H1 a xs from hq);refine wpAny_pyIter_tuple (show s1.heap.IsTuple a aM.toArray from p) ⟨s1.heap.objs.size,[s1.heap.objs.size],_,_,H1,rfl,I1.kept (t':=s1.toks) λb o e=>Heap.get?_push_of_some _ e,
   (qg a _).weak (J':=Jh false X.K a xs) (λi H g=>⟨xs,xs[i]'g.2,g.1,by simp[g.2]⟩) (λi H x H' g y=>⟨y.1,y.2 xs g.1⟩) (λi H g=>⟨xs,g.1,g.2⟩),⟨_,Heap.get?_push_size _ rfl,rfl,rfl⟩,λb hb=>?_,q⟩
  cases List.mem_singleton.mp hb;exact I1.p9 (Nat.le_refl _) (I1.aq.fresh (Nat.le_refl _))
end
theorem GB{b:Bool}{K:PySem.W.Frag}{a:Addr}{xs:List V}{g:TG}{tb:TS}{D:Ends}{σ:St}{H:Hp}(Pv:Nat->St->Hp->Prop)(h0:Pv 0 σ H)(hl:∀i σ H,i<=xs.length->Pv i σ H->yd b K H a xs)(hs:∀i x σ H,xs[i]?=some x->Pv i σ H->g x σ H λσ2 H2=>tb { D with nx:=Pv (i+1),ct:=Pv (i+1),bk:=D.nx } σ2 H2)(hd:∀σ H,Pv xs.length σ H->D.nx σ H):
  ∃W:Nat->Nat->St->Hp->Prop,(∃m,W 0 m σ H)/\∀i m σ H,W i m σ H ->
   ((Jh b K a xs).stop i H/\D.nx σ H)\/((Jh b K a xs).go i H/\∃N:St->Hp->Prop,(∀σ' H',N σ' H'->∃m',m'<m/\W (i+1) m' σ' H')/\∀x H',(Jh b K a xs).Ae i H x H'->g x σ H' λσ2 H2=>tb { D with nx:=N,ct:=N,bk:=D.nx } σ2 H2):=by
 refine⟨λi m σ H=>m=xs.length-i/\i<=xs.length/\Pv i σ H,⟨_,rfl,Nat.zero_le _,h0⟩,?_⟩;rintro i m σ H ⟨rfl,hi,p⟩;have q:=hl i σ H hi p;by_cases lt:i<xs.length
 ·refine .inr ⟨⟨q,lt⟩,Pv (i+1),λσ' H' p'=>⟨xs.length-(i+1),by lia,rfl,lt,p'⟩,?_⟩;rintro x H' ⟨rfl,y⟩;exact hs i x σ _ y p
 obtain rfl:i=xs.length:=by lia
 exact .inl ⟨⟨q,Nat.le_refl _⟩,hd σ H p⟩
section
variable{X:Cx}{tg:Expr}
theorem cn(K:PySem.W.Frag)(hK:X.K=K:=by rfl):ij X (compareOp .In) (KZ K false):=by subst hK;exact uE
theorem gg(K:PySem.W.Frag)(hK:X.K=K:=by rfl):ij X (compareOp .NotIn) (KZ K true):=by subst hK;exact ux
theorem qZ:ij X (binaryOp .Mult) (rI IntMulOk λi j=>.int (i*j)):=KW λ_ _ _ _ _ _ _ hc q=>mul_int q hc
end
inductive ae(K:PySem.W.Frag)(H:Hp):Nat->V->PyData->Prop where
 |ba {n:Nat}:ae K H n .ba .none
 |bl {n:Nat} (b:Bool):ae K H n (.bl b) (.bool b)
 |int {n:Nat} (i:Int):ae K H n (.int i) (.int i)
 |str {n:Nat} (x:Str) (h:PyData.strOk x=true):ae K H n (.str x) (.str x)
 |lst {n:Nat} {a:Addr} {xs:List V} {ds:List PyData} (ha:ag K H a xs) (hl:xs.length=ds.length) (h:∀(i:Nat)(x:V)(d:PyData),xs[i]?=some x->ds[i]?=some d->ae K H n x d):ae K H (n+1) (.ref a) (.list ds)
 |tup {n:Nat} {a:Addr} {xs:List V} {ds:List PyData} (ha:ao K H a xs) (hl:xs.length=ds.length) (h:∀(i:Nat)(x:V)(d:PyData),xs[i]?=some x->ds[i]?=some d->ae K H n x d):ae K H (n+1) (.ref a) (.tuple ds)
theorem zP:∀(ds:List PyData),(∀d∈ds,d.canLay0=true)->PyData.canLayAll0 ds=true
 |[],_=>rfl
 |d::ds,h=>by show(PyData.canLay0 d&&PyData.canLayAll0 ds)=true;rw[h d List.mem_cons_self,zP ds λx hx=>h x (List.mem_cons_of_mem _ hx)];rfl
theorem zQ{n:Nat}:∀(ds:List PyData),(∀d∈ds,d.depth<=n)->PyData.depthAll ds<=n
 |[],_=>Nat.zero_le _
 |d::ds,h=>by show max (PyData.depth d) (PyData.depthAll ds)<=n;exact Nat.max_le.mpr ⟨h d List.mem_cons_self,zQ ds λx hx=>h x (List.mem_cons_of_mem _ hx)⟩
theorem qc{xs:List V}{ds:List PyData}(hl:xs.length=ds.length){d:PyData}(h:d∈ds):∃(i:Nat)(x:V),xs[i]?=some x/\ds[i]?=some d:=by obtain⟨i,hi,e⟩:=List.getElem_of_mem h;exact⟨i,xs[i]'(by lia),List.getElem?_eq_getElem _,by rw[List.getElem?_eq_getElem hi,e]⟩
theorem ae.lay{K:PySem.W.Frag}{H:Hp}{n:Nat}{v:V}{d:PyData}(h:ae K H n v d):d.canLay0=true:=by
 induction h with
 |ba=>rfl
 |bl=>rfl
 |int=>rfl
 |str x hx=>exact hx
 |lst ha hl h ih=>exact zP _ λd hd=>let⟨i,x,h1,h2⟩:=qc hl hd;ih i x d h1 h2
 |tup ha hl h ih=>exact zP _ λd hd=>let⟨i,x,h1,h2⟩:=qc hl hd;ih i x d h1 h2
theorem ae.O5{K:PySem.W.Frag}{H:Hp}{n:Nat}{v:V}{d:PyData}(h:ae K H n v d):d.depth<=n:=by
 induction h with
 |ba=>exact Nat.zero_le _
 |bl=>exact Nat.zero_le _
 |int=>exact Nat.zero_le _
 |str x hx=>exact Nat.zero_le _
 |lst ha hl h ih=>exact Nat.succ_le_succ (zQ _ λd hd=>let⟨i,x,h1,h2⟩:=qc hl hd;ih i x d h1 h2)
 |tup ha hl h ih=>exact Nat.succ_le_succ (zQ _ λd hd=>let⟨i,x,h1,h2⟩:=qc hl hd;ih i x d h1 h2)
theorem ae.up{K:PySem.W.Frag}{H:Hp}{n m:Nat}{v:V}{d:PyData}(h:ae K H n v d)(hm:n<=m):ae K H m v d:=by
 induction h generalizing m with
 |ba=>exact .ba
 |bl b=>exact .bl b
 |int i=>exact .int i
 |str x hx=>exact .str x hx
 |lst ha hl h ih=>cases m with
  |zero=>lia
  |succ m=>exact .lst ha hl λi x d h1 h2=>ih i x d h1 h2 (by lia)
 |tup ha hl h ih=>cases m with
  |zero=>lia
  |succ m=>exact .tup ha hl λi x d h1 h2=>ih i x d h1 h2 (by lia)
theorem j6{h:Heap}:∀(us:List Value)(ds:List PyData),us.length=ds.length->(∀(i:Nat)(u:Value)(d:PyData),us[i]?=some u->ds[i]?=some d->∃as,Reads h u d as)->∃as,ReadsAll h us ds as
 |[],[],_,_=>⟨[],.nil⟩
 |[],_::_,e,_=>by cases e
 |_::_,[],e,_=>by cases e
 |u::us,d::ds,e,q=>by obtain⟨as,r⟩:=q 0 u d rfl rfl;obtain⟨bs,rs⟩:=j6 us ds (Nat.succ.inj e) λi u d h1 h2=>q (i+1) u d (by simpa using h1) (by simpa using h2);exact⟨as++bs,.cons r rs⟩
theorem aW.back:∀{xs:List V}{us:List Value}{i:Nat}{u:Value},aW xs us->us[i]?=some u->∃x,xs[i]?=some x/\RelV x u
 |_,_,_,_,.nil,e=>by simp at e
 |_,_,0,_,.cons r _,e=>by simp at e;subst e;exact⟨_,rfl,r⟩
 |_,_,i+1,u,.cons _ t,e=>by obtain⟨x,h1,h2⟩:=aW.back (i:=i) (u:=u) t (by simpa using e);exact⟨x,by simpa using h1,h2⟩
section
variable{X:Cx}{pins:List (Addr×Obj)}{σ:St}{H:Hp}{s:Shared}
theorem ae.reads(I:Inv X pins σ H s){n:Nat}{v:V}{d:PyData}(h:ae X.K H n v d):∀{u:Value},RelV v u->∃as,Reads s.heap u d as:=by
 induction h with
 |ba=>intro u r;cases r;exact⟨_,.none⟩
 |bl b=>intro u r;cases r;exact⟨_,.bool b⟩
 |int i=>intro u r;obtain⟨t,rfl⟩:=r;exact⟨_,.int i t⟩
 |str x hx=>intro u r;obtain⟨t,rfl⟩:=r;exact⟨_,.str x t⟩
 |lst ha hl h ih =>
  intro u r;cases r;obtain⟨aM,rv,⟨o,n,ho,hc,_,hd⟩,hz⟩:=I.list ha;obtain⟨as,rs⟩:=j6 (h:=s.heap) aM _ (by rw[<-rv.length,hl]) λi u d h1 h2=>by obtain⟨x,h3,h4⟩:=rv.back h1;exact ih i x d h3 h2 h4
  exact⟨_,.list ho hc hd (by simpa using rs)⟩
 |tup ha hl h ih =>
  intro u r;cases r;obtain⟨aM,rv,⟨o,ho,hc,n,hd⟩,hz⟩:=I.tuple ha;obtain⟨as,rs⟩:=j6 (h:=s.heap) aM _ (by rw[<-rv.length,hl]) λi u d h1 h2=>by obtain⟨x,h3,h4⟩:=rv.back h1;exact ih i x d h3 h2 h4
  exact⟨_,.tuple ho hc hd (by simpa using rs)⟩
def L8(K:PySem.W.Frag)(neg:Bool):R2:=λx y H Q=>∃d e,ae K H 8 x d/\ae K H 8 y e/\Q (.bl (if neg then !PyData.eqv d e else PyData.eqv d e)) H
theorem Dq(K:PySem.W.Frag)(hu:X.A.units+16<cLine)(hK:X.K=K:=by rfl):ij X (compareOp .Eq) (L8 K false):=by subst hK;intro pins s σ H x y v u Q I rx ry h;obtain⟨d,e,h1,h2,q⟩:=h;obtain⟨as,r1⟩:=h1.reads I rx;obtain⟨bs,r2⟩:=h2.reads I ry;have z:=h1.O5;exact SeqAt.compareEq_reads r1 r2 h1.lay h2.lay (by lia) ⟨.bl _,H,I,rfl,q⟩
theorem Dr(K:PySem.W.Frag)(hu:X.A.units+16<cLine)(hK:X.K=K:=by rfl):ij X (compareOp .NotEq) (L8 K true):=by subst hK;intro pins s σ H x y v u Q I rx ry h;obtain⟨d,e,h1,h2,q⟩:=h;obtain⟨as,r1⟩:=h1.reads I rx;obtain⟨bs,r2⟩:=h2.reads I ry;have z:=h1.O5;exact SeqAt.compareNe_reads r1 r2 h1.lay h2.lay (by lia) ⟨.bl _,H,I,rfl,q⟩
end
theorem ae.same{K:PySem.W.Frag}{H H':Hp}{n:Nat}{v:V}{d:PyData}(h:ae K H n v d)(s:aH H H'):ae K H' n v d:=by
 induction h with
 |ba=>exact .ba
 |bl b=>exact .bl b
 |int i=>exact .int i
 |str x hx=>exact .str x hx
 |lst ha hl h ih=>exact .lst (s.seq ha) hl ih
 |tup ha hl h ih=>exact .tup (s.tup ha) hl ih
def Kept(H H':Hp):Prop:=∀(a:Addr)(xs:List V),Rd H a (.tup xs)->Rd H' a (.tup xs)
theorem Kept.tup{K:PySem.W.Frag}{H H':Hp}{a:Addr}{xs:List V}(k:Kept H H')(h:ao K H a xs):ao K H' a xs:=h.elim (λh=>.inl (k a xs h)) .inr
mutual
def ye:PyData->Bool
 |.none|.bool _|.int _|.str _=>true
 |.tuple xs=>c9 xs
 |.list _|.dict _=>false
def c9:List PyData->Bool
 |[]=>true
 |x::xs=>ye x&&c9 xs
end
theorem rF:∀{ds:List PyData}{d:PyData},c9 ds=true->d∈ds->ye d=true
 |x::xs,d,h,hd=>by
  have h:(ye x&&c9 xs)=true:=h;rw[Bool.and_eq_true]at h;rcases List.mem_cons.mp hd with rfl|hd
  ·exact h.1
  exact rF h.2 hd
theorem ae.kept{K:PySem.W.Frag}{H H':Hp}{n:Nat}{v:V}{d:PyData}(h:ae K H n v d)(k:Kept H H')(hn:ye d=true):ae K H' n v d:=by
 induction h with
 |ba=>exact .ba
 |bl b=>exact .bl b
 |int i=>exact .int i
 |str x hx=>exact .str x hx
 |lst ha hl h ih=>cases hn
 |tup ha hl h ih=>exact .tup (k.tup ha) hl λi x d h1 h2=>ih i x d h1 h2 (rF hn (List.mem_of_getElem? h2))
theorem yd.same{b:Bool}{K:PySem.W.Frag}{H H':Hp}{a:Addr}{xs:List V}(h:yd b K H a xs)(s:aH H H'):yd b K H' a xs:=by
 cases b
 ·exact s.tup (show ao K H a xs from h)
 exact s.seq (show ag K H a xs from h)
def fN(A:Around)(s:Shared)(x y:Value)(b:Bool):Prop:=∀(prog:Program)(w:World)(E:Value->Shared->Prop)(Q:Value->Shared->Prop),Q (.bool b) s->wpAny (model prog w) A (richCompare .Lt x y) Q E s
def i3(e l:Nat->Bool)(z:Bool):List Nat->Bool
 |[]=>z
 |j::r=>if e j=true then i3 e l z r else l j
theorem zR(l b:Addr)(us ws:Array Value)(n n2:Nat)(dd JL:Option Addr)(sl Bf:Array (Option Value))(e g:Nat->Bool):
  Meets (Builtin.«tuple.__lt__» ⟨[.ref l,.ref b],[]⟩)
   (λA R s=>s.heap.get? l=some { cls:=.type "tuple",dict:=dd,data:=.seq us n,slots:=sl }/\s.heap.get? b=some { cls:=.type "tuple",dict:=JL,data:=.seq ws n2,slots:=Bf } /\
    (∀(j:Nat)(h1:j<us.size)(h2:j<ws.size),SeqAt.EqAt A.in1 s us[j] ws[j] (e j))/\(∀(j:Nat)(h1:j<us.size)(h2:j<ws.size),e j=false->fN A.in1 s us[j] ws[j] (g j)) /\
    R (.ok (.ret (.bool (i3 e g (decide (us.size<ws.size)) (List.range (min us.size ws.size)))))) s) :=
 .of_wp λprog w A R s h=>by
  obtain⟨hp,g0,d,tk,os⟩:=s;obtain⟨hl,hb,he,hg,h⟩:=h;have f2:=AutoSeq1.sub_tuple_tuple;have hZ:(us.toList.zip ws.toList).length=min us.size ws.size:=by simp
  wp_walk using AutoSeq1.wpAny_loadPart' hl,AutoSeq1.wpAny_loadPart' hb,wpAny_forIn_list _ (λrest b s'=>b.1=none/\s'=⟨hp,g0,d,tk,os⟩/\∃i,rest=(us.toList.zip ws.toList).drop i /\
   R (.ok (.ret (.bool (i3 e g (decide (us.size<ws.size)) ((List.range (min us.size ws.size)).drop i))))) ⟨hp,g0,d,tk,os⟩) _
  case turn =>
   rintro⟨y,x⟩ rest b s' ⟨wW,rfl,i,hz,hR⟩;have hL:i<(us.toList.zip ws.toList).length:=by
    rcases Nat.lt_or_ge i (us.toList.zip ws.toList).length with h'|h'
    ·exact h'
    rw[List.drop_of_length_le h']at hz;cases hz
   have hm:i<min us.size ws.size:=hZ▸hL;have h1:i<us.size:=Nat.lt_of_lt_of_le hm (Nat.min_le_left _ _);have h2:i<ws.size:=Nat.lt_of_lt_of_le hm (Nat.min_le_right _ _);rw[List.drop_eq_getElem_cons hL]at hz;injection hz with hq hw;have hy:y=us[i]:=(by have:=congrArg Prod.fst hq;simpa using this);have hx:x=ws[i]:=(by have:=congrArg Prod.snd hq;simpa using this);subst hy hx;have hd:(List.range (min us.size ws.size)).drop i=i::(List.range (min us.size ws.size)).drop (i+1):=(by simp[List.drop_eq_getElem_cons,hm]);rw[hd]at hR;refine wpAny_bind (he i h1 h2 prog w _ _ ?_);cases hy:e i with
   |true =>
    rw[i3,if_pos hy]at hR
    wp_walk
    exact⟨rfl,rfl,i+1,hw,hR⟩
   |false =>
    rw[i3,if_neg (by rw[hy];decide)]at hR;refine wpAny_bind (wpAny_rule (wpAny_bind (hg i h1 h2 hy prog w _ _ ?_)))
    wp_walk
    exact⟨_,rfl,hR⟩
  case fin =>
   rintro⟨b1,b2⟩ s' ⟨wW,rfl,i,hz,hR⟩;simp only at wW;subst wW;have hG:min us.size ws.size<=i:=by
    rcases Nat.lt_or_ge i (us.toList.zip ws.toList).length with h'|h'
    ·rw[List.drop_eq_getElem_cons h']at hz;cases hz
    exact hZ▸h'
   rw[List.drop_of_length_le (by simpa using hG)]at hR
   wp_walk
   exact⟨_,rfl,by simpa[Builtin.Tuple.tupleCompareSizes,i3]using hR⟩
  case h =>
   exact⟨rfl,rfl,0,rfl,by simpa using h⟩
theorem fN.tuples{A:Around}{s:Shared}{l b:Addr}{us ws:Array Value}{e g:Nat->Bool}(hl:s.heap.IsTuple l us)(hb:s.heap.IsTuple b ws)(hu:A.units<cLine)(he:∀(j:Nat)(h1:j<us.size)(h2:j<ws.size),SeqAt.EqAt A.in1 s us[j] ws[j] (e j))(hg:∀(j:Nat)(h1:j<us.size)(h2:j<ws.size),e j=false->fN A.in1 s us[j] ws[j] (g j)):fN A s (.ref l) (.ref b) (i3 e g (decide (us.size<ws.size)) (List.range (min us.size ws.size))):=λprog w E Q h=>by
 obtain⟨⟨cls,dd,data,sl⟩,ho,hc,n,hd⟩:=id hl;obtain⟨⟨OZ,JL,data2,Bf⟩,Lh,Li,n2,hd2⟩:=id hb;simp only at hc hd Li hd2;subst hc hd Li hd2;exact richCompare_meets_room (op:=.Lt) ⟨_,ho,rfl⟩ ⟨_,Lh,rfl⟩ F.slot_tuple_lt F.entry_tuple_lt (F.args_tuple_lt_2 _ _) (zR l b us ws n n2 dd JL sl Bf e g)
  ⟨ho,Lh,he,hg,show Value.bool _≠Value.notImplemented/\Q (.bool _) s from⟨(λx=>nomatch x),h⟩⟩ hu
mutual
def bN:PyData->PyData->Bool
 |.int a,.int b=>decide (a<b)
 |.str x,.str y=>decide (x.cps.toList<y.cps.toList)
 |.tuple xs,.tuple ys=>nQ xs ys
 |_,_=>false
def nQ:List PyData->List PyData->Bool
 |[],[]=>false
 |[],_::_=>true
 |_::_,[]=>false
 |x::xs,y::ys=>if PyData.eqv x y=true then nQ xs ys else bN x y
end
mutual
def uR:PyData->PyData->Bool
 |.int _,.int _=>true
 |.str _,.str _=>true
 |.tuple xs,.tuple ys=>vJ xs ys
 |_,_=>false
def vJ:List PyData->List PyData->Bool
 |x::xs,y::ys=>uR x y&&vJ xs ys
 |_,_=>true
end
abbrev ku(xs ys:List PyData)(j:Nat):Bool:=bN (xs.getD j .none) (ys.getD j .none)
theorem xT(e g:Nat->Bool)(z:Bool):∀l:List Nat,i3 e g z (l.map (·+1))=i3 (λj=>e (j+1)) (λj=>g (j+1)) z l
 |[]=>rfl
 |x::r=>by rw[List.map_cons,i3,i3,xT e g z r]
theorem vK:∀xs ys:List PyData,i3 (SeqAt.pairEq xs ys) (ku xs ys) (decide (xs.length<ys.length)) (List.range (min xs.length ys.length))=nQ xs ys
 |[],[]=>by rfl
 |[],_::_=>by simp[i3,nQ]
 |_::_,[]=>by simp[i3,nQ]
 |x::xs,y::ys=>by
  have e:min (x::xs).length (y::ys).length=min xs.length ys.length+1:=by simp only[List.length_cons];lia
  rw[e,List.range_succ_eq_map,i3];have e2:List.map Nat.succ (List.range (min xs.length ys.length))=(List.range (min xs.length ys.length)).map (·+1):=rfl;rw[e2,xT,nQ];have e3:decide ((x::xs).length<(y::ys).length)=decide (xs.length<ys.length):=by simp
  rw[e3];have:=vK xs ys;rw[<-this];rfl
section
variable{A:Around}{s:Shared}
theorem fN.int(i j:Int)(t u:Tok):fN A s (.int i t) (.int j u) (decide (i<j)):=λprog w E Q h=>lt_int h
theorem fN.str(x y:Str)(t u:Tok):fN A s (.str x t) (.str y u) (decide (x.cps.toList<y.cps.toList)):=λprog w E Q h=>lt_str h
end
theorem iN{h:Heap}:∀{vs:List Value}{xs:List PyData}{as:List Addr},ReadsAll h vs xs as->vs.length=xs.length
 |_,_,_,.nil=>rfl
 |_,_,_,.cons _ q=>congrArg Nat.succ (iN q)
theorem d8{h:Heap}:∀{vs:List Value}{xs:List PyData}{as:List Addr},ReadsAll h vs xs as->∀(j:Nat)(hj:j<vs.length),∃bs,Reads h vs[j] (xs.getD j .none) bs
 |_,_,_,.nil,_,hj=>absurd hj (Nat.not_lt_zero _)
 |_,_,_,.cons r _,0,_=>⟨_,r⟩
 |_,_,_,.cons _ q,j+1,hj=>d8 q j (Nat.lt_of_succ_lt_succ hj)
theorem vL:∀(xs ys:List PyData),vJ xs ys=true->∀j,j<xs.length->j<ys.length->uR (xs.getD j .none) (ys.getD j .none)=true
 |[],_,_,_,h,_=>absurd h (Nat.not_lt_zero _)
 |_::_,[],_,_,_,h=>absurd h (Nat.not_lt_zero _)
 |x::xs,y::ys,o,j,h1,h2=>by
  have go:uR x y=true/\vJ xs ys=true:=by simpa[vJ]using o
  cases j with
  |zero=>exact go.1
  |succ j=>exact vL xs ys go.2 j (Nat.lt_of_succ_lt_succ h1) (Nat.lt_of_succ_lt_succ h2)
theorem rG:∀(xs:List PyData),PyData.canLayAll0 xs=true->∀j,j<xs.length->(xs.getD j .none).canLay0=true
 |[],_,_,h=>absurd h (Nat.not_lt_zero _)
 |x::xs,o,j,h=>by
  have ga:x.canLay0=true/\PyData.canLayAll0 xs=true:=by simpa[PyData.canLayAll0]using o
  cases j with
  |zero=>exact ga.1
  |succ j=>exact rG xs ga.2 j (Nat.lt_of_succ_lt_succ h)
theorem zS:∀(xs:List PyData)(j:Nat),j<xs.length->(xs.getD j .none).depth<=PyData.depthAll xs
 |[],_,h=>absurd h (Nat.not_lt_zero _)
 |x::xs,j,h=>by
  show _<=max x.depth (PyData.depthAll xs);cases j with
  |zero=>exact Nat.le_max_left _ _
  |succ j=>exact Nat.le_trans (zS xs j (Nat.lt_of_succ_lt_succ h)) (Nat.le_max_right _ _)
theorem Ds:∀(n:Nat)(d e:PyData)(A:Around)(s:Shared)(a b:Value)(as bs:List Addr),d.depth<=n->Reads s.heap a d as->Reads s.heap b e bs->d.canLay0=true->e.canLay0=true->uR d e=true ->
  A.units+n<cLine->fN A s a b (bN d e):=by
 intro n
 induction n with
 |zero =>
  intro d e A s a b as bs hn ra rb ha hb ho hu;cases ra with
  |int=>cases rb with
   |int=>exact fN.int _ _ _ _
   |_=>simp[uR]at ho
  |str=>cases rb with
   |str=>exact fN.str _ _ _ _
   |_=>simp[uR]at ho
  |tuple=>exact absurd hn (by show ¬(_+1<=0);lia)
  |_=>simp[uR]at ho
 |succ n ih =>
  intro d e A s a b as bs hn ra rb ha hb ho hu;cases ra with
  |int=>cases rb with
   |int=>exact fN.int _ _ _ _
   |_=>simp[uR]at ho
  |str=>cases rb with
   |str=>exact fN.str _ _ _ _
   |_=>simp[uR]at ho
  |@tuple a o vs m xs _ h1 h2 h3 h4 =>
   cases rb with
   |@tuple b o2 ws m2 ys _ k1 k2 k3 k4 =>
    have l1:=iN h4;have l2:=iN k4;have e1:vs.size=xs.length:=(by simpa using l1);have e2:ws.size=ys.length:=(by simpa using l2);have ho:vJ xs ys=true:=(by simpa[uR]using ho);have hn:PyData.depthAll xs<=n:=Nat.le_of_succ_le_succ hn;have q:=fN.tuples (A:=A) (s:=s) (e:=SeqAt.pairEq xs ys) (g:=ku xs ys) ⟨o,h1,h2,m,h3⟩ ⟨o2,k1,k2,m2,k3⟩ (by lia) (λj j1 j2=>?_) (λj j1 j2 _=>?_)
    ·rw[e1,e2,vK]at q;have e3:bN (.tuple xs) (.tuple ys)=nQ xs ys:=(by rw[bN]);rw[e3];exact q
    ·have:=SeqAt.eqAt_readsAll xs ys A.in1 s vs.toList ws.toList _ _ h4 k4 ha hb (by show A.units+1+_<cLine;lia) j (by simpa using j1) (by simpa using j2)
     simpa using this
    obtain⟨O6,q1⟩:=d8 h4 j (by simpa using j1);obtain⟨O7,q2⟩:=d8 k4 j (by simpa using j2);have:=ih _ _ A.in1 s _ _ O6 O7 (Nat.le_trans (zS xs j (by lia)) hn) q1 q2 (rG xs ha j (by lia)) (rG ys hb j (by lia)) (vL xs ys ho j (by lia) (by lia)) (by show A.units+1+n<cLine;lia)
    simpa[ku]using this
   |_=>simp[uR]at ho
  |_=>simp[uR]at ho
section
open PySem.W
structure Ord(N:Nat)(lt:Nat->Nat->Bool):Prop where
 jo:∀x y,x<N->y<N->lt x y=true->lt y x=false
 qd:∀x y z,x<N->y<N->z<N->lt y x=false->lt z y=false->lt z x=false
structure lM(N:Nat)(p:Array Nat):Prop where
 sz:p.size=N
 lo:∀i,i<N->p.getD i 0<N
 pm:p.Perm (List.toArray (List.range N))
variable{N:Nat}{lt:Nat->Nat->Bool}{cmp:Nat->Nat->(Bool->Shared->Prop)->Shared->Prop}{s:Shared}
def yf(lt:Nat->Nat->Bool)(p:Array Nat)(m:Nat):Prop:=∀i j,i<=j->j<m->lt (p.getD j 0) (p.getD i 0)=false
def Hj(lt:Nat->Nat->Bool)(p:Array Nat)(m:Nat):Prop:=∀i j,i<=j->j<m->lt (p.getD i 0) (p.getD j 0)=false
def Kf(lt:Nat->Nat->Bool)(p:Array Nat)(a b:Nat):Prop:=∀i j,a<=i->i<b->a<=j->j<b->lt (p.getD i 0) (p.getD j 0)=false
theorem Ord.refl(o:Ord N lt){x:Nat}(h:x<N):lt x x=false:=by
 cases e:lt x x with
 |false=>rfl
 |true=>rw[<-o.jo x x h h e,e]
theorem lM.of{p q:Array Nat}(h:lM N p)(hp:q.Perm p)(hz:q.size=p.size):lM N q:=by
 have e:=hp.trans h.pm;refine⟨hz.trans h.sz,λi hi=>?_,e⟩;have hq:i<q.size:=by rw[hz,h.sz];exact hi
 have m:q.getD i 0∈q:=by
  have:q.getD i 0=q[i]:=by simp[Array.getD,hq]
  rw[this];exact Array.getElem_mem hq
 have m2:=e.mem_iff.mp m
 simpa using m2
theorem gh{p:Array Nat}{i j:Nat}(hj:j<=p.size)(k:Nat):(kas_rev p i j).getD k 0=if i<=k/\k<j then p.getD (i+j-1-k) 0 else p.getD k 0:=by unfold kas_rev;rw[Array.getD_eq_getD_getElem?,getElem?_mirror_all hj k];split<;>rw[Array.getD_eq_getD_getElem?]
theorem lM.rev{p:Array Nat}{i j:Nat}(h:lM N p):lM N (kas_rev p i j):=h.of (mirror_perm ..) (mirror_size ..)
theorem zT{p:Array Nat}{k l:Nat}(hk:k<p.size)(hl:l<=k)(i:Nat):(bubble p k (k-l)).getD i 0=if i=l then p.getD k 0 else if l<i/\i<=k then p.getD (i-1) 0 else p.getD i 0:=by
 rw[Array.getD_eq_getD_getElem?,getElem?_bubble hk _ (by lia)];have e:k-(k-l)=l:=by lia
 rw[e];by_cases c1:i=l
 ·rw[if_pos c1,if_pos c1];exact(Array.getD_eq_getD_getElem? ..).symm
 rw[if_neg c1,if_neg c1];by_cases c2:l<i/\i<=k
 ·rw[if_pos c2,if_pos c2];exact(Array.getD_eq_getD_getElem? ..).symm
 rw[if_neg c2,if_neg c2];exact(Array.getD_eq_getD_getElem? ..).symm
theorem lM.SS{p:Array Nat}{i j:Nat}(h:lM N p):lM N (bubble p i j):=h.of (bubble_perm ..) (bubble_size ..)
def Hk(N:Nat)(lt:Nat->Nat->Bool)(cmp:Nat->Nat->(Bool->Shared->Prop)->Shared->Prop)(s:Shared):Prop:=∀i j C,i<N->j<N->C (lt i j) s->cmp i j C s
theorem zU(hc:Hk N lt cmp s)(o:Ord N lt){p:Array Nat}(h:lM N p){Q:Nat->Shared->Prop}:∀(f n:Nat),1<=n->n+f<=N->yf lt p n ->
  (∀m,n<=m->m<=n+f->yf lt p m->(m=n+f\/lt (p.getD m 0) (p.getD (m-1) 0)=true)->Q m s)->(kas_asc p f n).kasWp cmp Q s
 |0,n,_,_,a,q=>q n (Nat.le_refl _) (by lia) a (.inl rfl)
 |f+1,n,h1,hf,a,q=>by
  refine hc _ _ _ (h.lo n (by lia)) (h.lo _ (by lia)) ?_;cases e:lt (p.getD n 0) (p.getD (n-1) 0)with
  |true=>exact q n (Nat.le_refl _) (by lia) a (.inr e)
  |false =>
   refine zU hc o h f (n+1) (by lia) (by lia) (λi j xU hj=>?_) λm m1 m2 m3 m4=>q m (by lia) (by lia) m3 (m4.imp (λz=>by lia) id);by_cases L9:j<n
   ·exact a i j xU L9
   obtain rfl:j=n:=(by lia);by_cases hi:i=j
   ·subst hi;exact o.refl (h.lo i (by lia))
   exact o.qd _ (p.getD (j-1) 0) _ (h.lo i (by lia)) (h.lo _ (by lia)) (h.lo j (by lia)) (a i (j-1) (by lia) (by lia)) e
theorem Hj.rev{p:Array Nat}{n r:Nat}(h:lM N p)(hn:n<=N)(hr:r<=n)(d:Hj lt p n)(e:Kf lt p r n):Hj lt (kas_rev p r n) n:=by
 intro i j xU hj;rw[gh (by rw[h.sz];exact hn),gh (by rw[h.sz];exact hn)];by_cases c1:r<=i
 ·rw[if_pos ⟨c1,by lia⟩,if_pos ⟨by lia,hj⟩];exact e _ _ (by lia) (by lia) (by lia) (by lia)
 rw[if_neg (by lia)];by_cases c2:r<=j
 ·rw[if_pos ⟨c2,hj⟩];exact d _ _ (by lia) (by lia)
 rw[if_neg (by lia)];exact d _ _ xU hj
theorem qe(hc:Hk N lt cmp s)(o:Ord N lt){Q:Array Nat×Nat×Nat->Shared->Prop}:∀(f:Nat)(p:Array Nat)(n q:Nat),lM N p->q+1<=n->n+f<=N->Hj lt p n->Kf lt p (n-(q+1)) n ->
  (∀p' n' q',lM N p'->q'+1<=n'->n'<=n+f->Hj lt p' n'->Kf lt p' (n'-(q'+1)) n'->Q (p',n',q') s)->(kas_desc f p n q).kasWp cmp Q s
 |0,p,n,q,h,h1,hf,d,e,k=>k p n q h h1 (by lia) d e
 |f+1,p,n,q,h,h1,hf,d,e,k=>by
  refine hc _ _ _ (h.lo n (by lia)) (h.lo _ (by lia)) ?_;have more:∀p':Array Nat,lM N p'->Hj lt p' n->lt (p'.getD (n-1) 0) (p'.getD n 0)=false->Hj lt p' (n+1):=by
   intro p' h' d' z i j xU hj;by_cases L9:j<n
   ·exact d' i j xU L9
   obtain rfl:j=n:=(by lia);by_cases hi:i=j
   ·subst hi;exact o.refl (h'.lo i (by lia))
   exact o.qd _ (p'.getD (j-1) 0) _ (h'.lo j (by lia)) (h'.lo _ (by lia)) (h'.lo i (by lia)) z (d' i (j-1) (by lia) (by lia))
  have one:∀p':Array Nat,lM N p'->Kf lt p' (n+1-(0+1)) (n+1):=by intro p' h' i j a1 a2 a3 a4;obtain rfl:i=n:=(by lia);obtain rfl:j=i:=(by lia);exact o.refl (h'.lo j (by lia))
  cases e1:lt (p.getD n 0) (p.getD (n-1) 0)with
  |true =>
   have z:=o.jo _ _ (h.lo n (by lia)) (h.lo _ (by lia)) e1;show(if q>0 then kas_desc f (kas_rev p (n-(q+1)) n) (n+1) 0 else kas_desc f p (n+1) 0).kasWp cmp Q s;by_cases hq:q>0
   ·rw[if_pos hq];have dr:=d.rev h (by lia) (by lia) e;have z2:lt ((kas_rev p (n-(q+1)) n).getD (n-1) 0) ((kas_rev p (n-(q+1)) n).getD n 0)=false:=by rw[gh (by rw[h.sz];lia),gh (by rw[h.sz];lia),if_pos (by lia),if_neg (by lia)];exact o.qd _ (p.getD (n-1) 0) _ (h.lo n (by lia)) (h.lo _ (by lia)) (h.lo _ (by lia)) z (e _ _ (by lia) (by lia) (by lia) (by lia))
    exact qe hc o f _ (n+1) 0 h.rev (by lia) (by lia) (more _ h.rev dr z2) (one _ h.rev) λp' n' q' a b c=>k p' n' q' a b (by lia)
   rw[if_neg hq];exact qe hc o f p (n+1) 0 h (by lia) (by lia) (more _ h d z) (one _ h) λp' n' q' a b c=>k p' n' q' a b (by lia)
  |false =>
   refine hc _ _ _ (h.lo _ (by lia)) (h.lo n (by lia)) ?_;cases e2:lt (p.getD (n-1) 0) (p.getD n 0)with
   |true=>exact k p n q h h1 (by lia) d e
   |false =>
    refine qe hc o f p (n+1) (q+1) h (by lia) (by lia) (more _ h d e2) (λi j a1 a2 a3 a4=>?_) λp' n' q' a b c=>k p' n' q' a b (by lia);have fwd:∀i,n-(q+1)<=i->i<n->lt (p.getD i 0) (p.getD n 0)=false/\lt (p.getD n 0) (p.getD i 0)=false:=by
     intro i b1 b2;exact⟨o.qd _ (p.getD (n-1) 0) _ (h.lo n (by lia)) (h.lo _ (by lia)) (h.lo i (by lia)) e2 (e _ _ b1 b2 (by lia) (by lia)),
      o.qd _ (p.getD (n-1) 0) _ (h.lo i (by lia)) (h.lo _ (by lia)) (h.lo n (by lia)) (e _ _ (by lia) (by lia) b1 b2) e1⟩
    by_cases c1:i<n
    ·by_cases c2:j<n
     ·exact e i j (by lia) c1 (by lia) c2
     obtain rfl:j=n:=(by lia);exact(fwd i (by lia) c1).1
    obtain rfl:i=n:=(by lia);by_cases c2:j<i
    ·exact(fwd j (by lia) c2).2
    obtain rfl:j=i:=(by lia);exact o.refl (h.lo j (by lia))
theorem xV(hc:Hk N lt cmp s)(o:Ord N lt){p:Array Nat}{n:Nat}(h:lM N p)(h1:1<=n)(hn:n<=N)(d:Hj lt p n){Q:Nat×Array Nat->Shared->Prop}(q:∀m p',1<=m->m<=N->lM N p'->yf lt p' m->Q (m,p') s):(kas_tail3 n N p).kasWp cmp Q s:=by unfold kas_tail3;rw[KasT.kasWp_bind];refine zU hc o h.rev (N-n) n h1 (by lia) (λi j xU hj=>?_) λm a b c _=>q m _ (by lia) (by lia) h.rev c;rw[gh (by rw[h.sz];exact hn),gh (by rw[h.sz];exact hn),if_pos ⟨Nat.zero_le _,hj⟩,if_pos ⟨Nat.zero_le _,by lia⟩];exact d _ _ (by lia) (by lia)
theorem pU(hc:Hk N lt cmp s)(o:Ord N lt){p:Array Nat}{n:Nat}(h:lM N p)(h1:1<=n)(hn:n<N)(e:Kf lt p 0 n)(z:lt (p.getD n 0) (p.getD (n-1) 0)=true){Q:Nat×Array Nat->Shared->Prop}(q:∀m p',1<=m->m<=N->lM N p'->yf lt p' m->Q (m,p') s):(kas_descPart n N p).kasWp cmp Q s:=by
 unfold kas_descPart;rw[KasT.kasWp_bind];have z':=o.jo _ _ (h.lo n hn) (h.lo _ (by lia)) z;refine qe hc o (N-(n+1)) p (n+1) 0 h (by lia) (by lia) (λi j xU hj=>?_) (λi j a1 a2 a3 a4=>?_) λp' n' q' g1 g2 g3 g4 g5=>?_
 ·by_cases L9:j<n
  ·exact e i j (by lia) (by lia) (by lia) L9
  obtain rfl:j=n:=by lia
  by_cases hi:i=j
  ·subst hi;exact o.refl (h.lo i (by lia))
  exact o.qd _ (p.getD (j-1) 0) _ (h.lo j (by lia)) (h.lo _ (by lia)) (h.lo i (by lia)) z' (e _ _ (by lia) (by lia) (by lia) (by lia))
 ·obtain rfl:i=n:=by lia
  obtain rfl:j=i:=by lia
  exact o.refl (h.lo j (by lia))
 show(if q'>0 then kas_tail3 n' N (kas_rev p' (n'-(q'+1)) n')else kas_tail3 n' N p').kasWp cmp Q s;by_cases hq:q'>0
 ·rw[if_pos hq];exact xV hc o g1.rev (by lia) (by lia) (g4.rev g1 (by lia) (by lia) g5) q
 rw[if_neg hq];exact xV hc o g1 (by lia) (by lia) g4 q
theorem Dt(hc:Hk N lt cmp s)(o:Ord N lt){p:Array Nat}(h:lM N p)(hN:1<=N){Q:Nat×Array Nat->Shared->Prop}(q:∀m p',1<=m->m<=N->lM N p'->yf lt p' m->Q (m,p') s):(kas_count N p).kasWp cmp Q s:=by
 unfold kas_count;rw[KasT.kasWp_bind];refine zU hc o h (N-1) 1 (Nat.le_refl _) (by lia) (λi j xU hj=>?_) λm a b c z=>?_
 ·obtain rfl:j=0:=by lia
  obtain rfl:i=0:=by lia
  exact o.refl (h.lo 0 (by lia))
 show(if(m==N)=true then KasT.ret (m,p)else if m>1 then .ask (p.getD 0 0) (p.getD (m-1) 0) λc=>if c=true then .ret (m,p)else kas_descPart m N (kas_rev p 0 m)else kas_descPart m N p).kasWp cmp Q s;by_cases hm:m=N
 ·rw[if_pos (by simp[hm])];exact q m p a (by lia) h c
 rw[if_neg (by simp[hm])];have z':lt (p.getD m 0) (p.getD (m-1) 0)=true:=z.resolve_left (by lia);by_cases h1:m>1
 ·rw[if_pos h1];refine hc _ _ _ (h.lo 0 (by lia)) (h.lo _ (by lia)) ?_;cases e:lt (p.getD 0 0) (p.getD (m-1) 0)with
  |true=>exact q m p a (by lia) h c
  |false =>
   have eq:Kf lt p 0 m:=by intro i j _ i2 _ j2;exact o.qd _ (p.getD (m-1) 0) _ (h.lo j (by lia)) (h.lo _ (by lia)) (h.lo i (by lia)) (c j (m-1) (by lia) (by lia)) (o.qd _ (p.getD 0 0) _ (h.lo _ (by lia)) (h.lo 0 (by lia)) (h.lo i (by lia)) e (c 0 i (by lia) (by lia)))
   refine pU hc o h.rev (by lia) (by lia) (λi j _ i2 _ j2=>?_) ?_ q
   ·rw[gh (by rw[h.sz];lia),gh (by rw[h.sz];lia),if_pos (by lia),if_pos (by lia)];exact eq _ _ (by lia) (by lia) (by lia) (by lia)
   rw[gh (by rw[h.sz];lia),gh (by rw[h.sz];lia),if_neg (by lia),if_pos (by lia)];cases e3:lt (p.getD m 0) (p.getD (0+m-1-(m-1)) 0)with
   |true=>rfl
   |false =>
    have:=o.qd _ (p.getD (0+m-1-(m-1)) 0) _ (h.lo _ (by lia)) (h.lo _ (by lia)) (h.lo m (by lia)) (eq (0+m-1-(m-1)) (m-1) (by lia) (by lia) (by lia) (by lia)) e3;rw[z']at this;cases this
 rw[if_neg h1];obtain rfl:m=1:=by lia
 refine pU hc o h (by lia) (by lia) (λi j _ i2 _ j2=>?_) z' q;obtain rfl:j=0:=by lia
 obtain rfl:i=0:=by lia
 exact o.refl (h.lo 0 (by lia))
theorem rH(hc:Hk N lt cmp s)(o:Ord N lt){p:Array Nat}{k:Nat}(h:lM N p)(hk:k<N)(a:yf lt p k){Q:Nat->Shared->Prop}:∀(f l r:Nat),l<=r->r<=k->r-l<=f ->
  (∀i,i<l->lt (p.getD k 0) (p.getD i 0)=false)->(∀i,r<=i->i<k->lt (p.getD i 0) (p.getD k 0)=false) ->
  (∀l,l<=k->(∀i,i<l->lt (p.getD k 0) (p.getD i 0)=false)->(∀i,l<=i->i<k->lt (p.getD i 0) (p.getD k 0)=false)->Q l s)->(kas_place p k f l r).kasWp cmp Q s
 |0,l,r,h1,h2,h3,g1,g2,q=>q l (by lia) g1 (λi a b=>g2 i (by lia) b)
 |f+1,l,r,h1,h2,h3,g1,g2,q=>by
  show(if l ≥ r then KasT.ret l else .ask (p.getD k 0) (p.getD ((l+r)/2) 0) λc=>if c=true then kas_place p k f l ((l+r)/2)else kas_place p k f ((l+r)/2+1) r).kasWp cmp Q s;by_cases Qd:l ≥ r
  ·rw[if_pos Qd];exact q l (by lia) g1 (λi a b=>g2 i (by lia) b)
  rw[if_neg Qd];refine hc _ _ _ (h.lo k hk) (h.lo _ (by lia)) ?_;cases e:lt (p.getD k 0) (p.getD ((l+r)/2) 0)with
  |true =>
   have e':=o.jo _ _ (h.lo k hk) (h.lo _ (by lia)) e;refine rH hc o h hk a f l ((l+r)/2) (by lia) (by lia) (by lia) g1 (λi a1 a2=>?_) q;exact o.qd _ (p.getD ((l+r)/2) 0) _ (h.lo k hk) (h.lo _ (by lia)) (h.lo i (by lia)) e' (a _ _ a1 a2)
  |false =>
   refine rH hc o h hk a f ((l+r)/2+1) r (by lia) h2 (by lia) (λi a1=>?_) g2 q;exact o.qd _ (p.getD ((l+r)/2) 0) _ (h.lo i (by lia)) (h.lo _ (by lia)) (h.lo k hk) (a _ _ (by lia) (by lia)) e
theorem Du(hc:Hk N lt cmp s)(o:Ord N lt){Q:Array Nat->Shared->Prop}:∀(f:Nat)(p:Array Nat)(k:Nat),lM N p->k+f<=N->yf lt p k ->
  (∀p',lM N p'->yf lt p' (k+f)->Q p' s)->(kas_bin f p k).kasWp cmp Q s
 |0,p,k,h,_,a,q=>q p h a
 |f+1,p,k,h,hf,a,q=>by
  show((kas_place p k k 0 k).bind λl=>kas_bin f (bubble p k (k-l)) (k+1)).kasWp cmp Q s;rw[KasT.kasWp_bind];refine rH hc o h (by lia) a k 0 k (Nat.zero_le _) (Nat.le_refl _) (by lia) (λi hi=>absurd hi (Nat.not_lt_zero _)) (λi a b=>by lia) λl hl g1 g2=>?_;refine Du hc o f _ (k+1) h.SS (by lia) (λi j xU hj=>?_) λp' h' a'=>q p' h' (by rw[show k+(f+1)=k+1+f by lia];exact a');have b1:(bubble p k (k-l)).getD l 0=p.getD k 0:=by rw[zT (by rw[h.sz];lia) hl,if_pos rfl]
  have b2:∀i,l<i->i<=k->(bubble p k (k-l)).getD i 0=p.getD (i-1) 0:=λi x y=>by rw[zT (by rw[h.sz];lia) hl,if_neg (by lia),if_pos ⟨x,y⟩]
  have b3:∀i,i<l->(bubble p k (k-l)).getD i 0=p.getD i 0:=λi x=>by rw[zT (by rw[h.sz];lia) hl,if_neg (by lia),if_neg (by lia)]
  rcases Nat.lt_trichotomy i l with ci|ci|ci
  ·rw[b3 i ci];rcases Nat.lt_trichotomy j l with cj|cj|cj
   ·rw[b3 j cj];exact a _ _ xU (by lia)
   ·rw[cj,b1];exact g1 i ci
   rw[b2 j cj (by lia)];exact a _ _ (by lia) (by lia)
  ·rw[ci,b1];rcases Nat.lt_trichotomy j l with cj|cj|cj
   ·lia
   ·rw[cj,b1];exact o.refl (h.lo k (by lia))
   rw[b2 j cj (by lia)];exact g2 _ (by lia) (by lia)
  rw[b2 i ci (by lia),b2 j (by lia) (by lia)];exact a _ _ (by lia) (by lia)
theorem GC(hc:Hk N lt cmp s)(o:Ord N lt)(hN:1<=N){Q:Array Nat->Shared->Prop}(q:∀p,lM N p->yf lt p N->Q p s):(kas_sort N).kasWp cmp Q s:=by
 unfold kas_sort;rw[KasT.kasWp_bind];refine Dt hc o ⟨by simp,λi hi=>by simp[Array.getD,hi],Array.Perm.refl _⟩ hN λm p' h1 hm h a=>?_;show(if m<N then kas_bin (N-max m 1) p' (max m 1)else KasT.ret p').kasWp cmp Q s;have e:max m 1=m:=by lia
 rw[e];by_cases bM:m<N
 ·rw[if_pos bM];exact Du hc o _ _ _ h (by lia) a λSU OX Qe=>q SU OX (by rw[show m+(N-m)=N by lia]at Qe;exact Qe)
 rw[if_neg bM];obtain rfl:m=N:=by lia
 exact q p' h a
end
section
open PySem.W
variable{prog:Program}{w:World}{A:Around}{E:Value->Shared->Prop}{s:Shared}
def Grows(h h':Heap):Prop:=∀(b:Addr)(o:Obj),h.get? b=some o->h'.get? b=some o
structure mE(prog:Program)(w:World)(A:Around)(h:Heap)(vs:List Value)(lt:Nat->Nat->Bool)(κ:SortKind):Prop where
 ord:Ord vs.length lt
 kind:∀(s':Shared)(E:Value->Shared->Prop)(Q:SortKind->Shared->Prop),Grows h s'.heap->2<=vs.length->Q κ s'->wpAny (model prog w) A (keyKind' vs.toArray) Q E s'
 cmp:∀(s':Shared)(i j:Nat)(C:Bool->Shared->Prop),Grows h s'.heap->i<vs.length->j<vs.length->C (lt i j) s'->wpAny (model prog w) A (keyLt' κ (vs.getD i Value.none) (vs.getD j Value.none)) C (λ_ _=>False) s'
def dS(vs:List Value)(p:Array Nat):List Value:=p.toList.map λi=>vs.getD i Value.none
theorem By(vs:List Value):dS vs (List.toArray (List.range vs.length))=vs:=by unfold dS;refine List.ext_getElem (by simp) λi h1 h2=>?_;simp[h2]
theorem i4{h:Heap}{a:Addr}{vs:List Value}{n:Nat}{κ:SortKind}{lt:Nat->Nat->Bool}{P:PySem.Fin->Shared->Prop}(ho:s.heap.get? a=some (seqObj "list" vs.toArray n))(hg:∀(b:Addr)(o:Obj),h.get? b=some o->b≠a/\s.heap.get? b=some o)(S:mE prog w A h vs lt κ)(E8:vs.length<64)(q:∀p,lM vs.length p->yf lt p vs.length->P (.done (.ret .none)) { s with heap:=sortedHeap s.heap a vs (dS vs p).toArray }):wpAny (model prog w) A (Builtin.«list.sort» ⟨[.ref a],[]⟩) P E s:=by
 rw[list_sort_plain];have ha:a<s.heap.objs.size:=Heap.lt_size ho;have hz:vs.toArray.size=vs.length:=List.size_toArray ..;refine wpAny_bind (listItems_at ho rfl (wpAny_bind (listUpdate_at ho rfl ?_ (by rw[hz,sizeLine_eq];lia) (Nat.zero_le _))));obtain⟨e1,Kg⟩:∃e1,(s.heap.update a (Obj.mapSeq λ_=>#[])).get? a=some (seqObj "list" #[] e1):=⟨_,get?_update_seq ho (λ_=>#[])⟩;refine wpAny_bind (seqEpoch_at Kg rfl (wpAny_bind (wpAny_newTuple ?_ (by show vs.length<=_;rw[sizeLine_eq];lia))));refine wpAny_bind (wpAny_newList (wpAny_holding ?_) (Nat.zero_le _));have NF:(((s.heap.update a (Obj.mapSeq λ_=>#[])).push (seqObj "tuple" vs.toArray 0)).push (seqObj "list" #[] 0)).get? a=some (seqObj "list" #[] e1):=Heap.get?_push_of_some _ (Heap.get?_push_of_some _ Kg);have gr:Grows h (((s.heap.update a (Obj.mapSeq λ_=>#[])).push (seqObj "tuple" vs.toArray 0)).push (seqObj "list" #[] 0)):=λb o e =>
  Heap.get?_push_of_some _ (Heap.get?_push_of_some _ (((Heap.SameBut.update s.heap a (Obj.mapSeq λ_=>(#[]:Array Value))).2 b (hg b o e).1).trans (hg b o e).2))
 show wpAny (model prog w) A _ P E { s with heap:=((s.heap.update a (Obj.mapSeq λ_=>#[])).push (seqObj "tuple" vs.toArray 0)).push (seqObj "list" #[] 0) }
 dsimp only;by_cases h2:vs.toArray.size<2
 ·rw[if_pos h2,if_pos h2];refine wpAny_bind (wpAny_pure ?_);rw[StateT.run_pure];refine wpAny_bind (wpAny_pure ?_);dsimp only;refine wpAny_bind (seqEpoch_at NF rfl ?_);have Ji:(arrOf (SortSt.mk' general' (vs.toArray.zip vs.toArray) #[] 7 none)).map (·.2)=vs.toArray:=by show(pairsOf vs).map (·.2)=_;apply Array.toList_inj.mp;rw[Array.toList_map,pairsOf_toList,List.map_snd_zip (Nat.le_refl _)]
  rw[Ji];refine wpAny_bind (listUpdate_at NF rfl ?_ (Nat.zero_le _) (by rw[hz,sizeLine_eq];lia));simp only[bne_self_eq_false,Bool.false_eq_true,if_false];have:=q (List.toArray (List.range vs.length)) ⟨by simp,λi hi=>by simp[Array.getD,hi],Array.Perm.refl _⟩ (λi j xU hj=>by obtain rfl:j=i:=(by lia);exact S.ord.refl (by simp[Array.getD,hj]))
  rw[By]at this;exact wpAny_pure this
 rw[if_neg h2,if_neg h2];have MA:2<=vs.length:=by lia
 refine wpAny_bind (S.kind _ E _ gr MA ?_);have SV:SortSt.mk' κ (vs.toArray.zip vs.toArray) #[] 7 none=kas_st κ (pairsOf vs) (List.toArray (List.range vs.length)):=by have e:=kas_range (pairsOf vs);rw[pairsOf_size]at e;show SortSt.mk' κ (pairsOf vs) #[] 7 none=SortSt.mk' κ _ #[] 7 none;rw[e]
 have run:=kas_runs (prog:=prog) (w:=w) (A:=A) (E:=E) (κ:=κ) (it:=pairsOf vs) (s:={ s with heap:=((s.heap.update a (Obj.mapSeq λ_=>#[])).push (seqObj "tuple" vs.toArray 0)).push (seqObj "list" #[] 0) })
  (Q:=λ_ oR s'=>s'={ s with heap:=((s.heap.update a (Obj.mapSeq λ_=>#[])).push (seqObj "tuple" vs.toArray 0)).push (seqObj "list" #[] 0) }/\∃p,lM vs.length p/\yf lt p vs.length/\arrOf oR=p.map (kas_item (pairsOf vs))/\failedOf oR=none)
  (G:=λp s'=>s'={ s with heap:=((s.heap.update a (Obj.mapSeq λ_=>#[])).push (seqObj "tuple" vs.toArray 0)).push (seqObj "list" #[] 0) }/\lM vs.length p/\yf lt p vs.length)
  MA E8 (λp' oR s' _ a2 a3 a4=>⟨a4.1,p',a4.2.1,a4.2.2,a2,a3⟩) (GC (λi j C hi hj hC=>by rw[<-kas_ask_eq];exact S.cmp _ i j C gr hi hj hC) S.ord (by lia) λp hp ap=>⟨rfl,hp,ap⟩)
 rw[<-SV]at run;refine wpAny_bind (wpAny_mono run ?_ λ_ _ e=>e);rintro⟨⟨⟩,oR⟩ s' ⟨rfl,p,hp,ap,SW,hf⟩;dsimp only;have Ji:(arrOf oR).map (·.2)=(dS vs p).toArray:=by apply Array.toList_inj.mp;rw[SW,Array.map_map,Array.toList_map];exact List.map_congr_left λi _=>by show(kas_item (pairsOf vs) i).2=_;rw[kas_item_eq]
 have hsz:(dS vs p).toArray.size=vs.length:=by unfold dS;rw[List.size_toArray,List.length_map,Array.length_toList,hp.sz]
 rw[Ji];refine wpAny_bind (seqEpoch_at NF rfl ?_);refine wpAny_bind (listUpdate_at NF rfl ?_ (Nat.zero_le _) (Nat.le_trans (Nat.le_of_eq hsz) (by rw[sizeLine_eq];lia)));rw[hf];simp only[bne_self_eq_false,Bool.false_eq_true,if_false];exact wpAny_pure (q p hp ap)
theorem Bz{x:Value}{vs:List Value}{κ:SortKind}{lt:Nat->Nat->Bool}{Q:Value->Shared->Prop}(E8:vs.length<64)(col:∀R:List Value->Shared->Prop,(∀(h':Heap)(tk:Tok),Grows s.heap h'->s.heap.objs.size<=h'.objs.size->R vs { s with heap:=h',toks:=tk })->wpAny (model prog w) A.in1 (collect x) R E s)(S:mE prog w A.in1.in1 s.heap vs lt κ)(q:∀(p:Array Nat)(h':Heap)(tk:Tok)(e:Nat)(l:Addr),lM vs.length p->yf lt p vs.length->Grows s.heap h'->s.heap.objs.size<=l->h'.get? l=some (seqObj "list" (dS vs p).toArray e)->Q (.ref l) { s with heap:=h',toks:=tk }):
  wpAny (model prog w) A (call (.builtin "sorted") [x]) Q E s:=by
 refine Calls.call_function_entry kind_sorted plain_sorted entry_sorted (args_sorted1 _) ?_;unfold Builtin.«sorted»;refine wpAny_bind (m:=checkCount "sorted" 1 1 _) (wpAny_pure ?_);refine wpAny_bind (col _ λh' tk g hz=>?_);refine wpAny_bind (wpAny_newList ?_ (by rw[sizeLine_eq];lia));have BP:(h'.push (seqObj "list" vs.toArray 0)).get? h'.objs.size=some (seqObj "list" vs.toArray 0):=Heap.get?_push_size _ rfl;show wpAny _ _ _ _ _ { s with heap:=h'.push (seqObj "list" vs.toArray 0),toks:=tk };refine wpAny_bind (wpAny_holding (wpAny_call_entry slot_list_sort ⟨_,BP,rfl⟩ entry_list_sort (i4 (h:=s.heap) BP (λb o e=>⟨λz=>absurd (Heap.lt_size e) (by rw[z];exact Nat.not_lt.mpr hz),Heap.get?_push_of_some _ (g b o e)⟩) S E8 λp hp ap=>⟨_,rfl,?_⟩) (args_list_sort _)))
 obtain⟨e,he⟩:∃e,(sortedHeap (h'.push (seqObj "list" vs.toArray 0)) h'.objs.size vs (dS vs p).toArray).get? h'.objs.size=some (seqObj "list" (dS vs p).toArray e):=by unfold sortedHeap;obtain⟨e1,z1⟩:∃e1,((h'.push (seqObj "list" vs.toArray 0)).update h'.objs.size (Obj.mapSeq λ_=>#[])).get? h'.objs.size=some (seqObj "list" #[] e1):=⟨_,get?_update_seq BP (λ_=>#[])⟩;exact⟨_,get?_update_seq (Heap.get?_push_of_some _ (Heap.get?_push_of_some _ z1)) _⟩
 refine wpAny_pure ⟨_,rfl,q p _ tk e _ hp ap (λb o z=>?_) hz he⟩;have nb:b≠h'.objs.size:=λy=>absurd (Heap.lt_size z) (by rw[y];exact Nat.not_lt.mpr hz);unfold sortedHeap;rw[(Heap.SameBut.update _ h'.objs.size (Obj.mapSeq λ_=>(dS vs p).toArray)).2 b nb];refine Heap.get?_push_of_some _ (Heap.get?_push_of_some _ ?_);rw[(Heap.SameBut.update _ h'.objs.size (Obj.mapSeq λ_=>(#[]:Array Value))).2 b nb];exact Heap.get?_push_of_some _ (g b o z)
end
section
open PySem.W
variable{prog:Program}{w:World}{A:Around}{E:Value->Shared->Prop}{s:Shared}
theorem xW{T:String}{l:Addr}{o:Obj}{vs:List Value}{n:Nat}{Q:List Value->Shared->Prop}(ho:s.heap.get? l=some o)(hc:o.cls=.type T)(hT:T="list"\/T="tuple")(hd:o.data=.seq vs.toArray n)(hz:vs.length<=sizeLine)(q:Q vs { s with heap:=(s.heap.push (seqObj "list" #[] 0)).update s.heap.objs.size (Obj.mapSeq (·++vs.toArray)) }):wpAny (model prog w) A (collect (.ref l)) Q E s:=by
 unfold collect;refine wpAny_bind (wpAny_runValue (codeAny_builtin entry_proto_collect' ?_));show wpAny _ _ (do again (.builtin "list.__iadd__" ⟨[<-newList [],.ref l],[]⟩)) _ _ s
 refine wpAny_bind (wpAny_newList (wpAny_pure ⟨Code.quiet_builtin _ (by decide +kernel),codeAny_builtin entry_list_iadd' ?_⟩));show wpAny _ _ (Builtin.List.listExtendWith (.ref s.heap.objs.size) (.ref l) (.ref s.heap.objs.size)) _ _ { s with heap:=s.heap.push (seqObj "list" #[] 0) };unfold Builtin.List.listExtendWith;have hp:(s.heap.push (seqObj "list" #[] 0)).get? l=some o:=Heap.get?_push_of_some _ ho;have hn:(s.heap.push (seqObj "list" #[] 0)).get? s.heap.objs.size=some (seqObj "list" #[] 0):=Heap.get?_push_size _ rfl;refine wpAny_bind (wpAny_typeOf (T:=T) ⟨o,hp,hc⟩ ?_);rw[if_pos (by rcases hT with rfl|rfl<;>simp[show(Value.type "list"==Value.type "list")=true from rfl,show(Value.type "tuple"==Value.type "tuple")=true from rfl])];refine wpAny_bind (listItems_at hp hd (wpAny_bind (listItems_at hn rfl ?_)));rw[if_neg (by simp)];refine wpAny_bind (listUpdate_at hn rfl ?_ (Nat.zero_le _) (by show(#[]++vs.toArray).size<=sizeLine+1;rw[Array.size_append,List.size_toArray];simp;lia));refine wpAny_pure ?_;show wpAny (model prog w) A (do
   let o <- load s.heap.objs.size
   match o.data with
   |.seq xs _=>pure xs.toList
   |_=>unsupported "internal:collect") Q E { s with heap:=(s.heap.push (seqObj "list" #[] 0)).update s.heap.objs.size (Obj.mapSeq (·++vs.toArray)) }
 refine wpAny_bind (wpAny_load (get?_update_seq hn _) ?_);show wpAny _ _ (pure ((#[]:Array Value)++vs.toArray).toList) Q E _;rw[show((#[]:Array Value)++vs.toArray).toList=vs by simp];exact wpAny_pure q
end
inductive Hl(ds:List PyData):Prop where
 |ints (h:∀d∈ds,∃i,d=.int i)
 |strs (h:∀d∈ds,∃x,d=.str x)
 |rows (h:∀d∈ds,∃i r,d=.tuple (.int i::r))
structure sX(ds:List PyData):Prop where
 kd:Hl ds
 ok:∀d∈ds,∀e∈ds,uR d e=true
 jo:∀d∈ds,∀e∈ds,bN d e=true->bN e d=false
 qd:∀d∈ds,∀e∈ds,∀f∈ds,bN e d=false->bN f e=false->bN f d=false
theorem getD_mem{α:Type}{l:List α}{i:Nat}{z:α}(h:i<l.length):l.getD i z∈l:=by rw[List.getD_eq_getElem?_getD,List.getElem?_eq_getElem h];exact List.getElem_mem h
section
open PySem.W
variable{prog:Program}{w:World}{A:Around}
theorem pV{s:Shared}{C:Bool->Shared->Prop}{xs ys:List PyData}{z:Bool}:∀(us vs:List Value)(i j:Nat)(hl:us.length+j=xs.length)(hm:vs.length+j=ys.length)(xU:j=i)(_:∀(k:Nat) (h1:k<us.length) (h2:k<vs.length),SeqAt.EqAt A s us[k] vs[k] (SeqAt.pairEq xs ys (k+j)))(_:∀(k:Nat) (h1:k<us.length) (h2:k<vs.length),SeqAt.pairEq xs ys (k+j)=false->∀Q:Bool->Shared->Prop,Q (ku xs ys (k+j)) s->wpAny (model prog w) A (oneLt' (true&&(k+j==0)) us[k] vs[k]) Q (λ_ _=>False) s)(_:C (i3 (SeqAt.pairEq xs ys) (ku xs ys) z ((List.range (min us.length vs.length)).map (·+j))) s),KatLex prog w A true z C (us.zip vs) i s
 |[],vs,i,j,hl,hm,xU,he,hg,q=>by simpa[i3,KatLex]using q
 |_::_,[],i,j,hl,hm,xU,he,hg,q=>by simpa[i3,KatLex]using q
 |u::us,v::vs,i,j,hl,hm,xU,he,hg,q=>by
  subst xU;rw[List.zip_cons_cons];refine kat_cons (he 0 (Nat.zero_lt_succ _) (Nat.zero_lt_succ _) prog w _ _ ?_);have e:min (u::us).length (v::vs).length=min us.length vs.length+1:=by simp only[List.length_cons];lia
  rw[e,List.range_succ_eq_map,List.map_cons,i3]at q;refine kat_go (λc=>kat_yes ?_) (λc=>kat_no ?_)
  ·rw[if_pos c]at q;refine pV (xs:=xs) (ys:=ys) us vs (j+1) (j+1) (by simp at hl;lia) (by simp at hm;lia) rfl (λk h1 h2=>?_) (λk h1 h2 c2 Q hQ=>?_) ?_
   ·have:=he (k+1) (Nat.succ_lt_succ h1) (Nat.succ_lt_succ h2);rw[show k+1+j=k+(j+1) by lia]at this;exact this
   ·have:=hg (k+1) (Nat.succ_lt_succ h1) (Nat.succ_lt_succ h2);rw[show k+1+j=k+(j+1) by lia]at this;exact this c2 Q hQ
   rw[List.map_map]at q;have e2:((λx=>x+j)∘Nat.succ)=λx=>x+(j+1):=(by funext x;show x+1+j=x+(j+1);lia);rw[e2]at q;exact q
  rw[if_neg (by rw[c];decide)]at q;have:=hg 0 (Nat.zero_lt_succ _) (Nat.zero_lt_succ _) c C q;rw[Nat.zero_add]at this;exact this
theorem Dv{s:Shared}{p q:Value}{b:Bool}{Q:Bool->Shared->Prop}{E:Value->Shared->Prop}(h:fN A s p q b)(k:Q b s):wpAny (model prog w) A (oneLt' false p q) Q E s:=by rw[oneLt'_eq];simp only[Bool.false_eq_true,if_false];exact wpAny_bind (h prog w _ _ (wpAny_truthy_bool k))
theorem j7{h:Heap}{vs:List Value}{ds:List PyData}(hl:vs.length=ds.length)(hr:∀(j:Nat)(hj:j<vs.length),∃as,Reads h vs[j] (ds.getD j .none) as)(hy:∀d∈ds,d.canLay0=true)(hp:∀d∈ds,d.depth<=8)(O:sX ds)(hu:A.units+12<cLine):∃κ,mE prog w A h vs (λi j=>bN (ds.getD i .none) (ds.getD j .none)) κ:=by
 have ord:Ord vs.length (λi j=>bN (ds.getD i .none) (ds.getD j .none)):=⟨λx y hx SY=>O.jo _ (getD_mem (by lia)) _ (getD_mem (by lia)),λx y z hx SY hz=>O.qd _ (getD_mem (by lia)) _ (getD_mem (by lia)) _ (getD_mem (by lia))⟩;have gv:∀(i:Nat)(hi:i<vs.length),vs.getD i Value.none=vs[i]:=λi hi=>by simp[hi]
 rcases O.kd with hk|hk|hk
 ·refine⟨oneType',ord,λs' E Q g h2 q=>kas_kind (T:=Value.type "int") h2 (λv hv=>?_) (by decide) (by decide) q,λs' i j C g hi hj q=>?_⟩
  ·obtain⟨j,hj,rfl⟩:=List.getElem_of_mem hv;obtain⟨as,r⟩:=hr j hj;obtain⟨k,e⟩:=hk _ (getD_mem (i:=j) (z:=.none) (by lia));rw[e]at r;cases r1:vs[j]<;>rw[r1]at r<;>cases r;exact Looks.of_pure rfl
  rw[gv i hi,gv j hj];obtain⟨as,r⟩:=hr i hi;obtain⟨bs,t⟩:=hr j hj;obtain⟨k,e⟩:=hk _ (getD_mem (i:=i) (z:=.none) (by lia));obtain⟨m,f⟩:=hk _ (getD_mem (i:=j) (z:=.none) (by lia));rw[e]at r;rw[f]at t;simp only[e,f,bN]at q;generalize vs[i]=u1 at r ⊢;generalize vs[j]=u2 at t ⊢;cases r;cases t;exact kat_lt_int q
 ·refine⟨oneType',ord,λs' E Q g h2 q=>kas_kind (T:=Value.type "str") h2 (λv hv=>?_) (by decide) (by decide) q,λs' i j C g hi hj q=>?_⟩
  ·obtain⟨j,hj,rfl⟩:=List.getElem_of_mem hv;obtain⟨as,r⟩:=hr j hj;obtain⟨k,e⟩:=hk _ (getD_mem (i:=j) (z:=.none) (by lia));rw[e]at r;cases r1:vs[j]<;>rw[r1]at r<;>cases r;exact Looks.of_pure rfl
  rw[gv i hi,gv j hj];obtain⟨as,r⟩:=hr i hi;obtain⟨bs,t⟩:=hr j hj;obtain⟨k,e⟩:=hk _ (getD_mem (i:=i) (z:=.none) (by lia));obtain⟨m,f⟩:=hk _ (getD_mem (i:=j) (z:=.none) (by lia));rw[e]at r;rw[f]at t;simp only[e,f,bN]at q;generalize vs[i]=u1 at r ⊢;generalize vs[j]=u2 at t ⊢;cases r;cases t;exact kas_lt_str q
 have tup:∀(j:Nat)(hj:j<vs.length),∃(a:Addr)(o:Obj)(xs:Array Value)(n:Nat)(k:Int)(t:Tok)(r:List PyData)(as:List Addr),vs[j]=.ref a/\h.get? a=some o/\o.cls=.type "tuple"/\o.data=.seq xs n/\ds.getD j .none=.tuple (.int k::r)/\ReadsAll h xs.toList (.int k::r) as/\xs[0]?=some (.int k t):=by
  intro j hj;obtain⟨as,r⟩:=hr j hj;obtain⟨k,rr,e⟩:=hk _ (getD_mem (i:=j) (z:=.none) (by lia));rw[e]at r;generalize hv:vs[j]=u1 at r;cases r with
  |@tuple a o xs n _ _ h1 h2 h3 h4 =>
   have h0:∃t,xs[0]?=some (.int k t):=by
    generalize hx:xs.toList=l at h4;cases h4 with
    |cons r1 r2 =>
     cases r1 with
     |int _ t=>exact⟨t,by rw[<-Array.getElem?_toList,hx];rfl⟩
   obtain⟨t,ht⟩:=h0;exact⟨a,o,xs,n,k,t,rr,_,rfl,h1,h2,h3,e,h4,ht⟩
 have Jj:∀(l:List Value)(_:∀v∈l,∃(a:Addr) (o:Obj) (xs:Array Value) (n:Nat) (k:Int) (t:Tok),v=.ref a/\h.get? a=some o/\o.cls=.type "tuple"/\o.data=.seq xs n/\xs[0]?=some (.int k t))(h':Heap),Grows h h'->∃fs,KatTups h' l fs/\fs.length=l.length/\∀f∈fs,∃k t,f=Value.int k t:=by
  intro l
  induction l with
  |nil=>intro _ h' _;exact⟨[],trivial,rfl,λf hf=>absurd hf (by simp)⟩
  |cons v l ih =>
   intro hv h' g;obtain⟨fs,k1,k2,k3⟩:=ih (λv jv=>hv v (List.mem_cons_of_mem _ jv)) h' g;obtain⟨a,o,xs,n,k,t,rfl,h1,h2,h3,h4⟩:=hv v List.mem_cons_self;exact⟨.int k t::fs,.cons (g a o h1) h2 h3 h4 k1,by simp[k2],λf hf=>(List.mem_cons.mp hf).elim (λe=>⟨k,t,e⟩) (k3 f)⟩
 refine⟨tuples' (Value.type "int" != Value.type "tuple"),ord,λs' E Q g h2 q=>?_,λs' i j C g hi hj q=>?_⟩
 ·obtain⟨fs,k1,k2,k3⟩:=Jj vs (λv hv=>by obtain⟨j,hj,rfl⟩:=List.getElem_of_mem hv;obtain⟨a,o,xs,n,k,t,r,as,e1,e2,e3,e4,e5,e6,e7⟩:=tup j hj;exact⟨a,o,xs,n,k,t,e1,e2,e3,e4,e7⟩) s'.heap g
  exact kat_kind (T:=Value.type "int") k1 (by lia) (λv hv=>by obtain⟨k,t,rfl⟩:=k3 v hv;exact Looks.of_pure rfl) (by decide) q
 rw[gv i hi,gv j hj];obtain⟨a,o,xs,n,k,t,r,as,e1,e2,e3,e4,e5,e6,e7⟩:=tup i hi;obtain⟨a',o',Kh,n',k',t',r',Ud,f1,f2,f3,f4,f5,f6,f7⟩:=tup j hj;have mi:=getD_mem (l:=ds) (i:=i) (z:=.none) (by lia);have mj:=getD_mem (l:=ds) (i:=j) (z:=.none) (by lia);have di:=hp _ mi;have dj:=hp _ mj;have yi:=hy _ mi;have yj:=hy _ mj;have ho:=O.ok _ mi _ mj;rw[e5]at di yi;rw[f5]at dj yj;rw[e5,f5]at ho;simp only[e5,f5]at q;have di:PyData.depthAll (.int k::r)<=7:=Nat.le_of_succ_le_succ di;have dj:PyData.depthAll (.int k'::r')<=7:=Nat.le_of_succ_le_succ dj;have yi:PyData.canLayAll0 (.int k::r)=true:=yi;have yj:PyData.canLayAll0 (.int k'::r')=true:=yj;have ho:vJ (.int k::r) (.int k'::r')=true:=by simpa[uR]using ho
 rw[e1,f1];have g6:=ReadsAll.keeps g e6;have Qf:=ReadsAll.keeps g f6;have l1:=iN e6;have l2:=iN f6;refine kat_lt (g a o e2) e4 (g a' o' f2) f4 ?_;have sz:decide (xs.size<Kh.size)=decide ((PyData.int k::r).length<(PyData.int k'::r').length):=by rw[<-l1,<-l2];simp
 rw[sz];refine pV (xs:=.int k::r) (ys:=.int k'::r') xs.toList Kh.toList 0 0 (by lia) (by lia) rfl (λm h1 h2=>?_) (λm h1 h2 c Q hQ=>?_) ?_
 ·exact SeqAt.eqAt_readsAll _ _ A s' xs.toList Kh.toList _ _ g6 Qf yi yj (by lia) m h1 h2
 ·by_cases hm:m=0
  ·subst hm;have z1:xs.toList[0]=.int k t:=by have:xs.toList[0]?=some (.int k t):=(by rw[Array.getElem?_toList];exact e7);rw[List.getElem?_eq_getElem h1]at this;exact Option.some.inj this
   have z2:Kh.toList[0]=.int k' t':=by have:Kh.toList[0]?=some (.int k' t'):=(by rw[Array.getElem?_toList];exact f7);rw[List.getElem?_eq_getElem h2]at this;exact Option.some.inj this
   rw[z1,z2];exact oneLt_int (by simpa[ku,bN]using hQ)
  have eb:(true&&(m+0==0))=false:=by simp[hm]
  rw[eb];obtain⟨O6,q1⟩:=d8 g6 m h1;obtain⟨O7,q2⟩:=d8 Qf m h2;exact Dv (Ds 7 _ _ A s' _ _ O6 O7 (Nat.le_trans (zS _ m (by lia)) di) q1 q2 (rG _ yi m (by lia)) (rG _ yj m (by lia)) (vL _ _ ho m (by lia) (by lia)) (by lia)) hQ
 have e0:((List.range (min xs.toList.length Kh.toList.length)).map (·+0))=List.range (min (PyData.int k::r).length (PyData.int k'::r').length):=by rw[l1,l2];simp
 rw[e0,vK]
 simpa[bN]using q
end
section
variable{α:Type}
theorem j8{n:Nat}{p:Array Nat}{lt:Nat->Nat->Bool}(h:lM n p)(a:yf lt p n)(l:List α)(hl:l.length=n)(z:α)(R:α->α->Prop)(hR:∀i j,i<n->j<n->lt j i=false->R (l.getD i z) (l.getD j z)):
  (p.toList.map λi=>l.getD i z).Perm l/\(p.toList.map λi=>l.getD i z).Pairwise R:=by
 constructor
 ·have e:(List.range n).map (λi=>l.getD i z)=l:=by refine List.ext_getElem (by simp[hl]) λi h1 h2=>?_;simp[h2]
  have:=(Array.perm_iff_toList_perm.mp h.pm).map (λi=>l.getD i z);rw[show(List.toArray (List.range n)).toList=List.range n from rfl,e]at this;exact this
 rw[List.pairwise_map,List.pairwise_iff_getElem];intro i j hi hj xU;have hz:p.toList.length=n:=by rw[Array.length_toList,h.sz]
 have gi:p.toList[i]=p.getD i 0:=by simp[Array.getD,show i<p.size by rw[h.sz];lia]
 have gj:p.toList[j]=p.getD j 0:=by simp[Array.getD,show j<p.size by rw[h.sz];lia]
 rw[gi,gj];exact hR _ _ (h.lo i (by lia)) (h.lo j (by lia)) (a i j (by lia) (by lia))
end
def O8(K:PySem.W.Frag):List V->Hp->VK->Prop:=λxs H Q=>∃(b:Bool)(p:Addr)(zs:List (V×PyData)),xs=[.ref p]/\yd b K H p (zs.map (·.1))/\zs.length<64/\(∀z∈zs,ae K H 8 z.1 z.2)/\sX (zs.map (·.2)) /\
 ∀(ys:List (V×PyData))(q:Addr),ys.Perm zs->ys.Pairwise (λx y=>bN y.2 x.2=false)->H q=none->Q (.ref q) (upd H q (.lst (ys.map (·.1))))
theorem aW.pick{xs:List V}{us:List Value}(r:aW xs us):∀(l:List Nat),(∀i∈l,i<xs.length)->aW (l.map λi=>xs.getD i .ba) (l.map λi=>us.getD i Value.none)
 |[],_=>.nil
 |i::l,h=>by
  have hi:=h i List.mem_cons_self;obtain⟨u,h1,h2⟩:=r.get (List.getElem?_eq_getElem hi);refine .cons ?_ (aW.pick r l λj hj=>h j (List.mem_cons_of_mem _ hj));have e1:xs.getD i .ba=xs[i]:=by simp[hi]
  have e2:us.getD i Value.none=u:=by rw[List.getD_eq_getElem?_getD,h1];rfl
  show RelV (xs.getD i .ba) (us.getD i Value.none);rw[e1,e2];exact h2
theorem gL{X:Cx}(K:PySem.W.Frag)(hu:X.A.units+16<cLine)(hK:X.K=K:=by rfl):bY X (.builtin "sorted") (O8 K):=by
 subst hK;intro pins s σ H xs us Q I r h;obtain⟨b,p,zs,rfl,hq,E8,hd,O,q⟩:=h;obtain⟨u,rfl,rx⟩:=vals1 r;cases rx;obtain⟨T,o,aM,n,hT,ho,hc,F3,r1⟩:∃(T:String)(o:Obj)(aM:List Value)(n:Nat),(T="list"\/T="tuple")/\s.heap.get? p=some o/\o.cls=.type T/\o.data=.seq aM.toArray n/\aW (zs.map (·.1)) aM:=by
  rcases hq.or with hq|hq
  ·obtain⟨aM,r1,⟨o,n,ho,hc,_,hd⟩,_⟩:=I.list hq;exact⟨"list",o,aM,n,.inl rfl,ho,hc,hd,r1⟩
  obtain⟨aM,r1,⟨o,ho,hc,n,hd⟩,_⟩:=I.tuple hq;exact⟨"tuple",o,aM,n,.inr rfl,ho,hc,hd,r1⟩
 have hlen:aM.length=zs.length:=by rw[<-r1.length,List.length_map]
 obtain⟨κ,S⟩:=j7 (prog:=X.prog) (w:=X.w) (A:=X.A.in1.in1) (h:=s.heap) (vs:=aM) (ds:=zs.map (·.2)) (by rw[hlen,List.length_map]) (λj hj=>by obtain⟨x,h1,h2⟩:=r1.back (List.getElem?_eq_getElem hj);have hz:j<zs.length:=(by lia);have e1:x=zs[j].1:=(by simpa[hz]using h1.symm);have e2:(zs.map (·.2)).getD j .none=zs[j].2:=(by simp[hz]);rw[e2];exact(e1▸hd _ (List.getElem_mem hz)).reads I h2)
  (λd qP=>by obtain⟨z,hz,rfl⟩:=List.mem_map.mp qP;exact(hd z hz).lay) (λd qP=>by obtain⟨z,hz,rfl⟩:=List.mem_map.mp qP;exact(hd z hz).O5) O (by show X.A.units+1+1+12<cLine;lia)
 refine Bz (by lia) (λR k=>xW ho hc hT F3 (by rw[sizeLine_eq];lia) (k _ s.toks (λb o e=>?_) ?_)) S λpm h' tk e l hp ap g hz hl=>?_
 ·have nb:b≠s.heap.objs.size:=λy=>absurd (Heap.lt_size e) (by rw[y];exact Nat.lt_irrefl _);rw[(Heap.SameBut.update _ s.heap.objs.size (Obj.mapSeq (·++aM.toArray))).2 b nb];exact Heap.get?_push_of_some _ e
 ·rw[Heap.size_update,size_push'];exact Nat.le_succ _
 obtain⟨z1,z2⟩:=j8 hp ap zs hlen.symm (V.ba,PyData.none) (λx y=>bN y.2 x.2=false) (λi j hi hj h0=>by
  have sP:i<zs.length:=by lia
  have Fz:j<zs.length:=by lia
  simpa[sP,Fz]using h0)
 have ev:(pm.toList.map λi=>(zs.map (·.1)).getD i V.ba)=(pm.toList.map λi=>zs.getD i (V.ba,PyData.none)).map (·.1):=by
  rw[List.map_map];refine List.map_congr_left λi hi=>?_;show _=(zs.getD i (V.ba,PyData.none)).1;by_cases hz:i<zs.length
  ·simp[hz]
  simp[Nat.le_of_not_lt hz]
 have yZ:∀i∈pm.toList,i<(zs.map (·.1)).length:=by
  intro i hi;have:=(Array.perm_iff_toList_perm.mp hp.pm).mem_iff.mp hi;have:i<aM.length:=by simpa using this
  rw[List.length_map];lia
 have rv:=r1.pick pm.toList yZ;rw[ev]at rv;refine⟨.ref l,_,I.laid (t':=tk) (o:=.lst ((pm.toList.map λi=>zs.getD i (V.ba,PyData.none)).map (·.1))) (λb o eb=>g b o eb) hz ⟨by rw[List.length_map,List.length_map,Array.length_toList,hp.sz,sizeLine_eq];lia,_,e,rv,hl⟩,rfl,q _ _ z1 z2 (I.aq.fresh hz)⟩
section
variable{X:Cx}
def O9:R2:=λx y H Q=>∃a b:Str,x=.str a/\y=.str b/\Q (.bl (!decide (b.cps.toList<a.cps.toList))) H
theorem Dw:ij X (compareOp .LtE) O9:=by intro pins s σ H x y v u Q I rx ry h;obtain⟨a,b,rfl,rfl,q⟩:=h;obtain⟨t,rfl⟩:=(show ∃t,v=Value.str a t from rx);obtain⟨t2,rfl⟩:=(show ∃t,u=Value.str b t from ry);exact P.le_str ⟨.bl _,H,I,rfl,q⟩
end
section
open PySem.W
variable{prog:Program}{w:World}{A:Around}{E:Value->Shared->Prop}{s:Shared}{T:String}{r d:Addr}{n:Nat}{P:Nat->Value->Prop}{OK:Heap->Prop}
theorem xX{R:List Value->Shared->Prop}(K:KdlSrc prog w T r d n P OK)(hh:A.handled=none)(aq:OK s.heap)(hn:n<=sizeLine)(q:∀(g:Heap)(tk:Nat)(acc:Array Value),Grows s.heap g->s.heap.objs.size<=g.objs.size->ItemsOf P acc n->R acc.toList { s with heap:=g,toks:=tk }):wpAny (model prog w) A (collect (.ref r)) R E s:=by
 have lt:=K.there _ aq;unfold collect;refine wpAny_bind (wpAny_runValue (codeAny_builtin entry_proto_collect' ?_));rw[Around.under_plainId PySem.F.plain_proto_collect _];show wpAny _ A.in1 (newList [] >>= λx=>again (.builtin "list.__iadd__" ⟨[x,.ref r],[]⟩)) _ _ s;refine wpAny_bind (wpAny_newObj_type (wpAny_pure ⟨plainId_quiet PySem.F.plain_list_iadd _,codeAny_builtin entry_list_iadd' ?_⟩));rw[Around.under_plainId PySem.F.plain_list_iadd _];have e1:(s.heap.push { cls:=.type "list",data:=.seq ([]:List Value).toArray }).get? s.heap.objs.size=some { cls:=.type "list",data:=.seq #[] }:=Heap.get?_push_size _ rfl;show wpAny _ A.in1 (Builtin.List.listExtendWith (.ref s.heap.objs.size) (.ref r) (.ref s.heap.objs.size)) _ _ _;have z:=kdl_extend (A:=A) (s:={ s with heap:=s.heap.push { cls:=.type "list",data:=.seq ([]:List Value).toArray } })
  (R:=λ(f:Result)(t:Shared)=>∃(g:Heap)(tk:Nat)(acc:Array Value)(c:Nat),f=.ok (.ret (.ref s.heap.objs.size))/\t={ s with heap:=g,toks:=tk }/\Grows s.heap g/\g.get? s.heap.objs.size=some { cls:=.type "list",dict:=none,data:=.seq acc c,slots:=#[] }/\ItemsOf P acc n)
  K hh (K.keep _ _ aq λb _ o e=>Heap.get?_push_of_some _ e) s.heap.objs.size (Nat.ne_of_gt lt.1) (Nat.ne_of_gt lt.2) (.ref s.heap.objs.size) 0 e1
  (λg tk acc c hk hS ha=>⟨g,tk,acc,c,rfl,rfl,λb o e=>hk b o (Nat.ne_of_lt (Heap.lt_size e)) (Heap.get?_push_of_some _ e),hS,ha⟩) hn
 refine wpAny_mono z (λfin t x=>?_) λe t x=>?_
 ·cases fin with
  |done f =>
   obtain⟨g,tk,acc,c,e,rfl,hk,hS,ha⟩:=x;cases e;show wpAny _ A (load s.heap.objs.size >>= _) _ _ _;exact wpAny_bind (wpAny_load hS (wpAny_pure (q g tk acc hk (Nat.le_of_lt (Heap.lt_size hS)) ha)))
  |again c₁ =>
   refine⟨x.1,codeAny_mono x.2 λf t2 y=>?_⟩;obtain⟨g,tk,acc,c,rfl,rfl,hk,hS,ha⟩:=y;show wpAny _ A (load s.heap.objs.size >>= _) _ _ _;exact wpAny_bind (wpAny_load hS (wpAny_pure (q g tk acc hk (Nat.le_of_lt (Heap.lt_size hS)) ha)))
 obtain⟨_,_,_,_,y,_⟩:=x;cases y
theorem zV{x:Value}{lt:Nat->Nat->Bool}{Q:Value->Shared->Prop}(G:List Value->Prop)(E8:∀vs,G vs->vs.length<64)(col:∀R:List Value->Shared->Prop,(∀(vs:List Value)(h':Heap)(tk:Tok),G vs->Grows s.heap h'->s.heap.objs.size<=h'.objs.size->R vs { s with heap:=h',toks:=tk })->wpAny (model prog w) A.in1 (collect x) R E s)(S:∀vs,G vs->∃κ,mE prog w A.in1.in1 s.heap vs lt κ)(q:∀(vs:List Value)(p:Array Nat)(h':Heap)(tk:Tok)(e:Nat)(l:Addr),G vs->lM vs.length p->yf lt p vs.length->Grows s.heap h'->s.heap.objs.size<=l->h'.get? l=some (seqObj "list" (dS vs p).toArray e)->Q (.ref l) { s with heap:=h',toks:=tk }):
  wpAny (model prog w) A (call (.builtin "sorted") [x]) Q E s:=by
 refine Calls.call_function_entry kind_sorted plain_sorted entry_sorted (args_sorted1 _) ?_;unfold Builtin.«sorted»;refine wpAny_bind (m:=checkCount "sorted" 1 1 _) (wpAny_pure ?_);refine wpAny_bind (col _ λvs h' tk hG g hz=>?_);have hv:=E8 vs hG;obtain⟨κ,S⟩:=S vs hG;refine wpAny_bind (wpAny_newList ?_ (by rw[sizeLine_eq];lia));have BP:(h'.push (seqObj "list" vs.toArray 0)).get? h'.objs.size=some (seqObj "list" vs.toArray 0):=Heap.get?_push_size _ rfl;show wpAny _ _ _ _ _ { s with heap:=h'.push (seqObj "list" vs.toArray 0),toks:=tk };refine wpAny_bind (wpAny_holding (wpAny_call_entry slot_list_sort ⟨_,BP,rfl⟩ entry_list_sort (i4 (h:=s.heap) BP (λb o e=>⟨λz=>absurd (Heap.lt_size e) (by rw[z];exact Nat.not_lt.mpr hz),Heap.get?_push_of_some _ (g b o e)⟩) S hv λp hp ap=>⟨_,rfl,?_⟩) (args_list_sort _)))
 obtain⟨e,he⟩:∃e,(sortedHeap (h'.push (seqObj "list" vs.toArray 0)) h'.objs.size vs (dS vs p).toArray).get? h'.objs.size=some (seqObj "list" (dS vs p).toArray e):=by unfold sortedHeap;obtain⟨e1,z1⟩:∃e1,((h'.push (seqObj "list" vs.toArray 0)).update h'.objs.size (Obj.mapSeq λ_=>#[])).get? h'.objs.size=some (seqObj "list" #[] e1):=⟨_,get?_update_seq BP (λ_=>#[])⟩;exact⟨_,get?_update_seq (Heap.get?_push_of_some _ (Heap.get?_push_of_some _ z1)) _⟩
 refine wpAny_pure ⟨_,rfl,q vs p _ tk e _ hG hp ap (λb o z=>?_) hz he⟩;have nb:b≠h'.objs.size:=λy=>absurd (Heap.lt_size z) (by rw[y];exact Nat.not_lt.mpr hz);unfold sortedHeap;rw[(Heap.SameBut.update _ h'.objs.size (Obj.mapSeq λ_=>(dS vs p).toArray)).2 b nb];refine Heap.get?_push_of_some _ (Heap.get?_push_of_some _ ?_);rw[(Heap.SameBut.update _ h'.objs.size (Obj.mapSeq λ_=>(#[]:Array Value))).2 b nb];exact Heap.get?_push_of_some _ (g b o z)
end
theorem A1(ns:List Int):sX (ns.map PyData.int)where
 kd:=.ints λd hd=>by obtain⟨n,_,rfl⟩:=List.mem_map.mp hd;exact⟨n,rfl⟩
 ok:=λd hd e he=>by obtain⟨n,_,rfl⟩:=List.mem_map.mp hd;obtain⟨m,_,rfl⟩:=List.mem_map.mp he;simp[uR]
 jo:=λd hd e he h=>by obtain⟨n,_,rfl⟩:=List.mem_map.mp hd;obtain⟨m,_,rfl⟩:=List.mem_map.mp he;simp only[bN,decide_eq_true_eq,decide_eq_false_iff_not]at h ⊢;lia
 qd:=λd hd e he f hf h1 h2=>by obtain⟨n,_,rfl⟩:=List.mem_map.mp hd;obtain⟨m,_,rfl⟩:=List.mem_map.mp he;obtain⟨k,_,rfl⟩:=List.mem_map.mp hf;simp only[bN,decide_eq_false_iff_not]at h1 h2 ⊢;lia
theorem uS:∀{ns:List Int}{us:List Value},us.length=ns.length->(∀(i:Nat)(u:Value),us[i]?=some u->∃t,u=Value.int (ns.getD i 0) t)->aW (ns.map V.int) us
 |[],[],_,_=>.nil
 |[],_::_,h,_=>by cases h
 |_::_,[],h,_=>by cases h
 |n::ns,u::us,h,q=>by
  refine .cons (q 0 u rfl) (uS (Nat.succ.inj h) λi v e=>?_);have:=q (i+1) v (by simpa using e)
  simpa using this
section
variable{X:Cx}
theorem Dx(hc:X.calm=true){pins:List (Addr×Obj)}{σ:St}{H:Hp}{s:Shared}{A:Around}{E:Value->Shared->Prop}{d:Addr}{kvs:List (Key×V)}{ns:List Int}(I:Inv X pins σ H s)(hA:A.handled=X.A.handled)(hd:H d=some (.dK kvs))(hk:kvs.map (·.1)=ns.map Sum.inl){R:List Value->Shared->Prop}(q:∀(vs:List Value)(h':Heap)(tk:Tok),aW (ns.map V.int) vs->Grows s.heap h'->s.heap.objs.size<=h'.objs.size->R vs { s with heap:=h',toks:=tk }):wpAny (model X.prog X.w) A (collect (.ref d)) R E s:=by
 obtain⟨vs,ep,rel,z,hs,hm,_⟩:=I.freeze hd;have hl:kvs.length=ns.length:=by have:=congrArg List.length hk;rwa [List.length_map,List.length_map]at this
 have MA:=rel.length;refine xX (PySem.W.kdl_dict (knd:=aL X.prog X.w) (kvs:=vs) (ep:=ep) hs) (hA.trans (I.ok.hd hc)) hm (by lia) λg tk acc hg hz ha=>q _ g tk ?_ hg hz;obtain⟨a1,a2⟩:=ha;refine uS (by rw[Array.length_toList,a1];lia) λi u hu=>?_;obtain⟨k,x,e1,e2⟩:=a2 i u (by simpa using hu);obtain⟨v,ev⟩:=DY rel e1;have ek:(kvs.map (·.1))[i]?=some k:=by rw[List.getElem?_map,ev];rfl
 rw[hk,List.getElem?_map]at ek;cases en:ns[i]? with
 |none=>rw[en]at ek;cases ek
 |some n =>
  rw[en]at ek;obtain rfl:Sum.inl n=k:=Option.some.inj ek;have er:ns.getD i 0=n:=by rw[List.getD_eq_getElem?_getD,en];rfl
  rw[er];exact vG e2
def MB:List V->Hp->VK->Prop:=λxs H Q=>∃(d:Addr)(kvs:List (Key×V))(ns:List Int),xs=[.ref d]/\H d=some (.dK kvs)/\kvs.map (·.1)=ns.map Sum.inl/\ns.length<64/\∀(ys:List Int)(q:Addr),ys.Perm ns->ys.Pairwise (·<=·)->H q=none->Q (.ref q) (upd H q (.lst (ys.map V.int)))
theorem eX(hu:X.A.units+16<cLine)(hc:X.calm=true:=by rfl):bY X (.builtin "sorted") MB:=by
 intro pins s σ H xs us Q I r h;obtain⟨d,kvs,ns,rfl,hd,hk,E8,q⟩:=h;obtain⟨u,rfl,rx⟩:=vals1 r;cases rx;have S:∀vs,aW (ns.map V.int) vs->∃κ,mE X.prog X.w X.A.in1.in1 s.heap vs (λi j=>bN ((ns.map PyData.int).getD i .none) ((ns.map PyData.int).getD j .none)) κ:=λvs hv=>by
  have hl:=hv.length;rw[List.length_map]at hl;refine j7 (by rw[List.length_map];lia) (λj hj=>?_) (λd qP=>by obtain⟨n,_,rfl⟩:=List.mem_map.mp qP;rfl) (λd qP=>by obtain⟨n,_,rfl⟩:=List.mem_map.mp qP;exact Nat.zero_le _) (A1 ns) (by show X.A.units+1+1+12<cLine;lia);obtain⟨x,h1,h2⟩:=hv.back (List.getElem?_eq_getElem hj);rw[List.getElem?_map]at h1;cases en:ns[j]? with
  |none=>rw[en]at h1;cases h1
  |some n =>
   rw[en]at h1;obtain rfl:V.int n=x:=Option.some.inj h1;obtain⟨t,ht⟩:=(show ∃t,vs[j]=Value.int n t from h2);have er:(ns.map PyData.int).getD j .none=.int n:=(by rw[List.getD_eq_getElem?_getD,List.getElem?_map,en];rfl);rw[ht,er];exact⟨_,.int n t⟩
 refine zV (λvs=>aW (ns.map V.int) vs) (λvs hv=>by have:=hv.length;rw[List.length_map]at this;lia) (λR k=>Dx (A:=X.A.in1) hc I rfl hd hk λvs h' tk hv g hz=>k vs h' tk hv g hz) S λvs p h' tk e l hv hp ap g hz hl=>?_;have hlen:ns.length=vs.length:=by have:=hv.length;rwa [List.length_map]at this
 obtain⟨z1,z2⟩:=j8 hp ap ns hlen (0:Int) (λx y=>x<=y) (λi j hi hj h0=>by
  have sP:i<ns.length:=by lia
  have Fz:j<ns.length:=by lia
  simp[sP,Fz,bN]at h0
  simpa[sP,Fz]using h0)
 have yZ:∀i∈p.toList,i<(ns.map V.int).length:=by
  intro i hi;have:=(Array.perm_iff_toList_perm.mp hp.pm).mem_iff.mp hi;have:i<vs.length:=by simpa using this
  rw[List.length_map];lia
 have rv:=hv.pick p.toList yZ;have ev:(p.toList.map λi=>(ns.map V.int).getD i V.ba)=(p.toList.map λi=>ns.getD i 0).map V.int:=by rw[List.map_map];refine List.map_congr_left λi hi=>?_;have:=yZ i hi;rw[List.length_map]at this;simp[this]
 rw[ev]at rv;refine⟨.ref l,_,I.laid (t':=tk) (o:=.lst ((p.toList.map λi=>ns.getD i 0).map V.int)) (λb o eb=>g b o eb) hz ⟨by rw[List.length_map,List.length_map,Array.length_toList,hp.sz,sizeLine_eq];lia,_,e,rv,hl⟩,rfl,q _ _ z1 z2 (I.aq.fresh hz)⟩
end
abbrev Tk:=List Int
def eT(a b:Int):List (Option Int):=[some a,some b]
structure cG(K:PySem.W.Frag)(H:Hp)(a:Addr)(k:Tk):Prop where
 ex:(∃x y,k=[x,y]/\ao K H a [.int x,.int y])\/(∃x y z w b,k=[x,y,z,w]/\ao K H a [.int x,.int y,.ref b]/\ao K H b [.int z,.int w])
theorem cG.same{K:PySem.W.Frag}{H H':Hp}{a:Addr}{s:Tk}(h:cG K H a s)(e:aH H H'):cG K H' a s:=by
 rcases h.ex with⟨x,y,h1,h2⟩|⟨x,y,z,w,b,h1,h2,h3⟩
 ·exact⟨.inl ⟨x,y,h1,e.tup h2⟩⟩
 exact⟨.inr ⟨x,y,z,w,b,h1,e.tup h2,e.tup h3⟩⟩
theorem cG.kept{K:PySem.W.Frag}{H H':Hp}{a:Addr}{s:Tk}(h:cG K H a s)(e:Kept H H'):cG K H' a s:=by
 rcases h.ex with⟨x,y,h1,h2⟩|⟨x,y,z,w,b,h1,h2,h3⟩
 ·exact⟨.inl ⟨x,y,h1,e.tup h2⟩⟩
 exact⟨.inr ⟨x,y,z,w,b,h1,e.tup h2,e.tup h3⟩⟩
def nR(h:Heap)(k:Tk)(a:Addr):Prop:=(∃x y,k=[x,y]/\fM h (eT x y) a)\/(∃x y z w b t t',k=[x,y,z,w]/\h.IsTuple a #[.int x t,.int y t',.ref b]/\fM h (eT z w) b)
def zW:Tk->Int
 |[x,y]=>qX (eT x y)
 |[x,y,z,w]=>reduceHash (Builtin.Tuple.tupleHashOf [hashInt x,hashInt y,qX (eT z w)])
 |_=>0
def A2:Tk->Nat
 |[_,_]=>3
 |_=>6
theorem nU{h:Heap}{x y:Int}{a:Addr}(r:fM h (eT x y) a):∃t u,h.IsTuple a #[.int x t,.int y u]:=by
 obtain⟨aM,r,ht⟩:=r;cases r with
 |cons r1 r =>
  cases r with
  |cons r2 r =>
   cases r;obtain⟨t,rfl⟩:=(show ∃t,_=Value.int x t from r1);obtain⟨u,rfl⟩:=(show ∃t,_=Value.int y t from r2);exact⟨t,u,ht⟩
theorem nR.inj{h:Heap}{a:Addr}{x y:Tk}(hx:nR h x a)(hy:nR h y a):x=y:=by
 rcases hx with⟨p,q,rfl,r⟩|⟨p,q,z,w,b,t,t',rfl,r,r2⟩
 ·rcases hy with⟨p',q',rfl,r'⟩|⟨p',q',z',w',b',u,u',rfl,r',Ki⟩
  ·have:=r.inj r';simp only[eT,List.cons.injEq,Option.some.injEq,and_true]at this;rw[this.1,this.2]
  obtain⟨t,u2,ht⟩:=nU r;exact absurd (congrArg Array.size (qY ht r')) (by show ¬((2:Nat)=3);decide)
 rcases hy with⟨p',q',rfl,r'⟩|⟨p',q',z',w',b',u,u',rfl,r',Ki⟩
 ·obtain⟨t2,u2,ht⟩:=nU r';exact absurd (congrArg Array.size (qY ht r)) (by show ¬((2:Nat)=3);decide)
 have e:=qY r r';simp only[Array.mk.injEq,List.cons.injEq,Value.int.injEq,Value.ref.injEq,and_true]at e;obtain⟨⟨rfl,_⟩,⟨rfl,_⟩,rfl⟩:=e;have:=r2.inj Ki;simp only[eT,List.cons.injEq,Option.some.injEq,and_true]at this;rw[this.1,this.2]
section
variable{prog:Program}{w:World}{A:Around}{E:Value->Shared->Prop}{s:Shared}
theorem B0{x:Tk}{a:Addr}{Q:Int->Shared->Prop}(hu:A.units+1<cLine)(hx:nR s.heap x a)(h:Q (zW x) { s with toks:=s.toks+A2 x }):wpAny (model prog w) A (pyHash (.ref a)) Q E s:=by
 rcases hx with⟨p,q,rfl,r⟩|⟨p,q,z,ww,b,t,t',rfl,r,r2⟩
 ·exact qz (by lia) r h
 refine nP (all:=[(.int p t,hashInt p,1),(.int q t',hashInt q,1),(.ref b,qX (eT z ww),3)]) (by lia) r (λy hy tk Q' hq=>?_) h;simp only[List.mem_cons,List.not_mem_nil,or_false]at hy;rcases hy with rfl|rfl|rfl
 ·exact wpAny_pyHash_int hq
 ·exact wpAny_pyHash_int hq
 exact qz (by show A.units+1<cLine;exact hu) r2 hq
theorem PB{x y:Tk}{a b:Addr}(hu:A.units+1<cLine)(hx:nR s.heap x a)(hy:nR s.heap y b):SeqAt.EqAt A s (.ref a) (.ref b) (decide (x=y)):=by
 by_cases yb:a=b
 ·subst yb;rw[decide_eq_true (hx.inj hy)];exact SeqAt.EqAt.same _
 rcases hx with⟨p,q,rfl,r⟩|⟨p,q,z,ww,c,t,t',rfl,r,r2⟩
 ·rcases hy with⟨p',q',rfl,r'⟩|⟨p',q',z',w',c',u,u',rfl,r',Ki⟩
  ·have:=rowAt (A:=A) (by lia) r r';have e:decide (eT p q=eT p' q')=decide ([p,q]=[p',q']):=(by simp[eT]);rw[e]at this;exact this
  obtain⟨t,t2,ht⟩:=nU r;refine SeqAt.EqAt.of_refs yb ?_;have z:=SeqAt.RcAt.tuples (A:=A) (s:=s) (e:=λj=>if j=0 then(p==p')else(q==q')) ht r' (by lia) λj h1 h2=>?_
  ·have e:((List.range (min (#[Value.int p t,Value.int q t2]:Array Value).size (#[Value.int p' u,Value.int q' u',Value.ref c']:Array Value).size)).all (λj=>if j=0 then(p==p')else(q==q'))&&(#[Value.int p t,Value.int q t2]:Array Value).size==(#[Value.int p' u,Value.int q' u',Value.ref c']:Array Value).size)=decide ([p,q]=[p',q',z',w']):=by rw[decide_eq_false (by simp)];have e2:((#[Value.int p t,Value.int q t2]:Array Value).size==(#[Value.int p' u,Value.int q' u',Value.ref c']:Array Value).size)=false:=rfl;rw[e2,Bool.and_false]
   exact e▸z
  match j,h1,h2 with
  |0,_,_=>exact SeqAt.EqAt.int_int _ _ _ _
  |1,_,_=>exact SeqAt.EqAt.int_int _ _ _ _
  |j+2,h1,_=>exact absurd h1 (by show ¬(j+2<2);lia)
 rcases hy with⟨p',q',rfl,r'⟩|⟨p',q',z',w',c',u,u',rfl,r',Ki⟩
 ·obtain⟨t3,t4,ht⟩:=nU r';refine SeqAt.EqAt.of_refs yb ?_;have zz:=SeqAt.RcAt.tuples (A:=A) (s:=s) (e:=λj=>if j=0 then(p==p')else(q==q')) r ht (by lia) λj h1 h2=>?_
  ·have e:((List.range (min (#[Value.int p t,Value.int q t',Value.ref c]:Array Value).size (#[Value.int p' t3,Value.int q' t4]:Array Value).size)).all (λj=>if j=0 then(p==p')else(q==q'))&&(#[Value.int p t,Value.int q t',Value.ref c]:Array Value).size==(#[Value.int p' t3,Value.int q' t4]:Array Value).size)=decide ([p,q,z,ww]=[p',q']):=by rw[decide_eq_false (by simp)];have e2:((#[Value.int p t,Value.int q t',Value.ref c]:Array Value).size==(#[Value.int p' t3,Value.int q' t4]:Array Value).size)=false:=rfl;rw[e2,Bool.and_false]
   exact e▸zz
  match j,h1,h2 with
  |0,_,_=>exact SeqAt.EqAt.int_int _ _ _ _
  |1,_,_=>exact SeqAt.EqAt.int_int _ _ _ _
  |j+2,_,h2=>exact absurd h2 (by show ¬(j+2<2);lia)
 refine SeqAt.EqAt.of_refs yb ?_;have zz:=SeqAt.RcAt.tuples (A:=A) (s:=s) (e:=λj=>if j=0 then(p==p')else if j=1 then(q==q')else decide (eT z ww=eT z' w')) r r' (by lia) λj h1 h2=>?_
 ·have e:((List.range (min 3 3)).all (λj=>if j=0 then(p==p')else if j=1 then(q==q')else decide (eT z ww=eT z' w'))&&((3:Nat)==3))=decide ([p,q,z,ww]=[p',q',z',w']):=by have e3:List.range (min 3 3)=[0,1,2]:=rfl;rw[e3,Bool.eq_iff_iff];simp[eT]
  exact e▸zz
 match j,h1,h2 with
 |0,_,_=>exact SeqAt.EqAt.int_int _ _ _ _
 |1,_,_=>exact SeqAt.EqAt.int_int _ _ _ _
 |2,_,_=>exact rowAt (by show A.units+1<cLine;exact hu) r2 Ki
 |j+3,h1,_=>exact absurd h1 (by show ¬(j+3<3);lia)
theorem Dy{x:Tk}{a:Addr}{Q:Bool->Shared->Prop}(hx:nR s.heap x a)(h:Q true s):wpAny (model prog w) A (eqIsQuiet 8 (.ref a)) Q E s:=by
 rcases hx with⟨p,q,rfl,r⟩|⟨p,q,z,ww,b,t,t',rfl,r,r2⟩
 ·exact uO 7 r h
 refine pT 7 r (λv hv Q' hq=>?_) h;simp only[List.mem_cons,List.not_mem_nil,or_false]at hv;rcases hv with rfl|rfl|rfl
 ·rw[eqIsQuiet_byValue _ rfl];exact wpAny_pure hq
 ·rw[eqIsQuiet_byValue _ rfl];exact wpAny_pure hq
 exact uO 6 r2 hq
end
def Dz(prog:Program)(w:World):HeapKind prog w Tk where
 is:=nR
 hash:=zW
 draws:=A2
 room:=λA=>A.units+1<cLine
 inj:=λhx hy=>hx.inj hy
 keeps:=λ{h h' k a d o es ep} hx ho hd hs=>by
  rcases hx with⟨p,q,rfl,⟨i1,r1,p1⟩⟩|⟨p,q,z,ww,b,t,t',rfl,r,⟨i1,r1,p1⟩⟩
  ·exact .inl ⟨p,q,rfl,i1,r1,qy p1 ho hd hs⟩
  exact .inr ⟨p,q,z,ww,b,t,t',rfl,qy r ho hd hs,i1,r1,qy p1 ho hd hs⟩
 pyHash:=λhu hk h=>B0 hu hk h
 eqBool:=λhu hx hy h=>PB hu hx hy _ _ _ _ h
 quiet:=λhk h=>Dy hk h
abbrev TX:=List (Tk×Addr×V)
def nV(q:Tk×Addr×Value):DictEntry:=⟨zW q.1,.ref q.2.1,q.2.2⟩
abbrev Q3:TX->List (Tk×Addr×Value)->Prop:=Paired λp q=>p.1=q.1/\p.2.1=q.2.1/\RelV p.2.2 q.2.2
def DKφ(a:Addr)(xs:TX)(h:Heap):Prop:=xs.length<=sizeLine/\(a==sysModules)=false/\(xs.map (·.1)).Nodup/\∃vs:List (Tk×Addr×Value),Q3 xs vs/\∃o es ep,h.get? a=some o/\o.ExactDict/\o.data=.dict es ep/\es.toList=vs.map nV
def gG(a:Addr)(xs:TX):HO:=.ext (DKφ a xs)
def gk(xs:TX)(k:Tk):Option V:=(xs.find? λx=>decide (x.1=k)).map (·.2.2)
def i5(xs:TX)(k:Tk)(b:Addr)(v:V):TX:=if(gk xs k).isSome then xs.map (λx=>if x.1=k then(x.1,x.2.1,v)else x)else xs++[(k,b,v)]
theorem bf(xs:TX)(k:Tk):(gk xs k).isSome=decide (k∈xs.map (·.1)):=by unfold gk;rw[Option.isSome_map,Bool.eq_iff_iff,decide_eq_true_iff,List.find?_isSome];simp only[decide_eq_true_eq,List.mem_map]
theorem rJ{xs:TX}{k:Tk}{b:Addr}{v:V}(h:k∉xs.map (·.1)):i5 xs k b v=xs++[(k,b,v)]:=by unfold i5;rw[bf,decide_eq_false h];rfl
theorem sY{xs:TX}{k:Tk}{b:Addr}{v:V}(h:k∈xs.map (·.1)):(i5 xs k b v).map (·.1)=xs.map (·.1):=by unfold i5;rw[bf,decide_eq_true h,if_pos rfl,List.map_map];apply List.map_congr_left;intro x _;show(if x.1=k then(x.1,x.2.1,v)else x).1=x.1;split<;>rfl
theorem D0(xs:TX)(k:Tk)(b:Addr)(v:V):(i5 xs k b v).length<=xs.length+1:=by
 unfold i5;split
 ·rw[List.length_map];lia
 simp
theorem zX{xs:TX}(hn:(xs.map (·.1)).Nodup)(k:Tk)(b:Addr)(v:V):((i5 xs k b v).map (·.1)).Nodup:=by
 by_cases h:k∈xs.map (·.1)
 ·rw[sY h];exact hn
 rw[rJ h,List.map_append];exact Av hn h
theorem Q3.val{xs:TX}{vs:List (Tk×Addr×Value)}(r:Q3 xs vs)(k:Tk):gZ (gk xs k) ((atKey vs k).map (·.2)):=by
 induction r with
 |nil=>exact True.intro
 |@cons p q ps qs h t ih =>
  obtain⟨h1,_,h2⟩:=h;by_cases e:p.1=k
  ·have e':q.1=k:=h1.symm.trans e;have b:atKey (q::qs) k=some q.2:=(by simp[atKey,List.find?_cons,e']);have b':gk (p::ps) k=some p.2.2:=(by simp[gk,List.find?_cons,e]);rw[b',b];exact h2
  have e':¬q.1=k:=λz=>e (h1.trans z);have b:atKey (q::qs) k=atKey qs k:=by simp[atKey,List.find?_cons,e']
  have b':gk (p::ps) k=gk ps k:=by simp[gk,List.find?_cons,e]
  rw[b',b];exact ih
theorem Q3.DT{xs:TX}{vs:List (Tk×Addr×Value)}(r:Q3 xs vs)(k:Tk){y:V}{u:Value}(ry:RelV y u):
  Q3 (xs.map λx=>if x.1=k then(x.1,x.2.1,y)else x) (vs.map (putAt k u)):=by
 induction r with
 |nil=>exact .nil
 |@cons p q ps qs h t ih =>
  rw[List.map_cons,List.map_cons];refine .cons ?_ ih;obtain⟨h1,h2,h3⟩:=h;unfold putAt;by_cases e:p.1=k
  ·rw[if_pos e,if_pos (h1.symm.trans e)];exact⟨h1,h2,ry⟩
  rw[if_neg e,if_neg (λz=>e (h1.trans z))];exact⟨h1,h2,h3⟩
theorem Q3.put{xs:TX}{vs:List (Tk×Addr×Value)}(r:Q3 xs vs)(k:Tk)(b:Addr){y:V}{u:Value}(ry:RelV y u):Q3 (i5 xs k b y) (storedH vs k b u):=by
 have e:(gk xs k).isSome=(atKey vs k).isSome:=by rw[(r.val k).cq,Option.isSome_map]
 unfold i5 storedH;rw[e];by_cases q:(atKey vs k).isSome=true
 ·rw[if_pos q,if_pos q];exact r.DT k ry
 rw[if_neg q,if_neg q];exact Paired.snoc r ⟨rfl,rfl,ry⟩
theorem Q3.keys{xs:TX}{vs:List (Tk×Addr×Value)}(r:Q3 xs vs):xs.map (·.1)=vs.map (·.1):=by
 induction r with
 |nil=>rfl
 |cons h t ih=>rw[List.map_cons,List.map_cons,ih,h.1]
def Jk(d:Addr)(es:Array DictEntry)(ep:Nat):HO:=.ext (oh d es ep)
def B1(d:Addr)(xs:TX)(u:HO):Prop:=xs.length<=sizeLine/\(d==sysModules)=false/\(xs.map (·.1)).Nodup/\∃(vs:List (Tk×Addr×Value))(es:Array DictEntry)(ep:Nat),Q3 xs vs/\es.toList=vs.map nV/\u=Jk d es ep
structure TD(K:PySem.W.Frag)(H:Hp)(a:Addr)(xs:TX):Prop where
 at_:H a=some (gG a xs)\/∃u,H a=some u/\B1 a xs u
 keys:∀p∈xs,cG K H p.2.1 p.1
section
variable{X:Cx}{pins:List (Addr×Obj)}{σ:St}{H:Hp}{s:Shared}{a:Addr}{xs:TX}{A:Around}{E:Value->Shared->Prop}
theorem D1(I:Inv X pins σ H s){b:Addr}{k:Tk}(h:cG X.K H b k):nR s.heap k b:=by
 rcases h.ex with⟨x,y,e,h1⟩|⟨x,y,z,w,p,e,h1,h2⟩
 ·exact .inl ⟨x,y,e,Hd I h1⟩
 obtain⟨aM,r,ht,_⟩:=I.tuple h1;cases r with
 |cons r1 r =>
  cases r with
  |cons r2 r =>
   cases r with
   |cons r3 r =>
    cases r;obtain⟨t,rfl⟩:=r1;obtain⟨t',rfl⟩:=r2;cases r3;exact .inr ⟨x,y,z,w,p,t,t',e,ht,Hd I h2⟩
theorem TD.raw(I:Inv X pins σ H s)(d:H a=some (gG a xs)):DKφ a xs s.heap:=(I.aq a _ d).1
theorem TD.either(I:Inv X pins σ H s)(d:H a=some (gG a xs)\/∃u,H a=some u/\B1 a xs u):DKφ a xs s.heap:=by
 rcases d with d|⟨u,d,z,hd,hn,vs,es,ep,r,h4,rfl⟩
 ·exact TD.raw I d
 obtain⟨o,h1,h2,h3⟩:=(show ax X.prog X.w H s.heap a (Jk a es ep)from I.aq a _ d).1;exact⟨z,hd,hn,vs,r,o,es,ep,h1,h2,h3,h4⟩
theorem TD.dict(I:Inv X pins σ H s)(d:TD X.K H a xs):xs.length<=sizeLine/\(a==sysModules)=false/\(xs.map (·.1)).Nodup/\∃vs,Q3 xs vs/\s.heap.DictOfH (Dz X.prog X.w) a vs:=by
 obtain⟨z,hd,hn,vs,r,o,es,ep,h1,h2,h3,h4⟩:=TD.either I d.at_;refine⟨z,hd,hn,vs,r,o,es,ep,h1,h2,h3,h4,?_,by rw[<-r.keys];exact hn⟩;have all:∀{l:TX}{m:List (Tk×Addr×Value)},Q3 l m->(∀p∈l,cG X.K H p.2.1 p.1)->∀x∈m,(Dz X.prog X.w).is s.heap x.1 x.2.1:=by
  intro l m q
  induction q with
  |nil=>intro _ x hx;exact nomatch hx
  |@cons p q ps qs hq t ih =>
   intro hl x hx;rcases List.mem_cons.mp hx with e|hx
   ·subst e;rw[<-hq.1,<-hq.2.1];exact D1 I (hl p List.mem_cons_self)
   exact ih (λp hp=>hl p (List.mem_cons_of_mem _ hp)) x hx
 exact all r d.keys
theorem D3{P:Program}{w:World}{H':Hp}{h':Heap}(z:xs.length<=sizeLine)(hd:(a==sysModules)=false)(hn:(xs.map (·.1)).Nodup){vs:List (Tk×Addr×Value)}(r:Q3 xs vs){o:Obj}{es:Array DictEntry}{ep:Nat}(h1:h'.get? a=some o)(h2:o.ExactDict)(h3:o.data=.dict es ep)(h4:es.toList=vs.map nV):ax P w H' h' a (gG a xs) :=
 ⟨⟨z,hd,hn,vs,r,o,es,ep,h1,h2,h3,h4⟩,⟨o,h1⟩,λg1 g2 ⟨z,hd,hn,vs,r,o,es,ep,h1,h2,h3,h4⟩ k=>⟨z,hd,hn,vs,r,o,es,ep,k o h1,h2,h3,h4⟩⟩
theorem Jl:KP (some (gG a xs)):=True.intro
theorem B2{b:Addr}{k:Tk}{v:V}{r:Value}{Q:Unit->Shared->Prop}(hu:A.units+2<cLine)(I:Inv X pins σ H s)(d:TD X.K H a xs)(da:H a=some (gG a xs))(hb:cG X.K H b k)(hl:xs.length<sizeLine)(rv:RelV v r)(h:∀s',Inv X pins σ (upd H a (gG a (i5 xs k b v))) s'->Q () s'):wpAny (model X.prog X.w) A (setItem (.ref a) (.ref b) r) Q E s:=by
 obtain⟨z,hd,hn,vs,rel,dd⟩:=d.dict I;have hz:vs.length<=sizeLine:=by rw[<-Paired.length rel];exact z
 refine wpAny_setItem_heap (hsz:=hz) (show A.in1.units+1<cLine from by show A.units+1+1<cLine;lia) (D1 I hb) dd λh' Au hs=>h _ ?_;obtain⟨q,es,ep,hq,h2,h3,h4,_,h5⟩:=Au;refine nL I (by rw[da];exact Jl) hs ⟨q,hq⟩ (D3 (by have:=D0 xs k b v;lia) hd (zX hn k b v) (rel.put k b rv) hq h2 h3 h4)
end
def MC(K:PySem.W.Frag):R2:=λx y H Q=>∃a b xs k v,x=.ref a/\y=.ref b/\TD K H a xs/\cG K H b k/\gk xs k=some v/\Q v H
def MD(K:PySem.W.Frag)(neg:Bool):R2:=λx y H Q=>∃a b xs k,x=.ref b/\y=.ref a/\TD K H a xs/\cG K H b k/\Q (.bl (if neg then !decide (k∈xs.map (·.1))else decide (k∈xs.map (·.1)))) H
section
variable{X:Cx}
theorem GD(K:PySem.W.Frag)(hu:X.A.units+16<cLine)(hK:X.K=K:=by rfl):ij X (compareOp .In) (MD K false):=by subst hK;intro pins s σ H x y v u Q I rx ry h;obtain⟨a,b,xs,k,rfl,rfl,d,hb,q⟩:=h;cases rx;cases ry;obtain⟨z,hd,hn,vs,rel,dd⟩:=d.dict I;refine wpAny_in_heap (show X.A.in1.units+1<cLine from by show X.A.units+1+1<cLine;lia) (D1 I hb) hd dd ?_;have e:=(rel.val k).cq;rw[Option.isSome_map]at e;rw[<-e,bf];exact⟨.bl _,H,I.tok _,rfl,q⟩
theorem zY(K:PySem.W.Frag)(hu:X.A.units+16<cLine)(hK:X.K=K:=by rfl):ij X (compareOp .NotIn) (MD K true):=by subst hK;intro pins s σ H x y v u Q I rx ry h;obtain⟨a,b,xs,k,rfl,rfl,d,hb,q⟩:=h;cases rx;cases ry;obtain⟨z,hd,hn,vs,rel,dd⟩:=d.dict I;refine wpAny_notIn_heap (show X.A.in1.units+1<cLine from by show X.A.units+1+1<cLine;lia) (D1 I hb) hd dd ?_;have e:=(rel.val k).cq;rw[Option.isSome_map]at e;rw[<-e,bf];exact⟨.bl _,H,I.tok _,rfl,q⟩
variable{o i value:Expr}{pos pos':Pos}{td ty tv:TE}
theorem kx(K:PySem.W.Frag)(hu:X.A.units+16<cLine)(ho:PE X o td)(hi:PE X i ty)(hs:Fp i)(hK:X.K=K:=by rfl):PE X (.Subscript o i pos) (Ic (MC K) td ty):=by subst hK;intro pins s σ H Q I h;refine vE PySem.F.slot_dict_getitem.lookup hs (av (ho pins s σ H _ I h) λu s1 ⟨x,H1,I1,rx,q1⟩=>av (hi pins s1 σ H1 _ I1 q1) λiv s2 ⟨y,H2,I2,ry,a,b,xs,k,v,ex,ey,d,hb,hv,q2⟩=>?_);subst ex;subst ey;cases rx;cases ry;obtain⟨z,hd,hn,vs,rel,dd⟩:=d.dict I2;obtain⟨w',hw,sR⟩:=gZ.some_of (v:=v) (o:=(atKey vs k).map (·.2)) (by rw[<-hv];exact rel.val k);obtain⟨p,hp,Bo⟩:=Option.map_eq_some_iff.mp hw;refine⟨dd.typeIs,wpAny_getItem_heap (show X.A.in1.units+1<cLine from by show X.A.units+1+1<cLine;lia) (D1 I2 hb) dd hp ?_⟩;rw[Bo];exact⟨v,H2,I2.tok _,sR,q2⟩
def ME(K:PySem.W.Frag)(td ty tv:TE):TS:=λD σ H=>tv σ H λv H1=>td σ H1 λx H2=>ty σ H2 λy H3=>∃a b xs k,x=.ref a/\y=.ref b/\TD K H3 a xs/\H3 a=some (gG a xs)/\cG K H3 b k/\xs.length<sizeLine/\D.nx σ (upd H3 a (gG a (i5 xs k b v)))
theorem vM(K:PySem.W.Frag)(hu:X.A.units+16<cLine)(ho:PE X o td)(hi:PE X i ty)(hv:PE X value tv)(hs:swapsWith value (some (.Subscript o i pos')) pos.line X.env=pure false)(hK:X.K=K:=by rfl):
  PS X (.Assign [.Subscript o i pos'] value pos) (ME K td ty tv):=by
 subst hK;intro pins s σ H D I h;refine wpAny_Assign_Subscript (av (hv pins s σ H _ I h) λr s1 ⟨v,H1,I1,rv,q1⟩=>av (ho pins s1 σ H1 _ I1 q1) λu s2 ⟨x,H2,I2,rx,q2⟩=>av (hi pins s2 σ H2 _ I2 q2) λiv s3 ⟨y,H3,I3,ry,a,b,xs,k,ex,ey,d,da,hb,hl,q3⟩=>?_) hs;subst ex;subst ey;cases rx;cases ry;exact B2 (by lia) I3 d da hb hl rv λs4 I4=>⟨σ,_,I4,q3⟩
def MF:TE:=λ_ H Q=>∀p,H p=none->Q (.ref p) (upd H p (gG p []))
theorem B3{P:Program}{w:World}{H:Hp}(h:Heap)(hb:sysModules<h.objs.size):ax P w H (h.push { cls:=.type "dict",data:=.dict #[] }) h.objs.size (gG h.objs.size []) :=
 D3 (Nat.zero_le _) (beq_eq_false_iff_ne.mpr (Ne.symm (Nat.ne_of_lt hb))) List.nodup_nil .nil (Heap.get?_push_size _ rfl) ⟨rfl,rfl,rfl⟩ (ep:=0) rfl rfl
theorem A3:PE X (.Dict [] [] pos) MF:=λpins s σ H Q I h =>
 wpAny_Dict_empty ⟨.ref s.heap.objs.size,_,I.laid (a:=s.heap.objs.size) (o:=gG s.heap.objs.size []) (t':=s.toks) (λ_ _ q=>Heap.get?_push_of_some _ q) (Nat.le_refl _) (B3 s.heap I.M9),rfl,h _ (I.aq.fresh (Nat.le_refl _))⟩
end
def B4(d:Addr)(u:HO)(xs:TX):It where
 go:=λi H=>H d=some u/\i<xs.length
 Ae:=λi H x H'=>H'=H/\∃p,xs[i]?=some p/\x=.ref p.2.1
 stop:=λi H=>H d=some u/\xs.length<=i
theorem Q3.addrs{xs:TX}{vs:List (Tk×Addr×Value)}(r:Q3 xs vs):aW (xs.map λp=>V.ref p.2.1) (vs.map λq=>Value.ref q.2.1):=by
 induction r with
 |nil=>exact .nil
 |@cons p q ps qs h t ih =>
  refine .cons ?_ ih;show Value.ref q.2.1=Value.ref p.2.1;rw[h.2.1]
theorem xY{P:Program}{w:World}{K:PySem.W.Frag}{tg:Expr}{d it:Addr}{xs:TX}{vs:List (Tk×Addr×Value)}{es:Array DictEntry}{ep:Nat}(r:Q3 xs vs)(he:es.toList=vs.map nV):
  Turn P w K tg (B4 d (Jk d es ep) xs) [it] it (λi h=>h.IsKeyIter it d i es.size ep)where
 mem:=by simp
 obj:=λi h st b hb=>by
  have e:b=it:=by simpa using hb
  subst e;obtain⟨o,e,c,dd⟩:=st;exact⟨o,e,λv z=>by rw[dd]at z;cases z⟩
 keep:=λi h h' st k=>st.at λo e=>k it (by simp) o e
 item:=by
  intro X hP hw hK hc i pins s σ H E I hf st hg;subst hP hw hK;obtain⟨hd,hi⟩:=hg;have hm:oh d es ep s.heap:=(show ax X.prog X.w H s.heap d (Jk d es ep)from I.aq d _ hd).1;have hl:es.size=xs.length:=by have:=congrArg List.length he;simp only[Array.length_toList,List.length_map]at this;rw[this,<-Paired.length r]
  obtain⟨f0,f1,f2,f3,f4,f5⟩:=hf it (by simp);have sP:i<es.size:=by lia
  refine Df st hm sP λh' oR sb=>?_;have I1:Inv X pins σ H { s with heap:=h' }:=I.turned (t':=s.toks) (λb o hb e=>sb.extBut b o hb e) f0 f1 f3 f4 f5
  obtain⟨o,e,c,dd⟩:=id oR;have ex:xs[i]?=some xs[i]:=by simp[hi]
  obtain⟨p,hp⟩:∃p,xs[i]=p:=⟨_,rfl⟩;rw[hp]at ex;obtain⟨u,hu,ru⟩:=(Q3.addrs r).get (i:=i) (x:=V.ref p.2.1) (by rw[List.getElem?_map,ex];rfl);have ek:es[i].key=u:=by
   have e2:es.toList[i]?=some es[i]:=(by simp[sP]);rw[he,List.getElem?_map]at e2;rw[List.getElem?_map]at hu;cases ew:vs[i]? with
   |none=>rw[ew]at e2;cases e2
   |some q =>
    rw[ew]at e2 hu;rw[<-Option.some.inj e2,<-Option.some.inj hu];rfl
  exact⟨es[i].key,rfl,tj (s:={ s with heap:=h' }) e c dd (by decide) ⟨.ref p.2.1,H,I1,by rw[ek];exact ru,⟨rfl,p,ex,rfl⟩,oR,λb hb=>(hf b hb).1⟩⟩
 done:=by
  intro X hP hw hK hc i pins s σ H E I hf st hg;subst hP hw hK;obtain⟨hd,hi⟩:=hg;have hm:oh d es ep s.heap:=(show ax X.prog X.w H s.heap d (Jk d es ep)from I.aq d _ hd).1;have hl:es.size=xs.length:=by have:=congrArg List.length he;simp only[Array.length_toList,List.length_map]at this;rw[this,<-Paired.length r]
  obtain⟨f0,f1,f2,f3,f4,f5⟩:=hf it (by simp);exact F5 (I.ok.hd hc) st hm (by lia) λh' eb=>⟨rfl,I.turned (t':=s.toks) (λb o hb e=>eb b o hb e) f0 f1 f3 f4 f5⟩
 self:=λ_ _ _ _ _ st h=>wpAny_pyIter_keyiter st h
section
variable{X:Cx}
theorem Inv.D4{pins:List (Addr×Obj)}{σ:St}{H:Hp}{s:Shared}{d:Addr}{xs:TX}(I:Inv X pins σ H s)(hd:H d=some (gG d xs)):
  ∃vs es ep,Q3 xs vs/\es.toList=vs.map nV/\xs.length<=sizeLine/\(d==sysModules)=false/\(xs.map (·.1)).Nodup/\oh d es ep s.heap/\Inv X pins σ (upd H d (Jk d es ep)) s:=by
 obtain⟨z,hs,hn,vs,r,o,es,ep,h1,h2,h3,h4⟩:=TD.raw I hd;have hm:oh d es ep s.heap:=⟨o,h1,h2,h3⟩;refine⟨vs,es,ep,r,h4,z,hs,hn,hm,?_⟩;exact I.write (x:=d) (e:=d) (h':=s.heap) (t':=s.toks) (by rw[hd];exact True.intro) (.inl rfl) (λ_ _ _ q=>q) ⟨o,h1⟩ ⟨hm,⟨o,h1⟩,λg1 g2 x k=>x.at_ k⟩
theorem Inv.D5{pins:List (Addr×Obj)}{σ:St}{H:Hp}{s:Shared}{d:Addr}{xs:TX}{u:HO}(I:Inv X pins σ H s)(ok:B1 d xs u)(hd:H d=some u):Inv X pins σ (upd H d (gG d xs)) s:=by obtain⟨z,hs,hn,vs,es,ep,r,h4,rfl⟩:=ok;obtain⟨o,h1,h2,h3⟩:=(show ax X.prog X.w H s.heap d (Jk d es ep)from I.aq d _ hd).1;exact I.write (x:=d) (e:=d) (h':=s.heap) (t':=s.toks) (by rw[hd];exact True.intro) (.inl rfl) (λ_ _ _ q=>q) ⟨o,h1⟩ (D3 z hs hn r h1 h2 h3 h4)
def GF(td:TE):TI:=λσ H R=>td σ H λx H1=>∃d xs,x=.ref d/\H1 d=some (gG d xs)/\∀u,B1 d xs u->R (B4 d u xs) (upd H1 d u)
theorem iO{tg l:Expr}{td:TE}(hl:PE X l td):PI X tg l (GF td):=by
 intro pins s σ H R I h;refine av (hl pins s σ H _ I h) λv s1 ⟨x,H1,I1,r1,q1⟩=>?_;obtain⟨d,xs,rfl,hd,q⟩:=q1;cases r1;obtain⟨vs,es,ep,rel,he,z,hs,hn,hm,I2⟩:=I1.D4 hd;refine De hs hm ?_;refine⟨s1.heap.objs.size,[s1.heap.objs.size],_,_,_,rfl,I2.kept (t':=s1.toks) λb o e=>Heap.get?_push_of_some _ e,xY rel he,⟨_,Heap.get?_push_size _ rfl,rfl,rfl⟩,λb hb=>?_,q _ ⟨z,hs,hn,vs,es,ep,rel,he,rfl⟩⟩;have e:b=s1.heap.objs.size:=by simpa using hb
 subst e;exact I2.p9 (Nat.le_refl _) (I2.aq.fresh (Nat.le_refl _))
def GG(t:TS):TS:=λD σ H=>t { D with nx:=λσ' H'=>∃d xs u,B1 d xs u/\H' d=some u/\D.nx σ' (upd H' d (gG d xs)) } σ H
theorem uT{st:Stmt}{t:TS}(h:PS X st t):PS X st (GG t):=by
 intro pins s σ H D I q;refine wpAny_mono (h pins s σ H _ I q) (λf s' q=>?_) λ_ _ z=>z;cases f with
 |next=>obtain⟨σ',H',I',d,xs,u,ok,hd,q⟩:=q;exact⟨σ',_,I'.D5 ok hd,q⟩
 |brk=>exact q
 |cont=>exact q
 |ret u=>exact q
def GH(t:TE):TE:=λσ H Q=>t σ H λx H'=>∃d xs u,B1 d xs u/\H' d=some u/\Q x (upd H' d (gG d xs))
theorem uU{e:Expr}{t:TE}(h:PE X e t):PE X e (GH t):=by intro pins s σ H Q I q;exact av (h pins s σ H _ I q) λv s1 ⟨x,H1,I1,r1,d,xs,u,ok,hd,q1⟩=>⟨x,_,I1.D5 ok hd,r1,q1⟩
end
section
variable{g:TG}{tt:TT}{te:TE}{D:Addr}{σ:St}{H:Hp}{Q:VK}
theorem uV{d:Addr}{u:HO}{xs:TX}(Pv:Nat->St->Hp->Prop)(h0:Pv 0 σ H)(hl:∀i σ H,i<=xs.length->Pv i σ H->H d=some u)(hs:∀(i:Nat)(p:Tk×Addr×V)(σ:St)(H:Hp)(N:St->Hp->Prop),(∀σ H,Pv (i+1) σ H->N σ H)->xs[i]?=some p->Pv i σ H->g (.ref p.2.1) σ H λσ3 H3=>tt σ3 H3 λb H4 =>
   if b=true then te σ3 H4 λv H5=>∃ys,H5 D=some (.lst ys)/\ys.length<sizeLine/\N σ3 (upd H5 D (.lst (ys++[v])))else N σ3 H4)(hd:∀σ H,Pv xs.length σ H->Q (.ref D) H):pR (B4 d u xs) g tt te D σ H Q:=by
 refine⟨λi m σ H=>m=xs.length-i/\i<=xs.length/\Pv i σ H,⟨xs.length,by simp,Nat.zero_le _,h0⟩,?_⟩;rintro i m σ' H' ⟨rfl,hi,p⟩;have q1:=hl i σ' H' hi p;by_cases bM:i<xs.length
 ·refine .inr ⟨⟨q1,bM⟩,λx H2 y=>?_⟩;obtain⟨rfl,k,ex,rfl⟩:=y;exact hs i k σ' _ (λσ3 H3=>∃m',m'<xs.length-i/\m'=xs.length-(i+1)/\i+1<=xs.length/\Pv (i+1) σ3 H3) (λσ3 H3 z=>⟨xs.length-(i+1),by lia,rfl,bM,z⟩) ex p
 have e:i=xs.length:=by lia
 subst e;exact .inl ⟨⟨q1,Nat.le_refl _⟩,hd σ' H' p⟩
theorem mF{d:Addr}{u:HO}{xs:TX}{tb:TS}{D:Ends}(Pv:Nat->St->Hp->Prop)(h0:Pv 0 σ H)(hl:∀i σ H,i<=xs.length->Pv i σ H->H d=some u)(hs:∀(i:Nat)(p:Tk×Addr×V)(σ:St)(H:Hp),xs[i]?=some p->Pv i σ H->g (.ref p.2.1) σ H λσ2 H2=>tb { D with nx:=Pv (i+1),ct:=Pv (i+1),bk:=D.nx } σ2 H2)(hd:∀σ H,Pv xs.length σ H->D.nx σ H):
  ∃W:Nat->Nat->St->Hp->Prop,(∃m,W 0 m σ H)/\∀i m σ H,W i m σ H ->
   ((B4 d u xs).stop i H/\D.nx σ H)\/((B4 d u xs).go i H/\∃N:St->Hp->Prop,(∀σ' H',N σ' H'->∃m',m'<m/\W (i+1) m' σ' H')/\∀x H',(B4 d u xs).Ae i H x H'->g x σ H' λσ2 H2=>tb { D with nx:=N,ct:=N,bk:=D.nx } σ2 H2):=by
 refine⟨λi m σ H=>m=xs.length-i/\i<=xs.length/\Pv i σ H,⟨xs.length,by simp,Nat.zero_le _,h0⟩,?_⟩;rintro i m σ' H' ⟨rfl,hi,p⟩;have q1:=hl i σ' H' hi p;by_cases bM:i<xs.length
 ·refine .inr ⟨⟨q1,bM⟩,Pv (i+1),λσ3 H3 z=>⟨xs.length-(i+1),by lia,rfl,bM,z⟩,λx H2 y=>?_⟩;obtain⟨rfl,k,ex,rfl⟩:=y;exact hs i k σ' _ ex p
 have e:i=xs.length:=by lia
 subst e;exact .inl ⟨⟨q1,Nat.le_refl _⟩,hd σ' H' p⟩
end
end L2
namespace L2
section
open PySem PySem.Spec PyProof.Rows
variable{X:Cx}
def Jm(P:Program)(w:World)(td ty:TE):TE:=λσ H Q=>td σ H λx H1=>ty σ H1 λy H2=>∃a kvs u k v,x=.ref a/\H2 a=some u/\DX P w a kvs u/\y=kV k/\eW kvs k=some v/\Q v H2
theorem xZ(P:Program)(w:World){o i:Expr}{pos:Pos}{td ty:TE}(ho:PE X o td)(hi:PE X i ty)(hs:Fp i)(hP:X.prog=P:=by rfl)(hw:X.w=w:=by rfl):PE X (.Subscript o i pos) (Jm P w td ty):=by subst hP hw;intro pins s σ H Q I h;refine vE PySem.F.slot_dict_getitem.lookup hs (av (ho pins s σ H _ I h) λu s1 ⟨x,H1,I1,rx,q1⟩=>av (hi pins s1 σ H1 _ I1 q1) λiv s2 ⟨y,H2,I2,ry,a,kvs,uo,k,v,ex,D6,ok,ey,hv,q2⟩=>?_);subst ex ey;obtain rfl:u=Value.ref a:=rx;obtain⟨z,Qg,vs,ep,rel,rfl⟩:=ok;have hm:s2.heap.DictAt (aL X.prog X.w) a vs ep:=(show ax X.prog X.w H2 s2.heap a (JT X.prog X.w a vs ep)from I2.aq a _ D6).1;obtain⟨w',NB,sR⟩:=gZ.some_of (v:=v) (o:=valueAt vs k) (by rw[<-hv];exact rel.val k);exact⟨hm.dictOf.typeIs,wpAny_getItem_of (lK ry) hm.dictOf.mapOf NB ⟨v,H2,I2.tok _,sR,q2⟩⟩
end
open PySem PySem.Spec PyProof.Rows
theorem xf{M:Model}{A:Around}{E:Value->Shared->Prop}{s:Shared}{a:Addr}{Q:Option Obj->Shared->Prop}(h:Q (s.heap.get? a) s):wpAny M A (loadIfAlive a) Q E s:=λΓ p _=>by unfold loadIfAlive;rw[Sem.wp_loadIfAlive];exact(Sem.wp_pure ..).mpr h
abbrev xg(h:Heap)(z TI TO:Addr)(f0:Value)(b:Bool):Prop :=
 h.get? z=some { cls:=.type "zip",dict:=none,data:=.fields #[f0,.bool b,.bool false,.ref TI,.ref TO],slots:=#[] }
def pW(f0:Value):Prop:=f0=.none\/∃a t,f0=.int a t
section
variable{prog:Program}{w:World}{A:Around}{E:Value->Shared->Prop}{s:Shared}
theorem rK{z TI TO:Addr}{f0:Value}{b:Bool}{Q:Bool->Shared->Prop}(hz:xg s.heap z TI TO f0 b)(hf:pW f0)(h1:Q true s)(h2:∀h',xg h' z TI TO f0 true->Heap.SameBut z s.heap h'->Q false { s with heap:=h' }):
  wpAny (model prog w) A (Builtin.SmallTypes.ownedTupleIsFree (.ref z)) Q E s:=by
 unfold Builtin.SmallTypes.ownedTupleIsFree;refine wpAny_bind (wpAny_field hz rfl (x:=f0) rfl ?_);rcases hf with rfl|⟨a,t,rfl⟩
 ·exact wpAny_pure h1
 refine wpAny_bind (xf ?_);cases e:s.heap.get? a.toNat with
 |none=>exact wpAny_pure h1
 |some o =>
  refine(show wpAny _ _ (field (.ref z) 1 >>= _) _ _ _ from wpAny_bind (wpAny_field hz rfl (x:=.bool b) rfl ?_));cases b with
  |true=>exact wpAny_pure (h2 s.heap hz (.refl _ _))
  |false=>exact wpAny_bind (wpAny_setField_rec hz (by simp) λh' Sa hs=>wpAny_pure (h2 h' Sa hs))
theorem jf{it t:Addr}{i:Nat}{items:Array Value}{Q:Value->Shared->Prop}(hh:A.handled=none)(hit:s.heap.IsTupleIter it t i)(ht:s.heap.IsTuple t items)(hx:items[i]?=none)(hE:∀h' e,Heap.ExtBut it s.heap h'->(∃o,h'.get? e=some o/\o.cls=.type "StopIteration")->E (.ref e) { s with heap:=h' }):wpAny (model prog w) A (Builtin.SmallTypes.nextOf (.ref it)) Q E s:=by
 obtain⟨ob,e1,_,e2⟩:=id hit;obtain⟨ot,g1,_,m,g2⟩:=ht;unfold Builtin.SmallTypes.nextOf;refine wpAny_bind (wpAny_callSpecial?_slot (name:=Str.ofString "__next__") hit.typeIs F.slot_tuple_iterator_next (wpAny_call_entry F.slot_tuple_iterator_next hit.typeIs F.entry_tuple_iterator_next ?_ (F.args_tuple_iterator_next_1 _)));refine(show wpAny _ _ (field (.ref it) 0 >>= _) _ _ s from wpAny_bind (wpAny_field e1 e2 (x:=.ref t) rfl (show wpAny _ _ (if(Value.ref t==Value.none)=true then _ else _) _ _ s from ?_)));rw[if_neg (by exact Bool.false_ne_true)];refine(show wpAny _ _ (field (.ref it) 1 >>= _) _ _ s from wpAny_bind (wpAny_field e1 e2 (x:=.int i 0) rfl (show wpAny _ _ (seqItems? (.ref t) >>= _) _ _ s from wpAny_bind (wpAny_seqItems g1 g2 ?_))));simp only[hx,Int.toNat_natCast];refine wpAny_bind (wpAny_rule (wpAny_bind (wpAny_setField e1 e2 (by simp) (show wpAny _ _ (newExc (.type "StopIteration") [] >>= _) _ _ _ from wpAny_bind ?_))));simp only[newTuple,newExc];refine wpAny_bind (wpAny_newObj_type (wpAny_bind (m:=firstArgMember _ _) (wpAny_of_eq (a:=Value.none) (by first|rfl|(simp only[firstArgMember];rfl)) (wpAny_newObj_type ?_ (by size_fits)))) (by size_fits));simp only[raiseNew];refine wpAny_bind (wpAny_handled ?_)
 first|rw[hh]|rw[show A.in1.handled=none from hh]
 exact wpAny_bind (wpAny_pure (wpAny_throw (hE _ _ (((Heap.SameBut.update ..).extBut.push _).push _) ⟨_,Heap.get?_push_size _ rfl,rfl⟩)))
theorem B5{z TI TO i1 i2 l t:Addr}{k:Nat}{xs ys:Array Value}{x y a b f0:Value}{fb:Bool}{Q:Value->Shared->Prop}(D:ZipApart z TI TO i1 i2 l t)(hz:xg s.heap z TI TO f0 fb)(Co:pW f0)(vN:IsPair s.heap TI (.ref i1) (.ref i2))(vO:IsPair s.heap TO a b)(h1:s.heap.IsTupleIter i1 l k)(h2:s.heap.IsTupleIter i2 t k)(hl:s.heap.IsTuple l xs)(ht:s.heap.IsTuple t ys)(hx:xs[k]?=some x)(hy:ys[k]?=some y)(hQ:∀h' f1 Jn a' b',xg h' z TI TO f1 Jn->pW f1->IsPair h' TO a' b'->h'.IsTupleIter i1 l (k+1)->h'.IsTupleIter i2 t (k+1)->IsPair h' s.heap.objs.size x y->h'.objs.size=s.heap.objs.size+1 ->
   (∀c o,c≠z->c≠TO->c≠i1->c≠i2->s.heap.get? c=some o->h'.get? c=some o)->Q (.ref s.heap.objs.size) { s with heap:=h' }):
  wpAny (model prog w) A (Builtin.«zip.__next__» ⟨[.ref z],[]⟩) (λfin s'=>∃v,fin=.done (.ret v)/\Q v s') E s:=by
 refine(show wpAny _ _ (field (.ref z) 2 >>= _) _ _ _ from wpAny_bind (wpAny_field hz rfl (x:=.bool false) rfl ?_));refine(show wpAny _ _ (field (.ref z) 3 >>= _) _ _ _ from wpAny_bind (wpAny_field hz rfl (x:=.ref TI) rfl (wpAny_bind (wpAny_seqItems vN rfl ?_))));refine(show wpAny _ _ (Builtin.SmallTypes.ownedTupleIsFree (.ref z) >>= _) _ _ _ from wpAny_bind (rK hz Co ?_ λha Kj mr=>?_))
 ·rw[if_pos (by rfl)];refine wpAny_bind (wpAny_rule (wpAny_bind (wpAny_field hz rfl (x:=.ref TO) rfl (wpAny_bind (wpAny_setField_rec hz (by simp) λha Kj mr=>wpAny_bind ?_)))));have Jo:xg ha z TI TO .ellipsis fb:=Kj;simp only[List.forIn_cons,List.forIn_nil,List.zipIdx_cons,List.zipIdx_nil];refine wpAny_bind (wpAny_bind (wpAny_onRaise (show wpAny _ _ (Builtin.SmallTypes.nextOf (.ref i1) >>= _) _ _ _ from wpAny_bind (dZ (h1.extBut mr.extBut D.i1z) (hl.extBut mr.extBut D.l1z) hx λhb MG nG=>wpAny_pure ?_))));have to2:IsPair hb TO a b:=nG.extBut _ _ D.TOi1 (mr.extBut _ _ D.TOz vO);refine wpAny_bind (wpAny_seqItems to2 rfl (wpAny_bind (wpAny_updateSeq_pair to2 λhc to3 xE=>wpAny_bind (wpAny_letGo (wpAny_pure ?_)))));have PD:IsPair hc TO x b:=to3;refine wpAny_bind (wpAny_bind (wpAny_onRaise (show wpAny _ _ (Builtin.SmallTypes.nextOf (.ref i2) >>= _) _ _ _ from wpAny_bind
   (dZ (((h2.extBut mr.extBut D.i2z).extBut nG.extBut D.i12.symm).extBut xE.extBut D.TOi2.symm) (((ht.extBut mr.extBut D.l2z).extBut nG.extBut D.l2i1).extBut xE.extBut D.l2TO) hy λhd PF vP=>wpAny_pure ?_))))
  have Qh:IsPair hd TO x b:=vP.extBut _ _ D.TOi2 PD;refine wpAny_bind (wpAny_seqItems Qh rfl (wpAny_bind (wpAny_updateSeq_pair Qh λhe Sb MH=>wpAny_bind (wpAny_letGo (wpAny_pure (wpAny_pure ?_))))));have MI:IsPair he TO x y:=Sb;refine wpAny_bind (wpAny_seqItems MI rfl (wpAny_bind (wpAny_newTuple ?_)));have uW:he.objs.size=s.heap.objs.size:=by rw[MH.1,vP.1,xE.1,nG.1,mr.1]
  have z5:xg he z TI TO .ellipsis fb:=MH.extBut _ _ D.TOz.symm (vP.extBut _ _ D.i2z.symm (xE.extBut _ _ D.TOz.symm (nG.extBut _ _ D.i1z.symm Jo)));have MJ:∀c o,c≠z->c≠TO->c≠i1->c≠i2->s.heap.get? c=some o->he.get? c=some o:=λc o n1 n2 n3 n4 e=>MH.extBut _ _ n2 (vP.extBut _ _ n4 (xE.extBut _ _ n2 (nG.extBut _ _ n3 (mr.extBut _ _ n1 e))));have Sd:he.IsTupleIter i1 l (k+1):=((MG.extBut xE.extBut D.TOi1.symm).extBut vP.extBut D.i12).extBut MH.extBut D.TOi1.symm;have Se:he.IsTupleIter i2 t (k+1):=PF.extBut MH.extBut D.TOi2.symm;have Qi:z<he.objs.size:=Heap.lt_size z5;refine(show wpAny _ _ (Builtin.SmallTypes.ownedTupleHandOut (.ref z) (.ref he.objs.size) >>= _) _ _ _ from wpAny_bind ?_);unfold Builtin.SmallTypes.ownedTupleHandOut;have z6:xg (he.push { cls:=.type "tuple",data:=.seq #[x,y] }) z TI TO .ellipsis fb:=Heap.get?_push_of_some _ z5;refine wpAny_bind (wpAny_setField_rec z6 (by simp) λhf zf PH=>?_);have Sf:xg hf z TI TO (rawInt he.objs.size) fb:=zf;refine wpAny_setField_rec Sf (by simp) λhg zg PK=>?_;have Qj:xg hg z TI TO (rawInt he.objs.size) false:=zg;have up:∀c o,c≠z->he.get? c=some o->hg.get? c=some o:=λc o n1 e=>PK.extBut _ _ n1 (PH.extBut _ _ n1 (Heap.get?_push_of_some _ e));have Hm:IsPair hg he.objs.size x y:=PK.extBut _ _ (Nat.ne_of_gt Qi) (PH.extBut _ _ (Nat.ne_of_gt Qi) (Heap.get?_push_size _ rfl));have Hn:hg.objs.size=he.objs.size+1:=by rw[PK.1,PH.1,Heap.size_push]
  rw[uW]at Qj Hm Hn;refine wpAny_pure ⟨_,rfl,(show Q (.ref he.objs.size) _ from ?_)⟩;rw[uW];exact hQ hg _ _ _ _ Qj (.inr ⟨_,_,rfl⟩) (up _ _ D.TOz MI) (Sd.at λo e=>up _ o D.i1z e) (Se.at λo e=>up _ o D.i2z e) Hm Hn λc o n1 n2 n3 n4 e=>up c o n1 (MJ c o n1 n2 n3 n4 e)
 rw[if_neg (by exact Bool.false_ne_true)];refine wpAny_bind ?_;simp only[List.forIn_toArray,List.forIn_cons,List.forIn_nil];refine wpAny_bind (wpAny_bind (wpAny_holding (show wpAny _ _ (Builtin.SmallTypes.nextOf (.ref i1) >>= _) _ _ _ from wpAny_bind (dZ (h1.extBut mr.extBut D.i1z) (hl.extBut mr.extBut D.l1z) hx λhb MG nG=>wpAny_pure ?_))));refine wpAny_pure ?_;refine wpAny_bind (wpAny_bind (wpAny_holding (show wpAny _ _ (Builtin.SmallTypes.nextOf (.ref i2) >>= _) _ _ _ from wpAny_bind (dZ ((h2.extBut mr.extBut D.i2z).extBut nG.extBut D.i12.symm) ((ht.extBut mr.extBut D.l2z).extBut nG.extBut D.l2i1) hy λhd PF vP=>wpAny_pure ?_))));refine wpAny_pure (wpAny_pure ?_);refine wpAny_bind (wpAny_newTuple ?_ (by show 2<=sizeLine;decide));have uW:hd.objs.size=s.heap.objs.size:=by rw[vP.1,nG.1,mr.1]
 have up:∀c o,hd.get? c=some o->(hd.push { cls:=.type "tuple",data:=.seq #[x,y] }).get? c=some o:=λc o e=>Heap.get?_push_of_some _ e;refine wpAny_pure ⟨_,rfl,(show Q (.ref hd.objs.size) _ from ?_)⟩;rw[uW];refine hQ _ f0 true a b (up _ _ (vP.extBut _ _ D.i2z.symm (nG.extBut _ _ D.i1z.symm Kj))) Co (up _ _ (vP.extBut _ _ D.TOi2 (nG.extBut _ _ D.TOi1 (mr.extBut _ _ D.TOz vO)))) ((MG.extBut vP.extBut D.i12).at λo e=>up _ o e) (PF.at λo e=>up _ o e) ?_ (by rw[Heap.size_push,uW]) λc o n1 n2 n3 n4 e=>up _ _ (vP.extBut _ _ n4 (nG.extBut _ _ n3 (mr.extBut _ _ n1 e)));rw[<-uW];exact Heap.get?_push_size _ rfl
theorem D7{z TI TO i1 i2 l t:Addr}{k:Nat}{xs ys:Array Value}{x a b f0:Value}{fb:Bool}{Q:Fin->Shared->Prop}(hh:A.handled=none)(D:ZipApart z TI TO i1 i2 l t)(hz:xg s.heap z TI TO f0 fb)(Co:pW f0)(vN:IsPair s.heap TI (.ref i1) (.ref i2))(vO:IsPair s.heap TO a b)(h1:s.heap.IsTupleIter i1 l k)(h2:s.heap.IsTupleIter i2 t k)(hl:s.heap.IsTuple l xs)(ht:s.heap.IsTuple t ys)(hx:xs[k]?=some x)(hy:ys[k]?=none)(hE:∀h' e,(∀c o,c≠z->c≠TO->c≠i1->c≠i2->s.heap.get? c=some o->h'.get? c=some o)->(∃o,h'.get? e=some o/\o.cls=.type "StopIteration")->E (.ref e) { s with heap:=h' }):
  wpAny (model prog w) A (Builtin.«zip.__next__» ⟨[.ref z],[]⟩) Q E s:=by
 refine(show wpAny _ _ (field (.ref z) 2 >>= _) _ _ _ from wpAny_bind (wpAny_field hz rfl (x:=.bool false) rfl ?_));refine(show wpAny _ _ (field (.ref z) 3 >>= _) _ _ _ from wpAny_bind (wpAny_field hz rfl (x:=.ref TI) rfl (wpAny_bind (wpAny_seqItems vN rfl ?_))));refine(show wpAny _ _ (Builtin.SmallTypes.ownedTupleIsFree (.ref z) >>= _) _ _ _ from wpAny_bind (rK hz Co ?_ λha Kj mr=>?_))
 ·rw[if_pos (by rfl)];refine wpAny_bind (wpAny_rule (wpAny_bind (wpAny_field hz rfl (x:=.ref TO) rfl (wpAny_bind (wpAny_setField_rec hz (by simp) λha Kj mr=>wpAny_bind ?_)))));have Jo:xg ha z TI TO .ellipsis fb:=Kj;simp only[List.forIn_cons,List.forIn_nil,List.zipIdx_cons,List.zipIdx_nil];refine wpAny_bind (wpAny_bind (wpAny_onRaise (show wpAny _ _ (Builtin.SmallTypes.nextOf (.ref i1) >>= _) _ _ _ from wpAny_bind (dZ (h1.extBut mr.extBut D.i1z) (hl.extBut mr.extBut D.l1z) hx λhb MG nG=>wpAny_pure ?_))));have to2:IsPair hb TO a b:=nG.extBut _ _ D.TOi1 (mr.extBut _ _ D.TOz vO);refine wpAny_bind (wpAny_seqItems to2 rfl (wpAny_bind (wpAny_updateSeq_pair to2 λhc to3 xE=>wpAny_bind (wpAny_letGo (wpAny_pure ?_)))));refine wpAny_bind (wpAny_bind (wpAny_onRaise (show wpAny _ _ (Builtin.SmallTypes.nextOf (.ref i2) >>= _) _ _ _ from wpAny_bind
   (jf hh (((h2.extBut mr.extBut D.i2z).extBut nG.extBut D.i12.symm).extBut xE.extBut D.TOi2.symm) (((ht.extBut mr.extBut D.l2z).extBut nG.extBut D.l2i1).extBut xE.extBut D.l2TO) hy λhd e vP he=>?_))))
  obtain⟨oe,PL,Qk⟩:=he;have z2:xg hd z TI TO .ellipsis fb:=vP _ _ D.i2z.symm (xE.extBut _ _ D.TOz.symm (nG.extBut _ _ D.i1z.symm Jo));have Sg:e≠z:=λq=>by subst q;rw[z2]at PL;cases PL;simp at Qk
  exact wpAny_setField_rec z2 (by simp) λM0 _ MK=>hE M0 e (λc o n1 n2 n3 n4 q=>MK.extBut _ _ n1 (vP _ _ n4 (xE.extBut _ _ n2 (nG.extBut _ _ n3 (mr.extBut _ _ n1 q))))) ⟨oe,MK.extBut _ _ Sg PL,Qk⟩
 rw[if_neg (by exact Bool.false_ne_true)];refine wpAny_bind ?_;simp only[List.forIn_toArray,List.forIn_cons,List.forIn_nil];refine wpAny_bind (wpAny_bind (wpAny_holding (show wpAny _ _ (Builtin.SmallTypes.nextOf (.ref i1) >>= _) _ _ _ from wpAny_bind (dZ (h1.extBut mr.extBut D.i1z) (hl.extBut mr.extBut D.l1z) hx λhb MG nG=>wpAny_pure ?_))));refine wpAny_pure ?_;refine wpAny_bind (wpAny_bind (wpAny_holding (show wpAny _ _ (Builtin.SmallTypes.nextOf (.ref i2) >>= _) _ _ _ from wpAny_bind (jf hh ((h2.extBut mr.extBut D.i2z).extBut nG.extBut D.i12.symm) ((ht.extBut mr.extBut D.l2z).extBut nG.extBut D.l2i1) hy λhd e vP he=>?_))));exact hE hd e (λc o n1 n2 n3 n4 q=>vP _ _ n4 (nG.extBut _ _ n3 (mr.extBut _ _ n1 q))) he
theorem D8{z TI TO:Addr}{f0:Value}{b:Bool}{Q:Value->Shared->Prop}(hz:xg s.heap z TI TO f0 b)(h:Q (.ref z) s):wpAny (model prog w) A (pyIter (.ref z)) Q E s:=by have ty:s.TypeIs (.ref z) "zip":=⟨_,hz,rfl⟩;exact wpAny_pyIter_slot ty F.slot_zip_iter (wpAny_call_entry F.slot_zip_iter ty F.entry_zip_iter (show wpAny _ _ (ret (.ref z)) _ _ s from wpAny_pure ⟨_,rfl,"zip",_,ty,F.slot_zip_next.lookup,h⟩) (F.args_zip_iter_1 _))
theorem om{z TI TO i1 i2 l t:Addr}{k:Nat}{xs ys:Array Value}{x y a b f0:Value}{fb:Bool}{Q:Option Value->Shared->Prop}(D:ZipApart z TI TO i1 i2 l t)(hz:xg s.heap z TI TO f0 fb)(Co:pW f0)(vN:IsPair s.heap TI (.ref i1) (.ref i2))(vO:IsPair s.heap TO a b)(h1:s.heap.IsTupleIter i1 l k)(h2:s.heap.IsTupleIter i2 t k)(hl:s.heap.IsTuple l xs)(ht:s.heap.IsTuple t ys)(hx:xs[k]?=some x)(hy:ys[k]?=some y)(hQ:∀h' f1 Jn a' b',xg h' z TI TO f1 Jn->pW f1->IsPair h' TO a' b'->h'.IsTupleIter i1 l (k+1)->h'.IsTupleIter i2 t (k+1)->IsPair h' s.heap.objs.size x y->h'.objs.size=s.heap.objs.size+1 ->
   (∀c o,c≠z->c≠TO->c≠i1->c≠i2->s.heap.get? c=some o->h'.get? c=some o)->Q (some (.ref s.heap.objs.size)) { s with heap:=h' }):
  wpAny (model prog w) A (pyNext (.ref z)) Q E s:=by
 have hT:s.TypeIs (.ref z) "zip":=⟨_,hz,rfl⟩;unfold pyNext;exact wpAny_bind (wpAny_attempt (wpAny_callSpecial?_slot (name:=Str.ofString "__next__") hT F.slot_zip_next (wpAny_call_entry F.slot_zip_next hT F.entry_zip_next
  (B5 D hz Co vN vO h1 h2 hl ht hx hy λh' f1 Jn a' b' a1 a2 a3 a4 a5 a6 a7 a8=>wpAny_pure (hQ h' f1 Jn a' b' a1 a2 a3 a4 a5 a6 a7 a8)) (F.args_zip_next_1 _))))
theorem qG{z TI TO i1 i2 l t:Addr}{k:Nat}{xs ys:Array Value}{x a b f0:Value}{fb:Bool}{Q:Option Value->Shared->Prop}(hh:A.handled=none)(D:ZipApart z TI TO i1 i2 l t)(hz:xg s.heap z TI TO f0 fb)(Co:pW f0)(vN:IsPair s.heap TI (.ref i1) (.ref i2))(vO:IsPair s.heap TO a b)(h1:s.heap.IsTupleIter i1 l k)(h2:s.heap.IsTupleIter i2 t k)(hl:s.heap.IsTuple l xs)(ht:s.heap.IsTuple t ys)(hx:xs[k]?=some x)(hy:ys[k]?=none)(hQ:∀h',(∀c o,c≠z->c≠TO->c≠i1->c≠i2->s.heap.get? c=some o->h'.get? c=some o)->Q none { s with heap:=h' }):wpAny (model prog w) A (pyNext (.ref z)) Q E s:=by have hT:s.TypeIs (.ref z) "zip":=⟨_,hz,rfl⟩;unfold pyNext;refine wpAny_bind (wpAny_attempt (wpAny_callSpecial?_slot (name:=Str.ofString "__next__") hT F.slot_zip_next (wpAny_call_entry F.slot_zip_next hT F.entry_zip_next (D7 hh D hz Co vN vO h1 h2 hl ht hx hy λh' e hk he=>?_) (F.args_zip_next_1 _))));obtain⟨o,ho,hc⟩:=he;exact wpAny_bind (wpAny_isInstance (T:="StopIteration") (b:=true) ⟨o,ho,hc⟩ isSubtype_stop (wpAny_pure (hQ _ hk)))
end
abbrev yA(h:Heap)(l:Addr):Heap:=h.push { cls:=.type "tuple_iterator",data:=.fields #[.ref l,.int 0 0] }
abbrev yB(h:Heap)(l t:Addr):Heap:=(yA h l).push { cls:=.type "tuple_iterator",data:=.fields #[.ref t,.int 0 0] }
abbrev yC(h:Heap)(l t:Addr):Heap:=(yB h l t).push { cls:=.type "tuple",data:=.seq #[.ref h.objs.size,.ref (yA h l).objs.size] }
abbrev yD(h:Heap)(l t:Addr):Heap:=(yC h l t).push { cls:=.type "tuple",data:=.seq #[.none,.none] }
abbrev yE(h:Heap)(l t:Addr):Heap:=(yD h l t).push { cls:=.type "zip",data:=.fields #[.none,.bool false,.bool false,.ref (yB h l t).objs.size,.ref (yC h l t).objs.size] }
theorem zZ(l t:Addr)(xs ys:Array Value):Meets (Builtin.«zip.__new__» ⟨[.type "zip",.ref l,.ref t],[]⟩) (λ_ R s=>s.heap.IsTuple l xs/\s.heap.IsTuple t ys/\R (.ok (.ret (.ref (yD s.heap l t).objs.size))) { s with heap:=yE s.heap l t }) :=
 .of_wp λprog w A R s h=>by
  obtain⟨hp,g,d,tk,os⟩:=s;obtain⟨hl,ht,h⟩:=h;have Sh:=sub_zip;have e1:Heap.IsTuple (Shared.heap ⟨hp,g,d,tk,os⟩) l xs:=hl;have e2:Heap.IsTuple (Shared.heap ⟨hp.push { cls:=.type "tuple_iterator",data:=.fields #[.ref l,.int 0 0] },g,d,tk,os⟩) t ys:=Heap.IsTuple.push ht _
  wp_walk using wpAny_pyIter_tuple e1,wpAny_pyIter_tuple e2
  exact⟨_,rfl,h⟩
section
variable{prog:Program}{w:World}{A:Around}{E:Value->Shared->Prop}{s:Shared}
theorem B6{l t:Addr}{xs ys:Array Value}{Q:Value->Shared->Prop}(hl:s.heap.IsTuple l xs)(ht:s.heap.IsTuple t ys)(h:∀h',IsZip h' (s.heap.objs.size+4) (s.heap.objs.size+2) (s.heap.objs.size+3) .none->IsPair h' (s.heap.objs.size+2) (.ref s.heap.objs.size) (.ref (s.heap.objs.size+1))->IsPair h' (s.heap.objs.size+3) .none .none ->
   h'.IsTupleIter s.heap.objs.size l 0->h'.IsTupleIter (s.heap.objs.size+1) t 0->(∀c o,s.heap.get? c=some o->h'.get? c=some o)->Q (.ref (s.heap.objs.size+4)) { s with heap:=h' }):
  wpAny (model prog w) A (call (.type "zip") [.ref l,.ref t]) Q E s:=by
 refine callType_new F.called_zip (by decide) (F.typeCall_zip_2 _ _) (F.newCall_zip_2 _ _) (λobj=>F.args_object_init_3 obj _ _) F.entry_zip_new (zZ l t xs ys) ⟨hl,ht,?_⟩;have s1:(yA s.heap l).objs.size=s.heap.objs.size+1:=Heap.size_push ..;have s2:(yB s.heap l t).objs.size=s.heap.objs.size+2:=by rw[Heap.size_push,s1]
 have s3:(yC s.heap l t).objs.size=s.heap.objs.size+3:=by rw[Heap.size_push,s2]
 have s4:(yD s.heap l t).objs.size=s.heap.objs.size+4:=by rw[Heap.size_push,s3]
 have up:∀{g:Heap}{o p:Obj}{c:Addr},g.get? c=some o->(g.push p).get? c=some o:=λe=>Heap.get?_push_of_some _ e;have g5:(yE s.heap l t).get? (yD s.heap l t).objs.size=some _:=Heap.get?_push_size _ rfl;have g4:(yE s.heap l t).get? (yC s.heap l t).objs.size=some _:=up (Heap.get?_push_size _ rfl);have g3:(yE s.heap l t).get? (yB s.heap l t).objs.size=some _:=up (up (Heap.get?_push_size _ rfl));have g2:(yE s.heap l t).get? (yA s.heap l).objs.size=some _:=up (up (up (Heap.get?_push_size _ rfl)));have g1:(yE s.heap l t).get? s.heap.objs.size=some _:=up (up (up (up (Heap.get?_push_size _ rfl))));show _/\_;rw[s2,s3,s4]at g5;rw[s1,s2]at g3;rw[s3]at g4;rw[s1]at g2;rw[s4];exact⟨⟨_,g5,rfl⟩,h _ g5 g3 g4 ⟨_,g1,rfl,rfl⟩ ⟨_,g2,rfl,rfl⟩ λc o q=>up (up (up (up (up q))))⟩
end
def D9(K:PySem.W.Frag)(a b:Addr):It :=
 ⟨λi H=>∃xs ys x y,ao K H a xs/\ao K H b ys/\xs[i]?=some x/\ys[i]?=some y,
  λi H v H'=>∃p x y,H p=none/\v=.ref p/\H'=upd H p (.tup [x,y])/\(∀xs,ao K H a xs->xs[i]?=some x)/\∀ys,ao K H b ys->ys[i]?=some y,
  λi H=>∃xs ys x,ao K H a xs/\ao K H b ys/\xs[i]?=some x/\ys.length<=i⟩
theorem B7{P:Program}{w:World}{K:PySem.W.Frag}{nm:Str}{pos:Pos}{z TI TO i1 i2 l1 l2:Addr}(D:ZipApart z TI TO i1 i2 l1 l2):
  Turn P w K (.Name nm pos) (D9 K l1 l2) [z,TI,TO,i1,i2] z (λi h=>(∃f0 fb,xg h z TI TO f0 fb/\pW f0)/\IsPair h TI (.ref i1) (.ref i2)/\(∃a b,IsPair h TO a b)/\h.IsTupleIter i1 l1 i/\h.IsTupleIter i2 l2 i)where
 mem:=by simp
 obj:=λi h st b hb=>by
  obtain⟨⟨f0,fb,hz,_⟩,vN,⟨a,b',vO⟩,⟨o1,e1,c1,d1⟩,⟨o2,e2,c2,d2⟩⟩:=st;simp only[List.mem_cons,List.not_mem_nil,or_false]at hb;rcases hb with rfl|rfl|rfl|rfl|rfl
  ·exact⟨_,hz,λv q=>by cases q⟩
  ·exact⟨_,vN,λv q=>by cases q⟩
  ·exact⟨_,vO,λv q=>by cases q⟩
  ·exact⟨_,e1,λv q=>by rw[d1]at q;cases q⟩
  exact⟨_,e2,λv q=>by rw[d2]at q;cases q⟩
 keep:=λi h h' st k=>by obtain⟨⟨f0,fb,hz,hf⟩,vN,⟨a,b',vO⟩,h1,h2⟩:=st;exact⟨⟨f0,fb,k z (by simp) _ hz,hf⟩,k TI (by simp) _ vN,⟨a,b',k TO (by simp) _ vO⟩,h1.at λo e=>k i1 (by simp) o e,h2.at λo e=>k i2 (by simp) o e⟩
 item:=by
  intro X hP hw hK hc i pins s σ H E I hf st hg;subst hP hw hK;obtain⟨⟨f0,fb,hz,Co⟩,vN,⟨a,b,vO⟩,h1,h2⟩:=st;obtain⟨xs,ys,x,y,hx,hy,ex,ey⟩:=hg;obtain⟨aM,rv,p,Si⟩:=I.tuple hx;obtain⟨jn,PM,p2,Sj⟩:=I.tuple hy;obtain⟨u,hu,ru⟩:=rv.get ex;obtain⟨u2,D6,Sk⟩:=PM.get ey;refine om D hz Co vN vO h1 h2 (show s.heap.IsTuple l1 aM.toArray from p) (show s.heap.IsTuple l2 jn.toArray from p2) (x:=u) (y:=u2) (by simpa using hu) (by simpa using D6) λh' f1 Jn a' b' a1 af a2 a3 a4 a5 a6 kk=>⟨_,rfl,?_⟩;refine(show wpAny _ _ (pure ()) _ _ _ from wpAny_pure ?_);have lt:∀{c o},s.heap.get? c=some o->s.heap.objs.size≠c:=λe=>Nat.ne_of_gt (Heap.lt_size e);have k2:∀c o,c∉[z,TI,TO,i1,i2]->s.heap.get? c=some o->h'.get? c=some o:=λc o hc e=>by simp only[List.mem_cons,List.not_mem_nil,or_false,not_or]at hc;exact kk c o hc.1 hc.2.2.1 hc.2.2.2.1 hc.2.2.2.2 e
  have tup:ax X.prog X.w (upd H s.heap.objs.size (.tup [x,y])) h' s.heap.objs.size (.tup [x,y]) :=
   ⟨by show 2<=sizeLine;decide,[u,u2],.cons ru (.cons Sk .nil),⟨_,a5,rfl,_,rfl⟩⟩
  have hn:=I.aq.fresh (Nat.le_refl s.heap.objs.size);refine⟨.ref s.heap.objs.size,_,I.Bj (t':=s.toks) k2 hf (Nat.le_refl _) tup,rfl,⟨_,x,y,hn,rfl,rfl,λzs hq=>by rw[I.iH hq hx];exact ex,λzs hq=>by rw[I.iH hq hy];exact ey⟩,
   ⟨⟨f1,Jn,a1,af⟩,kk _ _ D.TIz D.TITO D.TIi1 D.TIi2 vN,⟨_,_,a2⟩,a3,a4⟩,λc hc=>?_⟩
  have JZ:c≠s.heap.objs.size:=by
   simp only[List.mem_cons,List.not_mem_nil,or_false]at hc;obtain⟨o1,e1,_⟩:=h1;obtain⟨o2,e2,_⟩:=h2;rcases hc with rfl|rfl|rfl|rfl|rfl
   ·exact(lt hz).symm
   ·exact(lt vN).symm
   ·exact(lt vO).symm
   ·exact(lt e1).symm
   exact(lt e2).symm
  rw[aI JZ];exact(hf c hc).1
 done:=by intro X hP hw hK hc i pins s σ H E I hf st hg;subst hP hw hK;obtain⟨⟨f0,fb,hz,Co⟩,vN,⟨a,b,vO⟩,h1,h2⟩:=st;obtain⟨xs,ys,x,hx,hy,ex,he⟩:=hg;obtain⟨aM,rv,p,Si⟩:=I.tuple hx;obtain⟨jn,PM,p2,Sj⟩:=I.tuple hy;obtain⟨u,hu,ru⟩:=rv.get ex;have Sl:=PM.length;refine qG (I.ok.hd hc) D hz Co vN vO h1 h2 (show s.heap.IsTuple l1 aM.toArray from p) (show s.heap.IsTuple l2 jn.toArray from p2) (x:=u) (by simpa using hu) (by simp;lia) λh' kk=>⟨rfl,?_⟩;refine I.Fh (t':=s.toks) (ch:=[z,TI,TO,i1,i2]) (λc o hc e=>?_) hf;simp only[List.mem_cons,List.not_mem_nil,or_false,not_or]at hc;exact kk c o hc.1 hc.2.2.1 hc.2.2.2.1 hc.2.2.2.2 e
 self:=λ_ _ _ _ _ st h=>by obtain⟨⟨f0,fb,hz,_⟩,_⟩:=st;exact D8 hz h
section
variable{X:Cx}
def ML(K:PySem.W.Frag)(ta:TA):TI:=λσ H R=>ta σ H λvs H1=>∃a b,vs=[.ref a,.ref b]/\(∃xs,ao K H1 a xs)/\(∃ys,ao K H1 b ys)/\R (D9 K a b) H1
theorem EA(K:PySem.W.Frag){e1 e2:Expr}{ta:TA}{p pos FP:Pos}{nm:Str}(hg:Gl X "zip")(hm:X.mg "zip"=none)(ha:PA X [e1,e2] ta)(hK:X.K=K:=by rfl)(hs:starEach [e1,e2] X.env=(false,eval e1 X.env)::starEach [e2] X.env:=by rfl)(wV:(backTo pos (starEach [e2] X.env)).any (·.1)=false:=by rfl):
  PI X (.Name nm FP) (.Call (.Name "zip" p) [e1,e2] [] pos) (ML K ta):=by
 subst hK;intro pins s σ H R I h;refine wpAny_Call_Name_kw (oP I hg hm boot_zip ?_ (by decide) (by decide));refine PyProof.Rows.callWith_type1 (av (ha pos pins s σ H _ I h) λus s1 ⟨vs,H1,I1,r1,q1⟩=>?_) hs wV;obtain⟨a,b,rfl,⟨xs,hx⟩,⟨ys,hy⟩,q⟩:=q1;obtain⟨u,v,rfl,ru,rv⟩:=r1.two;cases ru;cases rv;obtain⟨aM,Ue,p1,_⟩:=I1.tuple hx;obtain⟨jn,Ki,p2,_⟩:=I1.tuple hy;have Ql:s1.heap.IsTuple a aM.toArray:=p1;have Qm:s1.heap.IsTuple b jn.toArray:=p2;refine B6 Ql Qm λh' hz vN vO h1 h2 kk=>?_;refine wpAny_pyIter_zip hz ?_;have la:a<s1.heap.objs.size:=by obtain⟨o,ho,_⟩:=Ql;exact Heap.lt_size ho
 have lb:b<s1.heap.objs.size:=by obtain⟨o,ho,_⟩:=Qm;exact Heap.lt_size ho
 have I2:Inv X pins σ H1 { s1 with heap:=h' }:=I1.kept (t':=s1.toks) λb o e=>kk b o e
 refine⟨s1.heap.objs.size+4,[s1.heap.objs.size+4,s1.heap.objs.size+2,s1.heap.objs.size+3,s1.heap.objs.size,s1.heap.objs.size+1],_,_,H1,rfl,I2,B7 (zipApart_new la lb),⟨⟨_,_,hz,.inl rfl⟩,vN,⟨_,_,vO⟩,h1,h2⟩,λc hc=>?_,q⟩;have hle:s1.heap.objs.size<=c:=by
  simp only[List.mem_cons,List.not_mem_nil,or_false]at hc;rcases hc with rfl|rfl|rfl|rfl|rfl
  ·exact Nat.le_add_right _ _
  ·exact Nat.le_add_right _ _
  ·exact Nat.le_add_right _ _
  ·exact Nat.le_refl _
  exact Nat.le_add_right _ _
 exact I1.p9 (H':=H1) hle (I1.aq.fresh hle)
end
section
variable{K:PySem.W.Frag}{g:TG}{σ:St}{H:Hp}
theorem EB{a b:Addr}{xs ys:List V}{tb:TS}{D:Ends}(hlen:ys.length<xs.length)(Pv:Nat->St->Hp->Prop)(h0:Pv 0 σ H)(hl:∀i σ H,i<=ys.length->Pv i σ H->ao K H a xs/\ao K H b ys)(hs:∀(i:Nat)(x y:V)(p:Addr)(σ:St)(H:Hp),xs[i]?=some x->ys[i]?=some y->Pv i σ H->H p=none->g (.ref p) σ (upd H p (.tup [x,y])) λσ2 H2=>tb { D with nx:=Pv (i+1),ct:=Pv (i+1),bk:=D.nx } σ2 H2)(hd:∀σ H,Pv ys.length σ H->D.nx σ H):
  ∃W:Nat->Nat->St->Hp->Prop,(∃m,W 0 m σ H)/\∀i m σ H,W i m σ H ->
   ((D9 K a b).stop i H/\D.nx σ H)\/((D9 K a b).go i H/\∃N:St->Hp->Prop,(∀σ' H',N σ' H'->∃m',m'<m/\W (i+1) m' σ' H')/\∀x H',(D9 K a b).Ae i H x H'->g x σ H' λσ2 H2=>tb { D with nx:=N,ct:=N,bk:=D.nx } σ2 H2):=by
 refine⟨λi m σ H=>m=ys.length-i/\i<=ys.length/\Pv i σ H,⟨ys.length,by simp,Nat.zero_le _,h0⟩,?_⟩;rintro i m σ' H' ⟨rfl,hi,p⟩;obtain⟨q1,q2⟩:=hl i σ' H' hi p;by_cases bM:i<ys.length
 ·have GI:i<xs.length:=by lia
  refine .inr ⟨⟨xs,ys,xs[i],ys[i],q1,q2,by simp[GI],by simp[bM]⟩,Pv (i+1),λσ2 H2 z=>⟨ys.length-(i+1),by lia,rfl,bM,z⟩,λx H2 y=>?_⟩;obtain⟨pp,x1,y1,hn,rfl,rfl,ex,ey⟩:=y;exact hs i x1 y1 pp σ' _ (ex xs q1) (ey ys q2) p hn
 have e:i=ys.length:=by lia
 subst e;exact .inl ⟨⟨xs,ys,xs[ys.length],q1,q2,by simp[hlen],Nat.le_refl _⟩,hd σ' H' p⟩
end
abbrev RI:=Addr×Key×Value×Value
def stI(acc:List (Key×Value))(q:RI):List (Key×Value):=stored acc q.2.1 q.2.2.2
theorem A4:∀(m:List RI)(acc:List (Key×Value)),(m.foldl stI acc).length<=acc.length+m.length
 |[],_=>Nat.le_refl _
 |q::m,acc=>by
  have h1:=A4 m (stI acc q);have h2:(stI acc q).length<=acc.length+1:=by
   unfold stI stored;split
   ·rw[List.length_map];lia
   simp
  rw[List.foldl_cons,List.length_cons];lia
section
variable{prog:Program}{w:World}{A:Around}{d it l:Addr}{L:List RI}{h0:Heap}
theorem B8(hu:A.units+3<cLine)(hh:A.handled=none)(hL:h0.IsList l (L.map λq=>Value.ref q.1).toArray)(hq:∀q∈L,h0.IsTuple q.1 #[q.2.2.1,q.2.2.2]/\(aL prog w).is q.2.1 q.2.2.1=true)(hd:h0.objs.size<=d)(hi:h0.objs.size<=it)(PN:d≠it)(hz:L.length<=sizeLine):
  ∀(rest done:List RI)(s:Shared)(R:Result->Shared->Prop),L=done++rest->(∀b o,h0.get? b=some o->s.heap.get? b=some o)->s.heap.IsListIter it l done.length ->
   s.heap.DictOf (aL prog w) d (done.foldl stI []) ->
   (∀h' tk,(∀b o,h0.get? b=some o->h'.get? b=some o)->h'.DictOf (aL prog w) d (L.foldl stI [])->R (.ok (.ret .none)) { s with heap:=h',toks:=tk }) ->
   codeAny (model prog w) A (.builtin "dict.update.loop" ⟨[.ref d,.ref it,rawInt done.length,.none],[]⟩) R s:=by
 intro rest;have olds:∀{h h':Heap}{x:Addr},h0.objs.size<=x->(∀b o,h0.get? b=some o->h.get? b=some o)->Heap.ExtBut x h h'->∀b o,h0.get? b=some o->h'.get? b=some o :=
  λhx k e b o hb=>e b o (λz=>absurd (Heap.lt_size hb) (by rw[z];exact Nat.not_lt.mpr hx)) (k b o hb)
 obtain⟨ol,E7,zl⟩:=hL
 induction rest with
 |nil =>
  intro done s R e k hit dd hR;rw[List.append_nil]at e;subst e;refine codeAny_builtin uP ?_;rw[Around.under_plainId kr _];refine(show wpAny _ A.in1 (pyNext (.ref it) >>= _) _ _ s from wpAny_bind (wpAny_pyNext_list_end hh hit ⟨ol,k _ _ E7,zl⟩ (by simp) λh' eb=>?_));exact(show wpAny _ A.in1 (Builtin.Dict.addKeywords d [] >>= _) _ _ _ from wpAny_bind (wpAny_pure (wpAny_pure (hR h' s.toks (olds hi k eb) (dd.extBut eb PN)))))
 |cons q rest ih =>
  intro done s R e k hit dd hR;refine codeAny_builtin uP ?_;rw[Around.under_plainId kr _];have hx:(L.map λq=>Value.ref q.1).toArray[done.length]?=some (.ref q.1):=by rw[e];simp
  refine(show wpAny _ A.in1 (pyNext (.ref it) >>= _) _ _ s from wpAny_bind (wpAny_pyNext_list_item hit ⟨ol,k _ _ E7,zl⟩ hx λh' F4 hs=>?_));have k':=olds hi k hs.extBut;obtain⟨⟨ot,Qn,So,nt,Sq⟩,uu⟩:=hq q (by rw[e];simp);have Au:=dd.extBut hs.extBut PN;refine(show wpAny _ A.in1 (holding [Value.ref q.1] _ >>= _) _ _ _ from wpAny_bind (wpAny_holding (wpAny_bind (wpAny_tryCatch ?_))));unfold Builtin.Dict.pairItems;refine wpAny_bind (wpAny_typeOf (T:="tuple") ⟨ot,k' _ _ Qn,So⟩ (wpAny_ite_split (λ_=>?_) (λz=>absurd (by decide) z)));refine wpAny_bind (wpAny_seqItems (k' _ _ Qn) Sq (wpAny_pure ?_));have hle:=A4 done [];have Ug:done.length+(rest.length+1)=L.length:=by rw[e];simp
  have hle:(done.foldl stI []).length<=done.length:=by simpa using hle
  refine(show wpAny _ A.in1 (holding [q.2.2.1,q.2.2.2] (dictSet d q.2.2.1 q.2.2.2)) _ _ _ from wpAny_holding (wpAny_dictSet_pairs (hsz:=by lia) uu Au λh2 JL um=>?_));refine wpAny_pure ⟨plainId_quiet kr _,?_⟩;have PQ:h2.IsListIter it l (done.length+1):=by obtain⟨oi,Sr,zi⟩:=F4;exact⟨oi,(um.2 it (Ne.symm PN)).trans Sr,zi⟩
  have hr:rawInt ((done.length:Int)+1)=rawInt ((done++[q]).length:Int):=by simp
  rw[hr];refine ih (done++[q]) _ R (by rw[e];simp) (olds hd k' um.extBut) (by simpa using PQ) (by simpa[stI]using JL) λh3 tk k3 Ss=>?_;exact hR h3 tk k3 Ss
end
abbrev VI:=Addr×Key×V
def Cp(acc:List (Key×V))(q:VI):List (Key×V):=putK acc q.2.1 q.2.2
abbrev NG:List VI->List RI->Prop:=Paired λp q=>p.1=q.1/\p.2.1=q.2.1/\RelV (kV p.2.1) q.2.2.1/\RelV p.2.2 q.2.2.2
theorem NG.fold{L:List VI}{M:List RI}(r:NG L M):∀{acc:List (Key×V)}{B9:List (Key×Value)},KV acc B9->KV (L.foldl Cp acc) (M.foldl stI B9):=by
 induction r with
 |nil=>intro acc B9 h;exact h
 |@cons p q ps qs h t ih =>
  intro acc B9 ha;rw[List.foldl_cons,List.foldl_cons];refine ih ?_;have:=ha.put p.2.1 h.2.2.2;unfold Cp stI;rw[<-h.2.1];exact this
theorem A5:∀(m:List VI)(acc:List (Key×V)),(m.foldl Cp acc).length<=acc.length+m.length
 |[],_=>Nat.le_refl _
 |q::m,acc=>by have h1:=A5 m (Cp acc q);have h2:(Cp acc q).length<=acc.length+1:=gK _ _ _;rw[List.foldl_cons,List.length_cons];lia
section
variable{X:Cx}{pins:List (Addr×Obj)}{σ:St}{H:Hp}{s:Shared}
theorem MM(I:Inv X pins σ H s):∀(L:List VI),(∀q∈L,ao X.K H q.1 [kV q.2.1,q.2.2]) ->
  ∃M:List RI,NG L M/\(∀q∈M,s.heap.IsTuple q.1 #[q.2.2.1,q.2.2.2]/\(aL X.prog X.w).is q.2.1 q.2.2.1=true)/\∀aM,aW (L.map λq=>V.ref q.1) aM->aM=M.map λq=>Value.ref q.1
 |[],_=>⟨[],.nil,λq hq=>absurd hq List.not_mem_nil,λaM h=>by cases h;rfl⟩
 |p::L,h=>by
  obtain⟨M,r,hM,hv⟩:=MM I L λq hq=>h q (List.mem_cons_of_mem _ hq);obtain⟨aM,rv,ht,_⟩:=I.tuple (h p List.mem_cons_self);cases rv with
  |@cons _ u _ _ r1 rv =>
   cases rv with
   |@cons _ u2 _ _ r2 rv =>
    cases rv;refine⟨(p.1,p.2.1,u,u2)::M,.cons ⟨rfl,rfl,r1,r2⟩ r,λq hq=>?_,λaM hi=>?_⟩
    ·rcases List.mem_cons.mp hq with e|hq
     ·subst e;exact⟨ht,lK r1⟩
     exact hM q hq
    cases hi with
    |cons q1 qv =>
     cases q1;rw[hv _ qv,List.map_cons]
end
def MN(K:PySem.W.Frag):List V->Hp->VK->Prop:=λvs H Q=>∃(l:Addr)(L:List VI),vs=[V.ref l]/\H l=some (.lst (L.map λq=>V.ref q.1))/\(∀q∈L,ao K H q.1 [kV q.2.1,q.2.2])/\∀p,H p=none->Q (.ref p) (upd H p (.dK (L.foldl Cp [])))
theorem zb{X:Cx}(K:PySem.W.Frag)(hu:X.A.units+16<cLine)(hK:X.K=K:=by rfl)(hc:X.calm=true:=by rfl):bY X (.type "dict") (MN K):=by
 subst hK;intro pins s σ H vs us Q I r h;obtain⟨l,L,rfl,hl,hq,q⟩:=h;obtain⟨u,rfl,ru⟩:=vals1 r;cases ru;obtain⟨M,rM,hM,hv⟩:=MM I L hq;obtain⟨aM,n,rv,ho,hz⟩:=I.lst hl;obtain rfl:=hv _ rv;rw[List.length_map]at hz;have hlen:L.length=M.length:=Paired.length rM;refine callType_codes (Q₁:=λobj s₁=>obj=.ref s.heap.objs.size/\s₁={ s with heap:=s.heap.push { cls:=.type "dict",data:=.dict #[] } }) F.kt_called_dict (F.kt_typeCall_dict_1 _) F.entry_dict_init (kt_code_dict_new _ ⟨rfl,rfl⟩) ?_;rintro obj s₁ ⟨rfl,rfl⟩;have qC:(s.heap.push { cls:=.type "dict",data:=.dict #[] }).get? s.heap.objs.size=some { cls:=.type "dict",data:=.dict #[] }:=Heap.get?_push_size _ rfl;have hT:(⟨s.heap.push { cls:=.type "dict",data:=.dict #[] },s.gens,s.drawn,s.toks,s.os⟩:Shared).TypeIs (.ref s.heap.objs.size) "dict":=⟨_,qC,rfl⟩;refine⟨hT,F.args_dict_init_2 _ _,?_⟩;unfold Builtin.«dict.__init__»;refine wpAny_bind ?_;unfold Builtin.Dict.selfAndRest;refine wpAny_bind (wpAny_notOrdered_dict hT (show wpAny _ _ (pure (s.heap.objs.size,[Value.ref l])) _ _ _ from wpAny_pure (show wpAny _ _ (Builtin.Dict.updateFrom "dict.__init__" s.heap.objs.size (.ref l) [] .none) _ _ _ from ?_)));unfold Builtin.Dict.updateFrom;have Kg:(s.heap.push { cls:=.type "dict",data:=.dict #[] }).get? l=some { cls:=.type "list",data:=.seq (M.map λq=>Value.ref q.1).toArray n }:=Heap.get?_push_of_some _ ho
 refine wpAny_bind (wpAny_typeOf (T:="list") ⟨_,Kg,rfl⟩ (wpAny_ite_split (λ_=>?_) (λz=>absurd (by decide) z)));refine wpAny_bind (Bs (xs:=(M.map λq=>Value.ref q.1).toArray) (k:=n) Kg (I.ok.hd hc) λh2 Uh k2=>wpAny_ite_split (λ_=>wpAny_bind (wpAny_rule ?_)) (λz=>absurd rfl z));have MA:h2.IsList l (M.map λq=>Value.ref q.1).toArray:=⟨_,k2 _ _ Kg,rfl,n,rfl⟩;refine wpAny_bind (wpAny_pyIter_list MA ?_);have k0:∀b o,s.heap.get? b=some o->(h2.push { cls:=.type "list_iterator",data:=.fields #[.ref l,.int 0 0] }).get? b=some o:=λb o e=>Heap.get?_push_of_some _ (k2 b o (Heap.get?_push_of_some _ e));have GI:s.heap.objs.size<h2.objs.size:=Heap.lt_size (k2 _ _ qC);refine wpAny_pure ⟨plainId_quiet kr _,?_⟩;refine(show codeAny _ _ (.builtin "dict.update.loop" ⟨[.ref s.heap.objs.size,.ref h2.objs.size,rawInt (([]:List RI).length:Nat),.none],[]⟩) _ _ from ?_);have Om:X.A.in1.units+3<cLine:=by show X.A.units+1+3<cLine;lia
 refine B8 (h0:=s.heap) (L:=M) (l:=l) (A:=X.A.in1) Om (I.ok.hd hc) ⟨_,ho,rfl,n,rfl⟩ hM (Nat.le_refl _) (Nat.le_of_lt GI) (Nat.ne_of_lt GI) (by lia) M [] _ _ rfl k0 ?_ ?_ ?_
 ·exact(show(h2.push { cls:=.type "list_iterator",data:=.fields #[.ref l,.int 0 0] }).IsListIter h2.objs.size l 0 from⟨_,Heap.get?_push_size _ rfl,rfl,rfl⟩)
 ·refine(show(h2.push { cls:=.type "list_iterator",data:=.fields #[.ref l,.int 0 0] }).DictOf (aL X.prog X.w) s.heap.objs.size []from ?_);exact⟨_,#[],0,Heap.get?_push_of_some _ (k2 _ _ qC),⟨rfl,rfl,rfl⟩,rfl,(λx hx=>by simp at hx),.nil,List.nodup_nil⟩
 intro h3 Su k3 dd;have hle:=A5 L [];refine⟨rfl,.ref s.heap.objs.size,_,I.laid (a:=s.heap.objs.size) (o:=.dK (L.foldl Cp [])) (t':=Su) k3 (Nat.le_refl _) ?_,rfl,q _ (I.aq.fresh (Nat.le_refl _))⟩;have hle:(L.foldl Cp []).length<=L.length:=by simpa using hle
 exact vD (by lia) (beq_eq_false_iff_ne.mpr (Ne.symm (Nat.ne_of_lt I.M9))) (NG.fold rM .nil) dd
structure sQ(b:Bool)(t:SetTable):Prop where
 led:t.led=b
 PR:t.dummies=#[]
 xh:t.place.toList.Pairwise (·<·)
theorem rL(xs:Array Nat)(j:Nat)(xh:xs.toList.Pairwise (·<·)):∀(fuel lo hi:Nat),lo<=hi->hi<=xs.size->hi-lo<=fuel->(∀(i x:Nat),i<lo->xs[i]?=some x->x<j)->(∀(i x:Nat),hi<=i->xs[i]?=some x->j<=x) ->
  (∀(i x:Nat),i<SetTable.below.go xs j fuel lo hi->xs[i]?=some x->x<j)/\(∀(i x:Nat),SetTable.below.go xs j fuel lo hi<=i->xs[i]?=some x->j<=x)/\SetTable.below.go xs j fuel lo hi<=xs.size
 |0,lo,hi,h1,h2,h3,a,b=>by
  unfold SetTable.below.go;obtain rfl:lo=hi:=by lia
  exact⟨a,b,h2⟩
 |fuel+1,lo,hi,h1,h2,h3,a,b=>by
  unfold SetTable.below.go;by_cases c:lo<hi
  ·rw[if_pos c];have ml:(lo+hi)/2<xs.size:=(by lia);have em:xs[(lo+hi)/2]?=some xs[(lo+hi)/2]:=(by simp[ml]);have eg:xs.getD ((lo+hi)/2) j=xs[(lo+hi)/2]:=(by simp[Array.getD,ml]);have le:∀{i k x y:Nat},i<=k->xs[i]?=some x->xs[k]?=some y->x<=y:=λ{i k x y} Sv hx hy=>by
    obtain⟨i1,e1⟩:=Array.getElem?_eq_some_iff.mp hx;obtain⟨k1,e2⟩:=Array.getElem?_eq_some_iff.mp hy;rcases Nat.lt_or_eq_of_le Sv with c|c
    ·have:=List.pairwise_iff_getElem.mp xh i k (by simpa using i1) (by simpa using k1) c;simp[e1,e2]at this;lia
    subst c;rw[hx]at hy;cases hy;exact Nat.le_refl _
   dsimp only;rw[eg];by_cases c2:xs[(lo+hi)/2]<j
   ·simp only[if_pos c2];exact rL xs j xh fuel _ hi (by lia) h2 (by lia) (λi x sP hx=>by have:=le (show i<=(lo+hi)/2 by lia) hx em;lia) b
   simp only[if_neg c2];exact rL xs j xh fuel lo _ (by lia) (by lia) (by lia) a (λi x sP hx=>by have:=le sP em hx;lia)
  rw[if_neg c];obtain rfl:lo=hi:=by lia
  exact⟨a,b,h2⟩
theorem xi{xs:Array Nat}(j:Nat)(xh:xs.toList.Pairwise (·<·)):(∀(i x:Nat),i<SetTable.below xs j->xs[i]?=some x->x<j)/\(∀(i x:Nat),SetTable.below xs j<=i->xs[i]?=some x->j<=x)/\SetTable.below xs j<=xs.size:=by unfold SetTable.below;refine rL xs j xh xs.size 0 xs.size (Nat.zero_le _) (Nat.le_refl _) (by lia) (λi x h=>by lia) λi x h e=>?_;have:=(Array.getElem?_eq_some_iff.mp e).1;lia
theorem zc{xs:Array Nat}{j:Nat}(xh:xs.toList.Pairwise (·<·))(ne:xs[SetTable.below xs j]?≠some j):(SetTable.insertAt xs (SetTable.below xs j) j).toList.Pairwise (·<·):=by
 obtain⟨h1,h2,h3⟩:=xi j xh;rw[SetTable.toList_insertAt];generalize SetTable.below xs j=p at h1 h2 h3 ne;have up:∀x∈xs.toList.drop p,j<x:=λx hx=>by
  obtain⟨k,hk,rfl⟩:=List.getElem_of_mem hx;rw[List.length_drop]at hk;have kl:p+k<xs.size:=by simp at hk;lia
  have e:xs[p+k]?=some xs[p+k]:=by simp[kl]
  have:=h2 (p+k) _ (by lia) e;rw[List.getElem_drop];simp only[Array.getElem_toList];rcases Nat.lt_or_eq_of_le this with c|c
  ·exact c
  exfalso;rcases Nat.eq_zero_or_pos k with z|z
  ·subst z;exact ne (by rw[show p=p+0 by rfl,e,<-c])
  have pl:p<xs.size:=by lia
  have ep:xs[p]?=some xs[p]:=by simp[pl]
  have a:=h2 p _ (Nat.le_refl _) ep;have b:=List.pairwise_iff_getElem.mp xh p (p+k) (by simpa using pl) (by simpa using kl) (by lia);simp at b;lia
 refine List.pairwise_append.mpr ⟨xh.sublist (List.take_sublist _ _),List.pairwise_cons.mpr ⟨up,xh.sublist (List.drop_sublist _ _)⟩,λa ha b hb=>?_⟩;have aj:a<j:=by
  obtain⟨k,hk,rfl⟩:=List.getElem_of_mem ha;rw[List.length_take]at hk;have kl:k<xs.size:=by simp at hk;lia
  rw[List.getElem_take];exact h1 k _ (by lia) (by simp[kl])
 rcases List.mem_cons.mp hb with rfl|hb
 ·exact aj
 have:=up b hb;lia
theorem sQ.standIn{b:Bool}{t:SetTable}(h:sQ b t)(n:Nat):sQ b (t.standIn n):=⟨h.led,rfl,by show(Array.range n).toList.Pairwise (·<·);rw[Array.toList_range];exact List.pairwise_lt_range⟩
theorem sQ.EC{b:Bool}{t:SetTable}(h:sQ b t):sQ b { t with plain:=false }:=⟨h.led,h.PR,h.xh⟩
theorem A6(j:Nat):SetTable.has #[] j=false:=by simp[SetTable.has]
theorem zd{b:Bool}{t:SetTable}(h:sQ b t)(j:Nat):(t.slot j=.empty/\t.place[SetTable.below t.place j]?≠some j)\/∃i,t.slot j=.live i:=by
 unfold SetTable.slot;by_cases c:t.place[SetTable.below t.place j]?==some j
 ·exact .inr ⟨SetTable.below t.place j,by simp only[c,if_true]⟩
 refine .inl ⟨?_,by simpa using c⟩;simp only[c,h.PR,A6];simp
theorem xj{b:Bool}{t:SetTable}(h:sQ b t)(f:Nat->Int)(hh:Int):∀(fuel:Nat)(p:SetTable.Probe)(j:Nat)(dm:Option Nat),p.dummy=none->SetTable.probe.go t f hh fuel p=some (.empty j dm)->dm=none/\t.place[SetTable.below t.place j]?≠some j
 |0,p,j,dm,_,e=>by unfold SetTable.probe.go at e;cases e
 |fuel+1,p,j,dm,hp,e=>by
  unfold SetTable.probe.go at e;have Sw:(t.advance p).dummy=none:=by
   unfold SetTable.advance;split
   ·exact hp
   exact hp
  rcases zd h p.j with⟨z,ne⟩|⟨i,z⟩
  ·rw[z]at e;simp only[Option.some.injEq,SetTable.Met.empty.injEq]at e;obtain⟨rfl,rfl⟩:=e;exact⟨hp,ne⟩
  rw[z]at e;simp only at e;split at e
  ·cases e
  exact xj h f hh fuel _ j dm Sw e
theorem sQ.layNew{b:Bool}{t:SetTable}(h:sQ b t)(es:Array (Int×Value))(hh:Int)(x:Value):sQ b (layNew t es hh x).2.1:=by
 unfold PySem.layNew;split
 ·rename_i slot wd e;have put:sQ b (t.put slot).1:=by
   unfold SetTable.freeSlot at e;split at e
   ·rename_i j dm e2;unfold SetTable.probe at e2;obtain⟨z1,z2⟩:=xj h _ _ _ _ j dm rfl e2;subst z1;obtain⟨rfl,_⟩:=Prod.mk.inj (Option.some.inj e);unfold SetTable.put;exact⟨h.led,by show(if SetTable.has t.dummies _ then _ else t.dummies)=#[];rw[h.PR,A6];rfl,zc h.xh z2⟩
   cases e
  dsimp only;unfold SetTable.orStandIn;split
  ·exact put
  exact put.standIn _
 exact h.standIn _
theorem sQ.relayAll{b:Bool}{t:SetTable}(h:sQ b t)(es:Array (Int×Value))(n:Nat):sQ b (relayAll t es n).2.1:=by
 unfold PySem.relayAll;split
 ·rename_i t' order e;dsimp only;split
  ·unfold SetTable.relaid SetTable.laid at e;obtain⟨ow,_,e⟩:=Option.bind_eq_some_iff.mp e;obtain⟨rfl,_⟩:=Prod.mk.inj (Option.some.inj e);refine⟨h.led,rfl,?_⟩;show(((List.range _).filterMap λj=>(ow.getD j none).map (j,·)).map (·.1)).Pairwise (·<·);rw[List.pairwise_map,List.pairwise_filterMap];refine List.pairwise_lt_range.imp λ{a c} MO x hx y hy=>?_;obtain⟨u,_,rfl⟩:=Option.map_eq_some_iff.mp hx;obtain⟨v,_,rfl⟩:=Option.map_eq_some_iff.mp hy;exact MO
  exact h.standIn _
 exact h.standIn _
def jg(w:World):Bool:=w.params.followText "set-order"
section
variable{prog:Program}{w:World}{K:Type}[DecidableEq K](knd:KeyKind prog w K)
def nW(h:Heap)(a:Addr)(S:K->Bool)(n:Nat):Prop :=
 ∃o es ep t,h.get? a=some o/\o.ExactSet/\o.data=.set es ep t/\ElemsOf knd es.toList/\(∀k,S k=true↔∃e∈es.toList,knd.is k e.2=true)/\es.size<scanBound/\t.fits es.size=true/\es.size=n/\sQ (!jg w) t
variable{knd}
variable{A:Around}{E:Value->Shared->Prop}{s:Shared}
theorem rN{h:Heap}{a:Addr}{o:Obj}{es:Array (Int×Value)}{ep:Nat}{t:SetTable}(ho:h.get? a=some o)(hex:o.ExactSet)(hd:o.data=.set es ep t){ez:Array (Int×Value)}{tz:SetTable}{S':K->Bool}(e1:ElemsOf knd ez.toList)(e2:∀k,S' k=true↔∃e∈ez.toList,knd.is k e.2=true)(e3:ez.size<scanBound)(e4:tz.fits ez.size=true)(e5:sQ (!jg w) tz):
  (h.update a (Obj.putSet ez tz)).get? a=some { o with data:=.set ez (ep+1) tz }/\nW knd (h.update a (Obj.putSet ez tz)) a S' ez.size:=by
 have g:=(SetOf_store (knd:=knd) ho hex hd e1 e2 e3 e4).1;exact⟨g,_,ez,ep+1,tz,g,hex,rfl,e1,e2,e3,e4,rfl,e5⟩
theorem A7{g:Bool->Sem Unit}(hg:∀(b:Bool)(z:Shared)(Q':Unit->Shared->Prop),Q' () z->wpAny (model prog w) A (g b) Q' E z){a:Addr}{o:Obj}{es:Array (Int×Value)}{ep:Nat}{t:SetTable}(ho:s.heap.get? a=some o)(hex:o.ExactSet)(hd:o.data=.set es ep t){ez:Array (Int×Value)}{tz:SetTable}{S':K->Bool}(e1:ElemsOf knd ez.toList)(e2:∀k,S' k=true↔∃e∈ez.toList,knd.is k e.2=true)(e3:ez.size<scanBound)(e4:tz.fits ez.size=true)(e5:sQ (!jg w) tz){wd:Bool}{R:Option Bool->Shared->Prop}(h:∀h',Heap.SameBut a s.heap h'->nW knd h' a S' ez.size->R (some true) { s with heap:=h' }):
  wpAny (model prog w) A (do
    storeSet a ez tz
    if(!wd&&tz.tooFull)=true then do
      g (relayAll tz ez (SetTable.grown ez.size)).2.2
      storeSet a (relayAll tz ez (SetTable.grown ez.size)).1 (relayAll tz ez (SetTable.grown ez.size)).2.1
      pure (some true)
     else pure (some true)) R E s:=by
 refine wpAny_bind (wpAny_storeSet_of ho hd ?_ (fits_of_scanBound e3));obtain⟨o1,S1⟩:=rN (knd:=knd) ho hex hd e1 e2 e3 e4 e5;have sb:=Heap.SameBut.update s.heap a (Obj.putSet ez tz);split
 ·have hp:=relayAll_perm tz ez (SetTable.grown ez.size);have hf:=relayAll_fits tz ez (SetTable.grown ez.size);have ht:=e5.relayAll ez (SetTable.grown ez.size);generalize relayAll tz ez (SetTable.grown ez.size)=Rl at hp hf ht ⊢;obtain⟨ey,ty,gv⟩:=Rl;dsimp only at hp hf ht ⊢;have f2:∀k,S' k=true↔∃e∈ey.toList,knd.is k e.2=true:=λk=>(e2 k).trans ⟨λ⟨e,he,q⟩=>⟨e,hp.mem_iff.mpr he,q⟩,λ⟨e,he,q⟩=>⟨e,hp.mem_iff.mp he,q⟩⟩;have hz:ey.size=ez.size:=by rw[<-Array.length_toList,hp.length_eq,Array.length_toList]
  have f3:ey.size<scanBound:=by rw[hz];exact e3
  refine wpAny_bind (hg _ _ _ (wpAny_bind (wpAny_storeSet_of o1 rfl ?_ (fits_of_scanBound f3))));obtain⟨_,S2⟩:=rN (knd:=knd) o1 hex rfl (e1.perm hp) f2 f3 hf ht;rw[hz]at S2;exact wpAny_pure (h _ (sb.trans (Heap.SameBut.update _ a _)) S2)
 exact wpAny_pure (h _ sb S1)
theorem ED{a:Addr}{S:K->Bool}{n:Nat}{k:K}{x:Value}{Q:Bool->Shared->Prop}(uu:knd.is k x=true)(xE:x.scannable=true)(hS:nW knd s.heap a S n)(xR:n+1<scanBound)(h:∀h',Heap.SameBut a s.heap h'->nW knd h' a (λk'=>S k'||decide (k'=k)) (if S k then n else n+1)->Q (!S k) { s with heap:=h' }):
  wpAny (model prog w) A (setAddHashed a x (knd.hash k)) Q E s:=by
 obtain⟨o,es,ep,t,ho,hex,hd,Dp,qF,hb,hf,hn,tok⟩:=hS;have room:es.size+1<scanBound:=by rw[hn];exact xR
 unfold setAddHashed setAddHashedIn;refine wpAny_holding (wpAny_bind (wpAny_setState_of ho hd hf ?_));dsimp only;rw[byScan_of xE hb Dp];simp only[↓reduceIte];unfold setAddByScan;refine wpAny_bind (wpAny_bind (wpAny_rule (wpAny_bind (wpAny_setScan_of uu ho hd hf Dp ?_))));cases hr:List.findIdx? (λe=>knd.is k e.2) es.toList with
 |some j =>
  dsimp only;obtain⟨jl,pj,_⟩:=List.findIdx?_eq_some_iff_getElem.mp hr;have sk:S k=true:=(qF k).mpr ⟨es.toList[j],List.getElem_mem jl,pj⟩;refine wpAny_pure (wpAny_pure ?_);have e:s={ s with heap:=s.heap }:=by cases s;rfl
  have z:=h s.heap (Heap.SameBut.refl a s.heap) ⟨o,es,ep,t,ho,hex,hd,Dp,λk'=>by rw[Bool.or_eq_true,decide_eq_true_eq,<-qF k'];exact⟨λu=>u.elim id (λe=>e▸sk),.inl⟩,hb,hf,by rw[sk];exact hn,tok⟩
  rw[sk]at z;rw[e];exact z
 |none =>
  dsimp only;have sk:S k=false:=by
   cases u:S k with
   |false=>rfl
   |true =>
    obtain⟨e,he,hp⟩:=(qF k).mp u;have:=List.findIdx?_eq_none_iff.mp hr e he;rw[hp]at this;cases this
  have gw:∀(b:Bool){z:Shared}{Q':Unit->Shared->Prop},Q' () z->wpAny (model prog w) A (match b with|true=>rule "set.scan.the-table-gave-way"|false=>pure ()) Q' E z:=λb z Q' q=>by cases b<;>first|exact wpAny_pure q|exact wpAny_rule q
  have hp:=layNew_perm t es (knd.hash k) x;have MP:=layNew_fits t es (knd.hash k) x;have MQ:=tok.layNew es (knd.hash k) x;generalize layNew t es (knd.hash k) x=Lz at hp MP MQ ⊢;obtain⟨ez,tz,wd,gv⟩:=Lz;dsimp only at hp MP MQ ⊢;rw[Array.toList_push]at hp;have f1:ElemsOf knd ez.toList:=(Dp.push uu xE).perm hp;have f2:∀k',(S k'||decide (k'=k))=true↔∃e∈ez.toList,knd.is k' e.2=true:=mem_push_iff uu qF hp;have zs:ez.size=es.size+1:=by rw[<-Array.length_toList,hp.length_eq,List.length_append,Array.length_toList];rfl
  have f3:ez.size<scanBound:=by rw[zs];exact room
  refine wpAny_bind (gw _ ?_);have fin:∀h',Heap.SameBut a s.heap h'->nW knd h' a (λk'=>S k'||decide (k'=k)) ez.size->Q true { s with heap:=h' }:=by intro h' sb S1;have z:=h h' sb;rw[sk]at z;rw[zs,hn]at S1;exact z S1
  split
  ·refine wpAny_bind ?_;rw[hashByValue_scannable 8 xE];refine wpAny_pure (A7 ?_ ho hex hd f1 f2 f3 ?_ ?_ ?_)
   ·intro b z Q' q;cases b<;>first|exact wpAny_pure q|exact wpAny_rule q
   ·split
    ·exact MP
    exact SetTable.fits_plain_off MP
   ·split
    ·exact MQ
    exact MQ.EC
   intro h' sb S1;dsimp only;exact wpAny_pure (fin h' sb S1)
  refine wpAny_bind (wpAny_pure ?_);simp only[↓reduceIte];refine A7 ?_ ho hex hd f1 f2 f3 MP MQ ?_
  ·intro b z Q' q;cases b<;>first|exact wpAny_pure q|exact wpAny_rule q
  intro h' sb S1;dsimp only;exact wpAny_pure (fin h' sb S1)
end
section
variable{prog:Program}{w:World}{A:Around}{E:Value->Shared->Prop}{s:Shared}
theorem CA(a:Value){Q₁:Value->Shared->Prop}(h:Q₁ (.ref s.heap.objs.size) { s with heap:=s.heap.push { cls:=.type "set",dict:=none,data:=.set #[] 0 (.fresh 0 0 (!jg w)) } }):
  codeAny (model prog w) A (.call (.builtin "set.__new__") ⟨[.type "set",a],[]⟩) (wants Q₁ E) s:=by
 refine codeAny_of_tree (show wpAny _ A.in1 (do checkBuiltinCall "set.__new__" ⟨[.type "set",a],[]⟩;again (.builtin "set.__new__" ⟨[.type "set",a],[]⟩)) _ _ s from ?_)
 refine wpAny_bind (wpAny_of_eq (PySem.F.newCall_set_1 a) (wpAny_pure ⟨plainId_quiet PySem.F.plain_set_new _,codeAny_builtin PySem.F.entry_set_new ?_⟩));rw[Around.under_plainId PySem.F.plain_set_new _];unfold Builtin.«set.__new__» Builtin.Frozenset.newClass;have Sy:=sub_set_self;obtain⟨hp,g,d,tk,os⟩:=s;dsimp only
 wp_walk
 refine wpAny_askSetting (wpAny_pure ?_);dsimp only;simp only[newObj];exact wpAny_bind (wpAny_alloc (wpAny_pure (wpAny_pure h)))
end
theorem CB{prog:Program}{w:World}{h:Heap}{a:Addr}{k:Key}{ks:List Key}(q:nW (aL prog w) h a (λk'=>cV ks k'||decide (k'=k)) (if cV ks k then(dd ks).length else(dd ks).length+1)):nW (aL prog w) h a (cV (k::ks)) (dd (k::ks)).length:=by
 have e1:(λk'=>cV ks k'||decide (k'=k))=cV (k::ks):=funext λk'=>uQ.symm;have e2:(if cV ks k then(dd ks).length else(dd ks).length+1)=(dd (k::ks)).length:=by show _=(if cV ks k=true then dd ks else k::dd ks).length;split<;>rfl
 rw[e1,e2]at q;exact q
section
variable{prog:Program}{w:World}{A:Around}{R:Result->Shared->Prop}{I:Addr}{fp wr:List Addr}{G:Array GenState->Array GenState->Prop}{St:Nat->Shared->Prop}
theorem CC(us:List Value)(ks:List Key)(hu:aW (ks.map kV) us)(W:WalksS prog w A.in1 I fp wr G us.length (λi v=>us[i]?=some v) St)(S:Addr)(nS:S∉fp)(hb:us.length+1<scanBound):
  ∀(m i:Nat)(s:Shared),us.length-i=m->i<=us.length->St i s->nW (aL prog w) s.heap S (cV (ks.take i).reverse) (dd (ks.take i).reverse).length ->
   (∀s',Moved (S::wr) G s s'->nW (aL prog w) s'.heap S (cV ks.reverse) (dd ks.reverse).length->R (.ok (.ret .none)) s') ->
   codeAny (model prog w) A (.builtin "set.update.loop" ⟨[.ref S,.ref I],[]⟩) R s:=by
 have hlen:ks.length=us.length:=by rw[<-hu.length,List.length_map]
 have nw:S∉wr:=λz=>nS (W.sub _ z);have sb:∀b∈wr,b∈S::wr:=λb z=>List.mem_cons_of_mem _ z;have stays:∀{s s':Shared}{f:Key->Bool}{n:Nat},Moved wr G s s'->nW (aL prog w) s.heap S f n->nW (aL prog w) s'.heap S f n :=
  λhm ⟨o,es,ep,t,ho,r⟩=>⟨o,es,ep,t,hm.heap S _ nw ho,r⟩
 intro m
 induction m with
 |zero =>
  intro i s hm hi st hS hR;obtain rfl:i=us.length:=by lia
  refine codeAny_builtin F.entry_set_update_loop ?_;rw[Around.under_plainId F.plain_set_update_loop _];refine wpAny_bind (m:=pyNext (.ref I)) (W.done s _ _ st λs' mv=>?_);refine wpAny_pure (hR s' (mv.mono sb) ?_);have e:ks.take us.length=ks:=List.take_of_length_le (by lia);rw[e]at hS;exact stays mv hS
 |succ m ih =>
  intro i s hm hi st hS hR;have bM:i<us.length:=by lia
  refine codeAny_builtin F.entry_set_update_loop ?_;rw[Around.under_plainId F.plain_set_update_loop _];refine wpAny_bind (m:=pyNext (.ref I)) (W.item i s _ _ bM st λv s' hv oR mv=>?_);obtain⟨k,hk,rk⟩:∃k,ks[i]?=some k/\RelV (kV k) v:=by have sP:i<ks.length:=(by lia);obtain⟨u,e1,e2⟩:=hu.get (i:=i) (x:=kV ks[i]) (by rw[List.getElem?_map,List.getElem?_eq_getElem sP];rfl);have jv:us[i]?=some v:=hv;rw[e1]at jv;cases jv;exact⟨_,List.getElem?_eq_getElem sP,e2⟩
  obtain⟨k1,k2⟩:=xQ (prog:=prog) (w:=w) rk;refine wpAny_bind (m:=holding [v] (setAdd S v)) (wpAny_holding ?_);unfold setAdd;refine wpAny_holding (wpAny_bind ((aL prog w).pyHash k1 ?_));have Je:=stays mv hS;have xR:(dd (ks.take i).reverse).length+1<scanBound:=by have:=rB (ks.take i).reverse;rw[List.length_reverse,List.length_take]at this;lia
  refine ED (knd:=aL prog w) (s:={ s' with toks:=s'.toks+1 }) k1 k2 Je xR λh' eq Ox=>?_
  have e:(ks.take (i+1)).reverse=k::(ks.take i).reverse:=by rw[List.take_succ,hk,List.reverse_append];rfl
  have L6:=CB Ox;rw[<-e]at L6;refine wpAny_pure ⟨plainId_quiet F.plain_set_update_loop _,ih (i+1) _ (by lia) bM (W.frame _ s' _ _ oR (Nat.le_succ _) λb z o eo=>?_) L6 λs2 Oy Oz=>hR s2 (Moved.trans W.gtrans ((mv.mono sb).then_heap (Nat.le_succ _) λb o z eo=>?_) Oy) Oz⟩
  ·rw[eq.2 b (λy:b=S=>nS (by rw[<-y];exact z))];exact eo
  rw[eq.2 b (λy:b=S=>z (by rw[y];exact List.mem_cons_self))];exact eo
end
section
variable{prog:Program}{w:World}{A:Around}{E:Value->Shared->Prop}{s:Shared}
set_option maxHeartbeats 2000000 in
theorem xk{u:Value}{Q:Value->Shared->Prop}(hn:wpAny (model prog w) A.in1.in1 (Builtin.«set.__init__» ⟨[.ref s.heap.objs.size,u],[]⟩)
    (λfin s'=>match fin with|.done f=>wants (λr s2=>r=.none/\Q (.ref s.heap.objs.size) s2) E (.ok f) s'|.again c'=>c'.quiet=true/\codeAny (model prog w) A.in1 c' (wants (λr s2=>r=.none/\Q (.ref s.heap.objs.size) s2) E) s')
    (λe s'=>wants (λr s2=>r=.none/\Q (.ref s.heap.objs.size) s2) E (.error e) s') { s with heap:=s.heap.push { cls:=.type "set",dict:=none,data:=.set #[] 0 (.fresh 0 0 (!jg w)) } }):
  wpAny (model prog w) A (call (.type "set") [u]) Q E s:=by
 have ft:=F.called_set;obtain⟨c0,SR,O0⟩:=ft.mro;have g1:=ft.made;have g2:=ft.sub;have g3:=ft.notType;have g4:=ft.canCreate;have g5:=F.typeCall_set_1 u;refine wpAny_call (codeAny_of_tree (wpAny_pure (a:=_) ⟨Code.quiet_builtin _ (by decide +kernel),codeAny_builtin F.entry_type_call ?_⟩));rw[Around.under_plain (weight_type_call_type "set" [u] []) rfl]
 repeat (any_goals (first|assumption|(wp_step)))
 refine codeAny_mono (CA u (E:=E) (Q₁:=λobj z=>obj=.ref s.heap.objs.size/\z={ s with heap:=s.heap.push { cls:=.type "set",dict:=none,data:=.set #[] 0 (.fresh 0 0 (!jg w)) } }) ⟨rfl,rfl⟩) λr s₁ hr=>?_
 cases r with
 |error e=>exact hr
 |ok fl =>
  cases fl with
  |ret obj =>
   obtain⟨rfl,rfl⟩:=hr;have hT:Shared.TypeIs { s with heap:=s.heap.push { cls:=.type "set",dict:=none,data:=.set #[] 0 (.fresh 0 0 (!jg w)) } } (.ref s.heap.objs.size) "set":=⟨_,Heap.get?_push_size _ rfl,rfl⟩;have g6:=ft.init.lookup;have g7:=ft.init.bind (.ref s.heap.objs.size)
   repeat (any_goals (first|assumption|(wp_step)))
   refine codeAny_mono (codeAny_call_builtin ft.init.plain F.entry_set_init (check_set_init_1 hT hn)) λr2 s2 rC=>?_;cases r2 with
   |error e=>exact rC
   |ok f2 =>
    cases f2 with
    |ret r =>
     obtain⟨rfl,hq⟩:=rC
     repeat (any_goals (first|assumption|(wp_step)))
    |_=>exact rC.elim
  |_=>exact hr.elim
end
section
variable{prog:Program}{w:World}{A:Around}{E:Value->Shared->Prop}{s:Shared}
set_option maxHeartbeats 4000000 in
theorem pX{T:String}{l:Addr}{us:List Value}{ks:List Key}{Q:Value->Shared->Prop}(hh:A.handled=none)(hT:(T="list"/\s.heap.IsList l us.toArray)\/(T="tuple"/\s.heap.IsTuple l us.toArray))(hu:aW (ks.map kV) us)(hb:us.length+1<scanBound)(h:∀(h':Heap)(tk:Nat),nW (aL prog w) h' s.heap.objs.size (cV ks.reverse) (dd ks.reverse).length->(∀b o,s.heap.get? b=some o->h'.get? b=some o)->Q (.ref s.heap.objs.size) { s with heap:=h',toks:=tk }):
  wpAny (model prog w) A (call (.type "set") [.ref l]) Q E s:=by
 refine xk ?_;have hS:(s.heap.push { cls:=.type "set",dict:=none,data:=.set #[] 0 (.fresh 0 0 (!jg w)) }).get? s.heap.objs.size=some { cls:=.type "set",dict:=none,data:=.set #[] 0 (.fresh 0 0 (!jg w)) }:=Heap.get?_push_size _ rfl;have z4:A.in1.in1.in1.handled=none:=by simp[hh]
 have bM:l<s.heap.objs.size:=by rcases hT with⟨_,o,ho,_⟩|⟨_,o,ho,_⟩<;>exact Heap.lt_size ho
 have nl:l≠(s.heap.push { cls:=.type "set",dict:=none,data:=.set #[] 0 (.fresh 0 0 (!jg w)) }).objs.size:=by rw[Heap.size_push];exact Nat.ne_of_lt (Nat.lt_succ_of_lt bM)
 have nS:s.heap.objs.size∉[(s.heap.push { cls:=.type "set",dict:=none,data:=.set #[] 0 (.fresh 0 0 (!jg w)) }).objs.size,l]:=by
  rw[Heap.size_push];intro z;rcases List.mem_cons.mp z with z|z
  ·exact absurd z (Nat.ne_of_lt (Nat.lt_succ_self _))
  exact absurd (List.mem_singleton.mp z) (Nat.ne_of_gt bM)
 have fin:∀(I:Obj)(G:Array GenState->Array GenState->Prop)(hG:∀a b,G a b->b=a)(St:Nat->Shared->Prop),
   WalksS prog w A.in1.in1.in1 (s.heap.push { cls:=.type "set",dict:=none,data:=.set #[] 0 (.fresh 0 0 (!jg w)) }).objs.size [(s.heap.push { cls:=.type "set",dict:=none,data:=.set #[] 0 (.fresh 0 0 (!jg w)) }).objs.size,l] [(s.heap.push { cls:=.type "set",dict:=none,data:=.set #[] 0 (.fresh 0 0 (!jg w)) }).objs.size] G us.length (λi v=>us[i]?=some v) St ->
   St 0 { s with heap:=(s.heap.push { cls:=.type "set",dict:=none,data:=.set #[] 0 (.fresh 0 0 (!jg w)) }).push I } ->
   codeAny (model prog w) A.in1.in1 (.builtin "set.update.loop" ⟨[.ref s.heap.objs.size,.ref (s.heap.push { cls:=.type "set",dict:=none,data:=.set #[] 0 (.fresh 0 0 (!jg w)) }).objs.size],[]⟩)
    (λr s'=>∃v,r=.ok (.ret v)/\Q (.ref s.heap.objs.size) s') { s with heap:=(s.heap.push { cls:=.type "set",dict:=none,data:=.set #[] 0 (.fresh 0 0 (!jg w)) }).push I }:=by
  intro I G hG St W O1;refine CC us ks hu W s.heap.objs.size nS hb us.length 0 _ rfl (Nat.zero_le _) O1 ?_ λs' hm O2=>⟨_,rfl,?_⟩
  ·have Jf:((s.heap.push { cls:=.type "set",dict:=none,data:=.set #[] 0 (.fresh 0 0 (!jg w)) }).push I).get? s.heap.objs.size=some { cls:=.type "set",dict:=none,data:=.set #[] 0 (.fresh 0 0 (!jg w)) }:=Heap.get?_push_of_some _ hS;exact⟨_,#[],0,_,Jf,⟨rfl,rfl,rfl⟩,rfl,λe he=>by simp at he,λk=>by simp[cV],by decide,rfl,rfl,⟨rfl,rfl,.nil⟩⟩
  obtain⟨h',g',d',He,LC⟩:=s';have eg:g'=s.gens:=hG _ _ hm.gens;have ed:d'=s.drawn:=hm.drawn;have eo:LC=s.os:=hm.os;subst eg ed eo;refine h h' He O2 λb o e=>?_;have E6:=Heap.lt_size e;refine hm.heap b o (λz=>?_) (Heap.get?_push_of_some _ (Heap.get?_push_of_some _ e));rcases List.mem_cons.mp z with z|z
  ·rw[z]at E6;exact Nat.lt_irrefl _ E6
  have z:=List.mem_singleton.mp z;rw[Heap.size_push]at z;rw[z]at E6;exact absurd E6 (Nat.not_lt.mpr (Nat.le_succ _))
 unfold Builtin.«set.__init__» noKeywords Builtin.Frozenset.updateFrom;have eP:(λ(i:Nat)(v:Value)=>us.toArray[i]?=some v)=λi v=>us[i]?=some v:=by funext i v;simp
 generalize L7:pyIter=PI;rcases hT with⟨rfl,hl⟩|⟨rfl,hl⟩
 ·obtain⟨ol,E7,zM,Cn,Dm⟩:=hl;obtain⟨Jg,rE,Dn,mC⟩:=ol;simp only at zM Dm;subst zM Dm;have zO:(s.heap.push { cls:=.type "set",dict:=none,data:=.set #[] 0 (.fresh 0 0 (!jg w)) }).get? l=some { cls:=.type "list",dict:=rE,data:=.seq us.toArray Cn,slots:=mC }:=Heap.get?_push_of_some _ E7;have y1:=F.sub_list_set;have y2:=F.sub_list_frozenset;have y3:(Value.type "list"==Value.type "dict")=false:=by decide
  wp_walk
  subst L7;have yc:(s.heap.push { cls:=.type "set",dict:=none,data:=.set #[] 0 (.fresh 0 0 (!jg w)) }).IsList l us.toArray:=⟨_,zO,rfl,Cn,rfl⟩;refine wpAny_pyIter_list yc (wpAny_bind (wpAny_runValue ?_));have W:=(Walks.list z4 _ l nl us.toArray).toS (prog:=prog) (w:=w);rw[eP,List.size_toArray]at W;refine codeAny_mono (fin _ _ (λa b e=>e) _ W ⟨⟨_,Heap.get?_push_size _ rfl,rfl,rfl⟩,yc.push _⟩) λr s' hr=>?_;obtain⟨v,rfl,q⟩:=hr;exact wpAny_pure (a:=_) (wpAny_pure (a:=_) ⟨rfl,q⟩)
 obtain⟨ol,E7,zM,Cn,Dm⟩:=hl;obtain⟨Jg,rE,Dn,mC⟩:=ol;simp only at zM Dm;subst zM Dm;have zO:(s.heap.push { cls:=.type "set",dict:=none,data:=.set #[] 0 (.fresh 0 0 (!jg w)) }).get? l=some { cls:=.type "tuple",dict:=rE,data:=.seq us.toArray Cn,slots:=mC }:=Heap.get?_push_of_some _ E7;have y1:isSubtype (.type "tuple") (.type "set")=pure false:=by rw[isSubtype_type];kernel_rfl
 have y2:isSubtype (.type "tuple") (.type "frozenset")=pure false:=by rw[isSubtype_type];kernel_rfl
 have y3:(Value.type "tuple"==Value.type "dict")=false:=by decide
 wp_walk
 subst L7;have yc:(s.heap.push { cls:=.type "set",dict:=none,data:=.set #[] 0 (.fresh 0 0 (!jg w)) }).IsTuple l us.toArray:=⟨_,zO,rfl,Cn,rfl⟩;refine wpAny_pyIter_tuple yc (wpAny_bind (wpAny_runValue ?_));have W:=(Walks.tuple z4 _ l nl us.toArray).toS (prog:=prog) (w:=w);rw[eP,List.size_toArray]at W;refine codeAny_mono (fin _ _ (λa b e=>e) _ W ⟨⟨_,Heap.get?_push_size _ rfl,rfl,rfl⟩,yc.push _⟩) λr s' hr=>?_;obtain⟨v,rfl,q⟩:=hr;exact wpAny_pure (a:=_) (wpAny_pure (a:=_) ⟨rfl,q⟩)
end
theorem dC:Slot "set_iterator" "__next__" "set_iterator.__next__" :=
 .of (owner:="set_iterator") (n:="__next__") (by rw[typeLookup_type,builtinLookup_eq_fast];kernel_rfl) (by decide +kernel) (by decide +kernel) (by decide +kernel) (by first|exact .inl (by decide +kernel)|exact .inr (by decide +kernel)) (by rw[isSubtype_type];kernel_rfl)
theorem nX:Slot "set_iterator" "__iter__" "set_iterator.__iter__" :=
 .of (owner:="set_iterator") (n:="__iter__") (by rw[typeLookup_type,builtinLookup_eq_fast];kernel_rfl) (by decide +kernel) (by decide +kernel) (by decide +kernel) (by first|exact .inl (by decide +kernel)|exact .inr (by decide +kernel)) (by rw[isSubtype_type];kernel_rfl)
theorem sZ:entryFor table "set_iterator.__next__"=some Builtin.«set_iterator.__next__»:=entryFor_of_tree (by kernel_rfl)
theorem se:entryFor table "set_iterator.__iter__"=some Builtin.«dict_keyiterator.__iter__»:=entryFor_alias (id':="dict_keyiterator.__iter__") (by kernel_rfl) rfl (by decide +kernel) (by kernel_rfl)
theorem sg:entryFor table "set.__iter__"=some Builtin.«frozenset.__iter__»:=entryFor_alias (id':="frozenset.__iter__") (by kernel_rfl) rfl (by decide +kernel) (by kernel_rfl)
theorem vQ(a:Value):argsOk "set_iterator.__next__" ⟨[a],[]⟩:=by unfold argsOk;kernel_rfl
theorem vR(a:Value):argsOk "set_iterator.__iter__" ⟨[a],[]⟩:=by unfold argsOk;kernel_rfl
abbrev oo(h:Heap)(I:Addr)(f0:Value)(i:Nat)(S:Addr)(n ep:Nat):Prop:=h.get? I=some { cls:=.type "set_iterator",dict:=none,data:=.fields #[f0,rawInt i,.ref S,rawInt n,rawInt ep],slots:=#[] }
def uX(Wk:Array (Int×Value))(i:Nat)(v:Value):Prop:=∃h,Wk[i]?=some (h,v)
section
variable{prog:Program}{w:World}{A:Around}{E:Value->Shared->Prop}{s:Shared}
theorem ky{Q:Bool->Shared->Prop}(h:Q (jg w) s):wpAny (model prog w) A setsByText Q E s:=by unfold setsByText;exact wpAny_bind (wpAny_askSetting (wpAny_pure h))
theorem ze{src:Source}{n:Nat}{Q:Nat->Shared->Prop}(hn:n≠0)(h:∀i d,i<n->Q i { s with drawn:=d }):wpAny (model prog w) A (choose src n) Q E s:=λΓ p _=>by unfold choose;rw[Sem.wp_choose];exact⟨hn,(Sem.wp_pure ..).mpr (h _ _ (Nat.mod_lt _ (Nat.pos_of_ne_zero hn)))⟩
theorem pY{α:Type}:∀(n:Nat)(xs:List α)(s:Shared){Q:List α->Shared->Prop},xs.length=n->(∀ys d,ys.Perm xs->Q ys { s with drawn:=d })->wpAny (model prog w) A (drawOrder n xs) Q E s
 |0,xs,s,Q,hl,h=>by have e:xs=[]:=List.length_eq_zero_iff.mp hl;subst e;unfold drawOrder;exact wpAny_pure (h [] s.drawn (.refl _))
 |n+1,[],s,Q,hl,h=>by cases hl
 |n+1,x::xs,s,Q,hl,h=>by
  unfold drawOrder;refine wpAny_bind (ze (by simp) λi d hi=>?_);have e:(x::xs)[i]?=some (x::xs)[i]:=by simp[hi]
  rw[e];refine(show wpAny _ _ (drawOrder n ((x::xs).eraseIdx i) >>= _) _ _ _ from wpAny_bind (pY n _ _ (by rw[List.length_eraseIdx,if_pos hi];simp at hl ⊢;lia) λys d2 hy=>wpAny_pure ?_));refine h _ d2 ((hy.cons _).trans ?_);have er:∀{l:List α}{k:Nat}(hk:k<l.length),(l[k]::l.eraseIdx k).Perm l:=λ{l}=>by
   induction l with
   |nil=>intro k hk;exact absurd hk (Nat.not_lt_zero _)
   |cons a l ih =>
    intro k hk;cases k with
    |zero=>exact .refl _
    |succ k=>exact(List.Perm.swap a (l[k]'(Nat.lt_of_succ_lt_succ hk)) _).trans ((ih (Nat.lt_of_succ_lt_succ hk)).cons a)
  exact er hi
theorem oq{α:Type}(next:Nat->Nat)(xs:Array α):(pickOrder next xs).toList.Perm xs.toList:=by
 have go:∀(fuel k:Nat)(left:List α)(out:Array α),left.length<=fuel->(pickOrder.go next fuel k left out).toList.Perm (out.toList++left):=by
  intro fuel
  induction fuel with
  |zero =>
   intro k left out hl;have e:left=[]:=List.length_eq_zero_iff.mp (by lia);subst e;unfold pickOrder.go;simp
  |succ fuel ih =>
   intro k left out hl;unfold pickOrder.go;cases left with
   |nil=>simp
   |cons a l =>
    have hi:next k%(a::l).length<(a::l).length:=Nat.mod_lt _ (by simp);have e:(a::l)[next k%(a::l).length]?=some (a::l)[next k%(a::l).length]:=List.getElem?_eq_getElem hi;rw[e];dsimp only;refine(ih (k+1) _ _ (by rw[List.length_eraseIdx,if_pos hi];lia)).trans ?_;rw[Array.toList_push,List.append_assoc];refine List.Perm.append_left _ ?_;have er:∀{l:List α}{k:Nat}(hk:k<l.length),(l[k]::l.eraseIdx k).Perm l:=λ{l}=>by
     induction l with
     |nil=>intro k hk;exact absurd hk (Nat.not_lt_zero _)
     |cons a l ih =>
      intro k hk;cases k with
      |zero=>exact .refl _
      |succ k=>exact(List.Perm.swap a (l[k]'(Nat.lt_of_succ_lt_succ hk)) _).trans ((ih (Nat.lt_of_succ_lt_succ hk)).cons a)
    exact er hi
 unfold pickOrder;have:=go xs.size 0 xs.toList #[] (by simp)
 simpa using this
end
section
variable{prog:Program}{w:World}{A:Around}{E:Value->Shared->Prop}{s:Shared}
structure si(h:Heap)(S:Addr)(o:Obj)(es:Array (Int×Value))(ep:Nat)(t:SetTable):Prop where
 g:h.get? S=some o
 d:o.data=.set es ep t
 f:t.fits es.size=true
theorem vS{I S:Addr}{f0:Value}{i n ep:Nat}{Q:Value->Shared->Prop}(hI:oo s.heap I f0 i S n ep)(h:Q (.ref I) s):wpAny (model prog w) A (pyIter (.ref I)) Q E s:=by have ty:s.TypeIs (.ref I) "set_iterator":=⟨_,hI,rfl⟩;exact wpAny_pyIter_slot ty nX (wpAny_call_entry nX ty se (show wpAny _ _ (ret (.ref I)) _ _ s from wpAny_pure ⟨_,rfl,"set_iterator",_,ty,dC.lookup,h⟩) (vR _))
theorem k8{I S:Addr}{f0:Value}{i n ep:Nat}{Q:Option Value->Shared->Prop}(hI:oo s.heap I f0 i S n ep)(h:wpAny (model prog w) A.in1 (Builtin.«set_iterator.__next__» ⟨[.ref I],[]⟩) (λfin s'=>∃v,fin=.done (.ret v)/\Q (some v) s') (λe s'=>∃a,e=.ref a/\(∃o,s'.heap.get? a=some o/\o.cls=.type "StopIteration")/\Q none s') s):wpAny (model prog w) A (pyNext (.ref I)) Q E s:=by
 have ty:s.TypeIs (.ref I) "set_iterator":=⟨_,hI,rfl⟩;unfold pyNext;refine wpAny_bind (wpAny_attempt (wpAny_callSpecial?_slot (name:=Str.ofString "__next__") ty dC (wpAny_call_entry dC ty sZ ?_ (vQ _))));refine wpAny_mono h (λfin s' z=>?_) λe s' z=>?_
 ·obtain⟨v,rfl,q⟩:=z;exact⟨v,rfl,wpAny_pure q⟩
 obtain⟨a,rfl,⟨o,ho,hc⟩,q⟩:=z;exact wpAny_bind (wpAny_isInstance (T:="StopIteration") (b:=true) ⟨o,ho,hc⟩ isSubtype_stop (wpAny_pure q))
theorem vT{I S:Addr}{f0:Value}{i n ep:Nat}{Q:Fin->Shared->Prop}(hh:A.handled=none)(hI:oo s.heap I f0 i S n ep){E':Value->Shared->Prop}(h:∀h' a,(∀b o,b≠I->s.heap.get? b=some o->h'.get? b=some o)->(∃o,h'.get? a=some o/\o.cls=.type "StopIteration")->E' (.ref a) { s with heap:=h' }):
  wpAny (model prog w) A (do setField (.ref I) 2 .none;raiseNew (<- newExc (.type "StopIteration") [])) Q E' s:=by
 refine wpAny_bind (wpAny_setField_rec hI (by simp) λh1 g1 s1=>?_);refine(show wpAny _ _ (newExc (.type "StopIteration") [] >>= _) _ _ _ from wpAny_bind ?_);simp only[newTuple,newExc];refine wpAny_bind (wpAny_newObj_type (wpAny_bind (m:=firstArgMember _ _) (wpAny_of_eq (a:=Value.none) (by first|rfl|(simp only[firstArgMember];rfl)) (wpAny_newObj_type ?_ (by size_fits)))) (by size_fits));simp only[raiseNew];refine wpAny_bind (wpAny_handled ?_);rw[hh];exact wpAny_bind (wpAny_pure (wpAny_throw (h _ _ (λb o nb e=>Heap.get?_push_of_some _ (Heap.get?_push_of_some _ (s1.extBut b o nb e))) ⟨_,Heap.get?_push_size _ rfl,rfl⟩)))
theorem k9{I S:Addr}{f0:Value}{i ep:Nat}{o:Obj}{es:Array (Int×Value)}{t:SetTable}(hI:oo s.heap I f0 i S es.size ep)(hS:si s.heap S o es ep t){Q:Fin->Shared->Prop}{E':Value->Shared->Prop}(h:wpAny (model prog w) A (if let .int slot _:=f0 then do
    match <- setNext S slot.toNat i ep with
    |some (x,next) =>
     setField (.ref I) 0 (rawInt next)
     setField (.ref I) 1 (rawInt ((i:Int)+1))
     ret x
    |none=>setField (.ref I) 2 .none;raiseNew (<- newExc (.type "StopIteration") [])
   else do
    let some places <- seqItems? f0|unsupported "internal:set_iterator"
    match places[i]? with
    |some (.int place _) =>
     let x <- setNextDrawn S place.toNat ep
     setField (.ref I) 1 (rawInt ((i:Int)+1))
     ret x
    |some _=>unsupported "internal:set_iterator"
    |none=>setField (.ref I) 0 (rawInt 0);setField (.ref I) 2 .none;raiseNew (<- newExc (.type "StopIteration") [])) Q E' s):
  wpAny (model prog w) A (Builtin.«set_iterator.__next__» ⟨[.ref I],[]⟩) Q E' s:=by
 refine(show wpAny _ _ (fieldsOf (.ref I) >>= _) _ _ s from wpAny_bind (wpAny_fieldsOf hI rfl ?_));refine(show wpAny _ _ (setEntries S >>= _) _ _ s from wpAny_bind ?_);unfold setEntries;refine wpAny_bind (wpAny_setState_of hS.g hS.d hS.f (wpAny_pure ?_));refine(show wpAny _ _ (if(((es.size:Nat):Int) != ((es.size:Nat):Int))=true then _ else _) _ _ s from ?_);rw[if_neg (by simp)];exact h
theorem zj{t:SetTable}(xh:t.place.toList.Pairwise (·<·)){i slot:Nat}(hi:i<=t.place.size)(hs:(i=0/\slot=0)\/∃j,i=j+1/\∃p,t.place[j]?=some p/\slot=p+1):SetTable.below t.place slot=i:=by
 obtain⟨h1,h2,h3⟩:=xi slot xh;have le:∀{a c x y:Nat},a<c->t.place[a]?=some x->t.place[c]?=some y->x<y:=λ{a c x y} MO hx hy=>by obtain⟨i1,e1⟩:=Array.getElem?_eq_some_iff.mp hx;obtain⟨k1,e2⟩:=Array.getElem?_eq_some_iff.mp hy;have:=List.pairwise_iff_getElem.mp xh a c (by simpa using i1) (by simpa using k1) MO;simp[e1,e2]at this;exact this
 generalize SetTable.below t.place slot=b at h1 h2 h3;rcases Nat.lt_trichotomy b i with c|c|c
 ·exfalso;rcases hs with⟨rfl,_⟩|⟨j,rfl,p,hp,rfl⟩
  ·lia
  have bl:b<t.place.size:=by lia
  have eb:t.place[b]?=some t.place[b]:=by simp[bl]
  have:=h2 b _ (Nat.le_refl _) eb;rcases Nat.lt_or_eq_of_le (show b<=j by lia)with z|z
  ·have:=le z eb hp;lia
  subst z;rw[eb]at hp;cases hp;lia
 ·exact c
 exfalso;rcases hs with⟨rfl,rfl⟩|⟨j,rfl,p,hp,rfl⟩
 ·have bl:0<t.place.size:=by lia
  have:=h1 0 _ c (show t.place[0]?=some t.place[0] by simp[bl]);lia
 have jl:j+1<t.place.size:=by lia
 have ej:t.place[j+1]?=some t.place[j+1]:=by simp[jl]
 have a:=h1 (j+1) _ c ej;have b':=le (Nat.lt_succ_self j) hp ej;lia
theorem rO{S:Addr}{i ep slot:Nat}{o:Obj}{es:Array (Int×Value)}{t:SetTable}{Q:Option (Value×Nat)->Shared->Prop}(hS:si s.heap S o es ep t)(tk:sQ (!jg w) t)(hb:jg w=false)(hd:(!t.plain&&decide (es.size>1))=false)(hi:i<=es.size)(hs:(i=0/\slot=0)\/∃j,i=j+1/\∃p,t.place[j]?=some p/\slot=p+1)(h1:∀x p,(∃hh,es[i]?=some (hh,x))->t.place[i]?=some p->Q (some (x,p+1)) s)(h2:es[i]?=none->Q none s):wpAny (model prog w) A (setNext S slot i ep) Q E s:=by
 have pz:t.place.size=es.size:=by have:=hS.f;unfold SetTable.fits at this;simp at this;exact this.1
 unfold setNext;refine wpAny_bind (wpAny_setState_of hS.g hS.d hS.f ?_);dsimp only;refine wpAny_bind (ky ?_);rw[hb];rw[if_neg (by exact Bool.false_ne_true)];refine(show wpAny _ _ (if(!t.plain&&decide (es.size>1))=true then _ else _) _ _ _ from ?_);rw[hd];rw[if_neg (by exact Bool.false_ne_true)];refine(show wpAny _ _ ((if(!t.led&&!es.isEmpty)=true then unsupported "set:maker-not-led"else pure ()) >>= _) _ _ _ from ?_);rw[tk.led,hb];refine(show wpAny _ _ ((if(false&&!es.isEmpty)=true then unsupported "set:maker-not-led"else pure ()) >>= _) _ _ _ from ?_);rw[if_neg (by simp)];refine wpAny_bind (wpAny_pure ?_);have eb:=zj tk.xh (by lia) hs;rw[eb];by_cases c:i<es.size
 ·have e1:es[i]?=some (es[i].1,es[i].2):=by simp[c]
  have e2:t.place[i]?=some (t.place[i]'(by lia)):=by simp[show i<t.place.size by lia]
  rw[e1,e2];exact wpAny_pure (h1 _ _ ⟨_,e1⟩ e2)
 have e1:es[i]?=none:=by simp;lia
 rw[e1];exact wpAny_pure (h2 e1)
theorem zk(hh:A.handled=none){I S:Addr}{ep:Nat}{o:Obj}{es:Array (Int×Value)}{t:SetTable}(xD:S≠I)(tk:sQ (!jg w) t)(hb:jg w=false)(hd:(!t.plain&&decide (es.size>1))=false):
  Walks prog w A I [I,S] [I] es.size (uX es) (λi h=>si h S o es ep t/\i<=es.size/\∃slot:Nat,oo h I (rawInt slot) i S es.size ep/\((i=0/\slot=0)\/∃j,i=j+1/\∃p,t.place[j]?=some p/\slot=p+1))where
 sub:=λb hb=>by simp at hb;simp[hb]
 frame:=λi h h' st hk=>⟨⟨hk S (by simp) _ st.1.g,st.1.d,st.1.f⟩,st.2.1,let⟨sl,z1,z2⟩:=st.2.2;⟨sl,hk I (by simp) _ z1,z2⟩⟩
 item:=λi s Q E hi st hQ=>by obtain⟨hS,_,slot,hI,hs⟩:=st;refine k8 hI (k9 hI hS ?_);refine(show wpAny _ _ (setNext S ((slot:Int).toNat) i ep >>= _) _ _ _ from wpAny_bind ?_);rw[show((slot:Nat):Int).toNat=slot by lia];refine rO hS tk hb hd (by lia) hs (λx p hx hp=>?_) λz=>absurd z (by simp;lia);refine wpAny_bind (wpAny_setField_rec hI (by simp) λh1 g1 s1=>?_);have Jp:oo h1 I (rawInt ((p+1:Nat):Int)) i S es.size ep:=g1;refine wpAny_bind (wpAny_setField_rec Jp (by simp) λh2 g2 s2=>?_);have PU:oo h2 I (rawInt ((p+1:Nat):Int)) (i+1) S es.size ep:=g2;refine wpAny_pure ⟨x,rfl,hQ x h2 s.toks hx ⟨⟨s2.extBut _ _ xD (s1.extBut _ _ xD hS.g),hS.d,hS.f⟩,hi,p+1,PU,.inr ⟨i,rfl,p,hp,rfl⟩⟩ λb o' nb e=>?_⟩;have Ho:b≠I:=λz=>nb (by simp[z]);exact s2.extBut _ _ Ho (s1.extBut _ _ Ho e)
 done:=λs Q E st hQ=>by obtain⟨hS,_,slot,hI,hs⟩:=st;refine k8 hI (k9 hI hS ?_);refine(show wpAny _ _ (setNext S ((slot:Int).toNat) es.size ep >>= _) _ _ _ from wpAny_bind ?_);rw[show((slot:Nat):Int).toNat=slot by lia];refine rO hS tk hb hd (Nat.le_refl _) hs (λx p hx hp=>by obtain⟨_,z⟩:=hx;simp at z) λ_=>?_;refine vT (by simp[hh]) hI λh' a hk he=>⟨a,rfl,he,hQ h' s.toks λb o' nb e=>hk b o' (λz=>nb (by simp[z])) e⟩
 self:=λi s Q E st hQ=>by obtain⟨_,_,slot,hI,_⟩:=st;exact vS hI hQ
end
section
variable{prog:Program}{w:World}{A:Around}{E:Value->Shared->Prop}{s:Shared}
theorem uY{S:Addr}{i ep:Nat}{o:Obj}{es:Array (Int×Value)}{t:SetTable}{Q:Option (Value×Nat)->Shared->Prop}(hS:si s.heap S o es ep t)(hb:jg w=true)(h:Q (((pickOrder (w.params.setOrder S ep) es)[i]?).map λe=>(e.2,0)) s):wpAny (model prog w) A (setNext S 0 i ep) Q E s:=by unfold setNext;refine wpAny_bind (wpAny_setState_of hS.g hS.d hS.f ?_);dsimp only;refine wpAny_bind (ky ?_);rw[hb];rw[if_pos rfl,if_neg (by simp)];refine wpAny_bind ?_;unfold setWalk;refine wpAny_bind (wpAny_setState_of hS.g hS.d hS.f ?_);dsimp only;refine wpAny_bind (ky ?_);rw[hb];rw[if_pos rfl];exact wpAny_bind (wpAny_askSetting (wpAny_pure (wpAny_pure h)))
theorem CD(hh:A.handled=none){I S:Addr}{ep:Nat}{o:Obj}{es:Array (Int×Value)}{t:SetTable}(xD:S≠I)(hb:jg w=true):
  Walks prog w A I [I,S] [I] es.size (uX (pickOrder (w.params.setOrder S ep) es)) (λi h=>si h S o es ep t/\oo h I (rawInt 0) i S es.size ep)where
 sub:=λb hb=>by simp at hb;simp[hb]
 frame:=λi h h' st hk=>⟨⟨hk S (by simp) _ st.1.g,st.1.d,st.1.f⟩,hk I (by simp) _ st.2⟩
 item:=λi s Q E hi st hQ=>by
  obtain⟨hS,hI⟩:=st;have pz:(pickOrder (w.params.setOrder S ep) es).size=es.size:=by have:=(oq (w.params.setOrder S ep) es).length_eq;simpa using this
  have e:(pickOrder (w.params.setOrder S ep) es)[i]?=some ((pickOrder (w.params.setOrder S ep) es)[i]'(by lia)):=by simp[show i<(pickOrder (w.params.setOrder S ep) es).size by lia]
  refine k8 hI (k9 hI hS ?_);refine(show wpAny _ _ (setNext S 0 i ep >>= _) _ _ _ from wpAny_bind (uY hS hb ?_));rw[e];refine wpAny_bind (wpAny_setField_rec hI (by simp) λh1 g1 s1=>?_);have Jp:oo h1 I (rawInt 0) i S es.size ep:=g1;refine wpAny_bind (wpAny_setField_rec Jp (by simp) λh2 g2 s2=>?_);have PU:oo h2 I (rawInt 0) (i+1) S es.size ep:=g2;refine wpAny_pure ⟨_,rfl,hQ _ h2 s.toks ⟨_,e⟩ ⟨⟨s2.extBut _ _ xD (s1.extBut _ _ xD hS.g),hS.d,hS.f⟩,PU⟩ λb o' nb e=>?_⟩;have Ho:b≠I:=λz=>nb (by simp[z]);exact s2.extBut _ _ Ho (s1.extBut _ _ Ho e)
 done:=λs Q E st hQ=>by
  obtain⟨hS,hI⟩:=st;have pz:(pickOrder (w.params.setOrder S ep) es).size=es.size:=by have:=(oq (w.params.setOrder S ep) es).length_eq;simpa using this
  have e:(pickOrder (w.params.setOrder S ep) es)[es.size]?=none:=by simp;lia
  refine k8 hI (k9 hI hS ?_);refine(show wpAny _ _ (setNext S 0 es.size ep >>= _) _ _ _ from wpAny_bind (uY hS hb ?_));rw[e];exact vT (by simp[hh]) hI λh' a hk he=>⟨a,rfl,he,hQ h' s.toks λb o' nb e=>hk b o' (λz=>nb (by simp[z])) e⟩
 self:=λi s Q E st hQ=>vS st.2 hQ
abbrev MR(h:Heap)(T:Addr)(ord:List Nat):Prop:=h.get? T=some { cls:=.type "tuple",data:=.seq (ord.map λ(i:Nat)=>rawInt i).toArray }
def vU(es:Array (Int×Value))(ord:List Nat):Array (Int×Value):=(ord.map λj=>es.getD j (0,.none)).toArray
theorem CF(hh:A.handled=none){I S T:Addr}{ep:Nat}{o:Obj}{es:Array (Int×Value)}{t:SetTable}(xD:S≠I)(NC:T≠I){ord:List Nat}(hp:ord.Perm (List.range es.size)):
  Walks prog w A I [I,S,T] [I] es.size (uX (vU es ord)) (λi h=>si h S o es ep t/\MR h T ord/\oo h I (.ref T) i S es.size ep)where
 sub:=λb hb=>by simp at hb;simp[hb]
 frame:=λi h h' st hk=>⟨⟨hk S (by simp) _ st.1.g,st.1.d,st.1.f⟩,hk T (by simp) _ st.2.1,hk I (by simp) _ st.2.2⟩
 item:=λi s Q E hi st hQ=>by
  obtain⟨hS,hT,hI⟩:=st;have ol:ord.length=es.size:=by have:=hp.length_eq;simpa using this
  have eo:ord[i]?=some (ord[i]'(by lia)):=by simp[show i<ord.length by lia]
  have jl:ord[i]'(by lia)<es.size:=List.mem_range.mp (hp.mem_iff.mp (List.getElem_mem _));refine k8 hI (k9 hI hS ?_);refine(show wpAny _ _ (seqItems? (.ref T) >>= _) _ _ _ from wpAny_bind (wpAny_seqItems hT rfl ?_));have ea:(ord.map λ(i:Nat)=>rawInt i).toArray[i]?=some (rawInt (ord[i]'(by lia):Nat)):=by simp[show i<ord.length by lia]
  dsimp only;rw[ea];refine(show wpAny _ _ (setNextDrawn S ((ord[i]'(by lia):Nat):Int).toNat ep >>= _) _ _ _ from wpAny_bind ?_);rw[show(((ord[i]'(by lia):Nat):Int)).toNat=ord[i]'(by lia) by lia];unfold setNextDrawn;refine wpAny_bind (wpAny_setState_of hS.g hS.d hS.f ?_);dsimp only;rw[if_neg (by simp)];have ee:es[ord[i]'(by lia)]?=some ((es[ord[i]'(by lia)]).1,(es[ord[i]'(by lia)]).2):=by simp[jl]
  rw[ee];refine wpAny_pure ?_;refine wpAny_bind (wpAny_setField_rec hI (by simp) λh1 g1 s1=>?_);have Jp:oo h1 I (.ref T) (i+1) S es.size ep:=g1;refine wpAny_pure ⟨_,rfl,hQ _ h1 s.toks ⟨(es[ord[i]'(by lia)]).1,?_⟩ ⟨⟨s1.extBut _ _ xD hS.g,hS.d,hS.f⟩,s1.extBut _ _ NC hT,Jp⟩ λb o' nb e=>s1.extBut _ _ (λz=>nb (by simp[z])) e⟩;unfold vU;simp[show i<ord.length by lia,Array.getD,jl]
 done:=λs Q E st hQ=>by
  obtain⟨hS,hT,hI⟩:=st;have ol:ord.length=es.size:=by have:=hp.length_eq;simpa using this
  refine k8 hI (k9 hI hS ?_);refine(show wpAny _ _ (seqItems? (.ref T) >>= _) _ _ _ from wpAny_bind (wpAny_seqItems hT rfl ?_));have ea:(ord.map λ(i:Nat)=>rawInt i).toArray[es.size]?=none:=by simp;lia
  dsimp only;rw[ea];refine wpAny_bind (wpAny_setField_rec hI (by simp) λh1 g1 s1=>?_);have Jp:oo h1 I (rawInt 0) es.size S es.size ep:=g1;refine vT (s:={ s with heap:=h1 }) (by simp[hh]) Jp λh' a hk he=>⟨a,rfl,he,hQ h' s.toks λb o' nb e=>?_⟩
  have Ho:b≠I:=λz=>nb (by simp[z]);exact hk b o' Ho (s1.extBut _ _ Ho e)
 self:=λi s Q E st hQ=>vS st.2.2 hQ
theorem CG{es:Array (Int×Value)}{ord:List Nat}(hp:ord.Perm (List.range es.size)):(vU es ord).toList.Perm es.toList:=by
 unfold vU;refine(hp.map _).trans (List.Perm.of_eq ?_);refine List.ext_getElem (by simp) λi h1 h2=>?_;have:i<es.size:=by simpa using h1
 simp[Array.getD,this]
end
section
variable{prog:Program}{w:World}{A:Around}{E:Value->Shared->Prop}{s:Shared}
theorem GJ{S:Addr}{Q:Bool->Shared->Prop}(hT:s.TypeIs (.ref S) "set")(h:Q false s):wpAny (model prog w) A (Builtin.List.listLengthHint (.ref S)) Q E s:=by
 unfold Builtin.List.listLengthHint;refine wpAny_bind (wpAny_specialOf hT PySem.F.slot_set_len.lookup ?_);generalize Qo:("set.__len__":String)=nm
 wp_delta
 rw[show splitId nm=some ("set","__len__")from by subst Qo;decide +kernel];subst Qo;refine wpAny_bind (wpAny_isInstance (T:="set") (b:=true) hT (by rw[isSubtype_type];kernel_rfl) (wpAny_ite_split (λz=>absurd z (by decide)) (λ_=>wpAny_ite_split (λ_=>?_) (λz=>absurd (by decide +kernel) z))));exact wpAny_bind (wpAny_typeOf hT (wpAny_pure h))
theorem GK(hh:A.handled=none){S:Addr}{o:Obj}{es:Array (Int×Value)}{ep:Nat}{t:SetTable}(hS:si s.heap S o es ep t)(hex:o.ExactSet)(tk:sQ (!jg w) t)(hz:es.size<=sizeLine){Q:Value->Shared->Prop}(q:∀(I:Addr)(fp:List Addr)(Wk:Array (Int×Value))(St:Nat->Heap->Prop)(h':Heap)(d:_),Walks prog w A I fp [I] es.size (uX Wk) St->St 0 h'->Wk.toList.Perm es.toList->(∀b o,s.heap.get? b=some o->h'.get? b=some o)->s.heap.objs.size<=I->(∀b∈fp,b=S\/s.heap.objs.size<=b)->Q (.ref I) { s with heap:=h',drawn:=d }):
  wpAny (model prog w) A (pyIter (.ref S)) Q E s:=by
 have ty:s.TypeIs (.ref S) "set":=⟨o,hS.g,hex.1⟩;have lS:=Heap.lt_size hS.g;refine wpAny_pyIter_slot ty PySem.F.slot_set_iter (wpAny_call_entry PySem.F.slot_set_iter ty sg ?_ (PySem.F.args_set_iter_1 _));refine(show wpAny _ _ (Builtin.Frozenset.sizeOf S >>= _) _ _ s from wpAny_bind ?_);unfold Builtin.Frozenset.sizeOf setEntries;refine wpAny_bind (wpAny_bind (wpAny_setState_of hS.g hS.d hS.f (wpAny_pure (wpAny_pure ?_))));refine wpAny_bind ?_;unfold setDrawn;refine wpAny_bind (wpAny_setState_of hS.g hS.d hS.f ?_);dsimp only;refine wpAny_bind (ky (wpAny_pure ?_));by_cases c:(!jg w&&(!t.plain&&decide (es.size>1)))=true
 ·refine(show wpAny _ _ (if(!jg w&&(!t.plain&&decide (es.size>1)))=true then _ else _) _ _ _ from ?_);rw[if_pos c];refine wpAny_bind (pY es.size (List.range es.size) s (by simp) λord d hp=>?_);have ol:ord.length=es.size:=by have:=hp.length_eq;simpa using this
  refine wpAny_bind (wpAny_newTuple (wpAny_bind ?_) (by rw[List.length_map,ol];exact hz));unfold setEpoch;have g1:(s.heap.push { cls:=.type "tuple",data:=.seq (ord.map λ(i:Nat)=>rawInt i).toArray }).get? S=some o:=Heap.get?_push_of_some _ hS.g;refine wpAny_bind (wpAny_setState_of g1 hS.d hS.f (wpAny_pure ?_));refine wpAny_bind ?_;unfold newFields;refine wpAny_newObj_type ?_ (by size_fits);have z1:(s.heap.push { cls:=.type "tuple",data:=.seq (ord.map λ(i:Nat)=>rawInt i).toArray }).objs.size=s.heap.objs.size+1:=Heap.size_push ..;refine wpAny_pure ⟨_,rfl,"set_iterator",_,⟨_,Heap.get?_push_size _ rfl,rfl⟩,dC.lookup,?_⟩;refine q _ _ (vU es ord) _ _ d (CF hh (o:=o) (t:=t) (T:=s.heap.objs.size) (by rw[z1];exact Nat.ne_of_lt (Nat.lt_succ_of_lt lS)) (by rw[z1];exact Nat.ne_of_lt (Nat.lt_succ_self _)) hp) ⟨⟨Heap.get?_push_of_some _ g1,hS.d,hS.f⟩,Heap.get?_push_of_some _ (Heap.get?_push_size _ rfl),Heap.get?_push_size _ rfl⟩ (CG hp) (λb o e=>Heap.get?_push_of_some _ (Heap.get?_push_of_some _ e)) (by rw[z1];exact Nat.le_succ _) λb hb=>?_;simp only[List.mem_cons,List.not_mem_nil,or_false]at hb;rcases hb with rfl|rfl|rfl
  ·exact .inr (by rw[z1];exact Nat.le_succ _)
  ·exact .inl rfl
  exact .inr (Nat.le_refl _)
 refine(show wpAny _ _ (if(!jg w&&(!t.plain&&decide (es.size>1)))=true then _ else _) _ _ _ from ?_);rw[if_neg c];refine wpAny_bind (wpAny_pure (wpAny_bind ?_));unfold setEpoch;refine wpAny_bind (wpAny_setState_of hS.g hS.d hS.f (wpAny_pure (wpAny_bind ?_)));unfold newFields;refine wpAny_newObj_type ?_ (by size_fits);refine wpAny_pure ⟨_,rfl,"set_iterator",_,⟨_,Heap.get?_push_size _ rfl,rfl⟩,dC.lookup,?_⟩;have nS:S≠s.heap.objs.size:=Nat.ne_of_lt lS;have mem:∀b∈[s.heap.objs.size,S],b=S\/s.heap.objs.size<=b:=λb hb=>by
  simp only[List.mem_cons,List.not_mem_nil,or_false]at hb;rcases hb with rfl|rfl
  ·exact .inr (Nat.le_refl _)
  exact .inl rfl
 by_cases cb:jg w=true
 ·exact q _ _ (pickOrder (w.params.setOrder S ep) es) _ _ s.drawn (CD hh (o:=o) (t:=t) nS cb) ⟨⟨Heap.get?_push_of_some _ hS.g,hS.d,hS.f⟩,Heap.get?_push_size _ rfl⟩ (oq _ _) (λb o e=>Heap.get?_push_of_some _ e) (Nat.le_refl _) mem
 have Qp:jg w=false:=by cases h:jg w<;>simp_all
 have cd:(!t.plain&&decide (es.size>1))=false:=by
  rw[Qp]at c;cases h:(!t.plain&&decide (es.size>1))with
  |false=>rfl
  |true=>rw[h]at c;exact absurd rfl c
 exact q _ _ es _ _ s.drawn (zk hh (o:=o) nS tk Qp cd) ⟨⟨Heap.get?_push_of_some _ hS.g,hS.d,hS.f⟩,Nat.zero_le _,0,Heap.get?_push_size _ rfl,.inl ⟨rfl,rfl⟩⟩ (.refl _) (λb o e=>Heap.get?_push_of_some _ e) (Nat.le_refl _) mem
end
section
open PySem.W
variable{prog:Program}{w:World}{A:Around}{E:Value->Shared->Prop}{s:Shared}
theorem xn{S:Addr}{o:Obj}{es:Array (Int×Value)}{ep:Nat}{t:SetTable}(hS:si s.heap S o es ep t)(hex:o.ExactSet)(tk:sQ (!jg w) t)(hz:es.size<=sizeLine)(hh:A.handled=none){R:List Value->Shared->Prop}(q:∀(g:Heap)(tk:Nat)(d:_)(vs:List Value),Grows s.heap g->s.heap.objs.size<=g.objs.size->vs.Perm (es.toList.map (·.2))->R vs { s with heap:=g,toks:=tk,drawn:=d }):wpAny (model prog w) A (collect (.ref S)) R E s:=by
 have lS:=Heap.lt_size hS.g;unfold collect;refine wpAny_bind (wpAny_runValue (codeAny_builtin entry_proto_collect' ?_));rw[Around.under_plainId PySem.F.plain_proto_collect _];refine(show wpAny _ A.in1 (newList [] >>= λx=>again (.builtin "list.__iadd__" ⟨[x,.ref S],[]⟩)) _ _ s from wpAny_bind (wpAny_newObj_type (wpAny_pure ⟨plainId_quiet PySem.F.plain_list_iadd _,codeAny_builtin entry_list_iadd' ?_⟩)));rw[Around.under_plainId PySem.F.plain_list_iadd _];have e1:(s.heap.push { cls:=.type "list",data:=.seq ([]:List Value).toArray }).get? s.heap.objs.size=some { cls:=.type "list",data:=.seq #[] }:=Heap.get?_push_size _ rfl;have z1:(s.heap.push { cls:=.type "list",data:=.seq ([]:List Value).toArray }).objs.size=s.heap.objs.size+1:=Heap.size_push ..;refine(show wpAny _ A.in1 (Builtin.List.listExtendWith (.ref s.heap.objs.size) (.ref S) (.ref s.heap.objs.size)) _ _ _ from ?_);have Je:si (s.heap.push { cls:=.type "list",data:=.seq ([]:List Value).toArray }) S o es ep t:=⟨Heap.get?_push_of_some _ hS.g,hS.d,hS.f⟩;unfold Builtin.List.listExtendWith;refine wpAny_bind (wpAny_typeOf (T:="set") ⟨o,Je.g,hex.1⟩ ?_);have n1:Builtin.List.listSameRef (.ref s.heap.objs.size) (.ref S)=false:=by simp[Builtin.List.listSameRef];exact Nat.ne_of_gt lS
 have n2:(Value.type "set"==Value.type "list")=false:=by decide
 have n3:(Value.type "set"==Value.type "tuple")=false:=by decide
 simp only[n1,n2,n3,Bool.or_false,Bool.false_eq_true,if_false];refine wpAny_bind (GK (A:=A.in1) (by simp[hh]) Je hex tk hz λI fp Wk St h' d W st pm grow lI Sz=>?_);have sf:s.heap.objs.size∉fp:=λz=>by
  rcases Sz _ z with e|e
  ·exact absurd e (Nat.ne_of_gt lS)
  rw[z1]at e;exact absurd e (Nat.not_succ_le_self _)
 have sI:s.heap.objs.size≠I:=λz=>by rw[z1,<-z]at lI;exact absurd lI (Nat.not_succ_le_self _)
 have gS:h'.get? S=some o:=grow _ _ Je.g;have key:∀(h:Heap)(c tk:Nat),St 0 h->(∀b o,b≠s.heap.objs.size->h'.get? b=some o->h.get? b=some o)->h.get? s.heap.objs.size=some { cls:=.type "list",data:=.seq #[] c } ->
   codeAny (model prog w) A (.builtin "list.extend.loop" ⟨[.ref s.heap.objs.size,.ref I,.ref s.heap.objs.size],[]⟩) (λ(f:Result)(z:Shared)=>∃(g:Heap)(tk:Nat)(acc:Array Value)(c:Nat),f=.ok (.ret (.ref s.heap.objs.size))/\z={ s with heap:=g,toks:=tk,drawn:=d }/\Grows s.heap g/\g.get? s.heap.objs.size=some { cls:=.type "list",dict:=none,data:=.seq acc c,slots:=#[] }/\ItemsOf (uX Wk) acc es.size) { s with heap:=h,toks:=tk,drawn:=d }:=by
  intro h c tk Ac hk hl;refine codeAny_extend_loopS W.toS hz s.heap.objs.size sf _ es.size 0 _ #[] c rfl (Nat.zero_le _) Ac hl (ItemsOf.nil _) λs' B9 c' hm Az PV=>?_;rw[Moved.eq_with hm];refine⟨s'.heap,s'.toks,B9,c',rfl,rfl,λb o' e=>hm.heap b o' (λz=>?_) (hk b o' (Nat.ne_of_lt (Heap.lt_size e)) (grow b o' (Heap.get?_push_of_some _ e))),Az,PV⟩;rcases List.mem_cons.mp z with z|z
  ·exact absurd (Heap.lt_size e) (by rw[z];exact Nat.lt_irrefl _)
  have:=Heap.lt_size e;rw[List.mem_singleton.mp z]at this;rw[z1]at lI;exact absurd (Nat.lt_of_succ_le lI) (Nat.lt_asymm this)
 have e2:h'.get? s.heap.objs.size=some { cls:=.type "list",data:=.seq #[] }:=grow _ _ e1;have fin:∀(f:Result)(z:Shared),(∃(g:Heap)(tk:Nat)(acc:Array Value)(c:Nat),f=.ok (.ret (.ref s.heap.objs.size))/\z={ s with heap:=g,toks:=tk,drawn:=d }/\Grows s.heap g/\g.get? s.heap.objs.size=some { cls:=.type "list",dict:=none,data:=.seq acc c,slots:=#[] }/\ItemsOf (uX Wk) acc es.size)->f=.ok (.ret (.ref s.heap.objs.size))/\wpAny (model prog w) A (do
   let l <- load s.heap.objs.size
   match l.data with
   |.seq xs _=>pure xs.toList
   |_=>unsupported "internal:collect") R E z:=by
  rintro f z ⟨g,tk,acc,c,rfl,rfl,hg,hl,ha⟩;refine⟨rfl,wpAny_bind (wpAny_load hl (wpAny_pure (q g tk d acc.toList hg (Nat.le_of_lt (Heap.lt_size hl)) ?_)))⟩;refine List.Perm.trans (List.Perm.of_eq ?_) (pm.map (·.2));have wl:Wk.size=es.size:=by have:=pm.length_eq;simpa using this
  refine List.ext_getElem (by rw[List.length_map,Array.length_toList,Array.length_toList,ha.1,wl]) λi i1 i2=>?_;obtain⟨Ui,e⟩:=ha.2 i acc.toList[i] (by simp at i1;simp[i1]);have iw:i<Wk.size:=(Array.getElem?_eq_some_iff.mp e).1;have e':=(Array.getElem?_eq_some_iff.mp e).2;simp[e']
 refine wpAny_bind (wpAny_holding (GJ ⟨o,gS,hex.1⟩ ?_));refine wpAny_ite_split (λ_=>?_) (λ_=>wpAny_pure ⟨plainId_quiet PySem.F.plain_extend_loop _,codeAny_mono (key h' 0 s.toks st (λb o _ e=>e) e2) λf z hz=>?_⟩)
 ·refine wpAny_bind (wpAny_rule (wpAny_bind ?_));refine(show wpAny _ _ (updateSeq s.heap.objs.size (·.push .none) >>= λ_=>updateSeq s.heap.objs.size (·.pop)) _ _ _ from wpAny_bind (wpAny_updateSeq e2 rfl ?_));have e3:=Heap.get?_update_self (Obj.mapSeq (·.push Value.none)) e2 rfl;refine wpAny_updateSeq (hz:=by seq_fits) e3 rfl ?_;have e4:=Heap.get?_update_self (Obj.mapSeq (·.pop)) e3 rfl;have JY:∀b o',b≠s.heap.objs.size->h'.get? b=some o'->((h'.update s.heap.objs.size (Obj.mapSeq (·.push Value.none))).update s.heap.objs.size (Obj.mapSeq (·.pop))).get? b=some o':=λb o' nb e=>(Heap.get?_update_other _ _ (Ne.symm nb)).trans ((Heap.get?_update_other _ _ (Ne.symm nb)).trans e);refine wpAny_pure ⟨plainId_quiet PySem.F.plain_extend_loop _,codeAny_mono (key _ _ s.toks (W.frame 0 _ _ st λb hb o' e=>JY b o' (λz=>sf (z▸hb)) e) JY e4) λf z hz=>?_⟩;obtain⟨rfl,x⟩:=fin f z hz;exact x
 obtain⟨rfl,x⟩:=fin f z hz;exact x
theorem zo{x:Value}{Q:Value->Shared->Prop}(G:List Value->Prop)(LT:List Value->Nat->Nat->Bool)(E8:∀vs,G vs->vs.length<64)(col:∀R:List Value->Shared->Prop,(∀(vs:List Value)(h':Heap)(tk:Tok)(d:_),G vs->Grows s.heap h'->s.heap.objs.size<=h'.objs.size->R vs { s with heap:=h',toks:=tk,drawn:=d })->wpAny (model prog w) A.in1 (collect x) R E s)(S:∀vs,G vs->∃κ,mE prog w A.in1.in1 s.heap vs (LT vs) κ)(q:∀(vs:List Value)(p:Array Nat)(h':Heap)(tk:Tok)(d:_)(e:Nat)(l:Addr),G vs->lM vs.length p->yf (LT vs) p vs.length->Grows s.heap h'->s.heap.objs.size<=l->h'.get? l=some (seqObj "list" (dS vs p).toArray e)->Q (.ref l) { s with heap:=h',toks:=tk,drawn:=d }):
  wpAny (model prog w) A (call (.builtin "sorted") [x]) Q E s:=by
 refine Calls.call_function_entry kind_sorted plain_sorted entry_sorted (args_sorted1 _) ?_;unfold Builtin.«sorted»;refine wpAny_bind (m:=checkCount "sorted" 1 1 _) (wpAny_pure (wpAny_bind (col _ λvs h' tk d hG g hz=>?_)));have hv:=E8 vs hG;obtain⟨κ,S⟩:=S vs hG;refine wpAny_bind (wpAny_newList ?_ (by rw[sizeLine_eq];lia));have BP:(h'.push (seqObj "list" vs.toArray 0)).get? h'.objs.size=some (seqObj "list" vs.toArray 0):=Heap.get?_push_size _ rfl;refine(show wpAny _ _ _ _ _ { s with heap:=h'.push (seqObj "list" vs.toArray 0),toks:=tk,drawn:=d }from ?_);refine wpAny_bind (wpAny_holding (wpAny_call_entry slot_list_sort ⟨_,BP,rfl⟩ entry_list_sort (i4 (h:=s.heap) BP (λb o e=>⟨λz=>absurd (Heap.lt_size e) (by rw[z];exact Nat.not_lt.mpr hz),Heap.get?_push_of_some _ (g b o e)⟩) S hv λp hp ap=>⟨_,rfl,?_⟩) (args_list_sort _)))
 obtain⟨e,he⟩:∃e,(sortedHeap (h'.push (seqObj "list" vs.toArray 0)) h'.objs.size vs (dS vs p).toArray).get? h'.objs.size=some (seqObj "list" (dS vs p).toArray e):=by unfold sortedHeap;obtain⟨e1,z1⟩:∃e1,((h'.push (seqObj "list" vs.toArray 0)).update h'.objs.size (Obj.mapSeq λ_=>#[])).get? h'.objs.size=some (seqObj "list" #[] e1):=⟨_,get?_update_seq BP (λ_=>#[])⟩;exact⟨_,get?_update_seq (Heap.get?_push_of_some _ (Heap.get?_push_of_some _ z1)) _⟩
 refine wpAny_pure ⟨_,rfl,q vs p _ tk d e _ hG hp ap (λb o z=>?_) hz he⟩;have nb:b≠h'.objs.size:=λy=>absurd (Heap.lt_size z) (by rw[y];exact Nat.not_lt.mpr hz);unfold sortedHeap;rw[(Heap.SameBut.update _ h'.objs.size (Obj.mapSeq λ_=>(dS vs p).toArray)).2 b nb];refine Heap.get?_push_of_some _ (Heap.get?_push_of_some _ ?_);rw[(Heap.SameBut.update _ h'.objs.size (Obj.mapSeq λ_=>(#[]:Array Value))).2 b nb];exact Heap.get?_push_of_some _ (g b o z)
end
theorem Inv.drew{X:Cx}{pins:List (Addr×Obj)}{σ:St}{H:Hp}{s:Shared}(I:Inv X pins σ H s)(d):Inv X pins σ H { s with drawn:=d }:=by cases I;constructor<;>assumption
def j9(P:Program)(w:World)(a:Addr)(ks:List Key):HO:=.ext λh=>nW (aL P w) h a (cV ks) (dd ks).length
section
variable{X:Cx}
def Hq(P:Program)(w:World)(K:PySem.W.Frag):List V->Hp->VK->Prop:=λxs H Q=>∃(p:Addr)(ks:List Key),xs=[.ref p]/\(ag K H p (ks.map kV)\/ao K H p (ks.map kV))/\ks.length+1<scanBound/\∀q,H q=none->Q (.ref q) (upd H q (j9 P w q ks.reverse))
theorem CH(K:PySem.W.Frag)(hK:X.K=K:=by rfl)(hc:X.calm=true:=by rfl):bY X (.type "set") (Hq X.prog X.w K):=by
 subst hK;intro pins s σ H xs us Q I r h;obtain⟨p,ks,rfl,hs,hb,q⟩:=h;obtain⟨u,rfl,rx⟩:=vals1 r;cases rx;have hn:H s.heap.objs.size=none:=I.aq.fresh (Nat.le_refl _);have fin:∀(h':Heap)(tk:Nat),nW (aL X.prog X.w) h' s.heap.objs.size (cV ks.reverse) (dd ks.reverse).length->(∀b o,s.heap.get? b=some o->h'.get? b=some o)->EP X pins σ Q (.ref s.heap.objs.size) { s with heap:=h',toks:=tk }:=by intro h' tk hS kp;have e0:=hS;obtain⟨o,_,_,_,ho,_⟩:=e0;exact⟨.ref s.heap.objs.size,_,I.laid (o:=j9 X.prog X.w s.heap.objs.size ks.reverse) kp (Nat.le_refl _) ⟨hS,⟨o,ho⟩,λh1 h2 ⟨o,es,ep,t,ho,rr⟩ hk=>⟨o,es,ep,t,hk _ ho,rr⟩⟩,rfl,q _ hn⟩
 rcases hs with hs|hs
 ·obtain⟨aM,rv,pl,hz⟩:=I.list hs;have hl:=rv.length;rw[List.length_map]at hl;exact pX (I.ok.hd hc) (.inl ⟨rfl,pl.isList⟩) rv (by lia) fin
 obtain⟨aM,rv,pl,hz⟩:=I.tuple hs;have hl:=rv.length;rw[List.length_map]at hl;exact pX (I.ok.hd hc) (.inr ⟨rfl,pl⟩) rv (by lia) fin
theorem xo:∀(ks:List Key),(dd ks).Nodup
 |[]=>List.nodup_nil
 |k::ks=>by
  unfold dd;by_cases c:cV ks k=true
  ·rw[if_pos c];exact xo ks
  rw[if_neg c];exact List.nodup_cons.mpr ⟨λz=>c (iL.mpr (mB.mp z)),xo ks⟩
end
section
open PySem.W
variable{X:Cx}
def intOf:Value->Int
 |.int n _=>n
 |_=>0
theorem xp:∀{vs:List Value},(∀v∈vs,∃n t,v=Value.int n t)->aW ((vs.map intOf).map V.int) vs
 |[],_=>.nil
 |v::vs,h=>by obtain⟨n,t,rfl⟩:=h v List.mem_cons_self;exact .cons ⟨t,rfl⟩ (xp λu hu=>h u (List.mem_cons_of_mem _ hu))
theorem xq{α:Type}[DecidableEq α]:∀(l m:List α),l.Nodup->(∀x∈l,x∈m)->m.length<=l.length->l.Perm m
 |[],m,_,_,h=>by have:m=[]:=List.length_eq_zero_iff.mp (by simpa using h);rw[this]
 |a::l,m,nd,sub,h=>by
  obtain⟨n1,n2⟩:=List.nodup_cons.mp nd;have am:=sub a List.mem_cons_self;have pe:=List.perm_cons_erase am;refine(List.Perm.cons a (xq l (m.erase a) n2 (λx hx=>?_) ?_)).trans pe.symm
  ·exact(List.mem_erase_of_ne (λe=>n1 (by rw[<-e];exact hx))).mpr (sub x (List.mem_cons_of_mem _ hx))
  rw[List.length_erase_of_mem am];simp at h;lia
def Hr(P:Program)(w:World):List V->Hp->VK->Prop:=λxs H Q=>∃(p:Addr)(ns:List Int),xs=[.ref p]/\H p=some (j9 P w p (ns.map Sum.inl).reverse)/\(dd (ns.map Sum.inl).reverse).length<64/\∀(ys:List Int)(q:Addr),ys.Pairwise (·<·)->(∀x,x∈ys↔x∈ns)->H q=none->Q (.ref q) (upd H q (.lst (ys.map V.int)))
theorem vV(hu:X.A.units+16<cLine)(hc:X.calm=true:=by rfl):bY X (.builtin "sorted") (Hr X.prog X.w):=by
 intro pins s σ H xs us Q I r h;obtain⟨S,ns,rfl,hp,E8,q⟩:=h;obtain⟨u,rfl,rx⟩:=vals1 r;cases rx;obtain⟨⟨o,es,ep,t,ho,hex,hd,Dp,qF,hb,hf,hn,tk⟩,_⟩:=I.aq S _ hp;have hS:si s.heap S o es ep t:=⟨ho,hd,hf⟩;have hz:es.size<=sizeLine:=fits_of_scanBound hb;have FC:∀{k:Key},k∈(ns.map Sum.inl).reverse↔∃n∈ns,Sum.inl n=k:=λ{k}=>by rw[List.mem_reverse,List.mem_map]
 have one:∀v∈es.toList.map (·.2),∃n t,v=Value.int n t/\n∈ns:=λv hv=>by obtain⟨e,he,rfl⟩:=List.mem_map.mp hv;obtain⟨⟨k,hk,_⟩,_⟩:=Dp e he;have:=iL.mp ((qF k).mpr ⟨e,he,hk⟩);obtain⟨n,Ab,rfl⟩:=FC.mp this;obtain⟨t,et⟩:=(show ∃t,e.2=Value.int n t from vG hk);exact⟨n,t,et,Ab⟩
 have all:∀n∈ns,∃t,Value.int n t∈es.toList.map (·.2):=λn Ab=>by obtain⟨e,he,hk⟩:=(qF (Sum.inl n)).mp (iL.mpr (FC.mpr ⟨n,Ab,rfl⟩));obtain⟨t,et⟩:=(show ∃t,e.2=Value.int n t from vG hk);exact⟨t,by rw[<-et];exact List.mem_map.mpr ⟨e,he,rfl⟩⟩
 have facts:∀vs:List Value,vs.Perm (es.toList.map (·.2))->aW ((vs.map intOf).map V.int) vs/\vs.length<64/\(∀x,x∈vs.map intOf↔x∈ns)/\(vs.map intOf).Nodup:=λvs hv=>by
  have h1:∀v∈vs,∃n t,v=Value.int n t/\n∈ns:=λv h=>one v (hv.mem_iff.mp h);have hl:vs.length=(dd (ns.map Sum.inl).reverse).length:=by rw[hv.length_eq,List.length_map,Array.length_toList,hn]
  have mem:∀x,x∈vs.map intOf↔x∈ns:=λx=>by
   constructor
   ·intro h;obtain⟨v,jv,rfl⟩:=List.mem_map.mp h;obtain⟨n,t,rfl,Ab⟩:=h1 v jv;exact Ab
   intro h;obtain⟨t,ht⟩:=all x h;exact List.mem_map.mpr ⟨_,hv.mem_iff.mpr ht,rfl⟩
  refine⟨xp λv h=>let⟨n,t,e,_⟩:=h1 v h;⟨n,t,e⟩,by lia,mem,?_⟩;have sub:∀k∈dd (ns.map Sum.inl).reverse,k∈(vs.map intOf).map (Sum.inl:Int->Key):=λk hk=>by obtain⟨n,Ab,rfl⟩:=FC.mp (mB.mp hk);exact List.mem_map.mpr ⟨n,(mem n).mpr Ab,rfl⟩
  have pm:(dd (ns.map Sum.inl).reverse).Perm ((vs.map intOf).map (Sum.inl:Int->Key)):=xq _ _ (xo _) sub (by rw[List.length_map,List.length_map,hl];exact Nat.le_refl _);have nd:=pm.nodup_iff.mp (xo _);exact(List.pairwise_map.mp nd).imp λh e=>h (by rw[e])
 have SB:∀vs,vs.Perm (es.toList.map (·.2))->∃κ,mE X.prog X.w X.A.in1.in1 s.heap vs (λi j=>bN (((vs.map intOf).map PyData.int).getD i .none) (((vs.map intOf).map PyData.int).getD j .none)) κ:=λvs hv=>by
  obtain⟨rv,S0,_,_⟩:=facts vs hv;refine j7 (by rw[List.length_map,List.length_map]) (λj hj=>?_) (λd qP=>by obtain⟨n,_,rfl⟩:=List.mem_map.mp qP;rfl) (λd qP=>by obtain⟨n,_,rfl⟩:=List.mem_map.mp qP;exact Nat.zero_le _) (A1 _) (by show X.A.units+1+1+12<cLine;lia);obtain⟨x,h1,h2⟩:=rv.back (List.getElem?_eq_getElem hj);rw[List.getElem?_map]at h1;cases en:(vs.map intOf)[j]? with
  |none=>rw[en]at h1;cases h1
  |some n =>
   rw[en]at h1;obtain rfl:V.int n=x:=Option.some.inj h1;obtain⟨t,ht⟩:=h2;have er:((vs.map intOf).map PyData.int).getD j .none=.int n:=(by rw[List.getD_eq_getElem?_getD,List.getElem?_map,en];rfl);rw[ht,er];exact⟨_,.int n t⟩
 refine zo (λvs=>vs.Perm (es.toList.map (·.2))) _ (λvs hv=>(facts vs hv).2.1) (λR k=>xn hS hex tk hz (by simp[I.ok.hd hc]) λg tk d vs hg hz hv=>k vs g tk d hv hg hz) SB λvs p h' tk d e l hv PX ap g GL hl=>?_;obtain⟨rv,S0,mem,nd⟩:=facts vs hv;have ml:(vs.map intOf).length=vs.length:=List.length_map ..;generalize vs.map intOf=ms at ap rv mem nd ml;obtain⟨z1,z2⟩:=j8 PX ap ms ml (0:Int) (λx y=>x<=y) (λi j hi hj h0=>by
  have sP:i<ms.length:=by lia
  have Fz:j<ms.length:=by lia
  simp[sP,Fz,bN]at h0
  simpa[sP,Fz]using h0)
 have yZ:∀i∈p.toList,i<(ms.map V.int).length:=by
  intro i hi;have:=(Array.perm_iff_toList_perm.mp PX.pm).mem_iff.mp hi;have:i<vs.length:=by simpa using this
  rw[List.length_map];lia
 have rp:=rv.pick p.toList yZ;have ev:(p.toList.map λi=>(ms.map V.int).getD i V.ba)=(p.toList.map λi=>ms.getD i 0).map V.int:=by rw[List.map_map];refine List.map_congr_left λi hi=>?_;have sP:=yZ i hi;rw[List.length_map]at sP;show(ms.map V.int).getD i V.ba=V.int (ms.getD i 0);rw[List.getD_eq_getElem?_getD,List.getD_eq_getElem?_getD,List.getElem?_map,List.getElem?_eq_getElem sP];rfl
 rw[ev]at rp;have strict:(p.toList.map λi=>ms.getD i 0).Pairwise (·<·):=(z2.and (z1.nodup_iff.mpr nd)).imp λ⟨a,b⟩=>by lia
 refine⟨.ref l,_,(I.drew d).laid (t':=tk) (o:=.lst ((p.toList.map λi=>ms.getD i 0).map V.int)) (λb o eb=>g b o eb) GL ⟨by rw[List.length_map,List.length_map,Array.length_toList,PX.sz,sizeLine_eq];lia,_,e,rp,hl⟩,rfl,q _ _ strict (λx=>z1.mem_iff.trans (mem x)) (I.aq.fresh GL)⟩
theorem uZ(P:Program)(w:World)(K:PySem.W.Frag)(hP:X.prog=P:=by rfl)(hw:X.w=w:=by rfl)(hK:X.K=K:=by rfl)(hc:X.calm=true:=by rfl):bY X (.type "set") (Hq P w K):=by subst hP hw;exact CH K hK hc
theorem nY(P:Program)(w:World)(hu:X.A.units+16<cLine)(hP:X.prog=P:=by rfl)(hw:X.w=w:=by rfl)(hc:X.calm=true:=by rfl):bY X (.builtin "sorted") (Hr P w):=by subst hP hw;exact vV hu hc
end
end L2
set_option genInjectivity false
namespace K50
open PySem L2 PyProof.Rows
theorem zz0:0<=sizeLine:=by decide
theorem zz1:1<=sizeLine:=by decide
theorem zz2:2<=sizeLine:=by decide
theorem zz3:3<=sizeLine:=by decide
theorem zz4:4<=sizeLine:=by decide
theorem zz6:6<=sizeLine:=by decide
def top(i:Nat):Stmt:=PySem.Challenge.pw_stormpost_k50_whole_a_way_or_a_side.main.body.getD i (.Pass ⟨0,0,0,0⟩)
abbrev i6:Stmt:=top 6
abbrev eY:Stmt:=top 8
abbrev eZ:Stmt:=top 9
abbrev dD:Stmt:=top 10
abbrev gM:Stmt:=top 11
abbrev kA:Stmt:=top 12
abbrev fA:Stmt:=top 13
abbrev dE:Stmt:=top 14
abbrev cK:Stmt:=top 15
abbrev gN:Stmt:=top 16
abbrev bG:Stmt:=top 17
abbrev dF:Stmt:=top 18
abbrev fB:Stmt:=top 19
abbrev fD:Stmt:=top 27
abbrev dg:Stmt:=top 28
abbrev dh:Stmt:=top 29
abbrev iP:Stmt:=top 30
abbrev fE:Stmt:=top 31
abbrev gO:Stmt:=top 32
abbrev cu:Stmt:=top 33
abbrev gP:Stmt:=top 34
abbrev dG:Stmt:=top 37
abbrev fF:Stmt:=top 38
abbrev fG:Stmt:=top 39
abbrev b9:Stmt:=top 40
abbrev gQ:Stmt:=top 41
abbrev cv:Stmt:=top 42
abbrev fO:Stmt:=top 43
abbrev fH:Stmt:=top 44
abbrev bO:Stmt:=top 45
abbrev cf:Stmt:=top 46
abbrev d9:Stmt:=top 47
abbrev bP:Stmt:=top 48
abbrev dH:Stmt:=top 49
abbrev A8:Stmt:=top 50
def lA:Stmt->List Stmt
 |.ClassDef _ _ _ b _ _ _ _ _ _ _=>b
 |_=>[]
abbrev ox:Stmt:=(lA (top 35)).getD 0 (.Pass ⟨0,0,0,0⟩)
abbrev oy:Stmt:=(lA (top 35)).getD 1 (.Pass ⟨0,0,0,0⟩)
abbrev mG:Stmt:=(lA (top 35)).getD 2 (.Pass ⟨0,0,0,0⟩)
abbrev lB:Stmt:=(lA (top 35)).getD 3 (.Pass ⟨0,0,0,0⟩)
abbrev nZ:Stmt:=(lA (top 35)).getD 4 (.Pass ⟨0,0,0,0⟩)
abbrev vW:Stmt:=(lA (top 35)).getD 5 (.Pass ⟨0,0,0,0⟩)
structure Ad where
 BadNews:Addr
 Map:Addr
 init:Addr
 rP:Addr
 rQ:Addr
 nc:Addr
 xr:Addr
 EE:Addr
structure Txt(K:PySem.W.Frag)(mg:Str->Option Value)(t:Ad):Prop where
 GN:∃tk,mg "HOUSES"=some (.int 32 tk)
 sj:∃tk,mg "LONGEST_NAME"=some (.int 4 tk)
 xt:∃tk,mg "MOST_BIRTH"=some (.int 9000 tk)
 xu:∃tk,mg "MOST_NAMES"=some (.int 4 tk)
 zp:∃tk,mg "MOST_NEAR"=some (.int 5 tk)
 vX:∃tk,mg "MOST_NUMBER"=some (.int 900000 tk)
 xv:∃tk,mg "MOST_QUIET"=some (.int 10 tk)
 MS:mg "abs"=none
 Hs:mg "all"=none
 MT:mg "any"=none
 Jq:mg "bool"=none
 Js:mg "dict"=none
 MU:mg "int"=none
 vY:mg "isinstance"=none
 gR:mg "len"=none
 Jt:mg "list"=none
 Hu:mg "max"=none
 MV:mg "min"=none
 dI:mg "range"=none
 xw:mg "set"=none
 cY:mg "sorted"=none
 lC:mg "tuple"=none
 MW:mg "zip"=none
 iQ:mg "BadNews"=some (.ref t.BadNews)
 PY:mg "Map"=some (.ref t.Map)
 iR:PySem.W.excIn K t.BadNews [.type "ValueError",.type "Exception",.type "BaseException",.type "object"] "ValueError.__new__"=true
 MX:l9 K t.BadNews
 PZ:Mk K t.Map t.init
 fi:∃fd,sU K "__init__" "Map.__init__" ox t.init fd
 sm:C5 K t.Map
 dc:ls K t.Map "latest"
 GO:wo K t.Map "hear" t.rP
 Ju:∃fd,sU K "hear" "Map.hear" oy t.rP fd
 GP:wo K t.Map "news" t.rQ
 Jv:∃fd,sU K "news" "Map.news" mG t.rQ fd
 EF:wo K t.Map "wires" t.nc
 GQ:∃fd,sU K "wires" "Map.wires" lB t.nc fd
 Kk:wo K t.Map "holder" t.xr
 MY:∃fd,sU K "holder" "Map.holder" nZ t.xr fd
 NH:wo K t.Map "copy" t.EE
 Pa:∃fd,sU K "copy" "Map.copy" vW t.EE fd
 GR:PySem.W.kitOne K (.type "int") (.type "bool")=some false
 su:PySem.W.kitOne K (.type "bool") (.type "bool")=some true
section
variable{P:Program}{w:World}{K:PySem.W.Frag}{mg:Str->Option Value}{base:Heap}{t:Ad}
theorem ng{i:Int}(h:i.natAbs<2 ^ 1000):(Str.ofString (toString i)).length<=1001:=by
 have hl:i.natAbs.log2<1000:=by
  by_cases z:i.natAbs=0
  ·rw[z];decide
  exact(Nat.log2_lt z).mpr h
 have e:=int_text_length_le (k:=1000) (by decide) hl;rw[PySem.ofString_length];lia
theorem A9{xs:List V}{lo:Int}(h1:0<=lo):oX xs (some lo) none=xs.drop lo.toNat:=by
 unfold oX;obtain⟨a,rfl⟩:=Int.eq_ofNat_of_zero_le h1;rw[HT.FU,HT.DA,Int.toNat_natCast];by_cases h:a<=xs.length
 ·rw[Nat.min_eq_left h,List.take_of_length_le (by rw[List.length_drop];lia)]
 rw[Nat.min_eq_right (by lia),List.drop_length,List.drop_of_length_le (by lia),List.take_nil]
def mH(S:List Addr)(H H':Hp):Prop:=∀b o,b∉S->H b=some o->H' b=some o
theorem mH.refl{S:List Addr}{H:Hp}:mH S H H:=λ_ _ _ e=>e
theorem mH.upd{S:List Addr}{H H':Hp}{p:Addr}{o:HO}(m:mH S H H')(h:p∈S\/H p=none):mH S H (upd H' p o):=λb u n e=>by rw[aI (λz=>by rw[z]at n e;exact h.elim n λy=>by rw[y]at e;cases e)];exact m b u n e
def NI(n:Int):Prop:=0<=n/\n<32
def Cq(n:Int):Prop:=n.natAbs<2 ^ 1000
theorem Cq.of{n:Int}(h:-(10 ^ 60)<=n)(h2:n<=10 ^ 60):Cq n:=Fg h h2
def kB:Sp:=λvs H Q _=>∃n:Int,vs=[.int n]/\Q (.bl (decide (0<=n/\n<32))) H
theorem xx:aQ ["number"] ["number"] (aG i6):=⟨rfl,rfl,rfl,by decide +kernel,rfl,by decide +kernel,by decide +kernel⟩
theorem xy(F:aK K mg "is_house" i6)(T:Txt K mg t):Def P w K mg base 1 "is_house" ["number"] kB:=by
 refine F.def xx (λ_ _ _ _ _ _ us hl=>match us,hl with|[_],_=>rfl) (λvs H Q E h=>?_) (λf bU A outer s H vs Q E hr h=>?_)
 ·obtain⟨n,rfl,_⟩:=h;rfl
 obtain⟨n,rfl,q⟩:=h;refine⟨_,aF (aS (qi tu pL aE (pv 0) (iy T.GN))),?_⟩;refine⟨_,rfl,_,_,rfl,rfl,_,rfl,?_⟩;by_cases h0:0<=n
 ·rw[decide_eq_true h0];refine eV ⟨_,_,rfl,rfl,?_⟩;have e:decide (n<32)=decide (0<=n/\n<32):=by simp[h0]
  show Q (.bl (decide (n<32))) H;rw[e];exact q
 rw[decide_eq_false h0];refine d0 ?_;have e:false=decide (0<=n/\n<32):=by simp[h0]
 show Q (.bl false) H;rw[e];exact q
def gm(C:Addr):Sp:=λvs H Q E=>∃n:Int,vs=[.int n]/\Cq n/\(NI n->Q .ba H)/\(¬NI n->E (.ref C) none H)
theorem sv:aQ ["number"] ["number"] (aG fD):=⟨rfl,rfl,rfl,by decide +kernel,rfl,by decide +kernel,by decide +kernel⟩
theorem tE(F:aK K mg "look_house" fD)(T:Txt K mg t)(de:Def P w K mg base 1 "is_house" ["number"] kB):Def P w K mg base 2 "look_house" ["number"] (gm t.BadNews):=by
 refine F.def sv (λ_ _ _ _ _ _ us hl=>match us,hl with|[_],_=>rfl) (λvs H Q E h=>?_) (λf bU A outer s H vs Q E hr h=>?_)
 ·obtain⟨n,rfl,_⟩:=h;rfl
 obtain⟨n,rfl,hm,q1,q2⟩:=h;refine⟨_,aF (ay (js (fL (aV (de.mono (by decide)) hr au (aA (pv 0) aC))))
   (aF (iK bB rfl rfl T.iQ T.iR PySem.F.excBase_ValueError (aA (qV (cP (nI (pv 0)) (cP cE vB))) aC)))
   (aZ)),?_⟩
 have sl:(5000:Nat)<=sizeLine:=by decide
 refine⟨_,rfl,n,rfl,_,rfl,?_⟩;by_cases h0:0<=n/\n<32
 ·rw[decide_eq_true h0];exact d0 (q1 h0)
 rw[decide_eq_false h0];refine eV ?_;have GL:=ng hm;have f0:(Str.empty++Str.ofString (toString n)).length<=1001:=by rw[strLen_append];show 0+_<=1001;lia
 have f1:((Str.empty++Str.ofString (toString n))++(" is no house":Str)).length<=2000:=by
  have:(" is no house":Str).length=12:=by decide +kernel
  rw[strLen_append];lia
 refine⟨_,rfl,n,rfl,jy hm (by decide) (by decide),_,rfl,by lia,_,rfl,by lia,by lia,?_⟩;exact⟨zz1,q2 h0⟩
def fP(C:Addr):Sp:=λvs H Q E=>∃n lo hi:Int,vs=[.int n,.int lo,.int hi]/\Cq n/\Cq lo/\Cq hi/\(lo<=n/\n<=hi->Q .ba H)/\(¬(lo<=n/\n<=hi)->E (.ref C) none H)
theorem rR:aQ ["number","least","most"] ["number","least","most"] (aG dg):=⟨rfl,rfl,rfl,by decide +kernel,rfl,by decide +kernel,by decide +kernel⟩
theorem rS(F:aK K mg "look_bounds" dg)(T:Txt K mg t):Def P w K mg base 1 "look_bounds" ["number","least","most"] (fP t.BadNews):=by
 refine F.def rR (λ_ _ _ _ _ _ us hl=>match us,hl with|[_,_,_],_=>rfl) (λvs H Q E h=>?_) (λf bU A outer s H vs Q E hr h=>?_)
 ·obtain⟨n,lo,hi,rfl,_⟩:=h;rfl
 obtain⟨n,lo,hi,rfl,hn,M5,Pb,q1,q2⟩:=h;refine⟨_,aF (ay (js (C1 tu tu (pv 1) (pv 0) (pv 2)))
   (aF (iK bB rfl rfl T.iQ T.iR PySem.F.excBase_ValueError (aA (qV (cP cE (cP (nI (pv 1)) (cP cE (cP (nI (pv 2)) (cP cE (cP (nI (pv 0)) vB))))))) aC)))
   (aZ)),?_⟩
 have sl:(5000:Nat)<=sizeLine:=by decide
 have zn:=ng hn;have zl:=ng M5;have zh:=ng Pb;have l1:("from ":Str).length=5:=by decide +kernel
 have l2:(" to ":Str).length=4:=by decide +kernel
 have l3:(" is asked for here, not ":Str).length=24:=by decide +kernel
 have e1:(Str.empty++("from ":Str)).length<=5:=by rw[strLen_append,l1];show 0+5<=5;lia
 have e2:((Str.empty++("from ":Str))++Str.ofString (toString lo)).length<=1006:=by rw[strLen_append];lia
 have e3:(((Str.empty++("from ":Str))++Str.ofString (toString lo))++(" to ":Str)).length<=1010:=by rw[strLen_append];lia
 have e4:((((Str.empty++("from ":Str))++Str.ofString (toString lo))++(" to ":Str))++Str.ofString (toString hi)).length<=2011:=by rw[strLen_append];lia
 have e5:(((((Str.empty++("from ":Str))++Str.ofString (toString lo))++(" to ":Str))++Str.ofString (toString hi))++(" is asked for here, not ":Str)).length<=2035:=by rw[strLen_append];lia
 have e6:((((((Str.empty++("from ":Str))++Str.ofString (toString lo))++(" to ":Str))++Str.ofString (toString hi))++(" is asked for here, not ":Str))++Str.ofString (toString n)).length<=3036:=by rw[strLen_append];lia
 refine⟨_,rfl,_,rfl,_,_,rfl,rfl,_,rfl,?_⟩;by_cases h1:lo<=n
 ·refine bw h1 ?_;refine⟨_,rfl,_,_,rfl,rfl,_,rfl,?_⟩;by_cases h2:n<=hi
  ·rw[decide_eq_true h2];exact d0 (q1 ⟨h1,h2⟩)
  rw[decide_eq_false h2];refine eV ?_;refine⟨_,rfl,by lia,_,rfl,lo,rfl,jy M5 (by decide) (by decide),_,rfl,by lia,_,rfl,by lia,_,rfl,hi,rfl,jy Pb (by decide) (by decide),_,rfl,by lia,_,rfl,by lia,_,rfl,n,rfl,jy hn (by decide) (by decide),_,rfl,by lia,by lia,?_⟩;exact⟨zz1,q2 λz=>h2 z.2⟩
 refine bu h1 ?_;refine⟨_,rfl,eV ?_⟩;refine⟨_,rfl,by lia,_,rfl,lo,rfl,jy M5 (by decide) (by decide),_,rfl,by lia,_,rfl,by lia,_,rfl,hi,rfl,jy Pb (by decide) (by decide),_,rfl,by lia,_,rfl,by lia,_,rfl,n,rfl,jy hn (by decide) (by decide),_,rfl,by lia,by lia,?_⟩;exact⟨zz1,q2 λz=>h1 z.1⟩
theorem iS{α:Type}{l:List α}:l.reverse.Nodup↔l.Nodup:=by unfold List.Nodup;rw[List.pairwise_reverse];exact⟨λh=>h.imp λe z=>e z.symm,λh=>h.imp λe z=>e z.symm⟩
def fQ(K:PySem.W.Frag)(C:Addr):Sp:=λvs H Q E=>∃(b:Bool)(l:Addr)(ks:List Key)(m:Int),vs=[.ref l,.int m]/\yd b K H l (ks.map kV)/\ks.length<=1000/\0<=m/\m<=1000 /\
 ((ks.length:Int)<=m/\ks.Nodup->∀H',aH H H'->Q .ba H')/\(¬((ks.length:Int)<=m/\ks.Nodup)->∀H',aH H H'->E (.ref C) none H')
theorem rT:aQ ["things","most"] ["things","most"] (aG dh):=⟨rfl,rfl,rfl,by decide +kernel,rfl,by decide +kernel,by decide +kernel⟩
theorem rV(F:aK K mg "look_unlike" dh)(T:Txt K mg t):Def P w K mg base 1 "look_unlike" ["things","most"] (fQ K t.BadNews):=by
 refine F.def rT (λ_ _ _ _ _ _ us hl=>match us,hl with|[_,_],_=>rfl) (λvs H Q E h=>?_) (λf bU A outer s H vs Q E hr h=>?_)
 ·obtain⟨b,l,ks,m,rfl,_⟩:=h;rfl
 obtain⟨b,l,ks,m,rfl,hl,hk,m0,m1,q1,q2⟩:=h;refine⟨_,aD (ay (aO pM (aX (bz K) (by rfl) T.gR boot_len (aA (pv 0) aC)) (pv 1) (aU _))
   (aF (iK bB rfl rfl T.iQ T.iR PySem.F.excBase_ValueError (aA (qV (cP cE (cP (nI (pv 1)) (cP cE vB)))) aC)))
   (aZ))
  (aF (ay (aO pK (aX mD (by rfl) T.gR boot_len (aA (bE (oj K) (by rfl) T.xw boot_set (aA (pv 0) aC)) aC)) (aX (bz K) (by rfl) T.gR boot_len (aA (pv 0) aC)) (aU _))
   (aF (iK bB rfl rfl T.iQ T.iR PySem.F.excBase_ValueError (aA cE aC)))
   (aZ))),?_⟩
 have sl:(5000:Nat)<=sizeLine:=by decide
 have hm:m.natAbs<2 ^ 1000:=Bi (by lia) (by lia);have zl:=ng hm;have l1:("at most ":Str).length=8:=by decide +kernel
 have l2:(" are asked for here":Str).length=19:=by decide +kernel
 have e1:(Str.empty++("at most ":Str)).length<=8:=by rw[strLen_append,l1];show 0+8<=8;lia
 have e2:((Str.empty++("at most ":Str))++Str.ofString (toString m)).length<=1009:=by rw[strLen_append];lia
 have e3:(((Str.empty++("at most ":Str))++Str.ofString (toString m))++(" are asked for here":Str)).length<=1034:=by rw[strLen_append];lia
 refine⟨_,rfl,l,_,rfl,hl.or,_,rfl,_,_,rfl,rfl,_,rfl,?_⟩;rw[List.length_map];have sb:2000<scanBound:=by decide
 by_cases h1:m<(ks.length:Nat)
 ·refine bw h1 ?_;refine⟨_,rfl,by lia,_,rfl,m,rfl,jy hm (by decide) (by decide),_,rfl,by lia,_,rfl,by lia,by lia,?_⟩;exact⟨zz1,q2 (λr=>by have:=r.1;lia) H (aH.refl _)⟩
 refine bu h1 ?_;refine⟨_,rfl,l,ks,rfl,hl.or,by lia,λp hp=>?_⟩;have s1:=(aH.refl H).new (o:=Bx P w p ks.reverse) hp;refine⟨p,_,rfl,aB,_,rfl,l,_,rfl,(hl.same s1).or,rfl,_,rfl,?_⟩;rw[List.length_map];by_cases h2:ks.Nodup
 ·have e:=(iM ks.reverse).mpr (iS.mpr h2);rw[List.length_reverse]at e;refine jz (by rw[e]) ?_;exact q1 ⟨by lia,h2⟩ _ s1
 refine pS (λe=>h2 (iS.mp ((iM ks.reverse).mp (by have:=V.int.inj e;rw[List.length_reverse];lia)))) ?_;exact⟨zz1,q2 (λr=>h2 r.2) _ s1⟩
def GS(c:Nat):Prop:=97<=c/\c<=122
instance (c:Nat):Decidable (GS c):=by unfold GS;infer_instance
def qH(cs:List Nat):Prop:=(1<=cs.length/\cs.length<=4)/\∀c∈cs,GS c
instance (cs:List Nat):Decidable (qH cs):=by unfold qH;infer_instance
def Jw(cs:List Nat):Prop:=cs.length<=100/\∀c∈cs,c<128
theorem EG(a b:Nat):([a]<[b])↔a<b:=by rw[List.cons_lt_cons_iff];simp
theorem Pc(c:Nat):(!decide ((⟨#[c]⟩:Str).cps.toList<("a":Str).cps.toList))=decide (97<=c):=by
 have e:((⟨#[c]⟩:Str).cps.toList<("a":Str).cps.toList)↔c<97:=EG c 97;by_cases h:97<=c
 ·rw[decide_eq_false (λz=>by have:=e.mp z;lia),decide_eq_true h];rfl
 rw[decide_eq_true (e.mpr (by lia)),decide_eq_false h];rfl
theorem Pd(c:Nat):(!decide (("z":Str).cps.toList<(⟨#[c]⟩:Str).cps.toList))=decide (c<=122):=by
 have e:(("z":Str).cps.toList<(⟨#[c]⟩:Str).cps.toList)↔122<c:=EG 122 c;by_cases h:c<=122
 ·rw[decide_eq_false (λz=>by have:=e.mp z;lia),decide_eq_true h];rfl
 rw[decide_eq_true (e.mpr (by lia)),decide_eq_false h];rfl
def rW:Sp:=λvs H Q _=>∃cs:List Nat,vs=[.str (bA cs)]/\Jw cs/\∀H',aH H H'->Q (.bl (decide (qH cs))) H'
theorem zq:aQ ["text"] ["text"] (aG iP):=⟨rfl,rfl,rfl,by decide +kernel,rfl,by decide +kernel,by decide +kernel⟩
theorem zr(F:aK K mg "is_name" iP)(T:Txt K mg t):Def P w K mg base 1 "is_name" ["text"] rW:=by
 refine F.def zq (λ_ _ _ _ _ _ us hl=>match us,hl with|[_],_=>rfl) (λvs H Q E h=>?_) (λf bU A outer s H vs Q E hr h=>?_)
 ·obtain⟨cs,rfl,_⟩:=h;rfl
 obtain⟨cs,rfl,ha,q⟩:=h;refine⟨_,aF (aS (jt (qi tu tu aE (aX uz (by rfl) T.gR boot_len (aA (pv 0) aC)) (iy T.sj)) (lq (aX (uJ K rfl) (by rfl) T.Hs boot_all (aA (je rfl (Nc:=["letter"]) (ix:=[none]) (cF (aG iP) ["text"] rfl rfl (by decide +kernel)) (Jc (pv 0)) (λC fp s H=>⟨(aJ (i:=0) (show(["letter"]:List Str).Nodup by decide +kernel) rfl (Or.inl rfl)),cO,(qi Dw Dw cE (pv 0) cE)⟩)) aC))))),?_⟩;have hsz:(2000:Nat)<=sizeLine:=by decide
 have hl:=ha.1;refine⟨_,rfl,_,rfl,by rw[j5];lia,_,_,rfl,rfl,_,rfl,?_⟩;rw[j5];by_cases h1:(1:Int)<=(cs.length:Nat)
 ·refine bw h1 ?_;refine⟨_,_,rfl,rfl,?_⟩;by_cases h2:((cs.length:Nat):Int)<=4
  ·refine⟨_,rfl,bw h2 ?_⟩;refine⟨_,rfl,cs,rfl,ha.2,λD hD=>?_⟩;refine Jd (cs:=cs) (λi σ H'=>∃v:Option V,σ=[v]/\aH H H'/\H' D=some (.lst (((cs.take i).map λc=>decide (GS c)).map V.bl))) ⟨none,rfl,(aH.refl _).new hD,aB⟩ ?_ ?_
   ·rintro i c σ H' N hN hi ⟨v,rfl,s1,e1⟩;have MZ:i<cs.length:=(List.getElem?_eq_some_iff.mp hi).1;have fin:∀b:Bool,b=decide (GS c)->∃ys,H' D=some (.lst ys)/\ys.length<sizeLine/\N [some (.str ⟨#[c]⟩)] (upd H' D (.lst (ys++[.bl b]))):=by rintro b rfl;refine⟨_,e1,by rw[List.length_map,List.length_map,List.length_take];lia,hN _ _ ⟨_,rfl,s1.put hD,?_⟩⟩;rw[aB,take_succ hi,List.map_append,List.map_append];rfl
    refine c8 ?_;refine⟨_,rfl,_,_,rfl,rfl,_,rfl,?_⟩;rw[Pc];by_cases g1:97<=c
    ·refine bw g1 ⟨_,_,rfl,rfl,?_⟩;rw[Pd];exact fin _ (by unfold GS;simp[g1])
    exact bu g1 (fin _ (by unfold GS;simp[g1]))
   rintro σ H' ⟨v,rfl,s1,e1⟩;rw[List.take_length]at e1;refine⟨D,_,rfl,ag.of e1,?_⟩;have e:((cs.map λc=>decide (GS c)).all id)=decide (qH cs):=by
    rw[Bool.eq_iff_iff,List.all_map,List.all_eq_true,decide_eq_true_iff];unfold qH;constructor
    ·intro z;exact⟨⟨by lia,by lia⟩,λc hc=>by simpa using z c hc⟩
    intro z c hc
    simpa using z.2 c hc
   show Q (.bl ((cs.map λc=>decide (GS c)).all id)) H';rw[e];exact q _ s1
  refine⟨_,rfl,bu h2 ?_⟩;have e:false=decide (qH cs):=by rw[eq_comm,decide_eq_false_iff_not];exact λz=>h2 (by have:=z.1.2;lia)
  show Q (.bl false) H;rw[e];exact q _ (aH.refl _)
 refine bu h1 ?_;refine⟨_,rfl,d0 ?_⟩;have e:false=decide (qH cs):=by rw[eq_comm,decide_eq_false_iff_not];exact λz=>h1 (by have:=z.1.1;lia)
 show Q (.bl false) H;rw[e];exact q _ (aH.refl _)
def x6(cs:List Nat):V:=.str (bA cs)
def EH(ns:List (List Nat)):Prop:=ns.length<=4/\ns.Nodup/\∀n∈ns,qH n
theorem x8{a b:List Nat}(h:bA a=bA b):a=b:=by
 have:=congrArg (λs:Str=>s.cps.toList) h
 simpa[bA]using this
theorem GU(ns:List (List Nat)):ns.map x6=(ns.map λcs=>(Sum.inr (bA cs):Key)).map kV:=by rw[List.map_map];rfl
theorem x9{ns:List (List Nat)}:(ns.map λcs=>(Sum.inr (bA cs):Key)).Nodup↔ns.Nodup:=by unfold List.Nodup;rw[List.pairwise_map];exact⟨λh=>h.imp λe z=>e (by rw[z]),λh=>h.imp λe z=>e (x8 (Sum.inr.inj z))⟩
def lN(K:PySem.W.Frag)(C:Addr):Sp:=λvs H Q E=>∃(b:Bool)(l:Addr)(ns:List (List Nat)),vs=[.ref l]/\yd b K H l (ns.map x6)/\ns.length<=100/\(∀n∈ns,Jw n/\(qH n\/(reprText (bA n)).length<=1000))/\(EH ns->∀H',aH H H'->Q .ba H')/\(¬EH ns->∀H',aH H H'->E (.ref C) none H')
theorem lO:aQ ["names","name"] ["names"] (aG fE):=⟨rfl,rfl,rfl,by decide +kernel,rfl,by decide +kernel,by decide +kernel⟩
theorem tF(F:aK K mg "look_names" fE)(T:Txt K mg t)(cA:Def P w K mg base 1 "look_unlike" ["things","most"] (fQ K t.BadNews))(oz:Def P w K mg base 1 "is_name" ["text"] rW):Def P w K mg base 2 "look_names" ["names"] (lN K t.BadNews):=by
 refine F.def lO (λ_ _ _ _ _ _ us hl=>match us,hl with|[_],_=>rfl) (λvs H Q E h=>?_) (λf bU A outer s H vs Q E hr h=>?_)
 ·obtain⟨b,l,ns,rfl,_⟩:=h;rfl
 obtain⟨b,l,ns,rfl,hl,hn,ha,q1,q2⟩:=h;refine⟨_,aD (bV (aV (cA.mono (by decide)) hr (nH bB) (aA (pv 0) (aA (iy T.xu) aC))))
  (aF (bL (Ll bB) rfl (A0 K (pv 0)) (aJ (i:=1) lO.nd rfl (Or.inl rfl))
   (aF (ay (js (fL (aV (oz.mono (by decide)) hr au (aA (pv 1) aC))))
    (aF (iK bB rfl rfl T.iQ T.iR PySem.F.excBase_ValueError (aA (qV (cP (Fe (pv 1)) (cP cE vB))) aC)))
    (aZ))))),?_⟩
 have sl:(5000:Nat)<=sizeLine:=by decide
 refine⟨_,rfl,b,l,_,4,rfl,(GU ns▸hl),by rw[List.length_map];lia,by decide,by decide,?_,?_⟩
 ·rw[List.length_map,x9];rintro⟨h1,h2⟩ H1 s1;have yc:=hl.same s1;refine⟨_,rfl,b,l,_,rfl,yc,GB (b:=b) (K:=K) (a:=l) (xs:=ns.map x6) (λi σ H'=>∃x:Option V,σ=[some (.ref l),x]/\aH H1 H'/\∀n∈ns.take i,qH n) ⟨none,rfl,aH.refl _,λn hn=>by simp at hn⟩ (λi σ H' _ ⟨_,_,e,_⟩=>yc.same e) ?_ ?_⟩
  ·rintro i y σ H' hi ⟨x,rfl,s2,hg⟩;obtain⟨n,hz,rfl⟩:∃n,ns[i]?=some n/\y=x6 n:=by
    rw[List.getElem?_map]at hi;cases e:ns[i]? with
    |none=>rw[e]at hi;cases hi
    |some n=>rw[e]at hi;exact⟨n,rfl,(Option.some.inj hi).symm⟩
   have hm:n∈ns:=List.mem_of_getElem? hz;refine⟨_,rfl,n,rfl,(ha n hm).1,λH2 s3=>?_⟩;refine⟨_,rfl,?_⟩;by_cases h0:qH n
   ·rw[decide_eq_true h0];refine d0 ⟨_,rfl,s2.trans s3,?_⟩;rw[take_succ hz];intro n' Ab;rcases List.mem_append.mp Ab with z1|z1
    ·exact hg n' z1
    rw[List.mem_singleton.mp z1];exact h0
   rw[decide_eq_false h0];refine eV ?_;have GL:=(ha n hm).2.resolve_left h0;have f0:(Str.empty++reprText (bA n)).length<=1000:=(by rw[strLen_append];show 0+_<=1000;lia);have f1:((Str.empty++reprText (bA n))++(" is no name":Str)).length<=2000:=by have:(" is no name":Str).length=11:=(by decide +kernel);rw[strLen_append];lia
   refine⟨_,rfl,_,rfl,by lia,_,rfl,by lia,_,rfl,by lia,by lia,?_⟩;exact⟨zz1,q2 (λr=>h0 (r.2.2 n hm)) _ (s1.trans (s2.trans s3))⟩
  rintro σ H' ⟨x,rfl,s2,hg⟩;rw[List.length_map,List.take_length]at hg;exact q1 ⟨by lia,h2,hg⟩ _ (s1.trans s2)
 rw[List.length_map,x9];intro hb H1 s1;exact q2 (λz=>hb ⟨by have:=z.1;lia,z.2.1⟩) H1 s1
structure Wr where
 o:Int
 q:Int
 a:Int
 b:Int
def o3(w:Wr):PyData:=.tuple [.int w.o,.int w.q,.tuple [.int w.a,.int w.b]]
def zu(w:Wr):Prop:=NI w.o/\(1<=w.q/\w.q<=10)/\(1<=w.a/\w.a<=9000)/\(1<=w.b/\w.b<=9000)
def NJ(w:Wr):Prop:=Cq w.o/\Cq w.q/\Cq w.a/\Cq w.b
theorem zu.S6{w:Wr}(h:zu w):NJ w:=⟨.of (by have:=h.1.1;lia) (by have:=h.1.2;lia),.of (by have:=h.2.1.1;lia) (by have:=h.2.1.2;lia),.of (by have:=h.2.2.1.1;lia) (by have:=h.2.2.1.2;lia),.of (by have:=h.2.2.2.1;lia) (by have:=h.2.2.2.2;lia)⟩
theorem ni{K:PySem.W.Frag}{H:Hp}{n:Nat}{v:V}{i:Int}(h:ae K H n v (.int i)):v=.int i:=by cases h;rfl
theorem Pe{K:PySem.W.Frag}{H:Hp}{n:Nat}{v:V}{x:Str}(h:ae K H n v (.str x)):v=.str x:=by cases h;rfl
theorem vZ{K:PySem.W.Frag}{H:Hp}{n:Nat}{v:V}{ds:List PyData}(h:ae K H (n+1) v (.tuple ds)):∃a xs,v=.ref a/\ao K H a xs/\xs.length=ds.length/\∀(i:Nat)(x:V)(d:PyData),xs[i]?=some x->ds[i]?=some d->ae K H n x d:=by
 cases h with
 |tup ha hl h=>exact⟨_,_,rfl,ha,hl,h⟩
def zw(K:PySem.W.Frag)(H:Hp)(v:V)(w:Wr):Prop:=ae K H 2 v (o3 w)
theorem zw.out{K:PySem.W.Frag}{H:Hp}{v:V}{w:Wr}(h:zw K H v w):∃a p,v=.ref a/\ao K H a [.int w.o,.int w.q,.ref p]/\ao K H p [.int w.a,.int w.b]:=by
 obtain⟨a,xs,rfl,h1,h2,h3⟩:=vZ h
 match xs,h2 with
 |[x,y,z],_ =>
  obtain rfl:=ni (h3 0 x _ rfl rfl);obtain rfl:=ni (h3 1 y _ rfl rfl);obtain⟨p,ys,rfl,g1,g2,g3⟩:=vZ (h3 2 z _ rfl rfl)
  match ys,g2 with
  |[x,y],_ =>
   obtain rfl:=ni (g3 0 x _ rfl rfl);obtain rfl:=ni (g3 1 y _ rfl rfl);exact⟨a,p,rfl,h1,g1⟩
theorem zw.mk{K:PySem.W.Frag}{H:Hp}{a p:Addr}{w:Wr}(h1:ao K H a [.int w.o,.int w.q,.ref p])(h2:ao K H p [.int w.a,.int w.b]):zw K H (.ref a) w:=by
 refine .tup h1 rfl λi x d e1 e2=>?_
 match i with
 |0=>cases e1;cases e2;exact .int _
 |1=>cases e1;cases e2;exact .int _
 |2 =>
  cases e1;cases e2;refine .tup h2 rfl λi x d e1 e2=>?_
  match i with
  |0=>cases e1;cases e2;exact .int _
  |1=>cases e1;cases e2;exact .int _
  |i+2=>simp at e1
 |i+3=>simp at e1
def nj(K:PySem.W.Frag)(C:Addr):Sp:=λvs H Q E=>∃(v:V)(w:Wr),vs=[v]/\zw K H v w/\NJ w/\(zu w->∀(r:Addr) H',aH H H'->zw K H' (.ref r) w->Q (.ref r) H')/\(¬zu w->E (.ref C) none H)
theorem nq:aQ ["wire","birth"] ["wire"] (aG gO):=⟨rfl,rfl,rfl,by decide +kernel,rfl,by decide +kernel,by decide +kernel⟩
theorem vc(F:aK K mg "made_wire" gO)(T:Txt K mg t)(cR:Def P w K mg base 2 "look_house" ["number"] (gm t.BadNews))(bS:Def P w K mg base 1 "look_bounds" ["number","least","most"] (fP t.BadNews)):Def P w K mg base 3 "made_wire" ["wire"] (nj K t.BadNews):=by
 refine F.def nq (λ_ _ _ _ _ _ us hl=>match us,hl with|[_],_=>rfl) (λvs H Q E h=>?_) (λf bU A outer s H vs Q E hr h=>?_)
 ·obtain⟨v,x,rfl,_⟩:=h;rfl
 obtain⟨v,x,rfl,hw,hs,q1,q2⟩:=h;refine⟨_,aD (bV (aV (cR.mono (by decide)) hr (nH bB) (aA (aN (aR K) (pv 0) aE (λ_ _=>rfl)) aC)))
  (aD (bV (aV (bS.mono (by decide)) hr (nH bB) (aA (aN (aR K) (pv 0) aE (λ_ _=>rfl)) (aA aE (aA (iy T.xv) aC)))))
  (aD (bL (Ll bB) rfl (vC K (aN (aR K) (pv 0) aE (λ_ _=>rfl))) (aJ (i:=1) nq.nd rfl (Or.inl rfl))
   (aF (bV (aV (bS.mono (by decide)) hr (nH bB) (aA (pv 1) (aA aE (aA (iy T.xt) aC)))))))
  (aF (aS (aw (aA (aN (aR K) (pv 0) aE (λ_ _=>rfl)) (aA (aN (aR K) (pv 0) aE (λ_ _=>rfl)) (aA (bE (cp K) (by rfl) T.lC boot_tuple (aA (aN (aR K) (pv 0) aE (λ_ _=>rfl)) aC)) aC)))))))),?_⟩
 obtain⟨a,p,rfl,h1,h2⟩:=hw.out;refine⟨_,rfl,a,_,_,_,rfl,rfl,h1,rfl,x.o,rfl,hs.1,λg1=>?_,λg1=>q2 λz=>g1 z.1⟩;refine⟨_,rfl,a,_,_,_,rfl,rfl,h1,rfl,x.q,1,10,rfl,hs.2.1,.of (by decide) (by decide),.of (by decide) (by decide),λg2=>?_,λg2=>q2 λz=>g2 z.2.1⟩;refine⟨_,rfl,a,_,_,_,rfl,rfl,h1,rfl,p,rfl,⟨_,h2⟩,Af (K:=K) (a:=p) (xs:=[.int x.a,.int x.b]) (λi σ H'=>∃v:Option V,σ=[some (.ref a),v]/\H'=H/\(1<=i->1<=x.a/\x.a<=9000)/\(2<=i->1<=x.b/\x.b<=9000)) ⟨none,rfl,rfl,λz=>by lia,λz=>by lia⟩ (λi σ H' _ ⟨_,_,e,_⟩=>by rw[e];exact h2) ?_ ?_⟩
 ·rintro i y σ H' hi ⟨v,rfl,rfl,k1,k2⟩
  match i,hi with
  |0,hi =>
   cases hi;refine⟨_,rfl,x.a,1,9000,rfl,hs.2.2.1,.of (by decide) (by decide),.of (by decide) (by decide),λg=>⟨_,rfl,rfl,λ_=>g,λz=>by lia⟩,λg=>q2 λz=>g z.2.2.1⟩
  |1,hi =>
   cases hi;refine⟨_,rfl,x.b,1,9000,rfl,hs.2.2.2,.of (by decide) (by decide),.of (by decide) (by decide),λg=>⟨_,rfl,rfl,λ_=>k1 (by lia),λ_=>g⟩,λg=>q2 λz=>g z.2.2.2⟩
  |i+2,hi=>simp at hi
 rintro σ H' ⟨v,rfl,rfl,k1,k2⟩;refine⟨_,rfl,a,_,_,_,rfl,rfl,h1,rfl,_,rfl,a,_,_,_,rfl,rfl,h1,rfl,_,rfl,a,_,_,_,rfl,rfl,h1,rfl,p,_,rfl,.inr ⟨h2,?_⟩⟩;refine⟨zz3,λr rC=>?_⟩;have s1:=(aH.refl H').new (o:=.tup [.int x.o,.int x.q,.ref p]) rC;exact q1 ⟨g1,g2,k1 (by show 1<=2;decide),k2 (by show 2<=2;decide)⟩ r _ s1 (.mk (.inl (.inl aB)) (s1.tup h2))
theorem Jx{K:PySem.W.Frag}{g:TG}{tt:TT}{te:TE}{D:Addr}{σ:L2.St}{H:Hp}{Q:VK}{b:Bool}{a:Addr}{xs:List V}(Pv:Nat->L2.St->Hp->Prop)(h0:Pv 0 σ H)(hl:∀i σ H,i<=xs.length->Pv i σ H->yd b K H a xs)(hs:∀(i:Nat)(x:V)(σ:L2.St)(H:Hp)(N:L2.St->Hp->Prop),(∀σ H,Pv (i+1) σ H->N σ H)->xs[i]?=some x->Pv i σ H->g x σ H λσ3 H3=>tt σ3 H3 λb H4 =>
   if b=true then te σ3 H4 λv H5=>∃ys,H5 D=some (.lst ys)/\ys.length<sizeLine/\N σ3 (upd H5 D (.lst (ys++[v])))else N σ3 H4)(hd:∀σ H,Pv xs.length σ H->Q (.ref D) H):pR (Jh b K a xs) g tt te D σ H Q:=by
 refine⟨λi m σ H=>m=xs.length-i/\i<=xs.length/\Pv i σ H,⟨xs.length,by simp,Nat.zero_le _,h0⟩,?_⟩;rintro i m σ' H' ⟨rfl,hi,p⟩;by_cases bM:i<xs.length
 ·refine .inr ⟨⟨hl i σ' H' hi p,bM⟩,λx H2 y=>?_⟩;obtain⟨e,y⟩:=y;subst e;exact hs i x σ' _ (λσ3 H3=>∃m',m'<xs.length-i/\m'=xs.length-(i+1)/\i+1<=xs.length/\Pv (i+1) σ3 H3) (λσ3 H3 z=>⟨xs.length-(i+1),by lia,rfl,bM,z⟩) y p
 have e:i=xs.length:=by lia
 subst e;exact .inl ⟨⟨hl _ σ' H' hi p,Nat.le_refl _⟩,hd σ' H' p⟩
def vd{α:Type}(lt:α->α->Bool)(x:α):List α->List α
 |[]=>[x]
 |y::r=>if lt y x=true then y::vd lt x r else x::y::r
def Pf{α:Type}(lt:α->α->Bool)(l:List α):List α:=l.foldl (λacc x=>vd lt x acc) []
theorem lD{α:Type}{lt:α->α->Bool}{x:α}:∀l:List α,(vd lt x l).Perm (x::l)
 |[]=>.refl _
 |y::r=>by
  unfold vd;split
  ·exact((lD r).cons y).trans (.swap x y r)
  exact .refl _
theorem ua{α:Type}{lt:α->α->Bool}{S:α->Prop}(jo:∀a b,S a->S b->lt a b=true->lt b a=false)(qd:∀a b c,S a->S b->S c->lt b a=false->lt c b=false->lt c a=false){x:α}(hx:S x):
  ∀l:List α,(∀y∈l,S y)->l.Pairwise (λa b=>lt b a=false)->(vd lt x l).Pairwise (λa b=>lt b a=false)
 |[],_,_=>List.pairwise_singleton _ _
 |y::r,hl,h=>by
  obtain⟨h1,h2⟩:=List.pairwise_cons.mp h;have hy:=hl y List.mem_cons_self;unfold vd;split
  ·rename_i c;refine List.pairwise_cons.mpr ⟨λz hz=>?_,ua jo qd hx r (λz hz=>hl z (List.mem_cons_of_mem _ hz)) h2⟩;rcases List.mem_cons.mp ((lD r).mem_iff.mp hz)with rfl|hz
   ·exact jo _ _ hy hx c
   exact h1 z hz
  rename_i c;have c:lt y x=false:=by simpa using c
  refine List.pairwise_cons.mpr ⟨λz hz=>?_,h⟩;rcases List.mem_cons.mp hz with rfl|hz
  ·exact c
  exact qd x y z hx hy (hl z (List.mem_cons_of_mem _ hz)) c (h1 z hz)
theorem BA{α:Type}{lt:α->α->Bool}{S:α->Prop}(jo:∀a b,S a->S b->lt a b=true->lt b a=false)(qd:∀a b c,S a->S b->S c->lt b a=false->lt c b=false->lt c a=false):
  ∀(l acc:List α),(∀y∈l,S y)->(∀y∈acc,S y)->acc.Pairwise (λa b=>lt b a=false)->(l.foldl (λacc x=>vd lt x acc) acc).Perm (acc++l)/\(l.foldl (λacc x=>vd lt x acc) acc).Pairwise (λa b=>lt b a=false)
 |[],acc,_,_,h=>⟨by rw[List.append_nil];exact .refl _,h⟩
 |x::l,acc,hl,ha,h=>by have hx:=hl x List.mem_cons_self;have:=BA jo qd l (vd lt x acc) (λy hy=>hl y (List.mem_cons_of_mem _ hy)) (λy hy=>(List.mem_cons.mp ((lD acc).mem_iff.mp hy)).elim (λe=>e▸hx) (ha y)) (ua jo qd hx acc ha h);refine⟨this.1.trans (((lD acc).append_right l).trans ?_),this.2⟩;exact List.perm_middle.symm
def sD(ds:List PyData):List PyData:=Pf bN ds
theorem gT{ds:List PyData}(O:sX ds):(sD ds).Perm ds/\(sD ds).Pairwise (λa b=>bN b a=false) :=
 BA (lt:=bN) (S:=(·∈ds)) (λa b ha hb=>O.jo a ha b hb) (λa b c ha hb hc=>O.qd a ha b hb c hc) ds [] (λ_ h=>h) (λ_ h=>absurd h List.not_mem_nil) .nil
theorem uc{ds es:List PyData}(O:sX ds)(S9:∀d∈ds,∀e∈ds,bN d e=false->bN e d=false->d=e)(hp:es.Perm ds)(hs:es.Pairwise (λa b=>bN b a=false)):es=sD ds :=
 List.Perm.eq_of_pairwise (le:=λa b=>bN b a=false) (λa b ha hb h1 h2=>S9 a (hp.mem_iff.mp ha) b ((gT O).1.mem_iff.mp hb) h2 h1) hs (gT O).2 (hp.trans (gT O).1.symm)
theorem ve{α:Type}{κ:Type}[LT κ][DecidableLT κ](TB:∀a b:κ,a<b->¬b<a)(qd:∀a b c:κ,¬b<a->¬c<b->¬c<a){key:α->κ}{f:α->PyData}(hk:∀x y,bN (f x) (f y)=decide (key x<key y))(ok:∀x y,uR (f x) (f y)=true){l:List α}(kd:Hl (l.map f)):sX (l.map f)where
 kd:=kd
 ok:=λd hd e he=>by obtain⟨x,_,rfl⟩:=List.mem_map.mp hd;obtain⟨y,_,rfl⟩:=List.mem_map.mp he;exact ok x y
 jo:=λd hd e he h=>by obtain⟨x,_,rfl⟩:=List.mem_map.mp hd;obtain⟨y,_,rfl⟩:=List.mem_map.mp he;rw[hk,decide_eq_true_iff]at h;rw[hk,decide_eq_false_iff_not];exact TB _ _ h
 qd:=λd hd e he g hg h1 h2=>by obtain⟨x,_,rfl⟩:=List.mem_map.mp hd;obtain⟨y,_,rfl⟩:=List.mem_map.mp he;obtain⟨z,_,rfl⟩:=List.mem_map.mp hg;rw[hk,decide_eq_false_iff_not]at h1 h2 ⊢;exact qd _ _ _ h1 h2
def CI(w:Wr):List Int:=[w.o,w.q,w.a,w.b]
theorem EI(v w:Wr):bN (o3 v) (o3 w)=decide (CI v<CI w):=by obtain⟨o,q,a,b⟩:=v;obtain⟨o',q',a',b'⟩:=w;simp only[o3,CI,bN,nQ,PyData.eqv,PyData.eqvAll,List.cons_lt_cons_iff];by_cases h1:o=o'<;>by_cases h2:q=q'<;>by_cases h3:a=a'<;>by_cases h4:b=b'<;>simp[h1,h2,h3,h4]
theorem Jy(v w:Wr):uR (o3 v) (o3 w)=true:=by simp[o3,uR,vJ]
theorem vU(ws:List Wr):sX (ws.map o3):=ve (κ:=List Int) (λa b h=>List.lt_asymm h) (λa b c h1 h2=>List.not_lt.mpr (List.le_trans (List.not_lt.mp h1) (List.not_lt.mp h2))) EI Jy (.rows λd hd=>by obtain⟨w,_,rfl⟩:=List.mem_map.mp hd;exact⟨_,_,rfl⟩)
theorem Pg(ws:List Wr):∀d∈ws.map o3,∀e∈ws.map o3,bN d e=false->bN e d=false->d=e:=by intro d hd e he h1 h2;obtain⟨v,_,rfl⟩:=List.mem_map.mp hd;obtain⟨w,_,rfl⟩:=List.mem_map.mp he;rw[EI,decide_eq_false_iff_not]at h1 h2;have k:CI v=CI w:=List.le_antisymm (List.not_lt.mp h2) (List.not_lt.mp h1);obtain⟨o,q,a,b⟩:=v;obtain⟨o',q',a',b'⟩:=w;simp only[CI,List.cons.injEq,and_true]at k;obtain⟨rfl,rfl,rfl,rfl⟩:=k;rfl
def tG(cs:List Nat):PyData:=.str (bA cs)
theorem EJ(m n:List Nat):bN (tG m) (tG n)=decide (m<n):=by simp[tG,bN,bA]
theorem Jz(ns:List (List Nat)):sX (ns.map tG):=ve (κ:=List Nat) (key:=id) (λa b h=>List.lt_asymm h) (λa b c h1 h2=>List.not_lt.mpr (List.le_trans (List.not_lt.mp h1) (List.not_lt.mp h2))) EJ (λx y=>by simp[tG,uR]) (.strs λd hd=>by obtain⟨w,_,rfl⟩:=List.mem_map.mp hd;exact⟨_,rfl⟩)
theorem Ph(ns:List (List Nat)):∀d∈ns.map tG,∀e∈ns.map tG,bN d e=false->bN e d=false->d=e:=by intro d hd e he h1 h2;obtain⟨v,_,rfl⟩:=List.mem_map.mp hd;obtain⟨w,_,rfl⟩:=List.mem_map.mp he;rw[EJ,decide_eq_false_iff_not]at h1 h2;rw[show v=w from List.le_antisymm (List.not_lt.mp h2) (List.not_lt.mp h1)]
def o4(house:Int)(ws:List Wr):Prop:=(∀w∈ws,zu w)/\ws.length<=5/\(ws.map (·.o)).Nodup/\house∉ws.map (·.o)
theorem yF{house:Int}{ws vs:List Wr}(h:vs.Perm ws):o4 house vs↔o4 house ws:=by unfold o4;rw[h.length_eq,(h.map (·.o)).nodup_iff,(h.map (·.o)).mem_iff];exact⟨λz=>⟨λw hw=>z.1 w (h.mem_iff.mpr hw),z.2⟩,λz=>⟨λw hw=>z.1 w (h.mem_iff.mp hw),z.2⟩⟩
theorem zw.same{K:PySem.W.Frag}{H H':Hp}{v:V}{w:Wr}(h:zw K H v w)(s:aH H H'):zw K H' v w:=ae.same h s
def kC(K:PySem.W.Frag)(H:Hp)(zs:List (V×Wr)):Prop:=∀z∈zs,zw K H z.1 z.2
theorem kC.same{K:PySem.W.Frag}{H H':Hp}{zs:List (V×Wr)}(h:kC K H zs)(s:aH H H'):kC K H' zs:=λz hz=>(h z hz).same s
theorem kC.tup{K:PySem.W.Frag}{H:Hp}{zs:List (V×Wr)}{a:Addr}(h:kC K H zs)(ha:ao K H a (zs.map (·.1))):ae K H 3 (.ref a) (.tuple (zs.map λz=>o3 z.2)):=by
 refine .tup ha (by simp) λi x d e1 e2=>?_;rw[List.getElem?_map]at e1 e2;cases e:zs[i]? with
 |none=>rw[e]at e1;cases e1
 |some z=>rw[e]at e1 e2;cases e1;cases e2;exact h z (List.mem_of_getElem? e)
theorem perm_back{α β:Type}(g:α->β){l m:List β}(h:l.Perm m):∀zs:List α,m=zs.map g->∃us:List α,us.Perm zs/\l=us.map g:=by
 induction h with
 |nil=>intro zs e;cases zs with
  |nil=>exact⟨[],.refl _,rfl⟩
  |cons z r=>cases e
 |cons x _ ih=>intro zs e;cases zs with
  |nil=>cases e
  |cons z r =>
   obtain⟨e1,e2⟩:=List.cons.inj e;obtain⟨us,h1,h2⟩:=ih r e2;exact⟨z::us,h1.cons z,by rw[List.map_cons,<-h2,e1]⟩
 |swap x y l=>intro zs e;cases zs with
  |nil=>cases e
  |cons z r=>cases r with
   |nil=>cases e
   |cons z2 r =>
    obtain⟨e1,e2⟩:=List.cons.inj e;obtain⟨e3,e4⟩:=List.cons.inj e2;exact⟨z2::z::r,.swap z z2 r,by rw[List.map_cons,List.map_cons,<-e4,e1,e3]⟩
 |trans _ _ TC TF =>
  intro zs e;obtain⟨us,h1,h2⟩:=TF zs e;obtain⟨vs,h3,h4⟩:=TC us h2;exact⟨vs,h3.trans h1,h4⟩
theorem EK{H:Hp}{D:Addr}{xs:List V}{o:HO}(h:H D=some (.lst xs)):Kept H (upd H D o):=λa ys e=>by
 have ne:a≠D:=by rintro rfl;rcases e with e|⟨u,e⟩<;>(rw[h]at e;cases e)
 rcases e with e|⟨u,e⟩
 ·exact .inl (by rw[aI ne];exact e)
 exact .inr ⟨u,by rw[aI ne];exact e⟩
theorem EL(w:Wr):ye (o3 w)=true:=by simp[o3,ye,c9]
theorem zw.kept{K:PySem.W.Frag}{H H':Hp}{v:V}{w:Wr}(h:zw K H v w)(k:Kept H H'):zw K H' v w:=ae.kept h k (EL w)
theorem kC.kept{K:PySem.W.Frag}{H H':Hp}{zs:List (V×Wr)}(h:kC K H zs)(k:Kept H H'):kC K H' zs:=λz hz=>(h z hz).kept k
theorem kD(ns:List Int):ns.map V.int=(ns.map Sum.inl).map kV:=by rw[List.map_map];rfl
theorem iT{ns:List Int}:(ns.map (Sum.inl:Int->Key)).Nodup↔ns.Nodup:=by unfold List.Nodup;rw[List.pairwise_map];exact⟨λh=>h.imp λe z=>e (by rw[z]),λh=>h.imp λe z=>e (Sum.inl.inj z)⟩
theorem dJ(n:Int)(ns:List Int):Ck (.int n) (ns.map V.int)=decide (n∈ns):=by
 unfold Ck;rw[Bool.eq_iff_iff,List.any_map,List.any_eq_true,decide_eq_true_iff];constructor
 ·rintro⟨x,hx,h⟩;have:x=n:=by simpa[zD]using h
  exact this▸hx
 intro h;exact⟨n,h,by simp[zD]⟩
theorem bZ(ns:List Int):(ns.map V.int).all jd=true:=by rw[List.all_map,List.all_eq_true];intro _ _;rfl
def nu(K:PySem.W.Frag)(C:Addr):Sp:=λvs H Q E=>∃(b:Bool)(l:Addr)(zs:List (V×Wr))(house:Int),vs=[.int house,.ref l]/\yd b K H l (zs.map (·.1))/\kC K H zs/\zs.length<=50/\(∀z∈zs,NJ z.2) /\
 (o4 house (zs.map (·.2))->∀(r:Addr)(H':Hp),aH H H'->ae K H' 3 (.ref r) (.tuple (sD ((zs.map (·.2)).map o3)))->Q (.ref r) H')/\(¬o4 house (zs.map (·.2))->∀H',aH H H'->E (.ref C) none H')
theorem i7:aQ ["house","near","wires","others"] ["house","near"] (aG cu):=⟨rfl,rfl,rfl,by decide +kernel,rfl,by decide +kernel,by decide +kernel⟩
set_option maxHeartbeats 1000000 in
theorem vf(F:aK K mg "made_near" cu)(T:Txt K mg t)(kE:Def P w K mg base 3 "made_wire" ["wire"] (nj K t.BadNews))(cA:Def P w K mg base 1 "look_unlike" ["things","most"] (fQ K t.BadNews)):Def P w K mg base 4 "made_near" ["house","near"] (nu K t.BadNews):=by
 refine F.def i7 (λ_ _ _ _ _ _ us hl=>match us,hl with|[_,_],_=>rfl) (λvs H Q E h=>?_) (λf bU A outer s H vs Q E hr h=>?_)
 ·obtain⟨b,l,zs,house,rfl,_⟩:=h;rfl
 obtain⟨b,l,zs,house,rfl,hl,hw,hn,hs,q1,q2⟩:=h;refine⟨_,aD (aT (i:=2) i7.nd rfl (Or.inl rfl) (aX (gL K (c6 hr)) (by rfl) T.cY boot_sorted (aA (Jb bB rfl (Nc:=["wire"]) (ix:=[none]) (cF (aG cu) ["house","near","wires","others"] rfl rfl (by decide +kernel)) (A0 K (pv 1)) (λC fp s H=>⟨(aJ (i:=0) (show(["wire"]:List Str).Nodup by decide +kernel) rfl (Or.inl rfl)),cO,(aV (kE.mono (by decide)) hr L3 (aA (pv 0) aC))⟩)) aC)))
  (aD (jx (i:=3) i7.nd rfl (Or.inl rfl) rfl (Nc:=["wire"]) (ix:=[none]) (cF (aG cu) ["house","near","wires","others"] rfl rfl (by decide +kernel)) (bF K (pv 2)) (λC fp s H=>⟨(aJ (i:=0) (show(["wire"]:List Str).Nodup by decide +kernel) rfl (Or.inl rfl)),cO,(aN (aR K) (pv 0) aE (λ_ _=>rfl))⟩))
  (aD (bV (aV (cA.mono (by decide)) hr (nH bB) (aA (pv 3) (aA (iy T.zp) aC))))
  (aD (ay (aO uE (pv 0) (pv 3) (by rfl))
   (aF (iK bB rfl rfl T.iQ T.iR PySem.F.excBase_ValueError (aA cE aC)))
   (aZ))
  (aF (aS (bE (cp K) (by rfl) T.lC boot_tuple (aA (pv 2) aC))))))),?_⟩
 have hsz:(2000:Nat)<=sizeLine:=by decide
 refine⟨_,rfl,b,l,_,rfl,hl,λD hD=>?_⟩;refine Jx (b:=b) (K:=K) (a:=l) (xs:=zs.map (·.1)) (λi σ H'=>∃(v:Option V)(us:List (V×Wr)),σ=[v]/\aH H H'/\H' D=some (.lst (us.map (·.1)))/\kC K H' us/\us.map (·.2)=(zs.take i).map (·.2)/\∀z∈zs.take i,zu z.2)
  ⟨none,[],rfl,(aH.refl _).new hD,aB,λz hz=>absurd hz List.not_mem_nil,rfl,λz hz=>absurd hz List.not_mem_nil⟩ (λi σ H' _ ⟨_,_,_,s1,_⟩=>hl.same s1) ?_ ?_
 ·rintro i x σ H' N hN hi ⟨v,us,rfl,s1,e1,hu,D6,hg⟩;rw[List.getElem?_map]at hi;cases ez:zs[i]? with
  |none=>rw[ez]at hi;cases hi
  |some z =>
   rw[ez]at hi;obtain rfl:z.1=x:=Option.some.inj hi;have hm:z∈zs:=List.mem_of_getElem? ez;have MZ:i<zs.length:=(List.getElem?_eq_some_iff.mp ez).1;refine c8 ?_;refine⟨_,rfl,z.1,z.2,rfl,(hw z hm).same s1,hs z hm,λg r H2 s2 wa=>?_,λg=>?_⟩
   ·have NK:us.length=i:=by have:=congrArg List.length D6;rw[List.length_map,List.length_map,List.length_take]at this;lia
    refine⟨_,s2 _ _ e1,by rw[List.length_map];lia,hN _ _ ⟨_,us++[(.ref r,z.2)],rfl,(s1.trans s2).put hD,by rw[aB,List.map_append];rfl,λy hy=>?_,?_,λy hy=>?_⟩⟩
    ·have kp:=EK (o:=.lst (us.map (·.1)++[V.ref r])) (s2 _ _ e1);rcases List.mem_append.mp hy with h|h
     ·exact((hu y h).same s2).kept kp
     rw[List.mem_singleton.mp h];exact wa.kept kp
    ·rw[take_succ ez,List.map_append,List.map_append,D6];rfl
    rw[take_succ ez]at hy;rcases List.mem_append.mp hy with h|h
    ·exact hg y h
    rw[List.mem_singleton.mp h];exact g
   exact q2 (λz'=>g (z'.1 _ (List.mem_map.mpr ⟨z,hm,rfl⟩))) _ s1
 rintro σ H' ⟨v,us,rfl,s1,e1,hu,D6,hg⟩;rw[List.length_map]at D6 hg;rw[List.take_length]at D6 hg;have Qq:us.length=zs.length:=by
  have:=congrArg List.length D6
  rwa [List.length_map,List.length_map]at this
 refine⟨true,D,us.map λz=>(z.1,o3 z.2),rfl,by rw[List.map_map];exact ag.of e1,by rw[List.length_map];lia,λy hy=>?_,?_,λys r hp vg rC=>?_⟩
 ·obtain⟨z,hz,rfl⟩:=List.mem_map.mp hy;exact ae.up (hu z hz) (by decide)
 ·have:=vU (us.map (·.2));rw[List.map_map]at this ⊢;exact this
 obtain⟨vs,EM,rfl⟩:=perm_back (λz:V×Wr=>(z.1,o3 z.2)) hp us rfl;have Qr:vs.length=zs.length:=EM.length_eq.trans Qq;have Pj:(vs.map (·.2)).Perm (zs.map (·.2)):=by rw[<-D6];exact EM.map _
 have es:vs.map (λz=>o3 z.2)=sD ((zs.map (·.2)).map o3):=by
  refine uc (vU _) (Pg _) ?_ ?_
  ·have:=Pj.map o3;rw[List.map_map]at this;exact this
  rw[List.pairwise_map]at vg ⊢;exact vg
 have s2:=s1.new (o:=.lst ((vs.map λz=>(z.1,o3 z.2)).map (·.1))) rC;have e2:(upd H' r (.lst ((vs.map λz=>(z.1,o3 z.2)).map (·.1)))) r=some (.lst (vs.map (·.1))):=by rw[aB,List.map_map];rfl
 have CJ:kC K (upd H' r (.lst ((vs.map λz=>(z.1,o3 z.2)).map (·.1)))) vs:=λz hz=>(hu z (EM.mem_iff.mp hz)).same ((aH.refl H').new rC);generalize upd H' r (.lst ((vs.map λz=>(z.1,o3 z.2)).map (·.1)))=H1 at s2 e2 CJ ⊢;refine⟨_,rfl,r,rfl,⟨_,ag.of e2⟩,λD2 Qs=>?_⟩;refine gJ (K:=K) (a:=r) (xs:=vs.map (·.1)) (λi σ H2=>∃v:Option V,σ=[v]/\aH H1 H2/\H2 D2=some (.lst (((vs.take i).map (·.2.o)).map V.int))) ⟨none,rfl,(aH.refl _).new Qs,aB⟩ (λi σ H2 _ ⟨_,_,s3,_⟩=>ag.of (s3 _ _ e2)) ?_ ?_
 ·rintro i x σ H2 N hN hi ⟨v,rfl,s3,e3⟩;rw[List.getElem?_map]at hi;cases ez:vs[i]? with
  |none=>rw[ez]at hi;cases hi
  |some z =>
   rw[ez]at hi;obtain rfl:z.1=x:=Option.some.inj hi;have hm:z∈vs:=List.mem_of_getElem? ez;have MZ:i<vs.length:=(List.getElem?_eq_some_iff.mp ez).1;obtain⟨a,p,ea,h1,h2⟩:=((CJ z hm).same s3).out;refine c8 ?_;refine⟨_,rfl,a,_,_,_,ea,rfl,h1,rfl,_,e3,by rw[List.length_map,List.length_map,List.length_take];lia,hN _ _ ⟨_,rfl,s3.put Qs,?_⟩⟩;rw[aB,take_succ ez,List.map_append,List.map_append];rfl
 rintro σ H2 ⟨v,rfl,s3,e3⟩;rw[List.length_map,List.take_length]at e3;have eo:vs.map (·.2.o)=(vs.map (·.2)).map (·.o):=by rw[List.map_map];rfl
 rw[eo]at e3;have Pk:=yF (house:=house) Pj;have all:∀x∈vs.map (·.2),zu x:=λx hx=>by have:=Pj.mem_iff.mp hx;obtain⟨z,hz,rfl⟩:=List.mem_map.mp this;exact hg z hz
 have hlen:((vs.map (·.2)).map (·.o)).length=zs.length:=by rw[List.length_map,List.length_map];exact Qr
 refine⟨_,rfl,true,D2,((vs.map (·.2)).map (·.o)).map Sum.inl,5,rfl,by rw[<-kD];exact ag.of e3,by rw[List.length_map];lia,by decide,by decide,?_,?_⟩
 ·rw[List.length_map,iT];rintro⟨k1,k2⟩ H3 s4;refine⟨_,rfl,_,rfl,D2,_,rfl,.inl (ag.of (s4 _ _ e3)),rfl,bZ _,_,rfl,?_⟩;show if(Ck (.int house) (((vs.map (·.2)).map (·.o)).map V.int))=true then _ else _;rw[dJ];by_cases hh:house∈(vs.map (·.2)).map (·.o)
  ·refine bw hh ?_;exact⟨zz1,q2 (λz=>(Pk.mpr z).2.2.2 hh) _ (s2.trans (s3.trans s4))⟩
  refine bu hh ?_;refine⟨_,rfl,r,_,rfl,.inl ⟨ag.of (s4 _ _ (s3 _ _ e2)),λp Bo=>?_⟩⟩;have s5:=(aH.refl H3).new (o:=.tup (vs.map (·.1))) Bo;refine q1 (Pk.mp ⟨all,by rw[List.length_map];rw[List.length_map,List.length_map]at k1;lia,k2,hh⟩) p _ ((s2.trans (s3.trans s4)).trans s5) ?_;rw[<-es];exact kC.tup (CJ.same ((s3.trans s4).trans s5)) (.inl (.inl aB))
 rw[List.length_map,iT];intro hb H3 s4;exact q2 (λz=>hb (by have:=Pk.mpr z;exact⟨by have:=this.2.1;rw[List.length_map]at this ⊢;rw[List.length_map];lia,this.2.2.1⟩)) _ (s2.trans (s3.trans s4))
structure Nw where
 h:Int
 n:Int
 near:List Wr
 names:List (List Nat)
def J0(N:Nw):Prop:=NI N.h/\(0<=N.n/\N.n<=900000)/\o4 N.h N.near/\EH N.names
def Pl(N:Nw):PyData:=.tuple [.int N.h,.int N.n,.tuple (sD (N.near.map o3)),.tuple (sD (N.names.map tG))]
def nv(K:PySem.W.Frag)(C:Addr):Sp:=λvs H Q E=>∃(b c:Bool)(l m:Addr)(zs:List (V×Wr))(N:Nw),vs=[.int N.h,.int N.n,.ref l,.ref m]/\yd b K H l (zs.map (·.1))/\kC K H zs/\zs.map (·.2)=N.near/\yd c K H m (N.names.map x6) /\
 Cq N.h/\Cq N.n/\zs.length<=50/\(∀z∈zs,NJ z.2)/\N.names.length<=60/\(∀n∈N.names,Jw n/\(qH n\/(reprText (bA n)).length<=1000)) /\
 (J0 N->∀(r:Addr)(H':Hp),aH H H'->ae K H' 4 (.ref r) (Pl N)->Q (.ref r) H')/\(¬J0 N->∀H',aH H H'->E (.ref C) none H')
theorem yG{n:List Nat}(h:∀c∈n,c<128):PyData.strOk (bA n)=true:=by unfold PyData.strOk bA;simp only[List.all_toArray,List.all_eq_true,decide_eq_true_eq];intro c hc;have:=h c hc;lia
theorem vh:aQ ["house","number","near","names"] ["house","number","near","names"] (aG gP):=⟨rfl,rfl,rfl,by decide +kernel,rfl,by decide +kernel,by decide +kernel⟩
set_option maxHeartbeats 1000000 in
theorem vi(F:aK K mg "made_news" gP)(T:Txt K mg t)(cR:Def P w K mg base 2 "look_house" ["number"] (gm t.BadNews))(bS:Def P w K mg base 1 "look_bounds" ["number","least","most"] (fP t.BadNews))(i8:Def P w K mg base 2 "look_names" ["names"] (lN K t.BadNews))(kF:Def P w K mg base 4 "made_near" ["house","near"] (nu K t.BadNews)):Def P w K mg base 5 "made_news" ["house","number","near","names"] (nv K t.BadNews):=by
 refine F.def vh (λ_ _ _ _ _ _ us hl=>match us,hl with|[_,_,_,_],_=>rfl) (λvs H Q E h=>?_) (λf bU A outer s H vs Q E hr h=>?_)
 ·obtain⟨b,c,l,m,zs,N,rfl,_⟩:=h;rfl
 obtain⟨b,c,l,m,zs,N,rfl,hl,hw,Qt,hm,sh,sn,hz,hs,Ma,Pm,q1,q2⟩:=h;refine⟨_,aD (bV (aV (cR.mono (by decide)) hr (nH bB) (aA (pv 0) aC)))
  (aD (bV (aV (bS.mono (by decide)) hr (nH bB) (aA (pv 1) (aA aE (aA (iy T.vX) aC)))))
  (aD (bV (aV (i8.mono (by decide)) hr (nH bB) (aA (pv 3) aC)))
  (aF (aS (aw (aA (pv 0) (aA (pv 1) (aA (aV (kF.mono (by decide)) hr (nH bB) (aA (pv 0) (aA (pv 2) aC))) (aA (bE (cp K) (by rfl) T.lC boot_tuple (aA (aX (gL K (c6 hr)) (by rfl) T.cY boot_sorted (aA (pv 3) aC)) aC)) aC))))))))),?_⟩
 have hsz:(2000:Nat)<=sizeLine:=by decide
 refine⟨_,rfl,N.h,rfl,sh,λg1=>?_,λg1=>q2 (λz=>g1 z.1) H (aH.refl _)⟩;refine⟨_,rfl,N.n,0,900000,rfl,sn,.of (by decide) (by decide),.of (by decide) (by decide),λg2=>?_,λg2=>q2 (λz=>g2 z.2.1) H (aH.refl _)⟩;refine⟨_,rfl,c,m,N.names,rfl,hm,by lia,Pm,λg3 H1 s1=>?_,λg3 H1 s1=>q2 (λz=>g3 z.2.2.2) H1 s1⟩;refine⟨_,rfl,_,rfl,_,rfl,_,rfl,b,l,zs,N.h,rfl,hl.same s1,hw.same s1,hz,hs,λg4 r H2 s2 d2=>?_,λg4 H2 s2=>q2 (λz=>g4 (by rw[Qt];exact z.2.2.1)) H2 (s1.trans s2)⟩;rw[Qt]at g4 d2;have EN:=(hm.same s1).same s2;refine⟨_,rfl,c,m,N.names.map λn=>(x6 n,tG n),rfl,by rw[List.map_map];exact EN,by rw[List.length_map];lia,λy hy=>?_,by have:=Jz N.names;rw[List.map_map];exact this,λys p hp vg Bo=>?_⟩
 ·obtain⟨n,hn,rfl⟩:=List.mem_map.mp hy;exact .str _ (yG (Pm n hn).1.2)
 obtain⟨us,NK,rfl⟩:=perm_back (λn=>(x6 n,tG n)) hp N.names rfl;have es:us.map tG=sD (N.names.map tG):=by refine uc (Jz _) (Ph _) (NK.map _) ?_;rw[List.pairwise_map]at vg ⊢;exact vg
 have Qq:us.length<=60:=by rw[NK.length_eq];exact Ma
 have s3:=(aH.refl H2).new (o:=.lst ((us.map λn=>(x6 n,tG n)).map (·.1))) Bo;have e3:(upd H2 p (.lst ((us.map λn=>(x6 n,tG n)).map (·.1)))) p=some (.lst (us.map x6)):=by rw[aB,List.map_map];rfl
 generalize upd H2 p (.lst ((us.map λn=>(x6 n,tG n)).map (·.1)))=H3 at s3 e3 ⊢;refine⟨p,_,rfl,.inl ⟨ag.of e3,λx hx=>?_⟩⟩;have s4:=(aH.refl H3).new (o:=.tup (us.map x6)) hx;have d4:ae K (upd H3 x (.tup (us.map x6))) 3 (.ref x) (.tuple (sD (N.names.map tG))):=by
  rw[<-es];refine .tup (.inl (.inl aB)) (by simp) λi y d e1 e2=>?_;rw[List.getElem?_map]at e1 e2;cases e:us[i]? with
  |none=>rw[e]at e1;cases e1
  |some n =>
   rw[e]at e1 e2;cases e1;cases e2;exact .str _ (yG (Pm n (NK.mem_iff.mp (List.mem_of_getElem? e))).1.2)
 have d5:=(d2.same s3).same s4;generalize upd H3 x (.tup (us.map x6))=H4 at s4 d4 d5 ⊢;refine⟨zz4,λy hy=>?_⟩;have s5:=(aH.refl H4).new (o:=.tup [.int N.h,.int N.n,.ref r,.ref x]) hy;refine q1 ⟨g1,g2,g4,g3⟩ y _ ((((s1.trans s2).trans s3).trans s4).trans s5) ?_;refine .tup (.inl (.inl aB)) rfl λi v d e1 e2=>?_
 match i with
 |0=>cases e1;cases e2;exact .int _
 |1=>cases e1;cases e2;exact .int _
 |2=>cases e1;cases e2;exact d5.same s5
 |3=>cases e1;cases e2;exact d4.same s5
 |i+4=>simp at e1
def Mb(N:Nw):PyData:=.tuple [.int N.h,.int N.n,.tuple (N.near.map o3),.tuple (N.names.map tG)]
theorem BB{α:Type}(f:α->PyData){l:List α}(O:sX (l.map f)):∃l':List α,l'.Perm l/\sD (l.map f)=l'.map f:=perm_back f (gT O).1 l rfl
theorem GV(N:Nw):∃ws ns,ws.Perm N.near/\ns.Perm N.names/\Pl N=Mb ⟨N.h,N.n,ws,ns⟩:=by obtain⟨ws,h1,e1⟩:=BB o3 (vU N.near);obtain⟨ns,h2,e2⟩:=BB tG (Jz N.names);exact⟨ws,ns,h1,h2,by unfold Pl Mb;rw[e1,e2]⟩
def EO(K:PySem.W.Frag)(H:Hp)(v:V)(N:Nw):Prop:=ae K H 4 v (Mb N)
theorem vj:∀{ds:List PyData},(∀d∈ds,ye d=true)->c9 ds=true
 |[],_=>by simp[c9]
 |d::ds,h=>by rw[c9,h d List.mem_cons_self,vj λx hx=>h x (List.mem_cons_of_mem _ hx)];rfl
theorem J1(N:Nw):ye (Mb N)=true:=by
 have h1:c9 (N.near.map o3)=true:=vj λd hd=>by obtain⟨w,_,rfl⟩:=List.mem_map.mp hd;exact EL w
 have h2:c9 (N.names.map tG)=true:=vj λd hd=>by obtain⟨w,_,rfl⟩:=List.mem_map.mp hd;simp[tG,ye]
 simp[Mb,ye,c9,h1,h2]
theorem EO.kept{K:PySem.W.Frag}{H H':Hp}{v:V}{N:Nw}(h:EO K H v N)(k:Kept H H'):EO K H' v N:=ae.kept h k (J1 N)
theorem EO.same{K:PySem.W.Frag}{H H':Hp}{v:V}{N:Nw}(h:EO K H v N)(s:aH H H'):EO K H' v N:=ae.same h s
theorem EO.out{K:PySem.W.Frag}{H:Hp}{v:V}{N:Nw}(h:EO K H v N):∃a p q zs,v=.ref a/\ao K H a [.int N.h,.int N.n,.ref p,.ref q]/\ao K H p (zs.map (·.1))/\kC K H zs/\zs.map (·.2)=N.near/\ao K H q (N.names.map x6):=by
 obtain⟨a,xs,rfl,h1,h2,h3⟩:=vZ h
 match xs,h2 with
 |[x,y,z,w],_ =>
  obtain rfl:=ni (h3 0 x _ rfl rfl);obtain rfl:=ni (h3 1 y _ rfl rfl);obtain⟨p,ys,rfl,g1,g2,g3⟩:=vZ (h3 2 z _ rfl rfl);obtain⟨q,ks,rfl,k1,k2,k3⟩:=vZ (h3 3 w _ rfl rfl);rw[List.length_map]at g2 k2;have hk:ks=N.names.map x6:=by refine List.ext_getElem (by rw[List.length_map];exact k2) λi i1 i2=>?_;rw[List.length_map]at i2;have:=Pe (k3 i ks[i] (tG N.names[i]) (by simp) (by simp[i2]));rw[this];simp[x6]
  subst hk;refine⟨a,p,q,ys.zip N.near,rfl,h1,?_,λz hz=>?_,?_,k1⟩
  ·rw[List.map_fst_zip (Nat.le_of_eq g2)];exact g1
  ·obtain⟨i,hi,rfl⟩:=List.getElem_of_mem hz;rw[List.length_zip]at hi;rw[List.getElem_zip];have j1:=Nat.lt_of_lt_of_le hi (Nat.min_le_right _ _);exact g3 i _ _ (by simp) (by simp[j1])
  rw[List.map_snd_zip (Nat.le_of_eq g2.symm)]
abbrev Ms:=List (V×Nw)
def wX(m:V×Nw):Key×V:=(Sum.inl m.2.h,m.1)
def hs(ms:Ms):List Int:=ms.map (·.2.h)
def rX(ms:Ms)(v:V)(N:Nw):Ms:=if N.h∈hs ms then ms.map (λm=>if m.2.h=N.h then(v,N)else m)else ms++[(v,N)]
def yH(ms:Ms)(N:Nw):Prop:=∀m∈ms,m.2.h=N.h->m.2.n<N.n
theorem ER(ms:Ms)(h:Int):eW (ms.map wX) (Sum.inl h)=(ms.find? λm=>decide (m.2.h=h)).map (·.1):=by
 unfold eW;rw[List.find?_map,Option.map_map];have e:((λkv:Key×V=>decide (kv.1=Sum.inl h))∘wX)=λm:V×Nw=>decide (m.2.h=h):=by
  funext m
  simp[wX]
 rw[e];rfl
theorem Mc(ms:Ms)(v:V)(N:Nw):putK (ms.map wX) (Sum.inl N.h) v=(rX ms v N).map wX:=by
 unfold putK rX;have e:((ms.map wX).any λkv=>decide (kv.1=Sum.inl N.h))=decide (N.h∈hs ms):=by
  rw[List.any_map,Bool.eq_iff_iff,List.any_eq_true,decide_eq_true_iff];unfold hs;rw[List.mem_map];constructor
  ·rintro⟨m,hm,h⟩;exact⟨m,hm,by simpa[wX]using h⟩
  rintro⟨m,hm,h⟩;exact⟨m,hm,by simp[wX,h]⟩
 rw[e];by_cases h:N.h∈hs ms
 ·rw[if_pos (by simpa using h),if_pos h,List.map_map,List.map_map];refine List.map_congr_left λm _=>?_;show(if(wX m).1=Sum.inl N.h then((wX m).1,v)else wX m)=wX (if m.2.h=N.h then(v,N)else m);by_cases c:m.2.h=N.h
  ·rw[if_pos c,if_pos (by simp[wX,c])];simp[wX,c]
  rw[if_neg c,if_neg (by simp[wX,c])]
 rw[if_neg (by simpa using h),if_neg h,List.map_append];rfl
theorem GW(ms:Ms)(v:V)(N:Nw):hs (rX ms v N)=if N.h∈hs ms then hs ms else hs ms++[N.h]:=by
 unfold rX;by_cases h:N.h∈hs ms
 ·rw[if_pos h,if_pos h];unfold hs;rw[List.map_map];refine List.map_congr_left λm _=>?_;show(if m.2.h=N.h then(v,N)else m).2.h=m.2.h;split
  ·rename_i c;exact c.symm
  rfl
 rw[if_neg h,if_neg h];unfold hs;rw[List.map_append];rfl
theorem zx{ms:Ms}(hn:(hs ms).Nodup)(v:V)(N:Nw):(hs (rX ms v N)).Nodup:=by
 rw[GW];split
 ·exact hn
 rename_i h;refine List.nodup_append.mpr ⟨hn,by simp,λa ha b hb=>?_⟩;rw[List.mem_singleton.mp hb];rintro rfl;exact h ha
theorem ES{ms:Ms}{v:V}{N:Nw}{m:V×Nw}:m∈rX ms v N->m=(v,N)\/m∈ms:=by
 unfold rX;split
 ·intro h;obtain⟨x,hx,e⟩:=List.mem_map.mp h;split at e
  ·exact .inl e.symm
  exact .inr (e▸hx)
 intro h;rcases List.mem_append.mp h with h|h
 ·exact .inr h
 exact .inl (List.mem_singleton.mp h)
structure jq(K:PySem.W.Frag)(C:Addr)(H:Hp)(x d:Addr)(ms:Ms):Prop where
 o:∃dx,H x=some (.ins C dx [("latest",.ref d)])
 d:H d=some (.dK (ms.map wX))
 nd:(hs ms).Nodup
 all:∀m∈ms,EO K H m.1 m.2
theorem jq.ne{K:PySem.W.Frag}{C:Addr}{H:Hp}{x d:Addr}{ms:Ms}(h:jq K C H x d ms):x≠d:=by obtain⟨dx,h1⟩:=h.o;exact lJ h1 h.d (by intro z;cases z)
theorem jq.same{K:PySem.W.Frag}{C:Addr}{H H':Hp}{x d:Addr}{ms:Ms}(h:jq K C H x d ms)(s:aH H H'):jq K C H' x d ms :=
 ⟨let⟨dx,h1⟩:=h.o;⟨dx,s _ _ h1⟩,s _ _ h.d,h.nd,λm hm=>(h.all m hm).same s⟩
def pZ(H:Hp)(a:Addr):Prop:=∀xs,¬Rd H a (.tup xs)
theorem mH.kept{S:List Addr}{H H':Hp}(m:mH S H H')(n:∀a∈S,pZ H a):Kept H H':=λa xs e=>by
 have hn:a∉S:=λz=>n a z xs e;rcases e with e|⟨u,e⟩
 ·exact .inl (m _ _ hn e)
 exact .inr ⟨u,m _ _ hn e⟩
theorem pZ.dk{H:Hp}{a:Addr}{xs:List (Key×V)}(h:H a=some (.dK xs)):pZ H a:=λys e=>by rcases e with e|⟨u,e⟩<;>(rw[h]at e;cases e)
def BC(K:PySem.W.Frag)(C:Addr):Sp:=λvs H Q _=>∃x dx,vs=[.ref x]/\H x=some (.ins C dx [])/\∀(l:Addr)(H':Hp),H l=none->mH [x] H H'->jq K C H' x l []->Q .ba H'
theorem GX:aQ ["self"] ["self"] (aG ox):=⟨rfl,rfl,rfl,by decide +kernel,rfl,by decide +kernel,by decide +kernel⟩
theorem GY{fd:FuncData}(T:Txt K mg t)(F:sU K "__init__" "Map.__init__" ox t.init fd):dQ P w K mg base (qT P w) 1 t.init fd ["self"] (BC K t.Map)/\Binds K fd ["self"] []:=by
 refine⟨F.F7 GX (λvs H Q E h=>?_) (λf bU A outer s H vs Q E hr h=>?_),F.binds λ_ _ _ _ _ _ us hl=>match us,hl with|[_],_=>rfl⟩
 ·obtain⟨x,dx,rfl,_⟩:=h;rfl
 obtain⟨x,dx,rfl,hx,q⟩:=h;refine⟨_,aF (Fx K (pv 0) xJ (by rfl)),?_⟩;refine λl hl=>?_;have n:x≠l:=aY hx hl;refine⟨_,rfl,x,t.Map,dx,_,rfl,by rw[aI n];exact hx,T.sm,T.dc,by show 0<1000;decide,?_⟩;exact q l _ hl ((mH.refl.upd (.inr hl)).upd (.inl List.mem_cons_self)) ⟨⟨dx,aB⟩,by rw[aI (Ne.symm n)];exact aB,.nil,λm hm=>absurd hm List.not_mem_nil⟩
def BD(K:PySem.W.Frag)(C:Addr):Sp:=λvs H Q _=>∃(x d:Addr)(ms:Ms)(v:V)(N:Nw),vs=[.ref x,v]/\jq K C H x d ms/\EO K H v N/\ms.length<=100/\(yH ms N->∀H',mH [d] H H'->jq K C H' x d (rX ms v N)->Q (.bl true) H')/\(¬yH ms N->Q (.bl false) H)
theorem vk:aQ ["self","news","house","newer"] ["self","news"] (aG oy):=⟨rfl,rfl,rfl,by decide +kernel,rfl,by decide +kernel,by decide +kernel⟩
theorem GZ{fd:FuncData}(T:Txt K mg t)(F:sU K "hear" "Map.hear" oy t.rP fd):dQ P w K mg base (qT P w) 1 t.rP fd ["self","news"] (BD K t.Map)/\Binds K fd ["self","news"] []:=by
 refine⟨F.F7 vk (λvs H Q E h=>?_) (λf bU A outer s H vs Q E hr h=>?_),F.binds λ_ _ _ _ _ _ us hl=>match us,hl with|[_,_],_=>rfl⟩
 ·obtain⟨x,d,ms,v,N,rfl,_⟩:=h;rfl
 obtain⟨x,d,ms,v,N,rfl,hM,hN,hl,q1,q2⟩:=h;refine⟨_,aD (aT (i:=2) vk.nd rfl (Or.inl rfl) (aN (aR K) (pv 1) aE (λ_ _=>rfl)))
  (aD (aT (i:=3) vk.nd rfl (Or.inl rfl) (Kw (IS (og (br hr) (pv 2) (nM K (pv 0) (by rfl))) (by rfl)) (lq (bK pM (aN (aR K) (pv 1) aE (λ_ _=>rfl)) (aN (aR K) (cc (br hr) (nM K (pv 0) (by rfl)) (pv 2) (λ_ _=>rfl)) aE (λ_ _=>rfl)) (aU _)))))
  (aD (ay (fL (pv 3))
   (aF (kq (br hr) (nM K (pv 0) (by rfl)) (pv 2) (pv 1) (by rfl)))
   (aZ))
  (aF (aS (pv 3))))),?_⟩
 have hsz:(2000:Nat)<=sizeLine:=by decide
 obtain⟨dx,hx⟩:=hM.o;obtain⟨a,p,r,zs,rfl,h1,_⟩:=hN.out;have put:yH ms N->∃H',mH [d] H H'/\H'=upd H d (.dK (putK (ms.map wX) (Sum.inl N.h) (.ref a)))/\jq K t.Map H' x d (rX ms (.ref a) N):=λ_=>by
  have m:mH [d] H (upd H d (.dK (putK (ms.map wX) (Sum.inl N.h) (.ref a)))):=mH.refl.upd (.inl List.mem_cons_self);have kp:=m.kept λb hb=>by rw[List.mem_singleton.mp hb];exact pZ.dk hM.d
  refine⟨_,m,rfl,⟨dx,by rw[aI hM.ne];exact hx⟩,by rw[aB,Mc],zx hM.nd _ _,λy hy=>?_⟩;rcases ES hy with rfl|h
  ·exact hN.kept kp
  exact(hM.all y h).kept kp
 refine⟨_,rfl,a,_,_,_,rfl,rfl,h1,rfl,?_⟩;refine⟨_,rfl,_,rfl,x,t.Map,dx,_,_,rfl,hx,T.sm,T.dc,rfl,d,_,rfl,cQ.k (k:=Sum.inl N.h) hM.d,?_⟩;rw[ER];cases ef:ms.find? (λm=>decide (m.2.h=N.h))with
 |none =>
  have qC:yH ms N:=λm hm e=>absurd (List.find?_eq_none.mp ef m hm) (by simp[e]);obtain⟨H',m,eH,Pn⟩:=put qC;refine⟨true,rfl,eV ?_⟩;refine⟨_,rfl,_,rfl,eV ?_⟩;refine⟨_,rfl,_,rfl,x,t.Map,dx,_,_,rfl,hx,T.sm,T.dc,rfl,_,rfl,d,_,rfl,.inl ⟨_,Sum.inl N.h,hM.d,rfl,by rw[List.length_map];lia,rfl⟩,?_⟩;refine⟨_,rfl,?_⟩;rw[<-eH];exact q1 qC H' m Pn
 |some y =>
  have hy:y∈ms:=List.mem_of_find?_eq_some ef;have Po:y.2.h=N.h:=by simpa using List.find?_some ef
  obtain⟨ya,yp,yq,yz,ey,y1,_⟩:=(hM.all y hy).out;have gv:cQ H d (.int N.h) (some y.1):=by have:=cQ.k (k:=Sum.inl N.h) hM.d;rw[ER,ef]at this;exact this
  have qC:yH ms N↔y.2.n<N.n:=by
   constructor
   ·exact λz=>z y hy Po
   intro z m hm e;have:m=y:=by
    obtain⟨i,hi,rfl⟩:=List.getElem_of_mem hm;obtain⟨j,hj,rfl⟩:=List.getElem_of_mem hy;have:i=j:=by have nd:=hM.nd;unfold hs at nd;have:=(List.getElem_inj (xs:=ms.map (·.2.h)) (h₀:=by simpa using hi) (h₁:=by simpa using hj) nd).mp (by simp[e,Po]);exact this
    subst this;rfl
   rw[this];exact z
  refine⟨false,rfl,d0 ?_⟩;refine⟨_,rfl,a,_,_,_,rfl,rfl,h1,rfl,_,rfl,x,t.Map,dx,_,_,rfl,hx,T.sm,T.dc,rfl,_,rfl,d,y.1,rfl,gv,ya,_,_,_,ey,rfl,y1,rfl,_,_,rfl,rfl,?_⟩;refine⟨_,rfl,_,rfl,?_⟩;by_cases bM:y.2.n<N.n
  ·obtain⟨H',m,eH,Pn⟩:=put (qC.mpr bM);refine bw bM ?_;refine⟨_,rfl,_,rfl,x,t.Map,dx,_,_,rfl,hx,T.sm,T.dc,rfl,_,rfl,d,_,rfl,.inl ⟨_,Sum.inl N.h,hM.d,rfl,by rw[List.length_map];lia,rfl⟩,?_⟩;refine⟨_,rfl,?_⟩;rw[<-eH];show Q (.bl (decide (y.2.n<N.n))) H';rw[decide_eq_true bM];exact q1 (qC.mpr bM) H' m Pn
  refine bu bM ?_;refine⟨_,rfl,?_⟩;show Q (.bl (decide (y.2.n<N.n))) H;rw[decide_eq_false bM];exact q2 λz=>bM (qC.mp z)
def pk(ms:Ms)(h:Int):V×Nw:=(ms.find? λm=>decide (m.2.h=h)).getD (.ba,⟨0,0,[],[]⟩)
theorem zy{ms:Ms}{h:Int}(hh:h∈hs ms):∃y,ms.find? (λm=>decide (m.2.h=h))=some y/\y∈ms/\y.2.h=h/\pk ms h=y:=by
 obtain⟨m,hm,e⟩:=List.mem_map.mp hh;cases ef:ms.find? (λm=>decide (m.2.h=h))with
 |none=>exact absurd (List.find?_eq_none.mp ef m hm) (by simp[e])
 |some y=>exact⟨y,rfl,List.mem_of_find?_eq_some ef,by simpa using List.find?_some ef,by unfold pk;rw[ef];rfl⟩
theorem vm{ms:Ms}(nd:(hs ms).Nodup){m n:V×Nw}(hm:m∈ms)(hn:n∈ms)(e:m.2.h=n.2.h):m=n:=by obtain⟨i,hi,rfl⟩:=List.getElem_of_mem hm;obtain⟨j,hj,rfl⟩:=List.getElem_of_mem hn;unfold hs at nd;have:=(List.getElem_inj (xs:=ms.map (·.2.h)) (h₀:=by simpa using hi) (h₁:=by simpa using hj) nd).mp (by simp[e]);subst this;rfl
theorem J2{ms:Ms}(nd:(hs ms).Nodup):(hs ms).map (pk ms)=ms:=by
 unfold hs;rw[List.map_map];have:ms.map (pk ms∘λm=>m.2.h)=ms.map id:=List.map_congr_left λm hm=>by obtain⟨y,_,h2,h3,h4⟩:=zy (ms:=ms) (h:=m.2.h) (List.mem_map.mpr ⟨m,hm,rfl⟩);show pk ms m.2.h=m;rw[h4];exact vm nd h2 hm h3
 rw[this,List.map_id]
def BE(K:PySem.W.Frag)(C:Addr):Sp:=λvs H Q _=>∃(x d:Addr)(ms:Ms),vs=[.ref x]/\jq K C H x d ms/\ms.length<=50/\∀(r:Addr)(H':Hp)(us:Ms),aH H H'->H r=none->H' r=some (.lst (us.map (·.1)))->us.Perm ms->(hs us).Pairwise (·<·)->Q (.ref r) H'
theorem Ga:aQ ["self"] ["self"] (aG mG):=⟨rfl,rfl,rfl,by decide +kernel,rfl,by decide +kernel,by decide +kernel⟩
theorem Gb{fd:FuncData}(T:Txt K mg t)(F:sU K "news" "Map.news" mG t.rQ fd):dQ P w K mg base (qT P w) 1 t.rQ fd ["self"] (BE K t.Map)/\Binds K fd ["self"] []:=by
 refine⟨F.F7 Ga (λvs H Q E h=>?_) (λf bU A outer s H vs Q E hr h=>?_),F.binds λ_ _ _ _ _ _ us hl=>match us,hl with|[_],_=>rfl⟩
 ·obtain⟨x,d,ms,rfl,_⟩:=h;rfl
 obtain⟨x,d,ms,rfl,hM,hl,q⟩:=h;refine⟨_,aF (aS (je rfl (Nc:=["house","self"]) (ix:=[none,some 0]) (cF (aG mG) ["self"] rfl rfl (by decide +kernel)) (bF K (aX (eX (c6 hr)) (by rfl) T.cY boot_sorted (aA (nM K (pv 0) (by rfl)) aC))) (λC fp s H=>⟨(aJ (i:=0) (show(["house","self"]:List Str).Nodup by decide +kernel) rfl (Or.inl rfl)),cO,(cc (br hr) (nM K (pv 1) (by rfl)) (pv 0) (λ_ _=>rfl))⟩))),?_⟩;have hsz:(2000:Nat)<=sizeLine:=by decide
 obtain⟨dx,hx⟩:=hM.o;refine⟨_,rfl,x,t.Map,dx,_,_,rfl,hx,T.sm,T.dc,rfl,d,_,hs ms,rfl,hM.d,by rw[List.map_map];unfold hs;rw[List.map_map];rfl,by unfold hs;rw[List.length_map];lia,λys sl hp vg DK=>?_⟩;have s1:=(aH.refl H).new (o:=.lst (ys.map V.int)) DK;have e1:(upd H sl (.lst (ys.map V.int))) sl=some (.lst (ys.map V.int)):=aB;generalize upd H sl (.lst (ys.map V.int))=H1 at s1 e1 ⊢;have Uj:ys.length<=50:=by rw[hp.length_eq];unfold hs;rw[List.length_map];exact hl
 refine⟨sl,rfl,⟨_,ag.of e1⟩,λD hD=>?_⟩;refine gJ (K:=K) (a:=sl) (xs:=ys.map V.int) (λi σ H'=>∃v:Option V,σ=[v,some (.ref x)]/\aH H1 H'/\H' D=some (.lst (((ys.take i).map (pk ms)).map (·.1)))) ⟨none,rfl,(aH.refl _).new hD,aB⟩ (λi σ H' _ ⟨_,_,s2,_⟩=>ag.of (s2 _ _ e1)) ?_ ?_
 ·rintro i y σ H' N hN hi ⟨v,rfl,s2,e2⟩;obtain⟨h,ho,rfl⟩:=c7 hi;have MZ:i<ys.length:=(List.getElem?_eq_some_iff.mp ho).1;obtain⟨y,ef,hy,Po,ep⟩:=zy (hp.mem_iff.mp (List.mem_of_getElem? ho));have gv:cQ H' d (.int h) (some y.1):=by have:=cQ.k (k:=Sum.inl h) ((s1.trans s2) _ _ hM.d);rw[ER,ef]at this;exact this
  refine c8 ?_;refine⟨_,rfl,x,t.Map,dx,_,_,rfl,(s1.trans s2) _ _ hx,T.sm,T.dc,rfl,_,rfl,d,y.1,rfl,gv,_,e2,by rw[List.length_map,List.length_map,List.length_take];lia,hN _ _ ⟨_,rfl,s2.put hD,?_⟩⟩;rw[aB,take_succ ho,List.map_append,List.map_append,<-ep];rfl
 rintro σ H' ⟨v,rfl,s2,e2⟩;rw[List.length_map,List.take_length]at e2;have pm:(ys.map (pk ms)).Perm ms:=by
  have:=hp.map (pk ms)
  rwa [J2 hM.nd]at this
 refine q D H' (ys.map (pk ms)) (s1.trans s2) (s1.free hD) e2 pm ?_;have eh:hs (ys.map (pk ms))=ys:=by
  unfold hs;rw[List.map_map];have:ys.map ((λm=>m.2.h)∘pk ms)=ys.map id:=List.map_congr_left λh hh=>by obtain⟨y,_,_,h3,h4⟩:=zy (hp.mem_iff.mp hh);show(pk ms h).2.h=h;rw[h4];exact h3
  rw[this,List.map_id]
 rw[eh];have nd:ys.Nodup:=hp.nodup_iff.mpr hM.nd;exact(vg.and nd).imp λ⟨a,b⟩=>by lia
abbrev T3:=Int×Int×Int
def tH(t:T3):PyData:=.tuple [.int t.1,.int t.2.1,.int t.2.2]
def az(us:Ms):List (Tk×Int):=us.flatMap λm=>m.2.near.map λw=>([m.2.h,w.o,w.a,w.b],w.q)
def gU(L:List (Tk×Int))(k:Tk):Option Int:=(L.find? λe=>decide (e.1=k)).map (·.2)
def eG(L:List (Tk×Int))(e:Tk×Int):Option T3 :=
 match e.1 with
 |[h,o,a,b]=>if h<o then(gU L [o,h,a,b]).map λq=>(h,o,if q>e.2 then q else e.2)else none
 |_=>none
def ET(L:List (Tk×Int)):List T3:=L.filterMap (eG L)
def cH(ms:Ms)(t:T3):Prop:=t.1<t.2.1/\∃m1∈ms,∃m2∈ms,∃w1∈m1.2.near,∃w2∈m2.2.near,m1.2.h=t.1/\m2.2.h=t.2.1/\w1.o=t.2.1/\w2.o=t.1/\w1.a=w2.a/\w1.b=w2.b/\t.2.2=max w1.q w2.q
def ny(ms:Ms):Prop:=∀m∈ms,(m.2.near.map (·.o)).Nodup/\m.2.near.length<=5
theorem fR{us:Ms}{e:Tk×Int}:e∈az us↔∃m∈us,∃w∈m.2.near,e=([m.2.h,w.o,w.a,w.b],w.q):=by
 unfold az;rw[List.mem_flatMap];constructor
 ·rintro⟨m,hm,h⟩;obtain⟨w,hw,e⟩:=List.mem_map.mp h;exact⟨m,hm,w,hw,e.symm⟩
 rintro⟨m,hm,w,hw,e⟩;exact⟨m,hm,List.mem_map.mpr ⟨w,hw,e.symm⟩⟩
theorem ud{us:Ms}(nd:(hs us).Nodup)(ok:ny us):(az us).Pairwise λe f=>(e.1.take 2)≠(f.1.take 2):=by
 unfold az;rw[List.pairwise_flatMap];constructor
 ·intro m hm;have:=(ok m hm).1;unfold List.Nodup at this;rw[List.pairwise_map]at this ⊢;refine this.imp λh e=>h ?_;simp only[List.take_succ_cons,List.take_zero,List.cons.injEq,and_true]at e;exact e.2
 unfold hs List.Nodup at nd;rw[List.pairwise_map]at nd;refine nd.imp λh x hx y hy e=>?_;obtain⟨w,_,rfl⟩:=List.mem_map.mp hx;obtain⟨v,_,rfl⟩:=List.mem_map.mp hy;simp only[List.take_succ_cons,List.take_zero,List.cons.injEq,and_true]at e;exact h e.1
theorem flat_keys{us:Ms}(nd:(hs us).Nodup)(ok:ny us):((az us).map (·.1)).Nodup:=by unfold List.Nodup;rw[List.pairwise_map];exact(ud nd ok).imp λh e=>h (by rw[e])
theorem cL{L:List (Tk×Int)}(nd:(L.map (·.1)).Nodup){k:Tk}{q:Int}:gU L k=some q↔(k,q)∈L:=by
 unfold gU;rw[Option.map_eq_some_iff];constructor
 ·rintro⟨e,h1,rfl⟩;have:=List.mem_of_find?_eq_some h1;have h2:e.1=k:=by simpa using List.find?_some h1
  rw[<-h2];exact this
 intro h;cases ef:L.find? (λe=>decide (e.1=k))with
 |none=>exact absurd (List.find?_eq_none.mp ef _ h) (by simp)
 |some e =>
  refine⟨e,rfl,?_⟩;have h1:=List.mem_of_find?_eq_some ef;have h2:e.1=k:=by simpa using List.find?_some ef
  obtain⟨i,hi,ei⟩:=List.getElem_of_mem h1;obtain⟨j,hj,ej⟩:=List.getElem_of_mem h;have:=(List.getElem_inj (xs:=L.map (·.1)) (h₀:=by simpa using hi) (h₁:=by simpa using hj) nd).mp (by simp[ei,ej,h2]);subst this;rw[ei]at ej;rw[ej]
theorem Gc{us:Ms}(nd:(hs us).Nodup)(ok:ny us){t:T3}:t∈ET (az us)↔cH us t:=by
 unfold ET;rw[List.mem_filterMap];have kn:=flat_keys nd ok;constructor
 ·rintro⟨e,he,h⟩;obtain⟨m,hm,w,hw,rfl⟩:=fR.mp he;unfold eG at h;simp only at h;split at h
  ·rename_i bM;obtain⟨q,hq,rfl⟩:=Option.map_eq_some_iff.mp h;obtain⟨m2,EN,w2,Pp,e2⟩:=fR.mp ((cL kn).mp hq);simp only[Prod.mk.injEq,List.cons.injEq,and_true]at e2;obtain⟨⟨e3,e4,e5,e6⟩,e7⟩:=e2;refine⟨bM,m,hm,m2,EN,w,hw,w2,Pp,rfl,e3.symm,rfl,e4.symm,e5,e6,?_⟩;show(if q>w.q then q else w.q)=max w.q w2.q;rw[e7];split<;>lia
  cases h
 rintro⟨bM,m,hm,m2,EN,w,hw,w2,Pp,e1,e2,e3,e4,e5,e6,e7⟩;refine⟨([m.2.h,w.o,w.a,w.b],w.q),fR.mpr ⟨m,hm,w,hw,rfl⟩,?_⟩;unfold eG;simp only;rw[if_pos (by rw[e1,e3];exact bM)];have:gU (az us) [w.o,m.2.h,w.a,w.b]=some w2.q:=(cL kn).mpr (fR.mpr ⟨m2,EN,w2,Pp,by rw[e2,e3,e4,e1,e5,e6]⟩);rw[this];show some (m.2.h,w.o,if w2.q>w.q then w2.q else w.q)=some t;obtain⟨a,b,l⟩:=t;simp only at e1 e3 e7;rw[e1,e3,e7]
 congr 3
 split<;>lia
theorem EU{us:Ms}(nd:(hs us).Nodup)(ok:ny us):(ET (az us)).Pairwise λs t=>(s.1,s.2.1)≠(t.1,t.2.1):=by
 unfold ET;rw[List.pairwise_filterMap];refine(ud nd ok).imp_of_mem λ{e f} he hf h b hb b' wW z=>h ?_;obtain⟨m,_,w,_,rfl⟩:=fR.mp he;obtain⟨m',_,w',_,rfl⟩:=fR.mp hf;unfold eG at hb wW;simp only at hb wW;split at hb
 ·split at wW
  ·obtain⟨q,_,rfl⟩:=Option.map_eq_some_iff.mp hb;obtain⟨q',_,rfl⟩:=Option.map_eq_some_iff.mp wW;simp only[Prod.mk.injEq]at z;simp[z.1,z.2]
  cases wW
 cases hb
theorem EV{us:Ms}(ok:ny us):(az us).length<=5*us.length:=by
 induction us with
 |nil=>exact Nat.le_refl _
 |cons m us ih =>
  have h1:=(ok m List.mem_cons_self).2;have h2:=ih λx hx=>ok x (List.mem_cons_of_mem _ hx);unfold az at h2 ⊢;rw[List.flatMap_cons,List.length_append,List.length_map,List.length_cons];lia
def nz(t:T3):List Int:=[t.1,t.2.1,t.2.2]
theorem EW(s t:T3):bN (tH s) (tH t)=decide (nz s<nz t):=by obtain⟨o,q,a⟩:=s;obtain⟨o',q',a'⟩:=t;simp only[tH,nz,bN,nQ,PyData.eqv,PyData.eqvAll,List.cons_lt_cons_iff];by_cases h1:o=o'<;>by_cases h2:q=q'<;>by_cases h3:a=a'<;>simp[h1,h2,h3]
theorem Md(ts:List T3):sX (ts.map tH):=ve (κ:=List Int) (λa b h=>List.lt_asymm h) (λa b c h1 h2=>List.not_lt.mpr (List.le_trans (List.not_lt.mp h1) (List.not_lt.mp h2))) EW (λs t=>by simp[tH,uR,vJ]) (.rows λd hd=>by obtain⟨w,_,rfl⟩:=List.mem_map.mp hd;exact⟨_,_,rfl⟩)
theorem yI{s t:T3}(h:nz s=nz t):s=t:=by obtain⟨a,b,c⟩:=s;obtain⟨a',b',c'⟩:=t;simp only[nz,List.cons.injEq,and_true]at h;rw[h.1,h.2.1,h.2.2]
def tI(K:PySem.W.Frag)(H:Hp)(zs:List (V×T3)):Prop:=∀z∈zs,ae K H 2 z.1 (tH z.2)
theorem yJ(t:T3):ye (tH t)=true:=by simp[tH,ye,c9]
theorem tI.same{K:PySem.W.Frag}{H H':Hp}{zs:List (V×T3)}(h:tI K H zs)(s:aH H H'):tI K H' zs:=λz hz=>(h z hz).same s
def vn(K:PySem.W.Frag)(H:Hp)(r:Addr)(ts:List T3):Prop:=∃zs:List (V×T3),H r=some (.lst (zs.map (·.1)))/\tI K H zs/\zs.map (·.2)=ts
theorem vn.same{K:PySem.W.Frag}{H H':Hp}{r:Addr}{ts:List T3}(h:vn K H r ts)(s:aH H H'):vn K H' r ts:=by obtain⟨zs,h1,h2,h3⟩:=h;exact⟨zs,s _ _ h1,h2.same s,h3⟩
theorem bj{H:Hp}{D:Addr}{o:HO}(h:pZ H D):Kept H (upd H D o):=(mH.refl (S:=[D]) (H:=H)).upd (.inl List.mem_cons_self) |>.kept λb hb=>by rw[List.mem_singleton.mp hb];exact h
theorem pZ.J3{H:Hp}{a:Addr}{xs:TX}(h:H a=some (gG a xs)):pZ H a:=λys e=>by rcases e with e|⟨u,e⟩<;>(rw[h]at e;cases e)
theorem pZ.lst{H:Hp}{a:Addr}{xs:List V}(h:H a=some (.lst xs)):pZ H a:=λys e=>by rcases e with e|⟨u,e⟩<;>(rw[h]at e;cases e)
theorem o5{xs:TX}{L:List (Tk×Int)}(h:xs.map (λp=>(p.1,p.2.2))=L.map λe=>(e.1,V.int e.2))(k:Tk):gk xs k=(gU L k).map V.int:=by
 induction xs generalizing L with
 |nil =>
  cases L with
  |nil=>rfl
  |cons _ _=>cases h
 |cons p xs ih =>
  cases L with
  |nil=>cases h
  |cons e L =>
   rw[List.map_cons,List.map_cons]at h;obtain⟨h1,h2⟩:=List.cons.inj h;obtain⟨h3,h4⟩:=Prod.mk.inj h1;have:=ih h2;unfold gk gU at this ⊢;rw[List.find?_cons,List.find?_cons,<-h3];by_cases c:p.1=k
   ·simp[c,h4]
   simp only[c,decide_false];exact this
theorem BF{xs:TX}{L:List (Tk×Int)}(h:xs.map (λp=>(p.1,p.2.2))=L.map λe=>(e.1,V.int e.2)):xs.map (·.1)=L.map (·.1):=by have:=congrArg (List.map (·.1)) h;rw[List.map_map,List.map_map]at this;exact this
theorem rY(a b:Ms):az (a++b)=az a++az b:=by unfold az;rw[List.flatMap_append]
def fW(m:V×Nw)(w:Wr):Tk×Int:=([m.2.h,w.o,w.a,w.b],w.q)
theorem yK(m:V×Nw):az [m]=m.2.near.map (fW m):=by unfold az fW;simp
theorem z7{us:Ms}{i j:Nat}{m:V×Nw}{x:Wr}(hi:us[i]?=some m)(hj:m.2.near[j]?=some x):∃R,az us=(az (us.take i)++(m.2.near.take j).map (fW m))++fW m x::R:=by
 refine⟨(m.2.near.drop (j+1)).map (fW m)++az (us.drop (i+1)),?_⟩;obtain⟨i1,i2⟩:=List.getElem?_eq_some_iff.mp hi;obtain⟨j1,j2⟩:=List.getElem?_eq_some_iff.mp hj;have e1:us=us.take i++m::us.drop (i+1):=by rw[<-i2,List.getElem_cons_drop,List.take_append_drop]
 have e2:m.2.near=m.2.near.take j++x::m.2.near.drop (j+1):=by rw[<-j2,List.getElem_cons_drop,List.take_append_drop]
 have e3:m.2.near.map (fW m)=(m.2.near.take j).map (fW m)++fW m x::(m.2.near.drop (j+1)).map (fW m):=by rw[<-List.map_cons,<-List.map_append,<-e2]
 have e4:az us=az (us.take i)++(m.2.near.map (fW m)++az (us.drop (i+1))):=by rw[<-yK,<-rY,<-rY];exact congrArg az (by rw[List.singleton_append];exact e1)
 rw[e4,e3];simp only[List.append_assoc,List.cons_append]
def yL(K:PySem.W.Frag)(C:Addr):Sp:=λvs H Q _=>∃(x d:Addr)(ms:Ms),vs=[.ref x]/\jq K C H x d ms/\ms.length<=12/\ny ms/\∀(r:Addr)(H':Hp)(ts:List T3),aH H H'->H r=none->vn K H' r ts->(∀t,t∈ts↔cH ms t)->(ts.Pairwise λs t=>nz s<nz t)->ts.length<=60->Q (.ref r) H'
theorem bQ:aQ ["self","told","house","number","near","names","other","quiet","pair","standing","back"] ["self"] (aG lB):=⟨rfl,rfl,rfl,by decide +kernel,rfl,by decide +kernel,by decide +kernel⟩
set_option maxHeartbeats 2000000 in
theorem EX{fd fn:FuncData}(T:Txt K mg t)(F:sU K "wires" "Map.wires" lB t.nc fd)(z8:dQ P w K mg base (qT P w) 1 t.rQ fn ["self"] (BE K t.Map))(z9:Binds K fn ["self"] []):dQ P w K mg base (qT P w) 2 t.nc fd ["self"] (yL K t.Map)/\Binds K fd ["self"] []:=by
 refine⟨F.F7 bQ (λvs H Q E h=>?_) (λf bU A outer s H vs Q E hr h=>?_),F.binds λ_ _ _ _ _ _ us hl=>match us,hl with|[_],_=>rfl⟩
 ·obtain⟨x,d,ms,rfl,_⟩:=h;rfl
 obtain⟨x,d,ms,rfl,hM,hl,aq,q⟩:=h;refine⟨_,aD (aT (i:=1) bQ.nd rfl (Or.inl rfl) A3)
  (aD (PS.wU (bL PassesOwn.never rfl (bF K (wq (pv 0) T.sm T.GP (z8.mono (by decide)) hr z9 .nil au)) (ju rfl (aa (aJ (i:=2) bQ.nd rfl (Or.inl rfl)) (aa (aJ (i:=3) bQ.nd rfl (Or.inl rfl)) (aa (aJ (i:=4) bQ.nd rfl (Or.inl rfl)) (aa (aJ (i:=5) bQ.nd rfl (Or.inl rfl)) eU)))))
   (aF (bL PassesOwn.never rfl (vC K (pv 4)) (ju rfl (aa (aJ (i:=6) bQ.nd rfl (Or.inl rfl)) (aa (aJ (i:=7) bQ.nd rfl (Or.inl rfl)) (aa (aJ (i:=8) bQ.nd rfl (Or.inl rfl)) eU))))
    (aF (vM K (c6 hr) (pv 1) (aw (aA (pv 2) (aA (pv 6) (aA (pv 8) aC)))) (pv 7) (by rfl)))))))
  (aD (aT (i:=9) bQ.nd rfl (Or.inl rfl) (cJ aC))
  (aD (PS.wU (bL PassesOwn.never rfl (iO (pv 1)) (ju rfl (aa (aJ (i:=2) bQ.nd rfl (Or.inl rfl)) (aa (aJ (i:=6) bQ.nd rfl (Or.inl rfl)) (aa (aJ (i:=8) bQ.nd rfl (Or.inl rfl)) eU))))
   (aD (aT (i:=10) bQ.nd rfl (Or.inl rfl) (aw (aA (pv 6) (aA (pv 2) (aA (pv 8) aC)))))
   (aF (ay (PW.pt (jr (aO pL (pv 2) (pv 6) (aU _)) (ig (aO (GD K (c6 hr)) (pv 10) (pv 1) (by rfl)))))
    (aF (bV (oa K PySem.F.plainAttrs_list PySem.F.slot_list_append PySem.F.type_list_append dY (pv 9) (aA (aw (aA (pv 2) (aA (pv 6) (aA (aX (t9 rfl) (by rfl) T.Hu boot_max (aA (kx K (c6 hr) (pv 1) (aw (aA (pv 2) (aA (pv 6) (aA (pv 8) aC)))) (λ_ _=>rfl)) (aA (kx K (c6 hr) (pv 1) (pv 10) (λ_ _=>rfl)) aC))) aC)))) aC))))
    (aZ))))))
  (aF (aS (aX (gL K (c6 hr)) (by rfl) T.cY boot_sorted (aA (pv 9) aC))))))),?_⟩
 have hsz:(2000:Nat)<=sizeLine:=by decide
 refine λtd Gd=>?_;have s1:=(aH.refl H).new (o:=gG td []) Gd;have e1:(upd H td (gG td [])) td=some (gG td []):=aB;generalize upd H td (gG td [])=H1 at s1 e1 ⊢;obtain⟨dx,hx⟩:=hM.o;refine⟨_,rfl,x,dx,_,rfl,s1 _ _ hx,rfl,x,d,ms,rfl,hM.same s1,by lia,λr H2 us Qu _ e2 pm Uk=>?_⟩;have s2:=s1.trans Qu;have Pq:(hs us).Nodup:=(show(hs us).Perm (hs ms)from pm.map _).nodup_iff.mpr hM.nd;have NL:ny us:=λm hm=>aq m (pm.mem_iff.mp hm);have kn:=flat_keys Pq NL;have fl:=EV NL;have ul:us.length<=12:=by rw[pm.length_eq];exact hl
 have nat:∀m∈us,EO K H m.1 m.2:=λm hm=>hM.all m (pm.mem_iff.mp hm);have TH:H2 td=some (gG td []):=Qu _ _ e1
 let I1:Nat->_->_->Prop:=λi σ H'=>∃(xs:TX)(v2 v3 v4 v5 v6 v7 v8:Option V),σ=[some (.ref x),some (.ref td),v2,v3,v4,v5,v6,v7,v8,none,none]/\aH H H'/\H' r=some (.lst (us.map (·.1)))/\H' td=some (gG td xs)/\(∀p∈xs,cG K H' p.2.1 p.1)/\xs.map (λp=>(p.1,p.2.2))=(az (us.take i)).map λe=>(e.1,V.int e.2)
 refine⟨r,rfl,⟨_,ag.of e2⟩,dy (K:=K) (a:=r) (xs:=us.map (·.1)) I1 ⟨[],none,none,none,none,none,none,none,rfl,s2,e2,TH,λp hp=>absurd hp List.not_mem_nil,rfl⟩ (λi σ H' _ ⟨_,_,_,_,_,_,_,_,_,_,e,_⟩=>ag.of e) ?_ ?_⟩
 ·rintro i y σ H3 hi ⟨xs,v2,v3,v4,v5,v6,v7,v8,rfl,s3,e3,d3,k3,m3⟩;rw[List.getElem?_map]at hi;cases ez:us[i]? with
  |none=>rw[ez]at hi;cases hi
  |some m =>
   rw[ez]at hi;obtain rfl:m.1=y:=Option.some.inj hi;have TK:m∈us:=List.mem_of_getElem? ez;obtain⟨a,p,r2,zs,ea,h1,h2,h3,h4,h5⟩:=((nat m TK).same s3).out;refine⟨a,_,ea,h1,rfl,_,_,rfl,_,_,rfl,_,_,rfl,_,_,rfl,rfl,?_⟩
   let I2:Nat->_->_->Prop:=λj σ H'=>∃(xs:TX)(v6 v7 v8:Option V),σ=[some (.ref x),some (.ref td),some (.int m.2.h),some (.int m.2.n),some (.ref p),some (.ref r2),v6,v7,v8,none,none]/\aH H H'/\H' r=some (.lst (us.map (·.1)))/\H' td=some (gG td xs)/\ao K H' p (zs.map (·.1))/\kC K H' zs/\(∀q∈xs,cG K H' q.2.1 q.1)/\xs.map (λp=>(p.1,p.2.2))=(az (us.take i)++(m.2.near.take j).map (fW m)).map λe=>(e.1,V.int e.2)
   refine⟨_,rfl,p,rfl,⟨_,h2⟩,Af (K:=K) (a:=p) (xs:=zs.map (·.1)) I2 ⟨xs,v6,v7,v8,rfl,s3,e3,d3,h2,h3,k3,by rw[List.take_zero,List.map_nil,List.append_nil];exact m3⟩ (λj σ H' _ ⟨_,_,_,_,_,_,_,_,e,_⟩=>e) ?_ ?_⟩
   ·rintro j y σ H4 hj ⟨xs,v6,v7,v8,rfl,s4,e4,d4,p4,w4,k4,m4⟩;rw[List.getElem?_map]at hj;cases ej:zs[j]? with
    |none=>rw[ej]at hj;cases hj
    |some z =>
     rw[ej]at hj;obtain rfl:z.1=y:=Option.some.inj hj;have TL:z∈zs:=List.mem_of_getElem? ej;have Qv:m.2.near[j]?=some z.2:=(by rw[<-h4,List.getElem?_map,ej];rfl);obtain⟨wa,wp,TM,g1,g2⟩:=(w4 z TL).out;refine⟨wa,_,TM,g1,rfl,_,_,rfl,_,_,rfl,_,_,rfl,rfl,?_⟩;obtain⟨R,hR⟩:=z7 ez Qv;have J4:[m.2.h,z.2.o,z.2.a,z.2.b]∉xs.map (·.1):=by rw[BF m4];have:=kn;rw[hR,List.map_append]at this;intro qF;exact(List.nodup_append.mp this).2.2 _ qF _ (List.mem_map.mpr ⟨fW m z.2,List.mem_cons_self,rfl⟩) rfl
     have xl:xs.length<=60:=by have:=congrArg List.length m4;rw[List.length_map,List.length_map]at this;have h6:=congrArg List.length hR;rw[List.length_append,List.length_cons]at h6;lia
     refine⟨_,rfl,_,rfl,_,rfl,_,rfl,_,rfl,zz3,λtp xC=>?_⟩;have s5:=(aH.refl H4).new (o:=.tup [.int m.2.h,.int z.2.o,.ref wp]) xC;have t5:cG K (upd H4 tp (.tup [.int m.2.h,.int z.2.o,.ref wp])) tp [m.2.h,z.2.o,z.2.a,z.2.b]:=⟨.inr ⟨_,_,_,_,wp,rfl,ao.of aB,s5.tup g2⟩⟩;generalize upd H4 tp (.tup [.int m.2.h,.int z.2.o,.ref wp])=H5 at s5 t5;have d5:=s5 _ _ d4;have k5:∀q∈xs,cG K H5 q.2.1 q.1:=λq hq=>(k4 q hq).same s5;refine⟨td,tp,xs,_,rfl,rfl,⟨.inl d5,k5⟩,d5,t5,by lia,?_⟩;rw[rJ J4];have kp:=bj (o:=gG td (xs++[([m.2.h,z.2.o,z.2.a,z.2.b],tp,V.int z.2.q)])) (pZ.J3 d5);have TN:r≠td:=lJ (s5 _ _ e4) d5 (by intro z;cases z);refine⟨xs++[([m.2.h,z.2.o,z.2.a,z.2.b],tp,V.int z.2.q)],_,_,_,rfl,(s4.trans s5).put Gd,by rw[aI TN];exact s5 _ _ e4,aB,kp.tup (s5.tup p4),(w4.same s5).kept kp,λq hq=>?_,?_⟩
     ·rcases List.mem_append.mp hq with h|h
      ·exact(k5 q h).kept kp
      rw[List.mem_singleton.mp h];exact t5.kept kp
     rw[take_succ Qv,List.map_append,m4,List.map_append (l₁:=m.2.near.take j),<-List.append_assoc,List.map_append (l₂:=List.map (fW m) [z.2])];rfl
   rintro σ H4 ⟨xs,v6,v7,v8,rfl,s4,e4,d4,p4,w4,k4,m4⟩;have GL:(zs.map (·.1)).length=m.2.near.length:=(by rw[<-h4,List.length_map,List.length_map]);rw[GL,List.take_length]at m4;refine⟨xs,_,_,_,_,_,_,_,rfl,s4,e4,d4,k4,?_⟩;rw[m4,take_succ ez,rY,yK]
 rintro σ H3 ⟨xs,v2,v3,v4,v5,v6,v7,v8,rfl,s3,e3,d3,k3,m3⟩;rw[List.length_map,List.take_length]at m3;refine⟨zz0,λst Ac=>?_⟩;have s4:=(aH.refl H3).new (o:=.lst []) Ac;have e4:(upd H3 st (.lst [])) st=some (.lst []):=aB;have Pr:H st=none:=s3.free Ac;generalize upd H3 st (.lst [])=H4 at s4 e4 ⊢;have xl:xs.length<=60:=by have:=congrArg List.length m3;rw[List.length_map,List.length_map]at this;lia
 have d4:=s4 _ _ d3;refine⟨_,rfl,td,xs,rfl,d4,λu ou=>?_⟩;have kz:=bj (o:=u) (pZ.J3 d4);have s5:aH H (upd H4 td u):=(s3.trans s4).put Gd;have Qw:st≠td:=lJ e4 d4 (by intro z;cases z);have e5:(upd H4 td u) st=some (.lst []):=by rw[aI Qw];exact e4
 have k5:∀p∈xs,cG K (upd H4 td u) p.2.1 p.1:=λp hp=>((k3 p hp).same s4).kept kz;have d5:(upd H4 td u) td=some u:=aB;generalize upd H4 td u=H5 at s5 e5 k5 d5 ⊢
 let I3:Nat->_->_->Prop:=λi σ H'=>∃(zs:List (V×T3))(v2 v3 v4 v5 v6 v7 v8 v10:Option V),σ=[some (.ref x),some (.ref td),v2,v3,v4,v5,v6,v7,v8,some (.ref st),v10]/\aH H H'/\H' td=some u/\(∀p∈xs,cG K H' p.2.1 p.1)/\H' st=some (.lst (zs.map (·.1)))/\tI K H' zs/\zs.map (·.2)=((az us).take i).filterMap (eG (az us))
 refine mF (d:=td) (u:=u) (xs:=xs) I3 ⟨[],v2,v3,v4,v5,v6,v7,v8,none,rfl,s5,d5,k5,e5,λz hz=>absurd hz List.not_mem_nil,rfl⟩ (λi σ H' _ ⟨_,_,_,_,_,_,_,_,_,_,_,e,_⟩=>e) ?_ ?_
 ·rintro i p σ H6 hi ⟨zs,v2,v3,v4,v5,v6,v7,v8,v10,rfl,s6,d6,k6,e6,t6,m6⟩;have eL:∃e,(az us)[i]?=some e/\p.1=e.1/\p.2.2=.int e.2:=by
   have:(xs.map λp=>(p.1,p.2.2))[i]?=some (p.1,p.2.2):=(by rw[List.getElem?_map,hi];rfl);rw[m3,List.getElem?_map]at this;cases ee:(az us)[i]? with
   |none=>rw[ee]at this;cases this
   |some e =>
    rw[ee]at this;obtain⟨z1,z2⟩:=Prod.mk.inj (Option.some.inj this);exact⟨e,rfl,z1.symm,z2.symm⟩
  obtain⟨e,ee,Ge,NM⟩:=eL;obtain⟨m,hm,ww,Ul,rfl⟩:=fR.mp (List.mem_of_getElem? ee);have Qx:=k6 p (List.mem_of_getElem? hi);rw[Ge]at Qx;rcases Qx.ex with⟨_,_,z,_⟩|⟨h,o,a,b,pb,z,g1,g2⟩
  ·simp at z
  simp only[List.cons.injEq,and_true]at z;obtain⟨rfl,rfl,rfl,rfl⟩:=z;have GL:zs.length<=60:=by have:=congrArg List.length m6;rw[List.length_map]at this;have h2:=List.length_filterMap_le (eG (az us)) ((az us).take i);rw[List.length_take]at h2;lia
  refine⟨p.2.1,_,rfl,g1,rfl,_,_,rfl,_,_,rfl,_,_,rfl,rfl,?_⟩;refine⟨_,rfl,_,rfl,_,rfl,zz3,λbk TQ=>?_⟩;have s7:=(aH.refl H6).new (o:=.tup [.int ww.o,.int m.2.h,.ref pb]) TQ;have tb:cG K (upd H6 bk (.tup [.int ww.o,.int m.2.h,.ref pb])) bk [ww.o,m.2.h,ww.a,ww.b]:=⟨.inr ⟨_,_,_,_,pb,rfl,ao.of aB,s7.tup g2⟩⟩;generalize upd H6 bk (.tup [.int ww.o,.int m.2.h,.ref pb])=H7 at s7 tb ⊢;have d7:=s7 _ _ d6;have k7:∀p∈xs,cG K H7 p.2.1 p.1:=λp hp=>(k6 p hp).same s7;have ic:eG (az us) ([m.2.h,ww.o,ww.a,ww.b],ww.q)=none->I3 (i+1) [some (.ref x),some (.ref td),some (.int m.2.h),v3,v4,v5,some (.int ww.o),v7,some (.ref pb),some (.ref st),some (.ref bk)] H7:=λKY=>by refine⟨zs,_,_,_,_,_,_,_,_,rfl,s6.trans s7,d7,k7,s7 _ _ e6,t6.same s7,?_⟩;rw[take_succ ee,List.filterMap_append,m6,List.filterMap_cons,KY];simp
  refine⟨_,rfl,_,rfl,_,_,rfl,rfl,_,rfl,?_⟩;by_cases bM:m.2.h<ww.o
  ·refine bw bM ?_;refine⟨_,rfl,_,rfl,td,bk,xs,_,rfl,rfl,⟨.inr ⟨u,d7,ou⟩,k7⟩,tb,_,rfl,?_⟩;show if decide ([ww.o,m.2.h,ww.a,ww.b]∈xs.map (·.1))=true then _ else _;have vb:=o5 m3 [ww.o,m.2.h,ww.a,ww.b];by_cases yZ:[ww.o,m.2.h,ww.a,ww.b]∈xs.map (·.1)
   ·refine bw yZ ?_;have AA:(gk xs [ww.o,m.2.h,ww.a,ww.b]).isSome=true:=(by rw[bf,decide_eq_true yZ]);rw[vb,Option.isSome_map]at AA;obtain⟨q2,NN⟩:=Option.isSome_iff_exists.mp AA;rw[NN]at vb;have va:gk xs [m.2.h,ww.o,ww.a,ww.b]=some (.int ww.q):=by rw[o5 m3,(cL kn).mpr (List.mem_of_getElem? ee)];rfl
    refine⟨_,rfl,.inl ⟨rfl,_,ag.of (s7 _ _ e6)⟩,_,rfl,_,rfl,_,rfl,_,rfl,_,rfl,_,rfl,zz3,λkt J5=>?_⟩;have s8:=(aH.refl H7).new (o:=.tup [.int m.2.h,.int ww.o,.ref pb]) J5;have tk:cG K (upd H7 kt (.tup [.int m.2.h,.int ww.o,.ref pb])) kt [m.2.h,ww.o,ww.a,ww.b]:=⟨.inr ⟨_,_,_,_,pb,rfl,ao.of aB,s8.tup (s7.tup g2)⟩⟩;generalize upd H7 kt (.tup [.int m.2.h,.int ww.o,.ref pb])=H8 at s8 tk;have Qy:TD K H8 td xs:=⟨.inr ⟨u,s8 _ _ d7,ou⟩,λp hp=>(k7 p hp).same s8⟩;refine⟨td,kt,xs,_,_,rfl,rfl,Qy,tk,va,_,rfl,_,rfl,td,bk,xs,_,_,rfl,rfl,Qy,tb.same s8,vb,ww.q,q2,rfl,zz3,λtp xC=>?_⟩;have s9:=(aH.refl H8).new (o:=.tup [.int m.2.h,.int ww.o,.int (if q2>ww.q then q2 else ww.q)]) xC;have dn:ae K (upd H8 tp (.tup [.int m.2.h,.int ww.o,.int (if q2>ww.q then q2 else ww.q)])) 2 (.ref tp) (tH (m.2.h,ww.o,if q2>ww.q then q2 else ww.q)):=by
     refine .tup (ao.of aB) rfl λi v d e1 e2=>?_
     match i with
     |0=>cases e1;cases e2;exact .int _
     |1=>cases e1;cases e2;exact .int _
     |2=>cases e1;cases e2;exact .int _
     |i+3=>simp at e1
    generalize upd H8 tp (.tup [.int m.2.h,.int ww.o,.int (if q2>ww.q then q2 else ww.q)])=H9 at s9 dn;have Kl:=s7.trans (s8.trans s9);refine⟨st,_,_,rfl,rfl,Kl _ _ e6,by rw[List.length_map];lia,?_⟩;have kp:=bj (o:=.lst (zs.map (·.1)++[V.ref tp])) (pZ.lst (Kl _ _ e6));refine⟨zs++[(.ref tp,(m.2.h,ww.o,if q2>ww.q then q2 else ww.q))],_,_,_,_,_,_,_,_,rfl,(s6.trans Kl).put Pr,by rw[aI (Ne.symm Qw)];exact Kl _ _ d6,λp hp=>((k6 p hp).same Kl).kept kp,by rw[aB,List.map_append];rfl,λz hz=>?_,?_⟩
    ·rcases List.mem_append.mp hz with h|h
     ·exact((t6 z h).same Kl).kept kp (yJ _)
     rw[List.mem_singleton.mp h];exact dn.kept kp (yJ _)
    rw[take_succ ee,List.filterMap_append,List.map_append,m6,List.filterMap_cons];have:eG (az us) ([m.2.h,ww.o,ww.a,ww.b],ww.q)=some (m.2.h,ww.o,if q2>ww.q then q2 else ww.q):=by unfold eG;simp only;rw[if_pos bM,NN];rfl
    rw[this];rfl
   refine bu yZ ?_;refine ic ?_;unfold eG;simp only;rw[if_pos bM];have AA:(gk xs [ww.o,m.2.h,ww.a,ww.b]).isSome=false:=(by rw[bf,decide_eq_false yZ]);rw[vb,Option.isSome_map]at AA;have:gU (az us) [ww.o,m.2.h,ww.a,ww.b]=none:=(by simpa using AA);rw[this];rfl
  refine bu bM ?_;refine ic ?_;unfold eG;simp only;rw[if_neg bM]
 rintro σ H6 ⟨zs,v2,v3,v4,v5,v6,v7,v8,v10,rfl,s6,d6,k6,e6,t6,m6⟩;have TR:xs.length=(az us).length:=by
  have:=congrArg List.length m3
  rwa [List.length_map,List.length_map]at this
 rw[TR,List.take_length]at m6;have GL:zs.length<=60:=by have:=congrArg List.length m6;rw[List.length_map]at this;have h2:=List.length_filterMap_le (eG (az us)) (az us);lia
 refine⟨_,rfl,true,st,zs.map λz=>(z.1,tH z.2),rfl,by rw[List.map_map];exact ag.of e6,by rw[List.length_map];lia,λy hy=>?_,by have:=Md (zs.map (·.2));rw[List.map_map]at this ⊢;exact this,λys r2 hp vg rC=>?_⟩
 ·obtain⟨z,hz,rfl⟩:=List.mem_map.mp hy;exact ae.up (t6 z hz) (by decide)
 obtain⟨vs,EM,rfl⟩:=perm_back (λz:V×T3=>(z.1,tH z.2)) hp zs rfl;have s7:=(aH.refl H6).new (o:=.lst ((vs.map λz=>(z.1,tH z.2)).map (·.1))) rC;have Me:(vs.map (·.2)).Perm (ET (az us)):=by have:=EM.map (·.2);rw[m6]at this;exact this
 refine q r2 _ (vs.map (·.2)) (s6.trans s7) (s6.free rC) ⟨vs,by rw[aB,List.map_map];rfl,λz hz=>(t6 z (EM.mem_iff.mp hz)).same s7,rfl⟩ (λtt=>?_) ?_ (by rw[List.length_map,EM.length_eq];exact GL)
 ·rw[Me.mem_iff,Gc Pq NL];unfold cH;refine and_congr_right λ_=>?_;constructor
  ·rintro⟨m1,h1,m2,h2,z⟩;exact⟨m1,pm.mem_iff.mp h1,m2,pm.mem_iff.mp h2,z⟩
  rintro⟨m1,h1,m2,h2,z⟩;exact⟨m1,pm.mem_iff.mpr h1,m2,pm.mem_iff.mpr h2,z⟩
 have pw:(vs.map (·.2)).Pairwise λs t=>(s.1,s.2.1)≠(t.1,t.2.1):=(Me.pairwise_iff λ{a b} h=>h.symm).mpr (EU Pq NL);have so:(vs.map (·.2)).Pairwise λs t=>bN (tH t) (tH s)=false:=by rw[List.pairwise_map]at vg ⊢;exact vg
 refine(so.and pw).imp λ{s t} ⟨h1,h2⟩=>?_;rw[EW,decide_eq_false_iff_not]at h1;by_cases h:nz s<nz t
 ·exact h
 exact absurd (by rw[yI (List.le_antisymm (List.not_lt.mp h1) (List.not_lt.mp h))]) h2
def oV:Option Int->V
 |none=>.ba
 |some n=>.int n
structure pd(K:PySem.W.Frag)(H:Hp)(l:Addr)(ps:List (Int×Int)):Prop where
 ex:∃zs:List (Addr×Int×Int),H l=some (.lst (zs.map λz=>V.ref z.1))/\(∀z∈zs,ao K H z.1 [.int z.2.1,.int z.2.2])/\zs.map (·.2)=ps
theorem pd.same{K:PySem.W.Frag}{H H':Hp}{l:Addr}{ps:List (Int×Int)}(h:pd K H l ps)(s:aH H H'):pd K H' l ps:=by obtain⟨zs,h1,h2,h3⟩:=h.ex;exact⟨zs,s _ _ h1,λz hz=>s.tup (h2 z hz),h3⟩
theorem AB:∀{l:List Wr},(l.map (·.o)).Nodup->∀{a b:Wr},a∈l->b∈l->a.o=b.o->a=b
 |[],_,_,_,h,_,_=>absurd h List.not_mem_nil
 |x::l,nd,a,b,ha,hb,e=>by
  rw[List.map_cons]at nd;obtain⟨h1,h2⟩:=List.nodup_cons.mp nd;rcases List.mem_cons.mp ha with rfl|ha
  ·rcases List.mem_cons.mp hb with rfl|hb
   ·rfl
   exact absurd (List.mem_map.mpr ⟨b,hb,e.symm⟩) h1
  rename_i Um;rcases List.mem_cons.mp hb with hb|hb
  ·exact absurd (List.mem_map.mpr ⟨a,ha,by rw[e,hb]⟩) h1
  exact AB h2 ha hb e
theorem pf{ms:Ms}(nd:(hs ms).Nodup)(ok:ny ms){s t:T3}(Qg:cH ms s)(ht:cH ms t)(e1:s.1=t.1)(e2:s.2.1=t.2.1):s=t:=by obtain⟨_,m1,h1,m2,h2,w1,g1,w2,g2,a1,a2,a3,a4,_,_,a5⟩:=Qg;obtain⟨_,n1,k1,n2,k2,v1,f1,v2,f2,b1,b2,b3,b4,_,_,b5⟩:=ht;obtain rfl:=vm nd h1 k1 (by lia);obtain rfl:=vm nd h2 k2 (by lia);obtain rfl:=AB (ok m1 h1).1 g1 f1 (by lia);obtain rfl:=AB (ok m2 h2).1 g2 f2 (by lia);exact Prod.ext e1 (Prod.ext e2 (by rw[a5,b5]))
theorem vo{K:PySem.W.Frag}{H:Hp}{n:Nat}{v:V}{t:T3}(h:ae K H n v (tH t)):∃a,v=.ref a/\ao K H a [.int t.1,.int t.2.1,.int t.2.2]:=by
 cases n with
 |zero=>cases h
 |succ n =>
  obtain⟨a,xs,rfl,h1,h2,h3⟩:=vZ h
  match xs,h2 with
  |[x,y,z],_ =>
   obtain rfl:=ni (h3 0 x _ rfl rfl);obtain rfl:=ni (h3 1 y _ rfl rfl);obtain rfl:=ni (h3 2 z _ rfl rfl);exact⟨a,rfl,h1⟩
def Km(t:T3):List (Tk×Int):=[([t.1,t.2.1],t.2.2),([t.2.1,t.1],t.2.2)]
def dU(ts:List T3):List (Tk×Int):=ts.flatMap Km
structure AD(ts:List T3):Prop where
 lt:∀t∈ts,t.1<t.2.1
 pw:ts.Pairwise λs t=>¬(s.1=t.1/\s.2.1=t.2.1)
theorem bo{ts:List T3}{e:Tk×Int}:e∈dU ts↔∃t∈ts,e=([t.1,t.2.1],t.2.2)\/e=([t.2.1,t.1],t.2.2):=by unfold dU Km;rw[List.mem_flatMap];simp only[List.mem_cons,List.not_mem_nil,or_false]
theorem fS:∀{ts:List T3},AD ts->((dU ts).map (·.1)).Nodup
 |[],_=>List.nodup_nil
 |t::ts,h=>by
  obtain⟨p1,p2⟩:=List.pairwise_cons.mp h.pw;have ih:=fS (ts:=ts) ⟨λs hs=>h.lt s (List.mem_cons_of_mem _ hs),p2⟩;have t0:=h.lt t List.mem_cons_self;have no:∀k,k=[t.1,t.2.1]\/k=[t.2.1,t.1]->k∉(dU ts).map (·.1):=λk hk hm=>by obtain⟨e,he,rfl⟩:=List.mem_map.mp hm;obtain⟨s,hs,z⟩:=bo.mp he;have s0:=h.lt s (List.mem_cons_of_mem _ hs);have:=p1 s hs;rcases z with rfl|rfl<;>rcases hk with hk|hk<;>simp only[List.cons.injEq,and_true]at hk<;>lia
  show(([t.1,t.2.1]::[t.2.1,t.1]::(dU ts).map (·.1))).Nodup;refine List.nodup_cons.mpr ⟨λz=>?_,List.nodup_cons.mpr ⟨no _ (.inr rfl),ih⟩⟩;rcases List.mem_cons.mp z with z|z
  ·simp only[List.cons.injEq,and_true]at z;lia
  exact no _ (.inl rfl) z
theorem BG(a b:List T3):dU (a++b)=dU a++dU b:=by unfold dU;rw[List.flatMap_append]
theorem vp(ts:List T3):(dU ts).length=2*ts.length:=by
 induction ts with
 |nil=>rfl
 |cons t ts ih =>
  show(Km t++dU ts).length=_;rw[List.length_append,ih,List.length_cons];show 2+_=_;lia
structure n5(K:PySem.W.Frag)(H:Hp)(td:Addr)(L:List (Tk×Int))(xs:TX):Prop where
 d:H td=some (gG td xs)
 k:∀p∈xs,cG K H p.2.1 p.1
 m:xs.map (λp=>(p.1,p.2.2))=L.map λe=>(e.1,V.int e.2)
theorem n5.same{K:PySem.W.Frag}{H H':Hp}{td:Addr}{L:List (Tk×Int)}{xs:TX}(h:n5 K H td L xs)(s:aH H H'):n5 K H' td L xs:=⟨s _ _ h.d,λp hp=>(h.k p hp).same s,h.m⟩
def gn(K:PySem.W.Frag)(C:Addr):Sp:=λvs H Q _=>∃(x d:Addr)(ms:Ms),vs=[.ref x]/\jq K C H x d ms/\ms.length<=12/\ny ms/\∀(td:Addr)(H':Hp)(ts:List T3)(xs:TX),aH H H'->H td=none->n5 K H' td (dU ts) xs->(∀t,t∈ts↔cH ms t)->AD ts->ts.length<=60->Q (.ref td) H'
theorem cZ:aQ ["chart","lengths","one","other","length"] ["chart"] (aG eY):=⟨rfl,rfl,rfl,by decide +kernel,rfl,by decide +kernel,by decide +kernel⟩
set_option maxHeartbeats 2000000 in
theorem tJ{fw:FuncData}(F:aK K mg "lengths_of" eY)(T:Txt K mg t)(vq:dQ P w K mg base (qT P w) 2 t.nc fw ["self"] (yL K t.Map))(vw:Binds K fw ["self"] []):Def P w K mg base 3 "lengths_of" ["chart"] (gn K t.Map):=by
 refine F.def cZ (λ_ _ _ _ _ _ us hl=>match us,hl with|[_],_=>rfl) (λvs H Q E h=>?_) (λf bU A outer s H vs Q E hr h=>?_)
 ·obtain⟨x,d,ms,rfl,_⟩:=h;rfl
 obtain⟨x,d,ms,rfl,hM,hl,aq,q⟩:=h;refine⟨_,aD (aT (i:=1) cZ.nd rfl (Or.inl rfl) A3)
  (aD (PS.wU (bL PassesOwn.never rfl (bF K (wq (pv 0) T.sm T.EF (vq.mono (by decide)) hr vw .nil au)) (ju rfl (aa (aJ (i:=2) cZ.nd rfl (Or.inl rfl)) (aa (aJ (i:=3) cZ.nd rfl (Or.inl rfl)) (aa (aJ (i:=4) cZ.nd rfl (Or.inl rfl)) eU))))
   (aD (vM K (c6 hr) (pv 1) (aw (aA (pv 2) (aA (pv 3) aC))) (pv 4) (by rfl))
   (aF (vM K (c6 hr) (pv 1) (aw (aA (pv 3) (aA (pv 2) aC))) (pv 4) (by rfl))))))
  (aF (aS (pv 1)))),?_⟩
 have hsz:(2000:Nat)<=sizeLine:=by decide
 refine λtd Gd=>?_;have s1:=(aH.refl H).new (o:=gG td []) Gd;have e1:(upd H td (gG td [])) td=some (gG td []):=aB;generalize upd H td (gG td [])=H1 at s1 e1 ⊢;obtain⟨dx,hx⟩:=hM.o;refine⟨_,rfl,x,dx,_,rfl,s1 _ _ hx,rfl,x,d,ms,rfl,hM.same s1,hl,aq,λr H2 ts s2 nr w2 m2 p2 tl=>?_⟩;have Pt:∀t∈ts,t.1<t.2.1:=λt ht=>((m2 t).mp ht).1;have wY:AD ts:=⟨Pt,p2.imp_of_mem λ{s t} hs ht h e=>by have:=pf hM.nd aq ((m2 s).mp hs) ((m2 t).mp ht) e.1 e.2;rw[this]at h;exact List.lt_irrefl _ h⟩
 have kn:=fS wY;obtain⟨zs,z1,z2,z3⟩:=w2;have S2:=s1.trans s2;have TU:r≠td:=λz=>by rw[z,e1]at nr;cases nr
 let I:Nat->_->_->Prop:=λi σ H'=>∃(xs:TX)(v2 v3 v4:Option V),σ=[some (.ref x),some (.ref td),v2,v3,v4]/\aH H H'/\H' r=some (.lst (zs.map (·.1)))/\tI K H' zs/\n5 K H' td (dU (ts.take i)) xs
 refine⟨r,rfl,⟨_,ag.of z1⟩,dy (K:=K) (a:=r) (xs:=zs.map (·.1)) I ⟨[],none,none,none,rfl,S2,z1,z2,s2 _ _ e1,λp hp=>absurd hp List.not_mem_nil,rfl⟩ (λi σ H' _ ⟨_,_,_,_,_,_,e,_⟩=>ag.of e) ?_ ?_⟩
 ·rintro i y σ H3 hi ⟨xs,v2,v3,v4,rfl,s3,e3,t3,l3⟩;rw[List.getElem?_map]at hi;cases ez:zs[i]? with
  |none=>rw[ez]at hi;cases hi
  |some z =>
   rw[ez]at hi;obtain rfl:z.1=y:=Option.some.inj hi;have et:ts[i]?=some z.2:=(by rw[<-z3,List.getElem?_map,ez];rfl);obtain⟨za,ea,g1⟩:=vo (t3 z (List.mem_of_getElem? ez));refine⟨za,_,ea,g1,rfl,_,_,rfl,_,_,rfl,_,_,rfl,rfl,?_⟩;have i1:i<ts.length:=(List.getElem?_eq_some_iff.mp et).1;have xl:xs.length<=200:=by have:=congrArg List.length l3.m;rw[List.length_map,List.length_map,vp,List.length_take]at this;lia
   have one:∀{H4:Hp}{xs:TX}{L R:List (Tk×Int)}{a b l:Int}{k:Addr},H4 k=none->dU ts=L++([a,b],l)::R->aH H H4->H4 r=some (.lst (zs.map (·.1)))->tI K H4 zs->n5 K H4 td L xs->xs.length<=300->cG K (upd H4 k (.tup [.int a,.int b])) k [a,b]/\TD K (upd H4 k (.tup [.int a,.int b])) td xs/\(upd H4 k (.tup [.int a,.int b])) td=some (gG td xs)/\aH H (upd (upd H4 k (.tup [.int a,.int b])) td (gG td (i5 xs [a,b] k (.int l))))/\(upd (upd H4 k (.tup [.int a,.int b])) td (gG td (i5 xs [a,b] k (.int l)))) r=some (.lst (zs.map (·.1)))/\tI K (upd (upd H4 k (.tup [.int a,.int b])) td (gG td (i5 xs [a,b] k (.int l)))) zs/\n5 K (upd (upd H4 k (.tup [.int a,.int b])) td (gG td (i5 xs [a,b] k (.int l)))) td (L++[([a,b],l)]) (i5 xs [a,b] k (.int l))/\(i5 xs [a,b] k (.int l)).length<=xs.length+1:=by
    intro H4 xs L R a b l k hk hL s4 r4 t4 l4 xl;have s5:=(aH.refl H4).new (o:=.tup [.int a,.int b]) hk;have t5:cG K (upd H4 k (.tup [.int a,.int b])) k [a,b]:=⟨.inl ⟨_,_,rfl,ao.of aB⟩⟩;generalize upd H4 k (.tup [.int a,.int b])=H5 at s5 t5 ⊢;have J4:[a,b]∉xs.map (·.1):=by rw[BF l4.m];have:=kn;rw[hL,List.map_append]at this;intro qF;exact(List.nodup_append.mp this).2.2 _ qF _ (List.mem_map.mpr ⟨([a,b],l),List.mem_cons_self,rfl⟩) rfl
    have d5:=s5 _ _ l4.d;rw[rJ J4];have kp:=bj (o:=gG td (xs++[([a,b],k,V.int l)])) (pZ.J3 d5);have k5:∀q∈xs,cG K H5 q.2.1 q.1:=λq hq=>(l4.k q hq).same s5;refine⟨t5,⟨.inl d5,k5⟩,d5,(s4.trans s5).put Gd,by rw[aI TU];exact s5 _ _ r4,λz hz=>((t4 z hz).same s5).kept kp (yJ _),⟨aB,λq hq=>?_,?_⟩,by rw[List.length_append];exact Nat.le_refl _⟩
    ·rcases List.mem_append.mp hq with h|h
     ·exact(k5 q h).kept kp
     rw[List.mem_singleton.mp h];exact t5.kept kp
    rw[List.map_append,l4.m,List.map_append];rfl
   obtain⟨R,hR⟩:∃R,dU ts=dU (ts.take i)++(Km z.2++R):=by obtain⟨j1,j2⟩:=List.getElem?_eq_some_iff.mp et;refine⟨dU (ts.drop (i+1)),?_⟩;have e1:ts=ts.take i++z.2::ts.drop (i+1):=(by rw[<-j2,List.getElem_cons_drop,List.take_append_drop]);have:dU (ts.take i++z.2::ts.drop (i+1))=dU (ts.take i)++(Km z.2++dU (ts.drop (i+1))):=(by rw[BG];rfl);rw[<-this,<-e1]
   refine⟨_,rfl,_,rfl,_,rfl,_,rfl,zz2,λk1 TV=>?_⟩;obtain⟨a1,a2,a3,a4,a5,a6,a7,a8⟩:=one TV hR s3 e3 t3 l3 (by lia);refine⟨td,k1,xs,_,rfl,rfl,a2,a3,a1,by lia,?_⟩;generalize upd (upd H3 k1 (.tup [.int z.2.1,.int z.2.2.1])) td (gG td (i5 xs [z.2.1,z.2.2.1] k1 (.int z.2.2.2)))=H4 at a4 a5 a6 a7;generalize i5 xs [z.2.1,z.2.2.1] k1 (.int z.2.2.2)=TY at a7 a8;refine⟨_,rfl,_,rfl,_,rfl,_,rfl,zz2,λk2 TZ=>?_⟩;obtain⟨b1,b2,b3,b4,b5,b6,b7,b8⟩:=one TZ (L:=dU (ts.take i)++[([z.2.1,z.2.2.1],z.2.2.2)]) (R:=R) (a:=z.2.2.1) (b:=z.2.1) (l:=z.2.2.2) (by rw[hR];unfold Km;simp) a4 a5 a6 a7 (by lia);refine⟨td,k2,TY,_,rfl,rfl,b2,b3,b1,by lia,?_⟩;rw[List.append_assoc]at b7;exact⟨_,_,_,_,rfl,b4,b5,b6,by rw[take_succ et,BG];exact b7⟩
 rintro σ H3 ⟨xs,v2,v3,v4,rfl,s3,e3,t3,l3⟩;have:(zs.map (·.1)).length=ts.length:=by rw[<-z3,List.length_map,List.length_map]
 rw[this,List.take_length]at l3;exact⟨_,rfl,q td H3 ts xs s3 Gd l3 m2 wY tl⟩
abbrev Hv:=List (Int×Int)
def i9(p:Int×Int):Key×V:=(Sum.inl p.1,.int p.2)
def lk(hv:Hv)(h:Int):Option Int:=(hv.find? λp=>decide (p.1=h)).map (·.2)
def n6(hv:Hv)(h n:Int):Hv:=if h∈hv.map (·.1)then hv.map (λp=>if p.1=h then(h,n)else p)else hv++[(h,n)]
theorem lP(hv:Hv)(h:Int):eW (hv.map i9) (Sum.inl h)=(lk hv h).map V.int:=by
 unfold eW lk;rw[List.find?_map,Option.map_map,Option.map_map];have e:((λkv:Key×V=>decide (kv.1=Sum.inl h))∘i9)=λp:Int×Int=>decide (p.1=h):=by
  funext m
  simp[i9]
 rw[e];rfl
theorem Hw(hv:Hv)(h n:Int):putK (hv.map i9) (Sum.inl h) (.int n)=(n6 hv h n).map i9:=by
 unfold putK n6;have e:((hv.map i9).any λkv=>decide (kv.1=Sum.inl h))=decide (h∈hv.map (·.1)):=by
  rw[List.any_map,Bool.eq_iff_iff,List.any_eq_true,decide_eq_true_iff,List.mem_map];constructor
  ·rintro⟨m,hm,h⟩;exact⟨m,hm,by simpa[i9]using h⟩
  rintro⟨m,hm,h⟩;exact⟨m,hm,by simp[i9,h]⟩
 rw[e];by_cases c:h∈hv.map (·.1)
 ·rw[if_pos (by simpa using c),if_pos c,List.map_map,List.map_map];refine List.map_congr_left λm _=>?_;show(if(i9 m).1=Sum.inl h then((i9 m).1,V.int n)else i9 m)=i9 (if m.1=h then(h,n)else m);by_cases c:m.1=h
  ·rw[if_pos c,if_pos (by simp[i9,c])];simp[i9,c]
  rw[if_neg c,if_neg (by simp[i9,c])]
 rw[if_neg (by simpa using c),if_neg c,List.map_append];rfl
theorem cm{hv:Hv}{h:Int}:lk hv h=none↔h∉hv.map (·.1):=by
 unfold lk;rw[Option.map_eq_none_iff,List.find?_eq_none];constructor
 ·intro a b;obtain⟨p,hp,e⟩:=List.mem_map.mp b;exact a p hp (by simpa using e)
 intro a p hp e;exact a (List.mem_map.mpr ⟨p,hp,by simpa using e⟩)
theorem gp(hv:Hv)(h n x:Int):lk (n6 hv h n) x=if x=h then some n else lk hv x:=by
 unfold n6;by_cases c:h∈hv.map (·.1)
 ·rw[if_pos c];by_cases e:x=h
  ·subst e;rw[if_pos rfl];have key:∀l:Hv,x∈l.map (·.1)->lk (l.map λp=>if p.1=x then(x,n)else p) x=some n:=by
    intro l
    induction l with
    |nil=>intro z;cases z
    |cons p l ih =>
     intro z;unfold lk;rw[List.map_cons,List.find?_cons];by_cases d:p.1=x
     ·simp[d]
     simp only[d,if_false,decide_false];have:=ih ((List.mem_cons.mp z).resolve_left λe=>d e.symm);unfold lk at this;exact this
   exact key hv c
  rw[if_neg e];unfold lk
  congr 1
  clear c
  induction hv with
  |nil=>rfl
  |cons p l ih =>
   rw[List.map_cons,List.find?_cons,List.find?_cons,ih];by_cases d:p.1=h
   ·have h1:¬h=x:=λz=>e z.symm;simp[d,h1]
   simp[d]
 rw[if_neg c];unfold lk;rw[List.find?_append];by_cases e:x=h
 ·subst e;have:hv.find? (λp=>decide (p.1=x))=none:=by
   have:=cm.mpr c;unfold lk at this
   simpa using this
  rw[this];simp
 have:¬h=x:=λz=>e z.symm;simp[e,this]
theorem yM(hv:Hv)(h n:Int):(n6 hv h n).map (·.1)=if h∈hv.map (·.1)then hv.map (·.1)else hv.map (·.1)++[h]:=by
 unfold n6;by_cases c:h∈hv.map (·.1)
 ·rw[if_pos c,if_pos c,List.map_map];refine List.map_congr_left λm _=>?_;show(if m.1=h then(h,n)else m).1=m.1;split
  ·rename_i c;exact c.symm
  rfl
 rw[if_neg c,if_neg c,List.map_append];rfl
theorem CK{hv:Hv}(nd:(hv.map (·.1)).Nodup)(h n:Int):((n6 hv h n).map (·.1)).Nodup:=by
 rw[yM];split
 ·exact nd
 rename_i c;refine List.nodup_append.mpr ⟨nd,by simp,λa ha b hb=>?_⟩;rw[List.mem_singleton.mp hb];rintro rfl;exact c ha
theorem Gf(hv:Hv)(h n:Int):(n6 hv h n).length=if h∈hv.map (·.1)then hv.length else hv.length+1:=by
 have:=congrArg List.length (yM hv h n);rw[List.length_map]at this;rw[this];split
 ·rw[List.length_map]
 rw[List.length_append,List.length_map];rfl
structure Ht(L:List (Tk×Int))(goal:Int)(hv:Hv):Prop where
 nd:(hv.map (·.1)).Nodup
 g:lk hv goal=some 0
 pos:∀x n,lk hv x=some n->0<=n
 par:∀x n,lk hv x=some n->x≠goal->∃e l m,([x,e],l)∈L/\lk hv e=some m/\m+l<=n
 bd:∀x n,lk hv x=some n->n<=1000*((hv.length:Int)-1)
theorem Ht.start(L:List (Tk×Int))(goal:Int):Ht L goal [(goal,0)]:=by
 have one:∀x n,lk [(goal,0)] x=some n->x=goal/\n=0:=λx n h=>by
  unfold lk at h;by_cases c:goal=x
  ·subst c;simp at h;exact⟨rfl,h.symm⟩
  simp[c]at h
 refine⟨by simp,by simp[lk],λx n h=>?_,λx n h ne=>absurd (one x n h).1 ne,λx n h=>?_⟩
 ·rw[(one x n h).2];exact Int.le_refl _
 rw[(one x n h).2];show(0:Int)<=1000*(((1:Nat):Int)-1);decide
def EY(hv:Hv)(b k:Int):Prop:=lk hv b=none\/∃n,lk hv b=some n/\k<n
theorem Ht.put{L:List (Tk×Int)}{goal:Int}{hv:Hv}(h:Ht L goal hv){b e l m:Int}(he:([b,e],l)∈L)(l1:1<=l)(l2:l<=1000)(hm:lk hv e=some m)(f:EY hv b (m+l)):Ht L goal (n6 hv b (m+l)):=by
 have m0:=h.pos _ _ hm;have bg:goal≠b:=λz=>by
  rcases f with f|⟨n,f,f2⟩
  ·rw[<-z,h.g]at f;cases f
  rw[<-z,h.g]at f;cases f;lia
 have be:e≠b:=λz=>by
  rcases f with f|⟨n,f,f2⟩
  ·rw[<-z,hm]at f;cases f
  rw[<-z,hm]at f;cases f;lia
 have len:(hv.length:Int)<=(n6 hv b (m+l)).length/\(lk hv b=none->((n6 hv b (m+l)).length:Int)=hv.length+1):=by
  rw[Gf];constructor
  ·split<;>lia
  intro z;rw[if_neg (cm.mp z)];lia
 refine⟨CK h.nd _ _,by rw[gp,if_neg bg];exact h.g,λx n hx=>?_,λx n hx ne=>?_,λx n hx=>?_⟩
 ·rw[gp]at hx;split at hx
  ·cases hx;lia
  exact h.pos _ _ hx
 ·rw[gp]at hx;split at hx
  ·rename_i z;cases hx;rw[z];exact⟨e,l,m,he,by rw[gp,if_neg be];exact hm,Int.le_refl _⟩
  obtain⟨e',l',m',h1,h2,h3⟩:=h.par x n hx ne;by_cases c:e'=b
  ·rcases f with f|⟨n',f,f2⟩
   ·rw[c,f]at h2;cases h2
   rw[c,f]at h2;cases h2;exact⟨e',l',m+l,h1,by rw[gp,if_pos c],by lia⟩
  exact⟨e',l',m',h1,by rw[gp,if_neg c];exact h2,h3⟩
 rw[gp]at hx;split at hx
 ·cases hx;rcases f with f|⟨n',f,f2⟩
  ·have:=h.bd _ _ hm;have:=len.2 f;lia
  have:=h.bd _ _ f;lia
 have:=h.bd _ _ hx;lia
theorem gW:∀(r fs:List Int),fs.Nodup->(∀x∈fs,x∈r)->fs.length<=r.length
 |[],fs,_,h=>by
  cases fs with
  |nil=>exact Nat.le_refl _
  |cons a b=>exact absurd (h a List.mem_cons_self) List.not_mem_nil
 |a::r,fs,nd,h=>by
  have ih:=gW r (fs.erase a) (nd.erase a) λx hx=>by have Lx:=(nd.mem_erase_iff).mp hx;exact(List.mem_cons.mp (h x Lx.2)).resolve_left Lx.1
  rw[List.length_cons];by_cases ha:a∈fs
  ·rw[List.length_erase_of_mem ha]at ih;lia
  rw[List.erase_of_not_mem ha]at ih;lia
theorem Ht.size{L:List (Tk×Int)}{goal:Int}{hv:Hv}(h:Ht L goal hv):hv.length<=L.length+1:=by
 have:=gW (goal::L.map λe=>e.1.headD 0) (hv.map (·.1)) h.nd λx hx=>by
  cases e:lk hv x with
  |none=>exact absurd hx (cm.mp e)
  |some n =>
   by_cases c:x=goal
   ·rw[c];exact List.mem_cons_self
   obtain⟨e',l',m',h1,_⟩:=h.par x n e c;exact List.mem_cons_of_mem _ (List.mem_map.mpr ⟨_,h1,rfl⟩)
 rw[List.length_map,List.length_cons,List.length_map]at this;exact this
theorem EZ{α:Type}(f g:α->Nat):∀l:List α,(∀x∈l,f x<=g x)->(l.map f).sum<=(l.map g).sum
 |[],_=>Nat.le_refl _
 |x::l,h=>by have:=EZ f g l λy hy=>h y (List.mem_cons_of_mem _ hy);have:=h x List.mem_cons_self;simp only[List.map_cons,List.sum_cons];lia
theorem Ea{α:Type}(f g:α->Nat):∀l:List α,(∀x∈l,f x<=g x)->(∃x∈l,f x<g x)->(l.map f).sum<(l.map g).sum
 |[],_,⟨_,h,_⟩=>absurd h List.not_mem_nil
 |x::l,h,⟨y,hy,hl⟩=>by
  have h0:=h x List.mem_cons_self;have h1:∀x∈l,f x<=g x:=λy hy=>h y (List.mem_cons_of_mem _ hy);simp only[List.map_cons,List.sum_cons];rcases List.mem_cons.mp hy with rfl|hy
  ·have:=EZ f g l h1;lia
  have:=Ea f g l h1 ⟨y,hy,hl⟩;lia
def mu(L:List (Tk×Int))(hv:Hv):Nat:=(L.map λe=>((lk hv (e.1.headD 0)).getD (1000*L.length+1)).toNat).sum
theorem Ht.Mf{L:List (Tk×Int)}{goal:Int}{hv:Hv}(h:Ht L goal hv){b e l m:Int}(he:([b,e],l)∈L)(l1:1<=l)(l2:l<=1000)(hm:lk hv e=some m)(f:EY hv b (m+l)):mu L (n6 hv b (m+l))<mu L hv:=by
 have h':=h.put he l1 l2 hm f;have m0:=h.pos _ _ hm;have key:(m+l).toNat<((lk hv b).getD (1000*L.length+1)).toNat:=by
  rcases f with f|⟨n,f,f2⟩
  ·have:=h'.bd b (m+l) (by rw[gp,if_pos rfl]);have:=h'.size;rw[f];show(m+l).toNat<(1000*(L.length:Int)+1).toNat;lia
  rw[f];show(m+l).toNat<n.toNat;lia
 unfold mu;refine Ea _ _ L (λx _=>?_) ⟨_,he,?_⟩
 ·rw[gp];split
  ·rename_i z;rw[z];exact Nat.le_of_lt key
  exact Nat.le_refl _
 rw[gp];show((if b=b then some (m+l)else lk hv b).getD _).toNat<((lk hv b).getD _).toNat;rw[if_pos rfl];exact key
def CL(hv:Hv)(e:Tk×Int):Prop:=∀b x,e.1=[b,x]->∀m,lk hv x=some m->∃n,lk hv b=some n/\n<=m+e.2
theorem Eb{X:Cx}{pos:Pos}{k1 v1:Expr}{t1 u1:TE}(h1:PE X k1 t1)(g1:PE X v1 u1):PE X (.Dict [some k1] [v1] pos) (Hb [(t1,u1)]) :=
 Fu (DV h1 g1 Ft) rfl rfl (List.cons_ne_nil _ _) (show 1<=15 by decide)
def Sx(td:Addr)(H H':Hp):Prop:=∀b o,b≠td->H b=some o->H' b=some o
def ue(L:List (Tk×Int)):Prop:=(L.map (·.1)).Nodup/\∀e∈L,∃a b,e.1=[a,b]/\1<=e.2/\e.2<=1000
def gq(K:PySem.W.Frag):Sp:=λvs H Q _=>∃(td:Addr)(goal:Int)(L:List (Tk×Int))(xs:TX),vs=[.ref td,.int goal]/\n5 K H td L xs/\ue L/\L.length<=1000/\∀(hd:Addr)(H':Hp)(hv:Hv),aH H H'->H hd=none->H' hd=some (.dK (hv.map i9))->Ht L goal hv->(∀e∈L,CL hv e)->Q (.ref hd) H'
theorem bT:aQ ["lengths","goal","heights","falling","begin","end","height"] ["lengths","goal"] (aG eZ):=⟨rfl,rfl,rfl,by decide +kernel,rfl,by decide +kernel,by decide +kernel⟩
set_option maxHeartbeats 2000000 in
theorem tK(F:aK K mg "heights_to" eZ)(T:Txt K mg t):Def P w K mg base 1 "heights_to" ["lengths","goal"] (gq K):=by
 refine F.def bT (λ_ _ _ _ _ _ us hl=>match us,hl with|[_,_],_=>rfl) (λvs H Q E h=>?_) (λf bU A outer s H vs Q E hr h=>?_)
 ·obtain⟨td,goal,L,xs,rfl,_⟩:=h;rfl
 obtain⟨td,goal,L,xs,rfl,hL,Cr,ll,q⟩:=h;refine⟨_,aD (aT (i:=2) bT.nd rfl (Or.inl rfl) (Eb (pv 1) aE))
  (aD (aT (i:=3) bT.nd rfl (Or.inl rfl) cy)
  (aD (PS.wU (wj PassesOwn.never (fL (pv 3))
   (aD (aT (i:=3) bT.nd rfl (Or.inl rfl) cy)
   (aF (uT (bL PassesOwn.never rfl (iO (pv 0)) (ko K (i:=4) (j:=5) rfl bT.nd rfl rfl (Or.inl rfl) (Or.inl rfl))
    (aF (ay (oQ (vF (br hr) (pv 5) (pv 2)) (by rfl))
     (aD (aT (i:=6) bT.nd rfl (Or.inl rfl) (ah bh (cc (br hr) (pv 2) (pv 5) (λ_ _=>rfl)) (kx K (c6 hr) (pv 0) (aw (aA (pv 4) (aA (pv 5) aC))) (λ_ _=>rfl))))
     (aF (ay (PW.pt (mz (oQ (og (br hr) (pv 4) (pv 2)) (by rfl)) (lj (aO pL (pv 6) (cc (br hr) (pv 2) (pv 4) (λ_ _=>rfl)) (aU _)))))
      (aD (kq (br hr) (pv 2) (pv 4) (pv 6) (by rfl))
      (aF (aT (i:=3) bT.nd rfl (Or.inl rfl) cy)))
      (aZ))))
     (aZ)))))))))
  (aF (aS (pv 2))))),?_⟩
 have hsz:(20000:Nat)<=sizeLine:=by decide
 have NO:∀{hd:Addr},H hd=none->hd≠td:=λz e=>by rw[e,hL.d]at z;cases z
 have J6:xs.length=L.length:=by
  have:=congrArg List.length hL.m
  rwa [List.length_map,List.length_map]at this
 refine λhd Mg=>⟨_,rfl,aB,[(Sum.inl goal,.int 0)],rfl,by show 1<=15;decide,?_⟩;have s1:aH H (upd (upd H hd (.dK [])) hd (.dK (j4 [] [(Sum.inl goal,V.int 0)]))):=((aH.refl H).new Mg).put Mg;have e1:(upd (upd H hd (.dK [])) hd (.dK (j4 [] [(Sum.inl goal,V.int 0)]))) hd=some (.dK ([(goal,(0:Int))].map i9)):=aB;generalize upd (upd H hd (.dK [])) hd (.dK (j4 [] [(Sum.inl goal,V.int 0)]))=H1 at s1 e1 ⊢;have J7:=NO Mg
 let W:Nat->_->_->Prop:=λm σ H'=>∃(hv:Hv)(f:Bool)(v4 v5 v6:Option V),σ=[some (.ref td),some (.int goal),some (.ref hd),some (.bl f),v4,v5,v6]/\aH H H'/\H' hd=some (.dK (hv.map i9))/\Ht L goal hv/\((f=true/\m=mu L hv+1)\/(f=false/\m=0/\∀e∈L,CL hv e))
 refine⟨W,⟨_,[(goal,0)],true,none,none,none,rfl,s1,e1,Ht.start L goal,.inl ⟨rfl,rfl⟩⟩,?_⟩;rintro m σ H2 ⟨hv,f,v4,v5,v6,rfl,s2,e2,h2,hf⟩;refine⟨_,rfl,f,rfl,?_⟩;rcases hf.symm with⟨rfl,rfl,cl⟩|⟨rfl,rfl⟩
 ·refine d0 ?_;exact⟨_,rfl,q hd H2 hv s2 Mg e2 h2 cl⟩
 refine eV ⟨λσ' H'=>∃m',m'<mu L hv+1/\W m' σ' H',λσ' H' z=>z,?_⟩;have Pu:=hL.same s2;refine⟨_,rfl,td,xs,rfl,Pu.d,λu ou=>?_⟩;have kz:=bj (o:=u) (pZ.J3 Pu.d);have e3:(upd H2 td u) hd=some (.dK (hv.map i9)):=by rw[aI J7];exact e2
 have d3:(upd H2 td u) td=some u:=aB;have k3:∀p∈xs,cG K (upd H2 td u) p.2.1 p.1:=λp hp=>(Pu.k p hp).kept kz;have x3:Sx td H (upd H2 td u):=λb o nb e=>by rw[aI nb];exact s2 b o e
 generalize upd H2 td u=H3 at e3 d3 k3 x3 ⊢
 let J:Nat->_->_->Prop:=λi σ H'=>∃(jv:Hv)(f:Bool)(v4 v5 v6:Option V),σ=[some (.ref td),some (.int goal),some (.ref hd),some (.bl f),v4,v5,v6]/\Sx td H H'/\H' td=some u/\H' hd=some (.dK (jv.map i9))/\(∀p∈xs,cG K H' p.2.1 p.1)/\Ht L goal jv/\((f=true/\mu L jv<mu L hv)\/(f=false/\jv=hv/\∀e∈L.take i,CL hv e))
 refine mF (d:=td) (u:=u) (xs:=xs) J ⟨hv,false,_,_,_,rfl,x3,d3,e3,k3,h2,.inr ⟨rfl,rfl,λe he=>absurd he (by simp)⟩⟩ (λi σ H' _ ⟨_,_,_,_,_,_,_,e,_⟩=>e) ?_ ?_
 ·rintro i p σ H4 hi ⟨jv,f,v4,v5,v6,rfl,x4,d4,e4,k4,h4,hf⟩;obtain⟨ed,ee,Ge,NM⟩:∃e,L[i]?=some e/\p.1=e.1/\p.2.2=.int e.2:=by
   have:(xs.map λp=>(p.1,p.2.2))[i]?=some (p.1,p.2.2):=(by rw[List.getElem?_map,hi];rfl);rw[hL.m,List.getElem?_map]at this;cases ee:L[i]? with
   |none=>rw[ee]at this;cases this
   |some e =>
    rw[ee]at this;obtain⟨z1,z2⟩:=Prod.mk.inj (Option.some.inj this);exact⟨e,rfl,z1.symm,z2.symm⟩
  have CM:=List.mem_of_getElem? ee;obtain⟨b,x,hk,l1,l2⟩:=Cr.2 ed CM;obtain⟨kk,l⟩:=ed;obtain rfl:kk=[b,x]:=hk;have pk:=k4 p (List.mem_of_getElem? hi);rw[Ge]at pk;rcases pk.ex.symm with⟨_,_,_,_,_,z,_⟩|⟨_,_,z,g1⟩
  ·simp at z
  simp only[List.cons.injEq,and_true]at z;obtain⟨rfl,rfl⟩:=z;refine⟨p.2.1,_,rfl,g1,rfl,_,_,rfl,_,_,rfl,rfl,?_⟩;have Qr:=h4.size;have ic:∀{v6:Option V}{H5:Hp},Sx td H H5->H5 td=some u->H5 hd=some (.dK (jv.map i9))->(∀p∈xs,cG K H5 p.2.1 p.1)->CL jv ([b,x],l)->J (i+1) [some (.ref td),some (.int goal),some (.ref hd),some (.bl f),some (.int b),some (.int x),v6] H5:=λx5 d5 e5 k5 cl=>by
   refine⟨jv,f,_,_,_,rfl,x5,d5,e5,k5,h4,?_⟩;rcases hf with hf|⟨f1,f2,f3⟩
   ·exact .inl hf
   refine .inr ⟨f1,f2,λe he=>?_⟩;rw[take_succ ee]at he;rcases List.mem_append.mp he with he|he
   ·exact f3 e he
   rw[List.mem_singleton.mp he,<-f2];exact cl
  refine⟨_,rfl,_,rfl,hd,_,rfl,cQ.k (k:=Sum.inl x) e4,?_⟩;rw[lP];cases em:lk jv x with
  |none =>
   refine⟨false,rfl,d0 ?_⟩;refine ic x4 d4 e4 k4 λb' x' z m' Aq=>?_;simp only[List.cons.injEq,and_true]at z;obtain⟨rfl,rfl⟩:=z;rw[em]at Aq;cases Aq
  |some m =>
   refine⟨true,rfl,eV ?_⟩;have gv:cQ H4 hd (.int x) (some (.int m)):=by have:=cQ.k (k:=Sum.inl x) e4;rw[lP,em]at this;exact this
   refine⟨_,rfl,_,rfl,hd,.int m,rfl,gv,_,rfl,_,rfl,_,rfl,zz2,λkt J5=>?_⟩;have s5:=(aH.refl H4).new (o:=.tup [.int b,.int x]) J5;have tk:cG K (upd H4 kt (.tup [.int b,.int x])) kt [b,x]:=⟨.inl ⟨_,_,rfl,ao.of aB⟩⟩;generalize upd H4 kt (.tup [.int b,.int x])=H5 at s5 tk ⊢;have k5:∀p∈xs,cG K H5 p.2.1 p.1:=λp hp=>(k4 p hp).same s5;have e5:=s5 _ _ e4;have d5:=s5 _ _ d4;have x5:Sx td H H5:=λb o nb e=>s5 b o (x4 b o nb e);have va:gk xs [b,x]=some (.int l):=by rw[o5 hL.m,(cL Cr.1).mpr CM];rfl
   refine⟨td,kt,xs,_,_,rfl,rfl,⟨.inr ⟨u,d5,ou⟩,k5⟩,tk,va,_,_,rfl,rfl,?_⟩;have Mh:EY jv b (m+l)->J (i+1) [some (.ref td),some (.int goal),some (.ref hd),some (.bl true),some (.int b),some (.int x),some (.int (m+l))] (upd H5 hd (.dK (putK (jv.map i9) (Sum.inl b) (.int (m+l))))):=λfl=>by
    have kp:=bj (o:=.dK (putK (jv.map i9) (Sum.inl b) (.int (m+l)))) (pZ.dk e5);refine⟨n6 jv b (m+l),true,_,_,_,rfl,λb o nb e=>?_,by rw[aI (Ne.symm J7)];exact d5,by rw[aB,Hw],λp hp=>(k5 p hp).kept kp,h4.put CM l1 l2 em fl,.inl ⟨rfl,?_⟩⟩
    ·have:b≠hd:=λz=>(by rw[z,Mg]at e;cases e);rw[aI this];exact x5 b o nb e
    have:=h4.Mf CM l1 l2 em fl;rcases hf with⟨_,hf⟩|⟨_,rfl,_⟩
    ·lia
    exact this
   refine⟨_,rfl,_,rfl,hd,_,rfl,cQ.k (k:=Sum.inl b) e5,?_⟩;rw[lP];cases eb:lk jv b with
   |none =>
    refine⟨true,rfl,eV (eV ?_)⟩;refine⟨_,rfl,_,rfl,_,rfl,hd,_,rfl,.inl ⟨_,Sum.inl b,e5,rfl,by rw[List.length_map];lia,rfl⟩,?_⟩;exact Mh (.inl eb)
   |some n =>
    have Pw:cQ H5 hd (.int b) (some (.int n)):=by have:=cQ.k (k:=Sum.inl b) e5;rw[lP,eb]at this;exact this
    refine⟨false,rfl,d0 ?_⟩;refine⟨_,rfl,_,rfl,_,rfl,hd,.int n,rfl,Pw,_,_,rfl,rfl,_,rfl,?_⟩;by_cases c:m+l<n
    ·refine bw c ?_;refine⟨_,rfl,_,rfl,_,rfl,hd,_,rfl,.inl ⟨_,Sum.inl b,e5,rfl,by rw[List.length_map];lia,rfl⟩,?_⟩;exact Mh (.inr ⟨n,eb,c⟩)
    refine bu c ?_;refine ic x5 d5 e5 k5 λb' x' z m' Aq=>?_;simp only[List.cons.injEq,and_true]at z;obtain⟨rfl,rfl⟩:=z;rw[em]at Aq;cases Aq;exact⟨n,eb,by show n<=m+l;lia⟩
 rintro σ H4 ⟨jv,f,v4,v5,v6,rfl,x4,d4,e4,k4,h4,hf⟩;refine⟨td,xs,u,ou,d4,?_⟩;have s5:aH H (upd H4 td (gG td xs)):=λb o e=>by
  by_cases nb:b=td
  ·rw[nb,aB,<-hL.d,<-nb,e]
  rw[aI nb];exact x4 b o nb e
 have e5:(upd H4 td (gG td xs)) hd=some (.dK (jv.map i9)):=by rw[aI J7];exact e4
 rcases hf with⟨rfl,hf⟩|⟨rfl,rfl,cl⟩
 ·exact⟨mu L jv+1,by lia,jv,true,_,_,_,rfl,s5,e5,h4,.inl ⟨rfl,rfl⟩⟩
 rw[J6,List.take_length]at cl;exact⟨0,by lia,jv,false,_,_,_,rfl,s5,e5,h4,.inr ⟨rfl,rfl,cl⟩⟩
def mI(hv:Hv)(x:Int)(e:Tk×Int):Option Int:=if e.1.headD 0=x/\(lk hv (e.1.getD 1 0)).map (·+e.2)=lk hv x then some (e.1.getD 1 0)else none
structure Fin(L:List (Tk×Int))(goal:Int)(hv:Hv):Prop where
 h:Ht L goal hv
 c:∀e∈L,CL hv e
 ok:ue L
 sy:∀a b l,([a,b],l)∈L->([b,a],l)∈L
theorem Fin.step{L:List (Tk×Int)}{goal:Int}{hv:Hv}(f:Fin L goal hv){x n:Int}(hx:lk hv x=some n)(ne:x≠goal):∃e l m,([x,e],l)∈L/\lk hv e=some m/\m+l=n:=by obtain⟨e,l,m,h1,h2,h3⟩:=f.h.par x n hx ne;obtain⟨n',h4,h5⟩:=f.c _ h1 x e rfl m h2;rw[hx]at h4;cases h4;exact⟨e,l,m,h1,h2,by show m+l=n;have:n<=m+l:=h5;lia⟩
theorem Fin.near{L:List (Tk×Int)}{goal:Int}{hv:Hv}(f:Fin L goal hv){x n e l:Int}(hx:lk hv x=some n)(he:([x,e],l)∈L):∃m,lk hv e=some m:=by obtain⟨m,h4,h5⟩:=f.c _ (f.sy _ _ _ he) e x rfl n hx;exact⟨m,h4⟩
def Hx(L:List (Tk×Int))(hv:Hv)(x e:Int):Prop:=(∃l m,([x,e],l)∈L/\lk hv e=some m/\lk hv x=some (m+l))/\∀e' l' m',([x,e'],l')∈L->lk hv e'=some m'->lk hv x=some (m'+l')->e<=e'
def lQ(K:PySem.W.Frag):Sp:=λvs H Q _=>∃(td hd:Addr)(x n goal:Int)(L:List (Tk×Int))(xs:TX)(hv:Hv),vs=[.ref td,.ref hd,.int x]/\n5 K H td L xs/\H hd=some (.dK (hv.map i9))/\Fin L goal hv/\L.length<=1000/\lk hv x=some n/\x≠goal/\∀(e:Int)(H':Hp),aH H H'->Hx L hv x e->Q (.int e) H'
theorem tL:aQ ["lengths","heights","house"] ["lengths","heights","house"] (aG dD):=⟨rfl,rfl,rfl,by decide +kernel,rfl,by decide +kernel,by decide +kernel⟩
set_option maxHeartbeats 2000000 in
theorem tM(F:aK K mg "next_house" dD)(T:Txt K mg t):Def P w K mg base 1 "next_house" ["lengths","heights","house"] (lQ K):=by
 refine F.def tL (λ_ _ _ _ _ _ us hl=>match us,hl with|[_,_,_],_=>rfl) (λvs H Q E h=>?_) (λf bU A outer s H vs Q E hr h=>?_)
 ·obtain⟨td,hd,x,n,goal,L,xs,hv,rfl,_⟩:=h;rfl
 obtain⟨td,hd,x,n,goal,L,xs,hv,rfl,hL,hH,fin,ll,hx,ne,q⟩:=h;refine⟨_,aF (aS (aX (Bm K) (by rfl) T.MV boot_min (aA (uU (je rfl (Nc:=["begin","end","house","heights","lengths"]) (ix:=[none,none,some 2,some 1,some 0]) (cF (aG dD) ["lengths","heights","house"] rfl rfl (by decide +kernel)) (iO (pv 0)) (λC fp s H=>⟨(ko K (i:=0) (j:=1) rfl (show(["begin","end","house","heights","lengths"]:List Str).Nodup by decide +kernel) rfl rfl (Or.inl rfl) (Or.inl rfl)),(nF (PW.pt (jr (aO dR (pv 0) (pv 2) (aU _)) (ig (aO dR (ah bh (cc (br hr) (pv 3) (pv 1) (λ_ _=>rfl)) (kx K (c6 hr) (pv 4) (aw (aA (pv 0) (aA (pv 1) aC))) (λ_ _=>rfl))) (cc (br hr) (pv 3) (pv 2) (λ_ _=>rfl)) (aU _)))))),(pv 1)⟩))) aC))),?_⟩;have hsz:(20000:Nat)<=sizeLine:=by decide
 have J6:xs.length=L.length:=by
  have:=congrArg List.length hL.m
  rwa [List.length_map,List.length_map]at this
 have J7:hd≠td:=lJ hH hL.d (by intro z;cases z);refine⟨_,rfl,td,xs,rfl,hL.d,λu ou D hD=>?_⟩;have kz:=bj (o:=u) (pZ.J3 hL.d);have d1:(upd H td u) td=some u:=aB;have e1:(upd H td u) hd=some (.dK (hv.map i9)):=by rw[aI J7];exact hH
 have k1:∀p∈xs,cG K (upd H td u) p.2.1 p.1:=λp hp=>(hL.k p hp).kept kz;have x1:∀b o,b≠td->H b=some o->(upd H td u) b=some o:=λb o nb e=>by rw[aI nb];exact e
 generalize upd H td u=H1 at d1 e1 k1 x1 hD ⊢;refine uV (d:=td) (u:=u) (xs:=xs) (λi σ H'=>∃v0 v1:Option V,σ=[v0,v1,some (.int x),some (.ref hd),some (.ref td)]/\aH H1 H'/\H' D=some (.lst (((L.take i).filterMap (mI hv x)).map V.int))) ⟨none,none,rfl,(aH.refl _).new hD,aB⟩ (λi σ H' _ ⟨_,_,_,s,_⟩=>s _ _ d1) ?_ ?_
 ·rintro i p σ H4 N hN hi ⟨v0,v1,rfl,s4,e4⟩;obtain⟨ed,ee,Ge,NM⟩:∃e,L[i]?=some e/\p.1=e.1/\p.2.2=.int e.2:=by
   have:(xs.map λp=>(p.1,p.2.2))[i]?=some (p.1,p.2.2):=(by rw[List.getElem?_map,hi];rfl);rw[hL.m,List.getElem?_map]at this;cases ee:L[i]? with
   |none=>rw[ee]at this;cases this
   |some e =>
    rw[ee]at this;obtain⟨z1,z2⟩:=Prod.mk.inj (Option.some.inj this);exact⟨e,rfl,z1.symm,z2.symm⟩
  have CM:=List.mem_of_getElem? ee;have il:i<L.length:=(List.getElem?_eq_some_iff.mp ee).1;obtain⟨b,y,hk,l1,l2⟩:=fin.ok.2 ed CM;obtain⟨kk,l⟩:=ed;obtain rfl:kk=[b,y]:=hk;have pk:=(k1 p (List.mem_of_getElem? hi)).same s4;rw[Ge]at pk;rcases pk.ex.symm with⟨_,_,_,_,_,z,_⟩|⟨_,_,z,g1⟩
  ·simp at z
  simp only[List.cons.injEq,and_true]at z;obtain⟨rfl,rfl⟩:=z;have Qz:(L.take (i+1)).filterMap (mI hv x)=(L.take i).filterMap (mI hv x)++(mI hv x ([b,y],l)).toList:=by
   rw[take_succ ee,List.filterMap_append]
   congr 1
  have cl:((L.take i).filterMap (mI hv x)).length<=1000:=by have:=List.length_filterMap_le (mI hv x) (L.take i);rw[List.length_take]at this;lia
  have skip:∀{H5:Hp},aH H4 H5->mI hv x ([b,y],l)=none->N [some (.int b),some (.int y),some (.int x),some (.ref hd),some (.ref td)] H5:=λs5 c=>hN _ _ ⟨_,_,rfl,s4.trans s5,by rw[Qz,c];simpa using s5 _ _ e4⟩;refine⟨p.2.1,_,rfl,g1,rfl,_,_,rfl,_,_,rfl,rfl,?_⟩;refine⟨_,rfl,_,rfl,rfl,_,rfl,?_⟩;by_cases c:b=x
  ·refine bw (congrArg V.int c) ?_;obtain⟨m,hm⟩:=fin.near hx (show([x,y],l)∈L by rw[<-c];exact CM);have gv:cQ H4 hd (.int y) (some (.int m)):=by have:=cQ.k (k:=Sum.inl y) (s4 _ _ e1);rw[lP,hm]at this;exact this
   refine⟨_,rfl,_,rfl,hd,.int m,rfl,gv,_,rfl,_,rfl,_,rfl,zz2,λkt J5=>?_⟩;have s5:=(aH.refl H4).new (o:=.tup [.int b,.int y]) J5;have tk:cG K (upd H4 kt (.tup [.int b,.int y])) kt [b,y]:=⟨.inl ⟨_,_,rfl,ao.of aB⟩⟩;generalize upd H4 kt (.tup [.int b,.int y])=H5 at s5 tk ⊢;have S5:=s4.trans s5;have va:gk xs [b,y]=some (.int l):=by rw[o5 hL.m,(cL fin.ok.1).mpr CM];rfl
   have Pw:cQ H5 hd (.int x) (some (.int n)):=by have:=cQ.k (k:=Sum.inl x) (S5 _ _ e1);rw[lP,hx]at this;exact this
   refine⟨td,kt,xs,_,_,rfl,rfl,⟨.inr ⟨u,S5 _ _ d1,ou⟩,λp hp=>(k1 p hp).same S5⟩,tk,va,_,_,rfl,rfl,_,rfl,_,rfl,hd,.int n,rfl,Pw,rfl,_,rfl,?_⟩;by_cases c2:m+l=n
   ·refine bw (congrArg V.int c2) ?_;have cd:mI hv x ([b,y],l)=some y:=by unfold mI;exact if_pos ⟨c,by show(lk hv y).map (·+l)=lk hv x;rw[hm,hx];show some (m+l)=some n;rw[c2]⟩
    refine⟨_,rfl,_,s5 _ _ e4,by rw[List.length_map];lia,hN _ _ ⟨_,_,rfl,S5.put hD,?_⟩⟩;rw[aB,Qz,cd,List.map_append];rfl
   refine bu (λz=>c2 (V.int.inj z)) ?_;refine skip s5 ?_;unfold mI;refine if_neg λz=>c2 ?_;have z2:(lk hv y).map (·+l)=lk hv x:=z.2;rw[hm,hx]at z2;exact Option.some.inj z2
  refine bu (λz=>c (V.int.inj z)) ?_;refine skip (.refl _) ?_;unfold mI;exact if_neg λz=>c z.1
 rintro σ H4 ⟨v0,v1,rfl,s4,e4⟩;rw[J6,List.take_length]at e4;refine⟨td,xs,u,ou,s4 _ _ d1,?_⟩;have s5:aH H (upd H4 td (gG td xs)):=λb o e=>by
  by_cases nb:b=td
  ·rw[nb,aB,<-hL.d,<-nb,e]
  rw[aI nb];exact s4 b o (x1 b o nb e)
 have nD:D≠td:=λz=>by rw[z,d1]at hD;cases hD
 have e5:(upd H4 td (gG td xs)) D=some (.lst ((L.filterMap (mI hv x)).map V.int)):=by rw[aI nD];exact e4
 have mem:∀e,e∈L.filterMap (mI hv x)↔∃l m,([x,e],l)∈L/\lk hv e=some m/\lk hv x=some (m+l):=λe=>by
  rw[List.mem_filterMap];constructor
  ·rintro⟨⟨kk,l⟩,h1,h2⟩;obtain⟨b,y,hk,_⟩:=fin.ok.2 _ h1;obtain rfl:kk=[b,y]:=hk;unfold mI at h2;split at h2
   ·rename_i z;cases h2;obtain⟨z1,z2⟩:=z;have Ta:b=x:=z1;have NP:(lk hv y).map (·+l)=lk hv x:=z2;rw[Ta]at h1;cases hm:lk hv y with
    |none=>rw[hm,hx]at NP;cases NP
    |some m=>rw[hm]at NP;exact⟨l,m,h1,hm,NP.symm⟩
   cases h2
  rintro⟨l,m,h1,h2,h3⟩;refine⟨_,h1,?_⟩;unfold mI;exact if_pos ⟨rfl,by show(lk hv e).map (·+l)=lk hv x;rw[h2,h3];rfl⟩
 refine⟨D,_,rfl,ag.of e5,λz=>?_,λM hM hle=>q M _ s5 ⟨(mem M).mp hM,λe' l' m' h1 h2 h3=>hle e' ((mem e').mpr ⟨l',m',h1,h2,h3⟩)⟩⟩;obtain⟨e,l,m,h1,h2,h3⟩:=fin.step hx ne;have:=(mem e).mpr ⟨l,m,h1,h2,by rw[hx,h3]⟩;rw[z]at this;cases this
inductive Gr(L:List (Tk×Int))(hv:Hv)(goal:Int):Int->List Int->Prop
 |done:Gr L hv goal goal [goal]
 |step {x e:Int} {ws:List Int}:x≠goal->Hx L hv x e->Gr L hv goal e ws->Gr L hv goal x (x::ws)
def n8(K:PySem.W.Frag):Sp:=λvs H Q _=>∃(td hd:Addr)(one n goal:Int)(L:List (Tk×Int))(xs:TX)(hv:Hv),vs=[.ref td,.ref hd,.int one,.int goal]/\n5 K H td L xs/\H hd=some (.dK (hv.map i9))/\Fin L goal hv/\L.length<=200/\lk hv one=some n/\∀(r:Addr)(ws:List Int)(H':Hp),aH H H'->ao K H' r (ws.map V.int)->Gr L hv goal one ws->Q (.ref r) H'
theorem n9:aQ ["lengths","heights","one","goal","way"] ["lengths","heights","one","goal"] (aG gM):=⟨rfl,rfl,rfl,by decide +kernel,rfl,by decide +kernel,by decide +kernel⟩
set_option maxHeartbeats 2000000 in
theorem vx(F:aK K mg "least_way" gM)(T:Txt K mg t)(jA:Def P w K mg base 1 "next_house" ["lengths","heights","house"] (lQ K)):Def P w K mg base 2 "least_way" ["lengths","heights","one","goal"] (n8 K):=by
 refine F.def n9 (λ_ _ _ _ _ _ us hl=>match us,hl with|[_,_,_,_],_=>rfl) (λvs H Q E h=>?_) (λf bU A outer s H vs Q E hr h=>?_)
 ·obtain⟨td,hd,one,n,goal,L,xs,hv,rfl,_⟩:=h;rfl
 obtain⟨td,hd,one,n,goal,L,xs,hv,rfl,hL,hH,fin,ll,hx,q⟩:=h;refine⟨_,aD (aT (i:=4) n9.nd rfl (Or.inl rfl) (cJ (aA (pv 2) aC)))
  (aD (PS.wU (wj PassesOwn.never (aO pK (aN (aP K) (pv 4) (Cy yw aE) (λ_ _=>rfl)) (pv 3) (aU _))
   (aF (bV (oa K PySem.F.plainAttrs_list PySem.F.slot_list_append PySem.F.type_list_append dY (pv 4) (aA (aV (jA.mono (by decide)) hr au (aA (pv 0) (aA (pv 1) (aA (aN (aP K) (pv 4) (Cy yw aE) (λ_ _=>rfl)) aC)))) aC))))))
  (aF (aS (bE (cp K) (by rfl) T.lC boot_tuple (aA (pv 4) aC))))),?_⟩
 have hsz:(300000:Nat)<=sizeLine:=by decide
 refine⟨_,rfl,zz1,λwl Ka=>?_⟩;have s1:=(aH.refl H).new (o:=.lst [.int one]) Ka;have e1:(upd H wl (.lst [.int one])) wl=some (.lst [.int one]):=aB;generalize upd H wl (.lst [.int one])=H1 at s1 e1 ⊢;have n0:n<=200000:=by have:=fin.h.bd _ _ hx;have:=fin.h.size;lia
 let W:Nat->L2.St->Hp->Prop:=λk σ H'=>∃(pre:List Int)(x m:Int),σ=[some (.ref td),some (.ref hd),some (.int one),some (.int goal),some (.ref wl)]/\aH H H'/\H' wl=some (.lst ((pre++[x]).map V.int))/\lk hv x=some m/\k=m.toNat/\(pre.length:Int)+m<=n/\∀t,Gr L hv goal x (x::t)->Gr L hv goal one (pre++x::t)
 refine⟨W,⟨n.toNat,[],one,n,rfl,s1,e1,hx,rfl,by show((0:Nat):Int)+n<=n;lia,λt h=>h⟩,?_⟩;rintro k σ H2 ⟨pre,x,m,rfl,s2,e2,hm,rfl,pl,gr⟩;have m0:=fin.h.pos _ _ hm;have la:qB ((pre++[x]).map V.int) (-1)=some (V.int x):=by rw[List.map_append];exact wx _ _
 refine⟨_,rfl,1,rfl,wl,_,_,.int x,rfl,rfl,ag.of e2,la,_,rfl,rfl,_,rfl,?_⟩;by_cases c:x=goal
 ·refine jz (congrArg V.int c) ?_;subst c;refine⟨_,rfl,wl,_,rfl,.inl ⟨ag.of e2,λr hr=>?_⟩⟩;exact q r (pre++[x]) _ (s2.new hr) (ao.of aB) (gr [] .done)
 refine pS (λz=>c (V.int.inj z)) ?_;refine⟨λσ' H'=>∃m',m'<m.toNat/\W m' σ' H',λσ' H' z=>z,?_⟩;refine⟨_,rfl,.inl ⟨rfl,_,ag.of e2⟩,_,rfl,_,rfl,_,rfl,1,rfl,wl,_,_,.int x,rfl,rfl,ag.of e2,la,td,hd,x,m,goal,L,xs,hv,rfl,hL.same s2,s2 _ _ hH,fin,by lia,hm,c,λe H3 s3 nx=>?_⟩;have e3:=s3 _ _ e2;refine⟨wl,_,_,rfl,rfl,e3,by rw[List.length_map,List.length_append];show pre.length+1<_;lia,?_⟩;obtain⟨⟨l,m',h1,h2,h3⟩,_⟩:=id nx;rw[hm]at h3;cases h3;obtain⟨_,_,_,l1,_⟩:=fin.ok.2 _ h1;have Sl:1<=l:=l1;have m1:=fin.h.pos _ _ h2;refine⟨m'.toNat,by lia,pre++[x],e,m',rfl,(s2.trans s3).put Ka,by rw[aB,List.map_append (l₁:=pre++[x])];rfl,h2,rfl,by rw[List.length_append];show((pre.length+1:Nat):Int)+m'<=n;lia,λt h=>?_⟩;rw[List.append_assoc];exact gr (e::t) (.step c nx h)
def adr:V->Addr
 |.ref a=>a
 |_=>0
def AE(ms:Ms):Prop:=∀m∈ms,∀w∈m.2.near,1<=w.q/\w.q<=10
theorem kG{ms:Ms}{ts:List T3}(hq:AE ms)(hm:∀t,t∈ts↔cH ms t)(td:AD ts):ue (dU ts)/\∀a b l,([a,b],l)∈dU ts->([b,a],l)∈dU ts:=by
 refine⟨⟨fS td,λe he=>?_⟩,λa b l h=>?_⟩
 ·obtain⟨t,ht,z⟩:=bo.mp he;obtain⟨_,m1,h1,m2,h2,w1,g1,w2,g2,_,_,_,_,_,_,a5⟩:=(hm t).mp ht;have q1:=hq m1 h1 w1 g1;have q2:=hq m2 h2 w2 g2;have:1<=t.2.2/\t.2.2<=1000:=by lia
  rcases z with rfl|rfl
  ·exact⟨_,_,rfl,this⟩
  exact⟨_,_,rfl,this⟩
 obtain⟨t,ht,z⟩:=bo.mp h;refine bo.mpr ⟨t,ht,?_⟩;rcases z with z|z
 ·cases z;exact .inr rfl
 cases z;exact .inl rfl
theorem Fin.of{ms:Ms}{ts:List T3}{goal:Int}{hv:Hv}(hq:AE ms)(hm:∀t,t∈ts↔cH ms t)(td:AD ts)(h:Ht (dU ts) goal hv)(c:∀e∈dU ts,CL hv e):Fin (dU ts) goal hv:=⟨h,c,(kG hq hm td).1,(kG hq hm td).2⟩
theorem Ht.Cm{ms:Ms}{ts:List T3}{goal:Int}{hv:Hv}(h:Ht (dU ts) goal hv)(hm:∀t,t∈ts↔cH ms t):hv.length<=ms.length+1:=by
 have:=gW (goal::hs ms) (hv.map (·.1)) h.nd λx hx=>by
  cases e:lk hv x with
  |none=>exact absurd hx (cm.mp e)
  |some n =>
   by_cases c:x=goal
   ·rw[c];exact List.mem_cons_self
   obtain⟨e',l',m',h1,_⟩:=h.par x n e c;obtain⟨t,ht,z⟩:=bo.mp h1;obtain⟨_,m1,g1,m2,g2,_,_,_,_,a1,a2,_⟩:=(hm t).mp ht;refine List.mem_cons_of_mem _ ?_;rcases z with z|z
   ·cases z;exact List.mem_map.mpr ⟨m1,g1,a1⟩
   cases z;exact List.mem_map.mpr ⟨m2,g2,a2⟩
 unfold hs at this;rw[List.length_map,List.length_cons,List.length_map]at this;exact this
theorem Hy(h n:Int):ye (.tuple [.int h,.int n])=true:=by simp[ye,c9]
theorem Ec{K:PySem.W.Frag}{H:Hp}{n:Nat}{v:V}{a b:Int}(h:ae K H (n+1) v (.tuple [.int a,.int b])):∃p,v=.ref p/\ao K H p [.int a,.int b]:=by
 obtain⟨p,xs,rfl,h1,h2,h3⟩:=vZ h
 match xs,h2 with
 |[x,y],_ =>
  obtain rfl:=ni (h3 0 x _ rfl rfl);obtain rfl:=ni (h3 1 y _ rfl rfl);exact⟨p,rfl,h1⟩
def fT(hv:Hv)(ns:List Int):Hv:=ns.map λh=>(h,(lk hv h).getD 0)
def lE(K:PySem.W.Frag)(C:Addr):Sp:=λvs H Q _=>∃(x d:Addr)(one other:Int)(ms:Ms),vs=[.ref x,.int one,.int other]/\jq K C H x d ms/\ms.length<=12/\ny ms/\AE ms /\
 (∀(ts:List T3)(hv CJ:Hv)(ns:List Int)(r p:Addr)(H':Hp),aH H H'->(∀t,t∈ts↔cH ms t)->AD ts->Fin (dU ts) other hv->lk hv one=none->Fin (dU ts) one CJ->ns.Perm (CJ.map (·.1))->ns.Pairwise (·<=·)->ao K H' r [.str "side",.ref p]->ao K H' p (ns.map V.int)->Q (.ref r) H') /\
 (∀(ts:List T3)(hv:Hv)(n:Int)(ns ws:List Int)(r p hl:Addr)(H':Hp),aH H H'->(∀t,t∈ts↔cH ms t)->AD ts->Fin (dU ts) other hv->lk hv one=some n->Gr (dU ts) hv other one ws->ns.Perm (hv.map (·.1))->ns.Pairwise (·<=·)->ao K H' r [.str "way",.ref p,.ref hl]->ao K H' p (ws.map V.int)->H hl=none->pd K H' hl (fT hv ns)->Q (.ref r) H')
theorem lF:aQ ["chart","one","other","lengths","heights","way"] ["chart","one","other"] (aG kA):=⟨rfl,rfl,rfl,by decide +kernel,rfl,by decide +kernel,by decide +kernel⟩
set_option maxHeartbeats 2000000 in
theorem CN(F:aK K mg "way_of" kA)(T:Txt K mg t)(cS:Def P w K mg base 3 "lengths_of" ["chart"] (gn K t.Map))(bp:Def P w K mg base 1 "heights_to" ["lengths","goal"] (gq K))(kH:Def P w K mg base 2 "least_way" ["lengths","heights","one","goal"] (n8 K)):Def P w K mg base 4 "way_of" ["chart","one","other"] (lE K t.Map):=by
 refine F.def lF (λ_ _ _ _ _ _ us hl=>match us,hl with|[_,_,_],_=>rfl) (λvs H Q E h=>?_) (λf bU A outer s H vs Q E hr h=>?_)
 ·obtain⟨x,d,one,other,ms,rfl,_⟩:=h;rfl
 obtain⟨x,d,one,other,ms,rfl,hM,ml,CO,hq,qs,qw⟩:=h;refine⟨_,aD (aT (i:=3) lF.nd rfl (Or.inl rfl) (aV (cS.mono (by decide)) hr au (aA (pv 0) aC)))
  (aD (aT (i:=4) lF.nd rfl (Or.inr rfl) (aV (bp.mono (by decide)) hr au (aA (pv 3) (aA (pv 2) aC))))
  (aD (ay (oQ (og (br hr) (pv 1) (pv 4)) (by rfl))
   (aF (aS (aw (aA cE (aA (bE (cp K) (by rfl) T.lC boot_tuple (aA (aX (eX (c6 hr)) (by rfl) T.cY boot_sorted (aA (aV (bp.mono (by decide)) hr au (aA (pv 3) (aA (pv 1) aC))) aC)) aC)) aC)))))
   (aZ))
  (aD (aT (i:=5) lF.nd rfl (Or.inl rfl) (aV (kH.mono (by decide)) hr au (aA (pv 3) (aA (pv 4) (aA (pv 1) (aA (pv 2) aC))))))
  (aF (aS (aw (aA cE (aA (pv 5) (aA (je rfl (Nc:=["house","heights"]) (ix:=[none,some 4]) (cF (aG kA) ["chart","one","other","lengths","heights","way"] rfl rfl (by decide +kernel)) (bF K (aX (eX (c6 hr)) (by rfl) T.cY boot_sorted (aA (pv 4) aC))) (λC fp s H=>⟨(aJ (i:=0) (show(["house","heights"]:List Str).Nodup by decide +kernel) rfl (Or.inl rfl)),cO,(aw (aA (pv 0) (aA (cc (br hr) (pv 1) (pv 0) (λ_ _=>rfl)) aC)))⟩)) aC))))))))),?_⟩
 have hsz:(20000:Nat)<=sizeLine:=by decide
 refine⟨_,rfl,x,d,ms,rfl,hM,ml,CO,λtd H1 ts xs s1 Q0 hL hm wY tl=>?_⟩;have el:(dU ts).length<=200:=by rw[vp];lia
 refine⟨_,rfl,_,rfl,td,other,dU ts,xs,rfl,hL,(kG hq hm wY).1,by lia,λhd H2 hv s2 Tb e2 ht cl=>?_⟩;have fin:=Fin.of hq hm wY ht cl;have S2:=s1.trans s2;refine⟨_,rfl,_,rfl,hd,_,rfl,cQ.k (k:=Sum.inl one) e2,?_⟩;rw[lP];cases en:lk hv one with
 |none =>
  refine⟨true,rfl,eV ?_⟩;refine⟨_,rfl,_,rfl,td,one,dU ts,xs,rfl,hL.same s2,(kG hq hm wY).1,by lia,λhd2 H3 CJ s3 n3 e3 NQ Tc=>?_⟩;have f2:=NQ.Cm hm;refine⟨hd2,_,CJ.map (·.1),rfl,e3,by rw[List.map_map,List.map_map];rfl,by rw[List.length_map];lia,λys sl hp vg DK=>?_⟩;have s4:=(aH.refl H3).new (o:=.lst (ys.map V.int)) DK;refine⟨sl,_,rfl,.inl ⟨ag.of aB,λp Td=>?_⟩⟩;have s5:=s4.new (o:=.tup (ys.map V.int)) Td;refine⟨zz2,λr hr=>?_⟩;have s6:=s5.new (o:=.tup [.str "side",.ref p]) hr;exact qs ts hv CJ ys r p _ (S2.trans (s3.trans s6)) hm wY fin en (Fin.of hq hm wY NQ Tc) hp vg (ao.of aB) (ao.of (by rw[aI (aY aB hr)];exact aB))
 |some n =>
  refine⟨false,rfl,d0 ?_⟩;refine⟨_,rfl,_,rfl,_,rfl,_,rfl,td,hd,one,n,other,dU ts,xs,hv,rfl,hL.same s2,e2,fin,el,en,λp ws H3 s3 hp gr=>?_⟩;have f1:=ht.Cm hm;have e3:=s3 _ _ e2;refine⟨_,rfl,_,rfl,hd,_,hv.map (·.1),rfl,e3,by rw[List.map_map,List.map_map];rfl,by rw[List.length_map];lia,λys sl Kn vg DK=>?_⟩;have yl:ys.length<=20:=by rw[Kn.length_eq,List.length_map];lia
  have s4:=(aH.refl H3).new (o:=.lst (ys.map V.int)) DK;have e4:(upd H3 sl (.lst (ys.map V.int))) sl=some (.lst (ys.map V.int)):=aB;generalize upd H3 sl (.lst (ys.map V.int))=H4 at s4 e4 ⊢;refine⟨sl,rfl,⟨_,ag.of e4⟩,λD hD=>?_⟩;refine gJ (K:=K) (a:=sl) (xs:=ys.map V.int) (λi σ H'=>∃(v:Option V)(zs:List (V×Int)),σ=[v,some (.ref hd)]/\aH H4 H'/\H' D=some (.lst (zs.map (·.1)))/\zs.map (·.2)=ys.take i/\∀z∈zs,ae K H' 2 z.1 (.tuple [.int z.2,.int ((lk hv z.2).getD 0)])) ⟨none,[],rfl,(aH.refl _).new hD,aB,rfl,λz hz=>absurd hz List.not_mem_nil⟩ (λi σ H' _ ⟨_,_,_,s,_⟩=>ag.of (s _ _ e4)) ?_ ?_
  ·rintro i y σ H5 N hN hi ⟨v,zs,rfl,s5,e5,m5,t5⟩;obtain⟨h,ho,rfl⟩:=c7 hi;have MZ:i<ys.length:=(List.getElem?_eq_some_iff.mp ho).1;have hk:=Kn.mem_iff.mp (List.mem_of_getElem? ho);obtain⟨k,hk⟩:∃k,lk hv h=some k:=by
    cases e:lk hv h with
    |none=>exact absurd hk (cm.mp e)
    |some k=>exact⟨k,rfl⟩
   have gv:cQ H5 hd (.int h) (some (.int k)):=by have:=cQ.k (k:=Sum.inl h) ((s4.trans s5) _ _ e3);rw[lP,hk]at this;exact this
   have zl:zs.length<=20:=by have:=congrArg List.length m5;rw[List.length_map,List.length_take]at this;lia
   refine c8 ?_;refine⟨_,rfl,_,rfl,_,rfl,hd,.int k,rfl,gv,zz2,λtp xC=>?_⟩;have s6:=(aH.refl H5).new (o:=.tup [.int h,.int k]) xC;have dn:ae K (upd H5 tp (.tup [.int h,.int k])) 2 (.ref tp) (.tuple [.int h,.int ((lk hv h).getD 0)]):=by
    rw[hk];refine .tup (ao.of aB) rfl λi v d e1 e2=>?_
    match i with
    |0=>cases e1;cases e2;exact .int _
    |1=>cases e1;cases e2;exact .int _
    |i+2=>simp at e1
   generalize upd H5 tp (.tup [.int h,.int k])=H6 at s6 dn;have e6:=s6 _ _ e5;have kp:=bj (o:=.lst (zs.map (·.1)++[V.ref tp])) (pZ.lst e6);refine⟨_,e6,by rw[List.length_map];lia,hN _ _ ⟨_,zs++[(.ref tp,h)],rfl,(s5.trans s6).put hD,by rw[aB,List.map_append];rfl,by rw[List.map_append,m5,take_succ ho];rfl,λz hz=>?_⟩⟩;rcases List.mem_append.mp hz with h|h
   ·exact((t5 z h).same s6).kept kp (Hy _ _)
   rw[List.mem_singleton.mp h];exact dn.kept kp (Hy _ _)
  rintro σ H5 ⟨v,zs,rfl,s5,e5,m5,t5⟩;rw[List.length_map,List.take_length]at m5;refine⟨zz3,λr hr=>?_⟩;have s6:=(aH.refl H5).new (o:=.tup [.str "way",.ref p,.ref D]) hr;have S:=s4.trans (s5.trans s6);refine qw ts hv n ys ws r p D _ (S2.trans (s3.trans S)) hm wY fin en gr Kn vg (ao.of aB) (S.tup hp) ((S2.trans (s3.trans s4)).free hD) ⟨zs.map λz=>(adr z.1,z.2,(lk hv z.2).getD 0),?_,λz hz=>?_,?_⟩
  ·rw[s6 _ _ e5,List.map_map]
   congr 2
   refine List.map_congr_left λz hz=>?_;obtain⟨p,ep,_⟩:=Ec (t5 z hz);show z.1=V.ref (adr z.1);rw[ep];rfl
  ·obtain⟨y,hy,rfl⟩:=List.mem_map.mp hz;obtain⟨p,ep,g⟩:=Ec ((t5 y hy).same s6);show ao K _ (adr y.1) _;rw[ep];exact g
  unfold fT;rw[<-m5,List.map_map,List.map_map];rfl
inductive Wk(L:List (Tk×Int))(goal:Int):Int->Int->Prop
 |nil:Wk L goal goal 0
 |cons {x e l s:Int}:([x,e],l)∈L->Wk L goal e s->Wk L goal x (l+s)
theorem Fin.le{L:List (Tk×Int)}{goal:Int}{hv:Hv}(f:Fin L goal hv){x s:Int}(w:Wk L goal x s):∃n,lk hv x=some n/\n<=s:=by
 induction w with
 |nil=>exact⟨0,f.h.g,Int.le_refl _⟩
 |@cons x e l s h w ih =>
  obtain⟨m,h1,h2⟩:=ih;obtain⟨n,h3,h4⟩:=f.c _ h x e rfl m h1;have h5:n<=m+l:=h4;exact⟨n,h3,by lia⟩
theorem Fin.pos{L:List (Tk×Int)}{goal:Int}{hv:Hv}(f:Fin L goal hv){x e l:Int}(h:([x,e],l)∈L):1<=l:=by obtain⟨_,_,_,h1,_⟩:=f.ok.2 _ h;exact h1
theorem Fin.wk{L:List (Tk×Int)}{goal:Int}{hv:Hv}(f:Fin L goal hv):∀(k:Nat){x n:Int},n.toNat<=k->lk hv x=some n->Wk L goal x n
 |k,x,n,hk,hx=>by
  by_cases c:x=goal
  ·subst c;rw[f.h.g]at hx;cases hx;exact .nil
  obtain⟨e,l,m,h1,h2,h3⟩:=f.step hx c;have l1:=f.pos h1;have m0:=f.h.pos _ _ h2
  match k,hk with
  |0,hk=>lia
  |k+1,hk =>
   have:=f.wk k (x:=e) (n:=m) (by lia) h2;rw[show n=l+m by lia];exact .cons h1 this
inductive Wl(L:List (Tk×Int))(goal:Int):Int->List Int->Int->Prop
 |done:Wl L goal goal [goal] 0
 |step {x e l s:Int} {ws:List Int}:([x,e],l)∈L->Wl L goal e ws s->Wl L goal x (x::ws) (l+s)
theorem Wl.wk{L:List (Tk×Int)}{goal x s:Int}{ws:List Int}(h:Wl L goal x ws s):Wk L goal x s:=by
 induction h with
 |done=>exact .nil
 |step h _ ih=>exact .cons h ih
theorem Wl.head{L:List (Tk×Int)}{goal x s:Int}{ws:List Int}(h:Wl L goal x ws s):∃t,ws=x::t:=by
 cases h with
 |done=>exact⟨[],rfl⟩
 |step _ _=>exact⟨_,rfl⟩
theorem Gr.wl{L:List (Tk×Int)}{hv:Hv}{goal x:Int}{ws:List Int}(f:Fin L goal hv)(h:Gr L hv goal x ws):∃n,lk hv x=some n/\Wl L goal x ws n:=by
 induction h with
 |done=>exact⟨0,f.h.g,.done⟩
 |@step x e ws ne nx g ih =>
  obtain⟨n,h1,h2⟩:=ih;obtain⟨⟨l,m,h3,h4,h5⟩,_⟩:=nx;rw[h1]at h4;cases h4;exact⟨_,h5,by rw[show n+l=l+n by lia];exact .step h3 h2⟩
theorem BH{a b:Int}(h:a.natAbs<2 ^ 64):IntMulOk a b:=FK.ok (.inl ⟨by lia,by lia⟩)
def eI(K:PySem.W.Frag):Sp:=λvs H Q _=>∃(l:Addr)(ns:List Int)(k:Int),vs=[.ref l,.int k]/\ag K H l (ns.map V.int)/\0<=k/\∀c:Int,Q (.int c) H
theorem qI:aQ ["script","k"] ["script","k"] (aG dG):=⟨rfl,rfl,rfl,by decide +kernel,rfl,by decide +kernel,by decide +kernel⟩
theorem qJ(F:aK K mg "_law_cell_at" dG)(T:Txt K mg t):Def P w K mg base 1 "_law_cell_at" ["script","k"] (eI K):=by
 refine F.def qI (λ_ _ _ _ _ _ us hl=>match us,hl with|[_,_],_=>rfl) (λvs H Q E h=>?_) (λf bU A outer s H vs Q E hr h=>?_)
 ·obtain⟨l,ns,k,rfl,_⟩:=h;rfl
 obtain⟨l,ns,k,rfl,hl,k0,q⟩:=h;refine⟨_,aD (ay (aO pL (pv 1) (aX (bz K) (by rfl) T.gR boot_len (aA (pv 0) aC)) (aU _))
   (aF (aS (aN (aP K) (pv 0) (pv 1) (λ_ _=>rfl))))
   (aZ))
  (aF (aS aE)),?_⟩
 refine⟨_,rfl,_,rfl,l,_,rfl,.inl hl,_,_,rfl,rfl,_,rfl,?_⟩;by_cases z:k<((ns.map V.int).length:Nat)
 ·refine bw z ?_;rw[List.length_map]at z;obtain⟨j,rfl⟩:∃j:Nat,k=j:=⟨k.toNat,by lia⟩;have hj:j<ns.length:=by lia
  exact⟨_,rfl,_,rfl,l,_,_,V.int ns[j],rfl,rfl,hl,bW (by simp[hj]),q _⟩
 exact bu z (q 0)
def dq:Sp:=λvs H Q _=>∃c k:Int,vs=[.int c,.int k]/\0<=k/\k<=1000/\∀m:Int,0<=m->Q (.int m) H
theorem gu:aQ ["cell","k","near","stir"] ["cell","k"] (aG fF):=⟨rfl,rfl,rfl,by decide +kernel,rfl,by decide +kernel,by decide +kernel⟩
theorem tN(F:aK K mg "_law_mixed" fF)(T:Txt K mg t):Def P w K mg base 1 "_law_mixed" ["cell","k"] dq:=by
 refine F.def gu (λ_ _ _ _ _ _ us hl=>match us,hl with|[_,_],_=>rfl) (λvs H Q E h=>?_) (λf bU A outer s H vs Q E hr h=>?_)
 ·obtain⟨c,k,rfl,_⟩:=h;rfl
 obtain⟨c,k,rfl,k0,k1,q⟩:=h;refine⟨_,aD (aT (i:=2) gu.nd rfl (Or.inl rfl) (ah bh (ah cz (pv 0) aE) (ah qZ aE (pv 1))))
  (aD (aT (i:=3) gu.nd rfl (Or.inl rfl) (ah cz (ah qZ (ah bh (pv 2) aE) (ah bh (pv 2) aE)) aE))
  (aF (aS (ah m9 (ah cz (ah qZ (pv 3) (pv 3)) aE) aE)))),?_⟩
 have n0:0<=c%998244353/\c%998244353<998244353:=⟨Int.emod_nonneg _ (by decide),Int.emod_lt_of_pos _ (by decide)⟩;refine⟨_,rfl,_,_,rfl,rfl,(by show(0:Int)<998244353;decide),_,rfl,_,_,rfl,rfl,BH (by decide),_,_,rfl,rfl,?_⟩;dsimp only;have b1:0<=c%998244353+7919*k/\c%998244353+7919*k<=2000000000:=by lia
 generalize c%998244353+7919*k=x1 at b1;refine⟨_,rfl,_,_,rfl,rfl,_,rfl,_,_,rfl,rfl,_,_,rfl,rfl,BH (by lia),_,_,rfl,rfl,(by show(0:Int)<998244353;decide),?_⟩;dsimp only;generalize(x1+11)*(x1+48271)=x2;have b2:0<=x2%998244353/\x2%998244353<998244353:=⟨Int.emod_nonneg _ (by decide),Int.emod_lt_of_pos _ (by decide)⟩;refine⟨_,rfl,_,rfl,_,_,rfl,rfl,BH (by lia),_,_,rfl,rfl,(by show(0:Int)<1000000007;decide),_,_,rfl,rfl,⟨by decide,by decide⟩,?_⟩;exact q _ (Int.ediv_nonneg (Int.emod_nonneg _ (by decide)) (by decide))
def Gg(bs ms:List Int):Prop:=ms.length=bs.length/\∀(i:Nat)(m b:Int),ms[i]?=some m->bs[i]?=some b->0<=m/\m<b
def gx(K:PySem.W.Frag):Sp:=λvs H Q _=>∃(c:Int)(l:Addr)(bs:List Int),vs=[.int c,.ref l]/\H l=some (.lst (bs.map V.int))/\bs.length<=100/\(∀b∈bs,0<b/\b<=1000000)/\∀(r:Addr)(H':Hp)(ms:List Int),aH H H'->H r=none->H' r=some (.lst (ms.map V.int))->Gg bs ms->Q (.ref r) H'
theorem cB:aQ ["cell","bounds","left","made","k"] ["cell","bounds"] (aG fG):=⟨rfl,rfl,rfl,by decide +kernel,rfl,by decide +kernel,by decide +kernel⟩
set_option maxHeartbeats 1000000 in
theorem tO(F:aK K mg "_law_drawn" fG)(T:Txt K mg t)(bD:Def P w K mg base 1 "_law_mixed" ["cell","k"] dq):Def P w K mg base 2 "_law_drawn" ["cell","bounds"] (gx K):=by
 refine F.def cB (λ_ _ _ _ _ _ us hl=>match us,hl with|[_,_],_=>rfl) (λvs H Q E h=>?_) (λf bU A outer s H vs Q E hr h=>?_)
 ·obtain⟨c,l,bs,rfl,_⟩:=h;rfl
 obtain⟨c,l,bs,rfl,hl,E6,hb,q⟩:=h;refine⟨_,aD (aT (i:=2) cB.nd rfl (Or.inl rfl) (pv 0))
  (aD (j0 (ay (aO pL (pv 0) (ah Ij aE aE) (aU _))
   (aF (aT (i:=2) cB.nd rfl (Or.inl rfl) aE))
   (aZ)))
  (aD (aT (i:=3) cB.nd rfl (Or.inl rfl) (cJ aC))
  (aD (PS.wU (bL PassesOwn.never rfl (bx (by rfl) T.dI (aA (aX (bz K) (by rfl) T.gR boot_len (aA (pv 1) aC)) aC)) (aJ (i:=4) cB.nd rfl (Or.inl rfl))
   (aF (ay (aO pM (pv 2) aE (aU _))
    (aD (bV (oa K PySem.F.plainAttrs_list PySem.F.slot_list_append PySem.F.type_list_append dY (pv 3) (aA (ah cz (pv 2) (aN (aP K) (pv 1) (pv 4) (λ_ _=>rfl))) aC)))
    (aF (aT (i:=2) cB.nd rfl (Or.inl rfl) (ah m9 (pv 2) (aN (aP K) (pv 1) (pv 4) (λ_ _=>rfl))))))
    (aF (bV (oa K PySem.F.plainAttrs_list PySem.F.slot_list_append PySem.F.type_list_append dY (pv 3) (aA (ah cz (aV (bD.mono (by decide)) hr au (aA (pv 0) (aA (pv 4) aC))) (aN (aP K) (pv 1) (pv 4) (λ_ _=>rfl))) aC))))))))
  (aF (aS (pv 3)))))),?_⟩
 have hsz:(2000:Nat)<=sizeLine:=by decide
 refine⟨_,rfl,?_⟩;refine⟨λσ H'=>H'=H/\∃left:Int,σ=[some (.int c),some (.ref l),some (.int left),none,none],?_,?_⟩
 ·refine⟨_,rfl,_,_,rfl,rfl,⟨by decide,by decide,by decide⟩,_,_,rfl,rfl,_,rfl,?_⟩;exact Be (λ_=>⟨rfl,_,rfl⟩) (λ_=>⟨rfl,_,rfl⟩)
 rintro σ H0 ⟨eH,left,rfl⟩;rw[eH];clear eH;refine⟨zz0,λL hL=>?_⟩;have s1:=(aH.refl H).new (o:=.lst []) hL;have e1:(upd H L (.lst [])) L=some (.lst []):=aB;generalize upd H L (.lst [])=H1 at s1 e1 ⊢;refine⟨_,rfl,l,_,rfl,.inl (ag.of (s1 _ _ hl)),_,rfl,by rw[List.length_map];lia,by rw[List.length_map];lia,?_⟩;have hn:(((bs.map V.int).length:Nat):Int).toNat=bs.length:=by rw[List.length_map];lia
 refine dX (lo:=0) (n:=(((bs.map V.int).length:Nat):Int).toNat) (λi σ H2=>∃(rest:Int)(ms:List Int)(v4:Option V),σ=[some (.int c),some (.ref l),some (.int rest),some (.ref L),v4]/\aH H H2/\H2 L=some (.lst (ms.map V.int))/\ms.length=i/\∀(j:Nat)(m b:Int),ms[j]?=some m->bs[j]?=some b->0<=m/\m<b)
  ⟨_,[],none,rfl,s1,e1,rfl,λj m b hm=>by cases hm⟩ ?_ ?_
 ·rintro i σ H2 hi ⟨rest,ms,v4,rfl,s2,h2,Mi,hm⟩;rw[hn]at hi;have ei:bs[i]?=some bs[i]:=by simp[hi]
  generalize bs[i]=b at ei;obtain⟨b0,b1⟩:=hb b (List.mem_of_getElem? ei);have ai:qB (bs.map V.int) (0+(i:Nat):Int)=some (.int b):=by rw[show(0+(i:Nat):Int)=(i:Nat) by lia];exact bW (by rw[List.getElem?_map,ei];rfl)
  have push:∀(x:Int),0<=x/\x<b->(aH H (upd H2 L (.lst (ms.map V.int++[V.int x])))/\(upd H2 L (.lst (ms.map V.int++[V.int x]))) L=some (.lst ((ms++[x]).map V.int))/\(ms++[x]).length=i+1/\∀(j:Nat)(m b:Int),(ms++[x])[j]?=some m->bs[j]?=some b->0<=m/\m<b):=λx hx=>⟨s2.put hL,by rw[aB,List.map_append];rfl,by rw[List.length_append,Mi];rfl,λj m b' Aq wW=>by
   by_cases z:j<ms.length
   ·rw[List.getElem?_append_left z]at Aq;exact hm j m b' Aq wW
   have bM:=(List.getElem?_eq_some_iff.mp Aq).1;rw[List.length_append]at bM;have e:j=ms.length:=(by simp at bM;lia);rw[e,List.getElem?_append_right (Nat.le_refl _),Nat.sub_self]at Aq;cases Aq;rw[e,Mi,ei]at wW;cases wW;exact hx⟩
  refine⟨_,rfl,_,_,rfl,rfl,_,rfl,?_⟩;refine Be (λ_=>?_) (λ_=>?_)
  ·refine⟨_,rfl,.inl ⟨rfl,_,ag.of h2⟩,_,rfl,_,rfl,_,rfl,l,_,_,.int b,rfl,rfl,ag.of (s2 _ _ hl),ai,_,_,rfl,rfl,b0,L,_,_,rfl,rfl,h2,by rw[List.length_map];lia,?_⟩;obtain⟨p1,p2,p3,p4⟩:=push (rest%b) ⟨Int.emod_nonneg _ (by lia),Int.emod_lt_of_pos _ b0⟩;refine⟨_,rfl,_,rfl,_,rfl,l,_,_,.int b,rfl,rfl,ag.of (p1 _ _ hl),ai,_,_,rfl,rfl,⟨b0,by lia⟩,?_⟩;exact⟨_,_,_,rfl,p1,p2,p3,p4⟩
  refine⟨_,rfl,.inl ⟨rfl,_,ag.of h2⟩,_,rfl,_,rfl,c,_,rfl,by lia,by lia,λm m0=>?_⟩;refine⟨_,rfl,_,rfl,l,_,_,.int b,rfl,rfl,ag.of (s2 _ _ hl),ai,_,_,rfl,rfl,b0,L,_,_,rfl,rfl,h2,by rw[List.length_map];lia,?_⟩;obtain⟨p1,p2,p3,p4⟩:=push (m%b) ⟨Int.emod_nonneg _ (by lia),Int.emod_lt_of_pos _ b0⟩;exact⟨_,_,_,rfl,p1,p2,p3,p4⟩
 rintro σ H2 ⟨rest,ms,v4,rfl,s2,h2,Mi,hm⟩;rw[hn]at Mi;exact⟨_,rfl,q L H2 ms s2 hL h2 ⟨Mi,hm⟩⟩
def lR:List Int:=(List.range 32).map λk:Nat=>(0:Int)+(k:Nat)
theorem uf{α β:Type}(f:α->β):∀(l:List α)(k:Nat),(l.map f).eraseIdx k=(l.eraseIdx k).map f
 |[],_=>rfl
 |_::_,0=>rfl
 |a::l,k+1=>congrArg (f a::·) (uf f l k)
theorem rZ{α:Type}:∀(l:List α)(k:Nat)(h:k<l.length),(l[k]::l.eraseIdx k).Perm l
 |[],_,h=>absurd h (Nat.not_lt_zero _)
 |_::_,0,_=>.refl _
 |a::l,k+1,h=>(List.Perm.swap a (l[k]'(Nat.lt_of_succ_lt_succ h)) _).trans ((rZ l k (Nat.lt_of_succ_lt_succ h)).cons a)
structure tP(os:List Int):Prop where
 nd:os.Nodup
 b:∀x∈os,0<=x/\x<32
theorem tP.of{os lf:List Int}(p:(os++lf).Perm lR):tP os:=by
 have nd:lR.Nodup:=by decide
 have:=p.nodup_iff.mpr nd;refine⟨(List.nodup_append.mp this).1,λx hx=>?_⟩;have:=p.mem_iff.mp (List.mem_append_left _ hx);have key:∀y∈lR,0<=y/\y<32:=by decide
 exact key x this
def kI(K:PySem.W.Frag):Sp:=λvs H Q _=>∃(l:Addr)(ms:List Int),vs=[.ref l]/\H l=some (.lst (ms.map V.int))/\ms.length<=30/\∀(r:Addr)(H':Hp)(os:List Int),aH H H'->H r=none->H' r=some (.lst (os.map V.int))->os.length=ms.length->tP os->Q (.ref r) H'
theorem kJ:aQ ["drawn","left"] ["drawn"] (aG b9):=⟨rfl,rfl,rfl,by decide +kernel,rfl,by decide +kernel,by decide +kernel⟩
set_option maxHeartbeats 1000000 in
theorem rd(F:aK K mg "_law_houses" b9)(T:Txt K mg t):Def P w K mg base 1 "_law_houses" ["drawn"] (kI K):=by
 refine F.def kJ (λ_ _ _ _ _ _ us hl=>match us,hl with|[_],_=>rfl) (λvs H Q E h=>?_) (λf bU A outer s H vs Q E hr h=>?_)
 ·obtain⟨l,ms,rfl,_⟩:=h;rfl
 obtain⟨l,ms,rfl,hl,ml,q⟩:=h;refine⟨_,aD (aT (i:=1) kJ.nd rfl (Or.inr rfl) (je rfl (Nc:=["house"]) (ix:=[none]) (cF (aG b9) ["drawn","left"] rfl rfl (by decide +kernel)) (bx (by rfl) T.dI (aA aE aC)) (λC fp s H=>⟨(aJ (i:=0) (show(["house"]:List Str).Nodup by decide +kernel) rfl (Or.inl rfl)),cO,(pv 0)⟩)))
  (aF (aS (je rfl (Nc:=["number","left"]) (ix:=[none,some 1]) (cF (aG b9) ["drawn","left"] rfl rfl (by decide +kernel)) (bF K (pv 0)) (λC fp s H=>⟨(aJ (i:=0) (show(["number","left"]:List Str).Nodup by decide +kernel) rfl (Or.inl rfl)),cO,(oa K PySem.F.plainAttrs_list PySem.F.slot_list_pop PySem.F.type_list_pop DG (pv 1) (aA (ah cz (pv 0) (aX (bz K) (by rfl) T.gR boot_len (aA (pv 1) aC))) aC))⟩)))),?_⟩
 have hsz:(2000:Nat)<=sizeLine:=by decide
 refine⟨32,rfl,by decide,by decide,λD hD=>?_⟩;refine nJ (lo:=0) (n:=32) (λi σ H'=>(∃v:Option V,σ=[v])/\aH H H'/\H' D=some (.lst (((List.range i).map λk:Nat=>(0:Int)+(k:Nat)).map V.int))) ⟨⟨none,rfl⟩,(aH.refl _).new hD,aB⟩ ?_ ?_
 ·rintro i σ H1 N hN hi ⟨⟨v,rfl⟩,s1,e1⟩;refine c8 ?_;refine⟨_,rfl,_,e1,by rw[List.length_map,List.length_map,List.length_range];lia,hN _ _ ⟨⟨_,rfl⟩,s1.put hD,?_⟩⟩;rw[aB,List.range_succ,List.map_append,List.map_append];rfl
 rintro σ H1 ⟨⟨v,rfl⟩,s1,e1⟩;refine⟨_,rfl,?_⟩;refine⟨l,rfl,⟨_,ag.of (s1 _ _ hl)⟩,λR hR=>?_⟩;have Px:D≠R:=aY e1 hR;have Q1:H R=none:=s1.free hR;refine gJ (K:=K) (a:=l) (xs:=ms.map V.int) (λi σ H'=>∃(v:Option V)(lf os:List Int),σ=[v,some (.ref D)]/\aH H H'/\H' D=some (.lst (lf.map V.int))/\H' R=some (.lst (os.map V.int))/\os.length=i/\(os++lf).Perm lR) ⟨none,lR,[],rfl,s1.new hR,by rw[aI Px];exact e1,aB,rfl,.refl _⟩ (λi σ H' _ ⟨_,_,_,_,s2,_⟩=>ag.of (s2 _ _ hl)) ?_ ?_
 ·rintro i y σ H2 N hN hi ⟨v,lf,os,rfl,s2,e2,r2,ol,pm⟩;obtain⟨m,hm,rfl⟩:=c7 hi;have MZ:i<ms.length:=(List.getElem?_eq_some_iff.mp hm).1;have ll:os.length+lf.length=32:=by have:=pm.length_eq;rw[List.length_append]at this;exact this
  have l0:(0:Int)<((lf.map V.int).length:Nat):=by rw[List.length_map];lia
  obtain⟨k,hk,kl⟩:∃k:Nat,m%((lf.map V.int).length:Nat)=(k:Int)/\k<lf.length:=by have h0:=Int.emod_nonneg m (show((lf.map V.int).length:Int)≠0 by lia);have h1:=Int.emod_lt_of_pos m l0;rw[List.length_map]at h0 h1 ⊢;exact⟨(m%(lf.length:Nat)).toNat,by lia,by lia⟩
  have sq:seqIndex? (k:Int) (lf.map V.int).length=some k:=(An (by unfold FW;rw[if_pos (by lia),if_pos (by rw[List.length_map];lia)];simp)).1;refine c8 ?_;refine⟨_,rfl,.inl ⟨rfl,_,ag.of e2⟩,_,rfl,_,rfl,D,_,rfl,.inl (ag.of e2),_,_,rfl,rfl,l0,D,_,_,k,.int lf[k],rfl,rfl,e2,by rw[hk];lia,by rw[hk];lia,by rw[hk];exact sq,by rw[List.getElem?_map];simp[kl],?_⟩;refine⟨_,by rw[aI (Ne.symm Px)];exact r2,by rw[List.length_map];lia,hN _ _ ⟨_,lf.eraseIdx k,os++[lf[k]],rfl,(s2.put hD).put Q1,?_,by rw[aB,List.map_append];rfl,by rw[List.length_append,ol];rfl,?_⟩⟩
  ·rw[aI Px,aB,uf]
  rw[List.append_assoc];exact((rZ lf k kl).append_left os).trans pm
 rintro σ H2 ⟨v,lf,os,rfl,s2,e2,r2,ol,pm⟩;rw[List.length_map]at ol;exact q R H2 os s2 Q1 r2 ol (.of pm)
structure Ne where
 q:Int
 a:Int
 b:Int
def E9(e:Ne):PyData:=.tuple [.int e.q,.tuple [.int e.a,.int e.b]]
theorem AF(e:Ne):ye (E9 e)=true:=by simp[E9,ye,c9]
abbrev Nd:=List (Int×V×Ne)
def lT(p:Int×V×Ne):Key×V:=(Sum.inl p.1,p.2.1)
def mJ(d:Nd)(h:Int):Option (Int×V×Ne):=d.find? λp=>decide (p.1=h)
def putN(d:Nd)(h:Int)(v:V)(e:Ne):Nd:=if h∈d.map (·.1)then d.map (λp=>if p.1=h then(h,v,e)else p)else d++[(h,v,e)]
def Ed(d:Nd)(h:Int):Nd:=d.filter λp=>!decide (p.1=h)
theorem Ee(d:Nd)(h:Int):eW (d.map lT) (Sum.inl h)=(mJ d h).map (·.2.1):=by
 unfold eW mJ;rw[List.find?_map,Option.map_map];have e:((λkv:Key×V=>decide (kv.1=Sum.inl h))∘lT)=λp:Int×V×Ne=>decide (p.1=h):=by
  funext m
  simp[lT]
 rw[e];rfl
theorem Mj(d:Nd)(h:Int)(v:V)(e:Ne):putK (d.map lT) (Sum.inl h) v=(putN d h v e).map lT:=by
 unfold putK putN;have ea:((d.map lT).any λkv=>decide (kv.1=Sum.inl h))=decide (h∈d.map (·.1)):=by
  rw[List.any_map,Bool.eq_iff_iff,List.any_eq_true,decide_eq_true_iff,List.mem_map];constructor
  ·rintro⟨m,hm,h⟩;exact⟨m,hm,by simpa[lT]using h⟩
  rintro⟨m,hm,h⟩;exact⟨m,hm,by simp[lT,h]⟩
 rw[ea];by_cases c:h∈d.map (·.1)
 ·rw[if_pos (by simpa using c),if_pos c,List.map_map,List.map_map];refine List.map_congr_left λm _=>?_;show(if(lT m).1=Sum.inl h then((lT m).1,v)else lT m)=lT (if m.1=h then(h,v,e)else m);by_cases c:m.1=h
  ·rw[if_pos c,if_pos (by simp[lT,c])];simp[lT,c]
  rw[if_neg c,if_neg (by simp[lT,c])]
 rw[if_neg (by simpa using c),if_neg c,List.map_append];rfl
theorem CP(d:Nd)(h:Int)(v:V)(e:Ne):(putN d h v e).map (·.1)=if h∈d.map (·.1)then d.map (·.1)else d.map (·.1)++[h]:=by
 unfold putN;by_cases c:h∈d.map (·.1)
 ·rw[if_pos c,if_pos c,List.map_map];refine List.map_congr_left λm _=>?_;show(if m.1=h then(h,v,e)else m).1=m.1;split
  ·rename_i c;exact c.symm
  rfl
 rw[if_neg c,if_neg c,List.map_append];rfl
theorem AG{d:Nd}(nd:(d.map (·.1)).Nodup)(h:Int)(v:V)(e:Ne):((putN d h v e).map (·.1)).Nodup:=by
 rw[CP];split
 ·exact nd
 rename_i c;refine List.nodup_append.mpr ⟨nd,by simp,λa ha b hb=>?_⟩;rw[List.mem_singleton.mp hb];rintro rfl;exact c ha
theorem yN{d:Nd}{h:Int}{v:V}{e:Ne}{p:Int×V×Ne}:p∈putN d h v e->p=(h,v,e)\/p∈d:=by
 unfold putN;split
 ·intro z;obtain⟨x,hx,e⟩:=List.mem_map.mp z;split at e
  ·exact .inl e.symm
  exact .inr (e▸hx)
 intro z;rcases List.mem_append.mp z with z|z
 ·exact .inr z
 exact .inl (List.mem_singleton.mp z)
structure Gh(K:PySem.W.Frag)(H:Hp)(a:Addr)(xs:Nd):Prop where
 d:H a=some (.dK (xs.map lT))
 nd:(xs.map (·.1)).Nodup
 v:∀p∈xs,ae K H 3 p.2.1 (E9 p.2.2)
theorem Gh.same{K:PySem.W.Frag}{H H':Hp}{a:Addr}{d:Nd}(h:Gh K H a d)(s:aH H H'):Gh K H' a d:=⟨s _ _ h.d,h.nd,λp hp=>(h.v p hp).same s⟩
structure rf(K:PySem.W.Frag)(H:Hp)(nl:Addr)(ds:List (Addr×Nd)):Prop where
 l:H nl=some (.lst (ds.map λx=>V.ref x.1))
 d:∀x∈ds,Gh K H x.1 x.2
 ap:(ds.map (·.1)).Nodup
theorem rf.same{K:PySem.W.Frag}{H H':Hp}{nl:Addr}{ds:List (Addr×Nd)}(h:rf K H nl ds)(s:aH H H'):rf K H' nl ds:=⟨s _ _ h.l,λx hx=>(h.d x hx).same s,h.ap⟩
theorem rf.set{K:PySem.W.Frag}{H:Hp}{nl:Addr}{ds:List (Addr×Nd)}(h:rf K H nl ds){i:Nat}{x:Addr×Nd}(hi:ds[i]?=some x){d':Nd}(nd:(d'.map (·.1)).Nodup)(hv:∀p∈d',ae K H 3 p.2.1 (E9 p.2.2)):rf K (upd H x.1 (.dK (d'.map lT))) nl (ds.set i (x.1,d')):=by
 have hx:=h.d x (List.mem_of_getElem? hi);have kp:=bj (o:=.dK (d'.map lT)) (pZ.dk hx.d);have Te:nl≠x.1:=lJ h.l hx.d (by intro z;cases z);obtain⟨il,ie⟩:=List.getElem?_eq_some_iff.mp hi;have em:(ds.set i (x.1,d')).map (·.1)=ds.map (·.1):=by
  rw[List.map_set];refine List.ext_getElem (by simp) λj h1 h2=>?_;rw[List.getElem_set];split
  ·rename_i c;subst c;simp[ie]
  rfl
 have er:(ds.set i (x.1,d')).map (λx=>V.ref x.1)=ds.map λx=>V.ref x.1:=by have:=congrArg (List.map V.ref) em;rw[List.map_map,List.map_map]at this;exact this
 refine⟨by rw[aI Te,er];exact h.l,λy hy=>?_,by rw[em];exact h.ap⟩;obtain⟨j,jl,rfl⟩:=List.getElem_of_mem hy;rw[List.getElem_set];split
 ·exact⟨aB,nd,λp hp=>(hv p hp).kept kp (AF _)⟩
 rename_i c;have Py:j<ds.length:=by simpa using jl
 have hj:=h.d ds[j] (List.getElem_mem Py);have ne:ds[j].1≠x.1:=λz=>by
  have p:=List.pairwise_iff_getElem.mp h.ap;rcases Nat.lt_or_gt_of_ne c with g|g
  ·exact p i j (by simpa using il) (by simpa using Py) g (by simp[ie,z])
  exact p j i (by simpa using Py) (by simpa using il) g (by simp[ie,z])
 exact⟨by rw[aI ne];exact hj.d,hj.nd,λp hp=>(hj.v p hp).kept kp (AF _)⟩
def lU(os:List Int)(many k:Nat)(h:Int):Prop:=(∃j:Nat,j<many/\j≠k/\os[j]?=some h)\/(many<5/\(os[6]?=some h\/os[7]?=some h))
def Ef(e:Ne):Prop:=(1<=e.q/\e.q<=10)/\(1<=e.a/\e.a<=9000)/\(1<=e.b/\e.b<=9000)
def qK(os:List Int)(many:Nat)(ds:List (Addr×Nd)):Prop:=∀k x,ds[k]?=some x->∀p∈x.2,lU os many k p.1/\Ef p.2.2
theorem lU.mem{os:List Int}{many k:Nat}{h:Int}(a:lU os many k h):h∈os:=by rcases a with⟨j,_,_,e⟩|⟨_,e|e⟩<;>exact List.mem_of_getElem? e
theorem qK.len{os:List Int}{many:Nat}{ds:List (Addr×Nd)}(h:qK os many ds){k:Nat}{x:Addr×Nd}(hx:ds[k]?=some x)(nd:(x.2.map (·.1)).Nodup):x.2.length<=os.length:=by
 have:=gW os (x.2.map (·.1)) nd λy hy=>by obtain⟨p,hp,rfl⟩:=List.mem_map.mp hy;exact(h k x hx p hp).1.mem
 rwa [List.length_map]at this
theorem qK.set{os:List Int}{many:Nat}{ds:List (Addr×Nd)}(h:qK os many ds){i:Nat}{x:Addr×Nd}(hx:ds[i]?=some x){d':Nd}(hd:∀p∈d',p∈x.2\/(lU os many i p.1/\Ef p.2.2)):qK os many (ds.set i (x.1,d')):=by
 intro k y hy p hp;rw[List.getElem?_set]at hy;split at hy
 ·rename_i c;subst c;split at hy
  ·cases hy;rcases hd p hp with z|z
   ·exact h i x hx p z
   exact z
  cases hy
 exact h k y hy p hp
structure Tl(K:PySem.W.Frag)(nl hl:Addr)(os:List Int)(S:List Addr)(H H':Hp)(ds:List (Addr×Nd)):Prop where
 m:mH S H H'
 r:rf K H' nl ds
 e:ds.map (·.1)=S
 k:qK os ds.length ds
 h:H' hl=some (.lst (os.map V.int))
theorem Tl.same{K:PySem.W.Frag}{nl hl:Addr}{os:List Int}{S:List Addr}{H H' H2:Hp}{ds:List (Addr×Nd)}(t:Tl K nl hl os S H H' ds)(s:aH H' H2):Tl K nl hl os S H H2 ds:=⟨λb o nb e=>s b o (t.m b o nb e),t.r.same s,t.e,t.k,s _ _ t.h⟩
theorem Tl.set{K:PySem.W.Frag}{nl hl:Addr}{os:List Int}{S:List Addr}{H H':Hp}{ds:List (Addr×Nd)}(t:Tl K nl hl os S H H' ds){i:Nat}{x:Addr×Nd}(hx:ds[i]?=some x){d':Nd}(nd:(d'.map (·.1)).Nodup)(hv:∀p∈d',ae K H' 3 p.2.1 (E9 p.2.2))(hd:∀p∈d',p∈x.2\/(lU os ds.length i p.1/\Ef p.2.2)):Tl K nl hl os S H (upd H' x.1 (.dK (d'.map lT))) (ds.set i (x.1,d')):=by
 have NR:=t.r.d x (List.mem_of_getElem? hx);obtain⟨il,ie⟩:=List.getElem?_eq_some_iff.mp hx;have em:(ds.set i (x.1,d')).map (·.1)=ds.map (·.1):=by
  rw[List.map_set];refine List.ext_getElem (by simp) λj h1 h2=>?_;rw[List.getElem_set];split
  ·rename_i c;subst c;simp[ie]
  rfl
 have xS:x.1∈S:=by rw[<-t.e];exact List.mem_map.mpr ⟨x,List.mem_of_getElem? hx,rfl⟩
 refine⟨λb o nb e=>?_,t.r.set hx nd hv,by rw[em];exact t.e,by rw[List.length_set];exact t.k.set hx hd,?_⟩
 ·rw[aI (λz=>nb (by rw[z];exact xS))];exact t.m b o nb e
 rw[aI (lJ t.h NR.d (by intro z;cases z))];exact t.h
theorem Tl.put{K:PySem.W.Frag}{nl hl:Addr}{os:List Int}{S:List Addr}{H H':Hp}{ds:List (Addr×Nd)}(t:Tl K nl hl os S H H' ds){i:Nat}{x:Addr×Nd}(hx:ds[i]?=some x){h:Int}{v:V}{e:Ne}(hv:ae K H' 3 v (E9 e))(ha:lU os ds.length i h)(he:Ef e):Tl K nl hl os S H (upd H' x.1 (.dK (putK (x.2.map lT) (Sum.inl h) v))) (ds.set i (x.1,putN x.2 h v e)):=by
 have NR:=t.r.d x (List.mem_of_getElem? hx);rw[Mj x.2 h v e];refine t.set hx (AG NR.nd _ _ _) (λp hp=>?_) (λp hp=>?_)
 ·rcases yN hp with rfl|z
  ·exact hv
  exact NR.v p z
 rcases yN hp with rfl|z
 ·exact .inr ⟨ha,he⟩
 exact .inl z
def oA(K:PySem.W.Frag):Sp:=λvs H Q _=>∃(nl hl:Addr)(c:Int)(pl:Bool)(os:List Int)(ds:List (Addr×Nd)),vs=[.ref nl,.ref hl,.int c,.int (ds.length:Nat),.bl pl]/\Tl K nl hl os (ds.map (·.1)) H H ds/\os.length=8/\2<=ds.length/\ds.length<=6/\∀(H':Hp)(Q2:List (Addr×Nd)),Tl K nl hl os (ds.map (·.1)) H H' Q2->Q2.length=ds.length->Q .ba H'
theorem J8{K:PySem.W.Frag}{H:Hp}{p r:Addr}{q a b:Int}(h1:ao K H r [.int q,.ref p])(h2:ao K H p [.int a,.int b]):ae K H 3 (.ref r) (E9 ⟨q,a,b⟩):=by
 refine .tup h1 rfl λi v d e1 e2=>?_
 match i with
 |0=>cases e1;cases e2;exact .int _
 |1 =>
  cases e1;cases e2;refine .tup h2 rfl λi v d e1 e2=>?_
  match i with
  |0=>cases e1;cases e2;exact .int _
  |1=>cases e1;cases e2;exact .int _
  |i+2=>simp at e1
 |i+2=>simp at e1
theorem J9(d:Nd)(h:Int):qo (d.map lT) (Sum.inl h)=(Ed d h).map lT:=by
 unfold qo Ed;rw[List.filter_map]
 congr 1
 refine List.filter_congr λp _=>?_;simp[lT]
theorem bH:aQ ["near","houses","cell","many","plain","a","step","length","more","kind","birth","b"] ["near","houses","cell","many","plain"] (aG gQ):=⟨rfl,rfl,rfl,by decide +kernel,rfl,by decide +kernel,by decide +kernel⟩
set_option maxHeartbeats 2000000 in
theorem vy(F:aK K mg "_law_told" gQ)(T:Txt K mg t)(cT:Def P w K mg base 2 "_law_drawn" ["cell","bounds"] (gx K)):Def P w K mg base 3 "_law_told" ["near","houses","cell","many","plain"] (oA K):=by
 refine F.def bH (λ_ _ _ _ _ _ us hl=>match us,hl with|[_,_,_,_,_],_=>rfl) (λvs H Q E h=>?_) (λf bU A outer s H vs Q E hr h=>?_)
 ·obtain⟨nl,hl,c,pl,os,ds,rfl,_⟩:=h;rfl
 obtain⟨nl,hl,c,pl,os,ds,rfl,tl,ol,d2,d6,q⟩:=h;refine⟨_,aD (yt (aV (cT.mono (by decide)) hr au (aA (pv 2) (aA (cJ (aA (pv 3) (aA (ah qh (pv 3) aE) (aA aE (aA aE (aA aE (aA aE aC))))))) aC))) (F9 K rfl (aa (aJ (i:=5) bH.nd rfl (Or.inl rfl)) (aa (aJ (i:=6) bH.nd rfl (Or.inl rfl)) (aa (aJ (i:=7) bH.nd rfl (Or.inl rfl)) (aa (aJ (i:=8) bH.nd rfl (Or.inl rfl)) (aa (aJ (i:=9) bH.nd rfl (Or.inl rfl)) (aa (aJ (i:=10) bH.nd rfl (Or.inl rfl)) eU))))))))
  (aD (aT (i:=11) bH.nd rfl (Or.inl rfl) (ah cz (ah bh (ah bh (pv 5) aE) (pv 6)) (pv 3)))
  (aD (j0 (ay (fL (pv 4))
   (aF (yt (aw (aA aE (aA aE aC))) (ko K (i:=7) (j:=8) rfl bH.nd rfl rfl (Or.inl rfl) (Or.inl rfl))))
   (aZ)))
  (aD (kq (br hr) (aN (aP K) (pv 0) (pv 5) (λ_ _=>rfl)) (aN (aP K) (pv 1) (pv 11) (λ_ _=>rfl)) (aw (aA (ah bh aE (pv 7)) (aA (aw (aA (ah bh aE (pv 10)) (aA aE aC))) aC))) (by rfl))
  (aD (j0 (ay (aO dR (pv 9) aE (aU _))
   (aF (bV (DW (aN (aP K) (pv 0) (pv 11) (λ_ _=>rfl)) (aN (aP K) (pv 1) (pv 5) (λ_ _=>rfl)) yr ⟨rfl,rfl,rfl,rfl⟩)))
   (aF (ay (aO dR (pv 9) aE (aU _))
    (aF (kq (br hr) (aN (aP K) (pv 0) (pv 11) (λ_ _=>rfl)) (aN (aP K) (pv 1) (pv 5) (λ_ _=>rfl)) (aw (aA (ah bh aE (pv 8)) (aA (aw (aA (ah bh aE (pv 10)) (aA aE aC))) aC))) (by rfl)))
    (aF (kq (br hr) (aN (aP K) (pv 0) (pv 11) (λ_ _=>rfl)) (aN (aP K) (pv 1) (pv 5) (λ_ _=>rfl)) (aw (aA (ah bh aE (aN (aP K) (cJ (aA (pv 7) (aA (pv 8) aC))) (ah cz (pv 9) aE) (λ_ _=>rfl))) (aA (aw (aA (ah bh aE (pv 10)) (aA aE aC))) aC))) (by rfl)))))))
  (aF (ay (PW.pt (jr (aO dR (pv 9) aE (aU _)) (ig (aO pL (pv 3) aE (aU _)))))
   (aF (kq (br hr) (aN (aP K) (pv 0) (pv 5) (λ_ _=>rfl)) (aN (aP K) (pv 1) (ah bh aE (ah cz (pv 10) aE)) (λ_ _=>rfl)) (aw (aA (ah bh aE (pv 8)) (aA (aw (aA aE (aA aE aC))) aC))) (by rfl)))
   (aZ))))))),?_⟩
 have hsz:(2000:Nat)<=sizeLine:=by decide
 refine⟨_,rfl,_,rfl,_,rfl,_,_,rfl,rfl,zz6,λp1 Gi=>?_⟩;have s1:=(aH.refl H).new (o:=.lst [.int (ds.length:Nat),.int ((ds.length:Nat)-1),.int 10,.int 10,.int 8,.int 3]) Gi;refine⟨c,p1,[(ds.length:Nat),(ds.length:Nat)-1,10,10,8,3],rfl,aB,by show 6<=100;decide,λb hb=>?_,λdr H2 ms s2 Uo e2 dk=>?_⟩
 ·simp only[List.mem_cons,List.not_mem_nil,or_false]at hb;lia
 have S2:=s1.trans s2;obtain⟨a,st,ln,mo,ki,bi,rfl⟩:∃a b c d e f,ms=[a,b,c,d,e,f]:=by
  match ms,dk.1 with
  |[a,b,c,d,e,f],_=>exact⟨a,b,c,d,e,f,rfl⟩
 have ka:=dk.2 0 _ _ rfl rfl;have ks:=dk.2 1 _ _ rfl rfl;have kl:=dk.2 2 _ _ rfl rfl;have km:=dk.2 3 _ _ rfl rfl;have kk:=dk.2 4 _ _ rfl rfl;have kb:=dk.2 5 _ _ rfl rfl;refine⟨dr,_,rfl,ag.of e2,rfl,_,_,rfl,_,_,rfl,_,_,rfl,_,_,rfl,_,_,rfl,_,_,rfl,rfl,?_⟩;have mp:(0:Int)<(ds.length:Nat):=by lia
 refine⟨_,rfl,_,_,rfl,rfl,_,rfl,_,_,rfl,rfl,_,rfl,_,_,rfl,rfl,mp,?_⟩;obtain⟨b,hb,bl⟩:∃b:Nat,(a+1+st)%(ds.length:Nat)=(b:Int)/\b<ds.length:=by have h0:=Int.emod_nonneg (a+1+st) (show((ds.length:Nat):Int)≠0 by lia);have h1:=Int.emod_lt_of_pos (a+1+st) mp;exact⟨((a+1+st)%(ds.length:Nat)).toNat,by lia,by lia⟩
 obtain⟨an,rfl⟩:∃an:Nat,a=an:=⟨a.toNat,by lia⟩;have Pz:an≠b:=λz=>by
  subst z;have h1:((ds.length:Nat):Int) ∣ 1+st:=⟨((an:Int)+1+st)/(ds.length:Nat),by have:=Int.mul_ediv_add_emod ((an:Int)+1+st) (ds.length:Nat);rw[hb]at this;lia⟩
  have:=Int.le_of_dvd (by lia) h1;lia
 dsimp only;rw[hb];refine⟨λσ H'=>aH H2 H'/\∃ln mo:Int,(0<=ln/\ln<10)/\(0<=mo/\mo<10)/\σ=[some (.ref nl),some (.ref hl),some (.int c),some (.int (ds.length:Nat)),some (.bl pl),some (.int an),some (.int st),some (.int ln),some (.int mo),some (.int ki),some (.int bi),some (.int b)],?_,?_⟩
 ·refine⟨_,rfl,pl,rfl,?_⟩;cases pl with
  |true =>
   refine eV ⟨zz2,λtp xC=>?_⟩;refine⟨tp,_,rfl,ao.of aB,rfl,_,_,rfl,_,_,rfl,rfl,?_⟩;exact⟨(aH.refl _).new xC,0,0,by decide,by decide,rfl⟩
  |false=>exact d0 ⟨.refl _,ln,mo,kl,km,rfl⟩
 clear kl km;rintro σ H3 ⟨s3,ln,mo,kl,km,rfl⟩;have t3:=(tl.same S2).same s3;have al:an<ds.length:=by lia
 have bb:0<=bi/\bi<3:=kb;have BI:∀{es:List (Addr×Nd)}{k:Nat}{x:Addr×Nd},es[k]?=some x->qB (es.map λx=>V.ref x.1) (k:Int)=some (V.ref x.1):=λh=>bW (by rw[List.getElem?_map,h];rfl);have yg:∀{k:Nat}{h:Int},os[k]?=some h->qB (os.map V.int) (k:Int)=some (V.int h):=λh=>bW (by rw[List.getElem?_map,h];rfl);obtain⟨ha,Eg⟩:∃h,os[an]?=some h:=⟨os[an],by simp[show an<os.length by lia]⟩;obtain⟨wW,Hz⟩:∃h,os[b]?=some h:=⟨os[b],by simp[show b<os.length by lia]⟩;have mk:∀{H3:Hp}{ip op:Addr}{q a b:Int},H3 ip=none->(upd H3 ip (.tup [.int a,.int b])) op=none->aH H3 (upd (upd H3 ip (.tup [.int a,.int b])) op (.tup [.int q,.ref ip]))/\ae K (upd (upd H3 ip (.tup [.int a,.int b])) op (.tup [.int q,.ref ip])) 3 (.ref op) (E9 ⟨q,a,b⟩):=λh1 h2 =>
  ⟨((aH.refl _).new h1).new h2,J8 (ao.of aB) (ao.of (by rw[aI (aY aB h2)];exact aB))⟩
 have sz:∀{H':Hp}{es:List (Addr×Nd)}{k:Nat}{x:Addr×Nd},Tl K nl hl os (ds.map (·.1)) H H' es->es[k]?=some x->(x.2.map lT).length<=100:=λt h=>by rw[List.length_map];have:=t.k.len h (t.r.d _ (List.mem_of_getElem? h)).nd;lia
 have len:∀{H':Hp}{es:List (Addr×Nd)},Tl K nl hl os (ds.map (·.1)) H H' es->es.length=ds.length:=λt=>by
  have:=congrArg List.length t.e
  rwa [List.length_map,List.length_map]at this
 obtain⟨xa,Gj⟩:∃x,ds[an]?=some x:=⟨ds[an],by simp[al]⟩;refine⟨_,rfl,_,_,rfl,rfl,_,rfl,_,_,rfl,rfl,zz2,λip KA=>⟨zz2,λop KC=>?_⟩⟩;obtain⟨u4,v4⟩:=mk (q:=1+ln) KA KC;have t4:=t3.same u4;generalize upd (upd H3 ip (.tup [.int (1+bi),.int 2])) op (.tup [.int (1+ln),.ref ip])=H4 at u4 v4 t4 ⊢;refine⟨_,rfl,_,rfl,nl,_,_,.ref xa.1,rfl,rfl,ag.of t4.r.l,BI Gj,_,rfl,_,rfl,hl,_,_,.int wW,rfl,rfl,ag.of t4.h,yg Hz,xa.1,_,rfl,.inl ⟨_,Sum.inl wW,(t4.r.d xa (List.mem_of_getElem? Gj)).d,rfl,by have:=sz t4 Gj;lia,rfl⟩,?_⟩;have t5:=t4.put Gj v4 (.inl ⟨b,bl,Ne.symm Pz,Hz⟩) ⟨⟨by show 1<=1+ln;lia,by show 1+ln<=10;lia⟩,⟨by show 1<=1+bi;lia,by show 1+bi<=9000;lia⟩,by show 1<=(2:Int)/\(2:Int)<=9000;decide⟩;generalize upd H4 xa.1 (.dK (putK (xa.2.map lT) (Sum.inl wW) (.ref op)))=H5 at t5 ⊢;generalize ds.set an (xa.1,putN xa.2 wW (.ref op) ⟨1+ln,1+bi,2⟩)=d5 at t5;have l5:=len t5;obtain⟨xb,yh⟩:∃x,d5[b]?=some x:=⟨d5[b],by simp[show b<d5.length by lia]⟩;refine⟨λσ H'=>(∃d6,Tl K nl hl os (ds.map (·.1)) H H' d6)/\σ=[some (.ref nl),some (.ref hl),some (.int c),some (.int (ds.length:Nat)),some (.bl pl),some (.int an),some (.int st),some (.int ln),some (.int mo),some (.int ki),some (.int bi),some (.int b)],?_,?_⟩
 ·refine⟨_,rfl,rfl,_,rfl,?_⟩;by_cases c0:ki=0
  ·refine bw (congrArg V.int c0) ?_;have xd:=t5.r.d xb (List.mem_of_getElem? yh);refine⟨_,rfl,_,rfl,nl,_,_,.ref xb.1,rfl,rfl,ag.of t5.r.l,BI yh,xb.1,rfl,.inl ⟨_,.inl xd.d⟩,_,rfl,_,rfl,hl,_,_,.int ha,rfl,rfl,ag.of t5.h,yg Eg,_,Sum.inl ha,xd.d,rfl,λv hv=>?_,λhn=>?_⟩
   ·refine⟨⟨d5.set b (xb.1,Ed xb.2 ha),?_⟩,rfl⟩;rw[J9];refine t5.set yh ?_ (λp hp=>xd.v p (List.mem_filter.mp hp).1) (λp hp=>.inl (List.mem_filter.mp hp).1);exact xd.nd.sublist ((List.filter_sublist).map _)
   exact⟨⟨d5,t5⟩,rfl⟩
  refine bu (λz=>c0 (V.int.inj z)) ?_;refine⟨_,rfl,rfl,_,rfl,?_⟩;by_cases c1:ki=1
  ·refine bw (congrArg V.int c1) ?_;refine⟨_,rfl,_,_,rfl,rfl,_,rfl,_,_,rfl,rfl,zz2,λip KA=>⟨zz2,λop KC=>?_⟩⟩;obtain⟨u6,v6⟩:=mk (q:=1+mo) KA KC;have t6:=t5.same u6;generalize upd (upd H5 ip (.tup [.int (2+bi),.int 2])) op (.tup [.int (1+mo),.ref ip])=H6 at u6 v6 t6 ⊢;refine⟨_,rfl,_,rfl,nl,_,_,.ref xb.1,rfl,rfl,ag.of t6.r.l,BI yh,_,rfl,_,rfl,hl,_,_,.int ha,rfl,rfl,ag.of t6.h,yg Eg,xb.1,_,rfl,.inl ⟨_,Sum.inl ha,(t6.r.d xb (List.mem_of_getElem? yh)).d,rfl,by have:=sz t6 yh;lia,rfl⟩,?_⟩;exact⟨⟨_,t6.put yh v6 (.inl ⟨an,by lia,Pz,Eg⟩) ⟨⟨by show 1<=1+mo;lia,by show 1+mo<=10;lia⟩,⟨by show 1<=2+bi;lia,by show 2+bi<=9000;lia⟩,by show 1<=(2:Int)/\(2:Int)<=9000;decide⟩⟩,rfl⟩
  refine bu (λz=>c1 (V.int.inj z)) ?_;obtain⟨z,ez,z0⟩:∃z:Int,qB [V.int ln,V.int mo] (ki%2)=some (.int z)/\0<=z/\z<10:=by
   rcases Int.emod_two_eq ki with e|e
   ·rw[e];exact⟨ln,rfl,kl⟩
   rw[e];exact⟨mo,rfl,km⟩
  refine⟨_,rfl,_,rfl,zz2,λlp Tf=>?_⟩;have s6:=(aH.refl H5).new (o:=.lst [.int ln,.int mo]) Tf;refine⟨_,rfl,_,_,rfl,rfl,(by show(0:Int)<2;decide),lp,_,_,.int z,rfl,rfl,ag.of aB,ez,_,_,rfl,rfl,?_⟩;generalize upd H5 lp (.lst [.int ln,.int mo])=Tg at s6 ⊢;refine⟨_,rfl,_,_,rfl,rfl,zz2,λip KA=>⟨zz2,λop KC=>?_⟩⟩;obtain⟨u6,v6⟩:=mk (q:=1+z) KA KC;have t6:=(t5.same s6).same u6;generalize upd (upd Tg ip (.tup [.int (1+bi),.int 2])) op (.tup [.int (1+z),.ref ip])=H6 at u6 v6 t6 ⊢;refine⟨_,rfl,_,rfl,nl,_,_,.ref xb.1,rfl,rfl,ag.of t6.r.l,BI yh,_,rfl,_,rfl,hl,_,_,.int ha,rfl,rfl,ag.of t6.h,yg Eg,xb.1,_,rfl,.inl ⟨_,Sum.inl ha,(t6.r.d xb (List.mem_of_getElem? yh)).d,rfl,by have:=sz t6 yh;lia,rfl⟩,?_⟩;exact⟨⟨_,t6.put yh v6 (.inl ⟨an,by lia,Pz,Eg⟩) ⟨⟨by show 1<=1+z;lia,by show 1+z<=10;lia⟩,⟨by show 1<=1+bi;lia,by show 1+bi<=9000;lia⟩,by show 1<=(2:Int)/\(2:Int)<=9000;decide⟩⟩,rfl⟩
 rintro σ H6 ⟨⟨e6,t6⟩,rfl⟩;have l6:=len t6;refine⟨_,rfl,rfl,_,rfl,?_⟩;by_cases c2:ki=2
 ·refine bw (congrArg V.int c2) ?_;refine⟨_,rfl,_,_,rfl,rfl,_,rfl,?_⟩;by_cases c5:((ds.length:Nat):Int)<5
  ·refine bw c5 ?_;obtain⟨xc,exc⟩:∃x,e6[an]?=some x:=⟨e6[an],by simp[show an<e6.length by lia]⟩;obtain⟨j,ej,jj⟩:∃j:Nat,6+bi%2=(j:Int)/\(j=6\/j=7):=by
    rcases Int.emod_two_eq bi with e|e
    ·exact⟨6,by lia,.inl rfl⟩
    exact⟨7,by lia,.inr rfl⟩
   obtain⟨hc,P0⟩:∃h,os[j]?=some h:=⟨os[j]'(by lia),by simp[show j<os.length by lia]⟩;refine⟨_,rfl,_,_,rfl,rfl,zz2,λip KA=>⟨zz2,λop KC=>?_⟩⟩;obtain⟨u7,v7⟩:=mk (q:=1+mo) KA KC;have t7:=t6.same u7;generalize upd (upd H6 ip (.tup [.int 1,.int 1])) op (.tup [.int (1+mo),.ref ip])=H7 at u7 v7 t7 ⊢;refine⟨_,rfl,_,rfl,nl,_,_,.ref xc.1,rfl,rfl,ag.of t7.r.l,BI exc,_,rfl,_,rfl,_,_,rfl,rfl,(by show(0:Int)<2;decide),_,_,rfl,rfl,hl,_,_,.int hc,rfl,rfl,ag.of t7.h,(by rw[ej];exact yg P0),xc.1,_,rfl,.inl ⟨_,Sum.inl hc,(t7.r.d xc (List.mem_of_getElem? exc)).d,rfl,by have:=sz t7 exc;lia,rfl⟩,?_⟩;have t8:=t7.put exc v7 (.inr ⟨by lia,by rcases jj with rfl|rfl;exact .inl P0;exact .inr P0⟩) ⟨⟨by show 1<=1+mo;lia,by show 1+mo<=10;lia⟩,by show 1<=(1:Int)/\(1:Int)<=9000;decide,by show 1<=(1:Int)/\(1:Int)<=9000;decide⟩;exact q _ _ t8 (len t8)
  exact bu c5 (q _ _ t6 l6)
 exact bu (λz=>c2 (V.int.inj z)) (q _ _ t6 l6)
def Ml:List Int:=[6,4,6,32,32,32,32,32,32,32,32]
theorem Eh:∀b∈Ml,0<b/\b<=1000000:=by decide
def oC(K:PySem.W.Frag):Sp:=λvs H Q _=>∃(sc:Addr)(cs:List Int)(ex:Int),vs=[.ref sc,.int ex]/\ag K H sc (cs.map V.int)/\cs.length<=100/\0<=ex/\ex<=100/\∀(r nl hl:Addr)(H':Hp)(os:List Int)(ds:List (Addr×Nd)),aH H H'->ao K H' r [.ref hl,.int (ds.length:Nat),.ref nl]->rf K H' nl ds->qK os ds.length ds->H' hl=some (.lst (os.map V.int))->tP os->os.length=8->1<=ds.length->ds.length<=6->Q (.ref r) H'
theorem bq:aQ ["script","extra","first","head","many","houses","near","cell"] ["script","extra"] (aG cv):=⟨rfl,rfl,rfl,by decide +kernel,rfl,by decide +kernel,by decide +kernel⟩
set_option maxHeartbeats 2000000 in
theorem vz(F:aK K mg "_law_news" cv)(T:Txt K mg t)(bJ:Def P w K mg base 1 "_law_cell_at" ["script","k"] (eI K))(bD:Def P w K mg base 1 "_law_mixed" ["cell","k"] dq)(cT:Def P w K mg base 2 "_law_drawn" ["cell","bounds"] (gx K))(gy:Def P w K mg base 1 "_law_houses" ["drawn"] (kI K))(kK:Def P w K mg base 3 "_law_told" ["near","houses","cell","many","plain"] (oA K)):Def P w K mg base 4 "_law_news" ["script","extra"] (oC K):=by
 refine F.def bq (λ_ _ _ _ _ _ us hl=>match us,hl with|[_,_],_=>rfl) (λvs H Q E h=>?_) (λf bU A outer s H vs Q E hr h=>?_)
 ·obtain⟨sc,cs,ex,rfl,_⟩:=h;rfl
 obtain⟨sc,cs,ex,rfl,hS,cl,x0,x1,q⟩:=h;refine⟨_,aD (aT (i:=2) bq.nd rfl (Or.inr rfl) (aV (bJ.mono (by decide)) hr au (aA (pv 0) (aA aE aC))))
  (aD (aT (i:=3) bq.nd rfl (Or.inl rfl) (aV (cT.mono (by decide)) hr au (aA (pv 2) (aA (ah (iz K) (cJ (aA aE (aA aE (aA aE aC)))) (ah JB (cJ (aA aE aC)) aE)) aC))))
  (aD (aT (i:=4) bq.nd rfl (Or.inl rfl) (ah bh aE (aN (aP K) (pv 3) aE (λ_ _=>rfl))))
  (aD (aT (i:=5) bq.nd rfl (Or.inl rfl) (aV (gy.mono (by decide)) hr au (aA (iJ (j3 K) (pv 3) (gI aE) qS) aC)))
  (aD (jx (i:=6) bq.nd rfl (Or.inl rfl) rfl (Nc:=["k"]) (ix:=[none]) (cF (aG cv) ["script","extra","first","head","many","houses","near","cell"] rfl rfl (by decide +kernel)) (bx (by rfl) T.dI (aA (pv 4) aC)) (λC fp s H=>⟨(aJ (i:=0) (show(["k"]:List Str).Nodup by decide +kernel) rfl (Or.inl rfl)),cO,xJ⟩))
  (aD (PS.wU (bL PassesOwn.never rfl (bF K (ah (iz K) (iJ (j3 K) (pv 0) (gI aE) (gI aE)) (je rfl (Nc:=["k","first"]) (ix:=[none,some 2]) (cF (aG cv) ["script","extra","first","head","many","houses","near","cell"] rfl rfl (by decide +kernel)) (bx (by rfl) T.dI (aA (ah bh (aN (aP K) (pv 3) aE (λ_ _=>rfl)) (pv 1)) aC)) (λC fp s H=>⟨(aJ (i:=0) (show(["k","first"]:List Str).Nodup by decide +kernel) rfl (Or.inl rfl)),cO,(aV (bD.mono (by decide)) hr au (aA (pv 1) (aA (ah bh aE (pv 0)) aC)))⟩)))) (aJ (i:=7) bq.nd rfl (Or.inl rfl))
   (aF (ay (aO pM (pv 4) aE (aU _))
    (aF (bV (aV (kK.mono (by decide)) hr au (aA (pv 6) (aA (pv 5) (aA (pv 7) (aA (pv 4) (aA (bK dR (aN (aP K) (pv 3) aE (λ_ _=>rfl)) aE (aU _)) aC))))))))
    (aZ)))))
  (aF (aS (aw (aA (pv 5) (aA (pv 4) (aA (pv 6) aC))))))))))),?_⟩
 have hsz:(2000:Nat)<=sizeLine:=by decide
 refine⟨_,rfl,sc,cs,0,rfl,hS,by decide,λfi=>?_⟩;refine⟨_,rfl,zz3,λp1 Gi=>⟨zz1,λp2 Bo=>⟨p2,8,_,rfl,rfl,aB,by decide,by decide,by decide,λp3 NS=>?_⟩⟩⟩;have s3:=(((aH.refl H).new (o:=.lst [.int 6,.int 4,.int 6]) Gi).new (o:=.lst [.int 32]) Bo).new (o:=.lst (List.replicate (8:Int).toNat [V.int 32]).flatten) NS;refine⟨p1,p3,_,_,rfl,rfl,ag.of (by rw[aI (aY (by rw[aI (aY aB Bo)];exact aB) NS),aI (aY aB Bo)];exact aB),ag.of aB,by decide,λp4 P1=>?_⟩;have s4:=s3.new (o:=.lst ([V.int 6,.int 4,.int 6]++(List.replicate (8:Int).toNat [V.int 32]).flatten)) P1;refine⟨fi,p4,Ml,rfl,aB,by decide,Eh,λhd H5 ms s5 nh e5 dk=>?_⟩;have S5:=s4.trans s5;have Gk:ms.length=11:=dk.1;obtain⟨m0,Q4⟩:∃m,ms[0]?=some m:=⟨ms[0],by simp[Gk]⟩;obtain⟨m1,Th⟩:∃m,ms[1]?=some m:=⟨ms[1],by simp[Gk]⟩;obtain⟨m2,Q5⟩:∃m,ms[2]?=some m:=⟨ms[2],by simp[Gk]⟩;have k0:=dk.2 0 _ _ Q4 rfl;have k2:=dk.2 2 _ _ Q5 rfl;have at':∀{k:Nat}{m:Int},ms[k]?=some m->qB (ms.map V.int) (k:Int)=some (V.int m):=λh=>bW (by rw[List.getElem?_map,h];rfl);refine⟨_,rfl,hd,_,_,.int m0,rfl,rfl,ag.of e5,at' Q4,_,_,rfl,rfl,?_⟩;obtain⟨many,Mm⟩:∃many:Nat,1+m0=(many:Int):=⟨(1+m0).toNat,by lia⟩;refine⟨_,rfl,_,rfl,hd,_,rfl,ag.of e5,λp6 Ti=>?_⟩;rw[A9 (by decide),<-List.map_drop];have s6:=(aH.refl H5).new (o:=.lst ((ms.drop (3:Int).toNat).map V.int)) Ti;have e6:(upd H5 p6 (.lst ((ms.drop (3:Int).toNat).map V.int))) p6=some (.lst ((ms.drop (3:Int).toNat).map V.int)):=aB;generalize upd H5 p6 (.lst ((ms.drop (3:Int).toNat).map V.int))=H6 at s6 e6 ⊢;have Tj:(ms.drop (3:Int).toNat).length=8:=by rw[List.length_drop,Gk];rfl
 refine⟨p6,_,rfl,e6,by lia,λhl H7 os s7 Tn e7 ol oN=>?_⟩;rw[Tj]at ol;have S7:=S5.trans (s6.trans s7);have Q6:=(s6.trans s7) _ _ e5;dsimp only;rw[Mm];have mn:1<=many/\many<=6:=by lia
 refine⟨_,rfl,(many:Int),rfl,by lia,by lia,λnl Ma=>?_⟩;have Cn:H nl=none:=S7.free Ma;refine nJ (lo:=0) (n:=((many:Nat):Int).toNat) (λi σ H'=>∃(v:Option V)(ds:List (Addr×Nd)),σ=[v]/\aH H7 H'/\H' nl=some (.lst (ds.map λx=>V.ref x.1))/\ds.length=i/\(∀x∈ds,x.2=[]/\H' x.1=some (.dK [])/\H7 x.1=none)/\(ds.map (·.1)).Nodup) ⟨none,[],rfl,(aH.refl _).new Ma,aB,rfl,λx hx=>absurd hx List.not_mem_nil,List.nodup_nil⟩ ?_ ?_
 ·rintro i σ H8 N hN hi ⟨v,ds,rfl,s8,e8,dl,KD,P2⟩;refine c8 ?_;refine λp hp=>?_;have np:nl≠p:=aY e8 hp;refine⟨_,by rw[aI np];exact e8,by rw[List.length_map];lia,hN _ _ ⟨_,ds++[(p,[])],rfl,(s8.new hp).put Ma,by rw[aB,List.map_append];rfl,by rw[List.length_append,dl];rfl,λx hx=>?_,?_⟩⟩
  ·rcases List.mem_append.mp hx with h|h
   ·obtain⟨a1,a2,a3⟩:=KD x h;have n1:x.1≠nl:=lJ a2 e8 (by intro z;cases z);have n2:x.1≠p:=aY a2 hp;exact⟨a1,by rw[aI n1,aI n2];exact a2,a3⟩
   rw[List.mem_singleton.mp h];exact⟨rfl,by rw[aI (Ne.symm np)];exact aB,s8.free hp⟩
  rw[List.map_append];refine List.nodup_append.mpr ⟨P2,by simp,λa ha b hb=>?_⟩;rw[List.mem_singleton.mp hb];obtain⟨x,hx,rfl⟩:=List.mem_map.mp ha;exact aY (KD x hx).2.1 hp
 rintro σ H8 ⟨v,ds,rfl,s8,e8,dl,KD,P2⟩;have Up:ds.length=many:=by lia
 have S8:=S7.trans s8;have To:rf K H8 nl ds:=⟨e8,λx hx=>by obtain⟨a1,a2,_⟩:=KD x hx;exact⟨by rw[a1];exact a2,by rw[a1];exact List.nodup_nil,λp hp=>by rw[a1]at hp;exact absurd hp List.not_mem_nil⟩,P2⟩
 have Tp:qK os ds.length ds:=λk x hx p hp=>by rw[(KD x (List.mem_of_getElem? hx)).1]at hp;exact absurd hp List.not_mem_nil
 have fr:∀b∈ds.map (·.1),H b=none:=λb hb=>by obtain⟨x,hx,rfl⟩:=List.mem_map.mp hb;exact S7.free (KD x hx).2.2
 have Tq:Tl K nl hl os (ds.map (·.1)) H8 H8 ds:=⟨λb o _ e=>e,To,rfl,Tp,s8 _ _ e7⟩;refine⟨_,rfl,_,rfl,_,rfl,sc,_,rfl,S8.seq hS,λsl DK=>?_⟩;obtain⟨ys,ey,_,yl⟩:=nK cs (some 1) (some 31);rw[ey];have s9:=(aH.refl H8).new (o:=.lst (ys.map V.int)) DK;have e9:(upd H8 sl (.lst (ys.map V.int))) sl=some (.lst (ys.map V.int)):=aB;generalize upd H8 sl (.lst (ys.map V.int))=H9 at s9 e9 ⊢;refine⟨_,rfl,hd,_,_,.int m2,rfl,rfl,ag.of ((s8.trans s9) _ _ Q6),at' Q5,_,rfl,_,_,rfl,rfl,_,rfl,by lia,by lia,λD hD=>?_⟩;refine nJ (lo:=0) (n:=(m2+ex).toNat) (λi σ H'=>∃(v:Option V)(zs:List Int),σ=[v,some (.int fi)]/\aH H9 H'/\H' D=some (.lst (zs.map V.int))/\zs.length=i) ⟨none,[],rfl,(aH.refl _).new hD,aB,rfl⟩ ?_ ?_
 ·rintro i σ HA N hN hi ⟨v,zs,rfl,sA,eA,zl⟩;refine c8 ?_;refine⟨_,rfl,_,rfl,_,_,rfl,rfl,fi,_,rfl,by lia,by lia,λm _=>?_⟩;exact⟨_,eA,by rw[List.length_map];lia,hN _ _ ⟨_,zs++[m],rfl,sA.put hD,by rw[aB,List.map_append];rfl,by rw[List.length_append,zl];rfl⟩⟩
 rintro σ HA ⟨v,zs,rfl,sA,eA,zl⟩;refine⟨sl,D,_,_,rfl,rfl,ag.of (sA _ _ e9),ag.of eA,by rw[List.length_map,List.length_map];lia,λpl wV=>?_⟩;rw[<-List.map_append];have sB:=(s9.trans sA).new (o:=.lst ((ys++zs).map V.int)) wV;have eB:(upd HA pl (.lst ((ys++zs).map V.int))) pl=some (.lst ((ys++zs).map V.int)):=aB;generalize upd HA pl (.lst ((ys++zs).map V.int))=HB at sB eB ⊢;generalize ys++zs=cells at eB ⊢;have NT:=Tq.same sB;have Mn:∀{b:Addr}{l:List V},HB b=some (.lst l)->b∉ds.map (·.1):=λe hb=>by obtain⟨x,hx,rfl⟩:=List.mem_map.mp hb;have:=sB _ _ (KD x hx).2.1;rw[e]at this;cases this
 have Q7:=(s8.trans sB) _ _ Q6
 let I:Nat->_->_->Prop:=λi σ H'=>∃(es:List (Addr×Nd))(v7:Option V),σ=[some (.ref sc),some (.int ex),some (.int fi),some (.ref hd),some (.int (many:Nat)),some (.ref hl),some (.ref nl),v7]/\Tl K nl hl os (ds.map (·.1)) HB H' es
 refine⟨pl,rfl,⟨_,ag.of eB⟩,dy (K:=K) (a:=pl) (xs:=cells.map V.int) I ⟨ds,none,rfl,⟨λb o _ e=>e,NT.r,NT.e,NT.k,NT.h⟩⟩ (λi σ H' _ ⟨_,_,_,t⟩=>ag.of (t.m _ _ (Mn eB) eB)) ?_ ?_⟩
 ·rintro i y σ HC hi ⟨es,v7,rfl,tC⟩;obtain⟨c,_,rfl⟩:=c7 hi;have el:es.length=many:=by have:=congrArg List.length tC.e;rw[List.length_map,List.length_map]at this;lia
  refine⟨_,rfl,_,_,rfl,rfl,_,rfl,?_⟩;by_cases c1:(1:Int)<(many:Nat)
  ·refine bw c1 ?_;refine⟨_,rfl,_,rfl,_,rfl,_,rfl,_,rfl,hd,_,_,.int m1,rfl,rfl,ag.of (tC.m _ _ (Mn Q7) Q7),at' Th,rfl,?_⟩;refine⟨nl,hl,c,_,os,es,(by rw[el];exact rfl),⟨λb o _ e=>e,tC.r,rfl,tC.k,tC.h⟩,ol,by lia,by lia,λHD fs tD fl=>?_⟩;refine⟨fs,_,rfl,⟨λb o nb e=>tD.m b o (by rw[tC.e];exact nb) (tC.m b o nb e),tD.r,by rw[tD.e,tC.e],tD.k,tD.h⟩⟩
  exact bu c1 ⟨es,_,rfl,tC⟩
 rintro σ HC ⟨es,v7,rfl,tC⟩;have el:es.length=many:=by have:=congrArg List.length tC.e;rw[List.length_map,List.length_map]at this;lia
 refine⟨_,rfl,_,rfl,_,rfl,zz3,λr hr=>?_⟩;have sD:=(aH.refl HC).new (o:=.tup [.ref hl,.int (many:Nat),.ref nl]) hr;have sC:aH H HC:=λb o e=>tC.m b o (λhb=>by rw[fr b hb]at e;cases e) (S8.trans sB b o e);refine q r nl hl _ os es (sC.trans sD) (by rw[el];exact ao.of aB) (tC.r.same sD) tC.k (sD _ _ tC.h) oN ol (by lia) (by lia)
theorem lU.in{os:List Int}{many k:Nat}{h:Int}(a:lU os many k h):h∈((List.range many).filter λj=>decide (j≠k)).map (λj=>os.getD j 0)++(if many<5 then[os.getD 6 0,os.getD 7 0]else[]):=by
 have gd:∀{j:Nat},os[j]?=some h->os.getD j 0=h:=λe=>by rw[List.getD_eq_getElem?_getD,e];rfl
 rcases a with⟨j,jm,jk,e⟩|⟨m5,e|e⟩
 ·exact List.mem_append_left _ (List.mem_map.mpr ⟨j,List.mem_filter.mpr ⟨List.mem_range.mpr jm,by simpa using jk⟩,gd e⟩)
 ·exact List.mem_append_right _ (by rw[if_pos m5,gd e];exact List.mem_cons_self)
 exact List.mem_append_right _ (by rw[if_pos m5,gd e];exact List.mem_cons_of_mem _ List.mem_cons_self)
theorem Gm:∀many:Nat,many<=6->∀k:Nat,k<many->((List.range many).filter λj=>decide (j≠k)).length+(if many<5 then 2 else 0)<=5:=by decide
theorem qK.KE{os:List Int}{many:Nat}{ds:List (Addr×Nd)}(h:qK os many ds)(m6:many<=6){k:Nat}(km:k<many){x:Addr×Nd}(hx:ds[k]?=some x)(nd:(x.2.map (·.1)).Nodup):x.2.length<=5:=by
 have:=gW _ (x.2.map (·.1)) nd λy hy=>by obtain⟨p,hp,rfl⟩:=List.mem_map.mp hy;exact(h k x hx p hp).1.in
 rw[List.length_map,List.length_append,List.length_map]at this;have f:=Gm many m6 k km;by_cases c:many<5
 ·rw[if_pos c]at this f;have:([os.getD 6 0,os.getD 7 0]:List Int).length=2:=rfl;lia
 rw[if_neg c]at this f;have:([]:List Int).length=0:=rfl;lia
theorem lU.ne{os:List Int}(ok:tP os){many k:Nat}(m6:many<=6)(km:k<many){h g:Int}(a:lU os many k h)(e:os[k]?=some g):h≠g:=by
 have uq:∀{i j:Nat},os[i]?=some h->os[j]?=some g->i≠j->h≠g:=λ{i j} e1 e2 ne z=>by
  obtain⟨i1,i2⟩:=List.getElem?_eq_some_iff.mp e1;obtain⟨j1,j2⟩:=List.getElem?_eq_some_iff.mp e2;have p:=List.pairwise_iff_getElem.mp ok.nd;rcases Nat.lt_or_gt_of_ne ne with c|c
  ·exact p i j i1 j1 c (by rw[i2,j2,z])
  exact p j i j1 i1 c (by rw[i2,j2,z])
 rcases a with⟨j,jm,jk,e1⟩|⟨m5,e1|e1⟩
 ·exact uq e1 e jk
 ·exact uq e1 e (by lia)
 exact uq e1 e (by lia)
def CQ(p:Int×V×Ne):Wr:=⟨p.1,p.2.2.q,p.2.2.a,p.2.2.b⟩
structure IA(os:List Int)(ds:List (Addr×Nd))(n:Int)(k:Nat)(N:Nw):Prop where
 h:os[k]?=some N.h
 n:N.n=n
 w:∃x,ds[k]?=some x/\N.near.Perm (x.2.map CQ)
structure MapOf(os:List Int)(ds:List (Addr×Nd))(ms:Ms):Prop where
 l:ms.length=ds.length
 t:∀(k:Nat)(m:V×Nw),ms[k]?=some m->IA os ds 1 k m.2
theorem aH.JU{H0 H2:Hp}{a:Addr}{u o:HO}(h:H0 a=some o)(s:aH (upd H0 a u) H2):aH H0 (upd H2 a o):=λb p e=>by
 by_cases c:b=a
 ·subst c;rw[aB,<-h,e]
 rw[aI c];exact s b p (by rw[aI c];exact e)
theorem pZ.dx{H:Hp}{a:Addr}{kvs:List (Key×V)}{u:HO}(ok:DX P w a kvs u)(h:H a=some u):pZ H a:=λys e=>by obtain⟨_,_,_,_,_,rfl⟩:=ok;rcases e with e|⟨u,e⟩<;>(rw[h]at e;cases e)
theorem KG{K:PySem.W.Frag}{H:Hp}{p r:Addr}{w:Wr}(h1:ao K H r [.int w.o,.int w.q,.ref p])(h2:ao K H p [.int w.a,.int w.b]):zw K H (.ref r) w:=by
 refine .tup h1 rfl λi v d e1 e2=>?_
 match i with
 |0=>cases e1;cases e2;exact .int _
 |1=>cases e1;cases e2;exact .int _
 |2 =>
  cases e1;cases e2;refine .tup h2 rfl λi v d e1 e2=>?_
  match i with
  |0=>cases e1;cases e2;exact .int _
  |1=>cases e1;cases e2;exact .int _
  |i+2=>simp at e1
 |i+3=>simp at e1
theorem AH{K:PySem.W.Frag}{H:Hp}{n:Nat}{v:V}{e:Ne}(h:ae K H (n+2) v (E9 e)):∃a p,v=.ref a/\ao K H a [.int e.q,.ref p]/\ao K H p [.int e.a,.int e.b]:=by
 obtain⟨a,xs,rfl,h1,h2,h3⟩:=vZ h
 match xs,h2 with
 |[x,y],_ =>
  obtain rfl:=ni (h3 0 x _ rfl rfl);obtain⟨p,ys,rfl,g1,g2,g3⟩:=vZ (h3 1 y _ rfl rfl)
  match ys,g2 with
  |[x,y],_ =>
   obtain rfl:=ni (g3 0 x _ rfl rfl);obtain rfl:=ni (g3 1 y _ rfl rfl);exact⟨a,p,rfl,h1,g1⟩
theorem Ei{d:Nd}(nd:(d.map (·.1)).Nodup){p:Int×V×Ne}(hp:p∈d):mJ d p.1=some p:=by
 unfold mJ;cases e:d.find? λq=>decide (q.1=p.1)with
 |none=>exact absurd (List.find?_eq_none.mp e p hp) (by simp)
 |some q =>
  have h1:=List.mem_of_find?_eq_some e;have h2:q.1=p.1:=by simpa using List.find?_some e
  congr 1
  obtain⟨i,il,rfl⟩:=List.getElem_of_mem h1;obtain⟨j,jl,rfl⟩:=List.getElem_of_mem hp;have:i=j:=(List.getElem_inj (xs:=d.map (·.1)) (h₀:=by simpa using il) (h₁:=by simpa using jl) nd).mp (by simpa using h2);subst this;rfl
theorem Gn{os:List Int}{ds:List (Addr×Nd)}(oN:tP os)(nk:qK os ds.length ds)(d6:ds.length<=6){k:Nat}{x:Addr×Nd}(hx:ds[k]?=some x)(nd:(x.2.map (·.1)).Nodup){h n:Int}(hh:os[k]?=some h)(n0:0<=n)(n1:n<=900000):J0 ⟨h,n,x.2.map CQ,[]⟩:=by
 have kl:k<ds.length:=(List.getElem?_eq_some_iff.mp hx).1;refine⟨oN.b h (List.mem_of_getElem? hh),⟨n0,n1⟩,⟨λw hw=>?_,?_,?_,?_⟩,?_⟩
 ·obtain⟨p,hp,rfl⟩:=List.mem_map.mp hw;obtain⟨a,e⟩:=nk k x hx p hp;exact⟨oN.b _ a.mem,e.1,e.2.1,e.2.2⟩
 ·show(x.2.map CQ).length<=5;rw[List.length_map];exact nk.KE d6 kl hx nd
 ·show((x.2.map CQ).map (·.o)).Nodup;rw[List.map_map];exact nd
 ·show h∉(x.2.map CQ).map (·.o);rw[List.map_map];intro hm;obtain⟨p,hp,e⟩:=List.mem_map.mp hm;exact(nk k x hx p hp).1.ne oN d6 kl hh e
 exact⟨by show 0<=4;decide,List.nodup_nil,λn hn=>absurd hn List.not_mem_nil⟩
def ph(K:PySem.W.Frag)(C:Addr):Sp:=λvs H Q _=>∃(nl hl:Addr)(os:List Int)(ds:List (Addr×Nd)),vs=[.ref hl,.int (ds.length:Nat),.ref nl]/\rf K H nl ds/\qK os ds.length ds/\H hl=some (.lst (os.map V.int))/\tP os/\os.length=8/\1<=ds.length/\ds.length<=6/\∀(x d:Addr)(H':Hp)(ms:Ms),aH H H'->H x=none->H d=none->jq K C H' x d ms->MapOf os ds ms->Q (.ref x) H'
theorem gX:aQ ["houses","many","near","known","k","told"] ["houses","many","near"] (aG fO):=⟨rfl,rfl,rfl,by decide +kernel,rfl,by decide +kernel,by decide +kernel⟩
set_option maxHeartbeats 2000000 in
theorem yO{fi fh:FuncData}(F:aK K mg "_law_map" fO)(T:Txt K mg t)(AI:dQ P w K mg base (qT P w) 1 t.init fi ["self"] (BC K t.Map))(AJ:Binds K fi ["self"] [])(AK:dQ P w K mg base (qT P w) 1 t.rP fh ["self","news"] (BD K t.Map))(AL:Binds K fh ["self","news"] [])(kL:Def P w K mg base 5 "made_news" ["house","number","near","names"] (nv K t.BadNews)):Def P w K mg base 6 "_law_map" ["houses","many","near"] (ph K t.Map):=by
 refine F.def gX (λ_ _ _ _ _ _ us hl=>match us,hl with|[_,_,_],_=>rfl) (λvs H Q E h=>?_) (λf bU A outer s H vs Q E hr h=>?_)
 ·obtain⟨nl,hl,os,ds,rfl,_⟩:=h;rfl
 obtain⟨nl,hl,os,ds,rfl,nr,nk,hh,oN,ol,d1,d6,q⟩:=h;refine⟨_,aD (aT (i:=3) gX.nd rfl (Or.inl rfl) (C8 T.PZ (AI.mono (by decide)) hr (by rfl) T.PY AJ .nil au))
  (aD (PS.wU (bL PassesOwn.never rfl (bx (by rfl) T.dI (aA (pv 1) aC)) (aJ (i:=4) gX.nd rfl (Or.inr rfl))
   (aD (Fw P w (jx (i:=5) gX.nd rfl (Or.inl rfl) rfl (Nc:=["other","near","k"]) (ix:=[none,some 2,some 4]) (cF (aG fO) ["houses","many","near","known","k","told"] rfl rfl (by decide +kernel)) (DZ P w (aN (aP K) (pv 2) (pv 4) (λ_ _=>rfl))) (λC fp s H=>⟨(aJ (i:=0) (show(["other","near","k"]:List Str).Nodup by decide +kernel) rfl (Or.inl rfl)),cO,(aw (aA (pv 0) (aA (aN (aR K) (xZ P w (aN (aP K) (pv 1) (pv 2) (λ_ _=>rfl)) (pv 0) (λ_ _=>rfl)) aE (λ_ _=>rfl)) (aA (aN (aR K) (xZ P w (aN (aP K) (pv 1) (pv 2) (λ_ _=>rfl)) (pv 0) (λ_ _=>rfl)) aE (λ_ _=>rfl)) aC))))⟩)))
   (aF (bV (FT (pv 3) T.sm T.GO (AK.mono (by decide)) hr AL .nil au (aA (aV (kL.mono (by decide)) hr au (aA (aN (aP K) (pv 0) (pv 4) (λ_ _=>rfl)) (aA aE (aA (pv 5) (aA (cJ aC) aC))))) aC)))))))
  (aF (aS (pv 3)))),?_⟩
 have hsz:(2000:Nat)<=sizeLine:=by decide
 refine λtw tx P4 Ts xD=>?_;have s1:aH H (upd (upd H tx (.own tw)) tw (.ins t.Map tx [])):=by
  have z:(upd H tx (.own tw)) tw=none:=by rw[aI (Ne.symm xD)];exact P4
  exact((aH.refl H).new Ts).new z
 refine⟨tw,tx,rfl,aB,λtd H2 Gd m2 Tt=>⟨rfl,?_⟩⟩;have Mo:H td=none:=s1.free Gd;have s2:aH H H2:=λb o e=>m2 b o (λz=>by rw[List.mem_singleton.mp z,P4]at e;cases e) (s1 b o e)
 let I:Nat->_->_->Prop:=λi σ H'=>∃(v4 v5:Option V)(ms:Ms),σ=[some (.ref hl),some (.int (ds.length:Nat)),some (.ref nl),some (.ref tw),v4,v5]/\aH H H'/\jq K t.Map H' tw td ms/\ms.length=i/\∀(k:Nat)(m:V×Nw),ms[k]?=some m->IA os ds 1 k m.2
 refine⟨_,rfl,((ds.length:Nat):Int),rfl,by lia,by lia,?_⟩;refine dX (lo:=0) (n:=((ds.length:Nat):Int).toNat) I ⟨none,none,[],rfl,s2,Tt,rfl,λk m hm=>by cases hm⟩ ?_ ?_
 ·rintro i σ H3 hi ⟨v4,v5,ms,rfl,s3,P5,ml,wZ⟩;have il:i<ds.length:=by lia
  obtain⟨x,ex⟩:∃x,ds[i]?=some x:=⟨ds[i],by simp[il]⟩;obtain⟨h,eh⟩:∃h,os[i]?=some h:=⟨os[i]'(by lia),by simp[show i<os.length by lia]⟩;have NU:=nr.same s3;have IB:=NU.d x (List.mem_of_getElem? ex);have BI:qB (ds.map λx=>V.ref x.1) (0+(i:Nat):Int)=some (.ref x.1):=by rw[show(0+(i:Nat):Int)=(i:Nat) by lia];exact bW (by rw[List.getElem?_map,ex];rfl)
  have yg:qB (os.map V.int) (0+(i:Nat):Int)=some (.int h):=by rw[show(0+(i:Nat):Int)=(i:Nat) by lia];exact bW (by rw[List.getElem?_map,eh];rfl)
  have xl:x.2.length<=5:=nk.KE d6 il ex IB.nd;refine⟨_,rfl,_,rfl,nl,_,_,.ref x.1,rfl,rfl,ag.of NU.l,BI,x.1,_,rfl,IB.d,λu ok D hD=>?_⟩;have hu:(upd H3 x.1 u) x.1=some u:=aB;have Tu:nl≠x.1:=lJ NU.l IB.d (by intro z;cases z);have P6:(upd H3 x.1 u) nl=some (.lst (ds.map λx=>V.ref x.1)):=by rw[aI Tu];exact NU.l
  have kz:=bj (o:=u) (pZ.dk IB.d);have Q8:∀p∈x.2,ae K (upd H3 x.1 u) 3 p.2.1 (E9 p.2.2):=λp hp=>(IB.v p hp).kept kz (AF _);have th:∀{H5:Hp},aH (upd H3 x.1 u) H5->aH H3 (upd H5 x.1 (.dK (x.2.map lT))):=λs=>aH.JU IB.d s;generalize upd H3 x.1 u=H4 at hu P6 Q8 th hD ⊢;refine Fv (d:=x.1) (u:=u) (kvs:=x.2.map lT) (λj σ H'=>∃(v:Option V)(zs:List (V×Wr)),σ=[v,some (.ref nl),some (.int (0+(i:Nat)))]/\aH H4 H'/\H' D=some (.lst (zs.map (·.1)))/\kC K H' zs/\zs.map (·.2)=(x.2.take j).map CQ) ⟨none,[],rfl,(aH.refl _).new hD,aB,λz hz=>absurd hz List.not_mem_nil,rfl⟩ (λj σ H' _ ⟨_,_,_,s,_⟩=>s _ _ hu) ?_ ?_
  ·rintro j k v σ H5 N hN hj ⟨v0,zs,rfl,s5,e5,w5,m5⟩;rw[List.getElem?_map]at hj;cases ep:x.2[j]? with
   |none=>rw[ep]at hj;cases hj
   |some p =>
    rw[ep]at hj;cases hj;have hp:=List.mem_of_getElem? ep;have jl:j<x.2.length:=(List.getElem?_eq_some_iff.mp ep).1;have vv:eW (x.2.map lT) (Sum.inl p.1)=some p.2.1:=(by rw[Ee,Ei IB.nd hp];rfl);obtain⟨r,pp,ev,g1,g2⟩:=AH ((Q8 p hp).same s5);refine c8 ?_;refine⟨_,rfl,_,rfl,_,rfl,nl,_,_,.ref x.1,rfl,rfl,ag.of (s5 _ _ P6),BI,_,rfl,x.1,_,u,Sum.inl p.1,p.2.1,rfl,s5 _ _ hu,ok,rfl,vv,r,_,_,.int p.2.2.q,ev,rfl,g1,rfl,?_⟩;refine⟨_,rfl,_,rfl,nl,_,_,.ref x.1,rfl,rfl,ag.of (s5 _ _ P6),BI,_,rfl,x.1,_,u,Sum.inl p.1,p.2.1,rfl,s5 _ _ hu,ok,rfl,vv,r,_,_,.ref pp,ev,rfl,g1,rfl,zz3,λtp xC=>?_⟩;have s6:=(aH.refl H5).new (o:=.tup [kV (Sum.inl p.1),.int p.2.2.q,.ref pp]) xC;have dn:zw K (upd H5 tp (.tup [kV (Sum.inl p.1),.int p.2.2.q,.ref pp])) (.ref tp) (CQ p):=KG (p:=pp) (ao.of aB) (s6.tup g2);generalize upd H5 tp (.tup [kV (Sum.inl p.1),.int p.2.2.q,.ref pp])=H6 at s6 dn;have e6:=s6 _ _ e5;have kp:=bj (o:=.lst (zs.map (·.1)++[V.ref tp])) (pZ.lst e6);have zl:zs.length<=5:=by have:=congrArg List.length m5;rw[List.length_map,List.length_map,List.length_take]at this;lia
    refine⟨_,e6,by rw[List.length_map];lia,hN _ _ ⟨_,zs++[(.ref tp,CQ p)],rfl,(s5.trans s6).put hD,by rw[aB,List.map_append];rfl,λz hz=>?_,by rw[List.map_append,m5,take_succ ep,List.map_append];rfl⟩⟩;rcases List.mem_append.mp hz with h|h
    ·exact((w5 z h).same s6).kept kp
    rw[List.mem_singleton.mp h];exact dn.kept kp
  rintro σ H5 ⟨v0,zs,rfl,s5,e5,w5,m5⟩;rw[List.length_map,List.take_length]at m5;have kp:=bj (o:=.dK (x.2.map lT)) (pZ.dx ok (s5 _ _ hu));have Tv:D≠x.1:=(aY hu hD).symm;have S5:=th s5;have Q9:(upd H5 x.1 (.dK (x.2.map lT))) D=some (.lst (zs.map (·.1))):=by rw[aI Tv];exact e5
  have RA:kC K (upd H5 x.1 (.dK (x.2.map lT))) zs:=w5.kept kp;refine⟨x.1,_,u,ok,s5 _ _ hu,?_⟩;generalize upd H5 x.1 (.dK (x.2.map lT))=H6 at S5 Q9 RA ⊢;have zl:zs.length<=5:=by have:=congrArg List.length m5;rw[List.length_map,List.length_map]at this;lia
  have RB:=P5.same S5;obtain⟨dw,hw⟩:=RB.o;have NV:=Gn oN nk d6 ex IB.nd eh (n:=1) (by decide) (by decide);refine⟨_,rfl,tw,dw,_,rfl,hw,rfl,_,rfl,_,rfl,hl,_,_,.int h,rfl,rfl,ag.of ((s3.trans S5) _ _ hh),yg,_,rfl,zz0,λel Dp=>?_⟩;have s7:=(aH.refl H6).new (o:=.lst []) Dp;refine⟨true,true,D,el,zs,⟨h,1,x.2.map CQ,[]⟩,rfl,ag.of (s7 _ _ Q9),RA.same s7,m5,ag.of aB,.of (by have:=NV.1.1;have:0<=h:=this;lia) (by have:=NV.1.2;have:h<32:=this;lia),.of (by show -(10 ^ 60)<=(1:Int);decide) (by show(1:Int)<=10 ^ 60;decide),by lia,λz hz=>?_,by show 0<=60;decide,λn hn=>absurd hn List.not_mem_nil,λ_ r H7 s8 hN=>?_,λz=>absurd NV z⟩
  ·have:z.2∈x.2.map CQ:=(by rw[<-m5];exact List.mem_map.mpr ⟨z,hz,rfl⟩);exact(NV.2.2.1.1 _ this).S6
  obtain⟨ws,ns,pw,pn,en⟩:=GV ⟨h,1,x.2.map CQ,[]⟩;obtain rfl:=pn.eq_nil;rw[en]at hN;have S7:=s7.trans s8;have Tw:=RB.same S7;have KY:h∉hs ms:=λhm=>by obtain⟨m,hm,e⟩:=List.mem_map.mp hm;obtain⟨k,kl,rfl⟩:=List.getElem_of_mem hm;have e2:=(wZ k ms[k] (by simp)).h;rw[e]at e2;obtain⟨a1,a2⟩:=List.getElem?_eq_some_iff.mp e2;obtain⟨b1,b2⟩:=List.getElem?_eq_some_iff.mp eh;have:=List.pairwise_iff_getElem.mp oN.nd k i a1 b1 (by lia);exact this (by rw[a2,b2])
  refine⟨tw,td,ms,.ref r,⟨h,1,ws,[]⟩,rfl,Tw,hN,by lia,λ_ H8 m8 RC=>?_,λz=>absurd (λn hn e=>absurd (List.mem_map.mpr ⟨n,hn,e⟩) KY) z⟩;have ep:rX ms (.ref r) ⟨h,1,ws,[]⟩=ms++[(.ref r,⟨h,1,ws,[]⟩)]:=by unfold rX;rw[if_neg KY]
  rw[ep]at RC;have S:=(s3.trans S5).trans S7;refine⟨_,_,_,rfl,λb o e=>m8 b o (λz=>by rw[List.mem_singleton.mp z,Mo]at e;cases e) (S b o e),RC,by rw[List.length_append,ml];rfl,λk m hm=>?_⟩;by_cases c:k<ms.length
  ·rw[List.getElem?_append_left c]at hm;exact wZ k m hm
  have bM:=(List.getElem?_eq_some_iff.mp hm).1;rw[List.length_append]at bM;have e:k=ms.length:=by simp at bM;lia
  rw[e,List.getElem?_append_right (Nat.le_refl _),Nat.sub_self]at hm;cases hm;rw[e,ml];exact⟨eh,rfl,x,ex,pw⟩
 rintro σ H3 ⟨v4,v5,ms,rfl,s3,P5,ml,wZ⟩;exact⟨_,rfl,q tw td H3 ms s3 P4 Mo P5 ⟨by lia,wZ⟩⟩
def Ent(D:Nat->Option (Addr×Nd))(k:Nat)(h:Int)(e:Ne):Prop:=∃x,D k=some x/\∃v,(h,v,e)∈x.2
structure Ej(os:List Int)(D:Nat->Option (Addr×Nd))(ms:Ms):Prop where
 n:(hs ms).Nodup
 t:∀(k:Nat)(m:V×Nw),ms[k]?=some m->os[k]?=some m.2.h/\∃x,D k=some x/\m.2.near.Perm (x.2.map CQ)
 b:∀(k:Nat),k<ms.length↔(D k).isSome=true
def NW(os:List Int)(D:Nat->Option (Addr×Nd))(t:T3):Prop:=t.1<t.2.1/\∃(i j:Nat)(e1 e2:Ne),os[i]?=some t.1/\os[j]?=some t.2.1/\Ent D i t.2.1 e1/\Ent D j t.1 e2/\e1.a=e2.a/\e1.b=e2.b/\t.2.2=max e1.q e2.q
theorem Ej.KH{os:List Int}{D:Nat->Option (Addr×Nd)}{ms:Ms}(h:Ej os D ms)(t:T3):cH ms t↔NW os D t:=by
 have fwd:∀{m:V×Nw}{w:Wr},m∈ms->w∈m.2.near->∃(i:Nat)(e:Ne),os[i]?=some m.2.h/\Ent D i w.o e/\e.a=w.a/\e.b=w.b/\e.q=w.q:=λ{m w} hm hw=>by obtain⟨i,il,rfl⟩:=List.getElem_of_mem hm;obtain⟨h1,x,h2,h3⟩:=h.t i ms[i] (by simp);obtain⟨p,hp,rfl⟩:=List.mem_map.mp (h3.mem_iff.mp hw);exact⟨i,p.2.2,h1,⟨x,h2,p.2.1,hp⟩,rfl,rfl,rfl⟩
 have bwd:∀{i:Nat}{g o:Int}{e:Ne},os[i]?=some g->Ent D i o e->∃m∈ms,∃w∈m.2.near,m.2.h=g/\w.o=o/\w.a=e.a/\w.b=e.b/\w.q=e.q:=λ{i g o e} hg he=>by obtain⟨x,h1,v,h2⟩:=he;have il:=(h.b i).mpr (by rw[h1];rfl);obtain⟨g1,y,g2,g3⟩:=h.t i ms[i] (by simp);rw[h1]at g2;cases g2;rw[hg]at g1;cases g1;exact⟨ms[i],List.getElem_mem il,CQ (o,v,e),g3.mem_iff.mpr (List.mem_map.mpr ⟨_,h2,rfl⟩),rfl,rfl,rfl,rfl,rfl⟩
 unfold cH NW;refine and_congr_right λ_=>?_;constructor
 ·rintro⟨m1,h1,m2,h2,w1,g1,w2,g2,a1,a2,a3,a4,a5,a6,a7⟩;obtain⟨i,e1,b1,b2,b3,b4,b5⟩:=fwd h1 g1;obtain⟨j,e2,c1,c2,c3,c4,c5⟩:=fwd h2 g2;exact⟨i,j,e1,e2,by rw[b1,a1],by rw[c1,a2],a3▸b2,a4▸c2,by lia,by lia,by rw[a7,b5,c5]⟩
 rintro⟨i,j,e1,e2,a1,a2,a3,a4,a5,a6,a7⟩;obtain⟨m1,h1,w1,g1,b1,b2,b3,b4,b5⟩:=bwd a1 a3;obtain⟨m2,h2,w2,g2,c1,c2,c3,c4,c5⟩:=bwd a2 a4;exact⟨m1,h1,m2,h2,w1,g1,w2,g2,b1,c1,b2,c2,by lia,by lia,by rw[a7,b5,c5]⟩
theorem MapOf.f{os:List Int}{ds:List (Addr×Nd)}{ms:Ms}(h:MapOf os ds ms)(nd:(hs ms).Nodup):Ej os (λk=>ds[k]?) ms:=by refine⟨nd,λk m hm=>⟨(h.t k m hm).h,(h.t k m hm).w⟩,λk=>?_⟩;rw[h.l];simp
theorem Ej.ok{os:List Int}{D:Nat->Option (Addr×Nd)}{ms:Ms}(h:Ej os D ms)(hd:∀k x,D k=some x->(x.2.map (·.1)).Nodup/\x.2.length<=5/\∀p∈x.2,Ef p.2.2):ny ms/\AE ms:=by
 constructor
 ·intro m hm;obtain⟨i,il,rfl⟩:=List.getElem_of_mem hm;obtain⟨h1,x,h2,h3⟩:=h.t i ms[i] (by simp);obtain⟨d1,d2,_⟩:=hd i x h2;refine⟨?_,by rw[h3.length_eq,List.length_map];exact d2⟩;refine(h3.map (·.o)).nodup_iff.mpr ?_;rw[List.map_map];exact d1
 intro m hm w hw;obtain⟨i,il,rfl⟩:=List.getElem_of_mem hm;obtain⟨h1,x,h2,h3⟩:=h.t i ms[i] (by simp);obtain⟨p,hp,rfl⟩:=List.mem_map.mp (h3.mem_iff.mp hw);exact((hd i x h2).2.2 p hp).1
theorem BJ{os:List Int}(ok:tP os){i j:Nat}{h:Int}(e1:os[i]?=some h)(e2:os[j]?=some h):i=j:=by obtain⟨i1,i2⟩:=List.getElem?_eq_some_iff.mp e1;obtain⟨j1,j2⟩:=List.getElem?_eq_some_iff.mp e2;exact(List.getElem_inj (h₀:=i1) (h₁:=j1) ok.nd).mp (by rw[i2,j2])
theorem get_mem{d:Nd}{h:Int}{q:Int×V×Ne}(e:mJ d h=some q):q∈d/\q.1=h:=⟨List.mem_of_find?_eq_some e,by simpa using List.find?_some e⟩
theorem Ek{K:PySem.W.Frag}{H:Hp}{n:Nat}{p:Addr}{a b:Int}(h:ao K H p [.int a,.int b]):ae K H (n+1) (.ref p) (.tuple [.int a,.int b]):=by
 refine .tup h rfl λi v d e1 e2=>?_
 match i with
 |0=>cases e1;cases e2;exact .int _
 |1=>cases e1;cases e2;exact .int _
 |i+2=>simp at e1
theorem KI(a b c d:Int):PyData.eqv (.tuple [.int a,.int b]) (.tuple [.int c,.int d])=decide (a=c/\b=d):=by simp[PyData.eqv,PyData.eqvAll];rfl
def jB(os:List Int)(ds:List (Addr×Nd))(a b:Nat):Option T3 :=
 (os[a]?).bind λha=>(os[b]?).bind λhb=>(ds[a]?).bind λxa=>(ds[b]?).bind λxb =>
  if ha<hb then(mJ xa.2 hb).bind λp=>(mJ xb.2 ha).bind λq=>if p.2.2.a=q.2.2.a/\p.2.2.b=q.2.2.b then some (ha,hb,if q.2.2.q>p.2.2.q then q.2.2.q else p.2.2.q)else none else none
theorem ug{os:List Int}{ds:List (Addr×Nd)}{a b:Nat}{ha hb:Int}{xa xb:Addr×Nd}(e1:os[a]?=some ha)(e2:os[b]?=some hb)(e3:ds[a]?=some xa)(e4:ds[b]?=some xb):jB os ds a b=if ha<hb then(mJ xa.2 hb).bind λp=>(mJ xb.2 ha).bind λq=>if p.2.2.a=q.2.2.a/\p.2.2.b=q.2.2.b then some (ha,hb,if q.2.2.q>p.2.2.q then q.2.2.q else p.2.2.q)else none else none:=by unfold jB;rw[e1,e2,e3,e4];rfl
theorem eC{os:List Int}{ds:List (Addr×Nd)}{a b:Nat}{t:T3}(h:jB os ds a b=some t):os[a]?=some t.1/\os[b]?=some t.2.1/\t.1<t.2.1/\∃e1 e2,Ent (λk=>ds[k]?) a t.2.1 e1/\Ent (λk=>ds[k]?) b t.1 e2/\e1.a=e2.a/\e1.b=e2.b/\t.2.2=max e1.q e2.q:=by
 unfold jB at h;obtain⟨ha,e1,h⟩:=Option.bind_eq_some_iff.mp h;obtain⟨hb,e2,h⟩:=Option.bind_eq_some_iff.mp h;obtain⟨xa,e3,h⟩:=Option.bind_eq_some_iff.mp h;obtain⟨xb,e4,h⟩:=Option.bind_eq_some_iff.mp h;by_cases c:ha<hb
 ·rw[if_pos c]at h;obtain⟨p,g1,h⟩:=Option.bind_eq_some_iff.mp h;obtain⟨q,g2,h⟩:=Option.bind_eq_some_iff.mp h;by_cases c2:p.2.2.a=q.2.2.a/\p.2.2.b=q.2.2.b
  ·rw[if_pos c2]at h;cases h;obtain⟨m1,n1⟩:=get_mem g1;obtain⟨m2,n2⟩:=get_mem g2;refine⟨e1,e2,c,p.2.2,q.2.2,⟨xa,e3,p.2.1,?_⟩,⟨xb,e4,q.2.1,?_⟩,c2.1,c2.2,?_⟩
   ·rw[<-n1];exact m1
   ·rw[<-n2];exact m2
   show(if q.2.2.q>p.2.2.q then q.2.2.q else p.2.2.q)=max p.2.2.q q.2.2.q;split<;>lia
  rw[if_neg c2]at h;cases h
 rw[if_neg c]at h;cases h
theorem CS{os:List Int}{ds:List (Addr×Nd)}(nd:∀(k:Nat) x,ds[k]?=some x->(x.2.map (·.1)).Nodup){a b:Nat}{t:T3}(e1:os[a]?=some t.1)(e2:os[b]?=some t.2.1)(lt:t.1<t.2.1){n1 n2:Ne}(h1:Ent (λk=>ds[k]?) a t.2.1 n1)(h2:Ent (λk=>ds[k]?) b t.1 n2)(ea:n1.a=n2.a)(eb:n1.b=n2.b)(el:t.2.2=max n1.q n2.q):jB os ds a b=some t:=by
 obtain⟨xa,e3,v1,m1⟩:=h1;obtain⟨xb,e4,v2,m2⟩:=h2;rw[ug e1 e2 e3 e4,if_pos lt];have g1:=Ei (nd a xa e3) m1;have g2:=Ei (nd b xb e4) m2;rw[show mJ xa.2 t.2.1=some (t.2.1,v1,n1)from g1,show mJ xb.2 t.1=some (t.1,v2,n2)from g2];show(if n1.a=n2.a/\n1.b=n2.b then some (t.1,t.2.1,if n2.q>n1.q then n2.q else n1.q)else none)=some t;rw[if_pos ⟨ea,eb⟩]
 congr 1
 refine Prod.ext rfl (Prod.ext rfl ?_);show(if n2.q>n1.q then n2.q else n1.q)=t.2.2;rw[el];split<;>lia
def fU(os:List Int)(ds:List (Addr×Nd))(a j:Nat):List T3:=(List.range j).filterMap (jB os ds a)
def eJ(os:List Int)(ds:List (Addr×Nd))(i m:Nat):List T3:=(List.range i).flatMap λa=>fU os ds a m
theorem rg(os:List Int)(ds:List (Addr×Nd))(a j:Nat):(fU os ds a j).length<=j:=by unfold fU;exact Nat.le_trans (List.length_filterMap_le ..) (by rw[List.length_range];exact Nat.le_refl _)
theorem pq(os:List Int)(ds:List (Addr×Nd))(i m:Nat):eJ os ds (i+1) m=eJ os ds i m++fU os ds i m:=by unfold eJ;rw[List.range_succ,List.flatMap_append];simp
theorem mK(os:List Int)(ds:List (Addr×Nd))(m:Nat):∀i,(eJ os ds i m).length<=i*m
 |0=>by simp[eJ]
 |i+1=>by rw[pq,List.length_append,Nat.succ_mul];have:=mK os ds m i;have:=rg os ds i m;lia
theorem p5(os:List Int)(ds:List (Addr×Nd))(a j:Nat):fU os ds a (j+1)=fU os ds a j++(jB os ds a j).toList:=by
 unfold fU;rw[List.range_succ,List.filterMap_append]
 congr 1
theorem AM{os:List Int}{ds:List (Addr×Nd)}(nd:∀(k:Nat) x,ds[k]?=some x->(x.2.map (·.1)).Nodup)(t:T3):t∈eJ os ds ds.length ds.length↔NW os (λk=>ds[k]?) t:=by
 unfold eJ fU;rw[List.mem_flatMap];constructor
 ·rintro⟨a,ha,h⟩;obtain⟨b,hb,h⟩:=List.mem_filterMap.mp h;obtain⟨h1,h2,h3,e1,e2,h4,h5,h6,h7,h8⟩:=eC h;exact⟨h3,a,b,e1,e2,h1,h2,h4,h5,h6,h7,h8⟩
 rintro⟨lt,a,b,e1,e2,h1,h2,h3,h4,h5,h6,h7⟩;have al:∀{k:Nat}{h:Int}{e:Ne},Ent (λk=>ds[k]?) k h e->k<ds.length:=λ⟨x,z,_⟩=>(List.getElem?_eq_some_iff.mp z).1;exact⟨a,List.mem_range.mpr (al h3),List.mem_filterMap.mpr ⟨b,List.mem_range.mpr (al h4),CS nd h1 h2 lt h3 h4 h5 h6 h7⟩⟩
theorem CT{os:List Int}(oN:tP os)(ds:List (Addr×Nd))(m:Nat)(i:Nat):(eJ os ds i m).Pairwise λs t=>(s.1,s.2.1)≠(t.1,t.2.1):=by
 unfold eJ fU;rw[List.pairwise_flatMap];constructor
 ·intro a _;rw[List.pairwise_filterMap];refine List.nodup_range.imp λ{b c} Ot s hs t ht e=>Ot ?_;have h1:=(eC hs).2.1;have h2:=(eC ht).2.1;rw[(Prod.mk.inj e).2]at h1;exact BJ oN h1 h2
 refine List.nodup_range.imp λ{a c} MO s hs t ht e=>MO ?_;obtain⟨b,_,hs⟩:=List.mem_filterMap.mp hs;obtain⟨b',_,ht⟩:=List.mem_filterMap.mp ht;have h1:=(eC hs).1;have h2:=(eC ht).1;rw[(Prod.mk.inj e).1]at h1;exact BJ oN h1 h2
def lV(K:PySem.W.Frag):Sp:=λvs H Q _=>∃(nl hl:Addr)(os:List Int)(ds:List (Addr×Nd)),vs=[.ref hl,.int (ds.length:Nat),.ref nl]/\rf K H nl ds/\H hl=some (.lst (os.map V.int))/\tP os/\os.length=8/\ds.length<=6/\∀(r:Addr)(H':Hp)(ts:List T3),aH H H'->vn K H' r ts->(∀t,t∈ts↔NW os (λk=>ds[k]?) t)->(ts.Pairwise λs t=>nz s<nz t)->ts.length<=36->Q (.ref r) H'
theorem cC:aQ ["houses","many","near","found","a","b","one","other"] ["houses","many","near"] (aG fH):=⟨rfl,rfl,rfl,by decide +kernel,rfl,by decide +kernel,by decide +kernel⟩
set_option maxHeartbeats 2000000 in
theorem tQ(F:aK K mg "_law_wires" fH)(T:Txt K mg t):Def P w K mg base 1 "_law_wires" ["houses","many","near"] (lV K):=by
 refine F.def cC (λ_ _ _ _ _ _ us hl=>match us,hl with|[_,_,_],_=>rfl) (λvs H Q E h=>?_) (λf bU A outer s H vs Q E hr h=>?_)
 ·obtain⟨nl,hl,os,ds,rfl,_⟩:=h;rfl
 obtain⟨nl,hl,os,ds,rfl,nr,hh,oN,ol,d6,q⟩:=h;refine⟨_,aD (aT (i:=3) cC.nd rfl (Or.inl rfl) (cJ aC))
  (aD (PS.wU (bL PassesOwn.never rfl (bx (by rfl) T.dI (aA (pv 1) aC)) (aJ (i:=4) cC.nd rfl (Or.inl rfl))
   (aF (bL PassesOwn.never rfl (bx (by rfl) T.dI (aA (pv 1) aC)) (aJ (i:=5) cC.nd rfl (Or.inl rfl))
    (aF (ay (PW.pt (jr (aO pL (aN (aP K) (pv 0) (pv 4) (λ_ _=>rfl)) (aN (aP K) (pv 0) (pv 5) (λ_ _=>rfl)) (aU _)) (jr (oQ (vF (br hr) (aN (aP K) (pv 0) (pv 5) (λ_ _=>rfl)) (aN (aP K) (pv 2) (pv 4) (λ_ _=>rfl))) (by rfl)) (ig (oQ (vF (br hr) (aN (aP K) (pv 0) (pv 4) (λ_ _=>rfl)) (aN (aP K) (pv 2) (pv 5) (λ_ _=>rfl))) (by rfl))))))
     (aD (aT (i:=6) cC.nd rfl (Or.inl rfl) (cc (br hr) (aN (aP K) (pv 2) (pv 4) (λ_ _=>rfl)) (aN (aP K) (pv 0) (pv 5) (λ_ _=>rfl)) (λ_ _=>rfl)))
     (aD (aT (i:=7) cC.nd rfl (Or.inl rfl) (cc (br hr) (aN (aP K) (pv 2) (pv 5) (λ_ _=>rfl)) (aN (aP K) (pv 0) (pv 4) (λ_ _=>rfl)) (λ_ _=>rfl)))
     (aF (ay (aO (Dq K (c6 hr)) (aN (aR K) (pv 6) aE (λ_ _=>rfl)) (aN (aR K) (pv 7) aE (λ_ _=>rfl)) (aU _))
      (aF (bV (oa K PySem.F.plainAttrs_list PySem.F.slot_list_append PySem.F.type_list_append dY (pv 3) (aA (aw (aA (aN (aP K) (pv 0) (pv 4) (λ_ _=>rfl)) (aA (aN (aP K) (pv 0) (pv 5) (λ_ _=>rfl)) (aA (aX (t9 rfl) (by rfl) T.Hu boot_max (aA (aN (aR K) (pv 6) aE (λ_ _=>rfl)) (aA (aN (aR K) (pv 7) aE (λ_ _=>rfl)) aC))) aC)))) aC))))
      (aZ)))))
     (aZ)))))))
  (aF (aS (aX (gL K (c6 hr)) (by rfl) T.cY boot_sorted (aA (pv 3) aC))))),?_⟩
 have hsz:(2000:Nat)<=sizeLine:=by decide
 refine⟨zz0,λfo RD=>?_⟩;have s0:=(aH.refl H).new (o:=.lst []) RD;have e0:(upd H fo (.lst [])) fo=some (.lst []):=aB;generalize upd H fo (.lst [])=H0 at s0 e0 ⊢;have Tx:∀(k:Nat) x,ds[k]?=some x->(x.2.map (·.1)).Nodup:=λk x h=>(nr.d x (List.mem_of_getElem? h)).nd;have BI:∀{k:Nat}{x:Addr×Nd},ds[k]?=some x->qB (ds.map λx=>V.ref x.1) (0+(k:Nat):Int)=some (V.ref x.1):=λ{k x} h=>by rw[show(0+(k:Nat):Int)=(k:Nat) by lia];exact bW (by rw[List.getElem?_map,h];rfl)
 have yg:∀{k:Nat}{h:Int},os[k]?=some h->qB (os.map V.int) (0+(k:Nat):Int)=some (V.int h):=λ{k h'} h=>by rw[show(0+(k:Nat):Int)=(k:Nat) by lia];exact bW (by rw[List.getElem?_map,h];rfl)
 let I:Nat->_->_->Prop:=λi σ H'=>∃(zs:List (V×T3))(v4 v5 v6 v7:Option V),σ=[some (.ref hl),some (.int (ds.length:Nat)),some (.ref nl),some (.ref fo),v4,v5,v6,v7]/\aH H H'/\H' fo=some (.lst (zs.map (·.1)))/\tI K H' zs/\zs.map (·.2)=eJ os ds i ds.length
 refine⟨_,rfl,((ds.length:Nat):Int),rfl,by lia,by lia,?_⟩;refine dX (lo:=0) (n:=((ds.length:Nat):Int).toNat) I ⟨[],none,none,none,none,rfl,s0,e0,λz hz=>absurd hz List.not_mem_nil,rfl⟩ ?_ ?_
 ·rintro i σ H1 hi ⟨zs,v4,v5,v6,v7,rfl,s1,e1,t1,m1⟩;have il:i<ds.length:=by lia
  let J:Nat->_->_->Prop:=λj σ H'=>∃(zs:List (V×T3))(v5 v6 v7:Option V),σ=[some (.ref hl),some (.int (ds.length:Nat)),some (.ref nl),some (.ref fo),some (.int (0+(i:Nat))),v5,v6,v7]/\aH H H'/\H' fo=some (.lst (zs.map (·.1)))/\tI K H' zs/\zs.map (·.2)=eJ os ds i ds.length++fU os ds i j
  refine⟨_,rfl,((ds.length:Nat):Int),rfl,by lia,by lia,?_⟩;refine dX (lo:=0) (n:=((ds.length:Nat):Int).toNat) J ⟨zs,_,_,_,rfl,s1,e1,t1,by rw[m1];simp[fU]⟩ ?_ ?_
  ·rintro j σ H2 hj ⟨zs,v5,v6,v7,rfl,s2,e2,t2,m2⟩;have jl:j<ds.length:=(by lia);obtain⟨xa,Gj⟩:∃x,ds[i]?=some x:=⟨ds[i],by simp[il]⟩;obtain⟨xb,yh⟩:∃x,ds[j]?=some x:=⟨ds[j],by simp[jl]⟩;obtain⟨ha,Eg⟩:∃h,os[i]?=some h:=⟨os[i],by simp[show i<os.length by lia]⟩;obtain⟨hb,Hz⟩:∃h,os[j]?=some h:=⟨os[j],by simp[show j<os.length by lia]⟩;have Ko:=nr.same s2;have El:=s2 _ _ hh;have dA:=Ko.d xa (List.mem_of_getElem? Gj);have dB:=Ko.d xb (List.mem_of_getElem? yh);have gA:cQ H2 xa.1 (.int hb) ((mJ xa.2 hb).map (·.2.1)):=by have:=cQ.k (k:=Sum.inl hb) dA.d;rw[Ee]at this;exact this
   have gB:cQ H2 xb.1 (.int ha) ((mJ xb.2 ha).map (·.2.1)):=by have:=cQ.k (k:=Sum.inl ha) dB.d;rw[Ee]at this;exact this
   have wa:=ug (os:=os) Eg Hz Gj yh;have ic:∀{v6 v7:Option V},jB os ds i j=none->J (j+1) [some (.ref hl),some (.int (ds.length:Nat)),some (.ref nl),some (.ref fo),some (.int (0+(i:Nat))),some (.int (0+(j:Nat))),v6,v7] H2:=λh=>⟨zs,_,_,_,rfl,s2,e2,t2,by rw[m2,p5,h];simp⟩;refine⟨_,rfl,_,rfl,hl,_,_,.int ha,rfl,rfl,ag.of El,yg Eg,_,rfl,_,rfl,hl,_,_,.int hb,rfl,rfl,ag.of El,yg Hz,_,_,rfl,rfl,_,rfl,?_⟩;by_cases c:ha<hb
   ·refine bw c ?_;rw[if_pos c]at wa;refine⟨_,rfl,_,rfl,hl,_,_,.int hb,rfl,rfl,ag.of El,yg Hz,_,rfl,_,rfl,nl,_,_,.ref xa.1,rfl,rfl,ag.of Ko.l,BI Gj,xa.1,_,rfl,gA,?_⟩;cases eA:mJ xa.2 hb with
    |none =>
     rw[eA]at wa;exact⟨false,rfl,d0 (ic wa)⟩
    |some p =>
     rw[eA]at wa gA;refine⟨true,rfl,eV ?_⟩;refine⟨_,rfl,_,rfl,hl,_,_,.int ha,rfl,rfl,ag.of El,yg Eg,_,rfl,_,rfl,nl,_,_,.ref xb.1,rfl,rfl,ag.of Ko.l,BI yh,xb.1,_,rfl,gB,?_⟩;cases eB:mJ xb.2 ha with
     |none =>
      rw[eB]at wa;exact⟨false,rfl,d0 (ic wa)⟩
     |some p2 =>
      rw[eB]at wa gB;obtain⟨ma,na⟩:=get_mem eA;obtain⟨mb,nb⟩:=get_mem eB;obtain⟨ra,qa,va,RE,Tz⟩:=AH (dA.v p ma);obtain⟨rb,qb,vb,RF,T1⟩:=AH (dB.v p2 mb);refine⟨true,rfl,eV ?_⟩;refine⟨_,rfl,_,rfl,nl,_,_,.ref xa.1,rfl,rfl,ag.of Ko.l,BI Gj,_,rfl,_,rfl,hl,_,_,.int hb,rfl,rfl,ag.of El,yg Hz,xa.1,p.2.1,rfl,gA,?_⟩;refine⟨_,rfl,_,rfl,nl,_,_,.ref xb.1,rfl,rfl,ag.of Ko.l,BI yh,_,rfl,_,rfl,hl,_,_,.int ha,rfl,rfl,ag.of El,yg Eg,xb.1,p2.2.1,rfl,gB,?_⟩;refine⟨_,rfl,ra,_,_,.ref qa,va,rfl,RE,rfl,_,rfl,rb,_,_,.ref qb,vb,rfl,RF,rfl,?_⟩;refine⟨.tuple [.int p.2.2.a,.int p.2.2.b],.tuple [.int p2.2.2.a,.int p2.2.2.b],Ek Tz,Ek T1,_,rfl,?_⟩;have ee:PyData.eqv (.tuple [.int p.2.2.a,.int p.2.2.b]) (.tuple [.int p2.2.2.a,.int p2.2.2.b])=decide (p.2.2.a=p2.2.2.a/\p.2.2.b=p2.2.2.b):=KI _ _ _ _;rw[if_neg (by decide),ee];have wa:jB os ds i j=if p.2.2.a=p2.2.2.a/\p.2.2.b=p2.2.2.b then some (ha,hb,if p2.2.2.q>p.2.2.q then p2.2.2.q else p.2.2.q)else none:=wa;by_cases c2:p.2.2.a=p2.2.2.a/\p.2.2.b=p2.2.2.b
      ·refine bw c2 ?_;rw[if_pos c2]at wa;refine⟨_,rfl,.inl ⟨rfl,_,ag.of e2⟩,_,rfl,_,rfl,hl,_,_,.int ha,rfl,rfl,ag.of El,yg Eg,_,rfl,_,rfl,hl,_,_,.int hb,rfl,rfl,ag.of El,yg Hz,?_⟩;refine⟨_,rfl,ra,_,_,.int p.2.2.q,va,rfl,RE,rfl,_,rfl,rb,_,_,.int p2.2.2.q,vb,rfl,RF,rfl,_,_,rfl,zz3,λtp xC=>?_⟩;have s3:=(aH.refl H2).new (o:=.tup [.int ha,.int hb,.int (if p2.2.2.q>p.2.2.q then p2.2.2.q else p.2.2.q)]) xC;have dn:ae K (upd H2 tp (.tup [.int ha,.int hb,.int (if p2.2.2.q>p.2.2.q then p2.2.2.q else p.2.2.q)])) 2 (.ref tp) (tH (ha,hb,if p2.2.2.q>p.2.2.q then p2.2.2.q else p.2.2.q)):=by
        refine .tup (ao.of aB) rfl λi v d e1 e2=>?_
        match i with
        |0=>cases e1;cases e2;exact .int _
        |1=>cases e1;cases e2;exact .int _
        |2=>cases e1;cases e2;exact .int _
        |i+3=>simp at e1
       generalize upd H2 tp (.tup [.int ha,.int hb,.int (if p2.2.2.q>p.2.2.q then p2.2.2.q else p.2.2.q)])=H3 at s3 dn;have e3:=s3 _ _ e2;have zl:zs.length<=100:=by have h1:=congrArg List.length m2;rw[List.length_map,List.length_append]at h1;have h2:=mK os ds ds.length i;have h3:=rg os ds i j;have h4:i*ds.length<=6*6:=Nat.mul_le_mul (by lia) d6;lia
       refine⟨fo,_,_,rfl,rfl,e3,by rw[List.length_map];lia,?_⟩;have kp:=bj (o:=.lst (zs.map (·.1)++[V.ref tp])) (pZ.lst e3);refine⟨zs++[(.ref tp,(ha,hb,if p2.2.2.q>p.2.2.q then p2.2.2.q else p.2.2.q))],_,_,_,rfl,(s2.trans s3).put RD,by rw[aB,List.map_append];rfl,λz hz=>?_,by rw[List.map_append,m2,p5,wa,List.append_assoc];rfl⟩;rcases List.mem_append.mp hz with h|h
       ·exact((t2 z h).same s3).kept kp (yJ _)
       rw[List.mem_singleton.mp h];exact dn.kept kp (yJ _)
      rw[if_neg c2]at wa;exact bu c2 (ic wa)
   rw[if_neg c]at wa;exact bu c (ic wa)
  rintro σ H2 ⟨zs,v5,v6,v7,rfl,s2,e2,t2,m2⟩;have:((ds.length:Nat):Int).toNat=ds.length:=by lia
  rw[this]at m2;exact⟨zs,_,_,_,_,rfl,s2,e2,t2,by rw[m2,pq]⟩
 rintro σ H1 ⟨zs,v4,v5,v6,v7,rfl,s1,e1,t1,m1⟩;have:((ds.length:Nat):Int).toNat=ds.length:=by lia
 rw[this]at m1;have zl:zs.length<=36:=by have h1:=congrArg List.length m1;rw[List.length_map]at h1;have h2:=mK os ds ds.length ds.length;have h4:ds.length*ds.length<=6*6:=Nat.mul_le_mul d6 d6;lia
 refine⟨_,rfl,true,fo,zs.map λz=>(z.1,tH z.2),rfl,by rw[List.map_map];exact ag.of e1,by rw[List.length_map];lia,λy hy=>?_,by have:=Md (zs.map (·.2));rw[List.map_map]at this ⊢;exact this,λys r2 hp vg rC=>?_⟩
 ·obtain⟨z,hz,rfl⟩:=List.mem_map.mp hy;exact ae.up (t1 z hz) (by decide)
 obtain⟨vs,EM,rfl⟩:=perm_back (λz:V×T3=>(z.1,tH z.2)) hp zs rfl;have s7:=(aH.refl H1).new (o:=.lst ((vs.map λz=>(z.1,tH z.2)).map (·.1))) rC;have Me:(vs.map (·.2)).Perm (eJ os ds ds.length ds.length):=by have:=EM.map (·.2);rw[m1]at this;exact this
 refine q r2 _ (vs.map (·.2)) (s1.trans s7) ⟨vs,by rw[aB,List.map_map];rfl,λz hz=>(t1 z (EM.mem_iff.mp hz)).same s7,rfl⟩ (λtt=>?_) ?_ (by rw[List.length_map,EM.length_eq];exact zl)
 ·rw[Me.mem_iff,AM Tx]
 have pw:(vs.map (·.2)).Pairwise λs t=>(s.1,s.2.1)≠(t.1,t.2.1):=(Me.pairwise_iff λ{a b} h=>h.symm).mpr (CT oN ds _ _);have so:(vs.map (·.2)).Pairwise λs t=>bN (tH t) (tH s)=false:=by rw[List.pairwise_map]at vg ⊢;exact vg
 refine(so.and pw).imp λ{s t} ⟨h1,h2⟩=>?_;rw[EW,decide_eq_false_iff_not]at h1;by_cases h:nz s<nz t
 ·exact h
 exact absurd (by rw[yI (List.le_antisymm (List.not_lt.mp h1) (List.not_lt.mp h))]) h2
def gz(L:List (Tk×Int)):List Int->Option Int
 |x::y::r=>(gU L [x,y]).bind λl=>(gz L (y::r)).map (l+·)
 |_=>some 0
theorem oE(L:List (Tk×Int))(x y:Int)(r:List Int):gz L (x::y::r)=(gU L [x,y]).bind λl=>(gz L (y::r)).map (l+·):=by rw[gz]
theorem oF(L:List (Tk×Int))(x:Int):gz L [x]=some 0:=by rw[gz];intro x y r z;cases z
theorem Mp{α:Type}{l:List α}{i:Nat}{x y:α}(h1:l[i]?=some x)(h2:l[i+1]?=some y):l.drop i=x::y::l.drop (i+2)/\l.drop (i+1)=y::l.drop (i+2):=by
 obtain⟨i1,rfl⟩:=List.getElem?_eq_some_iff.mp h1;obtain⟨i2,rfl⟩:=List.getElem?_eq_some_iff.mp h2;have e2:l.drop (i+1)=l[i+1]::l.drop (i+2):=by rw[List.drop_eq_getElem_cons i2]
 exact⟨by rw[List.drop_eq_getElem_cons i1,e2],e2⟩
def lW(K:PySem.W.Frag):Sp:=λvs H Q _=>∃(td wa:Addr)(L:List (Tk×Int))(xs:TX)(ws:List Int),vs=[.ref td,.ref wa]/\n5 K H td L xs/\ao K H wa (ws.map V.int)/\1<=ws.length/\ws.length<=1000/\∀H',aH H H'->Q (oV (gz L ws)) H'
theorem dt:aQ ["lengths","way","total","wire"] ["lengths","way"] (aG fA):=⟨rfl,rfl,rfl,by decide +kernel,rfl,by decide +kernel,by decide +kernel⟩
set_option maxHeartbeats 1000000 in
theorem tR(F:aK K mg "way_length" fA)(T:Txt K mg t):Def P w K mg base 1 "way_length" ["lengths","way"] (lW K):=by
 refine F.def dt (λ_ _ _ _ _ _ us hl=>match us,hl with|[_,_],_=>rfl) (λvs H Q E h=>?_) (λf bU A outer s H vs Q E hr h=>?_)
 ·obtain⟨td,wa,L,xs,ws,rfl,_⟩:=h;rfl
 obtain⟨td,wa,L,xs,ws,rfl,hL,hw,w1,wl,q⟩:=h;refine⟨_,aD (aT (i:=2) dt.nd rfl (Or.inl rfl) aE)
  (aD (PS.wU (bL PassesOwn.never rfl (EA K (by rfl) T.MW (aA (pv 1) (aA (iJ (Fl K) (pv 1) (gI aE) qS) aC))) (aJ (i:=3) dt.nd rfl (Or.inl rfl))
   (aD (ay (aO (zY K (c6 hr)) (pv 3) (pv 0) (by rfl))
    (aF (aS yr))
    (aZ))
   (aF (IY (i:=2) dt.nd rfl (Or.inl rfl) (kx K (c6 hr) (pv 0) (pv 3) (λ_ _=>rfl)) IZ)))))
  (aF (aS (pv 2)))),?_⟩
 refine⟨_,rfl,_,rfl,_,rfl,wa,_,rfl,hw,λr H1 s1 Gp=>?_⟩;rw[A9 (by decide),<-List.map_drop]at Gp;have Gp:ao K H1 r ((ws.drop 1).map V.int):=Gp;have dl:((ws.drop 1).map V.int).length=ws.length-1:=by rw[List.length_map,List.length_drop]
 let I:Nat->_->_->Prop:=λi σ H'=>∃(jo:Int)(v3:Option V),σ=[some (.ref td),some (.ref wa),some (.int jo),v3]/\aH H1 H'/\gz L ws=(gz L (ws.drop i)).map (jo+·)
 refine⟨wa,r,rfl,⟨_,s1.tup hw⟩,⟨_,Gp⟩,EB (K:=K) (a:=wa) (b:=r) (xs:=ws.map V.int) (ys:=(ws.drop 1).map V.int) (by rw[dl,List.length_map];lia) I ⟨0,none,rfl,.refl _,by rw[List.drop_zero];cases gz L ws<;>simp⟩ (λi σ H' _ ⟨_,_,_,s,_⟩=>⟨(s1.trans s).tup hw,s.tup Gp⟩) ?_ ?_⟩
 ·rintro i x y p σ H2 hx hy ⟨jo,v3,rfl,s2,e2⟩ hp;obtain⟨a,ea,rfl⟩:=c7 hx;obtain⟨b,eb,rfl⟩:=c7 hy;have T2:ws[i+1]?=some b:=by rw[List.getElem?_drop]at eb;rw[Nat.add_comm];exact eb
  obtain⟨d1,d2⟩:=Mp ea T2;have s3:=(aH.refl H2).new (o:=.tup [.int a,.int b]) hp;have tk:cG K (upd H2 p (.tup [.int a,.int b])) p [a,b]:=⟨.inl ⟨_,_,rfl,ao.of aB⟩⟩;generalize upd H2 p (.tup [.int a,.int b])=H3 at s3 tk ⊢;have S3:=s1.trans (s2.trans s3);have l3:=hL.same S3;have RG:TD K H3 td xs:=⟨.inl l3.d,l3.k⟩;have vt:=o5 hL.m [a,b];refine⟨_,rfl,_,rfl,td,p,xs,[a,b],rfl,rfl,RG,tk,_,rfl,?_⟩;rw[if_pos rfl];rw[d1,oE]at e2;by_cases c:[a,b]∈xs.map (·.1)
  ·refine jz c ?_;have AA:(gk xs [a,b]).isSome=true:=(by rw[bf,decide_eq_true c]);rw[vt,Option.isSome_map]at AA;obtain⟨l,hl⟩:=Option.isSome_iff_exists.mp AA;rw[hl]at vt;refine⟨_,rfl,_,rfl,_,rfl,td,p,xs,[a,b],.int l,rfl,rfl,RG,tk,vt,_,_,rfl,rfl,?_⟩;refine⟨_,_,rfl,s2.trans s3,?_⟩;rw[e2,hl,d2];show((gz L (b::ws.drop (i+2))).map (l+·)).map (jo+·)=_;rw[Option.map_map]
   congr 1
   funext z
   show jo+(l+z)=jo+l+z;lia
  refine pS c ?_;have AA:(gk xs [a,b]).isSome=false:=by rw[bf,decide_eq_false c]
  rw[vt,Option.isSome_map]at AA;have hn:gU L [a,b]=none:=by simpa using AA
  rw[hn]at e2;have:=q H3 S3;rw[e2]at this;exact this
 rintro σ H2 ⟨jo,v3,rfl,s2,e2⟩;rw[dl]at e2;have el:ws[ws.length-1]?=some (ws[ws.length-1]'(by lia)):=by simp[show ws.length-1<ws.length by lia]
 have dd:ws.drop (ws.length-1)=[ws[ws.length-1]'(by lia)]:=by rw[List.drop_eq_getElem_cons (by lia),List.drop_eq_nil_of_le (by lia)]
 rw[dd,oF]at e2;have:=q H2 (s1.trans s2);rw[e2]at this;have e:jo+0=jo:=by lia
 refine⟨_,rfl,?_⟩;show Q (.int jo) H2;rw[<-e];exact this
structure BK(ws:List Int)(one other:Int):Prop where
 h:ws[0]?=some one
 l:ws.getLast?=some other
 n:ws.Nodup
def jh(K:PySem.W.Frag):Sp:=λvs H Q _=>∃(wa:Addr)(ws:List Int)(one other:Int),vs=[.ref wa,.int one,.int other]/\ao K H wa (ws.map V.int)/\ws.length<=1000/\∀(b:Bool)(H':Hp),aH H H'->(b=true↔BK ws one other)->Q (.bl b) H'
theorem qL:aQ ["way","one","other"] ["way","one","other"] (aG dE):=⟨rfl,rfl,rfl,by decide +kernel,rfl,by decide +kernel,by decide +kernel⟩
set_option maxHeartbeats 1000000 in
theorem qM(F:aK K mg "goes_from_to" dE)(T:Txt K mg t):Def P w K mg base 1 "goes_from_to" ["way","one","other"] (jh K):=by
 refine F.def qL (λ_ _ _ _ _ _ us hl=>match us,hl with|[_,_,_],_=>rfl) (λvs H Q E h=>?_) (λf bU A outer s H vs Q E hr h=>?_)
 ·obtain⟨wa,ws,one,other,rfl,_⟩:=h;rfl
 obtain⟨wa,ws,one,other,rfl,hw,wl,q⟩:=h;refine⟨_,aF (aS (jt (bK pM (aX (bz K) (by rfl) T.gR boot_len (aA (pv 0) aC)) aE (aU _)) (jt (bK dR (aN (aR K) (pv 0) aE (λ_ _=>rfl)) (pv 1) (aU _)) (jt (bK dR (aN (aR K) (pv 0) (Cy yw aE) (λ_ _=>rfl)) (pv 2) (aU _)) (lq (bK dR (aX mD (by rfl) T.gR boot_len (aA (bE (oj K) (by rfl) T.xw boot_set (aA (pv 0) aC)) aC)) (aX (bz K) (by rfl) T.gR boot_len (aA (pv 0) aC)) (aU _))))))),?_⟩;have sb:2000<scanBound:=by decide
 refine⟨_,rfl,wa,_,rfl,.inr hw,_,_,rfl,rfl,_,rfl,?_⟩;by_cases c0:(((ws.map V.int).length:Nat):Int)>0
 ·refine bw c0 ?_;rw[List.length_map]at c0;obtain⟨a,ea⟩:∃a,ws[0]?=some a:=⟨ws[0]'(by lia),by simp[show 0<ws.length by lia]⟩;refine⟨_,rfl,wa,_,_,.int a,rfl,rfl,hw,(by have z:=bW (show(ws.map V.int)[0]?=some (V.int a) by rw[List.getElem?_map,ea];rfl);exact z),_,rfl,rfl,_,rfl,?_⟩;by_cases c1:a=one
  ·refine bw (congrArg V.int c1) ?_;subst c1;obtain⟨pre,z,rfl⟩:∃pre z,ws=pre++[z]:=⟨ws.dropLast,ws.getLast (by intro e;rw[e]at ea;cases ea),(List.dropLast_concat_getLast _).symm⟩;have la:qB ((pre++[z]).map V.int) (-1)=some (V.int z):=(by rw[List.map_append];exact wx _ _);refine⟨_,rfl,1,rfl,wa,_,_,.int z,rfl,rfl,hw,la,_,rfl,rfl,_,rfl,?_⟩;by_cases c2:z=other
   ·refine bw (congrArg V.int c2) ?_;subst c2;have hk:ao K H wa (((pre++[z]).map (Sum.inl:Int->Key)).map kV):=(by rw[<-kD];exact hw);refine⟨_,rfl,wa,(pre++[z]).map Sum.inl,rfl,.inr hk,by rw[List.length_map];lia,λp hp=>?_⟩;have s1:=(aH.refl H).new (o:=Bx P w p ((pre++[z]).map (Sum.inl:Int->Key)).reverse) hp;refine⟨p,_,rfl,aB,_,rfl,wa,_,rfl,.inr (s1.tup hw),rfl,?_⟩;refine q _ _ s1 ?_;rw[List.length_map];have hn:((pre++[z]).map (Sum.inl:Int->Key)).reverse.length=(pre++[z]).length:=(by rw[List.length_reverse,List.length_map]);rw[decide_eq_true_iff];constructor
    ·intro e;have e:=V.int.inj e;refine⟨ea,by simp,iT.mp (iS.mp ((iM _).mp (by rw[hn];lia)))⟩
    intro g;have:=(iM _).mpr (iS.mpr (iT.mpr g.n));rw[this,hn]
   refine bu (λe=>c2 (V.int.inj e)) (q _ _ (.refl _) ⟨λe=>(by cases e),λg=>?_⟩);have:=g.l;rw[List.getLast?_concat]at this;exact absurd (Option.some.inj this) c2
  refine bu (λe=>c1 (V.int.inj e)) (q _ _ (.refl _) ⟨λe=>(by cases e),λg=>?_⟩);have:=g.h;rw[ea]at this;exact absurd (Option.some.inj this) c1
 refine bu c0 (q _ _ (.refl _) ⟨λe=>(by cases e),λg=>?_⟩);rw[List.length_map]at c0;have:=(List.getElem?_eq_some_iff.mp g.h).1;lia
theorem p7:∀xs ys:List Int,PyData.eqvAll (xs.map .int) (ys.map .int)=decide (xs=ys)
 |[],[]=>by simp[PyData.eqvAll]
 |[],_::_=>by simp[PyData.eqvAll]
 |_::_,[]=>by simp[PyData.eqvAll]
 |x::xs,y::ys=>by
  have ih:=p7 xs ys;simp only[List.map_cons,PyData.eqvAll,ih,PyData.eqv];by_cases c:x=y
  ·subst c;simp
  simp[c]
theorem rh(xs ys:List Int):PyData.eqv (.list (xs.map .int)) (.list (ys.map .int))=decide (xs=ys):=by rw[PyData.eqv];exact p7 xs ys
theorem iU{K:PySem.W.Frag}{H:Hp}{n:Nat}{a:Addr}{xs:List Int}(h:ag K H a (xs.map V.int)):ae K H (n+1) (.ref a) (.list (xs.map .int)):=by
 refine .lst h (by rw[List.length_map,List.length_map]) λi x d e1 e2=>?_;rw[List.getElem?_map]at e1 e2;cases e:xs[i]? with
 |none=>rw[e]at e1;cases e1
 |some o=>rw[e]at e1 e2;cases e1;cases e2;exact .int _
theorem uh{xs ys:List Int}(h1:xs.Pairwise (·<·))(h2:ys.Pairwise (·<·))(h:∀x,x∈xs↔x∈ys):xs=ys:=by
 have nn:∀{l:List Int},l.Pairwise (·<·)->l.Nodup:=λh=>h.imp λz e=>by lia
 have p:xs.Perm ys:=(List.perm_ext_iff_of_nodup (nn h1) (nn h2)).mpr h;exact List.Perm.eq_of_pairwise (le:=(·<·)) (λa b _ _ x y=>absurd y (by lia)) h1 h2 p
theorem wA{xs:List Int}(h:xs.Pairwise (·<=·))(nd:xs.Nodup):xs.Pairwise (·<·):=(h.and nd).imp λ⟨a,b⟩=>by lia
theorem yP:∀(zs:List (Addr×Int×Int))(acc:Hv),((acc++zs.map (·.2)).map (·.1)).Nodup->(zs.map λz=>((z.1,Sum.inl z.2.1,V.int z.2.2):VI)).foldl Cp (acc.map i9)=(acc++zs.map (·.2)).map i9
 |[],acc,_=>by simp
 |z::zs,acc,nd=>by
  rw[List.map_cons,List.foldl_cons];have e:Cp (acc.map i9) (z.1,Sum.inl z.2.1,V.int z.2.2)=(acc++[z.2]).map i9:=by
   unfold Cp;have hn:z.2.1∉acc.map (·.1):=by rw[List.map_cons,List.map_append,List.map_cons]at nd;intro hm;exact(List.nodup_append.mp nd).2.2 _ hm _ List.mem_cons_self rfl
   show putK (acc.map i9) (Sum.inl z.2.1) (.int z.2.2)=_;rw[Hw];unfold n6;rw[if_neg hn]
  rw[e,yP zs (acc++[z.2]) (by rw[List.append_assoc];exact nd),List.append_assoc];rfl
structure oG(L:List (Tk×Int))(goal:Int)(ps:Hv):Prop where
 k:∀x,x∈ps.map (·.1)↔∃s,Wk L goal x s
 r:(ps.map (·.1)).Pairwise (·<·)
 g:lk ps goal=some 0
 e:∀b e l,([b,e],l)∈L->∀m n,lk ps b=some m->lk ps e=some n->m-n<=l
theorem Fin.keys{L:List (Tk×Int)}{goal:Int}{hv:Hv}(f:Fin L goal hv)(x:Int):x∈hv.map (·.1)↔∃s,Wk L goal x s:=by
 constructor
 ·intro h;cases e:lk hv x with
  |none=>exact absurd h (cm.mp e)
  |some n=>exact⟨n,f.wk n.toNat (Nat.le_refl _) e⟩
 rintro⟨s,w⟩;obtain⟨n,h,_⟩:=f.le w;exact Classical.byContradiction λz=>by rw[cm.mpr z]at h;cases h
theorem wB{hv:Hv}{x:Int}(h:x∈hv.map (·.1)):∃n,lk hv x=some n:=by
 cases e:lk hv x with
 |none=>exact absurd h (cm.mp e)
 |some n=>exact⟨n,rfl⟩
def ji(K:PySem.W.Frag):Sp:=λvs H Q _=>∃(td hl:Addr)(goal:Int)(L:List (Tk×Int))(xs:TX)(ps:Hv),vs=[.ref td,.int goal,.ref hl]/\n5 K H td L xs/\ue L/\(∀a b l,([a,b],l)∈L->([b,a],l)∈L)/\L.length<=200/\(∀hv,Ht L goal hv->hv.length<=20)/\pd K H hl ps/\ps.length<=100 /\
 (∀H',aH H H'->oG L goal ps->Q (.bl true) H')/\(∀H',Sx td H H'->¬oG L goal ps->Q (.bl false) H')
theorem eK:aQ ["lengths","goal","heights","height_of","begin","end"] ["lengths","goal","heights"] (aG cK):=⟨rfl,rfl,rfl,by decide +kernel,rfl,by decide +kernel,by decide +kernel⟩
set_option maxHeartbeats 2000000 in
theorem qN(F:aK K mg "heights_hold" cK)(T:Txt K mg t)(bp:Def P w K mg base 1 "heights_to" ["lengths","goal"] (gq K)):Def P w K mg base 2 "heights_hold" ["lengths","goal","heights"] (ji K):=by
 refine F.def eK (λ_ _ _ _ _ _ us hl=>match us,hl with|[_,_,_],_=>rfl) (λvs H Q E h=>?_) (λf bU A outer s H vs Q E hr h=>?_)
 ·obtain⟨td,hl,goal,L,xs,ps,rfl,_⟩:=h;rfl
 obtain⟨td,hl,goal,L,xs,ps,rfl,hL,Cr,sy,ll,Cm,hp,pl,q1,q2⟩:=h;refine⟨_,aD (ay (aO (Dr K (c6 hr)) (je rfl (Nc:=["house","height"]) (ix:=[none,none]) (cF (aG cK) ["lengths","goal","heights","height_of","begin","end"] rfl rfl (by decide +kernel)) (bF K (pv 2)) (λC fp s H=>⟨(ko K (i:=0) (j:=1) rfl (show(["house","height"]:List Str).Nodup by decide +kernel) rfl rfl (Or.inl rfl) (Or.inl rfl)),cO,(pv 0)⟩)) (aX (eX (c6 hr)) (by rfl) T.cY boot_sorted (aA (aV (bp.mono (by decide)) hr au (aA (pv 0) (aA (pv 1) aC))) aC)) (aU _))
   (aF (aS cy))
   (aZ))
  (aD (aT (i:=3) eK.nd rfl (Or.inl rfl) (bE (zb K (c6 hr)) (by rfl) T.Js boot_dict (aA (pv 2) aC)))
  (aD (ay (aO pK (cc (br hr) (pv 3) (pv 1) (λ_ _=>rfl)) aE (aU _))
   (aF (aS cy))
   (aZ))
  (aD (PS.wU (uT (bL PassesOwn.never rfl (iO (pv 0)) (ko K (i:=4) (j:=5) rfl eK.nd rfl rfl (Or.inl rfl) (Or.inl rfl))
   (aF (ay (PW.pt (jr (oQ (vF (br hr) (pv 4) (pv 3)) (by rfl)) (ig (aO pM (ah qh (cc (br hr) (pv 3) (pv 4) (λ_ _=>rfl)) (cc (br hr) (pv 3) (pv 5) (λ_ _=>rfl))) (kx K (c6 hr) (pv 0) (aw (aA (pv 4) (aA (pv 5) aC))) (λ_ _=>rfl)) (aU _)))))
    (aF (aS cy))
    (aZ))))))
  (aF (aS cy))))),?_⟩
 have hsz:(20000:Nat)<=sizeLine:=by decide
 obtain⟨zs,z1,z2,z3⟩:=hp.ex;have zl:zs.length=ps.length:=by rw[<-z3,List.length_map]
 refine⟨_,rfl,hl,rfl,⟨_,ag.of z1⟩,λD hD=>?_⟩;refine gJ (K:=K) (a:=hl) (xs:=zs.map λz=>V.ref z.1) (λi σ H'=>∃v0 v1:Option V,σ=[v0,v1]/\aH H H'/\H' D=some (.lst (((ps.take i).map (·.1)).map V.int))) ⟨none,none,rfl,(aH.refl _).new hD,aB⟩ (λi σ H' _ ⟨_,_,_,s,_⟩=>ag.of (s _ _ z1)) ?_ ?_
 ·rintro i y σ H1 N hN hi ⟨v0,v1,rfl,s1,e1⟩;rw[List.getElem?_map]at hi;cases ez:zs[i]? with
  |none=>rw[ez]at hi;cases hi
  |some z =>
   rw[ez]at hi;cases hi;have il:i<ps.length:=(by rw[<-zl];exact(List.getElem?_eq_some_iff.mp ez).1);have ep:ps[i]?=some z.2:=(by rw[<-z3,List.getElem?_map,ez];rfl);refine⟨z.1,_,rfl,s1.tup (z2 z (List.mem_of_getElem? ez)),rfl,_,_,rfl,_,_,rfl,rfl,?_⟩;show if true=true then yo 0 (([v0,v1].set 0 (some (V.int z.2.1))).set 1 (some (V.int z.2.2))) H1 (λv H5=>∃ys,H5 D=some (HO.lst ys)/\ys.length<sizeLine/\N (([v0,v1].set 0 (some (V.int z.2.1))).set 1 (some (V.int z.2.2))) (upd H5 D (HO.lst (ys++[v]))))else N (([v0,v1].set 0 (some (V.int z.2.1))).set 1 (some (V.int z.2.2))) H1;rw[if_pos rfl];refine⟨_,rfl,_,e1,by rw[List.length_map,List.length_map,List.length_take];lia,hN _ _ ⟨_,_,rfl,s1.put hD,?_⟩⟩;rw[aB,take_succ ep,List.map_append,List.map_append];rfl
 rintro σ H1 ⟨v0,v1,rfl,s1,e1⟩;rw[List.length_map,zl,List.take_length]at e1;refine⟨_,rfl,_,rfl,td,goal,L,xs,rfl,hL.same s1,Cr,by lia,λhd H2 hv s2 Tb e2 ht cl=>?_⟩;have fin:Fin L goal hv:=⟨ht,cl,Cr,sy⟩;have f1:=Cm hv ht;refine⟨hd,_,hv.map (·.1),rfl,e2,by rw[List.map_map,List.map_map];rfl,by rw[List.length_map];lia,λys sl Kn vg DK=>?_⟩;have s3:=(aH.refl H2).new (o:=.lst (ys.map V.int)) DK;have e3:(upd H2 sl (.lst (ys.map V.int))) sl=some (.lst (ys.map V.int)):=aB;generalize upd H2 sl (.lst (ys.map V.int))=H3 at s3 e3 ⊢;have S3:=s1.trans (s2.trans s3);have RH:ys.Pairwise (·<·):=wA vg (Kn.nodup_iff.mpr ht.nd);have RJ:∀x,x∈ys↔∃s,Wk L goal x s:=λx=>Kn.mem_iff.trans (fin.keys x);refine⟨.list ((ps.map (·.1)).map .int),.list (ys.map .int),iU (ag.of ((s2.trans s3) _ _ e1)),iU (ag.of e3),_,rfl,?_⟩;rw[if_pos rfl,rh];have sx:∀{H':Hp},aH H H'->Sx td H H':=λs b o _ e=>s b o e;by_cases ck:ps.map (·.1)=ys
 ·refine jz ck ?_;have RK:(ps.map (·.1)).Pairwise (·<·):=by rw[ck];exact RH
  have NX:∀x,x∈ps.map (·.1)↔∃s,Wk L goal x s:=by rw[ck];exact RJ
  have T4:(ps.map (·.1)).Nodup:=RK.imp λz e=>by lia
  have fold:=yP zs [] (by rw[List.nil_append,z3];exact T4);rw[List.nil_append,z3]at fold;refine⟨_,rfl,hl,zs.map λz=>(z.1,Sum.inl z.2.1,V.int z.2.2),rfl,by rw[List.map_map];exact S3 _ _ z1,λq hq=>?_,λho T5=>?_⟩
  ·obtain⟨z,hz,rfl⟩:=List.mem_map.mp hq;exact S3.tup (z2 z hz)
  have Mq:(zs.map λz=>((z.1,Sum.inl z.2.1,V.int z.2.2):VI)).foldl Cp []=ps.map i9:=fold;rw[Mq];have s4:=(aH.refl H3).new (o:=.dK (ps.map i9)) T5;have e4:(upd H3 ho (.dK (ps.map i9))) ho=some (.dK (ps.map i9)):=aB;generalize upd H3 ho (.dK (ps.map i9))=H4 at s4 e4 ⊢;have S4:=S3.trans s4;obtain⟨g,eg⟩:=wB ((NX goal).mpr ⟨0,.nil⟩);have gv:∀{H':Hp}{x n:Int},H' ho=some (.dK (ps.map i9))->lk ps x=some n->cQ H' ho (.int x) (some (.int n)):=λ{H' x n} e h=>by have:=cQ.k (k:=Sum.inl x) e;rw[lP,h]at this;exact this
  refine⟨_,rfl,_,rfl,ho,.int g,rfl,gv e4 eg,rfl,_,rfl,?_⟩;by_cases cg:g=0
  ·refine jz (congrArg V.int cg) ?_;subst cg;have P7:=S4 _ _ hL.d;refine⟨_,rfl,td,xs,rfl,P7,λu ou=>?_⟩;have kz:=bj (o:=u) (pZ.J3 P7);have J6:xs.length=L.length:=by
    have:=congrArg List.length hL.m
    rwa [List.length_map,List.length_map]at this
   have J7:ho≠td:=lJ e4 P7 (by intro z;cases z);have k5:∀p∈xs,cG K (upd H4 td u) p.2.1 p.1:=λp hp=>((hL.k p hp).same S4).kept kz;have d5:(upd H4 td u) td=some u:=aB;have e5:(upd H4 td u) ho=some (.dK (ps.map i9)):=(by rw[aI J7];exact e4);have x5:Sx td H (upd H4 td u):=λb o nb e=>(by rw[aI nb];exact S4 b o e);generalize upd H4 td u=H5 at k5 d5 e5 x5 ⊢
   let J:Nat->_->_->Prop:=λi σ H'=>∃v4 v5:Option V,σ=[some (.ref td),some (.int goal),some (.ref hl),some (.ref ho),v4,v5]/\aH H5 H'/\∀e∈L.take i,∀b x,e.1=[b,x]->∀m n,lk ps b=some m->lk ps x=some n->m-n<=e.2
   refine mF (d:=td) (u:=u) (xs:=xs) J ⟨none,none,rfl,.refl _,λe he=>absurd he (by simp)⟩ (λi σ H' _ ⟨_,_,_,s,_⟩=>s _ _ d5) ?_ ?_
   ·rintro i p σ H6 hi ⟨v4,v5,rfl,s6,hJ⟩;obtain⟨ed,ee,Ge,NM⟩:∃e,L[i]?=some e/\p.1=e.1/\p.2.2=.int e.2:=by
     have:(xs.map λp=>(p.1,p.2.2))[i]?=some (p.1,p.2.2):=(by rw[List.getElem?_map,hi];rfl);rw[hL.m,List.getElem?_map]at this;cases ee:L[i]? with
     |none=>rw[ee]at this;cases this
     |some e =>
      rw[ee]at this;obtain⟨z1,z2⟩:=Prod.mk.inj (Option.some.inj this);exact⟨e,rfl,z1.symm,z2.symm⟩
    have CM:=List.mem_of_getElem? ee;obtain⟨b,y,hk,l1,l2⟩:=Cr.2 ed CM;obtain⟨kk,l⟩:=ed;obtain rfl:kk=[b,y]:=hk;have pk:=(k5 p (List.mem_of_getElem? hi)).same s6;rw[Ge]at pk;rcases pk.ex.symm with⟨_,_,_,_,_,z,_⟩|⟨_,_,z,g1⟩
    ·simp at z
    simp only[List.cons.injEq,and_true]at z;obtain⟨rfl,rfl⟩:=z;have go:∀{H7:Hp},aH H6 H7->(∀m n,lk ps b=some m->lk ps y=some n->m-n<=l)->J (i+1) [some (.ref td),some (.int goal),some (.ref hl),some (.ref ho),some (.int b),some (.int y)] H7:=λ{H7} s7 h=>by
     refine⟨_,_,rfl,s6.trans s7,λe he=>?_⟩;rw[take_succ ee]at he;rcases List.mem_append.mp he with he|he
     ·exact hJ e he
     rw[List.mem_singleton.mp he];intro b' y' e';simp only[List.cons.injEq,and_true]at e';obtain⟨rfl,rfl⟩:=e';exact h
    refine⟨p.2.1,_,rfl,g1,rfl,_,_,rfl,_,_,rfl,rfl,?_⟩;have e6:=s6 _ _ e5;refine⟨_,rfl,_,rfl,ho,_,rfl,cQ.k (k:=Sum.inl b) e6,?_⟩;rw[lP];cases eb:lk ps b with
    |none =>
     refine⟨false,rfl,d0 ?_⟩;exact go (.refl _) λm n h=>by rw[eb]at h;cases h
    |some m =>
     obtain⟨s,ws⟩:=(NX b).mp (Classical.byContradiction λz=>by rw[cm.mpr z]at eb;cases eb);obtain⟨n,en⟩:=wB ((NX y).mpr ⟨_,.cons (sy _ _ _ CM) ws⟩);refine⟨true,rfl,eV ?_⟩;refine⟨_,rfl,_,rfl,ho,.int m,rfl,gv e6 eb,_,rfl,_,rfl,ho,.int n,rfl,gv e6 en,_,_,rfl,rfl,?_⟩;refine⟨_,rfl,_,rfl,_,rfl,zz2,λkt J5=>?_⟩;have s7:=(aH.refl H6).new (o:=.tup [.int b,.int y]) J5;have tk:cG K (upd H6 kt (.tup [.int b,.int y])) kt [b,y]:=⟨.inl ⟨_,_,rfl,ao.of aB⟩⟩;generalize upd H6 kt (.tup [.int b,.int y])=H7 at s7 tk ⊢;have vt:gk xs [b,y]=some (.int l):=by rw[o5 hL.m,(cL Cr.1).mpr CM];rfl
     refine⟨td,kt,xs,[b,y],.int l,rfl,rfl,⟨.inr ⟨u,(s6.trans s7) _ _ d5,ou⟩,λp hp=>(k5 p hp).same (s6.trans s7)⟩,tk,vt,_,_,rfl,rfl,_,rfl,?_⟩;by_cases c:m-n>l
     ·refine bw c ?_;refine q2 _ (λb o nb e=>(s6.trans s7) b o (x5 b o nb e)) λh=>?_;have:=h.e b y l CM m n eb en;lia
     refine bu c (go s7 λm' n' h1 h2=>?_);rw[eb]at h1;rw[en]at h2;cases h1;cases h2;lia
   rintro σ H6 ⟨v4,v5,rfl,s6,hJ⟩;rw[J6,List.take_length]at hJ;refine⟨td,xs,u,ou,s6 _ _ d5,?_⟩;refine q1 _ (λb o e=>?_) ⟨NX,RK,eg,λb e l he m n h1 h2=>hJ _ he b e rfl m n h1 h2⟩;by_cases nb:b=td
   ·subst nb;rw[aB];rw[hL.d]at e;exact e
   rw[aI nb];exact s6 b o (x5 b o nb e)
  refine pS (λz=>cg (V.int.inj z)) ?_;refine q2 H4 (sx S4) λh=>?_;have:=h.g;rw[eg]at this;exact cg (Option.some.inj this)
 refine pS ck ?_;exact q2 H3 (sx S3) λh=>ck (uh h.r RH λx=>(h.k x).trans (RJ x).symm)
def rj(L:List (Tk×Int))(one other:Int)(ws:List Int)(ps:Hv):Prop:=BK ws one other/\oG L other ps/\∃jo,gz L ws=some jo/\(one,jo)∈ps
def oH(K:PySem.W.Frag):Sp:=λvs H Q _=>∃(td wa hl:Addr)(one other:Int)(L:List (Tk×Int))(xs:TX)(ws:List Int)(ps:Hv),vs=[.ref td,.int one,.int other,.ref wa,.ref hl]/\n5 K H td L xs/\ue L/\(∀a b l,([a,b],l)∈L->([b,a],l)∈L)/\L.length<=200/\(∀hv,Ht L other hv->hv.length<=20)/\ao K H wa (ws.map V.int)/\ws.length<=1000/\pd K H hl ps/\ps.length<=100 /\
 ∀(b:Bool)(H':Hp),Sx td H H'->(b=true↔rj L one other ws ps)->Q (.bl b) H'
theorem oI:aQ ["lengths","one","other","way","heights","total"] ["lengths","one","other","way","heights"] (aG gN):=⟨rfl,rfl,rfl,by decide +kernel,rfl,by decide +kernel,by decide +kernel⟩
set_option maxHeartbeats 1000000 in
theorem wC(F:aK K mg "way_holds" gN)(T:Txt K mg t)(fV:Def P w K mg base 1 "goes_from_to" ["way","one","other"] (jh K))(fX:Def P w K mg base 2 "heights_hold" ["lengths","goal","heights"] (ji K))(jC:Def P w K mg base 1 "way_length" ["lengths","way"] (lW K)):Def P w K mg base 3 "way_holds" ["lengths","one","other","way","heights"] (oH K):=by
 refine F.def oI (λ_ _ _ _ _ _ us hl=>match us,hl with|[_,_,_,_,_],_=>rfl) (λvs H Q E h=>?_) (λf bU A outer s H vs Q E hr h=>?_)
 ·obtain⟨td,wa,hl,one,other,L,xs,ws,ps,rfl,_⟩:=h;rfl
 obtain⟨td,wa,hl,one,other,L,xs,ws,ps,rfl,hL,Cr,sy,ll,Cm,hw,wl,hp,pl,q⟩:=h;refine⟨_,aD (ay (PW.pt (mz (js (fL (aV (fV.mono (by decide)) hr au (aA (pv 3) (aA (pv 1) (aA (pv 2) aC)))))) (lj (js (fL (aV (fX.mono (by decide)) hr au (aA (pv 0) (aA (pv 2) (aA (pv 4) aC)))))))))
   (aF (aS cy))
   (aZ))
  (aD (aT (i:=5) oI.nd rfl (Or.inl rfl) (aV (jC.mono (by decide)) hr au (aA (pv 0) (aA (pv 3) aC))))
  (aF (aS (jt (bK FL (pv 5) yr (aU _)) (lq (bK (Dd K (c6 hr)) (aw (aA (pv 1) (aA (pv 5) aC))) (pv 4) (by rfl))))))),?_⟩
 have hsz:(20000:Nat)<=sizeLine:=by decide
 have sx:∀{H':Hp},aH H H'->Sx td H H':=λs b o _ e=>s b o e;refine⟨_,rfl,_,rfl,_,rfl,wa,ws,one,other,rfl,hw,wl,λb1 H1 s1 i1=>?_⟩;refine⟨b1,rfl,?_⟩;by_cases c1:BK ws one other
 ·obtain rfl:=i1.mpr c1;refine(show if(!true)=true then _ else _ from d0 ?_);refine⟨_,rfl,_,rfl,_,rfl,td,hl,other,L,xs,ps,rfl,hL.same s1,Cr,sy,ll,Cm,hp.same s1,pl,λH2 s2 hh=>?_,λH2 s2 nh=>?_⟩
  ·refine⟨true,rfl,?_⟩;refine(show if(!true)=true then _ else _ from d0 ?_);have S2:=s1.trans s2;have w1:1<=ws.length:=(by have:=(List.getElem?_eq_some_iff.mp c1.h).1;lia);refine⟨_,rfl,_,rfl,td,wa,L,xs,ws,rfl,hL.same S2,S2.tup hw,w1,wl,λH3 s3=>?_⟩;have S3:=S2.trans s3;refine⟨_,rfl,?_⟩;cases el:gz L ws with
   |none =>
    refine⟨rfl,_,rfl,d0 ?_⟩;refine q false H3 (sx S3) ⟨λz=>(by cases z),λ⟨_,_,jo,z,_⟩=>?_⟩;rw[el]at z;cases z
   |some jo =>
    refine⟨rfl,_,rfl,eV ?_⟩;refine⟨_,rfl,_,rfl,zz2,λtp xC=>?_⟩;have s4:=(aH.refl H3).new (o:=.tup [.int one,oV (some jo)]) xC;obtain⟨zs,z1,z2,z3⟩:=hp.ex;have S4:=S3.trans s4;have e4:ao K (upd H3 tp (.tup [.int one,oV (some jo)])) tp ([some one,some jo].map ent):=ao.of aB;generalize upd H3 tp (.tup [.int one,oV (some jo)])=H4 at s4 S4 e4 ⊢;have tb:zs.map (λz=>V.ref z.1)=zI zs.length λj=>((zs[j]?).map (·.1)).getD 0:=by refine List.ext_getElem (by simp[zI,zH]) λi i1 i2=>?_;have:i<zs.length:=(by simpa using i1);simp[zI,zH,this]
    refine⟨_,rfl,tp,hl,[some one,some jo],zs.length,λj=>((zs[j]?).map (·.1)).getD 0,λj=>(zs[j]?.map λz=>[some z.2.1,some z.2.2]).getD [],rfl,rfl,e4,by rw[<-tb];exact ag.of (S4 _ _ z1),λj hj=>?_,?_⟩
    ·have:zs[j]?=some zs[j]:=(by simp[hj]);simp only[this,Option.map_some,Option.getD_some];exact S4.tup (z2 _ (List.getElem_mem hj))
    rw[if_neg (by decide)];refine q _ H4 (sx S4) ?_;rw[List.any_eq_true];constructor
    ·rintro⟨j,hj,ej⟩;have hj:=List.mem_range.mp hj;have ez:zs[j]?=some zs[j]:=(by simp[hj]);simp only[ez,Option.map_some,Option.getD_some,decide_eq_true_eq,List.cons.injEq,and_true,Option.some.injEq]at ej;refine⟨c1,hh,jo,el,?_⟩;rw[<-z3];exact List.mem_map.mpr ⟨zs[j],List.getElem_mem hj,Prod.ext ej.1 ej.2⟩
    rintro⟨_,_,T6,e',hm⟩;rw[el]at e';cases e';rw[<-z3]at hm;obtain⟨z,hz,ez⟩:=List.mem_map.mp hm;obtain⟨j,hj,rfl⟩:=List.getElem_of_mem hz;refine⟨j,List.mem_range.mpr hj,?_⟩;have e0:zs[j]?=some zs[j]:=(by simp[hj]);simp[e0,ez]
  refine⟨false,rfl,?_⟩;refine(show if(!false)=true then _ else _ from eV ?_);exact q false H2 (λb o nb e=>s2 b o nb (s1 b o e)) ⟨λz=>(by cases z),λh=>absurd h.2.1 nh⟩
 obtain rfl:b1=false:=by
  cases b1 with
  |false=>rfl
  |true=>exact absurd (i1.mp rfl) c1
 refine(show if(!false)=true then _ else _ from eV ?_);exact q false H1 (sx s1) ⟨λz=>(by cases z),λh=>absurd h.1 c1⟩
structure CU(ns:List Int):Prop where
 r:ns.Pairwise (·<·)
 h:∀n∈ns,0<=n/\n<32
def eE(K:PySem.W.Frag):Sp:=λvs H Q _=>∃(a:Addr)(ns:List Int),vs=[.ref a]/\ao K H a (ns.map V.int)/\ns.length<64/\∀(b:Bool)(H':Hp),aH H H'->(b=true↔CU ns)->Q (.bl b) H'
theorem kM:aQ ["numbers"] ["numbers"] (aG bG):=⟨rfl,rfl,rfl,by decide +kernel,rfl,by decide +kernel,by decide +kernel⟩
set_option maxHeartbeats 1000000 in
theorem kN(F:aK K mg "are_rising_houses" bG)(T:Txt K mg t)(de:Def P w K mg base 1 "is_house" ["number"] kB):Def P w K mg base 2 "are_rising_houses" ["numbers"] (eE K):=by
 refine F.def kM (λ_ _ _ _ _ _ us hl=>match us,hl with|[_],_=>rfl) (λvs H Q E h=>?_) (λf bU A outer s H vs Q E hr h=>?_)
 ·obtain⟨a,ns,rfl,_⟩:=h;rfl
 obtain⟨a,ns,rfl,ha,nl,q⟩:=h;refine⟨_,aF (aS (jt (bK (Dq K (c6 hr)) (bE (zJ K) (by rfl) T.Jt boot_list (aA (pv 0) aC)) (aX (nY P w (c6 hr)) (by rfl) T.cY boot_sorted (aA (bE (uZ P w K) (by rfl) T.xw boot_set (aA (pv 0) aC)) aC)) (aU _)) (lq (aX (uJ K rfl) (by rfl) T.Hs boot_all (aA (je rfl (Nc:=["number"]) (ix:=[none]) (cF (aG bG) ["numbers"] rfl rfl (by decide +kernel)) (vC K (pv 0)) (λC fp s H=>⟨(aJ (i:=0) (show(["number"]:List Str).Nodup by decide +kernel) rfl (Or.inl rfl)),cO,(aV (de.mono (by decide)) hr au (aA (pv 0) aC))⟩)) aC))))),?_⟩;have hsz:(20000:Nat)<=sizeLine:=by decide
 have sb:2000<scanBound:=by decide
 refine⟨_,rfl,a,_,rfl,.inr ha,λl1 yc=>?_⟩;have s1:=(aH.refl H).new (o:=.lst (ns.map V.int)) yc;have e1:(upd H l1 (.lst (ns.map V.int))) l1=some (.lst (ns.map V.int)):=aB;generalize upd H l1 (.lst (ns.map V.int))=H1 at s1 e1 ⊢;have hk:ao K H1 a ((ns.map (Sum.inl:Int->Key)).map kV):=by rw[<-kD];exact s1.tup ha
 refine⟨_,rfl,a,ns.map Sum.inl,rfl,.inr hk,by rw[List.length_map];lia,λp hp=>?_⟩;have s2:=(aH.refl H1).new (o:=j9 P w p (ns.map (Sum.inl:Int->Key)).reverse) hp;have e2:(upd H1 p (j9 P w p (ns.map (Sum.inl:Int->Key)).reverse)) p=some (j9 P w p (ns.map (Sum.inl:Int->Key)).reverse):=aB;generalize upd H1 p (j9 P w p (ns.map (Sum.inl:Int->Key)).reverse)=H2 at s2 e2 ⊢;refine⟨p,ns,rfl,e2,by have:=rB (ns.map Sum.inl).reverse;rw[List.length_reverse,List.length_map]at this;lia,λys r ry my rC=>?_⟩;have s3:=(aH.refl H2).new (o:=.lst (ys.map V.int)) rC;have e3:(upd H2 r (.lst (ys.map V.int))) r=some (.lst (ys.map V.int)):=aB;generalize upd H2 r (.lst (ys.map V.int))=H3 at s3 e3 ⊢;have S3:=s1.trans (s2.trans s3);refine⟨.list (ns.map .int),.list (ys.map .int),iU (ag.of ((s2.trans s3) _ _ e1)),iU (ag.of e3),_,rfl,?_⟩;have ee:(if false=true then !PyData.eqv (.list (ns.map .int)) (.list (ys.map .int))else PyData.eqv (.list (ns.map .int)) (.list (ys.map .int)))=decide (ns=ys):=by rw[if_neg (by decide),rh]
 rw[ee];by_cases c:ns=ys
 ·refine bw c ?_;refine⟨_,rfl,a,rfl,⟨_,S3.tup ha⟩,λD hD=>?_⟩;refine JO (K:=K) (a:=a) (xs:=ns.map V.int) (λi σ H'=>∃v:Option V,σ=[v]/\aH H3 H'/\H' D=some (.lst (((ns.take i).map λn=>decide (0<=n/\n<32)).map V.bl))) ⟨none,rfl,(aH.refl _).new hD,aB⟩ (λi σ H' _ ⟨_,_,s,_⟩=>(S3.trans s).tup ha) ?_ ?_
  ·rintro i y σ H4 N hN hi ⟨v,rfl,s4,e4⟩;obtain⟨n,en,rfl⟩:=c7 hi;have il:i<ns.length:=(List.getElem?_eq_some_iff.mp en).1;refine c8 ?_;refine⟨_,rfl,n,rfl,_,e4,by rw[List.length_map,List.length_map,List.length_take];lia,hN _ _ ⟨_,rfl,s4.put hD,?_⟩⟩;rw[aB,take_succ en,List.map_append,List.map_append];rfl
  rintro σ H4 ⟨v,rfl,s4,e4⟩;rw[List.length_map,List.take_length]at e4;refine⟨D,_,rfl,ag.of e4,q _ H4 (S3.trans s4) ?_⟩;rw[List.all_eq_true];constructor
  ·intro h;refine⟨by rw[c];exact ry,λn hn=>?_⟩;have:=h _ (List.mem_map.mpr ⟨n,hn,rfl⟩)
   simpa using this
  rintro⟨_,h⟩ b hb;obtain⟨n,hn,rfl⟩:=List.mem_map.mp hb
  simpa using h n hn
 refine bu c (q false H3 S3 ⟨λz=>(by cases z),λz=>absurd (uh z.r ry λx=>(my x).symm) c⟩)
structure kO(L:List (Tk×Int))(one other:Int)(ns:List Int):Prop where
 r:CU ns
 o:one∈ns
 t:other∉ns
 e:∀a b l,([a,b],l)∈L->a∈ns->b∈ns
def lX(K:PySem.W.Frag):Sp:=λvs H Q _=>∃(td sd:Addr)(one other:Int)(L:List (Tk×Int))(xs:TX)(ns:List Int),vs=[.ref td,.int one,.int other,.ref sd]/\n5 K H td L xs/\ue L/\L.length<=1000/\ao K H sd (ns.map V.int)/\ns.length<64/\∀(b:Bool)(H':Hp),aH H H'->(b=true↔kO L one other ns)->Q (.bl b) H'
theorem tS:aQ ["lengths","one","other","side"] ["lengths","one","other","side"] (aG dF):=⟨rfl,rfl,rfl,by decide +kernel,rfl,by decide +kernel,by decide +kernel⟩
set_option maxHeartbeats 1000000 in
theorem tT(F:aK K mg "side_holds" dF)(T:Txt K mg t)(cW:Def P w K mg base 2 "are_rising_houses" ["numbers"] (eE K)):Def P w K mg base 3 "side_holds" ["lengths","one","other","side"] (lX K):=by
 refine F.def tS (λ_ _ _ _ _ _ us hl=>match us,hl with|[_,_,_,_],_=>rfl) (λvs H Q E h=>?_) (λf bU A outer s H vs Q E hr h=>?_)
 ·obtain⟨td,sd,one,other,L,xs,ns,rfl,_⟩:=h;rfl
 obtain⟨td,sd,one,other,L,xs,ns,rfl,hL,Cr,ll,hs,nl,q⟩:=h;refine⟨_,aD (ay (PW.pt (mz (js (fL (aV (cW.mono (by decide)) hr au (aA (pv 3) aC)))) (mz (aO (gg K) (pv 1) (pv 3) (by rfl)) (lj (aO (cn K) (pv 2) (pv 3) (by rfl))))))
   (aF (aS cy))
   (aZ))
  (aF (aS (IT (aX (Bk K rfl) (by rfl) T.MT boot_any (aA (uU (je rfl (Nc:=["begin","end","side"]) (ix:=[none,none,some 3]) (cF (aG dF) ["lengths","one","other","side"] rfl rfl (by decide +kernel)) (iO (pv 0)) (λC fp s H=>⟨(ko K (i:=0) (j:=1) rfl (show(["begin","end","side"]:List Str).Nodup by decide +kernel) rfl rfl (Or.inl rfl) (Or.inl rfl)),cO,(jt (bK (cn K) (pv 0) (pv 2) (by rfl)) (lq (bK (gg K) (pv 1) (pv 2) (by rfl))))⟩))) aC))))),?_⟩
 have hsz:(20000:Nat)<=sizeLine:=by decide
 refine⟨_,rfl,sd,ns,rfl,hs,nl,λb1 H1 s1 i1=>⟨b1,rfl,?_⟩⟩;have no:∀{H':Hp},aH H H'->¬kO L one other ns->Q (.bl false) H':=λs h=>q false _ s ⟨λz=>(by cases z),λz=>absurd z h⟩;cases b1 with
 |false =>
  refine(show if(!false)=true then _ else _ from eV ?_);exact no s1 λz=>by have:=i1.mpr z.r;cases this
 |true =>
  refine(show if(!true)=true then _ else _ from d0 ?_);have AA:=s1.tup hs;refine⟨_,rfl,_,rfl,sd,_,rfl,.inr AA,rfl,bZ _,_,rfl,?_⟩;refine(show if(!Ck (.int one) (ns.map V.int))=true then _ else _ from ?_);rw[dJ];by_cases c1:one∈ns
  ·refine jz c1 ?_;refine⟨_,rfl,_,rfl,sd,_,rfl,.inr AA,rfl,bZ _,_,rfl,?_⟩;refine(show if(Ck (.int other) (ns.map V.int))=true then _ else _ from ?_);rw[dJ];by_cases c2:other∈ns
   ·exact bw c2 (no s1 λz=>z.t c2)
   refine bu c2 ?_;have NY:=hL.same s1;have J6:xs.length=L.length:=by
    have:=congrArg List.length hL.m
    rwa [List.length_map,List.length_map]at this
   refine⟨_,rfl,td,xs,rfl,NY.d,λu ou D hD=>?_⟩;have kz:=bj (o:=u) (pZ.J3 NY.d);have d2:(upd H1 td u) td=some u:=aB;have k2:∀p∈xs,cG K (upd H1 td u) p.2.1 p.1:=λp hp=>(NY.k p hp).kept kz;have um:ao K (upd H1 td u) sd (ns.map V.int):=kz.tup AA;have th:∀{H5:Hp},aH (upd H1 td u) H5->aH H1 (upd H5 td (gG td xs)):=λs=>by
    intro b o e;by_cases c:b=td
    ·subst c;rw[aB,<-NY.d,e]
    rw[aI c];exact s b o (by rw[aI c];exact e)
   generalize upd H1 td u=H2 at d2 k2 um th hD ⊢;refine uV (d:=td) (u:=u) (xs:=xs) (λi σ H'=>∃v0 v1:Option V,σ=[v0,v1,some (.ref sd)]/\aH H2 H'/\H' D=some (.lst (((L.take i).map λe=>decide (e.1.headD 0∈ns/\e.1.getD 1 0∉ns)).map V.bl))) ⟨none,none,rfl,(aH.refl _).new hD,aB⟩ (λi σ H' _ ⟨_,_,_,s,_⟩=>s _ _ d2) ?_ ?_
   ·rintro i p σ H4 N hN hi ⟨v0,v1,rfl,s4,e4⟩;obtain⟨ed,ee,Ge,NM⟩:∃e,L[i]?=some e/\p.1=e.1/\p.2.2=.int e.2:=by
     have:(xs.map λp=>(p.1,p.2.2))[i]?=some (p.1,p.2.2):=(by rw[List.getElem?_map,hi];rfl);rw[hL.m,List.getElem?_map]at this;cases ee:L[i]? with
     |none=>rw[ee]at this;cases this
     |some e =>
      rw[ee]at this;obtain⟨z1,z2⟩:=Prod.mk.inj (Option.some.inj this);exact⟨e,rfl,z1.symm,z2.symm⟩
    have il:i<L.length:=(List.getElem?_eq_some_iff.mp ee).1;obtain⟨b,y,hk,l1,l2⟩:=Cr.2 ed (List.mem_of_getElem? ee);obtain⟨kk,l⟩:=ed;obtain rfl:kk=[b,y]:=hk;have pk:=(k2 p (List.mem_of_getElem? hi)).same s4;rw[Ge]at pk;rcases pk.ex.symm with⟨_,_,_,_,_,z,_⟩|⟨_,_,z,g1⟩
    ·simp at z
    simp only[List.cons.injEq,and_true]at z;obtain⟨rfl,rfl⟩:=z;have RL:=s4.tup um;have add:∀{v:Bool},v=decide (b∈ns/\y∉ns)->∃zs,H4 D=some (.lst zs)/\zs.length<sizeLine/\N [some (.int b),some (.int y),some (.ref sd)] (upd H4 D (.lst (zs++[V.bl v]))):=λ{v} hv=>by refine⟨_,e4,by rw[List.length_map,List.length_map,List.length_take];lia,hN _ _ ⟨_,_,rfl,s4.put hD,?_⟩⟩;rw[aB,take_succ ee,List.map_append,List.map_append,hv];rfl
    refine⟨p.2.1,_,rfl,g1,rfl,_,_,rfl,_,_,rfl,rfl,?_⟩;show if true=true then HN (Ic (KZ K false) (yo 0) (yo 2)) (Ic (KZ K true) (yo 1) (yo 2)) (([v0,v1,some (V.ref sd)].set 0 (some (V.int b))).set 1 (some (V.int y))) H4 (λv H5=>∃ys,H5 D=some (HO.lst ys)/\ys.length<sizeLine/\N (([v0,v1,some (V.ref sd)].set 0 (some (V.int b))).set 1 (some (V.int y))) (upd H5 D (HO.lst (ys++[v]))))else N (([v0,v1,some (V.ref sd)].set 0 (some (V.int b))).set 1 (some (V.int y))) H4;rw[if_pos rfl];refine⟨_,rfl,_,rfl,sd,_,rfl,.inr RL,rfl,bZ _,_,rfl,?_⟩;refine(show if(Ck (.int b) (ns.map V.int))=true then _ else _ from ?_);rw[dJ];by_cases cb:b∈ns
    ·refine bw cb ?_;refine⟨_,rfl,_,rfl,sd,_,rfl,.inr RL,rfl,bZ _,?_⟩;refine add ?_;rw[if_pos rfl,dJ];simp[cb]
    exact bu cb (add (by simp[cb]))
   rintro σ H4 ⟨v0,v1,rfl,s4,e4⟩;rw[J6,List.take_length]at e4;refine⟨td,xs,u,ou,s4 _ _ d2,?_⟩;have S5:=th s4;have T7:D≠td:=(aY d2 hD).symm;have e5:(upd H4 td (gG td xs)) D=some (.lst ((L.map λe=>decide (e.1.headD 0∈ns/\e.1.getD 1 0∉ns)).map V.bl)):=(by rw[aI T7];exact e4);generalize upd H4 td (gG td xs)=H5 at S5 e5 ⊢;refine⟨D,_,rfl,ag.of e5,_,rfl,?_⟩;refine q _ H5 (s1.trans S5) ?_;rw[Bool.not_eq_true',List.any_eq_false];constructor
   ·intro h;refine⟨i1.mp rfl,c1,c2,λa b l he ha=>?_⟩;have:=h _ (List.mem_map.mpr ⟨_,he,rfl⟩);refine Classical.byContradiction λhb=>this ?_;show decide (a∈ns/\b∉ns)=true;exact decide_eq_true ⟨ha,hb⟩
   intro h b hb;obtain⟨e,he,rfl⟩:=List.mem_map.mp hb;obtain⟨a,c,hk,_⟩:=Cr.2 e he;obtain⟨kk,l⟩:=e;obtain rfl:kk=[a,c]:=hk;intro z;have z:decide (a∈ns/\c∉ns)=true:=z;have z:=of_decide_eq_true z;exact z.2 (h.e a c l he z.1)
  exact pS c1 (no s1 λz=>c1 z.o)
def lY(K:PySem.W.Frag)(C:Addr):Sp:=λvs H Q _=>∃(x d an:Addr)(one other:Int)(ms:Ms),vs=[.ref x,.int one,.int other,.ref an]/\jq K C H x d ms/\ms.length<=12/\ny ms/\AE ms /\
 ((∃(wa hl:Addr)(ws:List Int)(ps:Hv),ao K H an [.str "way",.ref wa,.ref hl]/\ao K H wa (ws.map V.int)/\ws.length<=1000/\pd K H hl ps/\ps.length<=100 /\
  ∀(b:Bool)(H':Hp)(ts:List T3),aH H H'->(∀t,t∈ts↔cH ms t)->AD ts->(b=true↔rj (dU ts) one other ws ps)->Q (.bl b) H') \/
  (∃(sd:Addr)(ns:List Int),ao K H an [.str "side",.ref sd]/\ao K H sd (ns.map V.int)/\ns.length<64 /\
  ∀(b:Bool)(H':Hp)(ts:List T3),aH H H'->(∀t,t∈ts↔cH ms t)->AD ts->(b=true↔kO (dU ts) one other ns)->Q (.bl b) H'))
theorem lZ:aQ ["chart","one","other","answer","lengths"] ["chart","one","other","answer"] (aG fB):=⟨rfl,rfl,rfl,by decide +kernel,rfl,by decide +kernel,by decide +kernel⟩
set_option maxHeartbeats 1000000 in
theorem tU(F:aK K mg "way_judged" fB)(T:Txt K mg t)(cS:Def P w K mg base 3 "lengths_of" ["chart"] (gn K t.Map))(kP:Def P w K mg base 3 "way_holds" ["lengths","one","other","way","heights"] (oH K))(jD:Def P w K mg base 3 "side_holds" ["lengths","one","other","side"] (lX K)):Def P w K mg base 4 "way_judged" ["chart","one","other","answer"] (lY K t.Map):=by
 refine F.def lZ (λ_ _ _ _ _ _ us hl=>match us,hl with|[_,_,_,_],_=>rfl) (λvs H Q E h=>?_) (λf bU A outer s H vs Q E hr h=>?_)
 ·obtain⟨x,d,an,one,other,ms,rfl,_⟩:=h;rfl
 obtain⟨x,d,an,one,other,ms,rfl,hM,ml,CO,hq,h⟩:=h;refine⟨_,aD (aT (i:=4) lZ.nd rfl (Or.inl rfl) (aV (cS.mono (by decide)) hr au (aA (pv 0) aC)))
  (aD (ay (aO dR (aN (aR K) (pv 3) aE (λ_ _=>rfl)) cE (aU _))
   (aF (aS (aV (kP.mono (by decide)) hr au (aA (pv 4) (aA (pv 1) (aA (pv 2) (aA (aN (aR K) (pv 3) aE (λ_ _=>rfl)) (aA (aN (aR K) (pv 3) aE (λ_ _=>rfl)) aC))))))))
   (aZ))
  (aF (aS (jt (bK dR (aN (aR K) (pv 3) aE (λ_ _=>rfl)) cE (aU _)) (lq (aV (jD.mono (by decide)) hr au (aA (pv 4) (aA (pv 1) (aA (pv 2) (aA (aN (aR K) (pv 3) aE (λ_ _=>rfl)) aC)))))))))),?_⟩
 refine⟨_,rfl,x,d,ms,rfl,hM,ml,CO,λtd H1 ts xs s1 Q0 hL hm wY tl=>?_⟩;have el:(dU ts).length<=200:=by rw[vp];lia
 rcases h with⟨wa,hl,ws,ps,ha,hw,wl,hp,pl,q⟩|⟨sd,ns,ha,hs,nl,q⟩
 ·have a1:=s1.tup ha;refine⟨_,rfl,an,_,_,.str "way",rfl,rfl,a1,rfl,rfl,_,rfl,?_⟩;refine bw (p:=V.str "way"=V.str "way") rfl ?_;refine⟨_,rfl,_,rfl,_,rfl,_,rfl,an,_,_,.ref wa,rfl,rfl,a1,rfl,_,rfl,an,_,_,.ref hl,rfl,rfl,a1,rfl,?_⟩;refine⟨td,wa,hl,one,other,dU ts,xs,ws,ps,rfl,hL,(kG hq hm wY).1,(kG hq hm wY).2,el,λhv ht=>by have:=ht.Cm hm;lia,s1.tup hw,wl,hp.same s1,pl,λb H2 s2 hb=>?_⟩;exact q b H2 ts (λc o e=>s2 c o (λz=>by rw[z,Q0]at e;cases e) (s1 c o e)) hm wY hb
 have a1:=s1.tup ha;refine⟨_,rfl,an,_,_,.str "side",rfl,rfl,a1,rfl,rfl,_,rfl,?_⟩;refine bu (p:=V.str "side"=V.str "way") (by decide +kernel) ?_;refine⟨_,rfl,an,_,_,.str "side",rfl,rfl,a1,rfl,rfl,_,rfl,?_⟩;refine bw (p:=V.str "side"=V.str "side") rfl ?_;refine⟨_,rfl,_,rfl,_,rfl,_,rfl,an,_,_,.ref sd,rfl,rfl,a1,rfl,?_⟩;exact⟨td,sd,one,other,dU ts,xs,ns,rfl,hL,(kG hq hm wY).1,by lia,s1.tup hs,nl,λb H2 s2 hb=>q b H2 ts (s1.trans s2) hm wY hb⟩
theorem Wl.gz{L:List (Tk×Int)}(kn:(L.map (·.1)).Nodup){goal x s:Int}{ws:List Int}(h:Wl L goal x ws s):gz L ws=some s/\ws.getLast?=some goal:=by
 induction h with
 |done=>exact⟨oF _ _,rfl⟩
 |@step x e l s ws h w ih =>
  obtain⟨t,rfl⟩:=w.head;rw[oE,(cL kn).mpr h,ih.1];exact⟨rfl,by rw[List.getLast?_cons_cons];exact ih.2⟩
theorem Gr.down{L:List (Tk×Int)}{hv:Hv}{goal x:Int}{ws:List Int}(f:Fin L goal hv)(h:Gr L hv goal x ws):∃n,lk hv x=some n/\(∀y∈ws,∃m,lk hv y=some m/\m<=n)/\ws.Nodup:=by
 induction h with
 |done=>exact⟨0,f.h.g,λy hy=>by rw[List.mem_singleton.mp hy];exact⟨0,f.h.g,Int.le_refl _⟩,by simp⟩
 |@step x e ws ne nx g ih =>
  obtain⟨n,h1,h2,h3⟩:=ih;obtain⟨⟨l,m,h4,h5,h6⟩,_⟩:=nx;rw[h1]at h5;cases h5;have l1:=f.pos h4;refine⟨n+l,h6,λy hy=>?_,List.nodup_cons.mpr ⟨λhm=>?_,h3⟩⟩
  ·rcases List.mem_cons.mp hy with rfl|hy
   ·exact⟨_,h6,Int.le_refl _⟩
   obtain⟨m,a,b⟩:=h2 y hy;exact⟨m,a,by lia⟩
  obtain⟨m,a,b⟩:=h2 x hm;rw[h6]at a;cases a;lia
theorem oG.in{L:List (Tk×Int)}{goal:Int}{ps:Hv}(h:oG L goal ps){x n:Int}:(x,n)∈ps↔lk ps x=some n:=by
 have nd:(ps.map (·.1)).Nodup:=h.r.imp λz e=>by lia
 unfold lk;constructor
 ·intro hm;cases e:ps.find? λp=>decide (p.1=x)with
  |none=>exact absurd (List.find?_eq_none.mp e _ hm) (by simp)
  |some q =>
   have h1:=List.mem_of_find?_eq_some e;have h2:q.1=x:=(by simpa using List.find?_some e);obtain⟨i,il,rfl⟩:=List.getElem_of_mem h1;obtain⟨j,jl,ej⟩:=List.getElem_of_mem hm;have:i=j:=(List.getElem_inj (xs:=ps.map (·.1)) (h₀:=by simpa using il) (h₁:=by simpa using jl) nd).mp (by simp[ej,h2]);subst this;rw[ej];rfl
 intro hm;obtain⟨q,e,rfl⟩:=Option.map_eq_some_iff.mp hm;have h2:q.1=x:=by simpa using List.find?_some e
 rw[<-h2];exact List.mem_of_find?_eq_some e
theorem rl{hv:Hv}{ns:List Int}(hp:ns.Perm (hv.map (·.1)))(x:Int):lk (fT hv ns) x=lk hv x:=by
 by_cases c:x∈ns
 ·obtain⟨n,hn⟩:=wB (hp.mem_iff.mp c);rw[hn];unfold lk fT;rw[List.find?_map];cases e:ns.find? ((λp:Int×Int=>decide (p.1=x))∘λh=>(h,(lk hv h).getD 0))with
  |none=>exact absurd (List.find?_eq_none.mp e x c) (by simp)
  |some y =>
   have h2:y=x:=(by simpa using List.find?_some e);subst h2;show some ((lk hv y).getD 0)=some n;rw[hn];rfl
 rw[cm.mpr (λz=>c (hp.mem_iff.mpr z))];refine cm.mpr ?_;unfold fT;rw[List.map_map];intro hm;obtain⟨y,hy,e⟩:=List.mem_map.mp hm;exact c (by rw[<-show y=x from e];exact hy)
theorem mL(hv:Hv)(ns:List Int):(fT hv ns).map (·.1)=ns:=by unfold fT;rw[List.map_map];exact List.map_id'' (λ_=>rfl) _
theorem Fin.hold{L:List (Tk×Int)}{goal:Int}{hv:Hv}(f:Fin L goal hv){ns:List Int}(hp:ns.Perm (hv.map (·.1)))(hs:ns.Pairwise (·<=·)):oG L goal (fT hv ns):=by
 refine⟨λx=>?_,?_,?_,λb e l he m n h1 h2=>?_⟩
 ·rw[mL,hp.mem_iff];exact f.keys x
 ·rw[mL];exact wA hs (hp.nodup_iff.mpr f.h.nd)
 ·rw[rl hp];exact f.h.g
 rw[rl hp]at h1 h2;obtain⟨k,h3,h4⟩:=f.c _ he b e rfl n h2;rw[h1]at h3;cases h3;have h4:m<=n+l:=h4;lia
theorem Wk.congr{L L':List (Tk×Int)}(h:∀e,e∈L->e∈L'){goal x s:Int}(w:Wk L goal x s):Wk L' goal x s:=by
 induction w with
 |nil=>exact .nil
 |cons h1 _ ih=>exact .cons (h _ h1) ih
theorem rm{L L':List (Tk×Int)}(kn:(L.map (·.1)).Nodup)(Gq:(L'.map (·.1)).Nodup)(h:∀e,e∈L↔e∈L'):∀ws,gz L ws=gz L' ws
 |[]=>by rw[gz,gz]<;>(intro x y r z;cases z)
 |[x]=>by rw[oF,oF]
 |x::y::r=>by
  rw[oE,oE,rm kn Gq h (y::r)];have:gU L [x,y]=gU L' [x,y]:=by
   cases e:gU L [x,y]with
   |none =>
    cases e':gU L' [x,y]with
    |none=>rfl
    |some l =>
     rw[(cL kn).mpr ((h _).mpr ((cL Gq).mp e'))]at e;cases e
   |some l=>exact((cL Gq).mpr ((h _).mp ((cL kn).mp e))).symm
  rw[this]
theorem oG.congr{L L':List (Tk×Int)}(h:∀e,e∈L↔e∈L'){goal:Int}{ps:Hv}(z:oG L goal ps):oG L' goal ps :=
 ⟨λx=>(z.k x).trans ⟨λ⟨s,w⟩=>⟨s,w.congr λe=>(h e).mp⟩,λ⟨s,w⟩=>⟨s,w.congr λe=>(h e).mpr⟩⟩,z.r,z.g,λb e l he=>z.e b e l ((h _).mpr he)⟩
theorem rj.congr{L L':List (Tk×Int)}(kn:(L.map (·.1)).Nodup)(Gq:(L'.map (·.1)).Nodup)(h:∀e,e∈L↔e∈L'){one other:Int}{ws:List Int}{ps:Hv}(z:rj L one other ws ps):rj L' one other ws ps :=
 ⟨z.1,z.2.1.congr h,by rw[<-rm kn Gq h];exact z.2.2⟩
theorem iV{ts NZ:List T3}(h:∀t,t∈ts↔t∈NZ)(e:Tk×Int):e∈dU ts↔e∈dU NZ:=by
 rw[bo,bo];constructor
 ·rintro⟨t,ht,z⟩;exact⟨t,(h t).mp ht,z⟩
 rintro⟨t,ht,z⟩;exact⟨t,(h t).mpr ht,z⟩
structure AN(ts:List T3)(one other:Int)(ns:List Int):Prop where
 r:CU ns
 o:one∈ns
 t:other∉ns
 e:∀t∈ts,(t.1∈ns↔t.2.1∈ns)
theorem AO{ts:List T3}{one other:Int}{ns:List Int}:AN ts one other ns↔kO (dU ts) one other ns:=by
 constructor
 ·rintro⟨h1,h2,h3,h4⟩;refine⟨h1,h2,h3,λa b l he ha=>?_⟩;obtain⟨t,ht,z⟩:=bo.mp he;rcases z with z|z
  ·have e:=(Prod.mk.inj z).1;simp only[List.cons.injEq,and_true]at e;obtain⟨rfl,rfl⟩:=e;exact(h4 t ht).mp ha
  have e:=(Prod.mk.inj z).1;simp only[List.cons.injEq,and_true]at e;obtain⟨rfl,rfl⟩:=e;exact(h4 t ht).mpr ha
 rintro⟨h1,h2,h3,h4⟩;exact⟨h1,h2,h3,λt ht=>⟨h4 t.1 t.2.1 t.2.2 (bo.mpr ⟨t,ht,.inl rfl⟩),h4 t.2.1 t.1 t.2.2 (bo.mpr ⟨t,ht,.inr rfl⟩)⟩⟩
theorem CV{ns:List Int}{i:Nat}{n:Int}(e:ns[i]?=some n):CU (ns.take (i+1))↔CU (ns.take i)/\(0<=n/\n<32)/\∀m,0<i->ns[i-1]?=some m->m<n:=by
 rw[take_succ e];constructor
 ·rintro⟨r,h⟩;obtain⟨r1,_,r3⟩:=List.pairwise_append.mp r;refine⟨⟨r1,λx hx=>h x (List.mem_append_left _ hx)⟩,h n (List.mem_append_right _ (List.mem_singleton.mpr rfl)),λm i0 hm=>?_⟩;refine r3 m (List.mem_of_getElem? (i:=i-1) ?_) n (List.mem_singleton.mpr rfl);rw[List.getElem?_take_of_lt (by lia)];exact hm
 rintro⟨⟨r,h⟩,hn,hm⟩;refine⟨List.pairwise_append.mpr ⟨r,by simp,λa ha b hb=>?_⟩,λx hx=>?_⟩
 ·rw[List.mem_singleton.mp hb];obtain⟨k,hk,rfl⟩:=List.getElem_of_mem ha;rw[List.length_take]at hk;have il:i<ns.length:=(List.getElem?_eq_some_iff.mp e).1;have i0:0<i:=by lia
  have el:ns[i-1]?=some (ns[i-1]'(by lia)):=by simp[show i-1<ns.length by lia]
  have:=hm _ i0 el;rw[List.getElem_take];rcases Nat.lt_or_eq_of_le (show k<=i-1 by lia)with c|c
  ·have z:=List.pairwise_iff_getElem.mp r k (i-1) (by rw[List.length_take];lia) (by rw[List.length_take];lia) c;rw[List.getElem_take,List.getElem_take]at z;lia
  subst c;exact this
 rcases List.mem_append.mp hx with z|z
 ·exact h x z
 rw[List.mem_singleton.mp z];exact hn
def fY(K:PySem.W.Frag):Sp:=λvs H Q _=>∃(l sd:Addr)(one other:Int)(ts:List T3)(ns:List Int),vs=[.ref l,.int one,.int other,.ref sd]/\vn K H l ts/\ts.length<=60/\ao K H sd (ns.map V.int)/\ns.length<=1000/\∀(b:Bool)(H':Hp),aH H H'->(b=true↔AN ts one other ns)->Q (.bl b) H'
theorem fZ:aQ ["wires","one","other","side","k"] ["wires","one","other","side"] (aG bO):=⟨rfl,rfl,rfl,by decide +kernel,rfl,by decide +kernel,by decide +kernel⟩
set_option maxHeartbeats 2000000 in
theorem mM(F:aK K mg "_law_side_right" bO)(T:Txt K mg t):Def P w K mg base 1 "_law_side_right" ["wires","one","other","side"] (fY K):=by
 refine F.def fZ (λ_ _ _ _ _ _ us hl=>match us,hl with|[_,_,_,_],_=>rfl) (λvs H Q E h=>?_) (λf bU A outer s H vs Q E hr h=>?_)
 ·obtain⟨l,sd,one,other,ts,ns,rfl,_⟩:=h;rfl
 obtain⟨l,sd,one,other,ts,ns,rfl,hl,tl,hs,nl,q⟩:=h;refine⟨_,aD (PS.wU (bL PassesOwn.never rfl (bx (by rfl) T.dI (aA (aX (bz K) (by rfl) T.gR boot_len (aA (pv 3) aC)) aC)) (aJ (i:=4) fZ.nd rfl (Or.inl rfl))
   (aF (ay (PW.pt (mz (aO pL (aN (aR K) (pv 3) (pv 4) (λ_ _=>rfl)) aE (aU _)) (mz (aO pM (aN (aR K) (pv 3) (pv 4) (λ_ _=>rfl)) aE (aU _)) (lj (PW.pt (jr (aO pM (pv 4) aE (aU _)) (ig (aO tu (aN (aR K) (pv 3) (pv 4) (λ_ _=>rfl)) (aN (aR K) (pv 3) (ah qh (pv 4) aE) (λ_ _=>rfl)) (aU _)))))))))
    (aF (aS cy))
    (aZ)))))
  (aD (ay (PW.pt (mz (aO (gg K) (pv 1) (pv 3) (by rfl)) (lj (aO (cn K) (pv 2) (pv 3) (by rfl)))))
   (aF (aS cy))
   (aZ))
  (aF (aS (bK (Fn K (c6 hr)) (je rfl (Nc:=["wire","side"]) (ix:=[none,some 3]) (cF (aG bO) ["wires","one","other","side","k"] rfl rfl (by decide +kernel)) (bF K (pv 0)) (λC fp s H=>⟨(aJ (i:=0) (show(["wire","side"]:List Str).Nodup by decide +kernel) rfl (Or.inl rfl)),(nF (aO pK (bK (cn K) (aN (aR K) (pv 0) aE (λ_ _=>rfl)) (pv 1) (by rfl)) (bK (cn K) (aN (aR K) (pv 0) aE (λ_ _=>rfl)) (pv 1) (by rfl)) (aU _))),(pv 0)⟩)) (cJ aC) (aU _))))),?_⟩
 have hsz:(20000:Nat)<=sizeLine:=by decide
 have no:∀{H':Hp},aH H H'->¬AN ts one other ns->Q (.bl false) H':=λs h=>q false _ s ⟨λz=>(by cases z),λz=>absurd z h⟩;refine⟨_,rfl,sd,_,rfl,.inr hs,_,rfl,by rw[List.length_map];lia,by rw[List.length_map];lia,?_⟩;have hn:(((ns.map V.int).length:Nat):Int).toNat=ns.length:=by rw[List.length_map];lia
 refine dX (lo:=0) (n:=(((ns.map V.int).length:Nat):Int).toNat) (λi σ H'=>H'=H/\(∃v:Option V,σ=[some (.ref l),some (.int one),some (.int other),some (.ref sd),v])/\CU (ns.take i)) ⟨rfl,⟨none,rfl⟩,by rw[List.take_zero];exact⟨.nil,λn hn=>absurd hn List.not_mem_nil⟩⟩ ?_ ?_
 ·rintro i σ H1 hi ⟨eH,⟨v,rfl⟩,ri⟩;subst eH;rw[hn]at hi;obtain⟨n,en⟩:∃n,ns[i]?=some n:=⟨ns[i],by simp[hi]⟩;have P8:qB (ns.map V.int) (0+(i:Nat):Int)=some (.int n):=by rw[show(0+(i:Nat):Int)=(i:Nat) by lia];exact bW (by rw[List.getElem?_map,en];rfl)
  have sn:=CV en;have bad:¬((0<=n/\n<32)/\∀m,0<i->ns[i-1]?=some m->m<n)->Q (.bl false) H1:=λh=>no (.refl _) λz=>h (sn.mp ⟨z.r.r.sublist (List.take_sublist _ _),λx hx=>z.r.h x (List.mem_of_mem_take hx)⟩).2;refine⟨_,rfl,_,rfl,sd,_,_,.int n,rfl,rfl,hs,P8,_,_,rfl,rfl,_,rfl,?_⟩;by_cases c1:n<0
  ·exact bw c1 (bad λh=>by have:=h.1.1;lia)
  refine bu c1 ?_;refine⟨_,rfl,_,rfl,sd,_,_,.int n,rfl,rfl,hs,P8,_,_,rfl,rfl,_,rfl,?_⟩;by_cases c2:n>31
  ·exact bw c2 (bad λh=>by have:=h.1.2;lia)
  refine bu c2 ?_;refine⟨_,rfl,_,_,rfl,rfl,_,rfl,?_⟩;by_cases c3:(0+(i:Nat):Int)>0
  ·refine bw c3 ?_;have i0:0<i:=(by lia);obtain⟨m,em⟩:∃m,ns[i-1]?=some m:=⟨ns[i-1]'(by lia),by simp[show i-1<ns.length by lia]⟩;have T8:qB (ns.map V.int) ((0+(i:Nat):Int)-1)=some (.int m):=by rw[show(0+(i:Nat):Int)-1=((i-1:Nat):Int) by lia];exact bW (by rw[List.getElem?_map,em];rfl)
   refine⟨_,rfl,_,rfl,sd,_,_,.int n,rfl,rfl,hs,P8,_,rfl,_,rfl,_,_,rfl,rfl,sd,_,_,.int m,rfl,rfl,hs,T8,_,_,rfl,rfl,_,rfl,?_⟩;by_cases c4:n<=m
   ·exact bw c4 (bad λh=>by have:=h.2 m i0 em;lia)
   exact bu c4 ⟨rfl,⟨_,rfl⟩,sn.mpr ⟨ri,⟨by lia,by lia⟩,λm' _ h'=>by rw[em]at h';cases h';lia⟩⟩
  exact bu c3 ⟨rfl,⟨_,rfl⟩,sn.mpr ⟨ri,⟨by lia,by lia⟩,λm' h0=>by lia⟩⟩
 rintro σ H1 ⟨eH,⟨v,rfl⟩,ri⟩;subst eH;rw[hn,List.take_length]at ri;refine⟨_,rfl,_,rfl,sd,_,rfl,.inr hs,rfl,bZ _,_,rfl,?_⟩;refine(show if(!Ck (.int one) (ns.map V.int))=true then _ else _ from ?_);rw[dJ];by_cases c1:one∈ns
 ·refine jz c1 ?_;refine⟨_,rfl,_,rfl,sd,_,rfl,.inr hs,rfl,bZ _,_,rfl,?_⟩;refine(show if(Ck (.int other) (ns.map V.int))=true then _ else _ from ?_);rw[dJ];by_cases c2:other∈ns
  ·exact bw c2 (no (.refl _) λz=>z.t c2)
  refine bu c2 ?_;obtain⟨zs,z1,z2,z3⟩:=hl;have zl:zs.length=ts.length:=by rw[<-z3,List.length_map]
  refine⟨_,rfl,l,rfl,⟨_,ag.of z1⟩,λD hD=>?_⟩
  let J:Nat->_->_->Prop:=λi σ H'=>∃(v:Option V)(ys:List (V×T3)),σ=[v,some (.ref sd)]/\aH H1 H'/\H' D=some (.lst (ys.map (·.1)))/\ys=(zs.take i).filter λz=>decide (¬(z.2.1∈ns↔z.2.2.1∈ns))
  refine gJ (K:=K) (a:=l) (xs:=zs.map (·.1)) J ⟨none,[],rfl,(aH.refl _).new hD,aB,rfl⟩ (λi σ H' _ ⟨_,_,_,s,_⟩=>ag.of (s _ _ z1)) ?_ ?_
  ·rintro i y σ H2 N hN hi ⟨v,ys,rfl,s2,e2,ey⟩;rw[List.getElem?_map]at hi;cases ez:zs[i]? with
   |none=>rw[ez]at hi;cases hi
   |some zt =>
    rw[ez]at hi;obtain rfl:zt.1=y:=Option.some.inj hi;have il:i<ts.length:=(by rw[<-zl];exact(List.getElem?_eq_some_iff.mp ez).1);obtain⟨za,Kp,g1⟩:=vo ((z2 zt (List.mem_of_getElem? ez)).same s2);have um:=s2.tup hs;have yl:ys.length<=60:=by rw[ey];refine Nat.le_trans (List.length_filter_le _ _) ?_;rw[List.length_take];lia
    refine⟨_,rfl,za,_,_,.int zt.2.1,Kp,rfl,g1,rfl,_,rfl,sd,_,rfl,.inr um,rfl,bZ _,?_⟩;refine⟨_,rfl,za,_,_,.int zt.2.2.1,Kp,rfl,g1,rfl,_,rfl,sd,_,rfl,.inr um,rfl,bZ _,rfl,_,rfl,?_⟩;refine(show if(!decide (V.bl (Ck (.int zt.2.1) (ns.map V.int))=V.bl (Ck (.int zt.2.2.1) (ns.map V.int))))=true then _ else _ from ?_);rw[dJ,dJ];have bi:∀{p q:Prop}[Decidable p][Decidable q],(V.bl (decide p)=V.bl (decide q))↔(p↔q):=λ{p q} _ _=>by
     constructor
     ·intro h;have:=V.bl.inj h;constructor
      ·intro hp;rw[decide_eq_true hp]at this;exact of_decide_eq_true this.symm
      intro hq;rw[decide_eq_true hq]at this;exact of_decide_eq_true this
     intro h
     congr 1
     by_cases hp:p
     ·rw[decide_eq_true hp,decide_eq_true (h.mp hp)]
     rw[decide_eq_false hp,decide_eq_false λz=>hp (h.mpr z)]
    by_cases c:(zt.2.1∈ns↔zt.2.2.1∈ns)
    ·refine jz (bi.mpr c) (hN _ _ ⟨_,ys,rfl,s2,e2,?_⟩);rw[ey,take_succ ez,List.filter_append,List.filter_cons_of_neg (by simp[c]),List.filter_nil,List.append_nil]
    refine pS (λz=>c (bi.mp z)) ?_;refine⟨_,rfl,_,e2,by rw[List.length_map];lia,hN _ _ ⟨_,ys++[zt],rfl,s2.put hD,by rw[aB,List.map_append];rfl,?_⟩⟩;rw[ey,take_succ ez,List.filter_append,List.filter_cons_of_pos (by simpa using c),List.filter_nil]
  rintro σ H2 ⟨v,ys,rfl,s2,e2,ey⟩;rw[List.length_map,List.take_length]at ey;refine⟨zz0,λel Dp=>?_⟩;have s3:=(aH.refl H2).new (o:=.lst []) Dp;have e3:(upd H2 el (.lst [])) el=some (.lst []):=aB;generalize upd H2 el (.lst [])=H3 at s3 e3 ⊢;have S3:=s2.trans s3;have Mr:ys=[]↔∀t∈ts,(t.1∈ns↔t.2.1∈ns):=by
   rw[ey,List.filter_eq_nil_iff];constructor
   ·intro h t ht;rw[<-z3]at ht;obtain⟨z,hz,rfl⟩:=List.mem_map.mp ht;have:=h z hz
    simpa using this
   intro h z hz;have:=h z.2 (by rw[<-z3];exact List.mem_map.mpr ⟨z,hz,rfl⟩)
   simpa using this
  by_cases c:ys=[]
  ·have c':=c;refine⟨D,el,_,_,rfl,rfl,ag.of (s3 _ _ e2),ag.of e3,.inl ⟨by rw[c];rfl,λj u v hu hv=>(by cases hv),?_⟩⟩;exact q _ H3 S3 ⟨λ_=>⟨ri,c1,c2,Mr.mp c⟩,λ_=>rfl⟩
  refine⟨D,el,_,_,rfl,rfl,ag.of (s3 _ _ e2),ag.of e3,.inr ⟨λz=>c (by rw[List.length_map]at z;exact List.length_eq_zero_iff.mp z),?_⟩⟩;exact no S3 λz=>c (Mr.mpr z.e)
 exact pS c1 (no (.refl _) λz=>c1 z.o)
def Cs(t:T3)(p:Int×Int):Bool:=decide (t.1=p.1/\t.2.1=p.2\/t.1=p.2/\t.2.1=p.1)
def Gs(t:T3)(p:Int×Int):Int:=if Cs t p=true then t.2.2 else 0
def gH:List Int->List (Int×Int)
 |x::y::r=>(x,y)::gH (y::r)
 |_=>[]
theorem oJ(x y:Int)(r:List Int):gH (x::y::r)=(x,y)::gH (y::r):=by rw[gH]
theorem yQ(x:Int):gH [x]=[]:=by rw[gH];intro x y r z;cases z
theorem BL:∀(ws:List Int)(k:Nat),k+1<ws.length->∃a b,ws[k]?=some a/\ws[k+1]?=some b/\(gH ws)[k]?=some (a,b)
 |[],_,h=>absurd h (by simp)
 |[_],_,h=>absurd h (by simp)
 |x::y::r,0,_=>⟨x,y,rfl,rfl,by rw[oJ];rfl⟩
 |x::y::r,k+1,h=>by obtain⟨a,b,h1,h2,h3⟩:=BL (y::r) k (by simpa using h);exact⟨a,b,by simpa using h1,by simpa using h2,by rw[oJ];simpa using h3⟩
theorem yR:∀(ws:List Int),(gH ws).length=ws.length-1
 |[]=>by rw[gH];rfl;intro x y r z;cases z
 |[x]=>by rw[yQ];rfl
 |x::y::r=>by rw[oJ,List.length_cons,yR (y::r)];simp
def wD(t:T3)(ps:List (Int×Int)):Int:=(ps.map (Gs t)).sum
def gY(ts:List T3)(ps:List (Int×Int)):Int:=(ts.map λt=>wD t ps).sum
theorem yS(l:List Int)(x:Int):(l++[x]).sum=l.sum+x:=by simp
theorem rn(p:Int×Int)(ps:List (Int×Int)):∀ts:List T3,gY ts (p::ps)=(ts.map λt=>Gs t p).sum+gY ts ps
 |[]=>by simp[gY]
 |t::ts=>by have ih:=rn p ps ts;unfold gY at ih ⊢;rw[List.map_cons,List.sum_cons,ih,List.map_cons,List.sum_cons,List.map_cons,List.sum_cons];unfold wD;rw[List.map_cons,List.sum_cons];lia
theorem KJ{ts:List T3}(td:AD ts){x e l:Int}(h:([x,e],l)∈dU ts):(ts.map λt=>Gs t (x,e)).sum=l:=by
 have zero:∀{ts:List T3},(∀t∈ts,Cs t (x,e)=false)->(ts.map λt=>Gs t (x,e)).sum=0:=λ{ts}=>by
  induction ts with
  |nil=>intro _;rfl
  |cons t ts ih =>
   intro h;rw[List.map_cons,List.sum_cons,ih λu hu=>h u (List.mem_cons_of_mem _ hu)];unfold Gs;rw[h t List.mem_cons_self];rfl
 have mt:∀{t:T3},Cs t (x,e)=true↔(t.1=x/\t.2.1=e\/t.1=e/\t.2.1=x):=λ{t}=>by unfold Cs;rw[decide_eq_true_iff]
 induction ts with
 |nil=>cases h
 |cons t ts ih =>
  obtain⟨p1,p2⟩:=List.pairwise_cons.mp td.pw;have Mt:AD ts:=⟨λs hs=>td.lt s (List.mem_cons_of_mem _ hs),p2⟩;rw[List.map_cons,List.sum_cons];cases c:Cs t (x,e)with
  |true =>
   have m1:=mt.mp c;have lt:=td.lt t List.mem_cons_self;rw[zero λs hs=>by
    cases c2:Cs s (x,e)with
    |false=>rfl
    |true =>
     have m2:=mt.mp c2;have Pt:=td.lt s (List.mem_cons_of_mem _ hs);exact absurd ⟨by lia,by lia⟩ (p1 s hs)]
   have el:t.2.2=l:=by
    obtain⟨s,hs,z⟩:=bo.mp h;rcases List.mem_cons.mp hs with rfl|hs
    ·rcases z with z|z<;>exact((Prod.mk.inj z).2).symm
    exfalso;have Pt:=td.lt s (List.mem_cons_of_mem _ hs);rcases z with z|z
    ·have e:=(Prod.mk.inj z).1;simp only[List.cons.injEq,and_true]at e;exact p1 s hs ⟨by lia,by lia⟩
    have e:=(Prod.mk.inj z).1;simp only[List.cons.injEq,and_true]at e;exact p1 s hs ⟨by lia,by lia⟩
   unfold Gs;rw[c,if_pos rfl,el];lia
  |false =>
   have e0:Gs t (x,e)=0:=(by unfold Gs;rw[c];rfl);rw[e0];have:([x,e],l)∈dU ts:=by
    obtain⟨s,hs,z⟩:=bo.mp h;rcases List.mem_cons.mp hs with rfl|hs
    ·exfalso;have:Cs s (x,e)=true:=mt.mpr (by
      rcases z with z|z
      ·have e:=(Prod.mk.inj z).1;simp only[List.cons.injEq,and_true]at e;exact .inl ⟨e.1.symm,e.2.symm⟩
      have e:=(Prod.mk.inj z).1;simp only[List.cons.injEq,and_true]at e;exact .inr ⟨e.2.symm,e.1.symm⟩)
     rw[c]at this;cases this
    exact bo.mpr ⟨s,hs,z⟩
   rw[ih Mt this];lia
theorem Wl.long{ts:List T3}(td:AD ts){goal x s:Int}{ws:List Int}(h:Wl (dU ts) goal x ws s):gY ts (gH ws)=s:=by
 induction h with
 |done =>
  rw[yQ];unfold gY;have:∀ts:List T3,(ts.map λt=>wD t []).sum=0:=λts=>by
   induction ts with
   |nil=>rfl
   |cons t ts ih=>rw[List.map_cons,List.sum_cons,ih];rfl
  exact this ts
 |@step x e l s ws h w ih =>
  obtain⟨t,rfl⟩:=w.head;rw[oJ,rn,KJ td h,ih]
def iW(K:PySem.W.Frag):Sp:=λvs H Q _=>∃(l wa:Addr)(ts:List T3)(ws:List Int),vs=[.ref l,.ref wa]/\vn K H l ts/\ao K H wa (ws.map V.int)/\ws.length<=1000/\(∀t∈ts,0<=t.2.2/\t.2.2<=1000)/\∀H',aH H H'->Q (.int (gY ts (gH ws))) H'
theorem bC:aQ ["wires","way","total","a","b","length","k"] ["wires","way"] (aG cf):=⟨rfl,rfl,rfl,by decide +kernel,rfl,by decide +kernel,by decide +kernel⟩
set_option maxHeartbeats 2000000 in
theorem o6(F:aK K mg "_law_way_long" cf)(T:Txt K mg t):Def P w K mg base 1 "_law_way_long" ["wires","way"] (iW K):=by
 refine F.def bC (λ_ _ _ _ _ _ us hl=>match us,hl with|[_,_],_=>rfl) (λvs H Q E h=>?_) (λf bU A outer s H vs Q E hr h=>?_)
 ·obtain⟨l,wa,ts,ws,rfl,_⟩:=h;rfl
 obtain⟨l,wa,ts,ws,rfl,hl,hw,wl,hb,q⟩:=h;refine⟨_,aD (aT (i:=2) bC.nd rfl (Or.inl rfl) aE)
  (aD (PS.wU (bL PassesOwn.never rfl (bF K (pv 0)) (ju rfl (aa (aJ (i:=3) bC.nd rfl (Or.inl rfl)) (aa (aJ (i:=4) bC.nd rfl (Or.inl rfl)) (aa (aJ (i:=5) bC.nd rfl (Or.inl rfl)) eU))))
   (aF (bL PassesOwn.never rfl (BQ (by rfl) T.dI (aA aE (aA (aX (bz K) (by rfl) T.gR boot_len (aA (pv 1) aC)) aC))) (aJ (i:=6) bC.nd rfl (Or.inl rfl))
    (aF (aT (i:=2) bC.nd rfl (Or.inl rfl) (ah bh (pv 2) (ah qZ (pv 5) (bE BS (by rfl) T.MU boot_int (aA (bK (Dd K (c6 hr)) (aw (aA (pv 3) (aA (pv 4) aC))) (cJ (aA (aw (aA (aN (aR K) (pv 1) (ah qh (pv 6) aE) (λ_ _=>rfl)) (aA (aN (aR K) (pv 1) (pv 6) (λ_ _=>rfl)) aC))) (aA (aw (aA (aN (aR K) (pv 1) (pv 6) (λ_ _=>rfl)) (aA (aN (aR K) (pv 1) (ah qh (pv 6) aE) (λ_ _=>rfl)) aC))) aC))) (by rfl)) aC))))))))))
  (aF (aS (pv 2)))),?_⟩
 have hsz:(20000:Nat)<=sizeLine:=by decide
 obtain⟨zs,z1,z2,z3⟩:=hl;have zl:zs.length=ts.length:=by rw[<-z3,List.length_map]
 let I:Nat->_->_->Prop:=λi σ H'=>∃(v3 v4 v5 v6:Option V),σ=[some (.ref l),some (.ref wa),some (.int (gY (ts.take i) (gH ws))),v3,v4,v5,v6]/\aH H H'
 refine⟨_,rfl,l,rfl,⟨_,ag.of z1⟩,dy (K:=K) (a:=l) (xs:=zs.map (·.1)) I ⟨none,none,none,none,rfl,.refl _⟩ (λi σ H' _ ⟨_,_,_,_,_,s⟩=>ag.of (s _ _ z1)) ?_ ?_⟩
 ·rintro i y σ H1 hi ⟨v3,v4,v5,v6,rfl,s1⟩;rw[List.getElem?_map]at hi;cases ez:zs[i]? with
  |none=>rw[ez]at hi;cases hi
  |some zt =>
   rw[ez]at hi;obtain rfl:zt.1=y:=Option.some.inj hi;have et:ts[i]?=some zt.2:=(by rw[<-z3,List.getElem?_map,ez];rfl);obtain⟨za,Kp,g1⟩:=vo ((z2 zt (List.mem_of_getElem? ez)).same s1);have b1:=hb zt.2 (List.mem_of_getElem? et);refine⟨za,_,Kp,g1,rfl,_,_,rfl,_,_,rfl,_,_,rfl,rfl,?_⟩;refine⟨_,rfl,wa,_,rfl,.inr (s1.tup hw),_,_,rfl,by rw[List.length_map];lia,?_⟩;have hn:((((ws.map V.int).length:Nat):Int)-1).toNat=ws.length-1:=by rw[List.length_map];lia
   let J:Nat->_->_->Prop:=λj σ H'=>∃v6:Option V,σ=[some (.ref l),some (.ref wa),some (.int (gY (ts.take i) (gH ws)+wD zt.2 ((gH ws).take j))),some (.int zt.2.1),some (.int zt.2.2.1),some (.int zt.2.2.2),v6]/\aH H H'
   have T9:gY (ts.take i) (gH ws)+wD zt.2 ((gH ws).take 0)=gY (ts.take i) (gH ws):=by rw[List.take_zero];show _+0=_;lia
   refine dX (lo:=1) (n:=((((ws.map V.int).length:Nat):Int)-1).toNat) J ⟨v6,by rw[T9];rfl,s1⟩ ?_ ?_
   ·rintro j σ H2 hj ⟨v6,rfl,s2⟩;rw[hn]at hj;obtain⟨a,b,ea,eb,es⟩:=BL ws j (by lia);have RM:qB (ws.map V.int) ((1+(j:Nat):Int)-1)=some (.int a):=by rw[show(1+(j:Nat):Int)-1=(j:Nat) by lia];exact bW (by rw[List.getElem?_map,ea];rfl)
    have RN:qB (ws.map V.int) (1+(j:Nat):Int)=some (.int b):=by rw[show(1+(j:Nat):Int)=((j+1:Nat):Int) by lia];exact bW (by rw[List.getElem?_map,eb];rfl)
    refine⟨_,rfl,_,rfl,_,rfl,_,rfl,zz2,λt0 UA=>?_⟩;have u0:=(aH.refl H2).new (o:=.tup [.int zt.2.1,.int zt.2.2.1]) UA;have a0:ao K (upd H2 t0 (.tup [.int zt.2.1,.int zt.2.2.1])) t0 ([some zt.2.1,some zt.2.2.1].map ent):=ao.of aB;generalize upd H2 t0 (.tup [.int zt.2.1,.int zt.2.2.1])=H3 at u0 a0 ⊢;have P9:=(s2.trans u0).tup hw;refine⟨_,rfl,_,rfl,_,_,rfl,rfl,wa,_,_,.int a,rfl,rfl,P9,RM,_,rfl,_,rfl,wa,_,_,.int b,rfl,rfl,P9,RN,zz2,λt1 UB=>?_⟩;have u1:=(aH.refl H3).new (o:=.tup [.int a,.int b]) UB;have a1:ao K (upd H3 t1 (.tup [.int a,.int b])) t1 ([some a,some b].map ent):=ao.of aB;generalize upd H3 t1 (.tup [.int a,.int b])=H4 at u1 a1 ⊢;have RO:=u1.tup P9;refine⟨_,rfl,_,rfl,wa,_,_,.int b,rfl,rfl,RO,RN,_,rfl,_,rfl,_,_,rfl,rfl,wa,_,_,.int a,rfl,rfl,RO,RM,zz2,λt2 NQ=>?_⟩;have u2:=(aH.refl H4).new (o:=.tup [.int b,.int a]) NQ;have a2:ao K (upd H4 t2 (.tup [.int b,.int a])) t2 ([some b,some a].map ent):=ao.of aB;generalize upd H4 t2 (.tup [.int b,.int a])=H5 at u2 a2 ⊢;refine⟨zz2,λil QA=>?_⟩;have u3:=(aH.refl H5).new (o:=.lst [.ref t1,.ref t2]) QA;have a3:(upd H5 il (.lst [.ref t1,.ref t2])) il=some (.lst [.ref t1,.ref t2]):=aB;generalize upd H5 il (.lst [.ref t1,.ref t2])=H6 at u3 a3 ⊢;refine⟨t0,il,[some zt.2.1,some zt.2.2.1],2,λk=>if k=0 then t1 else t2,λk=>if k=0 then[some a,some b]else[some b,some a],rfl,rfl,(u1.trans (u2.trans u3)).tup a0,ag.of a3,λk hk=>?_,?_⟩
    ·rcases Nat.lt_or_eq_of_le (Nat.le_of_lt_succ hk)with z|z
     ·have:k=0:=(by lia);subst this;exact(u2.trans u3).tup a1
     subst z;exact u3.tup a2
    have em:((List.range 2).any λk=>decide ((if k=0 then[some a,some b]else[some b,some a])=[some zt.2.1,some zt.2.2.1]))=Cs zt.2 (a,b):=by
     unfold Cs;rw[Bool.eq_iff_iff,decide_eq_true_iff];simp[List.range,List.range.loop];constructor
     ·rintro(⟨h1,h2⟩|⟨h1,h2⟩)
      ·exact .inl ⟨h1.symm,h2.symm⟩
      exact .inr ⟨h1.symm,h2.symm⟩
     rintro(⟨h1,h2⟩|⟨h1,h2⟩)
     ·exact .inl ⟨h1.symm,h2.symm⟩
     exact .inr ⟨h1.symm,h2.symm⟩
    refine .inr ⟨Cs zt.2 (a,b),by rw[<-em];rfl,?_⟩;refine⟨_,_,rfl,rfl,BH (by lia),_,_,rfl,rfl,?_⟩;refine⟨some (.int (1+(j:Nat))),?_,s2.trans (u0.trans (u1.trans (u2.trans u3)))⟩;have er:wD zt.2 ((gH ws).take (j+1))=wD zt.2 ((gH ws).take j)+zt.2.2.2*(if Cs zt.2 (a,b)=true then 1 else 0):=by
     rw[take_succ es];unfold wD;rw[List.map_append,List.map_cons,List.map_nil,yS];unfold Gs;cases Cs zt.2 (a,b)
     ·simp
     simp
    rw[er,<-Int.add_assoc];rfl
   rintro σ H2 ⟨v6,rfl,s2⟩;refine⟨some (.int zt.2.1),some (.int zt.2.2.1),some (.int zt.2.2.2),v6,?_,s2⟩;rw[hn,<-yR,List.take_length];have:gY (ts.take (i+1)) (gH ws)=gY (ts.take i) (gH ws)+wD zt.2 (gH ws):=by rw[take_succ et];unfold gY;rw[List.map_append,List.map_cons,List.map_nil,yS]
   rw[this]
 rintro σ H1 ⟨v3,v4,v5,v6,rfl,s1⟩;have:=q H1 s1;refine⟨_,rfl,?_⟩;rw[List.length_map,zl,List.take_length];exact this
def oK(K:PySem.W.Frag):Sp:=λvs H Q _=>∃c:Int,vs=[.int c]/\∀(r:Addr)(H':Hp)(ns:List Int),aH H H'->H' r=some (.lst (ns.map V.int))->ns.length<=32->(∀n∈ns,0<=n/\n<32)->Q (.ref r) H'
theorem oM:aQ ["cell","left"] ["cell"] (aG d9):=⟨rfl,rfl,rfl,by decide +kernel,rfl,by decide +kernel,by decide +kernel⟩
set_option maxHeartbeats 1000000 in
theorem wF(F:aK K mg "_law_bits" d9)(T:Txt K mg t):Def P w K mg base 1 "_law_bits" ["cell"] (oK K):=by
 refine F.def oM (λ_ _ _ _ _ _ us hl=>match us,hl with|[_],_=>rfl) (λvs H Q E h=>?_) (λf bU A outer s H vs Q E hr h=>?_)
 ·obtain⟨c,rfl,_⟩:=h;rfl
 obtain⟨c,rfl,q⟩:=h;refine⟨_,aD (aT (i:=1) oM.nd rfl (Or.inr rfl) (aX C2 (by rfl) T.MS boot_abs (aA (pv 0) aC)))
  (aF (aS (je rfl (Nc:=["house","left"]) (ix:=[none,some 1]) (cF (aG d9) ["cell","left"] rfl rfl (by decide +kernel)) (bx (by rfl) T.dI (aA aE aC)) (λC fp s H=>⟨(aJ (i:=0) (show(["house","left"]:List Str).Nodup by decide +kernel) rfl (Or.inl rfl)),(nF (aO dR (ah cz (ah Ik (pv 1) (pv 0)) aE) aE (aU _))),(pv 0)⟩)))),?_⟩
 have hsz:(20000:Nat)<=sizeLine:=by decide
 refine⟨_,rfl,c,rfl,?_⟩;dsimp only;generalize(if c<0 then -c else c)=lf;refine⟨32,rfl,by decide,by decide,λD hD=>?_⟩
 let J:Nat->_->_->Prop:=λi σ H'=>∃(v:Option V)(ns:List Int),σ=[v,some (.int lf)]/\aH H H'/\H' D=some (.lst (ns.map V.int))/\ns.length<=i/\∀n∈ns,0<=n/\n<32
 refine nJ (lo:=0) (n:=32) J ⟨none,[],rfl,(aH.refl _).new hD,aB,Nat.le_refl _,λn hn=>absurd hn List.not_mem_nil⟩ ?_ ?_
 ·rintro i σ H1 N hN hi ⟨v,ns,rfl,s1,e1,nl,hn⟩;refine⟨_,rfl,_,rfl,_,_,rfl,rfl,(by show(0:Int)<=0+(i:Nat);lia),_,_,rfl,rfl,(by show(0:Int)<2;decide),rfl,_,rfl,?_⟩;dsimp only;generalize lf/2 ^ (0+(i:Nat):Int).toNat=z;by_cases c1:z%2=1
  ·refine bw (congrArg V.int c1) ?_;refine⟨_,rfl,_,e1,by rw[List.length_map];lia,hN _ _ ⟨_,ns++[(0+(i:Nat):Int)],rfl,s1.put hD,by rw[aB,List.map_append];rfl,by rw[List.length_append];show ns.length+1<=i+1;lia,λn h=>?_⟩⟩;rcases List.mem_append.mp h with h|h
   ·exact hn n h
   rw[List.mem_singleton.mp h];lia
  exact bu (λe=>c1 (V.int.inj e)) (hN _ _ ⟨_,ns,rfl,s1,e1,by lia,hn⟩)
 rintro σ H1 ⟨v,ns,rfl,s1,e1,nl,hn⟩;exact q D H1 ns s1 e1 nl hn
def fc(K:PySem.W.Frag):Sp:=λvs H Q _=>∃(l:Addr)(c one other:Int)(ts:List T3),vs=[.ref l,.int c,.int one,.int other]/\vn K H l ts/\ts.length<=60/\(∀t∈ts,(0<=t.1/\t.1<32)/\(0<=t.2.1/\t.2.1<32))/\(0<=one/\one<32)/\∀(r:Addr)(H':Hp)(ns:List Int),aH H H'->ao K H' r (ns.map V.int)->ns.length<64->Q (.ref r) H'
theorem ak:aQ ["wires","cell","one","other","some","turn","a","b","length"] ["wires","cell","one","other"] (aG bP):=⟨rfl,rfl,rfl,by decide +kernel,rfl,by decide +kernel,by decide +kernel⟩
set_option maxHeartbeats 2000000 in
theorem mO(F:aK K mg "_law_drawn_side" bP)(T:Txt K mg t)(kQ:Def P w K mg base 1 "_law_bits" ["cell"] (oK K)):Def P w K mg base 2 "_law_drawn_side" ["wires","cell","one","other"] (fc K):=by
 refine F.def ak (λ_ _ _ _ _ _ us hl=>match us,hl with|[_,_,_,_],_=>rfl) (λvs H Q E h=>?_) (λf bU A outer s H vs Q E hr h=>?_)
 ·obtain⟨l,c,one,other,ts,rfl,_⟩:=h;rfl
 obtain⟨l,c,one,other,ts,rfl,hl,tl,ht,ho,q⟩:=h;refine⟨_,aD (aT (i:=4) ak.nd rfl (Or.inl rfl) (aV (kQ.mono (by decide)) hr au (aA (ah m9 (pv 1) aE) aC)))
  (aD (j0 (ay (aO dR (ah cz (pv 1) aE) aE (aU _))
   (aF (PS.wU (bL PassesOwn.never rfl (bx (by rfl) T.dI (aA aE aC)) (aJ (i:=5) ak.nd rfl (Or.inl rfl))
    (aF (bL PassesOwn.never rfl (bF K (pv 0)) (ju rfl (aa (aJ (i:=6) ak.nd rfl (Or.inl rfl)) (aa (aJ (i:=7) ak.nd rfl (Or.inl rfl)) (aa (aJ (i:=8) ak.nd rfl (Or.inl rfl)) eU))))
     (aF (ay (aO pK (bK (cn K) (pv 6) (pv 4) (by rfl)) (bK (cn K) (pv 7) (pv 4) (by rfl)) (aU _))
      (aF (aT (i:=4) ak.nd rfl (Or.inl rfl) (ah (iz K) (pv 4) (cJ (aA (pv 6) (aA (pv 7) aC))))))
      (aZ))))))))
   (aZ)))
  (aD (j0 (ay (aO dR (ah cz (ah m9 (pv 1) aE) aE) aE (aU _))
   (aF (aT (i:=4) ak.nd rfl (Or.inl rfl) (ah (iz K) (pv 4) (cJ (aA (pv 2) aC)))))
   (aZ)))
  (aD (j0 (ay (aO dR (ah cz (ah m9 (pv 1) aE) aE) aE (aU _))
   (aF (jx (i:=4) ak.nd rfl (Or.inl rfl) rfl (Nc:=["house","other"]) (ix:=[none,some 3]) (cF (aG bP) ["wires","cell","one","other","some","turn","a","b","length"] rfl rfl (by decide +kernel)) (bF K (pv 4)) (λC fp s H=>⟨(aJ (i:=0) (show(["house","other"]:List Str).Nodup by decide +kernel) rfl (Or.inl rfl)),(nF (aO pK (pv 0) (pv 1) (aU _))),(pv 0)⟩)))
   (aZ)))
  (aF (aS (bE (cp K) (by rfl) T.lC boot_tuple (aA (aX (nY P w (c6 hr)) (by rfl) T.cY boot_sorted (aA (bE (uZ P w K) (by rfl) T.xw boot_set (aA (pv 4) aC)) aC)) aC))))))),?_⟩
 have hsz:(20000:Nat)<=sizeLine:=by decide
 have sb:2000<scanBound:=by decide
 obtain⟨zs,z1,z2,z3⟩:=hl;have zl:zs.length=ts.length:=by rw[<-z3,List.length_map]
 refine⟨_,rfl,_,_,rfl,rfl,⟨by decide,by decide⟩,_,rfl,λr1 H1 RP s1 e1 l1 h1=>?_⟩
 let Sm:Nat->L2.St->Hp->Prop:=λn σ H'=>∃(r:Addr)(ns:List Int)(v5 v6 v7 v8:Option V),σ=[some (.ref l),some (.int c),some (.int one),some (.int other),some (.ref r),v5,v6,v7,v8]/\aH H H'/\H' r=some (.lst (ns.map V.int))/\ns.length<=n/\∀x∈ns,0<=x/\x<32
 refine⟨Sm 752,?_,?_⟩
 ·refine⟨_,rfl,_,_,rfl,rfl,(by show(0:Int)<2;decide),rfl,_,rfl,?_⟩;by_cases c1:c%2=1
  ·refine bw (congrArg V.int c1) ?_;refine⟨6,rfl,by decide,by decide,?_⟩;refine dX (lo:=0) (n:=6) (λi=>Sm (32+i*120)) ⟨r1,RP,none,none,none,none,rfl,s1,e1,by lia,h1⟩ ?_ ?_
   ·rintro i σ H2 hi ⟨r,ns,v5,v6,v7,v8,rfl,s2,e2,l2,h2⟩;refine⟨_,rfl,l,rfl,⟨_,ag.of (s2 _ _ z1)⟩,dy (K:=K) (a:=l) (xs:=zs.map (·.1)) (λj=>Sm (32+i*120+2*j)) ⟨r,ns,_,_,_,_,rfl,s2,e2,l2,h2⟩ (λj σ H' _ ⟨_,_,_,_,_,_,_,s,_⟩=>ag.of (s _ _ z1)) ?_ ?_⟩
    ·rintro j y σ H3 hj ⟨r,ns,v5,v6,v7,v8,rfl,s3,e3,l3,h3⟩;rw[List.getElem?_map]at hj;cases ez:zs[j]? with
     |none=>rw[ez]at hj;cases hj
     |some zt =>
      rw[ez]at hj;obtain rfl:zt.1=y:=Option.some.inj hj;have et:ts[j]?=some zt.2:=(by rw[<-z3,List.getElem?_map,ez];rfl);have jl:j<ts.length:=(List.getElem?_eq_some_iff.mp et).1;have bt:=ht zt.2 (List.mem_of_getElem? et);obtain⟨za,Kp,g1⟩:=vo ((z2 zt (List.mem_of_getElem? ez)).same s3);refine⟨za,_,Kp,g1,rfl,_,_,rfl,_,_,rfl,_,_,rfl,rfl,?_⟩;refine⟨_,rfl,_,rfl,r,_,rfl,.inl (ag.of e3),rfl,bZ _,?_⟩;refine⟨_,rfl,_,rfl,r,_,rfl,.inl (ag.of e3),rfl,bZ _,rfl,_,rfl,?_⟩;refine Be (λ_=>?_) (λ_=>⟨r,ns,_,_,_,_,rfl,s3,e3,by lia,h3⟩);refine⟨_,rfl,_,rfl,_,rfl,zz2,λp hp=>?_⟩;have s4:=(aH.refl H3).new (o:=.lst [.int zt.2.1,.int zt.2.2.1]) hp;have e4:(upd H3 p (.lst [.int zt.2.1,.int zt.2.2.1])) p=some (.lst [.int zt.2.1,.int zt.2.2.1]):=aB;generalize upd H3 p (.lst [.int zt.2.1,.int zt.2.2.1])=H4 at s4 e4 ⊢;refine⟨r,p,_,_,rfl,rfl,ag.of (s4 _ _ e3),ag.of e4,by rw[List.length_map];show _+2<=sizeLine;lia,λr2 rC=>?_⟩;refine⟨r2,ns++[zt.2.1,zt.2.2.1],_,_,_,_,rfl,(s3.trans s4).new rC,by rw[aB,List.map_append];rfl,by rw[List.length_append];show ns.length+2<=_;lia,λx hx=>?_⟩;rcases List.mem_append.mp hx with h|h
      ·exact h3 x h
      rcases List.mem_cons.mp h with rfl|h
      ·exact bt.1
      rw[List.mem_singleton.mp h];exact bt.2
    rintro σ H3 ⟨r,ns,v5,v6,v7,v8,rfl,s3,e3,l3,h3⟩;rw[List.length_map,zl]at l3;exact⟨r,ns,_,_,_,_,rfl,s3,e3,by lia,h3⟩
   rintro σ H2 ⟨r,ns,v5,v6,v7,v8,rfl,s2,e2,l2,h2⟩;exact⟨r,ns,_,_,_,_,rfl,s2,e2,by lia,h2⟩
  exact bu (λe=>c1 (V.int.inj e)) ⟨r1,RP,none,none,none,none,rfl,s1,e1,by lia,h1⟩
 rintro σ H2 ⟨r2,QB,v5,v6,v7,v8,rfl,s2,e2,l2,h2⟩;refine⟨Sm 753,?_,?_⟩
 ·refine⟨_,rfl,_,_,rfl,rfl,⟨by decide,by decide⟩,_,_,rfl,rfl,(by show(0:Int)<2;decide),rfl,_,rfl,?_⟩;refine Be (λ_=>?_) (λ_=>⟨r2,QB,_,_,_,_,rfl,s2,e2,by lia,h2⟩);refine⟨_,rfl,_,rfl,zz1,λp hp=>?_⟩;have s4:=(aH.refl H2).new (o:=.lst [.int one]) hp;have e4:(upd H2 p (.lst [.int one])) p=some (.lst [.int one]):=aB;generalize upd H2 p (.lst [.int one])=H4 at s4 e4 ⊢;refine⟨r2,p,_,_,rfl,rfl,ag.of (s4 _ _ e2),ag.of e4,by rw[List.length_map];show _+1<=sizeLine;lia,λr3 UC=>?_⟩;refine⟨r3,QB++[one],_,_,_,_,rfl,(s2.trans s4).new UC,by rw[aB,List.map_append];rfl,by rw[List.length_append];show QB.length+1<=_;lia,λx hx=>?_⟩;rcases List.mem_append.mp hx with h|h
  ·exact h2 x h
  rw[List.mem_singleton.mp h];exact ho
 clear s2 e2 l2 h2;rintro σ H3 ⟨r3,QC,v5,v6,v7,v8,rfl,s3,e3,l3,h3⟩;refine⟨Sm 753,?_,?_⟩
 ·refine⟨_,rfl,_,_,rfl,rfl,⟨by decide,by decide⟩,_,_,rfl,rfl,(by show(0:Int)<2;decide),rfl,_,rfl,?_⟩;refine Be (λ_=>?_) (λ_=>⟨r3,QC,_,_,_,_,rfl,s3,e3,by lia,h3⟩);refine⟨_,rfl,r3,rfl,⟨_,ag.of e3⟩,λD hD=>?_⟩
  let J:Nat->_->_->Prop:=λi σ H'=>∃(v:Option V)(ys:List Int),σ=[v,some (.int other)]/\aH H3 H'/\H' D=some (.lst (ys.map V.int))/\ys.length<=i/\∀x∈ys,0<=x/\x<32
  refine gJ (K:=K) (a:=r3) (xs:=QC.map V.int) J ⟨none,[],rfl,(aH.refl _).new hD,aB,Nat.le_refl _,λx hx=>absurd hx List.not_mem_nil⟩ (λi σ H' _ ⟨_,_,_,s,_⟩=>ag.of (s _ _ e3)) ?_ ?_
  ·rintro i y σ H4 N hN hi ⟨v,ys,rfl,s4,e4,yl,hy⟩;obtain⟨n,en,rfl⟩:=c7 hi;have il:i<QC.length:=(List.getElem?_eq_some_iff.mp en).1;refine⟨_,rfl,_,rfl,rfl,_,rfl,?_⟩;refine Be (λ_=>?_) (λ_=>hN _ _ ⟨_,ys,rfl,s4,e4,by lia,hy⟩);refine⟨_,rfl,_,e4,by rw[List.length_map];lia,hN _ _ ⟨_,ys++[n],rfl,s4.put hD,by rw[aB,List.map_append];rfl,by rw[List.length_append];show ys.length+1<=i+1;lia,λx hx=>?_⟩⟩;rcases List.mem_append.mp hx with h|h
   ·exact hy x h
   rw[List.mem_singleton.mp h];exact h3 n (List.mem_of_getElem? en)
  rintro σ H4 ⟨v,ys,rfl,s4,e4,yl,hy⟩;rw[List.length_map]at yl;exact⟨D,ys,_,_,_,_,rfl,s3.trans s4,e4,by lia,hy⟩
 clear s3 e3 l3 h3;rintro σ H4 ⟨r4,Gu,v5,v6,v7,v8,rfl,s4,e4,l4,h4⟩;have hk:ag K H4 r4 ((Gu.map (Sum.inl:Int->Key)).map kV):=by rw[<-kD];exact ag.of e4
 refine⟨_,rfl,r4,Gu.map Sum.inl,rfl,.inl hk,by rw[List.length_map];lia,λp hp=>?_⟩;have s5:=(aH.refl H4).new (o:=j9 P w p (Gu.map (Sum.inl:Int->Key)).reverse) hp;have e5:(upd H4 p (j9 P w p (Gu.map (Sum.inl:Int->Key)).reverse)) p=some (j9 P w p (Gu.map (Sum.inl:Int->Key)).reverse):=aB;generalize upd H4 p (j9 P w p (Gu.map (Sum.inl:Int->Key)).reverse)=H5 at s5 e5 ⊢;have Cm:(dd (Gu.map (Sum.inl:Int->Key)).reverse).length<=32:=by
  have:=gW lR ((dd (Gu.map (Sum.inl:Int->Key)).reverse).map λk=>match k with|.inl n=>n|.inr _=>0) ?_ λx hx=>?_
  ·rw[List.length_map]at this;exact this
  ·refine List.pairwise_map.mpr ((xo _).imp_of_mem λ{a b} ha hb ne e=>ne ?_);have ia:=mB.mp ha;have ib:=mB.mp hb;rw[List.mem_reverse]at ia ib;obtain⟨n,_,rfl⟩:=List.mem_map.mp ia;obtain⟨m,_,rfl⟩:=List.mem_map.mp ib;exact congrArg Sum.inl e
  obtain⟨k,hk,rfl⟩:=List.mem_map.mp hx;have ik:=mB.mp hk;rw[List.mem_reverse]at ik;obtain⟨n,hn,rfl⟩:=List.mem_map.mp ik;have b:=h4 n hn;show n∈lR;unfold lR;exact List.mem_map.mpr ⟨n.toNat,List.mem_range.mpr (by lia),by show(0:Int)+(n.toNat:Nat)=n;lia⟩
 refine⟨p,Gu,rfl,e5,by lia,λys r ry my rC=>?_⟩;have s6:=(aH.refl H5).new (o:=.lst (ys.map V.int)) rC;have e6:(upd H5 r (.lst (ys.map V.int))) r=some (.lst (ys.map V.int)):=aB;generalize upd H5 r (.lst (ys.map V.int))=H6 at s6 e6 ⊢;refine⟨r,_,rfl,.inl ⟨ag.of e6,λtp xC=>?_⟩⟩;have yl:ys.length<=32:=by
  have:=gW lR ys (ry.imp λz e=>by lia) λx hx=>by have b:=h4 x ((my x).mp hx);unfold lR;exact List.mem_map.mpr ⟨x.toNat,List.mem_range.mpr (by lia),by show(0:Int)+(x.toNat:Nat)=x;lia⟩
  exact this
 exact q tp _ ys (s4.trans (s5.trans (s6.new xC))) (ao.of aB) (by lia)
theorem Wk.snoc{L:List (Tk×Int)}{g x s y l:Int}(w:Wk L g x s)(h:([g,y],l)∈L):∃s',Wk L y x s':=by
 induction w with
 |nil=>exact⟨_,.cons h .nil⟩
 |cons h1 _ ih =>
  obtain⟨s',z⟩:=ih;exact⟨_,.cons h1 z⟩
theorem Wk.symm{L:List (Tk×Int)}(sy:∀a b l,([a,b],l)∈L->([b,a],l)∈L){g x s:Int}(w:Wk L g x s):∃s',Wk L x g s':=by
 induction w with
 |nil=>exact⟨0,.nil⟩
 |cons h1 _ ih =>
  obtain⟨s',z⟩:=ih;exact z.snoc (sy _ _ _ h1)
theorem Wk.side{L:List (Tk×Int)}{one other:Int}{ns:List Int}(h:kO L one other ns){x s:Int}(w:Wk L other x s)(hx:x∈ns):False:=by
 induction w with
 |nil=>exact h.t hx
 |cons h1 _ ih=>exact ih (h.e _ _ _ h1 hx)
theorem Wk.ends{ts:List T3}{goal x s:Int}(w:Wk (dU ts) goal x s):x=goal\/∃t∈ts,x=t.1\/x=t.2.1:=by
 cases w with
 |nil=>exact .inl rfl
 |cons h _ =>
  obtain⟨t,ht,z⟩:=bo.mp h;refine .inr ⟨t,ht,?_⟩;rcases z with z|z
  ·have e:=(Prod.mk.inj z).1;simp only[List.cons.injEq,and_true]at e;exact .inl e.1
  have e:=(Prod.mk.inj z).1;simp only[List.cons.injEq,and_true]at e;exact .inr e.1
theorem CW{ts:List T3}{one other:Int}{hv CJ:Hv}{ns:List Int}(f:Fin (dU ts) other hv)(hn:lk hv one=none)(f2:Fin (dU ts) one CJ)(hp:ns.Perm (CJ.map (·.1)))(hs:ns.Pairwise (·<=·))(ht:∀t∈ts,(0<=t.1/\t.1<32)/\(0<=t.2.1/\t.2.1<32))(ho:0<=one/\one<32):kO (dU ts) one other ns:=by
 have mem:∀x,x∈ns↔∃s,Wk (dU ts) one x s:=λx=>hp.mem_iff.trans (f2.keys x);refine⟨⟨wA hs (hp.nodup_iff.mpr f2.h.nd),λn hn=>?_⟩,(mem one).mpr ⟨0,.nil⟩,λz=>?_,λa b l he ha=>?_⟩
 ·obtain⟨s,w⟩:=(mem n).mp hn;rcases w.ends with rfl|⟨t,h,rfl|rfl⟩
  ·exact ho
  ·exact(ht t h).1
  exact(ht t h).2
 ·obtain⟨s,w⟩:=(mem other).mp z;obtain⟨s',w'⟩:=w.symm f2.sy;obtain⟨n,h1,_⟩:=f.le w';rw[hn]at h1;cases h1
 obtain⟨s,w⟩:=(mem a).mp ha;exact(mem b).mpr ⟨_,.cons (f2.sy _ _ _ he) w⟩
theorem yT:∀{ps:Hv}{x n:Int},(ps.map (·.1)).Nodup->(x,n)∈ps->(ps.filter λp=>decide (p.1=x))=[(x,n)]
 |[],_,_,_,h=>by cases h
 |p::ps,x,n,nd,h=>by
  obtain⟨n1,n2⟩:=List.nodup_cons.mp nd;rcases List.mem_cons.mp h with rfl|h
  ·rw[List.filter_cons_of_pos (by simp)];refine congrArg _ (List.filter_eq_nil_iff.mpr λq hq z=>n1 ?_);rw[<-show q.1=x by simpa using z];exact List.mem_map.mpr ⟨q,hq,rfl⟩
  have:p.1≠x:=λe=>n1 (by show p.1∈_;rw[e];exact List.mem_map.mpr ⟨_,h,rfl⟩);rw[List.filter_cons_of_neg (by simpa using this)];exact yT n2 h
theorem kO.congr{L L':List (Tk×Int)}(h:∀e,e∈L↔e∈L'){one other:Int}{ns:List Int}(z:kO L one other ns):kO L' one other ns:=⟨z.r,z.o,z.t,λa b l he=>z.e a b l ((h _).mpr he)⟩
inductive Mu(K:PySem.W.Frag)(H:Hp)(ts:List T3)(one other:Int)(r:Addr):Prop
 |side (p:Addr) (ns:List Int):ao K H r [.str "side",.ref p]->ao K H p (ns.map V.int)->ns.length<=13->kO (dU ts) one other ns->Mu K H ts one other r
 |way (p hl:Addr) (ws:List Int) (ps:Hv) (n:Int):ao K H r [.str "way",.ref p,.ref hl]->ao K H p (ws.map V.int)->ws.length<=13->pd K H hl ps->ps.length<=13->rj (dU ts) one other ws ps->Wl (dU ts) other one ws n->(one,n)∈ps->(ps.map (·.1)).Nodup->Mu K H ts one other r
theorem Wl.congr{L L':List (Tk×Int)}(h:∀e,e∈L->e∈L'){goal x s:Int}{ws:List Int}(w:Wl L goal x ws s):Wl L' goal x ws s:=by
 induction w with
 |done=>exact .done
 |step h1 _ ih=>exact .step (h _ h1) ih
theorem KL{K:PySem.W.Frag}{C:Addr}{H:Hp}{x d:Addr}{one other:Int}{ms:Ms}{ts:List T3}{Q:VK}{E:XK}(hM:jq K C H x d ms)(ml:ms.length<=12)(CO:ny ms)(hq:AE ms)(td:AD ts)(wZ:∀t,t∈ts↔cH ms t)(ht:∀t∈ts,(0<=t.1/\t.1<32)/\(0<=t.2.1/\t.2.1<32))(ho:0<=one/\one<32)(z:∀(r:Addr)(H1:Hp),aH H H1->Mu K H1 ts one other r->Q (.ref r) H1):lE K C [.ref x,.int one,.int other] H Q E:=by
 have kn:=fS td;refine⟨x,d,one,other,ms,rfl,hM,ml,CO,hq,λNZ hv CJ ns r p H1 s1 hm wY fin Na fin2 pn sn Gp Gi=>z r H1 s1 ?_,λNZ hv n ns ws r p Az H1 s1 hm wY fin Na gr pn sn Gp Gi Tn pr=>z r H1 s1 ?_⟩
 ·have sh:=CW fin Na fin2 pn sn (λt h=>ht t ((wZ t).mpr ((hm t).mp h))) ho;exact .side p ns Gp Gi (by have f:=fin2.h.Cm hm;rw[pn.length_eq,List.length_map];lia) (sh.congr λe=>iV (λt=>(hm t).trans (wZ t).symm) e)
 have ec:=iV λt=>(hm t).trans (wZ t).symm;have Gq:=fS wY;have RR:=fin.hold pn sn;have f:=fin.h.Cm hm;have nl:ns.length<=13:=by rw[pn.length_eq,List.length_map];lia
 obtain⟨n',Ab,wt⟩:=gr.wl fin;rw[Na]at Ab;cases Ab;obtain⟨_,_,yZ,NO⟩:=gr.down fin;have wl:ws.length<=13:=by
  have:=gW (hv.map (·.1)) ws NO λy hy=>by
   obtain⟨m,e,_⟩:=yZ y hy;cases Classical.em (y∈hv.map (·.1))with
   |inl z=>exact z
   |inr z=>rw[cm.mpr z]at e;cases e
  rw[List.length_map]at this;lia
 have on:(one,n)∈fT hv ns:=by rw[RR.in,rl pn,Na]
 obtain⟨UD,rfl⟩:=wt.head;have hg:BK (one::UD) one other:=⟨rfl,(wt.gz Gq).2,NO⟩;refine .way p Az _ (fT hv ns) n Gp Gi wl pr (by unfold fT;rw[List.length_map];exact nl) (rj.congr Gq kn ec ⟨hg,RR,n,(wt.gz Gq).1,on⟩) (wt.congr λe he=>(ec e).mp he) on ?_;rw[mL];exact pn.nodup_iff.mpr fin.h.nd
def lg(K:PySem.W.Frag)(C:Addr):Sp:=λvs H Q _=>∃(x d l cl:Addr)(one other:Int)(ms:Ms)(ts:List T3)(cs:List Int),vs=[.ref x,.ref l,.int one,.int other,.ref cl]/\jq K C H x d ms/\ms.length<=12/\ny ms/\AE ms/\vn K H l ts/\AD ts/\ts.length<=60/\(∀t,t∈ts↔cH ms t)/\(∀t∈ts,(0<=t.1/\t.1<32)/\(0<=t.2.1/\t.2.1<32))/\(0<=one/\one<32)/\ag K H cl (cs.map V.int)/\∀H',aH H H'->Q (.bl true) H'
theorem cD:aQ ["known","wires","one","other","cells","found","heights","cell","side","told"] ["known","wires","one","other","cells"] (aG dH):=⟨rfl,rfl,rfl,by decide +kernel,rfl,by decide +kernel,by decide +kernel⟩
set_option maxHeartbeats 4000000 in
theorem tV(F:aK K mg "_law_right" dH)(T:Txt K mg t)(ro:Def P w K mg base 4 "way_of" ["chart","one","other"] (lE K t.Map))(fI:Def P w K mg base 4 "way_judged" ["chart","one","other","answer"] (lY K t.Map))(eM:Def P w K mg base 1 "_law_way_long" ["wires","way"] (iW K))(dM:Def P w K mg base 1 "_law_side_right" ["wires","one","other","side"] (fY K))(dN:Def P w K mg base 2 "_law_drawn_side" ["wires","cell","one","other"] (fc K)):Def P w K mg base 5 "_law_right" ["known","wires","one","other","cells"] (lg K t.Map):=by
 refine F.def cD (λ_ _ _ _ _ _ us hl=>match us,hl with|[_,_,_,_,_],_=>rfl) (λvs H Q E h=>?_) (λf bU A outer s H vs Q E hr h=>?_)
 ·obtain⟨x,d,l,cl,one,other,ms,ts,cs,rfl,_⟩:=h;rfl
 obtain⟨x,d,l,cl,one,other,ms,ts,cs,rfl,hM,ml,CO,hq,hl,td,tl,wZ,ht,ho,hc,q⟩:=h;refine⟨_,aD (aT (i:=5) cD.nd rfl (Or.inl rfl) (aV (ro.mono (by decide)) hr au (aA (pv 0) (aA (pv 2) (aA (pv 3) aC)))))
  (aD (j0 (ay (aO Fk (aV (fI.mono (by decide)) hr au (aA (pv 0) (aA (pv 2) (aA (pv 3) (aA (pv 5) aC))))) cy (aU _))
   (aF (aS cy))
   (aZ)))
  (aD (j0 (ay (aO dR (aN (aR K) (pv 5) aE (λ_ _=>rfl)) cE (aU _))
   (aD (jx (i:=6) cD.nd rfl (Or.inl rfl) rfl (Nc:=["pair","one"]) (ix:=[none,some 2]) (cF (aG dH) ["known","wires","one","other","cells","found","heights","cell","side","told"] rfl rfl (by decide +kernel)) (bF K (aN (aR K) (pv 5) aE (λ_ _=>rfl))) (λC fp s H=>⟨(aJ (i:=0) (show(["pair","one"]:List Str).Nodup by decide +kernel) rfl (Or.inl rfl)),(nF (aO dR (aN (aR K) (pv 0) aE (λ_ _=>rfl)) (pv 1) (aU _))),(aN (aR K) (pv 0) aE (λ_ _=>rfl))⟩))
   (aF (ay (PW.pt (mz (aO pK (aX mD (by rfl) T.gR boot_len (aA (bE (oj K) (by rfl) T.xw boot_set (aA (aN (aR K) (pv 5) aE (λ_ _=>rfl)) aC)) aC)) (aX (bz K) (by rfl) T.gR boot_len (aA (aN (aR K) (pv 5) aE (λ_ _=>rfl)) aC)) (aU _)) (lj (aO (Dr K (c6 hr)) (pv 6) (cJ (aA (aV (eM.mono (by decide)) hr au (aA (pv 1) (aA (aN (aR K) (pv 5) aE (λ_ _=>rfl)) aC))) aC)) (aU _)))))
    (aF (aS cy))
    (aZ))))
   (aZ)))
  (aD (PS.wU (bL PassesOwn.never rfl (bF K (pv 4)) (aJ (i:=7) cD.nd rfl (Or.inl rfl))
   (aD (aT (i:=8) cD.nd rfl (Or.inl rfl) (aV (dN.mono (by decide)) hr au (aA (pv 1) (aA (pv 7) (aA (pv 2) (aA (pv 3) aC))))))
   (aD (aT (i:=9) cD.nd rfl (Or.inl rfl) (aV (fI.mono (by decide)) hr au (aA (pv 0) (aA (pv 2) (aA (pv 3) (aA (aw (aA cE (aA (pv 8) aC))) aC))))))
   (aD (ay (PW.pt (mz (js (fL (JM K T.vY (aA (pv 9) (aA (FG (v:=.ty "bool") (by rfl) T.Jq boot_bool rfl) aC))))) (lj (aO pK (pv 9) (aV (dM.mono (by decide)) hr au (aA (pv 1) (aA (pv 2) (aA (pv 3) (aA (pv 8) aC))))) (aU _)))))
    (aF (aS cy))
    (aZ))
   (aF (ay (PW.pt (jr (fL (pv 9)) (ig (aO dR (aN (aR K) (pv 5) aE (λ_ _=>rfl)) cE (aU _)))))
    (aF (aS cy))
    (aZ))))))))
  (aF (aS cy))))),?_⟩
 have hsz:(20000:Nat)<=sizeLine:=by decide
 have sb:2000<scanBound:=by decide
 have kn:=fS td;have QD:∀t∈ts,0<=t.2.2/\t.2.2<=1000:=λt h=>by obtain⟨a,b,_,h1⟩:=(kG hq wZ td).1.2 _ (bo.mpr ⟨t,h,.inl rfl⟩);have h1:1<=t.2.2/\t.2.2<=1000:=h1;lia
 let Sm:L2.St->Hp->Prop:=λσ H'=>∃r:Addr,σ=[some (.ref x),some (.ref l),some (.int one),some (.int other),some (.ref cl),some (.ref r),none,none,none,none]/\aH H H'/\Mu K H' ts one other r
 let Sn:L2.St->Hp->Prop:=λσ H'=>∃(r:Addr)(v6:Option V),σ=[some (.ref x),some (.ref l),some (.int one),some (.int other),some (.ref cl),some (.ref r),v6,none,none,none]/\aH H H'/\Mu K H' ts one other r
 refine⟨_,rfl,_,rfl,_,rfl,?_⟩;unfold FQ;show lE K t.Map [.ref x,.int one,.int other] H _ _;refine KL hM ml CO hq td wZ ht ho λr H1 s1 fd=>?_;refine⟨Sm,?_,?_⟩
 ·cases fd with
  |side p ns h1 h2 h3 h4 =>
   refine⟨_,rfl,_,rfl,_,rfl,_,rfl,x,d,r,one,other,ms,rfl,hM.same s1,ml,CO,hq,.inr ⟨p,ns,h1,h2,by lia,λb H2 RS s2 EN Mt hb=>?_⟩⟩;have eb:b=true:=hb.mpr (h4.congr λe=>iV (λt=>(wZ t).trans (EN t).symm) e);subst eb;exact⟨_,_,rfl,rfl,_,rfl,d0 ⟨r,rfl,s1.trans s2,.side p ns (s2.tup h1) (s2.tup h2) h3 h4⟩⟩
  |way p Az ws ps n h1 h2 h3 h4 h5 h6 h7 h8 h9 =>
   refine⟨_,rfl,_,rfl,_,rfl,_,rfl,x,d,r,one,other,ms,rfl,hM.same s1,ml,CO,hq,.inl ⟨p,Az,ws,ps,h1,h2,by lia,h4,by lia,λb H2 RS s2 EN Mt hb=>?_⟩⟩;have eb:b=true:=hb.mpr (h6.congr kn (fS Mt) λe=>iV (λt=>(wZ t).trans (EN t).symm) e);subst eb;exact⟨_,_,rfl,rfl,_,rfl,d0 ⟨r,rfl,s1.trans s2,.way p Az ws ps n (s2.tup h1) (s2.tup h2) h3 (h4.same s2) h5 h6 h7 h8 h9⟩⟩
 clear fd s1;rintro σ H1 ⟨r,rfl,s1,fd⟩;refine⟨Sn,?_,?_⟩
 ·cases fd with
  |side p ns h1 h2 h3 h4 =>
   refine⟨_,rfl,r,_,_,.str "side",rfl,rfl,h1,rfl,rfl,_,rfl,?_⟩;exact bu (by decide) ⟨r,none,rfl,s1,.side p ns h1 h2 h3 h4⟩
  |way p Az ws ps n h1 h2 h3 h4 h5 h6 h7 h8 h9 =>
   refine⟨_,rfl,r,_,_,.str "way",rfl,rfl,h1,rfl,rfl,_,rfl,?_⟩;refine bw rfl ?_;obtain⟨zs,z1,z2,z3⟩:=h4.ex;have zl:zs.length=ps.length:=(by rw[<-z3,List.length_map]);refine⟨_,rfl,r,_,_,.ref Az,rfl,rfl,h1,rfl,Az,rfl,⟨_,ag.of z1⟩,λD hD=>?_⟩;refine gJ (K:=K) (a:=Az) (xs:=zs.map λz=>V.ref z.1) (λi σ H'=>∃v:Option V,σ=[v,some (.int one)]/\aH H1 H'/\H' D=some (.lst ((((ps.take i).filter λp=>decide (p.1=one)).map (·.2)).map V.int))) ⟨none,rfl,(aH.refl _).new hD,aB⟩ (λi σ H' _ ⟨_,_,s,_⟩=>ag.of (s _ _ z1)) ?_ ?_
   ·rintro i y σ H2 N hN hi ⟨v,rfl,s2,e2⟩;rw[List.getElem?_map]at hi;cases ez:zs[i]? with
    |none=>rw[ez]at hi;cases hi
    |some z =>
     rw[ez]at hi;cases hi;have il:i<ps.length:=(by rw[<-zl];exact(List.getElem?_eq_some_iff.mp ez).1);have ep:ps[i]?=some z.2:=(by rw[<-z3,List.getElem?_map,ez];rfl);have hz:=s2.tup (z2 z (List.mem_of_getElem? ez));refine⟨_,rfl,z.1,_,_,.int z.2.1,rfl,rfl,hz,rfl,_,rfl,rfl,_,rfl,?_⟩;by_cases c:z.2.1=one
     ·refine bw (congrArg V.int c) ?_;refine⟨_,rfl,z.1,_,_,.int z.2.2,rfl,rfl,hz,rfl,_,e2,?_,hN _ _ ⟨_,rfl,s2.put hD,?_⟩⟩
      ·rw[List.length_map,List.length_map];have:=List.length_filter_le (λp:Int×Int=>decide (p.1=one)) (ps.take i);rw[List.length_take]at this;lia
      rw[aB,take_succ ep,List.filter_append,List.filter_cons_of_pos (by simpa using c),List.map_append,List.map_append];rfl
     refine bu (λe=>c (V.int.inj e)) (hN _ _ ⟨_,rfl,s2,?_⟩);rw[e2,take_succ ep,List.filter_append,List.filter_cons_of_neg (by simpa using c),List.filter_nil,List.append_nil]
   rintro σ H2 ⟨v,rfl,s2,e2⟩;rw[List.length_map,zl,List.take_length,yT h9 h8]at e2;have hk:ao K H2 p ((ws.map (Sum.inl:Int->Key)).map kV):=(by rw[<-kD];exact s2.tup h2);refine⟨_,rfl,r,_,_,.ref p,rfl,rfl,s2.tup h1,rfl,p,ws.map Sum.inl,rfl,.inr hk,by rw[List.length_map];lia,λsp Aj=>?_⟩;have s3:=(aH.refl H2).new (o:=Bx P w sp (ws.map (Sum.inl:Int->Key)).reverse) Aj;have S3:=s2.trans s3;have e3:=s3 _ _ e2;refine⟨sp,_,rfl,aB,_,rfl,r,_,_,.ref p,rfl,rfl,S3.tup h1,rfl,p,_,rfl,.inr (S3.tup h2),rfl,_,rfl,?_⟩;have hd:(dd (ws.map (Sum.inl:Int->Key)).reverse).length=ws.length:=by have:=(iM _).mpr (iS.mpr (iT.mpr h6.1.n));rw[this,List.length_reverse,List.length_map]
   refine jz (by rw[hd,List.length_map]) ?_;refine⟨_,rfl,_,rfl,_,rfl,r,_,_,.ref p,rfl,rfl,S3.tup h1,rfl,l,p,ts,ws,rfl,hl.same (s1.trans S3),S3.tup h2,by lia,QD,λH4 s4=>?_⟩;rw[h7.long td];refine⟨zz1,λil QA=>?_⟩;have s5:=(aH.refl H4).new (o:=.lst [.int n]) QA;have e5:(upd H4 il (.lst [.int n])) il=some (.lst ([n].map V.int)):=aB;generalize upd H4 il (.lst [.int n])=H5 at s5 e5 ⊢;refine⟨.list ([n].map .int),.list ([n].map .int),iU (ag.of ((s4.trans s5) _ _ e3)),iU (ag.of e5),_,rfl,?_⟩;rw[if_pos rfl,rh];have S5:=S3.trans (s4.trans s5);exact jz rfl ⟨r,_,rfl,s1.trans S5,.way p Az ws ps n (S5.tup h1) (S5.tup h2) h3 (h4.same S5) h5 h6 h7 h8 h9⟩
 clear fd s1;rintro σ H2 ⟨r,v6,rfl,s2,fd⟩
 let I:Nat->_->_->Prop:=λi σ H'=>∃v7 v8 v9:Option V,σ=[some (.ref x),some (.ref l),some (.int one),some (.int other),some (.ref cl),some (.ref r),v6,v7,v8,v9]/\aH H2 H'
 refine⟨_,rfl,cl,rfl,⟨_,s2.seq hc⟩,dy (K:=K) (a:=cl) (xs:=cs.map V.int) I ⟨none,none,none,rfl,.refl _⟩ (λi σ H' _ ⟨_,_,_,_,s⟩=>s.seq (s2.seq hc)) ?_ ?_⟩
 ·rintro i y σ H3 hi ⟨v7,v8,v9,rfl,s3⟩;obtain⟨c,_,rfl⟩:=c7 hi;refine⟨_,rfl,_,rfl,_,rfl,_,rfl,l,c,one,other,ts,rfl,hl.same (s2.trans s3),tl,ht,ho,λsd H4 ns s4 vP nl=>?_⟩;refine⟨_,rfl,_,rfl,_,rfl,_,rfl,zz2,λan UE=>?_⟩;have s5:=(aH.refl H4).new (o:=.tup [.str "side",.ref sd]) UE;have e5:ao K (upd H4 an (.tup [.str "side",.ref sd])) an [.str "side",.ref sd]:=ao.of aB;generalize upd H4 an (.tup [.str "side",.ref sd])=H5 at s5 e5 ⊢;have S5:=s2.trans (s3.trans (s4.trans s5));refine⟨x,d,an,one,other,ms,rfl,hM.same S5,ml,CO,hq,.inr ⟨sd,ns,e5,s5.tup vP,nl,λb H6 RS s6 EN Mt hb=>?_⟩⟩;have ec:=iV λt=>(EN t).trans (wZ t).symm;refine⟨_,rfl,_,_,_,_,true,rfl,rfl,.of (.bl _),T.su,_,rfl,d0 ?_⟩;refine⟨_,rfl,_,rfl,_,rfl,_,rfl,_,rfl,l,sd,one,other,ts,ns,rfl,hl.same (S5.trans s6),tl,(s5.trans s6).tup vP,by lia,λb2 H7 s7 JF=>?_⟩;have eb:b=b2:=by rw[Bool.eq_iff_iff,hb,JF,AO];exact⟨λz=>z.congr ec,λz=>z.congr λe=>(ec e).symm⟩
  refine⟨rfl,_,rfl,?_⟩;refine jz (congrArg V.bl eb) ?_;have S7:=s3.trans (s4.trans (s5.trans (s6.trans s7)));refine⟨_,rfl,b,rfl,?_⟩;cases b with
  |false=>exact d0 (d0 ⟨_,_,_,rfl,S7⟩)
  |true =>
   refine eV ?_;have sh:kO (dU ts) one other ns:=(hb.mp rfl).congr ec;cases fd with
   |side p Uq h1 h2 h3 h4 =>
    refine⟨_,rfl,r,_,_,.str "side",rfl,rfl,S7.tup h1,rfl,rfl,_,rfl,?_⟩;exact bu (by decide) ⟨_,_,_,rfl,S7⟩
   |way p Az ws ps n h1 h2 h3 h4 h5 h6 h7 h8 h9=>exact(h7.wk.side sh sh.o).elim
 rintro σ H3 ⟨v7,v8,v9,rfl,s3⟩;exact q H3 (s2.trans s3)
theorem g8:aQ ["script","houses","many","near","known","wires","cells","at","one","other"] ["script"] (aG A8):=⟨rfl,rfl,rfl,by decide +kernel,rfl,by decide +kernel,by decide +kernel⟩
set_option maxHeartbeats 4000000 in
theorem KN{f:Addr}{fd:FuncData}(T:Txt K mg t)(F:sU K "law" "law" A8 f fd)(bJ:Def P w K mg base 1 "_law_cell_at" ["script","k"] (eI K))(bD:Def P w K mg base 1 "_law_mixed" ["cell","k"] dq)(kR:Def P w K mg base 4 "_law_news" ["script","extra"] (oC K))(mP:Def P w K mg base 6 "_law_map" ["houses","many","near"] (ph K t.Map))(jE:Def P w K mg base 1 "_law_wires" ["houses","many","near"] (lV K))(jF:Def P w K mg base 5 "_law_right" ["known","wires","one","other","cells"] (lg K t.Map)):dQ P w K mg base (qT P w) 7 f fd ["script"] (uI K):=by
 refine F.R3 g8 (λvs H Q E h=>?_) (λf bU A outer s H vs Q E hr h=>?_)
 ·obtain⟨a,ns,rfl,_⟩:=h;rfl
 obtain⟨sc,cs,rfl,hS,hlen,q⟩:=h;refine⟨_,aD (yt (aV (kR.mono (by decide)) hr au (aA (pv 0) (aA aE aC))) (ju rfl (aa (aJ (i:=1) g8.nd rfl (Or.inl rfl)) (aa (aJ (i:=2) g8.nd rfl (Or.inl rfl)) (aa (aJ (i:=3) g8.nd rfl (Or.inl rfl)) eU)))))
  (aD (aT (i:=4) g8.nd rfl (Or.inl rfl) (aV (mP.mono (by decide)) hr au (aA (pv 1) (aA (pv 2) (aA (pv 3) aC)))))
  (aD (aT (i:=5) g8.nd rfl (Or.inl rfl) (aV (jE.mono (by decide)) hr au (aA (pv 1) (aA (pv 2) (aA (pv 3) aC)))))
  (aD (aT (i:=6) g8.nd rfl (Or.inl rfl) (ah (iz K) (ah (iz K) (cJ (aA aE (aA aE (aA aE aC)))) (iJ (j3 K) (pv 0) qS (gI aE))) (cJ (aA (ah Ii (aV (bD.mono (by decide)) hr au (aA (aV (bJ.mono (by decide)) hr au (aA (pv 0) (aA aE aC))) (aA aE aC))) aE) aC))))
  (aD (aT (i:=7) g8.nd rfl (Or.inl rfl) (aV (bD.mono (by decide)) hr au (aA (aV (bJ.mono (by decide)) hr au (aA (pv 0) (aA aE aC))) (aA aE aC))))
  (aD (PS.wU (bL PassesOwn.never rfl (bF K (ah (iz K) (iJ (j3 K) (pv 1) qS (gI (pv 2))) (iJ (j3 K) (pv 1) (gI aE) (gI aE)))) (aJ (i:=8) g8.nd rfl (Or.inl rfl))
   (aF (bL PassesOwn.never rfl (bF K (cJ (aA (aN (aP K) (pv 1) (ah cz (pv 7) (pv 2)) (λ_ _=>rfl)) (aA (aN (aP K) (pv 1) aE (λ_ _=>rfl)) aC)))) (aJ (i:=9) g8.nd rfl (Or.inl rfl))
    (aF (ay (js (fL (aV (jF.mono (by decide)) hr au (aA (pv 4) (aA (pv 5) (aA (pv 8) (aA (pv 9) (aA (pv 6) aC))))))))
     (aF (aS cy))
     (aZ)))))))
  (aF (aS cy))))))),?_⟩
 have hsz:(20000:Nat)<=sizeLine:=by decide
 refine⟨_,rfl,sc,cs,0,rfl,hS,by lia,by decide,by decide,λr0 nl hl H1 os ds s1 UG nr nk hh oN ol d1 d6=>?_⟩;refine⟨r0,_,rfl,UG,rfl,_,_,rfl,_,_,rfl,_,_,rfl,rfl,?_⟩;refine⟨_,rfl,_,rfl,_,rfl,nl,hl,os,ds,rfl,nr,nk,hh,oN,ol,d1,d6,λx d H2 ms s2 nx Ur hM mo=>?_⟩;have mf:=mo.f hM.nd;have ml:ms.length<=6:=by rw[mo.l];exact d6
 obtain⟨CO,hq⟩:=mf.ok λk y hy=>⟨(nr.d y (List.mem_of_getElem? hy)).nd,nk.KE d6 (List.getElem?_eq_some_iff.mp hy).1 hy (nr.d y (List.mem_of_getElem? hy)).nd,λp hp=>(nk k y hy p hp).2⟩;have El:=s2 _ _ hh;refine⟨_,rfl,_,rfl,_,rfl,nl,hl,os,ds,rfl,nr.same s2,El,oN,ol,d6,λl H3 ts s3 w3 tm tp tl=>?_⟩;have wZ:∀t,t∈ts↔cH ms t:=λt=>(tm t).trans (mf.KH t).symm;have td:AD ts:=⟨λt ht=>((tm t).mp ht).1,tp.imp_of_mem λ{a b} ha hb h e=>by have:=pf hM.nd CO ((wZ a).mp ha) ((wZ b).mp hb) e.1 e.2;rw[this]at h;exact List.lt_irrefl _ h⟩
 have en:∀t∈ts,(0<=t.1/\t.1<32)/\(0<=t.2.1/\t.2.1<32):=λt ht=>by obtain⟨_,i,j,e1,e2,h1,h2,_⟩:=(tm t).mp ht;exact⟨oN.b _ (List.mem_of_getElem? h1),oN.b _ (List.mem_of_getElem? h2)⟩
 have S3:=s1.trans (s2.trans s3);have UH:=s3 _ _ El;have mp:(0:Int)<(ds.length:Nat):=by lia
 refine⟨zz3,λp0 UI=>?_⟩;have u0:=(aH.refl H3).new (o:=.lst [.int 0,.int 3,.int 7]) UI;have a0:(upd H3 p0 (.lst [.int 0,.int 3,.int 7])) p0=some (.lst (([0,3,7]:List Int).map V.int)):=aB;generalize upd H3 p0 (.lst [.int 0,.int 3,.int 7])=H4 at u0 a0 ⊢;refine⟨_,rfl,_,rfl,sc,_,rfl,(S3.trans u0).seq hS,λp1 Gi=>?_⟩;obtain⟨ys,ey,_,yl⟩:=nK cs none (some 5);rw[ey];have u1:=(aH.refl H4).new (o:=.lst (ys.map V.int)) Gi;have a1:(upd H4 p1 (.lst (ys.map V.int))) p1=some (.lst (ys.map V.int)):=aB;generalize upd H4 p1 (.lst (ys.map V.int))=H5 at u1 a1 ⊢;refine⟨p0,p1,_,_,rfl,rfl,ag.of (u1 _ _ a0),ag.of a1,by rw[List.length_map,List.length_map];show 3+_<=sizeLine;lia,λp2 Bo=>?_⟩;rw[<-List.map_append];have u2:=(aH.refl H5).new (o:=.lst (([0,3,7]++ys).map V.int)) Bo;have a2:(upd H5 p2 (.lst (([0,3,7]++ys).map V.int))) p2=some (.lst (([0,3,7]++ys).map V.int)):=aB;generalize upd H5 p2 (.lst (([0,3,7]++ys).map V.int))=H6 at u2 a2 ⊢;have U2:=S3.trans (u0.trans (u1.trans u2));refine⟨_,rfl,sc,cs,0,rfl,U2.seq hS,by decide,λc0=>?_⟩;refine⟨c0,90,rfl,by decide,by decide,λm m0=>?_⟩;refine⟨_,_,rfl,rfl,.inr ⟨by decide,by decide⟩,zz1,λp3 NS=>?_⟩;have u3:=(aH.refl H6).new (o:=.lst [.int (m*1000003)]) NS;have a3:(upd H6 p3 (.lst [.int (m*1000003)])) p3=some (.lst ([m*1000003].map V.int)):=aB;generalize upd H6 p3 (.lst [.int (m*1000003)])=H7 at u3 a3 ⊢;refine⟨p2,p3,_,_,rfl,rfl,ag.of (u3 _ _ a2),ag.of a3,by rw[List.length_map,List.length_map,List.length_append];show 3+_+1<=sizeLine;lia,λp4 P1=>?_⟩;rw[<-List.map_append];have u4:=(aH.refl H7).new (o:=.lst (([0,3,7]++ys++[m*1000003]).map V.int)) P1;have a4:(upd H7 p4 (.lst (([0,3,7]++ys++[m*1000003]).map V.int))) p4=some (.lst (([0,3,7]++ys++[m*1000003]).map V.int)):=aB;generalize upd H7 p4 (.lst (([0,3,7]++ys++[m*1000003]).map V.int))=H8 at u4 a4 ⊢;generalize[0,3,7]++ys++[m*1000003]=cells at a4;have U4:=u0.trans (u1.trans (u2.trans (u3.trans u4)));refine⟨_,rfl,sc,cs,0,rfl,(S3.trans U4).seq hS,by decide,λc1=>?_⟩;refine⟨c1,80,rfl,by decide,by decide,λm2 Us=>?_⟩;obtain⟨k,hk,kl⟩:∃k:Nat,m2%(ds.length:Nat)=(k:Int)/\k<ds.length:=by have h0:=Int.emod_nonneg m2 (show((ds.length:Nat):Int)≠0 by lia);have h1:=Int.emod_lt_of_pos m2 mp;exact⟨(m2%(ds.length:Nat)).toNat,by lia,by lia⟩
 obtain⟨goal,eo⟩:∃h,os[k]?=some h:=⟨os[k]'(by lia),by simp[show k<os.length by lia]⟩;obtain⟨h7,e7⟩:∃h,os[7]?=some h:=⟨os[7]'(by lia),by simp[show 7<os.length by lia]⟩;have QE:=U4 _ _ UH;have UJ:qB (os.map V.int) (m2%(ds.length:Nat))=some (.int goal):=by rw[hk];exact bW (by rw[List.getElem?_map,eo];rfl)
 have UK:qB (os.map V.int) 7=some (.int h7):=(by have z:=bW (show(os.map V.int)[7]?=some (V.int h7) by rw[List.getElem?_map,e7];rfl);exact z);refine⟨_,rfl,_,rfl,_,rfl,hl,_,rfl,ag.of QE,λq0 UL=>?_⟩;obtain⟨zs,ez,zm,zl⟩:=nK os none (some ((ds.length:Nat):Int));rw[ez];have v0:=(aH.refl H8).new (o:=.lst (zs.map V.int)) UL;have b0:(upd H8 q0 (.lst (zs.map V.int))) q0=some (.lst (zs.map V.int)):=aB;generalize upd H8 q0 (.lst (zs.map V.int))=H9 at v0 b0 ⊢;refine⟨_,rfl,_,rfl,_,rfl,hl,_,rfl,ag.of (v0 _ _ QE),λq1 UM=>?_⟩;obtain⟨xs,ex,xm,xl⟩:=nK os (some 6) (some 7);rw[ex];have v1:=(aH.refl H9).new (o:=.lst (xs.map V.int)) UM;have b1:(upd H9 q1 (.lst (xs.map V.int))) q1=some (.lst (xs.map V.int)):=aB;generalize upd H9 q1 (.lst (xs.map V.int))=HA at v1 b1 ⊢;refine⟨q0,q1,_,_,rfl,rfl,ag.of (v1 _ _ b0),ag.of b1,by rw[List.length_map,List.length_map];lia,λq2 NN=>?_⟩;rw[<-List.map_append];have v2:=(aH.refl HA).new (o:=.lst ((zs++xs).map V.int)) NN;have b2:(upd HA q2 (.lst ((zs++xs).map V.int))) q2=some (.lst ((zs++xs).map V.int)):=aB;generalize upd HA q2 (.lst ((zs++xs).map V.int))=HB at v2 b2 ⊢;have V2:=v0.trans (v1.trans v2);have SB:=U4.trans V2;have mem:∀n∈zs++xs,0<=n/\n<32:=λn hn=>by
  rcases List.mem_append.mp hn with h|h
  ·exact oN.b n (zm n h)
  exact oN.b n (xm n h)
 generalize zs++xs=fs at b2 mem
 let I:Nat->_->_->Prop:=λi σ H'=>∃v8 v9:Option V,σ=[some (.ref sc),some (.ref hl),some (.int (ds.length:Nat)),some (.ref nl),some (.ref x),some (.ref l),some (.ref p4),some (.int m2),v8,v9]/\aH HB H'
 refine⟨q2,rfl,⟨_,ag.of b2⟩,dy (K:=K) (a:=q2) (xs:=fs.map V.int) I ⟨none,none,rfl,.refl _⟩ (λi σ H' _ ⟨_,_,_,s⟩=>ag.of (s _ _ b2)) ?_ ?_⟩
 ·rintro i y σ HC hi ⟨v8,v9,rfl,sC⟩;obtain⟨one,QF,rfl⟩:=c7 hi;have ho:=mem one (List.mem_of_getElem? QF);have RT:=(V2.trans sC) _ _ QE;refine⟨_,rfl,_,rfl,_,rfl,_,_,rfl,rfl,mp,hl,_,_,.int goal,rfl,rfl,ag.of RT,UJ,_,rfl,hl,_,_,.int h7,rfl,rfl,ag.of RT,UK,zz2,λgl UN=>?_⟩;have sD:=(aH.refl HC).new (o:=.lst [.int goal,.int h7]) UN;have eD:(upd HC gl (.lst [.int goal,.int h7])) gl=some (.lst ([goal,h7].map V.int)):=aB;generalize upd HC gl (.lst [.int goal,.int h7])=HD at sD eD ⊢;generalize[goal,h7]=gs at eD;have SD:=sC.trans sD
  let J:Nat->_->_->Prop:=λi σ H'=>∃v9:Option V,σ=[some (.ref sc),some (.ref hl),some (.int (ds.length:Nat)),some (.ref nl),some (.ref x),some (.ref l),some (.ref p4),some (.int m2),some (.int one),v9]/\aH HD H'
  refine⟨gl,rfl,⟨_,ag.of eD⟩,dy (K:=K) (a:=gl) (xs:=gs.map V.int) J ⟨v9,rfl,.refl _⟩ (λi σ H' _ ⟨_,_,s⟩=>ag.of (s _ _ eD)) ?_ ?_⟩
  ·rintro j y σ HE hj ⟨v9,rfl,sE⟩;obtain⟨other,_,rfl⟩:=c7 hj;have SE:=SB.trans (SD.trans sE);refine⟨_,rfl,_,rfl,_,rfl,_,rfl,_,rfl,x,d,l,p4,one,other,ms,ts,cells,rfl,hM.same (s3.trans SE),by lia,CO,hq,w3.same SE,td,by lia,wZ,en,ho,ag.of ((V2.trans (SD.trans sE)) _ _ a4),λHF sF=>⟨true,rfl,?_⟩⟩;refine(show if(!true)=true then _ else _ from d0 ?_);exact⟨_,rfl,sE.trans sF⟩
  rintro σ HE ⟨v9,rfl,sE⟩;exact⟨_,_,rfl,SD.trans sE⟩
 rintro σ HC ⟨v8,v9,rfl,sC⟩;exact q _
theorem Gv{f:Addr}{fd:FuncData}(T:Txt K mg t)(F:sU K "law" "law" A8 f fd)(mQ:aK K mg "is_house" i6)(jG:aK K mg "lengths_of" eY)(jH:aK K mg "heights_to" eZ)(jI:aK K mg "next_house" dD)(kS:aK K mg "least_way" gM)(rq:aK K mg "way_of" kA)(jJ:aK K mg "way_length" fA)(fe:aK K mg "goes_from_to" dE)(ff:aK K mg "heights_hold" cK)(kT:aK K mg "way_holds" gN)(cX:aK K mg "are_rising_houses" bG)(jK:aK K mg "side_holds" dF)(jL:aK K mg "way_judged" fB)(jM:aK K mg "look_house" fD)(g9:aK K mg "look_bounds" dg)(hU:aK K mg "look_unlike" dh)(o7:aK K mg "is_name" iP)(jN:aK K mg "look_names" fE)(kU:aK K mg "made_wire" gO)(kW:aK K mg "made_near" cu)(kX:aK K mg "made_news" gP)(fg:aK K mg "_law_cell_at" dG)(jO:aK K mg "_law_mixed" fF)(jP:aK K mg "_law_drawn" fG)(hV:aK K mg "_law_houses" b9)(kY:aK K mg "_law_told" gQ)(kZ:aK K mg "_law_news" cv)(mR:aK K mg "_law_map" fO)(jQ:aK K mg "_law_wires" fH)(dO:aK K mg "_law_side_right" bO)(eN:aK K mg "_law_way_long" cf)(kc:aK K mg "_law_bits" d9)(dP:aK K mg "_law_drawn_side" bP)(jR:aK K mg "_law_right" dH):dQ P w K mg base (qT P w) 7 f fd ["script"] (uI K):=by obtain⟨Nb,Em⟩:=T.fi;obtain⟨Nf,En⟩:=T.Ju;obtain⟨Ng,Eo⟩:=T.Jv;obtain⟨Mv,CY⟩:=T.GQ;have de:=xy (P:=P) (w:=w) (base:=base) mQ T;have cR:=tE jM T de;have bS:=rS (P:=P) (w:=w) (base:=base) g9 T;have cA:=rV (P:=P) (w:=w) (base:=base) hU T;have oz:=zr (P:=P) (w:=w) (base:=base) o7 T;have i8:=tF jN T cA oz;have kE:=vc kU T cR bS;have kF:=vf kW T kE cA;have kL:=vi kX T cR bS i8 kF;obtain⟨AI,AJ⟩:=GY (P:=P) (w:=w) (base:=base) T Em;obtain⟨AK,AL⟩:=GZ (P:=P) (w:=w) (base:=base) T En;obtain⟨z8,z9⟩:=Gb (P:=P) (w:=w) (base:=base) T Eo;obtain⟨vq,vw⟩:=EX T CY z8 z9;have cS:=tJ jG T vq vw;have bp:=tK (P:=P) (w:=w) (base:=base) jH T;have jA:=tM (P:=P) (w:=w) (base:=base) jI T;have kH:=vx kS T jA;have ro:=CN rq T cS bp kH;have bJ:=qJ (P:=P) (w:=w) (base:=base) fg T;have bD:=tN (P:=P) (w:=w) (base:=base) jO T;have cT:=tO jP T bD;have gy:=rd (P:=P) (w:=w) (base:=base) hV T;have kK:=vy kY T cT;have kR:=vz kZ T bJ bD cT gy kK;have mP:=yO mR T AI AJ AK AL kL;have jE:=tQ (P:=P) (w:=w) (base:=base) jQ T;have jC:=tR (P:=P) (w:=w) (base:=base) jJ T;have fV:=qM (P:=P) (w:=w) (base:=base) fe T;have fX:=qN ff T bp;have kP:=wC kT T fV fX jC;have cW:=kN cX T de;have jD:=tT jK T cW;have fI:=tU jL T cS kP jD;have dM:=mM (P:=P) (w:=w) (base:=base) dO T;have eM:=o6 (P:=P) (w:=w) (base:=base) eN T;have kQ:=wF (P:=P) (w:=w) (base:=base) kc T;have dN:=mO dP T kQ;have jF:=tV jR T ro fI eM dM dN;exact KN T F bJ bD kR mP jE jF
end
end K50
namespace K50
open PySem L2 PyProof.Rows
theorem KO{K:PySem.W.Frag}{h:Heap}{mg:Str->Option Value}{cU fj r6 iX iY fK df iZ:Addr}{AQ o8 r8 r9 tW qO sG:Tok}{UO:Value}{UP UQ:Option Addr}{QG:Array (Option Value)}{UR QH US Mw UT:Value}{Gw:Value}{Gx Gy:Option Addr}{Ep:Array (Option Value)}{Gz Es G0 yU G1:Value}{G2:Value}{G3 G4:Option Addr}{Et:Array (Option Value)}{G5 Eu G6 yV G7:Value}{Ew:Value}{Ex Ey:Option Addr}{CZ:Array (Option Value)}{Ez Ca E1 ui E2:Value}{Cb:Value}{Cc Cd:Option Addr}{AR:Array (Option Value)}{Ce AS Cf sH Cg:Value}{G8:Value}{G9 HG:Option Addr}{E3:Array (Option Value)}{HH E4 HI yW HJ:Value}(KX:K.In h)(G:h.Ns mainGlobals mg)(mS:PySem.W.nsIn K mainGlobals "BadNews"=some (some (.ref cU)))(AU:PySem.W.nsIn K mainGlobals "Map"=some (some (.ref fj)))(o9:PySem.W.nsIn K mainGlobals "HOUSES"=some (some (.int 32 AQ)))(eO:PySem.W.nsIn K mainGlobals "LONGEST_NAME"=some (some (.int 4 o8)))(hW:PySem.W.nsIn K mainGlobals "MOST_BIRTH"=some (some (.int 9000 r8)))(hX:PySem.W.nsIn K mainGlobals "MOST_NAMES"=some (some (.int 4 r9)))(jS:PySem.W.nsIn K mainGlobals "MOST_NEAR"=some (some (.int 5 tW)))(fk:PySem.W.nsIn K mainGlobals "MOST_NUMBER"=some (some (.int 900000 qO)))(iA:PySem.W.nsIn K mainGlobals "MOST_QUIET"=some (some (.int 10 sG)))(wG:PySem.W.nsIn K mainGlobals "abs"=some none)(wH:PySem.W.nsIn K mainGlobals "all"=some none)(wI:PySem.W.nsIn K mainGlobals "any"=some none)(sJ:PySem.W.nsIn K mainGlobals "bool"=some none)(sL:PySem.W.nsIn K mainGlobals "dict"=some none)(wJ:PySem.W.nsIn K mainGlobals "int"=some none)(fm:PySem.W.nsIn K mainGlobals "isinstance"=some none)(wK:PySem.W.nsIn K mainGlobals "len"=some none)(sM:PySem.W.nsIn K mainGlobals "list"=some none)(wL:PySem.W.nsIn K mainGlobals "max"=some none)(wM:PySem.W.nsIn K mainGlobals "min"=some none)(pA:PySem.W.nsIn K mainGlobals "range"=some none)(wN:PySem.W.nsIn K mainGlobals "set"=some none)(mT:PySem.W.nsIn K mainGlobals "sorted"=some none)(pB:PySem.W.nsIn K mainGlobals "tuple"=some none)(wO:PySem.W.nsIn K mainGlobals "zip"=some none)(mU:PySem.W.excIn K cU [.type "ValueError",.type "Exception",.type "BaseException",.type "object"] "ValueError.__new__"=true)(iB:PySem.W.findIn K (.ref cU) "__getattribute__"=some (some (.builtin "BaseException.__getattribute__")))(fq:PySem.W.findIn K (.ref cU) "__getattr__"=some none)(fu:PySem.W.findIn K (.ref cU) "__class__"=some (some (.builtin "object.__class__")))(fz:PySem.W.isClsIn K cU=true)(f9:PySem.W.mroIn K cU (.type "object")=some true)(eQ:PySem.W.subIn K (.ref cU) (.type "BaseException")=some true)(pC:PySem.W.makesIn K fj=true)(sN:PySem.W.findIn K (.ref fj) "__init__"=some (some (.ref r6)))(AV:PySem.W.isFn K (.ref r6)=true)(AW:PySem.W.keepIn K (.ref fj)=true)(AX:K.lookup r6=some ⟨UO,UP,.func (PySem.W.fnOf "__init__" "Map.__init__" (cM ox) (bX ox) (aG ox) .none UR QH US UQ Mw UT),QG⟩)(AY:PySem.W.codeIn K Mw "Map.__init__"=true)(AZ:PySem.W.keepIn K (.ref r6)=true)(pD:PySem.W.plainGet K fj Str.empty=true)(pE:PySem.W.hasDictIn K fj=true)(pF:PySem.W.plainOver K fj=true)(pG:PySem.W.findIn K (.ref fj) "__setattr__"=some (some (.builtin "object.__setattr__")))(ke:PySem.W.findIn K (.ref fj) "latest"=some none)(iC:PySem.W.findIn K (.ref fj) "hear"=some (some (.ref iX)))(jT:PySem.W.isFn K (.ref iX)=true)(jU:PySem.W.keepIn K (.ref iX)=true)(mV:K.lookup iX=some ⟨Gw,Gx,.func (PySem.W.fnOf "hear" "Map.hear" (cM oy) (bX oy) (aG oy) .none Gz Es G0 Gy yU G1),Ep⟩)(mW:PySem.W.codeIn K yU "Map.hear"=true)(mX:PySem.W.keepIn K (.ref iX)=true)(iD:PySem.W.findIn K (.ref fj) "news"=some (some (.ref iY)))(jV:PySem.W.isFn K (.ref iY)=true)(jW:PySem.W.keepIn K (.ref iY)=true)(mY:K.lookup iY=some ⟨G2,G3,.func (PySem.W.fnOf "news" "Map.news" (cM mG) (bX mG) (aG mG) .none G5 Eu G6 G4 yV G7),Et⟩)(mZ:PySem.W.codeIn K yV "Map.news"=true)(md:PySem.W.keepIn K (.ref iY)=true)(gC:PySem.W.findIn K (.ref fj) "wires"=some (some (.ref fK)))(iE:PySem.W.isFn K (.ref fK)=true)(iF:PySem.W.keepIn K (.ref fK)=true)(kf:K.lookup fK=some ⟨Ew,Ex,.func (PySem.W.fnOf "wires" "Map.wires" (cM lB) (bX lB) (aG lB) .none Ez Ca E1 Ey ui E2),CZ⟩)(kg:PySem.W.codeIn K ui "Map.wires"=true)(kh:PySem.W.keepIn K (.ref fK)=true)(eR:PySem.W.findIn K (.ref fj) "holder"=some (some (.ref df)))(gD:PySem.W.isFn K (.ref df)=true)(gE:PySem.W.keepIn K (.ref df)=true)(jX:K.lookup df=some ⟨Cb,Cc,.func (PySem.W.fnOf "holder" "Map.holder" (cM nZ) (bX nZ) (aG nZ) .none Ce AS Cf Cd sH Cg),AR⟩)(jY:PySem.W.codeIn K sH "Map.holder"=true)(jZ:PySem.W.keepIn K (.ref df)=true)(iG:PySem.W.findIn K (.ref fj) "copy"=some (some (.ref iZ)))(ja:PySem.W.isFn K (.ref iZ)=true)(jb:PySem.W.keepIn K (.ref iZ)=true)(me:K.lookup iZ=some ⟨G8,G9,.func (PySem.W.fnOf "copy" "Map.copy" (cM vW) (bX vW) (aG vW) .none HH E4 HI HG yW HJ),E3⟩)(mh:PySem.W.codeIn K yW "Map.copy"=true)(mm:PySem.W.keepIn K (.ref iZ)=true)(gF:PySem.W.kitOne K (.type "int") (.type "bool")=some false)(eS:PySem.W.kitOne K (.type "bool") (.type "bool")=some true): ∃t,Txt K mg t:=⟨⟨cU,fj,r6,iX,iY,fK,df,iZ⟩,⟨⟨_,PySem.W.mg_of KX G o9⟩,⟨_,PySem.W.mg_of KX G eO⟩,⟨_,PySem.W.mg_of KX G hW⟩,⟨_,PySem.W.mg_of KX G hX⟩,⟨_,PySem.W.mg_of KX G jS⟩,⟨_,PySem.W.mg_of KX G fk⟩,⟨_,PySem.W.mg_of KX G iA⟩,PySem.W.mg_none_of KX G wG,PySem.W.mg_none_of KX G wH,PySem.W.mg_none_of KX G wI,PySem.W.mg_none_of KX G sJ,PySem.W.mg_none_of KX G sL,PySem.W.mg_none_of KX G wJ,PySem.W.mg_none_of KX G fm,PySem.W.mg_none_of KX G wK,PySem.W.mg_none_of KX G sM,PySem.W.mg_none_of KX G wL,PySem.W.mg_none_of KX G wM,PySem.W.mg_none_of KX G pA,PySem.W.mg_none_of KX G wN,PySem.W.mg_none_of KX G mT,PySem.W.mg_none_of KX G pB,PySem.W.mg_none_of KX G wO,PySem.W.mg_of KX G mS,PySem.W.mg_of KX G AU,mU,⟨iB,fq,fu,fz,f9,eQ⟩,⟨pC,sN,AV,AW⟩,⟨_,lu AX AY AZ⟩,⟨pD,pE,pF,pG⟩,ke,⟨iC,jT,jU⟩,⟨_,lu mV mW mX⟩,⟨iD,jV,jW⟩,⟨_,lu mY mZ md⟩,⟨gC,iE,iF⟩,⟨_,lu kf kg kh⟩,⟨eR,gD,gE⟩,⟨_,lu jX jY jZ⟩,⟨iG,ja,jb⟩,⟨_,lu me mh mm⟩,gF,eS⟩⟩
end K50
open PySem PySem.W PyProof.Rows
structure PySem.W.Fast:Prop where(tw15744011232254217358 tw7653651410449326104 tw14302836158649331315 tw8778970729957538254 tw3334052137186660006 tw16887075429402210245 tw6097064230157015683 tw17628909747582211505 tw15169044914580507502 tw14623918430566555915 tw9146115462248600141 tw8243929455223259203 tw6186048821406062517 tw7640372632020764992 tw11173442621650636778 tw4303563840591233831 tw14855516376352258580 tw15142060276383202041 tw9382697463112322722 tw16947056621257777099 tw16893055591739626658:True)
set_option maxRecDepth 100000 in
set_option maxHeartbeats 0 in
theorem PySem.Challenge.cw_stormpost_k50_whole_a_way_or_a_side_holds : PySem.Challenge.rw_stormpost_k50_whole_a_way_or_a_side.Holds := by
 w_on;o_law;k_head;(case hw=>w_witness2)
 k_fill
 refine L2.DQ (l:=PySem.Challenge.rw_stormpost_k50_whole_a_way_or_a_side) (k:=7) ⟨rfl,by decide,by decide⟩ rfl rfl (λw h Y=>PySem.W.kIn_of Y) ?F
 case F =>
  intro w mg fa h KX G JC;have mQ:L2.aK (L2.cI KX) mg "is_house" K50.i6:=by dsimp only[L2.cI];refine' L2.aK.mk' KX G _ _ _ _;any_goals k_is
  have jG:L2.aK (L2.cI KX) mg "lengths_of" K50.eY:=by dsimp only[L2.cI];refine' L2.aK.mk' KX G _ _ _ _;any_goals k_is
  have jH:L2.aK (L2.cI KX) mg "heights_to" K50.eZ:=by dsimp only[L2.cI];refine' L2.aK.mk' KX G _ _ _ _;any_goals k_is
  have jI:L2.aK (L2.cI KX) mg "next_house" K50.dD:=by dsimp only[L2.cI];refine' L2.aK.mk' KX G _ _ _ _;any_goals k_is
  have kS:L2.aK (L2.cI KX) mg "least_way" K50.gM:=by dsimp only[L2.cI];refine' L2.aK.mk' KX G _ _ _ _;any_goals k_is
  have rq:L2.aK (L2.cI KX) mg "way_of" K50.kA:=by dsimp only[L2.cI];refine' L2.aK.mk' KX G _ _ _ _;any_goals k_is
  have jJ:L2.aK (L2.cI KX) mg "way_length" K50.fA:=by dsimp only[L2.cI];refine' L2.aK.mk' KX G _ _ _ _;any_goals k_is
  have fe:L2.aK (L2.cI KX) mg "goes_from_to" K50.dE:=by dsimp only[L2.cI];refine' L2.aK.mk' KX G _ _ _ _;any_goals k_is
  have ff:L2.aK (L2.cI KX) mg "heights_hold" K50.cK:=by dsimp only[L2.cI];refine' L2.aK.mk' KX G _ _ _ _;any_goals k_is
  have kT:L2.aK (L2.cI KX) mg "way_holds" K50.gN:=by dsimp only[L2.cI];refine' L2.aK.mk' KX G _ _ _ _;any_goals k_is
  have cX:L2.aK (L2.cI KX) mg "are_rising_houses" K50.bG:=by dsimp only[L2.cI];refine' L2.aK.mk' KX G _ _ _ _;any_goals k_is
  have jK:L2.aK (L2.cI KX) mg "side_holds" K50.dF:=by dsimp only[L2.cI];refine' L2.aK.mk' KX G _ _ _ _;any_goals k_is
  have jL:L2.aK (L2.cI KX) mg "way_judged" K50.fB:=by dsimp only[L2.cI];refine' L2.aK.mk' KX G _ _ _ _;any_goals k_is
  have jM:L2.aK (L2.cI KX) mg "look_house" K50.fD:=by dsimp only[L2.cI];refine' L2.aK.mk' KX G _ _ _ _;any_goals k_is
  have g9:L2.aK (L2.cI KX) mg "look_bounds" K50.dg:=by dsimp only[L2.cI];refine' L2.aK.mk' KX G _ _ _ _;any_goals k_is
  have hU:L2.aK (L2.cI KX) mg "look_unlike" K50.dh:=by dsimp only[L2.cI];refine' L2.aK.mk' KX G _ _ _ _;any_goals k_is
  have o7:L2.aK (L2.cI KX) mg "is_name" K50.iP:=by dsimp only[L2.cI];refine' L2.aK.mk' KX G _ _ _ _;any_goals k_is
  have jN:L2.aK (L2.cI KX) mg "look_names" K50.fE:=by dsimp only[L2.cI];refine' L2.aK.mk' KX G _ _ _ _;any_goals k_is
  have kU:L2.aK (L2.cI KX) mg "made_wire" K50.gO:=by dsimp only[L2.cI];refine' L2.aK.mk' KX G _ _ _ _;any_goals k_is
  have kW:L2.aK (L2.cI KX) mg "made_near" K50.cu:=by dsimp only[L2.cI];refine' L2.aK.mk' KX G _ _ _ _;any_goals k_is
  have kX:L2.aK (L2.cI KX) mg "made_news" K50.gP:=by dsimp only[L2.cI];refine' L2.aK.mk' KX G _ _ _ _;any_goals k_is
  have fg:L2.aK (L2.cI KX) mg "_law_cell_at" K50.dG:=by dsimp only[L2.cI];refine' L2.aK.mk' KX G _ _ _ _;any_goals k_is
  have jO:L2.aK (L2.cI KX) mg "_law_mixed" K50.fF:=by dsimp only[L2.cI];refine' L2.aK.mk' KX G _ _ _ _;any_goals k_is
  have jP:L2.aK (L2.cI KX) mg "_law_drawn" K50.fG:=by dsimp only[L2.cI];refine' L2.aK.mk' KX G _ _ _ _;any_goals k_is
  have hV:L2.aK (L2.cI KX) mg "_law_houses" K50.b9:=by dsimp only[L2.cI];refine' L2.aK.mk' KX G _ _ _ _;any_goals k_is
  have kY:L2.aK (L2.cI KX) mg "_law_told" K50.gQ:=by dsimp only[L2.cI];refine' L2.aK.mk' KX G _ _ _ _;any_goals k_is
  have kZ:L2.aK (L2.cI KX) mg "_law_news" K50.cv:=by dsimp only[L2.cI];refine' L2.aK.mk' KX G _ _ _ _;any_goals k_is
  have mR:L2.aK (L2.cI KX) mg "_law_map" K50.fO:=by dsimp only[L2.cI];refine' L2.aK.mk' KX G _ _ _ _;any_goals k_is
  have jQ:L2.aK (L2.cI KX) mg "_law_wires" K50.fH:=by dsimp only[L2.cI];refine' L2.aK.mk' KX G _ _ _ _;any_goals k_is
  have dO:L2.aK (L2.cI KX) mg "_law_side_right" K50.bO:=by dsimp only[L2.cI];refine' L2.aK.mk' KX G _ _ _ _;any_goals k_is
  have eN:L2.aK (L2.cI KX) mg "_law_way_long" K50.cf:=by dsimp only[L2.cI];refine' L2.aK.mk' KX G _ _ _ _;any_goals k_is
  have kc:L2.aK (L2.cI KX) mg "_law_bits" K50.d9:=by dsimp only[L2.cI];refine' L2.aK.mk' KX G _ _ _ _;any_goals k_is
  have dP:L2.aK (L2.cI KX) mg "_law_drawn_side" K50.bP:=by dsimp only[L2.cI];refine' L2.aK.mk' KX G _ _ _ _;any_goals k_is
  have jR:L2.aK (L2.cI KX) mg "_law_right" K50.dH:=by dsimp only[L2.cI];refine' L2.aK.mk' KX G _ _ _ _;any_goals k_is
  have Mx:L2.aK (L2.cI KX) mg "law" K50.A8:=by dsimp only[L2.cI];refine' L2.aK.mk' KX G _ _ _ _;any_goals k_is
  have T:∃t,K50.Txt (L2.cI KX) mg t:=by
   dsimp only[L2.cI];refine' K50.KO KX G ?mS ?AU ?o9 ?eO ?hW ?hX ?jS ?fk ?iA ?wG ?wH ?wI ?sJ ?sL ?wJ ?fm ?wK ?sM ?wL ?wM ?pA ?wN ?mT ?pB ?wO ?mU ?iB ?fq ?fu ?fz ?f9 ?eQ ?pC ?sN ?AV ?AW ?AX ?AY ?AZ ?pD ?pE ?pF ?pG ?ke ?iC ?jT ?jU ?mV ?mW ?mX ?iD ?jV ?jW ?mY ?mZ ?md ?gC ?iE ?iF ?kf ?kg ?kh ?eR ?gD ?gE ?jX ?jY ?jZ ?iG ?ja ?jb ?me ?mh ?mm ?gF ?eS
   (case mS=>k_is)
   (case AU=>k_is)
   (case o9=>k_is)
   (case eO=>k_is)
   (case hW=>k_is)
   (case hX=>k_is)
   (case jS=>k_is)
   (case fk=>k_is)
   (case iA=>k_is)
   (case wG=>k_is)
   (case wH=>k_is)
   (case wI=>k_is)
   (case sJ=>k_is)
   (case sL=>k_is)
   (case wJ=>k_is)
   (case fm=>k_is)
   (case wK=>k_is)
   (case sM=>k_is)
   (case wL=>k_is)
   (case wM=>k_is)
   (case pA=>k_is)
   (case wN=>k_is)
   (case mT=>k_is)
   (case pB=>k_is)
   (case wO=>k_is)
   (case mU=>k_exc)
   (case iB=>k_is)
   (case fq=>k_is)
   (case fu=>k_is)
   (case fz=>k_is)
   (case f9=>k_is)
   (case eQ=>k_is)
   (case pC=>k_is)
   (case sN=>k_is)
   (case AV=>k_is)
   (case AW=>k_is)
   (case AX=>k_is)
   (case AY=>k_is)
   (case AZ=>k_is)
   (case pD=>k_is)
   (case pE=>k_is)
   (case pF=>k_is)
   (case pG=>k_is)
   (case ke=>k_is)
   (case iC=>k_is)
   (case jT=>k_is)
   (case jU=>k_is)
   (case mV=>k_is)
   (case mW=>k_is)
   (case mX=>k_is)
   (case iD=>k_is)
   (case jV=>k_is)
   (case jW=>k_is)
   (case mY=>k_is)
   (case mZ=>k_is)
   (case md=>k_is)
   (case gC=>k_is)
   (case iE=>k_is)
   (case iF=>k_is)
   (case kf=>k_is)
   (case kg=>k_is)
   (case kh=>k_is)
   (case eR=>k_is)
   (case gD=>k_is)
   (case gE=>k_is)
   (case jX=>k_is)
   (case jY=>k_is)
   (case jZ=>k_is)
   (case iG=>k_is)
   (case ja=>k_is)
   (case jb=>k_is)
   (case me=>k_is)
   (case mh=>k_is)
   (case mm=>k_is)
   (case gF=>kit_is)
   (case eS=>kit_is)
  obtain⟨t,T⟩:=T;exact L2.DP Mx (λ_ _ _ _ _ _ us hl=>match us,hl with|[_],_=>rfl) JC λf fd base F=>K50.Gv T F mQ jG jH jI kS rq jJ fe ff kT cX jK jL jM g9 hU o7 jN kU kW kX fg jO jP hV kY kZ mR jQ dO eN kc dP jR
#print axioms PySem.Challenge.cw_stormpost_k50_whole_a_way_or_a_side_holds
