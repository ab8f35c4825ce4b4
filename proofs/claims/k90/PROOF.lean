import PyProof.Rows.All
import Wide.All
import OpenK.AllK
import Wide.FinOn
import Lean
import PyProof.EqAt
import PyProof.EqKinds
import PyProof.TupleCall
import PySem.Challenge.RW_stormpost_k90_whole_sharp_silences
set_option genSizeOf false
set_option compiler.extract_closed false
set_option Elab.async false
set_option linter.all false
set_option maxRecDepth 100000
open List(length_append mem_singleton length_map mem_cons_of_mem mem_cons_self mem_append size_toArray mem_of_getElem? getElem?_append_left getElem?_append_right mem_cons getElem?_eq_none length_replicate mem_append_right mem_append_left getElem?_eq_getElem length_cons length_take lookup_cons not_mem_nil take_length getElem?_map map_append getD_eq_getElem?_getD)
open Nat(le_refl lt_of_lt_of_le zero_le lt_succ_self lt_irrefl le_trans ne_of_lt not_lt_zero le_succ)
open PySem PySem.Spec PyProof.Rows in
abbrev bv:=@wpAny_bind
open PySem PySem.Spec PyProof.Rows in
abbrev ca:=@wpAny_pure
namespace L2
open PySem PySem.Spec PyProof.Rows
abbrev Key:=Sum Int Str
def Cg:Key->Value->Bool
 |.inl k,v=>Value.isInt k v
 |.inr x,v=>Value.isStrOf x v
def aBY(w:World):Key->Int
 |.inl k=>hashInt k
 |.inr x=>hashStr w x
theorem cS:∀{k:Key}{v:Value},Cg k v=true->(∃i t,k=Sum.inl i/\v=Value.int i t)\/(∃x t,k=Sum.inr x/\v=Value.str x t)
 |.inl i,v,h=>by obtain⟨t,e⟩:=Value.isInt_shape (k:=i) (v:=v) h;exact .inl ⟨i,t,rfl,e⟩
 |.inr x,v,h=>by obtain⟨t,e⟩:=Value.isStrOf_shape (x:=x) (v:=v) h;exact .inr ⟨x,t,rfl,e⟩
theorem LO(i:Int)(t:Tok):Cg (.inl i) (.int i t)=true:=by simp[Cg,Value.isInt]
theorem LP(x:Str)(t:Tok):Cg (.inr x) (.str x t)=true:=by simp[Cg,Value.isStrOf]
theorem VN(a b:Int):decide ((Sum.inl a:Key)=Sum.inl b)=(a==b):=by
 by_cases e:a=b
 ·subst e;simp
 have h:¬(Sum.inl a:Key)=Sum.inl b:=λq=>e (Sum.inl.inj q);rw[decide_eq_false h];exact(beq_eq_false_iff_ne.mpr e).symm
theorem VO(a b:Str):decide ((Sum.inr a:Key)=Sum.inr b)=decide (a=b):=by
 by_cases e:a=b
 ·subst e;simp
 have h:¬(Sum.inr a:Key)=Sum.inr b:=λq=>e (Sum.inr.inj q);rw[decide_eq_false h,decide_eq_false e]
theorem VP(a:Int)(b:Str):decide ((Sum.inl a:Key)=Sum.inr b)=false:=decide_eq_false (λq=>nomatch q)
theorem VQ(a:Str)(b:Int):decide ((Sum.inr a:Key)=Sum.inl b)=false:=decide_eq_false (λq=>nomatch q)
def bZ(prog:Program)(w:World):PySem.KeyKind prog w Key where
 is:=Cg
 hash:=aBY w
 inj:=λv a b ha hb=>by
  rcases cS ha with⟨i,t,rfl,rfl⟩|⟨x,t,rfl,rfl⟩
  ·rcases cS hb with⟨j,u,rfl,e⟩|⟨y,u,rfl,e⟩
   ·injection e with e1 _;rw[e1]
   exact nomatch e
  rcases cS hb with⟨j,u,rfl,e⟩|⟨y,u,rfl,e⟩
  ·exact nomatch e
  injection e with e1 _;rw[e1]
 byValue:=λk v h=>by rcases cS h with⟨i,t,rfl,rfl⟩|⟨x,t,rfl,rfl⟩<;>rfl
 pyHash:=λhv h=>by
  rcases cS hv with⟨i,t,rfl,rfl⟩|⟨x,t,rfl,rfl⟩
  ·exact wpAny_pyHash_int h
  exact wpAny_pyHash_str h
 eqBool:=λhu hv h=>by
  rcases cS hu with⟨i,t,rfl,rfl⟩|⟨x,t,rfl,rfl⟩
  ·rcases cS hv with⟨j,u,rfl,rfl⟩|⟨y,u,rfl,rfl⟩
   ·rw[VN]at h;exact wpAny_eqBool_int h
   rw[VP]at h;exact SeqAt.EqAt.int_str i t y u _ _ _ _ h
  rcases cS hv with⟨j,u,rfl,rfl⟩|⟨y,u,rfl,rfl⟩
  ·rw[VQ]at h;exact SeqAt.EqAt.str_int x t j u _ _ _ _ h
  rw[VO]at h;exact wpAny_eqBool_str h
 «strs»:=λk x t v h=>by
  rcases cS h with⟨i,u,rfl,e⟩|⟨y,u,rfl,e⟩
  ·exact nomatch e
  injection e with e1 _;subst e1;cases v<;>rfl
theorem FG(prog:Program)(w:World)(i:Int)(t:Tok):(bZ prog w).is (.inl i) (.int i t)=true:=LO i t
theorem FH(prog:Program)(w:World)(x:Str)(t:Tok):(bZ prog w).is (.inr x) (.str x t)=true:=LP x t
inductive V where
 |bw|bl (b:Bool)|int (i:Int)|str (x:Str)|J5 (b:Array UInt8)|flt (b:UInt64)|ref (a:Addr)|ty (n:String)
 deriving DecidableEq
def RelV:V->Value->Prop
 |.bw,u=>u=Value.none
 |.bl b,u=>u=Value.bool b
 |.int i,u=>∃t,u=Value.int i t
 |.str x,u=>∃t,u=Value.str x t
 |.J5 b,u=>∃t,u=Value.bytes b t
 |.flt b,u=>∃t,u=Value.float b t
 |.ref a,u=>u=Value.ref a
 |.ty n,u=>u=Value.type n
abbrev bJ:List V->List Value->Prop:=Paired RelV
theorem bJ.length{xs:List V}{us:List Value}(r:bJ xs us):xs.length=us.length:=Paired.length r
theorem bJ.get:∀{xs:List V}{us:List Value}{i:Nat}{x:V},bJ xs us->xs[i]?=some x->∃u,us[i]?=some u/\RelV x u
 |_,_,_,_,.nil,e=>by simp at e
 |_,_,0,_,.cons r _,e=>by simp at e;subst e;exact⟨_,rfl,r⟩
 |_,_,i+1,x,.cons _ t,e=>by obtain⟨u,h1,h2⟩:=bJ.get (i:=i) (x:=x) t (by simpa using e);exact⟨u,by simpa using h1,h2⟩
theorem bJ.set{x:V}{u:Value}(r:RelV x u):∀{xs:List V}{us:List Value}(i:Nat),bJ xs us->bJ (xs.set i x) (us.set i u)
 |_,_,_,.nil=>.nil
 |_,_,0,.cons _ t=>.cons r t
 |_,_,i+1,.cons q t=>.cons q (bJ.set r i t)
theorem bJ.append:∀{xs ys:List V}{us ws:List Value},bJ xs us->bJ ys ws->bJ (xs++ys) (us++ws)
 |_,_,_,_,.nil,s=>s
 |_,_,_,_,.cons r t,s=>.cons r (bJ.append t s)
theorem bJ.take:∀{xs:List V}{us:List Value}(n:Nat),bJ xs us->bJ (xs.take n) (us.take n)
 |_,_,0,_=>.nil
 |_,_,_+1,.nil=>.nil
 |_,_,n+1,.cons r t=>.cons r (bJ.take n t)
theorem bJ.drop:∀{xs:List V}{us:List Value}(n:Nat),bJ xs us->bJ (xs.drop n) (us.drop n)
 |_,_,0,r=>r
 |_,_,_+1,.nil=>.nil
 |_,_,n+1,.cons _ t=>bJ.drop n t
def nq:Option V->Option Value->Prop
 |some v,some u=>RelV v u
 |none,none=>True
 |_,_=>False
def KV{κ:Type}:List (κ×V)->List (κ×Value)->Prop:=Paired λ(p:κ×V)(q:κ×Value)=>p.1=q.1/\RelV p.2 q.2
def kV:Key->V
 |.inl i=>.int i
 |.inr x=>.str x
inductive HO where
 |lst (xs:List V)
 |tup (xs:List V)
 |dK (io:List (Key×V))|dT (io:List (List Key×V))
 |set (S:Int->Bool) (n:Nat)
 |ins (C dx:Addr) (fs:List (Str×V))
 |own (x:Addr)
 |xd (fs:List (Str×V))
 |met (f x:Addr)
 |rng (lo hi:Int)
 |NJ (o:Obj) (u:HO)
 |UM (ps:Array Value)
 |ext (φ:Heap->Prop)
abbrev Hp:=Addr->Option HO
def dl(H:Hp)(a:Addr)(o:HO):Hp:=λb=>if b=a then some o else H b
theorem aA{H:Hp}{a:Addr}{o:HO}:dl H a o a=some o:=by unfold dl;rw[if_pos rfl]
theorem aE{H:Hp}{a b:Addr}{o:HO}(h:b≠a):dl H a o b=H b:=by unfold dl;rw[if_neg h]
theorem gR{H:Hp}{a:Addr}{o u:HO}:dl (dl H a o) a u=dl H a u:=by
 funext b;unfold dl;split<;>rfl
theorem UN{H:Hp}{a b:Addr}{o u:HO}(h:H a=some o)(h':H b=some u)(d:o≠u):a≠b:=by intro e;subst e;rw[h]at h';exact d (Option.some.inj h')
theorem aR{H:Hp}{a b:Addr}{o:HO}(h:H a=some o)(h':H b=none):a≠b:=by intro e;subst e;rw[h]at h';cases h'
section
variable(P:Program)(w:World)
def cZ(H:Hp)(h:Heap)(a:Addr):HO->Prop
 |.lst xs=>xs.length<=sizeLine/\∃(az:List Value)(n:Nat),bJ xs az/\h.get? a=some { cls:=.type "list",data:=.seq az.toArray n }
 |.tup xs=>xs.length<=sizeLine/\∃az:List Value,bJ xs az/\IsTup h a az.toArray
 |.dK io=>io.length<=sizeLine/\(a==sysModules)=false/\∃vs,KV io vs/\h.DictOf (bZ P w) a vs
 |.dT io=>io.length<=sizeLine/\(a==sysModules)=false/\∃xs:List (List Key×Addr×Value),
   Paired (λ(p:List Key×V)(q:List Key×Addr×Value)=>p.1=q.1/\H q.2.1=some (.tup (p.1.map kV))/\RelV p.2 q.2.2) io xs /\
   ∃o es ep,h.get? a=some o/\o.ExactDict/\o.data=.dict es ep/\es.toList=xs.map (entryOfKey (tupleKind (bZ P w)))/\(xs.map (·.1)).Nodup
 |.set S n=>h.SetOf (intKind P w) a S n
 |.ins C dx fs=>H dx=some (.own a)/\fs.length<=1000/\dx≠a/\h.get? a=some (W.instObj C dx) /\
   ∃mA,h.Ns1 dx mA/\(∀f,nq (fs.lookup f) (mA f))/\PySem.Within mA (fs.map (·.1))
 |.own _=>∃o,h.get? a=some o
 |.xd fs=>∃mA,h.Ns1 a mA/\∀f,nq (fs.lookup f) (mA f)
 |.rng lo hi=>∃t u v,h.get? a=some { cls:=.type "range",data:=.fields #[.int lo t,.int hi u,.int 1 v] }
 |.NJ o u=>h.get? a=some o/\cZ H h a u
 |.UM ps=>h.get? a=some { cls:=.none,data:=.fields ps }
 |.met f x=>h.get? a=some (W.methodObj (.ref f) (.ref x))
 |.ext φ=>φ h/\(∃o,h.get? a=some o)/\∀h1 h2:Heap,φ h1->(∀o,h1.get? a=some o->h2.get? a=some o)->φ h2
def tY(H:Hp)(h:Heap):Prop:=∀a o,H a=some o->cZ P w H h a o
end
section
variable{P:Program}{w:World}{H H':Hp}{h h':Heap}{a:Addr}{o:HO}
theorem cZ.lt(x:cZ P w H h a o):a<h.objs.size:=by
 cases o with
 |lst xs=>obtain⟨_,_,_,_,e⟩:=x;exact Heap.lt_size e
 |tup xs=>obtain⟨_,_,_,p⟩:=x;exact p.lt
 |dK io=>obtain⟨_,_,_,_,o,_,_,e,_⟩:=x;exact Heap.lt_size e
 |dT io=>obtain⟨_,_,_,_,o,_,_,e,_⟩:=x;exact Heap.lt_size e
 |set S n=>obtain⟨o,_,_,_,e,_⟩:=x;exact Heap.lt_size e
 |ins C dx fs=>obtain⟨_,_,_,e,_⟩:=x;exact Heap.lt_size e
 |own y=>obtain⟨_,e⟩:=x;exact Heap.lt_size e
 |xd fs=>obtain⟨_,⟨_,_,_,e,_⟩,_⟩:=x;exact Heap.lt_size e
 |rng lo hi=>obtain⟨_,_,_,e⟩:=x;exact Heap.lt_size e
 |NJ ob u=>obtain⟨e,_⟩:=x;exact Heap.lt_size e
 |UM ps=>exact Heap.lt_size (show h.get? a=some _ from x)
 |met f y=>exact Heap.lt_size (show h.get? a=some _ from x)
 |ext φ=>obtain⟨_,⟨_,e⟩,_⟩:=x;exact Heap.lt_size e
theorem Paired.VR{α β:Type}{F G:α->β->Prop}:∀{l₁:List α}{l₂:List β},Paired F l₁ l₂->(∀a b,F a b->G a b)->Paired G l₁ l₂
 |_,_,.nil,_=>.nil
 |_,_,.cons r t,f=>.cons (f _ _ r) (Paired.VR t f)
theorem cZ.FI(x:cZ P w H h a o)(k:∀b u,(b=a\/H b=some (.own a))->h.get? b=some u->h'.get? b=some u)(ho:∀b,H b=some (.own a)->H' b=some (.own a))(ht:∀b xs,H b=some (.tup xs)->H' b=some (.tup xs)):cZ P w H' h' a o:=by
 induction o with
 |lst xs=>obtain⟨z,az,n,r,e⟩:=x;exact⟨z,az,n,r,k _ _ (.inl rfl) e⟩
 |tup xs=>obtain⟨z,az,r,ob,e,c⟩:=x;exact⟨z,az,r,ob,k _ _ (.inl rfl) e,c⟩
 |dK io=>obtain⟨z,y,vs,r,ob,es,ep,e,c⟩:=x;exact⟨z,y,vs,r,ob,es,ep,k _ _ (.inl rfl) e,c⟩
 |dT io =>
  obtain⟨z,y,xs,r,ob,es,ep,e,c⟩:=x;exact⟨z,y,xs,Paired.VR r λp q z=>⟨z.1,ht _ _ z.2.1,z.2.2⟩,ob,es,ep,k _ _ (.inl rfl) e,c⟩
 |set S n=>obtain⟨ob,es,ep,t,e,c⟩:=x;exact⟨ob,es,ep,t,k _ _ (.inl rfl) e,c⟩
 |ins C dx fs =>
  obtain⟨d,z,ne,e,mA,⟨od,es,ep,e2,c⟩,r⟩:=x;exact⟨ho _ d,z,ne,k _ _ (.inl rfl) e,mA,⟨od,es,ep,k _ _ (.inr d) e2,c⟩,r⟩
 |own y=>obtain⟨ob,e⟩:=x;exact⟨ob,k _ _ (.inl rfl) e⟩
 |xd fs=>obtain⟨mA,⟨od,es,ep,e,c⟩,r⟩:=x;exact⟨mA,⟨od,es,ep,k _ _ (.inl rfl) e,c⟩,r⟩
 |rng lo hi=>obtain⟨t,u,v,e⟩:=x;exact⟨t,u,v,k _ _ (.inl rfl) e⟩
 |NJ ob u ih=>obtain⟨e,q⟩:=x;exact⟨k _ _ (.inl rfl) e,ih q⟩
 |UM ps =>
  have e:h.get? a=some { cls:=.none,data:=.fields ps }:=x;show h'.get? a=some { cls:=.none,data:=.fields ps };exact k a _ (.inl rfl) e
 |met f y =>
  have e:h.get? a=some (W.methodObj (.ref f) (.ref y)):=x;show h'.get? a=some (W.methodObj (.ref f) (.ref y));exact k a _ (.inl rfl) e
 |ext φ=>obtain⟨p,⟨o,e⟩,st⟩:=x;exact⟨st _ _ p λo q=>k _ _ (.inl rfl) q,⟨o,k _ _ (.inl rfl) e⟩,st⟩
theorem tY.lt(x:tY P w H h)(e:H a=some o):a<h.objs.size:=(x a o e).lt
theorem tY.fresh(x:tY P w H h)(e:h.objs.size<=a):H a=none:=by
 cases q:H a with
 |none=>rfl
 |some u=>exact absurd (lt_of_lt_of_le (x.lt q) e) (lt_irrefl _)
theorem tY.kept(x:tY P w H h)(k:∀b u,h.get? b=some u->h'.get? b=some u):tY P w H h':=λa o e =>
 (x a o e).FI (λb u _ q=>k b u q) (λ_ q=>q) λ_ _ q=>q
theorem tY.laid(x:tY P w H h)(k:∀b u,h.get? b=some u->h'.get? b=some u)(hp:h.objs.size<=a)(new:cZ P w (dl H a o) h' a o):tY P w (dl H a o) h':=λb u e=>by
 have hn:=x.fresh hp;by_cases hb:b=a
 ·subst hb;rw[aA]at e;cases e;exact new
 rw[aE hb]at e;exact(x b u e).FI (λc v _ q=>k c v q) (λc q=>by rw[aE (aR q hn)];exact q) λc xs q=>by rw[aE (aR q hn)];exact q
end
def Rd(H:Hp)(a:Addr)(u:HO):Prop:=H a=some u\/∃o,H a=some (.NJ o u)
theorem Rd.ok{P:Program}{w:World}{H:Hp}{h:Heap}{a:Addr}{u:HO}(r:Rd H a u)(x:tY P w H h):cZ P w H h a u:=by
 rcases r with r|⟨o,r⟩
 ·exact x a u r
 obtain⟨_,q⟩:=x a _ r;exact q
def YQ:Option HO->Prop
 |some (.lst _)=>True
 |some (.dK _)=>True
 |some (.dT _)=>True
 |some (.set _ _)=>True
 |some (.ins _ _ _)=>True
 |some (.ext _)=>True
 |_=>False
section
variable{P:Program}{w:World}{H:Hp}{h h':Heap}{x e:Addr}{o':HO}
theorem tY.write(ok:tY P w H h)(mu:YQ (H x))(he:e=x\/H e=some (.own x))(k:∀b u,b≠e->h.get? b=some u->h'.get? b=some u)(Xk:∃u,h'.get? e=some u)(new:cZ P w (dl H x o') h' x o'):tY P w (dl H x o') h':=λb u q=>by
 have YR:∀c y,H c=some (.own y)->c≠x:=λc y r z=>by subst z;rw[r]at mu;exact mu
 have aBZ:∀c xs,H c=some (.tup xs)->c≠x:=λc xs r z=>by subst z;rw[r]at mu;exact mu
 by_cases hb:b=x
 ·subst hb;rw[aA]at q;cases q;exact new
 rw[aE hb]at q;by_cases NK:b=e
 ·have q':H b=some (.own x):=by
   rcases he with z|z
   ·exact absurd (NK.trans z) hb
   rw[NK];exact z
  rw[q]at q';cases q';obtain⟨v,hv⟩:=Xk;exact⟨v,by rw[NK];exact hv⟩
 refine(ok b u q).FI (λc v hc r=>k c v ?_ r) (λc r=>by rw[aE (YR c b r)];exact r) λc xs r=>by rw[aE (aBZ c xs r)];exact r
 rcases hc with rfl|hc
 ·exact NK
 rintro rfl;rcases he with z|z
 ·exact YR c b hc z
 rw[hc]at z;cases z;exact hb rfl
end
structure Un(fs ex:List Addr)(H H':Hp)(h h':Heap):Prop where
 keep:∀b o,h.get? b=some o->H b=none->b∉fs->b∉ex->h'.get? b=some o
 slot:∀b o,h.get? b=some o->H b=none->b∈fs->b∉ex->∃sl,h'.get? b=some { o with slots:=sl }
 free:∀b o,h.get? b=some o->H b=none->b∉ex->H' b=none
 there:∀b o,h.get? b=some o->b∉ex->∃o',h'.get? b=some o'
 zZ:∀b xs,H b=some (.tup xs)->H' b=some (.tup xs)
 yv:∀b o u,H b=some (.NJ o u)->H' b=some (.NJ o u)
 za:∀b ps,H b=some (.UM ps)->∃more,H' b=some (.UM (ps++more))
section
variable{fs UO ex ex':List Addr}{H H1 H2:Hp}{h h1 h2 h':Heap}{a x e:Addr}{o:HO}
theorem Un.any(u:Un fs ex H H1 h h1){b:Addr}{ob:Obj}(q:h.get? b=some ob)(n:H b=none)(hx:b∉ex):∃sl,h1.get? b=some { ob with slots:=sl }:=by
 by_cases hb:b∈fs
 ·exact u.slot b ob q n hb hx
 exact⟨ob.slots,u.keep b ob q n hb hx⟩
theorem Un.kept(k:∀b u,h.get? b=some u->h'.get? b=some u):Un fs ex H H h h' :=
 ⟨λb ob q _ _ _=>k b ob q,λb ob q _ _ _=>⟨ob.slots,k b ob q⟩,λ_ _ _ n _=>n,λb ob q _=>⟨ob,k b ob q⟩,λ_ _ q=>q,λ_ _ _ q=>q,λ_ ps q=>⟨#[],by rw[q];simp⟩⟩
theorem Un.refl:Un fs ex H H h h:=Un.kept λ_ _ q=>q
theorem Un.laid(k:∀b u,h.get? b=some u->h'.get? b=some u)(hp:h.objs.size<=a)(hn:H a=none):Un fs ex H (dl H a o) h h' where
 keep:=λb u q _ _ _=>k b u q
 slot:=λb u q _ _ _=>⟨u.slots,k b u q⟩
 free:=λb u q n _=>by rw[aE (ne_of_lt (lt_of_lt_of_le (Heap.lt_size q) hp))];exact n
 there:=λb u q _=>⟨u,k b u q⟩
 zZ:=λb xs q=>by rw[aE (aR q hn)];exact q
 yv:=λb u xs q=>by rw[aE (aR q hn)];exact q
 za:=λb ps q=>⟨#[],by rw[aE (aR q hn),q];simp⟩
theorem Un.write(mu:YQ (H x))(he:e=x\/H e=some (.own x))(k:∀b u,b≠e->h.get? b=some u->h'.get? b=some u)(Xk:∃u,h'.get? e=some u):Un fs ex H (dl H x o) h h':=by
 have hx:∀b,H b=none->b≠x:=λb n z=>by subst z;rw[n]at mu;exact mu
 have hb:∀b,H b=none->b≠e:=λb n z=>by
  subst z;rcases he with r|r
  ·exact hx b n r
  rw[n]at r;cases r
 have hm:∀b u,H b=some u->¬YQ (some u)->b≠x:=λb u q nm z=>by subst z;rw[q]at mu;exact nm mu
 refine⟨λb u q n _ _=>k b u (hb b n) q,λb u q n _ _=>⟨u.slots,k b u (hb b n) q⟩,λb u q n _=>by rw[aE (hx b n)];exact n,λb u q _=>?_,
  λb xs q=>by rw[aE (hm b _ q λz=>z)];exact q,λb u xs q=>by rw[aE (hm b _ q λz=>z)];exact q,λb ps q=>⟨#[],by rw[aE (hm b _ q λz=>z),q];simp⟩⟩
 by_cases NK:b=e
 ·subst NK;exact Xk
 exact⟨u,k b u NK q⟩
end
def LQ(h:Heap)(H:Hp):List Addr:=(List.range h.objs.size).filter λa=>(H a).isSome
def DV(h:Heap)(H:Hp):Heap:=W.hideAll h (LQ h H)
theorem LR(h:Heap)(H:Hp):(DV h H).objs.size=h.objs.size:=W.hideAll_size _ _
theorem NV{h:Heap}{H:Hp}{b:Addr}{o:Obj}(e:h.get? b=some o)(n:H b=none):(DV h H).get? b=some o :=
 W.hideAll_get _ e λhm=>by have q:(H b).isSome=true:=(List.mem_filter.mp hm).2;rw[n]at q;simp at q
theorem Qw{h:Heap}{H:Hp}{b:Addr}{o:Obj}(e:(DV h H).get? b=some o):h.get? b=some o/\H b=none:=by
 have e':h.get? b=some o:=W.of_hideAll (LQ h H) e;refine⟨e',?_⟩;cases q:H b with
 |none=>rfl
 |some x =>
  have hm:b∈LQ h H:=List.mem_filter.mpr ⟨List.mem_range.mpr (Heap.lt_size e'),by simp[q]⟩;have z:(DV h H).get? b=none:=W.hideAll_none (LQ h H) hm;rw[z]at e;cases e
structure Mod(K:W.Frag)(mg:Str->Option Value)(base:Heap):Prop where
 Qx:K.In base
 glob:base.Ns mainGlobals mg
 blt:∃mb,base.Ns builtinsNs mb/\∀x:Str,x≠"__name__"->mb x=bootBuiltins x
 nolimit:base.NoLimit
structure Cx where
 prog:Program
 w:World
 K:W.Frag
 mg:Str->Option Value
 base:Heap
 A:Around
 N:List Str
 s₀:Shared
 H₀:Hp
 env:Env
 outer:List Env
 stack:List Env
 ex:List Addr
 fn:Str->Bool
 calm:Bool
 pn:List (Addr×Obj)
 xe:Value->Shared->Prop
def sm(l:List Env):List Addr:=l.filterMap (·.frame)
abbrev Cx.fs(X:Cx):List Addr:=sm X.outer
def Vis(sc:Scope)(x:Str):Prop:=sc.names.lookup x=some .local\/sc.names.lookup x=some .cell\/sc.names.lookup x=some .free
def Loc(sc:Scope)(x:Str):Prop:=sc.names.lookup x=some .local\/sc.names.lookup x=some .cell
def Look(env:Env)(h:Heap)(m:Str->Option Value)(x:Str)(u:Value):Prop :=
 (env.kindOf x=some .local/\m x=some u)\/((env.kindOf x=some .cell\/env.kindOf x=some .free)/\∃c,env.cells.lookup x=some c/\h.IsCell c (some u))
structure Cx.Ok(X:Cx):Prop where
 mod:Mod X.K X.mg X.base
 kind:X.env.scope.kind=.function
 glob:X.env.globals=mainGlobals
 blt:X.env.builtins=builtinsNs
 above:X.s₀.heap.objs.size<=X.env.locals
 inj:∀x y c,X.env.cells.lookup x=some c->X.env.cells.lookup y=some c->x=y
 has:∀x,(X.env.kindOf x=some .cell\/X.env.kindOf x=some .free)->∃c,X.env.cells.lookup x=some c
 VS:∀x c,X.fn x=true->X.env.cells.lookup x=some c->X.s₀.heap.objs.size<=c
 hd:X.calm=true->X.A.handled=none
 frames:X.A.frames=some X.stack
 Qc:X.stack=X.outer\/(X.stack=X.env::X.outer/\X.env.frame=some X.env.locals)
 YS:∀b∈X.ex,b≠X.env.locals/\∀x c,X.env.cells.lookup x=some c->c≠b
 bs:∀b o,X.base.get? b=some o->X.s₀.heap.get? b=some o/\X.H₀ b=none
 Qy:X.base.objs.size<=X.s₀.heap.objs.size
 HZ:∀b o,X.base.get? b=some o->b∉X.ex
 Ha:∀b∈X.ex,b∉X.fs
 yw:X.s₀.heap.FunFrames X.base X.outer
 VT:∀b∈X.fs,X.H₀ b=none
structure Inv(X:Cx)(ce:List (Addr×Obj))(σ:List (Option V))(H:Hp)(s:Shared):Prop where
 ok:X.Ok
 os:s.os=X.s₀.os
 bare:AllBare s.gens
 base:Un X.fs X.ex X.H₀ H X.s₀.heap s.heap
 loc:∃m,s.heap.Ns X.env.locals m/\∀(i:Nat)(x:Str)(v:V),X.N[i]?=some x->σ[i]?=some (some v)->Vis X.env.scope x->∃u,RelV v u/\Look X.env s.heap m x u
 cell:∀x c,X.env.cells.lookup x=some c->∃v,s.heap.IsCell c v
 free:H X.env.locals=none
 qJ:∀x c,X.env.cells.lookup x=some c->H c=none
 pin:∀p∈X.pn++ce,s.heap.get? p.1=some p.2/\H p.1=none/\p.1≠X.env.locals/\p.1∉X.fs/\∀v,p.2.data≠.cell v
 cK:tY X.prog X.w H s.heap
 len:σ.length=X.N.length
section
variable{X:Cx}{ce:List (Addr×Obj)}{σ:List (Option V)}{H H':Hp}{s:Shared}{h':Heap}
theorem Cx.Ok.aCa(ok:X.Ok){b:Addr}{o:Obj}(e:X.base.get? b=some o):b∉X.fs:=λhb=>by have:=(ok.yw.mem hb).1;rw[e]at this;cases this
theorem Inv.bs(I:Inv X ce σ H s):∀b o,X.base.get? b=some o->s.heap.get? b=some o/\H b=none:=λb o e =>
 ⟨I.base.keep b o (I.ok.bs b o e).1 (I.ok.bs b o e).2 (I.ok.aCa e) (I.ok.HZ b o e),I.base.free b o (I.ok.bs b o e).1 (I.ok.bs b o e).2 (I.ok.HZ b o e)⟩
theorem Inv.bk(I:Inv X ce σ H s):∀b o,X.base.get? b=some o->s.heap.get? b=some o:=λb o e=>(I.bs b o e).1
theorem Inv.mod(I:Inv X ce σ H s):Mod X.K X.mg X.base:=I.ok.mod
theorem Inv.J6(I:Inv X ce σ H s):X.K.In s.heap:=I.ok.mod.Qx.keeps I.bk
theorem Inv.lt(I:Inv X ce σ H s):X.env.locals<s.heap.objs.size:=let⟨_,hn,_⟩:=I.loc;hn.lt
theorem Inv.sz(I:Inv X ce σ H s):X.s₀.heap.objs.size<=s.heap.objs.size:=le_trans I.ok.above (Nat.le_of_lt I.lt)
theorem Inv.aCb(I:Inv X ce σ H s){a:Addr}(h:s.heap.objs.size<=a):a∉X.fs:=λhb=>by obtain⟨_,o,ho,_⟩:=I.ok.yw.mem hb;exact absurd (lt_of_lt_of_le (Heap.lt_size ho) (le_trans I.sz h)) (lt_irrefl _)
theorem Inv.VU(I:Inv X ce σ H s):∀x c,X.env.cells.lookup x=some c->c≠X.env.locals:=λx c e z=>by obtain⟨v,o,ho,hd⟩:=I.cell x c e;obtain⟨m,⟨o',es,ep,NW,Qz,_⟩,_⟩:=I.loc;rw[z,NW]at ho;cases ho;rw[Qz]at hd;cases hd
theorem Inv.yw(I:Inv X ce σ H s):s.heap.FunFrames X.base X.outer:=by
 have all:∀(l:List Env),(∀b∈sm l,b∈X.fs)->X.s₀.heap.FunFrames X.base l->s.heap.FunFrames X.base l:=by
  intro l
  induction l with
  |nil=>intro _ _;trivial
  |cons env r ih =>
   intro hs hl;obtain⟨hk,⟨L,o,hf,hn,ho,hd⟩,hr⟩:=hl;have hL:L∈X.fs:=hs L (by unfold sm;rw[List.filterMap_cons,hf];exact mem_cons_self);obtain⟨sl,e⟩:=I.base.slot L o ho (I.ok.VT L hL) hL λz=>I.ok.Ha L z hL;exact⟨hk,⟨L,_,hf,hn,e,hd⟩,ih (λb hb=>hs b (by unfold sm;rw[List.filterMap_cons,hf];exact mem_cons_of_mem _ hb)) hr⟩
 exact all X.outer (λ_ hb=>hb) I.ok.yw
theorem Inv.stack(I:Inv X ce σ H s):s.heap.FunFrames X.base X.stack:=by
 rcases I.ok.Qc with e|⟨e,hf⟩
 ·rw[e];exact I.yw
 rw[e];obtain⟨m,hn,_⟩:=I.loc;refine .cons (by rw[I.ok.kind];decide) hf hn ?_ I.yw;exact Heap.get?_none_of_le (le_trans I.ok.Qy I.ok.above)
theorem Inv.Hb(I:Inv X ce σ H s):∀b∈sm X.stack,b∈X.env.locals::X.fs:=λb hb=>by
 rcases I.ok.Qc with e|⟨e,hf⟩
 ·rw[e]at hb;exact mem_cons_of_mem _ hb
 rw[e]at hb;unfold sm at hb;rw[List.filterMap_cons,hf]at hb;exact hb
theorem Inv.DW(I:Inv X ce σ H s):∀b∈sm X.stack,H b=none:=λb hb=>by
 rcases mem_cons.mp (I.Hb b hb)with e|hb
 ·rw[e];exact I.free
 obtain⟨_,o,ho,_⟩:=I.ok.yw.mem hb;exact I.base.free b o ho (I.ok.VT b hb) λz=>I.ok.Ha b z hb
theorem Inv.step{g':Array GenState}{t':Nat}{d':Drawn}{ch:List Addr}(I:Inv X ce σ H s)(Qd:∀b∈ch,(b∈X.ex\/X.s₀.heap.objs.size<=b)/\b≠X.env.locals/\(∀x c,X.env.cells.lookup x=some c->c≠b)/\∀p∈X.pn++ce,p.1≠b)(keep:∀b o,b≠X.env.locals->b∉X.fs->b∉ch->s.heap.get? b=some o->H b=none->h'.get? b=some o)(slot:∀b o,b≠X.env.locals->b∈X.fs->b∉ch->s.heap.get? b=some o->H b=none->∃sl,h'.get? b=some { o with slots:=sl })(free:∀b o,b∉ch->s.heap.get? b=some o->H b=none->H' b=none)(there:∀b o,b∉ch->s.heap.get? b=some o->∃o',h'.get? b=some o')(zZ:∀b xs,H b=some (.tup xs)->H' b=some (.tup xs))(yv:∀b o u,H b=some (.NJ o u)->H' b=some (.NJ o u))(za:∀b ps,H b=some (.UM ps)->∃more,H' b=some (.UM (ps++more)))(ns:∀m,s.heap.Ns X.env.locals m->h'.Ns X.env.locals m)(cK:tY X.prog X.w H' h')(hg:AllBare g'):
  Inv X ce σ H' { s with heap:=h',gens:=g',drawn:=d',toks:=t' }:=by
 have neL:∀b o,X.s₀.heap.get? b=some o->b≠X.env.locals:=λb o e=>ne_of_lt (lt_of_lt_of_le (Heap.lt_size e) I.ok.above);have neC:∀b o,X.s₀.heap.get? b=some o->b∉X.ex->b∉ch:=λb o e hx hb=>by
  rcases(Qd b hb).1 with z|z
  ·exact hx z
  exact absurd (lt_of_lt_of_le (Heap.lt_size e) z) (lt_irrefl _)
 have cellK:∀x c,X.env.cells.lookup x=some c->∀v,s.heap.IsCell c v->h'.IsCell c v:=λx c e v ⟨o,ho,hd⟩=>by
  have YT:c∉ch:=λz=>(Qd c z).2.2.1 x c e rfl;by_cases hc:c∈X.fs
  ·obtain⟨sl,q⟩:=slot c o (I.VU x c e) hc YT ho (I.qJ x c e);exact⟨_,q,hd⟩
  exact⟨o,keep c o (I.VU x c e) hc YT ho (I.qJ x c e),hd⟩
 refine⟨I.ok,I.os,hg,⟨λb o e n hb hx=>?_,λb o e n hb hx=>?_,λb o e n hx=>?_,λb o e hx=>?_,λb xs e=>zZ b xs (I.base.zZ b xs e),λb o xs e=>yv b o xs (I.base.yv b o xs e),λb ps e=>?_⟩,?_,λx c e=>?_,?_,λx c e=>?_,λp hp=>?_,cK,I.len⟩
 ·exact keep b o (neL b o e) hb (neC b o e hx) (I.base.keep b o e n hb hx) (I.base.free b o e n hx)
 ·obtain⟨sl,e1⟩:=I.base.slot b o e n hb hx;obtain⟨sl',e2⟩:=slot b _ (neL b o e) hb (neC b o e hx) e1 (I.base.free b o e n hx);exact⟨sl',e2⟩
 ·obtain⟨o',e1⟩:=I.base.there b o e hx;exact free b o' (neC b o e hx) e1 (I.base.free b o e n hx)
 ·obtain⟨o',e1⟩:=I.base.there b o e hx;exact there b o' (neC b o e hx) e1
 ·obtain⟨m1,e1⟩:=I.base.za b ps e;obtain⟨m2,e2⟩:=za b _ e1;exact⟨m1++m2,by rw[e2,Array.append_assoc]⟩
 ·obtain⟨m,hn,hl⟩:=I.loc;refine⟨m,ns m hn,λi x v e1 e2 e3=>?_⟩;obtain⟨u,r,l⟩:=hl i x v e1 e2 e3;refine⟨u,r,?_⟩;rcases l with l|⟨k,c,e,z⟩
  ·exact .inl l
  exact .inr ⟨k,c,e,cellK x c e _ z⟩
 ·obtain⟨v,z⟩:=I.cell x c e;exact⟨v,cellK x c e v z⟩
 ·obtain⟨m,⟨o,_,_,ho,_⟩,_⟩:=I.loc;exact free _ o (λz=>(Qd _ z).2.1 rfl) ho I.free
 ·obtain⟨v,o,ho,hd⟩:=I.cell x c e;exact free c o (λz=>(Qd c z).2.2.1 x c e rfl) ho (I.qJ x c e)
 obtain⟨e,n,ne,nf,d⟩:=I.pin p hp;have YT:p.1∉ch:=λz=>(Qd p.1 z).2.2.2 p hp rfl;exact⟨keep p.1 p.2 ne nf YT e n,free p.1 p.2 YT e n,ne,nf,d⟩
theorem Inv.un{t':Nat}(I:Inv X ce σ H s)(u:Un X.fs [] H H' s.heap h')(cK:tY X.prog X.w H' h'):Inv X ce σ H' { s with heap:=h',toks:=t' }:=by
 obtain⟨m,⟨o,es,ep,ho,r⟩,_⟩:=id I.loc;obtain⟨sl,hL⟩:=u.any ho I.free (by simp);exact I.step (g':=s.gens) (d':=s.drawn) (ch:=[]) (λ_ z=>nomatch z) (λb o _ hb _ e n=>u.keep b o e n hb (by simp)) (λb o _ hb _ e n=>u.slot b o e n hb (by simp)) (λb o _ e n=>u.free b o e n (by simp)) (λb o _ e=>u.there b o e (by simp)) u.zZ u.yv u.za (λm' hm=>by obtain⟨o',Q0,ep',NW,r'⟩:=hm;rw[ho]at NW;cases NW;exact⟨_,Q0,ep',hL,r'⟩) cK I.bare
theorem Inv.call{g':Array GenState}{t':Nat}{d':Drawn}{ch:List Addr}(I:Inv X ce σ H s)(u:Un (sm X.stack) ch H H' s.heap h')(cK:tY X.prog X.w H' h')(hg:AllBare g')(Qd:∀b∈ch,(b∈X.ex\/X.s₀.heap.objs.size<=b)/\b≠X.env.locals/\(∀x c,X.env.cells.lookup x=some c->c≠b)/\∀p∈X.pn++ce,p.1≠b):
  Inv X ce σ H' { s with heap:=h',gens:=g',drawn:=d',toks:=t' }:=by
 obtain⟨m,⟨o,es,ep,ho,r⟩,_⟩:=id I.loc;obtain⟨sl,hL⟩:=u.any ho I.free λz=>(Qd _ z).2.1 rfl;exact I.step (ch:=ch) Qd (λb o hL hb hc e n=>u.keep b o e n (λz=>(mem_cons.mp (I.Hb b z)).elim hL hb) hc) (λb o _ _ hc e n=>u.any e n hc) (λb o hc e n=>u.free b o e n hc) (λb o hc e=>u.there b o e hc) u.zZ u.yv u.za (λm' hm=>by obtain⟨o',Q0,ep',NW,r'⟩:=hm;rw[ho]at NW;cases NW;exact⟨_,Q0,ep',hL,r'⟩) cK hg
theorem Inv.turned{t':Nat}{it:Addr}(I:Inv X ce σ H s)(k:∀b o,b≠it->s.heap.get? b=some o->h'.get? b=some o)(hn:H it=none)(hL:it≠X.env.locals)(h1:it∈X.ex\/X.s₀.heap.objs.size<=it)(h2:∀x c,X.env.cells.lookup x=some c->c≠it)(h3:∀p∈X.pn++ce,p.1≠it):Inv X ce σ H { s with heap:=h',toks:=t' }:=by
 have nit:∀b u,H b=some u->b≠it:=λb u e z=>by rw[z,hn]at e;cases e
 refine I.step (g':=s.gens) (d':=s.drawn) (ch:=[it]) (λb hb=>?_) (λb o _ _ hc e _=>k b o (λz=>hc (by simp[z])) e) (λb o _ _ hc e _=>⟨o.slots,k b o (λz=>hc (by simp[z])) e⟩) (λ_ _ _ _ n=>n)
  (λb o hc e=>⟨o,k b o (λz=>hc (by simp[z])) e⟩) (λ_ _ e=>e) (λ_ _ _ e=>e) (λb ps e=>⟨#[],by rw[e];simp⟩) (λm hm=>?_) (λb u e=>?_) I.bare
 ·have e:b=it:=by simpa using hb
  subst e;exact⟨h1,hL,h2,h3⟩
 ·obtain⟨o,es,ep,ho,r⟩:=hm;exact⟨o,es,ep,k _ o (Ne.symm hL) ho,r⟩
 refine(I.cK b u e).FI (λc v hc q=>k c v ?_ q) (λ_ q=>q) λ_ _ q=>q;rcases hc with z|z
 ·rw[z];exact nit b u e
 exact nit c _ z
theorem Inv.tok(I:Inv X ce σ H s)(t:Nat):Inv X ce σ H { s with toks:=t }:=I.un (h':=s.heap) (t':=t) Un.refl I.cK
theorem Inv.kept{t':Nat}(I:Inv X ce σ H s)(k:∀b u,s.heap.get? b=some u->h'.get? b=some u):Inv X ce σ H { s with heap:=h',toks:=t' }:=I.un (Un.kept k) (I.cK.kept k)
theorem Inv.laid{a:Addr}{o:HO}{t':Nat}(I:Inv X ce σ H s)(k:∀b u,s.heap.get? b=some u->h'.get? b=some u)(hp:s.heap.objs.size<=a)(new:cZ X.prog X.w (dl H a o) h' a o):
  Inv X ce σ (dl H a o) { s with heap:=h',toks:=t' }:=I.un (Un.laid k hp (I.cK.fresh hp)) (I.cK.laid k hp new)
theorem Inv.write{x e:Addr}{o:HO}{t':Nat}(I:Inv X ce σ H s)(mu:YQ (H x))(he:e=x\/H e=some (.own x))(k:∀b u,b≠e->s.heap.get? b=some u->h'.get? b=some u)(Xk:∃u,h'.get? e=some u)(new:cZ X.prog X.w (dl H x o) h' x o):Inv X ce σ (dl H x o) { s with heap:=h',toks:=t' }:=I.un (Un.write mu he k Xk) (I.cK.write mu he k Xk new)
theorem Inv.J7{UP:List (Addr×Obj)}(I:Inv X ce σ H s)(h:∀p∈UP,s.heap.get? p.1=some p.2/\H p.1=none/\p.1≠X.env.locals/\p.1∉X.fs/\∀v,p.2.data≠.cell v):Inv X UP σ H s :=
 ⟨I.ok,I.os,I.bare,I.base,I.loc,I.cell,I.free,I.qJ,λp hp=>(mem_append.mp hp).elim (λz=>I.pin p (mem_append_left _ z)) (h p),I.cK,I.len⟩
theorem FJ{N:List Str}(hN:N.Nodup){i j:Nat}{x:Str}(a:N[i]?=some x)(b:N[j]?=some x):i=j:=by obtain⟨h1,e1⟩:=List.getElem?_eq_some_iff.mp a;obtain⟨h2,e2⟩:=List.getElem?_eq_some_iff.mp b;exact(List.getElem_inj hN).mp (e1.trans e2.symm)
theorem Ci{M:Model}{A:Around}{E:Value->Shared->Prop}{i:Nat}{x:Str}{v:V}{u:Value}{Q:Unit->Shared->Prop}(I:Inv X ce σ H s)(hN:X.N.Nodup)(hi:X.N[i]?=some x)(hx:Loc X.env.scope x)(r:RelV v u)(h:∀s',Inv X ce (σ.set i (some v)) H s'->(∃a,Heap.SameBut a s.heap s'.heap/\(a=X.env.locals\/X.env.cells.lookup x=some a))->Q () s')(hf:X.fn x=true\/X.env.scope.names.lookup x=some .local:=by first|exact .inl rfl|exact .inr rfl|assumption):wpAny M A (storeName X.env x u) Q E s:=by
 obtain⟨m,hn,hl⟩:=id I.loc;have aCe:(X.env.scope.kind==.class||(X.env.scope.kind==.module&&X.env.locals != X.env.globals))=false:=by rw[I.ok.kind];rfl
 have hiσ:i<σ.length:=by rw[I.len];exact(List.getElem?_eq_some_iff.mp hi).1
 have VU:=I.VU;have tracked:∀{a:Addr}{h':Heap},(∃o,s.heap.get? a=some o/\H a=none)->Heap.SameBut a s.heap h'->tY X.prog X.w H h':=λ{a h'} ha hs b ob e=>by
  obtain⟨_,_,UQ⟩:=ha;refine(I.cK b ob e).FI (λc w' hc q=>(hs.2 c ?_).trans q) (λ_ q=>q) λ_ _ q=>q;rintro rfl;rcases hc with rfl|hc
  ·rw[UQ]at e;cases e
  rw[UQ]at hc;cases hc
 rcases hx with hk|hk
 ·refine wpAny_storeName_local hk hn (λh' VW hs=>?_) aCe;obtain⟨oL,_,_,hoL,_⟩:=id hn;refine h _ ⟨I.ok,I.os,I.bare,⟨λb o e n hb hx=>?_,λb o e n hb hx=>?_,I.base.free,λb o e hx=>?_,I.base.zZ,I.base.yv,I.base.za⟩,⟨_,VW,λj y v' e1 e2 e3=>?_⟩,λy c e=>?_,I.free,I.qJ,λp hp=>?_,tracked ⟨oL,hoL,I.free⟩ hs,by simpa using I.len⟩ ⟨_,hs,.inl rfl⟩
  ·exact(hs.2 b (ne_of_lt (lt_of_lt_of_le (Heap.lt_size e) I.ok.above))).trans (I.base.keep b o e n hb hx)
  ·obtain⟨sl,e1⟩:=I.base.slot b o e n hb hx;exact⟨sl,(hs.2 b (ne_of_lt (lt_of_lt_of_le (Heap.lt_size e) I.ok.above))).trans e1⟩
  ·obtain⟨o',e1⟩:=I.base.there b o e hx;exact⟨o',(hs.2 b (ne_of_lt (lt_of_lt_of_le (Heap.lt_size e) I.ok.above))).trans e1⟩
  ·by_cases hj:j=i
   ·subst hj;rw[hi]at e1;cases e1;rw[List.getElem?_set_self hiσ]at e2;cases e2;exact⟨u,r,.inl ⟨hk,by simp⟩⟩
   rw[List.getElem?_set_ne (Ne.symm hj)]at e2;obtain⟨u',r',q⟩:=hl j y v' e1 e2 e3;refine⟨u',r',?_⟩;rcases q with⟨k,e⟩|⟨k,c,e,z⟩
   ·refine .inl ⟨k,?_⟩;have:y≠x:=λe=>hj (FJ hN e1 (e▸hi));simp[this,e]
   exact .inr ⟨k,c,e,z.sameBut hs (VU y c e)⟩
  ·obtain⟨w',z⟩:=I.cell y c e;exact⟨w',z.sameBut hs (VU y c e)⟩
  obtain⟨e,n,ne,nf,d⟩:=I.pin p hp;exact⟨(hs.2 p.1 ne).trans e,n,ne,nf,d⟩
 have Xl:X.fn x=true:=by
  rcases hf with z|z
  ·exact z
  rw[z]at hk;cases hk
 obtain⟨c,hc⟩:=I.ok.has x (.inl hk);obtain⟨w',z⟩:=I.cell x c hc;refine wpAny_storeName_cell I.ok.kind hk hc z (λh' hc' hs=>?_);obtain⟨oc,hoc,aCf⟩:=id z;refine h { s with heap:=h' } ⟨I.ok,I.os,I.bare,⟨λb o e n hb hx=>?_,λb o e n hb hx=>?_,I.base.free,λb o e hx=>?_,I.base.zZ,I.base.yv,I.base.za⟩,⟨m,hn.sameBut hs (Ne.symm (VU x c hc)),λj y v' e1 e2 e3=>?_⟩,λy c' e=>?_,I.free,I.qJ,λp hp=>?_,tracked ⟨oc,hoc,I.qJ x c hc⟩ hs,by simpa using I.len⟩ ⟨c,hs,.inr hc⟩
 ·exact(hs.2 b (ne_of_lt (lt_of_lt_of_le (Heap.lt_size e) (I.ok.VS x c Xl hc)))).trans (I.base.keep b o e n hb hx)
 ·obtain⟨sl,e1⟩:=I.base.slot b o e n hb hx;exact⟨sl,(hs.2 b (ne_of_lt (lt_of_lt_of_le (Heap.lt_size e) (I.ok.VS x c Xl hc)))).trans e1⟩
 ·obtain⟨o',e1⟩:=I.base.there b o e hx;exact⟨o',(hs.2 b (ne_of_lt (lt_of_lt_of_le (Heap.lt_size e) (I.ok.VS x c Xl hc)))).trans e1⟩
 ·by_cases hj:j=i
  ·subst hj;rw[hi]at e1;cases e1;rw[List.getElem?_set_self hiσ]at e2;cases e2;exact⟨u,r,.inr ⟨.inl hk,c,hc,hc'⟩⟩
  rw[List.getElem?_set_ne (Ne.symm hj)]at e2;obtain⟨u',r',q⟩:=hl j y v' e1 e2 e3;refine⟨u',r',?_⟩;rcases q with q|⟨k,c',e,z'⟩
  ·exact .inl q
  refine .inr ⟨k,c',e,z'.sameBut hs ?_⟩;rintro rfl;exact hj (FJ hN e1 (I.ok.inj _ _ _ e hc▸hi))
 ·by_cases NL:c'=c
  ·subst NL;exact⟨_,hc'⟩
  obtain⟨w2,z2⟩:=I.cell y c' e;exact⟨w2,z2.sameBut hs NL⟩
 obtain⟨e,n,ne,nf,d⟩:=I.pin p hp;refine⟨(hs.2 p.1 ?_).trans e,n,ne,nf,d⟩;intro q;rw[q,hoc]at e;have q':oc=p.2:=Option.some.inj e;exact d w' (by rw[<-q'];exact aCf)
theorem FK{M:Model}{A:Around}{E:Value->Shared->Prop}{i:Nat}{x:Str}{v:V}{u:Value}{Q:Unit->Shared->Prop}(I:Inv X ce σ H s)(hN:X.N.Nodup)(hi:X.N[i]?=some x)(hx:Loc X.env.scope x)(r:RelV v u)(h:∀s',Inv X ce (σ.set i (some v)) H s'->Q () s')(hf:X.fn x=true\/X.env.scope.names.lookup x=some .local:=by first|exact .inl rfl|exact .inr rfl|assumption):wpAny M A (storeName X.env x u) Q E s :=
 Ci I hN hi hx r (λs' I' _=>h s' I') hf
theorem Inv.NX{s':Shared}{ch:List Addr}(I:Inv X ce σ H s)(ho:s'.os=s.os)(u:Un (sm X.stack) ch H H' s.heap s'.heap)(cK:tY X.prog X.w H' s'.heap)(hg:AllBare s'.gens)(Qd:∀b∈ch,(b∈X.ex\/X.s₀.heap.objs.size<=b)/\b≠X.env.locals/\(∀x c,X.env.cells.lookup x=some c->c≠b)/\∀p∈X.pn++ce,p.1≠b):Inv X ce σ H' s':=by obtain⟨h',g',d',t',o'⟩:=s';have e:o'=s.os:=ho;subst e;exact I.call (g':=g') (t':=t') (d':=d') u cK hg Qd
end
abbrev XK:=Value->Option Addr->Hp->Prop
abbrev St:=List (Option V)
abbrev VK:=V->Hp->Prop
abbrev TE:=St->Hp->VK->Prop
variable{X:Cx}{e b c tg l iter:Expr}{t ta tb te tl:TE}{A:Around}{E Q:Value->Shared->Prop}{s:Shared}{i k n:Nat}{x name m qual:Str}{pos pos' p apos:Pos}{ce:List (Addr×Obj)}{σ:St}{H:Hp}{u:Value}{v:V}{a C dx:Addr}{xs vs BX:List V}{tc:TT}{es:List Expr}{o:Option Value}{body:List Stmt}{w:World}{lo:Int}{fp:List Addr}{h base:Heap}{pl:Sem Bool}{R:Result->Shared->Prop}{f:Value->Value->Sem Value}{op Vg:CmpOp}{r:List V->Hp->VK->Prop}{g:List Value->List Value->List Value}{az us ds:List Value}{mA mg:Str->Option Value}{prog:Program}{expr:Bool}{kw:List (Str×Value)}{fs:List (Str×V)}{rd:V->V->Hp->VK->Prop}{outer:List Env}{fd:FuncData}{ps N:List Str}{kws:List Keyword}{nm:Option Str}{gV:List V->List V->List V}{scope:Scope}{params:Arguments}{Le:Array (Option Value)}
abbrev TT:=St->Hp->(Bool->Hp->Prop)->Prop
abbrev TA:=St->Hp->(List V->Hp->Prop)->Prop
structure Ends where
 nx:St->Hp->Prop
 rt:VK
 bk:St->Hp->Prop:=λ_ _=>False
 ct:St->Hp->Prop:=λ_ _=>False
abbrev TS:=Ends->St->Hp->Prop
def EP(X:Cx)(ce:List (Addr×Obj))(σ:St)(Q:VK)(u:Value)(s':Shared):Prop:=∃v H',Inv X ce σ H' s'/\RelV v u/\Q v H'
def TP(X:Cx)(ce:List (Addr×Obj))(σ:St)(Q:Bool->Hp->Prop)(b:Bool)(s':Shared):Prop:=∃H',Inv X ce σ H' s'/\Q b H'
def AP(X:Cx)(ce:List (Addr×Obj))(σ:St)(Q:List V->Hp->Prop)(us:List Value)(s':Shared):Prop:=∃vs H',Inv X ce σ H' s'/\bJ vs us/\Q vs H'
def SP(X:Cx)(ce:List (Addr×Obj))(D:Ends)(f:Flow)(s':Shared):Prop :=
 match f with
 |.next=>∃σ' H',Inv X ce σ' H' s'/\D.nx σ' H'
 |.brk=>∃σ' H',Inv X ce σ' H' s'/\D.bk σ' H'
 |.cont=>∃σ' H',Inv X ce σ' H' s'/\D.ct σ' H'
 |.ret u=>∃v σ' H',Inv X ce σ' H' s'/\RelV v u/\D.rt v H'
def PE(X:Cx)(e:Expr)(t:TE):Prop :=
 ∀(ce:List (Addr×Obj))(s:Shared)(σ:St)(H:Hp)(Q:VK),Inv X ce σ H s->t σ H Q->wpAny (model X.prog X.w) X.A (eval e X.env) (EP X ce σ Q) X.xe s
def PT(X:Cx)(e:Expr)(t:TT):Prop :=
 ∀(ce:List (Addr×Obj))(s:Shared)(σ:St)(H:Hp)(Q:Bool->Hp->Prop),Inv X ce σ H s->t σ H Q->wpAny (model X.prog X.w) X.A (isTrue e X.env (eval e X.env)) (TP X ce σ Q) X.xe s
def PW(X:Cx)(e:Expr)(t:TT):Prop :=
 ∀(whole:Sem Value)(ce:List (Addr×Obj))(s:Shared)(σ:St)(H:Hp)(Q:Bool->Hp->Prop),Inv X ce σ H s->t σ H Q->wpAny (model X.prog X.w) X.A (isTrue e X.env whole) (TP X ce σ Q) X.xe s
theorem PW.pt{t:TT}(h:PW X e t):PT X e t:=h _
def PA(X:Cx)(es:List Expr)(t:TA):Prop :=
 ∀(pos:Pos)(ce:List (Addr×Obj))(s:Shared)(σ:St)(H:Hp)(Q:List V->Hp->Prop),Inv X ce σ H s->t σ H Q->wpAny (model X.prog X.w) X.A (spliced (backTo pos (starEach es X.env))) (AP X ce σ Q) X.xe s
def PS(X:Cx)(st:Stmt)(t:TS):Prop :=
 ∀(ce:List (Addr×Obj))(s:Shared)(σ:St)(H:Hp)(D:Ends),Inv X ce σ H s->t D σ H->wpAny (model X.prog X.w) X.A (exec st X.env) (SP X ce D) X.xe s
def J8(X:Cx)(st:List Stmt)(t:TS):Prop :=
 ∀(ce:List (Addr×Obj))(s:Shared)(σ:St)(H:Hp)(D:Ends),Inv X ce σ H s->t D σ H->wpAny (model X.prog X.w) X.A (execs st X.env) (SP X ce D) X.xe s
theorem cC{α:Type}{t:Sem α}{Q Q':α->Shared->Prop}{M:Model}(h:wpAny M A t Q E s)(hQ:∀a s,Q a s->Q' a s):wpAny M A t Q' E s:=wpAny_mono h hQ λ_ _ x=>x
section
def qf(i:Nat):TE:=λσ H Q=>∃v,σ[i]?=some (some v)/\Q v H
def tC(v:V):TE:=λ_ H Q=>Q v H
theorem VX(hN:X.N[i]?=some x)(hv:Vis X.env.scope x)(hd:(x==("__debug__":Str))=false:=by decide)(HU:(x==("__classdict__":Str))=false:=by decide):PE X (.Name x pos) (qf i):=by
 intro ce s σ H Q I h;obtain⟨v,e,h⟩:=h;obtain⟨m,hn,hl⟩:=I.loc;obtain⟨u,r,l⟩:=hl i x v hN e hv;have fin:EP X ce σ Q u s:=⟨v,H,I,r,h⟩;rcases l with⟨hk,hm⟩|⟨hk,c,hc,J9⟩
 ·exact wpAny_Name (wpAny_loadName_local I.ok.kind hk hn hm fin) hd
 rcases hk with hk|hk
 ·exact wpAny_Name (wpAny_loadName_cell I.ok.kind hk hc J9 fin) hd
 exact wpAny_Name (wpAny_loadName_free I.ok.kind hk hc J9 fin HU) hd
theorem aH{i j pos}:PE X (.Constant (.int i) j pos) (tC (.int i)):=λ_ _ _ H _ I h=>wpAny_Constant_int ⟨.int i,H,I.tok _,⟨_,rfl⟩,h⟩
theorem d9{b j pos}:PE X (.Constant (.bool b) j pos) (tC (.bl b)):=λ_ _ _ H _ I h=>Constant_bool ⟨.bl b,H,I,rfl,h⟩
theorem eM{j pos}:PE X (.Constant .none j pos) (tC .bw):=λ_ _ _ H _ I h=>Constant_none ⟨.bw,H,I,rfl,h⟩
theorem aU{x j pos}:PE X (.Constant (.str x) j pos) (tC (.str x)):=λ_ _ _ H _ I h=>Calls.Constant_str ⟨.str x,H,I.tok _,⟨_,rfl⟩,h⟩
def Gl(X:Cx)(x:Str):Prop:=X.env.kindOf x=some .globalImplicit
theorem zL(I:Inv X ce σ H s)(hg:Gl X x)(hm:X.mg x=some u)(h:Q u s)(hd:(x==("__debug__":Str))=false:=by decide):wpAny (model X.prog X.w) X.A (eval (.Name x pos) X.env) Q E s :=
 Calls.Name_function_global I.ok.kind hg (Calls.loadGlobal_global (by rw[I.ok.glob];exact I.mod.glob.keeps I.bk) hm h) hd
theorem nu(I:Inv X ce σ H s)(hg:Gl X x)(hm:X.mg x=none)(hv:bootBuiltins x=some u)(h:Q u s)(hn:x≠"__name__":=by decide)(hd:(x==("__debug__":Str))=false:=by decide):wpAny (model X.prog X.w) X.A (eval (.Name x pos) X.env) Q E s:=by obtain⟨mb,h1,h2⟩:=I.mod.blt;exact Calls.Name_function_global I.ok.kind hg (Calls.loadGlobal_builtin (by rw[I.ok.glob];exact I.mod.glob.keeps I.bk) hm (by rw[I.ok.blt];exact h1.keeps I.bk) ((h2 x hn).trans hv) h) hd
theorem KA(hg:Gl X x)(hm:X.mg x=some u)(r:RelV v u)(hd:(x==("__debug__":Str))=false:=by decide):PE X (.Name x pos) (tC v) :=
 λ_ _ _ H _ I h=>zL I hg hm ⟨v,H,I,r,h⟩ hd
variable{a:Expr}
def tB(t:TE):TT:=λσ H Q=>t σ H λx H1=>∃c,x=.bl c/\Q c H1
theorem jJ(h:PE X e t)(he:∀whole,isTrue e X.env whole=(do let v <- whole;standAt e.pos;holding [v] (truthy v)):=by intro _;rfl):PT X e (tB t):=by intro ce s σ H Q I hw;refine isTrue_plain (cC (h ce s σ H _ I hw) λv s1 ⟨x,H1,I1,r1,q1⟩=>?_) (he _);obtain⟨d,rfl,q⟩:=q1;cases r1;exact wpAny_truthy_bool ⟨H1,I1,q⟩
variable{tA YU:TT}{rest:List Expr}
def YV(t u:TT):TT:=λσ H Q=>t σ H λc H1=>if c=true then u σ H1 Q else Q false H1
def tOr(t u:TT):TT:=λσ H Q=>t σ H λc H1=>if c=true then Q true H1 else u σ H1 Q
def aCg(t:TT):TT:=λσ H Q=>t σ H λc H1=>Q (!c) H1
theorem lP(ha:PT X a tA):PW X (.BoolOp .And [a] pos) tA:=by
 intro wh ce s σ H Q I h;refine isTrue_and (cC (ha ce s σ H Q I h) λc s1 e=>?_);cases c with
 |true=>exact isTrue_and_nil e
 |false=>exact e
theorem uK(ha:PT X a tA):PW X (.BoolOp .Or [a] pos) tA:=by
 intro wh ce s σ H Q I h;refine isTrue_or (cC (ha ce s σ H Q I h) λc s1 e=>?_);cases c with
 |false=>exact isTrue_or_nil e
 |true=>exact e
theorem nv(ha:PT X a tA)(hb:PW X (.BoolOp .And (b::rest) pos) YU):PW X (.BoolOp .And (a::b::rest) pos) (YV tA YU):=by
 intro wh ce s σ H Q I h;refine isTrue_and (cC (ha ce s σ H _ I h) λc s1 ⟨H1,I1,q1⟩=>?_);cases c with
 |true=>exact hb wh ce s1 σ H1 Q I1 q1
 |false=>exact⟨H1,I1,q1⟩
theorem zb(ha:PT X a tA)(hb:PW X (.BoolOp .Or (b::rest) pos) YU):PW X (.BoolOp .Or (a::b::rest) pos) (tOr tA YU):=by
 intro wh ce s σ H Q I h;refine isTrue_or (cC (ha ce s σ H _ I h) λc s1 ⟨H1,I1,q1⟩=>?_);cases c with
 |true=>exact⟨H1,I1,q1⟩
 |false=>exact hb wh ce s1 σ H1 Q I1 q1
theorem fh(ha:PT X a tA):PT X (.UnaryOp .Not a pos) (aCg tA):=by intro ce s σ H Q I h;exact isTrue_not (ha ce s σ H (λc H1=>Q (!c) H1) I h)
def YW(ta tb:TE):TE:=λσ H Q=>ta σ H λx H1=>∃c,x=.bl c/\if c=true then tb σ H1 Q else Q (.bl false) H1
def aCh(ta tb:TE):TE:=λσ H Q=>ta σ H λx H1=>∃c,x=.bl c/\if c=true then Q (.bl true) H1 else tb σ H1 Q
def YX(ta:TE):TE:=λσ H Q=>ta σ H λx H1=>∃c,x=.bl c/\Q (.bl (!c)) H1
theorem xA{op}(h:PE X a t):PE X (.BoolOp op [a] pos) t:=λce s σ H Q I hw=>BoolOp_one (h ce s σ H Q I hw)
theorem zc(ha:PE X a ta)(hb:PE X (.BoolOp .And (b::rest) pos) tb):PE X (.BoolOp .And (a::b::rest) pos) (YW ta tb):=by
 intro ce s σ H Q I h;refine BoolOp_and (cC (ha ce s σ H _ I h) λv s1 ⟨x,H1,I1,r1,q1⟩=>?_);obtain⟨c,rfl,q1⟩:=q1;cases r1;refine wpAny_truthy_bool ?_;cases c with
 |true=>exact hb ce s1 σ H1 Q I1 q1
 |false=>exact⟨.bl false,H1,I1,rfl,q1⟩
theorem YY(ha:PE X a ta)(hb:PE X (.BoolOp .Or (b::rest) pos) tb):PE X (.BoolOp .Or (a::b::rest) pos) (aCh ta tb):=by
 intro ce s σ H Q I h;refine BoolOp_or (cC (ha ce s σ H _ I h) λv s1 ⟨x,H1,I1,r1,q1⟩=>?_);obtain⟨c,rfl,q1⟩:=q1;cases r1;refine wpAny_truthy_bool ?_;cases c with
 |false=>exact hb ce s1 σ H1 Q I1 q1
 |true=>exact⟨.bl true,H1,I1,rfl,q1⟩
theorem NY(ha:PE X a ta):PE X (.UnaryOp .Not a pos) (YX ta):=by intro ce s σ H Q I h;refine UnaryOp_ (cC (ha ce s σ H _ I h) λv s1 ⟨x,H1,I1,r1,q1⟩=>?_);obtain⟨c,rfl,q1⟩:=q1;cases r1;exact not_of (wpAny_truthy_bool ⟨.bl (!c),H1,I1,rfl,q1⟩)
def tIf(t:TT)(ta tb:TE):TE:=λσ H Q=>t σ H λc H1=>if c=true then ta σ H1 Q else tb σ H1 Q
theorem qg(hc:PT X c tA)(ha:PE X a ta)(hb:PE X b tb):PE X (.IfExp c a b pos) (tIf tA ta tb):=by
 intro ce s σ H Q I h;refine wpAny_IfExp (cC (hc ce s σ H _ I h) λd s1 ⟨H1,I1,q1⟩=>?_);cases d with
 |true=>exact ha ce s1 σ H1 Q I1 q1
 |false=>exact hb ce s1 σ H1 Q I1 q1
end
def ae(K:W.Frag)(H:Hp)(a:Addr)(xs:List V):Prop :=
 Rd H a (.lst xs) \/
  ∃(o:Obj)(az:Array Value)(n:Nat),K.lookup a=some o/\o.cls=.type "list"/\o.dict=none/\o.data=.seq az n/\az.size<=sizeLine/\bJ xs az.toList
def cT(K:W.Frag)(H:Hp)(a:Addr)(xs:List V):Prop :=
 Rd H a (.tup xs) \/
  ∃(o:Obj)(az:Array Value)(n:Nat),K.lookup a=some o/\o.cls=.type "tuple"/\o.data=.seq az n/\az.size<=sizeLine/\bJ xs az.toList
def aCi:Value->Option V
 |.none=>some .bw
 |.bool b=>some (.bl b)
 |.int i _=>some (.int i)
 |.str x _=>some (.str x)
 |.bytes b _=>some (.J5 b)
 |.float b _=>some (.flt b)
 |.ref a=>some (.ref a)
 |.type n=>some (.ty n)
 |_=>none
theorem RelV.abs{x:V}(r:RelV x u):aCi u=some x:=by
 cases x with
 |bw=>cases r;rfl
 |bl _=>cases r;rfl
 |int _=>obtain⟨t,rfl⟩:=r;rfl
 |str _=>obtain⟨t,rfl⟩:=r;rfl
 |J5 _=>obtain⟨t,rfl⟩:=r;rfl
 |flt _=>obtain⟨t,rfl⟩:=r;rfl
 |ref _=>cases r;rfl
 |ty _=>cases r;rfl
theorem RelV.inj{x y:V}{u:Value}(r:RelV x u)(q:RelV y u):x=y:=Option.some.inj (r.abs.symm.trans q.abs)
theorem bJ.inj:∀{xs ys:List V}{us:List Value},bJ xs us->bJ ys us->xs=ys
 |_,_,_,.nil,.nil=>rfl
 |_,_,_,.cons r t,.cons r' t'=>by rw[r.inj r',bJ.inj t t']
section
variable{ys:List V}
theorem ae.of{K:W.Frag}(h:H a=some (.lst xs)):ae K H a xs:=.inl (.inl h)
theorem cT.of{K:W.Frag}(h:H a=some (.tup xs)):cT K H a xs:=.inl (.inl h)
theorem Inv.list(I:Inv X ce σ H s)(h:ae X.K H a xs):∃az:List Value,bJ xs az/\PlainL s.heap a az.toArray/\xs.length<=sizeLine:=by
 rcases h with h|⟨o,az,n,hk,hc,hd,hs,hz,r⟩
 ·obtain⟨z,az,n,r,e⟩:=h.ok I.cK;exact⟨az,r,⟨_,n,e,rfl,rfl,rfl⟩,z⟩
 refine⟨az.toList,r,⟨o,n,I.J6 a o hk,hc,hd,by simpa using hs⟩,?_⟩;have e:=r.length;simp only[Array.length_toList]at e;lia
theorem Inv.tuple(I:Inv X ce σ H s)(h:cT X.K H a xs):∃az:List Value,bJ xs az/\IsTup s.heap a az.toArray/\xs.length<=sizeLine:=by
 rcases h with h|⟨o,az,n,hk,hc,hs,hz,r⟩
 ·obtain⟨z,az,r,p⟩:=h.ok I.cK;exact⟨az,r,p,z⟩
 refine⟨az.toList,r,⟨o,I.J6 a o hk,hc,n,by simpa using hs⟩,?_⟩;have e:=r.length;simp only[Array.length_toList]at e;lia
theorem Inv.vm(I:Inv X ce σ H s)(h:ae X.K H a xs)(h':ae X.K H a ys):xs=ys:=by
 obtain⟨az,r,⟨o,n,e,_,_,d⟩,_⟩:=I.list h;obtain⟨its',r',⟨o',n',e',_,_,d'⟩,_⟩:=I.list h';rw[e]at e';cases e';rw[d]at d';injection d' with d1 _;have:az=its':=by simpa using congrArg Array.toList d1
 subst this;exact r.inj r'
theorem Inv.Cj(I:Inv X ce σ H s)(h:cT X.K H a xs)(h':cT X.K H a ys):xs=ys:=by
 obtain⟨az,r,⟨o,e,_,n,d⟩,_⟩:=I.tuple h;obtain⟨its',r',⟨o',e',_,n',d'⟩,_⟩:=I.tuple h';rw[e]at e';cases e';rw[d]at d';injection d' with d1 _;have:az=its':=by simpa using congrArg Array.toList d1
 subst this;exact r.inj r'
end
abbrev Cx.BZ(X:Cx)(E:Value->Shared->Prop):Cx:={ X with xe:=E }
abbrev Cx.Ck(X:Cx):Cx:=X.BZ λ_ _=>False
theorem Cx.Ok.BZ{X:Cx}(ok:X.Ok)(E:Value->Shared->Prop):(X.BZ E).Ok :=
 ⟨ok.mod,ok.kind,ok.glob,ok.blt,ok.above,ok.inj,ok.has,ok.VS,ok.hd,ok.frames,ok.Qc,ok.YS,ok.bs,ok.Qy,ok.HZ,ok.Ha,ok.yw,ok.VT⟩
theorem Cx.Ok.qh(ok:(X.BZ E).Ok):X.Ok :=
 ⟨ok.mod,ok.kind,ok.glob,ok.blt,ok.above,ok.inj,ok.has,ok.VS,ok.hd,ok.frames,ok.Qc,ok.YS,ok.bs,ok.Qy,ok.HZ,ok.Ha,ok.yw,ok.VT⟩
section
theorem Inv.BZ(I:Inv X ce σ H s)(E:Value->Shared->Prop):Inv (X.BZ E) ce σ H s:=⟨I.ok.BZ E,I.os,I.bare,I.base,I.loc,I.cell,I.free,I.qJ,I.pin,I.cK,I.len⟩
theorem Inv.qh(I:Inv (X.BZ E) ce σ H s):Inv X ce σ H s:=⟨I.ok.qh,I.os,I.bare,I.base,I.loc,I.cell,I.free,I.qJ,I.pin,I.cK,I.len⟩
theorem SP.qh{D:Ends}{f:Flow}{s':Shared}(h:SP (X.BZ E) ce D f s'):SP X ce D f s':=by
 cases f with
 |next=>obtain⟨σ',H',I,q⟩:=h;exact⟨σ',H',I.qh,q⟩
 |brk=>obtain⟨σ',H',I,q⟩:=h;exact⟨σ',H',I.qh,q⟩
 |cont=>obtain⟨σ',H',I,q⟩:=h;exact⟨σ',H',I.qh,q⟩
 |ret u=>obtain⟨v,σ',H',I,r,q⟩:=h;exact⟨v,σ',H',I.qh,r,q⟩
end
section
variable{st:Stmt}{rest:List Stmt}{t u:TS}
def UR:TS:=λD σ H=>D.nx σ H
def Hc(t u:TS):TS:=λD σ H=>t { D with nx:=u D } σ H
theorem aj:J8 X [] UR:=λ_ _ σ H _ I h=>wpAny_execs_nil ⟨σ,H,I,h⟩
theorem aC(h1:PS X st t)(h2:J8 X rest u):J8 X (st::rest) (Hc t u):=by
 intro ce s σ H D I h;refine wpAny_execs_cons (cC (h1 ce s σ H { D with nx:=u D } I h) λf s1 q=>?_)
 cases f with
 |next =>
  obtain⟨σ',H',I',q⟩:=q;exact h2 ce s1 σ' H' D I' q
 |ret v=>exact q
 |brk=>exact q
 |cont=>exact q
theorem aF(h1:PS X st t):J8 X [st] t:=by
 intro ce s σ H D I h;refine wpAny_execs_cons (cC (h1 ce s σ H D I h) λf s1 q=>?_);cases f with
 |next=>exact wpAny_execs_nil q
 |ret v=>exact q
 |brk=>exact q
 |cont=>exact q
theorem Inv.quiet(I:Inv X ce σ H s):interactive X.env=false:=by simp[interactive,I.ok.kind]
def NZ(te:TE):TS:=λD σ H=>te σ H λ_ H1=>D.nx σ H1
theorem ax(he:PE X e te)(hs:swapsWith e none pos.line X.env=pure false:=by rfl):PS X (.Expr e pos) (NZ te):=by intro ce s σ H D I h;exact wpAny_Expr_any (cC (he ce s σ H _ I h) λv s1 ⟨x,H1,I1,r1,q1⟩=>⟨σ,H1,I1,q1⟩) I.quiet hs
def VY(te:TE):TS:=λD σ H=>te σ H D.rt
theorem ah(he:PE X e te):PS X (.Return (some e) pos) (VY te):=by intro ce s σ H D I h;exact wpAny_Return_some (cC (he ce s σ H _ I h) λv s1 ⟨x,H1,I1,r1,q1⟩=>⟨x,σ,H1,I1,r1,q1⟩)
def YZ:TS:=λD _ H=>D.rt .bw H
theorem Q3:PS X (.Return none pos) YZ:=λ_ _ σ H _ I h=>wpAny_Return_none ⟨.bw,σ,H,I,rfl,h⟩
def Ya(c:TT)(t u:TS):TS:=λD σ H=>c σ H λb H1=>if b=true then t D σ H1 else u D σ H1
theorem bO{a b:List Stmt}(hc:PT X c tc)(ha:J8 X a t)(hb:J8 X b u):PS X (.If c a b pos) (Ya tc t u):=by
 intro ce s σ H D I h;refine wpAny_If (cC (hc ce s σ H _ I h) λd s1 ⟨H1,I1,q1⟩=>?_);cases d with
 |true=>exact ha ce s1 σ H1 D I1 q1
 |false=>exact hb ce s1 σ H1 D I1 q1
end
abbrev TG:=V->St->Hp->(St->Hp->Prop)->Prop
abbrev Q4:=List V->St->Hp->(St->Hp->Prop)->Prop
def PG(X:Cx)(target:Expr)(t:TG):Prop :=
 ∀(ce:List (Addr×Obj))(s:Shared)(σ:St)(H:Hp)(v:V)(u:Value)(Q:St->Hp->Prop),Inv X ce σ H s->RelV v u->t v σ H Q ->
  wpAny (model X.prog X.w) X.A (assign target X.env u) (λ_ s'=>∃σ' H',Inv X ce σ' H' s'/\Q σ' H') X.xe s
def Yb(X:Cx)(ts:List Expr)(t:Q4):Prop :=
 ∀(ce:List (Addr×Obj))(s:Shared)(σ:St)(H:Hp)(vs:List V)(us:List Value)(Q:St->Hp->Prop),Inv X ce σ H s->bJ vs us->t vs σ H Q ->
  wpAny (model X.prog X.w) X.A (assignInOrder ((assignEach ts X.env).map (·.2)) us) (λ_ s'=>∃σ' H',Inv X ce σ' H' s'/\Q σ' H') X.xe s
abbrev VZ:=V->V->V->Hp->(Hp->Prop)->Prop
def Va(X:Cx)(t:VZ):Prop :=
 ∀(ce:List (Addr×Obj))(s:Shared)(σ:St)(H:Hp)(o i v:V)(ov iv u:Value)(Q:Hp->Prop),Inv X ce σ H s->RelV o ov->RelV i iv->RelV v u->t o i v H Q ->
  wpAny (model X.prog X.w) X.A (setItem ov iv u) (λ_ s'=>∃H',Inv X ce σ H' s'/\Q H') X.xe s
abbrev TIp:=V->V->Hp->VK->Prop
def PIp(X:Cx)(op:Operator)(t:TIp):Prop :=
 ∀(ce:List (Addr×Obj))(s:Shared)(σ:St)(H:Hp)(x y:V)(v u:Value)(Q:VK),Inv X ce σ H s->RelV x v->RelV y u->t x y H Q ->
  wpAny (model X.prog X.w) X.A (inplaceOp op v u) (EP X ce σ Q) X.xe s
section
def jd(i:Nat):TG:=λv σ H Q=>Q (σ.set i (some v)) H
theorem au(hN:X.N.Nodup)(hi:X.N[i]?=some x)(hx:Loc X.env.scope x)(hf:X.fn x=true\/X.env.scope.names.lookup x=some .local:=by first|exact .inl rfl|exact .inr rfl|assumption):PG X (.Name x pos) (jd i):=by intro ce s σ H v u Q I r h;exact wpAny_assign_Name (FK I hN hi hx r (λs' I'=>⟨_,H,I',h⟩) hf)
def Na:Q4:=λvs σ H Q=>vs=[]/\Q σ H
def vn(t:TG)(u:Q4):Q4:=λvs σ H Q=>∃v r,vs=v::r/\t v σ H λσ' H'=>u r σ' H' Q
theorem zM:Yb X [] Na:=by intro ce s σ H vs us Q I r h;obtain⟨e,h⟩:=h;subst e;cases r;exact assignInOrder_nil ⟨σ,H,I,h⟩
theorem eN{t:TG}{u:Q4}(h1:PG X e t)(h2:Yb X es u)(hs:(assignEach (e::es) X.env).map (·.2)=assign e X.env::(assignEach es X.env).map (·.2):=by rfl):Yb X (e::es) (vn t u):=by
 intro ce s σ H vs us Q I r h;obtain⟨v,vr,e1,h⟩:=h;subst e1;cases r with
 |cons r rr =>
  rw[hs];refine assignInOrder_cons (cC (h1 ce s σ H _ _ _ I r h) λ_ s1 ⟨σ1,H1,I1,q1⟩=>?_);exact h2 ce s1 σ1 H1 _ _ Q I1 rr q1
def Nb(K:W.Frag)(n:Nat)(t:Q4):TG:=λv σ H Q=>∃a xs,v=.ref a/\cT K H a xs/\xs.length=n/\t xs σ H Q
theorem Nd{t:Q4}(hc:X.calm=true)(h:Yb X es t)(hn:(assignEach es X.env).length=n:=by rfl)(FL:(assignEach es X.env).findIdx? (·.1)=none:=by rfl):PG X (.Tuple es k pos) (Nb X.K n t):=by
 intro ce s σ H v u Q I r hw;obtain⟨a,xs,e1,hq,hl,hw⟩:=hw;subst e1;cases r;obtain⟨az,rv,ht,hz⟩:=I.tuple hq;refine assign_Tuple_tuple (I.ok.hd hc) ht (by simp[hn,<-hl,rv.length]) FL λh' hx=>?_;have I1:Inv X ce σ H { s with heap:=h' }:=I.kept (t':=s.toks) λb o e=>hx b o (ne_of_lt (Heap.lt_size e)) e
 exact h ce _ σ H xs _ Q I1 (by simpa using rv) hw
def aCj(to ti:TE)(t:VZ):TG:=λv σ H Q=>to σ H λo H1=>ti σ H1 λi H2=>t o i v H2 λH3=>Q σ H3
theorem oA{o i:Expr}{to ti:TE}{t:VZ}(ho:PE X o to)(hi:PE X i ti)(hs:Va X t)(ha:∀v,assign (.Subscript o i pos) X.env v=(do
   let ov <- holding [v] (eval o X.env)
   let iv <- holding [v,ov] (eval i X.env)
   standAt pos
   holding [v,ov,iv] (setItem ov iv v)
   release [v,ov,iv] []):=by intro _;rfl):PG X (.Subscript o i pos) (aCj to ti t):=by
 intro ce s σ H v u Q I r h;rw[ha];refine bv (wpAny_holding (cC (ho ce s σ H _ I h) λov s1 ⟨x,H1,I1,r1,q1⟩=>?_));refine bv (wpAny_holding (cC (hi ce s1 σ H1 _ I1 q1) λiv s2 ⟨y,H2,I2,r2,q2⟩=>?_));refine bv (wpAny_standAt (bv (wpAny_holding (cC (hs ce s2 σ H2 x y v ov iv u _ I2 r1 r2 r q2) λ_ s3 ⟨H3,I3,q3⟩=>?_))));exact wpAny_release ⟨σ,H3,I3,q3⟩
def Nf(te:TE)(g:TG):TS:=λD σ H=>te σ H λx H1=>g x σ H1 D.nx
theorem oB{g:TG}(he:PE X e te)(hg:PG X tg g)(hs:swapsWithSole [tg] e pos.line X.env=pure false:=by rfl)(hw:swappedStores [tg] e X.env=pure none:=by rfl)(h1:(assignEach [tg] X.env).map (·.2)=[assign tg X.env]:=by rfl):PS X (.Assign [tg] e pos) (Nf te g):=by intro ce s σ H D I h;refine wpAny_Assign_stores (cC (he ce s σ H _ I h) λv s1 ⟨x,H1,I1,r1,q1⟩=>?_) hs hw;rw[h1];exact cC (hg ce s1 σ H1 x v _ I1 r1 q1) λ_ s2 q=>q
theorem aX(hN:X.N.Nodup)(hi:X.N[i]?=some x)(hx:Loc X.env.scope x)(he:PE X e te)(hs:swapsWith e (some (.Name x pos')) pos.line X.env=pure false:=by rfl)(hf:X.fn x=true\/X.env.scope.names.lookup x=some .local:=by first|exact .inl rfl|exact .inr rfl|assumption):
  PS X (.Assign [.Name x pos'] e pos) (Nf te (jd i)):=by
 intro ce s σ H D I h;refine wpAny_Assign_Name (cC (he ce s σ H _ I h) λv s1 ⟨y,H1,I1,r1,q1⟩=>?_) hs;exact FK I1 hN hi hx r1 (λs2 I2=>⟨_,H1,I2,q1⟩) hf
def ipI(f:Int->Int->Int):TIp:=λx y H Q=>∃i j,x=.int i/\y=.int j/\Q (.int (f i j)) H
theorem Ng:PIp X .Add (ipI λi j=>i+j):=by intro ce s σ H x y v u Q I r1 r2 h;obtain⟨i,j,e1,e2,q⟩:=h;subst e1;subst e2;obtain⟨t,rfl⟩:=r1;obtain⟨t',rfl⟩:=r2;exact iadd_int ⟨.int _,H,I.tok _,⟨_,rfl⟩,q⟩
end
section
def Nh(c:TT)(tb:TS):TS:=λD σ H=>∃W:Nat->St->Hp->Prop,(∃m,W m σ H)/\∀m σ H,W m σ H ->
 c σ H λb H1=>if b=true then ∃N:St->Hp->Prop,(∀σ' H',N σ' H'->∃m',m'<m/\W m' σ' H')/\tb { D with nx:=N,ct:=N,bk:=D.nx } σ H1 else D.nx σ H1
theorem FN{tb:TS}(hp:PassesOwn (model X.prog X.w) X.A X.env X.xe)(hc:PT X c tc)(hb:J8 X body tb):PS X (.While c body [] pos) (Nh tc tb):=by
 intro ce s σ H D I h;obtain⟨W,⟨m0,w0⟩,turn⟩:=h;refine wpAny_While (codeAny_whileLoop (λn s'=>∃σ' H',Inv X ce σ' H' s'/\W n σ' H') ?_ m0 ⟨σ,H,I,w0⟩);rintro n s1 ⟨σ1,H1,I1,w1⟩;refine wpAny_passesOwn hp (cC (hc ce s1 σ1 H1 _ I1 (turn n σ1 H1 w1)) λb s2 ⟨H2,I2,q2⟩=>?_);cases b with
 |true =>
  obtain⟨N,hN,q2⟩:=q2;rw[if_pos rfl];refine wpAny_passesOwn hp (cC (hb ce s2 σ1 H2 _ I2 q2) λf s3 q3=>?_);cases f with
  |next =>
   obtain⟨σ3,H3,I3,n3⟩:=q3;obtain⟨m',hm,w3⟩:=hN σ3 H3 n3;exact⟨m',hm,σ3,H3,I3,w3⟩
  |cont =>
   obtain⟨σ3,H3,I3,n3⟩:=q3;obtain⟨m',hm,w3⟩:=hN σ3 H3 n3;exact⟨m',hm,σ3,H3,I3,w3⟩
  |brk=>exact q3
  |ret v=>exact q3
 |false =>
  rw[if_neg Bool.false_ne_true];exact wpAny_execs_nil ⟨σ1,H2,I2,q2⟩
end
structure It where
 go:Nat->Hp->Prop
 Qe:Nat->Hp->V->Hp->Prop
 stop:Nat->Hp->Prop
def xB(X:Cx)(ce:List (Addr×Obj))(H:Hp)(b:Addr):Prop :=
 H b=none/\b≠X.env.locals/\b∉X.fs/\(b∈X.ex\/X.s₀.heap.objs.size<=b)/\(∀x c,X.env.cells.lookup x=some c->c≠b)/\∀p∈X.pn++ce,p.1≠b
theorem Inv.DX{H':Hp}{b:Addr}(I:Inv X ce σ H s)(hb:s.heap.objs.size<=b)(hn:H' b=none):xB X ce H' b:=by
 refine⟨hn,Nat.ne_of_gt (lt_of_lt_of_le I.lt hb),I.aCb hb,.inr (le_trans I.sz hb),λx c e z=>?_,λp hp z=>?_⟩
 ·obtain⟨v,q⟩:=I.cell x c e;exact absurd (lt_of_lt_of_le q.lt (by rw[z];exact hb)) (lt_irrefl _)
 exact absurd (lt_of_lt_of_le (Heap.lt_size (I.pin p hp).1) (by rw[z];exact hb)) (lt_irrefl _)
structure Turn(P:Program)(w:World)(K:W.Frag)(tg:Expr)(J:It)(fp:List Addr)(it:Addr)(tn:Nat->Heap->Prop):Prop where
 mem:it∈fp
 obj:∀i h,tn i h->∀b∈fp,∃o,h.get? b=some o/\∀v,o.data≠.cell v
 keep:∀i h h',tn i h->(∀b∈fp,∀o,h.get? b=some o->h'.get? b=some o)->tn i h'
 item:∀(X:Cx),X.prog=P->X.w=w->X.K=K->X.calm=true->∀(i:Nat)(ce:List (Addr×Obj))(s:Shared)(σ:St)(H:Hp)(E:Value->Shared->Prop),Inv X ce σ H s->(∀b∈fp,xB X ce H b)->tn i s.heap->J.go i H ->
  wpAny (model P w) X.A (pyNext (.ref it)) (λr s1=>∃u,r=some u /\
   wpAny (model P w) X.A (letOwnedTupleGo tg (.ref it) u) (λ_ s2=>∃x H',Inv X ce σ H' s2/\RelV x u/\J.Qe i H x H'/\tn (i+1) s2.heap/\∀b∈fp,H' b=none) E s1) E s
 done:∀(X:Cx),X.prog=P->X.w=w->X.K=K->X.calm=true->∀(i:Nat)(ce:List (Addr×Obj))(s:Shared)(σ:St)(H:Hp)(E:Value->Shared->Prop),Inv X ce σ H s->(∀b∈fp,xB X ce H b)->tn i s.heap->J.stop i H ->
  wpAny (model P w) X.A (pyNext (.ref it)) (λr s1=>r=none/\Inv X ce σ H s1) E s
 self:∀(A:Around)(i:Nat)(s:Shared)(Q:Value->Shared->Prop)(E:Value->Shared->Prop),tn i s.heap->Q (.ref it) s->wpAny (model P w) A (pyIter (.ref it)) Q E s
abbrev TI:=St->Hp->(It->Hp->Prop)->Prop
def PIE(X:Cx)(ce:List (Addr×Obj))(σ:St)(tg:Expr)(R:It->Hp->Prop)(itv:Value)(s2:Shared):Prop :=
 ∃(it:Addr)(fp:List Addr)(tn:Nat->Heap->Prop)(J:It)(H':Hp),itv=.ref it/\Inv X ce σ H' s2/\Turn X.prog X.w X.K tg J fp it tn/\tn 0 s2.heap/\(∀b∈fp,xB X ce H' b)/\R J H'
def PI(X:Cx)(tg iter:Expr)(wi:TI):Prop :=
 ∀(ce:List (Addr×Obj))(s:Shared)(σ:St)(H:Hp)(R:It->Hp->Prop),Inv X ce σ H s->wi σ H R ->
  wpAny (model X.prog X.w) X.A (eval iter X.env) (λv s1=>wpAny (model X.prog X.w) X.A (pyIter v) (PIE X ce σ tg R) X.xe s1) X.xe s
theorem FO{M:Model}{it:Addr}{o:Obj}{n:String}{vs:Array Value}{Q:Unit->Shared->Prop}(ho:s.heap.get? it=some o)(hc:o.cls=.type n)(hd:o.data=.fields vs)(hn:["enumerate","zip","dict_itemiterator","dict_reverseitemiterator","odict_iterator","itertools.zip_longest","itertools.pairwise"].contains n=false)(hQ:Q () s):wpAny M A (letOwnedTupleGo tg (.ref it) u) Q E s:=by
 unfold letOwnedTupleGo;cases tg<;>first
  |exact ca hQ
  | (cases u<;>first
    |exact ca hQ
    | (refine bv (wpAny_load ho ?_)
       rw[hc,hd];show wpAny M A (if(["enumerate","zip","dict_itemiterator","dict_reverseitemiterator","odict_iterator","itertools.zip_longest","itertools.pairwise"].contains n&&vs[0]?==some (rawInt _))=true then _ else _) Q E s;rw[if_neg (by intro h;rw[hn,Bool.false_and]at h;cases h)];exact ca hQ))
def Vb(K:W.Frag)(a:Addr):It :=
 ⟨λi H=>∃xs x,ae K H a xs/\xs[i]?=some x,λi H x H'=>H'=H/\∀xs,ae K H a xs->xs[i]?=some x,λi H=>∃xs,ae K H a xs/\xs.length<=i⟩
def Xm(K:W.Frag)(a:Addr):It :=
 ⟨λi H=>∃xs x,cT K H a xs/\xs[i]?=some x,λi H x H'=>H'=H/\∀xs,cT K H a xs->xs[i]?=some x,λi H=>∃xs,cT K H a xs/\xs.length<=i⟩
def Q5(lo:Int)(n:Nat):It:=⟨λi _=>i<n,λi H x H'=>H'=H/\x=.int (lo+i),λi _=>n<=i⟩
theorem LS{P:Program}{K:W.Frag}(a it:Addr):Turn P w K tg (Vb K a) [it] it (λi h=>h.IsListIter it a i)where
 mem:=by simp
 obj:=λi h st b hb=>by
  have e:b=it:=by simpa using hb
  subst e;obtain⟨o,e,c,d⟩:=st;exact⟨o,e,λv z=>by rw[d]at z;cases z⟩
 keep:=λi h h' st k=>st.at λo e=>k it (by simp) o e
 item:=by
  intro X hP hw hK hc i ce s σ H E I hf st hg;subst hP hw hK;obtain⟨xs,x,hq,hx⟩:=hg;obtain⟨az,rv,p,hz⟩:=I.list hq;obtain⟨u,hu,ru⟩:=rv.get hx;obtain⟨f0,f1,f2,f3,f4,f5⟩:=hf it (by simp);refine wpAny_pyNext_list_item st p.isList (x:=u) (by simpa using hu) λh' Hd sb=>?_;have I1:Inv X ce σ H { s with heap:=h' }:=I.turned (t':=s.toks) (λb o hb e=>(sb.2 b hb).trans e) f0 f1 f3 f4 f5
  obtain⟨o,e,c,d⟩:=id Hd;exact⟨u,rfl,FO (s:={ s with heap:=h' }) e c d (by decide) ⟨x,H,I1,ru,⟨rfl,λys hy=>by rw[I.vm hy hq];exact hx⟩,Hd,λb hb=>(hf b hb).1⟩⟩
 done:=by intro X hP hw hK hc i ce s σ H E I hf st hg;subst hP hw hK;obtain⟨xs,hq,hx⟩:=hg;obtain⟨az,rv,p,hz⟩:=I.list hq;obtain⟨f0,f1,f2,f3,f4,f5⟩:=hf it (by simp);have hl:=rv.length;exact wpAny_pyNext_list_end (I.ok.hd hc) st p.isList (by simp;lia) λh' eb=>⟨rfl,I.turned (t':=s.toks) (λb o hb e=>eb b o hb e) f0 f1 f3 f4 f5⟩
 self:=λ_ _ _ _ _ st h=>wpAny_pyIter_listiter st h
theorem He{P:Program}{K:W.Frag}(a it:Addr):Turn P w K tg (Xm K a) [it] it (λi h=>h.IsTupleIter it a i)where
 mem:=by simp
 obj:=λi h st b hb=>by
  have e:b=it:=by simpa using hb
  subst e;obtain⟨o,e,c,d⟩:=st;exact⟨o,e,λv z=>by rw[d]at z;cases z⟩
 keep:=λi h h' st k=>st.at λo e=>k it (by simp) o e
 item:=by
  intro X hP hw hK hc i ce s σ H E I hf st hg;subst hP hw hK;obtain⟨xs,x,hq,hx⟩:=hg;obtain⟨az,rv,p,hz⟩:=I.tuple hq;obtain⟨u,hu,ru⟩:=rv.get hx;obtain⟨f0,f1,f2,f3,f4,f5⟩:=hf it (by simp);refine wpAny_pyNext_tuple_item st (show s.heap.IsTuple a az.toArray from p) (x:=u) (by simpa using hu) λh' Hd sb=>?_;have I1:Inv X ce σ H { s with heap:=h' }:=I.turned (t':=s.toks) (λb o hb e=>(sb.2 b hb).trans e) f0 f1 f3 f4 f5
  obtain⟨o,e,c,d⟩:=id Hd;exact⟨u,rfl,FO (s:={ s with heap:=h' }) e c d (by decide) ⟨x,H,I1,ru,⟨rfl,λys hy=>by rw[I.Cj hy hq];exact hx⟩,Hd,λb hb=>(hf b hb).1⟩⟩
 done:=by intro X hP hw hK hc i ce s σ H E I hf st hg;subst hP hw hK;obtain⟨xs,hq,hx⟩:=hg;obtain⟨az,rv,p,hz⟩:=I.tuple hq;obtain⟨f0,f1,f2,f3,f4,f5⟩:=hf it (by simp);have hl:=rv.length;exact wpAny_pyNext_tuple_end (I.ok.hd hc) st (show s.heap.IsTuple a az.toArray from p) (by simp;lia) λh' eb=>⟨rfl,I.turned (t':=s.toks) (λb o hb e=>eb b o hb e) f0 f1 f3 f4 f5⟩
 self:=λ_ _ _ _ _ st h=>wpAny_pyIter_tupleiter st h
theorem Hi{P:Program}{K:W.Frag}(it:Addr)(lo:Int)(n:Nat):Turn P w K tg (Q5 lo n) [it] it (λi h=>IsRangeIter h it (lo+(i:Nat)*1) ((n:Int)-(i:Nat)) 1)where
 mem:=by simp
 obj:=λi h st b hb=>by
  have e:b=it:=by simpa using hb
  subst e;exact⟨_,st,λv z=>by have z':Data.fields _=Data.cell v:=z;cases z'⟩
 keep:=λi h h' st k=>k it (by simp) _ st
 item:=by
  intro X hP hw hK hc i ce s σ H E I hf st hg;subst hP hw hK;obtain⟨f0,f1,f2,f3,f4,f5⟩:=hf it (by simp);have W:=Walks.range (prog:=X.prog) (w:=X.w) (I.ok.hd hc) it lo 1 n;refine W.item i s _ _ hg st λv h' tk hv Hd kk=>?_;obtain⟨t,rfl⟩:=hv;have I1:Inv X ce σ H { s with heap:=h',toks:=tk }:=I.turned (λb o hb e=>kk b o (by simpa using hb) e) f0 f1 f3 f4 f5
  refine⟨_,rfl,FO (s:={ s with heap:=h',toks:=tk }) (n:="range_iterator") Hd rfl rfl (by decide) ⟨.int (lo+i),H,I1,⟨t,?_⟩,⟨rfl,rfl⟩,Hd,λb hb=>(hf b hb).1⟩⟩
  rw[Int.mul_one]
 done:=by intro X hP hw hK hc i ce s σ H E I hf st hg;subst hP hw hK;obtain⟨f0,f1,f2,f3,f4,f5⟩:=hf it (by simp);exact wpAny_pyNext_range_end (I.ok.hd hc) st (by have:n<=i:=hg;lia) λh' eb=>⟨rfl,I.turned (t':=s.toks) (λb o hb e=>eb b o hb e) f0 f1 f3 f4 f5⟩
 self:=λ_ _ _ _ _ st h=>wpAny_pyIter_rangeiter st h
section
def US(K:W.Frag)(tl:TE):TI:=λσ H R=>tl σ H λx H1=>∃a,x=.ref a/\(∃xs,ae K H1 a xs)/\R (Vb K a) H1
def Yc(K:W.Frag)(tl:TE):TI:=λσ H R=>tl σ H λx H1=>∃a,x=.ref a/\(∃xs,cT K H1 a xs)/\R (Xm K a) H1
theorem KC(hl:PE X l tl):PI X tg l (US X.K tl):=by
 intro ce s σ H R I h;refine cC (hl ce s σ H _ I h) λv s1 ⟨x,H1,I1,r1,q1⟩=>?_;obtain⟨a,e,⟨xs,hq⟩,q⟩:=q1;subst e;cases r1;obtain⟨az,rv,p,hz⟩:=I1.list hq;refine wpAny_pyIter_list p.isList ?_;refine⟨s1.heap.objs.size,[s1.heap.objs.size],_,_,H1,rfl,I1.kept (t':=s1.toks) λb o e=>Heap.get?_push_of_some _ e,LS a _,⟨_,Heap.get?_push_size _ rfl,rfl,rfl⟩,λb hb=>?_,q⟩;have e:b=s1.heap.objs.size:=by simpa using hb
 subst e;exact I1.DX (le_refl _) (I1.cK.fresh (le_refl _))
theorem Vc(hl:PE X l tl):PI X tg l (Yc X.K tl):=by
 intro ce s σ H R I h;refine cC (hl ce s σ H _ I h) λv s1 ⟨x,H1,I1,r1,q1⟩=>?_;obtain⟨a,e,⟨xs,hq⟩,q⟩:=q1;subst e;cases r1;obtain⟨az,rv,p,hz⟩:=I1.tuple hq;refine wpAny_pyIter_tuple (show s1.heap.IsTuple a az.toArray from p) ?_;refine⟨s1.heap.objs.size,[s1.heap.objs.size],_,_,H1,rfl,I1.kept (t':=s1.toks) λb o e=>Heap.get?_push_of_some _ e,He a _,⟨_,Heap.get?_push_size _ rfl,rfl,rfl⟩,λb hb=>?_,q⟩;have e:b=s1.heap.objs.size:=by simpa using hb
 subst e;exact I1.DX (le_refl _) (I1.cK.fresh (le_refl _))
theorem FP{R:It->Hp->Prop}{hi:Int}{t u v:Tok}{tk:Nat}(I:Inv X ce σ H s)(h1:-(2 ^ 62)<=lo)(h2:lo<2 ^ 62)(h3:-(2 ^ 62)<=hi)(h4:hi<2 ^ 62)(q:R (Q5 lo (hi-lo).toNat) H):wpAny (model X.prog X.w) X.A (pyIter (.ref s.heap.objs.size)) (PIE X ce σ tg R) E { s with heap:=s.heap.push { cls:=.type "range",data:=.fields #[.int lo t,.int hi u,.int 1 v] },toks:=tk }:=by
 refine wpAny_pyIter_range (IsRange.new ..) (small_one h1 h2 h3 h4) ?_;have I1:Inv X ce σ H { s with heap:=s.heap.push { cls:=.type "range",data:=.fields #[.int lo t,.int hi u,.int 1 v] },toks:=tk }:=I.kept λb o e=>Heap.get?_push_of_some _ e
 refine⟨(s.heap.push { cls:=.type "range",data:=.fields #[.int lo t,.int hi u,.int 1 v] }).objs.size,[(s.heap.push { cls:=.type "range",data:=.fields #[.int lo t,.int hi u,.int 1 v] }).objs.size],_,_,H,rfl,
  I1.kept (t':=tk) λb o e=>Heap.get?_push_of_some _ e,Hi _ lo (hi-lo).toNat,?_,λb hb=>?_,q⟩
 ·have e1:lo+((0:Nat):Int)*1=lo:=by simp
  have e2:(((hi-lo).toNat:Nat):Int)-((0:Nat):Int)=Builtin.Range.rangeSize lo hi 1:=by rw[rangeSize_one];split<;>lia
  show IsRangeIter _ _ (lo+((0:Nat):Int)*1) ((((hi-lo).toNat:Nat):Int)-((0:Nat):Int)) 1;rw[e1,e2];exact Heap.get?_push_size _ rfl
 have e:b=(s.heap.push { cls:=.type "range",data:=.fields #[.int lo t,.int hi u,.int 1 v] }).objs.size:=by simpa using hb
 subst e;exact I1.DX (le_refl _) (I1.cK.fresh (le_refl _))
def Yd(ta:TA):TI:=λσ H R=>ta σ H λvs H1=>∃j:Int,vs=[.int j]/\-(2 ^ 62)<=j/\j<2 ^ 62/\R (Q5 0 j.toNat) H1
def Ye(ta:TA):TI:=λσ H R=>ta σ H λvs H1=>∃i j:Int,vs=[.int i,.int j]/\(-(2 ^ 62)<=i/\i<2 ^ 62/\-(2 ^ 62)<=j/\j<2 ^ 62)/\R (Q5 i (j-i).toNat) H1
theorem dH{a:Expr}{ta:TA}(hg:Gl X "range")(hm:X.mg "range"=none)(ha:PA X [a] ta)(hs:starEach [a] X.env=[(false,eval a X.env)]:=by rfl):PI X tg (.Call (.Name "range" p) [a] [] pos) (Yd ta):=by
 intro ce s σ H R I h;refine Call_ (nu I hg hm boot_range (PyProof.Rows.callWith_type1 (cC (ha pos ce s σ H _ I h) λus s1 ⟨vs,H1,I1,r1,q1⟩=>?_) hs rfl));obtain⟨j,e,q1,q2,q⟩:=q1;subst e;cases r1 with
 |cons r rr =>
  cases rr;obtain⟨t,rfl⟩:=r;exact call_range_1 (FP I1 (by lia) (by lia) q1 q2 (by simpa using q))
theorem xC{a:Expr}{ta:TA}(hg:Gl X "range")(hm:X.mg "range"=none)(ha:PA X [a,b] ta)(hs:starEach [a,b] X.env=[(false,eval a X.env),(false,eval b X.env)]:=by rfl)(LU:starEach [b] X.env=[(false,eval b X.env)]:=by rfl):
  PI X tg (.Call (.Name "range" p) [a,b] [] pos) (Ye ta):=by
 intro ce s σ H R I h;refine Call_ (nu I hg hm boot_range (PyProof.Rows.callWith_type1 (cC (ha pos ce s σ H _ I h) λus s1 ⟨vs,H1,I1,r1,q1⟩=>?_) (by rw[hs,LU]) (by rw[LU];rfl)));obtain⟨i,j,e,⟨q1,q2,q3,q4⟩,q⟩:=q1;subst e;cases r1 with
 |cons r rr =>
  cases rr with
  |cons r' rr =>
   cases rr;obtain⟨t,rfl⟩:=r;obtain⟨t',rfl⟩:=r';exact call_range_2 (FP I1 q1 q2 q3 q4 q)
def aCk(wi:TI)(g:TG)(tb:TS):TS:=λD σ H=>wi σ H λJ H1=>∃W:Nat->Nat->St->Hp->Prop,(∃m,W 0 m σ H1)/\∀i m σ H,W i m σ H ->
 (J.stop i H/\D.nx σ H)\/(J.go i H/\∃N:St->Hp->Prop,(∀σ' H',N σ' H'->∃m',m'<m/\W (i+1) m' σ' H')/\∀x H',J.Qe i H x H'->g x σ H' λσ2 H2=>tb { D with nx:=N,ct:=N,bk:=D.nx } σ2 H2)
def zd(fp:List Addr)(h:Heap):List (Addr×Obj):=fp.filterMap λb=>(h.get? b).map λo=>(b,o)
theorem oC{b:Addr}{o:Obj}(hb:b∈fp)(e:h.get? b=some o):(b,o)∈zd fp h:=List.mem_filterMap.mpr ⟨b,hb,by rw[e];rfl⟩
theorem LV{p:Addr×Obj}(hp:p∈zd fp h):p.1∈fp/\h.get? p.1=some p.2:=by
 obtain⟨b,hb,e⟩:=List.mem_filterMap.mp hp;cases q:h.get? b with
 |none=>rw[q]at e;cases e
 |some o =>
  rw[q]at e;have e':(b,o)=p:=Option.some.inj e;subst e';exact⟨hb,q⟩
theorem Inv.pinned(I:Inv X ce σ H s)(hf:∀b∈fp,xB X ce H b)(ho:∀b∈fp,∃o,s.heap.get? b=some o/\∀v,o.data≠.cell v):Inv X (ce++zd fp s.heap) σ H s :=
 I.J7 λp hp=>(mem_append.mp hp).elim (λz=>I.pin p (mem_append_right _ z)) λz=>by obtain⟨hb,e⟩:=LV z;obtain⟨f0,f1,f2,_⟩:=hf p.1 hb;obtain⟨o,e',d⟩:=ho p.1 hb;rw[e]at e';cases e';exact⟨e,f0,f1,f2,d⟩
theorem Inv.qi{pl:List (Addr×Obj)}(I:Inv X (ce++pl) σ H s):Inv X ce σ H s:=I.J7 λp hp=>I.pin p (mem_append_right _ (mem_append_left _ hp))
theorem cO{wi:TI}{g:TG}{tb:TS}(hp:PassesOwn (model X.prog X.w) X.A X.env X.xe)(hc:X.calm=true)(hi:PI X tg iter wi)(hg:PG X tg g)(hb:J8 X body tb)(hs:∀x,foldedSetIterable iter X.env x=pure x:=by intro _;rfl):PS X (.For tg iter body [] pos) (aCk wi g tb):=by
 intro ce s σ H D I h;refine wpAny_For (cC (hi ce s σ H _ I h) λv s1 h1=>cC h1 λitv s2 h2=>?_) hs;obtain⟨it,fp,tn,J,H2,e,I2,T,vj,f2,W,⟨m0,w0⟩,turn⟩:=h2;subst e;have Hj:∀{H':Hp},(∀b∈fp,H' b=none)->∀b∈fp,xB X ce H' b:=λhn b hb=>⟨hn b hb,(f2 b hb).2⟩;refine codeAny_forLoop_any (λn s'=>∃i σ' H',Inv X ce σ' H' s'/\tn i s'.heap/\(∀b∈fp,H' b=none)/\W i n σ' H') ?_ m0 ⟨0,σ,H2,I2,vj,λb hb=>(f2 b hb).1,w0⟩;rintro n s3 ⟨i,σ3,H3,I3,je,NM,w3⟩;rcases turn i n σ3 H3 w3 with⟨stop,qn⟩|⟨go,N,hN,step⟩
 ·refine wpAny_passesOwn hp (cC (T.done X rfl rfl rfl hc i ce s3 σ3 H3 X.xe I3 (Hj NM) je stop) λr s4 ⟨hr,I4⟩=>?_);subst hr;exact wpAny_execs_nil ⟨σ3,H3,I4,qn⟩
 refine wpAny_passesOwn hp (cC (T.item X rfl rfl rfl hc i ce s3 σ3 H3 X.xe I3 (Hj NM) je go) λr s4 ⟨u,hr,h4⟩=>?_);subst hr;refine wpAny_passesOwn hp (cC h4 λ_ s5 ⟨x,H5,I5,r5,y5,xD,LW⟩=>?_);have I5':=I5.pinned (Hj LW) (T.obj _ _ xD);refine wpAny_passesOwn hp (cC (hg _ s5 σ3 H5 x u _ I5' r5 (step x H5 y5)) λ_ s6 ⟨σ6,H6,I6,q6⟩=>?_);refine wpAny_passesOwn hp (cC (hb _ s6 σ6 H6 _ I6 q6) λf s7 q7=>?_);have again:∀{σ7:St}{H7:Hp},Inv X (ce++zd fp s5.heap) σ7 H7 s7->N σ7 H7->∃m,m<n/\∃i σ' H',Inv X ce σ' H' s7/\tn i s7.heap/\(∀b∈fp,H' b=none)/\W i m σ' H':=λ{σ7 H7} I7 n7=>by obtain⟨m',hm,w7⟩:=hN σ7 H7 n7;refine⟨m',hm,i+1,σ7,H7,I7.qi,T.keep _ _ _ xD λb hb o e=>(I7.pin (b,o) (mem_append_right _ (mem_append_right _ (oC hb e)))).1,λb hb=>?_,w7⟩;obtain⟨o,e,d⟩:=T.obj _ _ xD b hb;exact(I7.pin (b,o) (mem_append_right _ (mem_append_right _ (oC hb e)))).2.1
 cases f with
 |next=>obtain⟨σ7,H7,I7,n7⟩:=q7;exact again I7 n7
 |cont=>obtain⟨σ7,H7,I7,n7⟩:=q7;exact again I7 n7
 |brk=>obtain⟨σ7,H7,I7,q7⟩:=q7;exact⟨σ7,H7,I7.qi,q7⟩
 |ret v=>obtain⟨x7,σ7,H7,I7,r7,q7⟩:=q7;exact⟨x7,σ7,H7,I7.qi,r7,q7⟩
end
theorem gS{K:W.Frag}{g:TG}{tb:TS}{D:Ends}(Pv:Nat->St->Hp->Prop)(h0:Pv 0 σ H)(hl:∀i σ H,i<=xs.length->Pv i σ H->ae K H a xs)(hs:∀i x σ H,xs[i]?=some x->Pv i σ H->g x σ H λσ2 H2=>tb { D with nx:=Pv (i+1),ct:=Pv (i+1),bk:=D.nx } σ2 H2)(hd:∀σ H,Pv xs.length σ H->D.nx σ H):
  ∃W:Nat->Nat->St->Hp->Prop,(∃m,W 0 m σ H)/\∀i m σ H,W i m σ H ->
   ((Vb K a).stop i H/\D.nx σ H)\/((Vb K a).go i H/\∃N:St->Hp->Prop,(∀σ' H',N σ' H'->∃m',m'<m/\W (i+1) m' σ' H')/\∀x H',(Vb K a).Qe i H x H'->g x σ H' λσ2 H2=>tb { D with nx:=N,ct:=N,bk:=D.nx } σ2 H2):=by
 refine⟨λi m σ H=>m=xs.length-i/\i<=xs.length/\Pv i σ H,⟨xs.length,by simp,zero_le _,h0⟩,?_⟩;rintro i m σ H ⟨rfl,hi,p⟩;have q:=hl i σ H hi p;by_cases eI:i<xs.length
 ·refine .inr ⟨⟨xs,xs[i],q,by simp[eI]⟩,Pv (i+1),λσ' H' p'=>⟨xs.length-(i+1),by lia,rfl,eI,p'⟩,λx H' y=>?_⟩;obtain⟨e,y⟩:=y;subst e;exact hs i x σ _ (y xs q) p
 have e:i=xs.length:=by lia
 subst e;exact .inl ⟨⟨xs,q,le_refl _⟩,hd σ H p⟩
theorem vp{K:W.Frag}{g:TG}{tb:TS}{D:Ends}(Pv:Nat->St->Hp->Prop)(h0:Pv 0 σ H)(hl:∀i σ H,i<=xs.length->Pv i σ H->cT K H a xs)(hs:∀i x σ H,xs[i]?=some x->Pv i σ H->g x σ H λσ2 H2=>tb { D with nx:=Pv (i+1),ct:=Pv (i+1),bk:=D.nx } σ2 H2)(hd:∀σ H,Pv xs.length σ H->D.nx σ H):
  ∃W:Nat->Nat->St->Hp->Prop,(∃m,W 0 m σ H)/\∀i m σ H,W i m σ H ->
   ((Xm K a).stop i H/\D.nx σ H)\/((Xm K a).go i H/\∃N:St->Hp->Prop,(∀σ' H',N σ' H'->∃m',m'<m/\W (i+1) m' σ' H')/\∀x H',(Xm K a).Qe i H x H'->g x σ H' λσ2 H2=>tb { D with nx:=N,ct:=N,bk:=D.nx } σ2 H2):=by
 refine⟨λi m σ H=>m=xs.length-i/\i<=xs.length/\Pv i σ H,⟨xs.length,by simp,zero_le _,h0⟩,?_⟩;rintro i m σ H ⟨rfl,hi,p⟩;have q:=hl i σ H hi p;by_cases eI:i<xs.length
 ·refine .inr ⟨⟨xs,xs[i],q,by simp[eI]⟩,Pv (i+1),λσ' H' p'=>⟨xs.length-(i+1),by lia,rfl,eI,p'⟩,λx H' y=>?_⟩;obtain⟨e,y⟩:=y;subst e;exact hs i x σ _ (y xs q) p
 have e:i=xs.length:=by lia
 subst e;exact .inl ⟨⟨xs,q,le_refl _⟩,hd σ H p⟩
theorem gE{g:TG}{tb:TS}{D:Ends}(Pv:Nat->St->Hp->Prop)(h0:Pv 0 σ H)(hs:∀i σ H,i<n->Pv i σ H->g (.int (lo+i)) σ H λσ2 H2=>tb { D with nx:=Pv (i+1),ct:=Pv (i+1),bk:=D.nx } σ2 H2)(hd:∀σ H,Pv n σ H->D.nx σ H):
  ∃W:Nat->Nat->St->Hp->Prop,(∃m,W 0 m σ H)/\∀i m σ H,W i m σ H ->
   ((Q5 lo n).stop i H/\D.nx σ H)\/((Q5 lo n).go i H/\∃N:St->Hp->Prop,(∀σ' H',N σ' H'->∃m',m'<m/\W (i+1) m' σ' H')/\∀x H',(Q5 lo n).Qe i H x H'->g x σ H' λσ2 H2=>tb { D with nx:=N,ct:=N,bk:=D.nx } σ2 H2):=by
 refine⟨λi m σ H=>m=n-i/\i<=n/\Pv i σ H,⟨n,by simp,zero_le _,h0⟩,?_⟩;rintro i m σ H ⟨rfl,hi,p⟩;by_cases eI:i<n
 ·refine .inr ⟨eI,Pv (i+1),λσ' H' p'=>⟨n-(i+1),by lia,rfl,eI,p'⟩,λx H' y=>?_⟩;obtain⟨e,y⟩:=y;subst e y;exact hs i σ _ eI p
 have e:i=n:=by lia
 subst e;exact .inl ⟨le_refl _,hd σ H p⟩
theorem FQ{c:TT}{tb:TS}{D:Ends}(Pv:St->Hp->Prop)(μ:St->Hp->Nat)(h0:Pv σ H)(hs:∀σ H,Pv σ H->c σ H λb H1=>if b=true then tb { D with nx:=λσ' H'=>Pv σ' H'/\μ σ' H'<μ σ H,ct:=λσ' H'=>Pv σ' H'/\μ σ' H'<μ σ H,bk:=D.nx } σ H1 else D.nx σ H1)(mono:∀σ H Q Q',(∀b H1,Q b H1->Q' b H1)->c σ H Q->c σ H Q'):Nh c tb D σ H:=by
 refine⟨λm σ H=>m=μ σ H/\Pv σ H,⟨_,rfl,h0⟩,?_⟩;rintro m σ H ⟨rfl,p⟩;refine mono σ H _ _ (λb H1 q=>?_) (hs σ H p);cases b with
 |true=>exact⟨_,λσ' H' ⟨p',l⟩=>⟨_,l,rfl,p'⟩,q⟩
 |false=>exact q
abbrev R2:=V->V->Hp->VK->Prop
def qK(X:Cx)(f:Value->Value->Sem Value)(r:R2):Prop :=
 ∀(ce:List (Addr×Obj))(s:Shared)(σ:St)(H:Hp)(x y:V)(v u:Value)(Q:VK),Inv X ce σ H s->RelV x v->RelV y u->r x y H Q ->
  wpAny (model X.prog X.w) X.A (f v u) (EP X ce σ Q) X.xe s
def UnR(X:Cx)(f:Value->Sem Value)(r:V->Hp->VK->Prop):Prop :=
 ∀(ce:List (Addr×Obj))(s:Shared)(σ:St)(H:Hp)(x:V)(v:Value)(Q:VK),Inv X ce σ H s->RelV x v->r x H Q ->
  wpAny (model X.prog X.w) X.A (f v) (EP X ce σ Q) X.xe s
def yT(X:Cx)(f:Value)(r:List V->Hp->VK->Prop):Prop :=
 ∀(ce:List (Addr×Obj))(s:Shared)(σ:St)(H:Hp)(xs:List V)(us:List Value)(Q:VK),Inv X ce σ H s->bJ xs us->r xs H Q ->
  wpAny (model X.prog X.w) X.A (call f us) (EP X ce σ Q) X.xe s
def aCm(X:Cx)(r:V->Hp->(Bool->Hp->Prop)->Prop):Prop :=
 ∀(ce:List (Addr×Obj))(s:Shared)(σ:St)(H:Hp)(x:V)(v:Value)(Q:Bool->Hp->Prop),Inv X ce σ H s->RelV x v->r x H Q ->
  wpAny (model X.prog X.w) X.A (truthy v) (TP X ce σ Q) X.xe s
def Q6(r:R2)(ta tb:TE):TE:=λσ H Q=>ta σ H λx H1=>tb σ H1 λy H2=>r x y H2 Q
def tUn(r:V->Hp->VK->Prop)(ta:TE):TE:=λσ H Q=>ta σ H λx H1=>r x H1 Q
def rI(C:Int->Int->Prop)(g:Int->Int->V):R2:=λx y H Q=>∃i j,x=.int i/\y=.int j/\C i j/\Q (g i j) H
def Qf(g:Int->Int->V):R2:=λx y H Q=>∃i j,x=.int i/\y=.int j/\Q (g i j) H
def rU(g:Int->V):V->Hp->VK->Prop:=λx H Q=>∃i,x=.int i/\Q (g i) H
section
variable{a:Expr}{tc:TE}
theorem Vd(ha:PE X a ta)(hb:PE X b tb){R:V->V->Hp->Prop}(I:Inv X ce σ H s)(h:ta σ H λx H1=>tb σ H1 λy H2=>R x y H2)(hf:∀v u s2 x y H2,Inv X ce σ H2 s2->RelV x v->RelV y u->R x y H2->wpAny (model X.prog X.w) X.A (f v u) Q X.xe s2):
  wpAny (model X.prog X.w) X.A (eval a X.env) (λv s₁=>wpAny (model X.prog X.w) X.A (eval b X.env) (λu s₂=>wpAny (model X.prog X.w) X.A (f v u) Q X.xe s₂) X.xe s₁) X.xe s:=by
 refine cC (ha ce s σ H _ I h) λv s1 ⟨x,H1,I1,r1,q1⟩=>?_;refine cC (hb ce s1 σ H1 _ I1 q1) λu s2 ⟨y,H2,I2,r2,q2⟩=>?_;exact hf v u s2 x y H2 I2 r1 r2 q2
theorem aQ{op:Operator}{r:R2}(ho:qK X (binaryOp op) r)(ha:PE X a ta)(hb:PE X b tb):PE X (.BinOp a op b pos) (Q6 r ta tb):=by intro ce s σ H Q I h;exact wpAny_BinOp (Vd ha hb I h λv u s2 x y H2 I2 rx ry q=>ho ce s2 σ H2 x y v u Q I2 rx ry q)
theorem FR{op:UnaryOp}{r:V->Hp->VK->Prop}(ho:UnR X (unaryOp op) r)(ha:PE X a ta):PE X (.UnaryOp op a pos) (tUn r ta):=by intro ce s σ H Q I h;exact UnaryOp_ (cC (ha ce s σ H _ I h) λv s1 ⟨x,H1,I1,r1,q1⟩=>ho ce s1 σ H1 x v Q I1 r1 q1)
theorem opI{C:Int->Int->Prop}{g:Int->Int->Int}(rule:∀(i j:Int)(t u:Tok)(s:Shared)(Q:Value->Shared->Prop)(E:Value->Shared->Prop),C i j->Q (.int (g i j) s.toks) { s with toks:=s.toks+1 }->wpAny (model X.prog X.w) X.A (f (.int i t) (.int j u)) Q E s):
  qK X f (rI C λi j=>.int (g i j)):=by
 intro ce s σ H x y v u Q I rx ry h;obtain⟨i,j,rfl,rfl,hc,q⟩:=h;obtain⟨t,rfl⟩:=rx;obtain⟨t',rfl⟩:=ry;exact rule i j t t' s _ _ hc ⟨.int (g i j),H,I.tok _,⟨_,rfl⟩,q⟩
theorem Yf{g:Int->Int->Int}(rule:∀(i j:Int)(t u:Tok)(s:Shared)(Q:Value->Shared->Prop)(E:Value->Shared->Prop),Q (.int (g i j) s.toks) { s with toks:=s.toks+1 }->wpAny (model X.prog X.w) X.A (f (.int i t) (.int j u)) Q E s):
  qK X f (Qf λi j=>.int (g i j)):=by
 intro ce s σ H x y v u Q I rx ry h;obtain⟨i,j,rfl,rfl,q⟩:=h;obtain⟨t,rfl⟩:=rx;obtain⟨t',rfl⟩:=ry;exact rule i j t t' s _ _ ⟨.int (g i j),H,I.tok _,⟨_,rfl⟩,q⟩
theorem Q7{g:Int->Int->Bool}(rule:∀(i j:Int)(t u:Tok)(s:Shared)(Q:Value->Shared->Prop)(E:Value->Shared->Prop),Q (.bool (g i j)) s->wpAny (model X.prog X.w) X.A (f (.int i t) (.int j u)) Q E s):
  qK X f (Qf λi j=>.bl (g i j)):=by
 intro ce s σ H x y v u Q I rx ry h;obtain⟨i,j,rfl,rfl,q⟩:=h;obtain⟨t,rfl⟩:=rx;obtain⟨t',rfl⟩:=ry;exact rule i j t t' s _ _ ⟨.bl (g i j),H,I,rfl,q⟩
def aCn(i j:Int):Prop:=0<j/\j<1073741824
def aCo(i j:Int):Prop:=0<=j/\j<=1000000/\i.natAbs<2 ^ 64
def Ve(i j:Int):Prop:=(-(2 ^ 64)<i/\i<2 ^ 64)\/(-(2 ^ 64)<j/\j<2 ^ 64)
theorem Ve.ok{i j:Int}(h:Ve i j):IntMulOk i j:=by
 rcases h with⟨h1,h2⟩|⟨h1,h2⟩
 ·exact .of_left (intBits_le_64 h1 h2)
 exact .of_right (intBits_le_64 h1 h2)
theorem bK:qK X (binaryOp .Add) (Qf λi j=>.int (i+j)):=Yf λ_ _ _ _ _ _ _ q=>add_int q
theorem dv:qK X (binaryOp .Sub) (Qf λi j=>.int (i-j)):=Yf λ_ _ _ _ _ _ _ q=>sub_int q
theorem eQ:qK X (binaryOp .Mult) (rI Ve λi j=>.int (i*j)):=opI λ_ _ _ _ _ _ _ hc q=>mul_int q hc.ok
theorem zN:qK X (binaryOp .FloorDiv) (rI aCn λi j=>.int (i/j)):=opI λi j _ _ _ _ _ hc q=>by have h1:(0:Int)<j:=hc.1;have h2:j<1073741824:=hc.2;exact floordiv_int (by lia) (by rw[Int.fdiv_eq_ediv_of_nonneg i (by lia)];exact q) (.inl (PyProof.noPylong_small (by lia)))
theorem cF:qK X (binaryOp .Mod) (rI (λ_ j=>0<j) λi j=>.int (i%j)):=opI λi j _ _ _ _ _ hc q=>by have h1:(0:Int)<j:=hc;exact mod_int' (by lia) (by rw[Int.fmod_eq_emod_of_nonneg i (by lia)];exact q)
theorem Vf:qK X (binaryOp .Pow) (rI aCo λi j=>.int (i ^ j.toNat)):=opI λ_ _ _ _ _ _ _ hc q=>pow_int_small hc.1 hc.2.1 hc.2.2 q
theorem unI{f:Value->Sem Value}{g:Int->Int}(rule:∀(i:Int)(t:Tok)(s:Shared)(Q:Value->Shared->Prop)(E:Value->Shared->Prop),Q (.int (g i) s.toks) { s with toks:=s.toks+1 }->wpAny (model X.prog X.w) X.A (f (.int i t)) Q E s):
  UnR X f (rU λi=>.int (g i)):=by
 intro ce s σ H x v Q I rx h;obtain⟨i,rfl,q⟩:=h;obtain⟨t,rfl⟩:=rx;exact rule i t s _ _ ⟨.int (g i),H,I.tok _,⟨_,rfl⟩,q⟩
theorem ze:UnR X (unaryOp .USub) (rU λi=>.int (-i)):=unI λ_ _ _ _ _ q=>neg_int q
end
def Yg:V->V->Bool
 |.bw,.bw=>true|.bw,.int _=>true|.int _,.bw=>true|.bw,.bl _=>true|.bl _,.bw=>true|.bw,.str _=>true|.str _,.bw=>true
 |.int _,.int _=>true|.bl _,.bl _=>true|.str _,.str _=>true|.J5 _,.J5 _=>true
 |.int _,.str _=>true|.str _,.int _=>true|.bl _,.str _=>true|.str _,.bl _=>true
 |_,_=>false
def rEq:R2:=λx y H Q=>Yg x y=true/\Q (.bl (decide (x=y))) H
def rNe:R2:=λx y H Q=>Yg x y=true/\Q (.bl (!decide (x=y))) H
theorem KD{i j:Int}:decide (V.int i=V.int j)=(i==j):=by rw[Bool.eq_iff_iff];simp
theorem Ni{i j:Bool}:decide (V.bl i=V.bl j)=(i==j):=by rw[Bool.eq_iff_iff];simp
theorem KE{i j:Str}:decide (V.str i=V.str j)=(i==j):=by rw[Bool.eq_iff_iff];simp
theorem KG{i j:Array UInt8}:decide (V.J5 i=V.J5 j)=(i.toList==j.toList):=by rw[Bool.eq_iff_iff];cases i;cases j;simp
section
variable{a:Expr}{tc:TE}
theorem bj{Q:VK}{k k':Bool}(I:Inv X ce σ H s)(q:Q (.bl k) H)(e:k=k'):EP X ce σ Q (.bool k') s:=by subst e;exact⟨.bl k,H,I,rfl,q⟩
theorem jA:qK X (compareOp .Eq) rEq:=by
 intro ce s σ H x y v u Q I rx ry h;obtain⟨hs,q⟩:=h;cases x with
 |bw =>
  cases rx;cases y with
  |bw=>cases ry;exact PySem.EqNone.eq_none_none (bj I q (by simp))
  |bl j=>cases ry;exact PySem.EqNone.eq_none_bool (bj I q (by simp))
  |int j=>obtain⟨t',rfl⟩:=ry;exact PySem.EqNone.eq_none_int (bj I q (by simp))
  |str j=>obtain⟨t',rfl⟩:=ry;exact PySem.EqNone.eq_none_str (bj I q (by simp))
  |_=>exact absurd (show false=true from hs) Bool.false_ne_true
 |bl i =>
  cases rx;cases y with
  |bw=>cases ry;exact PySem.EqNone.eq_bool_none (bj I q (by simp))
  |bl j=>cases ry;exact eq_bool (bj I q Ni)
  |str j=>obtain⟨t',rfl⟩:=ry;exact PySem.EqMixed.eq_bool_str (bj I q (by simp))
  |_=>exact absurd (show false=true from hs) Bool.false_ne_true
 |int i =>
  obtain⟨t,rfl⟩:=rx;cases y with
  |bw=>cases ry;exact PySem.EqNone.eq_int_none (bj I q (by simp))
  |int j=>obtain⟨t',rfl⟩:=ry;exact eq_int (bj I q KD)
  |str j=>obtain⟨t',rfl⟩:=ry;exact PySem.EqMixed.eq_int_str (bj I q (by simp))
  |_=>exact absurd (show false=true from hs) Bool.false_ne_true
 |str i =>
  obtain⟨t,rfl⟩:=rx;cases y with
  |bw=>cases ry;exact PySem.EqNone.eq_str_none (bj I q (by simp))
  |bl j=>cases ry;exact PySem.EqMixed.eq_str_bool (bj I q (by simp))
  |int j=>obtain⟨t',rfl⟩:=ry;exact PySem.EqMixed.eq_str_int (bj I q (by simp))
  |str j=>obtain⟨t',rfl⟩:=ry;exact eq_str (bj I q KE)
  |_=>exact absurd (show false=true from hs) Bool.false_ne_true
 |J5 i =>
  obtain⟨t,rfl⟩:=rx;cases y with
  |J5 j=>obtain⟨t',rfl⟩:=ry;exact W.eq_bytes (bj I q KG)
  |_=>exact absurd (show false=true from hs) Bool.false_ne_true
 |_=>cases y<;>exact absurd (show false=true from hs) Bool.false_ne_true
theorem vq:qK X (compareOp .NotEq) rNe:=by
 intro ce s σ H x y v u Q I rx ry h;obtain⟨hs,q⟩:=h;cases x with
 |bw =>
  cases rx;cases y with
  |bw=>cases ry;exact PySem.EqNone.ne_none_none (bj I q (by simp))
  |bl j=>cases ry;exact PySem.EqNone.ne_none_bool (bj I q (by simp))
  |int j=>obtain⟨t',rfl⟩:=ry;exact PySem.EqNone.ne_none_int (bj I q (by simp))
  |str j=>obtain⟨t',rfl⟩:=ry;exact PySem.EqNone.ne_none_str (bj I q (by simp))
  |_=>exact absurd (show false=true from hs) Bool.false_ne_true
 |bl i =>
  cases rx;cases y with
  |bw=>cases ry;exact PySem.EqNone.ne_bool_none (bj I q (by simp))
  |bl j=>cases ry;exact ne_bool (bj I q (congrArg not Ni))
  |str j=>obtain⟨t',rfl⟩:=ry;exact PySem.EqMixed.ne_bool_str (bj I q (by simp))
  |_=>exact absurd (show false=true from hs) Bool.false_ne_true
 |int i =>
  obtain⟨t,rfl⟩:=rx;cases y with
  |bw=>cases ry;exact PySem.EqNone.ne_int_none (bj I q (by simp))
  |int j=>obtain⟨t',rfl⟩:=ry;exact ne_int (bj I q (congrArg not KD))
  |str j=>obtain⟨t',rfl⟩:=ry;exact PySem.EqMixed.ne_int_str (bj I q (by simp))
  |_=>exact absurd (show false=true from hs) Bool.false_ne_true
 |str i =>
  obtain⟨t,rfl⟩:=rx;cases y with
  |bw=>cases ry;exact PySem.EqNone.ne_str_none (bj I q (by simp))
  |bl j=>cases ry;exact PySem.EqMixed.ne_str_bool (bj I q (by simp))
  |int j=>obtain⟨t',rfl⟩:=ry;exact PySem.EqMixed.ne_str_int (bj I q (by simp))
  |str j=>obtain⟨t',rfl⟩:=ry;exact ne_str (bj I q (congrArg not KE))
  |_=>exact absurd (show false=true from hs) Bool.false_ne_true
 |J5 i =>
  obtain⟨t,rfl⟩:=rx;cases y with
  |J5 j=>obtain⟨t',rfl⟩:=ry;exact W.ne_bytes (bj I q (congrArg not KG))
  |_=>exact absurd (show false=true from hs) Bool.false_ne_true
 |_=>cases y<;>exact absurd (show false=true from hs) Bool.false_ne_true
theorem lQ:qK X (compareOp .Lt) (Qf λi j=>.bl (decide (i<j))):=Q7 λ_ _ _ _ _ _ _ q=>lt_int q
theorem qL:qK X (compareOp .LtE) (Qf λi j=>.bl (decide (i<=j))):=Q7 λ_ _ _ _ _ _ _ q=>le_int q
theorem zh:qK X (compareOp .Gt) (Qf λi j=>.bl (decide (j<i))):=Q7 λ_ _ _ _ _ _ _ q=>gt_int q
theorem UT:qK X (compareOp .GtE) (Qf λi j=>.bl (decide (j<=i))):=Q7 λ_ _ _ _ _ _ _ q=>ge_int q
theorem DY:qK X (compareOp .Is) (λx y H Q=>y=.bw/\Q (.bl (decide (x=.bw))) H):=by
 intro ce s σ H x y v u Q I rx ry h;obtain⟨rfl,q⟩:=h;cases ry;refine is_none_gen (bj I q ?_);cases x<;>first
  | (cases rx;rfl)
  | (obtain⟨t,rfl⟩:=rx;rfl)
theorem su:qK X (compareOp .IsNot) (λx y H Q=>y=.bw/\Q (.bl (!decide (x=.bw))) H):=by
 intro ce s σ H x y v u Q I rx ry h;obtain⟨rfl,q⟩:=h;cases ry;refine isnot_none_gen (bj I q ?_);cases x<;>first
  | (cases rx;rfl)
  | (obtain⟨t,rfl⟩:=rx;rfl)
theorem af(b:Expr)(h:op≠.In:=by decide)(h2:op≠.NotIn:=by decide):behindInMarks op b=false:=by
 have e1:(op==CmpOp.In)=false:=by cases op<;>first|rfl|exact absurd rfl h
 have e2:(op==CmpOp.NotIn)=false:=by cases op<;>first|rfl|exact absurd rfl h2
 cases b<;>simp[behindInMarks,e1,e2]
theorem fW{r:R2}(ho:qK X (compareOp op) r)(ha:PE X a ta)(hb:PE X b tb)(hm:behindInMarks op b=false):PE X (.Compare a [op] [b] pos) (Q6 r ta tb):=by intro ce s σ H Q I h;exact wpAny_Compare1 (Vd ha hb I h λv u s2 x y H2 I2 rx ry q=>ho ce s2 σ H2 x y v u Q I2 rx ry q) hm
def KH(t:TE):TT:=λσ H Q=>t σ H λx H'=>∃k,x=.bl k/\Q k H'
theorem aZ{r:R2}(ho:qK X (compareOp op) r)(ha:PE X a ta)(hb:PE X b tb)(hm:behindInMarks op b=false):PT X (.Compare a [op] [b] pos) (KH (Q6 r ta tb)):=by
 intro ce s σ H Q I h;refine wpAny_isTrue_Compare1 (cC (ha ce s σ H _ I h) λv s1 ⟨x,H1,I1,r1,q1⟩=>cC (hb ce s1 σ H1 _ I1 q1) λu s2 ⟨y,H2,I2,r2,q2⟩ =>
  cC (ho ce s2 σ H2 x y v u _ I2 r1 r2 q2) λc s3 ⟨z,H3,I3,r3,k,e,q3⟩=>?_) hm
 subst e;cases r3;exact wpAny_truthy_bool ⟨H3,I3,q3⟩
def Nj(r r':R2)(ta tb tc:TE):TE:=λσ H Q=>ta σ H λx H1=>tb σ H1 λy H2=>r x y H2 λz H3=>∃k,z=.bl k /\
 (if k=true then tc σ H3 λw' H4=>r' y w' H4 Q else Q (.bl false) H3)
theorem Nk{r r':R2}(ho:qK X (compareOp op) r)(NW:qK X (compareOp Vg) r')(ha:PE X a ta)(hb:PE X b tb)(hc:PE X c tc)(hm:lastMarks [op,Vg] [b,c]=false:=by with_unfolding_all rfl):PE X (.Compare a [op,Vg] [b,c] pos) (Nj r r' ta tb tc):=by
 intro ce s σ H Q I h;refine Compare_chain (cC (ha ce s σ H _ I h) λv s1 ⟨x,H1,I1,r1,q1⟩=>chain_link (cC (hb ce s1 σ H1 _ I1 q1) λu s2 ⟨y,H2,I2,r2,q2⟩ =>
  cC (ho ce s2 σ H2 x y v u _ I2 r1 r2 q2) λd s3 ⟨z,H3,I3,r3,k,e,q3⟩=>?_)) hm
 subst e;cases r3;refine wpAny_truthy_bool ?_;cases k with
 |false=>exact ite_ff ⟨.bl false,H3,I3,rfl,q3⟩
 |true=>exact ite_tt (chain_last (cC (hc ce s3 σ H3 _ I3 q3) λw' s4 ⟨z',H4,I4,r4,q4⟩=>NW ce s4 σ H4 y z' u w' Q I4 r2 r4 q4))
theorem my{r r':R2}(ho:qK X (compareOp op) r)(NW:qK X (compareOp Vg) r')(ha:PE X a ta)(hb:PE X b tb)(hc:PE X c tc)(hm:lastMarks [op,Vg] [b,c]=false:=by with_unfolding_all rfl):PT X (.Compare a [op,Vg] [b,c] pos) (KH (Nj r r' ta tb tc)):=by
 intro ce s σ H Q I h;refine isTrue_chain (cC (ha ce s σ H _ I h) λv s1 ⟨x,H1,I1,r1,q1⟩=>test_link (cC (hb ce s1 σ H1 _ I1 q1) λu s2 ⟨y,H2,I2,r2,q2⟩ =>
  cC (ho ce s2 σ H2 x y v u _ I2 r1 r2 q2) λd s3 ⟨z,H3,I3,r3,k,e,q3⟩=>?_)) hm
 subst e;cases r3;refine wpAny_truthy_bool ?_;cases k with
 |false =>
  obtain⟨k',e',q'⟩:=q3;cases e';exact ite_ff ⟨H3,I3,q'⟩
 |true =>
  refine ite_tt (test_last (cC (hc ce s3 σ H3 _ I3 q3) λw' s4 ⟨z',H4,I4,r4,q4⟩=>cC (NW ce s4 σ H4 y z' u w' _ I4 r2 r4 q4) λd' s5 ⟨z2,H5,I5,r5,k2,e2,q5⟩=>?_));subst e2;cases r5;exact wpAny_truthy_bool ⟨H5,I5,q5⟩
def Yh(K:W.Frag)(x:V)(H:Hp)(k:Bool):Prop :=
 match x with
 |.bw=>k=false
 |.bl b=>k=b
 |.int i=>k=(i != 0)
 |.str y=>y.length<=sizeLine/\k=((y.length:Int) != 0)
 |.J5 y=>y.size<=sizeLine/\k=((y.size:Int) != 0)
 |.ref p=>(∃xs,ae K H p xs/\k=!xs.isEmpty)\/(∃xs,cT K H p xs/\k=!xs.isEmpty)\/∃io,H p=some (.dK io)/\k=!io.isEmpty
 |_=>False
theorem Hk{κ:Type}{io:List (κ×V)}{vs:List (κ×Value)}(r:KV io vs):(!vs.isEmpty)=!io.isEmpty:=by cases r<;>rfl
theorem zi(r:bJ xs az):(!az.toArray.isEmpty)=!xs.isEmpty:=by cases r<;>simp
theorem zj:(sizeLine:Nat)<2 ^ 63:=by rw[sizeLine_eq];decide
theorem Vh:aCm X (λx H Q=>∃k,Yh X.K x H k/\Q k H):=by
 intro ce s σ H x v Q I rx h;obtain⟨k,e,q⟩:=h;have hl:=zj;have hs:sizeLine=16777216:=sizeLine_eq;cases x with
 |bw =>
  cases rx;have e':k=false:=e;subst e';exact truthy_none ⟨H,I,q⟩
 |bl b =>
  cases rx;have e':k=b:=e;subst e';exact wpAny_truthy_bool ⟨H,I,q⟩
 |int i =>
  obtain⟨t,rfl⟩:=rx;have e':k=(i != 0):=e;subst e';exact PySem.P.truthy_int ⟨H,I,q⟩
 |str y =>
  obtain⟨t,rfl⟩:=rx;obtain⟨hy,e'⟩:y.length<=sizeLine/\k=((y.length:Int) != 0):=e;subst e';exact PySem.P.truthy_str (by lia) ⟨H,I.tok _,q⟩
 |J5 y =>
  obtain⟨t,rfl⟩:=rx;obtain⟨hy,e'⟩:y.size<=sizeLine/\k=((y.size:Int) != 0):=e;subst e';exact W.truthy_bytes (by lia) ⟨H,I.tok _,q⟩
 |ref p =>
  cases rx;have e':(∃xs,ae X.K H p xs/\k=!xs.isEmpty)\/(∃xs,cT X.K H p xs/\k=!xs.isEmpty)\/∃io,H p=some (.dK io)/\k=!io.isEmpty:=e;rcases e' with⟨xs,hx,e'⟩|⟨xs,hx,e'⟩|⟨io,hx,e'⟩
  ·subst e';obtain⟨az,r,pl,hz⟩:=I.list hx;have jp:=r.length;exact wpAny_truthy_list pl.isList (by simp only[size_toArray];lia) ⟨H,I.tok _,by rw[zi r];exact q⟩
  ·subst e';obtain⟨az,r,pl,hz⟩:=I.tuple hx;have jp:=r.length;exact truthy_tuple pl (by simp only[size_toArray];lia) ⟨H,I.tok _,by rw[zi r];exact q⟩
  subst e';obtain⟨hz,hS,vs,r,m⟩:io.length<=sizeLine/\(p==sysModules)=false/\∃vs,KV io vs/\s.heap.DictOf (bZ X.prog X.w) p vs:=I.cK p _ hx;have jp:io.length=vs.length:=Paired.length r;exact wpAny_truthy_dict hS m (by lia) ⟨H,I.tok _,by rw[Hk r];exact q⟩
 |_=>exact(show False from e).elim
theorem vt(ha:PE X a ta)(he:∀whole,isTrue a X.env whole=(do let v <- whole;standAt a.pos;holding [v] (truthy v))):
  PT X a (λσ H Q=>ta σ H λx H'=>∃k,Yh X.K x H' k/\Q k H'):=by
 intro ce s σ H Q I h;exact isTrue_plain (cC (ha ce s σ H _ I h) λv s1 ⟨x,H1,I1,r1,q1⟩=>Vh ce s1 σ H1 x v Q I1 r1 q1) (he _)
theorem vals1{x:V}(r:bJ [x] us):∃u,us=[u]/\RelV x u:=by
 cases r with
 |cons r1 r2=>cases r2;exact⟨_,rfl,r1⟩
theorem vals2{x y:V}(r:bJ [x,y] us):∃u w',us=[u,w']/\RelV x u/\RelV y w':=by
 cases r with
 |cons r1 r2 =>
  cases r2 with
  |cons r3 r4=>cases r4;exact⟨_,_,rfl,r1,r3⟩
theorem LX(hc:X.calm=true):yT X (.builtin "max") (λxs H Q=>∃i j,xs=[.int i,.int j]/\Q (.int (if j>i then j else i)) H):=by
 intro ce s σ H xs us Q I r h;obtain⟨i,j,rfl,q⟩:=h;obtain⟨u,w',rfl,⟨t,rfl⟩,⟨t',rfl⟩⟩:=vals2 r;refine max_two_ints (I.ok.hd hc) λh' tk k=>⟨_,H,I.kept k,?_,q⟩;by_cases hj:j>i
 ·rw[if_pos hj,if_pos hj];exact⟨_,rfl⟩
 rw[if_neg hj,if_neg hj];exact⟨_,rfl⟩
end
structure Hl(h:Heap)(x dx C:Addr)(mA:Str->Option Value):Prop where
 obj:h.get? x=some (W.instObj C dx)
 ns:h.Ns1 dx mA
 ne:dx≠x
theorem LY(n:h.Ns1 dx mA):∃od,h.get? dx=some od/\∀name,W.lookIn name od=some (mA name):=by
 obtain⟨o,es,ep,ho,hd,hk,_,hm⟩:=n;refine⟨o,ho,λname=>?_⟩;have e:=hm name;unfold nsFind findBy at e;rw[<-Array.find?_toList]at e;unfold W.lookIn;rw[hd];dsimp only;split
 ·rename_i y q;rw[q]at e;exact congrArg some e
 rename_i q;rw[q]at e;have a:es.toList.any (·.refKey)=false:=by rw[List.any_eq_false];intro y hy;obtain⟨z,t,Vi⟩:=hk y (Array.mem_toList_iff.mp hy);simp[DictEntry.refKey,Vi]
 have a':¬es.toList.any (·.refKey)=true:=by rw[a];exact Bool.false_ne_true
 rw[if_neg a'];exact congrArg some e
theorem Hl.look{x:Addr}(I:Hl h x dx C mA):∃od,W.InstAt h x (W.instObj C dx) C (some od)/\∀name,W.lookIn name od=some (mA name) :=
 let⟨od,ho,hl⟩:=LY I.ns
 ⟨od,⟨I.obj,rfl,rfl,ho⟩,hl⟩
section
variable{K:W.Frag}{x f:Addr}{v:Value}
theorem get_map(X:K.In s.heap)(I:Hl s.heap x dx C mA)(hg:W.plainGet K C name=true)(hh:W.hasDictIn K C=true)(ha:W.findIn K (.ref C) name=some none)(hv:mA name=some v)(Yi:W.handedIn v=true)(h:Q v { s with toks:=s.toks+1 }):
  wpAny (model prog w) A (getAttr (.ref x) name expr) Q E s:=by
 obtain⟨od,J,hl⟩:=I.look;exact W.get_value X J (W.plainGet_of hg).1 (W.findObj_own hh ha rfl (by rw[hl,hv])) Yi h
theorem Nl{Q:Value×List Value->Shared->Prop}(X:K.In s.heap)(I:Hl s.heap x dx C mA)(hg:W.plainGet K C name=true)(hf:W.findIn K (.ref C) name=some (some (.ref f)))(ht:W.isFn K (.ref f)=true)(hv:mA name=none)(h:Q (.ref f,[.ref x]) s):
  wpAny (model prog w) A (getMethod (.ref x) name pl) Q E s:=by
 obtain⟨od,J,hl⟩:=I.look;exact W.method_fn X J (W.plainGet_of hg).1 (W.plainGet_of hg).2 hf (beq_iff_eq.mp ht) (by show(W.lookIn name od).map (·.isSome)=some false;rw[hl,hv];rfl) h
theorem Q8{ns:List Str}{Q:Unit->Shared->Prop}(X:K.In s.heap)(I:Hl s.heap x dx C mA)(hs:W.findIn K (.ref C) "__setattr__"=some (some (.builtin "object.__setattr__")))(hp:W.plainOver K C=true)(ht:W.takerIn K C name=some none)(hh:W.hasDictIn K C=true)(hw:PySem.Within mA ns)(hsz:ns.length<=sizeLine)(h:∀h',Hl h' x dx C (λy=>if y=name then some v else mA y)->Heap.SameBut dx s.heap h'->Q () { s with heap:=h',toks:=s.toks+2 }):
  wpAny (model prog w) A (setAttr (.ref x) name v) Q E s:=by
 obtain⟨od,J,hl⟩:=I.look;refine W.set_plain X J hs (W.osa_open (s:={ s with toks:=s.toks+1 }) (r:=none) X J hp ht λb=>?_)
 obtain⟨cd,hc,Qz⟩:=W.any_some hh;have hx:s.heap.get? x=some ⟨.ref C,some dx,.plain,#[]⟩:=I.obj;refine bv (ca (bv (bv (wpAny_loadPart hx (bv (W.Looks.here (s:={ s with toks:=s.toks+1 }) (W.looks_clsIn X hc) ?_))))));rw[Qz];refine ca (a:=some dx) (bv (ca (bv ?_)));refine wpAny_nsSet1 (s:={ s with toks:=s.toks+1 }) I.ns λh' hn2 LU=>?_
 obtain⟨oD,esD,epD,hoD,hdD,hcD⟩:=hn2.count (PySem.Within.cons name v hw);refine bv (wpAny_lookBehind hoD (by rw[hdD];exact pastItsLine_dict (le_trans hcD (by rw[length_cons];lia))) ?_);exact ca (h _ ⟨(LU.2 _ (Ne.symm I.ne)).trans I.obj,hn2,I.ne⟩ LU)
theorem Nm{vs:List Value}(X:K.In s.heap)(hm:W.makesIn K C=true)(hi:W.findIn K (.ref C) "__init__"=some (some (.ref f)))(hf:W.typeIn K (.ref f)=some (.type "function"))(h:codeAny (model prog w) (A.under (.builtin "type.__call__" ⟨.ref C::vs,kw⟩)) (.call (.ref f) ⟨.ref (s.heap.objs.size+1)::vs,kw⟩) (W.InitBack (s.heap.objs.size+1) R)
   { s with heap:=(s.heap.push W.emptyDict).push (W.instObj C s.heap.objs.size) }):
  codeAny (model prog w) A (.call (.ref C) ⟨vs,kw⟩) R s:=by
 obtain⟨hh,g,d,t,os⟩:=s;exact W.make_core (W.makes_of X hm) (W.looks_findIn X hi) (λself=>W.bind_fn X self hf) (.inl rfl) h
end
def dC(f:Str)(v:V):List (Str×V)->List (Str×V)
 |[]=>[(f,v)]
 | (g,x)::r=>if g=f then(g,v)::r else(g,x)::dC f v r
theorem yU(f g:Str)(v:V):∀fs:List (Str×V),(dC f v fs).lookup g=if g=f then some v else fs.lookup g
 |[]=>by
  show List.lookup g [(f,v)]=_;by_cases h:g=f
  ·have hb:(g==f)=true:=beq_iff_eq.mpr h;simp only[List.lookup,hb,if_pos h]
  have hb:(g==f)=false:=beq_eq_false_iff_ne.mpr h;simp only[List.lookup,hb,if_neg h]
 | (k,x)::r=>by
  have ih:=yU f g v r;rw[show dC f v ((k,x)::r)=(if k=f then(k,v)::r else(k,x)::dC f v r)from rfl];by_cases hk:k=f
  ·rw[if_pos hk];by_cases h:g=k
   ·have hb:(g==k)=true:=beq_iff_eq.mpr h;simp only[List.lookup,hb,if_pos (h.trans hk)]
   have hb:(g==k)=false:=beq_eq_false_iff_ne.mpr h;simp only[List.lookup,hb,if_neg (λe:g=f=>h (e.trans hk.symm))]
  rw[if_neg hk];by_cases h:g=k
  ·have hb:(g==k)=true:=beq_iff_eq.mpr h;simp only[List.lookup,hb,if_neg (λe:g=f=>hk (h.symm.trans e))]
  have hb:(g==k)=false:=beq_eq_false_iff_ne.mpr h;simp only[List.lookup,hb];exact ih
theorem xE(f:Str)(v:V):∀fs:List (Str×V),f∈(dC f v fs).map (·.1)/\∀g,g∈fs.map (·.1)->g∈(dC f v fs).map (·.1)
 |[]=>⟨by simp[dC],λg h=>by simp at h⟩
 | (k,x)::r=>by
  obtain⟨i1,i2⟩:=xE f v r;rw[show dC f v ((k,x)::r)=(if k=f then(k,v)::r else(k,x)::dC f v r)from rfl];by_cases hk:k=f
  ·rw[if_pos hk];subst hk;exact⟨by simp,λg h=>by simpa using h⟩
  rw[if_neg hk];refine⟨?_,λg h=>?_⟩
  ·rw[List.map_cons];exact mem_cons_of_mem _ i1
  rw[List.map_cons]at h ⊢;rcases mem_cons.mp h with e|e
  ·exact mem_cons.mpr (.inl e)
  exact mem_cons_of_mem _ (i2 g e)
theorem yV(f:Str)(v:V):∀fs:List (Str×V),(dC f v fs).length<=fs.length+1
 |[]=>by simp[dC]
 | (k,x)::r=>by
  have ih:=yV f v r;rw[show dC f v ((k,x)::r)=(if k=f then(k,v)::r else(k,x)::dC f v r)from rfl];by_cases hk:k=f
  ·rw[if_pos hk,length_cons,length_cons];lia
  rw[if_neg hk,length_cons,length_cons];lia
theorem nq.some_of(r:nq (some v) o):∃u,o=some u/\RelV v u:=by
 cases o with
 |none=>exact(show False from r).elim
 |some u=>exact⟨u,rfl,r⟩
theorem nq.none_of(r:nq none o):o=none:=by
 cases o with
 |none=>rfl
 |some u=>exact(show False from r).elim
theorem LZ(r:RelV v u):W.handedIn u=true:=by
 cases v with
 |bw=>cases(show u=Value.none from r);rfl
 |bl b=>cases(show u=Value.bool b from r);rfl
 |int i=>obtain⟨t,e⟩:=(show ∃t,u=Value.int i t from r);cases e;rfl
 |str x=>obtain⟨t,e⟩:=(show ∃t,u=Value.str x t from r);cases e;rfl
 |J5 b=>obtain⟨t,e⟩:=(show ∃t,u=Value.bytes b t from r);cases e;rfl
 |flt b=>obtain⟨t,e⟩:=(show ∃t,u=Value.float b t from r);cases e;rfl
 |ref a=>cases(show u=Value.ref a from r);rfl
 |ty n=>cases(show u=Value.type n from r);rfl
section
variable{P:Program}{H':Hp}{h':Heap}{UO:List (Str×V)}
theorem DZ(cK:tY P w H h)(e:H a=some (.ins C dx fs)):∃mA,Hl h a dx C mA/\(∀f,nq (fs.lookup f) (mA f))/\PySem.Within mA (fs.map (·.1))/\fs.length<=1000/\H dx=some (.own a):=by obtain⟨d,z,ne,ob,mA,n,r,q⟩:=(show cZ P w H h a (.ins C dx fs)from cK a _ e);exact⟨mA,⟨ob,n,ne⟩,r,q,z,d⟩
end
structure La(K:W.Frag)(C:Addr):Prop where
 pg:W.plainGet K C Str.empty=true
 hd:W.hasDictIn K C=true
 po:W.plainOver K C=true
 sa:W.findIn K (.ref C) "__setattr__"=some (some (.builtin "object.__setattr__"))
theorem La.get{K:W.Frag}(c:La K C)(f:Str):W.plainGet K C f=true:=c.pg
def cb(K:W.Frag)(C:Addr)(f:Str):Prop:=W.findIn K (.ref C) f=some none
theorem cb.Yj{K:W.Frag}{f:Str}(n:cb K C f):W.takerIn K C f=some none:=by unfold W.takerIn;rw[show W.findIn K (.ref C) f=some none from n];rfl
structure mz(K:W.Frag)(C:Addr)(m:Str)(f:Addr):Prop where
 at_:W.findIn K (.ref C) m=some (some (.ref f))
 fn:W.isFn K (.ref f)=true
 kp:W.keepIn K (.ref f)=true
section
variable{f:Str}
theorem zk{b:Bool}(I:Inv X ce σ H s)(e:H a=some (.ins C dx fs))(c:La X.K C)(n:cb X.K C f)(l:fs.lookup f=some v)(h:∀u s',Inv X ce σ H s'->RelV v u->Q u s'):wpAny (model X.prog X.w) A (getAttr (.ref a) f b) Q E s:=by obtain⟨mA,O,r,_,_,_⟩:=DZ I.cK e;obtain⟨u,hu,ru⟩:=nq.some_of (v:=v) (o:=mA f) (by rw[<-l];exact r f);exact get_map I.J6 O (c.get f) c.hd n hu (LZ ru) (h u _ (I.tok _) ru)
theorem zl{g:Addr}{Q:Value×List Value->Shared->Prop}(I:Inv X ce σ H s)(e:H a=some (.ins C dx fs))(c:La X.K C)(k:mz X.K C m g)(l:fs.lookup m=none)(h:Q (.ref g,[.ref a]) s):wpAny (model X.prog X.w) A (getMethod (.ref a) m pl) Q E s:=by obtain⟨mA,O,r,_,_,_⟩:=DZ I.cK e;have hn:mA m=none:=nq.none_of (by rw[<-l];exact r m);exact Nl I.J6 O (c.get m) k.at_ k.fn hn h
theorem zm{y:V}{Q:Unit->Shared->Prop}(I:Inv X ce σ H s)(e:H a=some (.ins C dx fs))(c:La X.K C)(n:cb X.K C f)(hl:fs.length<1000)(ry:RelV y u)(h:∀s',Inv X ce σ (dl H a (.ins C dx (dC f y fs))) s'->Q () s'):wpAny (model X.prog X.w) A (setAttr (.ref a) f u) Q E s:=by
 obtain⟨mA,O,r,wi,_,ho⟩:=DZ I.cK e;have hz:(fs.map (·.1)).length<=sizeLine:=by rw[length_map,sizeLine_eq];lia
 refine Q8 I.J6 O c.sa c.po n.Yj c.hd wi hz λh' O' sb=>h _ ?_;have hd:∃o,h'.get? dx=some o:=let⟨o,_,_,e',_⟩:=O'.ns;⟨o,e'⟩;refine I.write (x:=a) (e:=dx) (by rw[e];exact True.intro) (.inr ho) (λb q hb z=>(sb.2 b hb).trans z) hd ?_;refine⟨by rw[aE O.ne];exact ho,?_,O.ne,O'.obj,_,O'.ns,λg=>?_,λg hg=>?_⟩
 ·have:=yV f y fs;lia
 ·show nq ((dC f y fs).lookup g) (if g=f then some u else mA g);rw[yU];by_cases q:g=f
  ·rw[if_pos q,if_pos q];exact ry
  rw[if_neg q,if_neg q];exact r g
 by_cases q:g=f
 ·rw[q];exact(xE f y fs).1
 refine(xE f y fs).2 g (wi g λz=>hg ?_);show(if g=f then some u else mA g)=none;rw[if_neg q];exact z
theorem Inv.made(I:Inv X ce σ H s):Inv X ce σ (dl (dl H s.heap.objs.size (.own (s.heap.objs.size+1))) (s.heap.objs.size+1) (.ins C s.heap.objs.size []))
  { s with heap:=(s.heap.push W.emptyDict).push (W.instObj C s.heap.objs.size) }:=by
 have e1:(s.heap.push W.emptyDict).get? s.heap.objs.size=some W.emptyDict:=Heap.get?_push_size s.heap rfl;have e2:((s.heap.push W.emptyDict).push (W.instObj C s.heap.objs.size)).get? (s.heap.objs.size+1)=some (W.instObj C s.heap.objs.size):=by
  have:=Heap.get?_push_size (s.heap.push W.emptyDict) (o:=W.instObj C s.heap.objs.size) rfl
  rwa [Heap.size_push]at this
 have e3:(s.heap.push W.emptyDict).Ns s.heap.objs.size (λ_=>none):=⟨W.emptyDict,#[],_,e1,rfl,(λe he=>absurd he (by simp)),λ_=>rfl⟩;have I1:=I.laid (a:=s.heap.objs.size) (o:=.own (s.heap.objs.size+1)) (h':=s.heap.push W.emptyDict) (t':=s.toks) (λb u q=>Heap.get?_push_of_some _ q) (le_refl _) ⟨_,e1⟩;refine I1.laid (a:=s.heap.objs.size+1) (o:=.ins C s.heap.objs.size []) (t':=s.toks) (λb u q=>Heap.get?_push_of_some _ q) (Nat.le_of_eq (Heap.size_push _ _)) ?_;have ne:s.heap.objs.size≠s.heap.objs.size+1:=ne_of_lt (lt_succ_self _);refine⟨by rw[aE ne,aA],zero_le _,ne,e2,λ_=>none,(Heap.Ns1.of_empty e3).at λo q=>Heap.get?_push_of_some _ q,λ_=>True.intro,λy hy=>absurd rfl hy⟩
theorem Q9{env:Env}(hb:attributeBase e f env (eval e env)=eval e env)(h:wpAny (model prog w) A (eval e env) (λo s₁=>wpAny (model prog w) A (getAttr o f true) Q E s₁) E s):wpAny (model prog w) A (eval (.Attribute e f pos) env) Q E s :=
 Attribute_any_ h (by rw[arm_eval_Attribute,hb])
end
def Hm(K:W.Frag)(ta:TE)(f:Str):TE:=λσ H Q=>ta σ H λx H1=>∃a C dx fs v,x=.ref a/\H1 a=some (.ins C dx fs)/\La K C/\cb K C f/\fs.lookup f=some v/\Q v H1
def Nn(K:W.Frag)(ta tv:TE)(f:Str):TS:=λD σ H=>tv σ H λy H1=>ta σ H1 λx H2=>∃a C dx fs,x=.ref a/\H2 a=some (.ins C dx fs)/\La K C/\cb K C f/\fs.length<1000 /\
 D.nx σ (dl H2 a (.ins C dx (dC f y fs)))
def aCq(X:Cx)(op:Operator)(rd:V->V->Hp->VK->Prop):Prop :=
 ∀(ce:List (Addr×Obj))(s:Shared)(σ:St)(H:Hp)(x y:V)(u v:Value)(Q:VK),Inv X ce σ H s->RelV x u->RelV y v->rd x y H Q->wpAny (model X.prog X.w) X.A (inplaceOp op u v) (EP X ce σ Q) X.xe s
def Dc(K:W.Frag)(ta tv:TE)(rd:V->V->Hp->VK->Prop)(f:Str):TS:=λD σ H=>ta σ H λx H1=>∃a C dx fs v,x=.ref a/\H1 a=some (.ins C dx fs)/\La K C/\cb K C f/\fs.lookup f=some v /\
 tv σ H1 λy H2=>rd v y H2 λz H3=>∃dx' UO,H3 a=some (.ins C dx' UO)/\UO.length<1000/\D.nx σ (dl H3 a (.ins C dx' (dC f z UO)))
section
variable{o value:Expr}{f:Str}{Dd:Pos}{tv:TE}
theorem Vj(he:PE X e ta)(hb:attributeBase e f X.env (eval e X.env)=eval e X.env):PE X (.Attribute e f pos) (Hm X.K ta f):=by intro ce s σ H Q I h;refine Q9 hb (cC (he ce s σ H _ I h) λu s1 ⟨x,H1,I1,rx,a,C,dx,fs,v,ex,ea,c,n,l,q⟩=>?_);subst ex;obtain rfl:u=Value.ref a:=rx;exact zk I1 ea c n l λu' s2 I2 ru=>⟨v,H1,I2,ru,q⟩
theorem Vk(ha:PE X o ta)(hv:PE X value tv)(hs:swapsWith value (some (.Attribute o f pos')) pos.line X.env=pure false):PS X (.Assign [.Attribute o f pos'] value pos) (Nn X.K ta tv f):=by intro ce s σ H D I h;refine plainObj_wpAny_Assign_Attribute (cC (hv ce s σ H _ I h) λu s1 ⟨y,H1,I1,ry,q⟩=>cC (ha ce s1 σ H1 _ I1 q) λov s2 ⟨x,H2,I2,rx,a,C,dx,fs,ex,ea,c,n,l,q2⟩=>?_) hs;subst ex;obtain rfl:ov=Value.ref a:=rx;exact zm I2 ea c n l ry λs3 I3=>⟨σ,_,I3,q2⟩
theorem Cn{op:Operator}(ha:PE X o ta)(hv:PE X value tv)(hop:aCq X op rd):PS X (.AugAssign (.Attribute o f Dd) op value pos) (Dc X.K ta tv rd f):=by intro ce s σ H D I h;refine wpAny_AugAssign_AttributeAny (cC (ha ce s σ H _ I h) λov s1 ⟨x,H1,I1,rx,a,C,dx,fs,v,ex,ea,c,n,l,q⟩=>?_);subst ex;obtain rfl:ov=Value.ref a:=rx;refine zk I1 ea c n l λu s2 I2 ru=>cC (hv ce s2 σ H1 _ I2 q) λw3 s3 ⟨y,H2,I3,ry,q3⟩=>cC (hop ce s3 σ H2 v y u w3 _ I3 ru ry q3) λw4 s4 ⟨z,H3,I4,rz,dx',UO,ea',l',q4⟩=>?_;exact zm I4 ea' c n l' rz λs5 I5=>⟨σ,_,I5,q4⟩
end
section
variable{c:Value}{b:Bool}
end
structure gQ(k:Nat)(A:Around):Prop where
 hd:A.handled=none
 dp:A.depth+3*k+5<recursionLimit
 un:A.units+16*k+200<cLine
theorem gQ.mono{j:Nat}(r:gQ k A)(h:j<=k):gQ j A:=⟨r.hd,by have:=r.dp;lia,by have:=r.un;lia⟩
theorem gQ.deeper{k:Nat}{A:Around}(r:gQ (k+1) A)(env:Env):gQ k (A.deeper env) :=
 ⟨r.hd,by have:=r.dp;show A.depth+1+3*k+5<_;lia,by have:=r.un;show A.units+3+16*k+200<_;lia⟩
theorem Hn:(A.under (.builtin "type.__call__" ⟨.ref C::us,kw⟩)).depth=A.depth+1:=by
 first|rfl|simp[Around.under,Code.weight,Code.isCreation,Code.isGuard,Code.isCaller,Code.frames,Code.isFrame,guardIds]
theorem Ho:(A.under (.builtin "type.__call__" ⟨.ref C::us,kw⟩)).units=A.units+1:=by
 first|rfl|simp[Around.under,Code.cUnits,Code.frames,Code.isFrame]
theorem gQ.make(r:gQ (k+1) A)(C:Addr)(us:List Value)(kw:List (Str×Value)):gQ k (A.under (.builtin "type.__call__" ⟨.ref C::us,kw⟩)) :=
 ⟨r.hd,by have:=r.dp;rw[Hn];lia,by have:=r.un;rw[Ho];lia⟩
theorem gQ.depth{k:Nat}{A:Around}(r:gQ k A):A.depth<recursionLimit:=by have:=r.dp;lia
theorem gQ.units{k:Nat}{A:Around}(r:gQ k A):A.units+64<cLine:=by have:=r.un;lia
def iB:TA:=λ_ H Q=>Q [] H
def cA(ta:TE)(tr:TA):TA:=λσ H Q=>ta σ H λx H1=>tr σ H1 λxs H2=>Q (x::xs) H2
section
variable{t:TA}
theorem aD:PA X [] iB:=λ_ _ _ _ H Q I h=>Calls.spliced_nil ⟨[],H,I,.nil,h⟩
theorem aB(ha:PE X e te)(hr:PA X es t)(hs:starEach (e::es) X.env=(false,eval e X.env)::starEach es X.env:=by rfl):PA X (e::es) (cA te t):=by intro pos ce s σ H Q I h;rw[hs];show wpAny _ _ (spliced ((false,eval e X.env)::backTo pos (starEach es X.env))) _ _ s;refine Calls.spliced_cons (cC (ha ce s σ H _ I h) λu s1 ⟨x,H1,I1,r1,q1⟩=>?_);exact cC (hr pos ce s1 σ H1 _ I1 q1) λus s2 ⟨xs,H2,I2,r2,q2⟩=>⟨x::xs,H2,I2,.cons r1 r2,q2⟩
def qW(t:TA):TE:=λσ H Q=>t σ H λxs H1=>xs.length<=sizeLine/\∀p,H1 p=none->Q (.ref p) (dl H1 p (.tup xs))
def Np(t:TA):TE:=λσ H Q=>t σ H λxs H1=>xs.length<=sizeLine/\∀p,H1 p=none->Q (.ref p) (dl H1 p (.lst xs))
theorem gT{x1}(h:PA X es t):PE X (.Tuple es x1 pos) (qW t):=by intro ce s σ H Q I hq;refine wpAny_Tuple_spliced (cC (h pos ce s σ H _ I hq) λus s1 ⟨xs,H1,I1,r,z,q⟩=>⟨by rw[<-r.length];exact z,?_⟩);have hf:H1 s1.heap.objs.size=none:=I1.cK.fresh (le_refl _);refine⟨.ref s1.heap.objs.size,dl H1 s1.heap.objs.size (.tup xs),I1.laid (t':=s1.toks) (λb u e=>Heap.get?_push_of_some _ e) (le_refl _) ?_,rfl,q _ hf⟩;exact⟨z,us,r,⟨_,Heap.get?_push_size _ rfl,rfl,_,rfl⟩⟩
theorem ba(h:PA X es t):PE X (.List es pos) (Np t):=by intro ce s σ H Q I hq;refine wpAny_List_spliced (cC (h pos ce s σ H _ I hq) λus s1 ⟨xs,H1,I1,r,z,q⟩=>⟨by rw[<-r.length];exact z,?_⟩);have hf:H1 s1.heap.objs.size=none:=I1.cK.fresh (le_refl _);refine⟨.ref s1.heap.objs.size,dl H1 s1.heap.objs.size (.lst xs),I1.laid (t':=s1.toks) (λb u e=>Heap.get?_push_of_some _ e) (le_refl _) ?_,rfl,q _ hf⟩;exact⟨z,us,0,r,Heap.get?_push_size _ rfl⟩
end
abbrev Sp:=List V->Hp->VK->XK->Prop
abbrev Hq:=List Env->Hp->Shared->XK->Value->Shared->Prop
structure Hs(P:Program)(w:World)(K:W.Frag)(mg:Str->Option Value)(base:Heap)(A:Around)(outer:List Env)(s:Shared)(H:Hp):Prop where
 frames:A.frames=some outer
 mod:Mod K mg base
 bs:∀b o,base.get? b=some o->s.heap.get? b=some o/\H b=none
 Qy:base.objs.size<=s.heap.objs.size
 yw:s.heap.FunFrames base outer
 VT:∀b∈sm outer,H b=none
 cK:tY P w H s.heap
 bare:AllBare s.gens
def CE(outer:List Env)(P:Program)(w:World)(H:Hp)(s:Shared)(Q:VK)(u:Value)(s':Shared):Prop :=
 ∃v H',s'.os=s.os/\AllBare s'.gens/\Un (sm outer) [] H H' s.heap s'.heap/\tY P w H' s'.heap/\RelV v u/\Q v H'
def CR(CX:Hq)(outer:List Env)(P:Program)(w:World)(H:Hp)(s:Shared)(Q:VK)(E:XK)(r:Result)(s':Shared):Prop :=
 match r with
 |.ok (.ret u)=>CE outer P w H s Q u s'
 |.ok _=>False
 |.error e=>CX outer H s E e s'
structure b7(P:Program)(w:World)(K:W.Frag)(mg:Str->Option Value)(base:Heap)(CX:Hq)(k:Nat)(f:Addr)(fd:FuncData)(ps:List Str)(sp:Sp):Prop where
 len:∀vs H Q E,sp vs H Q E->vs.length=ps.length
 run:∀(A:Around)(outer:List Env)(s:Shared)(H:Hp)(args:Args)(us:List Value)(vs:List V)(Q:VK)(E:XK),gQ k A->Hs P w K mg base A outer s H->BindsTo s fd args (ps.zip us)->bJ vs us->sp vs H Q E ->
  codeAny (model P w) A (.call (.ref f) args) (CR CX outer P w H s Q E) s
theorem b7.mono{P:Program}{w:World}{K:W.Frag}{mg:Str->Option Value}{base:Heap}{CX:Hq}{j k:Nat}{f:Addr}{fd:FuncData}{ps:List Str}{sp:Sp}(F:b7 P w K mg base CX j f fd ps sp)(h:j<=k):
  b7 P w K mg base CX k f fd ps sp:=⟨F.len,λA outer s H args us vs Q E hr=>F.run A outer s H args us vs Q E (hr.mono h)⟩
theorem Hs.make{P:Program}{K:W.Frag}(e:Hs P w K mg base A outer s H)(C:Addr)(us:List Value)(kw:List (Str×Value)):
  Hs P w K mg base (A.under (.builtin "type.__call__" ⟨.ref C::us,kw⟩)) outer s H:=⟨by first|exact e.frames|(simpa[Around.under,Code.envs,Code.isFrame,pushEnvs]using e.frames),e.mod,e.bs,e.Qy,e.yw,e.VT,e.cK,e.bare⟩
section
variable{s':Shared}
theorem Inv.Yk(I:Inv X ce σ H s):Hs X.prog X.w X.K X.mg X.base X.A X.stack s H :=
 ⟨I.ok.frames,I.ok.mod,I.bs,le_trans I.ok.Qy I.sz,I.stack,I.DW,I.cK,I.bare⟩
theorem Inv.after{Q:VK}(I:Inv X ce σ H s)(h:CE X.stack X.prog X.w H s Q u s'):EP X ce σ Q u s':=by obtain⟨v,H',os,bare,un,cK,r,q⟩:=h;obtain⟨hh,g,d,t,os'⟩:=s';obtain rfl:os'=s.os:=os;exact⟨v,H',I.call (h':=hh) (g':=g) (d':=d) (t':=t) (ch:=[]) un cK bare (λb z=>absurd z (by simp)),r,q⟩
end
def Nq(sp:Sp)(BX:List V)(E:XK)(t:TA):TE:=λσ H Q=>t σ H λvs H1=>sp (vs++BX) H1 Q E
def KI(C:Addr)(m:Str)(sp:Sp)(BX:List V)(E:XK)(ta:TE)(t:TA):TE:=λσ H Q=>ta σ H λx H1=>∃a dx fs,x=.ref a/\H1 a=some (.ins C dx fs)/\fs.lookup m=none /\
 t σ H1 λvs H2=>sp (x::(vs++BX)) H2 Q E
def Yl(C:Addr)(sp:Sp)(BX:List V)(E:XK)(t:TA):TE:=λσ H Q=>t σ H λvs H1=>∀x dx,H1 x=none->H1 dx=none->dx≠x ->
 sp (.ref x::(vs++BX)) (dl (dl H1 dx (.own x)) x (.ins C dx [])) (λv H2=>v=.bw/\Q (.ref x) H2) E
def Binds(K:W.Frag)(fd:FuncData)(ps:List Str)(ds:List Value):Prop :=
 ∀(s:Shared)(us:List Value),K.In s.heap->(us++ds).length=ps.length->BindsTo s fd ⟨us,[]⟩ (ps.zip (us++ds))
theorem Binds.all{K:W.Frag}(h:∀us:List Value,us.length=ps.length->bindArgs fd ⟨us,[]⟩=pure (ps.zip us)):Binds K fd ps []:=λs us _ hl=>by rw[List.append_nil]at hl ⊢;exact .of_eq (h us hl)
def oE(CX:Hq)(X:Cx)(E:XK):Prop:=∀(ce:List (Addr×Obj))(σ:St)(H:Hp)(s:Shared)(e:Value)(s':Shared),Inv X ce σ H s->CX X.stack H s E e s'->X.xe e s'
section
variable{CX:Hq}{f:Addr}{sp:Sp}{E:XK}{o:Expr}{t:TA}
theorem Ht{Q:VK}(F:b7 X.prog X.w X.K X.mg X.base CX k f fd ps sp)(hr:gQ k X.A)(hb:Binds X.K fd ps ds)(hd:bJ BX ds)(hx:oE CX X E)(I:Inv X ce σ H s)(r:bJ vs us)(h:sp (vs++BX) H Q E):wpAny (model X.prog X.w) X.A (call (.ref f) us) (EP X ce σ Q) X.xe s:=by
 have r2:bJ (vs++BX) (us++ds):=r.append hd;have hl:(us++ds).length=ps.length:=by rw[<-r2.length];exact F.len _ _ _ _ h
 refine wpAny_call (codeAny_mono (F.run X.A X.stack s H ⟨us,[]⟩ (us++ds) (vs++BX) Q E hr I.Yk (hb s us I.J6 hl) r2 h) λr s' hq=>?_);cases r with
 |error e=>exact hx ce σ H s e s' I hq
 |ok fl =>
  cases fl with
  |ret u=>exact I.after hq
  |next=>exact False.elim hq
  |brk=>exact False.elim hq
  |cont=>exact False.elim hq
theorem RA(F:b7 X.prog X.w X.K X.mg X.base CX k f fd ps sp)(hr:gQ k X.A)(hg:Gl X x)(hm:X.mg x=some (.ref f))(hk:W.keepIn X.K (.ref f)=true)(hb:Binds X.K fd ps ds)(hd:bJ BX ds)(hx:oE CX X E)(ha:PA X (e::es) t)(Nr:(x==("__debug__":Str))=false:=by decide)(he:starEach (e::es) X.env=(false,eval e X.env)::starEach es X.env:=by rfl)(tZ:(backTo pos (starEach es X.env)).any (·.1)=false:=by rfl):
  PE X (.Call (.Name x p) (e::es) [] pos) (Nq sp BX E t):=by
 intro ce s σ H Q I h;refine wpAny_Call_Name_kw (zL I hg hm ?_ Nr);refine W.callWith_K (h₀:=X.base) I.ok.mod.Qx hk (cC (ha pos ce s σ H _ I h) λus s1 ⟨vs,H1,I1,r,q⟩=>⟨I1.J6,?_⟩) he tZ;exact Ht F hr hb hd hx I1 r q
theorem lR(he:PE X o ta)(c:La X.K C)(hm:mz X.K C m f)(F:b7 X.prog X.w X.K X.mg X.base CX k f fd ps sp)(hr:gQ k X.A)(hb:Binds X.K fd ps ds)(hd:bJ BX ds)(hx:oE CX X E)(ha:PA X (e::es) t)(FL:starEach (e::es) X.env=(false,eval e X.env)::starEach es X.env:=by rfl)(tZ:(backTo pos (starEach es X.env)).any (·.1)=false:=by rfl)(ht:eval (.Call (.Attribute o m apos) (e::es) [] pos) X.env=(do
   let ov <- eval o X.env
   standAt apos.atName
   let(f,first) <- holding [ov] (getMethod ov m pl)
   callWith pos f first (backTo pos (starEach (e::es) X.env)) (backToKw pos (keywordEach [] X.env))):=by rfl):
  PE X (.Call (.Attribute o m apos) (e::es) [] pos) (KI C m sp BX E ta t):=by
 intro ce s σ H Q I h;refine W.methodCall_KW (pl:=pl) (cC (he ce s σ H _ I h) λu s1 ⟨x,H1,I1,rx,a,dx,fs,ex,ea,l,q⟩=>?_) ht;subst ex;obtain rfl:u=Value.ref a:=rx;refine zl I1 ea c hm l ?_;refine W.callWith_K (first:=[.ref a]) (h₀:=X.base) I.ok.mod.Qx hm.kp (cC (ha pos ce s1 σ H1 _ I1 q) λus s2 ⟨vs,H2,I2,r,q2⟩=>⟨I2.J6,?_⟩) FL tZ;exact Ht (us:=.ref a::us) (vs:=.ref a::vs) F hr hb hd hx I2 (.cons rfl r) q2
theorem dh(he:PE X o ta)(c:La X.K C)(hm:mz X.K C m f)(F:b7 X.prog X.w X.K X.mg X.base CX k f fd ps sp)(hr:gQ k X.A)(hb:Binds X.K fd ps ds)(hd:bJ BX ds)(hx:oE CX X E)(ht:eval (.Call (.Attribute o m apos) [] [] pos) X.env=(do
   let ov <- eval o X.env
   standAt apos.atName
   let(f,first) <- holding [ov] (getMethod ov m pl)
   callWith pos f first (backTo pos (starEach [] X.env)) (backToKw pos (keywordEach [] X.env))):=by rfl):
  PE X (.Call (.Attribute o m apos) [] [] pos) (KI C m sp BX E ta iB):=by
 intro ce s σ H Q I h;refine W.methodCall_KW (pl:=pl) (cC (he ce s σ H _ I h) λu s1 ⟨x,H1,I1,rx,a,dx,fs,ex,ea,l,q⟩=>?_) ht;subst ex;obtain rfl:u=Value.ref a:=rx;refine zl I1 ea c hm l ?_;exact W.callWith_K0 (first:=[.ref a]) I1.J6 hm.kp (Ht (us:=[.ref a]) (vs:=[.ref a]) F hr hb hd hx I1 (.cons rfl .nil) q)
structure Mk(K:W.Frag)(C f:Addr):Prop where
 makes:W.makesIn K C=true
 init:W.findIn K (.ref C) "__init__"=some (some (.ref f))
 fn:W.isFn K (.ref f)=true
 kp:W.keepIn K (.ref C)=true
theorem Nt{Q:VK}(M:Mk X.K C f)(F:b7 X.prog X.w X.K X.mg X.base CX k f fd ps sp)(hr:gQ (k+1) X.A)(hb:Binds X.K fd ps ds)(hd:bJ BX ds)(hx:oE CX X E)(I:Inv X ce σ H s)(r:bJ vs us)(h:∀x dx,H x=none->H dx=none->dx≠x->sp (.ref x::(vs++BX)) (dl (dl H dx (.own x)) x (.ins C dx [])) (λv H2=>v=.bw/\Q (.ref x) H2) E):
  wpAny (model X.prog X.w) X.A (call (.ref C) us) (EP X ce σ Q) X.xe s:=by
 have hq:=h (s.heap.objs.size+1) s.heap.objs.size (I.cK.fresh (le_succ _)) (I.cK.fresh (le_refl _)) (ne_of_lt (lt_succ_self _));have I2:=Inv.made (C:=C) I;have r2:bJ (V.ref (s.heap.objs.size+1)::(vs++BX)) (Value.ref (s.heap.objs.size+1)::(us++ds)):=.cons rfl (r.append hd);have hl:(Value.ref (s.heap.objs.size+1)::us++ds).length=ps.length:=by have e:=r2.length;rw[F.len _ _ _ _ hq]at e;exact e.symm
 refine wpAny_call (Nm (f:=f) I.J6 M.makes M.init (beq_iff_eq.mp M.fn) (codeAny_mono (F.run _ X.stack _ _ ⟨Value.ref (s.heap.objs.size+1)::us,[]⟩ (Value.ref (s.heap.objs.size+1)::(us++ds)) _ _ E (hr.make C us [])
  (I2.Yk.make C us []) (hb _ (Value.ref (s.heap.objs.size+1)::us) I2.J6 hl) r2 hq) λr s' Vl=>?_))
 cases r with
 |error e=>exact hx ce σ _ _ e s' I2 Vl
 |ok fl =>
  cases fl with
  |ret u =>
   obtain⟨v,H',I3,rv,ev,q3⟩:=I2.after Vl;subst ev;exact⟨rv,⟨V.ref (s.heap.objs.size+1),H',I3,rfl,q3⟩⟩
  |next=>exact False.elim Vl
  |brk=>exact False.elim Vl
  |cont=>exact False.elim Vl
theorem KJ(M:Mk X.K C f)(F:b7 X.prog X.w X.K X.mg X.base CX k f fd ps sp)(hr:gQ (k+1) X.A)(hg:Gl X x)(hm:X.mg x=some (.ref C))(hb:Binds X.K fd ps ds)(hd:bJ BX ds)(hx:oE CX X E)(ha:PA X (e::es) t)(Nr:(x==("__debug__":Str))=false:=by decide)(he:starEach (e::es) X.env=(false,eval e X.env)::starEach es X.env:=by rfl)(tZ:(backTo pos (starEach es X.env)).any (·.1)=false:=by rfl):
  PE X (.Call (.Name x p) (e::es) [] pos) (Yl C sp BX E t):=by
 intro ce s σ H Q I h;refine wpAny_Call_Name_kw (zL I hg hm ?_ Nr);refine W.callWith_K (h₀:=X.base) I.ok.mod.Qx M.kp (cC (ha pos ce s σ H _ I h) λus s1 ⟨vs,H1,I1,r,q⟩=>⟨I1.J6,?_⟩) he tZ;exact Nt M F hr hb hd hx I1 r q
end
section
variable{CX:Hq}{f:Addr}{ks:List Str}{sp:Sp}{E:XK}{aCt:Pos}{o:Expr}{t tk:TA}
end
structure aS(N P:List Str)(sc:Scope):Prop where
 kind:sc.kind=.function
 co:sc.isCoroutine=false
 gen:sc.isGenerator=false
 nd:N.Nodup
 pre:N.take P.length=P
 par:∀x∈P,sc.names.lookup x=some .local\/sc.names.lookup x=some .cell
 Vm:∀y∈sc.names,y.2≠.free
theorem Co{kindOf:Str->Option NameKind}{x:Str}:∀{binds:List (Str×Value)}{m:Str->Option Value},(∀v,(x,v)∉binds)->bindL kindOf binds m x=m x
 |[],_,_=>rfl
 | (n,v)::r,m,h=>by
  unfold bindL;rw[Co λw hw=>h w (mem_cons_of_mem _ hw)];split
  ·have:x≠n:=(by rintro rfl;exact h v mem_cons_self);simp[this]
  rfl
theorem Cp{kindOf:Str->Option NameKind}{x:Str}:∀{binds:List (Str×Value)}{m:Str->Option Value},(∀v,(x,v)∉binds)->bindC kindOf binds m x=m x
 |[],_,_=>rfl
 | (n,v)::r,m,h=>by
  unfold bindC;rw[Cp λw hw=>h w (mem_cons_of_mem _ hw)];split
  ·rfl
  have:x≠n:=by rintro rfl;exact h v mem_cons_self
  simp[this]
theorem Cq{kindOf:Str->Option NameKind}{x:Str}{v:Value}:∀{P:List Str}{vs:List Value}{i:Nat}{m:Str->Option Value},P.Nodup->P[i]?=some x->vs[i]?=some v->kindOf x=some .local ->
  bindL kindOf (P.zip vs) m x=some v
 |[],_,_,_,_,h,_,_=>by simp at h
 |_::_,[],_,_,_,_,h,_=>by simp at h
 |p::P,w::vs,0,m,nd,h1,h2,hk=>by simp at h1 h2;subst h1;subst h2;show bindL kindOf ((p,w)::P.zip vs) m p=_;unfold bindL;rw[Co λv hv=>(List.nodup_cons.mp nd).1 (List.of_mem_zip hv).1,if_pos hk];simp
 |p::P,w::vs,i+1,m,nd,h1,h2,hk=>by show bindL kindOf ((p,w)::P.zip vs) m x=_;unfold bindL;exact Cq (i:=i) (List.nodup_cons.mp nd).2 (by simpa using h1) (by simpa using h2) hk
theorem Cr{kindOf:Str->Option NameKind}{x:Str}{v:Value}:∀{P:List Str}{vs:List Value}{i:Nat}{m:Str->Option Value},P.Nodup->P[i]?=some x->vs[i]?=some v->kindOf x≠some .local ->
  bindC kindOf (P.zip vs) m x=some v
 |[],_,_,_,_,h,_,_=>by simp at h
 |_::_,[],_,_,_,_,h,_=>by simp at h
 |p::P,w::vs,0,m,nd,h1,h2,hk=>by simp at h1 h2;subst h1;subst h2;show bindC kindOf ((p,w)::P.zip vs) m p=_;unfold bindC;rw[Cp λv hv=>(List.nodup_cons.mp nd).1 (List.of_mem_zip hv).1,if_neg hk];simp
 |p::P,w::vs,i+1,m,nd,h1,h2,hk=>by show bindC kindOf ((p,w)::P.zip vs) m x=_;unfold bindC;exact Cr (i:=i) (List.nodup_cons.mp nd).2 (by simpa using h1) (by simpa using h2) hk
def start(N:List Str)(vs:List V):St:=vs.map some++List.replicate (N.length-vs.length) none
def Lc(CX:Hq)(P:Program)(w:World)(K:W.Frag)(mg:Str->Option Value)(base:Heap)(N:List Str)(qual:Str)(scope:Scope)(f:Addr)(cd:Value)(A:Around)(outer:List Env)(s:Shared)(H:Hp)(E:XK):Cx where
 prog:=P
 w:=w
 K:=K
 mg:=mg
 base:=base
 A:=A.deeper (envOfC qual scope s.heap.objs.size f cd)
 N:=N
 s₀:=s
 H₀:=H
 env:=envOfC qual scope s.heap.objs.size f cd
 outer:=outer
 stack:=envOfC qual scope s.heap.objs.size f cd::outer
 ex:=[]
 calm:=true
 fn:=λ_=>true
 pn:=[]
 xe:=λe s'=>wpAny (model P w) (A.deeper (envOfC qual scope s.heap.objs.size f cd)) (leaving (envOfC qual scope s.heap.objs.size f cd) e) (λ_ E9=>CX outer H s E e E9) (λe' E9=>CX outer H s E e' E9) s'
theorem FT{sc:Scope}(h:sc.names.lookup x=some .cell):∃c,(cellsFrom n sc.names []).lookup x=some c:=by have q:=W.cellsFrom_some sc.names n [] (.inl h);exact Option.isSome_iff_exists.mp q
theorem Ld{CX:Hq}{P:Program}{K:W.Frag}{f:Addr}{cd:Value}{s1:Shared}{E:XK}(S:aS N ps scope)(hd:A.handled=none)(e0:Hs P w K mg base A outer s H)(hl:vs.length=ps.length)(r:bJ vs us)(x:InCallC s s.heap.objs.size (bindL (envOfC qual scope s.heap.objs.size f cd).kindOf (ps.zip us) λ_=>none) (cellsFrom (s.heap.objs.size+1) scope.names []) (bindC (envOfC qual scope s.heap.objs.size f cd).kindOf (ps.zip us) λ_=>none) s1):
  Inv (Lc CX P w K mg base N qual scope f cd A outer s H E) [] (start N vs) H s1:=by
 have tZ:ps.length<=N.length:=by have:=congrArg List.length S.pre;rw[length_take]at this;lia
 obtain⟨h1,tk,rfl,hk⟩:=x.done;have Ym:∀b:Addr,b∉(Lc CX P w K mg base N qual scope f cd A outer s H E).ex:=λb z=>absurd (show b∈([]:List Addr)from z) (by simp);refine⟨⟨e0.mod,S.kind,rfl,rfl,le_refl _,λy z c h1 h2=>?_,λy hy=>?_,λy c _ h=>?_,λ_=>hd,Around.frames_deeper e0.frames,.inr ⟨rfl,rfl⟩,λb z=>absurd z (Ym b),e0.bs,e0.Qy,λb _ _=>Ym b,λb z=>absurd z (Ym b),e0.yw,e0.VT⟩,
  rfl,e0.bare,Un.kept hk,⟨_,x.toInCall.ns,λi y v h1 h2 h3=>?_⟩,λy c h=>⟨_,x.cell y c h⟩,e0.cK.fresh (le_refl _),λy c h=>?_,λp hp=>absurd (show p∈([]:List (Addr×Obj))from hp) (by simp),e0.cK.kept hk,?_⟩
 ·exact name_of_addr x.apart (PySem.mem_of_lookup h1) (PySem.mem_of_lookup h2)
 ·have hy:scope.names.lookup y=some .cell\/scope.names.lookup y=some .free:=hy;rcases hy with hy|hy
  ·exact FT hy
  exact absurd rfl (S.Vm _ (PySem.mem_of_lookup hy))
 ·exact Nat.le_of_lt (x.above y c (PySem.mem_of_lookup h))
 ·have hi:i<vs.length:=by
   unfold start at h2;by_cases hi:i<vs.length
   ·exact hi
   rw[getElem?_append_right (by simpa using hi)]at h2;rw[List.getElem?_replicate]at h2;split at h2<;>cases h2
  have ha:vs[i]?=some v:=by
   unfold start at h2;rw[getElem?_append_left (by simpa using hi),getElem?_map]at h2;cases e:vs[i]? with
   |none=>rw[e]at h2;cases h2
   |some a=>rw[e]at h2;cases h2;rfl
  obtain⟨u,hu,rv⟩:=r.get ha;have hp:ps[i]?=some y:=by rw[<-S.pre,List.getElem?_take_of_lt (by lia)];exact h1
  have ndP:ps.Nodup:=by rw[<-S.pre];exact S.nd.sublist (List.take_sublist _ _)
  refine⟨u,rv,?_⟩;rcases S.par y (mem_of_getElem? hp)with k|k
  ·exact .inl ⟨k,Cq ndP hp hu k⟩
  obtain⟨c,e⟩:=FT (n:=s.heap.objs.size+1) k;refine .inr ⟨.inl k,c,e,?_⟩;have q:=x.cell y c e;rw[Cr ndP hp hu (by show scope.names.lookup y≠_;rw[k];decide)]at q;exact q
 ·exact e0.cK.fresh (Nat.le_of_lt (x.above y c (PySem.mem_of_lookup h)))
 unfold start;show _=N.length;rw[length_append,length_map,length_replicate];lia
theorem Nu{CX:Hq}{P:Program}{K:W.Frag}{f:Addr}{dV kV doc pm cB ct oc:Value}{an od:Option Addr}{sp:Sp}(lk:K.lookup f=some ⟨oc,od,.func (W.fnOf name qual params body scope dV kV doc pm an cB ct),Le⟩)(HU:W.codeIn K cB qual=true)(S:aS N ps scope)(len:∀vs H Q E,sp vs H Q E->vs.length=ps.length)(zo:∀(A:Around)(outer:List Env)(s:Shared)(H:Hp)(vs:List V)(Q:VK)(E:XK),gQ k (A.deeper (envOfC qual scope s.heap.objs.size f cB))->sp vs H Q E ->
   ∃t,J8 (Lc CX P w K mg base N qual scope f cB A outer s H E) body t/\t { nx:=λ_ H'=>Q .bw H',rt:=Q } (start N vs) H):
  b7 P w K mg base CX (k+1) f (W.fnOf name qual params body scope dV kV doc pm an cB ct) ps sp:=by
 refine⟨len,λA outer s H args us vs Q E hr e0 hb r NO=>?_⟩;have hl:=len _ _ _ _ NO;have KX:K.In s.heap:=e0.mod.Qx.keeps λb o e=>(e0.bs b o e).1;have lim:s.heap.NoLimit:=e0.mod.nolimit.keeps λb o e=>(e0.bs b o e).1;have Yn:∀y∈ps.zip us,scope.names.lookup y.1=some .local\/(scope.names.lookup y.1=some .cell/\((cellsFrom (s.heap.objs.size+1) scope.names []).lookup y.1).isSome=true):=λ⟨n,v⟩ hy=>by
  rcases S.par n (List.of_mem_zip hy).1 with q|q
  ·exact .inl q
  exact .inr ⟨q,W.cellsFrom_some _ _ _ (.inl q)⟩
 refine codeAny_call_function hr.depth (KX _ _ lk) rfl S.co S.gen rfl (W.codeRec_of KX HU) (hb _ _ _ _ ?_);refine wpAny_newFunctionEnv_cells S.kind Yn λenv he s1 x=>?_;subst he;refine⟨lim.keeps x.toInCall.keep,codeAny_func ?_⟩;obtain⟨t,ht,hq⟩:=zo A outer s H vs Q E (hr.deeper _) NO;have I:Inv (Lc CX P w K mg base N qual scope f cB A outer s H E) [] (start N vs) H s1:=Ld S hr.hd e0 hl r x;refine wpAny_mono (ht [] s1 (start N vs) H _ I hq) (λfl s' hs=>?_) λe s' hs=>hs;have fin:∀{σ':St}{H':Hp}{v:V}{u:Value},Inv (Lc CX P w K mg base N qual scope f cB A outer s H E) [] σ' H' s'->RelV v u->Q v H'->CE outer P w H s Q u s' :=
  λ{σ' H' v u} J rv q=>⟨v,H',J.os,J.bare,J.base,J.cK,rv,q⟩
 cases fl with
 |ret u =>
  obtain⟨v,σ',H',J,rv,q⟩:=hs;exact fin J rv q
 |next =>
  obtain⟨σ',H',J,q⟩:=hs;exact fin (v:=V.bw) (u:=Value.none) J rfl q
 |brk =>
  obtain⟨_,_,_,q⟩:=hs;exact False.elim q
 |cont =>
  obtain⟨_,_,_,q⟩:=hs;exact False.elim q
section
variable{t:TA}{id T:String}
def tCB(r:List V->Hp->VK->Prop)(t:TA):TE:=λσ H Q=>t σ H λvs H1=>r vs H1 Q
theorem bP(hc:yT X (.builtin id) r)(hg:Gl X x)(hm:X.mg x=none)(hv:bootBuiltins x=some (.builtin id))(ha:PA X (e::es) t)(hn:x≠"__name__":=by decide)(Nr:(x==("__debug__":Str))=false:=by decide)(he:starEach (e::es) X.env=(false,eval e X.env)::starEach es X.env:=by rfl)(tZ:(backTo pos (starEach es X.env)).any (·.1)=false:=by rfl):PE X (.Call (.Name x p) (e::es) [] pos) (tCB r t):=by intro ce s σ H Q I h;refine wpAny_Call_Name_kw (nu I hg hm hv ?_ hn Nr);exact PyProof.Rows.callWith_builtin1 (cC (ha pos ce s σ H _ I h) λus s1 ⟨vs,H1,I1,r1,q1⟩=>hc ce s1 σ H1 vs us Q I1 r1 q1) he tZ
theorem iC(hc:yT X (.type T) r)(hg:Gl X x)(hm:X.mg x=none)(hv:bootBuiltins x=some (.type T))(ha:PA X (e::es) t)(hn:x≠"__name__":=by decide)(Nr:(x==("__debug__":Str))=false:=by decide)(he:starEach (e::es) X.env=(false,eval e X.env)::starEach es X.env:=by rfl)(tZ:(backTo pos (starEach es X.env)).any (·.1)=false:=by rfl):PE X (.Call (.Name x p) (e::es) [] pos) (tCB r t):=by intro ce s σ H Q I h;refine wpAny_Call_Name_kw (nu I hg hm hv ?_ hn Nr);exact PyProof.Rows.callWith_type1 (cC (ha pos ce s σ H _ I h) λus s1 ⟨vs,H1,I1,r1,q1⟩=>hc ce s1 σ H1 vs us Q I1 r1 q1) he tZ
end
end L2
namespace HT
open PySem PyProof.Rows
section
open PySem.SeqAt
open PySem.AutoSeq1 (wpAny_loadPart')
open PySem.MeetsSeq PySem.MeetsSeq2 PySem.MeetsSeq3
end
section
variable{prog:Program}{w:World}{A:Around}{E:Value->Shared->Prop}{s:Shared}
def gF(n d:Nat):Option Int->Nat
 |none=>d
 |some v=>if v<0 then(v+(n:Int)).toNat else min v.toNat n
theorem FU(n d:Nat):gF n d none=d:=rfl
theorem ji(n d k:Nat):gF n d (some (k:Int))=min k n:=by show(if(k:Int)<0 then((k:Int)+(n:Int)).toNat else min (k:Int).toNat n)=min k n;rw[if_neg (by lia),Int.toNat_natCast]
theorem Vn(n d:Nat)(hd:d<=n)(o:Option Int):gF n d o<=n:=by
 cases o with
 |none=>exact hd
 |some v =>
  show(if v<0 then(v+(n:Int)).toNat else min v.toNat n)<=n;by_cases hv:v<0
  ·rw[if_pos hv];lia
  rw[if_neg hv];exact Nat.min_le_right _ _
theorem KL(v:Int)(n d:Nat):(if v<0 then max (v+(n:Int)) 0 else min v (n:Int))=((gF n d (some v):Nat):Int):=by
 show(if v<0 then max (v+(n:Int)) 0 else min v (n:Int))=(((if v<0 then(v+(n:Int)).toNat else min v.toNat n):Nat):Int);by_cases hv:v<0
 ·simp only[if_pos hv];lia
 simp only[if_neg hv];lia
theorem Hu(lo hi:Option Int)(n:Nat):Builtin.Slice.sliceAdjust lo hi 1 (n:Int)=(((gF n 0 lo:Nat):Int),((gF n n hi:Nat):Int)):=by
 have h1:¬((1:Int)<0):=by lia
 unfold Builtin.Slice.sliceAdjust;simp only[h1,if_false];refine Prod.ext ?_ ?_
 ·cases lo with
  |none=>rfl
  |some v=>exact KL v n 0
 cases hi with
 |none=>rfl
 |some v=>exact KL v n n
theorem Hv(i j:Nat):Builtin.Slice.slicePlaces (i:Int) (j:Int) 1=j-i:=by
 unfold Builtin.Slice.slicePlaces;have h1:(1:Int)>0:=by lia
 simp only[h1,if_true,Int.ediv_one];split<;>lia
theorem zp{v:Value}{o:Option Int}{Q:Option Int->Shared->Prop}(p:IsPart v o)(h:Q o s):wpAny (model prog w) A (Builtin.Slice.slicePartIndex v) Q E s:=by
 cases p with
 |none=>exact slicePart_none h
 |int i t=>exact slicePart_int h
theorem m8{sl:Addr}{vl vu:Value}{lo hi:Option Int}{n:Nat}{Q:Int×Int×Nat->Shared->Prop}(hs:s.heap.IsSliceOf sl vl vu .none)(pl:IsPart vl lo)(pu:IsPart vu hi)(h:Q (((gF n 0 lo:Nat):Int),1,gF n n hi-gF n 0 lo) s):wpAny (model prog w) A (Builtin.Slice.sliceApplied (.ref sl) (pure (n:Int))) Q E s:=by
 obtain⟨os,Vo,RB,Yo⟩:=id hs;unfold Builtin.Slice.sliceApplied Builtin.Slice.sliceFields;refine bv (bv (wpAny_field Vo Yo (x:=vl) rfl (bv (wpAny_field Vo Yo (x:=vu) rfl (bv (wpAny_field Vo Yo (x:=.none) rfl (ca ?_)))))));refine bv (slicePart_none ?_);show wpAny _ _ (if((1:Int)==0)=true then _ else _) _ _ s;rw[if_neg (by decide)];refine bv (zp pl (bv (zp pu (bv (ca ?_)))));show wpAny _ _ (match Builtin.Slice.sliceAdjust lo hi 1 (n:Int)with|(lo,hi)=>pure (lo,(1:Int),Builtin.Slice.slicePlaces lo hi 1)) _ _ s
 rw[Hu lo hi n];show wpAny _ _ (pure (((gF n 0 lo:Nat):Int),(1:Int),Builtin.Slice.slicePlaces ((gF n 0 lo:Nat):Int) ((gF n n hi:Nat):Int) 1)) _ _ s;rw[Hv];exact ca h
theorem Nv(xs:Array Value)(i k:Nat):((List.range k).filterMap λ(m:Nat)=>xs[((i:Int)+(m:Int)*1).toNat]?).toArray=((xs.toList.drop i).take k).toArray:=by
 have e:(λ(m:Nat)=>xs[((i:Int)+(m:Int)*1).toNat]?)=λm=>xs[i+m]?:=by
  funext m
  have:((i:Int)+(m:Int)*1).toNat=i+m:=by lia
  rw[this]
 rw[e];have:=pick_run xs i k;rw[List.filterMap_map]at this;have e2:((λx=>xs[x]?)∘λx=>i+x)=λm=>xs[i+m]?:=rfl;rw[e2]at this;rw[this]
theorem vw{t sl:Addr}{items:Array Value}{vl vu:Value}{lo hi:Option Int}{Q:Value->Shared->Prop}(ht:IsTup s.heap t items)(hs:s.heap.IsSliceOf sl vl vu .none)(pl:IsPart vl lo)(pu:IsPart vu hi)(hw:¬(gF items.size 0 lo=0/\gF items.size items.size hi=items.size))(h:Q (.ref s.heap.objs.size) { s with heap:=s.heap.push { cls:=.type "tuple",data:=.seq ((items.toList.drop (gF items.size 0 lo)).take (gF items.size items.size hi-gF items.size 0 lo)).toArray } })(hsz:items.size<=sizeLine):wpAny (model prog w) A (getItem (.ref t) (.ref sl)) Q E s:=by
 have KN:sizeOk (.seq ((items.toList.drop (gF items.size 0 lo)).take (gF items.size items.size hi-gF items.size 0 lo)).toArray):=by show((items.toList.drop (gF items.size 0 lo)).take (gF items.size items.size hi-gF items.size 0 lo)).toArray.size<=sizeLine;rw[size_toArray,length_take,List.length_drop,Array.length_toList];lia
 have hj:gF items.size items.size hi<=items.size:=Vn _ _ (le_refl _) hi;obtain⟨os,Vo,RB,Yo⟩:=id hs;have hTs:s.TypeIs (.ref sl) "slice":=⟨os,Vo,RB⟩;unfold getItem
 try with_reducible refine wpAny_holding ?_
 first|refine bv (ca ?_)|skip
 refine bv (wpAny_sequenceKey ht.typeIs (by decide) ?_);refine bv (wpAny_callSpecial?_slot (name:=Str.ofString "__getitem__") ht.typeIs PyProof.Rows.slot_tuple_getitem
  (wpAny_call_entry PyProof.Rows.slot_tuple_getitem ht.typeIs entry_tuple_getitem ?_ (args_tuple_getitem _ _)))
 show wpAny _ _ (Builtin.Tuple.tupleItemsOf (.ref t) >>= _) _ _ s;refine bv (tupleItemsOf_ ht ?_);refine bv (wpAny_typeOf hTs ?_);rw[if_pos (by decide)];refine bv (m8 hs pl pu ?_);have Yp:¬((((gF items.size 0 lo:Nat):Int)==0&&(1:Int)==1&&(gF items.size items.size hi-gF items.size 0 lo)==items.size)=true):=by intro q;rw[Bool.and_eq_true,Bool.and_eq_true]at q;have q1:((gF items.size 0 lo:Nat):Int)=0:=eq_of_beq q.1.1;have q2:gF items.size items.size hi-gF items.size 0 lo=items.size:=eq_of_beq q.2;exact hw ⟨by lia,by lia⟩
 show wpAny _ _ (if(((gF items.size 0 lo:Nat):Int)==0&&(1:Int)==1&&(gF items.size items.size hi-gF items.size 0 lo)==items.size)=true then _ else _) _ _ s;rw[if_neg Yp,Nv]
 first
  |exact bv (m:=Builtin.Tuple.tupleExact _) (wpAny_newObj_type (ca ⟨_,rfl,ca h⟩) KN)
  |exact bv (m:=Builtin.Tuple.tupleExact _) (wpAny_newObj_type (bv (ca (ca ⟨_,rfl,ca h⟩))) KN)
  |exact bv (bv (m:=Builtin.Tuple.tupleExact _) (wpAny_newObj_type (ca (ca ⟨_,rfl,ca h⟩)) KN))
  |exact bv (bv (m:=Builtin.Tuple.tupleExact _) (wpAny_newObj_type (ca ⟨_,rfl,ca h⟩) KN))
end
end HT
namespace L2
open PySem PySem.Spec PyProof.Rows
variable{X:Cx}{e:Expr}{pos:Pos}{r:V->Option Int->Option Int->Hp->VK->Prop}{n j t':Nat}{i:Int}{ce:List (Addr×Obj)}{σ:St}{H:Hp}{s:Shared}{p:Addr}{xs ys:List V}{az its':List Value}{f:Array Value->Array Value}{A:Around}{x:V}{u v:Value}{es:List Expr}{prog:Program}{E:Value->Shared->Prop}
abbrev TO:=St->Hp->(Option Int->Hp->Prop)->Prop
def PO(X:Cx)(e:Option Expr)(t:TO):Prop :=
 ∀(ce:List (Addr×Obj))(s:Shared)(σ:St)(H:Hp)(Q:Option Int->Hp->Prop),Inv X ce σ H s->t σ H Q ->
  wpAny (model X.prog X.w) X.A (evalPart e X.env) (λu s'=>∃o H',Inv X ce σ H' s'/\IsPart u o/\Q o H') X.xe s
def RC:TO:=λ_ H Q=>Q none H
def Yq(t:TE):TO:=λσ H Q=>t σ H λx H1=>∃i,x=.int i/\Q (some i) H1
section
variable{te:TE}{lo hi:Option Expr}{tl th:TO}{p2:Pos}
theorem oF:PO X none RC:=by intro ce s σ H Q I h;rw[evalPart_none];exact ca ⟨none,H,I,.none,h⟩
theorem cD(h:PE X e te):PO X (some e) (Yq te):=by intro ce s σ H Q I hw;rw[evalPart_some];refine cC (h ce s σ H _ I hw) λu s1 ⟨x,H1,I1,r1,q1⟩=>?_;obtain⟨i,rfl,q⟩:=q1;obtain⟨t,rfl⟩:=r1;exact⟨some i,H1,I1,.int i t,q⟩
def Yr(X:Cx)(r:V->Option Int->Option Int->Hp->VK->Prop):Prop :=
 ∀(ce:List (Addr×Obj))(s:Shared)(σ:St)(H:Hp)(x:V)(v vl vu:Value)(lo hi:Option Int)(sl:Addr)(Q:VK),Inv X ce σ H s->RelV x v->s.heap.IsSliceOf sl vl vu .none->IsPart vl lo->IsPart vu hi->r x lo hi H Q ->
  ∃T id,typeLookup (.type T) "__getitem__"=pure (some (.builtin id))/\s.TypeIs v T/\wpAny (model X.prog X.w) X.A (getItem v (.ref sl)) (EP X ce σ Q) X.xe s
def tSl(r:V->Option Int->Option Int->Hp->VK->Prop)(te:TE)(tl th:TO):TE:=λσ H Q=>te σ H λx H1=>tl σ H1 λl H2=>th σ H2 λu H3=>r x l u H3 Q
theorem cw(hr:Yr X r)(he:PE X e te)(hl:PO X lo tl)(hu:PO X hi th):PE X (.Subscript e (.Slice lo hi none p2) pos) (tSl r te tl th):=by
 intro ce s σ H Q I h;refine Subscript_ (cC (he ce s σ H _ I h) λv s1 ⟨x,H1,I1,r1,q1⟩=>?_);refine wpAny_Slice (cC (hl ce s1 σ H1 _ I1 q1) λvl s2 ⟨l,H2,I2,pl,q2⟩=>cC (hu ce s2 σ H2 _ I2 q2) λvu s3 ⟨u,H3,I3,pu,q3⟩=>?_);rw[evalPart_none];refine ca ?_;have I4:Inv X ce σ H3 { s3 with heap:=s3.heap.push { cls:=.type "slice",data:=.fields #[vl,vu,.none] } }:=I3.kept (t':=s3.toks) λb ob q=>Heap.get?_push_of_some _ q
 obtain⟨T,id,hT,ht,hg⟩:=hr ce { s3 with heap:=s3.heap.push { cls:=.type "slice",data:=.fields #[vl,vu,.none] } } σ H3 x v vl vu l u s3.heap.objs.size Q I4 r1 (Heap.IsSliceOf.new ..) pl pu q3;show wpAny (model X.prog X.w) X.A (subscriptTail e (.Slice lo hi none p2) v (.ref s3.heap.objs.size)) (EP X ce σ Q) X.xe { s3 with heap:=s3.heap.push { cls:=.type "slice",data:=.fields #[vl,vu,.none] } };exact tail_any (ops:=[.ref s3.heap.objs.size,v]) ht hT hg (by with_unfolding_all rfl)
def cU(xs:List V)(lo hi:Option Int):List V:=(xs.drop (HT.gF xs.length 0 lo)).take (HT.gF xs.length xs.length hi-HT.gF xs.length 0 lo)
theorem yW(xs:List V)(lo hi:Option Int):(cU xs lo hi).length<=xs.length:=by unfold cU;rw[length_take,List.length_drop];lia
def aCv(K:W.Frag):V->Option Int->Option Int->Hp->VK->Prop:=λx lo hi H Q=>∃a xs,x=.ref a/\cT K H a xs /\
 ¬(HT.gF xs.length 0 lo=0/\HT.gF xs.length xs.length hi=xs.length)/\∀p,H p=none->Q (.ref p) (dl H p (.tup (cU xs lo hi)))
theorem Vp:Yr X (aCv X.K):=by
 intro ce s σ H x v vl vu lo hi sl Q I rx hs pl pu h;obtain⟨a,xs,rfl,hx,hw,q⟩:=h;cases rx;obtain⟨az,r,ht,hz⟩:=I.tuple hx;have jp:az.toArray.size=xs.length:=by rw[size_toArray];exact r.length.symm
 refine⟨"tuple",_,PyProof.Rows.slot_tuple_getitem.lookup,ht.typeIs,?_⟩;refine HT.vw ht hs pl pu (by rw[jp];exact hw) ?_ (by rw[jp];exact hz);rw[jp];refine⟨.ref s.heap.objs.size,_,I.laid (t':=s.toks) (o:=.tup (cU xs lo hi)) (λb ob q=>Heap.get?_push_of_some _ q) (le_refl _) ?_,rfl,q _ (I.cK.fresh (le_refl _))⟩;exact⟨le_trans (yW xs lo hi) hz,_,(r.drop (HT.gF xs.length 0 lo)).take (HT.gF xs.length xs.length hi-HT.gF xs.length 0 lo),IsTup.new _ _⟩
end
def Hw(n:Nat)(i:Int):Option Nat:=if 0<=i then(if i<n then some i.toNat else none)else if -(n:Int)<=i then some (i+n).toNat else none
def uL{α:Type}(xs:List α)(i:Int):Option α:=(Hw xs.length i).bind λj=>xs[j]?
theorem KO(h:Hw n i=some j):seqIndex? i n=some j/\j<n/\-(n:Int)<=i/\i<n:=by
 unfold Hw at h;by_cases h0:0<=i
 ·rw[if_pos h0]at h;by_cases h1:i<n
  ·rw[if_pos h1]at h;have e:i.toNat=j:=Option.some.inj h;exact⟨by rw[seqIndex_of h0 h1,e],by lia,by lia,h1⟩
  rw[if_neg h1]at h;cases h
 rw[if_neg h0]at h;by_cases h1:-(n:Int)<=i
 ·rw[if_pos h1]at h;have e:(i+n).toNat=j:=Option.some.inj h;exact⟨by rw[seqIndex_neg (by lia) h1,e],by lia,h1,by lia⟩
 rw[if_neg h1]at h;cases h
theorem KP{α:Type}{xs:List α}{v:α}(h:uL xs i=some v):∃j,seqIndex? i xs.length=some j/\xs[j]?=some v/\j<xs.length/\-(xs.length:Int)<=i/\i<xs.length:=by
 unfold uL at h;cases e:Hw xs.length i with
 |none=>rw[e]at h;cases h
 |some j =>
  rw[e]at h;obtain⟨h1,h2,h3,h4⟩:=KO e;exact⟨j,h1,h,h2,h3,h4⟩
theorem gU{α:Type}{xs:List α}{v:α}(h:xs[j]?=some v):uL xs (j:Int)=some v:=by
 have hj:j<xs.length:=(List.getElem?_eq_some_iff.mp h).1;have e:Hw xs.length (j:Int)=some j:=by unfold Hw;rw[if_pos (by lia),if_pos (by lia)];simp
 unfold uL;rw[e];exact h
def KQ(b:Expr):Prop:=∀o i,subscripted b false o i=operate [o,i] (getItem o i)
def Ys(X:Cx)(r:R2):Prop :=
 ∀(value slice:Expr)(ce:List (Addr×Obj))(s:Shared)(σ:St)(H:Hp)(x y:V)(v u:Value)(Q:VK),Inv X ce σ H s->RelV x v->RelV y u->r x y H Q ->
  subscripted slice false v u=operate [v,u] (getItem v u)->wpAny (model X.prog X.w) X.A (subscriptTail value slice v u) (EP X ce σ Q) X.xe s
def MtR(X:Cx)(id:String)(r:V->List V->Hp->VK->Prop):Prop :=
 ∀(ce:List (Addr×Obj))(s:Shared)(σ:St)(H:Hp)(x:V)(xs:List V)(v:Value)(us:List Value)(Q:VK),Inv X ce σ H s->RelV x v->bJ xs us->r x xs H Q ->
  wpAny (model X.prog X.w) X.A (call (.builtin id) (v::us)) (EP X ce σ Q) X.xe s
section
variable{a b:Expr}{ta tb:TE}
theorem ai{r:R2}(hr:Ys X r)(ha:PE X a ta)(hb:PE X b tb)(hs:KQ b):PE X (.Subscript a b pos) (Q6 r ta tb):=by intro ce s σ H Q I h;exact Subscript_ (Vd ha hb I h λv u s2 x y H2 I2 rx ry q=>hr a b ce s2 σ H2 x y v u Q I2 rx ry q (hs _ _))
def Vq(K:W.Frag):R2:=λx y H Q=>∃p xs i v,x=.ref p/\y=.int i/\ae K H p xs/\uL xs i=some v/\Q v H
def Yt(K:W.Frag):R2:=λx y H Q=>∃p xs i v,x=.ref p/\y=.int i/\cT K H p xs/\uL xs i=some v/\Q v H
theorem RD:Ys X (Vq X.K):=by
 intro value slice ce s σ H x y v u Q I rx ry h hs;obtain⟨p,xs,i,z,rfl,rfl,hq,he,q⟩:=h;cases rx;obtain⟨t,rfl⟩:=ry;obtain⟨az,r,pl,hz⟩:=I.list hq;obtain⟨j,h1,h2,h3,h4,h5⟩:=KP he;obtain⟨w,ew,FV⟩:=r.get h2;have hl:=r.length;have hn:=zj;have fin:EP X ce σ Q w s:=⟨z,H,I,FV,q⟩;by_cases h0:0<=i
 ·have hj:i.toNat=j:=by rw[seqIndex_of h0 h5]at h1;exact Option.some.inj h1
  exact item_listR pl.isList h0 (by lia) (by rw[hj];simpa using ew) fin hs
 have hj:(i+(az.toArray.size:Int)).toNat=j:=by rw[seqIndex_neg (by lia) h4]at h1;rw[size_toArray,<-hl];exact Option.some.inj h1
 exact subscriptTail_builtinR (x:=w) pl.isList.typeIs slot_list_getitem.lookup
  (wpAny_getItem_list_neg (Q:=λr s'=>r=w/\EP X ce σ Q r s') pl.isList (by lia) (by rw[size_toArray]<;>lia) (by lia) (by rw[hj];simpa using ew) ⟨rfl,fin⟩) hs
theorem Vr:Ys X (Yt X.K):=by
 intro value slice ce s σ H x y v u Q I rx ry h hs;obtain⟨p,xs,i,z,rfl,rfl,hq,he,q⟩:=h;cases rx;obtain⟨t,rfl⟩:=ry;obtain⟨az,r,pl,hz⟩:=I.tuple hq;obtain⟨j,h1,h2,h3,h4,h5⟩:=KP he;obtain⟨w,ew,FV⟩:=r.get h2;have hl:=r.length;have hn:=zj;have fin:EP X ce σ Q w s:=⟨z,H,I,FV,q⟩;exact subscriptTail_builtinR (x:=w) pl.typeIs slot_tuple_getitem.lookup
  (getItem_tuple (j:=j) (Q:=λr s'=>r=w/\EP X ce σ Q r s') pl (by lia) (by lia) (by rw[size_toArray,<-hl];exact h1) (by simpa using ew) ⟨rfl,fin⟩) hs
theorem Hx(az:List Value)(n j:Nat)(u:Value):Obj.mapSeq (·.setIfInBounds j u) { cls:=.type "list",data:=.seq az.toArray n }={ cls:=.type "list",data:=.seq (az.set j u).toArray n }:=by simp[Obj.mapSeq]
theorem Inv.lst(I:Inv X ce σ H s)(h:H p=some (.lst xs)):
  ∃(az:List Value)(n:Nat),bJ xs az/\s.heap.get? p=some { cls:=.type "list",data:=.seq az.toArray n }/\xs.length<=sizeLine:=by
 obtain⟨z,az,n,r,e⟩:=I.cK p _ h;exact⟨az,n,r,e,z⟩
theorem Inv.Vs{n':Nat}{f:Obj->Obj}(I:Inv X ce σ H s)(h:H p=some (.lst xs))(ho:s.heap.get? p=some { cls:=.type "list",data:=.seq az.toArray n })(hf:f { cls:=.type "list",data:=.seq az.toArray n }={ cls:=.type "list",data:=.seq its'.toArray n' })(r:bJ ys its')(hz:ys.length<=sizeLine)(t:Nat):
  Inv X ce σ (dl H p (.lst ys)) { s with heap:=s.heap.update p f,toks:=t }:=by
 have e:(s.heap.update p f).get? p=some { cls:=.type "list",data:=.seq its'.toArray n' }:=by rw[Heap.get?_update_self f ho (by rw[hf]<;>rfl),hf]
 refine I.write (x:=p) (e:=p) (by rw[h];trivial) (.inl rfl) (λb u hb q=>(Heap.get?_update_other _ _ (Ne.symm hb)).trans q) ⟨_,e⟩ ?_;exact⟨hz,its',n',r,e⟩
def Yu:V->V->V->Hp->(Hp->Prop)->Prop:=λo i v H Q=>∃p xs k j,o=.ref p/\i=.int k/\H p=some (.lst xs)/\Hw xs.length k=some j/\Q (dl H p (.lst (xs.set j v)))
theorem set_list:Va X Yu:=by
 intro ce s σ H o i v ov iv u Q I ro ri rv h;obtain⟨p,xs,k,j,rfl,rfl,hp,hj,q⟩:=h;cases ro;obtain⟨t,rfl⟩:=ri;obtain⟨az,n,r,ho,hz⟩:=I.lst hp;obtain⟨h1,h2,h3,h4⟩:=KO hj;have hl:=r.length;have hn:=zj;have I':Inv X ce σ (dl H p (.lst (xs.set j v))) { s with heap:=s.heap.update p (Obj.mapSeq (·.setIfInBounds j u)) } :=
  I.Vs hp ho (Hx az n j u) (r.set rv j) (by rw[List.length_set];exact hz) s.toks
 by_cases h0:0<=k
 ·have hk:k.toNat=j:=by rw[seqIndex_of h0 h4]at h1;exact Option.some.inj h1
  exact W.ki_setAt ho h0 (by lia) (by rw[size_toArray,<-hl];exact h4) (by rw[hk];exact⟨_,I',q⟩)
 have hk:(k+(az.toArray.size:Int)).toNat=j:=by rw[seqIndex_neg (by lia) h3]at h1;rw[size_toArray,<-hl];exact Option.some.inj h1
 exact W.ki_setBack ho (by lia) (by rw[size_toArray,<-hl];exact h3) (by lia) (by rw[hk];exact⟨_,I',q⟩)
theorem De(lo hi:Option Int)(n:Nat):(sliceBounds lo hi none n).1=((HT.gF n 0 lo:Nat):Int)/\(sliceBounds lo hi none n).2.1=((HT.gF n n hi:Nat):Int)/\(sliceBounds lo hi none n).2.2=1:=by
 refine⟨?_,?_,rfl⟩
 ·cases lo with
  |none=>simp[sliceBounds,HT.gF]
  |some i =>
   simp only[sliceBounds,HT.gF,Option.getD_none,show(1:Int)>0 by decide,if_true];by_cases h:i<0
   ·simp only[h,if_true]<;>lia
   simp only[h,if_false]<;>lia
 cases hi with
 |none=>simp[sliceBounds,HT.gF]
 |some i =>
  simp only[sliceBounds,HT.gF,Option.getD_none,show(1:Int)>0 by decide,if_true];by_cases h:i<0
  ·simp only[h,if_true]<;>lia
  simp only[h,if_false]<;>lia
theorem Ba(az:List Value)(lo hi:Option Int):slicePick az.toArray lo hi none=((az.drop (HT.gF az.length 0 lo)).take (HT.gF az.length az.length hi-HT.gF az.length 0 lo)).toArray:=by obtain⟨h1,h2,h3⟩:=De lo hi az.toArray.size;unfold slicePick;rw[h1,h2,h3];simp only[sliceRange_one,pick_run,size_toArray]<;>rfl
def Yv(K:W.Frag):V->Option Int->Option Int->Hp->VK->Prop:=λx lo hi H Q=>∃a xs,x=.ref a/\ae K H a xs/\∀p,H p=none->Q (.ref p) (dl H p (.lst (cU xs lo hi)))
theorem RE:Yr X (Yv X.K):=by intro ce s σ H x v vl vu lo hi sl Q I rx hs pl pu h;obtain⟨a,xs,rfl,hx,q⟩:=h;cases rx;obtain⟨az,r,ht,hz⟩:=I.list hx;have jp:=r.length;refine⟨"list",_,slot_list_getitem.lookup,ht.isList.typeIs,?_⟩;refine wpAny_getItem_list_slice ht.isList hs pl pu .none (by simp) ?_ (by rw[size_toArray]<;>lia);rw[Ba,<-jp];refine⟨.ref s.heap.objs.size,_,I.laid (t':=s.toks) (o:=.lst (cU xs lo hi)) (λb ob q=>Heap.get?_push_of_some _ q) (le_refl _) ?_,rfl,q _ (I.cK.fresh (le_refl _))⟩;exact⟨le_trans (yW xs lo hi) hz,_,0,(r.drop (HT.gF xs.length 0 lo)).take (HT.gF xs.length xs.length hi-HT.gF xs.length 0 lo),Heap.get?_push_size _ rfl⟩
def qj:V->Bool
 |.bw=>true
 |.bl _=>true
 |.int _=>true
 |.str _=>true
 |_=>false
def NP:V->V->Bool
 |.bw,.bw=>true
 |.bl a,.bl b=>a==b
 |.bl a,.int b=>(if a then 1 else 0)==b
 |.int a,.bl b=>a==(if b then 1 else 0)
 |.int a,.int b=>a==b
 |.str a,.str b=>a==b
 |_,_=>false
theorem Hy{y:V}(ry:RelV y u)(rx:RelV x v)(fy:qj y=true)(fx:qj x=true):SeqAt.EqAt A s u v (NP y x):=by
 cases y with
 |bw =>
  cases ry;cases x with
  |bw=>cases rx;exact SeqAt.EqAt.same _
  |bl b=>cases rx;exact SeqAt.EqAt.none_bool b
  |int b=>obtain⟨t,rfl⟩:=rx;exact SeqAt.EqAt.none_int b t
  |str b=>obtain⟨t,rfl⟩:=rx;exact SeqAt.EqAt.none_str b t
  |_=>exact absurd (show false=true from fx) Bool.false_ne_true
 |bl a =>
  cases ry;cases x with
  |bw=>cases rx;exact SeqAt.EqAt.bool_none a
  |bl b=>cases rx;exact SeqAt.EqAt.bool_bool a b
  |int b=>obtain⟨t,rfl⟩:=rx;exact SeqAt.EqAt.bool_int a b t
  |str b=>obtain⟨t,rfl⟩:=rx;exact SeqAt.EqAt.bool_str a b t
  |_=>exact absurd (show false=true from fx) Bool.false_ne_true
 |int a =>
  obtain⟨t',rfl⟩:=ry;cases x with
  |bw=>cases rx;exact SeqAt.EqAt.int_none a t'
  |bl b=>cases rx;exact SeqAt.EqAt.int_bool a t' b
  |int b=>obtain⟨t,rfl⟩:=rx;exact SeqAt.EqAt.int_int a t' b t
  |str b=>obtain⟨t,rfl⟩:=rx;exact SeqAt.EqAt.int_str a t' b t
  |_=>exact absurd (show false=true from fx) Bool.false_ne_true
 |str a =>
  obtain⟨t',rfl⟩:=ry;cases x with
  |bw=>cases rx;exact SeqAt.EqAt.str_none a t'
  |bl b=>cases rx;exact SeqAt.EqAt.str_bool a t' b
  |int b=>obtain⟨t,rfl⟩:=rx;exact SeqAt.EqAt.str_int a t' b t
  |str b=>obtain⟨t,rfl⟩:=rx;exact SeqAt.EqAt.str_str a t' b t
  |_=>exact absurd (show false=true from fx) Bool.false_ne_true
 |_=>exact absurd (show false=true from fy) Bool.false_ne_true
def Hz(x:V)(u:Value):Bool:=match u with
 |.none=>NP .bw x
 |.bool b=>NP (.bl b) x
 |.int i _=>NP (.int i) x
 |.str z _=>NP (.str z) x
 |_=>false
theorem Nw{y:V}(r:RelV y u)(f:qj y=true):Hz x u=NP y x:=by
 cases y with
 |bw=>cases r;rfl
 |bl b=>cases r;rfl
 |int i=>obtain⟨t,rfl⟩:=r;rfl
 |str z=>obtain⟨t,rfl⟩:=r;rfl
 |_=>exact absurd (show false=true from f) Bool.false_ne_true
theorem vx{x:V}:∀{xs:List V}{us:List Value},bJ xs us->xs.all qj=true->us.any (Hz x)=xs.any λy=>NP y x
 |_,_,.nil,_=>rfl
 |y::xs,u::us,.cons r t,f=>by rw[List.all_cons,Bool.and_eq_true]at f;rw[List.any_cons,List.any_cons,Nw r f.1,vx t f.2]
theorem qk{A:Around}{s:Shared}{x:V}{v:Value}(rx:RelV x v)(fx:qj x=true):∀{xs:List V}{us:List Value},bJ xs us->xs.all qj=true->∀u∈us,SeqAt.EqAt A s u v (Hz x u)
 |_,_,.nil,_=>λu hu=>by cases hu
 |y::xs,u::us,.cons r t,f=>λu' hu=>by
  rw[List.all_cons,Bool.and_eq_true]at f;rcases mem_cons.mp hu with rfl|hu
  ·rw[Nw r f.1];exact Hy r rx f.1 fx
  exact qk rx fx t f.2 u' hu
def UU(x:V)(xs:List V):Bool:=xs.any λy=>NP y x
def rIn(K:W.Frag)(neg:Bool):R2:=λx y H Q=>∃p xs,y=.ref p/\(ae K H p xs\/cT K H p xs)/\qj x=true/\xs.all qj=true/\Q (.bl (if neg then !UU x xs else UU x xs)) H
theorem Lf:qK X (compareOp .In) (rIn X.K false):=by
 intro ce s σ H x y v u Q I rx ry h;obtain⟨p,xs,rfl,hq,fx,fs,q⟩:=h;cases ry;rcases hq with hq|hq
 ·obtain⟨az,r,pl,hz⟩:=I.list hq;refine SeqAt.in_listAt (Hz x) pl.isList (λw hw=>qk rx fx r fs w (by simpa using hw)) ⟨.bl _,H,I,rfl,?_⟩;rw[show az.toArray.any (Hz x)=az.any (Hz x) by simp,vx r fs];exact q
 obtain⟨az,r,pl,hz⟩:=I.tuple hq;refine SeqAt.in_tupleAt (Hz x) pl (λw hw=>qk rx fx r fs w (by simpa using hw)) ⟨.bl _,H,I,rfl,?_⟩;rw[show az.toArray.any (Hz x)=az.any (Hz x) by simp,vx r fs];exact q
theorem Df:qK X (compareOp .NotIn) (rIn X.K true):=by
 intro ce s σ H x y v u Q I rx ry h;obtain⟨p,xs,rfl,hq,fx,fs,q⟩:=h;cases ry;rcases hq with hq|hq
 ·obtain⟨az,r,pl,hz⟩:=I.list hq;refine SeqAt.notIn_listAt (Hz x) pl.isList (λw hw=>qk rx fx r fs w (by simpa using hw)) ⟨.bl _,H,I,rfl,?_⟩;rw[show az.toArray.any (Hz x)=az.any (Hz x) by simp,vx r fs];exact q
 obtain⟨az,r,pl,hz⟩:=I.tuple hq;refine SeqAt.notIn_tupleAt (Hz x) pl (λw hw=>qk rx fx r fs w (by simpa using hw)) ⟨.bl _,H,I,rfl,?_⟩;rw[show az.toArray.any (Hz x)=az.any (Hz x) by simp,vx r fs];exact q
theorem Dg:yT X (.builtin "len") (λxs H Q=>∃p ys,xs=[.ref p]/\(ae X.K H p ys\/cT X.K H p ys)/\Q (.int ys.length) H):=by
 intro ce s σ H xs us Q I r h;obtain⟨p,ys,rfl,hq,q⟩:=h;obtain⟨u,rfl,rx⟩:=vals1 r;cases rx;have hn:=zj;rcases hq with hq|hq
 ·obtain⟨az,r',pl,hz⟩:=I.list hq;have jp:=r'.length;exact Calls.call_len_list pl.isList (by simp only[size_toArray]<;>lia) ⟨.int ys.length,H,I.tok _,⟨s.toks+1,by rw[size_toArray,jp]⟩,q⟩
 obtain⟨az,r',pl,hz⟩:=I.tuple hq;have jp:=r'.length;exact len_tuple pl (by simp only[size_toArray]<;>lia) ⟨.int ys.length,H,I.tok _,⟨s.toks+1,by rw[size_toArray,jp]⟩,q⟩
theorem Dh:yT X (.type "list") (λxs H Q=>∃p ys,xs=[.ref p]/\(ae X.K H p ys\/cT X.K H p ys)/\∀l,H l=none->Q (.ref l) (dl H l (.lst ys))):=by
 intro ce s σ H xs us Q I r h;obtain⟨p,ys,rfl,hq,q⟩:=h;obtain⟨u,rfl,rx⟩:=vals1 r;cases rx;have fin:∀(az:List Value),bJ ys az->ys.length<=sizeLine->∀(h':Heap)(c':Nat),(∀b o',s.heap.get? b=some o'->h'.get? b=some o') ->
   h'.get? s.heap.objs.size=some { cls:=.type "list",dict:=none,data:=.seq az.toArray c',slots:=#[] }->EP X ce σ Q (.ref s.heap.objs.size) { s with heap:=h' }:=λaz r' hz h' c' kp e =>
  ⟨.ref s.heap.objs.size,_,I.laid (t':=s.toks) kp (le_refl _) (show cZ X.prog X.w _ h' _ (.lst ys)from⟨hz,az,c',r',e⟩),rfl,q _ (I.cK.fresh (le_refl _))⟩
 rcases hq with hq|hq
 ·obtain⟨az,r',pl,hz⟩:=I.list hq;have jp:=r'.length;obtain⟨o,ho,hc,n,hd⟩:=pl.isList;exact call_list_seq p (.inl rfl) ho hc hd (λh' c' kp e=>fin az r' hz h' c' kp e) (by simp only[size_toArray]<;>lia)
 obtain⟨az,r',pl,hz⟩:=I.tuple hq;have jp:=r'.length;obtain⟨o,ho,hc,n,hd⟩:=pl;exact call_list_seq p (.inr rfl) ho hc hd (λh' c' kp e=>fin az r' hz h' c' kp e) (by simp only[size_toArray]<;>lia)
def tyV(K:W.Frag)(T:String)(x:V)(H:Hp):Prop:=match x with
 |.str _=>T="str"
 |.int _=>T="int"
 |.ref p=>(T="list"/\∃xs,ae K H p xs)\/(T="tuple"/\∃o,K.lookup p=some o/\o.cls=.type "tuple"/\o.dict=none) \/
   (T="dict"/\((∃io,H p=some (.dK io))\/∃io,H p=some (.dT io)))\/(T="set"/\∃S n,H p=some (.set S n))
 |_=>False
theorem Vt{T:String}(I:Inv X ce σ H s)(r:RelV x v)(ty:tyV X.K T x H):
  s.TypeIs v T/\∀a,v=.ref a->∃ob,s.heap.get? a=some ob/\ob.dict=none:=by
 cases x with
 |str z =>
  obtain⟨t,rfl⟩:=r;cases(show T="str"from ty);exact⟨typeIs_str s z t,λ_ e=>nomatch e⟩
 |int i =>
  obtain⟨t,rfl⟩:=r;cases(show T="int"from ty);exact⟨typeIs_int s i t,λ_ e=>nomatch e⟩
 |ref p =>
  cases r;rcases ty with⟨rfl,xs,hq⟩|⟨rfl,o,hk,hc,hd⟩|⟨rfl,hk⟩|⟨rfl,S,n,hk⟩
  ·obtain⟨az,_,pl,_⟩:=I.list hq;refine⟨pl.isList.typeIs,λa e=>?_⟩;cases e;obtain⟨o,n,e,c,hd,_⟩:=pl;exact⟨o,e,hd⟩
  ·refine⟨⟨o,I.J6 p o hk,hc⟩,λa e=>?_⟩;cases e;exact⟨o,I.J6 _ o hk,hd⟩
  ·have z:∃o,s.heap.get? p=some o/\o.ExactDict:=by
    rcases hk with⟨io,hk⟩|⟨io,hk⟩
    ·obtain⟨_,_,_,_,o,_,_,e,ex,_⟩:=I.cK p _ hk;exact⟨o,e,ex⟩
    obtain⟨_,_,_,_,o,_,_,e,ex,_⟩:=I.cK p _ hk;exact⟨o,e,ex⟩
   obtain⟨o,e,ex⟩:=z;refine⟨⟨o,e,ex.1⟩,λa e2=>?_⟩;cases e2;exact⟨o,e,ex.2.1⟩
  obtain⟨o,_,_,_,e,ex,_⟩:=I.cK p _ hk;refine⟨⟨o,e,ex.1⟩,λa e2=>?_⟩;cases e2;exact⟨o,e,ex.2.1⟩
 |_=>exact False.elim ty
def tBM(K:W.Frag)(T:String)(r:V->List V->Hp->VK->Prop)(to:TE)(t:TA):TE:=λσ H Q=>to σ H λx H1=>tyV K T x H1/\t σ H1 λxs H2=>r x xs H2 Q
variable{o:Expr}{to:TE}{t:TA}{name:Str}{apos dZ:Pos}{T id:String}{r:V->List V->Hp->VK->Prop}
theorem UW(pa:PlainAttrs T)(slot:Slot T name id)(hty:typeOf (.builtin id)=pure (.type "method_descriptor"))(hm:MtR X id r)(ho:PE X o to)(ha:PA X (e::es) t)(Ny:attributeBase o name X.env (eval o X.env)=eval o X.env:=by rfl)(Vu:((backTo dZ (starEach (e::es) X.env)).all (λx=>!x.1)&&(backToKw dZ (keywordEach [] X.env)).all (λx=>x.1.isSome)
   && decide ((e::es).length+([]:List Keyword).length+(if([]:List Keyword).isEmpty then 0 else 1)<30))=true:=by rfl)(Nz:(apos.endLine==dZ.line)=true:=by rfl)(hs:starEach (e::es) X.env=(false,eval e X.env)::starEach es X.env:=by rfl)(IA:(backTo dZ (starEach es X.env)).any (·.1)=false:=by rfl):
  PE X (.Call (.Attribute o name apos) (e::es) [] dZ) (tBM X.K T r to t):=by
 intro ce s σ H Q I h;refine wpAny_Call_method_late Ny Vu Nz rfl (cC (ho ce s σ H _ I h) λv s1 ⟨x,H1,I1,r1,ty,q1⟩=>?_);obtain⟨h1,h2⟩:=Vt I1 r1 ty;refine⟨T,id,pa,slot,hty,h1,h2,?_⟩;have hA:=ha dZ ce s1 σ H1 _ I1 q1;rw[hs]at hA ⊢;refine Calls.callWith_builtin (by show(false||(backTo dZ (starEach es X.env)).any (·.1))=false;rw[IA]<;>rfl) (Calls.evalArgs_plain ?_);exact cC hA λus s2 ⟨vs,H2,I2,r2,q2⟩=>hm ce s2 σ H2 x vs v us Q I2 r1 r2 q2
end
def MtM(X:Cx)(id:String)(r:V->List V->Hp->VK->Prop):Prop :=
 ∀(ce:List (Addr×Obj))(s:Shared)(σ:St)(H:Hp)(x:V)(xs:List V)(v:Value)(us:List Value)(Q:VK),Inv X ce σ H s->RelV x v->bJ xs us->r x xs H Q ->
  wpAny (model X.prog X.w) X.A (call (.builtin id) (v::us)) (EP X ce σ Q) X.xe s
theorem bJ.one:∀{x:V}{us:List Value},bJ [x] us->∃u,us=[u]/\RelV x u
 |_,_,.cons r .nil=>⟨_,rfl,r⟩
theorem bJ.two:∀{x y:V}{us:List Value},bJ [x,y] us->∃u v,us=[u,v]/\RelV x u/\RelV y v
 |_,_,_,.cons r (.cons q .nil)=>⟨_,_,rfl,r,q⟩
theorem bJ.eraseIdx:∀{xs:List V}{us:List Value}(i:Nat),bJ xs us->bJ (xs.eraseIdx i) (us.eraseIdx i)
 |_,_,_,.nil=>.nil
 |_,_,0,.cons _ t=>t
 |_,_,i+1,.cons r t=>.cons r (bJ.eraseIdx i t)
theorem bJ.reverse{xs:List V}{us:List Value}(h:bJ xs us):bJ xs.reverse us.reverse:=by
 induction h with
 |nil=>exact .nil
 |cons r t ih=>rw[List.reverse_cons,List.reverse_cons];exact bJ.append ih (.cons r .nil)
theorem bJ.rep{xs:List V}{us:List Value}(h:bJ xs us):∀k:Nat,bJ (List.replicate k xs).flatten (List.replicate k us).flatten
 |0=>.nil
 |k+1=>by rw[List.replicate_succ,List.replicate_succ,List.flatten_cons,List.flatten_cons];exact bJ.append h (bJ.rep h k)
theorem Cs{α:Type}:∀(l:List α)(i:Nat),(l.eraseIdx i).length<=l.length
 |[],_=>le_refl _
 |_::_,0=>le_succ _
 |_::r,i+1=>Nat.succ_le_succ (Cs r i)
theorem foldl_rep(az:List Value):∀(k:Nat)(acc:List Value),
  List.foldl (λx1 x2=>x1++x2) acc.toArray (List.replicate k az.toArray)=(acc++(List.replicate k az).flatten).toArray
 |0,acc=>by simp
 |k+1,acc=>by
  have e:acc.toArray++az.toArray=(acc++az).toArray:=by simp
  have e2:(acc++az)++(List.replicate k az).flatten=acc++(List.replicate (k+1) az).flatten:=by rw[List.replicate_succ,List.flatten_cons,List.append_assoc]
  rw[<-e2,<-foldl_rep az k (acc++az),<-e,List.replicate_succ,List.foldl_cons]
section
variable{l b:Addr}{zs:List V}
theorem Inv.Yw(I:Inv X ce σ H s)(hH:H l=some (.lst xs))(e:s.heap.get? l=some { cls:=.type "list",data:=.seq az.toArray n })(hf:f az.toArray=its'.toArray)(hv:bJ ys its')(hz:ys.length<=sizeLine):
  Inv X ce σ (dl H l (.lst ys)) { s with heap:=s.heap.update l (Obj.mapSeq f),toks:=t' }:=by
 have q:=PySem.IsL.update e f;rw[hf]at q;refine I.write (x:=l) (e:=l) (by rw[hH];exact trivial) (.inl rfl) (λb' u hb hu=>(Heap.get?_update_other s.heap (Obj.mapSeq f) (Ne.symm hb)).trans hu) ⟨_,q⟩ ?_;exact⟨hz,its',_,hv,q⟩
theorem Inv.Yx(I:Inv X ce σ H s)(hv:bJ ys az)(hz:ys.length<=sizeLine):
  Inv X ce σ (dl H s.heap.objs.size (.lst ys)) { s with heap:=s.heap.push { cls:=.type "list",data:=.seq az.toArray },toks:=t' } :=
 I.laid (λ_ _ q=>Heap.get?_push_of_some _ q) (le_refl _) ⟨hz,az,0,hv,Heap.get?_push_size _ rfl⟩
theorem Inv.fresh(I:Inv X ce σ H s):H s.heap.objs.size=none:=I.cK.fresh (le_refl _)
theorem Inv.Vv(I:Inv X ce σ H s)(hH:H l=some (.lst xs)):xs.length<=sizeLine/\∃(az:List Value)(n:Nat),bJ xs az/\xs.length=az.length/\s.heap.get? l=some { cls:=.type "list",data:=.seq az.toArray n }:=by obtain⟨z,az,n,r,e⟩:=I.cK l _ hH;exact⟨z,az,n,r,r.length,e⟩
theorem N0(h:n<=sizeLine):Builtin.List.listTooLong n=false:=by unfold Builtin.List.listTooLong;exact decide_eq_false (by lia)
end
section
def Di:V->List V->Hp->VK->Prop:=λx vs H Q=>∃l xs y,x=.ref l/\vs=[y]/\H l=some (.lst xs)/\xs.length<sizeLine/\Q .bw (dl H l (.lst (xs++[y])))
theorem cG:MtM X "list.append" Di:=by intro ce s σ H x vs v us Q I rx rv h;obtain⟨l,xs,y,rfl,rfl,hH,hz,q⟩:=h;cases rx;obtain⟨u,rfl,ru⟩:=rv.one;obtain⟨z,az,n,r,hl,e⟩:=I.Vv hH;refine call_meets F.slot_list_append ⟨_,e,rfl⟩ F.entry_list_append (F.args_list_append_2 _ _) (PySem.list_append l az.toArray n u (by rw[size_toArray];lia)) ⟨e,?_⟩;refine⟨.bw,_,I.Yw (its':=az++[u]) hH e (by simp) (r.append (.cons ru .nil)) ?_,rfl,q⟩;rw[length_append,List.length_singleton];lia
def Vw:V->List V->Hp->VK->Prop:=λx vs H Q=>∃l xs i k y,x=.ref l/\vs=[.int i]/\H l=some (.lst xs)/\-(2 ^ 63)<=i/\i<2 ^ 63/\seqIndex? i xs.length=some k/\xs[k]?=some y/\Q y (dl H l (.lst (xs.eraseIdx k)))
theorem N1:MtM X "list.pop" Vw:=by
 intro ce s σ H x vs v us Q I rx rv h;obtain⟨l,xs,i,k,y,rfl,rfl,hH,h1,h2,hk,hy,q⟩:=h;cases rx;obtain⟨u,rfl,ru⟩:=rv.one;obtain⟨t,rfl⟩:=ru;obtain⟨z,az,n,r,hl,e⟩:=I.Vv hH;obtain⟨w,hw,FV⟩:=r.get hy;refine call_meets F.slot_list_pop ⟨_,e,rfl⟩ F.entry_list_pop (F.args_list_pop_2 _ _)
  (MeetsSeq.list_pop_at l az.toArray n i t k w (fitsIndex_both h1 h2) (by rw[size_toArray,<-hl];exact hk) (by rw[<-Array.getElem?_toList];exact hw) (by rw[size_toArray];lia)) ⟨e,?_⟩
 refine⟨y,_,I.Yw (its':=az.eraseIdx k) hH e ?_ (r.eraseIdx k) ?_,FV,q⟩
 ·show az.toArray.eraseIdxIfInBounds k=(az.eraseIdx k).toArray;rw[List.eraseIdxIfInBounds_toArray]
 have:=Cs xs k;lia
def aCz:R2:=λx y H Q=>∃l k xs,x=.ref l/\y=.int k/\H l=some (.lst xs)/\-(2 ^ 63)<=k/\k<2 ^ 63/\xs.length*k.toNat<=sizeLine /\
 ∀p,H p=none->Q (.ref p) (dl H p (.lst (List.replicate k.toNat xs).flatten))
theorem len_rep{α:Type}(xs:List α)(k:Nat):(List.replicate k xs).flatten.length=k*xs.length:=by
 induction k with
 |zero=>simp
 |succ k ih=>rw[List.replicate_succ,List.flatten_cons,length_append,ih,Nat.succ_mul,Nat.add_comm]
theorem qm:qK X (binaryOp .Mult) aCz:=by
 intro ce s σ H x y v u Q I rx ry h;obtain⟨l,k,xs,rfl,rfl,hH,h1,h2,hz,q⟩:=h;cases rx;obtain⟨t,rfl⟩:=ry;obtain⟨z,az,n,r,hl,e⟩:=I.Vv hH;have jp:az.toArray.size*k.toNat<=sizeLine:=by rw[size_toArray,<-hl];exact hz
 have aC0:¬az.toArray.size*k.toNat>(2 ^ 63-1)/8:=by
  have:(sizeLine:Nat)<=(2 ^ 63-1)/8:=by decide
  lia
 have aC1:¬(!Builtin.List.listFitsIndex k)=true:=by rw[fitsIndex_both h1 h2];exact Bool.false_ne_true
 have Yy:¬Builtin.List.listTooLong (az.toArray.size*k.toNat)=true:=by rw[N0 jp];exact Bool.false_ne_true
 have aC2:List.foldl (λx1 x2=>x1++x2) #[] (List.replicate (if az.toArray.isEmpty=true then 0 else k.toNat) az.toArray)=(List.replicate k.toNat az).flatten.toArray:=by
  have f0:∀m:Nat,List.foldl (λx1 x2=>x1++x2) #[] (List.replicate m az.toArray)=(List.replicate m az).flatten.toArray:=λm=>by have:=foldl_rep az m [];rw[List.nil_append]at this;exact this
  rw[f0];cases az with
  |nil=>simp
  |cons a r'=>rw[if_neg (by simp)]
 refine wpAny_binaryOp_repeat_ref (T:="list") (U:="int") (by decide) ⟨_,e,rfl⟩ (λs'=>typeIs_int s' k t) noFill_list_mul F.fills_int_mul F.slot_int_rmul repeat_list F.slot_int_index.lookup
  (call_meets F.slot_int_rmul (typeIs_int s k t) F.entry_int_rmul (F.args_int_rmul_2 _ _) (int___rmul___int_list k t l az.toArray n)
   ⟨e,rfl,⟨_,e,rfl⟩,call_meets F.slot_list_mul ⟨_,e,rfl⟩ F.entry_list_mul (F.args_list_mul_2 _ _) (AutoListH.list___mul___list_int_3 l az.toArray n k t aC1 aC0 Yy) ⟨e,?_⟩⟩)
 rw[aC2];exact⟨.ref _,_,I.Yx (t':=s.toks) (r.rep k.toNat) (by rw[len_rep,Nat.mul_comm];exact hz),rfl,q _ I.fresh⟩
end
section
variable{w:World}
end
section
end
end L2
namespace Att
open PySem PySem.W PySem.Calls PyProof.Rows
theorem yx{P:Params}{h:Heap}:∀(ns:List Int)(vs:List Value),WellAll P h vs (ns.map WData.int)->IntsAre vs ns:=by
 intro ns
 induction ns with
 |nil =>
  intro vs w;rw[List.map_nil]at w;cases w;exact .nil
 |cons n ns ih =>
  intro vs w;rw[List.map_cons]at w;cases w with
  |cons a b =>
   cases a;exact .cons _ _ (ih _ b)
theorem Lg{l:OpenLaw}{n:Nat}(hn:l.most=some n){P:Params}{h:Heap}{args:List WData}{vals:List Value}(RF:l.row.toRowW.claim.pre args=true)(hwl:WellAll P h vals args):
  ∃a vs ns,vals=[Value.ref a]/\args=[WData.list (ns.map WData.int)]/\h.get? a=some { cls:=.type "list",data:=.seq vs.toArray }/\IntsAre vs ns/\ns.length<=n:=by
 have hsh:WShape.hasAll [] args [.list .int]=true:=(pre_splitW RF).1;have hc:l.pre.holds [] { args:=args }=true:=(pre_splitW RF).2;obtain⟨d,r,rfl,h1,h2⟩:=hasAllW_cons hsh;obtain rfl:=hasAllW_nil h2;obtain⟨xs,rfl,h3⟩:=hasW_list h1;obtain⟨ns,rfl⟩:=items_int h3;have jp:ns.length<=n:=by
  unfold OpenLaw.pre at hc;have h4:(WTm.not (.lt (.lit (.int (n:Int))) (.len (.arg 0)))).holds [] { args:=[.list (ns.map .int)] }=true:=by have h4:=(holds_andW hc).1;rw[hn]at h4;exact h4
  have h5:=condW_of h4 (w_not (w_lt w_lit (w_len_list (w_arg rfl))));rw[length_map]at h5;refine Nat.le_of_not_lt λq=>?_;have q':(n:Int)<((ns.length:Nat):Int):=by lia
  first
   | (rw[decide_eq_true q']at h5;exact absurd h5 (by decide))
   | (simp at h5;lia)
 cases hwl with
 |cons w1 w2 =>
  cases w2;cases w1 with
  |list ho Lh=>exact⟨_,_,ns,rfl,rfl,ho,yx ns _ Lh,jp⟩
theorem Li(l:OpenLaw)(args:List WData):l.row.toRowW.claim.post args (.bool true) args=true :=
 postW_of (r:=l.row.toRowW) (X:=(true==true))
  (show WShape.has [] (.bool true) .bool=true by first|rfl|decide|simp[WShape.has,WShape.arms,WShape.armsAll])
  (show(WTm.eq .res (.lit (.bool true))).value [] { args:=args,res:=some (.bool true),after:=args }=some (.bool (true==true))from w_eq_bool (w_res rfl) w_lit) rfl
theorem FW{l:OpenLaw}{n:Nat}{q:Program}{loose:List Str}{XP:(Str->Option Value)->Heap->Prop}{YP:World->Heap->Prop}{d:DefRec}(hn:l.most=some n)(Yz:d.params.defaults=[])(call:∀(w:World)(s₀ s₁:Shared)(mg mb:Str->Option Value)(fa:Addr)(o:Obj)(pm cd doc:Value)(a:Addr)(vs:List Value)(ns:List Int),
   Ground q loose [] XP w s₀ mg mb s₁.heap->YP w s₁.heap ->
   s₁.heap.get? fa=some o->o.data=.func (docDef d.name d.params d.body d.scope pm cd doc)->s₁.heap.CodeRec cd d.name->mg d.name=some (.ref fa) ->
   s₁.heap.get? a=some { cls:=.type "list",data:=.seq vs.toArray }->IntsAre vs ns->ns.length<=n->s₁.gens=#[] ->
   codeAny (model l.prog w) callerA (.call (.ref fa) ⟨[.ref a],[]⟩) (λr s'=>r=.ok (.ret (.bool true))/\OldK s₁.heap s'.heap/\s'.os=s₁.os/\AllBare s'.gens) s₁):
  WalkO q loose XP YP l.row.toRowW d [] (λf vs=>PySem.call f vs):=by
 intro w s₀ s₁ mg mb G Y fa o pm cd doc dV kV ho hd HU hD Vy hg args vals as RF aG9 hrd hwl hlo;obtain rfl:dV=.none:=Dflts.none hD Yz;obtain rfl:kV=.none:=Dflts.noKw hD;obtain⟨a,vs,ns,rfl,rfl,Vz,hints,jp⟩:=Lg hn RF hwl;refine enter_call (codeAny_mono (call w s₀ s₁ mg mb fa o pm cd doc a vs ns G Y ho (fd_plain hd) HU Vy Vz hints jp hg) λr s' hq=>?_);obtain⟨rfl,h2,h3,h4⟩:=hq;exact⟨.inl ⟨.bool true,.bool true,[],rfl,λ_=>rfl,.bool true,Li l _,λ_=>⟨List.Pairwise.nil,λ_ hm=>(nomatch hm)⟩⟩,h2,h3,h4⟩
section
variable{prog:Program}{w:World}{A:Around}{E:Value->Shared->Prop}{s:Shared}{K:Frag}
end
end Att
namespace L2
open PySem PySem.Spec PyProof.Rows
variable{w:World}{mg mb:Str->Option Value}{CX:World->Hq}{k n t' i x1:Nat}{fa a l globals it C b p D:Addr}{fd:FuncData}{x qual y:Str}{sp:Sp}{s₁ s:Shared}{vs Y6 az:List Value}{ns:List Int}{q prog:Program}{loose ps Nc N:List Str}{XP:(Str->Option Value)->Heap->Prop}{YP:World->Heap->Prop}{d:DefRec}{st:Stmt}{f F:Nat->V}{oc doc cB:Value}{od an:Option Addr}{Le:Array (Option Value)}{A:Around}{X:Cx}{pos py:Pos}{H H':Hp}{xs:List V}{env:Env}{scope:Scope}{E:Value->Shared->Prop}{cl:List (Str×Addr)}{Q:VK}{R:Result->Shared->Prop}{elt iter e e1 e2:Expr}{ifs es elts:List Expr}{ce:List (Addr×Obj)}{σ:St}{ix:List (Option Nat)}{fp ch:List Addr}{t:TA}{g:TG}{tt:TT}{te:TE}{tn:Nat->Heap->Prop}{h' h:Heap}{outer:List Env}{B:St->Hp->Prop}{o:HO}{newId:String}{G:Array GenState->Array GenState->Prop}
theorem Ct:∀{vs:List Value}{ns:List Int},IntsAre vs ns->bJ (ns.map V.int) vs
 |_,_,.nil=>.nil
 |_,_,.cons n t h=>.cons ⟨t,rfl⟩ (Ct h)
def V0(H:Hp):Prop:=∀b,H b=none\/∃o xs,H b=some (.NJ o (.lst xs))
theorem N3{P:Program}{K:W.Frag}{CX:Hq}(KX:K.In s₁.heap)(Y0:s₁.heap.Ns mainGlobals mg)(hb:s₁.heap.Ns builtinsNs mb)(hbb:∀x:Str,x≠"__name__"->mb x=bootBuiltins x)(aC4:s₁.heap.NoLimit)(hg:s₁.gens=#[])(ha:s₁.heap.get? a=some { cls:=.type "list",data:=.seq vs.toArray })(hi:IntsAre vs ns)(hl:ns.length<=sizeLine)(hr:gQ k callerA)(F:∀base:Heap,K.In base->base.Ns mainGlobals mg->b7 P w K mg base CX k fa fd [x] sp)(Y1:∀(s:Shared)(u:Value),BindsTo s fd ⟨[u],[]⟩ [(x,u)])(NO:∀H:Hp,V0 H->ae K H a (ns.map V.int)->sp [.ref a] H (λv _=>v=.bl true) λ_ _ _=>False)(hCX:∀H e s',CX [] H s₁ (λ_ _ _=>False) e s'->False):
  codeAny (model P w) callerA (.call (.ref fa) ⟨[.ref a],[]⟩) (λr s'=>r=.ok (.ret (.bool true))/\OldK s₁.heap s'.heap/\s'.os=s₁.os/\AllBare s'.gens) s₁:=by
 have rv:=Ct hi;have aC6:=hi.length;have core:∀H:Hp,V0 H->ae K H a (ns.map V.int)->tY P w H s₁.heap->(∀b,H b≠none->b=a)->(H a≠none->K.lookup a=none) ->
   codeAny (model P w) callerA (.call (.ref fa) ⟨[.ref a],[]⟩) (λr s'=>r=.ok (.ret (.bool true))/\OldK s₁.heap s'.heap/\s'.os=s₁.os/\AllBare s'.gens) s₁:=by
  intro H hO hS cK hA hK;have KR:∀{b:Addr}{o:Obj},s₁.heap.get? b=some o->H b=none->(DV s₁.heap H).get? b=some o:=λe n=>NV e n;have Ym:∀{b:Addr}{o:Obj}{es:Array DictEntry}{ep:Nat},s₁.heap.get? b=some o->o.data=.dict es ep->H b=none:=λ{b o es ep} e d=>by
   cases q:H b with
   |none=>rfl
   |some u =>
    have e':b=a:=hA b (by rw[q];simp);subst e';rw[ha]at e;cases e;have d':Data.seq vs.toArray _=Data.dict es ep:=d;cases d'
  have nsK:∀{b:Addr}{m:Str->Option Value},s₁.heap.Ns b m->(DV s₁.heap H).Ns b m:=λ{b m} ⟨o,es,ep,e,d,r⟩=>⟨o,es,ep,KR e (Ym e d),d,r⟩;have hKb:K.In (DV s₁.heap H):=λb o e=>KR (KX b o e) (by
   cases q:H b with
   |none=>rfl
   |some u =>
    have e':b=a:=hA b (by rw[q];simp);subst e';rw[hK (by rw[q];simp)]at e;cases e)
  have hM:Mod K mg (DV s₁.heap H):=⟨hKb,nsK Y0,⟨mb,nsK hb,hbb⟩,let⟨mc,h1,h2⟩:=aC4;⟨mc,nsK h1,h2⟩⟩;have e0:Hs P w K mg (DV s₁.heap H) callerA [] s₁ H:=⟨rfl,hM,λb o e=>Qw e,Nat.le_of_eq (LR _ _),trivial,λb hb=>absurd (show b∈([]:List Addr)from hb) (by simp),cK,.of_eq hg⟩;refine codeAny_mono ((F _ hKb (nsK Y0)).run callerA [] s₁ H ⟨[.ref a],[]⟩ [.ref a] [.ref a] _ _ hr e0 (Y1 s₁ (.ref a)) (.cons rfl .nil) (NO H hO hS)) λr s' h=>?_;cases r with
  |error e=>exact(hCX H e s' h).elim
  |ok fl =>
   cases fl with
   |next=>exact False.elim h
   |brk=>exact False.elim h
   |cont=>exact False.elim h
   |ret u =>
    obtain⟨v,H',os,bare,un,aC7,r',q⟩:=h;have q':v=.bl true:=q;subst q';obtain rfl:u=Value.bool true:=r';refine⟨rfl,OldK.of_keep λb o e=>?_,os,bare⟩;cases q:H b with
    |none=>exact un.keep b o e q (by intro z;exact absurd (show b∈([]:List Addr)from z) (by simp)) (by simp)
    |some u =>
     rcases hO b with z|⟨ob,xs,z⟩
     ·rw[q]at z;cases z
     have z2:=un.yv b ob _ z;obtain⟨e1,_⟩:=cK b _ z;obtain⟨e2,_⟩:=aC7 b _ z2;rw[e]at e1;cases e1;exact e2
 cases hk:K.lookup a with
 |some o =>
  have e:=KX a o hk;rw[ha]at e;cases e;refine core (λ_=>none) (λ_=>.inl rfl) (.inr ⟨_,vs.toArray,_,hk,rfl,rfl,rfl,by rw[size_toArray,aC6];exact hl,by simpa using rv⟩) (λb u z=>by have z':(none:Option HO)=some u:=z;cases z') (λb z=>absurd rfl z) λz=>absurd rfl z
 |none =>
  refine core (λb=>if b=a then some (.NJ { cls:=.type "list",data:=.seq vs.toArray } (.lst (ns.map V.int)))else none) (λb=>?_) (.inl (.inr ⟨{ cls:=.type "list",data:=.seq vs.toArray },if_pos rfl⟩)) (λb u z=>?_) (λb z=>?_) λ_=>hk
  ·by_cases hb:b=a
   ·exact .inr ⟨_,_,if_pos hb⟩
   exact .inl (if_neg hb)
  ·by_cases hb:b=a
   ·have z':=(if_pos hb).symm.trans z;cases z';subst hb;exact⟨ha,by rw[length_map];exact hl,vs,_,rv,ha⟩
   have z':=(if_neg hb).symm.trans z;cases z'
  by_cases hb:b=a
  ·exact hb
  exact absurd (if_neg hb) z
abbrev cL{K:W.Frag}{h:Heap}(_:K.In h):W.Frag:=K
theorem RG{l:W.OpenLaw}{K:Params->W.Frag}{sp:World->Sp}(hn:l.most=some n)(hn2:n<=sizeLine)(Yz:d.params.defaults=[])(hr:gQ k callerA)(hY:∀(w:World)(h:Heap),YP w h->(K w.params).In h)(F:∀(w:World)(mg:Str->Option Value)(fa:Addr)(h:Heap),(K w.params).In h->h.Ns mainGlobals mg->mg d.name=some (.ref fa) ->
   ∃fd:FuncData,(∀(s:Shared)(u:Value),BindsTo s fd ⟨[u],[]⟩ [(x,u)]) /\
    ∀base:Heap,(K w.params).In base->base.Ns mainGlobals mg->b7 l.prog w (K w.params) mg base (CX w) k fa fd [x] (sp w))(NO:∀(w:World)(H:Hp)(a:Addr)(ns:List Int),ns.length<=n->V0 H->ae (K w.params) H a (ns.map V.int)->sp w [.ref a] H (λv _=>v=.bl true) λ_ _ _=>False)(hCX:∀(w:World)(H:Hp)(s:Shared)(e:Value)(s':Shared),CX w [] H s (λ_ _ _=>False) e s'->False):
  W.WalkO q loose XP YP l.row.toRowW d [] (λf vs=>PySem.call f vs):=by
 refine Att.FW hn Yz λw s₀ s₁ mg mb fa o pm cd doc a vs ns G Y ho hd HU Vy Vz hints jp hg=>?_;have KX:=hY w _ Y;obtain⟨fd,hb,hF⟩:=F w mg fa _ KX G.T.g Vy;exact N3 KX G.T.g G.T.b G.T.builtins G.T.nolimit hg Vz hints (le_trans jp hn2) hr hF hb (λH hO hS=>NO w H a ns jp hO hS) λH e s'=>hCX w H s₁ e s'
def bq(s:Stmt):Arguments:=match s with
 |.FunctionDef _ a _ _ _ _ _ _ _ _=>a
 |_=>{ posonlyargs:=[],args:=[],vararg:=none,kwonlyargs:=[],kw_defaults:=[],kwarg:=none,defaults:=[] }
def bV(s:Stmt):List Stmt:=match s with
 |.FunctionDef _ _ b _ _ _ _ _ _ _=>b
 |_=>[]
def aG(s:Stmt):Scope:=match s with
 |.FunctionDef _ _ _ _ _ _ sc _ _ _=>sc
 |_=>{ kind:=.function,names:=[],isGenerator:=false,isCoroutine:=false }
abbrev E0:XK:=λ_ _ _=>False
structure jz(K:W.Frag)(x qual:Str)(st:Stmt)(f:Addr)(fd:FuncData):Prop where
 ex:∃(oc:Value)(od:Option Addr)(kV doc pm:Value)(an:Option Addr)(cB ct:Value)(Le:Array (Option Value)),
  fd=W.fnOf x qual (bq st) (bV st) (aG st) .none kV doc pm an cB ct/\K.lookup f=some ⟨oc,od,.func fd,Le⟩/\W.codeIn K cB qual=true
 kp:W.keepIn K (.ref f)=true
section
variable{P:Program}{K:W.Frag}{base:Heap}
theorem jz.binds{f:Addr}(F:jz K x qual st f fd)(h:∀(kV doc pm:Value)(an:Option Addr)(cB ct:Value)(us:List Value),us.length=ps.length->bindArgs (W.fnOf x qual (bq st) (bV st) (aG st) .none kV doc pm an cB ct) ⟨us,[]⟩=pure (ps.zip us)):Binds K fd ps []:=by obtain⟨oc,od,kV,doc,pm,an,cB,ct,Le,rfl,lk,HU⟩:=F.ex;exact .all (h kV doc pm an cB ct)
theorem dI{f:Addr}{kV pm ct:Value}(l:K.lookup f=some ⟨oc,od,.func (W.fnOf x qual (bq st) (bV st) (aG st) .none kV doc pm an cB ct),Le⟩)(c:W.codeIn K cB qual=true)(k:W.keepIn K (.ref f)=true):jz K x qual st f (W.fnOf x qual (bq st) (bV st) (aG st) .none kV doc pm an cB ct):=⟨⟨oc,od,kV,doc,pm,an,cB,ct,Le,rfl,l,c⟩,k⟩
end
theorem bG(hr:gQ k A):A.units+1<cLine:=Nat.lt_of_le_of_lt (Nat.add_le_add_left (by decide:1<=64) _) hr.units
section
theorem pv(i:Nat)(hN:X.N[i]?=some x:=by rfl)(hv:Vis X.env.scope x:=by first|exact Or.inl rfl|exact Or.inr (Or.inl rfl)|exact Or.inr (Or.inr rfl))(hd:(x==("__debug__":Str))=false:=by decide)(HU:(x==("__classdict__":Str))=false:=by decide):PE X (.Name x pos) (qf i):=VX hN hv hd HU
end
theorem dX{A B:Prop}(h:B):if false=true then A else B:=by rw[if_neg Bool.false_ne_true];exact h
theorem iD{A B:Prop}(h:A):if true=true then A else B:=by rw[if_pos rfl];exact h
theorem RH{c A B:Prop}[Decidable c](h1:c->A)(h2:¬c->B):if c then A else B:=by
 by_cases h:c
 ·rw[if_pos h];exact h1 h
 rw[if_neg h];exact h2 h
def aI(H H':Hp):Prop:=∀b o,H b=some o->H' b=some o
theorem aI.refl(H:Hp):aI H H:=λ_ _ h=>h
theorem aI.trans{H1 H2:Hp}(a:aI H H1)(b:aI H1 H2):aI H H2:=λc o h=>b c o (a c o h)
theorem aI.free(e:aI H H')(h:H' l=Option.none):H l=Option.none:=by
 cases q:H l with
 |none=>rfl
 |some o =>
  rw[e l o q]at h;cases h
theorem aI.seq{K:W.Frag}(e:aI H H')(h:ae K H a xs):ae K H' a xs:=by
 rcases h with(h|⟨o,h⟩)|h
 ·exact .inl (.inl (e _ _ h))
 ·exact .inl (.inr ⟨o,e _ _ h⟩)
 exact .inr h
def c9(env:Env):List (Str×NameKind)->List (Str×Addr)->List (Str×Addr)
 |[],acc=>acc
 | (n,k)::r,acc=>if k==.free then c9 env r ((n,(env.cells.lookup n).getD 0)::acc)else c9 env r acc
theorem uM{env:Env}:∀(names:List (Str×NameKind))(acc:List (Str×Addr))(f:Str×NameKind->List (Str×Addr)->Sem (ForInStep (List (Str×Addr)))),
  (∀n k cs,f (n,k) cs=if k==.free then(do let c <- cellOf env n;pure (.yield ((n,c)::cs)))else pure (.yield cs)) ->
  (∀x∈names,x.2=.free->∃c,env.cells.lookup x.1=some c)->(forIn names acc f:Sem _)=pure (c9 env names acc)
 |[],acc,f,_,_=>rfl
 | (n,k)::r,acc,f,hf,h=>by
  rw[List.forIn_cons,hf];unfold c9;by_cases hk:(k==.free)=true
  ·rw[if_pos hk,if_pos hk];obtain⟨c,e⟩:=h (n,k) mem_cons_self (beq_iff_eq.mp hk);have e':env.cells.lookup n=some c:=e;unfold cellOf;rw[e'];show(forIn r ((n,c)::acc) f:Sem _)=_;exact uM r _ f hf λx hx=>h x (mem_cons_of_mem _ hx)
  rw[if_neg hk,if_neg hk];show(forIn r acc f:Sem _)=_;exact uM r _ f hf λx hx=>h x (mem_cons_of_mem _ hx)
theorem zq(h:∀x∈scope.names,x.2=.free->∃c,env.cells.lookup x.1=some c):closureFor scope env=pure (c9 env scope.names []):=by
 unfold closureFor;have e:=uM scope.names [] (λx cs=>if x.2==.free then(do let c <- cellOf env x.1;pure (.yield ((x.1,c)::cs)))else pure (.yield cs)) (λ_ _ _=>rfl) h
 show(forIn scope.names [] _ >>= λcs=>pure cs)=_;exact(vy e)
where
 vy {α:Type} {a:α} {t:Sem α} (e:t=pure a):(t >>= λx=>pure x)=pure a:=by rw[e];rfl
theorem dY{env:Env}{x:Str}{c:Addr}:∀(names:List (Str×NameKind))(acc:List (Str×Addr)),(∀y∈names,y.2=.free->∃c,env.cells.lookup y.1=some c) ->
  (∀c,acc.lookup x=some c->env.cells.lookup x=some c)->(c9 env names acc).lookup x=some c->env.cells.lookup x=some c
 |[],acc,_,ha,h=>ha c h
 | (n,k)::r,acc,hn,ha,h=>by
  unfold c9 at h;have hr:∀y∈r,y.2=.free->∃c,env.cells.lookup y.1=some c:=λy hy=>hn y (mem_cons_of_mem _ hy);by_cases hk:(k==.free)=true
  ·rw[if_pos hk]at h;obtain⟨c',e⟩:=hn (n,k) mem_cons_self (beq_iff_eq.mp hk);have e':env.cells.lookup n=some c':=e;rw[e']at h;refine dY r _ hr (λc2 q=>?_) h;rw[lookup_cons]at q;cases hb:x==n with
   |true=>rw[hb]at q;cases q;rw[beq_iff_eq.mp hb];exact e'
   |false=>rw[hb]at q;exact ha c2 q
  rw[if_neg hk]at h;exact dY r _ hr ha h
theorem oG{env:Env}{x:Str}:∀(names:List (Str×NameKind))(acc:List (Str×Addr)),((x,NameKind.free)∈names\/∃c,acc.lookup x=some c)->∃c,(c9 env names acc).lookup x=some c
 |[],acc,h=>h.elim (λz=>by cases z) id
 | (n,k)::r,acc,h=>by
  unfold c9;by_cases hk:(k==.free)=true
  ·rw[if_pos hk];refine oG r _ ?_;cases hb:x==n with
   |true=>exact .inr ⟨_,by rw[lookup_cons,hb]⟩
   |false =>
    rcases h with h|⟨c,h⟩
    ·rcases mem_cons.mp h with e|e
     ·injection e with e1 _;rw[e1]at hb;simp at hb
     exact .inl e
    exact .inr ⟨c,by rw[lookup_cons,hb];exact h⟩
  rw[if_neg hk];refine oG r _ ?_;rcases h with h|h
  ·rcases mem_cons.mp h with e|e
   ·injection e with _ e2;rw[<-e2]at hk;exact absurd rfl hk
   exact .inl e
  exact .inr h
theorem uN{x:Str}{c:Addr}:∀(names:List (Str×NameKind))(n:Nat)(acc:List (Str×Addr)),(cellsFrom n names acc).lookup x=some c->acc.lookup x=some c\/(n<=c/\(x,NameKind.cell)∈names)
 |[],_,_,h=>.inl h
 | (y,k)::r,n,acc,h=>by
  unfold cellsFrom at h;by_cases hk:(k==.cell)=true
  ·rw[if_pos hk]at h;rcases uN r _ _ h with q|⟨q1,q2⟩
   ·rw[lookup_cons]at q;cases hb:x==y with
    |true=>rw[hb]at q;cases q;exact .inr ⟨le_refl _,by rw[beq_iff_eq.mp hb,beq_iff_eq.mp hk];exact mem_cons_self⟩
    |false=>rw[hb]at q;exact .inl q
   exact .inr ⟨by lia,mem_cons_of_mem _ q2⟩
  rw[if_neg hk]at h;rcases uN r _ _ h with q|⟨q1,q2⟩
  ·exact .inl q
  exact .inr ⟨q1,mem_cons_of_mem _ q2⟩
theorem sv{x:Str}{lo:Nat}:∀(names:List (Str×NameKind))(n:Nat)(acc:List (Str×Addr)),lo<=n->((x,NameKind.cell)∈names\/∃c,acc.lookup x=some c/\lo<=c)->∃c,(cellsFrom n names acc).lookup x=some c/\lo<=c
 |[],_,_,_,h=>h.elim (λz=>by cases z) id
 | (y,k)::r,n,acc,hn,h=>by
  unfold cellsFrom;by_cases hk:(k==.cell)=true
  ·rw[if_pos hk];refine sv r _ _ (by lia) ?_;cases hb:x==y with
   |true=>exact .inr ⟨n,by rw[lookup_cons,hb],hn⟩
   |false =>
    rcases h with h|⟨c,h,hc⟩
    ·rcases mem_cons.mp h with e|e
     ·injection e with e1 _;rw[e1]at hb;simp at hb
     exact .inl e
    exact .inr ⟨c,by rw[lookup_cons,hb];exact h,hc⟩
  rw[if_neg hk];refine sv r _ _ hn ?_;rcases h with h|h
  ·rcases mem_cons.mp h with e|e
   ·injection e with _ e2;rw[<-e2]at hk;exact absurd rfl hk
   exact .inl e
  exact .inr h
theorem oH{x:Str}:∀(names:List (Str×NameKind))(n:Nat)(acc:List (Str×Addr)),(x,NameKind.cell)∉names->(cellsFrom n names acc).lookup x=acc.lookup x
 |[],_,_,_=>rfl
 | (y,k)::r,n,acc,h=>by
  unfold cellsFrom;have hr:(x,NameKind.cell)∉r:=λz=>h (mem_cons_of_mem _ z);by_cases hk:(k==.cell)=true
  ·rw[if_pos hk,oH r _ _ hr,lookup_cons];cases hb:x==y with
   |true=>exact absurd (by rw[beq_iff_eq.mp hb,beq_iff_eq.mp hk];exact mem_cons_self) h
   |false=>rfl
  rw[if_neg hk];exact oH r _ _ hr
theorem xF:∀(names:List (Str×NameKind))(n:Nat)(acc:List (Str×Addr)),(∀x c,acc.lookup x=some c->c<n)->(∀x y c,acc.lookup x=some c->acc.lookup y=some c->x=y) ->
  ∀x y c,(cellsFrom n names acc).lookup x=some c->(cellsFrom n names acc).lookup y=some c->x=y
 |[],_,_,_,h=>h
 | (z,k)::r,n,acc,eI,h=>by
  unfold cellsFrom;by_cases hk:(k==.cell)=true
  ·rw[if_pos hk];refine xF r (n+1) _ (λx c e=>?_) λx y c e1 e2=>?_
   ·rw[lookup_cons]at e;cases hb:x==z with
    |true=>rw[hb]at e;cases e;exact lt_succ_self _
    |false=>rw[hb]at e;exact Nat.lt_succ_of_lt (eI x c e)
   rw[lookup_cons]at e1 e2;cases hb:x==z with
   |true =>
    rw[hb]at e1;cases e1;cases Qg:y==z with
    |true=>rw[beq_iff_eq.mp hb,beq_iff_eq.mp Qg]
    |false=>rw[Qg]at e2;exact absurd (eI y _ e2) (lt_irrefl _)
   |false =>
    rw[hb]at e1;cases Qg:y==z with
    |true=>rw[Qg]at e2;cases e2;exact absurd (eI x _ e1) (lt_irrefl _)
    |false=>rw[Qg]at e2;exact h x y c e1 e2
  rw[if_neg hk];exact xF r n _ eI h
theorem l7{x:Str}{c:Addr}:∀(names:List (Str×NameKind))(h:Heap)(acc:List (Str×Addr)),(∀y c,acc.lookup y=some c->∃v,h.IsCell c v) ->
  (cellsFrom h.objs.size names acc).lookup x=some c->∃v,(pushCells h names).IsCell c v
 |[],h,acc,ha,e=>ha x c e
 | (y,k)::r,h,acc,ha,e=>by
  unfold cellsFrom at e;unfold pushCells;by_cases hk:(k==.cell)=true
  ·rw[if_pos hk]at e ⊢;rw[show h.objs.size+1=(h.push { cls:=.type "cell",data:=.cell none }).objs.size from(Heap.size_push ..).symm]at e;refine l7 r _ _ (λz c' q=>?_) e;rw[lookup_cons]at q;cases hb:z==y with
   |true=>rw[hb]at q;cases q;exact⟨none,_,Heap.get?_push_size _ rfl,rfl⟩
   |false =>
    rw[hb]at q;obtain⟨v,w⟩:=ha z c' q;exact⟨v,w.keeps λb o e=>Heap.get?_push_of_some _ e⟩
  rw[if_neg hk]at e ⊢;exact l7 r _ _ ha e
section
variable{M:Model}
theorem FX{Q:Env->Shared->Prop}(h:Q { scope,locals:=s.heap.objs.size,globals,cells:=cellsFrom (s.heap.objs.size+1) scope.names cl,qual,func:=none,code:=env.code,frame:=env.frame,builtins:=env.builtins }
   { s with heap:=pushCells (s.heap.push { cls:=.type "dict",data:=.dict #[] }) scope.names }):
  wpAny M A (newFunctionEnv scope globals cl [] qual none .none (some env)) Q E s:=by
 simp only[newFunctionEnv,Option.isSome_some,if_true];refine bv (wpAny_alloc ?_);refine bv (wpAny_layCells _ (λname kind cells=>by cases hkc:kind==NameKind.cell<;>simp[hkc]) _ _ _ _ ?_);rw[show({ s with heap:=s.heap.push { cls:=.type "dict",data:=.dict #[] } }:Shared).heap.objs.size=s.heap.objs.size+1 from Heap.size_push ..];refine bv ?_;rw[List.forIn_nil];exact ca (ca h)
end
section
theorem Dk{target:Expr}{it acc:Value}(I:Nat->Shared->Prop)(turn:∀n s,I n s->wpAny (model prog w) A (pyNext it) (λr s₁=>match r with
   |none=>R (.ok .next) s₁
   |some v=>wpAny (model prog w) A (letOwnedTupleGo target it v) (λ_ s₁'=>wpAny (model prog w) A (assign target env v) (λ_ s₂ =>
     wpAny (model prog w) A (forIn ifs true λc r=>if r=true then do let ok <- isTrue c env (eval c env);pure (ForInStep.yield ok)else pure (ForInStep.yield r)) (λok s₃ =>
      if ok=true then wpAny (model prog w) A (eval elt env) (λx s₄ =>
       wpAny (model prog w) A (call (.builtin "list.append") [acc,x]) (λ_ s₅=>∃m,m<n/\I m s₅) (λ_ _=>False) s₄) (λ_ _=>False) s₃
      else ∃m,m<n/\I m s₃) (λ_ _=>False) s₂) (λ_ _=>False) s₁') (λ_ _=>False) s₁) (λ_ _=>False) s)(n:Nat)(h:I n s):
  codeAny (model prog w) A (.compLoop (.ListComp elt [⟨target,iter,ifs,0⟩] scope pos) 0 it acc env) R s:=by
 refine codeAny_loop rfl I (λn s hI=>?_) n h;show wpAny _ A ((compTurn (.ListComp elt [⟨target,iter,ifs,0⟩] scope pos) 0 it acc env).onRaise (λx=>do noteFrame x env;theTreesLotGoes x)) _ _ s
 refine wpAny_noted ?_;rw[compTurn_list];refine bv (wpAny_standAt (bv (wpAny_mono (turn n s hI) (λr s₁ h₁=>?_) λ_ _ h'=>h'.elim)));cases r with
 |none=>exact ca h₁
 |some v =>
  refine bv (wpAny_mono h₁ (λ_ s₁' h₁'=>?_) λ_ _ h'=>h'.elim);refine bv (wpAny_mono h₁' (λ_ s₂ h₂=>bv (wpAny_mono h₂ (λok s₃ h₃=>?_) λ_ _ h'=>h'.elim)) λ_ _ h'=>h'.elim);cases ok with
  |false=>exact ca ⟨rfl,h₃⟩
  |true =>
   exact bv (bv (wpAny_mono h₃ (λx s₄ h₄=>bv (wpAny_mono h₄ (λ_ s₅ h₅=>ca (ca ⟨rfl,h₅⟩)) λ_ _ h'=>h'.elim)) λ_ _ h'=>h'.elim))
end
def Dl(X:Cx)(Nc:List Str)(scope:Scope)(C:Addr)(fp:List Addr)(s:Shared)(H:Hp):Cx where
 prog:=X.prog
 w:=X.w
 K:=X.K
 mg:=X.mg
 base:=X.base
 A:=X.A
 N:=Nc
 s₀:=s
 H₀:=H
 env:=compEnvC scope (cellsFrom (C+1) scope.names (c9 X.env scope.names [])) C X.env
 outer:=X.stack
 stack:=X.stack
 ex:=fp
 fn:=λx=>scope.names.contains (x,NameKind.cell)
 calm:=X.calm
 pn:=[]
 xe:=λ_ _=>False
structure gH(X:Cx)(Nc:List Str)(ix:List (Option Nat))(scope:Scope):Prop where
 kind:scope.kind=.function
 nd:Nc.Nodup
 len:ix.length=Nc.length
 loc:∀x∈scope.names,x.2=.local->scope.names.lookup x.1=some .local
 free:∀x∈scope.names,x.2=.free->X.env.kindOf x.1=some .cell\/X.env.kindOf x.1=some .free
 once:∀x,(x,NameKind.free)∈scope.names->(x,NameKind.cell)∉scope.names
 out:∀(i j:Nat)(x:Str),ix[i]?=some (some j)->Nc[i]?=some x->X.N[j]?=some x/\scope.names.lookup x=some .free
def zr(ix:List (Option Nat))(σ:St):St:=ix.map λo=>o.bind λj=>(σ[j]?).bind id
theorem oI{env:Env}{x:Str}:∀{names:List (Str×NameKind)}{k:NameKind},names.lookup x=some k ->
  (names.map λ(n,k)=>if(k==NameKind.free&&env.scope.kind==.function&&env.kindOf n==some .cell)then(n,NameKind.cell)else(n,k)).lookup x =
   some (if(k==NameKind.free&&env.scope.kind==.function&&env.kindOf x==some .cell)then NameKind.cell else k)
 |[],_,h=>by simp at h
 | (n,k')::r,k,h=>by
  show List.lookup x ((if(k'==NameKind.free&&env.scope.kind==.function&&env.kindOf n==some .cell)=true then(n,NameKind.cell)else(n,k'))::_)=_;cases hx:x==n with
  |true =>
   simp only[lookup_cons,hx]at h;cases h;have e:=beq_iff_eq.mp hx;subst e;split<;>simp[lookup_cons]
  |false =>
   simp only[lookup_cons,hx]at h;have ih:=oI (env:=env) (names:=r) h;split<;>(simp only[lookup_cons,hx];exact ih)
theorem vz{env:Env}{x:Str}:∀{names:List (Str×NameKind)},names.lookup x=none ->
  (names.map λ(n,k)=>if(k==NameKind.free&&env.scope.kind==.function&&env.kindOf n==some .cell)then(n,NameKind.cell)else(n,k)).lookup x=none
 |[],_=>rfl
 | (n,k')::r,h=>by
  show List.lookup x ((if(k'==NameKind.free&&env.scope.kind==.function&&env.kindOf n==some .cell)=true then(n,NameKind.cell)else(n,k'))::_)=_;cases hx:x==n with
  |true=>simp only[lookup_cons,hx]at h;cases h
  |false =>
   simp only[lookup_cons,hx]at h;have ih:=vz (env:=env) (names:=r) h;split<;>(simp only[lookup_cons,hx];exact ih)
section
theorem gH.cells(S:gH X Nc ix scope)(I:Inv X ce σ H s):∀x∈scope.names,x.2=.free->∃c,X.env.cells.lookup x.1=some c:=λx hx hf=>I.ok.has x.1 (S.free x hx hf)
theorem Cu(S:gH X Nc ix scope)(I:Inv X ce σ H s){c:Addr}(e:(cellsFrom (C+1) scope.names (c9 X.env scope.names [])).lookup x=some c):
  X.env.cells.lookup x=some c\/(C+1<=c/\(x,NameKind.cell)∈scope.names):=by
 rcases uN _ _ _ e with q|q
 ·exact .inl (dY _ _ (S.cells I) (λ_ z=>by simp at z) q)
 exact .inr q
theorem N4(S:gH X Nc ix scope)(I:Inv X ce σ H s)(Y2:∀b∈fp,xB X ce H b)(ho:∀b∈fp,∃o,s.heap.get? b=some o):
  Inv (Dl X Nc scope (s.heap.objs.size+1) fp s H) [] (zr ix σ) (dl H s.heap.objs.size (.lst []))
   { s with heap:=pushCells ((s.heap.push { cls:=.type "list",dict:=none,data:=.seq ([]:List Value).toArray }).push { cls:=.type "dict",data:=.dict #[] }) scope.names,toks:=t' }:=by
 have keep:∀b o,s.heap.get? b=some o->(pushCells ((s.heap.push { cls:=.type "list",dict:=none,data:=.seq ([]:List Value).toArray }).push { cls:=.type "dict",data:=.dict #[] }) scope.names).get? b=some o :=
  λb o e=>pushCells_keeps _ _ b o (Heap.get?_push_of_some _ (Heap.get?_push_of_some _ e))
 have hD:(pushCells ((s.heap.push { cls:=.type "list",dict:=none,data:=.seq ([]:List Value).toArray }).push { cls:=.type "dict",data:=.dict #[] }) scope.names).get? s.heap.objs.size =
   some { cls:=.type "list",dict:=none,data:=.seq ([]:List Value).toArray }:=pushCells_keeps _ _ _ _ (Heap.get?_push_of_some _ (Heap.get?_push_size _ rfl))
 have hsz:(s.heap.push { cls:=.type "list",dict:=none,data:=.seq ([]:List Value).toArray }).objs.size=s.heap.objs.size+1:=Heap.size_push ..;have fresh:∀a:Addr,s.heap.objs.size<=a->H a=none:=λa h=>I.cK.fresh h;have NL:∀x c,X.env.cells.lookup x=some c->c<s.heap.objs.size:=λx c e=>let⟨_,q⟩:=I.cell x c e;q.lt;have clt:∀x c,(c9 X.env scope.names []).lookup x=some c->c<s.heap.objs.size+1+1:=λx c e =>
  Nat.lt_succ_of_lt (Nat.lt_succ_of_lt (NL x c (dY _ _ (S.cells I) (λ_ z=>by simp at z) e)))
 have aC8:∀x y c,(c9 X.env scope.names []).lookup x=some c->(c9 X.env scope.names []).lookup y=some c->x=y:=λx y c e1 e2 =>
  I.ok.inj x y c (dY _ _ (S.cells I) (λ_ z=>by simp at z) e1) (dY _ _ (S.cells I) (λ_ z=>by simp at z) e2)
 refine⟨⟨I.ok.mod,S.kind,I.ok.glob,I.ok.blt,le_succ _,xF _ _ _ clt aC8,λx hx=>?has,λx c hf e=>?VS,I.ok.hd,I.ok.frames,.inl rfl,λb hb=>?YS,I.bs,le_trans I.ok.Qy I.sz,λb o e hb=>?HZ,λb hb hs=>?Ha,I.stack,I.DW⟩,
  rfl,I.bare,Un.laid keep (le_refl _) (fresh _ (le_refl _)),⟨λ_=>none,?ns,λi x v e1 e2 e3=>?loc⟩,λx c e=>?cell,?free,λx c e=>?qJ,λp hp=>absurd (show p∈([]:List (Addr×Obj))from hp) (by simp),I.cK.laid keep (le_refl _) ?obj,?len⟩
 case has =>
  have hx:(relabel scope X.env).names.lookup x=some .cell\/(relabel scope X.env).names.lookup x=some .free:=hx;show ∃c,(cellsFrom (s.heap.objs.size+1+1) scope.names (c9 X.env scope.names [])).lookup x=some c;cases hk:scope.names.lookup x with
  |none =>
   rw[show(relabel scope X.env).names.lookup x=none from vz hk]at hx;rcases hx with z|z<;>cases z
  |some k =>
   have hm:=PySem.mem_of_lookup hk;rw[show(relabel scope X.env).names.lookup x=_ from oI hk]at hx;cases k with
   |cell=>obtain⟨c,e,_⟩:=sv (x:=x) (lo:=0) scope.names (s.heap.objs.size+1+1) (c9 X.env scope.names []) (zero_le _) (.inl hm);exact⟨c,e⟩
   |free =>
    obtain⟨c,e⟩:=oG (env:=X.env) (x:=x) scope.names [] (.inl hm);exact⟨c,by rw[oH _ _ _ (S.once x hm)];exact e⟩
   |_=>rcases hx with z|z<;>simp at z
 case VS =>
  have hm:(x,NameKind.cell)∈scope.names:=List.contains_iff_mem.mp hf;obtain⟨c',e',hc⟩:=sv (x:=x) (lo:=s.heap.objs.size+1+1) scope.names (s.heap.objs.size+1+1) (c9 X.env scope.names []) (le_refl _) (.inl hm);have e2:(cellsFrom (s.heap.objs.size+1+1) scope.names (c9 X.env scope.names [])).lookup x=some c:=e;rw[e']at e2;cases e2;exact le_trans (le_trans (le_succ _) (le_succ _)) hc
 case YS =>
  obtain⟨o,eo⟩:=ho b hb;have eI:=Heap.lt_size eo;refine⟨ne_of_lt (Nat.lt_succ_of_lt eI),λx c e=>?_⟩;rcases Cu S I e with q|⟨q,_⟩
  ·exact(Y2 b hb).2.2.2.2.1 x c q
  exact Nat.ne_of_gt (lt_of_lt_of_le (Nat.lt_succ_of_lt (Nat.lt_succ_of_lt eI)) q)
 case HZ =>
  obtain⟨_,_,_,q,_⟩:=Y2 b hb;rcases q with q|q
  ·exact I.ok.HZ b o e q
  exact absurd (lt_of_lt_of_le (lt_of_lt_of_le (Heap.lt_size e) I.ok.Qy) q) (lt_irrefl _)
 case Ha =>
  obtain⟨_,q1,q2,_⟩:=Y2 b hb;rcases mem_cons.mp (I.Hb b hs)with z|z
  ·exact q1 z
  exact q2 z
 case ns =>
  refine Heap.Ns.keeps (h:=(s.heap.push { cls:=.type "list",dict:=none,data:=.seq ([]:List Value).toArray }).push { cls:=.type "dict",data:=.dict #[] }) ?_ (pushCells_keeps _ _);have q:=Heap.Ns.new (s.heap.push { cls:=.type "list",dict:=none,data:=.seq ([]:List Value).toArray }) (.type "dict");rw[hsz]at q;exact q
 case loc =>
  have UX:(ix.map λo=>o.bind λj=>(σ[j]?).bind id)[i]?=some (some v):=e2;rw[getElem?_map]at UX;cases ei:ix[i]? with
  |none=>rw[ei]at UX;cases UX
  |some o =>
   rw[ei]at UX;cases o with
   |none=>simp at UX
   |some j =>
    obtain⟨hN,Xn⟩:=S.out i j x ei e1;have ej:σ[j]?=some (some v):=by
     cases q:σ[j]? with
     |none=>simp[q]at UX
     |some y=>simp[q]at UX;rw[UX]
    have hm:=PySem.mem_of_lookup Xn;have aC9:Vis X.env.scope x:=by
     rcases S.free (x,.free) hm rfl with z|z
     ·exact .inr (.inl z)
     exact .inr (.inr z)
    obtain⟨m0,hn0,V1⟩:=I.loc;obtain⟨u,r,l⟩:=V1 j x v hN ej aC9;refine⟨u,r,?_⟩;have hk:X.env.kindOf x=some .cell\/X.env.kindOf x=some .free:=S.free (x,.free) hm rfl;rcases l with⟨z,_⟩|⟨_,c,ec,J9⟩
    ·rcases hk with y|y<;>(rw[z]at y;cases y)
    refine .inr ⟨?_,c,?_,J9.keeps keep⟩
    ·show(relabel scope X.env).names.lookup x=_\/(relabel scope X.env).names.lookup x=_;rw[show(relabel scope X.env).names.lookup x=_ from oI Xn];split
     ·exact .inl rfl
     exact .inr rfl
    show(cellsFrom (s.heap.objs.size+1+1) scope.names (c9 X.env scope.names [])).lookup x=some c;rw[oH _ _ _ (S.once x hm)];obtain⟨c',e'⟩:=oG (env:=X.env) (x:=x) scope.names [] (.inl hm);have q:=dY _ _ (S.cells I) (λ_ z=>by simp at z) e';rw[ec]at q;cases q;exact e'
 case cell =>
  have q:=l7 (x:=x) (c:=c) scope.names ((s.heap.push { cls:=.type "list",dict:=none,data:=.seq ([]:List Value).toArray }).push { cls:=.type "dict",data:=.dict #[] }) (c9 X.env scope.names [])
   (λy c' e'=>by obtain⟨v,z⟩:=I.cell y c' (dY _ _ (S.cells I) (λ_ z=>by simp at z) e');exact⟨v,z.keeps λb o e=>Heap.get?_push_of_some _ (Heap.get?_push_of_some _ e)⟩)
  rw[Heap.size_push,hsz]at q;exact q e
 case free =>
  show dl H s.heap.objs.size (.lst []) (s.heap.objs.size+1)=none;rw[aE (Nat.succ_ne_self _)];exact fresh _ (le_succ _)
 case qJ =>
  rcases Cu S I e with q|⟨q,_⟩
  ·rw[aE (ne_of_lt (NL x c q))];exact I.qJ x c q
  have h1:s.heap.objs.size<c:=lt_of_lt_of_le (Nat.lt_succ_of_lt (lt_succ_self _)) q;rw[aE (Nat.ne_of_gt h1)];exact fresh c (Nat.le_of_lt h1)
 case obj=>exact⟨zero_le _,[],0,.nil,hD⟩
 case len =>
  show(zr ix σ).length=Nc.length;unfold zr;rw[length_map,S.len]
end
def Y3(X:Cx)(ifs:List Expr)(t:TT):Prop :=
 ∀(ce:List (Addr×Obj))(s:Shared)(σ:St)(H:Hp)(Q:Bool->Hp->Prop),Inv X ce σ H s->t σ H Q ->
  wpAny (model X.prog X.w) X.A (forIn ifs true λc r=>if r=true then do let ok <- isTrue c X.env (eval c X.env);pure (ForInStep.yield ok)else pure (ForInStep.yield r)) (TP X ce σ Q) X.xe s
def RI:TT:=λ_ H Q=>Q true H
theorem cH:Y3 X [] RI:=λ_ _ _ H _ I h=>wpAny_tests_nil ⟨H,I,h⟩
theorem Dm{c:Expr}{t:TT}(h:PT X c t):Y3 X [c] t:=λce s σ H Q I hw=>wpAny_tests_one (h ce s σ H Q I hw)
def tf(J:It)(g:TG)(tt:TT)(te:TE)(D:Addr)(σ:St)(H:Hp)(Q:VK):Prop:=∃W:Nat->Nat->St->Hp->Prop,(∃m,W 0 m σ H)/\∀i m σ' H',W i m σ' H' ->
 (J.stop i H'/\Q (.ref D) H')\/(J.go i H'/\∀x H2,J.Qe i H' x H2->g x σ' H2 λσ3 H3=>tt σ3 H3 λb H4 =>
  if b=true then te σ3 H4 λv H5=>∃xs,H5 D=some (.lst xs)/\xs.length<sizeLine/\∃m',m'<m/\W (i+1) m' σ3 (dl H5 D (.lst (xs++[v])))
  else ∃m',m'<m/\W (i+1) m' σ3 H4)
def tLC(wi:TI)(ix:List (Option Nat))(g:TG)(tt:TT)(te:TE):TE:=λσ H Q=>wi σ H λJ H1=>∀D,H1 D=none->tf J g tt te D (zr ix σ) (dl H1 D (.lst [])) Q
section
variable{tg:Expr}{wi:TI}
theorem FY{J:It}{R:Value->Addr->Result->Shared->Prop}(hc:X.calm=true)(S:gH X Nc ix scope)(I:Inv X ce σ H s)(T:Turn X.prog X.w X.K tg J fp it tn)(st:tn 0 s.heap)(f:∀b∈fp,xB X ce H b)(hg:PG (Dl X Nc scope (s.heap.objs.size+1) fp s H) tg g)(ht:Y3 (Dl X Nc scope (s.heap.objs.size+1) fp s H) ifs tt)(he:PE (Dl X Nc scope (s.heap.objs.size+1) fp s H) elt te)(h:∀D,H D=none->∃W:Nat->Nat->St->Hp->Prop,(∃m,W 0 m (zr ix σ) (dl H D (.lst [])))/\∀i m σ' H',W i m σ' H' ->
   (J.stop i H'/\Q (.ref D) H')\/(J.go i H'/\∀x H2,J.Qe i H' x H2->g x σ' H2 λσ3 H3=>tt σ3 H3 λb H4 =>
    if b=true then te σ3 H4 λv H5=>∃xs,H5 D=some (.lst xs)/\xs.length<sizeLine/\∃m',m'<m/\W (i+1) m' σ3 (dl H5 D (.lst (xs++[v])))
    else ∃m',m'<m/\W (i+1) m' σ3 H4))(hR:∀σ' H' s',Inv (Dl X Nc scope (s.heap.objs.size+1) fp s H) [] σ' H' s'->(∀b∈fp,H' b=none)->Q (.ref s.heap.objs.size) H'->R (.ref s.heap.objs.size) (s.heap.objs.size+1) (.ok .next) s'):
  wpAny (model X.prog X.w) X.A (newList []) (λacc s₃=>wpAny (model X.prog X.w) X.A (newFunctionEnv scope X.env.globals (c9 X.env scope.names []) [] X.env.qual none .none (some X.env)) (λY4 s₄ =>
   codeAny (model X.prog X.w) X.A (.compStart (.ListComp elt [⟨tg,iter,ifs,0⟩] scope pos) 0 (.ref it) acc { Y4 with scope:=relabel scope X.env }) (R acc Y4.locals) s₄) X.xe s₃) X.xe s:=by
 obtain⟨W,⟨m0,w0⟩,turn⟩:=h s.heap.objs.size (I.cK.fresh (le_refl _));refine wpAny_newObj_type (FX ?_);have I4:=N4 (t':=s.toks) S I f (λb hb=>let⟨o,e,_⟩:=T.obj _ _ st b hb;⟨o,e⟩);have hsz:(s.heap.push { cls:=.type "list",dict:=none,data:=.seq ([]:List Value).toArray }).objs.size=s.heap.objs.size+1:=Heap.size_push ..;dsimp only;rw[hsz];have vk:tn 0 (pushCells ((s.heap.push { cls:=.type "list",dict:=none,data:=.seq ([]:List Value).toArray }).push { cls:=.type "dict",data:=.dict #[] }) scope.names) :=
  T.keep _ _ _ st λb _ o e=>pushCells_keeps _ _ b o (Heap.get?_push_of_some _ (Heap.get?_push_of_some _ e))
 have KS:∀b∈fp,dl H s.heap.objs.size (.lst []) b=none:=λb hb=>by obtain⟨o,e,_⟩:=T.obj _ _ st b hb;rw[aE (ne_of_lt (Heap.lt_size e))];exact(f b hb).1
 have Hj:∀{H':Hp},(∀b∈fp,H' b=none)->∀b∈fp,xB (Dl X Nc scope (s.heap.objs.size+1) fp s H) [] H' b:=λ{H'} hn b hb=>by obtain⟨q1,q2⟩:=I4.ok.YS b hb;exact⟨hn b hb,q1,I4.ok.Ha b hb,.inl hb,q2,λp hp=>absurd (show p∈([]:List (Addr×Obj))from hp) (by simp)⟩
 have loop:codeAny (model X.prog X.w) X.A (.compLoop (.ListComp elt [⟨tg,iter,ifs,0⟩] scope pos) 0 (.ref it) (.ref s.heap.objs.size) (Dl X Nc scope (s.heap.objs.size+1) fp s H).env)
   (R (.ref s.heap.objs.size) (s.heap.objs.size+1))
   { s with heap:=pushCells ((s.heap.push { cls:=.type "list",dict:=none,data:=.seq ([]:List Value).toArray }).push { cls:=.type "dict",data:=.dict #[] }) scope.names }:=by
  refine Dk (λn s'=>∃i σ' H',Inv (Dl X Nc scope (s.heap.objs.size+1) fp s H) [] σ' H' s'/\tn i s'.heap/\(∀b∈fp,H' b=none)/\W i n σ' H') ?_ m0 ⟨0,_,_,I4,vk,KS,w0⟩;rintro n s5 ⟨i,σ5,H5,I5,xD,LW,w5⟩;rcases turn i n σ5 H5 w5 with⟨stop,qn⟩|⟨go,step⟩
  ·refine cC (T.done (Dl X Nc scope (s.heap.objs.size+1) fp s H) rfl rfl rfl hc i [] s5 σ5 H5 _ I5 (Hj LW) xD stop) λr s6 ⟨hr,I6⟩=>?_;subst hr;exact hR σ5 H5 s6 I6 LW qn
  refine cC (T.item (Dl X Nc scope (s.heap.objs.size+1) fp s H) rfl rfl rfl hc i [] s5 σ5 H5 _ I5 (Hj LW) xD go) λr s6 ⟨u,hr,h6⟩=>?_;subst hr;refine cC h6 λ_ s7 ⟨x,H7,I7,r7,y7,Qh,Qi⟩=>?_;have I7':=I7.pinned (Hj Qi) (T.obj _ _ Qh);refine cC (hg _ s7 σ5 H7 x u _ I7' r7 (step x H7 y7)) λ_ s8 ⟨σ8,H8,I8,q8⟩=>?_;refine cC (ht _ s8 σ8 H8 _ I8 q8) λb s9 ⟨H9,I9,q9⟩=>?_;have again:∀{s':Shared}{σ':St}{H':Hp},Inv (Dl X Nc scope (s.heap.objs.size+1) fp s H) ([]++zd fp s7.heap) σ' H' s'->tn (i+1) s'.heap/\∀b∈fp,H' b=none:=λ{s' σ' H'} I'=>by refine⟨T.keep _ _ _ Qh λb hb o e=>(I'.pin (b,o) (mem_append_right _ (mem_append_right _ (oC hb e)))).1,λb hb=>?_⟩;obtain⟨o,e,d⟩:=T.obj _ _ Qh b hb;exact(I'.pin (b,o) (mem_append_right _ (mem_append_right _ (oC hb e)))).2.1
  cases b with
  |false =>
   rw[if_neg Bool.false_ne_true]at q9 ⊢;obtain⟨m',hm,w9⟩:=q9;obtain⟨a1,a2⟩:=again I9;exact⟨m',hm,i+1,σ8,H9,I9.qi,a1,a2,w9⟩
  |true =>
   rw[if_pos rfl]at q9 ⊢;refine cC (he _ s9 σ8 H9 _ I9 q9) λv s10 ⟨x',H10,I10,r10,xs,eD,eI,m',hm,w10⟩=>?_;refine cC (cG (X:=Dl X Nc scope (s.heap.objs.size+1) fp s H) _ s10 σ8 H10 (.ref s.heap.objs.size) [x'] (.ref s.heap.objs.size) [v] (λ_ H'=>H'=dl H10 s.heap.objs.size (.lst (xs++[x']))) I10 rfl (.cons r10 .nil)
    ⟨_,xs,x',rfl,rfl,eD,eI,rfl⟩) λ_ s11 ⟨_,H11,I11,_,e11⟩=>?_
   subst e11;obtain⟨a1,a2⟩:=again I11;exact⟨m',hm,i+1,σ8,_,I11.qi,a1,a2,w10⟩
 exact codeAny_compStart_list loop (T.self X.A 0 _ _ _ vk loop)
theorem comp_back{σ':St}{s':Shared}(I:Inv X ce σ H s)(f:∀b∈fp,xB X ce H b)(J:Inv (Dl X Nc scope (s.heap.objs.size+1) fp s H) [] σ' H' s'):Inv X ce σ H' s' :=
 I.NX (ch:=fp) J.os J.base J.cK J.bare λb hb=>let⟨_,q1,_,q3,q4,q5⟩:=f b hb;⟨q3,q1,q4,q5⟩
theorem Inv.UY(I:Inv X ce σ H s)(f:xB X ce H C)(hs:Heap.SameBut C s.heap h'):Inv X ce σ H { s with heap:=h' } :=
 I.turned (t':=s.toks) (it:=C) (λb o hb e=>(hs.2 b hb).trans e) f.1 f.2.1 f.2.2.2.1 f.2.2.2.2.1 f.2.2.2.2.2
theorem jf(hc:X.calm=true)(S:gH X Nc ix scope)(hi:PI X tg iter wi)(hb:∀(C:Addr)(fp:List Addr)(s:Shared)(H:Hp),PG (Dl X Nc scope C fp s H) tg g/\Y3 (Dl X Nc scope C fp s H) ifs tt/\PE (Dl X Nc scope C fp s H) elt te)(hs:∀x,foldedSetIterable iter X.env x=pure x:=by intro _;rfl):PE X (.ListComp elt [⟨tg,iter,ifs,0⟩] scope pos) (tLC wi ix g tt te):=by intro ce s σ H Q I h;rw[eval_ListComp];refine wpAny_comprehension_free (use:=none) rfl hs (zq (S.cells I)) S.kind S.loc (cC (hi ce s σ H _ I h) λv s1 h1=>cC h1 λitv s2 h2=>?_);obtain⟨it,fp,tn,J,H2,e,I2,T,vj,f2,q2⟩:=h2;subst e;obtain⟨hg,ht,he⟩:=hb (s2.heap.objs.size+1) fp s2 H2;refine FY (R:=λacc C=>compPost (model X.prog X.w) X.A X.xe none (EP X ce σ Q) acc C) hc S I2 T vj f2 hg ht he q2 λσ' H' s' J' fr' q'=>?_;obtain⟨m,hn,_⟩:=J'.loc;refine⟨m,hn,λh' Lj=>⟨.ref _,H',?_,rfl,q'⟩⟩;exact(comp_back I2 f2 J').UY (I2.DX (le_succ _) J'.free) Lj
theorem j9{Y5:Pos}(hN:X.N.Nodup)(hy:X.N[i]?=some y)(hl:Loc X.env.scope y)(hc:X.calm=true)(S:gH X Nc ix scope)(hi:PI X tg iter wi)(hb:∀(C:Addr)(fp:List Addr)(s:Shared)(H:Hp),PG (Dl X Nc scope C fp s H) tg g/\Y3 (Dl X Nc scope C fp s H) ifs tt/\PE (Dl X Nc scope C fp s H) elt te)(hsw:swapsWith (.ListComp elt [⟨tg,iter,ifs,0⟩] scope pos) (some (.Name y py)) Y5.line X.env=pure true:=by rfl)(hs:∀x,foldedSetIterable iter X.env x=pure x:=by intro _;rfl)(hf:X.fn y=true\/X.env.scope.names.lookup y=some .local:=by first|exact .inl rfl|exact .inr rfl|assumption):
  PS X (.Assign [.Name y py] (.ListComp elt [⟨tg,iter,ifs,0⟩] scope pos) Y5) (Nf (tLC wi ix g tt te) (jd i)):=by
 intro ce s σ H D I h;rw[exec_Assign_Name_used _ _ _ _ hsw];refine bv (wpAny_standAt (bv ?_));show wpAny _ X.A (do let _ <- comprehension (.ListComp elt [⟨tg,iter,ifs,0⟩] scope pos) scope X.env _ (newList []) false (eval iter X.env) (some (assign (.Name y py) X.env))) _ _ s
 refine bv (wpAny_mono (wpAny_comprehension_free (use:=some (assign (.Name y py) X.env)) (Q:=λ_ s'=>SP X ce D .next s') rfl hs (zq (S.cells I)) S.kind S.loc
  (cC (hi ce s σ H _ I h) λv s1 h1=>cC h1 λitv s2 h2=>?_)) (λ_ s' hq=>ca (ca hq)) λ_ _ e=>e)
 obtain⟨it,fp,tn,J,H2,e,I2,T,vj,f2,q2⟩:=h2;subst e;obtain⟨hg,ht,he⟩:=hb (s2.heap.objs.size+1) fp s2 H2;refine FY (Q:=λx H1=>jd i x σ H1 D.nx) (R:=λacc C=>compPost (model X.prog X.w) X.A X.xe (some (assign (.Name y py) X.env)) (λ_ s'=>SP X ce D .next s') acc C) hc S I2 T vj f2 hg ht he q2 λσ' H' s' J' fr' q'=>?_;obtain⟨m,hn,_⟩:=J'.loc;have I3:=comp_back I2 f2 J';have fC:=I2.DX (le_succ _) J'.free;show wpAny _ X.A (assign (.Name y py) X.env (.ref s2.heap.objs.size)) _ _ s';refine wpAny_assign_Name (Ci (v:=.ref s2.heap.objs.size) I3 hN hy hl rfl (λs4 I4 ⟨a,Ll,ha⟩=>?_) hf);have haC:s2.heap.objs.size+1≠a:=by
  rcases ha with z|z
  ·rw[z];exact fC.2.1
  exact Ne.symm (fC.2.2.2.2.1 y a z)
 refine⟨m,hn.sameBut Ll haC,λh' Lj=>⟨_,H',I4.UY fC Lj,q'⟩⟩
end
structure V2(P:Program)(w:World)(outer:List Env)(H:Hp)(s:Shared)(a C:Addr)(a0:Value)(B:Heap)(H':Hp)(s':Shared):Prop where
 os:s'.os=s.os
 bare:AllBare s'.gens
 un:Un (sm outer) [] H H' s.heap s'.heap
 cK:tY P w H' s'.heap
 N5:Heap.FlyingW B outer a (.ref C) a0 s'.heap
 RJ:∀b o,s.heap.get? b=some o->b∉sm outer->∃o',B.get? b=some o'
 LQ:∀b u,H' b=some u->∃o',B.get? b=some o'
def iE(P:Program)(w:World):Hq:=λouter H s E e s'=>∃(a C:Addr)(a0:Value)(B:Heap)(H':Hp),e=.ref a/\V2 P w outer H s a C a0 B H' s'/\E (.ref C) none H'
theorem KW{l:List Env}{base:Heap}(F:h.FunFrames base l)(hb:b∈sm l):base.get? b=none/\∃o,h.get? b=some o/\∀vs,o.data≠.fields vs:=F.mem hb
theorem FZ{h1 h2 B:Heap}(u:Un (sm outer) [] H H' h h1)(F:h1.FunFrames B outer)(hB1:B.StaysIn h1)(hB2:B.StaysIn h2)(up:h1.UpToSlots h2)(RJ:∀b o,h.get? b=some o->b∉sm outer->∃o',B.get? b=some o'):Un (sm outer) [] H H' h h2:=by
 have ii:∀b o,h.get? b=some o->b∉sm outer->∀o1,h1.get? b=some o1->h2.get? b=some o1:=λb o e hb o1 e1=>by obtain⟨o',eB⟩:=RJ b o e hb;have q:=hB1 b o' eB;rw[e1]at q;cases q;exact hB2 b _ eB
 refine⟨λb o e n hb hx=>ii b o e hb o (u.keep b o e n hb hx),λb o e n hb hx=>?_,u.free,λb o e hx=>?_,u.zZ,u.yv,u.za⟩
 ·obtain⟨sl,e1⟩:=u.slot b o e n hb hx;obtain⟨_,o1,q1,q2⟩:=KW F hb;rw[e1]at q1;cases q1;obtain⟨sl2,e2⟩:=up b _ e1 q2;exact⟨sl2,e2⟩
 obtain⟨o1,e1⟩:=u.there b o e hx;by_cases hb:b∈sm outer
 ·obtain⟨_,o2,q1,q2⟩:=KW F hb;obtain⟨sl2,e2⟩:=up b _ q1 q2;exact⟨_,e2⟩
 exact⟨o1,ii b o e hb o1 e1⟩
theorem Cv{P:Program}{h1 h2 B:Heap}(x:tY P w H h1)(hB1:B.StaysIn h1)(hB2:B.StaysIn h2)(LQ:∀b u,H b=some u->∃o',B.get? b=some o'):tY P w H h2:=λb o e=>by
 refine(x b o e).FI (λc u hc q=>?_) (λ_ q=>q) λ_ _ q=>q;have ht:∃o',B.get? c=some o':=by
  rcases hc with z|z
  ·rw[z];exact LQ b o e
  exact LQ c _ z
 obtain⟨o',eB⟩:=ht;have q1:=hB1 c o' eB;rw[q]at q1;cases q1;exact hB2 c _ eB
structure Body(X:Cx)(E:XK):Prop where
 xe:X.xe=λe s'=>wpAny (model X.prog X.w) X.A (leaving X.env e) (λ_ E9=>iE X.prog X.w X.outer X.H₀ X.s₀ E e E9) (λe' E9=>iE X.prog X.w X.outer X.H₀ X.s₀ E e' E9) s'
 Qc:X.stack=X.env::X.outer
 fr:X.env.frame=some X.env.locals
 ex:X.ex=[]
section
variable{E:XK}
theorem Inv.old(I:Inv X ce σ H s){o:Obj}(e:X.s₀.heap.get? b=some o):b≠X.env.locals:=ne_of_lt (lt_of_lt_of_le (Heap.lt_size e) I.ok.above)
theorem Body.base(Bd:Body X E)(I:Inv X ce σ H s):Un X.fs [] X.H₀ H X.s₀.heap s.heap:=by have q:=I.base;rw[Bd.ex]at q;exact q
theorem Body.N6(Bd:Body X E)(h1:b≠X.env.locals)(h2:b∉sm X.outer):b∉sm X.stack:=by
 rw[Bd.Qc];intro z;obtain⟨env,he,hf⟩:=List.mem_filterMap.mp z;rcases mem_cons.mp he with rfl|he
 ·rw[Bd.fr]at hf;exact h1 (Option.some.inj hf).symm
 exact h2 (List.mem_filterMap.mpr ⟨env,he,hf⟩)
theorem jB(Bd:Body X E):oE (iE X.prog X.w) X E:=by
 intro ce σ H s e s' I h;obtain⟨a,C,a0,B,H',rfl,T,q⟩:=h;rw[Bd.xe];have Xn:X.A.frames=some (X.env::X.outer):=by rw[<-Bd.Qc];exact I.ok.frames
 have N5:=T.N5;rw[Bd.Qc]at N5;refine wpAny_leaves_onW Xn Bd.fr N5 λh' V3 up=>?_;have RJ:∀b o,X.s₀.heap.get? b=some o->b∉sm X.outer->∃o',B.get? b=some o':=λb o e hb=>by obtain⟨o1,e1⟩:=(Bd.base I).there b o e (by simp);exact T.RJ b o1 e1 (Bd.N6 (I.old e) hb)
 have u1:Un (sm X.outer) [] X.H₀ H' X.s₀.heap s'.heap:=by
  have ub:=Bd.base I;refine⟨λb o e n hb hx=>T.un.keep b o (ub.keep b o e n hb hx) (ub.free b o e n hx) (Bd.N6 (I.old e) hb) (by simp),λb o e n hb hx=>?_,λb o e n hx=>?_,λb o e hx=>?_,λb xs e=>T.un.zZ b xs (ub.zZ b xs e),
   λb o xs e=>T.un.yv b o xs (ub.yv b o xs e),λb ps e=>?_⟩
  ·obtain⟨sl,e1⟩:=ub.slot b o e n hb hx;obtain⟨sl',e2⟩:=T.un.any e1 (ub.free b o e n hx) (by simp);exact⟨sl',e2⟩
  ·obtain⟨o1,e1⟩:=ub.there b o e hx;exact T.un.free b o1 e1 (ub.free b o e n hx) (by simp)
  ·obtain⟨o1,e1⟩:=ub.there b o e hx;exact T.un.there b o1 e1 (by simp)
  obtain⟨m1,e1⟩:=ub.za b ps e;obtain⟨m2,e2⟩:=T.un.za b _ e1;exact⟨m1++m2,by rw[e2,Array.append_assoc]⟩
 have F':s'.heap.FunFrames B X.outer:=by obtain⟨_,_,⟨_,_,k⟩,_⟩:=N5;exact k
 exact⟨a,C,a0,B,H',rfl,⟨T.os.trans I.os,T.bare,FZ u1 F' N5.1 V3.1 up RJ,Cv T.cK N5.1 V3.1 T.LQ,V3,RJ,T.LQ⟩,q⟩
theorem N7{K:W.Frag}(KX:K.In h)(hm:mg x=some (.ref C))(q:W.excIn K C Y6 newId=true):OwnCls x C Y6 newId mg h:=by
 refine⟨hm,?_⟩;unfold W.excIn at q;split at q
 ·rename_i dd cd sl ho;split at q
  ·rename_i C' bm k0 k1 k2 k3 n k5 UZ hs;simp only[Bool.and_eq_true,beq_iff_eq,Bool.not_eq_true']at q;obtain⟨⟨⟨⟨⟨rfl,rfl⟩,Y7⟩,ht⟩,cK⟩,Xo⟩:=q;obtain⟨nm,bs,mro,ns,qn,hd,sn,sub,ab,col,del⟩:=cd;dsimp only at UZ Y7 cK Xo;subst UZ Y7;have Xp:sl=#[k0,k1,k2,k3,some (.builtin n),k5]:=by obtain⟨l⟩:=sl;simp only at hs;rw[hs]
   subst Xp;exact⟨bm,ns,nm,qn,bs,hd,sn,sub,ab,col,dd,k0,k1,k2,k3,k5,_,KX _ _ ho,.of_isNs (W.isNs_of_in KX cK),W.nsMap_none_of_in KX cK Xo,W.tail_of_in KX ht⟩
  cases q
 cases q
def V4(C:Addr)(E:XK)(t:TA):TS:=λ_ σ H=>t σ H λvs H1=>vs.length<=sizeLine/\E (.ref C) none H1
theorem cV{np dZ:Pos}{B V5:String}(Bd:Body X E)(hc:X.calm=true)(hg:Gl X x)(hm:X.mg x=some (.ref C))(hk:W.excIn X.K C Y6 newId=true)(FB:ExcBaseFacts B newId V5 Y6)(ha:PA X (e::es) t)(he:starEach (e::es) X.env=(false,eval e X.env)::starEach es X.env:=by rfl)(tZ:(backTo dZ (starEach es X.env)).any (·.1)=false:=by rfl)(Nr:(x==("__debug__":Str))=false:=by decide):
  PS X (.Raise (some (.Call (.Name x np) (e::es) [] dZ)) none pos) (V4 C E t):=by
 intro ce s σ H D I h;have O:=N7 (I.mod.Qx) hm hk;obtain⟨tl,N,nm,q,bs,hdct,sn,sub,ab,col,dd,k0,k1,k2,k3,k5,mN,hC,hN,Xo,T⟩:=O.obj;refine wpAny_Raise_call_subT (C:=C) (nm:=nm) (q:=q) (N:=N) (bs:=bs) (bm:=tl) (hdct:=hdct) (sn:=sn) (sub:=sub) (ab:=ab) (col:=col) (dd:=dd) (k0:=k0) (k1:=k1) (k2:=k2) (k3:=k3) (k5:=k5)
  FB (mN:=mN) (T.hasType FB.hasBase) (I.ok.hd hc) (by rw[he];show(false||(backTo dZ (starEach es X.env)).any (·.1))=false;rw[tZ];rfl) Xo (zL I hg hm ⟨rfl,?_⟩ Nr)
 have hA:=ha dZ ce s σ H _ I h;rw[he]at hA ⊢;refine Calls.evalArgs_plain (cC hA λus s2 ⟨vs,H2,I2,r,hz,q2⟩=>?_);refine⟨rfl,by rw[<-r.length];exact hz,I2.bk _ _ hC,hN.keeps I2.bk,T.keeps I2.bk,λh' a hx=>?_⟩;rw[Bd.xe];have Xn:X.A.frames=some (X.env::X.outer):=by rw[<-Bd.Qc];exact I.ok.frames
 have hin:∀env∈X.stack,∀b,env.frame=some b->b∈sm X.stack:=λenv he b hb=>List.mem_filterMap.mpr ⟨env,he,hb⟩;have F0:s2.heap.FunFrames (W.hideAll s2.heap (sm X.stack)) X.stack:=W.funFrames_hide I2.stack hin;have F1:s2.heap.FunFrames (W.hideAll s2.heap (sm X.stack)) (X.env::X.outer):=by rw[<-Bd.Qc];exact F0
 have hB0:(W.hideAll s2.heap (sm X.stack)).StaysIn s2.heap:=λb o q=>W.of_hideAll _ q;have Ua:∀b o,s2.heap.get? b=some o->b∉sm X.stack->(W.hideAll s2.heap (sm X.stack)).get? b=some o:=λb o e hb=>W.hideAll_get _ e hb;refine wpAny_leaves_madeW Xn Bd.fr hB0 F1 hx λh'' t N5 tup tn up=>?_;have RJ:∀b o,X.s₀.heap.get? b=some o->b∉sm X.outer->∃o',(W.hideAll s2.heap (sm X.stack)).get? b=some o':=λb o e hb=>by obtain⟨o1,e1⟩:=(Bd.base I2).there b o e (by simp);exact⟨o1,Ua b o1 e1 (Bd.N6 (I2.old e) hb)⟩
 have LQ:∀b u,H2 b=some u->∃o',(W.hideAll s2.heap (sm X.stack)).get? b=some o':=λb u e=>by
  have hb:b∉sm X.stack:=λz=>by rw[I2.DW b z]at e;cases e
  have eI:=I2.cK.lt e;obtain⟨o1,e1⟩:∃o1,s2.heap.get? b=some o1:=by
   cases hq:s2.heap.get? b with
   |some o1=>exact⟨o1,rfl⟩
   |none=>exact absurd hq (Fb (I2.cK b u e))
  exact⟨o1,Ua b o1 e1 hb⟩
 have F2:s2.heap.FunFrames (W.hideAll s2.heap (sm X.stack)) X.outer:=by obtain⟨_,_,k⟩:=F1;exact k
 have up2:s2.heap.UpToSlots h'':=(Heap.UpToSlots.of_keeps hx.keeps).trans up;exact⟨a,C,.ref t,_,H2,rfl,⟨I2.os,I2.bare,FZ (Bd.base I2) F2 hB0 N5.1 up2 RJ,Cv I2.cK hB0 N5.1 LQ,N5,RJ,LQ⟩,q2⟩
where
 Fb {P:Program} {w:World} {H:Hp} {h:Heap} {a:Addr} {o:HO} (x:cZ P w H h a o):h.get? a≠none:=by
  cases o with
  |lst xs=>obtain⟨_,_,_,_,e⟩:=x;rw[e];simp
  |tup xs=>obtain⟨_,_,_,ob,e,_⟩:=x;rw[e];simp
  |dK io=>obtain⟨_,_,_,_,o,_,_,e,_⟩:=x;rw[e];simp
  |dT io=>obtain⟨_,_,_,_,o,_,_,e,_⟩:=x;rw[e];simp
  |set S n=>obtain⟨o,_,_,_,e,_⟩:=x;rw[e];simp
  |ins C dx fs=>obtain⟨_,_,_,e,_⟩:=x;rw[e];simp
  |own y=>obtain⟨_,e⟩:=x;rw[e];simp
  |xd fs=>obtain⟨_,⟨_,_,_,e,_⟩,_⟩:=x;rw[e];simp
  |rng lo hi=>obtain⟨_,_,_,e⟩:=x;rw[e];simp
  |NJ ob u=>obtain⟨e,_⟩:=x;rw[e];simp
  |UM ps=>have e:h.get? a=some _:=x;rw[e];simp
  |met f y=>have e:h.get? a=some _:=x;rw[e];simp
  |ext φ=>obtain⟨_,⟨_,e⟩,_⟩:=x;rw[e];simp
end
section
variable{E:XK}
end
structure xG(K:W.Frag)(C:Addr):Prop where
 ga:W.findIn K (.ref C) "__getattribute__"=some (some (.builtin "BaseException.__getattribute__"))
 nga:W.findIn K (.ref C) "__getattr__"=some none
 at_:W.findIn K (.ref C) "__class__"=some (some (.builtin "object.__class__"))
 cls:(W.clsIn K C).isSome=true
 obj:W.mroIn K C (.type "object")=some true
 base:W.subIn K (.ref C) (.type "BaseException")=some true
section
variable{g:Array GenState}{d:Drawn}{t:Nat}{os:OsState}{K:W.Frag}
end
abbrev TJ:=Str->St->Hp->VK->Prop
def PJ(X:Cx)(es:List Expr)(t:TJ):Prop :=
 ∀(out:Str)(ce:List (Addr×Obj))(s:Shared)(σ:St)(H:Hp)(Q:VK),Inv X ce σ H s->t out σ H Q->wpAny (model X.prog X.w) X.A (joinParts out (evalEach es X.env)) (EP X ce σ Q) X.xe s
section
variable{t:TJ}
def aCE:TJ:=λout _ H Q=>out.length<=sizeLine/\Q (.str out) H
theorem iF:PJ X [] aCE:=λout ce s σ H Q I h=>joinParts_nil (show EP X ce σ Q (.str out s.toks) { s with toks:=s.toks+1 }from⟨.str out,H,I.tok _,⟨_,rfl⟩,h.2⟩) h.1
def Y8(te:TE)(t:TJ):TJ:=λout σ H Q=>te σ H λv H1=>∃y,v=.str y/\(out++y).length<=sizeLine/\t (out++y) σ H1 Q
theorem bD(he:PE X e te)(hr:PJ X es t):PJ X (e::es) (Y8 te t):=by intro out ce s σ H Q I h;refine joinParts_consE (joinParts_cons (cC (he ce s σ H _ I h) λv s1 ⟨x,H1,I1,r1,y,ex,hz,q⟩=>?_));subst ex;obtain⟨tk,rfl⟩:=r1;exact⟨hz,hr _ ce s1 σ H1 Q I1 q⟩
theorem eY{rest:List Expr}(h:PJ X (e1::e2::rest) t):PE X (.JoinedStr (e1::e2::rest) pos) (λσ H Q=>t Str.empty σ H Q):=λce s σ H Q I hw=>JoinedStr_many (h Str.empty ce s σ H Q I hw)
def Y9(te:TE):TE:=λσ H Q=>te σ H λv H1=>∃i,v=.int i/\i.natAbs.log2<1920/\Q (.str (toString i)) H1
theorem cY(he:PE X e te):PE X (.FormattedValue e (-1) none pos) (Y9 te):=by intro ce s σ H Q I h;refine FormattedValue_plain (cC (he ce s σ H _ I h) λv s1 ⟨x,H1,I1,r1,i,ex,hi,q⟩=>?_);subst ex;obtain⟨tk,rfl⟩:=r1;exact formatField_int_small hi ⟨.str _,H1,I1.tok _,⟨_,rfl⟩,q⟩
theorem dw{i:Int}(h:i.natAbs<2 ^ n)(hn:n<=1920)(h0:0<n):i.natAbs.log2<1920:=by
 by_cases z:i.natAbs=0
 ·rw[z];decide
 have:=(Nat.log2_lt z).mpr h;lia
end
theorem PS.Ck{t:TS}(h:PS X.Ck st t):PS X st t:=λce s σ H D I hw =>
 wpAny_mono (h ce s σ H D (I.BZ _) hw) (λ_ _ q=>q.qh) λ_ _ z=>False.elim z
theorem av:oE (iE X.prog X.w) X E0:=λ_ _ _ _ _ _ _ h=>by obtain⟨_,_,_,_,_,_,_,q⟩:=h;exact q.elim
structure Def(P:Program)(w:World)(K:W.Frag)(mg:Str->Option Value)(base:Heap)(k:Nat)(x:Str)(ps:List Str)(sp:Sp):Prop where
 ex:∃(f:Addr)(fd:FuncData),b7 P w K mg base (iE P w) k f fd ps sp/\mg x=some (.ref f)/\W.keepIn K (.ref f)=true/\Binds K fd ps []
section
variable{P:Program}{K:W.Frag}{base:Heap}
theorem Def.mono{j k:Nat}{x:Str}{ps:List Str}{sp:Sp}(D:Def P w K mg base j x ps sp)(h:j<=k):Def P w K mg base k x ps sp:=let⟨f,fd,a,r⟩:=D.ex;⟨f,fd,a.mono h,r⟩
structure aO(K:W.Frag)(mg:Str->Option Value)(x:Str)(st:Stmt):Prop where
 ex:∃(f:Addr)(fd:FuncData),jz K x x st f fd/\mg x=some (.ref f)
theorem aO.mk'{f:Addr}{kV pm ct:Value}(KX:K.In h)(G:h.Ns mainGlobals mg)(a:W.nsIn K mainGlobals x=some (some (.ref f)))(l:K.lookup f=some ⟨oc,od,.func (W.fnOf x x (bq st) (bV st) (aG st) .none kV doc pm an cB ct),Le⟩)(c:W.codeIn K cB x=true)(k:W.keepIn K (.ref f)=true):aO K mg x st:=⟨f,_,dI l c k,W.mg_of KX G a⟩
abbrev cx1(P:Program)(w:World)(K:W.Frag)(mg:Str->Option Value)(base:Heap)(N:List Str)(x:Str)(st:Stmt)(f:Addr)(cB:Value)(A:Around)(outer:List Env)(s:Shared)(H:Hp)(E:XK):Cx :=
 Lc (iE P w) P w K mg base N x (aG st) f cB A outer s H E
theorem aw{f:Addr}{E:XK}:Body (cx1 P w K mg base N x st f cB A outer s H E) E:=⟨rfl,rfl,rfl,rfl⟩
theorem aO.def(F:aO K mg x st)(S:aS N ps (aG st))(hb:∀(kV doc pm:Value)(an:Option Addr)(cB ct:Value)(us:List Value),us.length=ps.length->bindArgs (W.fnOf x x (bq st) (bV st) (aG st) .none kV doc pm an cB ct) ⟨us,[]⟩=pure (ps.zip us))(len:∀vs H Q E,sp vs H Q E->vs.length=ps.length)(zo:∀(f:Addr)(cB:Value)(A:Around)(outer:List Env)(s:Shared)(H:Hp)(vs:List V)(Q:VK)(E:XK),gQ k (A.deeper (envOfC x (aG st) s.heap.objs.size f cB))->sp vs H Q E ->
   ∃t,J8 (cx1 P w K mg base N x st f cB A outer s H E) (bV st) t/\t { nx:=λ_ H'=>Q .bw H',rt:=Q } (start N vs) H):Def P w K mg base (k+1) x ps sp:=by
 obtain⟨f,fd,F1,hm⟩:=F.ex;have b:=F1.binds hb;have kp:=F1.kp;obtain⟨oc,od,kV,doc,pm,an,cB,ct,Le,rfl,lk,HU⟩:=F1.ex;exact⟨f,_,Nu lk HU S len λA outer s H vs Q E hr NO=>zo f cB A outer s H vs Q E hr NO,hm,kp,b⟩
end
section
variable{E:XK}{p:Pos}
theorem aY(D:Def X.prog X.w X.K X.mg X.base k x ps sp)(hr:gQ k X.A)(hx:oE (iE X.prog X.w) X E)(ha:PA X (e::es) t)(hg:Gl X x:=by rfl)(Nr:(x==("__debug__":Str))=false:=by decide)(he:starEach (e::es) X.env=(false,eval e X.env)::starEach es X.env:=by rfl)(tZ:(backTo pos (starEach es X.env)).any (·.1)=false:=by rfl):
  PE X (.Call (.Name x p) (e::es) [] pos) (Nq sp [] E t):=by
 obtain⟨f,fd,F,hm,hk,hb⟩:=D.ex;exact RA F hr hg hm hk hb .nil hx ha Nr he tZ
end
section
def Ub(K:W.Frag):R2:=λx y H Q=>∃l b xs zs,x=.ref l/\y=.ref b/\ae K H l xs/\ae K H b zs/\xs.length+zs.length<=sizeLine/\∀p,H p=none->Q (.ref p) (dl H p (.lst (xs++zs)))
theorem RK:qK X (binaryOp .Add) (Ub X.K):=by
 intro ce s σ H x y v u Q I rx ry h;obtain⟨l,b,xs,zs,rfl,rfl,hH,hB,hz,q⟩:=h;cases rx;cases ry;obtain⟨az,r,pl,_⟩:=I.list hH;obtain⟨iG,r2,pl2,_⟩:=I.list hB;obtain⟨⟨cls,dd,data,sl⟩,ho,hc,n,hd⟩:=id pl.isList;obtain⟨⟨aGN,dd2,data2,sl2⟩,ho2,Qj,n2,hd2⟩:=id pl2.isList;simp only at hc hd Qj hd2;subst hc hd Qj hd2;have e:az.toArray++iG.toArray=(az++iG).toArray:=by simp
 have hsz:az.toArray.size+iG.toArray.size<=sizeLine:=by rw[size_toArray,size_toArray,<-r.length,<-r2.length];exact hz
 refine concat_meets ⟨_,ho,rfl⟩ ⟨_,ho2,rfl⟩ noFill_list_add seq_list_add PySem.F.slot_list_add PySem.F.entry_list_add (PySem.F.args_list_add_2 _ _) (list_addW l b az.toArray iG.toArray n n2 dd dd2 sl sl2 hsz) ⟨ho,ho2,?_⟩;rw[e];exact⟨.ref _,_,I.Yx (t':=s.toks) (r.append r2) (by rw[length_append];exact hz),rfl,q _ I.fresh⟩
end
def Cw(K:W.Frag):Sp:=λvs H Q _=>∃(a:Addr)(ns:List Int),vs=[.ref a]/\ae K H a (ns.map V.int)/\ns.length<=63/\∀H',Q (.bl true) H'
section
variable{P:Program}{K:W.Frag}{base:Heap}
theorem jz.Fc{f:Addr}(F:jz K x x st f fd)(S:aS N ps (aG st))(len:∀vs H Q E,sp vs H Q E->vs.length=ps.length)(zo:∀(f:Addr)(cB:Value)(A:Around)(outer:List Env)(s:Shared)(H:Hp)(vs:List V)(Q:VK)(E:XK),gQ k (A.deeper (envOfC x (aG st) s.heap.objs.size f cB))->sp vs H Q E ->
   ∃t,J8 (cx1 P w K mg base N x st f cB A outer s H E) (bV st) t/\t { nx:=λ_ H'=>Q .bw H',rt:=Q } (start N vs) H):b7 P w K mg base (iE P w) (k+1) f fd ps sp:=by
 obtain⟨oc,od,kV,doc,pm,an,cB,ct,Le,rfl,lk,HU⟩:=F.ex;exact Nu lk HU S len λA outer s H vs Q E hr NO=>zo f cB A outer s H vs Q E hr NO
theorem N8(S:aO K mg "law" st)(hb:∀(kV doc pm:Value)(an:Option Addr)(cB ct:Value)(us:List Value),us.length=1->bindArgs (W.fnOf "law" "law" (bq st) (bV st) (aG st) .none kV doc pm an cB ct) ⟨us,[]⟩=pure ((["script"]:List Str).zip us))(Vy:mg "law"=some (.ref fa))(hF:∀(f:Addr)(fd:FuncData)(base:Heap),jz K "law" "law" st f fd->b7 P w K mg base (iE P w) k f fd ["script"] (Cw K)):
  ∃fd:FuncData,(∀(s:Shared)(u:Value),BindsTo s fd ⟨[u],[]⟩ [("script",u)])/\∀base:Heap,K.In base->base.Ns mainGlobals mg->b7 P w K mg base (iE P w) k fa fd ["script"] (Cw K):=by
 obtain⟨f,fd,F,hm⟩:=S.ex;rw[Vy]at hm;cases hm;refine⟨fd,?_,λbase _ _=>hF fa fd base F⟩;obtain⟨oc,od,kV,doc,pm,an,cB,ct,Le,rfl,lk,HU⟩:=F.ex;exact λs u=>.of_eq (hb kV doc pm an cB ct [u] rfl)
end
theorem N9{l:W.OpenLaw}{K:Params->W.Frag}(hr:gQ k callerA)(hn:l.most=some 63)(Yz:d.params.defaults=[])(hY:∀(w:World)(h:Heap),YP w h->(K w.params).In h)(F:∀(w:World)(mg:Str->Option Value)(fa:Addr)(h:Heap),(K w.params).In h->h.Ns mainGlobals mg->mg d.name=some (.ref fa) ->
   ∃fd:FuncData,(∀(s:Shared)(u:Value),BindsTo s fd ⟨[u],[]⟩ [("script",u)]) /\
    ∀base:Heap,(K w.params).In base->base.Ns mainGlobals mg->b7 l.prog w (K w.params) mg base (iE l.prog w) k fa fd ["script"] (Cw (K w.params))):
  W.WalkO q loose XP YP l.row.toRowW d [] (λf vs=>PySem.call f vs) :=
 RG (n:=63) (k:=k) (x:="script") (CX:=λw=>iE l.prog w) (sp:=λw=>Cw (K w.params)) hn (by decide) Yz hr hY F (λ_ _ a ns hl _ hS=>⟨a,ns,rfl,hS,hl,λ_=>rfl⟩)
  λ_ _ _ _ _ h=>by obtain⟨_,_,_,_,_,_,_,q⟩:=h;exact q.elim
theorem aW{n:Int}(h:∃tk,X.mg x=some (.int n tk))(hg:Gl X x:=by rfl)(hd:(x==("__debug__":Str))=false:=by decide):PE X (.Name x pos) (tC (.int n)):=by obtain⟨tk,e⟩:=h;exact KA hg e ⟨tk,rfl⟩ hd
theorem eZ{p A B:Prop}[Decidable p](hp:¬p)(h:B):if decide p=true then A else B:=by rw[decide_eq_false hp];exact dX h
theorem eJ{p A B:Prop}[Decidable p](hp:p)(h:A):if decide p=true then A else B:=by rw[decide_eq_true hp];exact iD h
theorem jg{p A B:Prop}[Decidable p](hp:p)(h:B):if(!decide p)=true then A else B:=by rw[decide_eq_true hp];exact dX h
theorem wA{p A B:Prop}[Decidable p](hp:¬p)(h:A):if(!decide p)=true then A else B:=by rw[decide_eq_false hp];exact iD h
theorem dJ{n:Int}(h:-1000<=n)(h2:n<=1000):n.natAbs<2 ^ 1000:=by
 have:n.natAbs<=1000:=by lia
 exact Nat.lt_of_le_of_lt this (by decide)
theorem aI.put(s:aI H H')(hp:H p=none):aI H (dl H' p o):=λb u e=>by rw[aE (aR e hp)];exact s b u e
theorem aI.new(s:aI H H')(hp:H' p=none):aI H (dl H' p o):=s.put (s.free hp)
theorem OA{E:XK}(Bd:Body X E):PassesOwn (model X.prog X.w) X.A X.env X.xe:=by rw[Bd.xe];exact PassesOwn.leaving
theorem all_true(n:Nat):(List.range n).all (λ_=>true)=true:=by simp
section
theorem jK(r:bJ xs az)(j:Nat)(h:j<az.toArray.size):∃x,xs[j]?=some x/\RelV x az.toArray[j]:=by
 have hj:j<az.length:=by simpa using h
 have hl:=r.length;have hx:xs[j]?=some xs[j]:=by simp[show j<xs.length by lia]
 obtain⟨u,hu,ru⟩:=r.get hx;refine⟨_,hx,?_⟩;have e:az.toArray[j]=u:=by
  have:=hu;rw[getElem?_eq_getElem hj]at this
  simpa using Option.some.inj this
 rw[e];exact ru
end
section
theorem Fd(hr:gQ k A):A.units+16<cLine:=by have:=hr.un;lia
end
section
variable{I S:Addr}{wr:List Addr}{P:Nat->Value->Prop}{St:Nat->Shared->Prop}{T:String}
theorem OB(W:WalksS prog w A.in1 I fp wr G n P St)(hT:∀i s,St i s->s.TypeIs (.ref I) T)(t1:(Value.type T==Value.type "list")=false)(t2:(Value.type T==Value.type "tuple")=false)(hh:∀(s:Shared)(Q:Bool->Shared->Prop)(E:Value->Shared->Prop),St 0 s->Q false s->wpAny (model prog w) A.in1 (Builtin.List.listLengthHint (.ref I)) Q E s)(res:Value)(c0:Nat)(FL:St 0 s)(hSf:S∉fp)(hI:I∈fp)(hS:s.heap.get? S=some { cls:=.type "list",data:=.seq #[] c0 })(hn:n<=sizeLine)(hR:∀s' qX c',Moved (S::wr) G s s'->s'.heap.get? S=some { cls:=.type "list",dict:=none,data:=.seq qX c',slots:=#[] }->ItemsOf P qX n->R (.ok (.ret res)) s'):
  wpAny (model prog w) A.in1 (Builtin.List.listExtendWith (.ref S) (.ref I) res)
   (λfin s'=>match fin with|.done f=>R (.ok f) s'|.again c'=>c'.quiet=true/\codeAny (model prog w) A c' R s') (λe s'=>R (.error e) s') s:=by
 have ne:S≠I:=λe=>hSf (by rw[e];exact hI);have h1:Builtin.List.listSameRef (.ref S) (.ref I)=false:=by simp[Builtin.List.listSameRef,ne]
 unfold Builtin.List.listExtendWith;refine bv (wpAny_typeOf (hT 0 s FL) ?_);simp only[h1,t1,t2,Bool.or_false,Bool.false_eq_true,if_false];refine bv (W.self 0 s _ _ FL (bv (wpAny_holding (hh s _ _ FL ?_))));refine wpAny_ite_split (λ_=>?_) (λ_=>?_)
 ·refine bv (wpAny_rule (bv ?_));show wpAny _ A.in1 (updateSeq S (·.push .none) >>= λ_=>updateSeq S (·.pop)) _ _ s;refine bv (wpAny_updateSeq hS rfl ?_);have hS2:=Heap.get?_update_self (Obj.mapSeq (·.push Value.none)) hS rfl;refine wpAny_updateSeq (hz:=by seq_fits) hS2 rfl ?_;have hS3:=Heap.get?_update_self (Obj.mapSeq (·.pop)) hS2 rfl;have kp:∀b o,b≠S->s.heap.get? b=some o->((s.heap.update S (Obj.mapSeq (·.push Value.none))).update S (Obj.mapSeq (·.pop))).get? b=some o:=λb o hb e=>by rw[Heap.get?_update_other _ _ (Ne.symm hb),Heap.get?_update_other _ _ (Ne.symm hb)];exact e
  exact ca ⟨plainId_quiet F.plain_extend_loop _,codeAny_extend_loopS W hn S hSf res n 0 _ _ _ rfl (zero_le n) (W.frame 0 s _ s.toks FL (le_refl _) λb hb o e=>kp b o (λz=>hSf (by rw[<-z];exact hb)) e) hS3 (ItemsOf.nil P)
   λs' qX c' hm V6 IB=>hR s' qX c' (Moved.trans W.gtrans ((Moved.refl W.grefl).then_heap (le_refl _) λb o hb e=>kp b o (λz=>hb (by rw[z];exact mem_cons_self)) e) hm) V6 IB⟩
 exact ca ⟨plainId_quiet F.plain_extend_loop _,codeAny_extend_loopS W hn S hSf res n 0 s #[] c0 rfl (zero_le n) FL hS (ItemsOf.nil P) λs' qX c' hm V6 IB=>hR s' qX c' hm V6 IB⟩
theorem Lm{Q:Value->Shared->Prop}(W:WalksS prog w A.in1.in1 I fp wr G n P St)(hT:∀i s,St i s->s.TypeIs (.ref I) T)(t1:(Value.type T==Value.type "list")=false)(t2:(Value.type T==Value.type "tuple")=false)(hh:∀(s:Shared)(Q:Bool->Shared->Prop)(E:Value->Shared->Prop),St 0 s->Q false s->wpAny (model prog w) A.in1.in1 (Builtin.List.listLengthHint (.ref I)) Q E s)(FL:St 0 s)(Y2:∀b∈fp,b<s.heap.objs.size)(hI:I∈fp)(hn:n<=sizeLine)(hQ:∀s' qX c',Moved (s.heap.objs.size::wr) G { s with heap:=s.heap.push { cls:=.type "list",data:=.seq #[] } } s' ->
   s'.heap.get? s.heap.objs.size=some { cls:=.type "list",dict:=none,data:=.seq qX c',slots:=#[] }->ItemsOf P qX n->Q (.ref s.heap.objs.size) s'):
  wpAny (model prog w) A (call (.type "list") [.ref I]) Q E s:=by
 have nf:s.heap.objs.size∉fp:=λz=>absurd (Y2 _ z) (lt_irrefl _);refine callType_codes (Q₁:=λobj z=>obj=.ref s.heap.objs.size/\z={ s with heap:=s.heap.push { cls:=.type "list",data:=.seq #[] } }) F.called_list (F.typeCall_list_1 _) F.entry_list_init (code_list_new _ ⟨rfl,rfl⟩) λobj z hz=>?_
 obtain⟨rfl,rfl⟩:=hz;have hS:(s.heap.push { cls:=.type "list",data:=.seq #[] }).get? s.heap.objs.size=some { cls:=.type "list",data:=.seq #[] }:=Heap.get?_push_size _ rfl;refine⟨⟨_,hS,rfl⟩,F.args_list_init_2 _ _,?_⟩;have aCG:=W.frame 0 s (s.heap.push { cls:=.type "list",data:=.seq #[] }) s.toks FL (le_refl _) λb _ o e=>Heap.get?_push_of_some _ e;show wpAny _ A.in1.in1 (do let old <- Builtin.List.listItems (.ref s.heap.objs.size);Builtin.List.listUpdate (.ref s.heap.objs.size) (λ_=>#[]);letGo old.toList.reverse;Builtin.List.listExtendWith (.ref s.heap.objs.size) (.ref I) .none) _ _ _
 refine bv ?_;unfold Builtin.List.listItems;refine bv (wpAny_seqItems hS rfl (ca (bv (wpAny_updateSeq hS rfl ?_))));have hS2:=Heap.get?_update_self (Obj.mapSeq (λ_=>(#[]:Array Value))) hS rfl;have kp:∀b o,b≠s.heap.objs.size->(s.heap.push { cls:=.type "list",data:=.seq #[] }).get? b=some o->((s.heap.push { cls:=.type "list",data:=.seq #[] }).update s.heap.objs.size (Obj.mapSeq (λ_=>(#[]:Array Value)))).get? b=some o :=
  λb o hb e=>(Heap.get?_update_other _ _ (Ne.symm hb)).trans e
 refine bv (wpAny_letGo ?_);refine OB W hT t1 t2 hh .none _ (W.frame 0 _ _ s.toks aCG (le_refl _) λb hb o e=>kp b o (λz=>nf (by rw[<-z];exact hb)) e) nf hI hS2 hn λs' qX c' hm V6 IB=>?_;exact⟨rfl,hQ s' qX c' (Moved.trans W.gtrans ((Moved.refl W.grefl).then_heap (le_refl _) λb o hb e=>kp b o (λz=>hb (by rw[z];exact mem_cons_self)) e) hm) V6 IB⟩
end
theorem Ln:typeLookup (.type "list_reverseiterator") "__len__"=pure none:=by rw[typeLookup_type,builtinLookup_eq_fast];kernel_rfl
theorem OC:typeLookup (.type "list_reverseiterator") "__length_hint__"=pure (some (.builtin "list_reverseiterator.__length_hint__")):=by rw[typeLookup_type,builtinLookup_eq_fast];kernel_rfl
theorem OD{Q:Bool->Shared->Prop}{i:Int}(hit:s.heap.IsRevIter it l i)(h:Q false s):
  wpAny (model prog w) A (Builtin.List.listLengthHint (.ref it)) Q E s:=by
 unfold Builtin.List.listLengthHint;refine bv (wpAny_specialOf hit.typeIs Ln ?_);show wpAny _ A (specialOf (Value.ref it) (Str.ofString "__length_hint__") >>= _) _ _ _;refine bv (wpAny_specialOf hit.typeIs OC ?_);generalize hid:("list_reverseiterator.__length_hint__":String)=id0
 wp_delta
 rw[show splitId id0=some ("list_reverseiterator","__length_hint__")from by subst hid;decide +kernel];subst hid;refine bv (wpAny_isInstance (T:="list_reverseiterator") (b:=true) hit.typeIs (by rw[isSubtype_type];kernel_rfl) ?_);refine wpAny_ite_split (λz=>absurd z (by decide)) (λ_=>?_);refine wpAny_ite_split (λ_=>?_) (λz=>absurd (by decide +kernel) z);exact wpAny_ite_split (λz=>absurd z (by decide +kernel)) (λ_=>ca h)
section
def ZA(K:W.Frag)(te:TE):TE:=λσ H Q=>te σ H λv H1=>∃l xs,v=.ref l/\ae K H1 l xs/\∀q,H1 q=none->Q (.ref q) (dl H1 q (.lst xs.reverse))
theorem xH{p p2 RL:Pos}(hc:X.calm=true)(V7:X.mg "list"=none)(hmr:X.mg "reversed"=none)(he:PE X e te)(hgl:Gl X "list":=by rfl)(hgr:Gl X "reversed":=by rfl)(hs:starEach [e] X.env=[(false,eval e X.env)]:=by rfl)(LU:starEach [Expr.Call (.Name "reversed" p2) [e] [] RL] X.env=[(false,eval (Expr.Call (.Name "reversed" p2) [e] [] RL) X.env)]:=by rfl):
  PE X (.Call (.Name "list" p) [.Call (.Name "reversed" p2) [e] [] RL] [] pos) (ZA X.K te):=by
 intro ce s σ H Q I h;refine wpAny_Call_Name_kw (nu I hgl V7 boot_list ?_ (by decide) (by decide));refine PyProof.Rows.callWith_type1 ?_ LU rfl;rw[LU];show wpAny _ _ (spliced [(false,eval (Expr.Call (.Name "reversed" p2) [e] [] RL) X.env)]) _ _ s;refine Calls.spliced_cons (wpAny_Call_Name_kw (nu I hgr hmr boot_reversed ?_ (by decide) (by decide)));refine PyProof.Rows.callWith_type1 ?_ hs rfl;rw[hs];show wpAny _ _ (spliced [(false,eval e X.env)]) _ _ s;refine Calls.spliced_cons (cC (he ce s σ H _ I h) λv s1 ⟨x,H1,I1,r1,q1⟩=>Calls.spliced_nil ?_);obtain⟨l,xs,rfl,hq,q⟩:=q1;cases r1;obtain⟨az,rv,pl,hz⟩:=I1.list hq;have jp:=rv.length;refine call_reversed_list pl.isList (Calls.spliced_nil ?_);have eI:l<s1.heap.objs.size:=by obtain⟨o,n,ho,_⟩:=pl;exact Heap.lt_size ho
 have aCH:l≠s1.heap.objs.size:=ne_of_lt eI;have W:=(Walks.listRev (prog:=X.prog) (w:=X.w) (A:=X.A.in1.in1) (I.ok.hd hc) s1.heap.objs.size l aCH az.toArray).toS;have psz:(s1.heap.push (revObj l ((az.toArray.size:Int)-1))).objs.size=s1.heap.objs.size+1:=Heap.size_push ..;have pl2:(s1.heap.push (revObj l ((az.toArray.size:Int)-1))).IsList l az.toArray:=pl.isList.at λo e=>Heap.get?_push_of_some _ e;refine Lm W (T:="list_reverseiterator") (λi s' st=>st.2.1.typeIs) (by decide) (by decide) (λs' Q' E' st Vl=>OD st.2.1 Vl) ⟨zero_le _,⟨_,Heap.get?_push_size _ rfl,rfl,by unfold revObj;simp⟩,pl2⟩ (λb hb=>?_) (by simp) (by simp;lia) λs' qX c' hm V6 IB=>?_
 ·have KY:b=s1.heap.objs.size\/b=l:=by simpa using hb
  show b<(s1.heap.push (revObj l ((az.toArray.size:Int)-1))).objs.size;rw[psz];rcases KY with rfl|rfl
  ·exact lt_succ_self _
  exact Nat.lt_succ_of_lt eI
 have ea:qX=az.reverse.toArray:=by
  obtain⟨a1,a2⟩:=IB;apply Array.ext';apply List.ext_getElem?;intro j;by_cases hj:j<az.length
  ·have hj':j<qX.size:=(by rw[a1];simpa using hj);have g:=a2 j qX[j] (by simp[hj']);have e1:qX.toList[j]?=some qX[j]:=(by simp[hj']);rw[e1];simp only[List.getElem?_toArray,size_toArray]at g;show _=az.reverse[j]?;rw[List.getElem?_reverse hj,g]
  have:qX.toList[j]?=none:=by simp;rw[a1];simp;lia
  rw[this];simp;lia
 subst ea;rw[Moved.eq_with hm];have kp:∀b o,s1.heap.get? b=some o->s'.heap.get? b=some o:=λb o eb=>by
  have Xq:=Heap.lt_size eb;refine hm.heap b o (λz=>?_) (Heap.get?_push_of_some _ (Heap.get?_push_of_some _ eb));have z':b=(s1.heap.push (revObj l ((az.toArray.size:Int)-1))).objs.size\/b=s1.heap.objs.size:=by simpa using z
  rw[psz]at z';rcases z' with z'|z'
  ·exact absurd Xq (by rw[z'];exact Nat.not_lt.mpr (le_succ _))
  exact absurd Xq (by rw[z'];exact lt_irrefl _)
 refine⟨.ref _,_,I1.laid (t':=s'.toks) (o:=.lst xs.reverse) (a:=(s1.heap.push (revObj l ((az.toArray.size:Int)-1))).objs.size) kp (by rw[psz];lia) ?_,rfl,q _ (I1.cK.fresh (by rw[psz];lia))⟩;exact⟨by rw[List.length_reverse];exact hz,az.reverse,c',rv.reverse,V6⟩
end
def KZ(Nc:List Str)(ix:List (Option Nat))(scope sc:Scope)(N:List Str):Bool :=
 decide (scope.kind=.function)&&decide Nc.Nodup&&decide (ix.length=Nc.length) &&
 (scope.names.all λx=>decide (x.2=.local->scope.names.lookup x.1=some .local)) &&
 (scope.names.all λx=>decide (x.2=.free->sc.names.lookup x.1=some .cell\/sc.names.lookup x.1=some .free)) &&
 (scope.names.all λx=>decide (x.2=.free->(x.1,NameKind.cell)∉scope.names)) &&
 ((ix.zip Nc).all λp=>match p.1 with|none=>true|some j=>decide (N[j]?=some p.2/\scope.names.lookup p.2=some .free))
theorem cW(sc:Scope)(N:List Str)(OE:X.env.scope=sc)(hN:X.N=N)(h:KZ Nc ix scope sc N=true):gH X Nc ix scope:=by
 subst OE hN;simp only[KZ,Bool.and_eq_true,decide_eq_true_eq,List.all_eq_true]at h;obtain⟨⟨⟨⟨⟨⟨h1,h2⟩,h3⟩,h4⟩,h5⟩,h6⟩,h7⟩:=h;refine⟨h1,h2,h3,h4,h5,λx hx=>h6 _ hx rfl,λi j x e1 e2=>?_⟩;have hm:(some j,x)∈ix.zip Nc:=by refine List.mem_iff_getElem?.mpr ⟨i,?_⟩;rw[List.getElem?_zip_eq_some];exact⟨e1,e2⟩
 have:=h7 _ hm
 simpa using this
section
variable{K:W.Frag}
theorem zO(Pv:Nat->St->Hp->Prop)(h0:Pv 0 σ H)(hl:∀i σ H,i<=xs.length->Pv i σ H->ae K H a xs)(hs:∀(i:Nat)(x:V)(σ:St)(H:Hp)(N:St->Hp->Prop),(∀σ H,Pv (i+1) σ H->N σ H)->xs[i]?=some x->Pv i σ H->g x σ H λσ3 H3=>tt σ3 H3 λb H4 =>
   if b=true then te σ3 H4 λv H5=>∃ys,H5 D=some (.lst ys)/\ys.length<sizeLine/\N σ3 (dl H5 D (.lst (ys++[v])))else N σ3 H4)(hd:∀σ H,Pv xs.length σ H->Q (.ref D) H):
  tf (Vb K a) g tt te D σ H Q:=by
 refine⟨λi m σ H=>m=xs.length-i/\i<=xs.length/\Pv i σ H,⟨xs.length,by simp,zero_le _,h0⟩,?_⟩;rintro i m σ' H' ⟨rfl,hi,p⟩;have q:=hl i σ' H' hi p;by_cases eI:i<xs.length
 ·refine .inr ⟨⟨xs,xs[i],q,by simp[eI]⟩,λx H2 y=>?_⟩;obtain⟨e,y⟩:=y;subst e;exact hs i x σ' _ (λσ3 H3=>∃m',m'<xs.length-i/\m'=xs.length-(i+1)/\i+1<=xs.length/\Pv (i+1) σ3 H3) (λσ3 H3 z=>⟨xs.length-(i+1),by lia,rfl,eI,z⟩) (y xs q) p
 have e:i=xs.length:=by lia
 subst e;exact .inl ⟨⟨xs,q,le_refl _⟩,hd σ' H' p⟩
theorem m9{lo:Int}(Pv:Nat->St->Hp->Prop)(h0:Pv 0 σ H)(hs:∀(i:Nat)(σ:St)(H:Hp)(N:St->Hp->Prop),(∀σ H,Pv (i+1) σ H->N σ H)->i<n->Pv i σ H->g (.int (lo+i)) σ H λσ3 H3=>tt σ3 H3 λb H4 =>
   if b=true then te σ3 H4 λv H5=>∃ys,H5 D=some (.lst ys)/\ys.length<sizeLine/\N σ3 (dl H5 D (.lst (ys++[v])))else N σ3 H4)(hd:∀σ H,Pv n σ H->Q (.ref D) H):
  tf (Q5 lo n) g tt te D σ H Q:=by
 refine⟨λi m σ H=>m=n-i/\i<=n/\Pv i σ H,⟨n,by simp,zero_le _,h0⟩,?_⟩;rintro i m σ' H' ⟨rfl,hi,p⟩;by_cases eI:i<n
 ·refine .inr ⟨eI,λx H2 y=>?_⟩;obtain⟨e,y⟩:=y;subst e y;exact hs i σ' _ (λσ3 H3=>∃m',m'<n-i/\m'=n-(i+1)/\i+1<=n/\Pv (i+1) σ3 H3) (λσ3 H3 z=>⟨n-(i+1),by lia,rfl,eI,z⟩) eI p
 have e:i=n:=by lia
 subst e;exact .inl ⟨le_refl _,hd σ' H' p⟩
end
theorem jj{y:V}(h:(ns.map V.int)[i]?=some y):∃z,ns[i]?=some z/\y=V.int z:=by
 rw[getElem?_map]at h;cases e:ns[i]? with
 |none=>rw[e]at h;cases h
 |some z=>rw[e]at h;exact⟨z,rfl,(Option.some.inj h).symm⟩
theorem take_succ{α:Type}{l:List α}{i:Nat}{x:α}(h:l[i]?=some x):l.take (i+1)=l.take i++[x]:=by rw[List.take_succ,h];rfl
theorem V8{A B:Hp->Prop}(h:A H):RI σ H λb H4=>if b=true then A H4 else B H4:=by show if true=true then A H else B H;exact iD h
theorem dF{x:V}{A:St->Hp->Prop}(h:A (σ.set i (some x)) H):jd i x σ H λσ3 H3=>RI σ3 H3 λb H4=>if b=true then A σ3 H4 else B σ3 H4:=by show if true=true then A (σ.set i (some x)) H else B (σ.set i (some x)) H;exact iD h
section
theorem Inv.Ka(I:Inv X ce σ H s)(k:∀b o,b∉ch->s.heap.get? b=some o->h'.get? b=some o)(hf:∀b∈ch,xB X ce H b):Inv X ce σ H { s with heap:=h',toks:=t' }:=by
 have ZC:∀b u,H b=some u->b∉ch:=λb u e z=>by rw[(hf b z).1]at e;cases e
 refine I.NX (s':={ s with heap:=h',toks:=t' }) (ch:=ch) rfl ⟨λb o e _ _ hx=>k b o hx e,λb o e _ _ hx=>⟨o.slots,k b o hx e⟩,λ_ _ _ n _=>n,λb o e hx=>⟨o,k b o hx e⟩,λ_ _ e=>e,λ_ _ _ e=>e,λb ps e=>⟨#[],by rw[e];simp⟩⟩ ?_ I.bare λb hb=>?_
 ·intro b o e;refine(I.cK b o e).FI (λc u hc q=>k c u ?_ q) (λ_ q=>q) λ_ _ q=>q;rcases hc with z|z
  ·rw[z];exact ZC b o e
  exact ZC c _ z
 obtain⟨_,q1,_,q3,q4,q5⟩:=hf b hb;exact⟨q3,q1,q4,q5⟩
theorem Inv.Cy{T:Addr}(I:Inv X ce σ H s)(k:∀b o,b∉ch->s.heap.get? b=some o->h'.get? b=some o)(hf:∀b∈ch,xB X ce H b)(hT:s.heap.objs.size<=T)(new:cZ X.prog X.w (dl H T o) h' T o):Inv X ce σ (dl H T o) { s with heap:=h',toks:=t' }:=by
 have ZC:∀b u,H b=some u->b∉ch:=λb u e z=>by rw[(hf b z).1]at e;cases e
 have hn:=I.cK.fresh hT;have old:∀b u,s.heap.get? b=some u->b≠T:=λb u e=>ne_of_lt (lt_of_lt_of_le (Heap.lt_size e) hT);refine I.NX (s':={ s with heap:=h',toks:=t' }) (ch:=ch) rfl ⟨λb o e _ _ hx=>k b o hx e,λb o e _ _ hx=>⟨o.slots,k b o hx e⟩,λb u e n _=>by rw[aE (old b u e)];exact n,λb o e hx=>⟨o,k b o hx e⟩,
  λb xs e=>by rw[aE (aR e hn)];exact e,λb o u e=>by rw[aE (aR e hn)];exact e,λb ps e=>⟨#[],by rw[aE (aR e hn),e];simp⟩⟩ ?_ I.bare λb hb=>?_
 ·intro b u e;by_cases hb:b=T
  ·subst hb;rw[aA]at e;cases e;exact new
  rw[aE hb]at e;refine(I.cK b u e).FI (λc v hc q=>k c v ?_ q) (λc q=>by rw[aE (aR q hn)];exact q) λc xs q=>by rw[aE (aR q hn)];exact q
  rcases hc with z|z
  ·rw[z];exact ZC b u e
  exact ZC c _ z
 obtain⟨_,q1,_,q3,q4,q5⟩:=hf b hb;exact⟨q3,q1,q4,q5⟩
end
def V9(K:W.Frag)(a b:Addr):It :=
 ⟨λi H=>∃xs ys x y,ae K H a xs/\ae K H b ys/\xs[i]?=some x/\ys[i]?=some y,
  λi H v H'=>∃p x y,H p=none/\v=.ref p/\H'=dl H p (.tup [x,y])/\(∀xs,ae K H a xs->xs[i]?=some x)/\∀ys,ae K H b ys->ys[i]?=some y,
  λi H=>∃xs ys,ae K H a xs/\ae K H b ys/\(xs.length<=i\/ys.length<=i)⟩
theorem OF{P:Program}{K:W.Frag}{z TI TO i1 i2 l1 l2:Addr}(D:ZipApart z TI TO i1 i2 l1 l2):
  Turn P w K (.Tuple elts x1 pos) (V9 K l1 l2) [z,TI,TO,i1,i2] z (λi h=>IsZip h z TI TO .none/\IsPair h TI (.ref i1) (.ref i2)/\(∃a b,IsPair h TO a b)/\h.IsListIter i1 l1 i/\h.IsListIter i2 l2 i)where
 mem:=by simp
 obj:=λi h st b hb=>by
  obtain⟨hz,uO,⟨a,b',wy⟩,⟨o1,e1,c1,d1⟩,⟨o2,e2,c2,d2⟩⟩:=st;simp only[mem_cons,not_mem_nil,or_false]at hb;rcases hb with rfl|rfl|rfl|rfl|rfl
  ·exact⟨_,hz,λv q=>by cases q⟩
  ·exact⟨_,uO,λv q=>by cases q⟩
  ·exact⟨_,wy,λv q=>by cases q⟩
  ·exact⟨_,e1,λv q=>by rw[d1]at q;cases q⟩
  exact⟨_,e2,λv q=>by rw[d2]at q;cases q⟩
 keep:=λi h h' st k=>by obtain⟨hz,uO,⟨a,b',wy⟩,h1,h2⟩:=st;exact⟨k z (by simp) _ hz,k TI (by simp) _ uO,⟨a,b',k TO (by simp) _ wy⟩,h1.at λo e=>k i1 (by simp) o e,h2.at λo e=>k i2 (by simp) o e⟩
 item:=by
  intro X hP hw hK hc i ce s σ H E I hf st hg;subst hP hw hK;obtain⟨hz,uO,⟨a,b,wy⟩,h1,h2⟩:=st;obtain⟨xs,ys,x,y,hx,hy,ex,ey⟩:=hg;obtain⟨az,rv,p,hzx⟩:=I.list hx;obtain⟨iG,ZD,p2,hzy⟩:=I.list hy;obtain⟨u,hu,ru⟩:=rv.get ex;obtain⟨u2,hu2,ru2⟩:=ZD.get ey;refine wpAny_pyNext_zip_item D hz uO wy h1 h2 p.isList p2.isList (x:=u) (y:=u2) (by simpa using hu) (by simpa using hu2) λh' a1 a2 a3 a4 a5 a6 kk=>⟨_,rfl,?_⟩;refine wpAny_letOwnedTupleGo_zip a1 λWA hz' zP=>?_;have lt:∀{c o},s.heap.get? c=some o->s.heap.objs.size≠c:=λe=>Nat.ne_of_gt (Heap.lt_size e);have k2:∀c o,c∉[z,TI,TO,i1,i2]->s.heap.get? c=some o->WA.get? c=some o:=λc o hc e=>by simp only[mem_cons,not_mem_nil,or_false,not_or]at hc;exact zP.extBut _ _ hc.1 (kk c o hc.1 hc.2.2.1 hc.2.2.2.1 hc.2.2.2.2 e)
  have tup:cZ X.prog X.w (dl H s.heap.objs.size (.tup [x,y])) WA s.heap.objs.size (.tup [x,y]) :=
   ⟨by show 2<=sizeLine;decide,[u,u2],.cons ru (.cons ru2 .nil),⟨_,zP.extBut _ _ (lt hz) a5,rfl,_,rfl⟩⟩
  have hn:=I.cK.fresh (le_refl s.heap.objs.size);refine⟨.ref s.heap.objs.size,_,I.Cy (t':=s.toks) k2 hf (le_refl _) tup,rfl,⟨_,x,y,hn,rfl,rfl,λzs hq=>by rw[I.vm hq hx];exact ex,λzs hq=>by rw[I.vm hq hy];exact ey⟩,
   ⟨hz',zP.extBut _ _ D.TIz (kk _ _ D.TIz D.TITO D.TIi1 D.TIi2 uO),⟨_,_,zP.extBut _ _ D.TOz a2⟩,a3.extBut zP.extBut D.i1z,a4.extBut zP.extBut D.i2z⟩,λc hc=>?_⟩
  have Xr:c≠s.heap.objs.size:=by
   simp only[mem_cons,not_mem_nil,or_false]at hc;obtain⟨o1,e1,_⟩:=h1;obtain⟨o2,e2,_⟩:=h2;rcases hc with rfl|rfl|rfl|rfl|rfl
   ·exact(lt hz).symm
   ·exact(lt uO).symm
   ·exact(lt wy).symm
   ·exact(lt e1).symm
   exact(lt e2).symm
  rw[aE Xr];exact(hf c hc).1
 done:=by
  intro X hP hw hK hc i ce s σ H E I hf st hg;subst hP hw hK;obtain⟨hz,uO,⟨a,b,wy⟩,h1,h2⟩:=st;obtain⟨xs,ys,hx,hy,he⟩:=hg;obtain⟨az,rv,p,hzx⟩:=I.list hx;obtain⟨iG,ZD,p2,hzy⟩:=I.list hy;have OG:=rv.length;have l2':=ZD.length;refine wpAny_pyNext_zip_end (I.ok.hd hc) D hz uO wy h1 h2 p.isList p2.isList (by rcases he with h|h;exact .inl (by simp;lia);exact .inr (by simp;lia)) λh' kk=>⟨rfl,?_⟩
  refine I.Ka (t':=s.toks) (ch:=[z,TI,TO,i1,i2]) (λc o hc e=>?_) hf;simp only[mem_cons,not_mem_nil,or_false,not_or]at hc;exact kk c o hc.1 hc.2.2.1 hc.2.2.2.1 hc.2.2.2.2 e
 self:=λ_ _ _ _ _ st h=>wpAny_pyIter_zip st.1 h
section
def ZE(K:W.Frag)(ta:TA):TI:=λσ H R=>ta σ H λvs H1=>∃a b,vs=[.ref a,.ref b]/\(∃xs,ae K H1 a xs)/\(∃ys,ae K H1 b ys)/\R (V9 K a b) H1
theorem WB{ta:TA}{p Dd:Pos}(hg:Gl X "zip")(hm:X.mg "zip"=none)(ha:PA X [e1,e2] ta)(hs:starEach [e1,e2] X.env=(false,eval e1 X.env)::starEach [e2] X.env:=by rfl)(tZ:(backTo pos (starEach [e2] X.env)).any (·.1)=false:=by rfl):
  PI X (.Tuple elts x1 Dd) (.Call (.Name "zip" p) [e1,e2] [] pos) (ZE X.K ta):=by
 intro ce s σ H R I h;refine wpAny_Call_Name_kw (nu I hg hm boot_zip ?_ (by decide) (by decide));refine PyProof.Rows.callWith_type1 (cC (ha pos ce s σ H _ I h) λus s1 ⟨vs,H1,I1,r1,q1⟩=>?_) hs tZ;obtain⟨a,b,rfl,⟨xs,hx⟩,⟨ys,hy⟩,q⟩:=q1;obtain⟨u,v,rfl,ru,rv⟩:=r1.two;cases ru;cases rv;obtain⟨az,Xs,p1,_⟩:=I1.list hx;obtain⟨iG,Xt,p2,_⟩:=I1.list hy;refine call_zip_2 p1.isList p2.isList λh' hz uO wy h1 h2 hsz kk=>?_;refine wpAny_pyIter_zip hz ?_;have la:a<s1.heap.objs.size:=by obtain⟨o,n,ho,_⟩:=p1;exact Heap.lt_size ho
 have lb:b<s1.heap.objs.size:=by obtain⟨o,n,ho,_⟩:=p2;exact Heap.lt_size ho
 have I2:Inv X ce σ H1 { s1 with heap:=h' }:=I1.kept (t':=s1.toks) λb o e=>kk b o e
 refine⟨s1.heap.objs.size+4,[s1.heap.objs.size+4,s1.heap.objs.size+2,s1.heap.objs.size+3,s1.heap.objs.size,s1.heap.objs.size+1],_,_,H1,rfl,I2,OF (zipApart_new la lb),⟨hz,uO,⟨_,_,wy⟩,h1,h2⟩,λc hc=>?_,q⟩;have hle:s1.heap.objs.size<=c:=by
  simp only[mem_cons,not_mem_nil,or_false]at hc;rcases hc with rfl|rfl|rfl|rfl|rfl
  ·exact Nat.le_add_right _ _
  ·exact Nat.le_add_right _ _
  ·exact Nat.le_add_right _ _
  ·exact le_refl _
  exact Nat.le_add_right _ _
 have f:=I1.DX (H':=H1) hle (I1.cK.fresh hle);exact f
theorem WC{j:Nat}{px:Pos}(hc:X.calm=true)(hN:X.N.Nodup)(hi:X.N[i]?=some x)(hj:X.N[j]?=some y)(lx:Loc X.env.scope x)(ly:Loc X.env.scope y)(fx:X.fn x=true\/X.env.scope.names.lookup x=some .local:=by first|exact .inl rfl|exact .inr rfl)(fy:X.fn y=true\/X.env.scope.names.lookup y=some .local:=by first|exact .inl rfl|exact .inr rfl)(hs:(assignEach [.Name x px,.Name y py] X.env).map (·.2)=[assign (.Name x px) X.env,assign (.Name y py) X.env]:=by rfl)(LU:(assignEach [.Name y py] X.env).map (·.2)=[assign (.Name y py) X.env]:=by rfl)(hs0:(assignEach [] X.env).map (·.2)=[]:=by rfl)(hn:(assignEach [.Name x px,.Name y py] X.env).length=2:=by rfl)(FL:(assignEach [.Name x px,.Name y py] X.env).findIdx? (·.1)=none:=by rfl):
  PG X (.Tuple [.Name x px,.Name y py] k pos) (Nb X.K 2 (vn (jd i) (vn (jd j) Na))) :=
 Nd hc (eN (au hN hi lx fx) (eN (au hN hj ly fy) zM (by rw[LU,hs0])) (by rw[hs,LU])) hn FL
end
section
variable{K:W.Frag}
theorem WD{ys:List V}(jp:xs.length=ys.length)(Pv:Nat->St->Hp->Prop)(h0:Pv 0 σ H)(hl:∀i σ H,i<=xs.length->Pv i σ H->ae K H a xs/\ae K H b ys)(hs:∀(i:Nat)(x y:V)(p:Addr)(σ:St)(H:Hp)(N:St->Hp->Prop),(∀σ H,Pv (i+1) σ H->N σ H)->xs[i]?=some x->ys[i]?=some y->Pv i σ H->H p=none->g (.ref p) σ (dl H p (.tup [x,y])) λσ3 H3=>tt σ3 H3 λb H4 =>
   if b=true then te σ3 H4 λv H5=>∃ys,H5 D=some (.lst ys)/\ys.length<sizeLine/\N σ3 (dl H5 D (.lst (ys++[v])))else N σ3 H4)(hd:∀σ H,Pv xs.length σ H->Q (.ref D) H):tf (V9 K a b) g tt te D σ H Q:=by
 refine⟨λi m σ H=>m=xs.length-i/\i<=xs.length/\Pv i σ H,⟨xs.length,by simp,zero_le _,h0⟩,?_⟩;rintro i m σ' H' ⟨rfl,hi,p⟩;obtain⟨q1,q2⟩:=hl i σ' H' hi p;by_cases eI:i<xs.length
 ·refine .inr ⟨⟨xs,ys,xs[i],ys[i],q1,q2,by simp[eI],by simp[show i<ys.length by lia]⟩,λv H2 z=>?_⟩;obtain⟨pt,x,y,hp,rfl,rfl,e1,e2⟩:=z;exact hs i x y pt σ' H' (λσ3 H3=>∃m',m'<xs.length-i/\m'=xs.length-(i+1)/\i+1<=xs.length/\Pv (i+1) σ3 H3) (λσ3 H3 z=>⟨xs.length-(i+1),by lia,rfl,eI,z⟩) (e1 xs q1) (e2 ys q2) p hp
 have e:i=xs.length:=by lia
 subst e;exact .inl ⟨⟨xs,ys,q1,q2,.inl (le_refl _)⟩,hd σ' H' p⟩
theorem zt{j:Nat}{x y:V}{A:St->Hp->Prop}(h:A ((σ.set i (some x)).set j (some y)) (dl H p (.tup [x,y]))):
  Nb K 2 (vn (jd i) (vn (jd j) Na)) (.ref p) σ (dl H p (.tup [x,y])) λσ3 H3=>RI σ3 H3 λb H4=>if b=true then A σ3 H4 else B σ3 H4 :=
 ⟨p,[x,y],rfl,cT.of aA,rfl,x,_,rfl,y,_,rfl,rfl,(by show if true=true then A ((σ.set i (some x)).set j (some y)) (dl H p (.tup [x,y]))else B ((σ.set i (some x)).set j (some y)) (dl H p (.tup [x,y]));exact iD h)⟩
end
section
end
def bW(n:Nat)(f:Nat->V):List V:=(List.range n).map f
abbrev dL(n:Nat)(f:Nat->Int):List V:=bW n λj=>V.int (f j)
abbrev bB(n:Nat)(f:Nat->Addr):List V:=bW n λj=>V.ref (f j)
theorem aL(n:Nat)(f:Nat->V):(bW n f).length=n:=by simp[bW]
theorem bu(h:i<n):(bW n f)[i]?=some (f i):=by simp[bW,h]
theorem tab_of{x:V}(h:(bW n f)[i]?=some x):i<n/\x=f i:=by
 have hi:i<n:=by
  have:=(List.getElem?_eq_some_iff.mp h).1
  rwa [aL]at this
 rw[bu hi]at h;exact⟨hi,(Option.some.inj h).symm⟩
theorem zu(n:Nat)(f:Nat->V):bW (n+1) f=bW n f++[f n]:=by simp[bW,List.range_succ]
theorem bX{g:Nat->V}(h:∀i,i<n->f i=g i):bW n f=bW n g:=by unfold bW;apply List.map_congr_left;intro i hi;exact h i (List.mem_range.mp hi)
theorem sx{v:V}(h:i<n):(bW n f).set i v=bW n λj=>if j=i then v else f j:=by
 apply List.ext_getElem?;intro j;by_cases hj:j<n
 ·rw[bu hj];by_cases e:j=i
  ·subst e;rw[List.getElem?_set_self (by rw[aL];exact hj)];simp
  rw[List.getElem?_set_ne (Ne.symm e),bu hj];simp[e]
 rw[getElem?_eq_none (by rw[List.length_set,aL];lia),getElem?_eq_none (by rw[aL];lia)]
theorem zv{i:Int}(h0:0<=i)(h:i<n):Hw (bW n f).length i=some i.toNat:=by rw[aL];unfold Hw;rw[if_pos h0,if_pos h]
theorem da{i:Int}(h0:0<=i)(h:i<n):uL (bW n f) i=some (f i.toNat):=by unfold uL;rw[zv h0 h];exact bu (by lia)
theorem OH:uL (bW (n+1) f) (-1)=some (f n):=by
 have h:Hw (bW (n+1) f).length (-1)=some n:=by
  rw[aL];unfold Hw;rw[if_neg (by lia),if_pos (by lia)]
  congr 1
  lia
 unfold uL;rw[h];exact bu (by lia)
theorem wB(n:Nat)(f:Nat->Int):((List.range n).map f).map V.int=dL n f:=by unfold dL bW;rw[List.map_map];rfl
def Dn(K:W.Frag)(H:Hp)(l:Addr)(m n:Nat)(a:Nat->Nat->Int):Prop:=∃as:Nat->Addr,ae K H l (bB m as)/\∀i,i<m->ae K H (as i) (dL n (a i))
section
variable{K:W.Frag}
theorem oJ(Pv:Nat->St->Hp->Prop)(h0:Pv 0 σ H)(hl:∀i σ H,i<=n->Pv i σ H->ae K H a (bW n F))(hs:∀(i:Nat)(σ:St)(H:Hp)(N:St->Hp->Prop),(∀σ H,Pv (i+1) σ H->N σ H)->i<n->Pv i σ H->g (F i) σ H λσ3 H3=>tt σ3 H3 λb H4 =>
   if b=true then te σ3 H4 λv H5=>∃ys,H5 D=some (.lst ys)/\ys.length<sizeLine/\N σ3 (dl H5 D (.lst (ys++[v])))else N σ3 H4)(hd:∀σ H,Pv n σ H->Q (.ref D) H):tf (Vb K a) g tt te D σ H Q:=by
 refine zO (xs:=bW n F) Pv h0 (λi σ H hi=>hl i σ H (by rwa [aL]at hi)) (λi x σ H N hN hx hp=>?_) (λσ H h=>hd σ H (by rwa [aL]at h));obtain⟨hi,rfl⟩:=tab_of hx;exact hs i σ H N hN hi hp
theorem Kb{G:Nat->V}(Pv:Nat->St->Hp->Prop)(h0:Pv 0 σ H)(hl:∀i σ H,i<=n->Pv i σ H->ae K H a (bW n F)/\ae K H b (bW n G))(hs:∀(i:Nat)(p:Addr)(σ:St)(H:Hp)(N:St->Hp->Prop),(∀σ H,Pv (i+1) σ H->N σ H)->i<n->Pv i σ H->H p=none->g (.ref p) σ (dl H p (.tup [F i,G i])) λσ3 H3=>tt σ3 H3 λb H4 =>
   if b=true then te σ3 H4 λv H5=>∃ys,H5 D=some (.lst ys)/\ys.length<sizeLine/\N σ3 (dl H5 D (.lst (ys++[v])))else N σ3 H4)(hd:∀σ H,Pv n σ H->Q (.ref D) H):tf (V9 K a b) g tt te D σ H Q:=by
 refine WD (xs:=bW n F) (ys:=bW n G) (by rw[aL,aL]) Pv h0 (λi σ H hi=>hl i σ H (by rwa [aL]at hi)) (λi x y p σ H N hN hx hy hp hn=>?_) (λσ H h=>hd σ H (by rwa [aL]at h));obtain⟨hi,rfl⟩:=tab_of hx;obtain⟨_,rfl⟩:=tab_of hy;exact hs i p σ H N hN hi hp hn
theorem lS{v:V}(h:v=F i):(dl H D (.lst (bW i F++[v]))) D=some (.lst (bW (i+1) F)):=by rw[aA,zu,h]
end
theorem Fe(i:Nat)(F:Nat->V)(x:V):bW i F++[x]=bW (i+1) λk=>if k=i then x else F k:=by refine((zu i _).trans ?_).symm;rw[show bW i (λk=>if k=i then x else F k)=bW i F from bX λk hk=>by rw[if_neg (by lia)],if_pos rfl]
theorem dM(i:Nat)(ps:Nat->Addr)(p:Addr):bB i ps++[V.ref p]=bB (i+1) λk=>if k=i then p else ps k:=by rw[Fe];refine bX λk hk=>?_;by_cases e:k=i<;>simp[e]
end L2
namespace L2
open PySem PySem.Spec PyProof.Rows
variable{X:Cx}{st:Stmt}{tg e1 e2 e value:Expr}{l a D z i1 i2 b dx C:Addr}{tl ta te tv:TE}{p pos Dd apos dZ pos':Pos}{elts es values:List Expr}{x1 i n lo hi:Nat}{x name:Str}{y v:V}{o:Option V}{r:V->List V->Hp->VK->Prop}{ce:List (Addr×Obj)}{σ:St}{H H':Hp}{s:Shared}{ys items:Array Value}{zs:List Int}{A:Around}{tt:TT}{f:Nat->V}{g:List Value->List Value->List Value}{w:World}{xs:List (List Key×Addr×Value)}{tb:TS}{prog:Program}{E Q:Value->Shared->Prop}{mg mA:Str->Option Value}{h h':Heap}{fs:List (Str×V)}{u:Value}{CX:Hq}{fd:FuncData}{ps:List Str}{sp:Sp}{BX:List V}{ds more:List Value}{ks keys:List (Option Expr)}{kws:List Keyword}{nm:Option Str}{gV:List V->List V->List V}{io:List (List Key×V)}{vs:List (Key×Value)}{RV:List (TE×TE)}
def ZF(t:TS):TS:=λD σ H=>∃R:St->Hp->Prop,t { D with nx:=R } σ H/\∀σ' H',R σ' H'->D.nx σ' H'
theorem l8{t:TS}(h:PS X st t):PS X st (ZF t):=by
 intro ce s σ H D I ⟨R,h1,h2⟩;refine wpAny_mono (h ce s σ H { D with nx:=R } I h1) (λf s' q=>?_) λ_ _ z=>z
 cases f with
 |next=>obtain⟨σ',H',I',q⟩:=q;exact⟨σ',H',I',h2 σ' H' q⟩
 |brk=>exact q
 |cont=>exact q
 |ret u=>exact q
section
variable(K:W.Frag)
theorem aV(hK:X.K=K:=by rfl):Ys X (Vq K):=by subst hK;exact RD
theorem bR(hK:X.K=K:=by rfl):Ys X (Yt K):=by subst hK;exact Vr
theorem dN(hK:X.K=K:=by rfl):Yr X (Yv K):=by subst hK;exact RE
theorem bY(hK:X.K=K:=by rfl):yT X (.builtin "len") (λxs H Q=>∃p ys,xs=[.ref p]/\(ae K H p ys\/cT K H p ys)/\Q (.int ys.length) H):=by subst hK;exact Dg
theorem fj(hK:X.K=K:=by rfl):yT X (.type "list") (λxs H Q=>∃p ys,xs=[.ref p]/\(ae K H p ys\/cT K H p ys)/\∀l,H l=none->Q (.ref l) (dl H l (.lst ys))):=by subst hK;exact Dh
theorem fX(hK:X.K=K:=by rfl):qK X (binaryOp .Add) (Ub K):=by subst hK;exact RK
theorem bz{l:Expr}(hl:PE X l tl)(hK:X.K=K:=by rfl):PI X tg l (US K tl):=by subst hK;exact KC hl
theorem Dp{ta:TA}(hg:Gl X "zip")(hm:X.mg "zip"=none)(ha:PA X [e1,e2] ta)(hK:X.K=K:=by rfl)(hs:starEach [e1,e2] X.env=(false,eval e1 X.env)::starEach [e2] X.env:=by rfl)(tZ:(backTo pos (starEach [e2] X.env)).any (·.1)=false:=by rfl):
  PI X (.Tuple elts x1 Dd) (.Call (.Name "zip" p) [e1,e2] [] pos) (ZE K ta):=by subst hK;exact WB hg hm ha hs tZ
theorem iz{j:Nat}{y:Str}{px py:Pos}{k:Nat}(hc:X.calm=true)(hN:X.N.Nodup)(hi:X.N[i]?=some x)(hj:X.N[j]?=some y)(lx:Loc X.env.scope x)(ly:Loc X.env.scope y)(hK:X.K=K:=by rfl)(fx:X.fn x=true\/X.env.scope.names.lookup x=some .local:=by first|exact .inl rfl|exact .inr rfl)(fy:X.fn y=true\/X.env.scope.names.lookup y=some .local:=by first|exact .inl rfl|exact .inr rfl)(hs:(assignEach [.Name x px,.Name y py] X.env).map (·.2)=[assign (.Name x px) X.env,assign (.Name y py) X.env]:=by rfl)(LU:(assignEach [.Name y py] X.env).map (·.2)=[assign (.Name y py) X.env]:=by rfl)(hs0:(assignEach [] X.env).map (·.2)=[]:=by rfl)(hn:(assignEach [.Name x px,.Name y py] X.env).length=2:=by rfl)(FL:(assignEach [.Name x px,.Name y py] X.env).findIdx? (·.1)=none:=by rfl):
  PG X (.Tuple [.Name x px,.Name y py] k pos) (Nb K 2 (vn (jd i) (vn (jd j) Na))):=by
 subst hK;exact WC hc hN hi hj lx ly fx fy hs LU hs0 hn FL
theorem iH{o:Expr}{to:TE}{t:TA}{T id:String}(pa:PlainAttrs T)(slot:Slot T name id)(hty:typeOf (.builtin id)=pure (.type "method_descriptor"))(hm:MtR X id r)(ho:PE X o to)(ha:PA X (e::es) t)(hK:X.K=K:=by rfl)(Ny:attributeBase o name X.env (eval o X.env)=eval o X.env:=by rfl)(Vu:((backTo dZ (starEach (e::es) X.env)).all (λx=>!x.1)&&(backToKw dZ (keywordEach [] X.env)).all (λx=>x.1.isSome)
   && decide ((e::es).length+([]:List Keyword).length+(if([]:List Keyword).isEmpty then 0 else 1)<30))=true:=by rfl)(Nz:(apos.endLine==dZ.line)=true:=by rfl)(hs:starEach (e::es) X.env=(false,eval e X.env)::starEach es X.env:=by rfl)(IA:(backTo dZ (starEach es X.env)).any (·.1)=false:=by rfl):
  PE X (.Call (.Attribute o name apos) (e::es) [] dZ) (tBM K T r to t):=by subst hK;exact UW pa slot hty hm ho ha Ny Vu Nz hs IA
end
section
def ZG(K:W.Frag)(neg:Bool):R2:=λx y H Q=>∃(a b:Addr)(ys zs:List Int),x=.ref a/\y=.ref b/\ae K H a (ys.map V.int)/\ae K H b (zs.map V.int)/\Q (.bl (if neg then !decide (ys=zs)else decide (ys=zs))) H
theorem OI(I:Inv X ce σ H s){ys:List Int}{az iG:List Value}(r1:bJ (ys.map V.int) az)(r2:bJ (zs.map V.int) iG)(j:Nat)(h1:j<az.toArray.size)(h2:j<iG.toArray.size):
  SeqAt.EqAt A s az.toArray[j] iG.toArray[j] (ys.getD j 0==zs.getD j 0):=by
 obtain⟨x,hx,rx⟩:=jK r1 j h1;obtain⟨y,hy,ry⟩:=jK r2 j h2;obtain⟨u,hu',rfl⟩:=jj hx;obtain⟨v,Yi,rfl⟩:=jj hy;have:=Hy (A:=A) (s:=s) rx ry rfl rfl;have e1:ys.getD j 0=u:=by simp[List.getD,hu']
 have e2:zs.getD j 0=v:=by simp[List.getD,Yi]
 rw[e1,e2];exact this
theorem Ff{ys:List Int}(hl:ys.length=zs.length)(hn:n=ys.length):(List.range n).all (λj=>ys.getD j 0==zs.getD j 0)=decide (ys=zs):=by
 subst hn;by_cases h:ys=zs
 ·subst h;simp
 rw[decide_eq_false h,Bool.eq_false_iff];intro Lh;rw[List.all_eq_true]at Lh;apply h;apply List.ext_getElem hl;intro i g1 g2;have:=Lh i (List.mem_range.mpr g1)
 simpa[List.getD,g1,g2]using this
theorem WE(hu:X.A.units+16<cLine):qK X (compareOp .Eq) (ZG X.K false):=by
 intro ce s σ H x y v u Q I rx ry h;obtain⟨a,b,ys,zs,rfl,rfl,ha,hb,q⟩:=h;cases rx;cases ry;obtain⟨az,r1,p1,_⟩:=I.list ha;obtain⟨iG,r2,p2,_⟩:=I.list hb;have l1:=r1.length;have l2:=r2.length;rw[length_map]at l1 l2;by_cases hl:ys.length=zs.length
 ·refine SeqAt.eq_listAt (e:=λj=>ys.getD j 0==zs.getD j 0) p1.isList p2.isList (by simp;lia) (by lia) (λj h1 h2=>OI I r1 r2 j h1 h2) ?_;rw[Ff hl (by simp;lia)];exact⟨.bl _,H,I,rfl,q⟩
 refine SeqAt.eq_list_lengthsAt p1.isList p2.isList (by simp;lia) (by lia) ?_;have e:decide (ys=zs)=false:=decide_eq_false λz=>hl (by rw[z]);rw[e]at q;exact⟨.bl false,H,I,rfl,q⟩
theorem Kc(K:W.Frag)(hu:X.A.units+16<cLine)(hK:X.K=K:=by rfl):qK X (compareOp .Eq) (ZG K false):=by subst hK;exact WE hu
end
theorem turn_if{x:V}{A B:St->Hp->Prop}(h:tt (σ.set i (some x)) H λb H4=>if b=true then A (σ.set i (some x)) H4 else B (σ.set i (some x)) H4):jd i x σ H λσ3 H3=>tt σ3 H3 λb H4=>if b=true then A σ3 H4 else B σ3 H4:=h
theorem OJ(ns:List Int):ns.map V.int=dL ns.length λi=>ns.getD i 0:=by
 apply List.ext_getElem?;intro j;by_cases hj:j<ns.length
 ·rw[bu hj,getElem?_map];simp[hj,List.getD]
 rw[getElem?_eq_none (by rw[length_map];lia),getElem?_eq_none (by rw[aL];lia)]
theorem lU(h1:lo<=hi)(h2:hi<=n):cU (bW n f) (some (lo:Int)) (some (hi:Int))=bW (hi-lo) λi=>f (lo+i):=by
 unfold cU;rw[HT.ji,HT.ji,aL,Nat.min_eq_left h2,Nat.min_eq_left (by lia)];apply List.ext_getElem?;intro j;by_cases hj:j<hi-lo
 ·rw[bu hj,List.getElem?_take_of_lt hj,List.getElem?_drop,bu (by lia)]
 rw[getElem?_eq_none (by rw[length_take,List.length_drop,aL];lia),getElem?_eq_none (by rw[aL];lia)]
theorem uP(h2:hi<=n):cU (bW n f) none (some (hi:Int))=bW hi f:=by
 have:=lU (lo:=0) (f:=f) (zero_le hi) h2;have e:cU (bW n f) none (some (hi:Int))=cU (bW n f) (some ((0:Nat):Int)) (some (hi:Int)):=by unfold cU;rw[HT.ji _ _ hi,HT.FU,HT.ji _ _ 0,Nat.zero_min]
 rw[e,this];exact bX λi _=>by rw[Nat.zero_add]
theorem IC(h2:lo<=n):cU (bW n f) (some (lo:Int)) none=bW (n-lo) λi=>f (lo+i):=by
 have:=lU (f:=f) h2 (le_refl n);have e:cU (bW n f) (some (lo:Int)) none=cU (bW n f) (some (lo:Int)) (some (n:Int)):=by unfold cU;rw[HT.ji,HT.ji,HT.FU,aL,Nat.min_self]
 rw[e,this]
theorem RM{m:Nat}{g:Nat->V}:bW n f++bW m g=bW (n+m) λi=>if i<n then f i else g (i-n):=by
 apply List.ext_getElem?;intro j;by_cases hj:j<n+m
 ·rw[bu hj];by_cases h:j<n
  ·rw[getElem?_append_left (by rw[aL];exact h),bu h,if_pos h]
  rw[getElem?_append_right (by rw[aL];lia),aL,bu (by lia),if_neg h]
 rw[getElem?_eq_none (by rw[length_append,aL,aL];lia),getElem?_eq_none (by rw[aL];lia)]
theorem Lo(n:Nat)(f:Nat->Int)(i:Nat)(h:i<n):((List.range n).map f).getD i 0=f i:=by simp[h]
def ZH(K:W.Frag)(a:Addr)(xs:List V):It:=⟨λi H=>ae K H a xs/\i<xs.length,λi H x H'=>H'=H/\xs.reverse[i]?=some x,λi _=>xs.length<=i⟩
theorem OK{P:Program}{K:W.Frag}(a it:Addr)(xs:List V):
  Turn P w K tg (ZH K a xs) [it] it (λi h=>i<=xs.length/\h.IsRevIter it a ((xs.length:Int)-1-(i:Int)))where
 mem:=by simp
 obj:=λi h st b hb=>by
  have e:b=it:=by simpa using hb
  subst e;obtain⟨_,o,e,c,d⟩:=st;exact⟨o,e,λv z=>by rw[d]at z;cases z⟩
 keep:=λi h h' st k=>⟨st.1,st.2.at λo e=>k it (by simp) o e⟩
 item:=by
  intro X hP hw hK hc i ce s σ H E I hf ⟨st0,st⟩ ⟨hq,hi⟩;subst hP hw hK;obtain⟨az,rv,p,hz⟩:=I.list hq;have hl:=rv.length;have hx:xs.reverse[i]?=some xs[xs.length-1-i]:=by rw[List.getElem?_reverse hi];simp
  have WG:xs[xs.length-1-i]?=some xs[xs.length-1-i]:=by simp
  obtain⟨u,hu,ru⟩:=rv.get WG;obtain⟨f0,f1,f2,f3,f4,f5⟩:=hf it (by simp);have e0:(xs.length:Int)-1-(i:Int)=((xs.length-1-i:Nat):Int):=by lia
  rw[e0]at st;refine wpAny_pyNext_rev_item st p.isList (x:=u) (by simpa using hu) λh' Hd sb=>?_;have I1:Inv X ce σ H { s with heap:=h' }:=I.turned (t':=s.toks) (λb o hb e=>(sb.2 b hb).trans e) f0 f1 f3 f4 f5
  have e1:((xs.length-1-i:Nat):Int)-1=(xs.length:Int)-1-((i+1:Nat):Int):=by lia
  rw[e1]at Hd;obtain⟨o,e,c,d⟩:=id Hd;exact⟨u,rfl,FO (s:={ s with heap:=h' }) e c d (by decide) ⟨_,H,I1,ru,⟨rfl,hx⟩,⟨hi,Hd⟩,λb hb=>(hf b hb).1⟩⟩
 done:=by
  intro X hP hw hK hc i ce s σ H E I hf ⟨st0,st⟩ hg;subst hP hw hK;have hg':xs.length<=i:=hg;obtain⟨f0,f1,f2,f3,f4,f5⟩:=hf it (by simp);have e0:(xs.length:Int)-1-(i:Int)=-1:=by lia
  rw[e0]at st;exact wpAny_pyNext_rev_end (I.ok.hd hc) st λh' eb=>⟨rfl,I.turned (t':=s.toks) (λb o hb e=>eb b o hb e) f0 f1 f3 f4 f5⟩
 self:=λ_ _ _ _ _ st h=>wpAny_pyIter_revIter st.2 h
section
def aCN(K:W.Frag)(ta:TA):TI:=λσ H R=>ta σ H λvs H1=>∃a xs,vs=[.ref a]/\ae K H1 a xs/\R (ZH K a xs) H1
theorem Dq(K:W.Frag){ta:TA}(hg:Gl X "reversed")(hm:X.mg "reversed"=none)(ha:PA X [e] ta)(hK:X.K=K:=by rfl)(hs:starEach [e] X.env=[(false,eval e X.env)]:=by rfl)(tZ:(backTo pos (starEach [] X.env)).any (·.1)=false:=by rfl):
  PI X tg (.Call (.Name "reversed" p) [e] [] pos) (aCN K ta):=by
 subst hK;intro ce s σ H R I h;refine wpAny_Call_Name_kw (nu I hg hm boot_reversed ?_ (by decide) (by decide));refine PyProof.Rows.callWith_type1 (cC (ha pos ce s σ H _ I h) λus s1 ⟨vs,H1,I1,r1,q1⟩=>?_) hs tZ;obtain⟨a,xs,rfl,hx,q⟩:=q1;obtain⟨u,rfl,ru⟩:=r1.one;cases ru;obtain⟨az,rv,p1,_⟩:=I1.list hx;have hl:=rv.length;refine call_reversed_list p1.isList ?_;have hit:(s1.heap.push (revObj a ((az.toArray.size:Int)-1))).IsRevIter s1.heap.objs.size a ((az.toArray.size:Int)-1):=⟨_,Heap.get?_push_size _ rfl,rfl,by unfold revObj;simp⟩;refine wpAny_pyIter_revIter hit ?_;have e0:(az.toArray.size:Int)-1=(xs.length:Int)-1-((0:Nat):Int):=by simp;lia
 rw[e0]at hit ⊢;refine⟨s1.heap.objs.size,[s1.heap.objs.size],_,_,H1,rfl,I1.kept (t':=s1.toks) λb o e=>Heap.get?_push_of_some _ e,OK a _ xs,⟨zero_le _,hit⟩,λb hb=>?_,q⟩;have e:b=s1.heap.objs.size:=by simpa using hb
 subst e;exact I1.DX (le_refl _) (I1.cK.fresh (le_refl _))
end
theorem RN{K:W.Frag}{xs:List V}{g:TG}{D:Ends}(Pv:Nat->St->Hp->Prop)(h0:Pv 0 σ H)(hl:∀i σ H,i<=xs.length->Pv i σ H->ae K H a xs)(hs:∀i x σ H,xs.reverse[i]?=some x->Pv i σ H->g x σ H λσ2 H2=>tb { D with nx:=Pv (i+1),ct:=Pv (i+1),bk:=D.nx } σ2 H2)(hd:∀σ H,Pv xs.length σ H->D.nx σ H):
  ∃W:Nat->Nat->St->Hp->Prop,(∃m,W 0 m σ H)/\∀i m σ H,W i m σ H ->
   ((ZH K a xs).stop i H/\D.nx σ H)\/((ZH K a xs).go i H/\∃N:St->Hp->Prop,(∀σ' H',N σ' H'->∃m',m'<m/\W (i+1) m' σ' H')/\∀x H',(ZH K a xs).Qe i H x H'->g x σ H' λσ2 H2=>tb { D with nx:=N,ct:=N,bk:=D.nx } σ2 H2):=by
 refine⟨λi m σ H=>m=xs.length-i/\i<=xs.length/\Pv i σ H,⟨xs.length,by simp,zero_le _,h0⟩,?_⟩;rintro i m σ H ⟨rfl,hi,p⟩;have q:=hl i σ H hi p;by_cases eI:i<xs.length
 ·refine .inr ⟨⟨q,eI⟩,Pv (i+1),λσ' H' p'=>⟨xs.length-(i+1),by lia,rfl,eI,p'⟩,λx H' y=>?_⟩;obtain⟨e,y⟩:=y;subst e;exact hs i x σ _ y p
 have e:i=xs.length:=by lia
 subst e;exact .inl ⟨le_refl _,hd σ H p⟩
section
theorem Kd:qK X (compareOp .IsNot) (λx y H Q=>∃b c,x=.bl b/\y=.bl c/\Q (.bl (b != c)) H):=by intro ce s σ H x y v u Q I rx ry h;obtain⟨b,c,rfl,rfl,q⟩:=h;cases rx;cases ry;exact isnot_bool (bj I q rfl)
end
section
theorem ID{it t:Addr}{x:Value}(hit:s.heap.IsTupleIter it t i)(ht:s.heap.IsTuple t items)(hx:items[i]?=some x)(hQ:∀h',h'.IsTupleIter it t (i+1)->Heap.SameBut it s.heap h'->Q x { s with heap:=h' }):wpAny (model prog w) A (Builtin.SmallTypes.nextOf (.ref it)) Q E s:=by obtain⟨o,ho,hc,hd⟩:=id hit;obtain⟨u,hu,_,m,du⟩:=ht;unfold Builtin.SmallTypes.nextOf;refine bv (wpAny_callSpecial?_slot (name:=Str.ofString "__next__") hit.typeIs F.slot_tuple_iterator_next (wpAny_call_entry F.slot_tuple_iterator_next hit.typeIs F.entry_tuple_iterator_next ?_ (F.args_tuple_iterator_next_1 _)));refine(show wpAny _ _ (field (.ref it) 0 >>= _) _ _ s from bv (wpAny_field ho hd (x:=.ref t) rfl ?_));refine(show wpAny _ _ (if(Value.ref t==Value.none)=true then _ else _) _ _ s from ?_);rw[if_neg (by exact Bool.false_ne_true)];refine(show wpAny _ _ (field (.ref it) 1 >>= _) _ _ s from bv (wpAny_field ho hd (x:=.int i 0) rfl ?_));refine(show wpAny _ _ (seqItems? (.ref t) >>= _) _ _ s from bv (wpAny_seqItems hu du ?_));simp only[hx,Int.toNat_natCast];refine bv (wpAny_setField ho hd (by simp) (ca ⟨x,rfl,ca (hQ _ ⟨_,Heap.get?_update_self _ ho (Obj.isFreed_of_fields (Obj.data_mapFields hd _)),(Obj.cls_mapFields ..).trans hc,?_⟩ (Heap.SameBut.update ..))⟩));rw[Obj.data_mapFields hd];simp[rawInt]
theorem Lp{TI TO t:Addr}{k:Nat}{xs:Array Value}{x y a b:Value}(D:ZipApart z TI TO i1 i2 l t)(hz:IsZip s.heap z TI TO .none)(uO:IsPair s.heap TI (.ref i1) (.ref i2))(wy:IsPair s.heap TO a b)(h1:s.heap.IsListIter i1 l k)(h2:s.heap.IsTupleIter i2 t k)(hl:s.heap.IsList l xs)(ht:s.heap.IsTuple t ys)(hx:xs[k]?=some x)(hy:ys[k]?=some y)(hQ:∀h',IsZip h' z TI TO (rawInt s.heap.objs.size)->IsPair h' TO x y->h'.IsListIter i1 l (k+1)->h'.IsTupleIter i2 t (k+1)->IsPair h' s.heap.objs.size x y->h'.objs.size=s.heap.objs.size+1 ->
   (∀c o,c≠z->c≠TO->c≠i1->c≠i2->s.heap.get? c=some o->h'.get? c=some o)->Q (.ref s.heap.objs.size) { s with heap:=h' }):
  wpAny (model prog w) A (Builtin.«zip.__next__» ⟨[.ref z],[]⟩) (λfin s'=>∃v,fin=.done (.ret v)/\Q v s') E s:=by
 refine(show wpAny _ _ (field (.ref z) 2 >>= _) _ _ _ from bv (wpAny_field hz rfl (x:=.bool false) rfl ?_));refine(show wpAny _ _ (field (.ref z) 3 >>= _) _ _ _ from bv (wpAny_field hz rfl (x:=.ref TI) rfl (bv (wpAny_seqItems uO rfl ?_))));refine(show wpAny _ _ (Builtin.SmallTypes.ownedTupleIsFree (.ref z) >>= _) _ _ _ from bv ?_);unfold Builtin.SmallTypes.ownedTupleIsFree;refine bv (wpAny_field hz rfl (x:=.none) rfl (ca ?_));rw[if_pos (by rfl)];refine bv (wpAny_rule (bv (wpAny_field hz rfl (x:=.ref TO) rfl (bv (wpAny_setField_rec hz (by simp) λha hza Ll=>bv ?_)))));have WH:IsZip ha z TI TO .ellipsis:=hza;simp only[List.forIn_cons,List.forIn_nil,List.zipIdx_cons,List.zipIdx_nil];refine bv (bv (wpAny_onRaise (show wpAny _ _ (Builtin.SmallTypes.nextOf (.ref i1) >>= _) _ _ _ from bv (wpAny_nextOf_list_item (h1.extBut Ll.extBut D.i1z) (hl.extBut Ll.extBut D.l1z) hx λhb h1b Lj=>ca ?_))));have to2:IsPair hb TO a b:=Lj.extBut _ _ D.TOi1 (Ll.extBut _ _ D.TOz wy);refine bv (wpAny_seqItems to2 rfl (bv (wpAny_updateSeq_pair to2 λhc to3 OE=>bv (wpAny_letGo (ca ?_)))));have aCP:IsPair hc TO x b:=to3;refine bv (bv (wpAny_onRaise (show wpAny _ _ (Builtin.SmallTypes.nextOf (.ref i2) >>= _) _ _ _ from bv
  (ID (((h2.extBut Ll.extBut D.i2z).extBut Lj.extBut D.i12.symm).extBut OE.extBut D.TOi2.symm) (((ht.extBut Ll.extBut D.l2z).extBut Lj.extBut D.l2i1).extBut OE.extBut D.l2TO) hy λhd h2d Dr=>ca ?_))))
 have to4:IsPair hd TO x b:=Dr.extBut _ _ D.TOi2 aCP;refine bv (wpAny_seqItems to4 rfl (bv (wpAny_updateSeq_pair to4 λhe to5 ZI=>bv (wpAny_letGo (ca (ca ?_))))));have ZJ:IsPair he TO x y:=to5;refine bv (wpAny_seqItems ZJ rfl (bv (wpAny_newTuple ?_)));have Uc:he.objs.size=s.heap.objs.size:=by rw[ZI.1,Dr.1,OE.1,Lj.1,Ll.1]
 have z5:IsZip he z TI TO .ellipsis:=ZI.extBut _ _ D.TOz.symm (Dr.extBut _ _ D.i2z.symm (OE.extBut _ _ D.TOz.symm (Lj.extBut _ _ D.i1z.symm WH)));have ZK:∀c o,c≠z->c≠TO->c≠i1->c≠i2->s.heap.get? c=some o->he.get? c=some o:=λc o n1 n2 n3 n4 e=>ZI.extBut _ _ n2 (Dr.extBut _ _ n4 (OE.extBut _ _ n2 (Lj.extBut _ _ n3 (Ll.extBut _ _ n1 e))));have it1:he.IsListIter i1 l (k+1):=((h1b.extBut OE.extBut D.TOi1.symm).extBut Dr.extBut D.i12).extBut ZI.extBut D.TOi1.symm;have it2:he.IsTupleIter i2 t (k+1):=h2d.extBut ZI.extBut D.TOi2.symm;have ltz:z<he.objs.size:=Heap.lt_size z5;refine(show wpAny _ _ (Builtin.SmallTypes.ownedTupleHandOut (.ref z) (.ref he.objs.size) >>= _) _ _ _ from bv ?_);unfold Builtin.SmallTypes.ownedTupleHandOut;have z6:IsZip (he.push { cls:=.type "tuple",data:=.seq #[x,y] }) z TI TO .ellipsis:=Heap.get?_push_of_some _ z5;refine bv (wpAny_setField_rec z6 (by simp) λhf zf hsf=>?_);have zf':IsZip hf z TI TO (rawInt he.objs.size):=zf;refine wpAny_setField_rec zf' (by simp) λhg zg Xu=>?_;have zg':IsZip hg z TI TO (rawInt he.objs.size):=zg;have up:∀c o,c≠z->he.get? c=some o->hg.get? c=some o:=λc o n1 e=>Xu.extBut _ _ n1 (hsf.extBut _ _ n1 (Heap.get?_push_of_some _ e));have Ud:IsPair hg he.objs.size x y:=Xu.extBut _ _ (Nat.ne_of_gt ltz) (hsf.extBut _ _ (Nat.ne_of_gt ltz) (Heap.get?_push_size _ rfl));have Ue:hg.objs.size=he.objs.size+1:=by rw[Xu.1,hsf.1,Heap.size_push]
 rw[Uc]at zg' Ud Ue;refine ca ⟨_,rfl,(show Q (.ref he.objs.size) _ from ?_)⟩;rw[Uc];exact hQ hg zg' (up _ _ D.TOz ZJ) (it1.at λo e=>up _ o D.i1z e) (it2.at λo e=>up _ o D.i2z e) Ud Ue λc o n1 n2 n3 n4 e=>up c o n1 (ZK c o n1 n2 n3 n4 e)
theorem OL{TI TO t:Addr}{k:Nat}{xs:Array Value}{a b:Value}{Q:Fin->Shared->Prop}(hh:A.handled=none)(D:ZipApart z TI TO i1 i2 l t)(hz:IsZip s.heap z TI TO .none)(uO:IsPair s.heap TI (.ref i1) (.ref i2))(wy:IsPair s.heap TO a b)(h1:s.heap.IsListIter i1 l k)(hl:s.heap.IsList l xs)(hx:xs[k]?=none)(hE:∀h' e,(∀c o,c≠z->c≠TO->c≠i1->c≠i2->s.heap.get? c=some o->h'.get? c=some o)->(∃o,h'.get? e=some o/\o.cls=.type "StopIteration")->E (.ref e) { s with heap:=h' }):
  wpAny (model prog w) A (Builtin.«zip.__next__» ⟨[.ref z],[]⟩) Q E s:=by
 refine(show wpAny _ _ (field (.ref z) 2 >>= _) _ _ _ from bv (wpAny_field hz rfl (x:=.bool false) rfl ?_));refine(show wpAny _ _ (field (.ref z) 3 >>= _) _ _ _ from bv (wpAny_field hz rfl (x:=.ref TI) rfl (bv (wpAny_seqItems uO rfl ?_))));refine(show wpAny _ _ (Builtin.SmallTypes.ownedTupleIsFree (.ref z) >>= _) _ _ _ from bv ?_);unfold Builtin.SmallTypes.ownedTupleIsFree;refine bv (wpAny_field hz rfl (x:=.none) rfl (ca ?_));rw[if_pos (by rfl)];refine bv (wpAny_rule (bv (wpAny_field hz rfl (x:=.ref TO) rfl (bv (wpAny_setField_rec hz (by simp) λha hza Ll=>bv ?_)))));have WH:IsZip ha z TI TO .ellipsis:=hza;simp only[List.forIn_cons,List.forIn_nil,List.zipIdx_cons,List.zipIdx_nil];refine bv (bv (wpAny_onRaise (show wpAny _ _ (Builtin.SmallTypes.nextOf (.ref i1) >>= _) _ _ _ from bv (wpAny_nextOf_list_end hh (h1.extBut Ll.extBut D.i1z) (hl.extBut Ll.extBut D.l1z) hx λhb e Lj he=>?_))));obtain⟨oe,hoe,hce⟩:=he;have z2:IsZip hb z TI TO .ellipsis:=Lj _ _ D.i1z.symm WH;have hez:e≠z:=λq=>by subst q;rw[z2]at hoe;cases hoe;simp at hce
 exact wpAny_setField_rec z2 (by simp) λhc _ OE=>hE hc e (λc o n1 _ n3 _ q=>OE.extBut _ _ n1 (Lj _ _ n3 (Ll.extBut _ _ n1 q))) ⟨oe,OE.extBut _ _ hez hoe,hce⟩
theorem xI{TI TO t:Addr}{k:Nat}{xs:Array Value}{x y a b:Value}{Q:Option Value->Shared->Prop}(D:ZipApart z TI TO i1 i2 l t)(hz:IsZip s.heap z TI TO .none)(uO:IsPair s.heap TI (.ref i1) (.ref i2))(wy:IsPair s.heap TO a b)(h1:s.heap.IsListIter i1 l k)(h2:s.heap.IsTupleIter i2 t k)(hl:s.heap.IsList l xs)(ht:s.heap.IsTuple t ys)(hx:xs[k]?=some x)(hy:ys[k]?=some y)(hQ:∀h',IsZip h' z TI TO (rawInt s.heap.objs.size)->IsPair h' TO x y->h'.IsListIter i1 l (k+1)->h'.IsTupleIter i2 t (k+1)->IsPair h' s.heap.objs.size x y->h'.objs.size=s.heap.objs.size+1 ->
   (∀c o,c≠z->c≠TO->c≠i1->c≠i2->s.heap.get? c=some o->h'.get? c=some o)->Q (some (.ref s.heap.objs.size)) { s with heap:=h' }):
  wpAny (model prog w) A (pyNext (.ref z)) Q E s:=by
 have hT:s.TypeIs (.ref z) "zip":=⟨_,hz,rfl⟩;unfold pyNext;exact bv (wpAny_attempt (wpAny_callSpecial?_slot (name:=Str.ofString "__next__") hT F.slot_zip_next (wpAny_call_entry F.slot_zip_next hT F.entry_zip_next
  (Lp D hz uO wy h1 h2 hl ht hx hy λh' a1 a2 a3 a4 a5 a6 a7=>ca (hQ h' a1 a2 a3 a4 a5 a6 a7)) (F.args_zip_next_1 _))))
theorem yy{TI TO t:Addr}{k:Nat}{xs:Array Value}{a b:Value}{Q:Option Value->Shared->Prop}(hh:A.handled=none)(D:ZipApart z TI TO i1 i2 l t)(hz:IsZip s.heap z TI TO .none)(uO:IsPair s.heap TI (.ref i1) (.ref i2))(wy:IsPair s.heap TO a b)(h1:s.heap.IsListIter i1 l k)(hl:s.heap.IsList l xs)(hx:xs[k]?=none)(hQ:∀h',(∀c o,c≠z->c≠TO->c≠i1->c≠i2->s.heap.get? c=some o->h'.get? c=some o)->Q none { s with heap:=h' }):wpAny (model prog w) A (pyNext (.ref z)) Q E s:=by have hT:s.TypeIs (.ref z) "zip":=⟨_,hz,rfl⟩;unfold pyNext;refine bv (wpAny_attempt (wpAny_callSpecial?_slot (name:=Str.ofString "__next__") hT F.slot_zip_next (wpAny_call_entry F.slot_zip_next hT F.entry_zip_next (OL hh D hz uO wy h1 hl hx λh' e hk he=>?_) (F.args_zip_next_1 _))));obtain⟨o,ho,hc⟩:=he;exact bv (wpAny_isInstance (T:="StopIteration") (b:=true) ⟨o,ho,hc⟩ isSubtype_stop (ca (hQ _ hk)))
end
abbrev zA(h:Heap)(l:Addr):Heap:=h.push { cls:=.type "list_iterator",data:=.fields #[.ref l,.int 0 0] }
abbrev zB(h:Heap)(l t:Addr):Heap:=(zA h l).push { cls:=.type "tuple_iterator",data:=.fields #[.ref t,.int 0 0] }
abbrev zC(h:Heap)(l t:Addr):Heap:=(zB h l t).push { cls:=.type "tuple",data:=.seq #[.ref h.objs.size,.ref (zA h l).objs.size] }
abbrev zD(h:Heap)(l t:Addr):Heap:=(zC h l t).push { cls:=.type "tuple",data:=.seq #[.none,.none] }
abbrev zE(h:Heap)(l t:Addr):Heap:=(zD h l t).push { cls:=.type "zip",data:=.fields #[.none,.bool false,.bool false,.ref (zB h l t).objs.size,.ref (zC h l t).objs.size] }
theorem IE(l t:Addr)(xs ys:Array Value):Meets (Builtin.«zip.__new__» ⟨[.type "zip",.ref l,.ref t],[]⟩) (λ_ R s=>s.heap.IsList l xs/\s.heap.IsTuple t ys/\R (.ok (.ret (.ref (zD s.heap l t).objs.size))) { s with heap:=zE s.heap l t }) :=
 .of_wp λprog w A R s h=>by
  obtain⟨hp,g,d,tk,os⟩:=s;obtain⟨hl,ht,h⟩:=h;have aHc:=sub_zip;have e1:Heap.IsList (Shared.heap ⟨hp,g,d,tk,os⟩) l xs:=hl;have e2:Heap.IsTuple (Shared.heap ⟨hp.push { cls:=.type "list_iterator",data:=.fields #[.ref l,.int 0 0] },g,d,tk,os⟩) t ys:=Heap.IsTuple.push ht _
  wp_walk using wpAny_pyIter_list e1,wpAny_pyIter_tuple e2
  exact⟨_,rfl,h⟩
section
theorem Lq{t:Addr}{xs:Array Value}(hl:s.heap.IsList l xs)(ht:s.heap.IsTuple t ys)(h:∀h',IsZip h' (s.heap.objs.size+4) (s.heap.objs.size+2) (s.heap.objs.size+3) .none->IsPair h' (s.heap.objs.size+2) (.ref s.heap.objs.size) (.ref (s.heap.objs.size+1))->IsPair h' (s.heap.objs.size+3) .none .none ->
   h'.IsListIter s.heap.objs.size l 0->h'.IsTupleIter (s.heap.objs.size+1) t 0->(∀c o,s.heap.get? c=some o->h'.get? c=some o)->Q (.ref (s.heap.objs.size+4)) { s with heap:=h' }):
  wpAny (model prog w) A (call (.type "zip") [.ref l,.ref t]) Q E s:=by
 refine callType_new F.called_zip (by decide) (F.typeCall_zip_2 _ _) (F.newCall_zip_2 _ _) (λobj=>F.args_object_init_3 obj _ _) F.entry_zip_new (IE l t xs ys) ⟨hl,ht,?_⟩;have s1:(zA s.heap l).objs.size=s.heap.objs.size+1:=Heap.size_push ..;have s2:(zB s.heap l t).objs.size=s.heap.objs.size+2:=by rw[Heap.size_push,s1]
 have s3:(zC s.heap l t).objs.size=s.heap.objs.size+3:=by rw[Heap.size_push,s2]
 have s4:(zD s.heap l t).objs.size=s.heap.objs.size+4:=by rw[Heap.size_push,s3]
 have up:∀{g:Heap}{o p:Obj}{c:Addr},g.get? c=some o->(g.push p).get? c=some o:=λe=>Heap.get?_push_of_some _ e;have g5:(zE s.heap l t).get? (zD s.heap l t).objs.size=some _:=Heap.get?_push_size _ rfl;have g4:(zE s.heap l t).get? (zC s.heap l t).objs.size=some _:=up (Heap.get?_push_size _ rfl);have g3:(zE s.heap l t).get? (zB s.heap l t).objs.size=some _:=up (up (Heap.get?_push_size _ rfl));have g2:(zE s.heap l t).get? (zA s.heap l).objs.size=some _:=up (up (up (Heap.get?_push_size _ rfl)));have g1:(zE s.heap l t).get? s.heap.objs.size=some _:=up (up (up (up (Heap.get?_push_size _ rfl))));show _/\_;rw[s2,s3,s4]at g5;rw[s1,s2]at g3;rw[s3]at g4;rw[s1]at g2;rw[s4];exact⟨⟨_,g5,rfl⟩,h _ g5 g3 g4 ⟨_,g1,rfl,rfl⟩ ⟨_,g2,rfl,rfl⟩ λc o q=>up (up (up (up (up q))))⟩
end
def WI(K:W.Frag)(a b:Addr):It :=
 ⟨λi H=>∃xs ys x y,ae K H a xs/\cT K H b ys/\xs[i]?=some x/\ys[i]?=some y,
  λi H v H'=>∃p x y,H p=none/\v=.ref p/\H'=dl H p (.tup [x,y])/\(∀xs,ae K H a xs->xs[i]?=some x)/\∀ys,cT K H b ys->ys[i]?=some y,
  λi H=>∃xs,ae K H a xs/\xs.length<=i⟩
theorem Lr{P:Program}{K:W.Frag}{TI TO l1 l2:Addr}(D:ZipApart z TI TO i1 i2 l1 l2):
  Turn P w K (.Tuple elts x1 pos) (WI K l1 l2) [z,TI,TO,i1,i2] z (λi h=>IsZip h z TI TO .none/\IsPair h TI (.ref i1) (.ref i2)/\(∃a b,IsPair h TO a b)/\h.IsListIter i1 l1 i/\h.IsTupleIter i2 l2 i)where
 mem:=by simp
 obj:=λi h st b hb=>by
  obtain⟨hz,uO,⟨a,b',wy⟩,⟨o1,e1,c1,d1⟩,⟨o2,e2,c2,d2⟩⟩:=st;simp only[mem_cons,not_mem_nil,or_false]at hb;rcases hb with rfl|rfl|rfl|rfl|rfl
  ·exact⟨_,hz,λv q=>by cases q⟩
  ·exact⟨_,uO,λv q=>by cases q⟩
  ·exact⟨_,wy,λv q=>by cases q⟩
  ·exact⟨_,e1,λv q=>by rw[d1]at q;cases q⟩
  exact⟨_,e2,λv q=>by rw[d2]at q;cases q⟩
 keep:=λi h h' st k=>by obtain⟨hz,uO,⟨a,b',wy⟩,h1,h2⟩:=st;exact⟨k z (by simp) _ hz,k TI (by simp) _ uO,⟨a,b',k TO (by simp) _ wy⟩,h1.at λo e=>k i1 (by simp) o e,h2.at λo e=>k i2 (by simp) o e⟩
 item:=by
  intro X hP hw hK hc i ce s σ H E I hf st hg;subst hP hw hK;obtain⟨hz,uO,⟨a,b,wy⟩,h1,h2⟩:=st;obtain⟨xs,ys,x,y,hx,hy,ex,ey⟩:=hg;obtain⟨az,rv,p,hzx⟩:=I.list hx;obtain⟨iG,ZD,p2,hzy⟩:=I.tuple hy;obtain⟨u,hu,ru⟩:=rv.get ex;obtain⟨u2,hu2,ru2⟩:=ZD.get ey;refine xI D hz uO wy h1 h2 p.isList (show s.heap.IsTuple l2 iG.toArray from p2) (x:=u) (y:=u2) (by simpa using hu) (by simpa using hu2) λh' a1 a2 a3 a4 a5 a6 kk=>⟨_,rfl,?_⟩;refine wpAny_letOwnedTupleGo_zip a1 λWA hz' zP=>?_;have lt:∀{c o},s.heap.get? c=some o->s.heap.objs.size≠c:=λe=>Nat.ne_of_gt (Heap.lt_size e);have k2:∀c o,c∉[z,TI,TO,i1,i2]->s.heap.get? c=some o->WA.get? c=some o:=λc o hc e=>by simp only[mem_cons,not_mem_nil,or_false,not_or]at hc;exact zP.extBut _ _ hc.1 (kk c o hc.1 hc.2.2.1 hc.2.2.2.1 hc.2.2.2.2 e)
  have tup:cZ X.prog X.w (dl H s.heap.objs.size (.tup [x,y])) WA s.heap.objs.size (.tup [x,y]) :=
   ⟨by show 2<=sizeLine;decide,[u,u2],.cons ru (.cons ru2 .nil),⟨_,zP.extBut _ _ (lt hz) a5,rfl,_,rfl⟩⟩
  have hn:=I.cK.fresh (le_refl s.heap.objs.size);refine⟨.ref s.heap.objs.size,_,I.Cy (t':=s.toks) k2 hf (le_refl _) tup,rfl,⟨_,x,y,hn,rfl,rfl,λzs hq=>by rw[I.vm hq hx];exact ex,λzs hq=>by rw[I.Cj hq hy];exact ey⟩,
   ⟨hz',zP.extBut _ _ D.TIz (kk _ _ D.TIz D.TITO D.TIi1 D.TIi2 uO),⟨_,_,zP.extBut _ _ D.TOz a2⟩,a3.extBut zP.extBut D.i1z,a4.extBut zP.extBut D.i2z⟩,λc hc=>?_⟩
  have Xr:c≠s.heap.objs.size:=by
   simp only[mem_cons,not_mem_nil,or_false]at hc;obtain⟨o1,e1,_⟩:=h1;obtain⟨o2,e2,_⟩:=h2;rcases hc with rfl|rfl|rfl|rfl|rfl
   ·exact(lt hz).symm
   ·exact(lt uO).symm
   ·exact(lt wy).symm
   ·exact(lt e1).symm
   exact(lt e2).symm
  rw[aE Xr];exact(hf c hc).1
 done:=by intro X hP hw hK hc i ce s σ H E I hf st hg;subst hP hw hK;obtain⟨hz,uO,⟨a,b,wy⟩,h1,h2⟩:=st;obtain⟨xs,hx,he⟩:=hg;obtain⟨az,rv,p,hzx⟩:=I.list hx;have OG:=rv.length;refine yy (I.ok.hd hc) D hz uO wy h1 p.isList (by simp;lia) λh' kk=>⟨rfl,?_⟩;refine I.Ka (t':=s.toks) (ch:=[z,TI,TO,i1,i2]) (λc o hc e=>?_) hf;simp only[mem_cons,not_mem_nil,or_false,not_or]at hc;exact kk c o hc.1 hc.2.2.1 hc.2.2.2.1 hc.2.2.2.2 e
 self:=λ_ _ _ _ _ st h=>wpAny_pyIter_zip st.1 h
section
def ZL(K:W.Frag)(ta:TA):TI:=λσ H R=>ta σ H λvs H1=>∃a b,vs=[.ref a,.ref b]/\(∃xs,ae K H1 a xs)/\(∃ys,cT K H1 b ys)/\R (WI K a b) H1
theorem OM(K:W.Frag){ta:TA}(hg:Gl X "zip")(hm:X.mg "zip"=none)(ha:PA X [e1,e2] ta)(hK:X.K=K:=by rfl)(hs:starEach [e1,e2] X.env=(false,eval e1 X.env)::starEach [e2] X.env:=by rfl)(tZ:(backTo pos (starEach [e2] X.env)).any (·.1)=false:=by rfl):
  PI X (.Tuple elts x1 Dd) (.Call (.Name "zip" p) [e1,e2] [] pos) (ZL K ta):=by
 subst hK;intro ce s σ H R I h;refine wpAny_Call_Name_kw (nu I hg hm boot_zip ?_ (by decide) (by decide));refine PyProof.Rows.callWith_type1 (cC (ha pos ce s σ H _ I h) λus s1 ⟨vs,H1,I1,r1,q1⟩=>?_) hs tZ;obtain⟨a,b,rfl,⟨xs,hx⟩,⟨ys,hy⟩,q⟩:=q1;obtain⟨u,v,rfl,ru,rv⟩:=r1.two;cases ru;cases rv;obtain⟨az,Xs,p1,_⟩:=I1.list hx;obtain⟨iG,Xt,p2,_⟩:=I1.tuple hy;have p2':s1.heap.IsTuple b iG.toArray:=p2;refine Lq p1.isList p2' λh' hz uO wy h1 h2 kk=>?_;refine wpAny_pyIter_zip hz ?_;have la:a<s1.heap.objs.size:=by obtain⟨o,n,ho,_⟩:=p1;exact Heap.lt_size ho
 have lb:b<s1.heap.objs.size:=by obtain⟨o,ho,_⟩:=p2';exact Heap.lt_size ho
 have I2:Inv X ce σ H1 { s1 with heap:=h' }:=I1.kept (t':=s1.toks) λb o e=>kk b o e
 refine⟨s1.heap.objs.size+4,[s1.heap.objs.size+4,s1.heap.objs.size+2,s1.heap.objs.size+3,s1.heap.objs.size,s1.heap.objs.size+1],_,_,H1,rfl,I2,Lr (zipApart_new la lb),⟨hz,uO,⟨_,_,wy⟩,h1,h2⟩,λc hc=>?_,q⟩;have hle:s1.heap.objs.size<=c:=by
  simp only[mem_cons,not_mem_nil,or_false]at hc;rcases hc with rfl|rfl|rfl|rfl|rfl
  ·exact Nat.le_add_right _ _
  ·exact Nat.le_add_right _ _
  ·exact Nat.le_add_right _ _
  ·exact le_refl _
  exact Nat.le_add_right _ _
 exact I1.DX (H':=H1) hle (I1.cK.fresh hle)
end
section
variable{K:W.Frag}{g:TG}{Q:VK}
theorem RO{xs ys:List V}(jp:xs.length=ys.length)(Pv:Nat->St->Hp->Prop)(h0:Pv 0 σ H)(hl:∀i σ H,i<=xs.length->Pv i σ H->ae K H a xs/\cT K H b ys)(hs:∀(i:Nat)(x y:V)(p:Addr)(σ:St)(H:Hp)(N:St->Hp->Prop),(∀σ H,Pv (i+1) σ H->N σ H)->xs[i]?=some x->ys[i]?=some y->Pv i σ H->H p=none->g (.ref p) σ (dl H p (.tup [x,y])) λσ3 H3=>tt σ3 H3 λb H4 =>
   if b=true then te σ3 H4 λv H5=>∃ys,H5 D=some (.lst ys)/\ys.length<sizeLine/\N σ3 (dl H5 D (.lst (ys++[v])))else N σ3 H4)(hd:∀σ H,Pv xs.length σ H->Q (.ref D) H):tf (WI K a b) g tt te D σ H Q:=by
 refine⟨λi m σ H=>m=xs.length-i/\i<=xs.length/\Pv i σ H,⟨xs.length,by simp,zero_le _,h0⟩,?_⟩;rintro i m σ' H' ⟨rfl,hi,p⟩;obtain⟨q1,q2⟩:=hl i σ' H' hi p;by_cases eI:i<xs.length
 ·have WJ:i<ys.length:=by lia
  refine .inr ⟨⟨xs,ys,xs[i],ys[i],q1,q2,by simp[eI],by simp[WJ]⟩,λx H2 y=>?_⟩;obtain⟨pp,x1,y1,hn,rfl,rfl,ex,ey⟩:=y;exact hs i x1 y1 pp σ' _ (λσ3 H3=>∃m',m'<xs.length-i/\m'=xs.length-(i+1)/\i+1<=xs.length/\Pv (i+1) σ3 H3) (λσ3 H3 z=>⟨xs.length-(i+1),by lia,rfl,eI,z⟩) (ex xs q1) (ey ys q2) p hn
 have e:i=xs.length:=by lia
 subst e;exact .inl ⟨⟨xs,q1,le_refl _⟩,hd σ' H' p⟩
end
structure WK(K:W.Frag)(a:Addr)(xs:List V):Prop where
 ex:∃(o:Obj)(az:Array Value)(n:Nat),K.lookup a=some o/\o.cls=.type "tuple"/\o.data=.seq az n/\az.size<=sizeLine/\bJ xs az.toList
theorem WK.sq{K:W.Frag}{xs:List V}(h:WK K a xs)(H:Hp):cT K H a xs:=.inr h.ex
section
end
section
variable{K:W.Frag}{g:TG}{Q:VK}
theorem kA{j:Nat}{x:V}{p:Addr}{A:St->Hp->Prop}(hp:cT K H p [x,y])(h:A ((σ.set i (some x)).set j (some y)) H):Nb K 2 (vn (jd i) (vn (jd j) Na)) (.ref p) σ H A :=
 ⟨p,[x,y],rfl,hp,rfl,x,_,rfl,y,_,rfl,rfl,h⟩
end
section
variable{K:W.Frag}{g:TG}{Q:VK}
theorem RP{xs ys:List V}{D:Ends}(jp:xs.length=ys.length)(Pv:Nat->St->Hp->Prop)(h0:Pv 0 σ H)(hl:∀i σ H,i<=xs.length->Pv i σ H->ae K H a xs/\ae K H b ys)(hs:∀i x y p σ H,xs[i]?=some x->ys[i]?=some y->Pv i σ H->H p=none->g (.ref p) σ (dl H p (.tup [x,y])) λσ2 H2=>tb { D with nx:=Pv (i+1),ct:=Pv (i+1),bk:=D.nx } σ2 H2)(hd:∀σ H,Pv xs.length σ H->D.nx σ H):
  ∃W:Nat->Nat->St->Hp->Prop,(∃m,W 0 m σ H)/\∀i m σ H,W i m σ H ->
   ((V9 K a b).stop i H/\D.nx σ H)\/((V9 K a b).go i H/\∃N:St->Hp->Prop,(∀σ' H',N σ' H'->∃m',m'<m/\W (i+1) m' σ' H')/\∀x H',(V9 K a b).Qe i H x H'->g x σ H' λσ2 H2=>tb { D with nx:=N,ct:=N,bk:=D.nx } σ2 H2):=by
 refine⟨λi m σ H=>m=xs.length-i/\i<=xs.length/\Pv i σ H,⟨xs.length,by simp,zero_le _,h0⟩,?_⟩;rintro i m σ H ⟨rfl,hi,p⟩;obtain⟨q1,q2⟩:=hl i σ H hi p;by_cases eI:i<xs.length
 ·have WJ:i<ys.length:=by lia
  refine .inr ⟨⟨xs,ys,xs[i],ys[i],q1,q2,by simp[eI],by simp[WJ]⟩,Pv (i+1),λσ' H' p'=>⟨xs.length-(i+1),by lia,rfl,eI,p'⟩,λx H' y=>?_⟩;obtain⟨pp,x1,y1,hn,rfl,rfl,ex,ey⟩:=y;exact hs i x1 y1 pp σ _ (ex xs q1) (ey ys q2) p hn
 have e:i=xs.length:=by lia
 subst e;exact .inl ⟨⟨xs,ys,q1,q2,.inl (le_refl _)⟩,hd σ H p⟩
theorem RR(hn:n<=1000){H0:Hp}{σr:St}{b:Nat->Bool}(hD:H0 D=none)(ht:∀(i:Nat)(H:Hp)(N:Bool->Hp->Prop),i<n->aI H0 H->(∀H',aI H H'->N (b i) H')->tt (some (.int (0+(i:Int)))::σr) H N)(he:∀(i:Nat)(H:Hp)(N:V->Hp->Prop),i<n->N (.int (0+(i:Int))) H->te (some (.int (0+(i:Int)))::σr) H N)(q:∀H,aI H0 H->H D=some (.lst (((List.range n).filter b).map λk=>V.int (k:Nat)))->Q (.ref D) H):
  tf (Q5 0 n) (jd 0) tt te D (none::σr) (dl H0 D (.lst [])) Q:=by
 have hsz:(2000:Nat)<=sizeLine:=by decide
 refine m9 (lo:=0) (n:=n) (λi σ H'=>∃v:Option V,σ=v::σr/\aI H0 H'/\H' D=some (.lst (((List.range i).filter b).map λk=>V.int (k:Nat)))) ⟨none,rfl,(aI.refl _).new hD,aA⟩ ?_ ?_
 ·rintro i σ H' N hN hi ⟨v,rfl,s1,h1⟩;refine turn_if ?_;refine ht i H' _ hi s1 λH2 s2=>?_;have ef:(List.range (i+1)).filter b=(List.range i).filter b++if b i=true then[i]else[]:=by
   rw[List.range_succ,List.filter_append]
   congr 1
   by_cases e:b i=true<;>simp[e]
  by_cases e:b i=true
  ·rw[e];refine iD (he i H2 _ hi ⟨_,s2 _ _ h1,?_,?_⟩)
   ·rw[length_map];have:=List.length_filter_le b (List.range i);rw[List.length_range]at this;lia
   refine hN _ _ ⟨_,rfl,(s1.trans s2).put hD,?_⟩;rw[aA,ef,if_pos e,map_append];simp
  have e':b i=false:=by simpa using e
  rw[e'];refine dX (hN _ _ ⟨_,rfl,s1.trans s2,?_⟩);rw[ef,if_neg e,List.append_nil];exact s2 _ _ h1
 rintro σ H' ⟨v,rfl,s1,h1⟩;exact q H' s1 h1
theorem Fg(ps:List Nat):(ps.map λk=>V.int (k:Nat))=dL ps.length λq=>((ps.getD q 0:Nat):Int):=by
 apply List.ext_getElem?;intro j;by_cases hj:j<ps.length
 ·rw[bu hj,getElem?_map];simp[hj,List.getD]
 rw[getElem?_eq_none (by rw[length_map];lia),getElem?_eq_none (by rw[aL];lia)]
end
section
variable{P:Program}{K:W.Frag}{base:Heap}
end
theorem aI.tup{K:W.Frag}{xs:List V}(e:aI H H')(h:cT K H a xs):cT K H' a xs:=by
 rcases h with(h|⟨o,h⟩)|h
 ·exact .inl (.inl (e _ _ h))
 ·exact .inl (.inr ⟨o,e _ _ h⟩)
 exact .inr h
section
theorem IF{t sl:Addr}{vl vu:Value}{lo hi:Option Int}(ht:IsTup s.heap t items)(hs:s.heap.IsSliceOf sl vl vu .none)(pl:IsPart vl lo)(pu:IsPart vu hi)(h1:HT.gF items.size 0 lo=0)(h2:HT.gF items.size items.size hi=items.size)(h:Q (.ref t) s):wpAny (model prog w) A (getItem (.ref t) (.ref sl)) Q E s:=by
 obtain⟨os,Vo,RB,Yo⟩:=id hs;have hTs:s.TypeIs (.ref sl) "slice":=⟨os,Vo,RB⟩;unfold getItem
 try with_reducible refine wpAny_holding ?_
 first|refine bv (ca ?_)|skip
 refine bv (wpAny_sequenceKey ht.typeIs (by decide) (bv (wpAny_callSpecial?_slot (name:=Str.ofString "__getitem__") ht.typeIs PyProof.Rows.slot_tuple_getitem (wpAny_call_entry PyProof.Rows.slot_tuple_getitem ht.typeIs PyProof.Rows.entry_tuple_getitem ?_ (PyProof.Rows.args_tuple_getitem _ _)))));refine(show wpAny _ _ (Builtin.Tuple.tupleItemsOf (.ref t) >>= _) _ _ s from bv (PyProof.Rows.tupleItemsOf_ ht (bv (wpAny_typeOf hTs ?_))));rw[if_pos (by decide)];refine bv (HT.m8 hs pl pu ?_);rw[h1,h2,Nat.sub_zero];refine(show wpAny _ _ (if((((0:Nat):Int)==0)&&(1:Int)==1&&items.size==items.size)=true then _ else _) _ _ s from ?_);rw[if_pos (by simp)];refine bv ?_;unfold Builtin.Tuple.tupleIsExact;refine bv (wpAny_typeOf ht.typeIs (ca ?_));rw[if_pos (by decide)]
 first
  |exact bv (wpAny_rule (ca ⟨_,rfl,ca h⟩))
  |exact bv (wpAny_rule (bv (ca (ca ⟨_,rfl,ca h⟩))))
  |exact bv (bv (wpAny_rule (ca (ca ⟨_,rfl,ca h⟩))))
end
section
def aCS(K:W.Frag):V->Option Int->Option Int->Hp->VK->Prop:=λx lo hi H Q=>∃a xs,x=.ref a/\cT K H a xs/\∀r H',aI H H'->cT K H' r (cU xs lo hi)->Q (.ref r) H'
theorem RS(K:W.Frag)(hK:X.K=K:=by rfl):Yr X (aCS K):=by
 subst hK;intro ce s σ H x v vl vu lo hi sl Q I rx hs pl pu h;obtain⟨a,xs,rfl,hx,q⟩:=h;by_cases hw:HT.gF xs.length 0 lo=0/\HT.gF xs.length xs.length hi=xs.length
 ·cases rx;obtain⟨az,r,ht,hz⟩:=I.tuple hx;have jp:az.toArray.size=xs.length:=by rw[size_toArray];exact r.length.symm
  refine⟨"tuple",_,PyProof.Rows.slot_tuple_getitem.lookup,ht.typeIs,?_⟩;refine IF ht hs pl pu (by rw[jp];exact hw.1) (by rw[jp];exact hw.2) ?_;refine⟨.ref a,H,I,rfl,q a H (aI.refl _) ?_⟩;have e:cU xs lo hi=xs:=by unfold cU;rw[hw.1,hw.2,List.drop_zero,Nat.sub_zero,take_length]
  rw[e];exact hx
 exact Vp ce s σ H (.ref a) v vl vu lo hi sl Q I rx hs pl pu ⟨a,xs,rfl,hx,hw,λp hp=>q p _ ((aI.refl _).new hp) (cT.of aA)⟩
theorem tD(K:W.Frag)(hc:X.calm=true)(hK:X.K=K:=by rfl):yT X (.builtin "any") (λxs H Q=>∃(p:Addr)(bs:List Bool),xs=[.ref p]/\ae K H p (bs.map V.bl)/\Q (.bl (bs.any id)) H):=by
 subst hK;intro ce s σ H xs us Q I r h;obtain⟨p,bs,rfl,hq,q⟩:=h;obtain⟨u,rfl,rx⟩:=vals1 r;cases rx;obtain⟨az,r1,p1,_⟩:=I.list hq;have l1:=r1.length;rw[length_map]at l1;refine call_any_walk (wpAny_pyIter_list p1.isList ?_);have Fh:p≠s.heap.objs.size:=by obtain⟨o,n,ho,_⟩:=p1;exact ne_of_lt (Heap.lt_size ho)
 refine⟨_,_,_,az.toArray.size,_,_,λi=>bs.getD i true,rfl,Walks.list (A:=X.A.in1) (I.ok.hd hc) s.heap.objs.size p Fh az.toArray,?_,?_,λh' tk kp=>?_⟩
 ·exact⟨⟨_,Heap.get?_push_size _ rfl,rfl,rfl⟩,p1.isList.at λo e=>Heap.get?_push_of_some _ e⟩
 ·intro i v s' Q' E' hv hQ;have hi:i<az.length:=by have:=hv;simp only[List.getElem?_toArray]at this;exact(List.getElem?_eq_some_iff.mp this).1
  have hb:(bs.map V.bl)[i]?=some (V.bl bs[i]):=by simp[show i<bs.length by lia]
  obtain⟨u,hu,ru⟩:=r1.get hb;have e:u=v:=by simp only[List.getElem?_toArray]at hv;rw[hu]at hv;exact Option.some.inj hv
  subst e;cases ru;refine wpAny_truthy_bool ?_;have e2:bs.getD i true=bs[i]:=by simp[List.getD,show i<bs.length by lia]
  rw[<-e2];exact hQ
 have e:(List.range az.toArray.size).any (λi=>bs.getD i true)=bs.any id:=by
  have hz:az.toArray.size=bs.length:=by simp;lia
  rw[hz,Bool.eq_iff_iff];simp only[List.any_eq_true,List.mem_range,id];constructor
  ·rintro⟨i,hi,hb⟩;exact⟨bs[i],List.getElem_mem hi,by simpa[List.getD,hi]using hb⟩
  rintro⟨b,hb,hbt⟩;obtain⟨n,hn,rfl⟩:=List.getElem_of_mem hb;exact⟨n,hn,by simpa[List.getD,hn]using hbt⟩
 rw[e];exact⟨.bl (bs.any id),H,I.kept (t':=tk) λb o eb=>kp b o (by
  intro z;have hb:b=s.heap.objs.size:=by simpa using z
  exact absurd (Heap.lt_size eb) (by rw[hb];exact lt_irrefl _)) (Heap.get?_push_of_some _ eb),rfl,q⟩
end
inductive zw(K:W.Frag)(H:Hp):Nat->V->V->Prop where
 |flat {n:Nat} (x:V):qj x=true->zw K H n x x
 |same {n:Nat} (a:Addr):zw K H n (.ref a) (.ref a)
 |lst {n:Nat} {a b:Addr} {xs ys:List V} (ha:ae K H a xs) (hb:ae K H b ys) (hl:xs.length=ys.length) (h:∀(j:Nat)(x y:V),xs[j]?=some x->ys[j]?=some y->zw K H n x y):zw K H (n+1) (.ref a) (.ref b)
 |tup {n:Nat} {a b:Addr} {xs ys:List V} (ha:cT K H a xs) (hb:cT K H b ys) (hl:xs.length=ys.length) (h:∀(j:Nat)(x y:V),xs[j]?=some x->ys[j]?=some y->zw K H n x y):zw K H (n+1) (.ref a) (.ref b)
theorem ON:∀(x:V),qj x=true->NP x x=true
 |.bw,_=>rfl
 |.bl b,_=>by simp[NP]
 |.int i,_=>by simp[NP]
 |.str z,_=>by simp[NP]
 |.ref _,h=>absurd h (by intro z;cases z)
 |.ty _,h=>absurd h (by intro z;cases z)
section
theorem Dt(I:Inv X ce σ H s){x:V}(h:zw X.K H n x y):∀{A:Around}{u v:Value},A.units+n<cLine->RelV x u->RelV y v->SeqAt.EqAt A s u v true:=by
 induction h with
 |flat x fx=>intro A u v _ ru rv;have:=Hy (A:=A) (s:=s) ru rv fx fx;rwa [ON x fx]at this
 |same a=>intro A u v _ ru rv;cases ru;cases rv;exact SeqAt.EqAt.same _
 |@lst n a b xs ys ha hb hl h ih =>
  intro A u v hu ru rv;cases ru;cases rv;by_cases ZM:a=b
  ·subst ZM;exact SeqAt.EqAt.same _
  obtain⟨az,r1,p1,_⟩:=I.list ha;obtain⟨iG,r2,p2,_⟩:=I.list hb;have l1:=r1.length;have l2:=r2.length;refine SeqAt.EqAt.of_refs ZM ?_;have q:=SeqAt.RcAt.lists (A:=A) (s:=s) (e:=λ_=>true) p1.isList p2.isList (by simp;lia) (by lia) λj h1 h2=>?_
  ·rw[all_true]at q;exact q
  obtain⟨x,hx,rx⟩:=jK r1 j h1;obtain⟨y,hy,ry⟩:=jK r2 j h2;exact ih j x y hx hy (A:=A.in1) (by show A.units+1+n<cLine;lia) rx ry
 |@tup n a b xs ys ha hb hl h ih =>
  intro A u v hu ru rv;cases ru;cases rv;by_cases ZM:a=b
  ·subst ZM;exact SeqAt.EqAt.same _
  obtain⟨az,r1,p1,_⟩:=I.tuple ha;obtain⟨iG,r2,p2,_⟩:=I.tuple hb;have l1:=r1.length;have l2:=r2.length;refine SeqAt.EqAt.of_refs ZM ?_;have q:=SeqAt.RcAt.tuples (A:=A) (s:=s) (e:=λ_=>true) (show s.heap.IsTuple a az.toArray from p1) (show s.heap.IsTuple b iG.toArray from p2) (by lia) λj h1 h2=>?_
  ·rw[all_true,Bool.true_and,show(az.toArray.size==iG.toArray.size)=true by simp;lia]at q;exact q
  obtain⟨x,hx,rx⟩:=jK r1 j h1;obtain⟨y,hy,ry⟩:=jK r2 j h2;exact ih j x y hx hy (A:=A.in1) (by show A.units+1+n<cLine;lia) rx ry
end
section
def aCT(K:W.Frag)(neg:Bool):R2:=λx y H Q=>∃a b xs ys,x=.ref a/\y=.ref b/\ae K H a xs/\ae K H b ys /\
 ((xs.length=ys.length/\(∀(j:Nat)(u v:V),xs[j]?=some u->ys[j]?=some v->zw K H 8 u v)/\Q (.bl (!neg)) H)\/(xs.length≠ys.length/\Q (.bl neg) H))
theorem Ke(K:W.Frag)(hu:X.A.units+16<cLine)(hK:X.K=K:=by rfl):qK X (compareOp .NotEq) (aCT K true):=by
 subst hK;intro ce s σ H x y v u Q I rx ry h;obtain⟨a,b,xs,ys,rfl,rfl,ha,hb,h⟩:=h;cases rx;cases ry;obtain⟨az,r1,p1,_⟩:=I.list ha;obtain⟨iG,r2,p2,_⟩:=I.list hb;have l1:=r1.length;have l2:=r2.length;rcases h with⟨hl,he,q⟩|⟨hl,q⟩
 ·refine PySem.EqBoolInt.of_rcne (SeqAt.RcNeAt.lists (e:=λ_=>true) p1.isList p2.isList (by simp;lia) (by lia) λj h1 h2=>?_) ?_
  ·obtain⟨x,hx,rx⟩:=jK r1 j h1;obtain⟨y,hy,ry⟩:=jK r2 j h2;exact Dt I (he j x y hx hy) (A:=X.A.in1) (by show X.A.units+1+8<cLine;lia) rx ry
  rw[all_true];exact⟨.bl false,H,I,rfl,q⟩
 refine PySem.EqBoolInt.of_rcne (SeqAt.RcNeAt.lists_lengths p1.isList p2.isList (by simp;lia) (by lia)) ?_;exact⟨.bl true,H,I,rfl,q⟩
theorem tE(K:W.Frag){l:Expr}(hl:PE X l tl)(hK:X.K=K:=by rfl):PI X tg l (Yc K tl):=by subst hK;exact Vc hl
end
section
variable{K:W.Frag}{g:TG}{Q:VK}
theorem WL{xs:List V}(Pv:Nat->St->Hp->Prop)(h0:Pv 0 σ H)(hl:∀i σ H,i<=xs.length->Pv i σ H->cT K H a xs)(hs:∀(i:Nat)(x:V)(σ:St)(H:Hp)(N:St->Hp->Prop),(∀σ H,Pv (i+1) σ H->N σ H)->xs[i]?=some x->Pv i σ H->g x σ H λσ3 H3=>tt σ3 H3 λb H4 =>
   if b=true then te σ3 H4 λv H5=>∃ys,H5 D=some (.lst ys)/\ys.length<sizeLine/\N σ3 (dl H5 D (.lst (ys++[v])))else N σ3 H4)(hd:∀σ H,Pv xs.length σ H->Q (.ref D) H):tf (Xm K a) g tt te D σ H Q:=by
 refine⟨λi m σ H=>m=xs.length-i/\i<=xs.length/\Pv i σ H,⟨xs.length,by simp,zero_le _,h0⟩,?_⟩;rintro i m σ' H' ⟨rfl,hi,p⟩;have q:=hl i σ' H' hi p;by_cases eI:i<xs.length
 ·refine .inr ⟨⟨xs,xs[i],q,by simp[eI]⟩,λx H2 y=>?_⟩;obtain⟨e,y⟩:=y;subst e;exact hs i x σ' _ (λσ3 H3=>∃m',m'<xs.length-i/\m'=xs.length-(i+1)/\i+1<=xs.length/\Pv (i+1) σ3 H3) (λσ3 H3 z=>⟨xs.length-(i+1),by lia,rfl,eI,z⟩) (y xs q) p
 have e:i=xs.length:=by lia
 subst e;exact .inl ⟨⟨xs,q,le_refl _⟩,hd σ' H' p⟩
end
section
def ZN(K:W.Frag):R2:=λx y H Q=>∃a b xs ys,x=.ref a/\y=.ref b/\cT K H a xs/\cT K H b ys /\
 (∀(j:Nat)(u v:V),xs[j]?=some u->ys[j]?=some v->zw K H 8 u v)/\Q (.bl (decide (xs.length=ys.length))) H
theorem RT(K:W.Frag)(hu:X.A.units+16<cLine)(hK:X.K=K:=by rfl):qK X (compareOp .Eq) (ZN K):=by
 subst hK;intro ce s σ H x y v u Q I rx ry h;obtain⟨a,b,xs,ys,rfl,rfl,ha,hb,he,q⟩:=h;cases rx;cases ry;obtain⟨az,r1,p1,_⟩:=I.tuple ha;obtain⟨iG,r2,p2,_⟩:=I.tuple hb;have l1:=r1.length;have l2:=r2.length;refine SeqAt.eq_tupleAt (e:=λ_=>true) (show s.heap.IsTuple a az.toArray from p1) (show s.heap.IsTuple b iG.toArray from p2) (by lia) (λj h1 h2=>?_) ?_
 ·obtain⟨x,hx,rx⟩:=jK r1 j h1;obtain⟨y,hy,ry⟩:=jK r2 j h2;exact Dt I (he j x y hx hy) (A:=X.A.in1) (by show X.A.units+1+8<cLine;lia) rx ry
 rw[all_true,Bool.true_and];have e:(az.toArray.size==iG.toArray.size)=decide (xs.length=ys.length):=by rw[l1,l2,size_toArray,size_toArray,Bool.eq_iff_iff];simp
 rw[e];exact⟨.bl _,H,I,rfl,q⟩
end
section
variable(P:Program)(w:World)
end
section
variable{P:Program}{o:HO}
end
section
variable{P:Program}{x e:Addr}{o':HO}
end
section
variable{fs UO ex ex':List Addr}{H1 H2:Hp}{h1 h2:Heap}{x e:Addr}{o:HO}
end
section
variable{σ:List (Option V)}
end
section
variable{a b:Expr}{tb:TE}
variable{tA YU:TT}{rest:List Expr}
end
section
variable{xs ys:List V}
end
section
end
section
variable{rest:List Stmt}{t u:TS}
end
section
end
section
end
section
end
section
variable{a b c:Expr}{tb tc:TE}
end
section
variable{a b c:Expr}{tb tc:TE}
end
section
variable{K:W.Frag}{x f:Addr}{v:Value}
end
section
variable{P:Program}{UO:List (Str×V)}
end
section
variable{f:Str}
end
section
variable{o:Expr}{f:Str}
end
section
variable{c:Value}{b:Bool}
end
section
variable{t:TA}
end
section
variable{s':Shared}
end
section
variable{k:Nat}{f:Addr}{E:XK}{m:Str}{o:Expr}{t:TA}
end
section
variable{k:Nat}{f:Addr}{ks:List Str}{E:XK}{m:Str}{aCt:Pos}{o:Expr}{t tk:TA}
end
section
variable{t:TA}{id T:String}{r:List V->Hp->VK->Prop}
end
section
variable{κ:Type}[DecidableEq κ]
def jC(io:List (κ×V))(k:κ):Option V:=(io.find? λkv=>decide (kv.1=k)).map (·.2)
def im(io:List (κ×V))(k:κ)(v:V):List (κ×V) :=
 if(io.any λkv=>decide (kv.1=k))=true then io.map (λkv=>if kv.1=k then(kv.1,v)else kv)else io++[(k,v)]
def zx(io:List (κ×V))(k:κ):List (κ×V):=io.filter λkv=>decide (kv.1≠k)
theorem qo{p:κ×V}{r:List (κ×V)}{k:κ}(e:p.1=k):jC (p::r) k=some p.2:=by simp[jC,List.find?_cons,e]
theorem kC{p:κ×V}{r:List (κ×V)}{k:κ}(e:¬p.1=k):jC (p::r) k=jC r k:=by simp[jC,List.find?_cons,e]
theorem zy(k:κ):∀io:List (κ×V),(io.any λkv=>decide (kv.1=k))=(jC io k).isSome
 |[]=>rfl
 |p::r=>by
  rw[List.any_cons];by_cases e:p.1=k
  ·simp only[qo e,decide_eq_true e,Bool.true_or,Option.isSome_some]
  rw[kC e,decide_eq_false e,Bool.false_or];exact zy k r
theorem jD(io:List (κ×V))(k:κ)(v:V):(im io k v).length<=io.length+1:=by
 unfold im;split
 ·rw[length_map];lia
 rw[length_append,length_cons,List.length_nil];lia
theorem Fi{io:List (κ×V)}{k:κ}(v:V)(h:jC io k=none):im io k v=io++[(k,v)]:=by unfold im;rw[zy,h];exact if_neg (by decide)
theorem nq.Ls{u:Option Value}(r:nq o u):o.isSome=u.isSome:=by
 cases o with
 |none=>cases u with
  |none=>rfl
  |some _=>exact(show False from r).elim
 |some _=>cases u with
  |none=>exact(show False from r).elim
  |some _=>rfl
theorem nq.getD{o:Option V}{u:Option Value}{d:V}{d':Value}(r:nq o u)(rd:RelV d d'):RelV (o.getD d) (u.getD d'):=by
 cases o with
 |none=>cases u with
  |none=>exact rd
  |some _=>exact(show False from r).elim
 |some _=>cases u with
  |none=>exact(show False from r).elim
  |some _=>exact r
theorem KV.val{io:List (κ×V)}{vs:List (κ×Value)}(r:KV io vs)(k:κ):nq (jC io k) (valueAt vs k):=by
 unfold KV at r
 induction r with
 |nil=>exact True.intro
 |@cons p q ps qs h t ih =>
  obtain⟨h1,h2⟩:=h;by_cases e:p.1=k
  ·have e':q.1=k:=h1.symm.trans e;have b:valueAt (q::qs) k=some q.2:=(by simp[valueAt,List.find?_cons,e']);rw[qo e,b];exact h2
  have e':¬q.1=k:=λz=>e (h1.trans z);have b:valueAt (q::qs) k=valueAt qs k:=by simp[valueAt,List.find?_cons,e']
  rw[kC e,b];exact ih
theorem KV.any{io:List (κ×V)}{vs:List (κ×Value)}(r:KV io vs)(k:κ):(io.any λkv=>decide (kv.1=k))=vs.any λkv=>decide (kv.1=k):=by
 unfold KV at r
 induction r with
 |nil=>rfl
 |cons h t ih=>rw[List.any_cons,List.any_cons,ih,h.1]
theorem KV.WM{io:List (κ×V)}{vs:List (κ×Value)}(r:KV io vs)(k:κ)(ry:RelV y u):
  KV (io.map λkv=>if kv.1=k then(kv.1,y)else kv) (vs.map λkv=>if kv.1=k then(kv.1,u)else kv):=by
 unfold KV at r ⊢
 induction r with
 |nil=>exact .nil
 |@cons p q ps qs h t ih =>
  rw[List.map_cons,List.map_cons];refine .cons ?_ ih;obtain⟨h1,h2⟩:=h;by_cases e:p.1=k
  ·rw[if_pos e,if_pos (h1.symm.trans e)];exact⟨h1,ry⟩
  rw[if_neg e,if_neg (λz=>e (h1.trans z))];exact⟨h1,h2⟩
theorem KV.put{io:List (κ×V)}{vs:List (κ×Value)}(r:KV io vs)(k:κ)(ry:RelV y u):KV (im io k y) (stored vs k u):=by
 unfold im stored;rw[r.any k];by_cases e:(vs.any λkv=>decide (kv.1=k))=true
 ·rw[if_pos e,if_pos e];exact r.WM k ry
 rw[if_neg e,if_neg e];exact Paired.snoc r ⟨rfl,ry⟩
theorem KV.drop{io:List (κ×V)}{vs:List (κ×Value)}(r:KV io vs)(k:κ):KV (zx io k) (without vs k):=by
 unfold KV at r ⊢;unfold zx without
 induction r with
 |nil=>exact .nil
 |@cons p q ps qs h t ih =>
  obtain⟨h1,h2⟩:=h;rw[List.filter_cons,List.filter_cons];by_cases e:p.1=k
  ·have a:¬decide (p.1≠k)=true:=(by simp[e]);have b:¬decide (q.1≠k)=true:=(by simp[h1.symm.trans e]);rw[if_neg a,if_neg b];exact ih
  have e':¬q.1=k:=λz=>e (h1.trans z);have a:decide (p.1≠k)=true:=by simp[e]
  have b:decide (q.1≠k)=true:=by simp[e']
  rw[if_pos a,if_pos b];exact .cons ⟨h1,h2⟩ ih
theorem KV.length{io:List (κ×V)}{vs:List (κ×Value)}(r:KV io vs):io.length=vs.length:=Paired.length r
theorem OO(io:List (κ×V))(k:κ):(zx io k).length<=io.length:=List.length_filter_le _ _
end
theorem zz{P:Program}{k:Key}(r:RelV (kV k) u):(bZ P w).is k u=true:=by
 cases k with
 |inl i=>obtain⟨t,e⟩:=(show ∃t,u=Value.int i t from r);subst e;exact FG P w i t
 |inr x=>obtain⟨t,e⟩:=(show ∃t,u=Value.str x t from r);subst e;exact FH P w x t
theorem Cz{P:Program}{w:World}:∀{ks:List Key}{us:List Value},bJ (ks.map kV) us->ItemsAre (bZ P w) ks us
 |[],_,r=>by rw[List.map_nil]at r;cases r;exact .nil
 |k::ks,_,r=>by
  rw[List.map_cons]at r;cases r with
  |cons h t=>exact .cons (zz h) (Cz t)
abbrev KT(H:Hp):List (List Key×V)->List (List Key×Addr×Value)->Prop:=Paired λp q=>p.1=q.1/\H q.2.1=some (.tup (p.1.map kV))/\RelV p.2 q.2.2
theorem KT.val(r:KT H io xs)(k:List Key):nq (jC io k) ((atKey xs k).map (·.2)):=by
 induction r with
 |nil=>exact True.intro
 |@cons p q ps qs h t ih =>
  obtain⟨h1,_,h2⟩:=h;by_cases e:p.1=k
  ·have e':q.1=k:=h1.symm.trans e;have b:atKey (q::qs) k=some q.2:=(by simp[atKey,List.find?_cons,e']);rw[qo e,b];exact h2
  have e':¬q.1=k:=λz=>e (h1.trans z);have b:atKey (q::qs) k=atKey qs k:=by simp[atKey,List.find?_cons,e']
  rw[kC e,b];exact ih
theorem KT.WM(r:KT H io xs)(k:List Key)(ry:RelV y u):
  KT H (io.map λkv=>if kv.1=k then(kv.1,y)else kv) (xs.map (putAt k u)):=by
 induction r with
 |nil=>exact .nil
 |@cons p q ps qs h t ih =>
  rw[List.map_cons,List.map_cons];refine .cons ?_ ih;obtain⟨h1,h2,h3⟩:=h;unfold putAt;by_cases e:p.1=k
  ·rw[if_pos e,if_pos (h1.symm.trans e)];exact⟨h1,h2,ry⟩
  rw[if_neg e,if_neg (λz=>e (h1.trans z))];exact⟨h1,h2,h3⟩
theorem KT.put(r:KT H io xs)(k:List Key)(hb:H b=some (.tup (k.map kV)))(ry:RelV y u):
  KT H (im io k y) (storedH xs k b u):=by
 have e:(io.any λkv=>decide (kv.1=k))=(atKey xs k).isSome:=by rw[zy,(r.val k).Ls,Option.isSome_map]
 unfold im storedH;rw[e];by_cases q:(atKey xs k).isSome=true
 ·rw[if_pos q,if_pos q];exact r.WM k ry
 rw[if_neg q,if_neg q];exact Paired.snoc r ⟨rfl,hb,ry⟩
theorem KT.keeps(r:KT H io xs)(ht:∀b ys,H b=some (.tup ys)->H' b=some (.tup ys)):KT H' io xs :=
 Paired.VR r λ_ _ z=>⟨z.1,ht _ _ z.2.1,z.2.2⟩
section
variable{P:Program}
theorem Ug{u:HO}(ok:tY P w H h)(e:Rd H a u):cZ P w H h a u:=e.ok ok
theorem Fj{io:List (Key×V)}(ok:tY P w H h)(e:Rd H a (.dK io)):io.length<=sizeLine/\(a==sysModules)=false/\∃vs,KV io vs/\h.DictOf (bZ P w) a vs :=
 show cZ P w H h a (.dK io)from Ug ok e
theorem Kf{io:List (Key×V)}(ok:tY P w H h)(e:H a=some (.dK io)):io.length<=sizeLine/\(a==sysModules)=false/\∃vs,KV io vs/\h.DictOf (bZ P w) a vs:=Fj ok (.inl e)
theorem z7{ks:List Key}(ok:tY P w H h)(e:H a=some (.tup (ks.map kV))):(tupleKind (bZ P w)).is h ks a:=by obtain⟨_,az,r,o,h1,h2,n,h3⟩:=(show cZ P w H h a (.tup (ks.map kV))from ok a _ e);exact⟨o,az.toArray,n,h1,h2,h3,by simpa using Cz r⟩
theorem Fk(ok:tY P w H h)(e:Rd H a (.dT io)):io.length<=sizeLine/\(a==sysModules)=false /\
  ∃xs,KT H io xs/\h.DictOfH (tupleKind (bZ P w)) a xs:=by
 obtain⟨z,y,xs,r,o,es,ep,h1,h2,h3,h4,h5⟩:=(show cZ P w H h a (.dT io)from Ug ok e);refine⟨z,y,xs,r,o,es,ep,h1,h2,h3,h4,λx hx=>?_,h5⟩;have all:∀{l:List (List Key×V)}{m:List (List Key×Addr×Value)},KT H l m->∀x∈m,(tupleKind (bZ P w)).is h x.1 x.2.1:=by
  intro l m q
  induction q with
  |nil=>intro x hx;exact nomatch hx
  |@cons p q ps qs hq t ih =>
   intro x hx;rcases mem_cons.mp hx with e|hx
   ·subst e;exact z7 ok (by rw[<-hq.1];exact hq.2.1)
   exact ih x hx
 exact all r x hx
theorem Uh(ok:tY P w H h)(e:H a=some (.dT io)):io.length<=sizeLine/\(a==sysModules)=false /\
  ∃xs,KT H io xs/\h.DictOfH (tupleKind (bZ P w)) a xs:=Fk ok (.inl e)
end
def uQ(H:Hp)(a:Addr)(y:V)(r:Option V):Prop :=
 (∃io k,Rd H a (.dK io)/\y=kV k/\r=jC io k)\/∃io k b,Rd H a (.dT io)/\y=.ref b/\H b=some (.tup (k.map kV))/\r=jC io k
def z8(H:Hp)(a:Addr)(y v:V)(H':Hp):Prop :=
 (∃io k,H a=some (.dK io)/\y=kV k/\io.length<sizeLine/\H'=dl H a (.dK (im io k v))) \/
 ∃io k b,H a=some (.dT io)/\y=.ref b/\H b=some (.tup (k.map kV))/\io.length<sizeLine/\H'=dl H a (.dT (im io k v))
theorem uQ.k{H:Hp}{a:Addr}{io:List (Key×V)}{k:Key}(e:H a=some (.dK io)):uQ H a (kV k) (jC io k):=.inl ⟨io,k,.inl e,rfl,rfl⟩
theorem uQ.t{k:List Key}(e:H a=some (.dT io))(eb:H b=some (.tup (k.map kV))):uQ H a (.ref b) (jC io k):=.inr ⟨io,k,b,.inl e,rfl,eb,rfl⟩
theorem z8.k{H:Hp}{a:Addr}{io:List (Key×V)}{k:Key}{v:V}(e:H a=some (.dK io))(hl:io.length<sizeLine):z8 H a (kV k) v (dl H a (.dK (im io k v))):=.inl ⟨io,k,e,rfl,hl,rfl⟩
theorem z8.t{k:List Key}(e:H a=some (.dT io))(eb:H b=some (.tup (k.map kV)))(hl:io.length<sizeLine):
  z8 H a (.ref b) v (dl H a (.dT (im io k v))):=.inr ⟨io,k,b,e,rfl,eb,hl,rfl⟩
section
variable{r:Value}
theorem Inv.big(I:Inv X ce σ H s):sysModules<s.heap.objs.size:=by have h:mainGlobals<s.heap.objs.size:=(I.mod.glob.keeps I.bk).lt;exact Nat.lt_trans (by decide) h
theorem Lu(hu:A.units+1<cLine)(I:Inv X ce σ H s)(g:uQ H a y (some v))(ry:RelV y u)(h:∀w' s',Inv X ce σ H s'->RelV v w'->Q w' s'):
  wpAny (model X.prog X.w) A (getItem (.ref a) u) Q E s:=by
 rcases g with⟨io,k,e,ey,l⟩|⟨io,k,b,e,ey,eb,l⟩
 ·subst ey;obtain⟨z,hd,vs,rel,dd⟩:=Fj I.cK e;obtain⟨w',hw,FV⟩:=nq.some_of (v:=v) (o:=valueAt vs k) (by rw[l];exact rel.val k);exact wpAny_getItem_of (zz ry) dd.mapOf hw (h w' _ (I.tok _) FV)
 subst ey;cases(show u=Value.ref b from ry);obtain⟨z,hd,xs,rel,dd⟩:=Fk I.cK e;obtain⟨w',hw,FV⟩:=nq.some_of (v:=v) (o:=(atKey xs k).map (·.2)) (by rw[l];exact rel.val k);obtain⟨p,hp,z9⟩:=Option.map_eq_some_iff.mp hw;refine wpAny_getItem_heap (tupleKind_room_in1 hu) (z7 I.cK eb) dd hp ?_;rw[z9];exact h w' _ (I.tok _) FV
theorem tF{t':Nat}{ob:HO}(I:Inv X ce σ H s)(mu:YQ (H a))(hs:Heap.SameBut a s.heap h')(he:∃q,h'.get? a=some q)(new:cZ X.prog X.w (dl H a ob) h' a ob):
  Inv X ce σ (dl H a ob) { s with heap:=h',toks:=t' } :=
 I.write (x:=a) (e:=a) mu (.inl rfl) (λb q hb z=>(hs.2 b hb).trans z) he new
theorem Du{P:Program}{io:List (Key×V)}(z:io.length<=sizeLine)(hd:(a==sysModules)=false)(rel:KV io vs)(dd:h'.DictOf (bZ P w) a vs):
  cZ P w H' h' a (.dK io):=⟨z,hd,vs,rel,dd⟩
theorem C0{Q:Unit->Shared->Prop}(hu:A.units+1<cLine)(I:Inv X ce σ H s)(g:z8 H a y v H')(ry:RelV y u)(rv:RelV v r)(h:∀s',Inv X ce σ H' s'->Q () s'):
  wpAny (model X.prog X.w) A (setItem (.ref a) u r) Q E s:=by
 rcases g with⟨io,k,e,ey,l,eH⟩|⟨io,k,b,e,ey,eb,l,eH⟩
 ·subst ey eH;obtain⟨z,hd,vs,rel,dd⟩:=Kf I.cK e;have hz:vs.length<=sizeLine:=by rw[<-rel.length];exact z
  have hl:(im io k v).length<=sizeLine:=by have:=jD io k v;lia
  refine wpAny_setItem_pairs (hsz:=hz) (zz ry) dd λh' IG hs=>h _ ?_;have he:∃q,h'.get? a=some q:=let⟨q,_,_,hq,_⟩:=IG;⟨q,hq⟩;exact tF I (by rw[e];exact True.intro) hs he (Du hl hd (rel.put k rv) IG)
 subst ey eH;cases(show u=Value.ref b from ry);obtain⟨z,hd,xs,rel,dd⟩:=Uh I.cK e;have hz:xs.length<=sizeLine:=by rw[<-Paired.length rel];exact z
 have hl:(im io k v).length<=sizeLine:=by have:=jD io k v;lia
 refine wpAny_setItem_heap (hsz:=hz) (tupleKind_room_in1 hu) (z7 I.cK eb) dd λh' IG hs=>h _ ?_;obtain⟨q,es,ep,hq,h2,h3,h4,_,h5⟩:=IG;refine tF I (by rw[e];exact True.intro) hs ⟨q,hq⟩ ⟨hl,hd,_,(rel.put k eb rv).keeps λc ys ec=>?_,q,es,ep,hq,h2,h3,h4,h5⟩;rw[aE (UN ec e (λz=>nomatch z))]
 exact ec
end
section
variable{io:List (Key×V)}{k:Key}
theorem ZO(I:Inv X ce σ H s)(e:H a=some (.dK io))(ry:RelV (kV k) u)(l:jC io k=some v)(hm:more=[]\/∃x,more=[x])(h:∀w' s',Inv X ce σ (dl H a (.dK (zx io k))) s'->RelV v w'->Q w' s'):wpAny (model X.prog X.w) A (call (.builtin "dict.pop") (.ref a::u::more)) Q E s:=by
 obtain⟨z,hd,vs,rel,dd⟩:=Kf I.cK e;obtain⟨w',hw,FV⟩:=nq.some_of (v:=v) (o:=valueAt vs k) (by rw[<-l];exact rel.val k);have hp:(keyPart u).isSome=true:=by
  cases k with
  |inl i=>obtain⟨t,q⟩:=(show ∃t,u=Value.int i t from ry);subst q;rfl
  |inr x=>obtain⟨t,q⟩:=(show ∃t,u=Value.str x t from ry);subst q;rfl
 have ha:argsOk "dict.pop" ⟨.ref a::u::more,[]⟩:=by
  rcases hm with q|⟨x,q⟩
  ·subst q;exact PySem.F.args_dict_pop_2 _ _
  subst q;exact PySem.F.args_dict_pop_3 _ _ _
 refine call_meetsIn PySem.F.slot_dict_pop dd.typeIs PySem.F.entry_dict_pop ha (meets_dict_pop_there (bZ X.prog X.w) a (zz ry) more hm hp)
  ⟨vs,w',dd,by rw[<-rel.length];exact z,hw,λh' IG hs=>h w' _ ?_ FV⟩
 have he:∃q,h'.get? a=some q:=let⟨q,_,_,hq,_⟩:=IG;⟨q,hq⟩;exact tF I (by rw[e];exact True.intro) hs he (Du (le_trans (OO io k) z) hd (rel.drop k) IG)
end
def ZP(i:Expr):Prop:=∀ov iv,subscripted i false ov iv=operate [ov,iv] (getItem ov iv)
theorem RU{env:Env}{slice:Expr}{T id:String}(hl:typeLookup (.type T) "__getitem__"=pure (some (.builtin id)))(hs:ZP slice)(h:wpAny (model prog w) A (eval value env) (λo s₁=>wpAny (model prog w) A (eval slice env) (λi s₂=>s₂.TypeIs o T/\wpAny (model prog w) A (getItem o i) Q E s₂) E s₁) E s):
  wpAny (model prog w) A (eval (.Subscript value slice pos) env) Q E s:=by
 refine Subscript_ (wpAny_mono h (λo s₁ h₁=>wpAny_mono h₁ (λi s₂ h₂=>?_) λ_ _ x=>x) λ_ _ x=>x);obtain⟨hT,h₂⟩:=h₂;unfold subscriptTail;refine bv ?_;rw[getitemInPython_of_ne hT.not_modules];refine bv (wpAny_specialOf hT hl ?_);have fin:wpAny (model prog w) A (subscripted slice false o i) (λr s₃=>wpAny (model prog w) A (letTemporaryGo value o r >>= λ_=>pure r) Q E s₃) E s₂:=by rw[hs o i];exact wpAny_operating (wpAny_mono h₂ (λr s₃ h₃=>bv (wpAny_letTemporaryGo (ca h₃))) λ_ _ x=>x)
 first
  |exact ca (bv fin)
  |exact bv (ca (bv fin))
  |exact bv fin
theorem Fl(I:Inv X ce σ H s)(g:uQ H a y o):s.TypeIs (.ref a) "dict":=by
 rcases g with⟨io,k,e,_,_⟩|⟨io,k,b,e,_,_,_⟩
 ·obtain⟨_,_,vs,_,dd⟩:=Fj I.cK e;exact dd.typeIs
 obtain⟨_,_,xs,_,dd⟩:=Fk I.cK e;exact dd.typeIs
def ZQ(td ty:TE):TE:=λσ H Q=>td σ H λx H1=>ty σ H1 λy H2=>∃a v,x=.ref a/\uQ H2 a y (some v)/\Q v H2
def ZR(td ty tv:TE):TS:=λD σ H=>tv σ H λv H1=>td σ H1 λx H2=>ty σ H2 λy H3=>∃a H4,x=.ref a/\z8 H3 a y v H4/\D.nx σ H4
section
variable{o i:Expr}{td ty:TE}
theorem ay(hu:X.A.units+1<cLine)(ho:PE X o td)(hi:PE X i ty)(hs:ZP i):PE X (.Subscript o i pos) (ZQ td ty):=by intro ce s σ H Q I h;refine RU PySem.F.slot_dict_getitem.lookup hs (cC (ho ce s σ H _ I h) λu s1 ⟨x,H1,I1,rx,q1⟩=>cC (hi ce s1 σ H1 _ I1 q1) λiv s2 ⟨y,H2,I2,ry,a,v,ex,g,q2⟩=>?_);subst ex;obtain rfl:u=Value.ref a:=rx;exact⟨Fl I2 g,Lu hu I2 g ry λw' s3 I3 FV=>⟨v,H2,I3,FV,q2⟩⟩
theorem lV(hu:X.A.units+1<cLine)(ho:PE X o td)(hi:PE X i ty)(hv:PE X value tv)(hs:swapsWith value (some (.Subscript o i pos')) pos.line X.env=pure false):
  PS X (.Assign [.Subscript o i pos'] value pos) (ZR td ty tv):=by
 intro ce s σ H D I h;refine wpAny_Assign_Subscript (cC (hv ce s σ H _ I h) λr s1 ⟨v,H1,I1,rv,q1⟩=>cC (ho ce s1 σ H1 _ I1 q1) λu s2 ⟨x,H2,I2,rx,q2⟩=>cC (hi ce s2 σ H2 _ I2 q2) λiv s3 ⟨y,H3,I3,ry,a,H4,ex,g,q3⟩=>?_) hs;subst ex;obtain rfl:u=Value.ref a:=rx;exact C0 hu I3 g ry rv λs4 I4=>⟨σ,H4,I4,q3⟩
end
theorem Fm{P:Program}(h:Heap)(hb:sysModules<h.objs.size):cZ P w H (h.push { cls:=.type "dict",data:=.dict #[] }) h.objs.size (.dK []) :=
 ⟨zero_le _,beq_eq_false_iff_ne.mpr (Ne.symm (ne_of_lt hb)),[],.nil,Heap.DictOf.new h⟩
theorem OP{P:Program}(h:Heap)(hb:sysModules<h.objs.size):cZ P w H (h.push { cls:=.type "dict",data:=.dict #[] }) h.objs.size (.dT []) :=
 ⟨zero_le _,beq_eq_false_iff_ne.mpr (Ne.symm (ne_of_lt hb)),[],.nil,_,#[],0,Heap.get?_push_size _ rfl,⟨rfl,rfl,rfl⟩,rfl,rfl,List.nodup_nil⟩
def WN:TE:=λ_ H Q=>∀p,H p=none->Q (.ref p) (dl H p (.dK []))
def WO:TE:=λ_ H Q=>∀p,H p=none->Q (.ref p) (dl H p (.dT []))
section
theorem OQ:PE X (.Dict [] [] pos) WN:=λce s σ H Q I h =>
 wpAny_Dict_empty ⟨.ref s.heap.objs.size,_,I.laid (a:=s.heap.objs.size) (o:=.dK []) (t':=s.toks) (λ_ _ q=>Heap.get?_push_of_some _ q) (le_refl _) (Fm s.heap I.big),rfl,h _ (I.cK.fresh (le_refl _))⟩
theorem Fn:PE X (.Dict [] [] pos) WO:=λce s σ H Q I h =>
 wpAny_Dict_empty ⟨.ref s.heap.objs.size,_,I.laid (a:=s.heap.objs.size) (o:=.dT []) (t':=s.toks) (λ_ _ q=>Heap.get?_push_of_some _ q) (le_refl _) (OP s.heap I.big),rfl,h _ (I.cK.fresh (le_refl _))⟩
end
def IH:List (TE×TE)->St->Hp->(List (V×V)->Hp->Prop)->Prop
 |[],_,H,Q=>Q [] H
 | (tk,tv)::r,σ,H,Q=>tk σ H λx H1=>tv σ H1 λy H2=>IH r σ H2 λps H3=>Q ((x,y)::ps) H3
abbrev VV:List (V×V)->List (Value×Value)->Prop:=Paired λp q=>RelV p.1 q.1/\RelV p.2 q.2
def PPs(X:Cx)(pos:Pos)(keys:List (Option Expr))(values:List Expr)(RV:List (TE×TE)):Prop :=
 ∀(ce:List (Addr×Obj))(s:Shared)(σ:St)(H:Hp)(Q:List (V×V)->Hp->Prop),Inv X ce σ H s->IH RV σ H Q ->
  wpAny (model X.prog X.w) X.A (evalPairs (pairTrees keys values X.env pos)) (λvs s'=>∃ps H',Inv X ce σ H' s'/\VV ps vs/\Q ps H') X.xe s
theorem RW:PPs X pos [] [] []:=λce s σ H Q I h=>pairTrees_nil_walk ⟨[],H,I,.nil,h⟩
theorem qp{k v:Expr}{vs:List Expr}{tk:TE}(hk:PE X k tk)(hv:PE X v tv)(hr:PPs X pos ks vs RV):
  PPs X pos (some k::ks) (v::vs) ((tk,tv)::RV):=λce s σ H Q I h =>
 pairTrees_cons_walk (cC (hk ce s σ H _ I h) λu s1 ⟨x,H1,I1,rx,q1⟩=>cC (hv ce s1 σ H1 _ I1 q1) λw2 s2 ⟨y,H2,I2,ry,q2⟩ =>
  cC (hr ce s2 σ H2 _ I2 q2) λws s3 ⟨ps,H3,I3,rel,q3⟩=>⟨(x,y)::ps,H3,I3,.cons ⟨rx,ry⟩ rel,q3⟩)
def xJ(io more:List (Key×V)):List (Key×V):=more.foldl (λacc kv=>im acc kv.1 kv.2) io
theorem KV.merge:∀{more:List (Key×V)}{rs:List (Key×Value)}{io:List (Key×V)}{vs:List (Key×Value)},KV more rs->KV io vs->KV (xJ io more) (merged vs rs):=by
 intro more rs io vs r;unfold KV at r
 induction r generalizing io vs with
 |nil=>intro q;exact q
 |@cons p q ps qs h t ih =>
  intro r0;have e:KV (im io p.1 p.2) (stored vs q.1 q.2):=by have:=r0.put p.1 h.2;rw[<-h.1];exact this
  exact ih e
theorem tm:∀(more io:List (Key×V)),(xJ io more).length<=io.length+more.length
 |[],io=>by show io.length<=io.length+0;lia
 |p::r,io=>by have h1:=tm r (im io p.1 p.2);have h2:=jD io p.1 p.2;show(xJ (im io p.1 p.2) r).length<=_;rw[length_cons];lia
theorem AA{P:Program}{w:World}:∀{io:List (Key×V)}{ws:List (Value×Value)},VV (io.map λkv=>(kV kv.1,kv.2)) ws->∃rs,Carries (bZ P w) ws rs/\KV io rs
 |[],_,r=>by rw[List.map_nil]at r;cases r;exact⟨[],True.intro,.nil⟩
 |p::io,_,r=>by
  rw[List.map_cons]at r;cases r with
  |@cons a b as bs h t =>
   obtain⟨rs,c,q⟩:=AA (P:=P) (w:=w) t;obtain⟨b1,b2⟩:=b;exact⟨(p.1,b2)::rs,⟨zz h.1,rfl,c⟩,.cons ⟨rfl,h.2⟩ q⟩
def Ui(RV:List (TE×TE)):TE:=λσ H Q=>∀p,H p=none->IH RV σ (dl H p (.dK [])) λps H2=>H2 p=some (.dK [])/\∃io:List (Key×V),ps=io.map (λkv=>(kV kv.1,kv.2))/\io.length<=15/\Q (.ref p) (dl H2 p (.dK (xJ [] io)))
theorem RX(h:PPs X pos keys values RV)(Lh:keys.all (·.isSome)=true)(hl:keys.length=values.length)(h0:keys≠[])(h15:keys.length<=15):PE X (.Dict keys values pos) (Ui RV):=by
 intro ce s σ H Q I q;have hn:=I.cK.fresh (le_refl s.heap.objs.size);have I1:=I.laid (a:=s.heap.objs.size) (o:=.dK []) (h':=s.heap.push { cls:=.type "dict",data:=.dict #[] }) (t':=s.toks) (λ_ _ q=>Heap.get?_push_of_some _ q) (le_refl _) (Fm s.heap I.big);refine wpAny_Dict_walk (knd:=bZ X.prog X.w) Lh hl h0 h15 (cC (h ce _ σ _ _ I1 (q _ hn)) λws s2 ⟨ps,H2,I2,rel,e,io,ep,lk,q2⟩=>?_);subst ep;obtain⟨rs,c,rk⟩:=AA (P:=X.prog) (w:=X.w) rel;obtain⟨z,hd,vs0,r0,dd⟩:=Kf I2.cK e;cases r0;refine⟨rs,c,dd,λh' IG hs=>⟨.ref s.heap.objs.size,_,?_,rfl,q2⟩⟩;have hz:(xJ [] io).length<=sizeLine:=by have h1:=tm io [];rw[List.length_nil]at h1;rw[sizeLine_eq];lia
 have he:∃q,h'.get? s.heap.objs.size=some q:=let⟨q,_,_,hq,_⟩:=IG;⟨q,hq⟩;exact tF I2 (by rw[e];exact True.intro) hs he (Du hz hd (rk.merge .nil) IG)
structure M1(X:Cx)(o:Expr)(m:Str)(apos:Pos)(e:Expr)(dZ:Pos):Prop where
 base:attributeBase o m X.env (eval o X.env)=eval o X.env
 yz:((backTo dZ (starEach [e] X.env)).all (λx=>!x.1)&&(backToKw dZ (keywordEach [] X.env)).all (λx=>x.1.isSome)
  && decide (([e]:List Expr).length+([]:List Keyword).length+(if([]:List Keyword).isEmpty then 0 else 1)<30))=true
 line:(apos.endLine==dZ.line)=true
 trees:backTo dZ (starEach [e] X.env)=[(false,eval e X.env)]
structure M2(X:Cx)(o:Expr)(m:Str)(apos:Pos)(e f:Expr)(dZ:Pos):Prop where
 base:attributeBase o m X.env (eval o X.env)=eval o X.env
 yz:((backTo dZ (starEach [e,f] X.env)).all (λx=>!x.1)&&(backToKw dZ (keywordEach [] X.env)).all (λx=>x.1.isSome)
  && decide (([e,f]:List Expr).length+([]:List Keyword).length+(if([]:List Keyword).isEmpty then 0 else 1)<30))=true
 line:(apos.endLine==dZ.line)=true
 trees:backTo dZ (starEach [e,f] X.env)=[(false,eval e X.env),(false,eval f X.env)]
def ZS(H:Hp)(a:Addr):Prop:=(∃io,Rd H a (.dK io))\/∃io,Rd H a (.dT io)
theorem AB(I:Inv X ce σ H s)(d:ZS H a):
  s.TypeIs (.ref a) "dict"/\(∀b,Value.ref a=.ref b->∃ob,s.heap.get? b=some ob/\ob.dict=none)/\(a==sysModules)=false:=by
 rcases d with⟨io,e⟩|⟨io,e⟩
 ·obtain⟨_,hd,vs,_,dd⟩:=Fj I.cK e;refine⟨dd.typeIs,λb q=>?_,hd⟩;cases q;obtain⟨ob,_,_,h1,h2,_⟩:=dd;exact⟨ob,h1,h2.2.1⟩
 obtain⟨_,hd,xs,_,dd⟩:=Fk I.cK e;refine⟨dd.typeIs,λb q=>?_,hd⟩;cases q;obtain⟨ob,_,_,h1,h2,_⟩:=dd;exact⟨ob,h1,h2.2.1⟩
section
variable{d:V}{r:Value}
theorem WQ(hu:A.units+1<cLine)(I:Inv X ce σ H s)(g:uQ H a y o)(ry:RelV y u)(rd:RelV d r)(h:∀w' s',Inv X ce σ H s'->RelV (o.getD d) w'->Q w' s'):
  wpAny (model X.prog X.w) A (call (.builtin "dict.get") [.ref a,u,r]) Q E s:=by
 rcases g with⟨io,k,e,ey,l⟩|⟨io,k,b,e,ey,eb,l⟩
 ·subst ey;obtain⟨z,hd,vs,rel,dd⟩:=Fj I.cK e;refine call_meetsIn PySem.F.slot_dict_get dd.typeIs PySem.F.entry_dict_get (PySem.F.args_dict_get_3 _ _ _) (meets_dict_get_default (bZ X.prog X.w) a (zz ry) hd r) ⟨_,dd.mapOf,h _ _ (I.tok _) ?_⟩;rw[l];exact(rel.val k).getD rd
 subst ey;cases(show u=Value.ref b from ry);obtain⟨z,hd,xs,rel,dd⟩:=Fk I.cK e;refine call_meetsIn PySem.F.slot_dict_get dd.typeIs PySem.F.entry_dict_get (PySem.F.args_dict_get_3 _ _ _) (meetsH_dict_get_default (tupleKind (bZ X.prog X.w)) a b hd r) ⟨tupleKind_room_in1 hu,k,xs,z7 I.cK eb,dd,h _ _ (I.tok _) ?_⟩;rw[l];exact(rel.val k).getD rd
end
def WR(td ty tx:TE):TE:=λσ H Q=>td σ H λx H1=>∃a,x=.ref a/\ZS H1 a/\ty σ H1 λy H2=>tx σ H2 λz H3=>∃o,uQ H3 a y o/\Q (o.getD z) H3
def WS(td ty:TE):TE:=λσ H Q=>td σ H λx H1=>∃a,x=.ref a/\ZS H1 a/\ty σ H1 λy H2=>∃io k v,H2 a=some (.dK io)/\y=kV k/\jC io k=some v/\Q v (dl H2 a (.dK (zx io k)))
section
variable{o f:Expr}{td ty tx:TE}
theorem Fo(hu:X.A.units+1<cLine)(ho:PE X o td)(he:PE X e ty)(hf:PE X f tx)(m:M2 X o "get" apos e f dZ):PE X (.Call (.Attribute o "get" apos) [e,f] [] dZ) (WR td ty tx):=by
 intro ce s σ H Q I h;refine wpAny_Call_method m.base m.yz m.line PySem.F.plainAttrs_dict PySem.F.slot_dict_get PySem.F.type_dict_get (cC (ho ce s σ H _ I h) λu s1 ⟨x,H1,I1,rx,a,ex,d,q1⟩=>?_);subst ex;obtain rfl:u=Value.ref a:=rx;obtain⟨t1,t2,_⟩:=AB I1 d;refine⟨t1,t2,?_⟩;rw[m.trees];refine Calls.callWith_builtin rfl (Calls.evalArgs_plain (Calls.spliced_cons (cC (he ce s1 σ H1 _ I1 q1) λiv s2 ⟨y,H2,I2,ry,q2⟩ =>
  Calls.spliced_cons (cC (hf ce s2 σ H2 _ I2 q2) λfv s3 ⟨z,H3,I3,rz,ov,g,q3⟩=>Calls.spliced_nil ?_))))
 exact WQ hu I3 g ry rz λw' s4 I4 FV=>⟨_,H3,I4,FV,q3⟩
theorem OR(ho:PE X o td)(he:PE X e ty)(m:M1 X o "pop" apos e dZ):PE X (.Call (.Attribute o "pop" apos) [e] [] dZ) (WS td ty):=by intro ce s σ H Q I h;refine wpAny_Call_method m.base m.yz m.line PySem.F.plainAttrs_dict PySem.F.slot_dict_pop PySem.F.type_dict_pop (cC (ho ce s σ H _ I h) λu s1 ⟨x,H1,I1,rx,a,ex,d,q1⟩=>?_);subst ex;obtain rfl:u=Value.ref a:=rx;obtain⟨t1,t2,_⟩:=AB I1 d;refine⟨t1,t2,?_⟩;rw[m.trees];refine Calls.callWith_builtin rfl (Calls.evalArgs_plain (Calls.spliced_cons (cC (he ce s1 σ H1 _ I1 q1) λiv s2 ⟨y,H2,I2,ry,io,k,v,ea,ey,l,q2⟩=>Calls.spliced_nil ?_)));subst ey;exact ZO I2 ea ry l (.inl rfl) λw' s3 I3 FV=>⟨v,_,I3,FV,q2⟩
end
section
variable{io:List (Key×V)}
end
section
end
end L2
namespace Att
open PySem PySem.W PySem.Calls PyProof.Rows
section
variable{prog:Program}{w:World}{A:Around}{E:Value->Shared->Prop}{s:Shared}{K:Frag}
end
end Att
namespace L2
open PySem PySem.Spec PyProof.Rows
section
variable{P:Program}{w:World}{K:W.Frag}{mg:Str->Option Value}{base:Heap}
end
variable{X:Cx}{w:World}{k ep t x1 k1:Nat}{u v:Value}{io:List (Key×V)}{vs:List (Key×Value)}{tg l e value:Expr}{d it D f a C B:Addr}{ce:List (Addr×Obj)}{σ:St}{H:Hp}{s:Shared}{td te ty:TE}{g:Array GenState}{tt:TT}{Q E:Value->Shared->Prop}{st:Stmt}{o:Operator}{apos dZ pos pos' p1:Pos}{es:Array DictEntry}{env:Env}{c:Const}{prog:Program}{A:Around}{xs:Array Value}{L:List RQ}{h base:Heap}{os:OsState}{fd:FuncData}{ps:List Str}{sp:Sp}{x:Str}{mA mg:Str->Option Value}{ts:List (Bool×(Value->Sem Unit))}
section
end
section
variable{κ:Type}[DecidableEq κ]
end
def Xv(P:Program)(w:World)(d:Addr)(vs:List (Key×Value))(ep:Nat):HO:=.ext λh=>h.DictAt (bZ P w) d vs ep
def WT(P:Program)(w:World)(d:Addr)(io:List (Key×V))(u:HO):Prop:=io.length<=sizeLine/\(d==sysModules)=false/\∃vs ep,KV io vs/\u=Xv P w d vs ep
def Itd(d:Addr)(u:HO)(io:List (Key×V)):It where
 go:=λi H=>H d=some u/\i<io.length
 Qe:=λi H x H'=>H'=H/\∃k v,io[i]?=some (k,v)/\x=kV k
 stop:=λi H=>H d=some u/\io.length<=i
theorem WU{P:Program}{k:Key}(h:(bZ P w).is k u=true):RelV (kV k) u:=by
 rcases cS (k:=k) (v:=u) h with⟨i,t,rfl,rfl⟩|⟨x,t,rfl,rfl⟩
 ·exact⟨t,rfl⟩
 exact⟨t,rfl⟩
theorem WV(r:KV io vs){i:Nat}{k:Key}(h:vs[i]?=some (k,u)):∃v,io[i]?=some (k,v):=by
 induction r generalizing i with
 |nil=>simp at h
 |@cons p q ps qs hp t ih =>
  cases i with
  |zero=>simp at h;subst h;obtain⟨a,b⟩:=p;exact⟨b,by simp;exact hp.1⟩
  |succ i=>simp at h;obtain⟨v,e⟩:=ih h;exact⟨v,by simpa using e⟩
theorem Lw{P:Program}{K:W.Frag}(r:KV io vs):
  Turn P w K tg (Itd d (Xv P w d vs ep) io) [it] it (λi h=>h.IsKeyIter it d i vs.length ep)where
 mem:=by simp
 obj:=λi h st b hb=>by
  have e:b=it:=by simpa using hb
  subst e;obtain⟨o,e,c,dd⟩:=st;exact⟨o,e,λv z=>by rw[dd]at z;cases z⟩
 keep:=λi h h' st k=>st.at λo e=>k it (by simp) o e
 item:=by
  intro X hP hw hK hc i ce s σ H E I hf st hg;subst hP hw hK;obtain⟨hd,hi⟩:=hg;have hm:s.heap.DictAt (bZ X.prog X.w) d vs ep:=(show cZ X.prog X.w H s.heap d (Xv X.prog X.w d vs ep)from I.cK d _ hd).1;have l:=r.length;obtain⟨⟨k,v⟩,hx⟩:∃p,vs[i]?=some p:=⟨vs[i]'(by lia),by simp[show i<vs.length by lia]⟩;obtain⟨v',Yi⟩:=WV r hx;obtain⟨f0,f1,f2,f3,f4,f5⟩:=hf it (by simp);refine wpAny_pyNext_dict_item st hm hx λkey h' Vi Hd sb=>?_;have I1:Inv X ce σ H { s with heap:=h' }:=I.turned (t':=s.toks) (λb o hb e=>sb.extBut b o hb e) f0 f1 f3 f4 f5
  obtain⟨o,e,c,dd⟩:=id Hd;exact⟨key,rfl,FO (s:={ s with heap:=h' }) e c dd (by decide) ⟨kV k,H,I1,WU Vi,⟨rfl,k,v',Yi,rfl⟩,Hd,λb hb=>(hf b hb).1⟩⟩
 done:=by intro X hP hw hK hc i ce s σ H E I hf st hg;subst hP hw hK;obtain⟨hd,hi⟩:=hg;have hm:s.heap.DictAt (bZ X.prog X.w) d vs ep:=(show cZ X.prog X.w H s.heap d (Xv X.prog X.w d vs ep)from I.cK d _ hd).1;have l:=r.length;obtain⟨f0,f1,f2,f3,f4,f5⟩:=hf it (by simp);exact wpAny_pyNext_dict_end (I.ok.hd hc) st hm (by simp;lia) λh' eb=>⟨rfl,I.turned (t':=s.toks) (λb o hb e=>eb b o hb e) f0 f1 f3 f4 f5⟩
 self:=λ_ _ _ _ _ st h=>wpAny_pyIter_keyiter st h
section
theorem Inv.freeze(I:Inv X ce σ H s)(hd:H d=some (.dK io)):
  ∃vs ep,KV io vs/\io.length<=sizeLine/\(d==sysModules)=false/\s.heap.DictAt (bZ X.prog X.w) d vs ep/\Inv X ce σ (dl H d (Xv X.prog X.w d vs ep)) s:=by
 obtain⟨z,hs,vs,rel,o,es,ep,ho,r⟩:=(show cZ X.prog X.w H s.heap d (.dK io)from I.cK d _ hd);have hm:s.heap.DictAt (bZ X.prog X.w) d vs ep:=⟨o,es,ho,r⟩;refine⟨vs,ep,rel,z,hs,hm,?_⟩;exact I.write (x:=d) (e:=d) (h':=s.heap) (t':=s.toks) (by rw[hd];exact True.intro) (.inl rfl) (λ_ _ _ q=>q) ⟨o,ho⟩ ⟨hm,⟨o,ho⟩,λh1 h2 x k=>x.at' k⟩
theorem Inv.aCW{u:HO}(I:Inv X ce σ H s)(ok:WT X.prog X.w d io u)(hd:H d=some u):Inv X ce σ (dl H d (.dK io)) s:=by obtain⟨z,hs,vs,ep,rel,rfl⟩:=ok;have hm:s.heap.DictAt (bZ X.prog X.w) d vs ep:=(show cZ X.prog X.w H s.heap d (Xv X.prog X.w d vs ep)from I.cK d _ hd).1;obtain⟨o,es,ho,r⟩:=id hm;exact I.write (x:=d) (e:=d) (h':=s.heap) (t':=s.toks) (by rw[hd];exact True.intro) (.inl rfl) (λ_ _ _ q=>q) ⟨o,ho⟩ ⟨z,hs,vs,rel,hm.dictOf⟩
def ZT(P:Program)(w:World)(td:TE):TI:=λσ H R=>td σ H λx H1=>∃d io,x=.ref d/\H1 d=some (.dK io)/\∀u,WT P w d io u->R (Itd d u io) (dl H1 d u)
theorem OS(P:Program)(w:World)(hl:PE X l td)(hP:X.prog=P:=by rfl)(hw:X.w=w:=by rfl):PI X tg l (ZT P w td):=by
 subst hP hw;intro ce s σ H R I h;refine cC (hl ce s σ H _ I h) λv s1 ⟨x,H1,I1,r1,q1⟩=>?_;obtain⟨d,io,rfl,hd,q⟩:=q1;cases r1;obtain⟨vs,ep,rel,z,hs,hm,I2⟩:=I1.freeze hd;refine wpAny_pyIter_dict hs hm ?_;refine⟨s1.heap.objs.size,[s1.heap.objs.size],_,_,_,rfl,I2.kept (t':=s1.toks) λb o e=>Heap.get?_push_of_some _ e,Lw rel,⟨_,Heap.get?_push_size _ rfl,rfl,rfl⟩,λb hb=>?_,q _ ⟨z,hs,vs,ep,rel,rfl⟩⟩;have e:b=s1.heap.objs.size:=by simpa using hb
 subst e;exact I2.DX (le_refl _) (I2.cK.fresh (le_refl _))
end
section
variable{g:TG}{Q:VK}
theorem RY{u:HO}(Pv:Nat->St->Hp->Prop)(h0:Pv 0 σ H)(hl:∀i σ H,i<=io.length->Pv i σ H->H d=some u)(hs:∀(i:Nat)(k:Key)(v:V)(σ:St)(H:Hp)(N:St->Hp->Prop),(∀σ H,Pv (i+1) σ H->N σ H)->io[i]?=some (k,v)->Pv i σ H->g (kV k) σ H λσ3 H3=>tt σ3 H3 λb H4 =>
   if b=true then te σ3 H4 λv H5=>∃ys,H5 D=some (.lst ys)/\ys.length<sizeLine/\N σ3 (dl H5 D (.lst (ys++[v])))else N σ3 H4)(hd:∀σ H,Pv io.length σ H->Q (.ref D) H):tf (Itd d u io) g tt te D σ H Q:=by
 refine⟨λi m σ H=>m=io.length-i/\i<=io.length/\Pv i σ H,⟨io.length,by simp,zero_le _,h0⟩,?_⟩;rintro i m σ' H' ⟨rfl,hi,p⟩;have q1:=hl i σ' H' hi p;by_cases eI:i<io.length
 ·refine .inr ⟨⟨q1,eI⟩,λx H2 y=>?_⟩;obtain⟨rfl,k,v,ex,rfl⟩:=y;exact hs i k v σ' _ (λσ3 H3=>∃m',m'<io.length-i/\m'=io.length-(i+1)/\i+1<=io.length/\Pv (i+1) σ3 H3) (λσ3 H3 z=>⟨io.length-(i+1),by lia,rfl,eI,z⟩) ex p
 have e:i=io.length:=by lia
 subst e;exact .inl ⟨⟨q1,le_refl _⟩,hd σ' H' p⟩
end
section
def ZU(P:Program)(w:World)(t:TS):TS:=λD σ H=>t { D with nx:=λσ' H'=>∃d io u,WT P w d io u/\H' d=some u/\D.nx σ' (dl H' d (.dK io)) } σ H
theorem RZ(P:Program)(w:World){t:TS}(h:PS X st t)(hP:X.prog=P:=by rfl)(hw:X.w=w:=by rfl):PS X st (ZU P w t):=by
 subst hP hw;intro ce s σ H D I q;refine wpAny_mono (h ce s σ H _ I q) (λf s' q=>?_) λ_ _ z=>z;cases f with
 |next=>obtain⟨σ',H',I',d,io,u,ok,hd,q⟩:=q;exact⟨σ',_,I'.aCW ok hd,q⟩
 |brk=>exact q
 |cont=>exact q
 |ret u=>exact q
def ZV(td ty tx:TE):TE:=λσ H Q=>td σ H λx H1=>∃a,x=.ref a/\ZS H1 a/\ty σ H1 λy H2=>tx σ H2 λz H3=>∃io k,H3 a=some (.dK io)/\y=kV k/\io.length<sizeLine /\
 (∀v,jC io k=some v->Q v H3)/\(jC io k=none->Q z (dl H3 a (.dK (im io k z))))
theorem OT{o f:Expr}{tx:TE}(ho:PE X o td)(he:PE X e ty)(hf:PE X f tx)(m:M2 X o "setdefault" apos e f dZ):PE X (.Call (.Attribute o "setdefault" apos) [e,f] [] dZ) (ZV td ty tx):=by
 intro ce s σ H Q I h;refine wpAny_Call_method m.base m.yz m.line PySem.F.plainAttrs_dict PySem.F.slot_dict_setdefault PySem.F.type_dict_setdefault (cC (ho ce s σ H _ I h) λu s1 ⟨x,H1,I1,rx,a,ex,d,q1⟩=>?_);subst ex;obtain rfl:u=Value.ref a:=rx;obtain⟨t1,t2,_⟩:=AB I1 d;refine⟨t1,t2,?_⟩;rw[m.trees];refine Calls.callWith_builtin rfl (Calls.evalArgs_plain (Calls.spliced_cons (cC (he ce s1 σ H1 _ I1 q1) λiv s2 ⟨y,H2,I2,ry,q2⟩ =>
  Calls.spliced_cons (cC (hf ce s2 σ H2 _ I2 q2) λfv s3 ⟨z,H3,I3,rz,io,k,ea,ey,hl,q3,q4⟩=>Calls.spliced_nil ?_))))
 subst ey;obtain⟨z0,hd,vs,rel,dd⟩:=Kf I3.cK ea;refine call_meetsIn PySem.F.slot_dict_setdefault dd.typeIs PySem.F.entry_dict_setdefault (PySem.F.args_dict_setdefault_3 _ _ _) (kt_meets_setdefault (bZ X.prog X.w) a (zz ry) hd fv) ⟨vs,dd,by rw[<-rel.length];exact z0,λv hv=>?_,λhn h' IG hs=>?_⟩
 ·have rv:=rel.val k;rw[hv]at rv;cases e:jC io k with
  |none=>rw[e]at rv;exact rv.elim
  |some v'=>rw[e]at rv;exact⟨v',H3,I3.tok _,rv,q3 v' e⟩
 have rv:=rel.val k;rw[hn]at rv;cases e:jC io k with
 |some v'=>rw[e]at rv;exact rv.elim
 |none =>
  have he:∃q,h'.get? a=some q:=let⟨q,_,_,hq,_⟩:=IG;⟨q,hq⟩;exact⟨z,_,tF (t':=s3.toks+1) I3 (by rw[ea];exact True.intro) hs he (Du (le_trans (jD _ _ _) (by lia)) hd (rel.put k rz) IG),rz,q4 e⟩
end
section
variable{g:TG}{Q:VK}
end
section
variable{o:Expr}{f:Str}{ta tv:TE}
theorem ar(K:W.Frag)(he:PE X e ta)(hb:attributeBase e f X.env (eval e X.env)=eval e X.env)(hK:X.K=K:=by rfl):PE X (.Attribute e f pos) (Hm K ta f):=by subst hK;exact Vj he hb
theorem b8(K:W.Frag)(ha:PE X o ta)(hv:PE X value tv)(hs:swapsWith value (some (.Attribute o f pos')) pos.line X.env=pure false)(hK:X.K=K:=by rfl):PS X (.Assign [.Attribute o f pos'] value pos) (Nn K ta tv f):=by subst hK;exact Vk ha hv hs
end
section
end
structure wC(X:Cx)(e:Expr)(t:TE):Prop where
 out:PE X e t
structure Rc(X:Cx)(es:List Expr)(t:TA):Prop where
 out:PA X es t
section
variable{t:TA}{es Uj:List Expr}
theorem OU:starEach (.Tuple Uj x1 p1::es) env=(false,eval (.Tuple Uj x1 p1) env)::starEach es env:=rfl
theorem OV{r:Expr}:starEach (.BinOp l o r p1::es) env=(false,eval (.BinOp l o r p1) env)::starEach es env:=rfl
theorem OW:starEach (.Constant c k1 p1::es) env=(false,eval (.Constant c k1 p1) env)::starEach es env:=rfl
theorem OX{i:Int}{j:Nat}:wC X (.Constant (.int i) j pos) (tC (.int i)):=⟨aH⟩
theorem WW(h:PE X e te):wC X e te:=⟨h⟩
theorem C1(h:Rc X es t):wC X (.Tuple es x1 pos) (qW t):=⟨gT h.out⟩
theorem yX:Rc X [] iB:=⟨aD⟩
theorem jk(ha:wC X (.Tuple Uj x1 p1) te)(hr:Rc X es t):Rc X (.Tuple Uj x1 p1::es) (cA te t):=⟨aB ha.out hr.out OU⟩
theorem Rf{r:Expr}(ha:wC X (.BinOp l o r p1) te)(hr:Rc X es t):Rc X (.BinOp l o r p1::es) (cA te t):=⟨aB ha.out hr.out OV⟩
theorem Dw(ha:wC X (.Constant c k1 p1) te)(hr:Rc X es t):Rc X (.Constant c k1 p1::es) (cA te t):=⟨aB ha.out hr.out OW⟩
end
section
end
section
end
section
end
section
variable{K:W.Frag}{g:TG}
end
section
def ZW(K:W.Frag):R2:=λx y H Q=>∃a b xs ys,x=.ref a/\y=.ref b/\cT K H a xs/\cT K H b ys /\
 (∀(j:Nat)(u v:V),xs[j]?=some u->ys[j]?=some v->zw K H 8 u v)/\Q (.bl (!decide (xs.length=ys.length))) H
theorem Kg(K:W.Frag)(hu:X.A.units+16<cLine)(hK:X.K=K:=by rfl):qK X (compareOp .NotEq) (ZW K):=by
 subst hK;intro ce s σ H x y v u Q I rx ry h;obtain⟨a,b,xs,ys,rfl,rfl,ha,hb,he,q⟩:=h;cases rx;cases ry;obtain⟨az,r1,p1,_⟩:=I.tuple ha;obtain⟨iG,r2,p2,_⟩:=I.tuple hb;have l1:=r1.length;have l2:=r2.length;refine PySem.EqBoolInt.of_rcne (SeqAt.RcNeAt.tuples (e:=λ_=>true) (show s.heap.IsTuple a az.toArray from p1) (show s.heap.IsTuple b iG.toArray from p2) (by lia) λj h1 h2=>?_) ?_
 ·obtain⟨x,hx,rx⟩:=jK r1 j h1;obtain⟨y,hy,ry⟩:=jK r2 j h2;exact Dt I (he j x y hx hy) (A:=X.A.in1) (by show X.A.units+1+8<cLine;lia) rx ry
 rw[all_true,Bool.true_and];have e:(az.toArray.size==iG.toArray.size)=decide (xs.length=ys.length):=by rw[l1,l2,size_toArray,size_toArray,Bool.eq_iff_iff];simp
 rw[e];exact⟨.bl _,H,I,rfl,q⟩
end
section
end
section
end
section
end
section
variable{xs:SX}
end
section
variable{o i:Expr}{tv:TE}
end
section
end
section
end
section
end
section
variable{h0:Heap}{l:Addr}
end
section
end
section
end
section
end
theorem OY{k1 k2 k3 k4 k5 v1 v2 v3 v4 v5:Expr}{t1 t2 t3 t4 t5 u1 u2 u3 u4 u5:TE}(h1:PE X k1 t1)(g1:PE X v1 u1)(h2:PE X k2 t2)(g2:PE X v2 u2)(h3:PE X k3 t3)(g3:PE X v3 u3)(h4:PE X k4 t4)(g4:PE X v4 u4)(h5:PE X k5 t5)(g5:PE X v5 u5):
  PE X (.Dict [some k1,some k2,some k3,some k4,some k5] [v1,v2,v3,v4,v5] pos) (Ui [(t1,u1),(t2,u2),(t3,u3),(t4,u4),(t5,u5)]) :=
 RX (qp h1 g1 (qp h2 g2 (qp h3 g3 (qp h4 g4 (qp h5 g5 RW))))) rfl rfl (List.cons_ne_nil _ _) (show 5<=15 by decide)
def ZX(K:W.Frag):R2:=λx y H Q=>rNe x y H Q\/ZW K x y H Q
theorem OZ(K:W.Frag)(hu:X.A.units+16<cLine)(hK:X.K=K:=by rfl):qK X (compareOp .NotEq) (ZX K):=by
 intro ce s σ H x y v u Q I rx ry h;rcases h with h|h
 ·exact vq ce s σ H x y v u Q I rx ry h
 exact Kg K hu hK ce s σ H x y v u Q I rx ry h
section
end
section
variable{g:TG}
end
section
end
section
end
section
variable{d:Drawn}{K:W.Frag}
end
section
variable{CX:Hq}{E:XK}{p:Pos}{es:List Expr}{t:TA}
end
section
end
section
variable{d:Drawn}{K:W.Frag}{dx:Addr}{name:Str}
end
section
end
section
variable{P:Program}{K:W.Frag}
theorem jz.qY{qual:Str}{N:List Str}(F:jz K x qual st f fd)(S:aS N ps (aG st))(len:∀vs H Q E,sp vs H Q E->vs.length=ps.length)(zo:∀(f:Addr)(cB:Value)(A:Around)(outer:List Env)(s:Shared)(H:Hp)(vs:List V)(Q:VK)(E:XK),gQ k (A.deeper (envOfC qual (aG st) s.heap.objs.size f cB))->sp vs H Q E ->
   ∃t,J8 (cx1 P w K mg base N qual st f cB A outer s H E) (bV st) t/\t { nx:=λ_ H'=>Q .bw H',rt:=Q } (start N vs) H):b7 P w K mg base (iE P w) (k+1) f fd ps sp:=by
 obtain⟨oc,od,kV,doc,pm,an,cB,ct,Le,rfl,lk,HU⟩:=F.ex;exact Nu lk HU S len λA outer s H vs Q E hr NO=>zo f cB A outer s H vs Q E hr NO
end
section
theorem Uk{it l:Addr}{xs:Array Value}(ne:l≠it):∀(n i:Nat)(s:Shared)(Q:List Value->Shared->Prop),s.heap.IsListIter it l i->s.heap.IsList l xs->i+n<=xs.size ->
  (∀g,g.IsListIter it l (i+n)->Heap.SameBut it s.heap g->Q ((xs.toList.drop i).take n) { s with heap:=g })->wpAny (model prog w) A (draw (.ref it) n) Q E s
 |0,i,s,Q,a,_,_,q=>ca (by have:=q s.heap a (Heap.SameBut.refl ..);rw[List.take_zero]at this;exact this)
 |n+1,i,s,Q,a,b,le,q=>by
  have lt:i<xs.size:=lt_of_lt_of_le (Nat.lt_add_of_pos_right (Nat.succ_pos n)) le;have e1:xs.toList.drop i=xs[i]::xs.toList.drop (i+1):=by simp[List.drop_eq_getElem_cons,lt]
  show wpAny _ _ (pyNext (.ref it) >>= _) Q E s;refine bv (wpAny_pyNext_list_item a b (x:=xs[i]) (by simp[lt]) λg a1 c1=>?_);refine bv (wpAny_holding (Uk ne n (i+1) _ _ a1 (b.extBut c1.extBut ne) (by lia) λg2 a2 c2=>ca ?_));have z:=q g2 (by rw[Nat.add_comm n 1,<-Nat.add_assoc];exact a2) (c1.trans c2);rw[e1,List.take_succ_cons]at z;exact z
theorem Rg{l:Addr}{Q:Unit->Shared->Prop}(hh:A.handled=none)(b:s.heap.IsList l xs)(hn:ts.length=xs.size)(hs:ts.findIdx? (·.1)=none)(q:∀g,Heap.ExtBut s.heap.objs.size s.heap g->wpAny (model prog w) A (assignInOrder (ts.map (·.2)) xs.toList) Q E { s with heap:=g }):wpAny (model prog w) A (unpack (.ref l) ts) Q E s:=by
 have ne:l≠s.heap.objs.size:=by obtain⟨o,ho,_⟩:=b;exact ne_of_lt (Heap.lt_size ho)
 unfold unpack;rw[hn,hs];refine bv (wpAny_holding ?_);unfold unpackItems;refine bv ?_;unfold notIterableAtAll;refine bv (wpAny_specialOf b.typeIs slot_list_iter.lookup (ca ?_));simp only[Bool.false_eq_true,if_false];refine bv (wpAny_holding (wpAny_pyIter_list b ?_));refine bv (wpAny_holding (Uk ne xs.size 0 _ _ ⟨_,Heap.get?_push_size _ rfl,rfl,rfl⟩ (b.push _) (by lia) λg a1 c1=>?_));have al:(xs.toList.drop 0).take xs.size=xs.toList:=by rw[List.drop_zero];exact List.take_of_length_le (by simp)
 rw[al,if_neg (by simp)];have b1:g.IsList l xs:=(b.push _).extBut c1.extBut ne;refine bv (wpAny_holding (wpAny_pyNext_list_end hh a1 b1 (by simp) λg2 c2=>?_));simp only[Option.isSome_none,Bool.false_eq_true,if_false];exact ca (q g2 λy o hy e=>c2 y o hy (c1.extBut y o hy (Heap.get?_push_of_some _ e)))
end
def ZY(K:W.Frag)(n:Nat)(t:Q4):TG:=λv σ H Q=>∃a xs,v=.ref a/\ae K H a xs/\xs.length=n/\t xs σ H Q
theorem Kh(K:W.Frag){es:List Expr}{t:Q4}{n:Nat}(hc:X.calm=true)(h:Yb X es t)(hK:X.K=K:=by rfl)(hn:(assignEach es X.env).length=n:=by rfl)(FL:(assignEach es X.env).findIdx? (·.1)=none:=by rfl):PG X (.Tuple es k pos) (ZY K n t):=by
 subst hK;intro ce s σ H v u Q I r hw;obtain⟨a,xs,e1,hq,hl,hw⟩:=hw;subst e1;cases r;obtain⟨az,rv,ht,_⟩:=I.list hq;have hl':s.heap.IsList a az.toArray:=by obtain⟨o,n,e,c,_,d⟩:=ht;exact⟨o,e,c,n,d⟩
 rw[assign_Tuple];refine bv (wpAny_standAt (Rg (I.ok.hd hc) hl' (by simp[hn,<-hl,rv.length]) FL λg hx=>?_));have I1:Inv X ce σ H { s with heap:=g }:=I.kept (t':=s.toks) λb o e=>hx b o (ne_of_lt (Heap.lt_size e)) e
 exact h ce _ σ H xs _ Q I1 (by simpa using rv) hw
def ZZ:V->V->V->Hp->(Hp->Prop)->Prop:=λo i v H Q=>∃a H',o=.ref a/\z8 H a i v H'/\Q H'
theorem set_dict(hu:X.A.units+1<cLine):Va X ZZ:=by intro ce s σ H o i v ov iv u Q I ro ri rv h;obtain⟨a,H',rfl,g,q⟩:=h;cases ro;exact C0 hu I g ri rv λs1 I1=>⟨H',I1,q⟩
theorem Oa{K:Type}[DecidableEq K]{knd:HeapKind prog w K}{k:K}{xs:List (K×Addr×Value)}(hu:knd.room A)(hk:knd.is s.heap k a)(hm:s.heap.DictOfH knd d xs)(hz:xs.length<=sizeLine)(h0:atKey xs k=none)(q:∀g,g.DictOfH knd d (storedH xs k a v)->Heap.SameBut d s.heap g->Q v { s with heap:=g,toks:=s.toks+knd.draws k }):wpAny (model prog w) A (dictSetDefault d (.ref a) v) Q E s:=by
 obtain⟨o,es,ep,ho,hc,hd,he,his,hn⟩:=hm;unfold dictSetDefault
 try with_reducible refine wpAny_holding ?_
 refine bv (knd.pyHash hu hk ?_);refine bv (wpAny_dictFind_heap (s:={ s with toks:=s.toks+knd.draws k }) hu hk ho hd he his hn (λYp=>?_) λj p hj=>?_)
 ·have nk:k∉xs.map (·.1):=not_mem_keys_of_get Yp;have Q0:=storedH_new (a:=a) (v:=v) h0;refine bv (wpAny_rule (bv (wpAny_updateDictKeys (hz:=by have e:=size_of_entries he;lia) (s:={ s with toks:=s.toks+knd.draws k }) ho hd (ca (q _ ⟨_,_,ep+1,Heap.get?_update_self _ ho (Obj.isFreed_of_dict (Obj.data_mapDictKeys hd _)),hc.mapDictKeys _,Obj.data_mapDictKeys hd _,?_,λy hy=>?_,?_⟩ (Heap.SameBut.update ..))))))
  ·rw[Q0];simp[he,entryOfKey]
  ·rw[Q0]at hy;rcases mem_append.mp hy with y|y
   ·exact knd.keeps (his _ y) ho hd (Heap.SameBut.update s.heap d _)
   cases mem_singleton.mp y;exact knd.keeps hk ho hd (Heap.SameBut.update s.heap d _)
  rw[Q0,map_append,List.nodup_append];refine⟨hn,by simp,λx hx y hy e=>nk ?_⟩;have y1:y=k:=by simpa using hy
  rw[<-y1,<-e];exact hx
 rw[atKey_of_get hn hj]at h0;cases h0
theorem II{K:Type}[DecidableEq K](knd:HeapKind prog w K)(d a:Addr)(hd:(d==sysModules)=false)(v:Value):
  MeetsIn prog w (Builtin.«dict.setdefault» ⟨[.ref d,.ref a,v],[]⟩) (λA R s=>knd.room A.in1/\∃k xs,knd.is s.heap k a/\s.heap.DictOfH knd d xs/\xs.length<=sizeLine/\atKey xs k=none/\s.TypeIs (.ref d) "dict" /\
   ∀g,g.DictOfH knd d (storedH xs k a v)->Heap.SameBut d s.heap g->R (.ok (.ret v)) { s with heap:=g,toks:=s.toks+knd.draws k }) :=
 .of_wp λA R s ⟨hu,k,xs,hk,hm,hz,h0,ty,h⟩=>by unfold Builtin.«dict.setdefault»;refine bv ?_;unfold Builtin.Dict.keyAndDefault;refine bv (wpAny_notOrdered_dict ty (ca ?_));show wpAny _ _ (if(d==sysModules)=true then _ else(dictSetDefault d (.ref a) v >>= _)) _ _ s;rw[if_neg (λz=>by rw[hd]at z;cases z)];exact bv (Oa hu hk hm hz h0 λg g1 g2=>ca ⟨v,rfl,h g g1 g2⟩)
def WX(td ty tx:TE):TE:=λσ H Q=>td σ H λx H1=>∃a,x=.ref a/\ZS H1 a/\ty σ H1 λy H2=>tx σ H2 λz H3=>∃io k b,H3 a=some (.dT io)/\y=.ref b/\H3 b=some (.tup (k.map kV))/\io.length<sizeLine/\jC io k=none/\Q z (dl H3 a (.dT (im io k z)))
theorem Lx{o f:Expr}{tx:TE}(hu:X.A.units+1<cLine)(ho:PE X o td)(he:PE X e ty)(hf:PE X f tx)(m:M2 X o "setdefault" apos e f dZ):PE X (.Call (.Attribute o "setdefault" apos) [e,f] [] dZ) (WX td ty tx):=by
 intro ce s σ H Q I h;refine wpAny_Call_method m.base m.yz m.line PySem.F.plainAttrs_dict PySem.F.slot_dict_setdefault PySem.F.type_dict_setdefault (cC (ho ce s σ H _ I h) λu s1 ⟨x,H1,I1,rx,a,ex,d,q1⟩=>?_);subst ex;obtain rfl:u=Value.ref a:=rx;obtain⟨t1,t2,_⟩:=AB I1 d;refine⟨t1,t2,?_⟩;rw[m.trees];refine Calls.callWith_builtin rfl (Calls.evalArgs_plain (Calls.spliced_cons (cC (he ce s1 σ H1 _ I1 q1) λiv s2 ⟨y,H2,I2,ry,q2⟩ =>
  Calls.spliced_cons (cC (hf ce s2 σ H2 _ I2 q2) λfv s3 ⟨z,H3,I3,rz,io,k,b,ea,ey,eb,hl,hn,q3⟩=>Calls.spliced_nil ?_))))
 subst ey;cases(show iv=Value.ref b from ry);obtain⟨z0,hd,xs,rel,dd⟩:=Uh I3.cK ea;have hv:=rel.val k;rw[hn]at hv;have Za:atKey xs k=none:=by
  cases e:atKey xs k with
  |none=>rfl
  |some p=>rw[e]at hv;exact hv.elim
 obtain⟨ty3,_,_⟩:=AB I3 (.inr ⟨io,.inl ea⟩);refine call_meetsIn PySem.F.slot_dict_setdefault ty3 PySem.F.entry_dict_setdefault (PySem.F.args_dict_setdefault_3 _ _ _) (II (tupleKind (bZ X.prog X.w)) a b hd fv) ⟨tupleKind_room_in1 hu,k,xs,z7 I3.cK eb,dd,by rw[<-Paired.length rel];exact z0,Za,ty3,λg IG hs=>?_⟩;obtain⟨q,es,ep,hq,h2,h3,h4,_,h5⟩:=IG;refine⟨z,_,tF (ob:=.dT (im io k z)) (t':=_) I3 (by rw[ea];exact True.intro) hs ⟨q,hq⟩ ⟨le_trans (jD _ _ _) (by lia),hd,_,(rel.put k eb rz).keeps λc ys ec=>?_,q,es,ep,hq,h2,h3,h4,h5⟩,rz,q3⟩;rw[aE (UN ec ea (λz=>nomatch z))]
 exact ec
def Zb(K:W.Frag):R2:=λx y H Q=>rEq x y H Q\/ZN K x y H Q
theorem WY(K:W.Frag)(hu:X.A.units+16<cLine)(hK:X.K=K:=by rfl):qK X (compareOp .Eq) (Zb K):=by
 intro ce s σ H x y v u Q I rx ry h;rcases h with h|h
 ·exact jA ce s σ H x y v u Q I rx ry h
 exact RT K hu hK ce s σ H x y v u Q I rx ry h
end L2
namespace My
def P(a k:Int):Int:=a ^ k.toNat%97
theorem Zc(a k:Int):0<=P a k:=Int.emod_nonneg _ (by decide)
theorem WZ(a k:Int):P a k<97:=Int.emod_lt_of_pos _ (by decide)
theorem Zd:∀n<97,0<n->n ^ 95%97*n%97=1/\0<n ^ 95%97:=by decide
theorem Ul{a:Int}(h0:0<a)(h1:a<97):P a 95*a%97=1:=by
 obtain⟨n,rfl⟩:∃n:Nat,a=n:=⟨a.toNat,by lia⟩;have h:=(Zd n (by lia) (by lia)).1;show((n:Int) ^ 95%97)*n%97=1;have:(((n ^ 95%97*n%97:Nat)):Int)=1:=by rw[h];rfl
 rw[<-this];norm_cast
theorem Ly{a:Int}(h0:0<a)(h1:a<97):0<P a 95:=by
 obtain⟨n,rfl⟩:∃n:Nat,a=n:=⟨a.toNat,by lia⟩;have h:=(Zd n (by lia) (by lia)).2;show 0<((n:Int) ^ 95%97);have:(0:Int)<((n ^ 95%97:Nat):Int):=by lia
 simpa using this
theorem Fp(x:Int)(n:Nat):(x%97) ^ n%97=x ^ n%97:=by
 induction n with
 |zero=>simp
 |succ n ih=>rw[Int.pow_succ,Int.pow_succ,Int.mul_emod,ih,Int.emod_emod_of_dvd _ (Int.dvd_refl _),<-Int.mul_emod]
theorem sq(q:Int):q ^ 2=q*q:=by rw[Int.pow_succ,Int.pow_succ];simp
theorem Lz{p q a:Int}{l k:Int}(hl:0<l)(ho:l%2=1)(h:p*q ^ l.toNat%97=P a k):(p*q%97)*(q*q%97) ^ (l/2).toNat%97=P a k:=by
 rw[<-h];have e:l.toNat=2*(l/2).toNat+1:=by lia
 rw[e,Int.pow_succ,Int.pow_mul];rw[Int.mul_emod,Int.emod_emod_of_dvd _ (Int.dvd_refl _)];have e2:(q*q%97) ^ (l/2).toNat%97=(q ^ 2) ^ (l/2).toNat%97:=by rw[sq];exact Fp _ _
 rw[e2,<-Int.mul_emod]
 congr 1
 rw[Int.mul_assoc,Int.mul_comm q]
theorem IJ{p q a:Int}{l k:Int}(hl:0<l)(ho:l%2≠1)(h:p*q ^ l.toNat%97=P a k):p*(q*q%97) ^ (l/2).toNat%97=P a k:=by
 rw[<-h];have e:l.toNat=2*(l/2).toNat:=by lia
 rw[e,Int.pow_mul,Int.mul_emod];have e2:(q*q%97) ^ (l/2).toNat%97=(q ^ 2) ^ (l/2).toNat%97:=by rw[sq];exact Fp _ _
 rw[e2,<-Int.mul_emod]
theorem Fq{a k:Int}:(1:Int)*a ^ k.toNat%97=P a k:=by rw[Int.one_mul];rfl
theorem L3{p q a k l:Int}(hl:l<=0)(p0:0<=p)(p1:p<97)(h:p*q ^ l.toNat%97=P a k):p=P a k:=by
 have e:l.toNat=0:=by lia
 rw[<-h,e,Int.pow_zero,Int.mul_one];lia
end My
namespace My
def L6(a:Nat):Nat:=((List.range 96).find? λs=>5 ^ s%97==a).getD 0
theorem AD:∀a<97,0<a->L6 a<96/\5 ^ L6 a%97=a:=by decide +kernel
theorem Rh:∀s<96,L6 (5 ^ s%97)=s:=by decide +kernel
theorem IK(a:Nat)(ha:a<97)(h0:0<a)(s:Nat)(hs:s<L6 a):5 ^ s%97≠a:=by intro h;have h1:=Rh s (by have:=(AD a ha h0).1;lia);rw[h]at h1;lia
def ex(a:Int):Int:=L6 a.toNat
theorem Ob(a:Int):0<=ex a:=Int.natCast_nonneg _
theorem Ze{a:Int}(h0:0<a)(h1:a<97):ex a<=95:=by have:=(AD a.toNat (by lia) (by lia)).1;unfold ex;lia
def up(k:Int):Int:=5 ^ k.toNat%97
theorem Zf{a:Int}(h0:0<a)(h1:a<97):up (ex a)=a:=by
 have h:=(AD a.toNat (by lia) (by lia)).2;unfold up ex;rw[Int.toNat_natCast];have:((5 ^ L6 a.toNat%97:Nat):Int)=(a.toNat:Int):=by rw[h]
 rw[show a=(a.toNat:Int) by lia,Int.toNat_natCast,<-this];norm_cast
theorem Zg{a s:Int}(h0:0<a)(h1:a<97)(hs:0<=s)(hl:s<ex a):up s≠a:=by
 intro h;have:=IK a.toNat (by lia) (by lia) s.toNat (by unfold ex at hl;lia);apply this;unfold up at h;have h2:((5 ^ s.toNat%97:Nat):Int)=a:=by rw[<-h];norm_cast
 lia
theorem Wa{a b:Int}(h0:0<a)(h1:a<97)(g0:0<b)(g1:b<97):0<a*b%97:=by
 have h:∀a<97,0<a->∀b<97,0<b->0<(a*b%97:Nat):=by decide +kernel
 have q:=h a.toNat (by lia) (by lia) b.toNat (by lia) (by lia);have:a*b=((a.toNat*b.toNat:Nat):Int):=by rw[Int.natCast_mul,Int.toNat_of_nonneg (by lia),Int.toNat_of_nonneg (by lia)]
 rw[this];lia
theorem Ri{s r:Int}(hs:0<=s)(h:r=up s):r*5%97=up (s+1):=by
 subst h;unfold up;have e:(s+1).toNat=s.toNat+1:=by lia
 rw[e,Int.pow_succ,Int.mul_emod,Int.emod_emod_of_dvd _ (Int.dvd_refl _),<-Int.mul_emod]
theorem Rj:up 0=1:=by decide
end My
namespace My
def sumTo:Nat->(Nat->Int)->Int
 |0,_=>0
 |n+1,f=>sumTo n f+f n
theorem be{f g:Nat->Int}:∀(n:Nat),(∀j,j<n->f j=g j)->sumTo n f=sumTo n g
 |0,_=>rfl
 |n+1,h=>by rw[sumTo,sumTo,be n λj hj=>h j (by lia),h n (by lia)]
theorem eu(c d:Int)(f g:Nat->Int):∀(n:Nat),sumTo n (λj=>c*f j+d*g j)=c*sumTo n f+d*sumTo n g
 |0=>by simp[sumTo]
 |n+1=>by rw[sumTo,sumTo,sumTo,eu c d f g n];grind
theorem xK(c:Int)(f:Nat->Int)(n:Nat):sumTo n (λj=>c*f j)=c*sumTo n f:=by
 have h:=eu c 0 f f n;have e:sumTo n (λj=>c*f j)=sumTo n (λj=>c*f j+0*f j):=be n λj _=>by grind
 rw[e,h];grind
theorem AE(f:Nat->Int):∀(n:Nat),sumTo (n+1) f=f 0+sumTo n (λj=>f (j+1))
 |0=>by simp[sumTo]
 |n+1=>by rw[sumTo,AE f n,sumTo];lia
theorem uR{f:Nat->Int}:∀(n:Nat),(∀j,j<n->f j=0)->sumTo n f=0
 |0,_=>rfl
 |n+1,h=>by rw[sumTo,uR n λj hj=>h j (by lia),h n (by lia)];rfl
theorem C2{f:Nat->Int}(p:Nat):∀(n:Nat),p<n->(∀j,j<n->j≠p->f j=0)->sumTo n f=f p
 |0,h,_=>by lia
 |n+1,h,hz=>by
  rw[sumTo];by_cases e:p=n
  ·subst e;rw[uR p λj hj=>hz j (by lia) (by lia)];lia
  rw[C2 p n (by lia) λj hj hn=>hz j (by lia) hn,hz n (by lia) (by lia)];lia
theorem xM{f:Nat->Int}(p q:Nat):∀(n:Nat),p<q->q<n->(∀j,j<n->j≠p->j≠q->f j=0)->sumTo n f=f p+f q
 |0,_,h,_=>by lia
 |n+1,Rk,h,hz=>by
  rw[sumTo];by_cases e:q=n
  ·subst e;rw[C2 p q Rk λj hj hn=>hz j (by lia) hn (by lia)]
  rw[xM p q n Rk (by lia) λj hj hn hm=>hz j (by lia) hn hm,hz n (by lia) (by lia) (by lia)];lia
theorem nB{f:Nat->Int}:∀(n:Nat),(∀j,j<n->(97:Int) ∣ f j)->(97:Int) ∣ sumTo n f
 |0,_=>⟨0,by simp[sumTo]⟩
 |n+1,h=>by rw[sumTo];exact Int.dvd_add (nB n λj hj=>h j (by lia)) (h n (by lia))
def ip(n:Nat)(r z:Nat->Int):Int:=sumTo n λj=>r j*z j
theorem Oc(n:Nat)(c d:Int)(r s z:Nat->Int):ip n (λj=>c*r j+d*s j) z=c*ip n r z+d*ip n s z:=by unfold ip;rw[<-eu];exact be n λj _=>by grind
theorem Fu{n:Nat}{r s z:Nat->Int}(h:∀j,j<n->(97:Int) ∣ r j-s j):(97:Int) ∣ ip n r z-ip n s z:=by
 have e:ip n r z-ip n s z=sumTo n λj=>(r j-s j)*z j:=by have:=eu 1 (-1) (λj=>r j*z j) (λj=>s j*z j) n;unfold ip;rw[show sumTo n (λj=>(r j-s j)*z j)=sumTo n (λj=>1*(r j*z j)+-1*(s j*z j))from be n λj _=>by grind,this];lia
 rw[e];exact nB n λj hj=>Int.dvd_trans (h j hj) (Int.dvd_mul_right _ _)
abbrev tG:=Nat->Nat->Int
def uS(m n:Nat)(a:tG)(z:Nat->Int):Prop:=∀i,i<m->(97:Int) ∣ ip n (a i) z
def Fv(n:Nat)(a:tG):Prop:=∀z,uS n n a z->∀j,j<n->(97:Int) ∣ z j
theorem uS.congr{m n:Nat}{a b:tG}{z:Nat->Int}(h:∀i j,i<m->j<n->(97:Int) ∣ a i j-b i j)(k:uS m n a z):uS m n b z:=λi hi=>by
 have h1:=k i hi;have h2:=Fu (n:=n) (z:=z) λj hj=>h i j hi hj;have:=Int.dvd_sub h1 h2
 rwa [show ip n (a i) z-(ip n (a i) z-ip n (b i) z)=ip n (b i) z by lia]at this
theorem uS.IL{m n:Nat}{a b:tG}{z:Nat->Int}(h:∀i j,i<m->j<n->(97:Int) ∣ a i j-b i j):uS m n a z↔uS m n b z :=
 ⟨λk=>k.congr h,λk=>k.congr λi j hi hj=>by have:=Int.dvd_neg.mpr (h i j hi hj);rwa [show -(a i j-b i j)=b i j-a i j by lia]at this⟩
theorem Fv.congr{n:Nat}{a b:tG}(h:∀i j,i<n->j<n->(97:Int) ∣ a i j-b i j):Fv n a↔Fv n b:=by
 unfold Fv;constructor
 ·intro r z k;exact r z ((uS.IL h).mpr k)
 intro r z k;exact r z ((uS.IL h).mp k)
theorem Zh:∀n<97,0<n->n ^ 95%97*n%97=1:=by decide
theorem Wb{a:Int}(h:¬(97:Int) ∣ a):∃b:Int,(97:Int) ∣ a*b-1:=by
 have h1:0<a%97:=by have:a%97≠0:=λe=>h (Int.dvd_of_emod_eq_zero e);lia
 have q:=Zh (a%97).toNat (by lia) (by lia);refine⟨(((a%97).toNat ^ 95%97:Nat):Int),?_⟩;generalize(a%97).toNat ^ 95%97=b at q;have e1:((b*(a%97).toNat%97:Nat):Int)=1:=by rw[q];rfl
 have e2:((b:Int)*(a%97))%97=1:=by rw[<-e1];rw[Int.natCast_emod,Int.natCast_mul,Int.toNat_of_nonneg (by lia)];rfl
 have e3:a*(b:Int)%97=1:=by rw[Int.mul_comm,Int.mul_emod,<-e2,Int.mul_emod (b:Int) (a%97),Int.emod_emod_of_dvd _ (Int.dvd_refl _)]
 lia
theorem prime{a b:Int}(h:(97:Int) ∣ a*b)(ha:¬(97:Int) ∣ a):(97:Int) ∣ b:=by
 obtain⟨c,hc⟩:=Wb ha;have h1:(97:Int) ∣ c*(a*b):=Int.dvd_trans h (Int.dvd_mul_left _ _);have h2:(97:Int) ∣ (a*c-1)*b:=Int.dvd_trans hc (Int.dvd_mul_right _ _);have:=Int.dvd_sub h1 h2
 rwa [show c*(a*b)-(a*c-1)*b=b by grind]at this
structure Clear(n c:Nat)(t:tG):Prop where
 one:∀i,i<c->t i i=1
 qr:∀i j,i<n->j<c->i≠j->t i j=0
theorem Clear.start(n:Nat)(t:tG):Clear n 0 t:=⟨λ_ h=>by lia,λ_ _ _ h=>by lia⟩
def swap(t:tG)(p q:Nat):tG:=λi=>if i=p then t q else if i=q then t p else t i
theorem uS.swap{m n p q:Nat}{t:tG}{z:Nat->Int}(hp:p<m)(hq:q<m):uS m n (swap t p q) z↔uS m n t z:=by
 constructor
 ·intro k i hi;by_cases e1:i=p
  ·subst e1;have:=k q hq;unfold My.swap at this;by_cases e:q=i
   ·subst e;simpa using this
   rw[if_neg e,if_pos rfl]at this;exact this
  by_cases e2:i=q
  ·subst e2;have:=k p hp;unfold My.swap at this
   rwa [if_pos rfl]at this
  have:=k i hi;unfold My.swap at this
  rwa [if_neg e1,if_neg e2]at this
 intro k i hi;unfold My.swap;split
 ·exact k q hq
 split
 ·exact k p hp
 exact k i hi
def clear(t:tG)(c:Nat)(f:Int):tG:=λi j=>if i=c then t c j*f%97 else(t i j-t i c*(t c j*f%97))%97
theorem gW(a:Int):(97:Int) ∣ a%97-a:=by lia
theorem uS.clear{m n c:Nat}{t:tG}{f:Int}{z:Nat->Int}(hc:c<m)(hf:(97:Int) ∣ f*t c c-1):uS m n (clear t c f) z↔uS m n t z:=by
 have hf0:¬(97:Int) ∣ f:=λh=>by have:=Int.dvd_sub (Int.dvd_trans h (Int.dvd_mul_right f (t c c))) hf;rw[show f*t c c-(f*t c c-1)=1 by lia]at this;lia
 have Zi:uS m n (My.clear t c f) z↔uS m n (λi j=>if i=c then f*t c j+0*t c j else 1*t i j+(- (t i c*f))*t c j) z:=by
  refine uS.IL λi j _ _=>?_;unfold My.clear;by_cases e:i=c
  ·rw[if_pos e,if_pos e];have:=gW (t c j*f)
   rwa [show t c j*f%97-(f*t c j+0*t c j)=t c j*f%97-t c j*f by grind]
  rw[if_neg e,if_neg e];have h1:=gW (t i j-t i c*(t c j*f%97));have h2:(97:Int) ∣ t i c*(t c j*f%97-t c j*f):=Int.dvd_trans (gW (t c j*f)) (Int.dvd_mul_left _ _);have:=Int.dvd_sub h1 h2
  rwa [show(t i j-t i c*(t c j*f%97))%97-(t i j-t i c*(t c j*f%97))-t i c*(t c j*f%97-t c j*f)=(t i j-t i c*(t c j*f%97))%97-(1*t i j+-(t i c*f)*t c j) by grind]at this
 rw[Zi];have e1:ip n (λj=>f*t c j+0*t c j) z=f*ip n (t c) z:=by rw[Oc];lia
 have e2:∀i,ip n (λj=>1*t i j+(- (t i c*f))*t c j) z=ip n (t i) z-t i c*f*ip n (t c) z:=λi=>by rw[Oc];grind
 constructor
 ·intro k;have kc:(97:Int) ∣ ip n (t c) z:=by have:=k c hc;simp only[if_true]at this;rw[e1]at this;exact prime this hf0
  intro i hi;by_cases e:i=c
  ·subst e;exact kc
  have:=k i hi;simp only[if_neg e]at this;rw[e2]at this;have h2:(97:Int) ∣ t i c*f*ip n (t c) z:=Int.dvd_trans kc (Int.dvd_mul_left _ _);have:=Int.dvd_add this h2
  rwa [show ip n (t i) z-t i c*f*ip n (t c) z+t i c*f*ip n (t c) z=ip n (t i) z by lia]at this
 intro k i hi;by_cases e:i=c
 ·simp only[if_pos e];rw[e1];exact Int.dvd_trans (k c hc) (Int.dvd_mul_left _ _)
 simp only[if_neg e];rw[e2];exact Int.dvd_sub (k i hi) (Int.dvd_trans (k c hc) (Int.dvd_mul_left _ _))
theorem Clear.swap{n c q:Nat}{t:tG}(h:Clear n c t)(hq:c<=q)(hn:q<n):Clear n c (swap t c q):=by
 refine⟨λi hi=>?_,λi j hi hj ne=>?_⟩
 ·unfold My.swap;rw[if_neg (by lia),if_neg (by lia)];exact h.one i hi
 unfold My.swap;split
 ·exact h.qr q j hn hj (by lia)
 split
 ·exact h.qr c j (by lia) hj (by lia)
 exact h.qr i j hi hj ne
theorem Clear.clear{n c:Nat}{t:tG}{f:Int}(h:Clear n c t)(hc:c<n)(hf:(97:Int) ∣ f*t c c-1):Clear n (c+1) (clear t c f):=by
 have NL:t c c*f%97=1:=by rw[Int.mul_comm];omega
 have hz:∀j,j<c->t c j*f%97=0:=λj hj=>by rw[h.qr c j hc hj (by omega)];simp
 refine⟨λi hi=>?_,λi j hi hj ne=>?_⟩
 ·unfold My.clear;by_cases e:i=c
  ·subst e;rw[if_pos rfl,NL]
  rw[if_neg e,hz i (by omega),h.one i (by omega)];omega
 unfold My.clear;by_cases e:i=c
 ·rw[if_pos e,hz j (by omega)]
 rw[if_neg e];by_cases e2:j=c
 ·subst e2;rw[NL];simp
 rw[hz j (by omega),h.qr i j hi (by omega) ne];simp
theorem Clear.full{n:Nat}{t:tG}(h:Clear n n t)(z:Nat->Int)(i:Nat)(hi:i<n):ip (n+1) (t i) z=z i+t i n*z n:=by unfold ip;rw[xM i n (n+1) hi (by lia) λj hj n1 n2=>by rw[h.qr i j hi (by lia) (Ne.symm n1)];lia,h.one i hi];lia
theorem Clear.stuck{n c:Nat}{t:tG}(h:Clear n c t)(hc:c<n)(hz:∀i,c<=i->i<n->t i c=0):
  ∃z:Nat->Int,uS n (n+1) t z/\z c=1/\z n=0:=by
 refine⟨λj=>if j<c then-t j c else if j=c then 1 else 0,λi hi=>?_,by simp,by simp;lia⟩;have:ip (n+1) (t i) (λj=>if j<c then-t j c else if j=c then 1 else 0)=0:=by
  unfold ip;by_cases l:i<c
  ·rw[xM i c (n+1) l (by lia) λj hj n1 n2=>?_]
   ·simp[l,h.one i l];lia
   by_cases l2:j<c
   ·rw[h.qr i j hi l2 (Ne.symm n1)];simp
   simp[l2,n2]
  refine uR _ λj hj=>?_;by_cases l2:j<c
  ·rw[h.qr i j hi l2 (by lia)];simp
  by_cases e:j=c
  ·subst e;rw[hz i (by lia) hi];simp
  simp[l2,e]
 rw[this];exact⟨0,by simp⟩
theorem IM:∀(n:Nat)(al:Nat->Int)(x:Nat->Int),(∀i,i<n->¬(97:Int) ∣ al i)->(∀i j,i<n->j<n->i≠j->¬(97:Int) ∣ al i-al j) ->
  (∀j,j<n->(97:Int) ∣ sumTo n λi=>al i ^ (j+1)*x i)->∀i,i<n->(97:Int) ∣ x i
 |0,_,_,_,_,_,i,hi=>by lia
 |n+1,al,x,h0,hd,hk,i,hi=>by
  have hy:∀i,i<n->(97:Int) ∣ (al i-al n)*x i:=by
   refine IM n al (λi=>(al i-al n)*x i) (λi hi=>h0 i (by lia)) (λi j hi hj=>hd i j (by lia) (by lia)) λj hj=>?_;have h1:=hk (j+1) (by lia);have h2:(97:Int) ∣ al n*sumTo (n+1) λi=>al i ^ (j+1)*x i:=Int.dvd_trans (hk j (by lia)) (Int.dvd_mul_left _ _);have h3:=Int.dvd_sub h1 h2;have e:(sumTo (n+1) λi=>al i ^ (j+1+1)*x i)-al n*(sumTo (n+1) λi=>al i ^ (j+1)*x i)=sumTo n λi=>al i ^ (j+1)*((al i-al n)*x i):=by
    rw[sumTo,sumTo];have:=eu 1 (- al n) (λi=>al i ^ (j+1+1)*x i) (λi=>al i ^ (j+1)*x i) n;rw[show(sumTo n λi=>al i ^ (j+1)*((al i-al n)*x i))=sumTo n (λi=>1*(al i ^ (j+1+1)*x i)+- al n*(al i ^ (j+1)*x i))from be n λi _=>by rw[Int.pow_succ (al i) (j+1)];grind,this,Int.pow_succ (al n) (j+1)]
    grind
   rwa [e]at h3
  have hx:∀i,i<n->(97:Int) ∣ x i:=λi hi=>prime (hy i hi) (hd i n (by lia) (by lia) (by lia));by_cases e:i=n
  ·subst e;have h1:=hk 0 (by lia);rw[sumTo]at h1;have h2:(97:Int) ∣ sumTo i λk=>al k ^ (0+1)*x k:=nB i λk hk=>Int.dvd_trans (hx k hk) (Int.dvd_mul_left _ _);have h3:=Int.dvd_sub h1 h2;rw[show(sumTo i λk=>al k ^ (0+1)*x k)+al i ^ (0+1)*x i-(sumTo i λk=>al k ^ (0+1)*x k)=al i*x i by rw[Int.pow_succ];grind]at h3;exact prime h3 (h0 i (by lia))
  exact hx i (by lia)
end My
namespace My
def T(x:Int)(n:Nat)(f:Nat->Int):Int:=sumTo n (λi=>f i*x ^ i)%97
theorem aCX(x:Int)(n:Nat)(f:Nat->Int):0<=T x n f:=Int.emod_nonneg _ (by decide)
theorem aCY(x:Int)(n:Nat)(f:Nat->Int):T x n f<97:=Int.emod_lt_of_pos _ (by decide)
theorem Rl{x:Int}{n:Nat}{f g:Nat->Int}(h:∀i,i<n->f i=g i):T x n f=T x n g:=by unfold T;rw[be n λj hj=>by rw[h j hj]]
theorem Dx{x:Int}{n:Nat}{f:Nat->Int}:T x n f=0↔(97:Int) ∣ sumTo n (λi=>f i*x ^ i):=by unfold T;lia
def St(j:Nat):Int:=([5,25,28,43,21,8]:List Int).getD j 0
theorem aCZ:∀j:Nat,j<6->P 5 (1+(j:Int))=St j:=by decide
def hv(f:Nat->Int)(n:Nat)(x:Int):Nat->Int
 |0=>0
 |i+1=>(hv f n x i*x+f (n-1-i))%97
theorem Um(f:Nat->Int)(n:Nat)(x:Int)(i:Nat):0<=hv f n x i:=by
 cases i with
 |zero=>exact Int.le_refl _
 |succ i=>exact Int.emod_nonneg _ (by decide)
theorem Uo(f:Nat->Int)(n:Nat)(x:Int)(i:Nat):hv f n x i<97:=by
 cases i with
 |zero=>exact(by decide:(0:Int)<97)
 |succ i=>exact Int.emod_lt_of_pos _ (by decide)
theorem Od(f:Nat->Int)(n:Nat)(x:Int):∀i,i<=n->(97:Int) ∣ hv f n x i-sumTo i (λk=>f (n-i+k)*x ^ k)
 |0,_=>by simp[hv,sumTo]
 |i+1,h=>by
  obtain⟨a,ha⟩:=Od f n x i (by lia);have e:sumTo (i+1) (λk=>f (n-(i+1)+k)*x ^ k)=f (n-1-i)+x*sumTo i (λk=>f (n-i+k)*x ^ k):=by
   rw[AE,<-xK];have e1:f (n-(i+1)+0)*x ^ 0=f (n-1-i):=by rw[show n-(i+1)+0=n-1-i by lia];simp
   rw[e1]
   congr 1
   refine be i λj hj=>?_;rw[show n-(i+1)+(j+1)=n-i+j by lia,Int.pow_succ]
   grind
  rw[e,hv];generalize sumTo i (λk=>f (n-i+k)*x ^ k)=S at ha;have hq:hv f n x i=S+97*a:=by lia
  rw[hq,Int.emod_def];exact⟨a*x-((S+97*a)*x+f (n-1-i))/97,by grind⟩
theorem aDa(f:Nat->Int)(n:Nat)(x:Int):hv f n x n=T x n f:=by have h:=Od f n x n (le_refl n);rw[be n (g:=λk=>f k*x ^ k) λj hj=>by rw[show n-n+j=j by omega]]at h;have h0:=Um f n x n;have h1:=Uo f n x n;unfold T;omega
def Dv(k:Nat):Int:=([21,80,53,2,55,63]:List Int).getD k 0
def rs(f:Nat->Int):Nat->Nat->Int
 |0,_=>0
 |m+1,k=>((if k<5 then rs f m (k+1)else 0)-(rs f m 0+f m)*Dv k)%97
theorem Zj(f:Nat->Int)(m k:Nat):0<=rs f m k:=by
 cases m with
 |zero=>exact Int.le_refl _
 |succ m=>exact Int.emod_nonneg _ (by decide)
theorem Zk(f:Nat->Int)(m k:Nat):rs f m k<97:=by
 cases m with
 |zero=>exact(by decide:(0:Int)<97)
 |succ m=>exact Int.emod_lt_of_pos _ (by decide)
def six(y:Int)(r:Nat->Int):Int:=r 0+r 1*y+r 2*(y*y)+r 3*(y*y*y)+r 4*(y*y*y*y)+r 5*(y*y*y*y*y)
theorem Oe:∀j<6,(97:Int) ∣ 1+St j*six (St j) Dv:=by decide
theorem Rm{y pm S fm a b:Int}{r:Nat->Int}(ha:pm*six y r-S=97*a)(hb:1+y*six y Dv=97*b):
  (97:Int) ∣ pm*y*six y (λk=>((if k<5 then r (k+1)else 0)-(r 0+fm)*Dv k)%97)-(S+fm*pm):=by
 simp only[six]at *;simp only[show(0:Nat)<5 by decide,show(1:Nat)<5 by decide,show(2:Nat)<5 by decide,show(3:Nat)<5 by decide,show(4:Nat)<5 by decide,show ¬(5:Nat)<5 by decide,if_true,if_false,Int.emod_def];generalize(r (0+1)-(r 0+fm)*Dv 0)/97=q0;generalize(r (1+1)-(r 0+fm)*Dv 1)/97=q1;generalize(r (2+1)-(r 0+fm)*Dv 2)/97=q2;generalize(r (3+1)-(r 0+fm)*Dv 3)/97=q3;generalize(r (4+1)-(r 0+fm)*Dv 4)/97=q4;generalize((0:Int)-(r 0+fm)*Dv 5)/97=q5;generalize r 0=r0 at *;generalize r (0+1)=r1 at *;generalize r (1+1)=r2 at *;generalize r (2+1)=r3 at *;generalize r (3+1)=r4 at *;generalize r (4+1)=r5 at *;generalize Dv 0=d0 at *;generalize Dv 1=d1 at *;generalize Dv 2=d2 at *;generalize Dv 3=d3 at *;generalize Dv 4=d4 at *;generalize Dv 5=d5 at *;have e:pm*y*(r1-(r0+fm)*d0-97*q0+(r2-(r0+fm)*d1-97*q1)*y+(r3-(r0+fm)*d2-97*q2)*(y*y)+(r4-(r0+fm)*d3-97*q3)*(y*y*y)+(r5-(r0+fm)*d4-97*q4)*(y*y*y*y)+(0-(r0+fm)*d5-97*q5)*(y*y*y*y*y))-(S+fm*pm)
   = (pm*(r0+r1*y+r2*(y*y)+r3*(y*y*y)+r4*(y*y*y*y)+r5*(y*y*y*y*y))-S)-pm*(r0+fm)*(1+y*(d0+d1*y+d2*(y*y)+d3*(y*y*y)+d4*(y*y*y*y)+d5*(y*y*y*y*y)))-97*(pm*(q0*y+q1*(y*y)+q2*(y*y*y)+q3*(y*y*y*y)+q4*(y*y*y*y*y)+q5*(y*y*y*y*y*y))):=by grind
 rw[e,ha,hb];exact⟨a-pm*(r0+fm)*b-pm*(q0*y+q1*(y*y)+q2*(y*y*y)+q3*(y*y*y*y)+q4*(y*y*y*y*y)+q5*(y*y*y*y*y*y)),by grind⟩
theorem Of{y:Int}(hy:(97:Int) ∣ 1+y*six y Dv)(f:Nat->Int):∀m,(97:Int) ∣ y ^ m*six y (rs f m)-sumTo m (λi=>f i*y ^ i)
 |0=>by simp[six,rs,sumTo]
 |m+1=>by obtain⟨a,ha⟩:=Of hy f m;obtain⟨b,hb⟩:=hy;rw[sumTo,Int.pow_succ];exact Rm ha hb
def nC(f:Nat->Int)(i:Nat):Int:=if i<18 then f i else -(rs f 18 (i-18))%97
theorem Ro{f:Nat->Int}(h:∀i,i<18->0<=f i/\f i<97)(i:Nat):0<=nC f i/\nC f i<97:=by
 unfold nC;split
 ·rename_i h1;exact h i h1
 exact⟨Int.emod_nonneg _ (by decide),Int.emod_lt_of_pos _ (by decide)⟩
theorem C3(f:Nat->Int)(n:Nat):∀m,sumTo (n+m) f=sumTo n f+sumTo m (λi=>f (n+i))
 |0=>by simp[sumTo]
 |m+1=>by rw[<-Nat.add_assoc,sumTo,C3 f n m,sumTo];lia
theorem Rp(y:Int)(r:Nat->Int):sumTo 6 (λk=>r k*y ^ k)=six y r:=by
 simp only[sumTo,six,Int.pow_succ,Int.pow_zero]
 grind
theorem Rq{y:Int}(hy:(97:Int) ∣ 1+y*six y Dv)(f:Nat->Int):T y 24 (nC f)=0:=by
 rw[Dx,show(24:Nat)=18+6 from rfl,C3];have e1:sumTo 18 (λi=>nC f i*y ^ i)=sumTo 18 (λi=>f i*y ^ i):=be 18 λj hj=>by rw[nC,if_pos hj]
 have e2:sumTo 6 (λi=>nC f (18+i)*y ^ (18+i))=y ^ 18*six y (λk=>-(rs f 18 k)%97):=by
  rw[<-Rp,<-xK];refine be 6 λj hj=>?_;rw[nC,if_neg (by lia),Int.pow_add,show 18+j-18=j by lia]
  grind
 rw[e1,e2];obtain⟨a,ha⟩:=Of hy f 18;generalize sumTo 18 (λi=>f i*y ^ i)=S at *;generalize y ^ 18=pm at *;generalize rs f 18=r at *;simp only[six,Int.emod_def]at *;generalize(-(r 0))/97=q0;generalize(-(r 1))/97=q1;generalize(-(r 2))/97=q2;generalize(-(r 3))/97=q3;generalize(-(r 4))/97=q4;generalize(-(r 5))/97=q5;refine⟨-a-pm*(q0+q1*y+q2*(y*y)+q3*(y*y*y)+q4*(y*y*y*y)+q5*(y*y*y*y*y)),?_⟩
 grind
def dO(f:Nat->Int):Prop:=∀j,j<6->T (St j) 24 f=0
theorem Dy(f:Nat->Int):dO (nC f):=λj hj=>Rq (Oe j hj) f
theorem gX{y:Int}(h:¬(97:Int) ∣ y):∀n:Nat,¬(97:Int) ∣ y ^ n
 |0=>by rw[Int.pow_zero];decide
 |n+1=>λz=>by rw[Int.pow_succ]at z;exact h (prime z (gX h n))
end My
namespace My
def fk(n:Nat)(f g:Nat->Int):List Nat:=(List.range n).filter λi=>!decide (f i=g i)
theorem L7(n:Nat)(f g:Nat->Int):fk (n+1) f g=if f n=g n then fk n f g else fk n f g++[n]:=by unfold fk;rw[List.range_succ,List.filter_append];by_cases h:f n=g n<;>simp[h]
theorem cM{n:Nat}{f g:Nat->Int}{i:Nat}:i∈fk n f g↔i<n/\f i≠g i:=by unfold fk;simp
theorem iI(n:Nat)(f g:Nat->Int):(fk n f g).Nodup:=List.Pairwise.filter _ List.nodup_range
def lsum(l:List Nat)(h:Nat->Int):Int:=sumTo l.length λk=>h (l.getD k 0)
theorem lsum_snoc(l:List Nat)(n:Nat)(h:Nat->Int):lsum (l++[n]) h=lsum l h+h n:=by
 unfold lsum;rw[length_append,List.length_singleton,sumTo]
 congr 1
 ·refine be _ λj hj=>?_;simp[List.getD,getElem?_append_left hj]
 simp[List.getD]
theorem Og(n:Nat)(f g:Nat->Int)(h:Nat->Int)(hz:∀i,i<n->f i=g i->h i=0):sumTo n h=lsum (fk n f g) h:=by
 induction n with
 |zero=>rfl
 |succ n ih =>
  rw[sumTo,ih λi hi=>hz i (by lia),L7];by_cases e:f n=g n
  ·rw[if_pos e,hz n (by lia) e];lia
  rw[if_neg e,lsum_snoc]
theorem Wc:∀j:Nat,j<6->St j=5 ^ (j+1)%97:=by decide
theorem j0:¬(97:Int) ∣ 5:=by decide
theorem AF:∀p:Nat,p<24->∀q:Nat,q<24->p≠q->¬(97:Int) ∣ 5 ^ p-5 ^ q:=by decide +kernel
theorem Ki{a b:Int}(h:(97:Int) ∣ a-b):∀n:Nat,(97:Int) ∣ a ^ n-b ^ n
 |0=>by simp
 |n+1=>by
  obtain⟨c,hc⟩:=h;obtain⟨d,hd⟩:=Ki ⟨c,hc⟩ n;rw[Int.pow_succ,Int.pow_succ];exact⟨d*a+b ^ n*c,by have e:a ^ n*a-b ^ n*b=(a ^ n-b ^ n)*a+b ^ n*(a-b):=(by grind);rw[e,hd,hc];grind⟩
theorem wD{j p:Nat}(hj:j<6):(97:Int) ∣ St j ^ p-(5 ^ p) ^ (j+1):=by
 have h:(97:Int) ∣ St j-5 ^ (j+1):=by rw[Wc j hj];exact gW _
 have:=Ki h p
 rwa [<-Int.pow_mul,Nat.mul_comm,Int.pow_mul]at this
theorem Oh{l:List Nat}{z:Nat->Int}(hn:l.Nodup)(hb:∀p∈l,p<24)(hl:l.length<=6)(hs:∀j,j<l.length->(97:Int) ∣ lsum l λp=>z p*St j ^ p):∀p∈l,(97:Int) ∣ z p:=by
 intro p hp;obtain⟨k,hk,rfl⟩:=List.getElem_of_mem hp;have e:∀k,(h:k<l.length)->l.getD k 0=l[k]:=λk h=>by simp[List.getD,h]
 rw[<-e k hk];refine IM l.length (λk=>5 ^ l.getD k 0) (λk=>z (l.getD k 0)) (λi _=>gX j0 _) (λi j hi hj hij=>?_) (λj hj=>?_) k hk
 ·refine AF _ (hb _ (by rw[e i hi];exact List.getElem_mem _)) _ (hb _ (by rw[e j hj];exact List.getElem_mem _)) λq=>hij ?_;rw[e i hi,e j hj]at q;exact(List.getElem_inj hn).mp q
 have h1:=hs j hj;unfold lsum at h1;have h2:(97:Int) ∣ (sumTo l.length λk=>(5 ^ l.getD k 0) ^ (j+1)*z (l.getD k 0))-sumTo l.length λk=>z (l.getD k 0)*St j ^ l.getD k 0:=by
  have h3:=eu 1 (-1) (λk=>(5 ^ l.getD k 0) ^ (j+1)*z (l.getD k 0)) (λk=>z (l.getD k 0)*St j ^ l.getD k 0) l.length;have h4:(97:Int) ∣ sumTo l.length λk=>1*((5 ^ l.getD k 0) ^ (j+1)*z (l.getD k 0))+-1*(z (l.getD k 0)*St j ^ l.getD k 0):=nB _ λk _=>by obtain⟨c,hc⟩:=wD (p:=l.getD k 0) (show j<6 by lia);refine⟨-(c*z (l.getD k 0)),?_⟩;generalize St j ^ l.getD k 0=A at *;generalize((5:Int) ^ l.getD k 0) ^ (j+1)=B at *;have:B=A-97*c:=(by lia);rw[this];grind
  rw[h3]at h4;have e5:∀a b:Int,1*a+-1*b=a-b:=λa b=>by lia
  rw[e5]at h4;exact h4
 have h5:=Int.dvd_add h2 h1
 rwa [Int.sub_add_cancel]at h5
theorem Fw{n:Nat}{f g:Nat->Int}(y:Int):sumTo n (λi=>f i*y ^ i)-sumTo n (λi=>g i*y ^ i)=lsum (fk n f g) λi=>(f i-g i)*y ^ i:=by
 rw[<-Og n f g _ λi _ e=>by rw[e];grind];have h1:=eu 1 (-1) (λi=>f i*y ^ i) (λi=>g i*y ^ i) n;have h2:sumTo n (λj=>1*(f j*y ^ j)+-1*(g j*y ^ j))=sumTo n λi=>(f i-g i)*y ^ i:=be n λj _=>by grind
 rw[<-h2,h1];lia
theorem Up{f g:Nat->Int}(bf:∀i,i<24->0<=f i/\f i<97)(bg:∀i,i<24->0<=g i/\g i<97)(hf:dO f)(hg:dO g)(h:(fk 24 f g).length<=6):∀i,i<24->f i=g i:=by
 intro i hi;apply Classical.byContradiction;intro Fh;have hm:i∈fk 24 f g:=cM.mpr ⟨hi,Fh⟩;have:=Oh (z:=λi=>f i-g i) (iI _ _ _) (λp hp=>(cM.mp hp).1) h (λj hj=>by have h1:=Dx.mp (hf j (by omega));have h2:=Dx.mp (hg j (by omega));rw[<-Fw];exact Int.dvd_sub h1 h2) i hm
 have b1:=bf i hi;have b2:=bg i hi;omega
theorem dO.congr{f g:Nat->Int}(h:∀i,i<24->f i=g i)(hf:dO f):dO g:=λj hj=>by rw[<-Rl h];exact hf j hj
end My
namespace My
theorem iJ:∀(l L:List Nat),l.Nodup->(∀x∈l,x∈L)->l.length<=L.length
 |[],_,_,_=>zero_le _
 |a::l,L,hn,hs=>by have ha:=hs a mem_cons_self;have VW:=List.nodup_cons.mp hn;have:=iJ l (L.erase a) VW.2 λx hx=>(List.mem_erase_of_ne (λe=>VW.1 (by rw[<-e];exact hx))).mpr (hs x (mem_cons_of_mem _ hx));rw[List.length_erase_of_mem ha]at this;have hp:0<L.length:=List.length_pos_of_mem ha;rw[length_cons];lia
theorem Fx(n:Nat)(f g:Nat->Int):(fk n f g).Pairwise (·<·):=List.Pairwise.filter _ List.pairwise_lt_range
theorem eR{p q:Nat}(hp:p<24)(hq:q<24)(h:p≠q):¬(97:Int) ∣ 5 ^ p-5 ^ q:=AF p hp q hq h
def M(s:Nat->Int):tG:=λi j=>if j=0 then s (i+1)else -(s i)%97
theorem Zl(s z:Nat->Int)(i:Nat):(97:Int) ∣ ip 2 (M s i) z-(s (i+1)*z 0-s i*z 1):=by
 have e:ip 2 (M s i) z=s (i+1)*z 0+-(s i)%97*z 1:=by simp[ip,sumTo,M]
 rw[e,Int.emod_def];exact⟨-((-(s i))/97*z 1),by grind⟩
theorem IP{s:Nat->Int}(h:¬(97:Int) ∣ s 0*s 2-s 1*s 1):Fv 2 (M s):=λz hz j hj=>by
 have k0:=Int.dvd_sub (hz 0 (by decide)) (Zl s z 0);have k1:=Int.dvd_sub (hz 1 (by decide)) (Zl s z 1);rw[Int.sub_sub_self]at k0 k1;obtain⟨a,ha⟩:=k0;obtain⟨b,hb⟩:=k1
 match j,hj with
 |0,_ =>
  refine prime (a:=s 0*s 2-s 1*s 1) ⟨s 0*b-s 1*a,?_⟩ h;have e:(s 0*s 2-s 1*s 1)*z 0=s 0*(s (1+1)*z 0-s 1*z 1)-s 1*(s (0+1)*z 0-s 0*z 1):=by grind
  rw[e,ha,hb];grind
 |1,_ =>
  refine prime (a:=s 0*s 2-s 1*s 1) ⟨s 1*b-s 2*a,?_⟩ h;have e:(s 0*s 2-s 1*s 1)*z 1=s 1*(s (1+1)*z 0-s 1*z 1)-s 2*(s (0+1)*z 0-s 0*z 1):=by grind
  rw[e,ha,hb];grind
theorem Rr{s:Nat->Int}{X:Int}(h0:(97:Int) ∣ s 1-s 0*X)(h1:(97:Int) ∣ s 2-s 1*X):¬Fv 2 (M s):=λr=>by
 have:=r (λj=>if j=0 then 1 else X) (λi hi=>by
  have k:=Zl s (λj=>if j=0 then 1 else X) i;have h:(97:Int) ∣ s (i+1)*(if(0:Nat)=0 then 1 else X)-s i*(if(1:Nat)=0 then 1 else X):=by
   match i,hi with
   |0,_=>simpa using h0
   |1,_=>simpa using h1
  have:=Int.dvd_add k h
  rwa [Int.sub_add_cancel]at this) 0 (by decide)
 have h1:(97:Int) ∣ 1:=this;exact absurd h1 (by decide)
theorem Rt{s:Nat->Int}{e d X Y:Int}(h:∀j,j<4->(97:Int) ∣ s j-(e*X ^ (j+1)+d*Y ^ (j+1))):(97:Int) ∣ (s 0*s 2-s 1*s 1)-e*d*(X*Y)*((X-Y)*(X-Y)):=by
 obtain⟨a,ha⟩:=h 0 (by decide);obtain⟨b,hb⟩:=h 1 (by decide);obtain⟨c,hc⟩:=h 2 (by decide);simp only[Int.pow_succ,Int.pow_zero,Int.one_mul,Nat.zero_add]at ha hb hc;have e0:s 0=e*X+d*Y+97*a:=by lia
 have e1:s 1=e*(X*X)+d*(Y*Y)+97*b:=by lia
 have e2:s 2=e*(X*X*X)+d*(Y*Y*Y)+97*c:=by lia
 rw[e0,e1,e2];exact⟨(e*X+d*Y)*c+a*(e*(X*X*X)+d*(Y*Y*Y))+97*a*c-2*(e*(X*X)+d*(Y*Y))*b-97*b*b,by grind⟩
theorem Oi{s x:Nat->Int}{e d X Y:Int}(r:Fv 2 (M s))(h:∀j,j<4->(97:Int) ∣ s j-(e*X ^ (j+1)+d*Y ^ (j+1)))(hx:∀i,i<2->(97:Int) ∣ ip 2 (M s i) x-s (i+2)):
  (97:Int) ∣ x 0-(X+Y)/\(97:Int) ∣ x 1-X*Y:=by
 have k:uS 2 2 (M s) λj=>if j=0 then x 0-(X+Y)else x 1-X*Y:=λi hi=>by
  have k1:=Zl s (λj=>if j=0 then x 0-(X+Y)else x 1-X*Y) i;have k2:=Int.dvd_sub (hx i hi) (Zl s x i);have k3:(97:Int) ∣ s (i+2)-(s (i+1)*(X+Y)-s i*(X*Y)):=by obtain⟨a,ha⟩:=h i (by lia);obtain⟨b,hb⟩:=h (i+1) (by lia);obtain⟨c,hc⟩:=h (i+2) (by lia);rw[Int.pow_succ X (i+2),Int.pow_succ X (i+1),Int.pow_succ Y (i+2),Int.pow_succ Y (i+1)]at hc;rw[Int.pow_succ X (i+1),Int.pow_succ Y (i+1)]at hb;generalize X ^ (i+1)=A at *;generalize Y ^ (i+1)=B at *;have e0:s i=e*A+d*B+97*a:=(by lia);have e1:s (i+1)=e*(A*X)+d*(B*Y)+97*b:=(by lia);have e2:s (i+2)=e*(A*X*X)+d*(B*Y*Y)+97*c:=(by lia);rw[e0,e1,e2];exact⟨c-b*(X+Y)+a*(X*Y),by grind⟩
  have e1:(if(0:Nat)=0 then x 0-(X+Y)else x 1-X*Y)=x 0-(X+Y):=rfl;have e2:(if(1:Nat)=0 then x 0-(X+Y)else x 1-X*Y)=x 1-X*Y:=rfl;rw[e1,e2]at k1;generalize ip 2 (M s i) (λj=>if j=0 then x 0-(X+Y)else x 1-X*Y)=I at *;generalize ip 2 (M s i) x=J at *;obtain⟨a,ha⟩:=k1;obtain⟨b,hb⟩:=k2;obtain⟨c,hc⟩:=k3;refine⟨a+b+c,?_⟩;have:I=97*a+(s (i+1)*(x 0-(X+Y))-s i*(x 1-X*Y)):=by lia
  have e3:s (i+1)*(x 0-(X+Y))-s i*(x 1-X*Y)=(s (i+1)*x 0-s i*x 1)-(s (i+1)*(X+Y)-s i*(X*Y)):=by grind
  lia
 exact⟨r _ k 0 (by decide),r _ k 1 (by decide)⟩
def Kj(t u:Int)(k:Nat):Bool:=decide ((P 5 k*P 5 k-t*P 5 k+u)%97=0)
def roots(t u:Int):List Nat:=(List.range 24).filter (Kj t u)
theorem P5(k:Nat):(97:Int) ∣ P 5 k-5 ^ k:=by unfold P;rw[Int.toNat_natCast];exact gW _
theorem Oj{t u X Y:Int}{k:Nat}(ht:(97:Int) ∣ t-(X+Y))(hu:(97:Int) ∣ u-X*Y):Kj t u k=true↔(97:Int) ∣ (5 ^ k-X)*(5 ^ k-Y):=by
 obtain⟨a,ha⟩:=ht;obtain⟨b,hb⟩:=hu;obtain⟨c,hc⟩:=P5 k;unfold Kj;rw[decide_eq_true_iff];generalize(5:Int) ^ k=V at *;have e0:t=X+Y+97*a:=by omega
 have e1:u=X*Y+97*b:=by omega
 have e2:P 5 k=V+97*c:=by omega
 have e3:P 5 k*P 5 k-t*P 5 k+u=(V-X)*(V-Y)+97*(2*V*c+97*c*c-(X+Y)*c-a*(V+97*c)+b):=by rw[e0,e1,e2];grind
 rw[e3];generalize(V-X)*(V-Y)=W;omega
theorem L8(t u:Int):(roots t u).length<=2:=by
 apply Classical.byContradiction;intro h;have hl:2<(roots t u).length:=by lia
 have nd:(roots t u).Nodup:=List.Pairwise.filter _ List.nodup_range;have at_:∀(i:Nat)(hi:i<(roots t u).length),(roots t u)[i]<24/\(97:Int) ∣ 5 ^ (roots t u)[i]*5 ^ (roots t u)[i]-t*5 ^ (roots t u)[i]+u:=λi hi=>by
  have hm:(roots t u)[i]∈roots t u:=List.getElem_mem _;generalize(roots t u)[i]=k at hm;unfold roots at hm;rw[List.mem_filter,List.mem_range]at hm;refine⟨hm.1,?_⟩;have h2:=of_decide_eq_true hm.2;obtain⟨c,hc⟩:=P5 k;generalize(5:Int) ^ k=V at *;have e2:P 5 k=V+97*c:=by lia
  have e3:P 5 k*P 5 k-t*P 5 k+u=V*V-t*V+u+97*(2*V*c+97*c*c-t*c):=by rw[e2];grind
  lia
 obtain⟨a0,a1⟩:=at_ 0 (by lia);obtain⟨b0,b1⟩:=at_ 1 (by lia);obtain⟨c0,c1⟩:=at_ 2 (by lia);have n01:(roots t u)[0]≠(roots t u)[1]:=λe=>absurd ((List.getElem_inj nd).mp e) (by decide);have n02:(roots t u)[0]≠(roots t u)[2]:=λe=>absurd ((List.getElem_inj nd).mp e) (by decide);have n12:(roots t u)[1]≠(roots t u)[2]:=λe=>absurd ((List.getElem_inj nd).mp e) (by decide);have f01:=eR a0 b0 n01;have f02:=eR a0 c0 n02;have f12:=eR b0 c0 n12;generalize(5:Int) ^ (roots t u)[0]=A at *;generalize(5:Int) ^ (roots t u)[1]=B at *;generalize(5:Int) ^ (roots t u)[2]=C at *;have k1:(97:Int) ∣ (A-B)*(A+B-t):=by
  have:=Int.dvd_sub a1 b1
  rwa [show A*A-t*A+u-(B*B-t*B+u)=(A-B)*(A+B-t) by grind]at this
 have k2:(97:Int) ∣ (A-C)*(A+C-t):=by
  have:=Int.dvd_sub a1 c1
  rwa [show A*A-t*A+u-(C*C-t*C+u)=(A-C)*(A+C-t) by grind]at this
 have k3:=prime k1 f01;have k4:=prime k2 f02;have:=Int.dvd_sub k3 k4;rw[show A+B-t-(A+C-t)=B-C by lia]at this;exact f12 this
theorem IQ:∀p:Nat,p<24->∀q:Nat,q<24->p<q->(List.range 24).filter (λk=>decide (k=p\/k=q))=[p,q]:=by decide +kernel
structure Ol(s:Nat->Int)(ps:List Nat):Prop where
 nd:ps.Nodup
 b:∀p∈ps,p<24
 yz:ps.length<=2
 one:∀(e:Int)(p:Nat),p<24->¬(97:Int) ∣ e->(∀j,j<4->(97:Int) ∣ s j-e*(5 ^ p) ^ (j+1))->ps=[p]
 two:∀(e d:Int)(p q:Nat),p<q->q<24->¬(97:Int) ∣ e->¬(97:Int) ∣ d->(∀j,j<4->(97:Int) ∣ s j-(e*(5 ^ p) ^ (j+1)+d*(5 ^ q) ^ (j+1)))->ps=[p,q]
theorem IS{s:Nat->Int}{e X:Int}(h:∀j,j<4->(97:Int) ∣ s j-e*X ^ (j+1))(j:Nat)(hj:j<3):(97:Int) ∣ s (j+1)-s j*X:=by
 obtain⟨a,ha⟩:=h j (by lia);obtain⟨b,hb⟩:=h (j+1) (by lia);rw[Int.pow_succ X (j+1)]at hb;generalize X ^ (j+1)=A at *;have e0:s j=e*A+97*a:=by lia
 have e1:s (j+1)=e*(A*X)+97*b:=by lia
 rw[e0,e1];exact⟨b-a*X,by grind⟩
theorem jE{a b:Int}(ha:¬(97:Int) ∣ a)(hb:¬(97:Int) ∣ b):¬(97:Int) ∣ a*b:=λz=>hb (prime z ha)
theorem Ru{s:Nat->Int}{e d:Int}{p q:Nat}(Rk:p<q)(hq:q<24)(he:¬(97:Int) ∣ e)(hd:¬(97:Int) ∣ d)(h:∀j,j<4->(97:Int) ∣ s j-(e*(5 ^ p) ^ (j+1)+d*(5 ^ q) ^ (j+1))):Fv 2 (M s):=by refine IP λz=>?_;have k:=Int.dvd_sub z (Rt h);rw[Int.sub_sub_self]at k;have f:=eR (by lia:p<24) hq (by lia);exact jE (jE (jE he hd) (jE (gX j0 p) (gX j0 q))) (jE f f) k
theorem Om{s x:Nat->Int}(r:Fv 2 (M s))(hx:∀i,i<2->(97:Int) ∣ ip 2 (M s i) x-s (i+2)):Ol s (roots (x 0) (x 1))where
 nd:=List.Pairwise.filter _ List.nodup_range
 b:=λp hp=>List.mem_range.mp (List.mem_filter.mp hp).1
 yz:=L8 _ _
 one:=λe p hp he h=>absurd r (Rr (X:=5 ^ p) (IS h 0 (by decide)) (IS h 1 (by decide)))
 two:=λe d p q Rk hq he hd h=>by
  obtain⟨ht,hu⟩:=Oi r h hx;rw[<-IQ p (by lia) q hq Rk];unfold roots;apply List.filter_congr;intro k hk;have Rv:=List.mem_range.mp hk;rw[Bool.eq_iff_iff,Oj ht hu,decide_eq_true_iff];constructor
  ·intro z;apply Classical.byContradiction;intro n;exact jE (eR Rv (by lia) λe=>n (.inl e)) (eR Rv hq λe=>n (.inr e)) z
  rintro(e|e)
  ·rw[e,Int.sub_self,Int.zero_mul];exact Int.dvd_zero _
  rw[e,Int.sub_self,Int.mul_zero];exact Int.dvd_zero _
def qv(s:Nat->Int):List Nat:=if s 0=0\/s 1=0 then[]else if ex (s 1*P (s 0) 95%97)<24 then[(ex (s 1*P (s 0) 95%97)).toNat]else[]
theorem Wd:∀p:Nat,p<24->ex ((5:Int) ^ p%97)=p:=by decide +kernel
theorem Rx{s:Nat->Int}(bs:∀j,j<4->0<=s j/\s j<97)(r:¬Fv 2 (M s)):Ol s (qv s)where
 nd:=by
  unfold qv;split
  ·exact List.nodup_nil
  split<;>simp
 b:=λp hp=>by
  unfold qv at hp;split at hp
  ·cases hp
  split at hp
  ·have:=mem_singleton.mp hp;rename_i h;have:=Ob (s 1*P (s 0) 95%97);lia
  cases hp
 yz:=by
  unfold qv;split
  ·exact zero_le _
  split<;>simp
 one:=λe p hp he h=>by
  have b0:=bs 0 (by decide);have b1:=bs 1 (by decide);have u0:¬(97:Int) ∣ s 0:=λz=>by have:=Int.dvd_sub z (h 0 (by decide));rw[Int.sub_sub_self]at this;exact jE he (gX (gX j0 p) _) this
  have u1:¬(97:Int) ∣ s 1:=λz=>by have:=Int.dvd_sub z (h 1 (by decide));rw[Int.sub_sub_self]at this;exact jE he (gX (gX j0 p) _) this
  have n0:s 0≠0:=λz=>u0 (by rw[z];exact Int.dvd_zero _);have n1:s 1≠0:=λz=>u1 (by rw[z];exact Int.dvd_zero _);have hv:s 1*P (s 0) 95%97=5 ^ p%97:=by
   have k:=IS h 0 (by decide);have i:=Ul (a:=s 0) (by lia) b0.2;obtain⟨c,hc⟩:=k;have e1:s 1=s 0*5 ^ p+97*c:=by have:s (0+1)=s 1:=rfl;lia
   have e2:P (s 0) 95*s 0=1+97*(P (s 0) 95*s 0/97):=(by lia);generalize P (s 0) 95*s 0/97=m at e2;generalize(5:Int) ^ p=V at *;have e3:s 1*P (s 0) 95=V+97*(m*V+c*P (s 0) 95):=by rw[e1];have:(s 0*V+97*c)*P (s 0) 95=(P (s 0) 95*s 0)*V+97*(c*P (s 0) 95):=(by grind);rw[this,e2];grind
   lia
  unfold qv;rw[if_neg (by lia),hv,Wd p hp,if_pos (by lia),Int.toNat_natCast]
 two:=λe d p q Rk hq he hd h=>absurd (Ru Rk hq he hd h) r
structure qZ(f g:Nat->Int):Prop where
 b:∀i,i<24->0<=g i/\g i<97
 sealed:dO g
 yz:(fk 24 f g).length<=2
theorem C4{f g:Nat->Int}(h:qZ f g){j:Nat}(hj:j<6):(97:Int) ∣ T (St j) 24 f-lsum (fk 24 f g) λi=>(f i-g i)*St j ^ i:=by rw[<-Fw];have h1:=Dx.mp (h.sealed j hj);unfold T;omega
theorem Fy{f g:Nat->Int}{ps:List Nat}(bf:∀i,i<24->0<=f i/\f i<97)(h:qZ f g)(hn:¬dO f)(hp:Ol (λj=>T (St j) 24 f) ps):ps=fk 24 f g:=by
 have hs:=λ(j:Nat)(hj:j<4)=>C4 h (show j<6 by omega);have hm:∀i,i∈fk 24 f g->i<24/\¬(97:Int) ∣ f i-g i:=λi hi=>by obtain⟨h1,h2⟩:=cM.mp hi;have:=bf i h1;have:=h.b i h1;exact⟨h1,by omega⟩
 have so:=Fx 24 f g;have yz:=h.yz
 match hl:fk 24 f g with
 |[] =>
  exfalso;refine hn (h.sealed.congr λi hi=>?_);apply Classical.byContradiction;intro z;have:=cM.mpr ⟨hi,λe=>z e.symm⟩;rw[hl]at this;cases this
 |[p] =>
  rw[hl]at hs hm;obtain⟨p0,p1⟩:=hm p (by simp);refine hp.one (f p-g p) p p0 p1 λj hj=>?_;have k:=hs j hj;have e:lsum [p] (λi=>(f i-g i)*St j ^ i)=(f p-g p)*St j ^ p:=by simp[lsum,sumTo]
  rw[e]at k;obtain⟨c,hc⟩:=wD (p:=p) (show j<6 by omega);obtain⟨a,ha⟩:=k;generalize St j ^ p=A at *;generalize((5:Int) ^ p) ^ (j+1)=B at *;have e2:A=B+97*c:=by omega
  rw[e2]at ha;exact⟨a+(f p-g p)*c,by have:(f p-g p)*(B+97*c)=(f p-g p)*B+97*((f p-g p)*c):=(by grind);omega⟩
 |[p,q] =>
  rw[hl]at hs hm so;obtain⟨p0,p1⟩:=hm p (by simp);obtain⟨q0,q1⟩:=hm q (by simp);have Rk:p<q:=by simpa using so
  refine hp.two (f p-g p) (f q-g q) p q Rk q0 p1 q1 λj hj=>?_;have k:=hs j hj;have e:lsum [p,q] (λi=>(f i-g i)*St j ^ i)=(f p-g p)*St j ^ p+(f q-g q)*St j ^ q:=by simp[lsum,sumTo]
  rw[e]at k;obtain⟨c,hc⟩:=wD (p:=p) (show j<6 by omega);obtain⟨d,hd⟩:=wD (p:=q) (show j<6 by omega);obtain⟨a,ha⟩:=k;generalize St j ^ p=A at *;generalize((5:Int) ^ p) ^ (j+1)=B at *;generalize St j ^ q=C at *;generalize((5:Int) ^ q) ^ (j+1)=D at *;have e2:A=B+97*c:=by omega
  have e3:C=D+97*d:=by omega
  rw[e2,e3]at ha;exact⟨a+(f p-g p)*c+(f q-g q)*d,by have:(f p-g p)*(B+97*c)=(f p-g p)*B+97*((f p-g p)*c):=(by grind);have:(f q-g q)*(D+97*d)=(f q-g q)*D+97*((f q-g q)*d):=(by grind);omega⟩
 |_::_::_::_=>rw[hl]at yz;simp at yz
def AG(f:Nat->Int)(ps:List Nat)(x:Nat->Int):Nat->Nat->Int
 |0=>f
 |k+1=>λj=>if j=ps.getD k 0 then(AG f ps x k (ps.getD k 0)-x k)%97 else AG f ps x k j
theorem Oo{f:Nat->Int}(ps:List Nat)(x:Nat->Int)(bf:∀i,i<24->0<=f i/\f i<97):∀k i,i<24->0<=AG f ps x k i/\AG f ps x k i<97
 |0,i,hi=>bf i hi
 |k+1,i,hi=>by
  unfold AG;split
  ·exact⟨Int.emod_nonneg _ (by decide),Int.emod_lt_of_pos _ (by decide)⟩
  exact Oo ps x bf k i hi
theorem Dz(f:Nat->Int)(ps:List Nat)(x:Nat->Int):∀k,k<=ps.length->∀i,i∉ps->AG f ps x k i=f i
 |0,_,i,_=>rfl
 |k+1,hk,i,hi=>by unfold AG;rw[if_neg λe=>hi (by rw[e];simp[List.getD,show k<ps.length by lia]),Dz f ps x k (by lia) i hi]
theorem getD_get{ps:List Nat}{k:Nat}(h:k<ps.length):ps.getD k 0=ps[k]:=by simp[List.getD,h]
theorem Oq(f:Nat->Int){ps:List Nat}(nd:ps.Nodup)(x:Nat->Int):∀k,k<=ps.length->(∀i,i<k->AG f ps x k (ps.getD i 0)=(f (ps.getD i 0)-x i)%97)/\∀i,k<=i->i<ps.length->AG f ps x k (ps.getD i 0)=f (ps.getD i 0)
 |0,_=>⟨λi hi=>by lia,λi _ _=>rfl⟩
 |k+1,hk=>by
  obtain⟨h1,h2⟩:=Oq f nd x k (by lia);have ne:∀i,i<ps.length->i≠k->ps.getD i 0≠ps.getD k 0:=λi hi hik e=>by rw[getD_get hi,getD_get (by lia)]at e;exact hik ((List.getElem_inj nd).mp e)
  refine⟨λi hi=>?_,λi hi hl=>?_⟩
  ·unfold AG;by_cases e:i=k
   ·subst e;rw[if_pos rfl,h2 i (le_refl _) (by lia)]
   rw[if_neg (ne i (by lia) e),h1 i (by lia)]
  unfold AG;rw[if_neg (ne i hl (by lia)),h2 i (by lia) hl]
theorem Kk{ps:List Nat}(nd:ps.Nodup)(hb:∀p∈ps,p<24):Fv ps.length (λi q=>P 5 ((ps.getD q 0:Nat)*(1+(i:Int)))):=by
 have hg:∀q,q<ps.length->ps.getD q 0<24:=λq hq=>by rw[getD_get hq];exact hb _ (List.getElem_mem _)
 refine(Fv.congr (b:=λi q=>((5:Int) ^ ps.getD q 0) ^ (i+1)) λi q hi hq=>?_).mpr ?_
 ·have e:((ps.getD q 0:Nat)*(1+(i:Int))).toNat=ps.getD q 0*(i+1):=by have:((ps.getD q 0:Nat):Int)*(1+(i:Int))=((ps.getD q 0*(i+1):Nat):Int):=(by rw[Int.natCast_mul,Int.natCast_add];congr 1;lia);rw[this,Int.toNat_natCast]
  show(97:Int) ∣ (5:Int) ^ ((ps.getD q 0:Nat)*(1+(i:Int))).toNat%97-_;rw[e,Int.pow_mul];exact gW _
 intro z hz i hi;refine IM ps.length (λq=>(5:Int) ^ ps.getD q 0) z (λi _=>gX j0 _) (λi j hi hj hij=>eR (hg i hi) (hg j hj) λe=>?_) hz i hi;rw[getD_get hi,getD_get hj]at e;exact hij ((List.getElem_inj nd).mp e)
theorem Zm{n:Nat}{a:tG}{b x y:Nat->Int}(hr:Fv n a)(hx:∀i,i<n->(97:Int) ∣ ip n (a i) x-b i)(hy:∀i,i<n->(97:Int) ∣ ip n (a i) y-b i):∀i,i<n->(97:Int) ∣ x i-y i:=by
 intro i hi;refine hr (λj=>x j-y j) (λi hi=>?_) i hi;have e:ip n (a i) (λj=>x j-y j)=ip n (a i) x-ip n (a i) y:=by have:=eu 1 (-1) (λj=>a i j*x j) (λj=>a i j*y j) n;unfold ip;rw[show sumTo n (λj=>a i j*(x j-y j))=sumTo n (λj=>1*(a i j*x j)+-1*(a i j*y j))from be n λj _=>by grind,this];lia
 rw[e];have:=Int.dvd_sub (hx i hi) (hy i hi)
 rwa [show ip n (a i) x-b i-(ip n (a i) y-b i)=ip n (a i) x-ip n (a i) y by lia]at this
theorem IT{f g x:Nat->Int}{ps:List Nat}(bf:∀i,i<24->0<=f i/\f i<97)(h:qZ f g)(hn:¬dO f)(hp:Ol (λj=>T (St j) 24 f) ps)(hx:∀i,i<ps.length->(97:Int) ∣ ip ps.length (λq=>P 5 ((ps.getD q 0:Nat)*(1+(i:Int)))) x-T (St i) 24 f):∀i,i<24->AG f ps x ps.length i=g i:=by
 have e:=Fy bf h hn hp;have yz:=hp.yz;have hy:∀i,i<ps.length->(97:Int) ∣ ip ps.length (λq=>P 5 ((ps.getD q 0:Nat)*(1+(i:Int)))) (λq=>f (ps.getD q 0)-g (ps.getD q 0))-T (St i) 24 f:=λi hi=>by
  have k:=C4 h (j:=i) (by omega);rw[<-e]at k;have k2:(97:Int) ∣ ip ps.length (λq=>P 5 ((ps.getD q 0:Nat)*(1+(i:Int)))) (λq=>f (ps.getD q 0)-g (ps.getD q 0))-lsum ps λi'=>(f i'-g i')*St i ^ i':=by
   have h1:=eu 1 (-1) (λq=>P 5 ((ps.getD q 0:Nat)*(1+(i:Int)))*(f (ps.getD q 0)-g (ps.getD q 0))) (λq=>(f (ps.getD q 0)-g (ps.getD q 0))*St i ^ ps.getD q 0) ps.length;have h2:(97:Int) ∣ sumTo ps.length λq=>1*(P 5 ((ps.getD q 0:Nat)*(1+(i:Int)))*(f (ps.getD q 0)-g (ps.getD q 0)))+-1*((f (ps.getD q 0)-g (ps.getD q 0))*St i ^ ps.getD q 0):=nB _ λq _=>by
    have ee:((ps.getD q 0:Nat)*(1+(i:Int))).toNat=ps.getD q 0*(i+1):=by have:((ps.getD q 0:Nat):Int)*(1+(i:Int))=((ps.getD q 0*(i+1):Nat):Int):=(by rw[Int.natCast_mul,Int.natCast_add];congr 1;omega);rw[this,Int.toNat_natCast]
    have h3:(97:Int) ∣ P 5 ((ps.getD q 0:Nat)*(1+(i:Int)))-(5 ^ ps.getD q 0) ^ (i+1):=by unfold P;rw[ee,Int.pow_mul];exact gW _
    obtain⟨a,ha⟩:=h3;obtain⟨c,hc⟩:=wD (p:=ps.getD q 0) (show i<6 by omega);generalize P 5 ((ps.getD q 0:Nat)*(1+(i:Int)))=A at *;generalize((5:Int) ^ ps.getD q 0) ^ (i+1)=B at *;generalize St i ^ ps.getD q 0=C at *;have e1:A=B+97*a:=(by omega);have e2:C=B+97*c:=(by omega);rw[e1,e2];exact⟨(f (ps.getD q 0)-g (ps.getD q 0))*(a-c),by grind⟩
   rw[h1]at h2;have e5:∀a b:Int,1*a+-1*b=a-b:=λa b=>(by omega);rw[e5]at h2;exact h2
  have:=Int.dvd_sub k2 k;omega
 have hu:=Zm (Kk hp.nd hp.b) hx hy;intro i hi;by_cases hm:i∈ps
 ·obtain⟨k,hk,rfl⟩:=List.getElem_of_mem hm;have h1:=(Oq f hp.nd x ps.length (le_refl _)).1 k hk;rw[getD_get hk]at h1;rw[h1];have h2:=hu k hk;rw[getD_get hk]at h2;have h3:=h.b ps[k] hi;omega
 rw[Dz f ps x ps.length (le_refl _) i hm];apply Classical.byContradiction;intro z;exact hm (by rw[e];exact cM.mpr ⟨hi,z⟩)
theorem IU{f x:Nat->Int}{ps:List Nat}(bf:∀i,i<24->0<=f i/\f i<97)(nd:ps.Nodup)(yz:ps.length<=2)(hs:dO (AG f ps x ps.length)):qZ f (AG f ps x ps.length)where
 b:=Oo ps x bf ps.length
 sealed:=hs
 yz:=le_trans (iJ _ ps (iI _ _ _) λi hi=>by apply Classical.byContradiction;intro z;exact(cM.mp hi).2 (Dz f ps x ps.length (le_refl _) i z).symm) yz
theorem qZ.self{f:Nat->Int}(bf:∀i,i<24->0<=f i/\f i<97)(h:dO f):qZ f f:=⟨bf,h,by
 have e:fk 24 f f=[]:=by simp[fk]
 rw[e];exact zero_le _⟩
end My
set_option genInjectivity false
namespace K90
open PySem L2 PyProof.Rows
theorem zz0:0<=sizeLine:=by decide
theorem zz1:1<=sizeLine:=by decide
theorem zz2:2<=sizeLine:=by decide
theorem zz3:3<=sizeLine:=by decide
theorem zz4:4<=sizeLine:=by decide
theorem zz6:6<=sizeLine:=by decide
theorem zz7:7<=sizeLine:=by decide
def top(i:Nat):Stmt:=PySem.Challenge.pw_stormpost_k90_whole_sharp_silences.main.body.getD i (.Pass ⟨0,0,0,0⟩)
abbrev tH:Stmt:=top 12
abbrev lW:Stmt:=top 13
abbrev lX:Stmt:=top 14
abbrev zQ:Stmt:=top 15
abbrev tI:Stmt:=top 16
abbrev oK:Stmt:=top 17
abbrev kD:Stmt:=top 18
abbrev i0:Stmt:=top 19
abbrev lY:Stmt:=top 20
abbrev kE:Stmt:=top 21
abbrev j4:Stmt:=top 22
abbrev nE:Stmt:=top 23
abbrev jl:Stmt:=top 29
abbrev lZ:Stmt:=top 30
abbrev oM:Stmt:=top 31
abbrev kF:Stmt:=top 32
abbrev lg:Stmt:=top 33
abbrev nF:Stmt:=top 34
abbrev qw:Stmt:=top 35
abbrev lh:Stmt:=top 42
abbrev gY:Stmt:=top 43
abbrev jm:Stmt:=top 44
abbrev lj:Stmt:=top 45
abbrev qx:Stmt:=top 46
abbrev oN:Stmt:=top 47
abbrev jo:Stmt:=top 49
abbrev tJ:Stmt:=top 50
abbrev di:Stmt:=top 51
abbrev kG:Stmt:=top 52
abbrev wF:Stmt:=top 53
abbrev i6:Stmt:=top 54
abbrev gZ:Stmt:=top 56
abbrev gg:Stmt:=top 57
abbrev jq:Stmt:=top 67
abbrev wG:Stmt:=top 70
abbrev tK:Stmt:=top 73
abbrev kH:Stmt:=top 74
abbrev jF:Stmt:=top 75
abbrev gh:Stmt:=top 77
abbrev jr:Stmt:=top 78
abbrev js:Stmt:=top 79
abbrev eS:Stmt:=top 80
abbrev jt:Stmt:=top 81
abbrev ju:Stmt:=top 82
abbrev jv:Stmt:=top 83
abbrev dG:Stmt:=top 84
abbrev jw:Stmt:=top 85
abbrev oO:Stmt:=top 86
abbrev oP:Stmt:=top 87
abbrev C5:Stmt:=top 88
def cP:Stmt->List Stmt
 |.ClassDef _ _ _ b _ _ _ _ _ _ _=>b
 |_=>[]
abbrev iK:Stmt:=(cP (top 71)).getD 0 (.Pass ⟨0,0,0,0⟩)
abbrev xN:Stmt:=(cP (top 68)).getD 0 (.Pass ⟨0,0,0,0⟩)
abbrev cj:Stmt:=(cP (top 68)).getD 1 (.Pass ⟨0,0,0,0⟩)
abbrev qy:Stmt:=(cP (top 68)).getD 2 (.Pass ⟨0,0,0,0⟩)
abbrev e9:Stmt:=(cP (top 68)).getD 3 (.Pass ⟨0,0,0,0⟩)
abbrev xO:Stmt:=(cP (top 68)).getD 4 (.Pass ⟨0,0,0,0⟩)
abbrev xP:Stmt:=(cP (top 68)).getD 5 (.Pass ⟨0,0,0,0⟩)
abbrev j5:Stmt:=(cP (top 68)).getD 6 (.Pass ⟨0,0,0,0⟩)
abbrev nG:Stmt:=(cP (top 68)).getD 7 (.Pass ⟨0,0,0,0⟩)
abbrev fA:Stmt:=(cP (top 68)).getD 8 (.Pass ⟨0,0,0,0⟩)
abbrev fB:Stmt:=(cP (top 68)).getD 9 (.Pass ⟨0,0,0,0⟩)
abbrev fD:Stmt:=(cP (top 68)).getD 10 (.Pass ⟨0,0,0,0⟩)
abbrev C6:Stmt:=(cP (top 68)).getD 11 (.Pass ⟨0,0,0,0⟩)
abbrev L9:Stmt:=(cP (top 68)).getD 12 (.Pass ⟨0,0,0,0⟩)
abbrev tL:Stmt:=(cP (top 68)).getD 13 (.Pass ⟨0,0,0,0⟩)
abbrev nH:Stmt:=(cP (top 68)).getD 14 (.Pass ⟨0,0,0,0⟩)
abbrev xQ:Stmt:=(cP (top 71)).getD 1 (.Pass ⟨0,0,0,0⟩)
abbrev qz:Stmt:=(cP (top 71)).getD 2 (.Pass ⟨0,0,0,0⟩)
abbrev wH:Stmt:=(cP (top 71)).getD 3 (.Pass ⟨0,0,0,0⟩)
structure Ad where
 Air:Addr
 BadCell:Addr
 BadFate:Addr
 BadMeasure:Addr
 BadPiece:Addr
 BadSign:Addr
 DIVISOR:Addr
 LinkEnd:Addr
 NoLink:Addr
 rA:Addr
 init:Addr
 ck:Addr
 AH:Addr
 gi:Addr
 AI:Addr
 AJ:Addr
 nI:Addr
 nJ:Addr
 gj:Addr
 gm:Addr
 gn:Addr
 Fz:Addr
 MA:Addr
 tM:Addr
 rB:Addr
 AK:Addr
 AL:Addr
 F3:Addr
structure Txt(K:W.Frag)(mg:Str->Option Value)(t:Ad):Prop where
 wI:∃tk,mg "BIRTH_SIGNS"=some (.int 2 tk)
 MB:∃tk,mg "COUNT_AT"=some (.int 5 tk)
 wJ:∃tk,mg "FREE_PLACES"=some (.int 18 tk)
 C7:∃tk,mg "KNOWN_AT"=some (.int 2 tk)
 IV:∃tk,mg "LENGTH_AT"=some (.int 6 tk)
 rC:∃tk,mg "LONGEST_PIECE"=some (.int 10 tk)
 Bb:∃tk,mg "MENDED_TURNS"=some (.int 2 tk)
 rD:∃tk,mg "MOST_ARRIVALS"=some (.int 3 tk)
 AM:∃tk,mg "MOST_LATE"=some (.int 6 tk)
 AN:∃tk,mg "MOST_LOST"=some (.int 4 tk)
 yY:∃tk,mg "MOST_TURNS"=some (.int 4 tk)
 tN:∃tk,mg "NO_BIRTH"=some (.int 0 tk)
 AO:∃tk,mg "NUMBER_AT"=some (.int 4 tk)
 C8:∃tk,mg "PIECE_AT"=some (.int 7 tk)
 zR:∃tk,mg "PLACES"=some (.int 24 tk)
 Kl:∃tk,mg "ROOT"=some (.int 5 tk)
 cQ:∃tk,mg "SIGNS"=some (.int 97 tk)
 Km:∃tk,mg "SUMS"=some (.int 6 tk)
 Kn:mg "any"=none
 gI:mg "len"=none
 rE:mg "list"=none
 Zn:mg "max"=none
 eF:mg "range"=none
 AQ:mg "reversed"=none
 Ko:mg "zip"=none
 aDd:mg "Air"=some (.ref t.Air)
 F4:mg "BadCell"=some (.ref t.BadCell)
 rF:mg "BadFate"=some (.ref t.BadFate)
 yZ:mg "BadMeasure"=some (.ref t.BadMeasure)
 C9:mg "BadPiece"=some (.ref t.BadPiece)
 AR:mg "BadSign"=some (.ref t.BadSign)
 Ot:mg "DIVISOR"=some (.ref t.DIVISOR)
 Ou:mg "LinkEnd"=some (.ref t.LinkEnd)
 Ry:mg "NoLink"=some (.ref t.NoLink)
 F5:W.excIn K t.BadCell [.type "ValueError",.type "Exception",.type "BaseException",.type "object"] "ValueError.__new__"=true
 Zo:xG K t.BadCell
 rG:W.excIn K t.BadFate [.type "ValueError",.type "Exception",.type "BaseException",.type "object"] "ValueError.__new__"=true
 Zp:xG K t.BadFate
 ya:W.excIn K t.BadMeasure [.type "ValueError",.type "Exception",.type "BaseException",.type "object"] "ValueError.__new__"=true
 Uq:xG K t.BadMeasure
 DF:W.excIn K t.BadPiece [.type "ValueError",.type "Exception",.type "BaseException",.type "object"] "ValueError.__new__"=true
 Xw:xG K t.BadPiece
 AS:W.excIn K t.BadSign [.type "ValueError",.type "Exception",.type "BaseException",.type "object"] "ValueError.__new__"=true
 Zq:xG K t.BadSign
 Rz:W.excIn K t.NoLink [.type "ValueError",.type "Exception",.type "BaseException",.type "object"] "ValueError.__new__"=true
 aBw:xG K t.NoLink
 F6:WK K t.DIVISOR [V.int (21),V.int (80),V.int (53),V.int (2),V.int (55),V.int (63)]
 aDe:Mk K t.Air t.rA
 We:∃fd,jz K "__init__" "Air.__init__" iK t.rA fd
 Ov:Mk K t.LinkEnd t.init
 fi:∃fd,jz K "__init__" "LinkEnd.__init__" xN t.init fd
 AU:La K t.Air
 Kp:cb K t.Air "late"
 F7:cb K t.Air "asked"
 nK:cb K t.Air "coming"
 R0:mz K t.Air "give" t.AK
 Wf:∃fd,jz K "give" "Air.give" xQ t.AK fd
 R1:mz K t.Air "come" t.AL
 Wg:∃fd,jz K "come" "Air.come" qz t.AL fd
 Xx:mz K t.Air "flying" t.F3
 Zr:∃fd,jz K "flying" "Air.flying" wH t.F3 fd
 aM:La K t.LinkEnd
 AV:cb K t.LinkEnd "quiet"
 Kq:cb K t.LinkEnd "side"
 zS:cb K t.LinkEnd "done"
 oQ:cb K t.LinkEnd "unheard"
 nL:cb K t.LinkEnd "birth"
 gq:cb K t.LinkEnd "known"
 gz:cb K t.LinkEnd "pair"
 oR:cb K t.LinkEnd "told"
 iL:cb K t.LinkEnd "pieces"
 oS:cb K t.LinkEnd "offered"
 rH:cb K t.LinkEnd "taken"
 nM:mz K t.LinkEnd "forget_pieces" t.ck
 y0:∃fd,jz K "forget_pieces" "LinkEnd.forget_pieces" cj t.ck fd
 R3:mz K t.LinkEnd "tick" t.AH
 Wi:∃fd,jz K "tick" "LinkEnd.tick" qy t.AH fd
 Be:mz K t.LinkEnd "cell_given" t.gi
 D0:∃fd,jz K "cell_given" "LinkEnd.cell_given" e9 t.gi fd
 R4:mz K t.LinkEnd "read" t.AI
 Wj:∃fd,jz K "read" "LinkEnd.read" xO t.AI fd
 R5:mz K t.LinkEnd "meet" t.AJ
 Wk:∃fd,jz K "meet" "LinkEnd.meet" xP t.AJ fd
 IW:mz K t.LinkEnd "come_up" t.nI
 MC:∃fd,jz K "come_up" "LinkEnd.come_up" j5 t.nI fd
 DG:mz K t.LinkEnd "end_up" t.nJ
 Ow:∃fd,jz K "end_up" "LinkEnd.end_up" nG t.nJ fd
 Bf:mz K t.LinkEnd "start_over" t.gj
 D8:∃fd,jz K "start_over" "LinkEnd.start_over" fA t.gj fd
 Bg:mz K t.LinkEnd "hear_count" t.gm
 EA:∃fd,jz K "hear_count" "LinkEnd.hear_count" fB t.gm fd
 Bh:mz K t.LinkEnd "take_piece" t.gn
 EB:∃fd,jz K "take_piece" "LinkEnd.take_piece" fD t.gn fd
 Wl:mz K t.LinkEnd "put" t.Fz
 Zs:∃fd,jz K "put" "LinkEnd.put" C6 t.Fz fd
 Ur:mz K t.LinkEnd "up" t.MA
 aDf:∃fd,jz K "up" "LinkEnd.up" L9 t.MA fd
 F8:mz K t.LinkEnd "waits" t.tM
 R6:∃fd,jz K "waits" "LinkEnd.waits" tL t.tM fd
 MD:mz K t.LinkEnd "events" t.rB
 Ox:∃fd,jz K "events" "LinkEnd.events" nH t.rB fd
section
variable{P:Program}{w:World}{K:W.Frag}{mg:Str->Option Value}{base:Heap}{t:Ad}
variable{f z:Nat->Int}{x tA pA a ea:Addr}{ps:List Nat}{o:Option (Int×Int)}{pv:V}{B H:Hp}{iA:Nat->Addr}{vs:List V}{ns:List Int}{fd GR:FuncData}
def oT:Sp:=λvs H Q _=>∃n:Int,vs=[.int n]/\Q (.bl (decide (0<=n/\n<97))) H
theorem ac{N P:List Str}{sc:Scope}(a:sc.kind=.function:=by rfl)(b:sc.isCoroutine=false:=by rfl)(c:sc.isGenerator=false:=by rfl)(d:N.Nodup:=by decide +kernel)(e:N.take P.length=P:=by rfl)(f:∀x∈P,sc.names.lookup x=some .local\/sc.names.lookup x=some .cell:=by decide +kernel)(g:∀y∈sc.names,y.2≠.free:=by decide +kernel):aS N P sc:=⟨a,b,c,d,e,f,g⟩
theorem IX:aS ["number"] ["number"] (aG tH):=ac
theorem ad{α:Type}{f g:List Value->α}(h:∀a0,f [a0]=g [a0]):∀us:List Value,us.length=1->f us=g us
 |[a0],_=>h a0
theorem am{α:Type}{f g:List Value->α}(h:∀a0 a1,f [a0,a1]=g [a0,a1]):∀us:List Value,us.length=2->f us=g us
 |[a0,a1],_=>h a0 a1
theorem ap{α:Type}{f g:List Value->α}(h:∀a0 a1 a2,f [a0,a1,a2]=g [a0,a1,a2]):∀us:List Value,us.length=3->f us=g us
 |[a0,a1,a2],_=>h a0 a1 a2
theorem bd{α:Type}{f g:List Value->α}(h:∀a0 a1 a2 a3,f [a0,a1,a2,a3]=g [a0,a1,a2,a3]):∀us:List Value,us.length=4->f us=g us
 |[a0,a1,a2,a3],_=>h a0 a1 a2 a3
theorem IY(F:aO K mg "is_sign" tH)(T:Txt K mg t):Def P w K mg base 1 "is_sign" ["number"] oT:=by
 refine F.def IX (λ_ _ _ _ _ _=>ad λ_=>rfl) (λvs H Q E h=>?_) (λf cB A outer s H vs Q E hr h=>?_)
 ·obtain⟨n,rfl,_⟩:=h;rfl
 obtain⟨n,rfl,q⟩:=h;refine⟨_,aF (ah (Nk qL lQ aH (pv 0) (aW T.cQ))),?_⟩;refine⟨_,rfl,_,_,rfl,rfl,_,rfl,?_⟩;by_cases h0:0<=n
 ·rw[decide_eq_true h0];refine iD ⟨_,_,rfl,rfl,?_⟩;have e:decide (n<97)=decide (0<=n/\n<97):=by simp[h0]
  show Q (.bl (decide (n<97))) H;rw[e];exact q
 rw[decide_eq_false h0];refine dX ?_;have e:false=decide (0<=n/\n<97):=by simp[h0]
 show Q (.bl false) H;rw[e];exact q
def DH(m:Int)(ns:List Int):Prop:=(ns.length:Int)=m/\∀n∈ns,0<=n/\n<97
def l9(K:W.Frag)(C:Addr):Sp:=λvs H Q E=>∃(l:Addr)(ns:List Int)(m:Int),vs=[.ref l,.int m]/\ae K H l (ns.map V.int)/\(∀n∈ns,n.natAbs<2 ^ 1000)/\m.natAbs<2 ^ 1000 /\
 (DH m ns->Q .bw H)/\(¬DH m ns->E (.ref C) none H)
theorem g6{i:Int}(h:i.natAbs<2 ^ 1000):(Str.ofString (toString i)).length<=1001:=by
 have hl:i.natAbs.log2<1000:=by
  by_cases z:i.natAbs=0
  ·rw[z];decide
  exact(Nat.log2_lt z).mpr h
 have e:=int_text_length_le (k:=1000) (by decide) hl;rw[PySem.ofString_length];lia
theorem tp:aS ["signs","many","sign"] ["signs","many"] (aG jl):=ac
theorem Bi(F:aO K mg "look_signs" jl)(T:Txt K mg t)(iM:Def P w K mg base 1 "is_sign" ["number"] oT):Def P w K mg base 2 "look_signs" ["signs","many"] (l9 K t.BadCell):=by
 refine F.def tp (λ_ _ _ _ _ _=>am λ_ _=>rfl) (λvs H Q E h=>?_) (λf cB A outer s H vs Q E hr h=>?_)
 ·obtain⟨l,ns,m,rfl,_⟩:=h;rfl
 obtain⟨l,ns,m,rfl,hl,hb,hm,q1,q2⟩:=h;refine⟨_,aC (bO (aZ vq (bP (bY K) (by rfl) T.gI boot_len (aB (pv 0) aD)) (pv 1) (af _))
   (aF (cV aw rfl rfl T.F4 T.F5 PySem.F.excBase_ValueError (aB (eY (bD (cY (pv 1)) (bD aU iF))) aD)))
   (aj))
  (aF (cO (OA aw) rfl (bz K (pv 0)) (au (i:=2) tp.nd rfl (Or.inl rfl))
   (aF (bO (fh (jJ (aY (iM.mono (by decide)) hr av (aB (pv 2) aD))))
    (aF (cV aw rfl rfl T.F4 T.F5 PySem.F.excBase_ValueError (aB (eY (bD (cY (pv 2)) (bD aU iF))) aD)))
    (aj))))),?_⟩
 have sl:(2000:Nat)<=sizeLine:=by decide
 refine⟨_,rfl,l,_,rfl,.inl hl,_,rfl,rfl,_,rfl,?_⟩;by_cases jp:(ns.length:Int)=m
 ·refine jg (by rw[length_map,jp]) ?_;refine⟨_,rfl,l,rfl,⟨_,hl⟩,gS (K:=K) (a:=l) (xs:=ns.map V.int) (λi σ H'=>∃x:Option V,σ=[some (.ref l),some (.int m),x]/\H'=H/\∀n∈ns.take i,0<=n/\n<97) ⟨none,rfl,rfl,λn hn=>by simp at hn⟩ (λi σ H' _ ⟨_,_,e,_⟩=>by rw[e];exact hl) ?_ ?_⟩
  ·rintro i y σ H' hi ⟨x,rfl,rfl,ha⟩;obtain⟨z,hz,rfl⟩:=jj hi;have Wm:z∈ns:=mem_of_getElem? hz;refine⟨_,rfl,z,rfl,_,rfl,?_⟩;by_cases h0:0<=z/\z<97
   ·rw[decide_eq_true h0];refine dX ⟨some (.int z),rfl,rfl,?_⟩;rw[take_succ hz];intro n hn;rcases mem_append.mp hn with z1|z1
    ·exact ha n z1
    rw[mem_singleton.mp z1];exact h0
   rw[decide_eq_false h0];refine iD ?_;have hzl:=g6 (hb z Wm);have e0:(Str.empty++Str.ofString (toString z)).length<=1001:=(by rw[strLen_append];show 0+_<=1001;lia);have e1:((Str.empty++Str.ofString (toString z))++(" is no sign":Str)).length<=2000:=by have:(" is no sign":Str).length=11:=(by decide +kernel);rw[strLen_append];lia
   refine⟨_,rfl,z,rfl,dw (hb z Wm) (by decide) (by decide),_,rfl,by lia,_,rfl,by lia,by lia,?_⟩;exact⟨zz1,q2 λr=>h0 (r.2 z Wm)⟩
  rintro σ H' ⟨x,rfl,rfl,ha⟩;rw[length_map,take_length]at ha;exact q1 ⟨jp,ha⟩
 refine wA (λe=>jp (by have:=V.int.inj e;rwa [length_map]at this)) ?_;have hzl:=g6 hm;have e0:(Str.empty++Str.ofString (toString m)).length<=1001:=by rw[strLen_append];show 0+_<=1001;lia
 have e1:((Str.empty++Str.ofString (toString m))++(" signs are asked for here":Str)).length<=2000:=by
  have:(" signs are asked for here":Str).length=25:=by decide +kernel
  rw[strLen_append];lia
 refine⟨_,rfl,m,rfl,dw hm (by decide) (by decide),_,rfl,by lia,_,rfl,by lia,by lia,?_⟩;exact⟨zz1,q2 λr=>jp r.1⟩
structure IsCell(n:Nat)(f:Nat->Int):Prop where
 b:∀i,i<n->0<=f i/\f i<97
theorem IsCell.row{n:Nat}(h:IsCell n f):DH n ((List.range n).map f):=by refine⟨by simp,λx hx=>?_⟩;obtain⟨i,hi,rfl⟩:=List.mem_map.mp hx;exact h.b i (List.mem_range.mp hi)
theorem IsCell.far{n:Nat}(h:IsCell n f):∀x∈(List.range n).map f,x.natAbs<2 ^ 1000:=λx hx=>by obtain⟨i,hi,rfl⟩:=List.mem_map.mp hx;have:=h.b i (List.mem_range.mp hi);exact dJ (by lia) (by lia)
def oU(K:W.Frag)(C:Addr):Sp:=λvs H Q E=>∃(l:Addr)(ns:List Int),vs=[.ref l]/\ae K H l (ns.map V.int)/\(∀n∈ns,n.natAbs<2 ^ 1000) /\
 (DH 24 ns->Q .bw H)/\(¬DH 24 ns->E (.ref C) none H)
theorem EC:aS ["cell"] ["cell"] (aG lZ):=ac
theorem ED(F:aO K mg "look_cell" lZ)(T:Txt K mg t)(fE:Def P w K mg base 2 "look_signs" ["signs","many"] (l9 K t.BadCell)):Def P w K mg base 3 "look_cell" ["cell"] (oU K t.BadCell):=by
 refine F.def EC (λ_ _ _ _ _ _=>ad λ_=>rfl) (λvs H Q E h=>?_) (λf cB A outer s H vs Q E hr h=>?_)
 ·obtain⟨l,ns,rfl,_⟩:=h;rfl
 obtain⟨l,ns,rfl,hl,hb,q1,q2⟩:=h;refine⟨_,aF (ax (aY (fE.mono (by decide)) hr (jB aw) (aB (pv 0) (aB (aW T.zR) aD)))),?_⟩;exact⟨_,rfl,l,ns,24,rfl,hl,hb,by decide,q1,q2⟩
def jx(C:Addr):Sp:=λvs H Q E=>∃n:Int,vs=[.int n]/\n.natAbs<2 ^ 1000/\(0<=n/\n<97->Q .bw H)/\(¬(0<=n/\n<97)->E (.ref C) none H)
theorem EE:aS ["number"] ["number"] (aG lW):=ac
theorem EF(F:aO K mg "look_sign" lW)(T:Txt K mg t)(D1:Def P w K mg base 1 "is_sign" ["number"] oT):Def P w K mg base 2 "look_sign" ["number"] (jx t.BadSign):=by
 refine F.def EE (λ_ _ _ _ _ _=>ad λ_=>rfl) (λvs H Q E h=>?_) (λf cB A outer s H vs Q E hr h=>?_)
 ·obtain⟨n,rfl,_⟩:=h;rfl
 obtain⟨n,rfl,hb,q1,q2⟩:=h;refine⟨_,aF (bO (fh (jJ (aY D1 hr av (aB (pv 0) aD))))
  (aF (cV aw rfl rfl T.AR T.AS PySem.F.excBase_ValueError (aB (eY (bD (cY (pv 0)) (bD aU iF))) aD))) aj),?_⟩
 refine⟨_,rfl,n,rfl,_,rfl,?_⟩;by_cases h0:0<=n/\n<97
 ·rw[decide_eq_true h0];exact dX (q1 h0)
 rw[decide_eq_false h0];refine iD ?_;have hz:=g6 hb;have e0:(Str.empty++Str.ofString (toString n)).length<=1001:=by rw[strLen_append];show 0+_<=1001;lia
 have e1:((Str.empty++Str.ofString (toString n))++(" is no sign":Str)).length<=2000:=by
  have:(" is no sign":Str).length=11:=by decide +kernel
  rw[strLen_append];lia
 have sl:(2000:Nat)<=sizeLine:=by decide
 refine⟨_,rfl,n,rfl,dw hb (by decide) (by decide),_,rfl,by lia,_,rfl,by lia,by lia,?_⟩;exact⟨zz1,q2 h0⟩
def oV(C:Addr):Sp:=λvs H Q E=>∃n:Int,vs=[.int n]/\n.natAbs<2 ^ 1000/\(0<n/\n<97->Q .bw H)/\(¬(0<n/\n<97)->E (.ref C) none H)
theorem EG:aS ["number"] ["number"] (aG lX):=ac
theorem EH(F:aO K mg "look_unit" lX)(T:Txt K mg t)(D2:Def P w K mg base 2 "look_sign" ["number"] (jx t.BadSign)):Def P w K mg base 3 "look_unit" ["number"] (oV t.BadSign):=by
 refine F.def EG (λ_ _ _ _ _ _=>ad λ_=>rfl) (λvs H Q E h=>?_) (λf cB A outer s H vs Q E hr h=>?_)
 ·obtain⟨n,rfl,_⟩:=h;rfl
 obtain⟨n,rfl,hb,q1,q2⟩:=h;refine⟨_,aC (ax (aY D2 hr (jB aw) (aB (pv 0) aD)))
  (aF (bO (aZ jA (pv 0) aH (af _)) (aF (cV aw rfl rfl T.AR T.AS PySem.F.excBase_ValueError (aB aU aD))) aj)),?_⟩
 refine⟨_,rfl,n,rfl,hb,λh0=>?_,λh0=>q2 (by lia)⟩;refine⟨_,rfl,rfl,_,rfl,?_⟩;by_cases z:n=0
 ·subst z;refine iD ?_;exact⟨zz1,q2 (by lia)⟩
 have e:decide (V.int n=V.int 0)=false:=decide_eq_false λq=>z (V.int.inj q);rw[e];exact dX (q1 (by lia))
def rJ(C:Addr):Sp:=λvs H Q E=>∃a k:Int,vs=[.int a,.int k]/\a.natAbs<2 ^ 1000/\0<=k/\(0<=a/\a<97->Q (.int (My.P a k)) H)/\(¬(0<=a/\a<97)->E (.ref C) none H)
def Oy:L2.St->Hp->Nat:=λσ _=>match σ with
 |[_,_,_,_,some (.int s)]=>s.toNat
 |_=>0
theorem kI:aS ["a","k","product","square","left"] ["a","k"] (aG zQ):=ac
theorem Oz(F:aO K mg "power" zQ)(T:Txt K mg t)(eT:Def P w K mg base 2 "look_sign" ["number"] (jx t.BadSign)):Def P w K mg base 3 "power" ["a","k"] (rJ t.BadSign):=by
 refine F.def kI (λ_ _ _ _ _ _=>am λ_ _=>rfl) (λvs H Q E h=>?_) (λf cB A outer s H vs Q E hr h=>?_)
 ·obtain⟨a,k,rfl,_⟩:=h;rfl
 obtain⟨a,k,rfl,hb,k0,q1,q2⟩:=h;refine⟨_,aC (ax (aY (eT.mono (by decide)) hr (jB aw) (aB (pv 0) aD)))
  (aC (aX (i:=2) kI.nd rfl (Or.inl rfl) aH)
  (aC (aX (i:=3) kI.nd rfl (Or.inl rfl) (pv 0))
  (aC (aX (i:=4) kI.nd rfl (Or.inl rfl) (pv 1))
  (aC (PS.Ck (FN PassesOwn.never (aZ zh (pv 4) aH (af _))
   (aC (bO (aZ jA (aQ cF (pv 4) aH) aH (af _))
    (aF (aX (i:=2) kI.nd rfl (Or.inl rfl) (aQ cF (aQ eQ (pv 2) (pv 3)) (aW T.cQ))))
    (aj))
   (aC (aX (i:=3) kI.nd rfl (Or.inl rfl) (aQ cF (aQ eQ (pv 3) (pv 3)) (aW T.cQ)))
   (aF (aX (i:=4) kI.nd rfl (Or.inl rfl) (aQ zN (pv 4) aH)))))))
  (aF (ah (pv 2))))))),?_⟩
 refine⟨_,rfl,a,rfl,hb,λh0=>?_,λh0=>q2 h0⟩;refine⟨_,rfl,?_⟩;refine⟨_,rfl,?_⟩;refine FQ (λσ H'=>∃p q l:Int,σ=[some (.int a),some (.int k),some (.int p),some (.int q),some (.int l)]/\H'=H/\0<=p/\p<97/\0<=q/\q<97/\0<=l/\p*q ^ l.toNat%97=My.P a k) Oy ⟨1,a,k,rfl,rfl,by decide,by decide,h0.1,h0.2,k0,My.Fq⟩ ?_ ?_
 ·rintro σ H' ⟨p,q,l,rfl,rfl,p0,p1,q0,q1',l0,hh⟩;refine⟨_,rfl,_,_,rfl,rfl,_,rfl,?_⟩;refine RH (λh=>?_) (λh=>?_)
  ·have hl:0<l:=of_decide_eq_true h;have mlt:(l/2).toNat<l.toNat:=(by lia);refine⟨_,rfl,_,_,rfl,rfl,(by show(0:Int)<2;decide),rfl,_,rfl,?_⟩;refine RH (λh2=>?_) (λh2=>?_)
   ·have ho:l%2=1:=V.int.inj (of_decide_eq_true h2);refine⟨_,rfl,_,rfl,_,_,rfl,rfl,.inl ⟨by lia,by lia⟩,_,_,rfl,rfl,(by show(0:Int)<97;decide),?_⟩;refine⟨_,rfl,_,rfl,_,_,rfl,rfl,.inl ⟨by lia,by lia⟩,_,_,rfl,rfl,(by show(0:Int)<97;decide),?_⟩;refine⟨_,rfl,_,_,rfl,rfl,⟨by decide,by decide⟩,?_⟩;exact⟨⟨_,_,_,rfl,rfl,Int.emod_nonneg _ (by decide),Int.emod_lt_of_pos _ (by decide),Int.emod_nonneg _ (by decide),Int.emod_lt_of_pos _ (by decide),by lia,My.Lz hl ho hh⟩,mlt⟩
   have ho:l%2≠1:=λz=>h2 (decide_eq_true (congrArg V.int z));refine⟨_,rfl,_,rfl,_,_,rfl,rfl,.inl ⟨by lia,by lia⟩,_,_,rfl,rfl,(by show(0:Int)<97;decide),?_⟩;refine⟨_,rfl,_,_,rfl,rfl,⟨by decide,by decide⟩,?_⟩;exact⟨⟨_,_,_,rfl,rfl,p0,p1,Int.emod_nonneg _ (by decide),Int.emod_lt_of_pos _ (by decide),by lia,My.IJ hl ho hh⟩,mlt⟩
  have hl:¬0<l:=λz=>h (decide_eq_true z);refine⟨_,rfl,?_⟩;rw[My.L3 (by lia) p0 p1 hh];exact q1 h0
 rintro σ H' Q1 Q2 hm ⟨v,e,i,j,ei,ej,k,ek,q⟩;exact⟨v,e,i,j,ei,ej,k,ek,hm _ _ q⟩
def uT(C:Addr):Sp:=λvs H Q E=>∃a:Int,vs=[.int a]/\a.natAbs<2 ^ 1000/\(0<a/\a<97->Q (.int (My.P a 95)) H)/\(¬(0<a/\a<97)->E (.ref C) none H)
theorem IZ:aS ["a"] ["a"] (aG tI):=ac
theorem Ia(F:aO K mg "inverse" tI)(T:Txt K mg t)(ll:Def P w K mg base 3 "look_unit" ["number"] (oV t.BadSign))(fY:Def P w K mg base 3 "power" ["a","k"] (rJ t.BadSign)):Def P w K mg base 4 "inverse" ["a"] (uT t.BadSign):=by
 refine F.def IZ (λ_ _ _ _ _ _=>ad λ_=>rfl) (λvs H Q E h=>?_) (λf cB A outer s H vs Q E hr h=>?_)
 ·obtain⟨a,rfl,_⟩:=h;rfl
 obtain⟨a,rfl,hb,q1,q2⟩:=h;refine⟨_,aC (ax (aY (ll.mono (by decide)) hr (jB aw) (aB (pv 0) aD)))
  (aF (ah (aY (fY.mono (by decide)) hr (jB aw) (aB (pv 0) (aB (aQ dv (aW T.cQ) aH) aD))))),?_⟩
 refine⟨_,rfl,a,rfl,hb,λh0=>?_,λh0=>q2 h0⟩;refine⟨_,rfl,_,_,rfl,rfl,a,95,rfl,hb,by decide,λ_=>q1 h0,λh1=>absurd ⟨by lia,h0.2⟩ h1⟩
def yb(C:Addr):Sp:=λvs H Q E=>∃n:Int,vs=[.int n]/\n.natAbs<2 ^ 1000/\(0<n/\n<97->Q (.int (My.ex n)) H)/\(¬(0<n/\n<97)->E (.ref C) none H)
theorem jG:aS ["a","steps","reached"] ["a"] (aG oK):=ac
def Zt:L2.St->Hp->Nat:=λσ _=>match σ with
 |[_,some (.int s),_]=>(100-s).toNat
 |_=>0
theorem F9(F:aO K mg "exponent" oK)(T:Txt K mg t)(D3:Def P w K mg base 3 "look_unit" ["number"] (oV t.BadSign)):Def P w K mg base 4 "exponent" ["a"] (yb t.BadSign):=by
 refine F.def jG (λ_ _ _ _ _ _=>ad λ_=>rfl) (λvs H Q E h=>?_) (λf cB A outer s H vs Q E hr h=>?_)
 ·obtain⟨n,rfl,_⟩:=h;rfl
 obtain⟨a,rfl,hb,q1,q2⟩:=h;refine⟨_,aC (ax (aY D3 hr (jB aw) (aB (pv 0) aD)))
  (aC (aX (i:=1) jG.nd rfl (Or.inl rfl) aH)
  (aC (aX (i:=2) jG.nd rfl (Or.inl rfl) aH)
  (aC (PS.Ck (FN PassesOwn.never (aZ vq (pv 2) (pv 0) (af _))
   (aC (aX (i:=2) jG.nd rfl (Or.inl rfl) (aQ cF (aQ eQ (pv 2) (aW T.Kl)) (aW T.cQ)))
   (aF (aX (i:=1) jG.nd rfl (Or.inl rfl) (aQ bK (pv 1) aH))))))
  (aF (ah (pv 1)))))),?_⟩
 refine⟨_,rfl,a,rfl,hb,λh0=>?_,λh0=>q2 h0⟩;refine FQ (λσ H'=>∃st:Int,σ=[some (.int a),some (.int st),some (.int (My.up st))]/\H'=H/\0<=st/\st<=My.ex a) Zt ⟨0,by rw[My.Rj];rfl,rfl,Int.le_refl _,My.Ob a⟩ ?_ ?_
 ·rintro σ H' ⟨st,rfl,rfl,s0,s1⟩;refine⟨_,rfl,_,rfl,rfl,_,rfl,?_⟩;have he:=My.Ze h0.1 h0.2;by_cases z:My.up st=a
  ·have e:decide (V.int (My.up st)=V.int a)=true:=decide_eq_true (by rw[z]);rw[e];refine dX ⟨_,rfl,?_⟩;have es:st=My.ex a:=by
    by_cases l:st<My.ex a
    ·exact absurd z (My.Zg h0.1 h0.2 s0 l)
    lia
   rw[es];exact q1 h0
  have e:decide (V.int (My.up st)=V.int a)=false:=decide_eq_false λq=>z (V.int.inj q);rw[e];refine iD ?_;have u0:0<=My.up st:=Int.emod_nonneg _ (by decide);have u1:My.up st<97:=Int.emod_lt_of_pos _ (by decide);refine⟨_,rfl,_,_,rfl,rfl,.inl ⟨by lia,by lia⟩,_,_,rfl,rfl,(by show(0:Int)<97;decide),_,rfl,_,_,rfl,rfl,?_⟩;have Fh:st≠My.ex a:=λq=>z (by rw[q];exact My.Zf h0.1 h0.2);refine⟨⟨st+1,by rw[<-My.Ri s0 rfl];rfl,rfl,by lia,by lia⟩,?_⟩;show(100-(st+1)).toNat<(100-st).toNat;lia
 rintro σ H' Q1 Q2 hm ⟨v,e,u,e2,hs,k,ek,q⟩;exact⟨v,e,u,e2,hs,k,ek,hm _ _ q⟩
def yc(K:W.Frag):Sp:=λvs H Q _=>∃(l:Addr)(n:Nat)(f:Nat->Int)(x:Int),vs=[.ref l,.int x]/\ae K H l (dL n f)/\Q (.int (My.T x n f)) H
theorem R7{n:Nat}{f:Nat->V}{i:Nat}{x:V}(h:(bW n f).reverse[i]?=some x):i<n/\x=f (n-1-i):=by
 have hi:i<n:=by
  have:=(List.getElem?_eq_some_iff.mp h).1
  rwa [List.length_reverse,aL]at this
 rw[List.getElem?_reverse (by rw[aL];exact hi),aL,bu (by lia)]at h;exact⟨hi,(Option.some.inj h).symm⟩
theorem lq:aS ["signs","point","value","sign"] ["signs","point"] (aG oM):=ac
theorem GB(F:aO K mg "value_at" oM)(T:Txt K mg t):Def P w K mg base 1 "value_at" ["signs","point"] (yc K):=by
 refine F.def lq (λ_ _ _ _ _ _=>am λ_ _=>rfl) (λvs H Q E h=>?_) (λf cB A outer s H vs Q E hr h=>?_)
 ·obtain⟨l,n,f,x,rfl,_⟩:=h;rfl
 obtain⟨l,n,f,x,rfl,hl,q⟩:=h;refine⟨_,aC (aX (i:=2) lq.nd rfl (Or.inl rfl) aH)
  (aC (PS.Ck (cO PassesOwn.never rfl (Dq K (by rfl) T.AQ (aB (pv 0) aD)) (au (i:=3) lq.nd rfl (Or.inl rfl))
   (aF (aX (i:=2) lq.nd rfl (Or.inl rfl) (aQ cF (aQ bK (aQ eQ (pv 2) (pv 1)) (pv 3)) (aW T.cQ))))))
  (aF (ah (pv 2)))),?_⟩
 refine⟨_,rfl,l,_,rfl,hl,RN (K:=K) (a:=l) (xs:=dL n f) (λi σ H'=>∃v:Option V,σ=[some (.ref l),some (.int x),some (.int (My.hv f n x i)),v]/\H'=H) ⟨none,rfl,rfl⟩ (λi σ H' _ ⟨_,_,e⟩=>by rw[e];exact hl) ?_ ?_⟩
 ·rintro i y σ H' hi ⟨v,rfl,rfl⟩;obtain⟨hi2,rfl⟩:=R7 hi;have h0:=My.Um f n x i;have h1:=My.Uo f n x i;refine⟨_,rfl,_,rfl,_,_,rfl,rfl,.inl ⟨by lia,by lia⟩,_,rfl,_,_,rfl,rfl,_,_,rfl,rfl,(by show(0:Int)<97;decide),?_⟩;exact⟨_,rfl,rfl⟩
 rintro σ H' ⟨v,rfl,rfl⟩;refine⟨_,rfl,?_⟩;rw[aL,My.aDa];exact q
def rK(K:W.Frag):Sp:=λvs H Q _=>∃(l:Addr)(f:Nat->Int),vs=[.ref l]/\ae K H l (dL 24 f)/\IsCell 24 f /\
 ∀p H',H p=none->aI H H'->H' p=some (.lst (dL 6 λj=>My.T (My.St j) 24 f))->Q (.ref p) H'
theorem GC:aS ["cell"] ["cell"] (aG kF):=ac
theorem GG(F:aO K mg "troubles" kF)(T:Txt K mg t)(gJ:Def P w K mg base 3 "look_cell" ["cell"] (oU K t.BadCell))(uU:Def P w K mg base 1 "value_at" ["signs","point"] (yc K))(fY:Def P w K mg base 3 "power" ["a","k"] (rJ t.BadSign)):
  Def P w K mg base 4 "troubles" ["cell"] (rK K):=by
 refine F.def GC (λ_ _ _ _ _ _=>ad λ_=>rfl) (λvs H Q E h=>?_) (λf cB A outer s H vs Q E hr h=>?_)
 ·obtain⟨l,f,rfl,_⟩:=h;rfl
 obtain⟨l,f,rfl,hl,cf,q⟩:=h;refine⟨_,aC (ax (aY (gJ.mono (by decide)) hr av (aB (pv 0) aD)))
  (aF (ah (jf rfl (Nc:=["j","cell"]) (ix:=[none,some 0]) (cW (aG kF) ["cell"] rfl rfl (by decide +kernel)) (xC (by rfl) T.eF (aB aH (aB (aQ bK (aW T.Km) aH) aD))) (λC fp s H=>⟨(au (i:=0) (show(["j","cell"]:List Str).Nodup by decide +kernel) rfl (Or.inl rfl)),cH,(aY (uU.mono (by decide)) hr av (aB (pv 1) (aB (aY (fY.mono (by decide)) hr av (aB (aW T.Kl) (aB (pv 0) aD))) aD)))⟩)))),?_⟩
 have hsz:(2000:Nat)<=sizeLine:=by decide
 refine⟨_,rfl,l,(List.range 24).map f,rfl,by rw[wB];exact hl,cf.far,λ_=>?_,λh=>absurd cf.row h⟩;refine⟨_,_,rfl,rfl,1,_,rfl,⟨by decide,by decide,by decide,by decide⟩,λD hD=>?_⟩;refine m9 (lo:=1) (n:=6) (λi σ H'=>∃v:Option V,σ=[v,some (.ref l)]/\aI H H'/\H' D=some (.lst (dL i λj=>My.T (My.St j) 24 f))) ⟨none,rfl,(aI.refl _).new hD,aA⟩ ?_ ?_
 ·rintro i σ H' N hN hi ⟨v,rfl,s1,h1⟩;refine dF ?_;refine⟨_,rfl,_,rfl,5,_,rfl,by decide,by lia,λ_=>?_,λh=>absurd (show(0:Int)<=5/\(5:Int)<97 by decide) h⟩;refine⟨l,24,f,_,rfl,s1.seq hl,?_⟩;rw[My.aCZ i hi];refine⟨_,h1,by rw[aL];lia,?_⟩;exact hN _ _ ⟨_,rfl,s1.put hD,lS rfl⟩
 rintro σ H' ⟨v,rfl,s1,h1⟩;exact q D H' hD s1 h1
def tO(f:Nat->Int):Bool:=decide ((List.range 6).map (λj=>My.T (My.St j) 24 f)=(List.range 6).map λ_=>(0:Int))
theorem lr:tO f=true↔My.dO f:=by
 unfold tO My.dO;rw[decide_eq_true_iff];constructor
 ·intro h j hj;have:=congrArg (λl=>l.getD j 0) h;simp only[Lo 6 _ j hj]at this;exact this
 intro h;apply List.map_congr_left;intro j hj;exact h j (List.mem_range.mp hj)
theorem Ib(h:¬My.dO f):tO f=false:=by rw[Bool.eq_false_iff];exact λz=>h (lr.mp z)
def wK(K:W.Frag):Sp:=λvs H Q _=>∃(l:Addr)(f:Nat->Int),vs=[.ref l]/\ae K H l (dL 24 f)/\IsCell 24 f/\∀H',aI H H'->Q (.bl (tO f)) H'
theorem EI:aS ["cell"] ["cell"] (aG lg):=ac
theorem EJ(F:aO K mg "is_sealed" lg)(T:Txt K mg t)(iN:Def P w K mg base 4 "troubles" ["cell"] (rK K)):Def P w K mg base 5 "is_sealed" ["cell"] (wK K):=by
 refine F.def EI (λ_ _ _ _ _ _=>ad λ_=>rfl) (λvs H Q E h=>?_) (λf cB A outer s H vs Q E hr h=>?_)
 ·obtain⟨l,f,rfl,_⟩:=h;rfl
 obtain⟨l,f,rfl,hl,cf,q⟩:=h;refine⟨_,aF (ah (fW (Kc K (Fd hr)) (aY (iN.mono (by decide)) hr av (aB (pv 0) aD)) (aQ qm (ba (aB aH aD)) (aW T.Km)) (af _))),?_⟩;refine⟨_,rfl,l,f,rfl,hl,cf,λp H1 hp s1 h1=>?_⟩;refine⟨zz1,λa1 Zu=>?_⟩;refine⟨a1,_,_,rfl,rfl,aA,by decide,by decide,by decide,λa2 Zv=>?_⟩;have s2:=((aI.refl H1).new (o:=.lst [V.int 0]) Zu).new (o:=.lst (List.replicate (6:Int).toNat [V.int 0]).flatten) Zv;refine⟨p,a2,_,(List.range 6).map λ_=>0,rfl,rfl,ae.of (by rw[wB];exact s2 _ _ h1),ae.of (by rw[aA];rfl),?_⟩;exact q _ (s1.trans s2)
def AW(K:W.Frag):Sp:=λvs H Q _=>∃(l:Addr)(r:Nat->Int)(s:Int),vs=[.ref l,.int s]/\ae K H l (dL 6 r)/\(∀k,k<6->0<=r k/\r k<97)/\0<=s/\s<97 /\
 ∀p H',H p=none->aI H H'->H' p=some (.lst (dL 6 λk=>((if k<5 then r (k+1)else 0)-(r 0+s)*My.Dv k)%97))->Q (.ref p) H'
theorem R8:([V.int (21),V.int (80),V.int (53),V.int (2),V.int (55),V.int (63)]:List V)=dL 6 My.Dv:=by rfl
theorem AX:aS ["rest","sign","times"] ["rest","sign"] (aG nF):=ac
theorem Ic(F:aO K mg "carried" nF)(T:Txt K mg t):Def P w K mg base 1 "carried" ["rest","sign"] (AW K):=by
 refine F.def AX (λ_ _ _ _ _ _=>am λ_ _=>rfl) (λvs H Q E h=>?_) (λf cB A outer s H vs Q E hr h=>?_)
 ·obtain⟨l,r,s,rfl,_⟩:=h;rfl
 obtain⟨l,r,sg,rfl,hl,br,s0,s1,q⟩:=h;refine⟨_,aC (aX (i:=2) AX.nd rfl (Or.inr rfl) (aQ bK (ai (aV K) (pv 0) aH (λ_ _=>rfl)) (pv 1)))
  (aF (ah (jf rfl (Nc:=["low","part","times"]) (ix:=[none,none,some 2]) (cW (aG nF) ["rest","sign","times"] rfl rfl (by decide +kernel)) (OM K (by rfl) T.Ko (aB (aQ (fX K) (cw (dN K) (pv 0) (cD aH) oF) (ba (aB aH aD))) (aB (KA (v:=.ref t.DIVISOR) (by rfl) T.Ot rfl) aD))) (λC fp s H=>⟨(iz K (i:=0) (j:=1) rfl (show(["low","part","times"]:List Str).Nodup by decide +kernel) rfl rfl (Or.inl rfl) (Or.inl rfl)),cH,(aQ cF (aQ dv (pv 0) (aQ eQ (pv 2) (pv 1))) (aW T.cQ))⟩)))),?_⟩
 have hsz:(2000:Nat)<=sizeLine:=by decide
 have b0:=br 0 (by decide);refine⟨_,rfl,l,_,_,_,rfl,rfl,hl,da (n:=6) (by decide) (by decide),_,rfl,_,_,rfl,rfl,?_⟩;refine⟨_,rfl,_,rfl,l,_,rfl,hl,λp1 EK=>?_⟩;rw[show cU (dL 6 r) (some 1) none=dL 5 λk=>r (1+k)from IC (lo:=1) (n:=6) (by decide)];have t1:=(aI.refl H).new (o:=.lst (dL 5 λk=>r (1+k))) EK;refine⟨zz1,λp2 z9=>?_⟩;have n12:p1≠p2:=aR aA z9;have t2:=t1.new (o:=.lst [V.int 0]) z9;refine⟨p1,p2,_,_,rfl,rfl,ae.of (by rw[aE n12];exact aA),ae.of aA,by rw[aL];decide,λp3 EL=>?_⟩;have ec:(dL 5 λk=>r (1+k))++[V.int 0]=dL 6 λk=>if k<5 then r (k+1)else 0:=by
  rw[Fe];refine bX λk hk=>?_;by_cases e:k=5
  ·subst e;rfl
  rw[if_neg e];dsimp only;rw[if_pos (by lia),Nat.add_comm]
 rw[ec];have t3:=t2.new (o:=.lst (dL 6 λk=>if k<5 then r (k+1)else 0)) EL;have h3:∀H0:Hp,(dl H0 p3 (.lst (dL 6 λk=>if k<5 then r (k+1)else 0))) p3=some (.lst (dL 6 λk=>if k<5 then r (k+1)else 0)):=λ_=>aA;refine⟨p3,t.DIVISOR,rfl,⟨_,ae.of (h3 _)⟩,⟨_,T.F6.sq _⟩,λD hD=>?_⟩;have h3':=h3 (dl (dl H p1 (.lst (dL 5 λk=>r (1+k)))) p2 (.lst [V.int 0]));generalize dl (dl (dl H p1 (.lst (dL 5 λk=>r (1+k)))) p2 (.lst [V.int 0])) p3 (.lst (dL 6 λk=>if k<5 then r (k+1)else 0))=H3 at *;refine RO (K:=K) (a:=p3) (b:=t.DIVISOR) (xs:=dL 6 λk=>if k<5 then r (k+1)else 0) (ys:=dL 6 My.Dv) (by rw[aL,aL]) (λi σ H'=>∃v1 v2:Option V,σ=[v1,v2,some (.int (r 0+sg))]/\aI H3 H'/\H' D=some (.lst (dL i λk=>((if k<5 then r (k+1)else 0)-(r 0+sg)*My.Dv k)%97)))
  ⟨none,none,rfl,(aI.refl _).new hD,aA⟩ (λi σ H' _ ⟨_,_,_,s2,_⟩=>⟨ae.of (s2 _ _ h3'),by rw[<-R8];exact T.F6.sq _⟩) ?_ ?_
 ·rintro i x y pp σ H' N hN hx hy ⟨v1,v2,rfl,s2,h2⟩ R9;obtain⟨hi,rfl⟩:=tab_of hx;obtain⟨_,rfl⟩:=tab_of hy;refine zt ?_;have nD:D≠pp:=aR h2 R9;refine⟨_,rfl,_,rfl,_,rfl,_,_,rfl,rfl,.inl ⟨by lia,by lia⟩,_,_,rfl,rfl,_,_,rfl,rfl,(by show(0:Int)<97;decide),?_⟩;refine⟨_,by rw[aE nD];exact h2,by rw[aL];lia,?_⟩;exact hN _ _ ⟨_,_,rfl,(s2.new R9).put hD,lS rfl⟩
 rintro σ H' ⟨v1,v2,rfl,s2,h2⟩;rw[aL]at h2;exact q D H' (t3.free hD) (t3.trans s2) h2
def DI(K:W.Frag):Sp:=λvs H Q _=>∃(l:Addr)(f:Nat->Int),vs=[.ref l]/\ae K H l (dL 18 f)/\IsCell 18 f/\∀p H',H p=none->aI H H'->H' p=some (.lst (dL 24 (My.nC f)))->Q (.ref p) H'
theorem tP:aS ["signs","rest","sign"] ["signs"] (aG qw):=ac
theorem ME(F:aO K mg "sealed" qw)(T:Txt K mg t)(fE:Def P w K mg base 2 "look_signs" ["signs","many"] (l9 K t.BadCell))(xR:Def P w K mg base 1 "carried" ["rest","sign"] (AW K)):Def P w K mg base 3 "sealed" ["signs"] (DI K):=by
 refine F.def tP (λ_ _ _ _ _ _=>ad λ_=>rfl) (λvs H Q E h=>?_) (λf cB A outer s H vs Q E hr h=>?_)
 ·obtain⟨l,f,rfl,_⟩:=h;rfl
 obtain⟨l,f,rfl,hl,cf,q⟩:=h;refine⟨_,aC (ax (aY (fE.mono (by decide)) hr av (aB (pv 0) (aB (aW T.wJ) aD))))
  (aC (aX (i:=1) tP.nd rfl (Or.inl rfl) (aQ qm (ba (aB aH aD)) (aW T.Km)))
  (aC (PS.Ck (cO PassesOwn.never rfl (bz K (pv 0)) (au (i:=2) tP.nd rfl (Or.inl rfl))
   (aF (aX (i:=1) tP.nd rfl (Or.inl rfl) (aY (xR.mono (by decide)) hr av (aB (pv 1) (aB (pv 2) aD)))))))
  (aF (ah (aQ (fX K) (iC (fj K) (by rfl) T.rE boot_list (aB (pv 0) aD)) (jf rfl (Nc:=["part"]) (ix:=[none]) (cW (aG qw) ["signs","rest","sign"] rfl rfl (by decide +kernel)) (bz K (pv 1)) (λC fp s H=>⟨(au (i:=0) (show(["part"]:List Str).Nodup by decide +kernel) rfl (Or.inl rfl)),cH,(aQ cF (FR ze (pv 0)) (aW T.cQ))⟩))))))),?_⟩
 have hsz:(2000:Nat)<=sizeLine:=by decide
 refine⟨_,rfl,l,(List.range 18).map f,18,rfl,by rw[wB];exact hl,cf.far,by decide,λ_=>?_,λh=>absurd cf.row h⟩;refine⟨zz1,λa1 Zu=>?_⟩;refine⟨a1,_,_,rfl,rfl,aA,by decide,by decide,by decide,λa2 Zv=>?_⟩;have s1:=((aI.refl H).new (o:=.lst [V.int 0]) Zu).new (o:=.lst (List.replicate (6:Int).toNat [V.int 0]).flatten) Zv;refine⟨_,rfl,l,rfl,⟨_,s1.seq hl⟩,gS (K:=K) (a:=l) (xs:=dL 18 f) (λi σ H'=>∃(v:Option V)(p:Addr),σ=[some (.ref l),some (.ref p),v]/\aI H H'/\H' p=some (.lst (dL 6 (My.rs f i)))) ⟨none,a2,rfl,s1,by rw[aA];rfl⟩ (λi σ H' _ ⟨_,_,_,s2,_⟩=>s2.seq hl) ?_ ?_⟩
 ·rintro i y σ H' hi ⟨v,p,rfl,s2,h2⟩;obtain⟨hi2,rfl⟩:=tab_of hi;have bi:=cf.b i hi2;refine⟨_,rfl,_,rfl,p,My.rs f i,f i,rfl,ae.of h2,λk _=>⟨My.Zj f i k,My.Zk f i k⟩,bi.1,bi.2,λp2 H2 z9 s3 h3=>?_⟩;exact⟨_,p2,rfl,s2.trans s3,h3⟩
 rintro σ H' ⟨v,p,rfl,s2,h2⟩;rw[aL]at h2;refine⟨_,rfl,l,_,rfl,.inl (s2.seq hl),λb1 hb1=>?_⟩;have s3:=(aI.refl H').new (o:=.lst (dL 18 f)) hb1;refine⟨_,rfl,p,rfl,⟨_,ae.of (s3 _ _ h2)⟩,λD hD=>?_⟩;have nD:b1≠D:=aR aA hD;refine oJ (K:=K) (a:=p) (n:=6) (F:=λk=>V.int (My.rs f 18 k)) (λi σ H4=>∃v:Option V,σ=[v]/\aI (dl H' b1 (.lst (dL 18 f))) H4/\H4 D=some (.lst (dL i λk=>-(My.rs f 18 k)%97))) ⟨none,rfl,(aI.refl _).new hD,aA⟩ (λi σ H4 _ ⟨_,_,s4,_⟩=>ae.of (s4 _ _ (s3 _ _ h2))) ?_ ?_
 ·rintro i σ H4 N hN hi ⟨v,rfl,s4,h4⟩;refine dF ?_;refine⟨_,rfl,_,rfl,_,_,rfl,rfl,(by show(0:Int)<97;decide),?_⟩;refine⟨_,h4,by rw[aL];lia,?_⟩;exact hN _ _ ⟨_,rfl,s4.put hD,lS rfl⟩
 rintro σ H4 ⟨v,rfl,s4,h4⟩;refine⟨b1,D,_,_,rfl,rfl,ae.of (s4 _ _ aA),ae.of h4,by rw[aL,aL];decide,λc1 Qk=>?_⟩;have s5:=((s2.trans s3).trans s4);refine q c1 _ (s5.free Qk) (s5.new Qk) ?_;rw[aA,RM];refine congrArg (λz=>some (HO.lst z)) (bX λi hi=>?_);unfold My.nC;split<;>rfl
def oW(C:Addr):Sp:=λvs H Q E=>∃n:Int,vs=[.int n]/\n.natAbs<2 ^ 1000/\(1<=n/\n<=6->Q .bw H)/\(¬(1<=n/\n<=6)->E (.ref C) none H)
theorem EM:aS ["late"] ["late"] (aG lh):=ac
theorem EN(F:aO K mg "look_late" lh)(T:Txt K mg t):Def P w K mg base 1 "look_late" ["late"] (oW t.BadMeasure):=by
 refine F.def EM (λ_ _ _ _ _ _=>ad λ_=>rfl) (λvs H Q E h=>?_) (λf cB A outer s H vs Q E hr h=>?_)
 ·obtain⟨n,rfl,_⟩:=h;rfl
 obtain⟨n,rfl,hb,q1,q2⟩:=h;refine⟨_,aF (bO (fh (my qL qL aH (pv 0) (aW T.AM)))
   (aF (cV aw rfl rfl T.yZ T.ya PySem.F.excBase_ValueError (aB (eY (bD aU (bD (cY (aW T.AM)) (bD aU (bD (cY (pv 0)) iF))))) aD)))
   (aj)),?_⟩
 have sl:(3000:Nat)<=sizeLine:=by decide
 have bad:¬(1<=n/\n<=6)->_:=λz=>q2 z;have l1:("late is from 1 to ":Str).length=18:=by decide +kernel
 have l2:(", not ":Str).length=6:=by decide +kernel
 have z6:=g6 (i:=6) (by decide);have zn:=g6 hb;have e0:(Str.empty++("late is from 1 to ":Str)).length<=18:=by rw[strLen_append,l1];show 0+18<=18;lia
 have e1:((Str.empty++("late is from 1 to ":Str))++Str.ofString (toString (6:Int))).length<=1019:=by rw[strLen_append];lia
 have e2:(((Str.empty++("late is from 1 to ":Str))++Str.ofString (toString (6:Int)))++(", not ":Str)).length<=1025:=by rw[strLen_append];lia
 have e3:((((Str.empty++("late is from 1 to ":Str))++Str.ofString (toString (6:Int)))++(", not ":Str))++Str.ofString (toString n)).length<=2026:=by rw[strLen_append];lia
 refine⟨_,rfl,_,_,rfl,rfl,_,rfl,?_⟩;by_cases h1:1<=n
 ·refine eJ h1 ?_;refine⟨_,_,rfl,rfl,_,rfl,?_⟩;by_cases h2:n<=6
  ·rw[decide_eq_true h2];exact dX (q1 ⟨h1,h2⟩)
  rw[decide_eq_false h2];refine iD ?_;refine⟨_,rfl,by lia,6,rfl,dw (n:=1000) (by decide) (by decide) (by decide),_,rfl,by lia,_,rfl,by lia,_,rfl,n,rfl,dw hb (by decide) (by decide),_,rfl,by lia,by lia,?_⟩;exact⟨zz1,q2 (by lia)⟩
 refine eZ h1 ⟨_,rfl,iD ?_⟩;refine⟨_,rfl,by lia,6,rfl,dw (n:=1000) (by decide) (by decide) (by decide),_,rfl,by lia,_,rfl,by lia,_,rfl,n,rfl,dw hb (by decide) (by decide),_,rfl,by lia,by lia,?_⟩;exact⟨zz1,q2 (by lia)⟩
def qM(K:W.Frag)(C:Addr):Sp:=λvs H Q E=>∃(a:Addr)(x y:Int),vs=[.ref a]/\cT K H a [.int x,.int y]/\x.natAbs<2 ^ 1000/\y.natAbs<2 ^ 1000/\((1<=x/\x<=6)/\0<=y/\y<=4->Q .bw H)/\(¬((1<=x/\x<=6)/\0<=y/\y<=4)->E (.ref C) none H)
theorem qN:aS ["measure","lost"] ["measure"] (aG gY):=ac
theorem y3(F:aO K mg "look_measure" gY)(T:Txt K mg t)(gK:Def P w K mg base 1 "look_late" ["late"] (oW t.BadMeasure)):Def P w K mg base 2 "look_measure" ["measure"] (qM K t.BadMeasure):=by
 refine F.def qN (λ_ _ _ _ _ _=>ad λ_=>rfl) (λvs H Q E h=>?_) (λf cB A outer s H vs Q E hr h=>?_)
 ·obtain⟨a,x,y,rfl,_⟩:=h;rfl
 obtain⟨a,x,n,rfl,ha,hx,hb,q1,q2⟩:=h;refine⟨_,aC (ax (aY (gK.mono (by decide)) hr (jB aw) (aB (ai (bR K) (pv 0) aH (λ_ _=>rfl)) aD)))
  (aC (aX (i:=1) qN.nd rfl (Or.inl rfl) (ai (bR K) (pv 0) aH (λ_ _=>rfl)))
  (aF (bO (fh (my qL qL aH (pv 1) (aW T.AN)))
   (aF (cV aw rfl rfl T.yZ T.ya PySem.F.excBase_ValueError (aB (eY (bD aU (bD (cY (aW T.AN)) (bD aU (bD (cY (pv 1)) iF))))) aD)))
   (aj)))),?_⟩
 have sl:(3000:Nat)<=sizeLine:=by decide
 have l1:("lost is from 0 to ":Str).length=18:=by decide +kernel
 have l2:(", not ":Str).length=6:=by decide +kernel
 have z6:=g6 (i:=4) (by decide);have zn:=g6 hb;have e0:(Str.empty++("lost is from 0 to ":Str)).length<=18:=by rw[strLen_append,l1];show 0+18<=18;lia
 have e1:((Str.empty++("lost is from 0 to ":Str))++Str.ofString (toString (4:Int))).length<=1019:=by rw[strLen_append];lia
 have e2:(((Str.empty++("lost is from 0 to ":Str))++Str.ofString (toString (4:Int)))++(", not ":Str)).length<=1025:=by rw[strLen_append];lia
 have e3:((((Str.empty++("lost is from 0 to ":Str))++Str.ofString (toString (4:Int)))++(", not ":Str))++Str.ofString (toString n)).length<=2026:=by rw[strLen_append];lia
 refine⟨_,rfl,a,_,_,_,rfl,rfl,ha,rfl,x,rfl,hx,λh0=>?_,λh0=>q2 λz=>h0 z.1⟩;refine⟨_,rfl,a,_,_,_,rfl,rfl,ha,rfl,?_⟩;refine⟨_,rfl,_,_,rfl,rfl,_,rfl,?_⟩;by_cases h1:0<=n
 ·refine eJ h1 ?_;refine⟨_,_,rfl,rfl,_,rfl,?_⟩;by_cases h2:n<=4
  ·rw[decide_eq_true h2];exact dX (q1 ⟨h0,h1,h2⟩)
  rw[decide_eq_false h2];refine iD ?_;refine⟨_,rfl,by lia,4,rfl,dw (n:=1000) (by decide) (by decide) (by decide),_,rfl,by lia,_,rfl,by lia,_,rfl,n,rfl,dw hb (by decide) (by decide),_,rfl,by lia,by lia,?_⟩;exact⟨zz1,q2 (by lia)⟩
 refine eZ h1 ⟨_,rfl,iD ?_⟩;refine⟨_,rfl,by lia,4,rfl,dw (n:=1000) (by decide) (by decide) (by decide),_,rfl,by lia,_,rfl,by lia,_,rfl,n,rfl,dw hb (by decide) (by decide),_,rfl,by lia,by lia,?_⟩;exact⟨zz1,q2 (by lia)⟩
def Zw(x y:Int):Prop:=(1<=x/\x<=6)/\0<=y/\y<=4
def yd(K:W.Frag)(C:Addr):Sp:=λvs H Q E=>∃(a:Addr)(x y:Int),vs=[.ref a]/\cT K H a [.int x,.int y]/\x.natAbs<2 ^ 1000/\y.natAbs<2 ^ 1000/\(Zw x y->Q (.int (x+y)) H)/\(¬Zw x y->E (.ref C) none H)
theorem GH:aS ["measure"] ["measure"] (aG oN):=ac
theorem GI(F:aO K mg "quiet_of" oN)(T:Txt K mg t)(kJ:Def P w K mg base 2 "look_measure" ["measure"] (qM K t.BadMeasure)):Def P w K mg base 3 "quiet_of" ["measure"] (yd K t.BadMeasure):=by
 refine F.def GH (λ_ _ _ _ _ _=>ad λ_=>rfl) (λvs H Q E h=>?_) (λf cB A outer s H vs Q E hr h=>?_)
 ·obtain⟨a,x,y,rfl,_⟩:=h;rfl
 obtain⟨a,x,y,rfl,ha,hx,hy,q1,q2⟩:=h;refine⟨_,aC (ax (aY (kJ.mono (by decide)) hr (jB aw) (aB (pv 0) aD)))
  (aF (ah (aQ bK (ai (bR K) (pv 0) aH (λ_ _=>rfl)) (ai (bR K) (pv 0) aH (λ_ _=>rfl))))),?_⟩
 refine⟨_,rfl,a,x,y,rfl,ha,hx,hy,λh0=>?_,λh0=>q2 h0⟩;refine⟨_,rfl,a,_,_,_,rfl,rfl,ha,rfl,?_⟩;refine⟨_,rfl,a,_,_,_,rfl,rfl,ha,rfl,_,_,rfl,rfl,?_⟩;exact q1 h0
def ye(K:W.Frag):Sp:=λvs H Q _=>∃(l:Addr)(n:Nat)(f:Nat->Int)(z:Int),vs=[.ref l,.int z]/\ae K H l (dL n f)/\n<=1000 /\
 ∀p H',H p=none->aI H H'->H' p=some (.lst (dL (n+1) λj=>(if j<n then f j else z)%97))->Q (.ref p) H'
theorem GJ:aS ["row","side"] ["row","side"] (aG kD):=ac
theorem GK(F:aO K mg "equation" kD)(T:Txt K mg t):Def P w K mg base 1 "equation" ["row","side"] (ye K):=by
 refine F.def GJ (λ_ _ _ _ _ _=>am λ_ _=>rfl) (λvs H Q E h=>?_) (λf cB A outer s H vs Q E hr h=>?_)
 ·obtain⟨l,n,f,z,rfl,_⟩:=h;rfl
 obtain⟨l,n,f',z,rfl,hl,hn,q⟩:=h;refine⟨_,aF (ah (aQ (fX K) (jf rfl (Nc:=["sign"]) (ix:=[none]) (cW (aG kD) ["row","side"] rfl rfl (by decide +kernel)) (bz K (pv 0)) (λC fp s H=>⟨(au (i:=0) (show(["sign"]:List Str).Nodup by decide +kernel) rfl (Or.inl rfl)),cH,(aQ cF (pv 0) (aW T.cQ))⟩)) (ba (aB (aQ cF (pv 1) (aW T.cQ)) aD)))),?_⟩;have hsz:(2000:Nat)<=sizeLine:=by decide
 refine⟨_,rfl,l,rfl,⟨_,hl⟩,λD hD=>?_⟩;refine oJ (K:=K) (a:=l) (n:=n) (F:=λj=>V.int (f' j)) (λi σ H'=>∃v:Option V,σ=[v]/\aI H H'/\H' D=some (.lst (dL i λj=>f' j%97))) ⟨none,rfl,(aI.refl _).new hD,aA⟩ (λi σ H' _ ⟨_,_,s1,_⟩=>s1.seq hl) ?_ ?_
 ·rintro i σ H' N hN hi ⟨v,rfl,s1,h1⟩;refine dF ?_;refine⟨_,rfl,_,_,rfl,rfl,(by show(0:Int)<97;decide),_,h1,by rw[aL];lia,?_⟩;exact hN _ _ ⟨_,rfl,s1.put hD,lS rfl⟩
 rintro σ H' ⟨v,rfl,s1,h1⟩;refine⟨_,rfl,_,_,rfl,rfl,(by show(0:Int)<97;decide),zz1,λp2 z9=>?_⟩;have n2:D≠p2:=aR h1 z9;have s2:=s1.new (o:=.lst [V.int (z%97)]) z9;refine⟨D,p2,_,_,rfl,rfl,ae.of (by rw[aE n2];exact h1),ae.of aA,by rw[aL];show n+1<=sizeLine;lia,λp3 EL=>?_⟩;refine q p3 _ (s2.free EL) (s2.new EL) ?_;have e3:dL (n+1) (λj=>(if j<n then f' j else z)%97)=dL n (λj=>f' j%97)++[V.int (z%97)]:=by refine(zu n _).trans ?_;rw[show bW n (λj=>V.int ((if j<n then f' j else z)%97))=dL n λj=>f' j%97 from bX λi hi=>by rw[if_pos hi]];show _++[V.int ((if n<n then f' n else z)%97)]=_;rw[if_neg (lt_irrefl n)]
 rw[aA,e3]
def rL(K:W.Frag):Sp:=λvs H Q _=>∃(l:Addr)(m n c:Nat)(a:My.tG),vs=[.ref l,.int c]/\Dn K H l m n a/\c<n/\c<=m/\m<=1000/\n<=1000 /\
 (∀i:Nat,c<=i->i<m->a i c≠0->(∀k,c<=k->k<i->a k c=0)->Q (.int i) H)/\((∀i,c<=i->i<m->a i c=0)->Q .bw H)
theorem rM:aS ["table","column","place"] ["table","column"] (aG i0):=ac
theorem AY(F:aO K mg "pivot_place" i0)(T:Txt K mg t):Def P w K mg base 1 "pivot_place" ["table","column"] (rL K):=by
 refine F.def rM (λ_ _ _ _ _ _=>am λ_ _=>rfl) (λvs H Q E h=>?_) (λf cB A outer s H vs Q E hr h=>?_)
 ·obtain⟨l,m,n,c,a,rfl,_⟩:=h;rfl
 obtain⟨l,m,n,c,a,rfl,⟨as,g1,g2⟩,hc,MF,hm,hn,q1,q2⟩:=h;refine⟨_,aC (PS.Ck (cO PassesOwn.never rfl (xC (by rfl) T.eF (aB (pv 1) (aB (bP (bY K) (by rfl) T.gI boot_len (aB (pv 0) aD)) aD))) (au (i:=2) rM.nd rfl (Or.inl rfl))
   (aF (bO (aZ vq (ai (aV K) (ai (aV K) (pv 0) (pv 2) (λ_ _=>rfl)) (pv 1) (λ_ _=>rfl)) aH (af _))
    (aF (ah (pv 2)))
    (aj)))))
  (aF (ah eM)),?_⟩
 refine⟨_,rfl,_,rfl,l,_,rfl,.inl g1,(c:Int),((bB m as).length:Nat),rfl,⟨by lia,by lia,by lia,by rw[aL];lia⟩,?_⟩;have en:((((bB m as).length:Nat):Int)-(c:Int)).toNat=m-c:=by rw[aL];lia
 rw[en];refine gE (lo:=(c:Int)) (n:=m-c) (λi σ H'=>∃v:Option V,σ=[some (.ref l),some (.int c),v]/\H'=H/\∀k,c<=k->k<c+i->a k c=0) ⟨none,rfl,rfl,λk h1 h2=>by lia⟩ ?_ ?_
 ·rintro i σ H' hi ⟨v,rfl,rfl,hz⟩;have ei:((c:Int)+(i:Nat)).toNat=c+i:=by lia
  refine⟨_,rfl,_,rfl,l,_,_,_,rfl,rfl,g1,da (by lia) (by lia),_,rfl,_,_,_,_,rfl,rfl,g2 _ (by lia),da (by lia) (by lia),rfl,_,rfl,?_⟩;by_cases z:a (c+i) c=0
  ·refine jg (by rw[ei,Int.toNat_natCast,z]) ?_;refine⟨_,rfl,rfl,λk h1 h2=>?_⟩;by_cases e:k=c+i
   ·rw[e];exact z
   exact hz k h1 (by lia)
  refine wA (λe=>z (by have:=V.int.inj e;rwa [ei,Int.toNat_natCast]at this)) ?_;refine⟨_,rfl,?_⟩;have:=q1 (c+i) (by lia) (by lia) z hz;have e:((c+i:Nat):Int)=(c:Int)+(i:Nat):=by lia
  rw[e]at this;exact this
 rintro σ H' ⟨v,rfl,rfl,hz⟩;exact q2 λi h1 h2=>hz i h1 (by lia)
def wL(K:W.Frag):Sp:=λvs H Q _=>∃(l:Addr)(m n c d:Nat)(a:My.tG),vs=[.ref l,.int c,.int d]/\Dn K H l m n a/\c<m/\d<m/\m<=1000 /\
 ∀p H',H p=none->aI H H'->Dn K H' p m n (My.swap a c d)->Q (.ref p) H'
theorem wM:aS ["table","one","other","rows"] ["table","one","other"] (aG lY):=ac
theorem EO(F:aO K mg "exchanged" lY)(T:Txt K mg t):Def P w K mg base 1 "exchanged" ["table","one","other"] (wL K):=by
 refine F.def wM (λ_ _ _ _ _ _=>ap λ_ _ _=>rfl) (λvs H Q E h=>?_) (λf cB A outer s H vs Q E hr h=>?_)
 ·obtain⟨l,m,n,c,d,a,rfl,_⟩:=h;rfl
 obtain⟨l,m,n,c,d,a,rfl,⟨as,g1,g2⟩,hc,hd,hm,q⟩:=h;refine⟨_,aC (aX (i:=3) wM.nd rfl (Or.inl rfl) (iC (fj K) (by rfl) T.rE boot_list (aB (pv 0) aD)))
  (aC (oB (ai (aV K) (pv 0) (pv 2) (λ_ _=>rfl)) (oA (pv 3) (pv 1) set_list))
  (aC (oB (ai (aV K) (pv 0) (pv 1) (λ_ _=>rfl)) (oA (pv 3) (pv 2) set_list))
  (aF (ah (pv 3))))),?_⟩
 refine⟨_,rfl,l,_,rfl,.inl g1,λp hp=>?_⟩;have s1:=(aI.refl H).new (o:=.lst (bB m as)) hp;refine⟨_,rfl,_,rfl,l,_,_,_,rfl,rfl,s1.seq g1,da (by lia) (by lia),_,rfl,_,rfl,p,_,_,_,rfl,rfl,aA,zv (by lia) (by lia),?_⟩;have s2:=s1.put (o:=.lst ((bB m as).set (c:Int).toNat (V.ref (as (d:Int).toNat)))) hp;rw[sx (by lia)]at *;refine⟨_,rfl,_,rfl,l,_,_,_,rfl,rfl,s2.seq g1,da (by lia) (by lia),_,rfl,_,rfl,p,_,_,_,rfl,rfl,aA,zv (by lia) (by lia),?_⟩;rw[sx (by lia)];refine⟨_,rfl,?_⟩;refine q p _ hp (s2.put hp) ⟨λi=>if i=d then as c else if i=c then as d else as i,ae.of ?_,λi hi=>(s2.put hp).seq ?_⟩
 ·rw[aA];refine congrArg (λl=>some (HO.lst l)) (bX λi hi=>?_);rw[Int.toNat_natCast,Int.toNat_natCast];by_cases e:i=d
  ·simp[e]
  by_cases e2:i=c
  ·subst e2;simp[e]
  simp[e,e2]
 unfold My.swap;by_cases e:i=d
 ·subst e;by_cases e2:i=c
  ·subst e2;simp;exact g2 i hi
  simp[e2];exact g2 c hc
 by_cases e2:i=c
 ·subst e2;simp[e];exact g2 d hd
 simp[e,e2];exact g2 i hi
def yf(K:W.Frag):Sp:=λvs H Q _=>∃(l b:Addr)(n:Nat)(f g:Nat->Int)(z:Int),vs=[.ref l,.ref b,.int z]/\ae K H l (dL n f)/\ae K H b (dL n g)/\n<=1000/\0<=z/\z<97 /\
 ∀p H',H p=none->aI H H'->H' p=some (.lst (dL n λj=>(f j-z*g j)%97))->Q (.ref p) H'
theorem GL:aS ["row","head","times"] ["row","head","times"] (aG kE):=ac
theorem GN(F:aO K mg "lessened" kE)(T:Txt K mg t):Def P w K mg base 1 "lessened" ["row","head","times"] (yf K):=by
 refine F.def GL (λ_ _ _ _ _ _=>ap λ_ _ _=>rfl) (λvs H Q E h=>?_) (λf cB A outer s H vs Q E hr h=>?_)
 ·obtain⟨l,b,n,f,g,z,rfl,_⟩:=h;rfl
 obtain⟨l,b,n,f',g',z,rfl,hl,hb,hn,z0,z1,q⟩:=h;refine⟨_,aF (ah (jf rfl (Nc:=["sign","top","times"]) (ix:=[none,none,some 2]) (cW (aG kE) ["row","head","times"] rfl rfl (by decide +kernel)) (Dp K (by rfl) T.Ko (aB (pv 0) (aB (pv 1) aD))) (λC fp s H=>⟨(iz K (i:=0) (j:=1) rfl (show(["sign","top","times"]:List Str).Nodup by decide +kernel) rfl rfl (Or.inl rfl) (Or.inl rfl)),cH,(aQ cF (aQ dv (pv 0) (aQ eQ (pv 2) (pv 1))) (aW T.cQ))⟩))),?_⟩;have hsz:(2000:Nat)<=sizeLine:=by decide
 refine⟨_,rfl,_,rfl,l,b,rfl,⟨_,hl⟩,⟨_,hb⟩,λD hD=>?_⟩;refine Kb (K:=K) (a:=l) (b:=b) (n:=n) (F:=λj=>V.int (f' j)) (G:=λj=>V.int (g' j)) (λi σ H'=>∃v u:Option V,σ=[v,u,some (.int z)]/\aI H H'/\H' D=some (.lst (dL i λj=>(f' j-z*g' j)%97))) ⟨none,none,rfl,(aI.refl _).new hD,aA⟩ (λi σ H' _ ⟨_,_,_,s1,_⟩=>⟨s1.seq hl,s1.seq hb⟩) ?_ ?_
 ·rintro i p σ H' N hN hi ⟨v,u,rfl,s1,h1⟩ hp;refine zt ?_;have nD:D≠p:=aR h1 hp;refine⟨_,rfl,_,rfl,_,rfl,_,_,rfl,rfl,.inl ⟨by lia,by lia⟩,_,_,rfl,rfl,_,_,rfl,rfl,(by show(0:Int)<97;decide),_,(by rw[aE nD];exact h1),by rw[aL];lia,?_⟩;exact hN _ _ ⟨_,_,rfl,(s1.new hp).put hD,lS rfl⟩
 rintro σ H' ⟨v,u,rfl,s1,h1⟩;exact q D H' hD s1 h1
def AZ(K:W.Frag):Sp:=λvs H Q _=>∃(l:Addr)(m n c:Nat)(a:My.tG),vs=[.ref l,.int c]/\Dn K H l m n a/\c<m/\c<n/\m<=1000/\n<=1000/\(∀i j,i<m->j<n->0<=a i j/\a i j<97)/\a c c≠0 /\
 ∀p H',H p=none->aI H H'->Dn K H' p m n (My.clear a c (My.P (a c c) 95))->Q (.ref p) H'
theorem oX:aS ["table","column","factor","head","rows"] ["table","column"] (aG j4):=ac
theorem Ie(F:aO K mg "cleared" j4)(T:Txt K mg t)(j6:Def P w K mg base 4 "inverse" ["a"] (uT t.BadSign))(uV:Def P w K mg base 1 "lessened" ["row","head","times"] (yf K)):Def P w K mg base 5 "cleared" ["table","column"] (AZ K):=by
 refine F.def oX (λ_ _ _ _ _ _=>am λ_ _=>rfl) (λvs H Q E h=>?_) (λf cB A outer s H vs Q E hr h=>?_)
 ·obtain⟨l,m,n,c,a,rfl,_⟩:=h;rfl
 obtain⟨l,m,n,c,a,rfl,⟨as,g1,g2⟩,MF,Xr,hm,hn,ha,h0,q⟩:=h;refine⟨_,aC (aX (i:=2) oX.nd rfl (Or.inr rfl) (aY (j6.mono (by decide)) hr (jB aw) (aB (ai (aV K) (ai (aV K) (pv 0) (pv 1) (λ_ _=>rfl)) (pv 1) (λ_ _=>rfl)) aD)))
  (aC (aX (i:=3) oX.nd rfl (Or.inr rfl) (jf rfl (Nc:=["sign","factor"]) (ix:=[none,some 2]) (cW (aG j4) ["table","column","factor","head","rows"] rfl rfl (by decide +kernel)) (bz K (ai (aV K) (pv 0) (pv 1) (λ_ _=>rfl))) (λC fp s H=>⟨(au (i:=0) (show(["sign","factor"]:List Str).Nodup by decide +kernel) rfl (Or.inl rfl)),cH,(aQ cF (aQ eQ (pv 0) (pv 1)) (aW T.cQ))⟩)))
  (aC (j9 (i:=4) oX.nd rfl (Or.inl rfl) rfl (Nc:=["row","head","column"]) (ix:=[none,some 3,some 1]) (cW (aG j4) ["table","column","factor","head","rows"] rfl rfl (by decide +kernel)) (bz K (pv 0)) (λC fp s H=>⟨(au (i:=0) (show(["row","head","column"]:List Str).Nodup by decide +kernel) rfl (Or.inl rfl)),cH,(aY (uV.mono (by decide)) hr av (aB (pv 0) (aB (pv 1) (aB (ai (aV K) (pv 0) (pv 2) (λ_ _=>rfl)) aD))))⟩))
  (aC (oB (pv 3) (oA (pv 4) (pv 1) set_list))
  (aF (ah (pv 4)))))),?_⟩
 have hsz:(2000:Nat)<=sizeLine:=by decide
 have ec:((c:Nat):Int).toNat=c:=Int.toNat_natCast c;have NL:=ha c c MF Xr;refine⟨_,rfl,_,rfl,l,_,_,_,rfl,rfl,g1,da (by lia) (by lia),_,rfl,_,_,_,_,rfl,rfl,g2 _ (by lia),da (by lia) (by lia),_,rfl,?_,λ_=>?_,λh=>absurd ?_ h⟩
 ·rw[ec];exact dJ (by lia) (by lia)
 ·rw[ec];have f0:=My.Zc (a c c) 95;have f1:=My.WZ (a c c) 95;generalize My.P (a c c) 95=Us at *;refine⟨_,rfl,_,rfl,l,_,_,_,rfl,rfl,g1,da (by lia) (by lia),_,rfl,⟨_,g2 _ (by lia)⟩,λD hD=>?_⟩;rw[ec]
  let I1:Nat->_->_->Prop:=λi σ H'=>∃v:Option V,σ=[v,some (.int Us)]/\aI H H'/\H' D=some (.lst (dL i λj=>a c j*Us%97))
  refine oJ (K:=K) (a:=as c) (n:=n) (F:=λj=>V.int (a c j)) I1 ⟨none,rfl,(aI.refl _).new hD,aA⟩ (λi σ H' _ ⟨_,_,s1,_⟩=>s1.seq (g2 c MF)) ?_ ?_
  ·rintro i σ H' N hN hi ⟨v,rfl,s1,h1⟩;have hb:=ha c i MF hi;refine dF ?_;refine⟨_,rfl,_,rfl,_,_,rfl,rfl,.inl ⟨by lia,by lia⟩,_,_,rfl,rfl,(by show(0:Int)<97;decide),_,h1,by rw[aL];lia,?_⟩;exact hN _ _ ⟨_,rfl,s1.put hD,lS rfl⟩
  rintro σ H1 ⟨v,rfl,s1,h1⟩;refine⟨_,rfl,l,rfl,⟨_,s1.seq g1⟩,λD2 DJ=>?_⟩;have nDD:D≠D2:=aR h1 DJ
  let I2:Nat->_->_->Prop:=λi σ H'=>∃(v:Option V)(ps:Nat->Addr),σ=[v,some (.ref D),some (.int c)]/\aI H1 H'/\H' D2=some (.lst (bB i ps))/\∀k,k<i->ae K H' (ps k) (dL n λj=>(a k j-a k c*(a c j*Us%97))%97)/\ps k≠D2
  refine oJ (K:=K) (a:=l) (n:=m) (F:=λi=>V.ref (as i)) I2
   ⟨none,as,rfl,(aI.refl _).new DJ,aA,λk hk=>by lia⟩ (λi σ H' _ ⟨_,_,_,s2,_⟩=>s2.seq (s1.seq g1)) ?_ ?_
  ·rintro i σ H' N hN hi ⟨v,ps,rfl,s2,h2,hp⟩;have hb:=ha i c hi Xr;refine dF ?_;refine⟨_,rfl,_,rfl,_,rfl,_,rfl,as i,_,_,_,rfl,rfl,s2.seq (s1.seq (g2 i hi)),da (by lia) (by lia),as i,D,n,a i,(λj=>a c j*Us%97),_,rfl,s2.seq (s1.seq (g2 i hi)),ae.of (s2 _ _ h1),hn,?_,?_,λp H2 Wn s3 h3=>?_⟩
   ·rw[ec];exact hb.1
   ·rw[ec];exact hb.2
   have np:D2≠p:=aR h2 Wn;refine⟨_,s3 _ _ h2,by rw[aL];lia,?_⟩;rw[dM];refine hN _ _ ⟨_,_,rfl,(s2.trans s3).put DJ,aA,λk hk=>?_⟩;by_cases e:k=i
   ·subst e;simp only[if_true];refine⟨ae.of ?_,Ne.symm np⟩;rw[aE (Ne.symm np),h3,ec]
   simp only[e,if_false];obtain⟨q1,q2⟩:=hp k (by lia);refine⟨?_,q2⟩;rcases s3.seq q1 with(z|⟨o,z⟩)|z
   ·exact .inl (.inl (by rw[aE q2];exact z))
   ·exact .inl (.inr ⟨o,by rw[aE q2];exact z⟩)
   exact .inr z
  rintro σ H' ⟨v,ps,rfl,s2,h2,hp⟩;refine⟨_,rfl,_,rfl,_,rfl,D2,_,_,_,rfl,rfl,h2,zv (by lia) (by lia),?_⟩;rw[sx (by lia),ec];refine⟨_,rfl,?_⟩;refine q D2 _ (s1.free DJ) ((s1.trans s2).put (s1.free DJ)) ⟨λk=>if k=c then D else ps k,ae.of ?_,λi hi=>?_⟩
  ·rw[aA];refine congrArg (λl=>some (HO.lst l)) (bX λk hk=>?_);by_cases e:k=c<;>simp[e]
  by_cases e:i=c
  ·subst e;have e2:dL n (My.clear a i Us i)=dL n λj=>a i j*Us%97:=bX λj hj=>(by unfold My.clear;rw[if_pos rfl]);simp only[if_true];rw[e2];exact ae.of (by rw[aE nDD];exact s2 _ _ h1)
  obtain⟨q1,q2⟩:=hp i hi;have e2:dL n (My.clear a c Us i)=dL n λj=>(a i j-a i c*(a c j*Us%97))%97:=bX λj hj=>by unfold My.clear;rw[if_neg e]
  simp only[e,if_false];rw[e2];rcases q1 with(z|⟨o,z⟩)|z
  ·exact .inl (.inl (by rw[aE q2];exact z))
  ·exact .inl (.inr ⟨o,by rw[aE q2];exact z⟩)
  exact .inr z
 rw[ec];exact⟨by lia,NL.2⟩
def jL(n:Nat)(a:My.tG)(b:Nat->Int):My.tG:=λi j=>(if j<n then a i j else b i)%97
theorem Kr(n:Nat)(a:My.tG)(b:Nat->Int)(z:Nat->Int)(i:Nat):(97:Int) ∣ My.ip (n+1) (jL n a b i) z-(My.ip n (a i) z+b i*z n):=by
 have h1:My.ip (n+1) (jL n a b i) z=My.ip n (jL n a b i) z+jL n a b i n*z n:=by unfold My.ip;rw[My.sumTo]
 have h2:(97:Int) ∣ My.ip n (jL n a b i) z-My.ip n (a i) z:=My.Fu λj hj=>by unfold jL;rw[if_pos hj];exact My.gW _
 have h3:(97:Int) ∣ jL n a b i n*z n-b i*z n:=by
  have:(97:Int) ∣ (jL n a b i n-b i)*z n:=Int.dvd_trans (by unfold jL;rw[if_neg (lt_irrefl n)];exact My.gW _) (Int.dvd_mul_right _ _)
  rwa [Int.sub_mul]at this
 rw[h1];have:=Int.dvd_add h2 h3
 rwa [show My.ip n (jL n a b i) z-My.ip n (a i) z+(jL n a b i n*z n-b i*z n)=My.ip n (jL n a b i) z+jL n a b i n*z n-(My.ip n (a i) z+b i*z n) by lia]at this
theorem Aa{n:Nat}{a:My.tG}{b:Nat->Int}:My.uS n (n+1) (jL n a b) z↔∀i,i<n->(97:Int) ∣ My.ip n (a i) z+b i*z n:=by
 constructor
 ·intro k i hi;have:=Int.dvd_sub (k i hi) (Kr n a b z i)
  rwa [show My.ip (n+1) (jL n a b i) z-(My.ip (n+1) (jL n a b i) z-(My.ip n (a i) z+b i*z n))=My.ip n (a i) z+b i*z n by lia]at this
 intro k i hi;have:=Int.dvd_add (k i hi) (Kr n a b z i)
 rwa [show My.ip n (a i) z+b i*z n+(My.ip (n+1) (jL n a b i) z-(My.ip n (a i) z+b i*z n))=My.ip (n+1) (jL n a b i) z by lia]at this
theorem O0(n:Nat)(r z:Nat->Int)(u:Int):My.ip n r (λj=>if j<n then z j else u)=My.ip n r z:=My.be n λj hj=>by simp[hj]
theorem SA{n c:Nat}{a:My.tG}{b:Nat->Int}{u:My.tG}(hk:∀z,My.uS n (n+1) u z↔My.uS n (n+1) (jL n a b) z)(h:My.Clear n c u)(hc:c<n)(hz:∀i,c<=i->i<n->u i c=0):¬My.Fv n a:=by obtain⟨z,k,z1,z2⟩:=h.stuck hc hz;intro r;have k2:=Aa.mp ((hk z).mp k);have:=r z (λi hi=>by have:=k2 i hi;rw[z2]at this;simpa using this) c hc;rw[z1]at this;lia
theorem Ig{n:Nat}{a:My.tG}{b:Nat->Int}{u:My.tG}(hk:∀z,My.uS n (n+1) u z↔My.uS n (n+1) (jL n a b) z)(h:My.Clear n n u):My.Fv n a/\∀i,i<n->(97:Int) ∣ My.ip n (a i) (λj=>u j n)-b i:=by
 constructor
 ·intro z k j hj;have k2:My.uS n (n+1) (jL n a b) (λj=>if j<n then z j else 0):=Aa.mpr λi hi=>by rw[O0];simp only[lt_irrefl,if_false,Int.mul_zero,Int.add_zero];exact k i hi
  have k3:=(hk _).mpr k2 j hj;rw[h.full _ j hj]at k3
  simpa[hj]using k3
 intro i hi;have k1:My.uS n (n+1) u (λj=>if j<n then-u j n else 1):=λi hi=>by rw[h.full _ i hi];simp only[hi,if_true,lt_irrefl,if_false];exact⟨0,by lia⟩
 have k2:=Aa.mp ((hk _).mp k1) i hi;rw[O0]at k2;simp only[lt_irrefl,if_false,Int.mul_one]at k2;have e:My.ip n (a i) (λj=>- u j n)=- My.ip n (a i) (λj=>u j n):=by have:=My.xK (-1) (λj=>a i j*u j n) n;unfold My.ip;rw[show My.sumTo n (λj=>a i j * - u j n)=My.sumTo n (λj=>-1*(a i j*u j n))from My.be n λj _=>by grind,this];show -1*My.sumTo n (λj=>a i j*u j n)=- My.sumTo n (λj=>a i j*u j n);lia
 rw[e]at k2;have:=Int.dvd_neg.mpr k2
 rwa [show -(-My.ip n (a i) (λj=>u j n)+b i)=My.ip n (a i) (λj=>u j n)-b i by lia]at this
theorem O1{m n c:Nat}{a:My.tG}{f:Int}:∀i j,i<m->j<n->0<=My.clear a c f i j/\My.clear a c f i j<97:=λi j _ _=>by unfold My.clear;split<;>exact⟨Int.emod_nonneg _ (by decide),Int.emod_lt_of_pos _ (by decide)⟩
theorem SD{m n p q:Nat}{a:My.tG}(hp:p<m)(hq:q<m)(h:∀i j,i<m->j<n->0<=a i j/\a i j<97):∀i j,i<m->j<n->0<=My.swap a p q i j/\My.swap a p q i j<97:=λi j hi hj=>by
 unfold My.swap;split
 ·exact h q j hq hj
 split
 ·exact h p j hp hj
 exact h i j hi hj
def xS(K:W.Frag):Sp:=λvs H Q _=>∃(l r:Addr)(n:Nat)(a:My.tG)(b:Nat->Int),vs=[.ref l,.ref r]/\Dn K H l n n a/\ae K H r (dL n b)/\n<=100 /\
 (My.Fv n a->∀p H' x,H p=none->aI H H'->H' p=some (.lst (dL n x))->(∀i,i<n->0<=x i/\x i<97)->(∀i,i<n->(97:Int) ∣ My.ip n (a i) x-b i)->Q (.ref p) H')/\(¬My.Fv n a->∀H',aI H H'->Q .bw H')
theorem nN:aS ["rows","right","table","column","place"] ["rows","right"] (aG nE):=ac
theorem MG(F:aO K mg "solved" nE)(T:Txt K mg t)(uW:Def P w K mg base 1 "equation" ["row","side"] (ye K))(mB:Def P w K mg base 1 "pivot_place" ["table","column"] (rL K))(rN:Def P w K mg base 1 "exchanged" ["table","one","other"] (wL K))(xT:Def P w K mg base 5 "cleared" ["table","column"] (AZ K)):Def P w K mg base 6 "solved" ["rows","right"] (xS K):=by
 refine F.def nN (λ_ _ _ _ _ _=>am λ_ _=>rfl) (λvs H Q E h=>?_) (λf cB A outer s H vs Q E hr h=>?_)
 ·obtain⟨l,r,n,a,b,rfl,_⟩:=h;rfl
 obtain⟨l,r,n,a,b,rfl,⟨as,g1,g2⟩,Ut,hn,q1,q2⟩:=h;refine⟨_,aC (j9 (i:=2) nN.nd rfl (Or.inl rfl) rfl (Nc:=["row","side"]) (ix:=[none,none]) (cW (aG nE) ["rows","right","table","column","place"] rfl rfl (by decide +kernel)) (Dp K (by rfl) T.Ko (aB (pv 0) (aB (pv 1) aD))) (λC fp s H=>⟨(iz K (i:=0) (j:=1) rfl (show(["row","side"]:List Str).Nodup by decide +kernel) rfl rfl (Or.inl rfl) (Or.inl rfl)),cH,(aY (uW.mono (by decide)) hr av (aB (pv 0) (aB (pv 1) aD)))⟩))
  (aC (PS.Ck (cO PassesOwn.never rfl (dH (by rfl) T.eF (aB (bP (bY K) (by rfl) T.gI boot_len (aB (pv 2) aD)) aD)) (au (i:=3) nN.nd rfl (Or.inl rfl))
   (aC (aX (i:=4) nN.nd rfl (Or.inl rfl) (aY (mB.mono (by decide)) hr av (aB (pv 2) (aB (pv 3) aD))))
   (aC (bO (aZ DY (pv 4) eM (af _))
    (aF (ah eM))
    (aj))
   (aF (aX (i:=2) nN.nd rfl (Or.inl rfl) (aY (xT.mono (by decide)) hr av (aB (aY (rN.mono (by decide)) hr av (aB (pv 2) (aB (pv 3) (aB (pv 4) aD)))) (aB (pv 3) aD)))))))))
  (aF (ah (jf rfl (Nc:=["row"]) (ix:=[none]) (cW (aG nE) ["rows","right","table","column","place"] rfl rfl (by decide +kernel)) (bz K (pv 2)) (λC fp s H=>⟨(au (i:=0) (show(["row"]:List Str).Nodup by decide +kernel) rfl (Or.inl rfl)),cH,(ai (aV K) (pv 0) (FR ze aH) (λ_ _=>rfl))⟩))))),?_⟩
 have hsz:(2000:Nat)<=sizeLine:=by decide
 refine⟨_,rfl,_,rfl,l,r,rfl,⟨_,g1⟩,⟨_,Ut⟩,λD hD=>?_⟩
 let I3:Nat->_->_->Prop:=λi σ H'=>∃(v u:Option V)(ps:Nat->Addr),σ=[v,u]/\aI H H'/\H' D=some (.lst (bB i ps))/\∀k,k<i->H' (ps k)=some (.lst (dL (n+1) (jL n a b k)))/\ps k≠D
 refine Kb (K:=K) (a:=l) (b:=r) (n:=n) (F:=λi=>V.ref (as i)) (G:=λi=>V.int (b i)) I3
  ⟨none,none,as,rfl,(aI.refl _).new hD,aA,λk hk=>by lia⟩ (λi σ H' _ ⟨_,_,_,_,s1,_⟩=>⟨s1.seq g1,s1.seq Ut⟩) ?_ ?_
 ·rintro i pt σ H' N hN hi ⟨v,u,ps,rfl,s1,h1,hp⟩ Wp;refine zt ?_;have nD:D≠pt:=aR h1 Wp;have st:=(aI.refl H').new (o:=.tup [V.ref (as i),V.int (b i)]) Wp;refine⟨_,rfl,_,rfl,as i,n,a i,b i,rfl,st.seq (s1.seq (g2 i hi)),by lia,λp H2 Wn s2 h2=>?_⟩;have s3:=st.trans s2;have np:D≠p:=aR (st _ _ h1) Wn;refine⟨_,s3 _ _ h1,by rw[aL];lia,?_⟩;rw[dM];refine hN _ _ ⟨_,_,_,rfl,(s1.trans s3).put hD,aA,λk hk=>?_⟩;by_cases e:k=i
  ·subst e;simp only[if_true];exact⟨by rw[aE (Ne.symm np),h2];rfl,Ne.symm np⟩
  simp only[e,if_false];obtain⟨z1,z2⟩:=hp k (by lia);exact⟨by rw[aE z2];exact s3 _ _ z1,z2⟩
 rintro σ H1 ⟨v,u,ps,rfl,s1,h1,hp⟩;have G0:Dn K H1 D n (n+1) (jL n a b):=⟨ps,ae.of h1,λi hi=>ae.of (hp i hi).1⟩;refine⟨_,rfl,D,_,rfl,.inl (ae.of h1),_,rfl,by lia,by rw[aL];lia,?_⟩;have en:(((bB n ps).length:Nat):Int).toNat=n:=by rw[aL,Int.toNat_natCast]
 rw[en]
 let I4:Nat->_->_->Prop:=λc σ H'=>∃(v v':Option V)(l':Addr)(u:My.tG),σ=[some (.ref l),some (.ref r),some (.ref l'),v,v']/\aI H1 H'/\Dn K H' l' n (n+1) u/\(∀i j,i<n->j<n+1->0<=u i j/\u i j<97)/\My.Clear n c u/\∀z,My.uS n (n+1) u z↔My.uS n (n+1) (jL n a b) z
 refine gE (lo:=0) (n:=n) I4
  ⟨none,none,D,jL n a b,rfl,aI.refl _,G0,λi j _ _=>⟨Int.emod_nonneg _ (by decide),Int.emod_lt_of_pos _ (by decide)⟩,My.Clear.start _ _,λz=>Iff.rfl⟩ ?_ ?_
 ·rintro c σ H' hc ⟨v,v',l',u,rfl,s2,G,hu,Ql,hk⟩;have e0:(0:Int)+(c:Nat)=((c:Nat):Int):=by lia
  rw[e0];refine⟨_,rfl,_,rfl,l',n,n+1,c,u,rfl,G,by lia,by lia,by lia,by lia,λp EK z9 EL _=>?_,λhz=>?_⟩
  ·refine⟨_,rfl,rfl,_,rfl,eZ (λz=>nomatch z) ?_⟩
   refine⟨_,rfl,_,rfl,_,rfl,l',n,n+1,c,p,u,rfl,G,hc,z9,by lia,λx1 H2 Ks s3 G2=>?_⟩;have hsw:My.swap u c p c c=u p c:=(by unfold My.swap;rw[if_pos rfl]);have hin:=SD (n:=n+1) hc z9 hu;have SE:=hin c c hc (by lia);refine⟨_,rfl,x1,n,n+1,c,My.swap u c p,rfl,G2,hc,by lia,by lia,by lia,hin,by rw[hsw];exact EL,λx2 H3 WG s4 G3=>?_⟩;have hinv:(97:Int) ∣ My.P (My.swap u c p c c) 95*My.swap u c p c c-1:=by have:=My.Ul (a:=My.swap u c p c c) (by rw[hsw]at *;lia) SE.2;lia
   exact⟨_,_,x2,_,rfl,s2.trans (s3.trans s4),G3,O1,(Ql.swap EK z9).clear hc hinv,λz=>(My.uS.clear hc hinv).trans ((My.uS.swap hc z9).trans (hk z))⟩
  refine⟨_,rfl,rfl,_,rfl,eJ rfl ?_⟩;exact q2 (SA hk Ql hc hz) H' (s1.trans s2)
 rintro σ H' ⟨v,v',l',u,rfl,s2,⟨bs,G1,G2⟩,hu,Ql,hk⟩;obtain⟨SF,aDh⟩:=Ig hk Ql;refine⟨_,rfl,l',rfl,⟨_,G1⟩,λD2 DJ=>?_⟩
 let I5:Nat->_->_->Prop:=λi σ H2=>∃v:Option V,σ=[v]/\aI H' H2/\H2 D2=some (.lst (dL i λk=>u k n))
 refine oJ (K:=K) (a:=l') (n:=n) (F:=λi=>V.ref (bs i)) I5 ⟨none,rfl,(aI.refl _).new DJ,aA⟩ (λi σ H' _ ⟨_,_,s1,_⟩=>s1.seq G1) ?_ ?_
 ·rintro i σ H2 N hN hi ⟨v,rfl,s3,h3⟩;refine dF ?_;refine⟨_,rfl,_,rfl,_,_,_,_,rfl,rfl,s3.seq (G2 i hi),OH,_,h3,by rw[aL];lia,?_⟩;exact hN _ _ ⟨_,rfl,s3.put DJ,lS rfl⟩
 rintro σ H2 ⟨v,rfl,s3,h3⟩;have Zx:=(s1.trans s2);exact q1 SF D2 H2 _ (Zx.free DJ) (Zx.trans s3) h3 (λi hi=>hu i n hi (by lia)) aDh
def tz(K:W.Frag):Sp:=λvs H Q _=>∃(l:Addr)(s:Nat->Int),vs=[.ref l]/\ae K H l (dL 6 s)/\(∀j,j<6->0<=s j/\s j<97) /\
 ∀p H',H p=none->aI H H'->H' p=some (.lst ((My.qv s).map λk=>V.int (k:Nat)))->Q (.ref p) H'
theorem t7:aS ["sums","place"] ["sums"] (aG jo):=ac
theorem Bj(F:aO K mg "lone_place" jo)(T:Txt K mg t)(uX:Def P w K mg base 4 "exponent" ["a"] (yb t.BadSign))(j6:Def P w K mg base 4 "inverse" ["a"] (uT t.BadSign)):Def P w K mg base 5 "lone_place" ["sums"] (tz K):=by
 refine F.def t7 (λ_ _ _ _ _ _=>ad λ_=>rfl) (λvs H Q E h=>?_) (λf cB A outer s H vs Q E hr h=>?_)
 ·obtain⟨l,s,rfl,_⟩:=h;rfl
 obtain⟨l,s,rfl,hl,bs,q⟩:=h;refine⟨_,aC (bO (PW.pt (zb (aZ jA (ai (aV K) (pv 0) aH (λ_ _=>rfl)) aH (af _)) (uK (aZ jA (ai (aV K) (pv 0) aH (λ_ _=>rfl)) aH (af _)))))
   (aF (ah (ba aD)))
   (aj))
  (aC (aX (i:=1) t7.nd rfl (Or.inl rfl) (aY (uX.mono (by decide)) hr av (aB (aQ cF (aQ eQ (ai (aV K) (pv 0) aH (λ_ _=>rfl)) (aY (j6.mono (by decide)) hr av (aB (ai (aV K) (pv 0) aH (λ_ _=>rfl)) aD))) (aW T.cQ)) aD)))
  (aF (ah (qg (aZ lQ (pv 1) (aW T.zR) (af _)) (ba (aB (pv 1) aD)) (ba aD))))),?_⟩
 have b0:=bs 0 (by decide);have b1:=bs 1 (by decide);have a0:uL (dL 6 s) 0=some (V.int (s 0)):=da (n:=6) (by decide) (by decide);have a1:uL (dL 6 s) 1=some (V.int (s 1)):=da (n:=6) (by decide) (by decide);have q':∀p,H p=none->Q (.ref p) (dl H p (.lst ((My.qv s).map λk=>V.int (k:Nat)))):=λp hp=>q p _ hp ((aI.refl _).new hp) aA;refine⟨_,rfl,l,_,_,_,rfl,rfl,hl,a0,rfl,_,rfl,?_⟩;by_cases z0:s 0=0
 ·refine eJ (by rw[z0]) (iD ?_);refine⟨zz0,λp hp=>?_⟩;have:=q' p hp
  rwa [My.qv,if_pos (.inl z0)]at this
 refine eZ (λe=>z0 (V.int.inj e)) ?_;refine⟨_,rfl,l,_,_,_,rfl,rfl,hl,a1,rfl,_,rfl,?_⟩;by_cases z1:s 1=0
 ·refine eJ (by rw[z1]) ?_;refine⟨zz0,λp hp=>?_⟩;have:=q' p hp
  rwa [My.qv,if_pos (.inr z1)]at this
 refine eZ (λe=>z1 (V.int.inj e)) ?_;have hinv:=My.Ly (a:=s 0) (by lia) b0.2;have Zy:=My.WZ (s 0) 95;have hv:=My.Wa (a:=s 1) (b:=My.P (s 0) 95) (by lia) b1.2 hinv Zy;have hv1:s 1*My.P (s 0) 95%97<97:=Int.emod_lt_of_pos _ (by decide);refine⟨_,rfl,l,_,_,_,rfl,rfl,hl,a1,_,rfl,l,_,_,_,rfl,rfl,hl,a0,s 0,rfl,dJ (by lia) (by lia),λ_=>?_,λh=>absurd ⟨by lia,b0.2⟩ h⟩;refine⟨_,_,rfl,rfl,.inl ⟨by lia,by lia⟩,_,_,rfl,rfl,(by show(0:Int)<97;decide),_,rfl,dJ (by lia) (by lia),λ_=>?_,λh=>absurd ⟨hv,hv1⟩ h⟩;have e0:=My.Ob (s 1*My.P (s 0) 95%97);refine⟨_,rfl,_,_,rfl,rfl,_,rfl,?_⟩;by_cases hp:My.ex (s 1*My.P (s 0) 95%97)<24
 ·refine eJ hp ?_;refine⟨_,rfl,zz1,λp Wn=>?_⟩;have:=q' p Wn;rw[My.qv,if_neg (by lia),if_pos hp]at this;have e1:[V.int (My.ex (s 1*My.P (s 0) 95%97))]=([(My.ex (s 1*My.P (s 0) 95%97)).toNat].map λk=>V.int (k:Nat)):=by show _=[V.int (((My.ex (s 1*My.P (s 0) 95%97)).toNat:Nat):Int)];rw[Int.toNat_of_nonneg e0]
  rw[e1];exact this
 refine eZ hp ?_;refine⟨zz0,λp Wn=>?_⟩;have:=q' p Wn
 rwa [My.qv,if_neg (by lia),if_neg hp]at this
def Ab:Sp:=λvs H Q _=>∃x t u:Int,vs=[.int x,.int t,.int u]/\0<=x/\x<97/\0<=t/\t<97/\Q (.bl (decide ((x*x-t*x+u)%97=0))) H
theorem Ih:aS ["point","total","product"] ["point","total","product"] (aG tJ):=ac
theorem Ii(F:aO K mg "is_root" tJ)(T:Txt K mg t):Def P w K mg base 1 "is_root" ["point","total","product"] Ab:=by
 refine F.def Ih (λ_ _ _ _ _ _=>ap λ_ _ _=>rfl) (λvs H Q E h=>?_) (λf cB A outer s H vs Q E hr h=>?_)
 ·obtain⟨x,t,u,rfl,_⟩:=h;rfl
 obtain⟨x,tt,u,rfl,x0,x1,t0,t1,q⟩:=h;refine⟨_,aF (ah (fW jA (aQ cF (aQ bK (aQ dv (aQ eQ (pv 0) (pv 0)) (aQ eQ (pv 1) (pv 0))) (pv 2)) (aW T.cQ)) aH (af _))),?_⟩;refine⟨_,rfl,_,rfl,_,_,rfl,rfl,.inl ⟨by lia,by lia⟩,_,rfl,_,rfl,_,_,rfl,rfl,.inl ⟨by lia,by lia⟩,_,_,rfl,rfl,_,rfl,_,_,rfl,rfl,_,_,rfl,rfl,(by show(0:Int)<97;decide),rfl,?_⟩;have e:decide (V.int ((x*x-tt*x+u)%97)=V.int 0)=decide ((x*x-tt*x+u)%97=0):=decide_eq_decide.mpr ⟨λh=>V.int.inj h,λh=>by rw[h]⟩;show Q (.bl (decide (V.int ((x*x-tt*x+u)%97)=V.int 0))) H;rw[e];exact q
def nO(K:W.Frag):Sp:=λvs H Q _=>∃(l:Addr)(s:Nat->Int),vs=[.ref l]/\ae K H l (dL 6 s)/\(∀j,j<6->0<=s j/\s j<97) /\
 ∀p H' ps,H p=none->aI H H'->H' p=some (.lst (ps.map λk=>V.int (k:Nat)))->My.Ol s ps->Q (.ref p) H'
theorem iO:aS ["sums","rows","pair"] ["sums"] (aG di):=ac
theorem xU(F:aO K mg "turned_places" di)(T:Txt K mg t)(nP:Def P w K mg base 6 "solved" ["rows","right"] (xS K))(oY:Def P w K mg base 5 "lone_place" ["sums"] (tz K))(xV:Def P w K mg base 1 "is_root" ["point","total","product"] Ab)(fY:Def P w K mg base 3 "power" ["a","k"] (rJ t.BadSign)):Def P w K mg base 7 "turned_places" ["sums"] (nO K):=by
 refine F.def iO (λ_ _ _ _ _ _=>ad λ_=>rfl) (λvs H Q E h=>?_) (λf cB A outer s H vs Q E hr h=>?_)
 ·obtain⟨l,s,rfl,_⟩:=h;rfl
 obtain⟨l,s,rfl,hl,bs,q⟩:=h;refine⟨_,aC (aX (i:=1) iO.nd rfl (Or.inl rfl) (ba (aB (ba (aB (ai (aV K) (pv 0) aH (λ_ _=>rfl)) (aB (aQ cF (FR ze (ai (aV K) (pv 0) aH (λ_ _=>rfl))) (aW T.cQ)) aD))) (aB (ba (aB (ai (aV K) (pv 0) aH (λ_ _=>rfl)) (aB (aQ cF (FR ze (ai (aV K) (pv 0) aH (λ_ _=>rfl))) (aW T.cQ)) aD))) aD))))
  (aC (aX (i:=2) iO.nd rfl (Or.inr rfl) (aY (nP.mono (by decide)) hr av (aB (pv 1) (aB (ba (aB (ai (aV K) (pv 0) aH (λ_ _=>rfl)) (aB (ai (aV K) (pv 0) aH (λ_ _=>rfl)) aD))) aD))))
  (aC (bO (aZ DY (pv 2) eM (af _))
   (aF (ah (aY (oY.mono (by decide)) hr av (aB (pv 0) aD))))
   (aj))
  (aF (ah (jf rfl (Nc:=["place","pair"]) (ix:=[none,some 2]) (cW (aG di) ["sums","rows","pair"] rfl rfl (by decide +kernel)) (dH (by rfl) T.eF (aB (aW T.zR) aD)) (λC fp s H=>⟨(au (i:=0) (show(["place","pair"]:List Str).Nodup by decide +kernel) rfl (Or.inl rfl)),(Dm (jJ (aY (xV.mono (by decide)) hr av (aB (aY (fY.mono (by decide)) hr av (aB (aW T.Kl) (aB (pv 0) aD))) (aB (ai (aV K) (pv 1) aH (λ_ _=>rfl)) (aB (ai (aV K) (pv 1) aH (λ_ _=>rfl)) aD)))))),(pv 0)⟩)))))),?_⟩
 have a0:uL (dL 6 s) 0=some (V.int (s 0)):=da (n:=6) (by decide) (by decide);have a1:uL (dL 6 s) 1=some (V.int (s 1)):=da (n:=6) (by decide) (by decide);have a2:uL (dL 6 s) 2=some (V.int (s 2)):=da (n:=6) (by decide) (by decide);have a3:uL (dL 6 s) 3=some (V.int (s 3)):=da (n:=6) (by decide) (by decide);have b4:∀j,j<4->0<=s j/\s j<97:=λj hj=>bs j (by lia);refine⟨_,rfl,l,_,_,_,rfl,rfl,hl,a1,_,rfl,l,_,_,_,rfl,rfl,hl,a0,_,rfl,_,_,rfl,rfl,(by show(0:Int)<97;decide),zz2,λr1 Ut=>?_⟩;have s1:=(aI.refl H).new (o:=.lst [V.int (s 1),V.int (-(s 0)%97)]) Ut;refine⟨_,rfl,l,_,_,_,rfl,rfl,s1.seq hl,a2,_,rfl,l,_,_,_,rfl,rfl,s1.seq hl,a1,_,rfl,_,_,rfl,rfl,(by show(0:Int)<97;decide),zz2,λr2 NQ=>?_⟩;have s2:=s1.new (o:=.lst [V.int (s 2),V.int (-(s 1)%97)]) NQ;refine⟨zz2,λr3 Zz=>?_⟩;have s3:=s2.new (o:=.lst [V.ref r1,V.ref r2]) Zz;have e1:(dl (dl (dl H r1 (.lst [V.int (s 1),V.int (-(s 0)%97)])) r2 (.lst [V.int (s 2),V.int (-(s 1)%97)])) r3 (.lst [V.ref r1,V.ref r2])) r1=some (.lst [V.int (s 1),V.int (-(s 0)%97)]):=by have z:r1≠r2:=aR aA NQ;rw[aE (aR (by rw[aE z];exact aA) Zz),aE z];exact aA
 have e2:(dl (dl (dl H r1 (.lst [V.int (s 1),V.int (-(s 0)%97)])) r2 (.lst [V.int (s 2),V.int (-(s 1)%97)])) r3 (.lst [V.ref r1,V.ref r2])) r2=some (.lst [V.int (s 2),V.int (-(s 1)%97)]):=by rw[aE (aR aA Zz)];exact aA
 have e3:(dl (dl (dl H r1 (.lst [V.int (s 1),V.int (-(s 0)%97)])) r2 (.lst [V.int (s 2),V.int (-(s 1)%97)])) r3 (.lst [V.ref r1,V.ref r2])) r3=some (.lst [V.ref r1,V.ref r2]):=aA;generalize dl (dl (dl H r1 (.lst [V.int (s 1),V.int (-(s 0)%97)])) r2 (.lst [V.int (s 2),V.int (-(s 1)%97)])) r3 (.lst [V.ref r1,V.ref r2])=H3 at *;refine⟨_,rfl,_,rfl,l,_,_,_,rfl,rfl,s3.seq hl,a2,_,rfl,l,_,_,_,rfl,rfl,s3.seq hl,a3,zz2,λr4 hr4=>?_⟩;have s4:=(aI.refl H3).new (o:=.lst [V.int (s 2),V.int (s 3)]) hr4;have G:Dn K (dl H3 r4 (.lst [V.int (s 2),V.int (s 3)])) r3 2 2 (My.M s):=by
  refine⟨λi=>if i=0 then r1 else r2,ae.of (s4 _ _ e3),λi hi=>?_⟩
  match i,hi with
  |0,_=>exact ae.of (s4 _ _ e1)
  |1,_=>exact ae.of (s4 _ _ e2)
 refine⟨r3,r4,2,My.M s,λi=>s (i+2),rfl,G,ae.of aA,by decide,λreg p5 H5 x hp5 s5 h5 bx hx=>?_,λreg H5 s5=>?_⟩
 ·refine⟨_,rfl,rfl,_,rfl,eZ (λz=>nomatch z) ?_⟩
  have sA:=(s3.trans s4).trans s5;refine⟨24,rfl,by decide,by decide,λD hD=>?_⟩;refine RR (n:=24) (by decide) (b:=My.Kj (x 0) (x 1)) hD (λi H6 N hi s6 hn=>?_) (λi H6 N hi hn=>⟨_,rfl,hn⟩) λH6 s6 h6=>?_
  ·have hx0:=bx 0 (by decide);refine⟨_,rfl,5,_,rfl,by decide,by lia,λ_=>?_,λh=>absurd (show(0:Int)<=5/\(5:Int)<97 by decide) h⟩;refine⟨_,rfl,p5,_,_,_,rfl,rfl,ae.of (s6 _ _ h5),da (n:=2) (by decide) (by decide),_,rfl,p5,_,_,_,rfl,rfl,ae.of (s6 _ _ h5),da (n:=2) (by decide) (by decide),_,_,_,rfl,My.Zc _ _,My.WZ _ _,hx0.1,hx0.2,_,rfl,?_⟩;have e0:(0:Int)+(i:Nat)=(i:Nat):=(by lia);rw[e0];exact hn H6 (aI.refl _)
  exact q D H6 _ (sA.free hD) (sA.trans s6) h6 (My.Om reg hx)
 refine⟨_,rfl,rfl,_,rfl,eJ rfl ?_⟩;have sA:=(s3.trans s4).trans s5;refine⟨_,rfl,l,s,rfl,sA.seq hl,bs,λp6 H6 Uu s6 h6=>?_⟩;exact q p6 H6 _ (sA.free Uu) (sA.trans s6) h6 (My.Rx b4 reg)
def yg(K:W.Frag):Sp:=λvs H Q _=>∃(l r:Addr)(ps:List Nat)(s:Nat->Int),vs=[.ref l,.ref r]/\H l=some (.lst (ps.map λk=>V.int (k:Nat)))/\ae K H r (dL 6 s)/\ps.Nodup/\(∀p∈ps,p<24)/\ps.length<=2 /\
 ∀p H' x,H p=none->aI H H'->H' p=some (.lst (dL ps.length x))->(∀i,i<ps.length->0<=x i/\x i<97)->(∀i,i<ps.length->(97:Int) ∣ My.ip ps.length (λq=>My.P 5 ((ps.getD q 0:Nat)*(1+(i:Int)))) x-s i)->Q (.ref p) H'
theorem yh:aS ["places","sums","rows"] ["places","sums"] (aG kG):=ac
theorem GO(F:aO K mg "turns_at" kG)(T:Txt K mg t)(nP:Def P w K mg base 6 "solved" ["rows","right"] (xS K))(fY:Def P w K mg base 3 "power" ["a","k"] (rJ t.BadSign)):Def P w K mg base 7 "turns_at" ["places","sums"] (yg K):=by
 refine F.def yh (λ_ _ _ _ _ _=>am λ_ _=>rfl) (λvs H Q E h=>?_) (λf cB A outer s H vs Q E hr h=>?_)
 ·obtain⟨l,r,ps,s,rfl,_⟩:=h;rfl
 obtain⟨l,r,ps,s,rfl,hl,Ut,nd,hb,yz,q⟩:=h;refine⟨_,aC (j9 (i:=2) yh.nd rfl (Or.inl rfl) rfl (Nc:=["j","places"]) (ix:=[none,some 0]) (cW (aG kG) ["places","sums","rows"] rfl rfl (by decide +kernel)) (xC (by rfl) T.eF (aB aH (aB (aQ bK (bP (bY K) (by rfl) T.gI boot_len (aB (pv 0) aD)) aH) aD))) (λC fp s H=>⟨(au (i:=0) (show(["j","places"]:List Str).Nodup by decide +kernel) rfl (Or.inr rfl)),cH,(jf rfl (Nc:=["place","j"]) (ix:=[none,some 0]) (cW _ ["j","places"] rfl rfl (by kernel_rfl)) (bz K (pv 1)) (λC fp s H=>⟨(au (i:=0) (show(["place","j"]:List Str).Nodup by decide +kernel) rfl (Or.inl rfl)),cH,(aY (fY.mono (by decide)) hr av (aB (aW T.Kl) (aB (aQ eQ (pv 0) (pv 1)) aD)))⟩))⟩))
  (aF (ah (aY (nP.mono (by decide)) hr av (aB (pv 2) (aB (cw (dN K) (pv 1) oF (cD (bP (bY K) (by rfl) T.gI boot_len (aB (pv 0) aD)))) aD))))),?_⟩
 have hsz:(2000:Nat)<=sizeLine:=by decide
 rw[Fg]at hl;generalize hn:ps.length=n at *;have hg:∀q,q<n->((ps.getD q 0:Nat):Int)<24:=λq hq=>by have:=hb (ps.getD q 0) (by rw[My.getD_get (by lia)];exact List.getElem_mem _);lia
 refine⟨_,rfl,l,_,rfl,.inl (ae.of hl),_,_,rfl,rfl,1,_,rfl,⟨by decide,by decide,by rw[aL];lia,by rw[aL];lia⟩,λD3 hD3=>?_⟩;rw[show((((dL n λq=>((ps.getD q 0:Nat):Int)).length:Nat):Int)+1-1).toNat=n by rw[aL];lia];refine m9 (lo:=1) (n:=n) (λj σ Hf=>∃(v:Option V)(rs:Nat->Addr),σ=[v,some (.ref l)]/\aI H Hf/\Hf D3=some (.lst (bB j rs))/\∀y,y<j->Hf (rs y)=some (.lst (dL n λq=>My.P 5 ((ps.getD q 0:Nat)*(1+(y:Int)))))/\rs y≠D3)
  ⟨none,λ_=>0,rfl,(aI.refl _).new hD3,aA,λy hy=>by lia⟩ ?_ ?_
 ·rintro j σ Hf N hN hj ⟨v,rs,rfl,sf,SG,h9⟩;refine dF ?_;refine⟨_,rfl,l,rfl,⟨_,ae.of (sf _ _ hl)⟩,λD4 hD4=>?_⟩;have n34:D3≠D4:=aR SG hD4;refine oJ (K:=K) (a:=l) (n:=n) (F:=λq=>V.int ((ps.getD q 0:Nat):Int)) (λy σ Hg=>∃v:Option V,σ=[v,some (.int (1+(j:Int)))]/\aI Hf Hg/\Hg D4=some (.lst (dL y λq=>My.P 5 ((ps.getD q 0:Nat)*(1+(j:Int))))))
   ⟨none,rfl,(aI.refl _).new hD4,aA⟩ (λy σ Hg _ ⟨_,_,sg,_⟩=>ae.of (sg _ _ (sf _ _ hl))) ?_ ?_
  ·rintro y σ Hg N2 hN2 hy ⟨v,rfl,sg,Wq⟩;refine dF ?_;have hb:=hg y hy;refine⟨_,rfl,_,rfl,_,_,rfl,rfl,.inl ⟨by lia,by lia⟩,5,_,rfl,by decide,Int.mul_nonneg (by lia) (by lia),λ_=>?_,λh=>absurd (show(0:Int)<=5/\(5:Int)<97 by decide) h⟩;refine⟨_,Wq,by rw[aL];lia,?_⟩;exact hN2 _ _ ⟨_,rfl,sg.put hD4,lS rfl⟩
  rintro σ Hg ⟨v,rfl,sg,Wq⟩;refine⟨_,sg _ _ SG,by rw[aL];lia,?_⟩;rw[dM];refine hN _ _ ⟨_,_,rfl,(sf.trans sg).put hD3,aA,λy hy=>?_⟩;by_cases e:y=j
  ·subst e;rw[if_pos rfl,aE (Ne.symm n34)];exact⟨Wq,Ne.symm n34⟩
  rw[if_neg e];obtain⟨w1,w2⟩:=h9 y (by lia);rw[aE w2];exact⟨sg _ _ w1,w2⟩
 rintro σ Hf ⟨v,rs,rfl,sf,SG,h9⟩;refine⟨_,rfl,_,rfl,_,rfl,l,_,rfl,.inl (ae.of (sf _ _ hl)),_,rfl,r,_,rfl,sf.seq Ut,λD5 hD5=>?_⟩;rw[aL,show cU (dL 6 s) none (some (n:Int))=dL n s from uP (by lia)];have s5:=(aI.refl Hf).new (o:=.lst (dL n s)) hD5;have SF:=My.Kk nd hb;rw[hn]at SF;refine⟨D3,D5,n,(λi q=>My.P 5 ((ps.getD q 0:Nat)*(1+(i:Int)))),s,rfl,⟨rs,ae.of (s5 _ _ SG),λi hi=>ae.of (s5 _ _ (h9 i hi).1)⟩,ae.of aA,by lia,λ_ pa Hh x HV sh hxa bx hxx=>?_,λh=>absurd SF h⟩;have sA:=sf.trans s5;exact q pa Hh x (sA.free HV) (sA.trans sh) hxa bx hxx
def xW(K:W.Frag):Sp:=λvs H Q _=>∃(l:Addr)(f:Nat->Int),vs=[.ref l]/\ae K H l (dL 24 f)/\IsCell 24 f /\
 (∀g p H',My.qZ f g->H p=none->aI H H'->H' p=some (.lst (dL 24 g))->Q (.ref p) H')/\((∀g,¬My.qZ f g)->∀H',aI H H'->Q .bw H')
theorem SH{x:Nat->Int}{k:Nat}(h:ps.getD k 0<24):(dL 24 (My.AG f ps x k)).set (ps.getD k 0) (V.int ((My.AG f ps x k (ps.getD k 0)-x k)%97))=dL 24 (My.AG f ps x (k+1)):=by rw[sx h];refine bX λj _=>?_;show _=V.int (if j=ps.getD k 0 then(My.AG f ps x k (ps.getD k 0)-x k)%97 else My.AG f ps x k j);split<;>rfl
theorem nQ:aS ["cell","sums","places","found","place","turn"] ["cell"] (aG wF):=ac
theorem MH(F:aO K mg "mended" wF)(T:Txt K mg t)(iN:Def P w K mg base 4 "troubles" ["cell"] (rK K))(rO:Def P w K mg base 5 "is_sealed" ["cell"] (wK K))(jM:Def P w K mg base 7 "turned_places" ["sums"] (nO K))(uY:Def P w K mg base 7 "turns_at" ["places","sums"] (yg K)):Def P w K mg base 8 "mended" ["cell"] (xW K):=by
 refine F.def nQ (λ_ _ _ _ _ _=>ad λ_=>rfl) (λvs H Q E h=>?_) (λf cB A outer s H vs Q E hr h=>?_)
 ·obtain⟨l,f,rfl,_⟩:=h;rfl
 obtain⟨l,f,rfl,hl,cf,q1,q2⟩:=h;refine⟨_,aC (aX (i:=1) nQ.nd rfl (Or.inl rfl) (aY (iN.mono (by decide)) hr av (aB (pv 0) aD)))
  (aC (bO (aZ (Kc K (Fd hr)) (pv 1) (aQ qm (ba (aB aH aD)) (aW T.Km)) (af _))
   (aF (ah (iC (fj K) (by rfl) T.rE boot_list (aB (pv 0) aD))))
   (aj))
  (aC (aX (i:=2) nQ.nd rfl (Or.inl rfl) (aY (jM.mono (by decide)) hr av (aB (pv 1) aD)))
  (aC (aX (i:=3) nQ.nd rfl (Or.inl rfl) (iC (fj K) (by rfl) T.rE boot_list (aB (pv 0) aD)))
  (aC (PS.Ck (cO PassesOwn.never rfl (Dp K (by rfl) T.Ko (aB (pv 2) (aB (aY (uY.mono (by decide)) hr av (aB (pv 2) (aB (pv 1) aD))) aD))) (iz K (i:=4) (j:=5) rfl nQ.nd rfl rfl (Or.inl rfl) (Or.inl rfl))
   (aF (oB (aQ cF (aQ dv (ai (aV K) (pv 3) (pv 4) (λ_ _=>rfl)) (pv 5)) (aW T.cQ)) (oA (pv 3) (pv 4) set_list)))))
  (aF (ah (qg (jJ (aY (rO.mono (by decide)) hr av (aB (pv 3) aD))) (pv 3) eM))))))),?_⟩
 have mp:∀n (g:Nat->Int),dL n g=((List.range n).map g).map V.int:=λn g=>(wB n g).symm;refine⟨_,rfl,l,f,rfl,hl,cf,λp1 H1 EK s1 h1=>?_⟩;have bs:∀j,j<6->0<=My.T (My.St j) 24 f/\My.T (My.St j) 24 f<97:=λj _=>⟨My.aCX _ _ _,My.aCY _ _ _⟩;refine⟨_,rfl,zz1,λa1 Zu=>?_⟩;refine⟨a1,_,_,rfl,rfl,aA,by decide,by decide,by decide,λa2 Zv=>?_⟩;have s2:=((aI.refl H1).new (o:=.lst [V.int 0]) Zu).new (o:=.lst (List.replicate (6:Int).toNat [V.int 0]).flatten) Zv;have Xy:=s2 _ _ h1;refine⟨p1,a2,(List.range 6).map λj=>My.T (My.St j) 24 f,(List.range 6).map λ_=>0,rfl,rfl,ae.of (by rw[<-mp];exact Xy),ae.of (by rw[aA];rfl),_,rfl,?_⟩;have sA:=s1.trans s2;generalize dl (dl H1 a1 (.lst [V.int 0])) a2 (.lst (List.replicate (6:Int).toNat [V.int 0]).flatten)=H2 at *;by_cases hz:(List.range 6).map (λj=>My.T (My.St j) 24 f)=(List.range 6).map λ_=>(0:Int)
 ·refine eJ hz ?_;have sl:My.dO f:=lr.mp (by unfold tO;exact decide_eq_true hz);refine⟨_,rfl,l,_,rfl,.inl (sA.seq hl),λp hp=>?_⟩;exact q1 f p _ (My.qZ.self cf.b sl) (sA.free hp) (sA.new hp) aA
 refine eZ hz ?_;have sl:¬My.dO f:=λz=>hz (by have:=lr.mpr z;unfold tO at this;exact of_decide_eq_true this);refine⟨_,rfl,p1,_,rfl,ae.of Xy,bs,λp3 H3 ps EL s3 h3 pl=>?_⟩;have sB:=sA.trans s3;refine⟨_,rfl,l,_,rfl,.inl (sB.seq hl),λp4 Uv=>?_⟩;have s4:=(aI.refl H3).new (o:=.lst (dL 24 f)) Uv;have h4:(dl H3 p4 (.lst (dL 24 f))) p4=some (.lst (dL 24 f)):=aA;have Z0:=s4 _ _ h3;have h14:=s4 _ _ (s3 _ _ Xy);generalize hH4:dl H3 p4 (.lst (dL 24 f))=H4 at *;refine⟨_,rfl,_,rfl,_,rfl,p3,p1,ps,_,rfl,Z0,ae.of h14,pl.nd,pl.b,pl.yz,λp5 H5 x hp5 s5 h5 bx hx=>?_⟩;have h35:=s5 _ _ Z0;rw[Fg]at h35;have n45:p4≠p5:=aR h4 hp5;refine⟨p3,p5,rfl,⟨_,ae.of h35⟩,⟨_,ae.of h5⟩,?_⟩;have f3:H3 p4=none:=Uv;have n43:p3≠p4:=aR h3 f3;refine RP (K:=K) (a:=p3) (b:=p5) (xs:=dL ps.length λq=>((ps.getD q 0:Nat):Int)) (ys:=dL ps.length x) (by rw[aL,aL])
  (λk σ H6=>∃v1 v2:Option V,σ=[some (.ref l),some (.ref p1),some (.ref p3),some (.ref p4),v1,v2]/\aI H3 H6/\H6 p4=some (.lst (dL 24 (My.AG f ps x k)))/\H6 p3=some (.lst (dL ps.length λq=>((ps.getD q 0:Nat):Int)))/\H6 p5=some (.lst (dL ps.length x)))
  ⟨none,none,rfl,s4.trans s5,s5 _ _ h4,h35,h5⟩ (λk σ H6 _ ⟨_,_,_,_,_,z3,z5⟩=>⟨ae.of z3,ae.of z5⟩) ?_ ?_
 ·rintro k u v pp σ H6 hu hv ⟨v1,v2,rfl,s6,h6,z3,z5⟩ R9;obtain⟨hk,rfl⟩:=tab_of hu;obtain⟨_,rfl⟩:=tab_of hv;have hg:ps.getD k 0<24:=pl.b _ (by rw[My.getD_get hk];exact List.getElem_mem _);have np:p4≠pp:=aR h6 R9;have n3:p3≠pp:=aR z3 R9;have n5:p5≠pp:=aR z5 R9;have h6':(dl H6 pp (.tup [V.int ((ps.getD k 0:Nat):Int),V.int (x k)])) p4=some (.lst (dL 24 (My.AG f ps x k))):=by rw[aE np];exact h6
  refine kA (cT.of aA) ?_;refine⟨_,rfl,_,rfl,p4,_,_,_,rfl,rfl,ae.of h6',da (by dsimp only;lia) (by dsimp only;lia),_,rfl,_,_,rfl,rfl,_,_,rfl,rfl,(by show(0:Int)<97;decide),_,rfl,_,rfl,p4,_,_,_,rfl,rfl,h6',zv (by dsimp only;lia) (by dsimp only;lia),?_⟩;dsimp only;rw[Int.toNat_natCast,SH hg];refine⟨_,_,rfl,(s6.new R9).put f3,aA,?_,?_⟩
  ·rw[aE n43,aE n3];exact z3
  rw[aE (Ne.symm n45),aE n5];exact z5
 rintro σ H6 ⟨v1,v2,rfl,s6,h6,z3,z5⟩;rw[aL]at h6;have cfn:IsCell 24 (My.AG f ps x ps.length):=⟨My.Oo ps x cf.b ps.length⟩;have sC:=sB.trans s6;refine⟨_,rfl,p4,_,rfl,ae.of h6,cfn,λH7 s7=>⟨_,rfl,?_⟩⟩;by_cases hs:My.dO (My.AG f ps x ps.length)
 ·rw[lr.mpr hs];refine iD ?_;refine⟨_,rfl,?_⟩;exact q1 _ p4 H7 (My.IU cf.b pl.nd pl.yz hs) (sB.free f3) (sC.trans s7) (s7 _ _ h6)
 rw[Ib hs];refine dX ?_;refine q2 (λg hm=>hs ?_) H7 (sC.trans s7);exact hm.sealed.congr λi hi=>(My.IT cf.b hm sl pl hx i hi).symm
def rP(K:W.Frag):Sp:=λvs H Q _=>∃(l:Addr)(f:Nat->Int),vs=[.ref l]/\ae K H l (dL 24 f)/\IsCell 24 f /\
 (∀g H',My.qZ f g->aI H H'->Q (.bl true) H')/\((∀g,¬My.qZ f g)->∀H',aI H H'->Q (.bl false) H')
theorem Ac:aS ["cell"] ["cell"] (aG i6):=ac
theorem Ae(F:aO K mg "is_readable" i6)(nR:Def P w K mg base 8 "mended" ["cell"] (xW K)):Def P w K mg base 9 "is_readable" ["cell"] (rP K):=by
 refine F.def Ac (λ_ _ _ _ _ _=>ad λ_=>rfl) (λvs H Q E h=>?_) (λf cB A outer s H vs Q E hr h=>?_)
 ·obtain⟨l,f,rfl,_⟩:=h;rfl
 obtain⟨l,f,rfl,hl,cf,q1,q2⟩:=h;refine⟨_,aF (ah (fW su (aY (nR.mono (by decide)) hr av (aB (pv 0) aD)) eM (af _))),?_⟩;refine⟨_,rfl,l,f,rfl,hl,cf,λg p H' hm hp s1 h1=>?_,λhn H' s1=>?_⟩
 ·exact⟨rfl,q1 g H' hm s1⟩
 exact⟨rfl,q2 hn H' s1⟩
inductive Ev where
 |mk (w:Str) (p:Int×Int) (ns:List Int)
 |took (xs:List Int)
structure Lk where
 q:Int
 s:Int
 d:Int
 u:Int
 b:Int
 k:Int
 p:Option (Int×Int)
 ev:List Ev
 cE:List (List Int)
 of:Int
 tk:Int
def dD(q s d u b k:Int)(pv:V)(tA pA:Addr)(o tk:Int):List (Str×V):=[("quiet",.int q),("side",.int s),("done",.int d),("unheard",.int u),("birth",.int b),("known",.int k),("pair",pv),("told",.ref tA),("pieces",.ref pA),("offered",.int o),("taken",.int tk)]
section
variable{q s d u b k x o tk:Int}{v:V}{y:Addr}
theorem Kt:(dD q s d u b k pv tA pA o tk).lookup ("quiet":Str)=some (.int q):=rfl
theorem Wr:(dD q s d u b k pv tA pA o tk).lookup ("side":Str)=some (.int s):=rfl
theorem Ij:(dD q s d u b k pv tA pA o tk).lookup ("done":Str)=some (.int d):=rfl
theorem DK:(dD q s d u b k pv tA pA o tk).lookup ("unheard":Str)=some (.int u):=rfl
theorem wN:(dD q s d u b k pv tA pA o tk).lookup ("birth":Str)=some (.int b):=rfl
theorem tQ:(dD q s d u b k pv tA pA o tk).lookup ("known":Str)=some (.int k):=rfl
theorem rQ:(dD q s d u b k pv tA pA o tk).lookup ("pair":Str)=some pv:=rfl
theorem Af:(dD q s d u b k pv tA pA o tk).lookup ("told":Str)=some (.ref tA):=rfl
theorem nS:(dD q s d u b k pv tA pA o tk).lookup ("pieces":Str)=some (.ref pA):=rfl
theorem DL:(dD q s d u b k pv tA pA o tk).lookup ("offered":Str)=some (.int o):=rfl
theorem ER:(dD q s d u b k pv tA pA o tk).lookup ("taken":Str)=some (.int tk):=rfl
theorem SI:dC "done" (.int x) (dD q s d u b k pv tA pA o tk)=dD q s x u b k pv tA pA o tk:=rfl
theorem Ik:dC "unheard" (.int x) (dD q s d u b k pv tA pA o tk)=dD q s d x b k pv tA pA o tk:=rfl
theorem O2:dC "birth" (.int x) (dD q s d u b k pv tA pA o tk)=dD q s d u x k pv tA pA o tk:=rfl
theorem GP:dC "known" (.int x) (dD q s d u b k pv tA pA o tk)=dD q s d u b x pv tA pA o tk:=rfl
theorem Ku:dC "pair" v (dD q s d u b k pv tA pA o tk)=dD q s d u b k v tA pA o tk:=rfl
theorem SJ:dC "told" (.ref y) (dD q s d u b k pv tA pA o tk)=dD q s d u b k pv y pA o tk:=rfl
theorem MI:dC "pieces" (.ref y) (dD q s d u b k pv tA pA o tk)=dD q s d u b k pv tA y o tk:=rfl
theorem Ag:dC "offered" (.int x) (dD q s d u b k pv tA pA o tk)=dD q s d u b k pv tA pA x tk:=rfl
theorem GQ:dC "taken" (.int x) (dD q s d u b k pv tA pA o tk)=dD q s d u b k pv tA pA o x:=rfl
end
abbrev Lk.fld(L:Lk)(pv:V)(tA pA:Addr):List (Str×V):=dD L.q L.s L.d L.u L.b L.k pv tA pA L.of L.tk
def nT(B:Hp)(pv:V):Option (Int×Int)->Prop
 |none=>pv=.bw
 |some p=>∃a,pv=.ref a/\B a=some (.tup [.int p.1,.int p.2])
def ES(B:Hp)(a:Addr):Ev->Prop
 |.mk w p ns=>∃pa,B a=some (.tup (.str w::.ref pa::ns.map V.int))/\B pa=some (.tup [.int p.1,.int p.2])
 |.took xs=>∃l,B a=some (.tup [.str "took",.ref l])/\B l=some (.lst (xs.map V.int))
def DM(B H:Hp)(l:Addr)(es:List Ev):Prop:=∃iA:Nat->Addr,H l=some (.lst (bB es.length iA))/\∀y e,es[y]?=some e->ES B (iA y) e
def Kv(B H:Hp)(l:Addr)(ps:List (List Int)):Prop:=∃fJ:Nat->Addr,H l=some (.lst (bB ps.length fJ))/\∀y xs,ps[y]?=some xs->B (fJ y)=some (.lst (xs.map V.int))
theorem nT.mono{B':Hp}(h:nT B pv o)(s:aI B B'):nT B' pv o:=by
 cases o with
 |none=>exact h
 |some p=>obtain⟨a,e,g⟩:=h;exact⟨a,e,s _ _ g⟩
theorem ES.mono{B':Hp}{e:Ev}(h:ES B a e)(s:aI B B'):ES B' a e:=by
 cases e with
 |mk w p ns=>obtain⟨pa,g1,g2⟩:=h;exact⟨pa,s _ _ g1,s _ _ g2⟩
 |took xs=>obtain⟨l,g1,g2⟩:=h;exact⟨l,s _ _ g1,s _ _ g2⟩
structure bh(C:Addr)(B H:Hp)(x tA pA:Addr)(L:Lk):Prop where
 sb:aI B H
 bx:B x=none
 bt:B tA=none
 bp:B pA=none
 at_:∃dx pv,H x=some (.ins C dx (L.fld pv tA pA))/\nT B pv L.p
 told:DM B H tA L.ev
 cE:Kv B H pA L.cE
 ne:tA≠pA
def Z1(a b c:Addr)(H H':Hp):Prop:=∀x o,x≠a->x≠b->x≠c->H x=some o->H' x=some o
theorem kK{b:Addr}{o:HO}(h:(dl H x o) b=none)(hx:H x≠none):H b=none:=by
 by_cases z:b=x
 ·subst z;rw[aA]at h;cases h
 rw[aE z]at h;exact h
structure jh(B H B' H':Hp)(x tA pA tB pB:Addr):Prop where
 bb:aI B B'
 no:∀a,H a≠none->B a=none->B' a=none
 k:Z1 x tA pA H H'
 g:∀b,H' b=none->H b=none
 t:tB=tA\/H tB=none
 p:pB=pA\/H pB=none
theorem jh.refl{B H:Hp}{x tA pA:Addr}:jh B H B H x tA pA tA pA:=⟨aI.refl _,λ_ _ h=>h,λ_ _ _ _ _ h=>h,λ_ h=>h,.inl rfl,.inl rfl⟩
theorem jh.trans{B H B1 H1 B2 H2:Hp}{x tA pA tB pB tC pC:Addr}(a:jh B H B1 H1 x tA pA tB pB)(b:jh B1 H1 B2 H2 x tB pB tC pC):jh B H B2 H2 x tA pA tC pC:=by
 have ne:∀{y z:Addr}{o:HO},H y=some o->y≠z->(∀{w:Addr},(w=z\/H w=none)->y≠w):=λ{y z o} e n {w} h=>h.elim (λq=>q▸n) (λq=>aR e q);refine⟨a.bb.trans b.bb,λy h1 h2=>b.no y (λz=>h1 (a.g y z)) (a.no y h1 h2),λy o n1 n2 n3 e=>b.k y o n1 (ne e n2 a.t) (ne e n3 a.p) (a.k y o n1 n2 n3 e),λy h=>a.g y (b.g y h),?_,?_⟩
 ·rcases b.t with z|z
  ·rw[z];exact a.t
  exact .inr (a.g _ z)
 rcases b.p with z|z
 ·rw[z];exact a.p
 exact .inr (a.g _ z)
theorem jh.of_same{H1:Hp}(s:aI H H1):jh B H B H1 x tA pA tA pA:=⟨aI.refl _,λ_ _ h=>h,λy o _ _ _ e=>s _ _ e,λy h=>s.free h,.inl rfl,.inl rfl⟩
theorem jh.same{B1 H1 H2:Hp}{tB pB:Addr}(a:jh B H B1 H1 x tA pA tB pB)(s:aI H1 H2):jh B H B1 H2 x tA pA tB pB:=a.trans (jh.of_same s)
section
variable{C:Addr}{H':Hp}{L:Lk}
theorem bh.hx(h:bh C B H x tA pA L):H x≠none:=by obtain⟨_,_,g,_⟩:=h.at_;rw[g];exact λz=>by cases z
theorem bh.ht(h:bh C B H x tA pA L):H tA≠none:=by obtain⟨_,g,_⟩:=h.told;rw[g];exact λz=>by cases z
theorem bh.hp(h:bh C B H x tA pA L):H pA≠none:=by obtain⟨_,g,_⟩:=h.cE;rw[g];exact λz=>by cases z
theorem bh.xt(h:bh C B H x tA pA L):x≠tA:=λz=>by obtain⟨_,_,g,_⟩:=h.at_;obtain⟨_,g2,_⟩:=h.told;rw[z,g2]at g;cases g
theorem bh.xp(h:bh C B H x tA pA L):x≠pA:=λz=>by obtain⟨_,_,g,_⟩:=h.at_;obtain⟨_,g2,_⟩:=h.cE;rw[z,g2]at g;cases g
theorem bh.same(h:bh C B H x tA pA L)(s:aI H H'):bh C B H' x tA pA L:=by obtain⟨dx,pv,g,gp⟩:=h.at_;obtain⟨iA,g2,FA⟩:=h.told;obtain⟨fJ,g3,Ah⟩:=h.cE;exact⟨h.sb.trans s,h.bx,h.bt,h.bp,⟨dx,pv,s _ _ g,gp⟩,⟨iA,s _ _ g2,FA⟩,⟨fJ,s _ _ g3,Ah⟩,h.ne⟩
theorem bh.grow{o:HO}(h:bh C B H x tA pA L)(s:aI H H')(na:H a=none)(ea:H' a=some o):bh C (dl B a o) H' x tA pA L/\jh B H (dl B a o) H' x tA pA tA pA:=by
 have sB:aI B (dl B a o):=(aI.refl _).new (h.sb.free na);have no:∀{b:Addr},H b≠none->B b=none->(dl B a o) b=none:=λ{b} hb e=>by rw[aE (λz=>hb (by rw[z];exact na))];exact e
 have h1:=h.same s;obtain⟨dx,pv,g,gp⟩:=h1.at_;obtain⟨iA,g2,FA⟩:=h1.told;obtain⟨fJ,g3,Ah⟩:=h1.cE;refine⟨⟨?_,no h.hx h.bx,no h.ht h.bt,no h.hp h.bp,⟨dx,pv,g,gp.mono sB⟩,⟨iA,g2,λy e he=>(FA y e he).mono sB⟩,⟨fJ,g3,λy xs hy=>sB _ _ (Ah y xs hy)⟩,h.ne⟩,⟨sB,λb=>no,λy u _ _ _ e=>s _ _ e,λy hy=>s.free hy,.inl rfl,.inl rfl⟩⟩;intro b u e;by_cases z:b=a
 ·rw[z]at e ⊢;rw[aA]at e;rw[ea];exact e
 rw[aE z]at e;exact h1.sb _ _ e
theorem bh.set{dx:Addr}{L':Lk}(h:bh C B H x tA pA L)(hp:nT B pv L'.p)(e:L'.ev=L.ev)(e2:L'.cE=L.cE):
  bh C B (dl H x (.ins C dx (L'.fld pv tA pA))) x tA pA L'/\jh B H B (dl H x (.ins C dx (L'.fld pv tA pA))) x tA pA tA pA:=by
 obtain⟨iA,g2,FA⟩:=h.told;obtain⟨fJ,g3,Ah⟩:=h.cE;exact⟨⟨h.sb.put h.bx,h.bx,h.bt,h.bp,⟨dx,pv,aA,hp⟩,by rw[e];exact⟨iA,by rw[aE (Ne.symm h.xt)];exact g2,FA⟩,by rw[e2];exact⟨fJ,by rw[aE (Ne.symm h.xp)];exact g3,Ah⟩,h.ne⟩,
  ⟨aI.refl _,λ_ _ z=>z,λy o n1 _ _ e=>by rw[aE n1];exact e,λb hb=>kK hb h.hx,.inl rfl,.inl rfl⟩⟩
theorem bh.tell{e:Ev}(h:bh C B H x tA pA L)(g:H tA=some (.lst (bB L.ev.length iA)))(g':∀y e,L.ev[y]?=some e->ES B (iA y) e)(he:H ea=none)(DN:ES (dl B ea (.tup vs)) ea e):
  bh C (dl B ea (.tup vs)) (dl (dl H ea (.tup vs)) tA (.lst (bB L.ev.length iA++[.ref ea]))) x tA pA { L with ev:=L.ev++[e] } /\
  jh B H (dl B ea (.tup vs)) (dl (dl H ea (.tup vs)) tA (.lst (bB L.ev.length iA++[.ref ea]))) x tA pA tA pA:=by
 have s1:aI H (dl H ea (.tup vs)):=(aI.refl _).new he;obtain⟨h1,m1⟩:=h.grow (o:=.tup vs) s1 he aA;obtain⟨dx,pv,gx,gp⟩:=h1.at_;obtain⟨fJ,g3,Ah⟩:=h1.cE;have g1:=s1 _ _ g;refine⟨⟨h1.sb.put h1.bt,h1.bx,h1.bt,h1.bp,⟨dx,pv,by rw[aE h.xt];exact gx,gp⟩,?_,⟨fJ,by rw[aE (Ne.symm h.ne)];exact g3,Ah⟩,h.ne⟩,?_⟩
 ·refine⟨λy=>if y=L.ev.length then ea else iA y,by rw[dM];show _=some (HO.lst (bB (L.ev++[_]).length _));rw[length_append];exact aA,λy e' hy=>?_⟩;have hy:(L.ev++[e])[y]?=some e':=hy;by_cases z:y=L.ev.length
  ·rw[z,getElem?_append_right (le_refl _),Nat.sub_self]at hy;cases hy;simp only[z,if_true];exact DN
  have Z2:y<(L.ev++[e]).length:=(List.getElem?_eq_some_iff.mp hy).1;rw[length_append]at Z2;have hy':y<L.ev.length:=by simp at Z2;lia
  rw[getElem?_append_left hy']at hy;simp only[z,if_false];exact(g' y e' hy).mono m1.bb
 exact m1.trans ⟨aI.refl _,λ_ _ z=>z,λy o _ n2 _ e=>by rw[aE n2];exact e,λb hb=>kK hb h1.ht,.inl rfl,.inl rfl⟩
theorem O3{pa:Addr}{w:Str}{p:Int×Int}(hb:B ea=none)(hp:B pa=some (.tup [.int p.1,.int p.2])):ES (dl B ea (.tup (.str w::.ref pa::ns.map V.int))) ea (.mk w p ns) :=
 ⟨pa,aA,by rw[aE (aR hp hb)];exact hp⟩
theorem SK{l:Addr}{xs:List Int}(hb:B ea=none)(hl:B l=some (.lst (xs.map V.int))):ES (dl B ea (.tup [.str "took",.ref l])) ea (.took xs) :=
 ⟨l,aA,by rw[aE (aR hl hb)];exact hl⟩
end
def Wu(L:Lk):Lk:={ L with p:=none,cE:=[],of:=0,tk:=0 }
def bH(L:Lk)(n:Int):Lk:=match L.p with
 |none=>{ L with k:=n }
 |some p=>if L.k<n then{ L with p:=none,cE:=[],of:=0,tk:=0,k:=n,ev:=L.ev++[.mk "anew" p []] }else{ L with k:=n }
def bM(L:Lk):Lk:=match L.p with
 |none=>{ L with p:=some (if L.s=0 then(L.b,L.k)else(L.k,L.b)),ev:=L.ev++[.mk "up" (if L.s=0 then(L.b,L.k)else(L.k,L.b)) []] }
 |some _=>L
def eG(L:Lk):Lk:=match L.p with
 |none=>{ L with b:=L.b+1,k:=0 }
 |some p=>{ L with p:=none,cE:=[],of:=0,tk:=0,b:=L.b+1,k:=0,ev:=L.ev++[.mk "silent" p [L.d-L.q+1,L.d]] }
def bQ(L:Lk)(c:Int):Lk:=if L.cE≠[]/\c=(L.of+1)%97 then{ L with cE:=L.cE.tail,of:=(L.of+1)%97 }else L
def b9(L:Lk)(n:Int)(xs:List Int):Lk:=if xs≠[]/\n=L.tk then{ L with ev:=L.ev++[.took xs],tk:=(L.tk+1)%97 }else L
structure Cl where
 b:Int
 k:Int
 n:Int
 c:Int
 xs:List Int
def a8(L:Lk)(a:Cl):Lk:=if a.b<L.k then L else if a.k=(bH L a.b).b then b9 (bQ (bM (bH L a.b)) a.c) a.n a.xs else bH L a.b
def b6(L:Lk):Cl:=⟨L.b,L.k,L.of,L.tk,L.cE.headD []⟩
def iP(C:Addr):Sp:=λvs H Q _=>∃(x dx:Addr)(fs:List (Str×V)),vs=[.ref x]/\H x=some (.ins C dx fs)/\fs.length<900/\∀pB,H pB=none->Q .bw (dl (dl H pB (.lst [])) x (.ins C dx (dC "taken" (.int 0) (dC "offered" (.int 0) (dC "pieces" (.ref pB) fs)))))
theorem Aj(f:Str)(v:V):∀fs:List (Str×V),(dC f v fs).length<=fs.length+1
 |[]=>le_refl _
 | (g,x)::r=>by
  unfold dC;split
  ·rw[length_cons,length_cons];lia
  rw[length_cons,length_cons];have:=Aj f v r;lia
theorem xX:aS ["self"] ["self"] (aG cj):=ac
theorem xY(T:Txt K mg t)(F:jz K "forget_pieces" "LinkEnd.forget_pieces" cj t.ck fd):
  b7 P w K mg base (iE P w) 1 t.ck fd ["self"] (iP t.LinkEnd)/\Binds K fd ["self"] []:=by
 refine⟨F.qY xX (λvs H Q E h=>?_) (λf cB A outer s H vs Q E hr h=>?_),F.binds λ_ _ _ _ _ _=>ad λ_=>rfl⟩
 ·obtain⟨x,dx,fs,rfl,_⟩:=h;rfl
 obtain⟨x,dx,fs,rfl,hx,hl,q⟩:=h;refine⟨_,aC (b8 K (pv 0) (ba aD) (by rfl))
  (aC (b8 K (pv 0) aH (by rfl))
  (aF (b8 K (pv 0) aH (by rfl)))),?_⟩
 refine⟨zz0,λpB Uw=>?_⟩;have n1:x≠pB:=aR hx Uw;have l1:=Aj "pieces" (.ref pB) fs;have l2:=Aj "offered" (.int 0) (dC "pieces" (.ref pB) fs);refine⟨_,rfl,x,t.LinkEnd,dx,fs,rfl,by rw[aE n1];exact hx,T.aM,T.iL,by lia,?_⟩;refine⟨_,rfl,x,t.LinkEnd,dx,_,rfl,aA,T.aM,T.oS,by lia,?_⟩;rw[gR];refine⟨_,rfl,x,t.LinkEnd,dx,_,rfl,aA,T.aM,T.rH,by lia,?_⟩;rw[gR];exact q pB Uw
def xZ(C:Addr):Sp:=λvs H Q _=>∃(B:Hp)(x tA pA:Addr)(L:Lk),vs=[.ref x]/\bh C B H x tA pA L/\∀B' H' pB,jh B H B' H' x tA pA tA pB->bh C B' H' x tA pB (Wu L)->Q .bw H'
theorem MJ:aS ["self"] ["self"] (aG nG):=ac
theorem MK(T:Txt K mg t)(F:jz K "end_up" "LinkEnd.end_up" nG t.nJ fd)(cn:b7 P w K mg base (iE P w) 1 t.ck GR ["self"] (iP t.LinkEnd))(cq:Binds K GR ["self"] []):
  b7 P w K mg base (iE P w) 2 t.nJ fd ["self"] (xZ t.LinkEnd)/\Binds K fd ["self"] []:=by
 refine⟨F.qY MJ (λvs H Q E h=>?_) (λf cB A outer s H vs Q E hr h=>?_),F.binds λ_ _ _ _ _ _=>ad λ_=>rfl⟩
 ·obtain⟨B,x,tA,pA,L,rfl,_⟩:=h;rfl
 obtain⟨B,x,tA,pA,L,rfl,h,q⟩:=h;refine⟨_,aC (b8 K (pv 0) eM (by rfl))
  (aF (ax (dh (pv 0) T.aM T.nM (cn.mono (by decide)) hr cq .nil av))),?_⟩
 obtain⟨dx,pv,hx,hp⟩:=h.at_;refine⟨_,rfl,x,t.LinkEnd,dx,_,rfl,hx,T.aM,T.gz,by show 11<1000;decide,?_⟩;rw[Ku];obtain⟨h1,m1⟩:=h.set (dx:=dx) (pv:=.bw) (L':={ L with p:=none }) rfl rfl rfl;refine⟨_,rfl,x,dx,_,rfl,aA,rfl,x,dx,_,rfl,aA,by show 11<900;decide,λpB Uw=>?_⟩
 rw[MI,Ag,GQ];have h1:bh t.LinkEnd B (dl H x (.ins t.LinkEnd dx (dD L.q L.s L.d L.u L.b L.k .bw tA pA L.of L.tk))) x tA pA { L with p:=none }:=h1;have m1:jh B H B (dl H x (.ins t.LinkEnd dx (dD L.q L.s L.d L.u L.b L.k .bw tA pA L.of L.tk))) x tA pA tA pA:=m1;generalize dl H x (.ins t.LinkEnd dx (dD L.q L.s L.d L.u L.b L.k .bw tA pA L.of L.tk))=H1 at *;have s2:aI H1 (dl H1 pB (.lst [])):=(aI.refl _).new Uw;have h2:=h1.same s2;have Z3:tA≠pB:=λz=>h1.ht (z▸Uw)
 have SM:x≠pB:=λz=>h1.hx (z▸Uw);obtain⟨iA,g,g'⟩:=h2.told;refine q B _ pB (m1.trans ⟨aI.refl _,λ_ _ z=>z,λy o n1 n2 n3 e=>by rw[aE n1];exact s2 _ _ e,λb hb=>s2.free (kK hb h2.hx),.inl rfl,.inr Uw⟩)
  ⟨h2.sb.put h2.bx,h.bx,h.bt,h1.sb.free Uw,⟨dx,.bw,aA,rfl⟩,⟨iA,by rw[aE (Ne.symm h2.xt)];exact g,g'⟩,⟨λ_=>0,by rw[aE (Ne.symm SM)];exact aA,λy xs hy=>by cases hy⟩,Z3⟩
def Kw(C:Addr):Sp:=λvs H Q _=>∃(B:Hp)(x tA pA:Addr)(L:Lk)(n:Int),vs=[.ref x,.int n]/\bh C B H x tA pA L/\L.ev.length<1000000/\∀B' H' pB,jh B H B' H' x tA pA tA pB->bh C B' H' x tA pB (bH L n)->Q .bw H'
theorem SN:aS ["self","birth"] ["self","birth"] (aG xP):=ac
theorem SO(T:Txt K mg t)(F:jz K "meet" "LinkEnd.meet" xP t.AJ fd)(nU:b7 P w K mg base (iE P w) 2 t.nJ GR ["self"] (xZ t.LinkEnd))(nV:Binds K GR ["self"] []):
  b7 P w K mg base (iE P w) 3 t.AJ fd ["self","birth"] (Kw t.LinkEnd)/\Binds K fd ["self","birth"] []:=by
 refine⟨F.qY SN (λvs H Q E h=>?_) (λf cB A outer s H vs Q E hr h=>?_),F.binds λ_ _ _ _ _ _=>am λ_ _=>rfl⟩
 ·obtain⟨B,x,tA,pA,L,n,rfl,_⟩:=h;rfl
 obtain⟨B,x,tA,pA,L,n,rfl,h,jp,q⟩:=h;refine⟨_,aC (bO (PW.pt (nv (aZ su (ar K (pv 0) (by rfl)) eM (af _)) (lP (aZ zh (pv 1) (ar K (pv 0) (by rfl)) (af _)))))
   (aC (ax (iH K PySem.F.plainAttrs_list PySem.F.slot_list_append PySem.F.type_list_append cG (ar K (pv 0) (by rfl)) (aB (gT (aB aU (aB (ar K (pv 0) (by rfl)) aD))) aD)))
   (aF (ax (dh (pv 0) T.aM T.DG (nU.mono (by decide)) hr nV .nil av))))
   (aj))
  (aF (b8 K (pv 0) (pv 1) (by rfl))),?_⟩
 have hsz:(1000001:Nat)<=sizeLine:=by decide
 obtain⟨dx,pv,hx,hp⟩:=h.at_;have last:∀(B1 H1:Hp)(pB:Addr)(L1:Lk),jh B H B1 H1 x tA pA tA pB->bh t.LinkEnd B1 H1 x tA pB L1->{ L1 with k:=n }=bH L n->(Nn K (qf 0) (qf 1) "known") { nx:=λ_ H'=>Q .bw H',rt:=Q } [some (.ref x),some (.int n)] H1:=λB1 H1 pB L1 m1 h1 e1=>by obtain⟨GS,SQ,Ks,EK⟩:=h1.at_;refine⟨_,rfl,_,rfl,x,t.LinkEnd,GS,_,rfl,Ks,T.aM,T.gq,by show 11<1000;decide,?_⟩;rw[GP];obtain⟨h2,m2⟩:=h1.set (dx:=GS) (pv:=SQ) (L':={ L1 with k:=n }) EK rfl rfl;exact q B1 _ pB (m1.trans m2) (by rw[<-e1];exact h2)
 refine⟨_,rfl,x,t.LinkEnd,dx,_,_,rfl,hx,T.aM,T.gz,rQ,rfl,_,rfl,?_⟩;cases ep:L.p with
 |none =>
  rw[ep]at hp;have hp:pv=.bw:=hp;subst hp;refine jg rfl (dX ?_);exact last B H pA L jh.refl h (by unfold bH;rw[ep])
 |some p =>
  rw[ep]at hp;obtain⟨pa,rfl,HV⟩:=hp;refine wA (λz=>by cases z) ?_;refine⟨_,rfl,_,rfl,x,t.LinkEnd,dx,_,_,rfl,hx,T.aM,T.gq,tQ,_,_,rfl,rfl,_,rfl,?_⟩;by_cases hk:L.k<n
  ·refine eJ hk ?_;obtain⟨iA,g,g'⟩:=h.told;refine⟨_,rfl,x,t.LinkEnd,dx,_,_,rfl,hx,T.aM,T.oR,Af,.inl ⟨rfl,_,ae.of g⟩,?_⟩;refine⟨_,rfl,x,t.LinkEnd,dx,_,_,rfl,hx,T.aM,T.gz,rQ,zz2,λea Il=>?_⟩;refine⟨tA,_,_,rfl,rfl,by rw[aE (aR g Il)];exact g,by rw[aL];lia,?_⟩;obtain⟨h1,m1⟩:=h.tell g g' Il (O3 (w:="anew") (ns:=[]) (h.sb.free Il) HV);obtain⟨GS,SQ,Ks,EK⟩:=h1.at_;refine⟨_,rfl,x,GS,_,rfl,Ks,rfl,_,x,tA,pA,_,rfl,h1,λB2 H2 pB m2 h2=>?_⟩;exact last B2 H2 pB _ (m1.trans m2) h2 (by unfold bH Wu;rw[ep];simp only[if_pos hk])
  refine eZ hk ?_;exact last B H pA L jh.refl h (by unfold bH;rw[ep];simp only[if_neg hk])
end
end K90
namespace My
def told(l:List Int):Int:=l.foldl (λn s=>n*97+s) 0
def low:Nat->Int->List Int
 |0,_=>[]
 |m+1,n=>n%97::low m (n/97)
def rest:Nat->Int->Int
 |0,n=>n
 |m+1,n=>rest m (n/97)
theorem Kx:∀(m:Nat)(n:Int),(low m n).length=m
 |0,_=>rfl
 |m+1,n=>by rw[low,length_cons,Kx]
theorem GU:∀(m:Nat)(n:Int),low (m+1) n=low m n++[rest m n%97]
 |0,n=>rfl
 |m+1,n=>by rw[low,GU m (n/97),low,rest,List.cons_append]
theorem DO:∀(m:Nat)(n:Int),rest (m+1) n=rest m n/97
 |0,n=>rfl
 |m+1,n=>by rw[rest,DO m (n/97),rest]
theorem ML(l:List Int)(s:Int):told (l++[s])=told l*97+s:=by unfold told;rw[List.foldl_append];rfl
theorem yi:∀(m:Nat)(n:Int),0<=n->0<=rest m n
 |0,n,h=>by rw[rest];exact h
 |m+1,n,h=>by rw[rest];exact yi m _ (by lia)
end My
namespace K90
open PySem L2 PyProof.Rows
section
variable{P:Program}{w:World}{K:W.Frag}{mg:Str->Option Value}{base:Heap}{t:Ad}
variable{fd GR Z7 Z8 fdu fdw:FuncData}{i s HW j db r' T0 T1 x1 many:Nat}{H H' B B' E E' Ei B1 H1:Hp}{D run' D':Nat->Nat}{L L':Nat->Lk}{xs ms ns FE:List Int}{r C pB CL CA:Addr}{β:Nat->Int}{bs:List Cl}{tA pA Sx Sy:Nat->Addr}{ρ ρ' ρ1:Addr->Nat}{cr odd:Int}{es:List Ev}{φ:Cl->Prop}{Ep:Nat->Hp}{ks:Nat->List Int}{la kl1:Int->Addr}{X:Cx}{pos p1:Pos}{te t1:TE}{e1 e2:List Expr}{σ:L2.St}{s1:Stmt}{ys:List V}{io kvs':List (Key×V)}{kk:Option Bool}
def qO(C:Addr):Sp:=λvs H Q E=>∃n m:Int,vs=[.int n,.int m]/\n.natAbs<2 ^ 1000/\0<=m/\m<=1000 /\
 (0<=n->My.rest m.toNat n=0->∀p H',H p=none->aI H H'->H' p=some (.lst ((My.low m.toNat n).reverse.map V.int))->Q (.ref p) H')/\(n<0\/0<My.rest m.toNat n->∀H',aI H H'->E (.ref C) none H')
theorem dk:aS ["number","many","signs","left","place"] ["number","many"] (aG gZ):=ac
theorem y4(F:aO K mg "number_signs" gZ)(T:Txt K mg t):Def P w K mg base 1 "number_signs" ["number","many"] (qO t.BadSign):=by
 refine F.def dk (λ_ _ _ _ _ _=>am λ_ _=>rfl) (λvs H Q E h=>?_) (λf cB A outer s H vs Q E hr h=>?_)
 ·obtain⟨n,m,rfl,_⟩:=h;rfl
 obtain⟨n,m,rfl,hb,m0,m1,q1,q2⟩:=h;refine⟨_,aC (aX (i:=2) dk.nd rfl (Or.inl rfl) (ba aD))
  (aC (aX (i:=3) dk.nd rfl (Or.inl rfl) (pv 0))
  (aC (PS.Ck (cO PassesOwn.never rfl (dH (by rfl) T.eF (aB (pv 1) aD)) (au (i:=4) dk.nd rfl (Or.inl rfl))
   (aC (ax (UW PySem.F.plainAttrs_list PySem.F.slot_list_append PySem.F.type_list_append cG (pv 2) (aB (aQ cF (pv 3) (aW T.cQ)) aD)))
   (aF (aX (i:=3) dk.nd rfl (Or.inl rfl) (aQ zN (pv 3) (aW T.cQ)))))))
  (aC (bO (PW.pt (zb (aZ lQ (pv 0) aH (af _)) (uK (aZ zh (pv 3) aH (af _)))))
   (aF (cV aw rfl rfl T.AR T.AS PySem.F.excBase_ValueError (aB (eY (bD (cY (pv 0)) (bD aU (bD (cY (pv 1)) (bD aU iF))))) aD)))
   (aj))
  (aF (ah (xH rfl T.rE T.AQ (pv 2))))))),?_⟩
 refine⟨zz0,λps Ux=>?_⟩;refine⟨_,rfl,?_⟩;have hsz:(2000:Nat)<=sizeLine:=by decide
 refine⟨_,rfl,m,rfl,by lia,by lia,gE (lo:=0) (n:=m.toNat) (λi σ H'=>∃x:Option V,σ=[some (.int n),some (.int m),some (.ref ps),some (.int (My.rest i n)),x]/\aI H H'/\H' ps=some (.lst ((My.low i n).map V.int))) ⟨none,rfl,(aI.refl _).new Ux,aA⟩ ?_ ?_⟩
 ·rintro i σ H' hi ⟨x,rfl,s1,h1⟩;refine⟨_,rfl,.inl ⟨rfl,_,ae.of h1⟩,_,rfl,_,_,rfl,rfl,(by show(0:Int)<97;decide),ps,_,_,rfl,rfl,h1,by rw[length_map,My.Kx];lia,?_⟩;refine⟨_,rfl,_,_,rfl,rfl,⟨by decide,by decide⟩,?_⟩;refine⟨_,by rw[My.DO];rfl,s1.put Ux,?_⟩;rw[aA,My.GU,map_append];rfl
 rintro σ H' ⟨x,rfl,s1,h1⟩;refine⟨_,rfl,_,_,rfl,rfl,_,rfl,?_⟩;have hz:=g6 hb;have hz2:=g6 (i:=m) (dJ (by lia) (by lia));have l1:(" is not told by ":Str).length=16:=by decide +kernel
 have l2:(" signs":Str).length=6:=by decide +kernel
 have sl:(3000:Nat)<=sizeLine:=by decide
 have e0:(Str.empty++Str.ofString (toString n)).length<=1001:=by rw[strLen_append];show 0+_<=1001;lia
 have e1:((Str.empty++Str.ofString (toString n))++(" is not told by ":Str)).length<=1017:=by rw[strLen_append];lia
 have e2:(((Str.empty++Str.ofString (toString n))++(" is not told by ":Str))++Str.ofString (toString m)).length<=2018:=by rw[strLen_append];lia
 have e3:((((Str.empty++Str.ofString (toString n))++(" is not told by ":Str))++Str.ofString (toString m))++(" signs":Str)).length<=2024:=by rw[strLen_append];lia
 have bad:n<0\/0<My.rest m.toNat n->E (.ref t.BadSign) none H':=λz=>q2 z H' s1;by_cases h0:n<0
 ·refine eJ h0 (iD ?_);refine⟨_,rfl,n,rfl,dw hb (by decide) (by decide),_,rfl,by lia,_,rfl,by lia,_,rfl,m,rfl,dw (dJ (by lia) (by lia)) (by decide) (by decide),_,rfl,by lia,_,rfl,by lia,by lia,?_⟩;exact⟨zz1,bad (.inl h0)⟩
 refine eZ h0 ?_;refine⟨_,rfl,_,_,rfl,rfl,_,rfl,?_⟩;by_cases h2:0<My.rest m.toNat n
 ·refine eJ h2 ?_;refine⟨_,rfl,n,rfl,dw hb (by decide) (by decide),_,rfl,by lia,_,rfl,by lia,_,rfl,m,rfl,dw (dJ (by lia) (by lia)) (by decide) (by decide),_,rfl,by lia,_,rfl,by lia,by lia,?_⟩;exact⟨zz1,bad (.inr h2)⟩
 refine eZ h2 ?_;have r0:=My.yi m.toNat n (by lia);refine⟨_,rfl,ps,_,rfl,ae.of h1,λp hp=>?_⟩;refine q1 (by lia) (by lia) p _ (s1.free hp) (s1.new hp) ?_;rw[aA,<-List.map_reverse]
def qP(K:W.Frag)(C:Addr):Sp:=λvs H Q E=>∃(l:Addr)(ns:List Int),vs=[.ref l]/\ae K H l (ns.map V.int)/\(∀n∈ns,n.natAbs<2 ^ 1000) /\
 ((∀n∈ns,0<=n/\n<97)->Q (.int (My.told ns)) H)/\(∀n∈ns,¬(0<=n/\n<97)->E (.ref C) none H)
theorem fZ:aS ["signs","number","sign"] ["signs"] (aG gg):=ac
theorem y6(F:aO K mg "signs_number" gg)(T:Txt K mg t)(eT:Def P w K mg base 2 "look_sign" ["number"] (jx t.BadSign)):Def P w K mg base 3 "signs_number" ["signs"] (qP K t.BadSign):=by
 refine F.def fZ (λ_ _ _ _ _ _=>ad λ_=>rfl) (λvs H Q E h=>?_) (λf cB A outer s H vs Q E hr h=>?_)
 ·obtain⟨l,ns,rfl,_⟩:=h;rfl
 obtain⟨l,ns,rfl,hl,hb,q1,q2⟩:=h;refine⟨_,aC (aX (i:=1) fZ.nd rfl (Or.inl rfl) aH)
  (aC (cO (OA aw) rfl (KC (pv 0)) (au (i:=2) fZ.nd rfl (Or.inl rfl))
   (aC (ax (aY (eT.mono (by decide)) hr (jB aw) (aB (pv 2) aD)))
   (aF (aX (i:=1) fZ.nd rfl (Or.inl rfl) (aQ bK (aQ eQ (pv 1) (aW T.cQ)) (pv 2))))))
  (aF (ah (pv 1)))),?_⟩
 refine⟨_,rfl,l,rfl,⟨_,hl⟩,gS (K:=K) (a:=l) (xs:=ns.map V.int) (λi σ H'=>∃x:Option V,σ=[some (.ref l),some (.int (My.told (ns.take i))),x]/\H'=H/\∀n∈ns.take i,0<=n/\n<97) ⟨none,rfl,rfl,λn hn=>by simp at hn⟩ (λi σ H' _ ⟨_,_,e,_⟩=>by rw[e];exact hl) ?_ ?_⟩
 ·rintro i y σ H' hi ⟨x,rfl,rfl,ha⟩;obtain⟨z,hz,rfl⟩:=jj hi;have hm:z∈ns:=mem_of_getElem? hz;refine⟨_,rfl,z,rfl,hb z hm,λh0=>?_,λh0=>q2 z hm h0⟩;refine⟨_,rfl,_,_,rfl,rfl,.inr ⟨by decide,by decide⟩,_,rfl,_,_,rfl,rfl,?_⟩;refine⟨some (.int z),?_,rfl,?_⟩
  ·rw[take_succ hz,My.ML];rfl
  rw[take_succ hz];intro n hn;rcases mem_append.mp hn with z1|z1
  ·exact ha n z1
  rw[mem_singleton.mp z1];exact h0
 rintro σ H' ⟨x,rfl,rfl,ha⟩;refine⟨_,rfl,?_⟩;rw[length_map,take_length]at *;exact q1 ha
def Ak(C:Addr):Sp:=λvs H Q _=>∃(B:Hp)(x tA pA:Addr)(L:Lk),vs=[.ref x]/\bh C B H x tA pA L/\L.ev.length<1000000/\∀B' H',jh B H B' H' x tA pA tA pA->bh C B' H' x tA pA (bM L)->Q .bw H'
theorem Im:aS ["self"] ["self"] (aG j5):=ac
theorem Io(T:Txt K mg t)(F:jz K "come_up" "LinkEnd.come_up" j5 t.nI fd):
  b7 P w K mg base (iE P w) 1 t.nI fd ["self"] (Ak t.LinkEnd)/\Binds K fd ["self"] []:=by
 refine⟨F.qY Im (λvs H Q E h=>?_) (λf cB A outer s H vs Q E hr h=>?_),F.binds λ_ _ _ _ _ _=>ad λ_=>rfl⟩
 ·obtain⟨B,x,tA,pA,L,rfl,_⟩:=h;rfl
 obtain⟨B,x,tA,pA,L,rfl,h,jp,q⟩:=h;refine⟨_,aF (bO (aZ DY (ar K (pv 0) (by rfl)) eM (af _))
   (aC (b8 K (pv 0) (qg (aZ jA (ar K (pv 0) (by rfl)) aH (af _)) (gT (aB (ar K (pv 0) (by rfl)) (aB (ar K (pv 0) (by rfl)) aD))) (gT (aB (ar K (pv 0) (by rfl)) (aB (ar K (pv 0) (by rfl)) aD)))) (by rfl))
   (aF (ax (iH K PySem.F.plainAttrs_list PySem.F.slot_list_append PySem.F.type_list_append cG (ar K (pv 0) (by rfl)) (aB (gT (aB aU (aB (ar K (pv 0) (by rfl)) aD))) aD)))))
   (aj)),?_⟩
 have hsz:(1000001:Nat)<=sizeLine:=by decide
 obtain⟨dx,pv,hx,hp⟩:=h.at_;refine⟨_,rfl,x,t.LinkEnd,dx,_,_,rfl,hx,T.aM,T.gz,rQ,rfl,_,rfl,?_⟩;cases ep:L.p with
 |some p =>
  rw[ep]at hp;obtain⟨pa,rfl,HV⟩:=hp;refine eZ (λz=>by cases z) ?_;exact q B H jh.refl (by unfold bM;rw[ep];exact h)
 |none =>
  rw[ep]at hp;have hp:pv=.bw:=hp;subst hp;refine eJ rfl ?_;have main:∀(pa:Addr)(p:Int×Int),H pa=none->p=(if L.s=0 then(L.b,L.k)else(L.k,L.b))->(∃a C dx fs,V.ref x=.ref a/\(dl H pa (.tup [.int p.1,.int p.2])) a=some (.ins C dx fs)/\La K C/\cb K C "pair"/\fs.length<1000/\(NZ (tBM K "list" Di (Hm K (qf 0) "told") (cA (qW (cA (tC (.str "up")) (cA (Hm K (qf 0) "pair") iB))) iB))) { nx:=λ_ H'=>Q .bw H',rt:=Q } [some (.ref x)] (dl (dl H pa (.tup [.int p.1,.int p.2])) a (.ins C dx (dC "pair" (.ref pa) fs)))):=λpa p HV ep2=>by
   have s1:aI H (dl H pa (.tup [.int p.1,.int p.2])):=(aI.refl _).new HV;obtain⟨h1,m1⟩:=h.grow (o:=.tup [.int p.1,.int p.2]) s1 HV aA;refine⟨x,t.LinkEnd,dx,_,rfl,s1 _ _ hx,T.aM,T.gz,by show 11<1000;decide,?_⟩;rw[Ku];obtain⟨h2,m2⟩:=h1.set (dx:=dx) (pv:=.ref pa) (L':={ L with p:=some p }) ⟨pa,rfl,aA⟩ rfl rfl;have aDm:(dl B pa (.tup [.int p.1,.int p.2])) pa=some (.tup [.int p.1,.int p.2]):=aA;have WG:(dl (dl H pa (.tup [.int p.1,.int p.2])) x (.ins t.LinkEnd dx (dD L.q L.s L.d L.u L.b L.k (.ref pa) tA pA L.of L.tk))) x=some (.ins t.LinkEnd dx (dD L.q L.s L.d L.u L.b L.k (.ref pa) tA pA L.of L.tk)):=aA;have h2:bh t.LinkEnd (dl B pa (.tup [.int p.1,.int p.2])) (dl (dl H pa (.tup [.int p.1,.int p.2])) x (.ins t.LinkEnd dx (dD L.q L.s L.d L.u L.b L.k (.ref pa) tA pA L.of L.tk))) x tA pA { L with p:=some p }:=h2;have Z4:jh B H (dl B pa (.tup [.int p.1,.int p.2])) (dl (dl H pa (.tup [.int p.1,.int p.2])) x (.ins t.LinkEnd dx (dD L.q L.s L.d L.u L.b L.k (.ref pa) tA pA L.of L.tk))) x tA pA tA pA:=m1.trans m2;generalize dl (dl H pa (.tup [.int p.1,.int p.2])) x (.ins t.LinkEnd dx (dD L.q L.s L.d L.u L.b L.k (.ref pa) tA pA L.of L.tk))=H2 at *;generalize dl B pa (.tup [.int p.1,.int p.2])=B2 at *;obtain⟨iA,g,g'⟩:=h2.told;refine⟨_,rfl,x,t.LinkEnd,dx,_,_,rfl,WG,T.aM,T.oR,Af,.inl ⟨rfl,_,ae.of g⟩,?_⟩;refine⟨_,rfl,x,t.LinkEnd,dx,_,_,rfl,WG,T.aM,T.gz,rQ,zz2,λea Il=>?_⟩
   refine⟨tA,_,_,rfl,rfl,by rw[aE (aR g Il)];exact g,by rw[aL];show L.ev.length<sizeLine;lia,?_⟩;obtain⟨h3,m3⟩:=h2.tell g g' Il (O3 (w:="up") (ns:=[]) (h2.sb.free Il) aDm);refine q _ _ (Z4.trans m3) ?_;have e3:bM L={ L with p:=some p,ev:=L.ev++[.mk "up" p []] }:=(by unfold bM;rw[ep,ep2]);rw[e3];exact h3
  refine⟨_,rfl,x,t.LinkEnd,dx,_,_,rfl,hx,T.aM,T.Kq,Wr,rfl,_,rfl,?_⟩;by_cases hs:L.s=0
  ·refine eJ (by rw[hs]) ?_;refine⟨_,rfl,x,t.LinkEnd,dx,_,_,rfl,hx,T.aM,T.nL,wN,_,rfl,x,t.LinkEnd,dx,_,_,rfl,hx,T.aM,T.gq,tQ,zz2,λpa HV=>?_⟩;exact⟨_,rfl,main pa (L.b,L.k) HV (by rw[if_pos hs])⟩
  refine eZ (λz=>hs (V.int.inj z)) ?_;refine⟨_,rfl,x,t.LinkEnd,dx,_,_,rfl,hx,T.aM,T.gq,tQ,_,rfl,x,t.LinkEnd,dx,_,_,rfl,hx,T.aM,T.nL,wN,zz2,λpa HV=>?_⟩;exact⟨_,rfl,main pa (L.k,L.b) HV (by rw[if_neg hs])⟩
def mC(C:Addr):Sp:=λvs H Q _=>∃(B:Hp)(x tA pA:Addr)(L:Lk),vs=[.ref x]/\bh C B H x tA pA L/\L.ev.length<1000000/\∀B' H' pB,jh B H B' H' x tA pA tA pB->bh C B' H' x tA pB (eG L)->Q .bw H'
theorem Bk:aS ["self"] ["self"] (aG fA):=ac
theorem Bl(T:Txt K mg t)(F:jz K "start_over" "LinkEnd.start_over" fA t.gj fd)(nU:b7 P w K mg base (iE P w) 2 t.nJ GR ["self"] (xZ t.LinkEnd))(nV:Binds K GR ["self"] []):
  b7 P w K mg base (iE P w) 3 t.gj fd ["self"] (mC t.LinkEnd)/\Binds K fd ["self"] []:=by
 refine⟨F.qY Bk (λvs H Q E h=>?_) (λf cB A outer s H vs Q E hr h=>?_),F.binds λ_ _ _ _ _ _=>ad λ_=>rfl⟩
 ·obtain⟨B,x,tA,pA,L,rfl,_⟩:=h;rfl
 obtain⟨B,x,tA,pA,L,rfl,h,jp,q⟩:=h;refine⟨_,aC (bO (aZ su (ar K (pv 0) (by rfl)) eM (af _))
   (aC (ax (iH K PySem.F.plainAttrs_list PySem.F.slot_list_append PySem.F.type_list_append cG (ar K (pv 0) (by rfl)) (aB (gT (aB aU (aB (ar K (pv 0) (by rfl)) (aB (aQ bK (aQ dv (ar K (pv 0) (by rfl)) (ar K (pv 0) (by rfl))) aH) (aB (ar K (pv 0) (by rfl)) aD))))) aD)))
   (aF (ax (dh (pv 0) T.aM T.DG (nU.mono (by decide)) hr nV .nil av))))
   (aj))
  (aC (Cn (pv 0) aH Ng)
  (aF (b8 K (pv 0) (aW T.tN) (by rfl)))),?_⟩
 have hsz:(1000001:Nat)<=sizeLine:=by decide
 obtain⟨dx,pv,hx,hp⟩:=h.at_;obtain⟨tk,hNB⟩:=T.tN;have last:∀(B1 H1:Hp)(pB:Addr)(L1:Lk),jh B H B1 H1 x tA pA tA pB->bh t.LinkEnd B1 H1 x tA pB L1->{ L1 with b:=L1.b+1,k:=0 }=eG L->(Hc (Dc K (qf 0) (tC (.int 1)) (Qf λi j=>.int (i+j)) "birth") (Nn K (qf 0) (tC (.int 0)) "known")) { nx:=λ_ H'=>Q .bw H',rt:=Q } [some (.ref x)] H1:=λB1 H1 pB L1 m1 h1 e1=>by obtain⟨GS,SQ,Ks,EK⟩:=h1.at_;refine⟨_,rfl,x,t.LinkEnd,GS,_,_,rfl,Ks,T.aM,T.nL,wN,_,_,rfl,rfl,GS,_,Ks,by show 11<1000;decide,?_⟩;rw[O2];refine⟨_,rfl,x,t.LinkEnd,GS,_,rfl,aA,T.aM,T.gq,by show 11<1000;decide,?_⟩;rw[GP,gR];obtain⟨h2,m2⟩:=h1.set (dx:=GS) (pv:=SQ) (L':={ L1 with b:=L1.b+1,k:=0 }) EK rfl rfl;exact q B1 _ pB (m1.trans m2) (by rw[<-e1];exact h2)
 refine⟨_,rfl,x,t.LinkEnd,dx,_,_,rfl,hx,T.aM,T.gz,rQ,rfl,_,rfl,?_⟩;cases ep:L.p with
 |none =>
  rw[ep]at hp;have hp:pv=.bw:=hp;subst hp;refine jg rfl ?_;exact last B H pA L jh.refl h (by unfold eG;rw[ep])
 |some p =>
  rw[ep]at hp;obtain⟨pa,rfl,HV⟩:=hp;refine wA (λz=>by cases z) ?_;obtain⟨iA,g,g'⟩:=h.told;refine⟨_,rfl,x,t.LinkEnd,dx,_,_,rfl,hx,T.aM,T.oR,Af,.inl ⟨rfl,_,ae.of g⟩,?_⟩;refine⟨_,rfl,x,t.LinkEnd,dx,_,_,rfl,hx,T.aM,T.gz,rQ,?_⟩;refine⟨_,rfl,x,t.LinkEnd,dx,_,_,rfl,hx,T.aM,T.zS,Ij,_,rfl,x,t.LinkEnd,dx,_,_,rfl,hx,T.aM,T.AV,Kt,_,_,rfl,rfl,_,_,rfl,rfl,?_⟩;refine⟨_,rfl,x,t.LinkEnd,dx,_,_,rfl,hx,T.aM,T.zS,Ij,zz4,λea Il=>?_⟩;refine⟨tA,_,_,rfl,rfl,by rw[aE (aR g Il)];exact g,by rw[aL];lia,?_⟩;obtain⟨h1,m1⟩:=h.tell g g' Il (O3 (w:="silent") (ns:=[L.d-L.q+1,L.d]) (h.sb.free Il) HV);obtain⟨GS,SQ,Ks,EK⟩:=h1.at_;refine⟨_,rfl,x,GS,_,rfl,Ks,rfl,_,x,tA,pA,_,rfl,h1,λB2 H2 pB m2 h2=>?_⟩;exact last B2 H2 pB _ (m1.trans m2) h2 (by unfold eG Wu;rw[ep])
def t8(C:Addr):Sp:=λvs H Q _=>∃(B:Hp)(x tA pA:Addr)(L:Lk)(n:Int),vs=[.ref x,.int n]/\bh C B H x tA pA L/\∀H',jh B H B H' x tA pA tA pA->bh C B H' x tA pA (bQ L n)->Q .bw H'
theorem MM{n:Nat}{f:Nat->Addr}:(bB (n+1) f).eraseIdx 0=bB n (λj=>f (j+1)):=by
 apply List.ext_getElem?;intro j;rw[List.getElem?_eraseIdx];by_cases hj:j<n
 ·rw[if_neg (by lia),bu (f:=λj=>V.ref (f j)) (show j+1<n+1 by lia),bu (f:=λj=>V.ref (f (j+1))) hj]
 rw[if_neg (by lia),getElem?_eq_none (by rw[aL];lia),getElem?_eq_none (by rw[aL];lia)]
theorem t9:aS ["self","count","following"] ["self","count"] (aG fB):=ac
theorem Bm(T:Txt K mg t)(F:jz K "hear_count" "LinkEnd.hear_count" fB t.gm fd):
  b7 P w K mg base (iE P w) 1 t.gm fd ["self","count"] (t8 t.LinkEnd)/\Binds K fd ["self","count"] []:=by
 refine⟨F.qY t9 (λvs H Q E h=>?_) (λf cB A outer s H vs Q E hr h=>?_),F.binds λ_ _ _ _ _ _=>am λ_ _=>rfl⟩
 ·obtain⟨B,x,tA,pA,L,n,rfl,_⟩:=h;rfl
 obtain⟨B,x,tA,pA,L,n,rfl,h,q⟩:=h;refine⟨_,aC (aX (i:=2) t9.nd rfl (Or.inl rfl) (aQ cF (aQ bK (ar K (pv 0) (by rfl)) aH) (aW T.cQ)))
  (aF (bO (PW.pt (nv (vt (ar K (pv 0) (by rfl)) (λ_=>rfl)) (lP (aZ jA (pv 1) (pv 2) (af _)))))
   (aC (ax (iH K PySem.F.plainAttrs_list PySem.F.slot_list_pop PySem.F.type_list_pop N1 (ar K (pv 0) (by rfl)) (aB aH aD)))
   (aF (b8 K (pv 0) (pv 2) (by rfl))))
   (aj))),?_⟩
 obtain⟨dx,pv,hx,hp⟩:=h.at_;obtain⟨fJ,g3,Ah⟩:=h.cE;refine⟨_,rfl,x,t.LinkEnd,dx,_,_,rfl,hx,T.aM,T.oS,DL,_,_,rfl,rfl,_,_,rfl,rfl,(by show(0:Int)<97;decide),?_⟩;refine⟨_,rfl,x,t.LinkEnd,dx,_,_,rfl,hx,T.aM,T.iL,nS,_,.inl ⟨_,ae.of g3,rfl⟩,?_⟩;cases ep:L.cE with
 |nil =>
  rw[ep]at g3;refine dX (dX (q H jh.refl ?_));unfold bQ;rw[if_neg (λz=>z.1 ep)];exact h
 |cons a r =>
  rw[ep]at g3 Ah;have Fh:(!(bB (a::r).length fJ).isEmpty)=true:=by
   have hl:(bB (a::r).length fJ).length=r.length+1:=aL _ _;cases e:bB (a::r).length fJ with
   |nil=>rw[e]at hl;cases hl
   |cons u v=>rfl
  rw[Fh];refine iD ?_;refine⟨_,rfl,_,rfl,rfl,_,rfl,?_⟩;by_cases hc:n=(L.of+1)%97
  ·refine eJ (by show V.int n=V.int ((L.of+1)%97);rw[hc]) ?_;refine⟨_,rfl,x,t.LinkEnd,dx,_,_,rfl,hx,T.aM,T.iL,nS,.inl ⟨rfl,_,ae.of g3⟩,pA,_,0,0,_,rfl,rfl,g3,by decide,by decide,by rw[aL,length_cons];unfold seqIndex?;simp,bu (f:=λj=>V.ref (fJ j)) (Nat.succ_pos _),?_⟩;have e0:(bB (a::r).length fJ).eraseIdx 0=bB r.length (λj=>fJ (j+1)):=MM;rw[e0];have SM:=h.xp;refine⟨_,rfl,_,rfl,x,t.LinkEnd,dx,_,rfl,by rw[aE SM];exact hx,T.aM,T.oS,by show 11<1000;decide,?_⟩;rw[Ag];have e1:bQ L n={ L with cE:=r,of:=(L.of+1)%97 }:=by unfold bQ;rw[if_pos ⟨(by rw[ep];exact λz=>by cases z),hc⟩,ep];rfl
   obtain⟨iA,g2,FA⟩:=h.told;refine q _ ⟨aI.refl _,λ_ _ z=>z,λy o n1 n2 n3 e=>by rw[aE n1,aE n3];exact e,λb hb=>kK (kK hb (by rw[aE SM];exact h.hx)) h.hp,.inl rfl,.inl rfl⟩ ?_;rw[e1];exact⟨(h.sb.put h.bp).put h.bx,h.bx,h.bt,h.bp,⟨dx,pv,aA,hp⟩,⟨iA,by rw[aE (Ne.symm h.xt),aE h.ne];exact g2,FA⟩,⟨λj=>fJ (j+1),by rw[aE (Ne.symm SM)];exact aA,λy xs hy=>Ah (y+1) xs hy⟩,h.ne⟩
  refine eZ (λz=>hc (V.int.inj z)) (q H jh.refl ?_);unfold bQ;rw[if_neg (λz=>hc z.2)];exact h
def uA(C:Addr):Sp:=λvs H Q _=>∃(B:Hp)(x tA pA l:Addr)(L:Lk)(n:Int)(xs:List Int),vs=[.ref x,.int n,.ref l]/\bh C B H x tA pA L/\L.ev.length<1000000/\B l=some (.lst (xs.map V.int))/\∀B' H',jh B H B' H' x tA pA tA pA->bh C B' H' x tA pA (b9 L n xs)->Q .bw H'
theorem Bn:aS ["self","number","piece"] ["self","number","piece"] (aG fD):=ac
theorem Bo(T:Txt K mg t)(F:jz K "take_piece" "LinkEnd.take_piece" fD t.gn fd):
  b7 P w K mg base (iE P w) 1 t.gn fd ["self","number","piece"] (uA t.LinkEnd)/\Binds K fd ["self","number","piece"] []:=by
 refine⟨F.qY Bn (λvs H Q E h=>?_) (λf cB A outer s H vs Q E hr h=>?_),F.binds λ_ _ _ _ _ _=>ap λ_ _ _=>rfl⟩
 ·obtain⟨B,x,tA,pA,l,L,n,xs,rfl,_⟩:=h;rfl
 obtain⟨B,x,tA,pA,l,L,n,xs,rfl,h,jp,hl,q⟩:=h;refine⟨_,aF (bO (PW.pt (nv (vt (pv 2) (λ_=>rfl)) (lP (aZ jA (pv 1) (ar K (pv 0) (by rfl)) (af _)))))
   (aC (ax (iH K PySem.F.plainAttrs_list PySem.F.slot_list_append PySem.F.type_list_append cG (ar K (pv 0) (by rfl)) (aB (gT (aB aU (aB (pv 2) aD))) aD)))
   (aF (b8 K (pv 0) (aQ cF (aQ bK (ar K (pv 0) (by rfl)) aH) (aW T.cQ)) (by rfl))))
   (aj)),?_⟩
 have hsz:(1000001:Nat)<=sizeLine:=by decide
 obtain⟨dx,pv,hx,hp⟩:=h.at_;obtain⟨iA,g,g'⟩:=h.told;refine⟨_,rfl,_,.inl ⟨_,ae.of (h.sb _ _ hl),rfl⟩,?_⟩;cases xs with
 |nil =>
  refine dX (dX (q B H jh.refl ?_));unfold b9;rw[if_neg (λz=>z.1 rfl)];exact h
 |cons a r =>
  have Fh:(!((a::r).map V.int).isEmpty)=true:=rfl;rw[Fh];refine iD ?_;refine⟨_,rfl,_,rfl,x,t.LinkEnd,dx,_,_,rfl,hx,T.aM,T.rH,ER,rfl,_,rfl,?_⟩;by_cases hc:n=L.tk
  ·refine eJ (by rw[hc]) ?_;refine⟨_,rfl,x,t.LinkEnd,dx,_,_,rfl,hx,T.aM,T.oR,Af,.inl ⟨rfl,_,ae.of g⟩,?_⟩;refine⟨_,rfl,zz2,λea Il=>?_⟩;refine⟨tA,_,_,rfl,rfl,by rw[aE (aR g Il)];exact g,by rw[aL];lia,?_⟩;obtain⟨h1,m1⟩:=h.tell g g' Il (SK (h.sb.free Il) hl);obtain⟨GS,SQ,Ks,EK⟩:=h1.at_;refine⟨_,rfl,x,t.LinkEnd,GS,_,_,rfl,Ks,T.aM,T.rH,ER,_,_,rfl,rfl,_,_,rfl,rfl,(by show(0:Int)<97;decide),?_⟩;refine⟨_,rfl,x,t.LinkEnd,GS,_,rfl,Ks,T.aM,T.rH,by show 11<1000;decide,?_⟩;rw[GQ];obtain⟨h2,m2⟩:=h1.set (dx:=GS) (pv:=SQ) (L':={ L with ev:=L.ev++[.took (a::r)],tk:=(L.tk+1)%97 }) EK rfl rfl;refine q _ _ (m1.trans m2) ?_;unfold b9;rw[if_pos ⟨(λz=>by cases z),hc⟩]
   exact h2
  refine eZ (λz=>hc (V.int.inj z)) (q B H jh.refl ?_);unfold b9;rw[if_neg (λz=>hc z.2)];exact h
def O4(C:Addr):Sp:=λvs H Q _=>∃(B:Hp)(x tA pA:Addr)(L:Lk),vs=[.ref x]/\bh C B H x tA pA L/\∀pv,nT B pv L.p->Q pv H
theorem Z5:aS ["self"] ["self"] (aG L9):=ac
theorem Z6(T:Txt K mg t)(F:jz K "up" "LinkEnd.up" L9 t.MA fd):
  b7 P w K mg base (iE P w) 1 t.MA fd ["self"] (O4 t.LinkEnd)/\Binds K fd ["self"] []:=by
 refine⟨F.qY Z5 (λvs H Q E h=>?_) (λf cB A outer s H vs Q E hr h=>?_),F.binds λ_ _ _ _ _ _=>ad λ_=>rfl⟩
 ·obtain⟨B,x,tA,pA,L,rfl,_⟩:=h;rfl
 obtain⟨B,x,tA,pA,L,rfl,h,q⟩:=h;refine⟨_,aF (ah (ar K (pv 0) (by rfl))),?_⟩;obtain⟨dx,pv,hx,hp⟩:=h.at_;exact⟨_,rfl,x,t.LinkEnd,dx,_,_,rfl,hx,T.aM,T.gz,rQ,q pv hp⟩
def Al(C:Addr):Sp:=λvs H Q _=>∃(B:Hp)(x tA pA:Addr)(L:Lk),vs=[.ref x]/\bh C B H x tA pA L/\Q (.int (L.cE.length:Nat)) H
theorem O5:aS ["self"] ["self"] (aG tL):=ac
theorem O6(T:Txt K mg t)(F:jz K "waits" "LinkEnd.waits" tL t.tM fd):
  b7 P w K mg base (iE P w) 1 t.tM fd ["self"] (Al t.LinkEnd)/\Binds K fd ["self"] []:=by
 refine⟨F.qY O5 (λvs H Q E h=>?_) (λf cB A outer s H vs Q E hr h=>?_),F.binds λ_ _ _ _ _ _=>ad λ_=>rfl⟩
 ·obtain⟨B,x,tA,pA,L,rfl,_⟩:=h;rfl
 obtain⟨B,x,tA,pA,L,rfl,h,q⟩:=h;refine⟨_,aF (ah (bP (bY K) (by rfl) T.gI boot_len (aB (ar K (pv 0) (by rfl)) aD))),?_⟩;obtain⟨dx,pv,hx,hp⟩:=h.at_;obtain⟨fJ,g3,Ah⟩:=h.cE;refine⟨_,rfl,x,t.LinkEnd,dx,_,_,rfl,hx,T.aM,T.iL,nS,pA,_,rfl,.inl (ae.of g3),?_⟩;rw[aL];exact q
def DP(C:Addr):Sp:=λvs H Q _=>∃(B:Hp)(x tA pA:Addr)(L:Lk),vs=[.ref x]/\bh C B H x tA pA L/\∀H' tB,jh B H B H' x tA pA tB pA->tB≠tA->bh C B H' x tB pA { L with ev:=[] }->DM B H' tA L.ev->Q (.ref tA) H'
theorem DQ:aS ["self","told"] ["self"] (aG nH):=ac
theorem MN(T:Txt K mg t)(F:jz K "events" "LinkEnd.events" nH t.rB fd):
  b7 P w K mg base (iE P w) 1 t.rB fd ["self"] (DP t.LinkEnd)/\Binds K fd ["self"] []:=by
 refine⟨F.qY DQ (λvs H Q E h=>?_) (λf cB A outer s H vs Q E hr h=>?_),F.binds λ_ _ _ _ _ _=>ad λ_=>rfl⟩
 ·obtain⟨B,x,tA,pA,L,rfl,_⟩:=h;rfl
 obtain⟨B,x,tA,pA,L,rfl,h,q⟩:=h;refine⟨_,aC (aX (i:=1) DQ.nd rfl (Or.inl rfl) (ar K (pv 0) (by rfl)))
  (aC (b8 K (pv 0) (ba aD) (by rfl))
  (aF (ah (pv 1)))),?_⟩
 obtain⟨dx,pv,hx,hp⟩:=h.at_;obtain⟨fJ,g3,Ah⟩:=h.cE;obtain⟨iA,g2,FA⟩:=h.told;refine⟨_,rfl,x,t.LinkEnd,dx,_,_,rfl,hx,T.aM,T.oR,Af,?_⟩;refine⟨zz0,λtB Xz=>?_⟩;have s1:aI H (dl H tB (.lst [])):=(aI.refl _).new Xz;have h1:=h.same s1;have Qm:x≠tB:=λz=>h.hx (by rw[z];exact Xz);have npt:pA≠tB:=λz=>h.hp (by rw[z];exact Xz);have ntt:tA≠tB:=λz=>h.ht (by rw[z];exact Xz);refine⟨_,rfl,x,t.LinkEnd,dx,_,rfl,s1 _ _ hx,T.aM,T.oR,by show 11<1000;decide,?_⟩;rw[SJ];exact⟨_,rfl,q _ tB ⟨aI.refl _,λ_ _ z=>z,λy o n1 n2 n3 e=>by rw[aE n1];exact s1 _ _ e,λb hb=>s1.free (kK hb h1.hx),.inr Xz,.inl rfl⟩ (Ne.symm ntt) ⟨h1.sb.put h.bx,h.bx,h.sb.free Xz,h.bp,⟨dx,pv,aA,hp⟩,⟨λ_=>0,by rw[aE (Ne.symm Qm)];exact aA,λy e he=>by cases he⟩,⟨fJ,by rw[aE (Ne.symm h.xp)];exact s1 _ _ g3,Ah⟩,Ne.symm npt⟩ ⟨iA,by rw[aE (Ne.symm h.xt)];exact s1 _ _ g2,FA⟩⟩
def FC(b:Int):Prop:=0<=b/\b<9409
def NR(n:Int):Prop:=0<=n/\n<97
structure fo(a:Cl):Prop where
 b:FC a.b
 k:FC a.k
 n:NR a.n
 c:NR a.c
 l:a.xs.length<=10
 x:∀v∈a.xs,NR v
def Bq(a:Cl):List Int:=[a.b/97,a.b%97,a.k/97,a.k%97,a.n,a.c,(a.xs.length:Int)]++a.xs
def yj(a:Cl)(i:Nat):Int:=(Bq a).getD i 0
theorem SR{a:Cl}(h:fo a):∀v∈Bq a,NR v:=by
 intro v hv;obtain⟨b0,b1⟩:=h.b;obtain⟨k0,k1⟩:=h.k;have hl:=h.l;unfold Bq at hv;rcases mem_append.mp hv with z|z
 ·simp only[mem_cons,not_mem_nil,or_false]at z;rcases z with rfl|rfl|rfl|rfl|rfl|rfl|rfl
  ·exact⟨by lia,by lia⟩
  ·exact⟨by lia,by lia⟩
  ·exact⟨by lia,by lia⟩
  ·exact⟨by lia,by lia⟩
  ·exact h.n
  ·exact h.c
  exact⟨by lia,by lia⟩
 exact h.x v z
theorem GV{a:Cl}(h:fo a):IsCell 18 (yj a):=by
 refine⟨λi _=>?_⟩;unfold yj;rw[getD_eq_getElem?_getD];cases e:(Bq a)[i]? with
 |none=>exact⟨by decide,by decide⟩
 |some v=>exact SR h v (mem_of_getElem? e)
theorem SS(a:Cl)(i:Nat):yj a (7+i)=a.xs.getD i 0:=by unfold yj Bq;rw[Nat.add_comm];rfl
abbrev bE(a:Cl):Nat->Int:=My.nC (yj a)
theorem MO{a:Cl}(h:i<18):bE a i=yj a i:=by unfold bE My.nC;rw[if_pos h]
theorem wO{a:Cl}(h:fo a):IsCell 24 (bE a):=⟨λi _=>My.Ro (GV h).b i⟩
theorem SU(a:Cl):bE a 0*97+bE a 1=a.b:=by show a.b/97*97+a.b%97=a.b;lia
theorem SV(a:Cl):bE a 2*97+bE a 3=a.k:=by show a.k/97*97+a.k%97=a.k;lia
theorem MP{a:Cl}(h:fo a):cU (dL 24 (bE a)) (some 7) (some (7+bE a 6))=a.xs.map V.int:=by have hl:=h.l;have e6:bE a 6=(a.xs.length:Int):=rfl;have:=lU (f:=λj=>V.int (bE a j)) (n:=24) (lo:=7) (hi:=7+a.xs.length) (by lia) (by lia);rw[e6];rw[show((7+a.xs.length:Nat):Int)=7+(a.xs.length:Int) by lia]at this;refine this.trans ?_;rw[OJ,show 7+a.xs.length-7=a.xs.length by lia];refine bX λi hi=>?_;rw[MO (by lia),SS]
theorem O7(ns:List Int)(h:ns.length<=18):ns.map V.int++(List.replicate (18-ns.length) [V.int 0]).flatten=dL 18 (λi=>ns.getD i 0):=by
 rw[List.flatten_replicate_singleton];apply List.ext_getElem?;intro j;by_cases hj:j<18
 ·rw[bu (f:=λi=>V.int (ns.getD i 0)) hj,getD_eq_getElem?_getD];by_cases hn:j<ns.length
  ·rw[getElem?_append_left (by rw[length_map];exact hn),getElem?_map];cases e:ns[j]? with
   |none=>rw[List.getElem?_eq_none_iff]at e;lia
   |some v=>rfl
  rw[getElem?_append_right (by rw[length_map];lia),length_map,List.getElem?_replicate,if_pos (by lia),getElem?_eq_none (by lia)];rfl
 rw[getElem?_eq_none (by rw[length_append,length_map,length_replicate];lia),getElem?_eq_none (by rw[aL];lia)]
theorem Ky{n:Int}:(My.low (2:Int).toNat n).reverse=[n/97%97,n%97]:=rfl
theorem GW{n:Int}(h:FC n):My.rest (2:Int).toNat n=0:=by show n/97/97=0;obtain⟨h0,h1⟩:=h;lia
theorem GX(a b:Int):My.told [a,b]=a*97+b:=by show(0*97+a)*97+b=_;lia
theorem xa{n:Int}(h:FC n):n.natAbs<2 ^ 1000:=by
 have:n.natAbs<9409:=by obtain⟨h0,h1⟩:=h;lia
 exact lt_of_lt_of_le this (by decide)
theorem Am{n:Int}(h:0<=n/\n<97):n.natAbs<2 ^ 1000:=xa ⟨h.1,by lia⟩
theorem GY(L:Lk)(n:Int):(bH L n).ev.length<=L.ev.length+1:=by
 unfold bH;cases L.p with
 |none=>exact le_succ _
 |some p =>
  simp only;split
  ·show(L.ev++[_]).length<=_;rw[length_append];exact le_refl _
  exact le_succ _
theorem GZ(L:Lk):(bM L).ev.length<=L.ev.length+1:=by
 unfold bM;cases L.p with
 |none=>show(L.ev++[_]).length<=_;rw[length_append];exact le_refl _
 |some p=>exact le_succ _
theorem Kz(L:Lk)(c:Int):(bQ L c).ev=L.ev:=by unfold bQ;split<;>rfl
def K0(C:Addr):Sp:=λvs H Q _=>∃(B:Hp)(x tA pA l:Addr)(L:Lk)(a:Cl),vs=[.ref x,.ref l]/\bh C B H x tA pA L/\L.ev.length<900000/\H l=some (.lst (dL 24 (bE a)))/\fo a/\l≠tA/\l≠pA /\
 ∀B' H' pB,jh B H B' H' x tA pA tA pB->bh C B' H' x tA pB (a8 L a)->Q .bw H'
theorem K1:aS ["self","cell","birth"] ["self","cell"] (aG xO):=ac
theorem SW{fd4:FuncData}(T:Txt K mg t)(F:jz K "read" "LinkEnd.read" xO t.AI fd)(g8:Def P w K mg base 3 "signs_number" ["signs"] (qP K t.BadSign))(Ip:b7 P w K mg base (iE P w) 3 t.AJ GR ["self","birth"] (Kw t.LinkEnd))(Iq:Binds K GR ["self","birth"] [])(xb:b7 P w K mg base (iE P w) 1 t.nI Z7 ["self"] (Ak t.LinkEnd))(xc:Binds K Z7 ["self"] [])(oZ:b7 P w K mg base (iE P w) 1 t.gm Z8 ["self","count"] (t8 t.LinkEnd))(oa:Binds K Z8 ["self","count"] [])(og:b7 P w K mg base (iE P w) 1 t.gn fd4 ["self","number","piece"] (uA t.LinkEnd))(oh:Binds K fd4 ["self","number","piece"] []):
  b7 P w K mg base (iE P w) 4 t.AI fd ["self","cell"] (K0 t.LinkEnd)/\Binds K fd ["self","cell"] []:=by
 refine⟨F.qY K1 (λvs H Q E h=>?_) (λf cB A outer s H vs Q E hr h=>?_),F.binds λ_ _ _ _ _ _=>am λ_ _=>rfl⟩
 ·obtain⟨B,x,tA,pA,l,L,a,rfl,_⟩:=h;rfl
 obtain⟨B,x,tA,pA,l,L,a,rfl,h,jp,hl,ga,n1,n2,q⟩:=h;refine⟨_,aC (aX (i:=2) K1.nd rfl (Or.inl rfl) (aY (g8.mono (by decide)) hr av (aB (cw (dN K) (pv 1) oF (cD (aW T.C7))) aD)))
  (aC (bO (aZ lQ (pv 2) (ar K (pv 0) (by rfl)) (af _))
   (aF (Q3))
   (aj))
  (aC (ax (lR (pv 0) T.aM T.R5 (Ip.mono (by decide)) hr Iq .nil av (aB (pv 2) aD)))
  (aF (bO (aZ jA (aY (g8.mono (by decide)) hr av (aB (cw (dN K) (pv 1) (cD (aW T.C7)) (cD (aW T.AO))) aD)) (ar K (pv 0) (by rfl)) (af _))
   (aC (ax (dh (pv 0) T.aM T.IW (xb.mono (by decide)) hr xc .nil av))
   (aC (ax (lR (pv 0) T.aM T.Bg (oZ.mono (by decide)) hr oa .nil av (aB (ai (aV K) (pv 1) (aW T.MB) (λ_ _=>rfl)) aD)))
   (aF (ax (lR (pv 0) T.aM T.Bh (og.mono (by decide)) hr oh .nil av (aB (ai (aV K) (pv 1) (aW T.AO) (λ_ _=>rfl)) (aB (cw (dN K) (pv 1) (cD (aW T.C8)) (cD (aQ bK (aW T.C8) (ai (aV K) (pv 1) (aW T.IV) (λ_ _=>rfl))))) aD)))))))
   (aj))))),?_⟩
 have sg:∀i,i<24->0<=bE a i/\bE a i<97:=(wO ga).b;have two:∀{a b:Int},(0<=a/\a<97)->(0<=b/\b<97)->∀n∈[a,b],0<=n/\n<97:=λ{a b} ha hb n hn=>by
  rcases mem_cons.mp hn with rfl|hn
  ·exact ha
  rw[mem_singleton.mp hn];exact hb
 have nxl:l≠x:=λz=>by obtain⟨_,_,gx,_⟩:=h.at_;rw[z,gx]at hl;cases hl
 refine⟨_,rfl,_,rfl,l,_,rfl,ae.of hl,λp1 EK=>?_⟩;have ec:cU (dL 24 (bE a)) none (some 2)=[bE a 0,bE a 1].map V.int:=uP (f:=λj=>V.int (bE a j)) (n:=24) (hi:=2) (by decide);rw[ec];have s1:aI H (dl H p1 (.lst ([bE a 0,bE a 1].map V.int))):=(aI.refl _).new EK;have Xy:=two (sg 0 (by decide)) (sg 1 (by decide));refine⟨p1,[bE a 0,bE a 1],rfl,ae.of aA,λn hn=>Am (Xy n hn),λ_=>?_,λn hn z=>absurd (Xy n hn) z⟩;generalize dl H p1 (.lst ([bE a 0,bE a 1].map V.int))=H1 at *;rw[GX,SU];have h1:=h.same s1;have m1:jh B H B H1 x tA pA tA pA:=jh.of_same s1;obtain⟨dx,pv,hx,hp⟩:=h1.at_;refine⟨_,rfl,_,rfl,x,t.LinkEnd,dx,_,_,rfl,hx,T.aM,T.gq,tQ,_,_,rfl,rfl,_,rfl,?_⟩;unfold a8 at q;by_cases hk:a.b<L.k
 ·rw[if_pos hk]at q;exact eJ hk (q B H1 pA m1 h1)
 rw[if_neg hk]at q;refine eZ hk ?_;refine⟨_,rfl,x,dx,_,rfl,hx,rfl,_,rfl,B,x,tA,pA,L,_,rfl,h1,by lia,λB2 H2 pB m2 h2=>?_⟩;have Z4:=m1.trans m2;have NS:H2 l=some (.lst (dL 24 (bE a))):=Z4.k l _ nxl n1 n2 hl;have nlp:l≠pB:=by
  rcases Z4.p with z|z
  ·rw[z];exact n2
  exact aR hl z
 have V7:=GY L a.b;generalize bH L a.b=L2 at *;refine⟨_,rfl,_,rfl,_,rfl,l,_,rfl,ae.of NS,λp3 EL=>?_⟩;have ec2:cU (dL 24 (bE a)) (some 2) (some 4)=[bE a 2,bE a 3].map V.int:=lU (f:=λj=>V.int (bE a j)) (n:=24) (lo:=2) (hi:=4) (by decide) (by decide);rw[ec2];have s3:aI H2 (dl H2 p3 (.lst ([bE a 2,bE a 3].map V.int))):=(aI.refl _).new EL;have Z0:=two (sg 2 (by decide)) (sg 3 (by decide));refine⟨p3,[bE a 2,bE a 3],rfl,ae.of aA,λn hn=>Am (Z0 n hn),λ_=>?_,λn hn z=>absurd (Z0 n hn) z⟩;generalize dl H2 p3 (.lst ([bE a 2,bE a 3].map V.int))=H3 at *;rw[GX,SV];have h3:=h2.same s3;have m03:=Z4.same s3;have Wv:=s3 _ _ NS;obtain⟨O8,X0,SY,aH1⟩:=h3.at_;refine⟨_,rfl,x,t.LinkEnd,O8,_,_,rfl,SY,T.aM,T.nL,wN,rfl,_,rfl,?_⟩;by_cases ho:a.k=L2.b
 ·rw[if_pos ho]at q;refine eJ (by rw[ho]) ?_;refine⟨_,rfl,x,O8,_,rfl,SY,rfl,B2,x,tA,pB,L2,rfl,h3,by lia,λB4 H4 m4 h4=>?_⟩;have X1:H4 l=some (.lst (dL 24 (bE a))):=m4.k l _ nxl n1 nlp Wv;obtain⟨X2,pv4,X3,_⟩:=h4.at_;have Z9:=m03.trans m4;refine⟨_,rfl,x,X2,_,rfl,X3,rfl,_,rfl,l,_,_,_,rfl,rfl,ae.of X1,rfl,B4,x,tA,pB,_,a.c,rfl,h4,λH5 m5 h5=>?_⟩;have hl5:H5 l=some (.lst (dL 24 (bE a))):=m5.k l _ nxl n1 nlp X1;obtain⟨Uy,pv5,hx5,_⟩:=h5.at_;have m05:=Z9.trans m5;refine⟨_,rfl,x,Uy,_,rfl,hx5,rfl,_,rfl,l,_,_,_,rfl,rfl,ae.of hl5,rfl,?_⟩;refine⟨_,rfl,_,rfl,_,rfl,l,_,_,_,rfl,rfl,ae.of hl5,rfl,_,_,rfl,rfl,_,rfl,l,_,rfl,ae.of hl5,λp6 Uu=>?_⟩;have ec3:cU (dL 24 (bE a)) (some 7) (some (7+bE a 6))=a.xs.map V.int:=MP ga;have s6:aI H5 (dl H5 p6 (.lst (cU (dL 24 (bE a)) (some 7) (some (7+bE a 6))))):=(aI.refl _).new Uu;obtain⟨h6,m6⟩:=h5.grow (o:=.lst (cU (dL 24 (bE a)) (some 7) (some (7+bE a 6)))) s6 Uu aA;have Ql:=GZ L2;refine⟨_,x,tA,pB,p6,_,a.n,a.xs,rfl,h6,by rw[Kz];lia,by rw[aA,ec3],λB7 H7 m7 h7=>?_⟩;exact q B7 H7 pB ((m05.trans m6).trans m7) h7
 rw[if_neg ho]at q;refine eZ (λz=>ho (V.int.inj z)) ?_;exact q B2 H3 pB m03 h3
def O9(L:Lk):Prop:=fo (b6 L)
def mD(C:Addr):Sp:=λvs H Q _=>∃(B:Hp)(x tA pA:Addr)(L:Lk),vs=[.ref x]/\bh C B H x tA pA L/\O9 L/\∀p H',H p=none->aI H H'->H' p=some (.lst (dL 24 (bE (b6 L))))->Q (.ref p) H'
theorem i7:aS ["self","piece","births","signs"] ["self"] (aG e9):=ac
set_option maxHeartbeats 1000000 in
theorem Br(T:Txt K mg t)(F:jz K "cell_given" "LinkEnd.cell_given" e9 t.gi fd)(g9:Def P w K mg base 1 "number_signs" ["number","many"] (qO t.BadSign))(An:Def P w K mg base 3 "sealed" ["signs"] (DI K)):
  b7 P w K mg base (iE P w) 4 t.gi fd ["self"] (mD t.LinkEnd)/\Binds K fd ["self"] []:=by
 refine⟨F.qY i7 (λvs H Q E h=>?_) (λf cB A outer s H vs Q E hr h=>?_),F.binds λ_ _ _ _ _ _=>ad λ_=>rfl⟩
 ·obtain⟨B,x,tA,pA,L,rfl,_⟩:=h;rfl
 obtain⟨B,x,tA,pA,L,rfl,h,gl,q⟩:=h;refine⟨_,aC (l8 (aX (i:=1) i7.nd rfl (Or.inl rfl) (qg (vt (ar K (pv 0) (by rfl)) (λ_=>rfl)) (ai (aV K) (ar K (pv 0) (by rfl)) aH (λ_ _=>rfl)) (ba aD))))
  (aC (aX (i:=2) i7.nd rfl (Or.inl rfl) (aQ (fX K) (aY (g9.mono (by decide)) hr av (aB (ar K (pv 0) (by rfl)) (aB (aW T.wI) aD))) (aY (g9.mono (by decide)) hr av (aB (ar K (pv 0) (by rfl)) (aB (aW T.wI) aD)))))
  (aC (aX (i:=3) i7.nd rfl (Or.inl rfl) (aQ (fX K) (aQ (fX K) (pv 2) (ba (aB (ar K (pv 0) (by rfl)) (aB (ar K (pv 0) (by rfl)) (aB (bP (bY K) (by rfl) T.gI boot_len (aB (pv 1) aD)) aD))))) (pv 1)))
  (aF (ah (aY (An.mono (by decide)) hr (jB aw) (aB (aQ (fX K) (pv 3) (aQ qm (ba (aB aH aD)) (aQ dv (aW T.wJ) (bP (bY K) (by rfl) T.gI boot_len (aB (pv 3) aD))))) aD)))))),?_⟩
 have hsz:(1000001:Nat)<=sizeLine:=by decide
 obtain⟨dx,pv,hx,_⟩:=h.at_;obtain⟨fJ,g3,Ah⟩:=h.cE;refine⟨λσ H0=>∃p0,σ=[some (.ref x),some (.ref p0),none,none]/\aI H H0/\H0 p0=some (.lst ((L.cE.headD []).map V.int)),?_,?_⟩
 ·refine⟨_,rfl,x,t.LinkEnd,dx,_,_,rfl,hx,T.aM,T.iL,nS,_,.inl ⟨_,ae.of g3,rfl⟩,?_⟩;cases ep:L.cE with
  |nil =>
   rw[ep]at g3;refine dX ⟨zz0,λp0 Uz=>⟨p0,rfl,(aI.refl _).new Uz,aA⟩⟩
  |cons a r =>
   rw[ep]at g3 Ah;have Fh:(!(bB (a::r).length fJ).isEmpty)=true:=by
    have hl:(bB (a::r).length fJ).length=r.length+1:=aL _ _;cases e:bB (a::r).length fJ with
    |nil=>rw[e]at hl;cases hl
    |cons u v=>rfl
   rw[Fh];refine iD ⟨_,rfl,x,t.LinkEnd,dx,_,_,rfl,hx,T.aM,T.iL,nS,pA,_,_,_,rfl,rfl,ae.of g3,gU (bu (f:=λj=>V.ref (fJ j)) (Nat.succ_pos _)),?_⟩;exact⟨fJ 0,rfl,aI.refl _,h.sb _ _ (Ah 0 a rfl)⟩
 rintro σ H0 ⟨p0,rfl,s0,e0⟩;have gb:=gl.b;have gk:=gl.k;have aH5:(L.cE.headD []).length<=10:=gl.l;have hb:FC L.b:=gb;have hk:FC L.k:=gk;have Xu:Bq (b6 L)=[L.b/97,L.b%97,L.k/97,L.k%97,L.of,L.tk,((L.cE.headD []).length:Int)]++L.cE.headD []:=rfl;have hcp:∀i,yj (b6 L) i=(Bq (b6 L)).getD i 0:=λi=>rfl;generalize L.cE.headD []=xs at *;refine⟨_,rfl,x,t.LinkEnd,dx,_,_,rfl,s0 _ _ hx,T.aM,T.nL,wN,L.b,2,rfl,xa hb,by decide,by decide,λ_ _ p1 H1 EK s1 e1=>?_,λz=>absurd z (by rw[GW hb];have:=hb.1;lia)⟩;rw[Ky]at e1;have s01:=s0.trans s1;refine⟨_,rfl,x,t.LinkEnd,dx,_,_,rfl,s01 _ _ hx,T.aM,T.gq,tQ,L.k,2,rfl,xa hk,by decide,by decide,λ_ _ p2 H2 z9 s2 e2=>?_,λz=>absurd z (by rw[GW hk];have:=hk.1;lia)⟩;rw[Ky]at e2;have X4:=s01.trans s2;refine⟨p1,p2,_,_,rfl,rfl,ae.of (s2 _ _ e1),ae.of e2,zz4,λp3 EL=>?_⟩;have t3:=(aI.refl H2).new (o:=.lst ([L.b/97%97,L.b%97].map V.int++[L.k/97%97,L.k%97].map V.int)) EL;have e3:(dl H2 p3 (.lst ([L.b/97%97,L.b%97].map V.int++[L.k/97%97,L.k%97].map V.int))) p3=some (.lst ([L.b/97%97,L.b%97,L.k/97%97,L.k%97].map V.int)):=aA;have s3:=X4.trans t3;have e03:=((s1.trans s2).trans t3) _ _ e0;generalize dl H2 p3 (.lst ([L.b/97%97,L.b%97].map V.int++[L.k/97%97,L.k%97].map V.int))=H3 at *;refine⟨_,rfl,_,rfl,x,t.LinkEnd,dx,_,_,rfl,s3 _ _ hx,T.aM,T.oS,DL,_,rfl,x,t.LinkEnd,dx,_,_,rfl,s3 _ _ hx,T.aM,T.rH,ER,_,rfl,p0,_,rfl,.inl (ae.of e03),zz3,λp4 Uv=>?_⟩;rw[length_map];have t4:=(aI.refl H3).new (o:=.lst [V.int L.of,V.int L.tk,V.int (xs.length:Nat)]) Uv;refine⟨p3,p4,_,_,rfl,rfl,ae.of (t4 _ _ e3),ae.of aA,zz7,λp5 hp5=>?_⟩;have t5:=t4.new (o:=.lst ([L.b/97%97,L.b%97,L.k/97%97,L.k%97].map V.int++[V.int L.of,V.int L.tk,V.int (xs.length:Nat)])) hp5;refine⟨_,rfl,p5,p0,_,_,rfl,rfl,ae.of aA,ae.of (t5 _ _ e03),by rw[length_map];show 7+xs.length<=sizeLine;lia,λp6 Uu=>?_⟩;have t6:=t5.new (o:=.lst (([L.b/97%97,L.b%97,L.k/97%97,L.k%97].map V.int++[V.int L.of,V.int L.tk,V.int (xs.length:Nat)])++xs.map V.int)) Uu;have s6:=s3.trans t6;have eb:L.b/97%97=L.b/97:=by obtain⟨h0,h1⟩:=hb;lia
 have ek:L.k/97%97=L.k/97:=by obtain⟨h0,h1⟩:=hk;lia
 have e6:(dl (dl (dl H3 p4 (.lst [V.int L.of,V.int L.tk,V.int (xs.length:Nat)])) p5 (.lst ([L.b/97%97,L.b%97,L.k/97%97,L.k%97].map V.int++[V.int L.of,V.int L.tk,V.int (xs.length:Nat)]))) p6 (.lst (([L.b/97%97,L.b%97,L.k/97%97,L.k%97].map V.int++[V.int L.of,V.int L.tk,V.int (xs.length:Nat)])++xs.map V.int))) p6=some (.lst ((Bq (b6 L)).map V.int)):=by rw[aA,Xu,eb,ek,map_append];rfl
 generalize(dl (dl (dl H3 p4 (.lst [V.int L.of,V.int L.tk,V.int (xs.length:Nat)])) p5 (.lst ([L.b/97%97,L.b%97,L.k/97%97,L.k%97].map V.int++[V.int L.of,V.int L.tk,V.int (xs.length:Nat)]))) p6 (.lst (([L.b/97%97,L.b%97,L.k/97%97,L.k%97].map V.int++[V.int L.of,V.int L.tk,V.int (xs.length:Nat)])++xs.map V.int)))=H6 at *;have sl7:(Bq (b6 L)).length=7+xs.length:=by rw[Xu,length_append];rfl
 generalize Bq (b6 L)=ss at *;refine⟨_,rfl,zz1,λp7 hp7=>?_⟩;have s7:=(aI.refl H6).new (o:=.lst [V.int 0]) hp7;refine⟨_,rfl,p6,_,rfl,.inl (ae.of (s7 _ _ e6)),_,_,rfl,rfl,?_⟩;rw[length_map];refine⟨p7,_,_,rfl,rfl,aA,by lia,by lia,by show 1*_<=sizeLine;lia,λp8 hp8=>?_⟩;have en:((18:Int)-(ss.length:Nat)).toNat=18-ss.length:=by lia
 rw[en];have s8:=s7.new (o:=.lst ((List.replicate (18-ss.length) [V.int 0]).flatten)) hp8;refine⟨p6,p8,_,_,rfl,rfl,ae.of (s8 _ _ e6),ae.of aA,by rw[List.flatten_replicate_singleton,length_map,length_replicate];lia,λp9 hp9=>?_⟩;rw[O7 ss (by lia)]at *;have s9:=s8.new (o:=.lst (dL 18 λi=>ss.getD i 0)) hp9;refine⟨p9,yj (b6 L),rfl,ae.of ?_,GV gl,λp H' hp s' e'=>?_⟩
 ·rw[aA];exact congrArg (λz=>some (HO.lst z)) (bX λi _=>by rw[hcp i])
 have sA:=(s6.trans s9).trans s';exact q p H' ((s6.trans s9).free hp) sA e'
theorem MQ{f g h:Nat->Int}(a:My.qZ f g)(b:My.qZ f h):dL 24 g=dL 24 h:=by
 refine bX λi hi=>?_;rw[My.Up a.b b.b a.sealed b.sealed ?_ i hi];have:=My.iJ (My.fk 24 g h) (My.fk 24 f g++My.fk 24 f h) (My.iI _ _ _) λi hi=>by
  obtain⟨h1,h2⟩:=My.cM.mp hi;by_cases e:f i=g i
  ·exact mem_append_right _ (My.cM.mpr ⟨h1,λz=>h2 (by rw[<-e,z])⟩)
  exact mem_append_left _ (My.cM.mpr ⟨h1,e⟩)
 have a2:=a.yz;have b2:=b.yz;rw[length_append]at this;lia
def PB(f:Nat->Int):Option Cl->Prop
 |none=>∀g,¬My.qZ f g
 |some a=>fo a/\My.qZ f (bE a)
abbrev Cm:=(Nat->Int)×Option Cl
def InC(H:Hp)(cl:Addr)(MR:Nat->Addr)(fs:List Cm):Prop:=H cl=some (.lst (bB fs.length MR))/\∀j c,fs[j]?=some c->H (MR j)=some (.lst (dL 24 c.1))/\IsCell 24 c.1/\PB c.1 c.2
def PC(H0 H:Hp)(D:Addr)(v:V):Option Cl->Prop
 |none=>v=.bw
 |some b=>∃p,v=.ref p/\H0 p=none/\p≠D/\H p=some (.lst (dL 24 (bE b)))
theorem PC.mono{H0:Hp}{D:Addr}{v:V}{o:Option Cl}(h:PC H0 H D v o)(k:∀p u,p≠D->H p=some u->H' p=some u):PC H0 H' D v o:=by
 cases o with
 |none=>exact h
 |some b=>obtain⟨p,h1,h2,h3,h4⟩:=h;exact⟨p,h1,h2,h3,k p _ h3 h4⟩
def aP(L:Lk)(bs:List Cl):Lk:=bs.foldl a8 L
def dB(L:Lk)(bs:List Cl):Lk:={ L with u:=if bs=[]then L.u+1 else 0 }
def bC(L:Lk):Lk:=if L.k≠0/\L.q<=L.u then eG L else L
def bN(L:Lk)(bs:List Cl):Lk:={ bC (dB (aP L bs) bs)with d:=(bC (dB (aP L bs) bs)).d+1 }
theorem Ir(L:Lk)(bs:List Cl)(b:Cl):aP L (bs++[b])=a8 (aP L bs) b:=by unfold aP;rw[List.foldl_append];rfl
structure yk(L:Lk):Prop where
 k:FC L.k
 o:NR L.of
 t:NR L.tk
 p:∀xs∈L.cE,xs.length<=10/\∀v∈xs,NR v
theorem Ww:FC 0:=⟨by decide,by decide⟩
theorem MS:NR 0:=⟨by decide,by decide⟩
theorem ET(n:Int):NR (n%97):=⟨Int.emod_nonneg _ (by decide),Int.emod_lt_of_pos _ (by decide)⟩
theorem yk.give{L:Lk}(h:yk L)(hb:FC L.b):O9 L:=by
 refine⟨hb,h.k,h.o,h.t,?_,?_⟩
 ·show(L.cE.headD []).length<=10;cases e:L.cE with
  |nil=>exact zero_le _
  |cons a r=>exact(h.p a (by rw[e];exact mem_cons_self)).1
 show ∀v∈L.cE.headD [],NR v;cases e:L.cE with
 |nil=>intro v hv;cases hv
 |cons a r=>exact(h.p a (by rw[e];exact mem_cons_self)).2
theorem K2{L:Lk}{n:Int}(h:yk L)(hn:FC n):yk (bH L n):=by
 unfold bH;cases L.p with
 |none=>exact⟨hn,h.o,h.t,h.p⟩
 |some p =>
  simp only;split
  ·exact⟨hn,MS,MS,λxs hx=>by cases hx⟩
  exact⟨hn,h.o,h.t,h.p⟩
theorem Sa{L:Lk}(h:yk L):yk (bM L):=by
 unfold bM;cases L.p with
 |none=>exact⟨h.k,h.o,h.t,h.p⟩
 |some p=>exact h
theorem Sb{L:Lk}{c:Int}(h:yk L):yk (bQ L c):=by
 unfold bQ;split
 ·exact⟨h.k,ET _,h.t,λxs hx=>h.p xs (List.mem_of_mem_tail hx)⟩
 exact h
theorem Sd{L:Lk}{n:Int}(h:yk L):yk (b9 L n xs):=by
 unfold b9;split
 ·exact⟨h.k,h.o,ET _,h.p⟩
 exact h
theorem Se{L:Lk}{a:Cl}(h:yk L)(ha:FC a.b):yk (a8 L a):=by
 unfold a8;split
 ·exact h
 split
 ·exact Sd (Sb (Sa (K2 h ha)))
 exact K2 h ha
theorem Sf{L:Lk}(h:yk L):yk (eG L):=by
 unfold eG;cases L.p with
 |none=>exact⟨Ww,h.o,h.t,h.p⟩
 |some p=>exact⟨Ww,MS,MS,λxs hx=>by cases hx⟩
theorem Ga{L:Lk}(h:yk L):yk (bC L):=by
 unfold bC;split
 ·exact Sf h
 exact h
theorem wQ:∀(bs:List Cl)(L:Lk),yk L->(∀b∈bs,FC b.b)->yk (aP L bs)
 |[],_,h,_=>h
 |b::r,L,h,hb=>wQ r (a8 L b) (Se h (hb b mem_cons_self)) λx hx=>hb x (mem_cons_of_mem _ hx)
theorem xf(L:Lk)(n:Int):(bH L n).b=L.b/\(bH L n).k=n:=by
 unfold bH;cases L.p with
 |none=>exact⟨rfl,rfl⟩
 |some p=>simp only;split<;>exact⟨rfl,rfl⟩
theorem Iu(L:Lk):(bM L).b=L.b/\(bM L).k=L.k:=by unfold bM;cases L.p<;>exact⟨rfl,rfl⟩
theorem PD(L:Lk)(c:Int):(bQ L c).b=L.b/\(bQ L c).k=L.k:=by unfold bQ;split<;>exact⟨rfl,rfl⟩
theorem PF(L:Lk)(n:Int)(xs:List Int):(b9 L n xs).b=L.b/\(b9 L n xs).k=L.k/\(b9 L n xs).ev.length<=L.ev.length+1:=by
 unfold b9;split
 ·exact⟨rfl,rfl,by show(L.ev++[_]).length<=_;rw[length_append];exact le_refl _⟩
 exact⟨rfl,rfl,le_succ _⟩
theorem Wy(L:Lk)(a:Cl):(a8 L a).b=L.b/\((a8 L a).k=L.k\/(a8 L a).k=a.b)/\(a8 L a).ev.length<=L.ev.length+3:=by
 have m1:=xf L a.b;have m2:=GY L a.b;have c1:=Iu (bH L a.b);have c2:=GZ (bH L a.b);have h1:=PD (bM (bH L a.b)) a.c;have h2:=Kz (bM (bH L a.b)) a.c;have t1:=PF (bQ (bM (bH L a.b)) a.c) a.n a.xs;unfold a8;split
 ·exact⟨rfl,.inl rfl,by lia⟩
 split
 ·refine⟨t1.1.trans (h1.1.trans (c1.1.trans m1.1)),.inr (t1.2.1.trans (h1.2.trans (c1.2.trans m1.2))),?_⟩;have:=t1.2.2;rw[h2]at this;lia
 exact⟨m1.1,.inr m1.2,by lia⟩
theorem EU(L:Lk):∀(bs:List Cl),(aP L bs).b=L.b/\(aP L bs).ev.length<=L.ev.length+3*bs.length:=by
 intro bs
 induction bs generalizing L with
 |nil=>exact⟨rfl,le_refl _⟩
 |cons b r ih =>
  have rb:=Wy L b;obtain⟨i1,i3⟩:=ih (a8 L b);show(aP (a8 L b) r).b=_/\(aP (a8 L b) r).ev.length<=_;exact⟨i1.trans rb.1,by rw[length_cons];lia⟩
theorem Wz(L:Lk):(eG L).b=L.b+1/\(eG L).k=0:=by unfold eG;cases L.p<;>exact⟨rfl,rfl⟩
def cz(fs:List Cm):List Cl:=fs.filterMap (·.2)
theorem Iv{fs:List Cm}{c:Cm}(h:fs[i]?=some c):cz (fs.take (i+1))=cz (fs.take i)++(match c.2 with|none=>[]|some b=>[b]):=by
 unfold cz;rw[List.take_succ,h,List.filterMap_append]
 congr 1
 cases e:c.2<;>simp[e]
def K3(C:Addr):Sp:=λvs H Q _=>∃(B:Hp)(x tA pA cl:Addr)(MR:Nat->Addr)(L:Lk)(fs:List Cm),vs=[.ref x,.ref cl]/\bh C B H x tA pA L/\InC H cl MR fs/\fs.length<=1000/\L.ev.length<=1000/\0<=L.b/\L.b<9000/\yk L /\
 ∀B' H' pB p,jh B H B' H' x tA pA tA pB->bh C B' H' x tA pB (bN L (cz fs))->H p=none->B' p=none->p≠pB->H' p=some (.lst (dL 24 (bE (b6 (bN L (cz fs))))))->Q (.ref p) H'
theorem zT:aS ["self","cells","tried","readable","cell"] ["self","cells"] (aG qy):=ac
theorem Sg(T:Txt K mg t)(F:jz K "tick" "LinkEnd.tick" qy t.AH fd)(nR:Def P w K mg base 8 "mended" ["cell"] (xW K))(Iw:b7 P w K mg base (iE P w) 4 t.AI GR ["self","cell"] (K0 t.LinkEnd))(Iy:Binds K GR ["self","cell"] [])(oi:b7 P w K mg base (iE P w) 3 t.gj Z7 ["self"] (mC t.LinkEnd))(oj:Binds K Z7 ["self"] [])(oo:b7 P w K mg base (iE P w) 4 t.gi Z8 ["self"] (mD t.LinkEnd))(oq:Binds K Z8 ["self"] []):
  b7 P w K mg base (iE P w) 9 t.AH fd ["self","cells"] (K3 t.LinkEnd)/\Binds K fd ["self","cells"] []:=by
 refine⟨F.qY zT (λvs H Q E h=>?_) (λf cB A outer s H vs Q E hr h=>?_),F.binds λ_ _ _ _ _ _=>am λ_ _=>rfl⟩
 ·obtain⟨B,x,tA,pA,cl,MR,L,fs,rfl,_⟩:=h;rfl
 obtain⟨B,x,tA,pA,cl,MR,L,fs,rfl,h,⟨Ql,RB⟩,hfl,hel,b0,b1,hk,q⟩:=h;refine⟨_,aC (j9 (i:=2) zT.nd rfl (Or.inl rfl) rfl (Nc:=["cell"]) (ix:=[none]) (cW (aG qy) ["self","cells","tried","readable","cell"] rfl rfl (by decide +kernel)) (bz K (pv 1)) (λC fp s H=>⟨(au (i:=0) (show(["cell"]:List Str).Nodup by decide +kernel) rfl (Or.inl rfl)),cH,(aY (nR.mono (by decide)) hr av (aB (pv 0) aD))⟩))
  (aC (j9 (i:=3) zT.nd rfl (Or.inl rfl) rfl (Nc:=["cell"]) (ix:=[none]) (cW (aG qy) ["self","cells","tried","readable","cell"] rfl rfl (by decide +kernel)) (bz K (pv 2)) (λC fp s H=>⟨(au (i:=0) (show(["cell"]:List Str).Nodup by decide +kernel) rfl (Or.inl rfl)),(Dm (aZ su (pv 0) eM (af _))),(pv 0)⟩))
  (aC (PS.Ck (cO PassesOwn.never rfl (bz K (pv 3)) (au (i:=4) zT.nd rfl (Or.inl rfl))
   (aF (ax (lR (pv 0) T.aM T.R4 (Iw.mono (by decide)) hr Iy .nil av (aB (pv 4) aD))))))
  (aC (b8 K (pv 0) (qg (vt (pv 3) (λ_=>rfl)) aH (aQ bK (ar K (pv 0) (by rfl)) aH)) (by rfl))
  (aC (l8 (bO (PW.pt (nv (aZ vq (ar K (pv 0) (by rfl)) (aW T.tN) (af _)) (lP (aZ UT (ar K (pv 0) (by rfl)) (ar K (pv 0) (by rfl)) (af _)))))
   (aF (ax (dh (pv 0) T.aM T.Bf (oi.mono (by decide)) hr oj .nil av)))
   (aj)))
  (aC (Cn (pv 0) aH Ng)
  (aF (ah (dh (pv 0) T.aM T.Be (oo.mono (by decide)) hr oq .nil av)))))))),?_⟩
 have hsz:(1000001:Nat)<=sizeLine:=by decide
 have nz:∀{a b:Addr},H a≠none->H b=none->b≠a:=λ{a b} h1 h2 z=>h1 (z▸h2);refine⟨_,rfl,cl,rfl,⟨_,ae.of Ql⟩,λD hD=>?_⟩;refine zO (K:=K) (a:=cl) (xs:=bB fs.length MR) (λi σ H'=>(∃v,σ=[v])/\aI H H'/\∃vs:List V,H' D=some (.lst vs)/\vs.length=i/\∀(j:Nat)(v:V)(c:Cm),vs[j]?=some v->fs[j]?=some c->PC H H' D v c.2)
  ⟨⟨none,rfl⟩,(aI.refl H).new hD,[],aA,rfl,λj v c hv=>by cases hv⟩ (λi σ H' _ p=>ae.of (p.2.1 _ _ Ql)) ?_ ?_
 ·rintro i v σ H' N hN hi ⟨⟨v0,rfl⟩,s1,vs,hv,X5,hvs⟩;obtain⟨hil,rfl⟩:=tab_of hi;have e:fs[i]?=some fs[i]:=by simp[hil]
  generalize fs[i]=c at e;obtain⟨c1,c2,c3⟩:=RB i c e;refine dF ?_;have fin:∀(v:V)(H2:Hp),aI H' H2->PC H H2 D v c.2->(∃ys,H2 D=some (.lst ys)/\ys.length<sizeLine/\N [some (.ref (MR i))] (dl H2 D (.lst (ys++[v])))):=λv H2 s2 NQ=>by
   refine⟨_,s2 _ _ hv,by lia,hN _ _ ⟨⟨_,rfl⟩,(s1.trans s2).put hD,vs++[v],aA,by rw[length_append,X5];rfl,λj v' c' h1 h2=>?_⟩⟩;have up:∀p u,p≠D->H2 p=some u->(dl H2 D (.lst (vs++[v]))) p=some u:=λp u n e=>(by rw[aE n];exact e);by_cases hj:j<vs.length
   ·rw[getElem?_append_left hj]at h1;exact((hvs j v' c' h1 h2).mono λp u _ e=>s2 _ _ e).mono up
   have Sh:j<(vs++[v]).length:=(List.getElem?_eq_some_iff.mp h1).1;rw[length_append]at Sh;have hje:j=vs.length:=(by simp at Sh;lia);rw[hje,getElem?_append_right (le_refl _),Nat.sub_self]at h1;cases h1;rw[hje,X5,e]at h2;cases h2;exact NQ.mono up
  refine⟨_,rfl,MR i,c.1,rfl,ae.of (s1 _ _ c1),c2,λg p H2 hm hp s2 e2=>?_,λYp H2 s2=>?_⟩
  ·refine fin _ H2 s2 ?_;cases ec:c.2 with
   |none=>rw[ec]at c3;exact absurd hm (c3 g)
   |some b =>
    rw[ec]at c3;exact⟨p,rfl,s1.free hp,(λz=>by rw[z,hv]at hp;cases hp),by rw[e2,MQ hm c3.2]⟩
  refine fin _ H2 s2 ?_;cases ec:c.2 with
  |none=>exact rfl
  |some b=>rw[ec]at c3;exact absurd c3.2 (Yp _)
 rintro σ H1 ⟨⟨v0,rfl⟩,s1,vs,hv,X5,hvs⟩;rw[aL]at X5;have hbr:∀b∈cz fs,fo b:=λb hb=>by obtain⟨c,hc,ec⟩:=List.mem_filterMap.mp hb;obtain⟨j,hj⟩:=List.getElem?_of_mem hc;have c3:=(RB j c hj).2.2;rw[ec]at c3;exact c3.1
 have hrl:(cz fs).length<=fs.length:=List.length_filterMap_le _ _;obtain⟨hb1,X6⟩:=EU L (cz fs);have Qg:=wQ (cz fs) L hk λb hb=>(hbr b hb).b;refine⟨_,rfl,D,rfl,⟨_,ae.of hv⟩,λD2 DJ=>?_⟩;refine zO (K:=K) (a:=D) (xs:=vs) (λi σ H'=>(∃v,σ=[v])/\aI H1 H'/\∃ps:List Addr,H' D2=some (.lst (ps.map V.ref))/\ps.length=(cz (fs.take i)).length/\∀(j:Nat)(p:Addr)(b:Cl),ps[j]?=some p->(cz (fs.take i))[j]?=some b->H p=none/\H1 p=some (.lst (dL 24 (bE b))))
  ⟨⟨none,rfl⟩,(aI.refl H1).new DJ,[],aA,rfl,λj p b hp=>by cases hp⟩ (λi σ H' _ p=>ae.of (p.2.1 _ _ hv)) ?_ ?_
 ·rintro i v σ H' N hN hi ⟨⟨v0,rfl⟩,s2,ps,z9,tZ,Ux⟩;have hil:i<fs.length:=by rw[<-X5];exact(List.getElem?_eq_some_iff.mp hi).1
  have e:fs[i]?=some fs[i]:=by simp[hil]
  generalize fs[i]=c at e;have MT:=hvs i v c hi e;have U0:=Iv e;refine turn_if ?_;cases ec:c.2 with
  |none =>
   rw[ec]at MT U0;have MT:v=.bw:=MT;subst MT;refine⟨_,rfl,rfl,_,rfl,jg rfl ?_⟩;refine hN _ _ ⟨⟨_,rfl⟩,s2,ps,z9,?_,?_⟩
   ·rw[U0,List.append_nil];exact tZ
   rw[U0,List.append_nil];exact Ux
  |some b =>
   rw[ec]at MT U0;obtain⟨p,rfl,Uz,hpD,Qn⟩:=MT;have U0:cz (fs.take (i+1))=cz (fs.take i)++[b]:=U0;have aDq:(cz (fs.take i)).length<=(fs.take i).length:=List.length_filterMap_le _ _;rw[length_take]at aDq;refine⟨_,rfl,rfl,_,rfl,wA (λz=>by cases z) ?_⟩;refine⟨_,rfl,_,z9,by rw[length_map];lia,hN _ _ ⟨⟨_,rfl⟩,s2.put DJ,ps++[p],?_,?_,?_⟩⟩
   ·rw[aA,map_append];rfl
   ·rw[U0,length_append,length_append,tZ];rfl
   intro j p' b' h1 h2;rw[U0]at h2;by_cases hj:j<ps.length
   ·rw[getElem?_append_left hj]at h1;rw[getElem?_append_left (by lia)]at h2;exact Ux j p' b' h1 h2
   have Sh:j<(ps++[p]).length:=(List.getElem?_eq_some_iff.mp h1).1;rw[length_append]at Sh;have hje:j=ps.length:=(by simp at Sh;lia);rw[hje,getElem?_append_right (le_refl _),Nat.sub_self]at h1;cases h1;rw[hje,tZ,getElem?_append_right (le_refl _),Nat.sub_self]at h2;cases h2;exact⟨Uz,Qn⟩
 rintro σ H2 ⟨⟨v0,rfl⟩,s2,ps,z9,tZ,Ux⟩;rw[X5,take_length]at tZ Ux;generalize MU:cz fs=bs at *;have X4:=s1.trans s2;have h2:=h.same X4;have nD2:H D2=none:=s1.free DJ;have PH:∀{B3 H3:Hp}{pB:Addr}{a:Addr}{u:HO},jh B H2 B3 H3 x tA pA tA pB->H a=none->H2 a=some u->H3 a=some u:=λ{B3 H3 pB a u} m ha e=>m.k a u (nz h.hx ha) (nz h.ht ha) (nz h.hp ha) e;refine⟨_,rfl,D2,rfl,⟨_,ae.of z9⟩,gS (K:=K) (a:=D2) (xs:=ps.map V.ref) (λi σ H3=>∃(B3:Hp)(pB:Addr)(v4:Option V),σ=[some (.ref x),some (.ref cl),some (.ref D),some (.ref D2),v4]/\jh B H2 B3 H3 x tA pA tA pB/\bh t.LinkEnd B3 H3 x tA pB (aP L (bs.take i)))
  ⟨B,pA,none,rfl,jh.refl,h2⟩ (λi σ H3 _ ⟨_,_,_,_,m3,_⟩=>ae.of (PH m3 nD2 z9)) ?_ ?_⟩
 ·rintro i v σ H3 hi ⟨B3,pB,v4,rfl,m3,h3⟩;rw[getElem?_map]at hi;cases ep:ps[i]? with
  |none=>rw[ep]at hi;cases hi
  |some p =>
   rw[ep]at hi;cases hi;have hib:i<bs.length:=(by rw[<-tZ];exact(List.getElem?_eq_some_iff.mp ep).1);have eb:bs[i]?=some bs[i]:=(by simp[hib]);generalize bs[i]=b at eb;obtain⟨Uz,Qn⟩:=Ux i p b ep eb;have EL:=PH m3 Uz (s2 _ _ Qn);have bb:=hbr b (mem_of_getElem? eb);have npB:p≠pB:=by
    rcases m3.p with z|z
    ·rw[z];exact nz h.hp Uz
    exact aR (s2 _ _ Qn) z
   have DN:=(EU L (bs.take i)).2;rw[length_take]at DN;obtain⟨O8,X0,SY,_⟩:=h3.at_;refine⟨_,rfl,x,O8,_,rfl,SY,rfl,_,rfl,B3,x,tA,pB,p,_,b,rfl,h3,by lia,EL,bb,nz h.ht Uz,npB,λB4 H4 pC m4 h4=>?_⟩;rw[<-Ir,<-take_succ eb]at h4;exact⟨B4,pC,_,rfl,m3.trans m4,h4⟩
 rintro σ H3 ⟨B3,pB,v4,rfl,m3,h3⟩;rw[length_map,tZ,take_length]at h3;have m03:=(jh.of_same (B:=B) X4).trans m3;obtain⟨O8,X0,SY,aDr⟩:=h3.at_;have hD3:=PH m3 nD2 z9;have tail:∀(n:Int),(dB (aP L bs) bs).u=n->(Hc (Nn K (qf 0) (tC (.int n)) "unheard") (Hc (ZF (Ya (YV (KH (Q6 rNe (Hm K (qf 0) "known") (tC (V.int 0)))) (KH (Q6 (Qf λi j=>V.bl (decide (j<=i))) (Hm K (qf 0) "unheard") (Hm K (qf 0) "quiet"))))
   (NZ (KI t.LinkEnd "start_over" (mC t.LinkEnd) [] E0 (qf 0) iB)) UR)) (Hc (Dc K (qf 0) (tC (V.int 1)) (ipI λi j=>i+j) "done") (VY (KI t.LinkEnd "cell_given" (mD t.LinkEnd) [] E0 (qf 0) iB))))) { nx:=λx H'=>Q V.bw H',rt:=Q } [some (V.ref x),some (V.ref cl),some (V.ref D),some (V.ref D2),v4] H3:=λn hn=>by
  refine⟨_,rfl,x,t.LinkEnd,O8,_,rfl,SY,T.aM,T.oQ,by show 11<1000;decide,?_⟩;rw[Ik];obtain⟨h4,m4⟩:=h3.set (dx:=O8) (pv:=X0) (L':=dB (aP L bs) bs) aDr rfl rfl;have e4:dD (aP L bs).q (aP L bs).s (aP L bs).d n (aP L bs).b (aP L bs).k X0 tA pB (aP L bs).of (aP L bs).tk=(dB (aP L bs) bs).fld X0 tA pB:=by rw[<-hn];rfl
  rw[e4];have Z9:=m03.trans m4;have l4b:(dB (aP L bs) bs).b=L.b:=hb1;have l4k:yk (dB (aP L bs) bs):=⟨Qg.k,Qg.o,Qg.t,Qg.p⟩;have l4e:(dB (aP L bs) bs).ev.length<=L.ev.length+3*bs.length:=X6;have tk:bN L bs={ bC (dB (aP L bs) bs)with d:=(bC (dB (aP L bs) bs)).d+1 }:=rfl;generalize dB (aP L bs) bs=L4 at *;generalize dl H3 x (.ins t.LinkEnd O8 (L4.fld X0 tA pB))=H4 at *;obtain⟨X2,pv4,X3,aHC⟩:=h4.at_;refine⟨λσ H'=>∃B5 pC,σ=[some (V.ref x),some (V.ref cl),some (V.ref D),some (V.ref D2),v4]/\jh B H B5 H' x tA pA tA pC/\bh t.LinkEnd B5 H' x tA pC (bC L4),?_,?_⟩
  ·refine⟨_,rfl,x,t.LinkEnd,X2,_,_,rfl,X3,T.aM,T.gq,tQ,rfl,_,rfl,?_⟩;by_cases X7:L4.k=0
   ·refine jg (by rw[X7]) (dX ?_);exact⟨B3,pB,rfl,Z9,by unfold bC;rw[if_neg (λz=>z.1 X7)];exact h4⟩
   refine wA (λz=>X7 (V.int.inj z)) ?_;refine⟨_,rfl,x,t.LinkEnd,X2,_,_,rfl,X3,T.aM,T.oQ,DK,_,rfl,x,t.LinkEnd,X2,_,_,rfl,X3,T.aM,T.AV,Kt,_,_,rfl,rfl,_,rfl,?_⟩;by_cases U1:L4.q<=L4.u
   ·refine eJ U1 ?_;refine⟨_,rfl,x,X2,_,rfl,X3,rfl,B3,x,tA,pB,L4,rfl,h4,by lia,λB5 H5 pC m5 h5=>?_⟩;exact⟨B5,pC,rfl,Z9.trans m5,by unfold bC;rw[if_pos ⟨X7,U1⟩];exact h5⟩
   refine eZ U1 ?_;exact⟨B3,pB,rfl,Z9,by unfold bC;rw[if_neg (λz=>U1 z.2)];exact h4⟩
  rintro σ H5 ⟨B5,pC,rfl,m5,h5⟩;have l5:FC (bC L4).b/\yk (bC L4):=by
   refine⟨?_,Ga l4k⟩;unfold bC;split
   ·rw[(Wz L4).1,l4b];exact⟨by lia,by lia⟩
   rw[l4b];exact⟨by lia,by lia⟩
  generalize bC L4=L5 at *;obtain⟨Uy,pv5,hx5,aDs⟩:=h5.at_;refine⟨_,rfl,x,t.LinkEnd,Uy,_,_,rfl,hx5,T.aM,T.zS,Ij,_,_,rfl,rfl,Uy,_,hx5,by show 11<1000;decide,?_⟩;rw[SI];obtain⟨h6,m6⟩:=h5.set (dx:=Uy) (pv:=pv5) (L':={ L5 with d:=L5.d+1 }) aDs rfl rfl;have h6:bh t.LinkEnd B5 (dl H5 x (.ins t.LinkEnd Uy (dD L5.q L5.s (L5.d+1) L5.u L5.b L5.k pv5 tA pC L5.of L5.tk))) x tA pC { L5 with d:=L5.d+1 }:=h6;have m6:jh B5 H5 B5 (dl H5 x (.ins t.LinkEnd Uy (dD L5.q L5.s (L5.d+1) L5.u L5.b L5.k pv5 tA pC L5.of L5.tk))) x tA pC tA pC:=m6;generalize dl H5 x (.ins t.LinkEnd Uy (dD L5.q L5.s (L5.d+1) L5.u L5.b L5.k pv5 tA pC L5.of L5.tk))=H6 at *;have m06:=m5.trans m6;obtain⟨dx6,pv6,hx6,_⟩:=h6.at_;have gl6:O9 { L5 with d:=L5.d+1 }:=(yk.give (L:=L5) l5.2 l5.1);refine⟨_,rfl,x,dx6,_,rfl,hx6,rfl,B5,x,tA,pC,_,rfl,h6,gl6,λp H7 hp s7 e7=>?_⟩
  rw[tk]at q;exact q B5 H7 pC p (m06.same s7) (h6.same s7) (m06.g p hp) (h6.sb.free hp) (λz=>h6.hp (by rw[<-z];exact hp)) e7
 refine⟨_,rfl,_,.inl ⟨_,ae.of hD3,rfl⟩,?_⟩;by_cases NK:bs=[]
 ·have hpe:ps=[]:=List.length_eq_zero_iff.mp (by rw[tZ,NK];rfl);rw[hpe];refine dX ?_;refine⟨_,rfl,x,t.LinkEnd,O8,_,_,rfl,SY,T.aM,T.oQ,DK,_,_,rfl,rfl,?_⟩;exact tail _ (if_pos NK)
 have hpe:(!(ps.map V.ref).isEmpty)=true:=by
  cases ps with
  |nil=>exact absurd (List.length_eq_zero_iff.mp tZ.symm) NK
  |cons a r=>rfl
 rw[hpe];refine iD ?_;exact tail _ (if_neg NK)
def qa(q s:Int):Lk:=⟨q,s,0,0,1,0,none,[],[],0,0⟩
theorem Si:aS ["self","measure","side"] ["self","measure","side"] (aG xN):=ac
def K4(K:W.Frag)(C:Addr):Sp:=λvs H Q _=>∃(B:Hp)(x dx ma:Addr)(a b sd:Int),vs=[.ref x,.ref ma,.int sd]/\H x=some (.ins C dx [])/\cT K H ma [.int a,.int b]/\Zw a b/\aI B H/\B x=none /\
 ∀(tA pA:Addr)(H':Hp),(∀y o,y≠x->H y=some o->H' y=some o)->(∀y,H' y=none->H y=none)->H tA=none->H pA=none->bh C B H' x tA pA (qa (a+b) sd)->Q .bw H'
theorem Sj(T:Txt K mg t)(F:jz K "__init__" "LinkEnd.__init__" xN t.init fd)(uZ:Def P w K mg base 3 "quiet_of" ["measure"] (yd K t.BadMeasure))(cn:b7 P w K mg base (iE P w) 1 t.ck GR ["self"] (iP t.LinkEnd))(cq:Binds K GR ["self"] []):
  b7 P w K mg base (iE P w) 4 t.init fd ["self","measure","side"] (K4 K t.LinkEnd)/\Binds K fd ["self","measure","side"] []:=by
 refine⟨F.qY Si (λvs H Q E h=>?_) (λf cB A outer s H vs Q E hr h=>?_),F.binds λ_ _ _ _ _ _=>ap λ_ _ _=>rfl⟩
 ·obtain⟨B,x,dx,ma,a,b,sd,rfl,_⟩:=h;rfl
 obtain⟨B,x,dx,ma,a,b,sd,rfl,hx,K5,hm,sB,bx,q⟩:=h;refine⟨_,aC (b8 K (pv 0) (aY (uZ.mono (by decide)) hr (jB aw) (aB (pv 1) aD)) (by rfl)) (aC (b8 K (pv 0) (pv 2) (by rfl)) (aC (b8 K (pv 0) aH (by rfl)) (aC (b8 K (pv 0) aH (by rfl)) (aC (b8 K (pv 0) aH (by rfl)) (aC (b8 K (pv 0) (aW T.tN) (by rfl)) (aC (b8 K (pv 0) eM (by rfl)) (aC (b8 K (pv 0) (ba aD) (by rfl))
  (aF (ax (dh (pv 0) T.aM T.nM (cn.mono (by decide)) hr cq .nil av)))))))))),?_⟩
 refine⟨_,rfl,ma,a,b,rfl,K5,dJ (by have:=hm.1;lia) (by have:=hm.1;lia),dJ (by have:=hm.2;lia) (by have:=hm.2;lia),λ_=>?_,λz=>absurd hm z⟩;refine⟨_,rfl,x,t.LinkEnd,dx,_,rfl,hx,T.aM,T.AV,by show 0<1000;decide,?_⟩;refine⟨_,rfl,_,rfl,x,t.LinkEnd,dx,_,rfl,aA,T.aM,T.Kq,by show 1<1000;decide,?_⟩;rw[gR];refine⟨_,rfl,x,t.LinkEnd,dx,_,rfl,aA,T.aM,T.zS,by show 2<1000;decide,?_⟩;rw[gR];refine⟨_,rfl,x,t.LinkEnd,dx,_,rfl,aA,T.aM,T.oQ,by show 3<1000;decide,?_⟩;rw[gR];refine⟨_,rfl,x,t.LinkEnd,dx,_,rfl,aA,T.aM,T.nL,by show 4<1000;decide,?_⟩;rw[gR];refine⟨_,rfl,x,t.LinkEnd,dx,_,rfl,aA,T.aM,T.gq,by show 5<1000;decide,?_⟩;rw[gR];refine⟨_,rfl,x,t.LinkEnd,dx,_,rfl,aA,T.aM,T.gz,by show 6<1000;decide,?_⟩;rw[gR];refine⟨zz0,λtA htA=>?_⟩;have Qm:x≠tA:=λz=>by rw[<-z,aA]at htA;cases htA
 have htH:H tA=none:=by rw[aE (Ne.symm Qm)]at htA;exact htA
 refine⟨_,rfl,x,t.LinkEnd,dx,_,rfl,by rw[aE Qm];exact aA,T.aM,T.oR,by show 7<1000;decide,?_⟩;refine⟨_,rfl,x,dx,_,rfl,aA,rfl,x,dx,_,rfl,aA,by show 8<900;decide,λpA X8=>?_⟩;have SM:x≠pA:=λz=>by rw[<-z,aA]at X8;cases X8
 have Z3:tA≠pA:=λz=>by rw[<-z,aE (Ne.symm Qm),aA]at X8;cases X8
 have Qn:H pA=none:=by rw[aE (Ne.symm SM),aE (Ne.symm Z3),aE (Ne.symm SM)]at X8;exact X8
 refine q tA pA _ (λy o n e=>?_) (λy hy=>?_) htH Qn ⟨?_,bx,sB.free htH,sB.free Qn,⟨dx,.bw,aA,rfl⟩,⟨λ_=>0,?_,λy e he=>by cases he⟩,⟨λ_=>0,?_,λy e he=>by cases he⟩,Z3⟩
 ·rw[aE n,aE (aR e Qn),aE n,aE (aR e htH),aE n];exact e
 ·by_cases z1:y=x
  ·rw[z1,aA]at hy;cases hy
  by_cases z2:y=pA
  ·rw[z2];exact Qn
  by_cases z3:y=tA
  ·rw[z3];exact htH
  rw[aE z1,aE z2,aE z1,aE z3,aE z1]at hy;exact hy
 ·intro y o e;have n:y≠x:=λz=>by rw[z,bx]at e;cases e
  have e:=sB _ _ e;rw[aE n,aE (aR e Qn),aE n,aE (aR e htH),aE n];exact e
 ·rw[aE (Ne.symm Qm),aE Z3,aE (Ne.symm Qm)];exact aA
 rw[aE (Ne.symm SM)];exact aA
def EV(ns:List Int):Prop:=(1<=ns.length/\ns.length<=10)/\∀n∈ns,NR n
def uB(K:W.Frag)(C:Addr):Sp:=λvs H Q E=>∃(l:Addr)(ns:List Int),vs=[.ref l]/\ae K H l (ns.map V.int)/\(∀n∈ns,n.natAbs<2 ^ 1000)/\(EV ns->Q .bw H)/\(¬EV ns->E (.ref C) none H)
theorem uC:aS ["piece","sign"] ["piece"] (aG jq):=ac
theorem Bs(F:aO K mg "look_piece" jq)(T:Txt K mg t)(iM:Def P w K mg base 1 "is_sign" ["number"] oT):Def P w K mg base 2 "look_piece" ["piece"] (uB K t.BadPiece):=by
 refine F.def uC (λ_ _ _ _ _ _=>ad λ_=>rfl) (λvs H Q E h=>?_) (λf cB A outer s H vs Q E hr h=>?_)
 ·obtain⟨l,ns,rfl,_⟩:=h;rfl
 obtain⟨l,ns,rfl,hl,hb,q1,q2⟩:=h;refine⟨_,aC (bO (fh (my qL qL aH (bP (bY K) (by rfl) T.gI boot_len (aB (pv 0) aD)) (aW T.rC)))
   (aF (cV aw rfl rfl T.C9 T.DF PySem.F.excBase_ValueError (aB (eY (bD aU (bD (cY (aW T.rC)) (bD aU iF)))) aD)))
   (aj))
  (aF (cO (OA aw) rfl (bz K (pv 0)) (au (i:=1) uC.nd rfl (Or.inl rfl))
   (aF (bO (fh (jJ (aY (iM.mono (by decide)) hr av (aB (pv 1) aD))))
    (aF (cV aw rfl rfl T.C9 T.DF PySem.F.excBase_ValueError (aB (eY (bD (cY (pv 1)) (bD aU iF))) aD)))
    (aj))))),?_⟩
 have sl:(3000:Nat)<=sizeLine:=by decide
 have z10:=g6 (i:=10) (by decide);have l1:("a piece has 1 to ":Str).length=17:=by decide +kernel
 have l2:(" signs":Str).length=6:=by decide +kernel
 have e0:(Str.empty++("a piece has 1 to ":Str)).length<=17:=by rw[strLen_append,l1];show 0+17<=17;lia
 have e1:((Str.empty++("a piece has 1 to ":Str))++Str.ofString (toString (10:Int))).length<=1018:=by rw[strLen_append];lia
 have e2:(((Str.empty++("a piece has 1 to ":Str))++Str.ofString (toString (10:Int)))++(" signs":Str)).length<=1024:=by rw[strLen_append];lia
 refine⟨_,rfl,l,_,rfl,.inl hl,_,_,rfl,rfl,_,rfl,?_⟩;rw[length_map];by_cases h1:(1:Int)<=(ns.length:Nat)
 ·refine eJ h1 ?_;refine⟨_,_,rfl,rfl,_,rfl,?_⟩;by_cases h2:((ns.length:Nat):Int)<=10
  ·rw[decide_eq_true h2];refine dX ?_;refine⟨_,rfl,l,rfl,⟨_,hl⟩,gS (K:=K) (a:=l) (xs:=ns.map V.int) (λi σ H'=>∃x:Option V,σ=[some (.ref l),x]/\H'=H/\∀n∈ns.take i,NR n) ⟨none,rfl,rfl,λn hn=>by simp at hn⟩ (λi σ H' _ ⟨_,_,e,_⟩=>by rw[e];exact hl) ?_ ?_⟩
   ·rintro i y σ H' hi ⟨x,rfl,rfl,ha⟩;obtain⟨z,hz,rfl⟩:=jj hi;have Wm:z∈ns:=mem_of_getElem? hz;refine⟨_,rfl,z,rfl,_,rfl,?_⟩;by_cases h0:0<=z/\z<97
    ·rw[decide_eq_true h0];refine dX ⟨some (.int z),rfl,rfl,?_⟩;rw[take_succ hz];intro n hn;rcases mem_append.mp hn with z1|z1
     ·exact ha n z1
     rw[mem_singleton.mp z1];exact h0
    rw[decide_eq_false h0];refine iD ?_;have hzl:=g6 (hb z Wm);have f0:(Str.empty++Str.ofString (toString z)).length<=1001:=(by rw[strLen_append];show 0+_<=1001;lia);have f1:((Str.empty++Str.ofString (toString z))++(" is no sign":Str)).length<=2000:=by have:(" is no sign":Str).length=11:=(by decide +kernel);rw[strLen_append];lia
    refine⟨_,rfl,z,rfl,dw (hb z Wm) (by decide) (by decide),_,rfl,by lia,_,rfl,by lia,by lia,?_⟩;exact⟨zz1,q2 λr=>h0 (r.2 z Wm)⟩
   rintro σ H' ⟨x,rfl,rfl,ha⟩;rw[length_map,take_length]at ha;exact q1 ⟨⟨by lia,by lia⟩,ha⟩
  rw[decide_eq_false h2];refine iD ?_;refine⟨_,rfl,by lia,10,rfl,dw (n:=1000) (by decide) (by decide) (by decide),_,rfl,by lia,_,rfl,by lia,by lia,?_⟩;exact⟨zz1,q2 λr=>h2 (by have:=r.1.2;lia)⟩
 refine eZ h1 ?_;refine⟨_,rfl,iD ?_⟩;refine⟨_,rfl,by lia,10,rfl,dw (n:=1000) (by decide) (by decide) (by decide),_,rfl,by lia,_,rfl,by lia,by lia,?_⟩;exact⟨zz1,q2 λr=>h1 (by have:=r.1.1;lia)⟩
def PK(K:W.Frag)(C N Bp:Addr):Sp:=λvs H Q E=>∃(B:Hp)(x tA pA l:Addr)(L:Lk)(ns:List Int),vs=[.ref x,.ref l]/\bh C B H x tA pA L/\L.cE.length<1000000/\ae K H l (ns.map V.int)/\(∀n∈ns,n.natAbs<2 ^ 1000) /\
 (L.p=none->E (.ref N) none H)/\(L.p≠none->¬EV ns->E (.ref Bp) none H)/\(L.p≠none->EV ns->∀B' H',jh B H B' H' x tA pA tA pA->bh C B' H' x tA pA { L with cE:=L.cE++[ns] }->Q .bw H')
theorem W0:aS ["self","piece"] ["self","piece"] (aG C6):=ac
theorem W1(T:Txt K mg t)(F:jz K "put" "LinkEnd.put" C6 t.Fz fd)(ot:Def P w K mg base 2 "look_piece" ["piece"] (uB K t.BadPiece)):
  b7 P w K mg base (iE P w) 3 t.Fz fd ["self","piece"] (PK K t.LinkEnd t.NoLink t.BadPiece)/\Binds K fd ["self","piece"] []:=by
 refine⟨F.qY W0 (λvs H Q E h=>?_) (λf cB A outer s H vs Q E hr h=>?_),F.binds λ_ _ _ _ _ _=>am λ_ _=>rfl⟩
 ·obtain⟨B,x,tA,pA,l,L,ns,rfl,_⟩:=h;rfl
 obtain⟨B,x,tA,pA,l,L,ns,rfl,h,jp,hl,hb,q1,q2,q3⟩:=h;refine⟨_,aC (bO (aZ DY (ar K (pv 0) (by rfl)) eM (af _))
   (aF (cV aw rfl rfl T.Ry T.Rz PySem.F.excBase_ValueError (aB aU aD)))
   (aj))
  (aC (ax (aY (ot.mono (by decide)) hr (jB aw) (aB (pv 1) aD)))
  (aF (ax (iH K PySem.F.plainAttrs_list PySem.F.slot_list_append PySem.F.type_list_append cG (ar K (pv 0) (by rfl)) (aB (iC (fj K) (by rfl) T.rE boot_list (aB (pv 1) aD)) aD))))),?_⟩
 have hsz:(1000001:Nat)<=sizeLine:=by decide
 obtain⟨dx,pv,hx,hp⟩:=h.at_;obtain⟨fJ,g3,Ah⟩:=h.cE;refine⟨_,rfl,x,t.LinkEnd,dx,_,_,rfl,hx,T.aM,T.gz,rQ,rfl,_,rfl,?_⟩;cases ep:L.p with
 |none =>
  rw[ep]at hp;have hp:pv=.bw:=hp;subst hp;refine eJ rfl ?_;exact⟨zz1,q1 ep⟩
 |some p =>
  have hn:L.p≠none:=by rw[ep];exact λz=>by cases z
  rw[ep]at hp;obtain⟨pa,rfl,HV⟩:=hp;refine eZ (λz=>by cases z) ?_;refine⟨_,rfl,l,ns,rfl,hl,hb,λSE=>?_,λz=>q2 hn z⟩;refine⟨_,rfl,x,t.LinkEnd,dx,_,_,rfl,hx,T.aM,T.iL,nS,.inl ⟨rfl,_,ae.of g3⟩,?_⟩;refine⟨_,rfl,l,_,rfl,.inl hl,λc hc=>?_⟩;have s1:aI H (dl H c (.lst (ns.map V.int))):=(aI.refl _).new hc;obtain⟨h1,m1⟩:=h.grow (o:=.lst (ns.map V.int)) s1 hc aA;refine⟨pA,_,_,rfl,rfl,s1 _ _ g3,by rw[aL];lia,?_⟩;have bc:(dl B c (.lst (ns.map V.int))) c=some (.lst (ns.map V.int)):=aA;have g31:=s1 _ _ g3;generalize dl H c (.lst (ns.map V.int))=H1 at *;have sB:=m1.bb;generalize dl B c (.lst (ns.map V.int))=B1 at *;obtain⟨GS,SQ,Ks,EK⟩:=h1.at_;obtain⟨iA,g2,FA⟩:=h1.told;rw[dM];refine q3 hn SE B1 _ (m1.trans ⟨aI.refl _,λ_ _ z=>z,λy o _ _ n3 e=>by rw[aE n3];exact e,λb hb=>kK hb h1.hp,.inl rfl,.inl rfl⟩) ⟨h1.sb.put h1.bp,h1.bx,h1.bt,h1.bp,⟨GS,SQ,by rw[aE h.xp];exact Ks,EK⟩,⟨iA,by rw[aE h.ne];exact g2,FA⟩,⟨λk=>if k=L.cE.length then c else fJ k,?_,λy xs hy=>?_⟩,h.ne⟩
  ·rw[aA];show some (HO.lst (bB (L.cE.length+1) _))=some (HO.lst (bB (L.cE++[ns]).length _));rw[length_append];rfl
  have hy:(L.cE++[ns])[y]?=some xs:=hy;by_cases z:y=L.cE.length
  ·rw[z,getElem?_append_right (le_refl _),Nat.sub_self]at hy;cases hy;simp only[z,if_true];exact bc
  have Z2:y<(L.cE++[ns]).length:=(List.getElem?_eq_some_iff.mp hy).1;rw[length_append]at Z2;have hy':y<L.cE.length:=by simp at Z2;lia
  rw[getElem?_append_left hy']at hy;simp only[z,if_false];exact sB _ _ (Ah y xs hy)
abbrev Pr:=Int×Int
def own(s:Nat)(P:Pr):Int:=if s=0 then P.1 else P.2
def FD(s:Nat)(P:Pr):Int:=if s=0 then P.2 else P.1
def pr(s:Nat)(b k:Int):Pr:=if s=0 then(b,k)else(k,b)
theorem rR(s:Nat)(b k:Int):own s (pr s b k)=b:=by unfold own pr;split<;>rfl
theorem xg(s:Nat)(b k:Int):FD s (pr s b k)=k:=by unfold FD pr;split<;>rfl
theorem Sk(h:s<2)(b k:Int):pr (1-s) b k=pr s k b:=by
 match s,h with
 |0,_=>rfl
 |1,_=>rfl
 |s+2,h=>lia
structure Gh where
 W:Nat->Pr->List (List Int)
 O:Nat->Pr->Nat
 K:Nat->Pr->Nat
 U:Nat->Pr->Prop
def Unr(s:Nat)(L:Lk)(P:Pr):Prop:=L.b<own s P\/(own s P=L.b/\L.k<FD s P)
structure rS(G:Gh)(s:Nat)(P:Pr):Prop where
 w:G.W s P=[]
 o:G.O s P=0
 k:G.K s P=0
 u:¬G.U s P
structure En(G:Gh)(s:Nat)(L:Lk):Prop where
 sd:L.s=(s:Int)
 o:L.of=(G.O s (pr s L.b L.k):Int)%97
 t:L.tk=(G.K s (pr s L.b L.k):Int)%97
 p:L.cE=(G.W s (pr s L.b L.k)).drop (G.O s (pr s L.b L.k))
 ow:G.O s (pr s L.b L.k)<=(G.W s (pr s L.b L.k)).length
 dn:L.p=none->rS G s (pr s L.b L.k)
 up:∀x,L.p=some x->x=pr s L.b L.k/\G.U s (pr s L.b L.k)
 un:∀P,Unr s L P->rS G s P
 um:∀P,G.U s P->own s P<=L.b/\(own s P=L.b->FD s P<=L.k)
def Rel(G:Gh):Prop:=∀s,s<2->∀P,G.O s P<=G.K (1-s) P/\G.K (1-s) P<=G.O s P+1/\G.K (1-s) P<=(G.W s P).length
structure kL(G:Gh)(s:Nat)(a:Cl)(HW:Nat):Prop where
 ex:∃nc cc:Nat,a.n=(nc:Int)%97/\a.c=(cc:Int)%97/\nc<=G.O s (pr s a.b a.k)/\cc<=G.K s (pr s a.b a.k)/\G.O s (pr s a.b a.k)<=nc+HW/\G.K s (pr s a.b a.k)<=cc+HW/\(a.xs=[]\/(G.W s (pr s a.b a.k))[nc]?=some a.xs)
 m:∀P,G.U (1-s) P->own (1-s) P<a.k->FD (1-s) P<=a.b
def hG{α:Type}(f:Nat->Pr->α)(s:Nat)(P:Pr)(v:α):Nat->Pr->α:=λi Q=>if i=s/\Q=P then v else f i Q
theorem cv{α:Type}{f:Nat->Pr->α}{P:Pr}{v:α}:hG f s P v s P=v:=if_pos ⟨rfl,rfl⟩
theorem fF{α:Type}{f:Nat->Pr->α}{P Q:Pr}{v:α}(h:¬(i=s/\Q=P)):hG f s P v i Q=f i Q:=if_neg h
structure Wt where
 p:Option Pr
 k:Pr->Nat
 u:Pr->Prop
def wt(G:Gh)(s:Nat)(L:Lk):Wt:=⟨L.p,G.K s,G.U s⟩
inductive qb(W:Pr->List (List Int)):Wt->List Ev->Wt->Prop
 |nil (a):qb W a [] a
 |up {a b:Wt} {es:List Ev} {x:Pr} (h:qb W a es b) (hp:b.p=none) (hu:¬b.u x) (hm:∀P,b.u P->P.1<=x.1/\P.2<=x.2) (hz:b.k x=0):qb W a (es++[.mk "up" x []]) ⟨some x,b.k,λP=>P=x\/b.u P⟩
 |anew {a b:Wt} {es:List Ev} {x:Pr} (h:qb W a es b) (hp:b.p=some x):qb W a (es++[.mk "anew" x []]) ⟨none,b.k,b.u⟩
 |sil {a b:Wt} {es:List Ev} {x:Pr} {f e:Int} (h:qb W a es b) (hp:b.p=some x):qb W a (es++[.mk "silent" x [f,e]]) ⟨none,b.k,b.u⟩
 |took {a b:Wt} {es:List Ev} {x:Pr} {xs:List Int} (h:qb W a es b) (hp:b.p=some x) (hw:(W x)[b.k x]?=some xs):qb W a (es++[.took xs]) ⟨b.p,λP=>if P=x then b.k x+1 else b.k P,b.u⟩
structure kM(r:Nat)(b:Int)(G G':Gh):Prop where
 w:G'.W=G.W
 o:∀i,i≠r->G'.O i=G.O i
 k:∀i,i≠r->G'.K i=G.K i
 u:∀i,i≠r->G'.U i=G.U i
 om:∀P,G.O r P<=G'.O r P
 km:∀P,G.K r P<=G'.K r P
 un:∀P,G'.U r P->G.U r P\/own r P=b
theorem kM.refl{r:Nat}{b:Int}{G:Gh}:kM r b G G:=⟨rfl,λ_ _=>rfl,λ_ _=>rfl,λ_ _=>rfl,λ_=>le_refl _,λ_=>le_refl _,λ_ h=>.inl h⟩
theorem kM.trans{r:Nat}{β:Int}{G G1 G2:Gh}(a:kM r β G G1)(b:kM r β G1 G2):kM r β G G2 :=
 ⟨b.w.trans a.w,λi h=>(b.o i h).trans (a.o i h),λi h=>(b.k i h).trans (a.k i h),λi h=>(b.u i h).trans (a.u i h),λP=>le_trans (a.om P) (b.om P),λP=>le_trans (a.km P) (b.km P),λP h=>(b.un P h).elim (a.un P) .inr⟩
theorem kL.grow{r:Nat}{β:Int}{G G':Gh}(g:kM r β G G')(hs:s≠r)(hr:r=1-s){a:Cl}(hk:a.k<=β)(h:kL G s a HW):kL G' s a HW:=by
 obtain⟨nc,cc,h1⟩:=h.ex;refine⟨⟨nc,cc,by rw[g.o s hs,g.k s hs,g.w];exact h1⟩,λP hP ho=>?_⟩;subst hr;rcases g.un P hP with z|z
 ·exact h.m P z ho
 lia
theorem aAh{P:Pr}{b k:Int}(h1:own s P<=b)(h2:FD s P<=k):P.1<=(pr s b k).1/\P.2<=(pr s b k).2:=by
 unfold own FD at *;unfold pr;split
 ·rename_i z;rw[if_pos z]at h1 h2;exact⟨h1,h2⟩
 rename_i z;rw[if_neg z]at h1 h2;exact⟨h2,h1⟩
theorem gL{G:Gh}{L:Lk}(sd:L.s=(s:Int))(fr:rS G s (pr s L.b L.k))(h1:L.p=none)(h2:L.cE=[])(h3:L.of=0)(h4:L.tk=0)(un:∀P,Unr s L P->rS G s P)(um:∀P,G.U s P->own s P<=L.b/\(own s P=L.b->FD s P<=L.k)):En G s L :=
 ⟨sd,by rw[fr.o,h3];rfl,by rw[fr.k,h4];rfl,by rw[fr.w,h2,List.drop_nil],by rw[fr.o];exact zero_le _,λ_=>fr,λx hx=>(by rw[h1]at hx;cases hx),un,um⟩
theorem En.zero{G:Gh}{L:Lk}(h:En G s L)(hp:L.p=none):L.cE=[]/\L.of=0/\L.tk=0:=by have fr:=h.dn hp;refine⟨by rw[h.p,fr.w,List.drop_nil],by rw[h.o,fr.o];rfl,by rw[h.t,fr.k];rfl⟩
section
variable{G:Gh}{r:Nat}{L:Lk}{a:Cl}
theorem En.meet{A:Wt}{es0:List Ev}{W:Pr->List (List Int)}(h:En G s L){n:Int}(hn:L.k<=n)(ht:qb W A L.ev (wt G s L)):En G s (bH L n)/\qb W A (bH L n).ev (wt G s (bH L n))/\(bH L n).b=L.b/\(bH L n).k=n:=by
 have mb:=xf L n;by_cases e:L.k=n
 ·have em:bH L n=L:=by
   unfold bH;obtain⟨q,s,d,u,b,k,p,ev,cE,of,tk⟩:=L;simp only at e;subst e;cases p with
   |none=>rfl
   |some x=>simp only;rw[if_neg (by lia)]
  rw[em];exact⟨h,ht,rfl,e⟩
 have eI:L.k<n:=by lia
 have ur:Unr s L (pr s L.b n):=.inr ⟨rR _ _ _,by rw[xg];exact eI⟩;have un':∀P,Unr s { L with k:=n } P->rS G s P:=λP hP=>h.un P (by
  rcases hP with z|⟨z1,z2⟩
  ·exact .inl z
  exact .inr ⟨z1,by have z2:n<FD s P:=z2;lia⟩)
 have um':∀P,G.U s P->own s P<=L.b/\(own s P=L.b->FD s P<=n):=λP hP=>⟨(h.um P hP).1,λz=>by have:=(h.um P hP).2 z;lia⟩;cases ep:L.p with
 |none =>
  obtain⟨z1,z2,z3⟩:=h.zero ep;have em:bH L n={ L with k:=n }:=by unfold bH;rw[ep]
  rw[em];exact⟨gL h.sd (h.un _ ur) ep z1 z2 z3 un' um',ht,rfl,rfl⟩
 |some x =>
  have em:bH L n={ L with p:=none,cE:=[],of:=0,tk:=0,k:=n,ev:=L.ev++[.mk "anew" x []] }:=by unfold bH;rw[ep];simp only;rw[if_pos eI]
  rw[em];refine⟨gL h.sd (h.un _ ur) rfl rfl rfl rfl un' um',?_,rfl,rfl⟩;exact qb.anew (b:=wt G s L) ht ep
theorem En.come{A:Wt}{W:Pr->List (List Int)}(h:En G s L)(hm:∀P,G.U s P->own s P<L.b->FD s P<=L.k)(ht:qb W A L.ev (wt G s L)):∃G',En G' s (bM L)/\kM s L.b G G'/\G'.O=G.O/\G'.K=G.K/\qb W A (bM L).ev (wt G' s (bM L))/\(bM L).b=L.b/\(bM L).k=L.k/\(bM L).p≠none:=by
 cases ep:L.p with
 |some x =>
  have ec:bM L=L:=by unfold bM;rw[ep]
  rw[ec];exact⟨G,h,kM.refl,rfl,rfl,ht,rfl,rfl,by rw[ep];exact λz=>by cases z⟩
 |none =>
  have epr:(if L.s=0 then(L.b,L.k)else(L.k,L.b))=pr s L.b L.k:=by
   unfold pr;rw[h.sd];by_cases z:s=0
   ·rw[if_pos z,if_pos (by lia)]
   rw[if_neg z,if_neg (by lia)]
  have ec:bM L={ L with p:=some (pr s L.b L.k),ev:=L.ev++[.mk "up" (pr s L.b L.k) []] }:=by unfold bM;rw[ep];simp only;rw[epr]
  rw[ec];have fr:=h.dn ep;have pk:∀P,Unr s L P->P≠pr s L.b L.k:=λP hP z=>by
   rw[z]at hP;rcases hP with y|⟨_,y⟩
   ·rw[rR]at y;lia
   rw[xg]at y;lia
  refine⟨⟨G.W,G.O,G.K,λi P=>(i=s/\P=pr s L.b L.k)\/G.U i P⟩,⟨h.sd,h.o,h.t,h.p,h.ow,(λz=>by cases z),λx hx=>?_,λP hP=>?_,λP hP=>hP.elim (λy=>by rw[y.2,rR,xg];exact⟨Int.le_refl _,λ_=>Int.le_refl _⟩) (h.um P)⟩,⟨rfl,λ_ _=>rfl,λ_ _=>rfl,λi hi=>?_,λ_=>le_refl _,λ_=>le_refl _,λP hP=>hP.elim (λy=>.inr (by rw[y.2,rR])) .inl⟩,rfl,rfl,?_,rfl,rfl,(λz=>by cases z)⟩
  ·cases hx;exact⟨rfl,.inl ⟨rfl,rfl⟩⟩
  ·have f:=h.un P hP;exact⟨f.w,f.o,f.k,λz=>z.elim (λy=>pk P hP y.2) f.u⟩
  ·funext P
   show((i=s/\P=pr s L.b L.k)\/G.U i P)=G.U i P;rw[eq_iff_iff];exact⟨λz=>z.elim (λy=>absurd y.1 hi) id,.inr⟩
  have:=qb.up (x:=pr s L.b L.k) (b:=wt G s L) ht ep fr.u (λP hP=>aAh (h.um P hP).1 (by
   have a1:=(h.um P hP).1;by_cases z:own s P=L.b
   ·exact(h.um P hP).2 z
   exact hm P hP (by lia))) fr.k
  have e2:(wt ⟨G.W,G.O,G.K,λi P=>(i=s/\P=pr s L.b L.k)\/G.U i P⟩ s { L with p:=some (pr s L.b L.k),ev:=L.ev++[.mk "up" (pr s L.b L.k) []] })=⟨some (pr s L.b L.k),(wt G s L).k,λP=>P=pr s L.b L.k\/(wt G s L).u P⟩:=by
   unfold wt
   congr 1
   funext P
   show((s=s/\P=pr s L.b L.k)\/G.U s P)=(P=pr s L.b L.k\/G.U s P);rw[eq_iff_iff];exact⟨λz=>z.elim (λy=>.inl y.2) .inr,λz=>z.elim (λy=>.inl ⟨rfl,y⟩) .inr⟩
  rw[e2];exact this
theorem En.Sm{A:Wt}{W:Pr->List (List Int)}(hs:s<2)(h:En G s L)(rel:Rel G)(hu:L.p≠none)(c:Int)(cc:Nat)(hc:c=(cc:Int)%97)(h1:cc<=G.K (1-s) (pr s L.b L.k))(h2:G.K (1-s) (pr s L.b L.k)<=cc+8)(ht:qb W A L.ev (wt G s L)):
  ∃G',En G' s (bQ L c)/\Rel G'/\kM s L.b G G'/\qb W A (bQ L c).ev (wt G' s (bQ L c))/\(bQ L c).b=L.b/\(bQ L c).k=L.k/\(bQ L c).p=L.p:=by
 by_cases z:L.cE≠[]/\c=(L.of+1)%97
 ·obtain⟨z1,z2⟩:=z;have eh:bQ L c={ L with cE:=L.cE.tail,of:=(L.of+1)%97 }:=if_pos ⟨z1,z2⟩;rw[eh];obtain⟨r1,r2,r3⟩:=rel s hs (pr s L.b L.k);have ho:=h.o;have e1:cc=G.O s (pr s L.b L.k)+1:=by rw[hc,ho]at z2;lia
  have e2:G.K (1-s) (pr s L.b L.k)=G.O s (pr s L.b L.k)+1:=by lia
  have eI:G.O s (pr s L.b L.k)<(G.W s (pr s L.b L.k)).length:=by lia
  have pk:∀P,Unr s L P->P≠pr s L.b L.k:=λP hP y=>by
   rw[y]at hP;rcases hP with w|⟨_,w⟩
   ·rw[rR]at w;lia
   rw[xg]at w;lia
  refine⟨⟨G.W,hG G.O s (pr s L.b L.k) (G.O s (pr s L.b L.k)+1),G.K,G.U⟩,⟨h.sd,?_,h.t,?_,?_,λy=>absurd y hu,h.up,λP hP=>?_,h.um⟩,?_,⟨rfl,λi hi=>?_,λ_ _=>rfl,λ_ _=>rfl,λP=>?_,λ_=>le_refl _,λ_ h=>.inl h⟩,ht,rfl,rfl,rfl⟩
  ·show(L.of+1)%97=((hG G.O s (pr s L.b L.k) (G.O s (pr s L.b L.k)+1) s (pr s L.b L.k):Nat):Int)%97;rw[cv,ho];lia
  ·show L.cE.tail=(G.W s (pr s L.b L.k)).drop (hG G.O s (pr s L.b L.k) (G.O s (pr s L.b L.k)+1) s (pr s L.b L.k));rw[cv,h.p,List.tail_drop]
  ·show hG G.O s (pr s L.b L.k) (G.O s (pr s L.b L.k)+1) s (pr s L.b L.k)<=_;rw[cv];exact eI
  ·have f:=h.un P hP;exact⟨f.w,by show hG G.O s (pr s L.b L.k) _ s P=0;rw[fF (λy=>pk P hP y.2)];exact f.o,f.k,f.u⟩
  ·intro i hi P;show hG G.O s (pr s L.b L.k) (G.O s (pr s L.b L.k)+1) i P<=G.K (1-i) P/\G.K (1-i) P<=hG G.O s (pr s L.b L.k) (G.O s (pr s L.b L.k)+1) i P+1/\G.K (1-i) P<=(G.W i P).length;by_cases y:i=s/\P=pr s L.b L.k
   ·rw[y.1,y.2,cv];exact⟨by lia,by lia,r3⟩
   rw[fF y];exact rel i hi P
  ·funext P
   exact fF λy=>hi y.1
  show G.O s P<=hG G.O s (pr s L.b L.k) (G.O s (pr s L.b L.k)+1) s P;by_cases y:P=pr s L.b L.k
  ·rw[y,cv];lia
  rw[fF (λw=>y w.2)];exact le_refl _
 have eh:bQ L c=L:=if_neg z;rw[eh];exact⟨G,h,rel,kM.refl,ht,rfl,rfl,rfl⟩
theorem En.take{A:Wt}(hs:s<2)(h:En G s L)(rel:Rel G)(hu:L.p≠none)(n:Int)(xs:List Int)(nc:Nat)(hn:n=(nc:Int)%97)(h1:nc<=G.O (1-s) (pr s L.b L.k))(h2:G.O (1-s) (pr s L.b L.k)<=nc+8)(hx:xs=[]\/(G.W (1-s) (pr s L.b L.k))[nc]?=some xs)(ht:qb (G.W (1-s)) A L.ev (wt G s L)):
  ∃G',En G' s (b9 L n xs)/\Rel G'/\kM s L.b G G'/\qb (G.W (1-s)) A (b9 L n xs).ev (wt G' s (b9 L n xs))/\(b9 L n xs).b=L.b/\(b9 L n xs).k=L.k/\(b9 L n xs).p=L.p:=by
 by_cases z:xs≠[]/\n=L.tk
 ·obtain⟨z1,z2⟩:=z;have eh:b9 L n xs={ L with ev:=L.ev++[.took xs],tk:=(L.tk+1)%97 }:=if_pos ⟨z1,z2⟩;rw[eh];have y8:1-s<2:=by lia
  have MV:1-(1-s)=s:=by lia
  obtain⟨r1,r2,r3⟩:=rel (1-s) y8 (pr s L.b L.k);rw[MV]at r1 r2 r3;have ho:=h.t;have e1:nc=G.K s (pr s L.b L.k):=by rw[hn,ho]at z2;lia
  have hw:(G.W (1-s) (pr s L.b L.k))[G.K s (pr s L.b L.k)]?=some xs:=by rw[<-e1];exact hx.resolve_left z1
  have eI:G.K s (pr s L.b L.k)<(G.W (1-s) (pr s L.b L.k)).length:=(List.getElem?_eq_some_iff.mp hw).1;have pk:∀P,Unr s L P->P≠pr s L.b L.k:=λP hP y=>by
   rw[y]at hP;rcases hP with w|⟨_,w⟩
   ·rw[rR]at w;lia
   rw[xg]at w;lia
  obtain⟨x,ex⟩:∃x,L.p=some x:=by
   cases e:L.p with
   |none=>exact absurd e hu
   |some x=>exact⟨x,rfl⟩
  have exP:=(h.up x ex).1;refine⟨⟨G.W,G.O,hG G.K s (pr s L.b L.k) (G.K s (pr s L.b L.k)+1),G.U⟩,⟨h.sd,h.o,?_,h.p,h.ow,λy=>absurd y hu,h.up,λP hP=>?_,h.um⟩,?_,⟨rfl,λ_ _=>rfl,λi hi=>?_,λ_ _=>rfl,λ_=>le_refl _,λP=>?_,λ_ h=>.inl h⟩,?_,rfl,rfl,rfl⟩
  ·show(L.tk+1)%97=((hG G.K s (pr s L.b L.k) (G.K s (pr s L.b L.k)+1) s (pr s L.b L.k):Nat):Int)%97;rw[cv,ho];lia
  ·have f:=h.un P hP;exact⟨f.w,f.o,by show hG G.K s (pr s L.b L.k) _ s P=0;rw[fF (λy=>pk P hP y.2)];exact f.k,f.u⟩
  ·intro i hi P;show G.O i P<=hG G.K s (pr s L.b L.k) (G.K s (pr s L.b L.k)+1) (1-i) P/\hG G.K s (pr s L.b L.k) (G.K s (pr s L.b L.k)+1) (1-i) P<=G.O i P+1/\hG G.K s (pr s L.b L.k) (G.K s (pr s L.b L.k)+1) (1-i) P<=(G.W i P).length;by_cases y:1-i=s/\P=pr s L.b L.k
   ·have ei:i=1-s:=(by lia);rw[y.1,y.2,cv,ei];exact⟨by lia,by lia,by lia⟩
   rw[fF y];exact rel i hi P
  ·funext P
   exact fF λy=>hi y.1
  ·show G.K s P<=hG G.K s (pr s L.b L.k) (G.K s (pr s L.b L.k)+1) s P;by_cases y:P=pr s L.b L.k
   ·rw[y,cv];lia
   rw[fF (λw=>y w.2)];exact le_refl _
  have:=qb.took (x:=pr s L.b L.k) (b:=wt G s L) ht (by show L.p=_;rw[ex,exP]) hw;have e2:wt ⟨G.W,G.O,hG G.K s (pr s L.b L.k) (G.K s (pr s L.b L.k)+1),G.U⟩ s { L with ev:=L.ev++[.took xs],tk:=(L.tk+1)%97 }=⟨(wt G s L).p,λP=>if P=pr s L.b L.k then(wt G s L).k (pr s L.b L.k)+1 else(wt G s L).k P,(wt G s L).u⟩:=by
   unfold wt
   congr 1
   funext P
   show hG G.K s (pr s L.b L.k) (G.K s (pr s L.b L.k)+1) s P=if P=pr s L.b L.k then G.K s (pr s L.b L.k)+1 else G.K s P;by_cases y:P=pr s L.b L.k
   ·rw[y,cv,if_pos rfl]
   rw[fF (λw=>y w.2),if_neg y]
  rw[e2];exact this
 have eh:b9 L n xs=L:=if_neg z;rw[eh];exact⟨G,h,rel,kM.refl,ht,rfl,rfl,rfl⟩
theorem En.read{A:Wt}(hs:s<2)(h:En G s L)(rel:Rel G)(hc:kL G (1-s) a 8)(W2:a.k<=L.b)(ht:qb (G.W (1-s)) A L.ev (wt G s L)):
  ∃G',En G' s (a8 L a)/\Rel G'/\kM s L.b G G'/\qb (G.W (1-s)) A (a8 L a).ev (wt G' s (a8 L a))/\(a8 L a).b=L.b:=by
 unfold a8;by_cases z:a.b<L.k
 ·rw[if_pos z];exact⟨G,h,rel,kM.refl,ht,rfl⟩
 rw[if_neg z];obtain⟨m1,m2,m3,m4⟩:=h.meet (es0:=[]) (n:=a.b) (by lia) ht;by_cases y:a.k=(bH L a.b).b
 ·rw[if_pos y];generalize bH L a.b=L1 at *;have MF:=hc.m;rw[show 1-(1-s)=s by lia]at MF;obtain⟨G2,c1,c2,c3,c4,c5,c6,c7,c8⟩:=m1.come (λP hP ho=>by rw[m4];exact MF P hP (by rw[y];exact ho)) m2;rw[m3]at c2;have ePr:pr (1-s) a.b a.k=pr s (bM L1).b (bM L1).k:=by rw[Sk hs,c6,c7,m4,y]
  have aDw:Rel G2:=λi hi P=>by rw[c3,c4,c2.w];exact rel i hi P
  generalize bM L1=L2 at *;obtain⟨nc,cc,k1,k2,k3,k4,k5,k6,k7⟩:=(hc.grow c2 (show 1-s≠s by lia) (by lia) W2).ex;rw[ePr]at k3 k4 k5 k6 k7;obtain⟨G3,d1,d2,d3,d4,d5,d6,d7⟩:=c1.Sm hs aDw c8 a.c cc k2 k4 k6 c5;have aAk:pr s (bQ L2 a.c).b (bQ L2 a.c).k=pr s L2.b L2.k:=by rw[d5,d6]
  have k3':=k3;have k5':=k5;have k7':=k7;rw[<-d3.o (1-s) (by lia),<-aAk]at k3' k5';rw[<-d3.w,<-aAk]at k7';have w3:G3.W (1-s)=G.W (1-s):=by rw[d3.w,c2.w]
  rw[<-w3]at d4;obtain⟨G4,e1,e2,e3,e4,e5,_,_⟩:=d1.take hs d2 (by rw[d7];exact c8) a.n a.xs nc k1 k3' k5' k7' d4;have eb:(bQ L2 a.c).b=L.b:=by rw[d5,c6,m3]
  rw[eb]at e3 e5;rw[c6,m3]at d3;exact⟨G4,e1,e2,(c2.trans d3).trans e3,by rw[<-w3];exact e4,e5⟩
 rw[if_neg y];exact⟨G,m1,rel,kM.refl,m2,m3⟩
theorem En.heard{A:Wt}(hs:s<2):∀(bs:List Cl)(G:Gh)(L:Lk),En G s L->Rel G->(∀a∈bs,kL G (1-s) a 8)->(∀a∈bs,a.k<=L.b)->qb (G.W (1-s)) A L.ev (wt G s L) ->
  ∃G',En G' s (aP L bs)/\Rel G'/\kM s L.b G G'/\qb (G.W (1-s)) A (aP L bs).ev (wt G' s (aP L bs))/\(aP L bs).b=L.b
 |[],G,L,h,rel,_,_,ht=>⟨G,h,rel,kM.refl,ht,rfl⟩
 |a::r,G,L,h,rel,hc,W2,ht=>by
  obtain⟨G1,h1,r1,g1,t1,b1⟩:=h.read hs rel (hc a mem_cons_self) (W2 a mem_cons_self) ht;have w1:G1.W (1-s)=G.W (1-s):=by rw[g1.w]
  rw[<-w1]at t1;obtain⟨G2,h2,r2,g2,t2,b2⟩:=En.heard hs r G1 (a8 L a) h1 r1 (λx hx=>(hc x (mem_cons_of_mem _ hx)).grow g1 (by lia) (by lia) (W2 x (mem_cons_of_mem _ hx))) (λx hx=>by rw[b1];exact W2 x (mem_cons_of_mem _ hx)) t1;rw[b1]at g2;exact⟨G2,h2,r2,g1.trans g2,by rw[<-w1];exact t2,b2.trans b1⟩
theorem En.quiet{A:Wt}{W:Pr->List (List Int)}(h:En G s L)(hk:0<=L.k)(ht:qb W A L.ev (wt G s L)):En G s (bC L)/\qb W A (bC L).ev (wt G s (bC L)):=by
 unfold bC;split
 ·have ur:Unr s L (pr s (L.b+1) 0):=.inl (by rw[rR];lia);have un':∀P,(L.b+1<own s P\/(own s P=L.b+1/\0<FD s P))->rS G s P:=λP hP=>h.un P (.inl (by rcases hP with z|⟨z,_⟩<;>lia));have um':∀P,G.U s P->own s P<=L.b+1/\(own s P=L.b+1->FD s P<=0):=λP hP=>by have:=(h.um P hP).1;exact⟨by lia,λz=>by lia⟩
  cases ep:L.p with
  |none =>
   obtain⟨z1,z2,z3⟩:=h.zero ep;have em:eG L={ L with b:=L.b+1,k:=0 }:=(by unfold eG;rw[ep]);rw[em];exact⟨gL h.sd (h.un _ ur) ep z1 z2 z3 un' um',ht⟩
  |some x =>
   have em:eG L={ L with p:=none,cE:=[],of:=0,tk:=0,b:=L.b+1,k:=0,ev:=L.ev++[.mk "silent" x [L.d-L.q+1,L.d]] }:=(by unfold eG;rw[ep]);rw[em];exact⟨gL h.sd (h.un _ ur) rfl rfl rfl rfl un' um',qb.sil (b:=wt G s L) ht ep⟩
 exact⟨h,ht⟩
theorem En.re{L':Lk}(h:En G s L)(h1:L'.s=L.s)(h2:L'.b=L.b)(h3:L'.k=L.k)(h4:L'.p=L.p)(h5:L'.cE=L.cE)(h6:L'.of=L.of)(h7:L'.tk=L.tk):En G s L':=by
 refine⟨h1.trans h.sd,?_,?_,?_,?_,?_,?_,?_,by rw[h2,h3];exact h.um⟩
 ·rw[h6,h2,h3];exact h.o
 ·rw[h7,h2,h3];exact h.t
 ·rw[h5,h2,h3];exact h.p
 ·rw[h2,h3];exact h.ow
 ·rw[h2,h3,h4];exact h.dn
 ·rw[h2,h3,h4];exact h.up
 intro P hP;refine h.un P ?_;unfold Unr at hP ⊢;rw[h2,h3]at hP;exact hP
theorem En.tick(hs:s<2)(h:En G s L)(rel:Rel G)(hk:yk L)(MU:∀a∈bs,FC a.b)(hc:∀a∈bs,kL G (1-s) a 8)(W2:∀a∈bs,a.k<=L.b)(DN:L.ev=[]):
  ∃G',En G' s { bN L bs with ev:=[] }/\Rel G'/\kM s L.b G G'/\qb (G.W (1-s)) (wt G s L) (bN L bs).ev (wt G' s (bN L bs))/\(aP L bs).b=L.b/\∀P,G'.U s P->G.U s P\/FD s P<=(aP L bs).k:=by
 obtain⟨G1,h1,r1,g1,t1,b1⟩:=En.heard (A:=wt G s L) hs bs G L h rel hc W2 (by rw[DN];exact .nil _);have k1:=(wQ bs L hk MU).k.1;have h2:En G1 s (dB (aP L bs) bs):=h1.re rfl rfl rfl rfl rfl rfl rfl;obtain⟨h3,t3⟩:=h2.quiet (W:=G.W (1-s)) (A:=wt G s L) k1 t1;exact⟨G1,h3.re rfl rfl rfl rfl rfl rfl rfl,r1,g1,t3,b1,λP hP=>(g1.un P hP).elim .inl λz=>.inr ((h1.um P hP).2 (by rw[b1];exact z))⟩
end
abbrev Ts:=List (Int×Int)
structure ou(ts:Ts):Prop where
 len:ts.length<=4
 at_:∀q∈ts,(0<=q.1/\q.1<24)/\1<=q.2/\q.2<=96
 nd:(ts.map λq=>q.1.toNat).Nodup
def EW(K:W.Frag)(H:Hp)(a:Addr)(ts:Ts):Prop:=∃wz:Nat->Addr,cT K H a (bB ts.length wz)/\∀y q,ts[y]?=some q->cT K H (wz y) [.int q.1,.int q.2]
theorem EW.same{a:Addr}{ts:Ts}(h:EW K H a ts)(s:aI H H'):EW K H' a ts:=by obtain⟨wz,h1,h2⟩:=h;exact⟨wz,s.tup h1,λy q e=>s.tup (h2 y q e)⟩
def Iz(f:Nat->Int)(i:Nat)(v:Int):Nat->Int:=λj=>if j=i then v else f j
def eX(f:Nat->Int)(ts:Ts):Nat->Int:=ts.foldl (λf q=>Iz f q.1.toNat ((f q.1.toNat+q.2)%97)) f
theorem MW(f:Nat->Int)(ts:Ts)(q:Int×Int):eX f (ts++[q])=Iz (eX f ts) q.1.toNat ((eX f ts q.1.toNat+q.2)%97):=by unfold eX;rw[List.foldl_append];rfl
theorem Ao:∀(ts:Ts)(f:Nat->Int)(i:Nat),i∉(ts.map λq=>q.1.toNat)->eX f ts i=f i
 |[],_,_,_=>rfl
 |q::r,f,i,h=>by rw[List.map_cons,mem_cons,not_or]at h;show eX (Iz f q.1.toNat _) r i=f i;rw[Ao r _ i h.2];exact if_neg h.1
theorem K6:∀(ts:Ts)(f:Nat->Int),(ts.map λq=>q.1.toNat).Nodup->∀q∈ts,eX f ts q.1.toNat=(f q.1.toNat+q.2)%97
 |p::r,f,nd,q,hq=>by
  rw[List.map_cons,List.nodup_cons]at nd;show eX (Iz f p.1.toNat _) r q.1.toNat=_;rcases mem_cons.mp hq with rfl|hq
  ·rw[Ao r _ _ nd.1];exact if_pos rfl
  rw[K6 r _ nd.2 q hq];have ne:q.1.toNat≠p.1.toNat:=λz=>nd.1 (by rw[<-z];exact List.mem_map.mpr ⟨q,hq,rfl⟩);unfold Iz;rw[if_neg ne]
theorem MX{f:Nat->Int}{ts:Ts}(h:IsCell 24 f):IsCell 24 (eX f ts):=by
 suffices ∀(ts:Ts)(f:Nat->Int),(∀i,i<24->0<=f i/\f i<97)->∀i,i<24->0<=eX f ts i/\eX f ts i<97 from⟨this ts f h.b⟩
 intro ts
 induction ts with
 |nil=>intro f h;exact h
 |cons q r ih =>
  intro f h;refine ih _ λi hi=>?_;show 0<=(if i=q.1.toNat then(f q.1.toNat+q.2)%97 else f i)/\(if i=q.1.toNat then(f q.1.toNat+q.2)%97 else f i)<97;split
  ·exact⟨Int.emod_nonneg _ (by decide),Int.emod_lt_of_pos _ (by decide)⟩
  exact h i hi
theorem Sn{f:Nat->Int}{ts:Ts}(g:ou ts)(h:IsCell 24 f){q:Int×Int}(hq:q∈ts):q.1.toNat<24/\eX f ts q.1.toNat≠f q.1.toNat:=by
 obtain⟨⟨a0,a1⟩,b0,b1⟩:=g.at_ q hq;have hi:q.1.toNat<24:=by lia
 have hb:=h.b _ hi;refine⟨hi,?_⟩;rw[K6 ts f g.nd q hq];generalize f q.1.toNat=v at *;intro z;have:(v+q.2)%97=v:=z;lia
theorem Gb{f:Nat->Int}{ts:Ts}(g:ou ts)(h:IsCell 24 f):(My.fk 24 (eX f ts) f).length=ts.length:=by
 have e:ts.length=(ts.map λq=>q.1.toNat).length:=by rw[length_map]
 apply Nat.le_antisymm
 ·rw[e];refine My.iJ _ _ (My.iI _ _ _) λi hi=>?_;obtain⟨h1,h2⟩:=My.cM.mp hi;exact Classical.byContradiction λz=>h2 (Ao ts f i z)
 rw[e];refine My.iJ _ _ g.nd λi hi=>?_;obtain⟨q,hq,rfl⟩:=List.mem_map.mp hi;obtain⟨h1,h2⟩:=Sn g h hq;exact My.cM.mpr ⟨h1,h2⟩
theorem MY{f g h:Nat->Int}:(My.fk 24 f h).length<=(My.fk 24 g f).length+(My.fk 24 g h).length:=by
 have:=My.iJ (My.fk 24 f h) (My.fk 24 g f++My.fk 24 g h) (My.iI _ _ _) λi hi=>by
  obtain⟨h1,h2⟩:=My.cM.mp hi;by_cases e:g i=f i
  ·exact mem_append_right _ (My.cM.mpr ⟨h1,λz=>h2 (by rw[<-e,z])⟩)
  exact mem_append_left _ (My.cM.mpr ⟨h1,e⟩)
 rwa [length_append]at this
theorem MZ{f:Nat->Int}{ts:Ts}(g:ou ts)(h:IsCell 24 f)(hs:My.dO f)(h2:ts.length<3):My.qZ (eX f ts) f:=⟨h.b,hs,by rw[Gb g h];lia⟩
theorem Ma{f:Nat->Int}{ts:Ts}(g:ou ts)(h:IsCell 24 f)(hs:My.dO f)(h2:¬ts.length<3):∀k,¬My.qZ (eX f ts) k:=by
 intro k m;have d1:=Gb g h;have d2:=MY (f:=f) (g:=eX f ts) (h:=k);have d3:=m.yz;have d4:=g.len;have e:∀i,i<24->f i=k i:=My.Up h.b m.b hs m.sealed (by lia);have d5:(My.fk 24 (eX f ts) f).length<=(My.fk 24 (eX f ts) k).length:=by refine My.iJ _ _ (My.iI _ _ _) λi hi=>?_;obtain⟨h1,h2⟩:=My.cM.mp hi;exact My.cM.mpr ⟨h1,by rw[<-e i h1];exact h2⟩
 lia
abbrev Ft:=List (Int×Ts)
structure Gc(cr:Int)(fs:Ft):Prop where
 len:fs.length<=3
 at_:∀d∈fs,1<=d.1/\d.1<=cr/\ou d.2
def lN(K:W.Frag)(H:Hp)(a:Addr)(fs:Ft):Prop:=∃nW wz:Nat->Addr,cT K H a (bB fs.length nW)/\∀y d,fs[y]?=some d->cT K H (nW y) [.int d.1,.ref (wz y)]/\EW K H (wz y) d.2
theorem lN.same{K:W.Frag}{H H':Hp}{a:Addr}{fs:Ft}(h:lN K H a fs)(s:aI H H'):lN K H' a fs:=by obtain⟨nW,wz,h1,h2⟩:=h;exact⟨nW,wz,s.tup h1,λy d e=>⟨s.tup (h2 y d e).1,(h2 y d e).2.same s⟩⟩
theorem W3{a:Addr}(h:cT K H a []):EW K H a []:=⟨λ_=>0,h,λy q e=>by cases e⟩
theorem I0:ou []:=⟨by decide,(λq hq=>by cases hq),List.nodup_nil⟩
theorem W4{a:Addr}(h:cT K H a []):lN K H a []:=⟨λ_=>0,λ_=>0,h,λy q e=>by cases e⟩
theorem PL{a b c:Addr}{d:Int}{ts:Ts}(h:cT K H a [.ref b])(hb:cT K H b [.int d,.ref c])(hc:EW K H c ts):lN K H a [(d,ts)] :=
 ⟨λ_=>b,λ_=>c,h,λy e he=>by
  cases y with
  |zero=>cases he;exact⟨hb,hc⟩
  |succ y=>cases he⟩
theorem So{n:Nat}{f:Nat->Int}{i:Int}(h0:0<=i)(h1:i<n):uL (dL n f) i=some (V.int (f i.toNat)):=da (f:=λj=>V.int (f j)) h0 h1
theorem Sr{n:Nat}{f:Nat->Int}{i:Int}(h0:0<=i)(h1:i<n):Hw (dL n f).length i=some i.toNat:=by unfold Hw;rw[aL,if_pos h0,if_pos h1]
theorem PM{n:Nat}{f:Nat->Int}{v:Int}(h:i<n):(dL n f).set i (V.int v)=dL n (Iz f i v):=by
 refine(sx (f:=λj=>V.int (f j)) h).trans (bX λj _=>?_);unfold Iz;by_cases z:j=i
 ·rw[if_pos z,if_pos z]
 rw[if_neg z,if_neg z]
structure Rw where
 f:Nat->Int
 rd:Bool
 b:Cl
structure JA(r:Rw):Prop where
 c:IsCell 24 r.f
 m:PB r.f (if r.rd=true then some r.b else none)
 g:fo r.b
def fL(b:Cl)(ts:Ts):Rw:=⟨eX (bE b) ts,decide (ts.length<3),b⟩
def ua(ci:Nat->List Rw)(k:Nat)(r:Rw):Nat->List Rw:=λj=>if j=k then ci j++[r]else ci j
def cN(ci:Nat->List Rw)(tick:Nat)(b:Cl)(fs:Ft):Nat->List Rw:=fs.foldl (λrs d=>ua rs (tick+d.1.toNat) (fL b d.2)) ci
theorem Mb(ci:Nat->List Rw)(tick:Nat)(b:Cl)(fs:Ft)(d:Int×Ts):cN ci tick b (fs++[d])=ua (cN ci tick b fs) (tick+d.1.toNat) (fL b d.2):=by unfold cN;rw[List.foldl_append];rfl
theorem PN{b:Cl}{ts:Ts}(h1:fo b)(g:ou ts)(hs:My.dO (bE b)):JA (fL b ts):=by
 have c:=wO h1;refine⟨MX c,?_,h1⟩;show PB (eX (bE b) ts) (if decide (ts.length<3)=true then some b else none);by_cases z:ts.length<3
 ·rw[decide_eq_true z,if_pos rfl];exact⟨h1,MZ g c hs z⟩
 rw[decide_eq_false z,if_neg (by decide)];exact Ma g c hs z
theorem bh.mv{x tA pA:Addr}{L:Lk}(h:bh C B H x tA pA L)(sb:aI B' H')(bb:aI B B')(no:∀a,H a≠none->B a=none->B' a=none)(kx:∀o,H x=some o->H' x=some o)(kt:∀o,H tA=some o->H' tA=some o)(kp:∀o,H pA=some o->H' pA=some o):bh C B' H' x tA pA L:=by obtain⟨dx,pv,g,gp⟩:=h.at_;obtain⟨iA,g2,FA⟩:=h.told;obtain⟨fJ,g3,Ah⟩:=h.cE;exact⟨sb,no _ h.hx h.bx,no _ h.ht h.bt,no _ h.hp h.bp,⟨dx,pv,kx _ g,gp.mono bb⟩,⟨iA,kt _ g2,λy e he=>(FA y e he).mono bb⟩,⟨fJ,kp _ g3,λy xs hy=>bb _ _ (Ah y xs hy)⟩,h.ne⟩
def ii{α:Type}(f:Nat->α)(s:Nat)(v:α):Nat->α:=λi=>if i=s then v else f i
theorem aJ{α:Type}{f:Nat->α}{v:α}:ii f s v s=v:=if_pos rfl
theorem aN{α:Type}{f:Nat->α}{v:α}(h:i≠s):ii f s v i=f i:=if_neg h
structure fq(o:HO):Prop where
 t:∀xs,o≠.tup xs
 f:∀a u,o≠.NJ a u
theorem cX(xs:List V):fq (.lst xs):=⟨(λ_ z=>by cases z),(λ_ _ z=>by cases z)⟩
theorem rT{a b:Addr}(ha:ρ a=i)(hb:ρ b=j)(h:i≠j):a≠b:=λz=>h (by rw[<-ha,<-hb,z])
def PQ{α:Type}(a b:α):Nat->α:=λs=>if s=0 then a else b
theorem bI{q:Nat->Prop}(h0:q 0)(h1:q 1):∀s,s<2->q s:=λs hs=>by
 match s,hs with
 |0,_=>exact h0
 |1,_=>exact h1
 |s+2,hs=>lia
theorem Gd(x:V)(l:List V):uL (x::l) 0=some x:=by have h:(x::l)[0]?=some x:=rfl;exact gU h
theorem PR(x y:V)(l:List V):uL (x::y::l) 1=some y:=by have h:(x::y::l)[1]?=some y:=rfl;exact gU h
theorem PU{l a:Addr}{ps:List (List Int)}(h:Kv B H l ps)(ha:B a=some (.lst (xs.map V.int))):∃fJ:Nat->Addr,H l=some (.lst (bB ps.length fJ))/\∀H':Hp,H' l=some (.lst (bB ps.length fJ++[.ref a]))->Kv B H' l (ps++[xs]):=by
 obtain⟨fJ,g1,g2⟩:=h;refine⟨fJ,g1,λH' e=>⟨λi=>if i=ps.length then a else fJ i,?_,λy ys hy=>?_⟩⟩
 ·rw[e,dM,length_append];rfl
 show B (if y=ps.length then a else fJ y)=_;by_cases z:y<ps.length
 ·rw[if_neg (by lia)];rw[getElem?_append_left z]at hy;exact g2 y ys hy
 have eI:=(List.getElem?_eq_some_iff.mp hy).1;rw[length_append]at eI;have e:y=ps.length:=by simp at eI;lia
 rw[e,getElem?_append_right (le_refl _),Nat.sub_self]at hy;cases hy;rw[if_pos e];exact ha
theorem Ge{pv W5:V}{p:Option (Int×Int)}{Q:VK}(h:nT H pv p)(h':nT H W5 p)(q:Q (.bl false) H):ZX K pv W5 H Q:=by
 cases p with
 |none =>
  have h:pv=.bw:=h;have h':W5=.bw:=h';subst h h';exact .inl ⟨rfl,q⟩
 |some p =>
  obtain⟨a,rfl,g⟩:=h;obtain⟨a',rfl,g'⟩:=h';refine .inr ⟨a,a',_,_,rfl,rfl,cT.of g,cT.of g',λj u v hu hv=>?_,q⟩
  match j,hu,hv with
  |0,hu,hv=>cases hu;cases hv;exact .flat _ rfl
  |1,hu,hv=>cases hu;cases hv;exact .flat _ rfl
  |j+2,hu,hv=>cases hu
section
end
structure Tw(C:Addr)(B H E:Hp)(x tA pA:Nat->Addr)(L:Nat->Lk)(ρ:Addr->Nat):Prop where
 sb:aI B H
 lk:∀s,s<2->bh C B H (x s) (tA s) (pA s) (L s)
 rx:∀s,s<2->ρ (x s)=10+s
 rt:∀s,s<2->ρ (tA s)=20+s
 rp:∀s,s<2->ρ (pA s)=30+s
 ee:aI E H
 eb:∀a,E a≠none->B a=none
 er:∀a,E a≠none->ρ a=100
 en:∀a o,E a=some o->fq o
section
variable{x:Nat->Addr}
theorem wR{α:Type}{o:Option α}(h:o≠none):∃v,o=some v:=by
 cases o with
 |none=>exact absurd rfl h
 |some v=>exact⟨v,rfl⟩
theorem Tw.he(h:Tw C B H E x tA pA L ρ){a:Addr}(hi:E a≠none):H a≠none:=λz=>hi (h.ee.free z)
theorem Tw.same(h:Tw C B H E x tA pA L ρ)(e:aI H H'):Tw C B H' E x tA pA L ρ :=
 ⟨h.sb.trans e,λs hs=>(h.lk s hs).same e,h.rx,h.rt,h.rp,h.ee.trans e,h.eb,h.er,h.en⟩
theorem Tw.mvd{tB:Addr}{L':Lk}(h:Tw C B H E x tA pA L ρ)(hs:s<2)(mv:jh B H B' H' (x s) (tA s) (pA s) tB pB)(hl:bh C B' H' (x s) tB pB L'):
  ∃ρ',Tw C B' H' E x (ii tA s tB) (ii pA s pB) (ii L s L') ρ'/\∀a,a≠tB->a≠pB->ρ' a=ρ a:=by
 have old:∀{a:Addr}{i:Nat},ρ a=i->i≠10+s->i≠20+s->i≠30+s->∀o,H a=some o->H' a=some o:=λ{a i} e n1 n2 n3 o g=>mv.k a o (rT e (h.rx s hs) n1) (rT e (h.rt s hs) n2) (rT e (h.rp s hs) n3) g;have nt:∀{a:Addr}{i:Nat},ρ a=i->i≠20+s->H a≠none->a≠tB:=λ{a i} e n1 g z=>by
  rcases mv.t with y|y
  ·exact rT e (h.rt s hs) n1 (z.trans y)
  exact g (by rw[z];exact y)
 have np:∀{a:Addr}{i:Nat},ρ a=i->i≠30+s->H a≠none->a≠pB:=λ{a i} e n1 g z=>by
  rcases mv.p with y|y
  ·exact rT e (h.rp s hs) n1 (z.trans y)
  exact g (by rw[z];exact y)
 have rr:∀{a:Addr}{i:Nat},ρ a=i->i≠20+s->i≠30+s->H a≠none->(λb=>if b=tB then 20+s else if b=pB then 30+s else ρ b) a=i:=λ{a i} e n1 n2 g=>by show(if a=tB then 20+s else if a=pB then 30+s else ρ a)=i;rw[if_neg (nt e n1 g),if_neg (np e n2 g)];exact e
 refine⟨λb=>if b=tB then 20+s else if b=pB then 30+s else ρ b,⟨hl.sb,?_,?_,?_,?_,λa o e=>old (h.er a (by rw[e];exact λz=>by cases z)) (by lia) (by lia) (by lia) _ (h.ee _ _ e),λa hi=>mv.no _ (h.he hi) (h.eb a hi),λa hi=>rr (h.er a hi) (by lia) (by lia) (h.he hi),h.en⟩,λa h1 h2=>by show(if a=tB then 20+s else if a=pB then 30+s else ρ a)=ρ a;rw[if_neg h1,if_neg h2]⟩
 ·intro i hi;by_cases z:i=s
  ·subst z;rw[aJ,aJ,aJ];exact hl
  rw[aN z,aN z,aN z];exact(h.lk i hi).mv hl.sb mv.bb mv.no (old (h.rx i hi) (by lia) (by lia) (by lia)) (old (h.rt i hi) (by lia) (by lia) (by lia)) (old (h.rp i hi) (by lia) (by lia) (by lia))
 ·intro i hi;exact rr (h.rx i hi) (by lia) (by lia) (h.lk i hi).hx
 ·intro i hi;by_cases z:i=s
  ·subst z;rw[aJ];exact if_pos rfl
  rw[aN z];exact rr (h.rt i hi) (by lia) (by lia) (h.lk i hi).ht
 intro i hi;by_cases z:i=s
 ·subst z;rw[aJ];show(if pB=tB then 20+i else if pB=pB then 30+i else ρ pB)=_;rw[if_neg (Ne.symm hl.ne),if_pos rfl]
 rw[aN z];exact rr (h.rp i hi) (by lia) (by lia) (h.lk i hi).hp
theorem Tw.grow{a:Addr}{o:HO}(h:Tw C B H E x tA pA L ρ)(s:aI H H')(na:H a=none)(ea:H' a=some o):
  Tw C (dl B a o) H' E x tA pA L ρ/\aI B (dl B a o):=by
 have h1:=h.same s;have sB:aI B (dl B a o):=(aI.refl _).new (h.sb.free na);have no:∀b,H b≠none->B b=none->(dl B a o) b=none:=λb hb e=>by rw[aE (λz=>hb (by rw[z];exact na))];exact e
 have PV:aI (dl B a o) H':=λb u e=>by
  by_cases z:b=a
  ·rw[z]at e ⊢;rw[aA]at e;rw[ea];exact e
  rw[aE z]at e;exact h1.sb _ _ e
 exact⟨⟨PV,λi hi=>(h.lk i hi).mv PV sB no (λo e=>s _ _ e) (λo e=>s _ _ e) (λo e=>s _ _ e),h.rx,h.rt,h.rp,h1.ee,λa hi=>no _ (h.he hi) (h.eb a hi),h.er,h.en⟩,sB⟩
theorem Tw.chg(h:Tw C B H E x tA pA L ρ)(fr:∀a o,E a=none->H a=some o->H' a=some o)(ee':aI E' H')(nw:∀a,E' a≠none->E a≠none\/H a=none)(Ss:∀a o,E' a=some o->fq o):∃ρ',Tw C B H' E' x tA pA L ρ':=by
 classical
 have ez:∀{b:Addr}{k:Nat},ρ b=k->k<100->E b=none:=λ{b k} q n1=>Classical.byContradiction λz=>by have:=h.er b z;lia
 have old:∀{b:Addr}{k:Nat},ρ b=k->k<100->∀u,H b=some u->H' b=some u:=λ{b k} q n1 u g=>fr b u (ez q n1) g;have PV:aI B H':=λa o e=>fr a o (Classical.byContradiction λz=>by rw[h.eb a z]at e;cases e) (h.sb _ _ e);have rr:∀{b:Addr}{k:Nat},ρ b=k->k<100->H b≠none->(if E' b≠none then 100 else ρ b)=k:=λ{b k} q n1 hb=>by rw[if_neg (λz=>(nw b z).elim (λy=>y (ez q n1)) hb)];exact q
 exact⟨λa=>if E' a≠none then 100 else ρ a,PV,λi hi=>(h.lk i hi).mv PV (aI.refl _) (λ_ _ z=>z) (old (h.rx i hi) (by lia)) (old (h.rt i hi) (by lia)) (old (h.rp i hi) (by lia)),
  λi hi=>rr (h.rx i hi) (by lia) (h.lk i hi).hx,λi hi=>rr (h.rt i hi) (by lia) (h.lk i hi).ht,λi hi=>rr (h.rp i hi) (by lia) (h.lk i hi).hp,ee',λa ha=>(nw a ha).elim (h.eb a) h.sb.free,λa ha=>if_pos ha,Ss⟩
theorem Tw.put{a:Addr}{o:HO}(h:Tw C B H E x tA pA L ρ)(ha:E a≠none)(no:fq o):∃ρ',Tw C B (dl H a o) (dl E a o) x tA pA L ρ':=by
 refine h.chg (λb u hb e=>by rw[aE (λz=>ha (by rw[<-z];exact hb))];exact e) (λb u e=>?_) (λb hb=>?_) (λb u e=>?_)
 ·by_cases z:b=a
  ·rw[z,aA]at e;rw[z,aA];exact e
  rw[aE z]at e ⊢;exact h.ee _ _ e
 ·by_cases z:b=a
  ·rw[z];exact .inl ha
  rw[aE z]at hb;exact .inl hb
 by_cases z:b=a
 ·rw[z,aA]at e;cases e;exact no
 rw[aE z]at e;exact h.en _ _ e
theorem Tw.new{a:Addr}{o:HO}(h:Tw C B H E x tA pA L ρ)(ha:H a=none)(no:fq o):∃ρ',Tw C B (dl H a o) (dl E a o) x tA pA L ρ':=by
 refine h.chg (λb u hb e=>by rw[aE (λz=>by rw[z,ha]at e;cases e)];exact e) (λb u e=>?_) (λb hb=>?_) (λb u e=>?_)
 ·by_cases z:b=a
  ·rw[z,aA]at e;rw[z,aA];exact e
  rw[aE z]at e ⊢;exact h.ee _ _ e
 ·by_cases z:b=a
  ·rw[z];exact .inr ha
  rw[aE z]at hb;exact .inl hb
 by_cases z:b=a
 ·rw[z,aA]at e;cases e;exact no
 rw[aE z]at e;exact h.en _ _ e
theorem Tw.re(h:Tw C B H E x tA pA L ρ)(hL:∀s,s<2->L' s=L s):Tw C B H E x tA pA L' ρ :=
 ⟨h.sb,λs hs=>by rw[hL s hs];exact h.lk s hs,h.rx,h.rt,h.rp,h.ee,h.eb,h.er,h.en⟩
end
theorem Tw.K7{x:Nat->Addr}{p:Addr}{o:HO}(h:Tw C B H E x tA pA L ρ)(hp:H p=some o)(hb:B p=none)(n1:∀s,s<2->p≠x s/\p≠tA s/\p≠pA s)(n3:E p=none):
  Tw C (dl B p o) H E x tA pA L ρ/\aI B (dl B p o):=by
 have sB:aI B (dl B p o):=(aI.refl _).new hb;have PV:aI (dl B p o) H:=λb u e=>by
  by_cases z:b=p
  ·rw[z]at e ⊢;rw[aA]at e;rw[hp];exact e
  rw[aE z]at e;exact h.sb _ _ e
 refine⟨⟨PV,λi hi=>?_,h.rx,h.rt,h.rp,h.ee,λa ha=>by rw[aE (λz=>ha (by rw[z];exact n3))];exact h.eb a ha,h.er,h.en⟩,sB⟩;have l:=h.lk i hi;obtain⟨m1,m2,m3⟩:=n1 i hi;obtain⟨dx,pv,g,gp⟩:=l.at_;obtain⟨iA,g2,FA⟩:=l.told;obtain⟨fJ,g3,Ah⟩:=l.cE;exact⟨PV,by rw[aE (Ne.symm m1)];exact l.bx,by rw[aE (Ne.symm m2)];exact l.bt,by rw[aE (Ne.symm m3)];exact l.bp,⟨dx,pv,g,gp.mono sB⟩,⟨iA,g2,λy e he=>(FA y e he).mono sB⟩,⟨fJ,g3,λy xs hy=>sB _ _ (Ah y xs hy)⟩,l.ne⟩
theorem Tw.evs{x:Nat->Addr}{sd:Nat}{tB:Addr}(st:Tw C B H E x tA pA L ρ)(Dr:sd<2)(mv:jh B H B H' (x sd) (tA sd) (pA sd) tB (pA sd))(ntB:tB≠tA sd)(lk:bh C B H' (x sd) tB (pA sd) { L sd with ev:=[] })(ev:DM B H' (tA sd) (L sd).ev):
  ∃B' ρ',aI B B'/\Tw C B' H' E x (ii tA sd tB) pA (ii L sd { L sd with ev:=[] }) ρ'/\DM B' B' (tA sd) (L sd).ev:=by
 obtain⟨ρ1,w6,_⟩:=st.mvd Dr mv lk;have eP:ii pA sd (pA sd)=pA:=funext λi=>by
  by_cases z:i=sd
  ·rw[z,aJ]
  rw[aN z]
 rw[eP]at w6;obtain⟨iA,ev1,ev2⟩:=ev;have r0:=st.rt sd Dr;obtain⟨vj,sB⟩:=w6.K7 ev1 (st.lk sd Dr).bt (λs hs=>⟨rT r0 (st.rx s hs) (by lia),λz=>by
   by_cases y:s=sd
   ·rw[y,aJ]at z;exact ntB z.symm
   rw[aN y]at z;exact rT r0 (st.rt s hs) (by lia) z,rT r0 (st.rp s hs) (by lia)⟩) (Classical.byContradiction λz=>by have:=st.er _ z;lia)
 exact⟨_,ρ1,sB,vj,iA,aA,λy e he=>(ev2 y e he).mono sB⟩
theorem Tw.W6{x:Nat->Addr}{a:Addr}{o:HO}(h:Tw C B H E x tA pA L ρ)(s:aI H H')(na:H a=none)(ea:H' a=some o)(no:fq o):∃ρ',Tw C B H' (dl E a o) x tA pA L ρ':=by
 refine h.chg (λb u _ e=>s _ _ e) (λb u e=>?_) (λb hb=>?_) (λb u e=>?_)
 ·by_cases z:b=a
  ·rw[z,aA]at e;cases e;rw[z];exact ea
  rw[aE z]at e;exact s _ _ (h.ee _ _ e)
 ·by_cases z:b=a
  ·rw[z];exact .inr na
  rw[aE z]at hb;exact .inl hb
 by_cases z:b=a
 ·rw[z,aA]at e;cases e;exact no
 rw[aE z]at e;exact h.en _ _ e
section
variable{x:Nat->Addr}
theorem Tw.aAp(h:Tw C B H E x tA pA L ρ)(s:aI H H'):∃B',aI B B'/\Tw C B' H' E x tA pA L ρ/\∀a o,H a=none->H' a=some o->B' a=some o:=by
 classical
 let B':Hp:=λa=>if H a=none then H' a else B a
 have bn:∀a,H a=none->B' a=H' a:=λa e=>if_pos e;have bo:∀a,H a≠none->B' a=B a:=λa e=>if_neg e;have sB:aI B B':=λa o e=>by rw[bo a (λz=>by rw[h.sb _ _ e]at z;cases z)];exact e
 have no:∀b,H b≠none->B b=none->B' b=none:=λb hb e=>by rw[bo b hb];exact e
 have PV:aI B' H':=λb u e=>by
  by_cases z:H b=none
  ·rw[bn b z]at e;exact e
  rw[bo b z]at e;exact s _ _ (h.sb _ _ e)
 exact⟨B',sB,⟨PV,λi hi=>(h.lk i hi).mv PV sB no (λo e=>s _ _ e) (λo e=>s _ _ e) (λo e=>s _ _ e),h.rx,h.rt,h.rp,h.ee.trans s,λa hi=>no _ (h.he hi) (h.eb a hi),h.er,h.en⟩,λa o e e'=>by rw[bn a e];exact e'⟩
end
def aa(L:Lk)(bs:List Cl):Lk:={ bN L bs with ev:=[] }
def aK(rs:List Rw):List Cl:=rs.filterMap λr=>if r.rd=true then some r.b else none
theorem kN{rs:List Rw}{x:Cl}(h:x∈aK rs):∃row∈rs,row.rd=true/\row.b=x:=by
 obtain⟨y,hy,e⟩:=List.mem_filterMap.mp h;split at e
 ·rename_i z;cases e;exact⟨y,hy,z,rfl⟩
 cases e
def W7(r:Rw):Cm:=(r.f,if r.rd=true then some r.b else none)
theorem PX(rs:List Rw):cz (rs.map W7)=aK rs:=by unfold cz aK;rw[List.filterMap_map];rfl
theorem wU{ci:Nat->List Rw}{tick:Nat}{b:Cl}:∀(fs:Ft)(j:Nat)(r:Rw),r∈cN ci tick b fs j->r∈ci j\/∃d∈fs,j=tick+d.1.toNat/\r=fL b d.2:=by
 intro fs
 induction fs generalizing ci with
 |nil=>intro j r h;exact .inl h
 |cons d rest ih =>
  intro j r h;rcases ih (ci:=ua ci (tick+d.1.toNat) (fL b d.2)) j r h with z|⟨x,hx,z⟩
  ·have z:r∈(if j=tick+d.1.toNat then ci j++[fL b d.2]else ci j):=z;split at z
   ·rename_i e;rcases mem_append.mp z with y|y
    ·exact .inl y
    exact .inr ⟨d,mem_cons_self,e,mem_singleton.mp y⟩
   exact .inl z
  exact .inr ⟨x,mem_cons_of_mem _ hx,z⟩
theorem kL.aAq{G:Gh}{a:Cl}{m n:Nat}(h:kL G s a m)(hm:m<=n):kL G s a n:=by obtain⟨nc,cc,h1,h2,h3,h4,h5,h6,h7⟩:=h.ex;exact⟨⟨nc,cc,h1,h2,h3,h4,by lia,by lia,h7⟩,h.m⟩
theorem En.grow{r:Nat}{β:Int}{G G':Gh}{L:Lk}(g:kM r β G G')(hs:s≠r)(h:En G s L):En G' s L:=by have fr:∀{P:Pr},rS G s P->rS G' s P:=λ{P} f=>⟨by rw[g.w];exact f.w,by rw[g.o s hs];exact f.o,by rw[g.k s hs];exact f.k,by rw[g.u s hs];exact f.u⟩;exact⟨h.sd,by rw[g.o s hs];exact h.o,by rw[g.k s hs];exact h.t,by rw[g.w,g.o s hs];exact h.p,by rw[g.w,g.o s hs];exact h.ow,λz=>fr (h.dn z),by rw[g.u s hs];exact h.up,λP hP=>fr (h.un P hP),by rw[g.u s hs];exact h.um⟩
structure NT(cr:Int)(G:Gh)(L:Nat->Lk)(ci:Nat->Nat->List Rw):Prop where
 en:∀s,s<2->En G s (L s)
 rel:Rel G
 ag:∀s,s<2->∀(j:Nat)(row:Rw),row∈ci (1-s) j->∃HW:Nat,kL G s row.b HW/\(HW:Int)+j+1<=(L s).d+cr
 bi:∀s,s<2->∀(j:Nat)(row:Rw),row∈ci (1-s) j->row.b.b<=(L s).b/\row.b.k<=(L (1-s)).b
 kb:∀s,s<2->0<=(L (1-s)).b/\(L s).k<=(L (1-s)).b/\∀P,G.U s P->FD s P<=(L (1-s)).b
theorem JB(L:Lk)(bs:List Cl):(bN L bs).d=L.d+1/\(bN L bs).s=L.s/\(bN L bs).q=L.q:=by
 have mt:∀(L:Lk)(n:Int),(bH L n).d=L.d/\(bH L n).s=L.s/\(bH L n).q=L.q:=λL n=>by
  unfold bH;cases L.p with
  |none=>exact⟨rfl,rfl,rfl⟩
  |some p=>simp only;split<;>exact⟨rfl,rfl,rfl⟩
 have cm:∀L:Lk,(bM L).d=L.d/\(bM L).s=L.s/\(bM L).q=L.q:=λL=>by unfold bM;cases L.p<;>exact⟨rfl,rfl,rfl⟩
 have hr:∀(L:Lk)(c:Int),(bQ L c).d=L.d/\(bQ L c).s=L.s/\(bQ L c).q=L.q:=λL c=>by unfold bQ;split<;>exact⟨rfl,rfl,rfl⟩
 have tk:∀(L:Lk)(n:Int)(xs:List Int),(b9 L n xs).d=L.d/\(b9 L n xs).s=L.s/\(b9 L n xs).q=L.q:=λL n xs=>by unfold b9;split<;>exact⟨rfl,rfl,rfl⟩
 have rd:∀(L:Lk)(a:Cl),(a8 L a).d=L.d/\(a8 L a).s=L.s/\(a8 L a).q=L.q:=λL a=>by
  unfold a8;split
  ·exact⟨rfl,rfl,rfl⟩
  split
  ·obtain⟨t1,t2,t3⟩:=tk (bQ (bM (bH L a.b)) a.c) a.n a.xs;obtain⟨h1,h2,h3⟩:=hr (bM (bH L a.b)) a.c;obtain⟨c1,c2,c3⟩:=cm (bH L a.b);obtain⟨m1,m2,m3⟩:=mt L a.b;exact⟨t1.trans (h1.trans (c1.trans m1)),t2.trans (h2.trans (c2.trans m2)),t3.trans (h3.trans (c3.trans m3))⟩
  exact mt L a.b
 have hd:∀(bs:List Cl)(L:Lk),(aP L bs).d=L.d/\(aP L bs).s=L.s/\(aP L bs).q=L.q:=λbs=>by
  induction bs with
  |nil=>intro L;exact⟨rfl,rfl,rfl⟩
  |cons a r ih =>
   intro L;obtain⟨i1,i2,i3⟩:=ih (a8 L a);obtain⟨r1,r2,r3⟩:=rd L a;exact⟨i1.trans r1,i2.trans r2,i3.trans r3⟩
 have qt:∀L:Lk,(bC L).d=L.d/\(bC L).s=L.s/\(bC L).q=L.q:=λL=>by
  unfold bC;split
  ·unfold eG;cases L.p<;>exact⟨rfl,rfl,rfl⟩
  exact⟨rfl,rfl,rfl⟩
 obtain⟨h1,h2,h3⟩:=hd bs L;obtain⟨q1,q2,q3⟩:=qt (dB (aP L bs) bs);refine⟨?_,q2.trans h2,q3.trans h3⟩;show(bC (dB (aP L bs) bs)).d+1=_;rw[q1];show(aP L bs).d+1=_;rw[h1]
theorem Ap{B:Int}:∀(bs:List Cl)(L:Lk),L.k<=B->(∀a∈bs,a.b<=B)->(aP L bs).k<=B
 |[],_,h,_=>h
 |a::r,L,h,hb=>by
  refine Ap r (a8 L a) ?_ λx hx=>hb x (mem_cons_of_mem _ hx);have h1:a.b<=B:=hb a mem_cons_self;unfold a8;split
  ·exact h
  split
  ·have t1:(b9 (bQ (bM (bH L a.b)) a.c) a.n a.xs).k=(bQ (bM (bH L a.b)) a.c).k:=(by unfold b9;split<;>rfl);have t2:(bQ (bM (bH L a.b)) a.c).k=(bM (bH L a.b)).k:=(by unfold bQ;split<;>rfl);rw[t1,t2,(Iu _).2,(xf _ _).2];exact h1
  rw[(xf _ _).2];exact h1
theorem Aq(L:Lk):((bC L).b=L.b/\(bC L).k=L.k)\/((bC L).b=L.b+1/\(bC L).k=0):=by
 unfold bC;split
 ·right;unfold eG;cases L.p<;>exact⟨rfl,rfl⟩
 exact .inl ⟨rfl,rfl⟩
theorem NT.step{G:Gh}{ci:Nat->Nat->List Rw}{T:Nat}{fs:Ft}(h:NT cr G L ci)(hs:s<2)(hd:(L s).d=(T:Int))(ho:(L (1-s)).d<=(T:Int)+1)(l6:cr<=6)(hk:yk (L s))(MU:∀a∈aK (ci s T),FC a.b)(DN:(L s).ev=[])(gf:Gc cr fs):
  ∃G',NT cr G' (ii L s (aa (L s) (aK (ci s T)))) (ii ci (1-s) (cN (ci (1-s)) T (b6 (aa (L s) (aK (ci s T)))) fs))/\kM s (L s).b G G'/\qb (G.W (1-s)) (wt G s (L s)) (bN (L s) (aK (ci s T))).ev (wt G' s (aa (L s) (aK (ci s T)))):=by
 have ne:1-s≠s:=by lia
 have y8:1-s<2:=by lia
 have MV:1-(1-s)=s:=by lia
 have hc:∀a∈aK (ci s T),kL G (1-s) a 8:=λa ha=>by obtain⟨row,q1,_,rfl⟩:=kN ha;have:=h.ag (1-s) y8 T row;rw[MV]at this;obtain⟨HW,c1,c2⟩:=this q1;exact c1.aAq (by lia)
 have X9:∀a∈aK (ci s T),a.b<=(L (1-s)).b/\a.k<=(L s).b:=λa ha=>by obtain⟨row,q1,_,rfl⟩:=kN ha;have:=h.bi (1-s) y8 T row;rw[MV]at this;exact this q1
 obtain⟨G',n1,r1,g1,t1,b1,u1⟩:=(h.en s hs).tick (bs:=aK (ci s T)) hs h.rel hk MU hc (λa ha=>(X9 a ha).2) DN;obtain⟨kb1,kb2,kb3⟩:=h.kb s hs;have U2:=Ap (aK (ci s T)) (L s) kb2 λa ha=>(X9 a ha).1;have kb':=h.kb (1-s) y8;rw[MV]at kb';obtain⟨kc1,kc2,kc3⟩:=kb';have lA:(L s).b<=(aa (L s) (aK (ci s T))).b/\(aa (L s) (aK (ci s T))).k<=(L (1-s)).b:=by
  have hh:(dB (aP (L s) (aK (ci s T))) (aK (ci s T))).b=(L s).b:=b1;have hh2:(dB (aP (L s) (aK (ci s T))) (aK (ci s T))).k<=(L (1-s)).b:=U2;have e1:(aa (L s) (aK (ci s T))).b=(bC (dB (aP (L s) (aK (ci s T))) (aK (ci s T)))).b:=rfl;have e2:(aa (L s) (aK (ci s T))).k=(bC (dB (aP (L s) (aK (ci s T))) (aK (ci s T)))).k:=rfl;rw[e1,e2];rcases Aq (dB (aP (L s) (aK (ci s T))) (aK (ci s T)))with⟨z1,z2⟩|⟨z1,z2⟩
  ·rw[z1,z2];exact⟨by lia,hh2⟩
  rw[z1,z2];exact⟨by lia,kb1⟩
 obtain⟨td,ts,tq⟩:=JB (L s) (aK (ci s T));have dA:(aa (L s) (aK (ci s T))).d=(T:Int)+1:=by show(bN (L s) (aK (ci s T))).d=_;rw[td,hd]
 have nA:En G' s (aa (L s) (aK (ci s T))):=n1;refine⟨G',⟨λi hi=>?_,r1,λi hi j row h9=>?_,λi hi j row h9=>?_,λi hi=>?_⟩,g1,t1⟩
 ·by_cases z:i=s
  ·rw[z,aJ];exact nA
  rw[aN z];exact(h.en i hi).grow g1 z
 ·by_cases z:i=s
  ·subst z;rw[aJ]at h9;rw[aJ,dA];rcases wU fs j row h9 with y|⟨d,Qz,rfl,rfl⟩
   ·obtain⟨HW,c1,c2⟩:=h.ag i hi j row y;obtain⟨nc,cc,k1,k2,k3,k4,k5,k6,k7⟩:=c1.ex;refine⟨HW+1,⟨⟨nc,cc,k1,k2,le_trans k3 (g1.om _),le_trans k4 (g1.km _),?_,?_,by rw[g1.w];exact k7⟩,by rw[g1.u (1-i) ne];exact c1.m⟩,by lia⟩
    ·have a1:=(r1 i hi (pr i row.b.b row.b.k)).1;have a2:=(h.rel i hi (pr i row.b.b row.b.k)).2.1;rw[g1.k (1-i) ne]at a1;lia
    have a1:=(r1 (1-i) y8 (pr i row.b.b row.b.k)).2.1;have a2:=(h.rel (1-i) y8 (pr i row.b.b row.b.k)).1;rw[MV]at a1 a2;rw[g1.o (1-i) ne]at a1;lia
   generalize aa (L i) (aK (ci i T))=LA at *;have b1:=(gf.at_ d Qz).1;have b2:=(gf.at_ d Qz).2.1;refine⟨0,⟨⟨G'.O i (pr i LA.b LA.k),G'.K i (pr i LA.b LA.k),nA.o,nA.t,le_refl _,le_refl _,le_refl _,le_refl _,?_⟩,λP hP _=>by rw[g1.u (1-i) ne]at hP;exact Int.le_trans (kc3 P hP) lA.1⟩,by lia⟩;show LA.cE.headD []=[]\/(G'.W i (pr i LA.b LA.k))[G'.O i (pr i LA.b LA.k)]?=some (LA.cE.headD []);have hp:=nA.p;cases e:LA.cE with
   |nil=>exact .inl rfl
   |cons x r =>
    right;rw[e]at hp;have:((G'.W i (pr i LA.b LA.k)).drop (G'.O i (pr i LA.b LA.k)))[0]?=some x:=(by rw[<-hp];rfl);rw[List.getElem?_drop]at this;exact this
  have ei:i=1-s:=by lia
  subst ei;rw[MV]at h9;rw[aN (by lia)]at h9;rw[aN ne];have:=h.ag (1-s) hi j row;rw[MV]at this;obtain⟨HW,c1,c2⟩:=this h9;have b2:=h.bi (1-s) hi j row;rw[MV]at b2;exact⟨HW,c1.grow g1 ne (by lia) (b2 h9).2,c2⟩
 ·by_cases z:i=s
  ·subst z;rw[aJ]at h9;rw[aJ,aN ne];rcases wU fs j row h9 with y|⟨d,Qz,rfl,rfl⟩
   ·obtain⟨y1,y2⟩:=h.bi i hi j row y;exact⟨Int.le_trans y1 lA.1,y2⟩
   exact⟨Int.le_refl _,lA.2⟩
  have ei:i=1-s:=by lia
  subst ei;rw[MV]at h9;rw[aN (by lia)]at h9;rw[aN ne,MV,aJ];have b2:=h.bi (1-s) hi j row;rw[MV]at b2;exact⟨(b2 h9).1,Int.le_trans (b2 h9).2 lA.1⟩
 by_cases z:i=s
 ·subst z;rw[aJ,aN ne];exact⟨kb1,lA.2,λP hP=>(u1 P hP).elim (kb3 P) λy=>Int.le_trans y U2⟩
 have ei:i=1-s:=by lia
 subst ei;rw[aN ne,MV,aJ,g1.u (1-s) ne];exact⟨Int.le_trans kc1 lA.1,Int.le_trans kc2 lA.1,λP hP=>Int.le_trans (kc3 P hP) lA.1⟩
theorem NT.put{G:Gh}{ci:Nat->Nat->List Rw}(h:NT cr G L ci)(hs:s<2)(hu:(L s).p≠none):
  NT cr ⟨hG G.W s (pr s (L s).b (L s).k) (G.W s (pr s (L s).b (L s).k)++[xs]),G.O,G.K,G.U⟩ (ii L s { L s with cE:=(L s).cE++[xs] }) ci:=by
 have n0:=h.en s hs;have pk:∀P,Unr s (L s) P->P≠pr s (L s).b (L s).k:=λP hP y=>by
  rw[y]at hP;rcases hP with w|⟨_,w⟩
  ·rw[rR]at w;lia
  rw[xg]at w;lia
 have wl:∀i P,(G.W i P).length<=(hG G.W s (pr s (L s).b (L s).k) (G.W s (pr s (L s).b (L s).k)++[xs]) i P).length:=λi P=>by
  by_cases y:i=s/\P=pr s (L s).b (L s).k
  ·rw[y.1,y.2,cv,length_append];lia
  rw[fF y];exact le_refl _
 have eb:∀i,(ii L s { L s with cE:=(L s).cE++[xs] } i).b=(L i).b/\(ii L s { L s with cE:=(L s).cE++[xs] } i).k=(L i).k:=λi=>by
  by_cases z:i=s
  ·rw[z,aJ];exact⟨rfl,rfl⟩
  rw[aN z];exact⟨rfl,rfl⟩
 refine⟨λi hi=>?_,λi hi P=>?_,λi hi j row h9=>?_,λi hi j row h9=>by rw[(eb _).1,(eb _).1];exact h.bi i hi j row h9,λi hi=>by rw[(eb _).1,(eb _).2];exact h.kb i hi⟩
 ·by_cases z:i=s
  ·subst z;rw[aJ];refine⟨n0.sd,n0.o,n0.t,?_,?_,λy=>absurd y hu,n0.up,λP hP=>?_,n0.um⟩
   ·show(L i).cE++[xs]=(hG G.W i (pr i (L i).b (L i).k) (G.W i (pr i (L i).b (L i).k)++[xs]) i (pr i (L i).b (L i).k)).drop (G.O i (pr i (L i).b (L i).k));rw[cv,List.drop_append_of_le_length n0.ow,n0.p]
   ·exact le_trans n0.ow (wl i _)
   have f:=n0.un P hP;exact⟨by show hG G.W i (pr i (L i).b (L i).k) _ i P=[];rw[fF (λy=>pk P hP y.2)];exact f.w,f.o,f.k,f.u⟩
  rw[aN z];have n1:=h.en i hi;have we:∀P,hG G.W s (pr s (L s).b (L s).k) (G.W s (pr s (L s).b (L s).k)++[xs]) i P=G.W i P:=λP=>fF λy=>z y.1;have fr:∀{P:Pr},rS G i P->rS ⟨hG G.W s (pr s (L s).b (L s).k) (G.W s (pr s (L s).b (L s).k)++[xs]),G.O,G.K,G.U⟩ i P:=λ{P} f=>⟨(we P).trans f.w,f.o,f.k,f.u⟩;exact⟨n1.sd,n1.o,n1.t,by show _=(hG G.W s _ _ i _).drop _;rw[we];exact n1.p,by show _<=(hG G.W s _ _ i _).length;rw[we];exact n1.ow,λy=>fr (n1.dn y),n1.up,λP hP=>fr (n1.un P hP),n1.um⟩
 ·obtain⟨r1,r2,r3⟩:=h.rel i hi P;exact⟨r1,r2,le_trans r3 (wl i P)⟩
 obtain⟨HW,c1,c2⟩:=h.ag i hi j row h9;obtain⟨nc,cc,k1,k2,k3,k4,k5,k6,k7⟩:=c1.ex;refine⟨HW,⟨⟨nc,cc,k1,k2,k3,k4,k5,k6,k7.imp id λy=>?_⟩,c1.m⟩,?_⟩
 ·show(hG G.W s (pr s (L s).b (L s).k) (G.W s (pr s (L s).b (L s).k)++[xs]) i (pr i row.b.b row.b.k))[nc]?=some row.b.xs;by_cases z:i=s/\pr i row.b.b row.b.k=pr s (L s).b (L s).k
  ·obtain⟨z1,z2⟩:=z;rw[z2,z1]at y ⊢;rw[cv,getElem?_append_left (List.getElem?_eq_some_iff.mp y).1];exact y
  rw[fF z];exact y
 by_cases z:i=s
 ·subst z;rw[aJ];exact c2
 rw[aN z];exact c2
theorem NT.start{q:Int}:NT cr ⟨λ_ _=>[],λ_ _=>0,λ_ _=>0,λ_ _=>False⟩ (PQ (qa q 0) (qa q 1)) (λ_ _=>[]):=by have fr:∀s P,rS ⟨λ_ _=>[],λ_ _=>0,λ_ _=>0,λ_ _=>False⟩ s P:=λs P=>⟨rfl,rfl,rfl,id⟩;refine⟨bI (gL rfl (fr _ _) rfl rfl rfl rfl (λP _=>fr _ P) λP h=>h.elim) (gL rfl (fr _ _) rfl rfl rfl rfl (λP _=>fr _ P) λP h=>h.elim),λs hs P=>⟨le_refl _,zero_le _,le_refl _⟩,λs hs j row h=>(by cases h),λs hs j row h=>(by cases h),bI ⟨Int.zero_le_ofNat 1,Int.zero_le_ofNat 1,λP h=>h.elim⟩ ⟨Int.zero_le_ofNat 1,Int.zero_le_ofNat 1,λP h=>h.elim⟩⟩
def gM(b:Wt):Ev->Wt
 |.mk w x _=>if w=("up":Str)then⟨some x,b.k,λP=>P=x\/b.u P⟩else⟨none,b.k,b.u⟩
 |.took _=>match b.p with
  |none=>b
  |some x=>⟨b.p,λP=>if P=x then b.k x+1 else b.k P,b.u⟩
def yl(A:Wt)(es:List Ev):Wt:=es.foldl gM A
theorem kO(A:Wt)(es:List Ev)(e:Ev):yl A (es++[e])=gM (yl A es) e:=by unfold yl;rw[List.foldl_append];rfl
def OkE(W:Pr->List (List Int))(b:Wt):Ev->Prop
 |.mk w x _=>(w=("up":Str)/\b.p=none/\¬b.u x/\(∀P,b.u P->P.1<=x.1/\P.2<=x.2)/\b.k x=0)\/(w≠("up":Str)/\w≠("took":Str)/\b.p=some x)
 |.took xs=>∃x,b.p=some x/\(W x)[b.k x]?=some xs
def Mc(W:Pr->List (List Int))(A:Wt)(es:List Ev):Prop:=∀(i:Nat)(e:Ev),es[i]?=some e->OkE W (yl A (es.take i)) e
theorem Mc.snoc{W:Pr->List (List Int)}{A:Wt}{e:Ev}(h:Mc W A es)(h1:OkE W (yl A es) e):Mc W A (es++[e]):=by
 intro i x hx;by_cases z:i<es.length
 ·rw[getElem?_append_left z]at hx;rw[List.take_append_of_le_length (by lia)];exact h i x hx
 have eI:i<(es++[e]).length:=(List.getElem?_eq_some_iff.mp hx).1;rw[length_append]at eI;have ei:i=es.length:=by simp at eI;lia
 rw[ei,getElem?_append_right (le_refl _),Nat.sub_self]at hx;cases hx;rw[ei,List.take_left']
 ·exact h1
 rfl
theorem qb.ok{W:Pr->List (List Int)}{A Z:Wt}(h:qb W A es Z):Mc W A es/\yl A es=Z:=by
 induction h with
 |nil=>exact⟨λi e he=>(by cases he),rfl⟩
 |up h hp hu hm hz ih =>
  obtain⟨i1,i2⟩:=ih;refine⟨i1.snoc (by rw[i2];exact .inl ⟨rfl,hp,hu,hm,hz⟩),?_⟩;rw[kO,i2];unfold gM;simp only;exact if_pos trivial
 |anew h hp ih =>
  obtain⟨i1,i2⟩:=ih;refine⟨i1.snoc (by rw[i2];exact .inr ⟨by decide,by decide,hp⟩),?_⟩;rw[kO,i2];unfold gM;simp only;rw[if_neg (by decide)]
 |sil h hp ih =>
  obtain⟨i1,i2⟩:=ih;refine⟨i1.snoc (by rw[i2];exact .inr ⟨by decide,by decide,hp⟩),?_⟩;rw[kO,i2];unfold gM;simp only;rw[if_neg (by decide)]
 |took h hp hw ih =>
  obtain⟨i1,i2⟩:=ih;refine⟨i1.snoc (by rw[i2];exact⟨_,hp,hw⟩),?_⟩;rw[kO,i2];unfold gM;simp only;rw[hp]
theorem Md{W:List (List Int)}{n:Nat}(h:W[n]?=some xs):W.take n++[xs]=W.take (n+1):=by rw[List.take_add_one,h];rfl
theorem Su{b:Wt}{e:Ev}{P:Pr}(h:b.u P):(gM b e).u P:=by
 cases e with
 |mk w x ns =>
  show(if w=("up":Str)then _ else _:Wt).u P;split
  ·exact .inr h
  exact h
 |took xs =>
  unfold gM;simp only;cases b.p<;>exact h
def KU(A:Wt):Prop:=(∀x,A.p=some x->A.u x)/\∀P,¬A.u P->A.k P=0
theorem qb.ku{W:Pr->List (List Int)}{A Z:Wt}(h:qb W A es Z)(k:KU A):KU Z:=by
 induction h with
 |nil=>exact k
 |up h hp hu hm hz ih=>exact⟨λy hy=>(by cases hy;exact .inl rfl),λP hP=>ih.2 P λz=>hP (.inr z)⟩
 |anew h hp ih=>exact⟨λy hy=>(by cases hy),ih.2⟩
 |sil h hp ih=>exact⟨λy hy=>(by cases hy),ih.2⟩
 |took h hp hw ih =>
  rename_i x xs;refine⟨ih.1,λP hP=>?_⟩;have:P≠x:=λz=>hP (z▸ih.1 x hp);show(if P=x then _ else _)=0;rw[if_neg this];exact ih.2 P hP
def EX(fs:Ft):Prop:=∃d∈fs,d.2.length<3
def Jn(q:Nat)(ci:Nat->List Rw)(Tr Ts run τ:Nat)(φ:Cl->Prop):Prop:=(∃(j:Nat)(row:Rw),Tr<=j/\j<=τ+q/\row∈ci j/\row.rd=true/\φ row.b)\/Ts<=τ+run
theorem wV{tick:Nat}{b:Cl}:∀(fs:Ft)(ci:Nat->List Rw)(j:Nat)(r:Rw),r∈ci j->r∈cN ci tick b fs j
 |[],_,_,_,h=>h
 |d::fs,ci,j,r,h=>wV fs (ua ci (tick+d.1.toNat) (fL b d.2)) j r (by
   unfold ua;split
   ·exact mem_append_left _ h
   exact h)
theorem Ar{tick:Nat}{b:Cl}{d:Int×Ts}:∀(fs:Ft)(ci:Nat->List Rw),d∈fs->fL b d.2∈cN ci tick b fs (tick+d.1.toNat)
 |[],_,h=>by cases h
 |e::fs,ci,h=>by
  rcases mem_cons.mp h with z|z
  ·subst z;refine wV fs (ua ci (tick+d.1.toNat) (fL b d.2)) _ _ ?_;unfold ua;rw[if_pos rfl];exact mem_append_right _ (mem_singleton.mpr rfl)
  exact Ar fs (ua ci (tick+e.1.toNat) (fL b e.2)) z
section
variable{q cr Tr Ts run run' τ:Nat}{ci:Nat->List Rw}{ψ:Cl->Prop}{fs:Ft}{c:Cl}
theorem Jn.now(h:Ts<=τ):Jn q ci Tr Ts run τ φ:=.inr (by lia)
theorem Jn.le(h:Jn q ci Tr Ts run τ φ)(hr:run<=db)(hq:db+1<=q)(ht:Tr<=Ts+1):Tr<=τ+q:=by rcases h with⟨j,_,h1,h2,_⟩|h<;>lia
theorem Jn.mono(h:Jn q ci Tr Ts run τ φ)(hm:∀a,φ a->ψ a):Jn q ci Tr Ts run τ ψ:=by
 rcases h with⟨j,row,h1,h2,h3,h4,h5⟩|h
 ·exact .inl ⟨j,row,h1,h2,h3,h4,hm _ h5⟩
 exact .inr h
theorem Jn.give(h:Jn q ci Tr Ts run τ φ)(hc:φ c)(gf:Gc (cr:Int) fs)(hq:cr+db=q)(hr:run<=db)(ht:Tr<=Ts+1)(hf:EX fs\/run'=run+1):Jn q (cN ci Ts c fs) Tr (Ts+1) run' τ φ:=by
 rcases h with⟨j,row,h1,h2,h3,h4,h5⟩|h
 ·exact .inl ⟨j,row,h1,h2,wV fs ci j row h3,h4,h5⟩
 rcases hf with⟨d,hd,hl⟩|hf
 ·obtain⟨d1,d2,_⟩:=gf.at_ d hd;exact .inl ⟨Ts+d.1.toNat,fL c d.2,by lia,by lia,Ar fs ci hd,decide_eq_true hl,hc⟩
 exact .inr (by lia)
theorem xh{rs:List Rw}{row:Rw}(h:row∈rs)(hr:row.rd=true):row.b∈aK rs:=by unfold aK;exact List.mem_filterMap.mpr ⟨row,h,by rw[if_pos hr]⟩
theorem Jn.tick(h:Jn q ci Tr Ts run τ φ)(hn:∀a∈aK (ci Tr),¬φ a):Jn q ci (Tr+1) Ts run τ φ:=by
 rcases h with⟨j,row,h1,h2,h3,h4,h5⟩|h
 ·by_cases z:j=Tr
  ·subst z;exact absurd h5 (hn _ (xh h3 h4))
  exact .inl ⟨j,row,by lia,h2,h3,h4,h5⟩
 exact .inr h
end
theorem meet_self(L:Lk):bH L L.k=L:=by
 unfold bH;obtain⟨q,s,d,u,b,k,p,ev,cE,of,tk⟩:=L;cases p with
 |none=>rfl
 |some x=>simp only;rw[if_neg (by lia)]
structure rV(L L':Lk):Prop where
 p:L'.p=L.p
 b:L'.b=L.b
 k:L'.k=L.k
 ev:∃es:List Ev,L'.ev=L.ev++es/\∀e∈es,∃xs,e=.took xs
 l:L'.cE.length<=L.cE.length
theorem rV.refl(L:Lk):rV L L:=⟨rfl,rfl,rfl,⟨[],(List.append_nil _).symm,λe h=>by cases h⟩,le_refl _⟩
theorem rV.trans{L L1 L2:Lk}(a:rV L L1)(b:rV L1 L2):rV L L2:=by obtain⟨e1,h1,h1'⟩:=a.ev;obtain⟨e2,h2,WA⟩:=b.ev;exact⟨b.p.trans a.p,b.b.trans a.b,b.k.trans a.k,⟨e1++e2,by rw[h2,h1,List.append_assoc],λe h=>(mem_append.mp h).elim (h1' e) (WA e)⟩,le_trans b.l a.l⟩
theorem dq(L:Lk)(c:Int):rV L (bQ L c)/\(bQ L c).tk=L.tk/\(bQ L c).ev=L.ev:=by
 unfold bQ;split
 ·exact⟨⟨rfl,rfl,rfl,⟨[],(List.append_nil _).symm,λe h=>by cases h⟩,by show L.cE.tail.length<=_;rw[List.length_tail];lia⟩,rfl,rfl⟩
 exact⟨rV.refl _,rfl,rfl⟩
theorem nX(L:Lk)(n:Int)(xs:List Int):rV L (b9 L n xs)/\(b9 L n xs).cE=L.cE/\(b9 L n xs).of=L.of:=by
 unfold b9;split
 ·exact⟨⟨rfl,rfl,rfl,⟨[.took xs],rfl,λe h=>⟨xs,mem_singleton.mp h⟩⟩,le_refl _⟩,rfl,rfl⟩
 exact⟨rV.refl _,rfl,rfl⟩
theorem EY{L:Lk}{a:Cl}(hp:L.p≠none)(ha:a.b<=L.k):a8 L a=L\/(a8 L a=b9 (bQ L a.c) a.n a.xs/\a.k=L.b/\a.b=L.k):=by
 have ec:bM L=L:=by
  unfold bM;cases e:L.p with
  |none=>exact absurd e hp
  |some x=>rfl
 unfold a8;by_cases z:a.b<L.k
 ·rw[if_pos z];exact .inl rfl
 have e:a.b=L.k:=by lia
 rw[if_neg z,e,meet_self,ec];by_cases y:a.k=L.b
 ·rw[if_pos y];exact .inr ⟨rfl,y,rfl⟩
 rw[if_neg y];exact .inl rfl
theorem xi{L:Lk}{a:Cl}(hp:L.p≠none)(ha:a.b<=L.k):rV L (a8 L a):=by
 rcases EY hp ha with z|⟨z,_⟩
 ·rw[z];exact rV.refl _
 rw[z];exact(dq L a.c).1.trans (nX _ _ _).1
theorem iQ:∀(bs:List Cl)(L:Lk),L.p≠none->(∀a∈bs,a.b<=L.k)->rV L (aP L bs)
 |[],L,_,_=>rV.refl L
 |a::r,L,hp,h=>by have s:=xi hp (h a mem_cons_self);exact s.trans (iQ r (a8 L a) (by rw[s.p];exact hp) λx hx=>by rw[s.k];exact h x (mem_cons_of_mem _ hx))
theorem rV.evl{L L':Lk}(s:rV L L'):L.ev.length<=L'.ev.length:=by obtain⟨es,h,_⟩:=s.ev;rw[h,length_append];lia
theorem uc:∀(bs:List Cl)(L:Lk)(a:Cl),L.p≠none->(∀x∈bs,x.b<=L.k)->a∈bs->a.b=L.k->a.k=L.b->a.xs≠[]->a.n=L.tk->L.ev.length<(aP L bs).ev.length
 |[],_,_,_,_,hm,_,_,_,_=>by cases hm
 |c::r,L,a,hp,h,hm,hb,hk,hx,hn=>by
  have s:=xi hp (h c mem_cons_self);have hr:∀x∈r,x.b<=(a8 L c).k:=λx hx=>by rw[s.k];exact h x (mem_cons_of_mem _ hx)
  have s2:=iQ r (a8 L c) (by rw[s.p];exact hp) hr;show L.ev.length<(aP (a8 L c) r).ev.length;have l2:=s2.evl;rcases EY hp (h c mem_cons_self)with z|⟨z,z1,z2⟩
  ·rcases mem_cons.mp hm with y|y
   ·exfalso;subst y;have e:a8 L a=b9 (bQ L a.c) a.n a.xs:=by
     have ec:bM L=L:=by
      unfold bM;cases e:L.p with
      |none=>exact absurd e hp
      |some x=>rfl
     unfold a8;rw[if_neg (by lia),hb,meet_self,ec,if_pos hk]
    have e2:(a8 L a).ev.length=L.ev.length+1:=by rw[e];unfold b9;rw[if_pos ⟨hx,by rw[(dq L a.c).2.1];exact hn⟩];show((bQ L a.c).ev++[_]).length=_;rw[(dq L a.c).2.2,length_append];rfl
    rw[z]at e2;lia
   rw[z];exact uc r L a hp (λx hx=>h x (mem_cons_of_mem _ hx)) y hb hk hx hn
  by_cases y:c.xs≠[]/\c.n=L.tk
  ·have e2:(a8 L c).ev.length=L.ev.length+1:=by rw[z];unfold b9;rw[if_pos ⟨y.1,by rw[(dq L c.c).2.1];exact y.2⟩];show((bQ L c.c).ev++[_]).length=_;rw[(dq L c.c).2.2,length_append];rfl
   lia
  have e2:a8 L c=bQ L c.c:=by rw[z];unfold b9;rw[if_neg (λw=>y ⟨w.1,by rw[(dq L c.c).2.1]at w;exact w.2⟩)]
  rcases mem_cons.mp hm with w|w
  ·subst w;exact absurd ⟨hx,hn⟩ y
  have l1:=s.evl;refine Nat.lt_of_le_of_lt l1 (uc r (a8 L c) a (by rw[s.p];exact hp) hr w (by rw[s.k];exact hb) (by rw[s.b];exact hk) hx ?_);rw[e2,(dq L c.c).2.1];exact hn
theorem rW:∀(bs:List Cl)(L:Lk)(a:Cl),L.p≠none->(∀x∈bs,x.b<=L.k)->a∈bs->a.b=L.k->a.k=L.b->L.cE≠[]->a.c=(L.of+1)%97->(aP L bs).cE.length<L.cE.length
 |[],_,_,_,_,hm,_,_,_,_=>by cases hm
 |c::r,L,a,hp,h,hm,hb,hk,hx,hn=>by
  have s:=xi hp (h c mem_cons_self);have hr:∀x∈r,x.b<=(a8 L c).k:=λx hx=>by rw[s.k];exact h x (mem_cons_of_mem _ hx)
  have s2:=iQ r (a8 L c) (by rw[s.p];exact hp) hr;show(aP (a8 L c) r).cE.length<L.cE.length;have l2:=s2.l;have hl:0<L.cE.length:=by
   cases e:L.cE with
   |nil=>exact absurd e hx
   |cons _ _=>exact Nat.zero_lt_succ _
  have ec:bM L=L:=by
   unfold bM;cases e:L.p with
   |none=>exact absurd e hp
   |some x=>rfl
  rcases EY hp (h c mem_cons_self)with z|⟨z,z1,z2⟩
  ·rcases mem_cons.mp hm with y|y
   ·exfalso;subst y;have e:a8 L a=b9 (bQ L a.c) a.n a.xs:=by unfold a8;rw[if_neg (by lia),hb,meet_self,ec,if_pos hk]
    have e2:(a8 L a).cE=L.cE.tail:=by rw[e,(nX _ _ _).2.1];unfold bQ;rw[if_pos ⟨hx,hn⟩]
    rw[z]at e2;have:=congrArg List.length e2;rw[List.length_tail]at this;lia
   rw[z];exact rW r L a hp (λx hx=>h x (mem_cons_of_mem _ hx)) y hb hk hx hn
  by_cases y:L.cE≠[]/\c.c=(L.of+1)%97
  ·have e2:(a8 L c).cE=L.cE.tail:=(by rw[z,(nX _ _ _).2.1];unfold bQ;rw[if_pos y]);rw[e2,List.length_tail]at l2;lia
  have e2:bQ L c.c=L:=if_neg y;rw[e2]at z;rcases mem_cons.mp hm with w|w
  ·subst w;exact absurd ⟨hx,hn⟩ y
  have e3:(a8 L c).cE=L.cE/\(a8 L c).of=L.of:=by rw[z];exact(nX _ _ _).2
  have:=rW r (a8 L c) a (by rw[s.p];exact hp) hr w (by rw[s.k];exact hb) (by rw[s.b];exact hk) (by rw[e3.1];exact hx) (by rw[e3.2];exact hn);rw[e3.1]at this;exact this
theorem PY(L:Lk)(a:Cl):(a8 L a).b=L.b/\(a8 L a).k=(if a.b<L.k then L.k else a.b)/\(a8 L a).u=L.u/\(a8 L a).q=L.q:=by
 have mt:(bH L a.b).u=L.u/\(bH L a.b).q=L.q:=by
  unfold bH;cases L.p with
  |none=>exact⟨rfl,rfl⟩
  |some p=>simp only;split<;>exact⟨rfl,rfl⟩
 have cm:∀L:Lk,(bM L).u=L.u/\(bM L).q=L.q:=λL=>by unfold bM;cases L.p<;>exact⟨rfl,rfl⟩
 have hr:∀(L:Lk)(c:Int),(bQ L c).u=L.u/\(bQ L c).q=L.q:=λL c=>by unfold bQ;split<;>exact⟨rfl,rfl⟩
 have tk:∀(L:Lk)(n:Int)(xs:List Int),(b9 L n xs).u=L.u/\(b9 L n xs).q=L.q:=λL n xs=>by unfold b9;split<;>exact⟨rfl,rfl⟩
 have mb:=xf L a.b;unfold a8;by_cases z:a.b<L.k
 ·rw[if_pos z,if_pos z];exact⟨rfl,rfl,rfl,rfl⟩
 rw[if_neg z,if_neg z];split
 ·have t1:=PF (bQ (bM (bH L a.b)) a.c) a.n a.xs;have h1:=PD (bM (bH L a.b)) a.c;have c1:=Iu (bH L a.b);refine⟨t1.1.trans (h1.1.trans (c1.1.trans mb.1)),t1.2.1.trans (h1.2.trans (c1.2.trans mb.2)),?_,?_⟩
  ·rw[(tk _ _ _).1,(hr _ _).1,(cm _).1,mt.1]
  rw[(tk _ _ _).2,(hr _ _).2,(cm _).2,mt.2]
 exact⟨mb.1,mb.2,mt.1,mt.2⟩
theorem tR:∀(bs:List Cl)(L:Lk),(aP L bs).b=L.b/\L.k<=(aP L bs).k/\(∀a∈bs,a.b<=(aP L bs).k)/\(aP L bs).u=L.u/\(aP L bs).q=L.q
 |[],L=>⟨rfl,Int.le_refl _,λa h=>(by cases h),rfl,rfl⟩
 |a::r,L=>by
  obtain⟨r1,r2,r3,r4⟩:=PY L a;obtain⟨i1,i2,i3,i4,i5⟩:=tR r (a8 L a);have h1:L.k<=(a8 L a).k/\a.b<=(a8 L a).k:=by rw[r2];split<;>lia
  refine⟨i1.trans r1,Int.le_trans h1.1 i2,λx hx=>?_,i4.trans r3,i5.trans r4⟩;rcases mem_cons.mp hx with z|z
  ·rw[z];exact Int.le_trans h1.2 i2
  exact i3 x z
theorem Gf:∀(bs:List Cl)(L:Lk)(B:Int)(a:Cl),L.k<=B->(∀x∈bs,x.b<=B)->a∈bs->a.b=B->a.k=L.b->(aP L bs).p≠none
 |[],_,_,_,_,_,hm,_,_=>by cases hm
 |c::r,L,B,a,hk,h,hm,hb,ha=>by
  obtain⟨r1,r2,_,_⟩:=PY L c;have hc:=h c mem_cons_self;have k1:(a8 L c).k<=B:=by rw[r2];split<;>lia
  show(aP (a8 L c) r).p≠none;rcases mem_cons.mp hm with y|y
  ·subst y;have kB:(a8 L a).k=B:=(by rw[r2,hb];split<;>lia);have pn:(a8 L a).p≠none:=by
    unfold a8;rw[if_neg (by lia),if_pos (by rw[(xf L a.b).1];exact ha),(nX _ _ _).1.p,(dq _ _).1.p];unfold bM;cases e:(bH L a.b).p with
    |none=>exact λz=>by cases z
    |some x=>simp only;rw[e];exact λz=>by cases z
   rw[(iQ r (a8 L a) pn λx hx=>by rw[kB];exact h x (mem_cons_of_mem _ hx)).p];exact pn
  exact Gf r (a8 L c) B a k1 (λx hx=>h x (mem_cons_of_mem _ hx)) y hb (by rw[r1];exact ha)
theorem jH{L:Lk}(h:(aP L bs).k=0\/(if bs=[]then L.u+1 else 0)<L.q):aa L bs={ aP L bs with u:=(if bs=[]then L.u+1 else 0),d:=(aP L bs).d+1,ev:=[] }/\(bN L bs).ev=(aP L bs).ev:=by
 obtain⟨_,_,_,hu,hq⟩:=tR bs L;have e:bC (dB (aP L bs) bs)=dB (aP L bs) bs:=by
  unfold bC;refine if_neg λz=>?_;rcases h with y|y
  ·exact z.1 y
  have z2:(aP L bs).q<=(if bs=[]then(aP L bs).u+1 else 0):=z.2;rw[hu,hq]at z2;lia
 unfold aa bN;rw[e];unfold dB;rw[hu];exact⟨rfl,rfl⟩
abbrev Jd(q:Nat)(ci:Nat->Nat->List Rw)(run D:Nat->Nat)(r τ:Nat)(φ:Cl->Prop):Prop:=Jn q (ci r) (D r) (D (1-r)) (run (1-r)) τ φ
structure Wx(q cr db:Nat)(L:Nat->Lk)(ci:Nat->Nat->List Rw)(run D:Nat->Nat):Prop where
 hq:cr+db=q
 h1:1<=cr
 d:∀r,r<2->(L r).d=(D r:Int)
 dd:∀r,r<2->D r<=D (1-r)+1
 rn:∀r,r<2->run r<=db
 e:∀r,r<2->∀φ:Cl->Prop,φ (b6 (L (1-r)))->Jn q (ci r) (D r+1) (D (1-r)) (run (1-r)) (D r) φ
section
variable{q cr:Nat}{ci:Nat->Nat->List Rw}{run:Nat->Nat}{x:Nat}{LA:Lk}{fs:Ft}
theorem Wx.le(h:Wx q cr db L ci run D){r τ:Nat}{φ:Cl->Prop}(hr:r<2)(j:Jd q ci run D r τ φ):D r<=τ+q:=Jn.le j (h.rn (1-r) (by lia)) (by have:=h.hq;have:=h.h1;lia) (h.dd r hr)
structure Ws(q cr db:Nat)(L:Nat->Lk)(ci:Nat->Nat->List Rw)(run D:Nat->Nat)(x:Nat)(LA:Lk)(fK:Nat->Nat->List Rw)(run' D':Nat->Nat):Prop where
 w:Wx q cr db (ii L x LA) fK run' D'
 tk:∀τ φ,Jd q ci run D x τ φ->(∀a∈aK (ci x (D x)),¬φ a)->Jd q fK run' D' x τ φ
 sr:∀φ:Cl->Prop,φ (b6 (L (1-x)))->Jd q fK run' D' x (D x) φ
 gv:∀τ φ,Jd q ci run D (1-x) τ φ->φ (b6 LA)->Jd q fK run' D' (1-x) τ φ
 ss:∀φ:Cl->Prop,φ (b6 LA)->Jd q fK run' D' (1-x) (D x) φ
 lx:∀τ φ,Jd q ci run D x τ φ->D x<=τ+q
theorem Wx.step(h:Wx q cr db L ci run D)(hx:x<2)(hd:D x<=D (1-x))(hLA:LA.d=(D x:Int)+1)(gf:Gc (cr:Int) fs)(hf:EX fs\/r'=run x+1)(hr:r'<=db):
  Ws q cr db L ci run D x LA (ii ci (1-x) (cN (ci (1-x)) (D x) (b6 LA) fs)) (ii run x r') (ii D x (D x+1)):=by
 have ne:1-x≠x:=by lia
 have Sv:1-x<2:=by lia
 have e1:1-(1-x)=x:=by lia
 have d1:=h.dd x hx;have d2:=h.dd (1-x) Sv;rw[e1]at d2;have hq:=h.hq;have h1:=h.h1;have rn:=h.rn x hx;have ss:∀φ:Cl->Prop,φ (b6 LA)->Jn q (cN (ci (1-x)) (D x) (b6 LA) fs) (D (1-x)) (D x+1) r' (D x) φ:=λφ hφ=>(Jn.now (le_refl _)).give hφ gf hq rn (by lia) hf;have J1:∀τ φ,Jd q (ii ci (1-x) (cN (ci (1-x)) (D x) (b6 LA) fs)) (ii run x r') (ii D x (D x+1)) x τ φ=Jn q (ci x) (D x+1) (D (1-x)) (run (1-x)) τ φ:=λτ φ=>by show Jn q (ii ci (1-x) _ x) (ii D x (D x+1) x) (ii D x (D x+1) (1-x)) (ii run x r' (1-x)) τ φ=_;rw[aN (Ne.symm ne),aJ,aN ne,aN ne]
 have J2:∀τ φ,Jd q (ii ci (1-x) (cN (ci (1-x)) (D x) (b6 LA) fs)) (ii run x r') (ii D x (D x+1)) (1-x) τ φ=Jn q (cN (ci (1-x)) (D x) (b6 LA) fs) (D (1-x)) (D x+1) r' τ φ:=λτ φ=>by show Jn q (ii ci (1-x) _ (1-x)) (ii D x (D x+1) (1-x)) (ii D x (D x+1) (1-(1-x))) (ii run x r' (1-(1-x))) τ φ=_;rw[e1,aJ,aN ne,aJ,aJ]
 refine⟨⟨hq,h1,λr EZ=>?_,λr EZ=>?_,λr EZ=>?_,λr EZ φ hφ=>?_⟩,λτ φ j hn=>?_,λφ hφ=>?_,λτ φ j hφ=>?_,λφ hφ=>?_,λτ φ j=>h.le hx j⟩
 ·by_cases z:r=x
  ·rw[z,aJ,aJ,hLA];lia
  rw[aN z,aN z];exact h.d r EZ
 ·by_cases z:r=x
  ·rw[z,aJ,aN ne];lia
  have:r=1-x:=by lia
  rw[this,aN ne,e1,aJ];lia
 ·by_cases z:r=x
  ·rw[z,aJ];exact hr
  rw[aN z];exact h.rn r EZ
 ·by_cases z:r=x
  ·subst z;rw[aJ,aN ne,aN (Ne.symm ne),aN ne];exact .inr (by lia)
  have er:r=1-x:=by lia
  subst er;rw[e1,aJ]at hφ;rw[aJ,aN ne,e1,aJ,aJ];by_cases y:D (1-x)=D x
  ·rw[y];exact(Jn.now (q:=q) (ci:=ci (1-x)) (Tr:=D x+1) (run:=run x) (le_refl (D x))).give hφ gf hq rn (by lia) hf
  exact .inr (by lia)
 ·rw[J1];exact Jn.tick j hn
 ·rw[J1];exact h.e x hx φ hφ
 ·rw[J2];have j':Jn q (ci (1-x)) (D (1-x)) (D x) (run x) τ φ:=by have:=j;unfold Jd at this;rw[e1]at this;exact this
  exact j'.give hφ gf hq rn (by lia) hf
 rw[J2];exact ss φ hφ
structure Hr(q T0:Nat)(L:Nat->Lk)(ci:Nat->Nat->List Rw)(run D:Nat->Nat):Prop where
 Q:∀r,r<2->(L r).q=(q:Int)
 u0:∀r,r<2->0<=(L r).u
 a:∀r,r<2->∃τ,T0<=τ/\Jd q ci run D r τ (λ_=>True)/\((τ=T0/\(T0=0->(L r).k=0))\/(L r).u+(τ:Int)+1=(D r:Int))
theorem K8(L:Lk)(bs:List Cl):(aa L bs).u=(if bs=[]then L.u+1 else 0)/\(aa L bs).q=L.q:=by
 obtain⟨_,_,_,hu,hq⟩:=tR bs L;have e:∀L:Lk,(bC L).u=L.u:=λL=>by
  unfold bC;split
  ·unfold eG;cases L.p<;>rfl
  rfl
 refine⟨?_,(JB L bs).2.2⟩;show(bC (dB (aP L bs) bs)).u=_;rw[e];show(if bs=[]then(aP L bs).u+1 else 0)=_;rw[hu]
def Still(L:Lk)(bs:List Cl):Prop:=(aP L bs).k=0\/(if bs=[]then L.u+1 else 0)<L.q
theorem Hr.step{fK:Nat->Nat->List Rw}(h:Hr q T0 L ci run D)(hx:x<2)(hw:Wx q cr db L ci run D)(s:Ws q cr db L ci run D x (aa (L x) (aK (ci x (D x)))) fK run' D')(hD:D' x=D x+1)(hD1:D' (1-x)=D (1-x))(hT:T0<=D x):
  Hr q T0 (ii L x (aa (L x) (aK (ci x (D x))))) fK run' D'/\(Still (L x) (aK (ci x (D x)))\/(T0≠0/\D x<T0+q)):=by
 obtain⟨u1,q1⟩:=K8 (L x) (aK (ci x (D x)));obtain⟨τ,t1,j,t2⟩:=h.a x hx;have u0:=h.u0 x hx;have hQ:=h.Q x hx;have ne:1-x≠x:=by lia
 have FD:∀r,r<2->r≠x->∃τ,T0<=τ/\Jd q fK run' D' r τ (λ_=>True)/\((τ=T0/\(T0=0->(L r).k=0))\/(L r).u+(τ:Int)+1=(D' r:Int)):=λr hr z=>by
  have er:r=1-x:=by lia
  subst er;obtain⟨τ',a1,a2,a3⟩:=h.a (1-x) hr;exact⟨τ',a1,s.gv τ' _ a2 trivial,by rw[hD1];exact a3⟩
 have hq1:1<=q:=by have:=hw.hq;have:=hw.h1;lia
 by_cases z:aK (ci x (D x))=[]
 ·have j':=s.tk τ _ j (λa ha=>by rw[z]at ha;cases ha);have l':=s.w.le hx j';rw[hD]at l';rw[if_pos z]at u1;have hk:(aP (L x) (aK (ci x (D x)))).k=(L x).k:=by rw[z];rfl
  refine⟨⟨λr hr=>?_,λr hr=>?_,λr hr=>?_⟩,?_⟩
  ·by_cases y:r=x
   ·rw[y,aJ,q1];exact hQ
   rw[aN y];exact h.Q r hr
  ·by_cases y:r=x
   ·rw[y,aJ,u1];lia
   rw[aN y];exact h.u0 r hr
  ·by_cases y:r=x
   ·subst y;rw[aJ];refine⟨τ,t1,j',?_⟩;rcases t2 with⟨y1,y2⟩|y
    ·refine .inl ⟨y1,λw=>?_⟩;have k0:=y2 w;rw[(jH (.inl (by rw[hk];exact k0))).1];show(aP (L r) (aK (ci r (D r)))).k=0;rw[hk];exact k0
    right;rw[u1,hD];lia
   rw[aN y];exact FD r hr y
  unfold Still;rw[if_pos z,hk,hQ];rcases t2 with⟨y1,y2⟩|y
  ·by_cases w:T0=0
   ·exact .inl (.inl (y2 w))
   exact .inr ⟨w,by lia⟩
  exact .inl (.inr (by lia))
 rw[if_neg z]at u1;refine⟨⟨λr hr=>?_,λr hr=>?_,λr hr=>?_⟩,?_⟩
 ·by_cases y:r=x
  ·rw[y,aJ,q1];exact hQ
  rw[aN y];exact h.Q r hr
 ·by_cases y:r=x
  ·rw[y,aJ,u1];exact Int.le_refl _
  rw[aN y];exact h.u0 r hr
 ·by_cases y:r=x
  ·subst y;rw[aJ];exact⟨D r,hT,s.sr _ trivial,.inr (by rw[u1,hD];lia)⟩
  rw[aN y];exact FD r hr y
 exact .inl (.inr (by rw[if_neg z,hQ];lia))
structure Bc(q T1:Nat)(β:Nat->Int)(L:Nat->Lk)(ci:Nat->Nat->List Rw)(run D:Nat->Nat):Prop where
 b:∀r,r<2->(L r).b=β r
 c:∀r,r<2->(L r).k=β (1-r)\/Jd q ci run D r T1 (λa=>a.b=β (1-r))
 u:∀r,r<2->((L r).p≠none/\(L r).k=β (1-r))\/(L (1-r)).k≠β r\/((L (1-r)).k=β r/\∃τ,τ<=T1+q/\Jd q ci run D r τ (λa=>a.k=β r/\a.b=β (1-r)))
theorem Bc.step{fK:Nat->Nat->List Rw}(h:Bc q T1 β L ci run D)(hx:x<2)(s:Ws q cr db L ci run D x (aa (L x) (aK (ci x (D x)))) fK run' D')(st:Still (L x) (aK (ci x (D x))))(hk:(L x).k<=(L (1-x)).b)(hr:∀a∈aK (ci x (D x)),a.b<=(L (1-x)).b):
  Bc q T1 β (ii L x (aa (L x) (aK (ci x (D x))))) fK run' D':=by
 have ne:1-x≠x:=by lia
 have Sv:1-x<2:=by lia
 have e1:1-(1-x)=x:=by lia
 obtain⟨eA,_⟩:=jH st;obtain⟨b1,k1,k2,_,_⟩:=tR (aK (ci x (D x))) (L x);have bs:=h.b (1-x) Sv;rw[bs]at hk hr;have k3:=Ap (aK (ci x (D x))) (L x) hk hr;have ab:(aa (L x) (aK (ci x (D x)))).b=β x:=by rw[eA];show(aP _ _).b=_;rw[b1];exact h.b x hx
 have ak:(aa (L x) (aK (ci x (D x)))).k=(aP (L x) (aK (ci x (D x)))).k:=by rw[eA]
 have apv:(aa (L x) (aK (ci x (D x)))).p=(aP (L x) (aK (ci x (D x)))).p:=by rw[eA]
 have keep:(L x).k=β (1-x)->(aa (L x) (aK (ci x (D x)))).k=β (1-x):=λz=>by rw[ak];lia
 have got:(∃a∈aK (ci x (D x)),a.b=β (1-x))->(aa (L x) (aK (ci x (D x)))).k=β (1-x):=λ⟨a,ha,hb⟩=>by have:=k2 a ha;rw[ak];lia
 refine⟨λr EZ=>?_,λr EZ=>?_,λr EZ=>?_⟩
 ·by_cases z:r=x
  ·rw[z,aJ];exact ab
  rw[aN z];exact h.b r EZ
 ·by_cases z:r=x
  ·subst z;rw[aJ];rcases h.c r EZ with y|y
   ·exact .inl (keep y)
   by_cases w:∃a∈aK (ci r (D r)),a.b=β (1-r)
   ·exact .inl (got w)
   exact .inr (s.tk _ _ y λa ha hb=>w ⟨a,ha,hb⟩)
  have er:r=1-x:=by lia
  subst er;rw[aN ne,e1];rcases h.c (1-x) EZ with y|y
  ·rw[e1]at y;exact .inl y
  rw[e1]at y;exact .inr (s.gv _ _ y ab)
 by_cases z:r=x
 ·subst z;rw[aJ,aN ne];rcases h.u r EZ with⟨y1,y2⟩|y|⟨y,τ,t1,j⟩
  ·refine .inl ⟨?_,keep y2⟩;rw[apv,(iQ _ _ y1 λa ha=>by rw[y2];exact hr a ha).p];exact y1
  ·exact .inr (.inl y)
  by_cases w:∃a∈aK (ci r (D r)),a.k=β r/\a.b=β (1-r)
  ·obtain⟨a,ha,w1,w2⟩:=w;refine .inl ⟨?_,got ⟨a,ha,w2⟩⟩;rw[apv];exact Gf _ _ (β (1-r)) a hk hr ha w2 (by rw[w1];exact(h.b r EZ).symm)
  exact .inr (.inr ⟨y,τ,t1,s.tk _ _ j λa ha hb=>w ⟨a,ha,hb⟩⟩)
 have er:r=1-x:=by lia
 subst er;rw[aN ne,e1,aJ];rcases h.u (1-x) EZ with y|y|⟨y,τ,t1,j⟩
 ·rw[e1]at y;exact .inl y
 ·rw[e1]at y;by_cases w:(aa (L x) (aK (ci x (D x)))).k=β (1-x)
  ·refine .inr (.inr ⟨w,D x,?_,s.ss _ ⟨w,ab⟩⟩);rcases h.c x hx with v|v
   ·exact absurd v y
   exact s.lx _ _ v
  exact .inr (.inl w)
 rw[e1]at y j;exact .inr (.inr ⟨keep y,τ,t1,s.gv _ _ j ⟨keep y,ab⟩⟩)
theorem Bc.start(hb:∀r,r<2->(L r).b=β r)(hD:∀r,r<2->D r=T1):Bc q T1 β L ci run D:=by
 have now:∀r,r<2->∀φ,Jd q ci run D r T1 φ:=λr hr φ=>Jn.now (by rw[hD (1-r) (by lia)];exact le_refl _);refine⟨hb,λr hr=>.inr (now r hr _),λr hr=>?_⟩;by_cases z:(L (1-r)).k=β r
 ·exact .inr (.inr ⟨z,T1,by lia,now r hr _⟩)
 exact .inr (.inl z)
theorem Bc.up(h:Bc q T1 β L ci run D)(hw:Wx q cr db L ci run D)(hD:∀r,r<2->T1+2*q<D r):∀r,r<2->(L r).p≠none/\(L r).k=β (1-r)/\(L r).b=β r:=by
 have hk:∀r,r<2->(L r).k=β (1-r):=λr hr=>by
  rcases h.c r hr with y|y
  ·exact y
  have:=hw.le hr y;have:=hD r hr;lia
 intro r hr;rcases h.u r hr with y|y|⟨_,τ,t1,j⟩
 ·exact⟨y.1,y.2,h.b r hr⟩
 ·have:=hk (1-r) (by lia);rw[show 1-(1-r)=r by lia]at this;exact absurd this y
 have:=hw.le hr j;have:=hD r hr;lia
end
theorem Gg:∀(es:List Ev)(A:Wt)(x:Pr),A.p=some x->(∀e∈es,∃xs,e=.took xs)->(yl A es).k x=A.k x+es.length
 |[],_,_,_,_=>rfl
 |e::r,A,x,hp,h=>by
  obtain⟨xs,rfl⟩:=h e mem_cons_self;have es:gM A (.took xs)=⟨A.p,λP=>if P=x then A.k x+1 else A.k P,A.u⟩:=by unfold gM;simp only;rw[hp]
  have i:=Gg r (gM A (.took xs)) x (by rw[es];exact hp) λe he=>h e (mem_cons_of_mem _ he);show(yl (gM A (.took xs)) r).k x=_;rw[i,es];show(if x=x then A.k x+1 else A.k x)+r.length=_;rw[if_pos rfl,length_cons];lia
def Sw(β:Nat->Int)(G:Gh)(s:Nat)(P:Pr):Cl->Prop:=λa=>a.b=β s/\a.k=β (1-s)/\a.n=((G.O s P:Nat):Int)%97/\a.xs≠[]
def PZ(β:Nat->Int)(G:Gh)(s:Nat)(P:Pr):Cl->Prop:=λa=>a.b=β (1-s)/\a.k=β s/\a.c=((G.K (1-s) P:Nat):Int)%97
def Ph(q:Nat)(ci:Nat->Nat->List Rw)(run D:Nat->Nat)(β:Nat->Int)(G:Gh)(P:Pr)(s τ:Nat):Prop :=
 G.O s P=(G.W s P).length\/(G.K (1-s) P=G.O s P/\G.O s P<(G.W s P).length/\Jd q ci run D (1-s) τ (Sw β G s P))\/(G.K (1-s) P=G.O s P+1/\Jd q ci run D s τ (PZ β G s P))
def YA(β:Nat->Int)(L:Nat->Lk):Prop:=∀r,r<2->(L r).p≠none/\(L r).k=β (1-r)/\(L r).b=β r
section
variable{q cr:Nat}{ci fK:Nat->Nat->List Rw}{run:Nat->Nat}{x τ:Nat}{G G':Gh}{P:Pr}
theorem Gi(up:YA β L)(hx:x<2)(st:Still (L x) bs)(hr:∀a∈bs,a.b<=(L (1-x)).b):rV (L x) (aP (L x) bs)/\(aa (L x) bs).p=(L x).p/\(aa (L x) bs).k=β (1-x)/\(aa (L x) bs).b=β x:=by
 obtain⟨u1,u2,u3⟩:=up x hx;obtain⟨_,_,v3⟩:=up (1-x) (by lia);have sy:=iQ bs (L x) u1 λa ha=>by rw[u2,<-v3];exact hr a ha
 obtain⟨eA,_⟩:=jH st;rw[eA];exact⟨sy,sy.p,sy.k.trans u2,sy.b.trans u3⟩
theorem YA.step(up:YA β L)(hx:x<2)(st:Still (L x) bs)(hr:∀a∈bs,a.b<=(L (1-x)).b):YA β (ii L x (aa (L x) bs)):=by
 obtain⟨_,a1,a2,a3⟩:=Gi up hx st hr;intro r EZ;by_cases z:r=x
 ·rw[z,aJ];exact⟨by rw[a1];exact(up x hx).1,a2,a3⟩
 rw[aN z];exact up r EZ
theorem Ph.step(hx:x<2)(hs:s<2)(h:Ph q ci run D β G P s τ)(ws:Ws q cr db L ci run D x (aa (L x) (aK (ci x (D x)))) fK run' D')(up:YA β L)(st:Still (L x) (aK (ci x (D x))))(hr:∀a∈aK (ci x (D x)),a.b<=(L (1-x)).b)(en:En G x (L x))(Ss:En G' x (aa (L x) (aK (ci x (D x)))))(rel:Rel G)(aAr:Rel G'){b:Int}(gr:kM x b G G')(tr:qb (G.W (1-x)) (wt G x (L x)) (bN (L x) (aK (ci x (D x)))).ev (wt G' x (aa (L x) (aK (ci x (D x))))))(DN:(L x).ev=[])(hP:∀r,r<2->pr r (β r) (β (1-r))=P)(Fh:∀xs∈G.W s P,xs≠[]):
  ∃τ',Ph q fK run' D' β G' P s τ'/\((G'.O s P=G.O s P/\G'.K (1-s) P=G.K (1-s) P/\τ'=τ)\/(G'.O s P+G'.K (1-s) P=G.O s P+G.K (1-s) P+1/\τ'=D x/\D x<=τ+q)):=by
 have ne:1-x≠x:=by lia
 have Sv:1-x<2:=by lia
 have e1:1-(1-x)=x:=by lia
 obtain⟨sy,a1,a2,a3⟩:=Gi up hx st hr;obtain⟨u1,u2,u3⟩:=up x hx;obtain⟨_,v2,v3⟩:=up (1-x) Sv;rw[e1]at v2;have EZ:∀a∈aK (ci x (D x)),a.b<=(L x).k:=λa ha=>by rw[u2,<-v3];exact hr a ha
 obtain⟨eA,eV⟩:=jH st;have p1:pr x (L x).b (L x).k=P:=by rw[u2,u3];exact hP x hx
 have p2:pr x (aa (L x) (aK (ci x (D x)))).b (aa (L x) (aK (ci x (D x)))).k=P:=by rw[a2,a3];exact hP x hx
 have o1:=en.o;have k1:=en.t;have c1:=en.p;rw[p1]at o1 k1 c1;have o2:=Ss.o;have k2:=Ss.t;have c2:=Ss.p;have w2:=Ss.ow;rw[p2]at o2 k2 c2 w2;have eW:=gr.w;rw[eW]at c2 w2;have epc:(aa (L x) (aK (ci x (D x)))).cE=(aP (L x) (aK (ci x (D x)))).cE:=by rw[eA]
 obtain⟨xp,hxp⟩:∃xp,(L x).p=some xp:=by
  cases e:(L x).p with
  |none=>exact absurd e u1
  |some y=>exact⟨y,rfl⟩
 have exP:xp=P:=by have:=(en.up xp hxp).1;rw[p1]at this;exact this
 obtain⟨es,Uj,es2⟩:=sy.ev;rw[DN,List.nil_append]at Uj;have kk:G'.K x P=G.K x P+(aP (L x) (aK (ci x (D x)))).ev.length:=by have t2:=tr.ok.2;rw[eV,Uj]at t2;have:=Gg es (wt G x (L x)) P (by rw[<-exP];exact hxp) es2;rw[t2]at this;rw[Uj];exact this
 by_cases z:s=x
 ·subst z;have gk:=gr.k (1-s) ne;have hK:G'.K (1-s) P=G.K (1-s) P:=by rw[gk]
  have om:=gr.om P;obtain⟨r1,r2,r3⟩:=rel s hs P;obtain⟨Xs,Xt,r3'⟩:=aAr s hs P;rw[hK]at Xs Xt r3';rw[eW]at r3';have U3:G'.O s P<(G.W s P).length->Sw β G' s P (b6 (aa (L s) (aK (ci s (D s))))):=λeI=>by
   refine⟨a3,a2,o2,?_⟩;show(aa (L s) (aK (ci s (D s)))).cE.headD []≠[];rw[c2];have:((G.W s P).drop (G'.O s P)).headD []=(G.W s P)[G'.O s P]:=by rw[List.drop_eq_getElem_cons eI];rfl
   rw[this];exact Fh _ (List.getElem_mem eI)
  rcases h with y|⟨y1,y2,j⟩|⟨y1,j⟩
  ·exact⟨τ,.inl (by rw[eW];lia),.inl ⟨by lia,hK,rfl⟩⟩
  ·have eO:G'.O s P=G.O s P:=(by lia);refine⟨τ,.inr (.inl ⟨by rw[hK,y1,eO],by rw[eW,eO];exact y2,?_⟩),.inl ⟨eO,hK,rfl⟩⟩;refine ws.gv τ _ ?_ (U3 (by lia));refine Jn.mono j λa ha=>?_;unfold Sw at ha ⊢;rw[eO];exact ha
  by_cases w:G'.O s P=G.O s P
  ·refine⟨τ,.inr (.inr ⟨by rw[hK,y1,w],?_⟩),.inl ⟨w,hK,rfl⟩⟩;have j':=ws.tk τ _ j λa ha hc=>by
    obtain⟨q1,q2,q3⟩:=hc;have hlp:(L s).cE≠[]:=λz=>by rw[c1]at z;have:=congrArg List.length z;rw[List.length_drop]at this;have z0:([]:List (List Int)).length=0:=rfl;lia
    have:=rW _ (L s) a u1 EZ ha (by rw[u2];exact q1) (by rw[u3];exact q2) hlp (by rw[q3,o1,y1];lia);rw[<-epc,c2,c1,List.length_drop,List.length_drop]at this;lia
   refine Jn.mono j' λa ha=>?_;unfold PZ at ha ⊢;rw[hK];exact ha
  have eO:G'.O s P=G.O s P+1:=by lia
  have lx:=ws.lx _ _ j;refine⟨D s,?_,.inr ⟨by lia,rfl,lx⟩⟩;by_cases v:G'.O s P=(G.W s P).length
  ·exact .inl (by rw[eW];exact v)
  exact .inr (.inl ⟨by lia,by rw[eW];lia,ws.ss _ (U3 (by lia))⟩)
 have Q0:s=1-x:=by lia
 subst Q0;have hO:G'.O (1-x) P=G.O (1-x) P:=by rw[gr.o (1-x) ne]
 rw[e1];obtain⟨r1,r2,r3⟩:=rel (1-x) hs P;obtain⟨Xs,Xt,r3'⟩:=aAr (1-x) hs P;rw[e1]at r1 r2 r3 Xs Xt r3';rw[hO]at Xs Xt;rw[eW]at r3';unfold Ph at h;rw[e1]at h;have count:PZ β G' (1-x) P (b6 (aa (L x) (aK (ci x (D x))))):=by unfold PZ;rw[e1];exact⟨a3,a2,k2⟩
 rcases h with y|⟨y1,y2,j⟩|⟨y1,j⟩
 ·exact⟨τ,.inl (by rw[hO,eW];exact y),.inl ⟨hO,by lia,rfl⟩⟩
 ·by_cases w:G'.K x P=G.K x P
  ·refine⟨τ,.inr (.inl ⟨by rw[e1,w,y1,hO],by rw[hO,eW];exact y2,?_⟩),.inl ⟨hO,w,rfl⟩⟩;have j':=ws.tk τ _ j λa ha hc=>by obtain⟨q1,q2,q3,q4⟩:=hc;have:=uc _ (L x) a u1 EZ ha (by rw[u2];exact q1) (by rw[u3,q2,e1]) q4 (by rw[q3,k1,y1]);rw[DN]at this;have z0:([]:List Ev).length=0:=rfl;lia
   rw[e1];refine Jn.mono j' λa ha=>?_;unfold Sw at ha ⊢;rw[hO];exact ha
  have eK:G'.K x P=G.K x P+1:=by lia
  have lx:=ws.lx _ _ j;exact⟨D x,.inr (.inr ⟨by rw[e1];lia,ws.ss _ count⟩),.inr ⟨by lia,rfl,lx⟩⟩
 have eK:G'.K x P=G.K x P:=by lia
 refine⟨τ,.inr (.inr ⟨by rw[e1,eK,y1,hO],?_⟩),.inl ⟨hO,eK,rfl⟩⟩;refine ws.gv τ _ ?_ count;refine Jn.mono j λa ha=>?_;unfold PZ at ha ⊢;rw[e1]at ha ⊢;rw[eK];exact ha
end
open Classical in
noncomputable def jn(Ep:Nat->Hp):Hp:=λa=>if h:∃i,Ep i a≠none then Ep (Classical.choose h) a else none
def Dj(Ep:Nat->Hp):Prop:=∀i j a,Ep i a≠none->Ep j a≠none->i=j
section
variable{a:Addr}{o:HO}
theorem aT{h:Hp}(e:h a=some o):h a≠none:=λz=>by rw[e]at z;cases z
theorem DR(d:Dj Ep)(h:Ep i a=some o):jn Ep a=some o:=by have e:∃i,Ep i a≠none:=⟨i,aT h⟩;unfold jn;rw[dif_pos e,d _ _ a (Classical.choose_spec e) (aT h)];exact h
theorem U4(h:jn Ep a=some o):∃i,Ep i a=some o:=by
 unfold jn at h;split at h
 ·exact⟨_,h⟩
 cases h
theorem U5(h:jn Ep a=none):Ep i a=none:=Classical.byContradiction λz=>by have e:∃i,Ep i a≠none:=⟨i,z⟩;unfold jn at h;rw[dif_pos e]at h;exact Classical.choose_spec e h
end
structure Tj(C:Addr)(B H:Hp)(Ep:Nat->Hp)(x tA pA:Nat->Addr)(L:Nat->Lk)(ρ:Addr->Nat):Prop where
 tw:Tw C B H (jn Ep) x tA pA L ρ
 dj:Dj Ep
section
variable{x:Nat->Addr}{a:Addr}{o:HO}
theorem Tw.sub(h:Tw C B H E x tA pA L ρ)(s:aI E' E):Tw C B H E' x tA pA L ρ:=by
 have k:∀a,E' a≠none->E a≠none:=λa ha=>by obtain⟨o,e⟩:=wR ha;exact aT (s _ _ e)
 exact⟨h.sb,h.lk,h.rx,h.rt,h.rp,s.trans h.ee,λa ha=>h.eb a (k a ha),λa ha=>h.er a (k a ha),λa o e=>h.en a o (s _ _ e)⟩
theorem Tj.at_(h:Tj C B H Ep x tA pA L ρ)(e:Ep i a=some o):H a=some o:=h.tw.ee _ _ (DR h.dj e)
theorem Tj.sb(h:Tj C B H Ep x tA pA L ρ):aI B H:=h.tw.sb
theorem Tj.lk(h:Tj C B H Ep x tA pA L ρ)(hs:s<2):bh C B H (x s) (tA s) (pA s) (L s):=h.tw.lk s hs
theorem Tj.free(h:Tj C B H Ep x tA pA L ρ)(e:H a=none):Ep i a=none:=U5 (h.tw.ee.free e)
theorem Tj.chg(h:Tj C B H Ep x tA pA L ρ)(tw:Tw C B' H' E' x Sx Sy L' ρ')(si:aI Ei E')(nw:∀a,Ei a≠none->Ep i a≠none\/jn Ep a=none)(fr:∀a o,Ep i a=none->jn Ep a=some o->E' a=some o):Tj C B' H' (ii Ep i Ei) x Sx Sy L' ρ':=by
 have key:∀j a,j≠i->Ei a≠none->Ep j a≠none->False:=λj a n h1 h2=>(nw a h1).elim (λz=>n (h.dj j i a h2 z)) λz=>h2 (U5 z);refine⟨tw.sub λa o e=>?_,λj k a h1 h2=>?_⟩
 ·obtain⟨j,e⟩:=U4 e;by_cases z:j=i
  ·rw[z,aJ]at e;exact si _ _ e
  rw[aN z]at e;exact fr a o (Classical.byContradiction λy=>z (h.dj j i a (aT e) y)) (DR h.dj e)
 by_cases z:j=i<;>by_cases y:k=i
 ·rw[z,y]
 ·rw[z,aJ]at h1;rw[aN y]at h2;exact(key k a y h1 h2).elim
 ·rw[y,aJ]at h2;rw[aN z]at h1;exact(key j a z h2 h1).elim
 rw[aN z]at h1;rw[aN y]at h2;exact h.dj j k a h1 h2
theorem Tj.put(h:Tj C B H Ep x tA pA L ρ)(i:Nat)(ha:Ep i a≠none)(no:fq o):∃ρ',Tj C B (dl H a o) (ii Ep i (dl (Ep i) a o)) x tA pA L ρ':=by
 obtain⟨u,e⟩:=wR ha;obtain⟨ρ',t⟩:=h.tw.put (a:=a) (aT (DR h.dj e)) no;refine⟨ρ',h.chg t (λb v z=>?_) (λb hb=>?_) λb v z y=>?_⟩
 ·by_cases w:b=a
  ·rw[w,aA]at z;rw[w,aA];exact z
  rw[aE w]at z ⊢;exact DR h.dj z
 ·by_cases w:b=a
  ·rw[w];exact .inl ha
  rw[aE w]at hb;exact .inl hb
 rw[aE (λw=>ha (by rw[<-w];exact z))];exact y
theorem Tj.W6(h:Tj C B H Ep x tA pA L ρ)(i:Nat)(s:aI H H')(na:H a=none)(ea:H' a=some o)(no:fq o):∃ρ',Tj C B H' (ii Ep i (dl (Ep i) a o)) x tA pA L ρ':=by
 obtain⟨ρ',t⟩:=h.tw.W6 s na ea no;have ja:jn Ep a=none:=h.tw.ee.free na;refine⟨ρ',h.chg t (λb v z=>?_) (λb hb=>?_) λb v z y=>?_⟩
 ·by_cases w:b=a
  ·rw[w,aA]at z;rw[w,aA];exact z
  rw[aE w]at z ⊢;exact DR h.dj z
 ·by_cases w:b=a
  ·rw[w];exact .inr ja
  rw[aE w]at hb;exact .inl hb
 rw[aE (λw=>by rw[w,ja]at y;cases y)];exact y
theorem Tj.new(h:Tj C B H Ep x tA pA L ρ)(i:Nat)(na:H a=none)(no:fq o):∃ρ',Tj C B (dl H a o) (ii Ep i (dl (Ep i) a o)) x tA pA L ρ':=h.W6 i ((aI.refl _).new na) na aA no
theorem Tj.same(h:Tj C B H Ep x tA pA L ρ)(e:aI H H'):Tj C B H' Ep x tA pA L ρ:=⟨h.tw.same e,h.dj⟩
theorem Tj.re(h:Tj C B H Ep x tA pA L ρ)(hL:∀s,s<2->L' s=L s):Tj C B H Ep x tA pA L' ρ:=⟨h.tw.re hL,h.dj⟩
theorem Tj.grow(h:Tj C B H Ep x tA pA L ρ)(s:aI H H')(na:H a=none)(ea:H' a=some o):Tj C (dl B a o) H' Ep x tA pA L ρ/\aI B (dl B a o):=by obtain⟨t,s'⟩:=h.tw.grow s na ea;exact⟨⟨t,h.dj⟩,s'⟩
end
theorem fc(io:List (Key×V)):fq (.dK io):=⟨(λ_ z=>by cases z),(λ_ _ z=>by cases z)⟩
theorem tS(io:List (List Key×V)):fq (.dT io):=⟨(λ_ z=>by cases z),(λ_ _ z=>by cases z)⟩
structure As(ts:Ts):Prop where
 g:ou ts
 up:∀(i:Nat)(p q:Int×Int),ts[i]?=some p->ts[i+1]?=some q->p.1<q.1
def uD(K:W.Frag):Sp:=λvs H Q _=>∃(a:Addr)(ts:Ts),vs=[.ref a]/\EW K H a ts/\As ts/\Q .bw H
def Au(ts:Ts)(i:Nat):Int:=if i=0 then -1 else(ts.getD (i-1) (0,0)).1
theorem i8:aS ["turns","ahead","place","add"] ["turns"] (aG jm):=ac
theorem Bt(F:aO K mg "look_turns" jm)(T:Txt K mg t):Def P w K mg base 1 "look_turns" ["turns"] (uD K):=by
 refine F.def i8 (λ_ _ _ _ _ _=>ad λ_=>rfl) (λvs H Q E h=>?_) (λf cB A outer s H vs Q E hr h=>?_)
 ·obtain⟨a,ts,rfl,_⟩:=h;rfl
 obtain⟨a,ts,rfl,⟨wz,hA,ht⟩,g,q⟩:=h;refine⟨_,aC (bO (aZ zh (bP (bY K) (by rfl) T.gI boot_len (aB (pv 0) aD)) (aW T.yY) (af _))
   (aF (cV aw rfl rfl T.rF T.rG PySem.F.excBase_ValueError (aB (eY (bD aU (bD (cY (aW T.yY)) (bD aU iF)))) aD)))
   (aj))
  (aC (aX (i:=1) i8.nd rfl (Or.inl rfl) (FR ze aH))
  (aF (cO (OA aw) rfl (tE K (pv 0)) (iz K (i:=2) (j:=3) rfl i8.nd rfl rfl (Or.inl rfl) (Or.inl rfl))
   (aC (bO (fh (my lQ lQ (pv 1) (pv 2) (aW T.zR)))
    (aF (cV aw rfl rfl T.rF T.rG PySem.F.excBase_ValueError (aB (eY (bD aU (bD (cY (pv 2)) (bD aU (bD (cY (pv 1)) (bD aU iF)))))) aD)))
    (aj))
   (aC (bO (fh (my qL lQ aH (pv 3) (aW T.cQ)))
    (aF (cV aw rfl rfl T.rF T.rG PySem.F.excBase_ValueError (aB (eY (bD aU (bD (cY (pv 3)) iF))) aD)))
    (aj))
   (aF (aX (i:=1) i8.nd rfl (Or.inl rfl) (pv 2)))))))),?_⟩
 have gl:=g.g.len;refine⟨_,rfl,a,_,rfl,.inr hA,_,_,rfl,rfl,_,rfl,eZ (by rw[aL];lia) ?_⟩;refine⟨_,rfl,_,rfl,a,rfl,⟨_,hA⟩,?_⟩;refine vp (K:=K) (a:=a) (xs:=bB ts.length wz) (λi σ H'=>∃v2 v3:Option V,σ=[some (.ref a),some (.int (Au ts i)),v2,v3]/\H'=H) ⟨none,none,rfl,rfl⟩ (λi σ H' _ ⟨_,_,_,e⟩=>by rw[e];exact hA) ?_ ?_
 ·rintro i x σ H' hx ⟨v2,v3,rfl,rfl⟩;obtain⟨hi,rfl⟩:=tab_of hx;have e:ts[i]?=some ts[i]:=by simp[hi]
  generalize ts[i]=c at e;obtain⟨⟨p0,p1⟩,a0,a1⟩:=g.g.at_ c (mem_of_getElem? e);have h1:Au ts i<c.1:=by
   unfold Au;split
   ·lia
   rename_i z;have e1:ts[i-1]?=some (ts.getD (i-1) (0,0)):=(by rw[getD_eq_getElem?_getD,getElem?_eq_getElem (by lia)];rfl);exact g.up (i-1) _ _ e1 (by rw[show i-1+1=i by lia];exact e)
  have h2:Au ts (i+1)=c.1:=by unfold Au;rw[if_neg (Nat.succ_ne_zero _),Nat.add_sub_cancel,getD_eq_getElem?_getD,e];rfl
  refine kA (ht i c e) ?_;refine⟨_,rfl,_,rfl,_,_,rfl,rfl,_,rfl,eJ h1 ⟨_,_,rfl,rfl,_,rfl,jg p1 ?_⟩⟩;refine⟨_,rfl,_,_,rfl,rfl,_,rfl,eJ a0 ⟨_,_,rfl,rfl,_,rfl,jg (show c.2<97 by lia) ?_⟩⟩;exact⟨_,rfl,_,_,by rw[h2];rfl,rfl⟩
 rintro σ H' ⟨v2,v3,rfl,rfl⟩;exact q
structure Ea(cr:Int)(fs:Ft):Prop where
 g:Gc cr fs
 u:∀d∈fs,As d.2
def wW(K:W.Frag):Sp:=λvs H Q _=>∃(a:Addr)(fs:Ft)(cr:Int),vs=[.ref a,.int cr]/\lN K H a fs/\Ea cr fs/\Q .bw H
theorem wX:aS ["fate","late","delay","turns"] ["fate","late"] (aG lj):=ac
theorem Eb(F:aO K mg "look_fate" lj)(T:Txt K mg t)(oy:Def P w K mg base 1 "look_turns" ["turns"] (uD K)):Def P w K mg base 2 "look_fate" ["fate","late"] (wW K):=by
 refine F.def wX (λ_ _ _ _ _ _=>am λ_ _=>rfl) (λvs H Q E h=>?_) (λf cB A outer s H vs Q E hr h=>?_)
 ·obtain⟨a,fs,cr,rfl,_⟩:=h;rfl
 obtain⟨a,fs,cr,rfl,⟨nW,wz,hA,ht⟩,g,q⟩:=h;refine⟨_,aC (bO (aZ zh (bP (bY K) (by rfl) T.gI boot_len (aB (pv 0) aD)) (aW T.rD) (af _))
   (aF (cV aw rfl rfl T.rF T.rG PySem.F.excBase_ValueError (aB (eY (bD aU (bD (cY (aW T.rD)) (bD aU iF)))) aD)))
   (aj))
  (aF (cO (OA aw) rfl (tE K (pv 0)) (iz K (i:=2) (j:=3) rfl wX.nd rfl rfl (Or.inl rfl) (Or.inl rfl))
   (aC (bO (fh (my qL qL aH (pv 2) (pv 1)))
    (aF (cV aw rfl rfl T.rF T.rG PySem.F.excBase_ValueError (aB (eY (bD aU (bD (cY (pv 1)) (bD aU (bD (cY (pv 2)) iF))))) aD)))
    (aj))
   (aF (ax (aY (oy.mono (by decide)) hr (jB aw) (aB (pv 3) aD))))))),?_⟩
 have gl:=g.g.len;refine⟨_,rfl,a,_,rfl,.inr hA,_,_,rfl,rfl,_,rfl,eZ (by rw[aL];lia) ?_⟩;refine⟨_,rfl,a,rfl,⟨_,hA⟩,?_⟩;refine vp (K:=K) (a:=a) (xs:=bB fs.length nW) (λi σ H'=>∃v2 v3:Option V,σ=[some (.ref a),some (.int cr),v2,v3]/\H'=H) ⟨none,none,rfl,rfl⟩ (λi σ H' _ ⟨_,_,_,e⟩=>by rw[e];exact hA) ?_ ?_
 ·rintro i x σ H' hx ⟨v2,v3,rfl,rfl⟩;obtain⟨hi,rfl⟩:=tab_of hx;have e:fs[i]?=some fs[i]:=by simp[hi]
  generalize fs[i]=c at e;have hc:=mem_of_getElem? e;obtain⟨d0,d1,_⟩:=g.g.at_ c hc;refine kA (ht i c e).1 ?_;refine⟨_,rfl,_,_,rfl,rfl,_,rfl,eJ d0 ⟨_,rfl,_,_,rfl,rfl,_,rfl,jg d1 ?_⟩⟩;exact⟨_,rfl,wz i,c.2,rfl,(ht i c e).2,g.u c hc,_,_,rfl,rfl⟩
 rintro σ H' ⟨v2,v3,rfl,rfl⟩;exact q
def xj(K:W.Frag):Sp:=λvs H Q _=>∃(l a:Addr)(f:Nat->Int)(ts:Ts),vs=[.ref l,.ref a]/\ae K H l (dL 24 f)/\EW K H a ts/\ou ts/\∀(p:Addr)(H':Hp),aI H H'->H p=none->H' p=some (.lst (dL 24 (eX f ts)))->Q (.ref p) H'
theorem xk:aS ["cell","turns","signs","place","add"] ["cell","turns"] (aG wG):=ac
theorem Me(F:aO K mg "turned" wG)(T:Txt K mg t):Def P w K mg base 1 "turned" ["cell","turns"] (xj K):=by
 refine F.def xk (λ_ _ _ _ _ _=>am λ_ _=>rfl) (λvs H Q E h=>?_) (λf cB A outer s H vs Q E hr h=>?_)
 ·obtain⟨l,a,f,ts,rfl,_⟩:=h;rfl
 obtain⟨l,a,f,ts,rfl,hl,⟨wz,hA,ht⟩,g,q⟩:=h;refine⟨_,aC (aX (i:=2) xk.nd rfl (Or.inl rfl) (iC (fj K) (by rfl) T.rE boot_list (aB (pv 0) aD)))
  (aC (PS.Ck (cO PassesOwn.never rfl (tE K (pv 1)) (iz K (i:=3) (j:=4) rfl xk.nd rfl rfl (Or.inl rfl) (Or.inl rfl))
   (aF (oB (aQ cF (aQ bK (ai (aV K) (pv 2) (pv 3) (λ_ _=>rfl)) (pv 4)) (aW T.cQ)) (oA (pv 2) (pv 3) set_list)))))
  (aF (ah (pv 2)))),?_⟩
 refine⟨_,rfl,l,_,rfl,.inl hl,λr hr=>?_⟩;have s1:=(aI.refl H).new (o:=.lst (dL 24 f)) hr;refine⟨_,rfl,a,rfl,⟨_,s1.tup hA⟩,?_⟩;refine vp (K:=K) (a:=a) (xs:=bB ts.length wz) (λi σ H'=>∃v3 v4:Option V,σ=[some (.ref l),some (.ref a),some (.ref r),v3,v4]/\aI H H'/\H' r=some (.lst (dL 24 (eX f (ts.take i))))) ⟨none,none,rfl,s1,aA⟩ (λi σ H' _ ⟨_,_,_,s2,_⟩=>s2.tup hA) ?_ ?_
 ·rintro i x σ H' hx ⟨v3,v4,rfl,s2,NQ⟩;obtain⟨hi,rfl⟩:=tab_of hx;have e:ts[i]?=some ts[i]:=by simp[hi]
  generalize ts[i]=c at e;obtain⟨⟨p0,p1⟩,_⟩:=g.at_ c (mem_of_getElem? e);refine kA (s2.tup (ht i c e)) ?_;refine⟨_,rfl,_,rfl,r,_,_,_,rfl,rfl,ae.of NQ,So p0 (by lia),_,rfl,_,_,rfl,rfl,_,_,rfl,rfl,(by show(0:Int)<97;decide),?_⟩;refine⟨_,rfl,_,rfl,r,_,_,_,rfl,rfl,NQ,Sr p0 (by lia),?_⟩;refine⟨_,_,rfl,s2.put hr,?_⟩;rw[aA,take_succ e,MW];exact congrArg (λz=>some (HO.lst z)) (PM (by lia))
 rintro σ H' ⟨v3,v4,rfl,s2,NQ⟩;rw[aL,take_length]at NQ;exact⟨_,rfl,q r H' s2 hr NQ⟩
def zU(ks:List Int)(la:Int->Addr):List (Key×V):=ks.map λk=>(.inl k,.ref (la k))
theorem Gj{la:Int->Addr}{k:Int}:∀{ks:List Int},k∈ks->jC (zU ks la) (.inl k)=some (.ref (la k))
 |m::r,h=>by
  by_cases z:m=k
  ·subst z;exact qo rfl
  exact(kC (p:=(Sum.inl m,V.ref (la m))) (λy=>z (Sum.inl.inj y))).trans (Gj ((mem_cons.mp h).resolve_left (Ne.symm z)))
theorem Pa{la:Int->Addr}{k:Int}:∀{ks:List Int},k∉ks->jC (zU ks la) (.inl k)=none
 |[],_=>rfl
 |m::r,h=>(kC (p:=(Sum.inl m,V.ref (la m))) (λy=>h (by rw[Sum.inl.inj y];exact mem_cons_self))).trans (Pa λy=>h (mem_cons_of_mem _ y))
theorem Sz(ks:List Int)(la:Int->Addr)(k:Int):zx (zU ks la) (.inl k)=zU (ks.filter λm=>decide (m≠k)) la:=by
 unfold zx zU;rw[List.filter_map]
 congr 1
 apply List.filter_congr;intro m _;simp[Function.comp]
theorem aAt{ks:List Int}{k:Key}{v:V}(h:(zU ks la)[i]?=some (k,v)):∃m,ks[i]?=some m/\k=.inl m/\v=.ref (la m):=by
 unfold zU at h;rw[getElem?_map]at h;cases e:ks[i]? with
 |none=>rw[e]at h;cases h
 |some m=>rw[e]at h;cases h;exact⟨m,rfl,rfl,rfl⟩
theorem Pb(ks:List Int)(la:Int->Addr):(zU ks la).length=ks.length:=by unfold zU;rw[length_map]
theorem S3{a b c:V}:([("late",a),("asked",b),("coming",c)]:List (Str×V)).lookup ("late":Str)=some a:=rfl
theorem tT{a b c:V}:([("late",a),("asked",b),("coming",c)]:List (Str×V)).lookup ("coming":Str)=some c:=rfl
theorem Mf{a b c v:V}:dC "asked" v ([("late",a),("asked",b),("coming",c)]:List (Str×V))=([("late",a),("asked",v),("coming",c)]:List (Str×V)):=by unfold dC;rw[if_neg (by decide)];unfold dC;rw[if_pos (by decide)]
def fe(B E:Hp)(r:Addr)(rs:List Rw):Prop:=∃cs:Nat->Addr,E r=some (.lst (bB rs.length cs))/\∀i row,rs[i]?=some row->B (cs i)=some (.lst (dL 24 row.f))
structure dP(C:Addr)(B E:Hp)(T:Nat)(y dy d:Addr)(cr:Int)(ks:List Int)(la:Int->Addr)(ci:Nat->List Rw):Prop where
 at_:∃k,E y=some (.ins C dy [("late",.int cr),("asked",.int k),("coming",.ref d)])
 ox:E dy=some (.own y)
 dd:E d=some (.dK (zU ks la))
 nd:ks.Nodup
 inj:∀k∈ks,∀m∈ks,la k=la m->k=m
 ls:∀k∈ks,fe B E (la k) (ci k.toNat)
 k0:∀k∈ks,0<=k
 ky:∀j:Nat,T<=j->(j:Int)∉ks->ci j=[]
def iR(y dy d:Addr)(ks:List Int)(la:Int->Addr)(a:Addr):Prop:=a=y\/a=dy\/a=d\/∃m∈ks,a=la m
section
variable{T:Nat}{y dy d:Addr}{ks:List Int}{ci:Nat->List Rw}
theorem fe.mv{rs:List Rw}(h:fe B E r rs)(bb:aI B B')(k:∀o,E r=some o->E' r=some o):fe B' E' r rs:=by obtain⟨cs,h1,h2⟩:=h;exact⟨cs,k _ h1,λi row e=>bb _ _ (h2 i row e)⟩
theorem dP.mv(h:dP C B E T y dy d cr ks la ci)(bb:aI B B')(k:∀a o,iR y dy d ks la a->E a=some o->E' a=some o):dP C B' E' T y dy d cr ks la ci:=by obtain⟨a,e⟩:=h.at_;exact⟨⟨a,k _ _ (.inl rfl) e⟩,k _ _ (.inr (.inl rfl)) h.ox,k _ _ (.inr (.inr (.inl rfl))) h.dd,h.nd,h.inj,λm hm=>(h.ls m hm).mv bb λo=>k _ _ (.inr (.inr (.inr ⟨m,hm,rfl⟩))),h.k0,h.ky⟩
theorem dP.next(h:dP C B E T y dy d cr ks la ci):dP C B E (T+1) y dy d cr ks la ci:=⟨h.at_,h.ox,h.dd,h.nd,h.inj,h.ls,h.k0,λj hj=>h.ky j (by lia)⟩
theorem dP.has(h:dP C B E T y dy d cr ks la ci){a:Addr}(ha:iR y dy d ks la a):E a≠none:=by
 rcases ha with rfl|rfl|rfl|⟨m,hm,rfl⟩
 ·obtain⟨k,e⟩:=h.at_;exact aT e
 ·exact aT h.ox
 ·exact aT h.dd
 obtain⟨cs,e,_⟩:=h.ls m hm;exact aT e
theorem JC{p:Addr}{rs:List Rw}{row:Rw}(h:fe B E r rs)(hp:B p=some (.lst (dL 24 row.f))):∃cs:Nat->Addr,E r=some (.lst (bB rs.length cs))/\∀E':Hp,E' r=some (.lst (bB rs.length cs++[.ref p]))->fe B E' r (rs++[row]):=by
 obtain⟨cs,g1,g2⟩:=h;refine⟨cs,g1,λE' e=>⟨λi=>if i=rs.length then p else cs i,?_,λj aDx hj=>?_⟩⟩
 ·rw[e,dM,length_append];rfl
 show B (if j=rs.length then p else cs j)=_;by_cases z:j<rs.length
 ·rw[if_neg (by lia)];rw[getElem?_append_left z]at hj;exact g2 j aDx hj
 have eI:=(List.getElem?_eq_some_iff.mp hj).1;rw[length_append]at eI;have e:j=rs.length:=by simp at eI;lia
 rw[e,getElem?_append_right (le_refl _),Nat.sub_self]at hj;cases hj;rw[if_pos e];exact hp
def atK(la:Int->Addr)(k:Int)(e:Addr):Int->Addr:=λm=>if m=k then e else la m
theorem dP.key(h:dP C B E T y dy d cr ks la ci)(hj:T<=j)(hn:(j:Int)∉ks){e:Addr}(he:E e=none):dP C B (dl (dl E e (.lst [])) d (.dK (zU ks la++[(.inl (j:Int),.ref e)]))) T y dy d cr (ks++[(j:Int)]) (atK la j e) ci:=by
 have no:∀a,iR y dy d ks la a->a≠e:=λa ha z=>h.has ha (by rw[z];exact he);have nk:∀m∈ks,m≠(j:Int):=λm hm z=>hn (z▸hm);obtain⟨a0,ea⟩:=h.at_;have nyd:y≠d:=λz=>by rw[z,h.dd]at ea;cases ea
 have ndd:dy≠d:=λz=>by have:=h.ox;rw[z,h.dd]at this;cases this
 have nld:∀m∈ks,la m≠d:=λm hm z=>by obtain⟨cs,g,_⟩:=h.ls m hm;rw[z,h.dd]at g;cases g
 have ned:e≠d:=Ne.symm (no d (.inr (.inr (.inl rfl))));have ek:atK la j e (j:Int)=e:=if_pos rfl;have em:∀m∈ks,atK la j e m=la m:=λm hm=>if_neg (nk m hm);refine⟨⟨a0,by rw[aE nyd,aE (no y (.inl rfl))];exact ea⟩,by rw[aE ndd,aE (no dy (.inr (.inl rfl)))];exact h.ox,?_,?_,λk hk m hm z=>?_,λk hk=>?_,λk hk=>?_,λi hi Xo=>?_⟩
 ·rw[aA];unfold zU;rw[map_append]
  congr 3
  ·exact List.map_congr_left λm hm=>by rw[em m hm]
  show _=[(Sum.inl (j:Int),V.ref (atK la j e (j:Int)))];rw[ek]
 ·rw[List.nodup_append];exact⟨h.nd,by simp,λa ha b hb z=>nk a ha (by rw[z];simpa using hb)⟩
 ·rcases mem_append.mp hk with k1|k1<;>rcases mem_append.mp hm with m1|m1
  ·rw[em k k1,em m m1]at z;exact h.inj k k1 m m1 z
  ·rw[em k k1,mem_singleton.mp m1,ek]at z;exact absurd z (no _ (.inr (.inr (.inr ⟨k,k1,rfl⟩))))
  ·rw[em m m1,mem_singleton.mp k1,ek]at z;exact absurd z.symm (no _ (.inr (.inr (.inr ⟨m,m1,rfl⟩))))
  rw[mem_singleton.mp k1,mem_singleton.mp m1]
 ·rcases mem_append.mp hk with k1|k1
  ·rw[em k k1];exact(h.ls k k1).mv (aI.refl _) λo g=>by rw[aE (nld k k1),aE (no _ (.inr (.inr (.inr ⟨k,k1,rfl⟩))))];exact g
  rw[mem_singleton.mp k1,ek,Int.toNat_natCast,h.ky j hj hn];exact⟨λ_=>0,by rw[aE ned,aA];rfl,λi row g=>by cases g⟩
 ·rcases mem_append.mp hk with k1|k1
  ·exact h.k0 k k1
  rw[mem_singleton.mp k1];exact Int.natCast_nonneg _
 exact h.ky i hi λz=>Xo (mem_append_left _ z)
theorem dP.cell(h:dP C B E T y dy d cr ks la ci)(hk:(j:Int)∈ks){p:Addr}{row:Rw}(hp:B p=some (.lst (dL 24 row.f))):∃cs:Nat->Addr,E (la j)=some (.lst (bB (ci j).length cs))/\dP C B (dl E (la j) (.lst (bB (ci j).length cs++[.ref p]))) T y dy d cr ks la (ua ci j row):=by
 obtain⟨cs,g1,g2⟩:=JC (h.ls j hk) hp;rw[Int.toNat_natCast]at g1 g2;obtain⟨a0,ea⟩:=h.at_;have n1:y≠la j:=λz=>by rw[z,g1]at ea;cases ea
 have n2:dy≠la j:=λz=>by have:=h.ox;rw[z,g1]at this;cases this
 have n3:d≠la j:=λz=>by have:=h.dd;rw[z,g1]at this;cases this
 refine⟨cs,g1,⟨a0,by rw[aE n1];exact ea⟩,by rw[aE n2];exact h.ox,by rw[aE n3];exact h.dd,h.nd,h.inj,λk Rv=>?_,h.k0,λi hi hn=>?_⟩
 ·by_cases z:k=(j:Int)
  ·subst z;rw[Int.toNat_natCast];show fe B _ (la j) (if j=j then ci j++[row]else ci j);rw[if_pos rfl];exact g2 _ aA
  have k0:=h.k0 k Rv;show fe B _ (la k) (if k.toNat=j then ci k.toNat++[row]else ci k.toNat);rw[if_neg (by lia)];exact(h.ls k Rv).mv (aI.refl _) λo g=>by rw[aE (λw=>z (h.inj k Rv j hk w))];exact g
 have:i≠j:=λz=>hn (by rw[z];exact hk);show(if i=j then ci i++[row]else ci i)=[];rw[if_neg this];exact h.ky i hi hn
end
def ym(C:Addr):Sp:=λvs H Q _=>∃(y dy:Addr)(cr:Int),vs=[.ref y,.int cr]/\1<=cr/\cr<=6/\H y=some (.ins C dy [])/\H dy=some (.own y)/\y≠dy /\
 ∀(d:Addr)(H':Hp),H d=none->H' y=some (.ins C dy [("late",.int cr),("asked",.int 0),("coming",.ref d)])->H' d=some (.dK [])->(∀a o,a≠y->H a=some o->H' a=some o)->Q .bw H'
theorem Gk:aS ["self","late"] ["self","late"] (aG iK):=ac
theorem Gm(T:Txt K mg t)(F:jz K "__init__" "Air.__init__" iK t.rA fd)(gK:Def P w K mg base 1 "look_late" ["late"] (oW t.BadMeasure)):
  b7 P w K mg base (iE P w) 2 t.rA fd ["self","late"] (ym t.Air)/\Binds K fd ["self","late"] []:=by
 refine⟨F.qY Gk (λvs H Q E h=>?_) (λf cB A outer s H vs Q E hr h=>?_),F.binds λ_ _ _ _ _ _=>am λ_ _=>rfl⟩
 ·obtain⟨x,dx,cr,rfl,_⟩:=h;rfl
 obtain⟨x,dx,cr,rfl,l0,l1,hx,hdx,nxd,q⟩:=h;refine⟨_,aC (ax (aY (gK.mono (by decide)) hr (jB aw) (aB (pv 1) aD))) (aC (b8 K (pv 0) (pv 1) (by rfl)) (aC (b8 K (pv 0) aH (by rfl)) (aF (b8 K (pv 0) OQ (by rfl))))),?_⟩;refine⟨_,rfl,cr,rfl,dJ (by lia) (by lia),λ_=>?_,λz=>absurd ⟨l0,l1⟩ z⟩;refine⟨_,rfl,_,rfl,x,t.Air,dx,[],rfl,hx,T.AU,T.Kp,by show 0<1000;decide,?_⟩;have p1:dC "late" (.int cr) []=[(("late":Str),V.int cr)]:=rfl;rw[p1];refine⟨_,rfl,x,t.Air,dx,_,rfl,aA,T.AU,T.F7,by show 1<1000;decide,?_⟩;have p2:dC "asked" (.int 0) [(("late":Str),V.int cr)]=([("late",V.int cr),("asked",V.int 0)]:List (Str×V)):=by unfold dC;rw[if_neg (by decide)];rfl
 rw[p2,gR];intro d hd;have ndx:d≠x:=λz=>by rw[z,aA]at hd;cases hd
 have hdH:H d=none:=by rw[aE ndx]at hd;exact hd
 refine⟨_,rfl,x,t.Air,dx,[("late",V.int cr),("asked",V.int 0)],rfl,by rw[aE (Ne.symm ndx)];exact aA,T.AU,T.nK,by show 2<1000;decide,?_⟩;have p3:dC "coming" (.ref d) [(("late":Str),V.int cr),("asked",V.int 0)]=([("late",V.int cr),("asked",V.int 0),("coming",.ref d)]:List (Str×V)):=by unfold dC;rw[if_neg (by decide)];unfold dC;rw[if_neg (by decide)];rfl
 rw[p3];refine q d _ hdH aA (by rw[aE ndx];exact aA) λa o na e=>?_;rw[aE na,aE (λz=>by rw[z,hdH]at e;cases e),aE na];exact e
theorem Pc{b:Cl}(h:fo b):DH 24 ((List.range 24).map (bE b)):=by have c:=wO h;exact⟨by simp,λv hv=>by obtain⟨i,hi,rfl⟩:=List.mem_map.mp hv;exact c.b i (List.mem_range.mp hi)⟩
theorem Gn{ci:Nat->List Rw}{tick:Nat}{b:Cl}:∀(fs:Ft)(j:Nat),(cN ci tick b fs j).length<=(ci j).length+fs.length:=by
 intro fs
 induction fs generalizing ci with
 |nil=>intro j;exact le_refl _
 |cons d r ih =>
  intro j;have:=ih (ci:=ua ci (tick+d.1.toNat) (fL b d.2)) j;have e:(ua ci (tick+d.1.toNat) (fL b d.2) j).length<=(ci j).length+1:=by
   unfold ua;split
   ·rw[length_append];exact le_refl _
   exact le_succ _
  show(cN (ua ci (tick+d.1.toNat) (fL b d.2)) tick b r j).length<=_;rw[length_cons];lia
inductive K9(K:W.Frag)(C CL:Addr)(vs:List V)(H:Hp)(Q:VK)(_:XK):Prop
 |mk (B E:Hp) (x tA pA:Nat->Addr) (L:Nat->Lk) (ρ:Addr->Nat) (T:Nat) (y dy d l a:Addr) (cr:Int) (ks:List Int) (la:Int->Addr) (ci:Nat->List Rw) (b:Cl) (fs:Ft) (_:vs=[.ref y,.ref l,.ref a,.int (T:Int)]) (_:Tw CL B H E x tA pA L ρ) (_:dP C B E (T+1) y dy d cr ks la ci) (_:B l=some (.lst (dL 24 (bE b)))) (_:fo b) (_:lN K B a fs) (_:Ea cr fs) (_:ks.length<=1000) (_:(∀j,(ci j).length<=1000)) (_:∀(B' H' E':Hp)(ρ':Addr->Nat)(w8:List Int)(qQ:Int->Addr),aI B B'->Tw CL B' H' E' x tA pA L ρ'->dP C B' E' (T+1) y dy d cr w8 qQ (cN ci T b fs)->w8.length<=ks.length+fs.length->(∀a o,¬iR y dy d ks la a->E a=some o->E' a=some o)->(∀a,iR y dy d w8 qQ a->iR y dy d ks la a\/E a=none)->Q .bw H')
theorem LB:aS ["self","cell","fate","tick","delay","turns"] ["self","cell","fate","tick"] (aG xQ):=ac
set_option maxHeartbeats 0 in
theorem S4(T:Txt K mg t)(F:jz K "give" "Air.give" xQ t.AK fd)(gJ:Def P w K mg base 3 "look_cell" ["cell"] (oU K t.BadCell))(rX:Def P w K mg base 2 "look_fate" ["fate","late"] (wW K))(Av:Def P w K mg base 1 "turned" ["cell","turns"] (xj K)):
  b7 P w K mg base (iE P w) 4 t.AK fd ["self","cell","fate","tick"] (K9 K t.Air t.LinkEnd)/\Binds K fd ["self","cell","fate","tick"] []:=by
 refine⟨F.qY LB (λvs H Q E h=>?_) (λf cB A outer s H vs Q E hr h=>?_),F.binds λ_ _ _ _ _ _=>bd λ_ _ _ _=>rfl⟩
 ·obtain⟨B,E,x,tA,pA,L,ρ,n,y,dy,d,l,a,cr,ks,la,ci,b,fs,rfl,_⟩:=h;rfl
 obtain⟨B,E,x,tA,pA,L,ρ,n,y,dy,d,l,a,cr,ks,la,ci,b,fs,rfl,st,air,hl,gb,⟨nW,wz,hF,hf⟩,gf,hks,hrl,q⟩:=h;refine⟨_,aC (ax (aY (gJ.mono (by decide)) hr (jB aw) (aB (pv 1) aD)))
  (aC (ax (aY (rX.mono (by decide)) hr (jB aw) (aB (pv 2) (aB (ar K (pv 0) (by rfl)) aD))))
  (aF (PS.Ck (cO PassesOwn.never rfl (tE K (pv 2)) (iz K (i:=4) (j:=5) rfl LB.nd rfl rfl (Or.inl rfl) (Or.inl rfl))
   (aF (ax (iH K PySem.F.plainAttrs_list PySem.F.slot_list_append PySem.F.type_list_append cG (OT (ar K (pv 0) (by rfl)) (aQ bK (pv 3) (pv 4)) (ba aD) ⟨rfl,rfl,rfl,rfl⟩) (aB (aY (Av.mono (by decide)) hr av (aB (pv 1) (aB (pv 5) aD))) aD)))))))),?_⟩
 have hsz:(2000000:Nat)<=sizeLine:=by decide
 have cg:=wO gb;have lT:((List.range 24).map (bE b)).map V.int=dL 24 (bE b):=wB 24 (bE b);have aAv:=Pc gb;refine⟨_,rfl,l,(List.range 24).map (bE b),rfl,by rw[lT];exact ae.of (st.sb _ _ hl),λv hv=>?_,λ_=>?_,λz=>absurd aAv z⟩
 ·obtain⟨v0,v1⟩:=aAv.2 v hv;exact dJ (by lia) (by lia)
 obtain⟨as0,hy⟩:=air.at_;refine⟨_,rfl,_,rfl,y,t.Air,dy,_,_,rfl,st.ee _ _ hy,T.AU,T.Kp,S3,a,fs,cr,rfl,⟨nW,wz,st.sb.tup hF,λi c e=>⟨st.sb.tup (hf i c e).1,(hf i c e).2.same st.sb⟩⟩,gf,?_⟩;refine⟨_,rfl,a,rfl,⟨_,st.sb.tup hF⟩,?_⟩
 let I1:Nat->_->_->Prop:=λi σ H'=>∃(B' E':Hp)(ρ':Addr->Nat)(w8:List Int)(qQ:Int->Addr)(v4 v5:Option V),σ=[some (.ref y),some (.ref l),some (.ref a),some (.int (n:Int)),v4,v5]/\aI B B'/\Tw t.LinkEnd B' H' E' x tA pA L ρ'/\dP t.Air B' E' (n+1) y dy d cr w8 qQ (cN ci n b (fs.take i))/\w8.length<=ks.length+i/\(∀a o,¬iR y dy d ks la a->E a=some o->E' a=some o)/\∀a,iR y dy d w8 qQ a->iR y dy d ks la a\/E a=none
 refine vp (K:=K) (a:=a) (xs:=bB fs.length nW) I1
  ⟨B,E,ρ,ks,la,none,none,rfl,aI.refl _,st,air,le_refl _,λ_ _ _ e=>e,λ_ h=>.inl h⟩ (λi σ H' _ ⟨_,_,_,_,_,_,_,_,sB,s',_⟩=>(sB.trans s'.sb).tup hF) ?_ ?_
 ·rintro i v σ H1 hv ⟨B1,E1,ρ1,FE,Mg,v4,v5,rfl,LC,w6,xl,U2,HX,W8⟩;obtain⟨hi,rfl⟩:=tab_of hv;have e:fs[i]?=some fs[i]:=by simp[hi]
  have tk:fs.take (i+1)=fs.take i++[fs[i]]:=take_succ e;generalize fs[i]=c at e tk;have hc:=mem_of_getElem? e;obtain⟨d0,d1,gt⟩:=gf.g.at_ c hc;have yz:=gf.g.len;obtain⟨j,hj⟩:∃j:Nat,(n:Int)+c.1=(j:Int):=⟨((n:Int)+c.1).toNat,by lia⟩;have Sh:n+c.1.toNat=j:=by lia
  refine kA ((LC.trans w6.sb).tup (hf i c e).1) ?_;obtain⟨as1,hy1⟩:=xl.at_;have Qo:=w6.ee _ _ xl.dd;refine⟨_,rfl,y,t.Air,dy,_,_,rfl,w6.ee _ _ hy1,T.AU,T.nK,tT,d,rfl,.inl ⟨_,.inl Qo⟩,?_⟩;refine⟨_,rfl,_,rfl,_,_,rfl,rfl,zz0,λe0 S5=>?_⟩;have ne0:d≠e0:=aR Qo S5;have S2:aI H1 (dl H1 e0 (.lst [])):=(aI.refl _).new S5;have fin:∀(v:V)(H2:Hp),(∃(E2:Hp)(ρ2:Addr->Nat)(U6:List Int)(S6:Int->Addr),v=.ref (S6 j)/\(j:Int)∈U6/\Tw t.LinkEnd B1 H2 E2 x tA pA L ρ2/\dP t.Air B1 E2 (n+1) y dy d cr U6 S6 (cN ci n b (fs.take i))/\U6.length<=ks.length+(i+1)/\(∀a o,¬iR y dy d ks la a->E a=some o->E2 a=some o)/\∀a,iR y dy d U6 S6 a->iR y dy d ks la a\/E a=none)->tyV K "list" v H2/\cA (Nq (xj K) [] E0 (cA (qf 1) (cA (qf 5) iB))) iB [some (.ref y),some (.ref l),some (.ref a),some (.int (n:Int)),some (.int c.1),some (.ref (wz i))] H2 λxs H3=>Di v xs H3 λ_ H'=>∃(B' E':Hp)(ρ':Addr->Nat)(w8:List Int)(qQ:Int->Addr)(v4 v5:Option V),[some (V.ref y),some (.ref l),some (.ref a),some (.int (n:Int)),some (.int c.1),some (.ref (wz i))]=[some (.ref y),some (.ref l),some (.ref a),some (.int (n:Int)),v4,v5]/\aI B B'/\Tw t.LinkEnd B' H' E' x tA pA L ρ'/\dP t.Air B' E' (n+1) y dy d cr w8 qQ (cN ci n b (fs.take (i+1)))/\w8.length<=ks.length+(i+1)/\(∀a o,¬iR y dy d ks la a->E a=some o->E' a=some o)/\∀a,iR y dy d w8 qQ a->iR y dy d ks la a\/E a=none:=by
   rintro v H2 ⟨E2,ρ2,U6,S6,rfl,hjk,vj,S7,hk2,fr2,ow2⟩;obtain⟨cs0,g0,_⟩:=id (S7.ls j hjk);rw[Int.toNat_natCast]at g0;refine⟨.inl ⟨rfl,_,ae.of (vj.ee _ _ g0)⟩,?_⟩;refine⟨_,rfl,_,rfl,l,wz i,bE b,c.2,rfl,ae.of (vj.sb _ _ (LC _ _ hl)),(hf i c e).2.same (LC.trans vj.sb),gt,λr H3 s3 hr Zz=>?_⟩;obtain⟨je,sB3⟩:=vj.grow s3 hr Zz;have y9:dP t.Air (dl B1 r (.lst (dL 24 (eX (bE b) c.2)))) E2 (n+1) y dy d cr U6 S6 (cN ci n b (fs.take i)):=S7.mv sB3 λ_ _ _ e=>e;obtain⟨cs,g1,S8⟩:=y9.cell (row:=fL b c.2) hjk aA;have rl:(cN ci n b (fs.take i) j).length<=1000+3:=by have z1:=Gn (ci:=ci) (tick:=n) (b:=b) (fs.take i) j;have z2:=hrl j;rw[length_take]at z1;lia
   refine⟨S6 j,_,_,rfl,rfl,je.ee _ _ g1,by rw[aL];lia,?_⟩;obtain⟨ρ4,vk⟩:=je.put (a:=S6 j) (o:=.lst (bB (cN ci n b (fs.take i) j).length cs++[.ref r])) (aT g1) (cX _);refine⟨_,_,ρ4,U6,S6,_,_,rfl,LC.trans sB3,vk,?_,hk2,λa o na ea=>?_,ow2⟩
   ·rw[tk,Mb,Sh];exact S8
   have:a≠S6 j:=λz=>by
    rcases ow2 a (.inr (.inr (.inr ⟨j,hjk,z⟩)))with w|w
    ·exact na w
    rw[ea]at w;cases w
   rw[aE this];exact fr2 a o na ea
  refine⟨zU FE Mg,.inl (j:Int),S2 _ _ Qo,congrArg V.int hj,by rw[Pb];lia,λv hv=>?_,λhn=>?_⟩
  ·refine fin _ _ ?_;by_cases z:(j:Int)∈FE
   ·rw[Gj z]at hv;cases hv;exact⟨E1,ρ1,FE,Mg,rfl,z,w6.same S2,xl,by lia,HX,W8⟩
   rw[Pa z]at hv;cases hv
  refine fin _ _ ?_;have z:(j:Int)∉FE:=λz=>by rw[Gj z]at hn;cases hn
  obtain⟨ρ2,vj⟩:=w6.new S5 (cX []);have eE:E1 e0=none:=w6.ee.free S5;have dE:(dl E1 e0 (.lst [])) d=some (.dK (zU FE Mg)):=by rw[aE ne0];exact xl.dd
  obtain⟨ρ3,je⟩:=vj.put (a:=d) (o:=.dK (zU FE Mg++[(.inl (j:Int),.ref e0)])) (aT dE) (fc _);rw[Fi _ hn];refine⟨_,ρ3,FE++[(j:Int)],atK Mg j e0,?_,mem_append_right _ (mem_singleton.mpr rfl),je,xl.key (by lia) z eE,by rw[length_append];exact le_trans (Nat.add_le_add_right U2 1) (by lia),λa o na ea=>?_,λa ha=>?_⟩
  ·show V.ref e0=V.ref (if(j:Int)=(j:Int)then e0 else Mg j);rw[if_pos rfl]
  ·have n1:a≠d:=λw=>na (.inr (.inr (.inl w)));have n2:a≠e0:=λw=>(by have:=HX a o na ea;rw[w,eE]at this;cases this);rw[aE n1,aE n2];exact HX a o na ea
  rcases ha with w|w|w|⟨m,hm,w⟩
  ·exact W8 a (.inl w)
  ·exact W8 a (.inr (.inl w))
  ·exact W8 a (.inr (.inr (.inl w)))
  rcases mem_append.mp hm with hm|hm
  ·have:atK Mg j e0 m=Mg m:=if_neg (λy:m=(j:Int)=>z (by rw[<-y];exact hm));exact W8 a (.inr (.inr (.inr ⟨m,hm,w.trans this⟩)))
  have:atK Mg j e0 m=e0:=if_pos (mem_singleton.mp hm);rw[w,this];by_cases v:iR y dy d ks la e0
  ·exact .inl v
  right;cases e':E e0 with
  |none=>rfl
  |some o=>have:=HX e0 o v e';rw[eE]at this;cases this
 rintro σ H1 ⟨B1,E1,ρ1,FE,Mg,v4,v5,rfl,LC,w6,xl,U2,HX,W8⟩;rw[aL]at U2 xl;rw[take_length]at xl;exact q B1 H1 E1 ρ1 FE Mg LC w6 xl U2 HX W8
theorem Pd(C dy:Addr)(fs:List (Str×V)):fq (.ins C dy fs):=⟨(λ_ z=>by cases z),(λ_ _ z=>by cases z)⟩
section
variable{T:Nat}{y dy d:Addr}{ks:List Int}{ci:Nat->List Rw}
theorem dP.drop(h:dP C B E T y dy d cr ks la ci)(p:Int->Bool)(hp:∀j:Nat,T<=j->p j=true):dP C B (dl E d (.dK (zU (ks.filter p) la))) T y dy d cr (ks.filter p) la ci:=by
 obtain⟨a0,ea⟩:=h.at_;have n1:y≠d:=λz=>by rw[z,h.dd]at ea;cases ea
 have n2:dy≠d:=λz=>by have:=h.ox;rw[z,h.dd]at this;cases this
 have n3:∀m∈ks,la m≠d:=λm hm z=>by obtain⟨cs,g,_⟩:=h.ls m hm;rw[z,h.dd]at g;cases g
 have sub:∀m,m∈ks.filter p->m∈ks:=λm hm=>(List.mem_filter.mp hm).1;exact⟨⟨a0,by rw[aE n1];exact ea⟩,by rw[aE n2];exact h.ox,aA,List.Sublist.nodup List.filter_sublist h.nd,λk hk m hm=>h.inj k (sub k hk) m (sub m hm),λk hk=>(h.ls k (sub k hk)).mv (aI.refl _) λo g=>by rw[aE (n3 k (sub k hk))];exact g,λk hk=>h.k0 k (sub k hk),λj hj hn=>h.ky j hj λz=>hn (List.mem_filter.mpr ⟨z,hp j hj⟩)⟩
theorem dP.ask(h:dP C B E T y dy d cr ks la ci)(k:Int):dP C B (dl E y (.ins C dy [("late",.int cr),("asked",.int k),("coming",.ref d)])) T y dy d cr ks la ci:=by
 obtain⟨a0,ea⟩:=h.at_;have n1:d≠y:=λz=>by rw[<-z,h.dd]at ea;cases ea
 have n2:dy≠y:=λz=>by have:=h.ox;rw[z,ea]at this;cases this
 have n3:∀m∈ks,la m≠y:=λm hm z=>by obtain⟨cs,g,_⟩:=h.ls m hm;rw[z,ea]at g;cases g
 exact⟨⟨k,aA⟩,by rw[aE n2];exact h.ox,by rw[aE n1];exact h.dd,h.nd,h.inj,λk hk=>(h.ls k hk).mv (aI.refl _) λo g=>by rw[aE (n3 k hk)];exact g,h.k0,h.ky⟩
end
def cI(ks:List Int)(tick:Int):List Int:=ks.filter λk=>decide (k<tick)
inductive LD(C CL:Addr)(vs:List V)(H:Hp)(Q:VK)(_:XK):Prop
 |mk (B E:Hp) (x tA pA:Nat->Addr) (L:Nat->Lk) (ρ:Addr->Nat) (T:Nat) (y dy d:Addr) (cr:Int) (ks:List Int) (la:Int->Addr) (ci:Nat->List Rw) (_:vs=[.ref y,.int (T:Int)]) (_:Tw CL B H E x tA pA L ρ) (_:dP C B E T y dy d cr ks la ci) (_:ks.length<=1000) (_:(ci T).length<=1100) (_:∀(B' H' E':Hp)(ρ':Addr->Nat)(r:Addr)(w8:List Int),aI B B'->Tw CL B' H' E' x tA pA L ρ'->dP C B' E' T y dy d cr w8 la ci->w8.length<=ks.length->(∀k∈w8,k∈ks)->fe B' B' r (ci T)->(∀a o,¬iR y dy d ks la a->E a=some o->E' a=some o)->Q (.ref r) H')
theorem Ec:aS ["self","tick","past","known"] ["self","tick"] (aG qz):=ac
set_option maxHeartbeats 0 in
theorem S9(T:Txt K mg t)(F:jz K "come" "Air.come" qz t.AL fd):
  b7 P w K mg base (iE P w) 1 t.AL fd ["self","tick"] (LD t.Air t.LinkEnd)/\Binds K fd ["self","tick"] []:=by
 refine⟨F.qY Ec (λvs H Q E h=>?_) (λf cB A outer s H vs Q E hr h=>?_),F.binds λ_ _ _ _ _ _=>am λ_ _=>rfl⟩
 ·obtain⟨B,E,x,tA,pA,L,ρ,n,y,dy,d,cr,ks,la,ci,rfl,_⟩:=h;rfl
 obtain⟨B,E,x,tA,pA,L,ρ,n,y,dy,d,cr,ks,la,ci,rfl,st,air,hks,hrl,q⟩:=h;refine⟨_,aC (b8 K (pv 0) (pv 1) (by rfl))
  (aC (RZ P w (j9 (i:=2) Ec.nd rfl (Or.inl rfl) rfl (Nc:=["known","tick"]) (ix:=[none,some 1]) (cW (aG qz) ["self","tick","past","known"] rfl rfl (by decide +kernel)) (OS P w (ar K (pv 0) (by rfl))) (λC fp s H=>⟨(au (i:=0) (show(["known","tick"]:List Str).Nodup by decide +kernel) rfl (Or.inl rfl)),(Dm (aZ lQ (pv 0) (pv 1) (af _))),(pv 0)⟩)))
  (aC (PS.Ck (cO PassesOwn.never rfl (bz K (pv 2)) (au (i:=3) Ec.nd rfl (Or.inl rfl))
   (aF (ax (OR (ar K (pv 0) (by rfl)) (pv 3) ⟨rfl,rfl,rfl,rfl⟩)))))
  (aF (ah (jf rfl (Nc:=["cell"]) (ix:=[none]) (cW (aG qz) ["self","tick","past","known"] rfl rfl (by decide +kernel)) (bz K (Fo (bG hr) (ar K (pv 0) (by rfl)) (pv 1) (ba aD) ⟨rfl,rfl,rfl,rfl⟩)) (λC fp s H=>⟨(au (i:=0) (show(["cell"]:List Str).Nodup by decide +kernel) rfl (Or.inl rfl)),cH,(iC (fj K) (by rfl) T.rE boot_list (aB (pv 0) aD))⟩)))))),?_⟩
 have hsz:(2000000:Nat)<=sizeLine:=by decide
 obtain⟨a0,hy⟩:=air.at_;refine⟨_,rfl,_,rfl,y,t.Air,dy,_,rfl,st.ee _ _ hy,T.AU,T.F7,by show 3<1000;decide,?_⟩;rw[Mf];obtain⟨ρ1,w6⟩:=st.put (a:=y) (o:=.ins t.Air dy [("late",.int cr),("asked",.int (n:Int)),("coming",.ref d)]) (aT hy) (Pd _ _ _);have xl:=air.ask (n:Int);have HX:∀a o,¬iR y dy d ks la a->E a=some o->(dl E y (.ins t.Air dy [("late",.int cr),("asked",.int (n:Int)),("coming",.ref d)])) a=some o:=λa o na e=>by rw[aE (λz=>na (.inl z))];exact e
 generalize dl E y (.ins t.Air dy [("late",.int cr),("asked",.int (n:Int)),("coming",.ref d)])=E1 at *;generalize dl H y (.ins t.Air dy [("late",.int cr),("asked",.int (n:Int)),("coming",.ref d)])=H1 at *;obtain⟨a1,hy1⟩:=xl.at_;have Qo:=w6.ee _ _ xl.dd;refine⟨_,rfl,y,t.Air,dy,_,_,rfl,w6.ee _ _ hy1,T.AU,T.nK,tT,d,zU ks la,rfl,Qo,λu hu D hD=>?_⟩;have nDd:D≠d:=λz=>by rw[z,aA]at hD;cases hD
 have hD1:H1 D=none:=by rw[aE nDd]at hD;exact hD
 let I1:Nat->_->_->Prop:=λi σ H'=>(∃v0:Option V,σ=[v0,some (.int (n:Int))])/\H'=dl (dl H1 d u) D (.lst ((cI (ks.take i) n).map V.int))
 refine RY (d:=d) (u:=u) (io:=zU ks la) I1 ⟨⟨none,rfl⟩,rfl⟩ (λi σ H' _ p=>by rw[p.2,aE (Ne.symm nDd),aA]) ?_ ?_
 ·rintro i k v σ H' Nx hNx hkv ⟨⟨v0,rfl⟩,rfl⟩;obtain⟨m,hm,rfl,rfl⟩:=aAt hkv;have Wp:cI (ks.take (i+1)) n=cI (ks.take i) n++if m<(n:Int)then[m]else[]:=by
   rw[take_succ hm];unfold cI;rw[List.filter_append];by_cases z:m<(n:Int)
   ·rw[if_pos z,List.filter_cons,if_pos (by simpa using z)];rfl
   rw[if_neg z,List.filter_cons,if_neg (by simpa using z)];rfl
  refine⟨_,rfl,_,rfl,_,_,rfl,rfl,_,rfl,?_⟩;by_cases z:m<(n:Int)
  ·refine eJ z ?_;rw[if_pos z]at Wp;refine⟨_,rfl,_,aA,?_,hNx _ _ ⟨⟨_,rfl⟩,?_⟩⟩
   ·have h1:=List.length_filter_le (λk:Int=>decide (k<(n:Int))) (ks.take i);rw[length_take]at h1;rw[length_map];show(cI (ks.take i) n).length<_;unfold cI;lia
   rw[gR,Wp,map_append];rfl
  refine eZ z ?_;rw[if_neg z,List.append_nil]at Wp;exact hNx _ _ ⟨⟨_,rfl⟩,by rw[Wp]⟩
 rintro σ H' ⟨⟨v0,rfl⟩,rfl⟩;rw[Pb,take_length];refine⟨d,zU ks la,u,hu,by rw[aE (Ne.symm nDd),aA],?_⟩;have eD:(dl (dl (dl H1 d u) D (.lst ((cI ks n).map V.int))) d (.dK (zU ks la))) D=some (.lst ((cI ks n).map V.int)):=(aE nDd).trans aA;have s2:aI H1 (dl (dl (dl H1 d u) D (.lst ((cI ks n).map V.int))) d (.dK (zU ks la))):=λa o e=>by
  by_cases z:a=d
  ·rw[z,aA,<-Qo,<-z];exact e
  rw[aE z,aE (aR e hD1),aE z];exact e
 generalize dl (dl (dl H1 d u) D (.lst ((cI ks n).map V.int))) d (.dK (zU ks la))=H2 at *;obtain⟨vj,YB⟩:=w6.grow s2 hD1 eD;have eDB:(dl B D (.lst ((cI ks n).map V.int))) D=some (.lst ((cI ks n).map V.int)):=aA;have S7:dP t.Air (dl B D (.lst ((cI ks n).map V.int))) E1 n y dy d cr ks la ci:=xl.mv YB λ_ _ _ e=>e;generalize dl B D (.lst ((cI ks n).map V.int))=B2 at *;have pnd:(cI ks n).Nodup:=List.Sublist.nodup List.filter_sublist air.nd;have plt:∀k∈cI ks n,k<(n:Int)/\k∈ks:=λk hk=>by have:=List.mem_filter.mp hk;exact⟨of_decide_eq_true this.2,this.1⟩
 refine⟨_,rfl,D,rfl,⟨_,ae.of eD⟩,?_⟩
 let I2:Nat->_->_->Prop:=λi σ H'=>∃(v3:Option V)(E':Hp)(ρ':Addr->Nat),σ=[some (.ref y),some (.int (n:Int)),some (.ref D),v3]/\Tw t.LinkEnd B2 H' E' x tA pA L ρ'/\dP t.Air B2 E' n y dy d cr (ks.filter λm=>decide (m∉(cI ks n).take i)) la ci/\∀a o,¬iR y dy d ks la a->E a=some o->E' a=some o
 refine gS (K:=K) (a:=D) (xs:=(cI ks n).map V.int) I2 ⟨none,E1,ρ1,rfl,vj,?_,HX⟩ (λi σ H' _ ⟨_,_,_,_,s',_⟩=>ae.of (s'.sb _ _ eDB)) ?_ ?_
 ·have e0:(ks.filter λm=>decide (m∉(cI ks n).take 0))=ks:=List.filter_eq_self.mpr λb _=>by simp
  rw[e0];exact S7
 ·rintro i v σ H3 hv ⟨v3,E3,ρ3,rfl,je,y9,NM⟩;obtain⟨k,ek,rfl⟩:=jj hv;have Qx:k∈cI ks n:=mem_of_getElem? ek;have tk:(cI ks n).take (i+1)=(cI ks n).take i++[k]:=take_succ ek;have aD2:k∉(cI ks n).take i:=λz=>by have h1:=(List.take_sublist (i+1) (cI ks n)).nodup pnd;rw[tk,List.nodup_append]at h1;exact h1.2.2 k z k (mem_singleton.mpr rfl) rfl
  have LF:k∈ks.filter λm=>decide (m∉(cI ks n).take i):=List.mem_filter.mpr ⟨(plt k Qx).2,by rw[decide_eq_true_iff];exact aD2⟩;obtain⟨a3,hy3⟩:=y9.at_;have hd3:=je.ee _ _ y9.dd;refine⟨_,rfl,y,t.Air,dy,_,_,rfl,je.ee _ _ hy3,T.AU,T.nK,tT,d,rfl,.inl ⟨_,.inl hd3⟩,_,rfl,_,_,_,hd3,rfl,Gj LF,?_⟩;rw[Sz];obtain⟨ρ4,vk⟩:=je.put (a:=d) (o:=.dK (zU ((ks.filter λm=>decide (m∉(cI ks n).take i)).filter λm=>decide (m≠k)) la)) (aT y9.dd) (fc _);have S8:=y9.drop (λm=>decide (m≠k)) λj hj=>decide_eq_true λz=>by have:=(plt k Qx).1;lia
  refine⟨_,_,ρ4,rfl,vk,?_,λa o na e=>by rw[aE (λz=>na (.inr (.inr (.inl z))))];exact NM a o na e⟩;have ef:((ks.filter λm=>decide (m∉(cI ks n).take i)).filter λm=>decide (m≠k))=ks.filter λm=>decide (m∉(cI ks n).take (i+1)):=by rw[List.filter_filter,tk];apply List.filter_congr;intro c _;by_cases z:c=k<;>simp[z]
  rw[ef]at S8 ⊢;exact S8
 rintro σ H3 ⟨v3,E3,ρ3,rfl,je,y9,NM⟩;have aD4:∀m∈(ks.filter λm=>decide (m∉(cI ks n).take ((cI ks n).map V.int).length)),m∈ks:=λm hm=>(List.mem_filter.mp hm).1;have aD5:(ks.filter λm=>decide (m∉(cI ks n).take ((cI ks n).map V.int).length)).length<=ks.length:=List.length_filter_le _ _;generalize(ks.filter λm=>decide (m∉(cI ks n).take ((cI ks n).map V.int).length))=ks3 at *;obtain⟨a3,hy3⟩:=y9.at_;have hd3:=je.ee _ _ y9.dd;refine⟨_,rfl,y,t.Air,dy,_,_,rfl,je.ee _ _ hy3,T.AU,T.nK,tT,d,rfl,.inl ⟨_,.inl hd3⟩,_,rfl,zz0,λe he=>?_⟩;have s4:aI H3 (dl H3 e (.lst [])):=(aI.refl _).new he;have he4:(dl H3 e (.lst [])) e=some (.lst []):=aA;have vk:=je.same s4;have hd4:=s4 _ _ hd3;generalize dl H3 e (.lst [])=H4 at *;have found:∃(a:Addr)(cs:Nat->Addr),(jC (zU ks3 la) (.inl (n:Int))).getD (.ref e)=.ref a/\H4 a=some (.lst (bB (ci n).length cs))/\∀i row,(ci n)[i]?=some row->H4 (cs i)=some (.lst (dL 24 row.f)):=by
  by_cases z:(n:Int)∈ks3
  ·obtain⟨cs,g1,g2⟩:=y9.ls n z;rw[Int.toNat_natCast]at g1 g2;exact⟨la n,cs,by rw[Gj z];rfl,vk.ee _ _ g1,λi row h=>vk.sb _ _ (g2 i row h)⟩
  rw[y9.ky n (le_refl _) z];exact⟨e,λ_=>0,by rw[Pa z];rfl,he4,λi row h=>by cases h⟩
 obtain⟨a,cs,ea,ha,RB⟩:=found;refine⟨_,.inl ⟨_,.inl (n:Int),.inl hd4,rfl,rfl⟩,?_⟩;rw[ea];refine⟨a,rfl,⟨_,ae.of ha⟩,λD2 DJ=>?_⟩
 let I3:Nat->_->_->Prop:=λi σ H'=>(∃v0:Option V,σ=[v0])/\aI H4 H'/\∃rs:Nat->Addr,H' D2=some (.lst (bB i rs))/\∀j row,j<i->(ci n)[j]?=some row->H' (rs j)=some (.lst (dL 24 row.f))/\H4 (rs j)=none/\rs j≠D2
 refine zO (K:=K) (a:=a) (xs:=bB (ci n).length cs) I3 ⟨⟨none,rfl⟩,(aI.refl _).new DJ,λ_=>0,aA,λj row hj=>absurd hj (not_lt_zero _)⟩ (λi σ H' _ p=>ae.of (p.2.1 _ _ ha)) ?_ ?_
 ·rintro i v σ H5 Nx hNx hv ⟨⟨v0,rfl⟩,s5,rs,e5,g5⟩;obtain⟨hi,rfl⟩:=tab_of hv;have ei:(ci n)[i]?=some (ci n)[i]:=by simp[hi]
  refine dF ?_;refine⟨_,rfl,cs i,_,rfl,.inl (ae.of (s5 _ _ (RB i _ ei))),λr hr=>?_⟩;have nrD:r≠D2:=λz=>by rw[z,e5]at hr;cases hr
  refine⟨_,(aE (Ne.symm nrD)).trans e5,by rw[aL];lia,hNx _ _ ⟨⟨_,rfl⟩,(s5.new hr).put DJ,λj=>if j=i then r else rs j,by rw[aA,dM],λj row hj h9=>?_⟩⟩;by_cases z:j=i
  ·subst z;rw[ei]at h9;cases h9;simp only[if_true];exact⟨by rw[aE nrD,aA],s5.free hr,nrD⟩
  simp only[z,if_false];obtain⟨k1,k2,k3⟩:=g5 j row (by lia) h9;exact⟨by rw[aE k3,aE (aR k1 hr)];exact k1,k2,k3⟩
 rintro σ H5 ⟨⟨v0,rfl⟩,s5,rs,e5,g5⟩;rw[aL]at e5 g5;obtain⟨B5,sB5,xD,nw5⟩:=vk.aAp s5;exact q B5 H5 E3 ρ3 D2 ks3 (YB.trans sB5) xD (y9.mv sB5 λ_ _ _ e=>e) aD5 aD4 ⟨rs,nw5 _ _ DJ e5,λi row h9=>by have hi:i<(ci n).length:=(List.getElem?_eq_some_iff.mp h9).1;obtain⟨k1,k2,_⟩:=g5 i row hi h9;exact nw5 _ _ k2 k1⟩ NM
def DS(K:W.Frag):Sp:=λvs H Q _=>∃(a:Addr)(fs:Ft),vs=[.ref a]/\lN K H a fs/\fs.length<=3/\¬EX fs/\∀H',aI H H'->Q (.bl false) H'
theorem Ed(i:Nat):(List.replicate (i+1) false).map V.bl=(List.replicate i false).map V.bl++[V.bl false]:=by rw[List.replicate_succ',map_append];rfl
theorem zV(i:Nat):(List.replicate i false).any id=false:=by rw[List.any_eq_false];intro x hx;rw[(List.mem_replicate.mp hx).2];exact λz=>by cases z
theorem Mh:aS ["fate"] ["fate"] (aG qx):=ac
theorem Mi(F:aO K mg "is_fit" qx)(T:Txt K mg t):Def P w K mg base 1 "is_fit" ["fate"] (DS K):=by
 refine F.def Mh (λ_ _ _ _ _ _=>ad λ_=>rfl) (λvs H Q E h=>?_) (λf cB A outer s H vs Q E hr h=>?_)
 ·obtain⟨a,fs,rfl,_⟩:=h;rfl
 obtain⟨a,fs,rfl,⟨nW,wz,hA,hf⟩,hl,nf,q⟩:=h;refine⟨_,aF (ah (bP (tD K rfl) (by rfl) T.Kn boot_any (aB (jf rfl (Nc:=["delay","turns"]) (ix:=[none,none]) (cW (aG qx) ["fate"] rfl rfl (by decide +kernel)) (tE K (pv 0)) (λC fp s H=>⟨(iz K (i:=0) (j:=1) rfl (show(["delay","turns"]:List Str).Nodup by decide +kernel) rfl rfl (Or.inl rfl) (Or.inl rfl)),cH,(fW qL (bP (bY K) (by rfl) T.gI boot_len (aB (pv 1) aD)) (aW T.Bb) (af _))⟩)) aD))),?_⟩;have hsz:(2000:Nat)<=sizeLine:=by decide
 refine⟨_,rfl,a,rfl,⟨_,hA⟩,λD hD=>?_⟩;refine WL (K:=K) (a:=a) (xs:=bB fs.length nW) (λi σ H'=>∃v1 v2:Option V,σ=[v1,v2]/\aI H H'/\H' D=some (.lst ((List.replicate i false).map V.bl))) ⟨none,none,rfl,(aI.refl _).new hD,aA⟩ (λi σ H' _ ⟨_,_,_,s1,_⟩=>s1.tup hA) ?_ ?_
 ·rintro i x σ H' N hN hx ⟨v1,v2,rfl,s1,h1⟩;obtain⟨hi,rfl⟩:=tab_of hx;have e:fs[i]?=some fs[i]:=by simp[hi]
  generalize fs[i]=c at e;obtain⟨g1,us,g2,g3⟩:=hf i c e;have hc:¬c.2.length<3:=λz=>nf ⟨c,mem_of_getElem? e,z⟩;refine kA (s1.tup g1) ?_;refine V8 ?_;refine⟨_,rfl,wz i,_,rfl,.inr (s1.tup g2),_,_,rfl,rfl,?_⟩;refine⟨_,h1,by rw[length_map,length_replicate];lia,hN _ _ ⟨_,_,rfl,s1.put hD,?_⟩⟩;rw[aA,aL,Ed];exact congrArg (λz=>some (HO.lst ((List.replicate i false).map V.bl++[V.bl z]))) (decide_eq_false (by lia))
 rintro σ H' ⟨v1,v2,rfl,s1,h1⟩;refine⟨D,_,rfl,ae.of h1,?_⟩;rw[zV];exact q H' s1
def ud(K:W.Frag):Sp:=λvs H Q _=>∃(l:Addr)(xs:List V)(f e:Int),vs=[.ref l,.int f,.int e]/\ae K H l xs/\0<=f/\e<(xs.length:Nat)/\Q (.bl true) H
theorem JD:aS ["row","first","last"] ["row","first","last"] (aG tK):=ac
theorem JE(F:aO K mg "is_told" tK)(T:Txt K mg t):Def P w K mg base 1 "is_told" ["row","first","last"] (ud K):=by
 refine F.def JD (λ_ _ _ _ _ _=>ap λ_ _ _=>rfl) (λvs H Q E h=>?_) (λf cB A outer s H vs Q E hr h=>?_)
 ·obtain⟨l,xs,f,e,rfl,_⟩:=h;rfl
 obtain⟨l,xs,f,e,rfl,hl,h0,h1,q⟩:=h;refine⟨_,aF (ah (zc (fW UT (pv 1) aH (af _)) (xA (fW lQ (pv 2) (bP (bY K) (by rfl) T.gI boot_len (aB (pv 0) aD)) (af _))))),?_⟩;refine⟨_,rfl,_,_,rfl,rfl,_,rfl,eJ h0 ⟨_,rfl,_,rfl,l,_,rfl,.inl hl,_,_,rfl,rfl,?_⟩⟩;have e1:decide (e<(xs.length:Int))=true:=decide_eq_true h1;show Q (V.bl (decide (e<(xs.length:Int)))) H;rw[e1];exact q
def ff(B:Hp)(r:Addr):Prop:=∃rs:List Rw,fe B B r rs/\rs.length<=1100/\∀row∈rs,IsCell 24 row.f/\∀g,¬My.qZ row.f g
def yn:Sp:=λvs H Q _=>∃(B:Hp)(l:Addr)(n f u:Nat)(tl:Nat->Addr),vs=[.ref l,.int (u:Int),.int (f:Int),.int ((f:Int)+(u:Int)-1)]/\aI B H/\H l=some (.lst (bB n tl))/\n<=1000/\1<=u/\f+u<=n/\(∀k,k<u->ff B (tl (f+k)))/\∀H',aI H H'->Q (.bl true) H'
theorem Gp:aS ["came","quiet","first","last"] ["came","quiet","first","last"] (aG kH):=ac
set_option maxHeartbeats 0 in
theorem Gq(F:aO K mg "is_shown" kH)(T:Txt K mg t)(mE:Def P w K mg base 9 "is_readable" ["cell"] (rP K))(j7:Def P w K mg base 1 "is_told" ["row","first","last"] (ud K)):Def P w K mg base 10 "is_shown" ["came","quiet","first","last"] yn:=by
 refine F.def Gp (λ_ _ _ _ _ _=>bd λ_ _ _ _=>rfl) (λvs H Q E h=>?_) (λf cB A outer s H vs Q E hr h=>?_)
 ·obtain⟨B,l,n,f,u,tl,rfl,_⟩:=h;rfl
 obtain⟨B,l,n,f,u,tl,rfl,sB,hl,hn,hu,hfu,hq,q⟩:=h;refine⟨_,aC (bO (PW.pt (zb (aZ vq (aQ bK (aQ dv (pv 3) (pv 2)) aH) (pv 1) (af _)) (uK (fh (jJ (aY (j7.mono (by decide)) hr av (aB (pv 0) (aB (pv 2) (aB (pv 3) aD)))))))))
   (aF (ah d9))
   (aj))
  (aF (ah (NY (bP (tD K rfl) (by rfl) T.Kn boot_any (aB (jf rfl (Nc:=["cells"]) (ix:=[none]) (cW (aG kH) ["came","quiet","first","last"] rfl rfl (by decide +kernel)) (bz K (cw (dN K) (pv 0) (cD (pv 2)) (cD (aQ bK (pv 3) aH)))) (λC fp s H=>⟨(au (i:=0) (show(["cells"]:List Str).Nodup by decide +kernel) rfl (Or.inl rfl)),cH,(bP (tD K rfl) (by rfl) T.Kn boot_any (aB (jf rfl (Nc:=["cell"]) (ix:=[none]) (cW _ ["cells"] rfl rfl (by kernel_rfl)) (bz K (pv 0)) (λC fp s H=>⟨(au (i:=0) (show(["cell"]:List Str).Nodup by decide +kernel) rfl (Or.inl rfl)),cH,(aY (mE.mono (by decide)) hr av (aB (pv 0) aD))⟩)) aD))⟩)) aD))))),?_⟩
 have hsz:(5000:Nat)<=sizeLine:=by decide
 refine⟨_,rfl,_,rfl,_,_,rfl,rfl,_,_,rfl,rfl,_,rfl,rfl,_,rfl,?_⟩;refine jg (congrArg V.int (by lia)) ?_;refine⟨_,rfl,_,rfl,_,rfl,l,_,(f:Int),_,rfl,ae.of hl,by lia,by rw[aL];lia,_,rfl,dX ?_⟩;refine⟨_,rfl,_,rfl,_,rfl,_,rfl,_,_,rfl,rfl,_,rfl,l,_,rfl,ae.of hl,λp hp=>?_⟩;have ec:cU (bB n tl) (some (f:Int)) (some ((f:Int)+(u:Int)-1+1))=bB u λk=>tl (f+k):=by have:=lU (n:=n) (f:=λk=>V.ref (tl k)) (lo:=f) (hi:=f+u) (by lia) hfu;rw[show f+u-f=u by lia]at this;rw[show(f:Int)+(u:Int)-1+1=((f+u:Nat):Int) by lia];exact this
 have s1:aI H (dl H p (.lst (bB u λk=>tl (f+k)))):=(aI.refl _).new hp;have e1:(dl H p (.lst (bB u λk=>tl (f+k)))) p=some (.lst (bB u λk=>tl (f+k))):=aA;dsimp only at hp ⊢;rw[ec];generalize dl H p (.lst (bB u λk=>tl (f+k)))=H1 at *;refine⟨p,rfl,⟨_,ae.of e1⟩,λD hD=>?_⟩;refine oJ (K:=K) (a:=p) (n:=u) (F:=λk=>V.ref (tl (f+k))) (λi σ H'=>∃v:Option V,σ=[v]/\aI H1 H'/\H' D=some (.lst ((List.replicate i false).map V.bl))) ⟨none,rfl,(aI.refl _).new hD,aA⟩ (λi σ H' _ ⟨_,_,s',_⟩=>ae.of (s' _ _ e1)) ?_ ?_
 ·rintro i σ H' N hN hi ⟨v,rfl,s',W9⟩;obtain⟨rs,⟨cs,c1,c2⟩,c3,c4⟩:=hq i hi;refine dF ?_;have s2:=sB.trans (s1.trans s');refine⟨_,rfl,tl (f+i),rfl,⟨_,ae.of (s2 _ _ c1)⟩,λD2 DJ=>?_⟩;refine oJ (K:=K) (a:=tl (f+i)) (n:=rs.length) (F:=λk=>V.ref (cs k)) (λj σ zF=>∃w:Option V,σ=[w]/\aI H' zF/\zF D2=some (.lst ((List.replicate j false).map V.bl))) ⟨none,rfl,(aI.refl _).new DJ,aA⟩ (λj σ zF _ ⟨_,_,E9,_⟩=>ae.of ((s2.trans E9) _ _ c1)) ?_ ?_
  ·rintro j σ zF N2 hN2 hj ⟨w,rfl,E9,XA⟩;have ej:rs[j]?=some rs[j]:=(by simp[hj]);obtain⟨k1,k2⟩:=c4 _ (mem_of_getElem? ej);refine dF ?_;refine⟨_,rfl,cs j,_,rfl,ae.of ((s2.trans E9) _ _ (c2 j _ ej)),k1,λg H3 hg s3=>absurd hg (k2 g),λhg H3 s3=>?_⟩;refine⟨_,s3 _ _ XA,by rw[length_map,length_replicate];lia,hN2 _ _ ⟨_,rfl,(E9.trans s3).put DJ,?_⟩⟩;rw[aA,Ed]
  rintro σ zF ⟨w,rfl,E9,XA⟩;refine⟨D2,_,rfl,ae.of XA,?_⟩;refine⟨_,E9 _ _ W9,by rw[length_map,length_replicate];lia,hN _ _ ⟨_,rfl,(s'.trans E9).put hD,?_⟩⟩;rw[aA,zV,Ed]
 rintro σ H' ⟨v,rfl,s',W9⟩;refine⟨D,_,rfl,ae.of W9,_,rfl,?_⟩;rw[zV];exact q H' (s1.trans s')
def gN(K:W.Frag)(B:Hp)(l:Addr)(F:List Ft):Prop:=∃nW:Nat->Addr,B l=some (.lst (bB F.length nW))/\∀k fs,F[k]?=some fs->lN K B (nW k) fs
theorem gN.same{K:W.Frag}{B B':Hp}{l:Addr}{F:List Ft}(h:gN K B l F)(s:aI B B'):gN K B' l F:=by obtain⟨nW,h1,h2⟩:=h;exact⟨nW,s _ _ h1,λk fs e=>(h2 k fs e).same s⟩
def wY(K:W.Frag):Sp:=λvs H Q _=>∃(l m:Addr)(F:List Ft)(la lo b:Nat),vs=[.ref l,.ref m,.int ((b:Int)+1),.int ((b:Int)+(lo:Int)+(la:Int))]/\gN K H l F/\F.length<=1000/\cT K H m [.int (la:Int),.int (lo:Int)]/\b+lo<F.length/\(∀k fs,b<=k->k<=b+lo->F[k]?=some fs->fs.length<=3/\¬EX fs)/\∀H',aI H H'->Q (.bl true) H'
theorem oz:aS ["fates","measure","first","last","begin","end"] ["fates","measure","first","last"] (aG jF):=ac
theorem Ee(F:aO K mg "broken_by" jF)(T:Txt K mg t)(Aw:Def P w K mg base 1 "is_fit" ["fate"] (DS K))(j7:Def P w K mg base 1 "is_told" ["row","first","last"] (ud K)):Def P w K mg base 2 "broken_by" ["fates","measure","first","last"] (wY K):=by
 refine F.def oz (λ_ _ _ _ _ _=>bd λ_ _ _ _=>rfl) (λvs H Q E h=>?_) (λf cB A outer s H vs Q E hr h=>?_)
 ·obtain⟨l,m,F,la,lo,b,rfl,_⟩:=h;rfl
 obtain⟨l,m,F',la,lo,b,rfl,⟨nW,hl,hf⟩,hF,hm,hb,hn,q⟩:=h;refine⟨_,aC (aX (i:=4) oz.nd rfl (Or.inl rfl) (aQ dv (pv 2) aH))
  (aC (aX (i:=5) oz.nd rfl (Or.inl rfl) (aQ dv (pv 3) (ai (bR K) (pv 1) aH (λ_ _=>rfl))))
  (aC (bO (PW.pt (zb (aZ vq (aQ dv (pv 5) (pv 4)) (ai (bR K) (pv 1) aH (λ_ _=>rfl)) (af _)) (uK (fh (jJ (aY (j7.mono (by decide)) hr av (aB (pv 0) (aB (pv 4) (aB (pv 5) aD)))))))))
   (aF (ah d9))
   (aj))
  (aF (ah (NY (bP (tD K rfl) (by rfl) T.Kn boot_any (aB (jf rfl (Nc:=["fate"]) (ix:=[none]) (cW (aG jF) ["fates","measure","first","last","begin","end"] rfl rfl (by decide +kernel)) (bz K (cw (dN K) (pv 0) (cD (pv 4)) (cD (aQ bK (pv 5) aH)))) (λC fp s H=>⟨(au (i:=0) (show(["fate"]:List Str).Nodup by decide +kernel) rfl (Or.inl rfl)),cH,(aY (Aw.mono (by decide)) hr av (aB (pv 0) aD))⟩)) aD))))))),?_⟩
 have hsz:(5000:Nat)<=sizeLine:=by decide
 refine⟨_,rfl,_,_,rfl,rfl,?_⟩;refine⟨_,rfl,_,rfl,m,_,_,_,rfl,rfl,hm,rfl,_,_,rfl,rfl,?_⟩;refine⟨_,rfl,_,rfl,_,_,rfl,rfl,_,rfl,m,_,_,_,rfl,rfl,hm,rfl,rfl,_,rfl,?_⟩;refine jg (congrArg V.int (by lia)) ?_;refine⟨_,rfl,_,rfl,_,rfl,l,_,_,_,rfl,ae.of hl,by lia,by rw[aL];lia,_,rfl,dX ?_⟩;refine⟨_,rfl,_,rfl,_,rfl,_,rfl,_,_,rfl,rfl,_,rfl,l,_,rfl,ae.of hl,λp hp=>?_⟩;have ec:cU (bB F'.length nW) (some ((b:Int)+1-1)) (some ((b:Int)+(lo:Int)+(la:Int)-(la:Int)+1))=bB (lo+1) λk=>nW (b+k):=by have:=lU (n:=F'.length) (f:=λk=>V.ref (nW k)) (lo:=b) (hi:=b+lo+1) (by lia) (by lia);rw[show b+lo+1-b=lo+1 by lia]at this;rw[show(b:Int)+1-1=(b:Int) by lia,show(b:Int)+(lo:Int)+(la:Int)-(la:Int)+1=((b+lo+1:Nat):Int) by lia];exact this
 have s1:aI H (dl H p (.lst (bB (lo+1) λk=>nW (b+k)))):=(aI.refl _).new hp;have e1:(dl H p (.lst (bB (lo+1) λk=>nW (b+k)))) p=some (.lst (bB (lo+1) λk=>nW (b+k))):=aA;dsimp only at hp ⊢;rw[ec];generalize dl H p (.lst (bB (lo+1) λk=>nW (b+k)))=H1 at *;refine⟨p,rfl,⟨_,ae.of e1⟩,λD hD=>?_⟩;refine oJ (K:=K) (a:=p) (n:=lo+1) (F:=λk=>V.ref (nW (b+k))) (λi σ H'=>∃v:Option V,σ=[v]/\aI H1 H'/\H' D=some (.lst ((List.replicate i false).map V.bl))) ⟨none,rfl,(aI.refl _).new hD,aA⟩ (λi σ H' _ ⟨_,_,s',_⟩=>ae.of (s' _ _ e1)) ?_ ?_
 ·rintro i σ H' N hN hi ⟨v,rfl,s',W9⟩;have ei:F'[b+i]?=some F'[b+i]:=getElem?_eq_getElem (by lia);obtain⟨k1,k2⟩:=hn _ _ (by lia) (by lia) ei;refine dF ?_;refine⟨_,rfl,_,_,rfl,(hf _ _ ei).same (s1.trans s'),k1,k2,λzF E9=>?_⟩;refine⟨_,E9 _ _ W9,by rw[length_map,length_replicate];lia,hN _ _ ⟨_,rfl,(s'.trans E9).put hD,?_⟩⟩;rw[aA,Ed]
 rintro σ H' ⟨v,rfl,s',W9⟩;refine⟨D,_,rfl,ae.of W9,_,rfl,?_⟩;rw[zV];exact q H' (s1.trans s')
def jN(K:W.Frag):Sp:=λvs H Q _=>∃(l:Addr)(ns:List Int)(k:Int),vs=[.ref l,.int k]/\ae K H l (ns.map V.int)/\0<=k/\∀c:Int,Q (.int c) H
theorem zG:aS ["script","k"] ["script","k"] (aG gh):=ac
theorem zH(F:aO K mg "_law_cell_at" gh)(T:Txt K mg t):Def P w K mg base 1 "_law_cell_at" ["script","k"] (jN K):=by
 refine F.def zG (λ_ _ _ _ _ _=>am λ_ _=>rfl) (λvs H Q E h=>?_) (λf cB A outer s H vs Q E hr h=>?_)
 ·obtain⟨l,ns,k,rfl,_⟩:=h;rfl
 obtain⟨l,ns,k,rfl,hl,k0,q⟩:=h;refine⟨_,aC (bO (aZ lQ (pv 1) (bP (bY K) (by rfl) T.gI boot_len (aB (pv 0) aD)) (af _))
   (aF (ah (ai (aV K) (pv 0) (pv 1) (λ_ _=>rfl))))
   (aj))
  (aF (ah aH)),?_⟩
 refine⟨_,rfl,_,rfl,l,_,rfl,.inl hl,_,_,rfl,rfl,_,rfl,?_⟩;by_cases z:k<((ns.map V.int).length:Nat)
 ·refine eJ z ?_;rw[length_map]at z;obtain⟨j,rfl⟩:∃j:Nat,k=j:=⟨k.toNat,by lia⟩;have hj:j<ns.length:=by lia
  exact⟨_,rfl,_,rfl,l,_,_,V.int ns[j],rfl,rfl,hl,gU (by simp[hj]),q _⟩
 exact eZ z (q 0)
def uE:Sp:=λvs H Q _=>∃c k:Int,vs=[.int c,.int k]/\0<=k/\k<=10/\∀v:Int,0<=v->Q (.int v) H
theorem mF:aS ["cell","k","near","stir"] ["cell","k"] (aG jr):=ac
theorem Bu(F:aO K mg "_law_mixed" jr)(T:Txt K mg t):Def P w K mg base 1 "_law_mixed" ["cell","k"] uE:=by
 refine F.def mF (λ_ _ _ _ _ _=>am λ_ _=>rfl) (λvs H Q E h=>?_) (λf cB A outer s H vs Q E hr h=>?_)
 ·obtain⟨c,k,rfl,_⟩:=h;rfl
 obtain⟨c,k,rfl,k0,k1,q⟩:=h;refine⟨_,aC (aX (i:=2) mF.nd rfl (Or.inl rfl) (aQ bK (aQ cF (pv 0) aH) (aQ eQ aH (pv 1))))
  (aC (aX (i:=3) mF.nd rfl (Or.inl rfl) (aQ cF (aQ eQ (aQ bK (pv 2) aH) (aQ bK (pv 2) aH)) aH))
  (aF (ah (aQ zN (aQ cF (aQ eQ (pv 3) (pv 3)) aH) aH)))),?_⟩
 refine⟨_,rfl,_,_,rfl,rfl,(by show(0:Int)<998244353;decide),_,rfl,_,_,rfl,rfl,.inl ⟨by decide,by decide⟩,_,_,rfl,rfl,?_⟩;have n0:0<=c%998244353:=Int.emod_nonneg _ (by decide);have n1:c%998244353<998244353:=Int.emod_lt_of_pos _ (by decide);refine⟨_,rfl,_,_,rfl,rfl,_,rfl,_,_,rfl,rfl,_,_,rfl,rfl,.inl ⟨by lia,by lia⟩,_,_,rfl,rfl,(by show(0:Int)<998244353;decide),?_⟩;dsimp only;generalize hN:(c%998244353+7919*k+11)*(c%998244353+7919*k+48271)%998244353=N;have hN1:0<=N:=by rw[<-hN];exact Int.emod_nonneg _ (by decide)
 have hN2:N<998244353:=by rw[<-hN];exact Int.emod_lt_of_pos _ (by decide)
 refine⟨_,rfl,_,rfl,_,_,rfl,rfl,.inl ⟨by lia,by lia⟩,_,_,rfl,rfl,(by show(0:Int)<1000000007;decide),_,_,rfl,rfl,⟨by decide,by decide⟩,?_⟩;exact q _ (Int.ediv_nonneg (Int.emod_nonneg _ (by decide)) (by decide))
def TB(bs ms:List Int):Prop:=ms.length=bs.length/\∀(i:Nat)(m b:Int),ms[i]?=some m->bs[i]?=some b->0<=m/\m<b
def mG(K:W.Frag):Sp:=λvs H Q _=>∃(c:Int)(l:Addr)(bs:List Int),vs=[.int c,.ref l]/\ae K H l (bs.map V.int)/\bs.length<=10/\(∀b∈bs,0<b/\b<=10)/\∀(r:Addr)(H':Hp)(ms:List Int),aI H H'->H r=none->H' r=some (.lst (ms.map V.int))->TB bs ms->Q (.ref r) H'
theorem dt:aS ["cell","bounds","left","made","k"] ["cell","bounds"] (aG js):=ac
theorem Bv(F:aO K mg "_law_drawn" js)(T:Txt K mg t)(o3:Def P w K mg base 1 "_law_mixed" ["cell","k"] uE):Def P w K mg base 2 "_law_drawn" ["cell","bounds"] (mG K):=by
 refine F.def dt (λ_ _ _ _ _ _=>am λ_ _=>rfl) (λvs H Q E h=>?_) (λf cB A outer s H vs Q E hr h=>?_)
 ·obtain⟨c,l,bs,rfl,_⟩:=h;rfl
 obtain⟨c,l,bs,rfl,hl,Xq,hb,q⟩:=h;refine⟨_,aC (aX (i:=2) dt.nd rfl (Or.inl rfl) (pv 0))
  (aC (l8 (bO (aZ lQ (pv 0) (aQ Vf aH aH) (af _))
   (aF (aX (i:=2) dt.nd rfl (Or.inl rfl) aH))
   (aj)))
  (aC (aX (i:=3) dt.nd rfl (Or.inl rfl) (ba aD))
  (aC (PS.Ck (cO PassesOwn.never rfl (dH (by rfl) T.eF (aB (bP (bY K) (by rfl) T.gI boot_len (aB (pv 1) aD)) aD)) (au (i:=4) dt.nd rfl (Or.inl rfl))
   (aF (bO (aZ zh (pv 2) aH (af _))
    (aC (ax (iH K PySem.F.plainAttrs_list PySem.F.slot_list_append PySem.F.type_list_append cG (pv 3) (aB (aQ cF (pv 2) (ai (aV K) (pv 1) (pv 4) (λ_ _=>rfl))) aD)))
    (aF (aX (i:=2) dt.nd rfl (Or.inl rfl) (aQ zN (pv 2) (ai (aV K) (pv 1) (pv 4) (λ_ _=>rfl))))))
    (aF (ax (iH K PySem.F.plainAttrs_list PySem.F.slot_list_append PySem.F.type_list_append cG (pv 3) (aB (aQ cF (aY (o3.mono (by decide)) hr av (aB (pv 0) (aB (pv 4) aD))) (ai (aV K) (pv 1) (pv 4) (λ_ _=>rfl))) aD))))))))
  (aF (ah (pv 3)))))),?_⟩
 have hsz:(2000:Nat)<=sizeLine:=by decide
 refine⟨_,rfl,?_⟩;refine⟨λσ H'=>∃left:Int,σ=[some (.int c),some (.ref l),some (.int left),none,none]/\H'=H,?_,?_⟩
 ·refine⟨_,rfl,_,_,rfl,rfl,⟨by decide,by decide,by decide⟩,_,_,rfl,rfl,_,rfl,?_⟩;exact RH (λ_=>⟨0,rfl,rfl⟩) (λ_=>⟨c,rfl,rfl⟩)
 rintro σ H' ⟨aAy,rfl,rfl⟩;refine⟨zz0,λL hL=>?_⟩;have s1:=(aI.refl H').new (o:=.lst []) hL;refine⟨_,rfl,l,_,rfl,.inl (s1.seq hl),(bs.length:Int),by rw[length_map],by lia,by lia,?_⟩;rw[Int.toNat_natCast]
 let I1:Nat->_->_->Prop:=λi σ H2=>∃(left:Int)(ms:List Int)(v4:Option V),σ=[some (.int c),some (.ref l),some (.int left),some (.ref L),v4]/\aI H' H2/\H2 L=some (.lst (ms.map V.int))/\ms.length=i/\∀(j:Nat)(m b:Int),ms[j]?=some m->bs[j]?=some b->0<=m/\m<b
 refine gE (lo:=0) (n:=bs.length) I1
  ⟨aAy,[],none,rfl,s1,aA,rfl,λj m b hm=>by cases hm⟩ ?_ ?_
 ·rintro i σ H2 hi ⟨left,ms,v4,rfl,s2,h2,V7,hm⟩;rw[show(0:Int)+(i:Nat)=(i:Int) by lia];have ei:bs[i]?=some bs[i]:=by simp[hi]
  generalize bs[i]=b at ei;obtain⟨b0,b1⟩:=hb b (mem_of_getElem? ei);have XB:uL (bs.map V.int) (i:Int)=some (.int b):=gU (by rw[getElem?_map,ei];rfl);have NS:=s2.seq hl;have push:∀(x:Int),0<=x/\x<b->(aI H' (dl H2 L (.lst (ms.map V.int++[V.int x])))/\(dl H2 L (.lst (ms.map V.int++[V.int x]))) L=some (.lst ((ms++[x]).map V.int))/\(ms++[x]).length=i+1/\∀(j:Nat)(m b:Int),(ms++[x])[j]?=some m->bs[j]?=some b->0<=m/\m<b):=λx hx=>⟨s2.put hL,by rw[aA,map_append];rfl,by rw[length_append,V7];rfl,λj m b' UZ KY=>by
   by_cases z:j<ms.length
   ·rw[getElem?_append_left z]at UZ;exact hm j m b' UZ KY
   have eI:=(List.getElem?_eq_some_iff.mp UZ).1;rw[length_append]at eI;have e:j=ms.length:=(by simp at eI;lia);rw[e,getElem?_append_right (le_refl _),Nat.sub_self]at UZ;cases UZ;rw[e,V7,ei]at KY;cases KY;exact hx⟩
  refine⟨_,rfl,_,_,rfl,rfl,_,rfl,?_⟩;refine RH (λ_=>?_) (λ_=>?_)
  ·refine⟨_,rfl,.inl ⟨rfl,_,ae.of h2⟩,_,rfl,_,rfl,_,rfl,l,_,_,_,rfl,rfl,NS,XB,_,_,rfl,rfl,b0,L,_,_,rfl,rfl,h2,by rw[length_map];lia,?_⟩;obtain⟨p1,p2,p3,p4⟩:=push (left%b) ⟨Int.emod_nonneg _ (by lia),Int.emod_lt_of_pos _ b0⟩;refine⟨_,rfl,_,rfl,_,rfl,l,_,_,_,rfl,rfl,p1.seq hl,XB,_,_,rfl,rfl,⟨b0,by lia⟩,?_⟩;exact⟨_,_,_,rfl,p1,p2,p3,p4⟩
  refine⟨_,rfl,.inl ⟨rfl,_,ae.of h2⟩,_,rfl,_,rfl,c,(i:Int),rfl,by lia,by lia,λv v0=>?_⟩;refine⟨_,rfl,_,rfl,l,_,_,_,rfl,rfl,NS,XB,_,_,rfl,rfl,b0,L,_,_,rfl,rfl,h2,by rw[length_map];lia,?_⟩;exact⟨_,_,_,rfl,push _ ⟨Int.emod_nonneg _ (by lia),Int.emod_lt_of_pos _ b0⟩⟩
 rintro σ H2 ⟨left,ms,v4,rfl,s2,h2,V7,hm⟩;exact⟨_,rfl,q L H2 ms s2 hL h2 ⟨V7,hm⟩⟩
def t3:Ts:=[(0,5),(7,9),(23,1)]
def wZ:Ft:=[(1,[])]
def qR(odd:Int):Ft:=if odd=0 then[]else[(1,t3)]
def KF(cr:Int)(fs:Ft):Prop:=fs=[]\/fs=[(1,t3)]\/∃d,1<=d/\d<=cr/\fs=[(d,[])]
theorem XC:As []:=⟨I0,λi p q h=>by cases h⟩
theorem aAz:As t3:=by
 refine⟨⟨by decide,λq hq=>?_,by decide⟩,λi p q h1 h2=>?_⟩
 ·simp only[t3,mem_cons,not_mem_nil,or_false]at hq;rcases hq with rfl|rfl|rfl<;>exact⟨⟨by decide,by decide⟩,by decide,by decide⟩
 match i,h1,h2 with
 |0,h1,h2=>cases h1;cases h2;decide
 |1,h1,h2=>cases h1;cases h2;decide
 |i+2,h1,h2=>simp[t3]at h2
theorem KF.good{fs:Ft}(h:KF cr fs)(h1:1<=cr):Ea cr fs:=by
 have one:∀(d:Int)(ts:Ts),1<=d->d<=cr->As ts->Ea cr [(d,ts)]:=λd ts a b c=>⟨⟨by show 1<=3;decide,λe he=>by rw[mem_singleton.mp he];exact⟨a,b,c.g⟩⟩,λe he=>by rw[mem_singleton.mp he];exact c⟩;rcases h with rfl|rfl|⟨d,d1,d2,rfl⟩
 ·exact⟨⟨by decide,λe he=>by cases he⟩,λe he=>by cases he⟩
 ·exact one 1 t3 (by decide) h1 aAz
 exact one d [] d1 d2 XC
def Ef(fs:Ft):Bool:=fs.any λd=>decide (d.2.length<3)
theorem Pe{fs:Ft}:EX fs↔Ef fs=true:=by unfold EX Ef;rw[List.any_eq_true];exact⟨λ⟨d,h1,h2⟩=>⟨d,h1,decide_eq_true h2⟩,λ⟨d,h1,h2⟩=>⟨d,h1,of_decide_eq_true h2⟩⟩
structure PSx(X:Cx)(st:Stmt)(tt:TS):Prop where
 out:PS X st tt
theorem U7{es:List Expr}{t:TA}(h:Rc X es t):wC X (.List es pos) (Np t):=⟨ba h.out⟩
theorem Pf{i j:Int}{c d k:Nat}{p q r:Pos}:wC X (.Tuple [.Constant (.int i) c p,.Constant (.int j) d q] k r) (qW (cA (tC (.int i)) (cA (tC (.int j)) iB))):=C1 (Dw OX (Dw OX yX))
theorem LG{i:Int}{c k:Nat}{p r:Pos}{es:List Expr}(h:wC X (.Tuple es x1 p1) te):wC X (.Tuple [.Constant (.int i) c p,.Tuple es x1 p1] k r) (qW (cA (tC (.int i)) (cA te iB))):=C1 (Dw OX (jk h yX))
theorem Ay{k:Nat}{r:Pos}{es:List Expr}(h:wC X (.Tuple es x1 p1) te):wC X (.Tuple [.Tuple es x1 p1] k r) (qW (cA te iB)):=C1 (jk h yX)
theorem aA0{k x2 x3:Nat}{r p2 p3:Pos}{e3:List Expr}{t2 t3:TE}(h1:wC X (.Tuple e1 x1 p1) t1)(h2:wC X (.Tuple e2 x2 p2) t2)(h3:wC X (.Tuple e3 x3 p3) t3):wC X (.Tuple [.Tuple e1 x1 p1,.Tuple e2 x2 p2,.Tuple e3 x3 p3] k r) (qW (cA t1 (cA t2 (cA t3 iB)))):=C1 (jk h1 (jk h2 (jk h3 yX)))
theorem XD{x2:Nat}{r p2:Pos}{t2:TE}(h1:wC X (.Tuple e1 x1 p1) t1)(h2:wC X (.Tuple e2 x2 p2) t2):wC X (.List [.Tuple e1 x1 p1,.Tuple e2 x2 p2] r) (Np (cA t1 (cA t2 iB))):=U7 (jk h1 (jk h2 yX))
theorem Pg(K:W.Frag){x:Str}{l b:Expr}{tl tb:TE}{ip pos':Pos}(hN:X.N.Nodup)(hi:X.N[i]?=some x)(hx:Loc X.env.scope x)(h:wC X l tl)(hb:PE X b tb)(hp:KQ b)(hK:X.K=K:=by rfl)(hf:X.fn x=true\/X.env.scope.names.lookup x=some .local:=by first|exact .inl rfl|exact .inr rfl|assumption)(hs:swapsWith (.Subscript l b ip) (some (.Name x pos')) pos.line X.env=pure false:=by rfl):
  PSx X (.Assign [.Name x pos'] (.Subscript l b ip) pos) (Nf (Q6 (Vq K) tl tb) (jd i)):=⟨aX hN hi hx (ai (aV K hK) h.out hb hp) hs hf⟩
theorem U8{o:Operator}{rd:R2}{l r:Expr}{tl tr:TE}(hop:qK X (binaryOp o) rd)(a:wC X l tl)(b:wC X r tr):wC X (.BinOp l o r pos) (Q6 rd tl tr):=⟨aQ hop a.out b.out⟩
theorem XE{e:Expr}(h:wC X e te):PSx X (.Return (some e) pos) (VY te):=⟨ah h.out⟩
structure TC(X:Cx)(ss:List Stmt)(tt:TS):Prop where
 out:J8 X ss tt
theorem aA1{ss:List Stmt}{tt:TS}{D:Ends}(h:TC X ss tt)(g:tt D σ H):∃tt,J8 X ss tt/\tt D σ H:=⟨tt,h.out,g⟩
theorem Pj{t1:TS}(h1:PSx X s1 t1):TC X [s1] t1:=⟨aF h1.out⟩
theorem Mj{ss:List Stmt}{t1 u:TS}(h1:PSx X s1 t1)(h3:TC X ss u):TC X (s1::ss) (Hc t1 u):=⟨aC h1.out h3.out⟩
theorem JF{r:Pos}(h1:wC X (.Tuple e1 x1 p1) t1):wC X (.List [.Tuple e1 x1 p1] r) (Np (cA t1 iB)):=U7 (jk h1 yX)
theorem Gr{k:Nat}{q:Pos}:wC X (.Tuple [] k q) (qW iB):=C1 yX
theorem TF{l r:Expr}{o:Operator}{k0 k1 k2:Nat}{p0 q0 q1 q2:Pos}(h:PE X (.BinOp l o r p0) te):PE X (.Tuple [.Tuple [.BinOp l o r p0,.Tuple [] k0 q0] k1 q1] k2 q2) (qW (cA (qW (cA te (cA (qW iB) iB))) iB)):=(Ay (C1 (Rf (WW h) (jk Gr yX)))).out
theorem zW{b l:Addr}{xs:List V}{o:HO}(h:cT K H b ys)(e:H l=some (.lst xs)):cT K (dl H l o) b ys:=by
 rcases h with(h|⟨u,h⟩)|h
 ·exact .inl (.inl (by rw[aE (λz=>by rw[z,e]at h;cases h)];exact h))
 ·exact .inl (.inr ⟨u,by rw[aE (λz=>by rw[z,e]at h;cases h)];exact h⟩)
 exact .inr h
theorem lN.put{a l:Addr}{fs:Ft}{xs:List V}{o:HO}(h:lN K H a fs)(e:H l=some (.lst xs)):lN K (dl H l o) a fs:=by obtain⟨nW,wz,h1,h2⟩:=h;refine⟨nW,wz,zW h1 e,λy d hd=>⟨zW (h2 y d hd).1 e,?_⟩⟩;obtain⟨us,g1,g2⟩:=(h2 y d hd).2;exact⟨us,zW g1 e,λz q hq=>zW (g2 z q hq) e⟩
def fV(K:W.Frag)(H:Hp)(vs:List V)(F:List Ft):Prop:=vs.length=F.length/\∀(k:Nat)(v:V)(fs:Ft),vs[k]?=some v->F[k]?=some fs->∃a,v=.ref a/\lN K H a fs
section
variable{vs us:List V}{F G:List Ft}
theorem fV.same(h:fV K H vs F)(s:aI H H'):fV K H' vs F:=⟨h.1,λk v fs hv hf=>by obtain⟨a,e,g⟩:=h.2 k v fs hv hf;exact⟨a,e,g.same s⟩⟩
theorem fV.put{l:Addr}{xs:List V}{o:HO}(h:fV K H vs F)(e:H l=some (.lst xs)):fV K (dl H l o) vs F:=⟨h.1,λk v fs hv hf=>by obtain⟨a,ea,g⟩:=h.2 k v fs hv hf;exact⟨a,ea,g.put e⟩⟩
theorem fV.one{a:Addr}{fs:Ft}(h:lN K H a fs):fV K H [.ref a] [fs]:=⟨rfl,λk v gs hv hf=>by
 cases k with
 |zero=>cases hv;cases hf;exact⟨a,rfl,h⟩
 |succ k=>cases hv⟩
theorem fV.cat(h:fV K H vs F)(g:fV K H us G):fV K H (vs++us) (F++G):=by
 refine⟨by rw[length_append,length_append,h.1,g.1],λk v fs hv hf=>?_⟩;by_cases z:k<vs.length
 ·rw[getElem?_append_left z]at hv;rw[getElem?_append_left (by rw[<-h.1];exact z)]at hf;exact h.2 k v fs hv hf
 rw[getElem?_append_right (by lia)]at hv;rw[getElem?_append_right (by rw[<-h.1];lia),<-h.1]at hf;exact g.2 _ v fs hv hf
theorem LH{α:Type}(n:Nat)(x:α):(List.replicate n [x]).flatten=List.replicate n x:=by
 induction n with
 |zero=>rfl
 |succ n ih=>rw[List.replicate_succ,List.flatten_cons,ih];rfl
theorem fV.rep{a:Addr}{fs:Ft}(h:lN K H a fs)(n:Nat):fV K H (List.replicate n [V.ref a]).flatten (List.replicate n fs):=by rw[LH];refine⟨by rw[length_replicate,length_replicate],λk v gs hv hf=>?_⟩;have e1:=(List.mem_replicate.mp (mem_of_getElem? hv)).2;have e2:=(List.mem_replicate.mp (mem_of_getElem? hf)).2;exact⟨a,e1,e2▸h⟩
theorem fV.at_{l:Addr}(h:fV K H vs F)(e:H l=some (.lst vs)):gN K H l F:=by
 have key:∀k,k<F.length->∃a,vs[k]?=some (.ref a):=λk hk=>by
  have Rv:k<vs.length:=by rw[h.1];exact hk
  obtain⟨a,ea,_⟩:=h.2 k vs[k] F[k] (getElem?_eq_getElem Rv) (getElem?_eq_getElem hk);exact⟨a,by rw[getElem?_eq_getElem Rv,ea]⟩
 refine⟨λk=>match vs[k]? with|some (.ref a)=>a|_=>0,?_,λk fs hf=>?_⟩
 ·rw[e]
  congr 2
  apply List.ext_getElem?;intro k;by_cases z:k<F.length
  ·obtain⟨a,ea⟩:=key k z;rw[ea,bu z];simp only[ea]
  rw[getElem?_eq_none (by rw[h.1];lia),getElem?_eq_none (by rw[aL];lia)]
 have hk:k<F.length:=(List.getElem?_eq_some_iff.mp hf).1;obtain⟨a,ea⟩:=key k hk;obtain⟨a',e',g⟩:=h.2 k _ fs ea hf;cases e';simp only[ea];exact g
theorem gN.v{l:Addr}(h:gN K H l F):∃vs,H l=some (.lst vs)/\fV K H vs F:=by obtain⟨nW,h1,h2⟩:=h;refine⟨_,h1,aL _ _,λk v fs hv hf=>?_⟩;obtain⟨_,rfl⟩:=tab_of hv;exact⟨nW k,rfl,h2 k fs hf⟩
end
theorem JG{Q:VK}(q:∀(H':Hp)(p a b:Addr),aI H H'->H' p=some (.lst [.ref a,.ref b])->lN K H' a []->lN K H' b [(1,t3)]->Q (.ref p) H'):
  Np (cA (qW iB) (cA (qW (cA (qW (cA (tC (.int 1)) (cA (qW (cA (qW (cA (tC (.int 0)) (cA (tC (.int 5)) iB))) (cA (qW (cA (tC (.int 7)) (cA (tC (.int 9)) iB))) (cA (qW (cA (tC (.int 23)) (cA (tC (.int 1)) iB))) iB)))) iB))) iB)) iB)) σ H Q:=by
 refine⟨zz0,λa0 h0=>⟨zz2,λa1 h1=>⟨zz2,λa2 h2=>⟨zz2,λa3 h3=>⟨zz3,λa4 h4=>⟨zz2,λa5 h5=>⟨zz1,λa6 h6=>⟨zz2,λp hp=>?_⟩⟩⟩⟩⟩⟩⟩⟩;have s0:=(aI.refl _).new (o:=.tup []) h0;have s1:=(aI.refl _).new (o:=.tup [.int 0,.int 5]) h1;have s2:=(aI.refl _).new (o:=.tup [.int 7,.int 9]) h2;have s3:=(aI.refl _).new (o:=.tup [.int 23,.int 1]) h3;have s4:=(aI.refl _).new (o:=.tup [.ref a1,.ref a2,.ref a3]) h4;have s5:=(aI.refl _).new (o:=.tup [.int 1,.ref a4]) h5;have s6:=(aI.refl _).new (o:=.tup [.ref a5]) h6;have s7:=(aI.refl _).new (o:=.lst [.ref a0,.ref a6]) hp;have z6:=s6.trans s7;have z5:=s5.trans z6;have z4:=s4.trans z5;have z3:=s3.trans z4;have z2:=s2.trans z3;have z1:=s1.trans z2;have e1:EW K _ a4 t3:=⟨λy=>if y=0 then a1 else if y=1 then a2 else a3,cT.of (z5 _ _ aA),λy c hc=>by
  match y,hc with
  |0,hc=>cases hc;exact cT.of (z2 _ _ aA)
  |1,hc=>cases hc;exact cT.of (z3 _ _ aA)
  |2,hc=>cases hc;exact cT.of (z4 _ _ aA)
  |y+3,hc=>simp[t3]at hc⟩
 exact q _ p a0 a6 (s0.trans z1) aA (W4 (cT.of (z1 _ _ aA))) (PL (cT.of (s7 _ _ aA)) (cT.of (z6 _ _ aA)) e1)
theorem wa{d:Int}{a b c:Addr}(ha:H a=none)(hb:(dl H a (.tup [])) b=none)(hc:(dl (dl H a (.tup [])) b (.tup [.int d,.ref a])) c=none):aI H (dl (dl (dl H a (.tup [])) b (.tup [.int d,.ref a])) c (.tup [.ref b]))/\lN K (dl (dl (dl H a (.tup [])) b (.tup [.int d,.ref a])) c (.tup [.ref b])) c [(d,[])]:=by have s1:=(aI.refl _).new (o:=.tup []) ha;have s2:=(aI.refl _).new (o:=.tup [.int d,.ref a]) hb;have s3:=(aI.refl _).new (o:=.tup [.ref b]) hc;exact⟨s1.trans (s2.trans s3),PL (cT.of aA) (cT.of (s3 _ _ aA)) (W3 (cT.of ((s2.trans s3) _ _ aA)))⟩
def qS(cr:Int)(n:Nat):List Ft:=(List.range n).map λ(k:Nat)=>[(cr-(k:Int),[])]
def hJ(cr:Int)(many:Nat)(odd:Int):List Ft:=[wZ]++List.replicate many (qR odd)++qS cr cr.toNat
def qT(K:W.Frag):Sp:=λvs H Q _=>∃(cr odd:Int)(many:Nat),vs=[.int cr,.int (many:Int),.int odd]/\1<=cr/\cr<=6/\many<=10/\0<=odd/\odd<2/\∀(r:Addr)(H':Hp),aI H H'->H r=none->gN K H' r (hJ cr many odd)->Q (.ref r) H'
theorem qU:aS ["late","many","odd","gone"] ["late","many","odd"] (aG eS):=ac
set_option maxHeartbeats 1000000 in
theorem zI(F:aO K mg "_law_stretch" eS)(T:Txt K mg t):Def P w K mg base 1 "_law_stretch" ["late","many","odd"] (qT K):=by
 refine F.def qU (λ_ _ _ _ _ _=>ap λ_ _ _=>rfl) (λvs H Q E h=>?_) (λf cB A outer s H vs Q E hr h=>?_)
 ·obtain⟨cr,odd,many,rfl,_⟩:=h;rfl
 obtain⟨cr,odd,many,rfl,l1,l6,hm,o0,o2,q⟩:=h;refine aA1 (Mj (Pg K (i:=3) qU.nd rfl (Or.inl rfl) (XD Gr (Ay (LG (aA0 Pf Pf Pf)))) (pv 2) (λ_ _=>rfl))
  (Pj (XE (U8 (fX K) (U8 (fX K) (JF (Ay (LG Gr))) (WW (aQ qm (ba (aB (pv 3) aD)) (pv 1)))) (WW (jf rfl (Nc:=["k","late"]) (ix:=[none,some 0]) (cW (aG eS) ["late","many","odd","gone"] rfl rfl (by decide +kernel)) (dH (by rfl) T.eF (aB (pv 0) aD)) (λC fp s H=>⟨(au (i:=0) (show(["k","late"]:List Str).Nodup by decide +kernel) rfl (Or.inl rfl)),cH,(TF (aQ dv (pv 1) (pv 0)))⟩))))))) ?_
 have hsz:(2000:Nat)<=sizeLine:=by decide
 unfold Hc Nf Q6;refine JG (K:=K) λH1 p a b s1 e1 fa fb=>?_;have XB:∃g,uL [V.ref a,V.ref b] odd=some (.ref g)/\lN K H1 g (qR odd):=by
  rcases(show odd=0\/odd=1 by lia)with z|z
  ·subst z;exact⟨a,rfl,fa⟩
  subst z;exact⟨b,rfl,fb⟩
 obtain⟨g,hg,fg⟩:=XB;refine⟨_,rfl,p,_,_,_,rfl,rfl,ae.of e1,hg,?_⟩;refine⟨zz0,λc0 XF=>⟨zz2,λc1 Qk=>⟨zz1,λc2 Qj=>⟨zz1,λOG U9=>?_⟩⟩⟩⟩;obtain⟨s2,f2⟩:=wa (K:=K) (d:=1) XF Qk Qj;generalize dl (dl (dl H1 c0 (.tup [])) c1 (.tup [.int 1,.ref c0])) c2 (.tup [.ref c1])=H2 at *;have s3:=(aI.refl H2).new (o:=.lst [.ref c2]) U9;have e3:(dl H2 OG (.lst [.ref c2])) OG=some (.lst [.ref c2]):=aA;generalize dl H2 OG (.lst [.ref c2])=H3 at *;refine⟨_,rfl,zz1,λl2 NS=>?_⟩;have s4:=(aI.refl H3).new (o:=.lst [.ref g]) NS;have e4:(dl H3 l2 (.lst [.ref g])) l2=some (.lst [.ref g]):=aA;generalize dl H3 l2 (.lst [.ref g])=H4 at *;refine⟨_,rfl,l2,_,_,rfl,rfl,e4,by lia,by lia,by show 1*_<=_;rw[Int.toNat_natCast];lia,λl3 Wv=>?_⟩;rw[Int.toNat_natCast];have s5:=(aI.refl H4).new (o:=.lst (List.replicate many [V.ref g]).flatten) Wv;have e5:(dl H4 l3 (.lst (List.replicate many [V.ref g]).flatten)) l3=some (.lst (List.replicate many [V.ref g]).flatten):=aA;generalize dl H4 l3 (.lst (List.replicate many [V.ref g]).flatten)=H5 at *;have s25:=s3.trans (s4.trans s5);have v1:fV K H5 [.ref c2] [wZ]:=fV.one (f2.same s25);have v2:fV K H5 (List.replicate many [V.ref g]).flatten (List.replicate many (qR odd)):=fV.rep (fg.same (s2.trans s25)) many;have vl:=v2.1;rw[length_replicate]at vl;refine⟨OG,l3,_,_,rfl,rfl,ae.of ((s4.trans s5) _ _ e3),ae.of e5,by rw[vl];show 1+_<=_;lia,λl4 X1=>?_⟩;have s6:=(aI.refl H5).new (o:=.lst ([V.ref c2]++(List.replicate many [V.ref g]).flatten)) X1;have e6:(dl H5 l4 (.lst ([V.ref c2]++(List.replicate many [V.ref g]).flatten))) l4=some (.lst ([V.ref c2]++(List.replicate many [V.ref g]).flatten)):=aA;generalize dl H5 l4 (.lst ([V.ref c2]++(List.replicate many [V.ref g]).flatten))=H6 at *;have v3:=(v1.cat v2).same s6;refine⟨_,rfl,cr,rfl,by lia,by lia,λD hD=>?_⟩;refine m9 (lo:=0) (n:=cr.toNat) (λi σ H'=>(∃v0,σ=[v0,some (.int cr)])/\aI H6 H'/\∃vs,H' D=some (.lst vs)/\fV K H' vs (qS cr i)) ⟨⟨none,rfl⟩,(aI.refl _).new hD,[],aA,rfl,λk v fs hv=>by cases hv⟩ ?_ ?_
 ·rintro i σ H7 N hN hi ⟨⟨v0,rfl⟩,s7,vs,e7,v7⟩;rw[show(0:Int)+(i:Nat)=(i:Int) by lia];have Ml:=v7.1;unfold qS at Ml;rw[length_map,List.length_range]at Ml;refine dF ?_;refine⟨_,rfl,_,rfl,_,_,rfl,rfl,zz0,λc0 XF=>⟨zz2,λc1 Qk=>⟨zz1,λc2 Qj=>?_⟩⟩⟩;obtain⟨s8,f8⟩:=wa (K:=K) (d:=cr-(i:Int)) XF Qk Qj;refine⟨vs,s8 _ _ e7,by lia,hN _ _ ⟨⟨_,rfl⟩,(s7.trans s8).put hD,_,aA,?_⟩⟩;have e8:qS cr (i+1)=qS cr i++[[(cr-(i:Int),[])]]:=by unfold qS;rw[List.range_succ,map_append];rfl
  rw[e8];exact((v7.same s8).cat (fV.one f8)).put (s8 _ _ e7)
 rintro σ H7 ⟨⟨v0,rfl⟩,s7,vs,e7,v7⟩;have Ml:=v7.1;unfold qS at Ml;rw[length_map,List.length_range]at Ml;refine⟨l4,D,_,_,rfl,rfl,ae.of (s7 _ _ e6),ae.of e7,?_,λr hr=>?_⟩
 ·rw[length_append,vl,Ml];show 1+_+_<=_;lia
 have s8:=(aI.refl H7).new (o:=.lst (([V.ref c2]++(List.replicate many [V.ref g]).flatten)++vs)) hr;have sA:=s1.trans (s2.trans (s25.trans (s6.trans s7)));exact q r _ (sA.trans s8) (sA.free hr) ((((v3.same s7).cat v7).same s8).at_ aA)
def rn(r:Nat)(fs:Ft):Nat:=if Ef fs=true then 0 else r+1
def rY(F:List Ft):Nat:=F.foldl rn 0
def Kept(db:Nat)(F:List Ft):Prop:=∀i,rY (F.take i)<=db
theorem Pk:∀(F:List Ft)(r:Nat),F.foldl rn r<=r+F.length
 |[],r=>le_refl _
 |fs::F,r=>by
  have:=Pk F (rn r fs);have h:rn r fs<=r+1:=by unfold rn;split<;>lia
  show F.foldl rn (rn r fs)<=_;rw[length_cons];lia
theorem Eg:∀(F:List Ft)(r:Nat),(∀fs∈F,Ef fs=true)->F≠[]->F.foldl rn r=0
 |[],_,_,h=>absurd rfl h
 |fs::F,r,h,_=>by
  have e:rn r fs=0:=if_pos (h fs mem_cons_self);show F.foldl rn (rn r fs)=0;rw[e];cases F with
  |nil=>rfl
  |cons g F=>exact Eg (g::F) 0 (λx hx=>h x (mem_cons_of_mem _ hx)) (List.cons_ne_nil _ _)
theorem Kept.cat{F S:List Ft}{fs:Ft}(h:Kept db F)(g:Kept db (fs::S))(hf:Ef fs=true):Kept db (F++fs::S):=λi=>by
 by_cases z:i<=F.length
 ·rw[List.take_append_of_le_length z];exact h i
 obtain⟨j,rfl⟩:∃j,i=F.length+(j+1):=⟨i-F.length-1,by lia⟩;have e1:rn (rY F) fs=0:=if_pos hf;have e2:rn 0 fs=0:=if_pos hf;have:=g (j+1);rw[List.take_length_add_append];unfold rY at this ⊢;rw[List.take_succ_cons]at this ⊢;rw[List.foldl_append,List.foldl_cons];rw[List.foldl_cons,e2]at this;show(S.take j).foldl rn (rn (rY F) fs)<=db;rw[e1];exact this
theorem Gs{F:List Ft}(h:∀fs∈F,Ef fs=true):Kept db F:=λi=>by
 by_cases z:F.take i=[]
 ·rw[z];exact zero_le _
 have:=Eg (F.take i) 0 (λfs hx=>h fs (List.mem_of_mem_take hx)) z;unfold rY;rw[this];exact zero_le _
theorem Pl:Ef wZ=true:=rfl
theorem Pm{n:Nat}:∀fs∈qS cr n,Ef fs=true:=λfs hx=>by obtain⟨k,_,rfl⟩:=List.mem_map.mp hx;rfl
theorem Eh(h1:1<=cr):Kept db (hJ cr db odd):=λi=>by
 unfold hJ;by_cases z:i<=([wZ]++List.replicate db (qR odd)).length
 ·rw[List.take_append_of_le_length z];cases i with
  |zero=>exact zero_le _
  |succ i =>
   show rY (wZ::(List.replicate db (qR odd)).take i)<=db;have:=Pk ((List.replicate db (qR odd)).take i) 0;rw[length_take,length_replicate]at this;show((List.replicate db (qR odd)).take i).foldl rn (rn 0 wZ)<=db;rw[show rn 0 wZ=0 from rfl];lia
 obtain⟨j,rfl⟩:∃j,i=([wZ]++List.replicate db (qR odd)).length+(j+1):=⟨i-([wZ]++List.replicate db (qR odd)).length-1,by lia⟩;rw[List.take_length_add_append];unfold rY;rw[List.foldl_append];have e:((qS cr cr.toNat).take (j+1)).foldl rn (([wZ]++List.replicate db (qR odd)).foldl rn 0)=0:=Eg _ _ (λfs hx=>Pm fs (List.mem_of_mem_take hx)) (λy=>by have:=congrArg List.length y;unfold qS at this;rw[length_take,length_map,List.length_range]at this;have:([]:List Ft).length=0:=rfl;lia)
 rw[e];exact zero_le _
theorem JH(h1:1<=cr):∀fs∈hJ cr many odd,KF cr fs:=λfs hx=>by
 unfold hJ at hx;rcases mem_append.mp hx with hx|hx
 ·rcases mem_append.mp hx with hx|hx
  ·rw[mem_singleton.mp hx];exact .inr (.inr ⟨1,Int.le_refl _,h1,rfl⟩)
  rw[(List.mem_replicate.mp hx).2];unfold qR;split
  ·exact .inl rfl
  exact .inr (.inl rfl)
 obtain⟨k,hk,rfl⟩:=List.mem_map.mp hx;have:=List.mem_range.mp hk;exact .inr (.inr ⟨cr-(k:Int),by lia,by lia,rfl⟩)
theorem Gu:(hJ cr many odd).length=1+many+cr.toNat:=by unfold hJ qS;rw[length_append,length_append,length_replicate,length_map,List.length_range];rfl
theorem Ej(cr odd:Int)(many:Nat):hJ cr many odd=wZ::(List.replicate many (qR odd)++qS cr cr.toNat):=rfl
theorem Pn(ns:List Int)(lo hi:Option Int):∃as:List Int,cU (ns.map V.int) lo hi=as.map V.int/\∀a∈as,a∈ns:=by refine⟨(ns.drop (HT.gF (ns.map V.int).length 0 lo)).take (HT.gF (ns.map V.int).length (ns.map V.int).length hi-HT.gF (ns.map V.int).length 0 lo),?_,λa h=>List.mem_of_mem_drop (List.mem_of_mem_take h)⟩;unfold cU;rw[List.map_take,List.map_drop]
def uF(K:W.Frag):Sp:=λvs H Q _=>∃(sc:Addr)(ns:List Int)(cr:Int)(db side:Nat),vs=[.ref sc,.int cr,.int (db:Int),.int (side:Int)]/\ae K H sc (ns.map V.int)/\ns.length<=63/\1<=cr/\cr<=6/\db<=4/\side<2 /\
 ∀(r fl:Addr)(H':Hp)(F:List Ft)(kp:Bool),aI H H'->H r=none->H fl=none->H' r=some (.tup [.ref fl,.bl kp])->gN K H' fl F->(∀fs∈F,KF cr fs)->(kp=true->Kept db F)->F.length<=100->Q (.ref r) H'
theorem aD9{k:Nat}(h:k<ms.length):∃m,uL (ms.map V.int) (k:Int)=some (.int m)/\ms[k]?=some m:=⟨ms[k],gU (by rw[getElem?_map,getElem?_eq_getElem h];rfl),getElem?_eq_getElem h⟩
theorem bS:aS ["script","late","lost","side","head","fates","kept","cell","more","which","odd","size","many"] ["script","late","lost","side"] (aG jt):=ac
set_option maxHeartbeats 2000000 in
theorem Bw(F:aO K mg "_law_fates" jt)(T:Txt K mg t)(dQ:Def P w K mg base 1 "_law_cell_at" ["script","k"] (jN K))(dc:Def P w K mg base 2 "_law_drawn" ["cell","bounds"] (mG K))(kQ:Def P w K mg base 1 "_law_stretch" ["late","many","odd"] (qT K)):Def P w K mg base 3 "_law_fates" ["script","late","lost","side"] (uF K):=by
 refine F.def bS (λ_ _ _ _ _ _=>bd λ_ _ _ _=>rfl) (λvs H Q E h=>?_) (λf cB A outer s H vs Q E hr h=>?_)
 ·obtain⟨sc,ns,cr,db,side,rfl,_⟩:=h;rfl
 obtain⟨sc,ns,cr,db,side,rfl,hS,Y0,l1,l6,hlo,Dr,q⟩:=h;refine⟨_,aC (aX (i:=4) bS.nd rfl (Or.inl rfl) (aY (dc.mono (by decide)) hr av (aB (aY (dQ.mono (by decide)) hr av (aB (pv 0) (aB aH aD))) (aB (ba (aB aH (aB aH (aB aH (aB aH aD))))) aD))))
  (aC (aX (i:=5) bS.nd rfl (Or.inl rfl) (aQ qm (wC.out (JF (Ay (LG Gr)))) (ai (aV K) (pv 4) (aQ bK aH (pv 3)) (λ_ _=>rfl))))
  (aC (aX (i:=6) bS.nd rfl (Or.inl rfl) d9)
  (aC (PS.Ck (cO PassesOwn.never rfl (bz K (aQ (fX K) (cw (dN K) (pv 0) (cD aH) (cD aH)) (ba (aB aH aD)))) (au (i:=7) bS.nd rfl (Or.inl rfl))
   (aC (oB (aY (dc.mono (by decide)) hr av (aB (pv 7) (aB (ba (aB aH (aB aH (aB aH (aB aH aD))))) aD))) (Kh K rfl (eN (au (i:=8) bS.nd rfl (Or.inl rfl)) (eN (au (i:=9) bS.nd rfl (Or.inl rfl)) (eN (au (i:=10) bS.nd rfl (Or.inl rfl)) (eN (au (i:=11) bS.nd rfl (Or.inl rfl)) zM))))))
   (aC (aX (i:=12) bS.nd rfl (Or.inl rfl) (pv 2))
   (aC (l8 (bO (PW.pt (nv (aZ jA (pv 8) aH (af _)) (lP (aZ vq (pv 9) (pv 3) (af _)))))
    (aC (aX (i:=12) bS.nd rfl (Or.inl rfl) (aQ bK (aQ bK (pv 2) aH) (pv 11)))
    (aF (aX (i:=6) bS.nd rfl (Or.inl rfl) d9)))
    (aj)))
   (aF (aX (i:=5) bS.nd rfl (Or.inl rfl) (aQ (fX K) (pv 5) (aY (kQ.mono (by decide)) hr av (aB (pv 1) (aB (pv 12) (aB (pv 10) aD))))))))))))
  (aF (ah (gT (aB (pv 5) (aB (pv 6) aD)))))))),?_⟩
 have hsz:(2000:Nat)<=sizeLine:=by decide
 refine⟨_,rfl,sc,ns,0,rfl,hS,by decide,λc=>?_⟩;refine⟨zz4,λl0 V1=>?_⟩;have s0:=(aI.refl H).new (o:=.lst [.int 6,.int 5,.int 4,.int 4]) V1;refine⟨c,l0,[6,5,4,4],rfl,ae.of aA,by decide,by decide,λhd H1 ms s1 n1 e1 dr=>?_⟩;obtain⟨mk,XB,emk⟩:=aD9 (ms:=ms) (k:=2+side) (by rw[dr.1];show 2+side<4;lia);have hmk:0<=mk/\mk<4:=dr.2 _ mk 4 emk (by
  match side,Dr with
  |0,_=>rfl
  |1,_=>rfl
  |n+2,h=>lia)
 refine⟨zz0,λc0 XF=>⟨zz2,λc1 Qk=>⟨zz1,λc2 Qj=>⟨zz1,λOG U9=>?_⟩⟩⟩⟩;obtain⟨s2,f2⟩:=wa (K:=K) (d:=1) XF Qk Qj;generalize dl (dl (dl H1 c0 (.tup [])) c1 (.tup [.int 1,.ref c0])) c2 (.tup [.ref c1])=H2 at *;have s3:=(aI.refl H2).new (o:=.lst [.ref c2]) U9;have e3:(dl H2 OG (.lst [.ref c2])) OG=some (.lst [.ref c2]):=aA;generalize dl H2 OG (.lst [.ref c2])=H3 at *;have e1':=(s2.trans s3) _ _ e1;refine⟨_,rfl,_,rfl,_,_,rfl,rfl,hd,_,_,_,rfl,rfl,ae.of e1',by rw[show(2:Int)+(side:Int)=((2+side:Nat):Int) by lia];exact XB,OG,_,_,rfl,rfl,e3,by lia,by lia,by show 1*_<=_;lia,λl2 NS=>?_⟩;have s4:=(aI.refl H3).new (o:=.lst (List.replicate mk.toNat [V.ref c2]).flatten) NS;have e4:(dl H3 l2 (.lst (List.replicate mk.toNat [V.ref c2]).flatten)) l2=some (.lst (List.replicate mk.toNat [V.ref c2]).flatten):=aA;generalize dl H3 l2 (.lst (List.replicate mk.toNat [V.ref c2]).flatten)=H4 at *;have VA:=s0.trans (s1.trans (s2.trans (s3.trans s4)));have F0:gN K H4 l2 (List.replicate mk.toNat wZ):=(fV.rep (f2.same (s3.trans s4)) mk.toNat).at_ e4;refine⟨_,rfl,_,rfl,_,rfl,sc,_,rfl,VA.seq hS,λl3 Wv=>?_⟩;obtain⟨as,iA,_⟩:=Pn ns (some 1) (some 6);have las:as.length<=5:=by
  have h1:=congrArg List.length iA;rw[length_map]at h1;rw[<-h1];unfold cU;rw[length_take,List.length_drop];have h2:HT.gF (ns.map V.int).length 0 (some 1)=min 1 (ns.map V.int).length:=by rw[show(1:Int)=((1:Nat):Int)from rfl,HT.ji]
  have h3:HT.gF (ns.map V.int).length (ns.map V.int).length (some 6)=min 6 (ns.map V.int).length:=by rw[show(6:Int)=((6:Nat):Int)from rfl,HT.ji]
  rw[h2,h3];lia
 have s5:aI H4 (dl H4 l3 (.lst (cU (ns.map V.int) (some 1) (some 6)))):=(aI.refl _).new Wv;have e5:(dl H4 l3 (.lst (cU (ns.map V.int) (some 1) (some 6)))) l3=some (.lst (as.map V.int)):=by rw[aA,iA]
 refine⟨zz1,λl4 X1=>?_⟩;have s6:=(aI.refl _).new (o:=.lst [.int 0]) X1;refine⟨l3,l4,_,_,rfl,rfl,ae.of (s6 _ _ e5),ae.of aA,by rw[length_map];show _+1<=_;lia,λl5 hl5=>?_⟩;have s7:=(aI.refl _).new (o:=.lst (as.map V.int++[.int 0])) hl5;have e7:(dl (dl (dl H4 l3 (.lst (cU (ns.map V.int) (some 1) (some 6)))) l4 (.lst [.int 0])) l5 (.lst (as.map V.int++[.int 0]))) l5=some (.lst ((as++[0]).map V.int)):=by rw[aA,map_append];rfl
 have s47:=s5.trans (s6.trans s7);generalize dl (dl (dl H4 l3 (.lst (cU (ns.map V.int) (some 1) (some 6)))) l4 (.lst [.int 0])) l5 (.lst (as.map V.int++[.int 0]))=H7 at *;refine⟨l5,rfl,⟨_,ae.of e7⟩,?_⟩
 let I1:Nat->_->_->Prop:=λi σ H'=>∃(v7 v8 v9 v10 v11 v12:Option V)(fl:Addr)(Fs:List Ft)(kp:Bool),σ=[some (.ref sc),some (.int cr),some (.int (db:Int)),some (.int (side:Int)),some (.ref hd),some (.ref fl),some (.bl kp),v7,v8,v9,v10,v11,v12]/\aI H7 H'/\gN K H' fl Fs/\(∀fs∈Fs,KF cr fs)/\(kp=true->Kept db Fs)/\Fs.length<=3+13*i/\H fl=none
 refine gS (K:=K) (a:=l5) (xs:=(as++[0]).map V.int) I1
  ⟨none,none,none,none,none,none,l2,_,true,rfl,aI.refl _,F0.same s47,λfs hx=>by rw[(List.mem_replicate.mp hx).2];exact .inr (.inr ⟨1,Int.le_refl _,l1,rfl⟩),λ_=>Gs λfs hx=>by rw[(List.mem_replicate.mp hx).2];rfl,by rw[length_replicate];lia,(s0.trans (s1.trans (s2.trans s3))).free NS⟩ (λi σ H' _ ⟨_,_,_,_,_,_,_,_,_,_,s',_⟩=>ae.of (s' _ _ e7)) ?_ ?_
 ·rintro i v σ H8 hi ⟨v7,v8,v9,v10,v11,v12,fl,Fs,kp,rfl,s8,hF,LF,hkp,YC,Xl⟩;obtain⟨cc,NL,rfl⟩:=jj hi;have hi6:i<6:=by have:=(List.getElem?_eq_some_iff.mp NL).1;rw[length_append]at this;have z:[(0:Int)].length=1:=rfl;lia
  refine⟨_,rfl,zz4,λl6' hl6=>?_⟩;have s9:=(aI.refl H8).new (o:=.lst [.int 3,.int 3,.int 2,.int 2]) hl6;refine⟨cc,l6',[3,3,2,2],rfl,ae.of aA,by decide,by decide,λr0 H9 ms9 s10 n10 e10 dr9=>?_⟩;obtain⟨m0,m1,m2,m3,rfl⟩:∃m0 m1 m2 m3,ms9=[m0,m1,m2,m3]:=by
   have:=dr9.1
   match ms9,this with
   |[m0,m1,m2,m3],_=>exact⟨m0,m1,m2,m3,rfl⟩
  have b2:=dr9.2 2 m2 2 rfl rfl;have b3:=dr9.2 3 m3 2 rfl rfl;obtain⟨k3,rfl⟩:∃k:Nat,m3=(k:Int):=⟨m3.toNat,by lia⟩;refine⟨r0,_,rfl,ae.of e10,rfl,_,_,rfl,_,_,rfl,_,_,rfl,_,_,rfl,rfl,?_⟩;have sX:=s9.trans s10;generalize dl H8 l6' (.lst [.int 3,.int 3,.int 2,.int 2])=H8' at *;refine⟨_,rfl,?_⟩;refine⟨λσ H'=>∃(many:Nat)(kp':Bool),σ=[some (.ref sc),some (.int cr),some (.int (db:Int)),some (.int (side:Int)),some (.ref hd),some (.ref fl),some (.bl kp'),some (.int cc),some (.int m0),some (.int m1),some (.int m2),some (.int (k3:Int)),some (.int (many:Int))]/\H'=H9/\many<=db+2/\(kp'=true->kp=true/\many=db),?_,?_⟩
  ·refine⟨_,rfl,rfl,_,rfl,?_⟩;by_cases z:m0=1
   ·refine eJ (congrArg V.int z) ⟨_,rfl,_,rfl,rfl,_,rfl,?_⟩;by_cases w:m1=(side:Int)
    ·exact jg (congrArg V.int w) ⟨db,kp,rfl,rfl,by lia,λh=>⟨h,rfl⟩⟩
    refine wA (λy=>w (V.int.inj y)) ?_;refine⟨_,rfl,_,_,rfl,rfl,_,rfl,_,_,rfl,rfl,?_⟩;exact⟨db+1+k3,false,rfl,rfl,by lia,λh=>by cases h⟩
   exact eZ (λy=>z (V.int.inj y)) (dX ⟨db,kp,rfl,rfl,by lia,λh=>⟨h,rfl⟩⟩)
  rintro σ H' ⟨many,kp',rfl,rfl,aFk,aDE⟩;refine⟨_,rfl,_,rfl,_,rfl,_,rfl,cr,m2,many,rfl,l1,l6,by lia,b2.1,b2.2,λr1 H10 s11 n11 F1=>?_⟩;obtain⟨xs,g1,g2⟩:=((hF.same sX).same s11).v;obtain⟨ys,g3,g4⟩:=F1.v;have sl:=Gu (cr:=cr) (odd:=m2) (many:=many);refine⟨fl,r1,xs,ys,rfl,rfl,ae.of g1,ae.of g3,by rw[g2.1,g4.1,sl];lia,λp hp=>?_⟩;have s12:=(aI.refl H10).new (o:=.lst (xs++ys)) hp;refine⟨_,_,_,_,_,_,p,Fs++hJ cr many m2,kp',rfl,s8.trans (sX.trans (s11.trans s12)),((g2.cat g4).same s12).at_ aA,λfs hx=>(mem_append.mp hx).elim (LF fs) (JH l1 fs),λh=>?_,by rw[length_append,sl];lia,(VA.trans (s47.trans (s8.trans (sX.trans s11)))).free hp⟩;obtain⟨k1,rfl⟩:=aDE h;have:=Eh (cr:=cr) (odd:=m2) (db:=many) l1;rw[Ej]at this ⊢;exact(hkp k1).cat this Pl
 rintro σ H8 ⟨v7,v8,v9,v10,v11,v12,fl,Fs,kp,rfl,s8,hF,LF,hkp,YC,Xl⟩;refine⟨_,rfl,_,rfl,zz2,λr hr=>?_⟩;have s9:=(aI.refl H8).new (o:=.tup [.ref fl,.bl kp]) hr;have sA:=VA.trans (s47.trans s8);refine q r fl _ Fs kp (sA.trans s9) (sA.free hr) Xl aA (hF.same s9) LF hkp ?_;rw[length_map,length_append]at YC;have z:[(0:Int)].length=1:=rfl;lia
def rZ(g j:Nat)(d:Int×Ts):Bool:=decide (g+d.1.toNat=j)&&decide (d.2.length<3)
def mH(F:List Ft)(g j:Nat):Bool:=(List.range g).any λk=>(F.getD k []).any (rZ k j)
def bF(F:List Ft)(j:Nat):Bool:=mH F F.length j
theorem DT{F:List Ft}:bF F j=true↔∃(g:Nat)(fs:Ft)(d:Int×Ts),F[g]?=some fs/\d∈fs/\g+d.1.toNat=j/\d.2.length<3:=by
 unfold bF mH;rw[List.any_eq_true];constructor
 ·rintro⟨g,hg,h⟩;have eI:=List.mem_range.mp hg;rw[List.any_eq_true]at h;obtain⟨d,hd,h⟩:=h;unfold rZ at h;rw[Bool.and_eq_true]at h;rw[getD_eq_getElem?_getD,getElem?_eq_getElem eI]at hd;exact⟨g,_,d,getElem?_eq_getElem eI,hd,of_decide_eq_true h.1,of_decide_eq_true h.2⟩
 rintro⟨g,fs,d,hg,hd,h1,h2⟩;refine⟨g,List.mem_range.mpr (List.getElem?_eq_some_iff.mp hg).1,?_⟩;rw[List.any_eq_true];refine⟨d,by rw[getD_eq_getElem?_getD,hg];exact hd,?_⟩;unfold rZ;rw[decide_eq_true h1,decide_eq_true h2];rfl
theorem Gv(F:List Ft)(g j:Nat):mH F (g+1) j=(mH F g j||(F.getD g []).any (rZ g j)):=by unfold mH;rw[List.range_succ,List.any_append];simp
def uG(K:W.Frag):Sp:=λvs H Q _=>∃(l:Addr)(F:List Ft),vs=[.ref l,.int (F.length:Int)]/\gN K H l F/\F.length<=1000/\(∀fs∈F,∀d∈fs,1<=d.1)/\∀(r:Addr)(H':Hp),aI H H'->H r=none->H' r=some (.lst (bW F.length λj=>.bl (bF F j)))->Q (.ref r) H'
theorem i9:aS ["fates","ticks","heard","start","delay","turns"] ["fates","ticks"] (aG ju):=ac
set_option maxHeartbeats 1000000 in
theorem Bx(F:aO K mg "_law_heard" ju)(T:Txt K mg t):Def P w K mg base 1 "_law_heard" ["fates","ticks"] (uG K):=by
 refine F.def i9 (λ_ _ _ _ _ _=>am λ_ _=>rfl) (λvs H Q E h=>?_) (λf cB A outer s H vs Q E hr h=>?_)
 ·obtain⟨l,F',rfl,_⟩:=h;rfl
 obtain⟨l,F',rfl,⟨nW,hl,hf⟩,hn,hd,q⟩:=h;refine⟨_,aC (aX (i:=2) i9.nd rfl (Or.inl rfl) (aQ qm (ba (aB d9 aD)) (pv 1)))
  (aC (PS.Ck (cO PassesOwn.never rfl (dH (by rfl) T.eF (aB (bP (bY K) (by rfl) T.gI boot_len (aB (pv 0) aD)) aD)) (au (i:=3) i9.nd rfl (Or.inl rfl))
   (aF (cO PassesOwn.never rfl (tE K (ai (aV K) (pv 0) (pv 3) (λ_ _=>rfl))) (iz K (i:=4) (j:=5) rfl i9.nd rfl rfl (Or.inl rfl) (Or.inl rfl))
    (aF (bO (PW.pt (nv (aZ lQ (aQ bK (pv 3) (pv 4)) (pv 1) (af _)) (lP (aZ lQ (bP (bY K) (by rfl) T.gI boot_len (aB (pv 5) aD)) aH (af _)))))
     (aF (oB d9 (oA (pv 2) (aQ bK (pv 3) (pv 4)) set_list)))
     (aj)))))))
  (aF (ah (pv 2)))),?_⟩
 have hsz:(2000:Nat)<=sizeLine:=by decide
 refine⟨zz1,λl1 U9=>?_⟩;have s1:=(aI.refl H).new (o:=.lst [.bl false]) U9;refine⟨_,rfl,l1,_,_,rfl,rfl,aA,by lia,by lia,by rw[Int.toNat_natCast];show 1*_<=_;lia,λL hL=>?_⟩;rw[Int.toNat_natCast,LH];have hLH:H L=none:=s1.free hL;have s2:=s1.new (o:=.lst (List.replicate F'.length (V.bl false))) hL;have e2:(dl (dl H l1 (.lst [.bl false])) L (.lst (List.replicate F'.length (V.bl false)))) L=some (.lst (bW F'.length λj=>.bl (mH F' 0 j))):=by
  rw[aA]
  congr 2
  apply List.ext_getElem?;intro j;by_cases z:j<F'.length
  ·rw[bu z,List.getElem?_replicate,if_pos z];rfl
  rw[getElem?_eq_none (by rw[length_replicate];lia),getElem?_eq_none (by rw[aL];lia)]
 generalize dl (dl H l1 (.lst [.bl false])) L (.lst (List.replicate F'.length (V.bl false)))=H2 at *;refine⟨_,rfl,l,_,rfl,.inl (ae.of (s2 _ _ hl)),(F'.length:Int),by rw[aL],by lia,by lia,?_⟩;rw[Int.toNat_natCast];refine gE (lo:=0) (n:=F'.length) (λg σ H'=>∃v3 v4 v5:Option V,σ=[some (.ref l),some (.int (F'.length:Int)),some (.ref L),v3,v4,v5]/\aI H H'/\H' L=some (.lst (bW F'.length λj=>.bl (mH F' g j)))) ⟨none,none,none,rfl,s2,e2⟩ ?_ ?_
 ·rintro g σ H3 hg ⟨v3,v4,v5,rfl,s3,e3⟩;rw[show(0:Int)+(g:Nat)=(g:Int) by lia];have eg:F'[g]?=some F'[g]:=by simp[hg]
  have egd:F'.getD g []=F'[g]:=by rw[getD_eq_getElem?_getD,eg];rfl
  have hdg:=hd F'[g] (mem_of_getElem? eg);obtain⟨as,wz,hA,ht⟩:=hf g _ eg;generalize F'[g]=fs at *;refine⟨_,rfl,_,rfl,l,_,_,_,rfl,rfl,ae.of (s3 _ _ hl),gU (bu hg),nW g,rfl,⟨_,s3.tup hA⟩,?_⟩;refine vp (K:=K) (a:=nW g) (xs:=bB fs.length as) (λi σ H'=>∃v4 v5:Option V,σ=[some (.ref l),some (.int (F'.length:Int)),some (.ref L),some (.int (g:Int)),v4,v5]/\aI H H'/\H' L=some (.lst (bW F'.length λj=>.bl (mH F' g j||(fs.take i).any (rZ g j))))) ⟨v4,v5,rfl,s3,by rw[e3];congr 2;exact bX λj _=>by simp⟩ (λi σ H' _ ⟨_,_,_,s',_⟩=>s'.tup hA) ?_ ?_
  ·rintro i x σ H4 hx ⟨v4,v5,rfl,s4,e4⟩;obtain⟨hi,rfl⟩:=tab_of hx;have ei:fs[i]?=some fs[i]:=(by simp[hi]);generalize fs[i]=c at ei;have c1:=hdg c (mem_of_getElem? ei);obtain⟨k1,us,k2,k3⟩:=ht i c ei;refine kA (s4.tup k1) ?_;have Qm:∀(j:Nat),((fs.take (i+1)).any (rZ g j))=((fs.take i).any (rZ g j)||rZ g j c):=λj=>(by rw[take_succ ei,List.any_append];simp);have skip:(∀j,j<F'.length->rZ g j c=false)->some (HO.lst (bW F'.length λj=>.bl (mH F' g j||(fs.take i).any (rZ g j))))=some (.lst (bW F'.length λj=>.bl (mH F' g j||(fs.take (i+1)).any (rZ g j)))):=λh=>by
    congr 2
    exact bX λj hj=>by rw[Qm,h j hj,Bool.or_false]
   refine⟨_,rfl,_,rfl,_,_,rfl,rfl,_,rfl,_,_,rfl,rfl,_,rfl,?_⟩;by_cases z1:(g:Int)+c.1<(F'.length:Int)
   ·refine eJ z1 ⟨_,rfl,wz i,_,rfl,.inr (s4.tup k2),_,_,rfl,rfl,_,rfl,?_⟩;by_cases z2:c.2.length<3
    ·refine eJ (by rw[aL];lia) ?_;have hj:g+c.1.toNat<F'.length:=(by lia);have ej:(g:Int)+c.1=((g+c.1.toNat:Nat):Int):=(by lia);refine⟨_,rfl,_,rfl,_,rfl,_,_,rfl,rfl,L,_,_,g+c.1.toNat,rfl,rfl,e4,?_,?_⟩
     ·show Hw _ ((g:Int)+c.1)=_;unfold Hw;rw[ej,aL,if_pos (by lia),if_pos (by lia),Int.toNat_natCast]
     refine⟨_,_,rfl,s4.put hLH,?_⟩;rw[aA,sx hj]
     congr 2
     refine bX λj _=>?_;rw[Qm];by_cases w:j=g+c.1.toNat
     ·rw[if_pos w];have:rZ g j c=true:=(by unfold rZ;rw[decide_eq_true w.symm,decide_eq_true z2];rfl);rw[this,Bool.or_true,Bool.or_true]
     rw[if_neg w];have:rZ g j c=false:=(by unfold rZ;rw[decide_eq_false (λy=>w y.symm)];rfl);rw[this,Bool.or_false]
    refine eZ (by rw[aL];lia) ?_;refine⟨_,_,rfl,s4,e4.trans (skip λj _=>?_)⟩;unfold rZ;rw[decide_eq_false z2,Bool.and_false]
   refine eZ z1 (dX ?_);refine⟨_,_,rfl,s4,e4.trans (skip λj hj=>?_)⟩;unfold rZ;rw[decide_eq_false (by lia)];rfl
  rintro σ H4 ⟨v4,v5,rfl,s4,e4⟩;refine⟨_,_,_,rfl,s4,e4.trans ?_⟩
  congr 2
  refine bX λj _=>?_;rw[aL,take_length,Gv,egd]
 rintro σ H3 ⟨v3,v4,v5,rfl,s3,e3⟩;exact⟨_,rfl,q L H3 s3 hLH e3⟩
structure Sq(T:Int)(L:Lk):Prop where
 d:L.d=T
 ev:L.ev=[]
 ok:yk L
 b0:0<=L.b
 b1:L.b<=T+1
theorem Po(L:Lk):(bC L).ev.length<=L.ev.length+1:=by
 unfold bC;split
 ·unfold eG;cases L.p with
  |none=>exact le_succ _
  |some p=>show(L.ev++[_]).length<=_;rw[length_append];exact le_refl _
 exact le_succ _
theorem Sq.tick{T:Int}{L:Lk}(h:Sq T L)(hb:∀a∈bs,FC a.b):Sq (T+1) (aa L bs)/\(bN L bs).ev.length<=3*bs.length+1:=by
 have h1:=wQ bs L h.ok hb;have h2:yk (dB (aP L bs) bs):=⟨h1.k,h1.o,h1.t,h1.p⟩;have h3:=Ga h2;obtain⟨b1,b2⟩:=EU L bs;have b0':=h.b0;have b1':=h.b1;have eb:(dB (aP L bs) bs).b=L.b:=b1;have q:=Aq (dB (aP L bs) bs);have bb:(aa L bs).b=(bC (dB (aP L bs) bs)).b:=rfl;refine⟨⟨?_,rfl,⟨h3.k,h3.o,h3.t,h3.p⟩,?_,?_⟩,?_⟩
 ·show(bN L bs).d=_;rw[(JB L bs).1,h.d]
 ·rw[bb];lia
 ·rw[bb];lia
 have:=Po (dB (aP L bs) bs);have e:(dB (aP L bs) bs).ev=(aP L bs).ev:=rfl;rw[e]at this;rw[h.ev]at b2;have e2:(bN L bs).ev=(bC (dB (aP L bs) bs)).ev:=rfl;rw[e2];have:([]:List Ev).length=0:=rfl;lia
theorem Hr.congr{q:Nat}{ci:Nat->Nat->List Rw}{run:Nat->Nat}(h:Hr q T0 L ci run D)(e:∀r,r<2->(L' r).q=(L r).q/\(L' r).u=(L r).u/\(L' r).k=(L r).k):Hr q T0 L' ci run D :=
 ⟨λr hr=>by rw[(e r hr).1];exact h.Q r hr,λr hr=>by rw[(e r hr).2.1];exact h.u0 r hr,λr hr=>by rw[(e r hr).2.1,(e r hr).2.2];exact h.a r hr⟩
theorem Bc.congr{q:Nat}{ci:Nat->Nat->List Rw}{run:Nat->Nat}(h:Bc q T1 β L ci run D)(e:∀r,r<2->(L' r).p=(L r).p/\(L' r).k=(L r).k/\(L' r).b=(L r).b):Bc q T1 β L' ci run D :=
 ⟨λr hr=>by rw[(e r hr).2.2];exact h.b r hr,λr hr=>by rw[(e r hr).2.1];exact h.c r hr,λr hr=>by rw[(e r hr).1,(e r hr).2.1,(e (1-r) (by lia)).2.1];exact h.u r hr⟩
theorem Wx.congr{q cr:Nat}{ci:Nat->Nat->List Rw}{run:Nat->Nat}(h:Wx q cr db L ci run D)(e:∀r,r<2->(L' r).d=(L r).d)(hD:∀r,r<2->D (1-r)<=D r):Wx q cr db L' ci run D :=
 ⟨h.hq,h.h1,λr hr=>by rw[e r hr];exact h.d r hr,h.dd,h.rn,λr hr φ _=>.inr (by have:=hD r hr;lia)⟩
def b1:Nat->Int:=λ_=>1
theorem TH:∀r,r<2->pr r (b1 r) (b1 (1-r))=((1,1):Pr):=bI rfl rfl
def PhB(q M:Nat)(ci:Nat->Nat->List Rw)(run D:Nat->Nat)(G:Gh)(s:Nat):Prop:=∃τ,Ph q ci run D b1 G (1,1) s τ/\(G.O s (1,1)=(G.W s (1,1)).length\/τ<=M+(if G.K (1-s) (1,1)=G.O s (1,1)then 0 else q))
structure Lv(q cr db M:Nat)(L:Nat->Lk)(ci:Nat->Nat->List Rw)(run D:Nat->Nat)(G:Gh):Prop where
 wx:Wx q cr db L ci run D
 hr:Hr q 0 L ci run D
 bc:Bc q 0 b1 L ci run D
 ph:(∀s,s<2->2*q<D s)->YA b1 L/\∀s,s<2->PhB q M ci run D G s
section
variable{q cr M:Nat}{ci:Nat->Nat->List Rw}{run:Nat->Nat}{G:Gh}{x:Nat}{fs:Ft}{kp:Bool}
theorem half(pc:NT (cr:Int) G L ci)(sq:∀s,s<2->Sq (D s:Int) (L s))(lv:kp=true->Lv q cr db M L ci run D G)(hx:x<2)(hd:D x<=D (1-x))(hd2:D (1-x)<=D x+1)(hl6:(cr:Int)<=6)(MU:∀a∈aK (ci x (D x)),FC a.b)(gf:Gc (cr:Int) fs)(hf:kp=true->(EX fs\/r'=run x+1)/\r'<=db)(hM:2*q+1<=M)(Fh:∀s,s<2->∀P,∀xs∈G.W s P,xs≠[])(hw1:∀s,s<2->(G.W s (1,1)).length<=G.O s (1,1)+1):
  ∃G',NT (cr:Int) G' (ii L x (aa (L x) (aK (ci x (D x))))) (ii ci (1-x) (cN (ci (1-x)) (D x) (b6 (aa (L x) (aK (ci x (D x))))) fs))/\kM x (L x).b G G'/\qb (G.W (1-x)) (wt G x (L x)) (bN (L x) (aK (ci x (D x)))).ev (wt G' x (aa (L x) (aK (ci x (D x))))) /\
   (kp=true->Lv q cr db M (ii L x (aa (L x) (aK (ci x (D x))))) (ii ci (1-x) (cN (ci (1-x)) (D x) (b6 (aa (L x) (aK (ci x (D x))))) fs)) (ii run x r') (ii D x (D x+1)) G'):=by
 have ne:1-x≠x:=by lia
 have Sv:1-x<2:=by lia
 have e1:1-(1-x)=x:=by lia
 have sqx:=sq x hx;obtain⟨G',VB,gr,tr⟩:=pc.step (fs:=fs) hx sqx.d (by rw[(sq (1-x) Sv).d];lia) hl6 sqx.ok MU sqx.ev gf;refine⟨G',VB,gr,tr,λhk=>?_⟩;have h:=lv hk;obtain⟨hf1,hf2⟩:=hf hk;obtain⟨sq',_⟩:=sqx.tick MU;have ws:=h.wx.step (LA:=aa (L x) (aK (ci x (D x)))) (fs:=fs) (r':=r') hx hd sq'.d gf hf1 hf2;obtain⟨NQ,Gw⟩:=h.hr.step hx h.wx ws aJ (aN ne) (zero_le _);have Gw:Still (L x) (aK (ci x (D x))):=Gw.resolve_right λz=>z.1 rfl;have kb:=pc.kb x hx;have X9:∀a∈aK (ci x (D x)),a.b<=(L (1-x)).b:=λa ha=>by obtain⟨row,q1,_,rfl⟩:=kN ha;have:=pc.bi (1-x) Sv (D x) row;rw[e1]at this;exact(this q1).1
 have bc':=h.bc.step hx ws Gw kb.2.1 X9;refine⟨ws.w,NQ,bc',λhD'=>?_⟩;by_cases old:∀s,s<2->2*q<D s
 ·obtain⟨up,ph⟩:=h.ph old;refine⟨up.step hx Gw X9,λs hs=>?_⟩;obtain⟨τ,f1,f2⟩:=ph s hs;have enx:=pc.en x hx;have Ss:=VB.en x hx;rw[aJ]at Ss;obtain⟨τ',g1,g2⟩:=f1.step hx hs ws up Gw X9 enx Ss pc.rel VB.rel gr tr sqx.ev TH (Fh s hs (1,1));refine⟨τ',g1,?_⟩;have eW:G'.W s (1,1)=G.W s (1,1):=by rw[gr.w]
  obtain⟨r1,r2,r3⟩:=pc.rel s hs (1,1);obtain⟨t1,t2,t3⟩:=VB.rel s hs (1,1);have w1:=hw1 s hs;rw[eW]at t3 ⊢;rcases g2 with⟨k1,k2,k3⟩|⟨k1,k2,k3⟩
  ·rw[k1,k2,k3];exact f2
  rcases f2 with z|z
  ·left;lia
  by_cases y:G'.K (1-s) (1,1)=G'.O s (1,1)
  ·left;lia
  right;rw[if_neg y,k2];rw[if_pos (by lia)]at z;lia
 have up:=bc'.up ws.w λr hr=>by have:=hD' r hr;lia
 have dx:D x=2*q:=by
  have a1:=hD' x hx;have a2:=hD' (1-x) Sv;rw[aJ]at a1;rw[aN ne]at a2;rcases Nat.lt_or_ge (2*q) (D x)with z|z
  ·exfalso;exact old λs hs=>by
    by_cases y:s=x
    ·rw[y];exact z
    have:s=1-x:=(by lia);rw[this];exact a2
  lia
 have dd:∀s,s<2->ii D x (D x+1) s<=2*q+1:=λs hs=>by
  by_cases y:s=x
  ·rw[y,aJ];lia
  have:s=1-x:=by lia
  rw[this,aN ne];lia
 refine⟨up,λs hs=>⟨2*q+1,?_,.inr ?_⟩⟩
 ·obtain⟨t1,t2,t3⟩:=VB.rel s hs (1,1);have now:∀r,r<2->∀φ,Jd q (ii ci (1-x) (cN (ci (1-x)) (D x) (b6 (aa (L x) (aK (ci x (D x))))) fs)) (ii run x r') (ii D x (D x+1)) r (2*q+1) φ:=λr hr φ=>Jn.now (dd (1-r) (by lia));unfold Ph;by_cases y:G'.O s (1,1)=(G'.W s (1,1)).length
  ·exact .inl y
  by_cases w:G'.K (1-s) (1,1)=G'.O s (1,1)
  ·exact .inr (.inl ⟨w,by have ow:=t1;lia,now _ (by lia) _⟩)
  exact .inr (.inr ⟨by lia,now _ hs _⟩)
 split<;>lia
end
structure Sl(q:Nat)(F:List Ft)(T:Nat)(L:Lk)(la bg:Int):Prop where
 q:L.q=(q:Int)
 u:L.u+la+1=(T:Int)
 l0:-1<=la
 l1:la<(T:Int)
 hn:∀j:Nat,la<(j:Int)->j<T->bF F j=false
 hl:∀j:Nat,la=(j:Int)->bF F j=true
 ku:L.k≠0->L.u<L.q
 pk:L.p≠none->L.k≠0
 kl:L.k≠0->0<=la
 b0:0<=bg
 bT:bg<=(T:Int)
 bl:L.p≠none->bg<=la
theorem Sl.start{q:Nat}{F:List Ft}(s:Int):Sl q F 0 (qa (q:Int) s) (-1) 0 :=
 ⟨rfl,rfl,Int.le_refl _,by decide,λj _ hj=>absurd hj (not_lt_zero _),λj hj=>by lia,λh=>absurd rfl h,λh=>absurd rfl h,λh=>absurd rfl h,Int.le_refl _,Int.le_refl _,λh=>absurd rfl h⟩
def qV(es:List Ev):Prop:=∀e∈es,∀x ns,e≠.mk "silent" x ns
theorem qV.snoc{e:Ev}(h:qV es)(he:∀x ns,e≠.mk "silent" x ns):qV (es++[e]):=λx hx=>by
 rcases mem_append.mp hx with z|z
 ·exact h x z
 rw[mem_singleton.mp z];exact he
theorem LI{w:Str}{p:Pr}(h:w≠("silent":Str)):∀x ms,Ev.mk w p ns≠.mk "silent" x ms:=λx ms z=>h (by injection z)
theorem JI{L:Lk}{a:Cl}(h:qV L.ev):qV (a8 L a).ev:=by
 have hm:qV (bH L a.b).ev:=by
  unfold bH;cases L.p with
  |none=>exact h
  |some p=>simp only;split;exact h.snoc (LI (by decide));exact h
 have hc:∀L:Lk,qV L.ev->qV (bM L).ev:=λL h=>by
  unfold bM;cases L.p with
  |none=>exact h.snoc (LI (by decide))
  |some p=>exact h
 unfold a8;split
 ·exact h
 split
 ·unfold b9;split
  ·refine qV.snoc ?_ (λx ns z=>by cases z);rw[(dq _ _).2.2];exact hc _ hm
  rw[(dq _ _).2.2];exact hc _ hm
 exact hm
theorem yo:∀(bs:List Cl)(L:Lk),qV L.ev->qV (aP L bs).ev
 |[],_,h=>h
 |a::r,L,h=>yo r (a8 L a) (JI h)
def lO(T:Int)(bg:Int)(es:List Ev):Int:=es.foldl (λb e=>match e with|.mk w _ _=>if w=("up":Str)then T else b|.took _=>b) bg
theorem Ek(T bg:Int)(es:List Ev)(e:Ev):lO T bg (es++[e])=(match e with|.mk w _ _=>if w=("up":Str)then T else lO T bg es|.took _=>lO T bg es):=by unfold lO;rw[List.foldl_append];rfl
theorem aA6(T bg:Int)(es:List Ev):lO T bg es=bg\/lO T bg es=T:=by
 have key:∀(es:List Ev)(b:Int),b=bg\/b=T->lO T b es=bg\/lO T b es=T:=by
  intro es
  induction es with
  |nil=>intro b h;exact h
  |cons e r ih =>
   intro b h;show lO T (match e with|.mk w _ _=>if w=("up":Str)then T else b|.took _=>b) r=bg\/lO T (match e with|.mk w _ _=>if w=("up":Str)then T else b|.took _=>b) r=T
   refine ih _ ?_;cases e with
   |mk w x ns=>simp only;split;exact .inr rfl;exact h
   |took xs=>exact h
 exact key es bg (.inl rfl)
structure SlE(q:Nat)(F:List Ft)(T:Nat)(L:Lk)(la:Int)(bs:List Cl):Prop where
 no:bs≠[]->qV (bN L bs).ev
 yes:bs=[]->∀x,L.p=some x->la+(q:Int)=(T:Int)->(bN L bs).ev=[.mk "silent" x [(T:Int)-(q:Int)+1,(T:Int)]]
 nil:bs=[]->(L.p=none\/la+(q:Int)≠(T:Int))->(bN L bs).ev=[]
theorem Sl.tick{q:Nat}{F:List Ft}{T:Nat}{L:Lk}{la bg:Int}(h:Sl q F T L la bg)(hq:1<=q)(hb:∀a∈bs,1<=a.b)(MU:bs=[]↔bF F T=false)(DN:L.ev=[])(hd:L.d=(T:Int)):
  Sl q F (T+1) (aa L bs) (if bs=[]then la else(T:Int)) (lO T bg (bN L bs).ev)/\SlE q F T L la bs:=by
 obtain⟨u1,q1⟩:=K8 L bs;have hu:=h.u;have l0:=h.l0;have l1:=h.l1;have hQ:=h.q;have b0:=h.b0;have bT:=h.bT;by_cases z:bs=[]
 ·subst z;have hT:=MU.mp rfl;rw[if_pos rfl]at u1 ⊢;have VW:∀j:Nat,la<(j:Int)->j<T+1->bF F j=false:=λj hj Sh=>by
   by_cases y:j=T
   ·rw[y];exact hT
   exact h.hn j hj (by lia)
  have eU:dB (aP L []) []={ L with u:=L.u+1 }:=rfl;by_cases y:L.k≠0/\L.q<=L.u+1
  ·have ku:=h.ku y.1;have Mg:la+(q:Int)=(T:Int):=(by lia);have VC:bC (dB (aP L []) [])=eG { L with u:=L.u+1 }:=by rw[eU];unfold bC;exact if_pos y
   have ek:(aa L []).k=0/\(aa L []).p=none:=by
    have e1:(aa L []).k=(eG { L with u:=L.u+1 }).k:=(by show(bC (dB (aP L []) [])).k=_;rw[VC]);have e2:(aa L []).p=(eG { L with u:=L.u+1 }).p:=(by show(bC (dB (aP L []) [])).p=_;rw[VC]);rw[e1,e2];unfold eG;cases e:L.p with
    |none=>exact⟨rfl,rfl⟩
    |some x=>exact⟨rfl,rfl⟩
   have ev:∀x,L.p=some x->(bN L []).ev=[.mk "silent" x [(T:Int)-(q:Int)+1,(T:Int)]]:=λx hx=>by show(bC (dB (aP L []) [])).ev=_;rw[VC];unfold eG;simp only;rw[hx];simp only;rw[DN,hd,hQ];rfl
   have ev0:L.p=none->(bN L []).ev=[]:=λhx=>by show(bC (dB (aP L []) [])).ev=_;rw[VC];unfold eG;simp only;rw[hx];exact DN
   have ebg:lO (T:Int) bg (bN L []).ev=bg:=by
    cases e:L.p with
    |none=>rw[ev0 e];rfl
    |some x=>rw[ev x e];unfold lO;simp only[List.foldl];exact if_neg (by decide)
   rw[ebg];refine⟨⟨by rw[q1];exact hQ,by rw[u1];lia,l0,by lia,VW,h.hl,λw=>absurd ek.1 w,λw=>absurd ek.2 w,λw=>absurd ek.1 w,b0,by lia,λw=>absurd ek.2 w⟩,λw=>absurd rfl w,λ_ x hx _=>ev x hx,λ_ w=>?_⟩;rcases w with w|w
   ·exact ev0 w
   exact absurd Mg w
  have VC:bC (dB (aP L []) [])={ L with u:=L.u+1 }:=by rw[eU];unfold bC;exact if_neg y
  have ev:(bN L []).ev=[]:=by show(bC (dB (aP L []) [])).ev=_;rw[VC];exact DN
  have ek:(aa L []).k=L.k/\(aa L []).p=L.p:=⟨by show(bC (dB (aP L []) [])).k=_;rw[VC],by show(bC (dB (aP L []) [])).p=_;rw[VC]⟩;rw[ev];refine⟨⟨by rw[q1];exact hQ,by rw[u1];lia,l0,by lia,VW,h.hl,λw=>?_,by rw[ek.1,ek.2];exact h.pk,by rw[ek.1];exact h.kl,b0,by show bg<=_;lia,by rw[ek.2];exact h.bl⟩,λw=>absurd rfl w,λ_ x hx w=>?_,λ_ _=>ev⟩
  ·rw[ek.1]at w;rw[u1,q1];exact Classical.byContradiction λv=>y ⟨w,by lia⟩
  exact absurd ⟨h.pk (by rw[hx];exact λv=>by cases v),by lia⟩ y
 have hT:bF F T=true:=by
  cases e:bF F T with
  |true=>rfl
  |false=>exact absurd (MU.mpr e) z
 rw[if_neg z]at u1 ⊢;have st:Still L bs:=.inr (by rw[if_neg z];lia);obtain⟨eA,eV⟩:=jH st;obtain⟨_,k1,k2,_,_⟩:=tR bs L;have ek:(aa L bs).k=(aP L bs).k:=by rw[eA]
 have kp:(aa L bs).k≠0:=by
  obtain⟨a,ha⟩:∃a,a∈bs:=by
   cases bs with
   |nil=>exact absurd rfl z
   |cons a r=>exact⟨a,mem_cons_self⟩
  have:=k2 a ha;have:=hb a ha;rw[ek];lia
 have bo:=aA6 (T:Int) bg (bN L bs).ev;refine⟨⟨by rw[q1];exact hQ,by rw[u1];lia,by lia,by lia,λj hj Sh=>by lia,λj hj=>?_,λ_=>by rw[u1,q1];lia,λ_=>kp,λ_=>by lia,by lia,by lia,λ_=>by lia⟩,λ_=>?_,λw=>absurd w z,λw=>absurd w z⟩
 ·rw[<-Int.ofNat.inj hj];exact hT
 rw[eV];exact yo bs L (by rw[DN];intro e he;cases he)
structure Qp(F:List Ft)(T:Nat)(ci:Nat->List Rw):Prop where
 g:∀j row,row∈ci j->JA row/\1<=row.b.b
 h:∀j:Nat,T<=j->((∃row∈ci j,row.rd=true)↔∃(g:Nat)(fs:Ft)(d:Int×Ts),g<T/\F[g]?=some fs/\d∈fs/\g+d.1.toNat=j/\d.2.length<3)
 l:∀j,(ci j).length<=T
theorem Qp.start(F:List Ft):Qp F 0 (λ_=>[]):=⟨(λj row h=>by cases h),λj _=>⟨λ⟨row,h,_⟩=>(by cases h),λ⟨g,_,_,h,_⟩=>absurd h (not_lt_zero _)⟩,λ_=>le_refl _⟩
theorem Qp.give{F:List Ft}{T:Nat}{ci:Nat->List Rw}{b:Cl}{fs:Ft}(h:Qp F T ci)(hf:F[T]?=some fs)(kf:KF cr fs)(h1:1<=cr)(gb:fo b)(b1:1<=b.b):Qp F (T+1) (cN ci T b fs):=by
 have gf:=kf.good h1;refine⟨λj row hr=>?_,λj hj=>?_,λj=>?_⟩
 ·rcases wU fs j row hr with y|⟨d,hd,rfl,rfl⟩
  ·exact h.g j row y
  exact⟨PN gb (gf.g.at_ d hd).2.2 (My.Dy _),b1⟩
 ·constructor
  ·rintro⟨row,hr,rd⟩;rcases wU fs j row hr with y|⟨d,hd,rfl,rfl⟩
   ·obtain⟨g,gs,d,k1,k2⟩:=(h.h j (by lia)).mp ⟨row,y,rd⟩;exact⟨g,gs,d,by lia,k2⟩
   exact⟨T,fs,d,by lia,hf,hd,rfl,of_decide_eq_true rd⟩
  rintro⟨g,gs,d,k1,k2,k3,k4,k5⟩;by_cases z:g=T
  ·rw[z]at k2 k4;rw[hf]at k2;cases k2;exact⟨_,by rw[<-k4];exact Ar fs ci k3,decide_eq_true k5⟩
  obtain⟨row,r1,r2⟩:=(h.h j (by lia)).mpr ⟨g,gs,d,by lia,k2,k3,k4,k5⟩;exact⟨row,wV fs ci j row r1,r2⟩
 have a1:=Gn (ci:=ci) (tick:=T) (b:=b) fs j;have a2:=h.l j;have a3:fs.length<=1:=by rcases kf with rfl|rfl|⟨d,_,_,rfl⟩<;>first|exact zero_le _|exact le_refl _
 lia
theorem Qp.reads{F:List Ft}{T:Nat}{ci:Nat->List Rw}(h:Qp F T ci)(kf:∀fs∈F,KF cr fs)(h1:1<=cr):aK (ci T)=[]↔bF F T=false:=by
 have e1:aK (ci T)=[]↔¬∃row∈ci T,row.rd=true:=by
  constructor
  ·rintro z ⟨row,r1,r2⟩;have:=xh r1 r2;rw[z]at this;cases this
  intro z;refine List.eq_nil_iff_forall_not_mem.mpr λa ha=>?_;obtain⟨row,r1,r2,_⟩:=kN ha;exact z ⟨row,r1,r2⟩
 rw[e1,h.h T (le_refl _),<-Bool.not_eq_true,DT];refine not_congr ⟨λ⟨g,fs,d,_,k2,k3,k4,k5⟩=>⟨g,fs,d,k2,k3,k4,k5⟩,λ⟨g,fs,d,k2,k3,k4,k5⟩=>⟨g,fs,d,?_,k2,k3,k4,k5⟩⟩;have:=(((kf fs (mem_of_getElem? k2)).good h1).g.at_ d k3).1;lia
section
variable{q cr M:Nat}{ci:Nat->Nat->List Rw}{run:Nat->Nat}{G:Gh}{P:Pr}{r τ:Nat}
theorem Gx(e:∀s,s<2->D' s=D s)(f:∀s,s<2->run' s=run s)(hr:r<2)(j:Jd q ci run D r τ φ):Jd q ci run' D' r τ φ:=by show Jn q (ci r) (D' r) (D' (1-r)) (run' (1-r)) τ φ;rw[e r hr,e (1-r) (by lia),f (1-r) (by lia)];exact j
theorem Lv.re(h:Lv q cr db M L ci run D G)(e:∀s,s<2->D' s=D s)(f:∀s,s<2->run' s=run s):Lv q cr db M L ci run' D' G:=by
 refine⟨⟨h.wx.hq,h.wx.h1,λr hr=>by rw[e r hr];exact h.wx.d r hr,λr hr=>by rw[e r hr,e (1-r) (by lia)];exact h.wx.dd r hr,λr hr=>by rw[f r hr];exact h.wx.rn r hr,λr hr φ hφ=>by rw[e r hr,e (1-r) (by lia),f (1-r) (by lia)];exact h.wx.e r hr φ hφ⟩,⟨h.hr.Q,h.hr.u0,λr hr=>by obtain⟨τ,a1,a2,a3⟩:=h.hr.a r hr;exact⟨τ,a1,Gx e f hr a2,by rw[e r hr];exact a3⟩⟩,⟨h.bc.b,λr hr=>(h.bc.c r hr).imp id (Gx e f hr),λr hr=>(h.bc.u r hr).imp id λz=>z.imp id λ⟨a,τ,b,c⟩=>⟨a,τ,b,Gx e f hr c⟩⟩,λhD=>?_⟩;obtain⟨up,ph⟩:=h.ph λs hs=>by rw[<-e s hs];exact hD s hs
 refine⟨up,λs hs=>?_⟩;obtain⟨τ,p1,p2⟩:=ph s hs;exact⟨τ,Or.imp id (Or.imp (λ⟨a,b,c⟩=>⟨a,b,Gx e f (by lia) c⟩) (λ⟨a,c⟩=>⟨a,Gx e f hs c⟩)) p1,p2⟩
end
structure Wh(q cr db n M:Nat)(kp:Bool)(F:Nat->List Ft):Prop where
 hq:cr+db=q
 h1:1<=cr
 l6:cr<=6
 n9:n<=1000
 M1:2*q+1<=M
 len:∀s,s<2->(F s).length=n
 kf:∀s,s<2->∀fs∈F s,KF (cr:Int) fs
 kp:kp=true->∀s,s<2->Kept db (F s)
structure zX(q cr db M:Nat)(kp:Bool)(F:Nat->List Ft)(T:Nat)(L:Nat->Lk)(ci:Nat->Nat->List Rw)(G:Gh)(la bg:Nat->Int):Prop where
 pc:NT (cr:Int) G L ci
 sq:∀s,s<2->Sq (T:Int) (L s)
 lb:∀s,s<2->1<=(L s).b
 sl:∀s,s<2->Sl q (F s) T (L s) (la s) (bg s)
 rw:∀s,s<2->Qp (F s) T (ci s)
 ku:∀s,s<2->KU (wt G s (L s))
 wu:∀s,s<2->∀P,G.W s P≠[]->G.U s P
 wp:∀s,s<2->∀P,∀xs∈G.W s P,EV xs
 w1:∀s,s<2->∀P,(G.W s P).length<=G.O s P+1
 wl:∀s,s<2->∀P,(G.W s P).length<=T
 lv:kp=true->Lv q cr db M L ci (λs=>rY ((F (1-s)).take T)) (λ_=>T) G
def El(L:Nat->Lk)(ci:Nat->Nat->List Rw)(T:Nat):Nat->Lk:=ii (ii L 0 (aa (L 0) (aK (ci 0 T)))) 1 (aa (L 1) (aK (ci 1 T)))
theorem xm(L:Nat->Lk)(ci:Nat->Nat->List Rw)(T:Nat):∀s,s<2->El L ci T s=aa (L s) (aK (ci s T)):=bI rfl rfl
def JJ(F:Nat->List Ft)(s T:Nat):Ft:=(F s).getD T wZ
def wb(F:Nat->List Ft)(L:Nat->Lk)(ci:Nat->Nat->List Rw)(T:Nat):Nat->Nat->List Rw:=ii (ii ci 1 (cN (ci 1) T (b6 (aa (L 0) (aK (ci 0 T)))) (JJ F 1 T))) 0 (cN (ci 0) T (b6 (aa (L 1) (aK (ci 1 T)))) (JJ F 0 T))
theorem Gy(F:Nat->List Ft)(L:Nat->Lk)(ci:Nat->Nat->List Rw)(T:Nat):∀s,s<2->wb F L ci T s=cN (ci s) T (b6 (El L ci T (1-s))) (JJ F s T):=bI rfl rfl
theorem Pp{ci:Nat->List Rw}{T:Nat}{b:Cl}:∀(fs:Ft),(∀d∈fs,1<=d.1)->cN ci T b fs T=ci T:=by
 intro fs
 induction fs generalizing ci with
 |nil=>intro _;rfl
 |cons d r ih =>
  intro h;show cN (ua ci (T+d.1.toNat) (fL b d.2)) T b r T=_;rw[ih λx hx=>h x (mem_cons_of_mem _ hx)];have:=h d mem_cons_self;unfold ua;exact if_neg (by lia)
theorem Pq{P:Pr}:∀(es:List Ev)(A:Wt),A.u P->(yl A es).u P
 |[],_,h=>h
 |e::r,A,h=>Pq r (gM A e) (Su h)
section
variable{q cr n M:Nat}{kp:Bool}{F:Nat->List Ft}{T:Nat}{ci:Nat->Nat->List Rw}{G:Gh}{la bg:Nat->Int}
theorem Wh.fa(w:Wh q cr db n M kp F)(hT:T<n)(hs:s<2):(F s)[T]?=some (JJ F s T)/\KF (cr:Int) (JJ F s T):=by
 have hl:T<(F s).length:=by rw[w.len s hs];exact hT
 have e:(F s)[T]?=some (JJ F s T):=by unfold JJ;rw[getD_eq_getElem?_getD,getElem?_eq_getElem hl];rfl
 exact⟨e,w.kf s hs _ (mem_of_getElem? e)⟩
theorem Wh.run(w:Wh q cr db n M kp F)(hT:T<n)(hs:s<2)(hk:kp=true):(EX (JJ F s T)\/rY ((F s).take (T+1))=rY ((F s).take T)+1)/\rY ((F s).take (T+1))<=db:=by
 obtain⟨e,_⟩:=w.fa hT hs;refine⟨?_,w.kp hk s hs (T+1)⟩;rw[take_succ e];unfold rY;rw[List.foldl_append];show EX _\/rn _ _=_;by_cases z:Ef (JJ F s T)=true
 ·exact .inl (Pe.mpr z)
 exact .inr (if_neg z)
theorem zX.XG(h:zX q cr db M kp F T L ci G la bg)(hs:s<2):∀a∈aK (ci s j),FC a.b/\1<=a.b:=λa ha=>by obtain⟨row,q1,_,rfl⟩:=kN ha;obtain⟨g1,g2⟩:=(h.rw s hs).g j row q1;exact⟨g1.g.b,g2⟩
theorem zX.good(h:zX q cr db M kp F T L ci G la bg)(hT:T<1000)(hs:s<2):fo (b6 (El L ci T s))/\1<=(b6 (El L ci T s)).b:=by
 rw[xm L ci T s hs];obtain⟨sq',_⟩:=(h.sq s hs).tick (bs:=aK (ci s T)) λa ha=>(h.XG hs a ha).1;have b1:=sq'.b1;have b0:1<=(aa (L s) (aK (ci s T))).b:=by have:=h.lb s hs;have e:=(tR (aK (ci s T)) (L s)).1;have e2:(dB (aP (L s) (aK (ci s T))) (aK (ci s T))).b=(L s).b:=e;have q:=Aq (dB (aP (L s) (aK (ci s T))) (aK (ci s T)));show 1<=(bC (dB (aP (L s) (aK (ci s T))) (aK (ci s T)))).b;lia
 exact⟨sq'.ok.give ⟨by lia,by lia⟩,b0⟩
theorem zX.tick(w:Wh q cr db n M kp F)(h:zX q cr db M kp F T L ci G la bg)(hT:T<n):
  ∃G',zX q cr db M kp F (T+1) (El L ci T) (wb F L ci T) G' (λs=>if aK (ci s T)=[]then la s else(T:Int)) (λs=>lO T (bg s) (bN (L s) (aK (ci s T))).ev)/\G'.W=G.W /\
   ∀s,s<2->qb (G.W (1-s)) (wt G s (L s)) (bN (L s) (aK (ci s T))).ev (wt G' s (El L ci T s))/\SlE q (F s) T (L s) (la s) (aK (ci s T))/\(bN (L s) (aK (ci s T))).ev.length<=3*T+1:=by
 have n9:=w.n9;have h1:(1:Int)<=cr:=by have:=w.h1;lia
 have l6:(cr:Int)<=6:=by have:=w.l6;lia
 obtain⟨e0,k0⟩:=w.fa hT (s:=0) (by decide);obtain⟨e1,k1⟩:=w.fa hT (s:=1) (by decide);have Fh:∀s,s<2->∀P,∀xs∈G.W s P,xs≠[]:=λs hs P xs hx z=>by have:=(h.wp s hs P xs hx).1.1;rw[z]at this;exact absurd this (by decide)
 obtain⟨G1,pc1,g1,t1,lv1⟩:=half (q:=q) (db:=db) (M:=M) (run:=λs=>rY ((F (1-s)).take T)) (D:=λ_=>T) (x:=0) (r':=rY ((F 1).take (T+1))) (fs:=JJ F 1 T) (kp:=kp) h.pc h.sq h.lv (by decide) (le_refl _) (le_succ _) l6 (λa ha=>(h.XG (s:=0) (by decide) a ha).1) (k1.good h1).g (λhk=>w.run hT (s:=1) (by decide) hk) w.M1 Fh λs hs=>h.w1 s hs _;have aA7:(ii ci (1-0) (cN (ci (1-0)) T (b6 (aa (L 0) (aK (ci 0 T)))) (JJ F 1 T))) 1 T=ci 1 T:=Pp _ λd hd=>((k1.good h1).g.at_ d hd).1;have sq1:∀s,s<2->Sq ((ii (λ_=>T) 0 (T+1) s:Nat):Int) (ii L 0 (aa (L 0) (aK (ci 0 T))) s):=bI (by have:=((h.sq 0 (by decide)).tick (bs:=aK (ci 0 T)) λa ha=>(h.XG (s:=0) (by decide) a ha).1).1;exact this) (h.sq 1 (by decide))
 have om1:∀s,s<2->∀P,G.O s P<=G1.O s P:=λs hs P=>by
  by_cases z:s=0
  ·rw[z];exact g1.om P
  rw[g1.o s z];exact le_refl _
 have VD:=half (q:=q) (db:=db) (M:=M) (run:=ii (λs=>rY ((F (1-s)).take T)) 0 (rY ((F 1).take (T+1)))) (D:=ii (λ_=>T) 0 (T+1)) (x:=1) (r':=rY ((F 0).take (T+1))) (fs:=JJ F 0 T) (kp:=kp) pc1 sq1 lv1 (by decide) (by show T<=T+1;lia) (by show T+1<=T+1;lia) l6 (λa ha=>(h.XG (s:=1) (j:=T) (by decide) a (by have e:(ii (λ_=>T) 0 (T+1) 1:Nat)=T:=rfl;rw[e,aA7]at ha;exact ha)).1) (k0.good h1).g (λhk=>w.run hT (s:=0) (by decide) hk) w.M1 (by rw[g1.w];exact Fh) (λs hs=>by rw[g1.w];exact le_trans (h.w1 s hs _) (Nat.add_le_add_right (om1 s hs _) 1));have eD1:(ii (λ_=>T) 0 (T+1) 1:Nat)=T:=rfl;rw[eD1,aA7]at VD;obtain⟨G2,pc2,g2,t2,lv2⟩:=VD;have eL1:ii L 0 (aa (L 0) (aK (ci 0 T))) 1=L 1:=rfl;rw[eL1]at pc2 g2 t2 lv2;have TR:∀s,s<2->qb (G.W (1-s)) (wt G s (L s)) (bN (L s) (aK (ci s T))).ev (wt G2 s (El L ci T s)):=bI (by
   have e:wt G2 0 (El L ci T 0)=wt G1 0 (aa (L 0) (aK (ci 0 T))):=by unfold wt;rw[g2.k 0 (by decide),g2.u 0 (by decide)];rfl
   rw[e];exact t1) (by
   have e:wt G1 1 (L 1)=wt G 1 (L 1):=by unfold wt;rw[g1.k 1 (by decide),g1.u 1 (by decide)]
   rw[e,g1.w]at t2;exact t2)
 have eW:G2.W=G.W:=by rw[g2.w,g1.w]
 have om2:∀s,s<2->∀P,G.O s P<=G2.O s P:=λs hs P=>le_trans (om1 s hs P) (by
  by_cases z:s=1
  ·rw[z];exact g2.om P
  rw[g2.o s z];exact le_refl _)
 have SL:∀s,s<2->Sl q (F s) (T+1) (aa (L s) (aK (ci s T))) (if aK (ci s T)=[]then la s else(T:Int)) (lO T (bg s) (bN (L s) (aK (ci s T))).ev)/\SlE q (F s) T (L s) (la s) (aK (ci s T)):=λs hs=>(h.sl s hs).tick (by have:=w.hq;have:=w.h1;lia) (λa ha=>(h.XG hs a ha).2) ((h.rw s hs).reads (w.kf s hs) h1) (h.sq s hs).ev (h.sq s hs).d;refine⟨G2,⟨pc2,λs hs=>?_,λs hs=>(h.good (by lia) hs).2,λs hs=>?_,λs hs=>?_,λs hs=>(TR s hs).ku (h.ku s hs),λs hs P hP=>?_,by rw[eW];exact h.wp,λs hs P=>by rw[eW];exact le_trans (h.w1 s hs P) (Nat.add_le_add_right (om2 s hs P) 1),λs hs P=>by rw[eW];exact Nat.le_succ_of_le (h.wl s hs P),λhk=>?_⟩,eW,λs hs=>⟨TR s hs,(SL s hs).2,?_⟩⟩
 ·rw[xm L ci T s hs];exact((h.sq s hs).tick λa ha=>(h.XG hs a ha).1).1
 ·rw[xm L ci T s hs];exact(SL s hs).1
 ·rw[Gy F L ci T s hs];obtain⟨e,k⟩:=w.fa hT hs;obtain⟨g1',FA⟩:=h.good (L:=L) (by lia) (s:=1-s) (by lia);exact(h.rw s hs).give e k h1 g1' FA
 ·rw[eW]at hP;have e:=(TR s hs).ok.2;have:=Pq (bN (L s) (aK (ci s T))).ev (wt G s (L s)) (h.wu s hs P hP);rw[e]at this;exact this
 ·refine(lv2 hk).re (bI rfl rfl) (bI rfl rfl)
 have a1:=((h.sq s hs).tick (bs:=aK (ci s T)) λa ha=>(h.XG hs a ha).1).2;have a2:=(h.rw s hs).l T;have a3:(aK (ci s T)).length<=(ci s T).length:=by unfold aK;exact List.length_filterMap_le _ _
 lia
end
def Em(G:Gh)(s:Nat)(P:Pr)(xs:List Int):Gh:=⟨hG G.W s P (G.W s P++[xs]),G.O,G.K,G.U⟩
def putL(L:Nat->Lk)(s:Nat)(xs:List Int):Nat->Lk:=ii L s { L s with cE:=(L s).cE++[xs] }
section
variable{q cr n M:Nat}{kp:Bool}{F:Nat->List Ft}{T:Nat}{ci:Nat->Nat->List Rw}{G:Gh}{la bg:Nat->Int}
theorem wc(h:i≠s):putL L s xs i=L i:=aN h
theorem tU:putL L s xs s={ L s with cE:=(L s).cE++[xs] }:=aJ
theorem hU(xs:List Int)(i:Nat):(putL L s xs i).q=(L i).q/\(putL L s xs i).u=(L i).u/\(putL L s xs i).k=(L i).k/\(putL L s xs i).p=(L i).p/\(putL L s xs i).b=(L i).b/\(putL L s xs i).d=(L i).d/\(putL L s xs i).ev=(L i).ev:=by
 by_cases z:i=s
 ·rw[z,tU];exact⟨rfl,rfl,rfl,rfl,rfl,rfl,rfl⟩
 rw[wc z];exact⟨rfl,rfl,rfl,rfl,rfl,rfl,rfl⟩
theorem zX.pair(h:zX q cr db M kp F T L ci G la bg)(hs:s<2){x:Pr}(hx:(L s).p=some x):x=pr s (L s).b (L s).k/\G.U s x:=by obtain⟨a,b⟩:=(h.pc.en s hs).up x hx;exact⟨a,by rw[a];exact b⟩
theorem zX.put(h:zX q cr db M kp F T L ci G la bg)(hs:s<2){x:Pr}{xs:List Int}(hx:(L s).p=some x)(hp:(L s).cE=[])(SE:EV xs)(hM:T<=M)(hl:∀P,(G.W s P).length+1<=T):zX q cr db M kp F T (putL L s xs) ci (Em G s x xs) la bg:=by
 obtain⟨ex,ux⟩:=h.pair hs hx;have en:=h.pc.en s hs;have VB:=h.pc.put (xs:=xs) hs (by rw[hx];exact λz=>by cases z);rw[<-ex]at VB;have eO:G.O s x=(G.W s x).length:=by have a:=en.p;have b:=en.ow;rw[hp,<-ex]at a;rw[<-ex]at b;have:=congrArg List.length a;rw[List.length_drop]at this;have z:([]:List (List Int)).length=0:=rfl;lia
 have wx:∀i P,(Em G s x xs).W i P=if i=s/\P=x then G.W s x++[xs]else G.W i P:=λi P=>rfl;refine⟨VB,λi hi=>?_,λi hi=>by rw[(hU xs i).2.2.2.2.1];exact h.lb i hi,λi hi=>?_,h.rw,λi hi=>?_,λi hi P hP=>?_,λi hi P ys hy=>?_,λi hi P=>?_,λi hi P=>?_,λhk=>?_⟩
 ·by_cases z:i=s
  ·rw[z,tU];have a:=h.sq s hs;exact⟨a.d,a.ev,⟨a.ok.k,a.ok.o,a.ok.t,λys hy=>(mem_append.mp hy).elim (a.ok.p ys) λy=>by rw[mem_singleton.mp y];exact⟨SE.1.2,SE.2⟩⟩,a.b0,a.b1⟩
  rw[wc z];exact h.sq i hi
 ·have a:=h.sl i hi;obtain⟨f1,f2,f3,f4,_⟩:=hU (L:=L) (s:=s) xs i;exact⟨by rw[f1];exact a.q,by rw[f2];exact a.u,a.l0,a.l1,a.hn,a.hl,by rw[f1,f2,f3];exact a.ku,by rw[f3,f4];exact a.pk,by rw[f3];exact a.kl,a.b0,a.bT,by rw[f4];exact a.bl⟩
 ·have e:wt (Em G s x xs) i (putL L s xs i)=wt G i (L i):=by unfold wt;rw[(hU xs i).2.2.2.1];rfl
  rw[e];exact h.ku i hi
 ·rw[wx]at hP;by_cases z:i=s/\P=x
  ·rw[z.1,z.2];exact ux
  rw[if_neg z]at hP;exact h.wu i hi P hP
 ·rw[wx]at hy;by_cases z:i=s/\P=x
  ·rw[if_pos z]at hy;rcases mem_append.mp hy with y|y
   ·exact h.wp s hs x ys y
   rw[mem_singleton.mp y];exact SE
  rw[if_neg z]at hy;exact h.wp i hi P ys hy
 ·rw[wx];by_cases z:i=s/\P=x
  ·rw[if_pos z,length_append,z.1,z.2];show(G.W s x).length+1<=G.O s x+1;lia
  rw[if_neg z];exact h.w1 i hi P
 ·rw[wx];by_cases z:i=s/\P=x
  ·rw[if_pos z,length_append];exact hl x
  rw[if_neg z];exact h.wl i hi P
 have lv:=h.lv hk;refine⟨lv.wx.congr (λr hr=>(hU xs r).2.2.2.2.2.1) λr hr=>le_refl _,lv.hr.congr λr hr=>⟨(hU xs r).1,(hU xs r).2.1,(hU xs r).2.2.1⟩,lv.bc.congr λr hr=>⟨(hU xs r).2.2.2.1,(hU xs r).2.2.1,(hU xs r).2.2.2.2.1⟩,λhD=>?_⟩;obtain⟨up,ph⟩:=lv.ph hD;refine⟨λr hr=>by rw[(hU xs r).2.2.2.1,(hU xs r).2.2.1,(hU xs r).2.2.2.2.1];exact up r hr,λi hi=>?_⟩;have x11:x=(1,1):=by obtain⟨_,a,b⟩:=up s hs;rw[ex,a,b];exact TH s hs
 by_cases z:i=s
 ·subst z;obtain⟨r1,r2,r3⟩:=h.pc.rel i hi (1,1);rw[x11]at eO;have eK:G.K (1-i) (1,1)=G.O i (1,1):=by lia
  have eW:(Em G i x xs).W i (1,1)=G.W i (1,1)++[xs]:=by rw[wx,if_pos ⟨rfl,x11.symm⟩,x11]
  refine⟨T,.inr (.inl ⟨eK,?_,Jn.now (le_refl _)⟩),.inr ?_⟩
  ·rw[eW,length_append];show G.O i (1,1)<_+1;lia
  lia
 obtain⟨τ,p1,p2⟩:=ph i hi;have eW:(Em G s x xs).W i (1,1)=G.W i (1,1):=by rw[wx,if_neg (λy=>z y.1)]
 refine⟨τ,?_,by rw[eW];exact p2⟩;unfold Ph at p1 ⊢;rw[eW];exact p1
theorem zX.up(h:zX q cr db M kp F T L ci G la bg)(hk:kp=true)(hT:2*q<T)(hs:s<2):(L s).p=some (1,1)/\G.U s (1,1):=by
 obtain⟨up,_⟩:=(h.lv hk).ph λ_ _=>hT;obtain⟨u1,u2,u3⟩:=up s hs;cases e:(L s).p with
 |none=>exact absurd e u1
 |some y =>
  obtain⟨a,b⟩:=h.pair hs e;rw[u2,u3,TH s hs]at a;rw[a]at b ⊢;exact⟨rfl,b⟩
theorem zX.done(h:zX q cr db M kp F T L ci G la bg)(hk:kp=true)(hT:M+2*q<T)(hM:2*q+1<=M)(hs:s<2):G.K (1-s) (1,1)=(G.W s (1,1)).length/\(L s).cE=[]:=by
 obtain⟨up,ph⟩:=(h.lv hk).ph λ_ _=>by lia
 obtain⟨τ,p1,p2⟩:=ph s hs;obtain⟨r1,r2,r3⟩:=h.pc.rel s hs (1,1);have wx:=(h.lv hk).wx;have key:G.O s (1,1)=(G.W s (1,1)).length:=by
  rcases p2 with y|y
  ·exact y
  rcases p1 with w|⟨w1,w2,j⟩|⟨w1,j⟩
  ·exact w
  ·have l:=wx.le (by lia) j;rw[if_pos w1]at y;lia
  have l:=wx.le hs j;rw[if_neg (by lia)]at y;lia
 refine⟨by lia,?_⟩;have en:=h.pc.en s hs;obtain⟨u1,u2,u3⟩:=up s hs;have e0:pr s (L s).b (L s).k=(1,1):=by rw[u2,u3];exact TH s hs
 have:=en.p;rw[e0,key,List.drop_length]at this;exact this
theorem zX.start(w:Wh q cr db n M kp F):zX q cr db M kp F 0 (PQ (qa (q:Int) 0) (qa (q:Int) 1)) (λ_ _=>[]) ⟨λ_ _=>[],λ_ _=>0,λ_ _=>0,λ_ _=>False⟩ (λ_=>-1) (λ_=>0):=by
 have sq0:∀q s:Int,Sq 0 (qa q s):=λq s=>⟨rfl,rfl,⟨Ww,MS,MS,λxs h=>(by cases h)⟩,(by show(0:Int)<=1;decide),(by show(1:Int)<=0+1;decide)⟩;have hq1:1<=q:=by have:=w.hq;have:=w.h1;lia
 refine⟨NT.start,bI (sq0 _ _) (sq0 _ _),bI (Int.le_refl _) (Int.le_refl _),bI (Sl.start 0) (Sl.start 1),λs _=>Qp.start (F s),bI ⟨λx hx=>(by cases hx),λ_ _=>rfl⟩ ⟨λx hx=>(by cases hx),λ_ _=>rfl⟩,λs _ P hP=>absurd rfl hP,λs _ P xs hx=>(by cases hx),λ_ _ _=>zero_le _,λ_ _ _=>le_refl _,λhk=>⟨⟨w.hq,w.h1,bI rfl rfl,λ_ _=>le_succ _,λ_ _=>zero_le _,λr hr φ _=>.inr (le_refl _)⟩,⟨bI rfl rfl,bI (Int.le_refl _) (Int.le_refl _),bI ⟨0,le_refl _,.inr (le_refl _),.inl ⟨rfl,λ_=>rfl⟩⟩ ⟨0,le_refl _,.inr (le_refl _),.inl ⟨rfl,λ_=>rfl⟩⟩⟩,Bc.start (bI rfl rfl) (λ_ _=>rfl),λhD=>absurd (hD 0 (by decide)) (not_lt_zero _)⟩⟩
end
def stK(k:Option Bool)(x y:Addr)(pv:V)(bg ct:Int)(fl hl cm tk pd:Addr):List (Key×V) :=
 (.inr "end",.ref x)::(.inr "air",.ref y)::(.inr "pair",pv)::(.inr "begun",.int bg)::(.inr "count",.int ct)::(.inr "fates",.ref fl)::(.inr "heard",.ref hl)::(.inr "came",.ref cm)::(.inr "took",.ref tk)::(.inr "put",.ref pd)::(match k with|none=>[]|some b=>[(.inr "kept",.bl b)])
theorem zY(k:Option Bool)(x y:Addr)(pv:V)(bg ct:Int)(fl hl cm tk pd:Addr):(stK k x y pv bg ct fl hl cm tk pd).length<sizeLine:=by
 have:(stK k x y pv bg ct fl hl cm tk pd).length<=11:=by cases k<;>simp[stK]
 exact Nat.lt_of_le_of_lt this (by decide)
theorem bU{sd:Addr}(e:H sd=some (.dK io)){k:Str}{v:V}(h:jC io (.inr k)=some v):uQ H sd (.str k) (some v):=h▸uQ.k (k:=.inr k) e
theorem mI{sd:Addr}(e:H sd=some (.dK io)){k:Str}{v:V}(hl:io.length<sizeLine)(h:im io (.inr k) v=kvs'):z8 H sd (.str k) v (dl H sd (.dK kvs')):=h▸z8.k (k:=.inr k) e hl
section
variable{k:Option Bool}{x y:Addr}{pv:V}{bg ct:Int}{fl hl cm tk pd:Addr}
theorem Pt(v:V):im (stK k x y pv bg ct fl hl cm tk pd) (.inr "pair") v=stK k x y v bg ct fl hl cm tk pd:=by cases k<;>rfl
theorem TK(b:Int):im (stK k x y pv bg ct fl hl cm tk pd) (.inr "begun") (.int b)=stK k x y pv b ct fl hl cm tk pd:=by cases k<;>rfl
theorem TL(c:Int):im (stK k x y pv bg ct fl hl cm tk pd) (.inr "count") (.int c)=stK k x y pv bg c fl hl cm tk pd:=by cases k<;>rfl
end
def kP(P:Pr):List Key:=[.inl P.1,.inl P.2]
theorem Pu{P Q:Pr}(h:kP P=kP Q):P=Q:=by unfold kP at h;injection h with h1 h2;injection h2 with h2 _;exact Prod.ext (Sum.inl.inj h1) (Sum.inl.inj h2)
def kR(ps:List Pr)(la:Pr->Addr):List (List Key×V):=ps.map λP=>(kP P,.ref (la P))
theorem Pw{la:Pr->Addr}{P:Pr}:∀{ps:List Pr},P∈ps->jC (kR ps la) (kP P)=some (.ref (la P))
 |Q::r,h=>by
  by_cases z:Q=P
  ·subst z;exact qo rfl
  exact(kC (p:=(kP Q,V.ref (la Q))) (λy=>z (Pu y))).trans (Pw ((mem_cons.mp h).resolve_left (Ne.symm z)))
theorem JK{la:Pr->Addr}{P:Pr}:∀{ps:List Pr},P∉ps->jC (kR ps la) (kP P)=none
 |[],_=>rfl
 |Q::r,h=>(kC (p:=(kP Q,V.ref (la Q))) (λy=>h (by rw[Pu y];exact mem_cons_self))).trans (JK λy=>h (mem_cons_of_mem _ y))
def qd{α:Type}(la:Pr->α)(P:Pr)(a:α):Pr->α:=λQ=>if Q=P then a else la Q
theorem LJ{ps:List Pr}{la:Pr->Addr}{P:Pr}{a:Addr}(h:P∉ps):im (kR ps la) (kP P) (.ref a)=kR (ps++[P]) (qd la P a):=by
 rw[Fi _ (JK h)];unfold kR;rw[map_append]
 congr 1
 ·exact List.map_congr_left λQ hQ=>by rw[show qd la P a Q=la Q from if_neg (λz:Q=P=>h (by rw[<-z];exact hQ))]
 show _=[(kP P,V.ref (qd la P a P))];rw[show qd la P a P=a from if_pos rfl]
structure FF(B E:Hp)(d:Addr)(ps:List Pr)(la:Pr->Addr)(c:Pr->List (List Int)):Prop where
 at_:E d=some (.dT (kR ps la))
 pc:∀P,P∈ps->Kv B E (la P) (c P)
 inj:∀P,P∈ps->∀Q,Q∈ps->la P=la Q->P=Q
section
variable{d a:Addr}{ps:List Pr}{la:Pr->Addr}{c c':Pr->List (List Int)}{P:Pr}
theorem FF.mono(h:FF B E d ps la c)(s:aI B B'):FF B' E d ps la c:=⟨h.at_,λP hP=>by obtain⟨fJ,g1,g2⟩:=h.pc P hP;exact⟨fJ,g1,λy xs hy=>s _ _ (g2 y xs hy)⟩,h.inj⟩
theorem FF.re(h:FF B E d ps la c)(e:∀P,P∈ps->c' P=c P):FF B E d ps la c':=⟨h.at_,λP hP=>by rw[e P hP];exact h.pc P hP,h.inj⟩
theorem FF.new(h:FF B E d ps la c)(hP:P∉ps)(ha:E a=none):FF B (dl (dl E a (.lst [])) d (.dT (kR (ps++[P]) (qd la P a)))) d (ps++[P]) (qd la P a) (qd c P []):=by
 have nd:a≠d:=λz=>by rw[z,h.at_]at ha;cases ha
 have nl:∀Q,Q∈ps->la Q≠a:=λQ hQ z=>by obtain⟨fJ,g1,_⟩:=h.pc Q hQ;rw[z,ha]at g1;cases g1
 have nld:∀Q,Q∈ps->la Q≠d:=λQ hQ z=>by obtain⟨fJ,g1,_⟩:=h.pc Q hQ;rw[z,h.at_]at g1;cases g1
 have eo:∀{α:Type}(f:Pr->α)(v:α) Q,Q∈ps->qd f P v Q=f Q:=λf v Q hQ=>if_neg (λz:Q=P=>hP (by rw[<-z];exact hQ));have en:∀{α:Type}(f:Pr->α)(v:α),qd f P v P=v:=λf v=>if_pos rfl;refine⟨aA,λQ hQ=>?_,λQ hQ R hR e=>?_⟩
 ·rcases mem_append.mp hQ with z|z
  ·obtain⟨fJ,g1,g2⟩:=h.pc Q z;rw[eo la a Q z,eo c [] Q z];exact⟨fJ,by rw[aE (nld Q z),aE (nl Q z)];exact g1,g2⟩
  rw[mem_singleton.mp z,en,en];exact⟨λ_=>0,by rw[aE nd,aA];rfl,λy xs hy=>by cases hy⟩
 rcases mem_append.mp hQ with z|z<;>rcases mem_append.mp hR with y|y
 ·rw[eo la a Q z,eo la a R y]at e;exact h.inj Q z R y e
 ·rw[eo la a Q z,mem_singleton.mp y,en]at e;exact absurd e (nl Q z)
 ·rw[eo la a R y,mem_singleton.mp z,en]at e;exact absurd e.symm (nl R y)
 rw[mem_singleton.mp z,mem_singleton.mp y]
theorem FF.push(h:FF B E d ps la c)(hP:P∈ps)(ha:B a=some (.lst (xs.map V.int))):∃fJ:Nat->Addr,E (la P)=some (.lst (bB (c P).length fJ))/\FF B (dl E (la P) (.lst (bB (c P).length fJ++[.ref a]))) d ps la (qd c P (c P++[xs])):=by
 obtain⟨fJ,g1,g2⟩:=PU (h.pc P hP) ha;have nld:d≠la P:=λz=>by rw[<-z,h.at_]at g1;cases g1
 refine⟨fJ,g1,by rw[aE nld];exact h.at_,λQ hQ=>?_,h.inj⟩;by_cases z:Q=P
 ·subst z;rw[show qd c Q (c Q++[xs]) Q=_ from if_pos rfl];exact g2 _ aA
 rw[show qd c P (c P++[xs]) Q=c Q from if_neg z];obtain⟨qs,k1,k2⟩:=h.pc Q hQ;exact⟨qs,by rw[aE (λy=>z (h.inj Q hQ P hP y))];exact k1,k2⟩
end
structure Ax where
 sd:Addr
 fl:Addr
 hl:Addr
 cm:Addr
 tk:Addr
 pd:Addr
 y:Addr
 dy:Addr
 d:Addr
structure Vx where
 pv:V
 bg:Int
 ct:Int
 tl:Nat->Addr
 ps:List Pr
 lt:Pr->Addr
 qs:List Pr
 lu:Pr->Addr
def ue(kk:Option Bool)(x:Addr)(a:Ax)(v:Vx):List (Key×V):=stK kk x a.y v.pv v.bg v.ct a.fl a.hl a.cm a.tk a.pd
structure qc(K:W.Frag)(B:Hp)(Ep:Nat->Hp)(s n m:Nat)(kk:Option Bool)(x:Addr)(F:List Ft)(a:Ax)(v:Vx)(p:Option Pr)(c cu:Pr->List (List Int))(us:Pr->Prop):Prop where
 sd:Ep (2+s) a.sd=some (.dK (ue kk x a v))
 pv:nT B v.pv p
 fl:gN K B a.fl F
 hl:B a.hl=some (.lst (bW n λj=>.bl (bF F j)))
 cm:Ep (4+s) a.cm=some (.lst (bB m v.tl))
 tk:FF B (Ep (6+s)) a.tk v.ps v.lt c
 pd:FF B (Ep (8+s)) a.pd v.qs v.lu cu
 pu:∀P,P∈v.ps↔us P
 qu:∀P,P∈v.qs↔us P
theorem qc.mv{Ep':Nat->Hp}{n m:Nat}{x:Addr}{F:List Ft}{a:Ax}{v:Vx}{p:Option Pr}{c cu:Pr->List (List Int)}{us:Pr->Prop}(h:qc K B Ep s n m kk x F a v p c cu us)(bb:aI B B')(e2:Ep' (2+s)=Ep (2+s))(e4:Ep' (4+s)=Ep (4+s))(e6:Ep' (6+s)=Ep (6+s))(e8:Ep' (8+s)=Ep (8+s)):qc K B' Ep' s n m kk x F a v p c cu us :=
 ⟨by rw[e2];exact h.sd,h.pv.mono bb,h.fl.same bb,bb _ _ h.hl,by rw[e4];exact h.cm,by rw[e6];exact h.tk.mono bb,by rw[e8];exact h.pd.mono bb,h.pu,h.qu⟩
inductive uH(K:W.Frag)(C:Addr)(vs:List V)(H:Hp)(Q:VK)(_:XK):Prop
 |mk (B:Hp) (Ep:Nat->Hp) (x tA pA:Nat->Addr) (L:Nat->Lk) (ρ:Addr->Nat) (s T n q cr db:Nat) (kk:Option Bool) (F:List Ft) (a:Ax) (v:Vx) (p:Pr) (c cu:Pr->List (List Int)) (us:Pr->Prop) (w:Str) (ns:List Int) (ev ma:Addr) (_:vs=[.ref a.sd,.ref ev,.int (T:Int),.ref ma]) (_:Tj C B H Ep x tA pA L ρ) (_:qc K B Ep s n (T+1) kk (x s) F a v (some p) c cu us) (_:ES B ev (.mk w p ns)) (_:cT K B ma [.int (cr:Int),.int (db:Int)]) (_:cr+db=q) (_:1<=cr) (_:n<=1000) (_:T<n) (_:F.length=n) (_:(∀fs∈F,KF (cr:Int) fs)) (_:(w=("silent":Str)->ns=[(T:Int)-(q:Int)+1,(T:Int)]/\q<=T/\∀j:Nat,T<j+q->j<=T->bF F j=false)) (_:(∀j,j<=T->bF F j=false->ff B (v.tl j))) (_:∀(H':Hp)(ρ':Addr->Nat),Tj C B H' (ii Ep (2+s) (dl (Ep (2+s)) a.sd (.dK (ue kk (x s) a { v with pv:=.bw })))) x tA pA L ρ'->Q (.bl true) H')
theorem VE(n:Nat)(f:Nat->Bool)(h:∀i,i<n->f i=false):UU (.bl true) (bW n λi=>.bl (f i))=false:=by unfold UU;rw[List.any_eq_false];intro y hy;obtain⟨i,hi,rfl⟩:=List.mem_map.mp hy;rw[h i (List.mem_range.mp hi)];exact λz=>by cases z
theorem Gz(n:Nat)(f:Nat->Bool):(bW n λi=>V.bl (f i)).all qj=true:=by rw[List.all_eq_true];intro y hy;obtain⟨i,_,rfl⟩:=List.mem_map.mp hy;rfl
theorem uI:aS ["state","event","tick","measure","quiet"] ["state","event","tick","measure"] (aG jv):=ac
set_option maxHeartbeats 1000000 in
theorem By(F:aO K mg "_law_ended" jv)(T:Txt K mg t)(uf:Def P w K mg base 10 "is_shown" ["came","quiet","first","last"] yn)(rf:Def P w K mg base 2 "broken_by" ["fates","measure","first","last"] (wY K)):Def P w K mg base 11 "_law_ended" ["state","event","tick","measure"] (uH K t.LinkEnd):=by
 refine F.def uI (λ_ _ _ _ _ _=>bd λ_ _ _ _=>rfl) (λvs H Q E h=>?_) (λf cB A outer s H vs Q E hr h=>?_)
 ·obtain⟨B,Ep,x,tA,pA,L,ρ,s,n,m,q',cr,db,kk,F',a,v,p,c,cu,us,w',ns,ev,ma,rfl,_⟩:=h;rfl
 obtain⟨B,Ep,x,tA,pA,L,ρ,s,m,n,qq,cr,db,kk,F',a,v,p,c,cu,us,w',ns,ev,ma,rfl,st,ok,⟨pa,DN,HV⟩,K5,hq,h1,hn9,hTn,hF,LF,TM,hqt,q⟩:=h;refine⟨_,aC (l8 (bO (aZ jA (ai (bR K) (pv 1) aH (λ_ _=>rfl)) aU (af _))
   (aC (aX (i:=4) uI.nd rfl (Or.inl rfl) (aQ bK (ai (bR K) (pv 3) aH (λ_ _=>rfl)) (ai (bR K) (pv 3) aH (λ_ _=>rfl))))
   (aC (bO (PW.pt (zb (aZ (Kg K (Fd hr)) (cw (RS K) (pv 1) (cD aH) oF) (gT (aB (ay (bG hr) (pv 0) aU (λ_ _=>rfl)) (aB (aQ bK (aQ dv (pv 2) (pv 4)) aH) (aB (pv 2) aD)))) (af _)) (uK (aZ Lf d9 (cw (dN K) (ay (bG hr) (pv 0) aU (λ_ _=>rfl)) (cD (ai (bR K) (pv 1) aH (λ_ _=>rfl))) (cD (aQ bK (pv 2) aH))) (by rfl)))))
    (aF (ah d9))
    (aj))
   (aC (bO (aZ Kd (aY (uf.mono (by decide)) hr av (aB (ay (bG hr) (pv 0) aU (λ_ _=>rfl)) (aB (pv 4) (aB (ai (bR K) (pv 1) aH (λ_ _=>rfl)) (aB (pv 2) aD))))) d9 (af _))
    (aF (ah d9))
    (aj))
   (aF (bO (aZ Kd (aY (rf.mono (by decide)) hr av (aB (ay (bG hr) (pv 0) aU (λ_ _=>rfl)) (aB (pv 3) (aB (ai (bR K) (pv 1) aH (λ_ _=>rfl)) (aB (pv 2) aD))))) d9 (af _))
    (aF (ah d9))
    (aj))))))
   (aj)))
  (aC (lV (bG hr) (pv 0) aU eM (by rfl))
  (aF (ah d9))),?_⟩
 have hsz:(2000:Nat)<=sizeLine:=by decide
 refine⟨λσ H'=>∃v4:Option V,σ=[some (.ref a.sd),some (.ref ev),some (.int (m:Int)),some (.ref ma),v4]/\aI H H',?_,?_⟩
 ·refine⟨_,rfl,ev,_,_,_,rfl,rfl,cT.of (st.sb _ _ DN),Gd _ _,rfl,_,rfl,?_⟩;by_cases hw:w'=("silent":Str)
  ·refine eJ (by rw[hw]) ?_;obtain⟨Y0,hqT,U1⟩:=TM hw;subst hw Y0;obtain⟨f,hf⟩:∃f:Nat,f+qq=m+1:=⟨m+1-qq,by lia⟩;have hfi:(m:Int)-(qq:Int)+1=(f:Int):=(by lia);rw[hfi]at DN;have hqi:(cr:Int)+(db:Int)=(qq:Int):=(by lia);have Bz:=st.sb.tup K5;refine⟨_,rfl,ma,_,_,_,rfl,rfl,Bz,rfl,_,rfl,ma,_,_,_,rfl,rfl,Bz,rfl,_,_,rfl,rfl,?_⟩;refine⟨_,rfl,_,rfl,ev,_,rfl,cT.of (st.sb _ _ DN),λr H1 s1 Ut=>?_⟩;have w6:=st.same s1;refine⟨_,rfl,a.sd,_,rfl,bU (w6.at_ ok.sd) rfl,_,rfl,_,rfl,_,_,rfl,rfl,_,_,rfl,rfl,_,rfl,zz3,λp3 EL=>?_⟩;have s2:=(aI.refl H1).new (o:=.tup [v.pv,.int ((m:Int)-((cr:Int)+(db:Int))+1),.int (m:Int)]) EL;have vj:=w6.same s2;obtain⟨pb,hpb,gpb⟩:=id ok.pv;refine⟨r,p3,_,_,rfl,rfl,s2.tup Ut,cT.of aA,λj u w hu hw=>?_,_,rfl,jg rfl ?_⟩
   ·match j,hu,hw with
    |0,hu,hw =>
     cases hu;have hw:some v.pv=some w:=hw;cases hw;have lk:zw K (dl H1 p3 (.tup [v.pv,.int ((m:Int)-((cr:Int)+(db:Int))+1),.int (m:Int)])) 8 (.ref pa) (.ref pb):=.tup (n:=7) (cT.of (vj.sb _ _ HV)) (cT.of (vj.sb _ _ gpb)) rfl λi y z hy hz=>by
      match i,hy,hz with
      |0,hy,hz=>cases hy;cases hz;exact .flat _ rfl
      |1,hy,hz=>cases hy;cases hz;exact .flat _ rfl
      |i+2,hy,hz=>cases hy
     rw[<-hpb]at lk;exact lk
    |1,hu,hw =>
     have hu:some (V.int (f:Int))=some u:=hu;have hw:some (V.int ((m:Int)-((cr:Int)+(db:Int))+1))=some w:=hw;cases hu;cases hw;rw[hqi,hfi];exact .flat _ rfl
    |2,hu,hw =>
     have hu:some (V.int (m:Int))=some u:=hu;have hw:some (V.int (m:Int))=some w:=hw;cases hu;cases hw;exact .flat _ rfl
    |j+3,hu,hw=>cases hw
   generalize dl H1 p3 (.tup [v.pv,.int ((m:Int)-((cr:Int)+(db:Int))+1),.int (m:Int)])=H2 at *;have XH:∀{H':Hp},aI H2 H'->cT K H' ev [.str "silent",.ref pa,.int (f:Int),.int (m:Int)]:=λs'=>cT.of ((vj.same s').sb _ _ DN);refine⟨_,rfl,a.sd,_,rfl,bU (vj.at_ ok.sd) rfl,_,rfl,ev,_,_,_,rfl,rfl,XH (aI.refl _),rfl,_,rfl,_,rfl,_,_,rfl,rfl,_,rfl,a.hl,_,rfl,ae.of (vj.sb _ _ ok.hl),λp4 Uv=>?_⟩;have ec:cU (bW n λj=>V.bl (bF F' j)) (some (f:Int)) (some ((m:Int)+1))=bW qq λi=>V.bl (bF F' (f+i)):=by have:=lU (n:=n) (f:=λj=>V.bl (bF F' j)) (lo:=f) (hi:=m+1) (by lia) (by lia);rw[show m+1-f=qq by lia]at this;exact this
   have s3:aI H2 (dl H2 p4 (.lst (cU (bW n λj=>V.bl (bF F' j)) (some (f:Int)) (some ((m:Int)+1))))):=(aI.refl _).new Uv;have e4:(dl H2 p4 (.lst (cU (bW n λj=>V.bl (bF F' j)) (some (f:Int)) (some ((m:Int)+1))))) p4=some (.lst (bW qq λi=>V.bl (bF F' (f+i)))):=(by rw[aA,ec]);refine⟨p4,_,rfl,.inl (ae.of e4),rfl,Gz _ _,?_⟩;rw[VE _ _ λi hi=>U1 (f+i) (by lia) (by lia)];refine⟨_,rfl,dX ?_⟩;have je:=vj.same s3;generalize dl H2 p4 (.lst (cU (bW n λj=>V.bl (bF F' j)) (some (f:Int)) (some ((m:Int)+1))))=H3 at *;refine⟨_,rfl,a.sd,_,rfl,bU (je.at_ ok.sd) rfl,_,rfl,_,rfl,ev,_,_,_,rfl,rfl,XH s3,rfl,_,rfl,B,a.cm,m+1,f,qq,v.tl,?_,je.sb,je.at_ ok.cm,by lia,by lia,by lia,λk hk=>hqt _ (by lia) (U1 _ (by lia) (by lia)),λH4 s4=>?_⟩
   ·show[V.ref a.cm,V.int ((cr:Int)+(db:Int)),V.int (f:Int),V.int (m:Int)]=_;rw[hqi,show(f:Int)+(qq:Int)-1=(m:Int) by lia]
   refine⟨_,_,rfl,rfl,_,rfl,dX ?_⟩;have vk:=je.same s4;obtain⟨b,hb⟩:∃b:Nat,b+qq=m:=⟨m-qq,by lia⟩;refine⟨_,rfl,a.sd,_,rfl,bU (vk.at_ ok.sd) rfl,_,rfl,_,rfl,ev,_,_,_,rfl,rfl,XH (s3.trans s4),rfl,_,rfl,a.fl,ma,F',cr,db,b,?_,ok.fl.same vk.sb,by lia,vk.sb.tup K5,by lia,λk fs U2 hk2 YD=>?_,λH5 s5=>?_⟩
   ·show[V.ref a.fl,V.ref ma,V.int (f:Int),V.int (m:Int)]=_;rw[show(b:Int)+1=(f:Int) by lia,show(b:Int)+(db:Int)+(cr:Int)=(m:Int) by lia]
   ·have kf:=LF fs (mem_of_getElem? YD);have gf:=kf.good (by lia);refine⟨gf.g.len,λ⟨d,hd,hl⟩=>?_⟩;obtain⟨d1,d2,_⟩:=gf.g.at_ d hd;have hh:bF F' (k+d.1.toNat)=true:=DT.mpr ⟨k,fs,d,YD,hd,rfl,hl⟩;rw[U1 (k+d.1.toNat) (by lia) (by lia)]at hh;cases hh
   refine⟨_,_,rfl,rfl,_,rfl,dX ?_⟩;exact⟨_,rfl,s1.trans (s2.trans (s3.trans (s4.trans s5)))⟩
  exact eZ (λz=>hw (by injection z)) ⟨_,rfl,aI.refl _⟩
 rintro σ H1 ⟨v4,rfl,s1⟩;have w6:=st.same s1;refine⟨_,rfl,a.sd,_,rfl,mI (w6.at_ ok.sd) (zY _ _ _ _ _ _ _ _ _ _ _) (Pt _),?_⟩;obtain⟨ρ2,vj⟩:=w6.put (2+s) (a:=a.sd) (o:=.dK (ue kk (x s) a { v with pv:=.bw })) (aT ok.sd) (fc _);exact q _ ρ2 vj
structure XI(q:Nat)(F:List Ft)(T:Nat)(p:Option Pr)(bg:Int)(E:List Ev):Prop where
 due:(∃x ns,Ev.mk "silent" x ns∈E)↔(p≠none/\bg+(q:Int)<=(T:Int)/\∀j:Nat,T<j+q->j<=T->bF F j=false)
 one:∀x ns,Ev.mk "silent" x ns∈E->ns=[(T:Int)-(q:Int)+1,(T:Int)]/\q<=T/\∀j:Nat,T<j+q->j<=T->bF F j=false
theorem aDI{q:Nat}{F:List Ft}{T:Nat}{L:Lk}{la bg:Int}(h:Sl q F T L la bg)(e:SlE q F T L la bs)(hq:1<=q)(MU:bs=[]↔bF F T=false):XI q F T L.p bg (bN L bs).ev:=by
 have l1:=h.l1;have hu:=h.u;have hQ:=h.q;have one:∀x ns,Ev.mk "silent" x ns∈(bN L bs).ev->bs=[]/\L.p≠none/\la+(q:Int)=(T:Int)/\ns=[(T:Int)-(q:Int)+1,(T:Int)]:=λx ns hx=>by
  by_cases z:bs=[]
  ·by_cases y:L.p=none\/la+(q:Int)≠(T:Int)
   ·rw[e.nil z y]at hx;cases hx
   have y1:L.p≠none:=λw=>y (.inl w);have y2:la+(q:Int)=(T:Int):=Classical.byContradiction λw=>y (.inr w);obtain⟨x',hx'⟩:∃x',L.p=some x':=by
    cases e:L.p with
    |none=>exact absurd e y1
    |some x'=>exact⟨x',rfl⟩
   rw[e.yes z x' hx' y2]at hx;have:=mem_singleton.mp hx;injection this with _ _ h3;exact⟨z,y1,y2,h3⟩
  exact absurd rfl (e.no z _ hx x ns)
 have Sm:bs=[]->la+(q:Int)=(T:Int)->∀j:Nat,T<j+q->j<=T->bF F j=false:=λz y j h1 h2=>by
  by_cases w:j=T
  ·rw[w];exact MU.mp z
  exact h.hn j (by lia) (by lia)
 refine⟨⟨λ⟨x,ns,hx⟩=>?_,λ⟨hp,hb,hj⟩=>?_⟩,λx ns hx=>?_⟩
 ·obtain⟨a,b,c,_⟩:=one x ns hx;have:=h.bl b;exact⟨b,by lia,Sm a c⟩
 ·have z:bs=[]:=MU.mpr (hj T (by lia) (le_refl _));have k:=h.pk hp;have ku:=h.ku k;have kl:=h.kl k;have y:la+(q:Int)=(T:Int):=by
   by_cases w:(T:Int)<la+(q:Int)
   ·exfalso;obtain⟨j,hj'⟩:∃j:Nat,la=(j:Int):=⟨la.toNat,by lia⟩;have a:=h.hl j hj';rw[hj j (by lia) (by lia)]at a;cases a
   lia
  cases e':L.p with
  |none=>exact absurd e' hp
  |some x=>exact⟨x,_,by rw[e.yes z x e' y];exact mem_singleton.mpr rfl⟩
 obtain⟨a,b,c,d⟩:=one x ns hx;have kl:=h.kl (h.pk b);exact⟨d,by lia,Sm a c⟩
theorem Px{pv W5:V}{p:Option (Int×Int)}{Q:VK}(h:nT H pv p)(h':nT H W5 p)(q:Q (.bl true) H):Zb K pv W5 H Q:=by
 cases p with
 |none =>
  have h:pv=.bw:=h;have h':W5=.bw:=h';subst h h';exact .inl ⟨rfl,q⟩
 |some p =>
  obtain⟨a,rfl,g⟩:=h;obtain⟨a',rfl,g'⟩:=h';refine .inr ⟨a,a',_,_,rfl,rfl,cT.of g,cT.of g',λj u v hu hv=>?_,q⟩
  match j,hu,hv with
  |0,hu,hv=>cases hu;cases hv;exact .flat _ rfl
  |1,hu,hv=>cases hu;cases hv;exact .flat _ rfl
  |j+2,hu,hv=>cases hu
theorem G5{pv:V}{p:Option Pr}(h:nT B pv p):pv=.bw↔p=none:=by
 cases p with
 |none=>exact⟨λ_=>rfl,λ_=>h⟩
 |some x=>obtain⟨a,rfl,_⟩:=h;exact⟨(λz=>by cases z),(λz=>by cases z)⟩
theorem Tj.evs{C:Addr}{B H H':Hp}{Ep:Nat->Hp}{x tA pA:Nat->Addr}{L:Nat->Lk}{ρ:Addr->Nat}{sd:Nat}{tB:Addr}(st:Tj C B H Ep x tA pA L ρ)(Dr:sd<2)(mv:jh B H B H' (x sd) (tA sd) (pA sd) tB (pA sd))(ntB:tB≠tA sd)(lk:bh C B H' (x sd) tB (pA sd) { L sd with ev:=[] })(ev:DM B H' (tA sd) (L sd).ev):
  ∃B' ρ',aI B B'/\Tj C B' H' Ep x (ii tA sd tB) pA (ii L sd { L sd with ev:=[] }) ρ'/\DM B' B' (tA sd) (L sd).ev:=by
 obtain⟨B',ρ',s,t,e⟩:=st.tw.evs Dr mv ntB lk ev;exact⟨B',ρ',s,⟨t,st.dj⟩,e⟩
theorem XJ{x:Pr}:∀(es:List Ev)(A:Wt),(∀x,A.p=some x->A.u x)->(yl A es).p=some x->(yl A es).u x
 |[],_,h,e=>h x e
 |.mk w y ns::r,A,h,e=>XJ r (gM A (.mk w y ns)) (λz hz=>by
   unfold gM at hz ⊢;simp only at hz ⊢;split at hz
   ·rename_i q;rw[if_pos q];cases hz;exact .inl rfl
   cases hz) e
 |.took xs::r,A,h,e=>XJ r (gM A (.took xs)) (λz hz=>by
   unfold gM at hz ⊢;simp only at hz ⊢;cases ep:A.p with
   |none=>rw[ep]at hz;simp only at hz;rw[ep]at hz;cases hz
   |some y=>rw[ep]at hz;exact h z (by rw[ep];exact hz)) e
def Due(q:Nat)(F:List Ft)(T:Nat)(p:Option Pr)(bg:Int):Prop:=p≠none/\bg+(q:Int)<=(T:Int)/\∀j:Nat,T<j+q->j<=T->bF F j=false
inductive jI(K:W.Frag)(C:Addr)(vs:List V)(H:Hp)(Q:VK)(_:XK):Prop
 |mk (B:Hp) (Ep:Nat->Hp) (x tA pA:Nat->Addr) (L:Nat->Lk) (ρ:Addr->Nat) (s T n q cr db:Nat) (kk ko:Option Bool) (F:List Ft) (a ao:Ax) (v vo:Vx) (A:Wt) (W Ws Wo:Pr->List (List Int)) (ma:Addr) (_:vs=[.ref a.sd,.ref ao.sd,.int (T:Int),.ref ma]) (_:s<2) (_:Tj C B H Ep x tA pA L ρ) (_:qc K B Ep s n (T+1) kk (x s) F a v A.p (λP=>(W P).take (A.k P)) Ws A.u) (_:(Ep (2+(1-s)) ao.sd=some (.dK (ue ko (x (1-s)) ao vo))/\FF B (Ep (8+(1-s))) ao.pd vo.qs vo.lu Wo/\(∀P,∃r,Wo P=W P++r)/\∀P,W P≠[]->P∈vo.qs)) (_:cT K B ma [.int (cr:Int),.int (db:Int)]) (_:cr+db=q) (_:1<=cr) (_:n<=1000) (_:T<n) (_:F.length=n) (_:(∀fs∈F,KF (cr:Int) fs)) (_:(∀j,j<=T->bF F j=false->ff B (v.tl j))) (_:Mc W A (L s).ev) (_:(yl A (L s).ev).p=(L s).p) (_:KU A) (_:XI q F T A.p v.bg (L s).ev) (_:0<=v.bg) (_:(∀P,¬A.u P->Ws P=[])) (_:(∀P,(W P).length<=1000)) (_:v.ps.length+(L s).ev.length<=8000000) (_:v.qs.length+(L s).ev.length<=8000000) (_:∀(B' H':Hp)(Ep':Nat->Hp)(ρ':Addr->Nat)(tB:Addr)(v':Vx),aI B B'->Tj C B' H' Ep' x (ii tA s tB) pA (ii L s { L s with ev:=[] }) ρ'->qc K B' Ep' s n (T+1) kk (x s) F a v' (yl A (L s).ev).p (λP=>(W P).take ((yl A (L s).ev).k P)) Ws (yl A (L s).ev).u->v'.bg=lO T v.bg (L s).ev->v'.ct=v.ct->v'.tl=v.tl->v'.ps.length<=v.ps.length+(L s).ev.length->v'.qs.length<=v.qs.length+(L s).ev.length->(∀j,j≠2+s->j≠6+s->j≠8+s->Ep' j=Ep j)->Q (.bl true) H')
theorem Eo{d b:Addr}{ps:List Pr}{la:Pr->Addr}{P:Pr}(e:H d=some (.dT (kR ps la)))(eb:H b=some (.tup [.int P.1,.int P.2]))(hP:P∈ps):uQ H d (.ref b) (some (.ref (la P))):=Pw (la:=la) hP▸uQ.t (k:=kP P) e eb
theorem rg(Ep:Nat->Hp)(i:Nat)(a:Addr)(o:HO):ii Ep i (dl (Ep i) a o) i a=some o/\∀j,j≠i->ii Ep i (dl (Ep i) a o) j=Ep j:=⟨by rw[aJ,aA],λj hj=>aN hj⟩
theorem G7(ps:List Pr)(la:Pr->Addr):(kR ps la).length=ps.length:=length_map _
theorem XM{d b a:Addr}{ps:List Pr}{la:Pr->Addr}{P:Pr}(e:H d=some (.dT (kR ps la)))(eb:H b=some (.tup [.int P.1,.int P.2]))(hP:P∉ps)(hl:ps.length<sizeLine):z8 H d (.ref b) (.ref a) (dl H d (.dT (kR (ps++[P]) (qd la P a)))):=LJ hP▸z8.t (k:=kP P) e eb (by rw[G7];exact hl)
theorem ff.mono(h:ff B r)(s:aI B B'):ff B' r:=by obtain⟨rs,⟨cs,c1,c2⟩,r2⟩:=h;exact⟨rs,⟨cs,s _ _ c1,λi row hi=>s _ _ (c2 i row hi)⟩,r2⟩
theorem JL{a b:Str}(h:a≠b):¬V.str a=V.str b:=λz=>h (by injection z)
theorem XN(n:Nat)(f:Nat->Bool):(!UU (.bl true) (bW n λi=>.bl (f i)))=true↔∀i,i<n->f i=false:=by
 constructor
 ·intro h i hi;cases e:f i with
  |false=>rfl
  |true =>
   exfalso;have:UU (.bl true) (bW n λi=>.bl (f i))=true:=by unfold UU;rw[List.any_eq_true];exact⟨_,mem_of_getElem? (bu hi),by rw[e];rfl⟩
   rw[this]at h;cases h
 intro h;rw[VE n f h];rfl
theorem aAC{b c:Bool}(h:b=true↔c=true):b=c:=by cases b<;>cases c<;>simp_all
theorem bL:aS ["state","other","tick","measure","quiet","due","told","event","kept"] ["state","other","tick","measure"] (aG dG):=ac
set_option maxHeartbeats 4000000 in
theorem rh{fde:FuncData}(F:aO K mg "_law_events_right" dG)(T:Txt K mg t)(o4:Def P w K mg base 11 "_law_ended" ["state","event","tick","measure"] (uH K t.LinkEnd))(Az:b7 P w K mg base (iE P w) 1 t.rB fde ["self"] (DP t.LinkEnd))(A2:Binds K fde ["self"] [])(Mm:b7 P w K mg base (iE P w) 1 t.MA fdu ["self"] (O4 t.LinkEnd))(Mn:Binds K fdu ["self"] []):Def P w K mg base 12 "_law_events_right" ["state","other","tick","measure"] (jI K t.LinkEnd):=by
 refine F.def bL (λ_ _ _ _ _ _=>bd λ_ _ _ _=>rfl) (λvs H Q E h=>?_) (λf cB A outer s H vs Q E hr h=>?_)
 ·obtain⟨B,Ep,x,tA,pA,L,ρ,s,m,n,qq,cr,db,kk,ko,F',a,ao,v,vo,A,W,Ws,Wo,ma,rfl,_⟩:=h;rfl
 obtain⟨B,Ep,x,tA,pA,L,ρ,s,m,n,qq,cr,db,kk,ko,F',a,ao,v,vo,A,W,Ws,Wo,ma,rfl,hs,st,ok,⟨od,op,owo,oqs⟩,K5,hq,h1,hn9,hTn,hF,LF,hqt,hA,hpE,hku,TM,aIx,hws,hWl,tZ,hql,q⟩:=h;refine⟨_,aC (aX (i:=4) bL.nd rfl (Or.inl rfl) (aQ bK (ai (bR K) (pv 3) aH (λ_ _=>rfl)) (ai (bR K) (pv 3) aH (λ_ _=>rfl))))
  (aC (l8 (aX (i:=5) bL.nd rfl (Or.inl rfl) (zc (fW su (ay (bG hr) (pv 0) aU (λ_ _=>rfl)) eM (af _)) (xA (fW qL (aQ bK (ay (bG hr) (pv 0) aU (λ_ _=>rfl)) (pv 4)) (pv 2) (af _))))))
  (aC (l8 (aX (i:=5) bL.nd rfl (Or.inl rfl) (zc (pv 5) (xA (fW Df d9 (cw (dN K) (ay (bG hr) (pv 0) aU (λ_ _=>rfl)) (cD (aQ bK (aQ dv (pv 2) (pv 4)) aH)) (cD (aQ bK (pv 2) aH))) (by rfl))))))
  (aC (aX (i:=6) bL.nd rfl (Or.inl rfl) d9)
  (aC (PS.Ck (cO PassesOwn.never rfl (bz K (dh (ay (bG hr) (pv 0) aU (λ_ _=>rfl)) T.aM T.MD (Az.mono (by decide)) hr A2 .nil av)) (au (i:=7) bL.nd rfl (Or.inl rfl))
   (aF (bO (aZ jA (ai (bR K) (pv 7) aH (λ_ _=>rfl)) aU (af _))
    (aC (lV (bG hr) (pv 0) aU (ai (bR K) (pv 7) aH (λ_ _=>rfl)) (by rfl))
    (aC (lV (bG hr) (pv 0) aU (pv 2) (by rfl))
    (aC (lV (bG hr) (ay (bG hr) (pv 0) aU (λ_ _=>rfl)) (ai (bR K) (pv 7) aH (λ_ _=>rfl)) (ba aD) (by rfl))
    (aF (ax (Lx (bG hr) (ay (bG hr) (pv 0) aU (λ_ _=>rfl)) (ai (bR K) (pv 7) aH (λ_ _=>rfl)) (ba aD) ⟨rfl,rfl,rfl,rfl⟩))))))
    (aF (bO (aZ jA (ai (bR K) (pv 7) aH (λ_ _=>rfl)) aU (af _))
     (aC (ax (iH K PySem.F.plainAttrs_list PySem.F.slot_list_append PySem.F.type_list_append cG (ay (bG hr) (ay (bG hr) (pv 0) aU (λ_ _=>rfl)) (ay (bG hr) (pv 0) aU (λ_ _=>rfl)) (λ_ _=>rfl)) (aB (ai (bR K) (pv 7) aH (λ_ _=>rfl)) aD)))
     (aC (aX (i:=8) bL.nd rfl (Or.inl rfl) (ay (bG hr) (ay (bG hr) (pv 0) aU (λ_ _=>rfl)) (ay (bG hr) (pv 0) aU (λ_ _=>rfl)) (λ_ _=>rfl)))
     (aF (bO (aZ (Ke K (Fd hr)) (cw (dN K) (Fo (bG hr) (ay (bG hr) (pv 1) aU (λ_ _=>rfl)) (ay (bG hr) (pv 0) aU (λ_ _=>rfl)) (ba aD) ⟨rfl,rfl,rfl,rfl⟩) oF (cD (bP (bY K) (by rfl) T.gI boot_len (aB (pv 8) aD)))) (pv 8) (af _))
      (aF (ah d9))
      (aj)))))
     (aC (l8 (aX (i:=6) bL.nd rfl (Or.inl rfl) (YY (pv 6) (xA (fW jA (ai (bR K) (pv 7) aH (λ_ _=>rfl)) aU (af _))))))
     (aF (bO (PW.pt (zb (aZ (OZ K (Fd hr)) (ai (bR K) (pv 7) aH (λ_ _=>rfl)) (ay (bG hr) (pv 0) aU (λ_ _=>rfl)) (af _)) (uK (fh (jJ (aY (o4.mono (by decide)) hr av (aB (pv 0) (aB (pv 7) (aB (pv 2) (aB (pv 3) aD))))))))))
      (aF (ah d9))
      (aj))))))))))
  (aF (ah (zc (fW jA (pv 6) (pv 5) (af _)) (xA (fW (WY K (Fd hr)) (dh (ay (bG hr) (pv 0) aU (λ_ _=>rfl)) T.aM T.Ur (Mm.mono (by decide)) hr Mn .nil av) (ay (bG hr) (pv 0) aU (λ_ _=>rfl)) (af _)))))))))),?_⟩
 have hsz:(9000000:Nat)<=sizeLine:=by decide
 have hqi:(cr:Int)+(db:Int)=(qq:Int):=by lia
 have Bz:=st.sb.tup K5;refine⟨_,rfl,ma,_,_,_,rfl,rfl,Bz,rfl,_,rfl,ma,_,_,_,rfl,rfl,Bz,rfl,_,_,rfl,rfl,?_⟩;dsimp only;rw[hqi];refine⟨λσ H'=>∃d:Bool,σ=[some (.ref a.sd),some (.ref ao.sd),some (.int (m:Int)),some (.ref ma),some (.int (qq:Int)),some (.bl d),none,none,none]/\H'=H/\(d=true↔A.p≠none/\v.bg+(qq:Int)<=(m:Int)),?_,?_⟩
 ·refine⟨_,rfl,a.sd,_,rfl,bU (st.at_ ok.sd) rfl,rfl,_,rfl,?_⟩;by_cases z:v.pv=.bw
  ·refine jg z ⟨false,rfl,rfl,⟨(λy=>by cases y),λy=>absurd ((G5 ok.pv).mp z) y.1⟩⟩
  refine wA z ⟨_,rfl,a.sd,_,rfl,bU (st.at_ ok.sd) rfl,_,rfl,_,_,rfl,rfl,_,rfl,_,_,rfl,rfl,?_⟩;refine⟨_,rfl,rfl,?_⟩;rw[decide_eq_true_iff];exact⟨λy=>⟨λw=>z ((G5 ok.pv).mpr w),y⟩,λy=>y.2⟩
 rintro σ H' ⟨d1,rfl,rfl,Qo⟩;refine⟨λσ H1=>∃d:Bool,σ=[some (.ref a.sd),some (.ref ao.sd),some (.int (m:Int)),some (.ref ma),some (.int (qq:Int)),some (.bl d),none,none,none]/\aI H' H1/\(d=true↔Due qq F' m A.p v.bg),?_,?_⟩
 ·refine⟨_,rfl,_,rfl,?_⟩;cases d1 with
  |false=>exact dX ⟨false,rfl,aI.refl _,⟨(λy=>by cases y),λy=>by have:=Qo.mpr ⟨y.1,y.2.1⟩;cases this⟩⟩
  |true =>
   obtain⟨b1,b2⟩:=Qo.mp rfl;obtain⟨f,hf⟩:∃f:Nat,f+qq=m+1:=⟨m+1-qq,by lia⟩;refine iD ⟨_,rfl,a.sd,_,rfl,bU (st.at_ ok.sd) rfl,_,rfl,_,rfl,_,_,rfl,rfl,_,_,rfl,rfl,_,rfl,_,rfl,_,_,rfl,rfl,_,rfl,a.hl,_,rfl,ae.of (st.sb _ _ ok.hl),λp4 Uv=>?_⟩;have ec:cU (bW n λj=>V.bl (bF F' j)) (some ((m:Int)-(qq:Int)+1)) (some ((m:Int)+1))=bW qq λi=>V.bl (bF F' (f+i)):=by have:=lU (n:=n) (f:=λj=>V.bl (bF F' j)) (lo:=f) (hi:=m+1) (by lia) (by lia);rw[show m+1-f=qq by lia]at this;rw[show(m:Int)-(qq:Int)+1=(f:Int) by lia];exact this
   have e4:(dl H' p4 (.lst (cU (bW n λj=>V.bl (bF F' j)) (some ((m:Int)-(qq:Int)+1)) (some ((m:Int)+1))))) p4=some (.lst (bW qq λi=>V.bl (bF F' (f+i)))):=(by rw[aA,ec]);refine⟨p4,_,rfl,.inl (ae.of e4),rfl,Gz _ _,?_⟩;refine⟨_,rfl,(aI.refl _).new Uv,?_⟩;show(!UU (.bl true) (bW qq λi=>V.bl (bF F' (f+i))))=true↔_;rw[XN];refine⟨λy=>⟨b1,b2,λj h1 h2=>?_⟩,λy i hi=>y.2.2 (f+i) (by lia) (by lia)⟩;have:=y (j-f) (by lia);rw[show f+(j-f)=j by lia]at this;exact this
 rintro σ H1 ⟨d,rfl,s1,hd⟩;replace st:=st.same s1;clear Qo s1 Bz;have lk:=st.lk hs;obtain⟨dx,_,hx,_⟩:=lk.at_;refine⟨_,rfl,a.sd,_,rfl,bU (st.at_ ok.sd) rfl,x s,dx,_,rfl,hx,rfl,B,x s,tA s,pA s,L s,rfl,lk,λH2 tB mv ntB XO ev2=>?_⟩;obtain⟨B1,ρ1,LC,w6,iA,ev3,ev4⟩:=st.evs hs mv ntB XO ev2;generalize hE:(L s).ev=E at *;have Fc:=ok.mv LC rfl rfl rfl rfl;have n26:(2+s:Nat)≠6+s:=by lia
 refine⟨tA s,rfl,⟨_,ae.of (w6.sb _ _ ev3)⟩,?_⟩
 let I1:Nat->_->_->Prop:=λi σ H'=>∃(told:Bool)(v7 v8:Option V)(Ep':Nat->Hp)(ρ':Addr->Nat)(v':Vx),σ=[some (.ref a.sd),some (.ref ao.sd),some (.int (m:Int)),some (.ref ma),some (.int (qq:Int)),some (.bl d),some (.bl told),v7,v8]/\Tj t.LinkEnd B1 H' Ep' x (ii tA s tB) pA (ii L s { L s with ev:=[] }) ρ'/\qc K B1 Ep' s n (m+1) kk (x s) F' a v' (yl A (E.take i)).p (λP=>(W P).take ((yl A (E.take i)).k P)) Ws (yl A (E.take i)).u/\v'.bg=lO m v.bg (E.take i)/\v'.ct=v.ct/\v'.tl=v.tl/\v'.ps.length<=v.ps.length+i/\v'.qs.length<=v.qs.length+i/\(∀j,j≠2+s->j≠6+s->j≠8+s->Ep' j=Ep j)/\(told=true↔∃x ns,Ev.mk "silent" x ns∈E.take i)
 refine gS (K:=K) (a:=tA s) (xs:=bB E.length iA) I1
  ⟨false,none,none,Ep,ρ1,v,rfl,w6,Fc,rfl,rfl,rfl,le_refl _,le_refl _,λ_ _ _ _=>rfl,⟨(λz=>by cases z),(λ⟨_,_,z⟩=>by cases z)⟩⟩ (λi σ H' _ ⟨_,_,_,_,_,_,_,s',_⟩=>ae.of (s'.sb _ _ ev3)) ?_ ?_
 ·rintro i vv σ H3 hi ⟨told,v7,v8,wg,ρ3,v3,rfl,je,mx,X6,hc3,YE,EL,hq3,NM,hto⟩;obtain⟨hil,rfl⟩:=tab_of hi;have he:E[i]?=some E[i]:=by simp[hil]
  have tk:=take_succ he;have oke:=hA i _ he;have ise:=ev4 i _ he;generalize E[i]=e at *;generalize hAi:yl A (E.take i)=Ai at *;have ku3:∀y,Ai.p=some y->Ai.u y:=λy hy=>by rw[<-hAi]at hy ⊢;exact XJ _ _ hku.1 hy
  cases e with
  |took xs =>
   obtain⟨y,YF,hWy⟩:=oke;obtain⟨l0,g1,g2⟩:=ise;have hnx:yl A (E.take (i+1))=⟨Ai.p,λP=>if P=y then Ai.k y+1 else Ai.k P,Ai.u⟩:=by rw[tk,kO,hAi];unfold gM;simp only;rw[YF]
   have hyp:y∈v3.ps:=(mx.pu y).mpr (ku3 y YF);have Py:=mx.pv;rw[YF]at Py;obtain⟨pb,hpb,gpb⟩:=Py;have hyo:y∈vo.qs:=oqs y λz=>(by rw[z]at hWy;cases hWy);have kW:Ai.k y+1<=(W y).length:=(List.getElem?_eq_some_iff.mp hWy).1;have w9:=hWl y;have Mo:∀{zF:Hp},aI B1 zF->cT K zF (iA i) [.str "took",.ref l0]:=λs'=>cT.of (s' _ _ g1);refine⟨_,rfl,iA i,_,_,_,rfl,rfl,Mo je.sb,Gd _ _,rfl,_,rfl,eZ (JL (by decide)) ?_⟩;refine⟨_,rfl,iA i,_,_,_,rfl,rfl,Mo je.sb,Gd _ _,rfl,_,rfl,eJ rfl ?_⟩;have aDL:∀{zF:Hp},aI B1 zF->zF pb=some (.tup [.int y.1,.int y.2]):=λs'=>s' _ _ gpb;have dg:∀{zF:Hp}{la:Pr->Addr}{dd:Addr}{qs:List Pr},aI B1 zF->zF dd=some (.dT (kR qs la))->y∈qs->uQ zF dd v3.pv (some (.ref (la y))):=λs' e1 e2=>(by rw[hpb];exact Eo e1 (aDL s') e2);obtain⟨fJ,h1p,tk4⟩:=mx.tk.push (a:=l0) (xs:=xs) hyp g2;have tl9:((W y).take (Ai.k y)).length=Ai.k y:=(by rw[length_take];lia);refine⟨_,rfl,a.sd,_,rfl,bU (je.at_ mx.sd) rfl,_,rfl,a.sd,_,rfl,bU (je.at_ mx.sd) rfl,a.tk,_,rfl,dg je.sb (je.at_ mx.tk.at_) hyp,.inl ⟨rfl,_,ae.of (je.at_ h1p)⟩,_,rfl,iA i,_,_,_,rfl,rfl,Mo je.sb,PR _ _ _,v3.lt y,_,_,rfl,rfl,je.at_ h1p,by rw[aL,tl9];lia,?_⟩;obtain⟨ρ4,vk⟩:=je.put (6+s) (a:=v3.lt y) (o:=.lst (bB ((W y).take (Ai.k y)).length fJ++[.ref l0])) (aT h1p) (cX _);have tkE:ii wg (6+s) (dl (wg (6+s)) (v3.lt y) (.lst (bB ((W y).take (Ai.k y)).length fJ++[.ref l0]))) (6+s)=_:=aJ;have e2:ii wg (6+s) (dl (wg (6+s)) (v3.lt y) (.lst (bB ((W y).take (Ai.k y)).length fJ++[.ref l0]))) (2+s)=wg (2+s):=aN (by lia);have e4:ii wg (6+s) (dl (wg (6+s)) (v3.lt y) (.lst (bB ((W y).take (Ai.k y)).length fJ++[.ref l0]))) (4+s)=wg (4+s):=aN (by lia);have e8:ii wg (6+s) (dl (wg (6+s)) (v3.lt y) (.lst (bB ((W y).take (Ai.k y)).length fJ++[.ref l0]))) (8+s)=wg (8+s):=aN (by lia);have KS:∀j,j≠2+s->j≠6+s->j≠8+s->ii wg (6+s) (dl (wg (6+s)) (v3.lt y) (.lst (bB ((W y).take (Ai.k y)).length fJ++[.ref l0]))) j=Ep j:=λj j1 j2 j3=>(by rw[aN j2];exact NM j j1 j2 j3);have VF:FF B1 (ii wg (6+s) (dl (wg (6+s)) (v3.lt y) (.lst (bB ((W y).take (Ai.k y)).length fJ++[.ref l0]))) (6+s)) a.tk v3.ps v3.lt (λP=>(W P).take (if P=y then Ai.k y+1 else Ai.k P)):=by
    rw[tkE];refine tk4.re λP _=>?_;by_cases z:P=y
    ·rw[if_pos z,z];rw[show qd (λP=>(W P).take (Ai.k P)) y ((W y).take (Ai.k y)++[xs]) y=_ from if_pos rfl];exact(Md hWy).symm
    rw[if_neg z];exact(show qd (λP=>(W P).take (Ai.k P)) y ((W y).take (Ai.k y)++[xs]) P=_ from if_neg z).symm
   generalize ii wg (6+s) (dl (wg (6+s)) (v3.lt y) (.lst (bB ((W y).take (Ai.k y)).length fJ++[.ref l0])))=YG at *;generalize dl H3 (v3.lt y) (.lst (bB ((W y).take (Ai.k y)).length fJ++[.ref l0]))=H4 at *;have ok4:qc K B1 YG s n (m+1) kk (x s) F' a v3 Ai.p (λP=>(W P).take (if P=y then Ai.k y+1 else Ai.k P)) Ws Ai.u:=⟨by rw[e2];exact mx.sd,mx.pv,mx.fl,mx.hl,by rw[e4];exact mx.cm,VF,by rw[e8];exact mx.pd,mx.pu,mx.qu⟩;obtain⟨XQ,k1,k2⟩:=VF.pc y hyp;rw[if_pos rfl]at k1 k2;refine⟨_,rfl,a.sd,_,rfl,bU (vk.at_ ok4.sd) rfl,_,rfl,a.sd,_,rfl,bU (vk.at_ ok4.sd) rfl,a.tk,_,rfl,dg vk.sb (vk.at_ VF.at_) hyp,?_⟩;have od4:YG (2+(1-s)) ao.sd=some (.dK (ue ko (x (1-s)) ao vo)):=(by rw[KS _ (by lia) (by lia) (by lia)];exact od);have op4:FF B1 (YG (8+(1-s))) ao.pd vo.qs vo.lu Wo:=(by rw[KS _ (by lia) (by lia) (by lia)];exact op.mono LC);obtain⟨Pz,k3,k4⟩:=op4.pc y hyo;obtain⟨rr,hrr⟩:=owo y;have lWo:Ai.k y+1<=(Wo y).length:=(by rw[hrr,length_append];lia);have ltk:((W y).take (Ai.k y+1)).length=Ai.k y+1:=(by rw[length_take];lia);refine⟨_,rfl,ao.sd,_,rfl,bU (vk.at_ od4) rfl,ao.pd,rfl,.inr ⟨_,.inl (vk.at_ op4.at_)⟩,_,rfl,a.sd,_,rfl,bU (vk.at_ ok4.sd) rfl,zz0,λe0 S5=>?_⟩;have s5:=(aI.refl H4).new (o:=.lst []) S5;have xD:=vk.same s5;refine⟨_,dg xD.sb (xD.at_ op4.at_) hyo,?_⟩;refine⟨_,rfl,v3.lt y,_,rfl,.inl (ae.of (xD.at_ k1)),_,rfl,vo.lu y,_,rfl,ae.of (xD.at_ k3),λp6 Uu=>?_⟩;generalize dl H4 e0 (.lst [])=H5 at *;have ec:cU (bB (Wo y).length Pz) none (some ((bB ((W y).take (Ai.k y+1)).length XQ).length:Int))=bB (Ai.k y+1) Pz:=by rw[aL,ltk];exact uP lWo
   have s6:aI H5 (dl H5 p6 (.lst (cU (bB (Wo y).length Pz) none (some ((bB ((W y).take (Ai.k y+1)).length XQ).length:Int))))):=(aI.refl _).new Uu;have e6:(dl H5 p6 (.lst (cU (bB (Wo y).length Pz) none (some ((bB ((W y).take (Ai.k y+1)).length XQ).length:Int))))) p6=some (.lst (bB (Ai.k y+1) Pz)):=(by rw[aA,ec]);have Mp:=xD.same s6;refine⟨_,rfl,p6,v3.lt y,_,_,rfl,rfl,ae.of e6,ae.of (Mp.at_ k1),.inl ⟨by rw[aL,aL,ltk],λj u w hu hw=>?_,_,rfl,dX ?_⟩⟩
   ·obtain⟨hj,rfl⟩:=tab_of hu;obtain⟨_,rfl⟩:=tab_of hw;have ej:(W y)[j]?=some (W y)[j]:=getElem?_eq_getElem (by lia);have z1:=k4 j (W y)[j] (by rw[hrr,getElem?_append_left (by lia)];exact ej);have z2:=k2 j (W y)[j] (by rw[List.getElem?_take,if_pos hj];exact ej);exact .lst (n:=7) (ae.of (Mp.sb _ _ z1)) (ae.of (Mp.sb _ _ z2)) rfl λk a b ha hb=>by rw[ha]at hb;cases hb;obtain⟨z,_,rfl⟩:=jj ha;exact .flat _ rfl
   refine⟨told,_,_,YG,ρ4,v3,rfl,Mp,by rw[hnx];exact ok4,?_,hc3,YE,by lia,by lia,KS,?_⟩
   ·rw[tk,Ek];exact X6
   rw[hto,tk];exact⟨λ⟨x,ns,z⟩=>⟨x,ns,mem_append_left _ z⟩,λ⟨x,ns,z⟩=>(mem_append.mp z).elim (λz=>⟨x,ns,z⟩) λz=>by cases mem_singleton.mp z⟩
  |mk wd y ns =>
   obtain⟨pa,g1,g2⟩:=id ise;rcases oke with⟨rfl,Uz,hu0,_,X7⟩|⟨hw1,hw2,YF⟩
   ·have Mo:∀{zF:Hp},aI B1 zF->cT K zF (iA i) (.str "up"::.ref pa::ns.map V.int):=λs'=>cT.of (s' _ _ g1);have g2H:∀{zF:Hp},aI B1 zF->zF pa=some (.tup [.int y.1,.int y.2]):=λs'=>s' _ _ g2;refine⟨_,rfl,iA i,_,_,_,rfl,rfl,Mo je.sb,Gd _ _,rfl,_,rfl,eJ rfl ?_⟩;have hnx:yl A (E.take (i+1))=⟨some y,Ai.k,λP=>P=y\/Ai.u P⟩:=by rw[tk,kO,hAi];unfold gM;simp only;exact if_pos trivial
    have hyp:y∉v3.ps:=λz=>hu0 ((mx.pu y).mp z);have YH:y∉v3.qs:=λz=>hu0 ((mx.qu y).mp z);have aDP:Ws y=[]:=hws y λz=>hu0 (by rw[<-hAi];exact Pq _ _ z);refine⟨_,rfl,iA i,_,_,_,rfl,rfl,Mo je.sb,PR _ _ _,_,rfl,a.sd,_,rfl,mI (je.at_ mx.sd) (zY _ _ _ _ _ _ _ _ _ _ _) (Pt _),?_⟩;obtain⟨ρ4,vk⟩:=je.put (2+s) (a:=a.sd) (o:=.dK (ue kk (x s) a { v3 with pv:=.ref pa })) (aT mx.sd) (fc _);obtain⟨YI,KS⟩:=rg wg (2+s) a.sd (.dK (ue kk (x s) a { v3 with pv:=.ref pa }));refine⟨_,rfl,_,rfl,a.sd,_,rfl,mI (vk.at_ YI) (zY _ _ _ _ _ _ _ _ _ _ _) (TK _),?_⟩;obtain⟨ρ5,xD⟩:=vk.put (2+s) (a:=a.sd) (o:=.dK (ue kk (x s) a { v3 with pv:=.ref pa,bg:=(m:Int) })) (aT YI) (fc _);obtain⟨YJ,LW⟩:=rg (ii wg (2+s) (dl (wg (2+s)) a.sd (.dK (ue kk (x s) a { v3 with pv:=.ref pa })))) (2+s) a.sd (.dK (ue kk (x s) a { v3 with pv:=.ref pa,bg:=(m:Int) }));replace LW:∀j,j≠2+s->_=wg j:=λj hj=>(LW j hj).trans (KS j hj)
    clear KS YI vk;generalize ii (ii wg (2+s) (dl (wg (2+s)) a.sd (.dK (ue kk (x s) a { v3 with pv:=.ref pa })))) (2+s) _=JM at xD YJ LW;have VF:=mx.tk;rw[<-LW (6+s) (by lia)]at VF;have TN:=mx.pd;rw[<-LW (8+s) (by lia)]at TN;have cm5:=mx.cm;rw[<-LW (4+s) (by lia)]at cm5;refine⟨zz0,λe0 S5=>?_⟩
    have n0:=xD.free (i:=6+s) S5;obtain⟨ρ6,Mp⟩:=xD.new (6+s) (o:=.lst []) S5 (cX _);have dn:=VF.new hyp n0;obtain⟨_,fr6⟩:=rg JM (6+s) e0 (.lst []);have sd6:=YJ;rw[<-fr6 (2+s) (by lia)]at sd6;have tk6:ii JM (6+s) (dl (JM (6+s)) e0 (.lst [])) (6+s) a.tk=some (.dT (kR v3.ps v3.lt)):=by rw[aJ,aE (λz=>by rw[<-z,VF.at_]at n0;cases n0)];exact VF.at_
    refine⟨_,rfl,a.sd,_,rfl,bU (Mp.at_ sd6) rfl,_,rfl,iA i,_,_,_,rfl,rfl,Mo Mp.sb,PR _ _ _,a.tk,_,rfl,XM (Mp.at_ tk6) (g2H Mp.sb) hyp (by lia),?_⟩;obtain⟨ρ7,Qh⟩:=Mp.put (6+s) (a:=a.tk) (o:=.dT (kR (v3.ps++[y]) (qd v3.lt y e0))) (aT tk6) (tS _);have e76:ii (ii JM (6+s) (dl (JM (6+s)) e0 (.lst []))) (6+s) (dl (ii JM (6+s) (dl (JM (6+s)) e0 (.lst [])) (6+s)) a.tk (.dT (kR (v3.ps++[y]) (qd v3.lt y e0)))) (6+s)=dl (dl (JM (6+s)) e0 (.lst [])) a.tk (.dT (kR (v3.ps++[y]) (qd v3.lt y e0))):=(by rw[aJ,aJ]);rw[<-e76]at dn;have Qi:∀j,j≠6+s->ii (ii JM (6+s) (dl (JM (6+s)) e0 (.lst []))) (6+s) (dl (ii JM (6+s) (dl (JM (6+s)) e0 (.lst [])) (6+s)) a.tk (.dT (kR (v3.ps++[y]) (qd v3.lt y e0)))) j=JM j:=λj hj=>(by rw[aN hj,aN hj]);clear e76 fr6 sd6 Mp tk6;generalize ii (ii JM (6+s) (dl (JM (6+s)) e0 (.lst []))) (6+s) _=LK at Qh dn Qi;rw[<-Qi (8+s) (by lia)]at TN;rw[<-Qi (4+s) (by lia)]at cm5;rw[<-Qi (2+s) (by lia)]at YJ;refine⟨_,rfl,a.sd,_,rfl,bU (Qh.at_ YJ) rfl,a.pd,rfl,.inr ⟨_,.inl (Qh.at_ TN.at_)⟩,_,rfl,iA i,_,_,_,rfl,rfl,Mo Qh.sb,PR _ _ _,zz0,λe1 he1=>?_⟩;have n1:=Qh.free (i:=8+s) he1;obtain⟨ρ8,st8⟩:=Qh.new (8+s) (o:=.lst []) he1 (cX _);have dm:=TN.new YH n1;have pd8:ii LK (8+s) (dl (LK (8+s)) e1 (.lst [])) (8+s) a.pd=some (.dT (kR v3.qs v3.lu)):=by rw[aJ,aE (λz=>by rw[<-z,TN.at_]at n1;cases n1)];exact TN.at_
    refine⟨kR v3.qs v3.lu,kP y,pa,st8.at_ pd8,rfl,g2H st8.sb,by rw[G7];lia,JK YH,?_⟩;rw[LJ YH];obtain⟨ρ9,st9⟩:=st8.put (8+s) (a:=a.pd) (o:=.dT (kR (v3.qs++[y]) (qd v3.lu y e1))) (aT pd8) (tS _);have e98:ii (ii LK (8+s) (dl (LK (8+s)) e1 (.lst []))) (8+s) (dl (ii LK (8+s) (dl (LK (8+s)) e1 (.lst [])) (8+s)) a.pd (.dT (kR (v3.qs++[y]) (qd v3.lu y e1)))) (8+s)=dl (dl (LK (8+s)) e1 (.lst [])) a.pd (.dT (kR (v3.qs++[y]) (qd v3.lu y e1))):=(by rw[aJ,aJ]);rw[<-e98]at dm;have fr9:∀j,j≠8+s->ii (ii LK (8+s) (dl (LK (8+s)) e1 (.lst []))) (8+s) (dl (ii LK (8+s) (dl (LK (8+s)) e1 (.lst [])) (8+s)) a.pd (.dT (kR (v3.qs++[y]) (qd v3.lu y e1)))) j=LK j:=λj hj=>(by rw[aN hj,aN hj]);clear e98 st8 pd8;generalize ii (ii LK (8+s) (dl (LK (8+s)) e1 (.lst []))) (8+s) _=Ep9 at st9 dm fr9;rw[<-fr9 (6+s) (by lia)]at dn;rw[<-fr9 (4+s) (by lia)]at cm5;rw[<-fr9 (2+s) (by lia)]at YJ;refine⟨told,_,_,Ep9,ρ9,{ v3 with pv:=.ref pa,bg:=(m:Int),ps:=v3.ps++[y],lt:=qd v3.lt y e0,qs:=v3.qs++[y],lu:=qd v3.lu y e1 },rfl,st9,?_,?_,hc3,YE,?_,?_,λj j1 j2 j3=>?_,?_⟩
    ·rw[hnx];refine⟨YJ,⟨pa,rfl,g2⟩,mx.fl,mx.hl,cm5,dn.re λP hP=>?_,dm.re λP hP=>?_,λP=>?_,λP=>?_⟩
     ·by_cases z:P=y
      ·rw[z,show qd (λP=>(W P).take (Ai.k P)) y [] y=_ from if_pos rfl];show(W y).take (Ai.k y)=_;rw[X7];rfl
      exact(show qd (λP=>(W P).take (Ai.k P)) y [] P=_ from if_neg z).symm
     ·by_cases z:P=y
      ·rw[z,show qd Ws y [] y=_ from if_pos rfl];exact aDP
      exact(show qd Ws y [] P=_ from if_neg z).symm
     ·rw[mem_append,mem_singleton,mx.pu P];exact Or.comm
     rw[mem_append,mem_singleton,mx.qu P];exact Or.comm
    ·rw[tk,Ek];show(m:Int)=if _ then _ else _;rw[if_pos rfl]
    ·show(v3.ps++[y]).length<=_;rw[length_append];show v3.ps.length+1<=_;lia
    ·show(v3.qs++[y]).length<=_;rw[length_append];show v3.qs.length+1<=_;lia
    ·rw[fr9 j j3,Qi j j2,LW j j1];exact NM j j1 j2 j3
    rw[hto,tk];exact⟨λ⟨x,ns,z⟩=>⟨x,ns,mem_append_left _ z⟩,λ⟨x,ms,z⟩=>(mem_append.mp z).elim (λz=>⟨x,ms,z⟩) λz=>by have:=mem_singleton.mp z;injection this with w;exact absurd w (by decide)⟩
   have Mo:∀{zF:Hp},aI B1 zF->cT K zF (iA i) (.str wd::.ref pa::ns.map V.int):=λs'=>cT.of (s' _ _ g1);refine⟨_,rfl,iA i,_,_,_,rfl,rfl,Mo je.sb,Gd _ _,rfl,_,rfl,eZ (JL hw1) ?_⟩;refine⟨_,rfl,iA i,_,_,_,rfl,rfl,Mo je.sb,Gd _ _,rfl,_,rfl,eZ (JL hw2) ?_⟩;have hnx:yl A (E.take (i+1))=⟨none,Ai.k,Ai.u⟩:=by rw[tk,kO,hAi];unfold gM;simp only;exact if_neg hw1
   refine⟨λσ H'=>∃td:Bool,σ=[some (.ref a.sd),some (.ref ao.sd),some (.int (m:Int)),some (.ref ma),some (.int (qq:Int)),some (.bl d),some (.bl td),some (.ref (iA i)),v8]/\H'=H3/\(td=true↔told=true\/wd=("silent":Str)),?_,?_⟩
   ·refine⟨_,rfl,told,rfl,?_⟩;cases told with
    |true=>exact iD ⟨true,rfl,rfl,⟨λ_=>.inl rfl,λ_=>rfl⟩⟩
    |false =>
     refine dX ⟨_,rfl,iA i,_,_,_,rfl,rfl,Mo je.sb,Gd _ _,rfl,_,rfl,rfl,?_⟩;rw[decide_eq_true_iff];exact⟨λz=>.inr (by injection z),λz=>(z.resolve_left (by decide))▸rfl⟩
   rintro σ H' ⟨td,rfl,rfl,htd⟩;have Py:=mx.pv;rw[YF]at Py;refine⟨_,rfl,iA i,_,_,_,rfl,rfl,Mo je.sb,PR _ _ _,_,rfl,a.sd,_,rfl,bU (je.at_ mx.sd) rfl,Ge (p:=some y) ⟨pa,rfl,je.sb _ _ g2⟩ (Py.mono je.sb) ⟨_,rfl,dX ?_⟩⟩;refine⟨_,rfl,_,rfl,_,rfl,_,rfl,B1,wg,x,_,pA,_,ρ3,s,m,n,qq,cr,db,kk,F',a,v3,y,_,Ws,Ai.u,wd,ns,iA i,ma,rfl,je,by rw[<-YF];exact mx,ise,LC.tup K5,hq,h1,hn9,hTn,hF,LF,λz=>TM.one y ns (by rw[<-z];exact mem_of_getElem? he),λj j1 j2=>by rw[YE];exact(hqt j j1 j2).mono LC,λH4 ρ4 vk=>⟨_,rfl,dX ?_⟩⟩;obtain⟨YI,KS⟩:=rg wg (2+s) a.sd (.dK (ue kk (x s) a { v3 with pv:=.bw }));generalize ii wg (2+s) _=YG at vk YI KS;refine⟨td,_,_,YG,ρ4,{ v3 with pv:=.bw },rfl,vk,?_,?_,hc3,YE,Nat.le_succ_of_le EL,Nat.le_succ_of_le hq3,λj j1 j2 j3=>?_,?_⟩
   ·rw[hnx];exact⟨YI,rfl,mx.fl,mx.hl,by rw[KS _ (by lia)];exact mx.cm,by rw[KS _ (by lia)];exact mx.tk,by rw[KS _ (by lia)];exact mx.pd,mx.pu,mx.qu⟩
   ·rw[tk,Ek];show v3.bg=if _ then _ else _;rw[if_neg hw1];exact X6
   ·rw[KS j j1];exact NM j j1 j2 j3
   rw[htd,hto,tk];constructor
   ·rintro(⟨x,ms,z⟩|z)
    ·exact⟨x,ms,mem_append_left _ z⟩
    exact⟨y,ns,mem_append_right _ (by rw[z];exact mem_singleton.mpr rfl)⟩
   rintro⟨x,ms,z⟩;rcases mem_append.mp z with z|z
   ·exact .inl ⟨x,ms,z⟩
   have:=mem_singleton.mp z;injection this with w;exact .inr w.symm
 rintro σ H3 ⟨told,v7,v8,wg,ρ3,v3,rfl,je,mx,X6,hc3,YE,EL,hq3,NM,hto⟩;rw[aL,take_length]at *;have etd:told=d:=aAC (hto.trans (TM.due.trans hd.symm));refine⟨_,rfl,_,rfl,rfl,_,rfl,eJ (by rw[etd]) ?_⟩;have lk3:=je.lk hs;obtain⟨O8,_,SY,_⟩:=lk3.at_;refine⟨_,rfl,a.sd,_,rfl,bU (je.at_ mx.sd) rfl,x s,O8,_,rfl,SY,rfl,B1,x s,_,_,_,rfl,lk3,λpv Qq=>?_⟩;refine⟨_,rfl,a.sd,_,rfl,bU (je.at_ mx.sd) rfl,?_⟩;rw[aJ]at Qq;have Qq:nT B1 pv (L s).p:=Qq;rw[<-hpE]at Qq;exact Px (Qq.mono je.sb) (mx.pv.mono je.sb) (q B1 H3 wg ρ3 tB v3 LC je mx X6 hc3 YE EL hq3 NM)
section
variable{x:Nat->Addr}{tB:Addr}{L':Lk}
theorem Tj.mvd(h:Tj C B H Ep x tA pA L ρ)(hs:s<2)(mv:jh B H B' H' (x s) (tA s) (pA s) tB pB)(hl:bh C B' H' (x s) tB pB L'):∃ρ',Tj C B' H' Ep x (ii tA s tB) (ii pA s pB) (ii L s L') ρ':=by obtain⟨ρ',t,_⟩:=h.tw.mvd hs mv hl;exact⟨ρ',t,h.dj⟩
end
theorem JN{α:Type}(f:Nat->α)(s:Nat):ii f s (f s)=f:=funext λi=>by
 by_cases z:i=s
 ·rw[z,aJ]
 rw[aN z]
inductive yp(K:W.Frag)(C:Addr)(vs:List V)(H:Hp)(Q:VK)(_:XK):Prop
 |mk (B:Hp) (Ep:Nat->Hp) (x tA pA:Nat->Addr) (L:Nat->Lk) (ρ:Addr->Nat) (s n m:Nat) (kk:Option Bool) (F:List Ft) (a:Ax) (v:Vx) (c cu:Pr->List (List Int)) (us:Pr->Prop) (_:vs=[.ref a.sd,.int (s:Int)]) (_:s<2) (_:Tj C B H Ep x tA pA L ρ) (_:qc K B Ep s n m kk (x s) F a v (L s).p c cu us) (_:(∀P,(L s).p=some P->us P)) (_:(∀P,(cu P).length<900000)) (_:(((L s).p=none\/(L s).cE≠[])->Q .bw H)) (_:∀P,(L s).p=some P->(L s).cE=[]->∀(B' H':Hp)(Ep':Nat->Hp)(ρ':Addr->Nat)(v':Vx)(xs:List Int),aI B B'->EV xs->Tj C B' H' Ep' x tA pA (putL L s xs) ρ'->qc K B' Ep' s n m kk (x s) F a v' (L s).p c (qd cu P (cu P++[xs])) us->v'.tl=v.tl->v'.bg=v.bg->v'.ps=v.ps->v'.qs=v.qs->(∀j,j≠2+s->j≠8+s->Ep' j=Ep j)->Q .bw H')
theorem yq:aS ["state","side","piece"] ["state","side"] (aG oO):=ac
set_option maxHeartbeats 1000000 in
theorem G8{fdp:FuncData}(F:aO K mg "_law_put" oO)(T:Txt K mg t)(Mm:b7 P w K mg base (iE P w) 1 t.MA fdu ["self"] (O4 t.LinkEnd))(Mn:Binds K fdu ["self"] [])(tV:b7 P w K mg base (iE P w) 1 t.tM fdw ["self"] (Al t.LinkEnd))(tW:Binds K fdw ["self"] [])(P0:b7 P w K mg base (iE P w) 3 t.Fz fdp ["self","piece"] (PK K t.LinkEnd t.NoLink t.BadPiece))(P1:Binds K fdp ["self","piece"] []):Def P w K mg base 4 "_law_put" ["state","side"] (yp K t.LinkEnd):=by
 refine F.def yq (λ_ _ _ _ _ _=>am λ_ _=>rfl) (λvs H Q E h=>?_) (λf cB A outer s H vs Q E hr h=>?_)
 ·obtain⟨B,Ep,x,tA,pA,L,ρ,s,n,m,kk,F',a,v,c,cu,us,rfl,_⟩:=h;rfl
 obtain⟨B,Ep,x,tA,pA,L,ρ,s,n,m,kk,F',a,v,c,cu,us,rfl,hs,st,ok,hus,Ql,q1,q2⟩:=h;refine⟨_,aF (bO (PW.pt (nv (aZ su (dh (ay (bG hr) (pv 0) aU (λ_ _=>rfl)) T.aM T.Ur (Mm.mono (by decide)) hr Mn .nil av) eM (af _)) (lP (aZ jA (dh (ay (bG hr) (pv 0) aU (λ_ _=>rfl)) T.aM T.F8 (tV.mono (by decide)) hr tW .nil av) aH (af _)))))
   (aC (lV (bG hr) (pv 0) aU (aQ bK (ay (bG hr) (pv 0) aU (λ_ _=>rfl)) aH) (by rfl))
   (aC (aX (i:=2) yq.nd rfl (Or.inl rfl) (ba (aB (aQ cF (ay (bG hr) (pv 0) aU (λ_ _=>rfl)) aH) (aB (pv 1) aD))))
   (aC (ax (lR (ay (bG hr) (pv 0) aU (λ_ _=>rfl)) T.aM T.Wl (P0.mono (by decide)) hr P1 .nil av (aB (pv 2) aD)))
   (aF (ax (iH K PySem.F.plainAttrs_list PySem.F.slot_list_append PySem.F.type_list_append cG (ay (bG hr) (ay (bG hr) (pv 0) aU (λ_ _=>rfl)) (ay (bG hr) (pv 0) aU (λ_ _=>rfl)) (λ_ _=>rfl)) (aB (pv 2) aD)))))))
   (aj)),?_⟩
 have hsz:(1000001:Nat)<=sizeLine:=by decide
 have lk:=st.lk hs;obtain⟨dx,_,hx,_⟩:=lk.at_;refine⟨_,rfl,a.sd,_,rfl,bU (st.at_ ok.sd) rfl,x s,dx,_,rfl,hx,rfl,B,x s,tA s,pA s,L s,rfl,lk,λpv Qq=>?_⟩;cases ep:(L s).p with
 |none =>
  rw[ep]at Qq;exact⟨rfl,_,rfl,jg Qq (dX (q1 (.inl ep)))⟩
 |some Y =>
  have okp:=ok.pv;rw[ep]at Qq okp;obtain⟨pa,rfl,_⟩:=Qq;obtain⟨pb,hpb,gpb⟩:=okp;refine⟨rfl,_,rfl,wA (λz=>by cases z) ?_⟩;refine⟨_,rfl,a.sd,_,rfl,bU (st.at_ ok.sd) rfl,x s,dx,_,rfl,hx,rfl,B,x s,tA s,pA s,L s,rfl,lk,rfl,_,rfl,?_⟩;by_cases hp:(L s).cE=[]
  ·refine eJ (by rw[hp];rfl) ?_;have YH:Y∈v.qs:=(ok.qu Y).mpr (hus Y ep);refine⟨_,rfl,a.sd,_,rfl,bU (st.at_ ok.sd) rfl,_,_,rfl,rfl,_,rfl,a.sd,_,rfl,mI (st.at_ ok.sd) (zY _ _ _ _ _ _ _ _ _ _ _) (TL _),?_⟩;obtain⟨ρ1,w6⟩:=st.put (2+s) (a:=a.sd) (o:=.dK (ue kk (x s) a { v with ct:=v.ct+1 })) (aT ok.sd) (fc _);obtain⟨YK,HX⟩:=rg Ep (2+s) a.sd (.dK (ue kk (x s) a { v with ct:=v.ct+1 }));generalize ii Ep (2+s) _=HY at w6 YK HX;refine⟨_,rfl,a.sd,_,rfl,bU (w6.at_ YK) rfl,_,_,rfl,rfl,(by show(0:Int)<97;decide),_,rfl,zz2,λD hD=>?_⟩
   have hms:EV [(v.ct+1)%97,(s:Int)]:=by
    refine⟨⟨by show 1<=2;decide,by show 2<=10;decide⟩,λu hu=>?_⟩;rcases mem_cons.mp hu with rfl|hu
    ·exact ET _
    rw[mem_singleton.mp hu];exact⟨by lia,by lia⟩
   have s2:=(aI.refl (dl H a.sd (.dK (ue kk (x s) a { v with ct:=v.ct+1 })))).new (o:=.lst ([(v.ct+1)%97,(s:Int)].map V.int)) hD;obtain⟨vj,YB⟩:=w6.grow s2 hD aA;have e2:(dl B D (.lst ([(v.ct+1)%97,(s:Int)].map V.int))) D=some (.lst ([(v.ct+1)%97,(s:Int)].map V.int)):=aA;have XO:=vj.lk hs;obtain⟨dx2,_,WG,_⟩:=XO.at_;refine⟨_,rfl,a.sd,_,rfl,bU (vj.at_ YK) rfl,x s,dx2,_,rfl,WG,rfl,_,rfl,_,x s,tA s,pA s,D,L s,[(v.ct+1)%97,(s:Int)],rfl,XO,by rw[hp];decide,ae.of (vj.sb _ _ e2),λu hu=>?_,λz=>absurd (ep.symm.trans z) (λz=>by cases z),λ_ z=>absurd hms z,λ_ _ B5 H5 mv lk5=>?_⟩
   ·obtain⟨w1,w2⟩:=hms.2 u hu;exact lt_of_lt_of_le (show u.natAbs<97 by lia) (by decide)
   obtain⟨ρ5,xD⟩:=vj.mvd hs mv lk5;rw[JN,JN]at xD;have b5:=YB.trans mv.bb;have TN:FF B5 (HY (8+s)) a.pd v.qs v.lu cu:=(by rw[HX _ (by lia)];exact ok.pd.mono b5);obtain⟨fJ,g3,D6⟩:=TN.push YH (mv.bb _ _ e2);obtain⟨ρ6,Mp⟩:=xD.put (8+s) (a:=v.lu Y) (o:=.lst (bB (cu Y).length fJ++[.ref D])) (aT g3) (cX _);refine⟨_,rfl,a.sd,_,rfl,bU (xD.at_ YK) rfl,_,rfl,a.sd,_,rfl,bU (xD.at_ YK) rfl,a.pd,.ref (v.lu Y),rfl,?_,.inl ⟨rfl,_,ae.of (xD.at_ g3)⟩,_,rfl,v.lu Y,_,_,rfl,rfl,xD.at_ g3,?_,?_⟩
   ·show uQ H5 a.pd v.pv _;rw[hpb];exact Eo (xD.at_ TN.at_) (xD.sb _ _ (b5 _ _ gpb)) YH
   ·have:=Ql Y;rw[aL];lia
   refine q2 Y ep hp B5 _ _ ρ6 { v with ct:=v.ct+1 } _ b5 hms Mp ?_ rfl rfl rfl rfl λj j1 j2=>by rw[aN j2,HX j j1]
   refine⟨by rw[aN (by lia)];exact YK,ok.pv.mono b5,ok.fl.same b5,b5 _ _ ok.hl,?_,?_,by rw[aJ];exact D6,ok.pu,ok.qu⟩
   ·rw[aN (by lia),HX _ (by lia)];exact ok.cm
   rw[aN (by lia),HX _ (by lia)];exact ok.tk.mono b5
  refine eZ (λz=>hp ?_) (q1 (.inr hp));injection z with z;exact List.length_eq_zero_iff.mp (by lia)
theorem rj{b:Addr}(h:cT K H b ys)(s:∀a o,H a=some o->¬fq o->H' a=some o):cT K H' b ys:=by
 rcases h with(h|⟨u,h⟩)|h
 ·exact .inl (.inl (s _ _ h λn=>n.1 _ rfl))
 ·exact .inl (.inr ⟨u,s _ _ h λn=>n.2 _ _ rfl⟩)
 exact .inr h
theorem lN.keep{a:Addr}{fs:Ft}(h:lN K H a fs)(s:∀a o,H a=some o->¬fq o->H' a=some o):lN K H' a fs:=by obtain⟨nW,wz,h1,h2⟩:=h;refine⟨nW,wz,rj h1 s,λy d hd=>⟨rj (h2 y d hd).1 s,?_⟩⟩;obtain⟨us,g1,g2⟩:=(h2 y d hd).2;exact⟨us,rj g1 s,λz q hq=>rj (g2 z q hq) s⟩
theorem gN.keep{K:W.Frag}{H H':Hp}{l:Addr}{F:List Ft}(h:gN K H l F)(s:∀a o,H a=some o->¬fq o->H' a=some o)(e:H' l=H l):gN K H' l F:=by obtain⟨nW,h1,h2⟩:=h;exact⟨nW,e.trans h1,λk fs hk=>(h2 k fs hk).keep s⟩
theorem fV.keep{K:W.Frag}{H H':Hp}{vs:List V}{F:List Ft}(h:fV K H vs F)(s:∀a o,H a=some o->¬fq o->H' a=some o):fV K H' vs F:=⟨h.1,λk v fs hv hf=>by obtain⟨a,e,g⟩:=h.2 k v fs hv hf;exact⟨a,e,g.keep s⟩⟩
theorem fV.take{K:W.Frag}{H:Hp}{vs:List V}{F:List Ft}(h:fV K H vs F)(n:Nat):fV K H (vs.take n) (F.take n):=by
 refine⟨by rw[length_take,length_take,h.1],λk v fs hv hf=>?_⟩;rw[List.getElem?_take]at hv hf;split at hv
 ·rename_i z;rw[if_pos z]at hf;exact h.2 k v fs hv hf
 cases hv
theorem XR{xs:List V}{n:Nat}(h:n<=xs.length):cU xs none (some (n:Int))=xs.take n:=by unfold cU;rw[HT.ji,Nat.min_eq_left h];rfl
def NN(H:Hp)(l:List Addr):Prop:=∀a∈l,H a≠none
theorem NN.mono{l:List Addr}(h:NN H l)(s:aI H H'):NN H' l:=λa ha=>by obtain⟨o,e⟩:=wR (h a ha);exact aT (s _ _ e)
theorem NN.cons{l:List Addr}{a:Addr}(h:NN H l)(e:H a≠none):NN H (a::l):=λb hb=>by
 rcases mem_cons.mp hb with rfl|hb
 ·exact e
 exact h b hb
theorem NN.put{l:List Addr}{a:Addr}{o:HO}(h:NN H l):NN (dl H a o) l:=λb hb=>by
 by_cases z:b=a
 ·rw[z,aA];exact λz=>by cases z
 rw[aE z];exact h b hb
theorem NN.nd{H:Hp}{l:List Addr}{a:Addr}(h:NN H l)(e:H a=none)(nd:l.Nodup):(a::l).Nodup:=List.nodup_cons.mpr ⟨λz=>h a z e,nd⟩
def G9(H:Hp)(d:Addr):Hp:=λa=>if a=d then none else H a
theorem jy{d a:Addr}(h:a≠d):G9 H d a=H a:=if_neg h
theorem Mq{d:Addr}:aI (G9 H d) H:=λa o e=>by
 unfold G9 at e;split at e
 ·cases e
 exact e
structure Ds(G H:Hp)(sd:Addr)(io:List (Key×V)):Prop where
 sa:aI G H
 g0:G sd=none
 at_:H sd=some (.dK io)
theorem Ds.same{G:Hp}{sd:Addr}(h:Ds G H sd io)(s:aI H H'):Ds G H' sd io:=⟨h.sa.trans s,h.g0,s _ _ h.at_⟩
theorem Ds.put{G H:Hp}{sd:Addr}{io:List (Key×V)}(h:Ds G H sd io)(kvs':List (Key×V)):Ds G (dl H sd (.dK kvs')) sd kvs':=⟨h.sa.put h.g0,h.g0,aA⟩
theorem Ds.grow{G:Hp}{sd a:Addr}{o:HO}(h:Ds G H sd io)(s:aI H H')(na:H a=none)(ea:H' a=some o):Ds (dl G a o) H' sd io/\aI G (dl G a o)/\G a=none:=by
 have ga:=h.sa.free na;refine⟨⟨λb u e=>?_,?_,s _ _ h.at_⟩,(aI.refl _).new ga,ga⟩
 ·by_cases z:b=a
  ·rw[z,aA]at e;rw[z,ea];exact e
  rw[aE z]at e;exact s _ _ (h.sa _ _ e)
 rw[aE (λz=>by rw[<-z,h.at_]at na;cases na)];exact h.g0
theorem P2{B0 G:Hp}{x t p:Addr}{q s:Int}(h:bh C B0 H x t p (qa q s))(h0:∀a,B0 a=none)(ex:G x=H x)(et:G t=H t)(ep:G p=H p):bh C B0 G x t p (qa q s):=by obtain⟨dx,pv,g,gp⟩:=h.at_;obtain⟨iA,g2,_⟩:=h.told;obtain⟨fJ,g3,_⟩:=h.cE;exact⟨λa o e=>(by rw[h0 a]at e;cases e),h.bx,h.bt,h.bp,⟨dx,pv,ex.trans g,gp⟩,⟨iA,et.trans g2,λy e he=>by cases he⟩,⟨fJ,ep.trans g3,λy e he=>by cases he⟩,h.ne⟩
inductive uJ(K:W.Frag)(C CA:Addr)(vs:List V)(H:Hp)(Q:VK)(_:XK):Prop
 |mk (ks:List Addr) (ma fl:Addr) (cr db n:Nat) (side:Int) (F:List Ft) (_:vs=[.ref ma,.int side,.ref fl,.int (n:Int)]) (_:cT K H ma [.int (cr:Int),.int (db:Int)]) (_:Zw cr db) (_:gN K H fl F) (_:F.length<=100) (_:n<=900) (_:(∀fs∈F,KF (cr:Int) fs)) (_:ks.Nodup) (_:NN H ks) (_:∀(H':Hp)(x t p:Addr)(a:Ax),aI H H'->(a.pd::a.tk::a.cm::a.hl::a.fl::a.d::a.dy::a.y::p::t::x::a.sd::ks).Nodup->bh C (λ_=>none) H' x t p (qa ((cr:Int)+(db:Int)) side)->H' a.y=some (.ins CA a.dy [("late",.int (cr:Int)),("asked",.int 0),("coming",.ref a.d)])->H' a.dy=some (.own a.y)->H' a.d=some (.dK [])->H' a.sd=some (.dK (stK none x a.y .bw 0 0 a.fl a.hl a.cm a.tk a.pd))->gN K H' a.fl ((F++List.replicate n wZ).take n)->H' a.hl=some (.lst (bW n λj=>.bl (bF ((F++List.replicate n wZ).take n) j)))->H' a.cm=some (.lst [])->H' a.tk=some (.dT [])->H' a.pd=some (.dT [])->Q (.ref a.sd) H')
theorem mJ:aS ["measure","side","fates","ticks","state"] ["measure","side","fates","ticks"] (aG jw):=ac
set_option maxHeartbeats 2000000 in
theorem B8{fdi fda:FuncData}(F:aO K mg "_law_state" jw)(T:Txt K mg t)(o5:Def P w K mg base 1 "_law_heard" ["fates","ticks"] (uG K))(JO:b7 P w K mg base (iE P w) 4 t.init fdi ["self","measure","side"] (K4 K t.LinkEnd))(JP:Binds K fdi ["self","measure","side"] [])(ug:b7 P w K mg base (iE P w) 2 t.rA fda ["self","late"] (ym t.Air))(uh:Binds K fda ["self","late"] []):Def P w K mg base 6 "_law_state" ["measure","side","fates","ticks"] (uJ K t.LinkEnd t.Air):=by
 refine F.def mJ (λ_ _ _ _ _ _=>bd λ_ _ _ _=>rfl) (λvs H Q E h=>?_) (λf cB A outer s H vs Q E hr h=>?_)
 ·obtain⟨ks,ma,fl,cr,db,n,side,F',rfl,_⟩:=h;rfl
 obtain⟨ks,ma,fl,cr,db,n,side,F',rfl,K5,hm,hfl,hF,hn,LF,nk,nnk,q⟩:=h;refine⟨_,aC (aX (i:=2) mJ.nd rfl (Or.inl rfl) (aQ (fX K) (pv 2) (aQ qm (wC.out (JF (Ay (LG Gr)))) (pv 3))))
  (aC (aX (i:=4) mJ.nd rfl (Or.inl rfl) (OY aU (KJ T.Ov (JO.mono (by decide)) hr (by rfl) T.Ou JP .nil av (aB (pv 0) (aB (pv 1) aD))) aU (KJ T.aDe (ug.mono (by decide)) hr (by rfl) T.aDd uh .nil av (aB (ai (bR K) (pv 0) aH (λ_ _=>rfl)) aD)) aU eM aU aH aU aH))
  (aC (lV (bG hr) (pv 4) aU (cw (dN K) (pv 2) oF (cD (pv 3))) (by rfl))
  (aC (lV (bG hr) (pv 4) aU (aY (o5.mono (by decide)) hr av (aB (cw (dN K) (pv 2) oF (cD (pv 3))) (aB (pv 3) aD))) (by rfl))
  (aC (oB (gT (aB (ba aD) (aB Fn (aB Fn aD)))) (Nd rfl (eN (oA (pv 4) aU (set_dict (bG hr))) (eN (oA (pv 4) aU (set_dict (bG hr))) (eN (oA (pv 4) aU (set_dict (bG hr))) zM)))))
  (aF (ah (pv 4))))))),?_⟩
 have hsz:(5000:Nat)<=sizeLine:=by decide
 obtain⟨YL,aAK,ffv⟩:=hfl.v;have fl9:=ffv.1;refine⟨_,rfl,zz0,λc0 XF=>⟨zz2,λc1 Qk=>⟨zz1,λc2 Qj=>⟨zz1,λl1 U9=>?_⟩⟩⟩⟩;obtain⟨s2,f2⟩:=wa (K:=K) (d:=1) XF Qk Qj;generalize dl (dl (dl H c0 (.tup [])) c1 (.tup [.int 1,.ref c0])) c2 (.tup [.ref c1])=H2 at *;have s3:=(aI.refl H2).new (o:=.lst [.ref c2]) U9;have e3:(dl H2 l1 (.lst [.ref c2])) l1=some (.lst [.ref c2]):=aA;generalize dl H2 l1 (.lst [.ref c2])=H3 at *;refine⟨_,rfl,l1,_,_,rfl,rfl,e3,by lia,by lia,by show 1*_<=_;rw[Int.toNat_natCast];lia,λl2 NS=>?_⟩;rw[Int.toNat_natCast];have s4:=(aI.refl H3).new (o:=.lst (List.replicate n [V.ref c2]).flatten) NS;have e4:(dl H3 l2 (.lst (List.replicate n [V.ref c2]).flatten)) l2=some (.lst (List.replicate n [V.ref c2]).flatten):=aA;generalize dl H3 l2 (.lst (List.replicate n [V.ref c2]).flatten)=H4 at *;have v2:fV K H4 (List.replicate n [V.ref c2]).flatten (List.replicate n wZ):=fV.rep (f2.same (s3.trans s4)) n;have vl:=v2.1;rw[length_replicate]at vl;have VA:aI H H4:=s2.trans (s3.trans s4);refine⟨fl,l2,_,_,rfl,rfl,ae.of (VA _ _ aAK),ae.of e4,by rw[vl,fl9];lia,λl3 Wv=>?_⟩;have s5:=(aI.refl H4).new (o:=.lst (YL++(List.replicate n [V.ref c2]).flatten)) Wv;have e5:(dl H4 l3 (.lst (YL++(List.replicate n [V.ref c2]).flatten))) l3=some (.lst (YL++(List.replicate n [V.ref c2]).flatten)):=aA;generalize dl H4 l3 (.lst (YL++(List.replicate n [V.ref c2]).flatten))=H5 at *;have v5:=(((ffv.same VA).cat v2).same s5).take n;have kf5:∀fs∈(F'++List.replicate n wZ).take n,KF (cr:Int) fs:=λfs YD=>(mem_append.mp (List.mem_of_mem_take YD)).elim (LF fs) λz=>by rw[List.eq_of_mem_replicate z];exact .inr (.inr ⟨1,Int.le_refl _,hm.1.1,rfl⟩)
 have n5:((F'++List.replicate n wZ).take n).length=n:=by rw[length_take,length_append,length_replicate];lia
 generalize(F'++List.replicate n wZ).take n=F2 at *;have hxs:n<=(YL++(List.replicate n [V.ref c2]).flatten).length:=by rw[length_append,vl];lia
 have ect:=XR hxs;generalize YL++(List.replicate n [V.ref c2]).flatten=P4 at *;have XS:=VA.trans s5;clear s2 s3 s4 s5 f2 e3 e4 v2 vl aAK ffv fl9 VA;intro sd Dr;have s6:=(aI.refl H5).new (o:=.dK []) Dr;have e6:(dl H5 sd (.dK [])) sd=some (.dK []):=aA;have n6:=((nnk.mono XS).nd Dr nk);have nn6:=((nnk.mono XS).mono s6).cons (aT e6);generalize dl H5 sd (.dK [])=H6 at *;refine⟨_,rfl,_,rfl,λx dx hx hdx nx=>?_⟩;have sI:aI H6 (dl (dl H6 dx (.own x)) x (.ins t.LinkEnd dx [])):=((aI.refl _).new hdx).new (by rw[aE (Ne.symm nx)];exact hx);refine⟨λ_=>none,x,dx,ma,cr,db,side,rfl,aA,(XS.trans (s6.trans sI)).tup K5,hm,λa o e=>(by cases e),rfl,λtA pA H7 Qi g7 nt np lk=>⟨rfl,?_⟩⟩;have s7:aI H6 H7:=λy o e=>Qi y o (λz=>by rw[z,hx]at e;cases e) (sI _ _ e);have nx6:=nn6.nd hx n6;have nt6:=(nn6.mono sI).cons (a:=x) (aT aA);have n7:(pA::tA::x::sd::ks).Nodup:=List.nodup_cons.mpr ⟨λz=>by
  rcases mem_cons.mp z with y|y
  ·exact lk.ne y.symm
  exact nt6 _ y np,nt6.nd nt nx6⟩
 have nn7:NN H7 (pA::tA::x::sd::ks):=(((nn6.mono s7).cons lk.hx).cons lk.ht).cons lk.hp;clear nt6 nx6 g7 Qi sI;refine⟨_,rfl,ma,_,_,_,rfl,rfl,(XS.trans (s6.trans s7)).tup K5,rfl,λy dy hy hdy ny=>?_⟩;have sJ:aI H7 (dl (dl H7 dy (.own y)) y (.ins t.Air dy [])):=((aI.refl _).new hdy).new (by rw[aE (Ne.symm ny)];exact hy);refine⟨y,dy,cr,rfl,hm.1.1,hm.1.2,aA,by rw[aE ny];exact aA,Ne.symm ny,λd H8 hd ey ed fr8=>⟨rfl,?_⟩⟩;have s8:aI H7 H8:=λb o e=>fr8 b o (λz=>by rw[z,hy]at e;cases e) (sJ _ _ e);have YM:H8 dy=some (.own y):=fr8 dy _ ny (by rw[aE ny];exact aA);have n8:(d::dy::y::pA::tA::x::sd::ks).Nodup:=by
  have k1:=nn7.nd hy n7;have k2:(dy::y::pA::tA::x::sd::ks).Nodup:=List.nodup_cons.mpr ⟨λz=>by
   rcases mem_cons.mp z with w|w
   ·exact ny w
   exact nn7 _ w hdy,k1⟩
  have nnJ:=((nn7.mono sJ).cons (a:=y) (aT aA)).cons (a:=dy) (by rw[aE ny,aA];exact λz=>by cases z);exact nnJ.nd hd k2
 have nn8:NN H8 (d::dy::y::pA::tA::x::sd::ks):=(((nn7.mono s8).cons (aT ey)).cons (aT YM)).cons (aT ed);have s58:aI H5 H8:=s6.trans (s7.trans s8);have e8:H8 sd=some (.dK []):=s8 _ _ (s7 _ _ e6);refine⟨e8,[(.inr "end",.ref x),(.inr "air",.ref y),(.inr "pair",.bw),(.inr "begun",.int 0),(.inr "count",.int 0)],rfl,by show 5<=15;decide,?_⟩;have em:xJ [] [((.inr "end":Key),V.ref x),(.inr "air",.ref y),(.inr "pair",.bw),(.inr "begun",.int 0),(.inr "count",.int 0)]=[(.inr "end",.ref x),(.inr "air",.ref y),(.inr "pair",.bw),(.inr "begun",.int 0),(.inr "count",.int 0)]:=rfl;rw[em];have lk8:=lk.same s8;obtain⟨dx8,pv8,gx8,_⟩:=lk8.at_;obtain⟨_,gt8,_⟩:=lk8.told;obtain⟨_,gp8,_⟩:=lk8.cE;have kd:∀{b:Addr}{o:HO},H8 b=some o->o≠.dK []->b≠sd:=λ{b o} h1 h2 z=>by rw[z,e8]at h1;exact h2 (by cases h1;rfl)
 have gx:=jy (H:=H8) (kd gx8 (λz=>by cases z));have gt:=jy (H:=H8) (kd gt8 (λz=>by cases z));have gp:=jy (H:=H8) (kd gp8 (λz=>by cases z));have lkG:=P2 lk8 (λ_=>rfl) gx gt gp;have gy:=(jy (H:=H8) (kd ey (λz=>by cases z))).trans ey;have gdy:=(jy (H:=H8) (kd YM (λz=>by cases z))).trans YM;have gd:=(jy (H:=H8) (a:=d) (d:=sd) (λz=>by rw[z]at hd;rw[sJ _ _ (s7 _ _ e6)]at hd;cases hd)).trans ed;have gl3:=(jy (H:=H8) (a:=l3) (d:=sd) (λz=>by rw[z,Dr]at e5;cases e5)).trans (s58 _ _ e5);have v5:=(v5.same s58).keep (H':=G9 H8 sd) λb o e no=>(jy (λz=>by rw[z,e8]at e;cases e;exact no (fc _))).trans e;have s0G:aI H (G9 H8 sd):=λb o e=>(jy (λz=>by rw[z]at e;have:=XS _ _ e;rw[Dr]at this;cases this)).trans (s58 _ _ (XS _ _ e));have D9:Ds (G9 H8 sd) (dl H8 sd (.dK [(.inr "end",.ref x),(.inr "air",.ref y),(.inr "pair",.bw),(.inr "begun",.int 0),(.inr "count",.int 0)])) sd [(.inr "end",.ref x),(.inr "air",.ref y),(.inr "pair",.bw),(.inr "begun",.int 0),(.inr "count",.int 0)]:=(show Ds (G9 H8 sd) H8 sd []from⟨Mq,if_pos rfl,e8⟩).put _;have nn9:=nn8.put (a:=sd) (o:=.dK [(.inr "end",.ref x),(.inr "air",.ref y),(.inr "pair",.bw),(.inr "begun",.int 0),(.inr "count",.int 0)]);generalize G9 H8 sd=G at *;generalize dl H8 sd (.dK [(.inr "end",.ref x),(.inr "air",.ref y),(.inr "pair",.bw),(.inr "begun",.int 0),(.inr "count",.int 0)])=H9 at *;clear kd gx8 gt8 gp8 gx gt gp ey YM ed lk lk8 s58 sJ s8 s7 fr8 s6 e6 e8 nn6 nn7 nn8 n6 n7 hd e5 XS Dr hx hy hdx hdy nt np;refine⟨_,rfl,_,rfl,_,rfl,l3,_,rfl,ae.of (D9.sa _ _ gl3),λf2 hf2=>?_⟩;rw[ect];have sA:=(aI.refl H9).new (o:=.lst (P4.take n)) hf2;have eA:(dl H9 f2 (.lst (P4.take n))) f2=some (.lst (P4.take n)):=aA;have nA:=nn9.nd hf2 n8;have nnA:=(nn9.mono sA).cons (aT eA);generalize dl H9 f2 (.lst (P4.take n))=HA at *;obtain⟨DA,gA,_⟩:=D9.grow sA hf2 eA;have ef2:(dl G f2 (.lst (P4.take n))) f2=some (.lst (P4.take n)):=aA;generalize dl G f2 (.lst (P4.take n))=GA at *;refine⟨_,rfl,sd,_,rfl,mI (k:="fates") (v:=.ref f2) DA.at_ (by show 5<sizeLine;decide) rfl,?_⟩;have DB:=DA.put (im [(.inr "end",.ref x),(.inr "air",.ref y),(.inr "pair",.bw),(.inr "begun",.int 0),(.inr "count",.int 0)] (.inr "fates") (.ref f2));have nnB:=nnA.put (a:=sd) (o:=.dK (im [(.inr "end",.ref x),(.inr "air",.ref y),(.inr "pair",.bw),(.inr "begun",.int 0),(.inr "count",.int 0)] (.inr "fates") (.ref f2)));generalize dl HA sd (.dK (im [(.inr "end",.ref x),(.inr "air",.ref y),(.inr "pair",.bw),(.inr "begun",.int 0),(.inr "count",.int 0)] (.inr "fates") (.ref f2)))=HB at *;refine⟨_,rfl,_,rfl,_,rfl,l3,_,rfl,ae.of (DB.sa _ _ (gA _ _ gl3)),λf3 hf3=>?_⟩;rw[ect];have sC:=(aI.refl HB).new (o:=.lst (P4.take n)) hf3;have eC:(dl HB f3 (.lst (P4.take n))) f3=some (.lst (P4.take n)):=aA;generalize dl HB f3 (.lst (P4.take n))=HC at *;have DC:=DB.same sC;refine⟨_,rfl,f3,F2,by rw[n5];rfl,(v5.same (gA.trans DC.sa)).at_ eC,by rw[n5];lia,λfs YD d' Qz=>((((kf5 fs YD).good hm.1.1).g.at_ d' Qz).1),λhl HD sD nhl ehl=>?_⟩;rw[n5]at ehl;obtain⟨DD,gD,_⟩:=DC.grow sD nhl ehl;have nD:=(nnB.mono sC).nd nhl nA;have nnD:=((nnB.mono sC).mono sD).cons (aT ehl);have ghl:(dl GA hl (.lst (bW n λj=>.bl (bF F2 j)))) hl=some (.lst (bW n λj=>.bl (bF F2 j))):=aA;generalize dl GA hl (.lst (bW n λj=>.bl (bF F2 j)))=GD at *;refine⟨_,rfl,sd,_,rfl,mI (k:="heard") (v:=.ref hl) DD.at_ (by show 6<sizeLine;decide) rfl,?_⟩;have DE:=DD.put (im (im [(.inr "end",.ref x),(.inr "air",.ref y),(.inr "pair",.bw),(.inr "begun",.int 0),(.inr "count",.int 0)] (.inr "fates") (.ref f2)) (.inr "heard") (.ref hl));have nnE:=nnD.put (a:=sd) (o:=.dK (im (im [(.inr "end",.ref x),(.inr "air",.ref y),(.inr "pair",.bw),(.inr "begun",.int 0),(.inr "count",.int 0)] (.inr "fates") (.ref f2)) (.inr "heard") (.ref hl)));generalize dl HD sd (.dK (im (im [(.inr "end",.ref x),(.inr "air",.ref y),(.inr "pair",.bw),(.inr "begun",.int 0),(.inr "count",.int 0)] (.inr "fates") (.ref f2)) (.inr "heard") (.ref hl)))=HE at *;refine⟨zz0,λcm MF tk htk pd hpd=>?_⟩;have s1:=(aI.refl HE).new (o:=.lst []) MF;have s2:=(aI.refl _).new (o:=.dT []) htk;have s3:=(aI.refl _).new (o:=.dT []) hpd;obtain⟨D1,g1,_⟩:=DE.grow s1 MF aA;obtain⟨D2,g2,_⟩:=D1.grow s2 htk aA;obtain⟨D3,g3,_⟩:=D2.grow s3 hpd aA;have n1:=nnE.nd MF nD;have nn1:=(nnE.mono s1).cons (aT aA);have n2:=nn1.nd htk n1;have nn2:=(nn1.mono s2).cons (aT aA);have n3:=nn2.nd hpd n2;have gcm:=g3 _ _ (g2 _ _ (aA (H:=GD) (a:=cm) (o:=.lst [])));have gtk:=g3 _ _ (aA (H:=dl GD cm (.lst [])) (a:=tk) (o:=.dT []));have gpd:=aA (H:=dl (dl GD cm (.lst [])) tk (.dT [])) (a:=pd) (o:=.dT []);have gG:aI G _:=gA.trans (gD.trans (g1.trans (g2.trans g3)));have gAG:aI GA _:=gD.trans (g1.trans (g2.trans g3));have gDG:aI GD _:=g1.trans (g2.trans g3);generalize dl (dl (dl HE cm (.lst [])) tk (.dT [])) pd (.dT [])=HF at *;generalize dl (dl (dl GD cm (.lst [])) tk (.dT [])) pd (.dT [])=GF at *;clear s1 s2 s3 D1 D2 g1 g2 g3 n1 nn1 n2 nn2;refine⟨zz3,λtu htu=>?_⟩;have D4:=D3.same ((aI.refl HF).new (o:=.tup [.ref cm,.ref tk,.ref pd]) htu);refine⟨tu,_,rfl,cT.of aA,rfl,?_⟩;refine⟨_,_,rfl,_,rfl,sd,_,rfl,mI (k:="came") (v:=.ref cm) D4.at_ (by show 7<sizeLine;decide) rfl,?_⟩;have D5:=D4.put (im (im (im [(.inr "end",.ref x),(.inr "air",.ref y),(.inr "pair",.bw),(.inr "begun",.int 0),(.inr "count",.int 0)] (.inr "fates") (.ref f2)) (.inr "heard") (.ref hl)) (.inr "came") (.ref cm));refine⟨_,_,rfl,_,rfl,sd,_,rfl,mI (k:="took") (v:=.ref tk) D5.at_ (by show 8<sizeLine;decide) rfl,?_⟩;have D6:=D5.put (im (im (im (im [(.inr "end",.ref x),(.inr "air",.ref y),(.inr "pair",.bw),(.inr "begun",.int 0),(.inr "count",.int 0)] (.inr "fates") (.ref f2)) (.inr "heard") (.ref hl)) (.inr "came") (.ref cm)) (.inr "took") (.ref tk));refine⟨_,_,rfl,_,rfl,sd,_,rfl,mI (k:="put") (v:=.ref pd) D6.at_ (by show 9<sizeLine;decide) rfl,?_⟩;have D7:=D6.put (im (im (im (im (im [(.inr "end",.ref x),(.inr "air",.ref y),(.inr "pair",.bw),(.inr "begun",.int 0),(.inr "count",.int 0)] (.inr "fates") (.ref f2)) (.inr "heard") (.ref hl)) (.inr "came") (.ref cm)) (.inr "took") (.ref tk)) (.inr "put") (.ref pd));refine⟨rfl,_,rfl,?_⟩;refine q _ x tA pA ⟨sd,f2,hl,cm,tk,pd,y,dy,d⟩ (s0G.trans (gG.trans D7.sa)) n3 ?_ (D7.sa _ _ (gG _ _ gy)) (D7.sa _ _ (gG _ _ gdy)) (D7.sa _ _ (gG _ _ gd)) D7.at_ (((v5.same (gG.trans D7.sa))).at_ (D7.sa _ _ (gAG _ _ ef2))) (D7.sa _ _ (gDG _ _ ghl)) (D7.sa _ _ gcm) (D7.sa _ _ gtk) (D7.sa _ _ gpd);exact lkG.same (gG.trans D7.sa)
section
variable{x:Nat->Addr}{T T':Nat}{y dy d:Addr}{ks w8:List Int}{qQ:Int->Addr}{ci fK:Nat->List Rw}
theorem Tj.air(h:Tj CL B H Ep x tA pA L ρ)(w:dP C B (Ep i) T y dy d cr ks la ci)(tw:Tw CL B' H' E' x Sx Sy L' ρ')(w':dP C B' E' T' y dy d cr w8 qQ fK)(k1:∀a o,¬iR y dy d ks la a->jn Ep a=some o->E' a=some o)(k2:∀a,iR y dy d w8 qQ a->iR y dy d ks la a\/jn Ep a=none):∃Ei,Tj CL B' H' (ii Ep i Ei) x Sx Sy L' ρ'/\dP C B' Ei T' y dy d cr w8 qQ fK:=by
 classical
 have ie:∀a,iR y dy d w8 qQ a->(if iR y dy d w8 qQ a then E' a else none)=E' a:=λa h=>if_pos h;refine⟨λa=>if iR y dy d w8 qQ a then E' a else none,h.chg tw (λa o e=>?_) (λa ha=>?_) (λa o e1 e2=>?_),w'.mv (aI.refl _) λa o ha e=>(ie a ha).trans e⟩
 ·by_cases z:iR y dy d w8 qQ a
  ·rw[if_pos z]at e;exact e
  rw[if_neg z]at e;cases e
 ·by_cases z:iR y dy d w8 qQ a
  ·exact(k2 a z).imp (λu=>w.has u) id
  exact absurd (if_neg z) ha
 exact k1 a o (λu=>w.has u e1) e2
theorem dP.jn(w:dP C B (Ep i) T y dy d cr ks la ci)(dj:Dj Ep):dP C B (jn Ep) T y dy d cr ks la ci:=w.mv (aI.refl _) λ_ _ _ e=>DR dj e
theorem Tj.K7{p:Addr}{o:HO}(h:Tj CL B H Ep x tA pA L ρ)(hp:H p=some o)(hb:B p=none)(n1:∀s,s<2->p≠x s/\p≠tA s/\p≠pA s)(n3:jn Ep p=none):Tj CL (dl B p o) H Ep x tA pA L ρ/\aI B (dl B p o):=by obtain⟨t,s⟩:=h.tw.K7 hp hb n1 n3;exact⟨⟨t,h.dj⟩,s⟩
end
theorem JQ{F:List Ft}{T:Nat}{ci:Nat->List Rw}(c:fe B B r (ci T))(h:Qp F T ci)(kf:∀fs∈F,KF cr fs)(h1:1<=cr)(hT:T<=1000)(hq:bF F T=false):ff B r:=by
 have e:=(h.reads kf h1).mpr hq;refine⟨ci T,c,by have:=h.l T;lia,λrow hr=>?_⟩;obtain⟨g,_⟩:=h.g T row hr;have rd:row.rd=false:=by
  cases z:row.rd with
  |false=>rfl
  |true=>have:=xh hr z;rw[e]at this;cases this
 have m:=g.m;rw[rd]at m;exact⟨g.c,m⟩
theorem P6{rs:List Rw}(c:fe B B r rs)(s:aI B H)(h:∀row∈rs,JA row):∃MR,InC H r MR (rs.map W7):=by
 obtain⟨cs,g1,g2⟩:=c;refine⟨cs,by rw[length_map];exact s _ _ g1,λj c hc=>?_⟩;rw[getElem?_map]at hc;cases e:rs[j]? with
 |none=>rw[e]at hc;cases hc
 |some row =>
  rw[e]at hc;cases hc;have g:=h row (mem_of_getElem? e);exact⟨s _ _ (g2 j row e),g.c,g.m⟩
def TQ(kp:Bool)(s:Nat):Option Bool:=if s=0 then some kp else none
def XT(f:Nat->Addr)(m:Nat)(r:Addr):Nat->Addr:=λi=>if i=m then r else f i
theorem HG(f:Nat->Addr)(m:Nat)(r:Addr):bB m f++[.ref r]=bB (m+1) (XT f m r):=dM ..
theorem qc.came{n m:Nat}{x:Addr}{F:List Ft}{a:Ax}{v:Vx}{p:Option Pr}{c cu:Pr->List (List Int)}{us:Pr->Prop}(h:qc K B Ep s n m kk x F a v p c cu us)(r:Addr):qc K B (ii Ep (4+s) (dl (Ep (4+s)) a.cm (.lst (bB m v.tl++[.ref r])))) s n (m+1) kk x F a { v with tl:=XT v.tl m r } p c cu us :=
 ⟨by rw[aN (by lia)];exact h.sd,h.pv,h.fl,h.hl,by rw[aJ,aA,HG],by rw[aN (by lia)];exact h.tk,by rw[aN (by lia)];exact h.pd,h.pu,h.qu⟩
structure Rn(K:W.Frag)(C CA:Addr)(q cr db n M:Nat)(kp:Bool)(F:Nat->List Ft)(x:Nat->Addr)(a:Nat->Ax)(ma sl:Addr)(T:Nat)(B H:Hp)(Ep:Nat->Hp)(tA pA:Nat->Addr)(L:Nat->Lk)(ρ:Addr->Nat)(v:Nat->Vx)(ks:Nat->List Int)(kl:Nat->Int->Addr)(ci:Nat->Nat->List Rw)(G:Gh)(la bg:Nat->Int):Prop where
 tj:Tj C B H Ep x tA pA L ρ
 a9:zX q cr db M kp F T L ci G la bg
 ok:∀s,s<2->qc K B Ep s n T (TQ kp s) (x s) (F s) (a s) (v s) (L s).p (λP=>(G.W (1-s) P).take (G.K s P)) (G.W s) (G.U s)
 bg:∀s,s<2->(v s).bg=bg s
 air:∀s,s<2->dP CA B (Ep s) T (a s).y (a s).dy (a s).d (cr:Int) (ks s) (kl s) (ci s)
 kl:∀s,s<2->(ks s).length<=T
 pl:∀s,s<2->(v s).ps.length<=4000*T
 ql:∀s,s<2->(v s).qs.length<=4000*T
 qt:∀s,s<2->∀j,j<T->bF (F s) j=false->ff B ((v s).tl j)
 ma:cT K B ma [.int (cr:Int),.int (db:Int)]
 sl:B sl=some (.lst [.ref (a 0).sd,.ref (a 1).sd])
structure Ra(K:W.Frag)(C CA:Addr)(cr db n:Nat)(kp:Bool)(F:Nat->List Ft)(x:Nat->Addr)(a:Nat->Ax)(ma sl gl:Addr)(T i j:Nat)(L:Nat->Lk)(ci:Nat->Nat->List Rw)(G:Gh)(bg:Nat->Int)(B H:Hp)(Ep:Nat->Hp)(tA pA:Nat->Addr)(L':Nat->Lk)(ρ:Addr->Nat)(v:Nat->Vx)(ks:Nat->List Int)(kl:Nat->Int->Addr)(gs:Nat->Addr):Prop where
 tj:Tj C B H Ep x tA pA L' ρ
 l:∀s,s<2->L' s=if s<i then bN (L s) (aK (ci s T))else L s
 ok:∀s,s<2->qc K B Ep s n (if s<j then T+1 else T) (TQ kp s) (x s) (F s) (a s) (v s) (L s).p (λP=>(G.W (1-s) P).take (G.K s P)) (G.W s) (G.U s)
 bg:∀s,s<2->(v s).bg=bg s
 air:∀s,s<2->dP CA B (Ep s) T (a s).y (a s).dy (a s).d (cr:Int) (ks s) (kl s) (ci s)
 kl:∀s,s<2->(ks s).length<=T
 pl:∀s,s<2->(v s).ps.length<=4000*T
 ql:∀s,s<2->(v s).qs.length<=4000*T
 qt:∀s,s<2->∀k,(k<if s<j then T+1 else T)->bF (F s) k=false->ff B ((v s).tl k)
 ma:cT K B ma [.int (cr:Int),.int (db:Int)]
 sl:B sl=some (.lst [.ref (a 0).sd,.ref (a 1).sd])
 gl:Ep 10 gl=some (.lst (bB i gs))
 gs:∀s,s<i->B (gs s)=some (.lst (dL 24 (bE (b6 (aa (L s) (aK (ci s T)))))))
section
variable{q cr n M:Nat}{kp:Bool}{F:Nat->List Ft}{x:Nat->Addr}{a:Nat->Ax}{ma sl gl:Addr}{T:Nat}{ci:Nat->Nat->List Rw}{G:Gh}{la bg:Nat->Int}{v:Nat->Vx}{kl:Nat->Int->Addr}{gs:Nat->Addr}
theorem Ra.start(h:Rn K C CA q cr db n M kp F x a ma sl T B H Ep tA pA L ρ v ks kl ci G la bg)(hg:H gl=none):∃ρ' Ep',Ra K C CA cr db n kp F x a ma sl gl T 0 0 L ci G bg B (dl H gl (.lst [])) Ep' tA pA L ρ' v ks kl (λ_=>0):=by obtain⟨ρ',t⟩:=h.tj.new 10 (o:=.lst []) hg (cX _);have o:∀k,k≠10->ii Ep 10 (dl (Ep 10) gl (.lst [])) k=Ep k:=λk hk=>aN hk;refine⟨ρ',_,t,λs _=>rfl,λs hs=>(h.ok s hs).mv (aI.refl _) (o _ (by lia)) (o _ (by lia)) (o _ (by lia)) (o _ (by lia)),h.bg,λs hs=>by rw[o _ (by lia)];exact h.air s hs,h.kl,h.pl,h.ql,h.qt,h.ma,h.sl,by rw[aJ,aA];rfl,λs hs=>absurd hs (not_lt_zero _)⟩
theorem Ra.come(h:Ra K C CA cr db n kp F x a ma sl gl T i j L ci G bg B H Ep tA pA L' ρ v ks kl gs)(hs:s<2)(sB:aI B B1)(t:Tj C B1 H1 (ii Ep s Ei) x tA pA L' ρ1)(w:dP CA B1 Ei T (a s).y (a s).dy (a s).d (cr:Int) FE (kl s) (ci s))(hk:FE.length<=(ks s).length):Ra K C CA cr db n kp F x a ma sl gl T i j L ci G bg B1 H1 (ii Ep s Ei) tA pA L' ρ1 v (ii ks s FE) kl gs:=by
 have o:∀k,2<=k->ii Ep s Ei k=Ep k:=λk hk=>aN (by lia);refine⟨t,h.l,λu hu=>(h.ok u hu).mv sB (o _ (by lia)) (o _ (by lia)) (o _ (by lia)) (o _ (by lia)),h.bg,λu hu=>?_,λu hu=>?_,h.pl,h.ql,λu hu k h1 h2=>(h.qt u hu k h1 h2).mono sB,sB.tup h.ma,sB _ _ h.sl,by rw[o _ (by lia)];exact h.gl,λu hu=>sB _ _ (h.gs u hu)⟩
 ·by_cases z:u=s
  ·rw[z,aJ,aJ];exact w
  rw[aN z,aN z];exact(h.air u hu).mv sB λ_ _ _ e=>e
 by_cases z:u=s
 ·rw[z,aJ];exact le_trans hk (h.kl s hs)
 rw[aN z];exact h.kl u hu
theorem Ra.app(h:Ra K C CA cr db n kp F x a ma sl gl T s s L ci G bg B H Ep tA pA L' ρ v ks kl gs)(hs:s<2)(hq:bF (F s) T=false->ff B r):∃ρ' Ep',Ra K C CA cr db n kp F x a ma sl gl T s (s+1) L ci G bg B (dl H (a s).cm (.lst (bB T (v s).tl++[.ref r]))) Ep' tA pA L' ρ' (ii v s { v s with tl:=XT (v s).tl T r }) ks kl gs:=by
 have yr:=h.ok s hs;rw[if_neg (lt_irrefl _)]at yr;obtain⟨ρ',t⟩:=h.tj.put (4+s) (a:=(a s).cm) (o:=.lst (bB T (v s).tl++[.ref r])) (aT yr.cm) (cX _);have o:∀k,k≠4+s->ii Ep (4+s) (dl (Ep (4+s)) (a s).cm (.lst (bB T (v s).tl++[.ref r]))) k=Ep k:=λk hk=>aN hk;have vs:∀u,u<2->u≠s->(u<s+1↔u<s):=λu _ hu=>by lia
 refine⟨ρ',_,t,h.l,λu hu=>?_,λu hu=>?_,λu hu=>by rw[o _ (by lia)];exact h.air u hu,h.kl,λu hu=>?_,λu hu=>?_,λu hu k h1 h2=>?_,h.ma,h.sl,by rw[o _ (by lia)];exact h.gl,h.gs⟩
 ·by_cases z:u=s
  ·rw[z,if_pos (lt_succ_self _),aJ];exact yr.came r
  rw[aN z];have:=(h.ok u hu).mv (aI.refl _) (o _ (by lia)) (o _ (by lia)) (o _ (by lia)) (o _ (by lia));simp only[vs u hu z];exact this
 ·by_cases z:u=s
  ·rw[z,aJ];exact h.bg s hs
  rw[aN z];exact h.bg u hu
 ·by_cases z:u=s
  ·rw[z,aJ];exact h.pl s hs
  rw[aN z];exact h.pl u hu
 ·by_cases z:u=s
  ·rw[z,aJ];exact h.ql s hs
  rw[aN z];exact h.ql u hu
 by_cases z:u=s
 ·rw[z]at h1 h2 ⊢;rw[if_pos (lt_succ_self _)]at h1;rw[aJ];show ff B (if k=T then r else(v s).tl k);by_cases y:k=T
  ·rw[if_pos y];rw[y]at h2;exact hq h2
  rw[if_neg y];exact h.qt s hs k (by rw[if_neg (lt_irrefl _)];lia) h2
 rw[aN z];simp only[vs u hu z]at h1;exact h.qt u hu k h1 h2
end
section
variable{cr n:Nat}{kp:Bool}{F:Nat->List Ft}{x:Nat->Addr}{a:Nat->Ax}{ma sl gl:Addr}{T:Nat}{ci:Nat->Nat->List Rw}{G:Gh}{bg:Nat->Int}{v:Nat->Vx}{kl:Nat->Int->Addr}{gs:Nat->Addr}{p:Addr}
theorem Ra.tick(h:Ra K C CA cr db n kp F x a ma sl gl T s (s+1) L ci G bg B H Ep tA pA L' ρ v ks kl gs)(hs:s<2)(mv:jh B H B1 H1 (x s) (tA s) (pA s) (tA s) pB)(lk:bh C B1 H1 (x s) (tA s) pB (bN (L' s) (aK (ci s T))))(np:H p=none)(bp:B1 p=none)(npB:p≠pB)(ep:H1 p=some (.lst (dL 24 (bE (b6 (bN (L' s) (aK (ci s T)))))))):
  H1 gl=some (.lst (bB s gs))/\∃B2 ρ' Ep',Ra K C CA cr db n kp F x a ma sl gl T (s+1) (s+1) L ci G bg B2 (dl H1 gl (.lst (bB s gs++[.ref p]))) Ep' tA (ii pA s pB) (ii L' s (bN (L' s) (aK (ci s T)))) ρ' v ks kl (XT gs s p):=by
 obtain⟨ρ1,t1⟩:=h.tj.mvd hs mv lk;rw[JN]at t1;have eL:=h.l s hs;rw[if_neg (lt_irrefl _)]at eL;obtain⟨t2,YB⟩:=t1.K7 ep bp (λu hu=>⟨λz=>(h.tj.lk hu).hx (by rw[<-z];exact np),λz=>(h.tj.lk hu).ht (by rw[<-z];exact np),λz=>by
  by_cases y:u=s
  ·rw[y,aJ]at z;exact npB z
  rw[aN y]at z;exact(h.tj.lk hu).hp (by rw[<-z];exact np)⟩) (h.tj.tw.ee.free np)
 have e2:(dl B1 p (.lst (dL 24 (bE (b6 (bN (L' s) (aK (ci s T)))))))) p=some (.lst (dL 24 (bE (b6 (bN (L' s) (aK (ci s T))))))):=aA;generalize dl B1 p (.lst (dL 24 (bE (b6 (bN (L' s) (aK (ci s T)))))))=B2 at *;have bb:aI B B2:=mv.bb.trans YB;obtain⟨ρ3,t3⟩:=t2.put 10 (a:=gl) (o:=.lst (bB s gs++[.ref p])) (aT h.gl) (cX _);have o:∀k,k≠10->ii Ep 10 (dl (Ep 10) gl (.lst (bB s gs++[.ref p]))) k=Ep k:=λk hk=>aN hk;refine⟨t2.at_ h.gl,B2,ρ3,_,t3,λu hu=>?_,λu hu=>(h.ok u hu).mv bb (o _ (by lia)) (o _ (by lia)) (o _ (by lia)) (o _ (by lia)),h.bg,λu hu=>by rw[o _ (by lia)];exact(h.air u hu).mv bb λ_ _ _ e=>e,h.kl,h.pl,h.ql,λu hu k h1 h2=>(h.qt u hu k h1 h2).mono bb,bb.tup h.ma,bb _ _ h.sl,by rw[aJ,aA,HG],λu hu=>?_⟩
 ·by_cases z:u=s
  ·rw[z,aJ,if_pos (lt_succ_self _),eL]
  rw[aN z,h.l u hu];by_cases y:u<s
  ·rw[if_pos y,if_pos (by lia)]
  rw[if_neg y,if_neg (by lia)]
 show B2 (if u=s then p else gs u)=_;by_cases z:u=s
 ·rw[if_pos z,e2,z,eL];rfl
 rw[if_neg z];exact bb _ _ (h.gs u (by lia))
end
structure Tk(q cr db n M:Nat)(kp:Bool)(F:Nat->List Ft)(T:Nat)(L:Nat->Lk)(ci:Nat->Nat->List Rw)(G G2:Gh)(bg:Nat->Int):Prop where
 wh:Wh q cr db n M kp F
 tn:T<n
 tr:∀s,s<2->Mc (G.W (1-s)) (wt G s (L s)) (bN (L s) (aK (ci s T))).ev/\yl (wt G s (L s)) (bN (L s) (aK (ci s T))).ev=wt G2 s (El L ci T s)
 si:∀s,s<2->XI q (F s) T (L s).p (bg s) (bN (L s) (aK (ci s T))).ev
 ku:∀s,s<2->KU (wt G s (L s))
 b0:∀s,s<2->0<=bg s
 wu:∀s,s<2->∀P,G.W s P≠[]->G.U s P
 wl:∀s,s<2->∀P,(G.W s P).length<=T
 el:∀s,s<2->(bN (L s) (aK (ci s T))).ev.length<=3*T+1
 kw:∀s,s<2->∀P,G2.K s P<=(G.W (1-s) P).length
 gc:∀s,s<2->fo (b6 (El L ci T s))
 rl:∀s,s<2->∀j,(ci s j).length<=T
structure Rb(K:W.Frag)(C CA:Addr)(q cr db n M:Nat)(kp:Bool)(F:Nat->List Ft)(x:Nat->Addr)(a:Nat->Ax)(ma sl gl:Addr)(T i g w:Nat)(L:Nat->Lk)(ci:Nat->Nat->List Rw)(G G2:Gh)(bg BY qQ:Nat->Int)(B H:Hp)(Ep:Nat->Hp)(tA pA:Nat->Addr)(L':Nat->Lk)(ρ:Addr->Nat)(v:Nat->Vx)(ks:Nat->List Int)(kl:Nat->Int->Addr)(gs:Nat->Addr)(Lb:Nat->Lk)(G':Gh):Prop where
 tj:Tj C B H Ep x tA pA L' ρ
 l:∀s,s<2->L' s=if s<i then Lb s else bN (L s) (aK (ci s T))
 a9:zX q cr db M kp F (T+1) Lb (wb F L ci T) G' qQ BY
 lp:∀s,s<2->(Lb s).p=(El L ci T s).p
 lb:∀s,s<2->w<=s->Lb s=El L ci T s/\G'.W s=G.W s
 gk:G'.K=G2.K/\G'.U=G2.U
 gw:∀s,s<2->∀P,∃r,G'.W s P=G.W s P++r
 ok:∀s,s<2->qc K B Ep s n (T+1) (TQ kp s) (x s) (F s) (a s) (v s) (if s<i then(Lb s).p else(L s).p) (λP=>(G.W (1-s) P).take (if s<i then G2.K s P else G.K s P)) (G'.W s) (λP=>if s<i then G2.U s P else G.U s P)
 bg:∀s,s<2->(v s).bg=if s<i then BY s else bg s
 air:∀s,s<2->dP CA B (Ep s) (T+1) (a s).y (a s).dy (a s).d (cr:Int) (ks s) (kl s) (if 1-s<g then wb F L ci T s else ci s)
 kl:∀s,s<2->(ks s).length<=if 1-s<g then T+1 else T
 pl:∀s,s<2->(v s).ps.length<=4000*T+if s<i then 4000 else 0
 ql:∀s,s<2->(v s).qs.length<=4000*T+if s<i then 4000 else 0
 qt:∀s,s<2->∀k,k<T+1->bF (F s) k=false->ff B ((v s).tl k)
 ma:cT K B ma [.int (cr:Int),.int (db:Int)]
 sl:B sl=some (.lst [.ref (a 0).sd,.ref (a 1).sd])
 gl:Ep 10 gl=some (.lst (bB 2 gs))
 gs:∀s,s<2->B (gs s)=some (.lst (dL 24 (bE (b6 (El L ci T s)))))
section
variable{q cr n M:Nat}{kp:Bool}{F:Nat->List Ft}{x:Nat->Addr}{a:Nat->Ax}{ma sl gl:Addr}{T g w:Nat}{ci:Nat->Nat->List Rw}{G G2 G':Gh}{la bg qQ BY:Nat->Int}{HY:Nat->Hp}{Lb:Nat->Lk}{v:Nat->Vx}{kl:Nat->Int->Addr}{gs:Nat->Addr}{tB:Addr}{v1:Vx}
theorem Tk.of(wh:Wh q cr db n M kp F)(h:zX q cr db M kp F T L ci G la bg)(hT:T<n):∃G2,zX q cr db M kp F (T+1) (El L ci T) (wb F L ci T) G2 (λs=>if aK (ci s T)=[]then la s else(T:Int)) (λs=>lO T (bg s) (bN (L s) (aK (ci s T))).ev)/\G2.W=G.W/\Tk q cr db n M kp F T L ci G G2 bg:=by
 obtain⟨G2,a9,eW,tr⟩:=h.tick wh hT;have h1:(1:Int)<=cr:=by have:=wh.h1;lia
 have n9:=wh.n9;refine⟨G2,a9,eW,wh,hT,λs hs=>(tr s hs).1.ok,λs hs=>aDI (h.sl s hs) (tr s hs).2.1 (by have:=wh.hq;have:=wh.h1;lia) ((h.rw s hs).reads (wh.kf s hs) h1),h.ku,λs hs=>(h.sl s hs).b0,h.wu,h.wl,λs hs=>(tr s hs).2.2,λs hs P=>?_,λs hs=>(h.good (by lia) hs).1,λs hs j=>(h.rw s hs).l j⟩;have e:=a9.pc.rel (1-s) (by lia) P;rw[show 1-(1-s)=s by lia,eW]at e;lia
theorem Rb.start(h:Ra K C CA cr db n kp F x a ma sl gl T 2 2 L ci G bg B H Ep tA pA L' ρ v ks kl gs)(a9:zX q cr db M kp F (T+1) (El L ci T) (wb F L ci T) G2 qQ BY)(eW:G2.W=G.W):Rb K C CA q cr db n M kp F x a ma sl gl T 0 0 0 L ci G G2 bg BY qQ B H Ep tA pA L' ρ v ks kl gs (El L ci T) G2 :=
 ⟨h.tj,λs hs=>by rw[h.l s hs,if_pos hs,if_neg (not_lt_zero _)],a9,λ_ _=>rfl,λs _ _=>⟨rfl,by rw[eW]⟩,⟨rfl,rfl⟩,λs _ P=>⟨[],by rw[eW,List.append_nil]⟩,λs hs=>by have:=h.ok s hs;rw[if_pos hs]at this;simp only[not_lt_zero,if_false,eW];exact this,λs hs=>by rw[if_neg (not_lt_zero _)];exact h.bg s hs,λs hs=>by rw[if_neg (not_lt_zero _)];exact(h.air s hs).next,λs hs=>by rw[if_neg (not_lt_zero _)];exact h.kl s hs,λs hs=>by rw[if_neg (not_lt_zero _)];exact h.pl s hs,λs hs=>by rw[if_neg (not_lt_zero _)];exact h.ql s hs,λs hs k hk=>h.qt s hs k (by rw[if_pos hs];exact hk),h.ma,h.sl,h.gl,λs hs=>by rw[xm L ci T s hs];exact h.gs s hs⟩
theorem Rb.evs(h:Rb K C CA q cr db n M kp F x a ma sl gl T s s s L ci G G2 bg BY qQ B H Ep tA pA L' ρ v ks kl gs Lb G')(tk:Tk q cr db n M kp F T L ci G G2 bg)(hs:s<2)(hbg:BY=λs=>lO T (bg s) (bN (L s) (aK (ci s T))).ev)(bb:aI B B1)(t:Tj C B1 H1 HY x (ii tA s tB) pA (ii L' s { L' s with ev:=[] }) ρ1)(ok:qc K B1 HY s n (T+1) (TQ kp s) (x s) (F s) (a s) v1 (yl (wt G s (L s)) (L' s).ev).p (λP=>(G.W (1-s) P).take ((yl (wt G s (L s)) (L' s).ev).k P)) (G'.W s) (yl (wt G s (L s)) (L' s).ev).u)(eb:v1.bg=lO T (v s).bg (L' s).ev)(et:v1.tl=(v s).tl)(pl:v1.ps.length<=(v s).ps.length+(L' s).ev.length)(ql:v1.qs.length<=(v s).qs.length+(L' s).ev.length)(fr:∀j,j≠2+s->j≠6+s->j≠8+s->HY j=Ep j):
  Rb K C CA q cr db n M kp F x a ma sl gl T (s+1) s s L ci G G2 bg BY qQ B1 H1 HY (ii tA s tB) pA (ii L' s { L' s with ev:=[] }) ρ1 (ii v s v1) ks kl gs Lb G':=by
 have eL:=h.l s hs;rw[if_neg (lt_irrefl _)]at eL;obtain⟨eLb,_⟩:=h.lb s hs (le_refl _);have n9:=tk.wh.n9;have tn:=tk.tn;have el:=tk.el s hs;rw[eL,(tk.tr s hs).2]at ok;rw[eL]at eb pl ql;have ob:=h.bg s hs;rw[if_neg (lt_irrefl _)]at ob;have opl:=h.pl s hs;have oql:=h.ql s hs;rw[if_neg (lt_irrefl _)]at opl oql;have vs:∀u,u<2->u≠s->(u<s+1↔u<s):=λu _ hu=>by lia
 refine⟨t,λu hu=>?_,h.a9,h.lp,h.lb,h.gk,h.gw,λu hu=>?_,λu hu=>?_,λu hu=>by rw[fr u (by lia) (by lia) (by lia)];exact(h.air u hu).mv bb λ_ _ _ e=>e,h.kl,λu hu=>?_,λu hu=>?_,λu hu k h1 h2=>?_,bb.tup h.ma,bb _ _ h.sl,by rw[fr _ (by lia) (by lia) (by lia)];exact h.gl,λu hu=>bb _ _ (h.gs u hu)⟩
 ·by_cases z:u=s
  ·rw[z,aJ,if_pos (lt_succ_self _),eLb,xm L ci T s hs,eL];rfl
  rw[aN z,h.l u hu];simp only[vs u hu z]
 ·by_cases z:u=s
  ·subst z;rw[aJ];simp only[lt_succ_self,if_true];rw[h.lp u hu];exact ok
  rw[aN z];have:=(h.ok u hu).mv (Ep':=HY) bb (fr _ (by lia) (by lia) (by lia)) (fr _ (by lia) (by lia) (by lia)) (fr _ (by lia) (by lia) (by lia)) (fr _ (by lia) (by lia) (by lia));simp only[vs u hu z];exact this
 ·by_cases z:u=s
  ·rw[z,aJ,if_pos (lt_succ_self _),eb,ob,hbg]
  rw[aN z];simp only[vs u hu z];exact h.bg u hu
 ·by_cases z:u=s
  ·rw[z,aJ,if_pos (lt_succ_self _)];lia
  rw[aN z];simp only[vs u hu z];exact h.pl u hu
 ·by_cases z:u=s
  ·rw[z,aJ,if_pos (lt_succ_self _)];lia
  rw[aN z];simp only[vs u hu z];exact h.ql u hu
 by_cases z:u=s
 ·rw[z,aJ,et];exact(h.qt s hs k h1 (by rw[z]at h2;exact h2)).mono bb
 rw[aN z];exact(h.qt u hu k h1 h2).mono bb
theorem Rb.give(h:Rb K C CA q cr db n M kp F x a ma sl gl T (s+1) s s L ci G G2 bg BY qQ B H Ep tA pA L' ρ v ks kl gs Lb G')(hs:s<2)(bb:aI B B1)(t:Tj C B1 H1 (ii Ep (1-s) Ei) x tA pA L' ρ1)(w:dP CA B1 Ei (T+1) (a (1-s)).y (a (1-s)).dy (a (1-s)).d (cr:Int) FE kl1 (wb F L ci T (1-s)))(hk:FE.length<=(ks (1-s)).length+1):
  Rb K C CA q cr db n M kp F x a ma sl gl T (s+1) (s+1) s L ci G G2 bg BY qQ B1 H1 (ii Ep (1-s) Ei) tA pA L' ρ1 v (ii ks (1-s) FE) (ii kl (1-s) kl1) gs Lb G':=by
 have o:∀k,2<=k->ii Ep (1-s) Ei k=Ep k:=λk hk=>aN (by lia);have vs:∀u,u<2->u≠1-s->(1-u<s+1↔1-u<s):=λu _ hu=>by lia
 have kls:=h.kl (1-s) (by lia);rw[if_neg (by lia)]at kls;refine⟨t,h.l,h.a9,h.lp,h.lb,h.gk,h.gw,λu hu=>(h.ok u hu).mv bb (o _ (by lia)) (o _ (by lia)) (o _ (by lia)) (o _ (by lia)),h.bg,λu hu=>?_,λu hu=>?_,h.pl,h.ql,λu hu k h1 h2=>(h.qt u hu k h1 h2).mono bb,bb.tup h.ma,bb _ _ h.sl,by rw[o _ (by lia)];exact h.gl,λu hu=>bb _ _ (h.gs u hu)⟩
 ·by_cases z:u=1-s
  ·subst z;rw[aJ,aJ,aJ,if_pos (by lia)];exact w
  rw[aN z,aN z,aN z];simp only[vs u hu z];exact(h.air u hu).mv bb λ_ _ _ e=>e
 by_cases z:u=1-s
 ·rw[z,aJ,if_pos (by lia)];lia
 rw[aN z];simp only[vs u hu z];exact h.kl u hu
theorem Rb.skip(h:Rb K C CA q cr db n M kp F x a ma sl gl T i g s L ci G G2 bg BY qQ B H Ep tA pA L' ρ v ks kl gs Lb G'):Rb K C CA q cr db n M kp F x a ma sl gl T i g (s+1) L ci G G2 bg BY qQ B H Ep tA pA L' ρ v ks kl gs Lb G' :=
 ⟨h.tj,h.l,h.a9,h.lp,λu hu hw=>h.lb u hu (by lia),h.gk,h.gw,h.ok,h.bg,h.air,h.kl,h.pl,h.ql,h.qt,h.ma,h.sl,h.gl,h.gs⟩
theorem Rb.same(h:Rb K C CA q cr db n M kp F x a ma sl gl T i g w L ci G G2 bg BY qQ B H Ep tA pA L' ρ v ks kl gs Lb G')(e:aI H H1):Rb K C CA q cr db n M kp F x a ma sl gl T i g w L ci G G2 bg BY qQ B H1 Ep tA pA L' ρ v ks kl gs Lb G' :=
 ⟨h.tj.same e,h.l,h.a9,h.lp,h.lb,h.gk,h.gw,h.ok,h.bg,h.air,h.kl,h.pl,h.ql,h.qt,h.ma,h.sl,h.gl,h.gs⟩
theorem Rb.put{Y:Pr}{xs:List Int}(h:Rb K C CA q cr db n M kp F x a ma sl gl T (s+1) (s+1) s L ci G G2 bg BY qQ B H Ep tA pA L' ρ v ks kl gs Lb G')(tk:Tk q cr db n M kp F T L ci G G2 bg)(hs:s<2)(hM:T+1<=M)(hY:(L' s).p=some Y)(hp:(L' s).cE=[])(bb:aI B B1)(ip:EV xs)(t:Tj C B1 H1 HY x tA pA (putL L' s xs) ρ1)(ok:qc K B1 HY s n (T+1) (TQ kp s) (x s) (F s) (a s) v1 (L' s).p (λP=>(G.W (1-s) P).take (G2.K s P)) (qd (G'.W s) Y (G'.W s Y++[xs])) (G2.U s))(et:v1.tl=(v s).tl)(eb:v1.bg=(v s).bg)(ep:v1.ps=(v s).ps)(eq:v1.qs=(v s).qs)(fr:∀j,j≠2+s->j≠8+s->HY j=Ep j):
  Rb K C CA q cr db n M kp F x a ma sl gl T (s+1) (s+1) (s+1) L ci G G2 bg BY qQ B1 H1 HY tA pA (putL L' s xs) ρ1 (ii v s v1) ks kl gs (putL Lb s xs) (Em G' s Y xs):=by
 have eL:=h.l s hs;rw[if_pos (lt_succ_self _)]at eL;obtain⟨eLb,eW⟩:=h.lb s hs (le_refl _);have wx:∀i P,(Em G' s Y xs).W i P=if i=s/\P=Y then G'.W s Y++[xs]else G'.W i P:=λi P=>rfl;have wn:∀u,u≠s->(Em G' s Y xs).W u=G'.W u:=λu hu=>funext λP=>by rw[wx,if_neg (λz=>hu z.1)]
 have ws:(Em G' s Y xs).W s=qd (G'.W s) Y (G'.W s Y++[xs]):=funext λP=>by
  rw[wx];by_cases z:P=Y
  ·rw[if_pos ⟨rfl,z⟩,show qd (G'.W s) Y (G'.W s Y++[xs]) P=_ from if_pos z]
  rw[if_neg (λy=>z y.2),show qd (G'.W s) Y (G'.W s Y++[xs]) P=_ from if_neg z]
 have pf:∀u,(putL Lb s xs u).p=(Lb u).p:=λu=>(hU xs u).2.2.2.1;refine⟨t,λu hu=>?_,h.a9.put hs (by rw[<-eL];exact hY) (by rw[<-eL];exact hp) ip hM (λP=>by rw[eW];have:=tk.wl s hs P;lia),λu hu=>by rw[pf];exact h.lp u hu,λu hu hw=>?_,h.gk,λu hu P=>?_,λu hu=>?_,λu hu=>?_,λu hu=>by rw[fr u (by lia) (by lia)];exact(h.air u hu).mv bb λ_ _ _ e=>e,h.kl,λu hu=>?_,λu hu=>?_,λu hu k h1 h2=>?_,bb.tup h.ma,bb _ _ h.sl,by rw[fr _ (by lia) (by lia)];exact h.gl,λu hu=>bb _ _ (h.gs u hu)⟩
 ·by_cases z:u=s
  ·rw[z,if_pos (lt_succ_self _),tU,tU,eL]
  rw[wc z,wc z];exact h.l u hu
 ·have z:u≠s:=by lia
  rw[wc z,wn u z];exact h.lb u hu (by lia)
 ·by_cases z:u=s
  ·rw[z,ws];by_cases y:P=Y
   ·rw[y,show qd (G'.W s) Y (G'.W s Y++[xs]) Y=_ from if_pos rfl,eW];exact⟨_,rfl⟩
   rw[show qd (G'.W s) Y (G'.W s Y++[xs]) P=_ from if_neg y];exact h.gw s hs P
  rw[wn u z];exact h.gw u hu P
 ·rw[pf];by_cases z:u=s
  ·subst z;rw[aJ,ws];simp only[lt_succ_self,if_true];rw[<-eL];exact ok
  rw[aN z,wn u z];exact(h.ok u hu).mv (Ep':=HY) bb (fr _ (by lia) (by lia)) (fr _ (by lia) (by lia)) (fr _ (by lia) (by lia)) (fr _ (by lia) (by lia))
 ·by_cases z:u=s
  ·rw[z,aJ,eb];exact h.bg s hs
  rw[aN z];exact h.bg u hu
 ·by_cases z:u=s
  ·rw[z,aJ,ep];exact h.pl s hs
  rw[aN z];exact h.pl u hu
 ·by_cases z:u=s
  ·rw[z,aJ,eq];exact h.ql s hs
  rw[aN z];exact h.ql u hu
 by_cases z:u=s
 ·rw[z,aJ,et];exact(h.qt s hs k h1 (by rw[z]at h2;exact h2)).mono bb
 rw[aN z];exact(h.qt u hu k h1 h2).mono bb
theorem Rb.done(h:Rb K C CA q cr db n M kp F x a ma sl gl T 2 2 2 L ci G G2 bg BY qQ B H Ep tA pA L' ρ v ks kl gs Lb G')(tk:Tk q cr db n M kp F T L ci G G2 bg):Rn K C CA q cr db n M kp F x a ma sl (T+1) B H Ep tA pA Lb ρ v ks kl (wb F L ci T) G' qQ BY:=by
 refine⟨h.tj.re λs hs=>?_,h.a9,λs hs=>?_,λs hs=>?_,λs hs=>?_,λs hs=>?_,λs hs=>?_,λs hs=>?_,h.qt,h.ma,h.sl⟩
 ·rw[h.l s hs,if_pos hs]
 ·have o:=h.ok s hs;simp only[hs,if_true]at o;rw[h.gk.1,h.gk.2];refine⟨o.sd,o.pv,o.fl,o.hl,o.cm,o.tk.re λP _=>?_,o.pd,o.pu,o.qu⟩;obtain⟨r,e⟩:=h.gw (1-s) (by lia) P;rw[e,List.take_append_of_le_length (tk.kw s hs P)]
 ·have:=h.bg s hs;rw[if_pos hs]at this;exact this
 ·have:=h.air s hs;rw[if_pos (by lia)]at this;exact this
 ·have:=h.kl s hs;rw[if_pos (by lia)]at this;exact this
 ·have:=h.pl s hs;rw[if_pos hs]at this;lia
 have:=h.ql s hs;rw[if_pos hs]at this;lia
end
theorem XU{c A B:Prop}[Decidable c](h:c)(x:A):if c then A else B:=by rw[if_pos h];exact x
theorem XW{c A B:Prop}[Decidable c](h:¬c)(x:B):if c then A else B:=by rw[if_neg h];exact x
theorem Er{A0 A1:V}{f:Nat->V}(h:s<2)(e0:f 0=A0)(e1:f 1=A1):uL [A0,A1] (s:Int)=some (f s):=by
 rcases(show s=0\/s=1 by lia)with z|z
 ·subst z;rw[e0];rfl
 subst z;rw[e1];rfl
theorem LL{A0 A1:V}{f:Nat->V}(h:s<2)(e0:f 0=A0)(e1:f 1=A1):uL [A0,A1] (1-(s:Int))=some (f (1-s)):=by rw[show(1:Int)-(s:Int)=((1-s:Nat):Int) by lia];exact Er (by lia) e0 e1
inductive yt(K:W.Frag)(C CA:Addr)(vs:List V)(H:Hp)(Q:VK)(_:XK):Prop
 |mk (q cr db n M:Nat) (kp:Bool) (F:Nat->List Ft) (x:Nat->Addr) (a:Nat->Ax) (ma sl:Addr) (last:Nat) (B:Hp) (Ep:Nat->Hp) (tA pA:Nat->Addr) (L:Nat->Lk) (ρ:Addr->Nat) (v:Nat->Vx) (ks:Nat->List Int) (kl:Nat->Int->Addr) (ci:Nat->Nat->List Rw) (G:Gh) (la bg:Nat->Int) (_:vs=[.ref sl,.ref ma,.int (n:Int),.int (last:Int)]) (_:Wh q cr db n M kp F) (_:last<=M) (_:Rn K C CA q cr db n M kp F x a ma sl 0 B H Ep tA pA L ρ v ks kl ci G la bg) (_:∀(B' H':Hp)(Ep':Nat->Hp)(Sx Sy:Nat->Addr)(L':Nat->Lk)(ρ':Addr->Nat)(v':Nat->Vx)(w8:Nat->List Int)(kl':Nat->Int->Addr)(fK:Nat->Nat->List Rw)(G':Gh)(qQ BY:Nat->Int),Rn K C CA q cr db n M kp F x a ma sl n B' H' Ep' Sx Sy L' ρ' v' w8 kl' fK G' qQ BY->Q (.bl true) H')
theorem gO:aS ["states","measure","ticks","last","quiet","tick","given","state","side"] ["states","measure","ticks","last"] (aG oP):=ac
set_option maxHeartbeats 4000000 in
theorem HH{fdc fdt fdg:FuncData}(F:aO K mg "_law_run" oP)(T:Txt K mg t)(fM:Def P w K mg base 12 "_law_events_right" ["state","other","tick","measure"] (jI K t.LinkEnd))(ui:Def P w K mg base 4 "_law_put" ["state","side"] (yp K t.LinkEnd))(JR:b7 P w K mg base (iE P w) 1 t.AL fdc ["self","tick"] (LD t.Air t.LinkEnd))(JS:Binds K fdc ["self","tick"] [])(JT:b7 P w K mg base (iE P w) 9 t.AH fdt ["self","cells"] (K3 t.LinkEnd))(JU:Binds K fdt ["self","cells"] [])(JV:b7 P w K mg base (iE P w) 4 t.AK fdg ["self","cell","fate","tick"] (K9 K t.Air t.LinkEnd))(JW:Binds K fdg ["self","cell","fate","tick"] []):Def P w K mg base 13 "_law_run" ["states","measure","ticks","last"] (yt K t.LinkEnd t.Air):=by
 refine F.def gO (λ_ _ _ _ _ _=>bd λ_ _ _ _=>rfl) (λvs H Q E h=>?_) (λf cB A outer s H vs Q E hr h=>?_)
 ·obtain⟨qq,cr,db,n,M,kp,F',x,a,ma,sl,last,B,Ep,tA,pA,L,ρ,v,ks,kl,ci,G,la,bg,rfl,_⟩:=h;rfl
 obtain⟨qq,cr,db,n,M,kp,F',x,a,ma,sl,last,B,Ep,tA,pA,L,ρ,v,ks,kl,ci,G,la,bg,rfl,wh,hlM,rn,q⟩:=h;refine⟨_,aC (aX (i:=4) gO.nd rfl (Or.inl rfl) (aQ bK (ai (bR K) (pv 1) aH (λ_ _=>rfl)) (ai (bR K) (pv 1) aH (λ_ _=>rfl))))
  (aC (PS.Ck (cO PassesOwn.never rfl (dH (by rfl) T.eF (aB (pv 2) aD)) (au (i:=5) gO.nd rfl (Or.inl rfl))
   (aC (aX (i:=6) gO.nd rfl (Or.inl rfl) (ba aD))
   (aC (cO PassesOwn.never rfl (bz K (pv 0)) (au (i:=7) gO.nd rfl (Or.inl rfl))
    (aC (ax (iH K PySem.F.plainAttrs_list PySem.F.slot_list_append PySem.F.type_list_append cG (ay (bG hr) (pv 7) aU (λ_ _=>rfl)) (aB (lR (ay (bG hr) (pv 7) aU (λ_ _=>rfl)) T.AU T.R1 (JR.mono (by decide)) hr JS .nil av (aB (pv 5) aD)) aD)))
    (aF (ax (iH K PySem.F.plainAttrs_list PySem.F.slot_list_append PySem.F.type_list_append cG (pv 6) (aB (lR (ay (bG hr) (pv 7) aU (λ_ _=>rfl)) T.aM T.R3 (JT.mono (by decide)) hr JU .nil av (aB (ai (aV K) (ay (bG hr) (pv 7) aU (λ_ _=>rfl)) (pv 5) (λ_ _=>rfl)) aD)) aD))))))
   (aF (cO PassesOwn.never rfl (dH (by rfl) T.eF (aB aH aD)) (au (i:=8) gO.nd rfl (Or.inl rfl))
    (aC (bO (fh (jJ (aY (fM.mono (by decide)) hr av (aB (ai (aV K) (pv 0) (pv 8) (λ_ _=>rfl)) (aB (ai (aV K) (pv 0) (aQ dv aH (pv 8)) (λ_ _=>rfl)) (aB (pv 5) (aB (pv 1) aD)))))))
     (aF (ah d9))
     (aj))
    (aC (ax (lR (ay (bG hr) (ai (aV K) (pv 0) (aQ dv aH (pv 8)) (λ_ _=>rfl)) aU (λ_ _=>rfl)) T.AU T.R0 (JV.mono (by decide)) hr JW .nil av (aB (ai (aV K) (pv 6) (pv 8) (λ_ _=>rfl)) (aB (ai (aV K) (ay (bG hr) (ai (aV K) (pv 0) (aQ dv aH (pv 8)) (λ_ _=>rfl)) aU (λ_ _=>rfl)) (pv 5) (λ_ _=>rfl)) (aB (pv 5) aD)))))
    (aC (l8 (bO (aZ lQ (pv 5) (pv 3) (af _))
     (aF (ax (aY (ui.mono (by decide)) hr av (aB (ai (aV K) (pv 0) (pv 8) (λ_ _=>rfl)) (aB (pv 8) aD)))))
     (aj)))
    (aF (bO (PW.pt (nv (jJ (ay (bG hr) (ai (aV K) (pv 0) aH (λ_ _=>rfl)) aU (λ_ _=>rfl))) (nv (aZ zh (pv 5) (aQ eQ aH (pv 4)) (af _)) (lP (aZ (OZ K (Fd hr)) (ay (bG hr) (ai (aV K) (pv 0) (pv 8) (λ_ _=>rfl)) aU (λ_ _=>rfl)) (gT (aB aH (aB aH aD))) (af _))))))
     (aF (ah d9))
     (aj))))))))))))
  (aF (ah d9))),?_⟩
 have hsz:(5000:Nat)<=sizeLine:=by decide
 have n9:=wh.n9;have hq:=wh.hq;have h1:=wh.h1;have h1':(1:Int)<=(cr:Int):=by lia
 have hqi:(cr:Int)+(db:Int)=(qq:Int):=by lia
 have Bz:=rn.tj.sb.tup rn.ma;refine⟨_,rfl,ma,_,_,_,rfl,rfl,Bz,rfl,_,rfl,ma,_,_,_,rfl,rfl,Bz,rfl,_,_,rfl,rfl,?_⟩;refine⟨_,rfl,(n:Int),rfl,by lia,by lia,?_⟩
 let I1:Nat->_->_->Prop:=λi σ H'=>∃(v5 v6 v7 v8:Option V)(B:Hp)(Ep:Nat->Hp)(tA pA:Nat->Addr)(L:Nat->Lk)(ρ:Addr->Nat)(v:Nat->Vx)(ks:Nat->List Int)(kl:Nat->Int->Addr)(ci:Nat->Nat->List Rw)(G:Gh)(la bg:Nat->Int),σ=[some (.ref sl),some (.ref ma),some (.int (n:Int)),some (.int (last:Int)),some (.int ((cr:Int)+(db:Int))),v5,v6,v7,v8]/\Rn K t.LinkEnd t.Air qq cr db n M kp F' x a ma sl i B H' Ep tA pA L ρ v ks kl ci G la bg
 refine gE (lo:=0) (n:=n) I1
  ⟨none,none,none,none,B,Ep,tA,pA,L,ρ,v,ks,kl,ci,G,la,bg,rfl,rn⟩ ?_ ?_
 ·clear rn Bz B Ep tA pA L ρ v ks kl ci G la bg;rintro m σ H0 hmn ⟨v5,v6,v7,v8,B,Ep,tA,pA,L,ρ,v,ks,kl,ci,G,la,bg,rfl,rn⟩;rw[show(0:Int)+(m:Nat)=(m:Int) by lia];obtain⟨G2,a9,eW,tk⟩:=Tk.of wh rn.a9 hmn;refine⟨zz0,λgl hgl=>?_⟩;obtain⟨ρ1,HY,ra⟩:=Ra.start rn hgl;refine⟨_,rfl,sl,rfl,⟨_,ae.of (ra.tj.sb _ _ ra.sl)⟩,?_⟩;have rnA:=rn.a9;have rnR:=rn.a9.rw;clear rn;generalize dl H0 gl (.lst [])=H1 at *
  let I2:Nat->_->_->Prop:=λi σ H'=>∃(v7:Option V)(B:Hp)(Ep:Nat->Hp)(tA pA:Nat->Addr)(L':Nat->Lk)(ρ:Addr->Nat)(v:Nat->Vx)(ks:Nat->List Int)(gs:Nat->Addr),σ=[some (.ref sl),some (.ref ma),some (.int (n:Int)),some (.int (last:Int)),some (.int ((cr:Int)+(db:Int))),some (.int (m:Int)),some (.ref gl),v7,v8]/\Ra K t.LinkEnd t.Air cr db n kp F' x a ma sl gl m i i L ci G bg B H' Ep tA pA L' ρ v ks kl gs
  refine gS (K:=K) (a:=sl) (xs:=[.ref (a 0).sd,.ref (a 1).sd]) I2
   ⟨v7,B,HY,tA,pA,L,ρ1,v,ks,_,rfl,ra⟩ (λi σ H' _ ⟨_,_,_,_,_,_,_,_,_,_,_,r⟩=>ae.of (r.tj.sb _ _ r.sl)) ?_ ?_
  ·clear ra;rintro s vv σ H2 hi ⟨v7,B,Ep,tA,pA,L',ρ,v,ks,gs,rfl,ra⟩;have hs:s<2:=(List.getElem?_eq_some_iff.mp hi).1;obtain rfl:vv=.ref (a s).sd:=by
    rcases(show s=0\/s=1 by lia)with z|z
    ·subst z;cases hi;rfl
    subst z;cases hi;rfl
   have yr:=ra.ok s hs;rw[if_neg (lt_irrefl _)]at yr;have hA:=ra.air s hs;obtain⟨k0,ey⟩:=hA.at_;have rl:=(rnR s hs).l;refine⟨_,rfl,(a s).sd,_,rfl,bU (ra.tj.at_ yr.sd) rfl,.inl ⟨rfl,_,ae.of (ra.tj.at_ yr.cm)⟩,?_⟩;refine⟨_,rfl,(a s).sd,_,rfl,bU (ra.tj.at_ yr.sd) rfl,(a s).y,(a s).dy,_,rfl,ra.tj.at_ ey,rfl,_,rfl,?_⟩;refine⟨B,jn Ep,x,tA,pA,L',ρ,m,(a s).y,(a s).dy,(a s).d,cr,ks s,kl s,ci s,rfl,ra.tj.tw,hA.jn ra.tj.dj,by have:=ra.kl s hs;lia,by have:=rl m;lia,λB1 H3 E1 ρ1 r FE LC tw1 w1 kl1 aEd cells HX=>?_⟩;obtain⟨Ei,tj1,VG⟩:=ra.tj.air hA tw1 w1 HX (λb hb=>.inl (by
    rcases hb with z|z|z|⟨k,hk,z⟩
    ·exact .inl z
    ·exact .inr (.inl z)
    ·exact .inr (.inr (.inl z))
    exact .inr (.inr (.inr ⟨k,aEd k hk,z⟩))))
   have ra1:=ra.come hs LC tj1 VG kl1;have aAO:=ra1.ok s hs;rw[if_neg (lt_irrefl _)]at aAO;refine⟨(a s).cm,_,_,rfl,rfl,ra1.tj.at_ aAO.cm,by rw[aL];lia,?_⟩;obtain⟨ρ2,Ep2,Qr⟩:=ra1.app (r:=r) hs (JQ cells (rnR s hs) (wh.kf s hs) h1' (by lia));have ev2:ii v s { v s with tl:=XT (v s).tl m r } s={ v s with tl:=XT (v s).tl m r }:=aJ;have TU:=Qr.ok s hs;rw[if_pos (lt_succ_self _),ev2]at TU;have eL:=Qr.l s hs;rw[if_neg (lt_irrefl _)]at eL;have sq:=rnA.sq s hs;have XO:=Qr.tj.lk hs;obtain⟨dx,_,hx,_⟩:=XO.at_;obtain⟨MR,inC⟩:=P6 cells Qr.tj.sb (λrow hr=>((rnR s hs).g m row hr).1)
   have MF:=Qr.tj.at_ TU.cm;generalize dl H3 (a s).cm (.lst (bB m (v s).tl++[.ref r]))=H4 at *;have aEf:=Qr.tj.at_ Qr.gl;have hrr:uL (bB (m+1) (XT (v s).tl m r)) (m:Int)=some (.ref r):=by refine gU ?_;rw[bu (lt_succ_self _)];show some (V.ref (if m=m then r else _))=_;rw[if_pos rfl]
   refine⟨_,rfl,.inl ⟨rfl,_,ae.of aEf⟩,?_⟩;refine⟨_,rfl,(a s).sd,_,rfl,bU (Qr.tj.at_ TU.sd) rfl,x s,dx,_,rfl,hx,rfl,_,rfl,(a s).sd,_,rfl,bU (Qr.tj.at_ TU.sd) rfl,_,rfl,(a s).cm,_,_,_,rfl,rfl,ae.of MF,hrr,?_⟩;refine⟨B1,x s,tA s,pA s,r,MR,L' s,(ci s m).map W7,rfl,XO,inC,by rw[length_map];have:=rl m;lia,by rw[eL,sq.ev];exact zero_le _,by rw[eL];exact sq.b0,by rw[eL];have:=sq.b1;lia,by rw[eL];exact sq.ok,λB5 H5 pB p mv hl np bp npB ep=>?_⟩;rw[PX]at hl ep;obtain⟨hg5,B6,ρ6,Ep6,ra6⟩:=Qr.tick hs mv hl np bp npB ep;exact⟨gl,_,_,rfl,rfl,hg5,by rw[aL];lia,_,_,_,_,_,_,_,_,_,_,rfl,ra6⟩
  clear ra;rintro σ H2 ⟨v7,B,Ep,tA,pA,L',ρ,v,ks,gs,rfl,ra⟩;have rb:=Rb.start (q:=qq) (M:=M) ra a9 eW;clear ra rnA rnR hgl;refine⟨2,rfl,by decide,by decide,?_⟩
  let I3:Nat->_->_->Prop:=λi σ H'=>∃(v8:Option V)(B:Hp)(Ep:Nat->Hp)(tA pA:Nat->Addr)(L':Nat->Lk)(ρ:Addr->Nat)(v:Nat->Vx)(ks:Nat->List Int)(kl:Nat->Int->Addr)(Lb:Nat->Lk)(G':Gh),σ=[some (.ref sl),some (.ref ma),some (.int (n:Int)),some (.int (last:Int)),some (.int ((cr:Int)+(db:Int))),some (.int (m:Int)),some (.ref gl),v7,v8]/\Rb K t.LinkEnd t.Air qq cr db n M kp F' x a ma sl gl m i i i L ci G G2 bg (λs=>lO m (bg s) (bN (L s) (aK (ci s m))).ev) (λs=>if aK (ci s m)=[]then la s else(m:Int)) B H' Ep tA pA L' ρ v ks kl gs Lb G'
  refine gE (lo:=0) (n:=2) I3
   ⟨v8,B,Ep,tA,pA,L',ρ,v,ks,kl,_,G2,rfl,rb⟩ ?_ ?_
  ·clear rb;rintro s σ H3 hs ⟨v8,B,Ep,tA,pA,L',ρ,v,ks,kl,Lb,G',rfl,rb⟩;rw[show(0:Int)+(s:Nat)=(s:Int) by lia];have y8:1-s<2:=(by lia);have g0:∀{H':Hp},aI B H'->ae K H' sl [.ref (a 0).sd,.ref (a 1).sd]:=λs'=>ae.of (s' _ _ rb.sl);have gt:uL [V.ref (a 0).sd,V.ref (a 1).sd] (s:Int)=some (.ref (a s).sd):=Er (f:=λs=>.ref (a s).sd) hs rfl rfl;have gu:uL [V.ref (a 0).sd,V.ref (a 1).sd] (1-(s:Int))=some (.ref (a (1-s)).sd):=LL (f:=λs=>.ref (a s).sd) hs rfl rfl;have eL:=rb.l s hs;rw[if_neg (lt_irrefl _)]at eL;have yr:=rb.ok s hs;simp only[lt_irrefl,if_false]at yr;have Fc:=rb.ok (1-s) y8;have bgs:=rb.bg s hs;rw[if_neg (lt_irrefl _)]at bgs;have pls:=rb.pl s hs;have qls:=rb.ql s hs;rw[if_neg (lt_irrefl _)]at pls qls;have el:=tk.el s hs;obtain⟨eLb,eWs⟩:=rb.lb s hs (le_refl _);refine⟨_,rfl,_,rfl,sl,_,_,_,rfl,rfl,g0 rb.tj.sb,gt,_,rfl,_,rfl,_,_,rfl,rfl,sl,_,_,_,rfl,rfl,g0 rb.tj.sb,gu,_,rfl,_,rfl,?_⟩;refine⟨B,Ep,x,tA,pA,L',ρ,s,m,n,qq,cr,db,TQ kp s,TQ kp (1-s),F' s,a s,a (1-s),v s,v (1-s),wt G s (L s),G.W (1-s),G'.W s,G'.W (1-s),ma,rfl,hs,rb.tj,yr,⟨Fc.sd,Fc.pd,rb.gw (1-s) y8,λY hY=>(Fc.qu Y).mpr ?_⟩,rb.ma,hq,h1,n9,hmn,wh.len s hs,wh.kf s hs,λj hj=>rb.qt s hs j (by lia),by rw[eL];exact(tk.tr s hs).1,by rw[eL,(tk.tr s hs).2];show(El L ci m s).p=_;rw[xm L ci m s hs];rfl,tk.ku s hs,by rw[eL,bgs];exact tk.si s hs,by rw[bgs];exact tk.b0 s hs,λY hY=>?_,λY=>by have:=tk.wl (1-s) y8 Y;lia,by rw[eL];lia,by rw[eL];lia,λB1 H4 HY ρ1 tB v1 bb t1 okn eb ec et pl ql fr=>⟨_,rfl,dX ?_⟩⟩
   ·by_cases z:1-s<s
    ·rw[if_pos z];obtain⟨r,er⟩:=rb.gw (1-s) y8 Y;have:=rb.a9.wu (1-s) y8 Y (by rw[er];exact λy=>hY (List.append_eq_nil_iff.mp y).1);rw[rb.gk.2]at this;exact this
    rw[if_neg z];exact tk.wu (1-s) y8 Y hY
   ·rw[eWs];exact Classical.byContradiction λz=>hY (tk.wu s hs Y z)
   have HI:=rb.evs tk hs rfl bb t1 okn eb et pl ql fr;clear rb yr Fc bgs pls qls eL okn t1 eb ec et pl ql fr g0;have g0:∀{H':Hp},aI B1 H'->ae K H' sl [.ref (a 0).sd,.ref (a 1).sd]:=λs'=>ae.of (s' _ _ HI.sl);have Fc:=HI.ok (1-s) y8;have hA:=HI.air (1-s) y8;rw[if_neg (by lia)]at hA;have kls:=HI.kl (1-s) y8;rw[if_neg (by lia)]at kls;obtain⟨k0,ey⟩:=hA.at_;obtain⟨nW,hfl,hft⟩:=Fc.fl;obtain⟨ef,kf⟩:=wh.fa hmn y8;have XX:=HI.tj.at_ Fc.sd;have fl1:(JJ F' (1-s) m).length<=1:=(by rcases kf with z|z|⟨d,_,_,z⟩<;>rw[z]<;>first|exact zero_le _|exact le_refl _);have hfa:uL (bB (F' (1-s)).length nW) (m:Int)=some (.ref (nW m)):=gU (bu (by rw[wh.len (1-s) y8];exact hmn));have hgi:uL (bB 2 gs) (s:Int)=some (.ref (gs s)):=gU (bu hs);refine⟨_,rfl,_,rfl,_,_,rfl,rfl,sl,_,_,_,rfl,rfl,g0 HI.tj.sb,gu,(a (1-s)).sd,_,rfl,bU XX rfl,(a (1-s)).y,(a (1-s)).dy,_,rfl,HI.tj.at_ ey,rfl,?_⟩;refine⟨_,rfl,_,rfl,gl,_,_,_,rfl,rfl,ae.of (HI.tj.at_ HI.gl),hgi,?_⟩;refine⟨_,rfl,_,rfl,_,_,rfl,rfl,sl,_,_,_,rfl,rfl,g0 HI.tj.sb,gu,(a (1-s)).sd,_,rfl,bU XX rfl,_,rfl,(a (1-s)).fl,_,_,_,rfl,rfl,ae.of (HI.tj.sb _ _ hfl),hfa,_,rfl,?_⟩;refine⟨B1,jn HY,x,_,pA,_,ρ1,m,(a (1-s)).y,(a (1-s)).dy,(a (1-s)).d,gs s,nW m,cr,ks (1-s),kl (1-s),ci (1-s),b6 (El L ci m s),JJ F' (1-s) m,rfl,HI.tj.tw,hA.jn HI.tj.dj,HI.gs s hs,tk.gc s hs,hft m _ ef,kf.good h1',by lia,λj=>by have:=tk.rl (1-s) y8 j;lia,λB2 H5 E2 ρ2 U6 kl2 bb2 tw2 w2 aJf fr2 ow2=>?_⟩
   obtain⟨Ei,tj2,w2'⟩:=HI.tj.air hA tw2 w2 fr2 ow2;have erN:cN (ci (1-s)) m (b6 (El L ci m s)) (JJ F' (1-s) m)=wb F' L ci m (1-s):=by rw[Gy F' L ci m (1-s) y8,show 1-(1-s)=s by lia]
   rw[erN]at w2';have NU:=HI.give hs bb2 tj2 w2' (by lia);clear HI Fc hA kls hfl hft XX g0 tj2 w2' w2 tw2 fr2 ow2 hfa hgi bb bb2
   let I4:_->_->Prop:=λσ H'=>∃(B:Hp)(Ep:Nat->Hp)(tA pA:Nat->Addr)(L':Nat->Lk)(ρ:Addr->Nat)(v:Nat->Vx)(ks:Nat->List Int)(kl:Nat->Int->Addr)(Lb:Nat->Lk)(G':Gh),σ=[some (.ref sl),some (.ref ma),some (.int (n:Int)),some (.int (last:Int)),some (.int ((cr:Int)+(db:Int))),some (.int (m:Int)),some (.ref gl),v7,some (.int (s:Int))]/\Rb K t.LinkEnd t.Air qq cr db n M kp F' x a ma sl gl m (s+1) (s+1) (s+1) L ci G G2 bg (λs=>lO m (bg s) (bN (L s) (aK (ci s m))).ev) (λs=>if aK (ci s m)=[]then la s else(m:Int)) B H' Ep tA pA L' ρ v ks kl gs Lb G'
   refine⟨I4,?_,?_⟩
   ·refine⟨_,rfl,_,rfl,_,_,rfl,rfl,_,rfl,?_⟩;by_cases hl:(m:Int)<(last:Int)
    ·refine eJ hl ?_;have yr:=NU.ok s hs;simp only[lt_succ_self,if_true]at yr;have eL2:=NU.l s hs;rw[if_pos (lt_succ_self _)]at eL2;rw[<-eL2]at yr;refine⟨_,rfl,_,rfl,sl,_,_,_,rfl,rfl,ae.of (NU.tj.sb _ _ NU.sl),gt,_,rfl,?_⟩;refine⟨B2,_,x,_,pA,_,ρ2,s,n,m+1,TQ kp s,F' s,a s,_,_,G'.W s,G2.U s,rfl,hs,NU.tj,yr,λY hY=>?_,λY=>by have:=NU.a9.wl s hs Y;lia,λ_=>⟨_,_,_,_,_,_,_,_,_,_,_,rfl,NU.skip⟩,λY hY SE B3 H6 wg ρ3 v3 xs bb3 ip tj3 mx et eb ep eq fr=>⟨_,_,_,_,_,_,_,_,_,_,_,rfl,NU.put tk hs (by lia) hY SE bb3 ip tj3 mx et eb ep eq fr⟩⟩;rw[eL2]at hY;have:=(NU.a9.pair hs hY).2;rw[NU.gk.2]at this;exact this
    exact eZ hl ⟨_,_,_,_,_,_,_,_,_,_,_,rfl,NU.skip⟩
   clear NU;rintro σ H6 ⟨B,Ep,tA,pA,L',ρ,v,ks,kl,Lb,G',rfl,rb⟩;have ok0:=rb.ok 0 (by decide);have yr:=rb.ok s hs;simp only[lt_succ_self,if_true]at yr;refine⟨_,rfl,sl,_,_,_,rfl,rfl,ae.of (rb.tj.sb _ _ rb.sl),Gd _ _,(a 0).sd,_,rfl,bU (rb.tj.at_ ok0.sd) rfl,kp,rfl,?_⟩;by_cases hk:kp=true
   ·refine XU hk ⟨_,rfl,_,rfl,_,_,rfl,rfl,.inl (by decide),_,_,rfl,rfl,_,rfl,?_⟩;by_cases h3:3*((cr:Int)+(db:Int))<(m:Int)
    ·refine eJ h3 ?_;have up:=(rb.a9.up hk (by lia) hs).1;refine⟨_,rfl,_,rfl,sl,_,_,_,rfl,rfl,ae.of (rb.tj.sb _ _ rb.sl),gt,(a s).sd,_,rfl,bU (rb.tj.at_ yr.sd) rfl,zz2,λpp R9=>?_⟩;have s7:=(aI.refl H6).new (o:=.tup [.int 1,.int 1]) R9;have opv:=yr.pv;rw[up]at opv;exact Ge (p:=some (1,1)) (opv.mono (rb.tj.sb.trans s7)) ⟨pp,rfl,aA⟩ ⟨_,rfl,dX ⟨_,B,Ep,tA,pA,L',ρ,v,ks,kl,Lb,G',rfl,rb.same s7⟩⟩
    exact eZ h3 (dX ⟨_,B,Ep,tA,pA,L',ρ,v,ks,kl,Lb,G',rfl,rb⟩)
   exact XW hk (dX ⟨_,B,Ep,tA,pA,L',ρ,v,ks,kl,Lb,G',rfl,rb⟩)
  rintro σ H3 ⟨v8,B,Ep,tA,pA,L',ρ,v,ks,kl,Lb,G',rfl,rb⟩;exact⟨_,_,_,_,B,Ep,tA,pA,Lb,ρ,v,ks,kl,_,G',_,_,rfl,rb.done tk⟩
 rintro σ H1 ⟨v5,v6,v7,v8,B',Ep',Sx,Sy,L',ρ',v',w8,kl',fK,G',qQ,BY,rfl,rn'⟩;exact q B' H1 Ep' Sx Sy L' ρ' v' w8 kl' fK G' qQ BY rn'
theorem Tj.start{x t p:Nat->Addr}(r:Addr->Nat)(rx:∀s,s<2->r (x s)=10+s)(rt:∀s,s<2->r (t s)=20+s)(rp:∀s,s<2->r (p s)=30+s)(lk:∀s,s<2->bh C (λ_=>none) H (x s) (t s) (p s) (L s))(le:∀s,s<2->(L s).ev=[]/\(L s).cE=[]/\(L s).p=none)(hn:∀a o,100<=r a->H a=some o->fq o):
  Tj C (λa=>if r a=0 then H a else none) H (λi a=>if r a=100+i then H a else none) x t p L (λa=>if 100<=r a then 100 else r a):=by
 have sb:aI (λa=>if r a=0 then H a else none) H:=λa o e=>by
  have e:(if r a=0 then H a else none)=some o:=e;split at e
  ·exact e
  cases e
 have ep:∀{i:Nat}{a:Addr},(λi a=>if r a=100+i then H a else none) i a≠none->r a=100+i:=λ{i a} h=>Classical.byContradiction λz=>h (if_neg z);have ej:∀{a:Addr}{o:HO},jn (λi a=>if r a=100+i then H a else none) a=some o->100<=r a/\H a=some o:=λ{a o} h=>by obtain⟨i,e⟩:=U4 h;have z:=ep (i:=i) (a:=a) (λy=>by have y:(if r a=100+i then H a else none)=none:=y;rw[y]at e;cases e);have e:(if r a=100+i then H a else none)=some o:=e;rw[if_pos z]at e;exact⟨by lia,e⟩
 refine⟨⟨sb,λs hs=>?_,λs hs=>?_,λs hs=>?_,λs hs=>?_,λa o e=>(ej e).2,λa h=>?_,λa h=>?_,λa o e=>hn a o (ej e).1 (ej e).2⟩,λi j a h1 h2=>by have:=ep h1;have:=ep h2;lia⟩
 ·have l:=lk s hs;obtain⟨q1,q2,q3⟩:=le s hs;obtain⟨dx,pv,g,gp⟩:=l.at_;obtain⟨iA,g2,FA⟩:=l.told;obtain⟨fJ,g3,Ah⟩:=l.cE;refine⟨sb,if_neg (by rw[rx s hs];lia),if_neg (by rw[rt s hs];lia),if_neg (by rw[rp s hs];lia),⟨dx,pv,g,?_⟩,⟨iA,g2,λy e he=>by rw[q1]at he;cases he⟩,⟨fJ,g3,λy e he=>by rw[q2]at he;cases he⟩,l.ne⟩;rw[q3]at gp ⊢;exact gp
 ·show(if 100<=r (x s)then 100 else r (x s))=_;rw[rx s hs,if_neg (by lia)]
 ·show(if 100<=r (t s)then 100 else r (t s))=_;rw[rt s hs,if_neg (by lia)]
 ·show(if 100<=r (p s)then 100 else r (p s))=_;rw[rp s hs,if_neg (by lia)]
 ·obtain⟨o,e⟩:=wR h;have:=(ej e).1;exact if_neg (by lia)
 obtain⟨o,e⟩:=wR h;exact if_pos (ej e).1
def A3:List Addr->List Nat->Addr->Nat
 |b::bs,c::cs,a=>if a=b then c else A3 bs cs a
 |_,_,_=>0
theorem P7:∀{l:List Addr}{cs:List Nat},l.Nodup->∀(k:Nat){a:Addr}{c:Nat},l[k]?=some a->cs[k]?=some c->A3 l cs a=c
 |b::bs,d::cs,nd,0,a,c,h1,h2=>by cases h1;cases h2;exact if_pos rfl
 |b::bs,d::cs,nd,k+1,a,c,h1,h2=>by have h1:bs[k]?=some a:=h1;have h2:cs[k]?=some c:=h2;have nd:=List.nodup_cons.mp nd;show(if a=b then d else A3 bs cs a)=c;rw[if_neg (λz=>nd.1 (by rw[<-z];exact mem_of_getElem? h1))];exact P7 nd.2 k h1 h2
 |[],_,_,k,a,c,h1,_=>by cases h1
 |_::_,[],_,k,a,c,_,h2=>by cases h2
theorem JX:∀{l:List Addr}{cs:List Nat}{a:Addr},A3 l cs a≠0->∃(k:Nat)(c:Nat),l[k]?=some a/\cs[k]?=some c
 |b::bs,d::cs,a,h=>by
  by_cases z:a=b
  ·exact⟨0,d,by rw[z];rfl,rfl⟩
  have h:(if a=b then d else A3 bs cs a)≠0:=h;rw[if_neg z]at h;obtain⟨k,c,h1,h2⟩:=JX h;exact⟨k+1,c,h1,h2⟩
 |[],_,_,h=>absurd rfl h
 |_::_,[],_,h=>absurd rfl h
def xn(x t p:Addr)(a:Ax):List Addr:=[a.pd,a.tk,a.cm,a.hl,a.fl,a.d,a.dy,a.y,p,t,x,a.sd]
def nj(s:Nat):List Nat:=[108+s,106+s,104+s,0,0,100+s,100+s,100+s,30+s,20+s,10+s,102+s]
def qe(x t p:Nat->Addr)(a:Nat->Ax)(D:Addr):Nat->List Addr
 |0=>[D]
 |i+1=>xn (x i) (t i) (p i) (a i)++qe x t p a D i
theorem P8{x t p x' t' p':Nat->Addr}{a a':Nat->Ax}{D:Addr}:∀{i:Nat},(∀s,s<i->x' s=x s/\t' s=t s/\p' s=p s/\a' s=a s)->qe x' t' p' a' D i=qe x t p a D i
 |0,_=>rfl
 |i+1,h=>by obtain⟨e1,e2,e3,e4⟩:=h i (lt_succ_self _);show xn (x' i) (t' i) (p' i) (a' i)++qe x' t' p' a' D i=_;rw[P8 λs hs=>h s (Nat.lt_succ_of_lt hs),e1,e2,e3,e4];rfl
theorem VH{x t p:Nat->Addr}{a:Nat->Ax}{D:Addr}:∀{i:Nat},D∈qe x t p a D i
 |0=>mem_singleton.mpr rfl
 |i+1=>mem_append_right _ VH
theorem P9{x t p:Nat->Addr}{a:Nat->Ax}{D:Addr}:∀{i:Nat},(qe x t p a D i).Nodup->∀s,s<i->∀b∈xn (x s) (t s) (p s) (a s),b≠D
 |0,_,s,hs=>absurd hs (not_lt_zero _)
 |i+1,nd,s,hs=>λb hb=>by
  obtain⟨n1,n2,n3⟩:=List.nodup_append.mp nd;by_cases z:s=i
  ·subst z;exact n3 b hb D VH
  exact P9 n2 s (by lia) b hb
structure S0(K:W.Frag)(C CA:Addr)(cr db n:Nat)(kk:Option Bool)(side:Int)(F:List Ft)(H:Hp)(x t p:Addr)(a:Ax):Prop where
 lk:bh C (λ_=>none) H x t p (qa ((cr:Int)+(db:Int)) side)
 y:H a.y=some (.ins CA a.dy [("late",.int (cr:Int)),("asked",.int 0),("coming",.ref a.d)])
 dy:H a.dy=some (.own a.y)
 d:H a.d=some (.dK [])
 sd:H a.sd=some (.dK (stK kk x a.y .bw 0 0 a.fl a.hl a.cm a.tk a.pd))
 fl:gN K H a.fl F
 hl:H a.hl=some (.lst (bW n λj=>.bl (bF F j)))
 cm:H a.cm=some (.lst [])
 tk:H a.tk=some (.dT [])
 pd:H a.pd=some (.dT [])
section
variable{cr n:Nat}{side:Int}{F:List Ft}{x t p D:Addr}{a:Ax}{o:HO}
theorem S0.same(h:S0 K C CA cr db n kk side F H x t p a)(s:aI H H'):S0 K C CA cr db n kk side F H' x t p a :=
 ⟨h.lk.same s,s _ _ h.y,s _ _ h.dy,s _ _ h.d,s _ _ h.sd,h.fl.same s,s _ _ h.hl,s _ _ h.cm,s _ _ h.tk,s _ _ h.pd⟩
theorem S0.put(h:S0 K C CA cr db n kk side F H x t p a)(hd:∀b∈xn x t p a,b≠D)(hn:∀u,H D=some u->fq u):S0 K C CA cr db n kk side F (dl H D o) x t p a:=by have e:∀b,b∈xn x t p a->(dl H D o) b=H b:=λb hb=>aE (hd b hb);have i:∀{b:Addr},b∈xn x t p a->(dl H D o) b=H b:=λ{b} hb=>e b hb;refine⟨P2 h.lk (λ_=>rfl) (i (by simp[xn])) (i (by simp[xn])) (i (by simp[xn])),(i (by simp[xn])).trans h.y,(i (by simp[xn])).trans h.dy,(i (by simp[xn])).trans h.d,(i (by simp[xn])).trans h.sd,h.fl.keep (λb u eb no=>?_) (i (by simp[xn])),(i (by simp[xn])).trans h.hl,(i (by simp[xn])).trans h.cm,(i (by simp[xn])).trans h.tk,(i (by simp[xn])).trans h.pd⟩;rw[aE (λz=>no (hn u (by rw[<-z];exact eb)))];exact eb
theorem S0.nn(h:S0 K C CA cr db n kk side F H x t p a):NN H (xn x t p a):=by
 obtain⟨nW,f1,_⟩:=h.fl;intro b hb;simp only[xn,mem_cons,not_mem_nil,or_false]at hb;rcases hb with rfl|rfl|rfl|rfl|rfl|rfl|rfl|rfl|rfl|rfl|rfl|rfl
 ·exact aT h.pd
 ·exact aT h.tk
 ·exact aT h.cm
 ·exact aT h.hl
 ·exact aT f1
 ·exact aT h.d
 ·exact aT h.dy
 ·exact aT h.y
 ·exact h.lk.hp
 ·exact h.lk.ht
 ·exact h.lk.hx
 exact aT h.sd
end
def v0x:Vx:=⟨.bw,0,0,λ_=>0,[],λ_=>0,[],λ_=>0⟩
def g0x:Gh:=⟨λ_ _=>[],λ_ _=>0,λ_ _=>0,λ_ _=>False⟩
theorem Rn.start{K:W.Frag}{C CA:Addr}{q cr db n M:Nat}{kp:Bool}{F:Nat->List Ft}{x t p:Nat->Addr}{a:Nat->Ax}{ma sl:Addr}{H:Hp}(wh:Wh q cr db n M kp F)(nd:(qe x t p a sl 2).Nodup)(h:∀s,s<2->S0 K C CA cr db n (TQ kp s) (s:Int) (F s) H (x s) (t s) (p s) (a s))(K5:cT K H ma [.int (cr:Int),.int (db:Int)])(Xp:H sl=some (.lst [.ref (a 0).sd,.ref (a 1).sd])):
  ∃B Ep ρ,Rn K C CA q cr db n M kp F x a ma sl 0 B H Ep t p (PQ (qa (q:Int) 0) (qa (q:Int) 1)) ρ (λ_=>v0x) (λ_=>[]) (λ_ _=>0) (λ_ _=>[]) g0x (λ_=>-1) (λ_=>0):=by
 have hq:(cr:Int)+(db:Int)=(q:Int):=by have:=wh.hq;lia
 have at_:∀(k:Nat){b:Addr}{c:Nat},(qe x t p a sl 2)[k]?=some b->(nj 1++(nj 0++[0]))[k]?=some c->A3 (qe x t p a sl 2) (nj 1++(nj 0++[0])) b=c:=λk {b c} h1 h2=>P7 nd k h1 h2;have kind:∀b u,100<=A3 (qe x t p a sl 2) (nj 1++(nj 0++[0])) b->H b=some u->fq u:=by
  intro b u hb hu;obtain⟨k,c,k1,k2⟩:=JX (l:=qe x t p a sl 2) (cs:=nj 1++(nj 0++[0])) (a:=b) (by lia);have ec:=at_ k k1 k2;rw[ec]at hb;have g:∀{b':Addr}{u':HO},b'=b->H b'=some u'->fq u'->fq u:=λ{b' u'} e1 e2 e3=>by rw[e1,hu]at e2;cases e2;exact e3
  have h0:=h 0 (by decide);have h1:=h 1 (by decide)
  match k,k1,k2 with
  |0,k1,_=>exact g (Option.some.inj k1) h1.pd (tS _)
  |1,k1,_=>exact g (Option.some.inj k1) h1.tk (tS _)
  |2,k1,_=>exact g (Option.some.inj k1) h1.cm (cX _)
  |3,_,k2=>cases k2;exact absurd hb (by decide)
  |4,_,k2=>cases k2;exact absurd hb (by decide)
  |5,k1,_=>exact g (Option.some.inj k1) h1.d (fc _)
  |6,k1,_=>exact g (Option.some.inj k1) h1.dy ⟨(λ_ z=>by cases z),(λ_ _ z=>by cases z)⟩
  |7,k1,_=>exact g (Option.some.inj k1) h1.y ⟨(λ_ z=>by cases z),(λ_ _ z=>by cases z)⟩
  |8,_,k2=>cases k2;exact absurd hb (by decide)
  |9,_,k2=>cases k2;exact absurd hb (by decide)
  |10,_,k2=>cases k2;exact absurd hb (by decide)
  |11,k1,_=>exact g (Option.some.inj k1) h1.sd (fc _)
  |12,k1,_=>exact g (Option.some.inj k1) h0.pd (tS _)
  |13,k1,_=>exact g (Option.some.inj k1) h0.tk (tS _)
  |14,k1,_=>exact g (Option.some.inj k1) h0.cm (cX _)
  |15,_,k2=>cases k2;exact absurd hb (by decide)
  |16,_,k2=>cases k2;exact absurd hb (by decide)
  |17,k1,_=>exact g (Option.some.inj k1) h0.d (fc _)
  |18,k1,_=>exact g (Option.some.inj k1) h0.dy ⟨(λ_ z=>by cases z),(λ_ _ z=>by cases z)⟩
  |19,k1,_=>exact g (Option.some.inj k1) h0.y ⟨(λ_ z=>by cases z),(λ_ _ z=>by cases z)⟩
  |20,_,k2=>cases k2;exact absurd hb (by decide)
  |21,_,k2=>cases k2;exact absurd hb (by decide)
  |22,_,k2=>cases k2;exact absurd hb (by decide)
  |23,k1,_=>exact g (Option.some.inj k1) h0.sd (fc _)
  |24,_,k2=>cases k2;exact absurd hb (by decide)
  |k+25,_,k2=>cases k2
 have cx:∀s,s<2->A3 (qe x t p a sl 2) (nj 1++(nj 0++[0])) (x s)=10+s:=bI (at_ 22 rfl rfl) (at_ 10 rfl rfl);have ct:∀s,s<2->A3 (qe x t p a sl 2) (nj 1++(nj 0++[0])) (t s)=20+s:=bI (at_ 21 rfl rfl) (at_ 9 rfl rfl);have cp:∀s,s<2->A3 (qe x t p a sl 2) (nj 1++(nj 0++[0])) (p s)=30+s:=bI (at_ 20 rfl rfl) (at_ 8 rfl rfl);have csd:∀s,s<2->A3 (qe x t p a sl 2) (nj 1++(nj 0++[0])) (a s).sd=100+(2+s):=bI (at_ 23 rfl rfl) (at_ 11 rfl rfl);have ccm:∀s,s<2->A3 (qe x t p a sl 2) (nj 1++(nj 0++[0])) (a s).cm=100+(4+s):=bI (at_ 14 rfl rfl) (at_ 2 rfl rfl);have ctk:∀s,s<2->A3 (qe x t p a sl 2) (nj 1++(nj 0++[0])) (a s).tk=100+(6+s):=bI (at_ 13 rfl rfl) (at_ 1 rfl rfl);have cpd:∀s,s<2->A3 (qe x t p a sl 2) (nj 1++(nj 0++[0])) (a s).pd=100+(8+s):=bI (at_ 12 rfl rfl) (at_ 0 rfl rfl);have cy:∀s,s<2->A3 (qe x t p a sl 2) (nj 1++(nj 0++[0])) (a s).y=100+s:=bI (at_ 19 rfl rfl) (at_ 7 rfl rfl);have cdy:∀s,s<2->A3 (qe x t p a sl 2) (nj 1++(nj 0++[0])) (a s).dy=100+s:=bI (at_ 18 rfl rfl) (at_ 6 rfl rfl);have cd:∀s,s<2->A3 (qe x t p a sl 2) (nj 1++(nj 0++[0])) (a s).d=100+s:=bI (at_ 17 rfl rfl) (at_ 5 rfl rfl);have chl:∀s,s<2->A3 (qe x t p a sl 2) (nj 1++(nj 0++[0])) (a s).hl=0:=bI (at_ 15 rfl rfl) (at_ 3 rfl rfl);have cfl:∀s,s<2->A3 (qe x t p a sl 2) (nj 1++(nj 0++[0])) (a s).fl=0:=bI (at_ 16 rfl rfl) (at_ 4 rfl rfl);have csl:A3 (qe x t p a sl 2) (nj 1++(nj 0++[0])) sl=0:=at_ 24 rfl rfl;have kx:∀b u,A3 (qe x t p a sl 2) (nj 1++(nj 0++[0])) b≠0->H b=some u->fq u:=by
  intro b u hb hu;by_cases z:100<=A3 (qe x t p a sl 2) (nj 1++(nj 0++[0])) b
  ·exact kind b u z hu
  obtain⟨k,c,k1,k2⟩:=JX hb;have ec:=at_ k k1 k2;rw[ec]at hb z;have g:∀{b':Addr}{u':HO},b'=b->H b'=some u'->fq u'->fq u:=λ{b' u'} e1 e2 e3=>by rw[e1,hu]at e2;cases e2;exact e3
  have lx:∀s,s<2->x s=b->fq u:=λs hs e=>by obtain⟨dx,pv,g1,_⟩:=(h s hs).lk.at_;exact g e g1 ⟨(λ_ z=>by cases z),(λ_ _ z=>by cases z)⟩
  have lt:∀s,s<2->t s=b->fq u:=λs hs e=>by obtain⟨_,g1,_⟩:=(h s hs).lk.told;exact g e g1 (cX _)
  have lp:∀s,s<2->p s=b->fq u:=λs hs e=>by obtain⟨_,g1,_⟩:=(h s hs).lk.cE;exact g e g1 (cX _)
  match k,k1,k2 with
  |0,_,k2=>cases k2;exact absurd (by decide) z
  |1,_,k2=>cases k2;exact absurd (by decide) z
  |2,_,k2=>cases k2;exact absurd (by decide) z
  |3,_,k2=>cases k2;exact absurd rfl hb
  |4,_,k2=>cases k2;exact absurd rfl hb
  |5,_,k2=>cases k2;exact absurd (by decide) z
  |6,_,k2=>cases k2;exact absurd (by decide) z
  |7,_,k2=>cases k2;exact absurd (by decide) z
  |8,k1,_=>exact lp 1 (by decide) (Option.some.inj k1)
  |9,k1,_=>exact lt 1 (by decide) (Option.some.inj k1)
  |10,k1,_=>exact lx 1 (by decide) (Option.some.inj k1)
  |11,_,k2=>cases k2;exact absurd (by decide) z
  |12,_,k2=>cases k2;exact absurd (by decide) z
  |13,_,k2=>cases k2;exact absurd (by decide) z
  |14,_,k2=>cases k2;exact absurd (by decide) z
  |15,_,k2=>cases k2;exact absurd rfl hb
  |16,_,k2=>cases k2;exact absurd rfl hb
  |17,_,k2=>cases k2;exact absurd (by decide) z
  |18,_,k2=>cases k2;exact absurd (by decide) z
  |19,_,k2=>cases k2;exact absurd (by decide) z
  |20,k1,_=>exact lp 0 (by decide) (Option.some.inj k1)
  |21,k1,_=>exact lt 0 (by decide) (Option.some.inj k1)
  |22,k1,_=>exact lx 0 (by decide) (Option.some.inj k1)
  |23,_,k2=>cases k2;exact absurd (by decide) z
  |24,_,k2=>cases k2;exact absurd rfl hb
  |k+25,_,k2=>cases k2
 clear at_;generalize A3 (qe x t p a sl 2) (nj 1++(nj 0++[0]))=r at *;have L0:∀s,s<2->PQ (qa (q:Int) 0) (qa (q:Int) 1) s=qa (q:Int) (s:Int):=bI rfl rfl;have tj:=Tj.start (C:=C) (L:=PQ (qa (q:Int) 0) (qa (q:Int) 1)) r cx ct cp (λs hs=>by rw[L0 s hs,<-hq];exact(h s hs).lk) (λs hs=>by rw[L0 s hs];exact⟨rfl,rfl,rfl⟩) kind;have eb:∀{b:Addr}{o:HO},r b=0->H b=some o->(if r b=0 then H b else none)=some o:=λ{b o} h1 h2=>by rw[if_pos h1];exact h2
 have ee:∀{i:Nat}{b:Addr}{o:HO},r b=100+i->H b=some o->(if r b=100+i then H b else none)=some o:=λ{i b o} h1 h2=>by rw[if_pos h1];exact h2
 have tup:∀b o,H b=some o->¬fq o->(λa=>if r a=0 then H a else none) b=some o:=λb o h1 h2=>eb (Classical.byContradiction λz=>h2 (kx b o z h1)) h1;refine⟨_,_,_,tj,zX.start wh,λs hs=>?_,λ_ _=>rfl,λs hs=>?_,λ_ _=>le_refl _,λ_ _=>le_refl _,λ_ _=>le_refl _,λs hs j hj=>absurd hj (not_lt_zero _),rj K5 tup,eb csl Xp⟩
 ·have zP:=h s hs;refine⟨ee (csd s hs) zP.sd,by rw[L0 s hs];rfl,zP.fl.keep tup (if_pos (cfl s hs)),eb (chl s hs) zP.hl,ee (ccm s hs) zP.cm,⟨ee (ctk s hs) zP.tk,λP hP=>(by cases hP),λP hP=>(by cases hP)⟩,⟨ee (cpd s hs) zP.pd,λP hP=>(by cases hP),λP hP=>(by cases hP)⟩,λP=>⟨λhP=>(by cases hP),λhP=>False.elim hP⟩,λP=>⟨λhP=>(by cases hP),λhP=>False.elim hP⟩⟩
 have zP:=h s hs;exact⟨⟨0,ee (cy s hs) zP.y⟩,ee (cdy s hs) zP.dy,ee (cd s hs) zP.d,List.nodup_nil,λk hk=>(by cases hk),λk hk=>(by cases hk),λk hk=>(by cases hk),λ_ _ _=>rfl⟩
theorem Kept.ends{F:List Ft}(h:Kept db F)(n:Nat):Kept db ((F++List.replicate n wZ).take n):=λi=>by
 rw[List.take_take];cases n with
 |zero=>rw[Nat.min_zero];exact zero_le _
 |succ n =>
  have k:Kept db (wZ::List.replicate n wZ):=Gs λfs hx=>by
   rcases mem_cons.mp hx with rfl|hx
   ·rfl
   rw[List.eq_of_mem_replicate hx];rfl
  exact h.cat k Pl _
theorem QA{F:List Ft}(n:Nat):((F++List.replicate n wZ).take n).length=n:=by rw[length_take,length_append,length_replicate];lia
theorem TV{F:List Ft}(h:∀fs∈F,KF cr fs)(h1:1<=cr)(n:Nat):∀fs∈(F++List.replicate n wZ).take n,KF cr fs:=λfs hx=>by
 rcases mem_append.mp (List.mem_of_mem_take hx)with z|z
 ·exact h fs z
 rw[List.eq_of_mem_replicate z];exact .inr (.inr ⟨1,Int.le_refl _,h1,rfl⟩)
theorem mK:aS ["script","late","lost","measure","built","last","ticks","states","kept","side"] ["script"] (aG C5):=ac
set_option maxHeartbeats 0 in
theorem XY{f:Addr}(T:Txt K mg t)(F:jz K "law" "law" C5 f fd)(dQ:Def P w K mg base 1 "_law_cell_at" ["script","k"] (jN K))(dc:Def P w K mg base 2 "_law_drawn" ["cell","bounds"] (mG K))(o6:Def P w K mg base 3 "_law_fates" ["script","late","lost","side"] (uF K))(o7:Def P w K mg base 6 "_law_state" ["measure","side","fates","ticks"] (uJ K t.LinkEnd t.Air))(uj:Def P w K mg base 13 "_law_run" ["states","measure","ticks","last"] (yt K t.LinkEnd t.Air))(tV:b7 P w K mg base (iE P w) 1 t.tM fdw ["self"] (Al t.LinkEnd))(tW:Binds K fdw ["self"] []):b7 P w K mg base (iE P w) 14 f fd ["script"] (Cw K):=by
 refine F.Fc mK (λvs H Q E h=>?_) (λf cB A outer s H vs Q E hr h=>?_)
 ·obtain⟨a,ns,rfl,_⟩:=h;rfl
 obtain⟨sc,ns,rfl,hS,jp,q⟩:=h;refine⟨_,aC (oB (aY (dc.mono (by decide)) hr av (aB (aY (dQ.mono (by decide)) hr av (aB (pv 0) (aB aH aD))) (aB (ba (aB aH (aB aH aD))) aD))) (Kh K rfl (eN (au (i:=1) mK.nd rfl (Or.inr rfl)) (eN (au (i:=2) mK.nd rfl (Or.inr rfl)) zM))))
  (aC (aX (i:=3) mK.nd rfl (Or.inr rfl) (gT (aB (aQ bK (pv 1) aH) (aB (pv 2) aD))))
  (aC (aX (i:=4) mK.nd rfl (Or.inr rfl) (jf rfl (Nc:=["side","script","late","lost"]) (ix:=[none,some 0,some 1,some 2]) (cW (aG C5) ["script","late","lost","measure","built","last","ticks","states","kept","side"] rfl rfl (by decide +kernel)) (dH (by rfl) T.eF (aB aH aD)) (λC fp s H=>⟨(au (i:=0) (show(["side","script","late","lost"]:List Str).Nodup by decide +kernel) rfl (Or.inl rfl)),cH,(aY (o6.mono (by decide)) hr av (aB (pv 1) (aB (aQ bK (pv 2) aH) (aB (pv 3) (aB (pv 0) aD)))))⟩)))
  (aC (aX (i:=5) mK.nd rfl (Or.inl rfl) (bP (LX rfl) (by rfl) T.Zn boot_max (aB (bP (bY K) (by rfl) T.gI boot_len (aB (ai (bR K) (ai (aV K) (pv 4) aH (λ_ _=>rfl)) aH (λ_ _=>rfl)) aD)) (aB (bP (bY K) (by rfl) T.gI boot_len (aB (ai (bR K) (ai (aV K) (pv 4) aH (λ_ _=>rfl)) aH (λ_ _=>rfl)) aD)) aD))))
  (aC (aX (i:=6) mK.nd rfl (Or.inr rfl) (aQ bK (aQ bK (pv 5) (aQ eQ aH (aQ bK (aQ bK (pv 1) aH) (pv 2)))) aH))
  (aC (j9 (i:=7) mK.nd rfl (Or.inl rfl) rfl (Nc:=["side","measure","built","ticks"]) (ix:=[none,some 3,some 4,some 6]) (cW (aG C5) ["script","late","lost","measure","built","last","ticks","states","kept","side"] rfl rfl (by decide +kernel)) (dH (by rfl) T.eF (aB aH aD)) (λC fp s H=>⟨(au (i:=0) (show(["side","measure","built","ticks"]:List Str).Nodup by decide +kernel) rfl (Or.inl rfl)),cH,(aY (o7.mono (by decide)) hr av (aB (pv 1) (aB (pv 0) (aB (ai (bR K) (ai (aV K) (pv 2) (pv 0) (λ_ _=>rfl)) aH (λ_ _=>rfl)) (aB (pv 3) aD)))))⟩))
  (aC (l8 (aX (i:=8) mK.nd rfl (Or.inl rfl) (zc (ai (bR K) (ai (aV K) (pv 4) aH (λ_ _=>rfl)) aH (λ_ _=>rfl)) (xA (ai (bR K) (ai (aV K) (pv 4) aH (λ_ _=>rfl)) aH (λ_ _=>rfl))))))
  (aC (lV (bG hr) (ai (aV K) (pv 7) aH (λ_ _=>rfl)) aU (pv 8) (by rfl))
  (aC (bO (fh (jJ (aY (uj.mono (by decide)) hr av (aB (pv 7) (aB (pv 3) (aB (pv 6) (aB (pv 5) aD)))))))
   (aF (ah d9))
   (aj))
  (aC (bO (fh (jJ (pv 8)))
   (aF (ah d9))
   (aj))
  (aC (PS.Ck (cO PassesOwn.never rfl (dH (by rfl) T.eF (aB aH aD)) (au (i:=9) mK.nd rfl (Or.inl rfl))
   (aF (bO (PW.pt (zb (aZ (Ke K (Fd hr)) (ay (bG hr) (ay (bG hr) (ai (aV K) (pv 7) (pv 9) (λ_ _=>rfl)) aU (λ_ _=>rfl)) (gT (aB aH (aB aH aD))) (λ_ _=>rfl)) (ay (bG hr) (ay (bG hr) (ai (aV K) (pv 7) (aQ dv aH (pv 9)) (λ_ _=>rfl)) aU (λ_ _=>rfl)) (gT (aB aH (aB aH aD))) (λ_ _=>rfl)) (af _)) (uK (aZ vq (dh (ay (bG hr) (ai (aV K) (pv 7) (pv 9) (λ_ _=>rfl)) aU (λ_ _=>rfl)) T.aM T.F8 (tV.mono (by decide)) hr tW .nil av) aH (af _)))))
    (aF (ah d9))
    (aj)))))
  (aF (ah d9)))))))))))),?_⟩
 have hsz:(5000:Nat)<=sizeLine:=by decide
 refine⟨_,rfl,sc,ns,0,rfl,hS,by decide,λc=>?_⟩;refine⟨zz2,λl0 V1=>?_⟩;have s0:=(aI.refl H).new (o:=.lst [.int 6,.int 5]) V1;refine⟨c,l0,[6,5],rfl,ae.of aA,by decide,by decide,λr0 H1 ms s1 n1 e1 dr=>?_⟩;obtain⟨m0,m1,rfl⟩:∃m0 m1,ms=[m0,m1]:=by
  have:=dr.1
  match ms,this with
  |[m0,m1],_=>exact⟨m0,m1,rfl⟩
 have b0:=dr.2 0 m0 6 rfl rfl;have b1:=dr.2 1 m1 5 rfl rfl;obtain⟨k0,rfl⟩:∃k:Nat,m0=(k:Int):=⟨m0.toNat,by lia⟩;obtain⟨db,rfl⟩:∃k:Nat,m1=(k:Int):=⟨m1.toNat,by lia⟩;refine⟨r0,_,rfl,ae.of e1,rfl,_,_,rfl,_,_,rfl,rfl,?_⟩;have s01:=s0.trans s1;clear s0 s1 n1 e1 dr V1;generalize eI:k0+1=cr;have hli:(k0:Int)+1=(cr:Int):=by lia
 refine⟨_,rfl,_,_,rfl,rfl,_,rfl,zz2,λma K5=>?_⟩;dsimp only;rw[hli];have s2:=(aI.refl H1).new (o:=.tup [.int (cr:Int),.int (db:Int)]) K5;have e2:(dl H1 ma (.tup [.int (cr:Int),.int (db:Int)])) ma=some (.tup [.int (cr:Int),.int (db:Int)]):=aA;generalize dl H1 ma (.tup [.int (cr:Int),.int (db:Int)])=H2 at *;have X4:=s01.trans s2;have l1:(1:Int)<=(cr:Int):=by lia
 have l6:(cr:Int)<=6:=by lia
 refine⟨2,rfl,by decide,by decide,λbl Xq=>?_⟩;refine m9 (lo:=0) (n:=2) (λi σ H'=>(∃v,σ=[v,some (.ref sc),some (.int (k0:Int)),some (.int (db:Int))])/\aI H2 H'/\∃(bA fl:Nat->Addr)(F:Nat->List Ft)(kp:Nat->Bool),H' bl=some (.lst (bB i bA))/\∀s,s<i->H' (bA s)=some (.tup [.ref (fl s),.bl (kp s)])/\fl s≠bl/\gN K H' (fl s) (F s)/\(∀fs∈F s,KF (cr:Int) fs)/\(kp s=true->Kept db (F s))/\(F s).length<=100)
  ⟨⟨none,rfl⟩,(aI.refl _).new Xq,λ_=>0,λ_=>0,λ_=>[],λ_=>false,aA,λs hs=>absurd hs (not_lt_zero _)⟩ ?_ ?_
 ·rintro i σ H' N hN hi ⟨⟨v,rfl⟩,s3,bA,fl,F,kp,w1,w2⟩;rw[show(0:Int)+(i:Nat)=(i:Int) by lia];refine dF ?_;refine⟨_,rfl,_,rfl,_,_,rfl,rfl,_,rfl,_,rfl,sc,ns,(k0:Int)+1,db,i,rfl,(X4.trans s3).seq hS,jp,by lia,by lia,by lia,hi,λr f1 H4 F1 kp1 s4 nr nf er hF LF hkp YC=>?_⟩;rw[hli]at LF;have VG:=s4 _ _ w1;have nrb:r≠bl:=λz=>by rw[z,w1]at nr;cases nr
  have nfb:f1≠bl:=λz=>by rw[z,w1]at nf;cases nf
  refine⟨_,VG,by rw[aL];lia,hN _ _ ⟨⟨_,rfl⟩,(s3.trans s4).put Xq,ii bA i r,ii fl i f1,ii F i F1,ii kp i kp1,by rw[aA,dM];rfl,λs hs=>?_⟩⟩;have kk:∀b u,H4 b=some u->¬fq u->(dl H4 bl (.lst (bB i bA++[.ref r]))) b=some u:=λb u e no=>by rw[aE (λz=>by rw[z,VG]at e;cases e;exact no (cX _))];exact e
  by_cases z:s=i
  ·rw[z,aJ,aJ,aJ,aJ];exact⟨by rw[aE nrb];exact er,nfb,hF.keep kk (aE nfb),LF,hkp,YC⟩
  rw[aN z,aN z,aN z,aN z];obtain⟨g1,g2,g3,g4⟩:=w2 s (by lia);have g1':=s4 _ _ g1;exact⟨by rw[aE (λz=>by rw[z,VG]at g1';cases g1')];exact g1',g2,(g3.same s4).keep kk (aE g2),g4⟩
 rintro σ H3 ⟨⟨v,rfl⟩,s3,bA,fl,F,kp,eb,hb⟩;have e3:=s3 _ _ e2;obtain⟨b01,_,b03,b04,b05,b06⟩:=hb 0 (by decide);obtain⟨b11,_,b13,b14,b15,b16⟩:=hb 1 (by decide);obtain⟨f0s,hf0,_⟩:=id b03;obtain⟨f1s,hf1,_⟩:=id b13;refine⟨_,rfl,bl,_,_,_,rfl,rfl,ae.of eb,rfl,bA 0,_,_,_,rfl,rfl,cT.of b01,rfl,fl 0,_,rfl,.inl (ae.of hf0),?_⟩;refine⟨_,rfl,bl,_,_,_,rfl,rfl,ae.of eb,rfl,bA 1,_,_,_,rfl,rfl,cT.of b11,rfl,fl 1,_,rfl,.inl (ae.of hf1),_,_,rfl,?_⟩;rw[aL,aL];obtain⟨last,VI,V1,U9,aGi⟩:∃last:Nat,(if((F 1).length:Int)>((F 0).length:Int)then((F 1).length:Int)else((F 0).length:Int))=(last:Int)/\(F 0).length<=last/\(F 1).length<=last/\last<=100:=by
  by_cases z:((F 1).length:Int)>((F 0).length:Int)
  ·exact⟨(F 1).length,by rw[if_pos z],by lia,le_refl _,b16⟩
  exact⟨(F 0).length,by rw[if_neg z],le_refl _,by lia,b06⟩
 rw[VI];clear VI hf0 hf1;refine⟨_,rfl,_,rfl,_,_,rfl,rfl,_,rfl,_,_,rfl,rfl,_,_,rfl,rfl,.inl (by decide),_,_,rfl,rfl,_,_,rfl,rfl,?_⟩;obtain⟨qq,hq⟩:∃q:Nat,cr+db=q:=⟨_,rfl⟩;obtain⟨n,hn⟩:∃n:Nat,last+4*qq+4=n:=⟨_,rfl⟩;dsimp only;rw[show(last:Int)+4*((k0:Int)+1+(db:Int))+4=(n:Int) by lia];refine⟨2,rfl,by decide,by decide,λsl Xp=>?_⟩;have hm:Zw (cr:Int) (db:Int):=⟨⟨by lia,by lia⟩,by lia,by lia⟩;refine m9 (lo:=0) (n:=2) (λi σ H'=>(∃v,σ=[v,some (.ref ma),some (.ref bl),some (.int (n:Int))])/\aI H3 H'/\∃(x t' p:Nat->Addr)(a:Nat->Ax),H' sl=some (.lst (bB i λs=>(a s).sd))/\(qe x t' p a sl i).Nodup/\NN H' (qe x t' p a sl i)/\∀s,s<i->S0 K t.LinkEnd t.Air cr db n none (s:Int) ((F s++List.replicate n wZ).take n) H' (x s) (t' s) (p s) (a s))
  ⟨⟨none,rfl⟩,(aI.refl _).new Xp,λ_=>0,λ_=>0,λ_=>0,λ_=>⟨0,0,0,0,0,0,0,0,0⟩,aA,(by simp[qe]:(qe (λ_=>0) (λ_=>0) (λ_=>0) (λ_=>⟨0,0,0,0,0,0,0,0,0⟩) sl 0).Nodup),λb hb=>(by rw[mem_singleton.mp hb,aA];exact λz=>by cases z),λs hs=>absurd hs (not_lt_zero _)⟩ ?_ ?_
 ·rintro i σ H' N hN hi ⟨⟨v,rfl⟩,s4,x,t',p,a,w1,w2,w3,w4⟩;rw[show(0:Int)+(i:Nat)=(i:Int) by lia];obtain⟨bi1,_,bi3,bi4,bi5,bi6⟩:=hb i hi;refine dF ?_;refine⟨_,rfl,_,rfl,_,rfl,_,rfl,bl,_,_,_,rfl,rfl,ae.of (s4 _ _ eb),gU (bu hi),bA i,_,_,_,rfl,rfl,cT.of (s4 _ _ bi1),rfl,_,rfl,?_⟩;refine⟨qe x t' p a sl i,ma,fl i,cr,db,n,(i:Int),F i,rfl,cT.of (s4 _ _ e3),hm,bi3.same s4,bi6,by lia,bi4,w2,w3,λH5 x1 t1 p1 a1 s5 nd lk ey YM ed esd efl ehl ecm etk epd=>?_⟩;have VG:=s5 _ _ w1;have nw:S0 K t.LinkEnd t.Air cr db n none (i:Int) ((F i++List.replicate n wZ).take n) H5 x1 t1 p1 a1:=⟨lk,ey,YM,ed,esd,efl,ehl,ecm,etk,epd⟩;have re:=P8 (x:=x) (t:=t') (p:=p) (a:=a) (x':=ii x i x1) (t':=ii t' i t1) (p':=ii p i p1) (a':=ii a i a1) (D:=sl) (i:=i) λs hs=>⟨aN (by lia),aN (by lia),aN (by lia),aN (by lia)⟩;have e1:qe (ii x i x1) (ii t' i t1) (ii p i p1) (ii a i a1) sl (i+1)=xn x1 t1 p1 a1++qe x t' p a sl i:=by show xn (ii x i x1 i) (ii t' i t1 i) (ii p i p1 i) (ii a i a1 i)++qe (ii x i x1) (ii t' i t1) (ii p i p1) (ii a i a1) sl i=_;rw[re,aJ,aJ,aJ,aJ]
  have nd':(qe (ii x i x1) (ii t' i t1) (ii p i p1) (ii a i a1) sl (i+1)).Nodup:=by rw[e1];exact nd
  have YC:∀u,H5 sl=some u->fq u:=λu hu=>by rw[VG]at hu;cases hu;exact cX _
  have ok:∀s,s<i+1->S0 K t.LinkEnd t.Air cr db n none (s:Int) ((F s++List.replicate n wZ).take n) H5 (ii x i x1 s) (ii t' i t1 s) (ii p i p1 s) (ii a i a1 s):=λs hs=>by
   by_cases z:s=i
   ·rw[z,aJ,aJ,aJ,aJ];exact nw
   rw[aN z,aN z,aN z,aN z];exact(w4 s (by lia)).same s5
  refine⟨_,VG,by rw[aL];lia,hN _ _ ⟨⟨_,rfl⟩,(s4.trans s5).put Xp,ii x i x1,ii t' i t1,ii p i p1,ii a i a1,?_,nd',?_,λs hs=>(ok s hs).put (P9 nd' s hs) YC⟩⟩
  ·rw[aA,dM]
   congr 2
   refine bX λj hj=>?_;show V.ref (if j=i then a1.sd else(a j).sd)=V.ref (ii a i a1 j).sd;by_cases z:j=i
   ·rw[if_pos z,z,aJ]
   rw[if_neg z,aN z]
  refine NN.put λb KY=>?_;rw[e1]at KY;rcases mem_append.mp KY with z|z
  ·exact nw.nn b z
  exact(w3.mono s5) b z
 rintro σ H4 ⟨⟨v,rfl⟩,s4,x,t',p,a,w1,w2,w3,w4⟩;have eb4:=s4 _ _ eb;refine⟨λσ H'=>∃kk:Bool,σ=[some (.ref sc),some (.int (k0:Int)),some (.int (db:Int)),some (.ref ma),some (.ref bl),some (.int (last:Int)),some (.int (n:Int)),some (.ref sl),some (.bl kk),none]/\H'=H4/\(kk=true->kp 0=true/\kp 1=true),?_,?_⟩
 ·refine⟨_,rfl,bl,_,_,_,rfl,rfl,ae.of eb4,rfl,bA 0,_,_,_,rfl,rfl,cT.of (s4 _ _ b01),rfl,kp 0,rfl,?_⟩;by_cases z:kp 0=true
  ·refine XU z ⟨_,rfl,bl,_,_,_,rfl,rfl,ae.of eb4,rfl,bA 1,_,_,_,rfl,rfl,cT.of (s4 _ _ b11),rfl,kp 1,rfl,rfl,λy=>⟨z,y⟩⟩
  exact XW z ⟨false,rfl,rfl,λy=>by cases y⟩
 rintro σ H' ⟨kk,rfl,rfl,hkk⟩;have LM:=w4 0 (by decide);have w41:=w4 1 (by decide);refine⟨_,rfl,_,rfl,sl,_,_,_,rfl,rfl,ae.of w1,rfl,(a 0).sd,_,rfl,mI (k:="kept") (v:=.bl kk) LM.sd (by show 10<sizeLine;decide) (kvs':=stK (some kk) (x 0) (a 0).y .bw 0 0 (a 0).fl (a 0).hl (a 0).cm (a 0).tk (a 0).pd) rfl,?_⟩;have nt0:∀u,H' (a 0).sd=some u->fq u:=λu hu=>by rw[LM.sd]at hu;cases hu;exact fc _
 have sdn:(a 0).sd∈xn (x 0) (t' 0) (p 0) (a 0):=by simp[xn]
 have nd2:(xn (x 1) (t' 1) (p 1) (a 1)++(xn (x 0) (t' 0) (p 0) (a 0)++[sl])).Nodup:=w2;obtain⟨_,aAP,nd3⟩:=List.nodup_append.mp nd2;have S1:=w41.put (D:=(a 0).sd) (o:=.dK (stK (some kk) (x 0) (a 0).y .bw 0 0 (a 0).fl (a 0).hl (a 0).cm (a 0).tk (a 0).pd)) (λb KY=>nd3 b KY (a 0).sd (mem_append_left _ sdn)) nt0;have ndn:(xn (x 0) (t' 0) (p 0) (a 0)).Nodup:=(List.nodup_append.mp aAP).1;have ne0:∀{b:Addr},b∈[(a 0).pd,(a 0).tk,(a 0).cm,(a 0).hl,(a 0).fl,(a 0).d,(a 0).dy,(a 0).y,p 0,t' 0,x 0]->b≠(a 0).sd:=λ{b} KY=>(List.nodup_append.mp (show([(a 0).pd,(a 0).tk,(a 0).cm,(a 0).hl,(a 0).fl,(a 0).d,(a 0).dy,(a 0).y,p 0,t' 0,x 0]++[(a 0).sd]).Nodup from ndn)).2.2 b KY _ (mem_singleton.mpr rfl);have S2:S0 K t.LinkEnd t.Air cr db n (some kk) (0:Int) ((F 0++List.replicate n wZ).take n) (dl H' (a 0).sd (.dK (stK (some kk) (x 0) (a 0).y .bw 0 0 (a 0).fl (a 0).hl (a 0).cm (a 0).tk (a 0).pd))) (x 0) (t' 0) (p 0) (a 0):=by have u:∀{b:Addr},b∈[(a 0).pd,(a 0).tk,(a 0).cm,(a 0).hl,(a 0).fl,(a 0).d,(a 0).dy,(a 0).y,p 0,t' 0,x 0]->(dl H' (a 0).sd (.dK (stK (some kk) (x 0) (a 0).y .bw 0 0 (a 0).fl (a 0).hl (a 0).cm (a 0).tk (a 0).pd))) b=H' b:=λ{b} KY=>aE (ne0 KY);refine⟨P2 LM.lk (λ_=>rfl) (u (by simp)) (u (by simp)) (u (by simp)),(u (by simp)).trans LM.y,(u (by simp)).trans LM.dy,(u (by simp)).trans LM.d,aA,LM.fl.keep (λb v e no=>?_) (u (by simp)),(u (by simp)).trans LM.hl,(u (by simp)).trans LM.cm,(u (by simp)).trans LM.tk,(u (by simp)).trans LM.pd⟩;rw[aE (λz=>no (nt0 v (by rw[<-z];exact e)))];exact e
 have nsl:sl≠(a 0).sd:=λz=>by rw[z,LM.sd]at w1;cases w1
 have aAQ:(dl H' (a 0).sd (.dK (stK (some kk) (x 0) (a 0).y .bw 0 0 (a 0).fl (a 0).hl (a 0).cm (a 0).tk (a 0).pd))) sl=some (.lst [.ref (a 0).sd,.ref (a 1).sd]):=by rw[aE nsl];exact w1
 have aAR:(dl H' (a 0).sd (.dK (stK (some kk) (x 0) (a 0).y .bw 0 0 (a 0).fl (a 0).hl (a 0).cm (a 0).tk (a 0).pd))) ma=some (.tup [.int (cr:Int),.int (db:Int)]):=by rw[aE (λz=>by have:=s4 _ _ e3;rw[z,LM.sd]at this;cases this)];exact s4 _ _ e3
 generalize dl H' (a 0).sd (.dK (stK (some kk) (x 0) (a 0).y .bw 0 0 (a 0).fl (a 0).hl (a 0).cm (a 0).tk (a 0).pd))=H5 at *;obtain⟨M,hM1,hM2,hM3⟩:∃M:Nat,2*qq+1<=M/\last<=M/\M+2*qq<n:=by
  by_cases z:2*qq+1<=last
  ·exact⟨last,z,le_refl _,by lia⟩
  exact⟨2*qq+1,le_refl _,by lia,by lia⟩
 have wh:Wh qq cr db n M kk (λs=>(F s++List.replicate n wZ).take n):=⟨hq,by lia,by lia,by lia,hM1,λs _=>QA n,λs hs=>TV (hb s hs).2.2.2.1 l1 n,λhk s hs=>((hb s hs).2.2.2.2.1 ((bI (hkk hk).1 (hkk hk).2:∀s,s<2->kp s=true) s hs)).ends n⟩;obtain⟨B,Ep,ρ,rn⟩:=Rn.start (C:=t.LinkEnd) (CA:=t.Air) wh w2 (bI S2 S1) (cT.of aAR) aAQ;refine⟨_,rfl,_,rfl,_,rfl,_,rfl,qq,cr,db,n,M,kk,_,x,a,ma,sl,last,B,Ep,t',p,_,ρ,_,_,_,_,_,_,_,rfl,wh,hM2,rn,λB6 H6 Ep6 tA pA L ρ6 v6 ks6 kl6 aGr G6 la6 bg6 VJ=>⟨_,rfl,dX ?_⟩⟩;clear rn S1 S2 w1 w2 w3 w4 LM w41 nd2 aAP nd3 ndn ne0 nt0 aAQ aAR;refine⟨_,rfl,kk,rfl,?_⟩;by_cases hk:kk=true
 ·refine XW (by rw[hk];exact λz=>by cases z) ?_;refine⟨2,rfl,by decide,by decide,?_⟩;refine gE (lo:=0) (n:=2) (λi σ H'=>(∃v9:Option V,σ=[some (.ref sc),some (.int (k0:Int)),some (.int (db:Int)),some (.ref ma),some (.ref bl),some (.int (last:Int)),some (.int (n:Int)),some (.ref sl),some (.bl kk),v9])/\aI H6 H') ⟨⟨none,rfl⟩,aI.refl _⟩ ?_ ?_
  ·rintro s σ H7 hs ⟨⟨v9,rfl⟩,s7⟩;rw[show(0:Int)+(s:Nat)=(s:Int) by lia];have y8:1-s<2:=(by lia);have tj:=VJ.tj.same s7;have g0:∀{H':Hp},aI B6 H'->ae K H' sl [.ref (a 0).sd,.ref (a 1).sd]:=λs'=>ae.of (s' _ _ VJ.sl);have gt:uL [V.ref (a 0).sd,V.ref (a 1).sd] (s:Int)=some (.ref (a s).sd):=Er (f:=λs=>.ref (a s).sd) hs rfl rfl;have gu:uL [V.ref (a 0).sd,V.ref (a 1).sd] (1-(s:Int))=some (.ref (a (1-s)).sd):=LL (f:=λs=>.ref (a s).sd) hs rfl rfl;have yr:=VJ.ok s hs;have Fc:=VJ.ok (1-s) y8;have up0:=VJ.a9.up hk (by lia) hs;have up1:=VJ.a9.up hk (by lia) y8;obtain⟨dn,_⟩:=VJ.a9.done hk hM3 hM1 y8;obtain⟨_,dp⟩:=VJ.a9.done hk hM3 hM1 hs;rw[show 1-(1-s)=s by lia]at dn;have m0:((1,1):Pr)∈(v6 s).ps:=(yr.pu _).mpr up0.2;have m1:((1,1):Pr)∈(v6 (1-s)).qs:=(Fc.qu _).mpr up1.2;obtain⟨fJ,k1,k2⟩:=yr.tk.pc _ m0;obtain⟨pbs,k3,k4⟩:=Fc.pd.pc _ m1;have ew:(G6.W (1-s) (1,1)).take (G6.K s (1,1))=G6.W (1-s) (1,1):=(by rw[dn];exact take_length);rw[ew]at k1 k2;refine⟨_,rfl,_,rfl,sl,_,_,_,rfl,rfl,g0 tj.sb,gt,(a s).sd,_,rfl,bU (tj.at_ yr.sd) rfl,zz2,λp1 EK=>?_⟩;have s8:=(aI.refl H7).new (o:=.tup [.int 1,.int 1]) EK;have tj8:=tj.same s8;refine⟨(a s).tk,_,rfl,Eo (P:=(1,1)) (tj8.at_ yr.tk.at_) aA m0,?_⟩;generalize dl H7 p1 (.tup [.int 1,.int 1])=H8 at *;refine⟨_,rfl,_,rfl,_,_,rfl,rfl,sl,_,_,_,rfl,rfl,g0 tj8.sb,gu,(a (1-s)).sd,_,rfl,bU (tj8.at_ Fc.sd) rfl,zz2,λp2 z9=>?_⟩;have s9:=(aI.refl H8).new (o:=.tup [.int 1,.int 1]) z9;have VL:=tj8.same s9;refine⟨(a (1-s)).pd,_,rfl,Eo (P:=(1,1)) (VL.at_ Fc.pd.at_) aA m1,?_⟩;generalize dl H8 p2 (.tup [.int 1,.int 1])=H9 at *;refine⟨_,_,_,_,rfl,rfl,ae.of (VL.at_ k1),ae.of (VL.at_ k3),.inl ⟨by rw[aL,aL],λj u w hu hw=>?_,_,rfl,dX ?_⟩⟩
   ·obtain⟨hj,rfl⟩:=tab_of hu;obtain⟨_,rfl⟩:=tab_of hw;have ej:(G6.W (1-s) (1,1))[j]?=some (G6.W (1-s) (1,1))[j]:=getElem?_eq_getElem hj;exact .lst (n:=7) (ae.of (VL.sb _ _ (k2 j _ ej))) (ae.of (VL.sb _ _ (k4 j _ ej))) rfl λk a b ha hb=>by rw[ha]at hb;cases hb;obtain⟨z,_,rfl⟩:=jj ha;exact .flat _ rfl
   have lk:=VL.lk hs;obtain⟨dx,_,hx,_⟩:=lk.at_;refine⟨_,rfl,_,rfl,sl,_,_,_,rfl,rfl,g0 VL.sb,gt,(a s).sd,_,rfl,bU (VL.at_ yr.sd) rfl,x s,dx,_,rfl,hx,rfl,B6,x s,tA s,pA s,L s,rfl,lk,rfl,_,rfl,jg (by rw[dp];rfl) ⟨⟨_,rfl⟩,s7.trans (s8.trans s9)⟩⟩
  rintro σ H7 ⟨⟨v9,rfl⟩,s7⟩;exact q _
 exact XU (by rw[Bool.eq_false_iff.mpr hk];rfl) (q _)
theorem TX{f:Addr}(T:Txt K mg t)(F:jz K "law" "law" C5 f fd)(xo:aO K mg "is_sign" tH)(rm:aO K mg "look_sign" lW)(rq:aO K mg "look_unit" lX)(Es:aO K mg "power" zQ)(xq:aO K mg "inverse" tI)(uk:aO K mg "exponent" oK)(uo:aO K mg "equation" kD)(mL:aO K mg "pivot_place" i0)(r6:aO K mg "exchanged" lY)(uq:aO K mg "lessened" kE)(xr:aO K mg "cleared" j4)(A4:aO K mg "solved" nE)(o8:aO K mg "look_signs" jl)(r8:aO K mg "look_cell" lZ)(uu:aO K mg "value_at" oM)(uv:aO K mg "troubles" kF)(r9:aO K mg "is_sealed" lg)(xu:aO K mg "carried" nF)(A5:aO K mg "sealed" qw)(sE:aO K mg "look_late" lh)(kS:aO K mg "look_measure" gY)(o9:aO K mg "look_turns" jm)(sF:aO K mg "look_fate" lj)(A6:aO K mg "is_fit" qx)(uw:aO K mg "quiet_of" oN)(pD:aO K mg "lone_place" jo)(xv:aO K mg "is_root" tJ)(jO:aO K mg "turned_places" di)(uy:aO K mg "turns_at" kG)(A7:aO K mg "mended" wF)(mM:aO K mg "is_readable" i6)(kT:aO K mg "number_signs" gZ)(kU:aO K mg "signs_number" gg)(pE:aO K mg "look_piece" jq)(A8:aO K mg "turned" wG)(xw:aO K mg "is_told" tK)(uz:aO K mg "is_shown" kH)(sG:aO K mg "broken_by" jF)(kX:aO K mg "_law_cell_at" gh)(pF:aO K mg "_law_mixed" jr)(pG:aO K mg "_law_drawn" js)(kY:aO K mg "_law_stretch" eS)(pH:aO K mg "_law_fates" jt)(pI:aO K mg "_law_heard" ju)(pJ:aO K mg "_law_ended" jv)(fN:aO K mg "_law_events_right" dG)(pK:aO K mg "_law_state" jw)(u6:aO K mg "_law_put" oO)(u7:aO K mg "_law_run" oP):b7 P w K mg base (iE P w) 14 f fd ["script"] (Cw K):=by obtain⟨VM,Et⟩:=T.We;obtain⟨aBS,QB⟩:=T.fi;obtain⟨aBT,QC⟩:=T.Wf;obtain⟨aBU,QD⟩:=T.Wg;obtain⟨Mr,wj⟩:=T.y0;obtain⟨aBV,QE⟩:=T.Wi;obtain⟨Qs,A9⟩:=T.D0;obtain⟨aBW,QF⟩:=T.Wj;obtain⟨aBX,QG⟩:=T.Wk;obtain⟨XZ,HJ⟩:=T.MC;obtain⟨YN,JY⟩:=T.Ow;obtain⟨Qt,BA⟩:=T.D8;obtain⟨Qu,BB⟩:=T.EA;obtain⟨Qv,BC⟩:=T.EB;obtain⟨aEk,TY⟩:=T.Zs;obtain⟨aGs,Xa⟩:=T.aDf;obtain⟨aAS,Ms⟩:=T.R6;obtain⟨YO,JZ⟩:=T.Ox;have iM:=IY (P:=P) (w:=w) (base:=base) xo T;have fE:=Bi o8 T iM;have gJ:=ED r8 T fE;have eT:=EF rm T iM;have ll:=EH rq T eT;have fY:=Oz Es T eT;have j6:=Ia xq T ll fY;have uX:=F9 uk T ll;have uU:=GB (P:=P) (w:=w) (base:=base) uu T;have iN:=GG uv T gJ uU fY;have rO:=EJ r9 T iN;have xR:=Ic (P:=P) (w:=w) (base:=base) xu T;have An:=ME A5 T fE xR;have gK:=EN (P:=P) (w:=w) (base:=base) sE T;have kJ:=y3 kS T gK;have uZ:=GI uw T kJ;have uW:=GK (P:=P) (w:=w) (base:=base) uo T;have mB:=AY (P:=P) (w:=w) (base:=base) mL T;have rN:=EO (P:=P) (w:=w) (base:=base) r6 T;have uV:=GN (P:=P) (w:=w) (base:=base) uq T;have xT:=Ie xr T j6 uV;have nP:=MG A4 T uW mB rN xT;have oY:=Bj pD T uX j6;have xV:=Ii (P:=P) (w:=w) (base:=base) xv T;have jM:=xU jO T nP oY xV fY;have uY:=GO uy T nP fY;have nR:=MH A7 T iN rO jM uY;have mE:=Ae mM nR;obtain⟨cn,cq⟩:=xY (P:=P) (w:=w) (base:=base) T wj;obtain⟨nU,nV⟩:=MK T JY cn cq;obtain⟨Ip,Iq⟩:=SO T QG nU nV;have g9:=y4 (P:=P) (w:=w) (base:=base) kT T;have g8:=y6 kU T eT;obtain⟨xb,xc⟩:=Io (P:=P) (w:=w) (base:=base) T HJ;obtain⟨oi,oj⟩:=Bl T BA nU nV;obtain⟨oZ,oa⟩:=Bm (P:=P) (w:=w) (base:=base) T BB;obtain⟨og,oh⟩:=Bo (P:=P) (w:=w) (base:=base) T BC;obtain⟨Mm,Mn⟩:=Z6 (P:=P) (w:=w) (base:=base) T Xa;obtain⟨tV,tW⟩:=O6 (P:=P) (w:=w) (base:=base) T Ms;obtain⟨Az,A2⟩:=MN (P:=P) (w:=w) (base:=base) T JZ;obtain⟨Iw,Iy⟩:=SW T QF g8 Ip Iq xb xc oZ oa og oh;obtain⟨oo,oq⟩:=Br T A9 g9 An;obtain⟨JT,JU⟩:=Sg T QE nR Iw Iy oi oj oo oq;obtain⟨JO,JP⟩:=Sj T QB uZ cn cq;have ot:=Bs pE T iM;obtain⟨P0,P1⟩:=W1 T TY ot;have oy:=Bt (P:=P) (w:=w) (base:=base) o9 T;have rX:=Eb sF T oy;have Av:=Me (P:=P) (w:=w) (base:=base) A8 T;obtain⟨ug,uh⟩:=Gm T Et gK;obtain⟨JV,JW⟩:=S4 T QC gJ rX Av;obtain⟨JR,JS⟩:=S9 (P:=P) (w:=w) (base:=base) T QD;have Aw:=Mi (P:=P) (w:=w) (base:=base) A6 T;have j7:=JE (P:=P) (w:=w) (base:=base) xw T;have uf:=Gq uz T mE j7;have rf:=Ee sG T Aw j7;have dQ:=zH (P:=P) (w:=w) (base:=base) kX T;have o3:=Bu (P:=P) (w:=w) (base:=base) pF T;have dc:=Bv pG T o3;have kQ:=zI (P:=P) (w:=w) (base:=base) kY T;have o6:=Bw pH T dQ dc kQ;have o5:=Bx (P:=P) (w:=w) (base:=base) pI T;have o4:=By pJ T uf rf;have fM:=rh fN T o4 Az A2 Mm Mn;have ui:=G8 u6 T Mm Mn tV tW P0 P1;have o7:=B8 pK T o5 JO JP ug uh;have uj:=HH u7 T fM ui JR JS JT JU JV JW;exact XY T F dQ dc o6 o7 uj tV tW
end
end K90
namespace K90
open PySem L2 PyProof.Rows
theorem Xb{K:W.Frag}{h:Heap}{mg:Str->Option Value}{kZ fG fH cR de fI xx aq hV ka BD cJ nY dR nZ ng gP iS dS dU dW tX xy j8 iT nh ni iU:Addr}{zJ Eu zK Ew B9 wk x4 wm CB CC BE Ex CD Ey Ja QH Mt QI:Tok}{Jb:Option Addr}{Jc Je Jf Jg Jh Ji:Tok}{Mu:Nat}{Jj:Array (Option Value)}{TZ:Value}{Ta Tb:Option Addr}{QJ:Array (Option Value)}{Tc QK Td HK Te:Value}{ioc:Value}{iod ian:Option Addr}{aEm:Array (Option Value)}{ikV aEn ipm aAT ict:Value}{Tf:Value}{Tg Th:Option Addr}{QL:Array (Option Value)}{Ti QM Tn HL To:Value}{Tp:Value}{Tq Tt:Option Addr}{QN:Array (Option Value)}{Tu QO Tv HM Tx:Value}{Mv:Value}{Mw Mx:Option Addr}{Jk:Array (Option Value)}{Mz Jl M0 BF M3:Value}{x5:Value}{x6 x8:Option Addr}{wo:Array (Option Value)}{x9 wq yA lz yB:Value}{Tz:Value}{T2 T3:Option Addr}{QP:Array (Option Value)}{T4 QQ T5 HN T6:Value}{CF:Value}{CG CH:Option Addr}{BG:Array (Option Value)}{CI BH CJ sH CK:Value}{T7:Value}{T8 T9:Option Addr}{QR:Array (Option Value)}{UA QS UB HP UC:Value}{UD:Value}{UE UG:Option Addr}{QT:Array (Option Value)}{UH QU UI HQ UJ:Value}{Jm:Value}{Jo Jp:Option Addr}{HR:Array (Option Value)}{Jq HS Jr yu Js:Value}{M4:Value}{M5 M6:Option Addr}{Jt:Array (Option Value)}{M7 Ju M8 BI M9:Value}{CM:Value}{CN CO:Option Addr}{BJ:Array (Option Value)}{CP BK CQ sL CS:Value}{CT:Value}{CU CV:Option Addr}{BL:Array (Option Value)}{CW BM CY sM CZ:Value}{Ca:Value}{Cb Cc:Option Addr}{BN:Array (Option Value)}{Cd BO Ce sN Cf:Value}{Xc:Value}{Xd Xe:Option Addr}{UK:Array (Option Value)}{Xf UL Xg LN Xh:Value}{aAU:Value}{aAV aAW:Option Addr}{Xi:Array (Option Value)}{aAX Xj aAY QV aAZ:Value}{QW:Value}{QX QY:Option Addr}{NA:Array (Option Value)}{QZ NB Qa DU Qb:Value}{NC:Value}{ND NF:Option Addr}{Jv:Array (Option Value)}{NG Jw NH BP NI:Value}(KX:K.In h)(G:h.Ns mainGlobals mg)(Jx:W.nsIn K mainGlobals "Air"=some (some (.ref kZ)))(u9:W.nsIn K mainGlobals "BadCell"=some (some (.ref fG)))(vA:W.nsIn K mainGlobals "BadFate"=some (some (.ref fH)))(mO:W.nsIn K mainGlobals "BadMeasure"=some (some (.ref cR)))(sO:W.nsIn K mainGlobals "BadPiece"=some (some (.ref de)))(vB:W.nsIn K mainGlobals "BadSign"=some (some (.ref fI)))(vC:W.nsIn K mainGlobals "DIVISOR"=some (some (.ref xx)))(vD:W.nsIn K mainGlobals "LinkEnd"=some (some (.ref aq)))(yC:W.nsIn K mainGlobals "NoLink"=some (some (.ref hV)))(ke:W.nsIn K mainGlobals "BIRTH_SIGNS"=some (some (.int 2 zJ)))(sP:W.nsIn K mainGlobals "COUNT_AT"=some (some (.int 5 Eu)))(kg:W.nsIn K mainGlobals "FREE_PLACES"=some (some (.int 18 zK)))(sQ:W.nsIn K mainGlobals "KNOWN_AT"=some (some (.int 2 Ew)))(pL:W.nsIn K mainGlobals "LENGTH_AT"=some (some (.int 6 B9)))(iV:W.nsIn K mainGlobals "LONGEST_PIECE"=some (some (.int 10 wk)))(jP:W.nsIn K mainGlobals "MENDED_TURNS"=some (some (.int 2 x4)))(iW:W.nsIn K mainGlobals "MOST_ARRIVALS"=some (some (.int 3 wm)))(pM:W.nsIn K mainGlobals "MOST_LATE"=some (some (.int 6 CB)))(pN:W.nsIn K mainGlobals "MOST_LOST"=some (some (.int 4 CC)))(mP:W.nsIn K mainGlobals "MOST_TURNS"=some (some (.int 4 BE)))(sR:W.nsIn K mainGlobals "NO_BIRTH"=some (some (.int 0 Ex)))(pO:W.nsIn K mainGlobals "NUMBER_AT"=some (some (.int 4 CD)))(sS:W.nsIn K mainGlobals "PIECE_AT"=some (some (.int 7 Ey)))(yD:W.nsIn K mainGlobals "PLACES"=some (some (.int 24 Ja)))(Ez:W.nsIn K mainGlobals "ROOT"=some (some (.int 5 QH)))(BQ:W.nsIn K mainGlobals "SIGNS"=some (some (.int 97 Mt)))(E4:W.nsIn K mainGlobals "SUMS"=some (some (.int 6 QI)))(E5:W.nsIn K mainGlobals "any"=some none)(E6:W.nsIn K mainGlobals "len"=some none)(BR:W.nsIn K mainGlobals "list"=some none)(E7:W.nsIn K mainGlobals "max"=some none)(yE:W.nsIn K mainGlobals "range"=some none)(pP:W.nsIn K mainGlobals "reversed"=some none)(E8:W.nsIn K mainGlobals "zip"=some none)(vE:W.excIn K fG [.type "ValueError",.type "Exception",.type "BaseException",.type "object"] "ValueError.__new__"=true)(mQ:W.findIn K (.ref fG) "__getattribute__"=some (some (.builtin "BaseException.__getattribute__")))(kh:W.findIn K (.ref fG) "__getattr__"=some none)(ki:W.findIn K (.ref fG) "__class__"=some (some (.builtin "object.__class__")))(kj:W.isClsIn K fG=true)(kn:W.mroIn K fG (.type "object")=some true)(jQ:W.subIn K (.ref fG) (.type "BaseException")=some true)(vF:W.excIn K fH [.type "ValueError",.type "Exception",.type "BaseException",.type "object"] "ValueError.__new__"=true)(mR:W.findIn K (.ref fH) "__getattribute__"=some (some (.builtin "BaseException.__getattribute__")))(kq:W.findIn K (.ref fH) "__getattr__"=some none)(kr:W.findIn K (.ref fH) "__class__"=some (some (.builtin "object.__class__")))(kz:W.isClsIn K fH=true)(k8:W.mroIn K fH (.type "object")=some true)(jR:W.subIn K (.ref fH) (.type "BaseException")=some true)(mS:W.excIn K cR [.type "ValueError",.type "Exception",.type "BaseException",.type "object"] "ValueError.__new__"=true)(iX:W.findIn K (.ref cR) "__getattribute__"=some (some (.builtin "BaseException.__getattribute__")))(hW:W.findIn K (.ref cR) "__getattr__"=some none)(hX:W.findIn K (.ref cR) "__class__"=some (some (.builtin "object.__class__")))(hZ:W.isClsIn K cR=true)(h8:W.mroIn K cR (.type "object")=some true)(ft:W.subIn K (.ref cR) (.type "BaseException")=some true)(sT:W.excIn K de [.type "ValueError",.type "Exception",.type "BaseException",.type "object"] "ValueError.__new__"=true)(k9:W.findIn K (.ref de) "__getattribute__"=some (some (.builtin "BaseException.__getattribute__")))(jS:W.findIn K (.ref de) "__getattr__"=some none)(jT:W.findIn K (.ref de) "__class__"=some (some (.builtin "object.__class__")))(jU:W.isClsIn K de=true)(jV:W.mroIn K de (.type "object")=some true)(iY:W.subIn K (.ref de) (.type "BaseException")=some true)(vG:W.excIn K fI [.type "ValueError",.type "Exception",.type "BaseException",.type "object"] "ValueError.__new__"=true)(mT:W.findIn K (.ref fI) "__getattribute__"=some (some (.builtin "BaseException.__getattribute__")))(lB:W.findIn K (.ref fI) "__getattr__"=some none)(lC:W.findIn K (.ref fI) "__class__"=some (some (.builtin "object.__class__")))(lD:W.isClsIn K fI=true)(lE:W.mroIn K fI (.type "object")=some true)(jW:W.subIn K (.ref fI) (.type "BaseException")=some true)(yF:W.excIn K hV [.type "ValueError",.type "Exception",.type "BaseException",.type "object"] "ValueError.__new__"=true)(pQ:W.findIn K (.ref hV) "__getattribute__"=some (some (.builtin "BaseException.__getattribute__")))(mU:W.findIn K (.ref hV) "__getattr__"=some none)(mV:W.findIn K (.ref hV) "__class__"=some (some (.builtin "object.__class__")))(mW:W.isClsIn K hV=true)(mX:W.mroIn K hV (.type "object")=some true)(lF:W.subIn K (.ref hV) (.type "BaseException")=some true)(vH:K.lookup xx=some ⟨.type "tuple",Jb,.seq #[.int (21) Jc,.int (80) Je,.int (53) Jf,.int (2) Jg,.int (55) Jh,.int (63) Ji] Mu,Jj⟩)(mY:W.makesIn K kZ=true)(pR:W.findIn K (.ref kZ) "__init__"=some (some (.ref ka)))(vI:W.isFn K (.ref ka)=true)(vJ:W.keepIn K (.ref kZ)=true)(vK:K.lookup ka=some ⟨TZ,Ta,.func (W.fnOf "__init__" "Air.__init__" (bq iK) (bV iK) (aG iK) .none Tc QK Td Tb HK Te),QJ⟩)(vL:W.codeIn K HK "Air.__init__"=true)(vM:W.keepIn K (.ref ka)=true)(yG:W.makesIn K aq=true)(BS:W.findIn K (.ref aq) "__init__"=some (some (.ref BD)))(Jy:W.isFn K (.ref BD)=true)(Jz:W.keepIn K (.ref aq)=true)(J0:K.lookup BD=some ⟨ioc,iod,.func (W.fnOf "__init__" "LinkEnd.__init__" (bq xN) (bV xN) (aG xN) .none ikV aEn ipm ian aAT ict),aEm⟩)(J3:W.codeIn K aAT "LinkEnd.__init__"=true)(J4:W.keepIn K (.ref BD)=true)(yH:W.plainGet K kZ Str.empty=true)(yI:W.hasDictIn K kZ=true)(yJ:W.plainOver K kZ=true)(yK:W.findIn K (.ref kZ) "__setattr__"=some (some (.builtin "object.__setattr__")))(yL:W.findIn K (.ref kZ) "late"=some none)(vN:W.findIn K (.ref kZ) "asked"=some none)(sU:W.findIn K (.ref kZ) "coming"=some none)(mZ:W.findIn K (.ref kZ) "give"=some (some (.ref nh)))(pS:W.isFn K (.ref nh)=true)(pT:W.keepIn K (.ref nh)=true)(vO:K.lookup nh=some ⟨Tf,Tg,.func (W.fnOf "give" "Air.give" (bq xQ) (bV xQ) (aG xQ) .none Ti QM Tn Th HL To),QL⟩)(vP:W.codeIn K HL "Air.give"=true)(vQ:W.keepIn K (.ref nh)=true)(md:W.findIn K (.ref kZ) "come"=some (some (.ref ni)))(pU:W.isFn K (.ref ni)=true)(pV:W.keepIn K (.ref ni)=true)(vR:K.lookup ni=some ⟨Tp,Tq,.func (W.fnOf "come" "Air.come" (bq qz) (bV qz) (aG qz) .none Tu QO Tv Tt HM Tx),QN⟩)(vS:W.codeIn K HM "Air.come"=true)(vT:W.keepIn K (.ref ni)=true)(jX:W.findIn K (.ref kZ) "flying"=some (some (.ref iU)))(lG:W.isFn K (.ref iU)=true)(lH:W.keepIn K (.ref iU)=true)(pW:K.lookup iU=some ⟨Mv,Mw,.func (W.fnOf "flying" "Air.flying" (bq wH) (bV wH) (aG wH) .none Mz Jl M0 Mx BF M3),Jk⟩)(pX:W.codeIn K BF "Air.flying"=true)(pY:W.keepIn K (.ref iU)=true)(me:W.plainGet K aq Str.empty=true)(mf:W.hasDictIn K aq=true)(mh:W.plainOver K aq=true)(mi:W.findIn K (.ref aq) "__setattr__"=some (some (.builtin "object.__setattr__")))(vU:W.findIn K (.ref aq) "quiet"=some none)(yM:W.findIn K (.ref aq) "side"=some none)(yN:W.findIn K (.ref aq) "done"=some none)(pZ:W.findIn K (.ref aq) "unheard"=some none)(vV:W.findIn K (.ref aq) "birth"=some none)(vW:W.findIn K (.ref aq) "known"=some none)(yO:W.findIn K (.ref aq) "pair"=some none)(yP:W.findIn K (.ref aq) "told"=some none)(sV:W.findIn K (.ref aq) "pieces"=some none)(pe:W.findIn K (.ref aq) "offered"=some none)(vX:W.findIn K (.ref aq) "taken"=some none)(df:W.findIn K (.ref aq) "forget_pieces"=some (some (.ref cJ)))(dz:W.isFn K (.ref cJ)=true)(d8:W.keepIn K (.ref cJ)=true)(fO:K.lookup cJ=some ⟨x5,x6,.func (W.fnOf "forget_pieces" "LinkEnd.forget_pieces" (bq cj) (bV cj) (aG cj) .none x9 wq yA x8 lz yB),wo⟩)(fP:W.codeIn K lz "LinkEnd.forget_pieces"=true)(fQ:W.keepIn K (.ref cJ)=true)(mj:W.findIn K (.ref aq) "tick"=some (some (.ref nY)))(pj:W.isFn K (.ref nY)=true)(pq:W.keepIn K (.ref nY)=true)(vY:K.lookup nY=some ⟨Tz,T2,.func (W.fnOf "tick" "LinkEnd.tick" (bq qy) (bV qy) (aG qy) .none T4 QQ T5 T3 HN T6),QP⟩)(vZ:W.codeIn K HN "LinkEnd.tick"=true)(va:W.keepIn K (.ref nY)=true)(fR:W.findIn K (.ref aq) "cell_given"=some (some (.ref dR)))(fu:W.isFn K (.ref dR)=true)(fw:W.keepIn K (.ref dR)=true)(iZ:K.lookup dR=some ⟨CF,CG,.func (W.fnOf "cell_given" "LinkEnd.cell_given" (bq e9) (bV e9) (aG e9) .none CI BH CJ CH sH CK),BG⟩)(ia:W.codeIn K sH "LinkEnd.cell_given"=true)(ib:W.keepIn K (.ref dR)=true)(ml:W.findIn K (.ref aq) "read"=some (some (.ref nZ)))(pw:W.isFn K (.ref nZ)=true)(pz:W.keepIn K (.ref nZ)=true)(vb:K.lookup nZ=some ⟨T7,T8,.func (W.fnOf "read" "LinkEnd.read" (bq xO) (bV xO) (aG xO) .none UA QS UB T9 HP UC),QR⟩)(vc:W.codeIn K HP "LinkEnd.read"=true)(vd:W.keepIn K (.ref nZ)=true)(mm:W.findIn K (.ref aq) "meet"=some (some (.ref ng)))(qA:W.isFn K (.ref ng)=true)(qB:W.keepIn K (.ref ng)=true)(ve:K.lookup ng=some ⟨UD,UE,.func (W.fnOf "meet" "LinkEnd.meet" (bq xP) (bV xP) (aG xP) .none UH QU UI UG HQ UJ),QT⟩)(vf:W.codeIn K HQ "LinkEnd.meet"=true)(vg:W.keepIn K (.ref ng)=true)(ic:W.findIn K (.ref aq) "come_up"=some (some (.ref gP)))(jY:W.isFn K (.ref gP)=true)(jZ:W.keepIn K (.ref gP)=true)(mn:K.lookup gP=some ⟨Jm,Jo,.func (W.fnOf "come_up" "LinkEnd.come_up" (bq j5) (bV j5) (aG j5) .none Jq HS Jr Jp yu Js),HR⟩)(mo:W.codeIn K yu "LinkEnd.come_up"=true)(mq:W.keepIn K (.ref gP)=true)(jb:W.findIn K (.ref aq) "end_up"=some (some (.ref iS)))(lI:W.isFn K (.ref iS)=true)(lJ:W.keepIn K (.ref iS)=true)(qC:K.lookup iS=some ⟨M4,M5,.func (W.fnOf "end_up" "LinkEnd.end_up" (bq nG) (bV nG) (aG nG) .none M7 Ju M8 M6 BI M9),Jt⟩)(qD:W.codeIn K BI "LinkEnd.end_up"=true)(qE:W.keepIn K (.ref iS)=true)(fS:W.findIn K (.ref aq) "start_over"=some (some (.ref dS)))(fz:W.isFn K (.ref dS)=true)(f6:W.keepIn K (.ref dS)=true)(ig:K.lookup dS=some ⟨CM,CN,.func (W.fnOf "start_over" "LinkEnd.start_over" (bq fA) (bV fA) (aG fA) .none CP BK CQ CO sL CS),BJ⟩)(ij:W.codeIn K sL "LinkEnd.start_over"=true)(ik:W.keepIn K (.ref dS)=true)(fT:W.findIn K (.ref aq) "hear_count"=some (some (.ref dU)))(f7:W.isFn K (.ref dU)=true)(f9:W.keepIn K (.ref dU)=true)(il:K.lookup dU=some ⟨CT,CU,.func (W.fnOf "hear_count" "LinkEnd.hear_count" (bq fB) (bV fB) (aG fB) .none CW BM CY CV sM CZ),BL⟩)(iq:W.codeIn K sM "LinkEnd.hear_count"=true)(ir:W.keepIn K (.ref dU)=true)(fU:W.findIn K (.ref aq) "take_piece"=some (some (.ref dW)))(gB:W.isFn K (.ref dW)=true)(gC:W.keepIn K (.ref dW)=true)(iu:K.lookup dW=some ⟨Ca,Cb,.func (W.fnOf "take_piece" "LinkEnd.take_piece" (bq fD) (bV fD) (aG fD) .none Cd BO Ce Cc sN Cf),BN⟩)(iw:W.codeIn K sN "LinkEnd.take_piece"=true)(iy:W.keepIn K (.ref dW)=true)(qF:W.findIn K (.ref aq) "put"=some (some (.ref tX)))(sW:W.isFn K (.ref tX)=true)(sY:W.keepIn K (.ref tX)=true)(yQ:K.lookup tX=some ⟨Xc,Xd,.func (W.fnOf "put" "LinkEnd.put" (bq C6) (bV C6) (aG C6) .none Xf UL Xg Xe LN Xh),UK⟩)(yR:W.codeIn K LN "LinkEnd.put"=true)(yS:W.keepIn K (.ref tX)=true)(sZ:W.findIn K (.ref aq) "up"=some (some (.ref xy)))(vh:W.isFn K (.ref xy)=true)(vi:W.keepIn K (.ref xy)=true)(BU:K.lookup xy=some ⟨aAU,aAV,.func (W.fnOf "up" "LinkEnd.up" (bq L9) (bV L9) (aG L9) .none aAX Xj aAY aAW QV aAZ),Xi⟩)(BV:W.codeIn K QV "LinkEnd.up"=true)(BW:W.keepIn K (.ref xy)=true)(lK:W.findIn K (.ref aq) "waits"=some (some (.ref j8)))(mr:W.isFn K (.ref j8)=true)(mw:W.keepIn K (.ref j8)=true)(se:K.lookup j8=some ⟨QW,QX,.func (W.fnOf "waits" "LinkEnd.waits" (bq tL) (bV tL) (aG tL) .none QZ NB Qa QY DU Qb),NA⟩)(sj:W.codeIn K DU "LinkEnd.waits"=true)(sk:W.keepIn K (.ref j8)=true)(jc:W.findIn K (.ref aq) "events"=some (some (.ref iT)))(lL:W.isFn K (.ref iT)=true)(lM:W.keepIn K (.ref iT)=true)(qG:K.lookup iT=some ⟨NC,ND,.func (W.fnOf "events" "LinkEnd.events" (bq nH) (bV nH) (aG nH) .none NG Jw NH NF BP NI),Jv⟩)(qH:W.codeIn K BP "LinkEnd.events"=true)(qI:W.keepIn K (.ref iT)=true): ∃t,Txt K mg t:=⟨⟨kZ,fG,fH,cR,de,fI,xx,aq,hV,ka,BD,cJ,nY,dR,nZ,ng,gP,iS,dS,dU,dW,tX,xy,j8,iT,nh,ni,iU⟩,⟨⟨_,W.mg_of KX G ke⟩,⟨_,W.mg_of KX G sP⟩,⟨_,W.mg_of KX G kg⟩,⟨_,W.mg_of KX G sQ⟩,⟨_,W.mg_of KX G pL⟩,⟨_,W.mg_of KX G iV⟩,⟨_,W.mg_of KX G jP⟩,⟨_,W.mg_of KX G iW⟩,⟨_,W.mg_of KX G pM⟩,⟨_,W.mg_of KX G pN⟩,⟨_,W.mg_of KX G mP⟩,⟨_,W.mg_of KX G sR⟩,⟨_,W.mg_of KX G pO⟩,⟨_,W.mg_of KX G sS⟩,⟨_,W.mg_of KX G yD⟩,⟨_,W.mg_of KX G Ez⟩,⟨_,W.mg_of KX G BQ⟩,⟨_,W.mg_of KX G E4⟩,W.mg_none_of KX G E5,W.mg_none_of KX G E6,W.mg_none_of KX G BR,W.mg_none_of KX G E7,W.mg_none_of KX G yE,W.mg_none_of KX G pP,W.mg_none_of KX G E8,W.mg_of KX G Jx,W.mg_of KX G u9,W.mg_of KX G vA,W.mg_of KX G mO,W.mg_of KX G sO,W.mg_of KX G vB,W.mg_of KX G vC,W.mg_of KX G vD,W.mg_of KX G yC,vE,⟨mQ,kh,ki,kj,kn,jQ⟩,vF,⟨mR,kq,kr,kz,k8,jR⟩,mS,⟨iX,hW,hX,hZ,h8,ft⟩,sT,⟨k9,jS,jT,jU,jV,iY⟩,vG,⟨mT,lB,lC,lD,lE,jW⟩,yF,⟨pQ,mU,mV,mW,mX,lF⟩,⟨⟨_,_,_,vH,rfl,rfl,(zz6),(.cons ⟨_,rfl⟩ (.cons ⟨_,rfl⟩ (.cons ⟨_,rfl⟩ (.cons ⟨_,rfl⟩ (.cons ⟨_,rfl⟩ (.cons ⟨_,rfl⟩ .nil))))))⟩⟩,⟨mY,pR,vI,vJ⟩,⟨_,dI vK vL vM⟩,⟨yG,BS,Jy,Jz⟩,⟨_,dI J0 J3 J4⟩,⟨yH,yI,yJ,yK⟩,yL,vN,sU,⟨mZ,pS,pT⟩,⟨_,dI vO vP vQ⟩,⟨md,pU,pV⟩,⟨_,dI vR vS vT⟩,⟨jX,lG,lH⟩,⟨_,dI pW pX pY⟩,⟨me,mf,mh,mi⟩,vU,yM,yN,pZ,vV,vW,yO,yP,sV,pe,vX,⟨df,dz,d8⟩,⟨_,dI fO fP fQ⟩,⟨mj,pj,pq⟩,⟨_,dI vY vZ va⟩,⟨fR,fu,fw⟩,⟨_,dI iZ ia ib⟩,⟨ml,pw,pz⟩,⟨_,dI vb vc vd⟩,⟨mm,qA,qB⟩,⟨_,dI ve vf vg⟩,⟨ic,jY,jZ⟩,⟨_,dI mn mo mq⟩,⟨jb,lI,lJ⟩,⟨_,dI qC qD qE⟩,⟨fS,fz,f6⟩,⟨_,dI ig ij ik⟩,⟨fT,f7,f9⟩,⟨_,dI il iq ir⟩,⟨fU,gB,gC⟩,⟨_,dI iu iw iy⟩,⟨qF,sW,sY⟩,⟨_,dI yQ yR yS⟩,⟨sZ,vh,vi⟩,⟨_,dI BU BV BW⟩,⟨lK,mr,mw⟩,⟨_,dI se sj sk⟩,⟨jc,lL,lM⟩,⟨_,dI qG qH qI⟩⟩⟩
end K90
open PySem PySem.W PyProof.Rows
structure PySem.W.Fast:Prop where(tw2239988352195189505 tw972322259252556135 tw1677325143819982324 tw4092716684647062583 tw10476795739966370148 tw2412278307997304514 tw16238681491291785262 tw9467184761943923935 tw17118046242389748066 tw9755170729750085952 tw7738491007820822482 tw4892443519567835155 tw15019510673853338411 tw15193521139616677939 tw15607414790267813260 tw9916816329952021938 tw16637007559453076680 tw7998624372895577136 tw13845347381910803421 tw5164860212894586503 tw6136728185933745622 tw5994179767091618124 tw2386484758965632041 tw122215844904677038 tw17154318541291769203 tw14370019652543110930 tw12154215195919677726 tw2260817003567124215 tw15208759575629331319 tw13430748393897935313 tw14181805400622125980 tw12657370698047484549 tw17400549278784719194 tw9806599883513818719 tw17118674147395357365 tw9274589848223130766 tw16136963822983827843 tw6583709277831069522 tw3016673826137600612 tw5669024539162540705 tw7515650060804730450 tw8901789406207818445 tw8571324389679515130 tw3852158377875283483 tw6624396695739749246 tw10936386676815058805 tw2176503824335300241 tw10796981110380622694 tw5097086157149725645 tw18260476477137616018 tw6772808455255122783 tw17884101039955024417 tw8299100105327155985 tw5898011326115851909 tw7285478391864756315 tw9016379878880144683 tw13738551910391259475 tw5630619494018689539 tw7195773937301727493 tw1537445940592190502 tw3543909785943542587 tw12799755209003179647 tw769963974814795181 tw7062908763227605034 tw14455304727124954563 tw7054222383389709203 tw2246919386303930695 tw11462644228407840730 tw11130995298149830328 tw1078205814328248036 tw7265975659781851095 tw17807678096385999847 tw7029529260534421797 tw11357764418432182667 tw6146250257564348890 tw8692556634897324920 tw2869052436814283255 tw16842878387832213038 tw18061573895216681329 tw5899396610922429906 tw5049672802122005343 tw15234617717743996837 tw18291584319499471498 tw17842080056665932021 tw16809313026633074832 tw2087011187137332200 tw841186666244577292 tw14104031650777442123 tw10712002570735996518 tw17302470234780247046 tw13891559346272851307 tw1765884871133121014 tw7444744440588924501 tw6243438901044836454 tw5684859457593985358 tw3595499787004823782 tw4364960533434775340 tw757153684346817741 tw13766218548845356652 tw4693907973270886850 tw14183062873253988064 tw3574387966143301293 tw2530959483797201631 tw3425459035396444530 tw2580007887208356434 tw6050207322579709616 tw14782422348100992627 tw4743195455871188880 tw9718668542323259797 tw13270933554967964238 tw7418904521248335600 tw10715064637064531766 tw8856418083169099135 tw4753831363151000499 tw826678771581397282 tw11192792003074095671 tw15365253539906472029 tw8551395042053275861 tw12454483782797141407 tw13302518014000772520 tw3853337770028980009 tw1655475188613013094 tw18440475850471133419 tw5127319527546440061 tw4380804556764275900 tw1585895142566606479 tw17327850615856680155 tw7841012754453174866 tw7188277375875803994 tw2508675040887348603 tw542291232417230196 tw315340500060144158 tw4492284094525006119 tw3117463801936492134 tw15245325041528359233 tw12254470842166057205 tw818421199698772733 tw18065442385820412354 tw15872292129980201860 tw7172468549786169554 tw5638900357174222615 tw1971622349636857502 tw1123352963779506176 tw18323098783290988996 tw1164727387945846478 tw4619395431141016529 tw14184287365156087993 tw11262644731633546379 tw7333976408847158600 tw16029141406122816907 tw17211204009078623886 tw16235733820253905917 tw1332429111116021382 tw10170967539400514395 tw8548970856758060429 tw3126341307624492833 tw17813339640244975533 tw6805578015812127186 tw5191483040578976524 tw8070698258464855729 tw1386836235149796085 tw16429907240628645287 tw139136391102926791 tw7102226055686914268 tw1245576578244020141 tw15447945456456948265 tw18193500219703664610 tw5342443574750599687 tw16586109253148343992 tw16597893591366871981 tw17562618710159842246 tw10552800191039890198 tw2984027159882317848 tw6349557606782610362 tw17416388835168714445 tw1632482894205405944 tw2448958452081403608 tw17791883915012963424 tw13181712537571246981 tw2385682770907664838 tw8370591232017934494 tw14489759946625379957 tw4694109778314764413 tw7584086332765861596 tw1146997641664747753 tw2410402610689810436 tw2009095421475113478 tw14414098759237143168 tw16355026495956318291 tw15196109868536942996 tw845195475417227857 tw5627846267038501068 tw5406479594595830600:True)
set_option maxRecDepth 100000 in
set_option maxHeartbeats 0 in
theorem PySem.Challenge.cw_stormpost_k90_whole_sharp_silences_holds : PySem.Challenge.rw_stormpost_k90_whole_sharp_silences.Holds := by
 w_on;o_law;k_head;(case hw=>w_witness2)
 k_fill
 refine L2.N9 (l:=PySem.Challenge.rw_stormpost_k90_whole_sharp_silences) (k:=14) ⟨rfl,by decide,by decide⟩ rfl rfl (λw h Y=>PySem.W.kIn_of Y) ?F
 case F =>
  intro w mg fa h KX G Vy;have xo:L2.aO (L2.cL KX) mg "is_sign" K90.tH:=by dsimp only[L2.cL];refine' L2.aO.mk' KX G _ _ _ _;any_goals k_is
  have rm:L2.aO (L2.cL KX) mg "look_sign" K90.lW:=by dsimp only[L2.cL];refine' L2.aO.mk' KX G _ _ _ _;any_goals k_is
  have rq:L2.aO (L2.cL KX) mg "look_unit" K90.lX:=by dsimp only[L2.cL];refine' L2.aO.mk' KX G _ _ _ _;any_goals k_is
  have Es:L2.aO (L2.cL KX) mg "power" K90.zQ:=by dsimp only[L2.cL];refine' L2.aO.mk' KX G _ _ _ _;any_goals k_is
  have xq:L2.aO (L2.cL KX) mg "inverse" K90.tI:=by dsimp only[L2.cL];refine' L2.aO.mk' KX G _ _ _ _;any_goals k_is
  have uk:L2.aO (L2.cL KX) mg "exponent" K90.oK:=by dsimp only[L2.cL];refine' L2.aO.mk' KX G _ _ _ _;any_goals k_is
  have uo:L2.aO (L2.cL KX) mg "equation" K90.kD:=by dsimp only[L2.cL];refine' L2.aO.mk' KX G _ _ _ _;any_goals k_is
  have mL:L2.aO (L2.cL KX) mg "pivot_place" K90.i0:=by dsimp only[L2.cL];refine' L2.aO.mk' KX G _ _ _ _;any_goals k_is
  have r6:L2.aO (L2.cL KX) mg "exchanged" K90.lY:=by dsimp only[L2.cL];refine' L2.aO.mk' KX G _ _ _ _;any_goals k_is
  have uq:L2.aO (L2.cL KX) mg "lessened" K90.kE:=by dsimp only[L2.cL];refine' L2.aO.mk' KX G _ _ _ _;any_goals k_is
  have xr:L2.aO (L2.cL KX) mg "cleared" K90.j4:=by dsimp only[L2.cL];refine' L2.aO.mk' KX G _ _ _ _;any_goals k_is
  have A4:L2.aO (L2.cL KX) mg "solved" K90.nE:=by dsimp only[L2.cL];refine' L2.aO.mk' KX G _ _ _ _;any_goals k_is
  have o8:L2.aO (L2.cL KX) mg "look_signs" K90.jl:=by dsimp only[L2.cL];refine' L2.aO.mk' KX G _ _ _ _;any_goals k_is
  have r8:L2.aO (L2.cL KX) mg "look_cell" K90.lZ:=by dsimp only[L2.cL];refine' L2.aO.mk' KX G _ _ _ _;any_goals k_is
  have uu:L2.aO (L2.cL KX) mg "value_at" K90.oM:=by dsimp only[L2.cL];refine' L2.aO.mk' KX G _ _ _ _;any_goals k_is
  have uv:L2.aO (L2.cL KX) mg "troubles" K90.kF:=by dsimp only[L2.cL];refine' L2.aO.mk' KX G _ _ _ _;any_goals k_is
  have r9:L2.aO (L2.cL KX) mg "is_sealed" K90.lg:=by dsimp only[L2.cL];refine' L2.aO.mk' KX G _ _ _ _;any_goals k_is
  have xu:L2.aO (L2.cL KX) mg "carried" K90.nF:=by dsimp only[L2.cL];refine' L2.aO.mk' KX G _ _ _ _;any_goals k_is
  have A5:L2.aO (L2.cL KX) mg "sealed" K90.qw:=by dsimp only[L2.cL];refine' L2.aO.mk' KX G _ _ _ _;any_goals k_is
  have sE:L2.aO (L2.cL KX) mg "look_late" K90.lh:=by dsimp only[L2.cL];refine' L2.aO.mk' KX G _ _ _ _;any_goals k_is
  have kS:L2.aO (L2.cL KX) mg "look_measure" K90.gY:=by dsimp only[L2.cL];refine' L2.aO.mk' KX G _ _ _ _;any_goals k_is
  have o9:L2.aO (L2.cL KX) mg "look_turns" K90.jm:=by dsimp only[L2.cL];refine' L2.aO.mk' KX G _ _ _ _;any_goals k_is
  have sF:L2.aO (L2.cL KX) mg "look_fate" K90.lj:=by dsimp only[L2.cL];refine' L2.aO.mk' KX G _ _ _ _;any_goals k_is
  have A6:L2.aO (L2.cL KX) mg "is_fit" K90.qx:=by dsimp only[L2.cL];refine' L2.aO.mk' KX G _ _ _ _;any_goals k_is
  have uw:L2.aO (L2.cL KX) mg "quiet_of" K90.oN:=by dsimp only[L2.cL];refine' L2.aO.mk' KX G _ _ _ _;any_goals k_is
  have pD:L2.aO (L2.cL KX) mg "lone_place" K90.jo:=by dsimp only[L2.cL];refine' L2.aO.mk' KX G _ _ _ _;any_goals k_is
  have xv:L2.aO (L2.cL KX) mg "is_root" K90.tJ:=by dsimp only[L2.cL];refine' L2.aO.mk' KX G _ _ _ _;any_goals k_is
  have jO:L2.aO (L2.cL KX) mg "turned_places" K90.di:=by dsimp only[L2.cL];refine' L2.aO.mk' KX G _ _ _ _;any_goals k_is
  have uy:L2.aO (L2.cL KX) mg "turns_at" K90.kG:=by dsimp only[L2.cL];refine' L2.aO.mk' KX G _ _ _ _;any_goals k_is
  have A7:L2.aO (L2.cL KX) mg "mended" K90.wF:=by dsimp only[L2.cL];refine' L2.aO.mk' KX G _ _ _ _;any_goals k_is
  have mM:L2.aO (L2.cL KX) mg "is_readable" K90.i6:=by dsimp only[L2.cL];refine' L2.aO.mk' KX G _ _ _ _;any_goals k_is
  have kT:L2.aO (L2.cL KX) mg "number_signs" K90.gZ:=by dsimp only[L2.cL];refine' L2.aO.mk' KX G _ _ _ _;any_goals k_is
  have kU:L2.aO (L2.cL KX) mg "signs_number" K90.gg:=by dsimp only[L2.cL];refine' L2.aO.mk' KX G _ _ _ _;any_goals k_is
  have pE:L2.aO (L2.cL KX) mg "look_piece" K90.jq:=by dsimp only[L2.cL];refine' L2.aO.mk' KX G _ _ _ _;any_goals k_is
  have A8:L2.aO (L2.cL KX) mg "turned" K90.wG:=by dsimp only[L2.cL];refine' L2.aO.mk' KX G _ _ _ _;any_goals k_is
  have xw:L2.aO (L2.cL KX) mg "is_told" K90.tK:=by dsimp only[L2.cL];refine' L2.aO.mk' KX G _ _ _ _;any_goals k_is
  have uz:L2.aO (L2.cL KX) mg "is_shown" K90.kH:=by dsimp only[L2.cL];refine' L2.aO.mk' KX G _ _ _ _;any_goals k_is
  have sG:L2.aO (L2.cL KX) mg "broken_by" K90.jF:=by dsimp only[L2.cL];refine' L2.aO.mk' KX G _ _ _ _;any_goals k_is
  have kX:L2.aO (L2.cL KX) mg "_law_cell_at" K90.gh:=by dsimp only[L2.cL];refine' L2.aO.mk' KX G _ _ _ _;any_goals k_is
  have pF:L2.aO (L2.cL KX) mg "_law_mixed" K90.jr:=by dsimp only[L2.cL];refine' L2.aO.mk' KX G _ _ _ _;any_goals k_is
  have pG:L2.aO (L2.cL KX) mg "_law_drawn" K90.js:=by dsimp only[L2.cL];refine' L2.aO.mk' KX G _ _ _ _;any_goals k_is
  have kY:L2.aO (L2.cL KX) mg "_law_stretch" K90.eS:=by dsimp only[L2.cL];refine' L2.aO.mk' KX G _ _ _ _;any_goals k_is
  have pH:L2.aO (L2.cL KX) mg "_law_fates" K90.jt:=by dsimp only[L2.cL];refine' L2.aO.mk' KX G _ _ _ _;any_goals k_is
  have pI:L2.aO (L2.cL KX) mg "_law_heard" K90.ju:=by dsimp only[L2.cL];refine' L2.aO.mk' KX G _ _ _ _;any_goals k_is
  have pJ:L2.aO (L2.cL KX) mg "_law_ended" K90.jv:=by dsimp only[L2.cL];refine' L2.aO.mk' KX G _ _ _ _;any_goals k_is
  have fN:L2.aO (L2.cL KX) mg "_law_events_right" K90.dG:=by dsimp only[L2.cL];refine' L2.aO.mk' KX G _ _ _ _;any_goals k_is
  have pK:L2.aO (L2.cL KX) mg "_law_state" K90.jw:=by dsimp only[L2.cL];refine' L2.aO.mk' KX G _ _ _ _;any_goals k_is
  have u6:L2.aO (L2.cL KX) mg "_law_put" K90.oO:=by dsimp only[L2.cL];refine' L2.aO.mk' KX G _ _ _ _;any_goals k_is
  have u7:L2.aO (L2.cL KX) mg "_law_run" K90.oP:=by dsimp only[L2.cL];refine' L2.aO.mk' KX G _ _ _ _;any_goals k_is
  have aBa:L2.aO (L2.cL KX) mg "law" K90.C5:=by dsimp only[L2.cL];refine' L2.aO.mk' KX G _ _ _ _;any_goals k_is
  have T:∃t,K90.Txt (L2.cL KX) mg t:=by
   dsimp only[L2.cL];refine' K90.Xb KX G ?Jx ?u9 ?vA ?mO ?sO ?vB ?vC ?vD ?yC ?ke ?sP ?kg ?sQ ?pL ?iV ?jP ?iW ?pM ?pN ?mP ?sR ?pO ?sS ?yD ?Ez ?BQ ?E4 ?E5 ?E6 ?BR ?E7 ?yE ?pP ?E8 ?vE ?mQ ?kh ?ki ?kj ?kn ?jQ ?vF ?mR ?kq ?kr ?kz ?k8 ?jR ?mS ?iX ?hW ?hX ?hZ ?h8 ?ft ?sT ?k9 ?jS ?jT ?jU ?jV ?iY ?vG ?mT ?lB ?lC ?lD ?lE ?jW ?yF ?pQ ?mU ?mV ?mW ?mX ?lF ?vH ?mY ?pR ?vI ?vJ ?vK ?vL ?vM ?yG ?BS ?Jy ?Jz ?J0 ?J3 ?J4 ?yH ?yI ?yJ ?yK ?yL ?vN ?sU ?mZ ?pS ?pT ?vO ?vP ?vQ ?md ?pU ?pV ?vR ?vS ?vT ?jX ?lG ?lH ?pW ?pX ?pY ?me ?mf ?mh ?mi ?vU ?yM ?yN ?pZ ?vV ?vW ?yO ?yP ?sV ?pe ?vX ?df ?dz ?d8 ?fO ?fP ?fQ ?mj ?pj ?pq ?vY ?vZ ?va ?fR ?fu ?fw ?iZ ?ia ?ib ?ml ?pw ?pz ?vb ?vc ?vd ?mm ?qA ?qB ?ve ?vf ?vg ?ic ?jY ?jZ ?mn ?mo ?mq ?jb ?lI ?lJ ?qC ?qD ?qE ?fS ?fz ?f6 ?ig ?ij ?ik ?fT ?f7 ?f9 ?il ?iq ?ir ?fU ?gB ?gC ?iu ?iw ?iy ?qF ?sW ?sY ?yQ ?yR ?yS ?sZ ?vh ?vi ?BU ?BV ?BW ?lK ?mr ?mw ?se ?sj ?sk ?jc ?lL ?lM ?qG ?qH ?qI
   (case Jx=>k_is)
   (case u9=>k_is)
   (case vA=>k_is)
   (case mO=>k_is)
   (case sO=>k_is)
   (case vB=>k_is)
   (case vC=>k_is)
   (case vD=>k_is)
   (case yC=>k_is)
   (case ke=>k_is)
   (case sP=>k_is)
   (case kg=>k_is)
   (case sQ=>k_is)
   (case pL=>k_is)
   (case iV=>k_is)
   (case jP=>k_is)
   (case iW=>k_is)
   (case pM=>k_is)
   (case pN=>k_is)
   (case mP=>k_is)
   (case sR=>k_is)
   (case pO=>k_is)
   (case sS=>k_is)
   (case yD=>k_is)
   (case Ez=>k_is)
   (case BQ=>k_is)
   (case E4=>k_is)
   (case E5=>k_is)
   (case E6=>k_is)
   (case BR=>k_is)
   (case E7=>k_is)
   (case yE=>k_is)
   (case pP=>k_is)
   (case E8=>k_is)
   (case vE=>k_exc)
   (case mQ=>k_is)
   (case kh=>k_is)
   (case ki=>k_is)
   (case kj=>k_is)
   (case kn=>k_is)
   (case jQ=>k_is)
   (case vF=>k_exc)
   (case mR=>k_is)
   (case kq=>k_is)
   (case kr=>k_is)
   (case kz=>k_is)
   (case k8=>k_is)
   (case jR=>k_is)
   (case mS=>k_exc)
   (case iX=>k_is)
   (case hW=>k_is)
   (case hX=>k_is)
   (case hZ=>k_is)
   (case h8=>k_is)
   (case ft=>k_is)
   (case sT=>k_exc)
   (case k9=>k_is)
   (case jS=>k_is)
   (case jT=>k_is)
   (case jU=>k_is)
   (case jV=>k_is)
   (case iY=>k_is)
   (case vG=>k_exc)
   (case mT=>k_is)
   (case lB=>k_is)
   (case lC=>k_is)
   (case lD=>k_is)
   (case lE=>k_is)
   (case jW=>k_is)
   (case yF=>k_exc)
   (case pQ=>k_is)
   (case mU=>k_is)
   (case mV=>k_is)
   (case mW=>k_is)
   (case mX=>k_is)
   (case lF=>k_is)
   (case vH=>k_is)
   (case mY=>k_is)
   (case pR=>k_is)
   (case vI=>k_is)
   (case vJ=>k_is)
   (case vK=>k_is)
   (case vL=>k_is)
   (case vM=>k_is)
   (case yG=>k_is)
   (case BS=>k_is)
   (case Jy=>k_is)
   (case Jz=>k_is)
   (case J0=>k_is)
   (case J3=>k_is)
   (case J4=>k_is)
   (case yH=>k_is)
   (case yI=>k_is)
   (case yJ=>k_is)
   (case yK=>k_is)
   (case yL=>k_is)
   (case vN=>k_is)
   (case sU=>k_is)
   (case mZ=>k_is)
   (case pS=>k_is)
   (case pT=>k_is)
   (case vO=>k_is)
   (case vP=>k_is)
   (case vQ=>k_is)
   (case md=>k_is)
   (case pU=>k_is)
   (case pV=>k_is)
   (case vR=>k_is)
   (case vS=>k_is)
   (case vT=>k_is)
   (case jX=>k_is)
   (case lG=>k_is)
   (case lH=>k_is)
   (case pW=>k_is)
   (case pX=>k_is)
   (case pY=>k_is)
   (case me=>k_is)
   (case mf=>k_is)
   (case mh=>k_is)
   (case mi=>k_is)
   (case vU=>k_is)
   (case yM=>k_is)
   (case yN=>k_is)
   (case pZ=>k_is)
   (case vV=>k_is)
   (case vW=>k_is)
   (case yO=>k_is)
   (case yP=>k_is)
   (case sV=>k_is)
   (case pe=>k_is)
   (case vX=>k_is)
   (case df=>k_is)
   (case dz=>k_is)
   (case d8=>k_is)
   (case fO=>k_is)
   (case fP=>k_is)
   (case fQ=>k_is)
   (case mj=>k_is)
   (case pj=>k_is)
   (case pq=>k_is)
   (case vY=>k_is)
   (case vZ=>k_is)
   (case va=>k_is)
   (case fR=>k_is)
   (case fu=>k_is)
   (case fw=>k_is)
   (case iZ=>k_is)
   (case ia=>k_is)
   (case ib=>k_is)
   (case ml=>k_is)
   (case pw=>k_is)
   (case pz=>k_is)
   (case vb=>k_is)
   (case vc=>k_is)
   (case vd=>k_is)
   (case mm=>k_is)
   (case qA=>k_is)
   (case qB=>k_is)
   (case ve=>k_is)
   (case vf=>k_is)
   (case vg=>k_is)
   (case ic=>k_is)
   (case jY=>k_is)
   (case jZ=>k_is)
   (case mn=>k_is)
   (case mo=>k_is)
   (case mq=>k_is)
   (case jb=>k_is)
   (case lI=>k_is)
   (case lJ=>k_is)
   (case qC=>k_is)
   (case qD=>k_is)
   (case qE=>k_is)
   (case fS=>k_is)
   (case fz=>k_is)
   (case f6=>k_is)
   (case ig=>k_is)
   (case ij=>k_is)
   (case ik=>k_is)
   (case fT=>k_is)
   (case f7=>k_is)
   (case f9=>k_is)
   (case il=>k_is)
   (case iq=>k_is)
   (case ir=>k_is)
   (case fU=>k_is)
   (case gB=>k_is)
   (case gC=>k_is)
   (case iu=>k_is)
   (case iw=>k_is)
   (case iy=>k_is)
   (case qF=>k_is)
   (case sW=>k_is)
   (case sY=>k_is)
   (case yQ=>k_is)
   (case yR=>k_is)
   (case yS=>k_is)
   (case sZ=>k_is)
   (case vh=>k_is)
   (case vi=>k_is)
   (case BU=>k_is)
   (case BV=>k_is)
   (case BW=>k_is)
   (case lK=>k_is)
   (case mr=>k_is)
   (case mw=>k_is)
   (case se=>k_is)
   (case sj=>k_is)
   (case sk=>k_is)
   (case jc=>k_is)
   (case lL=>k_is)
   (case lM=>k_is)
   (case qG=>k_is)
   (case qH=>k_is)
   (case qI=>k_is)
  obtain⟨t,T⟩:=T;exact L2.N8 aBa (λ_ _ _ _ _ _ us hl=>match us,hl with|[_],_=>rfl) Vy λf fd base F=>K90.TX T F xo rm rq Es xq uk uo mL r6 uq xr A4 o8 r8 uu uv r9 xu A5 sE kS o9 sF A6 uw pD xv jO uy A7 mM kT kU pE A8 xw uz sG kX pF pG kY pH pI pJ fN pK u6 u7
#print axioms PySem.Challenge.cw_stormpost_k90_whole_sharp_silences_holds
