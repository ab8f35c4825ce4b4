import PyProof.Rows.All
import Wide.All
import OpenK.AllK
import Wide.FinOn
import Lean
import PyProof.EqAt
import PyProof.EqKinds
import PyProof.TupleCall
import PySem.Challenge.RW_stormpost_k51_answers_judged
set_option genSizeOf false
set_option compiler.extract_closed false
set_option Elab.async false
set_option linter.all false
set_option maxRecDepth 100000
open List(length_append mem_singleton length_map mem_cons_of_mem mem_cons_self mem_append size_toArray mem_of_getElem? getElem?_append_left getElem?_append_right mem_cons getElem?_eq_none length_replicate mem_append_right mem_append_left getElem?_eq_getElem length_cons length_take lookup_cons not_mem_nil take_length getElem?_map map_append getD_eq_getElem?_getD)
open Nat(le_refl lt_of_lt_of_le zero_le lt_succ_self lt_irrefl le_trans ne_of_lt not_lt_zero le_succ)
open PySem PySem.Spec PyProof.Rows in
abbrev f8:=@wpAny_bind
open PySem PySem.Spec PyProof.Rows in
abbrev im:=@wpAny_pure
namespace L2
open PySem PySem.Spec PyProof.Rows
abbrev Key:=Sum Int Str
def uy:Key->Value->Bool
 |.inl k,v=>Value.isInt k v
 |.inr x,v=>Value.isStrOf x v
def PF(w:World):Key->Int
 |.inl k=>hashInt k
 |.inr x=>hashStr w x
theorem bV:∀{k:Key}{v:Value},uy k v=true->(∃i t,k=Sum.inl i/\v=Value.int i t)\/(∃x t,k=Sum.inr x/\v=Value.str x t)
 |.inl i,v,h=>by obtain⟨t,e⟩:=Value.isInt_shape (k:=i) (v:=v) h;exact .inl ⟨i,t,rfl,e⟩
 |.inr x,v,h=>by obtain⟨t,e⟩:=Value.isStrOf_shape (x:=x) (v:=v) h;exact .inr ⟨x,t,rfl,e⟩
theorem CF(i:Int)(t:Tok):uy (.inl i) (.int i t)=true:=by simp[uy,Value.isInt]
theorem CG(x:Str)(t:Tok):uy (.inr x) (.str x t)=true:=by simp[uy,Value.isStrOf]
theorem Jb(a b:Int):decide ((Sum.inl a:Key)=Sum.inl b)=(a==b):=by
 by_cases e:a=b
 ·subst e;simp
 have h:¬(Sum.inl a:Key)=Sum.inl b:=λq=>e (Sum.inl.inj q);rw[decide_eq_false h];exact(beq_eq_false_iff_ne.mpr e).symm
theorem Jc(a b:Str):decide ((Sum.inr a:Key)=Sum.inr b)=decide (a=b):=by
 by_cases e:a=b
 ·subst e;simp
 have h:¬(Sum.inr a:Key)=Sum.inr b:=λq=>e (Sum.inr.inj q);rw[decide_eq_false h,decide_eq_false e]
theorem Jd(a:Int)(b:Str):decide ((Sum.inl a:Key)=Sum.inr b)=false:=decide_eq_false (λq=>nomatch q)
theorem Je(a:Str)(b:Int):decide ((Sum.inr a:Key)=Sum.inl b)=false:=decide_eq_false (λq=>nomatch q)
def aY(prog:Program)(w:World):PySem.KeyKind prog w Key where
 is:=uy
 hash:=PF w
 inj:=λv a b ha hb=>by
  rcases bV ha with⟨i,t,rfl,rfl⟩|⟨x,t,rfl,rfl⟩
  ·rcases bV hb with⟨j,u,rfl,e⟩|⟨y,u,rfl,e⟩
   ·injection e with e1 _;rw[e1]
   exact nomatch e
  rcases bV hb with⟨j,u,rfl,e⟩|⟨y,u,rfl,e⟩
  ·exact nomatch e
  injection e with e1 _;rw[e1]
 byValue:=λk v h=>by rcases bV h with⟨i,t,rfl,rfl⟩|⟨x,t,rfl,rfl⟩<;>rfl
 pyHash:=λhv h=>by
  rcases bV hv with⟨i,t,rfl,rfl⟩|⟨x,t,rfl,rfl⟩
  ·exact wpAny_pyHash_int h
  exact wpAny_pyHash_str h
 eqBool:=λhu hv h=>by
  rcases bV hu with⟨i,t,rfl,rfl⟩|⟨x,t,rfl,rfl⟩
  ·rcases bV hv with⟨j,u,rfl,rfl⟩|⟨y,u,rfl,rfl⟩
   ·rw[Jb]at h;exact wpAny_eqBool_int h
   rw[Jd]at h;exact SeqAt.EqAt.int_str i t y u _ _ _ _ h
  rcases bV hv with⟨j,u,rfl,rfl⟩|⟨y,u,rfl,rfl⟩
  ·rw[Je]at h;exact SeqAt.EqAt.str_int x t j u _ _ _ _ h
  rw[Jc]at h;exact wpAny_eqBool_str h
 «strs»:=λk x t v h=>by
  rcases bV h with⟨i,u,rfl,e⟩|⟨y,u,rfl,e⟩
  ·exact nomatch e
  injection e with e1 _;subst e1;cases v<;>rfl
theorem qX(prog:Program)(w:World)(i:Int)(t:Tok):(aY prog w).is (.inl i) (.int i t)=true:=CF i t
theorem qY(prog:Program)(w:World)(x:Str)(t:Tok):(aY prog w).is (.inr x) (.str x t)=true:=CG x t
inductive V where
 |bu|bl (b:Bool)|int (i:Int)|str (x:Str)|DY (b:Array UInt8)|Jf (b:UInt64)|ref (a:Addr)|ty (n:String)
 deriving DecidableEq
def RelV:V->Value->Prop
 |.bu,u=>u=Value.none
 |.bl b,u=>u=Value.bool b
 |.int i,u=>∃t,u=Value.int i t
 |.str x,u=>∃t,u=Value.str x t
 |.DY b,u=>∃t,u=Value.bytes b t
 |.Jf b,u=>∃t,u=Value.float b t
 |.ref a,u=>u=Value.ref a
 |.ty n,u=>u=Value.type n
abbrev ae:List V->List Value->Prop:=Paired RelV
theorem ae.length{xs:List V}{us:List Value}(r:ae xs us):xs.length=us.length:=Paired.length r
theorem ae.get:∀{xs:List V}{us:List Value}{i:Nat}{x:V},ae xs us->xs[i]?=some x->∃u,us[i]?=some u/\RelV x u
 |_,_,_,_,.nil,e=>by simp at e
 |_,_,0,_,.cons r _,e=>by simp at e;subst e;exact⟨_,rfl,r⟩
 |_,_,i+1,x,.cons _ t,e=>by obtain⟨u,h1,h2⟩:=ae.get (i:=i) (x:=x) t (by simpa using e);exact⟨u,by simpa using h1,h2⟩
theorem ae.set{x:V}{u:Value}(r:RelV x u):∀{xs:List V}{us:List Value}(i:Nat),ae xs us->ae (xs.set i x) (us.set i u)
 |_,_,_,.nil=>.nil
 |_,_,0,.cons _ t=>.cons r t
 |_,_,i+1,.cons q t=>.cons q (ae.set r i t)
theorem ae.append:∀{xs ys:List V}{us ws:List Value},ae xs us->ae ys ws->ae (xs++ys) (us++ws)
 |_,_,_,_,.nil,s=>s
 |_,_,_,_,.cons r t,s=>.cons r (ae.append t s)
theorem ae.take:∀{xs:List V}{us:List Value}(n:Nat),ae xs us->ae (xs.take n) (us.take n)
 |_,_,0,_=>.nil
 |_,_,_+1,.nil=>.nil
 |_,_,n+1,.cons r t=>.cons r (ae.take n t)
theorem ae.drop:∀{xs:List V}{us:List Value}(n:Nat),ae xs us->ae (xs.drop n) (us.drop n)
 |_,_,0,r=>r
 |_,_,_+1,.nil=>.nil
 |_,_,n+1,.cons _ t=>ae.drop n t
def gY:Option V->Option Value->Prop
 |some v,some u=>RelV v u
 |none,none=>True
 |_,_=>False
def KV{κ:Type}:List (κ×V)->List (κ×Value)->Prop:=Paired λ(p:κ×V)(q:κ×Value)=>p.1=q.1/\RelV p.2 q.2
def kV:Key->V
 |.inl i=>.int i
 |.inr x=>.str x
inductive HO where
 |lst (xs:List V)
 |tup (xs:List V)
 |dK (lw:List (Key×V))|dT (lw:List (List Key×V))
 |set (S:Int->Bool) (n:Nat)
 |ins (C dx:Addr) (fs:List (Str×V))
 |own (x:Addr)
 |xd (fs:List (Str×V))
 |met (f x:Addr)
 |PH (lo hi:Int)
 |BH (o:Obj) (u:HO)
 |Jg (ps:Array Value)
 |ext (φ:Heap->Prop)
abbrev Hp:=Addr->Option HO
def upd(H:Hp)(a:Addr)(o:HO):Hp:=λb=>if b=a then some o else H b
theorem aC{H:Hp}{a:Addr}{o:HO}:upd H a o a=some o:=by unfold upd;rw[if_pos rfl]
theorem aM{H:Hp}{a b:Addr}{o:HO}(h:b≠a):upd H a o b=H b:=by unfold upd;rw[if_neg h]
theorem kx{H:Hp}{a b:Addr}{o u:HO}(h:H a=some o)(h':H b=some u)(d:o≠u):a≠b:=by intro e;subst e;rw[h]at h';exact d (Option.some.inj h')
theorem aq{H:Hp}{a b:Addr}{o:HO}(h:H a=some o)(h':H b=none):a≠b:=by intro e;subst e;rw[h]at h';cases h'
section
variable(P:Program)(w:World)
def bH(H:Hp)(h:Heap)(a:Addr):HO->Prop
 |.lst xs=>xs.length<=sizeLine/\∃(aS:List Value)(n:Nat),ae xs aS/\h.get? a=some { cls:=.type "list",data:=.seq aS.toArray n }
 |.tup xs=>xs.length<=sizeLine/\∃aS:List Value,ae xs aS/\IsTup h a aS.toArray
 |.dK lw=>lw.length<=sizeLine/\(a==sysModules)=false/\∃vs,KV lw vs/\h.DictOf (aY P w) a vs
 |.dT lw=>lw.length<=sizeLine/\(a==sysModules)=false/\∃xs:List (List Key×Addr×Value),
   Paired (λ(p:List Key×V)(q:List Key×Addr×Value)=>p.1=q.1/\H q.2.1=some (.tup (p.1.map kV))/\RelV p.2 q.2.2) lw xs /\
   ∃o es ep,h.get? a=some o/\o.ExactDict/\o.data=.dict es ep/\es.toList=xs.map (entryOfKey (tupleKind (aY P w)))/\(xs.map (·.1)).Nodup
 |.set S n=>h.SetOf (intKind P w) a S n
 |.ins C dx fs=>H dx=some (.own a)/\fs.length<=1000/\dx≠a/\h.get? a=some (W.instObj C dx) /\
   ∃mA,h.Ns1 dx mA/\(∀f,gY (fs.lookup f) (mA f))/\PySem.Within mA (fs.map (·.1))
 |.own _=>∃o,h.get? a=some o
 |.xd fs=>∃mA,h.Ns1 a mA/\∀f,gY (fs.lookup f) (mA f)
 |.PH lo hi=>∃t u v,h.get? a=some { cls:=.type "range",data:=.fields #[.int lo t,.int hi u,.int 1 v] }
 |.BH o u=>h.get? a=some o/\bH H h a u
 |.Jg ps=>h.get? a=some { cls:=.none,data:=.fields ps }
 |.met f x=>h.get? a=some (W.methodObj (.ref f) (.ref x))
 |.ext φ=>φ h/\(∃o,h.get? a=some o)/\∀h1 h2:Heap,φ h1->(∀o,h1.get? a=some o->h2.get? a=some o)->φ h2
def nM(H:Hp)(h:Heap):Prop:=∀a o,H a=some o->bH P w H h a o
end
section
variable{P:Program}{w:World}{H H':Hp}{h h':Heap}{a:Addr}{o:HO}
theorem bH.lt(x:bH P w H h a o):a<h.objs.size:=by
 cases o with
 |lst xs=>obtain⟨_,_,_,_,e⟩:=x;exact Heap.lt_size e
 |tup xs=>obtain⟨_,_,_,p⟩:=x;exact p.lt
 |dK lw=>obtain⟨_,_,_,_,o,_,_,e,_⟩:=x;exact Heap.lt_size e
 |dT lw=>obtain⟨_,_,_,_,o,_,_,e,_⟩:=x;exact Heap.lt_size e
 |set S n=>obtain⟨o,_,_,_,e,_⟩:=x;exact Heap.lt_size e
 |ins C dx fs=>obtain⟨_,_,_,e,_⟩:=x;exact Heap.lt_size e
 |own y=>obtain⟨_,e⟩:=x;exact Heap.lt_size e
 |xd fs=>obtain⟨_,⟨_,_,_,e,_⟩,_⟩:=x;exact Heap.lt_size e
 |PH lo hi=>obtain⟨_,_,_,e⟩:=x;exact Heap.lt_size e
 |BH ob u=>obtain⟨e,_⟩:=x;exact Heap.lt_size e
 |Jg ps=>exact Heap.lt_size (show h.get? a=some _ from x)
 |met f y=>exact Heap.lt_size (show h.get? a=some _ from x)
 |ext φ=>obtain⟨_,⟨_,e⟩,_⟩:=x;exact Heap.lt_size e
theorem Paired.Jh{α β:Type}{F G:α->β->Prop}:∀{l₁:List α}{l₂:List β},Paired F l₁ l₂->(∀a b,F a b->G a b)->Paired G l₁ l₂
 |_,_,.nil,_=>.nil
 |_,_,.cons r t,f=>.cons (f _ _ r) (Paired.Jh t f)
theorem bH.ko(x:bH P w H h a o)(k:∀b u,(b=a\/H b=some (.own a))->h.get? b=some u->h'.get? b=some u)(ho:∀b,H b=some (.own a)->H' b=some (.own a))(ht:∀b xs,H b=some (.tup xs)->H' b=some (.tup xs)):bH P w H' h' a o:=by
 induction o with
 |lst xs=>obtain⟨z,aS,n,r,e⟩:=x;exact⟨z,aS,n,r,k _ _ (.inl rfl) e⟩
 |tup xs=>obtain⟨z,aS,r,ob,e,c⟩:=x;exact⟨z,aS,r,ob,k _ _ (.inl rfl) e,c⟩
 |dK lw=>obtain⟨z,y,vs,r,ob,es,ep,e,c⟩:=x;exact⟨z,y,vs,r,ob,es,ep,k _ _ (.inl rfl) e,c⟩
 |dT lw =>
  obtain⟨z,y,xs,r,ob,es,ep,e,c⟩:=x;exact⟨z,y,xs,Paired.Jh r λp q z=>⟨z.1,ht _ _ z.2.1,z.2.2⟩,ob,es,ep,k _ _ (.inl rfl) e,c⟩
 |set S n=>obtain⟨ob,es,ep,t,e,c⟩:=x;exact⟨ob,es,ep,t,k _ _ (.inl rfl) e,c⟩
 |ins C dx fs =>
  obtain⟨d,z,ne,e,mA,⟨od,es,ep,e2,c⟩,r⟩:=x;exact⟨ho _ d,z,ne,k _ _ (.inl rfl) e,mA,⟨od,es,ep,k _ _ (.inr d) e2,c⟩,r⟩
 |own y=>obtain⟨ob,e⟩:=x;exact⟨ob,k _ _ (.inl rfl) e⟩
 |xd fs=>obtain⟨mA,⟨od,es,ep,e,c⟩,r⟩:=x;exact⟨mA,⟨od,es,ep,k _ _ (.inl rfl) e,c⟩,r⟩
 |PH lo hi=>obtain⟨t,u,v,e⟩:=x;exact⟨t,u,v,k _ _ (.inl rfl) e⟩
 |BH ob u ih=>obtain⟨e,q⟩:=x;exact⟨k _ _ (.inl rfl) e,ih q⟩
 |Jg ps =>
  have e:h.get? a=some { cls:=.none,data:=.fields ps }:=x;show h'.get? a=some { cls:=.none,data:=.fields ps };exact k a _ (.inl rfl) e
 |met f y =>
  have e:h.get? a=some (W.methodObj (.ref f) (.ref y)):=x;show h'.get? a=some (W.methodObj (.ref f) (.ref y));exact k a _ (.inl rfl) e
 |ext φ=>obtain⟨p,⟨o,e⟩,st⟩:=x;exact⟨st _ _ p λo q=>k _ _ (.inl rfl) q,⟨o,k _ _ (.inl rfl) e⟩,st⟩
theorem nM.lt(x:nM P w H h)(e:H a=some o):a<h.objs.size:=(x a o e).lt
theorem nM.fresh(x:nM P w H h)(e:h.objs.size<=a):H a=none:=by
 cases q:H a with
 |none=>rfl
 |some u=>exact absurd (lt_of_lt_of_le (x.lt q) e) (lt_irrefl _)
theorem nM.kept(x:nM P w H h)(k:∀b u,h.get? b=some u->h'.get? b=some u):nM P w H h':=λa o e =>
 (x a o e).ko (λb u _ q=>k b u q) (λ_ q=>q) λ_ _ q=>q
theorem nM.laid(x:nM P w H h)(k:∀b u,h.get? b=some u->h'.get? b=some u)(hp:h.objs.size<=a)(new:bH P w (upd H a o) h' a o):nM P w (upd H a o) h':=λb u e=>by
 have hn:=x.fresh hp;by_cases hb:b=a
 ·subst hb;rw[aC]at e;cases e;exact new
 rw[aM hb]at e;exact(x b u e).ko (λc v _ q=>k c v q) (λc q=>by rw[aM (aq q hn)];exact q) λc xs q=>by rw[aM (aq q hn)];exact q
end
def Rd(H:Hp)(a:Addr)(u:HO):Prop:=H a=some u\/∃o,H a=some (.BH o u)
theorem Rd.ok{P:Program}{w:World}{H:Hp}{h:Heap}{a:Addr}{u:HO}(r:Rd H a u)(x:nM P w H h):bH P w H h a u:=by
 rcases r with r|⟨o,r⟩
 ·exact x a u r
 obtain⟨_,q⟩:=x a _ r;exact q
def Lc:Option HO->Prop
 |some (.lst _)=>True
 |some (.dK _)=>True
 |some (.dT _)=>True
 |some (.set _ _)=>True
 |some (.ins _ _ _)=>True
 |some (.ext _)=>True
 |_=>False
section
variable{P:Program}{w:World}{H:Hp}{h h':Heap}{x e:Addr}{o':HO}
theorem nM.write(ok:nM P w H h)(mu:Lc (H x))(he:e=x\/H e=some (.own x))(k:∀b u,b≠e->h.get? b=some u->h'.get? b=some u)(Ld:∃u,h'.get? e=some u)(new:bH P w (upd H x o') h' x o'):nM P w (upd H x o') h':=λb u q=>by
 have L9:∀c y,H c=some (.own y)->c≠x:=λc y r z=>by subst z;rw[r]at mu;exact mu
 have PJ:∀c xs,H c=some (.tup xs)->c≠x:=λc xs r z=>by subst z;rw[r]at mu;exact mu
 by_cases hb:b=x
 ·subst hb;rw[aC]at q;cases q;exact new
 rw[aM hb]at q;by_cases Ji:b=e
 ·have q':H b=some (.own x):=by
   rcases he with z|z
   ·exact absurd (Ji.trans z) hb
   rw[Ji];exact z
  rw[q]at q';cases q';obtain⟨v,hv⟩:=Ld;exact⟨v,by rw[Ji];exact hv⟩
 refine(ok b u q).ko (λc v hc r=>k c v ?_ r) (λc r=>by rw[aM (L9 c b r)];exact r) λc xs r=>by rw[aM (PJ c xs r)];exact r
 rcases hc with rfl|hc
 ·exact Ji
 rintro rfl;rcases he with z|z
 ·exact L9 c b hc z
 rw[hc]at z;cases z;exact hb rfl
end
structure Un(fs ex:List Addr)(H H':Hp)(h h':Heap):Prop where
 keep:∀b o,h.get? b=some o->H b=none->b∉fs->b∉ex->h'.get? b=some o
 slot:∀b o,h.get? b=some o->H b=none->b∈fs->b∉ex->∃sl,h'.get? b=some { o with slots:=sl }
 free:∀b o,h.get? b=some o->H b=none->b∉ex->H' b=none
 there:∀b o,h.get? b=some o->b∉ex->∃o',h'.get? b=some o'
 xw:∀b xs,H b=some (.tup xs)->H' b=some (.tup xs)
 vn:∀b o u,H b=some (.BH o u)->H' b=some (.BH o u)
 xx:∀b ps,H b=some (.Jg ps)->∃more,H' b=some (.Jg (ps++more))
section
variable{fs PK ex Tc:List Addr}{H H1 H2:Hp}{h h1 h2 h':Heap}{a x e:Addr}{o:HO}
theorem Un.any(u:Un fs ex H H1 h h1){b:Addr}{ob:Obj}(q:h.get? b=some ob)(n:H b=none)(hx:b∉ex):∃sl,h1.get? b=some { ob with slots:=sl }:=by
 by_cases hb:b∈fs
 ·exact u.slot b ob q n hb hx
 exact⟨ob.slots,u.keep b ob q n hb hx⟩
theorem Un.kept(k:∀b u,h.get? b=some u->h'.get? b=some u):Un fs ex H H h h' :=
 ⟨λb ob q _ _ _=>k b ob q,λb ob q _ _ _=>⟨ob.slots,k b ob q⟩,λ_ _ _ n _=>n,λb ob q _=>⟨ob,k b ob q⟩,λ_ _ q=>q,λ_ _ _ q=>q,λ_ ps q=>⟨#[],by rw[q];simp⟩⟩
theorem Un.refl:Un fs ex H H h h:=Un.kept λ_ _ q=>q
theorem Un.laid(k:∀b u,h.get? b=some u->h'.get? b=some u)(hp:h.objs.size<=a)(hn:H a=none):Un fs ex H (upd H a o) h h' where
 keep:=λb u q _ _ _=>k b u q
 slot:=λb u q _ _ _=>⟨u.slots,k b u q⟩
 free:=λb u q n _=>by rw[aM (ne_of_lt (lt_of_lt_of_le (Heap.lt_size q) hp))];exact n
 there:=λb u q _=>⟨u,k b u q⟩
 xw:=λb xs q=>by rw[aM (aq q hn)];exact q
 vn:=λb u xs q=>by rw[aM (aq q hn)];exact q
 xx:=λb ps q=>⟨#[],by rw[aM (aq q hn),q];simp⟩
theorem Un.write(mu:Lc (H x))(he:e=x\/H e=some (.own x))(k:∀b u,b≠e->h.get? b=some u->h'.get? b=some u)(Ld:∃u,h'.get? e=some u):Un fs ex H (upd H x o) h h':=by
 have hx:∀b,H b=none->b≠x:=λb n z=>by subst z;rw[n]at mu;exact mu
 have hb:∀b,H b=none->b≠e:=λb n z=>by
  subst z;rcases he with r|r
  ·exact hx b n r
  rw[n]at r;cases r
 have hm:∀b u,H b=some u->¬Lc (some u)->b≠x:=λb u q nm z=>by subst z;rw[q]at mu;exact nm mu
 refine⟨λb u q n _ _=>k b u (hb b n) q,λb u q n _ _=>⟨u.slots,k b u (hb b n) q⟩,λb u q n _=>by rw[aM (hx b n)];exact n,λb u q _=>?_,
  λb xs q=>by rw[aM (hm b _ q λz=>z)];exact q,λb u xs q=>by rw[aM (hm b _ q λz=>z)];exact q,λb ps q=>⟨#[],by rw[aM (hm b _ q λz=>z),q];simp⟩⟩
 by_cases Ji:b=e
 ·subst Ji;exact Ld
 exact⟨u,k b u Ji q⟩
end
def MA(h:Heap)(H:Hp):List Addr:=(List.range h.objs.size).filter λa=>(H a).isSome
def vo(h:Heap)(H:Hp):Heap:=W.hideAll h (MA h H)
theorem CH(h:Heap)(H:Hp):(vo h H).objs.size=h.objs.size:=W.hideAll_size _ _
theorem Dl{h:Heap}{H:Hp}{b:Addr}{o:Obj}(e:h.get? b=some o)(n:H b=none):(vo h H).get? b=some o :=
 W.hideAll_get _ e λhm=>by have q:(H b).isSome=true:=(List.mem_filter.mp hm).2;rw[n]at q;simp at q
theorem GH{h:Heap}{H:Hp}{b:Addr}{o:Obj}(e:(vo h H).get? b=some o):h.get? b=some o/\H b=none:=by
 have e':h.get? b=some o:=W.of_hideAll (MA h H) e;refine⟨e',?_⟩;cases q:H b with
 |none=>rfl
 |some x =>
  have hm:b∈MA h H:=List.mem_filter.mpr ⟨List.mem_range.mpr (Heap.lt_size e'),by simp[q]⟩;have z:(vo h H).get? b=none:=W.hideAll_none (MA h H) hm;rw[z]at e;cases e
structure Mod(K:W.Frag)(mg:Str->Option Value)(base:Heap):Prop where
 Iq:K.In base
 glob:base.Ns mainGlobals mg
 blt:∃mb,base.Ns builtinsNs mb/\∀x:Str,x≠"__name__"->mb x=bootBuiltins x
 nolimit:base.NoLimit
structure Cx where
 prog:Program
 w:World
 K:W.Frag
 mg:Str->Option Value
 base:Heap
 A:Around
 N:List Str
 s₀:Shared
 H₀:Hp
 env:Env
 outer:List Env
 stack:List Env
 ex:List Addr
 fn:Str->Bool
 calm:Bool
 pn:List (Addr×Obj)
 xe:Value->Shared->Prop
def CI(l:List Env):List Addr:=l.filterMap (·.frame)
abbrev Cx.fs(X:Cx):List Addr:=CI X.outer
def MB(sc:Scope)(x:Str):Prop:=sc.names.lookup x=some .local\/sc.names.lookup x=some .cell\/sc.names.lookup x=some .free
def Loc(sc:Scope)(x:Str):Prop:=sc.names.lookup x=some .local\/sc.names.lookup x=some .cell
def Look(env:Env)(h:Heap)(m:Str->Option Value)(x:Str)(u:Value):Prop :=
 (env.kindOf x=some .local/\m x=some u)\/((env.kindOf x=some .cell\/env.kindOf x=some .free)/\∃c,env.cells.lookup x=some c/\h.IsCell c (some u))
structure Cx.Ok(X:Cx):Prop where
 mod:Mod X.K X.mg X.base
 kind:X.env.scope.kind=.function
 glob:X.env.globals=mainGlobals
 blt:X.env.builtins=builtinsNs
 above:X.s₀.heap.objs.size<=X.env.locals
 inj:∀x y c,X.env.cells.lookup x=some c->X.env.cells.lookup y=some c->x=y
 has:∀x,(X.env.kindOf x=some .cell\/X.env.kindOf x=some .free)->∃c,X.env.cells.lookup x=some c
 Jj:∀x c,X.fn x=true->X.env.cells.lookup x=some c->X.s₀.heap.objs.size<=c
 hd:X.calm=true->X.A.handled=none
 frames:X.A.frames=some X.stack
 OQ:X.stack=X.outer\/(X.stack=X.env::X.outer/\X.env.frame=some X.env.locals)
 MC:∀b∈X.ex,b≠X.env.locals/\∀x c,X.env.cells.lookup x=some c->c≠b
 bs:∀b o,X.base.get? b=some o->X.s₀.heap.get? b=some o/\X.H₀ b=none
 GI:X.base.objs.size<=X.s₀.heap.objs.size
 zj:∀b o,X.base.get? b=some o->b∉X.ex
 zk:∀b∈X.ex,b∉X.fs
 qz:X.s₀.heap.FunFrames X.base X.outer
 Jk:∀b∈X.fs,X.H₀ b=none
structure Inv(X:Cx)(io:List (Addr×Obj))(σ:List (Option V))(H:Hp)(s:Shared):Prop where
 ok:X.Ok
 os:s.os=X.s₀.os
 bare:AllBare s.gens
 base:Un X.fs X.ex X.H₀ H X.s₀.heap s.heap
 loc:∃m,s.heap.Ns X.env.locals m/\∀(i:Nat)(x:Str)(v:V),X.N[i]?=some x->σ[i]?=some (some v)->MB X.env.scope x->∃u,RelV v u/\Look X.env s.heap m x u
 cell:∀x c,X.env.cells.lookup x=some c->∃v,s.heap.IsCell c v
 free:H X.env.locals=none
 kX:∀x c,X.env.cells.lookup x=some c->H c=none
 pin:∀p∈X.pn++io,s.heap.get? p.1=some p.2/\H p.1=none/\p.1≠X.env.locals/\p.1∉X.fs/\∀v,p.2.data≠.cell v
 bE:nM X.prog X.w H s.heap
 len:σ.length=X.N.length
section
variable{X:Cx}{io:List (Addr×Obj)}{σ:List (Option V)}{H H':Hp}{s:Shared}{h':Heap}
theorem Cx.Ok.PL(ok:X.Ok){b:Addr}{o:Obj}(e:X.base.get? b=some o):b∉X.fs:=λhb=>by have:=(ok.qz.mem hb).1;rw[e]at this;cases this
theorem Inv.bs(I:Inv X io σ H s):∀b o,X.base.get? b=some o->s.heap.get? b=some o/\H b=none:=λb o e =>
 ⟨I.base.keep b o (I.ok.bs b o e).1 (I.ok.bs b o e).2 (I.ok.PL e) (I.ok.zj b o e),I.base.free b o (I.ok.bs b o e).1 (I.ok.bs b o e).2 (I.ok.zj b o e)⟩
theorem Inv.bk(I:Inv X io σ H s):∀b o,X.base.get? b=some o->s.heap.get? b=some o:=λb o e=>(I.bs b o e).1
theorem Inv.mod(I:Inv X io σ H s):Mod X.K X.mg X.base:=I.ok.mod
theorem Inv.qZ(I:Inv X io σ H s):X.K.In s.heap:=I.ok.mod.Iq.keeps I.bk
theorem Inv.lt(I:Inv X io σ H s):X.env.locals<s.heap.objs.size:=let⟨_,hn,_⟩:=I.loc;hn.lt
theorem Inv.sz(I:Inv X io σ H s):X.s₀.heap.objs.size<=s.heap.objs.size:=le_trans I.ok.above (Nat.le_of_lt I.lt)
theorem Inv.PM(I:Inv X io σ H s){a:Addr}(h:s.heap.objs.size<=a):a∉X.fs:=λhb=>by obtain⟨_,o,ho,_⟩:=I.ok.qz.mem hb;exact absurd (lt_of_lt_of_le (Heap.lt_size ho) (le_trans I.sz h)) (lt_irrefl _)
theorem Inv.Jl(I:Inv X io σ H s):∀x c,X.env.cells.lookup x=some c->c≠X.env.locals:=λx c e z=>by obtain⟨v,o,ho,hd⟩:=I.cell x c e;obtain⟨m,⟨o',es,ep,xp,uA,_⟩,_⟩:=I.loc;rw[z,xp]at ho;cases ho;rw[uA]at hd;cases hd
theorem Inv.qz(I:Inv X io σ H s):s.heap.FunFrames X.base X.outer:=by
 have all:∀(l:List Env),(∀b∈CI l,b∈X.fs)->X.s₀.heap.FunFrames X.base l->s.heap.FunFrames X.base l:=by
  intro l
  induction l with
  |nil=>intro _ _;trivial
  |cons env r ih =>
   intro hs hl;obtain⟨hk,⟨L,o,hf,hn,ho,hd⟩,hr⟩:=hl;have hL:L∈X.fs:=hs L (by unfold CI;rw[List.filterMap_cons,hf];exact mem_cons_self);obtain⟨sl,e⟩:=I.base.slot L o ho (I.ok.Jk L hL) hL λz=>I.ok.zk L z hL;exact⟨hk,⟨L,_,hf,hn,e,hd⟩,ih (λb hb=>hs b (by unfold CI;rw[List.filterMap_cons,hf];exact mem_cons_of_mem _ hb)) hr⟩
 exact all X.outer (λ_ hb=>hb) I.ok.qz
theorem Inv.stack(I:Inv X io σ H s):s.heap.FunFrames X.base X.stack:=by
 rcases I.ok.OQ with e|⟨e,hf⟩
 ·rw[e];exact I.qz
 rw[e];obtain⟨m,hn,_⟩:=I.loc;refine .cons (by rw[I.ok.kind];decide) hf hn ?_ I.qz;exact Heap.get?_none_of_le (le_trans I.ok.GI I.ok.above)
theorem Inv.zm(I:Inv X io σ H s):∀b∈CI X.stack,b∈X.env.locals::X.fs:=λb hb=>by
 rcases I.ok.OQ with e|⟨e,hf⟩
 ·rw[e]at hb;exact mem_cons_of_mem _ hb
 rw[e]at hb;unfold CI at hb;rw[List.filterMap_cons,hf]at hb;exact hb
theorem Inv.BI(I:Inv X io σ H s):∀b∈CI X.stack,H b=none:=λb hb=>by
 rcases mem_cons.mp (I.zm b hb)with e|hb
 ·rw[e];exact I.free
 obtain⟨_,o,ho,_⟩:=I.ok.qz.mem hb;exact I.base.free b o ho (I.ok.Jk b hb) λz=>I.ok.zk b z hb
theorem Inv.step{g':Array GenState}{t':Nat}{d':Drawn}{ch:List Addr}(I:Inv X io σ H s)(F5:∀b∈ch,(b∈X.ex\/X.s₀.heap.objs.size<=b)/\b≠X.env.locals/\(∀x c,X.env.cells.lookup x=some c->c≠b)/\∀p∈X.pn++io,p.1≠b)(keep:∀b o,b≠X.env.locals->b∉X.fs->b∉ch->s.heap.get? b=some o->H b=none->h'.get? b=some o)(slot:∀b o,b≠X.env.locals->b∈X.fs->b∉ch->s.heap.get? b=some o->H b=none->∃sl,h'.get? b=some { o with slots:=sl })(free:∀b o,b∉ch->s.heap.get? b=some o->H b=none->H' b=none)(there:∀b o,b∉ch->s.heap.get? b=some o->∃o',h'.get? b=some o')(xw:∀b xs,H b=some (.tup xs)->H' b=some (.tup xs))(vn:∀b o u,H b=some (.BH o u)->H' b=some (.BH o u))(xx:∀b ps,H b=some (.Jg ps)->∃more,H' b=some (.Jg (ps++more)))(ns:∀m,s.heap.Ns X.env.locals m->h'.Ns X.env.locals m)(bE:nM X.prog X.w H' h')(hg:AllBare g'):
  Inv X io σ H' { s with heap:=h',gens:=g',drawn:=d',toks:=t' }:=by
 have Rh:∀b o,X.s₀.heap.get? b=some o->b≠X.env.locals:=λb o e=>ne_of_lt (lt_of_lt_of_le (Heap.lt_size e) I.ok.above);have OR:∀b o,X.s₀.heap.get? b=some o->b∉X.ex->b∉ch:=λb o e hx hb=>by
  rcases(F5 b hb).1 with z|z
  ·exact hx z
  exact absurd (lt_of_lt_of_le (Heap.lt_size e) z) (lt_irrefl _)
 have cellK:∀x c,X.env.cells.lookup x=some c->∀v,s.heap.IsCell c v->h'.IsCell c v:=λx c e v ⟨o,ho,hd⟩=>by
  have MD:c∉ch:=λz=>(F5 c z).2.2.1 x c e rfl;by_cases hc:c∈X.fs
  ·obtain⟨sl,q⟩:=slot c o (I.Jl x c e) hc MD ho (I.kX x c e);exact⟨_,q,hd⟩
  exact⟨o,keep c o (I.Jl x c e) hc MD ho (I.kX x c e),hd⟩
 refine⟨I.ok,I.os,hg,⟨λb o e n hb hx=>?_,λb o e n hb hx=>?_,λb o e n hx=>?_,λb o e hx=>?_,λb xs e=>xw b xs (I.base.xw b xs e),λb o xs e=>vn b o xs (I.base.vn b o xs e),λb ps e=>?_⟩,?_,λx c e=>?_,?_,λx c e=>?_,λp hp=>?_,bE,I.len⟩
 ·exact keep b o (Rh b o e) hb (OR b o e hx) (I.base.keep b o e n hb hx) (I.base.free b o e n hx)
 ·obtain⟨sl,e1⟩:=I.base.slot b o e n hb hx;obtain⟨PN,e2⟩:=slot b _ (Rh b o e) hb (OR b o e hx) e1 (I.base.free b o e n hx);exact⟨PN,e2⟩
 ·obtain⟨o',e1⟩:=I.base.there b o e hx;exact free b o' (OR b o e hx) e1 (I.base.free b o e n hx)
 ·obtain⟨o',e1⟩:=I.base.there b o e hx;exact there b o' (OR b o e hx) e1
 ·obtain⟨m1,e1⟩:=I.base.xx b ps e;obtain⟨m2,e2⟩:=xx b _ e1;exact⟨m1++m2,by rw[e2,Array.append_assoc]⟩
 ·obtain⟨m,hn,hl⟩:=I.loc;refine⟨m,ns m hn,λi x v e1 e2 e3=>?_⟩;obtain⟨u,r,l⟩:=hl i x v e1 e2 e3;refine⟨u,r,?_⟩;rcases l with l|⟨k,c,e,z⟩
  ·exact .inl l
  exact .inr ⟨k,c,e,cellK x c e _ z⟩
 ·obtain⟨v,z⟩:=I.cell x c e;exact⟨v,cellK x c e v z⟩
 ·obtain⟨m,⟨o,_,_,ho,_⟩,_⟩:=I.loc;exact free _ o (λz=>(F5 _ z).2.1 rfl) ho I.free
 ·obtain⟨v,o,ho,hd⟩:=I.cell x c e;exact free c o (λz=>(F5 c z).2.2.1 x c e rfl) ho (I.kX x c e)
 obtain⟨e,n,ne,nf,d⟩:=I.pin p hp;have MD:p.1∉ch:=λz=>(F5 p.1 z).2.2.2 p hp rfl;exact⟨keep p.1 p.2 ne nf MD e n,free p.1 p.2 MD e n,ne,nf,d⟩
theorem Inv.un{t':Nat}(I:Inv X io σ H s)(u:Un X.fs [] H H' s.heap h')(bE:nM X.prog X.w H' h'):Inv X io σ H' { s with heap:=h',toks:=t' }:=by
 obtain⟨m,⟨o,es,ep,ho,r⟩,_⟩:=id I.loc;obtain⟨sl,hL⟩:=u.any ho I.free (by simp);exact I.step (g':=s.gens) (d':=s.drawn) (ch:=[]) (λ_ z=>nomatch z) (λb o _ hb _ e n=>u.keep b o e n hb (by simp)) (λb o _ hb _ e n=>u.slot b o e n hb (by simp)) (λb o _ e n=>u.free b o e n (by simp)) (λb o _ e=>u.there b o e (by simp)) u.xw u.vn u.xx (λm' hm=>by obtain⟨o',PQ,PR,xp,r'⟩:=hm;rw[ho]at xp;cases xp;exact⟨_,PQ,PR,hL,r'⟩) bE I.bare
theorem Inv.call{g':Array GenState}{t':Nat}{d':Drawn}{ch:List Addr}(I:Inv X io σ H s)(u:Un (CI X.stack) ch H H' s.heap h')(bE:nM X.prog X.w H' h')(hg:AllBare g')(F5:∀b∈ch,(b∈X.ex\/X.s₀.heap.objs.size<=b)/\b≠X.env.locals/\(∀x c,X.env.cells.lookup x=some c->c≠b)/\∀p∈X.pn++io,p.1≠b):
  Inv X io σ H' { s with heap:=h',gens:=g',drawn:=d',toks:=t' }:=by
 obtain⟨m,⟨o,es,ep,ho,r⟩,_⟩:=id I.loc;obtain⟨sl,hL⟩:=u.any ho I.free λz=>(F5 _ z).2.1 rfl;exact I.step (ch:=ch) F5 (λb o hL hb hc e n=>u.keep b o e n (λz=>(mem_cons.mp (I.zm b z)).elim hL hb) hc) (λb o _ _ hc e n=>u.any e n hc) (λb o hc e n=>u.free b o e n hc) (λb o hc e=>u.there b o e hc) u.xw u.vn u.xx (λm' hm=>by obtain⟨o',PQ,PR,xp,r'⟩:=hm;rw[ho]at xp;cases xp;exact⟨_,PQ,PR,hL,r'⟩) bE hg
theorem Inv.turned{t':Nat}{it:Addr}(I:Inv X io σ H s)(k:∀b o,b≠it->s.heap.get? b=some o->h'.get? b=some o)(hn:H it=none)(hL:it≠X.env.locals)(h1:it∈X.ex\/X.s₀.heap.objs.size<=it)(h2:∀x c,X.env.cells.lookup x=some c->c≠it)(h3:∀p∈X.pn++io,p.1≠it):Inv X io σ H { s with heap:=h',toks:=t' }:=by
 have Ri:∀b u,H b=some u->b≠it:=λb u e z=>by rw[z,hn]at e;cases e
 refine I.step (g':=s.gens) (d':=s.drawn) (ch:=[it]) (λb hb=>?_) (λb o _ _ hc e _=>k b o (λz=>hc (by simp[z])) e) (λb o _ _ hc e _=>⟨o.slots,k b o (λz=>hc (by simp[z])) e⟩) (λ_ _ _ _ n=>n)
  (λb o hc e=>⟨o,k b o (λz=>hc (by simp[z])) e⟩) (λ_ _ e=>e) (λ_ _ _ e=>e) (λb ps e=>⟨#[],by rw[e];simp⟩) (λm hm=>?_) (λb u e=>?_) I.bare
 ·have e:b=it:=by simpa using hb
  subst e;exact⟨h1,hL,h2,h3⟩
 ·obtain⟨o,es,ep,ho,r⟩:=hm;exact⟨o,es,ep,k _ o (Ne.symm hL) ho,r⟩
 refine(I.bE b u e).ko (λc v hc q=>k c v ?_ q) (λ_ q=>q) λ_ _ q=>q;rcases hc with z|z
 ·rw[z];exact Ri b u e
 exact Ri c _ z
theorem Inv.tok(I:Inv X io σ H s)(t:Nat):Inv X io σ H { s with toks:=t }:=I.un (h':=s.heap) (t':=t) Un.refl I.bE
theorem Inv.kept{t':Nat}(I:Inv X io σ H s)(k:∀b u,s.heap.get? b=some u->h'.get? b=some u):Inv X io σ H { s with heap:=h',toks:=t' }:=I.un (Un.kept k) (I.bE.kept k)
theorem Inv.laid{a:Addr}{o:HO}{t':Nat}(I:Inv X io σ H s)(k:∀b u,s.heap.get? b=some u->h'.get? b=some u)(hp:s.heap.objs.size<=a)(new:bH X.prog X.w (upd H a o) h' a o):
  Inv X io σ (upd H a o) { s with heap:=h',toks:=t' }:=I.un (Un.laid k hp (I.bE.fresh hp)) (I.bE.laid k hp new)
theorem Inv.write{x e:Addr}{o:HO}{t':Nat}(I:Inv X io σ H s)(mu:Lc (H x))(he:e=x\/H e=some (.own x))(k:∀b u,b≠e->s.heap.get? b=some u->h'.get? b=some u)(Ld:∃u,h'.get? e=some u)(new:bH X.prog X.w (upd H x o) h' x o):Inv X io σ (upd H x o) { s with heap:=h',toks:=t' }:=I.un (Un.write mu he k Ld) (I.bE.write mu he k Ld new)
theorem Inv.BJ{Ir:List (Addr×Obj)}(I:Inv X io σ H s)(h:∀p∈Ir,s.heap.get? p.1=some p.2/\H p.1=none/\p.1≠X.env.locals/\p.1∉X.fs/\∀v,p.2.data≠.cell v):Inv X Ir σ H s :=
 ⟨I.ok,I.os,I.bare,I.base,I.loc,I.cell,I.free,I.kX,λp hp=>(mem_append.mp hp).elim (λz=>I.pin p (mem_append_left _ z)) (h p),I.bE,I.len⟩
theorem xy{N:List Str}(hN:N.Nodup){i j:Nat}{x:Str}(a:N[i]?=some x)(b:N[j]?=some x):i=j:=by obtain⟨h1,e1⟩:=List.getElem?_eq_some_iff.mp a;obtain⟨h2,e2⟩:=List.getElem?_eq_some_iff.mp b;exact(List.getElem_inj hN).mp (e1.trans e2.symm)
theorem uz{M:Model}{A:Around}{E:Value->Shared->Prop}{i:Nat}{x:Str}{v:V}{u:Value}{Q:Unit->Shared->Prop}(I:Inv X io σ H s)(hN:X.N.Nodup)(hi:X.N[i]?=some x)(hx:Loc X.env.scope x)(r:RelV v u)(h:∀s',Inv X io (σ.set i (some v)) H s'->(∃a,Heap.SameBut a s.heap s'.heap/\(a=X.env.locals\/X.env.cells.lookup x=some a))->Q () s')(hf:X.fn x=true\/X.env.scope.names.lookup x=some .local:=by first|exact .inl rfl|exact .inr rfl|assumption):wpAny M A (storeName X.env x u) Q E s:=by
 obtain⟨m,hn,hl⟩:=id I.loc;have PU:(X.env.scope.kind==.class||(X.env.scope.kind==.module&&X.env.locals != X.env.globals))=false:=by rw[I.ok.kind];rfl
 have hiσ:i<σ.length:=by rw[I.len];exact(List.getElem?_eq_some_iff.mp hi).1
 have Jl:=I.Jl;have tracked:∀{a:Addr}{h':Heap},(∃o,s.heap.get? a=some o/\H a=none)->Heap.SameBut a s.heap h'->nM X.prog X.w H h':=λ{a h'} ha hs b ob e=>by
  obtain⟨_,_,Iu⟩:=ha;refine(I.bE b ob e).ko (λc w' hc q=>(hs.2 c ?_).trans q) (λ_ q=>q) λ_ _ q=>q;rintro rfl;rcases hc with rfl|hc
  ·rw[Iu]at e;cases e
  rw[Iu]at hc;cases hc
 rcases hx with hk|hk
 ·refine wpAny_storeName_local hk hn (λh' DZ hs=>?_) PU;obtain⟨oL,_,_,CJ,_⟩:=id hn;refine h _ ⟨I.ok,I.os,I.bare,⟨λb o e n hb hx=>?_,λb o e n hb hx=>?_,I.base.free,λb o e hx=>?_,I.base.xw,I.base.vn,I.base.xx⟩,⟨_,DZ,λj y v' e1 e2 e3=>?_⟩,λy c e=>?_,I.free,I.kX,λp hp=>?_,tracked ⟨oL,CJ,I.free⟩ hs,by simpa using I.len⟩ ⟨_,hs,.inl rfl⟩
  ·exact(hs.2 b (ne_of_lt (lt_of_lt_of_le (Heap.lt_size e) I.ok.above))).trans (I.base.keep b o e n hb hx)
  ·obtain⟨sl,e1⟩:=I.base.slot b o e n hb hx;exact⟨sl,(hs.2 b (ne_of_lt (lt_of_lt_of_le (Heap.lt_size e) I.ok.above))).trans e1⟩
  ·obtain⟨o',e1⟩:=I.base.there b o e hx;exact⟨o',(hs.2 b (ne_of_lt (lt_of_lt_of_le (Heap.lt_size e) I.ok.above))).trans e1⟩
  ·by_cases hj:j=i
   ·subst hj;rw[hi]at e1;cases e1;rw[List.getElem?_set_self hiσ]at e2;cases e2;exact⟨u,r,.inl ⟨hk,by simp⟩⟩
   rw[List.getElem?_set_ne (Ne.symm hj)]at e2;obtain⟨u',r',q⟩:=hl j y v' e1 e2 e3;refine⟨u',r',?_⟩;rcases q with⟨k,e⟩|⟨k,c,e,z⟩
   ·refine .inl ⟨k,?_⟩;have:y≠x:=λe=>hj (xy hN e1 (e▸hi));simp[this,e]
   exact .inr ⟨k,c,e,z.sameBut hs (Jl y c e)⟩
  ·obtain⟨w',z⟩:=I.cell y c e;exact⟨w',z.sameBut hs (Jl y c e)⟩
  obtain⟨e,n,ne,nf,d⟩:=I.pin p hp;exact⟨(hs.2 p.1 ne).trans e,n,ne,nf,d⟩
 have PV:X.fn x=true:=by
  rcases hf with z|z
  ·exact z
  rw[z]at hk;cases hk
 obtain⟨c,hc⟩:=I.ok.has x (.inl hk);obtain⟨w',z⟩:=I.cell x c hc;refine wpAny_storeName_cell I.ok.kind hk hc z (λh' OS hs=>?_);obtain⟨oc,Rj,PX⟩:=id z;refine h { s with heap:=h' } ⟨I.ok,I.os,I.bare,⟨λb o e n hb hx=>?_,λb o e n hb hx=>?_,I.base.free,λb o e hx=>?_,I.base.xw,I.base.vn,I.base.xx⟩,⟨m,hn.sameBut hs (Ne.symm (Jl x c hc)),λj y v' e1 e2 e3=>?_⟩,λy c' e=>?_,I.free,I.kX,λp hp=>?_,tracked ⟨oc,Rj,I.kX x c hc⟩ hs,by simpa using I.len⟩ ⟨c,hs,.inr hc⟩
 ·exact(hs.2 b (ne_of_lt (lt_of_lt_of_le (Heap.lt_size e) (I.ok.Jj x c PV hc)))).trans (I.base.keep b o e n hb hx)
 ·obtain⟨sl,e1⟩:=I.base.slot b o e n hb hx;exact⟨sl,(hs.2 b (ne_of_lt (lt_of_lt_of_le (Heap.lt_size e) (I.ok.Jj x c PV hc)))).trans e1⟩
 ·obtain⟨o',e1⟩:=I.base.there b o e hx;exact⟨o',(hs.2 b (ne_of_lt (lt_of_lt_of_le (Heap.lt_size e) (I.ok.Jj x c PV hc)))).trans e1⟩
 ·by_cases hj:j=i
  ·subst hj;rw[hi]at e1;cases e1;rw[List.getElem?_set_self hiσ]at e2;cases e2;exact⟨u,r,.inr ⟨.inl hk,c,hc,OS⟩⟩
  rw[List.getElem?_set_ne (Ne.symm hj)]at e2;obtain⟨u',r',q⟩:=hl j y v' e1 e2 e3;refine⟨u',r',?_⟩;rcases q with q|⟨k,c',e,z'⟩
  ·exact .inl q
  refine .inr ⟨k,c',e,z'.sameBut hs ?_⟩;rintro rfl;exact hj (xy hN e1 (I.ok.inj _ _ _ e hc▸hi))
 ·by_cases ME:c'=c
  ·subst ME;exact⟨_,OS⟩
  obtain⟨w2,z2⟩:=I.cell y c' e;exact⟨w2,z2.sameBut hs ME⟩
 obtain⟨e,n,ne,nf,d⟩:=I.pin p hp;refine⟨(hs.2 p.1 ?_).trans e,n,ne,nf,d⟩;intro q;rw[q,Rj]at e;have q':oc=p.2:=Option.some.inj e;exact d w' (by rw[<-q'];exact PX)
theorem rZ{M:Model}{A:Around}{E:Value->Shared->Prop}{i:Nat}{x:Str}{v:V}{u:Value}{Q:Unit->Shared->Prop}(I:Inv X io σ H s)(hN:X.N.Nodup)(hi:X.N[i]?=some x)(hx:Loc X.env.scope x)(r:RelV v u)(h:∀s',Inv X io (σ.set i (some v)) H s'->Q () s')(hf:X.fn x=true\/X.env.scope.names.lookup x=some .local:=by first|exact .inl rfl|exact .inr rfl|assumption):wpAny M A (storeName X.env x u) Q E s :=
 uz I hN hi hx r (λs' I' _=>h s' I') hf
theorem Inv.Dm{s':Shared}{ch:List Addr}(I:Inv X io σ H s)(ho:s'.os=s.os)(u:Un (CI X.stack) ch H H' s.heap s'.heap)(bE:nM X.prog X.w H' s'.heap)(hg:AllBare s'.gens)(F5:∀b∈ch,(b∈X.ex\/X.s₀.heap.objs.size<=b)/\b≠X.env.locals/\(∀x c,X.env.cells.lookup x=some c->c≠b)/\∀p∈X.pn++io,p.1≠b):Inv X io σ H' s':=by obtain⟨h',g',d',t',o'⟩:=s';have e:o'=s.os:=ho;subst e;exact I.call (g':=g') (t':=t') (d':=d') u bE hg F5
end
abbrev XK:=Value->Option Addr->Hp->Prop
abbrev St:=List (Option V)
abbrev VK:=V->Hp->Prop
abbrev TE:=St->Hp->VK->Prop
variable{X:Cx}{e b c tg l iter:Expr}{t ta tb te tl:TE}{M:Model}{A:Around}{E Q:Value->Shared->Prop}{s:Shared}{i k n:Nat}{x name m qual:Str}{pos pos' p apos:Pos}{io:List (Addr×Obj)}{σ:St}{H:Hp}{u:Value}{v:V}{a C dx:Addr}{op J4:CmpOp}{rest es:List Expr}{xs vs uD:List V}{tc:TT}{o:Option Value}{body:List Stmt}{P prog:Program}{w:World}{lo:Int}{fp:List Addr}{h base:Heap}{pl:Sem Bool}{R:Result->Shared->Prop}{f:Value->Value->Sem Value}{r:List V->Hp->VK->Prop}{g:List Value->List Value->List Value}{us ds:List Value}{mA mg:Str->Option Value}{expr:Bool}{kw:List (Str×Value)}{fs:List (Str×V)}{outer:List Env}{fd:FuncData}{ps N:List Str}{Tr:List Keyword}{nm:Option Str}{gV:List V->List V->List V}{scope:Scope}{params:Arguments}{CT:Array (Option Value)}
abbrev TT:=St->Hp->(Bool->Hp->Prop)->Prop
abbrev TA:=St->Hp->(List V->Hp->Prop)->Prop
structure Ends where
 nx:St->Hp->Prop
 rt:VK
 bk:St->Hp->Prop:=λ_ _=>False
 ct:St->Hp->Prop:=λ_ _=>False
abbrev TS:=Ends->St->Hp->Prop
def EP(X:Cx)(io:List (Addr×Obj))(σ:St)(Q:VK)(u:Value)(s':Shared):Prop:=∃v H',Inv X io σ H' s'/\RelV v u/\Q v H'
def TP(X:Cx)(io:List (Addr×Obj))(σ:St)(Q:Bool->Hp->Prop)(b:Bool)(s':Shared):Prop:=∃H',Inv X io σ H' s'/\Q b H'
def AP(X:Cx)(io:List (Addr×Obj))(σ:St)(Q:List V->Hp->Prop)(us:List Value)(s':Shared):Prop:=∃vs H',Inv X io σ H' s'/\ae vs us/\Q vs H'
def SP(X:Cx)(io:List (Addr×Obj))(D:Ends)(f:Flow)(s':Shared):Prop :=
 match f with
 |.next=>∃σ' H',Inv X io σ' H' s'/\D.nx σ' H'
 |.brk=>∃σ' H',Inv X io σ' H' s'/\D.bk σ' H'
 |.cont=>∃σ' H',Inv X io σ' H' s'/\D.ct σ' H'
 |.ret u=>∃v σ' H',Inv X io σ' H' s'/\RelV v u/\D.rt v H'
def PE(X:Cx)(e:Expr)(t:TE):Prop :=
 ∀(io:List (Addr×Obj))(s:Shared)(σ:St)(H:Hp)(Q:VK),Inv X io σ H s->t σ H Q->wpAny (model X.prog X.w) X.A (eval e X.env) (EP X io σ Q) X.xe s
def PT(X:Cx)(e:Expr)(t:TT):Prop :=
 ∀(io:List (Addr×Obj))(s:Shared)(σ:St)(H:Hp)(Q:Bool->Hp->Prop),Inv X io σ H s->t σ H Q->wpAny (model X.prog X.w) X.A (isTrue e X.env (eval e X.env)) (TP X io σ Q) X.xe s
def PW(X:Cx)(e:Expr)(t:TT):Prop :=
 ∀(whole:Sem Value)(io:List (Addr×Obj))(s:Shared)(σ:St)(H:Hp)(Q:Bool->Hp->Prop),Inv X io σ H s->t σ H Q->wpAny (model X.prog X.w) X.A (isTrue e X.env whole) (TP X io σ Q) X.xe s
theorem PW.pt{t:TT}(h:PW X e t):PT X e t:=h _
def PA(X:Cx)(es:List Expr)(t:TA):Prop :=
 ∀(pos:Pos)(io:List (Addr×Obj))(s:Shared)(σ:St)(H:Hp)(Q:List V->Hp->Prop),Inv X io σ H s->t σ H Q->wpAny (model X.prog X.w) X.A (spliced (backTo pos (starEach es X.env))) (AP X io σ Q) X.xe s
def PS(X:Cx)(st:Stmt)(t:TS):Prop :=
 ∀(io:List (Addr×Obj))(s:Shared)(σ:St)(H:Hp)(D:Ends),Inv X io σ H s->t D σ H->wpAny (model X.prog X.w) X.A (exec st X.env) (SP X io D) X.xe s
def Dc(X:Cx)(st:List Stmt)(t:TS):Prop :=
 ∀(io:List (Addr×Obj))(s:Shared)(σ:St)(H:Hp)(D:Ends),Inv X io σ H s->t D σ H->wpAny (model X.prog X.w) X.A (execs st X.env) (SP X io D) X.xe s
theorem bI{α:Type}{t:Sem α}{Q Q':α->Shared->Prop}(h:wpAny M A t Q E s)(hQ:∀a s,Q a s->Q' a s):wpAny M A t Q' E s:=wpAny_mono h hQ λ_ _ x=>x
section
def x6(i:Nat):TE:=λσ H Q=>∃v,σ[i]?=some (some v)/\Q v H
def tC(v:V):TE:=λ_ H Q=>Q v H
theorem Jm(hN:X.N[i]?=some x)(hv:MB X.env.scope x)(hd:(x==("__debug__":Str))=false:=by decide)(xq:(x==("__classdict__":Str))=false:=by decide):PE X (.Name x pos) (x6 i):=by
 intro io s σ H Q I h;obtain⟨v,e,h⟩:=h;obtain⟨m,hn,hl⟩:=I.loc;obtain⟨u,r,l⟩:=hl i x v hN e hv;have fin:EP X io σ Q u s:=⟨v,H,I,r,h⟩;rcases l with⟨hk,hm⟩|⟨hk,c,hc,u0⟩
 ·exact wpAny_Name (wpAny_loadName_local I.ok.kind hk hn hm fin) hd
 rcases hk with hk|hk
 ·exact wpAny_Name (wpAny_loadName_cell I.ok.kind hk hc u0 fin) hd
 exact wpAny_Name (wpAny_loadName_free I.ok.kind hk hc u0 fin xq) hd
theorem aD{i j pos}:PE X (.Constant (.int i) j pos) (tC (.int i)):=λ_ _ _ H _ I h=>wpAny_Constant_int ⟨.int i,H,I.tok _,⟨_,rfl⟩,h⟩
theorem eQ{b j pos}:PE X (.Constant (.bool b) j pos) (tC (.bl b)):=λ_ _ _ H _ I h=>Constant_bool ⟨.bl b,H,I,rfl,h⟩
theorem pV{j pos}:PE X (.Constant .none j pos) (tC .bu):=λ_ _ _ H _ I h=>Constant_none ⟨.bu,H,I,rfl,h⟩
theorem gZ{x j pos}:PE X (.Constant (.str x) j pos) (tC (.str x)):=λ_ _ _ H _ I h=>Calls.Constant_str ⟨.str x,H,I.tok _,⟨_,rfl⟩,h⟩
def Gl(X:Cx)(x:Str):Prop:=X.env.kindOf x=some .globalImplicit
theorem vp(I:Inv X io σ H s)(hg:Gl X x)(hm:X.mg x=some u)(h:Q u s)(hd:(x==("__debug__":Str))=false:=by decide):wpAny (model X.prog X.w) X.A (eval (.Name x pos) X.env) Q E s :=
 Calls.Name_function_global I.ok.kind hg (Calls.loadGlobal_global (by rw[I.ok.glob];exact I.mod.glob.keeps I.bk) hm h) hd
theorem pW(I:Inv X io σ H s)(hg:Gl X x)(hm:X.mg x=none)(hv:bootBuiltins x=some u)(h:Q u s)(hn:x≠"__name__":=by decide)(hd:(x==("__debug__":Str))=false:=by decide):wpAny (model X.prog X.w) X.A (eval (.Name x pos) X.env) Q E s:=by obtain⟨mb,h1,h2⟩:=I.mod.blt;exact Calls.Name_function_global I.ok.kind hg (Calls.loadGlobal_builtin (by rw[I.ok.glob];exact I.mod.glob.keeps I.bk) hm (by rw[I.ok.blt];exact h1.keeps I.bk) ((h2 x hn).trans hv) h) hd
theorem GJ(hg:Gl X x)(hm:X.mg x=some u)(r:RelV v u)(hd:(x==("__debug__":Str))=false:=by decide):PE X (.Name x pos) (tC v) :=
 λ_ _ _ H _ I h=>vp I hg hm ⟨v,H,I,r,h⟩ hd
theorem GK(hg:Gl X x)(hm:X.mg x=none)(hv:bootBuiltins x=some u)(r:RelV v u)(hn:x≠"__name__":=by decide)(hd:(x==("__debug__":Str))=false:=by decide):PE X (.Name x pos) (tC v) :=
 λ_ _ _ H _ I h=>pW I hg hm hv ⟨v,H,I,r,h⟩ hn hd
variable{a:Expr}
def PC(X:Cx)(op:CmpOp)(a b:Expr)(t:TE):Prop :=
 ∀(io:List (Addr×Obj))(s:Shared)(σ:St)(H:Hp)(Q:VK),Inv X io σ H s->t σ H Q ->
  wpAny (model X.prog X.w) X.A (eval a X.env) (λv s₁=>wpAny (model X.prog X.w) X.A (eval b X.env) (λu s₂=>wpAny (model X.prog X.w) X.A (compareOp op v u) (EP X io σ Q) X.xe s₂) X.xe s₁) X.xe s
def tB(t:TE):TT:=λσ H Q=>t σ H λx H1=>∃c,x=.bl c/\Q c H1
theorem Jn(h:PC X op a b t)(h1:behindInMarks op b=false:=by first|exact Dp _ (by decide) (by decide)|rfl):PE X (.Compare a [op] [b] pos) t:=λio s σ H Q I hw=>wpAny_Compare1 (h io s σ H Q I hw) h1
theorem nN(h:PC X op a b t)(h1:behindInMarks op b=false:=by first|exact Dp _ (by decide) (by decide)|rfl):PT X (.Compare a [op] [b] pos) (tB t):=by intro io s σ H Q I hw;refine wpAny_isTrue_Compare1 (bI (h io s σ H _ I hw) λv s1 h1=>bI h1 λu s2 h2=>bI h2 λc s3 ⟨x,H1,I1,r1,q1⟩=>?_) h1;obtain⟨d,rfl,q⟩:=q1;cases r1;exact wpAny_truthy_bool ⟨H1,I1,q⟩
theorem ij(h:PE X e t)(he:∀whole,isTrue e X.env whole=(do let v <- whole;standAt e.pos;holding [v] (truthy v)):=by intro _;rfl):PT X e (tB t):=by intro io s σ H Q I hw;refine isTrue_plain (bI (h io s σ H _ I hw) λv s1 ⟨x,H1,I1,r1,q1⟩=>?_) (he _);obtain⟨d,rfl,q⟩:=q1;cases r1;exact wpAny_truthy_bool ⟨H1,I1,q⟩
variable{tA MF:TT}
def PY(t u:TT):TT:=λσ H Q=>t σ H λc H1=>if c=true then u σ H1 Q else Q false H1
def Td(t u:TT):TT:=λσ H Q=>t σ H λc H1=>if c=true then Q true H1 else u σ H1 Q
def PZ(t:TT):TT:=λσ H Q=>t σ H λc H1=>Q (!c) H1
theorem iU(ha:PT X a tA):PW X (.BoolOp .And [a] pos) tA:=by
 intro wh io s σ H Q I h;refine isTrue_and (bI (ha io s σ H Q I h) λc s1 e=>?_);cases c with
 |true=>exact isTrue_and_nil e
 |false=>exact e
theorem ky(ha:PT X a tA):PW X (.BoolOp .Or [a] pos) tA:=by
 intro wh io s σ H Q I h;refine isTrue_or (bI (ha io s σ H Q I h) λc s1 e=>?_);cases c with
 |false=>exact isTrue_or_nil e
 |true=>exact e
theorem jd(ha:PT X a tA)(hb:PW X (.BoolOp .And (b::rest) pos) MF):PW X (.BoolOp .And (a::b::rest) pos) (PY tA MF):=by
 intro wh io s σ H Q I h;refine isTrue_and (bI (ha io s σ H _ I h) λc s1 ⟨H1,I1,q1⟩=>?_);cases c with
 |true=>exact hb wh io s1 σ H1 Q I1 q1
 |false=>exact⟨H1,I1,q1⟩
theorem kY(ha:PT X a tA)(hb:PW X (.BoolOp .Or (b::rest) pos) MF):PW X (.BoolOp .Or (a::b::rest) pos) (Td tA MF):=by
 intro wh io s σ H Q I h;refine isTrue_or (bI (ha io s σ H _ I h) λc s1 ⟨H1,I1,q1⟩=>?_);cases c with
 |true=>exact⟨H1,I1,q1⟩
 |false=>exact hb wh io s1 σ H1 Q I1 q1
theorem k9(ha:PT X a tA):PT X (.UnaryOp .Not a pos) (PZ tA):=by intro io s σ H Q I h;exact isTrue_not (ha io s σ H (λc H1=>Q (!c) H1) I h)
def Iv(ta tb:TE):TE:=λσ H Q=>ta σ H λx H1=>∃c,x=.bl c/\if c=true then tb σ H1 Q else Q (.bl false) H1
def Pa(ta tb:TE):TE:=λσ H Q=>ta σ H λx H1=>∃c,x=.bl c/\if c=true then Q (.bl true) H1 else tb σ H1 Q
def MG(ta:TE):TE:=λσ H Q=>ta σ H λx H1=>∃c,x=.bl c/\Q (.bl (!c)) H1
theorem pX{op}(h:PE X a t):PE X (.BoolOp op [a] pos) t:=λio s σ H Q I hw=>BoolOp_one (h io s σ H Q I hw)
theorem nO(ha:PE X a ta)(hb:PE X (.BoolOp .And (b::rest) pos) tb):PE X (.BoolOp .And (a::b::rest) pos) (Iv ta tb):=by
 intro io s σ H Q I h;refine BoolOp_and (bI (ha io s σ H _ I h) λv s1 ⟨x,H1,I1,r1,q1⟩=>?_);obtain⟨c,rfl,q1⟩:=q1;cases r1;refine wpAny_truthy_bool ?_;cases c with
 |true=>exact hb io s1 σ H1 Q I1 q1
 |false=>exact⟨.bl false,H1,I1,rfl,q1⟩
theorem MH(ha:PE X a ta)(hb:PE X (.BoolOp .Or (b::rest) pos) tb):PE X (.BoolOp .Or (a::b::rest) pos) (Pa ta tb):=by
 intro io s σ H Q I h;refine BoolOp_or (bI (ha io s σ H _ I h) λv s1 ⟨x,H1,I1,r1,q1⟩=>?_);obtain⟨c,rfl,q1⟩:=q1;cases r1;refine wpAny_truthy_bool ?_;cases c with
 |false=>exact hb io s1 σ H1 Q I1 q1
 |true=>exact⟨.bl true,H1,I1,rfl,q1⟩
theorem Jo(ha:PE X a ta):PE X (.UnaryOp .Not a pos) (MG ta):=by intro io s σ H Q I h;refine UnaryOp_ (bI (ha io s σ H _ I h) λv s1 ⟨x,H1,I1,r1,q1⟩=>?_);obtain⟨c,rfl,q1⟩:=q1;cases r1;exact not_of (wpAny_truthy_bool ⟨.bl (!c),H1,I1,rfl,q1⟩)
end
def aV(K:W.Frag)(H:Hp)(a:Addr)(xs:List V):Prop :=
 Rd H a (.lst xs) \/
  ∃(o:Obj)(aS:Array Value)(n:Nat),K.lookup a=some o/\o.cls=.type "list"/\o.dict=none/\o.data=.seq aS n/\aS.size<=sizeLine/\ae xs aS.toList
def ab(K:W.Frag)(H:Hp)(a:Addr)(xs:List V):Prop :=
 Rd H a (.tup xs) \/
  ∃(o:Obj)(aS:Array Value)(n:Nat),K.lookup a=some o/\o.cls=.type "tuple"/\o.data=.seq aS n/\aS.size<=sizeLine/\ae xs aS.toList
def Pb:Value->Option V
 |.none=>some .bu
 |.bool b=>some (.bl b)
 |.int i _=>some (.int i)
 |.str x _=>some (.str x)
 |.bytes b _=>some (.DY b)
 |.float b _=>some (.Jf b)
 |.ref a=>some (.ref a)
 |.type n=>some (.ty n)
 |_=>none
theorem RelV.abs{x:V}(r:RelV x u):Pb u=some x:=by
 cases x with
 |bu=>cases r;rfl
 |bl _=>cases r;rfl
 |int _=>obtain⟨t,rfl⟩:=r;rfl
 |str _=>obtain⟨t,rfl⟩:=r;rfl
 |DY _=>obtain⟨t,rfl⟩:=r;rfl
 |Jf _=>obtain⟨t,rfl⟩:=r;rfl
 |ref _=>cases r;rfl
 |ty _=>cases r;rfl
theorem RelV.inj{x y:V}{u:Value}(r:RelV x u)(q:RelV y u):x=y:=Option.some.inj (r.abs.symm.trans q.abs)
theorem ae.inj:∀{xs ys:List V}{us:List Value},ae xs us->ae ys us->xs=ys
 |_,_,_,.nil,.nil=>rfl
 |_,_,_,.cons r t,.cons r' t'=>by rw[r.inj r',ae.inj t t']
section
variable{ys:List V}
theorem aV.of{K:W.Frag}(h:H a=some (.lst xs)):aV K H a xs:=.inl (.inl h)
theorem ab.of{K:W.Frag}(h:H a=some (.tup xs)):ab K H a xs:=.inl (.inl h)
theorem Inv.list(I:Inv X io σ H s)(h:aV X.K H a xs):∃aS:List Value,ae xs aS/\PlainL s.heap a aS.toArray/\xs.length<=sizeLine:=by
 rcases h with h|⟨o,aS,n,hk,hc,hd,hs,hz,r⟩
 ·obtain⟨z,aS,n,r,e⟩:=h.ok I.bE;exact⟨aS,r,⟨_,n,e,rfl,rfl,rfl⟩,z⟩
 refine⟨aS.toList,r,⟨o,n,I.qZ a o hk,hc,hd,by simpa using hs⟩,?_⟩;have e:=r.length;simp only[Array.length_toList]at e;lia
theorem Inv.tuple(I:Inv X io σ H s)(h:ab X.K H a xs):∃aS:List Value,ae xs aS/\IsTup s.heap a aS.toArray/\xs.length<=sizeLine:=by
 rcases h with h|⟨o,aS,n,hk,hc,hs,hz,r⟩
 ·obtain⟨z,aS,r,p⟩:=h.ok I.bE;exact⟨aS,r,p,z⟩
 refine⟨aS.toList,r,⟨o,I.qZ a o hk,hc,n,by simpa using hs⟩,?_⟩;have e:=r.length;simp only[Array.length_toList]at e;lia
theorem Inv.Dq(I:Inv X io σ H s)(h:aV X.K H a xs)(h':aV X.K H a ys):xs=ys:=by
 obtain⟨aS,r,⟨o,n,e,_,_,d⟩,_⟩:=I.list h;obtain⟨its',r',⟨o',n',e',_,_,d'⟩,_⟩:=I.list h';rw[e]at e';cases e';rw[d]at d';injection d' with d1 _;have:aS=its':=by simpa using congrArg Array.toList d1
 subst this;exact r.inj r'
theorem Inv.jR(I:Inv X io σ H s)(h:ab X.K H a xs)(h':ab X.K H a ys):xs=ys:=by
 obtain⟨aS,r,⟨o,e,_,n,d⟩,_⟩:=I.tuple h;obtain⟨its',r',⟨o',e',_,n',d'⟩,_⟩:=I.tuple h';rw[e]at e';cases e';rw[d]at d';injection d' with d1 _;have:aS=its':=by simpa using congrArg Array.toList d1
 subst this;exact r.inj r'
end
abbrev Cx.uH(X:Cx)(E:Value->Shared->Prop):Cx:={ X with xe:=E }
abbrev Cx.uI(X:Cx):Cx:=X.uH λ_ _=>False
theorem Cx.Ok.uH{X:Cx}(ok:X.Ok)(E:Value->Shared->Prop):(X.uH E).Ok :=
 ⟨ok.mod,ok.kind,ok.glob,ok.blt,ok.above,ok.inj,ok.has,ok.Jj,ok.hd,ok.frames,ok.OQ,ok.MC,ok.bs,ok.GI,ok.zj,ok.zk,ok.qz,ok.Jk⟩
theorem Cx.Ok.lA(ok:(X.uH E).Ok):X.Ok :=
 ⟨ok.mod,ok.kind,ok.glob,ok.blt,ok.above,ok.inj,ok.has,ok.Jj,ok.hd,ok.frames,ok.OQ,ok.MC,ok.bs,ok.GI,ok.zj,ok.zk,ok.qz,ok.Jk⟩
section
theorem Inv.uH(I:Inv X io σ H s)(E:Value->Shared->Prop):Inv (X.uH E) io σ H s:=⟨I.ok.uH E,I.os,I.bare,I.base,I.loc,I.cell,I.free,I.kX,I.pin,I.bE,I.len⟩
theorem Inv.lA(I:Inv (X.uH E) io σ H s):Inv X io σ H s:=⟨I.ok.lA,I.os,I.bare,I.base,I.loc,I.cell,I.free,I.kX,I.pin,I.bE,I.len⟩
theorem SP.lA{D:Ends}{f:Flow}{s':Shared}(h:SP (X.uH E) io D f s'):SP X io D f s':=by
 cases f with
 |next=>obtain⟨σ',H',I,q⟩:=h;exact⟨σ',H',I.lA,q⟩
 |brk=>obtain⟨σ',H',I,q⟩:=h;exact⟨σ',H',I.lA,q⟩
 |cont=>obtain⟨σ',H',I,q⟩:=h;exact⟨σ',H',I.lA,q⟩
 |ret u=>obtain⟨v,σ',H',I,r,q⟩:=h;exact⟨v,σ',H',I.lA,r,q⟩
end
section
variable{st:Stmt}{rest:List Stmt}{t u:TS}
def MI:TS:=λD σ H=>D.nx σ H
def Pc(t u:TS):TS:=λD σ H=>t { D with nx:=u D } σ H
theorem aZ:Dc X [] MI:=λ_ _ σ H _ I h=>wpAny_execs_nil ⟨σ,H,I,h⟩
theorem aF(h1:PS X st t)(h2:Dc X rest u):Dc X (st::rest) (Pc t u):=by
 intro io s σ H D I h;refine wpAny_execs_cons (bI (h1 io s σ H { D with nx:=u D } I h) λf s1 q=>?_)
 cases f with
 |next =>
  obtain⟨σ',H',I',q⟩:=q;exact h2 io s1 σ' H' D I' q
 |ret v=>exact q
 |brk=>exact q
 |cont=>exact q
theorem aG(h1:PS X st t):Dc X [st] t:=by
 intro io s σ H D I h;refine wpAny_execs_cons (bI (h1 io s σ H D I h) λf s1 q=>?_);cases f with
 |next=>exact wpAny_execs_nil q
 |ret v=>exact q
 |brk=>exact q
 |cont=>exact q
theorem Inv.quiet(I:Inv X io σ H s):interactive X.env=false:=by simp[interactive,I.ok.kind]
def MJ(te:TE):TS:=λD σ H=>te σ H λ_ H1=>D.nx σ H1
theorem bM(he:PE X e te)(hs:swapsWith e none pos.line X.env=pure false:=by rfl):PS X (.Expr e pos) (MJ te):=by intro io s σ H D I h;exact wpAny_Expr_any (bI (he io s σ H _ I h) λv s1 ⟨x,H1,I1,r1,q1⟩=>⟨σ,H1,I1,q1⟩) I.quiet hs
def Pd(te:TE):TS:=λD σ H=>te σ H D.rt
theorem aX(he:PE X e te):PS X (.Return (some e) pos) (Pd te):=by intro io s σ H D I h;exact wpAny_Return_some (bI (he io s σ H _ I h) λv s1 ⟨x,H1,I1,r1,q1⟩=>⟨x,σ,H1,I1,r1,q1⟩)
def Pe(c:TT)(t u:TS):TS:=λD σ H=>c σ H λb H1=>if b=true then t D σ H1 else u D σ H1
theorem au{a b:List Stmt}(hc:PT X c tc)(ha:Dc X a t)(hb:Dc X b u):PS X (.If c a b pos) (Pe tc t u):=by
 intro io s σ H D I h;refine wpAny_If (bI (hc io s σ H _ I h) λd s1 ⟨H1,I1,q1⟩=>?_);cases d with
 |true=>exact ha io s1 σ H1 D I1 q1
 |false=>exact hb io s1 σ H1 D I1 q1
end
abbrev TG:=V->St->Hp->(St->Hp->Prop)->Prop
abbrev F6:=List V->St->Hp->(St->Hp->Prop)->Prop
def PG(X:Cx)(target:Expr)(t:TG):Prop :=
 ∀(io:List (Addr×Obj))(s:Shared)(σ:St)(H:Hp)(v:V)(u:Value)(Q:St->Hp->Prop),Inv X io σ H s->RelV v u->t v σ H Q ->
  wpAny (model X.prog X.w) X.A (assign target X.env u) (λ_ s'=>∃σ' H',Inv X io σ' H' s'/\Q σ' H') X.xe s
def Le(X:Cx)(ts:List Expr)(t:F6):Prop :=
 ∀(io:List (Addr×Obj))(s:Shared)(σ:St)(H:Hp)(vs:List V)(us:List Value)(Q:St->Hp->Prop),Inv X io σ H s->ae vs us->t vs σ H Q ->
  wpAny (model X.prog X.w) X.A (assignInOrder ((assignEach ts X.env).map (·.2)) us) (λ_ s'=>∃σ' H',Inv X io σ' H' s'/\Q σ' H') X.xe s
abbrev Jp:=V->V->V->Hp->(Hp->Prop)->Prop
def MK(X:Cx)(t:Jp):Prop :=
 ∀(io:List (Addr×Obj))(s:Shared)(σ:St)(H:Hp)(o i v:V)(ov iv u:Value)(Q:Hp->Prop),Inv X io σ H s->RelV o ov->RelV i iv->RelV v u->t o i v H Q ->
  wpAny (model X.prog X.w) X.A (setItem ov iv u) (λ_ s'=>∃H',Inv X io σ H' s'/\Q H') X.xe s
abbrev OT:=V->V->Hp->VK->Prop
def Rk(X:Cx)(op:Operator)(t:OT):Prop :=
 ∀(io:List (Addr×Obj))(s:Shared)(σ:St)(H:Hp)(x y:V)(v u:Value)(Q:VK),Inv X io σ H s->RelV x v->RelV y u->t x y H Q ->
  wpAny (model X.prog X.w) X.A (inplaceOp op v u) (EP X io σ Q) X.xe s
section
def lB(i:Nat):TG:=λv σ H Q=>Q (σ.set i (some v)) H
theorem aO(hN:X.N.Nodup)(hi:X.N[i]?=some x)(hx:Loc X.env.scope x)(hf:X.fn x=true\/X.env.scope.names.lookup x=some .local:=by first|exact .inl rfl|exact .inr rfl|assumption):PG X (.Name x pos) (lB i):=by intro io s σ H v u Q I r h;exact wpAny_assign_Name (rZ I hN hi hx r (λs' I'=>⟨_,H,I',h⟩) hf)
def Jq:F6:=λvs σ H Q=>vs=[]/\Q σ H
def x8(t:TG)(u:F6):F6:=λvs σ H Q=>∃v r,vs=v::r/\t v σ H λσ' H'=>u r σ' H' Q
theorem fF:Le X [] Jq:=by intro io s σ H vs us Q I r h;obtain⟨e,h⟩:=h;subst e;cases r;exact assignInOrder_nil ⟨σ,H,I,h⟩
theorem ak{t:TG}{u:F6}(h1:PG X e t)(h2:Le X es u)(hs:(assignEach (e::es) X.env).map (·.2)=assign e X.env::(assignEach es X.env).map (·.2):=by rfl):Le X (e::es) (x8 t u):=by
 intro io s σ H vs us Q I r h;obtain⟨v,vr,e1,h⟩:=h;subst e1;cases r with
 |cons r rr =>
  rw[hs];refine assignInOrder_cons (bI (h1 io s σ H _ _ _ I r h) λ_ s1 ⟨σ1,H1,I1,q1⟩=>?_);exact h2 io s1 σ1 H1 _ _ Q I1 rr q1
def GL(K:W.Frag)(n:Nat)(t:F6):TG:=λv σ H Q=>∃a xs,v=.ref a/\ab K H a xs/\xs.length=n/\t xs σ H Q
theorem je{t:F6}(hc:X.calm=true)(h:Le X es t)(hn:(assignEach es X.env).length=n:=by rfl)(zV:(assignEach es X.env).findIdx? (·.1)=none:=by rfl):PG X (.Tuple es k pos) (GL X.K n t):=by
 intro io s σ H v u Q I r hw;obtain⟨a,xs,e1,hq,hl,hw⟩:=hw;subst e1;cases r;obtain⟨aS,rv,ht,hz⟩:=I.tuple hq;refine assign_Tuple_tuple (I.ok.hd hc) ht (by simp[hn,<-hl,rv.length]) zV λh' hx=>?_;have I1:Inv X io σ H { s with heap:=h' }:=I.kept (t':=s.toks) λb o e=>hx b o (ne_of_lt (Heap.lt_size e)) e
 exact h io _ σ H xs _ Q I1 (by simpa using rv) hw
def Pf(to ti:TE)(t:Jp):TG:=λv σ H Q=>to σ H λo H1=>ti σ H1 λi H2=>t o i v H2 λH3=>Q σ H3
theorem Jr{o i:Expr}{to ti:TE}{t:Jp}(ho:PE X o to)(hi:PE X i ti)(hs:MK X t)(ha:∀v,assign (.Subscript o i pos) X.env v=(do
   let ov <- holding [v] (eval o X.env)
   let iv <- holding [v,ov] (eval i X.env)
   standAt pos
   holding [v,ov,iv] (setItem ov iv v)
   release [v,ov,iv] []):=by intro _;rfl):PG X (.Subscript o i pos) (Pf to ti t):=by
 intro io s σ H v u Q I r h;rw[ha];refine f8 (wpAny_holding (bI (ho io s σ H _ I h) λov s1 ⟨x,H1,I1,r1,q1⟩=>?_));refine f8 (wpAny_holding (bI (hi io s1 σ H1 _ I1 q1) λiv s2 ⟨y,H2,I2,r2,q2⟩=>?_));refine f8 (wpAny_standAt (f8 (wpAny_holding (bI (hs io s2 σ H2 x y v ov iv u _ I2 r1 r2 r q2) λ_ s3 ⟨H3,I3,q3⟩=>?_))));exact wpAny_release ⟨σ,H3,I3,q3⟩
def Js(te:TE)(g:TG):TS:=λD σ H=>te σ H λx H1=>g x σ H1 D.nx
theorem vq{g:TG}(he:PE X e te)(hg:PG X tg g)(hs:swapsWithSole [tg] e pos.line X.env=pure false:=by rfl)(hw:swappedStores [tg] e X.env=pure none:=by rfl)(h1:(assignEach [tg] X.env).map (·.2)=[assign tg X.env]:=by rfl):PS X (.Assign [tg] e pos) (Js te g):=by intro io s σ H D I h;refine wpAny_Assign_stores (bI (he io s σ H _ I h) λv s1 ⟨x,H1,I1,r1,q1⟩=>?_) hs hw;rw[h1];exact bI (hg io s1 σ H1 x v _ I1 r1 q1) λ_ s2 q=>q
theorem aR(hN:X.N.Nodup)(hi:X.N[i]?=some x)(hx:Loc X.env.scope x)(he:PE X e te)(hs:swapsWith e (some (.Name x pos')) pos.line X.env=pure false:=by rfl)(hf:X.fn x=true\/X.env.scope.names.lookup x=some .local:=by first|exact .inl rfl|exact .inr rfl|assumption):
  PS X (.Assign [.Name x pos'] e pos) (Js te (lB i)):=by
 intro io s σ H D I h;refine wpAny_Assign_Name (bI (he io s σ H _ I h) λv s1 ⟨y,H1,I1,r1,q1⟩=>?_) hs;exact rZ I1 hN hi hx r1 (λs2 I2=>⟨_,H1,I2,q1⟩) hf
def Pg(i:Nat)(te:TE)(ti:OT):TS:=λD σ H=>∃x,σ[i]?=some (some x)/\te σ H λy H1=>ti x y H1 λz H2=>D.nx (σ.set i (some z)) H2
theorem Jt{op:Operator}{ti:OT}(hN:X.N.Nodup)(hi:X.N[i]?=some x)(hx:Loc X.env.scope x)(he:PE X e te)(ho:Rk X op ti)(hf:X.fn x=true\/X.env.scope.names.lookup x=some .local:=by first|exact .inl rfl|exact .inr rfl|assumption):
  PS X (.AugAssign (.Name x pos') op e pos) (Pg i te ti):=by
 intro io s σ H D I h;obtain⟨v,e1,h⟩:=h;obtain⟨m,hn,hl⟩:=I.loc;have Te:MB X.env.scope x:=by rcases hx with k|k;exact .inl k;exact .inr (.inl k)
 obtain⟨u,r,l⟩:=hl i x v hi e1 Te;refine wpAny_AugAssign_Name ?_;have go:wpAny (model X.prog X.w) X.A (eval e X.env) (λw s₂=>wpAny (model X.prog X.w) X.A (inplaceOp op u w) (λr s₃=>wpAny (model X.prog X.w) X.A (storeName X.env x r) (λ_=>SP X io D .next) X.xe s₃) X.xe s₂) X.xe s:=by refine bI (he io s σ H _ I h) λw s1 ⟨y,H1,I1,r1,q1⟩=>?_;refine bI (ho io s1 σ H1 v y u w _ I1 r r1 q1) λz s2 ⟨zv,H2,I2,r2,q2⟩=>?_;exact rZ I2 hN hi hx r2 (λs3 I3=>⟨_,H2,I3,q2⟩) hf
 rcases l with⟨hk,hm⟩|⟨hk,c,hc,u0⟩
 ·exact wpAny_loadName_local I.ok.kind hk hn hm go
 rcases hk with hk|hk
 ·exact wpAny_loadName_cell I.ok.kind hk hc u0 go
 rcases hx with k|k
 ·have:X.env.scope.names.lookup x=some .free:=hk;rw[k]at this;cases this
 have:X.env.scope.names.lookup x=some .free:=hk;rw[k]at this;cases this
def Tf(f:Int->Int->Int):OT:=λx y H Q=>∃i j,x=.int i/\y=.int j/\Q (.int (f i j)) H
theorem Ju:Rk X .Add (Tf λi j=>i+j):=by intro io s σ H x y v u Q I r1 r2 h;obtain⟨i,j,e1,e2,q⟩:=h;subst e1;subst e2;obtain⟨t,rfl⟩:=r1;obtain⟨t',rfl⟩:=r2;exact iadd_int ⟨.int _,H,I.tok _,⟨_,rfl⟩,q⟩
end
section
def Jv(c:TT)(tb:TS):TS:=λD σ H=>∃W:Nat->St->Hp->Prop,(∃m,W m σ H)/\∀m σ H,W m σ H ->
 c σ H λb H1=>if b=true then ∃N:St->Hp->Prop,(∀σ' H',N σ' H'->∃m',m'<m/\W m' σ' H')/\tb { D with nx:=N,ct:=N,bk:=D.nx } σ H1 else D.nx σ H1
theorem x9{tb:TS}(hp:PassesOwn (model X.prog X.w) X.A X.env X.xe)(hc:PT X c tc)(hb:Dc X body tb):PS X (.While c body [] pos) (Jv tc tb):=by
 intro io s σ H D I h;obtain⟨W,⟨m0,w0⟩,turn⟩:=h;refine wpAny_While (codeAny_whileLoop (λn s'=>∃σ' H',Inv X io σ' H' s'/\W n σ' H') ?_ m0 ⟨σ,H,I,w0⟩);rintro n s1 ⟨σ1,H1,I1,w1⟩;refine wpAny_passesOwn hp (bI (hc io s1 σ1 H1 _ I1 (turn n σ1 H1 w1)) λb s2 ⟨H2,I2,q2⟩=>?_);cases b with
 |true =>
  obtain⟨N,hN,q2⟩:=q2;rw[if_pos rfl];refine wpAny_passesOwn hp (bI (hb io s2 σ1 H2 _ I2 q2) λf s3 q3=>?_);cases f with
  |next =>
   obtain⟨σ3,H3,I3,n3⟩:=q3;obtain⟨m',hm,w3⟩:=hN σ3 H3 n3;exact⟨m',hm,σ3,H3,I3,w3⟩
  |cont =>
   obtain⟨σ3,H3,I3,n3⟩:=q3;obtain⟨m',hm,w3⟩:=hN σ3 H3 n3;exact⟨m',hm,σ3,H3,I3,w3⟩
  |brk=>exact q3
  |ret v=>exact q3
 |false =>
  rw[if_neg Bool.false_ne_true];exact wpAny_execs_nil ⟨σ1,H2,I2,q2⟩
end
structure It where
 go:Nat->Hp->Prop
 BK:Nat->Hp->V->Hp->Prop
 stop:Nat->Hp->Prop
def pY(X:Cx)(io:List (Addr×Obj))(H:Hp)(b:Addr):Prop :=
 H b=none/\b≠X.env.locals/\b∉X.fs/\(b∈X.ex\/X.s₀.heap.objs.size<=b)/\(∀x c,X.env.cells.lookup x=some c->c≠b)/\∀p∈X.pn++io,p.1≠b
theorem Inv.uJ{H':Hp}{b:Addr}(I:Inv X io σ H s)(hb:s.heap.objs.size<=b)(hn:H' b=none):pY X io H' b:=by
 refine⟨hn,Nat.ne_of_gt (lt_of_lt_of_le I.lt hb),I.PM hb,.inr (le_trans I.sz hb),λx c e z=>?_,λp hp z=>?_⟩
 ·obtain⟨v,q⟩:=I.cell x c e;exact absurd (lt_of_lt_of_le q.lt (by rw[z];exact hb)) (lt_irrefl _)
 exact absurd (lt_of_lt_of_le (Heap.lt_size (I.pin p hp).1) (by rw[z];exact hb)) (lt_irrefl _)
structure Turn(P:Program)(w:World)(K:W.Frag)(tg:Expr)(J:It)(fp:List Addr)(it:Addr)(tn:Nat->Heap->Prop):Prop where
 mem:it∈fp
 obj:∀i h,tn i h->∀b∈fp,∃o,h.get? b=some o/\∀v,o.data≠.cell v
 keep:∀i h h',tn i h->(∀b∈fp,∀o,h.get? b=some o->h'.get? b=some o)->tn i h'
 item:∀(X:Cx),X.prog=P->X.w=w->X.K=K->X.calm=true->∀(i:Nat)(io:List (Addr×Obj))(s:Shared)(σ:St)(H:Hp)(E:Value->Shared->Prop),Inv X io σ H s->(∀b∈fp,pY X io H b)->tn i s.heap->J.go i H ->
  wpAny (model P w) X.A (pyNext (.ref it)) (λr s1=>∃u,r=some u /\
   wpAny (model P w) X.A (letOwnedTupleGo tg (.ref it) u) (λ_ s2=>∃x H',Inv X io σ H' s2/\RelV x u/\J.BK i H x H'/\tn (i+1) s2.heap/\∀b∈fp,H' b=none) E s1) E s
 done:∀(X:Cx),X.prog=P->X.w=w->X.K=K->X.calm=true->∀(i:Nat)(io:List (Addr×Obj))(s:Shared)(σ:St)(H:Hp)(E:Value->Shared->Prop),Inv X io σ H s->(∀b∈fp,pY X io H b)->tn i s.heap->J.stop i H ->
  wpAny (model P w) X.A (pyNext (.ref it)) (λr s1=>r=none/\Inv X io σ H s1) E s
 self:∀(A:Around)(i:Nat)(s:Shared)(Q:Value->Shared->Prop)(E:Value->Shared->Prop),tn i s.heap->Q (.ref it) s->wpAny (model P w) A (pyIter (.ref it)) Q E s
abbrev TI:=St->Hp->(It->Hp->Prop)->Prop
def Rm(X:Cx)(io:List (Addr×Obj))(σ:St)(tg:Expr)(R:It->Hp->Prop)(OU:Value)(s2:Shared):Prop :=
 ∃(it:Addr)(fp:List Addr)(tn:Nat->Heap->Prop)(J:It)(H':Hp),OU=.ref it/\Inv X io σ H' s2/\Turn X.prog X.w X.K tg J fp it tn/\tn 0 s2.heap/\(∀b∈fp,pY X io H' b)/\R J H'
def PI(X:Cx)(tg iter:Expr)(wi:TI):Prop :=
 ∀(io:List (Addr×Obj))(s:Shared)(σ:St)(H:Hp)(R:It->Hp->Prop),Inv X io σ H s->wi σ H R ->
  wpAny (model X.prog X.w) X.A (eval iter X.env) (λv s1=>wpAny (model X.prog X.w) X.A (pyIter v) (Rm X io σ tg R) X.xe s1) X.xe s
theorem yF{it:Addr}{o:Obj}{n:String}{vs:Array Value}{Q:Unit->Shared->Prop}(ho:s.heap.get? it=some o)(hc:o.cls=.type n)(hd:o.data=.fields vs)(hn:["enumerate","zip","dict_itemiterator","dict_reverseitemiterator","odict_iterator","itertools.zip_longest","itertools.pairwise"].contains n=false)(hQ:Q () s):wpAny M A (letOwnedTupleGo tg (.ref it) u) Q E s:=by
 unfold letOwnedTupleGo;cases tg<;>first
  |exact im hQ
  | (cases u<;>first
    |exact im hQ
    | (refine f8 (wpAny_load ho ?_)
       rw[hc,hd];show wpAny M A (if(["enumerate","zip","dict_itemiterator","dict_reverseitemiterator","odict_iterator","itertools.zip_longest","itertools.pairwise"].contains n&&vs[0]?==some (rawInt _))=true then _ else _) Q E s;rw[if_neg (by intro h;rw[hn,Bool.false_and]at h;cases h)];exact im hQ))
def Lf(K:W.Frag)(a:Addr):It :=
 ⟨λi H=>∃xs x,aV K H a xs/\xs[i]?=some x,λi H x H'=>H'=H/\∀xs,aV K H a xs->xs[i]?=some x,λi H=>∃xs,aV K H a xs/\xs.length<=i⟩
def Lg(K:W.Frag)(a:Addr):It :=
 ⟨λi H=>∃xs x,ab K H a xs/\xs[i]?=some x,λi H x H'=>H'=H/\∀xs,ab K H a xs->xs[i]?=some x,λi H=>∃xs,ab K H a xs/\xs.length<=i⟩
def Iw(lo:Int)(n:Nat):It:=⟨λi _=>i<n,λi H x H'=>H'=H/\x=.int (lo+i),λi _=>n<=i⟩
theorem u5{K:W.Frag}(a it:Addr):Turn P w K tg (Lf K a) [it] it (λi h=>h.IsListIter it a i)where
 mem:=by simp
 obj:=λi h st b hb=>by
  have e:b=it:=by simpa using hb
  subst e;obtain⟨o,e,c,d⟩:=st;exact⟨o,e,λv z=>by rw[d]at z;cases z⟩
 keep:=λi h h' st k=>st.at λo e=>k it (by simp) o e
 item:=by
  intro X hP hw hK hc i io s σ H E I hf st hg;subst hP hw hK;obtain⟨xs,x,hq,hx⟩:=hg;obtain⟨aS,rv,p,hz⟩:=I.list hq;obtain⟨u,hu,ru⟩:=rv.get hx;obtain⟨f0,f1,f2,f3,f4,f5⟩:=hf it (by simp);refine wpAny_pyNext_list_item st p.isList (x:=u) (by simpa using hu) λh' uC sb=>?_;have I1:Inv X io σ H { s with heap:=h' }:=I.turned (t':=s.toks) (λb o hb e=>(sb.2 b hb).trans e) f0 f1 f3 f4 f5
  obtain⟨o,e,c,d⟩:=id uC;exact⟨u,rfl,yF (s:={ s with heap:=h' }) e c d (by decide) ⟨x,H,I1,ru,⟨rfl,λys hy=>by rw[I.Dq hy hq];exact hx⟩,uC,λb hb=>(hf b hb).1⟩⟩
 done:=by intro X hP hw hK hc i io s σ H E I hf st hg;subst hP hw hK;obtain⟨xs,hq,hx⟩:=hg;obtain⟨aS,rv,p,hz⟩:=I.list hq;obtain⟨f0,f1,f2,f3,f4,f5⟩:=hf it (by simp);have hl:=rv.length;exact wpAny_pyNext_list_end (I.ok.hd hc) st p.isList (by simp;lia) λh' eb=>⟨rfl,I.turned (t':=s.toks) (λb o hb e=>eb b o hb e) f0 f1 f3 f4 f5⟩
 self:=λ_ _ _ _ _ st h=>wpAny_pyIter_listiter st h
theorem rf{K:W.Frag}(a it:Addr):Turn P w K tg (Lg K a) [it] it (λi h=>h.IsTupleIter it a i)where
 mem:=by simp
 obj:=λi h st b hb=>by
  have e:b=it:=by simpa using hb
  subst e;obtain⟨o,e,c,d⟩:=st;exact⟨o,e,λv z=>by rw[d]at z;cases z⟩
 keep:=λi h h' st k=>st.at λo e=>k it (by simp) o e
 item:=by
  intro X hP hw hK hc i io s σ H E I hf st hg;subst hP hw hK;obtain⟨xs,x,hq,hx⟩:=hg;obtain⟨aS,rv,p,hz⟩:=I.tuple hq;obtain⟨u,hu,ru⟩:=rv.get hx;obtain⟨f0,f1,f2,f3,f4,f5⟩:=hf it (by simp);refine wpAny_pyNext_tuple_item st (show s.heap.IsTuple a aS.toArray from p) (x:=u) (by simpa using hu) λh' uC sb=>?_;have I1:Inv X io σ H { s with heap:=h' }:=I.turned (t':=s.toks) (λb o hb e=>(sb.2 b hb).trans e) f0 f1 f3 f4 f5
  obtain⟨o,e,c,d⟩:=id uC;exact⟨u,rfl,yF (s:={ s with heap:=h' }) e c d (by decide) ⟨x,H,I1,ru,⟨rfl,λys hy=>by rw[I.jR hy hq];exact hx⟩,uC,λb hb=>(hf b hb).1⟩⟩
 done:=by intro X hP hw hK hc i io s σ H E I hf st hg;subst hP hw hK;obtain⟨xs,hq,hx⟩:=hg;obtain⟨aS,rv,p,hz⟩:=I.tuple hq;obtain⟨f0,f1,f2,f3,f4,f5⟩:=hf it (by simp);have hl:=rv.length;exact wpAny_pyNext_tuple_end (I.ok.hd hc) st (show s.heap.IsTuple a aS.toArray from p) (by simp;lia) λh' eb=>⟨rfl,I.turned (t':=s.toks) (λb o hb e=>eb b o hb e) f0 f1 f3 f4 f5⟩
 self:=λ_ _ _ _ _ st h=>wpAny_pyIter_tupleiter st h
theorem zo{K:W.Frag}(it:Addr)(lo:Int)(n:Nat):Turn P w K tg (Iw lo n) [it] it (λi h=>IsRangeIter h it (lo+(i:Nat)*1) ((n:Int)-(i:Nat)) 1)where
 mem:=by simp
 obj:=λi h st b hb=>by
  have e:b=it:=by simpa using hb
  subst e;exact⟨_,st,λv z=>by have z':Data.fields _=Data.cell v:=z;cases z'⟩
 keep:=λi h h' st k=>k it (by simp) _ st
 item:=by
  intro X hP hw hK hc i io s σ H E I hf st hg;subst hP hw hK;obtain⟨f0,f1,f2,f3,f4,f5⟩:=hf it (by simp);have W:=Walks.range (prog:=X.prog) (w:=X.w) (I.ok.hd hc) it lo 1 n;refine W.item i s _ _ hg st λv h' tk hv uC kk=>?_;obtain⟨t,rfl⟩:=hv;have I1:Inv X io σ H { s with heap:=h',toks:=tk }:=I.turned (λb o hb e=>kk b o (by simpa using hb) e) f0 f1 f3 f4 f5
  refine⟨_,rfl,yF (s:={ s with heap:=h',toks:=tk }) (n:="range_iterator") uC rfl rfl (by decide) ⟨.int (lo+i),H,I1,⟨t,?_⟩,⟨rfl,rfl⟩,uC,λb hb=>(hf b hb).1⟩⟩
  rw[Int.mul_one]
 done:=by intro X hP hw hK hc i io s σ H E I hf st hg;subst hP hw hK;obtain⟨f0,f1,f2,f3,f4,f5⟩:=hf it (by simp);exact wpAny_pyNext_range_end (I.ok.hd hc) st (by have:n<=i:=hg;lia) λh' eb=>⟨rfl,I.turned (t':=s.toks) (λb o hb e=>eb b o hb e) f0 f1 f3 f4 f5⟩
 self:=λ_ _ _ _ _ st h=>wpAny_pyIter_rangeiter st h
section
def Iy(K:W.Frag)(tl:TE):TI:=λσ H R=>tl σ H λx H1=>∃a,x=.ref a/\(∃xs,aV K H1 a xs)/\R (Lf K a) H1
def ML(K:W.Frag)(tl:TE):TI:=λσ H R=>tl σ H λx H1=>∃a,x=.ref a/\(∃xs,ab K H1 a xs)/\R (Lg K a) H1
theorem GN(hl:PE X l tl):PI X tg l (Iy X.K tl):=by
 intro io s σ H R I h;refine bI (hl io s σ H _ I h) λv s1 ⟨x,H1,I1,r1,q1⟩=>?_;obtain⟨a,e,⟨xs,hq⟩,q⟩:=q1;subst e;cases r1;obtain⟨aS,rv,p,hz⟩:=I1.list hq;refine wpAny_pyIter_list p.isList ?_;refine⟨s1.heap.objs.size,[s1.heap.objs.size],_,_,H1,rfl,I1.kept (t':=s1.toks) λb o e=>Heap.get?_push_of_some _ e,u5 a _,⟨_,Heap.get?_push_size _ rfl,rfl,rfl⟩,λb hb=>?_,q⟩;have e:b=s1.heap.objs.size:=by simpa using hb
 subst e;exact I1.uJ (le_refl _) (I1.bE.fresh (le_refl _))
theorem Jw(hl:PE X l tl):PI X tg l (ML X.K tl):=by
 intro io s σ H R I h;refine bI (hl io s σ H _ I h) λv s1 ⟨x,H1,I1,r1,q1⟩=>?_;obtain⟨a,e,⟨xs,hq⟩,q⟩:=q1;subst e;cases r1;obtain⟨aS,rv,p,hz⟩:=I1.tuple hq;refine wpAny_pyIter_tuple (show s1.heap.IsTuple a aS.toArray from p) ?_;refine⟨s1.heap.objs.size,[s1.heap.objs.size],_,_,H1,rfl,I1.kept (t':=s1.toks) λb o e=>Heap.get?_push_of_some _ e,rf a _,⟨_,Heap.get?_push_size _ rfl,rfl,rfl⟩,λb hb=>?_,q⟩;have e:b=s1.heap.objs.size:=by simpa using hb
 subst e;exact I1.uJ (le_refl _) (I1.bE.fresh (le_refl _))
theorem yG{R:It->Hp->Prop}{hi:Int}{t u v:Tok}{tk:Nat}(I:Inv X io σ H s)(h1:-(2 ^ 62)<=lo)(h2:lo<2 ^ 62)(h3:-(2 ^ 62)<=hi)(h4:hi<2 ^ 62)(q:R (Iw lo (hi-lo).toNat) H):wpAny (model X.prog X.w) X.A (pyIter (.ref s.heap.objs.size)) (Rm X io σ tg R) E { s with heap:=s.heap.push { cls:=.type "range",data:=.fields #[.int lo t,.int hi u,.int 1 v] },toks:=tk }:=by
 refine wpAny_pyIter_range (IsRange.new ..) (small_one h1 h2 h3 h4) ?_;have I1:Inv X io σ H { s with heap:=s.heap.push { cls:=.type "range",data:=.fields #[.int lo t,.int hi u,.int 1 v] },toks:=tk }:=I.kept λb o e=>Heap.get?_push_of_some _ e
 refine⟨(s.heap.push { cls:=.type "range",data:=.fields #[.int lo t,.int hi u,.int 1 v] }).objs.size,[(s.heap.push { cls:=.type "range",data:=.fields #[.int lo t,.int hi u,.int 1 v] }).objs.size],_,_,H,rfl,
  I1.kept (t':=tk) λb o e=>Heap.get?_push_of_some _ e,zo _ lo (hi-lo).toNat,?_,λb hb=>?_,q⟩
 ·have e1:lo+((0:Nat):Int)*1=lo:=by simp
  have e2:(((hi-lo).toNat:Nat):Int)-((0:Nat):Int)=Builtin.Range.rangeSize lo hi 1:=by rw[rangeSize_one];split<;>lia
  show IsRangeIter _ _ (lo+((0:Nat):Int)*1) ((((hi-lo).toNat:Nat):Int)-((0:Nat):Int)) 1;rw[e1,e2];exact Heap.get?_push_size _ rfl
 have e:b=(s.heap.push { cls:=.type "range",data:=.fields #[.int lo t,.int hi u,.int 1 v] }).objs.size:=by simpa using hb
 subst e;exact I1.uJ (le_refl _) (I1.bE.fresh (le_refl _))
def MM(ta:TA):TI:=λσ H R=>ta σ H λvs H1=>∃j:Int,vs=[.int j]/\-(2 ^ 62)<=j/\j<2 ^ 62/\R (Iw 0 j.toNat) H1
def MN(ta:TA):TI:=λσ H R=>ta σ H λvs H1=>∃i j:Int,vs=[.int i,.int j]/\(-(2 ^ 62)<=i/\i<2 ^ 62/\-(2 ^ 62)<=j/\j<2 ^ 62)/\R (Iw i (j-i).toNat) H1
theorem dD{a:Expr}{ta:TA}(hg:Gl X "range")(hm:X.mg "range"=none)(ha:PA X [a] ta)(hs:starEach [a] X.env=[(false,eval a X.env)]:=by rfl):PI X tg (.Call (.Name "range" p) [a] [] pos) (MM ta):=by
 intro io s σ H R I h;refine Call_ (pW I hg hm boot_range (PyProof.Rows.callWith_type1 (bI (ha pos io s σ H _ I h) λus s1 ⟨vs,H1,I1,r1,q1⟩=>?_) hs rfl));obtain⟨j,e,q1,q2,q⟩:=q1;subst e;cases r1 with
 |cons r rr =>
  cases rr;obtain⟨t,rfl⟩:=r;exact call_range_1 (yG I1 (by lia) (by lia) q1 q2 (by simpa using q))
theorem CK{a:Expr}{ta:TA}(hg:Gl X "range")(hm:X.mg "range"=none)(ha:PA X [a,b] ta)(hs:starEach [a,b] X.env=[(false,eval a X.env),(false,eval b X.env)]:=by rfl)(vx:starEach [b] X.env=[(false,eval b X.env)]:=by rfl):
  PI X tg (.Call (.Name "range" p) [a,b] [] pos) (MN ta):=by
 intro io s σ H R I h;refine Call_ (pW I hg hm boot_range (PyProof.Rows.callWith_type1 (bI (ha pos io s σ H _ I h) λus s1 ⟨vs,H1,I1,r1,q1⟩=>?_) (by rw[hs,vx]) (by rw[vx];rfl)));obtain⟨i,j,e,⟨q1,q2,q3,q4⟩,q⟩:=q1;subst e;cases r1 with
 |cons r rr =>
  cases rr with
  |cons r' rr =>
   cases rr;obtain⟨t,rfl⟩:=r;obtain⟨t',rfl⟩:=r';exact call_range_2 (yG I1 q1 q2 q3 q4 q)
def Ph(wi:TI)(g:TG)(tb:TS):TS:=λD σ H=>wi σ H λJ H1=>∃W:Nat->Nat->St->Hp->Prop,(∃m,W 0 m σ H1)/\∀i m σ H,W i m σ H ->
 (J.stop i H/\D.nx σ H)\/(J.go i H/\∃N:St->Hp->Prop,(∀σ' H',N σ' H'->∃m',m'<m/\W (i+1) m' σ' H')/\∀x H',J.BK i H x H'->g x σ H' λσ2 H2=>tb { D with nx:=N,ct:=N,bk:=D.nx } σ2 H2)
def rg(fp:List Addr)(h:Heap):List (Addr×Obj):=fp.filterMap λb=>(h.get? b).map λo=>(b,o)
theorem jf{b:Addr}{o:Obj}(hb:b∈fp)(e:h.get? b=some o):(b,o)∈rg fp h:=List.mem_filterMap.mpr ⟨b,hb,by rw[e];rfl⟩
theorem CL{p:Addr×Obj}(hp:p∈rg fp h):p.1∈fp/\h.get? p.1=some p.2:=by
 obtain⟨b,hb,e⟩:=List.mem_filterMap.mp hp;cases q:h.get? b with
 |none=>rw[q]at e;cases e
 |some o =>
  rw[q]at e;have e':(b,o)=p:=Option.some.inj e;subst e';exact⟨hb,q⟩
theorem Inv.pinned(I:Inv X io σ H s)(hf:∀b∈fp,pY X io H b)(ho:∀b∈fp,∃o,s.heap.get? b=some o/\∀v,o.data≠.cell v):Inv X (io++rg fp s.heap) σ H s :=
 I.BJ λp hp=>(mem_append.mp hp).elim (λz=>I.pin p (mem_append_right _ z)) λz=>by obtain⟨hb,e⟩:=CL z;obtain⟨f0,f1,f2,_⟩:=hf p.1 hb;obtain⟨o,e',d⟩:=ho p.1 hb;rw[e]at e';cases e';exact⟨e,f0,f1,f2,d⟩
theorem Inv.lC{pl:List (Addr×Obj)}(I:Inv X (io++pl) σ H s):Inv X io σ H s:=I.BJ λp hp=>I.pin p (mem_append_right _ (mem_append_left _ hp))
theorem bW{wi:TI}{g:TG}{tb:TS}(hp:PassesOwn (model X.prog X.w) X.A X.env X.xe)(hc:X.calm=true)(hi:PI X tg iter wi)(hg:PG X tg g)(hb:Dc X body tb)(hs:∀x,foldedSetIterable iter X.env x=pure x:=by intro _;rfl):PS X (.For tg iter body [] pos) (Ph wi g tb):=by
 intro io s σ H D I h;refine wpAny_For (bI (hi io s σ H _ I h) λv s1 h1=>bI h1 λOU s2 h2=>?_) hs;obtain⟨it,fp,tn,J,H2,e,I2,T,Jx,f2,W,⟨m0,w0⟩,turn⟩:=h2;subst e;have zq:∀{H':Hp},(∀b∈fp,H' b=none)->∀b∈fp,pY X io H' b:=λhn b hb=>⟨hn b hb,(f2 b hb).2⟩;refine codeAny_forLoop_any (λn s'=>∃i σ' H',Inv X io σ' H' s'/\tn i s'.heap/\(∀b∈fp,H' b=none)/\W i n σ' H') ?_ m0 ⟨0,σ,H2,I2,Jx,λb hb=>(f2 b hb).1,w0⟩;rintro n s3 ⟨i,σ3,H3,I3,Rn,Ro,w3⟩;rcases turn i n σ3 H3 w3 with⟨stop,qn⟩|⟨go,N,hN,step⟩
 ·refine wpAny_passesOwn hp (bI (T.done X rfl rfl rfl hc i io s3 σ3 H3 X.xe I3 (zq Ro) Rn stop) λr s4 ⟨hr,I4⟩=>?_);subst hr;exact wpAny_execs_nil ⟨σ3,H3,I4,qn⟩
 refine wpAny_passesOwn hp (bI (T.item X rfl rfl rfl hc i io s3 σ3 H3 X.xe I3 (zq Ro) Rn go) λr s4 ⟨u,hr,h4⟩=>?_);subst hr;refine wpAny_passesOwn hp (bI h4 λ_ s5 ⟨x,H5,I5,r5,y5,Lh,MO⟩=>?_);have Tg:=I5.pinned (zq MO) (T.obj _ _ Lh);refine wpAny_passesOwn hp (bI (hg _ s5 σ3 H5 x u _ Tg r5 (step x H5 y5)) λ_ s6 ⟨σ6,H6,I6,q6⟩=>?_);refine wpAny_passesOwn hp (bI (hb _ s6 σ6 H6 _ I6 q6) λf s7 q7=>?_);have again:∀{σ7:St}{H7:Hp},Inv X (io++rg fp s5.heap) σ7 H7 s7->N σ7 H7->∃m,m<n/\∃i σ' H',Inv X io σ' H' s7/\tn i s7.heap/\(∀b∈fp,H' b=none)/\W i m σ' H':=λ{σ7 H7} I7 n7=>by obtain⟨m',hm,w7⟩:=hN σ7 H7 n7;refine⟨m',hm,i+1,σ7,H7,I7.lC,T.keep _ _ _ Lh λb hb o e=>(I7.pin (b,o) (mem_append_right _ (mem_append_right _ (jf hb e)))).1,λb hb=>?_,w7⟩;obtain⟨o,e,d⟩:=T.obj _ _ Lh b hb;exact(I7.pin (b,o) (mem_append_right _ (mem_append_right _ (jf hb e)))).2.1
 cases f with
 |next=>obtain⟨σ7,H7,I7,n7⟩:=q7;exact again I7 n7
 |cont=>obtain⟨σ7,H7,I7,n7⟩:=q7;exact again I7 n7
 |brk=>obtain⟨σ7,H7,I7,q7⟩:=q7;exact⟨σ7,H7,I7.lC,q7⟩
 |ret v=>obtain⟨x7,σ7,H7,I7,r7,q7⟩:=q7;exact⟨x7,σ7,H7,I7.lC,r7,q7⟩
end
theorem dv{K:W.Frag}{g:TG}{tb:TS}{D:Ends}(Pv:Nat->St->Hp->Prop)(h0:Pv 0 σ H)(hl:∀i σ H,i<=xs.length->Pv i σ H->aV K H a xs)(hs:∀i x σ H,xs[i]?=some x->Pv i σ H->g x σ H λσ2 H2=>tb { D with nx:=Pv (i+1),ct:=Pv (i+1),bk:=D.nx } σ2 H2)(hd:∀σ H,Pv xs.length σ H->D.nx σ H):
  ∃W:Nat->Nat->St->Hp->Prop,(∃m,W 0 m σ H)/\∀i m σ H,W i m σ H ->
   ((Lf K a).stop i H/\D.nx σ H)\/((Lf K a).go i H/\∃N:St->Hp->Prop,(∀σ' H',N σ' H'->∃m',m'<m/\W (i+1) m' σ' H')/\∀x H',(Lf K a).BK i H x H'->g x σ H' λσ2 H2=>tb { D with nx:=N,ct:=N,bk:=D.nx } σ2 H2):=by
 refine⟨λi m σ H=>m=xs.length-i/\i<=xs.length/\Pv i σ H,⟨xs.length,by simp,zero_le _,h0⟩,?_⟩;rintro i m σ H ⟨rfl,hi,p⟩;have q:=hl i σ H hi p;by_cases cN:i<xs.length
 ·refine .inr ⟨⟨xs,xs[i],q,by simp[cN]⟩,Pv (i+1),λσ' H' p'=>⟨xs.length-(i+1),by lia,rfl,cN,p'⟩,λx H' y=>?_⟩;obtain⟨e,y⟩:=y;subst e;exact hs i x σ _ (y xs q) p
 have e:i=xs.length:=by lia
 subst e;exact .inl ⟨⟨xs,q,le_refl _⟩,hd σ H p⟩
theorem BL{K:W.Frag}{g:TG}{tb:TS}{D:Ends}(Pv:Nat->St->Hp->Prop)(h0:Pv 0 σ H)(hl:∀i σ H,i<=xs.length->Pv i σ H->ab K H a xs)(hs:∀i x σ H,xs[i]?=some x->Pv i σ H->g x σ H λσ2 H2=>tb { D with nx:=Pv (i+1),ct:=Pv (i+1),bk:=D.nx } σ2 H2)(hd:∀σ H,Pv xs.length σ H->D.nx σ H):
  ∃W:Nat->Nat->St->Hp->Prop,(∃m,W 0 m σ H)/\∀i m σ H,W i m σ H ->
   ((Lg K a).stop i H/\D.nx σ H)\/((Lg K a).go i H/\∃N:St->Hp->Prop,(∀σ' H',N σ' H'->∃m',m'<m/\W (i+1) m' σ' H')/\∀x H',(Lg K a).BK i H x H'->g x σ H' λσ2 H2=>tb { D with nx:=N,ct:=N,bk:=D.nx } σ2 H2):=by
 refine⟨λi m σ H=>m=xs.length-i/\i<=xs.length/\Pv i σ H,⟨xs.length,by simp,zero_le _,h0⟩,?_⟩;rintro i m σ H ⟨rfl,hi,p⟩;have q:=hl i σ H hi p;by_cases cN:i<xs.length
 ·refine .inr ⟨⟨xs,xs[i],q,by simp[cN]⟩,Pv (i+1),λσ' H' p'=>⟨xs.length-(i+1),by lia,rfl,cN,p'⟩,λx H' y=>?_⟩;obtain⟨e,y⟩:=y;subst e;exact hs i x σ _ (y xs q) p
 have e:i=xs.length:=by lia
 subst e;exact .inl ⟨⟨xs,q,le_refl _⟩,hd σ H p⟩
theorem eV{g:TG}{tb:TS}{D:Ends}(Pv:Nat->St->Hp->Prop)(h0:Pv 0 σ H)(hs:∀i σ H,i<n->Pv i σ H->g (.int (lo+i)) σ H λσ2 H2=>tb { D with nx:=Pv (i+1),ct:=Pv (i+1),bk:=D.nx } σ2 H2)(hd:∀σ H,Pv n σ H->D.nx σ H):
  ∃W:Nat->Nat->St->Hp->Prop,(∃m,W 0 m σ H)/\∀i m σ H,W i m σ H ->
   ((Iw lo n).stop i H/\D.nx σ H)\/((Iw lo n).go i H/\∃N:St->Hp->Prop,(∀σ' H',N σ' H'->∃m',m'<m/\W (i+1) m' σ' H')/\∀x H',(Iw lo n).BK i H x H'->g x σ H' λσ2 H2=>tb { D with nx:=N,ct:=N,bk:=D.nx } σ2 H2):=by
 refine⟨λi m σ H=>m=n-i/\i<=n/\Pv i σ H,⟨n,by simp,zero_le _,h0⟩,?_⟩;rintro i m σ H ⟨rfl,hi,p⟩;by_cases cN:i<n
 ·refine .inr ⟨cN,Pv (i+1),λσ' H' p'=>⟨n-(i+1),by lia,rfl,cN,p'⟩,λx H' y=>?_⟩;obtain⟨e,y⟩:=y;subst e y;exact hs i σ _ cN p
 have e:i=n:=by lia
 subst e;exact .inl ⟨le_refl _,hd σ H p⟩
abbrev R2:=V->V->Hp->VK->Prop
def jg(X:Cx)(f:Value->Value->Sem Value)(r:R2):Prop :=
 ∀(io:List (Addr×Obj))(s:Shared)(σ:St)(H:Hp)(x y:V)(v u:Value)(Q:VK),Inv X io σ H s->RelV x v->RelV y u->r x y H Q ->
  wpAny (model X.prog X.w) X.A (f v u) (EP X io σ Q) X.xe s
def Pj(X:Cx)(f:Value->Sem Value)(r:V->Hp->VK->Prop):Prop :=
 ∀(io:List (Addr×Obj))(s:Shared)(σ:St)(H:Hp)(x:V)(v:Value)(Q:VK),Inv X io σ H s->RelV x v->r x H Q ->
  wpAny (model X.prog X.w) X.A (f v) (EP X io σ Q) X.xe s
def cH(X:Cx)(f:Value)(r:List V->Hp->VK->Prop):Prop :=
 ∀(io:List (Addr×Obj))(s:Shared)(σ:St)(H:Hp)(xs:List V)(us:List Value)(Q:VK),Inv X io σ H s->ae xs us->r xs H Q ->
  wpAny (model X.prog X.w) X.A (call f us) (EP X io σ Q) X.xe s
def Jy(r:R2)(ta tb:TE):TE:=λσ H Q=>ta σ H λx H1=>tb σ H1 λy H2=>r x y H2 Q
def Th(r:V->Hp->VK->Prop)(ta:TE):TE:=λσ H Q=>ta σ H λx H1=>r x H1 Q
def rI(C:Int->Int->Prop)(g:Int->Int->V):R2:=λx y H Q=>∃i j,x=.int i/\y=.int j/\C i j/\Q (g i j) H
def Jz(g:Int->Int->V):R2:=λx y H Q=>∃i j,x=.int i/\y=.int j/\Q (g i j) H
def rU(g:Int->V):V->Hp->VK->Prop:=λx H Q=>∃i,x=.int i/\Q (g i) H
section
variable{a:Expr}{tc:TE}
theorem J0(ha:PE X a ta)(hb:PE X b tb){R:V->V->Hp->Prop}(I:Inv X io σ H s)(h:ta σ H λx H1=>tb σ H1 λy H2=>R x y H2)(hf:∀v u s2 x y H2,Inv X io σ H2 s2->RelV x v->RelV y u->R x y H2->wpAny (model X.prog X.w) X.A (f v u) Q X.xe s2):
  wpAny (model X.prog X.w) X.A (eval a X.env) (λv s₁=>wpAny (model X.prog X.w) X.A (eval b X.env) (λu s₂=>wpAny (model X.prog X.w) X.A (f v u) Q X.xe s₂) X.xe s₁) X.xe s:=by
 refine bI (ha io s σ H _ I h) λv s1 ⟨x,H1,I1,r1,q1⟩=>?_;refine bI (hb io s1 σ H1 _ I1 q1) λu s2 ⟨y,H2,I2,r2,q2⟩=>?_;exact hf v u s2 x y H2 I2 r1 r2 q2
theorem aW{op:Operator}{r:R2}(ho:jg X (binaryOp op) r)(ha:PE X a ta)(hb:PE X b tb):PE X (.BinOp a op b pos) (Jy r ta tb):=by intro io s σ H Q I h;exact wpAny_BinOp (J0 ha hb I h λv u s2 x y H2 I2 rx ry q=>ho io s2 σ H2 x y v u Q I2 rx ry q)
theorem jS{op:UnaryOp}{r:V->Hp->VK->Prop}(ho:Pj X (unaryOp op) r)(ha:PE X a ta):PE X (.UnaryOp op a pos) (Th r ta):=by intro io s σ H Q I h;exact UnaryOp_ (bI (ha io s σ H _ I h) λv s1 ⟨x,H1,I1,r1,q1⟩=>ho io s1 σ H1 x v Q I1 r1 q1)
theorem MP{C:Int->Int->Prop}{g:Int->Int->Int}(rule:∀(i j:Int)(t u:Tok)(s:Shared)(Q:Value->Shared->Prop)(E:Value->Shared->Prop),C i j->Q (.int (g i j) s.toks) { s with toks:=s.toks+1 }->wpAny (model X.prog X.w) X.A (f (.int i t) (.int j u)) Q E s):
  jg X f (rI C λi j=>.int (g i j)):=by
 intro io s σ H x y v u Q I rx ry h;obtain⟨i,j,rfl,rfl,hc,q⟩:=h;obtain⟨t,rfl⟩:=rx;obtain⟨t',rfl⟩:=ry;exact rule i j t t' s _ _ hc ⟨.int (g i j),H,I.tok _,⟨_,rfl⟩,q⟩
theorem MQ{g:Int->Int->Int}(rule:∀(i j:Int)(t u:Tok)(s:Shared)(Q:Value->Shared->Prop)(E:Value->Shared->Prop),Q (.int (g i j) s.toks) { s with toks:=s.toks+1 }->wpAny (model X.prog X.w) X.A (f (.int i t) (.int j u)) Q E s):
  jg X f (Jz λi j=>.int (g i j)):=by
 intro io s σ H x y v u Q I rx ry h;obtain⟨i,j,rfl,rfl,q⟩:=h;obtain⟨t,rfl⟩:=rx;obtain⟨t',rfl⟩:=ry;exact rule i j t t' s _ _ ⟨.int (g i j),H,I.tok _,⟨_,rfl⟩,q⟩
theorem J1{g:Int->Int->Bool}(rule:∀(i j:Int)(t u:Tok)(s:Shared)(Q:Value->Shared->Prop)(E:Value->Shared->Prop),Q (.bool (g i j)) s->wpAny (model X.prog X.w) X.A (f (.int i t) (.int j u)) Q E s):
  jg X f (Jz λi j=>.bl (g i j)):=by
 intro io s σ H x y v u Q I rx ry h;obtain⟨i,j,rfl,rfl,q⟩:=h;obtain⟨t,rfl⟩:=rx;obtain⟨t',rfl⟩:=ry;exact rule i j t t' s _ _ ⟨.bl (g i j),H,I,rfl,q⟩
def Pk(i j:Int):Prop:=0<j/\j<1073741824
def Pl(i j:Int):Prop:=0<=j/\j<=1000000/\i.natAbs<2 ^ 64
def GO(i j:Int):Prop:=(-(2 ^ 64)<i/\i<2 ^ 64)\/(-(2 ^ 64)<j/\j<2 ^ 64)
theorem GO.ok{i j:Int}(h:GO i j):IntMulOk i j:=by
 rcases h with⟨h1,h2⟩|⟨h1,h2⟩
 ·exact .of_left (intBits_le_64 h1 h2)
 exact .of_right (intBits_le_64 h1 h2)
theorem bP:jg X (binaryOp .Add) (Jz λi j=>.int (i+j)):=MQ λ_ _ _ _ _ _ _ q=>add_int q
theorem lD:jg X (binaryOp .Sub) (Jz λi j=>.int (i-j)):=MQ λ_ _ _ _ _ _ _ q=>sub_int q
theorem J2:jg X (binaryOp .Mult) (rI GO λi j=>.int (i*j)):=MP λ_ _ _ _ _ _ _ hc q=>mul_int q hc.ok
theorem BM:jg X (binaryOp .FloorDiv) (rI Pk λi j=>.int (i/j)):=MP λi j _ _ _ _ _ hc q=>by have h1:(0:Int)<j:=hc.1;have h2:j<1073741824:=hc.2;exact floordiv_int (by lia) (by rw[Int.fdiv_eq_ediv_of_nonneg i (by lia)];exact q) (.inl (PyProof.noPylong_small (by lia)))
theorem bK:jg X (binaryOp .Mod) (rI (λ_ j=>0<j) λi j=>.int (i%j)):=MP λi j _ _ _ _ _ hc q=>by have h1:(0:Int)<j:=hc;exact mod_int' (by lia) (by rw[Int.fmod_eq_emod_of_nonneg i (by lia)];exact q)
theorem Dr:jg X (binaryOp .Pow) (rI Pl λi j=>.int (i ^ j.toNat)):=MP λ_ _ _ _ _ _ _ hc q=>pow_int_small hc.1 hc.2.1 hc.2.2 q
theorem Ti{f:Value->Sem Value}{g:Int->Int}(rule:∀(i:Int)(t:Tok)(s:Shared)(Q:Value->Shared->Prop)(E:Value->Shared->Prop),Q (.int (g i) s.toks) { s with toks:=s.toks+1 }->wpAny (model X.prog X.w) X.A (f (.int i t)) Q E s):
  Pj X f (rU λi=>.int (g i)):=by
 intro io s σ H x v Q I rx h;obtain⟨i,rfl,q⟩:=h;obtain⟨t,rfl⟩:=rx;exact rule i t s _ _ ⟨.int (g i),H,I.tok _,⟨_,rfl⟩,q⟩
theorem eW:Pj X (unaryOp .USub) (rU λi=>.int (-i)):=Ti λ_ _ _ _ _ q=>neg_int q
end
def MR:V->V->Bool
 |.bu,.bu=>true|.bu,.int _=>true|.int _,.bu=>true|.bu,.bl _=>true|.bl _,.bu=>true|.bu,.str _=>true|.str _,.bu=>true
 |.int _,.int _=>true|.bl _,.bl _=>true|.str _,.str _=>true|.DY _,.DY _=>true
 |.int _,.str _=>true|.str _,.int _=>true|.bl _,.str _=>true|.str _,.bl _=>true
 |_,_=>false
def Tj:R2:=λx y H Q=>MR x y=true/\Q (.bl (decide (x=y))) H
def Tn:R2:=λx y H Q=>MR x y=true/\Q (.bl (!decide (x=y))) H
theorem BN{i j:Int}:decide (V.int i=V.int j)=(i==j):=by rw[Bool.eq_iff_iff];simp
theorem Ds{i j:Bool}:decide (V.bl i=V.bl j)=(i==j):=by rw[Bool.eq_iff_iff];simp
theorem BO{i j:Str}:decide (V.str i=V.str j)=(i==j):=by rw[Bool.eq_iff_iff];simp
theorem BP{i j:Array UInt8}:decide (V.DY i=V.DY j)=(i.toList==j.toList):=by rw[Bool.eq_iff_iff];cases i;cases j;simp
section
variable{a:Expr}{tc:TE}
theorem bD{Q:VK}{k k':Bool}(I:Inv X io σ H s)(q:Q (.bl k) H)(e:k=k'):EP X io σ Q (.bool k') s:=by subst e;exact⟨.bl k,H,I,rfl,q⟩
theorem bX:jg X (compareOp .Eq) Tj:=by
 intro io s σ H x y v u Q I rx ry h;obtain⟨hs,q⟩:=h;cases x with
 |bu =>
  cases rx;cases y with
  |bu=>cases ry;exact PySem.EqNone.eq_none_none (bD I q (by simp))
  |bl j=>cases ry;exact PySem.EqNone.eq_none_bool (bD I q (by simp))
  |int j=>obtain⟨t',rfl⟩:=ry;exact PySem.EqNone.eq_none_int (bD I q (by simp))
  |str j=>obtain⟨t',rfl⟩:=ry;exact PySem.EqNone.eq_none_str (bD I q (by simp))
  |_=>exact absurd (show false=true from hs) Bool.false_ne_true
 |bl i =>
  cases rx;cases y with
  |bu=>cases ry;exact PySem.EqNone.eq_bool_none (bD I q (by simp))
  |bl j=>cases ry;exact eq_bool (bD I q Ds)
  |str j=>obtain⟨t',rfl⟩:=ry;exact PySem.EqMixed.eq_bool_str (bD I q (by simp))
  |_=>exact absurd (show false=true from hs) Bool.false_ne_true
 |int i =>
  obtain⟨t,rfl⟩:=rx;cases y with
  |bu=>cases ry;exact PySem.EqNone.eq_int_none (bD I q (by simp))
  |int j=>obtain⟨t',rfl⟩:=ry;exact eq_int (bD I q BN)
  |str j=>obtain⟨t',rfl⟩:=ry;exact PySem.EqMixed.eq_int_str (bD I q (by simp))
  |_=>exact absurd (show false=true from hs) Bool.false_ne_true
 |str i =>
  obtain⟨t,rfl⟩:=rx;cases y with
  |bu=>cases ry;exact PySem.EqNone.eq_str_none (bD I q (by simp))
  |bl j=>cases ry;exact PySem.EqMixed.eq_str_bool (bD I q (by simp))
  |int j=>obtain⟨t',rfl⟩:=ry;exact PySem.EqMixed.eq_str_int (bD I q (by simp))
  |str j=>obtain⟨t',rfl⟩:=ry;exact eq_str (bD I q BO)
  |_=>exact absurd (show false=true from hs) Bool.false_ne_true
 |DY i =>
  obtain⟨t,rfl⟩:=rx;cases y with
  |DY j=>obtain⟨t',rfl⟩:=ry;exact W.eq_bytes (bD I q BP)
  |_=>exact absurd (show false=true from hs) Bool.false_ne_true
 |_=>cases y<;>exact absurd (show false=true from hs) Bool.false_ne_true
theorem mm:jg X (compareOp .NotEq) Tn:=by
 intro io s σ H x y v u Q I rx ry h;obtain⟨hs,q⟩:=h;cases x with
 |bu =>
  cases rx;cases y with
  |bu=>cases ry;exact PySem.EqNone.ne_none_none (bD I q (by simp))
  |bl j=>cases ry;exact PySem.EqNone.ne_none_bool (bD I q (by simp))
  |int j=>obtain⟨t',rfl⟩:=ry;exact PySem.EqNone.ne_none_int (bD I q (by simp))
  |str j=>obtain⟨t',rfl⟩:=ry;exact PySem.EqNone.ne_none_str (bD I q (by simp))
  |_=>exact absurd (show false=true from hs) Bool.false_ne_true
 |bl i =>
  cases rx;cases y with
  |bu=>cases ry;exact PySem.EqNone.ne_bool_none (bD I q (by simp))
  |bl j=>cases ry;exact ne_bool (bD I q (congrArg not Ds))
  |str j=>obtain⟨t',rfl⟩:=ry;exact PySem.EqMixed.ne_bool_str (bD I q (by simp))
  |_=>exact absurd (show false=true from hs) Bool.false_ne_true
 |int i =>
  obtain⟨t,rfl⟩:=rx;cases y with
  |bu=>cases ry;exact PySem.EqNone.ne_int_none (bD I q (by simp))
  |int j=>obtain⟨t',rfl⟩:=ry;exact ne_int (bD I q (congrArg not BN))
  |str j=>obtain⟨t',rfl⟩:=ry;exact PySem.EqMixed.ne_int_str (bD I q (by simp))
  |_=>exact absurd (show false=true from hs) Bool.false_ne_true
 |str i =>
  obtain⟨t,rfl⟩:=rx;cases y with
  |bu=>cases ry;exact PySem.EqNone.ne_str_none (bD I q (by simp))
  |bl j=>cases ry;exact PySem.EqMixed.ne_str_bool (bD I q (by simp))
  |int j=>obtain⟨t',rfl⟩:=ry;exact PySem.EqMixed.ne_str_int (bD I q (by simp))
  |str j=>obtain⟨t',rfl⟩:=ry;exact ne_str (bD I q (congrArg not BO))
  |_=>exact absurd (show false=true from hs) Bool.false_ne_true
 |DY i =>
  obtain⟨t,rfl⟩:=rx;cases y with
  |DY j=>obtain⟨t',rfl⟩:=ry;exact W.ne_bytes (bD I q (congrArg not BP))
  |_=>exact absurd (show false=true from hs) Bool.false_ne_true
 |_=>cases y<;>exact absurd (show false=true from hs) Bool.false_ne_true
theorem lE:jg X (compareOp .Lt) (Jz λi j=>.bl (decide (i<j))):=J1 λ_ _ _ _ _ _ _ q=>lt_int q
theorem BQ:jg X (compareOp .LtE) (Jz λi j=>.bl (decide (i<=j))):=J1 λ_ _ _ _ _ _ _ q=>le_int q
theorem mq:jg X (compareOp .Gt) (Jz λi j=>.bl (decide (j<i))):=J1 λ_ _ _ _ _ _ _ q=>gt_int q
theorem J3:jg X (compareOp .Is) (λx y H Q=>y=.bu/\Q (.bl (decide (x=.bu))) H):=by
 intro io s σ H x y v u Q I rx ry h;obtain⟨rfl,q⟩:=h;cases ry;refine is_none_gen (bD I q ?_);cases x<;>first
  | (cases rx;rfl)
  | (obtain⟨t,rfl⟩:=rx;rfl)
theorem BR:jg X (compareOp .IsNot) (λx y H Q=>y=.bu/\Q (.bl (!decide (x=.bu))) H):=by
 intro io s σ H x y v u Q I rx ry h;obtain⟨rfl,q⟩:=h;cases ry;refine isnot_none_gen (bD I q ?_);cases x<;>first
  | (cases rx;rfl)
  | (obtain⟨t,rfl⟩:=rx;rfl)
theorem aQ(b:Expr)(h:op≠.In:=by decide)(h2:op≠.NotIn:=by decide):behindInMarks op b=false:=by
 have e1:(op==CmpOp.In)=false:=by cases op<;>first|rfl|exact absurd rfl h
 have e2:(op==CmpOp.NotIn)=false:=by cases op<;>first|rfl|exact absurd rfl h2
 cases b<;>simp[behindInMarks,e1,e2]
theorem ba{r:R2}(ho:jg X (compareOp op) r)(ha:PE X a ta)(hb:PE X b tb)(hm:behindInMarks op b=false):PE X (.Compare a [op] [b] pos) (Jy r ta tb):=by intro io s σ H Q I h;exact wpAny_Compare1 (J0 ha hb I h λv u s2 x y H2 I2 rx ry q=>ho io s2 σ H2 x y v u Q I2 rx ry q) hm
def Iz(t:TE):TT:=λσ H Q=>t σ H λx H'=>∃k,x=.bl k/\Q k H'
theorem aL{r:R2}(ho:jg X (compareOp op) r)(ha:PE X a ta)(hb:PE X b tb)(hm:behindInMarks op b=false):PT X (.Compare a [op] [b] pos) (Iz (Jy r ta tb)):=by
 intro io s σ H Q I h;refine wpAny_isTrue_Compare1 (bI (ha io s σ H _ I h) λv s1 ⟨x,H1,I1,r1,q1⟩=>bI (hb io s1 σ H1 _ I1 q1) λu s2 ⟨y,H2,I2,r2,q2⟩ =>
  bI (ho io s2 σ H2 x y v u _ I2 r1 r2 q2) λc s3 ⟨z,H3,I3,r3,k,e,q3⟩=>?_) hm
 subst e;cases r3;exact wpAny_truthy_bool ⟨H3,I3,q3⟩
def Dt(r r':R2)(ta tb tc:TE):TE:=λσ H Q=>ta σ H λx H1=>tb σ H1 λy H2=>r x y H2 λz H3=>∃k,z=.bl k /\
 (if k=true then tc σ H3 λw' H4=>r' y w' H4 Q else Q (.bl false) H3)
theorem Du{r r':R2}(ho:jg X (compareOp op) r)(xp:jg X (compareOp J4) r')(ha:PE X a ta)(hb:PE X b tb)(hc:PE X c tc)(hm:lastMarks [op,J4] [b,c]=false:=by with_unfolding_all rfl):PE X (.Compare a [op,J4] [b,c] pos) (Dt r r' ta tb tc):=by
 intro io s σ H Q I h;refine Compare_chain (bI (ha io s σ H _ I h) λv s1 ⟨x,H1,I1,r1,q1⟩=>chain_link (bI (hb io s1 σ H1 _ I1 q1) λu s2 ⟨y,H2,I2,r2,q2⟩ =>
  bI (ho io s2 σ H2 x y v u _ I2 r1 r2 q2) λd s3 ⟨z,H3,I3,r3,k,e,q3⟩=>?_)) hm
 subst e;cases r3;refine wpAny_truthy_bool ?_;cases k with
 |false=>exact ite_ff ⟨.bl false,H3,I3,rfl,q3⟩
 |true=>exact ite_tt (chain_last (bI (hc io s3 σ H3 _ I3 q3) λw' s4 ⟨z',H4,I4,r4,q4⟩=>xp io s4 σ H4 y z' u w' Q I4 r2 r4 q4))
theorem Dv{r r':R2}(ho:jg X (compareOp op) r)(xp:jg X (compareOp J4) r')(ha:PE X a ta)(hb:PE X b tb)(hc:PE X c tc)(hm:lastMarks [op,J4] [b,c]=false:=by with_unfolding_all rfl):PT X (.Compare a [op,J4] [b,c] pos) (Iz (Dt r r' ta tb tc)):=by
 intro io s σ H Q I h;refine isTrue_chain (bI (ha io s σ H _ I h) λv s1 ⟨x,H1,I1,r1,q1⟩=>test_link (bI (hb io s1 σ H1 _ I1 q1) λu s2 ⟨y,H2,I2,r2,q2⟩ =>
  bI (ho io s2 σ H2 x y v u _ I2 r1 r2 q2) λd s3 ⟨z,H3,I3,r3,k,e,q3⟩=>?_)) hm
 subst e;cases r3;refine wpAny_truthy_bool ?_;cases k with
 |false =>
  obtain⟨k',e',q'⟩:=q3;cases e';exact ite_ff ⟨H3,I3,q'⟩
 |true =>
  refine ite_tt (test_last (bI (hc io s3 σ H3 _ I3 q3) λw' s4 ⟨z',H4,I4,r4,q4⟩=>bI (xp io s4 σ H4 y z' u w' _ I4 r2 r4 q4) λd' s5 ⟨z2,H5,I5,r5,k2,e2,q5⟩=>?_));subst e2;cases r5;exact wpAny_truthy_bool ⟨H5,I5,q5⟩
theorem vy:(sizeLine:Nat)<2 ^ 63:=by rw[sizeLine_eq];decide
theorem vals1{x:V}(r:ae [x] us):∃u,us=[u]/\RelV x u:=by
 cases r with
 |cons r1 r2=>cases r2;exact⟨_,rfl,r1⟩
theorem vals2{x y:V}(r:ae [x,y] us):∃u w',us=[u,w']/\RelV x u/\RelV y w':=by
 cases r with
 |cons r1 r2 =>
  cases r2 with
  |cons r3 r4=>cases r4;exact⟨_,_,rfl,r1,r3⟩
theorem Dx:cH X (.builtin "abs") (λxs H Q=>∃i,xs=[.int i]/\Q (.int (if i<0 then -i else i)) H):=by intro io s σ H xs us Q I r h;obtain⟨i,rfl,q⟩:=h;obtain⟨u,rfl,t,rfl⟩:=vals1 r;exact call_abs_int λu tk=>⟨.int (if i<0 then -i else i),H,I.tok _,⟨_,rfl⟩,q⟩
theorem pZ(hc:X.calm=true):cH X (.builtin "max") (λxs H Q=>∃i j,xs=[.int i,.int j]/\Q (.int (if j>i then j else i)) H):=by
 intro io s σ H xs us Q I r h;obtain⟨i,j,rfl,q⟩:=h;obtain⟨u,w',rfl,⟨t,rfl⟩,⟨t',rfl⟩⟩:=vals2 r;refine max_two_ints (I.ok.hd hc) λh' tk k=>⟨_,H,I.kept k,?_,q⟩;by_cases hj:j>i
 ·rw[if_pos hj,if_pos hj];exact⟨_,rfl⟩
 rw[if_neg hj,if_neg hj];exact⟨_,rfl⟩
theorem pd(hc:X.calm=true):cH X (.builtin "min") (λxs H Q=>∃i j,xs=[.int i,.int j]/\Q (.int (if j<i then j else i)) H):=by
 intro io s σ H xs us Q I r h;obtain⟨i,j,rfl,q⟩:=h;obtain⟨u,w',rfl,⟨t,rfl⟩,⟨t',rfl⟩⟩:=vals2 r;refine min_two_ints (I.ok.hd hc) λh' tk k=>⟨_,H,I.kept k,?_,q⟩;by_cases hj:j<i
 ·rw[if_pos hj,if_pos hj];exact⟨_,rfl⟩
 rw[if_neg hj,if_neg hj];exact⟨_,rfl⟩
theorem CM:cH X (.type "int") (λxs H Q=>(∃i,xs=[.int i]/\Q (.int i) H)\/∃k,xs=[.bl k]/\Q (.int (if k then 1 else 0)) H):=by
 intro io s σ H xs us Q I r h;rcases h with⟨i,rfl,q⟩|⟨k,rfl,q⟩
 ·obtain⟨u,rfl,t,rfl⟩:=vals1 r;exact call_int_int ⟨.int i,H,I,⟨_,rfl⟩,q⟩
 obtain⟨u,rfl,r1⟩:=vals1 r;cases r1;exact call_int_bool ⟨.int (if k then 1 else 0),H,I.tok _,⟨_,rfl⟩,q⟩
end
structure zr(h:Heap)(x dx C:Addr)(mA:Str->Option Value):Prop where
 obj:h.get? x=some (W.instObj C dx)
 ns:h.Ns1 dx mA
 ne:dx≠x
theorem CN(n:h.Ns1 dx mA):∃od,h.get? dx=some od/\∀name,W.lookIn name od=some (mA name):=by
 obtain⟨o,es,ep,ho,hd,hk,_,hm⟩:=n;refine⟨o,ho,λname=>?_⟩;have e:=hm name;unfold nsFind findBy at e;rw[<-Array.find?_toList]at e;unfold W.lookIn;rw[hd];dsimp only;split
 ·rename_i y q;rw[q]at e;exact congrArg some e
 rename_i q;rw[q]at e;have a:es.toList.any (·.refKey)=false:=by rw[List.any_eq_false];intro y hy;obtain⟨z,t,vz⟩:=hk y (Array.mem_toList_iff.mp hy);simp[DictEntry.refKey,vz]
 have a':¬es.toList.any (·.refKey)=true:=by rw[a];exact Bool.false_ne_true
 rw[if_neg a'];exact congrArg some e
theorem zr.look{x:Addr}(I:zr h x dx C mA):∃od,W.InstAt h x (W.instObj C dx) C (some od)/\∀name,W.lookIn name od=some (mA name) :=
 let⟨od,ho,hl⟩:=CN I.ns
 ⟨od,⟨I.obj,rfl,rfl,ho⟩,hl⟩
section
variable{K:W.Frag}{x f:Addr}{v:Value}
theorem get_map(X:K.In s.heap)(I:zr s.heap x dx C mA)(hg:W.plainGet K C name=true)(hh:W.hasDictIn K C=true)(ha:W.findIn K (.ref C) name=some none)(hv:mA name=some v)(mr:W.handedIn v=true)(h:Q v { s with toks:=s.toks+1 }):
  wpAny (model prog w) A (getAttr (.ref x) name expr) Q E s:=by
 obtain⟨od,J,hl⟩:=I.look;exact W.get_value X J (W.plainGet_of hg).1 (W.findObj_own hh ha rfl (by rw[hl,hv])) mr h
theorem Dy{Q:Value×List Value->Shared->Prop}(X:K.In s.heap)(I:zr s.heap x dx C mA)(hg:W.plainGet K C name=true)(hf:W.findIn K (.ref C) name=some (some (.ref f)))(ht:W.isFn K (.ref f)=true)(hv:mA name=none)(h:Q (.ref f,[.ref x]) s):
  wpAny (model prog w) A (getMethod (.ref x) name pl) Q E s:=by
 obtain⟨od,J,hl⟩:=I.look;exact W.method_fn X J (W.plainGet_of hg).1 (W.plainGet_of hg).2 hf (beq_iff_eq.mp ht) (by show(W.lookIn name od).map (·.isSome)=some false;rw[hl,hv];rfl) h
theorem GP{ns:List Str}{Q:Unit->Shared->Prop}(X:K.In s.heap)(I:zr s.heap x dx C mA)(hs:W.findIn K (.ref C) "__setattr__"=some (some (.builtin "object.__setattr__")))(hp:W.plainOver K C=true)(ht:W.takerIn K C name=some none)(hh:W.hasDictIn K C=true)(hw:PySem.Within mA ns)(hsz:ns.length<=sizeLine)(h:∀h',zr h' x dx C (λy=>if y=name then some v else mA y)->Heap.SameBut dx s.heap h'->Q () { s with heap:=h',toks:=s.toks+2 }):
  wpAny (model prog w) A (setAttr (.ref x) name v) Q E s:=by
 obtain⟨od,J,hl⟩:=I.look;refine W.set_plain X J hs (W.osa_open (s:={ s with toks:=s.toks+1 }) (r:=none) X J hp ht λb=>?_)
 obtain⟨cd,hc,uA⟩:=W.any_some hh;have hx:s.heap.get? x=some ⟨.ref C,some dx,.plain,#[]⟩:=I.obj;refine f8 (im (f8 (f8 (wpAny_loadPart hx (f8 (W.Looks.here (s:={ s with toks:=s.toks+1 }) (W.looks_clsIn X hc) ?_))))));rw[uA];refine im (a:=some dx) (f8 (im (f8 ?_)));refine wpAny_nsSet1 (s:={ s with toks:=s.toks+1 }) I.ns λh' OV vx=>?_
 obtain⟨oD,WW,WX,To,Tp,Tq⟩:=OV.count (PySem.Within.cons name v hw);refine f8 (wpAny_lookBehind To (by rw[Tp];exact pastItsLine_dict (le_trans Tq (by rw[length_cons];lia))) ?_);exact im (h _ ⟨(vx.2 _ (Ne.symm I.ne)).trans I.obj,OV,I.ne⟩ vx)
theorem Dz{vs:List Value}(X:K.In s.heap)(hm:W.makesIn K C=true)(hi:W.findIn K (.ref C) "__init__"=some (some (.ref f)))(hf:W.typeIn K (.ref f)=some (.type "function"))(h:codeAny (model prog w) (A.under (.builtin "type.__call__" ⟨.ref C::vs,kw⟩)) (.call (.ref f) ⟨.ref (s.heap.objs.size+1)::vs,kw⟩) (W.InitBack (s.heap.objs.size+1) R)
   { s with heap:=(s.heap.push W.emptyDict).push (W.instObj C s.heap.objs.size) }):
  codeAny (model prog w) A (.call (.ref C) ⟨vs,kw⟩) R s:=by
 obtain⟨hh,g,d,t,os⟩:=s;exact W.make_core (W.makes_of X hm) (W.looks_findIn X hi) (λself=>W.bind_fn X self hf) (.inl rfl) h
end
def me(f:Str)(v:V):List (Str×V)->List (Str×V)
 |[]=>[(f,v)]
 | (g,x)::r=>if g=f then(g,v)::r else(g,x)::me f v r
theorem qc(f g:Str)(v:V):∀fs:List (Str×V),(me f v fs).lookup g=if g=f then some v else fs.lookup g
 |[]=>by
  show List.lookup g [(f,v)]=_;by_cases h:g=f
  ·have hb:(g==f)=true:=beq_iff_eq.mpr h;simp only[List.lookup,hb,if_pos h]
  have hb:(g==f)=false:=beq_eq_false_iff_ne.mpr h;simp only[List.lookup,hb,if_neg h]
 | (k,x)::r=>by
  have ih:=qc f g v r;rw[show me f v ((k,x)::r)=(if k=f then(k,v)::r else(k,x)::me f v r)from rfl];by_cases hk:k=f
  ·rw[if_pos hk];by_cases h:g=k
   ·have hb:(g==k)=true:=beq_iff_eq.mpr h;simp only[List.lookup,hb,if_pos (h.trans hk)]
   have hb:(g==k)=false:=beq_eq_false_iff_ne.mpr h;simp only[List.lookup,hb,if_neg (λe:g=f=>h (e.trans hk.symm))]
  rw[if_neg hk];by_cases h:g=k
  ·have hb:(g==k)=true:=beq_iff_eq.mpr h;simp only[List.lookup,hb,if_neg (λe:g=f=>hk (h.symm.trans e))]
  have hb:(g==k)=false:=beq_eq_false_iff_ne.mpr h;simp only[List.lookup,hb];exact ih
theorem pf(f:Str)(v:V):∀fs:List (Str×V),f∈(me f v fs).map (·.1)/\∀g,g∈fs.map (·.1)->g∈(me f v fs).map (·.1)
 |[]=>⟨by simp[me],λg h=>by simp at h⟩
 | (k,x)::r=>by
  obtain⟨i1,i2⟩:=pf f v r;rw[show me f v ((k,x)::r)=(if k=f then(k,v)::r else(k,x)::me f v r)from rfl];by_cases hk:k=f
  ·rw[if_pos hk];subst hk;exact⟨by simp,λg h=>by simpa using h⟩
  rw[if_neg hk];refine⟨?_,λg h=>?_⟩
  ·rw[List.map_cons];exact mem_cons_of_mem _ i1
  rw[List.map_cons]at h ⊢;rcases mem_cons.mp h with e|e
  ·exact mem_cons.mpr (.inl e)
  exact mem_cons_of_mem _ (i2 g e)
theorem qd(f:Str)(v:V):∀fs:List (Str×V),(me f v fs).length<=fs.length+1
 |[]=>by simp[me]
 | (k,x)::r=>by
  have ih:=qd f v r;rw[show me f v ((k,x)::r)=(if k=f then(k,v)::r else(k,x)::me f v r)from rfl];by_cases hk:k=f
  ·rw[if_pos hk,length_cons,length_cons];lia
  rw[if_neg hk,length_cons,length_cons];lia
theorem gY.some_of(r:gY (some v) o):∃u,o=some u/\RelV v u:=by
 cases o with
 |none=>exact(show False from r).elim
 |some u=>exact⟨u,rfl,r⟩
theorem gY.none_of(r:gY none o):o=none:=by
 cases o with
 |none=>rfl
 |some u=>exact(show False from r).elim
theorem CO(r:RelV v u):W.handedIn u=true:=by
 cases v with
 |bu=>cases(show u=Value.none from r);rfl
 |bl b=>cases(show u=Value.bool b from r);rfl
 |int i=>obtain⟨t,e⟩:=(show ∃t,u=Value.int i t from r);cases e;rfl
 |str x=>obtain⟨t,e⟩:=(show ∃t,u=Value.str x t from r);cases e;rfl
 |DY b=>obtain⟨t,e⟩:=(show ∃t,u=Value.bytes b t from r);cases e;rfl
 |Jf b=>obtain⟨t,e⟩:=(show ∃t,u=Value.float b t from r);cases e;rfl
 |ref a=>cases(show u=Value.ref a from r);rfl
 |ty n=>cases(show u=Value.type n from r);rfl
section
variable{H':Hp}{h':Heap}{PK:List (Str×V)}
theorem rP(bE:nM P w H h)(e:H a=some (.ins C dx fs)):∃mA,zr h a dx C mA/\(∀f,gY (fs.lookup f) (mA f))/\PySem.Within mA (fs.map (·.1))/\fs.length<=1000/\H dx=some (.own a):=by obtain⟨d,z,ne,ob,mA,n,r,q⟩:=(show bH P w H h a (.ins C dx fs)from bE a _ e);exact⟨mA,⟨ob,n,ne⟩,r,q,z,d⟩
end
structure D0(K:W.Frag)(C:Addr):Prop where
 pg:W.plainGet K C Str.empty=true
 hd:W.hasDictIn K C=true
 po:W.plainOver K C=true
 sa:W.findIn K (.ref C) "__setattr__"=some (some (.builtin "object.__setattr__"))
theorem D0.get{K:W.Frag}(c:D0 K C)(f:Str):W.plainGet K C f=true:=c.pg
def nP(K:W.Frag)(C:Addr)(f:Str):Prop:=W.findIn K (.ref C) f=some none
theorem nP.MS{K:W.Frag}{f:Str}(n:nP K C f):W.takerIn K C f=some none:=by unfold W.takerIn;rw[show W.findIn K (.ref C) f=some none from n];rfl
structure yH(K:W.Frag)(C:Addr)(m:Str)(f:Addr):Prop where
 at_:W.findIn K (.ref C) m=some (some (.ref f))
 fn:W.isFn K (.ref f)=true
 kp:W.keepIn K (.ref f)=true
section
variable{f:Str}
theorem zu{b:Bool}(I:Inv X io σ H s)(e:H a=some (.ins C dx fs))(c:D0 X.K C)(n:nP X.K C f)(l:fs.lookup f=some v)(h:∀u s',Inv X io σ H s'->RelV v u->Q u s'):wpAny (model X.prog X.w) A (getAttr (.ref a) f b) Q E s:=by obtain⟨mA,O,r,_,_,_⟩:=rP I.bE e;obtain⟨u,hu,ru⟩:=gY.some_of (v:=v) (o:=mA f) (by rw[<-l];exact r f);exact get_map I.qZ O (c.get f) c.hd n hu (CO ru) (h u _ (I.tok _) ru)
theorem rh{g:Addr}{Q:Value×List Value->Shared->Prop}(I:Inv X io σ H s)(e:H a=some (.ins C dx fs))(c:D0 X.K C)(k:yH X.K C m g)(l:fs.lookup m=none)(h:Q (.ref g,[.ref a]) s):wpAny (model X.prog X.w) A (getMethod (.ref a) m pl) Q E s:=by obtain⟨mA,O,r,_,_,_⟩:=rP I.bE e;have hn:mA m=none:=gY.none_of (by rw[<-l];exact r m);exact Dy I.qZ O (c.get m) k.at_ k.fn hn h
theorem zw{y:V}{Q:Unit->Shared->Prop}(I:Inv X io σ H s)(e:H a=some (.ins C dx fs))(c:D0 X.K C)(n:nP X.K C f)(hl:fs.length<1000)(ry:RelV y u)(h:∀s',Inv X io σ (upd H a (.ins C dx (me f y fs))) s'->Q () s'):wpAny (model X.prog X.w) A (setAttr (.ref a) f u) Q E s:=by
 obtain⟨mA,O,r,wi,_,ho⟩:=rP I.bE e;have hz:(fs.map (·.1)).length<=sizeLine:=by rw[length_map,sizeLine_eq];lia
 refine GP I.qZ O c.sa c.po n.MS c.hd wi hz λh' O' sb=>h _ ?_;have hd:∃o,h'.get? dx=some o:=let⟨o,_,_,e',_⟩:=O'.ns;⟨o,e'⟩;refine I.write (x:=a) (e:=dx) (by rw[e];exact True.intro) (.inr ho) (λb q hb z=>(sb.2 b hb).trans z) hd ?_;refine⟨by rw[aM O.ne];exact ho,?_,O.ne,O'.obj,_,O'.ns,λg=>?_,λg hg=>?_⟩
 ·have:=qd f y fs;lia
 ·show gY ((me f y fs).lookup g) (if g=f then some u else mA g);rw[qc];by_cases q:g=f
  ·rw[if_pos q,if_pos q];exact ry
  rw[if_neg q,if_neg q];exact r g
 by_cases q:g=f
 ·rw[q];exact(pf f y fs).1
 refine(pf f y fs).2 g (wi g λz=>hg ?_);show(if g=f then some u else mA g)=none;rw[if_neg q];exact z
theorem Inv.made(I:Inv X io σ H s):Inv X io σ (upd (upd H s.heap.objs.size (.own (s.heap.objs.size+1))) (s.heap.objs.size+1) (.ins C s.heap.objs.size []))
  { s with heap:=(s.heap.push W.emptyDict).push (W.instObj C s.heap.objs.size) }:=by
 have e1:(s.heap.push W.emptyDict).get? s.heap.objs.size=some W.emptyDict:=Heap.get?_push_size s.heap rfl;have e2:((s.heap.push W.emptyDict).push (W.instObj C s.heap.objs.size)).get? (s.heap.objs.size+1)=some (W.instObj C s.heap.objs.size):=by
  have:=Heap.get?_push_size (s.heap.push W.emptyDict) (o:=W.instObj C s.heap.objs.size) rfl
  rwa [Heap.size_push]at this
 have e3:(s.heap.push W.emptyDict).Ns s.heap.objs.size (λ_=>none):=⟨W.emptyDict,#[],_,e1,rfl,(λe he=>absurd he (by simp)),λ_=>rfl⟩;have I1:=I.laid (a:=s.heap.objs.size) (o:=.own (s.heap.objs.size+1)) (h':=s.heap.push W.emptyDict) (t':=s.toks) (λb u q=>Heap.get?_push_of_some _ q) (le_refl _) ⟨_,e1⟩;refine I1.laid (a:=s.heap.objs.size+1) (o:=.ins C s.heap.objs.size []) (t':=s.toks) (λb u q=>Heap.get?_push_of_some _ q) (Nat.le_of_eq (Heap.size_push _ _)) ?_;have ne:s.heap.objs.size≠s.heap.objs.size+1:=ne_of_lt (lt_succ_self _);refine⟨by rw[aM ne,aC],zero_le _,ne,e2,λ_=>none,(Heap.Ns1.of_empty e3).at λo q=>Heap.get?_push_of_some _ q,λ_=>True.intro,λy hy=>absurd rfl hy⟩
theorem GQ{env:Env}(hb:attributeBase e f env (eval e env)=eval e env)(h:wpAny (model prog w) A (eval e env) (λo s₁=>wpAny (model prog w) A (getAttr o f true) Q E s₁) E s):wpAny (model prog w) A (eval (.Attribute e f pos) env) Q E s :=
 Attribute_any_ h (by rw[arm_eval_Attribute,hb])
end
def MT(K:W.Frag)(ta:TE)(f:Str):TE:=λσ H Q=>ta σ H λx H1=>∃a C dx fs v,x=.ref a/\H1 a=some (.ins C dx fs)/\D0 K C/\nP K C f/\fs.lookup f=some v/\Q v H1
def MU(K:W.Frag)(ta tv:TE)(f:Str):TS:=λD σ H=>tv σ H λy H1=>ta σ H1 λx H2=>∃a C dx fs,x=.ref a/\H2 a=some (.ins C dx fs)/\D0 K C/\nP K C f/\fs.length<1000 /\
 D.nx σ (upd H2 a (.ins C dx (me f y fs)))
section
variable{o value:Expr}{f:Str}{GR:Pos}{tv:TE}
theorem J5(he:PE X e ta)(hb:attributeBase e f X.env (eval e X.env)=eval e X.env):PE X (.Attribute e f pos) (MT X.K ta f):=by intro io s σ H Q I h;refine GQ hb (bI (he io s σ H _ I h) λu s1 ⟨x,H1,I1,rx,a,C,dx,fs,v,ex,ea,c,n,l,q⟩=>?_);subst ex;obtain rfl:u=Value.ref a:=rx;exact zu I1 ea c n l λu' s2 I2 ru=>⟨v,H1,I2,ru,q⟩
theorem J6(ha:PE X o ta)(hv:PE X value tv)(hs:swapsWith value (some (.Attribute o f pos')) pos.line X.env=pure false):PS X (.Assign [.Attribute o f pos'] value pos) (MU X.K ta tv f):=by intro io s σ H D I h;refine plainObj_wpAny_Assign_Attribute (bI (hv io s σ H _ I h) λu s1 ⟨y,H1,I1,ry,q⟩=>bI (ha io s1 σ H1 _ I1 q) λov s2 ⟨x,H2,I2,rx,a,C,dx,fs,ex,ea,c,n,l,q2⟩=>?_) hs;subst ex;obtain rfl:ov=Value.ref a:=rx;exact zw I2 ea c n l ry λs3 I3=>⟨σ,_,I3,q2⟩
end
section
variable{c:Value}{b:Bool}
inductive ph(K:W.Frag)(H:Hp):V->Value->Prop where
 |bu:ph K H .bu (.type "NoneType")
 |bl (x:Bool):ph K H (.bl x) (.type "bool")
 |int (i:Int):ph K H (.int i) (.type "int")
 |str (x:Str):ph K H (.str x) (.type "str")
 |Jf (x:UInt64):ph K H (.Jf x) (.type "float")
 |lst {a:Addr} {xs:List V} (e:H a=some (.lst xs)):ph K H (.ref a) (.type "list")
 |BH {a:Addr} {o:Obj} {xs:List V} (e:H a=some (.BH o (.lst xs))):ph K H (.ref a) (.type "list")
 |tup {a:Addr} {xs:List V} (e:H a=some (.tup xs)):ph K H (.ref a) (.type "tuple")
 |dK {a:Addr} {lw:List (Key×V)} (e:H a=some (.dK lw)):ph K H (.ref a) (.type "dict")
 |dT {a:Addr} {lw:List (List Key×V)} (e:H a=some (.dT lw)):ph K H (.ref a) (.type "dict")
 |ins {a C dx:Addr} {fs:List (Str×V)} (e:H a=some (.ins C dx fs)) (cl:D0 K C) (ha:W.findIn K (.ref C) "__class__"=some (some (.builtin "object.__class__")))
   (hn:W.specialIn K (.builtin "object.__class__") "__get__"=some (some (.builtin "getset_descriptor.__get__"))) (Rp:W.takesIn K (.builtin "object.__class__")=some true)
   (hm:W.mroIn K C (.type "object")=some true):ph K H (.ref a) (.ref C)
theorem CP{x:V}{t:Value}(I:Inv X io σ H s)(rx:RelV x u)(ty:ph X.K H x t)(e:W.kitOne X.K t c=some b)(h:∀tk,Q (.bool b) { s with toks:=tk }):
  wpAny (model X.prog X.w) A (call (.builtin "isinstance") [u,c]) Q E s:=by
 cases ty with
 |bu=>cases(show u=Value.none from rx);exact W.kia_one W.kitx_none I.qZ True.intro e (λz=>nomatch z) h
 |bl y=>cases(show u=Value.bool y from rx);exact W.kia_one W.kitx_bool I.qZ True.intro e (λz=>nomatch z) h
 |int i=>obtain⟨t,q⟩:=(show ∃t,u=Value.int i t from rx);cases q;exact W.kia_one W.kitx_int I.qZ True.intro e (λz=>nomatch z) h
 |str y=>obtain⟨t,q⟩:=(show ∃t,u=Value.str y t from rx);cases q;exact W.kia_one W.kitx_str I.qZ True.intro e (λz=>nomatch z) h
 |Jf y=>obtain⟨t,q⟩:=(show ∃t,u=Value.float y t from rx);cases q;exact W.kia_one W.kitx_float I.qZ True.intro e (λz=>nomatch z) h
 |@lst a xs ea =>
  cases(show u=Value.ref a from rx);obtain⟨_,_,n,_,h1⟩:=(show bH X.prog X.w H s.heap a (.lst xs)from I.bE a _ ea);exact W.kia_one W.kitx_list I.qZ ⟨_,h1,rfl⟩ e (λz=>nomatch z) h
 |@BH a ob xs ea =>
  cases(show u=Value.ref a from rx);obtain⟨_,_,_,n,_,h1⟩:=(show bH X.prog X.w H s.heap a (.BH ob (.lst xs))from I.bE a _ ea);exact W.kia_one W.kitx_list I.qZ ⟨_,h1,rfl⟩ e (λz=>nomatch z) h
 |@tup a xs ea =>
  cases(show u=Value.ref a from rx);obtain⟨_,_,_,p⟩:=(show bH X.prog X.w H s.heap a (.tup xs)from I.bE a _ ea);obtain⟨o,h1,h2,_⟩:=p;exact W.kia_one W.kitx_tuple I.qZ ⟨o,h1,h2⟩ e (λz=>nomatch z) h
 |@dK a lw ea =>
  cases(show u=Value.ref a from rx);obtain⟨_,_,vs,_,p⟩:=(show bH X.prog X.w H s.heap a (.dK lw)from I.bE a _ ea);obtain⟨o,es,ep,h1,h2,_⟩:=p;exact W.kia_one W.kitx_dict I.qZ ⟨o,h1,h2.1⟩ e (λz=>nomatch z) h
 |@dT a lw ea =>
  cases(show u=Value.ref a from rx);obtain⟨_,_,xs,_,o,es,ep,h1,h2,_⟩:=(show bH X.prog X.w H s.heap a (.dT lw)from I.bE a _ ea);exact W.kia_one W.kitx_dict I.qZ ⟨o,h1,h2.1⟩ e (λz=>nomatch z) h
 |@ins a C dx fs ea cl ha hn Rp hm =>
  cases(show u=Value.ref a from rx);obtain⟨mA,O,_⟩:=rP I.bE ea;obtain⟨od,J,_⟩:=O.look;exact W.kia_one (W.kitx_own (cl.get _) cl.hd ha hn Rp hm) I.qZ J e (λz=>nomatch z) h
end
structure dq(k:Nat)(A:Around):Prop where
 hd:A.handled=none
 dp:A.depth+3*k+5<recursionLimit
 un:A.units+16*k+200<cLine
theorem dq.mono{j:Nat}(r:dq k A)(h:j<=k):dq j A:=⟨r.hd,by have:=r.dp;lia,by have:=r.un;lia⟩
theorem dq.deeper{k:Nat}{A:Around}(r:dq (k+1) A)(env:Env):dq k (A.deeper env) :=
 ⟨r.hd,by have:=r.dp;show A.depth+1+3*k+5<_;lia,by have:=r.un;show A.units+3+16*k+200<_;lia⟩
theorem zx:(A.under (.builtin "type.__call__" ⟨.ref C::us,kw⟩)).depth=A.depth+1:=by
 first|rfl|simp[Around.under,Code.weight,Code.isCreation,Code.isGuard,Code.isCaller,Code.frames,Code.isFrame,guardIds]
theorem zy:(A.under (.builtin "type.__call__" ⟨.ref C::us,kw⟩)).units=A.units+1:=by
 first|rfl|simp[Around.under,Code.cUnits,Code.frames,Code.isFrame]
theorem dq.make(r:dq (k+1) A)(C:Addr)(us:List Value)(kw:List (Str×Value)):dq k (A.under (.builtin "type.__call__" ⟨.ref C::us,kw⟩)) :=
 ⟨r.hd,by have:=r.dp;rw[zx];lia,by have:=r.un;rw[zy];lia⟩
theorem dq.depth{k:Nat}{A:Around}(r:dq k A):A.depth<recursionLimit:=by have:=r.dp;lia
theorem dq.units{k:Nat}{A:Around}(r:dq k A):A.units+64<cLine:=by have:=r.un;lia
def z7:TA:=λ_ H Q=>Q [] H
def D1(ta:TE)(tr:TA):TA:=λσ H Q=>ta σ H λx H1=>tr σ H1 λxs H2=>Q (x::xs) H2
section
variable{t:TA}
theorem aE:PA X [] z7:=λ_ _ _ _ H Q I h=>Calls.spliced_nil ⟨[],H,I,.nil,h⟩
theorem aA(ha:PE X e te)(hr:PA X es t)(hs:starEach (e::es) X.env=(false,eval e X.env)::starEach es X.env:=by rfl):PA X (e::es) (D1 te t):=by intro pos io s σ H Q I h;rw[hs];show wpAny _ _ (spliced ((false,eval e X.env)::backTo pos (starEach es X.env))) _ _ s;refine Calls.spliced_cons (bI (ha io s σ H _ I h) λu s1 ⟨x,H1,I1,r1,q1⟩=>?_);exact bI (hr pos io s1 σ H1 _ I1 q1) λus s2 ⟨xs,H2,I2,r2,q2⟩=>⟨x::xs,H2,I2,.cons r1 r2,q2⟩
def MV(t:TA):TE:=λσ H Q=>t σ H λxs H1=>xs.length<=sizeLine/\∀p,H1 p=none->Q (.ref p) (upd H1 p (.tup xs))
def Pm(t:TA):TE:=λσ H Q=>t σ H λxs H1=>xs.length<=sizeLine/\∀p,H1 p=none->Q (.ref p) (upd H1 p (.lst xs))
theorem ag{x1}(h:PA X es t):PE X (.Tuple es x1 pos) (MV t):=by intro io s σ H Q I hq;refine wpAny_Tuple_spliced (bI (h pos io s σ H _ I hq) λus s1 ⟨xs,H1,I1,r,z,q⟩=>⟨by rw[<-r.length];exact z,?_⟩);have hf:H1 s1.heap.objs.size=none:=I1.bE.fresh (le_refl _);refine⟨.ref s1.heap.objs.size,upd H1 s1.heap.objs.size (.tup xs),I1.laid (t':=s1.toks) (λb u e=>Heap.get?_push_of_some _ e) (le_refl _) ?_,rfl,q _ hf⟩;exact⟨z,us,r,⟨_,Heap.get?_push_size _ rfl,rfl,_,rfl⟩⟩
theorem az(h:PA X es t):PE X (.List es pos) (Pm t):=by intro io s σ H Q I hq;refine wpAny_List_spliced (bI (h pos io s σ H _ I hq) λus s1 ⟨xs,H1,I1,r,z,q⟩=>⟨by rw[<-r.length];exact z,?_⟩);have hf:H1 s1.heap.objs.size=none:=I1.bE.fresh (le_refl _);refine⟨.ref s1.heap.objs.size,upd H1 s1.heap.objs.size (.lst xs),I1.laid (t':=s1.toks) (λb u e=>Heap.get?_push_of_some _ e) (le_refl _) ?_,rfl,q _ hf⟩;exact⟨z,us,0,r,Heap.get?_push_size _ rfl⟩
end
abbrev Sp:=List V->Hp->VK->XK->Prop
abbrev z8:=List Env->Hp->Shared->XK->Value->Shared->Prop
structure z9(P:Program)(w:World)(K:W.Frag)(mg:Str->Option Value)(base:Heap)(A:Around)(outer:List Env)(s:Shared)(H:Hp):Prop where
 frames:A.frames=some outer
 mod:Mod K mg base
 bs:∀b o,base.get? b=some o->s.heap.get? b=some o/\H b=none
 GI:base.objs.size<=s.heap.objs.size
 qz:s.heap.FunFrames base outer
 Jk:∀b∈CI outer,H b=none
 bE:nM P w H s.heap
 bare:AllBare s.gens
def CE(outer:List Env)(P:Program)(w:World)(H:Hp)(s:Shared)(Q:VK)(u:Value)(s':Shared):Prop :=
 ∃v H',s'.os=s.os/\AllBare s'.gens/\Un (CI outer) [] H H' s.heap s'.heap/\nM P w H' s'.heap/\RelV v u/\Q v H'
def CR(CX:z8)(outer:List Env)(P:Program)(w:World)(H:Hp)(s:Shared)(Q:VK)(E:XK)(r:Result)(s':Shared):Prop :=
 match r with
 |.ok (.ret u)=>CE outer P w H s Q u s'
 |.ok _=>False
 |.error e=>CX outer H s E e s'
structure eN(P:Program)(w:World)(K:W.Frag)(mg:Str->Option Value)(base:Heap)(CX:z8)(k:Nat)(f:Addr)(fd:FuncData)(ps:List Str)(sp:Sp):Prop where
 len:∀vs H Q E,sp vs H Q E->vs.length=ps.length
 run:∀(A:Around)(outer:List Env)(s:Shared)(H:Hp)(args:Args)(us:List Value)(vs:List V)(Q:VK)(E:XK),dq k A->z9 P w K mg base A outer s H->BindsTo s fd args (ps.zip us)->ae vs us->sp vs H Q E ->
  codeAny (model P w) A (.call (.ref f) args) (CR CX outer P w H s Q E) s
theorem eN.mono{P:Program}{w:World}{K:W.Frag}{mg:Str->Option Value}{base:Heap}{CX:z8}{j k:Nat}{f:Addr}{fd:FuncData}{ps:List Str}{sp:Sp}(F:eN P w K mg base CX j f fd ps sp)(h:j<=k):
  eN P w K mg base CX k f fd ps sp:=⟨F.len,λA outer s H args us vs Q E hr=>F.run A outer s H args us vs Q E (hr.mono h)⟩
theorem z9.make{K:W.Frag}(e:z9 P w K mg base A outer s H)(C:Addr)(us:List Value)(kw:List (Str×Value)):
  z9 P w K mg base (A.under (.builtin "type.__call__" ⟨.ref C::us,kw⟩)) outer s H:=⟨by first|exact e.frames|(simpa[Around.under,Code.envs,Code.isFrame,pushEnvs]using e.frames),e.mod,e.bs,e.GI,e.qz,e.Jk,e.bE,e.bare⟩
section
variable{s':Shared}
theorem Inv.MW(I:Inv X io σ H s):z9 X.prog X.w X.K X.mg X.base X.A X.stack s H :=
 ⟨I.ok.frames,I.ok.mod,I.bs,le_trans I.ok.GI I.sz,I.stack,I.BI,I.bE,I.bare⟩
theorem Inv.after{Q:VK}(I:Inv X io σ H s)(h:CE X.stack X.prog X.w H s Q u s'):EP X io σ Q u s':=by obtain⟨v,H',os,bare,un,bE,r,q⟩:=h;obtain⟨hh,g,d,t,Pn⟩:=s';obtain rfl:Pn=s.os:=os;exact⟨v,H',I.call (h':=hh) (g':=g) (d':=d) (t':=t) (ch:=[]) un bE bare (λb z=>absurd z (by simp)),r,q⟩
end
def I0(sp:Sp)(uD:List V)(E:XK)(t:TA):TE:=λσ H Q=>t σ H λvs H1=>sp (vs++uD) H1 Q E
def JA(C:Addr)(m:Str)(sp:Sp)(uD:List V)(E:XK)(ta:TE)(t:TA):TE:=λσ H Q=>ta σ H λx H1=>∃a dx fs,x=.ref a/\H1 a=some (.ins C dx fs)/\fs.lookup m=none /\
 t σ H1 λvs H2=>sp (x::(vs++uD)) H2 Q E
def MX(C:Addr)(sp:Sp)(uD:List V)(E:XK)(t:TA):TE:=λσ H Q=>t σ H λvs H1=>∀x dx,H1 x=none->H1 dx=none->dx≠x ->
 sp (.ref x::(vs++uD)) (upd (upd H1 dx (.own x)) x (.ins C dx [])) (λv H2=>v=.bu/\Q (.ref x) H2) E
def Binds(K:W.Frag)(fd:FuncData)(ps:List Str)(ds:List Value):Prop :=
 ∀(s:Shared)(us:List Value),K.In s.heap->(us++ds).length=ps.length->BindsTo s fd ⟨us,[]⟩ (ps.zip (us++ds))
theorem Binds.all{K:W.Frag}(h:∀us:List Value,us.length=ps.length->bindArgs fd ⟨us,[]⟩=pure (ps.zip us)):Binds K fd ps []:=λs us _ hl=>by rw[List.append_nil]at hl ⊢;exact .of_eq (h us hl)
def lF(CX:z8)(X:Cx)(E:XK):Prop:=∀(io:List (Addr×Obj))(σ:St)(H:Hp)(s:Shared)(e:Value)(s':Shared),Inv X io σ H s->CX X.stack H s E e s'->X.xe e s'
section
variable{CX:z8}{f:Addr}{sp:Sp}{E:XK}{o:Expr}{t:TA}
theorem AA{Q:VK}(F:eN X.prog X.w X.K X.mg X.base CX k f fd ps sp)(hr:dq k X.A)(hb:Binds X.K fd ps ds)(hd:ae uD ds)(hx:lF CX X E)(I:Inv X io σ H s)(r:ae vs us)(h:sp (vs++uD) H Q E):wpAny (model X.prog X.w) X.A (call (.ref f) us) (EP X io σ Q) X.xe s:=by
 have r2:ae (vs++uD) (us++ds):=r.append hd;have hl:(us++ds).length=ps.length:=by rw[<-r2.length];exact F.len _ _ _ _ h
 refine wpAny_call (codeAny_mono (F.run X.A X.stack s H ⟨us,[]⟩ (us++ds) (vs++uD) Q E hr I.MW (hb s us I.qZ hl) r2 h) λr s' hq=>?_);cases r with
 |error e=>exact hx io σ H s e s' I hq
 |ok fl =>
  cases fl with
  |ret u=>exact I.after hq
  |next=>exact False.elim hq
  |brk=>exact False.elim hq
  |cont=>exact False.elim hq
theorem GS(F:eN X.prog X.w X.K X.mg X.base CX k f fd ps sp)(hr:dq k X.A)(hg:Gl X x)(hm:X.mg x=some (.ref f))(hk:W.keepIn X.K (.ref f)=true)(hb:Binds X.K fd ps ds)(hd:ae uD ds)(hx:lF CX X E)(ha:PA X (e::es) t)(GU:(x==("__debug__":Str))=false:=by decide)(he:starEach (e::es) X.env=(false,eval e X.env)::starEach es X.env:=by rfl)(zW:(backTo pos (starEach es X.env)).any (·.1)=false:=by rfl):
  PE X (.Call (.Name x p) (e::es) [] pos) (I0 sp uD E t):=by
 intro io s σ H Q I h;refine wpAny_Call_Name_kw (vp I hg hm ?_ GU);refine W.callWith_K (h₀:=X.base) I.ok.mod.Iq hk (bI (ha pos io s σ H _ I h) λus s1 ⟨vs,H1,I1,r,q⟩=>⟨I1.qZ,?_⟩) he zW;exact AA F hr hb hd hx I1 r q
theorem GV(he:PE X o ta)(c:D0 X.K C)(hm:yH X.K C m f)(F:eN X.prog X.w X.K X.mg X.base CX k f fd ps sp)(hr:dq k X.A)(hb:Binds X.K fd ps ds)(hd:ae uD ds)(hx:lF CX X E)(ha:PA X (e::es) t)(zV:starEach (e::es) X.env=(false,eval e X.env)::starEach es X.env:=by rfl)(zW:(backTo pos (starEach es X.env)).any (·.1)=false:=by rfl)(ht:eval (.Call (.Attribute o m apos) (e::es) [] pos) X.env=(do
   let ov <- eval o X.env
   standAt apos.atName
   let(f,first) <- holding [ov] (getMethod ov m pl)
   callWith pos f first (backTo pos (starEach (e::es) X.env)) (backToKw pos (keywordEach [] X.env))):=by rfl):
  PE X (.Call (.Attribute o m apos) (e::es) [] pos) (JA C m sp uD E ta t):=by
 intro io s σ H Q I h;refine W.methodCall_KW (pl:=pl) (bI (he io s σ H _ I h) λu s1 ⟨x,H1,I1,rx,a,dx,fs,ex,ea,l,q⟩=>?_) ht;subst ex;obtain rfl:u=Value.ref a:=rx;refine rh I1 ea c hm l ?_;refine W.callWith_K (first:=[.ref a]) (h₀:=X.base) I.ok.mod.Iq hm.kp (bI (ha pos io s1 σ H1 _ I1 q) λus s2 ⟨vs,H2,I2,r,q2⟩=>⟨I2.qZ,?_⟩) zV zW;exact AA (us:=.ref a::us) (vs:=.ref a::vs) F hr hb hd hx I2 (.cons rfl r) q2
theorem yI(he:PE X o ta)(c:D0 X.K C)(hm:yH X.K C m f)(F:eN X.prog X.w X.K X.mg X.base CX k f fd ps sp)(hr:dq k X.A)(hb:Binds X.K fd ps ds)(hd:ae uD ds)(hx:lF CX X E)(ht:eval (.Call (.Attribute o m apos) [] [] pos) X.env=(do
   let ov <- eval o X.env
   standAt apos.atName
   let(f,first) <- holding [ov] (getMethod ov m pl)
   callWith pos f first (backTo pos (starEach [] X.env)) (backToKw pos (keywordEach [] X.env))):=by rfl):
  PE X (.Call (.Attribute o m apos) [] [] pos) (JA C m sp uD E ta z7):=by
 intro io s σ H Q I h;refine W.methodCall_KW (pl:=pl) (bI (he io s σ H _ I h) λu s1 ⟨x,H1,I1,rx,a,dx,fs,ex,ea,l,q⟩=>?_) ht;subst ex;obtain rfl:u=Value.ref a:=rx;refine rh I1 ea c hm l ?_;exact W.callWith_K0 (first:=[.ref a]) I1.qZ hm.kp (AA (us:=[.ref a]) (vs:=[.ref a]) F hr hb hd hx I1 (.cons rfl .nil) q)
structure Mk(K:W.Frag)(C f:Addr):Prop where
 makes:W.makesIn K C=true
 init:W.findIn K (.ref C) "__init__"=some (some (.ref f))
 fn:W.isFn K (.ref f)=true
 kp:W.keepIn K (.ref C)=true
theorem D3{Q:VK}(M:Mk X.K C f)(F:eN X.prog X.w X.K X.mg X.base CX k f fd ps sp)(hr:dq (k+1) X.A)(hb:Binds X.K fd ps ds)(hd:ae uD ds)(hx:lF CX X E)(I:Inv X io σ H s)(r:ae vs us)(h:∀x dx,H x=none->H dx=none->dx≠x->sp (.ref x::(vs++uD)) (upd (upd H dx (.own x)) x (.ins C dx [])) (λv H2=>v=.bu/\Q (.ref x) H2) E):
  wpAny (model X.prog X.w) X.A (call (.ref C) us) (EP X io σ Q) X.xe s:=by
 have hq:=h (s.heap.objs.size+1) s.heap.objs.size (I.bE.fresh (le_succ _)) (I.bE.fresh (le_refl _)) (ne_of_lt (lt_succ_self _));have I2:=Inv.made (C:=C) I;have r2:ae (V.ref (s.heap.objs.size+1)::(vs++uD)) (Value.ref (s.heap.objs.size+1)::(us++ds)):=.cons rfl (r.append hd);have hl:(Value.ref (s.heap.objs.size+1)::us++ds).length=ps.length:=by have e:=r2.length;rw[F.len _ _ _ _ hq]at e;exact e.symm
 refine wpAny_call (Dz (f:=f) I.qZ M.makes M.init (beq_iff_eq.mp M.fn) (codeAny_mono (F.run _ X.stack _ _ ⟨Value.ref (s.heap.objs.size+1)::us,[]⟩ (Value.ref (s.heap.objs.size+1)::(us++ds)) _ _ E (hr.make C us [])
  (I2.MW.make C us []) (hb _ (Value.ref (s.heap.objs.size+1)::us) I2.qZ hl) r2 hq) λr s' MY=>?_))
 cases r with
 |error e=>exact hx io σ _ _ e s' I2 MY
 |ok fl =>
  cases fl with
  |ret u =>
   obtain⟨v,H',I3,rv,ev,q3⟩:=I2.after MY;subst ev;exact⟨rv,⟨V.ref (s.heap.objs.size+1),H',I3,rfl,q3⟩⟩
  |next=>exact False.elim MY
  |brk=>exact False.elim MY
  |cont=>exact False.elim MY
theorem D4(M:Mk X.K C f)(F:eN X.prog X.w X.K X.mg X.base CX k f fd ps sp)(hr:dq (k+1) X.A)(hg:Gl X x)(hm:X.mg x=some (.ref C))(hb:Binds X.K fd ps ds)(hd:ae uD ds)(hx:lF CX X E)(GU:(x==("__debug__":Str))=false:=by decide):PE X (.Call (.Name x p) [] [] pos) (MX C sp uD E z7):=by intro io s σ H Q I h;refine wpAny_Call_Name_kw (vp I hg hm ?_ GU);exact W.callWith_K0 I.qZ M.kp (D3 (us:=[]) M F hr hb hd hx I .nil h)
end
section
variable{CX:z8}{f:Addr}{ks:List Str}{sp:Sp}{E:XK}{Po:Pos}{o:Expr}{t tk:TA}
end
structure aU(N P:List Str)(sc:Scope):Prop where
 kind:sc.kind=.function
 co:sc.isCoroutine=false
 gen:sc.isGenerator=false
 nd:N.Nodup
 pre:N.take P.length=P
 par:∀x∈P,sc.names.lookup x=some .local\/sc.names.lookup x=some .cell
 J7:∀y∈sc.names,y.2≠.free
theorem u9{kindOf:Str->Option NameKind}{x:Str}:∀{binds:List (Str×Value)}{m:Str->Option Value},(∀v,(x,v)∉binds)->bindL kindOf binds m x=m x
 |[],_,_=>rfl
 | (n,v)::r,m,h=>by
  unfold bindL;rw[u9 λw hw=>h w (mem_cons_of_mem _ hw)];split
  ·have:x≠n:=(by rintro rfl;exact h v mem_cons_self);simp[this]
  rfl
theorem vA{kindOf:Str->Option NameKind}{x:Str}:∀{binds:List (Str×Value)}{m:Str->Option Value},(∀v,(x,v)∉binds)->bindC kindOf binds m x=m x
 |[],_,_=>rfl
 | (n,v)::r,m,h=>by
  unfold bindC;rw[vA λw hw=>h w (mem_cons_of_mem _ hw)];split
  ·rfl
  have:x≠n:=by rintro rfl;exact h v mem_cons_self
  simp[this]
theorem vB{kindOf:Str->Option NameKind}{x:Str}{v:Value}:∀{P:List Str}{vs:List Value}{i:Nat}{m:Str->Option Value},P.Nodup->P[i]?=some x->vs[i]?=some v->kindOf x=some .local ->
  bindL kindOf (P.zip vs) m x=some v
 |[],_,_,_,_,h,_,_=>by simp at h
 |_::_,[],_,_,_,_,h,_=>by simp at h
 |p::P,w::vs,0,m,nd,h1,h2,hk=>by simp at h1 h2;subst h1;subst h2;show bindL kindOf ((p,w)::P.zip vs) m p=_;unfold bindL;rw[u9 λv hv=>(List.nodup_cons.mp nd).1 (List.of_mem_zip hv).1,if_pos hk];simp
 |p::P,w::vs,i+1,m,nd,h1,h2,hk=>by show bindL kindOf ((p,w)::P.zip vs) m x=_;unfold bindL;exact vB (i:=i) (List.nodup_cons.mp nd).2 (by simpa using h1) (by simpa using h2) hk
theorem vC{kindOf:Str->Option NameKind}{x:Str}{v:Value}:∀{P:List Str}{vs:List Value}{i:Nat}{m:Str->Option Value},P.Nodup->P[i]?=some x->vs[i]?=some v->kindOf x≠some .local ->
  bindC kindOf (P.zip vs) m x=some v
 |[],_,_,_,_,h,_,_=>by simp at h
 |_::_,[],_,_,_,_,h,_=>by simp at h
 |p::P,w::vs,0,m,nd,h1,h2,hk=>by simp at h1 h2;subst h1;subst h2;show bindC kindOf ((p,w)::P.zip vs) m p=_;unfold bindC;rw[vA λv hv=>(List.nodup_cons.mp nd).1 (List.of_mem_zip hv).1,if_neg hk];simp
 |p::P,w::vs,i+1,m,nd,h1,h2,hk=>by show bindC kindOf ((p,w)::P.zip vs) m x=_;unfold bindC;exact vC (i:=i) (List.nodup_cons.mp nd).2 (by simpa using h1) (by simpa using h2) hk
def start(N:List Str)(vs:List V):St:=vs.map some++List.replicate (N.length-vs.length) none
def CQ(CX:z8)(P:Program)(w:World)(K:W.Frag)(mg:Str->Option Value)(base:Heap)(N:List Str)(qual:Str)(scope:Scope)(f:Addr)(cd:Value)(A:Around)(outer:List Env)(s:Shared)(H:Hp)(E:XK):Cx where
 prog:=P
 w:=w
 K:=K
 mg:=mg
 base:=base
 A:=A.deeper (envOfC qual scope s.heap.objs.size f cd)
 N:=N
 s₀:=s
 H₀:=H
 env:=envOfC qual scope s.heap.objs.size f cd
 outer:=outer
 stack:=envOfC qual scope s.heap.objs.size f cd::outer
 ex:=[]
 calm:=true
 fn:=λ_=>true
 pn:=[]
 xe:=λe s'=>wpAny (model P w) (A.deeper (envOfC qual scope s.heap.objs.size f cd)) (leaving (envOfC qual scope s.heap.objs.size f cd) e) (λ_ Pp=>CX outer H s E e Pp) (λe' Pp=>CX outer H s E e' Pp) s'
theorem yJ{sc:Scope}(h:sc.names.lookup x=some .cell):∃c,(cellsFrom n sc.names []).lookup x=some c:=by have q:=W.cellsFrom_some sc.names n [] (.inl h);exact Option.isSome_iff_exists.mp q
theorem CS{CX:z8}{K:W.Frag}{f:Addr}{cd:Value}{s1:Shared}{E:XK}(S:aU N ps scope)(hd:A.handled=none)(e0:z9 P w K mg base A outer s H)(hl:vs.length=ps.length)(r:ae vs us)(x:InCallC s s.heap.objs.size (bindL (envOfC qual scope s.heap.objs.size f cd).kindOf (ps.zip us) λ_=>none) (cellsFrom (s.heap.objs.size+1) scope.names []) (bindC (envOfC qual scope s.heap.objs.size f cd).kindOf (ps.zip us) λ_=>none) s1):
  Inv (CQ CX P w K mg base N qual scope f cd A outer s H E) [] (start N vs) H s1:=by
 have zW:ps.length<=N.length:=by have:=congrArg List.length S.pre;rw[length_take]at this;lia
 obtain⟨h1,tk,rfl,hk⟩:=x.done;have MZ:∀b:Addr,b∉(CQ CX P w K mg base N qual scope f cd A outer s H E).ex:=λb z=>absurd (show b∈([]:List Addr)from z) (by simp);refine⟨⟨e0.mod,S.kind,rfl,rfl,le_refl _,λy z c h1 h2=>?_,λy hy=>?_,λy c _ h=>?_,λ_=>hd,Around.frames_deeper e0.frames,.inr ⟨rfl,rfl⟩,λb z=>absurd z (MZ b),e0.bs,e0.GI,λb _ _=>MZ b,λb z=>absurd z (MZ b),e0.qz,e0.Jk⟩,
  rfl,e0.bare,Un.kept hk,⟨_,x.toInCall.ns,λi y v h1 h2 h3=>?_⟩,λy c h=>⟨_,x.cell y c h⟩,e0.bE.fresh (le_refl _),λy c h=>?_,λp hp=>absurd (show p∈([]:List (Addr×Obj))from hp) (by simp),e0.bE.kept hk,?_⟩
 ·exact name_of_addr x.apart (PySem.mem_of_lookup h1) (PySem.mem_of_lookup h2)
 ·have hy:scope.names.lookup y=some .cell\/scope.names.lookup y=some .free:=hy;rcases hy with hy|hy
  ·exact yJ hy
  exact absurd rfl (S.J7 _ (PySem.mem_of_lookup hy))
 ·exact Nat.le_of_lt (x.above y c (PySem.mem_of_lookup h))
 ·have hi:i<vs.length:=by
   unfold start at h2;by_cases hi:i<vs.length
   ·exact hi
   rw[getElem?_append_right (by simpa using hi)]at h2;rw[List.getElem?_replicate]at h2;split at h2<;>cases h2
  have ha:vs[i]?=some v:=by
   unfold start at h2;rw[getElem?_append_left (by simpa using hi),getElem?_map]at h2;cases e:vs[i]? with
   |none=>rw[e]at h2;cases h2
   |some a=>rw[e]at h2;cases h2;rfl
  obtain⟨u,hu,rv⟩:=r.get ha;have hp:ps[i]?=some y:=by rw[<-S.pre,List.getElem?_take_of_lt (by lia)];exact h1
  have Rq:ps.Nodup:=by rw[<-S.pre];exact S.nd.sublist (List.take_sublist _ _)
  refine⟨u,rv,?_⟩;rcases S.par y (mem_of_getElem? hp)with k|k
  ·exact .inl ⟨k,vB Rq hp hu k⟩
  obtain⟨c,e⟩:=yJ (n:=s.heap.objs.size+1) k;refine .inr ⟨.inl k,c,e,?_⟩;have q:=x.cell y c e;rw[vC Rq hp hu (by show scope.names.lookup y≠_;rw[k];decide)]at q;exact q
 ·exact e0.bE.fresh (Nat.le_of_lt (x.above y c (PySem.mem_of_lookup h)))
 unfold start;show _=N.length;rw[length_append,length_map,length_replicate];lia
theorem D5{CX:z8}{K:W.Frag}{f:Addr}{dV kV doc pm bj ct oc:Value}{an od:Option Addr}{sp:Sp}(lk:K.lookup f=some ⟨oc,od,.func (W.fnOf name qual params body scope dV kV doc pm an bj ct),CT⟩)(xq:W.codeIn K bj qual=true)(S:aU N ps scope)(len:∀vs H Q E,sp vs H Q E->vs.length=ps.length)(rj:∀(A:Around)(outer:List Env)(s:Shared)(H:Hp)(vs:List V)(Q:VK)(E:XK),dq k (A.deeper (envOfC qual scope s.heap.objs.size f bj))->sp vs H Q E ->
   ∃t,Dc (CQ CX P w K mg base N qual scope f bj A outer s H E) body t/\t { nx:=λ_ H'=>Q .bu H',rt:=Q } (start N vs) H):
  eN P w K mg base CX (k+1) f (W.fnOf name qual params body scope dV kV doc pm an bj ct) ps sp:=by
 refine⟨len,λA outer s H args us vs Q E hr e0 hb r Dd=>?_⟩;have hl:=len _ _ _ _ Dd;have KX:K.In s.heap:=e0.mod.Iq.keeps λb o e=>(e0.bs b o e).1;have lim:s.heap.NoLimit:=e0.mod.nolimit.keeps λb o e=>(e0.bs b o e).1;have Ma:∀y∈ps.zip us,scope.names.lookup y.1=some .local\/(scope.names.lookup y.1=some .cell/\((cellsFrom (s.heap.objs.size+1) scope.names []).lookup y.1).isSome=true):=λ⟨n,v⟩ hy=>by
  rcases S.par n (List.of_mem_zip hy).1 with q|q
  ·exact .inl q
  exact .inr ⟨q,W.cellsFrom_some _ _ _ (.inl q)⟩
 refine codeAny_call_function hr.depth (KX _ _ lk) rfl S.co S.gen rfl (W.codeRec_of KX xq) (hb _ _ _ _ ?_);refine wpAny_newFunctionEnv_cells S.kind Ma λenv he s1 x=>?_;subst he;refine⟨lim.keeps x.toInCall.keep,codeAny_func ?_⟩;obtain⟨t,ht,hq⟩:=rj A outer s H vs Q E (hr.deeper _) Dd;have I:Inv (CQ CX P w K mg base N qual scope f bj A outer s H E) [] (start N vs) H s1:=CS S hr.hd e0 hl r x;refine wpAny_mono (ht [] s1 (start N vs) H _ I hq) (λfl s' hs=>?_) λe s' hs=>hs;have fin:∀{σ':St}{H':Hp}{v:V}{u:Value},Inv (CQ CX P w K mg base N qual scope f bj A outer s H E) [] σ' H' s'->RelV v u->Q v H'->CE outer P w H s Q u s' :=
  λ{σ' H' v u} J rv q=>⟨v,H',J.os,J.bare,J.base,J.bE,rv,q⟩
 cases fl with
 |ret u =>
  obtain⟨v,σ',H',J,rv,q⟩:=hs;exact fin J rv q
 |next =>
  obtain⟨σ',H',J,q⟩:=hs;exact fin (v:=V.bu) (u:=Value.none) J rfl q
 |brk =>
  obtain⟨_,_,_,q⟩:=hs;exact False.elim q
 |cont =>
  obtain⟨_,_,_,q⟩:=hs;exact False.elim q
section
variable{t:TA}{id T:String}
def Pq(r:List V->Hp->VK->Prop)(t:TA):TE:=λσ H Q=>t σ H λvs H1=>r vs H1 Q
theorem aT(hc:cH X (.builtin id) r)(hg:Gl X x)(hm:X.mg x=none)(hv:bootBuiltins x=some (.builtin id))(ha:PA X (e::es) t)(hn:x≠"__name__":=by decide)(GU:(x==("__debug__":Str))=false:=by decide)(he:starEach (e::es) X.env=(false,eval e X.env)::starEach es X.env:=by rfl)(zW:(backTo pos (starEach es X.env)).any (·.1)=false:=by rfl):PE X (.Call (.Name x p) (e::es) [] pos) (Pq r t):=by intro io s σ H Q I h;refine wpAny_Call_Name_kw (pW I hg hm hv ?_ hn GU);exact PyProof.Rows.callWith_builtin1 (bI (ha pos io s σ H _ I h) λus s1 ⟨vs,H1,I1,r1,q1⟩=>hc io s1 σ H1 vs us Q I1 r1 q1) he zW
theorem bB(hc:cH X (.type T) r)(hg:Gl X x)(hm:X.mg x=none)(hv:bootBuiltins x=some (.type T))(ha:PA X (e::es) t)(hn:x≠"__name__":=by decide)(GU:(x==("__debug__":Str))=false:=by decide)(he:starEach (e::es) X.env=(false,eval e X.env)::starEach es X.env:=by rfl)(zW:(backTo pos (starEach es X.env)).any (·.1)=false:=by rfl):PE X (.Call (.Name x p) (e::es) [] pos) (Pq r t):=by intro io s σ H Q I h;refine wpAny_Call_Name_kw (pW I hg hm hv ?_ hn GU);exact PyProof.Rows.callWith_type1 (bI (ha pos io s σ H _ I h) λus s1 ⟨vs,H1,I1,r1,q1⟩=>hc io s1 σ H1 vs us Q I1 r1 q1) he zW
end
end L2
namespace HT
open PySem PyProof.Rows
section
open PySem.SeqAt
open PySem.AutoSeq1 (wpAny_loadPart')
open PySem.MeetsSeq PySem.MeetsSeq2 PySem.MeetsSeq3
end
section
variable{prog:Program}{w:World}{A:Around}{E:Value->Shared->Prop}{s:Shared}
theorem GW{t b:Addr}{vs ws:List Value}{Q:Value->Shared->Prop}(ht:IsTup s.heap t vs.toArray)(hb:IsTup s.heap b ws.toArray)(hv:vs≠[])(h1:ws=[]->Q (.ref t) s)(h2:ws≠[]->Q (.ref s.heap.objs.size) { s with heap:=s.heap.push { cls:=.type "tuple",data:=.seq (vs++ws).toArray } })(hsz:vs.length+ws.length<=sizeLine):wpAny (model prog w) A (binaryOp .Add (.ref t) (.ref b)) Q E s:=by
 obtain⟨⟨cls,dd,data,sl⟩,ho,hc,n,hd⟩:=id ht;obtain⟨⟨J8,De,data2,F7⟩,CU,D6,n2,hd2⟩:=id hb;simp only at hc hd D6 hd2;subst hc hd D6 hd2;have e:vs.toArray++ws.toArray=(vs++ws).toArray:=by simp
 by_cases hw:ws=[]
 ·exact concat_meets ⟨_,ho,rfl⟩ ⟨_,CU,rfl⟩ noFill_tuple_add seq_tuple_add PySem.F.slot_tuple_add PySem.F.entry_tuple_add (PySem.F.args_tuple_add_2 _ _)
   (tuple_addW1 t b vs.toArray ws.toArray n n2 dd De sl F7 (by simpa using hv) (by simp[hw])) ⟨ho,CU,h1 hw⟩
 refine concat_meets ⟨_,ho,rfl⟩ ⟨_,CU,rfl⟩ noFill_tuple_add seq_tuple_add PySem.F.slot_tuple_add PySem.F.entry_tuple_add (PySem.F.args_tuple_add_2 _ _)
  (tuple_addW2 t b vs.toArray ws.toArray n n2 dd De sl F7 (by simpa using hv) (by simpa using hw) (by rw[size_toArray,size_toArray];exact hsz)) ⟨ho,CU,?_⟩
 rw[e];exact h2 hw
def dt(n d:Nat):Option Int->Nat
 |none=>d
 |some v=>if v<0 then(v+(n:Int)).toNat else min v.toNat n
theorem yK(n d:Nat):dt n d none=d:=rfl
theorem BS(n d k:Nat):dt n d (some (k:Int))=min k n:=by show(if(k:Int)<0 then((k:Int)+(n:Int)).toNat else min (k:Int).toNat n)=min k n;rw[if_neg (by lia),Int.toNat_natCast]
theorem J9(n d:Nat)(hd:d<=n)(o:Option Int):dt n d o<=n:=by
 cases o with
 |none=>exact hd
 |some v =>
  show(if v<0 then(v+(n:Int)).toNat else min v.toNat n)<=n;by_cases hv:v<0
  ·rw[if_pos hv];lia
  rw[if_neg hv];exact Nat.min_le_right _ _
theorem BU(v:Int)(n d:Nat):(if v<0 then max (v+(n:Int)) 0 else min v (n:Int))=((dt n d (some v):Nat):Int):=by
 show(if v<0 then max (v+(n:Int)) 0 else min v (n:Int))=(((if v<0 then(v+(n:Int)).toNat else min v.toNat n):Nat):Int);by_cases hv:v<0
 ·simp only[if_pos hv];lia
 simp only[if_neg hv];lia
theorem AB(lo hi:Option Int)(n:Nat):Builtin.Slice.sliceAdjust lo hi 1 (n:Int)=(((dt n 0 lo:Nat):Int),((dt n n hi:Nat):Int)):=by
 have h1:¬((1:Int)<0):=by lia
 unfold Builtin.Slice.sliceAdjust;simp only[h1,if_false];refine Prod.ext ?_ ?_
 ·cases lo with
  |none=>rfl
  |some v=>exact BU v n 0
 cases hi with
 |none=>rfl
 |some v=>exact BU v n n
theorem AD(i j:Nat):Builtin.Slice.slicePlaces (i:Int) (j:Int) 1=j-i:=by
 unfold Builtin.Slice.slicePlaces;have h1:(1:Int)>0:=by lia
 simp only[h1,if_true,Int.ediv_one];split<;>lia
theorem gc{v:Value}{o:Option Int}{Q:Option Int->Shared->Prop}(p:IsPart v o)(h:Q o s):wpAny (model prog w) A (Builtin.Slice.slicePartIndex v) Q E s:=by
 cases p with
 |none=>exact slicePart_none h
 |int i t=>exact slicePart_int h
theorem jT{sl:Addr}{vl vu:Value}{lo hi:Option Int}{n:Nat}{Q:Int×Int×Nat->Shared->Prop}(hs:s.heap.IsSliceOf sl vl vu .none)(pl:IsPart vl lo)(pu:IsPart vu hi)(h:Q (((dt n 0 lo:Nat):Int),1,dt n n hi-dt n 0 lo) s):wpAny (model prog w) A (Builtin.Slice.sliceApplied (.ref sl) (pure (n:Int))) Q E s:=by
 obtain⟨os,oR,KA,F8⟩:=id hs;unfold Builtin.Slice.sliceApplied Builtin.Slice.sliceFields;refine f8 (f8 (wpAny_field oR F8 (x:=vl) rfl (f8 (wpAny_field oR F8 (x:=vu) rfl (f8 (wpAny_field oR F8 (x:=.none) rfl (im ?_)))))));refine f8 (slicePart_none ?_);show wpAny _ _ (if((1:Int)==0)=true then _ else _) _ _ s;rw[if_neg (by decide)];refine f8 (gc pl (f8 (gc pu (f8 (im ?_)))));show wpAny _ _ (match Builtin.Slice.sliceAdjust lo hi 1 (n:Int)with|(lo,hi)=>pure (lo,(1:Int),Builtin.Slice.slicePlaces lo hi 1)) _ _ s
 rw[AB lo hi n];show wpAny _ _ (pure (((dt n 0 lo:Nat):Int),(1:Int),Builtin.Slice.slicePlaces ((dt n 0 lo:Nat):Int) ((dt n n hi:Nat):Int) 1)) _ _ s;rw[AD];exact im h
theorem D7(xs:Array Value)(i k:Nat):((List.range k).filterMap λ(m:Nat)=>xs[((i:Int)+(m:Int)*1).toNat]?).toArray=((xs.toList.drop i).take k).toArray:=by
 have e:(λ(m:Nat)=>xs[((i:Int)+(m:Int)*1).toNat]?)=λm=>xs[i+m]?:=by
  funext m
  have:((i:Int)+(m:Int)*1).toNat=i+m:=by lia
  rw[this]
 rw[e];have:=pick_run xs i k;rw[List.filterMap_map]at this;have e2:((λx=>xs[x]?)∘λx=>i+x)=λm=>xs[i+m]?:=rfl;rw[e2]at this;rw[this]
theorem oT{t sl:Addr}{items:Array Value}{vl vu:Value}{lo hi:Option Int}{Q:Value->Shared->Prop}(ht:IsTup s.heap t items)(hs:s.heap.IsSliceOf sl vl vu .none)(pl:IsPart vl lo)(pu:IsPart vu hi)(hw:¬(dt items.size 0 lo=0/\dt items.size items.size hi=items.size))(h:Q (.ref s.heap.objs.size) { s with heap:=s.heap.push { cls:=.type "tuple",data:=.seq ((items.toList.drop (dt items.size 0 lo)).take (dt items.size items.size hi-dt items.size 0 lo)).toArray } })(hsz:items.size<=sizeLine):wpAny (model prog w) A (getItem (.ref t) (.ref sl)) Q E s:=by
 have oU:sizeOk (.seq ((items.toList.drop (dt items.size 0 lo)).take (dt items.size items.size hi-dt items.size 0 lo)).toArray):=by show((items.toList.drop (dt items.size 0 lo)).take (dt items.size items.size hi-dt items.size 0 lo)).toArray.size<=sizeLine;rw[size_toArray,length_take,List.length_drop,Array.length_toList];lia
 have hj:dt items.size items.size hi<=items.size:=J9 _ _ (le_refl _) hi;obtain⟨os,oR,KA,F8⟩:=id hs;have Mb:s.TypeIs (.ref sl) "slice":=⟨os,oR,KA⟩;unfold getItem
 try with_reducible refine wpAny_holding ?_
 first|refine f8 (im ?_)|skip
 refine f8 (wpAny_sequenceKey ht.typeIs (by decide) ?_);refine f8 (wpAny_callSpecial?_slot (name:=Str.ofString "__getitem__") ht.typeIs PyProof.Rows.slot_tuple_getitem
  (wpAny_call_entry PyProof.Rows.slot_tuple_getitem ht.typeIs entry_tuple_getitem ?_ (args_tuple_getitem _ _)))
 show wpAny _ _ (Builtin.Tuple.tupleItemsOf (.ref t) >>= _) _ _ s;refine f8 (tupleItemsOf_ ht ?_);refine f8 (wpAny_typeOf Mb ?_);rw[if_pos (by decide)];refine f8 (jT hs pl pu ?_);have Li:¬((((dt items.size 0 lo:Nat):Int)==0&&(1:Int)==1&&(dt items.size items.size hi-dt items.size 0 lo)==items.size)=true):=by intro q;rw[Bool.and_eq_true,Bool.and_eq_true]at q;have q1:((dt items.size 0 lo:Nat):Int)=0:=eq_of_beq q.1.1;have q2:dt items.size items.size hi-dt items.size 0 lo=items.size:=eq_of_beq q.2;exact hw ⟨by lia,by lia⟩
 show wpAny _ _ (if(((dt items.size 0 lo:Nat):Int)==0&&(1:Int)==1&&(dt items.size items.size hi-dt items.size 0 lo)==items.size)=true then _ else _) _ _ s;rw[if_neg Li,D7]
 first
  |exact f8 (m:=Builtin.Tuple.tupleExact _) (wpAny_newObj_type (im ⟨_,rfl,im h⟩) oU)
  |exact f8 (m:=Builtin.Tuple.tupleExact _) (wpAny_newObj_type (f8 (im (im ⟨_,rfl,im h⟩))) oU)
  |exact f8 (f8 (m:=Builtin.Tuple.tupleExact _) (wpAny_newObj_type (im (im ⟨_,rfl,im h⟩)) oU))
  |exact f8 (f8 (m:=Builtin.Tuple.tupleExact _) (wpAny_newObj_type (im ⟨_,rfl,im h⟩) oU))
end
end HT
namespace L2
open PySem PySem.Spec PyProof.Rows
variable{X:Cx}{e:Expr}{pos:Pos}{r:V->Option Int->Option Int->Hp->VK->Prop}{xs ys:List V}{us aS its':List Value}{n j t':Nat}{i:Int}{io:List (Addr×Obj)}{σ:St}{H:Hp}{s:Shared}{p:Addr}{f:Array Value->Array Value}{A:Around}{x:V}{u v:Value}{T:String}{es:List Expr}{prog:Program}{E:Value->Shared->Prop}
abbrev TO:=St->Hp->(Option Int->Hp->Prop)->Prop
def PO(X:Cx)(e:Option Expr)(t:TO):Prop :=
 ∀(io:List (Addr×Obj))(s:Shared)(σ:St)(H:Hp)(Q:Option Int->Hp->Prop),Inv X io σ H s->t σ H Q ->
  wpAny (model X.prog X.w) X.A (evalPart e X.env) (λu s'=>∃o H',Inv X io σ H' s'/\IsPart u o/\Q o H') X.xe s
def GX:TO:=λ_ H Q=>Q none H
def Mc(t:TE):TO:=λσ H Q=>t σ H λx H1=>∃i,x=.int i/\Q (some i) H1
section
variable{te:TE}{lo hi:Option Expr}{tl th:TO}{p2:Pos}
theorem dR:PO X none GX:=by intro io s σ H Q I h;rw[evalPart_none];exact im ⟨none,H,I,.none,h⟩
theorem cp(h:PE X e te):PO X (some e) (Mc te):=by intro io s σ H Q I hw;rw[evalPart_some];refine bI (h io s σ H _ I hw) λu s1 ⟨x,H1,I1,r1,q1⟩=>?_;obtain⟨i,rfl,q⟩:=q1;obtain⟨t,rfl⟩:=r1;exact⟨some i,H1,I1,.int i t,q⟩
def Md(X:Cx)(r:V->Option Int->Option Int->Hp->VK->Prop):Prop :=
 ∀(io:List (Addr×Obj))(s:Shared)(σ:St)(H:Hp)(x:V)(v vl vu:Value)(lo hi:Option Int)(sl:Addr)(Q:VK),Inv X io σ H s->RelV x v->s.heap.IsSliceOf sl vl vu .none->IsPart vl lo->IsPart vu hi->r x lo hi H Q ->
  ∃T id,typeLookup (.type T) "__getitem__"=pure (some (.builtin id))/\s.TypeIs v T/\wpAny (model X.prog X.w) X.A (getItem v (.ref sl)) (EP X io σ Q) X.xe s
def Ts(r:V->Option Int->Option Int->Hp->VK->Prop)(te:TE)(tl th:TO):TE:=λσ H Q=>te σ H λx H1=>tl σ H1 λl H2=>th σ H2 λu H3=>r x l u H3 Q
theorem cD(hr:Md X r)(he:PE X e te)(hl:PO X lo tl)(hu:PO X hi th):PE X (.Subscript e (.Slice lo hi none p2) pos) (Ts r te tl th):=by
 intro io s σ H Q I h;refine Subscript_ (bI (he io s σ H _ I h) λv s1 ⟨x,H1,I1,r1,q1⟩=>?_);refine wpAny_Slice (bI (hl io s1 σ H1 _ I1 q1) λvl s2 ⟨l,H2,I2,pl,q2⟩=>bI (hu io s2 σ H2 _ I2 q2) λvu s3 ⟨u,H3,I3,pu,q3⟩=>?_);rw[evalPart_none];refine im ?_;have I4:Inv X io σ H3 { s3 with heap:=s3.heap.push { cls:=.type "slice",data:=.fields #[vl,vu,.none] } }:=I3.kept (t':=s3.toks) λb ob q=>Heap.get?_push_of_some _ q
 obtain⟨T,id,hT,ht,hg⟩:=hr io { s3 with heap:=s3.heap.push { cls:=.type "slice",data:=.fields #[vl,vu,.none] } } σ H3 x v vl vu l u s3.heap.objs.size Q I4 r1 (Heap.IsSliceOf.new ..) pl pu q3;show wpAny (model X.prog X.w) X.A (subscriptTail e (.Slice lo hi none p2) v (.ref s3.heap.objs.size)) (EP X io σ Q) X.xe { s3 with heap:=s3.heap.push { cls:=.type "slice",data:=.fields #[vl,vu,.none] } };exact tail_any (ops:=[.ref s3.heap.objs.size,v]) ht hT hg (by with_unfolding_all rfl)
def kq(xs:List V)(lo hi:Option Int):List V:=(xs.drop (HT.dt xs.length 0 lo)).take (HT.dt xs.length xs.length hi-HT.dt xs.length 0 lo)
theorem qe(xs:List V)(lo hi:Option Int):(kq xs lo hi).length<=xs.length:=by unfold kq;rw[length_take,List.length_drop];lia
def Pr(K:W.Frag):V->Option Int->Option Int->Hp->VK->Prop:=λx lo hi H Q=>∃a xs,x=.ref a/\ab K H a xs /\
 ¬(HT.dt xs.length 0 lo=0/\HT.dt xs.length xs.length hi=xs.length)/\∀p,H p=none->Q (.ref p) (upd H p (.tup (kq xs lo hi)))
theorem KC:Md X (Pr X.K):=by
 intro io s σ H x v vl vu lo hi sl Q I rx hs pl pu h;obtain⟨a,xs,rfl,hx,hw,q⟩:=h;cases rx;obtain⟨aS,r,ht,hz⟩:=I.tuple hx;have o0:aS.toArray.size=xs.length:=by rw[size_toArray];exact r.length.symm
 refine⟨"tuple",_,PyProof.Rows.slot_tuple_getitem.lookup,ht.typeIs,?_⟩;refine HT.oT ht hs pl pu (by rw[o0];exact hw) ?_ (by rw[o0];exact hz);rw[o0];refine⟨.ref s.heap.objs.size,_,I.laid (t':=s.toks) (o:=.tup (kq xs lo hi)) (λb ob q=>Heap.get?_push_of_some _ q) (le_refl _) ?_,rfl,q _ (I.bE.fresh (le_refl _))⟩;exact⟨le_trans (qe xs lo hi) hz,_,(r.drop (HT.dt xs.length 0 lo)).take (HT.dt xs.length xs.length hi-HT.dt xs.length 0 lo),IsTup.new _ _⟩
def Me(K:W.Frag):R2:=λx y H Q=>∃a b xs ys,x=.ref a/\y=.ref b/\ab K H a xs/\ab K H b ys/\xs≠[]/\xs.length+ys.length<=sizeLine /\
 (ys=[]->Q (.ref a) H)/\(ys≠[]->∀p,H p=none->Q (.ref p) (upd H p (.tup (xs++ys))))
theorem ae.wB(r:ae xs us):us=[]↔xs=[]:=by
 cases r with
 |nil=>simp
 |cons _ _=>simp
theorem GY:jg X (binaryOp .Add) (Me X.K):=by intro io s σ H x y v u Q I rx ry h;obtain⟨a,b,xs,ys,rfl,rfl,ha,hb,hx,hz,q1,q2⟩:=h;cases rx;cases ry;obtain⟨aS,r1,p1,_⟩:=I.tuple ha;obtain⟨ik,r2,p2,_⟩:=I.tuple hb;refine HT.GW p1 p2 (λz=>hx (r1.wB.mp z)) (λz=>⟨.ref a,H,I,rfl,q1 (r2.wB.mp z)⟩) (λz=>?_) (by rw[<-r1.length,<-r2.length];exact hz);refine⟨.ref s.heap.objs.size,_,I.laid (t':=s.toks) (o:=.tup (xs++ys)) (λb ob q=>Heap.get?_push_of_some _ q) (le_refl _) ?_,rfl,q2 (λw=>z (r2.wB.mpr w)) _ (I.bE.fresh (le_refl _))⟩;exact⟨by rw[length_append];exact hz,_,r1.append r2,IsTup.new _ _⟩
end
def D8(n:Nat)(i:Int):Option Nat:=if 0<=i then(if i<n then some i.toNat else none)else if -(n:Int)<=i then some (i+n).toNat else none
def jh{α:Type}(xs:List α)(i:Int):Option α:=(D8 xs.length i).bind λj=>xs[j]?
theorem wC(h:D8 n i=some j):seqIndex? i n=some j/\j<n/\-(n:Int)<=i/\i<n:=by
 unfold D8 at h;by_cases h0:0<=i
 ·rw[if_pos h0]at h;by_cases h1:i<n
  ·rw[if_pos h1]at h;have e:i.toNat=j:=Option.some.inj h;exact⟨by rw[seqIndex_of h0 h1,e],by lia,by lia,h1⟩
  rw[if_neg h1]at h;cases h
 rw[if_neg h0]at h;by_cases h1:-(n:Int)<=i
 ·rw[if_pos h1]at h;have e:(i+n).toNat=j:=Option.some.inj h;exact⟨by rw[seqIndex_neg (by lia) h1,e],by lia,h1,by lia⟩
 rw[if_neg h1]at h;cases h
theorem BV{α:Type}{xs:List α}{v:α}(h:jh xs i=some v):∃j,seqIndex? i xs.length=some j/\xs[j]?=some v/\j<xs.length/\-(xs.length:Int)<=i/\i<xs.length:=by
 unfold jh at h;cases e:D8 xs.length i with
 |none=>rw[e]at h;cases h
 |some j =>
  rw[e]at h;obtain⟨h1,h2,h3,h4⟩:=wC e;exact⟨j,h1,h,h2,h3,h4⟩
theorem bG{α:Type}{xs:List α}{v:α}(h:xs[j]?=some v):jh xs (j:Int)=some v:=by
 have hj:j<xs.length:=(List.getElem?_eq_some_iff.mp h).1;have e:D8 xs.length (j:Int)=some j:=by unfold D8;rw[if_pos (by lia),if_pos (by lia)];simp
 unfold jh;rw[e];exact h
theorem oW{α:Type}(xs:List α)(v:α):jh (xs++[v]) (-1)=some v:=by
 have hl:(xs++[v]).length=xs.length+1:=by simp
 have e:D8 (xs++[v]).length (-1)=some xs.length:=by
  unfold D8;rw[hl,if_neg (by decide),if_pos (by lia)]
  congr 1
  lia
 unfold jh;rw[e];show(xs++[v])[xs.length]?=some v;simp
def GZ(b:Expr):Prop:=∀o i,subscripted b false o i=operate [o,i] (getItem o i)
def Mf(X:Cx)(r:R2):Prop :=
 ∀(value slice:Expr)(io:List (Addr×Obj))(s:Shared)(σ:St)(H:Hp)(x y:V)(v u:Value)(Q:VK),Inv X io σ H s->RelV x v->RelV y u->r x y H Q ->
  subscripted slice false v u=operate [v,u] (getItem v u)->wpAny (model X.prog X.w) X.A (subscriptTail value slice v u) (EP X io σ Q) X.xe s
def OW(X:Cx)(id:String)(r:V->List V->Hp->VK->Prop):Prop :=
 ∀(io:List (Addr×Obj))(s:Shared)(σ:St)(H:Hp)(x:V)(xs:List V)(v:Value)(us:List Value)(Q:VK),Inv X io σ H s->RelV x v->ae xs us->r x xs H Q ->
  wpAny (model X.prog X.w) X.A (call (.builtin id) (v::us)) (EP X io σ Q) X.xe s
section
variable{a b:Expr}{ta tb:TE}
theorem aK{r:R2}(hr:Mf X r)(ha:PE X a ta)(hb:PE X b tb)(hs:GZ b):PE X (.Subscript a b pos) (Jy r ta tb):=by intro io s σ H Q I h;exact Subscript_ (J0 ha hb I h λv u s2 x y H2 I2 rx ry q=>hr a b io s2 σ H2 x y v u Q I2 rx ry q (hs _ _))
def Mg(K:W.Frag):R2:=λx y H Q=>∃p xs i v,x=.ref p/\y=.int i/\aV K H p xs/\jh xs i=some v/\Q v H
def Mh(K:W.Frag):R2:=λx y H Q=>∃p xs i v,x=.ref p/\y=.int i/\ab K H p xs/\jh xs i=some v/\Q v H
theorem Ga:Mf X (Mg X.K):=by
 intro value slice io s σ H x y v u Q I rx ry h hs;obtain⟨p,xs,i,z,rfl,rfl,hq,he,q⟩:=h;cases rx;obtain⟨t,rfl⟩:=ry;obtain⟨aS,r,pl,hz⟩:=I.list hq;obtain⟨j,h1,h2,h3,h4,h5⟩:=BV he;obtain⟨w,ew,rA⟩:=r.get h2;have hl:=r.length;have hn:=vy;have fin:EP X io σ Q w s:=⟨z,H,I,rA,q⟩;by_cases h0:0<=i
 ·have hj:i.toNat=j:=by rw[seqIndex_of h0 h5]at h1;exact Option.some.inj h1
  exact item_listR pl.isList h0 (by lia) (by rw[hj];simpa using ew) fin hs
 have hj:(i+(aS.toArray.size:Int)).toNat=j:=by rw[seqIndex_neg (by lia) h4]at h1;rw[size_toArray,<-hl];exact Option.some.inj h1
 exact subscriptTail_builtinR (x:=w) pl.isList.typeIs slot_list_getitem.lookup
  (wpAny_getItem_list_neg (Q:=λr s'=>r=w/\EP X io σ Q r s') pl.isList (by lia) (by rw[size_toArray]<;>lia) (by lia) (by rw[hj];simpa using ew) ⟨rfl,fin⟩) hs
theorem KD:Mf X (Mh X.K):=by
 intro value slice io s σ H x y v u Q I rx ry h hs;obtain⟨p,xs,i,z,rfl,rfl,hq,he,q⟩:=h;cases rx;obtain⟨t,rfl⟩:=ry;obtain⟨aS,r,pl,hz⟩:=I.tuple hq;obtain⟨j,h1,h2,h3,h4,h5⟩:=BV he;obtain⟨w,ew,rA⟩:=r.get h2;have hl:=r.length;have hn:=vy;have fin:EP X io σ Q w s:=⟨z,H,I,rA,q⟩;exact subscriptTail_builtinR (x:=w) pl.typeIs slot_tuple_getitem.lookup
  (getItem_tuple (j:=j) (Q:=λr s'=>r=w/\EP X io σ Q r s') pl (by lia) (by lia) (by rw[size_toArray,<-hl];exact h1) (by simpa using ew) ⟨rfl,fin⟩) hs
theorem AE(aS:List Value)(n j:Nat)(u:Value):Obj.mapSeq (·.setIfInBounds j u) { cls:=.type "list",data:=.seq aS.toArray n }={ cls:=.type "list",data:=.seq (aS.set j u).toArray n }:=by simp[Obj.mapSeq]
theorem Inv.lst(I:Inv X io σ H s)(h:H p=some (.lst xs)):
  ∃(aS:List Value)(n:Nat),ae xs aS/\s.heap.get? p=some { cls:=.type "list",data:=.seq aS.toArray n }/\xs.length<=sizeLine:=by
 obtain⟨z,aS,n,r,e⟩:=I.bE p _ h;exact⟨aS,n,r,e,z⟩
theorem Inv.KE{n':Nat}{f:Obj->Obj}(I:Inv X io σ H s)(h:H p=some (.lst xs))(ho:s.heap.get? p=some { cls:=.type "list",data:=.seq aS.toArray n })(hf:f { cls:=.type "list",data:=.seq aS.toArray n }={ cls:=.type "list",data:=.seq its'.toArray n' })(r:ae ys its')(hz:ys.length<=sizeLine)(t:Nat):
  Inv X io σ (upd H p (.lst ys)) { s with heap:=s.heap.update p f,toks:=t }:=by
 have e:(s.heap.update p f).get? p=some { cls:=.type "list",data:=.seq its'.toArray n' }:=by rw[Heap.get?_update_self f ho (by rw[hf]<;>rfl),hf]
 refine I.write (x:=p) (e:=p) (by rw[h];trivial) (.inl rfl) (λb u hb q=>(Heap.get?_update_other _ _ (Ne.symm hb)).trans q) ⟨_,e⟩ ?_;exact⟨hz,its',n',r,e⟩
def Mi:V->V->V->Hp->(Hp->Prop)->Prop:=λo i v H Q=>∃p xs k j,o=.ref p/\i=.int k/\H p=some (.lst xs)/\D8 xs.length k=some j/\Q (upd H p (.lst (xs.set j v)))
theorem set_list:MK X Mi:=by
 intro io s σ H o i v ov iv u Q I ro ri rv h;obtain⟨p,xs,k,j,rfl,rfl,hp,hj,q⟩:=h;cases ro;obtain⟨t,rfl⟩:=ri;obtain⟨aS,n,r,ho,hz⟩:=I.lst hp;obtain⟨h1,h2,h3,h4⟩:=wC hj;have hl:=r.length;have hn:=vy;have I':Inv X io σ (upd H p (.lst (xs.set j v))) { s with heap:=s.heap.update p (Obj.mapSeq (·.setIfInBounds j u)) } :=
  I.KE hp ho (AE aS n j u) (r.set rv j) (by rw[List.length_set];exact hz) s.toks
 by_cases h0:0<=k
 ·have hk:k.toNat=j:=by rw[seqIndex_of h0 h4]at h1;exact Option.some.inj h1
  exact W.ki_setAt ho h0 (by lia) (by rw[size_toArray,<-hl];exact h4) (by rw[hk];exact⟨_,I',q⟩)
 have hk:(k+(aS.toArray.size:Int)).toNat=j:=by rw[seqIndex_neg (by lia) h3]at h1;rw[size_toArray,<-hl];exact Option.some.inj h1
 exact W.ki_setBack ho (by lia) (by rw[size_toArray,<-hl];exact h3) (by lia) (by rw[hk];exact⟨_,I',q⟩)
theorem wD(lo hi:Option Int)(n:Nat):(sliceBounds lo hi none n).1=((HT.dt n 0 lo:Nat):Int)/\(sliceBounds lo hi none n).2.1=((HT.dt n n hi:Nat):Int)/\(sliceBounds lo hi none n).2.2=1:=by
 refine⟨?_,?_,rfl⟩
 ·cases lo with
  |none=>simp[sliceBounds,HT.dt]
  |some i =>
   simp only[sliceBounds,HT.dt,Option.getD_none,show(1:Int)>0 by decide,if_true];by_cases h:i<0
   ·simp only[h,if_true]<;>lia
   simp only[h,if_false]<;>lia
 cases hi with
 |none=>simp[sliceBounds,HT.dt]
 |some i =>
  simp only[sliceBounds,HT.dt,Option.getD_none,show(1:Int)>0 by decide,if_true];by_cases h:i<0
  ·simp only[h,if_true]<;>lia
  simp only[h,if_false]<;>lia
theorem uK(aS:List Value)(lo hi:Option Int):slicePick aS.toArray lo hi none=((aS.drop (HT.dt aS.length 0 lo)).take (HT.dt aS.length aS.length hi-HT.dt aS.length 0 lo)).toArray:=by obtain⟨h1,h2,h3⟩:=wD lo hi aS.toArray.size;unfold slicePick;rw[h1,h2,h3];simp only[sliceRange_one,pick_run,size_toArray]<;>rfl
def Mj(K:W.Frag):V->Option Int->Option Int->Hp->VK->Prop:=λx lo hi H Q=>∃a xs,x=.ref a/\aV K H a xs/\∀p,H p=none->Q (.ref p) (upd H p (.lst (kq xs lo hi)))
theorem Gb:Md X (Mj X.K):=by intro io s σ H x v vl vu lo hi sl Q I rx hs pl pu h;obtain⟨a,xs,rfl,hx,q⟩:=h;cases rx;obtain⟨aS,r,ht,hz⟩:=I.list hx;have o0:=r.length;refine⟨"list",_,slot_list_getitem.lookup,ht.isList.typeIs,?_⟩;refine wpAny_getItem_list_slice ht.isList hs pl pu .none (by simp) ?_ (by rw[size_toArray]<;>lia);rw[uK,<-o0];refine⟨.ref s.heap.objs.size,_,I.laid (t':=s.toks) (o:=.lst (kq xs lo hi)) (λb ob q=>Heap.get?_push_of_some _ q) (le_refl _) ?_,rfl,q _ (I.bE.fresh (le_refl _))⟩;exact⟨le_trans (qe xs lo hi) hz,_,0,(r.drop (HT.dt xs.length 0 lo)).take (HT.dt xs.length xs.length hi-HT.dt xs.length 0 lo),Heap.get?_push_size _ rfl⟩
def kZ:V->Bool
 |.bu=>true
 |.bl _=>true
 |.int _=>true
 |.str _=>true
 |_=>false
def AF:V->V->Bool
 |.bu,.bu=>true
 |.bl a,.bl b=>a==b
 |.bl a,.int b=>(if a then 1 else 0)==b
 |.int a,.bl b=>a==(if b then 1 else 0)
 |.int a,.int b=>a==b
 |.str a,.str b=>a==b
 |_,_=>false
theorem wF{y:V}(ry:RelV y u)(rx:RelV x v)(fy:kZ y=true)(fx:kZ x=true):SeqAt.EqAt A s u v (AF y x):=by
 cases y with
 |bu =>
  cases ry;cases x with
  |bu=>cases rx;exact SeqAt.EqAt.same _
  |bl b=>cases rx;exact SeqAt.EqAt.none_bool b
  |int b=>obtain⟨t,rfl⟩:=rx;exact SeqAt.EqAt.none_int b t
  |str b=>obtain⟨t,rfl⟩:=rx;exact SeqAt.EqAt.none_str b t
  |_=>exact absurd (show false=true from fx) Bool.false_ne_true
 |bl a =>
  cases ry;cases x with
  |bu=>cases rx;exact SeqAt.EqAt.bool_none a
  |bl b=>cases rx;exact SeqAt.EqAt.bool_bool a b
  |int b=>obtain⟨t,rfl⟩:=rx;exact SeqAt.EqAt.bool_int a b t
  |str b=>obtain⟨t,rfl⟩:=rx;exact SeqAt.EqAt.bool_str a b t
  |_=>exact absurd (show false=true from fx) Bool.false_ne_true
 |int a =>
  obtain⟨t',rfl⟩:=ry;cases x with
  |bu=>cases rx;exact SeqAt.EqAt.int_none a t'
  |bl b=>cases rx;exact SeqAt.EqAt.int_bool a t' b
  |int b=>obtain⟨t,rfl⟩:=rx;exact SeqAt.EqAt.int_int a t' b t
  |str b=>obtain⟨t,rfl⟩:=rx;exact SeqAt.EqAt.int_str a t' b t
  |_=>exact absurd (show false=true from fx) Bool.false_ne_true
 |str a =>
  obtain⟨t',rfl⟩:=ry;cases x with
  |bu=>cases rx;exact SeqAt.EqAt.str_none a t'
  |bl b=>cases rx;exact SeqAt.EqAt.str_bool a t' b
  |int b=>obtain⟨t,rfl⟩:=rx;exact SeqAt.EqAt.str_int a t' b t
  |str b=>obtain⟨t,rfl⟩:=rx;exact SeqAt.EqAt.str_str a t' b t
  |_=>exact absurd (show false=true from fx) Bool.false_ne_true
 |_=>exact absurd (show false=true from fy) Bool.false_ne_true
def AG(x:V)(u:Value):Bool:=match u with
 |.none=>AF .bu x
 |.bool b=>AF (.bl b) x
 |.int i _=>AF (.int i) x
 |.str z _=>AF (.str z) x
 |_=>false
theorem D9{y:V}(r:RelV y u)(f:kZ y=true):AG x u=AF y x:=by
 cases y with
 |bu=>cases r;rfl
 |bl b=>cases r;rfl
 |int i=>obtain⟨t,rfl⟩:=r;rfl
 |str z=>obtain⟨t,rfl⟩:=r;rfl
 |_=>exact absurd (show false=true from f) Bool.false_ne_true
theorem oX{x:V}:∀{xs:List V}{us:List Value},ae xs us->xs.all kZ=true->us.any (AG x)=xs.any λy=>AF y x
 |_,_,.nil,_=>rfl
 |y::xs,u::us,.cons r t,f=>by rw[List.all_cons,Bool.and_eq_true]at f;rw[List.any_cons,List.any_cons,D9 r f.1,oX t f.2]
theorem lG{A:Around}{s:Shared}{x:V}{v:Value}(rx:RelV x v)(fx:kZ x=true):∀{xs:List V}{us:List Value},ae xs us->xs.all kZ=true->∀u∈us,SeqAt.EqAt A s u v (AG x u)
 |_,_,.nil,_=>λu hu=>by cases hu
 |y::xs,u::us,.cons r t,f=>λu' hu=>by
  rw[List.all_cons,Bool.and_eq_true]at f;rcases mem_cons.mp hu with rfl|hu
  ·rw[D9 r f.1];exact wF r rx f.1 fx
  exact lG rx fx t f.2 u' hu
def CV(x:V)(xs:List V):Bool:=xs.any λy=>AF y x
def Lj(K:W.Frag)(neg:Bool):R2:=λx y H Q=>∃p xs,y=.ref p/\(aV K H p xs\/ab K H p xs)/\kZ x=true/\xs.all kZ=true/\Q (.bl (if neg then !CV x xs else CV x xs)) H
theorem vD:jg X (compareOp .In) (Lj X.K false):=by
 intro io s σ H x y v u Q I rx ry h;obtain⟨p,xs,rfl,hq,fx,fs,q⟩:=h;cases ry;rcases hq with hq|hq
 ·obtain⟨aS,r,pl,hz⟩:=I.list hq;refine SeqAt.in_listAt (AG x) pl.isList (λw hw=>lG rx fx r fs w (by simpa using hw)) ⟨.bl _,H,I,rfl,?_⟩;rw[show aS.toArray.any (AG x)=aS.any (AG x) by simp,oX r fs];exact q
 obtain⟨aS,r,pl,hz⟩:=I.tuple hq;refine SeqAt.in_tupleAt (AG x) pl (λw hw=>lG rx fx r fs w (by simpa using hw)) ⟨.bl _,H,I,rfl,?_⟩;rw[show aS.toArray.any (AG x)=aS.any (AG x) by simp,oX r fs];exact q
theorem wG:jg X (compareOp .NotIn) (Lj X.K true):=by
 intro io s σ H x y v u Q I rx ry h;obtain⟨p,xs,rfl,hq,fx,fs,q⟩:=h;cases ry;rcases hq with hq|hq
 ·obtain⟨aS,r,pl,hz⟩:=I.list hq;refine SeqAt.notIn_listAt (AG x) pl.isList (λw hw=>lG rx fx r fs w (by simpa using hw)) ⟨.bl _,H,I,rfl,?_⟩;rw[show aS.toArray.any (AG x)=aS.any (AG x) by simp,oX r fs];exact q
 obtain⟨aS,r,pl,hz⟩:=I.tuple hq;refine SeqAt.notIn_tupleAt (AG x) pl (λw hw=>lG rx fx r fs w (by simpa using hw)) ⟨.bl _,H,I,rfl,?_⟩;rw[show aS.toArray.any (AG x)=aS.any (AG x) by simp,oX r fs];exact q
theorem wH:cH X (.builtin "len") (λxs H Q=>∃p ys,xs=[.ref p]/\(aV X.K H p ys\/ab X.K H p ys)/\Q (.int ys.length) H):=by
 intro io s σ H xs us Q I r h;obtain⟨p,ys,rfl,hq,q⟩:=h;obtain⟨u,rfl,rx⟩:=vals1 r;cases rx;have hn:=vy;rcases hq with hq|hq
 ·obtain⟨aS,r',pl,hz⟩:=I.list hq;have o0:=r'.length;exact Calls.call_len_list pl.isList (by simp only[size_toArray]<;>lia) ⟨.int ys.length,H,I.tok _,⟨s.toks+1,by rw[size_toArray,o0]⟩,q⟩
 obtain⟨aS,r',pl,hz⟩:=I.tuple hq;have o0:=r'.length;exact len_tuple pl (by simp only[size_toArray]<;>lia) ⟨.int ys.length,H,I.tok _,⟨s.toks+1,by rw[size_toArray,o0]⟩,q⟩
theorem wI:cH X (.type "list") (λxs H Q=>∃p ys,xs=[.ref p]/\(aV X.K H p ys\/ab X.K H p ys)/\∀l,H l=none->Q (.ref l) (upd H l (.lst ys))):=by
 intro io s σ H xs us Q I r h;obtain⟨p,ys,rfl,hq,q⟩:=h;obtain⟨u,rfl,rx⟩:=vals1 r;cases rx;have fin:∀(aS:List Value),ae ys aS->ys.length<=sizeLine->∀(h':Heap)(c':Nat),(∀b o',s.heap.get? b=some o'->h'.get? b=some o') ->
   h'.get? s.heap.objs.size=some { cls:=.type "list",dict:=none,data:=.seq aS.toArray c',slots:=#[] }->EP X io σ Q (.ref s.heap.objs.size) { s with heap:=h' }:=λaS r' hz h' c' kp e =>
  ⟨.ref s.heap.objs.size,_,I.laid (t':=s.toks) kp (le_refl _) (show bH X.prog X.w _ h' _ (.lst ys)from⟨hz,aS,c',r',e⟩),rfl,q _ (I.bE.fresh (le_refl _))⟩
 rcases hq with hq|hq
 ·obtain⟨aS,r',pl,hz⟩:=I.list hq;have o0:=r'.length;obtain⟨o,ho,hc,n,hd⟩:=pl.isList;exact call_list_seq p (.inl rfl) ho hc hd (λh' c' kp e=>fin aS r' hz h' c' kp e) (by simp only[size_toArray]<;>lia)
 obtain⟨aS,r',pl,hz⟩:=I.tuple hq;have o0:=r'.length;obtain⟨o,ho,hc,n,hd⟩:=pl;exact call_list_seq p (.inr rfl) ho hc hd (λh' c' kp e=>fin aS r' hz h' c' kp e) (by simp only[size_toArray]<;>lia)
theorem uL:cH X (.type "tuple") (λxs H Q=>∃p ys,xs=[.ref p]/\((aV X.K H p ys/\∀l,H l=none->Q (.ref l) (upd H l (.tup ys)))\/(ab X.K H p ys/\Q (.ref p) H))):=by
 intro io s σ H xs us Q I r h;obtain⟨p,ys,rfl,h⟩:=h;obtain⟨u,rfl,rx⟩:=vals1 r;cases rx;rcases h with⟨hq,q⟩|⟨hq,q⟩
 ·obtain⟨aS,r',pl,hz⟩:=I.list hq;have o0:=r'.length;refine call_tuple_list pl.isList (λh' kp=>?_) (by simp only[size_toArray]<;>lia);have I1:Inv X io σ H { s with heap:=h' }:=I.kept (t':=s.toks) kp;have I2:Inv X io σ (upd H h'.objs.size (.tup ys)) { s with heap:=h'.push { cls:=.type "tuple",data:=.seq aS.toArray } } :=
   I1.laid (t':=s.toks) (λb o e=>Heap.get?_push_of_some _ e) (le_refl _) (show bH X.prog X.w _ _ _ (.tup ys)from⟨hz,aS,r',IsTup.new _ _⟩)
  exact⟨.ref h'.objs.size,_,I2,rfl,q _ (I1.bE.fresh (le_refl _))⟩
 obtain⟨aS,r',pl,hz⟩:=I.tuple hq;exact call_tuple_same pl ⟨.ref p,H,I,rfl,q⟩
def Pu(K:W.Frag)(T:String)(x:V)(H:Hp):Prop:=match x with
 |.str _=>T="str"
 |.int _=>T="int"
 |.ref p=>(T="list"/\∃xs,aV K H p xs)\/(T="tuple"/\∃o,K.lookup p=some o/\o.cls=.type "tuple"/\o.dict=none) \/
   (T="dict"/\((∃lw,H p=some (.dK lw))\/∃lw,H p=some (.dT lw)))\/(T="set"/\∃S n,H p=some (.set S n))
 |_=>False
theorem EA(I:Inv X io σ H s)(r:RelV x v)(ty:Pu X.K T x H):
  s.TypeIs v T/\∀a,v=.ref a->∃ob,s.heap.get? a=some ob/\ob.dict=none:=by
 cases x with
 |str z =>
  obtain⟨t,rfl⟩:=r;cases(show T="str"from ty);exact⟨typeIs_str s z t,λ_ e=>nomatch e⟩
 |int i =>
  obtain⟨t,rfl⟩:=r;cases(show T="int"from ty);exact⟨typeIs_int s i t,λ_ e=>nomatch e⟩
 |ref p =>
  cases r;rcases ty with⟨rfl,xs,hq⟩|⟨rfl,o,hk,hc,hd⟩|⟨rfl,hk⟩|⟨rfl,S,n,hk⟩
  ·obtain⟨aS,_,pl,_⟩:=I.list hq;refine⟨pl.isList.typeIs,λa e=>?_⟩;cases e;obtain⟨o,n,e,c,hd,_⟩:=pl;exact⟨o,e,hd⟩
  ·refine⟨⟨o,I.qZ p o hk,hc⟩,λa e=>?_⟩;cases e;exact⟨o,I.qZ _ o hk,hd⟩
  ·have z:∃o,s.heap.get? p=some o/\o.ExactDict:=by
    rcases hk with⟨lw,hk⟩|⟨lw,hk⟩
    ·obtain⟨_,_,_,_,o,_,_,e,ex,_⟩:=I.bE p _ hk;exact⟨o,e,ex⟩
    obtain⟨_,_,_,_,o,_,_,e,ex,_⟩:=I.bE p _ hk;exact⟨o,e,ex⟩
   obtain⟨o,e,ex⟩:=z;refine⟨⟨o,e,ex.1⟩,λa e2=>?_⟩;cases e2;exact⟨o,e,ex.2.1⟩
  obtain⟨o,_,_,_,e,ex,_⟩:=I.bE p _ hk;refine⟨⟨o,e,ex.1⟩,λa e2=>?_⟩;cases e2;exact⟨o,e,ex.2.1⟩
 |_=>exact False.elim ty
def Ml(K:W.Frag)(T:String)(r:V->List V->Hp->VK->Prop)(to:TE):TE:=λσ H Q=>to σ H λx H1=>Pu K T x H1/\r x [] H1 Q
def Rr(K:W.Frag)(T:String)(r:V->List V->Hp->VK->Prop)(to:TE)(t:TA):TE:=λσ H Q=>to σ H λx H1=>Pu K T x H1/\t σ H1 λxs H2=>r x xs H2 Q
variable{o:Expr}{to:TE}{t:TA}{name:Str}{apos cv:Pos}{id:String}{r:V->List V->Hp->VK->Prop}
theorem KG(pa:PlainAttrs T)(slot:Slot T name id)(KH:typeOf (.builtin id)=pure (.type "method_descriptor"))(hm:OW X id r)(ho:PE X o to)(rm:attributeBase o name X.env (eval o X.env)=eval o X.env:=by rfl)(rn:(apos.endLine==cv.line)=true:=by rfl):PE X (.Call (.Attribute o name apos) [] [] cv) (Ml X.K T r to):=by intro io s σ H Q I h;refine wpAny_Call_method0_late rm rn (bI (ho io s σ H _ I h) λv s1 ⟨x,H1,I1,r1,ty,q1⟩=>?_);obtain⟨h1,h2⟩:=EA I1 r1 ty;exact⟨T,id,pa,slot,KH,h1,h2,Calls.callWith_builtin rfl (PySem.evalArgs_none (hm io s1 σ H1 x [] v [] Q I1 r1 .nil q1))⟩
theorem Mm(pa:PlainAttrs T)(slot:Slot T name id)(KH:typeOf (.builtin id)=pure (.type "method_descriptor"))(hm:OW X id r)(ho:PE X o to)(ha:PA X (e::es) t)(rm:attributeBase o name X.env (eval o X.env)=eval o X.env:=by rfl)(KI:((backTo cv (starEach (e::es) X.env)).all (λx=>!x.1)&&(backToKw cv (keywordEach [] X.env)).all (λx=>x.1.isSome)
   && decide ((e::es).length+([]:List Keyword).length+(if([]:List Keyword).isEmpty then 0 else 1)<30))=true:=by rfl)(rn:(apos.endLine==cv.line)=true:=by rfl)(hs:starEach (e::es) X.env=(false,eval e X.env)::starEach es X.env:=by rfl)(AH:(backTo cv (starEach es X.env)).any (·.1)=false:=by rfl):
  PE X (.Call (.Attribute o name apos) (e::es) [] cv) (Rr X.K T r to t):=by
 intro io s σ H Q I h;refine wpAny_Call_method_late rm KI rn rfl (bI (ho io s σ H _ I h) λv s1 ⟨x,H1,I1,r1,ty,q1⟩=>?_);obtain⟨h1,h2⟩:=EA I1 r1 ty;refine⟨T,id,pa,slot,KH,h1,h2,?_⟩;have hA:=ha cv io s1 σ H1 _ I1 q1;rw[hs]at hA ⊢;refine Calls.callWith_builtin (by show(false||(backTo cv (starEach es X.env)).any (·.1))=false;rw[AH]<;>rfl) (Calls.evalArgs_plain ?_);exact bI hA λus s2 ⟨vs,H2,I2,r2,q2⟩=>hm io s2 σ H2 x vs v us Q I2 r1 r2 q2
end
def OX(X:Cx)(id:String)(r:V->List V->Hp->VK->Prop):Prop :=
 ∀(io:List (Addr×Obj))(s:Shared)(σ:St)(H:Hp)(x:V)(xs:List V)(v:Value)(us:List Value)(Q:VK),Inv X io σ H s->RelV x v->ae xs us->r x xs H Q ->
  wpAny (model X.prog X.w) X.A (call (.builtin id) (v::us)) (EP X io σ Q) X.xe s
theorem ae.one:∀{x:V}{us:List Value},ae [x] us->∃u,us=[u]/\RelV x u
 |_,_,.cons r .nil=>⟨_,rfl,r⟩
theorem ae.two:∀{x y:V}{us:List Value},ae [x,y] us->∃u v,us=[u,v]/\RelV x u/\RelV y v
 |_,_,_,.cons r (.cons q .nil)=>⟨_,_,rfl,r,q⟩
theorem ae.zero:∀{us:List Value},ae [] us->us=[]
 |_,.nil=>rfl
theorem ae.eraseIdx:∀{xs:List V}{us:List Value}(i:Nat),ae xs us->ae (xs.eraseIdx i) (us.eraseIdx i)
 |_,_,_,.nil=>.nil
 |_,_,0,.cons _ t=>t
 |_,_,i+1,.cons r t=>.cons r (ae.eraseIdx i t)
theorem ae.reverse{xs:List V}{us:List Value}(h:ae xs us):ae xs.reverse us.reverse:=by
 induction h with
 |nil=>exact .nil
 |cons r t ih=>rw[List.reverse_cons,List.reverse_cons];exact ae.append ih (.cons r .nil)
theorem ae.rep{xs:List V}{us:List Value}(h:ae xs us):∀k:Nat,ae (List.replicate k xs).flatten (List.replicate k us).flatten
 |0=>.nil
 |k+1=>by rw[List.replicate_succ,List.replicate_succ,List.flatten_cons,List.flatten_cons];exact ae.append h (ae.rep h k)
theorem vE{α:Type}:∀(l:List α)(i:Nat),(l.eraseIdx i).length<=l.length
 |[],_=>le_refl _
 |_::_,0=>le_succ _
 |_::r,i+1=>Nat.succ_le_succ (vE r i)
theorem foldl_rep(aS:List Value):∀(k:Nat)(acc:List Value),
  List.foldl (λx1 x2=>x1++x2) acc.toArray (List.replicate k aS.toArray)=(acc++(List.replicate k aS).flatten).toArray
 |0,acc=>by simp
 |k+1,acc=>by
  have e:acc.toArray++aS.toArray=(acc++aS).toArray:=by simp
  have e2:(acc++aS)++(List.replicate k aS).flatten=acc++(List.replicate (k+1) aS).flatten:=by rw[List.replicate_succ,List.flatten_cons,List.append_assoc]
  rw[<-e2,<-foldl_rep aS k (acc++aS),<-e,List.replicate_succ,List.foldl_cons]
section
variable{l b:Addr}{zs:List V}
theorem Inv.Gc(I:Inv X io σ H s)(hH:H l=some (.lst xs))(e:s.heap.get? l=some { cls:=.type "list",data:=.seq aS.toArray n })(hf:f aS.toArray=its'.toArray)(hv:ae ys its')(hz:ys.length<=sizeLine):
  Inv X io σ (upd H l (.lst ys)) { s with heap:=s.heap.update l (Obj.mapSeq f),toks:=t' }:=by
 have q:=PySem.IsL.update e f;rw[hf]at q;refine I.write (x:=l) (e:=l) (by rw[hH];exact trivial) (.inl rfl) (λb' u hb hu=>(Heap.get?_update_other s.heap (Obj.mapSeq f) (Ne.symm hb)).trans hu) ⟨_,q⟩ ?_;exact⟨hz,its',_,hv,q⟩
theorem Inv.Mn(I:Inv X io σ H s)(hv:ae ys aS)(hz:ys.length<=sizeLine):
  Inv X io σ (upd H s.heap.objs.size (.lst ys)) { s with heap:=s.heap.push { cls:=.type "list",data:=.seq aS.toArray },toks:=t' } :=
 I.laid (λ_ _ q=>Heap.get?_push_of_some _ q) (le_refl _) ⟨hz,aS,0,hv,Heap.get?_push_size _ rfl⟩
theorem Inv.fresh(I:Inv X io σ H s):H s.heap.objs.size=none:=I.bE.fresh (le_refl _)
theorem Inv.EB(I:Inv X io σ H s)(hH:H l=some (.lst xs)):xs.length<=sizeLine/\∃(aS:List Value)(n:Nat),ae xs aS/\xs.length=aS.length/\s.heap.get? l=some { cls:=.type "list",data:=.seq aS.toArray n }:=by obtain⟨z,aS,n,r,e⟩:=I.bE l _ hH;exact⟨z,aS,n,r,r.length,e⟩
theorem EC(h:n<=sizeLine):Builtin.List.listTooLong n=false:=by unfold Builtin.List.listTooLong;exact decide_eq_false (by lia)
end
section
def Gd:V->List V->Hp->VK->Prop:=λx vs H Q=>∃l xs y,x=.ref l/\vs=[y]/\H l=some (.lst xs)/\xs.length<sizeLine/\Q .bu (upd H l (.lst (xs++[y])))
theorem gR:OX X "list.append" Gd:=by intro io s σ H x vs v us Q I rx rv h;obtain⟨l,xs,y,rfl,rfl,hH,hz,q⟩:=h;cases rx;obtain⟨u,rfl,ru⟩:=rv.one;obtain⟨z,aS,n,r,hl,e⟩:=I.EB hH;refine call_meets F.slot_list_append ⟨_,e,rfl⟩ F.entry_list_append (F.args_list_append_2 _ _) (PySem.list_append l aS.toArray n u (by rw[size_toArray];lia)) ⟨e,?_⟩;refine⟨.bu,_,I.Gc (its':=aS++[u]) hH e (by simp) (r.append (.cons ru .nil)) ?_,rfl,q⟩;rw[length_append,List.length_singleton];lia
def KJ:V->List V->Hp->VK->Prop:=λx vs H Q=>∃l xs i k y,x=.ref l/\vs=[.int i]/\H l=some (.lst xs)/\-(2 ^ 63)<=i/\i<2 ^ 63/\seqIndex? i xs.length=some k/\xs[k]?=some y/\Q y (upd H l (.lst (xs.eraseIdx k)))
theorem yL:OX X "list.pop" KJ:=by
 intro io s σ H x vs v us Q I rx rv h;obtain⟨l,xs,i,k,y,rfl,rfl,hH,h1,h2,hk,hy,q⟩:=h;cases rx;obtain⟨u,rfl,ru⟩:=rv.one;obtain⟨t,rfl⟩:=ru;obtain⟨z,aS,n,r,hl,e⟩:=I.EB hH;obtain⟨w,hw,rA⟩:=r.get hy;refine call_meets F.slot_list_pop ⟨_,e,rfl⟩ F.entry_list_pop (F.args_list_pop_2 _ _)
  (MeetsSeq.list_pop_at l aS.toArray n i t k w (fitsIndex_both h1 h2) (by rw[size_toArray,<-hl];exact hk) (by rw[<-Array.getElem?_toList];exact hw) (by rw[size_toArray];lia)) ⟨e,?_⟩
 refine⟨y,_,I.Gc (its':=aS.eraseIdx k) hH e ?_ (r.eraseIdx k) ?_,rA,q⟩
 ·show aS.toArray.eraseIdxIfInBounds k=(aS.eraseIdx k).toArray;rw[List.eraseIdxIfInBounds_toArray]
 have:=vE xs k;lia
def ED:V->List V->Hp->VK->Prop:=λx vs H Q=>∃l xs,x=.ref l/\vs=[]/\H l=some (.lst xs)/\Q .bu (upd H l (.lst xs.reverse))
theorem rq:OX X "list.reverse" ED:=by intro io s σ H x vs v us Q I rx rv h;obtain⟨l,xs,rfl,rfl,hH,q⟩:=h;cases rx;have Tt:=rv.zero;subst Tt;obtain⟨z,aS,n,r,hl,e⟩:=I.EB hH;refine call_meets F.slot_list_reverse ⟨_,e,rfl⟩ F.entry_list_reverse (F.args_list_reverse_1 _) (AutoSeq1.list_reverse_list_0 l aS.toArray n (by rw[size_toArray];lia)) ⟨e,?_⟩;refine⟨.bu,_,I.Gc (its':=aS.reverse) hH e (by simp) r.reverse ?_,rfl,q⟩;rw[List.length_reverse];lia
def Pw:R2:=λx y H Q=>∃l k xs,x=.ref l/\y=.int k/\H l=some (.lst xs)/\-(2 ^ 63)<=k/\k<2 ^ 63/\xs.length*k.toNat<=sizeLine /\
 ∀p,H p=none->Q (.ref p) (upd H p (.lst (List.replicate k.toNat xs).flatten))
theorem len_rep{α:Type}(xs:List α)(k:Nat):(List.replicate k xs).flatten.length=k*xs.length:=by
 induction k with
 |zero=>simp
 |succ k ih=>rw[List.replicate_succ,List.flatten_cons,length_append,ih,Nat.succ_mul,Nat.add_comm]
theorem KL:jg X (binaryOp .Mult) Pw:=by
 intro io s σ H x y v u Q I rx ry h;obtain⟨l,k,xs,rfl,rfl,hH,h1,h2,hz,q⟩:=h;cases rx;obtain⟨t,rfl⟩:=ry;obtain⟨z,aS,n,r,hl,e⟩:=I.EB hH;have o0:aS.toArray.size*k.toNat<=sizeLine:=by rw[size_toArray,<-hl];exact hz
 have Px:¬aS.toArray.size*k.toNat>(2 ^ 63-1)/8:=by
  have:(sizeLine:Nat)<=(2 ^ 63-1)/8:=by decide
  lia
 have Py:¬(!Builtin.List.listFitsIndex k)=true:=by rw[fitsIndex_both h1 h2];exact Bool.false_ne_true
 have Mo:¬Builtin.List.listTooLong (aS.toArray.size*k.toNat)=true:=by rw[EC o0];exact Bool.false_ne_true
 have rB:List.foldl (λx1 x2=>x1++x2) #[] (List.replicate (if aS.toArray.isEmpty=true then 0 else k.toNat) aS.toArray)=(List.replicate k.toNat aS).flatten.toArray:=by
  have f0:∀m:Nat,List.foldl (λx1 x2=>x1++x2) #[] (List.replicate m aS.toArray)=(List.replicate m aS).flatten.toArray:=λm=>by have:=foldl_rep aS m [];rw[List.nil_append]at this;exact this
  rw[f0];cases aS with
  |nil=>simp
  |cons a r'=>rw[if_neg (by simp)]
 refine wpAny_binaryOp_repeat_ref (T:="list") (U:="int") (by decide) ⟨_,e,rfl⟩ (λs'=>typeIs_int s' k t) noFill_list_mul F.fills_int_mul F.slot_int_rmul repeat_list F.slot_int_index.lookup
  (call_meets F.slot_int_rmul (typeIs_int s k t) F.entry_int_rmul (F.args_int_rmul_2 _ _) (int___rmul___int_list k t l aS.toArray n)
   ⟨e,rfl,⟨_,e,rfl⟩,call_meets F.slot_list_mul ⟨_,e,rfl⟩ F.entry_list_mul (F.args_list_mul_2 _ _) (AutoListH.list___mul___list_int_3 l aS.toArray n k t Py Px Mo) ⟨e,?_⟩⟩)
 rw[rB];exact⟨.ref _,_,I.Mn (t':=s.toks) (r.rep k.toNat) (by rw[len_rep,Nat.mul_comm];exact hz),rfl,q _ I.fresh⟩
end
section
variable{w:World}
end
section
end
end L2
namespace Att
open PySem PySem.W PySem.Calls PyProof.Rows
theorem rC{P:Params}{h:Heap}:∀(ns:List Int)(vs:List Value),WellAll P h vs (ns.map WData.int)->IntsAre vs ns:=by
 intro ns
 induction ns with
 |nil =>
  intro vs w;rw[List.map_nil]at w;cases w;exact .nil
 |cons n ns ih =>
  intro vs w;rw[List.map_cons]at w;cases w with
  |cons a b =>
   cases a;exact .cons _ _ (ih _ b)
theorem CW{l:OpenLaw}{n:Nat}(hn:l.most=some n){P:Params}{h:Heap}{args:List WData}{vals:List Value}(Ge:l.row.toRowW.claim.pre args=true)(Lk:WellAll P h vals args):
  ∃a vs ns,vals=[Value.ref a]/\args=[WData.list (ns.map WData.int)]/\h.get? a=some { cls:=.type "list",data:=.seq vs.toArray }/\IntsAre vs ns/\ns.length<=n:=by
 have Tu:WShape.hasAll [] args [.list .int]=true:=(pre_splitW Ge).1;have hc:l.pre.holds [] { args:=args }=true:=(pre_splitW Ge).2;obtain⟨d,r,rfl,h1,h2⟩:=hasAllW_cons Tu;obtain rfl:=hasAllW_nil h2;obtain⟨xs,rfl,h3⟩:=hasW_list h1;obtain⟨ns,rfl⟩:=items_int h3;have o0:ns.length<=n:=by
  unfold OpenLaw.pre at hc;have h4:(WTm.not (.lt (.lit (.int (n:Int))) (.len (.arg 0)))).holds [] { args:=[.list (ns.map .int)] }=true:=by have h4:=(holds_andW hc).1;rw[hn]at h4;exact h4
  have h5:=condW_of h4 (w_not (w_lt w_lit (w_len_list (w_arg rfl))));rw[length_map]at h5;refine Nat.le_of_not_lt λq=>?_;have q':(n:Int)<((ns.length:Nat):Int):=by lia
  first
   | (rw[decide_eq_true q']at h5;exact absurd h5 (by decide))
   | (simp at h5;lia)
 cases Lk with
 |cons w1 w2 =>
  cases w2;cases w1 with
  |list ho CY=>exact⟨_,_,ns,rfl,rfl,ho,rC ns _ CY,o0⟩
theorem CZ(l:OpenLaw)(args:List WData):l.row.toRowW.claim.post args (.bool true) args=true :=
 postW_of (r:=l.row.toRowW) (X:=(true==true))
  (show WShape.has [] (.bool true) .bool=true by first|rfl|decide|simp[WShape.has,WShape.arms,WShape.armsAll])
  (show(WTm.eq .res (.lit (.bool true))).value [] { args:=args,res:=some (.bool true),after:=args }=some (.bool (true==true))from w_eq_bool (w_res rfl) w_lit) rfl
theorem yM{l:OpenLaw}{n:Nat}{q:Program}{loose:List Str}{XP:(Str->Option Value)->Heap->Prop}{YP:World->Heap->Prop}{d:DefRec}(hn:l.most=some n)(Mp:d.params.defaults=[])(call:∀(w:World)(s₀ s₁:Shared)(mg mb:Str->Option Value)(fa:Addr)(o:Obj)(pm cd doc:Value)(a:Addr)(vs:List Value)(ns:List Int),
   Ground q loose [] XP w s₀ mg mb s₁.heap->YP w s₁.heap ->
   s₁.heap.get? fa=some o->o.data=.func (docDef d.name d.params d.body d.scope pm cd doc)->s₁.heap.CodeRec cd d.name->mg d.name=some (.ref fa) ->
   s₁.heap.get? a=some { cls:=.type "list",data:=.seq vs.toArray }->IntsAre vs ns->ns.length<=n->s₁.gens=#[] ->
   codeAny (model l.prog w) callerA (.call (.ref fa) ⟨[.ref a],[]⟩) (λr s'=>r=.ok (.ret (.bool true))/\OldK s₁.heap s'.heap/\s'.os=s₁.os/\AllBare s'.gens) s₁):
  WalkO q loose XP YP l.row.toRowW d [] (λf vs=>PySem.call f vs):=by
 intro w s₀ s₁ mg mb G Y fa o pm cd doc dV kV ho hd xq hD KN hg args vals as Ge Tv WY Lk Tw;obtain rfl:dV=.none:=Dflts.none hD Mp;obtain rfl:kV=.none:=Dflts.noKw hD;obtain⟨a,vs,ns,rfl,rfl,KO,hints,o0⟩:=CW hn Ge Lk;refine enter_call (codeAny_mono (call w s₀ s₁ mg mb fa o pm cd doc a vs ns G Y ho (fd_plain hd) xq KN KO hints o0 hg) λr s' hq=>?_);obtain⟨rfl,h2,h3,h4⟩:=hq;exact⟨.inl ⟨.bool true,.bool true,[],rfl,λ_=>rfl,.bool true,CZ l _,λ_=>⟨List.Pairwise.nil,λ_ hm=>(nomatch hm)⟩⟩,h2,h3,h4⟩
section
variable{prog:Program}{w:World}{A:Around}{E:Value->Shared->Prop}{s:Shared}{K:Frag}
end
end Att
namespace L2
open PySem PySem.Spec PyProof.Rows
variable{P q prog:Program}{w:World}{mg mb:Str->Option Value}{k n t' i:Nat}{fa a f globals C p D:Addr}{fd:FuncData}{x qual y:Str}{sp:Sp}{s₁ s:Shared}{vs aS:List Value}{ns:List Int}{loose ps Nc N:List Str}{XP:(Str->Option Value)->Heap->Prop}{YP:World->Heap->Prop}{d:DefRec}{st:Stmt}{oc doc:Value}{od an:Option Addr}{CT:Array (Option Value)}{A:Around}{X:Cx}{pos py:Pos}{H H':Hp}{xs:List V}{env:Env}{scope:Scope}{M:Model}{E:Value->Shared->Prop}{cl:List (Str×Addr)}{Q:Option Value->Shared->Prop}{R:Result->Shared->Prop}{elt iter e:Expr}{ifs es:List Expr}{io:List (Addr×Obj)}{σ:St}{ix:List (Option Nat)}{fp ch:List Addr}{t:TA}{g:TG}{tt:TT}{te:TE}{tn:Nat->Heap->Prop}{h' h:Heap}{o:HO}
theorem vF:∀{vs:List Value}{ns:List Int},IntsAre vs ns->ae (ns.map V.int) vs
 |_,_,.nil=>.nil
 |_,_,.cons n t h=>.cons ⟨t,rfl⟩ (vF h)
def KP(H:Hp):Prop:=∀b,H b=none\/∃o xs,H b=some (.BH o (.lst xs))
theorem EE{K:W.Frag}{CX:z8}(KX:K.In s₁.heap)(Rt:s₁.heap.Ns mainGlobals mg)(hb:s₁.heap.Ns builtinsNs mb)(Tx:∀x:Str,x≠"__name__"->mb x=bootBuiltins x)(Pz:s₁.heap.NoLimit)(hg:s₁.gens=#[])(ha:s₁.heap.get? a=some { cls:=.type "list",data:=.seq vs.toArray })(hi:IntsAre vs ns)(hl:ns.length<=sizeLine)(hr:dq k callerA)(F:∀base:Heap,K.In base->base.Ns mainGlobals mg->eN P w K mg base CX k fa fd [x] sp)(Mq:∀(s:Shared)(u:Value),BindsTo s fd ⟨[u],[]⟩ [(x,u)])(Dd:∀H:Hp,KP H->aV K H a (ns.map V.int)->sp [.ref a] H (λv _=>v=.bl true) λ_ _ _=>False)(P0:∀H e s',CX [] H s₁ (λ_ _ _=>False) e s'->False):
  codeAny (model P w) callerA (.call (.ref fa) ⟨[.ref a],[]⟩) (λr s'=>r=.ok (.ret (.bool true))/\OldK s₁.heap s'.heap/\s'.os=s₁.os/\AllBare s'.gens) s₁:=by
 have rv:=vF hi;have P1:=hi.length;have core:∀H:Hp,KP H->aV K H a (ns.map V.int)->nM P w H s₁.heap->(∀b,H b≠none->b=a)->(H a≠none->K.lookup a=none) ->
   codeAny (model P w) callerA (.call (.ref fa) ⟨[.ref a],[]⟩) (λr s'=>r=.ok (.ret (.bool true))/\OldK s₁.heap s'.heap/\s'.os=s₁.os/\AllBare s'.gens) s₁:=by
  intro H hO hS bE hA hK;have BW:∀{b:Addr}{o:Obj},s₁.heap.get? b=some o->H b=none->(vo s₁.heap H).get? b=some o:=λe n=>Dl e n;have MZ:∀{b:Addr}{o:Obj}{es:Array DictEntry}{ep:Nat},s₁.heap.get? b=some o->o.data=.dict es ep->H b=none:=λ{b o es ep} e d=>by
   cases q:H b with
   |none=>rfl
   |some u =>
    have e':b=a:=hA b (by rw[q];simp);subst e';rw[ha]at e;cases e;have d':Data.seq vs.toArray _=Data.dict es ep:=d;cases d'
  have OY:∀{b:Addr}{m:Str->Option Value},s₁.heap.Ns b m->(vo s₁.heap H).Ns b m:=λ{b m} ⟨o,es,ep,e,d,r⟩=>⟨o,es,ep,BW e (MZ e d),d,r⟩;have Ru:K.In (vo s₁.heap H):=λb o e=>BW (KX b o e) (by
   cases q:H b with
   |none=>rfl
   |some u =>
    have e':b=a:=hA b (by rw[q];simp);subst e';rw[hK (by rw[q];simp)]at e;cases e)
  have hM:Mod K mg (vo s₁.heap H):=⟨Ru,OY Rt,⟨mb,OY hb,Tx⟩,let⟨mc,h1,h2⟩:=Pz;⟨mc,OY h1,h2⟩⟩;have e0:z9 P w K mg (vo s₁.heap H) callerA [] s₁ H:=⟨rfl,hM,λb o e=>GH e,Nat.le_of_eq (CH _ _),trivial,λb hb=>absurd (show b∈([]:List Addr)from hb) (by simp),bE,.of_eq hg⟩;refine codeAny_mono ((F _ Ru (OY Rt)).run callerA [] s₁ H ⟨[.ref a],[]⟩ [.ref a] [.ref a] _ _ hr e0 (Mq s₁ (.ref a)) (.cons rfl .nil) (Dd H hO hS)) λr s' h=>?_;cases r with
  |error e=>exact(P0 H e s' h).elim
  |ok fl =>
   cases fl with
   |next=>exact False.elim h
   |brk=>exact False.elim h
   |cont=>exact False.elim h
   |ret u =>
    obtain⟨v,H',os,bare,un,P2,r',q⟩:=h;have q':v=.bl true:=q;subst q';obtain rfl:u=Value.bool true:=r';refine⟨rfl,OldK.of_keep λb o e=>?_,os,bare⟩;cases q:H b with
    |none=>exact un.keep b o e q (by intro z;exact absurd (show b∈([]:List Addr)from z) (by simp)) (by simp)
    |some u =>
     rcases hO b with z|⟨ob,xs,z⟩
     ·rw[q]at z;cases z
     have z2:=un.vn b ob _ z;obtain⟨e1,_⟩:=bE b _ z;obtain⟨e2,_⟩:=P2 b _ z2;rw[e]at e1;cases e1;exact e2
 cases hk:K.lookup a with
 |some o =>
  have e:=KX a o hk;rw[ha]at e;cases e;refine core (λ_=>none) (λ_=>.inl rfl) (.inr ⟨_,vs.toArray,_,hk,rfl,rfl,rfl,by rw[size_toArray,P1];exact hl,by simpa using rv⟩) (λb u z=>by have z':(none:Option HO)=some u:=z;cases z') (λb z=>absurd rfl z) λz=>absurd rfl z
 |none =>
  refine core (λb=>if b=a then some (.BH { cls:=.type "list",data:=.seq vs.toArray } (.lst (ns.map V.int)))else none) (λb=>?_) (.inl (.inr ⟨{ cls:=.type "list",data:=.seq vs.toArray },if_pos rfl⟩)) (λb u z=>?_) (λb z=>?_) λ_=>hk
  ·by_cases hb:b=a
   ·exact .inr ⟨_,_,if_pos hb⟩
   exact .inl (if_neg hb)
  ·by_cases hb:b=a
   ·have z':=(if_pos hb).symm.trans z;cases z';subst hb;exact⟨ha,by rw[length_map];exact hl,vs,_,rv,ha⟩
   have z':=(if_neg hb).symm.trans z;cases z'
  by_cases hb:b=a
  ·exact hb
  exact absurd (if_neg hb) z
abbrev cI{K:W.Frag}{h:Heap}(_:K.In h):W.Frag:=K
theorem Gf{l:W.OpenLaw}{K:Params->W.Frag}{CX:World->z8}{sp:World->Sp}(hn:l.most=some n)(OV:n<=sizeLine)(Mp:d.params.defaults=[])(hr:dq k callerA)(hY:∀(w:World)(h:Heap),YP w h->(K w.params).In h)(F:∀(w:World)(mg:Str->Option Value)(fa:Addr)(h:Heap),(K w.params).In h->h.Ns mainGlobals mg->mg d.name=some (.ref fa) ->
   ∃fd:FuncData,(∀(s:Shared)(u:Value),BindsTo s fd ⟨[u],[]⟩ [(x,u)]) /\
    ∀base:Heap,(K w.params).In base->base.Ns mainGlobals mg->eN l.prog w (K w.params) mg base (CX w) k fa fd [x] (sp w))(Dd:∀(w:World)(H:Hp)(a:Addr)(ns:List Int),ns.length<=n->KP H->aV (K w.params) H a (ns.map V.int)->sp w [.ref a] H (λv _=>v=.bl true) λ_ _ _=>False)(P0:∀(w:World)(H:Hp)(s:Shared)(e:Value)(s':Shared),CX w [] H s (λ_ _ _=>False) e s'->False):
  W.WalkO q loose XP YP l.row.toRowW d [] (λf vs=>PySem.call f vs):=by
 refine Att.yM hn Mp λw s₀ s₁ mg mb fa o pm cd doc a vs ns G Y ho hd xq KN KO hints o0 hg=>?_;have KX:=hY w _ Y;obtain⟨fd,hb,hF⟩:=F w mg fa _ KX G.T.g KN;exact EE KX G.T.g G.T.b G.T.builtins G.T.nolimit hg KO hints (le_trans o0 OV) hr hF hb (λH hO hS=>Dd w H a ns o0 hO hS) λH e s'=>P0 w H s₁ e s'
def cq(s:Stmt):Arguments:=match s with
 |.FunctionDef _ a _ _ _ _ _ _ _ _=>a
 |_=>{ posonlyargs:=[],args:=[],vararg:=none,kwonlyargs:=[],kw_defaults:=[],kwarg:=none,defaults:=[] }
def bp(s:Stmt):List Stmt:=match s with
 |.FunctionDef _ _ b _ _ _ _ _ _ _=>b
 |_=>[]
def aI(s:Stmt):Scope:=match s with
 |.FunctionDef _ _ _ _ _ _ sc _ _ _=>sc
 |_=>{ kind:=.function,names:=[],isGenerator:=false,isCoroutine:=false }
abbrev E0:XK:=λ_ _ _=>False
structure uM(K:W.Frag)(x qual:Str)(st:Stmt)(f:Addr)(fd:FuncData):Prop where
 ex:∃(oc:Value)(od:Option Addr)(kV doc pm:Value)(an:Option Addr)(bj ct:Value)(CT:Array (Option Value)),
  fd=W.fnOf x qual (cq st) (bp st) (aI st) .none kV doc pm an bj ct/\K.lookup f=some ⟨oc,od,.func fd,CT⟩/\W.codeIn K bj qual=true
 kp:W.keepIn K (.ref f)=true
section
variable{K:W.Frag}{base:Heap}
theorem uM.binds(F:uM K x qual st f fd)(h:∀(kV doc pm:Value)(an:Option Addr)(bj ct:Value)(us:List Value),us.length=ps.length->bindArgs (W.fnOf x qual (cq st) (bp st) (aI st) .none kV doc pm an bj ct) ⟨us,[]⟩=pure (ps.zip us)):Binds K fd ps []:=by obtain⟨oc,od,kV,doc,pm,an,bj,ct,CT,rfl,lk,xq⟩:=F.ex;exact .all (h kV doc pm an bj ct)
theorem nQ{kV pm bj ct:Value}(l:K.lookup f=some ⟨oc,od,.func (W.fnOf x qual (cq st) (bp st) (aI st) .none kV doc pm an bj ct),CT⟩)(c:W.codeIn K bj qual=true)(k:W.keepIn K (.ref f)=true):uM K x qual st f (W.fnOf x qual (cq st) (bp st) (aI st) .none kV doc pm an bj ct):=⟨⟨oc,od,kV,doc,pm,an,bj,ct,CT,rfl,l,c⟩,k⟩
end
theorem bO(hr:dq k A):A.units+1<cLine:=Nat.lt_of_le_of_lt (Nat.add_le_add_left (by decide:1<=64) _) hr.units
section
theorem pv(i:Nat)(hN:X.N[i]?=some x:=by rfl)(hv:MB X.env.scope x:=by first|exact Or.inl rfl|exact Or.inr (Or.inl rfl)|exact Or.inr (Or.inr rfl))(hd:(x==("__debug__":Str))=false:=by decide)(xq:(x==("__classdict__":Str))=false:=by decide):PE X (.Name x pos) (x6 i):=Jm hN hv hd xq
end
theorem gf{A B:Prop}(h:B):if false=true then A else B:=by rw[if_neg Bool.false_ne_true];exact h
theorem eO{A B:Prop}(h:A):if true=true then A else B:=by rw[if_pos rfl];exact h
theorem kr{c A B:Prop}[Decidable c](h1:c->A)(h2:¬c->B):if c then A else B:=by
 by_cases h:c
 ·rw[if_pos h];exact h1 h
 rw[if_neg h];exact h2 h
def aH(H H':Hp):Prop:=∀b o,H b=some o->H' b=some o
theorem aH.refl(H:Hp):aH H H:=λ_ _ h=>h
theorem aH.trans{H1 H2:Hp}(a:aH H H1)(b:aH H1 H2):aH H H2:=λc o h=>b c o (a c o h)
theorem aH.free(e:aH H H'){l:Addr}(h:H' l=Option.none):H l=Option.none:=by
 cases q:H l with
 |none=>rfl
 |some o =>
  rw[e l o q]at h;cases h
theorem aH.seq{K:W.Frag}(e:aH H H')(h:aV K H a xs):aV K H' a xs:=by
 rcases h with(h|⟨o,h⟩)|h
 ·exact .inl (.inl (e _ _ h))
 ·exact .inl (.inr ⟨o,e _ _ h⟩)
 exact .inr h
def bw(env:Env):List (Str×NameKind)->List (Str×Addr)->List (Str×Addr)
 |[],acc=>acc
 | (n,k)::r,acc=>if k==.free then bw env r ((n,(env.cells.lookup n).getD 0)::acc)else bw env r acc
theorem nR{env:Env}:∀(names:List (Str×NameKind))(acc:List (Str×Addr))(f:Str×NameKind->List (Str×Addr)->Sem (ForInStep (List (Str×Addr)))),
  (∀n k cs,f (n,k) cs=if k==.free then(do let c <- cellOf env n;pure (.yield ((n,c)::cs)))else pure (.yield cs)) ->
  (∀x∈names,x.2=.free->∃c,env.cells.lookup x.1=some c)->(forIn names acc f:Sem _)=pure (bw env names acc)
 |[],acc,f,_,_=>rfl
 | (n,k)::r,acc,f,hf,h=>by
  rw[List.forIn_cons,hf];unfold bw;by_cases hk:(k==.free)=true
  ·rw[if_pos hk,if_pos hk];obtain⟨c,e⟩:=h (n,k) mem_cons_self (beq_iff_eq.mp hk);have e':env.cells.lookup n=some c:=e;unfold cellOf;rw[e'];show(forIn r ((n,c)::acc) f:Sem _)=_;exact nR r _ f hf λx hx=>h x (mem_cons_of_mem _ hx)
  rw[if_neg hk,if_neg hk];show(forIn r acc f:Sem _)=_;exact nR r _ f hf λx hx=>h x (mem_cons_of_mem _ hx)
theorem r6(h:∀x∈scope.names,x.2=.free->∃c,env.cells.lookup x.1=some c):closureFor scope env=pure (bw env scope.names []):=by
 unfold closureFor;have e:=nR scope.names [] (λx cs=>if x.2==.free then(do let c <- cellOf env x.1;pure (.yield ((x.1,c)::cs)))else pure (.yield cs)) (λ_ _ _=>rfl) h
 show(forIn scope.names [] _ >>= λcs=>pure cs)=_;exact(oY e)
where
 oY {α:Type} {a:α} {t:Sem α} (e:t=pure a):(t >>= λx=>pure x)=pure a:=by rw[e];rfl
theorem cJ{env:Env}{x:Str}{c:Addr}:∀(names:List (Str×NameKind))(acc:List (Str×Addr)),(∀y∈names,y.2=.free->∃c,env.cells.lookup y.1=some c) ->
  (∀c,acc.lookup x=some c->env.cells.lookup x=some c)->(bw env names acc).lookup x=some c->env.cells.lookup x=some c
 |[],acc,_,ha,h=>ha c h
 | (n,k)::r,acc,hn,ha,h=>by
  unfold bw at h;have hr:∀y∈r,y.2=.free->∃c,env.cells.lookup y.1=some c:=λy hy=>hn y (mem_cons_of_mem _ hy);by_cases hk:(k==.free)=true
  ·rw[if_pos hk]at h;obtain⟨c',e⟩:=hn (n,k) mem_cons_self (beq_iff_eq.mp hk);have e':env.cells.lookup n=some c':=e;rw[e']at h;refine cJ r _ hr (λc2 q=>?_) h;rw[lookup_cons]at q;cases hb:x==n with
   |true=>rw[hb]at q;cases q;rw[beq_iff_eq.mp hb];exact e'
   |false=>rw[hb]at q;exact ha c2 q
  rw[if_neg hk]at h;exact cJ r _ hr ha h
theorem ji{env:Env}{x:Str}:∀(names:List (Str×NameKind))(acc:List (Str×Addr)),((x,NameKind.free)∈names\/∃c,acc.lookup x=some c)->∃c,(bw env names acc).lookup x=some c
 |[],acc,h=>h.elim (λz=>by cases z) id
 | (n,k)::r,acc,h=>by
  unfold bw;by_cases hk:(k==.free)=true
  ·rw[if_pos hk];refine ji r _ ?_;cases hb:x==n with
   |true=>exact .inr ⟨_,by rw[lookup_cons,hb]⟩
   |false =>
    rcases h with h|⟨c,h⟩
    ·rcases mem_cons.mp h with e|e
     ·injection e with e1 _;rw[e1]at hb;simp at hb
     exact .inl e
    exact .inr ⟨c,by rw[lookup_cons,hb];exact h⟩
  rw[if_neg hk];refine ji r _ ?_;rcases h with h|h
  ·rcases mem_cons.mp h with e|e
   ·injection e with _ e2;rw[<-e2]at hk;exact absurd rfl hk
   exact .inl e
  exact .inr h
theorem nT{x:Str}{c:Addr}:∀(names:List (Str×NameKind))(n:Nat)(acc:List (Str×Addr)),(cellsFrom n names acc).lookup x=some c->acc.lookup x=some c\/(n<=c/\(x,NameKind.cell)∈names)
 |[],_,_,h=>.inl h
 | (y,k)::r,n,acc,h=>by
  unfold cellsFrom at h;by_cases hk:(k==.cell)=true
  ·rw[if_pos hk]at h;rcases nT r _ _ h with q|⟨q1,q2⟩
   ·rw[lookup_cons]at q;cases hb:x==y with
    |true=>rw[hb]at q;cases q;exact .inr ⟨le_refl _,by rw[beq_iff_eq.mp hb,beq_iff_eq.mp hk];exact mem_cons_self⟩
    |false=>rw[hb]at q;exact .inl q
   exact .inr ⟨by lia,mem_cons_of_mem _ q2⟩
  rw[if_neg hk]at h;rcases nT r _ _ h with q|⟨q1,q2⟩
  ·exact .inl q
  exact .inr ⟨q1,mem_cons_of_mem _ q2⟩
theorem mM{x:Str}{lo:Nat}:∀(names:List (Str×NameKind))(n:Nat)(acc:List (Str×Addr)),lo<=n->((x,NameKind.cell)∈names\/∃c,acc.lookup x=some c/\lo<=c)->∃c,(cellsFrom n names acc).lookup x=some c/\lo<=c
 |[],_,_,_,h=>h.elim (λz=>by cases z) id
 | (y,k)::r,n,acc,hn,h=>by
  unfold cellsFrom;by_cases hk:(k==.cell)=true
  ·rw[if_pos hk];refine mM r _ _ (by lia) ?_;cases hb:x==y with
   |true=>exact .inr ⟨n,by rw[lookup_cons,hb],hn⟩
   |false =>
    rcases h with h|⟨c,h,hc⟩
    ·rcases mem_cons.mp h with e|e
     ·injection e with e1 _;rw[e1]at hb;simp at hb
     exact .inl e
    exact .inr ⟨c,by rw[lookup_cons,hb];exact h,hc⟩
  rw[if_neg hk];refine mM r _ _ hn ?_;rcases h with h|h
  ·rcases mem_cons.mp h with e|e
   ·injection e with _ e2;rw[<-e2]at hk;exact absurd rfl hk
   exact .inl e
  exact .inr h
theorem jn{x:Str}:∀(names:List (Str×NameKind))(n:Nat)(acc:List (Str×Addr)),(x,NameKind.cell)∉names->(cellsFrom n names acc).lookup x=acc.lookup x
 |[],_,_,_=>rfl
 | (y,k)::r,n,acc,h=>by
  unfold cellsFrom;have hr:(x,NameKind.cell)∉r:=λz=>h (mem_cons_of_mem _ z);by_cases hk:(k==.cell)=true
  ·rw[if_pos hk,jn r _ _ hr,lookup_cons];cases hb:x==y with
   |true=>exact absurd (by rw[beq_iff_eq.mp hb,beq_iff_eq.mp hk];exact mem_cons_self) h
   |false=>rfl
  rw[if_neg hk];exact jn r _ _ hr
theorem p7:∀(names:List (Str×NameKind))(n:Nat)(acc:List (Str×Addr)),(∀x c,acc.lookup x=some c->c<n)->(∀x y c,acc.lookup x=some c->acc.lookup y=some c->x=y) ->
  ∀x y c,(cellsFrom n names acc).lookup x=some c->(cellsFrom n names acc).lookup y=some c->x=y
 |[],_,_,_,h=>h
 | (z,k)::r,n,acc,cN,h=>by
  unfold cellsFrom;by_cases hk:(k==.cell)=true
  ·rw[if_pos hk];refine p7 r (n+1) _ (λx c e=>?_) λx y c e1 e2=>?_
   ·rw[lookup_cons]at e;cases hb:x==z with
    |true=>rw[hb]at e;cases e;exact lt_succ_self _
    |false=>rw[hb]at e;exact Nat.lt_succ_of_lt (cN x c e)
   rw[lookup_cons]at e1 e2;cases hb:x==z with
   |true =>
    rw[hb]at e1;cases e1;cases KQ:y==z with
    |true=>rw[beq_iff_eq.mp hb,beq_iff_eq.mp KQ]
    |false=>rw[KQ]at e2;exact absurd (cN y _ e2) (lt_irrefl _)
   |false =>
    rw[hb]at e1;cases KQ:y==z with
    |true=>rw[KQ]at e2;cases e2;exact absurd (cN x _ e1) (lt_irrefl _)
    |false=>rw[KQ]at e2;exact h x y c e1 e2
  rw[if_neg hk];exact p7 r n _ cN h
theorem iq{x:Str}{c:Addr}:∀(names:List (Str×NameKind))(h:Heap)(acc:List (Str×Addr)),(∀y c,acc.lookup y=some c->∃v,h.IsCell c v) ->
  (cellsFrom h.objs.size names acc).lookup x=some c->∃v,(pushCells h names).IsCell c v
 |[],h,acc,ha,e=>ha x c e
 | (y,k)::r,h,acc,ha,e=>by
  unfold cellsFrom at e;unfold pushCells;by_cases hk:(k==.cell)=true
  ·rw[if_pos hk]at e ⊢;rw[show h.objs.size+1=(h.push { cls:=.type "cell",data:=.cell none }).objs.size from(Heap.size_push ..).symm]at e;refine iq r _ _ (λz c' q=>?_) e;rw[lookup_cons]at q;cases hb:z==y with
   |true=>rw[hb]at q;cases q;exact⟨none,_,Heap.get?_push_size _ rfl,rfl⟩
   |false =>
    rw[hb]at q;obtain⟨v,w⟩:=ha z c' q;exact⟨v,w.keeps λb o e=>Heap.get?_push_of_some _ e⟩
  rw[if_neg hk]at e ⊢;exact iq r _ _ ha e
section
theorem yN{Q:Env->Shared->Prop}(h:Q { scope,locals:=s.heap.objs.size,globals,cells:=cellsFrom (s.heap.objs.size+1) scope.names cl,qual,func:=none,code:=env.code,frame:=env.frame,builtins:=env.builtins }
   { s with heap:=pushCells (s.heap.push { cls:=.type "dict",data:=.dict #[] }) scope.names }):
  wpAny M A (newFunctionEnv scope globals cl [] qual none .none (some env)) Q E s:=by
 simp only[newFunctionEnv,Option.isSome_some,if_true];refine f8 (wpAny_alloc ?_);refine f8 (wpAny_layCells _ (λname kind cells=>by cases Tz:kind==NameKind.cell<;>simp[Tz]) _ _ _ _ ?_);rw[show({ s with heap:=s.heap.push { cls:=.type "dict",data:=.dict #[] } }:Shared).heap.objs.size=s.heap.objs.size+1 from Heap.size_push ..];refine f8 ?_;rw[List.forIn_nil];exact im (im h)
end
section
theorem wJ{target:Expr}{it acc:Value}(I:Nat->Shared->Prop)(turn:∀n s,I n s->wpAny (model prog w) A (pyNext it) (λr s₁=>match r with
   |none=>R (.ok .next) s₁
   |some v=>wpAny (model prog w) A (letOwnedTupleGo target it v) (λ_ s₁'=>wpAny (model prog w) A (assign target env v) (λ_ s₂ =>
     wpAny (model prog w) A (forIn ifs true λc r=>if r=true then do let ok <- isTrue c env (eval c env);pure (ForInStep.yield ok)else pure (ForInStep.yield r)) (λok s₃ =>
      if ok=true then wpAny (model prog w) A (eval elt env) (λx s₄ =>
       wpAny (model prog w) A (call (.builtin "list.append") [acc,x]) (λ_ s₅=>∃m,m<n/\I m s₅) (λ_ _=>False) s₄) (λ_ _=>False) s₃
      else ∃m,m<n/\I m s₃) (λ_ _=>False) s₂) (λ_ _=>False) s₁') (λ_ _=>False) s₁) (λ_ _=>False) s)(n:Nat)(h:I n s):
  codeAny (model prog w) A (.compLoop (.ListComp elt [⟨target,iter,ifs,0⟩] scope pos) 0 it acc env) R s:=by
 refine codeAny_loop rfl I (λn s hI=>?_) n h;show wpAny _ A ((compTurn (.ListComp elt [⟨target,iter,ifs,0⟩] scope pos) 0 it acc env).onRaise (λx=>do noteFrame x env;theTreesLotGoes x)) _ _ s
 refine wpAny_noted ?_;rw[compTurn_list];refine f8 (wpAny_standAt (f8 (wpAny_mono (turn n s hI) (λr s₁ h₁=>?_) λ_ _ h'=>h'.elim)));cases r with
 |none=>exact im h₁
 |some v =>
  refine f8 (wpAny_mono h₁ (λ_ s₁' h₁'=>?_) λ_ _ h'=>h'.elim);refine f8 (wpAny_mono h₁' (λ_ s₂ h₂=>f8 (wpAny_mono h₂ (λok s₃ h₃=>?_) λ_ _ h'=>h'.elim)) λ_ _ h'=>h'.elim);cases ok with
  |false=>exact im ⟨rfl,h₃⟩
  |true =>
   exact f8 (f8 (wpAny_mono h₃ (λx s₄ h₄=>f8 (wpAny_mono h₄ (λ_ s₅ h₅=>im (im ⟨rfl,h₅⟩)) λ_ _ h'=>h'.elim)) λ_ _ h'=>h'.elim))
end
def wK(X:Cx)(Nc:List Str)(scope:Scope)(C:Addr)(fp:List Addr)(s:Shared)(H:Hp):Cx where
 prog:=X.prog
 w:=X.w
 K:=X.K
 mg:=X.mg
 base:=X.base
 A:=X.A
 N:=Nc
 s₀:=s
 H₀:=H
 env:=compEnvC scope (cellsFrom (C+1) scope.names (bw X.env scope.names [])) C X.env
 outer:=X.stack
 stack:=X.stack
 ex:=fp
 fn:=λx=>scope.names.contains (x,NameKind.cell)
 calm:=X.calm
 pn:=[]
 xe:=λ_ _=>False
structure dX(X:Cx)(Nc:List Str)(ix:List (Option Nat))(scope:Scope):Prop where
 kind:scope.kind=.function
 nd:Nc.Nodup
 len:ix.length=Nc.length
 loc:∀x∈scope.names,x.2=.local->scope.names.lookup x.1=some .local
 free:∀x∈scope.names,x.2=.free->X.env.kindOf x.1=some .cell\/X.env.kindOf x.1=some .free
 once:∀x,(x,NameKind.free)∈scope.names->(x,NameKind.cell)∉scope.names
 out:∀(i j:Nat)(x:Str),ix[i]?=some (some j)->Nc[i]?=some x->X.N[j]?=some x/\scope.names.lookup x=some .free
def r8(ix:List (Option Nat))(σ:St):St:=ix.map λo=>o.bind λj=>(σ[j]?).bind id
theorem jo{env:Env}{x:Str}:∀{names:List (Str×NameKind)}{k:NameKind},names.lookup x=some k ->
  (names.map λ(n,k)=>if(k==NameKind.free&&env.scope.kind==.function&&env.kindOf n==some .cell)then(n,NameKind.cell)else(n,k)).lookup x =
   some (if(k==NameKind.free&&env.scope.kind==.function&&env.kindOf x==some .cell)then NameKind.cell else k)
 |[],_,h=>by simp at h
 | (n,k')::r,k,h=>by
  show List.lookup x ((if(k'==NameKind.free&&env.scope.kind==.function&&env.kindOf n==some .cell)=true then(n,NameKind.cell)else(n,k'))::_)=_;cases hx:x==n with
  |true =>
   simp only[lookup_cons,hx]at h;cases h;have e:=beq_iff_eq.mp hx;subst e;split<;>simp[lookup_cons]
  |false =>
   simp only[lookup_cons,hx]at h;have ih:=jo (env:=env) (names:=r) h;split<;>(simp only[lookup_cons,hx];exact ih)
theorem oZ{env:Env}{x:Str}:∀{names:List (Str×NameKind)},names.lookup x=none ->
  (names.map λ(n,k)=>if(k==NameKind.free&&env.scope.kind==.function&&env.kindOf n==some .cell)then(n,NameKind.cell)else(n,k)).lookup x=none
 |[],_=>rfl
 | (n,k')::r,h=>by
  show List.lookup x ((if(k'==NameKind.free&&env.scope.kind==.function&&env.kindOf n==some .cell)=true then(n,NameKind.cell)else(n,k'))::_)=_;cases hx:x==n with
  |true=>simp only[lookup_cons,hx]at h;cases h
  |false =>
   simp only[lookup_cons,hx]at h;have ih:=oZ (env:=env) (names:=r) h;split<;>(simp only[lookup_cons,hx];exact ih)
section
theorem dX.cells(S:dX X Nc ix scope)(I:Inv X io σ H s):∀x∈scope.names,x.2=.free->∃c,X.env.cells.lookup x.1=some c:=λx hx hf=>I.ok.has x.1 (S.free x hx hf)
theorem vG(S:dX X Nc ix scope)(I:Inv X io σ H s){c:Addr}(e:(cellsFrom (C+1) scope.names (bw X.env scope.names [])).lookup x=some c):
  X.env.cells.lookup x=some c\/(C+1<=c/\(x,NameKind.cell)∈scope.names):=by
 rcases nT _ _ _ e with q|q
 ·exact .inl (cJ _ _ (S.cells I) (λ_ z=>by simp at z) q)
 exact .inr q
theorem EF(S:dX X Nc ix scope)(I:Inv X io σ H s)(P4:∀b∈fp,pY X io H b)(ho:∀b∈fp,∃o,s.heap.get? b=some o):
  Inv (wK X Nc scope (s.heap.objs.size+1) fp s H) [] (r8 ix σ) (upd H s.heap.objs.size (.lst []))
   { s with heap:=pushCells ((s.heap.push { cls:=.type "list",dict:=none,data:=.seq ([]:List Value).toArray }).push { cls:=.type "dict",data:=.dict #[] }) scope.names,toks:=t' }:=by
 have keep:∀b o,s.heap.get? b=some o->(pushCells ((s.heap.push { cls:=.type "list",dict:=none,data:=.seq ([]:List Value).toArray }).push { cls:=.type "dict",data:=.dict #[] }) scope.names).get? b=some o :=
  λb o e=>pushCells_keeps _ _ b o (Heap.get?_push_of_some _ (Heap.get?_push_of_some _ e))
 have hD:(pushCells ((s.heap.push { cls:=.type "list",dict:=none,data:=.seq ([]:List Value).toArray }).push { cls:=.type "dict",data:=.dict #[] }) scope.names).get? s.heap.objs.size =
   some { cls:=.type "list",dict:=none,data:=.seq ([]:List Value).toArray }:=pushCells_keeps _ _ _ _ (Heap.get?_push_of_some _ (Heap.get?_push_size _ rfl))
 have hsz:(s.heap.push { cls:=.type "list",dict:=none,data:=.seq ([]:List Value).toArray }).objs.size=s.heap.objs.size+1:=Heap.size_push ..;have fresh:∀a:Addr,s.heap.objs.size<=a->H a=none:=λa h=>I.bE.fresh h;have ME:∀x c,X.env.cells.lookup x=some c->c<s.heap.objs.size:=λx c e=>let⟨_,q⟩:=I.cell x c e;q.lt;have T1:∀x c,(bw X.env scope.names []).lookup x=some c->c<s.heap.objs.size+1+1:=λx c e =>
  Nat.lt_succ_of_lt (Nat.lt_succ_of_lt (ME x c (cJ _ _ (S.cells I) (λ_ z=>by simp at z) e)))
 have P5:∀x y c,(bw X.env scope.names []).lookup x=some c->(bw X.env scope.names []).lookup y=some c->x=y:=λx y c e1 e2 =>
  I.ok.inj x y c (cJ _ _ (S.cells I) (λ_ z=>by simp at z) e1) (cJ _ _ (S.cells I) (λ_ z=>by simp at z) e2)
 refine⟨⟨I.ok.mod,S.kind,I.ok.glob,I.ok.blt,le_succ _,p7 _ _ _ T1 P5,λx hx=>?has,λx c hf e=>?Jj,I.ok.hd,I.ok.frames,.inl rfl,λb hb=>?MC,I.bs,le_trans I.ok.GI I.sz,λb o e hb=>?zj,λb hb hs=>?zk,I.stack,I.BI⟩,
  rfl,I.bare,Un.laid keep (le_refl _) (fresh _ (le_refl _)),⟨λ_=>none,?ns,λi x v e1 e2 e3=>?loc⟩,λx c e=>?cell,?free,λx c e=>?kX,λp hp=>absurd (show p∈([]:List (Addr×Obj))from hp) (by simp),I.bE.laid keep (le_refl _) ?obj,?len⟩
 case has =>
  have hx:(relabel scope X.env).names.lookup x=some .cell\/(relabel scope X.env).names.lookup x=some .free:=hx;show ∃c,(cellsFrom (s.heap.objs.size+1+1) scope.names (bw X.env scope.names [])).lookup x=some c;cases hk:scope.names.lookup x with
  |none =>
   rw[show(relabel scope X.env).names.lookup x=none from oZ hk]at hx;rcases hx with z|z<;>cases z
  |some k =>
   have hm:=PySem.mem_of_lookup hk;rw[show(relabel scope X.env).names.lookup x=_ from jo hk]at hx;cases k with
   |cell=>obtain⟨c,e,_⟩:=mM (x:=x) (lo:=0) scope.names (s.heap.objs.size+1+1) (bw X.env scope.names []) (zero_le _) (.inl hm);exact⟨c,e⟩
   |free =>
    obtain⟨c,e⟩:=ji (env:=X.env) (x:=x) scope.names [] (.inl hm);exact⟨c,by rw[jn _ _ _ (S.once x hm)];exact e⟩
   |_=>rcases hx with z|z<;>simp at z
 case Jj =>
  have hm:(x,NameKind.cell)∈scope.names:=List.contains_iff_mem.mp hf;obtain⟨c',e',hc⟩:=mM (x:=x) (lo:=s.heap.objs.size+1+1) scope.names (s.heap.objs.size+1+1) (bw X.env scope.names []) (le_refl _) (.inl hm);have e2:(cellsFrom (s.heap.objs.size+1+1) scope.names (bw X.env scope.names [])).lookup x=some c:=e;rw[e']at e2;cases e2;exact le_trans (le_trans (le_succ _) (le_succ _)) hc
 case MC =>
  obtain⟨o,eo⟩:=ho b hb;have cN:=Heap.lt_size eo;refine⟨ne_of_lt (Nat.lt_succ_of_lt cN),λx c e=>?_⟩;rcases vG S I e with q|⟨q,_⟩
  ·exact(P4 b hb).2.2.2.2.1 x c q
  exact Nat.ne_of_gt (lt_of_lt_of_le (Nat.lt_succ_of_lt (Nat.lt_succ_of_lt cN)) q)
 case zj =>
  obtain⟨_,_,_,q,_⟩:=P4 b hb;rcases q with q|q
  ·exact I.ok.zj b o e q
  exact absurd (lt_of_lt_of_le (lt_of_lt_of_le (Heap.lt_size e) I.ok.GI) q) (lt_irrefl _)
 case zk =>
  obtain⟨_,q1,q2,_⟩:=P4 b hb;rcases mem_cons.mp (I.zm b hs)with z|z
  ·exact q1 z
  exact q2 z
 case ns =>
  refine Heap.Ns.keeps (h:=(s.heap.push { cls:=.type "list",dict:=none,data:=.seq ([]:List Value).toArray }).push { cls:=.type "dict",data:=.dict #[] }) ?_ (pushCells_keeps _ _);have q:=Heap.Ns.new (s.heap.push { cls:=.type "list",dict:=none,data:=.seq ([]:List Value).toArray }) (.type "dict");rw[hsz]at q;exact q
 case loc =>
  have JB:(ix.map λo=>o.bind λj=>(σ[j]?).bind id)[i]?=some (some v):=e2;rw[getElem?_map]at JB;cases ei:ix[i]? with
  |none=>rw[ei]at JB;cases JB
  |some o =>
   rw[ei]at JB;cases o with
   |none=>simp at JB
   |some j =>
    obtain⟨hN,Rv⟩:=S.out i j x ei e1;have ej:σ[j]?=some (some v):=by
     cases q:σ[j]? with
     |none=>simp[q]at JB
     |some y=>simp[q]at JB;rw[JB]
    have hm:=PySem.mem_of_lookup Rv;have P6:MB X.env.scope x:=by
     rcases S.free (x,.free) hm rfl with z|z
     ·exact .inr (.inl z)
     exact .inr (.inr z)
    obtain⟨m0,WZ,T2⟩:=I.loc;obtain⟨u,r,l⟩:=T2 j x v hN ej P6;refine⟨u,r,?_⟩;have hk:X.env.kindOf x=some .cell\/X.env.kindOf x=some .free:=S.free (x,.free) hm rfl;rcases l with⟨z,_⟩|⟨_,c,ec,u0⟩
    ·rcases hk with y|y<;>(rw[z]at y;cases y)
    refine .inr ⟨?_,c,?_,u0.keeps keep⟩
    ·show(relabel scope X.env).names.lookup x=_\/(relabel scope X.env).names.lookup x=_;rw[show(relabel scope X.env).names.lookup x=_ from jo Rv];split
     ·exact .inl rfl
     exact .inr rfl
    show(cellsFrom (s.heap.objs.size+1+1) scope.names (bw X.env scope.names [])).lookup x=some c;rw[jn _ _ _ (S.once x hm)];obtain⟨c',e'⟩:=ji (env:=X.env) (x:=x) scope.names [] (.inl hm);have q:=cJ _ _ (S.cells I) (λ_ z=>by simp at z) e';rw[ec]at q;cases q;exact e'
 case cell =>
  have q:=iq (x:=x) (c:=c) scope.names ((s.heap.push { cls:=.type "list",dict:=none,data:=.seq ([]:List Value).toArray }).push { cls:=.type "dict",data:=.dict #[] }) (bw X.env scope.names [])
   (λy c' e'=>by obtain⟨v,z⟩:=I.cell y c' (cJ _ _ (S.cells I) (λ_ z=>by simp at z) e');exact⟨v,z.keeps λb o e=>Heap.get?_push_of_some _ (Heap.get?_push_of_some _ e)⟩)
  rw[Heap.size_push,hsz]at q;exact q e
 case free =>
  show upd H s.heap.objs.size (.lst []) (s.heap.objs.size+1)=none;rw[aM (Nat.succ_ne_self _)];exact fresh _ (le_succ _)
 case kX =>
  rcases vG S I e with q|⟨q,_⟩
  ·rw[aM (ne_of_lt (ME x c q))];exact I.kX x c q
  have h1:s.heap.objs.size<c:=lt_of_lt_of_le (Nat.lt_succ_of_lt (lt_succ_self _)) q;rw[aM (Nat.ne_of_gt h1)];exact fresh c (Nat.le_of_lt h1)
 case obj=>exact⟨zero_le _,[],0,.nil,hD⟩
 case len =>
  show(r8 ix σ).length=Nc.length;unfold r8;rw[length_map,S.len]
end
def Mr(X:Cx)(ifs:List Expr)(t:TT):Prop :=
 ∀(io:List (Addr×Obj))(s:Shared)(σ:St)(H:Hp)(Q:Bool->Hp->Prop),Inv X io σ H s->t σ H Q ->
  wpAny (model X.prog X.w) X.A (forIn ifs true λc r=>if r=true then do let ok <- isTrue c X.env (eval c X.env);pure (ForInStep.yield ok)else pure (ForInStep.yield r)) (TP X io σ Q) X.xe s
def Mt:TT:=λ_ H Q=>Q true H
theorem bc:Mr X [] Mt:=λ_ _ _ H _ I h=>wpAny_tests_nil ⟨H,I,h⟩
theorem mN{c:Expr}{t:TT}(h:PT X c t):Mr X [c] t:=λio s σ H Q I hw=>wpAny_tests_one (h io s σ H Q I hw)
def r9(J:It)(g:TG)(tt:TT)(te:TE)(D:Addr)(σ:St)(H:Hp)(Q:VK):Prop:=∃W:Nat->Nat->St->Hp->Prop,(∃m,W 0 m σ H)/\∀i m σ' H',W i m σ' H' ->
 (J.stop i H'/\Q (.ref D) H')\/(J.go i H'/\∀x H2,J.BK i H' x H2->g x σ' H2 λσ3 H3=>tt σ3 H3 λb H4 =>
  if b=true then te σ3 H4 λv H5=>∃xs,H5 D=some (.lst xs)/\xs.length<sizeLine/\∃m',m'<m/\W (i+1) m' σ3 (upd H5 D (.lst (xs++[v])))
  else ∃m',m'<m/\W (i+1) m' σ3 H4)
def Rw(wi:TI)(ix:List (Option Nat))(g:TG)(tt:TT)(te:TE):TE:=λσ H Q=>wi σ H λJ H1=>∀D,H1 D=none->r9 J g tt te D (r8 ix σ) (upd H1 D (.lst [])) Q
section
variable{tg:Expr}{wi:TI}
theorem yO{it:Addr}{J:It}{Q:VK}{R:Value->Addr->Result->Shared->Prop}(hc:X.calm=true)(S:dX X Nc ix scope)(I:Inv X io σ H s)(T:Turn X.prog X.w X.K tg J fp it tn)(st:tn 0 s.heap)(f:∀b∈fp,pY X io H b)(hg:PG (wK X Nc scope (s.heap.objs.size+1) fp s H) tg g)(ht:Mr (wK X Nc scope (s.heap.objs.size+1) fp s H) ifs tt)(he:PE (wK X Nc scope (s.heap.objs.size+1) fp s H) elt te)(h:∀D,H D=none->∃W:Nat->Nat->St->Hp->Prop,(∃m,W 0 m (r8 ix σ) (upd H D (.lst [])))/\∀i m σ' H',W i m σ' H' ->
   (J.stop i H'/\Q (.ref D) H')\/(J.go i H'/\∀x H2,J.BK i H' x H2->g x σ' H2 λσ3 H3=>tt σ3 H3 λb H4 =>
    if b=true then te σ3 H4 λv H5=>∃xs,H5 D=some (.lst xs)/\xs.length<sizeLine/\∃m',m'<m/\W (i+1) m' σ3 (upd H5 D (.lst (xs++[v])))
    else ∃m',m'<m/\W (i+1) m' σ3 H4))(hR:∀σ' H' s',Inv (wK X Nc scope (s.heap.objs.size+1) fp s H) [] σ' H' s'->(∀b∈fp,H' b=none)->Q (.ref s.heap.objs.size) H'->R (.ref s.heap.objs.size) (s.heap.objs.size+1) (.ok .next) s'):
  wpAny (model X.prog X.w) X.A (newList []) (λacc s₃=>wpAny (model X.prog X.w) X.A (newFunctionEnv scope X.env.globals (bw X.env scope.names []) [] X.env.qual none .none (some X.env)) (λMu s₄ =>
   codeAny (model X.prog X.w) X.A (.compStart (.ListComp elt [⟨tg,iter,ifs,0⟩] scope pos) 0 (.ref it) acc { Mu with scope:=relabel scope X.env }) (R acc Mu.locals) s₄) X.xe s₃) X.xe s:=by
 obtain⟨W,⟨m0,w0⟩,turn⟩:=h s.heap.objs.size (I.bE.fresh (le_refl _));refine wpAny_newObj_type (yN ?_);have I4:=EF (t':=s.toks) S I f (λb hb=>let⟨o,e,_⟩:=T.obj _ _ st b hb;⟨o,e⟩);have hsz:(s.heap.push { cls:=.type "list",dict:=none,data:=.seq ([]:List Value).toArray }).objs.size=s.heap.objs.size+1:=Heap.size_push ..;dsimp only;rw[hsz];have Rx:tn 0 (pushCells ((s.heap.push { cls:=.type "list",dict:=none,data:=.seq ([]:List Value).toArray }).push { cls:=.type "dict",data:=.dict #[] }) scope.names) :=
  T.keep _ _ _ st λb _ o e=>pushCells_keeps _ _ b o (Heap.get?_push_of_some _ (Heap.get?_push_of_some _ e))
 have T4:∀b∈fp,upd H s.heap.objs.size (.lst []) b=none:=λb hb=>by obtain⟨o,e,_⟩:=T.obj _ _ st b hb;rw[aM (ne_of_lt (Heap.lt_size e))];exact(f b hb).1
 have zq:∀{H':Hp},(∀b∈fp,H' b=none)->∀b∈fp,pY (wK X Nc scope (s.heap.objs.size+1) fp s H) [] H' b:=λ{H'} hn b hb=>by obtain⟨q1,q2⟩:=I4.ok.MC b hb;exact⟨hn b hb,q1,I4.ok.zk b hb,.inl hb,q2,λp hp=>absurd (show p∈([]:List (Addr×Obj))from hp) (by simp)⟩
 have loop:codeAny (model X.prog X.w) X.A (.compLoop (.ListComp elt [⟨tg,iter,ifs,0⟩] scope pos) 0 (.ref it) (.ref s.heap.objs.size) (wK X Nc scope (s.heap.objs.size+1) fp s H).env)
   (R (.ref s.heap.objs.size) (s.heap.objs.size+1))
   { s with heap:=pushCells ((s.heap.push { cls:=.type "list",dict:=none,data:=.seq ([]:List Value).toArray }).push { cls:=.type "dict",data:=.dict #[] }) scope.names }:=by
  refine wJ (λn s'=>∃i σ' H',Inv (wK X Nc scope (s.heap.objs.size+1) fp s H) [] σ' H' s'/\tn i s'.heap/\(∀b∈fp,H' b=none)/\W i n σ' H') ?_ m0 ⟨0,_,_,I4,Rx,T4,w0⟩;rintro n s5 ⟨i,σ5,H5,I5,Lh,MO,w5⟩;rcases turn i n σ5 H5 w5 with⟨stop,qn⟩|⟨go,step⟩
  ·refine bI (T.done (wK X Nc scope (s.heap.objs.size+1) fp s H) rfl rfl rfl hc i [] s5 σ5 H5 _ I5 (zq MO) Lh stop) λr s6 ⟨hr,I6⟩=>?_;subst hr;exact hR σ5 H5 s6 I6 MO qn
  refine bI (T.item (wK X Nc scope (s.heap.objs.size+1) fp s H) rfl rfl rfl hc i [] s5 σ5 H5 _ I5 (zq MO) Lh go) λr s6 ⟨u,hr,h6⟩=>?_;subst hr;refine bI h6 λ_ s7 ⟨x,H7,I7,r7,y7,P7,T5⟩=>?_;have T6:=I7.pinned (zq T5) (T.obj _ _ P7);refine bI (hg _ s7 σ5 H7 x u _ T6 r7 (step x H7 y7)) λ_ s8 ⟨σ8,H8,I8,q8⟩=>?_;refine bI (ht _ s8 σ8 H8 _ I8 q8) λb s9 ⟨H9,I9,q9⟩=>?_;have again:∀{s':Shared}{σ':St}{H':Hp},Inv (wK X Nc scope (s.heap.objs.size+1) fp s H) ([]++rg fp s7.heap) σ' H' s'->tn (i+1) s'.heap/\∀b∈fp,H' b=none:=λ{s' σ' H'} I'=>by refine⟨T.keep _ _ _ P7 λb hb o e=>(I'.pin (b,o) (mem_append_right _ (mem_append_right _ (jf hb e)))).1,λb hb=>?_⟩;obtain⟨o,e,d⟩:=T.obj _ _ P7 b hb;exact(I'.pin (b,o) (mem_append_right _ (mem_append_right _ (jf hb e)))).2.1
  cases b with
  |false =>
   rw[if_neg Bool.false_ne_true]at q9 ⊢;obtain⟨m',hm,w9⟩:=q9;obtain⟨a1,a2⟩:=again I9;exact⟨m',hm,i+1,σ8,H9,I9.lC,a1,a2,w9⟩
  |true =>
   rw[if_pos rfl]at q9 ⊢;refine bI (he _ s9 σ8 H9 _ I9 q9) λv T7 ⟨x',Ry,T8,T9,xs,eD,cN,m',hm,UA⟩=>?_;refine bI (gR (X:=wK X Nc scope (s.heap.objs.size+1) fp s H) _ T7 σ8 Ry (.ref s.heap.objs.size) [x'] (.ref s.heap.objs.size) [v] (λ_ H'=>H'=upd Ry s.heap.objs.size (.lst (xs++[x']))) T8 rfl (.cons T9 .nil)
    ⟨_,xs,x',rfl,rfl,eD,cN,rfl⟩) λ_ Wa ⟨_,Wb,Rz,_,UB⟩=>?_
   subst UB;obtain⟨a1,a2⟩:=again Rz;exact⟨m',hm,i+1,σ8,_,Rz.lC,a1,a2,UA⟩
 exact codeAny_compStart_list loop (T.self X.A 0 _ _ _ Rx loop)
theorem comp_back{σ':St}{s':Shared}(I:Inv X io σ H s)(f:∀b∈fp,pY X io H b)(J:Inv (wK X Nc scope (s.heap.objs.size+1) fp s H) [] σ' H' s'):Inv X io σ H' s' :=
 I.Dm (ch:=fp) J.os J.base J.bE J.bare λb hb=>let⟨_,q1,_,q3,q4,q5⟩:=f b hb;⟨q3,q1,q4,q5⟩
theorem Inv.JC(I:Inv X io σ H s)(f:pY X io H C)(hs:Heap.SameBut C s.heap h'):Inv X io σ H { s with heap:=h' } :=
 I.turned (t':=s.toks) (it:=C) (λb o hb e=>(hs.2 b hb).trans e) f.1 f.2.1 f.2.2.2.1 f.2.2.2.2.1 f.2.2.2.2.2
theorem gg(hc:X.calm=true)(S:dX X Nc ix scope)(hi:PI X tg iter wi)(hb:∀(C:Addr)(fp:List Addr)(s:Shared)(H:Hp),PG (wK X Nc scope C fp s H) tg g/\Mr (wK X Nc scope C fp s H) ifs tt/\PE (wK X Nc scope C fp s H) elt te)(hs:∀x,foldedSetIterable iter X.env x=pure x:=by intro _;rfl):PE X (.ListComp elt [⟨tg,iter,ifs,0⟩] scope pos) (Rw wi ix g tt te):=by intro io s σ H Q I h;rw[eval_ListComp];refine wpAny_comprehension_free (use:=none) rfl hs (r6 (S.cells I)) S.kind S.loc (bI (hi io s σ H _ I h) λv s1 h1=>bI h1 λOU s2 h2=>?_);obtain⟨it,fp,tn,J,H2,e,I2,T,Jx,f2,q2⟩:=h2;subst e;obtain⟨hg,ht,he⟩:=hb (s2.heap.objs.size+1) fp s2 H2;refine yO (R:=λacc C=>compPost (model X.prog X.w) X.A X.xe none (EP X io σ Q) acc C) hc S I2 T Jx f2 hg ht he q2 λσ' H' s' J' UC q'=>?_;obtain⟨m,hn,_⟩:=J'.loc;refine⟨m,hn,λh' p8=>⟨.ref _,H',?_,rfl,q'⟩⟩;exact(comp_back I2 f2 J').JC (I2.uJ (le_succ _) J'.free) p8
theorem dy{Mv:Pos}(hN:X.N.Nodup)(hy:X.N[i]?=some y)(hl:Loc X.env.scope y)(hc:X.calm=true)(S:dX X Nc ix scope)(hi:PI X tg iter wi)(hb:∀(C:Addr)(fp:List Addr)(s:Shared)(H:Hp),PG (wK X Nc scope C fp s H) tg g/\Mr (wK X Nc scope C fp s H) ifs tt/\PE (wK X Nc scope C fp s H) elt te)(UD:swapsWith (.ListComp elt [⟨tg,iter,ifs,0⟩] scope pos) (some (.Name y py)) Mv.line X.env=pure true:=by rfl)(hs:∀x,foldedSetIterable iter X.env x=pure x:=by intro _;rfl)(hf:X.fn y=true\/X.env.scope.names.lookup y=some .local:=by first|exact .inl rfl|exact .inr rfl|assumption):
  PS X (.Assign [.Name y py] (.ListComp elt [⟨tg,iter,ifs,0⟩] scope pos) Mv) (Js (Rw wi ix g tt te) (lB i)):=by
 intro io s σ H D I h;rw[exec_Assign_Name_used _ _ _ _ UD];refine f8 (wpAny_standAt (f8 ?_));show wpAny _ X.A (do let _ <- comprehension (.ListComp elt [⟨tg,iter,ifs,0⟩] scope pos) scope X.env _ (newList []) false (eval iter X.env) (some (assign (.Name y py) X.env))) _ _ s
 refine f8 (wpAny_mono (wpAny_comprehension_free (use:=some (assign (.Name y py) X.env)) (Q:=λ_ s'=>SP X io D .next s') rfl hs (r6 (S.cells I)) S.kind S.loc
  (bI (hi io s σ H _ I h) λv s1 h1=>bI h1 λOU s2 h2=>?_)) (λ_ s' hq=>im (im hq)) λ_ _ e=>e)
 obtain⟨it,fp,tn,J,H2,e,I2,T,Jx,f2,q2⟩:=h2;subst e;obtain⟨hg,ht,he⟩:=hb (s2.heap.objs.size+1) fp s2 H2;refine yO (Q:=λx H1=>lB i x σ H1 D.nx) (R:=λacc C=>compPost (model X.prog X.w) X.A X.xe (some (assign (.Name y py) X.env)) (λ_ s'=>SP X io D .next s') acc C) hc S I2 T Jx f2 hg ht he q2 λσ' H' s' J' UC q'=>?_;obtain⟨m,hn,_⟩:=J'.loc;have I3:=comp_back I2 f2 J';have fC:=I2.uJ (le_succ _) J'.free;show wpAny _ X.A (assign (.Name y py) X.env (.ref s2.heap.objs.size)) _ _ s';refine wpAny_assign_Name (uz (v:=.ref s2.heap.objs.size) I3 hN hy hl rfl (λs4 I4 ⟨a,oS,ha⟩=>?_) hf);have UE:s2.heap.objs.size+1≠a:=by
  rcases ha with z|z
  ·rw[z];exact fC.2.1
  exact Ne.symm (fC.2.2.2.2.1 y a z)
 refine⟨m,hn.sameBut oS UE,λh' p8=>⟨_,H',I4.JC fC p8,q'⟩⟩
end
structure KR(P:Program)(w:World)(outer:List Env)(H:Hp)(s:Shared)(a C:Addr)(a0:Value)(B:Heap)(H':Hp)(s':Shared):Prop where
 os:s'.os=s.os
 bare:AllBare s'.gens
 un:Un (CI outer) [] H H' s.heap s'.heap
 bE:nM P w H' s'.heap
 Wc:Heap.FlyingW B outer a (.ref C) a0 s'.heap
 Wd:∀b o,s.heap.get? b=some o->b∉CI outer->∃o',B.get? b=some o'
 MA:∀b u,H' b=some u->∃o',B.get? b=some o'
def vH(P:Program)(w:World):z8:=λouter H s E e s'=>∃(a C:Addr)(a0:Value)(B:Heap)(H':Hp),e=.ref a/\KR P w outer H s a C a0 B H' s'/\E (.ref C) none H'
section
variable{E:XK}
end
def ExcAt(a C:Addr)(h:Heap):Prop:=∃oe vs,h.get? a=some oe/\oe.cls=.ref C/\oe.data=.fields vs
theorem wL{K:W.Frag}(KX:K.In h)(z0:(W.clsIn K C).isSome=true):W.Looks M h (isType (.ref C)) true:=by
 unfold W.clsIn at z0;split at z0
 ·rename_i c' d' UG PN ho;intro A' Q' E' s' k q;unfold isType loadHead;exact f8 (wpAny_loadPart (k _ _ (KX _ _ ho)) (im q))
 cases z0
section
variable{E:XK}
end
structure nU(K:W.Frag)(C:Addr):Prop where
 ga:W.findIn K (.ref C) "__getattribute__"=some (some (.builtin "BaseException.__getattribute__"))
 UH:W.findIn K (.ref C) "__getattr__"=some none
 at_:W.findIn K (.ref C) "__class__"=some (some (.builtin "object.__class__"))
 cls:(W.clsIn K C).isSome=true
 obj:W.mroIn K C (.type "object")=some true
 base:W.subIn K (.ref C) (.type "BaseException")=some true
section
variable{g:Array GenState}{d:Drawn}{t:Nat}{os:OsState}{K:W.Frag}
theorem ExcAt.type(x:ExcAt a C h):W.Looks M h (typeOf (.ref a)) (.ref C):=by obtain⟨oe,vs,he,hc,hd⟩:=x;exact hc▸(W.Looks.ld he).andThen .now
open PySem.W Builtin Builtin.ObjectAttr Builtin.Getset_descriptor in
theorem uN{tp:Value}(KX:K.In h)(x:ExcAt a C h)(c:nU K C)(hq:R (.ok (.ret (.ref C))) ⟨h,g,d,t,os⟩):
  codeAny (model prog w) A (.call (.builtin "getset_descriptor.__get__") ⟨[.builtin "object.__class__",.ref a,tp],[]⟩) R ⟨h,g,d,t,os⟩:=by
 have L0:=x.type (M:=model prog w);have L1:=looks_mroIn (M:=model prog w) KX c.obj;refine codeAny_call_builtin KF.slot_gs.plain KF.entry_gs (KF.slot_gs.check _ _ _ _ _ _ _ _ KF.type_class (KF.args_gs _ _ _) ?_);unfold Builtin.«getset_descriptor.__get__» descrGet;rw[dga_obj];refine f8 (im ?_);unfold descrGetter descrCheckInstance descrNameAndClass isInstance;simp only[KF.owner_class]
 repeat lk
 refine⟨Code.quiet_builtin _ (by decide +kernel),codeAny_builtin KF.entry_class ?_⟩;unfold Builtin.«object.__class__» shownTypeOf
 repeat lk
 exact hq
open PySem.W in
theorem Ca{JD:Value}{Q:Unit->Shared->Prop}(KX:K.In h)(x:ExcAt a C h)(c:nU K C)(hq:Q () ⟨h,g,d,t,os⟩):
  wpAny M A (checkBuiltinCall "BaseException.__getattribute__" ⟨[.ref a,JD],[]⟩) Q E ⟨h,g,d,t,os⟩:=by
 have hk:builtinKind "BaseException.__getattribute__"=some .slot:=by decide +kernel
 have KS:splitId "BaseException.__getattribute__"=some ("BaseException","__getattribute__"):=by decide +kernel
 have ha:=PySem.F.args_bexc_ga (.ref a) JD;have L0:=x.type (M:=M);have L1:=looks_subIn (M:=M) KX c.base;simp only[checkBuiltinCall,hk,KS];refine f8 ?_;unfold isInstance;refine f8 (L0.at ?_);refine L1.at ?_
 repeat (first|assumption|wp_step)
open PySem.W in
theorem Cb{tk:Tok}{Q:Fin->Shared->Prop}(KX:K.In h)(x:ExcAt a C h)(c:nU K C)(hq:Q (.done (.ret (.ref C))) ⟨h,g,d,t,os⟩):
  wpAny (model prog w) A (Builtin.«object.__getattribute__» ⟨[.ref a,.str "__class__" tk],[]⟩) Q E ⟨h,g,d,t,os⟩:=by
 have We:(⟨h,g,d,t,os⟩:Shared).TypeIs (.builtin "object.__class__") "getset_descriptor":=PySem.F.typeOf_object_class;have f5:=PySem.F.typeOf_object_class;have f6:=PySem.F.slot_gs_get.lookup;have f7:=PySem.F.slot_gs_set.lookup;have L0:=x.type (M:=model prog w);have L1:=looks_findIn (M:=model prog w) KX c.at_
 repeat (any_goals (first|assumption|with_reducible refine L0.at ?_|with_reducible refine L1.at ?_|wp_step))
 refine uN KX x c ?_
 repeat (any_goals (first|assumption|wp_step))
open PySem.W in
theorem EG(KX:K.In h)(x:ExcAt a C h)(c:nU K C)(hq:Q (some (.ref C)) ⟨h,g,d,t+1,os⟩):
  wpAny (model prog w) A (getAttr? (.ref a) "__class__") Q E ⟨h,g,d,t,os⟩:=by
 have f3:=PySem.F.excAttr_ValueError.ga.bind (.ref a);have L0:=x.type (M:=model prog w);have L1:=looks_findIn (M:=model prog w) KX c.ga;have L2:=looks_findIn (M:=model prog w) KX c.UH;have UI:(Value.builtin "BaseException.__getattribute__"==Value.builtin "object.__getattribute__")=false:=by decide +kernel
 have Wf:(onTheHeap (Value.ref C)&&Value.builtin "BaseException.__getattribute__"==Value.builtin "object.__getattribute__")=false:=by rw[UI];rfl
 unfold getAttr? getAttrBy? getAttrBy
 repeat (any_goals (first|assumption|with_reducible refine L0.at ?_|with_reducible refine L1.at ?_|with_reducible refine L2.at ?_|wp_step))
 refine codeAny_call_builtin PySem.F.excAttr_ValueError.ga.plain PySem.F.entry_bexc_ga (Ca KX x c (Cb KX x c ?_))
 repeat (any_goals (first|assumption|wp_step))
open PySem.W in
theorem EH(c:nU K C):KitX K (.ref a) (.ref C) (ExcAt a C)where
 ty:=λ_ _ _ x=>x.type
 it:=λ_ _ KX _=>wL KX c.cls
 ne:=λh tp dd aS n sl KX mx=>by
  refine Bool.eq_false_iff.mpr λq=>?_;have e:C=tp:=Value.ref.inj (beq_iff_eq.mp q);subst e;have z:=c.cls;unfold W.clsIn at z;split at z
  ·rename_i c' d' UG PN ho;have z:=(KX _ _ ho).symm.trans mx;cases z
  cases z
 ca:=λ{prog w A E Q s} KX x k=>by obtain⟨h,g,d,t,os⟩:=s;exact EG KX x c k
end
section
variable{t:TJ}
end
theorem PS.uI{t:TS}(h:PS X.uI st t):PS X st t:=λio s σ H D I hw =>
 wpAny_mono (h io s σ H D (I.uH _) hw) (λ_ _ q=>q.lA) λ_ _ z=>False.elim z
theorem av:lF (vH X.prog X.w) X E0:=λ_ _ _ _ _ _ _ h=>by obtain⟨_,_,_,_,_,_,_,q⟩:=h;exact q.elim
structure Def(P:Program)(w:World)(K:W.Frag)(mg:Str->Option Value)(base:Heap)(k:Nat)(x:Str)(ps:List Str)(sp:Sp):Prop where
 ex:∃(f:Addr)(fd:FuncData),eN P w K mg base (vH P w) k f fd ps sp/\mg x=some (.ref f)/\W.keepIn K (.ref f)=true/\Binds K fd ps []
section
variable{K:W.Frag}{base:Heap}
theorem Def.mono{j k:Nat}{x:Str}{ps:List Str}{sp:Sp}(D:Def P w K mg base j x ps sp)(h:j<=k):Def P w K mg base k x ps sp:=let⟨f,fd,a,r⟩:=D.ex;⟨f,fd,a.mono h,r⟩
structure aN(K:W.Frag)(mg:Str->Option Value)(x:Str)(st:Stmt):Prop where
 ex:∃(f:Addr)(fd:FuncData),uM K x x st f fd/\mg x=some (.ref f)
theorem aN.mk'{kV pm bj ct:Value}(KX:K.In h)(G:h.Ns mainGlobals mg)(a:W.nsIn K mainGlobals x=some (some (.ref f)))(l:K.lookup f=some ⟨oc,od,.func (W.fnOf x x (cq st) (bp st) (aI st) .none kV doc pm an bj ct),CT⟩)(c:W.codeIn K bj x=true)(k:W.keepIn K (.ref f)=true):aN K mg x st:=⟨f,_,nQ l c k,W.mg_of KX G a⟩
abbrev P8(P:Program)(w:World)(K:W.Frag)(mg:Str->Option Value)(base:Heap)(N:List Str)(x:Str)(st:Stmt)(f:Addr)(bj:Value)(A:Around)(outer:List Env)(s:Shared)(H:Hp)(E:XK):Cx :=
 CQ (vH P w) P w K mg base N x (aI st) f bj A outer s H E
theorem aN.def(F:aN K mg x st)(S:aU N ps (aI st))(hb:∀(kV doc pm:Value)(an:Option Addr)(bj ct:Value)(us:List Value),us.length=ps.length->bindArgs (W.fnOf x x (cq st) (bp st) (aI st) .none kV doc pm an bj ct) ⟨us,[]⟩=pure (ps.zip us))(len:∀vs H Q E,sp vs H Q E->vs.length=ps.length)(rj:∀(f:Addr)(bj:Value)(A:Around)(outer:List Env)(s:Shared)(H:Hp)(vs:List V)(Q:VK)(E:XK),dq k (A.deeper (envOfC x (aI st) s.heap.objs.size f bj))->sp vs H Q E ->
   ∃t,Dc (P8 P w K mg base N x st f bj A outer s H E) (bp st) t/\t { nx:=λ_ H'=>Q .bu H',rt:=Q } (start N vs) H):Def P w K mg base (k+1) x ps sp:=by
 obtain⟨f,fd,F1,hm⟩:=F.ex;have b:=F1.binds hb;have kp:=F1.kp;obtain⟨oc,od,kV,doc,pm,an,bj,ct,CT,rfl,lk,xq⟩:=F1.ex;exact⟨f,_,D5 lk xq S len λA outer s H vs Q E hr Dd=>rj f bj A outer s H vs Q E hr Dd,hm,kp,b⟩
end
section
variable{E:XK}{p:Pos}
theorem aa(D:Def X.prog X.w X.K X.mg X.base k x ps sp)(hr:dq k X.A)(hx:lF (vH X.prog X.w) X E)(ha:PA X (e::es) t)(hg:Gl X x:=by rfl)(GU:(x==("__debug__":Str))=false:=by decide)(he:starEach (e::es) X.env=(false,eval e X.env)::starEach es X.env:=by rfl)(zW:(backTo pos (starEach es X.env)).any (·.1)=false:=by rfl):
  PE X (.Call (.Name x p) (e::es) [] pos) (I0 sp [] E t):=by
 obtain⟨f,fd,F,hm,hk,hb⟩:=D.ex;exact GS F hr hg hm hk hb .nil hx ha GU he zW
end
section
def JE(K:W.Frag):R2:=λx y H Q=>∃l b xs zs,x=.ref l/\y=.ref b/\aV K H l xs/\aV K H b zs/\xs.length+zs.length<=sizeLine/\∀p,H p=none->Q (.ref p) (upd H p (.lst (xs++zs)))
theorem Gg:jg X (binaryOp .Add) (JE X.K):=by
 intro io s σ H x y v u Q I rx ry h;obtain⟨l,b,xs,zs,rfl,rfl,hH,hB,hz,q⟩:=h;cases rx;cases ry;obtain⟨aS,r,pl,_⟩:=I.list hH;obtain⟨ik,r2,UJ,_⟩:=I.list hB;obtain⟨⟨cls,dd,data,sl⟩,ho,hc,n,hd⟩:=id pl.isList;obtain⟨⟨J8,De,data2,F7⟩,CU,D6,n2,hd2⟩:=id UJ.isList;simp only at hc hd D6 hd2;subst hc hd D6 hd2;have e:aS.toArray++ik.toArray=(aS++ik).toArray:=by simp
 have hsz:aS.toArray.size+ik.toArray.size<=sizeLine:=by rw[size_toArray,size_toArray,<-r.length,<-r2.length];exact hz
 refine concat_meets ⟨_,ho,rfl⟩ ⟨_,CU,rfl⟩ noFill_list_add seq_list_add PySem.F.slot_list_add PySem.F.entry_list_add (PySem.F.args_list_add_2 _ _) (list_addW l b aS.toArray ik.toArray n n2 dd De sl F7 hsz) ⟨ho,CU,?_⟩;rw[e];exact⟨.ref _,_,I.Mn (t':=s.toks) (r.append r2) (by rw[length_append];exact hz),rfl,q _ I.fresh⟩
def Mw:V->Value->Prop
 |.ty n,c=>c=.type n
 |.ref a,c=>c=.ref a
 |_,_=>False
theorem EI{v:V}{c u:Value}(h:Mw v c)(r:RelV v u):u=c:=by
 cases v with
 |ty n=>exact(show u=Value.type n from r).trans (show c=Value.type n from h).symm
 |ref a=>exact(show u=Value.ref a from r).trans (show c=Value.ref a from h).symm
 |_=>exact h.elim
inductive P9(K:W.Frag)(H:Hp):V->Value->Prop where
 |of{x:V} {t:Value}:ph K H x t->P9 K H x t
 |exc {a C:Addr}:H a=some (.ext (ExcAt a C))->nU K C->P9 K H (.ref a) (.ref C)
def Mx(K:W.Frag):List V->Hp->VK->Prop:=λxs H Q=>∃x y t c b,xs=[x,y]/\Mw y c/\P9 K H x t/\W.kitOne K t c=some b/\Q (.bl b) H
theorem EJ:cH X (.builtin "isinstance") (Mx X.K):=by
 intro io s σ H vs us Q I rv h;obtain⟨x,y,t,c,b,rfl,hc,ty,e,q⟩:=h;obtain⟨u,v,rfl,ru,rA⟩:=rv.two;obtain rfl:=EI hc rA;cases ty with
 |of ty=>exact CP I ru ty e λtk=>⟨.bl b,H,I.tok _,rfl,q⟩
 |exc ex ec =>
  cases ru;exact W.kia_one (EH ec) I.qZ (I.bE _ _ ex).1 e (λz=>nomatch z) λtk=>⟨.bl b,H,I.tok _,rfl,q⟩
end
theorem KU(K:W.Frag){e1 e2:Expr}{p:Pos}(hm:X.mg "isinstance"=none)(ha:PA X [e1,e2] t)(hK:X.K=K:=by rfl)(hg:Gl X "isinstance":=by rfl)(he:starEach [e1,e2] X.env=(false,eval e1 X.env)::starEach [e2] X.env:=by rfl)(zW:(backTo pos (starEach [e2] X.env)).any (·.1)=false:=by rfl):
  PE X (.Call (.Name "isinstance" p) [e1,e2] [] pos) (Pq (Mx K) t):=by
 subst hK;exact aT EJ hg hm boot_isinstance ha (by decide) (by decide) he zW
def vI(K:W.Frag):Sp:=λvs H Q _=>∃(a:Addr)(ns:List Int),vs=[.ref a]/\aV K H a (ns.map V.int)/\ns.length<=63/\∀H',Q (.bl true) H'
section
variable{K:W.Frag}{base:Heap}
theorem uM.UK(F:uM K x x st f fd)(S:aU N ps (aI st))(len:∀vs H Q E,sp vs H Q E->vs.length=ps.length)(rj:∀(f:Addr)(bj:Value)(A:Around)(outer:List Env)(s:Shared)(H:Hp)(vs:List V)(Q:VK)(E:XK),dq k (A.deeper (envOfC x (aI st) s.heap.objs.size f bj))->sp vs H Q E ->
   ∃t,Dc (P8 P w K mg base N x st f bj A outer s H E) (bp st) t/\t { nx:=λ_ H'=>Q .bu H',rt:=Q } (start N vs) H):eN P w K mg base (vH P w) (k+1) f fd ps sp:=by
 obtain⟨oc,od,kV,doc,pm,an,bj,ct,CT,rfl,lk,xq⟩:=F.ex;exact D5 lk xq S len λA outer s H vs Q E hr Dd=>rj f bj A outer s H vs Q E hr Dd
theorem EK(S:aN K mg "law" st)(hb:∀(kV doc pm:Value)(an:Option Addr)(bj ct:Value)(us:List Value),us.length=1->bindArgs (W.fnOf "law" "law" (cq st) (bp st) (aI st) .none kV doc pm an bj ct) ⟨us,[]⟩=pure ((["script"]:List Str).zip us))(KN:mg "law"=some (.ref fa))(hF:∀(f:Addr)(fd:FuncData)(base:Heap),uM K "law" "law" st f fd->eN P w K mg base (vH P w) k f fd ["script"] (vI K)):
  ∃fd:FuncData,(∀(s:Shared)(u:Value),BindsTo s fd ⟨[u],[]⟩ [("script",u)])/\∀base:Heap,K.In base->base.Ns mainGlobals mg->eN P w K mg base (vH P w) k fa fd ["script"] (vI K):=by
 obtain⟨f,fd,F,hm⟩:=S.ex;rw[KN]at hm;cases hm;refine⟨fd,?_,λbase _ _=>hF fa fd base F⟩;obtain⟨oc,od,kV,doc,pm,an,bj,ct,CT,rfl,lk,xq⟩:=F.ex;exact λs u=>.of_eq (hb kV doc pm an bj ct [u] rfl)
end
theorem EL{l:W.OpenLaw}{K:Params->W.Frag}(hr:dq k callerA)(hn:l.most=some 63)(Mp:d.params.defaults=[])(hY:∀(w:World)(h:Heap),YP w h->(K w.params).In h)(F:∀(w:World)(mg:Str->Option Value)(fa:Addr)(h:Heap),(K w.params).In h->h.Ns mainGlobals mg->mg d.name=some (.ref fa) ->
   ∃fd:FuncData,(∀(s:Shared)(u:Value),BindsTo s fd ⟨[u],[]⟩ [("script",u)]) /\
    ∀base:Heap,(K w.params).In base->base.Ns mainGlobals mg->eN l.prog w (K w.params) mg base (vH l.prog w) k fa fd ["script"] (vI (K w.params))):
  W.WalkO q loose XP YP l.row.toRowW d [] (λf vs=>PySem.call f vs) :=
 Gf (n:=63) (k:=k) (x:="script") (CX:=λw=>vH l.prog w) (sp:=λw=>vI (K w.params)) hn (by decide) Mp hr hY F (λ_ _ a ns hl _ hS=>⟨a,ns,rfl,hS,hl,λ_=>rfl⟩)
  λ_ _ _ _ _ h=>by obtain⟨_,_,_,_,_,_,_,q⟩:=h;exact q.elim
theorem mO{n:Int}(h:∃tk,X.mg x=some (.int n tk))(hg:Gl X x:=by rfl)(hd:(x==("__debug__":Str))=false:=by decide):PE X (.Name x pos) (tC (.int n)):=by obtain⟨tk,e⟩:=h;exact GJ hg e ⟨tk,rfl⟩ hd
theorem cB{p A B:Prop}[Decidable p](hp:¬p)(h:B):if decide p=true then A else B:=by rw[decide_eq_false hp];exact gf h
theorem bx{p A B:Prop}[Decidable p](hp:p)(h:A):if decide p=true then A else B:=by rw[decide_eq_true hp];exact eO h
theorem fz{p A B:Prop}[Decidable p](hp:p)(h:B):if(!decide p)=true then A else B:=by rw[decide_eq_true hp];exact gf h
theorem gh{p A B:Prop}[Decidable p](hp:¬p)(h:A):if(!decide p)=true then A else B:=by rw[decide_eq_false hp];exact eO h
theorem Gh{n:Int}(h:-(10 ^ 60)<=n)(h2:n<=10 ^ 60):n.natAbs<2 ^ 1000:=by
 have:n.natAbs<=10 ^ 60:=by lia
 exact Nat.lt_of_le_of_lt this (by decide)
theorem aH.put(s:aH H H')(hp:H p=none):aH H (upd H' p o):=λb u e=>by rw[aM (aq e hp)];exact s b u e
theorem aH.new(s:aH H H')(hp:H' p=none):aH H (upd H' p o):=s.put (s.free hp)
theorem all_true(n:Nat):(List.range n).all (λ_=>true)=true:=by simp
section
theorem ir(r:ae xs aS)(j:Nat)(h:j<aS.toArray.size):∃x,xs[j]?=some x/\RelV x aS.toArray[j]:=by
 have hj:j<aS.length:=by simpa using h
 have hl:=r.length;have hx:xs[j]?=some xs[j]:=by simp[show j<xs.length by lia]
 obtain⟨u,hu,ru⟩:=r.get hx;refine⟨_,hx,?_⟩;have e:aS.toArray[j]=u:=by
  have:=hu;rw[getElem?_eq_getElem hj]at this
  simpa using Option.some.inj this
 rw[e];exact ru
end
section
theorem cu(hr:dq k A):A.units+16<cLine:=by have:=hr.un;lia
theorem EM:cH X (.builtin "all") (λxs H Q=>∃(p:Addr)(bs:List Bool),X.calm=true/\xs=[.ref p]/\aV X.K H p (bs.map V.bl)/\Q (.bl (bs.all id)) H):=by
 intro io s σ H xs us Q I r h;obtain⟨p,bs,hc,rfl,hq,q⟩:=h;obtain⟨u,rfl,rx⟩:=vals1 r;cases rx;obtain⟨aS,r1,p1,_⟩:=I.list hq;have l1:=r1.length;rw[length_map]at l1;refine call_all_walk (wpAny_pyIter_list p1.isList ?_);have yP:p≠s.heap.objs.size:=by obtain⟨o,n,ho,_⟩:=p1;exact ne_of_lt (Heap.lt_size ho)
 refine⟨_,_,_,aS.toArray.size,_,_,λi=>bs.getD i true,rfl,Walks.list (A:=X.A.in1) (I.ok.hd hc) s.heap.objs.size p yP aS.toArray,?_,?_,λh' tk kp=>?_⟩
 ·exact⟨⟨_,Heap.get?_push_size _ rfl,rfl,rfl⟩,p1.isList.at λo e=>Heap.get?_push_of_some _ e⟩
 ·intro i v s' Q' E' hv hQ;have hi:i<aS.length:=by have:=hv;simp only[List.getElem?_toArray]at this;exact(List.getElem?_eq_some_iff.mp this).1
  have hb:(bs.map V.bl)[i]?=some (V.bl bs[i]):=by simp[show i<bs.length by lia]
  obtain⟨u,hu,ru⟩:=r1.get hb;have e:u=v:=by simp only[List.getElem?_toArray]at hv;rw[hu]at hv;exact Option.some.inj hv
  subst e;cases ru;refine wpAny_truthy_bool ?_;have e2:bs.getD i true=bs[i]:=by simp[List.getD,show i<bs.length by lia]
  rw[<-e2];exact hQ
 have e:(List.range aS.toArray.size).all (λi=>bs.getD i true)=bs.all id:=by
  have hz:aS.toArray.size=bs.length:=by simp;lia
  rw[hz,Bool.eq_iff_iff];simp only[List.all_eq_true,List.mem_range,id];constructor
  ·intro h b hb;obtain⟨n,hn,rfl⟩:=List.getElem_of_mem hb;have:=h n hn
   simpa[List.getD,hn]using this
  intro h i hi;have:=h bs[i] (List.getElem_mem hi)
  simpa[List.getD,hi]using this
 rw[e];exact⟨.bl (bs.all id),H,I.kept (t':=tk) λb o eb=>kp b o (by
  intro z;have hb:b=s.heap.objs.size:=by simpa using z
  exact absurd (Heap.lt_size eb) (by rw[hb];exact lt_irrefl _)) (Heap.get?_push_of_some _ eb),rfl,q⟩
end
def BX(Nc:List Str)(ix:List (Option Nat))(scope sc:Scope)(N:List Str):Bool :=
 decide (scope.kind=.function)&&decide Nc.Nodup&&decide (ix.length=Nc.length) &&
 (scope.names.all λx=>decide (x.2=.local->scope.names.lookup x.1=some .local)) &&
 (scope.names.all λx=>decide (x.2=.free->sc.names.lookup x.1=some .cell\/sc.names.lookup x.1=some .free)) &&
 (scope.names.all λx=>decide (x.2=.free->(x.1,NameKind.cell)∉scope.names)) &&
 ((ix.zip Nc).all λp=>match p.1 with|none=>true|some j=>decide (N[j]?=some p.2/\scope.names.lookup p.2=some .free))
theorem bR(sc:Scope)(N:List Str)(yQ:X.env.scope=sc)(hN:X.N=N)(h:BX Nc ix scope sc N=true):dX X Nc ix scope:=by
 subst yQ hN;simp only[BX,Bool.and_eq_true,decide_eq_true_eq,List.all_eq_true]at h;obtain⟨⟨⟨⟨⟨⟨h1,h2⟩,h3⟩,h4⟩,h5⟩,h6⟩,h7⟩:=h;refine⟨h1,h2,h3,h4,h5,λx hx=>h6 _ hx rfl,λi j x e1 e2=>?_⟩;have hm:(some j,x)∈ix.zip Nc:=by refine List.mem_iff_getElem?.mpr ⟨i,?_⟩;rw[List.getElem?_zip_eq_some];exact⟨e1,e2⟩
 have:=h7 _ hm
 simpa using this
section
variable{K:W.Frag}{Q:VK}
theorem dE(Pv:Nat->St->Hp->Prop)(h0:Pv 0 σ H)(hl:∀i σ H,i<=xs.length->Pv i σ H->aV K H a xs)(hs:∀(i:Nat)(x:V)(σ:St)(H:Hp)(N:St->Hp->Prop),(∀σ H,Pv (i+1) σ H->N σ H)->xs[i]?=some x->Pv i σ H->g x σ H λσ3 H3=>tt σ3 H3 λb H4 =>
   if b=true then te σ3 H4 λv H5=>∃ys,H5 D=some (.lst ys)/\ys.length<sizeLine/\N σ3 (upd H5 D (.lst (ys++[v])))else N σ3 H4)(hd:∀σ H,Pv xs.length σ H->Q (.ref D) H):
  r9 (Lf K a) g tt te D σ H Q:=by
 refine⟨λi m σ H=>m=xs.length-i/\i<=xs.length/\Pv i σ H,⟨xs.length,by simp,zero_le _,h0⟩,?_⟩;rintro i m σ' H' ⟨rfl,hi,p⟩;have q:=hl i σ' H' hi p;by_cases cN:i<xs.length
 ·refine .inr ⟨⟨xs,xs[i],q,by simp[cN]⟩,λx H2 y=>?_⟩;obtain⟨e,y⟩:=y;subst e;exact hs i x σ' _ (λσ3 H3=>∃m',m'<xs.length-i/\m'=xs.length-(i+1)/\i+1<=xs.length/\Pv (i+1) σ3 H3) (λσ3 H3 z=>⟨xs.length-(i+1),by lia,rfl,cN,z⟩) (y xs q) p
 have e:i=xs.length:=by lia
 subst e;exact .inl ⟨⟨xs,q,le_refl _⟩,hd σ' H' p⟩
theorem sE{lo:Int}(Pv:Nat->St->Hp->Prop)(h0:Pv 0 σ H)(hs:∀(i:Nat)(σ:St)(H:Hp)(N:St->Hp->Prop),(∀σ H,Pv (i+1) σ H->N σ H)->i<n->Pv i σ H->g (.int (lo+i)) σ H λσ3 H3=>tt σ3 H3 λb H4 =>
   if b=true then te σ3 H4 λv H5=>∃ys,H5 D=some (.lst ys)/\ys.length<sizeLine/\N σ3 (upd H5 D (.lst (ys++[v])))else N σ3 H4)(hd:∀σ H,Pv n σ H->Q (.ref D) H):
  r9 (Iw lo n) g tt te D σ H Q:=by
 refine⟨λi m σ H=>m=n-i/\i<=n/\Pv i σ H,⟨n,by simp,zero_le _,h0⟩,?_⟩;rintro i m σ' H' ⟨rfl,hi,p⟩;by_cases cN:i<n
 ·refine .inr ⟨cN,λx H2 y=>?_⟩;obtain⟨e,y⟩:=y;subst e y;exact hs i σ' _ (λσ3 H3=>∃m',m'<n-i/\m'=n-(i+1)/\i+1<=n/\Pv (i+1) σ3 H3) (λσ3 H3 z=>⟨n-(i+1),by lia,rfl,cN,z⟩) cN p
 have e:i=n:=by lia
 subst e;exact .inl ⟨le_refl _,hd σ' H' p⟩
end
theorem gF{y:V}(h:(ns.map V.int)[i]?=some y):∃z,ns[i]?=some z/\y=V.int z:=by
 rw[getElem?_map]at h;cases e:ns[i]? with
 |none=>rw[e]at h;cases h
 |some z=>rw[e]at h;exact⟨z,rfl,(Option.some.inj h).symm⟩
theorem take_succ{α:Type}{l:List α}{i:Nat}{x:α}(h:l[i]?=some x):l.take (i+1)=l.take i++[x]:=by rw[List.take_succ,h];rfl
theorem cO{x:V}{A B:St->Hp->Prop}(h:A (σ.set i (some x)) H):lB i x σ H λσ3 H3=>Mt σ3 H3 λb H4=>if b=true then A σ3 H4 else B σ3 H4:=by show if true=true then A (σ.set i (some x)) H else B (σ.set i (some x)) H;exact eO h
section
theorem Inv.Gi(I:Inv X io σ H s)(k:∀b o,b∉ch->s.heap.get? b=some o->h'.get? b=some o)(hf:∀b∈ch,pY X io H b):Inv X io σ H { s with heap:=h',toks:=t' }:=by
 have My:∀b u,H b=some u->b∉ch:=λb u e z=>by rw[(hf b z).1]at e;cases e
 refine I.Dm (s':={ s with heap:=h',toks:=t' }) (ch:=ch) rfl ⟨λb o e _ _ hx=>k b o hx e,λb o e _ _ hx=>⟨o.slots,k b o hx e⟩,λ_ _ _ n _=>n,λb o e hx=>⟨o,k b o hx e⟩,λ_ _ e=>e,λ_ _ _ e=>e,λb ps e=>⟨#[],by rw[e];simp⟩⟩ ?_ I.bare λb hb=>?_
 ·intro b o e;refine(I.bE b o e).ko (λc u hc q=>k c u ?_ q) (λ_ q=>q) λ_ _ q=>q;rcases hc with z|z
  ·rw[z];exact My b o e
  exact My c _ z
 obtain⟨_,q1,_,q3,q4,q5⟩:=hf b hb;exact⟨q3,q1,q4,q5⟩
theorem Inv.Cc{T:Addr}(I:Inv X io σ H s)(k:∀b o,b∉ch->s.heap.get? b=some o->h'.get? b=some o)(hf:∀b∈ch,pY X io H b)(hT:s.heap.objs.size<=T)(new:bH X.prog X.w (upd H T o) h' T o):Inv X io σ (upd H T o) { s with heap:=h',toks:=t' }:=by
 have My:∀b u,H b=some u->b∉ch:=λb u e z=>by rw[(hf b z).1]at e;cases e
 have hn:=I.bE.fresh hT;have old:∀b u,s.heap.get? b=some u->b≠T:=λb u e=>ne_of_lt (lt_of_lt_of_le (Heap.lt_size e) hT);refine I.Dm (s':={ s with heap:=h',toks:=t' }) (ch:=ch) rfl ⟨λb o e _ _ hx=>k b o hx e,λb o e _ _ hx=>⟨o.slots,k b o hx e⟩,λb u e n _=>by rw[aM (old b u e)];exact n,λb o e hx=>⟨o,k b o hx e⟩,
  λb xs e=>by rw[aM (aq e hn)];exact e,λb o u e=>by rw[aM (aq e hn)];exact e,λb ps e=>⟨#[],by rw[aM (aq e hn),e];simp⟩⟩ ?_ I.bare λb hb=>?_
 ·intro b u e;by_cases hb:b=T
  ·subst hb;rw[aC]at e;cases e;exact new
  rw[aM hb]at e;refine(I.bE b u e).ko (λc v hc q=>k c v ?_ q) (λc q=>by rw[aM (aq q hn)];exact q) λc xs q=>by rw[aM (aq q hn)];exact q
  rcases hc with z|z
  ·rw[z];exact My b u e
  exact My c _ z
 obtain⟨_,q1,_,q3,q4,q5⟩:=hf b hb;exact⟨q3,q1,q4,q5⟩
end
section
theorem KW{j:Nat}{px:Pos}(hc:X.calm=true)(hN:X.N.Nodup)(hi:X.N[i]?=some x)(hj:X.N[j]?=some y)(lx:Loc X.env.scope x)(ly:Loc X.env.scope y)(fx:X.fn x=true\/X.env.scope.names.lookup x=some .local:=by first|exact .inl rfl|exact .inr rfl)(fy:X.fn y=true\/X.env.scope.names.lookup y=some .local:=by first|exact .inl rfl|exact .inr rfl)(hs:(assignEach [.Name x px,.Name y py] X.env).map (·.2)=[assign (.Name x px) X.env,assign (.Name y py) X.env]:=by rfl)(vx:(assignEach [.Name y py] X.env).map (·.2)=[assign (.Name y py) X.env]:=by rfl)(QA:(assignEach [] X.env).map (·.2)=[]:=by rfl)(hn:(assignEach [.Name x px,.Name y py] X.env).length=2:=by rfl)(zV:(assignEach [.Name x px,.Name y py] X.env).findIdx? (·.1)=none:=by rfl):
  PG X (.Tuple [.Name x px,.Name y py] k pos) (GL X.K 2 (x8 (lB i) (x8 (lB j) Jq))) :=
 je hc (ak (aO hN hi lx fx) (ak (aO hN hj ly fy) fF (by rw[vx,QA])) (by rw[hs,vx])) hn zV
end
section
variable{K:W.Frag}{Q:VK}
end
section
end
def wM(n:Nat)(f:Nat->V):List V:=(List.range n).map f
abbrev uO(n:Nat)(f:Nat->Addr):List V:=wM n λj=>V.ref (f j)
theorem Gj(n:Nat)(f:Nat->V):(wM n f).length=n:=by simp[wM]
theorem Gk{f:Nat->V}(h:i<n):(wM n f)[i]?=some (f i):=by simp[wM,h]
section
variable{K:W.Frag}{Q:VK}
end
theorem lH(ns:List Int)(lo hi:Option Int):∃as:List Int,kq (ns.map V.int) lo hi=as.map V.int/\(∀a∈as,a∈ns)/\as.length<=ns.length:=by
 refine⟨(ns.drop (HT.dt (ns.map V.int).length 0 lo)).take (HT.dt (ns.map V.int).length (ns.map V.int).length hi-HT.dt (ns.map V.int).length 0 lo),?_,λa ha=>List.mem_of_mem_drop (List.mem_of_mem_take ha),?_⟩
 ·unfold kq;rw[List.map_take,List.map_drop]
 rw[length_take,List.length_drop];lia
end L2
namespace L2
open PySem PySem.Spec PyProof.Rows
variable{X:Cx}{st:Stmt}{t:TA}{tg e b value:Expr}{tl to te ta tb tv:TE}{i:Nat}{x name f:Str}{y v:V}{pos apos cv pos' p:Pos}{o:Option V}{T:String}{r:V->List V->Hp->VK->Prop}{es rest values:List Expr}{prog P:Program}{w:World}{A:Around}{E Q:Value->Shared->Prop}{s:Shared}{items:Array Value}{g:List Value->List Value->List Value}{tt:TT}{D a dx C:Addr}{σ:St}{H H':Hp}{mg mA:Str->Option Value}{ps:List Str}{xs:List (List Key×Addr×Value)}{io:List (Addr×Obj)}{h h':Heap}{fs:List (Str×V)}{u:Value}{fd:FuncData}{sp:Sp}{uD:List V}{ds more:List Value}{ks keys:List (Option Expr)}{Tr:List Keyword}{nm:Option Str}{gV:List V->List V->List V}{lw:List (List Key×V)}{vs:List (Key×Value)}{Gs:List (TE×TE)}
def QB(t:TS):TS:=λD σ H=>∃R:St->Hp->Prop,t { D with nx:=R } σ H/\∀σ' H',R σ' H'->D.nx σ' H'
theorem p9{t:TS}(h:PS X st t):PS X st (QB t):=by
 intro io s σ H D I ⟨R,h1,h2⟩;refine wpAny_mono (h io s σ H { D with nx:=R } I h1) (λf s' q=>?_) λ_ _ z=>z
 cases f with
 |next=>obtain⟨σ',H',I',q⟩:=q;exact⟨σ',H',I',h2 σ' H' q⟩
 |brk=>exact q
 |cont=>exact q
 |ret u=>exact q
section
variable(K:W.Frag)
theorem aJ(hK:X.K=K:=by rfl):Mf X (Mg K):=by subst hK;exact Ga
theorem aP(hK:X.K=K:=by rfl):Mf X (Mh K):=by subst hK;exact KD
theorem gk(hK:X.K=K:=by rfl):Md X (Mj K):=by subst hK;exact Gb
theorem bL(hK:X.K=K:=by rfl):cH X (.builtin "len") (λxs H Q=>∃p ys,xs=[.ref p]/\(aV K H p ys\/ab K H p ys)/\Q (.int ys.length) H):=by subst hK;exact wH
theorem gn(hK:X.K=K:=by rfl):cH X (.type "list") (λxs H Q=>∃p ys,xs=[.ref p]/\(aV K H p ys\/ab K H p ys)/\∀l,H l=none->Q (.ref l) (upd H l (.lst ys))):=by subst hK;exact wI
theorem Cd(hc:X.calm=true)(hK:X.K=K:=by rfl):cH X (.builtin "all") (λxs H Q=>∃(p:Addr)(bs:List Bool),xs=[.ref p]/\aV K H p (bs.map V.bl)/\Q (.bl (bs.all id)) H):=by subst hK;intro io s σ H xs us Q I r ⟨p,ns,h1,h2,h3⟩;exact EM io s σ H xs us Q I r ⟨p,ns,hc,h1,h2,h3⟩
theorem fG(hK:X.K=K:=by rfl):jg X (binaryOp .Add) (JE K):=by subst hK;exact Gg
theorem a9{l:Expr}(hl:PE X l tl)(hK:X.K=K:=by rfl):PI X tg l (Iy K tl):=by subst hK;exact GN hl
theorem fH{j:Nat}{y:Str}{px py:Pos}{k:Nat}(hc:X.calm=true)(hN:X.N.Nodup)(hi:X.N[i]?=some x)(hj:X.N[j]?=some y)(lx:Loc X.env.scope x)(ly:Loc X.env.scope y)(hK:X.K=K:=by rfl)(fx:X.fn x=true\/X.env.scope.names.lookup x=some .local:=by first|exact .inl rfl|exact .inr rfl)(fy:X.fn y=true\/X.env.scope.names.lookup y=some .local:=by first|exact .inl rfl|exact .inr rfl)(hs:(assignEach [.Name x px,.Name y py] X.env).map (·.2)=[assign (.Name x px) X.env,assign (.Name y py) X.env]:=by rfl)(vx:(assignEach [.Name y py] X.env).map (·.2)=[assign (.Name y py) X.env]:=by rfl)(QA:(assignEach [] X.env).map (·.2)=[]:=by rfl)(hn:(assignEach [.Name x px,.Name y py] X.env).length=2:=by rfl)(zV:(assignEach [.Name x px,.Name y py] X.env).findIdx? (·.1)=none:=by rfl):
  PG X (.Tuple [.Name x px,.Name y py] k pos) (GL K 2 (x8 (lB i) (x8 (lB j) Jq))):=by
 subst hK;exact KW hc hN hi hj lx ly fx fy hs vx QA hn zV
theorem BY{o:Expr}{id:String}(pa:PlainAttrs T)(slot:Slot T name id)(KH:typeOf (.builtin id)=pure (.type "method_descriptor"))(hm:OW X id r)(ho:PE X o to)(hK:X.K=K:=by rfl)(rm:attributeBase o name X.env (eval o X.env)=eval o X.env:=by rfl)(rn:(apos.endLine==cv.line)=true:=by rfl):PE X (.Call (.Attribute o name apos) [] [] cv) (Ml K T r to):=by subst hK;exact KG pa slot KH hm ho rm rn
theorem jq{o:Expr}{id:String}(pa:PlainAttrs T)(slot:Slot T name id)(KH:typeOf (.builtin id)=pure (.type "method_descriptor"))(hm:OW X id r)(ho:PE X o to)(ha:PA X (e::es) t)(hK:X.K=K:=by rfl)(rm:attributeBase o name X.env (eval o X.env)=eval o X.env:=by rfl)(KI:((backTo cv (starEach (e::es) X.env)).all (λx=>!x.1)&&(backToKw cv (keywordEach [] X.env)).all (λx=>x.1.isSome)
   && decide ((e::es).length+([]:List Keyword).length+(if([]:List Keyword).isEmpty then 0 else 1)<30))=true:=by rfl)(rn:(apos.endLine==cv.line)=true:=by rfl)(hs:starEach (e::es) X.env=(false,eval e X.env)::starEach es X.env:=by rfl)(AH:(backTo cv (starEach es X.env)).any (·.1)=false:=by rfl):
  PE X (.Call (.Attribute o name apos) (e::es) [] cv) (Rr K T r to t):=by subst hK;exact Mm pa slot KH hm ho ha rm KI rn hs AH
end
section
end
section
theorem eX{it t:Addr}{x:Value}(hit:s.heap.IsTupleIter it t i)(ht:s.heap.IsTuple t items)(hx:items[i]?=some x)(hQ:∀h',h'.IsTupleIter it t (i+1)->Heap.SameBut it s.heap h'->Q x { s with heap:=h' }):wpAny (model prog w) A (Builtin.SmallTypes.nextOf (.ref it)) Q E s:=by obtain⟨o,ho,hc,hd⟩:=id hit;obtain⟨u,hu,_,m,du⟩:=ht;unfold Builtin.SmallTypes.nextOf;refine f8 (wpAny_callSpecial?_slot (name:=Str.ofString "__next__") hit.typeIs F.slot_tuple_iterator_next (wpAny_call_entry F.slot_tuple_iterator_next hit.typeIs F.entry_tuple_iterator_next ?_ (F.args_tuple_iterator_next_1 _)));refine(show wpAny _ _ (field (.ref it) 0 >>= _) _ _ s from f8 (wpAny_field ho hd (x:=.ref t) rfl ?_));refine(show wpAny _ _ (if(Value.ref t==Value.none)=true then _ else _) _ _ s from ?_);rw[if_neg (by exact Bool.false_ne_true)];refine(show wpAny _ _ (field (.ref it) 1 >>= _) _ _ s from f8 (wpAny_field ho hd (x:=.int i 0) rfl ?_));refine(show wpAny _ _ (seqItems? (.ref t) >>= _) _ _ s from f8 (wpAny_seqItems hu du ?_));simp only[hx,Int.toNat_natCast];refine f8 (wpAny_setField ho hd (by simp) (im ⟨x,rfl,im (hQ _ ⟨_,Heap.get?_update_self _ ho (Obj.isFreed_of_fields (Obj.data_mapFields hd _)),(Obj.cls_mapFields ..).trans hc,?_⟩ (Heap.SameBut.update ..))⟩));rw[Obj.data_mapFields hd];simp[rawInt]
end
section
end
section
end
section
variable{K:W.Frag}{g:TG}{Q:VK}
end
section
variable{K:W.Frag}{g:TG}{Q:VK}
end
section
variable{K:W.Frag}{base:Heap}
def QC:Sp:=λ_ _ _ _=>False
theorem aN.no{N:List Str}(F:aN K mg x st)(S:aU N ps (aI st))(hb:∀(kV doc pm:Value)(an:Option Addr)(bj ct:Value)(us:List Value),us.length=ps.length->bindArgs (W.fnOf x x (cq st) (bp st) (aI st) .none kV doc pm an bj ct) ⟨us,[]⟩=pure (ps.zip us)):Def P w K mg base 1 x ps QC :=
 F.def S hb (λ_ _ _ _ h=>h.elim) λ_ _ _ _ _ _ _ _ _ _ h=>h.elim
end
theorem aH.tup{K:W.Frag}{xs:List V}(e:aH H H')(h:ab K H a xs):ab K H' a xs:=by
 rcases h with(h|⟨o,h⟩)|h
 ·exact .inl (.inl (e _ _ h))
 ·exact .inl (.inr ⟨o,e _ _ h⟩)
 exact .inr h
theorem vJ:PS X st (λ_ _ _=>False):=λ_ _ _ _ _ _ h=>h.elim
theorem Mz:PE X e (λ_ _ _=>False):=λ_ _ _ _ _ _ h=>h.elim
section
theorem AI{t sl:Addr}{vl vu:Value}{lo hi:Option Int}(ht:IsTup s.heap t items)(hs:s.heap.IsSliceOf sl vl vu .none)(pl:IsPart vl lo)(pu:IsPart vu hi)(h1:HT.dt items.size 0 lo=0)(h2:HT.dt items.size items.size hi=items.size)(h:Q (.ref t) s):wpAny (model prog w) A (getItem (.ref t) (.ref sl)) Q E s:=by
 obtain⟨os,oR,KA,F8⟩:=id hs;have Mb:s.TypeIs (.ref sl) "slice":=⟨os,oR,KA⟩;unfold getItem
 try with_reducible refine wpAny_holding ?_
 first|refine f8 (im ?_)|skip
 refine f8 (wpAny_sequenceKey ht.typeIs (by decide) (f8 (wpAny_callSpecial?_slot (name:=Str.ofString "__getitem__") ht.typeIs PyProof.Rows.slot_tuple_getitem (wpAny_call_entry PyProof.Rows.slot_tuple_getitem ht.typeIs PyProof.Rows.entry_tuple_getitem ?_ (PyProof.Rows.args_tuple_getitem _ _)))));refine(show wpAny _ _ (Builtin.Tuple.tupleItemsOf (.ref t) >>= _) _ _ s from f8 (PyProof.Rows.tupleItemsOf_ ht (f8 (wpAny_typeOf Mb ?_))));rw[if_pos (by decide)];refine f8 (HT.jT hs pl pu ?_);rw[h1,h2,Nat.sub_zero];refine(show wpAny _ _ (if((((0:Nat):Int)==0)&&(1:Int)==1&&items.size==items.size)=true then _ else _) _ _ s from ?_);rw[if_pos (by simp)];refine f8 ?_;unfold Builtin.Tuple.tupleIsExact;refine f8 (wpAny_typeOf ht.typeIs (im ?_));rw[if_pos (by decide)]
 first
  |exact f8 (wpAny_rule (im ⟨_,rfl,im h⟩))
  |exact f8 (wpAny_rule (f8 (im (im ⟨_,rfl,im h⟩))))
  |exact f8 (f8 (wpAny_rule (im (im ⟨_,rfl,im h⟩))))
end
section
def QD(K:W.Frag):V->Option Int->Option Int->Hp->VK->Prop:=λx lo hi H Q=>∃a xs,x=.ref a/\ab K H a xs/\∀r H',aH H H'->ab K H' r (kq xs lo hi)->Q (.ref r) H'
theorem mP(K:W.Frag)(hK:X.K=K:=by rfl):Md X (QD K):=by
 subst hK;intro io s σ H x v vl vu lo hi sl Q I rx hs pl pu h;obtain⟨a,xs,rfl,hx,q⟩:=h;by_cases hw:HT.dt xs.length 0 lo=0/\HT.dt xs.length xs.length hi=xs.length
 ·cases rx;obtain⟨aS,r,ht,hz⟩:=I.tuple hx;have o0:aS.toArray.size=xs.length:=by rw[size_toArray];exact r.length.symm
  refine⟨"tuple",_,PyProof.Rows.slot_tuple_getitem.lookup,ht.typeIs,?_⟩;refine AI ht hs pl pu (by rw[o0];exact hw.1) (by rw[o0];exact hw.2) ?_;refine⟨.ref a,H,I,rfl,q a H (aH.refl _) ?_⟩;have e:kq xs lo hi=xs:=by unfold kq;rw[hw.1,hw.2,List.drop_zero,Nat.sub_zero,take_length]
  rw[e];exact hx
 exact KC io s σ H (.ref a) v vl vu lo hi sl Q I rx hs pl pu ⟨a,xs,rfl,hx,hw,λp hp=>q p _ ((aH.refl _).new hp) (ab.of aC)⟩
def M0(K:W.Frag):R2:=λx y H Q=>∃a b xs ys,x=.ref a/\y=.ref b/\ab K H a xs/\ab K H b ys/\xs.length+ys.length<=sizeLine/\∀r H',aH H H'->ab K H' r (xs++ys)->Q (.ref r) H'
theorem BZ(K:W.Frag)(hK:X.K=K:=by rfl):jg X (binaryOp .Add) (M0 K):=by
 subst hK;intro io s σ H x y v u Q I rx ry h;obtain⟨a,b,xs,ys,rfl,rfl,hx,hy,hz,q⟩:=h;by_cases he:xs=[]
 ·subst he;cases rx;cases ry;obtain⟨aS,r,ht,_⟩:=I.tuple hx;obtain⟨ik,r2,Ba,_⟩:=I.tuple hy;cases r;obtain⟨⟨cls,dd,data,sl⟩,ho,hc,n,hd⟩:=id ht;obtain⟨⟨J8,De,data2,F7⟩,CU,D6,n2,hd2⟩:=id Ba;simp only at hc hd D6 hd2;subst hc hd D6 hd2;refine concat_meets ⟨_,ho,rfl⟩ ⟨_,CU,rfl⟩ PySem.noFill_tuple_add PySem.seq_tuple_add PySem.F.slot_tuple_add PySem.F.entry_tuple_add (PySem.F.args_tuple_add_2 _ _) (tuple_addW0 a b _ ik.toArray n n2 dd De sl F7 (by simp)) ⟨ho,CU,?_⟩;exact⟨.ref b,H,I,rfl,q b H (aH.refl _) hy⟩
 refine GY io s σ H (.ref a) (.ref b) v u Q I rx ry ⟨a,b,xs,ys,rfl,rfl,hx,hy,he,hz,?_⟩;by_cases hw:ys=[]
 ·subst hw
  first
   |exact⟨λ_=>q a H (aH.refl _) (by rw[List.append_nil];exact hx),λz=>absurd rfl z⟩
   |exact .inl ⟨rfl,q a H (aH.refl _) (by rw[List.append_nil];exact hx)⟩
 first
  |exact⟨λz=>absurd z hw,λ_ p hp=>q p _ ((aH.refl _).new hp) (ab.of aC)⟩
  |exact .inr ⟨hw,λp hp=>q p _ ((aH.refl _).new hp) (ab.of aC)⟩
theorem Ce(K:W.Frag)(hc:X.calm=true)(hK:X.K=K:=by rfl):cH X (.builtin "any") (λxs H Q=>∃(p:Addr)(bs:List Bool),xs=[.ref p]/\aV K H p (bs.map V.bl)/\Q (.bl (bs.any id)) H):=by
 subst hK;intro io s σ H xs us Q I r h;obtain⟨p,bs,rfl,hq,q⟩:=h;obtain⟨u,rfl,rx⟩:=vals1 r;cases rx;obtain⟨aS,r1,p1,_⟩:=I.list hq;have l1:=r1.length;rw[length_map]at l1;refine call_any_walk (wpAny_pyIter_list p1.isList ?_);have yP:p≠s.heap.objs.size:=by obtain⟨o,n,ho,_⟩:=p1;exact ne_of_lt (Heap.lt_size ho)
 refine⟨_,_,_,aS.toArray.size,_,_,λi=>bs.getD i true,rfl,Walks.list (A:=X.A.in1) (I.ok.hd hc) s.heap.objs.size p yP aS.toArray,?_,?_,λh' tk kp=>?_⟩
 ·exact⟨⟨_,Heap.get?_push_size _ rfl,rfl,rfl⟩,p1.isList.at λo e=>Heap.get?_push_of_some _ e⟩
 ·intro i v s' Q' E' hv hQ;have hi:i<aS.length:=by have:=hv;simp only[List.getElem?_toArray]at this;exact(List.getElem?_eq_some_iff.mp this).1
  have hb:(bs.map V.bl)[i]?=some (V.bl bs[i]):=by simp[show i<bs.length by lia]
  obtain⟨u,hu,ru⟩:=r1.get hb;have e:u=v:=by simp only[List.getElem?_toArray]at hv;rw[hu]at hv;exact Option.some.inj hv
  subst e;cases ru;refine wpAny_truthy_bool ?_;have e2:bs.getD i true=bs[i]:=by simp[List.getD,show i<bs.length by lia]
  rw[<-e2];exact hQ
 have e:(List.range aS.toArray.size).any (λi=>bs.getD i true)=bs.any id:=by
  have hz:aS.toArray.size=bs.length:=by simp;lia
  rw[hz,Bool.eq_iff_iff];simp only[List.any_eq_true,List.mem_range,id];constructor
  ·rintro⟨i,hi,hb⟩;exact⟨bs[i],List.getElem_mem hi,by simpa[List.getD,hi]using hb⟩
  rintro⟨b,hb,UL⟩;obtain⟨n,hn,rfl⟩:=List.getElem_of_mem hb;exact⟨n,hn,by simpa[List.getD,hn]using UL⟩
 rw[e];exact⟨.bl (bs.any id),H,I.kept (t':=tk) λb o eb=>kp b o (by
  intro z;have hb:b=s.heap.objs.size:=by simpa using z
  exact absurd (Heap.lt_size eb) (by rw[hb];exact lt_irrefl _)) (Heap.get?_push_of_some _ eb),rfl,q⟩
end
inductive yR(K:W.Frag)(H:Hp):Nat->V->V->Prop where
 |flat {n:Nat} (x:V):kZ x=true->yR K H n x x
 |same {n:Nat} (a:Addr):yR K H n (.ref a) (.ref a)
 |lst {n:Nat} {a b:Addr} {xs ys:List V} (ha:aV K H a xs) (hb:aV K H b ys) (hl:xs.length=ys.length) (h:∀(j:Nat)(x y:V),xs[j]?=some x->ys[j]?=some y->yR K H n x y):yR K H (n+1) (.ref a) (.ref b)
 |tup {n:Nat} {a b:Addr} {xs ys:List V} (ha:ab K H a xs) (hb:ab K H b ys) (hl:xs.length=ys.length) (h:∀(j:Nat)(x y:V),xs[j]?=some x->ys[j]?=some y->yR K H n x y):yR K H (n+1) (.ref a) (.ref b)
theorem EN:∀(x:V),kZ x=true->AF x x=true
 |.bu,_=>rfl
 |.bl b,_=>by simp[AF]
 |.int i,_=>by simp[AF]
 |.str z,_=>by simp[AF]
 |.ref _,h=>absurd h (by intro z;cases z)
 |.ty _,h=>absurd h (by intro z;cases z)
section
theorem Gm(I:Inv X io σ H s){n:Nat}{x:V}(h:yR X.K H n x y):∀{A:Around}{u v:Value},A.units+n<cLine->RelV x u->RelV y v->SeqAt.EqAt A s u v true:=by
 induction h with
 |flat x fx=>intro A u v _ ru rv;have:=wF (A:=A) (s:=s) ru rv fx fx;rwa [EN x fx]at this
 |same a=>intro A u v _ ru rv;cases ru;cases rv;exact SeqAt.EqAt.same _
 |@lst n a b xs ys ha hb hl h ih =>
  intro A u v hu ru rv;cases ru;cases rv;by_cases zX:a=b
  ·subst zX;exact SeqAt.EqAt.same _
  obtain⟨aS,r1,p1,_⟩:=I.list ha;obtain⟨ik,r2,p2,_⟩:=I.list hb;have l1:=r1.length;have l2:=r2.length;refine SeqAt.EqAt.of_refs zX ?_;have q:=SeqAt.RcAt.lists (A:=A) (s:=s) (e:=λ_=>true) p1.isList p2.isList (by simp;lia) (by lia) λj h1 h2=>?_
  ·rw[all_true]at q;exact q
  obtain⟨x,hx,rx⟩:=ir r1 j h1;obtain⟨y,hy,ry⟩:=ir r2 j h2;exact ih j x y hx hy (A:=A.in1) (by show A.units+1+n<cLine;lia) rx ry
 |@tup n a b xs ys ha hb hl h ih =>
  intro A u v hu ru rv;cases ru;cases rv;by_cases zX:a=b
  ·subst zX;exact SeqAt.EqAt.same _
  obtain⟨aS,r1,p1,_⟩:=I.tuple ha;obtain⟨ik,r2,p2,_⟩:=I.tuple hb;have l1:=r1.length;have l2:=r2.length;refine SeqAt.EqAt.of_refs zX ?_;have q:=SeqAt.RcAt.tuples (A:=A) (s:=s) (e:=λ_=>true) (show s.heap.IsTuple a aS.toArray from p1) (show s.heap.IsTuple b ik.toArray from p2) (by lia) λj h1 h2=>?_
  ·rw[all_true,Bool.true_and,show(aS.toArray.size==ik.toArray.size)=true by simp;lia]at q;exact q
  obtain⟨x,hx,rx⟩:=ir r1 j h1;obtain⟨y,hy,ry⟩:=ir r2 j h2;exact ih j x y hx hy (A:=A.in1) (by show A.units+1+n<cLine;lia) rx ry
end
section
def QE(K:W.Frag)(neg:Bool):R2:=λx y H Q=>∃a b xs ys,x=.ref a/\y=.ref b/\aV K H a xs/\aV K H b ys /\
 ((xs.length=ys.length/\(∀(j:Nat)(u v:V),xs[j]?=some u->ys[j]?=some v->yR K H 8 u v)/\Q (.bl (!neg)) H)\/(xs.length≠ys.length/\Q (.bl neg) H))
theorem Bb(K:W.Frag)(hu:X.A.units+16<cLine)(hK:X.K=K:=by rfl):jg X (compareOp .Eq) (QE K false):=by
 subst hK;intro io s σ H x y v u Q I rx ry h;obtain⟨a,b,xs,ys,rfl,rfl,ha,hb,h⟩:=h;cases rx;cases ry;obtain⟨aS,r1,p1,_⟩:=I.list ha;obtain⟨ik,r2,p2,_⟩:=I.list hb;have l1:=r1.length;have l2:=r2.length;rcases h with⟨hl,he,q⟩|⟨hl,q⟩
 ·refine SeqAt.eq_listAt (e:=λ_=>true) p1.isList p2.isList (by simp;lia) (by lia) (λj h1 h2=>?_) ?_
  ·obtain⟨x,hx,rx⟩:=ir r1 j h1;obtain⟨y,hy,ry⟩:=ir r2 j h2;exact Gm I (he j x y hx hy) (A:=X.A.in1) (by show X.A.units+1+8<cLine;lia) rx ry
  rw[all_true];exact⟨.bl true,H,I,rfl,q⟩
 refine SeqAt.eq_list_lengthsAt p1.isList p2.isList (by simp;lia) (by lia) ?_;exact⟨.bl false,H,I,rfl,q⟩
theorem oa(K:W.Frag){l:Expr}(hl:PE X l tl)(hK:X.K=K:=by rfl):PI X tg l (ML K tl):=by subst hK;exact Jw hl
theorem dY(K:W.Frag)(hK:X.K=K:=by rfl):cH X (.type "tuple") (λxs H Q=>∃p ys,xs=[.ref p]/\((aV K H p ys/\∀l,H l=none->Q (.ref l) (upd H l (.tup ys)))\/(ab K H p ys/\Q (.ref p) H))):=by subst hK;exact uL
end
section
variable{K:W.Frag}{g:TG}{Q:VK}
theorem AJ{xs:List V}(Pv:Nat->St->Hp->Prop)(h0:Pv 0 σ H)(hl:∀i σ H,i<=xs.length->Pv i σ H->ab K H a xs)(hs:∀(i:Nat)(x:V)(σ:St)(H:Hp)(N:St->Hp->Prop),(∀σ H,Pv (i+1) σ H->N σ H)->xs[i]?=some x->Pv i σ H->g x σ H λσ3 H3=>tt σ3 H3 λb H4 =>
   if b=true then te σ3 H4 λv H5=>∃ys,H5 D=some (.lst ys)/\ys.length<sizeLine/\N σ3 (upd H5 D (.lst (ys++[v])))else N σ3 H4)(hd:∀σ H,Pv xs.length σ H->Q (.ref D) H):r9 (Lg K a) g tt te D σ H Q:=by
 refine⟨λi m σ H=>m=xs.length-i/\i<=xs.length/\Pv i σ H,⟨xs.length,by simp,zero_le _,h0⟩,?_⟩;rintro i m σ' H' ⟨rfl,hi,p⟩;have q:=hl i σ' H' hi p;by_cases cN:i<xs.length
 ·refine .inr ⟨⟨xs,xs[i],q,by simp[cN]⟩,λx H2 y=>?_⟩;obtain⟨e,y⟩:=y;subst e;exact hs i x σ' _ (λσ3 H3=>∃m',m'<xs.length-i/\m'=xs.length-(i+1)/\i+1<=xs.length/\Pv (i+1) σ3 H3) (λσ3 H3 z=>⟨xs.length-(i+1),by lia,rfl,cN,z⟩) (y xs q) p
 have e:i=xs.length:=by lia
 subst e;exact .inl ⟨⟨xs,q,le_refl _⟩,hd σ' H' p⟩
end
theorem vK:∀{ns:List Int}{aS:List Value},ae (ns.map V.int) aS->∃ps:List (Int×Tok),aS=ps.map (λq=>Value.int q.1 q.2)/\ps.map (·.1)=ns
 |[],_,.nil=>⟨[],rfl,rfl⟩
 |n::ns,_,.cons r rr=>by obtain⟨t,rfl⟩:=r;obtain⟨ps,rfl,e⟩:=vK rr;exact⟨(n,t)::ps,rfl,by rw[List.map_cons,e]⟩
section
theorem Cf(hc:X.calm=true):cH X (.builtin "min") (λxs H Q=>∃(p:Addr)(ns:List Int),xs=[.ref p]/\aV X.K H p (ns.map V.int)/\ns≠[]/\∀M,M∈ns->(∀a∈ns,M<=a)->Q (.int M) H):=by
 intro io s σ H xs us Q I r h;obtain⟨p,ns,rfl,hq,yP,q⟩:=h;obtain⟨u,rfl,rx⟩:=vals1 r;cases rx;obtain⟨aS,r1,p1,_⟩:=I.list hq;obtain⟨ps,rfl,QF⟩:=vK r1;have hh:X.A.handled=none:=I.ok.hd hc;have hsz:0<ps.length:=by
  rcases ps with _|⟨a,b⟩
  ·exact absurd QF.symm yP
  simp
 refine min_intList (xs:=ps.toArray) hh (by simpa[intItems]using p1.isList) (by simpa using hsz) λv h' tk hv hk=>?_;obtain⟨t,rfl⟩:=intItems_at hv;obtain⟨h1,h2⟩:=argBest_lt (numAt ps.toArray) (ps.toArray.size-1);refine⟨.int _,H,I.kept (t':=tk) hk,⟨t,rfl⟩,q _ ?_ λa ha=>?_⟩
 ·rw[<-QF,numAt_eq];exact getD_mem (by simp at h1 ⊢;lia)
 rw[<-QF]at ha;obtain⟨j,hj,rfl⟩:=mem_getD ha;rw[length_map]at hj;have:=h2 j (by simp;lia);rw[numAt_eq,numAt_eq]at this;rw[numAt_eq];exact this
def QG(K:W.Frag):List V->Hp->VK->Prop:=λxs H Q=>∃(p:Addr)(ns:List Int),xs=[.ref p]/\aV K H p (ns.map V.int)/\ns≠[]/\∀M,M∈ns->(∀a∈ns,M<=a)->Q (.int M) H
theorem Cg(K:W.Frag)(hc:X.calm=true:=by rfl)(hK:X.K=K:=by rfl):cH X (.builtin "min") (QG K):=by subst hK;exact Cf hc
end
section
variable(P:Program)(w:World)
end
section
variable{o:HO}
end
section
variable{x e:Addr}{o':HO}
end
section
variable{fs PK ex Tc:List Addr}{H1 H2:Hp}{h1 h2:Heap}{x e:Addr}{o:HO}
end
section
variable{σ:List (Option V)}
end
section
variable{a:Expr}
variable{tA MF:TT}
end
section
variable{xs ys:List V}
end
section
end
section
variable{rest:List Stmt}{t u:TS}
end
section
end
section
end
section
end
section
variable{a c:Expr}{tc:TE}
end
section
variable{a c:Expr}{tc:TE}
end
section
variable{K:W.Frag}{x f:Addr}{v:Value}
end
section
variable{PK:List (Str×V)}
end
section
end
section
variable{o:Expr}{GR:Pos}
end
section
variable{c:Value}{b:Bool}
end
section
end
section
variable{s':Shared}
end
section
variable{CX:z8}{k:Nat}{f:Addr}{E:XK}{m:Str}{o:Expr}
end
section
variable{CX:z8}{k:Nat}{f:Addr}{ks:List Str}{E:XK}{m:Str}{Po:Pos}{o:Expr}{tk:TA}
end
section
variable{id:String}{r:List V->Hp->VK->Prop}
end
section
variable{κ:Type}[DecidableEq κ]
def fY(lw:List (κ×V))(k:κ):Option V:=(lw.find? λkv=>decide (kv.1=k)).map (·.2)
def lv(lw:List (κ×V))(k:κ)(v:V):List (κ×V) :=
 if(lw.any λkv=>decide (kv.1=k))=true then lw.map (λkv=>if kv.1=k then(kv.1,v)else kv)else lw++[(k,v)]
def sF(lw:List (κ×V))(k:κ):List (κ×V):=lw.filter λkv=>decide (kv.1≠k)
theorem sG{p:κ×V}{r:List (κ×V)}{k:κ}(e:p.1=k):fY (p::r) k=some p.2:=by simp[fY,List.find?_cons,e]
theorem sH{p:κ×V}{r:List (κ×V)}{k:κ}(e:¬p.1=k):fY (p::r) k=fY r k:=by simp[fY,List.find?_cons,e]
theorem yS(k:κ):∀lw:List (κ×V),(lw.any λkv=>decide (kv.1=k))=(fY lw k).isSome
 |[]=>rfl
 |p::r=>by
  rw[List.any_cons];by_cases e:p.1=k
  ·simp only[sG e,decide_eq_true e,Bool.true_or,Option.isSome_some]
  rw[sH e,decide_eq_false e,Bool.false_or];exact yS k r
theorem iV(lw:List (κ×V))(k:κ)(v:V):(lv lw k v).length<=lw.length+1:=by
 unfold lv;split
 ·rw[length_map];lia
 rw[length_append,length_cons,List.length_nil];lia
theorem gY.dZ{u:Option Value}(r:gY o u):o.isSome=u.isSome:=by
 cases o with
 |none=>cases u with
  |none=>rfl
  |some _=>exact(show False from r).elim
 |some _=>cases u with
  |none=>exact(show False from r).elim
  |some _=>rfl
theorem gY.getD{o:Option V}{u:Option Value}{d:V}{d':Value}(r:gY o u)(rd:RelV d d'):RelV (o.getD d) (u.getD d'):=by
 cases o with
 |none=>cases u with
  |none=>exact rd
  |some _=>exact(show False from r).elim
 |some _=>cases u with
  |none=>exact(show False from r).elim
  |some _=>exact r
theorem KV.val{lw:List (κ×V)}{vs:List (κ×Value)}(r:KV lw vs)(k:κ):gY (fY lw k) (valueAt vs k):=by
 unfold KV at r
 induction r with
 |nil=>exact True.intro
 |@cons p q ps qs h t ih =>
  obtain⟨h1,h2⟩:=h;by_cases e:p.1=k
  ·have e':q.1=k:=h1.symm.trans e;have b:valueAt (q::qs) k=some q.2:=(by simp[valueAt,List.find?_cons,e']);rw[sG e,b];exact h2
  have e':¬q.1=k:=λz=>e (h1.trans z);have b:valueAt (q::qs) k=valueAt qs k:=by simp[valueAt,List.find?_cons,e']
  rw[sH e,b];exact ih
theorem KV.any{lw:List (κ×V)}{vs:List (κ×Value)}(r:KV lw vs)(k:κ):(lw.any λkv=>decide (kv.1=k))=vs.any λkv=>decide (kv.1=k):=by
 unfold KV at r
 induction r with
 |nil=>rfl
 |cons h t ih=>rw[List.any_cons,List.any_cons,ih,h.1]
theorem KV.EO{lw:List (κ×V)}{vs:List (κ×Value)}(r:KV lw vs)(k:κ)(ry:RelV y u):
  KV (lw.map λkv=>if kv.1=k then(kv.1,y)else kv) (vs.map λkv=>if kv.1=k then(kv.1,u)else kv):=by
 unfold KV at r ⊢
 induction r with
 |nil=>exact .nil
 |@cons p q ps qs h t ih =>
  rw[List.map_cons,List.map_cons];refine .cons ?_ ih;obtain⟨h1,h2⟩:=h;by_cases e:p.1=k
  ·rw[if_pos e,if_pos (h1.symm.trans e)];exact⟨h1,ry⟩
  rw[if_neg e,if_neg (λz=>e (h1.trans z))];exact⟨h1,h2⟩
theorem KV.put{lw:List (κ×V)}{vs:List (κ×Value)}(r:KV lw vs)(k:κ)(ry:RelV y u):KV (lv lw k y) (stored vs k u):=by
 unfold lv stored;rw[r.any k];by_cases e:(vs.any λkv=>decide (kv.1=k))=true
 ·rw[if_pos e,if_pos e];exact r.EO k ry
 rw[if_neg e,if_neg e];exact Paired.snoc r ⟨rfl,ry⟩
theorem KV.drop{lw:List (κ×V)}{vs:List (κ×Value)}(r:KV lw vs)(k:κ):KV (sF lw k) (without vs k):=by
 unfold KV at r ⊢;unfold sF without
 induction r with
 |nil=>exact .nil
 |@cons p q ps qs h t ih =>
  obtain⟨h1,h2⟩:=h;rw[List.filter_cons,List.filter_cons];by_cases e:p.1=k
  ·have a:¬decide (p.1≠k)=true:=(by simp[e]);have b:¬decide (q.1≠k)=true:=(by simp[h1.symm.trans e]);rw[if_neg a,if_neg b];exact ih
  have e':¬q.1=k:=λz=>e (h1.trans z);have a:decide (p.1≠k)=true:=by simp[e]
  have b:decide (q.1≠k)=true:=by simp[e']
  rw[if_pos a,if_pos b];exact .cons ⟨h1,h2⟩ ih
theorem KV.length{lw:List (κ×V)}{vs:List (κ×Value)}(r:KV lw vs):lw.length=vs.length:=Paired.length r
theorem ER(lw:List (κ×V))(k:κ):(sF lw k).length<=lw.length:=List.length_filter_le _ _
end
theorem kc{k:Key}(r:RelV (kV k) u):(aY P w).is k u=true:=by
 cases k with
 |inl i=>obtain⟨t,e⟩:=(show ∃t,u=Value.int i t from r);subst e;exact qX P w i t
 |inr x=>obtain⟨t,e⟩:=(show ∃t,u=Value.str x t from r);subst e;exact qY P w x t
theorem vL{P:Program}{w:World}:∀{ks:List Key}{us:List Value},ae (ks.map kV) us->ItemsAre (aY P w) ks us
 |[],_,r=>by rw[List.map_nil]at r;cases r;exact .nil
 |k::ks,_,r=>by
  rw[List.map_cons]at r;cases r with
  |cons h t=>exact .cons (kc h) (vL t)
abbrev KT(H:Hp):List (List Key×V)->List (List Key×Addr×Value)->Prop:=Paired λp q=>p.1=q.1/\H q.2.1=some (.tup (p.1.map kV))/\RelV p.2 q.2.2
theorem KT.val(r:KT H lw xs)(k:List Key):gY (fY lw k) ((atKey xs k).map (·.2)):=by
 induction r with
 |nil=>exact True.intro
 |@cons p q ps qs h t ih =>
  obtain⟨h1,_,h2⟩:=h;by_cases e:p.1=k
  ·have e':q.1=k:=h1.symm.trans e;have b:atKey (q::qs) k=some q.2:=(by simp[atKey,List.find?_cons,e']);rw[sG e,b];exact h2
  have e':¬q.1=k:=λz=>e (h1.trans z);have b:atKey (q::qs) k=atKey qs k:=by simp[atKey,List.find?_cons,e']
  rw[sH e,b];exact ih
theorem KT.EO(r:KT H lw xs)(k:List Key)(ry:RelV y u):
  KT H (lw.map λkv=>if kv.1=k then(kv.1,y)else kv) (xs.map (putAt k u)):=by
 induction r with
 |nil=>exact .nil
 |@cons p q ps qs h t ih =>
  rw[List.map_cons,List.map_cons];refine .cons ?_ ih;obtain⟨h1,h2,h3⟩:=h;unfold putAt;by_cases e:p.1=k
  ·rw[if_pos e,if_pos (h1.symm.trans e)];exact⟨h1,h2,ry⟩
  rw[if_neg e,if_neg (λz=>e (h1.trans z))];exact⟨h1,h2,h3⟩
theorem KT.put(r:KT H lw xs)(k:List Key){b:Addr}(hb:H b=some (.tup (k.map kV)))(ry:RelV y u):
  KT H (lv lw k y) (storedH xs k b u):=by
 have e:(lw.any λkv=>decide (kv.1=k))=(atKey xs k).isSome:=by rw[yS,(r.val k).dZ,Option.isSome_map]
 unfold lv storedH;rw[e];by_cases q:(atKey xs k).isSome=true
 ·rw[if_pos q,if_pos q];exact r.EO k ry
 rw[if_neg q,if_neg q];exact Paired.snoc r ⟨rfl,hb,ry⟩
theorem KT.keeps(r:KT H lw xs)(ht:∀b ys,H b=some (.tup ys)->H' b=some (.tup ys)):KT H' lw xs :=
 Paired.Jh r λ_ _ z=>⟨z.1,ht _ _ z.2.1,z.2.2⟩
section
theorem JF{u:HO}(ok:nM P w H h)(e:Rd H a u):bH P w H h a u:=e.ok ok
theorem qf{lw:List (Key×V)}(ok:nM P w H h)(e:Rd H a (.dK lw)):lw.length<=sizeLine/\(a==sysModules)=false/\∃vs,KV lw vs/\h.DictOf (aY P w) a vs :=
 show bH P w H h a (.dK lw)from JF ok e
theorem Bc{lw:List (Key×V)}(ok:nM P w H h)(e:H a=some (.dK lw)):lw.length<=sizeLine/\(a==sysModules)=false/\∃vs,KV lw vs/\h.DictOf (aY P w) a vs:=qf ok (.inl e)
theorem nV{ks:List Key}(ok:nM P w H h)(e:H a=some (.tup (ks.map kV))):(tupleKind (aY P w)).is h ks a:=by obtain⟨_,aS,r,o,h1,h2,n,h3⟩:=(show bH P w H h a (.tup (ks.map kV))from ok a _ e);exact⟨o,aS.toArray,n,h1,h2,h3,by simpa using vL r⟩
theorem qg(ok:nM P w H h)(e:Rd H a (.dT lw)):lw.length<=sizeLine/\(a==sysModules)=false /\
  ∃xs,KT H lw xs/\h.DictOfH (tupleKind (aY P w)) a xs:=by
 obtain⟨z,y,xs,r,o,es,ep,h1,h2,h3,h4,h5⟩:=(show bH P w H h a (.dT lw)from JF ok e);refine⟨z,y,xs,r,o,es,ep,h1,h2,h3,h4,λx hx=>?_,h5⟩;have all:∀{l:List (List Key×V)}{m:List (List Key×Addr×Value)},KT H l m->∀x∈m,(tupleKind (aY P w)).is h x.1 x.2.1:=by
  intro l m q
  induction q with
  |nil=>intro x hx;exact nomatch hx
  |@cons p q ps qs hq t ih =>
   intro x hx;rcases mem_cons.mp hx with e|hx
   ·subst e;exact nV ok (by rw[<-hq.1];exact hq.2.1)
   exact ih x hx
 exact all r x hx
theorem M3(ok:nM P w H h)(e:H a=some (.dT lw)):lw.length<=sizeLine/\(a==sysModules)=false /\
  ∃xs,KT H lw xs/\h.DictOfH (tupleKind (aY P w)) a xs:=qg ok (.inl e)
end
def bh(H:Hp)(a:Addr)(y:V)(r:Option V):Prop :=
 (∃lw k,Rd H a (.dK lw)/\y=kV k/\r=fY lw k)\/∃lw k b,Rd H a (.dT lw)/\y=.ref b/\H b=some (.tup (k.map kV))/\r=fY lw k
def Ci(H:Hp)(a:Addr)(y v:V)(H':Hp):Prop :=
 (∃lw k,H a=some (.dK lw)/\y=kV k/\lw.length<sizeLine/\H'=upd H a (.dK (lv lw k v))) \/
 ∃lw k b,H a=some (.dT lw)/\y=.ref b/\H b=some (.tup (k.map kV))/\lw.length<sizeLine/\H'=upd H a (.dT (lv lw k v))
theorem bh.k{H:Hp}{a:Addr}{lw:List (Key×V)}{k:Key}(e:H a=some (.dK lw)):bh H a (kV k) (fY lw k):=.inl ⟨lw,k,.inl e,rfl,rfl⟩
theorem Ci.k{H:Hp}{a:Addr}{lw:List (Key×V)}{k:Key}{v:V}(e:H a=some (.dK lw))(hl:lw.length<sizeLine):Ci H a (kV k) v (upd H a (.dK (lv lw k v))):=.inl ⟨lw,k,e,rfl,hl,rfl⟩
section
variable{r:Value}
theorem Inv.OZ(I:Inv X io σ H s):sysModules<s.heap.objs.size:=by have h:mainGlobals<s.heap.objs.size:=(I.mod.glob.keeps I.bk).lt;exact Nat.lt_trans (by decide) h
theorem Cj(hu:A.units+1<cLine)(I:Inv X io σ H s)(g:bh H a y (some v))(ry:RelV y u)(h:∀w' s',Inv X io σ H s'->RelV v w'->Q w' s'):
  wpAny (model X.prog X.w) A (getItem (.ref a) u) Q E s:=by
 rcases g with⟨lw,k,e,ey,l⟩|⟨lw,k,b,e,ey,eb,l⟩
 ·subst ey;obtain⟨z,hd,vs,rel,dd⟩:=qf I.bE e;obtain⟨w',hw,rA⟩:=gY.some_of (v:=v) (o:=valueAt vs k) (by rw[l];exact rel.val k);exact wpAny_getItem_of (kc ry) dd.mapOf hw (h w' _ (I.tok _) rA)
 subst ey;cases(show u=Value.ref b from ry);obtain⟨z,hd,xs,rel,dd⟩:=qg I.bE e;obtain⟨w',hw,rA⟩:=gY.some_of (v:=v) (o:=(atKey xs k).map (·.2)) (by rw[l];exact rel.val k);obtain⟨p,hp,sJ⟩:=Option.map_eq_some_iff.mp hw;refine wpAny_getItem_heap (tupleKind_room_in1 hu) (nV I.bE eb) dd hp ?_;rw[sJ];exact h w' _ (I.tok _) rA
theorem QH(hu:A.units+1<cLine)(I:Inv X io σ H s)(g:bh H a y o)(ry:RelV y u)(h:∀s',Inv X io σ H s'->Q (.bool o.isSome) s'):
  wpAny (model X.prog X.w) A (compareOp .In u (.ref a)) Q E s:=by
 rcases g with⟨lw,k,e,ey,l⟩|⟨lw,k,b,e,ey,eb,l⟩
 ·subst ey;obtain⟨z,hd,vs,rel,dd⟩:=qf I.bE e;refine wpAny_in_of (kc ry) hd dd.mapOf ?_;rw[<-(rel.val k).dZ,<-l];exact h _ (I.tok _)
 subst ey;cases(show u=Value.ref b from ry);obtain⟨z,hd,xs,rel,dd⟩:=qg I.bE e;refine wpAny_in_heap (tupleKind_room_in1 hu) (nV I.bE eb) hd dd ?_;have q:=(rel.val k).dZ;rw[Option.isSome_map]at q;rw[<-q,<-l];exact h _ (I.tok _)
theorem Gn(hu:A.units+1<cLine)(I:Inv X io σ H s)(g:bh H a y o)(ry:RelV y u)(h:∀s',Inv X io σ H s'->Q (.bool (!o.isSome)) s'):
  wpAny (model X.prog X.w) A (compareOp .NotIn u (.ref a)) Q E s:=by
 rcases g with⟨lw,k,e,ey,l⟩|⟨lw,k,b,e,ey,eb,l⟩
 ·subst ey;obtain⟨z,hd,vs,rel,dd⟩:=qf I.bE e;refine wpAny_notIn_of (kc ry) hd dd.mapOf ?_;rw[<-(rel.val k).dZ,<-l];exact h _ (I.tok _)
 subst ey;cases(show u=Value.ref b from ry);obtain⟨z,hd,xs,rel,dd⟩:=qg I.bE e;refine wpAny_notIn_heap (tupleKind_room_in1 hu) (nV I.bE eb) hd dd ?_;have q:=(rel.val k).dZ;rw[Option.isSome_map]at q;rw[<-q,<-l];exact h _ (I.tok _)
theorem og{t':Nat}{ob:HO}(I:Inv X io σ H s)(mu:Lc (H a))(hs:Heap.SameBut a s.heap h')(he:∃q,h'.get? a=some q)(new:bH X.prog X.w (upd H a ob) h' a ob):
  Inv X io σ (upd H a ob) { s with heap:=h',toks:=t' } :=
 I.write (x:=a) (e:=a) mu (.inl rfl) (λb q hb z=>(hs.2 b hb).trans z) he new
theorem wN{lw:List (Key×V)}(z:lw.length<=sizeLine)(hd:(a==sysModules)=false)(rel:KV lw vs)(dd:h'.DictOf (aY P w) a vs):
  bH P w H' h' a (.dK lw):=⟨z,hd,vs,rel,dd⟩
theorem Ck{Q:Unit->Shared->Prop}(hu:A.units+1<cLine)(I:Inv X io σ H s)(g:Ci H a y v H')(ry:RelV y u)(rv:RelV v r)(h:∀s',Inv X io σ H' s'->Q () s'):
  wpAny (model X.prog X.w) A (setItem (.ref a) u r) Q E s:=by
 rcases g with⟨lw,k,e,ey,l,eH⟩|⟨lw,k,b,e,ey,eb,l,eH⟩
 ·subst ey eH;obtain⟨z,hd,vs,rel,dd⟩:=Bc I.bE e;have hz:vs.length<=sizeLine:=by rw[<-rel.length];exact z
  have hl:(lv lw k v).length<=sizeLine:=by have:=iV lw k v;lia
  refine wpAny_setItem_pairs (hsz:=hz) (kc ry) dd λh' Bd hs=>h _ ?_;have he:∃q,h'.get? a=some q:=let⟨q,_,_,hq,_⟩:=Bd;⟨q,hq⟩;exact og I (by rw[e];exact True.intro) hs he (wN hl hd (rel.put k rv) Bd)
 subst ey eH;cases(show u=Value.ref b from ry);obtain⟨z,hd,xs,rel,dd⟩:=M3 I.bE e;have hz:xs.length<=sizeLine:=by rw[<-Paired.length rel];exact z
 have hl:(lv lw k v).length<=sizeLine:=by have:=iV lw k v;lia
 refine wpAny_setItem_heap (hsz:=hz) (tupleKind_room_in1 hu) (nV I.bE eb) dd λh' Bd hs=>h _ ?_;obtain⟨q,es,ep,hq,h2,h3,h4,_,h5⟩:=Bd;refine og I (by rw[e];exact True.intro) hs ⟨q,hq⟩ ⟨hl,hd,_,(rel.put k eb rv).keeps λc ys ec=>?_,q,es,ep,hq,h2,h3,h4,h5⟩;rw[aM (kx ec e (λz=>nomatch z))]
 exact ec
end
section
variable{lw:List (Key×V)}{k:Key}
theorem M4(I:Inv X io σ H s)(e:H a=some (.dK lw))(ry:RelV (kV k) u)(l:fY lw k=some v)(hm:more=[]\/∃x,more=[x])(h:∀w' s',Inv X io σ (upd H a (.dK (sF lw k))) s'->RelV v w'->Q w' s'):wpAny (model X.prog X.w) A (call (.builtin "dict.pop") (.ref a::u::more)) Q E s:=by
 obtain⟨z,hd,vs,rel,dd⟩:=Bc I.bE e;obtain⟨w',hw,rA⟩:=gY.some_of (v:=v) (o:=valueAt vs k) (by rw[<-l];exact rel.val k);have hp:(keyPart u).isSome=true:=by
  cases k with
  |inl i=>obtain⟨t,q⟩:=(show ∃t,u=Value.int i t from ry);subst q;rfl
  |inr x=>obtain⟨t,q⟩:=(show ∃t,u=Value.str x t from ry);subst q;rfl
 have ha:argsOk "dict.pop" ⟨.ref a::u::more,[]⟩:=by
  rcases hm with q|⟨x,q⟩
  ·subst q;exact PySem.F.args_dict_pop_2 _ _
  subst q;exact PySem.F.args_dict_pop_3 _ _ _
 refine call_meetsIn PySem.F.slot_dict_pop dd.typeIs PySem.F.entry_dict_pop ha (meets_dict_pop_there (aY X.prog X.w) a (kc ry) more hm hp)
  ⟨vs,w',dd,by rw[<-rel.length];exact z,hw,λh' Bd hs=>h w' _ ?_ rA⟩
 have he:∃q,h'.get? a=some q:=let⟨q,_,_,hq,_⟩:=Bd;⟨q,hq⟩;exact og I (by rw[e];exact True.intro) hs he (wN (le_trans (ER lw k) z) hd (rel.drop k) Bd)
theorem KY{r:Value}(I:Inv X io σ H s)(e:H a=some (.dK lw))(ry:RelV (kV k) u)(l:fY lw k=none)(h:∀s',Inv X io σ H s'->Q r s'):
  wpAny (model X.prog X.w) A (call (.builtin "dict.pop") [.ref a,u,r]) Q E s:=by
 obtain⟨z,hd,vs,rel,dd⟩:=Bc I.bE e;have hn:valueAt vs k=none:=gY.none_of (by rw[<-l];exact rel.val k);have hp:(keyPart u).isSome=true:=by
  cases k with
  |inl i=>obtain⟨t,q⟩:=(show ∃t,u=Value.int i t from ry);subst q;rfl
  |inr x=>obtain⟨t,q⟩:=(show ∃t,u=Value.str x t from ry);subst q;rfl
 exact call_meetsIn PySem.F.slot_dict_pop dd.typeIs PySem.F.entry_dict_pop (PySem.F.args_dict_pop_3 _ _ _) (meets_dict_pop_default (aY X.prog X.w) a (kc ry) hd hp r) ⟨vs,dd,hn,h _ (I.tok _)⟩
end
def Gp(i:Expr):Prop:=∀ov iv,subscripted i false ov iv=operate [ov,iv] (getItem ov iv)
theorem wO{env:Env}{slice:Expr}{id:String}(hl:typeLookup (.type T) "__getitem__"=pure (some (.builtin id)))(hs:Gp slice)(h:wpAny (model prog w) A (eval value env) (λo s₁=>wpAny (model prog w) A (eval slice env) (λi s₂=>s₂.TypeIs o T/\wpAny (model prog w) A (getItem o i) Q E s₂) E s₁) E s):
  wpAny (model prog w) A (eval (.Subscript value slice pos) env) Q E s:=by
 refine Subscript_ (wpAny_mono h (λo s₁ h₁=>wpAny_mono h₁ (λi s₂ h₂=>?_) λ_ _ x=>x) λ_ _ x=>x);obtain⟨hT,h₂⟩:=h₂;unfold subscriptTail;refine f8 ?_;rw[getitemInPython_of_ne hT.not_modules];refine f8 (wpAny_specialOf hT hl ?_);have fin:wpAny (model prog w) A (subscripted slice false o i) (λr s₃=>wpAny (model prog w) A (letTemporaryGo value o r >>= λ_=>pure r) Q E s₃) E s₂:=by rw[hs o i];exact wpAny_operating (wpAny_mono h₂ (λr s₃ h₃=>f8 (wpAny_letTemporaryGo (im h₃))) λ_ _ x=>x)
 first
  |exact im (f8 fin)
  |exact f8 (im (f8 fin))
  |exact f8 fin
theorem yT(I:Inv X io σ H s)(g:bh H a y o):s.TypeIs (.ref a) "dict":=by
 rcases g with⟨lw,k,e,_,_⟩|⟨lw,k,b,e,_,_,_⟩
 ·obtain⟨_,_,vs,_,dd⟩:=qf I.bE e;exact dd.typeIs
 obtain⟨_,_,xs,_,dd⟩:=qg I.bE e;exact dd.typeIs
def M5(td ty:TE):TE:=λσ H Q=>td σ H λx H1=>ty σ H1 λy H2=>∃a v,x=.ref a/\bh H2 a y (some v)/\Q v H2
def QI(ty td:TE):TE:=λσ H Q=>ty σ H λy H1=>td σ H1 λx H2=>∃a o,x=.ref a/\bh H2 a y o/\Q (.bl o.isSome) H2
def Gq(ty td:TE):TE:=λσ H Q=>ty σ H λy H1=>td σ H1 λx H2=>∃a o,x=.ref a/\bh H2 a y o/\Q (.bl (!o.isSome)) H2
def M6(td ty tv:TE):TS:=λD σ H=>tv σ H λv H1=>td σ H1 λx H2=>ty σ H2 λy H3=>∃a H4,x=.ref a/\Ci H3 a y v H4/\D.nx σ H4
section
variable{o i:Expr}{GR:Pos}{td ty:TE}
theorem cC(hu:X.A.units+1<cLine)(ho:PE X o td)(hi:PE X i ty)(hs:Gp i):PE X (.Subscript o i pos) (M5 td ty):=by intro io s σ H Q I h;refine wO PySem.F.slot_dict_getitem.lookup hs (bI (ho io s σ H _ I h) λu s1 ⟨x,H1,I1,rx,q1⟩=>bI (hi io s1 σ H1 _ I1 q1) λiv s2 ⟨y,H2,I2,ry,a,v,ex,g,q2⟩=>?_);subst ex;obtain rfl:u=Value.ref a:=rx;exact⟨yT I2 g,Cj hu I2 g ry λw' s3 I3 rA=>⟨v,H2,I3,rA,q2⟩⟩
theorem sM(hu:X.A.units+1<cLine)(hi:PE X i ty)(ho:PE X o td):PC X .In i o (QI ty td):=by intro io s σ H Q I h;refine bI (hi io s σ H _ I h) λiv s1 ⟨y,H1,I1,ry,q1⟩=>bI (ho io s1 σ H1 _ I1 q1) λu s2 ⟨x,H2,I2,rx,a,ov,ex,g,q2⟩=>?_;subst ex;obtain rfl:u=Value.ref a:=rx;exact QH hu I2 g ry λs3 I3=>⟨.bl ov.isSome,H2,I3,rfl,q2⟩
theorem qA(hu:X.A.units+1<cLine)(hi:PE X i ty)(ho:PE X o td):PC X .NotIn i o (Gq ty td):=by intro io s σ H Q I h;refine bI (hi io s σ H _ I h) λiv s1 ⟨y,H1,I1,ry,q1⟩=>bI (ho io s1 σ H1 _ I1 q1) λu s2 ⟨x,H2,I2,rx,a,ov,ex,g,q2⟩=>?_;subst ex;obtain rfl:u=Value.ref a:=rx;exact Gn hu I2 g ry λs3 I3=>⟨.bl (!ov.isSome),H2,I3,rfl,q2⟩
theorem iW(hu:X.A.units+1<cLine)(ho:PE X o td)(hi:PE X i ty)(hv:PE X value tv)(hs:swapsWith value (some (.Subscript o i pos')) pos.line X.env=pure false):
  PS X (.Assign [.Subscript o i pos'] value pos) (M6 td ty tv):=by
 intro io s σ H D I h;refine wpAny_Assign_Subscript (bI (hv io s σ H _ I h) λr s1 ⟨v,H1,I1,rv,q1⟩=>bI (ho io s1 σ H1 _ I1 q1) λu s2 ⟨x,H2,I2,rx,q2⟩=>bI (hi io s2 σ H2 _ I2 q2) λiv s3 ⟨y,H3,I3,ry,a,H4,ex,g,q3⟩=>?_) hs;subst ex;obtain rfl:u=Value.ref a:=rx;exact Ck hu I3 g ry rv λs4 I4=>⟨σ,H4,I4,q3⟩
end
theorem yU(h:Heap)(hb:sysModules<h.objs.size):bH P w H (h.push { cls:=.type "dict",data:=.dict #[] }) h.objs.size (.dK []) :=
 ⟨zero_le _,beq_eq_false_iff_ne.mpr (Ne.symm (ne_of_lt hb)),[],.nil,Heap.DictOf.new h⟩
def KZ:TE:=λ_ H Q=>∀p,H p=none->Q (.ref p) (upd H p (.dK []))
section
theorem sQ:PE X (.Dict [] [] pos) KZ:=λio s σ H Q I h =>
 wpAny_Dict_empty ⟨.ref s.heap.objs.size,_,I.laid (a:=s.heap.objs.size) (o:=.dK []) (t':=s.toks) (λ_ _ q=>Heap.get?_push_of_some _ q) (le_refl _) (yU s.heap I.OZ),rfl,h _ (I.bE.fresh (le_refl _))⟩
end
def AK:List (TE×TE)->St->Hp->(List (V×V)->Hp->Prop)->Prop
 |[],_,H,Q=>Q [] H
 | (tk,tv)::r,σ,H,Q=>tk σ H λx H1=>tv σ H1 λy H2=>AK r σ H2 λps H3=>Q ((x,y)::ps) H3
abbrev VV:List (V×V)->List (Value×Value)->Prop:=Paired λp q=>RelV p.1 q.1/\RelV p.2 q.2
def Oa(X:Cx)(pos:Pos)(keys:List (Option Expr))(values:List Expr)(Gs:List (TE×TE)):Prop :=
 ∀(io:List (Addr×Obj))(s:Shared)(σ:St)(H:Hp)(Q:List (V×V)->Hp->Prop),Inv X io σ H s->AK Gs σ H Q ->
  wpAny (model X.prog X.w) X.A (evalPairs (pairTrees keys values X.env pos)) (λvs s'=>∃ps H',Inv X io σ H' s'/\VV ps vs/\Q ps H') X.xe s
theorem Gu:Oa X pos [] [] []:=λio s σ H Q I h=>pairTrees_nil_walk ⟨[],H,I,.nil,h⟩
theorem ES{k v:Expr}{vs:List Expr}{tk:TE}(hk:PE X k tk)(hv:PE X v tv)(hr:Oa X pos ks vs Gs):
  Oa X pos (some k::ks) (v::vs) ((tk,tv)::Gs):=λio s σ H Q I h =>
 pairTrees_cons_walk (bI (hk io s σ H _ I h) λu s1 ⟨x,H1,I1,rx,q1⟩=>bI (hv io s1 σ H1 _ I1 q1) λw2 s2 ⟨y,H2,I2,ry,q2⟩ =>
  bI (hr io s2 σ H2 _ I2 q2) λws s3 ⟨ps,H3,I3,rel,q3⟩=>⟨(x,y)::ps,H3,I3,.cons ⟨rx,ry⟩ rel,q3⟩)
def gp(lw more:List (Key×V)):List (Key×V):=more.foldl (λacc kv=>lv acc kv.1 kv.2) lw
theorem KV.merge:∀{more:List (Key×V)}{rs:List (Key×Value)}{lw:List (Key×V)}{vs:List (Key×Value)},KV more rs->KV lw vs->KV (gp lw more) (merged vs rs):=by
 intro more rs lw vs r;unfold KV at r
 induction r generalizing lw vs with
 |nil=>intro q;exact q
 |@cons p q ps qs h t ih =>
  intro r0;have e:KV (lv lw p.1 p.2) (stored vs q.1 q.2):=by have:=r0.put p.1 h.2;rw[<-h.1];exact this
  exact ih e
theorem mz:∀(more lw:List (Key×V)),(gp lw more).length<=lw.length+more.length
 |[],lw=>by show lw.length<=lw.length+0;lia
 |p::r,lw=>by have h1:=mz r (lv lw p.1 p.2);have h2:=iV lw p.1 p.2;show(gp (lv lw p.1 p.2) r).length<=_;rw[length_cons];lia
theorem sR{P:Program}{w:World}:∀{lw:List (Key×V)}{ws:List (Value×Value)},VV (lw.map λkv=>(kV kv.1,kv.2)) ws->∃rs,Carries (aY P w) ws rs/\KV lw rs
 |[],_,r=>by rw[List.map_nil]at r;cases r;exact⟨[],True.intro,.nil⟩
 |p::lw,_,r=>by
  rw[List.map_cons]at r;cases r with
  |@cons a b as bs h t =>
   obtain⟨rs,c,q⟩:=sR (P:=P) (w:=w) t;obtain⟨b1,b2⟩:=b;exact⟨(p.1,b2)::rs,⟨kc h.1,rfl,c⟩,.cons ⟨rfl,h.2⟩ q⟩
def JG(Gs:List (TE×TE)):TE:=λσ H Q=>∀p,H p=none->AK Gs σ (upd H p (.dK [])) λps H2=>H2 p=some (.dK [])/\∃lw:List (Key×V),ps=lw.map (λkv=>(kV kv.1,kv.2))/\lw.length<=15/\Q (.ref p) (upd H2 p (.dK (gp [] lw)))
theorem Gv(h:Oa X pos keys values Gs)(CY:keys.all (·.isSome)=true)(hl:keys.length=values.length)(h0:keys≠[])(UM:keys.length<=15):PE X (.Dict keys values pos) (JG Gs):=by
 intro io s σ H Q I q;have hn:=I.bE.fresh (le_refl s.heap.objs.size);have I1:=I.laid (a:=s.heap.objs.size) (o:=.dK []) (h':=s.heap.push { cls:=.type "dict",data:=.dict #[] }) (t':=s.toks) (λ_ _ q=>Heap.get?_push_of_some _ q) (le_refl _) (yU s.heap I.OZ);refine wpAny_Dict_walk (knd:=aY X.prog X.w) CY hl h0 UM (bI (h io _ σ _ _ I1 (q _ hn)) λws s2 ⟨ps,H2,I2,rel,e,lw,ep,lk,q2⟩=>?_);subst ep;obtain⟨rs,c,rk⟩:=sR (P:=X.prog) (w:=X.w) rel;obtain⟨z,hd,Wg,r0,dd⟩:=Bc I2.bE e;cases r0;refine⟨rs,c,dd,λh' Bd hs=>⟨.ref s.heap.objs.size,_,?_,rfl,q2⟩⟩;have hz:(gp [] lw).length<=sizeLine:=by have h1:=mz lw [];rw[List.length_nil]at h1;rw[sizeLine_eq];lia
 have he:∃q,h'.get? s.heap.objs.size=some q:=let⟨q,_,_,hq,_⟩:=Bd;⟨q,hq⟩;exact og I2 (by rw[e];exact True.intro) hs he (wN hz hd (rk.merge .nil) Bd)
structure M1(X:Cx)(o:Expr)(m:Str)(apos:Pos)(e:Expr)(cv:Pos):Prop where
 base:attributeBase o m X.env (eval o X.env)=eval o X.env
 xr:((backTo cv (starEach [e] X.env)).all (λx=>!x.1)&&(backToKw cv (keywordEach [] X.env)).all (λx=>x.1.isSome)
  && decide (([e]:List Expr).length+([]:List Keyword).length+(if([]:List Keyword).isEmpty then 0 else 1)<30))=true
 line:(apos.endLine==cv.line)=true
 trees:backTo cv (starEach [e] X.env)=[(false,eval e X.env)]
structure M2(X:Cx)(o:Expr)(m:Str)(apos:Pos)(e f:Expr)(cv:Pos):Prop where
 base:attributeBase o m X.env (eval o X.env)=eval o X.env
 xr:((backTo cv (starEach [e,f] X.env)).all (λx=>!x.1)&&(backToKw cv (keywordEach [] X.env)).all (λx=>x.1.isSome)
  && decide (([e,f]:List Expr).length+([]:List Keyword).length+(if([]:List Keyword).isEmpty then 0 else 1)<30))=true
 line:(apos.endLine==cv.line)=true
 trees:backTo cv (starEach [e,f] X.env)=[(false,eval e X.env),(false,eval f X.env)]
def Ob(H:Hp)(a:Addr):Prop:=(∃lw,Rd H a (.dK lw))\/∃lw,Rd H a (.dT lw)
theorem AL(I:Inv X io σ H s)(d:Ob H a):
  s.TypeIs (.ref a) "dict"/\(∀b,Value.ref a=.ref b->∃ob,s.heap.get? b=some ob/\ob.dict=none)/\(a==sysModules)=false:=by
 rcases d with⟨lw,e⟩|⟨lw,e⟩
 ·obtain⟨_,hd,vs,_,dd⟩:=qf I.bE e;refine⟨dd.typeIs,λb q=>?_,hd⟩;cases q;obtain⟨ob,_,_,h1,h2,_⟩:=dd;exact⟨ob,h1,h2.2.1⟩
 obtain⟨_,hd,xs,_,dd⟩:=qg I.bE e;refine⟨dd.typeIs,λb q=>?_,hd⟩;cases q;obtain⟨ob,_,_,h1,h2,_⟩:=dd;exact⟨ob,h1,h2.2.1⟩
section
variable{d:V}{r:Value}
theorem Ka(hu:A.units+1<cLine)(I:Inv X io σ H s)(g:bh H a y o)(ry:RelV y u)(h:∀w' s',Inv X io σ H s'->RelV (o.getD .bu) w'->Q w' s'):
  wpAny (model X.prog X.w) A (call (.builtin "dict.get") [.ref a,u]) Q E s:=by
 rcases g with⟨lw,k,e,ey,l⟩|⟨lw,k,b,e,ey,eb,l⟩
 ·subst ey;obtain⟨z,hd,vs,rel,dd⟩:=qf I.bE e;refine call_meetsIn PySem.F.slot_dict_get dd.typeIs PySem.F.entry_dict_get (PySem.F.args_dict_get_2 _ _) (meets_dict_get (aY X.prog X.w) a (kc ry) hd) ⟨_,dd.mapOf,h _ _ (I.tok _) ?_⟩;rw[l];exact(rel.val k).getD rfl
 subst ey;cases(show u=Value.ref b from ry);obtain⟨z,hd,xs,rel,dd⟩:=qg I.bE e;refine call_meetsIn PySem.F.slot_dict_get dd.typeIs PySem.F.entry_dict_get (PySem.F.args_dict_get_2 _ _) (meetsH_dict_get (tupleKind (aY X.prog X.w)) a b hd) ⟨tupleKind_room_in1 hu,k,xs,nV I.bE eb,dd,h _ _ (I.tok _) ?_⟩;rw[l];exact(rel.val k).getD rfl
theorem Kb(hu:A.units+1<cLine)(I:Inv X io σ H s)(g:bh H a y o)(ry:RelV y u)(rd:RelV d r)(h:∀w' s',Inv X io σ H s'->RelV (o.getD d) w'->Q w' s'):
  wpAny (model X.prog X.w) A (call (.builtin "dict.get") [.ref a,u,r]) Q E s:=by
 rcases g with⟨lw,k,e,ey,l⟩|⟨lw,k,b,e,ey,eb,l⟩
 ·subst ey;obtain⟨z,hd,vs,rel,dd⟩:=qf I.bE e;refine call_meetsIn PySem.F.slot_dict_get dd.typeIs PySem.F.entry_dict_get (PySem.F.args_dict_get_3 _ _ _) (meets_dict_get_default (aY X.prog X.w) a (kc ry) hd r) ⟨_,dd.mapOf,h _ _ (I.tok _) ?_⟩;rw[l];exact(rel.val k).getD rd
 subst ey;cases(show u=Value.ref b from ry);obtain⟨z,hd,xs,rel,dd⟩:=qg I.bE e;refine call_meetsIn PySem.F.slot_dict_get dd.typeIs PySem.F.entry_dict_get (PySem.F.args_dict_get_3 _ _ _) (meetsH_dict_get_default (tupleKind (aY X.prog X.w)) a b hd r) ⟨tupleKind_room_in1 hu,k,xs,nV I.bE eb,dd,h _ _ (I.tok _) ?_⟩;rw[l];exact(rel.val k).getD rd
end
def Kc(td ty:TE):TE:=λσ H Q=>td σ H λx H1=>∃a,x=.ref a/\Ob H1 a/\ty σ H1 λy H2=>∃o,bh H2 a y o/\Q (o.getD .bu) H2
def Kd(td ty tx:TE):TE:=λσ H Q=>td σ H λx H1=>∃a,x=.ref a/\Ob H1 a/\ty σ H1 λy H2=>tx σ H2 λz H3=>∃o,bh H3 a y o/\Q (o.getD z) H3
def Ke(td ty tx:TE):TE:=λσ H Q=>td σ H λx H1=>∃a,x=.ref a/\Ob H1 a/\ty σ H1 λy H2=>tx σ H2 λz H3=>∃lw k,H3 a=some (.dK lw)/\y=kV k /\
 (∀v,fY lw k=some v->Q v (upd H3 a (.dK (sF lw k))))/\(fY lw k=none->Q z H3)
section
variable{o f:Expr}{td ty tx:TE}
theorem ET(hu:X.A.units+1<cLine)(ho:PE X o td)(he:PE X e ty)(m:M1 X o "get" apos e cv):PE X (.Call (.Attribute o "get" apos) [e] [] cv) (Kc td ty):=by intro io s σ H Q I h;refine wpAny_Call_method m.base m.xr m.line PySem.F.plainAttrs_dict PySem.F.slot_dict_get PySem.F.type_dict_get (bI (ho io s σ H _ I h) λu s1 ⟨x,H1,I1,rx,a,ex,d,q1⟩=>?_);subst ex;obtain rfl:u=Value.ref a:=rx;obtain⟨t1,t2,_⟩:=AL I1 d;refine⟨t1,t2,?_⟩;rw[m.trees];refine Calls.callWith_builtin rfl (Calls.evalArgs_plain (Calls.spliced_cons (bI (he io s1 σ H1 _ I1 q1) λiv s2 ⟨y,H2,I2,ry,ov,g,q2⟩=>Calls.spliced_nil ?_)));exact Ka hu I2 g ry λw' s3 I3 rA=>⟨_,H2,I3,rA,q2⟩
theorem EU(hu:X.A.units+1<cLine)(ho:PE X o td)(he:PE X e ty)(hf:PE X f tx)(m:M2 X o "get" apos e f cv):PE X (.Call (.Attribute o "get" apos) [e,f] [] cv) (Kd td ty tx):=by
 intro io s σ H Q I h;refine wpAny_Call_method m.base m.xr m.line PySem.F.plainAttrs_dict PySem.F.slot_dict_get PySem.F.type_dict_get (bI (ho io s σ H _ I h) λu s1 ⟨x,H1,I1,rx,a,ex,d,q1⟩=>?_);subst ex;obtain rfl:u=Value.ref a:=rx;obtain⟨t1,t2,_⟩:=AL I1 d;refine⟨t1,t2,?_⟩;rw[m.trees];refine Calls.callWith_builtin rfl (Calls.evalArgs_plain (Calls.spliced_cons (bI (he io s1 σ H1 _ I1 q1) λiv s2 ⟨y,H2,I2,ry,q2⟩ =>
  Calls.spliced_cons (bI (hf io s2 σ H2 _ I2 q2) λfv s3 ⟨z,H3,I3,rz,ov,g,q3⟩=>Calls.spliced_nil ?_))))
 exact Kb hu I3 g ry rz λw' s4 I4 rA=>⟨_,H3,I4,rA,q3⟩
theorem EV(ho:PE X o td)(he:PE X e ty)(hf:PE X f tx)(m:M2 X o "pop" apos e f cv):PE X (.Call (.Attribute o "pop" apos) [e,f] [] cv) (Ke td ty tx):=by
 intro io s σ H Q I h;refine wpAny_Call_method m.base m.xr m.line PySem.F.plainAttrs_dict PySem.F.slot_dict_pop PySem.F.type_dict_pop (bI (ho io s σ H _ I h) λu s1 ⟨x,H1,I1,rx,a,ex,d,q1⟩=>?_);subst ex;obtain rfl:u=Value.ref a:=rx;obtain⟨t1,t2,_⟩:=AL I1 d;refine⟨t1,t2,?_⟩;rw[m.trees];refine Calls.callWith_builtin rfl (Calls.evalArgs_plain (Calls.spliced_cons (bI (he io s1 σ H1 _ I1 q1) λiv s2 ⟨y,H2,I2,ry,q2⟩ =>
  Calls.spliced_cons (bI (hf io s2 σ H2 _ I2 q2) λfv s3 ⟨z,H3,I3,rz,lw,k,ea,ey,q3,q4⟩=>Calls.spliced_nil ?_))))
 subst ey;cases l:fY lw k with
 |some v=>exact M4 I3 ea ry l (.inr ⟨fv,rfl⟩) λw' s4 I4 rA=>⟨v,_,I4,rA,q3 v l⟩
 |none=>exact KY I3 ea ry l λs4 I4=>⟨z,H3,I4,rz,q4 l⟩
end
section
variable{lw:List (Key×V)}
end
section
end
end L2
namespace Att
open PySem PySem.W PySem.Calls PyProof.Rows
section
variable{prog:Program}{w:World}{A:Around}{E:Value->Shared->Prop}{s:Shared}{K:Frag}
end
end Att
namespace L2
open PySem PySem.Spec PyProof.Rows
section
variable{P:Program}{w:World}{K:W.Frag}{mg:Str->Option Value}{base:Heap}
end
variable{X:Cx}{P prog:Program}{w:World}{k i ep t n j:Nat}{u:Value}{lw:List (Key×V)}{vs aS:List Value}{tg e value:Expr}{d it l D f a b C B sl:Addr}{io:List (Addr×Obj)}{σ:St}{H H':Hp}{s:Shared}{td te tv:TE}{g:TG}{tt:TT}{Q:Nat×Array Nat->Shared->Prop}{st:Stmt}{o:Obj}{pos pos':Pos}{es:Array DictEntry}{A:Around}{E:Value->Shared->Prop}{x y:List (Option Int)}{Ll:Nat->Addr}{Kh:Nat->List (Option Int)}{h h' base:Heap}{all:List (Value×Int×Nat)}{items:Array Value}{xs:List V}{L:List RQ}{os:OsState}{fd:FuncData}{ps:List Str}{sp:Sp}{p:Array Nat}{v:V}{mA mg:Str->Option Value}{ts:List (Bool×(Value->Sem Unit))}{ks:List Key}{R:List Value->Shared->Prop}{fp:List Addr}{G:Array GenState->Array GenState->Prop}{tn:Nat->Heap->Prop}{tb:TS}{ds:List PyData}{lt:Nat->Nat->Bool}{T:String}{OK:Heap->Prop}{ns:List Int}
section
end
section
variable{κ:Type}[DecidableEq κ]
theorem Be:∀{l:List κ}{k:κ},l.Nodup->¬k∈l->(l++[k]).Nodup
 |[],k,_,_=>by simp
 |a::r,k,h,hk=>by
  obtain⟨h1,h2⟩:=List.nodup_cons.mp h;show(a::(r++[k])).Nodup;refine List.nodup_cons.mpr ⟨λm=>?_,Be h2 λm=>hk (mem_cons.mpr (Or.inr m))⟩;rcases mem_append.mp m with q|q
  ·exact h1 q
  exact hk (mem_cons.mpr (Or.inl (mem_singleton.mp q).symm))
end
def Kf(P:Program)(w:World)(d:Addr)(vs:List (Key×Value))(ep:Nat):HO:=.ext λh=>h.DictAt (aY P w) d vs ep
def EW(P:Program)(w:World)(d:Addr)(lw:List (Key×V))(u:HO):Prop:=lw.length<=sizeLine/\(d==sysModules)=false/\∃vs ep,KV lw vs/\u=Kf P w d vs ep
def QJ(d:Addr)(u:HO)(lw:List (Key×V)):It where
 go:=λi H=>H d=some u/\i<lw.length
 BK:=λi H x H'=>H'=H/\∃k v,lw[i]?=some (k,v)/\x=kV k
 stop:=λi H=>H d=some u/\lw.length<=i
theorem wQ{k:Key}(h:(aY P w).is k u=true):RelV (kV k) u:=by
 rcases bV (k:=k) (v:=u) h with⟨i,t,rfl,rfl⟩|⟨x,t,rfl,rfl⟩
 ·exact⟨t,rfl⟩
 exact⟨t,rfl⟩
theorem EX{vs:List (Key×Value)}(r:KV lw vs){k:Key}(h:vs[i]?=some (k,u)):∃v,lw[i]?=some (k,v):=by
 induction r generalizing i with
 |nil=>simp at h
 |@cons p q ps qs hp t ih =>
  cases i with
  |zero=>simp at h;subst h;obtain⟨a,b⟩:=p;exact⟨b,by simp;exact hp.1⟩
  |succ i=>simp at h;obtain⟨v,e⟩:=ih h;exact⟨v,by simpa using e⟩
theorem Cm{K:W.Frag}{vs:List (Key×Value)}(r:KV lw vs):
  Turn P w K tg (QJ d (Kf P w d vs ep) lw) [it] it (λi h=>h.IsKeyIter it d i vs.length ep)where
 mem:=by simp
 obj:=λi h st b hb=>by
  have e:b=it:=by simpa using hb
  subst e;obtain⟨o,e,c,dd⟩:=st;exact⟨o,e,λv z=>by rw[dd]at z;cases z⟩
 keep:=λi h h' st k=>st.at λo e=>k it (by simp) o e
 item:=by
  intro X hP hw hK hc i io s σ H E I hf st hg;subst hP hw hK;obtain⟨hd,hi⟩:=hg;have hm:s.heap.DictAt (aY X.prog X.w) d vs ep:=(show bH X.prog X.w H s.heap d (Kf X.prog X.w d vs ep)from I.bE d _ hd).1;have l:=r.length;obtain⟨⟨k,v⟩,hx⟩:∃p,vs[i]?=some p:=⟨vs[i]'(by lia),by simp[show i<vs.length by lia]⟩;obtain⟨v',mr⟩:=EX r hx;obtain⟨f0,f1,f2,f3,f4,f5⟩:=hf it (by simp);refine wpAny_pyNext_dict_item st hm hx λkey h' vz uC sb=>?_;have I1:Inv X io σ H { s with heap:=h' }:=I.turned (t':=s.toks) (λb o hb e=>sb.extBut b o hb e) f0 f1 f3 f4 f5
  obtain⟨o,e,c,dd⟩:=id uC;exact⟨key,rfl,yF (s:={ s with heap:=h' }) e c dd (by decide) ⟨kV k,H,I1,wQ vz,⟨rfl,k,v',mr,rfl⟩,uC,λb hb=>(hf b hb).1⟩⟩
 done:=by intro X hP hw hK hc i io s σ H E I hf st hg;subst hP hw hK;obtain⟨hd,hi⟩:=hg;have hm:s.heap.DictAt (aY X.prog X.w) d vs ep:=(show bH X.prog X.w H s.heap d (Kf X.prog X.w d vs ep)from I.bE d _ hd).1;have l:=r.length;obtain⟨f0,f1,f2,f3,f4,f5⟩:=hf it (by simp);exact wpAny_pyNext_dict_end (I.ok.hd hc) st hm (by simp;lia) λh' eb=>⟨rfl,I.turned (t':=s.toks) (λb o hb e=>eb b o hb e) f0 f1 f3 f4 f5⟩
 self:=λ_ _ _ _ _ st h=>wpAny_pyIter_keyiter st h
section
theorem Inv.freeze(I:Inv X io σ H s)(hd:H d=some (.dK lw)):
  ∃vs ep,KV lw vs/\lw.length<=sizeLine/\(d==sysModules)=false/\s.heap.DictAt (aY X.prog X.w) d vs ep/\Inv X io σ (upd H d (Kf X.prog X.w d vs ep)) s:=by
 obtain⟨z,hs,vs,rel,o,es,ep,ho,r⟩:=(show bH X.prog X.w H s.heap d (.dK lw)from I.bE d _ hd);have hm:s.heap.DictAt (aY X.prog X.w) d vs ep:=⟨o,es,ho,r⟩;refine⟨vs,ep,rel,z,hs,hm,?_⟩;exact I.write (x:=d) (e:=d) (h':=s.heap) (t':=s.toks) (by rw[hd];exact True.intro) (.inl rfl) (λ_ _ _ q=>q) ⟨o,ho⟩ ⟨hm,⟨o,ho⟩,λh1 h2 x k=>x.at' k⟩
theorem Inv.Gw{u:HO}(I:Inv X io σ H s)(ok:EW X.prog X.w d lw u)(hd:H d=some u):Inv X io σ (upd H d (.dK lw)) s:=by obtain⟨z,hs,vs,ep,rel,rfl⟩:=ok;have hm:s.heap.DictAt (aY X.prog X.w) d vs ep:=(show bH X.prog X.w H s.heap d (Kf X.prog X.w d vs ep)from I.bE d _ hd).1;obtain⟨o,es,ho,r⟩:=id hm;exact I.write (x:=d) (e:=d) (h':=s.heap) (t':=s.toks) (by rw[hd];exact True.intro) (.inl rfl) (λ_ _ _ q=>q) ⟨o,ho⟩ ⟨z,hs,vs,rel,hm.dictOf⟩
def M7(P:Program)(w:World)(td:TE):TI:=λσ H R=>td σ H λx H1=>∃d lw,x=.ref d/\H1 d=some (.dK lw)/\∀u,EW P w d lw u->R (QJ d u lw) (upd H1 d u)
theorem yV(P:Program)(w:World){l:Expr}(hl:PE X l td)(hP:X.prog=P:=by rfl)(hw:X.w=w:=by rfl):PI X tg l (M7 P w td):=by
 subst hP hw;intro io s σ H R I h;refine bI (hl io s σ H _ I h) λv s1 ⟨x,H1,I1,r1,q1⟩=>?_;obtain⟨d,lw,rfl,hd,q⟩:=q1;cases r1;obtain⟨vs,ep,rel,z,hs,hm,I2⟩:=I1.freeze hd;refine wpAny_pyIter_dict hs hm ?_;refine⟨s1.heap.objs.size,[s1.heap.objs.size],_,_,_,rfl,I2.kept (t':=s1.toks) λb o e=>Heap.get?_push_of_some _ e,Cm rel,⟨_,Heap.get?_push_size _ rfl,rfl,rfl⟩,λb hb=>?_,q _ ⟨z,hs,vs,ep,rel,rfl⟩⟩;have e:b=s1.heap.objs.size:=by simpa using hb
 subst e;exact I2.uJ (le_refl _) (I2.bE.fresh (le_refl _))
end
section
variable{Q:VK}
theorem Bf{u:HO}(Pv:Nat->St->Hp->Prop)(h0:Pv 0 σ H)(hl:∀i σ H,i<=lw.length->Pv i σ H->H d=some u)(hs:∀(i:Nat)(k:Key)(v:V)(σ:St)(H:Hp)(N:St->Hp->Prop),(∀σ H,Pv (i+1) σ H->N σ H)->lw[i]?=some (k,v)->Pv i σ H->g (kV k) σ H λσ3 H3=>tt σ3 H3 λb H4 =>
   if b=true then te σ3 H4 λv H5=>∃ys,H5 D=some (.lst ys)/\ys.length<sizeLine/\N σ3 (upd H5 D (.lst (ys++[v])))else N σ3 H4)(hd:∀σ H,Pv lw.length σ H->Q (.ref D) H):r9 (QJ d u lw) g tt te D σ H Q:=by
 refine⟨λi m σ H=>m=lw.length-i/\i<=lw.length/\Pv i σ H,⟨lw.length,by simp,zero_le _,h0⟩,?_⟩;rintro i m σ' H' ⟨rfl,hi,p⟩;have q1:=hl i σ' H' hi p;by_cases cN:i<lw.length
 ·refine .inr ⟨⟨q1,cN⟩,λx H2 y=>?_⟩;obtain⟨rfl,k,v,ex,rfl⟩:=y;exact hs i k v σ' _ (λσ3 H3=>∃m',m'<lw.length-i/\m'=lw.length-(i+1)/\i+1<=lw.length/\Pv (i+1) σ3 H3) (λσ3 H3 z=>⟨lw.length-(i+1),by lia,rfl,cN,z⟩) ex p
 have e:i=lw.length:=by lia
 subst e;exact .inl ⟨⟨q1,le_refl _⟩,hd σ' H' p⟩
end
section
def M8(P:Program)(w:World)(t:TS):TS:=λD σ H=>t { D with nx:=λσ' H'=>∃d lw u,EW P w d lw u/\H' d=some u/\D.nx σ' (upd H' d (.dK lw)) } σ H
theorem Bg(P:Program)(w:World){t:TS}(h:PS X st t)(hP:X.prog=P:=by rfl)(hw:X.w=w:=by rfl):PS X st (M8 P w t):=by
 subst hP hw;intro io s σ H D I q;refine wpAny_mono (h io s σ H _ I q) (λf s' q=>?_) λ_ _ z=>z;cases f with
 |next=>obtain⟨σ',H',I',d,lw,u,ok,hd,q⟩:=q;exact⟨σ',_,I'.Gw ok hd,q⟩
 |brk=>exact q
 |cont=>exact q
 |ret u=>exact q
end
section
variable{Q:VK}
end
section
variable{o:Expr}{f:Str}{ta:TE}
theorem oh(K:W.Frag)(he:PE X e ta)(hb:attributeBase e f X.env (eval e X.env)=eval e X.env)(hK:X.K=K:=by rfl):PE X (.Attribute e f pos) (MT K ta f):=by subst hK;exact J5 he hb
theorem Gx(K:W.Frag)(ha:PE X o ta)(hv:PE X value tv)(hs:swapsWith value (some (.Attribute o f pos')) pos.line X.env=pure false)(hK:X.K=K:=by rfl):PS X (.Assign [.Attribute o f pos'] value pos) (MU K ta tv f):=by subst hK;exact J6 ha hv hs
end
section
end
section
variable{t:TA}{es Wh:List Expr}
end
section
end
section
end
section
end
section
variable{K:W.Frag}
end
section
end
def ent:Option Int->V
 |none=>.bu
 |some n=>.int n
theorem Gy:∀{x y:Option Int},ent x=ent y->x=y
 |none,none,_=>rfl
 |none,some _,h=>by cases h
 |some _,none,h=>by cases h
 |some a,some b,h=>by cases h;rfl
theorem sS:∀{x y:List (Option Int)},x.map ent=y.map ent->x=y
 |[],[],_=>rfl
 |[],_::_,h=>by cases h
 |_::_,[],h=>by cases h
 |a::x,b::y,h=>by rw[List.map_cons,List.map_cons]at h;rw[Gy (List.cons.inj h).1,sS (List.cons.inj h).2]
theorem oj(e:Option Int):kZ (ent e)=true:=by cases e<;>rfl
theorem Bh(x y:Option Int):AF (ent x) (ent y)=decide (x=y):=by
 cases x<;>cases y
 ·rfl
 ·rfl
 ·rfl
 rename_i a b;show(a==b)=_;by_cases h:a=b<;>simp[h]
theorem yW:∀(x y:List (Option Int)),((List.range (min x.length y.length)).all (λj=>decide ((x[j]?).getD none=(y[j]?).getD none))&&(x.length==y.length))=decide (x=y)
 |x,y=>by
  by_cases h:x=y
  ·subst h;simp
  rw[decide_eq_false h];by_cases hl:x.length=y.length
  ·rw[Bool.and_eq_false_iff];left;rw[List.all_eq_false];apply Classical.byContradiction;intro hn;apply h;apply List.ext_getElem?;intro j;by_cases hj:j<x.length
   ·have Gz:j<y.length:=(by lia);have:=Classical.byContradiction λhz=>hn ⟨j,List.mem_range.mpr (by lia),hz⟩;have e:=of_decide_eq_true this;simp only[getElem?_eq_getElem hj,getElem?_eq_getElem Gz,Option.getD_some]at e ⊢;rw[e]
   rw[getElem?_eq_none (by lia),getElem?_eq_none (by lia)]
  simp[hl]
section
theorem Kg(I:Inv X io σ H s)(ha:ab X.K H a (x.map ent))(hb:ab X.K H b (y.map ent))(hu:A.units<cLine):SeqAt.EqAt A s (.ref a) (.ref b) (decide (x=y)):=by
 by_cases zX:a=b
 ·subst zX;rw[decide_eq_true (sS (I.jR ha hb))];exact SeqAt.EqAt.same _
 obtain⟨aS,r1,p1,_⟩:=I.tuple ha;obtain⟨ik,r2,p2,_⟩:=I.tuple hb;have l1:=r1.length;have l2:=r2.length;rw[length_map]at l1 l2;refine SeqAt.EqAt.of_refs zX ?_;have q:=SeqAt.RcAt.tuples (A:=A) (s:=s) (e:=λj=>decide ((x[j]?).getD none=(y[j]?).getD none)) (show s.heap.IsTuple a aS.toArray from p1) (show s.heap.IsTuple b ik.toArray from p2) hu λj h1 h2=>?_
 ·rw[size_toArray,size_toArray,<-l1,<-l2,yW]at q;exact q
 obtain⟨u,hx,rx⟩:=ir r1 j h1;obtain⟨v,hy,ry⟩:=ir r2 j h2;rw[getElem?_map]at hx hy;cases ex:x[j]? with
 |none=>rw[ex]at hx;cases hx
 |some eu =>
  cases ey:y[j]? with
  |none=>rw[ey]at hy;cases hy
  |some ev =>
   rw[ex]at hx;rw[ey]at hy;obtain rfl:ent eu=u:=Option.some.inj hx;obtain rfl:ent ev=v:=Option.some.inj hy;have:=wF (A:=A.in1) (s:=s) rx ry (oj eu) (oj ev);rw[Bh]at this;exact this
def QK(K:W.Frag)(neg:Bool):R2:=λx y H Q=>∃(a l:Addr)(es:List (Option Int))(n:Nat)(Ll:Nat->Addr)(Kh:Nat->List (Option Int)),x=.ref a/\y=.ref l/\ab K H a (es.map ent)/\aV K H l (uO n Ll)/\(∀j,j<n->ab K H (Ll j) ((Kh j).map ent)) /\
 Q (.bl (if neg then !((List.range n).any λj=>decide (Kh j=es))else(List.range n).any λj=>decide (Kh j=es))) H
open Classical in
noncomputable def Bi(K:W.Frag)(H:Hp)(es:List (Option Int)):Value->Bool
 |.ref c=>decide (ab K H c (es.map ent))
 |_=>false
theorem sT(I:Inv X io σ H s){c:Addr}{es:List (Option Int)}(h:ab X.K H c (x.map ent)):Bi X.K H es (.ref c)=decide (x=es):=by
 unfold Bi;by_cases e:x=es
 ·subst e;simp[h]
 rw[decide_eq_false e];exact @decide_eq_false _ (Classical.propDecidable _) λz=>e (sS (I.jR h z))
theorem yX:∀{n:Nat}{f:Nat->Addr}{us:List Value},ae (uO n f) us->us=(List.range n).map λj=>Value.ref (f j):=by
 intro n f us h;have hl:=h.length;rw[Gj]at hl;apply List.ext_getElem?;intro j;by_cases hj:j<n
 ·have ht:(uO n f)[j]?=some (.ref (f j)):=Gk hj;obtain⟨u,hu,ru⟩:=h.get ht;cases ru;rw[hu];simp[hj]
 rw[getElem?_eq_none (by lia),getElem?_eq_none (by simp;lia)]
theorem EY(I:Inv X io σ H s){es:List (Option Int)}(r:ae (uO n Ll) aS)(h:∀j,j<n->ab X.K H (Ll j) ((Kh j).map ent)):
  aS.toArray.any (Bi X.K H es)=(List.range n).any λj=>decide (Kh j=es):=by
 rw[yX r];rw[Bool.eq_iff_iff];simp only[List.any_toArray,List.any_eq_true,List.mem_map,List.mem_range];constructor
 ·rintro⟨v,⟨j,hj,rfl⟩,hv⟩;rw[sT I (h j hj)]at hv;exact⟨j,hj,hv⟩
 rintro⟨j,hj,hv⟩;exact⟨_,⟨j,hj,rfl⟩,by rw[sT I (h j hj)];exact hv⟩
end
section
theorem EZ(K:W.Frag)(hu:X.A.units+16<cLine)(hK:X.K=K:=by rfl):jg X (compareOp .In) (QK K false):=by
 subst hK;intro io s σ H x y v u Q I rx ry h;obtain⟨a,l,es,n,Ll,Kh,rfl,rfl,ha,hl,hh,q⟩:=h;cases rx;cases ry;obtain⟨aS,r,pl,hz⟩:=I.list hl;refine SeqAt.in_listAt (Bi X.K H es) pl.isList (λw hw=>?_) ⟨.bl _,H,I,rfl,?_⟩
 ·have Oc:w∈aS:=by simpa using hw
  rw[yX r,List.mem_map]at Oc;obtain⟨j,hj,rfl⟩:=Oc;rw[List.mem_range]at hj;rw[sT I (hh j hj)];exact Kg I (hh j hj) ha (by show X.A.units+1<cLine;lia)
 rw[EY I r hh];exact q
end
def gq(h:Heap)(x:List (Option Int))(a:Addr):Prop:=∃aS:List Value,ae (x.map ent) aS/\h.IsTuple a aS.toArray
def om:Int:=0xFCA86420
def rQ:Option Int->Int
 |some k=>hashInt k
 |none=>om
def rR(x:List (Option Int)):Int:=reduceHash (Builtin.Tuple.tupleHashOf (x.map rQ))
theorem rS{x y:Array Value}(hx:h.IsTuple a x)(hy:h.IsTuple a y):x=y:=by obtain⟨o,ho,_,n,hd⟩:=hx;obtain⟨o',xp,_,n',uA⟩:=hy;rw[ho]at xp;obtain rfl:=Option.some.inj xp;rw[hd]at uA;injection uA with h1 _
theorem yY:∀{x y:List (Option Int)}{vs:List Value},ae (x.map ent) vs->ae (y.map ent) vs->x=y
 |[],[],_,_,_=>rfl
 |[],_::_,_,.nil,h=>by cases h
 |_::_,[],_,h,.nil=>by cases h
 |a::x,b::y,_,.cons r t,.cons r' t'=>by
  rw[yY t t']
  congr 1
  cases a with
  |none =>
   cases b with
   |none=>rfl
   |some j=>cases(show _=Value.none from r);obtain⟨_,e⟩:=(show ∃t,Value.none=Value.int j t from r');cases e
  |some i =>
   obtain⟨u,rfl⟩:=(show ∃t,_=Value.int i t from r);cases b with
   |none=>have e:=(show Value.int i u=Value.none from r');cases e
   |some j=>obtain⟨_,e⟩:=(show ∃t,Value.int i u=Value.int j t from r');cases e;rfl
theorem gq.inj(hx:gq h x a)(hy:gq h y a):x=y:=by
 obtain⟨aS,r,ht⟩:=hx;obtain⟨its',r',UN⟩:=hy;have e:=rS ht UN;have e':aS=its':=by simpa using congrArg Array.toList e
 subst e';exact yY r r'
theorem sU{x:Array Value}{es ep}(hx:h.IsTuple a x)(ho:h.get? d=some o)(hd:o.data=.dict es ep)(hs:Heap.SameBut d h h'):h'.IsTuple a x:=by
 obtain⟨o',xp,hc,n,uA⟩:=hx;have yP:a≠d:=by rintro rfl;rw[ho]at xp;obtain rfl:=Option.some.inj xp;rw[hd]at uA;exact nomatch uA
 exact⟨o',(hs.2 a yP).trans xp,hc,n,uA⟩
section
theorem yZ{Q:Int->Shared->Prop}(h:Q om { s with toks:=s.toks+1 }):wpAny (model prog w) A (pyHash .none) Q E s:=by
 have hT:=typeIs_none s;unfold pyHash;unfold pyHashByItsType;have hv:[Value.none].any Value.onHeap=false:=rfl;refine f8 ?_;rw[cRoomFor,if_neg (by rw[hv];exact Bool.false_ne_true)];refine im ?_;refine f8 (wpAny_specialOf hT F.slot_NoneType_hash.lookup ?_);refine(show wpAny _ _ (if(some (Value.builtin "NoneType.__hash__")==some Value.none)=true then _ else _) Q E s from ?_);rw[if_neg (by rw[beq_builtin_none];exact Bool.false_ne_true)];refine f8 (wpAny_specialOf hT F.slot_NoneType_hash.lookup ?_);refine(show wpAny _ _ (callSpecialIfBoundUnlessNone? Value.none "__hash__" _ >>= _) Q E s from ?_);refine f8 (wpAny_callSpecialIfBoundUnlessNone?_slot hT F.slot_NoneType_hash (wpAny_call_entry F.slot_NoneType_hash hT F.entry_NoneType_hash ?_ (F.args_NoneType_hash_1 _)));refine(show wpAny _ _ (do ret (<- mkInt 0xFCA86420)) _ _ s from wpAny_ret_mkInt ?_)
 exact im h
theorem oo{Q:Int->Shared->Prop}(hu:A.units<cLine)(ht:s.heap.IsTuple a (all.map (·.1)).toArray)(hi:∀x∈all,∀(tk:Nat)(Q:Int->Shared->Prop),Q x.2.1 { s with toks:=tk+x.2.2 }->wpAny (model prog w) A.in1 (pyHash x.1) Q E { s with toks:=tk })(h:Q (reduceHash (Builtin.Tuple.tupleHashOf (all.map (·.2.1)))) { s with toks:=s.toks+((all.map (·.2.2)).sum+1) }):wpAny (model prog w) A (pyHash (.ref a)) Q E s:=by
 have hT:s.TypeIs (.ref a) "tuple":=let⟨o,ho,hc,_⟩:=ht;⟨o,ho,hc⟩;obtain⟨o,ho,_,n,hd⟩:=ht;unfold pyHash;unfold pyHashByItsType;refine f8 (wpAny_cRoomFor_or (.inr hu) ?_);refine f8 (wpAny_specialOf hT F.slot_tuple_hash.lookup ?_);refine(show wpAny _ _ (if(some (Value.builtin "tuple.__hash__")==some Value.none)=true then _ else _) Q E s from ?_);rw[if_neg (by rw[beq_builtin_none];exact Bool.false_ne_true)];refine f8 (wpAny_specialOf hT F.slot_tuple_hash.lookup ?_);refine(show wpAny _ _ (callSpecialIfBoundUnlessNone? (.ref a) "__hash__" _ >>= _) Q E s from ?_);refine f8 (wpAny_callSpecialIfBoundUnlessNone?_slot hT F.slot_tuple_hash (wpAny_call_entry F.slot_tuple_hash hT F.entry_tuple_hash ?_ (F.args_tuple_hash_1 _)));refine(show wpAny _ _ (Builtin.Tuple.tupleItemsOf (.ref a) >>= _) _ _ s from f8 (wpAny_tupleItemsOf ho hd (f8 ?_)));rw[<-Array.forIn_toList];refine wpAny_forIn_list _
  (λrest (b:Array Int) s'=>∃done left,all=done++left/\rest=left.map (·.1)/\b.toList=done.map (·.2.1)/\s'={ s with toks:=s.toks+(done.map (·.2.2)).sum })
  _ ?_ ?_ _ _ ⟨[],all,rfl,by simp,rfl,rfl⟩
 ·rintro x rest b s' ⟨done,left,rfl,hl,hb,rfl⟩
  match left,hl with
  |y::JH,hl =>
   rw[List.map_cons]at hl;obtain⟨rfl,rfl⟩:=List.cons.inj hl;refine f8 (hi y (by simp) _ _ ?_)
   first
    |exact im ⟨done++[y],JH,by simp,rfl,by simp[hb],by simp[Nat.add_assoc]⟩
    |exact f8 (im (im ⟨done++[y],JH,by simp,rfl,by simp[hb],by simp[Nat.add_assoc]⟩))
 rintro b s' ⟨done,left,rfl,hl,hb,rfl⟩;have:left=[]:=List.map_eq_nil_iff.mp hl.symm;subst this;rw[List.append_nil]at h;refine(show wpAny _ _ (retInt (Builtin.Tuple.tupleHashOf b.toList)) _ _ _ from ?_);rw[hb];refine wpAny_ret_mkInt ?_;refine(show wpAny _ _ (if(decide (-(2:Int) ^ 63<=Builtin.Tuple.tupleHashOf (done.map (·.2.1)))&&decide (Builtin.Tuple.tupleHashOf (done.map (·.2.1))<2 ^ 63))=true then _ else _) Q E _ from ?_);unfold reduceHash at h;by_cases hr:(decide (-(2:Int) ^ 63<=Builtin.Tuple.tupleHashOf (done.map (·.2.1)))&&decide (Builtin.Tuple.tupleHashOf (done.map (·.2.1))<2 ^ 63))=true
 ·rw[if_pos hr];rw[if_pos hr]at h;exact im (by simpa[Nat.add_assoc]using h)
 rw[if_neg hr];rw[if_neg hr]at h;exact f8 (wpAny_rule (im (by simpa[Nat.add_assoc]using h)))
theorem sV{Q:Int->Shared->Prop}(hu:A.units<cLine)(hx:gq s.heap x a)(h:Q (rR x) { s with toks:=s.toks+(x.length+1) }):wpAny (model prog w) A (pyHash (.ref a)) Q E s:=by
 obtain⟨aS,r,ht⟩:=hx;have hl:=r.length;rw[length_map]at hl;have sums:∀{x:List (Option Int)}{aS:List Value},ae (x.map ent) aS->∃all:List (Value×Int×Nat),all.map (·.1)=aS/\all.map (·.2.1)=x.map rQ/\(all.map (·.2.2)).sum=x.length/\∀y∈all,y.2.2=1/\((y.1=.none/\y.2.1=om)\/∃i t,y.1=.int i t/\y.2.1=hashInt i):=by
  intro x
  induction x with
  |nil=>intro aS r;cases r;exact⟨[],rfl,rfl,rfl,λy hy=>by cases hy⟩
  |cons e x ih =>
   intro aS r;cases r with
   |cons r t =>
    obtain⟨all,a1,a2,a3,a4⟩:=ih t;cases e with
    |none =>
     cases(show _=Value.none from r);refine⟨(.none,om,1)::all,by simp[a1],by simp[a2,rQ],by simp[a3];lia,λy hy=>?_⟩;rcases mem_cons.mp hy with rfl|hy
     ·exact⟨rfl,.inl ⟨rfl,rfl⟩⟩
     exact a4 y hy
    |some i =>
     obtain⟨u,rfl⟩:=(show ∃t,_=Value.int i t from r);refine⟨(.int i u,hashInt i,1)::all,by simp[a1],by simp[a2,rQ],by simp[a3];lia,λy hy=>?_⟩;rcases mem_cons.mp hy with rfl|hy
     ·exact⟨rfl,.inr ⟨i,u,rfl,rfl⟩⟩
     exact a4 y hy
 obtain⟨all,a1,a2,a3,a4⟩:=sums r;refine oo (all:=all) hu (by rw[a1];exact ht) (λy hy tk Q' hq=>?_) (by rw[a2,a3];exact h);obtain⟨e1,e2⟩:=a4 y hy;rw[e1]at hq;rcases e2 with⟨e3,e4⟩|⟨i,t,e3,e4⟩
 ·rw[e3];rw[e4]at hq;exact yZ hq
 rw[e3];rw[e4]at hq;exact wpAny_pyHash_int hq
theorem rowAt(hu:A.units<cLine)(hx:gq s.heap x a)(hy:gq s.heap y b):SeqAt.EqAt A s (.ref a) (.ref b) (decide (x=y)):=by
 by_cases zX:a=b
 ·subst zX;rw[decide_eq_true (hx.inj hy)];exact SeqAt.EqAt.same _
 obtain⟨aS,r1,p1⟩:=hx;obtain⟨ik,r2,p2⟩:=hy;have l1:=r1.length;have l2:=r2.length;rw[length_map]at l1 l2;refine SeqAt.EqAt.of_refs zX ?_;have q:=SeqAt.RcAt.tuples (A:=A) (s:=s) (e:=λj=>decide ((x[j]?).getD none=(y[j]?).getD none)) p1 p2 hu λj h1 h2=>?_
 ·rw[size_toArray,size_toArray,<-l1,<-l2,yW]at q;exact q
 obtain⟨u,hx,rx⟩:=ir r1 j h1;obtain⟨v,hy,ry⟩:=ir r2 j h2;rw[getElem?_map]at hx hy;cases ex:x[j]? with
 |none=>rw[ex]at hx;cases hx
 |some eu =>
  cases ey:y[j]? with
  |none=>rw[ey]at hy;cases hy
  |some ev =>
   rw[ex]at hx;rw[ey]at hy;obtain rfl:ent eu=u:=Option.some.inj hx;obtain rfl:ent ev=v:=Option.some.inj hy;have:=wF (A:=A.in1) (s:=s) rx ry (oj eu) (oj ev);rw[Bh]at this;exact this
theorem qh(n:Nat){Q:Bool->Shared->Prop}(ht:s.heap.IsTuple a items)(hi:∀v∈items.toList,∀Q:Bool->Shared->Prop,Q true s->wpAny (model prog w) A (eqIsQuiet n v) Q E s)(h:Q true s):wpAny (model prog w) A (eqIsQuiet (n+1) (.ref a)) Q E s:=by
 have hT:s.TypeIs (.ref a) "tuple":=let⟨o,ho,hc,_⟩:=ht;⟨o,ho,hc⟩;obtain⟨o,ho,_,m,hd⟩:=ht;unfold eqIsQuiet;refine f8 (wpAny_specialOf hT F.slot_tuple_eq.lookup ?_);refine(show wpAny _ _ (isInstance (.ref a) (.type "tuple") >>= _) _ _ s from f8 (wpAny_isInstance hT isSubtype_tuple_tuple ?_));simp only[Bool.not_true,Bool.false_eq_true,if_false];refine f8 (wpAny_seqItems ho hd (f8 ?_));refine(show wpAny _ _ (forIn items _ _) _ _ s from ?_);rw[<-Array.forIn_toList];refine wpAny_forIn_list _ (λrest r s'=>r.1=none/\s'=s/\∀v∈rest,v∈items.toList) _ ?_ ?_ _ _ ⟨rfl,rfl,λv hv=>hv⟩
 ·rintro v rest r s' ⟨hr,rfl,CY⟩;refine f8 (hi v (CY v mem_cons_self) _ ?_);simp only[Bool.not_true,Bool.false_eq_true,if_false];exact im ⟨rfl,rfl,λu QL=>CY u (mem_cons_of_mem _ QL)⟩
 rintro⟨r1,r2⟩ s' ⟨hr,rfl,_⟩;simp only at hr;subst hr;exact im h
theorem vM(n:Nat){Q:Bool->Shared->Prop}(hx:gq s.heap x a)(h:Q true s):wpAny (model prog w) A (eqIsQuiet (n+1) (.ref a)) Q E s:=by
 obtain⟨aS,r,ht⟩:=hx;refine qh n ht (λv hv Q' hq=>?_) h;have hb:carriedByValue v=true:=by
  have mr:v∈aS:=by simpa using hv
  clear hv;have all:∀{x:List (Option Int)}{aS:List Value},ae (x.map ent) aS->∀v∈aS,carriedByValue v=true:=by
   intro x
   induction x with
   |nil=>intro aS r v hv;cases r;cases hv
   |cons e x ih =>
    intro aS r v hv;cases r with
    |cons r t =>
     rcases mem_cons.mp hv with rfl|hv
     ·cases e with
      |none=>cases(show v=Value.none from r);rfl
      |some i=>obtain⟨u,rfl⟩:=(show ∃t,v=Value.int i t from r);rfl
     exact ih t v hv
  exact all r v mr
 rw[eqIsQuiet_byValue _ hb];exact im hq
end
section
variable{xs:SX}
theorem JI(I:Inv X io σ H s)(h:ab X.K H b (x.map ent)):gq s.heap x b:=by obtain⟨aS,r,ht,_⟩:=I.tuple h;exact⟨aS,r,ht⟩
end
section
variable{o i:Expr}{ty:TE}
end
def qB(d:Addr)(es:Array DictEntry)(ep:Nat)(h:Heap):Prop:=∃o,h.get? d=some o/\o.ExactDict/\o.data=.dict es ep
theorem qB.typeIs(x:qB d es ep s.heap):s.TypeIs (.ref d) "dict":=let⟨o,ho,hc,_⟩:=x;⟨o,ho,hc.1⟩
theorem qB.at_(x:qB d es ep h)(e:∀o,h.get? d=some o->h'.get? d=some o):qB d es ep h':=let⟨o,ho,r⟩:=x;⟨o,e _ ho,r⟩
section
theorem Ea{Q:Value->Shared->Prop}(hd:(d==sysModules)=false)(x:qB d es ep s.heap)(hQ:Q (.ref s.heap.objs.size) { s with heap:=s.heap.push { cls:=.type "dict_keyiterator",data:=.fields #[.ref d,.int 0 0,.int es.size 0,.int ep 0] } }):
  wpAny (model prog w) A (pyIter (.ref d)) Q E s:=by
 have hT:=x.typeIs;obtain⟨o,ho,hc,G0⟩:=x;refine wpAny_pyIter_slot hT F.slot_dict_iter (wpAny_call_entry F.slot_dict_iter hT F.entry_dict_iter ?_ (F.args_dict_iter_1 _));unfold Builtin.«dict.__iter__»;refine f8 ?_;unfold Builtin.Dict.dictSlotNone;refine f8 (wpAny_notOrdered_dict hT ?_);refine(show wpAny _ _ (pure (Value.ref d)) _ _ s from im ?_);refine(show wpAny _ _ (Builtin.Dict.showsAll d >>= _) _ _ s from ?_);unfold Builtin.Dict.showsAll;rw[if_neg (by rw[hd];exact Bool.false_ne_true)];refine f8 (im (f8 (wpAny_dictEntries ho G0 (f8 (wpAny_dictEpoch ho G0 ?_)))));refine f8 (wpAny_newObj_type (im ⟨_,rfl,"dict_keyiterator",_,⟨_,Heap.get?_push_size _ rfl,rfl⟩,F.slot_dict_keyiterator_next.lookup,?_⟩))
 simpa[rawInt]using hQ
theorem Eb{Q:Option Value->Shared->Prop}(hit:s.heap.IsKeyIter it d i es.size ep)(x:qB d es ep s.heap)(cN:i<es.size)(hQ:∀h',h'.IsKeyIter it d (i+1) es.size ep->Heap.SameBut it s.heap h'->Q (some es[i].key) { s with heap:=h' }):wpAny (model prog w) A (pyNext (.ref it)) Q E s:=by
 obtain⟨o,ho,hc,hd⟩:=id hit;obtain⟨od,M9,xq,NA⟩:=x;unfold pyNext;refine f8 (wpAny_attempt (wpAny_callSpecial?_slot (name:=Str.ofString "__next__") hit.typeIs F.slot_dict_keyiterator_next
  (wpAny_call_entry F.slot_dict_keyiterator_next hit.typeIs F.entry_dict_keyiterator_next ?_ (F.args_dict_keyiterator_next_1 _))))
 refine f8 (im ?_);refine f8 ?_;refine f8 ?_
 first|refine f8 (wpAny_typeNameOfWhole_keyiter hit.typeIs (im ?_))|refine f8 (wpAny_typeNameOf_keyiter hit.typeIs (im ?_))
 refine f8 (wpAny_fieldsOf ho hd ?_);have Ki:Builtin.Dict_items.ownsTuple "dict_keyiterator"=false:=by decide
 simp only[Ki,Bool.false_eq_true,if_false];refine(show wpAny _ _ (if(Value.ref d==Value.none)=true then _ else _) _ _ s from ?_);rw[if_neg (show ¬((Value.ref d==Value.none)=true)from Bool.false_ne_true)];refine f8 (im (f8 (wpAny_dictEntries M9 NA ?_)));rw[if_neg (by simp)];refine f8 (im (f8 (wpAny_dictEpoch M9 NA ?_)));rw[if_neg (by simp)];refine im ?_;simp only[show ¬((i:Int)<0)from by lia,if_false,Int.toNat_natCast,Array.getElem?_eq_getElem cN];refine f8 ?_
 first|refine f8 (wpAny_typeNameOfWhole_keyiter hit.typeIs (im ?_))|refine f8 (wpAny_typeNameOf_keyiter hit.typeIs (im ?_))
 refine f8 (wpAny_isOneOf_keyiter hit.typeIs ?_);refine(show wpAny _ _ (setField (.ref it) 1 (rawInt ((i:Int)+1)) >>= _) _ _ s from ?_);refine f8 (wpAny_setField ho hd (by simp) ?_);have G1:(s.heap.update it (Obj.mapFields (·.setIfInBounds 1 (rawInt ((i:Int)+1))))).IsKeyIter it d (i+1) es.size ep :=
  ⟨_,Heap.get?_update_self _ ho (Obj.isFreed_of_fields (Obj.data_mapFields hd _)),(Obj.cls_mapFields ..).trans hc,by rw[Obj.data_mapFields hd];simp[rawInt]⟩
 refine f8 (wpAny_holding ?_);refine f8 (wpAny_isOneOf_keyiter (s:={ s with heap:=s.heap.update it (Obj.mapFields (·.setIfInBounds 1 (rawInt ((i:Int)+1)))) }) G1.typeIs ?_);refine(show wpAny _ _ (pure es[i].key) _ _ _ from ?_);exact im (im ⟨_,rfl,im (hQ _ G1 (Heap.SameBut.update ..))⟩)
end
section
theorem G2{Q:Option Value->Shared->Prop}(hh:A.handled=none)(hit:s.heap.IsKeyIter it d i es.size ep)(x:qB d es ep s.heap)(QM:es.size<=i)(hQ:∀h',Heap.ExtBut it s.heap h'->Q none { s with heap:=h' }):wpAny (model prog w) A (pyNext (.ref it)) Q E s:=by
 obtain⟨o,ho,hc,hd⟩:=id hit;obtain⟨od,M9,xq,NA⟩:=x;unfold pyNext;refine f8 (wpAny_attempt (wpAny_callSpecial?_slot (name:=Str.ofString "__next__") hit.typeIs F.slot_dict_keyiterator_next
  (wpAny_call_entry F.slot_dict_keyiterator_next hit.typeIs F.entry_dict_keyiterator_next ?_ (F.args_dict_keyiterator_next_1 _))))
 refine f8 (im ?_);refine f8 ?_;refine f8 ?_
 first|refine f8 (wpAny_typeNameOfWhole_keyiter hit.typeIs (im ?_))|refine f8 (wpAny_typeNameOf_keyiter hit.typeIs (im ?_))
 refine f8 (wpAny_fieldsOf ho hd ?_);have Ki:Builtin.Dict_items.ownsTuple "dict_keyiterator"=false:=by decide
 simp only[Ki,Bool.false_eq_true,if_false];refine(show wpAny _ _ (if(Value.ref d==Value.none)=true then _ else _) _ _ s from ?_);rw[if_neg (show ¬((Value.ref d==Value.none)=true)from Bool.false_ne_true)];refine f8 (im (f8 (wpAny_dictEntries M9 NA ?_)));rw[if_neg (by simp)];refine f8 (im (f8 (wpAny_dictEpoch M9 NA ?_)));rw[if_neg (by simp)];refine im ?_;simp only[show ¬((i:Int)<0)from by lia,if_false,Int.toNat_natCast,Array.getElem?_eq_none QM];refine f8 ?_
 first|refine f8 (wpAny_typeNameOfWhole_keyiter hit.typeIs (im ?_))|refine f8 (wpAny_typeNameOf_keyiter hit.typeIs (im ?_))
 refine(show wpAny _ _ (setField (.ref it) 0 .none >>= _) _ _ s from ?_);refine f8 (wpAny_setField ho hd (by simp) ?_);refine(show wpAny _ _ (newExc (.type "StopIteration") [] >>= _) _ _ _ from ?_);refine f8 ?_;simp only[newExc,newTuple];refine f8 (wpAny_newObj_type ?_ (by size_fits));refine f8 (m:=firstArgMember _ _) (wpAny_of_eq (a:=Value.none) (by first|rfl|(simp only[firstArgMember];rfl)) ?_);refine wpAny_newObj_type ?_ (by size_fits);simp only[raiseNew];refine f8 (wpAny_handled ?_);rw[show A.in1.handled=none from hh];refine f8 (im (wpAny_throw ?_));refine f8 (wpAny_isInstance (T:="StopIteration") (b:=true) ⟨_,Heap.get?_push_size _ rfl,rfl⟩ isSubtype_stop ?_);exact im (hQ _ (((Heap.SameBut.update ..).extBut.push _).push _))
end
section
end
theorem yb:typeLookup (.type "list") "keys"=pure none:=by rw[typeLookup_type,builtinLookup_eq_fast];kernel_rfl
theorem mQ:plainId "dict.update.loop"=true:=by decide +kernel
theorem vN:entryFor table "dict.update.loop"=some Builtin.«dict.update.loop»:=entryFor_of_tree (by kernel_rfl)
theorem Co{xs:Array Value}{Q:Option Value->Shared->Prop}(hx:s.heap.get? a=some { cls:=.type "list",data:=.seq xs k })(hA:A.handled=none)(h:∀h' tk,(∀b o,s.heap.get? b=some o->h'.get? b=some o)->Q none { s with heap:=h',toks:=tk }):wpAny (model prog w) A (getAttr? (.ref a) "keys") Q E s:=by
 obtain⟨hp,g,d,tk,os⟩:=s;have hT:∀Lm,(⟨hp,g,d,Lm,os⟩:Shared).TypeIs (.ref a) "list":=λ_=>⟨_,hx,rfl⟩;have f1:=sub_AttributeError;have f3:=F.slot_list_getattribute.lookup;have f4:=F.slot_list_getattribute.bind (.ref a);have f5:=am_list_getattr_none;unfold getAttr? getAttrBy? getAttrBy
 repeat (any_goals (first|assumption|exact hT _|((with_reducible show wpAny _ _ (call (Value.builtin "list.__getattribute__") _ _) _ _ _);refine call_meets F.slot_list_getattribute (hT _) am_entry_list_getattribute (F.args_list_getattribute_2 _ _) (meets_getattribute_miss_list a xs k _ "keys" _ yb (by decide)) ⟨hx,hA,λh' Lm e NB=>?_⟩)|wp_step))
 obtain⟨t',u',he⟩:=NB.there;refine(show wpAny _ _ (getattributeRaised _ _ _ _ _ _ _) _ _ _ from ?_);unfold getattributeRaised;have hE:∀Lm,(⟨h',g,d,Lm,os⟩:Shared).TypeIs (.ref e) "AttributeError":=λ_=>⟨_,he,rfl⟩
 repeat (any_goals (first|assumption|exact hE _|wp_step))
 exact h _ _ NB.keeps
section
variable{h0:Heap}
end
section
end
section
end
section
def G3:V->List V->Hp->VK->Prop:=λx vs H Q=>∃(l:Addr)(xs:List V)(i:Nat)(y:V),x=.ref l/\vs=[.int (i:Int),y]/\H l=some (.lst xs)/\i<=xs.length/\xs.length<1000000/\Q .bu (upd H l (.lst (xs.take i++y::xs.drop i)))
theorem vO:OX X "list.insert" G3:=by
 intro io s σ H x vs v us Q I rx rv h;obtain⟨l,xs,i,y,rfl,rfl,hH,hi,hz,q⟩:=h;cases rx;cases rv with
 |cons r1 rv =>
  cases rv with
  |cons r2 rv =>
   cases rv;obtain⟨t,rfl⟩:=r1;obtain⟨z,aS,n,r,hl,e⟩:=I.EB hH;rename_i u2;have hf:Builtin.List.listFitsIndex (i:Int)=true:=fitsIndex_both (Int.le_trans (by decide) (Int.natCast_nonneg i)) (Int.lt_of_le_of_lt (Int.ofNat_le.mpr (le_trans hi (Nat.le_of_lt hz))) (by decide));have h0:¬((i:Int)<0):=by lia
   have UO:min ((i:Int).toNat) aS.length=i:=(by rw[Int.toNat_natCast];exact Nat.min_eq_left (by lia));generalize(i:Int)=ii at *;have UP:¬(!Builtin.List.listFitsIndex ii)=true:=(by rw[hf];decide);have QN:aS.toArray.size<=sizeLine:=(by rw[size_toArray,<-hl];exact z);have UQ:=PySem.AutoSeq1.list_insert_list_int_val_1 l aS.toArray n ii t u2 UP QN;refine call_meets F.slot_list_insert ⟨_,e,rfl⟩ F.entry_list_insert (F.args_list_insert_3 _ _ _) UQ ⟨e,?_⟩;refine⟨.bu,_,I.Gc (its':=aS.take i++u2::aS.drop i) hH e ?_ ?_ ?_,rfl,q⟩
   ·simp only[h0,if_false,size_toArray,UO];simp
    try rw[List.take_of_length_le (by rw[List.length_drop];exact le_refl _)]
   ·exact(r.take i).append (.cons r2 (r.drop i))
   have h1:(xs.take i++y::xs.drop i).length=xs.length+1:=(by rw[length_append,length_cons,length_take,List.length_drop];lia);rw[h1];have:(1000000:Nat)<=sizeLine:=(by decide);lia
end
section
end
section
end
section
end
section
variable{E:XK}
end
abbrev wR(cs:List Nat):Str:=⟨cs.toArray⟩
section
end
section
variable{K:W.Frag}{Q:VK}
end
section
end
section
end
section
variable{g:Array GenState}{d:Drawn}{K:W.Frag}
end
section
variable{CX:z8}{E:XK}{x:Str}{p:Pos}{es:List Expr}{t:TA}
end
section
end
section
variable{g:Array GenState}{d:Drawn}{K:W.Frag}{dx:Addr}{name:Str}{v:Value}
end
section
end
section
variable{K:W.Frag}
theorem uM.G4{x qual:Str}{N:List Str}(F:uM K x qual st f fd)(S:aU N ps (aI st))(len:∀vs H Q E,sp vs H Q E->vs.length=ps.length)(rj:∀(f:Addr)(bj:Value)(A:Around)(outer:List Env)(s:Shared)(H:Hp)(vs:List V)(Q:VK)(E:XK),dq k (A.deeper (envOfC qual (aI st) s.heap.objs.size f bj))->sp vs H Q E ->
   ∃t,Dc (P8 P w K mg base N qual st f bj A outer s H E) (bp st) t/\t { nx:=λ_ H'=>Q .bu H',rt:=Q } (start N vs) H):eN P w K mg base (vH P w) (k+1) f fd ps sp:=by
 obtain⟨oc,od,kV,doc,pm,an,bj,ct,CT,rfl,lk,xq⟩:=F.ex;exact D5 lk xq S len λA outer s H vs Q E hr Dd=>rj f bj A outer s H vs Q E hr Dd
end
section
theorem JJ{it l:Addr}{xs:Array Value}(ne:l≠it):∀(n i:Nat)(s:Shared)(Q:List Value->Shared->Prop),s.heap.IsListIter it l i->s.heap.IsList l xs->i+n<=xs.size ->
  (∀g,g.IsListIter it l (i+n)->Heap.SameBut it s.heap g->Q ((xs.toList.drop i).take n) { s with heap:=g })->wpAny (model prog w) A (draw (.ref it) n) Q E s
 |0,i,s,Q,a,_,_,q=>im (by have:=q s.heap a (Heap.SameBut.refl ..);rw[List.take_zero]at this;exact this)
 |n+1,i,s,Q,a,b,le,q=>by
  have lt:i<xs.size:=lt_of_lt_of_le (Nat.lt_add_of_pos_right (Nat.succ_pos n)) le;have e1:xs.toList.drop i=xs[i]::xs.toList.drop (i+1):=by simp[List.drop_eq_getElem_cons,lt]
  show wpAny _ _ (pyNext (.ref it) >>= _) Q E s;refine f8 (wpAny_pyNext_list_item a b (x:=xs[i]) (by simp[lt]) λg a1 c1=>?_);refine f8 (wpAny_holding (JJ ne n (i+1) _ _ a1 (b.extBut c1.extBut ne) (by lia) λg2 a2 c2=>im ?_));have z:=q g2 (by rw[Nat.add_comm n 1,<-Nat.add_assoc];exact a2) (c1.trans c2);rw[e1,List.take_succ_cons]at z;exact z
theorem G5{xs:Array Value}{Q:Unit->Shared->Prop}(hh:A.handled=none)(b:s.heap.IsList l xs)(hn:ts.length=xs.size)(hs:ts.findIdx? (·.1)=none)(q:∀g,Heap.ExtBut s.heap.objs.size s.heap g->wpAny (model prog w) A (assignInOrder (ts.map (·.2)) xs.toList) Q E { s with heap:=g }):wpAny (model prog w) A (unpack (.ref l) ts) Q E s:=by
 have ne:l≠s.heap.objs.size:=by obtain⟨o,ho,_⟩:=b;exact ne_of_lt (Heap.lt_size ho)
 unfold unpack;rw[hn,hs];refine f8 (wpAny_holding ?_);unfold unpackItems;refine f8 ?_;unfold notIterableAtAll;refine f8 (wpAny_specialOf b.typeIs slot_list_iter.lookup (im ?_));simp only[Bool.false_eq_true,if_false];refine f8 (wpAny_holding (wpAny_pyIter_list b ?_));refine f8 (wpAny_holding (JJ ne xs.size 0 _ _ ⟨_,Heap.get?_push_size _ rfl,rfl,rfl⟩ (b.push _) (by lia) λg a1 c1=>?_));have al:(xs.toList.drop 0).take xs.size=xs.toList:=by rw[List.drop_zero];exact List.take_of_length_le (by simp)
 rw[al,if_neg (by simp)];have b1:g.IsList l xs:=(b.push _).extBut c1.extBut ne;refine f8 (wpAny_holding (wpAny_pyNext_list_end hh a1 b1 (by simp) λg2 c2=>?_));simp only[Option.isSome_none,Bool.false_eq_true,if_false];exact im (q g2 λy o hy e=>c2 y o hy (c1.extBut y o hy (Heap.get?_push_of_some _ e)))
end
def NC(K:W.Frag)(n:Nat)(t:F6):TG:=λv σ H Q=>∃a xs,v=.ref a/\aV K H a xs/\xs.length=n/\t xs σ H Q
theorem G6(K:W.Frag){es:List Expr}{t:F6}(hc:X.calm=true)(h:Le X es t)(hK:X.K=K:=by rfl)(hn:(assignEach es X.env).length=n:=by rfl)(zV:(assignEach es X.env).findIdx? (·.1)=none:=by rfl):PG X (.Tuple es k pos) (NC K n t):=by
 subst hK;intro io s σ H v u Q I r hw;obtain⟨a,xs,e1,hq,hl,hw⟩:=hw;subst e1;cases r;obtain⟨aS,rv,ht,_⟩:=I.list hq;have Ln:s.heap.IsList a aS.toArray:=by obtain⟨o,n,e,c,_,d⟩:=ht;exact⟨o,e,c,n,d⟩
 rw[assign_Tuple];refine f8 (wpAny_standAt (G5 (I.ok.hd hc) Ln (by simp[hn,<-hl,rv.length]) zV λg hx=>?_));have I1:Inv X io σ H { s with heap:=g }:=I.kept (t':=s.toks) λb o e=>hx b o (ne_of_lt (Heap.lt_size e)) e
 exact h io _ σ H xs _ Q I1 (by simpa using rv) hw
def jU(ks:List Key)(k:Key):Bool:=ks.any λx=>decide (x=k)
theorem jV{k:Key}:jU ks k=true↔k∈ks:=by unfold jU;rw[List.any_eq_true];exact⟨λ⟨x,h,e⟩=>by rw[<-of_decide_eq_true e];exact h,λh=>⟨k,h,decide_eq_true rfl⟩⟩
theorem Cp{k x:Key}:jU (x::ks) k=(jU ks k||decide (k=x)):=by show(decide (x=k)||jU ks k)=_;rw[Bool.or_comm];exact congrArg _ (decide_eq_decide.mpr eq_comm)
def dd:List Key->List Key
 |[]=>[]
 |k::ks=>if jU ks k=true then dd ks else k::dd ks
theorem wU{k:Key}:∀{ks:List Key},k∈dd ks↔k∈ks
 |[]=>by simp[dd]
 |x::ks=>by
  unfold dd;split
  ·rename_i h;have h:=jV.mp h;rw[wU (ks:=ks),mem_cons];exact⟨.inr,λz=>z.elim (λe=>by rw[e];exact h) id⟩
  rw[mem_cons,mem_cons,wU (ks:=ks)]
theorem sW:∀(ks:List Key),(dd ks).length<=ks.length
 |[]=>le_refl _
 |x::ks=>by
  have:=sW ks;unfold dd;split
  ·rw[length_cons];lia
  rw[length_cons,length_cons];lia
theorem gs:∀(ks:List Key),(dd ks).length=ks.length↔ks.Nodup
 |[]=>by simp[dd]
 |x::ks=>by
  have h:=sW ks;have ih:=gs ks;rw[List.nodup_cons];unfold dd;split
  ·rename_i hx;have hx:=jV.mp hx;rw[length_cons];exact⟨λz=>by lia,λz=>absurd hx z.1⟩
  rename_i hx;have hx:¬x∈ks:=λz=>hx (jV.mpr z);rw[length_cons,length_cons];exact⟨λz=>⟨hx,ih.mp (by lia)⟩,λz=>by have:=ih.mpr z.2;lia⟩
theorem Ec:∀{k:Key}{v:Value},RelV (kV k) v->(aY prog w).is k v=true/\v.scannable=true
 |.inl i,_,⟨t,e⟩=>by subst e;exact⟨qX prog w i t,rfl⟩
 |.inr x,_,⟨t,e⟩=>by subst e;exact⟨qY prog w x t,rfl⟩
section
variable{R:Result->Shared->Prop}{I:Addr}{wr:List Addr}{St:Nat->Shared->Prop}
end
section
end
section
end
def zY(b:Bool)(K:W.Frag)(H:Hp)(a:Addr)(xs:List V):Prop:=if b=true then aV K H a xs else ab K H a xs
theorem zY.or{b:Bool}{K:W.Frag}(h:zY b K H a xs):aV K H a xs\/ab K H a xs:=by
 cases b
 ·exact .inr h
 exact .inl h
def Kj(b:Bool)(K:W.Frag)(a:Addr)(xs:List V):It:=⟨λi H=>zY b K H a xs/\i<xs.length,λi H x H'=>H'=H/\xs[i]?=some x,λi H=>zY b K H a xs/\xs.length<=i⟩
theorem Turn.weak{K:W.Frag}{J J':It}(T:Turn P w K tg J fp it tn)(hg:∀i H,J'.go i H->J.go i H)(hy:∀i H x H',J'.go i H->J.BK i H x H'->J'.BK i H x H')(hs:∀i H,J'.stop i H->J.stop i H):Turn P w K tg J' fp it tn where
 mem:=T.mem
 obj:=T.obj
 keep:=T.keep
 item:=λX hP hw hK hc i io s σ H E I hf st g=>bI (T.item X hP hw hK hc i io s σ H E I hf st (hg i H g)) λr s1 ⟨u,e,q⟩=>⟨u,e,bI q λ_ s2 ⟨x,H',I2,r2,y,rest⟩=>⟨x,H',I2,r2,hy i H x H' g y,rest⟩⟩
 done:=λX hP hw hK hc i io s σ H E I hf st g=>T.done X hP hw hK hc i io s σ H E I hf st (hs i H g)
 self:=T.self
section
def QO(K:W.Frag)(tl:TE):TI:=λσ H R=>tl σ H λx H1=>∃(b:Bool)(a:Addr)(xs:List V),x=.ref a/\zY b K H1 a xs/\R (Kj b K a xs) H1
theorem Bj(K:W.Frag){l:Expr}{tl:TE}(hl:PE X l tl)(hK:X.K=K:=by rfl):PI X tg l (QO K tl):=by
 subst hK;intro io s σ H R I h;refine bI (hl io s σ H _ I h) λv s1 ⟨x,H1,I1,r1,q1⟩=>?_;obtain⟨b,a,xs,e,hq,q⟩:=q1;subst e;cases r1;cases b with
 |true =>
  obtain⟨aS,rv,p,hz⟩:=I1.list (show aV X.K H1 a xs from hq);refine wpAny_pyIter_list p.isList ⟨s1.heap.objs.size,[s1.heap.objs.size],_,_,H1,rfl,I1.kept (t':=s1.toks) λb o e=>Heap.get?_push_of_some _ e,
   (u5 a _).weak (J':=Kj true X.K a xs) (λi H g=>⟨xs,xs[i]'g.2,g.1,by simp[g.2]⟩) (λi H x H' g y=>⟨y.1,y.2 xs g.1⟩) (λi H g=>⟨xs,g.1,g.2⟩),⟨_,Heap.get?_push_size _ rfl,rfl,rfl⟩,λb hb=>?_,q⟩
  cases mem_singleton.mp hb;exact I1.uJ (le_refl _) (I1.bE.fresh (le_refl _))
 |false =>
  obtain⟨aS,rv,p,hz⟩:=I1.tuple (show ab X.K H1 a xs from hq);refine wpAny_pyIter_tuple (show s1.heap.IsTuple a aS.toArray from p) ⟨s1.heap.objs.size,[s1.heap.objs.size],_,_,H1,rfl,I1.kept (t':=s1.toks) λb o e=>Heap.get?_push_of_some _ e,
   (rf a _).weak (J':=Kj false X.K a xs) (λi H g=>⟨xs,xs[i]'g.2,g.1,by simp[g.2]⟩) (λi H x H' g y=>⟨y.1,y.2 xs g.1⟩) (λi H g=>⟨xs,g.1,g.2⟩),⟨_,Heap.get?_push_size _ rfl,rfl,rfl⟩,λb hb=>?_,q⟩
  cases mem_singleton.mp hb;exact I1.uJ (le_refl _) (I1.bE.fresh (le_refl _))
end
theorem G7{b:Bool}{K:W.Frag}{D:Ends}(Pv:Nat->St->Hp->Prop)(h0:Pv 0 σ H)(hl:∀i σ H,i<=xs.length->Pv i σ H->zY b K H a xs)(hs:∀i x σ H,xs[i]?=some x->Pv i σ H->g x σ H λσ2 H2=>tb { D with nx:=Pv (i+1),ct:=Pv (i+1),bk:=D.nx } σ2 H2)(hd:∀σ H,Pv xs.length σ H->D.nx σ H):
  ∃W:Nat->Nat->St->Hp->Prop,(∃m,W 0 m σ H)/\∀i m σ H,W i m σ H ->
   ((Kj b K a xs).stop i H/\D.nx σ H)\/((Kj b K a xs).go i H/\∃N:St->Hp->Prop,(∀σ' H',N σ' H'->∃m',m'<m/\W (i+1) m' σ' H')/\∀x H',(Kj b K a xs).BK i H x H'->g x σ H' λσ2 H2=>tb { D with nx:=N,ct:=N,bk:=D.nx } σ2 H2):=by
 refine⟨λi m σ H=>m=xs.length-i/\i<=xs.length/\Pv i σ H,⟨_,rfl,zero_le _,h0⟩,?_⟩;rintro i m σ H ⟨rfl,hi,p⟩;have q:=hl i σ H hi p;by_cases lt:i<xs.length
 ·refine .inr ⟨⟨q,lt⟩,Pv (i+1),λσ' H' p'=>⟨xs.length-(i+1),by lia,rfl,lt,p'⟩,?_⟩;rintro x H' ⟨rfl,y⟩;exact hs i x σ _ y p
 obtain rfl:i=xs.length:=by lia
 exact .inl ⟨⟨q,le_refl _⟩,hd σ H p⟩
section
theorem gu(K:W.Frag)(hK:X.K=K:=by rfl):jg X (compareOp .In) (Lj K false):=by subst hK;exact vD
theorem fI(K:W.Frag)(hK:X.K=K:=by rfl):jg X (compareOp .NotIn) (Lj K true):=by subst hK;exact wG
theorem wV:jg X (binaryOp .Mult) (rI IntMulOk λi j=>.int (i*j)):=MP λ_ _ _ _ _ _ _ hc q=>mul_int q hc
end
inductive ar(K:W.Frag)(H:Hp):Nat->V->PyData->Prop where
 |bu {n:Nat}:ar K H n .bu .none
 |bl {n:Nat} (b:Bool):ar K H n (.bl b) (.bool b)
 |int {n:Nat} (i:Int):ar K H n (.int i) (.int i)
 |str {n:Nat} (x:Str) (h:PyData.strOk x=true):ar K H n (.str x) (.str x)
 |lst {n:Nat} {a:Addr} {xs:List V} {ds:List PyData} (ha:aV K H a xs) (hl:xs.length=ds.length) (h:∀(i:Nat)(x:V)(d:PyData),xs[i]?=some x->ds[i]?=some d->ar K H n x d):ar K H (n+1) (.ref a) (.list ds)
 |tup {n:Nat} {a:Addr} {xs:List V} {ds:List PyData} (ha:ab K H a xs) (hl:xs.length=ds.length) (h:∀(i:Nat)(x:V)(d:PyData),xs[i]?=some x->ds[i]?=some d->ar K H n x d):ar K H (n+1) (.ref a) (.tuple ds)
theorem AM:∀(ds:List PyData),(∀d∈ds,d.canLay0=true)->PyData.canLayAll0 ds=true
 |[],_=>rfl
 |d::ds,h=>by show(PyData.canLay0 d&&PyData.canLayAll0 ds)=true;rw[h d mem_cons_self,AM ds λx hx=>h x (mem_cons_of_mem _ hx)];rfl
theorem AN{n:Nat}:∀(ds:List PyData),(∀d∈ds,d.depth<=n)->PyData.depthAll ds<=n
 |[],_=>zero_le _
 |d::ds,h=>by show max (PyData.depth d) (PyData.depthAll ds)<=n;exact Nat.max_le.mpr ⟨h d mem_cons_self,AN ds λx hx=>h x (mem_cons_of_mem _ hx)⟩
theorem rT(hl:xs.length=ds.length){d:PyData}(h:d∈ds):∃(i:Nat)(x:V),xs[i]?=some x/\ds[i]?=some d:=by obtain⟨i,hi,e⟩:=List.getElem_of_mem h;exact⟨i,xs[i]'(by lia),getElem?_eq_getElem _,by rw[getElem?_eq_getElem hi,e]⟩
theorem ar.lay{K:W.Frag}{d:PyData}(h:ar K H n v d):d.canLay0=true:=by
 induction h with
 |bu=>rfl
 |bl=>rfl
 |int=>rfl
 |str x hx=>exact hx
 |lst ha hl h ih=>exact AM _ λd hd=>let⟨i,x,h1,h2⟩:=rT hl hd;ih i x d h1 h2
 |tup ha hl h ih=>exact AM _ λd hd=>let⟨i,x,h1,h2⟩:=rT hl hd;ih i x d h1 h2
theorem ar.QP{K:W.Frag}{d:PyData}(h:ar K H n v d):d.depth<=n:=by
 induction h with
 |bu=>exact zero_le _
 |bl=>exact zero_le _
 |int=>exact zero_le _
 |str x hx=>exact zero_le _
 |lst ha hl h ih=>exact Nat.succ_le_succ (AN _ λd hd=>let⟨i,x,h1,h2⟩:=rT hl hd;ih i x d h1 h2)
 |tup ha hl h ih=>exact Nat.succ_le_succ (AN _ λd hd=>let⟨i,x,h1,h2⟩:=rT hl hd;ih i x d h1 h2)
theorem ar.up{K:W.Frag}{m:Nat}{d:PyData}(h:ar K H n v d)(hm:n<=m):ar K H m v d:=by
 induction h generalizing m with
 |bu=>exact .bu
 |bl b=>exact .bl b
 |int i=>exact .int i
 |str x hx=>exact .str x hx
 |lst ha hl h ih=>cases m with
  |zero=>lia
  |succ m=>exact .lst ha hl λi x d h1 h2=>ih i x d h1 h2 (by lia)
 |tup ha hl h ih=>cases m with
  |zero=>lia
  |succ m=>exact .tup ha hl λi x d h1 h2=>ih i x d h1 h2 (by lia)
theorem lJ{h:Heap}:∀(us:List Value)(ds:List PyData),us.length=ds.length->(∀(i:Nat)(u:Value)(d:PyData),us[i]?=some u->ds[i]?=some d->∃as,Reads h u d as)->∃as,ReadsAll h us ds as
 |[],[],_,_=>⟨[],.nil⟩
 |[],_::_,e,_=>by cases e
 |_::_,[],e,_=>by cases e
 |u::us,d::ds,e,q=>by obtain⟨as,r⟩:=q 0 u d rfl rfl;obtain⟨bs,rs⟩:=lJ us ds (Nat.succ.inj e) λi u d h1 h2=>q (i+1) u d (by simpa using h1) (by simpa using h2);exact⟨as++bs,.cons r rs⟩
theorem ae.back:∀{xs:List V}{us:List Value}{i:Nat}{u:Value},ae xs us->us[i]?=some u->∃x,xs[i]?=some x/\RelV x u
 |_,_,_,_,.nil,e=>by simp at e
 |_,_,0,_,.cons r _,e=>by simp at e;subst e;exact⟨_,rfl,r⟩
 |_,_,i+1,u,.cons _ t,e=>by obtain⟨x,h1,h2⟩:=ae.back (i:=i) (u:=u) t (by simpa using e);exact⟨x,by simpa using h1,h2⟩
section
theorem ar.reads(I:Inv X io σ H s){d:PyData}(h:ar X.K H n v d):∀{u:Value},RelV v u->∃as,Reads s.heap u d as:=by
 induction h with
 |bu=>intro u r;cases r;exact⟨_,.none⟩
 |bl b=>intro u r;cases r;exact⟨_,.bool b⟩
 |int i=>intro u r;obtain⟨t,rfl⟩:=r;exact⟨_,.int i t⟩
 |str x hx=>intro u r;obtain⟨t,rfl⟩:=r;exact⟨_,.str x t⟩
 |lst ha hl h ih =>
  intro u r;cases r;obtain⟨aS,rv,⟨o,n,ho,hc,_,hd⟩,hz⟩:=I.list ha;obtain⟨as,rs⟩:=lJ (h:=s.heap) aS _ (by rw[<-rv.length,hl]) λi u d h1 h2=>by obtain⟨x,h3,h4⟩:=rv.back h1;exact ih i x d h3 h2 h4
  exact⟨_,.list ho hc hd (by simpa using rs)⟩
 |tup ha hl h ih =>
  intro u r;cases r;obtain⟨aS,rv,⟨o,ho,hc,n,hd⟩,hz⟩:=I.tuple ha;obtain⟨as,rs⟩:=lJ (h:=s.heap) aS _ (by rw[<-rv.length,hl]) λi u d h1 h2=>by obtain⟨x,h3,h4⟩:=rv.back h1;exact ih i x d h3 h2 h4
  exact⟨_,.tuple ho hc hd (by simpa using rs)⟩
def ND(K:W.Frag)(neg:Bool):R2:=λx y H Q=>∃d e,ar K H 8 x d/\ar K H 8 y e/\Q (.bl (if neg then !PyData.eqv d e else PyData.eqv d e)) H
theorem wW(K:W.Frag)(hu:X.A.units+16<cLine)(hK:X.K=K:=by rfl):jg X (compareOp .Eq) (ND K false):=by subst hK;intro io s σ H x y v u Q I rx ry h;obtain⟨d,e,h1,h2,q⟩:=h;obtain⟨as,r1⟩:=h1.reads I rx;obtain⟨bs,r2⟩:=h2.reads I ry;have z:=h1.QP;exact SeqAt.compareEq_reads r1 r2 h1.lay h2.lay (by lia) ⟨.bl _,H,I,rfl,q⟩
theorem AO(K:W.Frag)(hu:X.A.units+16<cLine)(hK:X.K=K:=by rfl):jg X (compareOp .NotEq) (ND K true):=by subst hK;intro io s σ H x y v u Q I rx ry h;obtain⟨d,e,h1,h2,q⟩:=h;obtain⟨as,r1⟩:=h1.reads I rx;obtain⟨bs,r2⟩:=h2.reads I ry;have z:=h1.QP;exact SeqAt.compareNe_reads r1 r2 h1.lay h2.lay (by lia) ⟨.bl _,H,I,rfl,q⟩
end
theorem ar.eqv{K:W.Frag}{H:Hp}{n:Nat}{v:V}{d:PyData}(h:ar K H n v d):PyData.eqv d d=true:=SeqAt.eqv_refl d h.lay
theorem ar.same{K:W.Frag}{d:PyData}(h:ar K H n v d)(s:aH H H'):ar K H' n v d:=by
 induction h with
 |bu=>exact .bu
 |bl b=>exact .bl b
 |int i=>exact .int i
 |str x hx=>exact .str x hx
 |lst ha hl h ih=>exact .lst (s.seq ha) hl ih
 |tup ha hl h ih=>exact .tup (s.tup ha) hl ih
def Kept(H H':Hp):Prop:=∀(a:Addr)(xs:List V),Rd H a (.tup xs)->Rd H' a (.tup xs)
theorem Kept.tup{K:W.Frag}(k:Kept H H')(h:ab K H a xs):ab K H' a xs:=h.elim (λh=>.inl (k a xs h)) .inr
mutual
def zZ:PyData->Bool
 |.none|.bool _|.int _|.str _=>true
 |.tuple xs=>dz xs
 |.list _|.dict _=>false
def dz:List PyData->Bool
 |[]=>true
 |x::xs=>zZ x&&dz xs
end
theorem sX:∀{ds:List PyData}{d:PyData},dz ds=true->d∈ds->zZ d=true
 |x::xs,d,h,hd=>by
  have h:(zZ x&&dz xs)=true:=h;rw[Bool.and_eq_true]at h;rcases mem_cons.mp hd with rfl|hd
  ·exact h.1
  exact sX h.2 hd
theorem ar.kept{K:W.Frag}{d:PyData}(h:ar K H n v d)(k:Kept H H')(hn:zZ d=true):ar K H' n v d:=by
 induction h with
 |bu=>exact .bu
 |bl b=>exact .bl b
 |int i=>exact .int i
 |str x hx=>exact .str x hx
 |lst ha hl h ih=>cases hn
 |tup ha hl h ih=>exact .tup (k.tup ha) hl λi x d h1 h2=>ih i x d h1 h2 (sX hn (mem_of_getElem? h2))
theorem zY.same{b:Bool}{K:W.Frag}(h:zY b K H a xs)(s:aH H H'):zY b K H' a xs:=by
 cases b
 ·exact s.tup (show ab K H a xs from h)
 exact s.seq (show aV K H a xs from h)
def gx(A:Around)(s:Shared)(x y:Value)(b:Bool):Prop:=∀(prog:Program)(w:World)(E:Value->Shared->Prop)(Q:Value->Shared->Prop),Q (.bool b) s->wpAny (model prog w) A (richCompare .Lt x y) Q E s
def jr(e l:Nat->Bool)(z:Bool):List Nat->Bool
 |[]=>z
 |j::r=>if e j=true then jr e l z r else l j
theorem AQ(l b:Addr)(us ws:Array Value)(n n2:Nat)(dd De:Option Addr)(sl F7:Array (Option Value))(e g:Nat->Bool):
  Meets (Builtin.«tuple.__lt__» ⟨[.ref l,.ref b],[]⟩)
   (λA R s=>s.heap.get? l=some { cls:=.type "tuple",dict:=dd,data:=.seq us n,slots:=sl }/\s.heap.get? b=some { cls:=.type "tuple",dict:=De,data:=.seq ws n2,slots:=F7 } /\
    (∀(j:Nat)(h1:j<us.size)(h2:j<ws.size),SeqAt.EqAt A.in1 s us[j] ws[j] (e j))/\(∀(j:Nat)(h1:j<us.size)(h2:j<ws.size),e j=false->gx A.in1 s us[j] ws[j] (g j)) /\
    R (.ok (.ret (.bool (jr e g (decide (us.size<ws.size)) (List.range (min us.size ws.size)))))) s) :=
 .of_wp λprog w A R s h=>by
  obtain⟨hp,g0,d,tk,os⟩:=s;obtain⟨hl,hb,he,hg,h⟩:=h;have f2:=AutoSeq1.sub_tuple_tuple;have hZ:(us.toList.zip ws.toList).length=min us.size ws.size:=by simp
  wp_walk using AutoSeq1.wpAny_loadPart' hl,AutoSeq1.wpAny_loadPart' hb,wpAny_forIn_list _ (λrest b s'=>b.1=none/\s'=⟨hp,g0,d,tk,os⟩/\∃i,rest=(us.toList.zip ws.toList).drop i /\
   R (.ok (.ret (.bool (jr e g (decide (us.size<ws.size)) ((List.range (min us.size ws.size)).drop i))))) ⟨hp,g0,d,tk,os⟩) _
  case turn =>
   rintro⟨y,x⟩ rest b s' ⟨xt,rfl,i,hz,hR⟩;have hL:i<(us.toList.zip ws.toList).length:=by
    rcases Nat.lt_or_ge i (us.toList.zip ws.toList).length with h'|h'
    ·exact h'
    rw[List.drop_of_length_le h']at hz;cases hz
   have hm:i<min us.size ws.size:=hZ▸hL;have h1:i<us.size:=lt_of_lt_of_le hm (Nat.min_le_left _ _);have h2:i<ws.size:=lt_of_lt_of_le hm (Nat.min_le_right _ _);rw[List.drop_eq_getElem_cons hL]at hz;injection hz with hq hw;have hy:y=us[i]:=(by have:=congrArg Prod.fst hq;simpa using this);have hx:x=ws[i]:=(by have:=congrArg Prod.snd hq;simpa using this);subst hy hx;have hd:(List.range (min us.size ws.size)).drop i=i::(List.range (min us.size ws.size)).drop (i+1):=(by simp[List.drop_eq_getElem_cons,hm]);rw[hd]at hR;refine f8 (he i h1 h2 prog w _ _ ?_);cases hy:e i with
   |true =>
    rw[jr,if_pos hy]at hR
    wp_walk
    exact⟨rfl,rfl,i+1,hw,hR⟩
   |false =>
    rw[jr,if_neg (by rw[hy];decide)]at hR;refine f8 (wpAny_rule (f8 (hg i h1 h2 hy prog w _ _ ?_)))
    wp_walk
    exact⟨_,rfl,hR⟩
  case fin =>
   rintro⟨b1,b2⟩ s' ⟨xt,rfl,i,hz,hR⟩;simp only at xt;subst xt;have hG:min us.size ws.size<=i:=by
    rcases Nat.lt_or_ge i (us.toList.zip ws.toList).length with h'|h'
    ·rw[List.drop_eq_getElem_cons h']at hz;cases hz
    exact hZ▸h'
   rw[List.drop_of_length_le (by simpa using hG)]at hR
   wp_walk
   exact⟨_,rfl,by simpa[Builtin.Tuple.tupleCompareSizes,jr]using hR⟩
  case h =>
   exact⟨rfl,rfl,0,rfl,by simpa using h⟩
theorem gx.tuples{us ws:Array Value}{e g:Nat->Bool}(hl:s.heap.IsTuple l us)(hb:s.heap.IsTuple b ws)(hu:A.units<cLine)(he:∀(j:Nat)(h1:j<us.size)(h2:j<ws.size),SeqAt.EqAt A.in1 s us[j] ws[j] (e j))(hg:∀(j:Nat)(h1:j<us.size)(h2:j<ws.size),e j=false->gx A.in1 s us[j] ws[j] (g j)):gx A s (.ref l) (.ref b) (jr e g (decide (us.size<ws.size)) (List.range (min us.size ws.size))):=λprog w E Q h=>by
 obtain⟨⟨cls,dd,data,sl⟩,ho,hc,n,hd⟩:=id hl;obtain⟨⟨J8,De,data2,F7⟩,CU,D6,n2,hd2⟩:=id hb;simp only at hc hd D6 hd2;subst hc hd D6 hd2;exact richCompare_meets_room (op:=.Lt) ⟨_,ho,rfl⟩ ⟨_,CU,rfl⟩ F.slot_tuple_lt F.entry_tuple_lt (F.args_tuple_lt_2 _ _) (AQ l b us ws n n2 dd De sl F7 e g)
  ⟨ho,CU,he,hg,show Value.bool _≠Value.notImplemented/\Q (.bool _) s from⟨(λx=>nomatch x),h⟩⟩ hu
mutual
def bf:PyData->PyData->Bool
 |.int a,.int b=>decide (a<b)
 |.str x,.str y=>decide (x.cps.toList<y.cps.toList)
 |.tuple xs,.tuple ys=>m7 xs ys
 |_,_=>false
def m7:List PyData->List PyData->Bool
 |[],[]=>false
 |[],_::_=>true
 |_::_,[]=>false
 |x::xs,y::ys=>if PyData.eqv x y=true then m7 xs ys else bf x y
end
mutual
def uE:PyData->PyData->Bool
 |.int _,.int _=>true
 |.str _,.str _=>true
 |.tuple xs,.tuple ys=>uP xs ys
 |_,_=>false
def uP:List PyData->List PyData->Bool
 |x::xs,y::ys=>uE x y&&uP xs ys
 |_,_=>true
end
abbrev mR(xs ys:List PyData)(j:Nat):Bool:=bf (xs.getD j .none) (ys.getD j .none)
theorem yc(e g:Nat->Bool)(z:Bool):∀l:List Nat,jr e g z (l.map (·+1))=jr (λj=>e (j+1)) (λj=>g (j+1)) z l
 |[]=>rfl
 |x::r=>by rw[List.map_cons,jr,jr,yc e g z r]
theorem wX:∀xs ys:List PyData,jr (SeqAt.pairEq xs ys) (mR xs ys) (decide (xs.length<ys.length)) (List.range (min xs.length ys.length))=m7 xs ys
 |[],[]=>by rfl
 |[],_::_=>by simp[jr,m7]
 |_::_,[]=>by simp[jr,m7]
 |x::xs,y::ys=>by
  have e:min (x::xs).length (y::ys).length=min xs.length ys.length+1:=by simp only[length_cons];lia
  rw[e,List.range_succ_eq_map,jr];have e2:List.map Nat.succ (List.range (min xs.length ys.length))=(List.range (min xs.length ys.length)).map (·+1):=rfl;rw[e2,yc,m7];have e3:decide ((x::xs).length<(y::ys).length)=decide (xs.length<ys.length):=by simp
  rw[e3];have:=wX xs ys;rw[<-this];rfl
section
theorem gx.int(i j:Int)(t u:Tok):gx A s (.int i t) (.int j u) (decide (i<j)):=λprog w E Q h=>lt_int h
theorem gx.str(x y:Str)(t u:Tok):gx A s (.str x t) (.str y u) (decide (x.cps.toList<y.cps.toList)):=λprog w E Q h=>lt_str h
end
theorem jW{h:Heap}:∀{vs:List Value}{xs:List PyData}{as:List Addr},ReadsAll h vs xs as->vs.length=xs.length
 |_,_,_,.nil=>rfl
 |_,_,_,.cons _ q=>congrArg Nat.succ (jW q)
theorem fR{h:Heap}:∀{vs:List Value}{xs:List PyData}{as:List Addr},ReadsAll h vs xs as->∀(j:Nat)(hj:j<vs.length),∃bs,Reads h vs[j] (xs.getD j .none) bs
 |_,_,_,.nil,_,hj=>absurd hj (not_lt_zero _)
 |_,_,_,.cons r _,0,_=>⟨_,r⟩
 |_,_,_,.cons _ q,j+1,hj=>fR q j (Nat.lt_of_succ_lt_succ hj)
theorem wY:∀(xs ys:List PyData),uP xs ys=true->∀j,j<xs.length->j<ys.length->uE (xs.getD j .none) (ys.getD j .none)=true
 |[],_,_,_,h,_=>absurd h (not_lt_zero _)
 |_::_,[],_,_,_,h=>absurd h (not_lt_zero _)
 |x::xs,y::ys,o,j,h1,h2=>by
  have go:uE x y=true/\uP xs ys=true:=by simpa[uP]using o
  cases j with
  |zero=>exact go.1
  |succ j=>exact wY xs ys go.2 j (Nat.lt_of_succ_lt_succ h1) (Nat.lt_of_succ_lt_succ h2)
theorem sY:∀(xs:List PyData),PyData.canLayAll0 xs=true->∀j,j<xs.length->(xs.getD j .none).canLay0=true
 |[],_,_,h=>absurd h (not_lt_zero _)
 |x::xs,o,j,h=>by
  have ga:x.canLay0=true/\PyData.canLayAll0 xs=true:=by simpa[PyData.canLayAll0]using o
  cases j with
  |zero=>exact ga.1
  |succ j=>exact sY xs ga.2 j (Nat.lt_of_succ_lt_succ h)
theorem AR:∀(xs:List PyData)(j:Nat),j<xs.length->(xs.getD j .none).depth<=PyData.depthAll xs
 |[],_,h=>absurd h (not_lt_zero _)
 |x::xs,j,h=>by
  show _<=max x.depth (PyData.depthAll xs);cases j with
  |zero=>exact Nat.le_max_left _ _
  |succ j=>exact le_trans (AR xs j (Nat.lt_of_succ_lt_succ h)) (Nat.le_max_right _ _)
theorem Ed:∀(n:Nat)(d e:PyData)(A:Around)(s:Shared)(a b:Value)(as bs:List Addr),d.depth<=n->Reads s.heap a d as->Reads s.heap b e bs->d.canLay0=true->e.canLay0=true->uE d e=true ->
  A.units+n<cLine->gx A s a b (bf d e):=by
 intro n
 induction n with
 |zero =>
  intro d e A s a b as bs hn ra rb ha hb ho hu;cases ra with
  |int=>cases rb with
   |int=>exact gx.int _ _ _ _
   |_=>simp[uE]at ho
  |str=>cases rb with
   |str=>exact gx.str _ _ _ _
   |_=>simp[uE]at ho
  |tuple=>exact absurd hn (by show ¬(_+1<=0);lia)
  |_=>simp[uE]at ho
 |succ n ih =>
  intro d e A s a b as bs hn ra rb ha hb ho hu;cases ra with
  |int=>cases rb with
   |int=>exact gx.int _ _ _ _
   |_=>simp[uE]at ho
  |str=>cases rb with
   |str=>exact gx.str _ _ _ _
   |_=>simp[uE]at ho
  |@tuple a o vs m xs _ h1 h2 h3 h4 =>
   cases rb with
   |@tuple b o2 ws m2 ys _ k1 k2 k3 k4 =>
    have l1:=jW h4;have l2:=jW k4;have e1:vs.size=xs.length:=(by simpa using l1);have e2:ws.size=ys.length:=(by simpa using l2);have ho:uP xs ys=true:=(by simpa[uE]using ho);have hn:PyData.depthAll xs<=n:=Nat.le_of_succ_le_succ hn;have q:=gx.tuples (A:=A) (s:=s) (e:=SeqAt.pairEq xs ys) (g:=mR xs ys) ⟨o,h1,h2,m,h3⟩ ⟨o2,k1,k2,m2,k3⟩ (by lia) (λj j1 j2=>?_) (λj j1 j2 _=>?_)
    ·rw[e1,e2,wX]at q;have e3:bf (.tuple xs) (.tuple ys)=m7 xs ys:=(by rw[bf]);rw[e3];exact q
    ·have:=SeqAt.eqAt_readsAll xs ys A.in1 s vs.toList ws.toList _ _ h4 k4 ha hb (by show A.units+1+_<cLine;lia) j (by simpa using j1) (by simpa using j2)
     simpa using this
    obtain⟨QQ,q1⟩:=fR h4 j (by simpa using j1);obtain⟨QR,q2⟩:=fR k4 j (by simpa using j2);have:=ih _ _ A.in1 s _ _ QQ QR (le_trans (AR xs j (by lia)) hn) q1 q2 (sY xs ha j (by lia)) (sY ys hb j (by lia)) (wY xs ys ho j (by lia) (by lia)) (by show A.units+1+n<cLine;lia)
    simpa[mR]using this
   |_=>simp[uE]at ho
  |_=>simp[uE]at ho
section
open PySem.W
structure Ord(N:Nat)(lt:Nat->Nat->Bool):Prop where
 cw:∀x y,x<N->y<N->lt x y=true->lt y x=false
 rV:∀x y z,x<N->y<N->z<N->lt y x=false->lt z y=false->lt z x=false
structure m9(N:Nat)(p:Array Nat):Prop where
 sz:p.size=N
 lo:∀i,i<N->p.getD i 0<N
 pm:p.Perm (List.toArray (List.range N))
variable{N:Nat}{cmp:Nat->Nat->(Bool->Shared->Prop)->Shared->Prop}
def zb(lt:Nat->Nat->Bool)(p:Array Nat)(m:Nat):Prop:=∀i j,i<=j->j<m->lt (p.getD j 0) (p.getD i 0)=false
def JK(lt:Nat->Nat->Bool)(p:Array Nat)(m:Nat):Prop:=∀i j,i<=j->j<m->lt (p.getD i 0) (p.getD j 0)=false
def Lo(lt:Nat->Nat->Bool)(p:Array Nat)(a b:Nat):Prop:=∀i j,a<=i->i<b->a<=j->j<b->lt (p.getD i 0) (p.getD j 0)=false
theorem Ord.refl(o:Ord N lt){x:Nat}(h:x<N):lt x x=false:=by
 cases e:lt x x with
 |false=>rfl
 |true=>rw[<-o.cw x x h h e,e]
theorem m9.of{q:Array Nat}(h:m9 N p)(hp:q.Perm p)(hz:q.size=p.size):m9 N q:=by
 have e:=hp.trans h.pm;refine⟨hz.trans h.sz,λi hi=>?_,e⟩;have hq:i<q.size:=by rw[hz,h.sz];exact hi
 have m:q.getD i 0∈q:=by
  have:q.getD i 0=q[i]:=by simp[Array.getD,hq]
  rw[this];exact Array.getElem_mem hq
 have m2:=e.mem_iff.mp m
 simpa using m2
theorem iu(hj:j<=p.size)(k:Nat):(kas_rev p i j).getD k 0=if i<=k/\k<j then p.getD (i+j-1-k) 0 else p.getD k 0:=by unfold kas_rev;rw[Array.getD_eq_getD_getElem?,getElem?_mirror_all hj k];split<;>rw[Array.getD_eq_getD_getElem?]
theorem m9.rev(h:m9 N p):m9 N (kas_rev p i j):=h.of (mirror_perm ..) (mirror_size ..)
theorem AS{l:Nat}(hk:k<p.size)(hl:l<=k)(i:Nat):(bubble p k (k-l)).getD i 0=if i=l then p.getD k 0 else if l<i/\i<=k then p.getD (i-1) 0 else p.getD i 0:=by
 rw[Array.getD_eq_getD_getElem?,getElem?_bubble hk _ (by lia)];have e:k-(k-l)=l:=by lia
 rw[e];by_cases c1:i=l
 ·rw[if_pos c1,if_pos c1];exact(Array.getD_eq_getD_getElem? ..).symm
 rw[if_neg c1,if_neg c1];by_cases c2:l<i/\i<=k
 ·rw[if_pos c2,if_pos c2];exact(Array.getD_eq_getD_getElem? ..).symm
 rw[if_neg c2,if_neg c2];exact(Array.getD_eq_getD_getElem? ..).symm
theorem m9.UR(h:m9 N p):m9 N (bubble p i j):=h.of (bubble_perm ..) (bubble_size ..)
def JL(N:Nat)(lt:Nat->Nat->Bool)(cmp:Nat->Nat->(Bool->Shared->Prop)->Shared->Prop)(s:Shared):Prop:=∀i j C,i<N->j<N->C (lt i j) s->cmp i j C s
theorem AU(hc:JL N lt cmp s)(o:Ord N lt){p:Array Nat}(h:m9 N p){Q:Nat->Shared->Prop}:∀(f n:Nat),1<=n->n+f<=N->zb lt p n ->
  (∀m,n<=m->m<=n+f->zb lt p m->(m=n+f\/lt (p.getD m 0) (p.getD (m-1) 0)=true)->Q m s)->(kas_asc p f n).kasWp cmp Q s
 |0,n,_,_,a,q=>q n (le_refl _) (by lia) a (.inl rfl)
 |f+1,n,h1,hf,a,q=>by
  refine hc _ _ _ (h.lo n (by lia)) (h.lo _ (by lia)) ?_;cases e:lt (p.getD n 0) (p.getD (n-1) 0)with
  |true=>exact q n (le_refl _) (by lia) a (.inr e)
  |false =>
   refine AU hc o h f (n+1) (by lia) (by lia) (λi j yd hj=>?_) λm m1 m2 m3 m4=>q m (by lia) (by lia) m3 (m4.imp (λz=>by lia) id);by_cases NF:j<n
   ·exact a i j yd NF
   obtain rfl:j=n:=(by lia);by_cases hi:i=j
   ·subst hi;exact o.refl (h.lo i (by lia))
   exact o.rV _ (p.getD (j-1) 0) _ (h.lo i (by lia)) (h.lo _ (by lia)) (h.lo j (by lia)) (a i (j-1) (by lia) (by lia)) e
theorem JK.rev{r:Nat}(h:m9 N p)(hn:n<=N)(hr:r<=n)(d:JK lt p n)(e:Lo lt p r n):JK lt (kas_rev p r n) n:=by
 intro i j yd hj;rw[iu (by rw[h.sz];exact hn),iu (by rw[h.sz];exact hn)];by_cases c1:r<=i
 ·rw[if_pos ⟨c1,by lia⟩,if_pos ⟨by lia,hj⟩];exact e _ _ (by lia) (by lia) (by lia) (by lia)
 rw[if_neg (by lia)];by_cases c2:r<=j
 ·rw[if_pos ⟨c2,hj⟩];exact d _ _ (by lia) (by lia)
 rw[if_neg (by lia)];exact d _ _ yd hj
theorem rW(hc:JL N lt cmp s)(o:Ord N lt){Q:Array Nat×Nat×Nat->Shared->Prop}:∀(f:Nat)(p:Array Nat)(n q:Nat),m9 N p->q+1<=n->n+f<=N->JK lt p n->Lo lt p (n-(q+1)) n ->
  (∀p' n' q',m9 N p'->q'+1<=n'->n'<=n+f->JK lt p' n'->Lo lt p' (n'-(q'+1)) n'->Q (p',n',q') s)->(kas_desc f p n q).kasWp cmp Q s
 |0,p,n,q,h,h1,hf,d,e,k=>k p n q h h1 (by lia) d e
 |f+1,p,n,q,h,h1,hf,d,e,k=>by
  refine hc _ _ _ (h.lo n (by lia)) (h.lo _ (by lia)) ?_;have more:∀p':Array Nat,m9 N p'->JK lt p' n->lt (p'.getD (n-1) 0) (p'.getD n 0)=false->JK lt p' (n+1):=by
   intro p' h' d' z i j yd hj;by_cases NF:j<n
   ·exact d' i j yd NF
   obtain rfl:j=n:=(by lia);by_cases hi:i=j
   ·subst hi;exact o.refl (h'.lo i (by lia))
   exact o.rV _ (p'.getD (j-1) 0) _ (h'.lo j (by lia)) (h'.lo _ (by lia)) (h'.lo i (by lia)) z (d' i (j-1) (by lia) (by lia))
  have one:∀p':Array Nat,m9 N p'->Lo lt p' (n+1-(0+1)) (n+1):=by intro p' h' i j a1 a2 a3 a4;obtain rfl:i=n:=(by lia);obtain rfl:j=i:=(by lia);exact o.refl (h'.lo j (by lia))
  cases e1:lt (p.getD n 0) (p.getD (n-1) 0)with
  |true =>
   have z:=o.cw _ _ (h.lo n (by lia)) (h.lo _ (by lia)) e1;show(if q>0 then kas_desc f (kas_rev p (n-(q+1)) n) (n+1) 0 else kas_desc f p (n+1) 0).kasWp cmp Q s;by_cases hq:q>0
   ·rw[if_pos hq];have dr:=d.rev h (by lia) (by lia) e;have z2:lt ((kas_rev p (n-(q+1)) n).getD (n-1) 0) ((kas_rev p (n-(q+1)) n).getD n 0)=false:=by rw[iu (by rw[h.sz];lia),iu (by rw[h.sz];lia),if_pos (by lia),if_neg (by lia)];exact o.rV _ (p.getD (n-1) 0) _ (h.lo n (by lia)) (h.lo _ (by lia)) (h.lo _ (by lia)) z (e _ _ (by lia) (by lia) (by lia) (by lia))
    exact rW hc o f _ (n+1) 0 h.rev (by lia) (by lia) (more _ h.rev dr z2) (one _ h.rev) λp' n' q' a b c=>k p' n' q' a b (by lia)
   rw[if_neg hq];exact rW hc o f p (n+1) 0 h (by lia) (by lia) (more _ h d z) (one _ h) λp' n' q' a b c=>k p' n' q' a b (by lia)
  |false =>
   refine hc _ _ _ (h.lo _ (by lia)) (h.lo n (by lia)) ?_;cases e2:lt (p.getD (n-1) 0) (p.getD n 0)with
   |true=>exact k p n q h h1 (by lia) d e
   |false =>
    refine rW hc o f p (n+1) (q+1) h (by lia) (by lia) (more _ h d e2) (λi j a1 a2 a3 a4=>?_) λp' n' q' a b c=>k p' n' q' a b (by lia);have fwd:∀i,n-(q+1)<=i->i<n->lt (p.getD i 0) (p.getD n 0)=false/\lt (p.getD n 0) (p.getD i 0)=false:=by
     intro i b1 b2;exact⟨o.rV _ (p.getD (n-1) 0) _ (h.lo n (by lia)) (h.lo _ (by lia)) (h.lo i (by lia)) e2 (e _ _ b1 b2 (by lia) (by lia)),
      o.rV _ (p.getD (n-1) 0) _ (h.lo i (by lia)) (h.lo _ (by lia)) (h.lo n (by lia)) (e _ _ (by lia) (by lia) b1 b2) e1⟩
    by_cases c1:i<n
    ·by_cases c2:j<n
     ·exact e i j (by lia) c1 (by lia) c2
     obtain rfl:j=n:=(by lia);exact(fwd i (by lia) c1).1
    obtain rfl:i=n:=(by lia);by_cases c2:j<i
    ·exact(fwd j (by lia) c2).2
    obtain rfl:j=i:=(by lia);exact o.refl (h.lo j (by lia))
theorem ye(hc:JL N lt cmp s)(o:Ord N lt)(h:m9 N p)(h1:1<=n)(hn:n<=N)(d:JK lt p n)(q:∀m p',1<=m->m<=N->m9 N p'->zb lt p' m->Q (m,p') s):(kas_tail3 n N p).kasWp cmp Q s:=by unfold kas_tail3;rw[KasT.kasWp_bind];refine AU hc o h.rev (N-n) n h1 (by lia) (λi j yd hj=>?_) λm a b c _=>q m _ (by lia) (by lia) h.rev c;rw[iu (by rw[h.sz];exact hn),iu (by rw[h.sz];exact hn),if_pos ⟨zero_le _,hj⟩,if_pos ⟨zero_le _,by lia⟩];exact d _ _ (by lia) (by lia)
theorem qi(hc:JL N lt cmp s)(o:Ord N lt)(h:m9 N p)(h1:1<=n)(hn:n<N)(e:Lo lt p 0 n)(z:lt (p.getD n 0) (p.getD (n-1) 0)=true)(q:∀m p',1<=m->m<=N->m9 N p'->zb lt p' m->Q (m,p') s):(kas_descPart n N p).kasWp cmp Q s:=by
 unfold kas_descPart;rw[KasT.kasWp_bind];have z':=o.cw _ _ (h.lo n hn) (h.lo _ (by lia)) z;refine rW hc o (N-(n+1)) p (n+1) 0 h (by lia) (by lia) (λi j yd hj=>?_) (λi j a1 a2 a3 a4=>?_) λp' n' q' g1 g2 g3 g4 g5=>?_
 ·by_cases NF:j<n
  ·exact e i j (by lia) (by lia) (by lia) NF
  obtain rfl:j=n:=by lia
  by_cases hi:i=j
  ·subst hi;exact o.refl (h.lo i (by lia))
  exact o.rV _ (p.getD (j-1) 0) _ (h.lo j (by lia)) (h.lo _ (by lia)) (h.lo i (by lia)) z' (e _ _ (by lia) (by lia) (by lia) (by lia))
 ·obtain rfl:i=n:=by lia
  obtain rfl:j=i:=by lia
  exact o.refl (h.lo j (by lia))
 show(if q'>0 then kas_tail3 n' N (kas_rev p' (n'-(q'+1)) n')else kas_tail3 n' N p').kasWp cmp Q s;by_cases hq:q'>0
 ·rw[if_pos hq];exact ye hc o g1.rev (by lia) (by lia) (g4.rev g1 (by lia) (by lia) g5) q
 rw[if_neg hq];exact ye hc o g1 (by lia) (by lia) g4 q
theorem Ee(hc:JL N lt cmp s)(o:Ord N lt)(h:m9 N p)(hN:1<=N)(q:∀m p',1<=m->m<=N->m9 N p'->zb lt p' m->Q (m,p') s):(kas_count N p).kasWp cmp Q s:=by
 unfold kas_count;rw[KasT.kasWp_bind];refine AU hc o h (N-1) 1 (le_refl _) (by lia) (λi j yd hj=>?_) λm a b c z=>?_
 ·obtain rfl:j=0:=by lia
  obtain rfl:i=0:=by lia
  exact o.refl (h.lo 0 (by lia))
 show(if(m==N)=true then KasT.ret (m,p)else if m>1 then .ask (p.getD 0 0) (p.getD (m-1) 0) λc=>if c=true then .ret (m,p)else kas_descPart m N (kas_rev p 0 m)else kas_descPart m N p).kasWp cmp Q s;by_cases hm:m=N
 ·rw[if_pos (by simp[hm])];exact q m p a (by lia) h c
 rw[if_neg (by simp[hm])];have z':lt (p.getD m 0) (p.getD (m-1) 0)=true:=z.resolve_left (by lia);by_cases h1:m>1
 ·rw[if_pos h1];refine hc _ _ _ (h.lo 0 (by lia)) (h.lo _ (by lia)) ?_;cases e:lt (p.getD 0 0) (p.getD (m-1) 0)with
  |true=>exact q m p a (by lia) h c
  |false =>
   have eq:Lo lt p 0 m:=by intro i j _ i2 _ j2;exact o.rV _ (p.getD (m-1) 0) _ (h.lo j (by lia)) (h.lo _ (by lia)) (h.lo i (by lia)) (c j (m-1) (by lia) (by lia)) (o.rV _ (p.getD 0 0) _ (h.lo _ (by lia)) (h.lo 0 (by lia)) (h.lo i (by lia)) e (c 0 i (by lia) (by lia)))
   refine qi hc o h.rev (by lia) (by lia) (λi j _ i2 _ j2=>?_) ?_ q
   ·rw[iu (by rw[h.sz];lia),iu (by rw[h.sz];lia),if_pos (by lia),if_pos (by lia)];exact eq _ _ (by lia) (by lia) (by lia) (by lia)
   rw[iu (by rw[h.sz];lia),iu (by rw[h.sz];lia),if_neg (by lia),if_pos (by lia)];cases e3:lt (p.getD m 0) (p.getD (0+m-1-(m-1)) 0)with
   |true=>rfl
   |false =>
    have:=o.rV _ (p.getD (0+m-1-(m-1)) 0) _ (h.lo _ (by lia)) (h.lo _ (by lia)) (h.lo m (by lia)) (eq (0+m-1-(m-1)) (m-1) (by lia) (by lia) (by lia) (by lia)) e3;rw[z']at this;cases this
 rw[if_neg h1];obtain rfl:m=1:=by lia
 refine qi hc o h (by lia) (by lia) (λi j _ i2 _ j2=>?_) z' q;obtain rfl:j=0:=by lia
 obtain rfl:i=0:=by lia
 exact o.refl (h.lo 0 (by lia))
theorem sZ(hc:JL N lt cmp s)(o:Ord N lt){p:Array Nat}{k:Nat}(h:m9 N p)(hk:k<N)(a:zb lt p k){Q:Nat->Shared->Prop}:∀(f l r:Nat),l<=r->r<=k->r-l<=f ->
  (∀i,i<l->lt (p.getD k 0) (p.getD i 0)=false)->(∀i,r<=i->i<k->lt (p.getD i 0) (p.getD k 0)=false) ->
  (∀l,l<=k->(∀i,i<l->lt (p.getD k 0) (p.getD i 0)=false)->(∀i,l<=i->i<k->lt (p.getD i 0) (p.getD k 0)=false)->Q l s)->(kas_place p k f l r).kasWp cmp Q s
 |0,l,r,h1,h2,h3,g1,g2,q=>q l (by lia) g1 (λi a b=>g2 i (by lia) b)
 |f+1,l,r,h1,h2,h3,g1,g2,q=>by
  show(if l ≥ r then KasT.ret l else .ask (p.getD k 0) (p.getD ((l+r)/2) 0) λc=>if c=true then kas_place p k f l ((l+r)/2)else kas_place p k f ((l+r)/2+1) r).kasWp cmp Q s;by_cases R0:l ≥ r
  ·rw[if_pos R0];exact q l (by lia) g1 (λi a b=>g2 i (by lia) b)
  rw[if_neg R0];refine hc _ _ _ (h.lo k hk) (h.lo _ (by lia)) ?_;cases e:lt (p.getD k 0) (p.getD ((l+r)/2) 0)with
  |true =>
   have e':=o.cw _ _ (h.lo k hk) (h.lo _ (by lia)) e;refine sZ hc o h hk a f l ((l+r)/2) (by lia) (by lia) (by lia) g1 (λi a1 a2=>?_) q;exact o.rV _ (p.getD ((l+r)/2) 0) _ (h.lo k hk) (h.lo _ (by lia)) (h.lo i (by lia)) e' (a _ _ a1 a2)
  |false =>
   refine sZ hc o h hk a f ((l+r)/2+1) r (by lia) h2 (by lia) (λi a1=>?_) g2 q;exact o.rV _ (p.getD ((l+r)/2) 0) _ (h.lo i (by lia)) (h.lo _ (by lia)) (h.lo k hk) (a _ _ (by lia) (by lia)) e
theorem Ef(hc:JL N lt cmp s)(o:Ord N lt){Q:Array Nat->Shared->Prop}:∀(f:Nat)(p:Array Nat)(k:Nat),m9 N p->k+f<=N->zb lt p k ->
  (∀p',m9 N p'->zb lt p' (k+f)->Q p' s)->(kas_bin f p k).kasWp cmp Q s
 |0,p,k,h,_,a,q=>q p h a
 |f+1,p,k,h,hf,a,q=>by
  show((kas_place p k k 0 k).bind λl=>kas_bin f (bubble p k (k-l)) (k+1)).kasWp cmp Q s;rw[KasT.kasWp_bind];refine sZ hc o h (by lia) a k 0 k (zero_le _) (le_refl _) (by lia) (λi hi=>absurd hi (not_lt_zero _)) (λi a b=>by lia) λl hl g1 g2=>?_;refine Ef hc o f _ (k+1) h.UR (by lia) (λi j yd hj=>?_) λp' h' a'=>q p' h' (by rw[show k+(f+1)=k+1+f by lia];exact a');have b1:(bubble p k (k-l)).getD l 0=p.getD k 0:=by rw[AS (by rw[h.sz];lia) hl,if_pos rfl]
  have b2:∀i,l<i->i<=k->(bubble p k (k-l)).getD i 0=p.getD (i-1) 0:=λi x y=>by rw[AS (by rw[h.sz];lia) hl,if_neg (by lia),if_pos ⟨x,y⟩]
  have b3:∀i,i<l->(bubble p k (k-l)).getD i 0=p.getD i 0:=λi x=>by rw[AS (by rw[h.sz];lia) hl,if_neg (by lia),if_neg (by lia)]
  rcases Nat.lt_trichotomy i l with ci|ci|ci
  ·rw[b3 i ci];rcases Nat.lt_trichotomy j l with cj|cj|cj
   ·rw[b3 j cj];exact a _ _ yd (by lia)
   ·rw[cj,b1];exact g1 i ci
   rw[b2 j cj (by lia)];exact a _ _ (by lia) (by lia)
  ·rw[ci,b1];rcases Nat.lt_trichotomy j l with cj|cj|cj
   ·lia
   ·rw[cj,b1];exact o.refl (h.lo k (by lia))
   rw[b2 j cj (by lia)];exact g2 _ (by lia) (by lia)
  rw[b2 i ci (by lia),b2 j (by lia) (by lia)];exact a _ _ (by lia) (by lia)
theorem G8(hc:JL N lt cmp s)(o:Ord N lt)(hN:1<=N){Q:Array Nat->Shared->Prop}(q:∀p,m9 N p->zb lt p N->Q p s):(kas_sort N).kasWp cmp Q s:=by
 unfold kas_sort;rw[KasT.kasWp_bind];refine Ee hc o ⟨by simp,λi hi=>by simp[Array.getD,hi],Array.Perm.refl _⟩ hN λm p' h1 hm h a=>?_;show(if m<N then kas_bin (N-max m 1) p' (max m 1)else KasT.ret p').kasWp cmp Q s;have e:max m 1=m:=by lia
 rw[e];by_cases cN:m<N
 ·rw[if_pos cN];exact Ef hc o _ _ _ h (by lia) a λUS UT R1=>q US UT (by rw[show m+(N-m)=N by lia]at R1;exact R1)
 rw[if_neg cN];obtain rfl:m=N:=by lia
 exact q p' h a
end
section
open PySem.W
def Grows(h h':Heap):Prop:=∀(b:Addr)(o:Obj),h.get? b=some o->h'.get? b=some o
structure nW(prog:Program)(w:World)(A:Around)(h:Heap)(vs:List Value)(lt:Nat->Nat->Bool)(κ:SortKind):Prop where
 ord:Ord vs.length lt
 kind:∀(s':Shared)(E:Value->Shared->Prop)(Q:SortKind->Shared->Prop),Grows h s'.heap->2<=vs.length->Q κ s'->wpAny (model prog w) A (keyKind' vs.toArray) Q E s'
 cmp:∀(s':Shared)(i j:Nat)(C:Bool->Shared->Prop),Grows h s'.heap->i<vs.length->j<vs.length->C (lt i j) s'->wpAny (model prog w) A (keyLt' κ (vs.getD i Value.none) (vs.getD j Value.none)) C (λ_ _=>False) s'
def eR(vs:List Value)(p:Array Nat):List Value:=p.toList.map λi=>vs.getD i Value.none
theorem Cq(vs:List Value):eR vs (List.toArray (List.range vs.length))=vs:=by unfold eR;refine List.ext_getElem (by simp) λi h1 h2=>?_;simp[h2]
theorem js{κ:SortKind}{P:PySem.Fin->Shared->Prop}(ho:s.heap.get? a=some (seqObj "list" vs.toArray n))(hg:∀(b:Addr)(o:Obj),h.get? b=some o->b≠a/\s.heap.get? b=some o)(S:nW prog w A h vs lt κ)(F9:vs.length<64)(q:∀p,m9 vs.length p->zb lt p vs.length->P (.done (.ret .none)) { s with heap:=sortedHeap s.heap a vs (eR vs p).toArray }):wpAny (model prog w) A (Builtin.«list.sort» ⟨[.ref a],[]⟩) P E s:=by
 rw[list_sort_plain];have ha:a<s.heap.objs.size:=Heap.lt_size ho;have hz:vs.toArray.size=vs.length:=size_toArray ..;refine f8 (listItems_at ho rfl (f8 (listUpdate_at ho rfl ?_ (by rw[hz,sizeLine_eq];lia) (zero_le _))));obtain⟨e1,Lp⟩:∃e1,(s.heap.update a (Obj.mapSeq λ_=>#[])).get? a=some (seqObj "list" #[] e1):=⟨_,get?_update_seq ho (λ_=>#[])⟩;refine f8 (seqEpoch_at Lp rfl (f8 (wpAny_newTuple ?_ (by show vs.length<=_;rw[sizeLine_eq];lia))));refine f8 (wpAny_newList (wpAny_holding ?_) (zero_le _));have Od:(((s.heap.update a (Obj.mapSeq λ_=>#[])).push (seqObj "tuple" vs.toArray 0)).push (seqObj "list" #[] 0)).get? a=some (seqObj "list" #[] e1):=Heap.get?_push_of_some _ (Heap.get?_push_of_some _ Lp);have gr:Grows h (((s.heap.update a (Obj.mapSeq λ_=>#[])).push (seqObj "tuple" vs.toArray 0)).push (seqObj "list" #[] 0)):=λb o e =>
  Heap.get?_push_of_some _ (Heap.get?_push_of_some _ (((Heap.SameBut.update s.heap a (Obj.mapSeq λ_=>(#[]:Array Value))).2 b (hg b o e).1).trans (hg b o e).2))
 show wpAny (model prog w) A _ P E { s with heap:=((s.heap.update a (Obj.mapSeq λ_=>#[])).push (seqObj "tuple" vs.toArray 0)).push (seqObj "list" #[] 0) }
 dsimp only;by_cases h2:vs.toArray.size<2
 ·rw[if_pos h2,if_pos h2];refine f8 (im ?_);rw[StateT.run_pure];refine f8 (im ?_);dsimp only;refine f8 (seqEpoch_at Od rfl ?_);have Kk:(arrOf (SortSt.mk' general' (vs.toArray.zip vs.toArray) #[] 7 none)).map (·.2)=vs.toArray:=by show(pairsOf vs).map (·.2)=_;apply Array.toList_inj.mp;rw[Array.toList_map,pairsOf_toList,List.map_snd_zip (le_refl _)]
  rw[Kk];refine f8 (listUpdate_at Od rfl ?_ (zero_le _) (by rw[hz,sizeLine_eq];lia));simp only[bne_self_eq_false,Bool.false_eq_true,if_false];have:=q (List.toArray (List.range vs.length)) ⟨by simp,λi hi=>by simp[Array.getD,hi],Array.Perm.refl _⟩ (λi j yd hj=>by obtain rfl:j=i:=(by lia);exact S.ord.refl (by simp[Array.getD,hj]))
  rw[Cq]at this;exact im this
 rw[if_neg h2,if_neg h2];have NG:2<=vs.length:=by lia
 refine f8 (S.kind _ E _ gr NG ?_);have UU:SortSt.mk' κ (vs.toArray.zip vs.toArray) #[] 7 none=kas_st κ (pairsOf vs) (List.toArray (List.range vs.length)):=by have e:=kas_range (pairsOf vs);rw[pairsOf_size]at e;show SortSt.mk' κ (pairsOf vs) #[] 7 none=SortSt.mk' κ _ #[] 7 none;rw[e]
 have run:=kas_runs (prog:=prog) (w:=w) (A:=A) (E:=E) (κ:=κ) (it:=pairsOf vs) (s:={ s with heap:=((s.heap.update a (Obj.mapSeq λ_=>#[])).push (seqObj "tuple" vs.toArray 0)).push (seqObj "list" #[] 0) })
  (Q:=λ_ uC s'=>s'={ s with heap:=((s.heap.update a (Obj.mapSeq λ_=>#[])).push (seqObj "tuple" vs.toArray 0)).push (seqObj "list" #[] 0) }/\∃p,m9 vs.length p/\zb lt p vs.length/\arrOf uC=p.map (kas_item (pairsOf vs))/\failedOf uC=none)
  (G:=λp s'=>s'={ s with heap:=((s.heap.update a (Obj.mapSeq λ_=>#[])).push (seqObj "tuple" vs.toArray 0)).push (seqObj "list" #[] 0) }/\m9 vs.length p/\zb lt p vs.length)
  NG F9 (λp' uC s' _ a2 a3 a4=>⟨a4.1,p',a4.2.1,a4.2.2,a2,a3⟩) (G8 (λi j C hi hj hC=>by rw[<-kas_ask_eq];exact S.cmp _ i j C gr hi hj hC) S.ord (by lia) λp hp ap=>⟨rfl,hp,ap⟩)
 rw[<-UU]at run;refine f8 (wpAny_mono run ?_ λ_ _ e=>e);rintro⟨⟨⟩,uC⟩ s' ⟨rfl,p,hp,ap,UW,hf⟩;dsimp only;have Kk:(arrOf uC).map (·.2)=(eR vs p).toArray:=by apply Array.toList_inj.mp;rw[UW,Array.map_map,Array.toList_map];exact List.map_congr_left λi _=>by show(kas_item (pairsOf vs) i).2=_;rw[kas_item_eq]
 have hsz:(eR vs p).toArray.size=vs.length:=by unfold eR;rw[size_toArray,length_map,Array.length_toList,hp.sz]
 rw[Kk];refine f8 (seqEpoch_at Od rfl ?_);refine f8 (listUpdate_at Od rfl ?_ (zero_le _) (le_trans (Nat.le_of_eq hsz) (by rw[sizeLine_eq];lia)));rw[hf];simp only[bne_self_eq_false,Bool.false_eq_true,if_false];exact im (q p hp ap)
theorem Cr{x:Value}{κ:SortKind}{Q:Value->Shared->Prop}(F9:vs.length<64)(col:∀R:List Value->Shared->Prop,(∀(h':Heap)(tk:Tok),Grows s.heap h'->s.heap.objs.size<=h'.objs.size->R vs { s with heap:=h',toks:=tk })->wpAny (model prog w) A.in1 (collect x) R E s)(S:nW prog w A.in1.in1 s.heap vs lt κ)(q:∀(p:Array Nat)(h':Heap)(tk:Tok)(e:Nat)(l:Addr),m9 vs.length p->zb lt p vs.length->Grows s.heap h'->s.heap.objs.size<=l->h'.get? l=some (seqObj "list" (eR vs p).toArray e)->Q (.ref l) { s with heap:=h',toks:=tk }):
  wpAny (model prog w) A (call (.builtin "sorted") [x]) Q E s:=by
 refine Calls.call_function_entry kind_sorted plain_sorted entry_sorted (args_sorted1 _) ?_;unfold Builtin.«sorted»;refine f8 (m:=checkCount "sorted" 1 1 _) (im ?_);refine f8 (col _ λh' tk g hz=>?_);refine f8 (wpAny_newList ?_ (by rw[sizeLine_eq];lia));have CJ:(h'.push (seqObj "list" vs.toArray 0)).get? h'.objs.size=some (seqObj "list" vs.toArray 0):=Heap.get?_push_size _ rfl;show wpAny _ _ _ _ _ { s with heap:=h'.push (seqObj "list" vs.toArray 0),toks:=tk };refine f8 (wpAny_holding (wpAny_call_entry slot_list_sort ⟨_,CJ,rfl⟩ entry_list_sort (js (h:=s.heap) CJ (λb o e=>⟨λz=>absurd (Heap.lt_size e) (by rw[z];exact Nat.not_lt.mpr hz),Heap.get?_push_of_some _ (g b o e)⟩) S F9 λp hp ap=>⟨_,rfl,?_⟩) (args_list_sort _)))
 obtain⟨e,he⟩:∃e,(sortedHeap (h'.push (seqObj "list" vs.toArray 0)) h'.objs.size vs (eR vs p).toArray).get? h'.objs.size=some (seqObj "list" (eR vs p).toArray e):=by unfold sortedHeap;obtain⟨e1,z1⟩:∃e1,((h'.push (seqObj "list" vs.toArray 0)).update h'.objs.size (Obj.mapSeq λ_=>#[])).get? h'.objs.size=some (seqObj "list" #[] e1):=⟨_,get?_update_seq CJ (λ_=>#[])⟩;exact⟨_,get?_update_seq (Heap.get?_push_of_some _ (Heap.get?_push_of_some _ z1)) _⟩
 refine im ⟨_,rfl,q p _ tk e _ hp ap (λb o z=>?_) hz he⟩;have nb:b≠h'.objs.size:=λy=>absurd (Heap.lt_size z) (by rw[y];exact Nat.not_lt.mpr hz);unfold sortedHeap;rw[(Heap.SameBut.update _ h'.objs.size (Obj.mapSeq λ_=>(eR vs p).toArray)).2 b nb];refine Heap.get?_push_of_some _ (Heap.get?_push_of_some _ ?_);rw[(Heap.SameBut.update _ h'.objs.size (Obj.mapSeq λ_=>(#[]:Array Value))).2 b nb];exact Heap.get?_push_of_some _ (g b o z)
end
section
open PySem.W
theorem yf{Q:List Value->Shared->Prop}(ho:s.heap.get? l=some o)(hc:o.cls=.type T)(hT:T="list"\/T="tuple")(hd:o.data=.seq vs.toArray n)(hz:vs.length<=sizeLine)(q:Q vs { s with heap:=(s.heap.push (seqObj "list" #[] 0)).update s.heap.objs.size (Obj.mapSeq (·++vs.toArray)) }):wpAny (model prog w) A (collect (.ref l)) Q E s:=by
 unfold collect;refine f8 (wpAny_runValue (codeAny_builtin entry_proto_collect' ?_));show wpAny _ _ (do again (.builtin "list.__iadd__" ⟨[<-newList [],.ref l],[]⟩)) _ _ s
 refine f8 (wpAny_newList (im ⟨Code.quiet_builtin _ (by decide +kernel),codeAny_builtin entry_list_iadd' ?_⟩));show wpAny _ _ (Builtin.List.listExtendWith (.ref s.heap.objs.size) (.ref l) (.ref s.heap.objs.size)) _ _ { s with heap:=s.heap.push (seqObj "list" #[] 0) };unfold Builtin.List.listExtendWith;have hp:(s.heap.push (seqObj "list" #[] 0)).get? l=some o:=Heap.get?_push_of_some _ ho;have hn:(s.heap.push (seqObj "list" #[] 0)).get? s.heap.objs.size=some (seqObj "list" #[] 0):=Heap.get?_push_size _ rfl;refine f8 (wpAny_typeOf (T:=T) ⟨o,hp,hc⟩ ?_);rw[if_pos (by rcases hT with rfl|rfl<;>simp[show(Value.type "list"==Value.type "list")=true from rfl,show(Value.type "tuple"==Value.type "tuple")=true from rfl])];refine f8 (listItems_at hp hd (f8 (listItems_at hn rfl ?_)));rw[if_neg (by simp)];refine f8 (listUpdate_at hn rfl ?_ (zero_le _) (by show(#[]++vs.toArray).size<=sizeLine+1;rw[Array.size_append,size_toArray];simp;lia));refine im ?_;show wpAny (model prog w) A (do
   let o <- load s.heap.objs.size
   match o.data with
   |.seq xs _=>pure xs.toList
   |_=>unsupported "internal:collect") Q E { s with heap:=(s.heap.push (seqObj "list" #[] 0)).update s.heap.objs.size (Obj.mapSeq (·++vs.toArray)) }
 refine f8 (wpAny_load (get?_update_seq hn _) ?_);show wpAny _ _ (pure ((#[]:Array Value)++vs.toArray).toList) Q E _;rw[show((#[]:Array Value)++vs.toArray).toList=vs by simp];exact im q
end
inductive JM(ds:List PyData):Prop where
 |ints (h:∀d∈ds,∃i,d=.int i)
 |strs (h:∀d∈ds,∃x,d=.str x)
 |rows (h:∀d∈ds,∃i r,d=.tuple (.int i::r))
structure rD(ds:List PyData):Prop where
 kd:JM ds
 ok:∀d∈ds,∀e∈ds,uE d e=true
 cw:∀d∈ds,∀e∈ds,bf d e=true->bf e d=false
 rV:∀d∈ds,∀e∈ds,∀f∈ds,bf e d=false->bf f e=false->bf f d=false
theorem getD_mem{α:Type}{l:List α}{z:α}(h:i<l.length):l.getD i z∈l:=by rw[getD_eq_getElem?_getD,getElem?_eq_getElem h];exact List.getElem_mem h
section
open PySem.W
theorem qj{s:Shared}{C:Bool->Shared->Prop}{xs ys:List PyData}{z:Bool}:∀(us vs:List Value)(i j:Nat)(hl:us.length+j=xs.length)(hm:vs.length+j=ys.length)(yd:j=i)(_:∀(k:Nat) (h1:k<us.length) (h2:k<vs.length),SeqAt.EqAt A s us[k] vs[k] (SeqAt.pairEq xs ys (k+j)))(_:∀(k:Nat) (h1:k<us.length) (h2:k<vs.length),SeqAt.pairEq xs ys (k+j)=false->∀Q:Bool->Shared->Prop,Q (mR xs ys (k+j)) s->wpAny (model prog w) A (oneLt' (true&&(k+j==0)) us[k] vs[k]) Q (λ_ _=>False) s)(_:C (jr (SeqAt.pairEq xs ys) (mR xs ys) z ((List.range (min us.length vs.length)).map (·+j))) s),KatLex prog w A true z C (us.zip vs) i s
 |[],vs,i,j,hl,hm,yd,he,hg,q=>by simpa[jr,KatLex]using q
 |_::_,[],i,j,hl,hm,yd,he,hg,q=>by simpa[jr,KatLex]using q
 |u::us,v::vs,i,j,hl,hm,yd,he,hg,q=>by
  subst yd;rw[List.zip_cons_cons];refine kat_cons (he 0 (Nat.zero_lt_succ _) (Nat.zero_lt_succ _) prog w _ _ ?_);have e:min (u::us).length (v::vs).length=min us.length vs.length+1:=by simp only[length_cons];lia
  rw[e,List.range_succ_eq_map,List.map_cons,jr]at q;refine kat_go (λc=>kat_yes ?_) (λc=>kat_no ?_)
  ·rw[if_pos c]at q;refine qj (xs:=xs) (ys:=ys) us vs (j+1) (j+1) (by simp at hl;lia) (by simp at hm;lia) rfl (λk h1 h2=>?_) (λk h1 h2 c2 Q hQ=>?_) ?_
   ·have:=he (k+1) (Nat.succ_lt_succ h1) (Nat.succ_lt_succ h2);rw[show k+1+j=k+(j+1) by lia]at this;exact this
   ·have:=hg (k+1) (Nat.succ_lt_succ h1) (Nat.succ_lt_succ h2);rw[show k+1+j=k+(j+1) by lia]at this;exact this c2 Q hQ
   rw[List.map_map]at q;have e2:((λx=>x+j)∘Nat.succ)=λx=>x+(j+1):=(by funext x;show x+1+j=x+(j+1);lia);rw[e2]at q;exact q
  rw[if_neg (by rw[c];decide)]at q;have:=hg 0 (Nat.zero_lt_succ _) (Nat.zero_lt_succ _) c C q;rw[Nat.zero_add]at this;exact this
theorem Eg{p q:Value}{b:Bool}{Q:Bool->Shared->Prop}(h:gx A s p q b)(k:Q b s):wpAny (model prog w) A (oneLt' false p q) Q E s:=by rw[oneLt'_eq];simp only[Bool.false_eq_true,if_false];exact f8 (h prog w _ _ (wpAny_truthy_bool k))
theorem lK(hl:vs.length=ds.length)(hr:∀(j:Nat)(hj:j<vs.length),∃as,Reads h vs[j] (ds.getD j .none) as)(hy:∀d∈ds,d.canLay0=true)(hp:∀d∈ds,d.depth<=8)(O:rD ds)(hu:A.units+12<cLine):∃κ,nW prog w A h vs (λi j=>bf (ds.getD i .none) (ds.getD j .none)) κ:=by
 have ord:Ord vs.length (λi j=>bf (ds.getD i .none) (ds.getD j .none)):=⟨λx y hx UX=>O.cw _ (getD_mem (by lia)) _ (getD_mem (by lia)),λx y z hx UX hz=>O.rV _ (getD_mem (by lia)) _ (getD_mem (by lia)) _ (getD_mem (by lia))⟩;have gv:∀(i:Nat)(hi:i<vs.length),vs.getD i Value.none=vs[i]:=λi hi=>by simp[hi]
 rcases O.kd with hk|hk|hk
 ·refine⟨oneType',ord,λs' E Q g h2 q=>kas_kind (T:=Value.type "int") h2 (λv hv=>?_) (by decide) (by decide) q,λs' i j C g hi hj q=>?_⟩
  ·obtain⟨j,hj,rfl⟩:=List.getElem_of_mem hv;obtain⟨as,r⟩:=hr j hj;obtain⟨k,e⟩:=hk _ (getD_mem (i:=j) (z:=.none) (by lia));rw[e]at r;cases r1:vs[j]<;>rw[r1]at r<;>cases r;exact Looks.of_pure rfl
  rw[gv i hi,gv j hj];obtain⟨as,r⟩:=hr i hi;obtain⟨bs,t⟩:=hr j hj;obtain⟨k,e⟩:=hk _ (getD_mem (i:=i) (z:=.none) (by lia));obtain⟨m,f⟩:=hk _ (getD_mem (i:=j) (z:=.none) (by lia));rw[e]at r;rw[f]at t;simp only[e,f,bf]at q;generalize vs[i]=u1 at r ⊢;generalize vs[j]=u2 at t ⊢;cases r;cases t;exact kat_lt_int q
 ·refine⟨oneType',ord,λs' E Q g h2 q=>kas_kind (T:=Value.type "str") h2 (λv hv=>?_) (by decide) (by decide) q,λs' i j C g hi hj q=>?_⟩
  ·obtain⟨j,hj,rfl⟩:=List.getElem_of_mem hv;obtain⟨as,r⟩:=hr j hj;obtain⟨k,e⟩:=hk _ (getD_mem (i:=j) (z:=.none) (by lia));rw[e]at r;cases r1:vs[j]<;>rw[r1]at r<;>cases r;exact Looks.of_pure rfl
  rw[gv i hi,gv j hj];obtain⟨as,r⟩:=hr i hi;obtain⟨bs,t⟩:=hr j hj;obtain⟨k,e⟩:=hk _ (getD_mem (i:=i) (z:=.none) (by lia));obtain⟨m,f⟩:=hk _ (getD_mem (i:=j) (z:=.none) (by lia));rw[e]at r;rw[f]at t;simp only[e,f,bf]at q;generalize vs[i]=u1 at r ⊢;generalize vs[j]=u2 at t ⊢;cases r;cases t;exact kas_lt_str q
 have tup:∀(j:Nat)(hj:j<vs.length),∃(a:Addr)(o:Obj)(xs:Array Value)(n:Nat)(k:Int)(t:Tok)(r:List PyData)(as:List Addr),vs[j]=.ref a/\h.get? a=some o/\o.cls=.type "tuple"/\o.data=.seq xs n/\ds.getD j .none=.tuple (.int k::r)/\ReadsAll h xs.toList (.int k::r) as/\xs[0]?=some (.int k t):=by
  intro j hj;obtain⟨as,r⟩:=hr j hj;obtain⟨k,rr,e⟩:=hk _ (getD_mem (i:=j) (z:=.none) (by lia));rw[e]at r;generalize hv:vs[j]=u1 at r;cases r with
  |@tuple a o xs n _ _ h1 h2 h3 h4 =>
   have h0:∃t,xs[0]?=some (.int k t):=by
    generalize hx:xs.toList=l at h4;cases h4 with
    |cons r1 r2 =>
     cases r1 with
     |int _ t=>exact⟨t,by rw[<-Array.getElem?_toList,hx];rfl⟩
   obtain⟨t,ht⟩:=h0;exact⟨a,o,xs,n,k,t,rr,_,rfl,h1,h2,h3,e,h4,ht⟩
 have Kl:∀(l:List Value)(_:∀v∈l,∃(a:Addr) (o:Obj) (xs:Array Value) (n:Nat) (k:Int) (t:Tok),v=.ref a/\h.get? a=some o/\o.cls=.type "tuple"/\o.data=.seq xs n/\xs[0]?=some (.int k t))(h':Heap),Grows h h'->∃fs,KatTups h' l fs/\fs.length=l.length/\∀f∈fs,∃k t,f=Value.int k t:=by
  intro l
  induction l with
  |nil=>intro _ h' _;exact⟨[],trivial,rfl,λf hf=>absurd hf (by simp)⟩
  |cons v l ih =>
   intro hv h' g;obtain⟨fs,k1,k2,k3⟩:=ih (λv mr=>hv v (mem_cons_of_mem _ mr)) h' g;obtain⟨a,o,xs,n,k,t,rfl,h1,h2,h3,h4⟩:=hv v mem_cons_self;exact⟨.int k t::fs,.cons (g a o h1) h2 h3 h4 k1,by simp[k2],λf hf=>(mem_cons.mp hf).elim (λe=>⟨k,t,e⟩) (k3 f)⟩
 refine⟨tuples' (Value.type "int" != Value.type "tuple"),ord,λs' E Q g h2 q=>?_,λs' i j C g hi hj q=>?_⟩
 ·obtain⟨fs,k1,k2,k3⟩:=Kl vs (λv hv=>by obtain⟨j,hj,rfl⟩:=List.getElem_of_mem hv;obtain⟨a,o,xs,n,k,t,r,as,e1,e2,e3,e4,e5,e6,e7⟩:=tup j hj;exact⟨a,o,xs,n,k,t,e1,e2,e3,e4,e7⟩) s'.heap g
  exact kat_kind (T:=Value.type "int") k1 (by lia) (λv hv=>by obtain⟨k,t,rfl⟩:=k3 v hv;exact Looks.of_pure rfl) (by decide) q
 rw[gv i hi,gv j hj];obtain⟨a,o,xs,n,k,t,r,as,e1,e2,e3,e4,e5,e6,e7⟩:=tup i hi;obtain⟨a',o',Lq,n',k',t',r',Wi,f1,f2,f3,f4,f5,f6,f7⟩:=tup j hj;have mi:=getD_mem (l:=ds) (i:=i) (z:=.none) (by lia);have mj:=getD_mem (l:=ds) (i:=j) (z:=.none) (by lia);have di:=hp _ mi;have dj:=hp _ mj;have yi:=hy _ mi;have yj:=hy _ mj;have ho:=O.ok _ mi _ mj;rw[e5]at di yi;rw[f5]at dj yj;rw[e5,f5]at ho;simp only[e5,f5]at q;have di:PyData.depthAll (.int k::r)<=7:=Nat.le_of_succ_le_succ di;have dj:PyData.depthAll (.int k'::r')<=7:=Nat.le_of_succ_le_succ dj;have yi:PyData.canLayAll0 (.int k::r)=true:=yi;have yj:PyData.canLayAll0 (.int k'::r')=true:=yj;have ho:uP (.int k::r) (.int k'::r')=true:=by simpa[uE]using ho
 rw[e1,f1];have g6:=ReadsAll.keeps g e6;have R3:=ReadsAll.keeps g f6;have l1:=jW e6;have l2:=jW f6;refine kat_lt (g a o e2) e4 (g a' o' f2) f4 ?_;have sz:decide (xs.size<Lq.size)=decide ((PyData.int k::r).length<(PyData.int k'::r').length):=by rw[<-l1,<-l2];simp
 rw[sz];refine qj (xs:=.int k::r) (ys:=.int k'::r') xs.toList Lq.toList 0 0 (by lia) (by lia) rfl (λm h1 h2=>?_) (λm h1 h2 c Q hQ=>?_) ?_
 ·exact SeqAt.eqAt_readsAll _ _ A s' xs.toList Lq.toList _ _ g6 R3 yi yj (by lia) m h1 h2
 ·by_cases hm:m=0
  ·subst hm;have z1:xs.toList[0]=.int k t:=by have:xs.toList[0]?=some (.int k t):=(by rw[Array.getElem?_toList];exact e7);rw[getElem?_eq_getElem h1]at this;exact Option.some.inj this
   have z2:Lq.toList[0]=.int k' t':=by have:Lq.toList[0]?=some (.int k' t'):=(by rw[Array.getElem?_toList];exact f7);rw[getElem?_eq_getElem h2]at this;exact Option.some.inj this
   rw[z1,z2];exact oneLt_int (by simpa[mR,bf]using hQ)
  have eb:(true&&(m+0==0))=false:=by simp[hm]
  rw[eb];obtain⟨QQ,q1⟩:=fR g6 m h1;obtain⟨QR,q2⟩:=fR R3 m h2;exact Eg (Ed 7 _ _ A s' _ _ QQ QR (le_trans (AR _ m (by lia)) di) q1 q2 (sY _ yi m (by lia)) (sY _ yj m (by lia)) (wY _ _ ho m (by lia) (by lia)) (by lia)) hQ
 have e0:((List.range (min xs.toList.length Lq.toList.length)).map (·+0))=List.range (min (PyData.int k::r).length (PyData.int k'::r').length):=by rw[l1,l2];simp
 rw[e0,wX]
 simpa[bf]using q
end
section
variable{α:Type}
theorem lL(h:m9 n p)(a:zb lt p n)(l:List α)(hl:l.length=n)(z:α)(R:α->α->Prop)(hR:∀i j,i<n->j<n->lt j i=false->R (l.getD i z) (l.getD j z)):
  (p.toList.map λi=>l.getD i z).Perm l/\(p.toList.map λi=>l.getD i z).Pairwise R:=by
 constructor
 ·have e:(List.range n).map (λi=>l.getD i z)=l:=by refine List.ext_getElem (by simp[hl]) λi h1 h2=>?_;simp[h2]
  have:=(Array.perm_iff_toList_perm.mp h.pm).map (λi=>l.getD i z);rw[show(List.toArray (List.range n)).toList=List.range n from rfl,e]at this;exact this
 rw[List.pairwise_map,List.pairwise_iff_getElem];intro i j hi hj yd;have hz:p.toList.length=n:=by rw[Array.length_toList,h.sz]
 have gi:p.toList[i]=p.getD i 0:=by simp[Array.getD,show i<p.size by rw[h.sz];lia]
 have gj:p.toList[j]=p.getD j 0:=by simp[Array.getD,show j<p.size by rw[h.sz];lia]
 rw[gi,gj];exact hR _ _ (h.lo i (by lia)) (h.lo j (by lia)) (a i j (by lia) (by lia))
end
def QS(K:W.Frag):List V->Hp->VK->Prop:=λxs H Q=>∃(b:Bool)(p:Addr)(zs:List (V×PyData)),xs=[.ref p]/\zY b K H p (zs.map (·.1))/\zs.length<64/\(∀z∈zs,ar K H 8 z.1 z.2)/\rD (zs.map (·.2)) /\
 ∀(ys:List (V×PyData))(q:Addr),ys.Perm zs->ys.Pairwise (λx y=>bf y.2 x.2=false)->H q=none->Q (.ref q) (upd H q (.lst (ys.map (·.1))))
theorem ae.pick{xs:List V}{us:List Value}(r:ae xs us):∀(l:List Nat),(∀i∈l,i<xs.length)->ae (l.map λi=>xs.getD i .bu) (l.map λi=>us.getD i Value.none)
 |[],_=>.nil
 |i::l,h=>by
  have hi:=h i mem_cons_self;obtain⟨u,h1,h2⟩:=r.get (getElem?_eq_getElem hi);refine .cons ?_ (ae.pick r l λj hj=>h j (mem_cons_of_mem _ hj));have e1:xs.getD i .bu=xs[i]:=by simp[hi]
  have e2:us.getD i Value.none=u:=by rw[getD_eq_getElem?_getD,h1];rfl
  show RelV (xs.getD i .bu) (us.getD i Value.none);rw[e1,e2];exact h2
theorem dc(K:W.Frag)(hu:X.A.units+16<cLine)(hK:X.K=K:=by rfl):cH X (.builtin "sorted") (QS K):=by
 subst hK;intro io s σ H xs us Q I r h;obtain⟨b,p,zs,rfl,hq,F9,hd,O,q⟩:=h;obtain⟨u,rfl,rx⟩:=vals1 r;cases rx;obtain⟨T,o,aS,n,hT,ho,hc,G0,r1⟩:∃(T:String)(o:Obj)(aS:List Value)(n:Nat),(T="list"\/T="tuple")/\s.heap.get? p=some o/\o.cls=.type T/\o.data=.seq aS.toArray n/\ae (zs.map (·.1)) aS:=by
  rcases hq.or with hq|hq
  ·obtain⟨aS,r1,⟨o,n,ho,hc,_,hd⟩,_⟩:=I.list hq;exact⟨"list",o,aS,n,.inl rfl,ho,hc,hd,r1⟩
  obtain⟨aS,r1,⟨o,ho,hc,n,hd⟩,_⟩:=I.tuple hq;exact⟨"tuple",o,aS,n,.inr rfl,ho,hc,hd,r1⟩
 have o0:aS.length=zs.length:=by rw[<-r1.length,length_map]
 obtain⟨κ,S⟩:=lK (prog:=X.prog) (w:=X.w) (A:=X.A.in1.in1) (h:=s.heap) (vs:=aS) (ds:=zs.map (·.2)) (by rw[o0,length_map]) (λj hj=>by obtain⟨x,h1,h2⟩:=r1.back (getElem?_eq_getElem hj);have hz:j<zs.length:=(by lia);have e1:x=zs[j].1:=(by simpa[hz]using h1.symm);have e2:(zs.map (·.2)).getD j .none=zs[j].2:=(by simp[hz]);rw[e2];exact(e1▸hd _ (List.getElem_mem hz)).reads I h2)
  (λd uA=>by obtain⟨z,hz,rfl⟩:=List.mem_map.mp uA;exact(hd z hz).lay) (λd uA=>by obtain⟨z,hz,rfl⟩:=List.mem_map.mp uA;exact(hd z hz).QP) O (by show X.A.units+1+1+12<cLine;lia)
 refine Cr (by lia) (λR k=>yf ho hc hT G0 (by rw[sizeLine_eq];lia) (k _ s.toks (λb o e=>?_) ?_)) S λpm h' tk e l hp ap g hz hl=>?_
 ·have nb:b≠s.heap.objs.size:=λy=>absurd (Heap.lt_size e) (by rw[y];exact lt_irrefl _);rw[(Heap.SameBut.update _ s.heap.objs.size (Obj.mapSeq (·++aS.toArray))).2 b nb];exact Heap.get?_push_of_some _ e
 ·rw[Heap.size_update,size_push'];exact le_succ _
 obtain⟨z1,z2⟩:=lL hp ap zs o0.symm (V.bu,PyData.none) (λx y=>bf y.2 x.2=false) (λi j hi hj h0=>by
  have wZ:i<zs.length:=by lia
  have Gz:j<zs.length:=by lia
  simpa[wZ,Gz]using h0)
 have ev:(pm.toList.map λi=>(zs.map (·.1)).getD i V.bu)=(pm.toList.map λi=>zs.getD i (V.bu,PyData.none)).map (·.1):=by
  rw[List.map_map];refine List.map_congr_left λi hi=>?_;show _=(zs.getD i (V.bu,PyData.none)).1;by_cases hz:i<zs.length
  ·simp[hz]
  simp[Nat.le_of_not_lt hz]
 have Bk:∀i∈pm.toList,i<(zs.map (·.1)).length:=by
  intro i hi;have:=(Array.perm_iff_toList_perm.mp hp.pm).mem_iff.mp hi;have:i<aS.length:=by simpa using this
  rw[length_map];lia
 have rv:=r1.pick pm.toList Bk;rw[ev]at rv;refine⟨.ref l,_,I.laid (t':=tk) (o:=.lst ((pm.toList.map λi=>zs.getD i (V.bu,PyData.none)).map (·.1))) (λb o eb=>g b o eb) hz ⟨by rw[length_map,length_map,Array.length_toList,hp.sz,sizeLine_eq];lia,_,e,rv,hl⟩,rfl,q _ _ z1 z2 (I.bE.fresh hz)⟩
section
theorem Cs{α:Type}(l:List α):((List.range l.length).map λ(k:Nat)=>(((l.length:Int)-1)+-1*(k:Int)).toNat).filterMap (l[·]?)=l.reverse:=by
 have e:((List.range l.length).map λ(k:Nat)=>(((l.length:Int)-1)+-1*(k:Int)).toNat)=(List.range l.length).map λk=>l.length-1-k:=by refine List.map_congr_left λk hk=>?_;have:=List.mem_range.mp hk;lia
 rw[e,List.filterMap_map];have e2:∀k∈List.range l.length,((λx=>l[x]?)∘λk=>l.length-1-k) k=(λk=>l.reverse[k]?) k:=by intro k hk;have:=List.mem_range.mp hk;show l[l.length-1-k]?=l.reverse[k]?;rw[List.getElem?_reverse this]
 have e4:∀(ks:List Nat)(f g:Nat->Option α),(∀k∈ks,f k=g k)->ks.filterMap f=ks.filterMap g:=by
  intro ks f g
  induction ks with
  |nil=>intro _;rfl
  |cons k ks ih=>intro h;rw[List.filterMap_cons,List.filterMap_cons,h k mem_cons_self,ih λj hj=>h j (mem_cons_of_mem _ hj)]
 rw[e4 _ _ _ e2];have e3:∀m:List α,(List.range m.length).filterMap (λk=>m[k]?)=m:=by
  intro m
  induction m with
  |nil=>rfl
  |cons x m ih =>
   rw[length_cons,List.range_succ_eq_map,List.filterMap_cons];show x::List.filterMap (λk=>(x::m)[k]?) (List.map Nat.succ (List.range m.length))=x::m;rw[List.filterMap_map];exact congrArg (x::·) ih
 have:=e3 l.reverse;rw[List.length_reverse]at this;exact this
end
theorem G9(K:W.Frag){es:List Expr}{t:F6}(hc:X.calm=true)(h:Le X es t)(hK:X.K=K:=by rfl)(hn:(assignEach es X.env).length=n:=by rfl)(zV:(assignEach es X.env).findIdx? (·.1)=none:=by rfl):PG X (.Tuple es k pos) (GL K n t):=by subst hK;exact je hc h hn zV
section
open HT
theorem yg(n:Nat):Builtin.Slice.sliceAdjust none none (-1) (n:Int)=((n:Int)-1,-1):=by simp[Builtin.Slice.sliceAdjust]
theorem yh(n:Nat):Builtin.Slice.slicePlaces ((n:Int)-1) (-1) (-1)=n:=by unfold Builtin.Slice.slicePlaces;rw[if_neg (by decide),show(- -1:Int)=1 from rfl,Int.ediv_one];split<;>lia
theorem oq{t:Tok}{Q:Int×Int×Nat->Shared->Prop}(hs:s.heap.IsSliceOf sl .none .none (.int (-1) t))(h:Q ((n:Int)-1,-1,n) s):wpAny (model prog w) A (Builtin.Slice.sliceApplied (.ref sl) (pure (n:Int))) Q E s:=by
 obtain⟨os,oR,KA,F8⟩:=id hs;unfold Builtin.Slice.sliceApplied Builtin.Slice.sliceFields;refine f8 (f8 (wpAny_field oR F8 (x:=.none) rfl (f8 (wpAny_field oR F8 (x:=.none) rfl (f8 (wpAny_field oR F8 (x:=.int (-1) t) rfl (im ?_)))))));refine f8 (gc (.int (-1) t) ?_);show wpAny _ _ (if((-1:Int)==0)=true then _ else _) _ _ s;rw[if_neg (by decide)];refine f8 (gc .none (f8 (gc .none (f8 (im ?_)))));show wpAny _ _ (match Builtin.Slice.sliceAdjust none none (-1) (n:Int)with|(lo,hi)=>pure (lo,(-1:Int),Builtin.Slice.slicePlaces lo hi (-1))) _ _ s
 rw[yg];show wpAny _ _ (pure ((n:Int)-1,(-1:Int),Builtin.Slice.slicePlaces ((n:Int)-1) (-1) (-1))) _ _ s;rw[yh];exact im h
theorem Eh(xs:Array Value):((List.range xs.size).filterMap λ(m:Nat)=>xs[(((xs.size:Int)-1)+(m:Int) * -1).toNat]?).toArray=xs.toList.reverse.toArray:=by have:=Cs xs.toList;rw[List.filterMap_map]at this;apply congrArg;rw[<-this,Array.length_toList];refine congrArg (λf=>List.filterMap f _) (funext λm=>?_);show xs[(((xs.size:Int)-1)+(m:Int) * -1).toNat]?=xs.toList[(((xs.size:Int)-1)+-1*(m:Int)).toNat]?;rw[Array.getElem?_toList,Int.mul_comm]
theorem nX{t:Addr}{k:Tok}{Q:Value->Shared->Prop}(ht:IsTup s.heap t items)(hs:s.heap.IsSliceOf sl .none .none (.int (-1) k))(h:Q (.ref s.heap.objs.size) { s with heap:=s.heap.push { cls:=.type "tuple",data:=.seq items.toList.reverse.toArray } })(hsz:items.size<=sizeLine):wpAny (model prog w) A (getItem (.ref t) (.ref sl)) Q E s:=by
 have oU:sizeOk (.seq items.toList.reverse.toArray):=by show items.toList.reverse.toArray.size<=sizeLine;rw[size_toArray,List.length_reverse,Array.length_toList];exact hsz
 obtain⟨os,oR,KA,F8⟩:=id hs;have Mb:s.TypeIs (.ref sl) "slice":=⟨os,oR,KA⟩;unfold getItem
 try with_reducible refine wpAny_holding ?_
 first|refine f8 (im ?_)|skip
 refine f8 (wpAny_sequenceKey ht.typeIs (by decide) ?_);refine f8 (wpAny_callSpecial?_slot (name:=Str.ofString "__getitem__") ht.typeIs PyProof.Rows.slot_tuple_getitem
  (wpAny_call_entry PyProof.Rows.slot_tuple_getitem ht.typeIs entry_tuple_getitem ?_ (args_tuple_getitem _ _)))
 show wpAny _ _ (Builtin.Tuple.tupleItemsOf (.ref t) >>= _) _ _ s;refine f8 (tupleItemsOf_ ht ?_);refine f8 (wpAny_typeOf Mb ?_);rw[if_pos (by decide)];refine f8 (oq (n:=items.size) hs ?_);show wpAny _ _ (if(((items.size:Int)-1)==0&&(-1:Int)==1&&items.size==items.size)=true then _ else _) _ _ s;rw[if_neg (by simp),Eh]
 first
  |exact f8 (m:=Builtin.Tuple.tupleExact _) (wpAny_newObj_type (im ⟨_,rfl,im h⟩) oU)
  |exact f8 (m:=Builtin.Tuple.tupleExact _) (wpAny_newObj_type (f8 (im (im ⟨_,rfl,im h⟩))) oU)
  |exact f8 (f8 (m:=Builtin.Tuple.tupleExact _) (wpAny_newObj_type (im (im ⟨_,rfl,im h⟩)) oU))
  |exact f8 (f8 (m:=Builtin.Tuple.tupleExact _) (wpAny_newObj_type (im ⟨_,rfl,im h⟩) oU))
end
section
def HH(K:W.Frag)(te tm:TE):TE:=λσ H Q=>te σ H λx H1=>tm σ H1 λy H2=>y=.int (-1)/\∃a xs,x=.ref a/\ab K H2 a xs/\∀p,H2 p=none->Q (.ref p) (upd H2 p (.tup xs.reverse))
theorem wc(K:W.Frag){m:Expr}{tm:TE}{p2:Pos}(he:PE X e te)(hm:PE X m tm)(hK:X.K=K:=by rfl):PE X (.Subscript e (.Slice none none (some m) p2) pos) (HH K te tm):=by
 subst hK;intro io s σ H Q I h;refine Subscript_ (bI (he io s σ H _ I h) λv s1 ⟨x,H1,I1,r1,q1⟩=>?_);refine wpAny_Slice ?_;rw[evalPart_none];refine im (im ?_);rw[evalPart_some];refine bI (hm io s1 σ H1 _ I1 q1) λvm s2 ⟨y,H2,I2,r2,q2⟩=>?_;obtain⟨rfl,a,xs,rfl,hx,q⟩:=q2;obtain⟨t,rfl⟩:=(show ∃t,vm=Value.int (-1) t from r2);cases r1;have I3:Inv X io σ H2 { s2 with heap:=s2.heap.push { cls:=.type "slice",data:=.fields #[.none,.none,.int (-1) t] } }:=I2.kept (t':=s2.toks) λb ob q=>Heap.get?_push_of_some _ q
 obtain⟨aS,r,ht,hz⟩:=I3.tuple hx;have hg:wpAny (model X.prog X.w) X.A (getItem (.ref a) (.ref s2.heap.objs.size)) (EP X io σ Q) X.xe { s2 with heap:=s2.heap.push { cls:=.type "slice",data:=.fields #[.none,.none,.int (-1) t] } }:=by refine nX ht (Heap.IsSliceOf.new ..) ?_ (by rw[size_toArray,<-r.length];exact hz);refine⟨.ref _,_,I3.laid (t':=s2.toks) (o:=.tup xs.reverse) (λb ob q=>Heap.get?_push_of_some _ q) (le_refl _) ?_,rfl,q _ (I3.bE.fresh (le_refl _))⟩;exact⟨by rw[List.length_reverse];exact hz,_,r.reverse,IsTup.new _ _⟩
 exact tail_any (ops:=[.ref a,.ref s2.heap.objs.size]) ht.typeIs PyProof.Rows.slot_tuple_getitem.lookup hg (by with_unfolding_all rfl)
end
section
open PySem.W
variable{r:Addr}{P:Nat->Value->Prop}
theorem yk(K:KdlSrc prog w T r d n P OK)(hh:A.handled=none)(bE:OK s.heap)(hn:n<=sizeLine)(q:∀(g:Heap)(tk:Nat)(acc:Array Value),Grows s.heap g->s.heap.objs.size<=g.objs.size->ItemsOf P acc n->R acc.toList { s with heap:=g,toks:=tk }):wpAny (model prog w) A (collect (.ref r)) R E s:=by
 have lt:=K.there _ bE;unfold collect;refine f8 (wpAny_runValue (codeAny_builtin entry_proto_collect' ?_));rw[Around.under_plainId PySem.F.plain_proto_collect _];show wpAny _ A.in1 (newList [] >>= λx=>again (.builtin "list.__iadd__" ⟨[x,.ref r],[]⟩)) _ _ s;refine f8 (wpAny_newObj_type (im ⟨plainId_quiet PySem.F.plain_list_iadd _,codeAny_builtin entry_list_iadd' ?_⟩));rw[Around.under_plainId PySem.F.plain_list_iadd _];have e1:(s.heap.push { cls:=.type "list",data:=.seq ([]:List Value).toArray }).get? s.heap.objs.size=some { cls:=.type "list",data:=.seq #[] }:=Heap.get?_push_size _ rfl;show wpAny _ A.in1 (Builtin.List.listExtendWith (.ref s.heap.objs.size) (.ref r) (.ref s.heap.objs.size)) _ _ _;have z:=kdl_extend (A:=A) (s:={ s with heap:=s.heap.push { cls:=.type "list",data:=.seq ([]:List Value).toArray } })
  (R:=λ(f:Result)(t:Shared)=>∃(g:Heap)(tk:Nat)(acc:Array Value)(c:Nat),f=.ok (.ret (.ref s.heap.objs.size))/\t={ s with heap:=g,toks:=tk }/\Grows s.heap g/\g.get? s.heap.objs.size=some { cls:=.type "list",dict:=none,data:=.seq acc c,slots:=#[] }/\ItemsOf P acc n)
  K hh (K.keep _ _ bE λb _ o e=>Heap.get?_push_of_some _ e) s.heap.objs.size (Nat.ne_of_gt lt.1) (Nat.ne_of_gt lt.2) (.ref s.heap.objs.size) 0 e1
  (λg tk acc c hk hS ha=>⟨g,tk,acc,c,rfl,rfl,λb o e=>hk b o (ne_of_lt (Heap.lt_size e)) (Heap.get?_push_of_some _ e),hS,ha⟩) hn
 refine wpAny_mono z (λfin t x=>?_) λe t x=>?_
 ·cases fin with
  |done f =>
   obtain⟨g,tk,acc,c,e,rfl,hk,hS,ha⟩:=x;cases e;show wpAny _ A (load s.heap.objs.size >>= _) _ _ _;exact f8 (wpAny_load hS (im (q g tk acc hk (Nat.le_of_lt (Heap.lt_size hS)) ha)))
  |again c₁ =>
   refine⟨x.1,codeAny_mono x.2 λf t2 y=>?_⟩;obtain⟨g,tk,acc,c,rfl,rfl,hk,hS,ha⟩:=y;show wpAny _ A (load s.heap.objs.size >>= _) _ _ _;exact f8 (wpAny_load hS (im (q g tk acc hk (Nat.le_of_lt (Heap.lt_size hS)) ha)))
 obtain⟨_,_,_,_,y,_⟩:=x;cases y
theorem AV{x:Value}{Q:Value->Shared->Prop}(G:List Value->Prop)(F9:∀vs,G vs->vs.length<64)(col:∀R:List Value->Shared->Prop,(∀(vs:List Value)(h':Heap)(tk:Tok),G vs->Grows s.heap h'->s.heap.objs.size<=h'.objs.size->R vs { s with heap:=h',toks:=tk })->wpAny (model prog w) A.in1 (collect x) R E s)(S:∀vs,G vs->∃κ,nW prog w A.in1.in1 s.heap vs lt κ)(q:∀(vs:List Value)(p:Array Nat)(h':Heap)(tk:Tok)(e:Nat)(l:Addr),G vs->m9 vs.length p->zb lt p vs.length->Grows s.heap h'->s.heap.objs.size<=l->h'.get? l=some (seqObj "list" (eR vs p).toArray e)->Q (.ref l) { s with heap:=h',toks:=tk }):
  wpAny (model prog w) A (call (.builtin "sorted") [x]) Q E s:=by
 refine Calls.call_function_entry kind_sorted plain_sorted entry_sorted (args_sorted1 _) ?_;unfold Builtin.«sorted»;refine f8 (m:=checkCount "sorted" 1 1 _) (im ?_);refine f8 (col _ λvs h' tk hG g hz=>?_);have hv:=F9 vs hG;obtain⟨κ,S⟩:=S vs hG;refine f8 (wpAny_newList ?_ (by rw[sizeLine_eq];lia));have CJ:(h'.push (seqObj "list" vs.toArray 0)).get? h'.objs.size=some (seqObj "list" vs.toArray 0):=Heap.get?_push_size _ rfl;show wpAny _ _ _ _ _ { s with heap:=h'.push (seqObj "list" vs.toArray 0),toks:=tk };refine f8 (wpAny_holding (wpAny_call_entry slot_list_sort ⟨_,CJ,rfl⟩ entry_list_sort (js (h:=s.heap) CJ (λb o e=>⟨λz=>absurd (Heap.lt_size e) (by rw[z];exact Nat.not_lt.mpr hz),Heap.get?_push_of_some _ (g b o e)⟩) S hv λp hp ap=>⟨_,rfl,?_⟩) (args_list_sort _)))
 obtain⟨e,he⟩:∃e,(sortedHeap (h'.push (seqObj "list" vs.toArray 0)) h'.objs.size vs (eR vs p).toArray).get? h'.objs.size=some (seqObj "list" (eR vs p).toArray e):=by unfold sortedHeap;obtain⟨e1,z1⟩:∃e1,((h'.push (seqObj "list" vs.toArray 0)).update h'.objs.size (Obj.mapSeq λ_=>#[])).get? h'.objs.size=some (seqObj "list" #[] e1):=⟨_,get?_update_seq CJ (λ_=>#[])⟩;exact⟨_,get?_update_seq (Heap.get?_push_of_some _ (Heap.get?_push_of_some _ z1)) _⟩
 refine im ⟨_,rfl,q vs p _ tk e _ hG hp ap (λb o z=>?_) hz he⟩;have nb:b≠h'.objs.size:=λy=>absurd (Heap.lt_size z) (by rw[y];exact Nat.not_lt.mpr hz);unfold sortedHeap;rw[(Heap.SameBut.update _ h'.objs.size (Obj.mapSeq λ_=>(eR vs p).toArray)).2 b nb];refine Heap.get?_push_of_some _ (Heap.get?_push_of_some _ ?_);rw[(Heap.SameBut.update _ h'.objs.size (Obj.mapSeq λ_=>(#[]:Array Value))).2 b nb];exact Heap.get?_push_of_some _ (g b o z)
end
theorem Bl(ns:List Int):rD (ns.map PyData.int)where
 kd:=.ints λd hd=>by obtain⟨n,_,rfl⟩:=List.mem_map.mp hd;exact⟨n,rfl⟩
 ok:=λd hd e he=>by obtain⟨n,_,rfl⟩:=List.mem_map.mp hd;obtain⟨m,_,rfl⟩:=List.mem_map.mp he;simp[uE]
 cw:=λd hd e he h=>by obtain⟨n,_,rfl⟩:=List.mem_map.mp hd;obtain⟨m,_,rfl⟩:=List.mem_map.mp he;simp only[bf,decide_eq_true_eq,decide_eq_false_iff_not]at h ⊢;lia
 rV:=λd hd e he f hf h1 h2=>by obtain⟨n,_,rfl⟩:=List.mem_map.mp hd;obtain⟨m,_,rfl⟩:=List.mem_map.mp he;obtain⟨k,_,rfl⟩:=List.mem_map.mp hf;simp only[bf,decide_eq_false_iff_not]at h1 h2 ⊢;lia
theorem vP:∀{ns:List Int}{us:List Value},us.length=ns.length->(∀(i:Nat)(u:Value),us[i]?=some u->∃t,u=Value.int (ns.getD i 0) t)->ae (ns.map V.int) us
 |[],[],_,_=>.nil
 |[],_::_,h,_=>by cases h
 |_::_,[],h,_=>by cases h
 |n::ns,u::us,h,q=>by
  refine .cons (q 0 u rfl) (vP (Nat.succ.inj h) λi v e=>?_);have:=q (i+1) v (by simpa using e)
  simpa using this
section
theorem Ei(hc:X.calm=true)(I:Inv X io σ H s)(hA:A.handled=X.A.handled)(hd:H d=some (.dK lw))(hk:lw.map (·.1)=ns.map Sum.inl)(q:∀(vs:List Value)(h':Heap)(tk:Tok),ae (ns.map V.int) vs->Grows s.heap h'->s.heap.objs.size<=h'.objs.size->R vs { s with heap:=h',toks:=tk }):wpAny (model X.prog X.w) A (collect (.ref d)) R E s:=by
 obtain⟨vs,ep,rel,z,hs,hm,_⟩:=I.freeze hd;have hl:lw.length=ns.length:=by have:=congrArg List.length hk;rwa [length_map,length_map]at this
 have NG:=rel.length;refine yk (W.kdl_dict (knd:=aY X.prog X.w) (kvs:=vs) (ep:=ep) hs) (hA.trans (I.ok.hd hc)) hm (by lia) λg tk acc hg hz ha=>q _ g tk ?_ hg hz;obtain⟨a1,a2⟩:=ha;refine vP (by rw[Array.length_toList,a1];lia) λi u hu=>?_;obtain⟨k,x,e1,e2⟩:=a2 i u (by simpa using hu);obtain⟨v,ev⟩:=EX rel e1;have ek:(lw.map (·.1))[i]?=some k:=by rw[getElem?_map,ev];rfl
 rw[hk,getElem?_map]at ek;cases en:ns[i]? with
 |none=>rw[en]at ek;cases ek
 |some n =>
  rw[en]at ek;obtain rfl:Sum.inl n=k:=Option.some.inj ek;have er:ns.getD i 0=n:=by rw[getD_eq_getElem?_getD,en];rfl
  rw[er];exact wQ e2
def NH:List V->Hp->VK->Prop:=λxs H Q=>∃(d:Addr)(lw:List (Key×V))(ns:List Int),xs=[.ref d]/\H d=some (.dK lw)/\lw.map (·.1)=ns.map Sum.inl/\ns.length<64/\∀(ys:List Int)(q:Addr),ys.Perm ns->ys.Pairwise (·<=·)->H q=none->Q (.ref q) (upd H q (.lst (ys.map V.int)))
theorem d8(hu:X.A.units+16<cLine)(hc:X.calm=true:=by rfl):cH X (.builtin "sorted") NH:=by
 intro io s σ H xs us Q I r h;obtain⟨d,lw,ns,rfl,hd,hk,F9,q⟩:=h;obtain⟨u,rfl,rx⟩:=vals1 r;cases rx;have S:∀vs,ae (ns.map V.int) vs->∃κ,nW X.prog X.w X.A.in1.in1 s.heap vs (λi j=>bf ((ns.map PyData.int).getD i .none) ((ns.map PyData.int).getD j .none)) κ:=λvs hv=>by
  have hl:=hv.length;rw[length_map]at hl;refine lK (by rw[length_map];lia) (λj hj=>?_) (λd uA=>by obtain⟨n,_,rfl⟩:=List.mem_map.mp uA;rfl) (λd uA=>by obtain⟨n,_,rfl⟩:=List.mem_map.mp uA;exact zero_le _) (Bl ns) (by show X.A.units+1+1+12<cLine;lia);obtain⟨x,h1,h2⟩:=hv.back (getElem?_eq_getElem hj);rw[getElem?_map]at h1;cases en:ns[j]? with
  |none=>rw[en]at h1;cases h1
  |some n =>
   rw[en]at h1;obtain rfl:V.int n=x:=Option.some.inj h1;obtain⟨t,ht⟩:=(show ∃t,vs[j]=Value.int n t from h2);have er:(ns.map PyData.int).getD j .none=.int n:=(by rw[getD_eq_getElem?_getD,getElem?_map,en];rfl);rw[ht,er];exact⟨_,.int n t⟩
 refine AV (λvs=>ae (ns.map V.int) vs) (λvs hv=>by have:=hv.length;rw[length_map]at this;lia) (λR k=>Ei (A:=X.A.in1) hc I rfl hd hk λvs h' tk hv g hz=>k vs h' tk hv g hz) S λvs p h' tk e l hv hp ap g hz hl=>?_;have o0:ns.length=vs.length:=by have:=hv.length;rwa [length_map]at this
 obtain⟨z1,z2⟩:=lL hp ap ns o0 (0:Int) (λx y=>x<=y) (λi j hi hj h0=>by
  have wZ:i<ns.length:=by lia
  have Gz:j<ns.length:=by lia
  simp[wZ,Gz,bf]at h0
  simpa[wZ,Gz]using h0)
 have Bk:∀i∈p.toList,i<(ns.map V.int).length:=by
  intro i hi;have:=(Array.perm_iff_toList_perm.mp hp.pm).mem_iff.mp hi;have:i<vs.length:=by simpa using this
  rw[length_map];lia
 have rv:=hv.pick p.toList Bk;have ev:(p.toList.map λi=>(ns.map V.int).getD i V.bu)=(p.toList.map λi=>ns.getD i 0).map V.int:=by rw[List.map_map];refine List.map_congr_left λi hi=>?_;have:=Bk i hi;rw[length_map]at this;simp[this]
 rw[ev]at rv;refine⟨.ref l,_,I.laid (t':=tk) (o:=.lst ((p.toList.map λi=>ns.getD i 0).map V.int)) (λb o eb=>g b o eb) hz ⟨by rw[length_map,length_map,Array.length_toList,hp.sz,sizeLine_eq];lia,_,e,rv,hl⟩,rfl,q _ _ z1 z2 (I.bE.fresh hz)⟩
end
abbrev Tk:=List Int
def f9(a b:Int):List (Option Int):=[some a,some b]
structure cc(K:W.Frag)(H:Hp)(a:Addr)(k:Tk):Prop where
 ex:(∃x y,k=[x,y]/\ab K H a [.int x,.int y])\/(∃x y z w b,k=[x,y,z,w]/\ab K H a [.int x,.int y,.ref b]/\ab K H b [.int z,.int w])
theorem cc.same{K:W.Frag}{s:Tk}(h:cc K H a s)(e:aH H H'):cc K H' a s:=by
 rcases h.ex with⟨x,y,h1,h2⟩|⟨x,y,z,w,b,h1,h2,h3⟩
 ·exact⟨.inl ⟨x,y,h1,e.tup h2⟩⟩
 exact⟨.inr ⟨x,y,z,w,b,h1,e.tup h2,e.tup h3⟩⟩
theorem cc.kept{K:W.Frag}{s:Tk}(h:cc K H a s)(e:Kept H H'):cc K H' a s:=by
 rcases h.ex with⟨x,y,h1,h2⟩|⟨x,y,z,w,b,h1,h2,h3⟩
 ·exact⟨.inl ⟨x,y,h1,e.tup h2⟩⟩
 exact⟨.inr ⟨x,y,z,w,b,h1,e.tup h2,e.tup h3⟩⟩
def ox(h:Heap)(k:Tk)(a:Addr):Prop:=(∃x y,k=[x,y]/\gq h (f9 x y) a)\/(∃x y z w b t t',k=[x,y,z,w]/\h.IsTuple a #[.int x t,.int y t',.ref b]/\gq h (f9 z w) b)
def AW:Tk->Int
 |[x,y]=>rR (f9 x y)
 |[x,y,z,w]=>reduceHash (Builtin.Tuple.tupleHashOf [hashInt x,hashInt y,rR (f9 z w)])
 |_=>0
def Bm:Tk->Nat
 |[_,_]=>3
 |_=>6
theorem oy{x y:Int}(r:gq h (f9 x y) a):∃t u,h.IsTuple a #[.int x t,.int y u]:=by
 obtain⟨aS,r,ht⟩:=r;cases r with
 |cons r1 r =>
  cases r with
  |cons r2 r =>
   cases r;obtain⟨t,rfl⟩:=(show ∃t,_=Value.int x t from r1);obtain⟨u,rfl⟩:=(show ∃t,_=Value.int y t from r2);exact⟨t,u,ht⟩
theorem ox.inj{h:Heap}{a:Addr}{x y:Tk}(hx:ox h x a)(hy:ox h y a):x=y:=by
 rcases hx with⟨p,q,rfl,r⟩|⟨p,q,z,w,b,t,t',rfl,r,r2⟩
 ·rcases hy with⟨p',q',rfl,r'⟩|⟨p',q',z',w',b',u,u',rfl,r',Lr⟩
  ·have:=r.inj r';simp only[f9,List.cons.injEq,Option.some.injEq,and_true]at this;rw[this.1,this.2]
  obtain⟨t,u2,ht⟩:=oy r;exact absurd (congrArg Array.size (rS ht r')) (by show ¬((2:Nat)=3);decide)
 rcases hy with⟨p',q',rfl,r'⟩|⟨p',q',z',w',b',u,u',rfl,r',Lr⟩
 ·obtain⟨t2,u2,ht⟩:=oy r';exact absurd (congrArg Array.size (rS ht r)) (by show ¬((2:Nat)=3);decide)
 have e:=rS r r';simp only[Array.mk.injEq,List.cons.injEq,Value.int.injEq,Value.ref.injEq,and_true]at e;obtain⟨⟨rfl,_⟩,⟨rfl,_⟩,rfl⟩:=e;have:=r2.inj Lr;simp only[f9,List.cons.injEq,Option.some.injEq,and_true]at this;rw[this.1,this.2]
section
theorem Ct{x:Tk}{Q:Int->Shared->Prop}(hu:A.units+1<cLine)(hx:ox s.heap x a)(h:Q (AW x) { s with toks:=s.toks+Bm x }):wpAny (model prog w) A (pyHash (.ref a)) Q E s:=by
 rcases hx with⟨p,q,rfl,r⟩|⟨p,q,z,ww,b,t,t',rfl,r,r2⟩
 ·exact sV (by lia) r h
 refine oo (all:=[(.int p t,hashInt p,1),(.int q t',hashInt q,1),(.ref b,rR (f9 z ww),3)]) (by lia) r (λy hy tk Q' hq=>?_) h;simp only[mem_cons,not_mem_nil,or_false]at hy;rcases hy with rfl|rfl|rfl
 ·exact wpAny_pyHash_int hq
 ·exact wpAny_pyHash_int hq
 exact sV (by show A.units+1<cLine;exact hu) r2 hq
theorem QT{x y:Tk}(hu:A.units+1<cLine)(hx:ox s.heap x a)(hy:ox s.heap y b):SeqAt.EqAt A s (.ref a) (.ref b) (decide (x=y)):=by
 by_cases zX:a=b
 ·subst zX;rw[decide_eq_true (hx.inj hy)];exact SeqAt.EqAt.same _
 rcases hx with⟨p,q,rfl,r⟩|⟨p,q,z,ww,c,t,t',rfl,r,r2⟩
 ·rcases hy with⟨p',q',rfl,r'⟩|⟨p',q',z',w',c',u,u',rfl,r',Lr⟩
  ·have:=rowAt (A:=A) (by lia) r r';have e:decide (f9 p q=f9 p' q')=decide ([p,q]=[p',q']):=(by simp[f9]);rw[e]at this;exact this
  obtain⟨t,t2,ht⟩:=oy r;refine SeqAt.EqAt.of_refs zX ?_;have z:=SeqAt.RcAt.tuples (A:=A) (s:=s) (e:=λj=>if j=0 then(p==p')else(q==q')) ht r' (by lia) λj h1 h2=>?_
  ·have e:((List.range (min (#[Value.int p t,Value.int q t2]:Array Value).size (#[Value.int p' u,Value.int q' u',Value.ref c']:Array Value).size)).all (λj=>if j=0 then(p==p')else(q==q'))&&(#[Value.int p t,Value.int q t2]:Array Value).size==(#[Value.int p' u,Value.int q' u',Value.ref c']:Array Value).size)=decide ([p,q]=[p',q',z',w']):=by rw[decide_eq_false (by simp)];have e2:((#[Value.int p t,Value.int q t2]:Array Value).size==(#[Value.int p' u,Value.int q' u',Value.ref c']:Array Value).size)=false:=rfl;rw[e2,Bool.and_false]
   exact e▸z
  match j,h1,h2 with
  |0,_,_=>exact SeqAt.EqAt.int_int _ _ _ _
  |1,_,_=>exact SeqAt.EqAt.int_int _ _ _ _
  |j+2,h1,_=>exact absurd h1 (by show ¬(j+2<2);lia)
 rcases hy with⟨p',q',rfl,r'⟩|⟨p',q',z',w',c',u,u',rfl,r',Lr⟩
 ·obtain⟨t3,t4,ht⟩:=oy r';refine SeqAt.EqAt.of_refs zX ?_;have zz:=SeqAt.RcAt.tuples (A:=A) (s:=s) (e:=λj=>if j=0 then(p==p')else(q==q')) r ht (by lia) λj h1 h2=>?_
  ·have e:((List.range (min (#[Value.int p t,Value.int q t',Value.ref c]:Array Value).size (#[Value.int p' t3,Value.int q' t4]:Array Value).size)).all (λj=>if j=0 then(p==p')else(q==q'))&&(#[Value.int p t,Value.int q t',Value.ref c]:Array Value).size==(#[Value.int p' t3,Value.int q' t4]:Array Value).size)=decide ([p,q,z,ww]=[p',q']):=by rw[decide_eq_false (by simp)];have e2:((#[Value.int p t,Value.int q t',Value.ref c]:Array Value).size==(#[Value.int p' t3,Value.int q' t4]:Array Value).size)=false:=rfl;rw[e2,Bool.and_false]
   exact e▸zz
  match j,h1,h2 with
  |0,_,_=>exact SeqAt.EqAt.int_int _ _ _ _
  |1,_,_=>exact SeqAt.EqAt.int_int _ _ _ _
  |j+2,_,h2=>exact absurd h2 (by show ¬(j+2<2);lia)
 refine SeqAt.EqAt.of_refs zX ?_;have zz:=SeqAt.RcAt.tuples (A:=A) (s:=s) (e:=λj=>if j=0 then(p==p')else if j=1 then(q==q')else decide (f9 z ww=f9 z' w')) r r' (by lia) λj h1 h2=>?_
 ·have e:((List.range (min 3 3)).all (λj=>if j=0 then(p==p')else if j=1 then(q==q')else decide (f9 z ww=f9 z' w'))&&((3:Nat)==3))=decide ([p,q,z,ww]=[p',q',z',w']):=by have e3:List.range (min 3 3)=[0,1,2]:=rfl;rw[e3,Bool.eq_iff_iff];simp[f9]
  exact e▸zz
 match j,h1,h2 with
 |0,_,_=>exact SeqAt.EqAt.int_int _ _ _ _
 |1,_,_=>exact SeqAt.EqAt.int_int _ _ _ _
 |2,_,_=>exact rowAt (by show A.units+1<cLine;exact hu) r2 Lr
 |j+3,h1,_=>exact absurd h1 (by show ¬(j+3<3);lia)
theorem Ej{x:Tk}{Q:Bool->Shared->Prop}(hx:ox s.heap x a)(h:Q true s):wpAny (model prog w) A (eqIsQuiet 8 (.ref a)) Q E s:=by
 rcases hx with⟨p,q,rfl,r⟩|⟨p,q,z,ww,b,t,t',rfl,r,r2⟩
 ·exact vM 7 r h
 refine qh 7 r (λv hv Q' hq=>?_) h;simp only[mem_cons,not_mem_nil,or_false]at hv;rcases hv with rfl|rfl|rfl
 ·rw[eqIsQuiet_byValue _ rfl];exact im hq
 ·rw[eqIsQuiet_byValue _ rfl];exact im hq
 exact vM 6 r2 hq
end
def Ek(prog:Program)(w:World):HeapKind prog w Tk where
 is:=ox
 hash:=AW
 draws:=Bm
 room:=λA=>A.units+1<cLine
 inj:=λhx hy=>hx.inj hy
 keeps:=λ{h h' k a d o es ep} hx ho hd hs=>by
  rcases hx with⟨p,q,rfl,⟨i1,r1,p1⟩⟩|⟨p,q,z,ww,b,t,t',rfl,r,⟨i1,r1,p1⟩⟩
  ·exact .inl ⟨p,q,rfl,i1,r1,sU p1 ho hd hs⟩
  exact .inr ⟨p,q,z,ww,b,t,t',rfl,sU r ho hd hs,i1,r1,sU p1 ho hd hs⟩
 pyHash:=λhu hk h=>Ct hu hk h
 eqBool:=λhu hx hy h=>QT hu hx hy _ _ _ _ h
 quiet:=λhk h=>Ej hk h
abbrev TX:=List (Tk×Addr×V)
def oz(q:Tk×Addr×Value):DictEntry:=⟨AW q.1,.ref q.2.1,q.2.2⟩
abbrev Q3:TX->List (Tk×Addr×Value)->Prop:=Paired λp q=>p.1=q.1/\p.2.1=q.2.1/\RelV p.2.2 q.2.2
def DKφ(a:Addr)(xs:TX)(h:Heap):Prop:=xs.length<=sizeLine/\(a==sysModules)=false/\(xs.map (·.1)).Nodup/\∃vs:List (Tk×Addr×Value),Q3 xs vs/\∃o es ep,h.get? a=some o/\o.ExactDict/\o.data=.dict es ep/\es.toList=vs.map oz
def iT(a:Addr)(xs:TX):HO:=.ext (DKφ a xs)
def iy(xs:TX)(k:Tk):Option V:=(xs.find? λx=>decide (x.1=k)).map (·.2.2)
def jt(xs:TX)(k:Tk)(b:Addr)(v:V):TX:=if(iy xs k).isSome then xs.map (λx=>if x.1=k then(x.1,x.2.1,v)else x)else xs++[(k,b,v)]
theorem cK(xs:TX)(k:Tk):(iy xs k).isSome=decide (k∈xs.map (·.1)):=by unfold iy;rw[Option.isSome_map,Bool.eq_iff_iff,decide_eq_true_iff,List.find?_isSome];simp only[decide_eq_true_eq,List.mem_map]
theorem sg{xs:TX}{k:Tk}(h:k∉xs.map (·.1)):jt xs k b v=xs++[(k,b,v)]:=by unfold jt;rw[cK,decide_eq_false h];rfl
theorem uQ{xs:TX}{k:Tk}(h:k∈xs.map (·.1)):(jt xs k b v).map (·.1)=xs.map (·.1):=by unfold jt;rw[cK,decide_eq_true h,if_pos rfl,List.map_map];apply List.map_congr_left;intro x _;show(if x.1=k then(x.1,x.2.1,v)else x).1=x.1;split<;>rfl
theorem El(xs:TX)(k:Tk)(b:Addr)(v:V):(jt xs k b v).length<=xs.length+1:=by
 unfold jt;split
 ·rw[length_map];lia
 simp
theorem AX{xs:TX}(hn:(xs.map (·.1)).Nodup)(k:Tk)(b:Addr)(v:V):((jt xs k b v).map (·.1)).Nodup:=by
 by_cases h:k∈xs.map (·.1)
 ·rw[uQ h];exact hn
 rw[sg h,map_append];exact Be hn h
theorem Q3.val{xs:TX}{vs:List (Tk×Addr×Value)}(r:Q3 xs vs)(k:Tk):gY (iy xs k) ((atKey vs k).map (·.2)):=by
 induction r with
 |nil=>exact True.intro
 |@cons p q ps qs h t ih =>
  obtain⟨h1,_,h2⟩:=h;by_cases e:p.1=k
  ·have e':q.1=k:=h1.symm.trans e;have b:atKey (q::qs) k=some q.2:=(by simp[atKey,List.find?_cons,e']);have b':iy (p::ps) k=some p.2.2:=(by simp[iy,List.find?_cons,e]);rw[b',b];exact h2
  have e':¬q.1=k:=λz=>e (h1.trans z);have b:atKey (q::qs) k=atKey qs k:=by simp[atKey,List.find?_cons,e']
  have b':iy (p::ps) k=iy ps k:=by simp[iy,List.find?_cons,e]
  rw[b',b];exact ih
theorem Q3.EO{xs:TX}{vs:List (Tk×Addr×Value)}(r:Q3 xs vs)(k:Tk){y:V}(ry:RelV y u):
  Q3 (xs.map λx=>if x.1=k then(x.1,x.2.1,y)else x) (vs.map (putAt k u)):=by
 induction r with
 |nil=>exact .nil
 |@cons p q ps qs h t ih =>
  rw[List.map_cons,List.map_cons];refine .cons ?_ ih;obtain⟨h1,h2,h3⟩:=h;unfold putAt;by_cases e:p.1=k
  ·rw[if_pos e,if_pos (h1.symm.trans e)];exact⟨h1,h2,ry⟩
  rw[if_neg e,if_neg (λz=>e (h1.trans z))];exact⟨h1,h2,h3⟩
theorem Q3.put{xs:TX}{vs:List (Tk×Addr×Value)}(r:Q3 xs vs)(k:Tk)(b:Addr){y:V}(ry:RelV y u):Q3 (jt xs k b y) (storedH vs k b u):=by
 have e:(iy xs k).isSome=(atKey vs k).isSome:=by rw[(r.val k).dZ,Option.isSome_map]
 unfold jt storedH;rw[e];by_cases q:(atKey vs k).isSome=true
 ·rw[if_pos q,if_pos q];exact r.EO k ry
 rw[if_neg q,if_neg q];exact Paired.snoc r ⟨rfl,rfl,ry⟩
theorem Q3.keys{xs:TX}{vs:List (Tk×Addr×Value)}(r:Q3 xs vs):xs.map (·.1)=vs.map (·.1):=by
 induction r with
 |nil=>rfl
 |cons h t ih=>rw[List.map_cons,List.map_cons,ih,h.1]
def Km(d:Addr)(es:Array DictEntry)(ep:Nat):HO:=.ext (qB d es ep)
def Cu(d:Addr)(xs:TX)(u:HO):Prop:=xs.length<=sizeLine/\(d==sysModules)=false/\(xs.map (·.1)).Nodup/\∃(vs:List (Tk×Addr×Value))(es:Array DictEntry)(ep:Nat),Q3 xs vs/\es.toList=vs.map oz/\u=Km d es ep
structure TD(K:W.Frag)(H:Hp)(a:Addr)(xs:TX):Prop where
 at_:H a=some (iT a xs)\/∃u,H a=some u/\Cu a xs u
 keys:∀p∈xs,cc K H p.2.1 p.1
section
variable{xs:TX}
theorem Em(I:Inv X io σ H s){k:Tk}(h:cc X.K H b k):ox s.heap k b:=by
 rcases h.ex with⟨x,y,e,h1⟩|⟨x,y,z,w,p,e,h1,h2⟩
 ·exact .inl ⟨x,y,e,JI I h1⟩
 obtain⟨aS,r,ht,_⟩:=I.tuple h1;cases r with
 |cons r1 r =>
  cases r with
  |cons r2 r =>
   cases r with
   |cons r3 r =>
    cases r;obtain⟨t,rfl⟩:=r1;obtain⟨t',rfl⟩:=r2;cases r3;exact .inr ⟨x,y,z,w,p,t,t',e,ht,JI I h2⟩
theorem TD.raw(I:Inv X io σ H s)(d:H a=some (iT a xs)):DKφ a xs s.heap:=(I.bE a _ d).1
theorem TD.either(I:Inv X io σ H s)(d:H a=some (iT a xs)\/∃u,H a=some u/\Cu a xs u):DKφ a xs s.heap:=by
 rcases d with d|⟨u,d,z,hd,hn,vs,es,ep,r,h4,rfl⟩
 ·exact TD.raw I d
 obtain⟨o,h1,h2,h3⟩:=(show bH X.prog X.w H s.heap a (Km a es ep)from I.bE a _ d).1;exact⟨z,hd,hn,vs,r,o,es,ep,h1,h2,h3,h4⟩
theorem TD.dict(I:Inv X io σ H s)(d:TD X.K H a xs):xs.length<=sizeLine/\(a==sysModules)=false/\(xs.map (·.1)).Nodup/\∃vs,Q3 xs vs/\s.heap.DictOfH (Ek X.prog X.w) a vs:=by
 obtain⟨z,hd,hn,vs,r,o,es,ep,h1,h2,h3,h4⟩:=TD.either I d.at_;refine⟨z,hd,hn,vs,r,o,es,ep,h1,h2,h3,h4,?_,by rw[<-r.keys];exact hn⟩;have all:∀{l:TX}{m:List (Tk×Addr×Value)},Q3 l m->(∀p∈l,cc X.K H p.2.1 p.1)->∀x∈m,(Ek X.prog X.w).is s.heap x.1 x.2.1:=by
  intro l m q
  induction q with
  |nil=>intro _ x hx;exact nomatch hx
  |@cons p q ps qs hq t ih =>
   intro hl x hx;rcases mem_cons.mp hx with e|hx
   ·subst e;rw[<-hq.1,<-hq.2.1];exact Em I (hl p mem_cons_self)
   exact ih (λp hp=>hl p (mem_cons_of_mem _ hp)) x hx
 exact all r d.keys
theorem En(z:xs.length<=sizeLine)(hd:(a==sysModules)=false)(hn:(xs.map (·.1)).Nodup){vs:List (Tk×Addr×Value)}(r:Q3 xs vs)(h1:h'.get? a=some o)(h2:o.ExactDict)(h3:o.data=.dict es ep)(h4:es.toList=vs.map oz):bH P w H' h' a (iT a xs) :=
 ⟨⟨z,hd,hn,vs,r,o,es,ep,h1,h2,h3,h4⟩,⟨o,h1⟩,λg1 g2 ⟨z,hd,hn,vs,r,o,es,ep,h1,h2,h3,h4⟩ k=>⟨z,hd,hn,vs,r,o,es,ep,k o h1,h2,h3,h4⟩⟩
theorem Kn:Lc (some (iT a xs)):=True.intro
theorem Cv{k:Tk}{r:Value}{Q:Unit->Shared->Prop}(hu:A.units+2<cLine)(I:Inv X io σ H s)(d:TD X.K H a xs)(da:H a=some (iT a xs))(hb:cc X.K H b k)(hl:xs.length<sizeLine)(rv:RelV v r)(h:∀s',Inv X io σ (upd H a (iT a (jt xs k b v))) s'->Q () s'):wpAny (model X.prog X.w) A (setItem (.ref a) (.ref b) r) Q E s:=by
 obtain⟨z,hd,hn,vs,rel,dd⟩:=d.dict I;have hz:vs.length<=sizeLine:=by rw[<-Paired.length rel];exact z
 refine wpAny_setItem_heap (hsz:=hz) (show A.in1.units+1<cLine from by show A.units+1+1<cLine;lia) (Em I hb) dd λh' Bd hs=>h _ ?_;obtain⟨q,es,ep,hq,h2,h3,h4,_,h5⟩:=Bd;refine og I (by rw[da];exact Kn) hs ⟨q,hq⟩ (En (by have:=El xs k b v;lia) hd (AX hn k b v) (rel.put k b rv) hq h2 h3 h4)
end
def NI(K:W.Frag):R2:=λx y H Q=>∃a b xs k v,x=.ref a/\y=.ref b/\TD K H a xs/\cc K H b k/\iy xs k=some v/\Q v H
def NJ(K:W.Frag)(neg:Bool):R2:=λx y H Q=>∃a b xs k,x=.ref b/\y=.ref a/\TD K H a xs/\cc K H b k/\Q (.bl (if neg then !decide (k∈xs.map (·.1))else decide (k∈xs.map (·.1)))) H
section
theorem HQ(K:W.Frag)(hu:X.A.units+16<cLine)(hK:X.K=K:=by rfl):jg X (compareOp .In) (NJ K false):=by subst hK;intro io s σ H x y v u Q I rx ry h;obtain⟨a,b,xs,k,rfl,rfl,d,hb,q⟩:=h;cases rx;cases ry;obtain⟨z,hd,hn,vs,rel,dd⟩:=d.dict I;refine wpAny_in_heap (show X.A.in1.units+1<cLine from by show X.A.units+1+1<cLine;lia) (Em I hb) hd dd ?_;have e:=(rel.val k).dZ;rw[Option.isSome_map]at e;rw[<-e,cK];exact⟨.bl _,H,I.tok _,rfl,q⟩
theorem AY(K:W.Frag)(hu:X.A.units+16<cLine)(hK:X.K=K:=by rfl):jg X (compareOp .NotIn) (NJ K true):=by subst hK;intro io s σ H x y v u Q I rx ry h;obtain⟨a,b,xs,k,rfl,rfl,d,hb,q⟩:=h;cases rx;cases ry;obtain⟨z,hd,hn,vs,rel,dd⟩:=d.dict I;refine wpAny_notIn_heap (show X.A.in1.units+1<cLine from by show X.A.units+1+1<cLine;lia) (Em I hb) hd dd ?_;have e:=(rel.val k).dZ;rw[Option.isSome_map]at e;rw[<-e,cK];exact⟨.bl _,H,I.tok _,rfl,q⟩
variable{o i:Expr}{ty:TE}
theorem mS(K:W.Frag)(hu:X.A.units+16<cLine)(ho:PE X o td)(hi:PE X i ty)(hs:Gp i)(hK:X.K=K:=by rfl):PE X (.Subscript o i pos) (Jy (NI K) td ty):=by subst hK;intro io s σ H Q I h;refine wO PySem.F.slot_dict_getitem.lookup hs (bI (ho io s σ H _ I h) λu s1 ⟨x,H1,I1,rx,q1⟩=>bI (hi io s1 σ H1 _ I1 q1) λiv s2 ⟨y,H2,I2,ry,a,b,xs,k,v,ex,ey,d,hb,hv,q2⟩=>?_);subst ex;subst ey;cases rx;cases ry;obtain⟨z,hd,hn,vs,rel,dd⟩:=d.dict I2;obtain⟨w',hw,rA⟩:=gY.some_of (v:=v) (o:=(atKey vs k).map (·.2)) (by rw[<-hv];exact rel.val k);obtain⟨p,hp,sJ⟩:=Option.map_eq_some_iff.mp hw;refine⟨dd.typeIs,wpAny_getItem_heap (show X.A.in1.units+1<cLine from by show X.A.units+1+1<cLine;lia) (Em I2 hb) dd hp ?_⟩;rw[sJ];exact⟨v,H2,I2.tok _,rA,q2⟩
def NK(K:W.Frag)(td ty tv:TE):TS:=λD σ H=>tv σ H λv H1=>td σ H1 λx H2=>ty σ H2 λy H3=>∃a b xs k,x=.ref a/\y=.ref b/\TD K H3 a xs/\H3 a=some (iT a xs)/\cc K H3 b k/\xs.length<sizeLine/\D.nx σ (upd H3 a (iT a (jt xs k b v)))
theorem wg(K:W.Frag)(hu:X.A.units+16<cLine)(ho:PE X o td)(hi:PE X i ty)(hv:PE X value tv)(hs:swapsWith value (some (.Subscript o i pos')) pos.line X.env=pure false)(hK:X.K=K:=by rfl):
  PS X (.Assign [.Subscript o i pos'] value pos) (NK K td ty tv):=by
 subst hK;intro io s σ H D I h;refine wpAny_Assign_Subscript (bI (hv io s σ H _ I h) λr s1 ⟨v,H1,I1,rv,q1⟩=>bI (ho io s1 σ H1 _ I1 q1) λu s2 ⟨x,H2,I2,rx,q2⟩=>bI (hi io s2 σ H2 _ I2 q2) λiv s3 ⟨y,H3,I3,ry,a,b,xs,k,ex,ey,d,da,hb,hl,q3⟩=>?_) hs;subst ex;subst ey;cases rx;cases ry;exact Cv (by lia) I3 d da hb hl rv λs4 I4=>⟨σ,_,I4,q3⟩
def NL:TE:=λ_ H Q=>∀p,H p=none->Q (.ref p) (upd H p (iT p []))
theorem Cw(h:Heap)(hb:sysModules<h.objs.size):bH P w H (h.push { cls:=.type "dict",data:=.dict #[] }) h.objs.size (iT h.objs.size []) :=
 En (zero_le _) (beq_eq_false_iff_ne.mpr (Ne.symm (ne_of_lt hb))) List.nodup_nil .nil (Heap.get?_push_size _ rfl) ⟨rfl,rfl,rfl⟩ (ep:=0) rfl rfl
theorem Bn:PE X (.Dict [] [] pos) NL:=λio s σ H Q I h =>
 wpAny_Dict_empty ⟨.ref s.heap.objs.size,_,I.laid (a:=s.heap.objs.size) (o:=iT s.heap.objs.size []) (t':=s.toks) (λ_ _ q=>Heap.get?_push_of_some _ q) (le_refl _) (Cw s.heap I.OZ),rfl,h _ (I.bE.fresh (le_refl _))⟩
end
def Cy(d:Addr)(u:HO)(xs:TX):It where
 go:=λi H=>H d=some u/\i<xs.length
 BK:=λi H x H'=>H'=H/\∃p,xs[i]?=some p/\x=.ref p.2.1
 stop:=λi H=>H d=some u/\xs.length<=i
theorem Q3.addrs{xs:TX}{vs:List (Tk×Addr×Value)}(r:Q3 xs vs):ae (xs.map λp=>V.ref p.2.1) (vs.map λq=>Value.ref q.2.1):=by
 induction r with
 |nil=>exact .nil
 |@cons p q ps qs h t ih =>
  refine .cons ?_ ih;show Value.ref q.2.1=Value.ref p.2.1;rw[h.2.1]
theorem ym{K:W.Frag}{xs:TX}{vs:List (Tk×Addr×Value)}(r:Q3 xs vs)(he:es.toList=vs.map oz):
  Turn P w K tg (Cy d (Km d es ep) xs) [it] it (λi h=>h.IsKeyIter it d i es.size ep)where
 mem:=by simp
 obj:=λi h st b hb=>by
  have e:b=it:=by simpa using hb
  subst e;obtain⟨o,e,c,dd⟩:=st;exact⟨o,e,λv z=>by rw[dd]at z;cases z⟩
 keep:=λi h h' st k=>st.at λo e=>k it (by simp) o e
 item:=by
  intro X hP hw hK hc i io s σ H E I hf st hg;subst hP hw hK;obtain⟨hd,hi⟩:=hg;have hm:qB d es ep s.heap:=(show bH X.prog X.w H s.heap d (Km d es ep)from I.bE d _ hd).1;have hl:es.size=xs.length:=by have:=congrArg List.length he;simp only[Array.length_toList,length_map]at this;rw[this,<-Paired.length r]
  obtain⟨f0,f1,f2,f3,f4,f5⟩:=hf it (by simp);have wZ:i<es.size:=by lia
  refine Eb st hm wZ λh' uC sb=>?_;have I1:Inv X io σ H { s with heap:=h' }:=I.turned (t':=s.toks) (λb o hb e=>sb.extBut b o hb e) f0 f1 f3 f4 f5
  obtain⟨o,e,c,dd⟩:=id uC;have ex:xs[i]?=some xs[i]:=by simp[hi]
  obtain⟨p,hp⟩:∃p,xs[i]=p:=⟨_,rfl⟩;rw[hp]at ex;obtain⟨u,hu,ru⟩:=(Q3.addrs r).get (i:=i) (x:=V.ref p.2.1) (by rw[getElem?_map,ex];rfl);have ek:es[i].key=u:=by
   have e2:es.toList[i]?=some es[i]:=(by simp[wZ]);rw[he,getElem?_map]at e2;rw[getElem?_map]at hu;cases ew:vs[i]? with
   |none=>rw[ew]at e2;cases e2
   |some q =>
    rw[ew]at e2 hu;rw[<-Option.some.inj e2,<-Option.some.inj hu];rfl
  exact⟨es[i].key,rfl,yF (s:={ s with heap:=h' }) e c dd (by decide) ⟨.ref p.2.1,H,I1,by rw[ek];exact ru,⟨rfl,p,ex,rfl⟩,uC,λb hb=>(hf b hb).1⟩⟩
 done:=by
  intro X hP hw hK hc i io s σ H E I hf st hg;subst hP hw hK;obtain⟨hd,hi⟩:=hg;have hm:qB d es ep s.heap:=(show bH X.prog X.w H s.heap d (Km d es ep)from I.bE d _ hd).1;have hl:es.size=xs.length:=by have:=congrArg List.length he;simp only[Array.length_toList,length_map]at this;rw[this,<-Paired.length r]
  obtain⟨f0,f1,f2,f3,f4,f5⟩:=hf it (by simp);exact G2 (I.ok.hd hc) st hm (by lia) λh' eb=>⟨rfl,I.turned (t':=s.toks) (λb o hb e=>eb b o hb e) f0 f1 f3 f4 f5⟩
 self:=λ_ _ _ _ _ st h=>wpAny_pyIter_keyiter st h
section
theorem Inv.Eo{xs:TX}(I:Inv X io σ H s)(hd:H d=some (iT d xs)):
  ∃vs es ep,Q3 xs vs/\es.toList=vs.map oz/\xs.length<=sizeLine/\(d==sysModules)=false/\(xs.map (·.1)).Nodup/\qB d es ep s.heap/\Inv X io σ (upd H d (Km d es ep)) s:=by
 obtain⟨z,hs,hn,vs,r,o,es,ep,h1,h2,h3,h4⟩:=TD.raw I hd;have hm:qB d es ep s.heap:=⟨o,h1,h2,h3⟩;refine⟨vs,es,ep,r,h4,z,hs,hn,hm,?_⟩;exact I.write (x:=d) (e:=d) (h':=s.heap) (t':=s.toks) (by rw[hd];exact True.intro) (.inl rfl) (λ_ _ _ q=>q) ⟨o,h1⟩ ⟨hm,⟨o,h1⟩,λg1 g2 x k=>x.at_ k⟩
theorem Inv.Ep{xs:TX}{u:HO}(I:Inv X io σ H s)(ok:Cu d xs u)(hd:H d=some u):Inv X io σ (upd H d (iT d xs)) s:=by obtain⟨z,hs,hn,vs,es,ep,r,h4,rfl⟩:=ok;obtain⟨o,h1,h2,h3⟩:=(show bH X.prog X.w H s.heap d (Km d es ep)from I.bE d _ hd).1;exact I.write (x:=d) (e:=d) (h':=s.heap) (t':=s.toks) (by rw[hd];exact True.intro) (.inl rfl) (λ_ _ _ q=>q) ⟨o,h1⟩ (En z hs hn r h1 h2 h3 h4)
def HS(td:TE):TI:=λσ H R=>td σ H λx H1=>∃d xs,x=.ref d/\H1 d=some (iT d xs)/\∀u,Cu d xs u->R (Cy d u xs) (upd H1 d u)
theorem jX{l:Expr}(hl:PE X l td):PI X tg l (HS td):=by
 intro io s σ H R I h;refine bI (hl io s σ H _ I h) λv s1 ⟨x,H1,I1,r1,q1⟩=>?_;obtain⟨d,xs,rfl,hd,q⟩:=q1;cases r1;obtain⟨vs,es,ep,rel,he,z,hs,hn,hm,I2⟩:=I1.Eo hd;refine Ea hs hm ?_;refine⟨s1.heap.objs.size,[s1.heap.objs.size],_,_,_,rfl,I2.kept (t':=s1.toks) λb o e=>Heap.get?_push_of_some _ e,ym rel he,⟨_,Heap.get?_push_size _ rfl,rfl,rfl⟩,λb hb=>?_,q _ ⟨z,hs,hn,vs,es,ep,rel,he,rfl⟩⟩;have e:b=s1.heap.objs.size:=by simpa using hb
 subst e;exact I2.uJ (le_refl _) (I2.bE.fresh (le_refl _))
def HU(t:TS):TS:=λD σ H=>t { D with nx:=λσ' H'=>∃d xs u,Cu d xs u/\H' d=some u/\D.nx σ' (upd H' d (iT d xs)) } σ H
theorem vQ{t:TS}(h:PS X st t):PS X st (HU t):=by
 intro io s σ H D I q;refine wpAny_mono (h io s σ H _ I q) (λf s' q=>?_) λ_ _ z=>z;cases f with
 |next=>obtain⟨σ',H',I',d,xs,u,ok,hd,q⟩:=q;exact⟨σ',_,I'.Ep ok hd,q⟩
 |brk=>exact q
 |cont=>exact q
 |ret u=>exact q
def HV(t:TE):TE:=λσ H Q=>t σ H λx H'=>∃d xs u,Cu d xs u/\H' d=some u/\Q x (upd H' d (iT d xs))
theorem vR{t:TE}(h:PE X e t):PE X e (HV t):=by intro io s σ H Q I q;exact bI (h io s σ H _ I q) λv s1 ⟨x,H1,I1,r1,d,xs,u,ok,hd,q1⟩=>⟨x,_,I1.Ep ok hd,r1,q1⟩
end
section
variable{Q:VK}
theorem vS{u:HO}{xs:TX}(Pv:Nat->St->Hp->Prop)(h0:Pv 0 σ H)(hl:∀i σ H,i<=xs.length->Pv i σ H->H d=some u)(hs:∀(i:Nat)(p:Tk×Addr×V)(σ:St)(H:Hp)(N:St->Hp->Prop),(∀σ H,Pv (i+1) σ H->N σ H)->xs[i]?=some p->Pv i σ H->g (.ref p.2.1) σ H λσ3 H3=>tt σ3 H3 λb H4 =>
   if b=true then te σ3 H4 λv H5=>∃ys,H5 D=some (.lst ys)/\ys.length<sizeLine/\N σ3 (upd H5 D (.lst (ys++[v])))else N σ3 H4)(hd:∀σ H,Pv xs.length σ H->Q (.ref D) H):r9 (Cy d u xs) g tt te D σ H Q:=by
 refine⟨λi m σ H=>m=xs.length-i/\i<=xs.length/\Pv i σ H,⟨xs.length,by simp,zero_le _,h0⟩,?_⟩;rintro i m σ' H' ⟨rfl,hi,p⟩;have q1:=hl i σ' H' hi p;by_cases cN:i<xs.length
 ·refine .inr ⟨⟨q1,cN⟩,λx H2 y=>?_⟩;obtain⟨rfl,k,ex,rfl⟩:=y;exact hs i k σ' _ (λσ3 H3=>∃m',m'<xs.length-i/\m'=xs.length-(i+1)/\i+1<=xs.length/\Pv (i+1) σ3 H3) (λσ3 H3 z=>⟨xs.length-(i+1),by lia,rfl,cN,z⟩) ex p
 have e:i=xs.length:=by lia
 subst e;exact .inl ⟨⟨q1,le_refl _⟩,hd σ' H' p⟩
theorem nY{u:HO}{xs:TX}{D:Ends}(Pv:Nat->St->Hp->Prop)(h0:Pv 0 σ H)(hl:∀i σ H,i<=xs.length->Pv i σ H->H d=some u)(hs:∀(i:Nat)(p:Tk×Addr×V)(σ:St)(H:Hp),xs[i]?=some p->Pv i σ H->g (.ref p.2.1) σ H λσ2 H2=>tb { D with nx:=Pv (i+1),ct:=Pv (i+1),bk:=D.nx } σ2 H2)(hd:∀σ H,Pv xs.length σ H->D.nx σ H):
  ∃W:Nat->Nat->St->Hp->Prop,(∃m,W 0 m σ H)/\∀i m σ H,W i m σ H ->
   ((Cy d u xs).stop i H/\D.nx σ H)\/((Cy d u xs).go i H/\∃N:St->Hp->Prop,(∀σ' H',N σ' H'->∃m',m'<m/\W (i+1) m' σ' H')/\∀x H',(Cy d u xs).BK i H x H'->g x σ H' λσ2 H2=>tb { D with nx:=N,ct:=N,bk:=D.nx } σ2 H2):=by
 refine⟨λi m σ H=>m=xs.length-i/\i<=xs.length/\Pv i σ H,⟨xs.length,by simp,zero_le _,h0⟩,?_⟩;rintro i m σ' H' ⟨rfl,hi,p⟩;have q1:=hl i σ' H' hi p;by_cases cN:i<xs.length
 ·refine .inr ⟨⟨q1,cN⟩,Pv (i+1),λσ3 H3 z=>⟨xs.length-(i+1),by lia,rfl,cN,z⟩,λx H2 y=>?_⟩;obtain⟨rfl,k,ex,rfl⟩:=y;exact hs i k σ' _ ex p
 have e:i=xs.length:=by lia
 subst e;exact .inl ⟨⟨q1,le_refl _⟩,hd σ' H' p⟩
end
end L2
namespace L2
section
open PySem PySem.Spec PyProof.Rows
variable{X:Cx}
def Ko(P:Program)(w:World)(td ty:TE):TE:=λσ H Q=>td σ H λx H1=>ty σ H1 λy H2=>∃a lw u k v,x=.ref a/\H2 a=some u/\EW P w a lw u/\y=kV k/\fY lw k=some v/\Q v H2
theorem si(P:Program)(w:World){o i:Expr}{pos:Pos}{td ty:TE}(ho:PE X o td)(hi:PE X i ty)(hs:Gp i)(hP:X.prog=P:=by rfl)(hw:X.w=w:=by rfl):PE X (.Subscript o i pos) (Ko P w td ty):=by subst hP hw;intro io s σ H Q I h;refine wO PySem.F.slot_dict_getitem.lookup hs (bI (ho io s σ H _ I h) λu s1 ⟨x,H1,I1,rx,q1⟩=>bI (hi io s1 σ H1 _ I1 q1) λiv s2 ⟨y,H2,I2,ry,a,lw,uo,k,v,ex,Er,ok,ey,hv,q2⟩=>?_);subst ex ey;obtain rfl:u=Value.ref a:=rx;obtain⟨z,rX,vs,ep,rel,rfl⟩:=ok;have hm:s2.heap.DictAt (aY X.prog X.w) a vs ep:=(show bH X.prog X.w H2 s2.heap a (Kf X.prog X.w a vs ep)from I2.bE a _ Er).1;obtain⟨w',Oc,rA⟩:=gY.some_of (v:=v) (o:=valueAt vs k) (by rw[<-hv];exact rel.val k);exact⟨hm.dictOf.typeIs,wpAny_getItem_of (kc ry) hm.dictOf.mapOf Oc ⟨v,H2,I2.tok _,rA,q2⟩⟩
end
variable{A:Around}{E Q Q₁ E':Value->Shared->Prop}{s:Shared}{a z it i1 i2 l I S:Addr}{prog P:Program}{w:World}{f0 x:Value}{b fb:Bool}{t tz:SetTable}{i k ep n slot:Nat}{items xs ys:Array Value}{nm:Str}{pos:Pos}{X:Cx}{σ:St}{H:Hp}{io:List (Addr×Obj)}{h:Heap}{o:Obj}{es ez:Array (Int×Value)}{R:Option Bool->Shared->Prop}{ks:List Key}{G:Array GenState->Array GenState->Prop}{us:List Value}{src:Source}{ord:List Nat}
open PySem PySem.Spec PyProof.Rows
theorem yn{M:Model}{Q:Option Obj->Shared->Prop}(h:Q (s.heap.get? a) s):wpAny M A (loadIfAlive a) Q E s:=λΓ p _=>by unfold loadIfAlive;rw[Sem.wp_loadIfAlive];exact(Sem.wp_pure ..).mpr h
abbrev yo(h:Heap)(z TI TO:Addr)(f0:Value)(b:Bool):Prop :=
 h.get? z=some { cls:=.type "zip",dict:=none,data:=.fields #[f0,.bool b,.bool false,.ref TI,.ref TO],slots:=#[] }
def qk(f0:Value):Prop:=f0=.none\/∃a t,f0=.int a t
section
theorem sj{TI TO:Addr}{Q:Bool->Shared->Prop}(hz:yo s.heap z TI TO f0 b)(hf:qk f0)(h1:Q true s)(h2:∀h',yo h' z TI TO f0 true->Heap.SameBut z s.heap h'->Q false { s with heap:=h' }):
  wpAny (model prog w) A (Builtin.SmallTypes.ownedTupleIsFree (.ref z)) Q E s:=by
 unfold Builtin.SmallTypes.ownedTupleIsFree;refine f8 (wpAny_field hz rfl (x:=f0) rfl ?_);rcases hf with rfl|⟨a,t,rfl⟩
 ·exact im h1
 refine f8 (yn ?_);cases e:s.heap.get? a.toNat with
 |none=>exact im h1
 |some o =>
  refine(show wpAny _ _ (field (.ref z) 1 >>= _) _ _ _ from f8 (wpAny_field hz rfl (x:=.bool b) rfl ?_));cases b with
  |true=>exact im (h2 s.heap hz (.refl _ _))
  |false=>exact f8 (wpAny_setField_rec hz (by simp) λh' QN hs=>im (h2 h' QN hs))
theorem ke{t:Addr}(hh:A.handled=none)(hit:s.heap.IsTupleIter it t i)(ht:s.heap.IsTuple t items)(hx:items[i]?=none)(hE:∀h' e,Heap.ExtBut it s.heap h'->(∃o,h'.get? e=some o/\o.cls=.type "StopIteration")->E (.ref e) { s with heap:=h' }):wpAny (model prog w) A (Builtin.SmallTypes.nextOf (.ref it)) Q E s:=by
 obtain⟨ob,e1,_,e2⟩:=id hit;obtain⟨ot,g1,_,m,g2⟩:=ht;unfold Builtin.SmallTypes.nextOf;refine f8 (wpAny_callSpecial?_slot (name:=Str.ofString "__next__") hit.typeIs F.slot_tuple_iterator_next (wpAny_call_entry F.slot_tuple_iterator_next hit.typeIs F.entry_tuple_iterator_next ?_ (F.args_tuple_iterator_next_1 _)));refine(show wpAny _ _ (field (.ref it) 0 >>= _) _ _ s from f8 (wpAny_field e1 e2 (x:=.ref t) rfl (show wpAny _ _ (if(Value.ref t==Value.none)=true then _ else _) _ _ s from ?_)));rw[if_neg (by exact Bool.false_ne_true)];refine(show wpAny _ _ (field (.ref it) 1 >>= _) _ _ s from f8 (wpAny_field e1 e2 (x:=.int i 0) rfl (show wpAny _ _ (seqItems? (.ref t) >>= _) _ _ s from f8 (wpAny_seqItems g1 g2 ?_))));simp only[hx,Int.toNat_natCast];refine f8 (wpAny_rule (f8 (wpAny_setField e1 e2 (by simp) (show wpAny _ _ (newExc (.type "StopIteration") [] >>= _) _ _ _ from f8 ?_))));simp only[newTuple,newExc];refine f8 (wpAny_newObj_type (f8 (m:=firstArgMember _ _) (wpAny_of_eq (a:=Value.none) (by first|rfl|(simp only[firstArgMember];rfl)) (wpAny_newObj_type ?_ (by size_fits)))) (by size_fits));simp only[raiseNew];refine f8 (wpAny_handled ?_)
 first|rw[hh]|rw[show A.in1.handled=none from hh]
 exact f8 (im (wpAny_throw (hE _ _ (((Heap.SameBut.update ..).extBut.push _).push _) ⟨_,Heap.get?_push_size _ rfl,rfl⟩)))
theorem Cz{TI TO t:Addr}{y a b:Value}(D:ZipApart z TI TO i1 i2 l t)(hz:yo s.heap z TI TO f0 fb)(Df:qk f0)(wj:IsPair s.heap TI (.ref i1) (.ref i2))(wm:IsPair s.heap TO a b)(h1:s.heap.IsTupleIter i1 l k)(h2:s.heap.IsTupleIter i2 t k)(hl:s.heap.IsTuple l xs)(ht:s.heap.IsTuple t ys)(hx:xs[k]?=some x)(hy:ys[k]?=some y)(hQ:∀h' f1 Kp a' b',yo h' z TI TO f1 Kp->qk f1->IsPair h' TO a' b'->h'.IsTupleIter i1 l (k+1)->h'.IsTupleIter i2 t (k+1)->IsPair h' s.heap.objs.size x y->h'.objs.size=s.heap.objs.size+1 ->
   (∀c o,c≠z->c≠TO->c≠i1->c≠i2->s.heap.get? c=some o->h'.get? c=some o)->Q (.ref s.heap.objs.size) { s with heap:=h' }):
  wpAny (model prog w) A (Builtin.«zip.__next__» ⟨[.ref z],[]⟩) (λfin s'=>∃v,fin=.done (.ret v)/\Q v s') E s:=by
 refine(show wpAny _ _ (field (.ref z) 2 >>= _) _ _ _ from f8 (wpAny_field hz rfl (x:=.bool false) rfl ?_));refine(show wpAny _ _ (field (.ref z) 3 >>= _) _ _ _ from f8 (wpAny_field hz rfl (x:=.ref TI) rfl (f8 (wpAny_seqItems wj rfl ?_))));refine(show wpAny _ _ (Builtin.SmallTypes.ownedTupleIsFree (.ref z) >>= _) _ _ _ from f8 (sj hz Df ?_ λha Ls oS=>?_))
 ·rw[if_pos (by rfl)];refine f8 (wpAny_rule (f8 (wpAny_field hz rfl (x:=.ref TO) rfl (f8 (wpAny_setField_rec hz (by simp) λha Ls oS=>f8 ?_)))));have Kq:yo ha z TI TO .ellipsis fb:=Ls;simp only[List.forIn_cons,List.forIn_nil,List.zipIdx_cons,List.zipIdx_nil];refine f8 (f8 (wpAny_onRaise (show wpAny _ _ (Builtin.SmallTypes.nextOf (.ref i1) >>= _) _ _ _ from f8 (eX (h1.extBut oS.extBut D.i1z) (hl.extBut oS.extBut D.l1z) hx λhb NM p8=>im ?_))));have to2:IsPair hb TO a b:=p8.extBut _ _ D.TOi1 (oS.extBut _ _ D.TOz wm);refine f8 (wpAny_seqItems to2 rfl (f8 (wpAny_updateSeq_pair to2 λhc to3 yQ=>f8 (wpAny_letGo (im ?_)))));have QU:IsPair hc TO x b:=to3;refine f8 (f8 (wpAny_onRaise (show wpAny _ _ (Builtin.SmallTypes.nextOf (.ref i2) >>= _) _ _ _ from f8
   (eX (((h2.extBut oS.extBut D.i2z).extBut p8.extBut D.i12.symm).extBut yQ.extBut D.TOi2.symm) (((ht.extBut oS.extBut D.l2z).extBut p8.extBut D.l2i1).extBut yQ.extBut D.l2TO) hy λhd QV zc=>im ?_))))
  have R4:IsPair hd TO x b:=zc.extBut _ _ D.TOi2 QU;refine f8 (wpAny_seqItems R4 rfl (f8 (wpAny_updateSeq_pair R4 λhe UY NN=>f8 (wpAny_letGo (im (im ?_))))));have NO:IsPair he TO x y:=UY;refine f8 (wpAny_seqItems NO rfl (f8 (wpAny_newTuple ?_)));have vT:he.objs.size=s.heap.objs.size:=by rw[NN.1,zc.1,yQ.1,p8.1,oS.1]
  have z5:yo he z TI TO .ellipsis fb:=NN.extBut _ _ D.TOz.symm (zc.extBut _ _ D.i2z.symm (yQ.extBut _ _ D.TOz.symm (p8.extBut _ _ D.i1z.symm Kq)));have NP:∀c o,c≠z->c≠TO->c≠i1->c≠i2->s.heap.get? c=some o->he.get? c=some o:=λc o n1 n2 n3 n4 e=>NN.extBut _ _ n2 (zc.extBut _ _ n4 (yQ.extBut _ _ n2 (p8.extBut _ _ n3 (oS.extBut _ _ n1 e))));have UZ:he.IsTupleIter i1 l (k+1):=((NM.extBut yQ.extBut D.TOi1.symm).extBut zc.extBut D.i12).extBut NN.extBut D.TOi1.symm;have Ua:he.IsTupleIter i2 t (k+1):=QV.extBut NN.extBut D.TOi2.symm;have R5:z<he.objs.size:=Heap.lt_size z5;refine(show wpAny _ _ (Builtin.SmallTypes.ownedTupleHandOut (.ref z) (.ref he.objs.size) >>= _) _ _ _ from f8 ?_);unfold Builtin.SmallTypes.ownedTupleHandOut;have z6:yo (he.push { cls:=.type "tuple",data:=.seq #[x,y] }) z TI TO .ellipsis fb:=Heap.get?_push_of_some _ z5;refine f8 (wpAny_setField_rec z6 (by simp) λhf zf QW=>?_);have Ub:yo hf z TI TO (rawInt he.objs.size) fb:=zf;refine wpAny_setField_rec Ub (by simp) λhg zg QX=>?_;have R6:yo hg z TI TO (rawInt he.objs.size) false:=zg;have up:∀c o,c≠z->he.get? c=some o->hg.get? c=some o:=λc o n1 e=>QX.extBut _ _ n1 (QW.extBut _ _ n1 (Heap.get?_push_of_some _ e));have JN:IsPair hg he.objs.size x y:=QX.extBut _ _ (Nat.ne_of_gt R5) (QW.extBut _ _ (Nat.ne_of_gt R5) (Heap.get?_push_size _ rfl));have JO:hg.objs.size=he.objs.size+1:=by rw[QX.1,QW.1,Heap.size_push]
  rw[vT]at R6 JN JO;refine im ⟨_,rfl,(show Q (.ref he.objs.size) _ from ?_)⟩;rw[vT];exact hQ hg _ _ _ _ R6 (.inr ⟨_,_,rfl⟩) (up _ _ D.TOz NO) (UZ.at λo e=>up _ o D.i1z e) (Ua.at λo e=>up _ o D.i2z e) JN JO λc o n1 n2 n3 n4 e=>up c o n1 (NP c o n1 n2 n3 n4 e)
 rw[if_neg (by exact Bool.false_ne_true)];refine f8 ?_;simp only[List.forIn_toArray,List.forIn_cons,List.forIn_nil];refine f8 (f8 (wpAny_holding (show wpAny _ _ (Builtin.SmallTypes.nextOf (.ref i1) >>= _) _ _ _ from f8 (eX (h1.extBut oS.extBut D.i1z) (hl.extBut oS.extBut D.l1z) hx λhb NM p8=>im ?_))));refine im ?_;refine f8 (f8 (wpAny_holding (show wpAny _ _ (Builtin.SmallTypes.nextOf (.ref i2) >>= _) _ _ _ from f8 (eX ((h2.extBut oS.extBut D.i2z).extBut p8.extBut D.i12.symm) ((ht.extBut oS.extBut D.l2z).extBut p8.extBut D.l2i1) hy λhd QV zc=>im ?_))));refine im (im ?_);refine f8 (wpAny_newTuple ?_ (by show 2<=sizeLine;decide));have vT:hd.objs.size=s.heap.objs.size:=by rw[zc.1,p8.1,oS.1]
 have up:∀c o,hd.get? c=some o->(hd.push { cls:=.type "tuple",data:=.seq #[x,y] }).get? c=some o:=λc o e=>Heap.get?_push_of_some _ e;refine im ⟨_,rfl,(show Q (.ref hd.objs.size) _ from ?_)⟩;rw[vT];refine hQ _ f0 true a b (up _ _ (zc.extBut _ _ D.i2z.symm (p8.extBut _ _ D.i1z.symm Ls))) Df (up _ _ (zc.extBut _ _ D.TOi2 (p8.extBut _ _ D.TOi1 (oS.extBut _ _ D.TOz wm)))) ((NM.extBut zc.extBut D.i12).at λo e=>up _ o e) (QV.at λo e=>up _ o e) ?_ (by rw[Heap.size_push,vT]) λc o n1 n2 n3 n4 e=>up _ _ (zc.extBut _ _ n4 (p8.extBut _ _ n3 (oS.extBut _ _ n1 e)));rw[<-vT];exact Heap.get?_push_size _ rfl
theorem Es{TI TO t:Addr}{a b:Value}{Q:Fin->Shared->Prop}(hh:A.handled=none)(D:ZipApart z TI TO i1 i2 l t)(hz:yo s.heap z TI TO f0 fb)(Df:qk f0)(wj:IsPair s.heap TI (.ref i1) (.ref i2))(wm:IsPair s.heap TO a b)(h1:s.heap.IsTupleIter i1 l k)(h2:s.heap.IsTupleIter i2 t k)(hl:s.heap.IsTuple l xs)(ht:s.heap.IsTuple t ys)(hx:xs[k]?=some x)(hy:ys[k]?=none)(hE:∀h' e,(∀c o,c≠z->c≠TO->c≠i1->c≠i2->s.heap.get? c=some o->h'.get? c=some o)->(∃o,h'.get? e=some o/\o.cls=.type "StopIteration")->E (.ref e) { s with heap:=h' }):
  wpAny (model prog w) A (Builtin.«zip.__next__» ⟨[.ref z],[]⟩) Q E s:=by
 refine(show wpAny _ _ (field (.ref z) 2 >>= _) _ _ _ from f8 (wpAny_field hz rfl (x:=.bool false) rfl ?_));refine(show wpAny _ _ (field (.ref z) 3 >>= _) _ _ _ from f8 (wpAny_field hz rfl (x:=.ref TI) rfl (f8 (wpAny_seqItems wj rfl ?_))));refine(show wpAny _ _ (Builtin.SmallTypes.ownedTupleIsFree (.ref z) >>= _) _ _ _ from f8 (sj hz Df ?_ λha Ls oS=>?_))
 ·rw[if_pos (by rfl)];refine f8 (wpAny_rule (f8 (wpAny_field hz rfl (x:=.ref TO) rfl (f8 (wpAny_setField_rec hz (by simp) λha Ls oS=>f8 ?_)))));have Kq:yo ha z TI TO .ellipsis fb:=Ls;simp only[List.forIn_cons,List.forIn_nil,List.zipIdx_cons,List.zipIdx_nil];refine f8 (f8 (wpAny_onRaise (show wpAny _ _ (Builtin.SmallTypes.nextOf (.ref i1) >>= _) _ _ _ from f8 (eX (h1.extBut oS.extBut D.i1z) (hl.extBut oS.extBut D.l1z) hx λhb NM p8=>im ?_))));have to2:IsPair hb TO a b:=p8.extBut _ _ D.TOi1 (oS.extBut _ _ D.TOz wm);refine f8 (wpAny_seqItems to2 rfl (f8 (wpAny_updateSeq_pair to2 λhc to3 yQ=>f8 (wpAny_letGo (im ?_)))));refine f8 (f8 (wpAny_onRaise (show wpAny _ _ (Builtin.SmallTypes.nextOf (.ref i2) >>= _) _ _ _ from f8
   (ke hh (((h2.extBut oS.extBut D.i2z).extBut p8.extBut D.i12.symm).extBut yQ.extBut D.TOi2.symm) (((ht.extBut oS.extBut D.l2z).extBut p8.extBut D.l2i1).extBut yQ.extBut D.l2TO) hy λhd e zc he=>?_))))
  obtain⟨oe,QY,R7⟩:=he;have z2:yo hd z TI TO .ellipsis fb:=zc _ _ D.i2z.symm (yQ.extBut _ _ D.TOz.symm (p8.extBut _ _ D.i1z.symm Kq));have Uc:e≠z:=λq=>by subst q;rw[z2]at QY;cases QY;simp at R7
  exact wpAny_setField_rec z2 (by simp) λOS _ NQ=>hE OS e (λc o n1 n2 n3 n4 q=>NQ.extBut _ _ n1 (zc _ _ n4 (yQ.extBut _ _ n2 (p8.extBut _ _ n3 (oS.extBut _ _ n1 q))))) ⟨oe,NQ.extBut _ _ Uc QY,R7⟩
 rw[if_neg (by exact Bool.false_ne_true)];refine f8 ?_;simp only[List.forIn_toArray,List.forIn_cons,List.forIn_nil];refine f8 (f8 (wpAny_holding (show wpAny _ _ (Builtin.SmallTypes.nextOf (.ref i1) >>= _) _ _ _ from f8 (eX (h1.extBut oS.extBut D.i1z) (hl.extBut oS.extBut D.l1z) hx λhb NM p8=>im ?_))));refine im ?_;refine f8 (f8 (wpAny_holding (show wpAny _ _ (Builtin.SmallTypes.nextOf (.ref i2) >>= _) _ _ _ from f8 (ke hh ((h2.extBut oS.extBut D.i2z).extBut p8.extBut D.i12.symm) ((ht.extBut oS.extBut D.l2z).extBut p8.extBut D.l2i1) hy λhd e zc he=>?_))));exact hE hd e (λc o n1 n2 n3 n4 q=>zc _ _ n4 (p8.extBut _ _ n3 (oS.extBut _ _ n1 q))) he
theorem Et{TI TO:Addr}(hz:yo s.heap z TI TO f0 b)(h:Q (.ref z) s):wpAny (model prog w) A (pyIter (.ref z)) Q E s:=by have ty:s.TypeIs (.ref z) "zip":=⟨_,hz,rfl⟩;exact wpAny_pyIter_slot ty F.slot_zip_iter (wpAny_call_entry F.slot_zip_iter ty F.entry_zip_iter (show wpAny _ _ (ret (.ref z)) _ _ s from im ⟨_,rfl,"zip",_,ty,F.slot_zip_next.lookup,h⟩) (F.args_zip_iter_1 _))
theorem qC{TI TO t:Addr}{y a b:Value}{Q:Option Value->Shared->Prop}(D:ZipApart z TI TO i1 i2 l t)(hz:yo s.heap z TI TO f0 fb)(Df:qk f0)(wj:IsPair s.heap TI (.ref i1) (.ref i2))(wm:IsPair s.heap TO a b)(h1:s.heap.IsTupleIter i1 l k)(h2:s.heap.IsTupleIter i2 t k)(hl:s.heap.IsTuple l xs)(ht:s.heap.IsTuple t ys)(hx:xs[k]?=some x)(hy:ys[k]?=some y)(hQ:∀h' f1 Kp a' b',yo h' z TI TO f1 Kp->qk f1->IsPair h' TO a' b'->h'.IsTupleIter i1 l (k+1)->h'.IsTupleIter i2 t (k+1)->IsPair h' s.heap.objs.size x y->h'.objs.size=s.heap.objs.size+1 ->
   (∀c o,c≠z->c≠TO->c≠i1->c≠i2->s.heap.get? c=some o->h'.get? c=some o)->Q (some (.ref s.heap.objs.size)) { s with heap:=h' }):
  wpAny (model prog w) A (pyNext (.ref z)) Q E s:=by
 have hT:s.TypeIs (.ref z) "zip":=⟨_,hz,rfl⟩;unfold pyNext;exact f8 (wpAny_attempt (wpAny_callSpecial?_slot (name:=Str.ofString "__next__") hT F.slot_zip_next (wpAny_call_entry F.slot_zip_next hT F.entry_zip_next
  (Cz D hz Df wj wm h1 h2 hl ht hx hy λh' f1 Kp a' b' a1 a2 a3 a4 a5 a6 a7 a8=>im (hQ h' f1 Kp a' b' a1 a2 a3 a4 a5 a6 a7 a8)) (F.args_zip_next_1 _))))
theorem rE{TI TO t:Addr}{a b:Value}{Q:Option Value->Shared->Prop}(hh:A.handled=none)(D:ZipApart z TI TO i1 i2 l t)(hz:yo s.heap z TI TO f0 fb)(Df:qk f0)(wj:IsPair s.heap TI (.ref i1) (.ref i2))(wm:IsPair s.heap TO a b)(h1:s.heap.IsTupleIter i1 l k)(h2:s.heap.IsTupleIter i2 t k)(hl:s.heap.IsTuple l xs)(ht:s.heap.IsTuple t ys)(hx:xs[k]?=some x)(hy:ys[k]?=none)(hQ:∀h',(∀c o,c≠z->c≠TO->c≠i1->c≠i2->s.heap.get? c=some o->h'.get? c=some o)->Q none { s with heap:=h' }):wpAny (model prog w) A (pyNext (.ref z)) Q E s:=by have hT:s.TypeIs (.ref z) "zip":=⟨_,hz,rfl⟩;unfold pyNext;refine f8 (wpAny_attempt (wpAny_callSpecial?_slot (name:=Str.ofString "__next__") hT F.slot_zip_next (wpAny_call_entry F.slot_zip_next hT F.entry_zip_next (Es hh D hz Df wj wm h1 h2 hl ht hx hy λh' e hk he=>?_) (F.args_zip_next_1 _))));obtain⟨o,ho,hc⟩:=he;exact f8 (wpAny_isInstance (T:="StopIteration") (b:=true) ⟨o,ho,hc⟩ isSubtype_stop (im (hQ _ hk)))
end
abbrev yA(h:Heap)(l:Addr):Heap:=h.push { cls:=.type "tuple_iterator",data:=.fields #[.ref l,.int 0 0] }
abbrev yB(h:Heap)(l t:Addr):Heap:=(yA h l).push { cls:=.type "tuple_iterator",data:=.fields #[.ref t,.int 0 0] }
abbrev yC(h:Heap)(l t:Addr):Heap:=(yB h l t).push { cls:=.type "tuple",data:=.seq #[.ref h.objs.size,.ref (yA h l).objs.size] }
abbrev yD(h:Heap)(l t:Addr):Heap:=(yC h l t).push { cls:=.type "tuple",data:=.seq #[.none,.none] }
abbrev yE(h:Heap)(l t:Addr):Heap:=(yD h l t).push { cls:=.type "zip",data:=.fields #[.none,.bool false,.bool false,.ref (yB h l t).objs.size,.ref (yC h l t).objs.size] }
theorem AZ(l t:Addr)(xs ys:Array Value):Meets (Builtin.«zip.__new__» ⟨[.type "zip",.ref l,.ref t],[]⟩) (λ_ R s=>s.heap.IsTuple l xs/\s.heap.IsTuple t ys/\R (.ok (.ret (.ref (yD s.heap l t).objs.size))) { s with heap:=yE s.heap l t }) :=
 .of_wp λprog w A R s h=>by
  obtain⟨hp,g,d,tk,os⟩:=s;obtain⟨hl,ht,h⟩:=h;have Ud:=sub_zip;have e1:Heap.IsTuple (Shared.heap ⟨hp,g,d,tk,os⟩) l xs:=hl;have e2:Heap.IsTuple (Shared.heap ⟨hp.push { cls:=.type "tuple_iterator",data:=.fields #[.ref l,.int 0 0] },g,d,tk,os⟩) t ys:=Heap.IsTuple.push ht _
  wp_walk using wpAny_pyIter_tuple e1,wpAny_pyIter_tuple e2
  exact⟨_,rfl,h⟩
section
theorem C0{t:Addr}(hl:s.heap.IsTuple l xs)(ht:s.heap.IsTuple t ys)(h:∀h',IsZip h' (s.heap.objs.size+4) (s.heap.objs.size+2) (s.heap.objs.size+3) .none->IsPair h' (s.heap.objs.size+2) (.ref s.heap.objs.size) (.ref (s.heap.objs.size+1))->IsPair h' (s.heap.objs.size+3) .none .none ->
   h'.IsTupleIter s.heap.objs.size l 0->h'.IsTupleIter (s.heap.objs.size+1) t 0->(∀c o,s.heap.get? c=some o->h'.get? c=some o)->Q (.ref (s.heap.objs.size+4)) { s with heap:=h' }):
  wpAny (model prog w) A (call (.type "zip") [.ref l,.ref t]) Q E s:=by
 refine callType_new F.called_zip (by decide) (F.typeCall_zip_2 _ _) (F.newCall_zip_2 _ _) (λobj=>F.args_object_init_3 obj _ _) F.entry_zip_new (AZ l t xs ys) ⟨hl,ht,?_⟩;have s1:(yA s.heap l).objs.size=s.heap.objs.size+1:=Heap.size_push ..;have s2:(yB s.heap l t).objs.size=s.heap.objs.size+2:=by rw[Heap.size_push,s1]
 have s3:(yC s.heap l t).objs.size=s.heap.objs.size+3:=by rw[Heap.size_push,s2]
 have s4:(yD s.heap l t).objs.size=s.heap.objs.size+4:=by rw[Heap.size_push,s3]
 have up:∀{g:Heap}{o p:Obj}{c:Addr},g.get? c=some o->(g.push p).get? c=some o:=λe=>Heap.get?_push_of_some _ e;have g5:(yE s.heap l t).get? (yD s.heap l t).objs.size=some _:=Heap.get?_push_size _ rfl;have g4:(yE s.heap l t).get? (yC s.heap l t).objs.size=some _:=up (Heap.get?_push_size _ rfl);have g3:(yE s.heap l t).get? (yB s.heap l t).objs.size=some _:=up (up (Heap.get?_push_size _ rfl));have g2:(yE s.heap l t).get? (yA s.heap l).objs.size=some _:=up (up (up (Heap.get?_push_size _ rfl)));have g1:(yE s.heap l t).get? s.heap.objs.size=some _:=up (up (up (up (Heap.get?_push_size _ rfl))));show _/\_;rw[s2,s3,s4]at g5;rw[s1,s2]at g3;rw[s3]at g4;rw[s1]at g2;rw[s4];exact⟨⟨_,g5,rfl⟩,h _ g5 g3 g4 ⟨_,g1,rfl,rfl⟩ ⟨_,g2,rfl,rfl⟩ λc o q=>up (up (up (up (up q))))⟩
end
def Eu(K:W.Frag)(a b:Addr):It :=
 ⟨λi H=>∃xs ys x y,ab K H a xs/\ab K H b ys/\xs[i]?=some x/\ys[i]?=some y,
  λi H v H'=>∃p x y,H p=none/\v=.ref p/\H'=upd H p (.tup [x,y])/\(∀xs,ab K H a xs->xs[i]?=some x)/\∀ys,ab K H b ys->ys[i]?=some y,
  λi H=>∃xs ys x,ab K H a xs/\ab K H b ys/\xs[i]?=some x/\ys.length<=i⟩
theorem C1{K:W.Frag}{TI TO l1 l2:Addr}(D:ZipApart z TI TO i1 i2 l1 l2):
  Turn P w K (.Name nm pos) (Eu K l1 l2) [z,TI,TO,i1,i2] z (λi h=>(∃f0 fb,yo h z TI TO f0 fb/\qk f0)/\IsPair h TI (.ref i1) (.ref i2)/\(∃a b,IsPair h TO a b)/\h.IsTupleIter i1 l1 i/\h.IsTupleIter i2 l2 i)where
 mem:=by simp
 obj:=λi h st b hb=>by
  obtain⟨⟨f0,fb,hz,_⟩,wj,⟨a,b',wm⟩,⟨o1,e1,c1,d1⟩,⟨o2,e2,c2,d2⟩⟩:=st;simp only[mem_cons,not_mem_nil,or_false]at hb;rcases hb with rfl|rfl|rfl|rfl|rfl
  ·exact⟨_,hz,λv q=>by cases q⟩
  ·exact⟨_,wj,λv q=>by cases q⟩
  ·exact⟨_,wm,λv q=>by cases q⟩
  ·exact⟨_,e1,λv q=>by rw[d1]at q;cases q⟩
  exact⟨_,e2,λv q=>by rw[d2]at q;cases q⟩
 keep:=λi h h' st k=>by obtain⟨⟨f0,fb,hz,hf⟩,wj,⟨a,b',wm⟩,h1,h2⟩:=st;exact⟨⟨f0,fb,k z (by simp) _ hz,hf⟩,k TI (by simp) _ wj,⟨a,b',k TO (by simp) _ wm⟩,h1.at λo e=>k i1 (by simp) o e,h2.at λo e=>k i2 (by simp) o e⟩
 item:=by
  intro X hP hw hK hc i io s σ H E I hf st hg;subst hP hw hK;obtain⟨⟨f0,fb,hz,Df⟩,wj,⟨a,b,wm⟩,h1,h2⟩:=st;obtain⟨xs,ys,x,y,hx,hy,ex,ey⟩:=hg;obtain⟨aS,rv,p,Ue⟩:=I.tuple hx;obtain⟨ik,QZ,p2,Ug⟩:=I.tuple hy;obtain⟨u,hu,ru⟩:=rv.get ex;obtain⟨u2,Er,Uh⟩:=QZ.get ey;refine qC D hz Df wj wm h1 h2 (show s.heap.IsTuple l1 aS.toArray from p) (show s.heap.IsTuple l2 ik.toArray from p2) (x:=u) (y:=u2) (by simpa using hu) (by simpa using Er) λh' f1 Kp a' b' a1 af a2 a3 a4 a5 a6 kk=>⟨_,rfl,?_⟩;refine(show wpAny _ _ (pure ()) _ _ _ from im ?_);have lt:∀{c o},s.heap.get? c=some o->s.heap.objs.size≠c:=λe=>Nat.ne_of_gt (Heap.lt_size e);have k2:∀c o,c∉[z,TI,TO,i1,i2]->s.heap.get? c=some o->h'.get? c=some o:=λc o hc e=>by simp only[mem_cons,not_mem_nil,or_false,not_or]at hc;exact kk c o hc.1 hc.2.2.1 hc.2.2.2.1 hc.2.2.2.2 e
  have tup:bH X.prog X.w (upd H s.heap.objs.size (.tup [x,y])) h' s.heap.objs.size (.tup [x,y]) :=
   ⟨by show 2<=sizeLine;decide,[u,u2],.cons ru (.cons Uh .nil),⟨_,a5,rfl,_,rfl⟩⟩
  have hn:=I.bE.fresh (le_refl s.heap.objs.size);refine⟨.ref s.heap.objs.size,_,I.Cc (t':=s.toks) k2 hf (le_refl _) tup,rfl,⟨_,x,y,hn,rfl,rfl,λzs hq=>by rw[I.jR hq hx];exact ex,λzs hq=>by rw[I.jR hq hy];exact ey⟩,
   ⟨⟨f1,Kp,a1,af⟩,kk _ _ D.TIz D.TITO D.TIi1 D.TIi2 wj,⟨_,_,a2⟩,a3,a4⟩,λc hc=>?_⟩
  have Ui:c≠s.heap.objs.size:=by
   simp only[mem_cons,not_mem_nil,or_false]at hc;obtain⟨o1,e1,_⟩:=h1;obtain⟨o2,e2,_⟩:=h2;rcases hc with rfl|rfl|rfl|rfl|rfl
   ·exact(lt hz).symm
   ·exact(lt wj).symm
   ·exact(lt wm).symm
   ·exact(lt e1).symm
   exact(lt e2).symm
  rw[aM Ui];exact(hf c hc).1
 done:=by intro X hP hw hK hc i io s σ H E I hf st hg;subst hP hw hK;obtain⟨⟨f0,fb,hz,Df⟩,wj,⟨a,b,wm⟩,h1,h2⟩:=st;obtain⟨xs,ys,x,hx,hy,ex,he⟩:=hg;obtain⟨aS,rv,p,Ue⟩:=I.tuple hx;obtain⟨ik,QZ,p2,Ug⟩:=I.tuple hy;obtain⟨u,hu,ru⟩:=rv.get ex;have Uj:=QZ.length;refine rE (I.ok.hd hc) D hz Df wj wm h1 h2 (show s.heap.IsTuple l1 aS.toArray from p) (show s.heap.IsTuple l2 ik.toArray from p2) (x:=u) (by simpa using hu) (by simp;lia) λh' kk=>⟨rfl,?_⟩;refine I.Gi (t':=s.toks) (ch:=[z,TI,TO,i1,i2]) (λc o hc e=>?_) hf;simp only[mem_cons,not_mem_nil,or_false,not_or]at hc;exact kk c o hc.1 hc.2.2.1 hc.2.2.2.1 hc.2.2.2.2 e
 self:=λ_ _ _ _ _ st h=>by obtain⟨⟨f0,fb,hz,_⟩,_⟩:=st;exact Et hz h
section
def NR(K:W.Frag)(ta:TA):TI:=λσ H R=>ta σ H λvs H1=>∃a b,vs=[.ref a,.ref b]/\(∃xs,ab K H1 a xs)/\(∃ys,ab K H1 b ys)/\R (Eu K a b) H1
theorem Ew(K:W.Frag){e1 e2:Expr}{ta:TA}{p GR:Pos}(hg:Gl X "zip")(hm:X.mg "zip"=none)(ha:PA X [e1,e2] ta)(hK:X.K=K:=by rfl)(hs:starEach [e1,e2] X.env=(false,eval e1 X.env)::starEach [e2] X.env:=by rfl)(zW:(backTo pos (starEach [e2] X.env)).any (·.1)=false:=by rfl):
  PI X (.Name nm GR) (.Call (.Name "zip" p) [e1,e2] [] pos) (NR K ta):=by
 subst hK;intro io s σ H R I h;refine wpAny_Call_Name_kw (pW I hg hm boot_zip ?_ (by decide) (by decide));refine PyProof.Rows.callWith_type1 (bI (ha pos io s σ H _ I h) λus s1 ⟨vs,H1,I1,r1,q1⟩=>?_) hs zW;obtain⟨a,b,rfl,⟨xs,hx⟩,⟨ys,hy⟩,q⟩:=q1;obtain⟨u,v,rfl,ru,rv⟩:=r1.two;cases ru;cases rv;obtain⟨aS,Wj,p1,_⟩:=I1.tuple hx;obtain⟨ik,Lr,p2,_⟩:=I1.tuple hy;have R8:s1.heap.IsTuple a aS.toArray:=p1;have R9:s1.heap.IsTuple b ik.toArray:=p2;refine C0 R8 R9 λh' hz wj wm h1 h2 kk=>?_;refine wpAny_pyIter_zip hz ?_;have la:a<s1.heap.objs.size:=by obtain⟨o,ho,_⟩:=R8;exact Heap.lt_size ho
 have lb:b<s1.heap.objs.size:=by obtain⟨o,ho,_⟩:=R9;exact Heap.lt_size ho
 have I2:Inv X io σ H1 { s1 with heap:=h' }:=I1.kept (t':=s1.toks) λb o e=>kk b o e
 refine⟨s1.heap.objs.size+4,[s1.heap.objs.size+4,s1.heap.objs.size+2,s1.heap.objs.size+3,s1.heap.objs.size,s1.heap.objs.size+1],_,_,H1,rfl,I2,C1 (zipApart_new la lb),⟨⟨_,_,hz,.inl rfl⟩,wj,⟨_,_,wm⟩,h1,h2⟩,λc hc=>?_,q⟩;have hle:s1.heap.objs.size<=c:=by
  simp only[mem_cons,not_mem_nil,or_false]at hc;rcases hc with rfl|rfl|rfl|rfl|rfl
  ·exact Nat.le_add_right _ _
  ·exact Nat.le_add_right _ _
  ·exact Nat.le_add_right _ _
  ·exact le_refl _
  exact Nat.le_add_right _ _
 exact I1.uJ (H':=H1) hle (I1.bE.fresh hle)
end
section
variable{K:W.Frag}{g:TG}
theorem Ex{b:Addr}{xs ys:List V}{tb:TS}{D:Ends}(o0:ys.length<xs.length)(Pv:Nat->St->Hp->Prop)(h0:Pv 0 σ H)(hl:∀i σ H,i<=ys.length->Pv i σ H->ab K H a xs/\ab K H b ys)(hs:∀(i:Nat)(x y:V)(p:Addr)(σ:St)(H:Hp),xs[i]?=some x->ys[i]?=some y->Pv i σ H->H p=none->g (.ref p) σ (upd H p (.tup [x,y])) λσ2 H2=>tb { D with nx:=Pv (i+1),ct:=Pv (i+1),bk:=D.nx } σ2 H2)(hd:∀σ H,Pv ys.length σ H->D.nx σ H):
  ∃W:Nat->Nat->St->Hp->Prop,(∃m,W 0 m σ H)/\∀i m σ H,W i m σ H ->
   ((Eu K a b).stop i H/\D.nx σ H)\/((Eu K a b).go i H/\∃N:St->Hp->Prop,(∀σ' H',N σ' H'->∃m',m'<m/\W (i+1) m' σ' H')/\∀x H',(Eu K a b).BK i H x H'->g x σ H' λσ2 H2=>tb { D with nx:=N,ct:=N,bk:=D.nx } σ2 H2):=by
 refine⟨λi m σ H=>m=ys.length-i/\i<=ys.length/\Pv i σ H,⟨ys.length,by simp,zero_le _,h0⟩,?_⟩;rintro i m σ' H' ⟨rfl,hi,p⟩;obtain⟨q1,q2⟩:=hl i σ' H' hi p;by_cases cN:i<ys.length
 ·have HW:i<xs.length:=by lia
  refine .inr ⟨⟨xs,ys,xs[i],ys[i],q1,q2,by simp[HW],by simp[cN]⟩,Pv (i+1),λσ2 H2 z=>⟨ys.length-(i+1),by lia,rfl,cN,z⟩,λx H2 y=>?_⟩;obtain⟨pp,x1,y1,hn,rfl,rfl,ex,ey⟩:=y;exact hs i x1 y1 pp σ' _ (ex xs q1) (ey ys q2) p hn
 have e:i=ys.length:=by lia
 subst e;exact .inl ⟨⟨xs,ys,xs[ys.length],q1,q2,by simp[o0],le_refl _⟩,hd σ' H' p⟩
end
abbrev RI:=Addr×Key×Value×Value
def stI(acc:List (Key×Value))(q:RI):List (Key×Value):=stored acc q.2.1 q.2.2.2
theorem Bo:∀(m:List RI)(acc:List (Key×Value)),(m.foldl stI acc).length<=acc.length+m.length
 |[],_=>le_refl _
 |q::m,acc=>by
  have h1:=Bo m (stI acc q);have h2:(stI acc q).length<=acc.length+1:=by
   unfold stI stored;split
   ·rw[length_map];lia
   simp
  rw[List.foldl_cons,length_cons];lia
section
variable{d:Addr}{L:List RI}{h0:Heap}
theorem C2(hu:A.units+3<cLine)(hh:A.handled=none)(hL:h0.IsList l (L.map λq=>Value.ref q.1).toArray)(hq:∀q∈L,h0.IsTuple q.1 #[q.2.2.1,q.2.2.2]/\(aY prog w).is q.2.1 q.2.2.1=true)(hd:h0.objs.size<=d)(hi:h0.objs.size<=it)(Qa:d≠it)(hz:L.length<=sizeLine):
  ∀(rest done:List RI)(s:Shared)(R:Result->Shared->Prop),L=done++rest->(∀b o,h0.get? b=some o->s.heap.get? b=some o)->s.heap.IsListIter it l done.length ->
   s.heap.DictOf (aY prog w) d (done.foldl stI []) ->
   (∀h' tk,(∀b o,h0.get? b=some o->h'.get? b=some o)->h'.DictOf (aY prog w) d (L.foldl stI [])->R (.ok (.ret .none)) { s with heap:=h',toks:=tk }) ->
   codeAny (model prog w) A (.builtin "dict.update.loop" ⟨[.ref d,.ref it,rawInt done.length,.none],[]⟩) R s:=by
 intro rest;have olds:∀{h h':Heap}{x:Addr},h0.objs.size<=x->(∀b o,h0.get? b=some o->h.get? b=some o)->Heap.ExtBut x h h'->∀b o,h0.get? b=some o->h'.get? b=some o :=
  λhx k e b o hb=>e b o (λz=>absurd (Heap.lt_size hb) (by rw[z];exact Nat.not_lt.mpr hx)) (k b o hb)
 obtain⟨ol,JP,zl⟩:=hL
 induction rest with
 |nil =>
  intro done s R e k hit dd hR;rw[List.append_nil]at e;subst e;refine codeAny_builtin vN ?_;rw[Around.under_plainId mQ _];refine(show wpAny _ A.in1 (pyNext (.ref it) >>= _) _ _ s from f8 (wpAny_pyNext_list_end hh hit ⟨ol,k _ _ JP,zl⟩ (by simp) λh' eb=>?_));exact(show wpAny _ A.in1 (Builtin.Dict.addKeywords d [] >>= _) _ _ _ from f8 (im (im (hR h' s.toks (olds hi k eb) (dd.extBut eb Qa)))))
 |cons q rest ih =>
  intro done s R e k hit dd hR;refine codeAny_builtin vN ?_;rw[Around.under_plainId mQ _];have hx:(L.map λq=>Value.ref q.1).toArray[done.length]?=some (.ref q.1):=by rw[e];simp
  refine(show wpAny _ A.in1 (pyNext (.ref it) >>= _) _ _ s from f8 (wpAny_pyNext_list_item hit ⟨ol,k _ _ JP,zl⟩ hx λh' G1 hs=>?_));have k':=olds hi k hs.extBut;obtain⟨⟨ot,SD,Uk,nt,Ul⟩,vz⟩:=hq q (by rw[e];simp);have Bd:=dd.extBut hs.extBut Qa;refine(show wpAny _ A.in1 (holding [Value.ref q.1] _ >>= _) _ _ _ from f8 (wpAny_holding (f8 (wpAny_tryCatch ?_))));unfold Builtin.Dict.pairItems;refine f8 (wpAny_typeOf (T:="tuple") ⟨ot,k' _ _ SD,Uk⟩ (wpAny_ite_split (λ_=>?_) (λz=>absurd (by decide) z)));refine f8 (wpAny_seqItems (k' _ _ SD) Ul (im ?_));have hle:=Bo done [];have Wm:done.length+(rest.length+1)=L.length:=by rw[e];simp
  have hle:(done.foldl stI []).length<=done.length:=by simpa using hle
  refine(show wpAny _ A.in1 (holding [q.2.2.1,q.2.2.2] (dictSet d q.2.2.1 q.2.2.2)) _ _ _ from wpAny_holding (wpAny_dictSet_pairs (hsz:=by lia) vz Bd λh2 De vx=>?_));refine im ⟨plainId_quiet mQ _,?_⟩;have Qb:h2.IsListIter it l (done.length+1):=by obtain⟨oi,Um,zi⟩:=G1;exact⟨oi,(vx.2 it (Ne.symm Qa)).trans Um,zi⟩
  have hr:rawInt ((done.length:Int)+1)=rawInt ((done++[q]).length:Int):=by simp
  rw[hr];refine ih (done++[q]) _ R (by rw[e];simp) (olds hd k' vx.extBut) (by simpa using Qb) (by simpa[stI]using De) λh3 tk k3 Uo=>?_;exact hR h3 tk k3 Uo
end
abbrev VI:=Addr×Key×V
def Dg(acc:List (Key×V))(q:VI):List (Key×V):=lv acc q.2.1 q.2.2
abbrev Oe:List VI->List RI->Prop:=Paired λp q=>p.1=q.1/\p.2.1=q.2.1/\RelV (kV p.2.1) q.2.2.1/\RelV p.2.2 q.2.2.2
theorem Oe.fold{L:List VI}{M:List RI}(r:Oe L M):∀{acc:List (Key×V)}{C3:List (Key×Value)},KV acc C3->KV (L.foldl Dg acc) (M.foldl stI C3):=by
 induction r with
 |nil=>intro acc C3 h;exact h
 |@cons p q ps qs h t ih =>
  intro acc C3 ha;rw[List.foldl_cons,List.foldl_cons];refine ih ?_;have:=ha.put p.2.1 h.2.2.2;unfold Dg stI;rw[<-h.2.1];exact this
theorem Bp:∀(m:List VI)(acc:List (Key×V)),(m.foldl Dg acc).length<=acc.length+m.length
 |[],_=>le_refl _
 |q::m,acc=>by have h1:=Bp m (Dg acc q);have h2:(Dg acc q).length<=acc.length+1:=iV _ _ _;rw[List.foldl_cons,length_cons];lia
section
theorem NS(I:Inv X io σ H s):∀(L:List VI),(∀q∈L,ab X.K H q.1 [kV q.2.1,q.2.2]) ->
  ∃M:List RI,Oe L M/\(∀q∈M,s.heap.IsTuple q.1 #[q.2.2.1,q.2.2.2]/\(aY X.prog X.w).is q.2.1 q.2.2.1=true)/\∀aS,ae (L.map λq=>V.ref q.1) aS->aS=M.map λq=>Value.ref q.1
 |[],_=>⟨[],.nil,λq hq=>absurd hq not_mem_nil,λaS h=>by cases h;rfl⟩
 |p::L,h=>by
  obtain⟨M,r,hM,hv⟩:=NS I L λq hq=>h q (mem_cons_of_mem _ hq);obtain⟨aS,rv,ht,_⟩:=I.tuple (h p mem_cons_self);cases rv with
  |@cons _ u _ _ r1 rv =>
   cases rv with
   |@cons _ u2 _ _ r2 rv =>
    cases rv;refine⟨(p.1,p.2.1,u,u2)::M,.cons ⟨rfl,rfl,r1,r2⟩ r,λq hq=>?_,λaS hi=>?_⟩
    ·rcases mem_cons.mp hq with e|hq
     ·subst e;exact⟨ht,kc r1⟩
     exact hM q hq
    cases hi with
    |cons q1 qv =>
     cases q1;rw[hv _ qv,List.map_cons]
end
def NT(K:W.Frag):List V->Hp->VK->Prop:=λvs H Q=>∃(l:Addr)(L:List VI),vs=[V.ref l]/\H l=some (.lst (L.map λq=>V.ref q.1))/\(∀q∈L,ab K H q.1 [kV q.2.1,q.2.2])/\∀p,H p=none->Q (.ref p) (upd H p (.dK (L.foldl Dg [])))
theorem Aa(K:W.Frag)(hu:X.A.units+16<cLine)(hK:X.K=K:=by rfl)(hc:X.calm=true:=by rfl):cH X (.type "dict") (NT K):=by
 subst hK;intro io s σ H vs us Q I r h;obtain⟨l,L,rfl,hl,hq,q⟩:=h;obtain⟨u,rfl,ru⟩:=vals1 r;cases ru;obtain⟨M,rM,hM,hv⟩:=NS I L hq;obtain⟨aS,n,rv,ho,hz⟩:=I.lst hl;obtain rfl:=hv _ rv;rw[length_map]at hz;have o0:L.length=M.length:=Paired.length rM;refine callType_codes (Q₁:=λobj s₁=>obj=.ref s.heap.objs.size/\s₁={ s with heap:=s.heap.push { cls:=.type "dict",data:=.dict #[] } }) F.kt_called_dict (F.kt_typeCall_dict_1 _) F.entry_dict_init (kt_code_dict_new _ ⟨rfl,rfl⟩) ?_;rintro obj s₁ ⟨rfl,rfl⟩;have rB:(s.heap.push { cls:=.type "dict",data:=.dict #[] }).get? s.heap.objs.size=some { cls:=.type "dict",data:=.dict #[] }:=Heap.get?_push_size _ rfl;have hT:(⟨s.heap.push { cls:=.type "dict",data:=.dict #[] },s.gens,s.drawn,s.toks,s.os⟩:Shared).TypeIs (.ref s.heap.objs.size) "dict":=⟨_,rB,rfl⟩;refine⟨hT,F.args_dict_init_2 _ _,?_⟩;unfold Builtin.«dict.__init__»;refine f8 ?_;unfold Builtin.Dict.selfAndRest;refine f8 (wpAny_notOrdered_dict hT (show wpAny _ _ (pure (s.heap.objs.size,[Value.ref l])) _ _ _ from im (show wpAny _ _ (Builtin.Dict.updateFrom "dict.__init__" s.heap.objs.size (.ref l) [] .none) _ _ _ from ?_)));unfold Builtin.Dict.updateFrom;have Lp:(s.heap.push { cls:=.type "dict",data:=.dict #[] }).get? l=some { cls:=.type "list",data:=.seq (M.map λq=>Value.ref q.1).toArray n }:=Heap.get?_push_of_some _ ho
 refine f8 (wpAny_typeOf (T:="list") ⟨_,Lp,rfl⟩ (wpAny_ite_split (λ_=>?_) (λz=>absurd (by decide) z)));refine f8 (Co (xs:=(M.map λq=>Value.ref q.1).toArray) (k:=n) Lp (I.ok.hd hc) λh2 Wn k2=>wpAny_ite_split (λ_=>f8 (wpAny_rule ?_)) (λz=>absurd rfl z));have NG:h2.IsList l (M.map λq=>Value.ref q.1).toArray:=⟨_,k2 _ _ Lp,rfl,n,rfl⟩;refine f8 (wpAny_pyIter_list NG ?_);have k0:∀b o,s.heap.get? b=some o->(h2.push { cls:=.type "list_iterator",data:=.fields #[.ref l,.int 0 0] }).get? b=some o:=λb o e=>Heap.get?_push_of_some _ (k2 b o (Heap.get?_push_of_some _ e));have HW:s.heap.objs.size<h2.objs.size:=Heap.lt_size (k2 _ _ rB);refine im ⟨plainId_quiet mQ _,?_⟩;refine(show codeAny _ _ (.builtin "dict.update.loop" ⟨[.ref s.heap.objs.size,.ref h2.objs.size,rawInt (([]:List RI).length:Nat),.none],[]⟩) _ _ from ?_);have QL:X.A.in1.units+3<cLine:=by show X.A.units+1+3<cLine;lia
 refine C2 (h0:=s.heap) (L:=M) (l:=l) (A:=X.A.in1) QL (I.ok.hd hc) ⟨_,ho,rfl,n,rfl⟩ hM (le_refl _) (Nat.le_of_lt HW) (ne_of_lt HW) (by lia) M [] _ _ rfl k0 ?_ ?_ ?_
 ·exact(show(h2.push { cls:=.type "list_iterator",data:=.fields #[.ref l,.int 0 0] }).IsListIter h2.objs.size l 0 from⟨_,Heap.get?_push_size _ rfl,rfl,rfl⟩)
 ·refine(show(h2.push { cls:=.type "list_iterator",data:=.fields #[.ref l,.int 0 0] }).DictOf (aY X.prog X.w) s.heap.objs.size []from ?_);exact⟨_,#[],0,Heap.get?_push_of_some _ (k2 _ _ rB),⟨rfl,rfl,rfl⟩,rfl,(λx hx=>by simp at hx),.nil,List.nodup_nil⟩
 intro h3 Up k3 dd;have hle:=Bp L [];refine⟨rfl,.ref s.heap.objs.size,_,I.laid (a:=s.heap.objs.size) (o:=.dK (L.foldl Dg [])) (t':=Up) k3 (le_refl _) ?_,rfl,q _ (I.bE.fresh (le_refl _))⟩;have hle:(L.foldl Dg []).length<=L.length:=by simpa using hle
 exact wN (by lia) (beq_eq_false_iff_ne.mpr (Ne.symm (ne_of_lt I.OZ))) (Oe.fold rM .nil) dd
structure uF(b:Bool)(t:SetTable):Prop where
 led:t.led=b
 Qc:t.dummies=#[]
 yr:t.place.toList.Pairwise (·<·)
theorem sm(xs:Array Nat)(j:Nat)(yr:xs.toList.Pairwise (·<·)):∀(fuel lo hi:Nat),lo<=hi->hi<=xs.size->hi-lo<=fuel->(∀(i x:Nat),i<lo->xs[i]?=some x->x<j)->(∀(i x:Nat),hi<=i->xs[i]?=some x->j<=x) ->
  (∀(i x:Nat),i<SetTable.below.go xs j fuel lo hi->xs[i]?=some x->x<j)/\(∀(i x:Nat),SetTable.below.go xs j fuel lo hi<=i->xs[i]?=some x->j<=x)/\SetTable.below.go xs j fuel lo hi<=xs.size
 |0,lo,hi,h1,h2,h3,a,b=>by
  unfold SetTable.below.go;obtain rfl:lo=hi:=by lia
  exact⟨a,b,h2⟩
 |fuel+1,lo,hi,h1,h2,h3,a,b=>by
  unfold SetTable.below.go;by_cases c:lo<hi
  ·rw[if_pos c];have ml:(lo+hi)/2<xs.size:=(by lia);have em:xs[(lo+hi)/2]?=some xs[(lo+hi)/2]:=(by simp[ml]);have eg:xs.getD ((lo+hi)/2) j=xs[(lo+hi)/2]:=(by simp[Array.getD,ml]);have le:∀{i k x y:Nat},i<=k->xs[i]?=some x->xs[k]?=some y->x<=y:=λ{i k x y} Uq hx hy=>by
    obtain⟨i1,e1⟩:=Array.getElem?_eq_some_iff.mp hx;obtain⟨k1,e2⟩:=Array.getElem?_eq_some_iff.mp hy;rcases Nat.lt_or_eq_of_le Uq with c|c
    ·have:=List.pairwise_iff_getElem.mp yr i k (by simpa using i1) (by simpa using k1) c;simp[e1,e2]at this;lia
    subst c;rw[hx]at hy;cases hy;exact le_refl _
   dsimp only;rw[eg];by_cases c2:xs[(lo+hi)/2]<j
   ·simp only[if_pos c2];exact sm xs j yr fuel _ hi (by lia) h2 (by lia) (λi x wZ hx=>by have:=le (show i<=(lo+hi)/2 by lia) hx em;lia) b
   simp only[if_neg c2];exact sm xs j yr fuel lo _ (by lia) (by lia) (by lia) a (λi x wZ hx=>by have:=le wZ em hx;lia)
  rw[if_neg c];obtain rfl:lo=hi:=by lia
  exact⟨a,b,h2⟩
theorem yt{xs:Array Nat}(j:Nat)(yr:xs.toList.Pairwise (·<·)):(∀(i x:Nat),i<SetTable.below xs j->xs[i]?=some x->x<j)/\(∀(i x:Nat),SetTable.below xs j<=i->xs[i]?=some x->j<=x)/\SetTable.below xs j<=xs.size:=by unfold SetTable.below;refine sm xs j yr xs.size 0 xs.size (zero_le _) (le_refl _) (by lia) (λi x h=>by lia) λi x h e=>?_;have:=(Array.getElem?_eq_some_iff.mp e).1;lia
theorem Ab{xs:Array Nat}{j:Nat}(yr:xs.toList.Pairwise (·<·))(ne:xs[SetTable.below xs j]?≠some j):(SetTable.insertAt xs (SetTable.below xs j) j).toList.Pairwise (·<·):=by
 obtain⟨h1,h2,h3⟩:=yt j yr;rw[SetTable.toList_insertAt];generalize SetTable.below xs j=p at h1 h2 h3 ne;have up:∀x∈xs.toList.drop p,j<x:=λx hx=>by
  obtain⟨k,hk,rfl⟩:=List.getElem_of_mem hx;rw[List.length_drop]at hk;have kl:p+k<xs.size:=by simp at hk;lia
  have e:xs[p+k]?=some xs[p+k]:=by simp[kl]
  have:=h2 (p+k) _ (by lia) e;rw[List.getElem_drop];simp only[Array.getElem_toList];rcases Nat.lt_or_eq_of_le this with c|c
  ·exact c
  exfalso;rcases Nat.eq_zero_or_pos k with z|z
  ·subst z;exact ne (by rw[show p=p+0 by rfl,e,<-c])
  have pl:p<xs.size:=by lia
  have ep:xs[p]?=some xs[p]:=by simp[pl]
  have a:=h2 p _ (le_refl _) ep;have b:=List.pairwise_iff_getElem.mp yr p (p+k) (by simpa using pl) (by simpa using kl) (by lia);simp at b;lia
 refine List.pairwise_append.mpr ⟨yr.sublist (List.take_sublist _ _),List.pairwise_cons.mpr ⟨up,yr.sublist (List.drop_sublist _ _)⟩,λa ha b hb=>?_⟩;have aj:a<j:=by
  obtain⟨k,hk,rfl⟩:=List.getElem_of_mem ha;rw[length_take]at hk;have kl:k<xs.size:=by simp at hk;lia
  rw[List.getElem_take];exact h1 k _ (by lia) (by simp[kl])
 rcases mem_cons.mp hb with rfl|hb
 ·exact aj
 have:=up b hb;lia
theorem uF.standIn{b:Bool}{t:SetTable}(h:uF b t)(n:Nat):uF b (t.standIn n):=⟨h.led,rfl,by show(Array.range n).toList.Pairwise (·<·);rw[Array.toList_range];exact List.pairwise_lt_range⟩
theorem uF.Ey(h:uF b t):uF b { t with plain:=false }:=⟨h.led,h.Qc,h.yr⟩
theorem Bq(j:Nat):SetTable.has #[] j=false:=by simp[SetTable.has]
theorem Ac(h:uF b t)(j:Nat):(t.slot j=.empty/\t.place[SetTable.below t.place j]?≠some j)\/∃i,t.slot j=.live i:=by
 unfold SetTable.slot;by_cases c:t.place[SetTable.below t.place j]?==some j
 ·exact .inr ⟨SetTable.below t.place j,by simp only[c,if_true]⟩
 refine .inl ⟨?_,by simpa using c⟩;simp only[c,h.Qc,Bq];simp
theorem yu{b:Bool}{t:SetTable}(h:uF b t)(f:Nat->Int)(hh:Int):∀(fuel:Nat)(p:SetTable.Probe)(j:Nat)(dm:Option Nat),p.dummy=none->SetTable.probe.go t f hh fuel p=some (.empty j dm)->dm=none/\t.place[SetTable.below t.place j]?≠some j
 |0,p,j,dm,_,e=>by unfold SetTable.probe.go at e;cases e
 |fuel+1,p,j,dm,hp,e=>by
  unfold SetTable.probe.go at e;have Ur:(t.advance p).dummy=none:=by
   unfold SetTable.advance;split
   ·exact hp
   exact hp
  rcases Ac h p.j with⟨z,ne⟩|⟨i,z⟩
  ·rw[z]at e;simp only[Option.some.injEq,SetTable.Met.empty.injEq]at e;obtain⟨rfl,rfl⟩:=e;exact⟨hp,ne⟩
  rw[z]at e;simp only at e;split at e
  ·cases e
  exact yu h f hh fuel _ j dm Ur e
theorem uF.layNew{b:Bool}{t:SetTable}(h:uF b t)(es:Array (Int×Value))(hh:Int)(x:Value):uF b (layNew t es hh x).2.1:=by
 unfold PySem.layNew;split
 ·rename_i slot wd e;have put:uF b (t.put slot).1:=by
   unfold SetTable.freeSlot at e;split at e
   ·rename_i j dm e2;unfold SetTable.probe at e2;obtain⟨z1,z2⟩:=yu h _ _ _ _ j dm rfl e2;subst z1;obtain⟨rfl,_⟩:=Prod.mk.inj (Option.some.inj e);unfold SetTable.put;exact⟨h.led,by show(if SetTable.has t.dummies _ then _ else t.dummies)=#[];rw[h.Qc,Bq];rfl,Ab h.yr z2⟩
   cases e
  dsimp only;unfold SetTable.orStandIn;split
  ·exact put
  exact put.standIn _
 exact h.standIn _
theorem uF.relayAll{b:Bool}{t:SetTable}(h:uF b t)(es:Array (Int×Value))(n:Nat):uF b (relayAll t es n).2.1:=by
 unfold PySem.relayAll;split
 ·rename_i t' order e;dsimp only;split
  ·unfold SetTable.relaid SetTable.laid at e;obtain⟨ow,_,e⟩:=Option.bind_eq_some_iff.mp e;obtain⟨rfl,_⟩:=Prod.mk.inj (Option.some.inj e);refine⟨h.led,rfl,?_⟩;show(((List.range _).filterMap λj=>(ow.getD j none).map (j,·)).map (·.1)).Pairwise (·<·);rw[List.pairwise_map,List.pairwise_filterMap];refine List.pairwise_lt_range.imp λ{a c} NU x hx y hy=>?_;obtain⟨u,_,rfl⟩:=Option.map_eq_some_iff.mp hx;obtain⟨v,_,rfl⟩:=Option.map_eq_some_iff.mp hy;exact NU
  exact h.standIn _
 exact h.standIn _
def kf(w:World):Bool:=w.params.followText "set-order"
section
variable{K:Type}[DecidableEq K](knd:KeyKind prog w K)
def o3(h:Heap)(a:Addr)(S:K->Bool)(n:Nat):Prop :=
 ∃o es ep t,h.get? a=some o/\o.ExactSet/\o.data=.set es ep t/\ElemsOf knd es.toList/\(∀k,S k=true↔∃e∈es.toList,knd.is k e.2=true)/\es.size<scanBound/\t.fits es.size=true/\es.size=n/\uF (!kf w) t
variable{knd}
theorem sr(ho:h.get? a=some o)(hex:o.ExactSet)(hd:o.data=.set es ep t){S':K->Bool}(e1:ElemsOf knd ez.toList)(e2:∀k,S' k=true↔∃e∈ez.toList,knd.is k e.2=true)(e3:ez.size<scanBound)(e4:tz.fits ez.size=true)(e5:uF (!kf w) tz):
  (h.update a (Obj.putSet ez tz)).get? a=some { o with data:=.set ez (ep+1) tz }/\o3 knd (h.update a (Obj.putSet ez tz)) a S' ez.size:=by
 have g:=(SetOf_store (knd:=knd) ho hex hd e1 e2 e3 e4).1;exact⟨g,_,ez,ep+1,tz,g,hex,rfl,e1,e2,e3,e4,rfl,e5⟩
theorem Br{g:Bool->Sem Unit}(hg:∀(b:Bool)(z:Shared)(Q':Unit->Shared->Prop),Q' () z->wpAny (model prog w) A (g b) Q' E z)(ho:s.heap.get? a=some o)(hex:o.ExactSet)(hd:o.data=.set es ep t){S':K->Bool}(e1:ElemsOf knd ez.toList)(e2:∀k,S' k=true↔∃e∈ez.toList,knd.is k e.2=true)(e3:ez.size<scanBound)(e4:tz.fits ez.size=true)(e5:uF (!kf w) tz){wd:Bool}(h:∀h',Heap.SameBut a s.heap h'->o3 knd h' a S' ez.size->R (some true) { s with heap:=h' }):
  wpAny (model prog w) A (do
    storeSet a ez tz
    if(!wd&&tz.tooFull)=true then do
      g (relayAll tz ez (SetTable.grown ez.size)).2.2
      storeSet a (relayAll tz ez (SetTable.grown ez.size)).1 (relayAll tz ez (SetTable.grown ez.size)).2.1
      pure (some true)
     else pure (some true)) R E s:=by
 refine f8 (wpAny_storeSet_of ho hd ?_ (fits_of_scanBound e3));obtain⟨o1,S1⟩:=sr (knd:=knd) ho hex hd e1 e2 e3 e4 e5;have sb:=Heap.SameBut.update s.heap a (Obj.putSet ez tz);split
 ·have hp:=relayAll_perm tz ez (SetTable.grown ez.size);have hf:=relayAll_fits tz ez (SetTable.grown ez.size);have ht:=e5.relayAll ez (SetTable.grown ez.size);generalize relayAll tz ez (SetTable.grown ez.size)=Rl at hp hf ht ⊢;obtain⟨ey,ty,gv⟩:=Rl;dsimp only at hp hf ht ⊢;have f2:∀k,S' k=true↔∃e∈ey.toList,knd.is k e.2=true:=λk=>(e2 k).trans ⟨λ⟨e,he,q⟩=>⟨e,hp.mem_iff.mpr he,q⟩,λ⟨e,he,q⟩=>⟨e,hp.mem_iff.mp he,q⟩⟩;have hz:ey.size=ez.size:=by rw[<-Array.length_toList,hp.length_eq,Array.length_toList]
  have f3:ey.size<scanBound:=by rw[hz];exact e3
  refine f8 (hg _ _ _ (f8 (wpAny_storeSet_of o1 rfl ?_ (fits_of_scanBound f3))));obtain⟨_,S2⟩:=sr (knd:=knd) o1 hex rfl (e1.perm hp) f2 f3 hf ht;rw[hz]at S2;exact im (h _ (sb.trans (Heap.SameBut.update _ a _)) S2)
 exact im (h _ sb S1)
theorem Ez{S:K->Bool}{k:K}{Q:Bool->Shared->Prop}(vz:knd.is k x=true)(yQ:x.scannable=true)(hS:o3 knd s.heap a S n)(E1:n+1<scanBound)(h:∀h',Heap.SameBut a s.heap h'->o3 knd h' a (λk'=>S k'||decide (k'=k)) (if S k then n else n+1)->Q (!S k) { s with heap:=h' }):
  wpAny (model prog w) A (setAddHashed a x (knd.hash k)) Q E s:=by
 obtain⟨o,es,ep,t,ho,hex,hd,Ae,rF,hb,hf,hn,tok⟩:=hS;have room:es.size+1<scanBound:=by rw[hn];exact E1
 unfold setAddHashed setAddHashedIn;refine wpAny_holding (f8 (wpAny_setState_of ho hd hf ?_));dsimp only;rw[byScan_of yQ hb Ae];simp only[↓reduceIte];unfold setAddByScan;refine f8 (f8 (wpAny_rule (f8 (wpAny_setScan_of vz ho hd hf Ae ?_))));cases hr:List.findIdx? (λe=>knd.is k e.2) es.toList with
 |some j =>
  dsimp only;obtain⟨jl,pj,_⟩:=List.findIdx?_eq_some_iff_getElem.mp hr;have sk:S k=true:=(rF k).mpr ⟨es.toList[j],List.getElem_mem jl,pj⟩;refine im (im ?_);have e:s={ s with heap:=s.heap }:=by cases s;rfl
  have z:=h s.heap (Heap.SameBut.refl a s.heap) ⟨o,es,ep,t,ho,hex,hd,Ae,λk'=>by rw[Bool.or_eq_true,decide_eq_true_eq,<-rF k'];exact⟨λu=>u.elim id (λe=>e▸sk),.inl⟩,hb,hf,by rw[sk];exact hn,tok⟩
  rw[sk]at z;rw[e];exact z
 |none =>
  dsimp only;have sk:S k=false:=by
   cases u:S k with
   |false=>rfl
   |true =>
    obtain⟨e,he,hp⟩:=(rF k).mp u;have:=List.findIdx?_eq_none_iff.mp hr e he;rw[hp]at this;cases this
  have gw:∀(b:Bool){z:Shared}{Q':Unit->Shared->Prop},Q' () z->wpAny (model prog w) A (match b with|true=>rule "set.scan.the-table-gave-way"|false=>pure ()) Q' E z:=λb z Q' q=>by cases b<;>first|exact im q|exact wpAny_rule q
  have hp:=layNew_perm t es (knd.hash k) x;have NV:=layNew_fits t es (knd.hash k) x;have NW:=tok.layNew es (knd.hash k) x;generalize layNew t es (knd.hash k) x=Lz at hp NV NW ⊢;obtain⟨ez,tz,wd,gv⟩:=Lz;dsimp only at hp NV NW ⊢;rw[Array.toList_push]at hp;have f1:ElemsOf knd ez.toList:=(Ae.push vz yQ).perm hp;have f2:∀k',(S k'||decide (k'=k))=true↔∃e∈ez.toList,knd.is k' e.2=true:=mem_push_iff vz rF hp;have zs:ez.size=es.size+1:=by rw[<-Array.length_toList,hp.length_eq,length_append,Array.length_toList];rfl
  have f3:ez.size<scanBound:=by rw[zs];exact room
  refine f8 (gw _ ?_);have fin:∀h',Heap.SameBut a s.heap h'->o3 knd h' a (λk'=>S k'||decide (k'=k)) ez.size->Q true { s with heap:=h' }:=by intro h' sb S1;have z:=h h' sb;rw[sk]at z;rw[zs,hn]at S1;exact z S1
  split
  ·refine f8 ?_;rw[hashByValue_scannable 8 yQ];refine im (Br ?_ ho hex hd f1 f2 f3 ?_ ?_ ?_)
   ·intro b z Q' q;cases b<;>first|exact im q|exact wpAny_rule q
   ·split
    ·exact NV
    exact SetTable.fits_plain_off NV
   ·split
    ·exact NW
    exact NW.Ey
   intro h' sb S1;dsimp only;exact im (fin h' sb S1)
  refine f8 (im ?_);simp only[↓reduceIte];refine Br ?_ ho hex hd f1 f2 f3 NV NW ?_
  ·intro b z Q' q;cases b<;>first|exact im q|exact wpAny_rule q
  intro h' sb S1;dsimp only;exact im (fin h' sb S1)
end
section
theorem C4(a:Value)(h:Q₁ (.ref s.heap.objs.size) { s with heap:=s.heap.push { cls:=.type "set",dict:=none,data:=.set #[] 0 (.fresh 0 0 (!kf w)) } }):
  codeAny (model prog w) A (.call (.builtin "set.__new__") ⟨[.type "set",a],[]⟩) (wants Q₁ E) s:=by
 refine codeAny_of_tree (show wpAny _ A.in1 (do checkBuiltinCall "set.__new__" ⟨[.type "set",a],[]⟩;again (.builtin "set.__new__" ⟨[.type "set",a],[]⟩)) _ _ s from ?_)
 refine f8 (wpAny_of_eq (PySem.F.newCall_set_1 a) (im ⟨plainId_quiet PySem.F.plain_set_new _,codeAny_builtin PySem.F.entry_set_new ?_⟩));rw[Around.under_plainId PySem.F.plain_set_new _];unfold Builtin.«set.__new__» Builtin.Frozenset.newClass;have Us:=sub_set_self;obtain⟨hp,g,d,tk,os⟩:=s;dsimp only
 wp_walk
 refine wpAny_askSetting (im ?_);dsimp only;simp only[newObj];exact f8 (wpAny_alloc (im (im h)))
end
theorem C5{k:Key}(q:o3 (aY prog w) h a (λk'=>jU ks k'||decide (k'=k)) (if jU ks k then(dd ks).length else(dd ks).length+1)):o3 (aY prog w) h a (jU (k::ks)) (dd (k::ks)).length:=by
 have e1:(λk'=>jU ks k'||decide (k'=k))=jU (k::ks):=funext λk'=>Cp.symm;have e2:(if jU ks k then(dd ks).length else(dd ks).length+1)=(dd (k::ks)).length:=by show _=(if jU ks k=true then dd ks else k::dd ks).length;split<;>rfl
 rw[e1,e2]at q;exact q
section
variable{R:Result->Shared->Prop}{fp wr:List Addr}{St:Nat->Shared->Prop}
theorem C6(us:List Value)(ks:List Key)(hu:ae (ks.map kV) us)(W:WalksS prog w A.in1 I fp wr G us.length (λi v=>us[i]?=some v) St)(S:Addr)(nS:S∉fp)(hb:us.length+1<scanBound):
  ∀(m i:Nat)(s:Shared),us.length-i=m->i<=us.length->St i s->o3 (aY prog w) s.heap S (jU (ks.take i).reverse) (dd (ks.take i).reverse).length ->
   (∀s',Moved (S::wr) G s s'->o3 (aY prog w) s'.heap S (jU ks.reverse) (dd ks.reverse).length->R (.ok (.ret .none)) s') ->
   codeAny (model prog w) A (.builtin "set.update.loop" ⟨[.ref S,.ref I],[]⟩) R s:=by
 have o0:ks.length=us.length:=by rw[<-hu.length,length_map]
 have nw:S∉wr:=λz=>nS (W.sub _ z);have sb:∀b∈wr,b∈S::wr:=λb z=>mem_cons_of_mem _ z;have stays:∀{s s':Shared}{f:Key->Bool}{n:Nat},Moved wr G s s'->o3 (aY prog w) s.heap S f n->o3 (aY prog w) s'.heap S f n :=
  λhm ⟨o,es,ep,t,ho,r⟩=>⟨o,es,ep,t,hm.heap S _ nw ho,r⟩
 intro m
 induction m with
 |zero =>
  intro i s hm hi st hS hR;obtain rfl:i=us.length:=by lia
  refine codeAny_builtin F.entry_set_update_loop ?_;rw[Around.under_plainId F.plain_set_update_loop _];refine f8 (m:=pyNext (.ref I)) (W.done s _ _ st λs' mv=>?_);refine im (hR s' (mv.mono sb) ?_);have e:ks.take us.length=ks:=List.take_of_length_le (by lia);rw[e]at hS;exact stays mv hS
 |succ m ih =>
  intro i s hm hi st hS hR;have cN:i<us.length:=by lia
  refine codeAny_builtin F.entry_set_update_loop ?_;rw[Around.under_plainId F.plain_set_update_loop _];refine f8 (m:=pyNext (.ref I)) (W.item i s _ _ cN st λv s' hv uC mv=>?_);obtain⟨k,hk,rk⟩:∃k,ks[i]?=some k/\RelV (kV k) v:=by have wZ:i<ks.length:=(by lia);obtain⟨u,e1,e2⟩:=hu.get (i:=i) (x:=kV ks[i]) (by rw[getElem?_map,getElem?_eq_getElem wZ];rfl);have mr:us[i]?=some v:=hv;rw[e1]at mr;cases mr;exact⟨_,getElem?_eq_getElem wZ,e2⟩
  obtain⟨k1,k2⟩:=Ec (prog:=prog) (w:=w) rk;refine f8 (m:=holding [v] (setAdd S v)) (wpAny_holding ?_);unfold setAdd;refine wpAny_holding (f8 ((aY prog w).pyHash k1 ?_));have NX:=stays mv hS;have E1:(dd (ks.take i).reverse).length+1<scanBound:=by have:=sW (ks.take i).reverse;rw[List.length_reverse,length_take]at this;lia
  refine Ez (knd:=aY prog w) (s:={ s' with toks:=s'.toks+1 }) k1 k2 NX E1 λh' eq Ut=>?_
  have e:(ks.take (i+1)).reverse=k::(ks.take i).reverse:=by rw[List.take_succ,hk,List.reverse_append];rfl
  have SE:=C5 Ut;rw[<-e]at SE;refine im ⟨plainId_quiet F.plain_set_update_loop _,ih (i+1) _ (by lia) cN (W.frame _ s' _ _ uC (le_succ _) λb z o eo=>?_) SE λs2 Uu Uv=>hR s2 (Moved.trans W.gtrans ((mv.mono sb).then_heap (le_succ _) λb o z eo=>?_) Uu) Uv⟩
  ·rw[eq.2 b (λy:b=S=>nS (by rw[<-y];exact z))];exact eo
  rw[eq.2 b (λy:b=S=>z (by rw[y];exact mem_cons_self))];exact eo
end
section
set_option maxHeartbeats 2000000 in
theorem yv{u:Value}(hn:wpAny (model prog w) A.in1.in1 (Builtin.«set.__init__» ⟨[.ref s.heap.objs.size,u],[]⟩)
    (λfin s'=>match fin with|.done f=>wants (λr s2=>r=.none/\Q (.ref s.heap.objs.size) s2) E (.ok f) s'|.again c'=>c'.quiet=true/\codeAny (model prog w) A.in1 c' (wants (λr s2=>r=.none/\Q (.ref s.heap.objs.size) s2) E) s')
    (λe s'=>wants (λr s2=>r=.none/\Q (.ref s.heap.objs.size) s2) E (.error e) s') { s with heap:=s.heap.push { cls:=.type "set",dict:=none,data:=.set #[] 0 (.fresh 0 0 (!kf w)) } }):
  wpAny (model prog w) A (call (.type "set") [u]) Q E s:=by
 have ft:=F.called_set;obtain⟨c0,Wo,Uw⟩:=ft.mro;have g1:=ft.made;have g2:=ft.sub;have g3:=ft.notType;have g4:=ft.canCreate;have g5:=F.typeCall_set_1 u;refine wpAny_call (codeAny_of_tree (im (a:=_) ⟨Code.quiet_builtin _ (by decide +kernel),codeAny_builtin F.entry_type_call ?_⟩));rw[Around.under_plain (weight_type_call_type "set" [u] []) rfl]
 repeat (any_goals (first|assumption|(wp_step)))
 refine codeAny_mono (C4 u (E:=E) (Q₁:=λobj z=>obj=.ref s.heap.objs.size/\z={ s with heap:=s.heap.push { cls:=.type "set",dict:=none,data:=.set #[] 0 (.fresh 0 0 (!kf w)) } }) ⟨rfl,rfl⟩) λr s₁ hr=>?_
 cases r with
 |error e=>exact hr
 |ok fl =>
  cases fl with
  |ret obj =>
   obtain⟨rfl,rfl⟩:=hr;have hT:Shared.TypeIs { s with heap:=s.heap.push { cls:=.type "set",dict:=none,data:=.set #[] 0 (.fresh 0 0 (!kf w)) } } (.ref s.heap.objs.size) "set":=⟨_,Heap.get?_push_size _ rfl,rfl⟩;have g6:=ft.init.lookup;have g7:=ft.init.bind (.ref s.heap.objs.size)
   repeat (any_goals (first|assumption|(wp_step)))
   refine codeAny_mono (codeAny_call_builtin ft.init.plain F.entry_set_init (check_set_init_1 hT hn)) λr2 s2 uR=>?_;cases r2 with
   |error e=>exact uR
   |ok f2 =>
    cases f2 with
    |ret r =>
     obtain⟨rfl,hq⟩:=uR
     repeat (any_goals (first|assumption|(wp_step)))
    |_=>exact uR.elim
  |_=>exact hr.elim
end
section
set_option maxHeartbeats 4000000 in
theorem qm{T:String}(hh:A.handled=none)(hT:(T="list"/\s.heap.IsList l us.toArray)\/(T="tuple"/\s.heap.IsTuple l us.toArray))(hu:ae (ks.map kV) us)(hb:us.length+1<scanBound)(h:∀(h':Heap)(tk:Nat),o3 (aY prog w) h' s.heap.objs.size (jU ks.reverse) (dd ks.reverse).length->(∀b o,s.heap.get? b=some o->h'.get? b=some o)->Q (.ref s.heap.objs.size) { s with heap:=h',toks:=tk }):
  wpAny (model prog w) A (call (.type "set") [.ref l]) Q E s:=by
 refine yv ?_;have hS:(s.heap.push { cls:=.type "set",dict:=none,data:=.set #[] 0 (.fresh 0 0 (!kf w)) }).get? s.heap.objs.size=some { cls:=.type "set",dict:=none,data:=.set #[] 0 (.fresh 0 0 (!kf w)) }:=Heap.get?_push_size _ rfl;have z4:A.in1.in1.in1.handled=none:=by simp[hh]
 have cN:l<s.heap.objs.size:=by rcases hT with⟨_,o,ho,_⟩|⟨_,o,ho,_⟩<;>exact Heap.lt_size ho
 have nl:l≠(s.heap.push { cls:=.type "set",dict:=none,data:=.set #[] 0 (.fresh 0 0 (!kf w)) }).objs.size:=by rw[Heap.size_push];exact ne_of_lt (Nat.lt_succ_of_lt cN)
 have nS:s.heap.objs.size∉[(s.heap.push { cls:=.type "set",dict:=none,data:=.set #[] 0 (.fresh 0 0 (!kf w)) }).objs.size,l]:=by
  rw[Heap.size_push];intro z;rcases mem_cons.mp z with z|z
  ·exact absurd z (ne_of_lt (lt_succ_self _))
  exact absurd (mem_singleton.mp z) (Nat.ne_of_gt cN)
 have fin:∀(I:Obj)(G:Array GenState->Array GenState->Prop)(hG:∀a b,G a b->b=a)(St:Nat->Shared->Prop),
   WalksS prog w A.in1.in1.in1 (s.heap.push { cls:=.type "set",dict:=none,data:=.set #[] 0 (.fresh 0 0 (!kf w)) }).objs.size [(s.heap.push { cls:=.type "set",dict:=none,data:=.set #[] 0 (.fresh 0 0 (!kf w)) }).objs.size,l] [(s.heap.push { cls:=.type "set",dict:=none,data:=.set #[] 0 (.fresh 0 0 (!kf w)) }).objs.size] G us.length (λi v=>us[i]?=some v) St ->
   St 0 { s with heap:=(s.heap.push { cls:=.type "set",dict:=none,data:=.set #[] 0 (.fresh 0 0 (!kf w)) }).push I } ->
   codeAny (model prog w) A.in1.in1 (.builtin "set.update.loop" ⟨[.ref s.heap.objs.size,.ref (s.heap.push { cls:=.type "set",dict:=none,data:=.set #[] 0 (.fresh 0 0 (!kf w)) }).objs.size],[]⟩)
    (λr s'=>∃v,r=.ok (.ret v)/\Q (.ref s.heap.objs.size) s') { s with heap:=(s.heap.push { cls:=.type "set",dict:=none,data:=.set #[] 0 (.fresh 0 0 (!kf w)) }).push I }:=by
  intro I G hG St W Ux;refine C6 us ks hu W s.heap.objs.size nS hb us.length 0 _ rfl (zero_le _) Ux ?_ λs' hm Uy=>⟨_,rfl,?_⟩
  ·have Qd:((s.heap.push { cls:=.type "set",dict:=none,data:=.set #[] 0 (.fresh 0 0 (!kf w)) }).push I).get? s.heap.objs.size=some { cls:=.type "set",dict:=none,data:=.set #[] 0 (.fresh 0 0 (!kf w)) }:=Heap.get?_push_of_some _ hS;exact⟨_,#[],0,_,Qd,⟨rfl,rfl,rfl⟩,rfl,λe he=>by simp at he,λk=>by simp[jU],by decide,rfl,rfl,⟨rfl,rfl,.nil⟩⟩
  obtain⟨h',g',d',Lm,Pn⟩:=s';have eg:g'=s.gens:=hG _ _ hm.gens;have ed:d'=s.drawn:=hm.drawn;have eo:Pn=s.os:=hm.os;subst eg ed eo;refine h h' Lm Uy λb o e=>?_;have Kr:=Heap.lt_size e;refine hm.heap b o (λz=>?_) (Heap.get?_push_of_some _ (Heap.get?_push_of_some _ e));rcases mem_cons.mp z with z|z
  ·rw[z]at Kr;exact lt_irrefl _ Kr
  have z:=mem_singleton.mp z;rw[Heap.size_push]at z;rw[z]at Kr;exact absurd Kr (Nat.not_lt.mpr (le_succ _))
 unfold Builtin.«set.__init__» noKeywords Builtin.Frozenset.updateFrom;have eP:(λ(i:Nat)(v:Value)=>us.toArray[i]?=some v)=λi v=>us[i]?=some v:=by funext i v;simp
 generalize SG:pyIter=PI;rcases hT with⟨rfl,hl⟩|⟨rfl,hl⟩
 ·obtain⟨ol,JP,NY,Lu,HX⟩:=hl;obtain⟨Qe,E2,NZ,Af⟩:=ol;simp only at NY HX;subst NY HX;have Ks:(s.heap.push { cls:=.type "set",dict:=none,data:=.set #[] 0 (.fresh 0 0 (!kf w)) }).get? l=some { cls:=.type "list",dict:=E2,data:=.seq us.toArray Lu,slots:=Af }:=Heap.get?_push_of_some _ JP;have y1:=F.sub_list_set;have y2:=F.sub_list_frozenset;have y3:(Value.type "list"==Value.type "dict")=false:=by decide
  wp_walk
  subst SG;have GA:(s.heap.push { cls:=.type "set",dict:=none,data:=.set #[] 0 (.fresh 0 0 (!kf w)) }).IsList l us.toArray:=⟨_,Ks,rfl,Lu,rfl⟩;refine wpAny_pyIter_list GA (f8 (wpAny_runValue ?_));have W:=(Walks.list z4 _ l nl us.toArray).toS (prog:=prog) (w:=w);rw[eP,size_toArray]at W;refine codeAny_mono (fin _ _ (λa b e=>e) _ W ⟨⟨_,Heap.get?_push_size _ rfl,rfl,rfl⟩,GA.push _⟩) λr s' hr=>?_;obtain⟨v,rfl,q⟩:=hr;exact im (a:=_) (im (a:=_) ⟨rfl,q⟩)
 obtain⟨ol,JP,NY,Lu,HX⟩:=hl;obtain⟨Qe,E2,NZ,Af⟩:=ol;simp only at NY HX;subst NY HX;have Ks:(s.heap.push { cls:=.type "set",dict:=none,data:=.set #[] 0 (.fresh 0 0 (!kf w)) }).get? l=some { cls:=.type "tuple",dict:=E2,data:=.seq us.toArray Lu,slots:=Af }:=Heap.get?_push_of_some _ JP;have y1:isSubtype (.type "tuple") (.type "set")=pure false:=by rw[isSubtype_type];kernel_rfl
 have y2:isSubtype (.type "tuple") (.type "frozenset")=pure false:=by rw[isSubtype_type];kernel_rfl
 have y3:(Value.type "tuple"==Value.type "dict")=false:=by decide
 wp_walk
 subst SG;have GA:(s.heap.push { cls:=.type "set",dict:=none,data:=.set #[] 0 (.fresh 0 0 (!kf w)) }).IsTuple l us.toArray:=⟨_,Ks,rfl,Lu,rfl⟩;refine wpAny_pyIter_tuple GA (f8 (wpAny_runValue ?_));have W:=(Walks.tuple z4 _ l nl us.toArray).toS (prog:=prog) (w:=w);rw[eP,size_toArray]at W;refine codeAny_mono (fin _ _ (λa b e=>e) _ W ⟨⟨_,Heap.get?_push_size _ rfl,rfl,rfl⟩,GA.push _⟩) λr s' hr=>?_;obtain⟨v,rfl,q⟩:=hr;exact im (a:=_) (im (a:=_) ⟨rfl,q⟩)
end
theorem d9:Slot "set_iterator" "__next__" "set_iterator.__next__" :=
 .of (owner:="set_iterator") (n:="__next__") (by rw[typeLookup_type,builtinLookup_eq_fast];kernel_rfl) (by decide +kernel) (by decide +kernel) (by decide +kernel) (by first|exact .inl (by decide +kernel)|exact .inr (by decide +kernel)) (by rw[isSubtype_type];kernel_rfl)
theorem o4:Slot "set_iterator" "__iter__" "set_iterator.__iter__" :=
 .of (owner:="set_iterator") (n:="__iter__") (by rw[typeLookup_type,builtinLookup_eq_fast];kernel_rfl) (by decide +kernel) (by decide +kernel) (by decide +kernel) (by first|exact .inl (by decide +kernel)|exact .inr (by decide +kernel)) (by rw[isSubtype_type];kernel_rfl)
theorem uS:entryFor table "set_iterator.__next__"=some Builtin.«set_iterator.__next__»:=entryFor_of_tree (by kernel_rfl)
theorem uT:entryFor table "set_iterator.__iter__"=some Builtin.«dict_keyiterator.__iter__»:=entryFor_alias (id':="dict_keyiterator.__iter__") (by kernel_rfl) rfl (by decide +kernel) (by kernel_rfl)
theorem uU:entryFor table "set.__iter__"=some Builtin.«frozenset.__iter__»:=entryFor_alias (id':="frozenset.__iter__") (by kernel_rfl) rfl (by decide +kernel) (by kernel_rfl)
theorem wo(a:Value):argsOk "set_iterator.__next__" ⟨[a],[]⟩:=by unfold argsOk;kernel_rfl
theorem wq(a:Value):argsOk "set_iterator.__iter__" ⟨[a],[]⟩:=by unfold argsOk;kernel_rfl
abbrev qD(h:Heap)(I:Addr)(f0:Value)(i:Nat)(S:Addr)(n ep:Nat):Prop:=h.get? I=some { cls:=.type "set_iterator",dict:=none,data:=.fields #[f0,rawInt i,.ref S,rawInt n,rawInt ep],slots:=#[] }
def vU(Wk:Array (Int×Value))(i:Nat)(v:Value):Prop:=∃h,Wk[i]?=some (h,v)
section
theorem mT{Q:Bool->Shared->Prop}(h:Q (kf w) s):wpAny (model prog w) A setsByText Q E s:=by unfold setsByText;exact f8 (wpAny_askSetting (im h))
theorem Ag{Q:Nat->Shared->Prop}(hn:n≠0)(h:∀i d,i<n->Q i { s with drawn:=d }):wpAny (model prog w) A (choose src n) Q E s:=λΓ p _=>by unfold choose;rw[Sem.wp_choose];exact⟨hn,(Sem.wp_pure ..).mpr (h _ _ (Nat.mod_lt _ (Nat.pos_of_ne_zero hn)))⟩
theorem qo{α:Type}:∀(n:Nat)(xs:List α)(s:Shared){Q:List α->Shared->Prop},xs.length=n->(∀ys d,ys.Perm xs->Q ys { s with drawn:=d })->wpAny (model prog w) A (drawOrder n xs) Q E s
 |0,xs,s,Q,hl,h=>by have e:xs=[]:=List.length_eq_zero_iff.mp hl;subst e;unfold drawOrder;exact im (h [] s.drawn (.refl _))
 |n+1,[],s,Q,hl,h=>by cases hl
 |n+1,x::xs,s,Q,hl,h=>by
  unfold drawOrder;refine f8 (Ag (by simp) λi d hi=>?_);have e:(x::xs)[i]?=some (x::xs)[i]:=by simp[hi]
  rw[e];refine(show wpAny _ _ (drawOrder n ((x::xs).eraseIdx i) >>= _) _ _ _ from f8 (qo n _ _ (by rw[List.length_eraseIdx,if_pos hi];simp at hl ⊢;lia) λys d2 hy=>im ?_));refine h _ d2 ((hy.cons _).trans ?_);have er:∀{l:List α}{k:Nat}(hk:k<l.length),(l[k]::l.eraseIdx k).Perm l:=λ{l}=>by
   induction l with
   |nil=>intro k hk;exact absurd hk (not_lt_zero _)
   |cons a l ih =>
    intro k hk;cases k with
    |zero=>exact .refl _
    |succ k=>exact(List.Perm.swap a (l[k]'(Nat.lt_of_succ_lt_succ hk)) _).trans ((ih (Nat.lt_of_succ_lt_succ hk)).cons a)
  exact er hi
theorem qE{α:Type}(next:Nat->Nat)(xs:Array α):(pickOrder next xs).toList.Perm xs.toList:=by
 have go:∀(fuel k:Nat)(left:List α)(out:Array α),left.length<=fuel->(pickOrder.go next fuel k left out).toList.Perm (out.toList++left):=by
  intro fuel
  induction fuel with
  |zero =>
   intro k left out hl;have e:left=[]:=List.length_eq_zero_iff.mp (by lia);subst e;unfold pickOrder.go;simp
  |succ fuel ih =>
   intro k left out hl;unfold pickOrder.go;cases left with
   |nil=>simp
   |cons a l =>
    have hi:next k%(a::l).length<(a::l).length:=Nat.mod_lt _ (by simp);have e:(a::l)[next k%(a::l).length]?=some (a::l)[next k%(a::l).length]:=getElem?_eq_getElem hi;rw[e];dsimp only;refine(ih (k+1) _ _ (by rw[List.length_eraseIdx,if_pos hi];lia)).trans ?_;rw[Array.toList_push,List.append_assoc];refine List.Perm.append_left _ ?_;have er:∀{l:List α}{k:Nat}(hk:k<l.length),(l[k]::l.eraseIdx k).Perm l:=λ{l}=>by
     induction l with
     |nil=>intro k hk;exact absurd hk (not_lt_zero _)
     |cons a l ih =>
      intro k hk;cases k with
      |zero=>exact .refl _
      |succ k=>exact(List.Perm.swap a (l[k]'(Nat.lt_of_succ_lt_succ hk)) _).trans ((ih (Nat.lt_of_succ_lt_succ hk)).cons a)
    exact er hi
 unfold pickOrder;have:=go xs.size 0 xs.toList #[] (by simp)
 simpa using this
end
section
structure uV(h:Heap)(S:Addr)(o:Obj)(es:Array (Int×Value))(ep:Nat)(t:SetTable):Prop where
 g:h.get? S=some o
 d:o.data=.set es ep t
 f:t.fits es.size=true
theorem wu(hI:qD s.heap I f0 i S n ep)(h:Q (.ref I) s):wpAny (model prog w) A (pyIter (.ref I)) Q E s:=by have ty:s.TypeIs (.ref I) "set_iterator":=⟨_,hI,rfl⟩;exact wpAny_pyIter_slot ty o4 (wpAny_call_entry o4 ty uT (show wpAny _ _ (ret (.ref I)) _ _ s from im ⟨_,rfl,"set_iterator",_,ty,d9.lookup,h⟩) (wq _))
theorem mU{Q:Option Value->Shared->Prop}(hI:qD s.heap I f0 i S n ep)(h:wpAny (model prog w) A.in1 (Builtin.«set_iterator.__next__» ⟨[.ref I],[]⟩) (λfin s'=>∃v,fin=.done (.ret v)/\Q (some v) s') (λe s'=>∃a,e=.ref a/\(∃o,s'.heap.get? a=some o/\o.cls=.type "StopIteration")/\Q none s') s):wpAny (model prog w) A (pyNext (.ref I)) Q E s:=by
 have ty:s.TypeIs (.ref I) "set_iterator":=⟨_,hI,rfl⟩;unfold pyNext;refine f8 (wpAny_attempt (wpAny_callSpecial?_slot (name:=Str.ofString "__next__") ty d9 (wpAny_call_entry d9 ty uS ?_ (wo _))));refine wpAny_mono h (λfin s' z=>?_) λe s' z=>?_
 ·obtain⟨v,rfl,q⟩:=z;exact⟨v,rfl,im q⟩
 obtain⟨a,rfl,⟨o,ho,hc⟩,q⟩:=z;exact f8 (wpAny_isInstance (T:="StopIteration") (b:=true) ⟨o,ho,hc⟩ isSubtype_stop (im q))
theorem wx{Q:Fin->Shared->Prop}(hh:A.handled=none)(hI:qD s.heap I f0 i S n ep)(h:∀h' a,(∀b o,b≠I->s.heap.get? b=some o->h'.get? b=some o)->(∃o,h'.get? a=some o/\o.cls=.type "StopIteration")->E' (.ref a) { s with heap:=h' }):
  wpAny (model prog w) A (do setField (.ref I) 2 .none;raiseNew (<- newExc (.type "StopIteration") [])) Q E' s:=by
 refine f8 (wpAny_setField_rec hI (by simp) λh1 g1 s1=>?_);refine(show wpAny _ _ (newExc (.type "StopIteration") [] >>= _) _ _ _ from f8 ?_);simp only[newTuple,newExc];refine f8 (wpAny_newObj_type (f8 (m:=firstArgMember _ _) (wpAny_of_eq (a:=Value.none) (by first|rfl|(simp only[firstArgMember];rfl)) (wpAny_newObj_type ?_ (by size_fits)))) (by size_fits));simp only[raiseNew];refine f8 (wpAny_handled ?_);rw[hh];exact f8 (im (wpAny_throw (h _ _ (λb o nb e=>Heap.get?_push_of_some _ (Heap.get?_push_of_some _ (s1.extBut b o nb e))) ⟨_,Heap.get?_push_size _ rfl,rfl⟩)))
theorem mV(hI:qD s.heap I f0 i S es.size ep)(hS:uV s.heap S o es ep t){Q:Fin->Shared->Prop}(h:wpAny (model prog w) A (if let .int slot _:=f0 then do
    match <- setNext S slot.toNat i ep with
    |some (x,next) =>
     setField (.ref I) 0 (rawInt next)
     setField (.ref I) 1 (rawInt ((i:Int)+1))
     ret x
    |none=>setField (.ref I) 2 .none;raiseNew (<- newExc (.type "StopIteration") [])
   else do
    let some places <- seqItems? f0|unsupported "internal:set_iterator"
    match places[i]? with
    |some (.int place _) =>
     let x <- setNextDrawn S place.toNat ep
     setField (.ref I) 1 (rawInt ((i:Int)+1))
     ret x
    |some _=>unsupported "internal:set_iterator"
    |none=>setField (.ref I) 0 (rawInt 0);setField (.ref I) 2 .none;raiseNew (<- newExc (.type "StopIteration") [])) Q E' s):
  wpAny (model prog w) A (Builtin.«set_iterator.__next__» ⟨[.ref I],[]⟩) Q E' s:=by
 refine(show wpAny _ _ (fieldsOf (.ref I) >>= _) _ _ s from f8 (wpAny_fieldsOf hI rfl ?_));refine(show wpAny _ _ (setEntries S >>= _) _ _ s from f8 ?_);unfold setEntries;refine f8 (wpAny_setState_of hS.g hS.d hS.f (im ?_));refine(show wpAny _ _ (if(((es.size:Nat):Int) != ((es.size:Nat):Int))=true then _ else _) _ _ s from ?_);rw[if_neg (by simp)];exact h
theorem Ah(yr:t.place.toList.Pairwise (·<·))(hi:i<=t.place.size)(hs:(i=0/\slot=0)\/∃j,i=j+1/\∃p,t.place[j]?=some p/\slot=p+1):SetTable.below t.place slot=i:=by
 obtain⟨h1,h2,h3⟩:=yt slot yr;have le:∀{a c x y:Nat},a<c->t.place[a]?=some x->t.place[c]?=some y->x<y:=λ{a c x y} NU hx hy=>by obtain⟨i1,e1⟩:=Array.getElem?_eq_some_iff.mp hx;obtain⟨k1,e2⟩:=Array.getElem?_eq_some_iff.mp hy;have:=List.pairwise_iff_getElem.mp yr a c (by simpa using i1) (by simpa using k1) NU;simp[e1,e2]at this;exact this
 generalize SetTable.below t.place slot=b at h1 h2 h3;rcases Nat.lt_trichotomy b i with c|c|c
 ·exfalso;rcases hs with⟨rfl,_⟩|⟨j,rfl,p,hp,rfl⟩
  ·lia
  have bl:b<t.place.size:=by lia
  have eb:t.place[b]?=some t.place[b]:=by simp[bl]
  have:=h2 b _ (le_refl _) eb;rcases Nat.lt_or_eq_of_le (show b<=j by lia)with z|z
  ·have:=le z eb hp;lia
  subst z;rw[eb]at hp;cases hp;lia
 ·exact c
 exfalso;rcases hs with⟨rfl,rfl⟩|⟨j,rfl,p,hp,rfl⟩
 ·have bl:0<t.place.size:=by lia
  have:=h1 0 _ c (show t.place[0]?=some t.place[0] by simp[bl]);lia
 have jl:j+1<t.place.size:=by lia
 have ej:t.place[j+1]?=some t.place[j+1]:=by simp[jl]
 have a:=h1 (j+1) _ c ej;have b':=le (lt_succ_self j) hp ej;lia
theorem su{Q:Option (Value×Nat)->Shared->Prop}(hS:uV s.heap S o es ep t)(tk:uF (!kf w) t)(hb:kf w=false)(hd:(!t.plain&&decide (es.size>1))=false)(hi:i<=es.size)(hs:(i=0/\slot=0)\/∃j,i=j+1/\∃p,t.place[j]?=some p/\slot=p+1)(h1:∀x p,(∃hh,es[i]?=some (hh,x))->t.place[i]?=some p->Q (some (x,p+1)) s)(h2:es[i]?=none->Q none s):wpAny (model prog w) A (setNext S slot i ep) Q E s:=by
 have pz:t.place.size=es.size:=by have:=hS.f;unfold SetTable.fits at this;simp at this;exact this.1
 unfold setNext;refine f8 (wpAny_setState_of hS.g hS.d hS.f ?_);dsimp only;refine f8 (mT ?_);rw[hb];rw[if_neg (by exact Bool.false_ne_true)];refine(show wpAny _ _ (if(!t.plain&&decide (es.size>1))=true then _ else _) _ _ _ from ?_);rw[hd];rw[if_neg (by exact Bool.false_ne_true)];refine(show wpAny _ _ ((if(!t.led&&!es.isEmpty)=true then unsupported "set:maker-not-led"else pure ()) >>= _) _ _ _ from ?_);rw[tk.led,hb];refine(show wpAny _ _ ((if(false&&!es.isEmpty)=true then unsupported "set:maker-not-led"else pure ()) >>= _) _ _ _ from ?_);rw[if_neg (by simp)];refine f8 (im ?_);have eb:=Ah tk.yr (by lia) hs;rw[eb];by_cases c:i<es.size
 ·have e1:es[i]?=some (es[i].1,es[i].2):=by simp[c]
  have e2:t.place[i]?=some (t.place[i]'(by lia)):=by simp[show i<t.place.size by lia]
  rw[e1,e2];exact im (h1 _ _ ⟨_,e1⟩ e2)
 have e1:es[i]?=none:=by simp;lia
 rw[e1];exact im (h2 e1)
theorem Ai(hh:A.handled=none)(yP:S≠I)(tk:uF (!kf w) t)(hb:kf w=false)(hd:(!t.plain&&decide (es.size>1))=false):
  Walks prog w A I [I,S] [I] es.size (vU es) (λi h=>uV h S o es ep t/\i<=es.size/\∃slot:Nat,qD h I (rawInt slot) i S es.size ep/\((i=0/\slot=0)\/∃j,i=j+1/\∃p,t.place[j]?=some p/\slot=p+1))where
 sub:=λb hb=>by simp at hb;simp[hb]
 frame:=λi h h' st hk=>⟨⟨hk S (by simp) _ st.1.g,st.1.d,st.1.f⟩,st.2.1,let⟨sl,z1,z2⟩:=st.2.2;⟨sl,hk I (by simp) _ z1,z2⟩⟩
 item:=λi s Q E hi st hQ=>by obtain⟨hS,_,slot,hI,hs⟩:=st;refine mU hI (mV hI hS ?_);refine(show wpAny _ _ (setNext S ((slot:Int).toNat) i ep >>= _) _ _ _ from f8 ?_);rw[show((slot:Nat):Int).toNat=slot by lia];refine su hS tk hb hd (by lia) hs (λx p hx hp=>?_) λz=>absurd z (by simp;lia);refine f8 (wpAny_setField_rec hI (by simp) λh1 g1 s1=>?_);have Kt:qD h1 I (rawInt ((p+1:Nat):Int)) i S es.size ep:=g1;refine f8 (wpAny_setField_rec Kt (by simp) λh2 g2 s2=>?_);have Qf:qD h2 I (rawInt ((p+1:Nat):Int)) (i+1) S es.size ep:=g2;refine im ⟨x,rfl,hQ x h2 s.toks hx ⟨⟨s2.extBut _ _ yP (s1.extBut _ _ yP hS.g),hS.d,hS.f⟩,hi,p+1,Qf,.inr ⟨i,rfl,p,hp,rfl⟩⟩ λb o' nb e=>?_⟩;have JQ:b≠I:=λz=>nb (by simp[z]);exact s2.extBut _ _ JQ (s1.extBut _ _ JQ e)
 done:=λs Q E st hQ=>by obtain⟨hS,_,slot,hI,hs⟩:=st;refine mU hI (mV hI hS ?_);refine(show wpAny _ _ (setNext S ((slot:Int).toNat) es.size ep >>= _) _ _ _ from f8 ?_);rw[show((slot:Nat):Int).toNat=slot by lia];refine su hS tk hb hd (le_refl _) hs (λx p hx hp=>by obtain⟨_,z⟩:=hx;simp at z) λ_=>?_;refine wx (by simp[hh]) hI λh' a hk he=>⟨a,rfl,he,hQ h' s.toks λb o' nb e=>hk b o' (λz=>nb (by simp[z])) e⟩
 self:=λi s Q E st hQ=>by obtain⟨_,_,slot,hI,_⟩:=st;exact wu hI hQ
end
section
theorem vV{Q:Option (Value×Nat)->Shared->Prop}(hS:uV s.heap S o es ep t)(hb:kf w=true)(h:Q (((pickOrder (w.params.setOrder S ep) es)[i]?).map λe=>(e.2,0)) s):wpAny (model prog w) A (setNext S 0 i ep) Q E s:=by unfold setNext;refine f8 (wpAny_setState_of hS.g hS.d hS.f ?_);dsimp only;refine f8 (mT ?_);rw[hb];rw[if_pos rfl,if_neg (by simp)];refine f8 ?_;unfold setWalk;refine f8 (wpAny_setState_of hS.g hS.d hS.f ?_);dsimp only;refine f8 (mT ?_);rw[hb];rw[if_pos rfl];exact f8 (wpAny_askSetting (im (im h)))
theorem C7(hh:A.handled=none)(yP:S≠I)(hb:kf w=true):
  Walks prog w A I [I,S] [I] es.size (vU (pickOrder (w.params.setOrder S ep) es)) (λi h=>uV h S o es ep t/\qD h I (rawInt 0) i S es.size ep)where
 sub:=λb hb=>by simp at hb;simp[hb]
 frame:=λi h h' st hk=>⟨⟨hk S (by simp) _ st.1.g,st.1.d,st.1.f⟩,hk I (by simp) _ st.2⟩
 item:=λi s Q E hi st hQ=>by
  obtain⟨hS,hI⟩:=st;have pz:(pickOrder (w.params.setOrder S ep) es).size=es.size:=by have:=(qE (w.params.setOrder S ep) es).length_eq;simpa using this
  have e:(pickOrder (w.params.setOrder S ep) es)[i]?=some ((pickOrder (w.params.setOrder S ep) es)[i]'(by lia)):=by simp[show i<(pickOrder (w.params.setOrder S ep) es).size by lia]
  refine mU hI (mV hI hS ?_);refine(show wpAny _ _ (setNext S 0 i ep >>= _) _ _ _ from f8 (vV hS hb ?_));rw[e];refine f8 (wpAny_setField_rec hI (by simp) λh1 g1 s1=>?_);have Kt:qD h1 I (rawInt 0) i S es.size ep:=g1;refine f8 (wpAny_setField_rec Kt (by simp) λh2 g2 s2=>?_);have Qf:qD h2 I (rawInt 0) (i+1) S es.size ep:=g2;refine im ⟨_,rfl,hQ _ h2 s.toks ⟨_,e⟩ ⟨⟨s2.extBut _ _ yP (s1.extBut _ _ yP hS.g),hS.d,hS.f⟩,Qf⟩ λb o' nb e=>?_⟩;have JQ:b≠I:=λz=>nb (by simp[z]);exact s2.extBut _ _ JQ (s1.extBut _ _ JQ e)
 done:=λs Q E st hQ=>by
  obtain⟨hS,hI⟩:=st;have pz:(pickOrder (w.params.setOrder S ep) es).size=es.size:=by have:=(qE (w.params.setOrder S ep) es).length_eq;simpa using this
  have e:(pickOrder (w.params.setOrder S ep) es)[es.size]?=none:=by simp;lia
  refine mU hI (mV hI hS ?_);refine(show wpAny _ _ (setNext S 0 es.size ep >>= _) _ _ _ from f8 (vV hS hb ?_));rw[e];exact wx (by simp[hh]) hI λh' a hk he=>⟨a,rfl,he,hQ h' s.toks λb o' nb e=>hk b o' (λz=>nb (by simp[z])) e⟩
 self:=λi s Q E st hQ=>wu st.2 hQ
abbrev Na(h:Heap)(T:Addr)(ord:List Nat):Prop:=h.get? T=some { cls:=.type "tuple",data:=.seq (ord.map λ(i:Nat)=>rawInt i).toArray }
def wz(es:Array (Int×Value))(ord:List Nat):Array (Int×Value):=(ord.map λj=>es.getD j (0,.none)).toArray
theorem C8(hh:A.handled=none){T:Addr}(yP:S≠I)(Uz:T≠I)(hp:ord.Perm (List.range es.size)):
  Walks prog w A I [I,S,T] [I] es.size (vU (wz es ord)) (λi h=>uV h S o es ep t/\Na h T ord/\qD h I (.ref T) i S es.size ep)where
 sub:=λb hb=>by simp at hb;simp[hb]
 frame:=λi h h' st hk=>⟨⟨hk S (by simp) _ st.1.g,st.1.d,st.1.f⟩,hk T (by simp) _ st.2.1,hk I (by simp) _ st.2.2⟩
 item:=λi s Q E hi st hQ=>by
  obtain⟨hS,hT,hI⟩:=st;have ol:ord.length=es.size:=by have:=hp.length_eq;simpa using this
  have eo:ord[i]?=some (ord[i]'(by lia)):=by simp[show i<ord.length by lia]
  have jl:ord[i]'(by lia)<es.size:=List.mem_range.mp (hp.mem_iff.mp (List.getElem_mem _));refine mU hI (mV hI hS ?_);refine(show wpAny _ _ (seqItems? (.ref T) >>= _) _ _ _ from f8 (wpAny_seqItems hT rfl ?_));have ea:(ord.map λ(i:Nat)=>rawInt i).toArray[i]?=some (rawInt (ord[i]'(by lia):Nat)):=by simp[show i<ord.length by lia]
  dsimp only;rw[ea];refine(show wpAny _ _ (setNextDrawn S ((ord[i]'(by lia):Nat):Int).toNat ep >>= _) _ _ _ from f8 ?_);rw[show(((ord[i]'(by lia):Nat):Int)).toNat=ord[i]'(by lia) by lia];unfold setNextDrawn;refine f8 (wpAny_setState_of hS.g hS.d hS.f ?_);dsimp only;rw[if_neg (by simp)];have ee:es[ord[i]'(by lia)]?=some ((es[ord[i]'(by lia)]).1,(es[ord[i]'(by lia)]).2):=by simp[jl]
  rw[ee];refine im ?_;refine f8 (wpAny_setField_rec hI (by simp) λh1 g1 s1=>?_);have Kt:qD h1 I (.ref T) (i+1) S es.size ep:=g1;refine im ⟨_,rfl,hQ _ h1 s.toks ⟨(es[ord[i]'(by lia)]).1,?_⟩ ⟨⟨s1.extBut _ _ yP hS.g,hS.d,hS.f⟩,s1.extBut _ _ Uz hT,Kt⟩ λb o' nb e=>s1.extBut _ _ (λz=>nb (by simp[z])) e⟩;unfold wz;simp[show i<ord.length by lia,Array.getD,jl]
 done:=λs Q E st hQ=>by
  obtain⟨hS,hT,hI⟩:=st;have ol:ord.length=es.size:=by have:=hp.length_eq;simpa using this
  refine mU hI (mV hI hS ?_);refine(show wpAny _ _ (seqItems? (.ref T) >>= _) _ _ _ from f8 (wpAny_seqItems hT rfl ?_));have ea:(ord.map λ(i:Nat)=>rawInt i).toArray[es.size]?=none:=by simp;lia
  dsimp only;rw[ea];refine f8 (wpAny_setField_rec hI (by simp) λh1 g1 s1=>?_);have Kt:qD h1 I (rawInt 0) es.size S es.size ep:=g1;refine wx (s:={ s with heap:=h1 }) (by simp[hh]) Kt λh' a hk he=>⟨a,rfl,he,hQ h' s.toks λb o' nb e=>?_⟩
  have JQ:b≠I:=λz=>nb (by simp[z]);exact hk b o' JQ (s1.extBut _ _ JQ e)
 self:=λi s Q E st hQ=>wu st.2.2 hQ
theorem C9(hp:ord.Perm (List.range es.size)):(wz es ord).toList.Perm es.toList:=by
 unfold wz;refine(hp.map _).trans (List.Perm.of_eq ?_);refine List.ext_getElem (by simp) λi h1 h2=>?_;have:i<es.size:=by simpa using h1
 simp[Array.getD,this]
end
section
theorem HY{Q:Bool->Shared->Prop}(hT:s.TypeIs (.ref S) "set")(h:Q false s):wpAny (model prog w) A (Builtin.List.listLengthHint (.ref S)) Q E s:=by
 unfold Builtin.List.listLengthHint;refine f8 (wpAny_specialOf hT PySem.F.slot_set_len.lookup ?_);generalize SH:("set.__len__":String)=nm
 wp_delta
 rw[show splitId nm=some ("set","__len__")from by subst SH;decide +kernel];subst SH;refine f8 (wpAny_isInstance (T:="set") (b:=true) hT (by rw[isSubtype_type];kernel_rfl) (wpAny_ite_split (λz=>absurd z (by decide)) (λ_=>wpAny_ite_split (λ_=>?_) (λz=>absurd (by decide +kernel) z))));exact f8 (wpAny_typeOf hT (im h))
theorem HZ(hh:A.handled=none)(hS:uV s.heap S o es ep t)(hex:o.ExactSet)(tk:uF (!kf w) t)(hz:es.size<=sizeLine)(q:∀(I:Addr)(fp:List Addr)(Wk:Array (Int×Value))(St:Nat->Heap->Prop)(h':Heap)(d:_),Walks prog w A I fp [I] es.size (vU Wk) St->St 0 h'->Wk.toList.Perm es.toList->(∀b o,s.heap.get? b=some o->h'.get? b=some o)->s.heap.objs.size<=I->(∀b∈fp,b=S\/s.heap.objs.size<=b)->Q (.ref I) { s with heap:=h',drawn:=d }):
  wpAny (model prog w) A (pyIter (.ref S)) Q E s:=by
 have ty:s.TypeIs (.ref S) "set":=⟨o,hS.g,hex.1⟩;have lS:=Heap.lt_size hS.g;refine wpAny_pyIter_slot ty PySem.F.slot_set_iter (wpAny_call_entry PySem.F.slot_set_iter ty uU ?_ (PySem.F.args_set_iter_1 _));refine(show wpAny _ _ (Builtin.Frozenset.sizeOf S >>= _) _ _ s from f8 ?_);unfold Builtin.Frozenset.sizeOf setEntries;refine f8 (f8 (wpAny_setState_of hS.g hS.d hS.f (im (im ?_))));refine f8 ?_;unfold setDrawn;refine f8 (wpAny_setState_of hS.g hS.d hS.f ?_);dsimp only;refine f8 (mT (im ?_));by_cases c:(!kf w&&(!t.plain&&decide (es.size>1)))=true
 ·refine(show wpAny _ _ (if(!kf w&&(!t.plain&&decide (es.size>1)))=true then _ else _) _ _ _ from ?_);rw[if_pos c];refine f8 (qo es.size (List.range es.size) s (by simp) λord d hp=>?_);have ol:ord.length=es.size:=by have:=hp.length_eq;simpa using this
  refine f8 (wpAny_newTuple (f8 ?_) (by rw[length_map,ol];exact hz));unfold setEpoch;have g1:(s.heap.push { cls:=.type "tuple",data:=.seq (ord.map λ(i:Nat)=>rawInt i).toArray }).get? S=some o:=Heap.get?_push_of_some _ hS.g;refine f8 (wpAny_setState_of g1 hS.d hS.f (im ?_));refine f8 ?_;unfold newFields;refine wpAny_newObj_type ?_ (by size_fits);have z1:(s.heap.push { cls:=.type "tuple",data:=.seq (ord.map λ(i:Nat)=>rawInt i).toArray }).objs.size=s.heap.objs.size+1:=Heap.size_push ..;refine im ⟨_,rfl,"set_iterator",_,⟨_,Heap.get?_push_size _ rfl,rfl⟩,d9.lookup,?_⟩;refine q _ _ (wz es ord) _ _ d (C8 hh (o:=o) (t:=t) (T:=s.heap.objs.size) (by rw[z1];exact ne_of_lt (Nat.lt_succ_of_lt lS)) (by rw[z1];exact ne_of_lt (lt_succ_self _)) hp) ⟨⟨Heap.get?_push_of_some _ g1,hS.d,hS.f⟩,Heap.get?_push_of_some _ (Heap.get?_push_size _ rfl),Heap.get?_push_size _ rfl⟩ (C9 hp) (λb o e=>Heap.get?_push_of_some _ (Heap.get?_push_of_some _ e)) (by rw[z1];exact le_succ _) λb hb=>?_;simp only[mem_cons,not_mem_nil,or_false]at hb;rcases hb with rfl|rfl|rfl
  ·exact .inr (by rw[z1];exact le_succ _)
  ·exact .inl rfl
  exact .inr (le_refl _)
 refine(show wpAny _ _ (if(!kf w&&(!t.plain&&decide (es.size>1)))=true then _ else _) _ _ _ from ?_);rw[if_neg c];refine f8 (im (f8 ?_));unfold setEpoch;refine f8 (wpAny_setState_of hS.g hS.d hS.f (im (f8 ?_)));unfold newFields;refine wpAny_newObj_type ?_ (by size_fits);refine im ⟨_,rfl,"set_iterator",_,⟨_,Heap.get?_push_size _ rfl,rfl⟩,d9.lookup,?_⟩;have nS:S≠s.heap.objs.size:=ne_of_lt lS;have mem:∀b∈[s.heap.objs.size,S],b=S\/s.heap.objs.size<=b:=λb hb=>by
  simp only[mem_cons,not_mem_nil,or_false]at hb;rcases hb with rfl|rfl
  ·exact .inr (le_refl _)
  exact .inl rfl
 by_cases cb:kf w=true
 ·exact q _ _ (pickOrder (w.params.setOrder S ep) es) _ _ s.drawn (C7 hh (o:=o) (t:=t) nS cb) ⟨⟨Heap.get?_push_of_some _ hS.g,hS.d,hS.f⟩,Heap.get?_push_size _ rfl⟩ (qE _ _) (λb o e=>Heap.get?_push_of_some _ e) (le_refl _) mem
 have SI:kf w=false:=by cases h:kf w<;>simp_all
 have cd:(!t.plain&&decide (es.size>1))=false:=by
  rw[SI]at c;cases h:(!t.plain&&decide (es.size>1))with
  |false=>rfl
  |true=>rw[h]at c;exact absurd rfl c
 exact q _ _ es _ _ s.drawn (Ai hh (o:=o) nS tk SI cd) ⟨⟨Heap.get?_push_of_some _ hS.g,hS.d,hS.f⟩,zero_le _,0,Heap.get?_push_size _ rfl,.inl ⟨rfl,rfl⟩⟩ (.refl _) (λb o e=>Heap.get?_push_of_some _ e) (le_refl _) mem
end
section
open PySem.W
theorem yw(hS:uV s.heap S o es ep t)(hex:o.ExactSet)(tk:uF (!kf w) t)(hz:es.size<=sizeLine)(hh:A.handled=none){R:List Value->Shared->Prop}(q:∀(g:Heap)(tk:Nat)(d:_)(vs:List Value),Grows s.heap g->s.heap.objs.size<=g.objs.size->vs.Perm (es.toList.map (·.2))->R vs { s with heap:=g,toks:=tk,drawn:=d }):wpAny (model prog w) A (collect (.ref S)) R E s:=by
 have lS:=Heap.lt_size hS.g;unfold collect;refine f8 (wpAny_runValue (codeAny_builtin entry_proto_collect' ?_));rw[Around.under_plainId PySem.F.plain_proto_collect _];refine(show wpAny _ A.in1 (newList [] >>= λx=>again (.builtin "list.__iadd__" ⟨[x,.ref S],[]⟩)) _ _ s from f8 (wpAny_newObj_type (im ⟨plainId_quiet PySem.F.plain_list_iadd _,codeAny_builtin entry_list_iadd' ?_⟩)));rw[Around.under_plainId PySem.F.plain_list_iadd _];have e1:(s.heap.push { cls:=.type "list",data:=.seq ([]:List Value).toArray }).get? s.heap.objs.size=some { cls:=.type "list",data:=.seq #[] }:=Heap.get?_push_size _ rfl;have z1:(s.heap.push { cls:=.type "list",data:=.seq ([]:List Value).toArray }).objs.size=s.heap.objs.size+1:=Heap.size_push ..;refine(show wpAny _ A.in1 (Builtin.List.listExtendWith (.ref s.heap.objs.size) (.ref S) (.ref s.heap.objs.size)) _ _ _ from ?_);have NX:uV (s.heap.push { cls:=.type "list",data:=.seq ([]:List Value).toArray }) S o es ep t:=⟨Heap.get?_push_of_some _ hS.g,hS.d,hS.f⟩;unfold Builtin.List.listExtendWith;refine f8 (wpAny_typeOf (T:="set") ⟨o,NX.g,hex.1⟩ ?_);have n1:Builtin.List.listSameRef (.ref s.heap.objs.size) (.ref S)=false:=by simp[Builtin.List.listSameRef];exact Nat.ne_of_gt lS
 have n2:(Value.type "set"==Value.type "list")=false:=by decide
 have n3:(Value.type "set"==Value.type "tuple")=false:=by decide
 simp only[n1,n2,n3,Bool.or_false,Bool.false_eq_true,if_false];refine f8 (HZ (A:=A.in1) (by simp[hh]) NX hex tk hz λI fp Wk St h' d W st pm grow lI U0=>?_);have sf:s.heap.objs.size∉fp:=λz=>by
  rcases U0 _ z with e|e
  ·exact absurd e (Nat.ne_of_gt lS)
  rw[z1]at e;exact absurd e (Nat.not_succ_le_self _)
 have sI:s.heap.objs.size≠I:=λz=>by rw[z1,<-z]at lI;exact absurd lI (Nat.not_succ_le_self _)
 have gS:h'.get? S=some o:=grow _ _ NX.g;have key:∀(h:Heap)(c tk:Nat),St 0 h->(∀b o,b≠s.heap.objs.size->h'.get? b=some o->h.get? b=some o)->h.get? s.heap.objs.size=some { cls:=.type "list",data:=.seq #[] c } ->
   codeAny (model prog w) A (.builtin "list.extend.loop" ⟨[.ref s.heap.objs.size,.ref I,.ref s.heap.objs.size],[]⟩) (λ(f:Result)(z:Shared)=>∃(g:Heap)(tk:Nat)(acc:Array Value)(c:Nat),f=.ok (.ret (.ref s.heap.objs.size))/\z={ s with heap:=g,toks:=tk,drawn:=d }/\Grows s.heap g/\g.get? s.heap.objs.size=some { cls:=.type "list",dict:=none,data:=.seq acc c,slots:=#[] }/\ItemsOf (vU Wk) acc es.size) { s with heap:=h,toks:=tk,drawn:=d }:=by
  intro h c tk zV hk hl;refine codeAny_extend_loopS W.toS hz s.heap.objs.size sf _ es.size 0 _ #[] c rfl (zero_le _) zV hl (ItemsOf.nil _) λs' C3 c' hm Ln Qg=>?_;rw[Moved.eq_with hm];refine⟨s'.heap,s'.toks,C3,c',rfl,rfl,λb o' e=>hm.heap b o' (λz=>?_) (hk b o' (ne_of_lt (Heap.lt_size e)) (grow b o' (Heap.get?_push_of_some _ e))),Ln,Qg⟩;rcases mem_cons.mp z with z|z
  ·exact absurd (Heap.lt_size e) (by rw[z];exact lt_irrefl _)
  have:=Heap.lt_size e;rw[mem_singleton.mp z]at this;rw[z1]at lI;exact absurd (Nat.lt_of_succ_le lI) (Nat.lt_asymm this)
 have e2:h'.get? s.heap.objs.size=some { cls:=.type "list",data:=.seq #[] }:=grow _ _ e1;have fin:∀(f:Result)(z:Shared),(∃(g:Heap)(tk:Nat)(acc:Array Value)(c:Nat),f=.ok (.ret (.ref s.heap.objs.size))/\z={ s with heap:=g,toks:=tk,drawn:=d }/\Grows s.heap g/\g.get? s.heap.objs.size=some { cls:=.type "list",dict:=none,data:=.seq acc c,slots:=#[] }/\ItemsOf (vU Wk) acc es.size)->f=.ok (.ret (.ref s.heap.objs.size))/\wpAny (model prog w) A (do
   let l <- load s.heap.objs.size
   match l.data with
   |.seq xs _=>pure xs.toList
   |_=>unsupported "internal:collect") R E z:=by
  rintro f z ⟨g,tk,acc,c,rfl,rfl,hg,hl,ha⟩;refine⟨rfl,f8 (wpAny_load hl (im (q g tk d acc.toList hg (Nat.le_of_lt (Heap.lt_size hl)) ?_)))⟩;refine List.Perm.trans (List.Perm.of_eq ?_) (pm.map (·.2));have wl:Wk.size=es.size:=by have:=pm.length_eq;simpa using this
  refine List.ext_getElem (by rw[length_map,Array.length_toList,Array.length_toList,ha.1,wl]) λi i1 i2=>?_;obtain⟨Wp,e⟩:=ha.2 i acc.toList[i] (by simp at i1;simp[i1]);have iw:i<Wk.size:=(Array.getElem?_eq_some_iff.mp e).1;have e':=(Array.getElem?_eq_some_iff.mp e).2;simp[e']
 refine f8 (wpAny_holding (HY ⟨o,gS,hex.1⟩ ?_));refine wpAny_ite_split (λ_=>?_) (λ_=>im ⟨plainId_quiet PySem.F.plain_extend_loop _,codeAny_mono (key h' 0 s.toks st (λb o _ e=>e) e2) λf z hz=>?_⟩)
 ·refine f8 (wpAny_rule (f8 ?_));refine(show wpAny _ _ (updateSeq s.heap.objs.size (·.push .none) >>= λ_=>updateSeq s.heap.objs.size (·.pop)) _ _ _ from f8 (wpAny_updateSeq e2 rfl ?_));have e3:=Heap.get?_update_self (Obj.mapSeq (·.push Value.none)) e2 rfl;refine wpAny_updateSeq (hz:=by seq_fits) e3 rfl ?_;have e4:=Heap.get?_update_self (Obj.mapSeq (·.pop)) e3 rfl;have SK:∀b o',b≠s.heap.objs.size->h'.get? b=some o'->((h'.update s.heap.objs.size (Obj.mapSeq (·.push Value.none))).update s.heap.objs.size (Obj.mapSeq (·.pop))).get? b=some o':=λb o' nb e=>(Heap.get?_update_other _ _ (Ne.symm nb)).trans ((Heap.get?_update_other _ _ (Ne.symm nb)).trans e);refine im ⟨plainId_quiet PySem.F.plain_extend_loop _,codeAny_mono (key _ _ s.toks (W.frame 0 _ _ st λb hb o' e=>SK b o' (λz=>sf (z▸hb)) e) SK e4) λf z hz=>?_⟩;obtain⟨rfl,x⟩:=fin f z hz;exact x
 obtain⟨rfl,x⟩:=fin f z hz;exact x
theorem Aj(G:List Value->Prop)(LT:List Value->Nat->Nat->Bool)(F9:∀vs,G vs->vs.length<64)(col:∀R:List Value->Shared->Prop,(∀(vs:List Value)(h':Heap)(tk:Tok)(d:_),G vs->Grows s.heap h'->s.heap.objs.size<=h'.objs.size->R vs { s with heap:=h',toks:=tk,drawn:=d })->wpAny (model prog w) A.in1 (collect x) R E s)(S:∀vs,G vs->∃κ,nW prog w A.in1.in1 s.heap vs (LT vs) κ)(q:∀(vs:List Value)(p:Array Nat)(h':Heap)(tk:Tok)(d:_)(e:Nat)(l:Addr),G vs->m9 vs.length p->zb (LT vs) p vs.length->Grows s.heap h'->s.heap.objs.size<=l->h'.get? l=some (seqObj "list" (eR vs p).toArray e)->Q (.ref l) { s with heap:=h',toks:=tk,drawn:=d }):
  wpAny (model prog w) A (call (.builtin "sorted") [x]) Q E s:=by
 refine Calls.call_function_entry kind_sorted plain_sorted entry_sorted (args_sorted1 _) ?_;unfold Builtin.«sorted»;refine f8 (m:=checkCount "sorted" 1 1 _) (im (f8 (col _ λvs h' tk d hG g hz=>?_)));have hv:=F9 vs hG;obtain⟨κ,S⟩:=S vs hG;refine f8 (wpAny_newList ?_ (by rw[sizeLine_eq];lia));have CJ:(h'.push (seqObj "list" vs.toArray 0)).get? h'.objs.size=some (seqObj "list" vs.toArray 0):=Heap.get?_push_size _ rfl;refine(show wpAny _ _ _ _ _ { s with heap:=h'.push (seqObj "list" vs.toArray 0),toks:=tk,drawn:=d }from ?_);refine f8 (wpAny_holding (wpAny_call_entry slot_list_sort ⟨_,CJ,rfl⟩ entry_list_sort (js (h:=s.heap) CJ (λb o e=>⟨λz=>absurd (Heap.lt_size e) (by rw[z];exact Nat.not_lt.mpr hz),Heap.get?_push_of_some _ (g b o e)⟩) S hv λp hp ap=>⟨_,rfl,?_⟩) (args_list_sort _)))
 obtain⟨e,he⟩:∃e,(sortedHeap (h'.push (seqObj "list" vs.toArray 0)) h'.objs.size vs (eR vs p).toArray).get? h'.objs.size=some (seqObj "list" (eR vs p).toArray e):=by unfold sortedHeap;obtain⟨e1,z1⟩:∃e1,((h'.push (seqObj "list" vs.toArray 0)).update h'.objs.size (Obj.mapSeq λ_=>#[])).get? h'.objs.size=some (seqObj "list" #[] e1):=⟨_,get?_update_seq CJ (λ_=>#[])⟩;exact⟨_,get?_update_seq (Heap.get?_push_of_some _ (Heap.get?_push_of_some _ z1)) _⟩
 refine im ⟨_,rfl,q vs p _ tk d e _ hG hp ap (λb o z=>?_) hz he⟩;have nb:b≠h'.objs.size:=λy=>absurd (Heap.lt_size z) (by rw[y];exact Nat.not_lt.mpr hz);unfold sortedHeap;rw[(Heap.SameBut.update _ h'.objs.size (Obj.mapSeq λ_=>(eR vs p).toArray)).2 b nb];refine Heap.get?_push_of_some _ (Heap.get?_push_of_some _ ?_);rw[(Heap.SameBut.update _ h'.objs.size (Obj.mapSeq λ_=>(#[]:Array Value))).2 b nb];exact Heap.get?_push_of_some _ (g b o z)
end
theorem Inv.drew(I:Inv X io σ H s)(d):Inv X io σ H { s with drawn:=d }:=by cases I;constructor<;>assumption
def gy(P:Program)(w:World)(a:Addr)(ks:List Key):HO:=.ext λh=>o3 (aY P w) h a (jU ks) (dd ks).length
section
def JR(P:Program)(w:World)(K:W.Frag):List V->Hp->VK->Prop:=λxs H Q=>∃(p:Addr)(ks:List Key),xs=[.ref p]/\(aV K H p (ks.map kV)\/ab K H p (ks.map kV))/\ks.length+1<scanBound/\∀q,H q=none->Q (.ref q) (upd H q (gy P w q ks.reverse))
theorem DA(K:W.Frag)(hK:X.K=K:=by rfl)(hc:X.calm=true:=by rfl):cH X (.type "set") (JR X.prog X.w K):=by
 subst hK;intro io s σ H xs us Q I r h;obtain⟨p,ks,rfl,hs,hb,q⟩:=h;obtain⟨u,rfl,rx⟩:=vals1 r;cases rx;have hn:H s.heap.objs.size=none:=I.bE.fresh (le_refl _);have fin:∀(h':Heap)(tk:Nat),o3 (aY X.prog X.w) h' s.heap.objs.size (jU ks.reverse) (dd ks.reverse).length->(∀b o,s.heap.get? b=some o->h'.get? b=some o)->EP X io σ Q (.ref s.heap.objs.size) { s with heap:=h',toks:=tk }:=by intro h' tk hS kp;have e0:=hS;obtain⟨o,_,_,_,ho,_⟩:=e0;exact⟨.ref s.heap.objs.size,_,I.laid (o:=gy X.prog X.w s.heap.objs.size ks.reverse) kp (le_refl _) ⟨hS,⟨o,ho⟩,λh1 h2 ⟨o,es,ep,t,ho,rr⟩ hk=>⟨o,es,ep,t,hk _ ho,rr⟩⟩,rfl,q _ hn⟩
 rcases hs with hs|hs
 ·obtain⟨aS,rv,pl,hz⟩:=I.list hs;have hl:=rv.length;rw[length_map]at hl;exact qm (I.ok.hd hc) (.inl ⟨rfl,pl.isList⟩) rv (by lia) fin
 obtain⟨aS,rv,pl,hz⟩:=I.tuple hs;have hl:=rv.length;rw[length_map]at hl;exact qm (I.ok.hd hc) (.inr ⟨rfl,pl⟩) rv (by lia) fin
theorem Bs:∀(ks:List Key),(dd ks).Nodup
 |[]=>List.nodup_nil
 |k::ks=>by
  unfold dd;by_cases c:jU ks k=true
  ·rw[if_pos c];exact Bs ks
  rw[if_neg c];exact List.nodup_cons.mpr ⟨λz=>c (jV.mpr (wU.mp z)),Bs ks⟩
end
section
open PySem.W
def intOf:Value->Int
 |.int n _=>n
 |_=>0
theorem yx:∀{vs:List Value},(∀v∈vs,∃n t,v=Value.int n t)->ae ((vs.map intOf).map V.int) vs
 |[],_=>.nil
 |v::vs,h=>by obtain⟨n,t,rfl⟩:=h v mem_cons_self;exact .cons ⟨t,rfl⟩ (yx λu hu=>h u (mem_cons_of_mem _ hu))
theorem yy{α:Type}[DecidableEq α]:∀(l m:List α),l.Nodup->(∀x∈l,x∈m)->m.length<=l.length->l.Perm m
 |[],m,_,_,h=>by have:m=[]:=List.length_eq_zero_iff.mp (by simpa using h);rw[this]
 |a::l,m,nd,sub,h=>by
  obtain⟨n1,n2⟩:=List.nodup_cons.mp nd;have am:=sub a mem_cons_self;have pe:=List.perm_cons_erase am;refine(List.Perm.cons a (yy l (m.erase a) n2 (λx hx=>?_) ?_)).trans pe.symm
  ·exact(List.mem_erase_of_ne (λe=>n1 (by rw[<-e];exact hx))).mpr (sub x (mem_cons_of_mem _ hx))
  rw[List.length_erase_of_mem am];simp at h;lia
def JS(P:Program)(w:World):List V->Hp->VK->Prop:=λxs H Q=>∃(p:Addr)(ns:List Int),xs=[.ref p]/\H p=some (gy P w p (ns.map Sum.inl).reverse)/\(dd (ns.map Sum.inl).reverse).length<64/\∀(ys:List Int)(q:Addr),ys.Pairwise (·<·)->(∀x,x∈ys↔x∈ns)->H q=none->Q (.ref q) (upd H q (.lst (ys.map V.int)))
theorem w8(hu:X.A.units+16<cLine)(hc:X.calm=true:=by rfl):cH X (.builtin "sorted") (JS X.prog X.w):=by
 intro io s σ H xs us Q I r h;obtain⟨S,ns,rfl,hp,F9,q⟩:=h;obtain⟨u,rfl,rx⟩:=vals1 r;cases rx;obtain⟨⟨o,es,ep,t,ho,hex,hd,Ae,rF,hb,hf,hn,tk⟩,_⟩:=I.bE S _ hp;have hS:uV s.heap S o es ep t:=⟨ho,hd,hf⟩;have hz:es.size<=sizeLine:=fits_of_scanBound hb;have Iq:∀{k:Key},k∈(ns.map Sum.inl).reverse↔∃n∈ns,Sum.inl n=k:=λ{k}=>by rw[List.mem_reverse,List.mem_map]
 have one:∀v∈es.toList.map (·.2),∃n t,v=Value.int n t/\n∈ns:=λv hv=>by obtain⟨e,he,rfl⟩:=List.mem_map.mp hv;obtain⟨⟨k,hk,_⟩,_⟩:=Ae e he;have:=jV.mp ((rF k).mpr ⟨e,he,hk⟩);obtain⟨n,DZ,rfl⟩:=Iq.mp this;obtain⟨t,et⟩:=(show ∃t,e.2=Value.int n t from wQ hk);exact⟨n,t,et,DZ⟩
 have all:∀n∈ns,∃t,Value.int n t∈es.toList.map (·.2):=λn DZ=>by obtain⟨e,he,hk⟩:=(rF (Sum.inl n)).mp (jV.mpr (Iq.mpr ⟨n,DZ,rfl⟩));obtain⟨t,et⟩:=(show ∃t,e.2=Value.int n t from wQ hk);exact⟨t,by rw[<-et];exact List.mem_map.mpr ⟨e,he,rfl⟩⟩
 have facts:∀vs:List Value,vs.Perm (es.toList.map (·.2))->ae ((vs.map intOf).map V.int) vs/\vs.length<64/\(∀x,x∈vs.map intOf↔x∈ns)/\(vs.map intOf).Nodup:=λvs hv=>by
  have h1:∀v∈vs,∃n t,v=Value.int n t/\n∈ns:=λv h=>one v (hv.mem_iff.mp h);have hl:vs.length=(dd (ns.map Sum.inl).reverse).length:=by rw[hv.length_eq,length_map,Array.length_toList,hn]
  have mem:∀x,x∈vs.map intOf↔x∈ns:=λx=>by
   constructor
   ·intro h;obtain⟨v,mr,rfl⟩:=List.mem_map.mp h;obtain⟨n,t,rfl,DZ⟩:=h1 v mr;exact DZ
   intro h;obtain⟨t,ht⟩:=all x h;exact List.mem_map.mpr ⟨_,hv.mem_iff.mpr ht,rfl⟩
  refine⟨yx λv h=>let⟨n,t,e,_⟩:=h1 v h;⟨n,t,e⟩,by lia,mem,?_⟩;have sub:∀k∈dd (ns.map Sum.inl).reverse,k∈(vs.map intOf).map (Sum.inl:Int->Key):=λk hk=>by obtain⟨n,DZ,rfl⟩:=Iq.mp (wU.mp hk);exact List.mem_map.mpr ⟨n,(mem n).mpr DZ,rfl⟩
  have pm:(dd (ns.map Sum.inl).reverse).Perm ((vs.map intOf).map (Sum.inl:Int->Key)):=yy _ _ (Bs _) sub (by rw[length_map,length_map,hl];exact le_refl _);have nd:=pm.nodup_iff.mp (Bs _);exact(List.pairwise_map.mp nd).imp λh e=>h (by rw[e])
 have SB:∀vs,vs.Perm (es.toList.map (·.2))->∃κ,nW X.prog X.w X.A.in1.in1 s.heap vs (λi j=>bf (((vs.map intOf).map PyData.int).getD i .none) (((vs.map intOf).map PyData.int).getD j .none)) κ:=λvs hv=>by
  obtain⟨rv,U1,_,_⟩:=facts vs hv;refine lK (by rw[length_map,length_map]) (λj hj=>?_) (λd uA=>by obtain⟨n,_,rfl⟩:=List.mem_map.mp uA;rfl) (λd uA=>by obtain⟨n,_,rfl⟩:=List.mem_map.mp uA;exact zero_le _) (Bl _) (by show X.A.units+1+1+12<cLine;lia);obtain⟨x,h1,h2⟩:=rv.back (getElem?_eq_getElem hj);rw[getElem?_map]at h1;cases en:(vs.map intOf)[j]? with
  |none=>rw[en]at h1;cases h1
  |some n =>
   rw[en]at h1;obtain rfl:V.int n=x:=Option.some.inj h1;obtain⟨t,ht⟩:=h2;have er:((vs.map intOf).map PyData.int).getD j .none=.int n:=(by rw[getD_eq_getElem?_getD,getElem?_map,en];rfl);rw[ht,er];exact⟨_,.int n t⟩
 refine Aj (λvs=>vs.Perm (es.toList.map (·.2))) _ (λvs hv=>(facts vs hv).2.1) (λR k=>yw hS hex tk hz (by simp[I.ok.hd hc]) λg tk d vs hg hz hv=>k vs g tk d hv hg hz) SB λvs p h' tk d e l hv GB ap g Ku hl=>?_;obtain⟨rv,U1,mem,nd⟩:=facts vs hv;have ml:(vs.map intOf).length=vs.length:=length_map ..;generalize vs.map intOf=ms at ap rv mem nd ml;obtain⟨z1,z2⟩:=lL GB ap ms ml (0:Int) (λx y=>x<=y) (λi j hi hj h0=>by
  have wZ:i<ms.length:=by lia
  have Gz:j<ms.length:=by lia
  simp[wZ,Gz,bf]at h0
  simpa[wZ,Gz]using h0)
 have Bk:∀i∈p.toList,i<(ms.map V.int).length:=by
  intro i hi;have:=(Array.perm_iff_toList_perm.mp GB.pm).mem_iff.mp hi;have:i<vs.length:=by simpa using this
  rw[length_map];lia
 have rp:=rv.pick p.toList Bk;have ev:(p.toList.map λi=>(ms.map V.int).getD i V.bu)=(p.toList.map λi=>ms.getD i 0).map V.int:=by rw[List.map_map];refine List.map_congr_left λi hi=>?_;have wZ:=Bk i hi;rw[length_map]at wZ;show(ms.map V.int).getD i V.bu=V.int (ms.getD i 0);rw[getD_eq_getElem?_getD,getD_eq_getElem?_getD,getElem?_map,getElem?_eq_getElem wZ];rfl
 rw[ev]at rp;have strict:(p.toList.map λi=>ms.getD i 0).Pairwise (·<·):=(z2.and (z1.nodup_iff.mpr nd)).imp λ⟨a,b⟩=>by lia
 refine⟨.ref l,_,(I.drew d).laid (t':=tk) (o:=.lst ((p.toList.map λi=>ms.getD i 0).map V.int)) (λb o eb=>g b o eb) Ku ⟨by rw[length_map,length_map,Array.length_toList,GB.sz,sizeLine_eq];lia,_,e,rp,hl⟩,rfl,q _ _ strict (λx=>z1.mem_iff.trans (mem x)) (I.bE.fresh Ku)⟩
theorem jY(P:Program)(w:World)(K:W.Frag)(hP:X.prog=P:=by rfl)(hw:X.w=w:=by rfl)(hK:X.K=K:=by rfl)(hc:X.calm=true:=by rfl):cH X (.type "set") (JR P w K):=by subst hP hw;exact DA K hK hc
theorem o5(P:Program)(w:World)(hu:X.A.units+16<cLine)(hP:X.prog=P:=by rfl)(hw:X.w=w:=by rfl)(hc:X.calm=true:=by rfl):cH X (.builtin "sorted") (JS P w):=by subst hP hw;exact w8 hu hc
end
section
def Nb(P:Program)(w:World):List V->Hp->VK->Prop:=λxs H Q=>∃(p:Addr)(ks:List Key),xs=[.ref p]/\H p=some (gy P w p ks)/\Q (.int (dd ks).length) H
theorem qF(P:Program)(w:World)(hP:X.prog=P:=by rfl)(hw:X.w=w:=by rfl):cH X (.builtin "len") (Nb P w):=by
 subst hP hw;intro io s σ H xs us Q I r h;obtain⟨p,ks,rfl,hp,q⟩:=h;obtain⟨u,rfl,rx⟩:=vals1 r;cases rx;obtain⟨⟨o,es,ep,t,ho,hex,hd,Ae,rF,hb,hf,hn,_⟩,_⟩:=I.bE p _ hp;refine PySem.call_len_set ho hex hd hf ?_ ⟨.int _,H,I.tok _,⟨_,by rw[hn]⟩,q⟩;have:scanBound<2 ^ 63:=by decide
 lia
end
end L2
set_option genInjectivity false
namespace K51
open PySem L2 PyProof.Rows
theorem zz0:0<=sizeLine:=by decide
theorem zz1:1<=sizeLine:=by decide
theorem zz2:2<=sizeLine:=by decide
theorem zz3:3<=sizeLine:=by decide
theorem zz4:4<=sizeLine:=by decide
theorem zz6:6<=sizeLine:=by decide
theorem zz8:8<=sizeLine:=by decide
def top(i:Nat):Stmt:=PySem.Challenge.pw_stormpost_k51_answers_judged.main.body.getD i (.Pass ⟨0,0,0,0⟩)
abbrev ju:Stmt:=top 6
abbrev gG:Stmt:=top 8
abbrev gH:Stmt:=top 9
abbrev eC:Stmt:=top 10
abbrev iX:Stmt:=top 11
abbrev lM:Stmt:=top 12
abbrev gI:Stmt:=top 13
abbrev eE:Stmt:=top 14
abbrev cx:Stmt:=top 15
abbrev iY:Stmt:=top 16
abbrev bQ:Stmt:=top 17
abbrev eF:Stmt:=top 18
abbrev gJ:Stmt:=top 19
abbrev gK:Stmt:=top 27
abbrev fJ:Stmt:=top 28
abbrev fK:Stmt:=top 29
abbrev gM:Stmt:=top 31
abbrev iZ:Stmt:=top 32
abbrev de:Stmt:=top 33
abbrev ia:Stmt:=top 34
abbrev eG:Stmt:=top 37
abbrev gN:Stmt:=top 38
abbrev gO:Stmt:=top 39
abbrev cU:Stmt:=top 40
abbrev ib:Stmt:=top 41
abbrev df:Stmt:=top 42
abbrev gz:Stmt:=top 43
abbrev gQ:Stmt:=top 44
abbrev jv:Stmt:=top 45
abbrev dg:Stmt:=top 46
abbrev dO:Stmt:=top 47
abbrev bq:Stmt:=top 48
abbrev bF:Stmt:=top 49
abbrev jx:Stmt:=top 50
abbrev bC:Stmt:=top 51
abbrev bY:Stmt:=top 52
abbrev cV:Stmt:=top 53
abbrev fL:Stmt:=top 54
abbrev vW:Stmt:=top 55
def mW:Stmt->List Stmt
 |.ClassDef _ _ _ b _ _ _ _ _ _ _=>b
 |_=>[]
abbrev qG:Stmt:=(mW (top 35)).getD 0 (.Pass ⟨0,0,0,0⟩)
abbrev qH:Stmt:=(mW (top 35)).getD 1 (.Pass ⟨0,0,0,0⟩)
abbrev nZ:Stmt:=(mW (top 35)).getD 2 (.Pass ⟨0,0,0,0⟩)
abbrev mX:Stmt:=(mW (top 35)).getD 3 (.Pass ⟨0,0,0,0⟩)
abbrev o6:Stmt:=(mW (top 35)).getD 4 (.Pass ⟨0,0,0,0⟩)
abbrev xA:Stmt:=(mW (top 35)).getD 5 (.Pass ⟨0,0,0,0⟩)
structure Ad where
 BadNews:Addr
 Map:Addr
 init:Addr
 sv:Addr
 tE:Addr
 o7:Addr
 y4:Addr
 E3:Addr
structure Txt(K:W.Frag)(mg:Str->Option Value)(t:Ad):Prop where
 Ha:∃tk,mg "HOUSES"=some (.int 32 tk)
 GC:∃tk,mg "LONGEST_NAME"=some (.int 4 tk)
 y6:∃tk,mg "MOST_BIRTH"=some (.int 9000 tk)
 y8:∃tk,mg "MOST_NAMES"=some (.int 4 tk)
 Ak:∃tk,mg "MOST_NEAR"=some (.int 5 tk)
 xB:∃tk,mg "MOST_NUMBER"=some (.int 900000 tk)
 y9:∃tk,mg "MOST_QUIET"=some (.int 10 tk)
 Nf:mg "abs"=none
 Ng:mg "all"=none
 Nh:mg "any"=none
 Kv:mg "bool"=none
 Kw:mg "dict"=none
 Ni:mg "int"=none
 xC:mg "isinstance"=none
 eT:mg "len"=none
 tF:mg "list"=none
 E4:mg "max"=none
 Bt:mg "min"=none
 fM:mg "range"=none
 zA:mg "set"=none
 cE:mg "sorted"=none
 mY:mg "tuple"=none
 Nj:mg "zip"=none
 Nk:mg "BadNews"=some (.ref t.BadNews)
 Qh:mg "Map"=some (.ref t.Map)
 Nl:W.excIn K t.BadNews [.type "ValueError",.type "Exception",.type "BaseException",.type "object"] "ValueError.__new__"=true
 Nm:nU K t.BadNews
 Qi:Mk K t.Map t.init
 fi:∃fd,uM K "__init__" "Map.__init__" qG t.init fd
 uW:D0 K t.Map
 eY:nP K t.Map "latest"
 Hb:yH K t.Map "hear" t.sv
 Kx:∃fd,uM K "hear" "Map.hear" qH t.sv fd
 Hc:yH K t.Map "news" t.tE
 Ky:∃fd,uM K "news" "Map.news" nZ t.tE fd
 E5:yH K t.Map "wires" t.o7
 Hd:∃fd,uM K "wires" "Map.wires" mX t.o7 fd
 Lv:yH K t.Map "holder" t.y4
 Nn:∃fd,uM K "holder" "Map.holder" o6 t.y4 fd
 Of:yH K t.Map "copy" t.E3
 Qj:∃fd,uM K "copy" "Map.copy" xA t.E3 fd
 He:W.kitOne K (.type "int") (.type "bool")=some false
 uX:W.kitOne K (.type "bool") (.type "bool")=some true
section
variable{P:Program}{w:World}{K:W.Frag}{mg:Str->Option Value}{base:Heap}{t:Ad}
variable{xs:List V}{S rs:List Addr}{H H' H0:Hp}{i many:Nat}{x house goal cw one other:Int}{ds:List PyData}{p:Int×Int}{D C nl hl:Addr}{Q:VK}{ns ws os rX dh:List Int}{fd fw:FuncData}{L L':List (Tk×Int)}{ps:List (Int×Int)}{lw:List (Key×V)}{vs:List (List Int)}{E:XK}
theorem Hf{hi:Int}(h2:0<=hi):kq xs none (some hi)=xs.take hi.toNat:=by
 unfold kq;obtain⟨b,rfl⟩:=Int.eq_ofNat_of_zero_le h2;rw[HT.BS,HT.yK,Int.toNat_natCast,List.drop_zero,Nat.sub_zero];by_cases g:b<=xs.length
 ·rw[Nat.min_eq_left g]
 rw[Nat.min_eq_right (by lia),take_length,List.take_of_length_le (by lia)]
theorem rY{lo:Int}(h1:0<=lo):kq xs (some lo) none=xs.drop lo.toNat:=by
 unfold kq;obtain⟨a,rfl⟩:=Int.eq_ofNat_of_zero_le h1;rw[HT.BS,HT.yK,Int.toNat_natCast];by_cases h:a<=xs.length
 ·rw[Nat.min_eq_left h,List.take_of_length_le (by rw[List.length_drop];lia)]
 rw[Nat.min_eq_right (by lia),List.drop_length,List.drop_of_length_le (by lia),List.take_nil]
def nc(S:List Addr)(H H':Hp):Prop:=∀b o,b∉S->H b=some o->H' b=some o
theorem nc.refl:nc S H H:=λ_ _ _ e=>e
theorem nc.upd{S:List Addr}{H H':Hp}{p:Addr}{o:HO}(m:nc S H H')(h:p∈S\/H p=none):nc S H (upd H' p o):=λb u n e=>by rw[aM (λz=>by rw[z]at n e;exact h.elim n λy=>by rw[y]at e;cases e)];exact m b u n e
def Og(n:Int):Prop:=0<=n/\n<32
def Dh(n:Int):Prop:=n.natAbs<2 ^ 1000
theorem Dh.of{n:Int}(h:-(10 ^ 60)<=n)(h2:n<=10 ^ 60):Dh n:=Gh h h2
def lN:Sp:=λvs H Q _=>∃n:Int,vs=[.int n]/\Q (.bl (decide (0<=n/\n<32))) H
theorem ad{N P:List Str}{sc:Scope}(a:sc.kind=.function:=by rfl)(b:sc.isCoroutine=false:=by rfl)(c:sc.isGenerator=false:=by rfl)(d:N.Nodup:=by decide +kernel)(e:N.take P.length=P:=by rfl)(f:∀x∈P,sc.names.lookup x=some .local\/sc.names.lookup x=some .cell:=by decide +kernel)(g:∀y∈sc.names,y.2≠.free:=by decide +kernel):aU N P sc:=⟨a,b,c,d,e,f,g⟩
theorem zB:aU ["number"] ["number"] (aI ju):=ad
theorem bm{α:Type}{f g:List Value->α}(h:∀a0,f [a0]=g [a0]):∀us:List Value,us.length=1->f us=g us
 |[a0],_=>h a0
theorem bn{α:Type}{f g:List Value->α}(h:∀a0 a1,f [a0,a1]=g [a0,a1]):∀us:List Value,us.length=2->f us=g us
 |[a0,a1],_=>h a0 a1
theorem bv{α:Type}{f g:List Value->α}(h:∀a0 a1 a2,f [a0,a1,a2]=g [a0,a1,a2]):∀us:List Value,us.length=3->f us=g us
 |[a0,a1,a2],_=>h a0 a1 a2
theorem ce{α:Type}{f g:List Value->α}(h:∀a0 a1 a2 a3,f [a0,a1,a2,a3]=g [a0,a1,a2,a3]):∀us:List Value,us.length=4->f us=g us
 |[a0,a1,a2,a3],_=>h a0 a1 a2 a3
theorem cr{α:Type}{f g:List Value->α}(h:∀a0 a1 a2 a3 a4,f [a0,a1,a2,a3,a4]=g [a0,a1,a2,a3,a4]):∀us:List Value,us.length=5->f us=g us
 |[a0,a1,a2,a3,a4],_=>h a0 a1 a2 a3 a4
theorem db{α:Type}{f g:List Value->α}(h:∀a0 a1 a2 a3 a4 a5,f [a0,a1,a2,a3,a4,a5]=g [a0,a1,a2,a3,a4,a5]):∀us:List Value,us.length=6->f us=g us
 |[a0,a1,a2,a3,a4,a5],_=>h a0 a1 a2 a3 a4 a5
theorem dL{α:Type}{f g:List Value->α}(h:∀a0 a1 a2 a3 a4 a5 a6,f [a0,a1,a2,a3,a4,a5,a6]=g [a0,a1,a2,a3,a4,a5,a6]):∀us:List Value,us.length=7->f us=g us
 |[a0,a1,a2,a3,a4,a5,a6],_=>h a0 a1 a2 a3 a4 a5 a6
theorem zC(F:aN K mg "is_house" ju)(T:Txt K mg t):Def P w K mg base 1 "is_house" ["number"] lN:=by
 refine F.def zB (λ_ _ _ _ _ _=>bm λ_=>rfl) (λvs H Q E h=>?_) (λf bj A outer s H vs Q E hr h=>?_)
 ·obtain⟨n,rfl,_⟩:=h;rfl
 obtain⟨n,rfl,q⟩:=h;refine⟨_,aG (aX (Du BQ lE aD (pv 0) (mO T.Ha))),?_⟩;refine⟨_,rfl,_,_,rfl,rfl,_,rfl,?_⟩;by_cases h0:0<=n
 ·rw[decide_eq_true h0];refine eO ⟨_,_,rfl,rfl,?_⟩;have e:decide (n<32)=decide (0<=n/\n<32):=by simp[h0]
  show Q (.bl (decide (n<32))) H;rw[e];exact q
 rw[decide_eq_false h0];refine gf ?_;have e:false=decide (0<=n/\n<32):=by simp[h0]
 show Q (.bl false) H;rw[e];exact q
def iz(C:Addr):Sp:=λvs H Q E=>∃n:Int,vs=[.int n]/\Dh n/\(Og n->Q .bu H)/\(¬Og n->False)
theorem uY:aU ["number"] ["number"] (aI gK):=ad
theorem uZ(F:aN K mg "look_house" gK)(T:Txt K mg t)(eZ:Def P w K mg base 1 "is_house" ["number"] lN):Def P w K mg base 2 "look_house" ["number"] (iz t.BadNews):=by
 refine F.def uY (λ_ _ _ _ _ _=>bm λ_=>rfl) (λvs H Q E h=>?_) (λf bj A outer s H vs Q E hr h=>?_)
 ·obtain⟨n,rfl,_⟩:=h;rfl
 obtain⟨n,rfl,hm,q1,q2⟩:=h;refine⟨_,aG (au (k9 (ij (aa (eZ.mono (by decide)) hr av (aA (pv 0) aE))))
   (aG (vJ))
   (aZ)),?_⟩
 have sl:(5000:Nat)<=sizeLine:=by decide
 refine⟨_,rfl,n,rfl,_,rfl,?_⟩;by_cases h0:0<=n/\n<32
 ·rw[decide_eq_true h0];exact gf (q1 h0)
 rw[decide_eq_false h0];exact eO (q2 h0)
def g8(C:Addr):Sp:=λvs H Q E=>∃n lo hi:Int,vs=[.int n,.int lo,.int hi]/\Dh n/\Dh lo/\Dh hi/\(lo<=n/\n<=hi->Q .bu H)/\(¬(lo<=n/\n<=hi)->False)
theorem tG:aU ["number","least","most"] ["number","least","most"] (aI fJ):=ad
theorem tH(F:aN K mg "look_bounds" fJ)(T:Txt K mg t):Def P w K mg base 1 "look_bounds" ["number","least","most"] (g8 t.BadNews):=by
 refine F.def tG (λ_ _ _ _ _ _=>bv λ_ _ _=>rfl) (λvs H Q E h=>?_) (λf bj A outer s H vs Q E hr h=>?_)
 ·obtain⟨n,lo,hi,rfl,_⟩:=h;rfl
 obtain⟨n,lo,hi,rfl,hn,Tw,Wq,q1,q2⟩:=h;refine⟨_,aG (au (k9 (Dv BQ BQ (pv 1) (pv 0) (pv 2)))
   (aG (vJ))
   (aZ)),?_⟩
 have sl:(5000:Nat)<=sizeLine:=by decide
 refine⟨_,rfl,_,rfl,_,_,rfl,rfl,_,rfl,?_⟩;by_cases h1:lo<=n
 ·refine bx h1 ?_;refine⟨_,rfl,_,_,rfl,rfl,_,rfl,?_⟩;by_cases h2:n<=hi
  ·rw[decide_eq_true h2];exact gf (q1 ⟨h1,h2⟩)
  rw[decide_eq_false h2];exact eO (q2 λz=>h2 z.2)
 refine cB h1 ?_;exact⟨_,rfl,eO (q2 λz=>h1 z.1)⟩
theorem gT{α:Type}{l:List α}:l.reverse.Nodup↔l.Nodup:=by unfold List.Nodup;rw[List.pairwise_reverse];exact⟨λh=>h.imp λe z=>e z.symm,λh=>h.imp λe z=>e z.symm⟩
def g9(K:W.Frag)(C:Addr):Sp:=λvs H Q E=>∃(b:Bool)(l:Addr)(ks:List Key)(m:Int),vs=[.ref l,.int m]/\zY b K H l (ks.map kV)/\ks.length<=1000/\0<=m/\m<=1000 /\
 ((ks.length:Int)<=m/\ks.Nodup->∀H',aH H H'->Q .bu H')/\(¬((ks.length:Int)<=m/\ks.Nodup)->False)
theorem tI:aU ["things","most"] ["things","most"] (aI fK):=ad
theorem tJ(F:aN K mg "look_unlike" fK)(T:Txt K mg t):Def P w K mg base 1 "look_unlike" ["things","most"] (g9 K t.BadNews):=by
 refine F.def tI (λ_ _ _ _ _ _=>bn λ_ _=>rfl) (λvs H Q E h=>?_) (λf bj A outer s H vs Q E hr h=>?_)
 ·obtain⟨b,l,ks,m,rfl,_⟩:=h;rfl
 obtain⟨b,l,ks,m,rfl,hl,hk,m0,m1,q1,q2⟩:=h;refine⟨_,aF (au (aL mq (aT (bL K) (by rfl) T.eT boot_len (aA (pv 0) aE)) (pv 1) (aQ _))
   (aG (vJ))
   (aZ))
  (aG (au (aL mm (aT (qF P w) (by rfl) T.eT boot_len (aA (bB (jY P w K) (by rfl) T.zA boot_set (aA (pv 0) aE)) aE)) (aT (bL K) (by rfl) T.eT boot_len (aA (pv 0) aE)) (aQ _))
   (aG (vJ))
   (aZ))),?_⟩
 have sl:(5000:Nat)<=sizeLine:=by decide
 refine⟨_,rfl,l,_,rfl,hl.or,_,rfl,_,_,rfl,rfl,_,rfl,?_⟩;rw[length_map];have sb:2000<scanBound:=by decide
 by_cases h1:m<(ks.length:Nat)
 ·exact bx h1 (q2 λr=>by have:=r.1;lia)
 refine cB h1 ?_;refine⟨_,rfl,l,ks,rfl,hl.or,by lia,λp hp=>?_⟩;have s1:=(aH.refl H).new (o:=gy P w p ks.reverse) hp;refine⟨p,_,rfl,aC,_,rfl,l,_,rfl,(hl.same s1).or,rfl,_,rfl,?_⟩;rw[length_map];by_cases h2:ks.Nodup
 ·have e:=(gs ks.reverse).mpr (gT.mpr h2);rw[List.length_reverse]at e;refine fz (by rw[e]) ?_;exact q1 ⟨by lia,h2⟩ _ s1
 refine gh (λe=>h2 (gT.mp ((gs ks.reverse).mp (by have:=V.int.inj e;rw[List.length_reverse];lia)))) ?_;exact q2 λr=>h2 r.2
def Qk(c:Nat):Prop:=97<=c/\c<=122
instance (c:Nat):Decidable (Qk c):=by unfold Qk;infer_instance
def Kz(cs:List Nat):Prop:=(1<=cs.length/\cs.length<=4)/\∀c∈cs,Qk c
instance (cs:List Nat):Decidable (Kz cs):=by unfold Kz;infer_instance
def Ql(cs:List Nat):V:=.str (wR cs)
def Np(ns:List (List Nat)):Prop:=ns.length<=4/\ns.Nodup/\∀n∈ns,Kz n
def nA(K:W.Frag)(C:Addr):Sp:=λvs H Q _=>∃(b:Bool)(l:Addr),vs=[.ref l]/\zY b K H l []/\∀H',aH H H'->Q .bu H'
theorem nB:aU ["names","name"] ["names"] (aI gM):=ad
theorem ua(F:aN K mg "look_names" gM)(T:Txt K mg t)(cW:Def P w K mg base 1 "look_unlike" ["things","most"] (g9 K t.BadNews)):Def P w K mg base 2 "look_names" ["names"] (nA K t.BadNews):=by
 refine F.def nB (λ_ _ _ _ _ _=>bm λ_=>rfl) (λvs H Q E h=>?_) (λf bj A outer s H vs Q E hr h=>?_)
 ·obtain⟨b,l,rfl,_⟩:=h;rfl
 obtain⟨b,l,rfl,hl,q⟩:=h;refine⟨_,aF (bM (aa (cW.mono (by decide)) hr av (aA (pv 0) (aA (mO T.y8) aE))))
  (aG (PS.uI (bW PassesOwn.never rfl (Bj K (pv 0)) (aO (i:=1) nB.nd rfl (Or.inl rfl))
   (aG (au (k9 (ij (Mz)))
    (aG (vJ))
    (aZ)))))),?_⟩
 refine⟨_,rfl,b,l,[],4,rfl,hl,by decide,by decide,by decide,λ_ H1 s1=>?_,λz=>z ⟨by decide,List.Pairwise.nil⟩⟩;have GA:=hl.same s1;refine⟨_,rfl,b,l,_,rfl,GA,G7 (b:=b) (K:=K) (a:=l) (xs:=[]) (λi σ H'=>aH H1 H') (aH.refl _) (λi σ H' _ e=>GA.same e) (λi y σ H' hi _=>by cases hi) ?_⟩;exact λσ H' s2=>q _ (s1.trans s2)
structure Wr where
 o:Int
 q:Int
 a:Int
 b:Int
def qI(w:Wr):PyData:=.tuple [.int w.o,.int w.q,.tuple [.int w.a,.int w.b]]
def Al(w:Wr):Prop:=Og w.o/\(1<=w.q/\w.q<=10)/\(1<=w.a/\w.a<=9000)/\(1<=w.b/\w.b<=9000)
def Oh(w:Wr):Prop:=Dh w.o/\Dh w.q/\Dh w.a/\Dh w.b
theorem Al.U2{w:Wr}(h:Al w):Oh w:=⟨.of (by have:=h.1.1;lia) (by have:=h.1.2;lia),.of (by have:=h.2.1.1;lia) (by have:=h.2.1.2;lia),.of (by have:=h.2.2.1.1;lia) (by have:=h.2.2.1.2;lia),.of (by have:=h.2.2.2.1;lia) (by have:=h.2.2.2.2;lia)⟩
theorem o9{n:Nat}{v:V}{i:Int}(h:ar K H n v (.int i)):v=.int i:=by cases h;rfl
theorem Qm{n:Nat}{v:V}{x:Str}(h:ar K H n v (.str x)):v=.str x:=by cases h;rfl
theorem xD{n:Nat}{v:V}(h:ar K H (n+1) v (.tuple ds)):∃a xs,v=.ref a/\ab K H a xs/\xs.length=ds.length/\∀(i:Nat)(x:V)(d:PyData),xs[i]?=some x->ds[i]?=some d->ar K H n x d:=by
 cases h with
 |tup ha hl h=>exact⟨_,_,rfl,ha,hl,h⟩
def Am(K:W.Frag)(H:Hp)(v:V)(w:Wr):Prop:=ar K H 2 v (qI w)
theorem Am.out{v:V}{w:Wr}(h:Am K H v w):∃a p,v=.ref a/\ab K H a [.int w.o,.int w.q,.ref p]/\ab K H p [.int w.a,.int w.b]:=by
 obtain⟨a,xs,rfl,h1,h2,h3⟩:=xD h
 match xs,h2 with
 |[x,y,z],_ =>
  obtain rfl:=o9 (h3 0 x _ rfl rfl);obtain rfl:=o9 (h3 1 y _ rfl rfl);obtain⟨p,ys,rfl,g1,g2,g3⟩:=xD (h3 2 z _ rfl rfl)
  match ys,g2 with
  |[x,y],_ =>
   obtain rfl:=o9 (g3 0 x _ rfl rfl);obtain rfl:=o9 (g3 1 y _ rfl rfl);exact⟨a,p,rfl,h1,g1⟩
theorem Am.mk{a p:Addr}{w:Wr}(h1:ab K H a [.int w.o,.int w.q,.ref p])(h2:ab K H p [.int w.a,.int w.b]):Am K H (.ref a) w:=by
 refine .tup h1 rfl λi x d e1 e2=>?_
 match i with
 |0=>cases e1;cases e2;exact .int _
 |1=>cases e1;cases e2;exact .int _
 |2 =>
  cases e1;cases e2;refine .tup h2 rfl λi x d e1 e2=>?_
  match i with
  |0=>cases e1;cases e2;exact .int _
  |1=>cases e1;cases e2;exact .int _
  |i+2=>simp at e1
 |i+3=>simp at e1
def pA(K:W.Frag)(C:Addr):Sp:=λvs H Q E=>∃(v:V)(w:Wr),vs=[v]/\Am K H v w/\Oh w/\(Al w->∀(r:Addr) H',aH H H'->Am K H' (.ref r) w->Q (.ref r) H')/\(¬Al w->False)
theorem pB:aU ["wire","birth"] ["wire"] (aI iZ):=ad
theorem xE(F:aN K mg "made_wire" iZ)(T:Txt K mg t)(dF:Def P w K mg base 2 "look_house" ["number"] (iz t.BadNews))(bz:Def P w K mg base 1 "look_bounds" ["number","least","most"] (g8 t.BadNews)):Def P w K mg base 3 "made_wire" ["wire"] (pA K t.BadNews):=by
 refine F.def pB (λ_ _ _ _ _ _=>bm λ_=>rfl) (λvs H Q E h=>?_) (λf bj A outer s H vs Q E hr h=>?_)
 ·obtain⟨v,x,rfl,_⟩:=h;rfl
 obtain⟨v,x,rfl,hw,hs,q1,q2⟩:=h;refine⟨_,aF (bM (aa (dF.mono (by decide)) hr av (aA (aK (aP K) (pv 0) aD (λ_ _=>rfl)) aE)))
  (aF (bM (aa (bz.mono (by decide)) hr av (aA (aK (aP K) (pv 0) aD (λ_ _=>rfl)) (aA aD (aA (mO T.y9) aE)))))
  (aF (PS.uI (bW PassesOwn.never rfl (oa K (aK (aP K) (pv 0) aD (λ_ _=>rfl))) (aO (i:=1) pB.nd rfl (Or.inl rfl))
   (aG (bM (aa (bz.mono (by decide)) hr av (aA (pv 1) (aA aD (aA (mO T.y6) aE))))))))
  (aG (aX (ag (aA (aK (aP K) (pv 0) aD (λ_ _=>rfl)) (aA (aK (aP K) (pv 0) aD (λ_ _=>rfl)) (aA (bB (dY K) (by rfl) T.mY boot_tuple (aA (aK (aP K) (pv 0) aD (λ_ _=>rfl)) aE)) aE)))))))),?_⟩
 obtain⟨a,p,rfl,h1,h2⟩:=hw.out;refine⟨_,rfl,a,_,_,_,rfl,rfl,h1,rfl,x.o,rfl,hs.1,λg1=>?_,λg1=>q2 λz=>g1 z.1⟩;refine⟨_,rfl,a,_,_,_,rfl,rfl,h1,rfl,x.q,1,10,rfl,hs.2.1,.of (by decide) (by decide),.of (by decide) (by decide),λg2=>?_,λg2=>q2 λz=>g2 z.2.1⟩;refine⟨_,rfl,a,_,_,_,rfl,rfl,h1,rfl,p,rfl,⟨_,h2⟩,BL (K:=K) (a:=p) (xs:=[.int x.a,.int x.b]) (λi σ H'=>∃v:Option V,σ=[some (.ref a),v]/\H'=H/\(1<=i->1<=x.a/\x.a<=9000)/\(2<=i->1<=x.b/\x.b<=9000)) ⟨none,rfl,rfl,λz=>by lia,λz=>by lia⟩ (λi σ H' _ ⟨_,_,e,_⟩=>by rw[e];exact h2) ?_ ?_⟩
 ·rintro i y σ H' hi ⟨v,rfl,rfl,k1,k2⟩
  match i,hi with
  |0,hi =>
   cases hi;refine⟨_,rfl,x.a,1,9000,rfl,hs.2.2.1,.of (by decide) (by decide),.of (by decide) (by decide),λg=>⟨_,rfl,rfl,λ_=>g,λz=>by lia⟩,λg=>q2 λz=>g z.2.2.1⟩
  |1,hi =>
   cases hi;refine⟨_,rfl,x.b,1,9000,rfl,hs.2.2.2,.of (by decide) (by decide),.of (by decide) (by decide),λg=>⟨_,rfl,rfl,λ_=>k1 (by lia),λ_=>g⟩,λg=>q2 λz=>g z.2.2.2⟩
  |i+2,hi=>simp at hi
 rintro σ H' ⟨v,rfl,rfl,k1,k2⟩;refine⟨_,rfl,a,_,_,_,rfl,rfl,h1,rfl,_,rfl,a,_,_,_,rfl,rfl,h1,rfl,_,rfl,a,_,_,_,rfl,rfl,h1,rfl,p,_,rfl,.inr ⟨h2,?_⟩⟩;refine⟨zz3,λr uR=>?_⟩;have s1:=(aH.refl H').new (o:=.tup [.int x.o,.int x.q,.ref p]) uR;exact q1 ⟨g1,g2,k1 (by show 1<=2;decide),k2 (by show 2<=2;decide)⟩ r _ s1 (.mk (.inl (.inl aC)) (s1.tup h2))
theorem K0{g:TG}{tt:TT}{te:TE}{σ:L2.St}{b:Bool}{a:Addr}(Pv:Nat->L2.St->Hp->Prop)(h0:Pv 0 σ H)(hl:∀i σ H,i<=xs.length->Pv i σ H->zY b K H a xs)(hs:∀(i:Nat)(x:V)(σ:L2.St)(H:Hp)(N:L2.St->Hp->Prop),(∀σ H,Pv (i+1) σ H->N σ H)->xs[i]?=some x->Pv i σ H->g x σ H λσ3 H3=>tt σ3 H3 λb H4 =>
   if b=true then te σ3 H4 λv H5=>∃ys,H5 D=some (.lst ys)/\ys.length<sizeLine/\N σ3 (upd H5 D (.lst (ys++[v])))else N σ3 H4)(hd:∀σ H,Pv xs.length σ H->Q (.ref D) H):r9 (Kj b K a xs) g tt te D σ H Q:=by
 refine⟨λi m σ H=>m=xs.length-i/\i<=xs.length/\Pv i σ H,⟨xs.length,by simp,zero_le _,h0⟩,?_⟩;rintro i m σ' H' ⟨rfl,hi,p⟩;by_cases cN:i<xs.length
 ·refine .inr ⟨⟨hl i σ' H' hi p,cN⟩,λx H2 y=>?_⟩;obtain⟨e,y⟩:=y;subst e;exact hs i x σ' _ (λσ3 H3=>∃m',m'<xs.length-i/\m'=xs.length-(i+1)/\i+1<=xs.length/\Pv (i+1) σ3 H3) (λσ3 H3 z=>⟨xs.length-(i+1),by lia,rfl,cN,z⟩) y p
 have e:i=xs.length:=by lia
 subst e;exact .inl ⟨⟨hl _ σ' H' hi p,le_refl _⟩,hd σ' H' p⟩
def xF{α:Type}(lt:α->α->Bool)(x:α):List α->List α
 |[]=>[x]
 |y::r=>if lt y x=true then y::xF lt x r else x::y::r
def Qn{α:Type}(lt:α->α->Bool)(l:List α):List α:=l.foldl (λacc x=>xF lt x acc) []
theorem mZ{α:Type}{lt:α->α->Bool}{x:α}:∀l:List α,(xF lt x l).Perm (x::l)
 |[]=>.refl _
 |y::r=>by
  unfold xF;split
  ·exact((mZ r).cons y).trans (.swap x y r)
  exact .refl _
theorem vX{α:Type}{lt:α->α->Bool}{S:α->Prop}(cw:∀a b,S a->S b->lt a b=true->lt b a=false)(rV:∀a b c,S a->S b->S c->lt b a=false->lt c b=false->lt c a=false){x:α}(hx:S x):
  ∀l:List α,(∀y∈l,S y)->l.Pairwise (λa b=>lt b a=false)->(xF lt x l).Pairwise (λa b=>lt b a=false)
 |[],_,_=>List.pairwise_singleton _ _
 |y::r,hl,h=>by
  obtain⟨h1,h2⟩:=List.pairwise_cons.mp h;have hy:=hl y mem_cons_self;unfold xF;split
  ·rename_i c;refine List.pairwise_cons.mpr ⟨λz hz=>?_,vX cw rV hx r (λz hz=>hl z (mem_cons_of_mem _ hz)) h2⟩;rcases mem_cons.mp ((mZ r).mem_iff.mp hz)with rfl|hz
   ·exact cw _ _ hy hx c
   exact h1 z hz
  rename_i c;have c:lt y x=false:=by simpa using c
  refine List.pairwise_cons.mpr ⟨λz hz=>?_,h⟩;rcases mem_cons.mp hz with rfl|hz
  ·exact c
  exact rV x y z hx hy (hl z (mem_cons_of_mem _ hz)) c (h1 z hz)
theorem Bu{α:Type}{lt:α->α->Bool}{S:α->Prop}(cw:∀a b,S a->S b->lt a b=true->lt b a=false)(rV:∀a b c,S a->S b->S c->lt b a=false->lt c b=false->lt c a=false):
  ∀(l acc:List α),(∀y∈l,S y)->(∀y∈acc,S y)->acc.Pairwise (λa b=>lt b a=false)->(l.foldl (λacc x=>xF lt x acc) acc).Perm (acc++l)/\(l.foldl (λacc x=>xF lt x acc) acc).Pairwise (λa b=>lt b a=false)
 |[],acc,_,_,h=>⟨by rw[List.append_nil];exact .refl _,h⟩
 |x::l,acc,hl,ha,h=>by have hx:=hl x mem_cons_self;have:=Bu cw rV l (xF lt x acc) (λy hy=>hl y (mem_cons_of_mem _ hy)) (λy hy=>(mem_cons.mp ((mZ acc).mem_iff.mp hy)).elim (λe=>e▸hx) (ha y)) (vX cw rV hx acc ha h);refine⟨this.1.trans (((mZ acc).append_right l).trans ?_),this.2⟩;exact List.perm_middle.symm
def sD(ds:List PyData):List PyData:=Qn bf ds
theorem ic(O:rD ds):(sD ds).Perm ds/\(sD ds).Pairwise (λa b=>bf b a=false) :=
 Bu (lt:=bf) (S:=(·∈ds)) (λa b ha hb=>O.cw a ha b hb) (λa b c ha hb hc=>O.rV a ha b hb c hc) ds [] (λ_ h=>h) (λ_ h=>absurd h not_mem_nil) .nil
theorem DB{es:List PyData}(O:rD ds)(U3:∀d∈ds,∀e∈ds,bf d e=false->bf e d=false->d=e)(hp:es.Perm ds)(hs:es.Pairwise (λa b=>bf b a=false)):es=sD ds :=
 List.Perm.eq_of_pairwise (le:=λa b=>bf b a=false) (λa b ha hb h1 h2=>U3 a (hp.mem_iff.mp ha) b ((ic O).1.mem_iff.mp hb) h2 h1) hs (ic O).2 (hp.trans (ic O).1.symm)
theorem pC{α:Type}{κ:Type}[LT κ][DecidableLT κ](U4:∀a b:κ,a<b->¬b<a)(rV:∀a b c:κ,¬b<a->¬c<b->¬c<a){key:α->κ}{f:α->PyData}(hk:∀x y,bf (f x) (f y)=decide (key x<key y))(ok:∀x y,uE (f x) (f y)=true){l:List α}(kd:JM (l.map f)):rD (l.map f)where
 kd:=kd
 ok:=λd hd e he=>by obtain⟨x,_,rfl⟩:=List.mem_map.mp hd;obtain⟨y,_,rfl⟩:=List.mem_map.mp he;exact ok x y
 cw:=λd hd e he h=>by obtain⟨x,_,rfl⟩:=List.mem_map.mp hd;obtain⟨y,_,rfl⟩:=List.mem_map.mp he;rw[hk,decide_eq_true_iff]at h;rw[hk,decide_eq_false_iff_not];exact U4 _ _ h
 rV:=λd hd e he g hg h1 h2=>by obtain⟨x,_,rfl⟩:=List.mem_map.mp hd;obtain⟨y,_,rfl⟩:=List.mem_map.mp he;obtain⟨z,_,rfl⟩:=List.mem_map.mp hg;rw[hk,decide_eq_false_iff_not]at h1 h2 ⊢;exact rV _ _ _ h1 h2
def DC(w:Wr):List Int:=[w.o,w.q,w.a,w.b]
theorem E6(v w:Wr):bf (qI v) (qI w)=decide (DC v<DC w):=by obtain⟨o,q,a,b⟩:=v;obtain⟨o',q',a',b'⟩:=w;simp only[qI,DC,bf,m7,PyData.eqv,PyData.eqvAll,List.cons_lt_cons_iff];by_cases h1:o=o'<;>by_cases h2:q=q'<;>by_cases h3:a=a'<;>by_cases h4:b=b'<;>simp[h1,h2,h3,h4]
theorem K9(v w:Wr):uE (qI v) (qI w)=true:=by simp[qI,uE,uP]
theorem wz(ws:List Wr):rD (ws.map qI):=pC (κ:=List Int) (λa b h=>List.lt_asymm h) (λa b c h1 h2=>List.not_lt.mpr (List.le_trans (List.not_lt.mp h1) (List.not_lt.mp h2))) E6 K9 (.rows λd hd=>by obtain⟨w,_,rfl⟩:=List.mem_map.mp hd;exact⟨_,_,rfl⟩)
theorem Qo(ws:List Wr):∀d∈ws.map qI,∀e∈ws.map qI,bf d e=false->bf e d=false->d=e:=by intro d hd e he h1 h2;obtain⟨v,_,rfl⟩:=List.mem_map.mp hd;obtain⟨w,_,rfl⟩:=List.mem_map.mp he;rw[E6,decide_eq_false_iff_not]at h1 h2;have k:DC v=DC w:=List.le_antisymm (List.not_lt.mp h2) (List.not_lt.mp h1);obtain⟨o,q,a,b⟩:=v;obtain⟨o',q',a',b'⟩:=w;simp only[DC,List.cons.injEq,and_true]at k;obtain⟨rfl,rfl,rfl,rfl⟩:=k;rfl
def Di(cs:List Nat):PyData:=.str (wR cs)
theorem LA(m n:List Nat):bf (Di m) (Di n)=decide (m<n):=by simp[Di,bf,wR]
theorem Nq(ns:List (List Nat)):rD (ns.map Di):=pC (κ:=List Nat) (key:=id) (λa b h=>List.lt_asymm h) (λa b c h1 h2=>List.not_lt.mpr (List.le_trans (List.not_lt.mp h1) (List.not_lt.mp h2))) LA (λx y=>by simp[Di,uE]) (.strs λd hd=>by obtain⟨w,_,rfl⟩:=List.mem_map.mp hd;exact⟨_,rfl⟩)
def qJ(house:Int)(ws:List Wr):Prop:=(∀w∈ws,Al w)/\ws.length<=5/\(ws.map (·.o)).Nodup/\house∉ws.map (·.o)
theorem zD{ws vs:List Wr}(h:vs.Perm ws):qJ house vs↔qJ house ws:=by unfold qJ;rw[h.length_eq,(h.map (·.o)).nodup_iff,(h.map (·.o)).mem_iff];exact⟨λz=>⟨λw hw=>z.1 w (h.mem_iff.mpr hw),z.2⟩,λz=>⟨λw hw=>z.1 w (h.mem_iff.mp hw),z.2⟩⟩
theorem Am.same{K:W.Frag}{H H':Hp}{v:V}{w:Wr}(h:Am K H v w)(s:aH H H'):Am K H' v w:=ar.same h s
def lO(K:W.Frag)(H:Hp)(zs:List (V×Wr)):Prop:=∀z∈zs,Am K H z.1 z.2
theorem lO.same{K:W.Frag}{H H':Hp}{zs:List (V×Wr)}(h:lO K H zs)(s:aH H H'):lO K H' zs:=λz hz=>(h z hz).same s
theorem lO.tup{K:W.Frag}{H:Hp}{zs:List (V×Wr)}{a:Addr}(h:lO K H zs)(ha:ab K H a (zs.map (·.1))):ar K H 3 (.ref a) (.tuple (zs.map λz=>qI z.2)):=by
 refine .tup ha (by simp) λi x d e1 e2=>?_;rw[getElem?_map]at e1 e2;cases e:zs[i]? with
 |none=>rw[e]at e1;cases e1
 |some z=>rw[e]at e1 e2;cases e1;cases e2;exact h z (mem_of_getElem? e)
theorem perm_back{α β:Type}(g:α->β){l m:List β}(h:l.Perm m):∀zs:List α,m=zs.map g->∃us:List α,us.Perm zs/\l=us.map g:=by
 induction h with
 |nil=>intro zs e;cases zs with
  |nil=>exact⟨[],.refl _,rfl⟩
  |cons z r=>cases e
 |cons x _ ih=>intro zs e;cases zs with
  |nil=>cases e
  |cons z r =>
   obtain⟨e1,e2⟩:=List.cons.inj e;obtain⟨us,h1,h2⟩:=ih r e2;exact⟨z::us,h1.cons z,by rw[List.map_cons,<-h2,e1]⟩
 |swap x y l=>intro zs e;cases zs with
  |nil=>cases e
  |cons z r=>cases r with
   |nil=>cases e
   |cons z2 r =>
    obtain⟨e1,e2⟩:=List.cons.inj e;obtain⟨e3,e4⟩:=List.cons.inj e2;exact⟨z2::z::r,.swap z z2 r,by rw[List.map_cons,List.map_cons,<-e4,e1,e3]⟩
 |trans _ _ U5 U6 =>
  intro zs e;obtain⟨us,h1,h2⟩:=U6 zs e;obtain⟨vs,h3,h4⟩:=U5 us h2;exact⟨vs,h3.trans h1,h4⟩
theorem E7{o:HO}(h:H D=some (.lst xs)):Kept H (upd H D o):=λa ys e=>by
 have ne:a≠D:=by rintro rfl;rcases e with e|⟨u,e⟩<;>(rw[h]at e;cases e)
 rcases e with e|⟨u,e⟩
 ·exact .inl (by rw[aM ne];exact e)
 exact .inr ⟨u,by rw[aM ne];exact e⟩
theorem E8(w:Wr):zZ (qI w)=true:=by simp[qI,zZ,dz]
theorem Am.kept{K:W.Frag}{H H':Hp}{v:V}{w:Wr}(h:Am K H v w)(k:Kept H H'):Am K H' v w:=ar.kept h k (E8 w)
theorem lO.kept{K:W.Frag}{H H':Hp}{zs:List (V×Wr)}(h:lO K H zs)(k:Kept H H'):lO K H' zs:=λz hz=>(h z hz).kept k
theorem lP(ns:List Int):ns.map V.int=(ns.map Sum.inl).map kV:=by rw[List.map_map];rfl
theorem gU:(ns.map (Sum.inl:Int->Key)).Nodup↔ns.Nodup:=by unfold List.Nodup;rw[List.pairwise_map];exact⟨λh=>h.imp λe z=>e (by rw[z]),λh=>h.imp λe z=>e (Sum.inl.inj z)⟩
theorem dP(n:Int)(ns:List Int):CV (.int n) (ns.map V.int)=decide (n∈ns):=by
 unfold CV;rw[Bool.eq_iff_iff,List.any_map,List.any_eq_true,decide_eq_true_iff];constructor
 ·rintro⟨x,hx,h⟩;have:x=n:=by simpa[AF]using h
  exact this▸hx
 intro h;exact⟨n,h,by simp[AF]⟩
theorem cX(ns:List Int):(ns.map V.int).all kZ=true:=by rw[List.all_map,List.all_eq_true];intro _ _;rfl
def pE(K:W.Frag)(C:Addr):Sp:=λvs H Q E=>∃(b:Bool)(l:Addr)(zs:List (V×Wr))(house:Int),vs=[.int house,.ref l]/\zY b K H l (zs.map (·.1))/\lO K H zs/\zs.length<=50/\(∀z∈zs,Oh z.2) /\
 (qJ house (zs.map (·.2))->∀(r:Addr)(H':Hp),aH H H'->ar K H' 3 (.ref r) (.tuple (sD ((zs.map (·.2)).map qI)))->Q (.ref r) H')/\(¬qJ house (zs.map (·.2))->False)
theorem jy:aU ["house","near","wires","others"] ["house","near"] (aI de):=ad
set_option maxHeartbeats 1000000 in
theorem xG(F:aN K mg "made_near" de)(T:Txt K mg t)(lQ:Def P w K mg base 3 "made_wire" ["wire"] (pA K t.BadNews))(cW:Def P w K mg base 1 "look_unlike" ["things","most"] (g9 K t.BadNews)):Def P w K mg base 4 "made_near" ["house","near"] (pE K t.BadNews):=by
 refine F.def jy (λ_ _ _ _ _ _=>bn λ_ _=>rfl) (λvs H Q E h=>?_) (λf bj A outer s H vs Q E hr h=>?_)
 ·obtain⟨b,l,zs,house,rfl,_⟩:=h;rfl
 obtain⟨b,l,zs,house,rfl,hl,hw,hn,hs,q1,q2⟩:=h;refine⟨_,aF (aR (i:=2) jy.nd rfl (Or.inl rfl) (aT (dc K (cu hr)) (by rfl) T.cE boot_sorted (aA (gg rfl (Nc:=["wire"]) (ix:=[none]) (bR (aI de) ["house","near","wires","others"] rfl rfl (by decide +kernel)) (Bj K (pv 1)) (λC fp s H=>⟨(aO (i:=0) (show(["wire"]:List Str).Nodup by decide +kernel) rfl (Or.inl rfl)),bc,(aa (lQ.mono (by decide)) hr av (aA (pv 0) aE))⟩)) aE)))
  (aF (dy (i:=3) jy.nd rfl (Or.inl rfl) rfl (Nc:=["wire"]) (ix:=[none]) (bR (aI de) ["house","near","wires","others"] rfl rfl (by decide +kernel)) (a9 K (pv 2)) (λC fp s H=>⟨(aO (i:=0) (show(["wire"]:List Str).Nodup by decide +kernel) rfl (Or.inl rfl)),bc,(aK (aP K) (pv 0) aD (λ_ _=>rfl))⟩))
  (aF (bM (aa (cW.mono (by decide)) hr av (aA (pv 3) (aA (mO T.Ak) aE))))
  (aF (au (aL vD (pv 0) (pv 3) (by rfl))
   (aG (vJ))
   (aZ))
  (aG (aX (bB (dY K) (by rfl) T.mY boot_tuple (aA (pv 2) aE))))))),?_⟩
 have hsz:(2000:Nat)<=sizeLine:=by decide
 refine⟨_,rfl,b,l,_,rfl,hl,λD hD=>?_⟩;refine K0 (b:=b) (K:=K) (a:=l) (xs:=zs.map (·.1)) (λi σ H'=>∃(v:Option V)(us:List (V×Wr)),σ=[v]/\aH H H'/\H' D=some (.lst (us.map (·.1)))/\lO K H' us/\us.map (·.2)=(zs.take i).map (·.2)/\∀z∈zs.take i,Al z.2)
  ⟨none,[],rfl,(aH.refl _).new hD,aC,λz hz=>absurd hz not_mem_nil,rfl,λz hz=>absurd hz not_mem_nil⟩ (λi σ H' _ ⟨_,_,_,s1,_⟩=>hl.same s1) ?_ ?_
 ·rintro i x σ H' N hN hi ⟨v,us,rfl,s1,e1,hu,Er,hg⟩;rw[getElem?_map]at hi;cases ez:zs[i]? with
  |none=>rw[ez]at hi;cases hi
  |some z =>
   rw[ez]at hi;obtain rfl:z.1=x:=Option.some.inj hi;have hm:z∈zs:=mem_of_getElem? ez;have Oi:i<zs.length:=(List.getElem?_eq_some_iff.mp ez).1;refine cO ?_;refine⟨_,rfl,z.1,z.2,rfl,(hw z hm).same s1,hs z hm,λg r H2 s2 wa=>?_,λg=>?_⟩
   ·have Ws:us.length=i:=by have:=congrArg List.length Er;rw[length_map,length_map,length_take]at this;lia
    refine⟨_,s2 _ _ e1,by rw[length_map];lia,hN _ _ ⟨_,us++[(.ref r,z.2)],rfl,(s1.trans s2).put hD,by rw[aC,map_append];rfl,λy hy=>?_,?_,λy hy=>?_⟩⟩
    ·have kp:=E7 (o:=.lst (us.map (·.1)++[V.ref r])) (s2 _ _ e1);rcases mem_append.mp hy with h|h
     ·exact((hu y h).same s2).kept kp
     rw[mem_singleton.mp h];exact wa.kept kp
    ·rw[take_succ ez,map_append,map_append,Er];rfl
    rw[take_succ ez]at hy;rcases mem_append.mp hy with h|h
    ·exact hg y h
    rw[mem_singleton.mp h];exact g
   exact(q2 λz'=>g (z'.1 _ (List.mem_map.mpr ⟨z,hm,rfl⟩))).elim
 rintro σ H' ⟨v,us,rfl,s1,e1,hu,Er,hg⟩;rw[length_map]at Er hg;rw[take_length]at Er hg;have U7:us.length=zs.length:=by
  have:=congrArg List.length Er
  rwa [length_map,length_map]at this
 refine⟨true,D,us.map λz=>(z.1,qI z.2),rfl,by rw[List.map_map];exact aV.of e1,by rw[length_map];lia,λy hy=>?_,?_,λys r hp xu uR=>?_⟩
 ·obtain⟨z,hz,rfl⟩:=List.mem_map.mp hy;exact ar.up (hu z hz) (by decide)
 ·have:=wz (us.map (·.2));rw[List.map_map]at this ⊢;exact this
 obtain⟨vs,E9,rfl⟩:=perm_back (λz:V×Wr=>(z.1,qI z.2)) hp us rfl;have SM:vs.length=zs.length:=E9.length_eq.trans U7;have Qp:(vs.map (·.2)).Perm (zs.map (·.2)):=by rw[<-Er];exact E9.map _
 have es:vs.map (λz=>qI z.2)=sD ((zs.map (·.2)).map qI):=by
  refine DB (wz _) (Qo _) ?_ ?_
  ·have:=Qp.map qI;rw[List.map_map]at this;exact this
  rw[List.pairwise_map]at xu ⊢;exact xu
 have s2:=s1.new (o:=.lst ((vs.map λz=>(z.1,qI z.2)).map (·.1))) uR;have e2:(upd H' r (.lst ((vs.map λz=>(z.1,qI z.2)).map (·.1)))) r=some (.lst (vs.map (·.1))):=by rw[aC,List.map_map];rfl
 have GD:lO K (upd H' r (.lst ((vs.map λz=>(z.1,qI z.2)).map (·.1)))) vs:=λz hz=>(hu z (E9.mem_iff.mp hz)).same ((aH.refl H').new uR);generalize upd H' r (.lst ((vs.map λz=>(z.1,qI z.2)).map (·.1)))=H1 at s2 e2 GD ⊢;refine⟨_,rfl,r,rfl,⟨_,aV.of e2⟩,λD2 Bv=>?_⟩;refine dE (K:=K) (a:=r) (xs:=vs.map (·.1)) (λi σ H2=>∃v:Option V,σ=[v]/\aH H1 H2/\H2 D2=some (.lst (((vs.take i).map (·.2.o)).map V.int))) ⟨none,rfl,(aH.refl _).new Bv,aC⟩ (λi σ H2 _ ⟨_,_,s3,_⟩=>aV.of (s3 _ _ e2)) ?_ ?_
 ·rintro i x σ H2 N hN hi ⟨v,rfl,s3,e3⟩;rw[getElem?_map]at hi;cases ez:vs[i]? with
  |none=>rw[ez]at hi;cases hi
  |some z =>
   rw[ez]at hi;obtain rfl:z.1=x:=Option.some.inj hi;have hm:z∈vs:=mem_of_getElem? ez;have Oi:i<vs.length:=(List.getElem?_eq_some_iff.mp ez).1;obtain⟨a,p,ea,h1,h2⟩:=((GD z hm).same s3).out;refine cO ?_;refine⟨_,rfl,a,_,_,_,ea,rfl,h1,rfl,_,e3,by rw[length_map,length_map,length_take];lia,hN _ _ ⟨_,rfl,s3.put Bv,?_⟩⟩;rw[aC,take_succ ez,map_append,map_append];rfl
 rintro σ H2 ⟨v,rfl,s3,e3⟩;rw[length_map,take_length]at e3;have eo:vs.map (·.2.o)=(vs.map (·.2)).map (·.o):=by rw[List.map_map];rfl
 rw[eo]at e3;have Qq:=zD (house:=house) Qp;have all:∀x∈vs.map (·.2),Al x:=λx hx=>by have:=Qp.mem_iff.mp hx;obtain⟨z,hz,rfl⟩:=List.mem_map.mp this;exact hg z hz
 have o0:((vs.map (·.2)).map (·.o)).length=zs.length:=by rw[length_map,length_map];exact SM
 refine⟨_,rfl,true,D2,((vs.map (·.2)).map (·.o)).map Sum.inl,5,rfl,by rw[<-lP];exact aV.of e3,by rw[length_map];lia,by decide,by decide,?_,?_⟩
 ·rw[length_map,gU];rintro⟨k1,k2⟩ H3 s4;refine⟨_,rfl,_,rfl,D2,_,rfl,.inl (aV.of (s4 _ _ e3)),rfl,cX _,_,rfl,?_⟩;show if(CV (.int house) (((vs.map (·.2)).map (·.o)).map V.int))=true then _ else _;rw[dP];by_cases hh:house∈(vs.map (·.2)).map (·.o)
  ·refine bx hh ?_;exact q2 λz=>(Qq.mpr z).2.2.2 hh
  refine cB hh ?_;refine⟨_,rfl,r,_,rfl,.inl ⟨aV.of (s4 _ _ (s3 _ _ e2)),λp sJ=>?_⟩⟩;have s5:=(aH.refl H3).new (o:=.tup (vs.map (·.1))) sJ;refine q1 (Qq.mp ⟨all,by rw[length_map];rw[length_map,length_map]at k1;lia,k2,hh⟩) p _ ((s2.trans (s3.trans s4)).trans s5) ?_;rw[<-es];exact lO.tup (GD.same ((s3.trans s4).trans s5)) (.inl (.inl aC))
 rw[length_map,gU];intro hb;exact q2 λz=>hb (by have:=Qq.mpr z;exact⟨by have:=this.2.1;rw[length_map]at this ⊢;rw[length_map];lia,this.2.2.1⟩)
structure Nw where
 h:Int
 n:Int
 near:List Wr
 names:List (List Nat)
def LB(N:Nw):Prop:=Og N.h/\(0<=N.n/\N.n<=900000)/\qJ N.h N.near/\Np N.names
def Qr(N:Nw):PyData:=.tuple [.int N.h,.int N.n,.tuple (sD (N.near.map qI)),.tuple (sD (N.names.map Di))]
def pF(K:W.Frag)(C:Addr):Sp:=λvs H Q _=>∃(b c:Bool)(l m:Addr)(zs:List (V×Wr))(N:Nw),vs=[.int N.h,.int N.n,.ref l,.ref m]/\zY b K H l (zs.map (·.1))/\lO K H zs/\zs.map (·.2)=N.near/\zY c K H m [] /\
 Dh N.h/\Dh N.n/\zs.length<=50/\(∀z∈zs,Oh z.2)/\N.names=[] /\
 (LB N->∀(r:Addr)(H':Hp),aH H H'->ar K H' 4 (.ref r) (Qr N)->Q (.ref r) H')/\(¬LB N->False)
theorem xH:aU ["house","number","near","names"] ["house","number","near","names"] (aI ia):=ad
set_option maxHeartbeats 1000000 in
theorem xI(F:aN K mg "made_news" ia)(T:Txt K mg t)(dF:Def P w K mg base 2 "look_house" ["number"] (iz t.BadNews))(bz:Def P w K mg base 1 "look_bounds" ["number","least","most"] (g8 t.BadNews))(jz:Def P w K mg base 2 "look_names" ["names"] (nA K t.BadNews))(lR:Def P w K mg base 4 "made_near" ["house","near"] (pE K t.BadNews)):Def P w K mg base 5 "made_news" ["house","number","near","names"] (pF K t.BadNews):=by
 refine F.def xH (λ_ _ _ _ _ _=>ce λ_ _ _ _=>rfl) (λvs H Q E h=>?_) (λf bj A outer s H vs Q E hr h=>?_)
 ·obtain⟨b,c,l,m,zs,N,rfl,_⟩:=h;rfl
 obtain⟨b,c,l,m,zs,N,rfl,hl,hw,SN,hm,sh,sn,hz,hs,Bw,q1,q2⟩:=h;refine⟨_,aF (bM (aa (dF.mono (by decide)) hr av (aA (pv 0) aE)))
  (aF (bM (aa (bz.mono (by decide)) hr av (aA (pv 1) (aA aD (aA (mO T.xB) aE)))))
  (aF (bM (aa (jz.mono (by decide)) hr av (aA (pv 3) aE)))
  (aG (aX (ag (aA (pv 0) (aA (pv 1) (aA (aa (lR.mono (by decide)) hr av (aA (pv 0) (aA (pv 2) aE))) (aA (bB (dY K) (by rfl) T.mY boot_tuple (aA (aT (dc K (cu hr)) (by rfl) T.cE boot_sorted (aA (pv 3) aE)) aE)) aE))))))))),?_⟩
 have hsz:(2000:Nat)<=sizeLine:=by decide
 refine⟨_,rfl,N.h,rfl,sh,λg1=>?_,λg1=>q2 λz=>g1 z.1⟩;refine⟨_,rfl,N.n,0,900000,rfl,sn,.of (by decide) (by decide),.of (by decide) (by decide),λg2=>?_,λg2=>q2 λz=>g2 z.2.1⟩;refine⟨_,rfl,c,m,rfl,hm,λH1 s1=>?_⟩;refine⟨_,rfl,_,rfl,_,rfl,_,rfl,b,l,zs,N.h,rfl,hl.same s1,hw.same s1,hz,hs,λg4 r H2 s2 d2=>?_,λg4=>q2 λz=>g4 (by rw[SN];exact z.2.2.1)⟩;rw[SN]at g4 d2;have Hg:=(hm.same s1).same s2;refine⟨_,rfl,c,m,[],rfl,Hg,by decide,λy hy=>absurd hy not_mem_nil,Nq [],λys p hp _ sJ=>?_⟩;obtain rfl:=hp.eq_nil;have s3:=(aH.refl H2).new (o:=.lst []) sJ;have e3:(upd H2 p (.lst [])) p=some (.lst []):=aC;generalize Qs:upd H2 p (.lst (([]:List (V×PyData)).map (·.1)))=H3;have Qs:upd H2 p (.lst [])=H3:=Qs;rw[Qs]at s3 e3;refine⟨p,_,rfl,.inl ⟨aV.of e3,λx hx=>?_⟩⟩;have s4:=(aH.refl H3).new (o:=.tup []) hx;have d4:ar K (upd H3 x (.tup [])) 3 (.ref x) (.tuple (sD (N.names.map Di))):=by rw[Bw];exact .tup (.inl (.inl aC)) rfl λi y d e1 e2=>by cases e1
 have d5:=(d2.same s3).same s4;generalize upd H3 x (.tup [])=H4 at s4 d4 d5 ⊢;refine⟨zz4,λy hy=>?_⟩;have s5:=(aH.refl H4).new (o:=.tup [.int N.h,.int N.n,.ref r,.ref x]) hy;refine q1 ⟨g1,g2,g4,by rw[Bw];exact⟨by decide,List.Pairwise.nil,λn hn=>absurd hn not_mem_nil⟩⟩ y _ ((((s1.trans s2).trans s3).trans s4).trans s5) ?_;refine .tup (.inl (.inl aC)) rfl λi v d e1 e2=>?_
 match i with
 |0=>cases e1;cases e2;exact .int _
 |1=>cases e1;cases e2;exact .int _
 |2=>cases e1;cases e2;exact d5.same s5
 |3=>cases e1;cases e2;exact d4.same s5
 |i+4=>simp at e1
def Nr(N:Nw):PyData:=.tuple [.int N.h,.int N.n,.tuple (N.near.map qI),.tuple (N.names.map Di)]
theorem Bx{α:Type}(f:α->PyData){l:List α}(O:rD (l.map f)):∃l':List α,l'.Perm l/\sD (l.map f)=l'.map f:=perm_back f (ic O).1 l rfl
theorem Hh(N:Nw):∃ws ns,ws.Perm N.near/\ns.Perm N.names/\Qr N=Nr ⟨N.h,N.n,ws,ns⟩:=by obtain⟨ws,h1,e1⟩:=Bx qI (wz N.near);obtain⟨ns,h2,e2⟩:=Bx Di (Nq N.names);exact⟨ws,ns,h1,h2,by unfold Qr Nr;rw[e1,e2]⟩
def FA(K:W.Frag)(H:Hp)(v:V)(N:Nw):Prop:=ar K H 4 v (Nr N)
theorem xJ:∀{ds:List PyData},(∀d∈ds,zZ d=true)->dz ds=true
 |[],_=>by simp[dz]
 |d::ds,h=>by rw[dz,h d mem_cons_self,xJ λx hx=>h x (mem_cons_of_mem _ hx)];rfl
theorem LC(N:Nw):zZ (Nr N)=true:=by
 have h1:dz (N.near.map qI)=true:=xJ λd hd=>by obtain⟨w,_,rfl⟩:=List.mem_map.mp hd;exact E8 w
 have h2:dz (N.names.map Di)=true:=xJ λd hd=>by obtain⟨w,_,rfl⟩:=List.mem_map.mp hd;simp[Di,zZ]
 simp[Nr,zZ,dz,h1,h2]
theorem FA.kept{K:W.Frag}{H H':Hp}{v:V}{N:Nw}(h:FA K H v N)(k:Kept H H'):FA K H' v N:=ar.kept h k (LC N)
theorem FA.same{K:W.Frag}{H H':Hp}{v:V}{N:Nw}(h:FA K H v N)(s:aH H H'):FA K H' v N:=ar.same h s
theorem FA.out{v:V}{N:Nw}(h:FA K H v N):∃a p q zs,v=.ref a/\ab K H a [.int N.h,.int N.n,.ref p,.ref q]/\ab K H p (zs.map (·.1))/\lO K H zs/\zs.map (·.2)=N.near/\ab K H q (N.names.map Ql):=by
 obtain⟨a,xs,rfl,h1,h2,h3⟩:=xD h
 match xs,h2 with
 |[x,y,z,w],_ =>
  obtain rfl:=o9 (h3 0 x _ rfl rfl);obtain rfl:=o9 (h3 1 y _ rfl rfl);obtain⟨p,ys,rfl,g1,g2,g3⟩:=xD (h3 2 z _ rfl rfl);obtain⟨q,ks,rfl,k1,k2,k3⟩:=xD (h3 3 w _ rfl rfl);rw[length_map]at g2 k2;have hk:ks=N.names.map Ql:=by refine List.ext_getElem (by rw[length_map];exact k2) λi i1 i2=>?_;rw[length_map]at i2;have:=Qm (k3 i ks[i] (Di N.names[i]) (by simp) (by simp[i2]));rw[this];simp[Ql]
  subst hk;refine⟨a,p,q,ys.zip N.near,rfl,h1,?_,λz hz=>?_,?_,k1⟩
  ·rw[List.map_fst_zip (Nat.le_of_eq g2)];exact g1
  ·obtain⟨i,hi,rfl⟩:=List.getElem_of_mem hz;rw[List.length_zip]at hi;rw[List.getElem_zip];have j1:=lt_of_lt_of_le hi (Nat.min_le_right _ _);exact g3 i _ _ (by simp) (by simp[j1])
  rw[List.map_snd_zip (Nat.le_of_eq g2.symm)]
abbrev Ms:=List (V×Nw)
def xv(m:V×Nw):Key×V:=(Sum.inl m.2.h,m.1)
def hs(ms:Ms):List Int:=ms.map (·.2.h)
def tK(ms:Ms)(v:V)(N:Nw):Ms:=if N.h∈hs ms then ms.map (λm=>if m.2.h=N.h then(v,N)else m)else ms++[(v,N)]
def zE(ms:Ms)(N:Nw):Prop:=∀m∈ms,m.2.h=N.h->m.2.n<N.n
theorem FC(ms:Ms)(h:Int):fY (ms.map xv) (Sum.inl h)=(ms.find? λm=>decide (m.2.h=h)).map (·.1):=by
 unfold fY;rw[List.find?_map,Option.map_map];have e:((λkv:Key×V=>decide (kv.1=Sum.inl h))∘xv)=λm:V×Nw=>decide (m.2.h=h):=by
  funext m
  simp[xv]
 rw[e];rfl
theorem Nt(ms:Ms)(v:V)(N:Nw):lv (ms.map xv) (Sum.inl N.h) v=(tK ms v N).map xv:=by
 unfold lv tK;have e:((ms.map xv).any λkv=>decide (kv.1=Sum.inl N.h))=decide (N.h∈hs ms):=by
  rw[List.any_map,Bool.eq_iff_iff,List.any_eq_true,decide_eq_true_iff];unfold hs;rw[List.mem_map];constructor
  ·rintro⟨m,hm,h⟩;exact⟨m,hm,by simpa[xv]using h⟩
  rintro⟨m,hm,h⟩;exact⟨m,hm,by simp[xv,h]⟩
 rw[e];by_cases h:N.h∈hs ms
 ·rw[if_pos (by simpa using h),if_pos h,List.map_map,List.map_map];refine List.map_congr_left λm _=>?_;show(if(xv m).1=Sum.inl N.h then((xv m).1,v)else xv m)=xv (if m.2.h=N.h then(v,N)else m);by_cases c:m.2.h=N.h
  ·rw[if_pos c,if_pos (by simp[xv,c])];simp[xv,c]
  rw[if_neg c,if_neg (by simp[xv,c])]
 rw[if_neg (by simpa using h),if_neg h,map_append];rfl
theorem Hi(ms:Ms)(v:V)(N:Nw):hs (tK ms v N)=if N.h∈hs ms then hs ms else hs ms++[N.h]:=by
 unfold tK;by_cases h:N.h∈hs ms
 ·rw[if_pos h,if_pos h];unfold hs;rw[List.map_map];refine List.map_congr_left λm _=>?_;show(if m.2.h=N.h then(v,N)else m).2.h=m.2.h;split
  ·rename_i c;exact c.symm
  rfl
 rw[if_neg h,if_neg h];unfold hs;rw[map_append];rfl
theorem An{ms:Ms}(hn:(hs ms).Nodup)(v:V)(N:Nw):(hs (tK ms v N)).Nodup:=by
 rw[Hi];split
 ·exact hn
 rename_i h;refine List.nodup_append.mpr ⟨hn,by simp,λa ha b hb=>?_⟩;rw[mem_singleton.mp hb];rintro rfl;exact h ha
theorem FD{ms:Ms}{v:V}{N:Nw}{m:V×Nw}:m∈tK ms v N->m=(v,N)\/m∈ms:=by
 unfold tK;split
 ·intro h;obtain⟨x,hx,e⟩:=List.mem_map.mp h;split at e
  ·exact .inl e.symm
  exact .inr (e▸hx)
 intro h;rcases mem_append.mp h with h|h
 ·exact .inr h
 exact .inl (mem_singleton.mp h)
structure i3(K:W.Frag)(C:Addr)(H:Hp)(x d:Addr)(ms:Ms):Prop where
 o:∃dx,H x=some (.ins C dx [("latest",.ref d)])
 d:H d=some (.dK (ms.map xv))
 nd:(hs ms).Nodup
 all:∀m∈ms,FA K H m.1 m.2
theorem i3.ne{x d:Addr}{ms:Ms}(h:i3 K C H x d ms):x≠d:=by obtain⟨dx,h1⟩:=h.o;exact kx h1 h.d (by intro z;cases z)
theorem i3.same{K:W.Frag}{C:Addr}{H H':Hp}{x d:Addr}{ms:Ms}(h:i3 K C H x d ms)(s:aH H H'):i3 K C H' x d ms :=
 ⟨let⟨dx,h1⟩:=h.o;⟨dx,s _ _ h1⟩,s _ _ h.d,h.nd,λm hm=>(h.all m hm).same s⟩
def nC(H:Hp)(a:Addr):Prop:=∀xs,¬Rd H a (.tup xs)
theorem nc.kept(m:nc S H H')(n:∀a∈S,nC H a):Kept H H':=λa xs e=>by
 have hn:a∉S:=λz=>n a z xs e;rcases e with e|⟨u,e⟩
 ·exact .inl (m _ _ hn e)
 exact .inr ⟨u,m _ _ hn e⟩
theorem nC.dk{a:Addr}{xs:List (Key×V)}(h:H a=some (.dK xs)):nC H a:=λys e=>by rcases e with e|⟨u,e⟩<;>(rw[h]at e;cases e)
def By(K:W.Frag)(C:Addr):Sp:=λvs H Q _=>∃x dx,vs=[.ref x]/\H x=some (.ins C dx [])/\∀(l:Addr)(H':Hp),H l=none->nc [x] H H'->i3 K C H' x l []->Q .bu H'
theorem Hj:aU ["self"] ["self"] (aI qG):=ad
theorem Hk(T:Txt K mg t)(F:uM K "__init__" "Map.__init__" qG t.init fd):eN P w K mg base (vH P w) 1 t.init fd ["self"] (By K t.Map)/\Binds K fd ["self"] []:=by
 refine⟨F.G4 Hj (λvs H Q E h=>?_) (λf bj A outer s H vs Q E hr h=>?_),F.binds λ_ _ _ _ _ _=>bm λ_=>rfl⟩
 ·obtain⟨x,dx,rfl,_⟩:=h;rfl
 obtain⟨x,dx,rfl,hx,q⟩:=h;refine⟨_,aG (Gx K (pv 0) sQ (by rfl)),?_⟩;refine λl hl=>?_;have n:x≠l:=aq hx hl;refine⟨_,rfl,x,t.Map,dx,_,rfl,by rw[aM n];exact hx,T.uW,T.eY,by show 0<1000;decide,?_⟩;exact q l _ hl ((nc.refl.upd (.inr hl)).upd (.inl mem_cons_self)) ⟨⟨dx,aC⟩,by rw[aM (Ne.symm n)];exact aC,.nil,λm hm=>absurd hm not_mem_nil⟩
def Bz(K:W.Frag)(C:Addr):Sp:=λvs H Q _=>∃(x d:Addr)(ms:Ms)(v:V)(N:Nw),vs=[.ref x,v]/\i3 K C H x d ms/\FA K H v N/\ms.length<=100/\(zE ms N->∀H',nc [d] H H'->i3 K C H' x d (tK ms v N)->Q (.bl true) H')/\(¬zE ms N->Q (.bl false) H)
theorem xK:aU ["self","news","house","newer"] ["self","news"] (aI qH):=ad
theorem Hl(T:Txt K mg t)(F:uM K "hear" "Map.hear" qH t.sv fd):eN P w K mg base (vH P w) 1 t.sv fd ["self","news"] (Bz K t.Map)/\Binds K fd ["self","news"] []:=by
 refine⟨F.G4 xK (λvs H Q E h=>?_) (λf bj A outer s H vs Q E hr h=>?_),F.binds λ_ _ _ _ _ _=>bn λ_ _=>rfl⟩
 ·obtain⟨x,d,ms,v,N,rfl,_⟩:=h;rfl
 obtain⟨x,d,ms,v,N,rfl,hM,hN,hl,q1,q2⟩:=h;refine⟨_,aF (aR (i:=2) xK.nd rfl (Or.inl rfl) (aK (aP K) (pv 1) aD (λ_ _=>rfl)))
  (aF (aR (i:=3) xK.nd rfl (Or.inl rfl) (MH (Jn (qA (bO hr) (pv 2) (oh K (pv 0) (by rfl))) (by rfl)) (pX (ba mq (aK (aP K) (pv 1) aD (λ_ _=>rfl)) (aK (aP K) (cC (bO hr) (oh K (pv 0) (by rfl)) (pv 2) (λ_ _=>rfl)) aD (λ_ _=>rfl)) (aQ _)))))
  (aF (au (ij (pv 3))
   (aG (iW (bO hr) (oh K (pv 0) (by rfl)) (pv 2) (pv 1) (by rfl)))
   (aZ))
  (aG (aX (pv 3))))),?_⟩
 have hsz:(2000:Nat)<=sizeLine:=by decide
 obtain⟨dx,hx⟩:=hM.o;obtain⟨a,p,r,zs,rfl,h1,_⟩:=hN.out;have put:zE ms N->∃H',nc [d] H H'/\H'=upd H d (.dK (lv (ms.map xv) (Sum.inl N.h) (.ref a)))/\i3 K t.Map H' x d (tK ms (.ref a) N):=λ_=>by
  have m:nc [d] H (upd H d (.dK (lv (ms.map xv) (Sum.inl N.h) (.ref a)))):=nc.refl.upd (.inl mem_cons_self);have kp:=m.kept λb hb=>by rw[mem_singleton.mp hb];exact nC.dk hM.d
  refine⟨_,m,rfl,⟨dx,by rw[aM hM.ne];exact hx⟩,by rw[aC,Nt],An hM.nd _ _,λy hy=>?_⟩;rcases FD hy with rfl|h
  ·exact hN.kept kp
  exact(hM.all y h).kept kp
 refine⟨_,rfl,a,_,_,_,rfl,rfl,h1,rfl,?_⟩;refine⟨_,rfl,_,rfl,x,t.Map,dx,_,_,rfl,hx,T.uW,T.eY,rfl,d,_,rfl,bh.k (k:=Sum.inl N.h) hM.d,?_⟩;rw[FC];cases ef:ms.find? (λm=>decide (m.2.h=N.h))with
 |none =>
  have rB:zE ms N:=λm hm e=>absurd (List.find?_eq_none.mp ef m hm) (by simp[e]);obtain⟨H',m,eH,Qt⟩:=put rB;refine⟨true,rfl,eO ?_⟩;refine⟨_,rfl,_,rfl,eO ?_⟩;refine⟨_,rfl,_,rfl,x,t.Map,dx,_,_,rfl,hx,T.uW,T.eY,rfl,_,rfl,d,_,rfl,.inl ⟨_,Sum.inl N.h,hM.d,rfl,by rw[length_map];lia,rfl⟩,?_⟩;refine⟨_,rfl,?_⟩;rw[<-eH];exact q1 rB H' m Qt
 |some y =>
  have hy:y∈ms:=List.mem_of_find?_eq_some ef;have Qu:y.2.h=N.h:=by simpa using List.find?_some ef
  obtain⟨ya,yp,yq,yz,ey,y1,_⟩:=(hM.all y hy).out;have gv:bh H d (.int N.h) (some y.1):=by have:=bh.k (k:=Sum.inl N.h) hM.d;rw[FC,ef]at this;exact this
  have rB:zE ms N↔y.2.n<N.n:=by
   constructor
   ·exact λz=>z y hy Qu
   intro z m hm e;have:m=y:=by
    obtain⟨i,hi,rfl⟩:=List.getElem_of_mem hm;obtain⟨j,hj,rfl⟩:=List.getElem_of_mem hy;have:i=j:=by have nd:=hM.nd;unfold hs at nd;have:=(List.getElem_inj (xs:=ms.map (·.2.h)) (h₀:=by simpa using hi) (h₁:=by simpa using hj) nd).mp (by simp[e,Qu]);exact this
    subst this;rfl
   rw[this];exact z
  refine⟨false,rfl,gf ?_⟩;refine⟨_,rfl,a,_,_,_,rfl,rfl,h1,rfl,_,rfl,x,t.Map,dx,_,_,rfl,hx,T.uW,T.eY,rfl,_,rfl,d,y.1,rfl,gv,ya,_,_,_,ey,rfl,y1,rfl,_,_,rfl,rfl,?_⟩;refine⟨_,rfl,_,rfl,?_⟩;by_cases cN:y.2.n<N.n
  ·obtain⟨H',m,eH,Qt⟩:=put (rB.mpr cN);refine bx cN ?_;refine⟨_,rfl,_,rfl,x,t.Map,dx,_,_,rfl,hx,T.uW,T.eY,rfl,_,rfl,d,_,rfl,.inl ⟨_,Sum.inl N.h,hM.d,rfl,by rw[length_map];lia,rfl⟩,?_⟩;refine⟨_,rfl,?_⟩;rw[<-eH];show Q (.bl (decide (y.2.n<N.n))) H';rw[decide_eq_true cN];exact q1 (rB.mpr cN) H' m Qt
  refine cB cN ?_;refine⟨_,rfl,?_⟩;show Q (.bl (decide (y.2.n<N.n))) H;rw[decide_eq_false cN];exact q2 λz=>cN (rB.mp z)
def pk(ms:Ms)(h:Int):V×Nw:=(ms.find? λm=>decide (m.2.h=h)).getD (.bu,⟨0,0,[],[]⟩)
theorem Ao{ms:Ms}{h:Int}(hh:h∈hs ms):∃y,ms.find? (λm=>decide (m.2.h=h))=some y/\y∈ms/\y.2.h=h/\pk ms h=y:=by
 obtain⟨m,hm,e⟩:=List.mem_map.mp hh;cases ef:ms.find? (λm=>decide (m.2.h=h))with
 |none=>exact absurd (List.find?_eq_none.mp ef m hm) (by simp[e])
 |some y=>exact⟨y,rfl,List.mem_of_find?_eq_some ef,by simpa using List.find?_some ef,by unfold pk;rw[ef];rfl⟩
theorem xM{ms:Ms}(nd:(hs ms).Nodup){m n:V×Nw}(hm:m∈ms)(hn:n∈ms)(e:m.2.h=n.2.h):m=n:=by obtain⟨i,hi,rfl⟩:=List.getElem_of_mem hm;obtain⟨j,hj,rfl⟩:=List.getElem_of_mem hn;unfold hs at nd;have:=(List.getElem_inj (xs:=ms.map (·.2.h)) (h₀:=by simpa using hi) (h₁:=by simpa using hj) nd).mp (by simp[e]);subst this;rfl
theorem LD{ms:Ms}(nd:(hs ms).Nodup):(hs ms).map (pk ms)=ms:=by
 unfold hs;rw[List.map_map];have:ms.map (pk ms∘λm=>m.2.h)=ms.map id:=List.map_congr_left λm hm=>by obtain⟨y,_,h2,h3,h4⟩:=Ao (ms:=ms) (h:=m.2.h) (List.mem_map.mpr ⟨m,hm,rfl⟩);show pk ms m.2.h=m;rw[h4];exact xM nd h2 hm h3
 rw[this,List.map_id]
def B0(K:W.Frag)(C:Addr):Sp:=λvs H Q _=>∃(x d:Addr)(ms:Ms),vs=[.ref x]/\i3 K C H x d ms/\ms.length<=50/\∀(r:Addr)(H':Hp)(us:Ms),aH H H'->H r=none->H' r=some (.lst (us.map (·.1)))->us.Perm ms->(hs us).Pairwise (·<·)->Q (.ref r) H'
theorem Hm:aU ["self"] ["self"] (aI nZ):=ad
theorem Hn(T:Txt K mg t)(F:uM K "news" "Map.news" nZ t.tE fd):eN P w K mg base (vH P w) 1 t.tE fd ["self"] (B0 K t.Map)/\Binds K fd ["self"] []:=by
 refine⟨F.G4 Hm (λvs H Q E h=>?_) (λf bj A outer s H vs Q E hr h=>?_),F.binds λ_ _ _ _ _ _=>bm λ_=>rfl⟩
 ·obtain⟨x,d,ms,rfl,_⟩:=h;rfl
 obtain⟨x,d,ms,rfl,hM,hl,q⟩:=h;refine⟨_,aG (aX (gg rfl (Nc:=["house","self"]) (ix:=[none,some 0]) (bR (aI nZ) ["self"] rfl rfl (by decide +kernel)) (a9 K (aT (d8 (cu hr)) (by rfl) T.cE boot_sorted (aA (oh K (pv 0) (by rfl)) aE))) (λC fp s H=>⟨(aO (i:=0) (show(["house","self"]:List Str).Nodup by decide +kernel) rfl (Or.inl rfl)),bc,(cC (bO hr) (oh K (pv 1) (by rfl)) (pv 0) (λ_ _=>rfl))⟩))),?_⟩;have hsz:(2000:Nat)<=sizeLine:=by decide
 obtain⟨dx,hx⟩:=hM.o;refine⟨_,rfl,x,t.Map,dx,_,_,rfl,hx,T.uW,T.eY,rfl,d,_,hs ms,rfl,hM.d,by rw[List.map_map];unfold hs;rw[List.map_map];rfl,by unfold hs;rw[length_map];lia,λys sl hp xu FE=>?_⟩;have s1:=(aH.refl H).new (o:=.lst (ys.map V.int)) FE;have e1:(upd H sl (.lst (ys.map V.int))) sl=some (.lst (ys.map V.int)):=aC;generalize upd H sl (.lst (ys.map V.int))=H1 at s1 e1 ⊢;have Wt:ys.length<=50:=by rw[hp.length_eq];unfold hs;rw[length_map];exact hl
 refine⟨sl,rfl,⟨_,aV.of e1⟩,λD hD=>?_⟩;refine dE (K:=K) (a:=sl) (xs:=ys.map V.int) (λi σ H'=>∃v:Option V,σ=[v,some (.ref x)]/\aH H1 H'/\H' D=some (.lst (((ys.take i).map (pk ms)).map (·.1)))) ⟨none,rfl,(aH.refl _).new hD,aC⟩ (λi σ H' _ ⟨_,_,s2,_⟩=>aV.of (s2 _ _ e1)) ?_ ?_
 ·rintro i y σ H' N hN hi ⟨v,rfl,s2,e2⟩;obtain⟨h,ho,rfl⟩:=gF hi;have Oi:i<ys.length:=(List.getElem?_eq_some_iff.mp ho).1;obtain⟨y,ef,hy,Qu,ep⟩:=Ao (hp.mem_iff.mp (mem_of_getElem? ho));have gv:bh H' d (.int h) (some y.1):=by have:=bh.k (k:=Sum.inl h) ((s1.trans s2) _ _ hM.d);rw[FC,ef]at this;exact this
  refine cO ?_;refine⟨_,rfl,x,t.Map,dx,_,_,rfl,(s1.trans s2) _ _ hx,T.uW,T.eY,rfl,_,rfl,d,y.1,rfl,gv,_,e2,by rw[length_map,length_map,length_take];lia,hN _ _ ⟨_,rfl,s2.put hD,?_⟩⟩;rw[aC,take_succ ho,map_append,map_append,<-ep];rfl
 rintro σ H' ⟨v,rfl,s2,e2⟩;rw[length_map,take_length]at e2;have pm:(ys.map (pk ms)).Perm ms:=by
  have:=hp.map (pk ms)
  rwa [LD hM.nd]at this
 refine q D H' (ys.map (pk ms)) (s1.trans s2) (s1.free hD) e2 pm ?_;have eh:hs (ys.map (pk ms))=ys:=by
  unfold hs;rw[List.map_map];have:ys.map ((λm=>m.2.h)∘pk ms)=ys.map id:=List.map_congr_left λh hh=>by obtain⟨y,_,_,h3,h4⟩:=Ao (hp.mem_iff.mp hh);show(pk ms h).2.h=h;rw[h4];exact h3
  rw[this,List.map_id]
 rw[eh];have nd:ys.Nodup:=hp.nodup_iff.mpr hM.nd;exact(xu.and nd).imp λ⟨a,b⟩=>by lia
abbrev T3:=Int×Int×Int
def ub(t:T3):PyData:=.tuple [.int t.1,.int t.2.1,.int t.2.2]
def bJ(us:Ms):List (Tk×Int):=us.flatMap λm=>m.2.near.map λw=>([m.2.h,w.o,w.a,w.b],w.q)
def gC(L:List (Tk×Int))(k:Tk):Option Int:=(L.find? λe=>decide (e.1=k)).map (·.2)
def fZ(L:List (Tk×Int))(e:Tk×Int):Option T3 :=
 match e.1 with
 |[h,o,a,b]=>if h<o then(gC L [o,h,a,b]).map λq=>(h,o,if q>e.2 then q else e.2)else none
 |_=>none
def FF(L:List (Tk×Int)):List T3:=L.filterMap (fZ L)
def b9(ms:Ms)(t:T3):Prop:=t.1<t.2.1/\∃m1∈ms,∃m2∈ms,∃w1∈m1.2.near,∃w2∈m2.2.near,m1.2.h=t.1/\m2.2.h=t.2.1/\w1.o=t.2.1/\w2.o=t.1/\w1.a=w2.a/\w1.b=w2.b/\t.2.2=max w1.q w2.q
def lT(ms:Ms):Prop:=∀m∈ms,(m.2.near.map (·.o)).Nodup/\m.2.near.length<=5
theorem hU{us:Ms}{e:Tk×Int}:e∈bJ us↔∃m∈us,∃w∈m.2.near,e=([m.2.h,w.o,w.a,w.b],w.q):=by
 unfold bJ;rw[List.mem_flatMap];constructor
 ·rintro⟨m,hm,h⟩;obtain⟨w,hw,e⟩:=List.mem_map.mp h;exact⟨m,hm,w,hw,e.symm⟩
 rintro⟨m,hm,w,hw,e⟩;exact⟨m,hm,List.mem_map.mpr ⟨w,hw,e.symm⟩⟩
theorem vY{us:Ms}(nd:(hs us).Nodup)(ok:lT us):(bJ us).Pairwise λe f=>(e.1.take 2)≠(f.1.take 2):=by
 unfold bJ;rw[List.pairwise_flatMap];constructor
 ·intro m hm;have:=(ok m hm).1;unfold List.Nodup at this;rw[List.pairwise_map]at this ⊢;refine this.imp λh e=>h ?_;simp only[List.take_succ_cons,List.take_zero,List.cons.injEq,and_true]at e;exact e.2
 unfold hs List.Nodup at nd;rw[List.pairwise_map]at nd;refine nd.imp λh x hx y hy e=>?_;obtain⟨w,_,rfl⟩:=List.mem_map.mp hx;obtain⟨v,_,rfl⟩:=List.mem_map.mp hy;simp only[List.take_succ_cons,List.take_zero,List.cons.injEq,and_true]at e;exact h e.1
theorem flat_keys{us:Ms}(nd:(hs us).Nodup)(ok:lT us):((bJ us).map (·.1)).Nodup:=by unfold List.Nodup;rw[List.pairwise_map];exact(vY nd ok).imp λh e=>h (by rw[e])
theorem cS(nd:(L.map (·.1)).Nodup){k:Tk}{q:Int}:gC L k=some q↔(k,q)∈L:=by
 unfold gC;rw[Option.map_eq_some_iff];constructor
 ·rintro⟨e,h1,rfl⟩;have:=List.mem_of_find?_eq_some h1;have h2:e.1=k:=by simpa using List.find?_some h1
  rw[<-h2];exact this
 intro h;cases ef:L.find? (λe=>decide (e.1=k))with
 |none=>exact absurd (List.find?_eq_none.mp ef _ h) (by simp)
 |some e =>
  refine⟨e,rfl,?_⟩;have h1:=List.mem_of_find?_eq_some ef;have h2:e.1=k:=by simpa using List.find?_some ef
  obtain⟨i,hi,ei⟩:=List.getElem_of_mem h1;obtain⟨j,hj,ej⟩:=List.getElem_of_mem h;have:=(List.getElem_inj (xs:=L.map (·.1)) (h₀:=by simpa using hi) (h₁:=by simpa using hj) nd).mp (by simp[ei,ej,h2]);subst this;rw[ei]at ej;rw[ej]
theorem Ho{us:Ms}(nd:(hs us).Nodup)(ok:lT us){t:T3}:t∈FF (bJ us)↔b9 us t:=by
 unfold FF;rw[List.mem_filterMap];have kn:=flat_keys nd ok;constructor
 ·rintro⟨e,he,h⟩;obtain⟨m,hm,w,hw,rfl⟩:=hU.mp he;unfold fZ at h;simp only at h;split at h
  ·rename_i cN;obtain⟨q,hq,rfl⟩:=Option.map_eq_some_iff.mp h;obtain⟨m2,Hg,w2,Qv,e2⟩:=hU.mp ((cS kn).mp hq);simp only[Prod.mk.injEq,List.cons.injEq,and_true]at e2;obtain⟨⟨e3,e4,e5,e6⟩,e7⟩:=e2;refine⟨cN,m,hm,m2,Hg,w,hw,w2,Qv,rfl,e3.symm,rfl,e4.symm,e5,e6,?_⟩;show(if q>w.q then q else w.q)=max w.q w2.q;rw[e7];split<;>lia
  cases h
 rintro⟨cN,m,hm,m2,Hg,w,hw,w2,Qv,e1,e2,e3,e4,e5,e6,e7⟩;refine⟨([m.2.h,w.o,w.a,w.b],w.q),hU.mpr ⟨m,hm,w,hw,rfl⟩,?_⟩;unfold fZ;simp only;rw[if_pos (by rw[e1,e3];exact cN)];have:gC (bJ us) [w.o,m.2.h,w.a,w.b]=some w2.q:=(cS kn).mpr (hU.mpr ⟨m2,Hg,w2,Qv,by rw[e2,e3,e4,e1,e5,e6]⟩);rw[this];show some (m.2.h,w.o,if w2.q>w.q then w2.q else w.q)=some t;obtain⟨a,b,l⟩:=t;simp only at e1 e3 e7;rw[e1,e3,e7]
 congr 3
 split<;>lia
theorem FG{us:Ms}(nd:(hs us).Nodup)(ok:lT us):(FF (bJ us)).Pairwise λs t=>(s.1,s.2.1)≠(t.1,t.2.1):=by
 unfold FF;rw[List.pairwise_filterMap];refine(vY nd ok).imp_of_mem λ{e f} he hf h b hb b' xt z=>h ?_;obtain⟨m,_,w,_,rfl⟩:=hU.mp he;obtain⟨m',_,w',_,rfl⟩:=hU.mp hf;unfold fZ at hb xt;simp only at hb xt;split at hb
 ·split at xt
  ·obtain⟨q,_,rfl⟩:=Option.map_eq_some_iff.mp hb;obtain⟨q',_,rfl⟩:=Option.map_eq_some_iff.mp xt;simp only[Prod.mk.injEq]at z;simp[z.1,z.2]
  cases xt
 cases hb
theorem FH{us:Ms}(ok:lT us):(bJ us).length<=5*us.length:=by
 induction us with
 |nil=>exact le_refl _
 |cons m us ih =>
  have h1:=(ok m mem_cons_self).2;have h2:=ih λx hx=>ok x (mem_cons_of_mem _ hx);unfold bJ at h2 ⊢;rw[List.flatMap_cons,length_append,length_map,length_cons];lia
def pG(t:T3):List Int:=[t.1,t.2.1,t.2.2]
theorem FI(s t:T3):bf (ub s) (ub t)=decide (pG s<pG t):=by obtain⟨o,q,a⟩:=s;obtain⟨o',q',a'⟩:=t;simp only[ub,pG,bf,m7,PyData.eqv,PyData.eqvAll,List.cons_lt_cons_iff];by_cases h1:o=o'<;>by_cases h2:q=q'<;>by_cases h3:a=a'<;>simp[h1,h2,h3]
theorem Nu(ts:List T3):rD (ts.map ub):=pC (κ:=List Int) (λa b h=>List.lt_asymm h) (λa b c h1 h2=>List.not_lt.mpr (List.le_trans (List.not_lt.mp h1) (List.not_lt.mp h2))) FI (λs t=>by simp[ub,uE,uP]) (.rows λd hd=>by obtain⟨w,_,rfl⟩:=List.mem_map.mp hd;exact⟨_,_,rfl⟩)
theorem zF{s t:T3}(h:pG s=pG t):s=t:=by obtain⟨a,b,c⟩:=s;obtain⟨a',b',c'⟩:=t;simp only[pG,List.cons.injEq,and_true]at h;rw[h.1,h.2.1,h.2.2]
def uc(K:W.Frag)(H:Hp)(zs:List (V×T3)):Prop:=∀z∈zs,ar K H 2 z.1 (ub z.2)
theorem zG(t:T3):zZ (ub t)=true:=by simp[ub,zZ,dz]
theorem uc.same{K:W.Frag}{H H':Hp}{zs:List (V×T3)}(h:uc K H zs)(s:aH H H'):uc K H' zs:=λz hz=>(h z hz).same s
def ng(K:W.Frag)(H:Hp)(r:Addr)(ts:List T3):Prop:=∃zs:List (V×T3),H r=some (.lst (zs.map (·.1)))/\uc K H zs/\zs.map (·.2)=ts
theorem ng.same{K:W.Frag}{H H':Hp}{r:Addr}{ts:List T3}(h:ng K H r ts)(s:aH H H'):ng K H' r ts:=by obtain⟨zs,h1,h2,h3⟩:=h;exact⟨zs,s _ _ h1,h2.same s,h3⟩
theorem bN{o:HO}(h:nC H D):Kept H (upd H D o):=(nc.refl (S:=[D]) (H:=H)).upd (.inl mem_cons_self) |>.kept λb hb=>by rw[mem_singleton.mp hb];exact h
theorem nC.LF{a:Addr}{xs:TX}(h:H a=some (iT a xs)):nC H a:=λys e=>by rcases e with e|⟨u,e⟩<;>(rw[h]at e;cases e)
theorem nC.lst{a:Addr}(h:H a=some (.lst xs)):nC H a:=λys e=>by rcases e with e|⟨u,e⟩<;>(rw[h]at e;cases e)
theorem qK{xs:TX}(h:xs.map (λp=>(p.1,p.2.2))=L.map λe=>(e.1,V.int e.2))(k:Tk):iy xs k=(gC L k).map V.int:=by
 induction xs generalizing L with
 |nil =>
  cases L with
  |nil=>rfl
  |cons _ _=>cases h
 |cons p xs ih =>
  cases L with
  |nil=>cases h
  |cons e L =>
   rw[List.map_cons,List.map_cons]at h;obtain⟨h1,h2⟩:=List.cons.inj h;obtain⟨h3,h4⟩:=Prod.mk.inj h1;have:=ih h2;unfold iy gC at this ⊢;rw[List.find?_cons,List.find?_cons,<-h3];by_cases c:p.1=k
   ·simp[c,h4]
   simp only[c,decide_false];exact this
theorem B1{xs:TX}(h:xs.map (λp=>(p.1,p.2.2))=L.map λe=>(e.1,V.int e.2)):xs.map (·.1)=L.map (·.1):=by have:=congrArg (List.map (·.1)) h;rw[List.map_map,List.map_map]at this;exact this
theorem tL(a b:Ms):bJ (a++b)=bJ a++bJ b:=by unfold bJ;rw[List.flatMap_append]
def fW(m:V×Nw)(w:Wr):Tk×Int:=([m.2.h,w.o,w.a,w.b],w.q)
theorem zH(m:V×Nw):bJ [m]=m.2.near.map (fW m):=by unfold bJ fW;simp
theorem Ap{us:Ms}{j:Nat}{m:V×Nw}{x:Wr}(hi:us[i]?=some m)(hj:m.2.near[j]?=some x):∃R,bJ us=(bJ (us.take i)++(m.2.near.take j).map (fW m))++fW m x::R:=by
 refine⟨(m.2.near.drop (j+1)).map (fW m)++bJ (us.drop (i+1)),?_⟩;obtain⟨i1,i2⟩:=List.getElem?_eq_some_iff.mp hi;obtain⟨j1,j2⟩:=List.getElem?_eq_some_iff.mp hj;have e1:us=us.take i++m::us.drop (i+1):=by rw[<-i2,List.getElem_cons_drop,List.take_append_drop]
 have e2:m.2.near=m.2.near.take j++x::m.2.near.drop (j+1):=by rw[<-j2,List.getElem_cons_drop,List.take_append_drop]
 have e3:m.2.near.map (fW m)=(m.2.near.take j).map (fW m)++fW m x::(m.2.near.drop (j+1)).map (fW m):=by rw[<-List.map_cons,<-map_append,<-e2]
 have e4:bJ us=bJ (us.take i)++(m.2.near.map (fW m)++bJ (us.drop (i+1))):=by rw[<-zH,<-tL,<-tL];exact congrArg bJ (by rw[List.singleton_append];exact e1)
 rw[e4,e3];simp only[List.append_assoc,List.cons_append]
def zI(K:W.Frag)(C:Addr):Sp:=λvs H Q _=>∃(x d:Addr)(ms:Ms),vs=[.ref x]/\i3 K C H x d ms/\ms.length<=12/\lT ms/\∀(r:Addr)(H':Hp)(ts:List T3),aH H H'->H r=none->ng K H' r ts->(∀t,t∈ts↔b9 ms t)->(ts.Pairwise λs t=>pG s<pG t)->ts.length<=60->Q (.ref r) H'
theorem br:aU ["self","told","house","number","near","names","other","quiet","pair","standing","back"] ["self"] (aI mX):=ad
set_option maxHeartbeats 2000000 in
theorem FJ{fn:FuncData}(T:Txt K mg t)(F:uM K "wires" "Map.wires" mX t.o7 fd)(Aq:eN P w K mg base (vH P w) 1 t.tE fn ["self"] (B0 K t.Map))(Ar:Binds K fn ["self"] []):eN P w K mg base (vH P w) 2 t.o7 fd ["self"] (zI K t.Map)/\Binds K fd ["self"] []:=by
 refine⟨F.G4 br (λvs H Q E h=>?_) (λf bj A outer s H vs Q E hr h=>?_),F.binds λ_ _ _ _ _ _=>bm λ_=>rfl⟩
 ·obtain⟨x,d,ms,rfl,_⟩:=h;rfl
 obtain⟨x,d,ms,rfl,hM,hl,bE,q⟩:=h;refine⟨_,aF (aR (i:=1) br.nd rfl (Or.inl rfl) Bn)
  (aF (PS.uI (bW PassesOwn.never rfl (a9 K (yI (pv 0) T.uW T.Hc (Aq.mono (by decide)) hr Ar .nil av)) (je rfl (ak (aO (i:=2) br.nd rfl (Or.inl rfl)) (ak (aO (i:=3) br.nd rfl (Or.inl rfl)) (ak (aO (i:=4) br.nd rfl (Or.inl rfl)) (ak (aO (i:=5) br.nd rfl (Or.inl rfl)) fF)))))
   (aG (bW PassesOwn.never rfl (oa K (pv 4)) (je rfl (ak (aO (i:=6) br.nd rfl (Or.inl rfl)) (ak (aO (i:=7) br.nd rfl (Or.inl rfl)) (ak (aO (i:=8) br.nd rfl (Or.inl rfl)) fF))))
    (aG (wg K (cu hr) (pv 1) (ag (aA (pv 2) (aA (pv 6) (aA (pv 8) aE)))) (pv 7) (by rfl)))))))
  (aF (aR (i:=9) br.nd rfl (Or.inl rfl) (az aE))
  (aF (PS.uI (bW PassesOwn.never rfl (jX (pv 1)) (je rfl (ak (aO (i:=2) br.nd rfl (Or.inl rfl)) (ak (aO (i:=6) br.nd rfl (Or.inl rfl)) (ak (aO (i:=8) br.nd rfl (Or.inl rfl)) fF))))
   (aF (aR (i:=10) br.nd rfl (Or.inl rfl) (ag (aA (pv 6) (aA (pv 2) (aA (pv 8) aE)))))
   (aG (au (PW.pt (jd (aL lE (pv 2) (pv 6) (aQ _)) (iU (aL (HQ K (cu hr)) (pv 10) (pv 1) (by rfl)))))
    (aG (bM (jq K PySem.F.plainAttrs_list PySem.F.slot_list_append PySem.F.type_list_append gR (pv 9) (aA (ag (aA (pv 2) (aA (pv 6) (aA (aT (pZ rfl) (by rfl) T.E4 boot_max (aA (mS K (cu hr) (pv 1) (ag (aA (pv 2) (aA (pv 6) (aA (pv 8) aE)))) (λ_ _=>rfl)) (aA (mS K (cu hr) (pv 1) (pv 10) (λ_ _=>rfl)) aE))) aE)))) aE))))
    (aZ))))))
  (aG (aX (aT (dc K (cu hr)) (by rfl) T.cE boot_sorted (aA (pv 9) aE))))))),?_⟩
 have hsz:(2000:Nat)<=sizeLine:=by decide
 refine λtd Hq=>?_;have s1:=(aH.refl H).new (o:=iT td []) Hq;have e1:(upd H td (iT td [])) td=some (iT td []):=aC;generalize upd H td (iT td [])=H1 at s1 e1 ⊢;obtain⟨dx,hx⟩:=hM.o;refine⟨_,rfl,x,dx,_,rfl,s1 _ _ hx,rfl,x,d,ms,rfl,hM.same s1,by lia,λr H2 us SO _ e2 pm Wu=>?_⟩;have s2:=s1.trans SO;have Qw:(hs us).Nodup:=(show(hs us).Perm (hs ms)from pm.map _).nodup_iff.mpr hM.nd;have Oj:lT us:=λm hm=>bE m (pm.mem_iff.mp hm);have kn:=flat_keys Qw Oj;have fl:=FH Oj;have ul:us.length<=12:=by rw[pm.length_eq];exact hl
 have nat:∀m∈us,FA K H m.1 m.2:=λm hm=>hM.all m (pm.mem_iff.mp hm);have U8:H2 td=some (iT td []):=SO _ _ e1
 let I1:Nat->_->_->Prop:=λi σ H'=>∃(xs:TX)(v2 v3 v4 v5 v6 v7 v8:Option V),σ=[some (.ref x),some (.ref td),v2,v3,v4,v5,v6,v7,v8,none,none]/\aH H H'/\H' r=some (.lst (us.map (·.1)))/\H' td=some (iT td xs)/\(∀p∈xs,cc K H' p.2.1 p.1)/\xs.map (λp=>(p.1,p.2.2))=(bJ (us.take i)).map λe=>(e.1,V.int e.2)
 refine⟨r,rfl,⟨_,aV.of e2⟩,dv (K:=K) (a:=r) (xs:=us.map (·.1)) I1 ⟨[],none,none,none,none,none,none,none,rfl,s2,e2,U8,λp hp=>absurd hp not_mem_nil,rfl⟩ (λi σ H' _ ⟨_,_,_,_,_,_,_,_,_,_,e,_⟩=>aV.of e) ?_ ?_⟩
 ·rintro i y σ H3 hi ⟨xs,v2,v3,v4,v5,v6,v7,v8,rfl,s3,e3,d3,k3,m3⟩;rw[getElem?_map]at hi;cases ez:us[i]? with
  |none=>rw[ez]at hi;cases hi
  |some m =>
   rw[ez]at hi;obtain rfl:m.1=y:=Option.some.inj hi;have U9:m∈us:=mem_of_getElem? ez;obtain⟨a,p,r2,zs,ea,h1,h2,h3,h4,h5⟩:=((nat m U9).same s3).out;refine⟨a,_,ea,h1,rfl,_,_,rfl,_,_,rfl,_,_,rfl,_,_,rfl,rfl,?_⟩
   let I2:Nat->_->_->Prop:=λj σ H'=>∃(xs:TX)(v6 v7 v8:Option V),σ=[some (.ref x),some (.ref td),some (.int m.2.h),some (.int m.2.n),some (.ref p),some (.ref r2),v6,v7,v8,none,none]/\aH H H'/\H' r=some (.lst (us.map (·.1)))/\H' td=some (iT td xs)/\ab K H' p (zs.map (·.1))/\lO K H' zs/\(∀q∈xs,cc K H' q.2.1 q.1)/\xs.map (λp=>(p.1,p.2.2))=(bJ (us.take i)++(m.2.near.take j).map (fW m)).map λe=>(e.1,V.int e.2)
   refine⟨_,rfl,p,rfl,⟨_,h2⟩,BL (K:=K) (a:=p) (xs:=zs.map (·.1)) I2 ⟨xs,v6,v7,v8,rfl,s3,e3,d3,h2,h3,k3,by rw[List.take_zero,List.map_nil,List.append_nil];exact m3⟩ (λj σ H' _ ⟨_,_,_,_,_,_,_,_,e,_⟩=>e) ?_ ?_⟩
   ·rintro j y σ H4 hj ⟨xs,v6,v7,v8,rfl,s4,e4,d4,p4,w4,k4,m4⟩;rw[getElem?_map]at hj;cases ej:zs[j]? with
    |none=>rw[ej]at hj;cases hj
    |some z =>
     rw[ej]at hj;obtain rfl:z.1=y:=Option.some.inj hj;have VA:z∈zs:=mem_of_getElem? ej;have SQ:m.2.near[j]?=some z.2:=(by rw[<-h4,getElem?_map,ej];rfl);obtain⟨wa,wp,VB,g1,g2⟩:=(w4 z VA).out;refine⟨wa,_,VB,g1,rfl,_,_,rfl,_,_,rfl,_,_,rfl,rfl,?_⟩;obtain⟨R,hR⟩:=Ap ez SQ;have LG:[m.2.h,z.2.o,z.2.a,z.2.b]∉xs.map (·.1):=by rw[B1 m4];have:=kn;rw[hR,map_append]at this;intro rF;exact(List.nodup_append.mp this).2.2 _ rF _ (List.mem_map.mpr ⟨fW m z.2,mem_cons_self,rfl⟩) rfl
     have xl:xs.length<=60:=by have:=congrArg List.length m4;rw[length_map,length_map]at this;have h6:=congrArg List.length hR;rw[length_append,length_cons]at h6;lia
     refine⟨_,rfl,_,rfl,_,rfl,_,rfl,_,rfl,zz3,λtp mx=>?_⟩;have s5:=(aH.refl H4).new (o:=.tup [.int m.2.h,.int z.2.o,.ref wp]) mx;have t5:cc K (upd H4 tp (.tup [.int m.2.h,.int z.2.o,.ref wp])) tp [m.2.h,z.2.o,z.2.a,z.2.b]:=⟨.inr ⟨_,_,_,_,wp,rfl,ab.of aC,s5.tup g2⟩⟩;generalize upd H4 tp (.tup [.int m.2.h,.int z.2.o,.ref wp])=H5 at s5 t5;have d5:=s5 _ _ d4;have k5:∀q∈xs,cc K H5 q.2.1 q.1:=λq hq=>(k4 q hq).same s5;refine⟨td,tp,xs,_,rfl,rfl,⟨.inl d5,k5⟩,d5,t5,by lia,?_⟩;rw[sg LG];have kp:=bN (o:=iT td (xs++[([m.2.h,z.2.o,z.2.a,z.2.b],tp,V.int z.2.q)])) (nC.LF d5);have VC:r≠td:=kx (s5 _ _ e4) d5 (by intro z;cases z);refine⟨xs++[([m.2.h,z.2.o,z.2.a,z.2.b],tp,V.int z.2.q)],_,_,_,rfl,(s4.trans s5).put Hq,by rw[aM VC];exact s5 _ _ e4,aC,kp.tup (s5.tup p4),(w4.same s5).kept kp,λq hq=>?_,?_⟩
     ·rcases mem_append.mp hq with h|h
      ·exact(k5 q h).kept kp
      rw[mem_singleton.mp h];exact t5.kept kp
     rw[take_succ SQ,map_append,m4,map_append (l₁:=m.2.near.take j),<-List.append_assoc,map_append (l₂:=List.map (fW m) [z.2])];rfl
   rintro σ H4 ⟨xs,v6,v7,v8,rfl,s4,e4,d4,p4,w4,k4,m4⟩;have Ku:(zs.map (·.1)).length=m.2.near.length:=(by rw[<-h4,length_map,length_map]);rw[Ku,take_length]at m4;refine⟨xs,_,_,_,_,_,_,_,rfl,s4,e4,d4,k4,?_⟩;rw[m4,take_succ ez,tL,zH]
 rintro σ H3 ⟨xs,v2,v3,v4,v5,v6,v7,v8,rfl,s3,e3,d3,k3,m3⟩;rw[length_map,take_length]at m3;refine⟨zz0,λst zV=>?_⟩;have s4:=(aH.refl H3).new (o:=.lst []) zV;have e4:(upd H3 st (.lst [])) st=some (.lst []):=aC;have Qx:H st=none:=s3.free zV;generalize upd H3 st (.lst [])=H4 at s4 e4 ⊢;have xl:xs.length<=60:=by have:=congrArg List.length m3;rw[length_map,length_map]at this;lia
 have d4:=s4 _ _ d3;refine⟨_,rfl,td,xs,rfl,d4,λu ou=>?_⟩;have kz:=bN (o:=u) (nC.LF d4);have s5:aH H (upd H4 td u):=(s3.trans s4).put Hq;have SR:st≠td:=kx e4 d4 (by intro z;cases z);have e5:(upd H4 td u) st=some (.lst []):=by rw[aM SR];exact e4
 have k5:∀p∈xs,cc K (upd H4 td u) p.2.1 p.1:=λp hp=>((k3 p hp).same s4).kept kz;have d5:(upd H4 td u) td=some u:=aC;generalize upd H4 td u=H5 at s5 e5 k5 d5 ⊢
 let I3:Nat->_->_->Prop:=λi σ H'=>∃(zs:List (V×T3))(v2 v3 v4 v5 v6 v7 v8 v10:Option V),σ=[some (.ref x),some (.ref td),v2,v3,v4,v5,v6,v7,v8,some (.ref st),v10]/\aH H H'/\H' td=some u/\(∀p∈xs,cc K H' p.2.1 p.1)/\H' st=some (.lst (zs.map (·.1)))/\uc K H' zs/\zs.map (·.2)=((bJ us).take i).filterMap (fZ (bJ us))
 refine nY (d:=td) (u:=u) (xs:=xs) I3 ⟨[],v2,v3,v4,v5,v6,v7,v8,none,rfl,s5,d5,k5,e5,λz hz=>absurd hz not_mem_nil,rfl⟩ (λi σ H' _ ⟨_,_,_,_,_,_,_,_,_,_,_,e,_⟩=>e) ?_ ?_
 ·rintro i p σ H6 hi ⟨zs,v2,v3,v4,v5,v6,v7,v8,v10,rfl,s6,d6,k6,e6,t6,m6⟩;have eL:∃e,(bJ us)[i]?=some e/\p.1=e.1/\p.2.2=.int e.2:=by
   have:(xs.map λp=>(p.1,p.2.2))[i]?=some (p.1,p.2.2):=(by rw[getElem?_map,hi];rfl);rw[m3,getElem?_map]at this;cases ee:(bJ us)[i]? with
   |none=>rw[ee]at this;cases this
   |some e =>
    rw[ee]at this;obtain⟨z1,z2⟩:=Prod.mk.inj (Option.some.inj this);exact⟨e,rfl,z1.symm,z2.symm⟩
  obtain⟨e,ee,Hr,Ol⟩:=eL;obtain⟨m,hm,ww,Wv,rfl⟩:=hU.mp (mem_of_getElem? ee);have SS:=k6 p (mem_of_getElem? hi);rw[Hr]at SS;rcases SS.ex with⟨_,_,z,_⟩|⟨h,o,a,b,pb,z,g1,g2⟩
  ·simp at z
  simp only[List.cons.injEq,and_true]at z;obtain⟨rfl,rfl,rfl,rfl⟩:=z;have Ku:zs.length<=60:=by have:=congrArg List.length m6;rw[length_map]at this;have h2:=List.length_filterMap_le (fZ (bJ us)) ((bJ us).take i);rw[length_take]at h2;lia
  refine⟨p.2.1,_,rfl,g1,rfl,_,_,rfl,_,_,rfl,_,_,rfl,rfl,?_⟩;refine⟨_,rfl,_,rfl,_,rfl,zz3,λbk VD=>?_⟩;have s7:=(aH.refl H6).new (o:=.tup [.int ww.o,.int m.2.h,.ref pb]) VD;have tb:cc K (upd H6 bk (.tup [.int ww.o,.int m.2.h,.ref pb])) bk [ww.o,m.2.h,ww.a,ww.b]:=⟨.inr ⟨_,_,_,_,pb,rfl,ab.of aC,s7.tup g2⟩⟩;generalize upd H6 bk (.tup [.int ww.o,.int m.2.h,.ref pb])=H7 at s7 tb ⊢;have d7:=s7 _ _ d6;have k7:∀p∈xs,cc K H7 p.2.1 p.1:=λp hp=>(k6 p hp).same s7;have ko:fZ (bJ us) ([m.2.h,ww.o,ww.a,ww.b],ww.q)=none->I3 (i+1) [some (.ref x),some (.ref td),some (.int m.2.h),v3,v4,v5,some (.int ww.o),v7,some (.ref pb),some (.ref st),some (.ref bk)] H7:=λLi=>by refine⟨zs,_,_,_,_,_,_,_,_,rfl,s6.trans s7,d7,k7,s7 _ _ e6,t6.same s7,?_⟩;rw[take_succ ee,List.filterMap_append,m6,List.filterMap_cons,Li];simp
  refine⟨_,rfl,_,rfl,_,_,rfl,rfl,_,rfl,?_⟩;by_cases cN:m.2.h<ww.o
  ·refine bx cN ?_;refine⟨_,rfl,_,rfl,td,bk,xs,_,rfl,rfl,⟨.inr ⟨u,d7,ou⟩,k7⟩,tb,_,rfl,?_⟩;show if decide ([ww.o,m.2.h,ww.a,ww.b]∈xs.map (·.1))=true then _ else _;have vb:=qK m3 [ww.o,m.2.h,ww.a,ww.b];by_cases Bk:[ww.o,m.2.h,ww.a,ww.b]∈xs.map (·.1)
   ·refine bx Bk ?_;have As:(iy xs [ww.o,m.2.h,ww.a,ww.b]).isSome=true:=(by rw[cK,decide_eq_true Bk]);rw[vb,Option.isSome_map]at As;obtain⟨q2,Om⟩:=Option.isSome_iff_exists.mp As;rw[Om]at vb;have va:iy xs [m.2.h,ww.o,ww.a,ww.b]=some (.int ww.q):=by rw[qK m3,(cS kn).mpr (mem_of_getElem? ee)];rfl
    refine⟨_,rfl,.inl ⟨rfl,_,aV.of (s7 _ _ e6)⟩,_,rfl,_,rfl,_,rfl,_,rfl,_,rfl,_,rfl,zz3,λkt LH=>?_⟩;have s8:=(aH.refl H7).new (o:=.tup [.int m.2.h,.int ww.o,.ref pb]) LH;have tk:cc K (upd H7 kt (.tup [.int m.2.h,.int ww.o,.ref pb])) kt [m.2.h,ww.o,ww.a,ww.b]:=⟨.inr ⟨_,_,_,_,pb,rfl,ab.of aC,s8.tup (s7.tup g2)⟩⟩;generalize upd H7 kt (.tup [.int m.2.h,.int ww.o,.ref pb])=H8 at s8 tk;have SU:TD K H8 td xs:=⟨.inr ⟨u,s8 _ _ d7,ou⟩,λp hp=>(k7 p hp).same s8⟩;refine⟨td,kt,xs,_,_,rfl,rfl,SU,tk,va,_,rfl,_,rfl,td,bk,xs,_,_,rfl,rfl,SU,tb.same s8,vb,ww.q,q2,rfl,zz3,λtp mx=>?_⟩;have s9:=(aH.refl H8).new (o:=.tup [.int m.2.h,.int ww.o,.int (if q2>ww.q then q2 else ww.q)]) mx;have dn:ar K (upd H8 tp (.tup [.int m.2.h,.int ww.o,.int (if q2>ww.q then q2 else ww.q)])) 2 (.ref tp) (ub (m.2.h,ww.o,if q2>ww.q then q2 else ww.q)):=by
     refine .tup (ab.of aC) rfl λi v d e1 e2=>?_
     match i with
     |0=>cases e1;cases e2;exact .int _
     |1=>cases e1;cases e2;exact .int _
     |2=>cases e1;cases e2;exact .int _
     |i+3=>simp at e1
    generalize upd H8 tp (.tup [.int m.2.h,.int ww.o,.int (if q2>ww.q then q2 else ww.q)])=H9 at s9 dn;have Lw:=s7.trans (s8.trans s9);refine⟨st,_,_,rfl,rfl,Lw _ _ e6,by rw[length_map];lia,?_⟩;have kp:=bN (o:=.lst (zs.map (·.1)++[V.ref tp])) (nC.lst (Lw _ _ e6));refine⟨zs++[(.ref tp,(m.2.h,ww.o,if q2>ww.q then q2 else ww.q))],_,_,_,_,_,_,_,_,rfl,(s6.trans Lw).put Qx,by rw[aM (Ne.symm SR)];exact Lw _ _ d6,λp hp=>((k6 p hp).same Lw).kept kp,by rw[aC,map_append];rfl,λz hz=>?_,?_⟩
    ·rcases mem_append.mp hz with h|h
     ·exact((t6 z h).same Lw).kept kp (zG _)
     rw[mem_singleton.mp h];exact dn.kept kp (zG _)
    rw[take_succ ee,List.filterMap_append,map_append,m6,List.filterMap_cons];have:fZ (bJ us) ([m.2.h,ww.o,ww.a,ww.b],ww.q)=some (m.2.h,ww.o,if q2>ww.q then q2 else ww.q):=by unfold fZ;simp only;rw[if_pos cN,Om];rfl
    rw[this];rfl
   refine cB Bk ?_;refine ko ?_;unfold fZ;simp only;rw[if_pos cN];have As:(iy xs [ww.o,m.2.h,ww.a,ww.b]).isSome=false:=(by rw[cK,decide_eq_false Bk]);rw[vb,Option.isSome_map]at As;have:gC (bJ us) [ww.o,m.2.h,ww.a,ww.b]=none:=(by simpa using As);rw[this];rfl
  refine cB cN ?_;refine ko ?_;unfold fZ;simp only;rw[if_neg cN]
 rintro σ H6 ⟨zs,v2,v3,v4,v5,v6,v7,v8,v10,rfl,s6,d6,k6,e6,t6,m6⟩;have VE:xs.length=(bJ us).length:=by
  have:=congrArg List.length m3
  rwa [length_map,length_map]at this
 rw[VE,take_length]at m6;have Ku:zs.length<=60:=by have:=congrArg List.length m6;rw[length_map]at this;have h2:=List.length_filterMap_le (fZ (bJ us)) (bJ us);lia
 refine⟨_,rfl,true,st,zs.map λz=>(z.1,ub z.2),rfl,by rw[List.map_map];exact aV.of e6,by rw[length_map];lia,λy hy=>?_,by have:=Nu (zs.map (·.2));rw[List.map_map]at this ⊢;exact this,λys r2 hp xu uR=>?_⟩
 ·obtain⟨z,hz,rfl⟩:=List.mem_map.mp hy;exact ar.up (t6 z hz) (by decide)
 obtain⟨vs,E9,rfl⟩:=perm_back (λz:V×T3=>(z.1,ub z.2)) hp zs rfl;have s7:=(aH.refl H6).new (o:=.lst ((vs.map λz=>(z.1,ub z.2)).map (·.1))) uR;have Nv:(vs.map (·.2)).Perm (FF (bJ us)):=by have:=E9.map (·.2);rw[m6]at this;exact this
 refine q r2 _ (vs.map (·.2)) (s6.trans s7) (s6.free uR) ⟨vs,by rw[aC,List.map_map];rfl,λz hz=>(t6 z (E9.mem_iff.mp hz)).same s7,rfl⟩ (λtt=>?_) ?_ (by rw[length_map,E9.length_eq];exact Ku)
 ·rw[Nv.mem_iff,Ho Qw Oj];unfold b9;refine and_congr_right λ_=>?_;constructor
  ·rintro⟨m1,h1,m2,h2,z⟩;exact⟨m1,pm.mem_iff.mp h1,m2,pm.mem_iff.mp h2,z⟩
  rintro⟨m1,h1,m2,h2,z⟩;exact⟨m1,pm.mem_iff.mpr h1,m2,pm.mem_iff.mpr h2,z⟩
 have pw:(vs.map (·.2)).Pairwise λs t=>(s.1,s.2.1)≠(t.1,t.2.1):=(Nv.pairwise_iff λ{a b} h=>h.symm).mpr (FG Qw Oj);have so:(vs.map (·.2)).Pairwise λs t=>bf (ub t) (ub s)=false:=by rw[List.pairwise_map]at xu ⊢;exact xu
 refine(so.and pw).imp λ{s t} ⟨h1,h2⟩=>?_;rw[FI,decide_eq_false_iff_not]at h1;by_cases h:pG s<pG t
 ·exact h
 exact absurd (by rw[zF (List.le_antisymm (List.not_lt.mp h1) (List.not_lt.mp h))]) h2
def oV:Option Int->V
 |none=>.bu
 |some n=>.int n
structure hV(K:W.Frag)(H:Hp)(l:Addr)(ps:List (Int×Int)):Prop where
 ex:∃zs:List (Addr×Int×Int),H l=some (.lst (zs.map λz=>V.ref z.1))/\(∀z∈zs,ab K H z.1 [.int z.2.1,.int z.2.2])/\zs.map (·.2)=ps
theorem hV.same{l:Addr}(h:hV K H l ps)(s:aH H H'):hV K H' l ps:=by obtain⟨zs,h1,h2,h3⟩:=h.ex;exact⟨zs,s _ _ h1,λz hz=>s.tup (h2 z hz),h3⟩
theorem Au:∀{l:List Wr},(l.map (·.o)).Nodup->∀{a b:Wr},a∈l->b∈l->a.o=b.o->a=b
 |[],_,_,_,h,_,_=>absurd h not_mem_nil
 |x::l,nd,a,b,ha,hb,e=>by
  rw[List.map_cons]at nd;obtain⟨h1,h2⟩:=List.nodup_cons.mp nd;rcases mem_cons.mp ha with rfl|ha
  ·rcases mem_cons.mp hb with rfl|hb
   ·rfl
   exact absurd (List.mem_map.mpr ⟨b,hb,e.symm⟩) h1
  rename_i Ww;rcases mem_cons.mp hb with hb|hb
  ·exact absurd (List.mem_map.mpr ⟨a,ha,by rw[e,hb]⟩) h1
  exact Au h2 ha hb e
theorem qp{ms:Ms}(nd:(hs ms).Nodup)(ok:lT ms){s t:T3}(rX:b9 ms s)(ht:b9 ms t)(e1:s.1=t.1)(e2:s.2.1=t.2.1):s=t:=by obtain⟨_,m1,h1,m2,h2,w1,g1,w2,g2,a1,a2,a3,a4,_,_,a5⟩:=rX;obtain⟨_,n1,k1,n2,k2,v1,f1,v2,f2,b1,b2,b3,b4,_,_,b5⟩:=ht;obtain rfl:=xM nd h1 k1 (by lia);obtain rfl:=xM nd h2 k2 (by lia);obtain rfl:=Au (ok m1 h1).1 g1 f1 (by lia);obtain rfl:=Au (ok m2 h2).1 g2 f2 (by lia);exact Prod.ext e1 (Prod.ext e2 (by rw[a5,b5]))
theorem qL{n:Nat}{v:V}{t:T3}(h:ar K H n v (ub t)):∃a,v=.ref a/\ab K H a [.int t.1,.int t.2.1,.int t.2.2]:=by
 cases n with
 |zero=>cases h
 |succ n =>
  obtain⟨a,xs,rfl,h1,h2,h3⟩:=xD h
  match xs,h2 with
  |[x,y,z],_ =>
   obtain rfl:=o9 (h3 0 x _ rfl rfl);obtain rfl:=o9 (h3 1 y _ rfl rfl);obtain rfl:=o9 (h3 2 z _ rfl rfl);exact⟨a,rfl,h1⟩
def Lx(t:T3):List (Tk×Int):=[([t.1,t.2.1],t.2.2),([t.2.1,t.1],t.2.2)]
def bo(ts:List T3):List (Tk×Int):=ts.flatMap Lx
structure vZ(ts:List T3):Prop where
 lt:∀t∈ts,t.1<t.2.1
 pw:ts.Pairwise λs t=>¬(s.1=t.1/\s.2.1=t.2.1)
theorem bA{ts:List T3}{e:Tk×Int}:e∈bo ts↔∃t∈ts,e=([t.1,t.2.1],t.2.2)\/e=([t.2.1,t.1],t.2.2):=by unfold bo Lx;rw[List.mem_flatMap];simp only[mem_cons,not_mem_nil,or_false]
theorem hW:∀{ts:List T3},vZ ts->((bo ts).map (·.1)).Nodup
 |[],_=>List.nodup_nil
 |t::ts,h=>by
  obtain⟨p1,p2⟩:=List.pairwise_cons.mp h.pw;have ih:=hW (ts:=ts) ⟨λs hs=>h.lt s (mem_cons_of_mem _ hs),p2⟩;have t0:=h.lt t mem_cons_self;have no:∀k,k=[t.1,t.2.1]\/k=[t.2.1,t.1]->k∉(bo ts).map (·.1):=λk hk hm=>by obtain⟨e,he,rfl⟩:=List.mem_map.mp hm;obtain⟨s,hs,z⟩:=bA.mp he;have s0:=h.lt s (mem_cons_of_mem _ hs);have:=p1 s hs;rcases z with rfl|rfl<;>rcases hk with hk|hk<;>simp only[List.cons.injEq,and_true]at hk<;>lia
  show(([t.1,t.2.1]::[t.2.1,t.1]::(bo ts).map (·.1))).Nodup;refine List.nodup_cons.mpr ⟨λz=>?_,List.nodup_cons.mpr ⟨no _ (.inr rfl),ih⟩⟩;rcases mem_cons.mp z with z|z
  ·simp only[List.cons.injEq,and_true]at z;lia
  exact no _ (.inl rfl) z
theorem B2(a b:List T3):bo (a++b)=bo a++bo b:=by unfold bo;rw[List.flatMap_append]
theorem xN(ts:List T3):(bo ts).length=2*ts.length:=by
 induction ts with
 |nil=>rfl
 |cons t ts ih =>
  show(Lx t++bo ts).length=_;rw[length_append,ih,length_cons];show 2+_=_;lia
structure pH(K:W.Frag)(H:Hp)(td:Addr)(L:List (Tk×Int))(xs:TX):Prop where
 d:H td=some (iT td xs)
 k:∀p∈xs,cc K H p.2.1 p.1
 m:xs.map (λp=>(p.1,p.2.2))=L.map λe=>(e.1,V.int e.2)
theorem pH.same{K:W.Frag}{H H':Hp}{td:Addr}{L:List (Tk×Int)}{xs:TX}(h:pH K H td L xs)(s:aH H H'):pH K H' td L xs:=⟨s _ _ h.d,λp hp=>(h.k p hp).same s,h.m⟩
def i4(K:W.Frag)(C:Addr):Sp:=λvs H Q _=>∃(x d:Addr)(ms:Ms),vs=[.ref x]/\i3 K C H x d ms/\ms.length<=12/\lT ms/\∀(td:Addr)(H':Hp)(ts:List T3)(xs:TX),aH H H'->H td=none->pH K H' td (bo ts) xs->(∀t,t∈ts↔b9 ms t)->vZ ts->ts.length<=60->Q (.ref td) H'
theorem dQ:aU ["chart","lengths","one","other","length"] ["chart"] (aI gG):=ad
set_option maxHeartbeats 2000000 in
theorem ud(F:aN K mg "lengths_of" gG)(T:Txt K mg t)(xO:eN P w K mg base (vH P w) 2 t.o7 fw ["self"] (zI K t.Map))(xP:Binds K fw ["self"] []):Def P w K mg base 3 "lengths_of" ["chart"] (i4 K t.Map):=by
 refine F.def dQ (λ_ _ _ _ _ _=>bm λ_=>rfl) (λvs H Q E h=>?_) (λf bj A outer s H vs Q E hr h=>?_)
 ·obtain⟨x,d,ms,rfl,_⟩:=h;rfl
 obtain⟨x,d,ms,rfl,hM,hl,bE,q⟩:=h;refine⟨_,aF (aR (i:=1) dQ.nd rfl (Or.inl rfl) Bn)
  (aF (PS.uI (bW PassesOwn.never rfl (a9 K (yI (pv 0) T.uW T.E5 (xO.mono (by decide)) hr xP .nil av)) (je rfl (ak (aO (i:=2) dQ.nd rfl (Or.inl rfl)) (ak (aO (i:=3) dQ.nd rfl (Or.inl rfl)) (ak (aO (i:=4) dQ.nd rfl (Or.inl rfl)) fF))))
   (aF (wg K (cu hr) (pv 1) (ag (aA (pv 2) (aA (pv 3) aE))) (pv 4) (by rfl))
   (aG (wg K (cu hr) (pv 1) (ag (aA (pv 3) (aA (pv 2) aE))) (pv 4) (by rfl))))))
  (aG (aX (pv 1)))),?_⟩
 have hsz:(2000:Nat)<=sizeLine:=by decide
 refine λtd Hq=>?_;have s1:=(aH.refl H).new (o:=iT td []) Hq;have e1:(upd H td (iT td [])) td=some (iT td []):=aC;generalize upd H td (iT td [])=H1 at s1 e1 ⊢;obtain⟨dx,hx⟩:=hM.o;refine⟨_,rfl,x,dx,_,rfl,s1 _ _ hx,rfl,x,d,ms,rfl,hM.same s1,hl,bE,λr H2 ts s2 nr w2 m2 p2 tl=>?_⟩;have VF:∀t∈ts,t.1<t.2.1:=λt ht=>((m2 t).mp ht).1;have zJ:vZ ts:=⟨VF,p2.imp_of_mem λ{s t} hs ht h e=>by have:=qp hM.nd bE ((m2 s).mp hs) ((m2 t).mp ht) e.1 e.2;rw[this]at h;exact List.lt_irrefl _ h⟩
 have kn:=hW zJ;obtain⟨zs,z1,z2,z3⟩:=w2;have S2:=s1.trans s2;have VG:r≠td:=λz=>by rw[z,e1]at nr;cases nr
 let I:Nat->_->_->Prop:=λi σ H'=>∃(xs:TX)(v2 v3 v4:Option V),σ=[some (.ref x),some (.ref td),v2,v3,v4]/\aH H H'/\H' r=some (.lst (zs.map (·.1)))/\uc K H' zs/\pH K H' td (bo (ts.take i)) xs
 refine⟨r,rfl,⟨_,aV.of z1⟩,dv (K:=K) (a:=r) (xs:=zs.map (·.1)) I ⟨[],none,none,none,rfl,S2,z1,z2,s2 _ _ e1,λp hp=>absurd hp not_mem_nil,rfl⟩ (λi σ H' _ ⟨_,_,_,_,_,_,e,_⟩=>aV.of e) ?_ ?_⟩
 ·rintro i y σ H3 hi ⟨xs,v2,v3,v4,rfl,s3,e3,t3,l3⟩;rw[getElem?_map]at hi;cases ez:zs[i]? with
  |none=>rw[ez]at hi;cases hi
  |some z =>
   rw[ez]at hi;obtain rfl:z.1=y:=Option.some.inj hi;have et:ts[i]?=some z.2:=(by rw[<-z3,getElem?_map,ez];rfl);obtain⟨za,ea,g1⟩:=qL (t3 z (mem_of_getElem? ez));refine⟨za,_,ea,g1,rfl,_,_,rfl,_,_,rfl,_,_,rfl,rfl,?_⟩;have i1:i<ts.length:=(List.getElem?_eq_some_iff.mp et).1;have xl:xs.length<=200:=by have:=congrArg List.length l3.m;rw[length_map,length_map,xN,length_take]at this;lia
   have one:∀{H4:Hp}{xs:TX}{L R:List (Tk×Int)}{a b l:Int}{k:Addr},H4 k=none->bo ts=L++([a,b],l)::R->aH H H4->H4 r=some (.lst (zs.map (·.1)))->uc K H4 zs->pH K H4 td L xs->xs.length<=300->cc K (upd H4 k (.tup [.int a,.int b])) k [a,b]/\TD K (upd H4 k (.tup [.int a,.int b])) td xs/\(upd H4 k (.tup [.int a,.int b])) td=some (iT td xs)/\aH H (upd (upd H4 k (.tup [.int a,.int b])) td (iT td (jt xs [a,b] k (.int l))))/\(upd (upd H4 k (.tup [.int a,.int b])) td (iT td (jt xs [a,b] k (.int l)))) r=some (.lst (zs.map (·.1)))/\uc K (upd (upd H4 k (.tup [.int a,.int b])) td (iT td (jt xs [a,b] k (.int l)))) zs/\pH K (upd (upd H4 k (.tup [.int a,.int b])) td (iT td (jt xs [a,b] k (.int l)))) td (L++[([a,b],l)]) (jt xs [a,b] k (.int l))/\(jt xs [a,b] k (.int l)).length<=xs.length+1:=by
    intro H4 xs L R a b l k hk hL s4 r4 t4 l4 xl;have s5:=(aH.refl H4).new (o:=.tup [.int a,.int b]) hk;have t5:cc K (upd H4 k (.tup [.int a,.int b])) k [a,b]:=⟨.inl ⟨_,_,rfl,ab.of aC⟩⟩;generalize upd H4 k (.tup [.int a,.int b])=H5 at s5 t5 ⊢;have LG:[a,b]∉xs.map (·.1):=by rw[B1 l4.m];have:=kn;rw[hL,map_append]at this;intro rF;exact(List.nodup_append.mp this).2.2 _ rF _ (List.mem_map.mpr ⟨([a,b],l),mem_cons_self,rfl⟩) rfl
    have d5:=s5 _ _ l4.d;rw[sg LG];have kp:=bN (o:=iT td (xs++[([a,b],k,V.int l)])) (nC.LF d5);have k5:∀q∈xs,cc K H5 q.2.1 q.1:=λq hq=>(l4.k q hq).same s5;refine⟨t5,⟨.inl d5,k5⟩,d5,(s4.trans s5).put Hq,by rw[aM VG];exact s5 _ _ r4,λz hz=>((t4 z hz).same s5).kept kp (zG _),⟨aC,λq hq=>?_,?_⟩,by rw[length_append];exact le_refl _⟩
    ·rcases mem_append.mp hq with h|h
     ·exact(k5 q h).kept kp
     rw[mem_singleton.mp h];exact t5.kept kp
    rw[map_append,l4.m,map_append];rfl
   obtain⟨R,hR⟩:∃R,bo ts=bo (ts.take i)++(Lx z.2++R):=by obtain⟨j1,j2⟩:=List.getElem?_eq_some_iff.mp et;refine⟨bo (ts.drop (i+1)),?_⟩;have e1:ts=ts.take i++z.2::ts.drop (i+1):=(by rw[<-j2,List.getElem_cons_drop,List.take_append_drop]);have:bo (ts.take i++z.2::ts.drop (i+1))=bo (ts.take i)++(Lx z.2++bo (ts.drop (i+1))):=(by rw[B2];rfl);rw[<-this,<-e1]
   refine⟨_,rfl,_,rfl,_,rfl,_,rfl,zz2,λk1 VH=>?_⟩;obtain⟨a1,a2,a3,a4,a5,a6,a7,a8⟩:=one VH hR s3 e3 t3 l3 (by lia);refine⟨td,k1,xs,_,rfl,rfl,a2,a3,a1,by lia,?_⟩;generalize upd (upd H3 k1 (.tup [.int z.2.1,.int z.2.2.1])) td (iT td (jt xs [z.2.1,z.2.2.1] k1 (.int z.2.2.2)))=H4 at a4 a5 a6 a7;generalize jt xs [z.2.1,z.2.2.1] k1 (.int z.2.2.2)=VJ at a7 a8;refine⟨_,rfl,_,rfl,_,rfl,_,rfl,zz2,λk2 VL=>?_⟩;obtain⟨b1,b2,b3,b4,b5,b6,b7,b8⟩:=one VL (L:=bo (ts.take i)++[([z.2.1,z.2.2.1],z.2.2.2)]) (R:=R) (a:=z.2.2.1) (b:=z.2.1) (l:=z.2.2.2) (by rw[hR];unfold Lx;simp) a4 a5 a6 a7 (by lia);refine⟨td,k2,VJ,_,rfl,rfl,b2,b3,b1,by lia,?_⟩;rw[List.append_assoc]at b7;exact⟨_,_,_,_,rfl,b4,b5,b6,by rw[take_succ et,B2];exact b7⟩
 rintro σ H3 ⟨xs,v2,v3,v4,rfl,s3,e3,t3,l3⟩;have:(zs.map (·.1)).length=ts.length:=by rw[<-z3,length_map,length_map]
 rw[this,take_length]at l3;exact⟨_,rfl,q td H3 ts xs s3 Hq l3 m2 zJ tl⟩
abbrev Hv:=List (Int×Int)
def fS(p:Int×Int):Key×V:=(Sum.inl p.1,.int p.2)
def lk(hv:Hv)(h:Int):Option Int:=(hv.find? λp=>decide (p.1=h)).map (·.2)
def j0(hv:Hv)(h n:Int):Hv:=if h∈hv.map (·.1)then hv.map (λp=>if p.1=h then(h,n)else p)else hv++[(h,n)]
theorem gD(hv:Hv)(h:Int):fY (hv.map fS) (Sum.inl h)=(lk hv h).map V.int:=by
 unfold fY lk;rw[List.find?_map,Option.map_map,Option.map_map];have e:((λkv:Key×V=>decide (kv.1=Sum.inl h))∘fS)=λp:Int×Int=>decide (p.1=h):=by
  funext m
  simp[fS]
 rw[e];rfl
theorem B3(hv:Hv)(h n:Int):lv (hv.map fS) (Sum.inl h) (.int n)=(j0 hv h n).map fS:=by
 unfold lv j0;have e:((hv.map fS).any λkv=>decide (kv.1=Sum.inl h))=decide (h∈hv.map (·.1)):=by
  rw[List.any_map,Bool.eq_iff_iff,List.any_eq_true,decide_eq_true_iff,List.mem_map];constructor
  ·rintro⟨m,hm,h⟩;exact⟨m,hm,by simpa[fS]using h⟩
  rintro⟨m,hm,h⟩;exact⟨m,hm,by simp[fS,h]⟩
 rw[e];by_cases c:h∈hv.map (·.1)
 ·rw[if_pos (by simpa using c),if_pos c,List.map_map,List.map_map];refine List.map_congr_left λm _=>?_;show(if(fS m).1=Sum.inl h then((fS m).1,V.int n)else fS m)=fS (if m.1=h then(h,n)else m);by_cases c:m.1=h
  ·rw[if_pos c,if_pos (by simp[fS,c])];simp[fS,c]
  rw[if_neg c,if_neg (by simp[fS,c])]
 rw[if_neg (by simpa using c),if_neg c,map_append];rfl
theorem dG{hv:Hv}{h:Int}:lk hv h=none↔h∉hv.map (·.1):=by
 unfold lk;rw[Option.map_eq_none_iff,List.find?_eq_none];constructor
 ·intro a b;obtain⟨p,hp,e⟩:=List.mem_map.mp b;exact a p hp (by simpa using e)
 intro a p hp e;exact a (List.mem_map.mpr ⟨p,hp,by simpa using e⟩)
theorem fA(hv:Hv)(h n x:Int):lk (j0 hv h n) x=if x=h then some n else lk hv x:=by
 unfold j0;by_cases c:h∈hv.map (·.1)
 ·rw[if_pos c];by_cases e:x=h
  ·subst e;rw[if_pos rfl];have key:∀l:Hv,x∈l.map (·.1)->lk (l.map λp=>if p.1=x then(x,n)else p) x=some n:=by
    intro l
    induction l with
    |nil=>intro z;cases z
    |cons p l ih =>
     intro z;unfold lk;rw[List.map_cons,List.find?_cons];by_cases d:p.1=x
     ·simp[d]
     simp only[d,if_false,decide_false];have:=ih ((mem_cons.mp z).resolve_left λe=>d e.symm);unfold lk at this;exact this
   exact key hv c
  rw[if_neg e];unfold lk
  congr 1
  clear c
  induction hv with
  |nil=>rfl
  |cons p l ih =>
   rw[List.map_cons,List.find?_cons,List.find?_cons,ih];by_cases d:p.1=h
   ·have h1:¬h=x:=λz=>e z.symm;simp[d,h1]
   simp[d]
 rw[if_neg c];unfold lk;rw[List.find?_append];by_cases e:x=h
 ·subst e;have:hv.find? (λp=>decide (p.1=x))=none:=by
   have:=dG.mpr c;unfold lk at this
   simpa using this
  rw[this];simp
 have:¬h=x:=λz=>e z.symm;simp[e,this]
theorem zK(hv:Hv)(h n:Int):(j0 hv h n).map (·.1)=if h∈hv.map (·.1)then hv.map (·.1)else hv.map (·.1)++[h]:=by
 unfold j0;by_cases c:h∈hv.map (·.1)
 ·rw[if_pos c,if_pos c,List.map_map];refine List.map_congr_left λm _=>?_;show(if m.1=h then(h,n)else m).1=m.1;split
  ·rename_i c;exact c.symm
  rfl
 rw[if_neg c,if_neg c,map_append];rfl
theorem vc{hv:Hv}(nd:(hv.map (·.1)).Nodup)(h n:Int):((j0 hv h n).map (·.1)).Nodup:=by
 rw[zK];split
 ·exact nd
 rename_i c;refine List.nodup_append.mpr ⟨nd,by simp,λa ha b hb=>?_⟩;rw[mem_singleton.mp hb];rintro rfl;exact c ha
theorem Hs(hv:Hv)(h n:Int):(j0 hv h n).length=if h∈hv.map (·.1)then hv.length else hv.length+1:=by
 have:=congrArg List.length (zK hv h n);rw[length_map]at this;rw[this];split
 ·rw[length_map]
 rw[length_append,length_map];rfl
structure Ht(L:List (Tk×Int))(goal:Int)(hv:Hv):Prop where
 nd:(hv.map (·.1)).Nodup
 g:lk hv goal=some 0
 pos:∀x n,lk hv x=some n->0<=n
 par:∀x n,lk hv x=some n->x≠goal->∃e l m,([x,e],l)∈L/\lk hv e=some m/\m+l<=n
 bd:∀x n,lk hv x=some n->n<=1000*((hv.length:Int)-1)
theorem Ht.start(L:List (Tk×Int))(goal:Int):Ht L goal [(goal,0)]:=by
 have one:∀x n,lk [(goal,0)] x=some n->x=goal/\n=0:=λx n h=>by
  unfold lk at h;by_cases c:goal=x
  ·subst c;simp at h;exact⟨rfl,h.symm⟩
  simp[c]at h
 refine⟨by simp,by simp[lk],λx n h=>?_,λx n h ne=>absurd (one x n h).1 ne,λx n h=>?_⟩
 ·rw[(one x n h).2];exact Int.le_refl _
 rw[(one x n h).2];show(0:Int)<=1000*(((1:Nat):Int)-1);decide
def FK(hv:Hv)(b k:Int):Prop:=lk hv b=none\/∃n,lk hv b=some n/\k<n
theorem Ht.put{hv:Hv}(h:Ht L goal hv){b e l m:Int}(he:([b,e],l)∈L)(l1:1<=l)(l2:l<=1000)(hm:lk hv e=some m)(f:FK hv b (m+l)):Ht L goal (j0 hv b (m+l)):=by
 have m0:=h.pos _ _ hm;have bg:goal≠b:=λz=>by
  rcases f with f|⟨n,f,f2⟩
  ·rw[<-z,h.g]at f;cases f
  rw[<-z,h.g]at f;cases f;lia
 have be:e≠b:=λz=>by
  rcases f with f|⟨n,f,f2⟩
  ·rw[<-z,hm]at f;cases f
  rw[<-z,hm]at f;cases f;lia
 have len:(hv.length:Int)<=(j0 hv b (m+l)).length/\(lk hv b=none->((j0 hv b (m+l)).length:Int)=hv.length+1):=by
  rw[Hs];constructor
  ·split<;>lia
  intro z;rw[if_neg (dG.mp z)];lia
 refine⟨vc h.nd _ _,by rw[fA,if_neg bg];exact h.g,λx n hx=>?_,λx n hx ne=>?_,λx n hx=>?_⟩
 ·rw[fA]at hx;split at hx
  ·cases hx;lia
  exact h.pos _ _ hx
 ·rw[fA]at hx;split at hx
  ·rename_i z;cases hx;rw[z];exact⟨e,l,m,he,by rw[fA,if_neg be];exact hm,Int.le_refl _⟩
  obtain⟨e',l',m',h1,h2,h3⟩:=h.par x n hx ne;by_cases c:e'=b
  ·rcases f with f|⟨n',f,f2⟩
   ·rw[c,f]at h2;cases h2
   rw[c,f]at h2;cases h2;exact⟨e',l',m+l,h1,by rw[fA,if_pos c],by lia⟩
  exact⟨e',l',m',h1,by rw[fA,if_neg c];exact h2,h3⟩
 rw[fA]at hx;split at hx
 ·cases hx;rcases f with f|⟨n',f,f2⟩
  ·have:=h.bd _ _ hm;have:=len.2 f;lia
  have:=h.bd _ _ f;lia
 have:=h.bd _ _ hx;lia
theorem dS:∀(r fs:List Int),fs.Nodup->(∀x∈fs,x∈r)->fs.length<=r.length
 |[],fs,_,h=>by
  cases fs with
  |nil=>exact le_refl _
  |cons a b=>exact absurd (h a mem_cons_self) not_mem_nil
 |a::r,fs,nd,h=>by
  have ih:=dS r (fs.erase a) (nd.erase a) λx hx=>by have NB:=(nd.mem_erase_iff).mp hx;exact(mem_cons.mp (h x NB.2)).resolve_left NB.1
  rw[length_cons];by_cases ha:a∈fs
  ·rw[List.length_erase_of_mem ha]at ih;lia
  rw[List.erase_of_not_mem ha]at ih;lia
theorem Ht.size{hv:Hv}(h:Ht L goal hv):hv.length<=L.length+1:=by
 have:=dS (goal::L.map λe=>e.1.headD 0) (hv.map (·.1)) h.nd λx hx=>by
  cases e:lk hv x with
  |none=>exact absurd hx (dG.mp e)
  |some n =>
   by_cases c:x=goal
   ·rw[c];exact mem_cons_self
   obtain⟨e',l',m',h1,_⟩:=h.par x n e c;exact mem_cons_of_mem _ (List.mem_map.mpr ⟨_,h1,rfl⟩)
 rw[length_map,length_cons,length_map]at this;exact this
theorem FL{α:Type}(f g:α->Nat):∀l:List α,(∀x∈l,f x<=g x)->(l.map f).sum<=(l.map g).sum
 |[],_=>le_refl _
 |x::l,h=>by have:=FL f g l λy hy=>h y (mem_cons_of_mem _ hy);have:=h x mem_cons_self;simp only[List.map_cons,List.sum_cons];lia
theorem FN{α:Type}(f g:α->Nat):∀l:List α,(∀x∈l,f x<=g x)->(∃x∈l,f x<g x)->(l.map f).sum<(l.map g).sum
 |[],_,⟨_,h,_⟩=>absurd h not_mem_nil
 |x::l,h,⟨y,hy,hl⟩=>by
  have h0:=h x mem_cons_self;have h1:∀x∈l,f x<=g x:=λy hy=>h y (mem_cons_of_mem _ hy);simp only[List.map_cons,List.sum_cons];rcases mem_cons.mp hy with rfl|hy
  ·have:=FL f g l h1;lia
  have:=FN f g l h1 ⟨y,hy,hl⟩;lia
def mu(L:List (Tk×Int))(hv:Hv):Nat:=(L.map λe=>((lk hv (e.1.headD 0)).getD (1000*L.length+1)).toNat).sum
theorem Ht.Nx{hv:Hv}(h:Ht L goal hv){b e l m:Int}(he:([b,e],l)∈L)(l1:1<=l)(l2:l<=1000)(hm:lk hv e=some m)(f:FK hv b (m+l)):mu L (j0 hv b (m+l))<mu L hv:=by
 have h':=h.put he l1 l2 hm f;have m0:=h.pos _ _ hm;have key:(m+l).toNat<((lk hv b).getD (1000*L.length+1)).toNat:=by
  rcases f with f|⟨n,f,f2⟩
  ·have:=h'.bd b (m+l) (by rw[fA,if_pos rfl]);have:=h'.size;rw[f];show(m+l).toNat<(1000*(L.length:Int)+1).toNat;lia
  rw[f];show(m+l).toNat<n.toNat;lia
 unfold mu;refine FN _ _ L (λx _=>?_) ⟨_,he,?_⟩
 ·rw[fA];split
  ·rename_i z;rw[z];exact Nat.le_of_lt key
  exact le_refl _
 rw[fA];show((if b=b then some (m+l)else lk hv b).getD _).toNat<((lk hv b).getD _).toNat;rw[if_pos rfl];exact key
def DD(hv:Hv)(e:Tk×Int):Prop:=∀b x,e.1=[b,x]->∀m,lk hv x=some m->∃n,lk hv b=some n/\n<=m+e.2
theorem zL{X:Cx}{pos:Pos}{k1 v1:Expr}{t1 u1:TE}(h1:PE X k1 t1)(g1:PE X v1 u1):PE X (.Dict [some k1] [v1] pos) (JG [(t1,u1)]) :=
 Gv (ES h1 g1 Gu) rfl rfl (List.cons_ne_nil _ _) (show 1<=15 by decide)
def Sx(td:Addr)(H H':Hp):Prop:=∀b o,b≠td->H b=some o->H' b=some o
def vd(L:List (Tk×Int)):Prop:=(L.map (·.1)).Nodup/\∀e∈L,∃a b,e.1=[a,b]/\1<=e.2/\e.2<=1000
def i6(K:W.Frag):Sp:=λvs H Q _=>∃(td:Addr)(goal:Int)(L:List (Tk×Int))(xs:TX),vs=[.ref td,.int goal]/\pH K H td L xs/\vd L/\L.length<=1000/\∀(hd:Addr)(H':Hp)(hv:Hv),aH H H'->H hd=none->H' hd=some (.dK (hv.map fS))->Ht L goal hv->(∀e∈L,DD hv e)->Q (.ref hd) H'
theorem cA:aU ["lengths","goal","heights","falling","begin","end","height"] ["lengths","goal"] (aI gH):=ad
set_option maxHeartbeats 2000000 in
theorem ue(F:aN K mg "heights_to" gH)(T:Txt K mg t):Def P w K mg base 1 "heights_to" ["lengths","goal"] (i6 K):=by
 refine F.def cA (λ_ _ _ _ _ _=>bn λ_ _=>rfl) (λvs H Q E h=>?_) (λf bj A outer s H vs Q E hr h=>?_)
 ·obtain⟨td,goal,L,xs,rfl,_⟩:=h;rfl
 obtain⟨td,goal,L,xs,rfl,hL,Dj,ll,q⟩:=h;refine⟨_,aF (aR (i:=2) cA.nd rfl (Or.inl rfl) (zL (pv 1) aD))
  (aF (aR (i:=3) cA.nd rfl (Or.inl rfl) eQ)
  (aF (PS.uI (x9 PassesOwn.never (ij (pv 3))
   (aF (aR (i:=3) cA.nd rfl (Or.inl rfl) eQ)
   (aG (vQ (bW PassesOwn.never rfl (jX (pv 0)) (fH K (i:=4) (j:=5) rfl cA.nd rfl rfl (Or.inl rfl) (Or.inl rfl))
    (aG (au (nN (sM (bO hr) (pv 5) (pv 2)) (by rfl))
     (aF (aR (i:=6) cA.nd rfl (Or.inl rfl) (aW bP (cC (bO hr) (pv 2) (pv 5) (λ_ _=>rfl)) (mS K (cu hr) (pv 0) (ag (aA (pv 4) (aA (pv 5) aE))) (λ_ _=>rfl))))
     (aG (au (PW.pt (kY (nN (qA (bO hr) (pv 4) (pv 2)) (by rfl)) (ky (aL lE (pv 6) (cC (bO hr) (pv 2) (pv 4) (λ_ _=>rfl)) (aQ _)))))
      (aF (iW (bO hr) (pv 2) (pv 4) (pv 6) (by rfl))
      (aG (aR (i:=3) cA.nd rfl (Or.inl rfl) eQ)))
      (aZ))))
     (aZ)))))))))
  (aG (aX (pv 2))))),?_⟩
 have hsz:(20000:Nat)<=sizeLine:=by decide
 have Oo:∀{hd:Addr},H hd=none->hd≠td:=λz e=>by rw[e,hL.d]at z;cases z
 have LI:xs.length=L.length:=by
  have:=congrArg List.length hL.m
  rwa [length_map,length_map]at this
 refine λhd Ny=>⟨_,rfl,aC,[(Sum.inl goal,.int 0)],rfl,by show 1<=15;decide,?_⟩;have s1:aH H (upd (upd H hd (.dK [])) hd (.dK (gp [] [(Sum.inl goal,V.int 0)]))):=((aH.refl H).new Ny).put Ny;have e1:(upd (upd H hd (.dK [])) hd (.dK (gp [] [(Sum.inl goal,V.int 0)]))) hd=some (.dK ([(goal,(0:Int))].map fS)):=aC;generalize upd (upd H hd (.dK [])) hd (.dK (gp [] [(Sum.inl goal,V.int 0)]))=H1 at s1 e1 ⊢;have LJ:=Oo Ny
 let W:Nat->_->_->Prop:=λm σ H'=>∃(hv:Hv)(f:Bool)(v4 v5 v6:Option V),σ=[some (.ref td),some (.int goal),some (.ref hd),some (.bl f),v4,v5,v6]/\aH H H'/\H' hd=some (.dK (hv.map fS))/\Ht L goal hv/\((f=true/\m=mu L hv+1)\/(f=false/\m=0/\∀e∈L,DD hv e))
 refine⟨W,⟨_,[(goal,0)],true,none,none,none,rfl,s1,e1,Ht.start L goal,.inl ⟨rfl,rfl⟩⟩,?_⟩;rintro m σ H2 ⟨hv,f,v4,v5,v6,rfl,s2,e2,h2,hf⟩;refine⟨_,rfl,f,rfl,?_⟩;rcases hf.symm with⟨rfl,rfl,cl⟩|⟨rfl,rfl⟩
 ·refine gf ?_;exact⟨_,rfl,q hd H2 hv s2 Ny e2 h2 cl⟩
 refine eO ⟨λσ' H'=>∃m',m'<mu L hv+1/\W m' σ' H',λσ' H' z=>z,?_⟩;have Qy:=hL.same s2;refine⟨_,rfl,td,xs,rfl,Qy.d,λu ou=>?_⟩;have kz:=bN (o:=u) (nC.LF Qy.d);have e3:(upd H2 td u) hd=some (.dK (hv.map fS)):=by rw[aM LJ];exact e2
 have d3:(upd H2 td u) td=some u:=aC;have k3:∀p∈xs,cc K (upd H2 td u) p.2.1 p.1:=λp hp=>(Qy.k p hp).kept kz;have x3:Sx td H (upd H2 td u):=λb o nb e=>by rw[aM nb];exact s2 b o e
 generalize upd H2 td u=H3 at e3 d3 k3 x3 ⊢
 let J:Nat->_->_->Prop:=λi σ H'=>∃(mr:Hv)(f:Bool)(v4 v5 v6:Option V),σ=[some (.ref td),some (.int goal),some (.ref hd),some (.bl f),v4,v5,v6]/\Sx td H H'/\H' td=some u/\H' hd=some (.dK (mr.map fS))/\(∀p∈xs,cc K H' p.2.1 p.1)/\Ht L goal mr/\((f=true/\mu L mr<mu L hv)\/(f=false/\mr=hv/\∀e∈L.take i,DD hv e))
 refine nY (d:=td) (u:=u) (xs:=xs) J ⟨hv,false,_,_,_,rfl,x3,d3,e3,k3,h2,.inr ⟨rfl,rfl,λe he=>absurd he (by simp)⟩⟩ (λi σ H' _ ⟨_,_,_,_,_,_,_,e,_⟩=>e) ?_ ?_
 ·rintro i p σ H4 hi ⟨mr,f,v4,v5,v6,rfl,x4,d4,e4,k4,h4,hf⟩;obtain⟨ed,ee,Hr,Ol⟩:∃e,L[i]?=some e/\p.1=e.1/\p.2.2=.int e.2:=by
   have:(xs.map λp=>(p.1,p.2.2))[i]?=some (p.1,p.2.2):=(by rw[getElem?_map,hi];rfl);rw[hL.m,getElem?_map]at this;cases ee:L[i]? with
   |none=>rw[ee]at this;cases this
   |some e =>
    rw[ee]at this;obtain⟨z1,z2⟩:=Prod.mk.inj (Option.some.inj this);exact⟨e,rfl,z1.symm,z2.symm⟩
  have DE:=mem_of_getElem? ee;obtain⟨b,x,hk,l1,l2⟩:=Dj.2 ed DE;obtain⟨kk,l⟩:=ed;obtain rfl:kk=[b,x]:=hk;have pk:=k4 p (mem_of_getElem? hi);rw[Hr]at pk;rcases pk.ex.symm with⟨_,_,_,_,_,z,_⟩|⟨_,_,z,g1⟩
  ·simp at z
  simp only[List.cons.injEq,and_true]at z;obtain⟨rfl,rfl⟩:=z;refine⟨p.2.1,_,rfl,g1,rfl,_,_,rfl,_,_,rfl,rfl,?_⟩;have SM:=h4.size;have ko:∀{v6:Option V}{H5:Hp},Sx td H H5->H5 td=some u->H5 hd=some (.dK (mr.map fS))->(∀p∈xs,cc K H5 p.2.1 p.1)->DD mr ([b,x],l)->J (i+1) [some (.ref td),some (.int goal),some (.ref hd),some (.bl f),some (.int b),some (.int x),v6] H5:=λx5 d5 e5 k5 cl=>by
   refine⟨mr,f,_,_,_,rfl,x5,d5,e5,k5,h4,?_⟩;rcases hf with hf|⟨f1,f2,f3⟩
   ·exact .inl hf
   refine .inr ⟨f1,f2,λe he=>?_⟩;rw[take_succ ee]at he;rcases mem_append.mp he with he|he
   ·exact f3 e he
   rw[mem_singleton.mp he,<-f2];exact cl
  refine⟨_,rfl,_,rfl,hd,_,rfl,bh.k (k:=Sum.inl x) e4,?_⟩;rw[gD];cases em:lk mr x with
  |none =>
   refine⟨false,rfl,gf ?_⟩;refine ko x4 d4 e4 k4 λb' x' z m' Dk=>?_;simp only[List.cons.injEq,and_true]at z;obtain⟨rfl,rfl⟩:=z;rw[em]at Dk;cases Dk
  |some m =>
   refine⟨true,rfl,eO ?_⟩;have gv:bh H4 hd (.int x) (some (.int m)):=by have:=bh.k (k:=Sum.inl x) e4;rw[gD,em]at this;exact this
   refine⟨_,rfl,_,rfl,hd,.int m,rfl,gv,_,rfl,_,rfl,_,rfl,zz2,λkt LH=>?_⟩;have s5:=(aH.refl H4).new (o:=.tup [.int b,.int x]) LH;have tk:cc K (upd H4 kt (.tup [.int b,.int x])) kt [b,x]:=⟨.inl ⟨_,_,rfl,ab.of aC⟩⟩;generalize upd H4 kt (.tup [.int b,.int x])=H5 at s5 tk ⊢;have k5:∀p∈xs,cc K H5 p.2.1 p.1:=λp hp=>(k4 p hp).same s5;have e5:=s5 _ _ e4;have d5:=s5 _ _ d4;have x5:Sx td H H5:=λb o nb e=>s5 b o (x4 b o nb e);have va:iy xs [b,x]=some (.int l):=by rw[qK hL.m,(cS Dj.1).mpr DE];rfl
   refine⟨td,kt,xs,_,_,rfl,rfl,⟨.inr ⟨u,d5,ou⟩,k5⟩,tk,va,_,_,rfl,rfl,?_⟩;have Nz:FK mr b (m+l)->J (i+1) [some (.ref td),some (.int goal),some (.ref hd),some (.bl true),some (.int b),some (.int x),some (.int (m+l))] (upd H5 hd (.dK (lv (mr.map fS) (Sum.inl b) (.int (m+l))))):=λfl=>by
    have kp:=bN (o:=.dK (lv (mr.map fS) (Sum.inl b) (.int (m+l)))) (nC.dk e5);refine⟨j0 mr b (m+l),true,_,_,_,rfl,λb o nb e=>?_,by rw[aM (Ne.symm LJ)];exact d5,by rw[aC,B3],λp hp=>(k5 p hp).kept kp,h4.put DE l1 l2 em fl,.inl ⟨rfl,?_⟩⟩
    ·have:b≠hd:=λz=>(by rw[z,Ny]at e;cases e);rw[aM this];exact x5 b o nb e
    have:=h4.Nx DE l1 l2 em fl;rcases hf with⟨_,hf⟩|⟨_,rfl,_⟩
    ·lia
    exact this
   refine⟨_,rfl,_,rfl,hd,_,rfl,bh.k (k:=Sum.inl b) e5,?_⟩;rw[gD];cases eb:lk mr b with
   |none =>
    refine⟨true,rfl,eO (eO ?_)⟩;refine⟨_,rfl,_,rfl,_,rfl,hd,_,rfl,.inl ⟨_,Sum.inl b,e5,rfl,by rw[length_map];lia,rfl⟩,?_⟩;exact Nz (.inl eb)
   |some n =>
    have Qz:bh H5 hd (.int b) (some (.int n)):=by have:=bh.k (k:=Sum.inl b) e5;rw[gD,eb]at this;exact this
    refine⟨false,rfl,gf ?_⟩;refine⟨_,rfl,_,rfl,_,rfl,hd,.int n,rfl,Qz,_,_,rfl,rfl,_,rfl,?_⟩;by_cases c:m+l<n
    ·refine bx c ?_;refine⟨_,rfl,_,rfl,_,rfl,hd,_,rfl,.inl ⟨_,Sum.inl b,e5,rfl,by rw[length_map];lia,rfl⟩,?_⟩;exact Nz (.inr ⟨n,eb,c⟩)
    refine cB c ?_;refine ko x5 d5 e5 k5 λb' x' z m' Dk=>?_;simp only[List.cons.injEq,and_true]at z;obtain⟨rfl,rfl⟩:=z;rw[em]at Dk;cases Dk;exact⟨n,eb,by show n<=m+l;lia⟩
 rintro σ H4 ⟨mr,f,v4,v5,v6,rfl,x4,d4,e4,k4,h4,hf⟩;refine⟨td,xs,u,ou,d4,?_⟩;have s5:aH H (upd H4 td (iT td xs)):=λb o e=>by
  by_cases nb:b=td
  ·rw[nb,aC,<-hL.d,<-nb,e]
  rw[aM nb];exact x4 b o nb e
 have e5:(upd H4 td (iT td xs)) hd=some (.dK (mr.map fS)):=by rw[aM LJ];exact e4
 rcases hf with⟨rfl,hf⟩|⟨rfl,rfl,cl⟩
 ·exact⟨mu L mr+1,by lia,mr,true,_,_,_,rfl,s5,e5,h4,.inl ⟨rfl,rfl⟩⟩
 rw[LI,take_length]at cl;exact⟨0,by lia,mr,false,_,_,_,rfl,s5,e5,h4,.inr ⟨rfl,rfl,cl⟩⟩
def nj(hv:Hv)(x:Int)(e:Tk×Int):Option Int:=if e.1.headD 0=x/\(lk hv (e.1.getD 1 0)).map (·+e.2)=lk hv x then some (e.1.getD 1 0)else none
structure Fin(L:List (Tk×Int))(goal:Int)(hv:Hv):Prop where
 h:Ht L goal hv
 c:∀e∈L,DD hv e
 ok:vd L
 sy:∀a b l,([a,b],l)∈L->([b,a],l)∈L
theorem Fin.step{hv:Hv}(f:Fin L goal hv){n:Int}(hx:lk hv x=some n)(ne:x≠goal):∃e l m,([x,e],l)∈L/\lk hv e=some m/\m+l=n:=by obtain⟨e,l,m,h1,h2,h3⟩:=f.h.par x n hx ne;obtain⟨n',h4,h5⟩:=f.c _ h1 x e rfl m h2;rw[hx]at h4;cases h4;exact⟨e,l,m,h1,h2,by show m+l=n;have:n<=m+l:=h5;lia⟩
theorem Fin.near{hv:Hv}(f:Fin L goal hv){n e l:Int}(hx:lk hv x=some n)(he:([x,e],l)∈L):∃m,lk hv e=some m:=by obtain⟨m,h4,h5⟩:=f.c _ (f.sy _ _ _ he) e x rfl n hx;exact⟨m,h4⟩
def JT(L:List (Tk×Int))(hv:Hv)(x e:Int):Prop:=(∃l m,([x,e],l)∈L/\lk hv e=some m/\lk hv x=some (m+l))/\∀e' l' m',([x,e'],l')∈L->lk hv e'=some m'->lk hv x=some (m'+l')->e<=e'
def nE(K:W.Frag):Sp:=λvs H Q _=>∃(td hd:Addr)(x n goal:Int)(L:List (Tk×Int))(xs:TX)(hv:Hv),vs=[.ref td,.ref hd,.int x]/\pH K H td L xs/\H hd=some (.dK (hv.map fS))/\Fin L goal hv/\L.length<=1000/\lk hv x=some n/\x≠goal/\∀(e:Int)(H':Hp),aH H H'->JT L hv x e->Q (.int e) H'
theorem uf:aU ["lengths","heights","house"] ["lengths","heights","house"] (aI eC):=ad
set_option maxHeartbeats 2000000 in
theorem ug(F:aN K mg "next_house" eC)(T:Txt K mg t):Def P w K mg base 1 "next_house" ["lengths","heights","house"] (nE K):=by
 refine F.def uf (λ_ _ _ _ _ _=>bv λ_ _ _=>rfl) (λvs H Q E h=>?_) (λf bj A outer s H vs Q E hr h=>?_)
 ·obtain⟨td,hd,x,n,goal,L,xs,hv,rfl,_⟩:=h;rfl
 obtain⟨td,hd,x,n,goal,L,xs,hv,rfl,hL,hH,fin,ll,hx,ne,q⟩:=h;refine⟨_,aG (aX (aT (Cg K) (by rfl) T.Bt boot_min (aA (vR (gg rfl (Nc:=["begin","end","house","heights","lengths"]) (ix:=[none,none,some 2,some 1,some 0]) (bR (aI eC) ["lengths","heights","house"] rfl rfl (by decide +kernel)) (jX (pv 0)) (λC fp s H=>⟨(fH K (i:=0) (j:=1) rfl (show(["begin","end","house","heights","lengths"]:List Str).Nodup by decide +kernel) rfl rfl (Or.inl rfl) (Or.inl rfl)),(mN (PW.pt (jd (aL bX (pv 0) (pv 2) (aQ _)) (iU (aL bX (aW bP (cC (bO hr) (pv 3) (pv 1) (λ_ _=>rfl)) (mS K (cu hr) (pv 4) (ag (aA (pv 0) (aA (pv 1) aE))) (λ_ _=>rfl))) (cC (bO hr) (pv 3) (pv 2) (λ_ _=>rfl)) (aQ _)))))),(pv 1)⟩))) aE))),?_⟩;have hsz:(20000:Nat)<=sizeLine:=by decide
 have LI:xs.length=L.length:=by
  have:=congrArg List.length hL.m
  rwa [length_map,length_map]at this
 have LJ:hd≠td:=kx hH hL.d (by intro z;cases z);refine⟨_,rfl,td,xs,rfl,hL.d,λu ou D hD=>?_⟩;have kz:=bN (o:=u) (nC.LF hL.d);have d1:(upd H td u) td=some u:=aC;have e1:(upd H td u) hd=some (.dK (hv.map fS)):=by rw[aM LJ];exact hH
 have k1:∀p∈xs,cc K (upd H td u) p.2.1 p.1:=λp hp=>(hL.k p hp).kept kz;have x1:∀b o,b≠td->H b=some o->(upd H td u) b=some o:=λb o nb e=>by rw[aM nb];exact e
 generalize upd H td u=H1 at d1 e1 k1 x1 hD ⊢;refine vS (d:=td) (u:=u) (xs:=xs) (λi σ H'=>∃v0 v1:Option V,σ=[v0,v1,some (.int x),some (.ref hd),some (.ref td)]/\aH H1 H'/\H' D=some (.lst (((L.take i).filterMap (nj hv x)).map V.int))) ⟨none,none,rfl,(aH.refl _).new hD,aC⟩ (λi σ H' _ ⟨_,_,_,s,_⟩=>s _ _ d1) ?_ ?_
 ·rintro i p σ H4 N hN hi ⟨v0,v1,rfl,s4,e4⟩;obtain⟨ed,ee,Hr,Ol⟩:∃e,L[i]?=some e/\p.1=e.1/\p.2.2=.int e.2:=by
   have:(xs.map λp=>(p.1,p.2.2))[i]?=some (p.1,p.2.2):=(by rw[getElem?_map,hi];rfl);rw[hL.m,getElem?_map]at this;cases ee:L[i]? with
   |none=>rw[ee]at this;cases this
   |some e =>
    rw[ee]at this;obtain⟨z1,z2⟩:=Prod.mk.inj (Option.some.inj this);exact⟨e,rfl,z1.symm,z2.symm⟩
  have DE:=mem_of_getElem? ee;have il:i<L.length:=(List.getElem?_eq_some_iff.mp ee).1;obtain⟨b,y,hk,l1,l2⟩:=fin.ok.2 ed DE;obtain⟨kk,l⟩:=ed;obtain rfl:kk=[b,y]:=hk;have pk:=(k1 p (mem_of_getElem? hi)).same s4;rw[Hr]at pk;rcases pk.ex.symm with⟨_,_,_,_,_,z,_⟩|⟨_,_,z,g1⟩
  ·simp at z
  simp only[List.cons.injEq,and_true]at z;obtain⟨rfl,rfl⟩:=z;have SV:(L.take (i+1)).filterMap (nj hv x)=(L.take i).filterMap (nj hv x)++(nj hv x ([b,y],l)).toList:=by
   rw[take_succ ee,List.filterMap_append]
   congr 1
  have cl:((L.take i).filterMap (nj hv x)).length<=1000:=by have:=List.length_filterMap_le (nj hv x) (L.take i);rw[length_take]at this;lia
  have skip:∀{H5:Hp},aH H4 H5->nj hv x ([b,y],l)=none->N [some (.int b),some (.int y),some (.int x),some (.ref hd),some (.ref td)] H5:=λs5 c=>hN _ _ ⟨_,_,rfl,s4.trans s5,by rw[SV,c];simpa using s5 _ _ e4⟩;refine⟨p.2.1,_,rfl,g1,rfl,_,_,rfl,_,_,rfl,rfl,?_⟩;refine⟨_,rfl,_,rfl,rfl,_,rfl,?_⟩;by_cases c:b=x
  ·refine bx (congrArg V.int c) ?_;obtain⟨m,hm⟩:=fin.near hx (show([x,y],l)∈L by rw[<-c];exact DE);have gv:bh H4 hd (.int y) (some (.int m)):=by have:=bh.k (k:=Sum.inl y) (s4 _ _ e1);rw[gD,hm]at this;exact this
   refine⟨_,rfl,_,rfl,hd,.int m,rfl,gv,_,rfl,_,rfl,_,rfl,zz2,λkt LH=>?_⟩;have s5:=(aH.refl H4).new (o:=.tup [.int b,.int y]) LH;have tk:cc K (upd H4 kt (.tup [.int b,.int y])) kt [b,y]:=⟨.inl ⟨_,_,rfl,ab.of aC⟩⟩;generalize upd H4 kt (.tup [.int b,.int y])=H5 at s5 tk ⊢;have S5:=s4.trans s5;have va:iy xs [b,y]=some (.int l):=by rw[qK hL.m,(cS fin.ok.1).mpr DE];rfl
   have Qz:bh H5 hd (.int x) (some (.int n)):=by have:=bh.k (k:=Sum.inl x) (S5 _ _ e1);rw[gD,hx]at this;exact this
   refine⟨td,kt,xs,_,_,rfl,rfl,⟨.inr ⟨u,S5 _ _ d1,ou⟩,λp hp=>(k1 p hp).same S5⟩,tk,va,_,_,rfl,rfl,_,rfl,_,rfl,hd,.int n,rfl,Qz,rfl,_,rfl,?_⟩;by_cases c2:m+l=n
   ·refine bx (congrArg V.int c2) ?_;have cd:nj hv x ([b,y],l)=some y:=by unfold nj;exact if_pos ⟨c,by show(lk hv y).map (·+l)=lk hv x;rw[hm,hx];show some (m+l)=some n;rw[c2]⟩
    refine⟨_,rfl,_,s5 _ _ e4,by rw[length_map];lia,hN _ _ ⟨_,_,rfl,S5.put hD,?_⟩⟩;rw[aC,SV,cd,map_append];rfl
   refine cB (λz=>c2 (V.int.inj z)) ?_;refine skip s5 ?_;unfold nj;refine if_neg λz=>c2 ?_;have z2:(lk hv y).map (·+l)=lk hv x:=z.2;rw[hm,hx]at z2;exact Option.some.inj z2
  refine cB (λz=>c (V.int.inj z)) ?_;refine skip (.refl _) ?_;unfold nj;exact if_neg λz=>c z.1
 rintro σ H4 ⟨v0,v1,rfl,s4,e4⟩;rw[LI,take_length]at e4;refine⟨td,xs,u,ou,s4 _ _ d1,?_⟩;have s5:aH H (upd H4 td (iT td xs)):=λb o e=>by
  by_cases nb:b=td
  ·rw[nb,aC,<-hL.d,<-nb,e]
  rw[aM nb];exact s4 b o (x1 b o nb e)
 have nD:D≠td:=λz=>by rw[z,d1]at hD;cases hD
 have e5:(upd H4 td (iT td xs)) D=some (.lst ((L.filterMap (nj hv x)).map V.int)):=by rw[aM nD];exact e4
 have mem:∀e,e∈L.filterMap (nj hv x)↔∃l m,([x,e],l)∈L/\lk hv e=some m/\lk hv x=some (m+l):=λe=>by
  rw[List.mem_filterMap];constructor
  ·rintro⟨⟨kk,l⟩,h1,h2⟩;obtain⟨b,y,hk,_⟩:=fin.ok.2 _ h1;obtain rfl:kk=[b,y]:=hk;unfold nj at h2;split at h2
   ·rename_i z;cases h2;obtain⟨z1,z2⟩:=z;have VM:b=x:=z1;have Oq:(lk hv y).map (·+l)=lk hv x:=z2;rw[VM]at h1;cases hm:lk hv y with
    |none=>rw[hm,hx]at Oq;cases Oq
    |some m=>rw[hm]at Oq;exact⟨l,m,h1,hm,Oq.symm⟩
   cases h2
  rintro⟨l,m,h1,h2,h3⟩;refine⟨_,h1,?_⟩;unfold nj;exact if_pos ⟨rfl,by show(lk hv e).map (·+l)=lk hv x;rw[h2,h3];rfl⟩
 refine⟨D,_,rfl,aV.of e5,λz=>?_,λM hM hle=>q M _ s5 ⟨(mem M).mp hM,λe' l' m' h1 h2 h3=>hle e' ((mem e').mpr ⟨l',m',h1,h2,h3⟩)⟩⟩;obtain⟨e,l,m,h1,h2,h3⟩:=fin.step hx ne;have:=(mem e).mpr ⟨l,m,h1,h2,by rw[hx,h3]⟩;rw[z]at this;cases this
inductive Gr(L:List (Tk×Int))(hv:Hv)(goal:Int):Int->List Int->Prop
 |done:Gr L hv goal goal [goal]
 |step {x e:Int} {ws:List Int}:x≠goal->JT L hv x e->Gr L hv goal e ws->Gr L hv goal x (x::ws)
def pI(K:W.Frag):Sp:=λvs H Q _=>∃(td hd:Addr)(one n goal:Int)(L:List (Tk×Int))(xs:TX)(hv:Hv),vs=[.ref td,.ref hd,.int one,.int goal]/\pH K H td L xs/\H hd=some (.dK (hv.map fS))/\Fin L goal hv/\L.length<=200/\lk hv one=some n/\∀(r:Addr)(ws:List Int)(H':Hp),aH H H'->ab K H' r (ws.map V.int)->Gr L hv goal one ws->Q (.ref r) H'
theorem pJ:aU ["lengths","heights","one","goal","way"] ["lengths","heights","one","goal"] (aI iX):=ad
set_option maxHeartbeats 2000000 in
theorem xQ(F:aN K mg "least_way" iX)(T:Txt K mg t)(j3:Def P w K mg base 1 "next_house" ["lengths","heights","house"] (nE K)):Def P w K mg base 2 "least_way" ["lengths","heights","one","goal"] (pI K):=by
 refine F.def pJ (λ_ _ _ _ _ _=>ce λ_ _ _ _=>rfl) (λvs H Q E h=>?_) (λf bj A outer s H vs Q E hr h=>?_)
 ·obtain⟨td,hd,one,n,goal,L,xs,hv,rfl,_⟩:=h;rfl
 obtain⟨td,hd,one,n,goal,L,xs,hv,rfl,hL,hH,fin,ll,hx,q⟩:=h;refine⟨_,aF (aR (i:=4) pJ.nd rfl (Or.inl rfl) (az (aA (pv 2) aE)))
  (aF (PS.uI (x9 PassesOwn.never (aL mm (aK (aJ K) (pv 4) (jS eW aD) (λ_ _=>rfl)) (pv 3) (aQ _))
   (aG (bM (jq K PySem.F.plainAttrs_list PySem.F.slot_list_append PySem.F.type_list_append gR (pv 4) (aA (aa (j3.mono (by decide)) hr av (aA (pv 0) (aA (pv 1) (aA (aK (aJ K) (pv 4) (jS eW aD) (λ_ _=>rfl)) aE)))) aE))))))
  (aG (aX (bB (dY K) (by rfl) T.mY boot_tuple (aA (pv 4) aE))))),?_⟩
 have hsz:(300000:Nat)<=sizeLine:=by decide
 refine⟨_,rfl,zz1,λwl Lk=>?_⟩;have s1:=(aH.refl H).new (o:=.lst [.int one]) Lk;have e1:(upd H wl (.lst [.int one])) wl=some (.lst [.int one]):=aC;generalize upd H wl (.lst [.int one])=H1 at s1 e1 ⊢;have n0:n<=200000:=by have:=fin.h.bd _ _ hx;have:=fin.h.size;lia
 let W:Nat->L2.St->Hp->Prop:=λk σ H'=>∃(pre:List Int)(x m:Int),σ=[some (.ref td),some (.ref hd),some (.int one),some (.int goal),some (.ref wl)]/\aH H H'/\H' wl=some (.lst ((pre++[x]).map V.int))/\lk hv x=some m/\k=m.toNat/\(pre.length:Int)+m<=n/\∀t,Gr L hv goal x (x::t)->Gr L hv goal one (pre++x::t)
 refine⟨W,⟨n.toNat,[],one,n,rfl,s1,e1,hx,rfl,by show((0:Nat):Int)+n<=n;lia,λt h=>h⟩,?_⟩;rintro k σ H2 ⟨pre,x,m,rfl,s2,e2,hm,rfl,pl,gr⟩;have m0:=fin.h.pos _ _ hm;have la:jh ((pre++[x]).map V.int) (-1)=some (V.int x):=by rw[map_append];exact oW _ _
 refine⟨_,rfl,1,rfl,wl,_,_,.int x,rfl,rfl,aV.of e2,la,_,rfl,rfl,_,rfl,?_⟩;by_cases c:x=goal
 ·refine fz (congrArg V.int c) ?_;subst c;refine⟨_,rfl,wl,_,rfl,.inl ⟨aV.of e2,λr hr=>?_⟩⟩;exact q r (pre++[x]) _ (s2.new hr) (ab.of aC) (gr [] .done)
 refine gh (λz=>c (V.int.inj z)) ?_;refine⟨λσ' H'=>∃m',m'<m.toNat/\W m' σ' H',λσ' H' z=>z,?_⟩;refine⟨_,rfl,.inl ⟨rfl,_,aV.of e2⟩,_,rfl,_,rfl,_,rfl,1,rfl,wl,_,_,.int x,rfl,rfl,aV.of e2,la,td,hd,x,m,goal,L,xs,hv,rfl,hL.same s2,s2 _ _ hH,fin,by lia,hm,c,λe H3 s3 nx=>?_⟩;have e3:=s3 _ _ e2;refine⟨wl,_,_,rfl,rfl,e3,by rw[length_map,length_append];show pre.length+1<_;lia,?_⟩;obtain⟨⟨l,m',h1,h2,h3⟩,_⟩:=id nx;rw[hm]at h3;cases h3;obtain⟨_,_,_,l1,_⟩:=fin.ok.2 _ h1;have Uj:1<=l:=l1;have m1:=fin.h.pos _ _ h2;refine⟨m'.toNat,by lia,pre++[x],e,m',rfl,(s2.trans s3).put Lk,by rw[aC,map_append (l₁:=pre++[x])];rfl,h2,rfl,by rw[length_append];show((pre.length+1:Nat):Int)+m'<=n;lia,λt h=>?_⟩;rw[List.append_assoc];exact gr (e::t) (.step c nx h)
def adr:V->Addr
 |.ref a=>a
 |_=>0
def uh(ms:Ms):Prop:=∀m∈ms,∀w∈m.2.near,1<=w.q/\w.q<=10
theorem lU{ms:Ms}{ts:List T3}(hq:uh ms)(hm:∀t,t∈ts↔b9 ms t)(td:vZ ts):vd (bo ts)/\∀a b l,([a,b],l)∈bo ts->([b,a],l)∈bo ts:=by
 refine⟨⟨hW td,λe he=>?_⟩,λa b l h=>?_⟩
 ·obtain⟨t,ht,z⟩:=bA.mp he;obtain⟨_,m1,h1,m2,h2,w1,g1,w2,g2,_,_,_,_,_,_,a5⟩:=(hm t).mp ht;have q1:=hq m1 h1 w1 g1;have q2:=hq m2 h2 w2 g2;have:1<=t.2.2/\t.2.2<=1000:=by lia
  rcases z with rfl|rfl
  ·exact⟨_,_,rfl,this⟩
  exact⟨_,_,rfl,this⟩
 obtain⟨t,ht,z⟩:=bA.mp h;refine bA.mpr ⟨t,ht,?_⟩;rcases z with z|z
 ·cases z;exact .inr rfl
 cases z;exact .inl rfl
theorem Fin.of{ms:Ms}{ts:List T3}{hv:Hv}(hq:uh ms)(hm:∀t,t∈ts↔b9 ms t)(td:vZ ts)(h:Ht (bo ts) goal hv)(c:∀e∈bo ts,DD hv e):Fin (bo ts) goal hv:=⟨h,c,(lU hq hm td).1,(lU hq hm td).2⟩
theorem Ht.xr{ms:Ms}{ts:List T3}{hv:Hv}(h:Ht (bo ts) goal hv)(hm:∀t,t∈ts↔b9 ms t):hv.length<=ms.length+1:=by
 have:=dS (goal::hs ms) (hv.map (·.1)) h.nd λx hx=>by
  cases e:lk hv x with
  |none=>exact absurd hx (dG.mp e)
  |some n =>
   by_cases c:x=goal
   ·rw[c];exact mem_cons_self
   obtain⟨e',l',m',h1,_⟩:=h.par x n e c;obtain⟨t,ht,z⟩:=bA.mp h1;obtain⟨_,m1,g1,m2,g2,_,_,_,_,a1,a2,_⟩:=(hm t).mp ht;refine mem_cons_of_mem _ ?_;rcases z with z|z
   ·cases z;exact List.mem_map.mpr ⟨m1,g1,a1⟩
   cases z;exact List.mem_map.mpr ⟨m2,g2,a2⟩
 unfold hs at this;rw[length_map,length_cons,length_map]at this;exact this
theorem JU(h n:Int):zZ (.tuple [.int h,.int n])=true:=by simp[zZ,dz]
theorem FO{n:Nat}{v:V}{a b:Int}(h:ar K H (n+1) v (.tuple [.int a,.int b])):∃p,v=.ref p/\ab K H p [.int a,.int b]:=by
 obtain⟨p,xs,rfl,h1,h2,h3⟩:=xD h
 match xs,h2 with
 |[x,y],_ =>
  obtain rfl:=o9 (h3 0 x _ rfl rfl);obtain rfl:=o9 (h3 1 y _ rfl rfl);exact⟨p,rfl,h1⟩
def tM(hv:Hv)(ns:List Int):Hv:=ns.map λh=>(h,(lk hv h).getD 0)
def gW(K:W.Frag)(C:Addr):Sp:=λvs H Q _=>∃(x d:Addr)(one other:Int)(ms:Ms),vs=[.ref x,.int one,.int other]/\i3 K C H x d ms/\ms.length<=12/\lT ms/\uh ms /\
 (∀(ts:List T3)(hv GD:Hv)(ns:List Int)(r p:Addr)(H':Hp),aH H H'->(∀t,t∈ts↔b9 ms t)->vZ ts->Fin (bo ts) other hv->lk hv one=none->Fin (bo ts) one GD->ns.Perm (GD.map (·.1))->ns.Pairwise (·<=·)->ab K H' r [.str "side",.ref p]->ab K H' p (ns.map V.int)->Q (.ref r) H') /\
 (∀(ts:List T3)(hv:Hv)(n:Int)(ns ws:List Int)(r p hl:Addr)(H':Hp),aH H H'->(∀t,t∈ts↔b9 ms t)->vZ ts->Fin (bo ts) other hv->lk hv one=some n->Gr (bo ts) hv other one ws->ns.Perm (hv.map (·.1))->ns.Pairwise (·<=·)->ab K H' r [.str "way",.ref p,.ref hl]->ab K H' p (ws.map V.int)->H hl=none->hV K H' hl (tM hv ns)->Q (.ref r) H')
theorem md:aU ["chart","one","other","lengths","heights","way"] ["chart","one","other"] (aI lM):=ad
set_option maxHeartbeats 2000000 in
theorem DF(F:aN K mg "way_of" lM)(T:Txt K mg t)(dH:Def P w K mg base 3 "lengths_of" ["chart"] (i4 K t.Map))(cP:Def P w K mg base 1 "heights_to" ["lengths","goal"] (i6 K))(lV:Def P w K mg base 2 "least_way" ["lengths","heights","one","goal"] (pI K)):Def P w K mg base 4 "way_of" ["chart","one","other"] (gW K t.Map):=by
 refine F.def md (λ_ _ _ _ _ _=>bv λ_ _ _=>rfl) (λvs H Q E h=>?_) (λf bj A outer s H vs Q E hr h=>?_)
 ·obtain⟨x,d,one,other,ms,rfl,_⟩:=h;rfl
 obtain⟨x,d,one,other,ms,rfl,hM,ml,xR,hq,qs,qw⟩:=h;refine⟨_,aF (aR (i:=3) md.nd rfl (Or.inl rfl) (aa (dH.mono (by decide)) hr av (aA (pv 0) aE)))
  (aF (aR (i:=4) md.nd rfl (Or.inr rfl) (aa (cP.mono (by decide)) hr av (aA (pv 3) (aA (pv 2) aE))))
  (aF (au (nN (qA (bO hr) (pv 1) (pv 4)) (by rfl))
   (aG (aX (ag (aA gZ (aA (bB (dY K) (by rfl) T.mY boot_tuple (aA (aT (d8 (cu hr)) (by rfl) T.cE boot_sorted (aA (aa (cP.mono (by decide)) hr av (aA (pv 3) (aA (pv 1) aE))) aE)) aE)) aE)))))
   (aZ))
  (aF (aR (i:=5) md.nd rfl (Or.inl rfl) (aa (lV.mono (by decide)) hr av (aA (pv 3) (aA (pv 4) (aA (pv 1) (aA (pv 2) aE))))))
  (aG (aX (ag (aA gZ (aA (pv 5) (aA (gg rfl (Nc:=["house","heights"]) (ix:=[none,some 4]) (bR (aI lM) ["chart","one","other","lengths","heights","way"] rfl rfl (by decide +kernel)) (a9 K (aT (d8 (cu hr)) (by rfl) T.cE boot_sorted (aA (pv 4) aE))) (λC fp s H=>⟨(aO (i:=0) (show(["house","heights"]:List Str).Nodup by decide +kernel) rfl (Or.inl rfl)),bc,(ag (aA (pv 0) (aA (cC (bO hr) (pv 1) (pv 0) (λ_ _=>rfl)) aE)))⟩)) aE))))))))),?_⟩
 have hsz:(20000:Nat)<=sizeLine:=by decide
 refine⟨_,rfl,x,d,ms,rfl,hM,ml,xR,λtd H1 ts xs s1 SW hL hm zJ tl=>?_⟩;have el:(bo ts).length<=200:=by rw[xN];lia
 refine⟨_,rfl,_,rfl,td,other,bo ts,xs,rfl,hL,(lU hq hm zJ).1,by lia,λhd H2 hv s2 VN e2 ht cl=>?_⟩;have fin:=Fin.of hq hm zJ ht cl;have S2:=s1.trans s2;refine⟨_,rfl,_,rfl,hd,_,rfl,bh.k (k:=Sum.inl one) e2,?_⟩;rw[gD];cases en:lk hv one with
 |none =>
  refine⟨true,rfl,eO ?_⟩;refine⟨_,rfl,_,rfl,td,one,bo ts,xs,rfl,hL.same s2,(lU hq hm zJ).1,by lia,λhd2 H3 GD s3 n3 e3 Ba VO=>?_⟩;have f2:=Ba.xr hm;refine⟨hd2,_,GD.map (·.1),rfl,e3,by rw[List.map_map,List.map_map];rfl,by rw[length_map];lia,λys sl hp xu FE=>?_⟩;have s4:=(aH.refl H3).new (o:=.lst (ys.map V.int)) FE;refine⟨sl,_,rfl,.inl ⟨aV.of aC,λp LK=>?_⟩⟩;have s5:=s4.new (o:=.tup (ys.map V.int)) LK;refine⟨zz2,λr hr=>?_⟩;have s6:=s5.new (o:=.tup [.str "side",.ref p]) hr;exact qs ts hv GD ys r p _ (S2.trans (s3.trans s6)) hm zJ fin en (Fin.of hq hm zJ Ba VO) hp xu (ab.of aC) (ab.of (by rw[aM (aq aC hr)];exact aC))
 |some n =>
  refine⟨false,rfl,gf ?_⟩;refine⟨_,rfl,_,rfl,_,rfl,_,rfl,td,hd,one,n,other,bo ts,xs,hv,rfl,hL.same s2,e2,fin,el,en,λp ws H3 s3 hp gr=>?_⟩;have f1:=ht.xr hm;have e3:=s3 _ _ e2;refine⟨_,rfl,_,rfl,hd,_,hv.map (·.1),rfl,e3,by rw[List.map_map,List.map_map];rfl,by rw[length_map];lia,λys sl Hu xu FE=>?_⟩;have yl:ys.length<=20:=by rw[Hu.length_eq,length_map];lia
  have s4:=(aH.refl H3).new (o:=.lst (ys.map V.int)) FE;have e4:(upd H3 sl (.lst (ys.map V.int))) sl=some (.lst (ys.map V.int)):=aC;generalize upd H3 sl (.lst (ys.map V.int))=H4 at s4 e4 ⊢;refine⟨sl,rfl,⟨_,aV.of e4⟩,λD hD=>?_⟩;refine dE (K:=K) (a:=sl) (xs:=ys.map V.int) (λi σ H'=>∃(v:Option V)(zs:List (V×Int)),σ=[v,some (.ref hd)]/\aH H4 H'/\H' D=some (.lst (zs.map (·.1)))/\zs.map (·.2)=ys.take i/\∀z∈zs,ar K H' 2 z.1 (.tuple [.int z.2,.int ((lk hv z.2).getD 0)])) ⟨none,[],rfl,(aH.refl _).new hD,aC,rfl,λz hz=>absurd hz not_mem_nil⟩ (λi σ H' _ ⟨_,_,_,s,_⟩=>aV.of (s _ _ e4)) ?_ ?_
  ·rintro i y σ H5 N hN hi ⟨v,zs,rfl,s5,e5,m5,t5⟩;obtain⟨h,ho,rfl⟩:=gF hi;have Oi:i<ys.length:=(List.getElem?_eq_some_iff.mp ho).1;have hk:=Hu.mem_iff.mp (mem_of_getElem? ho);obtain⟨k,hk⟩:∃k,lk hv h=some k:=by
    cases e:lk hv h with
    |none=>exact absurd hk (dG.mp e)
    |some k=>exact⟨k,rfl⟩
   have gv:bh H5 hd (.int h) (some (.int k)):=by have:=bh.k (k:=Sum.inl h) ((s4.trans s5) _ _ e3);rw[gD,hk]at this;exact this
   have zl:zs.length<=20:=by have:=congrArg List.length m5;rw[length_map,length_take]at this;lia
   refine cO ?_;refine⟨_,rfl,_,rfl,_,rfl,hd,.int k,rfl,gv,zz2,λtp mx=>?_⟩;have s6:=(aH.refl H5).new (o:=.tup [.int h,.int k]) mx;have dn:ar K (upd H5 tp (.tup [.int h,.int k])) 2 (.ref tp) (.tuple [.int h,.int ((lk hv h).getD 0)]):=by
    rw[hk];refine .tup (ab.of aC) rfl λi v d e1 e2=>?_
    match i with
    |0=>cases e1;cases e2;exact .int _
    |1=>cases e1;cases e2;exact .int _
    |i+2=>simp at e1
   generalize upd H5 tp (.tup [.int h,.int k])=H6 at s6 dn;have e6:=s6 _ _ e5;have kp:=bN (o:=.lst (zs.map (·.1)++[V.ref tp])) (nC.lst e6);refine⟨_,e6,by rw[length_map];lia,hN _ _ ⟨_,zs++[(.ref tp,h)],rfl,(s5.trans s6).put hD,by rw[aC,map_append];rfl,by rw[map_append,m5,take_succ ho];rfl,λz hz=>?_⟩⟩;rcases mem_append.mp hz with h|h
   ·exact((t5 z h).same s6).kept kp (JU _ _)
   rw[mem_singleton.mp h];exact dn.kept kp (JU _ _)
  rintro σ H5 ⟨v,zs,rfl,s5,e5,m5,t5⟩;rw[length_map,take_length]at m5;refine⟨zz3,λr hr=>?_⟩;have s6:=(aH.refl H5).new (o:=.tup [.str "way",.ref p,.ref D]) hr;have S:=s4.trans (s5.trans s6);refine qw ts hv n ys ws r p D _ (S2.trans (s3.trans S)) hm zJ fin en gr Hu xu (ab.of aC) (S.tup hp) ((S2.trans (s3.trans s4)).free hD) ⟨zs.map λz=>(adr z.1,z.2,(lk hv z.2).getD 0),?_,λz hz=>?_,?_⟩
  ·rw[s6 _ _ e5,List.map_map]
   congr 2
   refine List.map_congr_left λz hz=>?_;obtain⟨p,ep,_⟩:=FO (t5 z hz);show z.1=V.ref (adr z.1);rw[ep];rfl
  ·obtain⟨y,hy,rfl⟩:=List.mem_map.mp hz;obtain⟨p,ep,g⟩:=FO ((t5 y hy).same s6);show ab K _ (adr y.1) _;rw[ep];exact g
  unfold tM;rw[<-m5,List.map_map,List.map_map];rfl
inductive Wk(L:List (Tk×Int))(goal:Int):Int->Int->Prop
 |nil:Wk L goal goal 0
 |cons {x e l s:Int}:([x,e],l)∈L->Wk L goal e s->Wk L goal x (l+s)
theorem Fin.le{hv:Hv}(f:Fin L goal hv){s:Int}(w:Wk L goal x s):∃n,lk hv x=some n/\n<=s:=by
 induction w with
 |nil=>exact⟨0,f.h.g,Int.le_refl _⟩
 |@cons x e l s h w ih =>
  obtain⟨m,h1,h2⟩:=ih;obtain⟨n,h3,h4⟩:=f.c _ h x e rfl m h1;have h5:n<=m+l:=h4;exact⟨n,h3,by lia⟩
theorem Fin.pos{hv:Hv}(f:Fin L goal hv){e l:Int}(h:([x,e],l)∈L):1<=l:=by obtain⟨_,_,_,h1,_⟩:=f.ok.2 _ h;exact h1
theorem Fin.wk{L:List (Tk×Int)}{goal:Int}{hv:Hv}(f:Fin L goal hv):∀(k:Nat){x n:Int},n.toNat<=k->lk hv x=some n->Wk L goal x n
 |k,x,n,hk,hx=>by
  by_cases c:x=goal
  ·subst c;rw[f.h.g]at hx;cases hx;exact .nil
  obtain⟨e,l,m,h1,h2,h3⟩:=f.step hx c;have l1:=f.pos h1;have m0:=f.h.pos _ _ h2
  match k,hk with
  |0,hk=>lia
  |k+1,hk =>
   have:=f.wk k (x:=e) (n:=m) (by lia) h2;rw[show n=l+m by lia];exact .cons h1 this
inductive Wl(L:List (Tk×Int))(goal:Int):Int->List Int->Int->Prop
 |done:Wl L goal goal [goal] 0
 |step {x e l s:Int} {ws:List Int}:([x,e],l)∈L->Wl L goal e ws s->Wl L goal x (x::ws) (l+s)
theorem Wl.wk{s:Int}(h:Wl L goal x ws s):Wk L goal x s:=by
 induction h with
 |done=>exact .nil
 |step h _ ih=>exact .cons h ih
theorem Wl.head{s:Int}(h:Wl L goal x ws s):∃t,ws=x::t:=by
 cases h with
 |done=>exact⟨[],rfl⟩
 |step _ _=>exact⟨_,rfl⟩
theorem Gr.wl{hv:Hv}(f:Fin L goal hv)(h:Gr L hv goal x ws):∃n,lk hv x=some n/\Wl L goal x ws n:=by
 induction h with
 |done=>exact⟨0,f.h.g,.done⟩
 |@step x e ws ne nx g ih =>
  obtain⟨n,h1,h2⟩:=ih;obtain⟨⟨l,m,h3,h4,h5⟩,_⟩:=nx;rw[h1]at h4;cases h4;exact⟨_,h5,by rw[show n+l=l+n by lia];exact .step h3 h2⟩
theorem FP{a b:Int}(h:a.natAbs<2 ^ 64):IntMulOk a b:=GO.ok (.inl ⟨by lia,by lia⟩)
def fe(K:W.Frag):Sp:=λvs H Q _=>∃(l:Addr)(ns:List Int)(k:Int),vs=[.ref l,.int k]/\aV K H l (ns.map V.int)/\0<=k/\∀c:Int,Q (.int c) H
theorem rG:aU ["script","k"] ["script","k"] (aI eG):=ad
theorem rH(F:aN K mg "_law_cell_at" eG)(T:Txt K mg t):Def P w K mg base 1 "_law_cell_at" ["script","k"] (fe K):=by
 refine F.def rG (λ_ _ _ _ _ _=>bn λ_ _=>rfl) (λvs H Q E h=>?_) (λf bj A outer s H vs Q E hr h=>?_)
 ·obtain⟨l,ns,k,rfl,_⟩:=h;rfl
 obtain⟨l,ns,k,rfl,hl,k0,q⟩:=h;refine⟨_,aF (au (aL lE (pv 1) (aT (bL K) (by rfl) T.eT boot_len (aA (pv 0) aE)) (aQ _))
   (aG (aX (aK (aJ K) (pv 0) (pv 1) (λ_ _=>rfl))))
   (aZ))
  (aG (aX aD)),?_⟩
 refine⟨_,rfl,_,rfl,l,_,rfl,.inl hl,_,_,rfl,rfl,_,rfl,?_⟩;by_cases z:k<((ns.map V.int).length:Nat)
 ·refine bx z ?_;rw[length_map]at z;obtain⟨j,rfl⟩:∃j:Nat,k=j:=⟨k.toNat,by lia⟩;have hj:j<ns.length:=by lia
  exact⟨_,rfl,_,rfl,l,_,_,V.int ns[j],rfl,rfl,hl,bG (by simp[hj]),q _⟩
 exact cB z (q 0)
def fN:Sp:=λvs H Q _=>∃c k:Int,vs=[.int c,.int k]/\0<=k/\k<=1000/\∀m:Int,0<=m->Q (.int m) H
theorem i7:aU ["cell","k","near","stir"] ["cell","k"] (aI gN):=ad
theorem ui(F:aN K mg "_law_mixed" gN)(T:Txt K mg t):Def P w K mg base 1 "_law_mixed" ["cell","k"] fN:=by
 refine F.def i7 (λ_ _ _ _ _ _=>bn λ_ _=>rfl) (λvs H Q E h=>?_) (λf bj A outer s H vs Q E hr h=>?_)
 ·obtain⟨c,k,rfl,_⟩:=h;rfl
 obtain⟨c,k,rfl,k0,k1,q⟩:=h;refine⟨_,aF (aR (i:=2) i7.nd rfl (Or.inl rfl) (aW bP (aW bK (pv 0) aD) (aW wV aD (pv 1))))
  (aF (aR (i:=3) i7.nd rfl (Or.inl rfl) (aW bK (aW wV (aW bP (pv 2) aD) (aW bP (pv 2) aD)) aD))
  (aG (aX (aW BM (aW bK (aW wV (pv 3) (pv 3)) aD) aD)))),?_⟩
 have n0:0<=c%998244353/\c%998244353<998244353:=⟨Int.emod_nonneg _ (by decide),Int.emod_lt_of_pos _ (by decide)⟩;refine⟨_,rfl,_,_,rfl,rfl,(by show(0:Int)<998244353;decide),_,rfl,_,_,rfl,rfl,FP (by decide),_,_,rfl,rfl,?_⟩;dsimp only;have b1:0<=c%998244353+7919*k/\c%998244353+7919*k<=2000000000:=by lia
 generalize c%998244353+7919*k=x1 at b1;refine⟨_,rfl,_,_,rfl,rfl,_,rfl,_,_,rfl,rfl,_,_,rfl,rfl,FP (by lia),_,_,rfl,rfl,(by show(0:Int)<998244353;decide),?_⟩;dsimp only;generalize(x1+11)*(x1+48271)=x2;have b2:0<=x2%998244353/\x2%998244353<998244353:=⟨Int.emod_nonneg _ (by decide),Int.emod_lt_of_pos _ (by decide)⟩;refine⟨_,rfl,_,rfl,_,_,rfl,rfl,FP (by lia),_,_,rfl,rfl,(by show(0:Int)<1000000007;decide),_,_,rfl,rfl,⟨by decide,by decide⟩,?_⟩;exact q _ (Int.ediv_nonneg (Int.emod_nonneg _ (by decide)) (by decide))
def Hw(bs ms:List Int):Prop:=ms.length=bs.length/\∀(i:Nat)(m b:Int),ms[i]?=some m->bs[i]?=some b->0<=m/\m<b
def fO(K:W.Frag):Sp:=λvs H Q _=>∃(c:Int)(l:Addr)(bs:List Int),vs=[.int c,.ref l]/\H l=some (.lst (bs.map V.int))/\bs.length<=100/\(∀b∈bs,0<b/\b<=1000000)/\∀(r:Addr)(H':Hp)(ms:List Int),aH H H'->H r=none->H' r=some (.lst (ms.map V.int))->Hw bs ms->Q (.ref r) H'
theorem cY:aU ["cell","bounds","left","made","k"] ["cell","bounds"] (aI gO):=ad
set_option maxHeartbeats 1000000 in
theorem uj(F:aN K mg "_law_drawn" gO)(T:Txt K mg t)(bS:Def P w K mg base 1 "_law_mixed" ["cell","k"] fN):Def P w K mg base 2 "_law_drawn" ["cell","bounds"] (fO K):=by
 refine F.def cY (λ_ _ _ _ _ _=>bn λ_ _=>rfl) (λvs H Q E h=>?_) (λf bj A outer s H vs Q E hr h=>?_)
 ·obtain⟨c,l,bs,rfl,_⟩:=h;rfl
 obtain⟨c,l,bs,rfl,hl,Kr,hb,q⟩:=h;refine⟨_,aF (aR (i:=2) cY.nd rfl (Or.inl rfl) (pv 0))
  (aF (p9 (au (aL lE (pv 0) (aW Dr aD aD) (aQ _))
   (aG (aR (i:=2) cY.nd rfl (Or.inl rfl) aD))
   (aZ)))
  (aF (aR (i:=3) cY.nd rfl (Or.inl rfl) (az aE))
  (aF (PS.uI (bW PassesOwn.never rfl (dD (by rfl) T.fM (aA (aT (bL K) (by rfl) T.eT boot_len (aA (pv 1) aE)) aE)) (aO (i:=4) cY.nd rfl (Or.inl rfl))
   (aG (au (aL mq (pv 2) aD (aQ _))
    (aF (bM (jq K PySem.F.plainAttrs_list PySem.F.slot_list_append PySem.F.type_list_append gR (pv 3) (aA (aW bK (pv 2) (aK (aJ K) (pv 1) (pv 4) (λ_ _=>rfl))) aE)))
    (aG (aR (i:=2) cY.nd rfl (Or.inl rfl) (aW BM (pv 2) (aK (aJ K) (pv 1) (pv 4) (λ_ _=>rfl))))))
    (aG (bM (jq K PySem.F.plainAttrs_list PySem.F.slot_list_append PySem.F.type_list_append gR (pv 3) (aA (aW bK (aa (bS.mono (by decide)) hr av (aA (pv 0) (aA (pv 4) aE))) (aK (aJ K) (pv 1) (pv 4) (λ_ _=>rfl))) aE))))))))
  (aG (aX (pv 3)))))),?_⟩
 have hsz:(2000:Nat)<=sizeLine:=by decide
 refine⟨_,rfl,?_⟩;refine⟨λσ H'=>H'=H/\∃left:Int,σ=[some (.int c),some (.ref l),some (.int left),none,none],?_,?_⟩
 ·refine⟨_,rfl,_,_,rfl,rfl,⟨by decide,by decide,by decide⟩,_,_,rfl,rfl,_,rfl,?_⟩;exact kr (λ_=>⟨rfl,_,rfl⟩) (λ_=>⟨rfl,_,rfl⟩)
 rintro σ H0 ⟨eH,left,rfl⟩;rw[eH];clear eH;refine⟨zz0,λL hL=>?_⟩;have s1:=(aH.refl H).new (o:=.lst []) hL;have e1:(upd H L (.lst [])) L=some (.lst []):=aC;generalize upd H L (.lst [])=H1 at s1 e1 ⊢;refine⟨_,rfl,l,_,rfl,.inl (aV.of (s1 _ _ hl)),_,rfl,by rw[length_map];lia,by rw[length_map];lia,?_⟩;have hn:(((bs.map V.int).length:Nat):Int).toNat=bs.length:=by rw[length_map];lia
 refine eV (lo:=0) (n:=(((bs.map V.int).length:Nat):Int).toNat) (λi σ H2=>∃(rest:Int)(ms:List Int)(v4:Option V),σ=[some (.int c),some (.ref l),some (.int rest),some (.ref L),v4]/\aH H H2/\H2 L=some (.lst (ms.map V.int))/\ms.length=i/\∀(j:Nat)(m b:Int),ms[j]?=some m->bs[j]?=some b->0<=m/\m<b)
  ⟨_,[],none,rfl,s1,e1,rfl,λj m b hm=>by cases hm⟩ ?_ ?_
 ·rintro i σ H2 hi ⟨rest,ms,v4,rfl,s2,h2,N0,hm⟩;rw[hn]at hi;have ei:bs[i]?=some bs[i]:=by simp[hi]
  generalize bs[i]=b at ei;obtain⟨b0,b1⟩:=hb b (mem_of_getElem? ei);have ai:jh (bs.map V.int) (0+(i:Nat):Int)=some (.int b):=by rw[show(0+(i:Nat):Int)=(i:Nat) by lia];exact bG (by rw[getElem?_map,ei];rfl)
  have push:∀(x:Int),0<=x/\x<b->(aH H (upd H2 L (.lst (ms.map V.int++[V.int x])))/\(upd H2 L (.lst (ms.map V.int++[V.int x]))) L=some (.lst ((ms++[x]).map V.int))/\(ms++[x]).length=i+1/\∀(j:Nat)(m b:Int),(ms++[x])[j]?=some m->bs[j]?=some b->0<=m/\m<b):=λx hx=>⟨s2.put hL,by rw[aC,map_append];rfl,by rw[length_append,N0];rfl,λj m b' Dk xt=>by
   by_cases z:j<ms.length
   ·rw[getElem?_append_left z]at Dk;exact hm j m b' Dk xt
   have cN:=(List.getElem?_eq_some_iff.mp Dk).1;rw[length_append]at cN;have e:j=ms.length:=(by simp at cN;lia);rw[e,getElem?_append_right (le_refl _),Nat.sub_self]at Dk;cases Dk;rw[e,N0,ei]at xt;cases xt;exact hx⟩
  refine⟨_,rfl,_,_,rfl,rfl,_,rfl,?_⟩;refine kr (λ_=>?_) (λ_=>?_)
  ·refine⟨_,rfl,.inl ⟨rfl,_,aV.of h2⟩,_,rfl,_,rfl,_,rfl,l,_,_,.int b,rfl,rfl,aV.of (s2 _ _ hl),ai,_,_,rfl,rfl,b0,L,_,_,rfl,rfl,h2,by rw[length_map];lia,?_⟩;obtain⟨p1,p2,p3,p4⟩:=push (rest%b) ⟨Int.emod_nonneg _ (by lia),Int.emod_lt_of_pos _ b0⟩;refine⟨_,rfl,_,rfl,_,rfl,l,_,_,.int b,rfl,rfl,aV.of (p1 _ _ hl),ai,_,_,rfl,rfl,⟨b0,by lia⟩,?_⟩;exact⟨_,_,_,rfl,p1,p2,p3,p4⟩
  refine⟨_,rfl,.inl ⟨rfl,_,aV.of h2⟩,_,rfl,_,rfl,c,_,rfl,by lia,by lia,λm m0=>?_⟩;refine⟨_,rfl,_,rfl,l,_,_,.int b,rfl,rfl,aV.of (s2 _ _ hl),ai,_,_,rfl,rfl,b0,L,_,_,rfl,rfl,h2,by rw[length_map];lia,?_⟩;obtain⟨p1,p2,p3,p4⟩:=push (m%b) ⟨Int.emod_nonneg _ (by lia),Int.emod_lt_of_pos _ b0⟩;exact⟨_,_,_,rfl,p1,p2,p3,p4⟩
 rintro σ H2 ⟨rest,ms,v4,rfl,s2,h2,N0,hm⟩;rw[hn]at N0;exact⟨_,rfl,q L H2 ms s2 hL h2 ⟨N0,hm⟩⟩
def zM:List Int:=(List.range 32).map λk:Nat=>(0:Int)+(k:Nat)
theorem ve{α β:Type}(f:α->β):∀(l:List α)(k:Nat),(l.map f).eraseIdx k=(l.eraseIdx k).map f
 |[],_=>rfl
 |_::_,0=>rfl
 |a::l,k+1=>congrArg (f a::·) (ve f l k)
theorem tN{α:Type}:∀(l:List α)(k:Nat)(h:k<l.length),(l[k]::l.eraseIdx k).Perm l
 |[],_,h=>absurd h (not_lt_zero _)
 |_::_,0,_=>.refl _
 |a::l,k+1,h=>(List.Perm.swap a (l[k]'(Nat.lt_of_succ_lt_succ h)) _).trans ((tN l k (Nat.lt_of_succ_lt_succ h)).cons a)
structure uk(os:List Int):Prop where
 nd:os.Nodup
 b:∀x∈os,0<=x/\x<32
theorem uk.of{lf:List Int}(p:(os++lf).Perm zM):uk os:=by
 have nd:zM.Nodup:=by decide
 have:=p.nodup_iff.mpr nd;refine⟨(List.nodup_append.mp this).1,λx hx=>?_⟩;have:=p.mem_iff.mp (mem_append_left _ hx);have key:∀y∈zM,0<=y/\y<32:=by decide
 exact key x this
def lW(K:W.Frag):Sp:=λvs H Q _=>∃(l:Addr)(ms:List Int),vs=[.ref l]/\H l=some (.lst (ms.map V.int))/\ms.length<=30/\∀(r:Addr)(H':Hp)(os:List Int),aH H H'->H r=none->H' r=some (.lst (os.map V.int))->os.length=ms.length->uk os->Q (.ref r) H'
theorem lX:aU ["drawn","left"] ["drawn"] (aI cU):=ad
set_option maxHeartbeats 1000000 in
theorem tO(F:aN K mg "_law_houses" cU)(T:Txt K mg t):Def P w K mg base 1 "_law_houses" ["drawn"] (lW K):=by
 refine F.def lX (λ_ _ _ _ _ _=>bm λ_=>rfl) (λvs H Q E h=>?_) (λf bj A outer s H vs Q E hr h=>?_)
 ·obtain⟨l,ms,rfl,_⟩:=h;rfl
 obtain⟨l,ms,rfl,hl,ml,q⟩:=h;refine⟨_,aF (aR (i:=1) lX.nd rfl (Or.inr rfl) (gg rfl (Nc:=["house"]) (ix:=[none]) (bR (aI cU) ["drawn","left"] rfl rfl (by decide +kernel)) (dD (by rfl) T.fM (aA aD aE)) (λC fp s H=>⟨(aO (i:=0) (show(["house"]:List Str).Nodup by decide +kernel) rfl (Or.inl rfl)),bc,(pv 0)⟩)))
  (aG (aX (gg rfl (Nc:=["number","left"]) (ix:=[none,some 1]) (bR (aI cU) ["drawn","left"] rfl rfl (by decide +kernel)) (a9 K (pv 0)) (λC fp s H=>⟨(aO (i:=0) (show(["number","left"]:List Str).Nodup by decide +kernel) rfl (Or.inl rfl)),bc,(jq K PySem.F.plainAttrs_list PySem.F.slot_list_pop PySem.F.type_list_pop yL (pv 1) (aA (aW bK (pv 0) (aT (bL K) (by rfl) T.eT boot_len (aA (pv 1) aE))) aE))⟩)))),?_⟩
 have hsz:(2000:Nat)<=sizeLine:=by decide
 refine⟨32,rfl,by decide,by decide,λD hD=>?_⟩;refine sE (lo:=0) (n:=32) (λi σ H'=>(∃v:Option V,σ=[v])/\aH H H'/\H' D=some (.lst (((List.range i).map λk:Nat=>(0:Int)+(k:Nat)).map V.int))) ⟨⟨none,rfl⟩,(aH.refl _).new hD,aC⟩ ?_ ?_
 ·rintro i σ H1 N hN hi ⟨⟨v,rfl⟩,s1,e1⟩;refine cO ?_;refine⟨_,rfl,_,e1,by rw[length_map,length_map,List.length_range];lia,hN _ _ ⟨⟨_,rfl⟩,s1.put hD,?_⟩⟩;rw[aC,List.range_succ,map_append,map_append];rfl
 rintro σ H1 ⟨⟨v,rfl⟩,s1,e1⟩;refine⟨_,rfl,?_⟩;refine⟨l,rfl,⟨_,aV.of (s1 _ _ hl)⟩,λR hR=>?_⟩;have Q0:D≠R:=aq e1 hR;have SY:H R=none:=s1.free hR;refine dE (K:=K) (a:=l) (xs:=ms.map V.int) (λi σ H'=>∃(v:Option V)(lf os:List Int),σ=[v,some (.ref D)]/\aH H H'/\H' D=some (.lst (lf.map V.int))/\H' R=some (.lst (os.map V.int))/\os.length=i/\(os++lf).Perm zM) ⟨none,zM,[],rfl,s1.new hR,by rw[aM Q0];exact e1,aC,rfl,.refl _⟩ (λi σ H' _ ⟨_,_,_,_,s2,_⟩=>aV.of (s2 _ _ hl)) ?_ ?_
 ·rintro i y σ H2 N hN hi ⟨v,lf,os,rfl,s2,e2,r2,ol,pm⟩;obtain⟨m,hm,rfl⟩:=gF hi;have Oi:i<ms.length:=(List.getElem?_eq_some_iff.mp hm).1;have ll:os.length+lf.length=32:=by have:=pm.length_eq;rw[length_append]at this;exact this
  have l0:(0:Int)<((lf.map V.int).length:Nat):=by rw[length_map];lia
  obtain⟨k,hk,kl⟩:∃k:Nat,m%((lf.map V.int).length:Nat)=(k:Int)/\k<lf.length:=by have h0:=Int.emod_nonneg m (show((lf.map V.int).length:Int)≠0 by lia);have h1:=Int.emod_lt_of_pos m l0;rw[length_map]at h0 h1 ⊢;exact⟨(m%(lf.length:Nat)).toNat,by lia,by lia⟩
  have sq:seqIndex? (k:Int) (lf.map V.int).length=some k:=(wC (by unfold D8;rw[if_pos (by lia),if_pos (by rw[length_map];lia)];simp)).1;refine cO ?_;refine⟨_,rfl,.inl ⟨rfl,_,aV.of e2⟩,_,rfl,_,rfl,D,_,rfl,.inl (aV.of e2),_,_,rfl,rfl,l0,D,_,_,k,.int lf[k],rfl,rfl,e2,by rw[hk];lia,by rw[hk];lia,by rw[hk];exact sq,by rw[getElem?_map];simp[kl],?_⟩;refine⟨_,by rw[aM (Ne.symm Q0)];exact r2,by rw[length_map];lia,hN _ _ ⟨_,lf.eraseIdx k,os++[lf[k]],rfl,(s2.put hD).put SY,?_,by rw[aC,map_append];rfl,by rw[length_append,ol];rfl,?_⟩⟩
  ·rw[aM Q0,aC,ve]
  rw[List.append_assoc];exact((tN lf k kl).append_left os).trans pm
 rintro σ H2 ⟨v,lf,os,rfl,s2,e2,r2,ol,pm⟩;rw[length_map]at ol;exact q R H2 os s2 SY r2 ol (.of pm)
structure Ne where
 q:Int
 a:Int
 b:Int
def GF(e:Ne):PyData:=.tuple [.int e.q,.tuple [.int e.a,.int e.b]]
theorem Av(e:Ne):zZ (GF e)=true:=by simp[GF,zZ,dz]
abbrev Nd:=List (Int×V×Ne)
def nF(p:Int×V×Ne):Key×V:=(Sum.inl p.1,p.2.1)
def nq(d:Nd)(h:Int):Option (Int×V×Ne):=d.find? λp=>decide (p.1=h)
def putN(d:Nd)(h:Int)(v:V)(e:Ne):Nd:=if h∈d.map (·.1)then d.map (λp=>if p.1=h then(h,v,e)else p)else d++[(h,v,e)]
def FQ(d:Nd)(h:Int):Nd:=d.filter λp=>!decide (p.1=h)
theorem FR(d:Nd)(h:Int):fY (d.map nF) (Sum.inl h)=(nq d h).map (·.2.1):=by
 unfold fY nq;rw[List.find?_map,Option.map_map];have e:((λkv:Key×V=>decide (kv.1=Sum.inl h))∘nF)=λp:Int×V×Ne=>decide (p.1=h):=by
  funext m
  simp[nF]
 rw[e];rfl
theorem N1(d:Nd)(h:Int)(v:V)(e:Ne):lv (d.map nF) (Sum.inl h) v=(putN d h v e).map nF:=by
 unfold lv putN;have ea:((d.map nF).any λkv=>decide (kv.1=Sum.inl h))=decide (h∈d.map (·.1)):=by
  rw[List.any_map,Bool.eq_iff_iff,List.any_eq_true,decide_eq_true_iff,List.mem_map];constructor
  ·rintro⟨m,hm,h⟩;exact⟨m,hm,by simpa[nF]using h⟩
  rintro⟨m,hm,h⟩;exact⟨m,hm,by simp[nF,h]⟩
 rw[ea];by_cases c:h∈d.map (·.1)
 ·rw[if_pos (by simpa using c),if_pos c,List.map_map,List.map_map];refine List.map_congr_left λm _=>?_;show(if(nF m).1=Sum.inl h then((nF m).1,v)else nF m)=nF (if m.1=h then(h,v,e)else m);by_cases c:m.1=h
  ·rw[if_pos c,if_pos (by simp[nF,c])];simp[nF,c]
  rw[if_neg c,if_neg (by simp[nF,c])]
 rw[if_neg (by simpa using c),if_neg c,map_append];rfl
theorem DG(d:Nd)(h:Int)(v:V)(e:Ne):(putN d h v e).map (·.1)=if h∈d.map (·.1)then d.map (·.1)else d.map (·.1)++[h]:=by
 unfold putN;by_cases c:h∈d.map (·.1)
 ·rw[if_pos c,if_pos c,List.map_map];refine List.map_congr_left λm _=>?_;show(if m.1=h then(h,v,e)else m).1=m.1;split
  ·rename_i c;exact c.symm
  rfl
 rw[if_neg c,if_neg c,map_append];rfl
theorem Aw{d:Nd}(nd:(d.map (·.1)).Nodup)(h:Int)(v:V)(e:Ne):((putN d h v e).map (·.1)).Nodup:=by
 rw[DG];split
 ·exact nd
 rename_i c;refine List.nodup_append.mpr ⟨nd,by simp,λa ha b hb=>?_⟩;rw[mem_singleton.mp hb];rintro rfl;exact c ha
theorem zN{d:Nd}{h:Int}{v:V}{e:Ne}{p:Int×V×Ne}:p∈putN d h v e->p=(h,v,e)\/p∈d:=by
 unfold putN;split
 ·intro z;obtain⟨x,hx,e⟩:=List.mem_map.mp z;split at e
  ·exact .inl e.symm
  exact .inr (e▸hx)
 intro z;rcases mem_append.mp z with z|z
 ·exact .inr z
 exact .inl (mem_singleton.mp z)
structure Hx(K:W.Frag)(H:Hp)(a:Addr)(xs:Nd):Prop where
 d:H a=some (.dK (xs.map nF))
 nd:(xs.map (·.1)).Nodup
 v:∀p∈xs,ar K H 3 p.2.1 (GF p.2.2)
theorem Hx.same{K:W.Frag}{H H':Hp}{a:Addr}{d:Nd}(h:Hx K H a d)(s:aH H H'):Hx K H' a d:=⟨s _ _ h.d,h.nd,λp hp=>(h.v p hp).same s⟩
structure tP(K:W.Frag)(H:Hp)(nl:Addr)(ds:List (Addr×Nd)):Prop where
 l:H nl=some (.lst (ds.map λx=>V.ref x.1))
 d:∀x∈ds,Hx K H x.1 x.2
 ap:(ds.map (·.1)).Nodup
theorem tP.same{K:W.Frag}{H H':Hp}{nl:Addr}{ds:List (Addr×Nd)}(h:tP K H nl ds)(s:aH H H'):tP K H' nl ds:=⟨s _ _ h.l,λx hx=>(h.d x hx).same s,h.ap⟩
theorem tP.set{K:W.Frag}{H:Hp}{nl:Addr}{ds:List (Addr×Nd)}(h:tP K H nl ds){i:Nat}{x:Addr×Nd}(hi:ds[i]?=some x){d':Nd}(nd:(d'.map (·.1)).Nodup)(hv:∀p∈d',ar K H 3 p.2.1 (GF p.2.2)):tP K (upd H x.1 (.dK (d'.map nF))) nl (ds.set i (x.1,d')):=by
 have hx:=h.d x (mem_of_getElem? hi);have kp:=bN (o:=.dK (d'.map nF)) (nC.dk hx.d);have VP:nl≠x.1:=kx h.l hx.d (by intro z;cases z);obtain⟨il,ie⟩:=List.getElem?_eq_some_iff.mp hi;have em:(ds.set i (x.1,d')).map (·.1)=ds.map (·.1):=by
  rw[List.map_set];refine List.ext_getElem (by simp) λj h1 h2=>?_;rw[List.getElem_set];split
  ·rename_i c;subst c;simp[ie]
  rfl
 have er:(ds.set i (x.1,d')).map (λx=>V.ref x.1)=ds.map λx=>V.ref x.1:=by have:=congrArg (List.map V.ref) em;rw[List.map_map,List.map_map]at this;exact this
 refine⟨by rw[aM VP,er];exact h.l,λy hy=>?_,by rw[em];exact h.ap⟩;obtain⟨j,jl,rfl⟩:=List.getElem_of_mem hy;rw[List.getElem_set];split
 ·exact⟨aC,nd,λp hp=>(hv p hp).kept kp (Av _)⟩
 rename_i c;have Q1:j<ds.length:=by simpa using jl
 have hj:=h.d ds[j] (List.getElem_mem Q1);have ne:ds[j].1≠x.1:=λz=>by
  have p:=List.pairwise_iff_getElem.mp h.ap;rcases Nat.lt_or_gt_of_ne c with g|g
  ·exact p i j (by simpa using il) (by simpa using Q1) g (by simp[ie,z])
  exact p j i (by simpa using Q1) (by simpa using il) g (by simp[ie,z])
 exact⟨by rw[aM ne];exact hj.d,hj.nd,λp hp=>(hj.v p hp).kept kp (Av _)⟩
def nG(os:List Int)(many k:Nat)(h:Int):Prop:=(∃j:Nat,j<many/\j≠k/\os[j]?=some h)\/(many<5/\(os[6]?=some h\/os[7]?=some h))
def FT(e:Ne):Prop:=(1<=e.q/\e.q<=10)/\(1<=e.a/\e.a<=9000)/\(1<=e.b/\e.b<=9000)
def rJ(os:List Int)(many:Nat)(ds:List (Addr×Nd)):Prop:=∀k x,ds[k]?=some x->∀p∈x.2,nG os many k p.1/\FT p.2.2
theorem nG.mem{k:Nat}{h:Int}(a:nG os many k h):h∈os:=by rcases a with⟨j,_,_,e⟩|⟨_,e|e⟩<;>exact mem_of_getElem? e
theorem rJ.len{ds:List (Addr×Nd)}(h:rJ os many ds){k:Nat}{x:Addr×Nd}(hx:ds[k]?=some x)(nd:(x.2.map (·.1)).Nodup):x.2.length<=os.length:=by
 have:=dS os (x.2.map (·.1)) nd λy hy=>by obtain⟨p,hp,rfl⟩:=List.mem_map.mp hy;exact(h k x hx p hp).1.mem
 rwa [length_map]at this
theorem rJ.set{os:List Int}{many:Nat}{ds:List (Addr×Nd)}(h:rJ os many ds){i:Nat}{x:Addr×Nd}(hx:ds[i]?=some x){d':Nd}(hd:∀p∈d',p∈x.2\/(nG os many i p.1/\FT p.2.2)):rJ os many (ds.set i (x.1,d')):=by
 intro k y hy p hp;rw[List.getElem?_set]at hy;split at hy
 ·rename_i c;subst c;split at hy
  ·cases hy;rcases hd p hp with z|z
   ·exact h i x hx p z
   exact z
  cases hy
 exact h k y hy p hp
structure Tl(K:W.Frag)(nl hl:Addr)(os:List Int)(S:List Addr)(H H':Hp)(ds:List (Addr×Nd)):Prop where
 m:nc S H H'
 r:tP K H' nl ds
 e:ds.map (·.1)=S
 k:rJ os ds.length ds
 h:H' hl=some (.lst (os.map V.int))
theorem Tl.same{K:W.Frag}{nl hl:Addr}{os:List Int}{S:List Addr}{H H' H2:Hp}{ds:List (Addr×Nd)}(t:Tl K nl hl os S H H' ds)(s:aH H' H2):Tl K nl hl os S H H2 ds:=⟨λb o nb e=>s b o (t.m b o nb e),t.r.same s,t.e,t.k,s _ _ t.h⟩
theorem Tl.set{K:W.Frag}{nl hl:Addr}{os:List Int}{S:List Addr}{H H':Hp}{ds:List (Addr×Nd)}(t:Tl K nl hl os S H H' ds){i:Nat}{x:Addr×Nd}(hx:ds[i]?=some x){d':Nd}(nd:(d'.map (·.1)).Nodup)(hv:∀p∈d',ar K H' 3 p.2.1 (GF p.2.2))(hd:∀p∈d',p∈x.2\/(nG os ds.length i p.1/\FT p.2.2)):Tl K nl hl os S H (upd H' x.1 (.dK (d'.map nF))) (ds.set i (x.1,d')):=by
 have Ot:=t.r.d x (mem_of_getElem? hx);obtain⟨il,ie⟩:=List.getElem?_eq_some_iff.mp hx;have em:(ds.set i (x.1,d')).map (·.1)=ds.map (·.1):=by
  rw[List.map_set];refine List.ext_getElem (by simp) λj h1 h2=>?_;rw[List.getElem_set];split
  ·rename_i c;subst c;simp[ie]
  rfl
 have xS:x.1∈S:=by rw[<-t.e];exact List.mem_map.mpr ⟨x,mem_of_getElem? hx,rfl⟩
 refine⟨λb o nb e=>?_,t.r.set hx nd hv,by rw[em];exact t.e,by rw[List.length_set];exact t.k.set hx hd,?_⟩
 ·rw[aM (λz=>nb (by rw[z];exact xS))];exact t.m b o nb e
 rw[aM (kx t.h Ot.d (by intro z;cases z))];exact t.h
theorem Tl.put{ds:List (Addr×Nd)}(t:Tl K nl hl os S H H' ds){x:Addr×Nd}(hx:ds[i]?=some x){h:Int}{v:V}{e:Ne}(hv:ar K H' 3 v (GF e))(ha:nG os ds.length i h)(he:FT e):Tl K nl hl os S H (upd H' x.1 (.dK (lv (x.2.map nF) (Sum.inl h) v))) (ds.set i (x.1,putN x.2 h v e)):=by
 have Ot:=t.r.d x (mem_of_getElem? hx);rw[N1 x.2 h v e];refine t.set hx (Aw Ot.nd _ _ _) (λp hp=>?_) (λp hp=>?_)
 ·rcases zN hp with rfl|z
  ·exact hv
  exact Ot.v p z
 rcases zN hp with rfl|z
 ·exact .inr ⟨ha,he⟩
 exact .inl z
def pK(K:W.Frag):Sp:=λvs H Q _=>∃(nl hl:Addr)(c:Int)(pl:Bool)(os:List Int)(ds:List (Addr×Nd)),vs=[.ref nl,.ref hl,.int c,.int (ds.length:Nat),.bl pl]/\Tl K nl hl os (ds.map (·.1)) H H ds/\os.length=8/\2<=ds.length/\ds.length<=6/\∀(H':Hp)(Sa:List (Addr×Nd)),Tl K nl hl os (ds.map (·.1)) H H' Sa->Sa.length=ds.length->Q .bu H'
theorem LL{p r:Addr}{q a b:Int}(h1:ab K H r [.int q,.ref p])(h2:ab K H p [.int a,.int b]):ar K H 3 (.ref r) (GF ⟨q,a,b⟩):=by
 refine .tup h1 rfl λi v d e1 e2=>?_
 match i with
 |0=>cases e1;cases e2;exact .int _
 |1 =>
  cases e1;cases e2;refine .tup h2 rfl λi v d e1 e2=>?_
  match i with
  |0=>cases e1;cases e2;exact .int _
  |1=>cases e1;cases e2;exact .int _
  |i+2=>simp at e1
 |i+2=>simp at e1
theorem LM(d:Nd)(h:Int):sF (d.map nF) (Sum.inl h)=(FQ d h).map nF:=by
 unfold sF FQ;rw[List.filter_map]
 congr 1
 refine List.filter_congr λp _=>?_;simp[nF]
theorem bT:aU ["near","houses","cell","many","plain","a","step","length","more","kind","birth","b"] ["near","houses","cell","many","plain"] (aI ib):=ad
set_option maxHeartbeats 2000000 in
theorem xT(F:aN K mg "_law_told" ib)(T:Txt K mg t)(bU:Def P w K mg base 2 "_law_drawn" ["cell","bounds"] (fO K)):Def P w K mg base 3 "_law_told" ["near","houses","cell","many","plain"] (pK K):=by
 refine F.def bT (λ_ _ _ _ _ _=>cr λ_ _ _ _ _=>rfl) (λvs H Q E h=>?_) (λf bj A outer s H vs Q E hr h=>?_)
 ·obtain⟨nl,hl,c,pl,os,ds,rfl,_⟩:=h;rfl
 obtain⟨nl,hl,c,pl,os,ds,rfl,tl,ol,d2,d6,q⟩:=h;refine⟨_,aF (vq (aa (bU.mono (by decide)) hr av (aA (pv 2) (aA (az (aA (pv 3) (aA (aW lD (pv 3) aD) (aA aD (aA aD (aA aD (aA aD aE))))))) aE))) (G6 K rfl (ak (aO (i:=5) bT.nd rfl (Or.inl rfl)) (ak (aO (i:=6) bT.nd rfl (Or.inl rfl)) (ak (aO (i:=7) bT.nd rfl (Or.inl rfl)) (ak (aO (i:=8) bT.nd rfl (Or.inl rfl)) (ak (aO (i:=9) bT.nd rfl (Or.inl rfl)) (ak (aO (i:=10) bT.nd rfl (Or.inl rfl)) fF))))))))
  (aF (aR (i:=11) bT.nd rfl (Or.inl rfl) (aW bK (aW bP (aW bP (pv 5) aD) (pv 6)) (pv 3)))
  (aF (p9 (au (ij (pv 4))
   (aG (vq (ag (aA aD (aA aD aE))) (fH K (i:=7) (j:=8) rfl bT.nd rfl rfl (Or.inl rfl) (Or.inl rfl))))
   (aZ)))
  (aF (iW (bO hr) (aK (aJ K) (pv 0) (pv 5) (λ_ _=>rfl)) (aK (aJ K) (pv 1) (pv 11) (λ_ _=>rfl)) (ag (aA (aW bP aD (pv 7)) (aA (ag (aA (aW bP aD (pv 10)) (aA aD aE))) aE))) (by rfl))
  (aF (p9 (au (aL bX (pv 9) aD (aQ _))
   (aG (bM (EV (aK (aJ K) (pv 0) (pv 11) (λ_ _=>rfl)) (aK (aJ K) (pv 1) (pv 5) (λ_ _=>rfl)) pV ⟨rfl,rfl,rfl,rfl⟩)))
   (aG (au (aL bX (pv 9) aD (aQ _))
    (aG (iW (bO hr) (aK (aJ K) (pv 0) (pv 11) (λ_ _=>rfl)) (aK (aJ K) (pv 1) (pv 5) (λ_ _=>rfl)) (ag (aA (aW bP aD (pv 8)) (aA (ag (aA (aW bP aD (pv 10)) (aA aD aE))) aE))) (by rfl)))
    (aG (iW (bO hr) (aK (aJ K) (pv 0) (pv 11) (λ_ _=>rfl)) (aK (aJ K) (pv 1) (pv 5) (λ_ _=>rfl)) (ag (aA (aW bP aD (aK (aJ K) (az (aA (pv 7) (aA (pv 8) aE))) (aW bK (pv 9) aD) (λ_ _=>rfl))) (aA (ag (aA (aW bP aD (pv 10)) (aA aD aE))) aE))) (by rfl)))))))
  (aG (au (PW.pt (jd (aL bX (pv 9) aD (aQ _)) (iU (aL lE (pv 3) aD (aQ _)))))
   (aG (iW (bO hr) (aK (aJ K) (pv 0) (pv 5) (λ_ _=>rfl)) (aK (aJ K) (pv 1) (aW bP aD (aW bK (pv 10) aD)) (λ_ _=>rfl)) (ag (aA (aW bP aD (pv 8)) (aA (ag (aA aD (aA aD aE))) aE))) (by rfl)))
   (aZ))))))),?_⟩
 have hsz:(2000:Nat)<=sizeLine:=by decide
 refine⟨_,rfl,_,rfl,_,rfl,_,_,rfl,rfl,zz6,λp1 FU=>?_⟩;have s1:=(aH.refl H).new (o:=.lst [.int (ds.length:Nat),.int ((ds.length:Nat)-1),.int 10,.int 10,.int 8,.int 3]) FU;refine⟨c,p1,[(ds.length:Nat),(ds.length:Nat)-1,10,10,8,3],rfl,aC,by show 6<=100;decide,λb hb=>?_,λdr H2 ms s2 Wx e2 dk=>?_⟩
 ·simp only[mem_cons,not_mem_nil,or_false]at hb;lia
 have S2:=s1.trans s2;obtain⟨a,st,ln,mo,ki,bi,rfl⟩:∃a b c d e f,ms=[a,b,c,d,e,f]:=by
  match ms,dk.1 with
  |[a,b,c,d,e,f],_=>exact⟨a,b,c,d,e,f,rfl⟩
 have ka:=dk.2 0 _ _ rfl rfl;have ks:=dk.2 1 _ _ rfl rfl;have kl:=dk.2 2 _ _ rfl rfl;have km:=dk.2 3 _ _ rfl rfl;have kk:=dk.2 4 _ _ rfl rfl;have kb:=dk.2 5 _ _ rfl rfl;refine⟨dr,_,rfl,aV.of e2,rfl,_,_,rfl,_,_,rfl,_,_,rfl,_,_,rfl,_,_,rfl,_,_,rfl,rfl,?_⟩;have mp:(0:Int)<(ds.length:Nat):=by lia
 refine⟨_,rfl,_,_,rfl,rfl,_,rfl,_,_,rfl,rfl,_,rfl,_,_,rfl,rfl,mp,?_⟩;obtain⟨b,hb,bl⟩:∃b:Nat,(a+1+st)%(ds.length:Nat)=(b:Int)/\b<ds.length:=by have h0:=Int.emod_nonneg (a+1+st) (show((ds.length:Nat):Int)≠0 by lia);have h1:=Int.emod_lt_of_pos (a+1+st) mp;exact⟨((a+1+st)%(ds.length:Nat)).toNat,by lia,by lia⟩
 obtain⟨an,rfl⟩:∃an:Nat,a=an:=⟨a.toNat,by lia⟩;have Q2:an≠b:=λz=>by
  subst z;have h1:((ds.length:Nat):Int) ∣ 1+st:=⟨((an:Int)+1+st)/(ds.length:Nat),by have:=Int.mul_ediv_add_emod ((an:Int)+1+st) (ds.length:Nat);rw[hb]at this;lia⟩
  have:=Int.le_of_dvd (by lia) h1;lia
 dsimp only;rw[hb];refine⟨λσ H'=>aH H2 H'/\∃ln mo:Int,(0<=ln/\ln<10)/\(0<=mo/\mo<10)/\σ=[some (.ref nl),some (.ref hl),some (.int c),some (.int (ds.length:Nat)),some (.bl pl),some (.int an),some (.int st),some (.int ln),some (.int mo),some (.int ki),some (.int bi),some (.int b)],?_,?_⟩
 ·refine⟨_,rfl,pl,rfl,?_⟩;cases pl with
  |true =>
   refine eO ⟨zz2,λtp mx=>?_⟩;refine⟨tp,_,rfl,ab.of aC,rfl,_,_,rfl,_,_,rfl,rfl,?_⟩;exact⟨(aH.refl _).new mx,0,0,by decide,by decide,rfl⟩
  |false=>exact gf ⟨.refl _,ln,mo,kl,km,rfl⟩
 clear kl km;rintro σ H3 ⟨s3,ln,mo,kl,km,rfl⟩;have t3:=(tl.same S2).same s3;have al:an<ds.length:=by lia
 have bb:0<=bi/\bi<3:=kb;have B4:∀{es:List (Addr×Nd)}{k:Nat}{x:Addr×Nd},es[k]?=some x->jh (es.map λx=>V.ref x.1) (k:Int)=some (V.ref x.1):=λh=>bG (by rw[getElem?_map,h];rfl);have zd:∀{k:Nat}{h:Int},os[k]?=some h->jh (os.map V.int) (k:Int)=some (V.int h):=λh=>bG (by rw[getElem?_map,h];rfl);obtain⟨ha,FV⟩:∃h,os[an]?=some h:=⟨os[an],by simp[show an<os.length by lia]⟩;obtain⟨xt,JV⟩:∃h,os[b]?=some h:=⟨os[b],by simp[show b<os.length by lia]⟩;have mk:∀{H3:Hp}{ip op:Addr}{q a b:Int},H3 ip=none->(upd H3 ip (.tup [.int a,.int b])) op=none->aH H3 (upd (upd H3 ip (.tup [.int a,.int b])) op (.tup [.int q,.ref ip]))/\ar K (upd (upd H3 ip (.tup [.int a,.int b])) op (.tup [.int q,.ref ip])) 3 (.ref op) (GF ⟨q,a,b⟩):=λh1 h2 =>
  ⟨((aH.refl _).new h1).new h2,LL (ab.of aC) (ab.of (by rw[aM (aq aC h2)];exact aC))⟩
 have sz:∀{H':Hp}{es:List (Addr×Nd)}{k:Nat}{x:Addr×Nd},Tl K nl hl os (ds.map (·.1)) H H' es->es[k]?=some x->(x.2.map nF).length<=100:=λt h=>by rw[length_map];have:=t.k.len h (t.r.d _ (mem_of_getElem? h)).nd;lia
 have len:∀{H':Hp}{es:List (Addr×Nd)},Tl K nl hl os (ds.map (·.1)) H H' es->es.length=ds.length:=λt=>by
  have:=congrArg List.length t.e
  rwa [length_map,length_map]at this
 obtain⟨xa,Hy⟩:∃x,ds[an]?=some x:=⟨ds[an],by simp[al]⟩;refine⟨_,rfl,_,_,rfl,rfl,_,rfl,_,_,rfl,rfl,zz2,λip LN=>⟨zz2,λop LO=>?_⟩⟩;obtain⟨u4,v4⟩:=mk (q:=1+ln) LN LO;have t4:=t3.same u4;generalize upd (upd H3 ip (.tup [.int (1+bi),.int 2])) op (.tup [.int (1+ln),.ref ip])=H4 at u4 v4 t4 ⊢;refine⟨_,rfl,_,rfl,nl,_,_,.ref xa.1,rfl,rfl,aV.of t4.r.l,B4 Hy,_,rfl,_,rfl,hl,_,_,.int xt,rfl,rfl,aV.of t4.h,zd JV,xa.1,_,rfl,.inl ⟨_,Sum.inl xt,(t4.r.d xa (mem_of_getElem? Hy)).d,rfl,by have:=sz t4 Hy;lia,rfl⟩,?_⟩;have t5:=t4.put Hy v4 (.inl ⟨b,bl,Ne.symm Q2,JV⟩) ⟨⟨by show 1<=1+ln;lia,by show 1+ln<=10;lia⟩,⟨by show 1<=1+bi;lia,by show 1+bi<=9000;lia⟩,by show 1<=(2:Int)/\(2:Int)<=9000;decide⟩;generalize upd H4 xa.1 (.dK (lv (xa.2.map nF) (Sum.inl xt) (.ref op)))=H5 at t5 ⊢;generalize ds.set an (xa.1,putN xa.2 xt (.ref op) ⟨1+ln,1+bi,2⟩)=d5 at t5;have l5:=len t5;obtain⟨xb,ze⟩:∃x,d5[b]?=some x:=⟨d5[b],by simp[show b<d5.length by lia]⟩;refine⟨λσ H'=>(∃d6,Tl K nl hl os (ds.map (·.1)) H H' d6)/\σ=[some (.ref nl),some (.ref hl),some (.int c),some (.int (ds.length:Nat)),some (.bl pl),some (.int an),some (.int st),some (.int ln),some (.int mo),some (.int ki),some (.int bi),some (.int b)],?_,?_⟩
 ·refine⟨_,rfl,rfl,_,rfl,?_⟩;by_cases c0:ki=0
  ·refine bx (congrArg V.int c0) ?_;have xd:=t5.r.d xb (mem_of_getElem? ze);refine⟨_,rfl,_,rfl,nl,_,_,.ref xb.1,rfl,rfl,aV.of t5.r.l,B4 ze,xb.1,rfl,.inl ⟨_,.inl xd.d⟩,_,rfl,_,rfl,hl,_,_,.int ha,rfl,rfl,aV.of t5.h,zd FV,_,Sum.inl ha,xd.d,rfl,λv hv=>?_,λhn=>?_⟩
   ·refine⟨⟨d5.set b (xb.1,FQ xb.2 ha),?_⟩,rfl⟩;rw[LM];refine t5.set ze ?_ (λp hp=>xd.v p (List.mem_filter.mp hp).1) (λp hp=>.inl (List.mem_filter.mp hp).1);exact xd.nd.sublist ((List.filter_sublist).map _)
   exact⟨⟨d5,t5⟩,rfl⟩
  refine cB (λz=>c0 (V.int.inj z)) ?_;refine⟨_,rfl,rfl,_,rfl,?_⟩;by_cases c1:ki=1
  ·refine bx (congrArg V.int c1) ?_;refine⟨_,rfl,_,_,rfl,rfl,_,rfl,_,_,rfl,rfl,zz2,λip LN=>⟨zz2,λop LO=>?_⟩⟩;obtain⟨u6,v6⟩:=mk (q:=1+mo) LN LO;have t6:=t5.same u6;generalize upd (upd H5 ip (.tup [.int (2+bi),.int 2])) op (.tup [.int (1+mo),.ref ip])=H6 at u6 v6 t6 ⊢;refine⟨_,rfl,_,rfl,nl,_,_,.ref xb.1,rfl,rfl,aV.of t6.r.l,B4 ze,_,rfl,_,rfl,hl,_,_,.int ha,rfl,rfl,aV.of t6.h,zd FV,xb.1,_,rfl,.inl ⟨_,Sum.inl ha,(t6.r.d xb (mem_of_getElem? ze)).d,rfl,by have:=sz t6 ze;lia,rfl⟩,?_⟩;exact⟨⟨_,t6.put ze v6 (.inl ⟨an,by lia,Q2,FV⟩) ⟨⟨by show 1<=1+mo;lia,by show 1+mo<=10;lia⟩,⟨by show 1<=2+bi;lia,by show 2+bi<=9000;lia⟩,by show 1<=(2:Int)/\(2:Int)<=9000;decide⟩⟩,rfl⟩
  refine cB (λz=>c1 (V.int.inj z)) ?_;obtain⟨z,ez,z0⟩:∃z:Int,jh [V.int ln,V.int mo] (ki%2)=some (.int z)/\0<=z/\z<10:=by
   rcases Int.emod_two_eq ki with e|e
   ·rw[e];exact⟨ln,rfl,kl⟩
   rw[e];exact⟨mo,rfl,km⟩
  refine⟨_,rfl,_,rfl,zz2,λlp VQ=>?_⟩;have s6:=(aH.refl H5).new (o:=.lst [.int ln,.int mo]) VQ;refine⟨_,rfl,_,_,rfl,rfl,(by show(0:Int)<2;decide),lp,_,_,.int z,rfl,rfl,aV.of aC,ez,_,_,rfl,rfl,?_⟩;generalize upd H5 lp (.lst [.int ln,.int mo])=VR at s6 ⊢;refine⟨_,rfl,_,_,rfl,rfl,zz2,λip LN=>⟨zz2,λop LO=>?_⟩⟩;obtain⟨u6,v6⟩:=mk (q:=1+z) LN LO;have t6:=(t5.same s6).same u6;generalize upd (upd VR ip (.tup [.int (1+bi),.int 2])) op (.tup [.int (1+z),.ref ip])=H6 at u6 v6 t6 ⊢;refine⟨_,rfl,_,rfl,nl,_,_,.ref xb.1,rfl,rfl,aV.of t6.r.l,B4 ze,_,rfl,_,rfl,hl,_,_,.int ha,rfl,rfl,aV.of t6.h,zd FV,xb.1,_,rfl,.inl ⟨_,Sum.inl ha,(t6.r.d xb (mem_of_getElem? ze)).d,rfl,by have:=sz t6 ze;lia,rfl⟩,?_⟩;exact⟨⟨_,t6.put ze v6 (.inl ⟨an,by lia,Q2,FV⟩) ⟨⟨by show 1<=1+z;lia,by show 1+z<=10;lia⟩,⟨by show 1<=1+bi;lia,by show 1+bi<=9000;lia⟩,by show 1<=(2:Int)/\(2:Int)<=9000;decide⟩⟩,rfl⟩
 rintro σ H6 ⟨⟨e6,t6⟩,rfl⟩;have l6:=len t6;refine⟨_,rfl,rfl,_,rfl,?_⟩;by_cases c2:ki=2
 ·refine bx (congrArg V.int c2) ?_;refine⟨_,rfl,_,_,rfl,rfl,_,rfl,?_⟩;by_cases c5:((ds.length:Nat):Int)<5
  ·refine bx c5 ?_;obtain⟨xc,exc⟩:∃x,e6[an]?=some x:=⟨e6[an],by simp[show an<e6.length by lia]⟩;obtain⟨j,ej,jj⟩:∃j:Nat,6+bi%2=(j:Int)/\(j=6\/j=7):=by
    rcases Int.emod_two_eq bi with e|e
    ·exact⟨6,by lia,.inl rfl⟩
    exact⟨7,by lia,.inr rfl⟩
   obtain⟨hc,Q4⟩:∃h,os[j]?=some h:=⟨os[j]'(by lia),by simp[show j<os.length by lia]⟩;refine⟨_,rfl,_,_,rfl,rfl,zz2,λip LN=>⟨zz2,λop LO=>?_⟩⟩;obtain⟨u7,v7⟩:=mk (q:=1+mo) LN LO;have t7:=t6.same u7;generalize upd (upd H6 ip (.tup [.int 1,.int 1])) op (.tup [.int (1+mo),.ref ip])=H7 at u7 v7 t7 ⊢;refine⟨_,rfl,_,rfl,nl,_,_,.ref xc.1,rfl,rfl,aV.of t7.r.l,B4 exc,_,rfl,_,rfl,_,_,rfl,rfl,(by show(0:Int)<2;decide),_,_,rfl,rfl,hl,_,_,.int hc,rfl,rfl,aV.of t7.h,(by rw[ej];exact zd Q4),xc.1,_,rfl,.inl ⟨_,Sum.inl hc,(t7.r.d xc (mem_of_getElem? exc)).d,rfl,by have:=sz t7 exc;lia,rfl⟩,?_⟩;have t8:=t7.put exc v7 (.inr ⟨by lia,by rcases jj with rfl|rfl;exact .inl Q4;exact .inr Q4⟩) ⟨⟨by show 1<=1+mo;lia,by show 1+mo<=10;lia⟩,by show 1<=(1:Int)/\(1:Int)<=9000;decide,by show 1<=(1:Int)/\(1:Int)<=9000;decide⟩;exact q _ _ t8 (len t8)
  exact cB c5 (q _ _ t6 l6)
 exact cB (λz=>c2 (V.int.inj z)) (q _ _ t6 l6)
def N2:List Int:=[6,4,6,32,32,32,32,32,32,32,32]
theorem FW:∀b∈N2,0<b/\b<=1000000:=by decide
def pM(K:W.Frag):Sp:=λvs H Q _=>∃(sc:Addr)(cs:List Int)(ex:Int),vs=[.ref sc,.int ex]/\aV K H sc (cs.map V.int)/\cs.length<=100/\0<=ex/\ex<=100/\∀(r nl hl:Addr)(H':Hp)(os:List Int)(ds:List (Addr×Nd)),aH H H'->ab K H' r [.ref hl,.int (ds.length:Nat),.ref nl]->tP K H' nl ds->rJ os ds.length ds->H' hl=some (.lst (os.map V.int))->uk os->os.length=8->1<=ds.length->ds.length<=6->Q (.ref r) H'
theorem cQ:aU ["script","extra","first","head","many","houses","near","cell"] ["script","extra"] (aI df):=ad
set_option maxHeartbeats 2000000 in
theorem xU(F:aN K mg "_law_news" df)(T:Txt K mg t)(cF:Def P w K mg base 1 "_law_cell_at" ["script","k"] (fe K))(bS:Def P w K mg base 1 "_law_mixed" ["cell","k"] fN)(bU:Def P w K mg base 2 "_law_drawn" ["cell","bounds"] (fO K))(i8:Def P w K mg base 1 "_law_houses" ["drawn"] (lW K))(lY:Def P w K mg base 3 "_law_told" ["near","houses","cell","many","plain"] (pK K)):Def P w K mg base 4 "_law_news" ["script","extra"] (pM K):=by
 refine F.def cQ (λ_ _ _ _ _ _=>bn λ_ _=>rfl) (λvs H Q E h=>?_) (λf bj A outer s H vs Q E hr h=>?_)
 ·obtain⟨sc,cs,ex,rfl,_⟩:=h;rfl
 obtain⟨sc,cs,ex,rfl,hS,cl,x0,x1,q⟩:=h;refine⟨_,aF (aR (i:=2) cQ.nd rfl (Or.inr rfl) (aa (cF.mono (by decide)) hr av (aA (pv 0) (aA aD aE))))
  (aF (aR (i:=3) cQ.nd rfl (Or.inl rfl) (aa (bU.mono (by decide)) hr av (aA (pv 2) (aA (aW (fG K) (az (aA aD (aA aD (aA aD aE)))) (aW KL (az (aA aD aE)) aD)) aE))))
  (aF (aR (i:=4) cQ.nd rfl (Or.inl rfl) (aW bP aD (aK (aJ K) (pv 3) aD (λ_ _=>rfl))))
  (aF (aR (i:=5) cQ.nd rfl (Or.inl rfl) (aa (i8.mono (by decide)) hr av (aA (cD (gk K) (pv 3) (cp aD) dR) aE)))
  (aF (dy (i:=6) cQ.nd rfl (Or.inl rfl) rfl (Nc:=["k"]) (ix:=[none]) (bR (aI df) ["script","extra","first","head","many","houses","near","cell"] rfl rfl (by decide +kernel)) (dD (by rfl) T.fM (aA (pv 4) aE)) (λC fp s H=>⟨(aO (i:=0) (show(["k"]:List Str).Nodup by decide +kernel) rfl (Or.inl rfl)),bc,sQ⟩))
  (aF (PS.uI (bW PassesOwn.never rfl (a9 K (aW (fG K) (cD (gk K) (pv 0) (cp aD) (cp aD)) (gg rfl (Nc:=["k","first"]) (ix:=[none,some 2]) (bR (aI df) ["script","extra","first","head","many","houses","near","cell"] rfl rfl (by decide +kernel)) (dD (by rfl) T.fM (aA (aW bP (aK (aJ K) (pv 3) aD (λ_ _=>rfl)) (pv 1)) aE)) (λC fp s H=>⟨(aO (i:=0) (show(["k","first"]:List Str).Nodup by decide +kernel) rfl (Or.inl rfl)),bc,(aa (bS.mono (by decide)) hr av (aA (pv 1) (aA (aW bP aD (pv 0)) aE)))⟩)))) (aO (i:=7) cQ.nd rfl (Or.inl rfl))
   (aG (au (aL mq (pv 4) aD (aQ _))
    (aG (bM (aa (lY.mono (by decide)) hr av (aA (pv 6) (aA (pv 5) (aA (pv 7) (aA (pv 4) (aA (ba bX (aK (aJ K) (pv 3) aD (λ_ _=>rfl)) aD (aQ _)) aE))))))))
    (aZ)))))
  (aG (aX (ag (aA (pv 5) (aA (pv 4) (aA (pv 6) aE))))))))))),?_⟩
 have hsz:(2000:Nat)<=sizeLine:=by decide
 refine⟨_,rfl,sc,cs,0,rfl,hS,by decide,λfi=>?_⟩;refine⟨_,rfl,zz3,λp1 FU=>⟨zz1,λp2 sJ=>⟨p2,8,_,rfl,rfl,aC,by decide,by decide,by decide,λp3 GG=>?_⟩⟩⟩;have s3:=(((aH.refl H).new (o:=.lst [.int 6,.int 4,.int 6]) FU).new (o:=.lst [.int 32]) sJ).new (o:=.lst (List.replicate (8:Int).toNat [V.int 32]).flatten) GG;refine⟨p1,p3,_,_,rfl,rfl,aV.of (by rw[aM (aq (by rw[aM (aq aC sJ)];exact aC) GG),aM (aq aC sJ)];exact aC),aV.of aC,by decide,λp4 LP=>?_⟩;have s4:=s3.new (o:=.lst ([V.int 6,.int 4,.int 6]++(List.replicate (8:Int).toNat [V.int 32]).flatten)) LP;refine⟨fi,p4,N2,rfl,aC,by decide,FW,λhd H5 ms s5 nh e5 dk=>?_⟩;have S5:=s4.trans s5;have Hz:ms.length=11:=dk.1;obtain⟨m0,Sb⟩:∃m,ms[0]?=some m:=⟨ms[0],by simp[Hz]⟩;obtain⟨m1,VS⟩:∃m,ms[1]?=some m:=⟨ms[1],by simp[Hz]⟩;obtain⟨m2,Sd⟩:∃m,ms[2]?=some m:=⟨ms[2],by simp[Hz]⟩;have k0:=dk.2 0 _ _ Sb rfl;have k2:=dk.2 2 _ _ Sd rfl;have at':∀{k:Nat}{m:Int},ms[k]?=some m->jh (ms.map V.int) (k:Int)=some (V.int m):=λh=>bG (by rw[getElem?_map,h];rfl);refine⟨_,rfl,hd,_,_,.int m0,rfl,rfl,aV.of e5,at' Sb,_,_,rfl,rfl,?_⟩;obtain⟨many,N3⟩:∃many:Nat,1+m0=(many:Int):=⟨(1+m0).toNat,by lia⟩;refine⟨_,rfl,_,rfl,hd,_,rfl,aV.of e5,λp6 VT=>?_⟩;rw[rY (by decide),<-List.map_drop];have s6:=(aH.refl H5).new (o:=.lst ((ms.drop (3:Int).toNat).map V.int)) VT;have e6:(upd H5 p6 (.lst ((ms.drop (3:Int).toNat).map V.int))) p6=some (.lst ((ms.drop (3:Int).toNat).map V.int)):=aC;generalize upd H5 p6 (.lst ((ms.drop (3:Int).toNat).map V.int))=H6 at s6 e6 ⊢;have VU:(ms.drop (3:Int).toNat).length=8:=by rw[List.length_drop,Hz];rfl
 refine⟨p6,_,rfl,e6,by lia,λhl H7 os s7 VW e7 ol oR=>?_⟩;rw[VU]at ol;have S7:=S5.trans (s6.trans s7);have Se:=(s6.trans s7) _ _ e5;dsimp only;rw[N3];have mn:1<=many/\many<=6:=by lia
 refine⟨_,rfl,(many:Int),rfl,by lia,by lia,λnl Bw=>?_⟩;have Lu:H nl=none:=S7.free Bw;refine sE (lo:=0) (n:=((many:Nat):Int).toNat) (λi σ H'=>∃(v:Option V)(ds:List (Addr×Nd)),σ=[v]/\aH H7 H'/\H' nl=some (.lst (ds.map λx=>V.ref x.1))/\ds.length=i/\(∀x∈ds,x.2=[]/\H' x.1=some (.dK [])/\H7 x.1=none)/\(ds.map (·.1)).Nodup) ⟨none,[],rfl,(aH.refl _).new Bw,aC,rfl,λx hx=>absurd hx not_mem_nil,List.nodup_nil⟩ ?_ ?_
 ·rintro i σ H8 N hN hi ⟨v,ds,rfl,s8,e8,dl,LQ,Q5⟩;refine cO ?_;refine λp hp=>?_;have np:nl≠p:=aq e8 hp;refine⟨_,by rw[aM np];exact e8,by rw[length_map];lia,hN _ _ ⟨_,ds++[(p,[])],rfl,(s8.new hp).put Bw,by rw[aC,map_append];rfl,by rw[length_append,dl];rfl,λx hx=>?_,?_⟩⟩
  ·rcases mem_append.mp hx with h|h
   ·obtain⟨a1,a2,a3⟩:=LQ x h;have n1:x.1≠nl:=kx a2 e8 (by intro z;cases z);have n2:x.1≠p:=aq a2 hp;exact⟨a1,by rw[aM n1,aM n2];exact a2,a3⟩
   rw[mem_singleton.mp h];exact⟨rfl,by rw[aM (Ne.symm np)];exact aC,s8.free hp⟩
  rw[map_append];refine List.nodup_append.mpr ⟨Q5,by simp,λa ha b hb=>?_⟩;rw[mem_singleton.mp hb];obtain⟨x,hx,rfl⟩:=List.mem_map.mp ha;exact aq (LQ x hx).2.1 hp
 rintro σ H8 ⟨v,ds,rfl,s8,e8,dl,LQ,Q5⟩;have Wz:ds.length=many:=by lia
 have S8:=S7.trans s8;have VX:tP K H8 nl ds:=⟨e8,λx hx=>by obtain⟨a1,a2,_⟩:=LQ x hx;exact⟨by rw[a1];exact a2,by rw[a1];exact List.nodup_nil,λp hp=>by rw[a1]at hp;exact absurd hp not_mem_nil⟩,Q5⟩
 have VY:rJ os ds.length ds:=λk x hx p hp=>by rw[(LQ x (mem_of_getElem? hx)).1]at hp;exact absurd hp not_mem_nil
 have fr:∀b∈ds.map (·.1),H b=none:=λb hb=>by obtain⟨x,hx,rfl⟩:=List.mem_map.mp hb;exact S7.free (LQ x hx).2.2
 have VZ:Tl K nl hl os (ds.map (·.1)) H8 H8 ds:=⟨λb o _ e=>e,VX,rfl,VY,s8 _ _ e7⟩;refine⟨_,rfl,_,rfl,_,rfl,sc,_,rfl,S8.seq hS,λsl FE=>?_⟩;obtain⟨ys,ey,_,yl⟩:=lH cs (some 1) (some 31);rw[ey];have s9:=(aH.refl H8).new (o:=.lst (ys.map V.int)) FE;have e9:(upd H8 sl (.lst (ys.map V.int))) sl=some (.lst (ys.map V.int)):=aC;generalize upd H8 sl (.lst (ys.map V.int))=H9 at s9 e9 ⊢;refine⟨_,rfl,hd,_,_,.int m2,rfl,rfl,aV.of ((s8.trans s9) _ _ Se),at' Sd,_,rfl,_,_,rfl,rfl,_,rfl,by lia,by lia,λD hD=>?_⟩;refine sE (lo:=0) (n:=(m2+ex).toNat) (λi σ H'=>∃(v:Option V)(zs:List Int),σ=[v,some (.int fi)]/\aH H9 H'/\H' D=some (.lst (zs.map V.int))/\zs.length=i) ⟨none,[],rfl,(aH.refl _).new hD,aC,rfl⟩ ?_ ?_
 ·rintro i σ HA N hN hi ⟨v,zs,rfl,sA,eA,zl⟩;refine cO ?_;refine⟨_,rfl,_,rfl,_,_,rfl,rfl,fi,_,rfl,by lia,by lia,λm _=>?_⟩;exact⟨_,eA,by rw[length_map];lia,hN _ _ ⟨_,zs++[m],rfl,sA.put hD,by rw[aC,map_append];rfl,by rw[length_append,zl];rfl⟩⟩
 rintro σ HA ⟨v,zs,rfl,sA,eA,zl⟩;refine⟨sl,D,_,_,rfl,rfl,aV.of (sA _ _ e9),aV.of eA,by rw[length_map,length_map];lia,λpl zW=>?_⟩;rw[<-map_append];have sB:=(s9.trans sA).new (o:=.lst ((ys++zs).map V.int)) zW;have eB:(upd HA pl (.lst ((ys++zs).map V.int))) pl=some (.lst ((ys++zs).map V.int)):=aC;generalize upd HA pl (.lst ((ys++zs).map V.int))=HB at sB eB ⊢;generalize ys++zs=cells at eB ⊢;have Ou:=VZ.same sB;have N4:∀{b:Addr}{l:List V},HB b=some (.lst l)->b∉ds.map (·.1):=λe hb=>by obtain⟨x,hx,rfl⟩:=List.mem_map.mp hb;have:=sB _ _ (LQ x hx).2.1;rw[e]at this;cases this
 have Sf:=(s8.trans sB) _ _ Se
 let I:Nat->_->_->Prop:=λi σ H'=>∃(es:List (Addr×Nd))(v7:Option V),σ=[some (.ref sc),some (.int ex),some (.int fi),some (.ref hd),some (.int (many:Nat)),some (.ref hl),some (.ref nl),v7]/\Tl K nl hl os (ds.map (·.1)) HB H' es
 refine⟨pl,rfl,⟨_,aV.of eB⟩,dv (K:=K) (a:=pl) (xs:=cells.map V.int) I ⟨ds,none,rfl,⟨λb o _ e=>e,Ou.r,Ou.e,Ou.k,Ou.h⟩⟩ (λi σ H' _ ⟨_,_,_,t⟩=>aV.of (t.m _ _ (N4 eB) eB)) ?_ ?_⟩
 ·rintro i y σ HC hi ⟨es,v7,rfl,tC⟩;obtain⟨c,_,rfl⟩:=gF hi;have el:es.length=many:=by have:=congrArg List.length tC.e;rw[length_map,length_map]at this;lia
  refine⟨_,rfl,_,_,rfl,rfl,_,rfl,?_⟩;by_cases c1:(1:Int)<(many:Nat)
  ·refine bx c1 ?_;refine⟨_,rfl,_,rfl,_,rfl,_,rfl,_,rfl,hd,_,_,.int m1,rfl,rfl,aV.of (tC.m _ _ (N4 Sf) Sf),at' VS,rfl,?_⟩;refine⟨nl,hl,c,_,os,es,(by rw[el];exact rfl),⟨λb o _ e=>e,tC.r,rfl,tC.k,tC.h⟩,ol,by lia,by lia,λHD fs tD fl=>?_⟩;refine⟨fs,_,rfl,⟨λb o nb e=>tD.m b o (by rw[tC.e];exact nb) (tC.m b o nb e),tD.r,by rw[tD.e,tC.e],tD.k,tD.h⟩⟩
  exact cB c1 ⟨es,_,rfl,tC⟩
 rintro σ HC ⟨es,v7,rfl,tC⟩;have el:es.length=many:=by have:=congrArg List.length tC.e;rw[length_map,length_map]at this;lia
 refine⟨_,rfl,_,rfl,_,rfl,zz3,λr hr=>?_⟩;have sD:=(aH.refl HC).new (o:=.tup [.ref hl,.int (many:Nat),.ref nl]) hr;have sC:aH H HC:=λb o e=>tC.m b o (λhb=>by rw[fr b hb]at e;cases e) (S8.trans sB b o e);refine q r nl hl _ os es (sC.trans sD) (by rw[el];exact ab.of aC) (tC.r.same sD) tC.k (sD _ _ tC.h) oR ol (by lia) (by lia)
theorem nG.in{k:Nat}{h:Int}(a:nG os many k h):h∈((List.range many).filter λj=>decide (j≠k)).map (λj=>os.getD j 0)++(if many<5 then[os.getD 6 0,os.getD 7 0]else[]):=by
 have gd:∀{j:Nat},os[j]?=some h->os.getD j 0=h:=λe=>by rw[getD_eq_getElem?_getD,e];rfl
 rcases a with⟨j,jm,jk,e⟩|⟨m5,e|e⟩
 ·exact mem_append_left _ (List.mem_map.mpr ⟨j,List.mem_filter.mpr ⟨List.mem_range.mpr jm,by simpa using jk⟩,gd e⟩)
 ·exact mem_append_right _ (by rw[if_pos m5,gd e];exact mem_cons_self)
 exact mem_append_right _ (by rw[if_pos m5,gd e];exact mem_cons_of_mem _ mem_cons_self)
theorem IA:∀many:Nat,many<=6->∀k:Nat,k<many->((List.range many).filter λj=>decide (j≠k)).length+(if many<5 then 2 else 0)<=5:=by decide
theorem rJ.LR{ds:List (Addr×Nd)}(h:rJ os many ds)(m6:many<=6){k:Nat}(km:k<many){x:Addr×Nd}(hx:ds[k]?=some x)(nd:(x.2.map (·.1)).Nodup):x.2.length<=5:=by
 have:=dS _ (x.2.map (·.1)) nd λy hy=>by obtain⟨p,hp,rfl⟩:=List.mem_map.mp hy;exact(h k x hx p hp).1.in
 rw[length_map,length_append,length_map]at this;have f:=IA many m6 k km;by_cases c:many<5
 ·rw[if_pos c]at this f;have:([os.getD 6 0,os.getD 7 0]:List Int).length=2:=rfl;lia
 rw[if_neg c]at this f;have:([]:List Int).length=0:=rfl;lia
theorem nG.ne{os:List Int}(ok:uk os){many k:Nat}(m6:many<=6)(km:k<many){h g:Int}(a:nG os many k h)(e:os[k]?=some g):h≠g:=by
 have uq:∀{i j:Nat},os[i]?=some h->os[j]?=some g->i≠j->h≠g:=λ{i j} e1 e2 ne z=>by
  obtain⟨i1,i2⟩:=List.getElem?_eq_some_iff.mp e1;obtain⟨j1,j2⟩:=List.getElem?_eq_some_iff.mp e2;have p:=List.pairwise_iff_getElem.mp ok.nd;rcases Nat.lt_or_gt_of_ne ne with c|c
  ·exact p i j i1 j1 c (by rw[i2,j2,z])
  exact p j i j1 i1 c (by rw[i2,j2,z])
 rcases a with⟨j,jm,jk,e1⟩|⟨m5,e1|e1⟩
 ·exact uq e1 e jk
 ·exact uq e1 e (by lia)
 exact uq e1 e (by lia)
def DH(p:Int×V×Ne):Wr:=⟨p.1,p.2.2.q,p.2.2.a,p.2.2.b⟩
structure JW(os:List Int)(ds:List (Addr×Nd))(n:Int)(k:Nat)(N:Nw):Prop where
 h:os[k]?=some N.h
 n:N.n=n
 w:∃x,ds[k]?=some x/\N.near.Perm (x.2.map DH)
structure MapOf(os:List Int)(ds:List (Addr×Nd))(ms:Ms):Prop where
 l:ms.length=ds.length
 t:∀(k:Nat)(m:V×Nw),ms[k]?=some m->JW os ds 1 k m.2
theorem aH.Gw{H2:Hp}{a:Addr}{u o:HO}(h:H0 a=some o)(s:aH (upd H0 a u) H2):aH H0 (upd H2 a o):=λb p e=>by
 by_cases c:b=a
 ·subst c;rw[aC,<-h,e]
 rw[aM c];exact s b p (by rw[aM c];exact e)
theorem nC.dx{a:Addr}{u:HO}(ok:EW P w a lw u)(h:H a=some u):nC H a:=λys e=>by obtain⟨_,_,_,_,_,rfl⟩:=ok;rcases e with e|⟨u,e⟩<;>(rw[h]at e;cases e)
theorem LS{p r:Addr}{w:Wr}(h1:ab K H r [.int w.o,.int w.q,.ref p])(h2:ab K H p [.int w.a,.int w.b]):Am K H (.ref r) w:=by
 refine .tup h1 rfl λi v d e1 e2=>?_
 match i with
 |0=>cases e1;cases e2;exact .int _
 |1=>cases e1;cases e2;exact .int _
 |2 =>
  cases e1;cases e2;refine .tup h2 rfl λi v d e1 e2=>?_
  match i with
  |0=>cases e1;cases e2;exact .int _
  |1=>cases e1;cases e2;exact .int _
  |i+2=>simp at e1
 |i+3=>simp at e1
theorem Ax{n:Nat}{v:V}{e:Ne}(h:ar K H (n+2) v (GF e)):∃a p,v=.ref a/\ab K H a [.int e.q,.ref p]/\ab K H p [.int e.a,.int e.b]:=by
 obtain⟨a,xs,rfl,h1,h2,h3⟩:=xD h
 match xs,h2 with
 |[x,y],_ =>
  obtain rfl:=o9 (h3 0 x _ rfl rfl);obtain⟨p,ys,rfl,g1,g2,g3⟩:=xD (h3 1 y _ rfl rfl)
  match ys,g2 with
  |[x,y],_ =>
   obtain rfl:=o9 (g3 0 x _ rfl rfl);obtain rfl:=o9 (g3 1 y _ rfl rfl);exact⟨a,p,rfl,h1,g1⟩
theorem FX{d:Nd}(nd:(d.map (·.1)).Nodup){p:Int×V×Ne}(hp:p∈d):nq d p.1=some p:=by
 unfold nq;cases e:d.find? λq=>decide (q.1=p.1)with
 |none=>exact absurd (List.find?_eq_none.mp e p hp) (by simp)
 |some q =>
  have h1:=List.mem_of_find?_eq_some e;have h2:q.1=p.1:=by simpa using List.find?_some e
  congr 1
  obtain⟨i,il,rfl⟩:=List.getElem_of_mem h1;obtain⟨j,jl,rfl⟩:=List.getElem_of_mem hp;have:i=j:=(List.getElem_inj (xs:=d.map (·.1)) (h₀:=by simpa using il) (h₁:=by simpa using jl) nd).mp (by simpa using h2);subst this;rfl
theorem IB{ds:List (Addr×Nd)}(oR:uk os)(nk:rJ os ds.length ds)(d6:ds.length<=6){k:Nat}{x:Addr×Nd}(hx:ds[k]?=some x)(nd:(x.2.map (·.1)).Nodup){h n:Int}(hh:os[k]?=some h)(n0:0<=n)(n1:n<=900000):LB ⟨h,n,x.2.map DH,[]⟩:=by
 have kl:k<ds.length:=(List.getElem?_eq_some_iff.mp hx).1;refine⟨oR.b h (mem_of_getElem? hh),⟨n0,n1⟩,⟨λw hw=>?_,?_,?_,?_⟩,?_⟩
 ·obtain⟨p,hp,rfl⟩:=List.mem_map.mp hw;obtain⟨a,e⟩:=nk k x hx p hp;exact⟨oR.b _ a.mem,e.1,e.2.1,e.2.2⟩
 ·show(x.2.map DH).length<=5;rw[length_map];exact nk.LR d6 kl hx nd
 ·show((x.2.map DH).map (·.o)).Nodup;rw[List.map_map];exact nd
 ·show h∉(x.2.map DH).map (·.o);rw[List.map_map];intro hm;obtain⟨p,hp,e⟩:=List.mem_map.mp hm;exact(nk k x hx p hp).1.ne oR d6 kl hh e
 exact⟨by show 0<=4;decide,List.nodup_nil,λn hn=>absurd hn not_mem_nil⟩
def qq(K:W.Frag)(C:Addr):Sp:=λvs H Q _=>∃(nl hl:Addr)(os:List Int)(ds:List (Addr×Nd)),vs=[.ref hl,.int (ds.length:Nat),.ref nl]/\tP K H nl ds/\rJ os ds.length ds/\H hl=some (.lst (os.map V.int))/\uk os/\os.length=8/\1<=ds.length/\ds.length<=6/\∀(x d:Addr)(H':Hp)(ms:Ms),aH H H'->H x=none->H d=none->i3 K C H' x d ms->MapOf os ds ms->Q (.ref x) H'
theorem ig:aU ["houses","many","near","known","k","told"] ["houses","many","near"] (aI gz):=ad
set_option maxHeartbeats 2000000 in
theorem zO{fi fh:FuncData}(F:aN K mg "_law_map" gz)(T:Txt K mg t)(Ay:eN P w K mg base (vH P w) 1 t.init fi ["self"] (By K t.Map))(Az:Binds K fi ["self"] [])(A0:eN P w K mg base (vH P w) 1 t.sv fh ["self","news"] (Bz K t.Map))(A1:Binds K fh ["self","news"] [])(lZ:Def P w K mg base 5 "made_news" ["house","number","near","names"] (pF K t.BadNews)):Def P w K mg base 6 "_law_map" ["houses","many","near"] (qq K t.Map):=by
 refine F.def ig (λ_ _ _ _ _ _=>bv λ_ _ _=>rfl) (λvs H Q E h=>?_) (λf bj A outer s H vs Q E hr h=>?_)
 ·obtain⟨nl,hl,os,ds,rfl,_⟩:=h;rfl
 obtain⟨nl,hl,os,ds,rfl,nr,nk,hh,oR,ol,d1,d6,q⟩:=h;refine⟨_,aF (aR (i:=3) ig.nd rfl (Or.inl rfl) (D4 T.Qi (Ay.mono (by decide)) hr (by rfl) T.Qh Az .nil av))
  (aF (PS.uI (bW PassesOwn.never rfl (dD (by rfl) T.fM (aA (pv 1) aE)) (aO (i:=4) ig.nd rfl (Or.inr rfl))
   (aF (Bg P w (dy (i:=5) ig.nd rfl (Or.inl rfl) rfl (Nc:=["other","near","k"]) (ix:=[none,some 2,some 4]) (bR (aI gz) ["houses","many","near","known","k","told"] rfl rfl (by decide +kernel)) (yV P w (aK (aJ K) (pv 2) (pv 4) (λ_ _=>rfl))) (λC fp s H=>⟨(aO (i:=0) (show(["other","near","k"]:List Str).Nodup by decide +kernel) rfl (Or.inl rfl)),bc,(ag (aA (pv 0) (aA (aK (aP K) (si P w (aK (aJ K) (pv 1) (pv 2) (λ_ _=>rfl)) (pv 0) (λ_ _=>rfl)) aD (λ_ _=>rfl)) (aA (aK (aP K) (si P w (aK (aJ K) (pv 1) (pv 2) (λ_ _=>rfl)) (pv 0) (λ_ _=>rfl)) aD (λ_ _=>rfl)) aE))))⟩)))
   (aG (bM (GV (pv 3) T.uW T.Hb (A0.mono (by decide)) hr A1 .nil av (aA (aa (lZ.mono (by decide)) hr av (aA (aK (aJ K) (pv 0) (pv 4) (λ_ _=>rfl)) (aA aD (aA (pv 5) (aA (az aE) aE))))) aE)))))))
  (aG (aX (pv 3)))),?_⟩
 have hsz:(2000:Nat)<=sizeLine:=by decide
 refine λtw tx Q6 Va yP=>?_;have s1:aH H (upd (upd H tx (.own tw)) tw (.ins t.Map tx [])):=by
  have z:(upd H tx (.own tw)) tw=none:=by rw[aM (Ne.symm yP)];exact Q6
  exact((aH.refl H).new Va).new z
 refine⟨tw,tx,rfl,aC,λtd H2 Hq m2 Vb=>⟨rfl,?_⟩⟩;have N5:H td=none:=s1.free Hq;have s2:aH H H2:=λb o e=>m2 b o (λz=>by rw[mem_singleton.mp z,Q6]at e;cases e) (s1 b o e)
 let I:Nat->_->_->Prop:=λi σ H'=>∃(v4 v5:Option V)(ms:Ms),σ=[some (.ref hl),some (.int (ds.length:Nat)),some (.ref nl),some (.ref tw),v4,v5]/\aH H H'/\i3 K t.Map H' tw td ms/\ms.length=i/\∀(k:Nat)(m:V×Nw),ms[k]?=some m->JW os ds 1 k m.2
 refine⟨_,rfl,((ds.length:Nat):Int),rfl,by lia,by lia,?_⟩;refine eV (lo:=0) (n:=((ds.length:Nat):Int).toNat) I ⟨none,none,[],rfl,s2,Vb,rfl,λk m hm=>by cases hm⟩ ?_ ?_
 ·rintro i σ H3 hi ⟨v4,v5,ms,rfl,s3,N6,ml,uG⟩;have il:i<ds.length:=by lia
  obtain⟨x,ex⟩:∃x,ds[i]?=some x:=⟨ds[i],by simp[il]⟩;obtain⟨h,eh⟩:∃h,os[i]?=some h:=⟨os[i]'(by lia),by simp[show i<os.length by lia]⟩;have Ov:=nr.same s3;have JX:=Ov.d x (mem_of_getElem? ex);have B4:jh (ds.map λx=>V.ref x.1) (0+(i:Nat):Int)=some (.ref x.1):=by rw[show(0+(i:Nat):Int)=(i:Nat) by lia];exact bG (by rw[getElem?_map,ex];rfl)
  have zd:jh (os.map V.int) (0+(i:Nat):Int)=some (.int h):=by rw[show(0+(i:Nat):Int)=(i:Nat) by lia];exact bG (by rw[getElem?_map,eh];rfl)
  have xl:x.2.length<=5:=nk.LR d6 il ex JX.nd;refine⟨_,rfl,_,rfl,nl,_,_,.ref x.1,rfl,rfl,aV.of Ov.l,B4,x.1,_,rfl,JX.d,λu ok D hD=>?_⟩;have hu:(upd H3 x.1 u) x.1=some u:=aC;have Vc:nl≠x.1:=kx Ov.l JX.d (by intro z;cases z);have Q7:(upd H3 x.1 u) nl=some (.lst (ds.map λx=>V.ref x.1)):=by rw[aM Vc];exact Ov.l
  have kz:=bN (o:=u) (nC.dk JX.d);have Sg:∀p∈x.2,ar K (upd H3 x.1 u) 3 p.2.1 (GF p.2.2):=λp hp=>(JX.v p hp).kept kz (Av _);have th:∀{H5:Hp},aH (upd H3 x.1 u) H5->aH H3 (upd H5 x.1 (.dK (x.2.map nF))):=λs=>aH.Gw JX.d s;generalize upd H3 x.1 u=H4 at hu Q7 Sg th hD ⊢;refine Bf (d:=x.1) (u:=u) (lw:=x.2.map nF) (λj σ H'=>∃(v:Option V)(zs:List (V×Wr)),σ=[v,some (.ref nl),some (.int (0+(i:Nat)))]/\aH H4 H'/\H' D=some (.lst (zs.map (·.1)))/\lO K H' zs/\zs.map (·.2)=(x.2.take j).map DH) ⟨none,[],rfl,(aH.refl _).new hD,aC,λz hz=>absurd hz not_mem_nil,rfl⟩ (λj σ H' _ ⟨_,_,_,s,_⟩=>s _ _ hu) ?_ ?_
  ·rintro j k v σ H5 N hN hj ⟨v0,zs,rfl,s5,e5,w5,m5⟩;rw[getElem?_map]at hj;cases ep:x.2[j]? with
   |none=>rw[ep]at hj;cases hj
   |some p =>
    rw[ep]at hj;cases hj;have hp:=mem_of_getElem? ep;have jl:j<x.2.length:=(List.getElem?_eq_some_iff.mp ep).1;have vv:fY (x.2.map nF) (Sum.inl p.1)=some p.2.1:=(by rw[FR,FX JX.nd hp];rfl);obtain⟨r,pp,ev,g1,g2⟩:=Ax ((Sg p hp).same s5);refine cO ?_;refine⟨_,rfl,_,rfl,_,rfl,nl,_,_,.ref x.1,rfl,rfl,aV.of (s5 _ _ Q7),B4,_,rfl,x.1,_,u,Sum.inl p.1,p.2.1,rfl,s5 _ _ hu,ok,rfl,vv,r,_,_,.int p.2.2.q,ev,rfl,g1,rfl,?_⟩;refine⟨_,rfl,_,rfl,nl,_,_,.ref x.1,rfl,rfl,aV.of (s5 _ _ Q7),B4,_,rfl,x.1,_,u,Sum.inl p.1,p.2.1,rfl,s5 _ _ hu,ok,rfl,vv,r,_,_,.ref pp,ev,rfl,g1,rfl,zz3,λtp mx=>?_⟩;have s6:=(aH.refl H5).new (o:=.tup [kV (Sum.inl p.1),.int p.2.2.q,.ref pp]) mx;have dn:Am K (upd H5 tp (.tup [kV (Sum.inl p.1),.int p.2.2.q,.ref pp])) (.ref tp) (DH p):=LS (p:=pp) (ab.of aC) (s6.tup g2);generalize upd H5 tp (.tup [kV (Sum.inl p.1),.int p.2.2.q,.ref pp])=H6 at s6 dn;have e6:=s6 _ _ e5;have kp:=bN (o:=.lst (zs.map (·.1)++[V.ref tp])) (nC.lst e6);have zl:zs.length<=5:=by have:=congrArg List.length m5;rw[length_map,length_map,length_take]at this;lia
    refine⟨_,e6,by rw[length_map];lia,hN _ _ ⟨_,zs++[(.ref tp,DH p)],rfl,(s5.trans s6).put hD,by rw[aC,map_append];rfl,λz hz=>?_,by rw[map_append,m5,take_succ ep,map_append];rfl⟩⟩;rcases mem_append.mp hz with h|h
    ·exact((w5 z h).same s6).kept kp
    rw[mem_singleton.mp h];exact dn.kept kp
  rintro σ H5 ⟨v0,zs,rfl,s5,e5,w5,m5⟩;rw[length_map,take_length]at m5;have kp:=bN (o:=.dK (x.2.map nF)) (nC.dx ok (s5 _ _ hu));have Vd:D≠x.1:=(aq hu hD).symm;have S5:=th s5;have Ly:(upd H5 x.1 (.dK (x.2.map nF))) D=some (.lst (zs.map (·.1))):=by rw[aM Vd];exact e5
  have Sh:lO K (upd H5 x.1 (.dK (x.2.map nF))) zs:=w5.kept kp;refine⟨x.1,_,u,ok,s5 _ _ hu,?_⟩;generalize upd H5 x.1 (.dK (x.2.map nF))=H6 at S5 Ly Sh ⊢;have zl:zs.length<=5:=by have:=congrArg List.length m5;rw[length_map,length_map]at this;lia
  have N7:=N6.same S5;obtain⟨dw,hw⟩:=N7.o;have Ow:=IB oR nk d6 ex JX.nd eh (n:=1) (by decide) (by decide);refine⟨_,rfl,tw,dw,_,rfl,hw,rfl,_,rfl,_,rfl,hl,_,_,.int h,rfl,rfl,aV.of ((s3.trans S5) _ _ hh),zd,_,rfl,zz0,λel Ae=>?_⟩;have s7:=(aH.refl H6).new (o:=.lst []) Ae;refine⟨true,true,D,el,zs,⟨h,1,x.2.map DH,[]⟩,rfl,aV.of (s7 _ _ Ly),Sh.same s7,m5,aV.of aC,.of (by have:=Ow.1.1;have:0<=h:=this;lia) (by have:=Ow.1.2;have:h<32:=this;lia),.of (by show -(10 ^ 60)<=(1:Int);decide) (by show(1:Int)<=10 ^ 60;decide),by lia,λz hz=>?_,rfl,λ_ r H7 s8 hN=>?_,λz=>absurd Ow z⟩
  ·have:z.2∈x.2.map DH:=(by rw[<-m5];exact List.mem_map.mpr ⟨z,hz,rfl⟩);exact(Ow.2.2.1.1 _ this).U2
  obtain⟨ws,ns,pw,pn,en⟩:=Hh ⟨h,1,x.2.map DH,[]⟩;obtain rfl:=pn.eq_nil;rw[en]at hN;have S7:=s7.trans s8;have Ve:=N7.same S7;have Li:h∉hs ms:=λhm=>by obtain⟨m,hm,e⟩:=List.mem_map.mp hm;obtain⟨k,kl,rfl⟩:=List.getElem_of_mem hm;have e2:=(uG k ms[k] (by simp)).h;rw[e]at e2;obtain⟨a1,a2⟩:=List.getElem?_eq_some_iff.mp e2;obtain⟨b1,b2⟩:=List.getElem?_eq_some_iff.mp eh;have:=List.pairwise_iff_getElem.mp oR.nd k i a1 b1 (by lia);exact this (by rw[a2,b2])
  refine⟨tw,td,ms,.ref r,⟨h,1,ws,[]⟩,rfl,Ve,hN,by lia,λ_ H8 m8 Si=>?_,λz=>absurd (λn hn e=>absurd (List.mem_map.mpr ⟨n,hn,e⟩) Li) z⟩;have ep:tK ms (.ref r) ⟨h,1,ws,[]⟩=ms++[(.ref r,⟨h,1,ws,[]⟩)]:=by unfold tK;rw[if_neg Li]
  rw[ep]at Si;have S:=(s3.trans S5).trans S7;refine⟨_,_,_,rfl,λb o e=>m8 b o (λz=>by rw[mem_singleton.mp z,N5]at e;cases e) (S b o e),Si,by rw[length_append,ml];rfl,λk m hm=>?_⟩;by_cases c:k<ms.length
  ·rw[getElem?_append_left c]at hm;exact uG k m hm
  have cN:=(List.getElem?_eq_some_iff.mp hm).1;rw[length_append]at cN;have e:k=ms.length:=by simp at cN;lia
  rw[e,getElem?_append_right (le_refl _),Nat.sub_self]at hm;cases hm;rw[e,ml];exact⟨eh,rfl,x,ex,pw⟩
 rintro σ H3 ⟨v4,v5,ms,rfl,s3,N6,ml,uG⟩;exact⟨_,rfl,q tw td H3 ms s3 Q6 N5 N6 ⟨by lia,uG⟩⟩
def Ent(D:Nat->Option (Addr×Nd))(k:Nat)(h:Int)(e:Ne):Prop:=∃x,D k=some x/\∃v,(h,v,e)∈x.2
structure FY(os:List Int)(D:Nat->Option (Addr×Nd))(ms:Ms):Prop where
 n:(hs ms).Nodup
 t:∀(k:Nat)(m:V×Nw),ms[k]?=some m->os[k]?=some m.2.h/\∃x,D k=some x/\m.2.near.Perm (x.2.map DH)
 b:∀(k:Nat),k<ms.length↔(D k).isSome=true
def Ox(os:List Int)(D:Nat->Option (Addr×Nd))(t:T3):Prop:=t.1<t.2.1/\∃(i j:Nat)(e1 e2:Ne),os[i]?=some t.1/\os[j]?=some t.2.1/\Ent D i t.2.1 e1/\Ent D j t.1 e2/\e1.a=e2.a/\e1.b=e2.b/\t.2.2=max e1.q e2.q
theorem FY.LU{D:Nat->Option (Addr×Nd)}{ms:Ms}(h:FY os D ms)(t:T3):b9 ms t↔Ox os D t:=by
 have fwd:∀{m:V×Nw}{w:Wr},m∈ms->w∈m.2.near->∃(i:Nat)(e:Ne),os[i]?=some m.2.h/\Ent D i w.o e/\e.a=w.a/\e.b=w.b/\e.q=w.q:=λ{m w} hm hw=>by obtain⟨i,il,rfl⟩:=List.getElem_of_mem hm;obtain⟨h1,x,h2,h3⟩:=h.t i ms[i] (by simp);obtain⟨p,hp,rfl⟩:=List.mem_map.mp (h3.mem_iff.mp hw);exact⟨i,p.2.2,h1,⟨x,h2,p.2.1,hp⟩,rfl,rfl,rfl⟩
 have bwd:∀{i:Nat}{g o:Int}{e:Ne},os[i]?=some g->Ent D i o e->∃m∈ms,∃w∈m.2.near,m.2.h=g/\w.o=o/\w.a=e.a/\w.b=e.b/\w.q=e.q:=λ{i g o e} hg he=>by obtain⟨x,h1,v,h2⟩:=he;have il:=(h.b i).mpr (by rw[h1];rfl);obtain⟨g1,y,g2,g3⟩:=h.t i ms[i] (by simp);rw[h1]at g2;cases g2;rw[hg]at g1;cases g1;exact⟨ms[i],List.getElem_mem il,DH (o,v,e),g3.mem_iff.mpr (List.mem_map.mpr ⟨_,h2,rfl⟩),rfl,rfl,rfl,rfl,rfl⟩
 unfold b9 Ox;refine and_congr_right λ_=>?_;constructor
 ·rintro⟨m1,h1,m2,h2,w1,g1,w2,g2,a1,a2,a3,a4,a5,a6,a7⟩;obtain⟨i,e1,b1,b2,b3,b4,b5⟩:=fwd h1 g1;obtain⟨j,e2,c1,c2,c3,c4,c5⟩:=fwd h2 g2;exact⟨i,j,e1,e2,by rw[b1,a1],by rw[c1,a2],a3▸b2,a4▸c2,by lia,by lia,by rw[a7,b5,c5]⟩
 rintro⟨i,j,e1,e2,a1,a2,a3,a4,a5,a6,a7⟩;obtain⟨m1,h1,w1,g1,b1,b2,b3,b4,b5⟩:=bwd a1 a3;obtain⟨m2,h2,w2,g2,c1,c2,c3,c4,c5⟩:=bwd a2 a4;exact⟨m1,h1,m2,h2,w1,g1,w2,g2,b1,c1,b2,c2,by lia,by lia,by rw[a7,b5,c5]⟩
theorem MapOf.f{ds:List (Addr×Nd)}{ms:Ms}(h:MapOf os ds ms)(nd:(hs ms).Nodup):FY os (λk=>ds[k]?) ms:=by refine⟨nd,λk m hm=>⟨(h.t k m hm).h,(h.t k m hm).w⟩,λk=>?_⟩;rw[h.l];simp
theorem FY.ok{D:Nat->Option (Addr×Nd)}{ms:Ms}(h:FY os D ms)(hd:∀k x,D k=some x->(x.2.map (·.1)).Nodup/\x.2.length<=5/\∀p∈x.2,FT p.2.2):lT ms/\uh ms:=by
 constructor
 ·intro m hm;obtain⟨i,il,rfl⟩:=List.getElem_of_mem hm;obtain⟨h1,x,h2,h3⟩:=h.t i ms[i] (by simp);obtain⟨d1,d2,_⟩:=hd i x h2;refine⟨?_,by rw[h3.length_eq,length_map];exact d2⟩;refine(h3.map (·.o)).nodup_iff.mpr ?_;rw[List.map_map];exact d1
 intro m hm w hw;obtain⟨i,il,rfl⟩:=List.getElem_of_mem hm;obtain⟨h1,x,h2,h3⟩:=h.t i ms[i] (by simp);obtain⟨p,hp,rfl⟩:=List.mem_map.mp (h3.mem_iff.mp hw);exact((hd i x h2).2.2 p hp).1
theorem B5(ok:uk os){j:Nat}{h:Int}(e1:os[i]?=some h)(e2:os[j]?=some h):i=j:=by obtain⟨i1,i2⟩:=List.getElem?_eq_some_iff.mp e1;obtain⟨j1,j2⟩:=List.getElem?_eq_some_iff.mp e2;exact(List.getElem_inj (h₀:=i1) (h₁:=j1) ok.nd).mp (by rw[i2,j2])
theorem get_mem{d:Nd}{h:Int}{q:Int×V×Ne}(e:nq d h=some q):q∈d/\q.1=h:=⟨List.mem_of_find?_eq_some e,by simpa using List.find?_some e⟩
theorem xV{n:Nat}{p:Addr}{a b:Int}(h:ab K H p [.int a,.int b]):ar K H (n+1) (.ref p) (.tuple [.int a,.int b]):=by
 refine .tup h rfl λi v d e1 e2=>?_
 match i with
 |0=>cases e1;cases e2;exact .int _
 |1=>cases e1;cases e2;exact .int _
 |i+2=>simp at e1
theorem FZ(a b c d:Int):PyData.eqv (.tuple [.int a,.int b]) (.tuple [.int c,.int d])=decide (a=c/\b=d):=by simp[PyData.eqv,PyData.eqvAll];rfl
def j4(os:List Int)(ds:List (Addr×Nd))(a b:Nat):Option T3 :=
 (os[a]?).bind λha=>(os[b]?).bind λhb=>(ds[a]?).bind λxa=>(ds[b]?).bind λxb =>
  if ha<hb then(nq xa.2 hb).bind λp=>(nq xb.2 ha).bind λq=>if p.2.2.a=q.2.2.a/\p.2.2.b=q.2.2.b then some (ha,hb,if q.2.2.q>p.2.2.q then q.2.2.q else p.2.2.q)else none else none
theorem vf{ds:List (Addr×Nd)}{a b:Nat}{ha hb:Int}{xa xb:Addr×Nd}(e1:os[a]?=some ha)(e2:os[b]?=some hb)(e3:ds[a]?=some xa)(e4:ds[b]?=some xb):j4 os ds a b=if ha<hb then(nq xa.2 hb).bind λp=>(nq xb.2 ha).bind λq=>if p.2.2.a=q.2.2.a/\p.2.2.b=q.2.2.b then some (ha,hb,if q.2.2.q>p.2.2.q then q.2.2.q else p.2.2.q)else none else none:=by unfold j4;rw[e1,e2,e3,e4];rfl
theorem fT{ds:List (Addr×Nd)}{a b:Nat}{t:T3}(h:j4 os ds a b=some t):os[a]?=some t.1/\os[b]?=some t.2.1/\t.1<t.2.1/\∃e1 e2,Ent (λk=>ds[k]?) a t.2.1 e1/\Ent (λk=>ds[k]?) b t.1 e2/\e1.a=e2.a/\e1.b=e2.b/\t.2.2=max e1.q e2.q:=by
 unfold j4 at h;obtain⟨ha,e1,h⟩:=Option.bind_eq_some_iff.mp h;obtain⟨hb,e2,h⟩:=Option.bind_eq_some_iff.mp h;obtain⟨xa,e3,h⟩:=Option.bind_eq_some_iff.mp h;obtain⟨xb,e4,h⟩:=Option.bind_eq_some_iff.mp h;by_cases c:ha<hb
 ·rw[if_pos c]at h;obtain⟨p,g1,h⟩:=Option.bind_eq_some_iff.mp h;obtain⟨q,g2,h⟩:=Option.bind_eq_some_iff.mp h;by_cases c2:p.2.2.a=q.2.2.a/\p.2.2.b=q.2.2.b
  ·rw[if_pos c2]at h;cases h;obtain⟨m1,n1⟩:=get_mem g1;obtain⟨m2,n2⟩:=get_mem g2;refine⟨e1,e2,c,p.2.2,q.2.2,⟨xa,e3,p.2.1,?_⟩,⟨xb,e4,q.2.1,?_⟩,c2.1,c2.2,?_⟩
   ·rw[<-n1];exact m1
   ·rw[<-n2];exact m2
   show(if q.2.2.q>p.2.2.q then q.2.2.q else p.2.2.q)=max p.2.2.q q.2.2.q;split<;>lia
  rw[if_neg c2]at h;cases h
 rw[if_neg c]at h;cases h
theorem DI{ds:List (Addr×Nd)}(nd:∀(k:Nat) x,ds[k]?=some x->(x.2.map (·.1)).Nodup){a b:Nat}{t:T3}(e1:os[a]?=some t.1)(e2:os[b]?=some t.2.1)(lt:t.1<t.2.1){n1 n2:Ne}(h1:Ent (λk=>ds[k]?) a t.2.1 n1)(h2:Ent (λk=>ds[k]?) b t.1 n2)(ea:n1.a=n2.a)(eb:n1.b=n2.b)(el:t.2.2=max n1.q n2.q):j4 os ds a b=some t:=by
 obtain⟨xa,e3,v1,m1⟩:=h1;obtain⟨xb,e4,v2,m2⟩:=h2;rw[vf e1 e2 e3 e4,if_pos lt];have g1:=FX (nd a xa e3) m1;have g2:=FX (nd b xb e4) m2;rw[show nq xa.2 t.2.1=some (t.2.1,v1,n1)from g1,show nq xb.2 t.1=some (t.1,v2,n2)from g2];show(if n1.a=n2.a/\n1.b=n2.b then some (t.1,t.2.1,if n2.q>n1.q then n2.q else n1.q)else none)=some t;rw[if_pos ⟨ea,eb⟩]
 congr 1
 refine Prod.ext rfl (Prod.ext rfl ?_);show(if n2.q>n1.q then n2.q else n1.q)=t.2.2;rw[el];split<;>lia
def hX(os:List Int)(ds:List (Addr×Nd))(a j:Nat):List T3:=(List.range j).filterMap (j4 os ds a)
def ff(os:List Int)(ds:List (Addr×Nd))(i m:Nat):List T3:=(List.range i).flatMap λa=>hX os ds a m
theorem tQ(os:List Int)(ds:List (Addr×Nd))(a j:Nat):(hX os ds a j).length<=j:=by unfold hX;exact le_trans (List.length_filterMap_le ..) (by rw[List.length_range];exact le_refl _)
theorem qr(os:List Int)(ds:List (Addr×Nd))(i m:Nat):ff os ds (i+1) m=ff os ds i m++hX os ds i m:=by unfold ff;rw[List.range_succ,List.flatMap_append];simp
theorem nu(os:List Int)(ds:List (Addr×Nd))(m:Nat):∀i,(ff os ds i m).length<=i*m
 |0=>by simp[ff]
 |i+1=>by rw[qr,length_append,Nat.succ_mul];have:=nu os ds m i;have:=tQ os ds i m;lia
theorem qt(os:List Int)(ds:List (Addr×Nd))(a j:Nat):hX os ds a (j+1)=hX os ds a j++(j4 os ds a j).toList:=by
 unfold hX;rw[List.range_succ,List.filterMap_append]
 congr 1
theorem A2{ds:List (Addr×Nd)}(nd:∀(k:Nat) x,ds[k]?=some x->(x.2.map (·.1)).Nodup)(t:T3):t∈ff os ds ds.length ds.length↔Ox os (λk=>ds[k]?) t:=by
 unfold ff hX;rw[List.mem_flatMap];constructor
 ·rintro⟨a,ha,h⟩;obtain⟨b,hb,h⟩:=List.mem_filterMap.mp h;obtain⟨h1,h2,h3,e1,e2,h4,h5,h6,h7,h8⟩:=fT h;exact⟨h3,a,b,e1,e2,h1,h2,h4,h5,h6,h7,h8⟩
 rintro⟨lt,a,b,e1,e2,h1,h2,h3,h4,h5,h6,h7⟩;have al:∀{k:Nat}{h:Int}{e:Ne},Ent (λk=>ds[k]?) k h e->k<ds.length:=λ⟨x,z,_⟩=>(List.getElem?_eq_some_iff.mp z).1;exact⟨a,List.mem_range.mpr (al h3),List.mem_filterMap.mpr ⟨b,List.mem_range.mpr (al h4),DI nd h1 h2 lt h3 h4 h5 h6 h7⟩⟩
theorem DJ(oR:uk os)(ds:List (Addr×Nd))(m:Nat)(i:Nat):(ff os ds i m).Pairwise λs t=>(s.1,s.2.1)≠(t.1,t.2.1):=by
 unfold ff hX;rw[List.pairwise_flatMap];constructor
 ·intro a _;rw[List.pairwise_filterMap];refine List.nodup_range.imp λ{b c} Vf s hs t ht e=>Vf ?_;have h1:=(fT hs).2.1;have h2:=(fT ht).2.1;rw[(Prod.mk.inj e).2]at h1;exact B5 oR h1 h2
 refine List.nodup_range.imp λ{a c} NU s hs t ht e=>NU ?_;obtain⟨b,_,hs⟩:=List.mem_filterMap.mp hs;obtain⟨b',_,ht⟩:=List.mem_filterMap.mp ht;have h1:=(fT hs).1;have h2:=(fT ht).1;rw[(Prod.mk.inj e).1]at h1;exact B5 oR h1 h2
def nH(K:W.Frag):Sp:=λvs H Q _=>∃(nl hl:Addr)(os:List Int)(ds:List (Addr×Nd)),vs=[.ref hl,.int (ds.length:Nat),.ref nl]/\tP K H nl ds/\H hl=some (.lst (os.map V.int))/\uk os/\os.length=8/\ds.length<=6/\∀(r:Addr)(H':Hp)(ts:List T3),aH H H'->ng K H' r ts->(∀t,t∈ts↔Ox os (λk=>ds[k]?) t)->(ts.Pairwise λs t=>pG s<pG t)->ts.length<=36->Q (.ref r) H'
theorem cZ:aU ["houses","many","near","found","a","b","one","other"] ["houses","many","near"] (aI gQ):=ad
set_option maxHeartbeats 2000000 in
theorem um(F:aN K mg "_law_wires" gQ)(T:Txt K mg t):Def P w K mg base 1 "_law_wires" ["houses","many","near"] (nH K):=by
 refine F.def cZ (λ_ _ _ _ _ _=>bv λ_ _ _=>rfl) (λvs H Q E h=>?_) (λf bj A outer s H vs Q E hr h=>?_)
 ·obtain⟨nl,hl,os,ds,rfl,_⟩:=h;rfl
 obtain⟨nl,hl,os,ds,rfl,nr,hh,oR,ol,d6,q⟩:=h;refine⟨_,aF (aR (i:=3) cZ.nd rfl (Or.inl rfl) (az aE))
  (aF (PS.uI (bW PassesOwn.never rfl (dD (by rfl) T.fM (aA (pv 1) aE)) (aO (i:=4) cZ.nd rfl (Or.inl rfl))
   (aG (bW PassesOwn.never rfl (dD (by rfl) T.fM (aA (pv 1) aE)) (aO (i:=5) cZ.nd rfl (Or.inl rfl))
    (aG (au (PW.pt (jd (aL lE (aK (aJ K) (pv 0) (pv 4) (λ_ _=>rfl)) (aK (aJ K) (pv 0) (pv 5) (λ_ _=>rfl)) (aQ _)) (jd (nN (sM (bO hr) (aK (aJ K) (pv 0) (pv 5) (λ_ _=>rfl)) (aK (aJ K) (pv 2) (pv 4) (λ_ _=>rfl))) (by rfl)) (iU (nN (sM (bO hr) (aK (aJ K) (pv 0) (pv 4) (λ_ _=>rfl)) (aK (aJ K) (pv 2) (pv 5) (λ_ _=>rfl))) (by rfl))))))
     (aF (aR (i:=6) cZ.nd rfl (Or.inl rfl) (cC (bO hr) (aK (aJ K) (pv 2) (pv 4) (λ_ _=>rfl)) (aK (aJ K) (pv 0) (pv 5) (λ_ _=>rfl)) (λ_ _=>rfl)))
     (aF (aR (i:=7) cZ.nd rfl (Or.inl rfl) (cC (bO hr) (aK (aJ K) (pv 2) (pv 5) (λ_ _=>rfl)) (aK (aJ K) (pv 0) (pv 4) (λ_ _=>rfl)) (λ_ _=>rfl)))
     (aG (au (aL (wW K (cu hr)) (aK (aP K) (pv 6) aD (λ_ _=>rfl)) (aK (aP K) (pv 7) aD (λ_ _=>rfl)) (aQ _))
      (aG (bM (jq K PySem.F.plainAttrs_list PySem.F.slot_list_append PySem.F.type_list_append gR (pv 3) (aA (ag (aA (aK (aJ K) (pv 0) (pv 4) (λ_ _=>rfl)) (aA (aK (aJ K) (pv 0) (pv 5) (λ_ _=>rfl)) (aA (aT (pZ rfl) (by rfl) T.E4 boot_max (aA (aK (aP K) (pv 6) aD (λ_ _=>rfl)) (aA (aK (aP K) (pv 7) aD (λ_ _=>rfl)) aE))) aE)))) aE))))
      (aZ)))))
     (aZ)))))))
  (aG (aX (aT (dc K (cu hr)) (by rfl) T.cE boot_sorted (aA (pv 3) aE))))),?_⟩
 have hsz:(2000:Nat)<=sizeLine:=by decide
 refine⟨zz0,λfo Oy=>?_⟩;have s0:=(aH.refl H).new (o:=.lst []) Oy;have e0:(upd H fo (.lst [])) fo=some (.lst []):=aC;generalize upd H fo (.lst [])=H0 at s0 e0 ⊢;have Vg:∀(k:Nat) x,ds[k]?=some x->(x.2.map (·.1)).Nodup:=λk x h=>(nr.d x (mem_of_getElem? h)).nd;have B4:∀{k:Nat}{x:Addr×Nd},ds[k]?=some x->jh (ds.map λx=>V.ref x.1) (0+(k:Nat):Int)=some (V.ref x.1):=λ{k x} h=>by rw[show(0+(k:Nat):Int)=(k:Nat) by lia];exact bG (by rw[getElem?_map,h];rfl)
 have zd:∀{k:Nat}{h:Int},os[k]?=some h->jh (os.map V.int) (0+(k:Nat):Int)=some (V.int h):=λ{k h'} h=>by rw[show(0+(k:Nat):Int)=(k:Nat) by lia];exact bG (by rw[getElem?_map,h];rfl)
 let I:Nat->_->_->Prop:=λi σ H'=>∃(zs:List (V×T3))(v4 v5 v6 v7:Option V),σ=[some (.ref hl),some (.int (ds.length:Nat)),some (.ref nl),some (.ref fo),v4,v5,v6,v7]/\aH H H'/\H' fo=some (.lst (zs.map (·.1)))/\uc K H' zs/\zs.map (·.2)=ff os ds i ds.length
 refine⟨_,rfl,((ds.length:Nat):Int),rfl,by lia,by lia,?_⟩;refine eV (lo:=0) (n:=((ds.length:Nat):Int).toNat) I ⟨[],none,none,none,none,rfl,s0,e0,λz hz=>absurd hz not_mem_nil,rfl⟩ ?_ ?_
 ·rintro i σ H1 hi ⟨zs,v4,v5,v6,v7,rfl,s1,e1,t1,m1⟩;have il:i<ds.length:=by lia
  let J:Nat->_->_->Prop:=λj σ H'=>∃(zs:List (V×T3))(v5 v6 v7:Option V),σ=[some (.ref hl),some (.int (ds.length:Nat)),some (.ref nl),some (.ref fo),some (.int (0+(i:Nat))),v5,v6,v7]/\aH H H'/\H' fo=some (.lst (zs.map (·.1)))/\uc K H' zs/\zs.map (·.2)=ff os ds i ds.length++hX os ds i j
  refine⟨_,rfl,((ds.length:Nat):Int),rfl,by lia,by lia,?_⟩;refine eV (lo:=0) (n:=((ds.length:Nat):Int).toNat) J ⟨zs,_,_,_,rfl,s1,e1,t1,by rw[m1];simp[hX]⟩ ?_ ?_
  ·rintro j σ H2 hj ⟨zs,v5,v6,v7,rfl,s2,e2,t2,m2⟩;have jl:j<ds.length:=(by lia);obtain⟨xa,Hy⟩:∃x,ds[i]?=some x:=⟨ds[i],by simp[il]⟩;obtain⟨xb,ze⟩:∃x,ds[j]?=some x:=⟨ds[j],by simp[jl]⟩;obtain⟨ha,FV⟩:∃h,os[i]?=some h:=⟨os[i],by simp[show i<os.length by lia]⟩;obtain⟨hb,JV⟩:∃h,os[j]?=some h:=⟨os[j],by simp[show j<os.length by lia]⟩;have L3:=nr.same s2;have Fb:=s2 _ _ hh;have dA:=L3.d xa (mem_of_getElem? Hy);have dB:=L3.d xb (mem_of_getElem? ze);have gA:bh H2 xa.1 (.int hb) ((nq xa.2 hb).map (·.2.1)):=by have:=bh.k (k:=Sum.inl hb) dA.d;rw[FR]at this;exact this
   have gB:bh H2 xb.1 (.int ha) ((nq xb.2 ha).map (·.2.1)):=by have:=bh.k (k:=Sum.inl ha) dB.d;rw[FR]at this;exact this
   have wa:=vf (os:=os) FV JV Hy ze;have ko:∀{v6 v7:Option V},j4 os ds i j=none->J (j+1) [some (.ref hl),some (.int (ds.length:Nat)),some (.ref nl),some (.ref fo),some (.int (0+(i:Nat))),some (.int (0+(j:Nat))),v6,v7] H2:=λh=>⟨zs,_,_,_,rfl,s2,e2,t2,by rw[m2,qt,h];simp⟩;refine⟨_,rfl,_,rfl,hl,_,_,.int ha,rfl,rfl,aV.of Fb,zd FV,_,rfl,_,rfl,hl,_,_,.int hb,rfl,rfl,aV.of Fb,zd JV,_,_,rfl,rfl,_,rfl,?_⟩;by_cases c:ha<hb
   ·refine bx c ?_;rw[if_pos c]at wa;refine⟨_,rfl,_,rfl,hl,_,_,.int hb,rfl,rfl,aV.of Fb,zd JV,_,rfl,_,rfl,nl,_,_,.ref xa.1,rfl,rfl,aV.of L3.l,B4 Hy,xa.1,_,rfl,gA,?_⟩;cases eA:nq xa.2 hb with
    |none =>
     rw[eA]at wa;exact⟨false,rfl,gf (ko wa)⟩
    |some p =>
     rw[eA]at wa gA;refine⟨true,rfl,eO ?_⟩;refine⟨_,rfl,_,rfl,hl,_,_,.int ha,rfl,rfl,aV.of Fb,zd FV,_,rfl,_,rfl,nl,_,_,.ref xb.1,rfl,rfl,aV.of L3.l,B4 ze,xb.1,_,rfl,gB,?_⟩;cases eB:nq xb.2 ha with
     |none =>
      rw[eB]at wa;exact⟨false,rfl,gf (ko wa)⟩
     |some p2 =>
      rw[eB]at wa gB;obtain⟨ma,na⟩:=get_mem eA;obtain⟨mb,nb⟩:=get_mem eB;obtain⟨ra,qa,va,Sj,Vh⟩:=Ax (dA.v p ma);obtain⟨rb,qb,vb,Sk,Vi⟩:=Ax (dB.v p2 mb);refine⟨true,rfl,eO ?_⟩;refine⟨_,rfl,_,rfl,nl,_,_,.ref xa.1,rfl,rfl,aV.of L3.l,B4 Hy,_,rfl,_,rfl,hl,_,_,.int hb,rfl,rfl,aV.of Fb,zd JV,xa.1,p.2.1,rfl,gA,?_⟩;refine⟨_,rfl,_,rfl,nl,_,_,.ref xb.1,rfl,rfl,aV.of L3.l,B4 ze,_,rfl,_,rfl,hl,_,_,.int ha,rfl,rfl,aV.of Fb,zd FV,xb.1,p2.2.1,rfl,gB,?_⟩;refine⟨_,rfl,ra,_,_,.ref qa,va,rfl,Sj,rfl,_,rfl,rb,_,_,.ref qb,vb,rfl,Sk,rfl,?_⟩;refine⟨.tuple [.int p.2.2.a,.int p.2.2.b],.tuple [.int p2.2.2.a,.int p2.2.2.b],xV Vh,xV Vi,_,rfl,?_⟩;have ee:PyData.eqv (.tuple [.int p.2.2.a,.int p.2.2.b]) (.tuple [.int p2.2.2.a,.int p2.2.2.b])=decide (p.2.2.a=p2.2.2.a/\p.2.2.b=p2.2.2.b):=FZ _ _ _ _;rw[if_neg (by decide),ee];have wa:j4 os ds i j=if p.2.2.a=p2.2.2.a/\p.2.2.b=p2.2.2.b then some (ha,hb,if p2.2.2.q>p.2.2.q then p2.2.2.q else p.2.2.q)else none:=wa;by_cases c2:p.2.2.a=p2.2.2.a/\p.2.2.b=p2.2.2.b
      ·refine bx c2 ?_;rw[if_pos c2]at wa;refine⟨_,rfl,.inl ⟨rfl,_,aV.of e2⟩,_,rfl,_,rfl,hl,_,_,.int ha,rfl,rfl,aV.of Fb,zd FV,_,rfl,_,rfl,hl,_,_,.int hb,rfl,rfl,aV.of Fb,zd JV,?_⟩;refine⟨_,rfl,ra,_,_,.int p.2.2.q,va,rfl,Sj,rfl,_,rfl,rb,_,_,.int p2.2.2.q,vb,rfl,Sk,rfl,_,_,rfl,zz3,λtp mx=>?_⟩;have s3:=(aH.refl H2).new (o:=.tup [.int ha,.int hb,.int (if p2.2.2.q>p.2.2.q then p2.2.2.q else p.2.2.q)]) mx;have dn:ar K (upd H2 tp (.tup [.int ha,.int hb,.int (if p2.2.2.q>p.2.2.q then p2.2.2.q else p.2.2.q)])) 2 (.ref tp) (ub (ha,hb,if p2.2.2.q>p.2.2.q then p2.2.2.q else p.2.2.q)):=by
        refine .tup (ab.of aC) rfl λi v d e1 e2=>?_
        match i with
        |0=>cases e1;cases e2;exact .int _
        |1=>cases e1;cases e2;exact .int _
        |2=>cases e1;cases e2;exact .int _
        |i+3=>simp at e1
       generalize upd H2 tp (.tup [.int ha,.int hb,.int (if p2.2.2.q>p.2.2.q then p2.2.2.q else p.2.2.q)])=H3 at s3 dn;have e3:=s3 _ _ e2;have zl:zs.length<=100:=by have h1:=congrArg List.length m2;rw[length_map,length_append]at h1;have h2:=nu os ds ds.length i;have h3:=tQ os ds i j;have h4:i*ds.length<=6*6:=Nat.mul_le_mul (by lia) d6;lia
       refine⟨fo,_,_,rfl,rfl,e3,by rw[length_map];lia,?_⟩;have kp:=bN (o:=.lst (zs.map (·.1)++[V.ref tp])) (nC.lst e3);refine⟨zs++[(.ref tp,(ha,hb,if p2.2.2.q>p.2.2.q then p2.2.2.q else p.2.2.q))],_,_,_,rfl,(s2.trans s3).put Oy,by rw[aC,map_append];rfl,λz hz=>?_,by rw[map_append,m2,qt,wa,List.append_assoc];rfl⟩;rcases mem_append.mp hz with h|h
       ·exact((t2 z h).same s3).kept kp (zG _)
       rw[mem_singleton.mp h];exact dn.kept kp (zG _)
      rw[if_neg c2]at wa;exact cB c2 (ko wa)
   rw[if_neg c]at wa;exact cB c (ko wa)
  rintro σ H2 ⟨zs,v5,v6,v7,rfl,s2,e2,t2,m2⟩;have:((ds.length:Nat):Int).toNat=ds.length:=by lia
  rw[this]at m2;exact⟨zs,_,_,_,_,rfl,s2,e2,t2,by rw[m2,qr]⟩
 rintro σ H1 ⟨zs,v4,v5,v6,v7,rfl,s1,e1,t1,m1⟩;have:((ds.length:Nat):Int).toNat=ds.length:=by lia
 rw[this]at m1;have zl:zs.length<=36:=by have h1:=congrArg List.length m1;rw[length_map]at h1;have h2:=nu os ds ds.length ds.length;have h4:ds.length*ds.length<=6*6:=Nat.mul_le_mul d6 d6;lia
 refine⟨_,rfl,true,fo,zs.map λz=>(z.1,ub z.2),rfl,by rw[List.map_map];exact aV.of e1,by rw[length_map];lia,λy hy=>?_,by have:=Nu (zs.map (·.2));rw[List.map_map]at this ⊢;exact this,λys r2 hp xu uR=>?_⟩
 ·obtain⟨z,hz,rfl⟩:=List.mem_map.mp hy;exact ar.up (t1 z hz) (by decide)
 obtain⟨vs,E9,rfl⟩:=perm_back (λz:V×T3=>(z.1,ub z.2)) hp zs rfl;have s7:=(aH.refl H1).new (o:=.lst ((vs.map λz=>(z.1,ub z.2)).map (·.1))) uR;have Nv:(vs.map (·.2)).Perm (ff os ds ds.length ds.length):=by have:=E9.map (·.2);rw[m1]at this;exact this
 refine q r2 _ (vs.map (·.2)) (s1.trans s7) ⟨vs,by rw[aC,List.map_map];rfl,λz hz=>(t1 z (E9.mem_iff.mp hz)).same s7,rfl⟩ (λtt=>?_) ?_ (by rw[length_map,E9.length_eq];exact zl)
 ·rw[Nv.mem_iff,A2 Vg]
 have pw:(vs.map (·.2)).Pairwise λs t=>(s.1,s.2.1)≠(t.1,t.2.1):=(Nv.pairwise_iff λ{a b} h=>h.symm).mpr (DJ oR ds _ _);have so:(vs.map (·.2)).Pairwise λs t=>bf (ub t) (ub s)=false:=by rw[List.pairwise_map]at xu ⊢;exact xu
 refine(so.and pw).imp λ{s t} ⟨h1,h2⟩=>?_;rw[FI,decide_eq_false_iff_not]at h1;by_cases h:pG s<pG t
 ·exact h
 exact absurd (by rw[zF (List.le_antisymm (List.not_lt.mp h1) (List.not_lt.mp h))]) h2
def fg(L:List (Tk×Int)):List Int->Option Int
 |x::y::r=>(gC L [x,y]).bind λl=>(fg L (y::r)).map (l+·)
 |_=>some 0
theorem pN(L:List (Tk×Int))(x y:Int)(r:List Int):fg L (x::y::r)=(gC L [x,y]).bind λl=>(fg L (y::r)).map (l+·):=by rw[fg]
theorem pO(L:List (Tk×Int))(x:Int):fg L [x]=some 0:=by rw[fg];intro x y r z;cases z
theorem JY{α:Type}{l:List α}{x y:α}(h1:l[i]?=some x)(h2:l[i+1]?=some y):l.drop i=x::y::l.drop (i+2)/\l.drop (i+1)=y::l.drop (i+2):=by
 obtain⟨i1,rfl⟩:=List.getElem?_eq_some_iff.mp h1;obtain⟨i2,rfl⟩:=List.getElem?_eq_some_iff.mp h2;have e2:l.drop (i+1)=l[i+1]::l.drop (i+2):=by rw[List.drop_eq_getElem_cons i2]
 exact⟨by rw[List.drop_eq_getElem_cons i1,e2],e2⟩
def nI(K:W.Frag):Sp:=λvs H Q _=>∃(td wa:Addr)(L:List (Tk×Int))(xs:TX)(ws:List Int),vs=[.ref td,.ref wa]/\pH K H td L xs/\ab K H wa (ws.map V.int)/\1<=ws.length/\ws.length<=1000/\∀H',aH H H'->Q (oV (fg L ws)) H'
theorem fP:aU ["lengths","way","total","wire"] ["lengths","way"] (aI gI):=ad
set_option maxHeartbeats 1000000 in
theorem ur(F:aN K mg "way_length" gI)(T:Txt K mg t):Def P w K mg base 1 "way_length" ["lengths","way"] (nI K):=by
 refine F.def fP (λ_ _ _ _ _ _=>bn λ_ _=>rfl) (λvs H Q E h=>?_) (λf bj A outer s H vs Q E hr h=>?_)
 ·obtain⟨td,wa,L,xs,ws,rfl,_⟩:=h;rfl
 obtain⟨td,wa,L,xs,ws,rfl,hL,hw,w1,wl,q⟩:=h;refine⟨_,aF (aR (i:=2) fP.nd rfl (Or.inl rfl) aD)
  (aF (PS.uI (bW PassesOwn.never rfl (Ew K (by rfl) T.Nj (aA (pv 1) (aA (cD (mP K) (pv 1) (cp aD) dR) aE))) (aO (i:=3) fP.nd rfl (Or.inl rfl))
   (aF (au (aL (AY K (cu hr)) (pv 3) (pv 0) (by rfl))
    (aG (aX pV))
    (aZ))
   (aG (Jt (i:=2) fP.nd rfl (Or.inl rfl) (mS K (cu hr) (pv 0) (pv 3) (λ_ _=>rfl)) Ju)))))
  (aG (aX (pv 2)))),?_⟩
 refine⟨_,rfl,_,rfl,_,rfl,wa,_,rfl,hw,λr H1 s1 IC=>?_⟩;rw[rY (by decide),<-List.map_drop]at IC;have IC:ab K H1 r ((ws.drop 1).map V.int):=IC;have dl:((ws.drop 1).map V.int).length=ws.length-1:=by rw[length_map,List.length_drop]
 let I:Nat->_->_->Prop:=λi σ H'=>∃(cw:Int)(v3:Option V),σ=[some (.ref td),some (.ref wa),some (.int cw),v3]/\aH H1 H'/\fg L ws=(fg L (ws.drop i)).map (cw+·)
 refine⟨wa,r,rfl,⟨_,s1.tup hw⟩,⟨_,IC⟩,Ex (K:=K) (a:=wa) (b:=r) (xs:=ws.map V.int) (ys:=(ws.drop 1).map V.int) (by rw[dl,length_map];lia) I ⟨0,none,rfl,.refl _,by rw[List.drop_zero];cases fg L ws<;>simp⟩ (λi σ H' _ ⟨_,_,_,s,_⟩=>⟨(s1.trans s).tup hw,s.tup IC⟩) ?_ ?_⟩
 ·rintro i x y p σ H2 hx hy ⟨cw,v3,rfl,s2,e2⟩ hp;obtain⟨a,ea,rfl⟩:=gF hx;obtain⟨b,eb,rfl⟩:=gF hy;have Vj:ws[i+1]?=some b:=by rw[List.getElem?_drop]at eb;rw[Nat.add_comm];exact eb
  obtain⟨d1,d2⟩:=JY ea Vj;have s3:=(aH.refl H2).new (o:=.tup [.int a,.int b]) hp;have tk:cc K (upd H2 p (.tup [.int a,.int b])) p [a,b]:=⟨.inl ⟨_,_,rfl,ab.of aC⟩⟩;generalize upd H2 p (.tup [.int a,.int b])=H3 at s3 tk ⊢;have S3:=s1.trans (s2.trans s3);have l3:=hL.same S3;have Sl:TD K H3 td xs:=⟨.inl l3.d,l3.k⟩;have vt:=qK hL.m [a,b];refine⟨_,rfl,_,rfl,td,p,xs,[a,b],rfl,rfl,Sl,tk,_,rfl,?_⟩;rw[if_pos rfl];rw[d1,pN]at e2;by_cases c:[a,b]∈xs.map (·.1)
  ·refine fz c ?_;have As:(iy xs [a,b]).isSome=true:=(by rw[cK,decide_eq_true c]);rw[vt,Option.isSome_map]at As;obtain⟨l,hl⟩:=Option.isSome_iff_exists.mp As;rw[hl]at vt;refine⟨_,rfl,_,rfl,_,rfl,td,p,xs,[a,b],.int l,rfl,rfl,Sl,tk,vt,_,_,rfl,rfl,?_⟩;refine⟨_,_,rfl,s2.trans s3,?_⟩;rw[e2,hl,d2];show((fg L (b::ws.drop (i+2))).map (l+·)).map (cw+·)=_;rw[Option.map_map]
   congr 1
   funext z
   show cw+(l+z)=cw+l+z;lia
  refine gh c ?_;have As:(iy xs [a,b]).isSome=false:=by rw[cK,decide_eq_false c]
  rw[vt,Option.isSome_map]at As;have hn:gC L [a,b]=none:=by simpa using As
  rw[hn]at e2;have:=q H3 S3;rw[e2]at this;exact this
 rintro σ H2 ⟨cw,v3,rfl,s2,e2⟩;rw[dl]at e2;have el:ws[ws.length-1]?=some (ws[ws.length-1]'(by lia)):=by simp[show ws.length-1<ws.length by lia]
 have dd:ws.drop (ws.length-1)=[ws[ws.length-1]'(by lia)]:=by rw[List.drop_eq_getElem_cons (by lia),List.drop_eq_nil_of_le (by lia)]
 rw[dd,pO]at e2;have:=q H2 (s1.trans s2);rw[e2]at this;have e:cw+0=cw:=by lia
 refine⟨_,rfl,?_⟩;show Q (.int cw) H2;rw[<-e];exact this
structure B6(ws:List Int)(one other:Int):Prop where
 h:ws[0]?=some one
 l:ws.getLast?=some other
 n:ws.Nodup
def kg(K:W.Frag):Sp:=λvs H Q _=>∃(wa:Addr)(ws:List Int)(one other:Int),vs=[.ref wa,.int one,.int other]/\ab K H wa (ws.map V.int)/\ws.length<=1000/\∀(b:Bool)(H':Hp),aH H H'->(b=true↔B6 ws one other)->Q (.bl b) H'
theorem rK:aU ["way","one","other"] ["way","one","other"] (aI eE):=ad
set_option maxHeartbeats 1000000 in
theorem rL(F:aN K mg "goes_from_to" eE)(T:Txt K mg t):Def P w K mg base 1 "goes_from_to" ["way","one","other"] (kg K):=by
 refine F.def rK (λ_ _ _ _ _ _=>bv λ_ _ _=>rfl) (λvs H Q E h=>?_) (λf bj A outer s H vs Q E hr h=>?_)
 ·obtain⟨wa,ws,one,other,rfl,_⟩:=h;rfl
 obtain⟨wa,ws,one,other,rfl,hw,wl,q⟩:=h;refine⟨_,aG (aX (nO (ba mq (aT (bL K) (by rfl) T.eT boot_len (aA (pv 0) aE)) aD (aQ _)) (nO (ba bX (aK (aP K) (pv 0) aD (λ_ _=>rfl)) (pv 1) (aQ _)) (nO (ba bX (aK (aP K) (pv 0) (jS eW aD) (λ_ _=>rfl)) (pv 2) (aQ _)) (pX (ba bX (aT (qF P w) (by rfl) T.eT boot_len (aA (bB (jY P w K) (by rfl) T.zA boot_set (aA (pv 0) aE)) aE)) (aT (bL K) (by rfl) T.eT boot_len (aA (pv 0) aE)) (aQ _))))))),?_⟩;have sb:2000<scanBound:=by decide
 refine⟨_,rfl,wa,_,rfl,.inr hw,_,_,rfl,rfl,_,rfl,?_⟩;by_cases c0:(((ws.map V.int).length:Nat):Int)>0
 ·refine bx c0 ?_;rw[length_map]at c0;obtain⟨a,ea⟩:∃a,ws[0]?=some a:=⟨ws[0]'(by lia),by simp[show 0<ws.length by lia]⟩;refine⟨_,rfl,wa,_,_,.int a,rfl,rfl,hw,(by have z:=bG (show(ws.map V.int)[0]?=some (V.int a) by rw[getElem?_map,ea];rfl);exact z),_,rfl,rfl,_,rfl,?_⟩;by_cases c1:a=one
  ·refine bx (congrArg V.int c1) ?_;subst c1;obtain⟨pre,z,rfl⟩:∃pre z,ws=pre++[z]:=⟨ws.dropLast,ws.getLast (by intro e;rw[e]at ea;cases ea),(List.dropLast_concat_getLast _).symm⟩;have la:jh ((pre++[z]).map V.int) (-1)=some (V.int z):=(by rw[map_append];exact oW _ _);refine⟨_,rfl,1,rfl,wa,_,_,.int z,rfl,rfl,hw,la,_,rfl,rfl,_,rfl,?_⟩;by_cases c2:z=other
   ·refine bx (congrArg V.int c2) ?_;subst c2;have hk:ab K H wa (((pre++[z]).map (Sum.inl:Int->Key)).map kV):=(by rw[<-lP];exact hw);refine⟨_,rfl,wa,(pre++[z]).map Sum.inl,rfl,.inr hk,by rw[length_map];lia,λp hp=>?_⟩;have s1:=(aH.refl H).new (o:=gy P w p ((pre++[z]).map (Sum.inl:Int->Key)).reverse) hp;refine⟨p,_,rfl,aC,_,rfl,wa,_,rfl,.inr (s1.tup hw),rfl,?_⟩;refine q _ _ s1 ?_;rw[length_map];have hn:((pre++[z]).map (Sum.inl:Int->Key)).reverse.length=(pre++[z]).length:=(by rw[List.length_reverse,length_map]);rw[decide_eq_true_iff];constructor
    ·intro e;have e:=V.int.inj e;refine⟨ea,by simp,gU.mp (gT.mp ((gs _).mp (by rw[hn];lia)))⟩
    intro g;have:=(gs _).mpr (gT.mpr (gU.mpr g.n));rw[this,hn]
   refine cB (λe=>c2 (V.int.inj e)) (q _ _ (.refl _) ⟨λe=>(by cases e),λg=>?_⟩);have:=g.l;rw[List.getLast?_concat]at this;exact absurd (Option.some.inj this) c2
  refine cB (λe=>c1 (V.int.inj e)) (q _ _ (.refl _) ⟨λe=>(by cases e),λg=>?_⟩);have:=g.h;rw[ea]at this;exact absurd (Option.some.inj this) c1
 refine cB c0 (q _ _ (.refl _) ⟨λe=>(by cases e),λg=>?_⟩);rw[length_map]at c0;have:=(List.getElem?_eq_some_iff.mp g.h).1;lia
theorem qu:∀xs ys:List Int,PyData.eqvAll (xs.map .int) (ys.map .int)=decide (xs=ys)
 |[],[]=>by simp[PyData.eqvAll]
 |[],_::_=>by simp[PyData.eqvAll]
 |_::_,[]=>by simp[PyData.eqvAll]
 |x::xs,y::ys=>by
  have ih:=qu xs ys;simp only[List.map_cons,PyData.eqvAll,ih,PyData.eqv];by_cases c:x=y
  ·subst c;simp
  simp[c]
theorem pQ(xs ys:List Int):PyData.eqv (.list (xs.map .int)) (.list (ys.map .int))=decide (xs=ys):=by rw[PyData.eqv];exact qu xs ys
theorem fU{n:Nat}{a:Addr}{xs:List Int}(h:aV K H a (xs.map V.int)):ar K H (n+1) (.ref a) (.list (xs.map .int)):=by
 refine .lst h (by rw[length_map,length_map]) λi x d e1 e2=>?_;rw[getElem?_map]at e1 e2;cases e:xs[i]? with
 |none=>rw[e]at e1;cases e1
 |some o=>rw[e]at e1 e2;cases e1;cases e2;exact .int _
theorem qM{xs ys:List Int}(h1:xs.Pairwise (·<·))(h2:ys.Pairwise (·<·))(h:∀x,x∈xs↔x∈ys):xs=ys:=by
 have nn:∀{l:List Int},l.Pairwise (·<·)->l.Nodup:=λh=>h.imp λz e=>by lia
 have p:xs.Perm ys:=(List.perm_ext_iff_of_nodup (nn h1) (nn h2)).mpr h;exact List.Perm.eq_of_pairwise (le:=(·<·)) (λa b _ _ x y=>absurd y (by lia)) h1 h2 p
theorem B7{xs:List Int}(h:xs.Pairwise (·<=·))(nd:xs.Nodup):xs.Pairwise (·<·):=(h.and nd).imp λ⟨a,b⟩=>by lia
theorem zP:∀(zs:List (Addr×Int×Int))(acc:Hv),((acc++zs.map (·.2)).map (·.1)).Nodup->(zs.map λz=>((z.1,Sum.inl z.2.1,V.int z.2.2):VI)).foldl Dg (acc.map fS)=(acc++zs.map (·.2)).map fS
 |[],acc,_=>by simp
 |z::zs,acc,nd=>by
  rw[List.map_cons,List.foldl_cons];have e:Dg (acc.map fS) (z.1,Sum.inl z.2.1,V.int z.2.2)=(acc++[z.2]).map fS:=by
   unfold Dg;have hn:z.2.1∉acc.map (·.1):=by rw[List.map_cons,map_append,List.map_cons]at nd;intro hm;exact(List.nodup_append.mp nd).2.2 _ hm _ mem_cons_self rfl
   show lv (acc.map fS) (Sum.inl z.2.1) (.int z.2.2)=_;rw[B3];unfold j0;rw[if_neg hn]
  rw[e,zP zs (acc++[z.2]) (by rw[List.append_assoc];exact nd),List.append_assoc];rfl
structure pR(L:List (Tk×Int))(goal:Int)(ps:Hv):Prop where
 k:∀x,x∈ps.map (·.1)↔∃s,Wk L goal x s
 r:(ps.map (·.1)).Pairwise (·<·)
 g:lk ps goal=some 0
 e:∀b e l,([b,e],l)∈L->∀m n,lk ps b=some m->lk ps e=some n->m-n<=l
theorem Fin.keys{hv:Hv}(f:Fin L goal hv)(x:Int):x∈hv.map (·.1)↔∃s,Wk L goal x s:=by
 constructor
 ·intro h;cases e:lk hv x with
  |none=>exact absurd h (dG.mp e)
  |some n=>exact⟨n,f.wk n.toNat (le_refl _) e⟩
 rintro⟨s,w⟩;obtain⟨n,h,_⟩:=f.le w;exact Classical.byContradiction λz=>by rw[dG.mpr z]at h;cases h
theorem j5{hv:Hv}(h:x∈hv.map (·.1)):∃n,lk hv x=some n:=by
 cases e:lk hv x with
 |none=>exact absurd h (dG.mp e)
 |some n=>exact⟨n,rfl⟩
def kh(K:W.Frag):Sp:=λvs H Q _=>∃(td hl:Addr)(goal:Int)(L:List (Tk×Int))(xs:TX)(ps:Hv),vs=[.ref td,.int goal,.ref hl]/\pH K H td L xs/\vd L/\(∀a b l,([a,b],l)∈L->([b,a],l)∈L)/\L.length<=200/\(∀hv,Ht L goal hv->hv.length<=20)/\hV K H hl ps/\ps.length<=100 /\
 (∀H',aH H H'->pR L goal ps->Q (.bl true) H')/\(∀H',Sx td H H'->¬pR L goal ps->Q (.bl false) H')
theorem fj:aU ["lengths","goal","heights","height_of","begin","end"] ["lengths","goal","heights"] (aI cx):=ad
set_option maxHeartbeats 2000000 in
theorem rN(F:aN K mg "heights_hold" cx)(T:Txt K mg t)(cP:Def P w K mg base 1 "heights_to" ["lengths","goal"] (i6 K)):Def P w K mg base 2 "heights_hold" ["lengths","goal","heights"] (kh K):=by
 refine F.def fj (λ_ _ _ _ _ _=>bv λ_ _ _=>rfl) (λvs H Q E h=>?_) (λf bj A outer s H vs Q E hr h=>?_)
 ·obtain⟨td,hl,goal,L,xs,ps,rfl,_⟩:=h;rfl
 obtain⟨td,hl,goal,L,xs,ps,rfl,hL,Dj,sy,ll,xr,hp,pl,q1,q2⟩:=h;refine⟨_,aF (au (aL (AO K (cu hr)) (gg rfl (Nc:=["house","height"]) (ix:=[none,none]) (bR (aI cx) ["lengths","goal","heights","height_of","begin","end"] rfl rfl (by decide +kernel)) (a9 K (pv 2)) (λC fp s H=>⟨(fH K (i:=0) (j:=1) rfl (show(["house","height"]:List Str).Nodup by decide +kernel) rfl rfl (Or.inl rfl) (Or.inl rfl)),bc,(pv 0)⟩)) (aT (d8 (cu hr)) (by rfl) T.cE boot_sorted (aA (aa (cP.mono (by decide)) hr av (aA (pv 0) (aA (pv 1) aE))) aE)) (aQ _))
   (aG (aX eQ))
   (aZ))
  (aF (aR (i:=3) fj.nd rfl (Or.inl rfl) (bB (Aa K (cu hr)) (by rfl) T.Kw boot_dict (aA (pv 2) aE)))
  (aF (au (aL mm (cC (bO hr) (pv 3) (pv 1) (λ_ _=>rfl)) aD (aQ _))
   (aG (aX eQ))
   (aZ))
  (aF (PS.uI (vQ (bW PassesOwn.never rfl (jX (pv 0)) (fH K (i:=4) (j:=5) rfl fj.nd rfl rfl (Or.inl rfl) (Or.inl rfl))
   (aG (au (PW.pt (jd (nN (sM (bO hr) (pv 4) (pv 3)) (by rfl)) (iU (aL mq (aW lD (cC (bO hr) (pv 3) (pv 4) (λ_ _=>rfl)) (cC (bO hr) (pv 3) (pv 5) (λ_ _=>rfl))) (mS K (cu hr) (pv 0) (ag (aA (pv 4) (aA (pv 5) aE))) (λ_ _=>rfl)) (aQ _)))))
    (aG (aX eQ))
    (aZ))))))
  (aG (aX eQ))))),?_⟩
 have hsz:(20000:Nat)<=sizeLine:=by decide
 obtain⟨zs,z1,z2,z3⟩:=hp.ex;have zl:zs.length=ps.length:=by rw[<-z3,length_map]
 refine⟨_,rfl,hl,rfl,⟨_,aV.of z1⟩,λD hD=>?_⟩;refine dE (K:=K) (a:=hl) (xs:=zs.map λz=>V.ref z.1) (λi σ H'=>∃v0 v1:Option V,σ=[v0,v1]/\aH H H'/\H' D=some (.lst (((ps.take i).map (·.1)).map V.int))) ⟨none,none,rfl,(aH.refl _).new hD,aC⟩ (λi σ H' _ ⟨_,_,_,s,_⟩=>aV.of (s _ _ z1)) ?_ ?_
 ·rintro i y σ H1 N hN hi ⟨v0,v1,rfl,s1,e1⟩;rw[getElem?_map]at hi;cases ez:zs[i]? with
  |none=>rw[ez]at hi;cases hi
  |some z =>
   rw[ez]at hi;cases hi;have il:i<ps.length:=(by rw[<-zl];exact(List.getElem?_eq_some_iff.mp ez).1);have ep:ps[i]?=some z.2:=(by rw[<-z3,getElem?_map,ez];rfl);refine⟨z.1,_,rfl,s1.tup (z2 z (mem_of_getElem? ez)),rfl,_,_,rfl,_,_,rfl,rfl,?_⟩;show if true=true then x6 0 (([v0,v1].set 0 (some (V.int z.2.1))).set 1 (some (V.int z.2.2))) H1 (λv H5=>∃ys,H5 D=some (HO.lst ys)/\ys.length<sizeLine/\N (([v0,v1].set 0 (some (V.int z.2.1))).set 1 (some (V.int z.2.2))) (upd H5 D (HO.lst (ys++[v]))))else N (([v0,v1].set 0 (some (V.int z.2.1))).set 1 (some (V.int z.2.2))) H1;rw[if_pos rfl];refine⟨_,rfl,_,e1,by rw[length_map,length_map,length_take];lia,hN _ _ ⟨_,_,rfl,s1.put hD,?_⟩⟩;rw[aC,take_succ ep,map_append,map_append];rfl
 rintro σ H1 ⟨v0,v1,rfl,s1,e1⟩;rw[length_map,zl,take_length]at e1;refine⟨_,rfl,_,rfl,td,goal,L,xs,rfl,hL.same s1,Dj,by lia,λhd H2 hv s2 VN e2 ht cl=>?_⟩;have fin:Fin L goal hv:=⟨ht,cl,Dj,sy⟩;have f1:=xr hv ht;refine⟨hd,_,hv.map (·.1),rfl,e2,by rw[List.map_map,List.map_map];rfl,by rw[length_map];lia,λys sl Hu xu FE=>?_⟩;have s3:=(aH.refl H2).new (o:=.lst (ys.map V.int)) FE;have e3:(upd H2 sl (.lst (ys.map V.int))) sl=some (.lst (ys.map V.int)):=aC;generalize upd H2 sl (.lst (ys.map V.int))=H3 at s3 e3 ⊢;have S3:=s1.trans (s2.trans s3);have N8:ys.Pairwise (·<·):=B7 xu (Hu.nodup_iff.mpr ht.nd);have N9:∀x,x∈ys↔∃s,Wk L goal x s:=λx=>Hu.mem_iff.trans (fin.keys x);refine⟨.list ((ps.map (·.1)).map .int),.list (ys.map .int),fU (aV.of ((s2.trans s3) _ _ e1)),fU (aV.of e3),_,rfl,?_⟩;rw[if_pos rfl,pQ];have sx:∀{H':Hp},aH H H'->Sx td H H':=λs b o _ e=>s b o e;by_cases ck:ps.map (·.1)=ys
 ·refine fz ck ?_;have LV:(ps.map (·.1)).Pairwise (·<·):=by rw[ck];exact N8
  have Fc:∀x,x∈ps.map (·.1)↔∃s,Wk L goal x s:=by rw[ck];exact N9
  have Q8:(ps.map (·.1)).Nodup:=LV.imp λz e=>by lia
  have fold:=zP zs [] (by rw[List.nil_append,z3];exact Q8);rw[List.nil_append,z3]at fold;refine⟨_,rfl,hl,zs.map λz=>(z.1,Sum.inl z.2.1,V.int z.2.2),rfl,by rw[List.map_map];exact S3 _ _ z1,λq hq=>?_,λho Oz=>?_⟩
  ·obtain⟨z,hz,rfl⟩:=List.mem_map.mp hq;exact S3.tup (z2 z hz)
  have OA:(zs.map λz=>((z.1,Sum.inl z.2.1,V.int z.2.2):VI)).foldl Dg []=ps.map fS:=fold;rw[OA];have s4:=(aH.refl H3).new (o:=.dK (ps.map fS)) Oz;have e4:(upd H3 ho (.dK (ps.map fS))) ho=some (.dK (ps.map fS)):=aC;generalize upd H3 ho (.dK (ps.map fS))=H4 at s4 e4 ⊢;have S4:=S3.trans s4;obtain⟨g,eg⟩:=j5 ((Fc goal).mpr ⟨0,.nil⟩);have gv:∀{H':Hp}{x n:Int},H' ho=some (.dK (ps.map fS))->lk ps x=some n->bh H' ho (.int x) (some (.int n)):=λ{H' x n} e h=>by have:=bh.k (k:=Sum.inl x) e;rw[gD,h]at this;exact this
  refine⟨_,rfl,_,rfl,ho,.int g,rfl,gv e4 eg,rfl,_,rfl,?_⟩;by_cases cg:g=0
  ·refine fz (congrArg V.int cg) ?_;subst cg;have Q9:=S4 _ _ hL.d;refine⟨_,rfl,td,xs,rfl,Q9,λu ou=>?_⟩;have kz:=bN (o:=u) (nC.LF Q9);have LI:xs.length=L.length:=by
    have:=congrArg List.length hL.m
    rwa [length_map,length_map]at this
   have LJ:ho≠td:=kx e4 Q9 (by intro z;cases z);have k5:∀p∈xs,cc K (upd H4 td u) p.2.1 p.1:=λp hp=>((hL.k p hp).same S4).kept kz;have d5:(upd H4 td u) td=some u:=aC;have e5:(upd H4 td u) ho=some (.dK (ps.map fS)):=(by rw[aM LJ];exact e4);have x5:Sx td H (upd H4 td u):=λb o nb e=>(by rw[aM nb];exact S4 b o e);generalize upd H4 td u=H5 at k5 d5 e5 x5 ⊢
   let J:Nat->_->_->Prop:=λi σ H'=>∃v4 v5:Option V,σ=[some (.ref td),some (.int goal),some (.ref hl),some (.ref ho),v4,v5]/\aH H5 H'/\∀e∈L.take i,∀b x,e.1=[b,x]->∀m n,lk ps b=some m->lk ps x=some n->m-n<=e.2
   refine nY (d:=td) (u:=u) (xs:=xs) J ⟨none,none,rfl,.refl _,λe he=>absurd he (by simp)⟩ (λi σ H' _ ⟨_,_,_,s,_⟩=>s _ _ d5) ?_ ?_
   ·rintro i p σ H6 hi ⟨v4,v5,rfl,s6,hJ⟩;obtain⟨ed,ee,Hr,Ol⟩:∃e,L[i]?=some e/\p.1=e.1/\p.2.2=.int e.2:=by
     have:(xs.map λp=>(p.1,p.2.2))[i]?=some (p.1,p.2.2):=(by rw[getElem?_map,hi];rfl);rw[hL.m,getElem?_map]at this;cases ee:L[i]? with
     |none=>rw[ee]at this;cases this
     |some e =>
      rw[ee]at this;obtain⟨z1,z2⟩:=Prod.mk.inj (Option.some.inj this);exact⟨e,rfl,z1.symm,z2.symm⟩
    have DE:=mem_of_getElem? ee;obtain⟨b,y,hk,l1,l2⟩:=Dj.2 ed DE;obtain⟨kk,l⟩:=ed;obtain rfl:kk=[b,y]:=hk;have pk:=(k5 p (mem_of_getElem? hi)).same s6;rw[Hr]at pk;rcases pk.ex.symm with⟨_,_,_,_,_,z,_⟩|⟨_,_,z,g1⟩
    ·simp at z
    simp only[List.cons.injEq,and_true]at z;obtain⟨rfl,rfl⟩:=z;have go:∀{H7:Hp},aH H6 H7->(∀m n,lk ps b=some m->lk ps y=some n->m-n<=l)->J (i+1) [some (.ref td),some (.int goal),some (.ref hl),some (.ref ho),some (.int b),some (.int y)] H7:=λ{H7} s7 h=>by
     refine⟨_,_,rfl,s6.trans s7,λe he=>?_⟩;rw[take_succ ee]at he;rcases mem_append.mp he with he|he
     ·exact hJ e he
     rw[mem_singleton.mp he];intro b' y' e';simp only[List.cons.injEq,and_true]at e';obtain⟨rfl,rfl⟩:=e';exact h
    refine⟨p.2.1,_,rfl,g1,rfl,_,_,rfl,_,_,rfl,rfl,?_⟩;have e6:=s6 _ _ e5;refine⟨_,rfl,_,rfl,ho,_,rfl,bh.k (k:=Sum.inl b) e6,?_⟩;rw[gD];cases eb:lk ps b with
    |none =>
     refine⟨false,rfl,gf ?_⟩;exact go (.refl _) λm n h=>by rw[eb]at h;cases h
    |some m =>
     obtain⟨s,ws⟩:=(Fc b).mp (Classical.byContradiction λz=>by rw[dG.mpr z]at eb;cases eb);obtain⟨n,en⟩:=j5 ((Fc y).mpr ⟨_,.cons (sy _ _ _ DE) ws⟩);refine⟨true,rfl,eO ?_⟩;refine⟨_,rfl,_,rfl,ho,.int m,rfl,gv e6 eb,_,rfl,_,rfl,ho,.int n,rfl,gv e6 en,_,_,rfl,rfl,?_⟩;refine⟨_,rfl,_,rfl,_,rfl,zz2,λkt LH=>?_⟩;have s7:=(aH.refl H6).new (o:=.tup [.int b,.int y]) LH;have tk:cc K (upd H6 kt (.tup [.int b,.int y])) kt [b,y]:=⟨.inl ⟨_,_,rfl,ab.of aC⟩⟩;generalize upd H6 kt (.tup [.int b,.int y])=H7 at s7 tk ⊢;have vt:iy xs [b,y]=some (.int l):=by rw[qK hL.m,(cS Dj.1).mpr DE];rfl
     refine⟨td,kt,xs,[b,y],.int l,rfl,rfl,⟨.inr ⟨u,(s6.trans s7) _ _ d5,ou⟩,λp hp=>(k5 p hp).same (s6.trans s7)⟩,tk,vt,_,_,rfl,rfl,_,rfl,?_⟩;by_cases c:m-n>l
     ·refine bx c ?_;refine q2 _ (λb o nb e=>(s6.trans s7) b o (x5 b o nb e)) λh=>?_;have:=h.e b y l DE m n eb en;lia
     refine cB c (go s7 λm' n' h1 h2=>?_);rw[eb]at h1;rw[en]at h2;cases h1;cases h2;lia
   rintro σ H6 ⟨v4,v5,rfl,s6,hJ⟩;rw[LI,take_length]at hJ;refine⟨td,xs,u,ou,s6 _ _ d5,?_⟩;refine q1 _ (λb o e=>?_) ⟨Fc,LV,eg,λb e l he m n h1 h2=>hJ _ he b e rfl m n h1 h2⟩;by_cases nb:b=td
   ·subst nb;rw[aC];rw[hL.d]at e;exact e
   rw[aM nb];exact s6 b o (x5 b o nb e)
  refine gh (λz=>cg (V.int.inj z)) ?_;refine q2 H4 (sx S4) λh=>?_;have:=h.g;rw[eg]at this;exact cg (Option.some.inj this)
 refine gh ck ?_;exact q2 H3 (sx S3) λh=>ck (qM h.r N8 λx=>(h.k x).trans (N9 x).symm)
def qx(L:List (Tk×Int))(one other:Int)(ws:List Int)(ps:Hv):Prop:=B6 ws one other/\pR L other ps/\∃cw,fg L ws=some cw/\(one,cw)∈ps
def pS(K:W.Frag):Sp:=λvs H Q _=>∃(td wa hl:Addr)(one other:Int)(L:List (Tk×Int))(xs:TX)(ws:List Int)(ps:Hv),vs=[.ref td,.int one,.int other,.ref wa,.ref hl]/\pH K H td L xs/\vd L/\(∀a b l,([a,b],l)∈L->([b,a],l)∈L)/\L.length<=200/\(∀hv,Ht L other hv->hv.length<=20)/\ab K H wa (ws.map V.int)/\ws.length<=1000/\hV K H hl ps/\ps.length<=100 /\
 ∀(b:Bool)(H':Hp),Sx td H H'->(b=true↔qx L one other ws ps)->Q (.bl b) H'
theorem pT:aU ["lengths","one","other","way","heights","total"] ["lengths","one","other","way","heights"] (aI iY):=ad
set_option maxHeartbeats 1000000 in
theorem xW(F:aN K mg "way_holds" iY)(T:Txt K mg t)(h9:Def P w K mg base 1 "goes_from_to" ["way","one","other"] (kg K))(iA:Def P w K mg base 2 "heights_hold" ["lengths","goal","heights"] (kh K))(j6:Def P w K mg base 1 "way_length" ["lengths","way"] (nI K)):Def P w K mg base 3 "way_holds" ["lengths","one","other","way","heights"] (pS K):=by
 refine F.def pT (λ_ _ _ _ _ _=>cr λ_ _ _ _ _=>rfl) (λvs H Q E h=>?_) (λf bj A outer s H vs Q E hr h=>?_)
 ·obtain⟨td,wa,hl,one,other,L,xs,ws,ps,rfl,_⟩:=h;rfl
 obtain⟨td,wa,hl,one,other,L,xs,ws,ps,rfl,hL,Dj,sy,ll,xr,hw,wl,hp,pl,q⟩:=h;refine⟨_,aF (au (PW.pt (kY (k9 (ij (aa (h9.mono (by decide)) hr av (aA (pv 3) (aA (pv 1) (aA (pv 2) aE)))))) (ky (k9 (ij (aa (iA.mono (by decide)) hr av (aA (pv 0) (aA (pv 2) (aA (pv 4) aE)))))))))
   (aG (aX eQ))
   (aZ))
  (aF (aR (i:=5) pT.nd rfl (Or.inl rfl) (aa (j6.mono (by decide)) hr av (aA (pv 0) (aA (pv 3) aE))))
  (aG (aX (nO (ba BR (pv 5) pV (aQ _)) (pX (ba (EZ K (cu hr)) (ag (aA (pv 1) (aA (pv 5) aE))) (pv 4) (by rfl))))))),?_⟩
 have hsz:(20000:Nat)<=sizeLine:=by decide
 have sx:∀{H':Hp},aH H H'->Sx td H H':=λs b o _ e=>s b o e;refine⟨_,rfl,_,rfl,_,rfl,wa,ws,one,other,rfl,hw,wl,λb1 H1 s1 i1=>?_⟩;refine⟨b1,rfl,?_⟩;by_cases c1:B6 ws one other
 ·obtain rfl:=i1.mpr c1;refine(show if(!true)=true then _ else _ from gf ?_);refine⟨_,rfl,_,rfl,_,rfl,td,hl,other,L,xs,ps,rfl,hL.same s1,Dj,sy,ll,xr,hp.same s1,pl,λH2 s2 hh=>?_,λH2 s2 nh=>?_⟩
  ·refine⟨true,rfl,?_⟩;refine(show if(!true)=true then _ else _ from gf ?_);have S2:=s1.trans s2;have w1:1<=ws.length:=(by have:=(List.getElem?_eq_some_iff.mp c1.h).1;lia);refine⟨_,rfl,_,rfl,td,wa,L,xs,ws,rfl,hL.same S2,S2.tup hw,w1,wl,λH3 s3=>?_⟩;have S3:=S2.trans s3;refine⟨_,rfl,?_⟩;cases el:fg L ws with
   |none =>
    refine⟨rfl,_,rfl,gf ?_⟩;refine q false H3 (sx S3) ⟨λz=>(by cases z),λ⟨_,_,cw,z,_⟩=>?_⟩;rw[el]at z;cases z
   |some cw =>
    refine⟨rfl,_,rfl,eO ?_⟩;refine⟨_,rfl,_,rfl,zz2,λtp mx=>?_⟩;have s4:=(aH.refl H3).new (o:=.tup [.int one,oV (some cw)]) mx;obtain⟨zs,z1,z2,z3⟩:=hp.ex;have S4:=S3.trans s4;have e4:ab K (upd H3 tp (.tup [.int one,oV (some cw)])) tp ([some one,some cw].map ent):=ab.of aC;generalize upd H3 tp (.tup [.int one,oV (some cw)])=H4 at s4 S4 e4 ⊢;have tb:zs.map (λz=>V.ref z.1)=uO zs.length λj=>((zs[j]?).map (·.1)).getD 0:=by refine List.ext_getElem (by simp[uO,wM]) λi i1 i2=>?_;have:i<zs.length:=(by simpa using i1);simp[uO,wM,this]
    refine⟨_,rfl,tp,hl,[some one,some cw],zs.length,λj=>((zs[j]?).map (·.1)).getD 0,λj=>(zs[j]?.map λz=>[some z.2.1,some z.2.2]).getD [],rfl,rfl,e4,by rw[<-tb];exact aV.of (S4 _ _ z1),λj hj=>?_,?_⟩
    ·have:zs[j]?=some zs[j]:=(by simp[hj]);simp only[this,Option.map_some,Option.getD_some];exact S4.tup (z2 _ (List.getElem_mem hj))
    rw[if_neg (by decide)];refine q _ H4 (sx S4) ?_;rw[List.any_eq_true];constructor
    ·rintro⟨j,hj,ej⟩;have hj:=List.mem_range.mp hj;have ez:zs[j]?=some zs[j]:=(by simp[hj]);simp only[ez,Option.map_some,Option.getD_some,decide_eq_true_eq,List.cons.injEq,and_true,Option.some.injEq]at ej;refine⟨c1,hh,cw,el,?_⟩;rw[<-z3];exact List.mem_map.mpr ⟨zs[j],List.getElem_mem hj,Prod.ext ej.1 ej.2⟩
    rintro⟨_,_,RA,e',hm⟩;rw[el]at e';cases e';rw[<-z3]at hm;obtain⟨z,hz,ez⟩:=List.mem_map.mp hm;obtain⟨j,hj,rfl⟩:=List.getElem_of_mem hz;refine⟨j,List.mem_range.mpr hj,?_⟩;have e0:zs[j]?=some zs[j]:=(by simp[hj]);simp[e0,ez]
  refine⟨false,rfl,?_⟩;refine(show if(!false)=true then _ else _ from eO ?_);exact q false H2 (λb o nb e=>s2 b o nb (s1 b o e)) ⟨λz=>(by cases z),λh=>absurd h.2.1 nh⟩
 obtain rfl:b1=false:=by
  cases b1 with
  |false=>rfl
  |true=>exact absurd (i1.mp rfl) c1
 refine(show if(!false)=true then _ else _ from eO ?_);exact q false H1 (sx s1) ⟨λz=>(by cases z),λh=>absurd h.1 c1⟩
structure DK(ns:List Int):Prop where
 r:ns.Pairwise (·<·)
 h:∀n∈ns,0<=n/\n<32
def fV(K:W.Frag):Sp:=λvs H Q _=>∃(a:Addr)(ns:List Int),vs=[.ref a]/\ab K H a (ns.map V.int)/\ns.length<64/\∀(b:Bool)(H':Hp),aH H H'->(b=true↔DK ns)->Q (.bl b) H'
theorem lg:aU ["numbers"] ["numbers"] (aI bQ):=ad
set_option maxHeartbeats 1000000 in
theorem lh(F:aN K mg "are_rising_houses" bQ)(T:Txt K mg t)(eZ:Def P w K mg base 1 "is_house" ["number"] lN):Def P w K mg base 2 "are_rising_houses" ["numbers"] (fV K):=by
 refine F.def lg (λ_ _ _ _ _ _=>bm λ_=>rfl) (λvs H Q E h=>?_) (λf bj A outer s H vs Q E hr h=>?_)
 ·obtain⟨a,ns,rfl,_⟩:=h;rfl
 obtain⟨a,ns,rfl,ha,nl,q⟩:=h;refine⟨_,aG (aX (nO (ba (wW K (cu hr)) (bB (gn K) (by rfl) T.tF boot_list (aA (pv 0) aE)) (aT (o5 P w (cu hr)) (by rfl) T.cE boot_sorted (aA (bB (jY P w K) (by rfl) T.zA boot_set (aA (pv 0) aE)) aE)) (aQ _)) (pX (aT (Cd K rfl) (by rfl) T.Ng boot_all (aA (gg rfl (Nc:=["number"]) (ix:=[none]) (bR (aI bQ) ["numbers"] rfl rfl (by decide +kernel)) (oa K (pv 0)) (λC fp s H=>⟨(aO (i:=0) (show(["number"]:List Str).Nodup by decide +kernel) rfl (Or.inl rfl)),bc,(aa (eZ.mono (by decide)) hr av (aA (pv 0) aE))⟩)) aE))))),?_⟩;have hsz:(20000:Nat)<=sizeLine:=by decide
 have sb:2000<scanBound:=by decide
 refine⟨_,rfl,a,_,rfl,.inr ha,λl1 GA=>?_⟩;have s1:=(aH.refl H).new (o:=.lst (ns.map V.int)) GA;have e1:(upd H l1 (.lst (ns.map V.int))) l1=some (.lst (ns.map V.int)):=aC;generalize upd H l1 (.lst (ns.map V.int))=H1 at s1 e1 ⊢;have hk:ab K H1 a ((ns.map (Sum.inl:Int->Key)).map kV):=by rw[<-lP];exact s1.tup ha
 refine⟨_,rfl,a,ns.map Sum.inl,rfl,.inr hk,by rw[length_map];lia,λp hp=>?_⟩;have s2:=(aH.refl H1).new (o:=gy P w p (ns.map (Sum.inl:Int->Key)).reverse) hp;have e2:(upd H1 p (gy P w p (ns.map (Sum.inl:Int->Key)).reverse)) p=some (gy P w p (ns.map (Sum.inl:Int->Key)).reverse):=aC;generalize upd H1 p (gy P w p (ns.map (Sum.inl:Int->Key)).reverse)=H2 at s2 e2 ⊢;refine⟨p,ns,rfl,e2,by have:=sW (ns.map Sum.inl).reverse;rw[List.length_reverse,length_map]at this;lia,λys r ry my uR=>?_⟩;have s3:=(aH.refl H2).new (o:=.lst (ys.map V.int)) uR;have e3:(upd H2 r (.lst (ys.map V.int))) r=some (.lst (ys.map V.int)):=aC;generalize upd H2 r (.lst (ys.map V.int))=H3 at s3 e3 ⊢;have S3:=s1.trans (s2.trans s3);refine⟨.list (ns.map .int),.list (ys.map .int),fU (aV.of ((s2.trans s3) _ _ e1)),fU (aV.of e3),_,rfl,?_⟩;have ee:(if false=true then !PyData.eqv (.list (ns.map .int)) (.list (ys.map .int))else PyData.eqv (.list (ns.map .int)) (.list (ys.map .int)))=decide (ns=ys):=by rw[if_neg (by decide),pQ]
 rw[ee];by_cases c:ns=ys
 ·refine bx c ?_;refine⟨_,rfl,a,rfl,⟨_,S3.tup ha⟩,λD hD=>?_⟩;refine AJ (K:=K) (a:=a) (xs:=ns.map V.int) (λi σ H'=>∃v:Option V,σ=[v]/\aH H3 H'/\H' D=some (.lst (((ns.take i).map λn=>decide (0<=n/\n<32)).map V.bl))) ⟨none,rfl,(aH.refl _).new hD,aC⟩ (λi σ H' _ ⟨_,_,s,_⟩=>(S3.trans s).tup ha) ?_ ?_
  ·rintro i y σ H4 N hN hi ⟨v,rfl,s4,e4⟩;obtain⟨n,en,rfl⟩:=gF hi;have il:i<ns.length:=(List.getElem?_eq_some_iff.mp en).1;refine cO ?_;refine⟨_,rfl,n,rfl,_,e4,by rw[length_map,length_map,length_take];lia,hN _ _ ⟨_,rfl,s4.put hD,?_⟩⟩;rw[aC,take_succ en,map_append,map_append];rfl
  rintro σ H4 ⟨v,rfl,s4,e4⟩;rw[length_map,take_length]at e4;refine⟨D,_,rfl,aV.of e4,q _ H4 (S3.trans s4) ?_⟩;rw[List.all_eq_true];constructor
  ·intro h;refine⟨by rw[c];exact ry,λn hn=>?_⟩;have:=h _ (List.mem_map.mpr ⟨n,hn,rfl⟩)
   simpa using this
  rintro⟨_,h⟩ b hb;obtain⟨n,hn,rfl⟩:=List.mem_map.mp hb
  simpa using h n hn
 refine cB c (q false H3 S3 ⟨λz=>(by cases z),λz=>absurd (qM z.r ry λx=>(my x).symm) c⟩)
structure pU(L:List (Tk×Int))(one other:Int)(ns:List Int):Prop where
 r:DK ns
 o:one∈ns
 t:other∉ns
 e:∀a b l,([a,b],l)∈L->a∈ns->b∈ns
def nJ(K:W.Frag):Sp:=λvs H Q _=>∃(td sd:Addr)(one other:Int)(L:List (Tk×Int))(xs:TX)(ns:List Int),vs=[.ref td,.int one,.int other,.ref sd]/\pH K H td L xs/\vd L/\L.length<=1000/\ab K H sd (ns.map V.int)/\ns.length<64/\∀(b:Bool)(H':Hp),aH H H'->(b=true↔pU L one other ns)->Q (.bl b) H'
theorem uu:aU ["lengths","one","other","side"] ["lengths","one","other","side"] (aI eF):=ad
set_option maxHeartbeats 1000000 in
theorem uv(F:aN K mg "side_holds" eF)(T:Txt K mg t)(dJ:Def P w K mg base 2 "are_rising_houses" ["numbers"] (fV K)):Def P w K mg base 3 "side_holds" ["lengths","one","other","side"] (nJ K):=by
 refine F.def uu (λ_ _ _ _ _ _=>ce λ_ _ _ _=>rfl) (λvs H Q E h=>?_) (λf bj A outer s H vs Q E hr h=>?_)
 ·obtain⟨td,sd,one,other,L,xs,ns,rfl,_⟩:=h;rfl
 obtain⟨td,sd,one,other,L,xs,ns,rfl,hL,Dj,ll,hs,nl,q⟩:=h;refine⟨_,aF (au (PW.pt (kY (k9 (ij (aa (dJ.mono (by decide)) hr av (aA (pv 3) aE)))) (kY (aL (fI K) (pv 1) (pv 3) (by rfl)) (ky (aL (gu K) (pv 2) (pv 3) (by rfl))))))
   (aG (aX eQ))
   (aZ))
  (aG (aX (Jo (aT (Ce K rfl) (by rfl) T.Nh boot_any (aA (vR (gg rfl (Nc:=["begin","end","side"]) (ix:=[none,none,some 3]) (bR (aI eF) ["lengths","one","other","side"] rfl rfl (by decide +kernel)) (jX (pv 0)) (λC fp s H=>⟨(fH K (i:=0) (j:=1) rfl (show(["begin","end","side"]:List Str).Nodup by decide +kernel) rfl rfl (Or.inl rfl) (Or.inl rfl)),bc,(nO (ba (gu K) (pv 0) (pv 2) (by rfl)) (pX (ba (fI K) (pv 1) (pv 2) (by rfl))))⟩))) aE))))),?_⟩
 have hsz:(20000:Nat)<=sizeLine:=by decide
 refine⟨_,rfl,sd,ns,rfl,hs,nl,λb1 H1 s1 i1=>⟨b1,rfl,?_⟩⟩;have no:∀{H':Hp},aH H H'->¬pU L one other ns->Q (.bl false) H':=λs h=>q false _ s ⟨λz=>(by cases z),λz=>absurd z h⟩;cases b1 with
 |false =>
  refine(show if(!false)=true then _ else _ from eO ?_);exact no s1 λz=>by have:=i1.mpr z.r;cases this
 |true =>
  refine(show if(!true)=true then _ else _ from gf ?_);have As:=s1.tup hs;refine⟨_,rfl,_,rfl,sd,_,rfl,.inr As,rfl,cX _,_,rfl,?_⟩;refine(show if(!CV (.int one) (ns.map V.int))=true then _ else _ from ?_);rw[dP];by_cases c1:one∈ns
  ·refine fz c1 ?_;refine⟨_,rfl,_,rfl,sd,_,rfl,.inr As,rfl,cX _,_,rfl,?_⟩;refine(show if(CV (.int other) (ns.map V.int))=true then _ else _ from ?_);rw[dP];by_cases c2:other∈ns
   ·exact bx c2 (no s1 λz=>z.t c2)
   refine cB c2 ?_;have O0:=hL.same s1;have LI:xs.length=L.length:=by
    have:=congrArg List.length hL.m
    rwa [length_map,length_map]at this
   refine⟨_,rfl,td,xs,rfl,O0.d,λu ou D hD=>?_⟩;have kz:=bN (o:=u) (nC.LF O0.d);have d2:(upd H1 td u) td=some u:=aC;have k2:∀p∈xs,cc K (upd H1 td u) p.2.1 p.1:=λp hp=>(O0.k p hp).kept kz;have vx:ab K (upd H1 td u) sd (ns.map V.int):=kz.tup As;have th:∀{H5:Hp},aH (upd H1 td u) H5->aH H1 (upd H5 td (iT td xs)):=λs=>by
    intro b o e;by_cases c:b=td
    ·subst c;rw[aC,<-O0.d,e]
    rw[aM c];exact s b o (by rw[aM c];exact e)
   generalize upd H1 td u=H2 at d2 k2 vx th hD ⊢;refine vS (d:=td) (u:=u) (xs:=xs) (λi σ H'=>∃v0 v1:Option V,σ=[v0,v1,some (.ref sd)]/\aH H2 H'/\H' D=some (.lst (((L.take i).map λe=>decide (e.1.headD 0∈ns/\e.1.getD 1 0∉ns)).map V.bl))) ⟨none,none,rfl,(aH.refl _).new hD,aC⟩ (λi σ H' _ ⟨_,_,_,s,_⟩=>s _ _ d2) ?_ ?_
   ·rintro i p σ H4 N hN hi ⟨v0,v1,rfl,s4,e4⟩;obtain⟨ed,ee,Hr,Ol⟩:∃e,L[i]?=some e/\p.1=e.1/\p.2.2=.int e.2:=by
     have:(xs.map λp=>(p.1,p.2.2))[i]?=some (p.1,p.2.2):=(by rw[getElem?_map,hi];rfl);rw[hL.m,getElem?_map]at this;cases ee:L[i]? with
     |none=>rw[ee]at this;cases this
     |some e =>
      rw[ee]at this;obtain⟨z1,z2⟩:=Prod.mk.inj (Option.some.inj this);exact⟨e,rfl,z1.symm,z2.symm⟩
    have il:i<L.length:=(List.getElem?_eq_some_iff.mp ee).1;obtain⟨b,y,hk,l1,l2⟩:=Dj.2 ed (mem_of_getElem? ee);obtain⟨kk,l⟩:=ed;obtain rfl:kk=[b,y]:=hk;have pk:=(k2 p (mem_of_getElem? hi)).same s4;rw[Hr]at pk;rcases pk.ex.symm with⟨_,_,_,_,_,z,_⟩|⟨_,_,z,g1⟩
    ·simp at z
    simp only[List.cons.injEq,and_true]at z;obtain⟨rfl,rfl⟩:=z;have Sn:=s4.tup vx;have add:∀{v:Bool},v=decide (b∈ns/\y∉ns)->∃zs,H4 D=some (.lst zs)/\zs.length<sizeLine/\N [some (.int b),some (.int y),some (.ref sd)] (upd H4 D (.lst (zs++[V.bl v]))):=λ{v} hv=>by refine⟨_,e4,by rw[length_map,length_map,length_take];lia,hN _ _ ⟨_,_,rfl,s4.put hD,?_⟩⟩;rw[aC,take_succ ee,map_append,map_append,hv];rfl
    refine⟨p.2.1,_,rfl,g1,rfl,_,_,rfl,_,_,rfl,rfl,?_⟩;show if true=true then Iv (Jy (Lj K false) (x6 0) (x6 2)) (Jy (Lj K true) (x6 1) (x6 2)) (([v0,v1,some (V.ref sd)].set 0 (some (V.int b))).set 1 (some (V.int y))) H4 (λv H5=>∃ys,H5 D=some (HO.lst ys)/\ys.length<sizeLine/\N (([v0,v1,some (V.ref sd)].set 0 (some (V.int b))).set 1 (some (V.int y))) (upd H5 D (HO.lst (ys++[v]))))else N (([v0,v1,some (V.ref sd)].set 0 (some (V.int b))).set 1 (some (V.int y))) H4;rw[if_pos rfl];refine⟨_,rfl,_,rfl,sd,_,rfl,.inr Sn,rfl,cX _,_,rfl,?_⟩;refine(show if(CV (.int b) (ns.map V.int))=true then _ else _ from ?_);rw[dP];by_cases cb:b∈ns
    ·refine bx cb ?_;refine⟨_,rfl,_,rfl,sd,_,rfl,.inr Sn,rfl,cX _,?_⟩;refine add ?_;rw[if_pos rfl,dP];simp[cb]
    exact cB cb (add (by simp[cb]))
   rintro σ H4 ⟨v0,v1,rfl,s4,e4⟩;rw[LI,take_length]at e4;refine⟨td,xs,u,ou,s4 _ _ d2,?_⟩;have S5:=th s4;have Vk:D≠td:=(aq d2 hD).symm;have e5:(upd H4 td (iT td xs)) D=some (.lst ((L.map λe=>decide (e.1.headD 0∈ns/\e.1.getD 1 0∉ns)).map V.bl)):=(by rw[aM Vk];exact e4);generalize upd H4 td (iT td xs)=H5 at S5 e5 ⊢;refine⟨D,_,rfl,aV.of e5,_,rfl,?_⟩;refine q _ H5 (s1.trans S5) ?_;rw[Bool.not_eq_true',List.any_eq_false];constructor
   ·intro h;refine⟨i1.mp rfl,c1,c2,λa b l he ha=>?_⟩;have:=h _ (List.mem_map.mpr ⟨_,he,rfl⟩);refine Classical.byContradiction λhb=>this ?_;show decide (a∈ns/\b∉ns)=true;exact decide_eq_true ⟨ha,hb⟩
   intro h b hb;obtain⟨e,he,rfl⟩:=List.mem_map.mp hb;obtain⟨a,c,hk,_⟩:=Dj.2 e he;obtain⟨kk,l⟩:=e;obtain rfl:kk=[a,c]:=hk;intro z;have z:decide (a∈ns/\c∉ns)=true:=z;have z:=of_decide_eq_true z;exact z.2 (h.e a c l he z.1)
  exact gh c1 (no s1 λz=>c1 z.o)
def i9(K:W.Frag)(C:Addr):Sp:=λvs H Q _=>∃(x d an:Addr)(one other:Int)(ms:Ms),vs=[.ref x,.int one,.int other,.ref an]/\i3 K C H x d ms/\ms.length<=12/\lT ms/\uh ms /\
 ((∃(wa hl:Addr)(ws:List Int)(ps:Hv),ab K H an [.str "way",.ref wa,.ref hl]/\ab K H wa (ws.map V.int)/\ws.length<=1000/\hV K H hl ps/\ps.length<=100 /\
  ∀(b:Bool)(H':Hp)(ts:List T3),aH H H'->(∀t,t∈ts↔b9 ms t)->vZ ts->(b=true↔qx (bo ts) one other ws ps)->Q (.bl b) H') \/
  (∃(sd:Addr)(ns:List Int),ab K H an [.str "side",.ref sd]/\ab K H sd (ns.map V.int)/\ns.length<64 /\
  ∀(b:Bool)(H':Hp)(ts:List T3),aH H H'->(∀t,t∈ts↔b9 ms t)->vZ ts->(b=true↔pU (bo ts) one other ns)->Q (.bl b) H'))
theorem nK:aU ["chart","one","other","answer","lengths"] ["chart","one","other","answer"] (aI gJ):=ad
set_option maxHeartbeats 1000000 in
theorem uw(F:aN K mg "way_judged" gJ)(T:Txt K mg t)(dH:Def P w K mg base 3 "lengths_of" ["chart"] (i4 K t.Map))(lj:Def P w K mg base 3 "way_holds" ["lengths","one","other","way","heights"] (pS K))(j7:Def P w K mg base 3 "side_holds" ["lengths","one","other","side"] (nJ K)):Def P w K mg base 4 "way_judged" ["chart","one","other","answer"] (i9 K t.Map):=by
 refine F.def nK (λ_ _ _ _ _ _=>ce λ_ _ _ _=>rfl) (λvs H Q E h=>?_) (λf bj A outer s H vs Q E hr h=>?_)
 ·obtain⟨x,d,an,one,other,ms,rfl,_⟩:=h;rfl
 obtain⟨x,d,an,one,other,ms,rfl,hM,ml,xR,hq,h⟩:=h;refine⟨_,aF (aR (i:=4) nK.nd rfl (Or.inl rfl) (aa (dH.mono (by decide)) hr av (aA (pv 0) aE)))
  (aF (au (aL bX (aK (aP K) (pv 3) aD (λ_ _=>rfl)) gZ (aQ _))
   (aG (aX (aa (lj.mono (by decide)) hr av (aA (pv 4) (aA (pv 1) (aA (pv 2) (aA (aK (aP K) (pv 3) aD (λ_ _=>rfl)) (aA (aK (aP K) (pv 3) aD (λ_ _=>rfl)) aE))))))))
   (aZ))
  (aG (aX (nO (ba bX (aK (aP K) (pv 3) aD (λ_ _=>rfl)) gZ (aQ _)) (pX (aa (j7.mono (by decide)) hr av (aA (pv 4) (aA (pv 1) (aA (pv 2) (aA (aK (aP K) (pv 3) aD (λ_ _=>rfl)) aE)))))))))),?_⟩
 refine⟨_,rfl,x,d,ms,rfl,hM,ml,xR,λtd H1 ts xs s1 SW hL hm zJ tl=>?_⟩;have el:(bo ts).length<=200:=by rw[xN];lia
 rcases h with⟨wa,hl,ws,ps,ha,hw,wl,hp,pl,q⟩|⟨sd,ns,ha,hs,nl,q⟩
 ·have a1:=s1.tup ha;refine⟨_,rfl,an,_,_,.str "way",rfl,rfl,a1,rfl,rfl,_,rfl,?_⟩;refine bx (p:=V.str "way"=V.str "way") rfl ?_;refine⟨_,rfl,_,rfl,_,rfl,_,rfl,an,_,_,.ref wa,rfl,rfl,a1,rfl,_,rfl,an,_,_,.ref hl,rfl,rfl,a1,rfl,?_⟩;refine⟨td,wa,hl,one,other,bo ts,xs,ws,ps,rfl,hL,(lU hq hm zJ).1,(lU hq hm zJ).2,el,λhv ht=>by have:=ht.xr hm;lia,s1.tup hw,wl,hp.same s1,pl,λb H2 s2 hb=>?_⟩;exact q b H2 ts (λc o e=>s2 c o (λz=>by rw[z,SW]at e;cases e) (s1 c o e)) hm zJ hb
 have a1:=s1.tup ha;refine⟨_,rfl,an,_,_,.str "side",rfl,rfl,a1,rfl,rfl,_,rfl,?_⟩;refine cB (p:=V.str "side"=V.str "way") (by decide +kernel) ?_;refine⟨_,rfl,an,_,_,.str "side",rfl,rfl,a1,rfl,rfl,_,rfl,?_⟩;refine bx (p:=V.str "side"=V.str "side") rfl ?_;refine⟨_,rfl,_,rfl,_,rfl,_,rfl,an,_,_,.ref sd,rfl,rfl,a1,rfl,?_⟩;exact⟨td,sd,one,other,bo ts,xs,ns,rfl,hL,(lU hq hm zJ).1,by lia,s1.tup hs,nl,λb H2 s2 hb=>q b H2 ts (s1.trans s2) hm zJ hb⟩
def zh(t:T3):List (Int×Int):=[(t.1,t.2.1),(t.2.1,t.1)]
def dM(ts:List T3):List (Int×Int):=ts.flatMap zh
def kj(ts:List T3)(goal:Int):Nat->List Int->List (List Int)
 |0,_=>[]
 |n+1,way=>if way.getLast?=some goal then[way]else(dM ts).flatMap λp=>if way.getLast?=some p.1/\p.2∉way then kj ts goal n (way++[p.2])else[]
def cT(ts:List T3)(goal:Int)(n:Nat)(way:List Int)(p:Int×Int):List (List Int):=if way.getLast?=some p.1/\p.2∉way then kj ts goal n (way++[p.2])else[]
theorem iB(ts:List T3)(goal:Int)(n:Nat)(way:List Int):kj ts goal (n+1) way=if way.getLast?=some goal then[way]else(dM ts).flatMap (cT ts goal n way):=by rw[kj];rfl
structure Wy(ts:List T3)(rX:List Int)(n:Nat)(ws:List Int):Prop where
 ne:ws≠[]
 nd:ws.Nodup
 mem:∀x∈ws,x∈rX
 en:∀t∈ts,t.1∈rX/\t.2.1∈rX
 l:ws.length+n=rX.length
theorem Wy.pos{ts:List T3}{n:Nat}(h:Wy ts rX n ws){y:Int}(hy:y∈rX)(ny:y∉ws):1<=n:=by
 have:=dS rX (ws++[y]) (List.nodup_append.mpr ⟨h.nd,by simp,λa ha b hb=>by rw[mem_singleton.mp hb];rintro rfl;exact ny ha⟩) λx hx=>by
  rcases mem_append.mp hx with z|z
  ·exact h.mem x z
  rw[mem_singleton.mp z];exact hy
 rw[length_append]at this;have e:[y].length=1:=rfl;have:=h.l;lia
theorem lq{ts:List T3}:p∈dM ts↔∃t∈ts,p=(t.1,t.2.1)\/p=(t.2.1,t.1):=by unfold dM zh;rw[List.mem_flatMap];simp only[mem_cons,not_mem_nil,or_false]
theorem Wy.next{ts:List T3}{n:Nat}(h:Wy ts rX (n+1) ws)(hp:p∈dM ts)(ny:p.2∉ws):Wy ts rX n (ws++[p.2]):=by
 have hy:p.2∈rX:=by
  obtain⟨t,ht,z⟩:=lq.mp hp;obtain⟨h1,h2⟩:=h.en t ht;rcases z with rfl|rfl
  ·exact h2
  exact h1
 refine⟨by simp,List.nodup_append.mpr ⟨h.nd,by simp,λa ha b hb=>by rw[mem_singleton.mp hb];rintro rfl;exact ny ha⟩,λx hx=>?_,h.en,by rw[length_append];have:=h.l;show ws.length+1+n=_;lia⟩;rcases mem_append.mp hx with z|z
 ·exact h.mem x z
 rw[mem_singleton.mp z];exact hy
theorem vZ.LW{ts:List T3}(h:vZ ts):(dM ts).Nodup:=by
 unfold dM List.Nodup;rw[List.pairwise_flatMap];constructor
 ·intro t ht;have:=h.lt t ht;unfold zh;simp only[List.pairwise_cons,mem_singleton,not_mem_nil,false_implies,implies_true,List.Pairwise.nil,and_true,forall_eq];intro e;have:=(Prod.mk.inj e).1;lia
 refine h.pw.imp_of_mem λ{s t} hs ht ne x hx y hy e=>ne ?_;have l1:=h.lt s hs;have l2:=h.lt t ht;unfold zh at hx hy;simp only[mem_cons,not_mem_nil,or_false]at hx hy;subst e;rcases hx with hx|hx<;>rcases hy with hy|hy<;>rw[hx]at hy<;>have a:=(Prod.mk.inj hy).1<;>have b:=(Prod.mk.inj hy).2<;>lia
def ID:Nat->Nat
 |0=>1
 |n+1=>(n+1)*ID n
theorem B8:∀n,1<=ID n
 |0=>le_refl _
 |n+1=>le_trans (B8 n) (by show ID n<=(n+1)*ID n;rw[Nat.succ_mul];lia)
theorem B9{α β:Type}(f:α->List β)(c:Nat):∀(l:List α),(∀x∈l,(f x).length<=c)->(l.flatMap f).length<=(l.filter λx=>decide (f x≠[])).length*c
 |[],_=>by simp
 |x::l,h=>by
  have ih:=B9 f c l λy hy=>h y (mem_cons_of_mem _ hy);have hx:=h x mem_cons_self;rw[List.flatMap_cons,length_append];by_cases e:f x=[]
  ·rw[List.filter_cons_of_neg (by simp[e]),e]
   simpa using ih
  rw[List.filter_cons_of_pos (by simp[e]),length_cons,Nat.succ_mul];lia
theorem vg{ts:List T3}(td:vZ ts){rX:List Int}{goal:Int}:∀(n:Nat){ws:List Int},Wy ts rX n ws->(kj ts goal (n+1) ws).length<=ID n
 |n,ws,h=>by
  rw[iB];by_cases c:ws.getLast?=some goal
  ·rw[if_pos c];exact B8 n
  rw[if_neg c]
  match n,h with
  |0,h =>
   have:(dM ts).flatMap (cT ts goal 0 ws)=[]:=by
    rw[List.flatMap_eq_nil_iff];intro p hp;unfold cT;split
    ·rw[kj]
    rfl
   rw[this];exact zero_le _
  |n+1,h =>
   have one:∀p∈dM ts,(cT ts goal (n+1) ws p).length<=ID n:=λp hp=>by
    unfold cT;split
    ·rename_i z;exact vg td n (h.next hp z.2)
    exact zero_le _
   refine le_trans (B9 _ (ID n) _ one) ?_;show _<=(n+1)*ID n;refine Nat.mul_le_mul_right _ ?_;have key:∀p∈(dM ts).filter λx=>decide (cT ts goal (n+1) ws x≠[]),p∈dM ts/\ws.getLast?=some p.1/\p.2∉ws:=λp hp=>by
    obtain⟨h1,h2⟩:=List.mem_filter.mp hp;have h2:cT ts goal (n+1) ws p≠[]:=(by simpa using h2);unfold cT at h2;split at h2
    ·rename_i z;exact⟨h1,z⟩
    exact absurd rfl h2
   have nd:(((dM ts).filter λx=>decide (cT ts goal (n+1) ws x≠[])).map (·.2)).Nodup:=by unfold List.Nodup;rw[List.pairwise_map];refine(td.LW.filter _).imp_of_mem λ{p q} hp hq ne e=>ne ?_;have e1:=(key p hp).2.1;rw[(key q hq).2.1]at e1;exact Prod.ext (Option.some.inj e1).symm e
   have:=dS rX (ws++((dM ts).filter λx=>decide (cT ts goal (n+1) ws x≠[])).map (·.2)) (List.nodup_append.mpr ⟨h.nd,nd,λa ha b hb=>by
    obtain⟨p,hp,rfl⟩:=List.mem_map.mp hb;rintro rfl;exact(key p hp).2.2 ha⟩) λx hx=>by
    rcases mem_append.mp hx with z|z
    ·exact h.mem x z
    obtain⟨p,hp,rfl⟩:=List.mem_map.mp z;obtain⟨t,ht,z⟩:=lq.mp (key p hp).1;obtain⟨h1,h2⟩:=h.en t ht;rcases z with rfl|rfl
    ·exact h2
    exact h1
   rw[length_append,length_map]at this;have:=h.l;lia
theorem IE:∀n,n<=6->ID n<=720:=by decide
structure vh(K:W.Frag)(H:Hp)(l:Addr)(vs:List (List Int)):Prop where
 ex:∃zs:List (Addr×List Int),H l=some (.lst (zs.map λz=>V.ref z.1))/\(∀z∈zs,ab K H z.1 (z.2.map V.int))/\zs.map (·.2)=vs
theorem vh.same{l:Addr}(h:vh K H l vs)(s:aH H H'):vh K H' l vs:=by obtain⟨zs,h1,h2,h3⟩:=h.ex;exact⟨zs,s _ _ h1,λz hz=>s.tup (h2 z hz),h3⟩
def Fd(K:W.Frag):Nat->Sp
 |0=>λ_ _ _ _=>False
 |n+1=>λvs H Q _=>∃(l wa:Addr)(goal:Int)(ts:List T3)(rX ws:List Int),vs=[.ref l,.ref wa,.int goal]/\ng K H l ts/\vZ ts/\ab K H wa (ws.map V.int)/\Wy ts rX n ws/\rX.length<=7/\∀(r:Addr)(H':Hp),aH H H'->vh K H' r (kj ts goal (n+1) ws)->Q (.ref r) H'
theorem bt:aU ["wires","way","goal","found","a","b","length","one","other"] ["wires","way","goal"] (aI dg):=ad
set_option maxHeartbeats 2000000 in
theorem iC(n:Nat)(F:aN K mg "_law_ways" dg)(T:Txt K mg t)(fX:Def P w K mg base (n+1) "_law_ways" ["wires","way","goal"] (Fd K n)):Def P w K mg base (n+2) "_law_ways" ["wires","way","goal"] (Fd K (n+1)):=by
 refine F.def bt (λ_ _ _ _ _ _=>bv λ_ _ _=>rfl) (λvs H Q E h=>?_) (λf bj A outer s H vs Q E hr h=>?_)
 ·obtain⟨l,wa,goal,ts,rX,ws,rfl,_⟩:=h;rfl
 obtain⟨l,wa,goal,ts,rX,ws,rfl,hl,td,hw,wy,h7,q⟩:=h;refine⟨_,aF (au (aL bX (aK (aP K) (pv 1) (jS eW aD) (λ_ _=>rfl)) (pv 2) (aQ _))
   (aG (aX (az (aA (pv 1) aE))))
   (aZ))
  (aF (aR (i:=3) bt.nd rfl (Or.inl rfl) (az aE))
  (aF (PS.uI (bW PassesOwn.never rfl (a9 K (pv 0)) (je rfl (ak (aO (i:=4) bt.nd rfl (Or.inl rfl)) (ak (aO (i:=5) bt.nd rfl (Or.inl rfl)) (ak (aO (i:=6) bt.nd rfl (Or.inl rfl)) fF))))
   (aG (bW PassesOwn.never rfl (a9 K (az (aA (ag (aA (pv 4) (aA (pv 5) aE))) (aA (ag (aA (pv 5) (aA (pv 4) aE))) aE)))) (fH K (i:=7) (j:=8) rfl bt.nd rfl rfl (Or.inl rfl) (Or.inl rfl))
    (aG (au (PW.pt (jd (aL bX (pv 7) (aK (aP K) (pv 1) (jS eW aD) (λ_ _=>rfl)) (aQ _)) (iU (aL (fI K) (pv 8) (pv 1) (by rfl)))))
     (aG (aR (i:=3) bt.nd rfl (Or.inl rfl) (aW (fG K) (pv 3) (aa (fX) hr av (aA (pv 0) (aA (aW (BZ K) (pv 1) (ag (aA (pv 8) aE))) (aA (pv 2) aE)))))))
     (aZ)))))))
  (aG (aX (pv 3))))),?_⟩
 have hsz:(20000:Nat)<=sizeLine:=by decide
 have n6:n<=6:=by
  have h1:=wy.l;have h2:1<=ws.length:=by
   cases ws with
   |nil=>exact absurd rfl wy.ne
   |cons _ _=>simp
  lia
 have W0:ws.length<=7:=by have:=wy.l;lia
 have cw:=vg td (goal:=goal) n wy;have f7:=IE n n6;rw[iB]at cw q;obtain⟨pre,z,rfl⟩:∃pre z,ws=pre++[z]:=⟨ws.dropLast,ws.getLast wy.ne,(List.dropLast_concat_getLast _).symm⟩;have la:jh ((pre++[z]).map V.int) (-1)=some (V.int z):=by rw[map_append];exact oW _ _
 have gl:∀x:Int,(pre++[z]).getLast?=some x↔z=x:=λx=>by rw[List.getLast?_concat,Option.some.injEq]
 refine⟨_,rfl,1,rfl,wa,_,_,.int z,rfl,rfl,hw,la,_,rfl,rfl,_,rfl,?_⟩;by_cases c:z=goal
 ·refine bx (congrArg V.int c) ?_;rw[if_pos ((gl goal).mpr c)]at q;refine⟨_,rfl,zz1,λr hr=>?_⟩;exact q r _ ((aH.refl H).new hr) ⟨[(wa,pre++[z])],aC,λy hy=>by rw[mem_singleton.mp hy];exact((aH.refl H).new hr).tup hw,rfl⟩
 refine cB (λe=>c (V.int.inj e)) ?_;rw[if_neg λe=>c ((gl goal).mp e)]at q cw;refine⟨zz0,λfo Oy=>?_⟩;have s0:=(aH.refl H).new (o:=.lst []) Oy;have e0:(upd H fo (.lst [])) fo=some (.lst []):=aC;generalize upd H fo (.lst [])=H0 at s0 e0 ⊢;obtain⟨zs,z1,z2,z3⟩:=hl;have IF:∀{A:List (Int×Int)}{p:Int×Int}{R:List (Int×Int)},dM ts=A++p::R->(A.flatMap (cT ts goal n (pre++[z]))).length+(cT ts goal n (pre++[z]) p).length<=720:=λ{A p R} e=>by rw[e,List.flatMap_append,List.flatMap_cons,length_append,length_append]at cw;lia
 let I:Nat->_->_->Prop:=λi σ H'=>∃(r:Addr)(v4 v5 v6 v7 v8:Option V),σ=[some (.ref l),some (.ref wa),some (.int goal),some (.ref r),v4,v5,v6,v7,v8]/\aH H H'/\vh K H' r ((dM (ts.take i)).flatMap (cT ts goal n (pre++[z])))
 refine⟨_,rfl,l,rfl,⟨_,aV.of (s0 _ _ z1)⟩,dv (K:=K) (a:=l) (xs:=zs.map (·.1)) I ⟨fo,none,none,none,none,none,rfl,s0,[],e0,λz hz=>absurd hz not_mem_nil,rfl⟩ (λi σ H' _ ⟨_,_,_,_,_,_,_,s,_⟩=>aV.of (s _ _ z1)) ?_ ?_⟩
 ·rintro i y σ H1 hi ⟨r,v4,v5,v6,v7,v8,rfl,s1,w1⟩;rw[getElem?_map]at hi;cases ez:zs[i]? with
  |none=>rw[ez]at hi;cases hi
  |some zt =>
   rw[ez]at hi;obtain rfl:zt.1=y:=Option.some.inj hi;have et:ts[i]?=some zt.2:=(by rw[<-z3,getElem?_map,ez];rfl);obtain⟨za,ea,g1⟩:=qL ((z2 zt (mem_of_getElem? ez)).same s1);refine⟨za,_,ea,g1,rfl,_,_,rfl,_,_,rfl,_,_,rfl,rfl,?_⟩;obtain⟨R,hR⟩:∃R,dM ts=dM (ts.take i)++(zh zt.2++R):=by obtain⟨j1,j2⟩:=List.getElem?_eq_some_iff.mp et;refine⟨dM (ts.drop (i+1)),?_⟩;have e1:ts=ts.take i++zt.2::ts.drop (i+1):=(by rw[<-j2,List.getElem_cons_drop,List.take_append_drop]);have:dM (ts.take i++zt.2::ts.drop (i+1))=dM (ts.take i)++(zh zt.2++dM (ts.drop (i+1))):=(by unfold dM;rw[List.flatMap_append,List.flatMap_cons]);rw[<-this,<-e1]
   refine⟨_,rfl,_,rfl,zz2,λt1 Fe=>⟨_,rfl,_,rfl,zz2,λt2 Ba=>⟨zz2,λil RB=>?_⟩⟩⟩;have u1:=(aH.refl H1).new (o:=.tup [.int zt.2.1,.int zt.2.2.1]) Fe;have u2:=(aH.refl (upd H1 t1 (.tup [.int zt.2.1,.int zt.2.2.1]))).new (o:=.tup [.int zt.2.2.1,.int zt.2.1]) Ba;have u3:=(aH.refl (upd (upd H1 t1 (.tup [.int zt.2.1,.int zt.2.2.1])) t2 (.tup [.int zt.2.2.1,.int zt.2.1]))).new (o:=.lst [.ref t1,.ref t2]) RB;have a1:ab K (upd (upd (upd H1 t1 (.tup [.int zt.2.1,.int zt.2.2.1])) t2 (.tup [.int zt.2.2.1,.int zt.2.1])) il (.lst [.ref t1,.ref t2])) t1 [.int zt.2.1,.int zt.2.2.1]:=(u2.trans u3).tup (ab.of aC);have a2:ab K (upd (upd (upd H1 t1 (.tup [.int zt.2.1,.int zt.2.2.1])) t2 (.tup [.int zt.2.2.1,.int zt.2.1])) il (.lst [.ref t1,.ref t2])) t2 [.int zt.2.2.1,.int zt.2.1]:=u3.tup (ab.of aC);have a3:(upd (upd (upd H1 t1 (.tup [.int zt.2.1,.int zt.2.2.1])) t2 (.tup [.int zt.2.2.1,.int zt.2.1])) il (.lst [.ref t1,.ref t2])) il=some (.lst [.ref t1,.ref t2]):=aC;have u:=u1.trans (u2.trans u3);generalize upd (upd (upd H1 t1 (.tup [.int zt.2.1,.int zt.2.2.1])) t2 (.tup [.int zt.2.2.1,.int zt.2.1])) il (.lst [.ref t1,.ref t2])=H2 at u a1 a2 a3 ⊢;have S2:=s1.trans u
   let J:Nat->_->_->Prop:=λj σ H'=>∃(r:Addr)(v7 v8:Option V),σ=[some (.ref l),some (.ref wa),some (.int goal),some (.ref r),some (.int zt.2.1),some (.int zt.2.2.1),some (.int zt.2.2.2),v7,v8]/\aH H2 H'/\vh K H' r ((dM (ts.take i)++(zh zt.2).take j).flatMap (cT ts goal n (pre++[z])))
   refine⟨il,rfl,⟨_,aV.of a3⟩,dv (K:=K) (a:=il) (xs:=[.ref t1,.ref t2]) J ⟨r,_,_,rfl,.refl _,by rw[List.take_zero,List.append_nil];exact w1.same u⟩ (λj σ H' _ ⟨_,_,_,_,s,_⟩=>aV.of (s _ _ a3)) ?_ ?_⟩
   ·rintro j y σ H3 hj ⟨r,v7,v8,rfl,s3,w3⟩;obtain⟨p,ep,ta,rfl,g3⟩:∃p,(zh zt.2)[j]?=some p/\∃ta,y=.ref ta/\ab K H3 ta [.int p.1,.int p.2]:=by
     match j,hj with
     |0,hj=>cases hj;exact⟨_,rfl,t1,rfl,s3.tup a1⟩
     |1,hj=>cases hj;exact⟨_,rfl,t2,rfl,s3.tup a2⟩
     |j+2,hj=>simp at hj
    have GB:p∈dM ts:=by rw[hR];exact mem_append_right _ (mem_append_left _ (mem_of_getElem? ep))
    obtain⟨R',Vl⟩:∃R',dM ts=(dM (ts.take i)++(zh zt.2).take j)++p::R':=by
     refine⟨(zh zt.2).drop (j+1)++R,?_⟩;obtain⟨j1,j2⟩:=List.getElem?_eq_some_iff.mp ep;have e2:zh zt.2=(zh zt.2).take j++p::(zh zt.2).drop (j+1):=(by rw[<-j2,List.getElem_cons_drop,List.take_append_drop]);rw[hR]
     conv=>lhs;rw[e2]
     simp
    have pl:=IF Vl;refine⟨ta,_,rfl,g3,rfl,_,_,rfl,_,_,rfl,rfl,?_⟩;have RC:=(S2.trans s3).tup hw;have O1:(dM (ts.take i)++(zh zt.2).take (j+1)).flatMap (cT ts goal n (pre++[z]))=(dM (ts.take i)++(zh zt.2).take j).flatMap (cT ts goal n (pre++[z]))++cT ts goal n (pre++[z]) p:=by rw[take_succ ep,<-List.append_assoc,List.flatMap_append,List.flatMap_cons,List.flatMap_nil,List.append_nil]
    refine⟨_,rfl,_,rfl,1,rfl,wa,_,_,.int z,rfl,rfl,RC,la,rfl,_,rfl,?_⟩;by_cases c1:p.1=z
    ·refine bx (congrArg V.int c1) ?_;refine⟨_,rfl,_,rfl,wa,_,rfl,.inr RC,rfl,cX _,_,rfl,?_⟩;show if(!CV (.int p.2) ((pre++[z]).map V.int))=true then _ else _;rw[dP];by_cases c2:p.2∈pre++[z]
     ·refine fz c2 ⟨r,_,_,rfl,s3,?_⟩;rw[O1];have:cT ts goal n (pre++[z]) p=[]:=(by unfold cT;rw[if_neg λe=>e.2 c2]);rw[this,List.append_nil];exact w3
     refine gh c2 ?_;have eS:cT ts goal n (pre++[z]) p=kj ts goal n ((pre++[z])++[p.2]):=(by unfold cT;rw[if_pos ⟨(gl p.1).mpr c1.symm,c2⟩]);rw[eS]at O1 pl;have n1:1<=n:=by
      obtain⟨t,ht,zz⟩:=lq.mp GB;obtain⟨h1,h2⟩:=wy.en t ht;refine wy.pos (y:=p.2) ?_ c2;rcases zz with rfl|rfl
      ·exact h2
      exact h1
     obtain⟨m,rfl⟩:∃m,n=m+1:=⟨n-1,by lia⟩;refine⟨_,rfl,_,rfl,_,rfl,_,rfl,zz1,λt3 Vm=>?_⟩;have s4:=(aH.refl H3).new (o:=.tup [.int p.2]) Vm;have e4:ab K (upd H3 t3 (.tup [.int p.2])) t3 [.int p.2]:=ab.of aC;generalize upd H3 t3 (.tup [.int p.2])=H4 at s4 e4 ⊢;refine⟨wa,t3,_,_,rfl,rfl,s4.tup RC,e4,by rw[length_map];show _+1<=sizeLine;lia,λwb H5 s5 RD=>?_⟩;have RD:ab K H5 wb (((pre++[z])++[p.2]).map V.int):=(by rw[map_append];exact RD);have S5:=(S2.trans s3).trans (s4.trans s5);refine⟨_,rfl,l,wb,goal,ts,rX,(pre++[z])++[p.2],rfl,⟨zs,S5 _ _ z1,λy hy=>(z2 y hy).same S5,z3⟩,td,RD,wy.next GB c2,h7,λrr H6 s6 w6=>?_⟩;obtain⟨xs,x1,x2,x3⟩:=(w3.same (s4.trans (s5.trans s6))).ex;obtain⟨ys,y1,y2,y3⟩:=w6.ex;have l1:=congrArg List.length x3;have l2:=congrArg List.length y3;rw[length_map]at l1 l2;refine⟨r,rr,_,_,rfl,rfl,aV.of x1,aV.of y1,by rw[length_map,length_map];lia,λr2 uR=>?_⟩;have s7:=(aH.refl H6).new (o:=.lst (xs.map (λz=>V.ref z.1)++ys.map λz=>V.ref z.1)) uR;refine⟨r2,_,_,rfl,s3.trans (s4.trans (s5.trans (s6.trans s7))),xs++ys,by rw[aC,map_append],λy hy=>?_,by rw[map_append,x3,y3,O1]⟩;rcases mem_append.mp hy with h|h
     ·exact s7.tup (x2 y h)
     exact s7.tup (y2 y h)
    refine cB (λe=>c1 (V.int.inj e)) ⟨r,_,_,rfl,s3,?_⟩;rw[O1];have:cT ts goal n (pre++[z]) p=[]:=(by unfold cT;rw[if_neg λe=>c1 ((gl p.1).mp e.1).symm]);rw[this,List.append_nil];exact w3
   rintro σ H3 ⟨r,v7,v8,rfl,s3,w3⟩;refine⟨r,_,_,_,_,_,rfl,S2.trans s3,?_⟩;have e:dM (ts.take (i+1))=dM (ts.take i)++(zh zt.2).take 2:=by rw[take_succ et];unfold dM;rw[List.flatMap_append,List.flatMap_cons,List.flatMap_nil,List.append_nil];rfl
   rw[e];exact w3
 rintro σ H1 ⟨r,v4,v5,v6,v7,v8,rfl,s1,w1⟩;have:(zs.map (·.1)).length=ts.length:=by rw[<-z3,length_map,length_map]
 rw[this,take_length]at w1;exact⟨_,rfl,q r H1 s1 w1⟩
theorem LX(F:aN K mg "_law_ways" dg):Def P w K mg base 1 "_law_ways" ["wires","way","goal"] (Fd K 0):=by exact F.no bt (λ_ _ _ _ _ _=>bv λ_ _ _=>rfl)
theorem xX(F:aN K mg "_law_ways" dg)(T:Txt K mg t):Def P w K mg base 8 "_law_ways" ["wires","way","goal"] (Fd K 7):=by exact iC 6 F T (iC 5 F T (iC 4 F T (iC 3 F T (iC 2 F T (iC 1 F T (iC 0 F T (LX F)))))))
def Ff(ts:List T3)(x y:Int):List Int:=(ts.filter λt=>decide (t.1=(if y<x then y else x)/\t.2.1=(if y>x then y else x))).map (·.2.2)
theorem Fg{ts:List T3}(td:vZ ts)(x y:Int):(Ff ts x y).head?=gC (bo ts) [x,y]:=by
 have kn:=hW td;have mem:∀l,l∈Ff ts x y↔([x,y],l)∈bo ts:=λl=>by
  unfold Ff;rw[List.mem_map,bA];constructor
  ·rintro⟨t,ht,rfl⟩;obtain⟨h1,h2⟩:=List.mem_filter.mp ht;have h2:t.1=(if y<x then y else x)/\t.2.1=(if y>x then y else x):=(by simpa using h2);refine⟨t,h1,?_⟩;have lt:=td.lt t h1;by_cases c:y<x
   ·rw[if_pos c,if_neg (by lia)]at h2;exact .inr (by rw[h2.1,h2.2])
   rw[if_neg c]at h2;by_cases c2:y>x
   ·rw[if_pos c2]at h2;exact .inl (by rw[h2.1,h2.2])
   rw[if_neg c2]at h2;lia
  rintro⟨t,ht,z⟩;have lt:=td.lt t ht;refine⟨t,List.mem_filter.mpr ⟨ht,?_⟩,?_⟩
  ·rcases z with z|z
   ·have e:=(Prod.mk.inj z).1;simp only[List.cons.injEq,and_true]at e;obtain⟨rfl,rfl⟩:=e;rw[if_neg (by lia),if_pos lt];simp
   have e:=(Prod.mk.inj z).1;simp only[List.cons.injEq,and_true]at e;obtain⟨rfl,rfl⟩:=e;rw[if_pos lt,if_neg (by lia)];simp
  rcases z with z|z<;>exact((Prod.mk.inj z).2).symm
 cases e:Ff ts x y with
 |nil =>
  cases el:gC (bo ts) [x,y]with
  |none=>rfl
  |some l =>
   have:=(mem l).mpr ((cS kn).mp el);rw[e]at this;exact absurd this not_mem_nil
 |cons l r =>
  have h1:=(mem l).mp (by rw[e];exact mem_cons_self);rw[(cS kn).mpr h1];rfl
def lr(K:W.Frag):Sp:=λvs H Q _=>∃(l wa:Addr)(ts:List T3)(ws:List Int),vs=[.ref l,.ref wa]/\ng K H l ts/\vZ ts/\ts.length<=60/\ab K H wa (ws.map V.int)/\ws.length<=1000/\∀H',aH H H'->Q (oV (fg (bo ts) ws)) H'
theorem cG:aU ["wires","way","total","k","pair","found"] ["wires","way"] (aI dO):=ad
set_option maxHeartbeats 2000000 in
theorem tR(F:aN K mg "_law_length" dO)(T:Txt K mg t):Def P w K mg base 1 "_law_length" ["wires","way"] (lr K):=by
 refine F.def cG (λ_ _ _ _ _ _=>bn λ_ _=>rfl) (λvs H Q E h=>?_) (λf bj A outer s H vs Q E hr h=>?_)
 ·obtain⟨l,wa,ts,ws,rfl,_⟩:=h;rfl
 obtain⟨l,wa,ts,ws,rfl,hl,td,tl,hw,wl,q⟩:=h;refine⟨_,aF (aR (i:=2) cG.nd rfl (Or.inl rfl) aD)
  (aF (PS.uI (bW PassesOwn.never rfl (CK (by rfl) T.fM (aA aD (aA (aT (bL K) (by rfl) T.eT boot_len (aA (pv 1) aE)) aE))) (aO (i:=3) cG.nd rfl (Or.inl rfl))
   (aF (aR (i:=4) cG.nd rfl (Or.inr rfl) (ag (aA (aT (pd rfl) (by rfl) T.Bt boot_min (aA (aK (aP K) (pv 1) (aW lD (pv 3) aD) (λ_ _=>rfl)) (aA (aK (aP K) (pv 1) (pv 3) (λ_ _=>rfl)) aE))) (aA (aT (pZ rfl) (by rfl) T.E4 boot_max (aA (aK (aP K) (pv 1) (aW lD (pv 3) aD) (λ_ _=>rfl)) (aA (aK (aP K) (pv 1) (pv 3) (λ_ _=>rfl)) aE))) aE))))
   (aF (dy (i:=5) cG.nd rfl (Or.inl rfl) rfl (Nc:=["a","b","length","pair"]) (ix:=[none,none,none,some 4]) (bR (aI dO) ["wires","way","total","k","pair","found"] rfl rfl (by decide +kernel)) (a9 K (pv 0)) (λC fp s H=>⟨(G9 K (n:=3) rfl (ak (aO (i:=0) (show(["a","b","length","pair"]:List Str).Nodup by decide +kernel) rfl (Or.inl rfl)) (ak (aO (i:=1) (show(["a","b","length","pair"]:List Str).Nodup by decide +kernel) rfl (Or.inl rfl)) (ak (aO (i:=2) (show(["a","b","length","pair"]:List Str).Nodup by decide +kernel) rfl (Or.inl rfl)) fF)))),(mN (aL (wW K (cu hr)) (ag (aA (pv 0) (aA (pv 1) aE))) (pv 3) (aQ _))),(pv 2)⟩))
   (aF (au (aL (wW K (cu hr)) (pv 5) (az aE) (aQ _))
    (aG (aX pV))
    (aZ))
   (aG (aR (i:=2) cG.nd rfl (Or.inl rfl) (aW bP (pv 2) (aK (aJ K) (pv 5) aD (λ_ _=>rfl))))))))))
  (aG (aX (pv 2)))),?_⟩
 have hsz:(20000:Nat)<=sizeLine:=by decide
 obtain⟨zs,z1,z2,z3⟩:=hl;have zl:zs.length=ts.length:=by rw[<-z3,length_map]
 refine⟨_,rfl,wa,_,rfl,.inr hw,_,_,rfl,by rw[length_map];lia,?_⟩
 let I:Nat->_->_->Prop:=λi σ H'=>∃(cw:Int)(v3 v4 v5:Option V),σ=[some (.ref l),some (.ref wa),some (.int cw),v3,v4,v5]/\aH H H'/\fg (bo ts) ws=(fg (bo ts) (ws.drop i)).map (cw+·)
 have hn:((((ws.map V.int).length:Nat):Int)-1).toNat=ws.length-1:=by rw[length_map];lia
 refine eV (lo:=1) (n:=((((ws.map V.int).length:Nat):Int)-1).toNat) I ⟨0,none,none,none,rfl,.refl _,by rw[List.drop_zero];cases fg (bo ts) ws<;>simp⟩ ?_ ?_
 ·rintro i σ H1 hi ⟨cw,v3,v4,v5,rfl,s1,e1⟩;rw[hn]at hi;obtain⟨a,ea⟩:∃a,ws[i]?=some a:=⟨ws[i],by simp[show i<ws.length by lia]⟩;obtain⟨b,eb⟩:∃b,ws[i+1]?=some b:=⟨ws[i+1],by simp[show i+1<ws.length by lia]⟩;obtain⟨d1,d2⟩:=JY ea eb;have So:jh (ws.map V.int) ((1+(i:Nat):Int)-1)=some (.int a):=by rw[show(1+(i:Nat):Int)-1=(i:Nat) by lia];exact bG (by rw[getElem?_map,ea];rfl)
  have Sq:jh (ws.map V.int) (1+(i:Nat):Int)=some (.int b):=by rw[show(1+(i:Nat):Int)=((i+1:Nat):Int) by lia];exact bG (by rw[getElem?_map,eb];rfl)
  have O2:=s1.tup hw;refine⟨_,rfl,_,rfl,_,_,rfl,rfl,wa,_,_,.int a,rfl,rfl,O2,So,_,rfl,_,rfl,wa,_,_,.int b,rfl,rfl,O2,Sq,_,_,rfl,?_⟩;refine⟨_,rfl,_,rfl,_,_,rfl,rfl,wa,_,_,.int a,rfl,rfl,O2,So,_,rfl,_,rfl,wa,_,_,.int b,rfl,rfl,O2,Sq,_,_,rfl,zz2,λpa Vn=>?_⟩;have s2:=(aH.refl H1).new (o:=.tup [.int (if b<a then b else a),.int (if b>a then b else a)]) Vn;have e2:ab K (upd H1 pa (.tup [.int (if b<a then b else a),.int (if b>a then b else a)])) pa [.int (if b<a then b else a),.int (if b>a then b else a)]:=ab.of aC;generalize upd H1 pa (.tup [.int (if b<a then b else a),.int (if b>a then b else a)])=H2 at s2 e2 ⊢;have S2:=s1.trans s2;refine⟨_,rfl,l,rfl,⟨_,aV.of (S2 _ _ z1)⟩,λD hD=>?_⟩
  let J:Nat->_->_->Prop:=λj σ H'=>∃v0 v1 v2:Option V,σ=[v0,v1,v2,some (.ref pa)]/\aH H2 H'/\H' D=some (.lst ((Ff (ts.take j) a b).map V.int))
  refine dE (K:=K) (a:=l) (xs:=zs.map (·.1)) J ⟨none,none,none,rfl,(aH.refl _).new hD,aC⟩ (λj σ H' _ ⟨_,_,_,_,s,_⟩=>aV.of ((S2.trans s) _ _ z1)) ?_ ?_
  ·rintro j y σ H3 N hN hj ⟨v0,v1,v2,rfl,s3,e3⟩;rw[getElem?_map]at hj;cases ez:zs[j]? with
   |none=>rw[ez]at hj;cases hj
   |some zt =>
    rw[ez]at hj;obtain rfl:zt.1=y:=Option.some.inj hj;have et:ts[j]?=some zt.2:=(by rw[<-z3,getElem?_map,ez];rfl);have jl:j<ts.length:=(List.getElem?_eq_some_iff.mp et).1;obtain⟨za,IG,g1⟩:=qL ((z2 zt (mem_of_getElem? ez)).same (S2.trans s3));refine⟨za,_,IG,g1,rfl,_,_,rfl,_,_,rfl,_,_,rfl,rfl,?_⟩;refine⟨_,rfl,_,rfl,zz2,λtp mx=>?_⟩;have s4:=(aH.refl H3).new (o:=.tup [.int zt.2.1,.int zt.2.2.1]) mx;have e4:ab K (upd H3 tp (.tup [.int zt.2.1,.int zt.2.2.1])) tp [.int zt.2.1,.int zt.2.2.1]:=ab.of aC;generalize upd H3 tp (.tup [.int zt.2.1,.int zt.2.2.1])=H4 at s4 e4 ⊢;refine⟨_,rfl,.tuple [.int zt.2.1,.int zt.2.2.1],.tuple [.int (if b<a then b else a),.int (if b>a then b else a)],xV e4,xV ((s3.trans s4).tup e2),_,rfl,?_⟩;rw[if_neg (by decide),FZ];have fl:((Ff (ts.take j) a b).map V.int).length<=60:=by unfold Ff;rw[length_map,length_map];refine le_trans (List.length_filter_le _ _) ?_;rw[length_take];lia
    by_cases c:zt.2.1=(if b<a then b else a)/\zt.2.2.1=(if b>a then b else a)
    ·refine bx c ?_;refine⟨_,rfl,_,s4 _ _ e3,by lia,hN _ _ ⟨_,_,_,rfl,(s3.trans s4).put hD,?_⟩⟩;rw[aC,take_succ et];unfold Ff;rw[List.filter_append,List.filter_cons_of_pos (by simpa using c),List.filter_nil,map_append,map_append];rfl
    refine cB c (hN _ _ ⟨_,_,_,rfl,s3.trans s4,?_⟩);rw[s4 _ _ e3,take_succ et];unfold Ff;rw[List.filter_append,List.filter_cons_of_neg (by simpa using c),List.filter_nil,List.append_nil]
  rintro σ H3 ⟨v0,v1,v2,rfl,s3,e3⟩;rw[length_map,zl,take_length]at e3;have fl:=Fg td a b;refine⟨_,rfl,zz0,λel Ae=>?_⟩;have s4:=(aH.refl H3).new (o:=.lst []) Ae;have e4:aV K (upd H3 el (.lst [])) el (([]:List Int).map V.int):=aV.of aC;generalize upd H3 el (.lst [])=H4 at s4 e4 ⊢;have S4:=S2.trans (s3.trans s4);refine⟨.list ((Ff ts a b).map .int),.list (([]:List Int).map .int),fU (aV.of (s4 _ _ e3)),fU e4,_,rfl,?_⟩;rw[if_neg (by decide),pQ];rw[d1,pN,<-fl]at e1;cases ef:Ff ts a b with
  |nil =>
   refine bx rfl ?_;rw[ef]at e1;have:=q H4 S4;rw[e1]at this;exact this
  |cons x r =>
   refine cB (by intro z;cases z) ?_;rw[ef]at e1 e3;refine⟨_,rfl,_,rfl,D,_,_,.int x,rfl,rfl,aV.of (s4 _ _ e3),(by have z:=bG (show((x::r).map V.int)[0]?=some (V.int x)from rfl);exact z),_,_,rfl,rfl,?_⟩;refine⟨_,_,_,_,rfl,S4,?_⟩;rw[e1,d2];show((fg (bo ts) (b::ws.drop (i+2))).map (x+·)).map (cw+·)=_;rw[Option.map_map]
   congr 1
   funext z
   show cw+(x+z)=cw+x+z;lia
 rintro σ H1 ⟨cw,v3,v4,v5,rfl,s1,e1⟩;rw[hn]at e1;have ew:fg (bo ts) (ws.drop (ws.length-1))=some 0:=by
  cases e:ws with
  |nil=>rw[List.drop_nil,fg];intro x y r z;cases z
  |cons x r =>
   have:ws.drop (ws.length-1)=[ws[ws.length-1]'(by rw[e];simp)]:=by rw[List.drop_eq_getElem_cons (by rw[e];simp),List.drop_eq_nil_of_le (by lia)]
   rw[<-e,this,pO]
 rw[ew]at e1;have:=q H1 s1;rw[e1]at this;have e:cw+0=cw:=by lia
 refine⟨_,rfl,?_⟩;show Q (.int cw) H1;rw[<-e];exact this
theorem Gr.down{hv:Hv}(f:Fin L goal hv)(h:Gr L hv goal x ws):∃n,lk hv x=some n/\(∀y∈ws,∃m,lk hv y=some m/\m<=n)/\ws.Nodup:=by
 induction h with
 |done=>exact⟨0,f.h.g,λy hy=>by rw[mem_singleton.mp hy];exact⟨0,f.h.g,Int.le_refl _⟩,by simp⟩
 |@step x e ws ne nx g ih =>
  obtain⟨n,h1,h2,h3⟩:=ih;obtain⟨⟨l,m,h4,h5,h6⟩,_⟩:=nx;rw[h1]at h5;cases h5;have l1:=f.pos h4;refine⟨n+l,h6,λy hy=>?_,List.nodup_cons.mpr ⟨λhm=>?_,h3⟩⟩
  ·rcases mem_cons.mp hy with rfl|hy
   ·exact⟨_,h6,Int.le_refl _⟩
   obtain⟨m,a,b⟩:=h2 y hy;exact⟨m,a,by lia⟩
  obtain⟨m,a,b⟩:=h2 x hm;rw[h6]at a;cases a;lia
theorem IH{ts:List T3}(h:p∈dM ts):∃l,([p.1,p.2],l)∈bo ts:=by
 obtain⟨t,ht,z⟩:=lq.mp h;refine⟨t.2.2,bA.mpr ⟨t,ht,?_⟩⟩;rcases z with rfl|rfl
 ·exact .inl rfl
 exact .inr rfl
theorem II{ts:List T3}{a b l:Int}(h:([a,b],l)∈bo ts):(a,b)∈dM ts:=by
 obtain⟨t,ht,z⟩:=bA.mp h;refine lq.mpr ⟨t,ht,?_⟩;rcases z with z|z
 ·have e:=(Prod.mk.inj z).1;simp only[List.cons.injEq,and_true]at e;exact .inl (Prod.ext e.1 e.2)
 have e:=(Prod.mk.inj z).1;simp only[List.cons.injEq,and_true]at e;exact .inr (Prod.ext e.1 e.2)
theorem vi{ts:List T3}{goal:Int}:∀(n:Nat){pre:List Int}{z:Int}{v:List Int},(pre++[z]).Nodup->v∈kj ts goal n (pre++[z])->∃s cw,v=pre++z::s/\Wl (bo ts) goal z (z::s) cw/\v.Nodup
 |0,_,_,_,_,h=>by rw[kj]at h;exact absurd h not_mem_nil
 |n+1,pre,z,v,nd,h=>by
  rw[iB]at h;by_cases c:(pre++[z]).getLast?=some goal
  ·rw[if_pos c]at h;rw[List.getLast?_concat]at c;cases c;rw[mem_singleton.mp h];exact⟨[],0,rfl,.done,nd⟩
  rw[if_neg c]at h;obtain⟨p,hp,hv⟩:=List.mem_flatMap.mp h;unfold cT at hv;split at hv
  ·rename_i hc;have h1:=hc.1;rw[List.getLast?_concat]at h1;have h1:=Option.some.inj h1;obtain⟨s,cw,e,w,nv⟩:=vi n (pre:=pre++[z]) (z:=p.2) (List.nodup_append.mpr ⟨nd,by simp,λa ha b hb=>by rw[mem_singleton.mp hb];rintro rfl;exact hc.2 ha⟩) hv;obtain⟨l,hl⟩:=IH hp;rw[<-h1]at hl;exact⟨p.2::s,l+cw,by rw[e];simp,.step hl w,nv⟩
  exact absurd hv not_mem_nil
theorem DL{ts:List T3}{z:Int}(w:Wl (bo ts) goal z ws cw):∀(n:Nat)(pre:List Int),ws.length<=n->(pre++ws).Nodup->pre++ws∈kj ts goal n (pre++[z]):=by
 induction w with
 |done =>
  intro n pre hn nd;obtain⟨m,rfl⟩:∃m,n=m+1:=⟨n-1,by have:1<=n:=hn;lia⟩;rw[iB,if_pos (by rw[List.getLast?_concat])];exact mem_singleton.mpr rfl
 |@step x e l s ws h w ih =>
  intro n pre hn nd;rw[length_cons]at hn;obtain⟨m,rfl⟩:∃m,n=m+1:=⟨n-1,by lia⟩;obtain⟨t,rfl⟩:=w.head;have gl:(e::t).getLast?=some goal:=by
   clear ih hn nd h;generalize e::t=vs at w
   induction w with
   |done=>rfl
   |@step x e l s ws h w ih =>
    obtain⟨t,rfl⟩:=w.head;rw[List.getLast?_cons_cons];exact ih
  have gm:goal∈e::t:=List.mem_of_getLast? gl;have RE:=(List.nodup_append.mp nd).2.1;have xg:x≠goal:=λz=>(List.nodup_cons.mp RE).1 (by rw[z];exact gm);rw[iB,if_neg (by rw[List.getLast?_concat];intro z;exact xg (Option.some.inj z))];refine List.mem_flatMap.mpr ⟨(x,e),II h,?_⟩;have ne:e∉pre++[x]:=λhm=>by
   rcases mem_append.mp hm with hm|hm
   ·exact(List.nodup_append.mp nd).2.2 _ hm _ (mem_cons_of_mem _ mem_cons_self) rfl
   rw[mem_singleton.mp hm]at RE;exact(List.nodup_cons.mp RE).1 mem_cons_self
  unfold cT;rw[if_pos ⟨by rw[List.getLast?_concat],ne⟩];have:=ih m (pre++[x]) (by lia) (by simpa using nd)
  simpa using this
theorem Wl.all{ts:List T3}(w:Wl (bo ts) goal x ws cw):∀y∈ws,y=x\/∃t∈ts,y=t.1\/y=t.2.1:=by
 induction w with
 |done=>intro y hy;exact .inl (mem_singleton.mp hy)
 |@step x e l s ws h w ih =>
  intro y hy;rcases mem_cons.mp hy with rfl|hy
  ·exact .inl rfl
  rcases ih y hy with rfl|z
  ·obtain⟨t,ht,z⟩:=bA.mp h;refine .inr ⟨t,ht,?_⟩;rcases z with z|z
   ·have e:=(Prod.mk.inj z).1;simp only[List.cons.injEq,and_true]at e;exact .inr e.2
   have e:=(Prod.mk.inj z).1;simp only[List.cons.injEq,and_true]at e;exact .inl e.2
  exact .inr z
theorem Wk.congr(h:∀e,e∈L->e∈L'){s:Int}(w:Wk L goal x s):Wk L' goal x s:=by
 induction w with
 |nil=>exact .nil
 |cons h1 _ ih=>exact .cons (h _ h1) ih
theorem tS{L L':List (Tk×Int)}(kn:(L.map (·.1)).Nodup)(OB:(L'.map (·.1)).Nodup)(h:∀e,e∈L↔e∈L'):∀ws,fg L ws=fg L' ws
 |[]=>by rw[fg,fg]<;>(intro x y r z;cases z)
 |[x]=>by rw[pO,pO]
 |x::y::r=>by
  rw[pN,pN,tS kn OB h (y::r)];have:gC L [x,y]=gC L' [x,y]:=by
   cases e:gC L [x,y]with
   |none =>
    cases e':gC L' [x,y]with
    |none=>rfl
    |some l =>
     rw[(cS kn).mpr ((h _).mpr ((cS OB).mp e'))]at e;cases e
   |some l=>exact((cS OB).mpr ((h _).mp ((cS kn).mp e))).symm
  rw[this]
theorem pR.congr{L L':List (Tk×Int)}(h:∀e,e∈L↔e∈L'){goal:Int}{ps:Hv}(z:pR L goal ps):pR L' goal ps :=
 ⟨λx=>(z.k x).trans ⟨λ⟨s,w⟩=>⟨s,w.congr λe=>(h e).mp⟩,λ⟨s,w⟩=>⟨s,w.congr λe=>(h e).mpr⟩⟩,z.r,z.g,λb e l he=>z.e b e l ((h _).mpr he)⟩
theorem qx.congr{L L':List (Tk×Int)}(kn:(L.map (·.1)).Nodup)(OB:(L'.map (·.1)).Nodup)(h:∀e,e∈L↔e∈L'){one other:Int}{ws:List Int}{ps:Hv}(z:qx L one other ws ps):qx L' one other ws ps :=
 ⟨z.1,z.2.1.congr h,by rw[<-tS kn OB h];exact z.2.2⟩
theorem qN{ts O3:List T3}(h:∀t,t∈ts↔t∈O3)(e:Tk×Int):e∈bo ts↔e∈bo O3:=by
 rw[bA,bA];constructor
 ·rintro⟨t,ht,z⟩;exact⟨t,(h t).mp ht,z⟩
 rintro⟨t,ht,z⟩;exact⟨t,(h t).mpr ht,z⟩
structure A3(ts:List T3)(one other:Int)(ns:List Int):Prop where
 r:DK ns
 o:one∈ns
 t:other∉ns
 e:∀t∈ts,(t.1∈ns↔t.2.1∈ns)
theorem A4{ts:List T3}:A3 ts one other ns↔pU (bo ts) one other ns:=by
 constructor
 ·rintro⟨h1,h2,h3,h4⟩;refine⟨h1,h2,h3,λa b l he ha=>?_⟩;obtain⟨t,ht,z⟩:=bA.mp he;rcases z with z|z
  ·have e:=(Prod.mk.inj z).1;simp only[List.cons.injEq,and_true]at e;obtain⟨rfl,rfl⟩:=e;exact(h4 t ht).mp ha
  have e:=(Prod.mk.inj z).1;simp only[List.cons.injEq,and_true]at e;obtain⟨rfl,rfl⟩:=e;exact(h4 t ht).mpr ha
 rintro⟨h1,h2,h3,h4⟩;exact⟨h1,h2,h3,λt ht=>⟨h4 t.1 t.2.1 t.2.2 (bA.mpr ⟨t,ht,.inl rfl⟩),h4 t.2.1 t.1 t.2.2 (bA.mpr ⟨t,ht,.inr rfl⟩)⟩⟩
theorem DM{n:Int}(e:ns[i]?=some n):DK (ns.take (i+1))↔DK (ns.take i)/\(0<=n/\n<32)/\∀m,0<i->ns[i-1]?=some m->m<n:=by
 rw[take_succ e];constructor
 ·rintro⟨r,h⟩;obtain⟨r1,_,r3⟩:=List.pairwise_append.mp r;refine⟨⟨r1,λx hx=>h x (mem_append_left _ hx)⟩,h n (mem_append_right _ (mem_singleton.mpr rfl)),λm i0 hm=>?_⟩;refine r3 m (mem_of_getElem? (i:=i-1) ?_) n (mem_singleton.mpr rfl);rw[List.getElem?_take_of_lt (by lia)];exact hm
 rintro⟨⟨r,h⟩,hn,hm⟩;refine⟨List.pairwise_append.mpr ⟨r,by simp,λa ha b hb=>?_⟩,λx hx=>?_⟩
 ·rw[mem_singleton.mp hb];obtain⟨k,hk,rfl⟩:=List.getElem_of_mem ha;rw[length_take]at hk;have il:i<ns.length:=(List.getElem?_eq_some_iff.mp e).1;have i0:0<i:=by lia
  have el:ns[i-1]?=some (ns[i-1]'(by lia)):=by simp[show i-1<ns.length by lia]
  have:=hm _ i0 el;rw[List.getElem_take];rcases Nat.lt_or_eq_of_le (show k<=i-1 by lia)with c|c
  ·have z:=List.pairwise_iff_getElem.mp r k (i-1) (by rw[length_take];lia) (by rw[length_take];lia) c;rw[List.getElem_take,List.getElem_take]at z;lia
  subst c;exact this
 rcases mem_append.mp hx with z|z
 ·exact h x z
 rw[mem_singleton.mp z];exact hn
def iD(K:W.Frag):Sp:=λvs H Q _=>∃(l sd:Addr)(one other:Int)(ts:List T3)(ns:List Int),vs=[.ref l,.int one,.int other,.ref sd]/\ng K H l ts/\ts.length<=60/\ab K H sd (ns.map V.int)/\ns.length<=1000/\∀(b:Bool)(H':Hp),aH H H'->(b=true↔A3 ts one other ns)->Q (.bl b) H'
theorem iE:aU ["wires","one","other","side","k"] ["wires","one","other","side"] (aI bq):=ad
set_option maxHeartbeats 2000000 in
theorem nz(F:aN K mg "_law_side_right" bq)(T:Txt K mg t):Def P w K mg base 1 "_law_side_right" ["wires","one","other","side"] (iD K):=by
 refine F.def iE (λ_ _ _ _ _ _=>ce λ_ _ _ _=>rfl) (λvs H Q E h=>?_) (λf bj A outer s H vs Q E hr h=>?_)
 ·obtain⟨l,sd,one,other,ts,ns,rfl,_⟩:=h;rfl
 obtain⟨l,sd,one,other,ts,ns,rfl,hl,tl,hs,nl,q⟩:=h;refine⟨_,aF (PS.uI (bW PassesOwn.never rfl (dD (by rfl) T.fM (aA (aT (bL K) (by rfl) T.eT boot_len (aA (pv 3) aE)) aE)) (aO (i:=4) iE.nd rfl (Or.inl rfl))
   (aG (au (PW.pt (kY (aL lE (aK (aP K) (pv 3) (pv 4) (λ_ _=>rfl)) aD (aQ _)) (kY (aL mq (aK (aP K) (pv 3) (pv 4) (λ_ _=>rfl)) aD (aQ _)) (ky (PW.pt (jd (aL mq (pv 4) aD (aQ _)) (iU (aL BQ (aK (aP K) (pv 3) (pv 4) (λ_ _=>rfl)) (aK (aP K) (pv 3) (aW lD (pv 4) aD) (λ_ _=>rfl)) (aQ _)))))))))
    (aG (aX eQ))
    (aZ)))))
  (aF (au (PW.pt (kY (aL (fI K) (pv 1) (pv 3) (by rfl)) (ky (aL (gu K) (pv 2) (pv 3) (by rfl)))))
   (aG (aX eQ))
   (aZ))
  (aG (aX (ba (Bb K (cu hr)) (gg rfl (Nc:=["wire","side"]) (ix:=[none,some 3]) (bR (aI bq) ["wires","one","other","side","k"] rfl rfl (by decide +kernel)) (a9 K (pv 0)) (λC fp s H=>⟨(aO (i:=0) (show(["wire","side"]:List Str).Nodup by decide +kernel) rfl (Or.inl rfl)),(mN (aL mm (ba (gu K) (aK (aP K) (pv 0) aD (λ_ _=>rfl)) (pv 1) (by rfl)) (ba (gu K) (aK (aP K) (pv 0) aD (λ_ _=>rfl)) (pv 1) (by rfl)) (aQ _))),(pv 0)⟩)) (az aE) (aQ _))))),?_⟩
 have hsz:(20000:Nat)<=sizeLine:=by decide
 have no:∀{H':Hp},aH H H'->¬A3 ts one other ns->Q (.bl false) H':=λs h=>q false _ s ⟨λz=>(by cases z),λz=>absurd z h⟩;refine⟨_,rfl,sd,_,rfl,.inr hs,_,rfl,by rw[length_map];lia,by rw[length_map];lia,?_⟩;have hn:(((ns.map V.int).length:Nat):Int).toNat=ns.length:=by rw[length_map];lia
 refine eV (lo:=0) (n:=(((ns.map V.int).length:Nat):Int).toNat) (λi σ H'=>H'=H/\(∃v:Option V,σ=[some (.ref l),some (.int one),some (.int other),some (.ref sd),v])/\DK (ns.take i)) ⟨rfl,⟨none,rfl⟩,by rw[List.take_zero];exact⟨.nil,λn hn=>absurd hn not_mem_nil⟩⟩ ?_ ?_
 ·rintro i σ H1 hi ⟨eH,⟨v,rfl⟩,ri⟩;subst eH;rw[hn]at hi;obtain⟨n,en⟩:∃n,ns[i]?=some n:=⟨ns[i],by simp[hi]⟩;have RF:jh (ns.map V.int) (0+(i:Nat):Int)=some (.int n):=by rw[show(0+(i:Nat):Int)=(i:Nat) by lia];exact bG (by rw[getElem?_map,en];rfl)
  have sn:=DM en;have bad:¬((0<=n/\n<32)/\∀m,0<i->ns[i-1]?=some m->m<n)->Q (.bl false) H1:=λh=>no (.refl _) λz=>h (sn.mp ⟨z.r.r.sublist (List.take_sublist _ _),λx hx=>z.r.h x (List.mem_of_mem_take hx)⟩).2;refine⟨_,rfl,_,rfl,sd,_,_,.int n,rfl,rfl,hs,RF,_,_,rfl,rfl,_,rfl,?_⟩;by_cases c1:n<0
  ·exact bx c1 (bad λh=>by have:=h.1.1;lia)
  refine cB c1 ?_;refine⟨_,rfl,_,rfl,sd,_,_,.int n,rfl,rfl,hs,RF,_,_,rfl,rfl,_,rfl,?_⟩;by_cases c2:n>31
  ·exact bx c2 (bad λh=>by have:=h.1.2;lia)
  refine cB c2 ?_;refine⟨_,rfl,_,_,rfl,rfl,_,rfl,?_⟩;by_cases c3:(0+(i:Nat):Int)>0
  ·refine bx c3 ?_;have i0:0<i:=(by lia);obtain⟨m,em⟩:∃m,ns[i-1]?=some m:=⟨ns[i-1]'(by lia),by simp[show i-1<ns.length by lia]⟩;have Vo:jh (ns.map V.int) ((0+(i:Nat):Int)-1)=some (.int m):=by rw[show(0+(i:Nat):Int)-1=((i-1:Nat):Int) by lia];exact bG (by rw[getElem?_map,em];rfl)
   refine⟨_,rfl,_,rfl,sd,_,_,.int n,rfl,rfl,hs,RF,_,rfl,_,rfl,_,_,rfl,rfl,sd,_,_,.int m,rfl,rfl,hs,Vo,_,_,rfl,rfl,_,rfl,?_⟩;by_cases c4:n<=m
   ·exact bx c4 (bad λh=>by have:=h.2 m i0 em;lia)
   exact cB c4 ⟨rfl,⟨_,rfl⟩,sn.mpr ⟨ri,⟨by lia,by lia⟩,λm' _ h'=>by rw[em]at h';cases h';lia⟩⟩
  exact cB c3 ⟨rfl,⟨_,rfl⟩,sn.mpr ⟨ri,⟨by lia,by lia⟩,λm' h0=>by lia⟩⟩
 rintro σ H1 ⟨eH,⟨v,rfl⟩,ri⟩;subst eH;rw[hn,take_length]at ri;refine⟨_,rfl,_,rfl,sd,_,rfl,.inr hs,rfl,cX _,_,rfl,?_⟩;refine(show if(!CV (.int one) (ns.map V.int))=true then _ else _ from ?_);rw[dP];by_cases c1:one∈ns
 ·refine fz c1 ?_;refine⟨_,rfl,_,rfl,sd,_,rfl,.inr hs,rfl,cX _,_,rfl,?_⟩;refine(show if(CV (.int other) (ns.map V.int))=true then _ else _ from ?_);rw[dP];by_cases c2:other∈ns
  ·exact bx c2 (no (.refl _) λz=>z.t c2)
  refine cB c2 ?_;obtain⟨zs,z1,z2,z3⟩:=hl;have zl:zs.length=ts.length:=by rw[<-z3,length_map]
  refine⟨_,rfl,l,rfl,⟨_,aV.of z1⟩,λD hD=>?_⟩
  let J:Nat->_->_->Prop:=λi σ H'=>∃(v:Option V)(ys:List (V×T3)),σ=[v,some (.ref sd)]/\aH H1 H'/\H' D=some (.lst (ys.map (·.1)))/\ys=(zs.take i).filter λz=>decide (¬(z.2.1∈ns↔z.2.2.1∈ns))
  refine dE (K:=K) (a:=l) (xs:=zs.map (·.1)) J ⟨none,[],rfl,(aH.refl _).new hD,aC,rfl⟩ (λi σ H' _ ⟨_,_,_,s,_⟩=>aV.of (s _ _ z1)) ?_ ?_
  ·rintro i y σ H2 N hN hi ⟨v,ys,rfl,s2,e2,ey⟩;rw[getElem?_map]at hi;cases ez:zs[i]? with
   |none=>rw[ez]at hi;cases hi
   |some zt =>
    rw[ez]at hi;obtain rfl:zt.1=y:=Option.some.inj hi;have il:i<ts.length:=(by rw[<-zl];exact(List.getElem?_eq_some_iff.mp ez).1);obtain⟨za,IG,g1⟩:=qL ((z2 zt (mem_of_getElem? ez)).same s2);have vx:=s2.tup hs;have yl:ys.length<=60:=by rw[ey];refine le_trans (List.length_filter_le _ _) ?_;rw[length_take];lia
    refine⟨_,rfl,za,_,_,.int zt.2.1,IG,rfl,g1,rfl,_,rfl,sd,_,rfl,.inr vx,rfl,cX _,?_⟩;refine⟨_,rfl,za,_,_,.int zt.2.2.1,IG,rfl,g1,rfl,_,rfl,sd,_,rfl,.inr vx,rfl,cX _,rfl,_,rfl,?_⟩;refine(show if(!decide (V.bl (CV (.int zt.2.1) (ns.map V.int))=V.bl (CV (.int zt.2.2.1) (ns.map V.int))))=true then _ else _ from ?_);rw[dP,dP];have bi:∀{p q:Prop}[Decidable p][Decidable q],(V.bl (decide p)=V.bl (decide q))↔(p↔q):=λ{p q} _ _=>by
     constructor
     ·intro h;have:=V.bl.inj h;constructor
      ·intro hp;rw[decide_eq_true hp]at this;exact of_decide_eq_true this.symm
      intro hq;rw[decide_eq_true hq]at this;exact of_decide_eq_true this
     intro h
     congr 1
     by_cases hp:p
     ·rw[decide_eq_true hp,decide_eq_true (h.mp hp)]
     rw[decide_eq_false hp,decide_eq_false λz=>hp (h.mpr z)]
    by_cases c:(zt.2.1∈ns↔zt.2.2.1∈ns)
    ·refine fz (bi.mpr c) (hN _ _ ⟨_,ys,rfl,s2,e2,?_⟩);rw[ey,take_succ ez,List.filter_append,List.filter_cons_of_neg (by simp[c]),List.filter_nil,List.append_nil]
    refine gh (λz=>c (bi.mp z)) ?_;refine⟨_,rfl,_,e2,by rw[length_map];lia,hN _ _ ⟨_,ys++[zt],rfl,s2.put hD,by rw[aC,map_append];rfl,?_⟩⟩;rw[ey,take_succ ez,List.filter_append,List.filter_cons_of_pos (by simpa using c),List.filter_nil]
  rintro σ H2 ⟨v,ys,rfl,s2,e2,ey⟩;rw[length_map,take_length]at ey;refine⟨zz0,λel Ae=>?_⟩;have s3:=(aH.refl H2).new (o:=.lst []) Ae;have e3:(upd H2 el (.lst [])) el=some (.lst []):=aC;generalize upd H2 el (.lst [])=H3 at s3 e3 ⊢;have S3:=s2.trans s3;have OC:ys=[]↔∀t∈ts,(t.1∈ns↔t.2.1∈ns):=by
   rw[ey,List.filter_eq_nil_iff];constructor
   ·intro h t ht;rw[<-z3]at ht;obtain⟨z,hz,rfl⟩:=List.mem_map.mp ht;have:=h z hz
    simpa using this
   intro h z hz;have:=h z.2 (by rw[<-z3];exact List.mem_map.mpr ⟨z,hz,rfl⟩)
   simpa using this
  by_cases c:ys=[]
  ·have c':=c;refine⟨D,el,_,_,rfl,rfl,aV.of (s3 _ _ e2),aV.of e3,.inl ⟨by rw[c];rfl,λj u v hu hv=>(by cases hv),?_⟩⟩;exact q _ H3 S3 ⟨λ_=>⟨ri,c1,c2,OC.mp c⟩,λ_=>rfl⟩
  refine⟨D,el,_,_,rfl,rfl,aV.of (s3 _ _ e2),aV.of e3,.inr ⟨λz=>c (by rw[length_map]at z;exact List.length_eq_zero_iff.mp z),?_⟩⟩;exact no S3 λz=>c (OC.mpr z.e)
 exact gh c1 (no (.refl _) λz=>c1 z.o)
inductive JZ(L:List (Tk×Int))(goal:Int):Nat->Int->Int->Prop
 |nil {k:Nat}:JZ L goal k goal 0
 |cons {k:Nat} {x e l s:Int}:([x,e],l)∈L->JZ L goal k e s->JZ L goal (k+1) x (l+s)
structure xY(L:List (Tk×Int))(goal:Int)(fv:Hv):Prop where
 nd:(fv.map (·.1)).Nodup
 w:∀x n,lk fv x=some n->Wk L goal x n
def Fh(f f':Hv):Prop:=∀x n,lk f x=some n->∃m,lk f' x=some m/\m<=n
theorem Fh.refl(f:Hv):Fh f f:=λ_ n h=>⟨n,h,Int.le_refl _⟩
theorem Fh.trans{f g h:Hv}(a:Fh f g)(b:Fh g h):Fh f h:=λx n e=>by obtain⟨m,e1,l1⟩:=a x n e;obtain⟨k,e2,l2⟩:=b x m e1;exact⟨k,e2,by lia⟩
def Fi(L:List (Tk×Int))(goal:Int)(k:Nat)(fv:Hv):Prop:=∀x s,JZ L goal k x s->∃n,lk fv x=some n/\n<=s
def Fj(t:T3):List T3:=[(t.1,t.2.1,t.2.2),(t.2.1,t.1,t.2.2)]
def L5(f f':Hv)(es:List T3):Prop:=∀p∈es,∀n,lk f p.1=some n->∃m,lk f' p.2.1=some m/\m<=n+p.2.2
theorem L5.le{f g h:Hv}{es:List T3}(r:L5 f g es)(l:Fh g h):L5 f h es:=λp hp n e=>by obtain⟨m,e1,l1⟩:=r p hp n e;obtain⟨k,e2,l2⟩:=l _ _ e1;exact⟨k,e2,by lia⟩
theorem DN(L:List (Tk×Int))(goal:Int):xY L goal [(goal,0)]/\Fi L goal 0 [(goal,0)]:=by
 refine⟨⟨by simp,λx n h=>?_⟩,λx s w=>?_⟩
 ·unfold lk at h;simp only[List.find?_cons,List.find?_nil]at h;by_cases c:goal=x
  ·subst c;simp at h;subst h;exact .nil
  simp[c]at h
 cases w;exact⟨0,by simp[lk],Int.le_refl _⟩
theorem IJ{n l:Int}{fv:Hv}(h:xY L goal fv)(he:([other,one],l)∈L)(e:lk fv one=some n):let v:=if n+l<(lk fv other).getD (n+l)then n+l else(lk fv other).getD (n+l);xY L goal (j0 fv other v)/\Fh fv (j0 fv other v)/\∃m,lk (j0 fv other v) other=some m/\m<=n+l:=by
 intro v;have hw:Wk L goal other (n+l):=by have:=Wk.cons he (h.w _ _ e);rw[Int.add_comm]at this;exact this
 have Vp:v<=n+l:=by show(if n+l<(lk fv other).getD (n+l)then n+l else(lk fv other).getD (n+l))<=n+l;split<;>lia
 have vw:Wk L goal other v:=by
  show Wk L goal other (if n+l<(lk fv other).getD (n+l)then n+l else(lk fv other).getD (n+l));split
  ·exact hw
  cases e2:lk fv other with
  |none=>exact hw
  |some m=>exact h.w _ _ e2
 refine⟨⟨vc h.nd _ _,λx m hx=>?_⟩,λx m hx=>?_,v,by rw[fA,if_pos rfl],Vp⟩
 ·rw[fA]at hx;split at hx
  ·rename_i c;cases hx;rw[c];exact vw
  exact h.w _ _ hx
 rw[fA];split
 ·rename_i c;subst c;refine⟨v,rfl,?_⟩;show(if n+l<(lk fv x).getD (n+l)then n+l else(lk fv x).getD (n+l))<=m;rw[hx];show(if n+l<m then n+l else m)<=m;split<;>lia
 exact⟨m,hx,Int.le_refl _⟩
theorem DO{ts:List T3}{k:Nat}{f g:Hv}(c:Fi (bo ts) goal k f)(l:Fh f g)(r:L5 f g (ts.flatMap Fj)):Fi (bo ts) goal (k+1) g:=λx s w=>by
 cases w with
 |nil =>
  obtain⟨n,e,h⟩:=c goal 0 .nil;obtain⟨m,e2,h2⟩:=l _ _ e;exact⟨m,e2,by lia⟩
 |@cons _ x e l' s' he w =>
  obtain⟨n,e1,h⟩:=c e s' w;obtain⟨t,ht,z⟩:=bA.mp he;have:(e,x,l')∈ts.flatMap Fj:=by
   refine List.mem_flatMap.mpr ⟨t,ht,?_⟩;unfold Fj;rcases z with z|z
   ·have z1:=(Prod.mk.inj z).1;simp only[List.cons.injEq,and_true]at z1;obtain⟨rfl,rfl⟩:=z1;rw[(Prod.mk.inj z).2];simp
   have z1:=(Prod.mk.inj z).1;simp only[List.cons.injEq,and_true]at z1;obtain⟨rfl,rfl⟩:=z1;rw[(Prod.mk.inj z).2];simp
  obtain⟨m,e2,h2⟩:=r _ this n e1;have h2:m<=n+l':=h2;exact⟨m,e2,by lia⟩
theorem JZ.mono{k:Nat}{s:Int}(w:JZ L goal k x s):∀{m:Nat},k<=m->JZ L goal m x s:=by
 induction w with
 |nil=>exact λ_=>.nil
 |cons h _ ih =>
  intro m hm;obtain⟨j,rfl⟩:∃j,m=j+1:=⟨m-1,by lia⟩;exact .cons h (ih (by lia))
theorem Wl.Vq{s:Int}(h:Wl L goal x ws s):∃k,ws.length=k+1/\JZ L goal k x s:=by
 induction h with
 |done=>exact⟨0,rfl,.nil⟩
 |step h1 _ ih =>
  obtain⟨k,e,w⟩:=ih;exact⟨k+1,by rw[length_cons,e],.cons h1 w⟩
theorem Wk.simple(pos:∀e∈L,1<=e.2){s:Int}(w:Wk L goal x s):∃ws r,Wl L goal x ws r/\r<=s/\ws.Nodup:=by
 induction w with
 |nil=>exact⟨_,0,.done,Int.le_refl _,by simp⟩
 |@cons x e l s he _ ih =>
  obtain⟨ws,r,w,h,nd⟩:=ih;have l1:1<=l:=pos _ he;by_cases c:x∈ws
  ·
   have:∀{y t:Int}{vs:List Int},Wl L goal y vs t->vs.Nodup->x∈vs->∃us r,Wl L goal x us r/\r<=t/\us.Nodup:=by
    intro y t vs w
    induction w with
    |done=>intro nd hx;rw[mem_singleton.mp hx];exact⟨_,0,.done,Int.le_refl _,by simp⟩
    |@step y e' l' s' vs h1 w ih =>
     intro nd hx;rcases mem_cons.mp hx with rfl|hx
     ·exact⟨_,_,.step h1 w,Int.le_refl _,nd⟩
     obtain⟨us,r,a,b,c⟩:=ih (List.nodup_cons.mp nd).2 hx;have:1<=l':=pos _ h1;exact⟨us,r,a,by lia,c⟩
   obtain⟨us,r',a,b,d⟩:=this w nd c;exact⟨us,r',a,by lia,d⟩
  exact⟨_,_,.step he w,by lia,List.nodup_cons.mpr ⟨c,nd⟩⟩
structure IK(L:List (Tk×Int))(goal:Int)(fv:Hv):Prop where
 nd:(fv.map (·.1)).Nodup
 w:∀x n,lk fv x=some n->Wk L goal x n
 le:∀x s,Wk L goal x s->∃n,lk fv x=some n/\n<=s
theorem IL{ts:List T3}{fv:Hv}(pos:∀t∈ts,1<=t.2.2)(h6:dh.length=6)(en:∀t∈ts,t.1∈dh/\t.2.1∈dh)(s:xY (bo ts) goal fv)(c:Fi (bo ts) goal 6 fv):IK (bo ts) goal fv:=by
 refine⟨s.nd,s.w,λx r w=>?_⟩;have pe:∀e∈bo ts,1<=e.2:=λe he=>by obtain⟨t,ht,z⟩:=bA.mp he;rcases z with rfl|rfl<;>exact pos t ht
 obtain⟨ws,r',wl,h,nd⟩:=w.simple pe;obtain⟨k,el,wn⟩:=wl.Vq;have:ws.length<=7:=by
  have:=dS (x::dh) ws nd λy hy=>by
   rcases wl.all y hy with rfl|⟨t,ht,rfl|rfl⟩
   ·exact mem_cons_self
   ·exact mem_cons_of_mem _ (en t ht).1
   exact mem_cons_of_mem _ (en t ht).2
  rw[length_cons,h6]at this;exact this
 obtain⟨n,e,hn⟩:=c x r' (wn.mono (by lia));exact⟨n,e,by lia⟩
theorem xY.xr{ts:List T3}{fv:Hv}(s:xY (bo ts) goal fv)(h6:dh.length=6)(en:∀t∈ts,t.1∈dh/\t.2.1∈dh):fv.length<=7:=by
 have:=dS (goal::dh) (fv.map (·.1)) s.nd λx hx=>by
  obtain⟨n,e⟩:=j5 hx;have w:=s.w x n e;cases w with
  |nil=>exact mem_cons_self
  |cons h _ =>
   obtain⟨t,ht,z⟩:=bA.mp h;rcases z with z|z
   ·have z1:=(Prod.mk.inj z).1;simp only[List.cons.injEq,and_true]at z1;rw[z1.1];exact mem_cons_of_mem _ (en t ht).1
   have z1:=(Prod.mk.inj z).1;simp only[List.cons.injEq,and_true]at z1;rw[z1.1];exact mem_cons_of_mem _ (en t ht).2
 rw[length_map,length_cons,h6]at this;exact this
def ls(K:W.Frag):Sp:=λvs H Q _=>∃(l:Addr)(goal:Int)(ts:List T3)(dh:List Int),vs=[.ref l,.int goal]/\ng K H l ts/\(∀t∈ts,1<=t.2.2)/\dh.length=6/\(∀t∈ts,t.1∈dh/\t.2.1∈dh)/\∀(fd:Addr)(H':Hp)(fv:Hv),aH H H'->H fd=none->H' fd=some (.dK (fv.map fS))->IK (bo ts) goal fv->fv.length<=7->Q (.ref fd) H'
theorem cL:aU ["wires","goal","far","turn","a","b","length","one","other","near"] ["wires","goal"] (aI jv):=ad
set_option maxHeartbeats 2000000 in
theorem zQ(F:aN K mg "_law_far" jv)(T:Txt K mg t):Def P w K mg base 1 "_law_far" ["wires","goal"] (ls K):=by
 refine F.def cL (λ_ _ _ _ _ _=>bn λ_ _=>rfl) (λvs H Q E h=>?_) (λf bj A outer s H vs Q E hr h=>?_)
 ·obtain⟨l,goal,ts,dh,rfl,_⟩:=h;rfl
 obtain⟨l,goal,ts,dh,rfl,hl,pos,h6,en,q⟩:=h;refine⟨_,aF (aR (i:=2) cL.nd rfl (Or.inl rfl) (zL (pv 1) aD))
  (aF (PS.uI (bW PassesOwn.never rfl (dD (by rfl) T.fM (aA aD aE)) (aO (i:=3) cL.nd rfl (Or.inl rfl))
   (aG (bW PassesOwn.never rfl (a9 K (pv 0)) (je rfl (ak (aO (i:=4) cL.nd rfl (Or.inl rfl)) (ak (aO (i:=5) cL.nd rfl (Or.inl rfl)) (ak (aO (i:=6) cL.nd rfl (Or.inl rfl)) fF))))
    (aG (bW PassesOwn.never rfl (a9 K (az (aA (ag (aA (pv 4) (aA (pv 5) aE))) (aA (ag (aA (pv 5) (aA (pv 4) aE))) aE)))) (fH K (i:=7) (j:=8) rfl cL.nd rfl rfl (Or.inl rfl) (Or.inl rfl))
     (aF (aR (i:=9) cL.nd rfl (Or.inl rfl) (ET (bO hr) (pv 2) (pv 7) ⟨rfl,rfl,rfl,rfl⟩))
     (aG (au (aL BR (pv 9) pV (aQ _))
      (aG (iW (bO hr) (pv 2) (pv 8) (aT (pd rfl) (by rfl) T.Bt boot_min (aA (EU (bO hr) (pv 2) (pv 8) (aW bP (pv 9) (pv 6)) ⟨rfl,rfl,rfl,rfl⟩) (aA (aW bP (pv 9) (pv 6)) aE))) (by rfl)))
      (aZ))))))))))
  (aG (aX (pv 2)))),?_⟩
 have hsz:(20000:Nat)<=sizeLine:=by decide
 obtain⟨zs,z1,z2,z3⟩:=hl;have zl:zs.length=ts.length:=by rw[<-z3,length_map]
 obtain⟨Vr,Jx⟩:=DN (bo ts) goal;refine λfd O4=>⟨_,rfl,aC,[(Sum.inl goal,.int 0)],rfl,by show 1<=15;decide,?_⟩;have s1:aH H (upd (upd H fd (.dK [])) fd (.dK (gp [] [(Sum.inl goal,V.int 0)]))):=((aH.refl H).new O4).put O4;have e1:(upd (upd H fd (.dK [])) fd (.dK (gp [] [(Sum.inl goal,V.int 0)]))) fd=some (.dK ([(goal,(0:Int))].map fS)):=aC;generalize upd (upd H fd (.dK [])) fd (.dK (gp [] [(Sum.inl goal,V.int 0)]))=H1 at s1 e1 ⊢
 let A:Nat->_->_->Prop:=λk σ H'=>∃(fv:Hv)(v3 v4 v5 v6 v7 v8 v9:Option V),σ=[some (.ref l),some (.int goal),some (.ref fd),v3,v4,v5,v6,v7,v8,v9]/\aH H H'/\H' fd=some (.dK (fv.map fS))/\xY (bo ts) goal fv/\Fi (bo ts) goal k fv
 refine⟨6,rfl,by decide,by decide,?_⟩;refine eV (lo:=0) (n:=6) A ⟨_,none,none,none,none,none,none,none,rfl,s1,e1,Vr,Jx⟩ ?_ ?_
 ·rintro k σ H2 hk ⟨f0,v3,v4,v5,v6,v7,v8,v9,rfl,s2,e2,fs,fc⟩
  let B:Nat->_->_->Prop:=λi σ H'=>∃(fv:Hv)(v4 v5 v6 v7 v8 v9:Option V),σ=[some (.ref l),some (.int goal),some (.ref fd),some (.int (0+(k:Nat))),v4,v5,v6,v7,v8,v9]/\aH H H'/\H' fd=some (.dK (fv.map fS))/\xY (bo ts) goal fv/\Fh f0 fv/\L5 f0 fv ((ts.take i).flatMap Fj)
  refine⟨_,rfl,l,rfl,⟨_,aV.of (s2 _ _ z1)⟩,dv (K:=K) (a:=l) (xs:=zs.map (·.1)) B ⟨f0,_,_,_,_,_,_,rfl,s2,e2,fs,.refl _,λp hp=>by rw[List.take_zero]at hp;exact absurd hp not_mem_nil⟩ (λi σ H' _ ⟨_,_,_,_,_,_,_,_,s,_⟩=>aV.of (s _ _ z1)) ?_ ?_⟩
  ·rintro i y σ H3 hi ⟨fv,v4,v5,v6,v7,v8,v9,rfl,s3,e3,RG,RH,O5⟩;rw[getElem?_map]at hi;cases ez:zs[i]? with
   |none=>rw[ez]at hi;cases hi
   |some zt =>
    rw[ez]at hi;obtain rfl:zt.1=y:=Option.some.inj hi;have et:ts[i]?=some zt.2:=(by rw[<-z3,getElem?_map,ez];rfl);have mt:=mem_of_getElem? et;obtain⟨za,ea,g1⟩:=qL ((z2 zt (mem_of_getElem? ez)).same s3);refine⟨za,_,ea,g1,rfl,_,_,rfl,_,_,rfl,_,_,rfl,rfl,?_⟩;refine⟨_,rfl,_,rfl,zz2,λt1 Fe=>⟨_,rfl,_,rfl,zz2,λt2 Ba=>⟨zz2,λil RB=>?_⟩⟩⟩;have u1:=(aH.refl H3).new (o:=.tup [.int zt.2.1,.int zt.2.2.1]) Fe;have u2:=(aH.refl (upd H3 t1 (.tup [.int zt.2.1,.int zt.2.2.1]))).new (o:=.tup [.int zt.2.2.1,.int zt.2.1]) Ba;have u3:=(aH.refl (upd (upd H3 t1 (.tup [.int zt.2.1,.int zt.2.2.1])) t2 (.tup [.int zt.2.2.1,.int zt.2.1]))).new (o:=.lst [.ref t1,.ref t2]) RB;have a1:ab K (upd (upd (upd H3 t1 (.tup [.int zt.2.1,.int zt.2.2.1])) t2 (.tup [.int zt.2.2.1,.int zt.2.1])) il (.lst [.ref t1,.ref t2])) t1 [.int zt.2.1,.int zt.2.2.1]:=(u2.trans u3).tup (ab.of aC);have a2:ab K (upd (upd (upd H3 t1 (.tup [.int zt.2.1,.int zt.2.2.1])) t2 (.tup [.int zt.2.2.1,.int zt.2.1])) il (.lst [.ref t1,.ref t2])) t2 [.int zt.2.2.1,.int zt.2.1]:=u3.tup (ab.of aC);have a3:(upd (upd (upd H3 t1 (.tup [.int zt.2.1,.int zt.2.2.1])) t2 (.tup [.int zt.2.2.1,.int zt.2.1])) il (.lst [.ref t1,.ref t2])) il=some (.lst [.ref t1,.ref t2]):=aC;have u:=u1.trans (u2.trans u3);generalize upd (upd (upd H3 t1 (.tup [.int zt.2.1,.int zt.2.2.1])) t2 (.tup [.int zt.2.2.1,.int zt.2.1])) il (.lst [.ref t1,.ref t2])=H4 at u a1 a2 a3 ⊢;have e4:=u _ _ e3;have RJ:il≠fd:=kx a3 e4 (by intro z;cases z)
    let J:Nat->_->_->Prop:=λj σ H'=>∃(fv:Hv)(v7 v8 v9:Option V),σ=[some (.ref l),some (.int goal),some (.ref fd),some (.int (0+(k:Nat))),some (.int zt.2.1),some (.int zt.2.2.1),some (.int zt.2.2.2),v7,v8,v9]/\aH H H'/\H' fd=some (.dK (fv.map fS))/\H' il=some (.lst [.ref t1,.ref t2])/\ab K H' t1 [.int zt.2.1,.int zt.2.2.1]/\ab K H' t2 [.int zt.2.2.1,.int zt.2.1]/\xY (bo ts) goal fv/\Fh f0 fv/\L5 f0 fv ((ts.take i).flatMap Fj++(Fj zt.2).take j)
    refine⟨il,rfl,⟨_,aV.of a3⟩,dv (K:=K) (a:=il) (xs:=[.ref t1,.ref t2]) J ⟨fv,_,_,_,rfl,s3.trans u,e4,a3,a1,a2,RG,RH,by rw[List.take_zero,List.append_nil];exact O5⟩ (λj σ H' _ ⟨_,_,_,_,_,_,_,e,_⟩=>aV.of e) ?_ ?_⟩
    ·rintro j y σ H5 hj ⟨fw,v7,v8,v9,rfl,s5,e5,i5,b1,b2,OD,L6,O6⟩;obtain⟨p,ep,ta,rfl,g3⟩:∃p:T3,(Fj zt.2)[j]?=some p/\∃ta,y=.ref ta/\ab K H5 ta [.int p.1,.int p.2.1]:=by
      match j,hj with
      |0,hj=>cases hj;exact⟨_,rfl,t1,rfl,b1⟩
      |1,hj=>cases hj;exact⟨_,rfl,t2,rfl,b2⟩
      |j+2,hj=>simp at hj
     have pm:([p.2.1,p.1],zt.2.2.2)∈bo ts/\p.2.2=zt.2.2.2:=by
      have hp:=mem_of_getElem? ep;unfold Fj at hp;rcases mem_cons.mp hp with rfl|hp
      ·exact⟨bA.mpr ⟨_,mt,.inr rfl⟩,rfl⟩
      rw[mem_singleton.mp hp];exact⟨bA.mpr ⟨_,mt,.inl rfl⟩,rfl⟩
     refine⟨ta,_,rfl,g3,rfl,_,_,rfl,_,_,rfl,rfl,?_⟩;refine⟨_,rfl,fd,rfl,.inl ⟨_,.inl e5⟩,_,rfl,_,bh.k (k:=Sum.inl p.1) e5,?_⟩;rw[gD];cases em:lk fw p.1 with
     |none =>
      refine⟨_,rfl,rfl,_,rfl,?_⟩;refine fz rfl ?_;refine⟨fw,_,_,_,rfl,s5,e5,i5,b1,b2,OD,L6,?_⟩;rw[take_succ ep,<-List.append_assoc];intro p' LK n hn;rcases mem_append.mp LK with h|h
      ·exact O6 p' h n hn
      rw[mem_singleton.mp h]at hn;obtain⟨m,e,_⟩:=L6 _ _ hn;rw[em]at e;cases e
     |some n =>
      refine⟨_,rfl,rfl,_,rfl,?_⟩;refine gh (by intro z;cases z) ?_;have fl:=OD.xr h6 en;refine⟨_,rfl,fd,rfl,.inl ⟨_,.inl e5⟩,_,rfl,_,rfl,_,rfl,_,_,rfl,rfl,_,bh.k (k:=Sum.inl p.2.1) e5,?_⟩;rw[gD];have eg:((lk fw p.2.1).map V.int).getD (.int (n+zt.2.2.2))=.int ((lk fw p.2.1).getD (n+zt.2.2.2)):=(by cases lk fw p.2.1<;>rfl);rw[eg];refine⟨_,rfl,_,rfl,_,_,rfl,rfl,_,_,rfl,_,rfl,_,rfl,fd,_,rfl,Ci.k (k:=Sum.inl p.2.1) e5 (by rw[length_map];lia),?_⟩;obtain⟨q1,q2,q3⟩:=IJ OD pm.1 em;rw[B3];have kp:=bN (o:=.dK ((j0 fw p.2.1 (if n+zt.2.2.2<(lk fw p.2.1).getD (n+zt.2.2.2)then n+zt.2.2.2 else(lk fw p.2.1).getD (n+zt.2.2.2))).map fS)) (nC.dk e5);refine⟨_,_,_,_,rfl,s5.put O4,aC,by rw[aM RJ];exact i5,kp.tup b1,kp.tup b2,q1,L6.trans q2,?_⟩;rw[take_succ ep,<-List.append_assoc];intro p' LK n' hn;rcases mem_append.mp LK with h|h
      ·exact(O6.le q2) p' h n' hn
      rw[mem_singleton.mp h]at hn ⊢;obtain⟨m,e,hm⟩:=L6 _ _ hn;rw[em]at e;cases e;obtain⟨m',e',Dk⟩:=q3;exact⟨m',e',by rw[pm.2];lia⟩
    rintro σ H5 ⟨fw,v7,v8,v9,rfl,s5,e5,i5,b1,b2,OD,L6,O6⟩;refine⟨fw,_,_,_,_,_,_,rfl,s5,e5,OD,L6,?_⟩;have:(ts.take (i+1)).flatMap Fj=(ts.take i).flatMap Fj++(Fj zt.2).take 2:=by rw[take_succ et,List.flatMap_append,List.flatMap_cons,List.flatMap_nil,List.append_nil];rfl
    rw[this];exact O6
  rintro σ H3 ⟨fv,v4,v5,v6,v7,v8,v9,rfl,s3,e3,RG,RH,O5⟩;rw[length_map,zl,take_length]at O5;exact⟨fv,_,_,_,_,_,_,_,rfl,s3,e3,RG,DO fc RH O5⟩
 rintro σ H2 ⟨fv,v3,v4,v5,v6,v7,v8,v9,rfl,s2,e2,fs,fc⟩;exact⟨_,rfl,q fd H2 fv s2 O4 e2 (IL pos h6 en fs fc) (fs.xr h6 en)⟩
theorem IK.keys{fv:Hv}(f:IK L goal fv)(x:Int):x∈fv.map (·.1)↔∃s,Wk L goal x s:=by
 constructor
 ·intro h;obtain⟨n,e⟩:=j5 h;exact⟨n,f.w x n e⟩
 rintro⟨s,w⟩;obtain⟨n,h,_⟩:=f.le x s w;exact Classical.byContradiction λz=>by rw[dG.mpr z]at h;cases h
theorem IM{ts:List T3}{a b l:Int}(h:([a,b],l)∈bo ts):([b,a],l)∈bo ts:=by
 obtain⟨t,ht,z⟩:=bA.mp h;refine bA.mpr ⟨t,ht,?_⟩;rcases z with z|z
 ·cases z;exact .inr rfl
 cases z;exact .inl rfl
def CA(ps:Hv)(t:T3):Prop:=∃m n,lk ps t.1=some m/\lk ps t.2.1=some n/\(m-n>t.2.2\/n-m>t.2.2)
theorem A5{ts:List T3}{ps:Hv}(Fc:∀x,x∈ps.map (·.1)↔∃s,Wk (bo ts) goal x s)(LV:(ps.map (·.1)).Pairwise (·<·))(g:lk ps goal=some 0):pR (bo ts) goal ps↔∀t∈ts,¬CA ps t:=by
 constructor
 ·rintro h t ht ⟨m,n,h1,h2,z⟩;have a:=h.e t.1 t.2.1 t.2.2 (bA.mpr ⟨t,ht,.inl rfl⟩) m n h1 h2;have b:=h.e t.2.1 t.1 t.2.2 (bA.mpr ⟨t,ht,.inr rfl⟩) n m h2 h1;lia
 intro h;refine⟨Fc,LV,g,λb e l he m n h1 h2=>?_⟩;obtain⟨t,ht,z⟩:=bA.mp he;have:=h t ht;rcases z with z|z
 ·have e:=(Prod.mk.inj z).1;simp only[List.cons.injEq,and_true]at e;obtain⟨rfl,rfl⟩:=e;rw[(Prod.mk.inj z).2];exact Classical.byContradiction λc=>this ⟨m,n,h1,h2,.inl (by lia)⟩
 have e:=(Prod.mk.inj z).1;simp only[List.cons.injEq,and_true]at e;obtain⟨rfl,rfl⟩:=e;rw[(Prod.mk.inj z).2];exact Classical.byContradiction λc=>this ⟨n,m,h2,h1,.inr (by lia)⟩
def eU(K:W.Frag):Sp:=λvs H Q _=>∃(l hl:Addr)(goal:Int)(ts:List T3)(ps:Hv)(dh:List Int),vs=[.ref l,.int goal,.ref hl]/\ng K H l ts/\ts.length<=60/\(∀t∈ts,1<=t.2.2)/\dh.length=6/\(∀t∈ts,t.1∈dh/\t.2.1∈dh)/\hV K H hl ps/\ps.length<=100/\∀(b:Bool)(H':Hp),aH H H'->(b=true↔pR (bo ts) goal ps)->Q (.bl b) H'
theorem cf:aU ["wires","other","heights","told","house","height"] ["wires","other","heights"] (aI bF):=ad
set_option maxHeartbeats 2000000 in
theorem ku(F:aN K mg "_law_heights_right" bF)(T:Txt K mg t)(fB:Def P w K mg base 1 "_law_far" ["wires","goal"] (ls K)):Def P w K mg base 2 "_law_heights_right" ["wires","other","heights"] (eU K):=by
 refine F.def cf (λ_ _ _ _ _ _=>bv λ_ _ _=>rfl) (λvs H Q E h=>?_) (λf bj A outer s H vs Q E hr h=>?_)
 ·obtain⟨l,hl,goal,ts,ps,dh,rfl,_⟩:=h;rfl
 obtain⟨l,hl,goal,ts,ps,dh,rfl,hw,tl,pos,h6,en,hp,pl,q⟩:=h;refine⟨_,aF (au (aL (AO K (cu hr)) (gg rfl (Nc:=["pair"]) (ix:=[none]) (bR (aI bF) ["wires","other","heights","told","house","height"] rfl rfl (by decide +kernel)) (a9 K (pv 2)) (λC fp s H=>⟨(aO (i:=0) (show(["pair"]:List Str).Nodup by decide +kernel) rfl (Or.inl rfl)),bc,(aK (aP K) (pv 0) aD (λ_ _=>rfl))⟩)) (aT (d8 (cu hr)) (by rfl) T.cE boot_sorted (aA (aa (fB.mono (by decide)) hr av (aA (pv 0) (aA (pv 1) aE))) aE)) (aQ _))
   (aG (aX eQ))
   (aZ))
  (aF (aR (i:=3) cf.nd rfl (Or.inr rfl) sQ)
  (aF (PS.uI (bW PassesOwn.never rfl (a9 K (pv 2)) (fH K (i:=4) (j:=5) rfl cf.nd rfl rfl (Or.inl rfl) (Or.inl rfl))
   (aG (iW (bO hr) (pv 3) (pv 4) (pv 5) (by rfl)))))
  (aF (au (aL mm (cC (bO hr) (pv 3) (pv 1) (λ_ _=>rfl)) aD (aQ _))
   (aG (aX eQ))
   (aZ))
  (aG (aX (ba (Bb K (cu hr)) (gg rfl (Nc:=["wire","told"]) (ix:=[none,some 3]) (bR (aI bF) ["wires","other","heights","told","house","height"] rfl rfl (by decide +kernel)) (a9 K (pv 0)) (λC fp s H=>⟨(aO (i:=0) (show(["wire","told"]:List Str).Nodup by decide +kernel) rfl (Or.inl rfl)),(mN (PW.pt (jd (nN (sM (bO hr) (aK (aP K) (pv 0) aD (λ_ _=>rfl)) (pv 1)) (by rfl)) (iU (aL mq (aT Dx (by rfl) T.Nf boot_abs (aA (aW lD (cC (bO hr) (pv 1) (aK (aP K) (pv 0) aD (λ_ _=>rfl)) (λ_ _=>rfl)) (cC (bO hr) (pv 1) (aK (aP K) (pv 0) aD (λ_ _=>rfl)) (λ_ _=>rfl))) aE)) (aK (aP K) (pv 0) aD (λ_ _=>rfl)) (aQ _)))))),(pv 0)⟩)) (az aE) (aQ _))))))),?_⟩
 have hsz:(20000:Nat)<=sizeLine:=by decide
 have no:∀{H':Hp},aH H H'->¬pR (bo ts) goal ps->Q (.bl false) H':=λs h=>q false _ s ⟨λz=>(by cases z),λz=>absurd z h⟩;obtain⟨zs,z1,z2,z3⟩:=hp.ex;have zl:zs.length=ps.length:=by rw[<-z3,length_map]
 refine⟨_,rfl,hl,rfl,⟨_,aV.of z1⟩,λD hD=>?_⟩;refine dE (K:=K) (a:=hl) (xs:=zs.map λz=>V.ref z.1) (λi σ H'=>∃v0:Option V,σ=[v0]/\aH H H'/\H' D=some (.lst (((ps.take i).map (·.1)).map V.int))) ⟨none,rfl,(aH.refl _).new hD,aC⟩ (λi σ H' _ ⟨_,_,s,_⟩=>aV.of (s _ _ z1)) ?_ ?_
 ·rintro i y σ H1 N hN hi ⟨v0,rfl,s1,e1⟩;rw[getElem?_map]at hi;cases ez:zs[i]? with
  |none=>rw[ez]at hi;cases hi
  |some z =>
   rw[ez]at hi;cases hi;have il:i<ps.length:=(by rw[<-zl];exact(List.getElem?_eq_some_iff.mp ez).1);have ep:ps[i]?=some z.2:=(by rw[<-z3,getElem?_map,ez];rfl);refine cO ?_;refine⟨_,rfl,z.1,_,_,.int z.2.1,rfl,rfl,s1.tup (z2 z (mem_of_getElem? ez)),rfl,_,e1,by rw[length_map,length_map,length_take];lia,hN _ _ ⟨_,rfl,s1.put hD,?_⟩⟩;rw[aC,take_succ ep,map_append,map_append];rfl
 rintro σ H1 ⟨v0,rfl,s1,e1⟩;rw[length_map,zl,take_length]at e1;refine⟨_,rfl,_,rfl,l,goal,ts,dh,rfl,hw.same s1,pos,h6,en,λfd H2 fv s2 Vs e2 fr fl=>?_⟩;refine⟨fd,_,fv.map (·.1),rfl,e2,by rw[List.map_map,List.map_map];rfl,by rw[length_map];lia,λys sl Hu xu FE=>?_⟩;have s3:=(aH.refl H2).new (o:=.lst (ys.map V.int)) FE;have e3:(upd H2 sl (.lst (ys.map V.int))) sl=some (.lst (ys.map V.int)):=aC;generalize upd H2 sl (.lst (ys.map V.int))=H3 at s3 e3 ⊢;have S3:=s1.trans (s2.trans s3);have N8:ys.Pairwise (·<·):=B7 xu (Hu.nodup_iff.mpr fr.nd);have N9:∀x,x∈ys↔∃s,Wk (bo ts) goal x s:=λx=>Hu.mem_iff.trans (fr.keys x);refine⟨.list ((ps.map (·.1)).map .int),.list (ys.map .int),fU (aV.of ((s2.trans s3) _ _ e1)),fU (aV.of e3),_,rfl,?_⟩;rw[if_pos rfl,pQ];by_cases ck:ps.map (·.1)=ys
 case neg=>exact gh ck (no S3 λh=>ck (qM h.r N8 λx=>(h.k x).trans (N9 x).symm))
 refine fz ck ?_;have LV:(ps.map (·.1)).Pairwise (·<·):=by rw[ck];exact N8
 have Fc:∀x,x∈ps.map (·.1)↔∃s,Wk (bo ts) goal x s:=by rw[ck];exact N9
 have Q8:(ps.map (·.1)).Nodup:=LV.imp λz e=>by lia
 refine λho Oz=>?_;have s4:=(aH.refl H3).new (o:=.dK []) Oz;have e4:(upd H3 ho (.dK [])) ho=some (.dK (((ps.take 0)).map fS)):=aC;generalize upd H3 ho (.dK [])=H4 at s4 e4 ⊢
 let I:Nat->_->_->Prop:=λi σ H'=>∃v4 v5:Option V,σ=[some (.ref l),some (.int goal),some (.ref hl),some (.ref ho),v4,v5]/\aH H3 H'/\H' ho=some (.dK ((ps.take i).map fS))
 refine⟨_,rfl,hl,rfl,⟨_,aV.of ((S3.trans s4) _ _ z1)⟩,dv (K:=K) (a:=hl) (xs:=zs.map λz=>V.ref z.1) I ⟨none,none,rfl,s4,e4⟩ (λi σ H' _ ⟨_,_,_,s,_⟩=>aV.of ((S3.trans s) _ _ z1)) ?_ ?_⟩
 ·rintro i y σ H5 hi ⟨v4,v5,rfl,s5,e5⟩;rw[getElem?_map]at hi;cases ez:zs[i]? with
  |none=>rw[ez]at hi;cases hi
  |some z =>
   rw[ez]at hi;cases hi;have il:i<ps.length:=(by rw[<-zl];exact(List.getElem?_eq_some_iff.mp ez).1);have ep:ps[i]?=some z.2:=(by rw[<-z3,getElem?_map,ez];rfl);refine⟨z.1,_,rfl,(S3.trans s5).tup (z2 z (mem_of_getElem? ez)),rfl,_,_,rfl,_,_,rfl,rfl,?_⟩;refine⟨_,rfl,_,rfl,_,rfl,ho,_,rfl,Ci.k (k:=Sum.inl z.2.1) e5 (by rw[length_map,length_take];lia),?_⟩;refine⟨_,_,rfl,s5.put Oz,?_⟩;rw[aC,B3,take_succ ep];have ni:z.2.1∉(ps.take i).map (·.1):=λhm=>by
    rw[List.map_take]at hm;obtain⟨j,hj,e⟩:=List.getElem_of_mem hm;rw[length_take,length_map]at hj;rw[List.getElem_take]at e;have e2:(ps.map (·.1))[i]'(by rw[length_map];exact il)=z.2.1:=by rw[List.getElem_map];have:=(List.getElem?_eq_some_iff.mp ep).2;rw[this]
    rw[<-e2]at e;have:=(List.getElem_inj Q8).mp e;lia
   unfold j0;rw[if_neg ni]
 rintro σ H5 ⟨v4,v5,rfl,s5,e5⟩;rw[length_map,zl,take_length]at e5;have S5:=S3.trans s5;obtain⟨g,eg⟩:=j5 ((Fc goal).mpr ⟨0,.nil⟩);have gv:∀{H':Hp}{x n:Int},H' ho=some (.dK (ps.map fS))->lk ps x=some n->bh H' ho (.int x) (some (.int n)):=λ{H' x n} e h=>by have:=bh.k (k:=Sum.inl x) e;rw[gD,h]at this;exact this
 refine⟨_,rfl,_,rfl,ho,.int g,rfl,gv e5 eg,rfl,_,rfl,?_⟩;by_cases cg:g=0
 case neg =>
  refine gh (λz=>cg (V.int.inj z)) (no S5 λh=>?_);have:=h.g;rw[eg]at this;exact cg (Option.some.inj this)
 refine fz (congrArg V.int cg) ?_;subst cg;have OE:=A5 Fc LV eg;obtain⟨xs,x1,x2,x3⟩:=hw.same S5;have xl:xs.length=ts.length:=by rw[<-x3,length_map]
 refine⟨_,rfl,l,rfl,⟨_,aV.of x1⟩,λDw Sr=>?_⟩
 let J:Nat->_->_->Prop:=λi σ H'=>∃(v:Option V)(ys:List (V×T3)),σ=[v,some (.ref ho)]/\aH H5 H'/\H' Dw=some (.lst (ys.map (·.1)))/\ys.length<=i/\(ys=[]↔∀t∈ts.take i,¬CA ps t)
 refine dE (K:=K) (a:=l) (xs:=xs.map (·.1)) J ⟨none,[],rfl,(aH.refl _).new Sr,aC,le_refl _,⟨λ_ t ht=>absurd ht (by simp),λ_=>rfl⟩⟩ (λi σ H' _ ⟨_,_,_,s,_⟩=>aV.of (s _ _ x1)) ?_ ?_
 ·rintro i y σ H6 N hN hi ⟨v,ws,rfl,s6,e6,wl,OF⟩;rw[getElem?_map]at hi;cases ez:xs[i]? with
  |none=>rw[ez]at hi;cases hi
  |some zt =>
   rw[ez]at hi;obtain rfl:zt.1=y:=Option.some.inj hi;have et:ts[i]?=some zt.2:=(by rw[<-x3,getElem?_map,ez];rfl);have mt:=mem_of_getElem? et;have il:i<ts.length:=(List.getElem?_eq_some_iff.mp et).1;obtain⟨za,IG,g1⟩:=qL ((x2 zt (mem_of_getElem? ez)).same s6);have RK:=s6 _ _ e5;have skip:¬CA ps zt.2->N [some zt.1,some (.ref ho)] H6:=λnw=>by
    refine hN _ _ ⟨_,ws,rfl,s6,e6,by lia,?_⟩;rw[OF,take_succ et];constructor
    ·intro h t ht;rcases mem_append.mp ht with z|z
     ·exact h t z
     rw[mem_singleton.mp z];exact nw
    exact λh t ht=>h t (mem_append_left _ ht)
   refine⟨_,rfl,za,_,_,.int zt.2.1,IG,rfl,g1,rfl,_,rfl,ho,_,rfl,bh.k (k:=Sum.inl zt.2.1) RK,?_⟩;rw[gD];cases em:lk ps zt.2.1 with
   |none =>
    refine⟨false,rfl,gf (gf ?_)⟩;exact skip λ⟨m,n,a,_⟩=>by rw[em]at a;cases a
   |some m =>
    obtain⟨s,wk⟩:=(Fc zt.2.1).mp (Classical.byContradiction λz=>by rw[dG.mpr z]at em;cases em);obtain⟨n,L7⟩:=j5 ((Fc zt.2.2.1).mpr ⟨_,.cons (bA.mpr ⟨zt.2,mt,.inr rfl⟩) wk⟩);refine⟨true,rfl,eO ?_⟩;refine⟨_,rfl,_,rfl,za,_,_,.int zt.2.1,IG,rfl,g1,rfl,ho,.int m,rfl,gv RK em,_,rfl,_,rfl,za,_,_,.int zt.2.2.1,IG,rfl,g1,rfl,ho,.int n,rfl,gv RK L7,_,_,rfl,rfl,_,rfl,?_⟩;refine⟨_,rfl,za,_,_,.int zt.2.2.2,IG,rfl,g1,rfl,_,_,rfl,rfl,_,rfl,?_⟩;by_cases c:(if m-n<0 then -(m-n)else m-n)>zt.2.2.2
    ·refine bx c ?_;have wd:CA ps zt.2:=⟨m,n,em,L7,by split at c<;>lia⟩;refine⟨_,rfl,_,e6,by rw[length_map];lia,hN _ _ ⟨_,ws++[zt],rfl,s6.put Sr,by rw[aC,map_append];rfl,by rw[length_append];show ws.length+1<=i+1;lia,⟨λz=>absurd z (by simp),λz=>?_⟩⟩⟩;exact absurd wd (z zt.2 (by rw[take_succ et];exact mem_append_right _ mem_cons_self))
    refine cB c (skip ?_);rintro⟨m',n',a,b,d⟩;rw[em]at a;rw[L7]at b;cases a;cases b;split at c<;>lia
 rintro σ H6 ⟨v,ws,rfl,s6,e6,wl,OF⟩;rw[length_map,xl,take_length]at OF;refine⟨zz0,λel Ae=>?_⟩;have s7:=(aH.refl H6).new (o:=.lst []) Ae;have e7:(upd H6 el (.lst [])) el=some (.lst []):=aC;generalize upd H6 el (.lst [])=H7 at s7 e7 ⊢;have S7:=S5.trans (s6.trans s7);by_cases c:ws=[]
 ·refine⟨Dw,el,_,_,rfl,rfl,aV.of (s7 _ _ e6),aV.of e7,.inl ⟨by rw[c];rfl,λj u v hu hv=>(by cases hv),?_⟩⟩;exact q _ H7 S7 ⟨λ_=>OE.mpr (OF.mp c),λ_=>rfl⟩
 refine⟨Dw,el,_,_,rfl,rfl,aV.of (s7 _ _ e6),aV.of e7,.inr ⟨λz=>c (by rw[length_map]at z;exact List.length_eq_zero_iff.mp z),?_⟩⟩;exact no S7 λz=>c (OF.mpr (OE.mp z))
def lu(K:W.Frag):Sp:=λvs H Q _=>∃(l an:Addr)(one other:Int)(ts:List T3)(dh:List Int),vs=[.ref l,.int one,.int other,.ref an]/\ng K H l ts/\vZ ts/\ts.length<=60/\(∀t∈ts,1<=t.2.2)/\dh.length=6/\(∀t∈ts,t.1∈dh/\t.2.1∈dh) /\
 ((∃(wa hl:Addr)(ws:List Int)(ps:Hv),ab K H an [.str "way",.ref wa,.ref hl]/\ab K H wa (ws.map V.int)/\ws.length<=1000/\hV K H hl ps/\ps.length<=100/\∀(b:Bool)(H':Hp),aH H H'->(b=true↔qx (bo ts) one other ws ps)->Q (.bl b) H') \/
  (∃(sd:Addr)(ns:List Int),ab K H an [.str "side",.ref sd]/\ab K H sd (ns.map V.int)/\ns.length<=1000/\∀(b:Bool)(H':Hp),aH H H'->(b=true↔pU (bo ts) one other ns)->Q (.bl b) H'))
theorem qy:aU ["wires","one","other","answer","way"] ["wires","one","other","answer"] (aI jx):=ad
set_option maxHeartbeats 2000000 in
theorem zR(F:aN K mg "_law_due" jx)(T:Txt K mg t)(eI:Def P w K mg base 1 "_law_side_right" ["wires","one","other","side"] (iD K))(fQ:Def P w K mg base 1 "_law_length" ["wires","way"] (lr K))(cy:Def P w K mg base 2 "_law_heights_right" ["wires","other","heights"] (eU K)):Def P w K mg base 3 "_law_due" ["wires","one","other","answer"] (lu K):=by
 refine F.def qy (λ_ _ _ _ _ _=>ce λ_ _ _ _=>rfl) (λvs H Q E h=>?_) (λf bj A outer s H vs Q E hr h=>?_)
 ·obtain⟨l,an,one,other,ts,dh,rfl,_⟩:=h;rfl
 obtain⟨l,an,one,other,ts,dh,rfl,hl,td,tl,pos,h6,en,hz⟩:=h;refine⟨_,aF (au (aL bX (aK (aP K) (pv 3) aD (λ_ _=>rfl)) gZ (aQ _))
   (aG (aX (aa (eI.mono (by decide)) hr av (aA (pv 0) (aA (pv 1) (aA (pv 2) (aA (aK (aP K) (pv 3) aD (λ_ _=>rfl)) aE)))))))
   (aZ))
  (aF (aR (i:=4) qy.nd rfl (Or.inl rfl) (aK (aP K) (pv 3) aD (λ_ _=>rfl)))
  (aF (au (PW.pt (kY (aL bX (aT (bL K) (by rfl) T.eT boot_len (aA (pv 4) aE)) aD (aQ _)) (kY (aL mm (aK (aP K) (pv 4) aD (λ_ _=>rfl)) (pv 1) (aQ _)) (kY (aL mm (aK (aP K) (pv 4) (jS eW aD) (λ_ _=>rfl)) (pv 2) (aQ _)) (ky (aL mm (aT (qF P w) (by rfl) T.eT boot_len (aA (bB (jY P w K) (by rfl) T.zA boot_set (aA (pv 4) aE)) aE)) (aT (bL K) (by rfl) T.eT boot_len (aA (pv 4) aE)) (aQ _)))))))
   (aG (aX eQ))
   (aZ))
  (aF (au (PW.pt (kY (aL J3 (aa (fQ.mono (by decide)) hr av (aA (pv 0) (aA (pv 4) aE))) pV (aQ _)) (ky (k9 (ij (aa (cy.mono (by decide)) hr av (aA (pv 0) (aA (pv 2) (aA (aK (aP K) (pv 3) aD (λ_ _=>rfl)) aE)))))))))
   (aG (aX eQ))
   (aZ))
  (aG (aX (ba (EZ K (cu hr)) (ag (aA (pv 1) (aA (aa (fQ.mono (by decide)) hr av (aA (pv 0) (aA (pv 4) aE))) aE))) (aK (aP K) (pv 3) aD (λ_ _=>rfl)) (by rfl))))))),?_⟩
 have hsz:(20000:Nat)<=sizeLine:=by decide
 have sb:2000<scanBound:=by decide
 rcases hz.symm with⟨sd,ns,ha,hs,nl,q⟩|⟨wa,hh,ws,ps,ha,hw,wl,hp,pl,q⟩
 ·refine⟨_,rfl,an,_,_,.str "side",rfl,rfl,ha,rfl,rfl,_,rfl,bx rfl ?_⟩;refine⟨_,rfl,_,rfl,_,rfl,_,rfl,an,_,_,.ref sd,rfl,rfl,ha,rfl,l,sd,one,other,ts,ns,rfl,hl,tl,hs,nl,λb H1 s1 hb=>?_⟩;exact q b H1 s1 (hb.trans A4)
 refine⟨_,rfl,an,_,_,.str "way",rfl,rfl,ha,rfl,rfl,_,rfl,cB (by decide) ?_⟩;have no:∀{H':Hp},aH H H'->¬qx (bo ts) one other ws ps->Q (.bl false) H':=λs h=>q false _ s ⟨λz=>(by cases z),λz=>absurd z h⟩;refine⟨_,rfl,an,_,_,.ref wa,rfl,rfl,ha,rfl,?_⟩;refine⟨_,rfl,wa,_,rfl,.inr hw,rfl,_,rfl,?_⟩;by_cases c0:ws=[]
 ·subst c0;refine bx rfl (eO ?_);exact no (.refl _) λh=>by have:=h.1.h;cases this
 have Ss:0<ws.length:=List.length_pos_iff.mpr c0;refine cB (λe=>c0 ?_) ?_
 ·have:=V.int.inj e;rw[length_map]at this;exact List.length_eq_zero_iff.mp (by lia)
 obtain⟨a,ea⟩:∃a,ws[0]?=some a:=⟨ws[0]'Ss,by simp[Ss]⟩;refine⟨_,rfl,wa,_,_,.int a,rfl,rfl,hw,(by have z:=bG (show(ws.map V.int)[0]?=some (V.int a) by rw[getElem?_map,ea];rfl);exact z),_,rfl,rfl,_,rfl,?_⟩;by_cases c1:a=one
 case neg =>
  refine gh (λe=>c1 (V.int.inj e)) (eO ?_);refine no (.refl _) λh=>?_;have:=h.1.h;rw[ea]at this;exact c1 (Option.some.inj this)
 refine fz (congrArg V.int c1) ?_;subst c1;obtain⟨pre,z,rfl⟩:∃pre z,ws=pre++[z]:=⟨ws.dropLast,ws.getLast c0,(List.dropLast_concat_getLast _).symm⟩;have la:jh ((pre++[z]).map V.int) (-1)=some (V.int z):=by rw[map_append];exact oW _ _
 refine⟨_,rfl,1,rfl,wa,_,_,.int z,rfl,rfl,hw,la,_,rfl,rfl,_,rfl,?_⟩;by_cases c2:z=other
 case neg =>
  refine gh (λe=>c2 (V.int.inj e)) (eO ?_);refine no (.refl _) λh=>?_;have:=h.1.l;rw[List.getLast?_concat]at this;exact c2 (Option.some.inj this)
 refine fz (congrArg V.int c2) ?_;subst c2;have hk:ab K H wa (((pre++[z]).map (Sum.inl:Int->Key)).map kV):=by rw[<-lP];exact hw
 refine⟨_,rfl,wa,(pre++[z]).map Sum.inl,rfl,.inr hk,by rw[length_map];lia,λp LK=>?_⟩;have s1:=(aH.refl H).new (o:=gy P w p ((pre++[z]).map (Sum.inl:Int->Key)).reverse) LK;refine⟨p,_,rfl,aC,_,rfl,wa,_,rfl,.inr (s1.tup hw),rfl,_,rfl,?_⟩;have hn:((pre++[z]).map (Sum.inl:Int->Key)).reverse.length=(pre++[z]).length:=by rw[List.length_reverse,length_map]
 by_cases c3:(pre++[z]).Nodup
 case neg =>
  refine gh (λe=>c3 ?_) (no s1 λh=>c3 h.1.n);have e:=V.int.inj e;rw[length_map]at e;exact gU.mp (gT.mp ((gs _).mp (by rw[hn];lia)))
 refine fz ?_ ?_
 ·have:=(gs _).mpr (gT.mpr (gU.mpr c3));rw[this,hn,length_map]
 have RL:B6 (pre++[z]) a z:=⟨ea,by simp,c3⟩;refine⟨_,rfl,_,rfl,l,wa,ts,pre++[z],rfl,hl.same s1,td,tl,s1.tup hw,wl,λH2 s2=>?_⟩;have S2:=s1.trans s2;refine⟨rfl,_,rfl,?_⟩;cases el:fg (bo ts) (pre++[z])with
 |none =>
  refine bx rfl (eO ?_);refine no S2 λ⟨_,_,cw,e,_⟩=>?_;rw[el]at e;cases e
 |some cw =>
  refine cB (by intro z;cases z) ?_;refine⟨_,rfl,_,rfl,_,rfl,an,_,_,.ref hh,rfl,rfl,S2.tup ha,rfl,l,hh,z,ts,ps,dh,rfl,hl.same S2,tl,pos,h6,en,hp.same S2,pl,λb H3 s3 hb=>?_⟩;have S3:=S2.trans s3;refine⟨b,rfl,?_⟩;cases b with
  |false =>
   refine(show if(!false)=true then _ else _ from eO ?_);exact no S3 λh=>by have:=hb.mpr h.2.1;cases this
  |true =>
   refine(show if(!true)=true then _ else _ from gf ?_);have JP:=hb.mp rfl;refine⟨_,rfl,_,rfl,_,rfl,l,wa,ts,pre++[z],rfl,hl.same S3,td,tl,S3.tup hw,wl,λH4 s4=>?_⟩;rw[el];refine⟨zz2,λtp mx=>?_⟩;have s5:=(aH.refl H4).new (o:=.tup [.int a,oV (some cw)]) mx;obtain⟨zs,z1,z2,z3⟩:=hp.ex;have S5:=S3.trans (s4.trans s5);have e5:ab K (upd H4 tp (.tup [.int a,oV (some cw)])) tp ([some a,some cw].map ent):=ab.of aC;generalize upd H4 tp (.tup [.int a,oV (some cw)])=H5 at s5 S5 e5 ⊢;have tb:zs.map (λz=>V.ref z.1)=uO zs.length λj=>((zs[j]?).map (·.1)).getD 0:=by refine List.ext_getElem (by simp[uO,wM]) λi i1 i2=>?_;have:i<zs.length:=(by simpa using i1);simp[uO,wM,this]
   refine⟨_,rfl,an,_,_,.ref hh,rfl,rfl,S5.tup ha,rfl,tp,hh,[some a,some cw],zs.length,λj=>((zs[j]?).map (·.1)).getD 0,λj=>(zs[j]?.map λz=>[some z.2.1,some z.2.2]).getD [],rfl,rfl,e5,by rw[<-tb];exact aV.of (S5 _ _ z1),λj hj=>?_,?_⟩
   ·have:zs[j]?=some zs[j]:=(by simp[hj]);simp only[this,Option.map_some,Option.getD_some];exact S5.tup (z2 _ (List.getElem_mem hj))
   rw[if_neg (by decide)];refine q _ H5 S5 ?_;rw[List.any_eq_true];constructor
   ·rintro⟨j,hj,ej⟩;have hj:=List.mem_range.mp hj;have ez:zs[j]?=some zs[j]:=(by simp[hj]);simp only[ez,Option.map_some,Option.getD_some,decide_eq_true_eq,List.cons.injEq,and_true,Option.some.injEq]at ej;refine⟨RL,JP,cw,el,?_⟩;rw[<-z3];exact List.mem_map.mpr ⟨zs[j],List.getElem_mem hj,Prod.ext ej.1 ej.2⟩
   rintro⟨_,_,RA,e',hm⟩;rw[el]at e';cases e';rw[<-z3]at hm;obtain⟨y,hy,ey⟩:=List.mem_map.mp hm;obtain⟨j,hj,rfl⟩:=List.getElem_of_mem hy;refine⟨j,List.mem_range.mpr hj,?_⟩;have e0:zs[j]?=some zs[j]:=(by simp[hj]);simp[e0,ey]
theorem IP(a b:Int):bf (.int a) (.int b)=decide (a<b):=by simp only[bf]
theorem RM(ns:List Int):rD (ns.map PyData.int):=pC (κ:=Int) (key:=id) (λa b h=>by lia) (λa b c h1 h2=>by lia) IP (λs t=>by simp[uE]) (.ints λd hd=>by obtain⟨w,_,rfl⟩:=List.mem_map.mp hd;exact⟨_,rfl⟩)
def Dn(ds:List Int):Prop:=ds.length=8/\∀(i:Nat)(m b:Int),ds[i]?=some m->([10,100,12,4,200,4,8,8]:List Int)[i]?=some b->0<=m/\m<b
theorem Dn.at{ds:List Int}(h:Dn ds)(i:Nat)(b:Int)(hb:([10,100,12,4,200,4,8,8]:List Int)[i]?=some b)(hi:i<8):∃m:Int,(0<=m/\m<b)/\jh (ds.map V.int) (i:Int)=some (.int m):=by
 have il:i<ds.length:=by rw[h.1];exact hi
 have e:ds[i]?=some ds[i]:=by simp[il]
 exact⟨ds[i],h.2 i _ b e hb,bG (by rw[getElem?_map,e];rfl)⟩
theorem lz{m n:Int}(m0:0<=m)(n0:0<n)(h:n<=(os.length:Nat)):∃x∈os,jh (os.map V.int) (m%n)=some (.int x):=by
 have h0:=Int.emod_nonneg m (show n≠0 by lia);have h1:=Int.emod_lt_of_pos m n0;obtain⟨k,hk⟩:∃k:Nat,m%n=(k:Int):=⟨(m%n).toNat,by lia⟩;have kl:k<os.length:=by lia
 exact⟨os[k],List.getElem_mem kl,by rw[hk];exact bG (by simp[kl])⟩
def gE(K:W.Frag):Sp:=λvs H Q _=>∃(sd dl hl:Addr)(ns ds os:List Int),vs=[.ref sd,.ref dl,.ref hl]/\ab K H sd (ns.map V.int)/\1<=ns.length/\ns.length<=20/\aV K H dl (ds.map V.int)/\Dn ds/\aV K H hl (os.map V.int)/\os.length=8/\∀(r:Addr)(H':Hp)(ms:List Int),aH H H'->ab K H' r (ms.map V.int)->ms.length<=40->Q (.ref r) H'
theorem ay:aU ["side","drawn","houses","made","way","at"] ["side","drawn","houses"] (aI bY):=ad
set_option maxHeartbeats 2000000 in
theorem mh(F:aN K mg "_law_side_spoilt" bY)(T:Txt K mg t):Def P w K mg base 1 "_law_side_spoilt" ["side","drawn","houses"] (gE K):=by
 refine F.def ay (λ_ _ _ _ _ _=>bv λ_ _ _=>rfl) (λvs H Q E h=>?_) (λf bj A outer s H vs Q E hr h=>?_)
 ·obtain⟨sd,dl,hl,ns,ds,os,rfl,_⟩:=h;rfl
 obtain⟨sd,dl,hl,ns,ds,os,rfl,hs,n1,Vt,hd,dn,hh,o8,q⟩:=h;refine⟨_,aF (aR (i:=3) ay.nd rfl (Or.inl rfl) (bB (gn K) (by rfl) T.tF boot_list (aA (pv 0) aE)))
  (aF (aR (i:=4) ay.nd rfl (Or.inl rfl) (aK (aJ K) (pv 1) aD (λ_ _=>rfl)))
  (aF (aR (i:=5) ay.nd rfl (Or.inl rfl) (aW bK (aK (aJ K) (pv 1) aD (λ_ _=>rfl)) (aT (bL K) (by rfl) T.eT boot_len (aA (pv 3) aE))))
  (aF (p9 (au (aL lE (pv 4) aD (aQ _))
   (aG (aR (i:=3) ay.nd rfl (Or.inl rfl) (aT (o5 P w (cu hr)) (by rfl) T.cE boot_sorted (aA (bB (jY P w K) (by rfl) T.zA boot_set (aA (aW (fG K) (pv 3) (az (aA (aK (aJ K) (pv 2) (aW bK (aK (aJ K) (pv 1) aD (λ_ _=>rfl)) aD) (λ_ _=>rfl)) aE))) aE)) aE))))
   (aG (au (aL lE (pv 4) aD (aQ _))
    (aG (dy (i:=3) ay.nd rfl (Or.inl rfl) rfl (Nc:=["house","houses","drawn"]) (ix:=[none,some 2,some 1]) (bR (aI bY) ["side","drawn","houses","made","way","at"] rfl rfl (by decide +kernel)) (a9 K (pv 3)) (λC fp s H=>⟨(aO (i:=0) (show(["house","houses","drawn"]:List Str).Nodup by decide +kernel) rfl (Or.inl rfl)),(mN (aL mm (pv 0) (aK (aJ K) (pv 1) (aW bK (aK (aJ K) (pv 2) aD (λ_ _=>rfl)) aD) (λ_ _=>rfl)) (aQ _))),(pv 0)⟩)))
    (aG (au (aL bX (pv 4) aD (aQ _))
     (aG (bM (jq K PySem.F.plainAttrs_list PySem.F.slot_list_insert PySem.F.type_list_insert vO (pv 3) (aA (pv 5) (aA (aK (aJ K) (pv 3) (pv 5) (λ_ _=>rfl)) aE)))))
     (aG (au (aL bX (pv 4) aD (aQ _))
      (aG (bM (BY K PySem.F.plainAttrs_list PySem.F.slot_list_reverse PySem.F.type_list_reverse rq (pv 3))))
      (aG (au (aL bX (pv 4) aD (aQ _))
       (aG (aR (i:=3) ay.nd rfl (Or.inl rfl) (aK (aJ K) (az (aA (aW (fG K) (az (aA (jS eW aD) aE)) (pv 3)) (aA (aW (fG K) (pv 3) (az (aA (aW bP aD (aK (aJ K) (pv 1) aD (λ_ _=>rfl))) aE))) aE))) (aW bK (aK (aJ K) (pv 1) aD (λ_ _=>rfl)) aD) (λ_ _=>rfl))))
       (aG (au (aL lE (pv 4) aD (aQ _))
        (aG (aR (i:=3) ay.nd rfl (Or.inl rfl) (aK (aJ K) (az (aA (aT (dc K (cu hr)) (by rfl) T.cE boot_sorted (aA (pv 2) aE)) (aA (az aE) aE))) (aW lD (pv 4) aD) (λ_ _=>rfl))))
        (aZ)))))))))))))
  (aG (aX (bB (dY K) (by rfl) T.mY boot_tuple (aA (pv 3) aE))))))),?_⟩
 have hsz:(20000:Nat)<=sizeLine:=by decide
 have sb:2000<scanBound:=by decide
 obtain⟨d0,b0,a0⟩:=dn.at 0 10 rfl (by decide);obtain⟨d1,b1,a1⟩:=dn.at 1 100 rfl (by decide);obtain⟨d2,b2,a2⟩:=dn.at 2 12 rfl (by decide);refine⟨_,rfl,sd,_,rfl,.inr hs,λD hD=>?_⟩;have s1:=(aH.refl H).new (o:=.lst (ns.map V.int)) hD;have e1:(upd H D (.lst (ns.map V.int))) D=some (.lst (ns.map V.int)):=aC;generalize upd H D (.lst (ns.map V.int))=H1 at s1 e1 ⊢;have A6:=s1.seq hd;have L8:=s1.seq hh;refine⟨_,rfl,dl,_,_,.int d0,rfl,rfl,A6,a0,?_⟩;have np:(0:Int)<(((ns.map V.int).length:Nat):Int):=by rw[length_map];lia
 refine⟨_,rfl,dl,_,_,.int d1,rfl,rfl,A6,a1,_,rfl,D,_,rfl,.inl (aV.of e1),_,_,rfl,rfl,np,?_⟩;obtain⟨k,hk,kl⟩:∃k:Nat,d1%(((ns.map V.int).length:Nat):Int)=(k:Int)/\k<ns.length:=by have h0:=Int.emod_nonneg d1 (show(((ns.map V.int).length:Nat):Int)≠0 by lia);have h1:=Int.emod_lt_of_pos d1 np;rw[length_map]at h0 h1 ⊢;exact⟨(d1%(ns.length:Nat)).toNat,by lia,by lia⟩
 show lB 5 (V.int (d1%(((ns.map V.int).length:Nat):Int))) _ _ _;rw[hk];obtain⟨y,ey⟩:∃y,ns[k]?=some y:=⟨ns[k],by simp[kl]⟩;have OG:jh (ns.map V.int) (k:Int)=some (.int y):=bG (by rw[getElem?_map,ey];rfl)
 let Sm:L2.St->Hp->Prop:=λσ H'=>∃(r:Addr)(ms:List Int),σ=[some (.ref sd),some (.ref dl),some (.ref hl),some (.ref r),some (.int d0),some (.int k)]/\aH H H'/\H' r=some (.lst (ms.map V.int))/\ms.length<=40
 refine⟨Sm,?_,?_⟩
 ·refine⟨_,rfl,_,_,rfl,rfl,_,rfl,?_⟩;refine kr (λ_=>?_) (λc2=>?_)
  ·
   obtain⟨x,_,ax⟩:=lz (os:=os) b2.1 (show(0:Int)<8 by decide) (by lia);refine⟨_,rfl,_,rfl,_,rfl,dl,_,_,.int d2,rfl,rfl,A6,a2,_,_,rfl,rfl,(by show(0:Int)<8;decide),hl,_,_,.int x,rfl,rfl,L8,ax,zz1,λp hp=>?_⟩;have s2:=(aH.refl H1).new (o:=.lst [.int x]) hp;have e2:(upd H1 p (.lst [.int x])) p=some (.lst ([x].map V.int)):=aC;generalize upd H1 p (.lst [.int x])=H2 at s2 e2 ⊢;refine⟨D,p,_,_,rfl,rfl,aV.of (s2 _ _ e1),aV.of e2,by rw[length_map];show _+1<=sizeLine;lia,λp2 sJ=>?_⟩;rw[<-map_append];have s3:=(aH.refl H2).new (o:=.lst ((ns++[x]).map V.int)) sJ;have e3:(upd H2 p2 (.lst ((ns++[x]).map V.int))) p2=some (.lst ((ns++[x]).map V.int)):=aC;generalize upd H2 p2 (.lst ((ns++[x]).map V.int))=H3 at s3 e3 ⊢;have Su:aV K H3 p2 (((ns++[x]).map (Sum.inl:Int->Key)).map kV):=(by rw[<-lP];exact aV.of e3);have nx:(ns++[x]).length<=21:=(by rw[length_append];show ns.length+1<=21;lia);generalize ns++[x]=n4 at e3 Su nx;refine⟨p2,n4.map Sum.inl,rfl,.inl Su,by rw[length_map];lia,λps Vu=>?_⟩;have s5:=(aH.refl H3).new (o:=gy P w ps (n4.map (Sum.inl:Int->Key)).reverse) Vu;have e5:(upd H3 ps (gy P w ps (n4.map (Sum.inl:Int->Key)).reverse)) ps=some (gy P w ps (n4.map (Sum.inl:Int->Key)).reverse):=aC;generalize upd H3 ps (gy P w ps (n4.map (Sum.inl:Int->Key)).reverse)=H5 at s5 e5 ⊢;have xr:(dd (n4.map (Sum.inl:Int->Key)).reverse).length<=21:=by have:=sW (n4.map (Sum.inl:Int->Key)).reverse;rw[List.length_reverse,length_map]at this;lia
   refine⟨ps,n4,rfl,e5,by lia,λys r ry my uR=>?_⟩;have yl:ys.length<=21:=by have:=dS n4 ys (ry.imp λz e=>by lia) λz hz=>(my z).mp hz;lia
   exact⟨r,ys,rfl,s1.trans (s2.trans (s3.trans (s5.new uR))),aC,by lia⟩
  refine⟨_,rfl,_,_,rfl,rfl,_,rfl,?_⟩;refine kr (λ_=>?_) (λc4=>?_)
  ·
   obtain⟨x,_,ax⟩:=lz (os:=os) b2.1 (show(0:Int)<8 by decide) (by lia);refine⟨_,rfl,D,rfl,⟨_,aV.of e1⟩,λD2 Bv=>?_⟩
   let J:Nat->_->_->Prop:=λi σ H'=>∃(v:Option V)(ys:List Int),σ=[v,some (.ref hl),some (.ref dl)]/\aH H1 H'/\H' D2=some (.lst (ys.map V.int))/\ys.length<=i
   refine dE (K:=K) (a:=D) (xs:=ns.map V.int) J ⟨none,[],rfl,(aH.refl _).new Bv,aC,le_refl _⟩ (λi σ H' _ ⟨_,_,_,s,_⟩=>aV.of (s _ _ e1)) ?_ ?_
   ·rintro i y σ H4 N hN hi ⟨v,ys,rfl,s4,e4,yl⟩;obtain⟨n,en,rfl⟩:=gF hi;have il:i<ns.length:=(List.getElem?_eq_some_iff.mp en).1;refine⟨_,rfl,_,rfl,_,rfl,dl,_,_,.int d2,rfl,rfl,s4.seq A6,a2,_,_,rfl,rfl,(by show(0:Int)<8;decide),hl,_,_,.int x,rfl,rfl,s4.seq L8,ax,rfl,_,rfl,?_⟩;refine kr (λ_=>?_) (λ_=>hN _ _ ⟨_,ys,rfl,s4,e4,by lia⟩);exact⟨_,rfl,_,e4,by rw[length_map];lia,hN _ _ ⟨_,ys++[n],rfl,s4.put Bv,by rw[aC,map_append];rfl,by rw[length_append];show ys.length+1<=i+1;lia⟩⟩
   rintro σ H4 ⟨v,ys,rfl,s4,e4,yl⟩;rw[length_map]at yl;exact⟨D2,ys,rfl,s1.trans s4,e4,by lia⟩
  refine⟨_,rfl,rfl,_,rfl,?_⟩;refine kr (λ_=>?_) (λf4=>?_)
  ·
   refine⟨_,rfl,.inl ⟨rfl,_,aV.of e1⟩,_,rfl,_,rfl,_,rfl,D,_,_,.int y,rfl,rfl,aV.of e1,OG,D,ns.map V.int,k,.int y,rfl,rfl,e1,by rw[length_map];lia,by rw[length_map];lia,?_⟩;refine⟨D,ns.take k++y::ns.drop k,rfl,s1.put hD,?_,?_⟩
   ·rw[aC,map_append,List.map_cons,List.map_take,List.map_drop]
   rw[length_append,length_cons,length_take,List.length_drop];lia
  refine⟨_,rfl,rfl,_,rfl,?_⟩;refine kr (λ_=>?_) (λf5=>?_)
  ·
   refine⟨_,rfl,.inl ⟨rfl,_,aV.of e1⟩,D,_,rfl,rfl,e1,?_⟩;exact⟨D,ns.reverse,rfl,s1.put hD,by rw[aC,List.map_reverse],by rw[List.length_reverse];lia⟩
  refine⟨_,rfl,rfl,_,rfl,?_⟩;refine kr (λ_=>?_) (λf6=>?_)
  ·
   refine⟨1,rfl,zz1,λp hp=>?_⟩;have s2:=(aH.refl H1).new (o:=.lst [.int (-1)]) hp;have e2:(upd H1 p (.lst [.int (-1)])) p=some (.lst ([-1].map V.int)):=aC;generalize upd H1 p (.lst [.int (-1)])=H2 at s2 e2 ⊢;refine⟨_,rfl,p,D,_,_,rfl,rfl,aV.of e2,aV.of (s2 _ _ e1),by rw[length_map,length_map];show 1+_<=sizeLine;lia,λp2 sJ=>?_⟩;rw[<-map_append];have s3:=(aH.refl H2).new (o:=.lst (([-1]++ns).map V.int)) sJ;have e3:(upd H2 p2 (.lst (([-1]++ns).map V.int))) p2=some (.lst (([-1]++ns).map V.int)):=aC;generalize upd H2 p2 (.lst (([-1]++ns).map V.int))=H3 at s3 e3 ⊢;have S3:=s2.trans s3;refine⟨_,rfl,_,rfl,dl,_,_,.int d1,rfl,rfl,S3.seq A6,a1,_,_,rfl,rfl,zz1,λp3 GG=>?_⟩;have s4:=(aH.refl H3).new (o:=.lst [.int (32+d1)]) GG;have e4:(upd H3 p3 (.lst [.int (32+d1)])) p3=some (.lst ([32+d1].map V.int)):=aC;generalize upd H3 p3 (.lst [.int (32+d1)])=H4 at s4 e4 ⊢;refine⟨D,p3,_,_,rfl,rfl,aV.of ((S3.trans s4) _ _ e1),aV.of e4,by rw[length_map,length_map];show _+1<=sizeLine;lia,λp4 LP=>?_⟩;rw[<-map_append];have s5:=(aH.refl H4).new (o:=.lst ((ns++[32+d1]).map V.int)) LP;have e5:(upd H4 p4 (.lst ((ns++[32+d1]).map V.int))) p4=some (.lst ((ns++[32+d1]).map V.int)):=aC;generalize upd H4 p4 (.lst ((ns++[32+d1]).map V.int))=H5 at s5 e5 ⊢;refine⟨zz2,λp5 RN=>?_⟩;have s6:=(aH.refl H5).new (o:=.lst [.ref p2,.ref p4]) RN;have e6:(upd H5 p5 (.lst [.ref p2,.ref p4])) p5=some (.lst [.ref p2,.ref p4]):=aC;generalize upd H5 p5 (.lst [.ref p2,.ref p4])=H6 at s6 e6 ⊢;have S6:=S3.trans (s4.trans (s5.trans s6));have m2:d2%2=0\/d2%2=1:=(by lia);rcases m2 with m2|m2
   ·refine⟨_,rfl,dl,_,_,.int d2,rfl,rfl,S6.seq A6,a2,_,_,rfl,rfl,(by show(0:Int)<2;decide),p5,_,_,.ref p2,rfl,rfl,aV.of e6,by rw[m2];rfl,?_⟩;exact⟨p2,[-1]++ns,rfl,s1.trans S6,(s4.trans (s5.trans s6)) _ _ e3,by rw[length_append];show 1+ns.length<=40;lia⟩
   refine⟨_,rfl,dl,_,_,.int d2,rfl,rfl,S6.seq A6,a2,_,_,rfl,rfl,(by show(0:Int)<2;decide),p5,_,_,.ref p4,rfl,rfl,aV.of e6,by rw[m2];rfl,?_⟩;exact⟨p4,ns++[32+d1],rfl,s1.trans S6,s6 _ _ e5,by rw[length_append];show ns.length+1<=40;lia⟩
  refine⟨_,rfl,_,_,rfl,rfl,_,rfl,?_⟩;by_cases c9:d0<9
  ·refine bx c9 ?_;refine⟨_,rfl,true,hl,os.map (λn=>(V.int n,PyData.int n)),rfl,by rw[List.map_map];exact L8,by rw[length_map];lia,λz hz=>?_,by rw[List.map_map];exact RM os,λys p hy _ hp=>?_⟩
   ·obtain⟨n,_,rfl⟩:=List.mem_map.mp hz;exact .int n
   obtain⟨y2,O7,RO⟩:=perm_back (λn:Int=>(V.int n,PyData.int n)) hy os rfl;have ev:ys.map (·.1)=y2.map V.int:=(by rw[RO,List.map_map];rfl);rw[ev];have s2:=(aH.refl H1).new (o:=.lst (y2.map V.int)) hp;have e2:(upd H1 p (.lst (y2.map V.int))) p=some (.lst (y2.map V.int)):=aC;generalize upd H1 p (.lst (y2.map V.int))=H2 at s2 e2 ⊢;refine⟨zz0,λp2 sJ=>?_⟩;have s3:=(aH.refl H2).new (o:=.lst []) sJ;have e3:(upd H2 p2 (.lst [])) p2=some (.lst (([]:List Int).map V.int)):=aC;generalize upd H2 p2 (.lst [])=H3 at s3 e3 ⊢;refine⟨zz2,λp5 RN=>?_⟩;have s6:=(aH.refl H3).new (o:=.lst [.ref p,.ref p2]) RN;have e6:(upd H3 p5 (.lst [.ref p,.ref p2])) p5=some (.lst [.ref p,.ref p2]):=aC;generalize upd H3 p5 (.lst [.ref p,.ref p2])=H6 at s6 e6 ⊢;have S6:=s2.trans (s3.trans s6);have g4:¬d0<4:=λh=>c4 (decide_eq_true h);have h4:d0≠4:=λh=>f4 (decide_eq_true (congrArg V.int h));have h5:d0≠5:=λh=>f5 (decide_eq_true (congrArg V.int h));have h6:d0≠6:=λh=>f6 (decide_eq_true (congrArg V.int h));rcases(show d0-7=0\/d0-7=1 by lia)with m2|m2
   ·refine⟨_,rfl,_,_,rfl,rfl,p5,_,_,.ref p,rfl,rfl,aV.of e6,by rw[m2];rfl,?_⟩;exact⟨p,y2,rfl,s1.trans S6,(s3.trans s6) _ _ e2,by rw[O7.length_eq];lia⟩
   refine⟨_,rfl,_,_,rfl,rfl,p5,_,_,.ref p2,rfl,rfl,aV.of e6,by rw[m2];rfl,?_⟩;exact⟨p2,[],rfl,s1.trans S6,s6 _ _ e3,by decide⟩
  exact cB c9 ⟨D,ns,rfl,s1,e1,by lia⟩
 rintro σ H2 ⟨r,ms,rfl,s2,e2,ml⟩;refine⟨_,rfl,r,_,rfl,.inl ⟨aV.of e2,λtp mx=>?_⟩⟩;exact q tp _ ms (s2.new mx) (ab.of aC) ml
def pD(p:Int×Int):PyData:=.tuple [.int p.1,.int p.2]
theorem OH(s t:Int×Int):bf (pD s) (pD t)=decide ([s.1,s.2]<[t.1,t.2]):=by obtain⟨o,q⟩:=s;obtain⟨o',q'⟩:=t;simp only[pD,bf,m7,PyData.eqv,PyData.eqvAll,List.cons_lt_cons_iff];by_cases h1:o=o'<;>by_cases h2:q=q'<;>simp[h1,h2]
theorem RP(ps:Hv):rD (ps.map pD):=pC (κ:=List Int) (key:=λp=>[p.1,p.2]) (λa b h=>List.lt_asymm h) (λa b c h1 h2=>List.not_lt.mpr (List.le_trans (List.not_lt.mp h1) (List.not_lt.mp h2))) OH (λs t=>by simp[pD,uE,uP]) (.rows λd hd=>by obtain⟨w,_,rfl⟩:=List.mem_map.mp hd;exact⟨_,_,rfl⟩)
theorem CB{n:Nat}{a:Addr}(h:ab K H a [.int p.1,.int p.2]):ar K H (n+1) (.ref a) (pD p):=by
 refine .tup h rfl λi x d hx hd=>?_
 match i,hx,hd with
 |0,hx,hd=>cases hx;cases hd;exact .int _
 |1,hx,hd=>cases hx;cases hd;exact .int _
 |i+2,hx,_=>simp at hx
theorem Fk{α β:Type}(f:α->β):∀(l:List α)(k:Nat),(l.map f).eraseIdx k=(l.eraseIdx k).map f
 |[],_=>rfl
 |_::_,0=>rfl
 |a::l,k+1=>by rw[List.map_cons,List.eraseIdx_cons_succ,List.eraseIdx_cons_succ,List.map_cons,Fk f l k]
def eJ(K:W.Frag):Sp:=λvs H Q _=>∃(ha dl hl:Addr)(ps:Hv)(ds os:List Int),vs=[.ref ha,.ref dl,.ref hl]/\hV K H ha ps/\1<=ps.length/\ps.length<=20/\aV K H dl (ds.map V.int)/\Dn ds/\aV K H hl (os.map V.int)/\os.length=8/\∀(r:Addr)(H':Hp)(ms:Hv),aH H H'->hV K H' r ms->ms.length<=40->Q (.ref r) H'
theorem aw:aU ["heights","drawn","houses","made","way","at"] ["heights","drawn","houses"] (aI bC):=ad
set_option maxHeartbeats 4000000 in
theorem j8(F:aN K mg "_law_heights_spoilt" bC)(T:Txt K mg t):Def P w K mg base 1 "_law_heights_spoilt" ["heights","drawn","houses"] (eJ K):=by
 refine F.def aw (λ_ _ _ _ _ _=>bv λ_ _ _=>rfl) (λvs H Q E h=>?_) (λf bj A outer s H vs Q E hr h=>?_)
 ·obtain⟨ha,dl,hl,ps,ds,os,rfl,_⟩:=h;rfl
 obtain⟨ha,dl,hl,ps,ds,os,rfl,hp,n1,Vt,hd,dn,hh,o8,q⟩:=h;refine⟨_,aF (aR (i:=3) aw.nd rfl (Or.inl rfl) (bB (gn K) (by rfl) T.tF boot_list (aA (pv 0) aE)))
  (aF (aR (i:=4) aw.nd rfl (Or.inl rfl) (aK (aJ K) (pv 1) aD (λ_ _=>rfl)))
  (aF (aR (i:=5) aw.nd rfl (Or.inl rfl) (aW bK (aK (aJ K) (pv 1) aD (λ_ _=>rfl)) (aT (bL K) (by rfl) T.eT boot_len (aA (pv 3) aE))))
  (aF (p9 (au (aL bX (pv 4) aD (aQ _))
   (aG (vq (ag (aA (aK (aP K) (aK (aJ K) (pv 3) (pv 5) (λ_ _=>rfl)) aD (λ_ _=>rfl)) (aA (aW bP (aK (aP K) (aK (aJ K) (pv 3) (pv 5) (λ_ _=>rfl)) aD (λ_ _=>rfl)) (aK (aJ K) (az (aA aD (aA (jS eW aD) (aA aD (aA (jS eW (aW Dr aD aD)) aE))))) (aW bK (aK (aJ K) (pv 1) aD (λ_ _=>rfl)) aD) (λ_ _=>rfl))) aE))) (Jr (pv 3) (pv 5) set_list)))
   (aG (au (aL bX (pv 4) aD (aQ _))
    (aG (bM (jq K PySem.F.plainAttrs_list PySem.F.slot_list_pop PySem.F.type_list_pop yL (pv 3) (aA (pv 5) aE))))
    (aG (au (aL bX (pv 4) aD (aQ _))
     (aG (bM (jq K PySem.F.plainAttrs_list PySem.F.slot_list_insert PySem.F.type_list_insert vO (pv 3) (aA (pv 5) (aA (aK (aJ K) (pv 3) (pv 5) (λ_ _=>rfl)) aE)))))
     (aG (au (aL bX (pv 4) aD (aQ _))
      (aG (aR (i:=3) aw.nd rfl (Or.inl rfl) (aT (dc K (cu hr)) (by rfl) T.cE boot_sorted (aA (aW (fG K) (pv 3) (az (aA (ag (aA (aK (aJ K) (az (aA (jS eW aD) (aA aD (aA (aK (aJ K) (pv 2) aD (λ_ _=>rfl)) (aA (aK (aJ K) (pv 2) aD (λ_ _=>rfl)) aE))))) (aW bK (aK (aJ K) (pv 1) aD (λ_ _=>rfl)) aD) (λ_ _=>rfl)) (aA (aK (aJ K) (pv 1) aD (λ_ _=>rfl)) aE))) aE))) aE))))
      (aG (au (aL bX (pv 4) aD (aQ _))
       (aG (bM (BY K PySem.F.plainAttrs_list PySem.F.slot_list_reverse PySem.F.type_list_reverse rq (pv 3))))
       (aG (au (aL bX (pv 4) aD (aQ _))
        (aG (dy (i:=3) aw.nd rfl (Or.inl rfl) rfl (Nc:=["pair","drawn"]) (ix:=[none,some 1]) (bR (aI bC) ["heights","drawn","houses","made","way","at"] rfl rfl (by decide +kernel)) (a9 K (pv 3)) (λC fp s H=>⟨(aO (i:=0) (show(["pair","drawn"]:List Str).Nodup by decide +kernel) rfl (Or.inl rfl)),bc,(ag (aA (aK (aP K) (pv 0) aD (λ_ _=>rfl)) (aA (aT (pd rfl) (by rfl) T.Bt boot_min (aA (aK (aP K) (pv 0) aD (λ_ _=>rfl)) (aA (aK (aJ K) (pv 1) aD (λ_ _=>rfl)) aE))) aE)))⟩)))
        (aG (au (aL bX (pv 4) aD (aQ _))
         (aG (dy (i:=3) aw.nd rfl (Or.inl rfl) rfl (Nc:=["pair","drawn"]) (ix:=[none,some 1]) (bR (aI bC) ["heights","drawn","houses","made","way","at"] rfl rfl (by decide +kernel)) (a9 K (pv 3)) (λC fp s H=>⟨(aO (i:=0) (show(["pair","drawn"]:List Str).Nodup by decide +kernel) rfl (Or.inl rfl)),bc,(ag (aA (aK (aP K) (pv 0) aD (λ_ _=>rfl)) (aA (aW lD (aK (aP K) (pv 0) aD (λ_ _=>rfl)) (aW J2 (aW bK (aK (aJ K) (pv 1) aD (λ_ _=>rfl)) aD) (bB CM (by rfl) T.Ni boot_int (aA (ba mq (aK (aP K) (pv 0) aD (λ_ _=>rfl)) aD (aQ _)) aE)))) aE)))⟩)))
         (aZ)))))))))))))))
  (aG (aX (pv 3)))))),?_⟩
 have hsz:(20000:Nat)<=sizeLine:=by decide
 obtain⟨d0,b0,a0⟩:=dn.at 0 10 rfl (by decide);obtain⟨d1,b1,a1⟩:=dn.at 1 100 rfl (by decide);obtain⟨d2,b2,a2⟩:=dn.at 2 12 rfl (by decide);obtain⟨zs,z1,z2,z3⟩:=hp.ex;have zl:zs.length=ps.length:=by rw[<-z3,length_map]
 refine⟨_,rfl,ha,_,rfl,.inl (aV.of z1),λD hD=>?_⟩;have s1:=(aH.refl H).new (o:=.lst (zs.map λz=>V.ref z.1)) hD;have e1:(upd H D (.lst (zs.map λz=>V.ref z.1))) D=some (.lst (zs.map λz=>V.ref z.1)):=aC;generalize upd H D (.lst (zs.map λz=>V.ref z.1))=H1 at s1 e1 ⊢;have t1:∀z∈zs,ab K H1 z.1 [.int z.2.1,.int z.2.2]:=λz hz=>s1.tup (z2 z hz);have A6:=s1.seq hd;have L8:=s1.seq hh;refine⟨_,rfl,dl,_,_,.int d0,rfl,rfl,A6,a0,?_⟩;have np:(0:Int)<(((zs.map λz=>V.ref z.1).length:Nat):Int):=by rw[length_map];lia
 refine⟨_,rfl,dl,_,_,.int d1,rfl,rfl,A6,a1,_,rfl,D,_,rfl,.inl (aV.of e1),_,_,rfl,rfl,np,?_⟩;obtain⟨k,hk,kl⟩:∃k:Nat,d1%(((zs.map λz=>V.ref z.1).length:Nat):Int)=(k:Int)/\k<zs.length:=by have h0:=Int.emod_nonneg d1 (show(((zs.map λz=>V.ref z.1).length:Nat):Int)≠0 by lia);have h1:=Int.emod_lt_of_pos d1 np;rw[length_map]at h0 h1 ⊢;exact⟨(d1%(zs.length:Nat)).toNat,by lia,by lia⟩
 show lB 5 (V.int (d1%(((zs.map λz=>V.ref z.1).length:Nat):Int))) _ _ _;rw[hk];obtain⟨y,ey⟩:∃y,zs[k]?=some y:=⟨zs[k],by simp[kl]⟩;have hy:=mem_of_getElem? ey;have OG:jh (zs.map λz=>V.ref z.1) (k:Int)=some (.ref y.1):=bG (by rw[getElem?_map,ey];rfl);have kp:∀{o:HO},Kept H1 (upd H1 D o):=λ{o}=>bN (nC.lst e1)
 let Sm:L2.St->Hp->Prop:=λσ H'=>∃(r:Addr)(ms:Hv),σ=[some (.ref ha),some (.ref dl),some (.ref hl),some (.ref r),some (.int d0),some (.int k)]/\aH H H'/\hV K H' r ms/\ms.length<=40
 refine⟨Sm,?_,?_⟩
 ·refine⟨_,rfl,rfl,_,rfl,?_⟩;refine kr (λ_=>?_) (λ_=>?_)
  ·
   refine⟨_,rfl,_,rfl,D,_,_,.ref y.1,rfl,rfl,aV.of e1,OG,y.1,_,_,.int y.2.1,rfl,rfl,t1 y hy,rfl,?_⟩;refine⟨_,rfl,_,rfl,D,_,_,.ref y.1,rfl,rfl,aV.of e1,OG,y.1,_,_,.int y.2.2,rfl,rfl,t1 y hy,rfl,?_⟩;refine⟨1,rfl,_,_,rfl,rfl,⟨by decide,by decide,by decide⟩,_,rfl,zz4,λp hp=>?_⟩;have s2:=(aH.refl H1).new (o:=.lst [.int 1,.int (-1),.int 10,.int (-(10 ^ (30:Int).toNat))]) hp;have e2:(upd H1 p (.lst [.int 1,.int (-1),.int 10,.int (-(10 ^ (30:Int).toNat))])) p=some (.lst (([1,-1,10,-(10 ^ (30:Int).toNat)]:List Int).map V.int)):=aC;obtain⟨c,_,ac⟩:=lz (os:=[1,-1,10,-(10 ^ (30:Int).toNat)]) b2.1 (show(0:Int)<4 by decide) (by show(4:Int)<=4;decide);generalize([1,-1,10,-(10 ^ (30:Int).toNat)]:List Int)=L4 at e2 ac;generalize upd H1 p (.lst [.int 1,.int (-1),.int 10,.int (-(10 ^ (30:Int).toNat))])=H2 at s2 e2 ⊢;refine⟨_,rfl,dl,_,_,.int d2,rfl,rfl,s2.seq A6,a2,_,_,rfl,rfl,(by show(0:Int)<4;decide),p,_,_,.int c,rfl,rfl,aV.of e2,ac,_,_,rfl,rfl,zz2,λtp mx=>?_⟩;have s3:=(aH.refl H2).new (o:=.tup [.int y.2.1,.int (y.2.2+c)]) mx;have e3:ab K (upd H2 tp (.tup [.int y.2.1,.int (y.2.2+c)])) tp [.int y.2.1,.int (y.2.2+c)]:=ab.of aC;generalize upd H2 tp (.tup [.int y.2.1,.int (y.2.2+c)])=H3 at s3 e3 ⊢;have S3:=s2.trans s3;have Sv:=S3 _ _ e1;have kz:=bN (o:=.lst ((zs.map λz=>V.ref z.1).set k (.ref tp))) (nC.lst Sv);refine⟨_,rfl,_,rfl,D,_,_,k,rfl,rfl,Sv,by unfold D8;simp[show ¬((k:Int)<0) by lia,kl],?_⟩;refine⟨D,(zs.set k (tp,y.2.1,y.2.2+c)).map (·.2),rfl,(s1.trans S3).put hD,⟨zs.set k (tp,y.2.1,y.2.2+c),by rw[aC,List.map_set],λz hz=>?_,rfl⟩,by rw[length_map,List.length_set];lia⟩;rcases List.mem_or_eq_of_mem_set hz with h|h
   ·exact kz.tup (S3.tup (t1 z h))
   rw[h];exact kz.tup e3
  refine⟨_,rfl,rfl,_,rfl,?_⟩;refine kr (λ_=>?_) (λ_=>?_)
  ·
   refine⟨_,rfl,.inl ⟨rfl,_,aV.of e1⟩,_,rfl,D,_,(k:Int),k,.ref y.1,rfl,rfl,e1,by lia,by lia,by unfold seqIndex?;simp[show ¬((k:Int)<0) by lia,kl],by rw[getElem?_map,ey];rfl,?_⟩;refine⟨D,(zs.eraseIdx k).map (·.2),rfl,s1.put hD,⟨zs.eraseIdx k,by rw[aC,Fk],λz hz=>kp.tup (t1 z (List.mem_of_mem_eraseIdx hz)),rfl⟩,?_⟩;rw[length_map];have:=List.length_eraseIdx_le zs k;lia
  refine⟨_,rfl,rfl,_,rfl,?_⟩;refine kr (λ_=>?_) (λ_=>?_)
  ·
   refine⟨_,rfl,.inl ⟨rfl,_,aV.of e1⟩,_,rfl,_,rfl,_,rfl,D,_,_,.ref y.1,rfl,rfl,aV.of e1,OG,D,zs.map λz=>V.ref z.1,k,.ref y.1,rfl,rfl,e1,by rw[length_map];lia,by rw[length_map];lia,?_⟩;refine⟨D,(zs.take k++y::zs.drop k).map (·.2),rfl,s1.put hD,⟨zs.take k++y::zs.drop k,by rw[aC,map_append,List.map_cons,List.map_take,List.map_drop],λz hz=>kp.tup (t1 z ?_),rfl⟩,?_⟩
   ·rcases mem_append.mp hz with h|h
    ·exact List.mem_of_mem_take h
    rcases mem_cons.mp h with rfl|h
    ·exact hy
    exact List.mem_of_mem_drop h
   rw[length_map,length_append,length_cons,length_take,List.length_drop];lia
  refine⟨_,rfl,rfl,_,rfl,?_⟩;refine kr (λ_=>?_) (λ_=>?_)
  ·
   obtain⟨h6,Vv⟩:∃h,os[6]?=some h:=⟨os[6]'(by lia),by simp[show 6<os.length by lia]⟩;obtain⟨h7,RR⟩:∃h,os[7]?=some h:=⟨os[7]'(by lia),by simp[show 7<os.length by lia]⟩;have Vw:jh (os.map V.int) 6=some (.int h6):=(by have z:=bG (show(os.map V.int)[6]?=some (V.int h6) by rw[getElem?_map,Vv];rfl);exact z);have RS:jh (os.map V.int) 7=some (.int h7):=(by have z:=bG (show(os.map V.int)[7]?=some (V.int h7) by rw[getElem?_map,RR];rfl);exact z);refine⟨_,rfl,1,rfl,_,rfl,hl,_,_,.int h6,rfl,rfl,L8,Vw,_,rfl,hl,_,_,.int h7,rfl,rfl,L8,RS,zz4,λp hp=>?_⟩;have s2:=(aH.refl H1).new (o:=.lst [.int (-1),.int 32,.int h6,.int h7]) hp;have e2:(upd H1 p (.lst [.int (-1),.int 32,.int h6,.int h7])) p=some (.lst (([-1,32,h6,h7]:List Int).map V.int)):=aC;obtain⟨c,_,ac⟩:=lz (os:=[-1,32,h6,h7]) b2.1 (show(0:Int)<4 by decide) (by show(4:Int)<=4;decide);generalize([-1,32,h6,h7]:List Int)=L4 at e2 ac;generalize upd H1 p (.lst [.int (-1),.int 32,.int h6,.int h7])=H2 at s2 e2 ⊢;refine⟨_,rfl,dl,_,_,.int d2,rfl,rfl,s2.seq A6,a2,_,_,rfl,rfl,(by show(0:Int)<4;decide),p,_,_,.int c,rfl,rfl,aV.of e2,ac,_,rfl,dl,_,_,.int d1,rfl,rfl,s2.seq A6,a1,zz2,λtp mx=>?_⟩;have s3:=(aH.refl H2).new (o:=.tup [.int c,.int d1]) mx;have e3:ab K (upd H2 tp (.tup [.int c,.int d1])) tp [.int c,.int d1]:=ab.of aC;generalize upd H2 tp (.tup [.int c,.int d1])=H3 at s3 e3 ⊢;refine⟨zz1,λp2 sJ=>?_⟩;have s4:=(aH.refl H3).new (o:=.lst [.ref tp]) sJ;have e4:(upd H3 p2 (.lst [.ref tp])) p2=some (.lst [.ref tp]):=aC;generalize upd H3 p2 (.lst [.ref tp])=H4 at s4 e4 ⊢;refine⟨D,p2,_,_,rfl,rfl,aV.of ((s2.trans (s3.trans s4)) _ _ e1),aV.of e4,by rw[length_map];show _+1<=sizeLine;lia,λp3 GG=>?_⟩;have ec:(zs.map λz=>V.ref z.1)++[V.ref tp]=(zs++[(tp,c,d1)]).map λz=>V.ref z.1:=(by rw[map_append];rfl);rw[ec];have s5:=(aH.refl H4).new (o:=.lst ((zs++[(tp,c,d1)]).map λz=>V.ref z.1)) GG;have e5:(upd H4 p3 (.lst ((zs++[(tp,c,d1)]).map λz=>V.ref z.1))) p3=some (.lst ((zs++[(tp,c,d1)]).map λz=>V.ref z.1)):=aC;generalize upd H4 p3 (.lst ((zs++[(tp,c,d1)]).map λz=>V.ref z.1))=H5 at s5 e5 ⊢;have S5:=s2.trans (s3.trans (s4.trans s5));have t5:∀z∈zs++[(tp,c,d1)],ab K H5 z.1 [.int z.2.1,.int z.2.2]:=λz hz=>by
    rcases mem_append.mp hz with h|h
    ·exact S5.tup (t1 z h)
    rw[mem_singleton.mp h];exact(s4.trans s5).tup e3
   have l5:(zs++[(tp,c,d1)]).length<=21:=(by rw[length_append];show zs.length+1<=21;lia);generalize zs++[(tp,c,d1)]=ws at e5 t5 l5;refine⟨true,p3,ws.map λz=>(V.ref z.1,pD z.2),rfl,by rw[List.map_map];exact aV.of e5,by rw[length_map];lia,λz hz=>?_,by rw[List.map_map];have:=RP (ws.map (·.2));rw[List.map_map]at this;exact this,λys r hy _ uR=>?_⟩
   ·obtain⟨x,hx,rfl⟩:=List.mem_map.mp hz;exact CB (t5 x hx)
   obtain⟨y2,O7,RO⟩:=perm_back (λz:Addr×Int×Int=>(V.ref z.1,pD z.2)) hy ws rfl;have ev:ys.map (·.1)=y2.map λz=>V.ref z.1:=(by rw[RO,List.map_map];rfl);rw[ev];have s6:=(aH.refl H5).new (o:=.lst (y2.map λz=>V.ref z.1)) uR;exact⟨r,y2.map (·.2),rfl,s1.trans (S5.trans s6),⟨y2,aC,λz hz=>s6.tup (t5 z (O7.mem_iff.mp hz)),rfl⟩,by rw[length_map,O7.length_eq];lia⟩
  refine⟨_,rfl,rfl,_,rfl,?_⟩;refine kr (λ_=>?_) (λ_=>?_)
  ·
   refine⟨_,rfl,.inl ⟨rfl,_,aV.of e1⟩,D,_,rfl,rfl,e1,?_⟩;exact⟨D,zs.reverse.map (·.2),rfl,s1.put hD,⟨zs.reverse,by rw[aC,List.map_reverse],λz hz=>kp.tup (t1 z (List.mem_reverse.mp hz)),rfl⟩,by rw[length_map,List.length_reverse];lia⟩
  refine⟨_,rfl,rfl,_,rfl,?_⟩;refine kr (λ_=>?_) (λ_=>?_)
  ·
   refine⟨_,rfl,D,rfl,⟨_,aV.of e1⟩,λD2 Bv=>?_⟩
   let J:Nat->_->_->Prop:=λi σ H'=>∃(v:Option V)(qs:List (Addr×Int×Int)),σ=[v,some (.ref dl)]/\aH H1 H'/\H' D2=some (.lst (qs.map λz=>V.ref z.1))/\(∀z∈qs,ab K H' z.1 [.int z.2.1,.int z.2.2])/\qs.length=i
   refine dE (K:=K) (a:=D) (xs:=zs.map λz=>V.ref z.1) J ⟨none,[],rfl,(aH.refl _).new Bv,aC,λz hz=>absurd hz not_mem_nil,rfl⟩ (λi σ H' _ ⟨_,_,_,s,_⟩=>aV.of (s _ _ e1)) ?_ ?_
   ·rintro i x σ H4 N hN hi ⟨v,qs,rfl,s4,e4,t4,ql⟩;rw[getElem?_map]at hi;cases ez:zs[i]? with
    |none=>rw[ez]at hi;cases hi
    |some z =>
     rw[ez]at hi;cases hi;have il:i<zs.length:=(List.getElem?_eq_some_iff.mp ez).1;have hz:=s4.tup (t1 z (mem_of_getElem? ez));refine cO ?_;refine⟨_,rfl,z.1,_,_,.int z.2.1,rfl,rfl,hz,rfl,_,rfl,z.1,_,_,.int z.2.2,rfl,rfl,hz,rfl,_,rfl,dl,_,_,.int d2,rfl,rfl,s4.seq A6,a2,_,_,rfl,zz2,λtp mx=>?_⟩;generalize(if d2<z.2.2 then d2 else z.2.2)=mn;have s5:=(aH.refl H4).new (o:=.tup [.int z.2.1,.int mn]) mx;have e5:ab K (upd H4 tp (.tup [.int z.2.1,.int mn])) tp [.int z.2.1,.int mn]:=ab.of aC;generalize upd H4 tp (.tup [.int z.2.1,.int mn])=H5 at s5 e5 ⊢;have Ja:=s5 _ _ e4;have kz:=bN (o:=.lst (qs.map (λz=>V.ref z.1)++[V.ref tp])) (nC.lst Ja);refine⟨_,Ja,by rw[length_map];lia,hN _ _ ⟨_,qs++[(tp,z.2.1,mn)],rfl,(s4.trans s5).put Bv,by rw[aC,map_append];rfl,λx hx=>?_,by rw[length_append,ql];rfl⟩⟩;rcases mem_append.mp hx with h|h
     ·exact kz.tup (s5.tup (t4 x h))
     rw[mem_singleton.mp h];exact kz.tup e5
   rintro σ H4 ⟨v,qs,rfl,s4,e4,t4,ql⟩;rw[length_map]at ql;exact⟨D2,qs.map (·.2),rfl,s1.trans s4,⟨qs,e4,t4,rfl⟩,by rw[length_map];lia⟩
  refine⟨_,rfl,rfl,_,rfl,?_⟩;refine kr (λ_=>?_) (λ_=>?_)
  ·
   refine⟨_,rfl,D,rfl,⟨_,aV.of e1⟩,λD2 Bv=>?_⟩
   let J:Nat->_->_->Prop:=λi σ H'=>∃(v:Option V)(qs:List (Addr×Int×Int)),σ=[v,some (.ref dl)]/\aH H1 H'/\H' D2=some (.lst (qs.map λz=>V.ref z.1))/\(∀z∈qs,ab K H' z.1 [.int z.2.1,.int z.2.2])/\qs.length=i
   refine dE (K:=K) (a:=D) (xs:=zs.map λz=>V.ref z.1) J ⟨none,[],rfl,(aH.refl _).new Bv,aC,λz hz=>absurd hz not_mem_nil,rfl⟩ (λi σ H' _ ⟨_,_,_,s,_⟩=>aV.of (s _ _ e1)) ?_ ?_
   ·rintro i x σ H4 N hN hi ⟨v,qs,rfl,s4,e4,t4,ql⟩;rw[getElem?_map]at hi;cases ez:zs[i]? with
    |none=>rw[ez]at hi;cases hi
    |some z =>
     rw[ez]at hi;cases hi;have il:i<zs.length:=(List.getElem?_eq_some_iff.mp ez).1;have hz:=s4.tup (t1 z (mem_of_getElem? ez));refine cO ?_;refine⟨_,rfl,z.1,_,_,.int z.2.1,rfl,rfl,hz,rfl,_,rfl,z.1,_,_,.int z.2.2,rfl,rfl,hz,rfl,_,rfl,dl,_,_,.int d2,rfl,rfl,s4.seq A6,a2,_,_,rfl,rfl,(by show(0:Int)<3;decide),_,rfl,z.1,_,_,.int z.2.2,rfl,rfl,hz,rfl,_,_,rfl,rfl,.inr ⟨_,rfl,?_⟩⟩;refine⟨_,_,rfl,rfl,.inl (by show -(2 ^ 64)<d2%3/\d2%3<2 ^ 64;lia),_,_,rfl,rfl,zz2,λtp mx=>?_⟩;dsimp only at mx ⊢;generalize(z.2.2-d2%3*if decide (z.2.2>0)=true then 1 else 0)=mn;have s5:=(aH.refl H4).new (o:=.tup [.int z.2.1,.int mn]) mx;have e5:ab K (upd H4 tp (.tup [.int z.2.1,.int mn])) tp [.int z.2.1,.int mn]:=ab.of aC;generalize upd H4 tp (.tup [.int z.2.1,.int mn])=H5 at s5 e5 ⊢;have Ja:=s5 _ _ e4;have kz:=bN (o:=.lst (qs.map (λz=>V.ref z.1)++[V.ref tp])) (nC.lst Ja);refine⟨_,Ja,by rw[length_map];lia,hN _ _ ⟨_,qs++[(tp,z.2.1,mn)],rfl,(s4.trans s5).put Bv,by rw[aC,map_append];rfl,λx hx=>?_,by rw[length_append,ql];rfl⟩⟩;rcases mem_append.mp hx with h|h
     ·exact kz.tup (s5.tup (t4 x h))
     rw[mem_singleton.mp h];exact kz.tup e5
   rintro σ H4 ⟨v,qs,rfl,s4,e4,t4,ql⟩;rw[length_map]at ql;exact⟨D2,qs.map (·.2),rfl,s1.trans s4,⟨qs,e4,t4,rfl⟩,by rw[length_map];lia⟩
  exact⟨D,ps,rfl,s1,⟨zs,e1,t1,z3⟩,by lia⟩
 rintro σ H2 ⟨r,ms,rfl,s2,e2,ml⟩;exact⟨_,rfl,q r H2 ms s2 e2 ml⟩
inductive RT(K:W.Frag)(H:Hp)(ts:List T3)(one other:Int)(r:Addr):Prop
 |side (p:Addr) (ns:List Int):ab K H r [.str "side",.ref p]->ab K H p (ns.map V.int)->1<=ns.length->ns.length<=13->RT K H ts one other r
 |way (p hl:Addr) (ws:List Int) (ps:Hv) (n:Int):ab K H r [.str "way",.ref p,.ref hl]->ab K H p (ws.map V.int)->ws.length<=13->hV K H hl ps->1<=ps.length->ps.length<=13->Wl (bo ts) other one ws n->ws.Nodup->RT K H ts one other r
theorem Wl.congr(h:∀e,e∈L->e∈L'){s:Int}(w:Wl L goal x ws s):Wl L' goal x ws s:=by
 induction w with
 |done=>exact .done
 |step h1 _ ih=>exact .step (h _ h1) ih
theorem Wk.snoc{g s y l:Int}(w:Wk L g x s)(h:([g,y],l)∈L):∃s',Wk L y x s':=by
 induction w with
 |nil=>exact⟨_,.cons h .nil⟩
 |cons h1 _ ih =>
  obtain⟨s',z⟩:=ih;exact⟨_,.cons h1 z⟩
theorem Wk.symm(sy:∀a b l,([a,b],l)∈L->([b,a],l)∈L){g s:Int}(w:Wk L g x s):∃s',Wk L x g s':=by
 induction w with
 |nil=>exact⟨0,.nil⟩
 |cons h1 _ ih =>
  obtain⟨s',z⟩:=ih;exact z.snoc (sy _ _ _ h1)
theorem Fl{x d:Addr}{ms:Ms}{ts:List T3}(hM:i3 K C H x d ms)(ml:ms.length<=12)(xR:lT ms)(hq:uh ms)(uG:∀t,t∈ts↔b9 ms t)(z:∀(r:Addr)(H1:Hp),aH H H1->RT K H1 ts one other r->Q (.ref r) H1):gW K C [.ref x,.int one,.int other] H Q E:=by
 refine⟨x,d,one,other,ms,rfl,hM,ml,xR,hq,λO3 hv GD ns r p H1 s1 hm zJ fin L7 fin2 pn sn IC FU=>z r H1 s1 ?_,λO3 hv n ns ws r p Ln H1 s1 hm zJ fin L7 gr pn sn IC FU VW pr=>z r H1 s1 ?_⟩
 ·have f:=fin2.h.xr hm;refine .side p ns IC FU ?_ (by rw[pn.length_eq,length_map];lia);have:one∈ns:=pn.mem_iff.mpr ((fin2.keys one).mpr ⟨0,.nil⟩);exact List.length_pos_of_mem this
 have ec:=qN λt=>(hm t).trans (uG t).symm;have f:=fin.h.xr hm;have nl:ns.length<=13:=by rw[pn.length_eq,length_map];lia
 obtain⟨n',DZ,wt⟩:=gr.wl fin;rw[L7]at DZ;cases DZ;obtain⟨_,_,Bk,Oo⟩:=gr.down fin;have wl:ws.length<=13:=by
  have:=dS (hv.map (·.1)) ws Oo λy hy=>by
   obtain⟨m,e,_⟩:=Bk y hy;cases Classical.em (y∈hv.map (·.1))with
   |inl z=>exact z
   |inr z=>rw[dG.mpr z]at e;cases e
  rw[length_map]at this;lia
 have pos:one∈ns:=pn.mem_iff.mpr ((fin.keys one).mpr ⟨_,wt.wk⟩);refine .way p Ln _ (tM hv ns) n IC FU wl pr (by unfold tM;rw[length_map];exact List.length_pos_of_mem pos) (by unfold tM;rw[length_map];exact nl) (wt.congr λe he=>(ec e).mp he) Oo
def Fm(K:W.Frag)(H:Hp)(r:Addr):Prop:=∃(wa hb:Addr)(ws:List Int)(qs:Hv),ab K H r [.str "way",.ref wa,.ref hb]/\ab K H wa (ws.map V.int)/\ws.length<=40/\hV K H hb qs/\qs.length<=40
def l7(K:W.Frag)(C:Addr):Sp:=λvs H Q _=>∃(x d l dl hl ha:Addr)(one other:Int)(ms:Ms)(ts:List T3)(dh ds os:List Int)(ps:Hv),vs=[.ref x,.ref l,.int one,.int other,.ref dl,.ref hl,.ref ha]/\i3 K C H x d ms/\ms.length<=12/\lT ms/\uh ms/\ng K H l ts/\(∀t,t∈ts↔b9 ms t)/\(∀t∈ts,1<=t.2.2)/\dh.length=6/\(∀t∈ts,t.1∈dh/\t.2.1∈dh)/\(∃s,Wk (bo ts) other one s)/\aV K H dl (ds.map V.int)/\Dn ds/\aV K H hl (os.map V.int)/\os.length=8/\hV K H ha ps/\ps.length<=20/\∀(r:Addr)(H':Hp),aH H H'->Fm K H' r->Q (.ref r) H'
theorem bZ:aU ["known","wires","one","other","drawn","houses","heights","steps","far","due","some","house","ends"] ["known","wires","one","other","drawn","houses","heights"] (aI cV):=ad
set_option maxHeartbeats 4000000 in
theorem tT(F:aN K mg "_law_forged" cV)(T:Txt K mg t)(fB:Def P w K mg base 1 "_law_far" ["wires","goal"] (ls K))(jZ:Def P w K mg base 4 "way_of" ["chart","one","other"] (gW K t.Map)):Def P w K mg base 5 "_law_forged" ["known","wires","one","other","drawn","houses","heights"] (l7 K t.Map):=by
 refine F.def bZ (λ_ _ _ _ _ _=>dL λ_ _ _ _ _ _ _=>rfl) (λvs H Q E h=>?_) (λf bj A outer s H vs Q E hr h=>?_)
 ·obtain⟨x,d,l,dl,hl,ha,one,other,ms,ts,dh,ds,os,ps,rfl,_⟩:=h;rfl
 obtain⟨x,d,l,dl,hl,ha,one,other,ms,ts,dh,ds,os,ps,rfl,hM,ml,xR,hq,hw,uG,pos,h6,en,⟨s0,w0⟩,hd,dn,hh,o8,hp,pl,q⟩:=h;refine⟨_,aF (au (aL bX (aW bK (aK (aJ K) (pv 4) aD (λ_ _=>rfl)) aD) aD (aQ _))
   (aF (aR (i:=7) bZ.nd rfl (Or.inl rfl) (aK (aJ K) (az (aA (ag (aA (pv 2) (aA (pv 3) aE))) (aA (ag (aA (pv 2) (aA (aK (aJ K) (pv 5) aD (λ_ _=>rfl)) (aA (pv 3) aE)))) aE))) (aW bK (aK (aJ K) (pv 4) aD (λ_ _=>rfl)) aD) (λ_ _=>rfl)))
   (aG (aX (ag (aA gZ (aA (pv 7) (aA (gg rfl (Nc:=["house","height"]) (ix:=[none,none]) (bR (aI cV) ["known","wires","one","other","drawn","houses","heights","steps","far","due","some","house","ends"] rfl rfl (by decide +kernel)) (a9 K (pv 6)) (λC fp s H=>⟨(fH K (i:=0) (j:=1) rfl (show(["house","height"]:List Str).Nodup by decide +kernel) rfl rfl (Or.inl rfl) (Or.inl rfl)),bc,(ag (aA (pv 0) (aA aD aE)))⟩)) aE)))))))
   (aZ))
  (aF (aR (i:=8) bZ.nd rfl (Or.inr rfl) (aa (fB.mono (by decide)) hr av (aA (pv 1) (aA (aK (aJ K) (az (aA (pv 3) (aA (pv 2) aE))) (aW bK (aK (aJ K) (pv 4) aD (λ_ _=>rfl)) aD) (λ_ _=>rfl)) aE))))
  (aF (aR (i:=9) bZ.nd rfl (Or.inr rfl) (cC (bO hr) (pv 8) (aK (aJ K) (az (aA (pv 2) (aA (pv 3) aE))) (aW bK (aK (aJ K) (pv 4) aD (λ_ _=>rfl)) aD) (λ_ _=>rfl)) (λ_ _=>rfl)))
  (aF (Bg P w (dy (i:=10) bZ.nd rfl (Or.inl rfl) rfl (Nc:=["house","far","due"]) (ix:=[none,some 8,some 9]) (bR (aI cV) ["known","wires","one","other","drawn","houses","heights","steps","far","due","some","house","ends"] rfl rfl (by decide +kernel)) (yV P w (pv 8)) (λC fp s H=>⟨(aO (i:=0) (show(["house","far","due"]:List Str).Nodup by decide +kernel) rfl (Or.inl rfl)),(mN (aL bX (si P w (pv 1) (pv 0) (λ_ _=>rfl)) (pv 2) (aQ _))),(pv 0)⟩)))
  (aF (aR (i:=11) bZ.nd rfl (Or.inl rfl) (aK (aJ K) (pv 10) (aW bK (aK (aJ K) (pv 4) aD (λ_ _=>rfl)) (aT (bL K) (by rfl) T.eT boot_len (aA (pv 10) aE))) (λ_ _=>rfl)))
  (aF (aR (i:=12) bZ.nd rfl (Or.inl rfl) (aK (aJ K) (az (aA (ag (aA (pv 11) (aA (pv 3) aE))) (aA (ag (aA (pv 2) (aA (pv 11) aE))) aE))) (aW bK (aK (aJ K) (pv 4) aD (λ_ _=>rfl)) aD) (λ_ _=>rfl)))
  (aG (aX (ag (aA gZ (aA (aK (aP K) (aa (jZ.mono (by decide)) hr av (aA (pv 0) (aA (aK (aP K) (pv 12) aD (λ_ _=>rfl)) (aA (aK (aP K) (pv 12) aD (λ_ _=>rfl)) aE)))) aD (λ_ _=>rfl)) (aA (pv 6) aE))))))))))),?_⟩
 have hsz:(20000:Nat)<=sizeLine:=by decide
 obtain⟨d1,b1,a1⟩:=dn.at 1 100 rfl (by decide);obtain⟨d4,b4,a4⟩:=dn.at 4 200 rfl (by decide);obtain⟨h7,RR⟩:∃h,os[7]?=some h:=⟨os[7]'(by lia),by simp[show 7<os.length by lia]⟩;have RS:jh (os.map V.int) 7=some (.int h7):=(by have z:=bG (show(os.map V.int)[7]?=some (V.int h7) by rw[getElem?_map,RR];rfl);exact z);refine⟨_,rfl,dl,_,_,.int d4,rfl,rfl,hd,a4,_,_,rfl,rfl,(by show(0:Int)<3;decide),rfl,_,rfl,?_⟩;by_cases c2:d4%3=2
 ·refine bx (congrArg V.int c2) ?_;refine⟨_,rfl,_,rfl,zz2,λt1 Fe=>?_⟩;have u1:=(aH.refl H).new (o:=.tup [.int one,.int other]) Fe;have f1:ab K (upd H t1 (.tup [.int one,.int other])) t1 ([one,other].map V.int):=ab.of aC;generalize upd H t1 (.tup [.int one,.int other])=H1 at u1 f1 ⊢;refine⟨_,rfl,_,rfl,hl,_,_,.int h7,rfl,rfl,u1.seq hh,RS,_,rfl,zz3,λt2 Ba=>?_⟩;have u2:=(aH.refl H1).new (o:=.tup [.int one,.int h7,.int other]) Ba;have f2:ab K (upd H1 t2 (.tup [.int one,.int h7,.int other])) t2 ([one,h7,other].map V.int):=ab.of aC;generalize upd H1 t2 (.tup [.int one,.int h7,.int other])=H2 at u2 f2 ⊢;refine⟨zz2,λp GG=>?_⟩;have u3:=(aH.refl H2).new (o:=.lst [.ref t1,.ref t2]) GG;have f3:(upd H2 p (.lst [.ref t1,.ref t2])) p=some (.lst [.ref t1,.ref t2]):=aC;generalize upd H2 p (.lst [.ref t1,.ref t2])=H3 at u3 f3 ⊢;have U:=u1.trans (u2.trans u3);obtain⟨ta,ws,lm,g,wl⟩:∃(ta:Addr)(ws:List Int),jh [V.ref t1,V.ref t2] (d1%2)=some (.ref ta)/\ab K H3 ta (ws.map V.int)/\ws.length<=40:=by
   rcases(show d1%2=0\/d1%2=1 by lia)with z|z
   ·exact⟨t1,_,by rw[z];rfl,(u2.trans u3).tup f1,by show 2<=40;decide⟩
   exact⟨t2,_,by rw[z];rfl,u3.tup f2,by show 3<=40;decide⟩
  refine⟨_,rfl,dl,_,_,.int d1,rfl,rfl,U.seq hd,a1,_,_,rfl,rfl,(by show(0:Int)<2;decide),p,_,_,.ref ta,rfl,rfl,aV.of f3,lm,?_⟩;obtain⟨zs,z1,z2,z3⟩:=(hp.same U).ex;have zl:zs.length=ps.length:=by rw[<-z3,length_map]
  refine⟨_,rfl,_,rfl,ha,rfl,⟨_,aV.of z1⟩,λD hD=>?_⟩
  let J:Nat->_->_->Prop:=λi σ H'=>∃(v0 v1:Option V)(qs:List (Addr×Int×Int)),σ=[v0,v1]/\aH H3 H'/\H' D=some (.lst (qs.map λz=>V.ref z.1))/\(∀z∈qs,ab K H' z.1 [.int z.2.1,.int z.2.2])/\qs.length=i
  refine dE (K:=K) (a:=ha) (xs:=zs.map λz=>V.ref z.1) J ⟨none,none,[],rfl,(aH.refl _).new hD,aC,λz hz=>absurd hz not_mem_nil,rfl⟩ (λi σ H' _ ⟨_,_,_,_,s,_⟩=>aV.of (s _ _ z1)) ?_ ?_
  ·rintro i x σ H4 N hN hi ⟨v0,v1,qs,rfl,s4,e4,t4,ql⟩;rw[getElem?_map]at hi;cases ez:zs[i]? with
   |none=>rw[ez]at hi;cases hi
   |some z =>
    rw[ez]at hi;cases hi;have il:i<zs.length:=(List.getElem?_eq_some_iff.mp ez).1;have hz:=s4.tup (z2 z (mem_of_getElem? ez));refine⟨z.1,_,rfl,hz,rfl,_,_,rfl,_,_,rfl,rfl,?_⟩;show if true=true then MV (D1 (x6 0) (D1 (tC (.int 0)) z7)) (([v0,v1].set 0 (some (V.int z.2.1))).set 1 (some (V.int z.2.2))) H4 (λv H5=>∃ys,H5 D=some (HO.lst ys)/\ys.length<sizeLine/\N (([v0,v1].set 0 (some (V.int z.2.1))).set 1 (some (V.int z.2.2))) (upd H5 D (HO.lst (ys++[v]))))else N (([v0,v1].set 0 (some (V.int z.2.1))).set 1 (some (V.int z.2.2))) H4;rw[if_pos rfl];refine⟨_,rfl,zz2,λtp mx=>?_⟩;have s5:=(aH.refl H4).new (o:=.tup [.int z.2.1,.int 0]) mx;have e5:ab K (upd H4 tp (.tup [.int z.2.1,.int 0])) tp [.int z.2.1,.int 0]:=ab.of aC;generalize upd H4 tp (.tup [.int z.2.1,.int 0])=H5 at s5 e5 ⊢;have Ja:=s5 _ _ e4;have kz:=bN (o:=.lst (qs.map (λz=>V.ref z.1)++[V.ref tp])) (nC.lst Ja);refine⟨_,Ja,by rw[length_map];lia,hN _ _ ⟨_,_,qs++[(tp,z.2.1,0)],rfl,(s4.trans s5).put hD,by rw[aC,map_append];rfl,λx hx=>?_,by rw[length_append,ql];rfl⟩⟩;rcases mem_append.mp hx with h|h
    ·exact kz.tup (s5.tup (t4 x h))
    rw[mem_singleton.mp h];exact kz.tup e5
  rintro σ H4 ⟨v0,v1,qs,rfl,s4,e4,t4,ql⟩;rw[length_map]at ql;refine⟨zz3,λan IQ=>?_⟩;have s5:=(aH.refl H4).new (o:=.tup [.str "way",.ref ta,.ref D]) IQ;exact q an _ (U.trans (s4.trans s5)) ⟨ta,D,ws,qs.map (·.2),ab.of aC,(s4.trans s5).tup g,wl,⟨qs,s5 _ _ e4,λz hz=>s5.tup (t4 z hz),rfl⟩,by rw[length_map];lia⟩
 refine cB (λe=>c2 (V.int.inj e)) ?_;obtain⟨g,e,Vx,QM,Vy⟩:∃g e:Int,(d4%3=0\/d4%3=1)/\(∀{α:Type}(f:Int->α)(v:α),v=v)/\((d4%3=0/\g=other/\e=one\/d4%3=1/\g=one/\e=other)/\∃s,Wk (bo ts) g e s):=by
  rcases(show d4%3=0\/d4%3=1 by lia)with z|z
  ·exact⟨other,one,.inl z,λ_ _=>rfl,.inl ⟨z,rfl,rfl⟩,s0,w0⟩
  exact⟨one,other,.inr z,λ_ _=>rfl,.inr ⟨z,rfl,rfl⟩,w0.symm λ_ _ _ h=>IM h⟩
 clear QM;obtain⟨cs,se,we⟩:=Vy;have Vz:jh [V.int other,V.int one] (d4%3)=some (.int g):=by rcases cs with⟨z,rfl,rfl⟩|⟨z,rfl,rfl⟩<;>(rw[z];rfl)
 have V0:jh [V.int one,V.int other] (d4%3)=some (.int e):=by rcases cs with⟨z,rfl,rfl⟩|⟨z,rfl,rfl⟩<;>(rw[z];rfl)
 refine⟨_,rfl,_,rfl,_,rfl,zz2,λp0 RU=>?_⟩;have u1:=(aH.refl H).new (o:=.lst [.int other,.int one]) RU;have f1:(upd H p0 (.lst [.int other,.int one])) p0=some (.lst [.int other,.int one]):=aC;generalize upd H p0 (.lst [.int other,.int one])=H1 at u1 f1 ⊢;refine⟨_,rfl,dl,_,_,.int d4,rfl,rfl,u1.seq hd,a4,_,_,rfl,rfl,(by show(0:Int)<3;decide),p0,_,_,.int g,rfl,rfl,aV.of f1,Vz,?_⟩;refine⟨l,g,ts,dh,rfl,hw.same u1,pos,h6,en,λfd H2 fv s2 Vs e2 fr fl=>?_⟩;have S2:=u1.trans s2;obtain⟨due,IS,_⟩:=fr.le e se we;refine⟨_,rfl,_,rfl,_,rfl,zz2,λp1 FU=>?_⟩;have u3:=(aH.refl H2).new (o:=.lst [.int one,.int other]) FU;have f3:(upd H2 p1 (.lst [.int one,.int other])) p1=some (.lst [.int one,.int other]):=aC;generalize upd H2 p1 (.lst [.int one,.int other])=H3 at u3 f3 ⊢;have S3:=S2.trans u3;have e3:=u3 _ _ e2;have gv:bh H3 fd (.int e) (some (.int due)):=by have:=bh.k (k:=Sum.inl e) e3;rw[gD,IS]at this;exact this
 refine⟨_,rfl,dl,_,_,.int d4,rfl,rfl,S3.seq hd,a4,_,_,rfl,rfl,(by show(0:Int)<3;decide),p1,_,_,.int e,rfl,rfl,aV.of f3,V0,fd,.int due,rfl,gv,?_⟩;refine⟨_,rfl,fd,_,rfl,e3,λu ok D hD=>?_⟩;have hu:(upd H3 fd u) fd=some u:=aC;have th:∀{H5:Hp},aH (upd H3 fd u) H5->aH H3 (upd H5 fd (.dK (fv.map fS))):=λs=>aH.Gw e3 s;generalize upd H3 fd u=H4 at hu th hD ⊢;refine Bf (d:=fd) (u:=u) (lw:=fv.map fS) (λj σ H'=>∃(v:Option V)(ys:List Int),σ=[v,some (.ref fd),some (.int due)]/\aH H4 H'/\H' D=some (.lst (ys.map V.int))/\ys.length<=j/\∀p∈fv.take j,lk fv p.1=some due->p.1∈ys) ⟨none,[],rfl,(aH.refl _).new hD,aC,le_refl _,λp hp=>absurd hp (by simp)⟩ (λj σ H' _ ⟨_,_,_,s,_⟩=>s _ _ hu) ?_ ?_
 ·rintro j k v σ H5 N hN hj ⟨v0,ys,rfl,s5,e5,yl,OI⟩;rw[getElem?_map]at hj;cases ep:fv[j]? with
  |none=>rw[ep]at hj;cases hj
  |some p =>
   rw[ep]at hj;cases hj;have GB:=mem_of_getElem? ep;have jl:j<fv.length:=(List.getElem?_eq_some_iff.mp ep).1;obtain⟨n,hn⟩:=j5 (List.mem_map.mpr ⟨p,GB,rfl⟩);have hn:lk fv p.1=some n:=hn;have vv:fY (fv.map fS) (Sum.inl p.1)=some (.int n):=(by rw[gD,hn];rfl);refine⟨_,rfl,_,rfl,fd,_,u,Sum.inl p.1,.int n,rfl,s5 _ _ hu,ok,rfl,vv,_,rfl,rfl,_,rfl,?_⟩;by_cases c:n=due
   ·refine bx (congrArg V.int c) ?_;refine⟨_,rfl,_,e5,by rw[length_map];lia,hN _ _ ⟨_,ys++[p.1],rfl,s5.put hD,by rw[aC,map_append];rfl,by rw[length_append];show ys.length+1<=j+1;lia,λq hq hl=>?_⟩⟩;rw[take_succ ep]at hq;rcases mem_append.mp hq with h|h
    ·exact mem_append_left _ (OI q h hl)
    rw[mem_singleton.mp h];exact mem_append_right _ (mem_singleton.mpr rfl)
   refine cB (λz=>c (V.int.inj z)) (hN _ _ ⟨_,ys,rfl,s5,e5,by lia,λq hq hl=>?_⟩);rw[take_succ ep]at hq;rcases mem_append.mp hq with h|h
   ·exact OI q h hl
   rw[mem_singleton.mp h,hn]at hl;exact absurd (Option.some.inj hl) c
 rintro σ H5 ⟨v0,ys,rfl,s5,e5,yl,OI⟩;rw[length_map]at yl;rw[length_map,take_length]at OI;have nD:D≠fd:=(aq hu hD).symm;have S5:=th s5;have Ly:(upd H5 fd (.dK (fv.map fS))) D=some (.lst (ys.map V.int)):=by rw[aM nD];exact e5
 refine⟨fd,_,u,ok,s5 _ _ hu,?_⟩;generalize upd H5 fd (.dK (fv.map fS))=H6 at S5 Ly ⊢;have V1:e∈ys:=by
  have:e∈fv.map (·.1):=Classical.byContradiction λz=>by rw[dG.mpr z]at IS;cases IS
  obtain⟨p,GB,rfl⟩:=List.mem_map.mp this;exact OI p GB IS
 have y0:0<ys.length:=List.length_pos_of_mem V1;have S6:=S3.trans S5;have yp:(0:Int)<(((ys.map V.int).length:Nat):Int):=by rw[length_map];lia
 obtain⟨h,_,ah⟩:=lz (os:=ys) (m:=d1) b1.1 yp (by rw[length_map];exact Int.le_refl _);refine⟨_,rfl,_,rfl,dl,_,_,.int d1,rfl,rfl,S6.seq hd,a1,_,rfl,D,_,rfl,.inl (aV.of Ly),_,_,rfl,rfl,yp,D,_,_,.int h,rfl,rfl,aV.of Ly,ah,?_⟩;refine⟨_,rfl,_,rfl,zz2,λt1 Fe=>?_⟩;have w1:=(aH.refl H6).new (o:=.tup [.int h,.int other]) Fe;have g1:ab K (upd H6 t1 (.tup [.int h,.int other])) t1 [.int h,.int other]:=ab.of aC;generalize upd H6 t1 (.tup [.int h,.int other])=H7 at w1 g1 ⊢;refine⟨_,rfl,_,rfl,zz2,λt2 Ba=>?_⟩;have w2:=(aH.refl H7).new (o:=.tup [.int one,.int h]) Ba;have g2:ab K (upd H7 t2 (.tup [.int one,.int h])) t2 [.int one,.int h]:=ab.of aC;generalize upd H7 t2 (.tup [.int one,.int h])=H8 at w2 g2 ⊢;refine⟨zz2,λp2 sJ=>?_⟩;have w3:=(aH.refl H8).new (o:=.lst [.ref t1,.ref t2]) sJ;have g3:(upd H8 p2 (.lst [.ref t1,.ref t2])) p2=some (.lst [.ref t1,.ref t2]):=aC;generalize upd H8 p2 (.lst [.ref t1,.ref t2])=H9 at w3 g3 ⊢;have S9:=S6.trans (w1.trans (w2.trans w3));obtain⟨tt,x1,x2,V2,gt⟩:∃(tt:Addr)(x1 x2:Int),jh [V.ref t1,V.ref t2] (d4%3)=some (.ref tt)/\ab K H9 tt [.int x1,.int x2]:=by
  rcases Vx with z|z
  ·exact⟨t1,h,other,by rw[z];rfl,(w2.trans w3).tup g1⟩
  exact⟨t2,one,h,by rw[z];rfl,w3.tup g2⟩
 refine⟨_,rfl,dl,_,_,.int d4,rfl,rfl,S9.seq hd,a4,_,_,rfl,rfl,(by show(0:Int)<3;decide),p2,_,_,.ref tt,rfl,rfl,aV.of g3,V2,?_⟩;refine⟨_,rfl,_,rfl,tt,_,_,.int x1,rfl,rfl,gt,rfl,_,rfl,tt,_,_,.int x2,rfl,rfl,gt,rfl,?_⟩;unfold z7;show gW K t.Map [.ref x,.int x1,.int x2] H9 _ _;refine Fl (hM.same S9) ml xR hq uG λr HA sA td=>?_;have SA:=S9.trans sA;have fin:∀(wa:Addr)(ws:List Int),ab K HA wa (ws.map V.int)->ws.length<=13->∀an,HA an=none->Q (.ref an) (upd HA an (.tup [.str "way",.ref wa,.ref ha])):=λwa ws V3 wl an IQ=>by have sB:=(aH.refl HA).new (o:=.tup [.str "way",.ref wa,.ref ha]) IQ;exact q an _ (SA.trans sB) ⟨wa,ha,ws,ps,ab.of aC,sB.tup V3,by lia,hp.same (SA.trans sB),by lia⟩
 cases td with
 |side p ns h1 h2 h3 h4=>exact⟨r,_,_,.ref p,rfl,rfl,h1,rfl,_,rfl,zz3,fin p ns h2 h4⟩
 |way p Ln ws W1 n h1 h2 h3 h4 h5 h6 h7 h8=>exact⟨r,_,_,.ref p,rfl,rfl,h1,rfl,_,rfl,zz3,fin p ws h2 h3⟩
theorem Fn{ts:List T3}{v:List Int}(w:Wl (bo ts) other one v cw)(n:v.Nodup)(h6:dh.length=6)(en:∀t∈ts,t.1∈dh/\t.2.1∈dh):v.length<=7:=by
 have:=dS (one::dh) v n λy hy=>by
  rcases w.all y hy with rfl|⟨t,ht,rfl|rfl⟩
  ·exact mem_cons_self
  ·exact mem_cons_of_mem _ (en t ht).1
  exact mem_cons_of_mem _ (en t ht).2
 rw[length_cons,h6]at this;exact this
def eK(K:W.Frag)(C:Addr):Sp:=λvs H Q _=>∃(x d l dl hl:Addr)(one other:Int)(ms:Ms)(ts:List T3)(dh ds os:List Int),vs=[.ref x,.ref l,.int one,.int other,.ref dl,.ref hl]/\i3 K C H x d ms/\ms.length<=12/\lT ms/\uh ms/\ng K H l ts/\vZ ts/\(∀t,t∈ts↔b9 ms t)/\(∀t∈ts,1<=t.2.2)/\dh.length=6/\(∀t∈ts,t.1∈dh/\t.2.1∈dh)/\aV K H dl (ds.map V.int)/\Dn ds/\aV K H hl (os.map V.int)/\os.length=8/\(∀(r:Addr)(H':Hp),aH H H'->Fm K H' r->Q (.ref r) H')/\∀(r sd:Addr)(ns:List Int)(H':Hp),aH H H'->ab K H' r [.str "side",.ref sd]->ab K H' sd (ns.map V.int)->ns.length<=40->Q (.ref r) H'
theorem cz:aU ["known","wires","one","other","drawn","houses","told","ways","way"] ["known","wires","one","other","drawn","houses"] (aI fL):=ad
set_option maxHeartbeats 4000000 in
theorem tU(F:aN K mg "_law_answer" fL)(T:Txt K mg t)(jZ:Def P w K mg base 4 "way_of" ["chart","one","other"] (gW K t.Map))(fX:Def P w K mg base 8 "_law_ways" ["wires","way","goal"] (Fd K 7))(cm:Def P w K mg base 1 "_law_heights_spoilt" ["heights","drawn","houses"] (eJ K))(dU:Def P w K mg base 1 "_law_side_spoilt" ["side","drawn","houses"] (gE K))(jA:Def P w K mg base 5 "_law_forged" ["known","wires","one","other","drawn","houses","heights"] (l7 K t.Map)):Def P w K mg base 9 "_law_answer" ["known","wires","one","other","drawn","houses"] (eK K t.Map):=by
 refine F.def cz (λ_ _ _ _ _ _=>db λ_ _ _ _ _ _=>rfl) (λvs H Q E h=>?_) (λf bj A outer s H vs Q E hr h=>?_)
 ·obtain⟨x,d,l,dl,hl,one,other,ms,ts,dh,ds,os,rfl,_⟩:=h;rfl
 obtain⟨x,d,l,dl,hl,one,other,ms,ts,dh,ds,os,rfl,hM,ml,xR,hq,hw,td,uG,pos,h6,en,hd,dn,hh,o8,qw,qs⟩:=h;refine⟨_,aF (aR (i:=6) cz.nd rfl (Or.inl rfl) (aa (jZ.mono (by decide)) hr av (aA (pv 0) (aA (pv 2) (aA (pv 3) aE)))))
  (aF (au (aL bX (aK (aP K) (pv 6) aD (λ_ _=>rfl)) gZ (aQ _))
   (aF (au (aL bX (aK (aJ K) (pv 4) aD (λ_ _=>rfl)) aD (aQ _))
    (aG (aX (ag (aA gZ (aA (ag (aA (pv 2) (aA (pv 3) aE))) (aA (az (aA (ag (aA (pv 3) (aA aD aE))) aE)) aE))))))
    (aZ))
   (aG (aX (ag (aA gZ (aA (aa (dU.mono (by decide)) hr av (aA (aK (aP K) (pv 6) aD (λ_ _=>rfl)) (aA (pv 4) (aA (pv 5) aE)))) aE))))))
   (aZ))
  (aF (au (aL bX (aK (aJ K) (pv 4) aD (λ_ _=>rfl)) aD (aQ _))
   (aG (aX (aa (jA.mono (by decide)) hr av (aA (pv 0) (aA (pv 1) (aA (pv 2) (aA (pv 3) (aA (pv 4) (aA (pv 5) (aA (aK (aP K) (pv 6) aD (λ_ _=>rfl)) aE))))))))))
   (aZ))
  (aF (aR (i:=7) cz.nd rfl (Or.inl rfl) (aa (fX.mono (by decide)) hr av (aA (pv 1) (aA (ag (aA (pv 2) aE)) (aA (pv 3) aE)))))
  (aF (aR (i:=8) cz.nd rfl (Or.inl rfl) (aK (aJ K) (az (aA (aK (aJ K) (pv 7) (aW bK (aK (aJ K) (pv 4) aD (λ_ _=>rfl)) (aT (bL K) (by rfl) T.eT boot_len (aA (pv 7) aE))) (λ_ _=>rfl)) (aA (aK (aP K) (pv 6) aD (λ_ _=>rfl)) (aA (aK (aP K) (pv 6) aD (λ_ _=>rfl)) (aA (aK (aP K) (pv 6) aD (λ_ _=>rfl)) aE))))) (aK (aJ K) (pv 4) aD (λ_ _=>rfl)) (λ_ _=>rfl)))
  (aF (p9 (au (aL bX (aK (aJ K) (pv 4) aD (λ_ _=>rfl)) aD (aQ _))
   (aG (aR (i:=8) cz.nd rfl (Or.inl rfl) (aK (aJ K) (az (aA (cD (mP K) (pv 8) dR (cp (jS eW aD))) (aA (aW (BZ K) (pv 8) (cD (mP K) (pv 8) (cp (jS eW aD)) dR)) (aA (cD (mP K) (pv 8) (cp aD) dR) (aA (ag (aA (pv 2) (aA (aK (aJ K) (pv 5) (aW bK (aK (aJ K) (pv 4) aD (λ_ _=>rfl)) aD) (λ_ _=>rfl)) (aA (pv 3) aE)))) (aA (wc K (pv 8) (jS eW aD)) (aA (ag aE) aE))))))) (aW bK (aK (aJ K) (pv 4) aD (λ_ _=>rfl)) aD) (λ_ _=>rfl))))
   (aZ)))
  (aG (aX (ag (aA gZ (aA (pv 8) (aA (aa (cm.mono (by decide)) hr av (aA (aK (aP K) (pv 6) aD (λ_ _=>rfl)) (aA (pv 4) (aA (pv 5) aE)))) aE))))))))))),?_⟩
 have hsz:(20000:Nat)<=sizeLine:=by decide
 obtain⟨d3,b3,a3⟩:=dn.at 3 4 rfl (by decide);obtain⟨d4,b4,a4⟩:=dn.at 4 200 rfl (by decide);obtain⟨d5,b5,a5⟩:=dn.at 5 4 rfl (by decide);refine⟨_,rfl,_,rfl,_,rfl,?_⟩;unfold z7;show gW K t.Map [.ref x,.int one,.int other] H _ _;refine Fl hM ml xR hq uG λr H1 s1 fd=>?_;cases fd with
 |side p ns h1 h2 h3 h4 =>
  refine⟨_,rfl,r,_,_,.str "side",rfl,rfl,h1,rfl,rfl,_,rfl,bx rfl ?_⟩;refine⟨_,rfl,dl,_,_,.int d3,rfl,rfl,s1.seq hd,a3,rfl,_,rfl,?_⟩;refine kr (λ_=>?_) (λ_=>?_)
  ·refine⟨_,rfl,_,rfl,zz2,λt1 Fe=>?_⟩;have u1:=(aH.refl H1).new (o:=.tup [.int one,.int other]) Fe;have f1:ab K (upd H1 t1 (.tup [.int one,.int other])) t1 ([one,other].map V.int):=ab.of aC;generalize upd H1 t1 (.tup [.int one,.int other])=H2 at u1 f1 ⊢;refine⟨_,rfl,zz2,λt2 Ba=>?_⟩;have u2:=(aH.refl H2).new (o:=.tup [.int other,.int 0]) Ba;have f2:ab K (upd H2 t2 (.tup [.int other,.int 0])) t2 [.int other,.int 0]:=ab.of aC;generalize upd H2 t2 (.tup [.int other,.int 0])=H3 at u2 f2 ⊢;refine⟨zz1,λp hp=>?_⟩;have u3:=(aH.refl H3).new (o:=.lst [.ref t2]) hp;have f3:(upd H3 p (.lst [.ref t2])) p=some (.lst [.ref t2]):=aC;generalize upd H3 p (.lst [.ref t2])=H4 at u3 f3 ⊢;refine⟨zz3,λan IQ=>?_⟩;have u4:=(aH.refl H4).new (o:=.tup [.str "way",.ref t1,.ref p]) IQ;exact qw an _ (s1.trans (u1.trans (u2.trans (u3.trans u4)))) ⟨t1,p,[one,other],[(other,0)],ab.of aC,(u2.trans (u3.trans u4)).tup f1,by show 2<=40;decide,⟨[(t2,other,0)],u4 _ _ f3,λz hz=>by rw[mem_singleton.mp hz];exact(u3.trans u4).tup f2,rfl⟩,by show 1<=40;decide⟩
  refine⟨_,rfl,r,_,_,.ref p,rfl,rfl,h1,rfl,_,rfl,_,rfl,p,dl,hl,ns,ds,os,rfl,h2,h3,by lia,s1.seq hd,dn,s1.seq hh,o8,λr2 H2 RV s2 g2 RW=>?_⟩;refine⟨zz2,λan IQ=>?_⟩;have u4:=(aH.refl H2).new (o:=.tup [.str "side",.ref r2]) IQ;exact qs an r2 RV _ (s1.trans (s2.trans u4)) (ab.of aC) (u4.tup g2) RW
 |way p hv ws ps n h1 h2 h3 h4 h5 W2 h7 h8 =>
  refine⟨_,rfl,r,_,_,.str "way",rfl,rfl,h1,rfl,rfl,_,rfl,cB (by decide) ?_⟩;refine⟨_,rfl,dl,_,_,.int d5,rfl,rfl,s1.seq hd,a5,rfl,_,rfl,?_⟩;refine kr (λ_=>?_) (λ_=>?_)
  ·refine⟨_,rfl,_,rfl,_,rfl,_,rfl,_,rfl,_,rfl,_,rfl,r,_,_,.ref hv,rfl,rfl,h1,rfl,x,d,l,dl,hl,hv,one,other,ms,ts,dh,ds,os,ps,rfl,hM.same s1,ml,xR,hq,hw.same s1,uG,pos,h6,en,⟨_,h7.wk⟩,s1.seq hd,dn,s1.seq hh,o8,h4,by lia,λr2 H2 s2 mw=>?_⟩;exact qw r2 H2 (s1.trans s2) mw
  refine⟨_,rfl,_,rfl,zz1,λt1 Fe=>?_⟩;have u1:=(aH.refl H1).new (o:=.tup [.int one]) Fe;have f1:ab K (upd H1 t1 (.tup [.int one])) t1 ([one].map V.int):=ab.of aC;generalize upd H1 t1 (.tup [.int one])=H2 at u1 f1 ⊢;have wy:Wy ts (one::dh) 6 [one]:=⟨by simp,by simp,λy hy=>by rw[mem_singleton.mp hy];exact mem_cons_self,λt ht=>⟨mem_cons_of_mem _ (en t ht).1,mem_cons_of_mem _ (en t ht).2⟩,by show 1+6=dh.length+1;lia⟩;refine⟨_,rfl,l,t1,other,ts,one::dh,[one],rfl,hw.same (s1.trans u1),td,f1,wy,by rw[length_cons,h6];decide,λra H3 s3 wA=>?_⟩;obtain⟨zs,z1,z2,z3⟩:=wA.ex;have S3:=u1.trans s3;have W3:0<zs.length:=by have:=DL h7 7 [] (Fn h7 h8 h6 en) (by simpa using h8);rw[List.nil_append,List.nil_append,<-z3]at this;obtain⟨z,hz,_⟩:=List.mem_map.mp this;exact List.length_pos_of_mem hz
  have zp:(0:Int)<(((zs.map λz=>V.ref z.1).length:Nat):Int):=by rw[length_map];lia
  obtain⟨z,hz,V4⟩:∃z∈zs,jh (zs.map λz=>V.ref z.1) (d4%(((zs.map λz=>V.ref z.1).length:Nat):Int))=some (.ref z.1):=by have h0:=Int.emod_nonneg d4 (show(((zs.map λz=>V.ref z.1).length:Nat):Int)≠0 by lia);have h1:=Int.emod_lt_of_pos d4 zp;obtain⟨k,hk⟩:∃k:Nat,d4%(((zs.map λz=>V.ref z.1).length:Nat):Int)=(k:Int):=⟨(d4%(((zs.map λz=>V.ref z.1).length:Nat):Int)).toNat,by lia⟩;rw[hk,length_map]at h1;have kl:k<zs.length:=(by lia);exact⟨zs[k],List.getElem_mem kl,by rw[hk];exact bG (by simp[kl])⟩
  have V5:z.2.length<=7:=by have:z.2∈kj ts other 7 [one]:=(by rw[<-z3];exact List.mem_map.mpr ⟨z,hz,rfl⟩);obtain⟨s,cw,e,w,nd⟩:=vi 7 (pre:=[]) (z:=one) (by simp) this;rw[List.nil_append]at e;rw[e]at nd ⊢;exact Fn w nd h6 en
  have V6:=(s1.trans S3).seq hd;have r3:=S3.tup h1;refine⟨_,rfl,_,rfl,dl,_,_,.int d4,rfl,rfl,V6,a4,_,rfl,ra,_,rfl,.inl (aV.of z1),_,_,rfl,rfl,zp,ra,_,_,.ref z.1,rfl,rfl,aV.of z1,V4,_,rfl,r,_,_,.ref p,rfl,rfl,r3,rfl,_,rfl,r,_,_,.ref p,rfl,rfl,r3,rfl,_,rfl,r,_,_,.ref p,rfl,rfl,r3,rfl,zz4,λp0 RU=>?_⟩;have u4:=(aH.refl H3).new (o:=.lst [.ref z.1,.ref p,.ref p,.ref p]) RU;have f4:(upd H3 p0 (.lst [.ref z.1,.ref p,.ref p,.ref p])) p0=some (.lst [.ref z.1,.ref p,.ref p,.ref p]):=aC;generalize upd H3 p0 (.lst [.ref z.1,.ref p,.ref p,.ref p])=H4 at u4 f4 ⊢;have S4:=S3.trans u4;obtain⟨wa,vs,V7,gw,vl⟩:∃(wa:Addr)(vs:List Int),jh [V.ref z.1,V.ref p,V.ref p,V.ref p] d3=some (.ref wa)/\ab K H4 wa (vs.map V.int)/\vs.length<=13:=by
   have LP:=S4.tup h2;rcases(show d3=0\/d3=1\/d3=2\/d3=3 by lia)with rfl|rfl|rfl|rfl
   ·exact⟨z.1,z.2,rfl,u4.tup (z2 z hz),by lia⟩
   ·exact⟨p,ws,rfl,LP,h3⟩
   ·exact⟨p,ws,rfl,LP,h3⟩
   exact⟨p,ws,rfl,LP,h3⟩
  have O8:=(s1.trans S4).seq hd;refine⟨_,rfl,dl,_,_,.int d3,rfl,rfl,O8,a3,p0,_,_,.ref wa,rfl,rfl,aV.of f4,V7,?_⟩
  let Sm:L2.St->Hp->Prop:=λσ H'=>∃(wa:Addr)(vs:List Int),σ=[some (.ref x),some (.ref l),some (.int one),some (.int other),some (.ref dl),some (.ref hl),some (.ref r),some (.ref ra),some (.ref wa)]/\aH H1 H'/\ab K H' wa (vs.map V.int)/\vs.length<=40
  refine⟨Sm,?_,?_⟩
  ·refine⟨_,rfl,dl,_,_,.int d5,rfl,rfl,O8,a5,rfl,_,rfl,?_⟩;refine kr (λ_=>?_) (λ_=>⟨wa,vs,rfl,S4,gw,by lia⟩);obtain⟨v1,V8,_,W4⟩:=lH vs none (some (-1));obtain⟨v2,V9,_,W5⟩:=lH vs (some (-1)) none;obtain⟨v3,WA,_,W6⟩:=lH vs (some 1) none;obtain⟨h,_,WB⟩:=lz (os:=os) b4.1 (show(0:Int)<8 by decide) (by lia);refine⟨_,rfl,1,rfl,_,rfl,wa,_,rfl,gw,λq1 K1 k1 c1=>?_⟩;rw[V8]at c1;refine⟨_,rfl,_,rfl,1,rfl,_,rfl,wa,_,rfl,k1.tup gw,λq2 K2 k2 c2=>?_⟩;rw[V9]at c2;refine⟨wa,q2,_,_,rfl,rfl,(k1.trans k2).tup gw,c2,by rw[length_map,length_map];lia,λq3 K3 k3 c3=>?_⟩;rw[<-map_append]at c3;have Sw:=k1.trans (k2.trans k3);refine⟨_,rfl,_,rfl,wa,_,rfl,Sw.tup gw,λq4 K4 k4 c4=>?_⟩;rw[WA]at c4;have RX:=Sw.trans k4;refine⟨_,rfl,_,rfl,_,rfl,dl,_,_,.int d4,rfl,rfl,RX.seq O8,a4,_,_,rfl,rfl,(by show(0:Int)<8;decide),hl,_,_,.int h,rfl,rfl,((s1.trans S4).trans RX).seq hh,WB,_,rfl,zz3,λq5 RY=>?_⟩;have k5:=(aH.refl K4).new (o:=.tup [.int one,.int h,.int other]) RY;have c5:ab K (upd K4 q5 (.tup [.int one,.int h,.int other])) q5 ([one,h,other].map V.int):=ab.of aC;generalize upd K4 q5 (.tup [.int one,.int h,.int other])=K5 at k5 c5 ⊢;have Sy:=RX.trans k5;refine⟨_,rfl,1,rfl,rfl,wa,_,rfl,Sy.tup gw,λq6 WC=>?_⟩;rw[<-List.map_reverse];have k6:=(aH.refl K5).new (o:=.tup (vs.reverse.map V.int)) WC;have c6:ab K (upd K5 q6 (.tup (vs.reverse.map V.int))) q6 (vs.reverse.map V.int):=ab.of aC;generalize upd K5 q6 (.tup (vs.reverse.map V.int))=K6 at k6 c6 ⊢;refine⟨zz0,λq7 WD=>?_⟩;have k7:=(aH.refl K6).new (o:=.tup []) WD;have c7:ab K (upd K6 q7 (.tup [])) q7 (([]:List Int).map V.int):=ab.of aC;generalize upd K6 q7 (.tup [])=K7 at k7 c7 ⊢;refine⟨zz6,λq8 WE=>?_⟩;have k8:=(aH.refl K7).new (o:=.lst [.ref q1,.ref q3,.ref q4,.ref q5,.ref q6,.ref q7]) WE;have c8:(upd K7 q8 (.lst [.ref q1,.ref q3,.ref q4,.ref q5,.ref q6,.ref q7])) q8=some (.lst [.ref q1,.ref q3,.ref q4,.ref q5,.ref q6,.ref q7]):=aC;generalize upd K7 q8 (.lst [.ref q1,.ref q3,.ref q4,.ref q5,.ref q6,.ref q7])=K8 at k8 c8 ⊢;have Sz:=Sy.trans (k6.trans (k7.trans k8));obtain⟨wb,vb,WG,gb,bl⟩:∃(wb:Addr)(vb:List Int),jh [V.ref q1,V.ref q3,V.ref q4,V.ref q5,V.ref q6,V.ref q7] (d4%6)=some (.ref wb)/\ab K K8 wb (vb.map V.int)/\vb.length<=40:=by
    rcases(show d4%6=0\/d4%6=1\/d4%6=2\/d4%6=3\/d4%6=4\/d4%6=5 by lia)with z|z|z|z|z|z
    ·exact⟨q1,v1,by rw[z];rfl,(k2.trans (k3.trans (k4.trans (k5.trans (k6.trans (k7.trans k8)))))).tup c1,by lia⟩
    ·exact⟨q3,vs++v2,by rw[z];rfl,(k4.trans (k5.trans (k6.trans (k7.trans k8)))).tup c3,by rw[length_append];lia⟩
    ·exact⟨q4,v3,by rw[z];rfl,(k5.trans (k6.trans (k7.trans k8))).tup c4,by lia⟩
    ·exact⟨q5,_,by rw[z];rfl,(k6.trans (k7.trans k8)).tup c5,by show 3<=40;decide⟩
    ·exact⟨q6,_,by rw[z];rfl,(k7.trans k8).tup c6,by rw[List.length_reverse];lia⟩
    exact⟨q7,_,by rw[z];rfl,k8.tup c7,by show 0<=40;decide⟩
   refine⟨_,rfl,dl,_,_,.int d4,rfl,rfl,Sz.seq O8,a4,_,_,rfl,rfl,(by show(0:Int)<6;decide),q8,_,_,.ref wb,rfl,rfl,aV.of c8,WG,?_⟩;exact⟨wb,vb,rfl,S4.trans Sz,gb,bl⟩
  rintro σ H5 ⟨wb,vb,rfl,s5,gb,bl⟩;have S5:=s1.trans s5;refine⟨_,rfl,_,rfl,r,_,_,.ref hv,rfl,rfl,s5.tup h1,rfl,_,rfl,_,rfl,hv,dl,hl,ps,ds,os,rfl,h4.same s5,h5,by lia,S5.seq hd,dn,S5.seq hh,o8,λr2 H6 RV s6 pr RW=>?_⟩;refine⟨zz3,λan IQ=>?_⟩;have u7:=(aH.refl H6).new (o:=.tup [.str "way",.ref wb,.ref r2]) IQ;exact qw an _ (S5.trans (s6.trans u7)) ⟨wb,r2,vb,RV,ab.of aC,(s6.trans u7).tup gb,bl,pr.same u7,RW⟩
abbrev Pt:=Addr×List V×List PyData
def vj(K:W.Frag)(H:Hp)(nL:List Pt):Prop:=∀pt∈nL,(aV K H pt.1 pt.2.1\/ab K H pt.1 pt.2.1)/\pt.2.1.length=pt.2.2.length/\∀(i:Nat)(x:V)(d:PyData),pt.2.1[i]?=some x->pt.2.2[i]?=some d->ar K H 6 x d
theorem vj.same{K:W.Frag}{H H':Hp}{nL:List Pt}(h:vj K H nL)(s:aH H H'):vj K H' nL:=λpt hp=>by obtain⟨a,b,c⟩:=h pt hp;exact⟨a.imp (λz=>s.seq z) λz=>s.tup z,b,λi x d h1 h2=>(c i x d h1 h2).same s⟩
structure A7(H0 H':Hp)(D:Addr)(nL:List Pt)(rs:List Addr):Prop where
 s:aH H0 H'
 d:H' D=some (.lst (rs.map V.ref))
 e:∀(j:Nat)(r:Addr),rs[j]?=some r->r≠D/\∃pt,nL[j]?=some pt/\H' r=some (.lst pt.2.1)
theorem A7.dat{nL:List Pt}(c:A7 H0 H' D nL rs)(l:rs.length=nL.length)(h:vj K H0 nL):ar K H' 8 (.ref D) (.list (nL.map λpt=>.list pt.2.2)):=by
 refine .lst (aV.of c.d) (by rw[length_map,length_map,l]) λi x d hx hd=>?_;rw[getElem?_map]at hx hd;cases er:rs[i]? with
 |none=>rw[er]at hx;cases hx
 |some r =>
  rw[er]at hx;cases hx;obtain⟨_,pt,ep,e⟩:=c.e i r er;rw[ep]at hd;cases hd;obtain⟨_,b,f⟩:=(h.same c.s) pt (mem_of_getElem? ep);exact .lst (aV.of e) b f
theorem A7.step{nL:List Pt}{pt:Pt}(c:A7 H0 H' D nL rs)(hD:H0 D=none)(hn:H' nl=none)(ep:nL[rs.length]?=some pt):A7 H0 (upd (upd H' nl (.lst pt.2.1)) D (.lst (rs.map V.ref++[.ref nl]))) D nL (rs++[nl]):=by
 have nd:nl≠D:=λe=>by rw[e,c.d]at hn;cases hn
 refine⟨(c.s.new hn).put hD,by rw[aC,map_append];rfl,λj r hr=>?_⟩;rcases Nat.lt_or_ge j rs.length with jl|jl
 ·rw[getElem?_append_left jl]at hr;obtain⟨n2,p,e1,e2⟩:=c.e j r hr;refine⟨n2,p,e1,?_⟩;have n1:r≠nl:=λe=>by rw[e,hn]at e2;cases e2
  rw[aM n2,aM n1];exact e2
 have:j=rs.length:=by have:=(List.getElem?_eq_some_iff.mp hr).1;rw[length_append]at this;have:j<rs.length+1:=this;lia
 subst this;rw[getElem?_append_right (le_refl _),Nat.sub_self]at hr;cases hr;exact⟨nd,pt,ep,by rw[aM nd,aC]⟩
def CC(K:W.Frag)(H:Hp)(r:Addr):Prop:=Fm K H r\/∃(sd:Addr)(ns:List Int),ab K H r [.str "side",.ref sd]/\ab K H sd (ns.map V.int)/\ns.length<=40
theorem CD{a:Addr}(h:ab K H a (ns.map V.int)):vj K H [(a,ns.map V.int,ns.map PyData.int)]:=λpt hp=>by
 rw[mem_singleton.mp hp];refine⟨.inr h,by show(ns.map V.int).length=(ns.map PyData.int).length;rw[length_map,length_map],λi x d hx hd=>?_⟩;have hx:(ns.map V.int)[i]?=some x:=hx;have hd:(ns.map PyData.int)[i]?=some d:=hd;rw[getElem?_map]at hx hd;cases e:ns[i]? with
 |none=>rw[e]at hx;cases hx
 |some n=>rw[e]at hx hd;cases hx;cases hd;exact .int n
theorem CC.nL{K:W.Frag}{H:Hp}{r:Addr}(h:CC K H r):∃(kd:Str)(nL:List Pt),ab K H r (.str kd::nL.map λpt=>V.ref pt.1)/\vj K H nL/\nL.length<=2:=by
 rcases h with⟨wa,hb,ws,qs,h1,h2,_,h4,_⟩|⟨sd,ns,h1,h2,_⟩
 ·obtain⟨zs,z1,z2,z3⟩:=h4.ex;refine⟨"way",[(wa,ws.map V.int,ws.map PyData.int),(hb,zs.map λz=>V.ref z.1,zs.map λz=>pD z.2)],h1,λpt hp=>?_,by show 2<=2;decide⟩;rcases mem_cons.mp hp with rfl|hp
  ·exact CD h2 _ (mem_singleton.mpr rfl)
  rw[mem_singleton.mp hp];refine⟨.inl (aV.of z1),by show(zs.map λz=>V.ref z.1).length=(zs.map λz=>pD z.2).length;rw[length_map,length_map],λi x d hx hd=>?_⟩;have hx:(zs.map λz=>V.ref z.1)[i]?=some x:=hx;have hd:(zs.map λz=>pD z.2)[i]?=some d:=hd;rw[getElem?_map]at hx hd;cases e:zs[i]? with
  |none=>rw[e]at hx;cases hx
  |some z=>rw[e]at hx hd;cases hx;cases hd;exact CB (z2 z (mem_of_getElem? e))
 exact⟨"side",[(sd,ns.map V.int,ns.map PyData.int)],h1,CD h2,by show 1<=2;decide⟩
theorem pU.congr(h:∀e,e∈L↔e∈L')(z:pU L one other ns):pU L' one other ns:=⟨z.r,z.o,z.t,λa b l he=>z.e a b l ((h _).mpr he)⟩
theorem LY{x d l dl:Addr}{ms:Ms}{ts:List T3}{ds:List Int}(hM:i3 K C H x d ms)(ml:ms.length<=12)(xR:lT ms)(hq:uh ms)(hw:ng K H l ts)(td:vZ ts)(uG:∀t,t∈ts↔b9 ms t)(pos:∀t∈ts,1<=t.2.2)(h6:dh.length=6)(en:∀t∈ts,t.1∈dh/\t.2.1∈dh)(hd:aV K H dl (ds.map V.int))(dn:Dn ds)(hh:aV K H hl (os.map V.int))(o8:os.length=8)(z:∀(r:Addr)(H':Hp),aH H H'->CC K H' r->Q (.ref r) H'):eK K C [.ref x,.ref l,.int one,.int other,.ref dl,.ref hl] H Q E :=
 ⟨x,d,l,dl,hl,one,other,ms,ts,dh,ds,os,rfl,hM,ml,xR,hq,hw,td,uG,pos,h6,en,hd,dn,hh,o8,λr H' s mw=>z r H' s (.inl mw),λr sd ns H' s h1 h2 h3=>z r H' s (.inr ⟨sd,ns,h1,h2,h3⟩)⟩
theorem LZ{x d l an:Addr}{ms:Ms}{ts:List T3}(hM:i3 K C H x d ms)(ml:ms.length<=12)(xR:lT ms)(hq:uh ms)(hw:ng K H l ts)(td:vZ ts)(tl:ts.length<=60)(uG:∀t,t∈ts↔b9 ms t)(pos:∀t∈ts,1<=t.2.2)(h6:dh.length=6)(en:∀t∈ts,t.1∈dh/\t.2.1∈dh)(ha:CC K H an):
  ∃W:Prop,(∀{H':Hp}{Q:VK}{E:XK},aH H H'->(∀(b:Bool)(IT:Hp),aH H' IT->(b=true↔W)->Q (.bl b) IT)->i9 K C [.ref x,.int one,.int other,.ref an] H' Q E) /\
   (∀{H':Hp}{Q:VK}{E:XK},aH H H'->(∀(b:Bool)(IT:Hp),aH H' IT->(b=true↔W)->Q (.bl b) IT)->lu K [.ref l,.int one,.int other,.ref an] H' Q E):=by
 have kn:=hW td;rcases ha with⟨wa,hb,ws,qs,h1,h2,h3,h4,h5⟩|⟨sd,ns,h1,h2,h3⟩
 ·refine⟨qx (bo ts) one other ws qs,λ{H' Q E} s z=>?_,λ{H' Q E} s z=>?_⟩
  ·refine⟨x,d,an,one,other,ms,rfl,hM.same s,ml,xR,hq,.inl ⟨wa,hb,ws,qs,s.tup h1,s.tup h2,by lia,h4.same s,by lia,λb IT WH s2 Hg RZ hb=>z b IT s2 (hb.trans ?_)⟩⟩;have ec:=qN λt=>(Hg t).trans (uG t).symm;exact⟨λh=>h.congr (hW RZ) kn ec,λh=>h.congr kn (hW RZ) λe=>(ec e).symm⟩
  exact⟨l,an,one,other,ts,dh,rfl,hw.same s,td,tl,pos,h6,en,.inl ⟨wa,hb,ws,qs,s.tup h1,s.tup h2,by lia,h4.same s,by lia,z⟩⟩
 refine⟨pU (bo ts) one other ns,λ{H' Q E} s z=>?_,λ{H' Q E} s z=>?_⟩
 ·refine⟨x,d,an,one,other,ms,rfl,hM.same s,ml,xR,hq,.inr ⟨sd,ns,s.tup h1,s.tup h2,by lia,λb IT WH s2 Hg RZ hb=>z b IT s2 (hb.trans ?_)⟩⟩;have ec:=qN λt=>(Hg t).trans (uG t).symm;exact⟨λh=>h.congr ec,λh=>h.congr λe=>(ec e).symm⟩
 exact⟨l,an,one,other,ts,dh,rfl,hw.same s,td,tl,pos,h6,en,.inr ⟨sd,ns,s.tup h1,s.tup h2,by lia,z⟩⟩
theorem fD:aU ["script","houses","many","near","known","wires","cell","drawn","one","other","answer","kept","found"] ["script"] (aI vW):=ad
set_option maxHeartbeats 4000000 in
theorem La{f:Addr}(T:Txt K mg t)(F:uM K "law" "law" vW f fd)(cF:Def P w K mg base 1 "_law_cell_at" ["script","k"] (fe K))(bS:Def P w K mg base 1 "_law_mixed" ["cell","k"] fN)(bU:Def P w K mg base 2 "_law_drawn" ["cell","bounds"] (fO K))(l8:Def P w K mg base 4 "_law_news" ["script","extra"] (pM K))(n5:Def P w K mg base 6 "_law_map" ["houses","many","near"] (qq K t.Map))(j9:Def P w K mg base 1 "_law_wires" ["houses","many","near"] (nH K))(jB:Def P w K mg base 9 "_law_answer" ["known","wires","one","other","drawn","houses"] (eK K t.Map))(kA:Def P w K mg base 4 "way_judged" ["chart","one","other","answer"] (i9 K t.Map))(n8:Def P w K mg base 3 "_law_due" ["wires","one","other","answer"] (lu K)):eN P w K mg base (vH P w) 10 f fd ["script"] (vI K):=by
 refine F.UK fD (λvs H Q E h=>?_) (λf bj A outer s H vs Q E hr h=>?_)
 ·obtain⟨a,ns,rfl,_⟩:=h;rfl
 obtain⟨sc,cs,rfl,hS,o0,q⟩:=h;refine⟨_,aF (vq (aa (l8.mono (by decide)) hr av (aA (pv 0) (aA aD aE))) (je rfl (ak (aO (i:=1) fD.nd rfl (Or.inl rfl)) (ak (aO (i:=2) fD.nd rfl (Or.inl rfl)) (ak (aO (i:=3) fD.nd rfl (Or.inl rfl)) fF)))))
  (aF (aR (i:=4) fD.nd rfl (Or.inl rfl) (aa (n5.mono (by decide)) hr av (aA (pv 1) (aA (pv 2) (aA (pv 3) aE)))))
  (aF (aR (i:=5) fD.nd rfl (Or.inl rfl) (aa (j9.mono (by decide)) hr av (aA (pv 1) (aA (pv 2) (aA (pv 3) aE)))))
  (aF (PS.uI (bW PassesOwn.never rfl (a9 K (aW (fG K) (cD (gk K) (pv 0) dR (cp aD)) (az (aA aD (aA (aa (bS.mono (by decide)) hr av (aA (aa (cF.mono (by decide)) hr av (aA (pv 0) (aA aD aE))) (aA aD aE))) aE))))) (aO (i:=6) fD.nd rfl (Or.inl rfl))
   (aF (aR (i:=7) fD.nd rfl (Or.inl rfl) (aa (bU.mono (by decide)) hr av (aA (pv 6) (aA (az (aA aD (aA aD (aA aD (aA aD (aA aD (aA aD (aA aD (aA aD aE))))))))) aE))))
   (aF (aR (i:=8) fD.nd rfl (Or.inl rfl) (aK (aJ K) (aW (fG K) (cD (gk K) (pv 1) dR (cp (pv 2))) (cD (gk K) (pv 1) (cp aD) dR)) (aW bK (aK (aJ K) (pv 7) aD (λ_ _=>rfl)) (aW bP (pv 2) aD)) (λ_ _=>rfl)))
   (aF (aR (i:=9) fD.nd rfl (Or.inl rfl) (aK (aJ K) (aW (fG K) (cD (gk K) (pv 1) dR (cp (pv 2))) (cD (gk K) (pv 1) (cp aD) dR)) (aW bK (aK (aJ K) (pv 7) aD (λ_ _=>rfl)) (aW bP (pv 2) aD)) (λ_ _=>rfl)))
   (aF (aR (i:=10) fD.nd rfl (Or.inl rfl) (aa (jB.mono (by decide)) hr av (aA (pv 4) (aA (pv 5) (aA (pv 8) (aA (pv 9) (aA (pv 7) (aA (pv 1) aE))))))))
   (aF (dy (i:=11) fD.nd rfl (Or.inl rfl) rfl (Nc:=["part"]) (ix:=[none]) (bR (aI vW) ["script","houses","many","near","known","wires","cell","drawn","one","other","answer","kept","found"] rfl rfl (by decide +kernel)) (oa K (cD (mP K) (pv 10) (cp aD) dR)) (λC fp s H=>⟨(aO (i:=0) (show(["part"]:List Str).Nodup by decide +kernel) rfl (Or.inl rfl)),bc,(bB (gn K) (by rfl) T.tF boot_list (aA (pv 0) aE))⟩))
   (aF (aR (i:=12) fD.nd rfl (Or.inl rfl) (aa (kA.mono (by decide)) hr av (aA (pv 4) (aA (pv 8) (aA (pv 9) (aA (pv 10) aE))))))
   (aF (au (PW.pt (kY (k9 (ij (KU K T.xC (aA (pv 12) (aA (GK (v:=.ty "bool") (by rfl) T.Kv boot_bool rfl) aE))))) (ky (aL mm (pv 12) (aa (n8.mono (by decide)) hr av (aA (pv 5) (aA (pv 8) (aA (pv 9) (aA (pv 10) aE))))) (aQ _)))))
    (aG (aX eQ))
    (aZ))
   (aG (au (aL (AO K (cu hr)) (gg rfl (Nc:=["part"]) (ix:=[none]) (bR (aI vW) ["script","houses","many","near","known","wires","cell","drawn","one","other","answer","kept","found"] rfl rfl (by decide +kernel)) (oa K (cD (mP K) (pv 10) (cp aD) dR)) (λC fp s H=>⟨(aO (i:=0) (show(["part"]:List Str).Nodup by decide +kernel) rfl (Or.inl rfl)),bc,(bB (gn K) (by rfl) T.tF boot_list (aA (pv 0) aE))⟩)) (pv 11) (aQ _))
    (aG (aX eQ))
    (aZ))))))))))))
  (aG (aX eQ))))),?_⟩
 have hsz:(20000:Nat)<=sizeLine:=by decide
 refine⟨_,rfl,sc,cs,0,rfl,hS,by lia,by decide,by decide,λr0 nl hl H1 os ds s1 WI nr nk hh oR ol d1 d6=>?_⟩;refine⟨r0,_,rfl,WI,rfl,_,_,rfl,_,_,rfl,_,_,rfl,rfl,?_⟩;refine⟨_,rfl,_,rfl,_,rfl,nl,hl,os,ds,rfl,nr,nk,hh,oR,ol,d1,d6,λx d H2 ms s2 nx W7 hM mo=>?_⟩;have mf:=mo.f hM.nd;have ml:ms.length<=6:=by rw[mo.l];exact d6
 obtain⟨xR,hq⟩:=mf.ok λk y hy=>⟨(nr.d y (mem_of_getElem? hy)).nd,nk.LR d6 (List.getElem?_eq_some_iff.mp hy).1 hy (nr.d y (mem_of_getElem? hy)).nd,λp hp=>(nk k y hy p hp).2⟩;have Fb:=s2 _ _ hh;refine⟨_,rfl,_,rfl,_,rfl,nl,hl,os,ds,rfl,nr.same s2,Fb,oR,ol,d6,λl H3 ts s3 w3 tm tp tl=>?_⟩;have uG:∀t,t∈ts↔b9 ms t:=λt=>(tm t).trans (mf.LU t).symm;have td:vZ ts:=⟨λt ht=>((tm t).mp ht).1,tp.imp_of_mem λ{a b} ha hb h e=>by have:=qp hM.nd xR ((uG a).mp ha) ((uG b).mp hb) e.1 e.2;rw[this]at h;exact List.lt_irrefl _ h⟩
 have en:∀t∈ts,t.1∈os.take 6/\t.2.1∈os.take 6:=λt ht=>by obtain⟨_,i,j,e1,e2,h1,h2,⟨x1,g1,_⟩,⟨x2,g2,_⟩,_⟩:=(tm t).mp ht;have i1:i<ds.length:=(List.getElem?_eq_some_iff.mp g1).1;have j1:j<ds.length:=(List.getElem?_eq_some_iff.mp g2).1;have tk:∀{k:Nat}{h:Int},k<ds.length->os[k]?=some h->h∈os.take 6:=λ{k h} hk e=>mem_of_getElem? (show(os.take 6)[k]?=some h by rw[List.getElem?_take_of_lt (by lia)];exact e);exact⟨tk i1 h1,tk j1 h2⟩
 have h6:(os.take 6).length=6:=by rw[length_take];lia
 have pos:∀t∈ts,1<=t.2.2:=λt h=>by obtain⟨a,b,_,h1⟩:=(lU hq uG td).1.2 _ (bA.mpr ⟨t,h,.inl rfl⟩);exact h1.1
 have S3:=s1.trans (s2.trans s3);have WJ:=s3 _ _ Fb;have N6:=hM.same s3;refine⟨_,rfl,_,rfl,sc,_,rfl,S3.seq hS,λp1 FU=>?_⟩;obtain⟨ys,ey,_,yl⟩:=lH cs none (some 6);rw[ey];have u1:=(aH.refl H3).new (o:=.lst (ys.map V.int)) FU;have a1:(upd H3 p1 (.lst (ys.map V.int))) p1=some (.lst (ys.map V.int)):=aC;generalize upd H3 p1 (.lst (ys.map V.int))=H4 at u1 a1 ⊢;refine⟨_,rfl,sc,cs,0,rfl,(S3.trans u1).seq hS,by decide,λc0=>?_⟩;refine⟨c0,91,rfl,by decide,by decide,λm m0=>?_⟩;refine⟨zz2,λp2 sJ=>?_⟩;have u2:=(aH.refl H4).new (o:=.lst [.int 0,.int m]) sJ;have a2:(upd H4 p2 (.lst [.int 0,.int m])) p2=some (.lst ([0,m].map V.int)):=aC;generalize upd H4 p2 (.lst [.int 0,.int m])=H5 at u2 a2 ⊢;refine⟨p1,p2,_,_,rfl,rfl,aV.of (u2 _ _ a1),aV.of a2,by rw[length_map,length_map];show _+2<=sizeLine;lia,λp3 GG=>?_⟩;rw[<-map_append];have u3:=(aH.refl H5).new (o:=.lst ((ys++[0,m]).map V.int)) GG;have a3:(upd H5 p3 (.lst ((ys++[0,m]).map V.int))) p3=some (.lst ((ys++[0,m]).map V.int)):=aC;generalize upd H5 p3 (.lst ((ys++[0,m]).map V.int))=H6 at u3 a3 ⊢;generalize ys++[0,m]=cells at a3;have U:=u1.trans (u2.trans u3);have S0:=U _ _ WJ;have N7:=N6.same U;have w6:=w3.same U;have mp:(0:Int)<(ds.length:Nat)+2:=by lia
 have TB:kq (os.map V.int) none (some ((ds.length:Nat):Int))=(os.take ds.length).map V.int:=by rw[Hf (by lia),<-List.map_take];rfl
 have TC:kq (os.map V.int) (some 6) none=(os.drop 6).map V.int:=by rw[rY (by decide),<-List.map_drop];rfl
 have fl:(os.take ds.length++os.drop 6).length=ds.length+2:=by rw[length_append,length_take,List.length_drop];lia
 let I:Nat->_->_->Prop:=λi σ H'=>∃v6 v7 v8 v9 v10 v11 Ra:Option V,σ=[some (.ref sc),some (.ref hl),some (.int (ds.length:Nat)),some (.ref nl),some (.ref x),some (.ref l),v6,v7,v8,v9,v10,v11,Ra]/\aH H6 H'
 refine⟨p3,rfl,⟨_,aV.of a3⟩,dv (K:=K) (a:=p3) (xs:=cells.map V.int) I ⟨none,none,none,none,none,none,none,rfl,.refl _⟩ (λi σ H' _ ⟨_,_,_,_,_,_,_,_,s⟩=>aV.of (s _ _ a3)) ?_ ?_⟩
 ·rintro i y σ HA hi ⟨v6,v7,v8,v9,v10,v11,Ra,rfl,sA⟩;obtain⟨cell,_,rfl⟩:=gF hi;refine⟨_,rfl,zz8,λbl Kr=>?_⟩;have uB:=(aH.refl HA).new (o:=.lst [.int 10,.int 100,.int 12,.int 4,.int 200,.int 4,.int 8,.int 8]) Kr;have aB:(upd HA bl (.lst [.int 10,.int 100,.int 12,.int 4,.int 200,.int 4,.int 8,.int 8])) bl=some (.lst (([10,100,12,4,200,4,8,8]:List Int).map V.int)):=aC;generalize upd HA bl (.lst [.int 10,.int 100,.int 12,.int 4,.int 200,.int 4,.int 8,.int 8])=HB at uB aB ⊢;refine⟨cell,bl,[10,100,12,4,200,4,8,8],rfl,aB,by decide,by decide,λdl HC dw sC W8 HX dk=>?_⟩;have dn:Dn dw:=⟨dk.1,dk.2⟩;have SC:=sA.trans (uB.trans sC);obtain⟨e6,b6,a6⟩:=dn.at 6 8 rfl (by decide);obtain⟨e7,b7,a7⟩:=dn.at 7 8 rfl (by decide);obtain⟨one,_,ao⟩:=lz (os:=os.take ds.length++os.drop 6) b6.1 mp (by rw[fl];lia);obtain⟨other,_,TF⟩:=lz (os:=os.take ds.length++os.drop 6) b7.1 mp (by rw[fl];lia);generalize TH:os.take ds.length++os.drop 6=fs at ao TF;have Rb:=SC _ _ S0;refine⟨_,rfl,_,rfl,_,rfl,hl,_,rfl,aV.of Rb,λq0 WK=>?_⟩;rw[TB];have v0:=(aH.refl HC).new (o:=.lst ((os.take ds.length).map V.int)) WK;have TL:(upd HC q0 (.lst ((os.take ds.length).map V.int))) q0=some (.lst ((os.take ds.length).map V.int)):=aC;generalize upd HC q0 (.lst ((os.take ds.length).map V.int))=HD at v0 TL ⊢;refine⟨_,rfl,_,rfl,hl,_,rfl,aV.of (v0 _ _ Rb),λq1 WL=>?_⟩;rw[TC];have v1:=(aH.refl HD).new (o:=.lst ((os.drop 6).map V.int)) WL;have TN:(upd HD q1 (.lst ((os.drop 6).map V.int))) q1=some (.lst ((os.drop 6).map V.int)):=aC;generalize upd HD q1 (.lst ((os.drop 6).map V.int))=HE at v1 TN ⊢;refine⟨q0,q1,_,_,rfl,rfl,aV.of (v1 _ _ TL),aV.of TN,by rw[length_map,length_map,length_take,List.length_drop];lia,λq2 Om=>?_⟩;rw[<-map_append,TH];have v2:=(aH.refl HE).new (o:=.lst (fs.map V.int)) Om;have TQ:(upd HE q2 (.lst (fs.map V.int))) q2=some (.lst (fs.map V.int)):=aC;generalize upd HE q2 (.lst (fs.map V.int))=HF at v2 TQ ⊢;have SF:=v0.trans (v1.trans v2);refine⟨_,rfl,dl,_,_,.int e6,rfl,rfl,aV.of (SF _ _ HX),a6,_,rfl,_,_,rfl,rfl,_,_,rfl,rfl,mp,q2,_,_,.int one,rfl,rfl,aV.of TQ,ao,?_⟩;have TR:=SF _ _ Rb;refine⟨_,rfl,_,rfl,_,rfl,hl,_,rfl,aV.of TR,λq3 WM=>?_⟩;rw[TB];have v3:=(aH.refl HF).new (o:=.lst ((os.take ds.length).map V.int)) WM;have TU:(upd HF q3 (.lst ((os.take ds.length).map V.int))) q3=some (.lst ((os.take ds.length).map V.int)):=aC;generalize upd HF q3 (.lst ((os.take ds.length).map V.int))=HG at v3 TU ⊢;refine⟨_,rfl,_,rfl,hl,_,rfl,aV.of (v3 _ _ TR),λq4 WN=>?_⟩;rw[TC];have v4:=(aH.refl HG).new (o:=.lst ((os.drop 6).map V.int)) WN;have TV:(upd HG q4 (.lst ((os.drop 6).map V.int))) q4=some (.lst ((os.drop 6).map V.int)):=aC;generalize upd HG q4 (.lst ((os.drop 6).map V.int))=HI at v4 TV ⊢;refine⟨q3,q4,_,_,rfl,rfl,aV.of (v4 _ _ TU),aV.of TV,by rw[length_map,length_map,length_take,List.length_drop];lia,λq5 RY=>?_⟩;rw[<-map_append,TH];have v5:=(aH.refl HI).new (o:=.lst (fs.map V.int)) RY;have TY:(upd HI q5 (.lst (fs.map V.int))) q5=some (.lst (fs.map V.int)):=aC;generalize upd HI q5 (.lst (fs.map V.int))=HJ at v5 TY ⊢;have SJ:=SF.trans (v3.trans (v4.trans v5));refine⟨_,rfl,dl,_,_,.int e7,rfl,rfl,aV.of (SJ _ _ HX),a7,_,rfl,_,_,rfl,rfl,_,_,rfl,rfl,mp,q5,_,_,.int other,rfl,rfl,aV.of TY,TF,?_⟩;have TJ:=SC.trans SJ;refine⟨_,rfl,_,rfl,_,rfl,_,rfl,_,rfl,_,rfl,?_⟩;unfold z7;show eK K t.Map [.ref x,.ref l,.int one,.int other,.ref dl,.ref hl] HJ _ _;refine LY (N7.same TJ) (by lia) xR hq (w6.same TJ) td uG pos h6 en (aV.of (SJ _ _ HX)) dn (aV.of (TJ _ _ S0)) ol λan HK sK ha=>?_;have TK:=TJ.trans sK;obtain⟨kd,nL,pa,TZ,pl⟩:=ha.nL;obtain⟨W,jw,WO⟩:=LZ (one:=one) (other:=other) (N7.same TK) (by lia) xR hq (w6.same TK) td (by lia) uG pos h6 en ha;have Ta:kq (.str kd::nL.map λpt=>V.ref pt.1) (some 1) none=nL.map λpt=>V.ref pt.1:=by rw[rY (by decide)];rfl
  refine⟨_,rfl,_,rfl,an,_,rfl,pa,λr1 HL sL gL=>?_⟩;rw[Ta]at gL;refine⟨r1,rfl,⟨_,gL⟩,λD hD=>?_⟩;have pL:=TZ.same sL;refine AJ (K:=K) (a:=r1) (xs:=nL.map λpt=>V.ref pt.1) (λi σ H'=>∃(v:Option V)(rs:List Addr),σ=[v]/\A7 HL H' D nL rs/\rs.length=i) ⟨none,[],rfl,⟨(aH.refl _).new hD,aC,λj r h=>by cases h⟩,rfl⟩ (λi σ H' _ ⟨_,_,_,c,_⟩=>c.s.tup gL) ?_ ?_
  ·rintro j y σ HM N hN hj ⟨v,rs,rfl,c,rl⟩;rw[getElem?_map]at hj;cases ep:nL[j]? with
   |none=>rw[ep]at hj;cases hj
   |some pt =>
    rw[ep]at hj;cases hj;have jl:j<nL.length:=(List.getElem?_eq_some_iff.mp ep).1;refine cO ?_;obtain⟨pq,_,_⟩:=(pL.same c.s) pt (mem_of_getElem? ep);refine⟨_,rfl,pt.1,pt.2.1,rfl,pq,λOJ Bw=>?_⟩;have nd:OJ≠D:=λe=>(by rw[e,c.d]at Bw;cases Bw);refine⟨_,by rw[aM (Ne.symm nd)];exact c.d,by rw[length_map];lia,hN _ _ ⟨_,rs++[OJ],rfl,c.step hD Bw (by rw[rl];exact ep),by rw[length_append,rl];rfl⟩⟩
  rintro σ HM ⟨v,rs,rfl,cM,rl⟩;rw[length_map]at rl;have TM:=sL.trans cM.s;have Rc:=cM.dat rl pL;refine⟨_,rfl,_,rfl,_,rfl,_,rfl,?_⟩;refine jw TM λb HN sN hb=>?_;refine⟨_,rfl,_,_,_,_,true,rfl,rfl,.of (.bl _),T.uX,_,rfl,gf ?_⟩;refine⟨_,rfl,_,rfl,_,rfl,_,rfl,_,rfl,?_⟩;refine WO (TM.trans sN) λb2 W9 sO KQ=>?_;have eb:b=b2:=by rw[Bool.eq_iff_iff,hb,KQ]
  refine⟨rfl,_,rfl,?_⟩;refine fz (congrArg V.bl eb) ?_;have TO:=TM.trans (sN.trans sO);refine⟨_,rfl,_,rfl,an,_,rfl,TO.tup pa,λr2 HP sP gP=>?_⟩;rw[Ta]at gP;refine⟨r2,rfl,⟨_,gP⟩,λD2 Bv=>?_⟩;have pP:=TZ.same (TO.trans sP);refine AJ (K:=K) (a:=r2) (xs:=nL.map λpt=>V.ref pt.1) (λi σ H'=>∃(v:Option V)(rs:List Addr),σ=[v]/\A7 HP H' D2 nL rs/\rs.length=i) ⟨none,[],rfl,⟨(aH.refl _).new Bv,aC,λj r h=>by cases h⟩,rfl⟩ (λi σ H' _ ⟨_,_,_,c,_⟩=>c.s.tup gP) ?_ ?_
  ·rintro j y σ XA N hN hj ⟨v,rs,rfl,c,rl⟩;rw[getElem?_map]at hj;cases ep:nL[j]? with
   |none=>rw[ep]at hj;cases hj
   |some pt =>
    rw[ep]at hj;cases hj;have jl:j<nL.length:=(List.getElem?_eq_some_iff.mp ep).1;refine cO ?_;obtain⟨pq,_,_⟩:=(pP.same c.s) pt (mem_of_getElem? ep);refine⟨_,rfl,pt.1,pt.2.1,rfl,pq,λOJ Bw=>?_⟩;have nd:OJ≠D2:=λe=>(by rw[e,c.d]at Bw;cases Bw);refine⟨_,by rw[aM (Ne.symm nd)];exact c.d,by rw[length_map];lia,hN _ _ ⟨_,rs++[OJ],rfl,c.step Bv Bw (by rw[rl];exact ep),by rw[length_append,rl];rfl⟩⟩
  rintro σ HR ⟨v',XB,rfl,cR,Tb⟩;rw[length_map]at Tb;have OL:=cR.dat Tb pP;have OM:=Rc.same (sN.trans (sO.trans (sP.trans cR.s)));refine⟨_,rfl,_,_,OL,OM,_,rfl,?_⟩;rw[if_pos rfl,OL.eqv];refine(show if(!true)=true then _ else _ from gf ?_);exact⟨_,_,_,_,_,_,_,rfl,(SC.trans SJ).trans (sK.trans (TO.trans (sP.trans cR.s)))⟩
 rintro σ HA ⟨v6,v7,v8,v9,v10,v11,Ra,rfl,sA⟩;exact q _
theorem IU{f:Addr}(T:Txt K mg t)(F:uM K "law" "law" vW f fd)(n9:aN K mg "is_house" ju)(kB:aN K mg "lengths_of" gG)(kC:aN K mg "heights_to" gH)(kD:aN K mg "next_house" eC)(l9:aN K mg "least_way" iX)(tV:aN K mg "way_of" lM)(kE:aN K mg "way_length" gI)(iF:aN K mg "goes_from_to" eE)(iG:aN K mg "heights_hold" cx)(mB:aN K mg "way_holds" iY)(dN:aN K mg "are_rising_houses" bQ)(kF:aN K mg "side_holds" eF)(kG:aN K mg "way_judged" gJ)(kH:aN K mg "look_house" gK)(jC:aN K mg "look_bounds" fJ)(jD:aN K mg "look_unlike" fK)(kI:aN K mg "look_names" gM)(mC:aN K mg "made_wire" iZ)(mD:aN K mg "made_near" de)(mE:aN K mg "made_news" ia)(iH:aN K mg "_law_cell_at" eG)(kJ:aN K mg "_law_mixed" gN)(kK:aN K mg "_law_drawn" gO)(jE:aN K mg "_law_houses" cU)(mF:aN K mg "_law_told" ib)(mG:aN K mg "_law_news" df)(oA:aN K mg "_law_map" gz)(kL:aN K mg "_law_wires" gQ)(oB:aN K mg "_law_far" jv)(mH:aN K mg "_law_ways" dg)(jF:aN K mg "_law_length" dO)(eM:aN K mg "_law_side_right" bq)(dC:aN K mg "_law_heights_right" bF)(oC:aN K mg "_law_due" jx)(cn:aN K mg "_law_heights_spoilt" bC)(dW:aN K mg "_law_side_spoilt" bY)(jG:aN K mg "_law_forged" cV)(jH:aN K mg "_law_answer" fL):eN P w K mg base (vH P w) 10 f fd ["script"] (vI K):=by obtain⟨O9,Fo⟩:=T.fi;obtain⟨PB,Fp⟩:=T.Kx;obtain⟨PD,Fq⟩:=T.Ky;obtain⟨ON,DP⟩:=T.Hd;have eZ:=zC (P:=P) (w:=w) (base:=base) n9 T;have dF:=uZ kH T eZ;have bz:=tH (P:=P) (w:=w) (base:=base) jC T;have cW:=tJ (P:=P) (w:=w) (base:=base) jD T;have jz:=ua kI T cW;have lQ:=xE mC T dF bz;have lR:=xG mD T lQ cW;have lZ:=xI mE T dF bz jz lR;obtain⟨Ay,Az⟩:=Hk (P:=P) (w:=w) (base:=base) T Fo;obtain⟨A0,A1⟩:=Hl (P:=P) (w:=w) (base:=base) T Fp;obtain⟨Aq,Ar⟩:=Hn (P:=P) (w:=w) (base:=base) T Fq;obtain⟨xO,xP⟩:=FJ T DP Aq Ar;have dH:=ud kB T xO xP;have cP:=ue (P:=P) (w:=w) (base:=base) kC T;have j3:=ug (P:=P) (w:=w) (base:=base) kD T;have lV:=xQ l9 T j3;have jZ:=DF tV T dH cP lV;have cF:=rH (P:=P) (w:=w) (base:=base) iH T;have bS:=ui (P:=P) (w:=w) (base:=base) kJ T;have bU:=uj kK T bS;have i8:=tO (P:=P) (w:=w) (base:=base) jE T;have lY:=xT mF T bU;have l8:=xU mG T cF bS bU i8 lY;have n5:=zO oA T Ay Az A0 A1 lZ;have j9:=um (P:=P) (w:=w) (base:=base) kL T;have j6:=ur (P:=P) (w:=w) (base:=base) kE T;have h9:=rL (P:=P) (w:=w) (base:=base) iF T;have iA:=rN iG T cP;have lj:=xW mB T h9 iA j6;have dJ:=lh dN T eZ;have j7:=uv kF T dJ;have kA:=uw kG T dH lj j7;have fX:=xX (P:=P) (w:=w) (base:=base) mH T;have fQ:=tR (P:=P) (w:=w) (base:=base) jF T;have eI:=nz (P:=P) (w:=w) (base:=base) eM T;have fB:=zQ (P:=P) (w:=w) (base:=base) oB T;have cy:=ku dC T fB;have n8:=zR oC T eI fQ cy;have dU:=mh (P:=P) (w:=w) (base:=base) dW T;have cm:=j8 (P:=P) (w:=w) (base:=base) cn T;have jA:=tT jG T fB jZ;have jB:=tU jH T jZ fX cm dU jA;exact La T F cF bS bU l8 n5 j9 jB kA n8
end
end K51
namespace K51
open PySem L2 PyProof.Rows
theorem Lb{K:W.Frag}{h:Heap}{mg:Str->Option Value}{dI iI tW ja jb gX fE jc:Addr}{A8 qO tX tY ux rO tZ:Tok}{WQ:Value}{WR WS:Option Addr}{Rf:Array (Option Value)}{WT Rg WU OO WV:Value}{IV:Value}{IW IX:Option Addr}{Fs:Array (Option Value)}{IY Ft IZ zS Ia:Value}{Ib:Value}{Ic Ie:Option Addr}{Fu:Array (Option Value)}{Ig Fv Ih zT Ii:Value}{Fw:Value}{Fx Fy:Option Addr}{DQ:Array (Option Value)}{Fz DR F0 vk F2:Value}{DS:Value}{DT DU:Option Addr}{A9:Array (Option Value)}{DV BA DW tf DX:Value}{Ij:Value}{Ik Il:Option Addr}{F3:Array (Option Value)}{Im F4 Io zU Ip:Value}(KX:K.In h)(G:h.Ns mainGlobals mg)(oE:W.nsIn K mainGlobals "BadNews"=some (some (.ref dI)))(BB:W.nsIn K mainGlobals "Map"=some (some (.ref iI)))(qP:W.nsIn K mainGlobals "HOUSES"=some (some (.int 32 A8)))(fk:W.nsIn K mainGlobals "LONGEST_NAME"=some (some (.int 4 qO)))(jI:W.nsIn K mainGlobals "MOST_BIRTH"=some (some (.int 9000 tX)))(jJ:W.nsIn K mainGlobals "MOST_NAMES"=some (some (.int 4 tY)))(kM:W.nsIn K mainGlobals "MOST_NEAR"=some (some (.int 5 ux)))(iJ:W.nsIn K mainGlobals "MOST_NUMBER"=some (some (.int 900000 rO)))(jK:W.nsIn K mainGlobals "MOST_QUIET"=some (some (.int 10 tZ)))(xZ:W.nsIn K mainGlobals "abs"=some none)(xf:W.nsIn K mainGlobals "all"=some none)(xh:W.nsIn K mainGlobals "any"=some none)(tj:W.nsIn K mainGlobals "bool"=some none)(tq:W.nsIn K mainGlobals "dict"=some none)(xi:W.nsIn K mainGlobals "int"=some none)(iK:W.nsIn K mainGlobals "isinstance"=some none)(xj:W.nsIn K mainGlobals "len"=some none)(tu:W.nsIn K mainGlobals "list"=some none)(xk:W.nsIn K mainGlobals "max"=some none)(xm:W.nsIn K mainGlobals "min"=some none)(qQ:W.nsIn K mainGlobals "range"=some none)(xn:W.nsIn K mainGlobals "set"=some none)(oF:W.nsIn K mainGlobals "sorted"=some none)(qR:W.nsIn K mainGlobals "tuple"=some none)(xo:W.nsIn K mainGlobals "zip"=some none)(oG:W.excIn K dI [.type "ValueError",.type "Exception",.type "BaseException",.type "object"] "ValueError.__new__"=true)(jL:W.findIn K (.ref dI) "__getattribute__"=some (some (.builtin "BaseException.__getattribute__")))(iL:W.findIn K (.ref dI) "__getattr__"=some none)(iM:W.findIn K (.ref dI) "__class__"=some (some (.builtin "object.__class__")))(iN:W.isClsIn K dI=true)(iO:W.mroIn K dI (.type "object")=some true)(fm:W.subIn K (.ref dI) (.type "BaseException")=some true)(qS:W.makesIn K iI=true)(t9:W.findIn K (.ref iI) "__init__"=some (some (.ref tW)))(BC:W.isFn K (.ref tW)=true)(BD:W.keepIn K (.ref iI)=true)(BE:K.lookup tW=some ⟨WQ,WR,.func (W.fnOf "__init__" "Map.__init__" (cq qG) (bp qG) (aI qG) .none WT Rg WU WS OO WV),Rf⟩)(BF:W.codeIn K OO "Map.__init__"=true)(BG:W.keepIn K (.ref tW)=true)(qT:W.plainGet K iI Str.empty=true)(qU:W.hasDictIn K iI=true)(qV:W.plainOver K iI=true)(qW:W.findIn K (.ref iI) "__setattr__"=some (some (.builtin "object.__setattr__")))(mI:W.findIn K (.ref iI) "latest"=some none)(jM:W.findIn K (.ref iI) "hear"=some (some (.ref ja)))(kN:W.isFn K (.ref ja)=true)(kO:W.keepIn K (.ref ja)=true)(oH:K.lookup ja=some ⟨IV,IW,.func (W.fnOf "hear" "Map.hear" (cq qH) (bp qH) (aI qH) .none IY Ft IZ IX zS Ia),Fs⟩)(oI:W.codeIn K zS "Map.hear"=true)(oJ:W.keepIn K (.ref ja)=true)(jN:W.findIn K (.ref iI) "news"=some (some (.ref jb)))(kP:W.isFn K (.ref jb)=true)(kQ:W.keepIn K (.ref jb)=true)(oK:K.lookup jb=some ⟨Ib,Ic,.func (W.fnOf "news" "Map.news" (cq nZ) (bp nZ) (aI nZ) .none Ig Fv Ih Ie zT Ii),Fu⟩)(oM:W.codeIn K zT "Map.news"=true)(oN:W.keepIn K (.ref jb)=true)(iP:W.findIn K (.ref iI) "wires"=some (some (.ref gX)))(jO:W.isFn K (.ref gX)=true)(jP:W.keepIn K (.ref gX)=true)(mJ:K.lookup gX=some ⟨Fw,Fx,.func (W.fnOf "wires" "Map.wires" (cq mX) (bp mX) (aI mX) .none Fz DR F0 Fy vk F2),DQ⟩)(mK:W.codeIn K vk "Map.wires"=true)(mL:W.keepIn K (.ref gX)=true)(fq:W.findIn K (.ref iI) "holder"=some (some (.ref fE)))(iQ:W.isFn K (.ref fE)=true)(iR:W.keepIn K (.ref fE)=true)(kR:K.lookup fE=some ⟨DS,DT,.func (W.fnOf "holder" "Map.holder" (cq o6) (bp o6) (aI o6) .none DV BA DW DU tf DX),A9⟩)(kS:W.codeIn K tf "Map.holder"=true)(kT:W.keepIn K (.ref fE)=true)(jQ:W.findIn K (.ref iI) "copy"=some (some (.ref jc)))(kU:W.isFn K (.ref jc)=true)(kW:W.keepIn K (.ref jc)=true)(oO:K.lookup jc=some ⟨Ij,Ik,.func (W.fnOf "copy" "Map.copy" (cq xA) (bp xA) (aI xA) .none Im F4 Io Il zU Ip),F3⟩)(oP:W.codeIn K zU "Map.copy"=true)(oQ:W.keepIn K (.ref jc)=true)(iS:W.kitOne K (.type "int") (.type "bool")=some false)(fu:W.kitOne K (.type "bool") (.type "bool")=some true): ∃t,Txt K mg t:=⟨⟨dI,iI,tW,ja,jb,gX,fE,jc⟩,⟨⟨_,W.mg_of KX G qP⟩,⟨_,W.mg_of KX G fk⟩,⟨_,W.mg_of KX G jI⟩,⟨_,W.mg_of KX G jJ⟩,⟨_,W.mg_of KX G kM⟩,⟨_,W.mg_of KX G iJ⟩,⟨_,W.mg_of KX G jK⟩,W.mg_none_of KX G xZ,W.mg_none_of KX G xf,W.mg_none_of KX G xh,W.mg_none_of KX G tj,W.mg_none_of KX G tq,W.mg_none_of KX G xi,W.mg_none_of KX G iK,W.mg_none_of KX G xj,W.mg_none_of KX G tu,W.mg_none_of KX G xk,W.mg_none_of KX G xm,W.mg_none_of KX G qQ,W.mg_none_of KX G xn,W.mg_none_of KX G oF,W.mg_none_of KX G qR,W.mg_none_of KX G xo,W.mg_of KX G oE,W.mg_of KX G BB,oG,⟨jL,iL,iM,iN,iO,fm⟩,⟨qS,t9,BC,BD⟩,⟨_,nQ BE BF BG⟩,⟨qT,qU,qV,qW⟩,mI,⟨jM,kN,kO⟩,⟨_,nQ oH oI oJ⟩,⟨jN,kP,kQ⟩,⟨_,nQ oK oM oN⟩,⟨iP,jO,jP⟩,⟨_,nQ mJ mK mL⟩,⟨fq,iQ,iR⟩,⟨_,nQ kR kS kT⟩,⟨jQ,kU,kW⟩,⟨_,nQ oO oP oQ⟩,iS,fu⟩⟩
end K51
open PySem PySem.W PyProof.Rows
structure PySem.W.Fast:Prop where(tw10753984919517902947 tw17110988476743595704 tw10777148797057430302 tw14847593440907232726 tw13171648149185363415 tw17807128197372605764 tw14890034444937615790 tw15375414504085819489 tw17898334448662189276 tw17176090284264300227 tw14605748673523260726 tw3175082359439344376 tw13562064479386626166 tw15392682329886627552 tw11019967698550339093 tw1481946809118545722 tw17643416677011494473 tw9063647079341244351 tw4001623796305107922 tw2769007890251928041 tw12476717912310662052 tw13720508854921029367 tw3761668395793962443 tw16315220825323686998 tw9148581915684013846 tw2532509053049775332 tw7727597621296461760 tw16173402027577306823 tw15047978395308397136 tw8943988663283541001 tw8903976969605494056 tw10386526167375192197 tw9313801498076278298 tw15767061291817360020 tw5373280536008422104 tw1005339492291611162 tw1531881036014275438 tw1020171067801794899 tw764378885378863231 tw4858238953664708059 tw15753544913164045738 tw6078746669816879814 tw4578966324480585285 tw4245878958596343610 tw11647465632997900336 tw6258447361797462236 tw14109731756146402941 tw12040001037155070834 tw2929713654034092368 tw7082828399541822943 tw13864924253796811787 tw4613008638445926929 tw3589324473596007098 tw388198567318569292:True)
set_option maxRecDepth 100000 in
set_option maxHeartbeats 0 in
theorem PySem.Challenge.cw_stormpost_k51_answers_judged_holds : PySem.Challenge.rw_stormpost_k51_answers_judged.Holds := by
 w_on;o_law;k_head;(case hw=>w_witness2)
 k_fill
 refine L2.EL (l:=PySem.Challenge.rw_stormpost_k51_answers_judged) (k:=10) ⟨rfl,by decide,by decide⟩ rfl rfl (λw h Y=>PySem.W.kIn_of Y) ?F
 case F =>
  intro w mg fa h KX G KN;have n9:L2.aN (L2.cI KX) mg "is_house" K51.ju:=by dsimp only[L2.cI];refine' L2.aN.mk' KX G _ _ _ _;any_goals k_is
  have kB:L2.aN (L2.cI KX) mg "lengths_of" K51.gG:=by dsimp only[L2.cI];refine' L2.aN.mk' KX G _ _ _ _;any_goals k_is
  have kC:L2.aN (L2.cI KX) mg "heights_to" K51.gH:=by dsimp only[L2.cI];refine' L2.aN.mk' KX G _ _ _ _;any_goals k_is
  have kD:L2.aN (L2.cI KX) mg "next_house" K51.eC:=by dsimp only[L2.cI];refine' L2.aN.mk' KX G _ _ _ _;any_goals k_is
  have l9:L2.aN (L2.cI KX) mg "least_way" K51.iX:=by dsimp only[L2.cI];refine' L2.aN.mk' KX G _ _ _ _;any_goals k_is
  have tV:L2.aN (L2.cI KX) mg "way_of" K51.lM:=by dsimp only[L2.cI];refine' L2.aN.mk' KX G _ _ _ _;any_goals k_is
  have kE:L2.aN (L2.cI KX) mg "way_length" K51.gI:=by dsimp only[L2.cI];refine' L2.aN.mk' KX G _ _ _ _;any_goals k_is
  have iF:L2.aN (L2.cI KX) mg "goes_from_to" K51.eE:=by dsimp only[L2.cI];refine' L2.aN.mk' KX G _ _ _ _;any_goals k_is
  have iG:L2.aN (L2.cI KX) mg "heights_hold" K51.cx:=by dsimp only[L2.cI];refine' L2.aN.mk' KX G _ _ _ _;any_goals k_is
  have mB:L2.aN (L2.cI KX) mg "way_holds" K51.iY:=by dsimp only[L2.cI];refine' L2.aN.mk' KX G _ _ _ _;any_goals k_is
  have dN:L2.aN (L2.cI KX) mg "are_rising_houses" K51.bQ:=by dsimp only[L2.cI];refine' L2.aN.mk' KX G _ _ _ _;any_goals k_is
  have kF:L2.aN (L2.cI KX) mg "side_holds" K51.eF:=by dsimp only[L2.cI];refine' L2.aN.mk' KX G _ _ _ _;any_goals k_is
  have kG:L2.aN (L2.cI KX) mg "way_judged" K51.gJ:=by dsimp only[L2.cI];refine' L2.aN.mk' KX G _ _ _ _;any_goals k_is
  have kH:L2.aN (L2.cI KX) mg "look_house" K51.gK:=by dsimp only[L2.cI];refine' L2.aN.mk' KX G _ _ _ _;any_goals k_is
  have jC:L2.aN (L2.cI KX) mg "look_bounds" K51.fJ:=by dsimp only[L2.cI];refine' L2.aN.mk' KX G _ _ _ _;any_goals k_is
  have jD:L2.aN (L2.cI KX) mg "look_unlike" K51.fK:=by dsimp only[L2.cI];refine' L2.aN.mk' KX G _ _ _ _;any_goals k_is
  have kI:L2.aN (L2.cI KX) mg "look_names" K51.gM:=by dsimp only[L2.cI];refine' L2.aN.mk' KX G _ _ _ _;any_goals k_is
  have mC:L2.aN (L2.cI KX) mg "made_wire" K51.iZ:=by dsimp only[L2.cI];refine' L2.aN.mk' KX G _ _ _ _;any_goals k_is
  have mD:L2.aN (L2.cI KX) mg "made_near" K51.de:=by dsimp only[L2.cI];refine' L2.aN.mk' KX G _ _ _ _;any_goals k_is
  have mE:L2.aN (L2.cI KX) mg "made_news" K51.ia:=by dsimp only[L2.cI];refine' L2.aN.mk' KX G _ _ _ _;any_goals k_is
  have iH:L2.aN (L2.cI KX) mg "_law_cell_at" K51.eG:=by dsimp only[L2.cI];refine' L2.aN.mk' KX G _ _ _ _;any_goals k_is
  have kJ:L2.aN (L2.cI KX) mg "_law_mixed" K51.gN:=by dsimp only[L2.cI];refine' L2.aN.mk' KX G _ _ _ _;any_goals k_is
  have kK:L2.aN (L2.cI KX) mg "_law_drawn" K51.gO:=by dsimp only[L2.cI];refine' L2.aN.mk' KX G _ _ _ _;any_goals k_is
  have jE:L2.aN (L2.cI KX) mg "_law_houses" K51.cU:=by dsimp only[L2.cI];refine' L2.aN.mk' KX G _ _ _ _;any_goals k_is
  have mF:L2.aN (L2.cI KX) mg "_law_told" K51.ib:=by dsimp only[L2.cI];refine' L2.aN.mk' KX G _ _ _ _;any_goals k_is
  have mG:L2.aN (L2.cI KX) mg "_law_news" K51.df:=by dsimp only[L2.cI];refine' L2.aN.mk' KX G _ _ _ _;any_goals k_is
  have oA:L2.aN (L2.cI KX) mg "_law_map" K51.gz:=by dsimp only[L2.cI];refine' L2.aN.mk' KX G _ _ _ _;any_goals k_is
  have kL:L2.aN (L2.cI KX) mg "_law_wires" K51.gQ:=by dsimp only[L2.cI];refine' L2.aN.mk' KX G _ _ _ _;any_goals k_is
  have oB:L2.aN (L2.cI KX) mg "_law_far" K51.jv:=by dsimp only[L2.cI];refine' L2.aN.mk' KX G _ _ _ _;any_goals k_is
  have mH:L2.aN (L2.cI KX) mg "_law_ways" K51.dg:=by dsimp only[L2.cI];refine' L2.aN.mk' KX G _ _ _ _;any_goals k_is
  have jF:L2.aN (L2.cI KX) mg "_law_length" K51.dO:=by dsimp only[L2.cI];refine' L2.aN.mk' KX G _ _ _ _;any_goals k_is
  have eM:L2.aN (L2.cI KX) mg "_law_side_right" K51.bq:=by dsimp only[L2.cI];refine' L2.aN.mk' KX G _ _ _ _;any_goals k_is
  have dC:L2.aN (L2.cI KX) mg "_law_heights_right" K51.bF:=by dsimp only[L2.cI];refine' L2.aN.mk' KX G _ _ _ _;any_goals k_is
  have oC:L2.aN (L2.cI KX) mg "_law_due" K51.jx:=by dsimp only[L2.cI];refine' L2.aN.mk' KX G _ _ _ _;any_goals k_is
  have cn:L2.aN (L2.cI KX) mg "_law_heights_spoilt" K51.bC:=by dsimp only[L2.cI];refine' L2.aN.mk' KX G _ _ _ _;any_goals k_is
  have dW:L2.aN (L2.cI KX) mg "_law_side_spoilt" K51.bY:=by dsimp only[L2.cI];refine' L2.aN.mk' KX G _ _ _ _;any_goals k_is
  have jG:L2.aN (L2.cI KX) mg "_law_forged" K51.cV:=by dsimp only[L2.cI];refine' L2.aN.mk' KX G _ _ _ _;any_goals k_is
  have jH:L2.aN (L2.cI KX) mg "_law_answer" K51.fL:=by dsimp only[L2.cI];refine' L2.aN.mk' KX G _ _ _ _;any_goals k_is
  have OP:L2.aN (L2.cI KX) mg "law" K51.vW:=by dsimp only[L2.cI];refine' L2.aN.mk' KX G _ _ _ _;any_goals k_is
  have T:∃t,K51.Txt (L2.cI KX) mg t:=by
   dsimp only[L2.cI];refine' K51.Lb KX G ?oE ?BB ?qP ?fk ?jI ?jJ ?kM ?iJ ?jK ?xZ ?xf ?xh ?tj ?tq ?xi ?iK ?xj ?tu ?xk ?xm ?qQ ?xn ?oF ?qR ?xo ?oG ?jL ?iL ?iM ?iN ?iO ?fm ?qS ?t9 ?BC ?BD ?BE ?BF ?BG ?qT ?qU ?qV ?qW ?mI ?jM ?kN ?kO ?oH ?oI ?oJ ?jN ?kP ?kQ ?oK ?oM ?oN ?iP ?jO ?jP ?mJ ?mK ?mL ?fq ?iQ ?iR ?kR ?kS ?kT ?jQ ?kU ?kW ?oO ?oP ?oQ ?iS ?fu
   (case oE=>k_is)
   (case BB=>k_is)
   (case qP=>k_is)
   (case fk=>k_is)
   (case jI=>k_is)
   (case jJ=>k_is)
   (case kM=>k_is)
   (case iJ=>k_is)
   (case jK=>k_is)
   (case xZ=>k_is)
   (case xf=>k_is)
   (case xh=>k_is)
   (case tj=>k_is)
   (case tq=>k_is)
   (case xi=>k_is)
   (case iK=>k_is)
   (case xj=>k_is)
   (case tu=>k_is)
   (case xk=>k_is)
   (case xm=>k_is)
   (case qQ=>k_is)
   (case xn=>k_is)
   (case oF=>k_is)
   (case qR=>k_is)
   (case xo=>k_is)
   (case oG=>k_exc)
   (case jL=>k_is)
   (case iL=>k_is)
   (case iM=>k_is)
   (case iN=>k_is)
   (case iO=>k_is)
   (case fm=>k_is)
   (case qS=>k_is)
   (case t9=>k_is)
   (case BC=>k_is)
   (case BD=>k_is)
   (case BE=>k_is)
   (case BF=>k_is)
   (case BG=>k_is)
   (case qT=>k_is)
   (case qU=>k_is)
   (case qV=>k_is)
   (case qW=>k_is)
   (case mI=>k_is)
   (case jM=>k_is)
   (case kN=>k_is)
   (case kO=>k_is)
   (case oH=>k_is)
   (case oI=>k_is)
   (case oJ=>k_is)
   (case jN=>k_is)
   (case kP=>k_is)
   (case kQ=>k_is)
   (case oK=>k_is)
   (case oM=>k_is)
   (case oN=>k_is)
   (case iP=>k_is)
   (case jO=>k_is)
   (case jP=>k_is)
   (case mJ=>k_is)
   (case mK=>k_is)
   (case mL=>k_is)
   (case fq=>k_is)
   (case iQ=>k_is)
   (case iR=>k_is)
   (case kR=>k_is)
   (case kS=>k_is)
   (case kT=>k_is)
   (case jQ=>k_is)
   (case kU=>k_is)
   (case kW=>k_is)
   (case oO=>k_is)
   (case oP=>k_is)
   (case oQ=>k_is)
   (case iS=>kit_is)
   (case fu=>kit_is)
  obtain⟨t,T⟩:=T;exact L2.EK OP (λ_ _ _ _ _ _ us hl=>match us,hl with|[_],_=>rfl) KN λf fd base F=>K51.IU T F n9 kB kC kD l9 tV kE iF iG mB dN kF kG kH jC jD kI mC mD mE iH kJ kK jE mF mG oA kL oB mH jF eM dC oC cn dW jG jH
#print axioms PySem.Challenge.cw_stormpost_k51_answers_judged_holds
