import PyProof.Rows.All
import Wide.All
import OpenK.AllK
import Wide.FinOn
import Lean
import PyProof.EqAt
import PyProof.EqKinds
import PyProof.TupleCall
import PySem.Challenge.RW_stormpost_k29_puts_and_refusals
set_option genSizeOf false
set_option Elab.async false
set_option linter.all false
set_option maxRecDepth 100000
namespace L2
open PySem PySem.Spec PyProof.Rows
abbrev Key:=Sum Int Str
def OT:Key→Value→Bool
 | .inl k,v=>Value.isInt k v
 | .inr x,v=>Value.isStrOf x v
def WA (w:World):Key→Int
 | .inl k=>hashInt k
 | .inr x=>hashStr w x
theorem cE:∀ {k:Key} {v:Value},OT k v=true→(∃ i t,k=Sum.inl i∧v=Value.int i t)∨(∃ x t,k=Sum.inr x∧v=Value.str x t)
 | .inl i,v,h=>by
  obtain ⟨t,e⟩:=Value.isInt_shape (k:=i) (v:=v) h
  exact .inl ⟨i,t,rfl,e⟩
 | .inr x,v,h=>by
  obtain ⟨t,e⟩:=Value.isStrOf_shape (x:=x) (v:=v) h
  exact .inr ⟨x,t,rfl,e⟩
theorem PY (a b:Int):decide ((Sum.inl a:Key)=Sum.inl b)=(a == b):=by
 by_cases e:a=b
 ·subst e;simp
 ·have h:¬ (Sum.inl a:Key)=Sum.inl b:=fun q=>e (Sum.inl.inj q)
  rw [decide_eq_false h]
  exact (beq_eq_false_iff_ne.mpr e).symm
theorem PZ (a b:Str):decide ((Sum.inr a:Key)=Sum.inr b)=decide (a=b):=by
 by_cases e:a=b
 ·subst e;simp
 ·have h:¬ (Sum.inr a:Key)=Sum.inr b:=fun q=>e (Sum.inr.inj q)
  rw [decide_eq_false h,decide_eq_false e]
theorem Pa (a:Int) (b:Str):decide ((Sum.inl a:Key)=Sum.inr b)=false:=decide_eq_false (fun q=>nomatch q)
theorem Pb (a:Str) (b:Int):decide ((Sum.inr a:Key)=Sum.inl b)=false:=decide_eq_false (fun q=>nomatch q)
def Az (prog:Program) (w:World):PySem.KeyKind prog w Key where
 is:=OT
 hash:=WA w
 inj:=fun v a b ha hb=>by
  rcases cE ha with ⟨i,t,rfl,rfl⟩ | ⟨x,t,rfl,rfl⟩
  ·rcases cE hb with ⟨j,u,rfl,e⟩ | ⟨y,u,rfl,e⟩
   ·injection e with e1 _;rw [e1]
   ·exact nomatch e
  ·rcases cE hb with ⟨j,u,rfl,e⟩ | ⟨y,u,rfl,e⟩
   ·exact nomatch e
   ·injection e with e1 _;rw [e1]
 byValue:=fun k v h=>by
  rcases cE h with ⟨i,t,rfl,rfl⟩ | ⟨x,t,rfl,rfl⟩ <;> rfl
 pyHash:=fun hv h=>by
  rcases cE hv with ⟨i,t,rfl,rfl⟩ | ⟨x,t,rfl,rfl⟩
  ·exact wpAny_pyHash_int h
  ·exact wpAny_pyHash_str h
 eqBool:=fun hu hv h=>by
  rcases cE hu with ⟨i,t,rfl,rfl⟩ | ⟨x,t,rfl,rfl⟩
  ·rcases cE hv with ⟨j,u,rfl,rfl⟩ | ⟨y,u,rfl,rfl⟩
   ·rw [PY] at h;exact wpAny_eqBool_int h
   ·rw [Pa] at h;exact SeqAt.EqAt.int_str i t y u _ _ _ _ h
  ·rcases cE hv with ⟨j,u,rfl,rfl⟩ | ⟨y,u,rfl,rfl⟩
   ·rw [Pb] at h;exact SeqAt.EqAt.str_int x t j u _ _ _ _ h
   ·rw [PZ] at h;exact wpAny_eqBool_str h
 «strs»:=fun k x t v h=>by
  rcases cE h with ⟨i,u,rfl,e⟩ | ⟨y,u,rfl,e⟩
  ·exact nomatch e
  ·injection e with e1 _
   subst e1
   cases v <;> rfl
end L2
namespace L2
open PySem PySem.Spec PyProof.Rows
inductive V where
 | bH | bl (b:Bool) | int (i:Int) | str (x:Str) | GC (b:Array UInt8) | Pc (b:UInt64) | ref (a:Addr) | ty (n:String)
 deriving DecidableEq
def RelV:V→Value→Prop
 | .bH,u=>u=Value.none
 | .bl b,u=>u=Value.bool b
 | .int i,u=>∃ t,u=Value.int i t
 | .str x,u=>∃ t,u=Value.str x t
 | .GC b,u=>∃ t,u=Value.bytes b t
 | .Pc b,u=>∃ t,u=Value.float b t
 | .ref a,u=>u=Value.ref a
 | .ty n,u=>u=Value.type n
abbrev av:List V→List Value→Prop:=Paired RelV
theorem av.length {xs:List V} {us:List Value} (r:av xs us):xs.length=us.length:=Paired.length r
theorem av.get:∀ {xs:List V} {us:List Value} {i:Nat} {x:V},av xs us→xs[i]?=some x→∃ u,us[i]?=some u∧RelV x u
 | _,_,_,_,.nil,e=>by simp at e
 | _,_,0,_,.cons r _,e=>by simp at e;subst e;exact ⟨_,rfl,r⟩
 | _,_,i+1,x,.cons _ t,e=>by
  obtain ⟨u,h1,h2⟩:=av.get (i:=i) (x:=x) t (by simpa using e)
  exact ⟨u,by simpa using h1,h2⟩
theorem av.set {x:V} {u:Value} (r:RelV x u):∀ {xs:List V} {us:List Value} (i:Nat),av xs us→av (xs.set i x) (us.set i u)
 | _,_,_,.nil=>.nil
 | _,_,0,.cons _ t=>.cons r t
 | _,_,i+1,.cons q t=>.cons q (av.set r i t)
theorem av.append:∀ {xs ys:List V} {us ws:List Value},av xs us→av ys ws→av (xs ++ ys) (us ++ ws)
 | _,_,_,_,.nil,s=>s
 | _,_,_,_,.cons r t,s=>.cons r (av.append t s)
theorem av.take:∀ {xs:List V} {us:List Value} (n:Nat),av xs us→av (xs.take n) (us.take n)
 | _,_,0,_=>.nil
 | _,_,_+1,.nil=>.nil
 | _,_,n+1,.cons r t=>.cons r (av.take n t)
theorem av.drop:∀ {xs:List V} {us:List Value} (n:Nat),av xs us→av (xs.drop n) (us.drop n)
 | _,_,0,r=>r
 | _,_,_+1,.nil=>.nil
 | _,_,n+1,.cons _ t=>av.drop n t
def zI:Option V→Option Value→Prop
 | some v,some u=>RelV v u
 | none,none=>True
 | _,_=>False
def KV {κ:Type}:List (κ × V)→List (κ × Value)→Prop:=Paired fun (p:κ × V) (q:κ × Value)=>p.1=q.1∧RelV p.2 q.2
def kV:Key→V
 | .inl i=>.int i
 | .inr x=>.str x
inductive HO where
 | lst (xs:List V)
 | tup (xs:List V)
 | dK (mG:List (Key × V)) | dT (mG:List (List Key × V))
 | set (S:Int→Bool) (n:Nat)
 | ins (C dx:Addr) (fs:List (Str × V))
 | own (x:Addr)
 | xd (fs:List (Str × V))
 | met (f x:Addr)
 | VZ (lo hi:Int)
 | Df (o:Obj) (u:HO)
 | OU (ps:Array Value)
 | ext (φ:Heap→Prop)
abbrev Hp:=Addr→Option HO
def upd (H:Hp) (a:Addr) (o:HO):Hp:=fun b=>if b=a then some o else H b
theorem aB {H:Hp} {a:Addr} {o:HO}:upd H a o a=some o:=by unfold upd;rw [if_pos rfl]
theorem aE {H:Hp} {a b:Addr} {o:HO} (h:b≠a):upd H a o b=H b:=by unfold upd;rw [if_neg h]
theorem jv {H:Hp} {a:Addr} {o u:HO}:upd (upd H a o) a u=upd H a u:=by
 funext b;unfold upd;split <;> rfl
theorem aK {H:Hp} {a b:Addr} {o:HO} (h:H a=some o) (h':H b=none):a≠b:=by
 intro e;subst e;rw [h] at h';cases h'
section
variable (P:Program) (w:World)
def eM (H:Hp) (h:Heap) (a:Addr):HO→Prop
 | .lst xs=>xs.length≤sizeLine∧∃ (aq:List Value) (n:Nat),av xs aq∧h.get? a=some { cls:=.type "list",data:=.seq aq.toArray n }
 | .tup xs=>xs.length≤sizeLine∧∃ aq:List Value,av xs aq∧IsTup h a aq.toArray
 | .dK mG=>mG.length≤sizeLine∧(a == sysModules)=false∧∃ vs,KV mG vs∧h.DictOf (Az P w) a vs
 | .dT mG=>mG.length≤sizeLine∧(a == sysModules)=false∧∃ xs:List (List Key × Addr × Value),
   Paired (fun (p:List Key × V) (q:List Key × Addr × Value)=>p.1=q.1∧H q.2.1=some (.tup (p.1.map kV))∧RelV p.2 q.2.2) mG xs ∧
   ∃ o es ep,h.get? a=some o∧o.ExactDict∧o.data=.dict es ep∧es.toList=xs.map (entryOfKey (tupleKind (Az P w)))∧(xs.map (·.1)).Nodup
 | .set S n=>h.SetOf (intKind P w) a S n
 | .ins C dx fs=>H dx=some (.own a)∧fs.length≤1000∧dx≠a∧h.get? a=some (PySem.W.instObj C dx) ∧
   ∃ mA,h.Ns1 dx mA∧(∀ f,zI (fs.lookup f) (mA f))∧PySem.Within mA (fs.map (·.1))
 | .own _=>∃ o,h.get? a=some o
 | .xd fs=>∃ mA,h.Ns1 a mA∧∀ f,zI (fs.lookup f) (mA f)
 | .VZ lo hi=>∃ t u v,h.get? a=some { cls:=.type "range",data:=.fields #[.int lo t,.int hi u,.int 1 v] }
 | .Df o u=>h.get? a=some o∧eM H h a u
 | .OU ps=>h.get? a=some { cls:=.none,data:=.fields ps }
 | .met f x=>h.get? a=some (PySem.W.methodObj (.ref f) (.ref x))
 | .ext φ=>φ h∧(∃ o,h.get? a=some o)∧∀ h1 h2:Heap,φ h1→(∀ o,h1.get? a=some o→h2.get? a=some o)→φ h2
def u5 (H:Hp) (h:Heap):Prop:=∀ a o,H a=some o→eM P w H h a o
end
section
variable {P:Program} {w:World} {H H':Hp} {h h':Heap} {a:Addr} {o:HO}
theorem eM.lt (x:eM P w H h a o):a < h.objs.size:=by
 cases o with
 | lst xs=>obtain ⟨_,_,_,_,e⟩:=x;exact Heap.lt_size e
 | tup xs=>obtain ⟨_,_,_,p⟩:=x;exact p.lt
 | dK mG=>obtain ⟨_,_,_,_,o,_,_,e,_⟩:=x;exact Heap.lt_size e
 | dT mG=>obtain ⟨_,_,_,_,o,_,_,e,_⟩:=x;exact Heap.lt_size e
 | set S n=>obtain ⟨o,_,_,_,e,_⟩:=x;exact Heap.lt_size e
 | ins C dx fs=>obtain ⟨_,_,_,e,_⟩:=x;exact Heap.lt_size e
 | own y=>obtain ⟨_,e⟩:=x;exact Heap.lt_size e
 | xd fs=>obtain ⟨_,⟨_,_,_,e,_⟩,_⟩:=x;exact Heap.lt_size e
 | VZ lo hi=>obtain ⟨_,_,_,e⟩:=x;exact Heap.lt_size e
 | Df ob u=>obtain ⟨e,_⟩:=x;exact Heap.lt_size e
 | OU ps=>exact Heap.lt_size (show h.get? a=some _ from x)
 | met f y=>exact Heap.lt_size (show h.get? a=some _ from x)
 | ext φ=>obtain ⟨_,⟨_,e⟩,_⟩:=x;exact Heap.lt_size e
theorem Paired.SR {α β:Type} {F G:α→β→Prop}:∀ {l₁:List α} {l₂:List β},Paired F l₁ l₂→(∀ a b,F a b→G a b)→Paired G l₁ l₂
 | _,_,.nil,_=>.nil
 | _,_,.cons r t,f=>.cons (f _ _ r) (Paired.SR t f)
theorem eM.zJ (x:eM P w H h a o) (k:∀ b u,(b=a∨H b=some (.own a))→h.get? b=some u→h'.get? b=some u)
  (ho:∀ b,H b=some (.own a)→H' b=some (.own a)) (ht:∀ b xs,H b=some (.tup xs)→H' b=some (.tup xs)):eM P w H' h' a o:=by
 induction o with
 | lst xs=>obtain ⟨z,aq,n,r,e⟩:=x;exact ⟨z,aq,n,r,k _ _ (.inl rfl) e⟩
 | tup xs=>obtain ⟨z,aq,r,ob,e,c⟩:=x;exact ⟨z,aq,r,ob,k _ _ (.inl rfl) e,c⟩
 | dK mG=>obtain ⟨z,y,vs,r,ob,es,ep,e,c⟩:=x;exact ⟨z,y,vs,r,ob,es,ep,k _ _ (.inl rfl) e,c⟩
 | dT mG =>
  obtain ⟨z,y,xs,r,ob,es,ep,e,c⟩:=x
  exact ⟨z,y,xs,Paired.SR r fun p q z=>⟨z.1,ht _ _ z.2.1,z.2.2⟩,ob,es,ep,k _ _ (.inl rfl) e,c⟩
 | set S n=>obtain ⟨ob,es,ep,t,e,c⟩:=x;exact ⟨ob,es,ep,t,k _ _ (.inl rfl) e,c⟩
 | ins C dx fs =>
  obtain ⟨d,z,ne,e,mA,⟨od,es,ep,e2,c⟩,r⟩:=x
  exact ⟨ho _ d,z,ne,k _ _ (.inl rfl) e,mA,⟨od,es,ep,k _ _ (.inr d) e2,c⟩,r⟩
 | own y=>obtain ⟨ob,e⟩:=x;exact ⟨ob,k _ _ (.inl rfl) e⟩
 | xd fs=>obtain ⟨mA,⟨od,es,ep,e,c⟩,r⟩:=x;exact ⟨mA,⟨od,es,ep,k _ _ (.inl rfl) e,c⟩,r⟩
 | VZ lo hi=>obtain ⟨t,u,v,e⟩:=x;exact ⟨t,u,v,k _ _ (.inl rfl) e⟩
 | Df ob u ih=>obtain ⟨e,q⟩:=x;exact ⟨k _ _ (.inl rfl) e,ih q⟩
 | OU ps =>
  have e:h.get? a=some { cls:=.none,data:=.fields ps }:=x
  show h'.get? a=some { cls:=.none,data:=.fields ps }
  exact k a _ (.inl rfl) e
 | met f y =>
  have e:h.get? a=some (PySem.W.methodObj (.ref f) (.ref y)):=x
  show h'.get? a=some (PySem.W.methodObj (.ref f) (.ref y))
  exact k a _ (.inl rfl) e
 | ext φ=>obtain ⟨p,⟨o,e⟩,st⟩:=x;exact ⟨st _ _ p fun o q=>k _ _ (.inl rfl) q,⟨o,k _ _ (.inl rfl) e⟩,st⟩
theorem u5.lt (x:u5 P w H h) (e:H a=some o):a < h.objs.size:=(x a o e).lt
theorem u5.fresh (x:u5 P w H h) (e:h.objs.size≤a):H a=none:=by
 cases q:H a with
 | none=>rfl
 | some u=>exact absurd (Nat.lt_of_lt_of_le (x.lt q) e) (Nat.lt_irrefl _)
theorem u5.kept (x:u5 P w H h) (k:∀ b u,h.get? b=some u→h'.get? b=some u):u5 P w H h':=fun a o e =>
 (x a o e).zJ (fun b u _ q=>k b u q) (fun _ q=>q) fun _ _ q=>q
theorem u5.laid (x:u5 P w H h) (k:∀ b u,h.get? b=some u→h'.get? b=some u) (hp:h.objs.size≤a) (new:eM P w (upd H a o) h' a o):u5 P w (upd H a o) h':=fun b u e=>by
 have hn:=x.fresh hp
 by_cases hb:b=a
 ·subst hb;rw [aB] at e;cases e;exact new
 ·rw [aE hb] at e
  exact (x b u e).zJ (fun c v _ q=>k c v q) (fun c q=>by rw [aE (aK q hn)];exact q) fun c xs q=>by rw [aE (aK q hn)];exact q
end
def Rd (H:Hp) (a:Addr) (u:HO):Prop:=H a=some u∨∃ o,H a=some (.Df o u)
theorem Rd.ok {P:Program} {w:World} {H:Hp} {h:Heap} {a:Addr} {u:HO} (r:Rd H a u) (x:u5 P w H h):eM P w H h a u:=by
 rcases r with r | ⟨o,r⟩
 ·exact x a u r
 ·obtain ⟨_,q⟩:=x a _ r
  exact q
def Va:Option HO→Prop
 | some (.lst _)=>True
 | some (.dK _)=>True
 | some (.dT _)=>True
 | some (.set _ _)=>True
 | some (.ins _ _ _)=>True
 | some (.ext _)=>True
 | _=>False
section
variable {P:Program} {w:World} {H:Hp} {h h':Heap} {x e:Addr} {o':HO}
theorem u5.write (ok:u5 P w H h) (mu:Va (H x)) (he:e=x∨H e=some (.own x)) (k:∀ b u,b≠e→h.get? b=some u→h'.get? b=some u) (Rp:∃ u,h'.get? e=some u)
  (new:eM P w (upd H x o') h' x o'):u5 P w (upd H x o') h':=fun b u q=>by
 have SU:∀ c y,H c=some (.own y)→c≠x:=fun c y r z=>by subst z;rw [r] at mu;exact mu
 have WB:∀ c xs,H c=some (.tup xs)→c≠x:=fun c xs r z=>by subst z;rw [r] at mu;exact mu
 by_cases hb:b=x
 ·subst hb;rw [aB] at q;cases q;exact new
 ·rw [aE hb] at q
  by_cases JP:b=e
  ·have q':H b=some (.own x):=by
    rcases he with z | z
    ·exact absurd (JP.trans z) hb
    ·rw [JP];exact z
   rw [q] at q';cases q'
   obtain ⟨v,hv⟩:=Rp
   exact ⟨v,by rw [JP];exact hv⟩
  ·refine (ok b u q).zJ (fun c v hc r=>k c v ?_ r) (fun c r=>by rw [aE (SU c b r)];exact r) fun c xs r=>by rw [aE (WB c xs r)];exact r
   rcases hc with rfl | hc
   ·exact JP
   ·rintro rfl
    rcases he with z | z
    ·exact SU c b hc z
    ·rw [hc] at z;cases z;exact hb rfl
end
structure Un (fs ex:List Addr) (H H':Hp) (h h':Heap):Prop where
 keep:∀ b o,h.get? b=some o→H b=none→b ∉ fs→b ∉ ex→h'.get? b=some o
 slot:∀ b o,h.get? b=some o→H b=none→b ∈ fs→b ∉ ex→∃ sl,h'.get? b=some { o with slots:=sl }
 free:∀ b o,h.get? b=some o→H b=none→b ∉ ex→H' b=none
 there:∀ b o,h.get? b=some o→b ∉ ex→∃ o',h'.get? b=some o'
 t9:∀ b xs,H b=some (.tup xs)→H' b=some (.tup xs)
 rn:∀ b o u,H b=some (.Df o u)→H' b=some (.Df o u)
 uA:∀ b ps,H b=some (.OU ps)→∃ more,H' b=some (.OU (ps ++ more))
section
variable {fs OV ex ex':List Addr} {H H1 H2:Hp} {h h1 h2 h':Heap} {a x e:Addr} {o:HO}
theorem Un.any (u:Un fs ex H H1 h h1) {b:Addr} {ob:Obj} (q:h.get? b=some ob) (n:H b=none) (hx:b ∉ ex):∃ sl,h1.get? b=some { ob with slots:=sl }:=by
 by_cases hb:b ∈ fs
 ·exact u.slot b ob q n hb hx
 ·exact ⟨ob.slots,u.keep b ob q n hb hx⟩
theorem Un.kept (k:∀ b u,h.get? b=some u→h'.get? b=some u):Un fs ex H H h h' :=
 ⟨fun b ob q _ _ _=>k b ob q,fun b ob q _ _ _=>⟨ob.slots,k b ob q⟩,fun _ _ _ n _=>n,fun b ob q _=>⟨ob,k b ob q⟩,fun _ _ q=>q,fun _ _ _ q=>q,fun _ ps q=>⟨#[],by rw [q];simp⟩⟩
theorem Un.refl:Un fs ex H H h h:=Un.kept fun _ _ q=>q
theorem Un.laid (k:∀ b u,h.get? b=some u→h'.get? b=some u) (hp:h.objs.size≤a) (hn:H a=none):Un fs ex H (upd H a o) h h' where
 keep:=fun b u q _ _ _=>k b u q
 slot:=fun b u q _ _ _=>⟨u.slots,k b u q⟩
 free:=fun b u q n _=>by rw [aE (Nat.ne_of_lt (Nat.lt_of_lt_of_le (Heap.lt_size q) hp))];exact n
 there:=fun b u q _=>⟨u,k b u q⟩
 t9:=fun b xs q=>by rw [aE (aK q hn)];exact q
 rn:=fun b u xs q=>by rw [aE (aK q hn)];exact q
 uA:=fun b ps q=>⟨#[],by rw [aE (aK q hn),q];simp⟩
theorem Un.write (mu:Va (H x)) (he:e=x∨H e=some (.own x)) (k:∀ b u,b≠e→h.get? b=some u→h'.get? b=some u) (Rp:∃ u,h'.get? e=some u):Un fs ex H (upd H x o) h h':=by
 have hx:∀ b,H b=none→b≠x:=fun b n z=>by subst z;rw [n] at mu;exact mu
 have hb:∀ b,H b=none→b≠e:=fun b n z=>by
  subst z
  rcases he with r | r
  ·exact hx b n r
  ·rw [n] at r;cases r
 have hm:∀ b u,H b=some u→¬ Va (some u)→b≠x:=fun b u q nm z=>by subst z;rw [q] at mu;exact nm mu
 refine ⟨fun b u q n _ _=>k b u (hb b n) q,fun b u q n _ _=>⟨u.slots,k b u (hb b n) q⟩,fun b u q n _=>by rw [aE (hx b n)];exact n,fun b u q _=>?_,
  fun b xs q=>by rw [aE (hm b _ q fun z=>z)];exact q,fun b u xs q=>by rw [aE (hm b _ q fun z=>z)];exact q,fun b ps q=>⟨#[],by rw [aE (hm b _ q fun z=>z),q];simp⟩⟩
 by_cases JP:b=e
 ·subst JP;exact Rp
 ·exact ⟨u,k b u JP q⟩
end
def Du (h:Heap) (H:Hp):List Addr:=(List.range h.objs.size).filter fun a=>(H a).isSome
def A0 (h:Heap) (H:Hp):Heap:=PySem.W.hideAll h (Du h H)
theorem HV (h:Heap) (H:Hp):(A0 h H).objs.size=h.objs.size:=PySem.W.hideAll_size _ _
theorem JU {h:Heap} {H:Hp} {b:Addr} {o:Obj} (e:h.get? b=some o) (n:H b=none):(A0 h H).get? b=some o :=
 PySem.W.hideAll_get _ e fun hm=>by
  have q:(H b).isSome=true:=(List.mem_filter.mp hm).2
  rw [n] at q;simp at q
theorem MP {h:Heap} {H:Hp} {b:Addr} {o:Obj} (e:(A0 h H).get? b=some o):h.get? b=some o∧H b=none:=by
 have e':h.get? b=some o:=PySem.W.of_hideAll (Du h H) e
 refine ⟨e',?_⟩
 cases q:H b with
 | none=>rfl
 | some x =>
  have hm:b ∈ Du h H:=List.mem_filter.mpr ⟨List.mem_range.mpr (Heap.lt_size e'),by simp [q]⟩
  have z:(A0 h H).get? b=none:=PySem.W.hideAll_none (Du h H) hm
  rw [z] at e;cases e
end L2
namespace L2
open PySem PySem.Spec PyProof.Rows
structure Mod (K:PySem.W.Frag) (mg:Str→Option Value) (base:Heap):Prop where
 OW:K.In base
 glob:base.Ns mainGlobals mg
 blt:∃ mb,base.Ns builtinsNs mb∧∀ x:Str,x≠"__name__"→mb x=bootBuiltins x
 nolimit:base.NoLimit
structure Cx where
 prog:Program
 w:World
 K:PySem.W.Frag
 mg:Str→Option Value
 base:Heap
 A:Around
 N:List Str
 s₀:Shared
 H₀:Hp
 env:Env
 outer:List Env
 stack:List Env
 ex:List Addr
 fn:Str→Bool
 calm:Bool
 pn:List (Addr × Obj)
 xe:Value→Shared→Prop
def o9 (l:List Env):List Addr:=l.filterMap (·.frame)
abbrev Cx.fs (X:Cx):List Addr:=o9 X.outer
def Vb (sc:Scope) (x:Str):Prop:=sc.names.lookup x=some .local∨sc.names.lookup x=some .cell∨sc.names.lookup x=some .free
def Loc (sc:Scope) (x:Str):Prop:=sc.names.lookup x=some .local∨sc.names.lookup x=some .cell
def Look (env:Env) (h:Heap) (m:Str→Option Value) (x:Str) (u:Value):Prop :=
 (env.kindOf x=some .local∧m x=some u)∨((env.kindOf x=some .cell∨env.kindOf x=some .free)∧∃ c,env.cells.lookup x=some c∧h.IsCell c (some u))
structure Cx.Ok (X:Cx):Prop where
 mod:Mod X.K X.mg X.base
 kind:X.env.scope.kind=.function
 glob:X.env.globals=mainGlobals
 blt:X.env.builtins=builtinsNs
 above:X.s₀.heap.objs.size≤X.env.locals
 inj:∀ x y c,X.env.cells.lookup x=some c→X.env.cells.lookup y=some c→x=y
 has:∀ x,(X.env.kindOf x=some .cell∨X.env.kindOf x=some .free)→∃ c,X.env.cells.lookup x=some c
 JV:∀ x c,X.fn x=true→X.env.cells.lookup x=some c→X.s₀.heap.objs.size≤c
 hd:X.calm=true→X.A.handled=none
 frames:X.A.frames=some X.stack
 GD:X.stack=X.outer∨(X.stack=X.env :: X.outer∧X.env.frame=some X.env.locals)
 Ly:∀ b ∈ X.ex,b≠X.env.locals∧∀ x c,X.env.cells.lookup x=some c→c≠b
 bs:∀ b o,X.base.get? b=some o→X.s₀.heap.get? b=some o∧X.H₀ b=none
 GF:X.base.objs.size≤X.s₀.heap.objs.size
 xW:∀ b o,X.base.get? b=some o→b ∉ X.ex
 wq:∀ b ∈ X.ex,b ∉ X.fs
 pD:X.s₀.heap.FunFrames X.base X.outer
 JQ:∀ b ∈ X.fs,X.H₀ b=none
structure Inv (X:Cx) (pins:List (Addr × Obj)) (σ:List (Option V)) (H:Hp) (s:Shared):Prop where
 ok:X.Ok
 os:s.os=X.s₀.os
 bare:AllBare s.gens
 base:Un X.fs X.ex X.H₀ H X.s₀.heap s.heap
 loc:∃ m,s.heap.Ns X.env.locals m∧∀ (i:Nat) (x:Str) (v:V),X.N[i]?=some x→σ[i]?=some (some v)→Vb X.env.scope x→∃ u,RelV v u∧Look X.env s.heap m x u
 cell:∀ x c,X.env.cells.lookup x=some c→∃ v,s.heap.IsCell c v
 free:H X.env.locals=none
 jR:∀ x c,X.env.cells.lookup x=some c→H c=none
 pin:∀ p ∈ X.pn ++ pins,s.heap.get? p.1=some p.2∧H p.1=none∧p.1≠X.env.locals∧p.1 ∉ X.fs∧∀ v,p.2.data≠.cell v
 bh:u5 X.prog X.w H s.heap
 len:σ.length=X.N.length
section
variable {X:Cx} {pins:List (Addr × Obj)} {σ:List (Option V)} {H H':Hp} {s:Shared} {h':Heap}
theorem Cx.Ok.WC (ok:X.Ok) {b:Addr} {o:Obj} (e:X.base.get? b=some o):b ∉ X.fs:=fun hb=>by
 have:=(ok.pD.mem hb).1
 rw [e] at this;cases this
theorem Inv.bs (I:Inv X pins σ H s):∀ b o,X.base.get? b=some o→s.heap.get? b=some o∧H b=none:=fun b o e =>
 ⟨I.base.keep b o (I.ok.bs b o e).1 (I.ok.bs b o e).2 (I.ok.WC e) (I.ok.xW b o e),I.base.free b o (I.ok.bs b o e).1 (I.ok.bs b o e).2 (I.ok.xW b o e)⟩
theorem Inv.bk (I:Inv X pins σ H s):∀ b o,X.base.get? b=some o→s.heap.get? b=some o:=fun b o e=>(I.bs b o e).1
theorem Inv.mod (I:Inv X pins σ H s):Mod X.K X.mg X.base:=I.ok.mod
theorem Inv.uB (I:Inv X pins σ H s):X.K.In s.heap:=I.ok.mod.OW.keeps I.bk
theorem Inv.lt (I:Inv X pins σ H s):X.env.locals < s.heap.objs.size:=let ⟨_,hn,_⟩:=I.loc;hn.lt
theorem Inv.sz (I:Inv X pins σ H s):X.s₀.heap.objs.size≤s.heap.objs.size:=Nat.le_trans I.ok.above (Nat.le_of_lt I.lt)
theorem Inv.WD (I:Inv X pins σ H s) {a:Addr} (h:s.heap.objs.size≤a):a ∉ X.fs:=fun hb=>by
 obtain ⟨_,o,ho,_⟩:=I.ok.pD.mem hb
 exact absurd (Nat.lt_of_lt_of_le (Heap.lt_size ho) (Nat.le_trans I.sz h)) (Nat.lt_irrefl _)
theorem Inv.JW (I:Inv X pins σ H s):∀ x c,X.env.cells.lookup x=some c→c≠X.env.locals:=fun x c e z=>by
 obtain ⟨v,o,ho,hd⟩:=I.cell x c e
 obtain ⟨m,⟨o',es,ep,JX,WE,_⟩,_⟩:=I.loc
 rw [z,JX] at ho;cases ho;rw [WE] at hd;cases hd
theorem Inv.pD (I:Inv X pins σ H s):s.heap.FunFrames X.base X.outer:=by
 have all:∀ (l:List Env),(∀ b ∈ o9 l,b ∈ X.fs)→X.s₀.heap.FunFrames X.base l→s.heap.FunFrames X.base l:=by
  intro l
  induction l with
  | nil=>intro _ _;trivial
  | cons env r ih =>
   intro hs hl
   obtain ⟨hk,⟨L,o,hf,hn,ho,hd⟩,hr⟩:=hl
   have hL:L ∈ X.fs:=hs L (by unfold o9;rw [List.filterMap_cons,hf];exact List.mem_cons_self)
   obtain ⟨sl,e⟩:=I.base.slot L o ho (I.ok.JQ L hL) hL fun z=>I.ok.wq L z hL
   exact ⟨hk,⟨L,_,hf,hn,e,hd⟩,ih (fun b hb=>hs b (by unfold o9;rw [List.filterMap_cons,hf];exact List.mem_cons_of_mem _ hb)) hr⟩
 exact all X.outer (fun _ hb=>hb) I.ok.pD
theorem Inv.stack (I:Inv X pins σ H s):s.heap.FunFrames X.base X.stack:=by
 rcases I.ok.GD with e | ⟨e,hf⟩
 ·rw [e];exact I.pD
 ·rw [e]
  obtain ⟨m,hn,_⟩:=I.loc
  refine .cons (by rw [I.ok.kind];decide) hf hn ?_ I.pD
  exact Heap.get?_none_of_le (Nat.le_trans I.ok.GF I.ok.above)
theorem Inv.Dw (I:Inv X pins σ H s):∀ b ∈ o9 X.stack,b ∈ X.env.locals :: X.fs:=fun b hb=>by
 rcases I.ok.GD with e | ⟨e,hf⟩
 ·rw [e] at hb;exact List.mem_cons_of_mem _ hb
 ·rw [e] at hb
  unfold o9 at hb
  rw [List.filterMap_cons,hf] at hb
  exact hb
theorem Inv.A1 (I:Inv X pins σ H s):∀ b ∈ o9 X.stack,H b=none:=fun b hb=>by
 rcases List.mem_cons.mp (I.Dw b hb) with e | hb
 ·rw [e];exact I.free
 ·obtain ⟨_,o,ho,_⟩:=I.ok.pD.mem hb
  exact I.base.free b o ho (I.ok.JQ b hb) fun z=>I.ok.wq b z hb
theorem Inv.step {g':Array GenState} {t':Nat} {d':Drawn} {ch:List Addr} (I:Inv X pins σ H s)
  (Lz:∀ b ∈ ch,(b ∈ X.ex∨X.s₀.heap.objs.size≤b)∧b≠X.env.locals∧(∀ x c,X.env.cells.lookup x=some c→c≠b)∧∀ p ∈ X.pn ++ pins,p.1≠b)
  (keep:∀ b o,b≠X.env.locals→b ∉ X.fs→b ∉ ch→s.heap.get? b=some o→H b=none→h'.get? b=some o)
  (slot:∀ b o,b≠X.env.locals→b ∈ X.fs→b ∉ ch→s.heap.get? b=some o→H b=none→∃ sl,h'.get? b=some { o with slots:=sl }) (free:∀ b o,b ∉ ch→s.heap.get? b=some o→H b=none→H' b=none)
  (there:∀ b o,b ∉ ch→s.heap.get? b=some o→∃ o',h'.get? b=some o')
  (t9:∀ b xs,H b=some (.tup xs)→H' b=some (.tup xs)) (rn:∀ b o u,H b=some (.Df o u)→H' b=some (.Df o u)) (uA:∀ b ps,H b=some (.OU ps)→∃ more,H' b=some (.OU (ps ++ more)))
  (ns:∀ m,s.heap.Ns X.env.locals m→h'.Ns X.env.locals m) (bh:u5 X.prog X.w H' h') (hg:AllBare g') :
  Inv X pins σ H' { s with heap:=h',gens:=g',drawn:=d',toks:=t' }:=by
 have Yl:∀ b o,X.s₀.heap.get? b=some o→b≠X.env.locals:=fun b o e=>Nat.ne_of_lt (Nat.lt_of_lt_of_le (Heap.lt_size e) I.ok.above)
 have Vc:∀ b o,X.s₀.heap.get? b=some o→b ∉ X.ex→b ∉ ch:=fun b o e hx hb=>by
  rcases (Lz b hb).1 with z | z
  ·exact hx z
  ·exact absurd (Nat.lt_of_lt_of_le (Heap.lt_size e) z) (Nat.lt_irrefl _)
 have cellK:∀ x c,X.env.cells.lookup x=some c→∀ v,s.heap.IsCell c v→h'.IsCell c v:=fun x c e v ⟨o,ho,hd⟩=>by
  have SV:c ∉ ch:=fun z=>(Lz c z).2.2.1 x c e rfl
  by_cases hc:c ∈ X.fs
  ·obtain ⟨sl,q⟩:=slot c o (I.JW x c e) hc SV ho (I.jR x c e)
   exact ⟨_,q,hd⟩
  ·exact ⟨o,keep c o (I.JW x c e) hc SV ho (I.jR x c e),hd⟩
 refine ⟨I.ok,I.os,hg,⟨fun b o e n hb hx=>?_,fun b o e n hb hx=>?_,fun b o e n hx=>?_,fun b o e hx=>?_,fun b xs e=>t9 b xs (I.base.t9 b xs e),fun b o xs e=>rn b o xs (I.base.rn b o xs e),fun b ps e=>?_⟩,?_,fun x c e=>?_,?_,fun x c e=>?_,fun p hp=>?_,bh,I.len⟩
 ·exact keep b o (Yl b o e) hb (Vc b o e hx) (I.base.keep b o e n hb hx) (I.base.free b o e n hx)
 ·obtain ⟨sl,e1⟩:=I.base.slot b o e n hb hx
  obtain ⟨SW,e2⟩:=slot b _ (Yl b o e) hb (Vc b o e hx) e1 (I.base.free b o e n hx)
  exact ⟨SW,e2⟩
 ·obtain ⟨o',e1⟩:=I.base.there b o e hx
  exact free b o' (Vc b o e hx) e1 (I.base.free b o e n hx)
 ·obtain ⟨o',e1⟩:=I.base.there b o e hx
  exact there b o' (Vc b o e hx) e1
 ·obtain ⟨m1,e1⟩:=I.base.uA b ps e
  obtain ⟨m2,e2⟩:=uA b _ e1
  exact ⟨m1 ++ m2,by rw [e2,Array.append_assoc]⟩
 ·obtain ⟨m,hn,hl⟩:=I.loc
  refine ⟨m,ns m hn,fun i x v e1 e2 e3=>?_⟩
  obtain ⟨u,r,l⟩:=hl i x v e1 e2 e3
  refine ⟨u,r,?_⟩
  rcases l with l | ⟨k,c,e,z⟩
  ·exact .inl l
  ·exact .inr ⟨k,c,e,cellK x c e _ z⟩
 ·obtain ⟨v,z⟩:=I.cell x c e
  exact ⟨v,cellK x c e v z⟩
 ·obtain ⟨m,⟨o,_,_,ho,_⟩,_⟩:=I.loc
  exact free _ o (fun z=>(Lz _ z).2.1 rfl) ho I.free
 ·obtain ⟨v,o,ho,hd⟩:=I.cell x c e
  exact free c o (fun z=>(Lz c z).2.2.1 x c e rfl) ho (I.jR x c e)
 ·obtain ⟨e,n,ne,nf,d⟩:=I.pin p hp
  have SV:p.1 ∉ ch:=fun z=>(Lz p.1 z).2.2.2 p hp rfl
  exact ⟨keep p.1 p.2 ne nf SV e n,free p.1 p.2 SV e n,ne,nf,d⟩
theorem Inv.un {t':Nat} (I:Inv X pins σ H s) (u:Un X.fs [] H H' s.heap h') (bh:u5 X.prog X.w H' h'):Inv X pins σ H' { s with heap:=h',toks:=t' }:=by
 obtain ⟨m,⟨o,es,ep,ho,r⟩,_⟩:=id I.loc
 obtain ⟨sl,hL⟩:=u.any ho I.free (by simp)
 exact I.step (g':=s.gens) (d':=s.drawn) (ch:=[]) (fun _ z=>nomatch z) (fun b o _ hb _ e n=>u.keep b o e n hb (by simp)) (fun b o _ hb _ e n=>u.slot b o e n hb (by simp)) (fun b o _ e n=>u.free b o e n (by simp)) (fun b o _ e=>u.there b o e (by simp)) u.t9 u.rn u.uA (fun m' hm=>by
  obtain ⟨o',WG,WH,JX,r'⟩:=hm
  rw [ho] at JX;cases JX
  exact ⟨_,WG,WH,hL,r'⟩) bh I.bare
theorem Inv.call {g':Array GenState} {t':Nat} {d':Drawn} {ch:List Addr} (I:Inv X pins σ H s) (u:Un (o9 X.stack) ch H H' s.heap h') (bh:u5 X.prog X.w H' h') (hg:AllBare g')
  (Lz:∀ b ∈ ch,(b ∈ X.ex∨X.s₀.heap.objs.size≤b)∧b≠X.env.locals∧(∀ x c,X.env.cells.lookup x=some c→c≠b)∧∀ p ∈ X.pn ++ pins,p.1≠b) :
  Inv X pins σ H' { s with heap:=h',gens:=g',drawn:=d',toks:=t' }:=by
 obtain ⟨m,⟨o,es,ep,ho,r⟩,_⟩:=id I.loc
 obtain ⟨sl,hL⟩:=u.any ho I.free fun z=>(Lz _ z).2.1 rfl
 exact I.step (ch:=ch) Lz (fun b o hL hb hc e n=>u.keep b o e n (fun z=>(List.mem_cons.mp (I.Dw b z)).elim hL hb) hc) (fun b o _ _ hc e n=>u.any e n hc) (fun b o hc e n=>u.free b o e n hc) (fun b o hc e=>u.there b o e hc) u.t9 u.rn u.uA (fun m' hm=>by
  obtain ⟨o',WG,WH,JX,r'⟩:=hm
  rw [ho] at JX;cases JX
  exact ⟨_,WG,WH,hL,r'⟩) bh hg
theorem Inv.turned {t':Nat} {it:Addr} (I:Inv X pins σ H s) (k:∀ b o,b≠it→s.heap.get? b=some o→h'.get? b=some o) (hn:H it=none) (hL:it≠X.env.locals)
  (h1:it ∈ X.ex∨X.s₀.heap.objs.size≤it) (h2:∀ x c,X.env.cells.lookup x=some c→c≠it) (h3:∀ p ∈ X.pn ++ pins,p.1≠it):Inv X pins σ H { s with heap:=h',toks:=t' }:=by
 have Ym:∀ b u,H b=some u→b≠it:=fun b u e z=>by rw [z,hn] at e;cases e
 refine I.step (g':=s.gens) (d':=s.drawn) (ch:=[it]) (fun b hb=>?_) (fun b o _ _ hc e _=>k b o (fun z=>hc (by simp [z])) e) (fun b o _ _ hc e _=>⟨o.slots,k b o (fun z=>hc (by simp [z])) e⟩) (fun _ _ _ _ n=>n)
  (fun b o hc e=>⟨o,k b o (fun z=>hc (by simp [z])) e⟩) (fun _ _ e=>e) (fun _ _ _ e=>e) (fun b ps e=>⟨#[],by rw [e];simp⟩) (fun m hm=>?_) (fun b u e=>?_) I.bare
 ·have e:b=it:=by simpa using hb
  subst e
  exact ⟨h1,hL,h2,h3⟩
 ·obtain ⟨o,es,ep,ho,r⟩:=hm
  exact ⟨o,es,ep,k _ o (Ne.symm hL) ho,r⟩
 ·refine (I.bh b u e).zJ (fun c v hc q=>k c v ?_ q) (fun _ q=>q) fun _ _ q=>q
  rcases hc with z | z
  ·rw [z];exact Ym b u e
  ·exact Ym c _ z
theorem Inv.tok (I:Inv X pins σ H s) (t:Nat):Inv X pins σ H { s with toks:=t }:=I.un (h':=s.heap) (t':=t) Un.refl I.bh
theorem Inv.kept {t':Nat} (I:Inv X pins σ H s) (k:∀ b u,s.heap.get? b=some u→h'.get? b=some u):Inv X pins σ H { s with heap:=h',toks:=t' }:=I.un (Un.kept k) (I.bh.kept k)
theorem Inv.laid {a:Addr} {o:HO} {t':Nat} (I:Inv X pins σ H s) (k:∀ b u,s.heap.get? b=some u→h'.get? b=some u) (hp:s.heap.objs.size≤a) (new:eM X.prog X.w (upd H a o) h' a o) :
  Inv X pins σ (upd H a o) { s with heap:=h',toks:=t' }:=I.un (Un.laid k hp (I.bh.fresh hp)) (I.bh.laid k hp new)
theorem Inv.write {x e:Addr} {o:HO} {t':Nat} (I:Inv X pins σ H s) (mu:Va (H x)) (he:e=x∨H e=some (.own x)) (k:∀ b u,b≠e→s.heap.get? b=some u→h'.get? b=some u) (Rp:∃ u,h'.get? e=some u)
  (new:eM X.prog X.w (upd H x o) h' x o):Inv X pins σ (upd H x o) { s with heap:=h',toks:=t' }:=I.un (Un.write mu he k Rp) (I.bh.write mu he k Rp new)
theorem Inv.GG {OX:List (Addr × Obj)} (I:Inv X pins σ H s) (h:∀ p ∈ OX,s.heap.get? p.1=some p.2∧H p.1=none∧p.1≠X.env.locals∧p.1 ∉ X.fs∧∀ v,p.2.data≠.cell v):Inv X OX σ H s :=
 ⟨I.ok,I.os,I.bare,I.base,I.loc,I.cell,I.free,I.jR,fun p hp=>(List.mem_append.mp hp).elim (fun z=>I.pin p (List.mem_append_left _ z)) (h p),I.bh,I.len⟩
theorem xX {N:List Str} (hN:N.Nodup) {i j:Nat} {x:Str} (a:N[i]?=some x) (b:N[j]?=some x):i=j:=by
 obtain ⟨h1,e1⟩:=List.getElem?_eq_some_iff.mp a
 obtain ⟨h2,e2⟩:=List.getElem?_eq_some_iff.mp b
 exact (List.getElem_inj hN).mp (e1.trans e2.symm)
theorem AR {M:Model} {A:Around} {E:Value→Shared→Prop} {i:Nat} {x:Str} {v:V} {u:Value} {Q:Unit→Shared→Prop} (I:Inv X pins σ H s) (hN:X.N.Nodup) (hi:X.N[i]?=some x) (hx:Loc X.env.scope x) (r:RelV v u)
  (h:∀ s',Inv X pins (σ.set i (some v)) H s'→(∃ a,Heap.SameBut a s.heap s'.heap∧(a=X.env.locals∨X.env.cells.lookup x=some a))→Q () s') (hf:X.fn x=true∨X.env.scope.names.lookup x=some .local:=by first | exact .inl rfl | exact .inr rfl | assumption):wpAny M A (storeName X.env x u) Q E s:=by
 obtain ⟨m,hn,hl⟩:=id I.loc
 have WI:(X.env.scope.kind == .class || (X.env.scope.kind == .module && X.env.locals != X.env.globals))=false:=by rw [I.ok.kind];rfl
 have hiσ:i < σ.length:=by rw [I.len];exact (List.getElem?_eq_some_iff.mp hi).1
 have JW:=I.JW
 have tracked:∀ {a:Addr} {h':Heap},(∃ o,s.heap.get? a=some o∧H a=none)→Heap.SameBut a s.heap h'→u5 X.prog X.w H h':=fun {a h'} ha hs b ob e=>by
  obtain ⟨_,_,OY⟩:=ha
  refine (I.bh b ob e).zJ (fun c w' hc q=>(hs.2 c ?_).trans q) (fun _ q=>q) fun _ _ q=>q
  rintro rfl
  rcases hc with rfl | hc
  ·rw [OY] at e;cases e
  ·rw [OY] at hc;cases hc
 rcases hx with hk | hk
 ·refine wpAny_storeName_local hk hn (fun h' Rq hs=>?_) WI
  obtain ⟨oL,_,_,Yn,_⟩:=id hn
  refine h _ ⟨I.ok,I.os,I.bare,⟨fun b o e n hb hx=>?_,fun b o e n hb hx=>?_,I.base.free,fun b o e hx=>?_,I.base.t9,I.base.rn,I.base.uA⟩,⟨_,Rq,fun j y v' e1 e2 e3=>?_⟩,fun y c e=>?_,I.free,I.jR,fun p hp=>?_,tracked ⟨oL,Yn,I.free⟩ hs,by simpa using I.len⟩ ⟨_,hs,.inl rfl⟩
  ·exact (hs.2 b (Nat.ne_of_lt (Nat.lt_of_lt_of_le (Heap.lt_size e) I.ok.above))).trans (I.base.keep b o e n hb hx)
  ·obtain ⟨sl,e1⟩:=I.base.slot b o e n hb hx
   exact ⟨sl,(hs.2 b (Nat.ne_of_lt (Nat.lt_of_lt_of_le (Heap.lt_size e) I.ok.above))).trans e1⟩
  ·obtain ⟨o',e1⟩:=I.base.there b o e hx
   exact ⟨o',(hs.2 b (Nat.ne_of_lt (Nat.lt_of_lt_of_le (Heap.lt_size e) I.ok.above))).trans e1⟩
  ·by_cases hj:j=i
   ·subst hj
    rw [hi] at e1;cases e1
    rw [List.getElem?_set_self hiσ] at e2
    cases e2
    exact ⟨u,r,.inl ⟨hk,by simp⟩⟩
   ·rw [List.getElem?_set_ne (Ne.symm hj)] at e2
    obtain ⟨u',r',q⟩:=hl j y v' e1 e2 e3
    refine ⟨u',r',?_⟩
    rcases q with ⟨k,e⟩ | ⟨k,c,e,z⟩
    ·refine .inl ⟨k,?_⟩
     have:y≠x:=fun e=>hj (xX hN e1 (e ▸ hi))
     simp [this,e]
    ·exact .inr ⟨k,c,e,z.sameBut hs (JW y c e)⟩
  ·obtain ⟨w',z⟩:=I.cell y c e
   exact ⟨w',z.sameBut hs (JW y c e)⟩
  ·obtain ⟨e,n,ne,nf,d⟩:=I.pin p hp
   exact ⟨(hs.2 p.1 ne).trans e,n,ne,nf,d⟩
 ·have WJ:X.fn x=true:=by
   rcases hf with z | z
   ·exact z
   ·rw [z] at hk;cases hk
  obtain ⟨c,hc⟩:=I.ok.has x (.inl hk)
  obtain ⟨w',z⟩:=I.cell x c hc
  refine wpAny_storeName_cell I.ok.kind hk hc z (fun h' OZ hs=>?_)
  obtain ⟨oc,Yo,WK⟩:=id z
  refine h { s with heap:=h' } ⟨I.ok,I.os,I.bare,⟨fun b o e n hb hx=>?_,fun b o e n hb hx=>?_,I.base.free,fun b o e hx=>?_,I.base.t9,I.base.rn,I.base.uA⟩,⟨m,hn.sameBut hs (Ne.symm (JW x c hc)),fun j y v' e1 e2 e3=>?_⟩,fun y c' e=>?_,I.free,I.jR,fun p hp=>?_,tracked ⟨oc,Yo,I.jR x c hc⟩ hs,by simpa using I.len⟩ ⟨c,hs,.inr hc⟩
  ·exact (hs.2 b (Nat.ne_of_lt (Nat.lt_of_lt_of_le (Heap.lt_size e) (I.ok.JV x c WJ hc)))).trans (I.base.keep b o e n hb hx)
  ·obtain ⟨sl,e1⟩:=I.base.slot b o e n hb hx
   exact ⟨sl,(hs.2 b (Nat.ne_of_lt (Nat.lt_of_lt_of_le (Heap.lt_size e) (I.ok.JV x c WJ hc)))).trans e1⟩
  ·obtain ⟨o',e1⟩:=I.base.there b o e hx
   exact ⟨o',(hs.2 b (Nat.ne_of_lt (Nat.lt_of_lt_of_le (Heap.lt_size e) (I.ok.JV x c WJ hc)))).trans e1⟩
  ·by_cases hj:j=i
   ·subst hj
    rw [hi] at e1;cases e1
    rw [List.getElem?_set_self hiσ] at e2
    cases e2
    exact ⟨u,r,.inr ⟨.inl hk,c,hc,OZ⟩⟩
   ·rw [List.getElem?_set_ne (Ne.symm hj)] at e2
    obtain ⟨u',r',q⟩:=hl j y v' e1 e2 e3
    refine ⟨u',r',?_⟩
    rcases q with q | ⟨k,c',e,z'⟩
    ·exact .inl q
    ·refine .inr ⟨k,c',e,z'.sameBut hs ?_⟩
     rintro rfl
     exact hj (xX hN e1 (I.ok.inj _ _ _ e hc ▸ hi))
  ·by_cases L8:c'=c
   ·subst L8;exact ⟨_,OZ⟩
   ·obtain ⟨w2,z2⟩:=I.cell y c' e
    exact ⟨w2,z2.sameBut hs L8⟩
  ·obtain ⟨e,n,ne,nf,d⟩:=I.pin p hp
   refine ⟨(hs.2 p.1 ?_).trans e,n,ne,nf,d⟩
   intro q
   rw [q,Yo] at e
   have q':oc=p.2:=Option.some.inj e
   exact d w' (by rw [← q'];exact WK)
theorem xY {M:Model} {A:Around} {E:Value→Shared→Prop} {i:Nat} {x:Str} {v:V} {u:Value} {Q:Unit→Shared→Prop} (I:Inv X pins σ H s) (hN:X.N.Nodup) (hi:X.N[i]?=some x) (hx:Loc X.env.scope x) (r:RelV v u)
  (h:∀ s',Inv X pins (σ.set i (some v)) H s'→Q () s') (hf:X.fn x=true∨X.env.scope.names.lookup x=some .local:=by first | exact .inl rfl | exact .inr rfl | assumption):wpAny M A (storeName X.env x u) Q E s :=
 AR I hN hi hx r (fun s' I' _=>h s' I') hf
theorem Inv.GH {s':Shared} {ch:List Addr} (I:Inv X pins σ H s) (ho:s'.os=s.os) (u:Un (o9 X.stack) ch H H' s.heap s'.heap) (bh:u5 X.prog X.w H' s'.heap) (hg:AllBare s'.gens)
  (Lz:∀ b ∈ ch,(b ∈ X.ex∨X.s₀.heap.objs.size≤b)∧b≠X.env.locals∧(∀ x c,X.env.cells.lookup x=some c→c≠b)∧∀ p ∈ X.pn ++ pins,p.1≠b):Inv X pins σ H' s':=by
 obtain ⟨h',g',d',t',o'⟩:=s'
 have e:o'=s.os:=ho
 subst e
 exact I.call (g':=g') (t':=t') (d':=d') u bh hg Lz
end
abbrev XK:=Value→Option Addr→Hp→Prop
abbrev St:=List (Option V)
abbrev VK:=V→Hp→Prop
abbrev TE:=St→Hp→VK→Prop
abbrev TT:=St→Hp→(Bool→Hp→Prop)→Prop
abbrev TA:=St→Hp→(List V→Hp→Prop)→Prop
structure Ends where
 nx:St→Hp→Prop
 rt:VK
 bk:St→Hp→Prop:=fun _ _=>False
 ct:St→Hp→Prop:=fun _ _=>False
abbrev TS:=Ends→St→Hp→Prop
def EP (X:Cx) (pins:List (Addr × Obj)) (σ:St) (Q:VK) (u:Value) (s':Shared):Prop:=∃ v H',Inv X pins σ H' s'∧RelV v u∧Q v H'
def TP (X:Cx) (pins:List (Addr × Obj)) (σ:St) (Q:Bool→Hp→Prop) (b:Bool) (s':Shared):Prop:=∃ H',Inv X pins σ H' s'∧Q b H'
def AP (X:Cx) (pins:List (Addr × Obj)) (σ:St) (Q:List V→Hp→Prop) (us:List Value) (s':Shared):Prop:=∃ vs H',Inv X pins σ H' s'∧av vs us∧Q vs H'
def SP (X:Cx) (pins:List (Addr × Obj)) (D:Ends) (f:Flow) (s':Shared):Prop :=
 match f with
 | .next=>∃ σ' H',Inv X pins σ' H' s'∧D.nx σ' H'
 | .brk=>∃ σ' H',Inv X pins σ' H' s'∧D.bk σ' H'
 | .cont=>∃ σ' H',Inv X pins σ' H' s'∧D.ct σ' H'
 | .ret u=>∃ v σ' H',Inv X pins σ' H' s'∧RelV v u∧D.rt v H'
def PE (X:Cx) (e:Expr) (t:TE):Prop :=
 ∀ (pins:List (Addr × Obj)) (s:Shared) (σ:St) (H:Hp) (Q:VK),Inv X pins σ H s→t σ H Q→wpAny (model X.prog X.w) X.A (eval e X.env) (EP X pins σ Q) X.xe s
def PT (X:Cx) (e:Expr) (t:TT):Prop :=
 ∀ (pins:List (Addr × Obj)) (s:Shared) (σ:St) (H:Hp) (Q:Bool→Hp→Prop),Inv X pins σ H s→t σ H Q→wpAny (model X.prog X.w) X.A (isTrue e X.env (eval e X.env)) (TP X pins σ Q) X.xe s
def PW (X:Cx) (e:Expr) (t:TT):Prop :=
 ∀ (whole:Sem Value) (pins:List (Addr × Obj)) (s:Shared) (σ:St) (H:Hp) (Q:Bool→Hp→Prop),Inv X pins σ H s→t σ H Q→wpAny (model X.prog X.w) X.A (isTrue e X.env whole) (TP X pins σ Q) X.xe s
theorem PW.pt {X:Cx} {e:Expr} {t:TT} (h:PW X e t):PT X e t:=h _
def PA (X:Cx) (es:List Expr) (t:TA):Prop :=
 ∀ (pos:Pos) (pins:List (Addr × Obj)) (s:Shared) (σ:St) (H:Hp) (Q:List V→Hp→Prop),Inv X pins σ H s→t σ H Q→wpAny (model X.prog X.w) X.A (spliced (backTo pos (starEach es X.env))) (AP X pins σ Q) X.xe s
def PS (X:Cx) (st:Stmt) (t:TS):Prop :=
 ∀ (pins:List (Addr × Obj)) (s:Shared) (σ:St) (H:Hp) (D:Ends),Inv X pins σ H s→t D σ H→wpAny (model X.prog X.w) X.A (exec st X.env) (SP X pins D) X.xe s
def Dg (X:Cx) (st:List Stmt) (t:TS):Prop :=
 ∀ (pins:List (Addr × Obj)) (s:Shared) (σ:St) (H:Hp) (D:Ends),Inv X pins σ H s→t D σ H→wpAny (model X.prog X.w) X.A (execs st X.env) (SP X pins D) X.xe s
theorem bV {α:Type} {t:Sem α} {Q Q':α→Shared→Prop} {M:Model} {A:Around} {E:Value→Shared→Prop} {s:Shared} (h:wpAny M A t Q E s) (hQ:∀ a s,Q a s→Q' a s):wpAny M A t Q' E s:=wpAny_mono h hQ fun _ _ x=>x
end L2
namespace L2
open PySem PySem.Spec PyProof.Rows
section
variable {X:Cx}
def rq (i:Nat):TE:=fun σ H Q=>∃ v,σ[i]?=some (some v)∧Q v H
def tC (v:V):TE:=fun _ H Q=>Q v H
theorem Pd {i:Nat} {x:Str} {pos:Pos} (hN:X.N[i]?=some x) (hv:Vb X.env.scope x) (hd:(x == ("__debug__":Str))=false:=by decide) (AS:(x == ("__classdict__":Str))=false:=by decide):PE X (.Name x pos) (rq i):=by
 intro pins s σ H Q I h
 obtain ⟨v,e,h⟩:=h
 obtain ⟨m,hn,hl⟩:=I.loc
 obtain ⟨u,r,l⟩:=hl i x v hN e hv
 have fin:EP X pins σ Q u s:=⟨v,H,I,r,h⟩
 rcases l with ⟨hk,hm⟩ | ⟨hk,c,hc,GI⟩
 ·exact wpAny_Name (wpAny_loadName_local I.ok.kind hk hn hm fin) hd
 ·rcases hk with hk | hk
  ·exact wpAny_Name (wpAny_loadName_cell I.ok.kind hk hc GI fin) hd
  ·exact wpAny_Name (wpAny_loadName_free I.ok.kind hk hc GI fin AS) hd
theorem aF {i j pos}:PE X (.Constant (.int i) j pos) (tC (.int i)):=fun _ _ _ H _ I h=>wpAny_Constant_int ⟨.int i,H,I.tok _,⟨_,rfl⟩,h⟩
theorem pE {b j pos}:PE X (.Constant (.bool b) j pos) (tC (.bl b)):=fun _ _ _ H _ I h=>Constant_bool ⟨.bl b,H,I,rfl,h⟩
theorem eO {j pos}:PE X (.Constant .none j pos) (tC .bH):=fun _ _ _ H _ I h=>Constant_none ⟨.bH,H,I,rfl,h⟩
theorem cR {x j pos}:PE X (.Constant (.str x) j pos) (tC (.str x)):=fun _ _ _ H _ I h=>Calls.Constant_str ⟨.str x,H,I.tok _,⟨_,rfl⟩,h⟩
def Gl (X:Cx) (x:Str):Prop:=X.env.kindOf x=some .globalImplicit
theorem qp {E:Value→Shared→Prop} {pins:List (Addr × Obj)} {s:Shared} {σ:St} {H:Hp} {x:Str} {u:Value} {pos:Pos} {Q:Value→Shared→Prop} (I:Inv X pins σ H s) (hg:Gl X x) (hm:X.mg x=some u) (h:Q u s)
  (hd:(x == ("__debug__":Str))=false:=by decide):wpAny (model X.prog X.w) X.A (eval (.Name x pos) X.env) Q E s :=
 Calls.Name_function_global I.ok.kind hg (Calls.loadGlobal_global (by rw [I.ok.glob];exact I.mod.glob.keeps I.bk) hm h) hd
theorem j7 {E:Value→Shared→Prop} {pins:List (Addr × Obj)} {s:Shared} {σ:St} {H:Hp} {x:Str} {u:Value} {pos:Pos} {Q:Value→Shared→Prop} (I:Inv X pins σ H s) (hg:Gl X x) (hm:X.mg x=none) (hv:bootBuiltins x=some u) (h:Q u s)
  (hn:x≠"__name__":=by decide) (hd:(x == ("__debug__":Str))=false:=by decide):wpAny (model X.prog X.w) X.A (eval (.Name x pos) X.env) Q E s:=by
 obtain ⟨mb,h1,h2⟩:=I.mod.blt
 exact Calls.Name_function_global I.ok.kind hg (Calls.loadGlobal_builtin (by rw [I.ok.glob];exact I.mod.glob.keeps I.bk) hm (by rw [I.ok.blt];exact h1.keeps I.bk) ((h2 x hn).trans hv) h) hd
theorem cF {x:Str} {v:V} {u:Value} {pos:Pos} (hg:Gl X x) (hm:X.mg x=some u) (r:RelV v u) (hd:(x == ("__debug__":Str))=false:=by decide):PE X (.Name x pos) (tC v) :=
 fun _ _ _ H _ I h=>qp I hg hm ⟨v,H,I,r,h⟩ hd
theorem MQ {x:Str} {v:V} {u:Value} {pos:Pos} (hg:Gl X x) (hm:X.mg x=none) (hv:bootBuiltins x=some u) (r:RelV v u) (hn:x≠"__name__":=by decide) (hd:(x == ("__debug__":Str))=false:=by decide):PE X (.Name x pos) (tC v) :=
 fun _ _ _ H _ I h=>j7 I hg hm hv ⟨v,H,I,r,h⟩ hn hd
variable {a b:Expr} {ta tb:TE} {pos:Pos}
def tB (t:TE):TT:=fun σ H Q=>t σ H fun x H1=>∃ c,x=.bl c∧Q c H1
theorem pF {e:Expr} {t:TE} (h:PE X e t) (he:∀ whole,isTrue e X.env whole=(do let v ← whole;standAt e.pos;holding [v] (truthy v)):=by intro _;rfl):PT X e (tB t):=by
 intro pins s σ H Q I hw
 refine isTrue_plain (bV (h pins s σ H _ I hw) fun v s1 ⟨x,H1,I1,r1,q1⟩=>?_) (he _)
 obtain ⟨d,rfl,q⟩:=q1
 cases r1
 exact wpAny_truthy_bool ⟨H1,I1,q⟩
variable {tA SY:TT} {rest:List Expr}
def Sa (t u:TT):TT:=fun σ H Q=>t σ H fun c H1=>if c=true then u σ H1 Q else Q false H1
def tOr (t u:TT):TT:=fun σ H Q=>t σ H fun c H1=>if c=true then Q true H1 else u σ H1 Q
def WL (t:TT):TT:=fun σ H Q=>t σ H fun c H1=>Q (!c) H1
theorem uC (ha:PT X a tA):PW X (.BoolOp .And [a] pos) tA:=by
 intro wh pins s σ H Q I h
 refine isTrue_and (bV (ha pins s σ H Q I h) fun c s1 e=>?_)
 cases c with
 | true=>exact isTrue_and_nil e
 | false=>exact e
theorem u7 (ha:PT X a tA):PW X (.BoolOp .Or [a] pos) tA:=by
 intro wh pins s σ H Q I h
 refine isTrue_or (bV (ha pins s σ H Q I h) fun c s1 e=>?_)
 cases c with
 | false=>exact isTrue_or_nil e
 | true=>exact e
theorem xZ (ha:PT X a tA) (hb:PW X (.BoolOp .And (b :: rest) pos) SY):PW X (.BoolOp .And (a :: b :: rest) pos) (Sa tA SY):=by
 intro wh pins s σ H Q I h
 refine isTrue_and (bV (ha pins s σ H _ I h) fun c s1 ⟨H1,I1,q1⟩=>?_)
 cases c with
 | true=>exact hb wh pins s1 σ H1 Q I1 q1
 | false=>exact ⟨H1,I1,q1⟩
theorem rX (ha:PT X a tA) (hb:PW X (.BoolOp .Or (b :: rest) pos) SY):PW X (.BoolOp .Or (a :: b :: rest) pos) (tOr tA SY):=by
 intro wh pins s σ H Q I h
 refine isTrue_or (bV (ha pins s σ H _ I h) fun c s1 ⟨H1,I1,q1⟩=>?_)
 cases c with
 | true=>exact ⟨H1,I1,q1⟩
 | false=>exact hb wh pins s1 σ H1 Q I1 q1
theorem mq (ha:PT X a tA):PT X (.UnaryOp .Not a pos) (WL tA):=by
 intro pins s σ H Q I h
 exact isTrue_not (ha pins s σ H (fun c H1=>Q (!c) H1) I h)
def Sb (ta tb:TE):TE:=fun σ H Q=>ta σ H fun x H1=>∃ c,x=.bl c∧if c=true then tb σ H1 Q else Q (.bl false) H1
theorem JY {op} {t:TE} (h:PE X a t):PE X (.BoolOp op [a] pos) t:=fun pins s σ H Q I hw=>BoolOp_one (h pins s σ H Q I hw)
theorem JZ (ha:PE X a ta) (hb:PE X (.BoolOp .And (b :: rest) pos) tb):PE X (.BoolOp .And (a :: b :: rest) pos) (Sb ta tb):=by
 intro pins s σ H Q I h
 refine BoolOp_and (bV (ha pins s σ H _ I h) fun v s1 ⟨x,H1,I1,r1,q1⟩=>?_)
 obtain ⟨c,rfl,q1⟩:=q1
 cases r1
 refine wpAny_truthy_bool ?_
 cases c with
 | true=>exact hb pins s1 σ H1 Q I1 q1
 | false=>exact ⟨.bl false,H1,I1,rfl,q1⟩
def tIf (t:TT) (ta tb:TE):TE:=fun σ H Q=>t σ H fun c H1=>if c=true then ta σ H1 Q else tb σ H1 Q
theorem pG {c:Expr} (hc:PT X c tA) (ha:PE X a ta) (hb:PE X b tb):PE X (.IfExp c a b pos) (tIf tA ta tb):=by
 intro pins s σ H Q I h
 refine wpAny_IfExp (bV (hc pins s σ H _ I h) fun d s1 ⟨H1,I1,q1⟩=>?_)
 cases d with
 | true=>exact ha pins s1 σ H1 Q I1 q1
 | false=>exact hb pins s1 σ H1 Q I1 q1
end
end L2
namespace L2
open PySem PySem.Spec PyProof.Rows
def aT (K:PySem.W.Frag) (H:Hp) (a:Addr) (xs:List V):Prop :=
 Rd H a (.lst xs) ∨
  ∃ (o:Obj) (aq:Array Value) (n:Nat),K.lookup a=some o∧o.cls=.type "list"∧o.dict=none∧o.data=.seq aq n∧aq.size≤sizeLine∧av xs aq.toList
def jZ (K:PySem.W.Frag) (H:Hp) (a:Addr) (xs:List V):Prop :=
 Rd H a (.tup xs) ∨
  ∃ (o:Obj) (aq:Array Value) (n:Nat),K.lookup a=some o∧o.cls=.type "tuple"∧o.data=.seq aq n∧aq.size≤sizeLine∧av xs aq.toList
def WM:Value→Option V
 | .none=>some .bH
 | .bool b=>some (.bl b)
 | .int i _=>some (.int i)
 | .str x _=>some (.str x)
 | .bytes b _=>some (.GC b)
 | .float b _=>some (.Pc b)
 | .ref a=>some (.ref a)
 | .type n=>some (.ty n)
 | _=>none
theorem RelV.abs {x:V} {u:Value} (r:RelV x u):WM u=some x:=by
 cases x with
 | bH=>cases r;rfl
 | bl _=>cases r;rfl
 | int _=>obtain ⟨t,rfl⟩:=r;rfl
 | str _=>obtain ⟨t,rfl⟩:=r;rfl
 | GC _=>obtain ⟨t,rfl⟩:=r;rfl
 | Pc _=>obtain ⟨t,rfl⟩:=r;rfl
 | ref _=>cases r;rfl
 | ty _=>cases r;rfl
theorem RelV.inj {x y:V} {u:Value} (r:RelV x u) (q:RelV y u):x=y:=Option.some.inj (r.abs.symm.trans q.abs)
theorem av.inj:∀ {xs ys:List V} {us:List Value},av xs us→av ys us→xs=ys
 | _,_,_,.nil,.nil=>rfl
 | _,_,_,.cons r t,.cons r' t'=>by rw [r.inj r',av.inj t t']
section
variable {X:Cx} {pins:List (Addr × Obj)} {σ:St} {H:Hp} {s:Shared} {a:Addr} {xs ys:List V}
theorem aT.of {K:PySem.W.Frag} (h:H a=some (.lst xs)):aT K H a xs:=.inl (.inl h)
theorem jZ.of {K:PySem.W.Frag} (h:H a=some (.tup xs)):jZ K H a xs:=.inl (.inl h)
theorem Inv.list (I:Inv X pins σ H s) (h:aT X.K H a xs):∃ aq:List Value,av xs aq∧PlainL s.heap a aq.toArray∧xs.length≤sizeLine:=by
 rcases h with h | ⟨o,aq,n,hk,hc,hd,hs,hz,r⟩
 ·obtain ⟨z,aq,n,r,e⟩:=h.ok I.bh
  exact ⟨aq,r,⟨_,n,e,rfl,rfl,rfl⟩,z⟩
 ·refine ⟨aq.toList,r,⟨o,n,I.uB a o hk,hc,hd,by simpa using hs⟩,?_⟩
  have e:=r.length
  simp only [Array.length_toList] at e
  omega
theorem Inv.tuple (I:Inv X pins σ H s) (h:jZ X.K H a xs):∃ aq:List Value,av xs aq∧IsTup s.heap a aq.toArray∧xs.length≤sizeLine:=by
 rcases h with h | ⟨o,aq,n,hk,hc,hs,hz,r⟩
 ·obtain ⟨z,aq,r,p⟩:=h.ok I.bh
  exact ⟨aq,r,p,z⟩
 ·refine ⟨aq.toList,r,⟨o,I.uB a o hk,hc,n,by simpa using hs⟩,?_⟩
  have e:=r.length
  simp only [Array.length_toList] at e
  omega
theorem Inv.uD (I:Inv X pins σ H s) (h:aT X.K H a xs) (h':aT X.K H a ys):xs=ys:=by
 obtain ⟨aq,r,⟨o,n,e,_,_,d⟩,_⟩:=I.list h
 obtain ⟨its',r',⟨o',n',e',_,_,d'⟩,_⟩:=I.list h'
 rw [e] at e';cases e'
 rw [d] at d'
 injection d' with d1 _
 have:aq=its':=by simpa using congrArg Array.toList d1
 subst this
 exact r.inj r'
theorem Inv.HW (I:Inv X pins σ H s) (h:jZ X.K H a xs) (h':jZ X.K H a ys):xs=ys:=by
 obtain ⟨aq,r,⟨o,e,_,n,d⟩,_⟩:=I.tuple h
 obtain ⟨its',r',⟨o',e',_,n',d'⟩,_⟩:=I.tuple h'
 rw [e] at e';cases e'
 rw [d] at d'
 injection d' with d1 _
 have:aq=its':=by simpa using congrArg Array.toList d1
 subst this
 exact r.inj r'
end
abbrev Cx.zK (X:Cx) (E:Value→Shared→Prop):Cx:={ X with xe:=E }
abbrev Cx.A2 (X:Cx):Cx:=X.zK fun _ _=>False
theorem Cx.Ok.zK {X:Cx} (ok:X.Ok) (E:Value→Shared→Prop):(X.zK E).Ok :=
 ⟨ok.mod,ok.kind,ok.glob,ok.blt,ok.above,ok.inj,ok.has,ok.JV,ok.hd,ok.frames,ok.GD,ok.Ly,ok.bs,ok.GF,ok.xW,ok.wq,ok.pD,ok.JQ⟩
theorem Cx.Ok.pH {X:Cx} {E:Value→Shared→Prop} (ok:(X.zK E).Ok):X.Ok :=
 ⟨ok.mod,ok.kind,ok.glob,ok.blt,ok.above,ok.inj,ok.has,ok.JV,ok.hd,ok.frames,ok.GD,ok.Ly,ok.bs,ok.GF,ok.xW,ok.wq,ok.pD,ok.JQ⟩
section
variable {X:Cx} {pins:List (Addr × Obj)} {σ:St} {H:Hp} {s:Shared} {E:Value→Shared→Prop}
theorem Inv.zK (I:Inv X pins σ H s) (E:Value→Shared→Prop):Inv (X.zK E) pins σ H s:=⟨I.ok.zK E,I.os,I.bare,I.base,I.loc,I.cell,I.free,I.jR,I.pin,I.bh,I.len⟩
theorem Inv.pH (I:Inv (X.zK E) pins σ H s):Inv X pins σ H s:=⟨I.ok.pH,I.os,I.bare,I.base,I.loc,I.cell,I.free,I.jR,I.pin,I.bh,I.len⟩
theorem SP.pH {D:Ends} {f:Flow} {s':Shared} (h:SP (X.zK E) pins D f s'):SP X pins D f s':=by
 cases f with
 | next=>obtain ⟨σ',H',I,q⟩:=h;exact ⟨σ',H',I.pH,q⟩
 | brk=>obtain ⟨σ',H',I,q⟩:=h;exact ⟨σ',H',I.pH,q⟩
 | cont=>obtain ⟨σ',H',I,q⟩:=h;exact ⟨σ',H',I.pH,q⟩
 | ret u=>obtain ⟨v,σ',H',I,r,q⟩:=h;exact ⟨v,σ',H',I.pH,r,q⟩
end
section
variable {X:Cx} {st:Stmt} {rest:List Stmt} {t u:TS} {e:Expr} {te:TE} {pos:Pos}
def Oa:TS:=fun D σ H=>D.nx σ H
def Ja (t u:TS):TS:=fun D σ H=>t { D with nx:=u D } σ H
theorem aj:Dg X [] Oa:=fun _ _ σ H _ I h=>wpAny_execs_nil ⟨σ,H,I,h⟩
theorem aC (h1:PS X st t) (h2:Dg X rest u):Dg X (st :: rest) (Ja t u):=by
 intro pins s σ H D I h
 refine wpAny_execs_cons (bV (h1 pins s σ H { D with nx:=u D } I h) fun f s1 q=>?_)
 cases f with
 | next =>
  obtain ⟨σ',H',I',q⟩:=q
  exact h2 pins s1 σ' H' D I' q
 | ret v=>exact q
 | brk=>exact q
 | cont=>exact q
theorem aH (h1:PS X st t):Dg X [st] t:=by
 intro pins s σ H D I h
 refine wpAny_execs_cons (bV (h1 pins s σ H D I h) fun f s1 q=>?_)
 cases f with
 | next=>exact wpAny_execs_nil q
 | ret v=>exact q
 | brk=>exact q
 | cont=>exact q
theorem Inv.quiet {pins:List (Addr × Obj)} {σ:St} {H:Hp} {s:Shared} (I:Inv X pins σ H s):interactive X.env=false:=by simp [interactive,I.ok.kind]
def Jb (te:TE):TS:=fun D σ H=>te σ H fun _ H1=>D.nx σ H1
theorem ar (he:PE X e te) (hs:swapsWith e none pos.line X.env=pure false:=by rfl):PS X (.Expr e pos) (Jb te):=by
 intro pins s σ H D I h
 exact wpAny_Expr_any (bV (he pins s σ H _ I h) fun v s1 ⟨x,H1,I1,r1,q1⟩=>⟨σ,H1,I1,q1⟩) I.quiet hs
def Sd (te:TE):TS:=fun D σ H=>te σ H D.rt
theorem aY (he:PE X e te):PS X (.Return (some e) pos) (Sd te):=by
 intro pins s σ H D I h
 exact wpAny_Return_some (bV (he pins s σ H _ I h) fun v s1 ⟨x,H1,I1,r1,q1⟩=>⟨x,σ,H1,I1,r1,q1⟩)
def Se:TS:=fun D _ H=>D.rt .bH H
theorem MR:PS X (.Return none pos) Se:=fun _ _ σ H _ I h=>wpAny_Return_none ⟨.bH,σ,H,I,rfl,h⟩
def Sf (c:TT) (t u:TS):TS:=fun D σ H=>c σ H fun b H1=>if b=true then t D σ H1 else u D σ H1
theorem bG {c:Expr} {a b:List Stmt} {tc:TT} (hc:PT X c tc) (ha:Dg X a t) (hb:Dg X b u):PS X (.If c a b pos) (Sf tc t u):=by
 intro pins s σ H D I h
 refine wpAny_If (bV (hc pins s σ H _ I h) fun d s1 ⟨H1,I1,q1⟩=>?_)
 cases d with
 | true=>exact ha pins s1 σ H1 D I1 q1
 | false=>exact hb pins s1 σ H1 D I1 q1
end
abbrev TG:=V→St→Hp→(St→Hp→Prop)→Prop
abbrev Pe:=List V→St→Hp→(St→Hp→Prop)→Prop
def PG (X:Cx) (target:Expr) (t:TG):Prop :=
 ∀ (pins:List (Addr × Obj)) (s:Shared) (σ:St) (H:Hp) (v:V) (u:Value) (Q:St→Hp→Prop),Inv X pins σ H s→RelV v u→t v σ H Q →
  wpAny (model X.prog X.w) X.A (assign target X.env u) (fun _ s'=>∃ σ' H',Inv X pins σ' H' s'∧Q σ' H') X.xe s
def Vd (X:Cx) (ts:List Expr) (t:Pe):Prop :=
 ∀ (pins:List (Addr × Obj)) (s:Shared) (σ:St) (H:Hp) (vs:List V) (us:List Value) (Q:St→Hp→Prop),Inv X pins σ H s→av vs us→t vs σ H Q →
  wpAny (model X.prog X.w) X.A (assignInOrder ((assignEach ts X.env).map (·.2)) us) (fun _ s'=>∃ σ' H',Inv X pins σ' H' s'∧Q σ' H') X.xe s
abbrev Pf:=V→V→V→Hp→(Hp→Prop)→Prop
def Sg (X:Cx) (t:Pf):Prop :=
 ∀ (pins:List (Addr × Obj)) (s:Shared) (σ:St) (H:Hp) (o i v:V) (ov iv u:Value) (Q:Hp→Prop),Inv X pins σ H s→RelV o ov→RelV i iv→RelV v u→t o i v H Q →
  wpAny (model X.prog X.w) X.A (setItem ov iv u) (fun _ s'=>∃ H',Inv X pins σ H' s'∧Q H') X.xe s
abbrev Yp:=V→V→Hp→VK→Prop
def PIp (X:Cx) (op:Operator) (t:Yp):Prop :=
 ∀ (pins:List (Addr × Obj)) (s:Shared) (σ:St) (H:Hp) (x y:V) (v u:Value) (Q:VK),Inv X pins σ H s→RelV x v→RelV y u→t x y H Q →
  wpAny (model X.prog X.w) X.A (inplaceOp op v u) (EP X pins σ Q) X.xe s
section
variable {X:Cx} {pos:Pos}
def j8 (i:Nat):TG:=fun v σ H Q=>Q (σ.set i (some v)) H
theorem ak {i:Nat} {x:Str} (hN:X.N.Nodup) (hi:X.N[i]?=some x) (hx:Loc X.env.scope x) (hf:X.fn x=true∨X.env.scope.names.lookup x=some .local:=by first | exact .inl rfl | exact .inr rfl | assumption):PG X (.Name x pos) (j8 i):=by
 intro pins s σ H v u Q I r h
 exact wpAny_assign_Name (xY I hN hi hx r (fun s' I'=>⟨_,H,I',h⟩) hf)
def Jc:Pe:=fun vs σ H Q=>vs=[]∧Q σ H
def uE (t:TG) (u:Pe):Pe:=fun vs σ H Q=>∃ v r,vs=v :: r∧t v σ H fun σ' H'=>u r σ' H' Q
theorem MS:Vd X [] Jc:=by
 intro pins s σ H vs us Q I r h
 obtain ⟨e,h⟩:=h
 subst e
 cases r
 exact assignInOrder_nil ⟨σ,H,I,h⟩
theorem CL {e:Expr} {es:List Expr} {t:TG} {u:Pe} (h1:PG X e t) (h2:Vd X es u)
  (hs:(assignEach (e :: es) X.env).map (·.2)=assign e X.env :: (assignEach es X.env).map (·.2):=by rfl):Vd X (e :: es) (uE t u):=by
 intro pins s σ H vs us Q I r h
 obtain ⟨v,vr,e1,h⟩:=h
 subst e1
 cases r with
 | cons r rr =>
  rw [hs]
  refine assignInOrder_cons (bV (h1 pins s σ H _ _ _ I r h) fun _ s1 ⟨σ1,H1,I1,q1⟩=>?_)
  exact h2 pins s1 σ1 H1 _ _ Q I1 rr q1
def Jd (K:PySem.W.Frag) (n:Nat) (t:Pe):TG:=fun v σ H Q=>∃ a xs,v=.ref a∧jZ K H a xs∧xs.length=n∧t xs σ H Q
theorem Pg {es:List Expr} {k:Nat} {t:Pe} {n:Nat} (hc:X.calm=true) (h:Vd X es t)
  (hn:(assignEach es X.env).length=n:=by rfl) (Dx:(assignEach es X.env).findIdx? (·.1)=none:=by rfl):PG X (.Tuple es k pos) (Jd X.K n t):=by
 intro pins s σ H v u Q I r hw
 obtain ⟨a,xs,e1,hq,hl,hw⟩:=hw
 subst e1
 cases r
 obtain ⟨aq,rv,ht,hz⟩:=I.tuple hq
 refine assign_Tuple_tuple (I.ok.hd hc) ht (by simp [hn,← hl,rv.length]) Dx fun h' hx=>?_
 have I1:Inv X pins σ H { s with heap:=h' }:=I.kept (t':=s.toks) fun b o e=>hx b o (Nat.ne_of_lt (Heap.lt_size e)) e
 exact h pins _ σ H xs _ Q I1 (by simpa using rv) hw
def WN (to ti:TE) (t:Pf):TG:=fun v σ H Q=>to σ H fun o H1=>ti σ H1 fun i H2=>t o i v H2 fun H3=>Q σ H3
theorem u9 {o i:Expr} {to ti:TE} {t:Pf} (ho:PE X o to) (hi:PE X i ti) (hs:Sg X t)
  (ha:∀ v,assign (.Subscript o i pos) X.env v=(do
   let ov ← holding [v] (eval o X.env)
   let iv ← holding [v,ov] (eval i X.env)
   standAt pos
   holding [v,ov,iv] (setItem ov iv v)
   release [v,ov,iv] []):=by intro _;rfl):PG X (.Subscript o i pos) (WN to ti t):=by
 intro pins s σ H v u Q I r h
 rw [ha]
 refine wpAny_bind (wpAny_holding (bV (ho pins s σ H _ I h) fun ov s1 ⟨x,H1,I1,r1,q1⟩=>?_))
 refine wpAny_bind (wpAny_holding (bV (hi pins s1 σ H1 _ I1 q1) fun iv s2 ⟨y,H2,I2,r2,q2⟩=>?_))
 refine wpAny_bind (wpAny_standAt (wpAny_bind (wpAny_holding (bV (hs pins s2 σ H2 x y v ov iv u _ I2 r1 r2 r q2) fun _ s3 ⟨H3,I3,q3⟩=>?_))))
 exact wpAny_release ⟨σ,H3,I3,q3⟩
def Ph (te:TE) (g:TG):TS:=fun D σ H=>te σ H fun x H1=>g x σ H1 D.nx
theorem vA {tg e:Expr} {te:TE} {g:TG} (he:PE X e te) (hg:PG X tg g) (hs:swapsWithSole [tg] e pos.line X.env=pure false:=by rfl) (hw:swappedStores [tg] e X.env=pure none:=by rfl)
  (h1:(assignEach [tg] X.env).map (·.2)=[assign tg X.env]:=by rfl):PS X (.Assign [tg] e pos) (Ph te g):=by
 intro pins s σ H D I h
 refine wpAny_Assign_stores (bV (he pins s σ H _ I h) fun v s1 ⟨x,H1,I1,r1,q1⟩=>?_) hs hw
 rw [h1]
 exact bV (hg pins s1 σ H1 x v _ I1 r1 q1) fun _ s2 q=>q
theorem aR {i:Nat} {x:Str} {e:Expr} {te:TE} {pos':Pos} (hN:X.N.Nodup) (hi:X.N[i]?=some x) (hx:Loc X.env.scope x) (he:PE X e te) (hs:swapsWith e (some (.Name x pos')) pos.line X.env=pure false:=by rfl) (hf:X.fn x=true∨X.env.scope.names.lookup x=some .local:=by first | exact .inl rfl | exact .inr rfl | assumption) :
  PS X (.Assign [.Name x pos'] e pos) (Ph te (j8 i)):=by
 intro pins s σ H D I h
 refine wpAny_Assign_Name (bV (he pins s σ H _ I h) fun v s1 ⟨y,H1,I1,r1,q1⟩=>?_) hs
 exact xY I1 hN hi hx r1 (fun s2 I2=>⟨_,H1,I2,q1⟩) hf
def Yq (f:Int→Int→Int):Yp:=fun x y H Q=>∃ i j,x=.int i∧y=.int j∧Q (.int (f i j)) H
theorem Je:PIp X .Add (Yq fun i j=>i+j):=by
 intro pins s σ H x y v u Q I r1 r2 h
 obtain ⟨i,j,e1,e2,q⟩:=h
 subst e1;subst e2
 obtain ⟨t,rfl⟩:=r1
 obtain ⟨t',rfl⟩:=r2
 exact iadd_int ⟨.int _,H,I.tok _,⟨_,rfl⟩,q⟩
end
section
variable {X:Cx} {pos:Pos}
def Jf (c:TT) (tb:TS):TS:=fun D σ H=>∃ W:Nat→St→Hp→Prop,(∃ m,W m σ H)∧∀ m σ H,W m σ H →
 c σ H fun b H1=>if b=true then ∃ N:St→Hp→Prop,(∀ σ' H',N σ' H'→∃ m',m' < m∧W m' σ' H')∧tb { D with nx:=N,ct:=N,bk:=D.nx } σ H1 else D.nx σ H1
theorem CM {c:Expr} {body:List Stmt} {tc:TT} {tb:TS} (hp:PassesOwn (model X.prog X.w) X.A X.env X.xe) (hc:PT X c tc) (hb:Dg X body tb):PS X (.While c body [] pos) (Jf tc tb):=by
 intro pins s σ H D I h
 obtain ⟨W,⟨m0,w0⟩,turn⟩:=h
 refine wpAny_While (codeAny_whileLoop (fun n s'=>∃ σ' H',Inv X pins σ' H' s'∧W n σ' H') ?_ m0 ⟨σ,H,I,w0⟩)
 rintro n s1 ⟨σ1,H1,I1,w1⟩
 refine wpAny_passesOwn hp (bV (hc pins s1 σ1 H1 _ I1 (turn n σ1 H1 w1)) fun b s2 ⟨H2,I2,q2⟩=>?_)
 cases b with
 | true =>
  obtain ⟨N,hN,q2⟩:=q2
  rw [if_pos rfl]
  refine wpAny_passesOwn hp (bV (hb pins s2 σ1 H2 _ I2 q2) fun f s3 q3=>?_)
  cases f with
  | next =>
   obtain ⟨σ3,H3,I3,n3⟩:=q3
   obtain ⟨m',hm,w3⟩:=hN σ3 H3 n3
   exact ⟨m',hm,σ3,H3,I3,w3⟩
  | cont =>
   obtain ⟨σ3,H3,I3,n3⟩:=q3
   obtain ⟨m',hm,w3⟩:=hN σ3 H3 n3
   exact ⟨m',hm,σ3,H3,I3,w3⟩
  | brk=>exact q3
  | ret v=>exact q3
 | false =>
  rw [if_neg Bool.false_ne_true]
  exact wpAny_execs_nil ⟨σ1,H2,I2,q2⟩
end
structure It where
 go:Nat→Hp→Prop
 L9:Nat→Hp→V→Hp→Prop
 stop:Nat→Hp→Prop
def oq (X:Cx) (pins:List (Addr × Obj)) (H:Hp) (b:Addr):Prop :=
 H b=none∧b≠X.env.locals∧b ∉ X.fs∧(b ∈ X.ex∨X.s₀.heap.objs.size≤b)∧(∀ x c,X.env.cells.lookup x=some c→c≠b)∧∀ p ∈ X.pn ++ pins,p.1≠b
theorem Inv.A3 {X:Cx} {pins:List (Addr × Obj)} {σ:St} {H H':Hp} {s:Shared} {b:Addr} (I:Inv X pins σ H s) (hb:s.heap.objs.size≤b) (hn:H' b=none):oq X pins H' b:=by
 refine ⟨hn,Nat.ne_of_gt (Nat.lt_of_lt_of_le I.lt hb),I.WD hb,.inr (Nat.le_trans I.sz hb),fun x c e z=>?_,fun p hp z=>?_⟩
 ·obtain ⟨v,q⟩:=I.cell x c e
  exact absurd (Nat.lt_of_lt_of_le q.lt (by rw [z];exact hb)) (Nat.lt_irrefl _)
 ·exact absurd (Nat.lt_of_lt_of_le (Heap.lt_size (I.pin p hp).1) (by rw [z];exact hb)) (Nat.lt_irrefl _)
structure Turn (P:Program) (w:World) (K:PySem.W.Frag) (tg:Expr) (J:It) (fp:List Addr) (it:Addr) (tn:Nat→Heap→Prop):Prop where
 mem:it ∈ fp
 obj:∀ i h,tn i h→∀ b ∈ fp,∃ o,h.get? b=some o∧∀ v,o.data≠.cell v
 keep:∀ i h h',tn i h→(∀ b ∈ fp,∀ o,h.get? b=some o→h'.get? b=some o)→tn i h'
 item:∀ (X:Cx),X.prog=P→X.w=w→X.K=K→X.calm=true→∀ (i:Nat) (pins:List (Addr × Obj)) (s:Shared) (σ:St) (H:Hp) (E:Value→Shared→Prop),Inv X pins σ H s→(∀ b ∈ fp,oq X pins H b)→tn i s.heap→J.go i H →
  wpAny (model P w) X.A (pyNext (.ref it)) (fun r s1=>∃ u,r=some u ∧
   wpAny (model P w) X.A (letOwnedTupleGo tg (.ref it) u) (fun _ s2=>∃ x H',Inv X pins σ H' s2∧RelV x u∧J.L9 i H x H'∧tn (i+1) s2.heap∧∀ b ∈ fp,H' b=none) E s1) E s
 done:∀ (X:Cx),X.prog=P→X.w=w→X.K=K→X.calm=true→∀ (i:Nat) (pins:List (Addr × Obj)) (s:Shared) (σ:St) (H:Hp) (E:Value→Shared→Prop),Inv X pins σ H s→(∀ b ∈ fp,oq X pins H b)→tn i s.heap→J.stop i H →
  wpAny (model P w) X.A (pyNext (.ref it)) (fun r s1=>r=none∧Inv X pins σ H s1) E s
 self:∀ (A:Around) (i:Nat) (s:Shared) (Q:Value→Shared→Prop) (E:Value→Shared→Prop),tn i s.heap→Q (.ref it) s→wpAny (model P w) A (pyIter (.ref it)) Q E s
abbrev TI:=St→Hp→(It→Hp→Prop)→Prop
def Yr (X:Cx) (pins:List (Addr × Obj)) (σ:St) (tg:Expr) (R:It→Hp→Prop) (Pj:Value) (s2:Shared):Prop :=
 ∃ (it:Addr) (fp:List Addr) (tn:Nat→Heap→Prop) (J:It) (H':Hp),Pj=.ref it∧Inv X pins σ H' s2∧Turn X.prog X.w X.K tg J fp it tn∧tn 0 s2.heap∧(∀ b ∈ fp,oq X pins H' b)∧R J H'
def PI (X:Cx) (tg iter:Expr) (wi:TI):Prop :=
 ∀ (pins:List (Addr × Obj)) (s:Shared) (σ:St) (H:Hp) (R:It→Hp→Prop),Inv X pins σ H s→wi σ H R →
  wpAny (model X.prog X.w) X.A (eval iter X.env) (fun v s1=>wpAny (model X.prog X.w) X.A (pyIter v) (Yr X pins σ tg R) X.xe s1) X.xe s
theorem GJ {M:Model} {A:Around} {E:Value→Shared→Prop} {s:Shared} {tg:Expr} {it:Addr} {u:Value} {o:Obj} {n:String} {vs:Array Value} {Q:Unit→Shared→Prop} (ho:s.heap.get? it=some o) (hc:o.cls=.type n) (hd:o.data=.fields vs)
  (hn:["enumerate","zip","dict_itemiterator","dict_reverseitemiterator","odict_iterator","itertools.zip_longest","itertools.pairwise"].contains n=false) (hQ:Q () s):wpAny M A (letOwnedTupleGo tg (.ref it) u) Q E s:=by
 unfold letOwnedTupleGo
 cases tg <;> first
  | exact wpAny_pure hQ
  | (cases u <;> first
    | exact wpAny_pure hQ
    | (refine wpAny_bind (wpAny_load ho ?_)
       rw [hc,hd]
       show wpAny M A (if (["enumerate","zip","dict_itemiterator","dict_reverseitemiterator","odict_iterator","itertools.zip_longest","itertools.pairwise"].contains n && vs[0]? == some (rawInt _))=true then _ else _) Q E s
       rw [if_neg (by intro h;rw [hn,Bool.false_and] at h;cases h)]
       exact wpAny_pure hQ))
def Pk (K:PySem.W.Frag) (a:Addr):It :=
 ⟨fun i H=>∃ xs x,aT K H a xs∧xs[i]?=some x,fun i H x H'=>H'=H∧∀ xs,aT K H a xs→xs[i]?=some x,fun i H=>∃ xs,aT K H a xs∧xs.length≤i⟩
def MT (lo:Int) (n:Nat):It:=⟨fun i _=>i < n,fun i H x H'=>H'=H∧x=.int (lo+i),fun i _=>n≤i⟩
theorem HX {P:Program} {w:World} {K:PySem.W.Frag} {tg:Expr} (a it:Addr):Turn P w K tg (Pk K a) [it] it (fun i h=>h.IsListIter it a i) where
 mem:=by simp
 obj:=fun i h st b hb=>by
  have e:b=it:=by simpa using hb
  subst e
  obtain ⟨o,e,c,d⟩:=st
  exact ⟨o,e,fun v z=>by rw [d] at z;cases z⟩
 keep:=fun i h h' st k=>st.at fun o e=>k it (by simp) o e
 item:=by
  intro X hP hw hK hc i pins s σ H E I hf st hg
  subst hP hw hK
  obtain ⟨xs,x,hq,hx⟩:=hg
  obtain ⟨aq,rv,p,hz⟩:=I.list hq
  obtain ⟨u,hu,ru⟩:=rv.get hx
  obtain ⟨f0,f1,f2,f3,f4,f5⟩:=hf it (by simp)
  refine wpAny_pyNext_list_item st p.isList (x:=u) (by simpa using hu) fun h' uF sb=>?_
  have I1:Inv X pins σ H { s with heap:=h' }:=I.turned (t':=s.toks) (fun b o hb e=>(sb.2 b hb).trans e) f0 f1 f3 f4 f5
  obtain ⟨o,e,c,d⟩:=id uF
  exact ⟨u,rfl,GJ (s:={ s with heap:=h' }) e c d (by decide) ⟨x,H,I1,ru,⟨rfl,fun ys hy=>by rw [I.uD hy hq];exact hx⟩,uF,fun b hb=>(hf b hb).1⟩⟩
 done:=by
  intro X hP hw hK hc i pins s σ H E I hf st hg
  subst hP hw hK
  obtain ⟨xs,hq,hx⟩:=hg
  obtain ⟨aq,rv,p,hz⟩:=I.list hq
  obtain ⟨f0,f1,f2,f3,f4,f5⟩:=hf it (by simp)
  have hl:=rv.length
  exact wpAny_pyNext_list_end (I.ok.hd hc) st p.isList (by simp;omega) fun h' eb=>⟨rfl,I.turned (t':=s.toks) (fun b o hb e=>eb b o hb e) f0 f1 f3 f4 f5⟩
 self:=fun _ _ _ _ _ st h=>wpAny_pyIter_listiter st h
theorem Dy {P:Program} {w:World} {K:PySem.W.Frag} {tg:Expr} (it:Addr) (lo:Int) (n:Nat):Turn P w K tg (MT lo n) [it] it (fun i h=>IsRangeIter h it (lo+(i:Nat) * 1) ((n:Int) - (i:Nat)) 1) where
 mem:=by simp
 obj:=fun i h st b hb=>by
  have e:b=it:=by simpa using hb
  subst e
  exact ⟨_,st,fun v z=>by
   have z':Data.fields _=Data.cell v:=z
   cases z'⟩
 keep:=fun i h h' st k=>k it (by simp) _ st
 item:=by
  intro X hP hw hK hc i pins s σ H E I hf st hg
  subst hP hw hK
  obtain ⟨f0,f1,f2,f3,f4,f5⟩:=hf it (by simp)
  have W:=Walks.range (prog:=X.prog) (w:=X.w) (I.ok.hd hc) it lo 1 n
  refine W.item i s _ _ hg st fun v h' tk hv uF kk=>?_
  obtain ⟨t,rfl⟩:=hv
  have I1:Inv X pins σ H { s with heap:=h',toks:=tk }:=I.turned (fun b o hb e=>kk b o (by simpa using hb) e) f0 f1 f3 f4 f5
  refine ⟨_,rfl,GJ (s:={ s with heap:=h',toks:=tk }) (n:="range_iterator") uF rfl rfl (by decide) ⟨.int (lo+i),H,I1,⟨t,?_⟩,⟨rfl,rfl⟩,uF,fun b hb=>(hf b hb).1⟩⟩
  rw [Int.mul_one]
 done:=by
  intro X hP hw hK hc i pins s σ H E I hf st hg
  subst hP hw hK
  obtain ⟨f0,f1,f2,f3,f4,f5⟩:=hf it (by simp)
  exact wpAny_pyNext_range_end (I.ok.hd hc) st (by have:n≤i:=hg;omega) fun h' eb=>⟨rfl,I.turned (t':=s.toks) (fun b o hb e=>eb b o hb e) f0 f1 f3 f4 f5⟩
 self:=fun _ _ _ _ _ st h=>wpAny_pyIter_rangeiter st h
end L2
namespace L2
open PySem PySem.Spec PyProof.Rows
section
variable {X:Cx} {tg:Expr}
def Ob (K:PySem.W.Frag) (tl:TE):TI:=fun σ H R=>tl σ H fun x H1=>∃ a,x=.ref a∧(∃ xs,aT K H1 a xs)∧R (Pk K a) H1
theorem GK {l:Expr} {tl:TE} (hl:PE X l tl):PI X tg l (Ob X.K tl):=by
 intro pins s σ H R I h
 refine bV (hl pins s σ H _ I h) fun v s1 ⟨x,H1,I1,r1,q1⟩=>?_
 obtain ⟨a,e,⟨xs,hq⟩,q⟩:=q1
 subst e
 cases r1
 obtain ⟨aq,rv,p,hz⟩:=I1.list hq
 refine wpAny_pyIter_list p.isList ?_
 refine ⟨s1.heap.objs.size,[s1.heap.objs.size],_,_,H1,rfl,I1.kept (t':=s1.toks) fun b o e=>Heap.get?_push_of_some _ e,HX a _,⟨_,Heap.get?_push_size _ rfl,rfl,rfl⟩,fun b hb=>?_,q⟩
 have e:b=s1.heap.objs.size:=by simpa using hb
 subst e
 exact I1.A3 (Nat.le_refl _) (I1.bh.fresh (Nat.le_refl _))
theorem CN {pins:List (Addr × Obj)} {σ:St} {H:Hp} {s:Shared} {R:It→Hp→Prop} {E:Value→Shared→Prop} {lo hi:Int} {t u v:Tok} {tk:Nat} (I:Inv X pins σ H s) (h1:-(2 ^ 62)≤lo) (h2:lo < 2 ^ 62) (h3:-(2 ^ 62)≤hi) (h4:hi < 2 ^ 62)
  (q:R (MT lo (hi - lo).toNat) H):wpAny (model X.prog X.w) X.A (pyIter (.ref s.heap.objs.size)) (Yr X pins σ tg R) E { s with heap:=s.heap.push { cls:=.type "range",data:=.fields #[.int lo t,.int hi u,.int 1 v] },toks:=tk }:=by
 refine wpAny_pyIter_range (IsRange.new ..) (small_one h1 h2 h3 h4) ?_
 have I1:Inv X pins σ H { s with heap:=s.heap.push { cls:=.type "range",data:=.fields #[.int lo t,.int hi u,.int 1 v] },toks:=tk }:=I.kept fun b o e=>Heap.get?_push_of_some _ e
 refine ⟨(s.heap.push { cls:=.type "range",data:=.fields #[.int lo t,.int hi u,.int 1 v] }).objs.size,[(s.heap.push { cls:=.type "range",data:=.fields #[.int lo t,.int hi u,.int 1 v] }).objs.size],_,_,H,rfl,
  I1.kept (t':=tk) fun b o e=>Heap.get?_push_of_some _ e,Dy _ lo (hi - lo).toNat,?_,fun b hb=>?_,q⟩
 ·have e1:lo+((0:Nat):Int) * 1=lo:=by simp
  have e2:(((hi - lo).toNat:Nat):Int) - ((0:Nat):Int)=Builtin.Range.rangeSize lo hi 1:=by rw [rangeSize_one];split <;> omega
  show IsRangeIter _ _ (lo+((0:Nat):Int) * 1) ((((hi - lo).toNat:Nat):Int) - ((0:Nat):Int)) 1
  rw [e1,e2]
  exact Heap.get?_push_size _ rfl
 ·have e:b=(s.heap.push { cls:=.type "range",data:=.fields #[.int lo t,.int hi u,.int 1 v] }).objs.size:=by simpa using hb
  subst e
  exact I1.A3 (Nat.le_refl _) (I1.bh.fresh (Nat.le_refl _))
def Sh (ta:TA):TI:=fun σ H R=>ta σ H fun vs H1=>∃ j:Int,vs=[.int j]∧-(2 ^ 62)≤j∧j < 2 ^ 62∧R (MT 0 j.toNat) H1
def Si (ta:TA):TI:=fun σ H R=>ta σ H fun vs H1=>∃ i j:Int,vs=[.int i,.int j]∧(-(2 ^ 62)≤i∧i < 2 ^ 62∧-(2 ^ 62)≤j∧j < 2 ^ 62)∧R (MT i (j - i).toNat) H1
theorem cS {a:Expr} {ta:TA} {p pos:Pos} (hg:Gl X "range") (hm:X.mg "range"=none) (ha:PA X [a] ta) (hs:starEach [a] X.env=[(false,eval a X.env)]:=by rfl):PI X tg (.Call (.Name "range" p) [a] [] pos) (Sh ta):=by
 intro pins s σ H R I h
 refine Call_ (j7 I hg hm boot_range (PyProof.Rows.callWith_type1 (bV (ha pos pins s σ H _ I h) fun us s1 ⟨vs,H1,I1,r1,q1⟩=>?_) hs rfl))
 obtain ⟨j,e,q1,q2,q⟩:=q1
 subst e
 cases r1 with
 | cons r rr =>
  cases rr
  obtain ⟨t,rfl⟩:=r
  exact call_range_1 (CN I1 (by omega) (by omega) q1 q2 (by simpa using q))
theorem vB {a b:Expr} {ta:TA} {p pos:Pos} (hg:Gl X "range") (hm:X.mg "range"=none) (ha:PA X [a,b] ta) (hs:starEach [a,b] X.env=[(false,eval a X.env),(false,eval b X.env)]:=by rfl) (HY:starEach [b] X.env=[(false,eval b X.env)]:=by rfl) :
  PI X tg (.Call (.Name "range" p) [a,b] [] pos) (Si ta):=by
 intro pins s σ H R I h
 refine Call_ (j7 I hg hm boot_range (PyProof.Rows.callWith_type1 (bV (ha pos pins s σ H _ I h) fun us s1 ⟨vs,H1,I1,r1,q1⟩=>?_) (by rw [hs,HY]) (by rw [HY];rfl)))
 obtain ⟨i,j,e,⟨q1,q2,q3,q4⟩,q⟩:=q1
 subst e
 cases r1 with
 | cons r rr =>
  cases rr with
  | cons r' rr =>
   cases rr
   obtain ⟨t,rfl⟩:=r
   obtain ⟨t',rfl⟩:=r'
   exact call_range_2 (CN I1 q1 q2 q3 q4 q)
def WO (wi:TI) (g:TG) (tb:TS):TS:=fun D σ H=>wi σ H fun J H1=>∃ W:Nat→Nat→St→Hp→Prop,(∃ m,W 0 m σ H1)∧∀ i m σ H,W i m σ H →
 (J.stop i H∧D.nx σ H)∨(J.go i H∧∃ N:St→Hp→Prop,(∀ σ' H',N σ' H'→∃ m',m' < m∧W (i+1) m' σ' H')∧∀ x H',J.L9 i H x H'→g x σ H' fun σ2 H2=>tb { D with nx:=N,ct:=N,bk:=D.nx } σ2 H2)
def vC (fp:List Addr) (h:Heap):List (Addr × Obj):=fp.filterMap fun b=>(h.get? b).map fun o=>(b,o)
theorem iZ {fp:List Addr} {h:Heap} {b:Addr} {o:Obj} (hb:b ∈ fp) (e:h.get? b=some o):(b,o) ∈ vC fp h:=List.mem_filterMap.mpr ⟨b,hb,by rw [e];rfl⟩
theorem HZ {fp:List Addr} {h:Heap} {p:Addr × Obj} (hp:p ∈ vC fp h):p.1 ∈ fp∧h.get? p.1=some p.2:=by
 obtain ⟨b,hb,e⟩:=List.mem_filterMap.mp hp
 cases q:h.get? b with
 | none=>rw [q] at e;cases e
 | some o =>
  rw [q] at e
  have e':(b,o)=p:=Option.some.inj e
  subst e'
  exact ⟨hb,q⟩
theorem Inv.pinned {pins:List (Addr × Obj)} {σ:St} {H:Hp} {s:Shared} {fp:List Addr} (I:Inv X pins σ H s) (hf:∀ b ∈ fp,oq X pins H b) (ho:∀ b ∈ fp,∃ o,s.heap.get? b=some o∧∀ v,o.data≠.cell v):Inv X (pins ++ vC fp s.heap) σ H s :=
 I.GG fun p hp=>(List.mem_append.mp hp).elim (fun z=>I.pin p (List.mem_append_right _ z)) fun z=>by
  obtain ⟨hb,e⟩:=HZ z
  obtain ⟨f0,f1,f2,_⟩:=hf p.1 hb
  obtain ⟨o,e',d⟩:=ho p.1 hb
  rw [e] at e';cases e'
  exact ⟨e,f0,f1,f2,d⟩
theorem Inv.j9 {pins pl:List (Addr × Obj)} {σ:St} {H:Hp} {s:Shared} (I:Inv X (pins ++ pl) σ H s):Inv X pins σ H s:=I.GG fun p hp=>I.pin p (List.mem_append_right _ (List.mem_append_left _ hp))
theorem cT {iter:Expr} {body:List Stmt} {wi:TI} {g:TG} {tb:TS} {pos:Pos} (hp:PassesOwn (model X.prog X.w) X.A X.env X.xe) (hc:X.calm=true) (hi:PI X tg iter wi) (hg:PG X tg g) (hb:Dg X body tb)
  (hs:∀ x,foldedSetIterable iter X.env x=pure x:=by intro _;rfl):PS X (.For tg iter body [] pos) (WO wi g tb):=by
 intro pins s σ H D I h
 refine wpAny_For (bV (hi pins s σ H _ I h) fun v s1 h1=>bV h1 fun Pj s2 h2=>?_) hs
 obtain ⟨it,fp,tn,J,H2,e,I2,T,wt,f2,W,⟨m0,w0⟩,turn⟩:=h2
 subst e
 have xa:∀ {H':Hp},(∀ b ∈ fp,H' b=none)→∀ b ∈ fp,oq X pins H' b:=fun hn b hb=>⟨hn b hb,(f2 b hb).2⟩
 refine codeAny_forLoop_any (fun n s'=>∃ i σ' H',Inv X pins σ' H' s'∧tn i s'.heap∧(∀ b ∈ fp,H' b=none)∧W i n σ' H') ?_ m0 ⟨0,σ,H2,I2,wt,fun b hb=>(f2 b hb).1,w0⟩
 rintro n s3 ⟨i,σ3,H3,I3,xH,Sj,w3⟩
 rcases turn i n σ3 H3 w3 with ⟨stop,qn⟩ | ⟨go,N,hN,step⟩
 ·refine wpAny_passesOwn hp (bV (T.done X rfl rfl rfl hc i pins s3 σ3 H3 X.xe I3 (xa Sj) xH stop) fun r s4 ⟨hr,I4⟩=>?_)
  subst hr
  exact wpAny_execs_nil ⟨σ3,H3,I4,qn⟩
 ·refine wpAny_passesOwn hp (bV (T.item X rfl rfl rfl hc i pins s3 σ3 H3 X.xe I3 (xa Sj) xH go) fun r s4 ⟨u,hr,h4⟩=>?_)
  subst hr
  refine wpAny_passesOwn hp (bV h4 fun _ s5 ⟨x,H5,I5,r5,y5,CC,JR⟩=>?_)
  have I5':=I5.pinned (xa JR) (T.obj _ _ CC)
  refine wpAny_passesOwn hp (bV (hg _ s5 σ3 H5 x u _ I5' r5 (step x H5 y5)) fun _ s6 ⟨σ6,H6,I6,q6⟩=>?_)
  refine wpAny_passesOwn hp (bV (hb _ s6 σ6 H6 _ I6 q6) fun f s7 q7=>?_)
  have again:∀ {σ7:St} {H7:Hp},Inv X (pins ++ vC fp s5.heap) σ7 H7 s7→N σ7 H7→∃ m,m < n∧∃ i σ' H',Inv X pins σ' H' s7∧tn i s7.heap∧(∀ b ∈ fp,H' b=none)∧W i m σ' H':=fun {σ7 H7} I7 n7=>by
   obtain ⟨m',hm,w7⟩:=hN σ7 H7 n7
   refine ⟨m',hm,i+1,σ7,H7,I7.j9,T.keep _ _ _ CC fun b hb o e=>(I7.pin (b,o) (List.mem_append_right _ (List.mem_append_right _ (iZ hb e)))).1,fun b hb=>?_,w7⟩
   obtain ⟨o,e,d⟩:=T.obj _ _ CC b hb
   exact (I7.pin (b,o) (List.mem_append_right _ (List.mem_append_right _ (iZ hb e)))).2.1
  cases f with
  | next=>obtain ⟨σ7,H7,I7,n7⟩:=q7;exact again I7 n7
  | cont=>obtain ⟨σ7,H7,I7,n7⟩:=q7;exact again I7 n7
  | brk=>obtain ⟨σ7,H7,I7,q7⟩:=q7;exact ⟨σ7,H7,I7.j9,q7⟩
  | ret v=>obtain ⟨x7,σ7,H7,I7,r7,q7⟩:=q7;exact ⟨x7,σ7,H7,I7.j9,r7,q7⟩
end
theorem gM {K:PySem.W.Frag} {a:Addr} {xs:List V} {g:TG} {tb:TS} {D:Ends} {σ:St} {H:Hp} (Pv:Nat→St→Hp→Prop) (h0:Pv 0 σ H) (hl:∀ i σ H,i≤xs.length→Pv i σ H→aT K H a xs)
  (hs:∀ i x σ H,xs[i]?=some x→Pv i σ H→g x σ H fun σ2 H2=>tb { D with nx:=Pv (i+1),ct:=Pv (i+1),bk:=D.nx } σ2 H2) (hd:∀ σ H,Pv xs.length σ H→D.nx σ H) :
  ∃ W:Nat→Nat→St→Hp→Prop,(∃ m,W 0 m σ H)∧∀ i m σ H,W i m σ H →
   ((Pk K a).stop i H∧D.nx σ H)∨((Pk K a).go i H∧∃ N:St→Hp→Prop,(∀ σ' H',N σ' H'→∃ m',m' < m∧W (i+1) m' σ' H')∧∀ x H',(Pk K a).L9 i H x H'→g x σ H' fun σ2 H2=>tb { D with nx:=N,ct:=N,bk:=D.nx } σ2 H2):=by
 refine ⟨fun i m σ H=>m=xs.length - i∧i≤xs.length∧Pv i σ H,⟨xs.length,by simp,Nat.zero_le _,h0⟩,?_⟩
 rintro i m σ H ⟨rfl,hi,p⟩
 have q:=hl i σ H hi p
 by_cases jS:i < xs.length
 ·refine .inr ⟨⟨xs,xs[i],q,by simp [jS]⟩,Pv (i+1),fun σ' H' p'=>⟨xs.length - (i+1),by omega,rfl,jS,p'⟩,fun x H' y=>?_⟩
  obtain ⟨e,y⟩:=y
  subst e
  exact hs i x σ _ (y xs q) p
 ·have e:i=xs.length:=by omega
  subst e
  exact .inl ⟨⟨xs,q,Nat.le_refl _⟩,hd σ H p⟩
theorem gs {lo:Int} {n:Nat} {g:TG} {tb:TS} {D:Ends} {σ:St} {H:Hp} (Pv:Nat→St→Hp→Prop) (h0:Pv 0 σ H)
  (hs:∀ i σ H,i < n→Pv i σ H→g (.int (lo+i)) σ H fun σ2 H2=>tb { D with nx:=Pv (i+1),ct:=Pv (i+1),bk:=D.nx } σ2 H2) (hd:∀ σ H,Pv n σ H→D.nx σ H) :
  ∃ W:Nat→Nat→St→Hp→Prop,(∃ m,W 0 m σ H)∧∀ i m σ H,W i m σ H →
   ((MT lo n).stop i H∧D.nx σ H)∨((MT lo n).go i H∧∃ N:St→Hp→Prop,(∀ σ' H',N σ' H'→∃ m',m' < m∧W (i+1) m' σ' H')∧∀ x H',(MT lo n).L9 i H x H'→g x σ H' fun σ2 H2=>tb { D with nx:=N,ct:=N,bk:=D.nx } σ2 H2):=by
 refine ⟨fun i m σ H=>m=n - i∧i≤n∧Pv i σ H,⟨n,by simp,Nat.zero_le _,h0⟩,?_⟩
 rintro i m σ H ⟨rfl,hi,p⟩
 by_cases jS:i < n
 ·refine .inr ⟨jS,Pv (i+1),fun σ' H' p'=>⟨n - (i+1),by omega,rfl,jS,p'⟩,fun x H' y=>?_⟩
  obtain ⟨e,y⟩:=y
  subst e y
  exact hs i σ _ jS p
 ·have e:i=n:=by omega
  subst e
  exact .inl ⟨Nat.le_refl _,hd σ H p⟩
theorem CO {c:TT} {tb:TS} {D:Ends} {σ:St} {H:Hp} (Pv:St→Hp→Prop) (μ:St→Hp→Nat) (h0:Pv σ H)
  (hs:∀ σ H,Pv σ H→c σ H fun b H1=>if b=true then tb { D with nx:=fun σ' H'=>Pv σ' H'∧μ σ' H' < μ σ H,ct:=fun σ' H'=>Pv σ' H'∧μ σ' H' < μ σ H,bk:=D.nx } σ H1 else D.nx σ H1)
  (mono:∀ σ H Q Q',(∀ b H1,Q b H1→Q' b H1)→c σ H Q→c σ H Q'):Jf c tb D σ H:=by
 refine ⟨fun m σ H=>m=μ σ H∧Pv σ H,⟨_,rfl,h0⟩,?_⟩
 rintro m σ H ⟨rfl,p⟩
 refine mono σ H _ _ (fun b H1 q=>?_) (hs σ H p)
 cases b with
 | true=>exact ⟨_,fun σ' H' ⟨p',l⟩=>⟨_,l,rfl,p'⟩,q⟩
 | false=>exact q
end L2
namespace L2
open PySem PySem.Spec PyProof.Rows
abbrev R2:=V→V→Hp→VK→Prop
def ot (X:Cx) (f:Value→Value→Sem Value) (r:R2):Prop :=
 ∀ (pins:List (Addr × Obj)) (s:Shared) (σ:St) (H:Hp) (x y:V) (v u:Value) (Q:VK),Inv X pins σ H s→RelV x v→RelV y u→r x y H Q →
  wpAny (model X.prog X.w) X.A (f v u) (EP X pins σ Q) X.xe s
def WQ (X:Cx) (f:Value→Sem Value) (r:V→Hp→VK→Prop):Prop :=
 ∀ (pins:List (Addr × Obj)) (s:Shared) (σ:St) (H:Hp) (x:V) (v:Value) (Q:VK),Inv X pins σ H s→RelV x v→r x H Q →
  wpAny (model X.prog X.w) X.A (f v) (EP X pins σ Q) X.xe s
def uG (X:Cx) (f:Value) (r:List V→Hp→VK→Prop):Prop :=
 ∀ (pins:List (Addr × Obj)) (s:Shared) (σ:St) (H:Hp) (xs:List V) (us:List Value) (Q:VK),Inv X pins σ H s→av xs us→r xs H Q →
  wpAny (model X.prog X.w) X.A (call f us) (EP X pins σ Q) X.xe s
def WR (X:Cx) (r:V→Hp→(Bool→Hp→Prop)→Prop):Prop :=
 ∀ (pins:List (Addr × Obj)) (s:Shared) (σ:St) (H:Hp) (x:V) (v:Value) (Q:Bool→Hp→Prop),Inv X pins σ H s→RelV x v→r x H Q →
  wpAny (model X.prog X.w) X.A (truthy v) (TP X pins σ Q) X.xe s
def Rr (r:R2) (ta tb:TE):TE:=fun σ H Q=>ta σ H fun x H1=>tb σ H1 fun y H2=>r x y H2 Q
def tUn (r:V→Hp→VK→Prop) (ta:TE):TE:=fun σ H Q=>ta σ H fun x H1=>r x H1 Q
def rI (C:Int→Int→Prop) (g:Int→Int→V):R2:=fun x y H Q=>∃ i j,x=.int i∧y=.int j∧C i j∧Q (g i j) H
def MA (g:Int→Int→V):R2:=fun x y H Q=>∃ i j,x=.int i∧y=.int j∧Q (g i j) H
def rU (g:Int→V):V→Hp→VK→Prop:=fun x H Q=>∃ i,x=.int i∧Q (g i) H
section
variable {X:Cx} {a b c:Expr} {ta tb tc:TE} {pos:Pos}
theorem Pm (ha:PE X a ta) (hb:PE X b tb) {pins:List (Addr × Obj)} {s:Shared} {σ:St} {H:Hp} {R:V→V→Hp→Prop} (I:Inv X pins σ H s)
  (h:ta σ H fun x H1=>tb σ H1 fun y H2=>R x y H2) {Q:Value→Shared→Prop} {f:Value→Value→Sem Value}
  (hf:∀ v u s2 x y H2,Inv X pins σ H2 s2→RelV x v→RelV y u→R x y H2→wpAny (model X.prog X.w) X.A (f v u) Q X.xe s2) :
  wpAny (model X.prog X.w) X.A (eval a X.env) (fun v s₁=>wpAny (model X.prog X.w) X.A (eval b X.env) (fun u s₂=>wpAny (model X.prog X.w) X.A (f v u) Q X.xe s₂) X.xe s₁) X.xe s:=by
 refine bV (ha pins s σ H _ I h) fun v s1 ⟨x,H1,I1,r1,q1⟩=>?_
 refine bV (hb pins s1 σ H1 _ I1 q1) fun u s2 ⟨y,H2,I2,r2,q2⟩=>?_
 exact hf v u s2 x y H2 I2 r1 r2 q2
theorem aN {op:Operator} {r:R2} (ho:ot X (binaryOp op) r) (ha:PE X a ta) (hb:PE X b tb):PE X (.BinOp a op b pos) (Rr r ta tb):=by
 intro pins s σ H Q I h
 exact wpAny_BinOp (Pm ha hb I h fun v u s2 x y H2 I2 rx ry q=>ho pins s2 σ H2 x y v u Q I2 rx ry q)
theorem xb {op:UnaryOp} {r:V→Hp→VK→Prop} (ho:WQ X (unaryOp op) r) (ha:PE X a ta):PE X (.UnaryOp op a pos) (tUn r ta):=by
 intro pins s σ H Q I h
 exact UnaryOp_ (bV (ha pins s σ H _ I h) fun v s1 ⟨x,H1,I1,r1,q1⟩=>ho pins s1 σ H1 x v Q I1 r1 q1)
theorem Ve {f:Value→Value→Sem Value} {C:Int→Int→Prop} {g:Int→Int→Int}
  (rule:∀ (i j:Int) (t u:Tok) (s:Shared) (Q:Value→Shared→Prop) (E:Value→Shared→Prop),C i j→Q (.int (g i j) s.toks) { s with toks:=s.toks+1 }→wpAny (model X.prog X.w) X.A (f (.int i t) (.int j u)) Q E s) :
  ot X f (rI C fun i j=>.int (g i j)):=by
 intro pins s σ H x y v u Q I rx ry h
 obtain ⟨i,j,rfl,rfl,hc,q⟩:=h
 obtain ⟨t,rfl⟩:=rx
 obtain ⟨t',rfl⟩:=ry
 exact rule i j t t' s _ _ hc ⟨.int (g i j),H,I.tok _,⟨_,rfl⟩,q⟩
theorem Sk {f:Value→Value→Sem Value} {g:Int→Int→Int}
  (rule:∀ (i j:Int) (t u:Tok) (s:Shared) (Q:Value→Shared→Prop) (E:Value→Shared→Prop),Q (.int (g i j) s.toks) { s with toks:=s.toks+1 }→wpAny (model X.prog X.w) X.A (f (.int i t) (.int j u)) Q E s) :
  ot X f (MA fun i j=>.int (g i j)):=by
 intro pins s σ H x y v u Q I rx ry h
 obtain ⟨i,j,rfl,rfl,q⟩:=h
 obtain ⟨t,rfl⟩:=rx
 obtain ⟨t',rfl⟩:=ry
 exact rule i j t t' s _ _ ⟨.int (g i j),H,I.tok _,⟨_,rfl⟩,q⟩
theorem MU {f:Value→Value→Sem Value} {g:Int→Int→Bool}
  (rule:∀ (i j:Int) (t u:Tok) (s:Shared) (Q:Value→Shared→Prop) (E:Value→Shared→Prop),Q (.bool (g i j)) s→wpAny (model X.prog X.w) X.A (f (.int i t) (.int j u)) Q E s) :
  ot X f (MA fun i j=>.bl (g i j)):=by
 intro pins s σ H x y v u Q I rx ry h
 obtain ⟨i,j,rfl,rfl,q⟩:=h
 obtain ⟨t,rfl⟩:=rx
 obtain ⟨t',rfl⟩:=ry
 exact rule i j t t' s _ _ ⟨.bl (g i j),H,I,rfl,q⟩
def WS (i j:Int):Prop:=0 < j∧j < 1073741824
def WT (i j:Int):Prop:=0≤j∧j≤1000000∧i.natAbs < 2 ^ 64
def Pn (i j:Int):Prop:=(-(2 ^ 64) < i∧i < 2 ^ 64)∨(-(2 ^ 64) < j∧j < 2 ^ 64)
theorem Pn.ok {i j:Int} (h:Pn i j):IntMulOk i j:=by
 rcases h with ⟨h1,h2⟩ | ⟨h1,h2⟩
 ·exact .of_left (intBits_le_64 h1 h2)
 ·exact .of_right (intBits_le_64 h1 h2)
theorem bj:ot X (binaryOp .Add) (MA fun i j=>.int (i+j)):=Sk fun _ _ _ _ _ _ _ q=>add_int q
theorem dc:ot X (binaryOp .Sub) (MA fun i j=>.int (i - j)):=Sk fun _ _ _ _ _ _ _ q=>sub_int q
theorem ff:ot X (binaryOp .Mult) (rI Pn fun i j=>.int (i * j)):=Ve fun _ _ _ _ _ _ _ hc q=>mul_int q hc.ok
theorem jN:ot X (binaryOp .FloorDiv) (rI WS fun i j=>.int (i / j)):=Ve fun i j _ _ _ _ _ hc q=>by
 have h1:(0:Int) < j:=hc.1
 have h2:j < 1073741824:=hc.2
 exact floordiv_int (by omega) (by rw [Int.fdiv_eq_ediv_of_nonneg i (by omega)];exact q) (.inl (PyProof.noPylong_small (by omega)))
theorem az:ot X (binaryOp .Mod) (rI (fun _ j=>0 < j) fun i j=>.int (i % j)):=Ve fun i j _ _ _ _ _ hc q=>by
 have h1:(0:Int) < j:=hc
 exact mod_int' (by omega) (by rw [Int.fmod_eq_emod_of_nonneg i (by omega)];exact q)
theorem Po:ot X (binaryOp .Pow) (rI WT fun i j=>.int (i ^ j.toNat)):=Ve fun _ _ _ _ _ _ _ hc q=>pow_int_small hc.1 hc.2.1 hc.2.2 q
theorem unI {f:Value→Sem Value} {g:Int→Int}
  (rule:∀ (i:Int) (t:Tok) (s:Shared) (Q:Value→Shared→Prop) (E:Value→Shared→Prop),Q (.int (g i) s.toks) { s with toks:=s.toks+1 }→wpAny (model X.prog X.w) X.A (f (.int i t)) Q E s) :
  WQ X f (rU fun i=>.int (g i)):=by
 intro pins s σ H x v Q I rx h
 obtain ⟨i,rfl,q⟩:=h
 obtain ⟨t,rfl⟩:=rx
 exact rule i t s _ _ ⟨.int (g i),H,I.tok _,⟨_,rfl⟩,q⟩
theorem r9:WQ X (unaryOp .USub) (rU fun i=>.int (-i)):=unI fun _ _ _ _ _ q=>neg_int q
end
def Sn:V→V→Bool
 | .bH,.bH=>true | .bH,.int _=>true | .int _,.bH=>true | .bH,.bl _=>true | .bl _,.bH=>true | .bH,.str _=>true | .str _,.bH=>true
 | .int _,.int _=>true | .bl _,.bl _=>true | .str _,.str _=>true | .GC _,.GC _=>true
 | .int _,.str _=>true | .str _,.int _=>true | .bl _,.str _=>true | .str _,.bl _=>true
 | _,_=>false
def rEq:R2:=fun x y H Q=>Sn x y=true∧Q (.bl (decide (x=y))) H
def WU:R2:=fun x y H Q=>Sn x y=true∧Q (.bl (!decide (x=y))) H
theorem GL {i j:Int}:decide (V.int i=V.int j)=(i == j):=by
 rw [Bool.eq_iff_iff]
 simp
theorem Jg {i j:Bool}:decide (V.bl i=V.bl j)=(i == j):=by
 rw [Bool.eq_iff_iff]
 simp
theorem GN {i j:Str}:decide (V.str i=V.str j)=(i == j):=by
 rw [Bool.eq_iff_iff]
 simp
theorem GO {i j:Array UInt8}:decide (V.GC i=V.GC j)=(i.toList == j.toList):=by
 rw [Bool.eq_iff_iff]
 cases i
 cases j
 simp
section
variable {X:Cx} {a b c:Expr} {ta tb tc:TE} {pos:Pos}
theorem bC {pins:List (Addr × Obj)} {σ:St} {H:Hp} {s:Shared} {Q:VK} {k k':Bool} (I:Inv X pins σ H s) (q:Q (.bl k) H) (e:k=k'):EP X pins σ Q (.bool k') s:=by
 subst e
 exact ⟨.bl k,H,I,rfl,q⟩
theorem mH:ot X (compareOp .Eq) rEq:=by
 intro pins s σ H x y v u Q I rx ry h
 obtain ⟨hs,q⟩:=h
 cases x with
 | bH =>
  cases rx
  cases y with
  | bH=>cases ry;exact PySem.EqNone.eq_none_none (bC I q (by simp))
  | bl j=>cases ry;exact PySem.EqNone.eq_none_bool (bC I q (by simp))
  | int j=>obtain ⟨t',rfl⟩:=ry;exact PySem.EqNone.eq_none_int (bC I q (by simp))
  | str j=>obtain ⟨t',rfl⟩:=ry;exact PySem.EqNone.eq_none_str (bC I q (by simp))
  | _=>exact absurd (show false=true from hs) Bool.false_ne_true
 | bl i =>
  cases rx
  cases y with
  | bH=>cases ry;exact PySem.EqNone.eq_bool_none (bC I q (by simp))
  | bl j=>cases ry;exact eq_bool (bC I q Jg)
  | str j=>obtain ⟨t',rfl⟩:=ry;exact PySem.EqMixed.eq_bool_str (bC I q (by simp))
  | _=>exact absurd (show false=true from hs) Bool.false_ne_true
 | int i =>
  obtain ⟨t,rfl⟩:=rx
  cases y with
  | bH=>cases ry;exact PySem.EqNone.eq_int_none (bC I q (by simp))
  | int j=>obtain ⟨t',rfl⟩:=ry;exact eq_int (bC I q GL)
  | str j=>obtain ⟨t',rfl⟩:=ry;exact PySem.EqMixed.eq_int_str (bC I q (by simp))
  | _=>exact absurd (show false=true from hs) Bool.false_ne_true
 | str i =>
  obtain ⟨t,rfl⟩:=rx
  cases y with
  | bH=>cases ry;exact PySem.EqNone.eq_str_none (bC I q (by simp))
  | bl j=>cases ry;exact PySem.EqMixed.eq_str_bool (bC I q (by simp))
  | int j=>obtain ⟨t',rfl⟩:=ry;exact PySem.EqMixed.eq_str_int (bC I q (by simp))
  | str j=>obtain ⟨t',rfl⟩:=ry;exact eq_str (bC I q GN)
  | _=>exact absurd (show false=true from hs) Bool.false_ne_true
 | GC i =>
  obtain ⟨t,rfl⟩:=rx
  cases y with
  | GC j=>obtain ⟨t',rfl⟩:=ry;exact PySem.W.eq_bytes (bC I q GO)
  | _=>exact absurd (show false=true from hs) Bool.false_ne_true
 | _=>cases y <;> exact absurd (show false=true from hs) Bool.false_ne_true
theorem uH:ot X (compareOp .NotEq) WU:=by
 intro pins s σ H x y v u Q I rx ry h
 obtain ⟨hs,q⟩:=h
 cases x with
 | bH =>
  cases rx
  cases y with
  | bH=>cases ry;exact PySem.EqNone.ne_none_none (bC I q (by simp))
  | bl j=>cases ry;exact PySem.EqNone.ne_none_bool (bC I q (by simp))
  | int j=>obtain ⟨t',rfl⟩:=ry;exact PySem.EqNone.ne_none_int (bC I q (by simp))
  | str j=>obtain ⟨t',rfl⟩:=ry;exact PySem.EqNone.ne_none_str (bC I q (by simp))
  | _=>exact absurd (show false=true from hs) Bool.false_ne_true
 | bl i =>
  cases rx
  cases y with
  | bH=>cases ry;exact PySem.EqNone.ne_bool_none (bC I q (by simp))
  | bl j=>cases ry;exact ne_bool (bC I q (congrArg not Jg))
  | str j=>obtain ⟨t',rfl⟩:=ry;exact PySem.EqMixed.ne_bool_str (bC I q (by simp))
  | _=>exact absurd (show false=true from hs) Bool.false_ne_true
 | int i =>
  obtain ⟨t,rfl⟩:=rx
  cases y with
  | bH=>cases ry;exact PySem.EqNone.ne_int_none (bC I q (by simp))
  | int j=>obtain ⟨t',rfl⟩:=ry;exact ne_int (bC I q (congrArg not GL))
  | str j=>obtain ⟨t',rfl⟩:=ry;exact PySem.EqMixed.ne_int_str (bC I q (by simp))
  | _=>exact absurd (show false=true from hs) Bool.false_ne_true
 | str i =>
  obtain ⟨t,rfl⟩:=rx
  cases y with
  | bH=>cases ry;exact PySem.EqNone.ne_str_none (bC I q (by simp))
  | bl j=>cases ry;exact PySem.EqMixed.ne_str_bool (bC I q (by simp))
  | int j=>obtain ⟨t',rfl⟩:=ry;exact PySem.EqMixed.ne_str_int (bC I q (by simp))
  | str j=>obtain ⟨t',rfl⟩:=ry;exact ne_str (bC I q (congrArg not GN))
  | _=>exact absurd (show false=true from hs) Bool.false_ne_true
 | GC i =>
  obtain ⟨t,rfl⟩:=rx
  cases y with
  | GC j=>obtain ⟨t',rfl⟩:=ry;exact PySem.W.ne_bytes (bC I q (congrArg not GO))
  | _=>exact absurd (show false=true from hs) Bool.false_ne_true
 | _=>cases y <;> exact absurd (show false=true from hs) Bool.false_ne_true
theorem AU:ot X (compareOp .Lt) (MA fun i j=>.bl (decide (i < j))):=MU fun _ _ _ _ _ _ _ q=>lt_int q
theorem uI:ot X (compareOp .LtE) (MA fun i j=>.bl (decide (i≤j))):=MU fun _ _ _ _ _ _ _ q=>le_int q
theorem GP:ot X (compareOp .Gt) (MA fun i j=>.bl (decide (j < i))):=MU fun _ _ _ _ _ _ _ q=>gt_int q
theorem Oc:ot X (compareOp .GtE) (MA fun i j=>.bl (decide (j≤i))):=MU fun _ _ _ _ _ _ _ q=>ge_int q
theorem A4:ot X (compareOp .Is) (fun x y H Q=>y=.bH∧Q (.bl (decide (x=.bH))) H):=by
 intro pins s σ H x y v u Q I rx ry h
 obtain ⟨rfl,q⟩:=h
 cases ry
 refine is_none_gen (bC I q ?_)
 cases x <;> first
  | (cases rx;rfl)
  | (obtain ⟨t,rfl⟩:=rx;rfl)
theorem qr:ot X (compareOp .IsNot) (fun x y H Q=>y=.bH∧Q (.bl (!decide (x=.bH))) H):=by
 intro pins s σ H x y v u Q I rx ry h
 obtain ⟨rfl,q⟩:=h
 cases ry
 refine isnot_none_gen (bC I q ?_)
 cases x <;> first
  | (cases rx;rfl)
  | (obtain ⟨t,rfl⟩:=rx;rfl)
theorem aa (b:Expr) {op:CmpOp} (h:op≠.In:=by decide) (h2:op≠.NotIn:=by decide):behindInMarks op b=false:=by
 have e1:(op == CmpOp.In)=false:=by cases op <;> first | rfl | exact absurd rfl h
 have e2:(op == CmpOp.NotIn)=false:=by cases op <;> first | rfl | exact absurd rfl h2
 cases b <;> simp [behindInMarks,e1,e2]
theorem qs {op:CmpOp} {r:R2} (ho:ot X (compareOp op) r) (ha:PE X a ta) (hb:PE X b tb) (hm:behindInMarks op b=false):PE X (.Compare a [op] [b] pos) (Rr r ta tb):=by
 intro pins s σ H Q I h
 exact wpAny_Compare1 (Pm ha hb I h fun v u s2 x y H2 I2 rx ry q=>ho pins s2 σ H2 x y v u Q I2 rx ry q) hm
def GQ (t:TE):TT:=fun σ H Q=>t σ H fun x H'=>∃ k,x=.bl k∧Q k H'
theorem aV {op:CmpOp} {r:R2} (ho:ot X (compareOp op) r) (ha:PE X a ta) (hb:PE X b tb) (hm:behindInMarks op b=false):PT X (.Compare a [op] [b] pos) (GQ (Rr r ta tb)):=by
 intro pins s σ H Q I h
 refine wpAny_isTrue_Compare1 (bV (ha pins s σ H _ I h) fun v s1 ⟨x,H1,I1,r1,q1⟩=>bV (hb pins s1 σ H1 _ I1 q1) fun u s2 ⟨y,H2,I2,r2,q2⟩ =>
  bV (ho pins s2 σ H2 x y v u _ I2 r1 r2 q2) fun c s3 ⟨z,H3,I3,r3,k,e,q3⟩=>?_) hm
 subst e
 cases r3
 exact wpAny_truthy_bool ⟨H3,I3,q3⟩
def Jh (r r':R2) (ta tb tc:TE):TE:=fun σ H Q=>ta σ H fun x H1=>tb σ H1 fun y H2=>r x y H2 fun z H3=>∃ k,z=.bl k ∧
 (if k=true then tc σ H3 fun w' H4=>r' y w' H4 Q else Q (.bl false) H3)
theorem Ji {op Pp:CmpOp} {r r':R2} (ho:ot X (compareOp op) r) (JX:ot X (compareOp Pp) r') (ha:PE X a ta) (hb:PE X b tb) (hc:PE X c tc)
  (hm:lastMarks [op,Pp] [b,c]=false:=by with_unfolding_all rfl):PE X (.Compare a [op,Pp] [b,c] pos) (Jh r r' ta tb tc):=by
 intro pins s σ H Q I h
 refine Compare_chain (bV (ha pins s σ H _ I h) fun v s1 ⟨x,H1,I1,r1,q1⟩=>chain_link (bV (hb pins s1 σ H1 _ I1 q1) fun u s2 ⟨y,H2,I2,r2,q2⟩ =>
  bV (ho pins s2 σ H2 x y v u _ I2 r1 r2 q2) fun d s3 ⟨z,H3,I3,r3,k,e,q3⟩=>?_)) hm
 subst e
 cases r3
 refine wpAny_truthy_bool ?_
 cases k with
 | false=>exact ite_ff ⟨.bl false,H3,I3,rfl,q3⟩
 | true=>exact ite_tt (chain_last (bV (hc pins s3 σ H3 _ I3 q3) fun w' s4 ⟨z',H4,I4,r4,q4⟩=>JX pins s4 σ H4 y z' u w' Q I4 r2 r4 q4))
theorem uJ {op Pp:CmpOp} {r r':R2} (ho:ot X (compareOp op) r) (JX:ot X (compareOp Pp) r') (ha:PE X a ta) (hb:PE X b tb) (hc:PE X c tc)
  (hm:lastMarks [op,Pp] [b,c]=false:=by with_unfolding_all rfl):PT X (.Compare a [op,Pp] [b,c] pos) (GQ (Jh r r' ta tb tc)):=by
 intro pins s σ H Q I h
 refine isTrue_chain (bV (ha pins s σ H _ I h) fun v s1 ⟨x,H1,I1,r1,q1⟩=>test_link (bV (hb pins s1 σ H1 _ I1 q1) fun u s2 ⟨y,H2,I2,r2,q2⟩ =>
  bV (ho pins s2 σ H2 x y v u _ I2 r1 r2 q2) fun d s3 ⟨z,H3,I3,r3,k,e,q3⟩=>?_)) hm
 subst e
 cases r3
 refine wpAny_truthy_bool ?_
 cases k with
 | false =>
  obtain ⟨k',e',q'⟩:=q3
  cases e'
  exact ite_ff ⟨H3,I3,q'⟩
 | true =>
  refine ite_tt (test_last (bV (hc pins s3 σ H3 _ I3 q3) fun w' s4 ⟨z',H4,I4,r4,q4⟩=>bV (JX pins s4 σ H4 y z' u w' _ I4 r2 r4 q4) fun d' s5 ⟨z2,H5,I5,r5,k2,e2,q5⟩=>?_))
  subst e2
  cases r5
  exact wpAny_truthy_bool ⟨H5,I5,q5⟩
def So (K:PySem.W.Frag) (x:V) (H:Hp) (k:Bool):Prop :=
 match x with
 | .bH=>k=false
 | .bl b=>k=b
 | .int i=>k=(i != 0)
 | .str y=>y.length≤sizeLine∧k=((y.length:Int) != 0)
 | .GC y=>y.size≤sizeLine∧k=((y.size:Int) != 0)
 | .ref p=>(∃ xs,aT K H p xs∧k=!xs.isEmpty)∨(∃ xs,jZ K H p xs∧k=!xs.isEmpty)∨∃ mG,H p=some (.dK mG)∧k=!mG.isEmpty
 | _=>False
theorem Dz {κ:Type} {mG:List (κ × V)} {vs:List (κ × Value)} (r:KV mG vs):(!vs.isEmpty)=!mG.isEmpty:=by
 cases r <;> rfl
theorem xc {xs:List V} {aq:List Value} (r:av xs aq):(!aq.toArray.isEmpty)=!xs.isEmpty:=by
 cases r <;> simp
theorem xf:(sizeLine:Nat) < 2 ^ 63:=by rw [sizeLine_eq];decide
theorem Pq:WR X (fun x H Q=>∃ k,So X.K x H k∧Q k H):=by
 intro pins s σ H x v Q I rx h
 obtain ⟨k,e,q⟩:=h
 have hl:=xf
 have hs:sizeLine=16777216:=sizeLine_eq
 cases x with
 | bH =>
  cases rx
  have e':k=false:=e
  subst e'
  exact truthy_none ⟨H,I,q⟩
 | bl b =>
  cases rx
  have e':k=b:=e
  subst e'
  exact wpAny_truthy_bool ⟨H,I,q⟩
 | int i =>
  obtain ⟨t,rfl⟩:=rx
  have e':k=(i != 0):=e
  subst e'
  exact PySem.P.truthy_int ⟨H,I,q⟩
 | str y =>
  obtain ⟨t,rfl⟩:=rx
  obtain ⟨hy,e'⟩:y.length≤sizeLine∧k=((y.length:Int) != 0):=e
  subst e'
  exact PySem.P.truthy_str (by omega) ⟨H,I.tok _,q⟩
 | GC y =>
  obtain ⟨t,rfl⟩:=rx
  obtain ⟨hy,e'⟩:y.size≤sizeLine∧k=((y.size:Int) != 0):=e
  subst e'
  exact PySem.W.truthy_bytes (by omega) ⟨H,I.tok _,q⟩
 | ref p =>
  cases rx
  have e':(∃ xs,aT X.K H p xs∧k=!xs.isEmpty)∨(∃ xs,jZ X.K H p xs∧k=!xs.isEmpty)∨∃ mG,H p=some (.dK mG)∧k=!mG.isEmpty:=e
  rcases e' with ⟨xs,hx,e'⟩ | ⟨xs,hx,e'⟩ | ⟨mG,hx,e'⟩
  ·subst e'
   obtain ⟨aq,r,pl,hz⟩:=I.list hx
   have hlen:=r.length
   exact wpAny_truthy_list pl.isList (by simp only [List.size_toArray];omega) ⟨H,I.tok _,by rw [xc r];exact q⟩
  ·subst e'
   obtain ⟨aq,r,pl,hz⟩:=I.tuple hx
   have hlen:=r.length
   exact truthy_tuple pl (by simp only [List.size_toArray];omega) ⟨H,I.tok _,by rw [xc r];exact q⟩
  ·subst e'
   obtain ⟨hz,hS,vs,r,m⟩:mG.length≤sizeLine∧(p == sysModules)=false∧∃ vs,KV mG vs∧s.heap.DictOf (Az X.prog X.w) p vs:=I.bh p _ hx
   have hlen:mG.length=vs.length:=Paired.length r
   exact wpAny_truthy_dict hS m (by omega) ⟨H,I.tok _,by rw [Dz r];exact q⟩
 | _=>exact (show False from e).elim
theorem uK (ha:PE X a ta) (he:∀ whole,isTrue a X.env whole=(do let v ← whole;standAt a.pos;holding [v] (truthy v))) :
  PT X a (fun σ H Q=>ta σ H fun x H'=>∃ k,So X.K x H' k∧Q k H'):=by
 intro pins s σ H Q I h
 exact isTrue_plain (bV (ha pins s σ H _ I h) fun v s1 ⟨x,H1,I1,r1,q1⟩=>Pq pins s1 σ H1 x v Q I1 r1 q1) (he _)
theorem vals1 {x:V} {us:List Value} (r:av [x] us):∃ u,us=[u]∧RelV x u:=by
 cases r with
 | cons r1 r2=>cases r2;exact ⟨_,rfl,r1⟩
theorem vals2 {x y:V} {us:List Value} (r:av [x,y] us):∃ u w',us=[u,w']∧RelV x u∧RelV y w':=by
 cases r with
 | cons r1 r2 =>
  cases r2 with
  | cons r3 r4=>cases r4;exact ⟨_,_,rfl,r1,r3⟩
theorem Ha (hc:X.calm=true):uG X (.builtin "min") (fun xs H Q=>∃ i j,xs=[.int i,.int j]∧Q (.int (if j < i then j else i)) H):=by
 intro pins s σ H xs us Q I r h
 obtain ⟨i,j,rfl,q⟩:=h
 obtain ⟨u,w',rfl,⟨t,rfl⟩,⟨t',rfl⟩⟩:=vals2 r
 refine min_two_ints (I.ok.hd hc) fun h' tk k=>⟨_,H,I.kept k,?_,q⟩
 by_cases hj:j < i
 ·rw [if_pos hj,if_pos hj];exact ⟨_,rfl⟩
 ·rw [if_neg hj,if_neg hj];exact ⟨_,rfl⟩
theorem Hb:uG X (.type "int") (fun xs H Q=>(∃ i,xs=[.int i]∧Q (.int i) H)∨∃ k,xs=[.bl k]∧Q (.int (if k then 1 else 0)) H):=by
 intro pins s σ H xs us Q I r h
 rcases h with ⟨i,rfl,q⟩ | ⟨k,rfl,q⟩
 ·obtain ⟨u,rfl,t,rfl⟩:=vals1 r
  exact call_int_int ⟨.int i,H,I,⟨_,rfl⟩,q⟩
 ·obtain ⟨u,rfl,r1⟩:=vals1 r
  cases r1
  exact call_int_bool ⟨.int (if k then 1 else 0),H,I.tok _,⟨_,rfl⟩,q⟩
end
end L2
namespace L2
open PySem PySem.Spec PyProof.Rows
structure D0 (h:Heap) (x dx C:Addr) (mA:Str→Option Value):Prop where
 obj:h.get? x=some (PySem.W.instObj C dx)
 ns:h.Ns1 dx mA
 ne:dx≠x
theorem Hc {h:Heap} {dx:Addr} {mA:Str→Option Value} (n:h.Ns1 dx mA):∃ od,h.get? dx=some od∧∀ name,PySem.W.lookIn name od=some (mA name):=by
 obtain ⟨o,es,ep,ho,hd,hk,_,hm⟩:=n
 refine ⟨o,ho,fun name=>?_⟩
 have e:=hm name
 unfold nsFind findBy at e
 rw [← Array.find?_toList] at e
 unfold PySem.W.lookIn
 rw [hd]
 dsimp only
 split
 ·rename_i y q
  rw [q] at e
  exact congrArg some e
 ·rename_i q
  rw [q] at e
  have a:es.toList.any (·.refKey)=false:=by
   rw [List.any_eq_false]
   intro y hy
   obtain ⟨z,t,WV⟩:=hk y (Array.mem_toList_iff.mp hy)
   simp [DictEntry.refKey,WV]
  have a':¬ es.toList.any (·.refKey)=true:=by rw [a];exact Bool.false_ne_true
  rw [if_neg a']
  exact congrArg some e
theorem D0.look {h:Heap} {x dx C:Addr} {mA:Str→Option Value} (I:D0 h x dx C mA):∃ od,PySem.W.InstAt h x (PySem.W.instObj C dx) C (some od)∧∀ name,PySem.W.lookIn name od=some (mA name) :=
 let ⟨od,ho,hl⟩:=Hc I.ns
 ⟨od,⟨I.obj,rfl,rfl,ho⟩,hl⟩
section
variable {prog:Program} {w:World} {A:Around} {E:Value→Shared→Prop} {s:Shared} {K:PySem.W.Frag} {x dx C f:Addr} {mA:Str→Option Value} {name:Str} {v:Value}
theorem get_map {expr:Bool} {Q:Value→Shared→Prop} (X:K.In s.heap) (I:D0 s.heap x dx C mA) (hg:PySem.W.plainGet K C name=true) (hh:PySem.W.hasDictIn K C=true)
  (ha:PySem.W.findIn K (.ref C) name=some none) (hv:mA name=some v) (WW:PySem.W.handedIn v=true) (h:Q v { s with toks:=s.toks+1 }) :
  wpAny (model prog w) A (getAttr (.ref x) name expr) Q E s:=by
 obtain ⟨od,J,hl⟩:=I.look
 exact PySem.W.get_value X J (PySem.W.plainGet_of hg).1 (PySem.W.findObj_own hh ha rfl (by rw [hl,hv])) WW h
theorem Jj {pl:Sem Bool} {Q:Value × List Value→Shared→Prop} (X:K.In s.heap) (I:D0 s.heap x dx C mA) (hg:PySem.W.plainGet K C name=true)
  (hf:PySem.W.findIn K (.ref C) name=some (some (.ref f))) (ht:PySem.W.isFn K (.ref f)=true) (hv:mA name=none) (h:Q (.ref f,[.ref x]) s) :
  wpAny (model prog w) A (getMethod (.ref x) name pl) Q E s:=by
 obtain ⟨od,J,hl⟩:=I.look
 exact PySem.W.method_fn X J (PySem.W.plainGet_of hg).1 (PySem.W.plainGet_of hg).2 hf (beq_iff_eq.mp ht) (by show (PySem.W.lookIn name od).map (·.isSome)=some false;rw [hl,hv];rfl) h
theorem MV {ns:List Str} {Q:Unit→Shared→Prop} (X:K.In s.heap) (I:D0 s.heap x dx C mA)
  (hs:PySem.W.findIn K (.ref C) "__setattr__"=some (some (.builtin "object.__setattr__"))) (hp:PySem.W.plainOver K C=true) (ht:PySem.W.takerIn K C name=some none) (hh:PySem.W.hasDictIn K C=true)
  (hw:PySem.Within mA ns) (qt:ns.length≤sizeLine)
  (h:∀ h',D0 h' x dx C (fun y=>if y=name then some v else mA y)→Heap.SameBut dx s.heap h'→Q () { s with heap:=h',toks:=s.toks+2 }) :
  wpAny (model prog w) A (setAttr (.ref x) name v) Q E s:=by
 obtain ⟨od,J,hl⟩:=I.look
 refine PySem.W.set_plain X J hs (PySem.W.osa_open (s:={ s with toks:=s.toks+1 }) (r:=none) X J hp ht fun b=>?_)
 obtain ⟨cd,hc,WE⟩:=PySem.W.any_some hh
 have hx:s.heap.get? x=some ⟨.ref C,some dx,.plain,#[]⟩:=I.obj
 refine wpAny_bind (wpAny_pure (wpAny_bind (wpAny_bind (wpAny_loadPart hx (wpAny_bind (PySem.W.Looks.here (s:={ s with toks:=s.toks+1 }) (PySem.W.looks_clsIn X hc) ?_))))))
 rw [WE]
 refine wpAny_pure (a:=some dx) (wpAny_bind (wpAny_pure (wpAny_bind ?_)))
 refine wpAny_nsSet1 (s:={ s with toks:=s.toks+1 }) I.ns fun h' Vf HY=>?_
 obtain ⟨oD,esD,epD,hoD,hdD,hcD⟩:=Vf.count (PySem.Within.cons name v hw)
 refine wpAny_bind (wpAny_lookBehind hoD (by rw [hdD];exact pastItsLine_dict (Nat.le_trans hcD (by rw [List.length_cons];omega))) ?_)
 exact wpAny_pure (h _ ⟨(HY.2 _ (Ne.symm I.ne)).trans I.obj,Vf,I.ne⟩ HY)
theorem Jk {R:Result→Shared→Prop} {vs:List Value} {kw:List (Str × Value)} (X:K.In s.heap) (hm:PySem.W.makesIn K C=true)
  (hi:PySem.W.findIn K (.ref C) "__init__"=some (some (.ref f))) (hf:PySem.W.typeIn K (.ref f)=some (.type "function"))
  (h:codeAny (model prog w) (A.under (.builtin "type.__call__" ⟨.ref C :: vs,kw⟩)) (.call (.ref f) ⟨.ref (s.heap.objs.size+1) :: vs,kw⟩) (PySem.W.InitBack (s.heap.objs.size+1) R)
   { s with heap:=(s.heap.push PySem.W.emptyDict).push (PySem.W.instObj C s.heap.objs.size) }) :
  codeAny (model prog w) A (.call (.ref C) ⟨vs,kw⟩) R s:=by
 obtain ⟨hh,g,d,t,os⟩:=s
 exact PySem.W.make_core (PySem.W.makes_of X hm) (PySem.W.looks_findIn X hi) (fun self=>PySem.W.bind_fn X self hf) (.inl rfl) h
end
def fg (f:Str) (v:V):List (Str × V)→List (Str × V)
 | []=>[(f,v)]
 | (g,x) :: r=>if g=f then (g,v) :: r else (g,x) :: fg f v r
theorem wV (f g:Str) (v:V):∀ fs:List (Str × V),(fg f v fs).lookup g=if g=f then some v else fs.lookup g
 | []=>by
  show List.lookup g [(f,v)]=_
  by_cases h:g=f
  ·have hb:(g == f)=true:=beq_iff_eq.mpr h
   simp only [List.lookup,hb,if_pos h]
  ·have hb:(g == f)=false:=beq_eq_false_iff_ne.mpr h
   simp only [List.lookup,hb,if_neg h]
 | (k,x) :: r=>by
  have ih:=wV f g v r
  rw [show fg f v ((k,x) :: r)=(if k=f then (k,v) :: r else (k,x) :: fg f v r) from rfl]
  by_cases hk:k=f
  ·rw [if_pos hk]
   by_cases h:g=k
   ·have hb:(g == k)=true:=beq_iff_eq.mpr h
    simp only [List.lookup,hb,if_pos (h.trans hk)]
   ·have hb:(g == k)=false:=beq_eq_false_iff_ne.mpr h
    simp only [List.lookup,hb,if_neg (fun e:g=f=>h (e.trans hk.symm))]
  ·rw [if_neg hk]
   by_cases h:g=k
   ·have hb:(g == k)=true:=beq_iff_eq.mpr h
    simp only [List.lookup,hb,if_neg (fun e:g=f=>hk (h.symm.trans e))]
   ·have hb:(g == k)=false:=beq_eq_false_iff_ne.mpr h
    simp only [List.lookup,hb]
    exact ih
theorem vD (f:Str) (v:V):∀ fs:List (Str × V),f ∈ (fg f v fs).map (·.1)∧∀ g,g ∈ fs.map (·.1)→g ∈ (fg f v fs).map (·.1)
 | []=>⟨by simp [fg],fun g h=>by simp at h⟩
 | (k,x) :: r=>by
  obtain ⟨i1,i2⟩:=vD f v r
  rw [show fg f v ((k,x) :: r)=(if k=f then (k,v) :: r else (k,x) :: fg f v r) from rfl]
  by_cases hk:k=f
  ·rw [if_pos hk]
   subst hk
   exact ⟨by simp,fun g h=>by simpa using h⟩
  ·rw [if_neg hk]
   refine ⟨?_,fun g h=>?_⟩
   ·rw [List.map_cons]
    exact List.mem_cons_of_mem _ i1
   ·rw [List.map_cons] at h ⊢
    rcases List.mem_cons.mp h with e | e
    ·exact List.mem_cons.mpr (.inl e)
    ·exact List.mem_cons_of_mem _ (i2 g e)
theorem wW (f:Str) (v:V):∀ fs:List (Str × V),(fg f v fs).length≤fs.length+1
 | []=>by simp [fg]
 | (k,x) :: r=>by
  have ih:=wW f v r
  rw [show fg f v ((k,x) :: r)=(if k=f then (k,v) :: r else (k,x) :: fg f v r) from rfl]
  by_cases hk:k=f
  ·rw [if_pos hk,List.length_cons,List.length_cons];omega
  ·rw [if_neg hk,List.length_cons,List.length_cons];omega
theorem zI.some_of {v:V} {o:Option Value} (r:zI (some v) o):∃ u,o=some u∧RelV v u:=by
 cases o with
 | none=>exact (show False from r).elim
 | some u=>exact ⟨u,rfl,r⟩
theorem zI.none_of {o:Option Value} (r:zI none o):o=none:=by
 cases o with
 | none=>rfl
 | some u=>exact (show False from r).elim
theorem Hd {v:V} {u:Value} (r:RelV v u):PySem.W.handedIn u=true:=by
 cases v with
 | bH=>cases (show u=Value.none from r);rfl
 | bl b=>cases (show u=Value.bool b from r);rfl
 | int i=>obtain ⟨t,e⟩:=(show ∃ t,u=Value.int i t from r);cases e;rfl
 | str x=>obtain ⟨t,e⟩:=(show ∃ t,u=Value.str x t from r);cases e;rfl
 | GC b=>obtain ⟨t,e⟩:=(show ∃ t,u=Value.bytes b t from r);cases e;rfl
 | Pc b=>obtain ⟨t,e⟩:=(show ∃ t,u=Value.float b t from r);cases e;rfl
 | ref a=>cases (show u=Value.ref a from r);rfl
 | ty n=>cases (show u=Value.type n from r);rfl
section
variable {P:Program} {w:World} {H H':Hp} {h h':Heap} {a C dx:Addr} {fs OV:List (Str × V)}
theorem xI (bh:u5 P w H h) (e:H a=some (.ins C dx fs)):∃ mA,D0 h a dx C mA∧(∀ f,zI (fs.lookup f) (mA f))∧PySem.Within mA (fs.map (·.1))∧fs.length≤1000∧H dx=some (.own a):=by
 obtain ⟨d,z,ne,ob,mA,n,r,q⟩:=(show eM P w H h a (.ins C dx fs) from bh a _ e)
 exact ⟨mA,⟨ob,n,ne⟩,r,q,z,d⟩
end
structure He (K:PySem.W.Frag) (C:Addr):Prop where
 pg:PySem.W.plainGet K C Str.empty=true
 hd:PySem.W.hasDictIn K C=true
 po:PySem.W.plainOver K C=true
 sa:PySem.W.findIn K (.ref C) "__setattr__"=some (some (.builtin "object.__setattr__"))
theorem He.get {K:PySem.W.Frag} {C:Addr} (c:He K C) (f:Str):PySem.W.plainGet K C f=true:=c.pg
def c9 (K:PySem.W.Frag) (C:Addr) (f:Str):Prop:=PySem.W.findIn K (.ref C) f=some none
theorem c9.Sq {K:PySem.W.Frag} {C:Addr} {f:Str} (n:c9 K C f):PySem.W.takerIn K C f=some none:=by
 unfold PySem.W.takerIn
 rw [show PySem.W.findIn K (.ref C) f=some none from n]
 rfl
structure pI (K:PySem.W.Frag) (C:Addr) (m:Str) (f:Addr):Prop where
 at_:PySem.W.findIn K (.ref C) m=some (some (.ref f))
 fn:PySem.W.isFn K (.ref f)=true
 kp:PySem.W.keepIn K (.ref f)=true
section
variable {X:Cx} {pins:List (Addr × Obj)} {σ:St} {H:Hp} {s:Shared} {a C dx:Addr} {fs:List (Str × V)} {f:Str} {v:V} {A:Around} {E:Value→Shared→Prop}
theorem xg {b:Bool} {Q:Value→Shared→Prop} (I:Inv X pins σ H s) (e:H a=some (.ins C dx fs)) (c:He X.K C) (n:c9 X.K C f) (l:fs.lookup f=some v)
  (h:∀ u s',Inv X pins σ H s'→RelV v u→Q u s'):wpAny (model X.prog X.w) A (getAttr (.ref a) f b) Q E s:=by
 obtain ⟨mA,O,r,_,_,_⟩:=xI I.bh e
 obtain ⟨u,hu,ru⟩:=zI.some_of (v:=v) (o:=mA f) (by rw [← l];exact r f)
 exact get_map I.uB O (c.get f) c.hd n hu (Hd ru) (h u _ (I.tok _) ru)
theorem xh {m:Str} {g:Addr} {pl:Sem Bool} {Q:Value × List Value→Shared→Prop} (I:Inv X pins σ H s) (e:H a=some (.ins C dx fs)) (c:He X.K C) (k:pI X.K C m g) (l:fs.lookup m=none)
  (h:Q (.ref g,[.ref a]) s):wpAny (model X.prog X.w) A (getMethod (.ref a) m pl) Q E s:=by
 obtain ⟨mA,O,r,_,_,_⟩:=xI I.bh e
 have hn:mA m=none:=zI.none_of (by rw [← l];exact r m)
 exact Jj I.uB O (c.get m) k.at_ k.fn hn h
theorem xi {y:V} {u:Value} {Q:Unit→Shared→Prop} (I:Inv X pins σ H s) (e:H a=some (.ins C dx fs)) (c:He X.K C) (n:c9 X.K C f) (hl:fs.length < 1000) (ry:RelV y u)
  (h:∀ s',Inv X pins σ (upd H a (.ins C dx (fg f y fs))) s'→Q () s'):wpAny (model X.prog X.w) A (setAttr (.ref a) f u) Q E s:=by
 obtain ⟨mA,O,r,wi,_,ho⟩:=xI I.bh e
 have hz:(fs.map (·.1)).length≤sizeLine:=by rw [List.length_map,sizeLine_eq];omega
 refine MV I.uB O c.sa c.po n.Sq c.hd wi hz fun h' O' sb=>h _ ?_
 have hd:∃ o,h'.get? dx=some o:=let ⟨o,_,_,e',_⟩:=O'.ns;⟨o,e'⟩
 refine I.write (x:=a) (e:=dx) (by rw [e];exact True.intro) (.inr ho) (fun b q hb z=>(sb.2 b hb).trans z) hd ?_
 refine ⟨by rw [aE O.ne];exact ho,?_,O.ne,O'.obj,_,O'.ns,fun g=>?_,fun g hg=>?_⟩
 ·have:=wW f y fs;omega
 ·show zI ((fg f y fs).lookup g) (if g=f then some u else mA g)
  rw [wV]
  by_cases q:g=f
  ·rw [if_pos q,if_pos q];exact ry
  ·rw [if_neg q,if_neg q];exact r g
 ·by_cases q:g=f
  ·rw [q];exact (vD f y fs).1
  ·refine (vD f y fs).2 g (wi g fun z=>hg ?_)
   show (if g=f then some u else mA g)=none
   rw [if_neg q];exact z
theorem Inv.made (I:Inv X pins σ H s):Inv X pins σ (upd (upd H s.heap.objs.size (.own (s.heap.objs.size+1))) (s.heap.objs.size+1) (.ins C s.heap.objs.size []))
  { s with heap:=(s.heap.push PySem.W.emptyDict).push (PySem.W.instObj C s.heap.objs.size) }:=by
 have e1:(s.heap.push PySem.W.emptyDict).get? s.heap.objs.size=some PySem.W.emptyDict:=Heap.get?_push_size s.heap rfl
 have e2:((s.heap.push PySem.W.emptyDict).push (PySem.W.instObj C s.heap.objs.size)).get? (s.heap.objs.size+1)=some (PySem.W.instObj C s.heap.objs.size):=by
  have:=Heap.get?_push_size (s.heap.push PySem.W.emptyDict) (o:=PySem.W.instObj C s.heap.objs.size) rfl
  rwa [Heap.size_push] at this
 have e3:(s.heap.push PySem.W.emptyDict).Ns s.heap.objs.size (fun _=>none):=⟨PySem.W.emptyDict,#[],_,e1,rfl,(fun e he=>absurd he (by simp)),fun _=>rfl⟩
 have I1:=I.laid (a:=s.heap.objs.size) (o:=.own (s.heap.objs.size+1)) (h':=s.heap.push PySem.W.emptyDict) (t':=s.toks) (fun b u q=>Heap.get?_push_of_some _ q) (Nat.le_refl _) ⟨_,e1⟩
 refine I1.laid (a:=s.heap.objs.size+1) (o:=.ins C s.heap.objs.size []) (t':=s.toks) (fun b u q=>Heap.get?_push_of_some _ q) (Nat.le_of_eq (Heap.size_push _ _)) ?_
 have ne:s.heap.objs.size≠s.heap.objs.size+1:=Nat.ne_of_lt (Nat.lt_succ_self _)
 refine ⟨by rw [aE ne,aB],Nat.zero_le _,ne,e2,fun _=>none,(Heap.Ns1.of_empty e3).at fun o q=>Heap.get?_push_of_some _ q,fun _=>True.intro,fun y hy=>absurd rfl hy⟩
theorem MW {prog:Program} {w:World} {env:Env} {e:Expr} {f:Str} {pos:Pos} {s:Shared} {Q:Value→Shared→Prop} (hb:attributeBase e f env (eval e env)=eval e env)
  (h:wpAny (model prog w) A (eval e env) (fun o s₁=>wpAny (model prog w) A (getAttr o f true) Q E s₁) E s):wpAny (model prog w) A (eval (.Attribute e f pos) env) Q E s :=
 Attribute_any_ h (by rw [arm_eval_Attribute,hb])
end
def D6 (K:PySem.W.Frag) (ta:TE) (f:Str):TE:=fun σ H Q=>ta σ H fun x H1=>∃ a C dx fs v,x=.ref a∧H1 a=some (.ins C dx fs)∧He K C∧c9 K C f∧fs.lookup f=some v∧Q v H1
def Jl (K:PySem.W.Frag) (ta tv:TE) (f:Str):TS:=fun D σ H=>tv σ H fun y H1=>ta σ H1 fun x H2=>∃ a C dx fs,x=.ref a∧H2 a=some (.ins C dx fs)∧He K C∧c9 K C f∧fs.length < 1000 ∧
 D.nx σ (upd H2 a (.ins C dx (fg f y fs)))
def WX (X:Cx) (op:Operator) (rd:V→V→Hp→VK→Prop):Prop :=
 ∀ (pins:List (Addr × Obj)) (s:Shared) (σ:St) (H:Hp) (x y:V) (u v:Value) (Q:VK),Inv X pins σ H s→RelV x u→RelV y v→rd x y H Q→wpAny (model X.prog X.w) X.A (inplaceOp op u v) (EP X pins σ Q) X.xe s
def A5 (K:PySem.W.Frag) (ta tv:TE) (rd:V→V→Hp→VK→Prop) (f:Str):TS:=fun D σ H=>ta σ H fun x H1=>∃ a C dx fs v,x=.ref a∧H1 a=some (.ins C dx fs)∧He K C∧c9 K C f∧fs.lookup f=some v ∧
 tv σ H1 fun y H2=>rd v y H2 fun z H3=>∃ WY OV,H3 a=some (.ins C WY OV)∧OV.length < 1000∧D.nx σ (upd H3 a (.ins C WY (fg f z OV)))
section
variable {X:Cx} {o e value:Expr} {f:Str} {pos pos' A6:Pos} {ta tv:TE}
theorem Pr (he:PE X e ta) (hb:attributeBase e f X.env (eval e X.env)=eval e X.env):PE X (.Attribute e f pos) (D6 X.K ta f):=by
 intro pins s σ H Q I h
 refine MW hb (bV (he pins s σ H _ I h) fun u s1 ⟨x,H1,I1,rx,a,C,dx,fs,v,ex,ea,c,n,l,q⟩=>?_)
 subst ex
 obtain rfl:u=Value.ref a:=rx
 exact xg I1 ea c n l fun u' s2 I2 ru=>⟨v,H1,I2,ru,q⟩
theorem Pt (ha:PE X o ta) (hv:PE X value tv) (hs:swapsWith value (some (.Attribute o f pos')) pos.line X.env=pure false):PS X (.Assign [.Attribute o f pos'] value pos) (Jl X.K ta tv f):=by
 intro pins s σ H D I h
 refine plainObj_wpAny_Assign_Attribute (bV (hv pins s σ H _ I h) fun u s1 ⟨y,H1,I1,ry,q⟩=>bV (ha pins s1 σ H1 _ I1 q) fun ov s2 ⟨x,H2,I2,rx,a,C,dx,fs,ex,ea,c,n,l,q2⟩=>?_) hs
 subst ex
 obtain rfl:ov=Value.ref a:=rx
 exact xi I2 ea c n l ry fun s3 I3=>⟨σ,_,I3,q2⟩
theorem AV {op:Operator} {rd:V→V→Hp→VK→Prop} (ha:PE X o ta) (hv:PE X value tv) (hop:WX X op rd):PS X (.AugAssign (.Attribute o f A6) op value pos) (A5 X.K ta tv rd f):=by
 intro pins s σ H D I h
 refine wpAny_AugAssign_AttributeAny (bV (ha pins s σ H _ I h) fun ov s1 ⟨x,H1,I1,rx,a,C,dx,fs,v,ex,ea,c,n,l,q⟩=>?_)
 subst ex
 obtain rfl:ov=Value.ref a:=rx
 refine xg I1 ea c n l fun u s2 I2 ru=>bV (hv pins s2 σ H1 _ I2 q) fun w3 s3 ⟨y,H2,I3,ry,q3⟩=>bV (hop pins s3 σ H2 v y u w3 _ I3 ru ry q3) fun w4 s4 ⟨z,H3,I4,rz,WY,OV,ea',l',q4⟩=>?_
 exact xi I4 ea' c n l' rz fun s5 I5=>⟨σ,_,I5,q4⟩
end
section
variable {X:Cx} {pins:List (Addr × Obj)} {σ:St} {H:Hp} {s:Shared} {A:Around} {E:Value→Shared→Prop} {Q:Value→Shared→Prop} {c:Value} {b:Bool}
inductive vE (K:PySem.W.Frag) (H:Hp):V→Value→Prop where
 | bH:vE K H .bH (.type "NoneType")
 | bl (x:Bool):vE K H (.bl x) (.type "bool")
 | int (i:Int):vE K H (.int i) (.type "int")
 | str (x:Str):vE K H (.str x) (.type "str")
 | Pc (x:UInt64):vE K H (.Pc x) (.type "float")
 | lst {a:Addr} {xs:List V} (e:H a=some (.lst xs)):vE K H (.ref a) (.type "list")
 | Df {a:Addr} {o:Obj} {xs:List V} (e:H a=some (.Df o (.lst xs))):vE K H (.ref a) (.type "list")
 | tup {a:Addr} {xs:List V} (e:H a=some (.tup xs)):vE K H (.ref a) (.type "tuple")
 | dK {a:Addr} {mG:List (Key × V)} (e:H a=some (.dK mG)):vE K H (.ref a) (.type "dict")
 | dT {a:Addr} {mG:List (List Key × V)} (e:H a=some (.dT mG)):vE K H (.ref a) (.type "dict")
 | ins {a C dx:Addr} {fs:List (Str × V)} (e:H a=some (.ins C dx fs)) (cl:He K C) (ha:PySem.W.findIn K (.ref C) "__class__"=some (some (.builtin "object.__class__")))
   (hn:PySem.W.specialIn K (.builtin "object.__class__") "__get__"=some (some (.builtin "getset_descriptor.__get__"))) (Vg:PySem.W.takesIn K (.builtin "object.__class__")=some true)
   (hm:PySem.W.mroIn K C (.type "object")=some true):vE K H (.ref a) (.ref C)
theorem Hi {x:V} {u t:Value} (I:Inv X pins σ H s) (rx:RelV x u) (ty:vE X.K H x t) (e:PySem.W.kitOne X.K t c=some b) (h:∀ tk,Q (.bool b) { s with toks:=tk }) :
  wpAny (model X.prog X.w) A (call (.builtin "isinstance") [u,c]) Q E s:=by
 cases ty with
 | bH=>cases (show u=Value.none from rx);exact PySem.W.kia_one PySem.W.kitx_none I.uB True.intro e (fun z=>nomatch z) h
 | bl y=>cases (show u=Value.bool y from rx);exact PySem.W.kia_one PySem.W.kitx_bool I.uB True.intro e (fun z=>nomatch z) h
 | int i=>obtain ⟨t,q⟩:=(show ∃ t,u=Value.int i t from rx);cases q;exact PySem.W.kia_one PySem.W.kitx_int I.uB True.intro e (fun z=>nomatch z) h
 | str y=>obtain ⟨t,q⟩:=(show ∃ t,u=Value.str y t from rx);cases q;exact PySem.W.kia_one PySem.W.kitx_str I.uB True.intro e (fun z=>nomatch z) h
 | Pc y=>obtain ⟨t,q⟩:=(show ∃ t,u=Value.float y t from rx);cases q;exact PySem.W.kia_one PySem.W.kitx_float I.uB True.intro e (fun z=>nomatch z) h
 | @lst a xs ea =>
  cases (show u=Value.ref a from rx)
  obtain ⟨_,_,n,_,h1⟩:=(show eM X.prog X.w H s.heap a (.lst xs) from I.bh a _ ea)
  exact PySem.W.kia_one PySem.W.kitx_list I.uB ⟨_,h1,rfl⟩ e (fun z=>nomatch z) h
 | @Df a ob xs ea =>
  cases (show u=Value.ref a from rx)
  obtain ⟨_,_,_,n,_,h1⟩:=(show eM X.prog X.w H s.heap a (.Df ob (.lst xs)) from I.bh a _ ea)
  exact PySem.W.kia_one PySem.W.kitx_list I.uB ⟨_,h1,rfl⟩ e (fun z=>nomatch z) h
 | @tup a xs ea =>
  cases (show u=Value.ref a from rx)
  obtain ⟨_,_,_,p⟩:=(show eM X.prog X.w H s.heap a (.tup xs) from I.bh a _ ea)
  obtain ⟨o,h1,h2,_⟩:=p
  exact PySem.W.kia_one PySem.W.kitx_tuple I.uB ⟨o,h1,h2⟩ e (fun z=>nomatch z) h
 | @dK a mG ea =>
  cases (show u=Value.ref a from rx)
  obtain ⟨_,_,vs,_,p⟩:=(show eM X.prog X.w H s.heap a (.dK mG) from I.bh a _ ea)
  obtain ⟨o,es,ep,h1,h2,_⟩:=p
  exact PySem.W.kia_one PySem.W.kitx_dict I.uB ⟨o,h1,h2.1⟩ e (fun z=>nomatch z) h
 | @dT a mG ea =>
  cases (show u=Value.ref a from rx)
  obtain ⟨_,_,xs,_,o,es,ep,h1,h2,_⟩:=(show eM X.prog X.w H s.heap a (.dT mG) from I.bh a _ ea)
  exact PySem.W.kia_one PySem.W.kitx_dict I.uB ⟨o,h1,h2.1⟩ e (fun z=>nomatch z) h
 | @ins a C dx fs ea cl ha hn Vg hm =>
  cases (show u=Value.ref a from rx)
  obtain ⟨mA,O,_⟩:=xI I.bh ea
  obtain ⟨od,J,_⟩:=O.look
  exact PySem.W.kia_one (PySem.W.kitx_own (cl.get _) cl.hd ha hn Vg hm) I.uB J e (fun z=>nomatch z) h
end
end L2
namespace L2
open PySem PySem.Spec PyProof.Rows
structure gy (k:Nat) (A:Around):Prop where
 hd:A.handled=none
 dp:A.depth+3 * k+5 < recursionLimit
 un:A.units+16 * k+200 < cLine
theorem gy.mono {j k:Nat} {A:Around} (r:gy k A) (h:j≤k):gy j A:=⟨r.hd,by have:=r.dp;omega,by have:=r.un;omega⟩
theorem gy.deeper {k:Nat} {A:Around} (r:gy (k+1) A) (env:Env):gy k (A.deeper env) :=
 ⟨r.hd,by have:=r.dp;show A.depth+1+3 * k+5 < _;omega,by have:=r.un;show A.units+3+16 * k+200 < _;omega⟩
theorem D7 {A:Around} {C:Addr} {us:List Value} {kw:List (Str × Value)}:(A.under (.builtin "type.__call__" ⟨.ref C :: us,kw⟩)).depth=A.depth+1:=by
 first | rfl | simp [Around.under,Code.weight,Code.isCreation,Code.isGuard,Code.isCaller,Code.frames,Code.isFrame,guardIds]
theorem D8 {A:Around} {C:Addr} {us:List Value} {kw:List (Str × Value)}:(A.under (.builtin "type.__call__" ⟨.ref C :: us,kw⟩)).units=A.units+1:=by
 first | rfl | simp [Around.under,Code.cUnits,Code.frames,Code.isFrame]
theorem gy.make {k:Nat} {A:Around} (r:gy (k+1) A) (C:Addr) (us:List Value) (kw:List (Str × Value)):gy k (A.under (.builtin "type.__call__" ⟨.ref C :: us,kw⟩)) :=
 ⟨r.hd,by have:=r.dp;rw [D7];omega,by have:=r.un;rw [D8];omega⟩
theorem gy.depth {k:Nat} {A:Around} (r:gy k A):A.depth < recursionLimit:=by have:=r.dp;omega
def zL:TA:=fun _ H Q=>Q [] H
def pJ (ta:TE) (tr:TA):TA:=fun σ H Q=>ta σ H fun x H1=>tr σ H1 fun xs H2=>Q (x :: xs) H2
section
variable {X:Cx} {e:Expr} {es:List Expr} {te:TE} {t:TA} {pos:Pos}
theorem aD:PA X [] zL:=fun _ _ _ _ H Q I h=>Calls.spliced_nil ⟨[],H,I,.nil,h⟩
theorem aA (ha:PE X e te) (hr:PA X es t) (hs:starEach (e :: es) X.env=(false,eval e X.env) :: starEach es X.env:=by rfl):PA X (e :: es) (pJ te t):=by
 intro pos pins s σ H Q I h
 rw [hs]
 show wpAny _ _ (spliced ((false,eval e X.env) :: backTo pos (starEach es X.env))) _ _ s
 refine Calls.spliced_cons (bV (ha pins s σ H _ I h) fun u s1 ⟨x,H1,I1,r1,q1⟩=>?_)
 exact bV (hr pos pins s1 σ H1 _ I1 q1) fun us s2 ⟨xs,H2,I2,r2,q2⟩=>⟨x :: xs,H2,I2,.cons r1 r2,q2⟩
def Jm (t:TA):TE:=fun σ H Q=>t σ H fun xs H1=>xs.length≤sizeLine∧∀ p,H1 p=none→Q (.ref p) (upd H1 p (.tup xs))
def Pu (t:TA):TE:=fun σ H Q=>t σ H fun xs H1=>xs.length≤sizeLine∧∀ p,H1 p=none→Q (.ref p) (upd H1 p (.lst xs))
theorem eQ {x1} (h:PA X es t):PE X (.Tuple es x1 pos) (Jm t):=by
 intro pins s σ H Q I hq
 refine wpAny_Tuple_spliced (bV (h pos pins s σ H _ I hq) fun us s1 ⟨xs,H1,I1,r,z,q⟩=>⟨by rw [← r.length];exact z,?_⟩)
 have hf:H1 s1.heap.objs.size=none:=I1.bh.fresh (Nat.le_refl _)
 refine ⟨.ref s1.heap.objs.size,upd H1 s1.heap.objs.size (.tup xs),I1.laid (t':=s1.toks) (fun b u e=>Heap.get?_push_of_some _ e) (Nat.le_refl _) ?_,rfl,q _ hf⟩
 exact ⟨z,us,r,⟨_,Heap.get?_push_size _ rfl,rfl,_,rfl⟩⟩
theorem ai (h:PA X es t):PE X (.List es pos) (Pu t):=by
 intro pins s σ H Q I hq
 refine wpAny_List_spliced (bV (h pos pins s σ H _ I hq) fun us s1 ⟨xs,H1,I1,r,z,q⟩=>⟨by rw [← r.length];exact z,?_⟩)
 have hf:H1 s1.heap.objs.size=none:=I1.bh.fresh (Nat.le_refl _)
 refine ⟨.ref s1.heap.objs.size,upd H1 s1.heap.objs.size (.lst xs),I1.laid (t':=s1.toks) (fun b u e=>Heap.get?_push_of_some _ e) (Nat.le_refl _) ?_,rfl,q _ hf⟩
 exact ⟨z,us,0,r,Heap.get?_push_size _ rfl⟩
end
abbrev Sp:=List V→Hp→VK→XK→Prop
abbrev A7:=List Env→Hp→Shared→XK→Value→Shared→Prop
structure A8 (P:Program) (w:World) (K:PySem.W.Frag) (mg:Str→Option Value) (base:Heap) (A:Around) (outer:List Env) (s:Shared) (H:Hp):Prop where
 frames:A.frames=some outer
 mod:Mod K mg base
 bs:∀ b o,base.get? b=some o→s.heap.get? b=some o∧H b=none
 GF:base.objs.size≤s.heap.objs.size
 pD:s.heap.FunFrames base outer
 JQ:∀ b ∈ o9 outer,H b=none
 bh:u5 P w H s.heap
 bare:AllBare s.gens
def CE (outer:List Env) (P:Program) (w:World) (H:Hp) (s:Shared) (Q:VK) (u:Value) (s':Shared):Prop :=
 ∃ v H',s'.os=s.os∧AllBare s'.gens∧Un (o9 outer) [] H H' s.heap s'.heap∧u5 P w H' s'.heap∧RelV v u∧Q v H'
def CR (CX:A7) (outer:List Env) (P:Program) (w:World) (H:Hp) (s:Shared) (Q:VK) (E:XK) (r:Result) (s':Shared):Prop :=
 match r with
 | .ok (.ret u)=>CE outer P w H s Q u s'
 | .ok _=>False
 | .error e=>CX outer H s E e s'
structure bO (P:Program) (w:World) (K:PySem.W.Frag) (mg:Str→Option Value) (base:Heap) (CX:A7) (k:Nat) (f:Addr) (fd:FuncData) (ps:List Str) (sp:Sp):Prop where
 len:∀ vs H Q E,sp vs H Q E→vs.length=ps.length
 run:∀ (A:Around) (outer:List Env) (s:Shared) (H:Hp) (args:Args) (us:List Value) (vs:List V) (Q:VK) (E:XK),gy k A→A8 P w K mg base A outer s H→BindsTo s fd args (ps.zip us)→av vs us→sp vs H Q E →
  codeAny (model P w) A (.call (.ref f) args) (CR CX outer P w H s Q E) s
theorem bO.mono {P:Program} {w:World} {K:PySem.W.Frag} {mg:Str→Option Value} {base:Heap} {CX:A7} {j k:Nat} {f:Addr} {fd:FuncData} {ps:List Str} {sp:Sp} (F:bO P w K mg base CX j f fd ps sp) (h:j≤k) :
  bO P w K mg base CX k f fd ps sp:=⟨F.len,fun A outer s H args us vs Q E hr=>F.run A outer s H args us vs Q E (hr.mono h)⟩
theorem A8.make {P:Program} {w:World} {K:PySem.W.Frag} {mg:Str→Option Value} {base:Heap} {A:Around} {outer:List Env} {s:Shared} {H:Hp} (e:A8 P w K mg base A outer s H) (C:Addr) (us:List Value) (kw:List (Str × Value)) :
  A8 P w K mg base (A.under (.builtin "type.__call__" ⟨.ref C :: us,kw⟩)) outer s H:=⟨by first | exact e.frames | (simpa [Around.under,Code.envs,Code.isFrame,pushEnvs] using e.frames),e.mod,e.bs,e.GF,e.pD,e.JQ,e.bh,e.bare⟩
section
variable {X:Cx} {pins:List (Addr × Obj)} {σ:St} {H:Hp} {s s':Shared}
theorem Inv.Pw (I:Inv X pins σ H s):A8 X.prog X.w X.K X.mg X.base X.A X.stack s H :=
 ⟨I.ok.frames,I.ok.mod,I.bs,Nat.le_trans I.ok.GF I.sz,I.stack,I.A1,I.bh,I.bare⟩
theorem Inv.after {Q:VK} {u:Value} (I:Inv X pins σ H s) (h:CE X.stack X.prog X.w H s Q u s'):EP X pins σ Q u s':=by
 obtain ⟨v,H',os,bare,un,bh,r,q⟩:=h
 obtain ⟨hh,g,d,t,os'⟩:=s'
 obtain rfl:os'=s.os:=os
 exact ⟨v,H',I.call (h':=hh) (g':=g) (d':=d) (t':=t) (ch:=[]) un bh bare (fun b z=>absurd z (by simp)),r,q⟩
end
def GR (sp:Sp) (uL:List V) (E:XK) (t:TA):TE:=fun σ H Q=>t σ H fun vs H1=>sp (vs ++ uL) H1 Q E
def GS (C:Addr) (m:Str) (sp:Sp) (uL:List V) (E:XK) (ta:TE) (t:TA):TE:=fun σ H Q=>ta σ H fun x H1=>∃ a dx fs,x=.ref a∧H1 a=some (.ins C dx fs)∧fs.lookup m=none ∧
 t σ H1 fun vs H2=>sp (x :: (vs ++ uL)) H2 Q E
def Sr (C:Addr) (sp:Sp) (uL:List V) (E:XK) (t:TA):TE:=fun σ H Q=>t σ H fun vs H1=>∀ x dx,H1 x=none→H1 dx=none→dx≠x →
 sp (.ref x :: (vs ++ uL)) (upd (upd H1 dx (.own x)) x (.ins C dx [])) (fun v H2=>v=.bH∧Q (.ref x) H2) E
def Binds (K:PySem.W.Frag) (fd:FuncData) (ps:List Str) (ds:List Value):Prop :=
 ∀ (s:Shared) (us:List Value),K.In s.heap→(us ++ ds).length=ps.length→BindsTo s fd ⟨us,[]⟩ (ps.zip (us ++ ds))
theorem Binds.all {K:PySem.W.Frag} {fd:FuncData} {ps:List Str} (h:∀ us:List Value,us.length=ps.length→bindArgs fd ⟨us,[]⟩=pure (ps.zip us)):Binds K fd ps []:=fun s us _ hl=>by
 rw [List.append_nil] at hl ⊢
 exact .of_eq (h us hl)
def ia (CX:A7) (X:Cx) (E:XK):Prop:=∀ (pins:List (Addr × Obj)) (σ:St) (H:Hp) (s:Shared) (e:Value) (s':Shared),Inv X pins σ H s→CX X.stack H s E e s'→X.xe e s'
section
variable {X:Cx} {CX:A7} {k:Nat} {f C:Addr} {fd:FuncData} {ps:List Str} {sp:Sp} {uL:List V} {ds:List Value} {E:XK} {x m:Str} {p pos apos:Pos} {e o:Expr} {es:List Expr} {ta:TE} {t:TA}
theorem D9 {pins:List (Addr × Obj)} {σ:St} {H:Hp} {s:Shared} {Q:VK} {us:List Value} {vs:List V} (F:bO X.prog X.w X.K X.mg X.base CX k f fd ps sp) (hr:gy k X.A) (hb:Binds X.K fd ps ds) (hd:av uL ds) (hx:ia CX X E)
  (I:Inv X pins σ H s) (r:av vs us) (h:sp (vs ++ uL) H Q E):wpAny (model X.prog X.w) X.A (call (.ref f) us) (EP X pins σ Q) X.xe s:=by
 have r2:av (vs ++ uL) (us ++ ds):=r.append hd
 have hl:(us ++ ds).length=ps.length:=by rw [← r2.length];exact F.len _ _ _ _ h
 refine wpAny_call (codeAny_mono (F.run X.A X.stack s H ⟨us,[]⟩ (us ++ ds) (vs ++ uL) Q E hr I.Pw (hb s us I.uB hl) r2 h) fun r s' hq=>?_)
 cases r with
 | error e=>exact hx pins σ H s e s' I hq
 | ok fl =>
  cases fl with
  | ret u=>exact I.after hq
  | next=>exact False.elim hq
  | brk=>exact False.elim hq
  | cont=>exact False.elim hq
theorem MX (F:bO X.prog X.w X.K X.mg X.base CX k f fd ps sp) (hr:gy k X.A) (hg:Gl X x) (hm:X.mg x=some (.ref f)) (hk:PySem.W.keepIn X.K (.ref f)=true) (hb:Binds X.K fd ps ds) (hd:av uL ds) (hx:ia CX X E)
  (ha:PA X (e :: es) t) (CP:(x == ("__debug__":Str))=false:=by decide) (he:starEach (e :: es) X.env=(false,eval e X.env) :: starEach es X.env:=by rfl) (mr:(backTo pos (starEach es X.env)).any (·.1)=false:=by rfl) :
  PE X (.Call (.Name x p) (e :: es) [] pos) (GR sp uL E t):=by
 intro pins s σ H Q I h
 refine wpAny_Call_Name_kw (qp I hg hm ?_ CP)
 refine PySem.W.callWith_K (h₀:=X.base) I.ok.mod.OW hk (bV (ha pos pins s σ H _ I h) fun us s1 ⟨vs,H1,I1,r,q⟩=>⟨I1.uB,?_⟩) he mr
 exact D9 F hr hb hd hx I1 r q
theorem mw {pl:Sem Bool} (he:PE X o ta) (c:He X.K C) (hm:pI X.K C m f) (F:bO X.prog X.w X.K X.mg X.base CX k f fd ps sp) (hr:gy k X.A) (hb:Binds X.K fd ps ds) (hd:av uL ds) (hx:ia CX X E) (ha:PA X (e :: es) t)
  (Dx:starEach (e :: es) X.env=(false,eval e X.env) :: starEach es X.env:=by rfl) (mr:(backTo pos (starEach es X.env)).any (·.1)=false:=by rfl)
  (ht:eval (.Call (.Attribute o m apos) (e :: es) [] pos) X.env=(do
   let ov ← eval o X.env
   standAt apos.atName
   let (f,first) ← holding [ov] (getMethod ov m pl)
   callWith pos f first (backTo pos (starEach (e :: es) X.env)) (backToKw pos (keywordEach [] X.env))):=by rfl) :
  PE X (.Call (.Attribute o m apos) (e :: es) [] pos) (GS C m sp uL E ta t):=by
 intro pins s σ H Q I h
 refine PySem.W.methodCall_KW (pl:=pl) (bV (he pins s σ H _ I h) fun u s1 ⟨x,H1,I1,rx,a,dx,fs,ex,ea,l,q⟩=>?_) ht
 subst ex
 obtain rfl:u=Value.ref a:=rx
 refine xh I1 ea c hm l ?_
 refine PySem.W.callWith_K (first:=[.ref a]) (h₀:=X.base) I.ok.mod.OW hm.kp (bV (ha pos pins s1 σ H1 _ I1 q) fun us s2 ⟨vs,H2,I2,r,q2⟩=>⟨I2.uB,?_⟩) Dx mr
 exact D9 (us:=.ref a :: us) (vs:=.ref a :: vs) F hr hb hd hx I2 (.cons rfl r) q2
theorem a8 {pl:Sem Bool} (he:PE X o ta) (c:He X.K C) (hm:pI X.K C m f) (F:bO X.prog X.w X.K X.mg X.base CX k f fd ps sp) (hr:gy k X.A) (hb:Binds X.K fd ps ds) (hd:av uL ds) (hx:ia CX X E)
  (ht:eval (.Call (.Attribute o m apos) [] [] pos) X.env=(do
   let ov ← eval o X.env
   standAt apos.atName
   let (f,first) ← holding [ov] (getMethod ov m pl)
   callWith pos f first (backTo pos (starEach [] X.env)) (backToKw pos (keywordEach [] X.env))):=by rfl) :
  PE X (.Call (.Attribute o m apos) [] [] pos) (GS C m sp uL E ta zL):=by
 intro pins s σ H Q I h
 refine PySem.W.methodCall_KW (pl:=pl) (bV (he pins s σ H _ I h) fun u s1 ⟨x,H1,I1,rx,a,dx,fs,ex,ea,l,q⟩=>?_) ht
 subst ex
 obtain rfl:u=Value.ref a:=rx
 refine xh I1 ea c hm l ?_
 exact PySem.W.callWith_K0 (first:=[.ref a]) I1.uB hm.kp (D9 (us:=[.ref a]) (vs:=[.ref a]) F hr hb hd hx I1 (.cons rfl .nil) q)
structure Mk (K:PySem.W.Frag) (C f:Addr):Prop where
 makes:PySem.W.makesIn K C=true
 init:PySem.W.findIn K (.ref C) "__init__"=some (some (.ref f))
 fn:PySem.W.isFn K (.ref f)=true
 kp:PySem.W.keepIn K (.ref C)=true
theorem Jn {pins:List (Addr × Obj)} {σ:St} {H:Hp} {s:Shared} {Q:VK} {us:List Value} {vs:List V} (M:Mk X.K C f) (F:bO X.prog X.w X.K X.mg X.base CX k f fd ps sp) (hr:gy (k+1) X.A) (hb:Binds X.K fd ps ds) (hd:av uL ds)
  (hx:ia CX X E) (I:Inv X pins σ H s) (r:av vs us)
  (h:∀ x dx,H x=none→H dx=none→dx≠x→sp (.ref x :: (vs ++ uL)) (upd (upd H dx (.own x)) x (.ins C dx [])) (fun v H2=>v=.bH∧Q (.ref x) H2) E) :
  wpAny (model X.prog X.w) X.A (call (.ref C) us) (EP X pins σ Q) X.xe s:=by
 have hq:=h (s.heap.objs.size+1) s.heap.objs.size (I.bh.fresh (Nat.le_succ _)) (I.bh.fresh (Nat.le_refl _)) (Nat.ne_of_lt (Nat.lt_succ_self _))
 have I2:=Inv.made (C:=C) I
 have r2:av (V.ref (s.heap.objs.size+1) :: (vs ++ uL)) (Value.ref (s.heap.objs.size+1) :: (us ++ ds)):=.cons rfl (r.append hd)
 have hl:(Value.ref (s.heap.objs.size+1) :: us ++ ds).length=ps.length:=by
  have e:=r2.length
  rw [F.len _ _ _ _ hq] at e
  exact e.symm
 refine wpAny_call (Jk (f:=f) I.uB M.makes M.init (beq_iff_eq.mp M.fn) (codeAny_mono (F.run _ X.stack _ _ ⟨Value.ref (s.heap.objs.size+1) :: us,[]⟩ (Value.ref (s.heap.objs.size+1) :: (us ++ ds)) _ _ E (hr.make C us [])
  (I2.Pw.make C us []) (hb _ (Value.ref (s.heap.objs.size+1) :: us) I2.uB hl) r2 hq) fun r s' Px=>?_))
 cases r with
 | error e=>exact hx pins σ _ _ e s' I2 Px
 | ok fl =>
  cases fl with
  | ret u =>
   obtain ⟨v,H',I3,rv,ev,q3⟩:=I2.after Px
   subst ev
   exact ⟨rv,⟨V.ref (s.heap.objs.size+1),H',I3,rfl,q3⟩⟩
  | next=>exact False.elim Px
  | brk=>exact False.elim Px
  | cont=>exact False.elim Px
theorem A9 (M:Mk X.K C f) (F:bO X.prog X.w X.K X.mg X.base CX k f fd ps sp) (hr:gy (k+1) X.A) (hg:Gl X x) (hm:X.mg x=some (.ref C)) (hb:Binds X.K fd ps ds) (hd:av uL ds) (hx:ia CX X E)
  (ha:PA X (e :: es) t) (CP:(x == ("__debug__":Str))=false:=by decide) (he:starEach (e :: es) X.env=(false,eval e X.env) :: starEach es X.env:=by rfl) (mr:(backTo pos (starEach es X.env)).any (·.1)=false:=by rfl) :
  PE X (.Call (.Name x p) (e :: es) [] pos) (Sr C sp uL E t):=by
 intro pins s σ H Q I h
 refine wpAny_Call_Name_kw (qp I hg hm ?_ CP)
 refine PySem.W.callWith_K (h₀:=X.base) I.ok.mod.OW M.kp (bV (ha pos pins s σ H _ I h) fun us s1 ⟨vs,H1,I1,r,q⟩=>⟨I1.uB,?_⟩) he mr
 exact Jn M F hr hb hd hx I1 r q
end
section
variable {X:Cx} {CX:A7} {k:Nat} {f C:Addr} {fd:FuncData} {ps ks:List Str} {sp:Sp} {E:XK} {x m:Str} {p pos apos WZ:Pos} {e o:Expr} {es:List Expr} {kws:List Keyword} {te ta:TE} {t tk:TA} {nm:Option Str}
variable {g:List Value→List Value→List Value} {gV:List V→List V→List V}
end
structure aP (N P:List Str) (sc:Scope):Prop where
 kind:sc.kind=.function
 co:sc.isCoroutine=false
 gen:sc.isGenerator=false
 nd:N.Nodup
 pre:N.take P.length=P
 par:∀ x ∈ P,sc.names.lookup x=some .local∨sc.names.lookup x=some .cell
 Jo:∀ y ∈ sc.names,y.2≠.free
theorem AW {kindOf:Str→Option NameKind} {x:Str}:∀ {binds:List (Str × Value)} {m:Str→Option Value},(∀ v,(x,v) ∉ binds)→bindL kindOf binds m x=m x
 | [],_,_=>rfl
 | (n,v) :: r,m,h=>by
  unfold bindL
  rw [AW fun w hw=>h w (List.mem_cons_of_mem _ hw)]
  split
  ·have:x≠n:=by rintro rfl;exact h v List.mem_cons_self
   simp [this]
  ·rfl
theorem AX {kindOf:Str→Option NameKind} {x:Str}:∀ {binds:List (Str × Value)} {m:Str→Option Value},(∀ v,(x,v) ∉ binds)→bindC kindOf binds m x=m x
 | [],_,_=>rfl
 | (n,v) :: r,m,h=>by
  unfold bindC
  rw [AX fun w hw=>h w (List.mem_cons_of_mem _ hw)]
  split
  ·rfl
  ·have:x≠n:=by rintro rfl;exact h v List.mem_cons_self
   simp [this]
theorem vF {kindOf:Str→Option NameKind} {x:Str} {v:Value}:∀ {P:List Str} {vs:List Value} {i:Nat} {m:Str→Option Value},P.Nodup→P[i]?=some x→vs[i]?=some v→kindOf x=some .local →
  bindL kindOf (P.zip vs) m x=some v
 | [],_,_,_,_,h,_,_=>by simp at h
 | _ :: _,[],_,_,_,_,h,_=>by simp at h
 | p :: P,w :: vs,0,m,nd,h1,h2,hk=>by
  simp at h1 h2;subst h1;subst h2
  show bindL kindOf ((p,w) :: P.zip vs) m p=_
  unfold bindL
  rw [AW fun v hv=>(List.nodup_cons.mp nd).1 (List.of_mem_zip hv).1,if_pos hk]
  simp
 | p :: P,w :: vs,i+1,m,nd,h1,h2,hk=>by
  show bindL kindOf ((p,w) :: P.zip vs) m x=_
  unfold bindL
  exact vF (i:=i) (List.nodup_cons.mp nd).2 (by simpa using h1) (by simpa using h2) hk
theorem vG {kindOf:Str→Option NameKind} {x:Str} {v:Value}:∀ {P:List Str} {vs:List Value} {i:Nat} {m:Str→Option Value},P.Nodup→P[i]?=some x→vs[i]?=some v→kindOf x≠some .local →
  bindC kindOf (P.zip vs) m x=some v
 | [],_,_,_,_,h,_,_=>by simp at h
 | _ :: _,[],_,_,_,_,h,_=>by simp at h
 | p :: P,w :: vs,0,m,nd,h1,h2,hk=>by
  simp at h1 h2;subst h1;subst h2
  show bindC kindOf ((p,w) :: P.zip vs) m p=_
  unfold bindC
  rw [AX fun v hv=>(List.nodup_cons.mp nd).1 (List.of_mem_zip hv).1,if_neg hk]
  simp
 | p :: P,w :: vs,i+1,m,nd,h1,h2,hk=>by
  show bindC kindOf ((p,w) :: P.zip vs) m x=_
  unfold bindC
  exact vG (i:=i) (List.nodup_cons.mp nd).2 (by simpa using h1) (by simpa using h2) hk
def start (N:List Str) (vs:List V):St:=vs.map some ++ List.replicate (N.length - vs.length) none
def EC (CX:A7) (P:Program) (w:World) (K:PySem.W.Frag) (mg:Str→Option Value) (base:Heap) (N:List Str) (qual:Str) (scope:Scope) (f:Addr) (cd:Value) (A:Around) (outer:List Env) (s:Shared) (H:Hp) (E:XK):Cx where
 prog:=P
 w:=w
 K:=K
 mg:=mg
 base:=base
 A:=A.deeper (envOfC qual scope s.heap.objs.size f cd)
 N:=N
 s₀:=s
 H₀:=H
 env:=envOfC qual scope s.heap.objs.size f cd
 outer:=outer
 stack:=envOfC qual scope s.heap.objs.size f cd :: outer
 ex:=[]
 calm:=true
 fn:=fun _=>true
 pn:=[]
 xe:=fun e s'=>wpAny (model P w) (A.deeper (envOfC qual scope s.heap.objs.size f cd)) (leaving (envOfC qual scope s.heap.objs.size f cd) e) (fun _ Py=>CX outer H s E e Py) (fun e' Py=>CX outer H s E e' Py) s'
theorem uM {sc:Scope} {n:Nat} {x:Str} (h:sc.names.lookup x=some .cell):∃ c,(cellsFrom n sc.names []).lookup x=some c:=by
 have q:=PySem.W.cellsFrom_some sc.names n [] (.inl h)
 exact Option.isSome_iff_exists.mp q
theorem Hj {CX:A7} {P:Program} {w:World} {K:PySem.W.Frag} {mg:Str→Option Value} {base:Heap} {N ps:List Str} {qual:Str} {scope:Scope} {f:Addr} {cd:Value} {A:Around} {outer:List Env} {s s1:Shared} {H:Hp} {E:XK} {us:List Value} {vs:List V}
  (S:aP N ps scope) (hd:A.handled=none) (e0:A8 P w K mg base A outer s H) (hl:vs.length=ps.length) (r:av vs us)
  (x:InCallC s s.heap.objs.size (bindL (envOfC qual scope s.heap.objs.size f cd).kindOf (ps.zip us) fun _=>none) (cellsFrom (s.heap.objs.size+1) scope.names []) (bindC (envOfC qual scope s.heap.objs.size f cd).kindOf (ps.zip us) fun _=>none) s1) :
  Inv (EC CX P w K mg base N qual scope f cd A outer s H E) [] (start N vs) H s1:=by
 have mr:ps.length≤N.length:=by have:=congrArg List.length S.pre;rw [List.length_take] at this;omega
 obtain ⟨h1,tk,rfl,hk⟩:=x.done
 have MY:∀ b:Addr,b ∉ (EC CX P w K mg base N qual scope f cd A outer s H E).ex:=fun b z=>absurd (show b ∈ ([]:List Addr) from z) (by simp)
 refine ⟨⟨e0.mod,S.kind,rfl,rfl,Nat.le_refl _,fun y z c h1 h2=>?_,fun y hy=>?_,fun y c _ h=>?_,fun _=>hd,Around.frames_deeper e0.frames,.inr ⟨rfl,rfl⟩,fun b z=>absurd z (MY b),e0.bs,e0.GF,fun b _ _=>MY b,fun b z=>absurd z (MY b),e0.pD,e0.JQ⟩,
  rfl,e0.bare,Un.kept hk,⟨_,x.toInCall.ns,fun i y v h1 h2 h3=>?_⟩,fun y c h=>⟨_,x.cell y c h⟩,e0.bh.fresh (Nat.le_refl _),fun y c h=>?_,fun p hp=>absurd (show p ∈ ([]:List (Addr × Obj)) from hp) (by simp),e0.bh.kept hk,?_⟩
 ·exact name_of_addr x.apart (PySem.mem_of_lookup h1) (PySem.mem_of_lookup h2)
 ·have hy:scope.names.lookup y=some .cell∨scope.names.lookup y=some .free:=hy
  rcases hy with hy | hy
  ·exact uM hy
  ·exact absurd rfl (S.Jo _ (PySem.mem_of_lookup hy))
 ·exact Nat.le_of_lt (x.above y c (PySem.mem_of_lookup h))
 ·have hi:i < vs.length:=by
   unfold start at h2
   by_cases hi:i < vs.length
   ·exact hi
   ·rw [List.getElem?_append_right (by simpa using hi)] at h2
    rw [List.getElem?_replicate] at h2
    split at h2 <;> cases h2
  have ha:vs[i]?=some v:=by
   unfold start at h2
   rw [List.getElem?_append_left (by simpa using hi),List.getElem?_map] at h2
   cases e:vs[i]? with
   | none=>rw [e] at h2;cases h2
   | some a=>rw [e] at h2;cases h2;rfl
  obtain ⟨u,hu,rv⟩:=r.get ha
  have hp:ps[i]?=some y:=by
   rw [← S.pre,List.getElem?_take_of_lt (by omega)];exact h1
  have Ss:ps.Nodup:=by rw [← S.pre];exact S.nd.sublist (List.take_sublist _ _)
  refine ⟨u,rv,?_⟩
  rcases S.par y (List.mem_of_getElem? hp) with k | k
  ·exact .inl ⟨k,vF Ss hp hu k⟩
  ·obtain ⟨c,e⟩:=uM (n:=s.heap.objs.size+1) k
   refine .inr ⟨.inl k,c,e,?_⟩
   have q:=x.cell y c e
   rw [vG Ss hp hu (by show scope.names.lookup y≠_;rw [k];decide)] at q
   exact q
 ·exact e0.bh.fresh (Nat.le_of_lt (x.above y c (PySem.mem_of_lookup h)))
 ·unfold start
  show _=N.length
  rw [List.length_append,List.length_map,List.length_replicate]
  omega
theorem Jp {CX:A7} {P:Program} {w:World} {K:PySem.W.Frag} {mg:Str→Option Value} {base:Heap} {k:Nat} {f:Addr} {name qual:Str} {params:Arguments} {body:List Stmt} {scope:Scope} {dV kV doc pm bM ct oc:Value} {an od:Option Addr}
  {Dh:Array (Option Value)} {N ps:List Str} {sp:Sp} (lk:K.lookup f=some ⟨oc,od,.func (PySem.W.fnOf name qual params body scope dV kV doc pm an bM ct),Dh⟩) (AS:PySem.W.codeIn K bM qual=true) (S:aP N ps scope)
  (len:∀ vs H Q E,sp vs H Q E→vs.length=ps.length)
  (pK:∀ (A:Around) (outer:List Env) (s:Shared) (H:Hp) (vs:List V) (Q:VK) (E:XK),gy k (A.deeper (envOfC qual scope s.heap.objs.size f bM))→sp vs H Q E →
   ∃ t,Dg (EC CX P w K mg base N qual scope f bM A outer s H E) body t∧t { nx:=fun _ H'=>Q .bH H',rt:=Q } (start N vs) H) :
  bO P w K mg base CX (k+1) f (PySem.W.fnOf name qual params body scope dV kV doc pm an bM ct) ps sp:=by
 refine ⟨len,fun A outer s H args us vs Q E hr e0 hb r zM=>?_⟩
 have hl:=len _ _ _ _ zM
 have KX:K.In s.heap:=e0.mod.OW.keeps fun b o e=>(e0.bs b o e).1
 have lim:s.heap.NoLimit:=e0.mod.nolimit.keeps fun b o e=>(e0.bs b o e).1
 have Jq:∀ y ∈ ps.zip us,scope.names.lookup y.1=some .local∨(scope.names.lookup y.1=some .cell∧((cellsFrom (s.heap.objs.size+1) scope.names []).lookup y.1).isSome=true):=fun ⟨n,v⟩ hy=>by
  rcases S.par n (List.of_mem_zip hy).1 with q | q
  ·exact .inl q
  ·exact .inr ⟨q,PySem.W.cellsFrom_some _ _ _ (.inl q)⟩
 refine codeAny_call_function hr.depth (KX _ _ lk) rfl S.co S.gen rfl (PySem.W.codeRec_of KX AS) (hb _ _ _ _ ?_)
 refine wpAny_newFunctionEnv_cells S.kind Jq fun env he s1 x=>?_
 subst he
 refine ⟨lim.keeps x.toInCall.keep,codeAny_func ?_⟩
 obtain ⟨t,ht,hq⟩:=pK A outer s H vs Q E (hr.deeper _) zM
 have I:Inv (EC CX P w K mg base N qual scope f bM A outer s H E) [] (start N vs) H s1:=Hj S hr.hd e0 hl r x
 refine wpAny_mono (ht [] s1 (start N vs) H _ I hq) (fun fl s' hs=>?_) fun e s' hs=>hs
 have fin:∀ {σ':St} {H':Hp} {v:V} {u:Value},Inv (EC CX P w K mg base N qual scope f bM A outer s H E) [] σ' H' s'→RelV v u→Q v H'→CE outer P w H s Q u s' :=
  fun {σ' H' v u} J rv q=>⟨v,H',J.os,J.bare,J.base,J.bh,rv,q⟩
 cases fl with
 | ret u =>
  obtain ⟨v,σ',H',J,rv,q⟩:=hs
  exact fin J rv q
 | next =>
  obtain ⟨σ',H',J,q⟩:=hs
  exact fin (v:=V.bH) (u:=Value.none) J rfl q
 | brk =>
  obtain ⟨_,_,_,q⟩:=hs
  exact False.elim q
 | cont =>
  obtain ⟨_,_,_,q⟩:=hs
  exact False.elim q
end L2
namespace L2
open PySem PySem.Spec PyProof.Rows
section
variable {X:Cx} {x:Str} {p pos:Pos} {e:Expr} {es:List Expr} {t:TA} {id T:String} {r:List V→Hp→VK→Prop}
def Wa (r:List V→Hp→VK→Prop) (t:TA):TE:=fun σ H Q=>t σ H fun vs H1=>r vs H1 Q
theorem bQ (hc:uG X (.builtin id) r) (hg:Gl X x) (hm:X.mg x=none) (hv:bootBuiltins x=some (.builtin id)) (ha:PA X (e :: es) t) (hn:x≠"__name__":=by decide) (CP:(x == ("__debug__":Str))=false:=by decide)
  (he:starEach (e :: es) X.env=(false,eval e X.env) :: starEach es X.env:=by rfl) (mr:(backTo pos (starEach es X.env)).any (·.1)=false:=by rfl):PE X (.Call (.Name x p) (e :: es) [] pos) (Wa r t):=by
 intro pins s σ H Q I h
 refine wpAny_Call_Name_kw (j7 I hg hm hv ?_ hn CP)
 exact PyProof.Rows.callWith_builtin1 (bV (ha pos pins s σ H _ I h) fun us s1 ⟨vs,H1,I1,r1,q1⟩=>hc pins s1 σ H1 vs us Q I1 r1 q1) he mr
theorem ib (hc:uG X (.type T) r) (hg:Gl X x) (hm:X.mg x=none) (hv:bootBuiltins x=some (.type T)) (ha:PA X (e :: es) t) (hn:x≠"__name__":=by decide) (CP:(x == ("__debug__":Str))=false:=by decide)
  (he:starEach (e :: es) X.env=(false,eval e X.env) :: starEach es X.env:=by rfl) (mr:(backTo pos (starEach es X.env)).any (·.1)=false:=by rfl):PE X (.Call (.Name x p) (e :: es) [] pos) (Wa r t):=by
 intro pins s σ H Q I h
 refine wpAny_Call_Name_kw (j7 I hg hm hv ?_ hn CP)
 exact PyProof.Rows.callWith_type1 (bV (ha pos pins s σ H _ I h) fun us s1 ⟨vs,H1,I1,r1,q1⟩=>hc pins s1 σ H1 vs us Q I1 r1 q1) he mr
end
end L2
namespace HT
open PySem PyProof.Rows
section
open PySem.SeqAt
open PySem.AutoSeq1 (wpAny_loadPart')
open PySem.MeetsSeq PySem.MeetsSeq2 PySem.MeetsSeq3
end
section
variable {prog:Program} {w:World} {A:Around} {E:Value→Shared→Prop} {s:Shared}
def AY (n d:Nat):Option Int→Nat
 | none=>d
 | some v=>if v < 0 then (v+(n:Int)).toNat else min v.toNat n
theorem xj (n d:Nat):AY n d none=d:=rfl
theorem mz (n d k:Nat):AY n d (some (k:Int))=min k n:=by
 show (if (k:Int) < 0 then ((k:Int)+(n:Int)).toNat else min (k:Int).toNat n)=min k n
 rw [if_neg (by omega),Int.toNat_natCast]
end
end HT
namespace L2
open PySem PySem.Spec PyProof.Rows
abbrev TO:=St→Hp→(Option Int→Hp→Prop)→Prop
def PO (X:Cx) (e:Option Expr) (t:TO):Prop :=
 ∀ (pins:List (Addr × Obj)) (s:Shared) (σ:St) (H:Hp) (Q:Option Int→Hp→Prop),Inv X pins σ H s→t σ H Q →
  wpAny (model X.prog X.w) X.A (evalPart e X.env) (fun u s'=>∃ o H',Inv X pins σ H' s'∧IsPart u o∧Q o H') X.xe s
def MZ:TO:=fun _ H Q=>Q none H
def Su (t:TE):TO:=fun σ H Q=>t σ H fun x H1=>∃ i,x=.int i∧Q (some i) H1
section
variable {X:Cx} {e:Expr} {te:TE} {lo hi:Option Expr} {tl th:TO} {pos p2:Pos}
theorem qu:PO X none MZ:=by
 intro pins s σ H Q I h
 rw [evalPart_none]
 exact wpAny_pure ⟨none,H,I,.none,h⟩
theorem jO (h:PE X e te):PO X (some e) (Su te):=by
 intro pins s σ H Q I hw
 rw [evalPart_some]
 refine bV (h pins s σ H _ I hw) fun u s1 ⟨x,H1,I1,r1,q1⟩=>?_
 obtain ⟨i,rfl,q⟩:=q1
 obtain ⟨t,rfl⟩:=r1
 exact ⟨some i,H1,I1,.int i t,q⟩
def Wb (X:Cx) (r:V→Option Int→Option Int→Hp→VK→Prop):Prop :=
 ∀ (pins:List (Addr × Obj)) (s:Shared) (σ:St) (H:Hp) (x:V) (v vl vu:Value) (lo hi:Option Int) (sl:Addr) (Q:VK),Inv X pins σ H s→RelV x v→s.heap.IsSliceOf sl vl vu .none→IsPart vl lo→IsPart vu hi→r x lo hi H Q →
  ∃ T id,typeLookup (.type T) "__getitem__"=pure (some (.builtin id))∧s.TypeIs v T∧wpAny (model X.prog X.w) X.A (getItem v (.ref sl)) (EP X pins σ Q) X.xe s
def tSl (r:V→Option Int→Option Int→Hp→VK→Prop) (te:TE) (tl th:TO):TE:=fun σ H Q=>te σ H fun x H1=>tl σ H1 fun l H2=>th σ H2 fun u H3=>r x l u H3 Q
theorem jT {r:V→Option Int→Option Int→Hp→VK→Prop} (hr:Wb X r) (he:PE X e te) (hl:PO X lo tl) (hu:PO X hi th):PE X (.Subscript e (.Slice lo hi none p2) pos) (tSl r te tl th):=by
 intro pins s σ H Q I h
 refine Subscript_ (bV (he pins s σ H _ I h) fun v s1 ⟨x,H1,I1,r1,q1⟩=>?_)
 refine wpAny_Slice (bV (hl pins s1 σ H1 _ I1 q1) fun vl s2 ⟨l,H2,I2,pl,q2⟩=>bV (hu pins s2 σ H2 _ I2 q2) fun vu s3 ⟨u,H3,I3,pu,q3⟩=>?_)
 rw [evalPart_none]
 refine wpAny_pure ?_
 have I4:Inv X pins σ H3 { s3 with heap:=s3.heap.push { cls:=.type "slice",data:=.fields #[vl,vu,.none] } }:=I3.kept (t':=s3.toks) fun b ob q=>Heap.get?_push_of_some _ q
 obtain ⟨T,id,hT,ht,hg⟩:=hr pins { s3 with heap:=s3.heap.push { cls:=.type "slice",data:=.fields #[vl,vu,.none] } } σ H3 x v vl vu l u s3.heap.objs.size Q I4 r1 (Heap.IsSliceOf.new ..) pl pu q3
 show wpAny (model X.prog X.w) X.A (subscriptTail e (.Slice lo hi none p2) v (.ref s3.heap.objs.size)) (EP X pins σ Q) X.xe { s3 with heap:=s3.heap.push { cls:=.type "slice",data:=.fields #[vl,vu,.none] } }
 exact tail_any (ops:=[.ref s3.heap.objs.size,v]) ht hT hg (by with_unfolding_all rfl)
def fh (xs:List V) (lo hi:Option Int):List V:=(xs.drop (HT.AY xs.length 0 lo)).take (HT.AY xs.length xs.length hi - HT.AY xs.length 0 lo)
theorem CQ (xs:List V) (lo hi:Option Int):(fh xs lo hi).length≤xs.length:=by
 unfold fh
 rw [List.length_take,List.length_drop]
 omega
end
end L2
namespace L2
open PySem PySem.Spec PyProof.Rows
def GU (n:Nat) (i:Int):Option Nat:=if 0≤i then (if i < n then some i.toNat else none) else if -(n:Int)≤i then some (i+n).toNat else none
def xJ {α:Type} (xs:List α) (i:Int):Option α:=(GU xs.length i).bind fun j=>xs[j]?
theorem GV {n:Nat} {i:Int} {j:Nat} (h:GU n i=some j):seqIndex? i n=some j∧j < n∧-(n:Int)≤i∧i < n:=by
 unfold GU at h
 by_cases h0:0≤i
 ·rw [if_pos h0] at h
  by_cases h1:i < n
  ·rw [if_pos h1] at h
   have e:i.toNat=j:=Option.some.inj h
   exact ⟨by rw [seqIndex_of h0 h1,e],by omega,by omega,h1⟩
  ·rw [if_neg h1] at h;cases h
 ·rw [if_neg h0] at h
  by_cases h1:-(n:Int)≤i
  ·rw [if_pos h1] at h
   have e:(i+n).toNat=j:=Option.some.inj h
   exact ⟨by rw [seqIndex_neg (by omega) h1,e],by omega,h1,by omega⟩
  ·rw [if_neg h1] at h;cases h
theorem GW {α:Type} {xs:List α} {i:Int} {v:α} (h:xJ xs i=some v):∃ j,seqIndex? i xs.length=some j∧xs[j]?=some v∧j < xs.length∧-(xs.length:Int)≤i∧i < xs.length:=by
 unfold xJ at h
 cases e:GU xs.length i with
 | none=>rw [e] at h;cases h
 | some j =>
  rw [e] at h
  obtain ⟨h1,h2,h3,h4⟩:=GV e
  exact ⟨j,h1,h,h2,h3,h4⟩
theorem jw {α:Type} {xs:List α} {j:Nat} {v:α} (h:xs[j]?=some v):xJ xs (j:Int)=some v:=by
 have hj:j < xs.length:=(List.getElem?_eq_some_iff.mp h).1
 have e:GU xs.length (j:Int)=some j:=by
  unfold GU
  rw [if_pos (by omega),if_pos (by omega)];simp
 unfold xJ;rw [e];exact h
def Ma (b:Expr):Prop:=∀ o i,subscripted b false o i=operate [o,i] (getItem o i)
def Sv (X:Cx) (r:R2):Prop :=
 ∀ (value slice:Expr) (pins:List (Addr × Obj)) (s:Shared) (σ:St) (H:Hp) (x y:V) (v u:Value) (Q:VK),Inv X pins σ H s→RelV x v→RelV y u→r x y H Q →
  subscripted slice false v u=operate [v,u] (getItem v u)→wpAny (model X.prog X.w) X.A (subscriptTail value slice v u) (EP X pins σ Q) X.xe s
def Ys (X:Cx) (id:String) (r:V→List V→Hp→VK→Prop):Prop :=
 ∀ (pins:List (Addr × Obj)) (s:Shared) (σ:St) (H:Hp) (x:V) (xs:List V) (v:Value) (us:List Value) (Q:VK),Inv X pins σ H s→RelV x v→av xs us→r x xs H Q →
  wpAny (model X.prog X.w) X.A (call (.builtin id) (v :: us)) (EP X pins σ Q) X.xe s
section
variable {X:Cx} {a b:Expr} {ta tb:TE} {pos:Pos}
theorem ag {r:R2} (hr:Sv X r) (ha:PE X a ta) (hb:PE X b tb) (hs:Ma b):PE X (.Subscript a b pos) (Rr r ta tb):=by
 intro pins s σ H Q I h
 exact Subscript_ (Pm ha hb I h fun v u s2 x y H2 I2 rx ry q=>hr a b pins s2 σ H2 x y v u Q I2 rx ry q (hs _ _))
def Sw (K:PySem.W.Frag):R2:=fun x y H Q=>∃ p xs i v,x=.ref p∧y=.int i∧aT K H p xs∧xJ xs i=some v∧Q v H
def Sx (K:PySem.W.Frag):R2:=fun x y H Q=>∃ p xs i v,x=.ref p∧y=.int i∧jZ K H p xs∧xJ xs i=some v∧Q v H
theorem Mb:Sv X (Sw X.K):=by
 intro value slice pins s σ H x y v u Q I rx ry h hs
 obtain ⟨p,xs,i,z,rfl,rfl,hq,he,q⟩:=h
 cases rx
 obtain ⟨t,rfl⟩:=ry
 obtain ⟨aq,r,pl,hz⟩:=I.list hq
 obtain ⟨j,h1,h2,h3,h4,h5⟩:=GW he
 obtain ⟨w,ew,Pz⟩:=r.get h2
 have hl:=r.length
 have hn:=xf
 have fin:EP X pins σ Q w s:=⟨z,H,I,Pz,q⟩
 by_cases h0:0≤i
 ·have hj:i.toNat=j:=by
   rw [seqIndex_of h0 h5] at h1
   exact Option.some.inj h1
  exact item_listR pl.isList h0 (by omega) (by rw [hj];simpa using ew) fin hs
 ·have hj:(i+(aq.toArray.size:Int)).toNat=j:=by
   rw [seqIndex_neg (by omega) h4] at h1
   rw [List.size_toArray,← hl]
   exact Option.some.inj h1
  exact subscriptTail_builtinR (x:=w) pl.isList.typeIs slot_list_getitem.lookup
   (wpAny_getItem_list_neg (Q:=fun r s'=>r=w∧EP X pins σ Q r s') pl.isList (by omega) (by rw [List.size_toArray] <;> omega) (by omega) (by rw [hj];simpa using ew) ⟨rfl,fin⟩) hs
theorem P0:Sv X (Sx X.K):=by
 intro value slice pins s σ H x y v u Q I rx ry h hs
 obtain ⟨p,xs,i,z,rfl,rfl,hq,he,q⟩:=h
 cases rx
 obtain ⟨t,rfl⟩:=ry
 obtain ⟨aq,r,pl,hz⟩:=I.tuple hq
 obtain ⟨j,h1,h2,h3,h4,h5⟩:=GW he
 obtain ⟨w,ew,Pz⟩:=r.get h2
 have hl:=r.length
 have hn:=xf
 have fin:EP X pins σ Q w s:=⟨z,H,I,Pz,q⟩
 exact subscriptTail_builtinR (x:=w) pl.typeIs slot_tuple_getitem.lookup
  (getItem_tuple (j:=j) (Q:=fun r s'=>r=w∧EP X pins σ Q r s') pl (by omega) (by omega) (by rw [List.size_toArray,← hl];exact h1) (by simpa using ew) ⟨rfl,fin⟩) hs
theorem ED (aq:List Value) (n j:Nat) (u:Value):Obj.mapSeq (·.setIfInBounds j u) { cls:=.type "list",data:=.seq aq.toArray n }={ cls:=.type "list",data:=.seq (aq.set j u).toArray n }:=by
 simp [Obj.mapSeq]
theorem Inv.lst {pins:List (Addr × Obj)} {σ:St} {H:Hp} {s:Shared} {p:Addr} {xs:List V} (I:Inv X pins σ H s) (h:H p=some (.lst xs)) :
  ∃ (aq:List Value) (n:Nat),av xs aq∧s.heap.get? p=some { cls:=.type "list",data:=.seq aq.toArray n }∧xs.length≤sizeLine:=by
 obtain ⟨z,aq,n,r,e⟩:=I.bh p _ h
 exact ⟨aq,n,r,e,z⟩
theorem Inv.P1 {pins:List (Addr × Obj)} {σ:St} {H:Hp} {s:Shared} {p:Addr} {xs ys:List V} {aq its':List Value} {n n':Nat} {f:Obj→Obj} (I:Inv X pins σ H s) (h:H p=some (.lst xs))
  (ho:s.heap.get? p=some { cls:=.type "list",data:=.seq aq.toArray n }) (hf:f { cls:=.type "list",data:=.seq aq.toArray n }={ cls:=.type "list",data:=.seq its'.toArray n' }) (r:av ys its') (hz:ys.length≤sizeLine) (t:Nat) :
  Inv X pins σ (upd H p (.lst ys)) { s with heap:=s.heap.update p f,toks:=t }:=by
 have e:(s.heap.update p f).get? p=some { cls:=.type "list",data:=.seq its'.toArray n' }:=by
  rw [Heap.get?_update_self f ho (by rw [hf] <;> rfl),hf]
 refine I.write (x:=p) (e:=p) (by rw [h];trivial) (.inl rfl) (fun b u hb q=>(Heap.get?_update_other _ _ (Ne.symm hb)).trans q) ⟨_,e⟩ ?_
 exact ⟨hz,its',n',r,e⟩
def Sy:V→V→V→Hp→(Hp→Prop)→Prop:=fun o i v H Q=>∃ p xs k j,o=.ref p∧i=.int k∧H p=some (.lst xs)∧GU xs.length k=some j∧Q (upd H p (.lst (xs.set j v)))
theorem set_list:Sg X Sy:=by
 intro pins s σ H o i v ov iv u Q I ro ri rv h
 obtain ⟨p,xs,k,j,rfl,rfl,hp,hj,q⟩:=h
 cases ro
 obtain ⟨t,rfl⟩:=ri
 obtain ⟨aq,n,r,ho,hz⟩:=I.lst hp
 obtain ⟨h1,h2,h3,h4⟩:=GV hj
 have hl:=r.length
 have hn:=xf
 have I':Inv X pins σ (upd H p (.lst (xs.set j v))) { s with heap:=s.heap.update p (Obj.mapSeq (·.setIfInBounds j u)) } :=
  I.P1 hp ho (ED aq n j u) (r.set rv j) (by rw [List.length_set];exact hz) s.toks
 by_cases h0:0≤k
 ·have hk:k.toNat=j:=by
   rw [seqIndex_of h0 h4] at h1
   exact Option.some.inj h1
  exact PySem.W.ki_setAt ho h0 (by omega) (by rw [List.size_toArray,← hl];exact h4) (by rw [hk];exact ⟨_,I',q⟩)
 ·have hk:(k+(aq.toArray.size:Int)).toNat=j:=by
   rw [seqIndex_neg (by omega) h3] at h1
   rw [List.size_toArray,← hl]
   exact Option.some.inj h1
  exact PySem.W.ki_setBack ho (by omega) (by rw [List.size_toArray,← hl];exact h3) (by omega) (by rw [hk];exact ⟨_,I',q⟩)
theorem BA (lo hi:Option Int) (n:Nat):(sliceBounds lo hi none n).1=((HT.AY n 0 lo:Nat):Int)∧(sliceBounds lo hi none n).2.1=((HT.AY n n hi:Nat):Int)∧(sliceBounds lo hi none n).2.2=1:=by
 refine ⟨?_,?_,rfl⟩
 ·cases lo with
  | none=>simp [sliceBounds,HT.AY]
  | some i =>
   simp only [sliceBounds,HT.AY,Option.getD_none,show (1:Int) > 0 by decide,if_true]
   by_cases h:i < 0
   ·simp only [h,if_true] <;> omega
   ·simp only [h,if_false] <;> omega
 ·cases hi with
  | none=>simp [sliceBounds,HT.AY]
  | some i =>
   simp only [sliceBounds,HT.AY,Option.getD_none,show (1:Int) > 0 by decide,if_true]
   by_cases h:i < 0
   ·simp only [h,if_true] <;> omega
   ·simp only [h,if_false] <;> omega
theorem zN (aq:List Value) (lo hi:Option Int):slicePick aq.toArray lo hi none=((aq.drop (HT.AY aq.length 0 lo)).take (HT.AY aq.length aq.length hi - HT.AY aq.length 0 lo)).toArray:=by
 obtain ⟨h1,h2,h3⟩:=BA lo hi aq.toArray.size
 unfold slicePick
 rw [h1,h2,h3]
 simp only [sliceRange_one,pick_run,List.size_toArray] <;> rfl
def Sz (K:PySem.W.Frag):V→Option Int→Option Int→Hp→VK→Prop:=fun x lo hi H Q=>∃ a xs,x=.ref a∧aT K H a xs∧∀ p,H p=none→Q (.ref p) (upd H p (.lst (fh xs lo hi)))
theorem Mc:Wb X (Sz X.K):=by
 intro pins s σ H x v vl vu lo hi sl Q I rx hs pl pu h
 obtain ⟨a,xs,rfl,hx,q⟩:=h
 cases rx
 obtain ⟨aq,r,ht,hz⟩:=I.list hx
 have hlen:=r.length
 refine ⟨"list",_,slot_list_getitem.lookup,ht.isList.typeIs,?_⟩
 refine wpAny_getItem_list_slice ht.isList hs pl pu .none (by simp) ?_ (by rw [List.size_toArray] <;> omega)
 rw [zN,← hlen]
 refine ⟨.ref s.heap.objs.size,_,I.laid (t':=s.toks) (o:=.lst (fh xs lo hi)) (fun b ob q=>Heap.get?_push_of_some _ q) (Nat.le_refl _) ?_,rfl,q _ (I.bh.fresh (Nat.le_refl _))⟩
 exact ⟨Nat.le_trans (CQ xs lo hi) hz,_,0,(r.drop (HT.AY xs.length 0 lo)).take (HT.AY xs.length xs.length hi - HT.AY xs.length 0 lo),Heap.get?_push_size _ rfl⟩
def GX:V→Bool
 | .bH=>true
 | .bl _=>true
 | .int _=>true
 | .str _=>true
 | _=>false
def Md:V→V→Bool
 | .bH,.bH=>true
 | .bl a,.bl b=>a == b
 | .bl a,.int b=>(if a then 1 else 0) == b
 | .int a,.bl b=>a == (if b then 1 else 0)
 | .int a,.int b=>a == b
 | .str a,.str b=>a == b
 | _,_=>false
theorem vH {A:Around} {s:Shared} {y x:V} {u v:Value} (ry:RelV y u) (rx:RelV x v) (fy:GX y=true) (fx:GX x=true):SeqAt.EqAt A s u v (Md y x):=by
 cases y with
 | bH =>
  cases ry
  cases x with
  | bH=>cases rx;exact SeqAt.EqAt.same _
  | bl b=>cases rx;exact SeqAt.EqAt.none_bool b
  | int b=>obtain ⟨t,rfl⟩:=rx;exact SeqAt.EqAt.none_int b t
  | str b=>obtain ⟨t,rfl⟩:=rx;exact SeqAt.EqAt.none_str b t
  | _=>exact absurd (show false=true from fx) Bool.false_ne_true
 | bl a =>
  cases ry
  cases x with
  | bH=>cases rx;exact SeqAt.EqAt.bool_none a
  | bl b=>cases rx;exact SeqAt.EqAt.bool_bool a b
  | int b=>obtain ⟨t,rfl⟩:=rx;exact SeqAt.EqAt.bool_int a b t
  | str b=>obtain ⟨t,rfl⟩:=rx;exact SeqAt.EqAt.bool_str a b t
  | _=>exact absurd (show false=true from fx) Bool.false_ne_true
 | int a =>
  obtain ⟨t',rfl⟩:=ry
  cases x with
  | bH=>cases rx;exact SeqAt.EqAt.int_none a t'
  | bl b=>cases rx;exact SeqAt.EqAt.int_bool a t' b
  | int b=>obtain ⟨t,rfl⟩:=rx;exact SeqAt.EqAt.int_int a t' b t
  | str b=>obtain ⟨t,rfl⟩:=rx;exact SeqAt.EqAt.int_str a t' b t
  | _=>exact absurd (show false=true from fx) Bool.false_ne_true
 | str a =>
  obtain ⟨t',rfl⟩:=ry
  cases x with
  | bH=>cases rx;exact SeqAt.EqAt.str_none a t'
  | bl b=>cases rx;exact SeqAt.EqAt.str_bool a t' b
  | int b=>obtain ⟨t,rfl⟩:=rx;exact SeqAt.EqAt.str_int a t' b t
  | str b=>obtain ⟨t,rfl⟩:=rx;exact SeqAt.EqAt.str_str a t' b t
  | _=>exact absurd (show false=true from fx) Bool.false_ne_true
 | _=>exact absurd (show false=true from fy) Bool.false_ne_true
theorem BB:uG X (.builtin "len") (fun xs H Q=>∃ p ys,xs=[.ref p]∧(aT X.K H p ys∨jZ X.K H p ys)∧Q (.int ys.length) H):=by
 intro pins s σ H xs us Q I r h
 obtain ⟨p,ys,rfl,hq,q⟩:=h
 obtain ⟨u,rfl,rx⟩:=vals1 r
 cases rx
 have hn:=xf
 rcases hq with hq | hq
 ·obtain ⟨aq,r',pl,hz⟩:=I.list hq
  have hlen:=r'.length
  exact Calls.call_len_list pl.isList (by simp only [List.size_toArray] <;> omega) ⟨.int ys.length,H,I.tok _,⟨s.toks+1,by rw [List.size_toArray,hlen]⟩,q⟩
 ·obtain ⟨aq,r',pl,hz⟩:=I.tuple hq
  have hlen:=r'.length
  exact len_tuple pl (by simp only [List.size_toArray] <;> omega) ⟨.int ys.length,H,I.tok _,⟨s.toks+1,by rw [List.size_toArray,hlen]⟩,q⟩
theorem BC:uG X (.type "list") (fun xs H Q=>∃ p ys,xs=[.ref p]∧(aT X.K H p ys∨jZ X.K H p ys)∧∀ l,H l=none→Q (.ref l) (upd H l (.lst ys))):=by
 intro pins s σ H xs us Q I r h
 obtain ⟨p,ys,rfl,hq,q⟩:=h
 obtain ⟨u,rfl,rx⟩:=vals1 r
 cases rx
 have fin:∀ (aq:List Value),av ys aq→ys.length≤sizeLine→∀ (h':Heap) (c':Nat),(∀ b o',s.heap.get? b=some o'→h'.get? b=some o') →
   h'.get? s.heap.objs.size=some { cls:=.type "list",dict:=none,data:=.seq aq.toArray c',slots:=#[] }→EP X pins σ Q (.ref s.heap.objs.size) { s with heap:=h' }:=fun aq r' hz h' c' kp e =>
  ⟨.ref s.heap.objs.size,_,I.laid (t':=s.toks) kp (Nat.le_refl _) (show eM X.prog X.w _ h' _ (.lst ys) from ⟨hz,aq,c',r',e⟩),rfl,q _ (I.bh.fresh (Nat.le_refl _))⟩
 rcases hq with hq | hq
 ·obtain ⟨aq,r',pl,hz⟩:=I.list hq
  have hlen:=r'.length
  obtain ⟨o,ho,hc,n,hd⟩:=pl.isList
  exact call_list_seq p (.inl rfl) ho hc hd (fun h' c' kp e=>fin aq r' hz h' c' kp e) (by simp only [List.size_toArray] <;> omega)
 ·obtain ⟨aq,r',pl,hz⟩:=I.tuple hq
  have hlen:=r'.length
  obtain ⟨o,ho,hc,n,hd⟩:=pl
  exact call_list_seq p (.inr rfl) ho hc hd (fun h' c' kp e=>fin aq r' hz h' c' kp e) (by simp only [List.size_toArray] <;> omega)
def Yt (K:PySem.W.Frag) (T:String) (x:V) (H:Hp):Prop:=match x with
 | .str _=>T="str"
 | .int _=>T="int"
 | .ref p=>(T="list"∧∃ xs,aT K H p xs)∨(T="tuple"∧∃ o,K.lookup p=some o∧o.cls=.type "tuple"∧o.dict=none) ∨
   (T="dict"∧((∃ mG,H p=some (.dK mG))∨∃ mG,H p=some (.dT mG)))∨(T="set"∧∃ S n,H p=some (.set S n))
 | _=>False
theorem P2 {pins:List (Addr × Obj)} {σ:St} {H:Hp} {s:Shared} {T:String} {x:V} {v:Value} (I:Inv X pins σ H s) (r:RelV x v) (ty:Yt X.K T x H) :
  s.TypeIs v T∧∀ a,v=.ref a→∃ ob,s.heap.get? a=some ob∧ob.dict=none:=by
 cases x with
 | str z =>
  obtain ⟨t,rfl⟩:=r
  cases (show T="str" from ty)
  exact ⟨typeIs_str s z t,fun _ e=>nomatch e⟩
 | int i =>
  obtain ⟨t,rfl⟩:=r
  cases (show T="int" from ty)
  exact ⟨typeIs_int s i t,fun _ e=>nomatch e⟩
 | ref p =>
  cases r
  rcases ty with ⟨rfl,xs,hq⟩ | ⟨rfl,o,hk,hc,hd⟩ | ⟨rfl,hk⟩ | ⟨rfl,S,n,hk⟩
  ·obtain ⟨aq,_,pl,_⟩:=I.list hq
   refine ⟨pl.isList.typeIs,fun a e=>?_⟩
   cases e
   obtain ⟨o,n,e,c,hd,_⟩:=pl
   exact ⟨o,e,hd⟩
  ·refine ⟨⟨o,I.uB p o hk,hc⟩,fun a e=>?_⟩
   cases e
   exact ⟨o,I.uB _ o hk,hd⟩
  ·have z:∃ o,s.heap.get? p=some o∧o.ExactDict:=by
    rcases hk with ⟨mG,hk⟩ | ⟨mG,hk⟩
    ·obtain ⟨_,_,_,_,o,_,_,e,ex,_⟩:=I.bh p _ hk
     exact ⟨o,e,ex⟩
    ·obtain ⟨_,_,_,_,o,_,_,e,ex,_⟩:=I.bh p _ hk
     exact ⟨o,e,ex⟩
   obtain ⟨o,e,ex⟩:=z
   refine ⟨⟨o,e,ex.1⟩,fun a e2=>?_⟩
   cases e2
   exact ⟨o,e,ex.2.1⟩
  ·obtain ⟨o,_,_,_,e,ex,_⟩:=I.bh p _ hk
   refine ⟨⟨o,e,ex.1⟩,fun a e2=>?_⟩
   cases e2
   exact ⟨o,e,ex.2.1⟩
 | _=>exact False.elim ty
def Wc (K:PySem.W.Frag) (T:String) (r:V→List V→Hp→VK→Prop) (to:TE) (t:TA):TE:=fun σ H Q=>to σ H fun x H1=>Yt K T x H1∧t σ H1 fun xs H2=>r x xs H2 Q
variable {o e:Expr} {es:List Expr} {to:TE} {t:TA} {name:Str} {apos m8:Pos} {T id:String} {r:V→List V→Hp→VK→Prop}
theorem Od (pa:PlainAttrs T) (slot:Slot T name id) (Wd:typeOf (.builtin id)=pure (.type "method_descriptor")) (hm:Ys X id r) (ho:PE X o to) (ha:PA X (e :: es) t)
  (Jr:attributeBase o name X.env (eval o X.env)=eval o X.env:=by rfl)
  (P4:((backTo m8 (starEach (e :: es) X.env)).all (fun x=>!x.1) && (backToKw m8 (keywordEach [] X.env)).all (fun x=>x.1.isSome)
   && decide ((e :: es).length+([]:List Keyword).length+(if ([]:List Keyword).isEmpty then 0 else 1) < 30))=true:=by rfl)
  (Js:(apos.endLine == m8.line)=true:=by rfl) (hs:starEach (e :: es) X.env=(false,eval e X.env) :: starEach es X.env:=by rfl) (EE:(backTo m8 (starEach es X.env)).any (·.1)=false:=by rfl) :
  PE X (.Call (.Attribute o name apos) (e :: es) [] m8) (Wc X.K T r to t):=by
 intro pins s σ H Q I h
 refine wpAny_Call_method_late Jr P4 Js rfl (bV (ho pins s σ H _ I h) fun v s1 ⟨x,H1,I1,r1,ty,q1⟩=>?_)
 obtain ⟨h1,h2⟩:=P2 I1 r1 ty
 refine ⟨T,id,pa,slot,Wd,h1,h2,?_⟩
 have hA:=ha m8 pins s1 σ H1 _ I1 q1
 rw [hs] at hA ⊢
 refine Calls.callWith_builtin (by show (false || (backTo m8 (starEach es X.env)).any (·.1))=false;rw [EE] <;> rfl) (Calls.evalArgs_plain ?_)
 exact bV hA fun us s2 ⟨vs,H2,I2,r2,q2⟩=>hm pins s2 σ H2 x vs v us Q I2 r1 r2 q2
end
end L2
namespace L2
open PySem PySem.Spec PyProof.Rows
def Yu (X:Cx) (id:String) (r:V→List V→Hp→VK→Prop):Prop :=
 ∀ (pins:List (Addr × Obj)) (s:Shared) (σ:St) (H:Hp) (x:V) (xs:List V) (v:Value) (us:List Value) (Q:VK),Inv X pins σ H s→RelV x v→av xs us→r x xs H Q →
  wpAny (model X.prog X.w) X.A (call (.builtin id) (v :: us)) (EP X pins σ Q) X.xe s
theorem av.one:∀ {x:V} {us:List Value},av [x] us→∃ u,us=[u]∧RelV x u
 | _,_,.cons r .nil=>⟨_,rfl,r⟩
theorem av.two:∀ {x y:V} {us:List Value},av [x,y] us→∃ u v,us=[u,v]∧RelV x u∧RelV y v
 | _,_,_,.cons r (.cons q .nil)=>⟨_,_,rfl,r,q⟩
theorem av.eraseIdx:∀ {xs:List V} {us:List Value} (i:Nat),av xs us→av (xs.eraseIdx i) (us.eraseIdx i)
 | _,_,_,.nil=>.nil
 | _,_,0,.cons _ t=>t
 | _,_,i+1,.cons r t=>.cons r (av.eraseIdx i t)
theorem av.reverse {xs:List V} {us:List Value} (h:av xs us):av xs.reverse us.reverse:=by
 induction h with
 | nil=>exact .nil
 | cons r t ih=>rw [List.reverse_cons,List.reverse_cons];exact av.append ih (.cons r .nil)
theorem av.rep {xs:List V} {us:List Value} (h:av xs us):∀ k:Nat,av (List.replicate k xs).flatten (List.replicate k us).flatten
 | 0=>.nil
 | k+1=>by
  rw [List.replicate_succ,List.replicate_succ,List.flatten_cons,List.flatten_cons]
  exact av.append h (av.rep h k)
theorem AZ {α:Type}:∀ (l:List α) (i:Nat),(l.eraseIdx i).length≤l.length
 | [],_=>Nat.le_refl _
 | _ :: _,0=>Nat.le_succ _
 | _ :: r,i+1=>Nat.succ_le_succ (AZ r i)
theorem foldl_rep (aq:List Value):∀ (k:Nat) (acc:List Value),
  List.foldl (fun x1 x2=>x1 ++ x2) acc.toArray (List.replicate k aq.toArray)=(acc ++ (List.replicate k aq).flatten).toArray
 | 0,acc=>by simp
 | k+1,acc=>by
  have e:acc.toArray ++ aq.toArray=(acc ++ aq).toArray:=by simp
  have e2:(acc ++ aq) ++ (List.replicate k aq).flatten=acc ++ (List.replicate (k+1) aq).flatten:=by
   rw [List.replicate_succ,List.flatten_cons,List.append_assoc]
  rw [← e2,← foldl_rep aq k (acc ++ aq),← e,List.replicate_succ,List.foldl_cons]
section
variable {X:Cx} {pins:List (Addr × Obj)} {σ:St} {H:Hp} {s:Shared} {l b:Addr} {xs ys zs:List V}
theorem Inv.S9 {aq its':List Value} {n:Nat} {f:Array Value→Array Value} {t':Nat} (I:Inv X pins σ H s) (hH:H l=some (.lst xs))
  (e:s.heap.get? l=some { cls:=.type "list",data:=.seq aq.toArray n }) (hf:f aq.toArray=its'.toArray) (hv:av ys its') (hz:ys.length≤sizeLine) :
  Inv X pins σ (upd H l (.lst ys)) { s with heap:=s.heap.update l (Obj.mapSeq f),toks:=t' }:=by
 have q:=PySem.IsL.update e f
 rw [hf] at q
 refine I.write (x:=l) (e:=l) (by rw [hH];exact trivial) (.inl rfl) (fun b' u hb hu=>(Heap.get?_update_other s.heap (Obj.mapSeq f) (Ne.symm hb)).trans hu) ⟨_,q⟩ ?_
 exact ⟨hz,its',_,hv,q⟩
theorem Inv.TB {aq:List Value} {t':Nat} (I:Inv X pins σ H s) (hv:av ys aq) (hz:ys.length≤sizeLine) :
  Inv X pins σ (upd H s.heap.objs.size (.lst ys)) { s with heap:=s.heap.push { cls:=.type "list",data:=.seq aq.toArray },toks:=t' } :=
 I.laid (fun _ _ q=>Heap.get?_push_of_some _ q) (Nat.le_refl _) ⟨hz,aq,0,hv,Heap.get?_push_size _ rfl⟩
theorem Inv.fresh (I:Inv X pins σ H s):H s.heap.objs.size=none:=I.bh.fresh (Nat.le_refl _)
theorem Inv.P6 (I:Inv X pins σ H s) (hH:H l=some (.lst xs)):xs.length≤sizeLine∧∃ (aq:List Value) (n:Nat),av xs aq∧xs.length=aq.length∧s.heap.get? l=some { cls:=.type "list",data:=.seq aq.toArray n }:=by
 obtain ⟨z,aq,n,r,e⟩:=I.bh l _ hH
 exact ⟨z,aq,n,r,r.length,e⟩
theorem Jt {n:Nat} (h:n≤sizeLine):Builtin.List.listTooLong n=false:=by
 unfold Builtin.List.listTooLong
 exact decide_eq_false (by omega)
end
section
variable {X:Cx}
def GY:V→List V→Hp→VK→Prop:=fun x vs H Q=>∃ l xs y,x=.ref l∧vs=[y]∧H l=some (.lst xs)∧xs.length < sizeLine∧Q .bH (upd H l (.lst (xs ++ [y])))
theorem ba:Yu X "list.append" GY:=by
 intro pins s σ H x vs v us Q I rx rv h
 obtain ⟨l,xs,y,rfl,rfl,hH,hz,q⟩:=h
 cases rx
 obtain ⟨u,rfl,ru⟩:=rv.one
 obtain ⟨z,aq,n,r,hl,e⟩:=I.P6 hH
 refine call_meets F.slot_list_append ⟨_,e,rfl⟩ F.entry_list_append (F.args_list_append_2 _ _) (PySem.list_append l aq.toArray n u (by rw [List.size_toArray];omega)) ⟨e,?_⟩
 refine ⟨.bH,_,I.S9 (its':=aq ++ [u]) hH e (by simp) (r.append (.cons ru .nil)) ?_,rfl,q⟩
 rw [List.length_append,List.length_singleton]
 omega
def P7:V→List V→Hp→VK→Prop:=fun x vs H Q=>∃ l xs i k y,x=.ref l∧vs=[.int i]∧H l=some (.lst xs)∧-(2 ^ 63)≤i∧i < 2 ^ 63∧seqIndex? i xs.length=some k∧xs[k]?=some y∧Q y (upd H l (.lst (xs.eraseIdx k)))
theorem Ju:Yu X "list.pop" P7:=by
 intro pins s σ H x vs v us Q I rx rv h
 obtain ⟨l,xs,i,k,y,rfl,rfl,hH,h1,h2,hk,hy,q⟩:=h
 cases rx
 obtain ⟨u,rfl,ru⟩:=rv.one
 obtain ⟨t,rfl⟩:=ru
 obtain ⟨z,aq,n,r,hl,e⟩:=I.P6 hH
 obtain ⟨w,hw,Pz⟩:=r.get hy
 refine call_meets F.slot_list_pop ⟨_,e,rfl⟩ F.entry_list_pop (F.args_list_pop_2 _ _)
  (MeetsSeq.list_pop_at l aq.toArray n i t k w (fitsIndex_both h1 h2) (by rw [List.size_toArray,← hl];exact hk) (by rw [← Array.getElem?_toList];exact hw) (by rw [List.size_toArray];omega)) ⟨e,?_⟩
 refine ⟨y,_,I.S9 (its':=aq.eraseIdx k) hH e ?_ (r.eraseIdx k) ?_,Pz,q⟩
 ·show aq.toArray.eraseIdxIfInBounds k=(aq.eraseIdx k).toArray
  rw [List.eraseIdxIfInBounds_toArray]
 ·have:=AZ xs k
  omega
def We:R2:=fun x y H Q=>∃ l k xs,x=.ref l∧y=.int k∧H l=some (.lst xs)∧-(2 ^ 63)≤k∧k < 2 ^ 63∧xs.length * k.toNat≤sizeLine ∧
 ∀ p,H p=none→Q (.ref p) (upd H p (.lst (List.replicate k.toNat xs).flatten))
theorem len_rep {α:Type} (xs:List α) (k:Nat):(List.replicate k xs).flatten.length=k * xs.length:=by
 induction k with
 | zero=>simp
 | succ k ih=>rw [List.replicate_succ,List.flatten_cons,List.length_append,ih,Nat.succ_mul,Nat.add_comm]
theorem xk:ot X (binaryOp .Mult) We:=by
 intro pins s σ H x y v u Q I rx ry h
 obtain ⟨l,k,xs,rfl,rfl,hH,h1,h2,hz,q⟩:=h
 cases rx
 obtain ⟨t,rfl⟩:=ry
 obtain ⟨z,aq,n,r,hl,e⟩:=I.P6 hH
 have hlen:aq.toArray.size * k.toNat≤sizeLine:=by rw [List.size_toArray,← hl];exact hz
 have Wf:¬ aq.toArray.size * k.toNat > (2 ^ 63 - 1) / 8:=by
  have:(sizeLine:Nat)≤(2 ^ 63 - 1) / 8:=by decide
  omega
 have Wg:¬ (!Builtin.List.listFitsIndex k)=true:=by
  rw [fitsIndex_both h1 h2]
  exact Bool.false_ne_true
 have TC:¬ Builtin.List.listTooLong (aq.toArray.size * k.toNat)=true:=by
  rw [Jt hlen]
  exact Bool.false_ne_true
 have Wh:List.foldl (fun x1 x2=>x1 ++ x2) #[] (List.replicate (if aq.toArray.isEmpty=true then 0 else k.toNat) aq.toArray)=(List.replicate k.toNat aq).flatten.toArray:=by
  have f0:∀ m:Nat,List.foldl (fun x1 x2=>x1 ++ x2) #[] (List.replicate m aq.toArray)=(List.replicate m aq).flatten.toArray:=fun m=>by
   have:=foldl_rep aq m []
   rw [List.nil_append] at this
   exact this
  rw [f0]
  cases aq with
  | nil=>simp
  | cons a r'=>rw [if_neg (by simp)]
 refine wpAny_binaryOp_repeat_ref (T:="list") (U:="int") (by decide) ⟨_,e,rfl⟩ (fun s'=>typeIs_int s' k t) noFill_list_mul F.fills_int_mul F.slot_int_rmul repeat_list F.slot_int_index.lookup
  (call_meets F.slot_int_rmul (typeIs_int s k t) F.entry_int_rmul (F.args_int_rmul_2 _ _) (int___rmul___int_list k t l aq.toArray n)
   ⟨e,rfl,⟨_,e,rfl⟩,call_meets F.slot_list_mul ⟨_,e,rfl⟩ F.entry_list_mul (F.args_list_mul_2 _ _) (AutoListH.list___mul___list_int_3 l aq.toArray n k t Wg Wf TC) ⟨e,?_⟩⟩)
 rw [Wh]
 exact ⟨.ref _,_,I.TB (t':=s.toks) (r.rep k.toNat) (by rw [len_rep,Nat.mul_comm];exact hz),rfl,q _ I.fresh⟩
end
section
variable {prog:Program} {w:World} {A:Around} {E:Value→Shared→Prop} {s:Shared}
end
section
variable {X:Cx}
end
end L2
namespace Att
open PySem PySem.W PySem.Calls PyProof.Rows
theorem wu {P:Params} {h:Heap}:∀ (ns:List Int) (vs:List Value),WellAll P h vs (ns.map WData.int)→IntsAre vs ns:=by
 intro ns
 induction ns with
 | nil =>
  intro vs w
  rw [List.map_nil] at w
  cases w
  exact .nil
 | cons n ns ih =>
  intro vs w
  rw [List.map_cons] at w
  cases w with
  | cons a b =>
   cases a
   exact .cons _ _ (ih _ b)
theorem Hk {l:OpenLaw} {n:Nat} (hn:l.most=some n) {P:Params} {h:Heap} {args:List WData} {vals:List Value}
  (Me:l.row.toRowW.claim.pre args=true) (Wi:WellAll P h vals args) :
  ∃ a vs ns,vals=[Value.ref a]∧args=[WData.list (ns.map WData.int)]∧h.get? a=some { cls:=.type "list",data:=.seq vs.toArray }∧IntsAre vs ns∧ns.length≤n:=by
 have hsh:WShape.hasAll [] args [.list .int]=true:=(pre_splitW Me).1
 have hc:l.pre.holds [] { args:=args }=true:=(pre_splitW Me).2
 obtain ⟨d,r,rfl,h1,h2⟩:=hasAllW_cons hsh
 obtain rfl:=hasAllW_nil h2
 obtain ⟨xs,rfl,h3⟩:=hasW_list h1
 obtain ⟨ns,rfl⟩:=items_int h3
 have hlen:ns.length≤n:=by
  unfold OpenLaw.pre at hc
  have h4:(WTm.not (.lt (.lit (.int (n:Int))) (.len (.arg 0)))).holds [] { args:=[.list (ns.map .int)] }=true:=by
   have h4:=(holds_andW hc).1
   rw [hn] at h4
   exact h4
  have h5:=condW_of h4 (w_not (w_lt w_lit (w_len_list (w_arg rfl))))
  rw [List.length_map] at h5
  refine Nat.le_of_not_lt fun q=>?_
  have q':(n:Int) < ((ns.length:Nat):Int):=by omega
  first
   | (rw [decide_eq_true q'] at h5;exact absurd h5 (by decide))
   | (simp at h5;omega)
 cases Wi with
 | cons w1 w2 =>
  cases w2
  cases w1 with
  | list ho Mf=>exact ⟨_,_,ns,rfl,rfl,ho,wu ns _ Mf,hlen⟩
theorem Hl (l:OpenLaw) (args:List WData):l.row.toRowW.claim.post args (.bool true) args=true :=
 postW_of (r:=l.row.toRowW) (X:=(true == true))
  (show WShape.has [] (.bool true) .bool=true by first | rfl | decide | simp [WShape.has,WShape.arms,WShape.armsAll])
  (show (WTm.eq .res (.lit (.bool true))).value [] { args:=args,res:=some (.bool true),after:=args }=some (.bool (true == true)) from w_eq_bool (w_res rfl) w_lit) rfl
theorem CS {l:OpenLaw} {n:Nat} {q:Program} {loose:List Str} {XP:(Str→Option Value)→Heap→Prop} {YP:World→Heap→Prop} {d:DefRec}
  (hn:l.most=some n) (TF:d.params.defaults=[])
  (call:∀ (w:World) (s₀ s₁:Shared) (mg mb:Str→Option Value) (fa:Addr) (o:Obj) (pm cd doc:Value) (a:Addr) (vs:List Value) (ns:List Int),
   Ground q loose [] XP w s₀ mg mb s₁.heap→YP w s₁.heap →
   s₁.heap.get? fa=some o→o.data=.func (docDef d.name d.params d.body d.scope pm cd doc)→s₁.heap.CodeRec cd d.name→mg d.name=some (.ref fa) →
   s₁.heap.get? a=some { cls:=.type "list",data:=.seq vs.toArray }→IntsAre vs ns→ns.length≤n→s₁.gens=#[] →
   codeAny (model l.prog w) callerA (.call (.ref fa) ⟨[.ref a],[]⟩) (fun r s'=>r=.ok (.ret (.bool true))∧OldK s₁.heap s'.heap∧s'.os=s₁.os∧AllBare s'.gens) s₁) :
  WalkO q loose XP YP l.row.toRowW d [] (fun f vs=>PySem.call f vs):=by
 intro w s₀ s₁ mg mb G Y fa o pm cd doc dV kV ho hd AS hD P8 hg args vals as Me aA3 hrd Wi hlo
 obtain rfl:dV=.none:=Dflts.none hD TF
 obtain rfl:kV=.none:=Dflts.noKw hD
 obtain ⟨a,vs,ns,rfl,rfl,P9,hints,hlen⟩:=Hk hn Me Wi
 refine enter_call (codeAny_mono (call w s₀ s₁ mg mb fa o pm cd doc a vs ns G Y ho (fd_plain hd) AS P8 P9 hints hlen hg) fun r s' hq=>?_)
 obtain ⟨rfl,h2,h3,h4⟩:=hq
 exact ⟨.inl ⟨.bool true,.bool true,[],rfl,fun _=>rfl,.bool true,Hl l _,fun _=>⟨List.Pairwise.nil,fun _ hm=>(nomatch hm)⟩⟩,h2,h3,h4⟩
section
variable {prog:Program} {w:World} {A:Around} {E:Value→Shared→Prop} {s:Shared} {K:Frag}
end
end Att
namespace L2
open PySem PySem.Spec PyProof.Rows
theorem Aa:∀ {vs:List Value} {ns:List Int},IntsAre vs ns→av (ns.map V.int) vs
 | _,_,.nil=>.nil
 | _,_,.cons n t h=>.cons ⟨t,rfl⟩ (Aa h)
def QA (H:Hp):Prop:=∀ b,H b=none∨∃ o xs,H b=some (.Df o (.lst xs))
theorem Jv {P:Program} {w:World} {K:PySem.W.Frag} {mg mb:Str→Option Value} {CX:A7} {k:Nat} {fa a:Addr} {fd:FuncData} {x:Str} {sp:Sp} {s₁:Shared} {vs:List Value} {ns:List Int}
  (KX:K.In s₁.heap) (Yv:s₁.heap.Ns mainGlobals mg) (hb:s₁.heap.Ns builtinsNs mb) (hbb:∀ x:Str,x≠"__name__"→mb x=bootBuiltins x) (Wj:s₁.heap.NoLimit) (hg:s₁.gens=#[])
  (ha:s₁.heap.get? a=some { cls:=.type "list",data:=.seq vs.toArray }) (hi:IntsAre vs ns) (hl:ns.length≤sizeLine) (hr:gy k callerA)
  (F:∀ base:Heap,K.In base→base.Ns mainGlobals mg→bO P w K mg base CX k fa fd [x] sp) (TH:∀ (s:Shared) (u:Value),BindsTo s fd ⟨[u],[]⟩ [(x,u)])
  (zM:∀ H:Hp,QA H→aT K H a (ns.map V.int)→sp [.ref a] H (fun v _=>v=.bl true) fun _ _ _=>False)
  (Wk:∀ H e s',CX [] H s₁ (fun _ _ _=>False) e s'→False) :
  codeAny (model P w) callerA (.call (.ref fa) ⟨[.ref a],[]⟩) (fun r s'=>r=.ok (.ret (.bool true))∧OldK s₁.heap s'.heap∧s'.os=s₁.os∧AllBare s'.gens) s₁:=by
 have rv:=Aa hi
 have Wl:=hi.length
 have core:∀ H:Hp,QA H→aT K H a (ns.map V.int)→u5 P w H s₁.heap→(∀ b,H b≠none→b=a)→(H a≠none→K.lookup a=none) →
   codeAny (model P w) callerA (.call (.ref fa) ⟨[.ref a],[]⟩) (fun r s'=>r=.ok (.ret (.bool true))∧OldK s₁.heap s'.heap∧s'.os=s₁.os∧AllBare s'.gens) s₁:=by
  intro H hO hS bh hA hK
  have GZ:∀ {b:Addr} {o:Obj},s₁.heap.get? b=some o→H b=none→(A0 s₁.heap H).get? b=some o:=fun e n=>JU e n
  have MY:∀ {b:Addr} {o:Obj} {es:Array DictEntry} {ep:Nat},s₁.heap.get? b=some o→o.data=.dict es ep→H b=none:=fun {b o es ep} e d=>by
   cases q:H b with
   | none=>rfl
   | some u =>
    have e':b=a:=hA b (by rw [q];simp)
    subst e'
    rw [ha] at e;cases e
    have d':Data.seq vs.toArray _=Data.dict es ep:=d
    cases d'
  have Vh:∀ {b:Addr} {m:Str→Option Value},s₁.heap.Ns b m→(A0 s₁.heap H).Ns b m:=fun {b m} ⟨o,es,ep,e,d,r⟩=>⟨o,es,ep,GZ e (MY e d),d,r⟩
  have Yw:K.In (A0 s₁.heap H):=fun b o e=>GZ (KX b o e) (by
   cases q:H b with
   | none=>rfl
   | some u =>
    have e':b=a:=hA b (by rw [q];simp)
    subst e'
    rw [hK (by rw [q];simp)] at e;cases e)
  have hM:Mod K mg (A0 s₁.heap H):=⟨Yw,Vh Yv,⟨mb,Vh hb,hbb⟩,let ⟨mc,h1,h2⟩:=Wj;⟨mc,Vh h1,h2⟩⟩
  have e0:A8 P w K mg (A0 s₁.heap H) callerA [] s₁ H:=⟨rfl,hM,fun b o e=>MP e,Nat.le_of_eq (HV _ _),trivial,fun b hb=>absurd (show b ∈ ([]:List Addr) from hb) (by simp),bh,.of_eq hg⟩
  refine codeAny_mono ((F _ Yw (Vh Yv)).run callerA [] s₁ H ⟨[.ref a],[]⟩ [.ref a] [.ref a] _ _ hr e0 (TH s₁ (.ref a)) (.cons rfl .nil) (zM H hO hS)) fun r s' h=>?_
  cases r with
  | error e=>exact (Wk H e s' h).elim
  | ok fl =>
   cases fl with
   | next=>exact False.elim h
   | brk=>exact False.elim h
   | cont=>exact False.elim h
   | ret u =>
    obtain ⟨v,H',os,bare,un,Wm,r',q⟩:=h
    have q':v=.bl true:=q
    subst q'
    obtain rfl:u=Value.bool true:=r'
    refine ⟨rfl,OldK.of_keep fun b o e=>?_,os,bare⟩
    cases q:H b with
    | none=>exact un.keep b o e q (by intro z;exact absurd (show b ∈ ([]:List Addr) from z) (by simp)) (by simp)
    | some u =>
     rcases hO b with z | ⟨ob,xs,z⟩
     ·rw [q] at z;cases z
     ·have z2:=un.rn b ob _ z
      obtain ⟨e1,_⟩:=bh b _ z
      obtain ⟨e2,_⟩:=Wm b _ z2
      rw [e] at e1;cases e1
      exact e2
 cases hk:K.lookup a with
 | some o =>
  have e:=KX a o hk
  rw [ha] at e
  cases e
  refine core (fun _=>none) (fun _=>.inl rfl) (.inr ⟨_,vs.toArray,_,hk,rfl,rfl,rfl,by rw [List.size_toArray,Wl];exact hl,by simpa using rv⟩) (fun b u z=>by have z':(none:Option HO)=some u:=z;cases z') (fun b z=>absurd rfl z) fun z=>absurd rfl z
 | none =>
  refine core (fun b=>if b=a then some (.Df { cls:=.type "list",data:=.seq vs.toArray } (.lst (ns.map V.int))) else none) (fun b=>?_) (.inl (.inr ⟨{ cls:=.type "list",data:=.seq vs.toArray },if_pos rfl⟩)) (fun b u z=>?_) (fun b z=>?_) fun _=>hk
  ·by_cases hb:b=a
   ·exact .inr ⟨_,_,if_pos hb⟩
   ·exact .inl (if_neg hb)
  ·by_cases hb:b=a
   ·have z':=(if_pos hb).symm.trans z
    cases z'
    subst hb
    exact ⟨ha,by rw [List.length_map];exact hl,vs,_,rv,ha⟩
   ·have z':=(if_neg hb).symm.trans z
    cases z'
  ·by_cases hb:b=a
   ·exact hb
   ·exact absurd (if_neg hb) z
end L2
namespace L2
open PySem PySem.Spec PyProof.Rows
abbrev cO {K:PySem.W.Frag} {h:Heap} (_:K.In h):PySem.W.Frag:=K
theorem Mg {l:PySem.W.OpenLaw} {n k:Nat} {q:Program} {loose:List Str} {XP:(Str→Option Value)→Heap→Prop} {YP:World→Heap→Prop} {d:DefRec} {K:Params→PySem.W.Frag} {CX:World→A7} {sp:World→Sp} {x:Str}
  (hn:l.most=some n) (Vf:n≤sizeLine) (TF:d.params.defaults=[]) (hr:gy k callerA)
  (hY:∀ (w:World) (h:Heap),YP w h→(K w.params).In h)
  (F:∀ (w:World) (mg:Str→Option Value) (fa:Addr) (h:Heap),(K w.params).In h→h.Ns mainGlobals mg→mg d.name=some (.ref fa) →
   ∃ fd:FuncData,(∀ (s:Shared) (u:Value),BindsTo s fd ⟨[u],[]⟩ [(x,u)]) ∧
    ∀ base:Heap,(K w.params).In base→base.Ns mainGlobals mg→bO l.prog w (K w.params) mg base (CX w) k fa fd [x] (sp w))
  (zM:∀ (w:World) (H:Hp) (a:Addr) (ns:List Int),ns.length≤n→QA H→aT (K w.params) H a (ns.map V.int)→sp w [.ref a] H (fun v _=>v=.bl true) fun _ _ _=>False)
  (Wk:∀ (w:World) (H:Hp) (s:Shared) (e:Value) (s':Shared),CX w [] H s (fun _ _ _=>False) e s'→False) :
  PySem.W.WalkO q loose XP YP l.row.toRowW d [] (fun f vs=>PySem.call f vs):=by
 refine Att.CS hn TF fun w s₀ s₁ mg mb fa o pm cd doc a vs ns G Y ho hd AS P8 P9 hints hlen hg=>?_
 have KX:=hY w _ Y
 obtain ⟨fd,hb,hF⟩:=F w mg fa _ KX G.T.g P8
 exact Jv KX G.T.g G.T.b G.T.builtins G.T.nolimit hg P9 hints (Nat.le_trans hlen Vf) hr hF hb (fun H hO hS=>zM w H a ns hlen hO hS) fun H e s'=>Wk w H s₁ e s'
end L2
namespace L2
open PySem PySem.Spec PyProof.Rows
def bI (s:Stmt):Arguments:=match s with
 | .FunctionDef _ a _ _ _ _ _ _ _ _=>a
 | _=>{ posonlyargs:=[],args:=[],vararg:=none,kwonlyargs:=[],kw_defaults:=[],kwarg:=none,defaults:=[] }
def bA (s:Stmt):List Stmt:=match s with
 | .FunctionDef _ _ b _ _ _ _ _ _ _=>b
 | _=>[]
def aG (s:Stmt):Scope:=match s with
 | .FunctionDef _ _ _ _ _ _ sc _ _ _=>sc
 | _=>{ kind:=.function,names:=[],isGenerator:=false,isCoroutine:=false }
abbrev E0:XK:=fun _ _ _=>False
structure mI (K:PySem.W.Frag) (x qual:Str) (st:Stmt) (f:Addr) (fd:FuncData):Prop where
 ex:∃ (oc:Value) (od:Option Addr) (kV doc pm:Value) (an:Option Addr) (bM ct:Value) (Dh:Array (Option Value)),
  fd=PySem.W.fnOf x qual (bI st) (bA st) (aG st) .none kV doc pm an bM ct∧K.lookup f=some ⟨oc,od,.func fd,Dh⟩∧PySem.W.codeIn K bM qual=true
 kp:PySem.W.keepIn K (.ref f)=true
section
variable {P:Program} {w:World} {K:PySem.W.Frag} {mg:Str→Option Value} {base:Heap}
theorem mI.binds {x qual:Str} {st:Stmt} {f:Addr} {fd:FuncData} {ps:List Str} (F:mI K x qual st f fd)
  (h:∀ (kV doc pm:Value) (an:Option Addr) (bM ct:Value) (us:List Value),us.length=ps.length→bindArgs (PySem.W.fnOf x qual (bI st) (bA st) (aG st) .none kV doc pm an bM ct) ⟨us,[]⟩=pure (ps.zip us)):Binds K fd ps []:=by
 obtain ⟨oc,od,kV,doc,pm,an,bM,ct,Dh,rfl,lk,AS⟩:=F.ex
 exact .all (h kV doc pm an bM ct)
theorem fj {x qual:Str} {st:Stmt} {f:Addr} {oc:Value} {od an:Option Addr} {Dh:Array (Option Value)} {kV doc pm bM ct:Value} (l:K.lookup f=some ⟨oc,od,.func (PySem.W.fnOf x qual (bI st) (bA st) (aG st) .none kV doc pm an bM ct),Dh⟩)
  (c:PySem.W.codeIn K bM qual=true) (k:PySem.W.keepIn K (.ref f)=true):mI K x qual st f (PySem.W.fnOf x qual (bI st) (bA st) (aG st) .none kV doc pm an bM ct):=⟨⟨oc,od,kV,doc,pm,an,bM,ct,Dh,rfl,l,c⟩,k⟩
end
section
variable {X:Cx}
theorem pv (i:Nat) {x:Str} {pos:Pos} (hN:X.N[i]?=some x:=by rfl) (hv:Vb X.env.scope x:=by first | exact Or.inl rfl | exact Or.inr (Or.inl rfl) | exact Or.inr (Or.inr rfl)) (hd:(x == ("__debug__":Str))=false:=by decide)
  (AS:(x == ("__classdict__":Str))=false:=by decide):PE X (.Name x pos) (rq i):=Pd hN hv hd AS
end
theorem eS {A B:Prop} (h:B):if false=true then A else B:=by
 rw [if_neg Bool.false_ne_true]
 exact h
theorem ja {A B:Prop} (h:A):if true=true then A else B:=by
 rw [if_pos rfl]
 exact h
theorem QB {c A B:Prop} [Decidable c] (h1:c→A) (h2:¬ c→B):if c then A else B:=by
 by_cases h:c
 ·rw [if_pos h]
  exact h1 h
 ·rw [if_neg h]
  exact h2 h
def aJ (H H':Hp):Prop:=∀ b o,H b=some o→H' b=some o
theorem aJ.refl (H:Hp):aJ H H:=fun _ _ h=>h
theorem aJ.trans {H H1 H2:Hp} (a:aJ H H1) (b:aJ H1 H2):aJ H H2:=fun c o h=>b c o (a c o h)
theorem aJ.free {H H':Hp} (e:aJ H H') {l:Addr} (h:H' l=Option.none):H l=Option.none:=by
 cases q:H l with
 | none=>rfl
 | some o =>
  rw [e l o q] at h
  cases h
theorem aJ.seq {K:PySem.W.Frag} {H H':Hp} {a:Addr} {xs:List V} (e:aJ H H') (h:aT K H a xs):aT K H' a xs:=by
 rcases h with (h | ⟨o,h⟩) | h
 ·exact .inl (.inl (e _ _ h))
 ·exact .inl (.inr ⟨o,e _ _ h⟩)
 ·exact .inr h
end L2
namespace L2
open PySem PySem.Spec PyProof.Rows
def b5 (env:Env):List (Str × NameKind)→List (Str × Addr)→List (Str × Addr)
 | [],acc=>acc
 | (n,k) :: r,acc=>if k == .free then b5 env r ((n,(env.cells.lookup n).getD 0) :: acc) else b5 env r acc
theorem sD {env:Env}:∀ (names:List (Str × NameKind)) (acc:List (Str × Addr)) (f:Str × NameKind→List (Str × Addr)→Sem (ForInStep (List (Str × Addr)))),
  (∀ n k cs,f (n,k) cs=if k == .free then (do let c ← cellOf env n;pure (.yield ((n,c) :: cs))) else pure (.yield cs)) →
  (∀ x ∈ names,x.2=.free→∃ c,env.cells.lookup x.1=some c)→(forIn names acc f:Sem _)=pure (b5 env names acc)
 | [],acc,f,_,_=>rfl
 | (n,k) :: r,acc,f,hf,h=>by
  rw [List.forIn_cons,hf]
  unfold b5
  by_cases hk:(k == .free)=true
  ·rw [if_pos hk,if_pos hk]
   obtain ⟨c,e⟩:=h (n,k) List.mem_cons_self (beq_iff_eq.mp hk)
   have e':env.cells.lookup n=some c:=e
   unfold cellOf
   rw [e']
   show (forIn r ((n,c) :: acc) f:Sem _)=_
   exact sD r _ f hf fun x hx=>h x (List.mem_cons_of_mem _ hx)
  ·rw [if_neg hk,if_neg hk]
   show (forIn r acc f:Sem _)=_
   exact sD r _ f hf fun x hx=>h x (List.mem_cons_of_mem _ hx)
theorem sE {env:Env} {scope:Scope} (h:∀ x ∈ scope.names,x.2=.free→∃ c,env.cells.lookup x.1=some c):closureFor scope env=pure (b5 env scope.names []):=by
 unfold closureFor
 have e:=sD scope.names [] (fun x cs=>if x.2 == .free then (do let c ← cellOf env x.1;pure (.yield ((x.1,c) :: cs))) else pure (.yield cs)) (fun _ _ _=>rfl) h
 show (forIn scope.names [] _ >>= fun cs=>pure cs)=_
 exact (uN e)
where
 uN {α:Type} {a:α} {t:Sem α} (e:t=pure a):(t >>= fun x=>pure x)=pure a:=by rw [e];rfl
theorem c8 {env:Env} {x:Str} {c:Addr}:∀ (names:List (Str × NameKind)) (acc:List (Str × Addr)),(∀ y ∈ names,y.2=.free→∃ c,env.cells.lookup y.1=some c) →
  (∀ c,acc.lookup x=some c→env.cells.lookup x=some c)→(b5 env names acc).lookup x=some c→env.cells.lookup x=some c
 | [],acc,_,ha,h=>ha c h
 | (n,k) :: r,acc,hn,ha,h=>by
  unfold b5 at h
  have hr:∀ y ∈ r,y.2=.free→∃ c,env.cells.lookup y.1=some c:=fun y hy=>hn y (List.mem_cons_of_mem _ hy)
  by_cases hk:(k == .free)=true
  ·rw [if_pos hk] at h
   obtain ⟨c',e⟩:=hn (n,k) List.mem_cons_self (beq_iff_eq.mp hk)
   have e':env.cells.lookup n=some c':=e
   rw [e'] at h
   refine c8 r _ hr (fun c2 q=>?_) h
   rw [List.lookup_cons] at q
   cases hb:x == n with
   | true=>rw [hb] at q;cases q;rw [beq_iff_eq.mp hb];exact e'
   | false=>rw [hb] at q;exact ha c2 q
  ·rw [if_neg hk] at h
   exact c8 r _ hr ha h
theorem m9 {env:Env} {x:Str}:∀ (names:List (Str × NameKind)) (acc:List (Str × Addr)),((x,NameKind.free) ∈ names∨∃ c,acc.lookup x=some c)→∃ c,(b5 env names acc).lookup x=some c
 | [],acc,h=>h.elim (fun z=>by cases z) id
 | (n,k) :: r,acc,h=>by
  unfold b5
  by_cases hk:(k == .free)=true
  ·rw [if_pos hk]
   refine m9 r _ ?_
   cases hb:x == n with
   | true=>exact .inr ⟨_,by rw [List.lookup_cons,hb]⟩
   | false =>
    rcases h with h | ⟨c,h⟩
    ·rcases List.mem_cons.mp h with e | e
     ·injection e with e1 _
      rw [e1] at hb;simp at hb
     ·exact .inl e
    ·exact .inr ⟨c,by rw [List.lookup_cons,hb];exact h⟩
  ·rw [if_neg hk]
   refine m9 r _ ?_
   rcases h with h | h
   ·rcases List.mem_cons.mp h with e | e
    ·injection e with _ e2
     rw [← e2] at hk;exact absurd rfl hk
    ·exact .inl e
   ·exact .inr h
theorem sF {x:Str} {c:Addr}:∀ (names:List (Str × NameKind)) (n:Nat) (acc:List (Str × Addr)),(cellsFrom n names acc).lookup x=some c→acc.lookup x=some c∨(n≤c∧(x,NameKind.cell) ∈ names)
 | [],_,_,h=>.inl h
 | (y,k) :: r,n,acc,h=>by
  unfold cellsFrom at h
  by_cases hk:(k == .cell)=true
  ·rw [if_pos hk] at h
   rcases sF r _ _ h with q | ⟨q1,q2⟩
   ·rw [List.lookup_cons] at q
    cases hb:x == y with
    | true=>rw [hb] at q;cases q;exact .inr ⟨Nat.le_refl _,by rw [beq_iff_eq.mp hb,beq_iff_eq.mp hk];exact List.mem_cons_self⟩
    | false=>rw [hb] at q;exact .inl q
   ·exact .inr ⟨by omega,List.mem_cons_of_mem _ q2⟩
  ·rw [if_neg hk] at h
   rcases sF r _ _ h with q | ⟨q1,q2⟩
   ·exact .inl q
   ·exact .inr ⟨q1,List.mem_cons_of_mem _ q2⟩
theorem qv {x:Str} {lo:Nat}:∀ (names:List (Str × NameKind)) (n:Nat) (acc:List (Str × Addr)),lo≤n→((x,NameKind.cell) ∈ names∨∃ c,acc.lookup x=some c∧lo≤c)→∃ c,(cellsFrom n names acc).lookup x=some c∧lo≤c
 | [],_,_,_,h=>h.elim (fun z=>by cases z) id
 | (y,k) :: r,n,acc,hn,h=>by
  unfold cellsFrom
  by_cases hk:(k == .cell)=true
  ·rw [if_pos hk]
   refine qv r _ _ (by omega) ?_
   cases hb:x == y with
   | true=>exact .inr ⟨n,by rw [List.lookup_cons,hb],hn⟩
   | false =>
    rcases h with h | ⟨c,h,hc⟩
    ·rcases List.mem_cons.mp h with e | e
     ·injection e with e1 _
      rw [e1] at hb;simp at hb
     ·exact .inl e
    ·exact .inr ⟨c,by rw [List.lookup_cons,hb];exact h,hc⟩
  ·rw [if_neg hk]
   refine qv r _ _ hn ?_
   rcases h with h | h
   ·rcases List.mem_cons.mp h with e | e
    ·injection e with _ e2
     rw [← e2] at hk;exact absurd rfl hk
    ·exact .inl e
   ·exact .inr h
theorem nA {x:Str}:∀ (names:List (Str × NameKind)) (n:Nat) (acc:List (Str × Addr)),(x,NameKind.cell) ∉ names→(cellsFrom n names acc).lookup x=acc.lookup x
 | [],_,_,_=>rfl
 | (y,k) :: r,n,acc,h=>by
  unfold cellsFrom
  have hr:(x,NameKind.cell) ∉ r:=fun z=>h (List.mem_cons_of_mem _ z)
  by_cases hk:(k == .cell)=true
  ·rw [if_pos hk,nA r _ _ hr,List.lookup_cons]
   cases hb:x == y with
   | true=>exact absurd (by rw [beq_iff_eq.mp hb,beq_iff_eq.mp hk];exact List.mem_cons_self) h
   | false=>rfl
  ·rw [if_neg hk];exact nA r _ _ hr
theorem vI:∀ (names:List (Str × NameKind)) (n:Nat) (acc:List (Str × Addr)),(∀ x c,acc.lookup x=some c→c < n)→(∀ x y c,acc.lookup x=some c→acc.lookup y=some c→x=y) →
  ∀ x y c,(cellsFrom n names acc).lookup x=some c→(cellsFrom n names acc).lookup y=some c→x=y
 | [],_,_,_,h=>h
 | (z,k) :: r,n,acc,jS,h=>by
  unfold cellsFrom
  by_cases hk:(k == .cell)=true
  ·rw [if_pos hk]
   refine vI r (n+1) _ (fun x c e=>?_) fun x y c e1 e2=>?_
   ·rw [List.lookup_cons] at e
    cases hb:x == z with
    | true=>rw [hb] at e;cases e;exact Nat.lt_succ_self _
    | false=>rw [hb] at e;exact Nat.lt_succ_of_lt (jS x c e)
   ·rw [List.lookup_cons] at e1 e2
    cases hb:x == z with
    | true =>
     rw [hb] at e1;cases e1
     cases MB:y == z with
     | true=>rw [beq_iff_eq.mp hb,beq_iff_eq.mp MB]
     | false=>rw [MB] at e2;exact absurd (jS y _ e2) (Nat.lt_irrefl _)
    | false =>
     rw [hb] at e1
     cases MB:y == z with
     | true=>rw [MB] at e2;cases e2;exact absurd (jS x _ e1) (Nat.lt_irrefl _)
     | false=>rw [MB] at e2;exact h x y c e1 e2
  ·rw [if_neg hk];exact vI r n _ jS h
theorem lR {x:Str} {c:Addr}:∀ (names:List (Str × NameKind)) (h:Heap) (acc:List (Str × Addr)),(∀ y c,acc.lookup y=some c→∃ v,h.IsCell c v) →
  (cellsFrom h.objs.size names acc).lookup x=some c→∃ v,(pushCells h names).IsCell c v
 | [],h,acc,ha,e=>ha x c e
 | (y,k) :: r,h,acc,ha,e=>by
  unfold cellsFrom at e
  unfold pushCells
  by_cases hk:(k == .cell)=true
  ·rw [if_pos hk] at e ⊢
   rw [show h.objs.size+1=(h.push { cls:=.type "cell",data:=.cell none }).objs.size from (Heap.size_push ..).symm] at e
   refine lR r _ _ (fun z c' q=>?_) e
   rw [List.lookup_cons] at q
   cases hb:z == y with
   | true=>rw [hb] at q;cases q;exact ⟨none,_,Heap.get?_push_size _ rfl,rfl⟩
   | false =>
    rw [hb] at q
    obtain ⟨v,w⟩:=ha z c' q
    exact ⟨v,w.keeps fun b o e=>Heap.get?_push_of_some _ e⟩
  ·rw [if_neg hk] at e ⊢
   exact lR r _ _ ha e
section
variable {M:Model} {A:Around} {E:Value→Shared→Prop} {s:Shared}
theorem wX {scope:Scope} {globals:Addr} {cl:List (Str × Addr)} {qual:Str} {env:Env} {Q:Env→Shared→Prop}
  (h:Q { scope,locals:=s.heap.objs.size,globals,cells:=cellsFrom (s.heap.objs.size+1) scope.names cl,qual,func:=none,code:=env.code,frame:=env.frame,builtins:=env.builtins }
   { s with heap:=pushCells (s.heap.push { cls:=.type "dict",data:=.dict #[] }) scope.names }) :
  wpAny M A (newFunctionEnv scope globals cl [] qual none .none (some env)) Q E s:=by
 simp only [newFunctionEnv,Option.isSome_some,if_true]
 refine wpAny_bind (wpAny_alloc ?_)
 refine wpAny_bind (wpAny_layCells _ (fun name kind cells=>by cases hkc:kind == NameKind.cell <;> simp [hkc]) _ _ _ _ ?_)
 rw [show ({ s with heap:=s.heap.push { cls:=.type "dict",data:=.dict #[] } }:Shared).heap.objs.size=s.heap.objs.size+1 from Heap.size_push ..]
 refine wpAny_bind ?_
 rw [List.forIn_nil]
 exact wpAny_pure (wpAny_pure h)
end
section
variable {prog:Program} {w:World} {A:Around} {R:Result→Shared→Prop} {s:Shared}
theorem uO {elt target iter:Expr} {ifs:List Expr} {scope:Scope} {pos:Pos} {it acc:Value} {env:Env} (I:Nat→Shared→Prop)
  (turn:∀ n s,I n s→wpAny (model prog w) A (pyNext it) (fun r s₁=>match r with
   | none=>R (.ok .next) s₁
   | some v=>wpAny (model prog w) A (letOwnedTupleGo target it v) (fun _ s₁'=>wpAny (model prog w) A (assign target env v) (fun _ s₂ =>
     wpAny (model prog w) A (forIn ifs true fun c r=>if r=true then do let ok ← isTrue c env (eval c env);pure (ForInStep.yield ok) else pure (ForInStep.yield r)) (fun ok s₃ =>
      if ok=true then wpAny (model prog w) A (eval elt env) (fun x s₄ =>
       wpAny (model prog w) A (call (.builtin "list.append") [acc,x]) (fun _ s₅=>∃ m,m < n∧I m s₅) (fun _ _=>False) s₄) (fun _ _=>False) s₃
      else ∃ m,m < n∧I m s₃) (fun _ _=>False) s₂) (fun _ _=>False) s₁') (fun _ _=>False) s₁) (fun _ _=>False) s)
  (n:Nat) (h:I n s) :
  codeAny (model prog w) A (.compLoop (.ListComp elt [⟨target,iter,ifs,0⟩] scope pos) 0 it acc env) R s:=by
 refine codeAny_loop rfl I (fun n s hI=>?_) n h
 show wpAny _ A ((compTurn (.ListComp elt [⟨target,iter,ifs,0⟩] scope pos) 0 it acc env).onRaise (fun x=>do noteFrame x env;theTreesLotGoes x)) _ _ s
 refine wpAny_noted ?_
 rw [compTurn_list]
 refine wpAny_bind (wpAny_standAt (wpAny_bind (wpAny_mono (turn n s hI) (fun r s₁ h₁=>?_) fun _ _ h'=>h'.elim)))
 cases r with
 | none=>exact wpAny_pure h₁
 | some v =>
  refine wpAny_bind (wpAny_mono h₁ (fun _ s₁' h₁'=>?_) fun _ _ h'=>h'.elim)
  refine wpAny_bind (wpAny_mono h₁' (fun _ s₂ h₂=>wpAny_bind (wpAny_mono h₂ (fun ok s₃ h₃=>?_) fun _ _ h'=>h'.elim)) fun _ _ h'=>h'.elim)
  cases ok with
  | false=>exact wpAny_pure ⟨rfl,h₃⟩
  | true =>
   exact wpAny_bind (wpAny_bind (wpAny_mono h₃ (fun x s₄ h₄=>wpAny_bind (wpAny_mono h₄ (fun _ s₅ h₅=>wpAny_pure (wpAny_pure ⟨rfl,h₅⟩)) fun _ _ h'=>h'.elim)) fun _ _ h'=>h'.elim))
end
end L2
namespace L2
open PySem PySem.Spec PyProof.Rows
def rL (X:Cx) (Nc:List Str) (scope:Scope) (C:Addr) (fp:List Addr) (s:Shared) (H:Hp):Cx where
 prog:=X.prog
 w:=X.w
 K:=X.K
 mg:=X.mg
 base:=X.base
 A:=X.A
 N:=Nc
 s₀:=s
 H₀:=H
 env:=compEnvC scope (cellsFrom (C+1) scope.names (b5 X.env scope.names [])) C X.env
 outer:=X.stack
 stack:=X.stack
 ex:=fp
 fn:=fun x=>scope.names.contains (x,NameKind.cell)
 calm:=X.calm
 pn:=[]
 xe:=fun _ _=>False
structure dZ (X:Cx) (Nc:List Str) (ix:List (Option Nat)) (scope:Scope):Prop where
 kind:scope.kind=.function
 nd:Nc.Nodup
 len:ix.length=Nc.length
 loc:∀ x ∈ scope.names,x.2=.local→scope.names.lookup x.1=some .local
 free:∀ x ∈ scope.names,x.2=.free→X.env.kindOf x.1=some .cell∨X.env.kindOf x.1=some .free
 once:∀ x,(x,NameKind.free) ∈ scope.names→(x,NameKind.cell) ∉ scope.names
 out:∀ (i j:Nat) (x:Str),ix[i]?=some (some j)→Nc[i]?=some x→X.N[j]?=some x∧scope.names.lookup x=some .free
def vJ (ix:List (Option Nat)) (σ:St):St:=ix.map fun o=>o.bind fun j=>(σ[j]?).bind id
theorem nB {env:Env} {x:Str}:∀ {names:List (Str × NameKind)} {k:NameKind},names.lookup x=some k →
  (names.map fun (n,k)=>if (k == NameKind.free && env.scope.kind == .function && env.kindOf n == some .cell) then (n,NameKind.cell) else (n,k)).lookup x =
   some (if (k == NameKind.free && env.scope.kind == .function && env.kindOf x == some .cell) then NameKind.cell else k)
 | [],_,h=>by simp at h
 | (n,k') :: r,k,h=>by
  show List.lookup x ((if (k' == NameKind.free && env.scope.kind == .function && env.kindOf n == some .cell)=true then (n,NameKind.cell) else (n,k')) :: _)=_
  cases hx:x == n with
  | true =>
   simp only [List.lookup_cons,hx] at h
   cases h
   have e:=beq_iff_eq.mp hx
   subst e
   split <;> simp [List.lookup_cons]
  | false =>
   simp only [List.lookup_cons,hx] at h
   have ih:=nB (env:=env) (names:=r) h
   split <;> (simp only [List.lookup_cons,hx];exact ih)
theorem uP {env:Env} {x:Str}:∀ {names:List (Str × NameKind)},names.lookup x=none →
  (names.map fun (n,k)=>if (k == NameKind.free && env.scope.kind == .function && env.kindOf n == some .cell) then (n,NameKind.cell) else (n,k)).lookup x=none
 | [],_=>rfl
 | (n,k') :: r,h=>by
  show List.lookup x ((if (k' == NameKind.free && env.scope.kind == .function && env.kindOf n == some .cell)=true then (n,NameKind.cell) else (n,k')) :: _)=_
  cases hx:x == n with
  | true=>simp only [List.lookup_cons,hx] at h;cases h
  | false =>
   simp only [List.lookup_cons,hx] at h
   have ih:=uP (env:=env) (names:=r) h
   split <;> (simp only [List.lookup_cons,hx];exact ih)
section
variable {X:Cx} {pins:List (Addr × Obj)} {σ:St} {H:Hp} {s:Shared} {Nc:List Str} {ix:List (Option Nat)} {scope:Scope} {fp:List Addr}
theorem dZ.cells (S:dZ X Nc ix scope) (I:Inv X pins σ H s):∀ x ∈ scope.names,x.2=.free→∃ c,X.env.cells.lookup x.1=some c:=fun x hx hf=>I.ok.has x.1 (S.free x hx hf)
theorem Ab (S:dZ X Nc ix scope) (I:Inv X pins σ H s) {C:Addr} {x:Str} {c:Addr} (e:(cellsFrom (C+1) scope.names (b5 X.env scope.names [])).lookup x=some c) :
  X.env.cells.lookup x=some c∨(C+1≤c∧(x,NameKind.cell) ∈ scope.names):=by
 rcases sF _ _ _ e with q | q
 ·exact .inl (c8 _ _ (S.cells I) (fun _ z=>by simp at z) q)
 ·exact .inr q
theorem CT (S:dZ X Nc ix scope) (I:Inv X pins σ H s) (TK:∀ b ∈ fp,oq X pins H b) (ho:∀ b ∈ fp,∃ o,s.heap.get? b=some o) {t':Nat} :
  Inv (rL X Nc scope (s.heap.objs.size+1) fp s H) [] (vJ ix σ) (upd H s.heap.objs.size (.lst []))
   { s with heap:=pushCells ((s.heap.push { cls:=.type "list",dict:=none,data:=.seq ([]:List Value).toArray }).push { cls:=.type "dict",data:=.dict #[] }) scope.names,toks:=t' }:=by
 have keep:∀ b o,s.heap.get? b=some o→(pushCells ((s.heap.push { cls:=.type "list",dict:=none,data:=.seq ([]:List Value).toArray }).push { cls:=.type "dict",data:=.dict #[] }) scope.names).get? b=some o :=
  fun b o e=>pushCells_keeps _ _ b o (Heap.get?_push_of_some _ (Heap.get?_push_of_some _ e))
 have hD:(pushCells ((s.heap.push { cls:=.type "list",dict:=none,data:=.seq ([]:List Value).toArray }).push { cls:=.type "dict",data:=.dict #[] }) scope.names).get? s.heap.objs.size =
   some { cls:=.type "list",dict:=none,data:=.seq ([]:List Value).toArray }:=pushCells_keeps _ _ _ _ (Heap.get?_push_of_some _ (Heap.get?_push_size _ rfl))
 have qt:(s.heap.push { cls:=.type "list",dict:=none,data:=.seq ([]:List Value).toArray }).objs.size=s.heap.objs.size+1:=Heap.size_push ..
 have fresh:∀ a:Addr,s.heap.objs.size≤a→H a=none:=fun a h=>I.bh.fresh h
 have L8:∀ x c,X.env.cells.lookup x=some c→c < s.heap.objs.size:=fun x c e=>let ⟨_,q⟩:=I.cell x c e;q.lt
 have clt:∀ x c,(b5 X.env scope.names []).lookup x=some c→c < s.heap.objs.size+1+1:=fun x c e =>
  Nat.lt_succ_of_lt (Nat.lt_succ_of_lt (L8 x c (c8 _ _ (S.cells I) (fun _ z=>by simp at z) e)))
 have Wn:∀ x y c,(b5 X.env scope.names []).lookup x=some c→(b5 X.env scope.names []).lookup y=some c→x=y:=fun x y c e1 e2 =>
  I.ok.inj x y c (c8 _ _ (S.cells I) (fun _ z=>by simp at z) e1) (c8 _ _ (S.cells I) (fun _ z=>by simp at z) e2)
 refine ⟨⟨I.ok.mod,S.kind,I.ok.glob,I.ok.blt,Nat.le_succ _,vI _ _ _ clt Wn,fun x hx=>?has,fun x c hf e=>?JV,I.ok.hd,I.ok.frames,.inl rfl,fun b hb=>?Ly,I.bs,Nat.le_trans I.ok.GF I.sz,fun b o e hb=>?xW,fun b hb hs=>?wq,I.stack,I.A1⟩,
  rfl,I.bare,Un.laid keep (Nat.le_refl _) (fresh _ (Nat.le_refl _)),⟨fun _=>none,?ns,fun i x v e1 e2 e3=>?loc⟩,fun x c e=>?cell,?free,fun x c e=>?jR,fun p hp=>absurd (show p ∈ ([]:List (Addr × Obj)) from hp) (by simp),I.bh.laid keep (Nat.le_refl _) ?obj,?len⟩
 case has =>
  have hx:(relabel scope X.env).names.lookup x=some .cell∨(relabel scope X.env).names.lookup x=some .free:=hx
  show ∃ c,(cellsFrom (s.heap.objs.size+1+1) scope.names (b5 X.env scope.names [])).lookup x=some c
  cases hk:scope.names.lookup x with
  | none =>
   rw [show (relabel scope X.env).names.lookup x=none from uP hk] at hx
   rcases hx with z | z <;> cases z
  | some k =>
   have hm:=PySem.mem_of_lookup hk
   rw [show (relabel scope X.env).names.lookup x=_ from nB hk] at hx
   cases k with
   | cell=>obtain ⟨c,e,_⟩:=qv (x:=x) (lo:=0) scope.names (s.heap.objs.size+1+1) (b5 X.env scope.names []) (Nat.zero_le _) (.inl hm);exact ⟨c,e⟩
   | free =>
    obtain ⟨c,e⟩:=m9 (env:=X.env) (x:=x) scope.names [] (.inl hm)
    exact ⟨c,by rw [nA _ _ _ (S.once x hm)];exact e⟩
   | _=>rcases hx with z | z <;> simp at z
 case JV =>
  have hm:(x,NameKind.cell) ∈ scope.names:=List.contains_iff_mem.mp hf
  obtain ⟨c',e',hc⟩:=qv (x:=x) (lo:=s.heap.objs.size+1+1) scope.names (s.heap.objs.size+1+1) (b5 X.env scope.names []) (Nat.le_refl _) (.inl hm)
  have e2:(cellsFrom (s.heap.objs.size+1+1) scope.names (b5 X.env scope.names [])).lookup x=some c:=e
  rw [e'] at e2;cases e2
  exact Nat.le_trans (Nat.le_trans (Nat.le_succ _) (Nat.le_succ _)) hc
 case Ly =>
  obtain ⟨o,eo⟩:=ho b hb
  have jS:=Heap.lt_size eo
  refine ⟨Nat.ne_of_lt (Nat.lt_succ_of_lt jS),fun x c e=>?_⟩
  rcases Ab S I e with q | ⟨q,_⟩
  ·exact (TK b hb).2.2.2.2.1 x c q
  ·exact Nat.ne_of_gt (Nat.lt_of_lt_of_le (Nat.lt_succ_of_lt (Nat.lt_succ_of_lt jS)) q)
 case xW =>
  obtain ⟨_,_,_,q,_⟩:=TK b hb
  rcases q with q | q
  ·exact I.ok.xW b o e q
  ·exact absurd (Nat.lt_of_lt_of_le (Nat.lt_of_lt_of_le (Heap.lt_size e) I.ok.GF) q) (Nat.lt_irrefl _)
 case wq =>
  obtain ⟨_,q1,q2,_⟩:=TK b hb
  rcases List.mem_cons.mp (I.Dw b hs) with z | z
  ·exact q1 z
  ·exact q2 z
 case ns =>
  refine Heap.Ns.keeps (h:=(s.heap.push { cls:=.type "list",dict:=none,data:=.seq ([]:List Value).toArray }).push { cls:=.type "dict",data:=.dict #[] }) ?_ (pushCells_keeps _ _)
  have q:=Heap.Ns.new (s.heap.push { cls:=.type "list",dict:=none,data:=.seq ([]:List Value).toArray }) (.type "dict")
  rw [qt] at q
  exact q
 case loc =>
  have Oe:(ix.map fun o=>o.bind fun j=>(σ[j]?).bind id)[i]?=some (some v):=e2
  rw [List.getElem?_map] at Oe
  cases ei:ix[i]? with
  | none=>rw [ei] at Oe;cases Oe
  | some o =>
   rw [ei] at Oe
   cases o with
   | none=>simp at Oe
   | some j =>
    obtain ⟨hN,Of⟩:=S.out i j x ei e1
    have ej:σ[j]?=some (some v):=by
     cases q:σ[j]? with
     | none=>simp [q] at Oe
     | some y=>simp [q] at Oe;rw [Oe]
    have hm:=PySem.mem_of_lookup Of
    have Wo:Vb X.env.scope x:=by
     rcases S.free (x,.free) hm rfl with z | z
     ·exact .inr (.inl z)
     ·exact .inr (.inr z)
    obtain ⟨m0,hn0,hl0⟩:=I.loc
    obtain ⟨u,r,l⟩:=hl0 j x v hN ej Wo
    refine ⟨u,r,?_⟩
    have hk:X.env.kindOf x=some .cell∨X.env.kindOf x=some .free:=S.free (x,.free) hm rfl
    rcases l with ⟨z,_⟩ | ⟨_,c,ec,GI⟩
    ·rcases hk with y | y <;> (rw [z] at y;cases y)
    ·refine .inr ⟨?_,c,?_,GI.keeps keep⟩
     ·show (relabel scope X.env).names.lookup x=_∨(relabel scope X.env).names.lookup x=_
      rw [show (relabel scope X.env).names.lookup x=_ from nB Of]
      split
      ·exact .inl rfl
      ·exact .inr rfl
     ·show (cellsFrom (s.heap.objs.size+1+1) scope.names (b5 X.env scope.names [])).lookup x=some c
      rw [nA _ _ _ (S.once x hm)]
      obtain ⟨c',e'⟩:=m9 (env:=X.env) (x:=x) scope.names [] (.inl hm)
      have q:=c8 _ _ (S.cells I) (fun _ z=>by simp at z) e'
      rw [ec] at q;cases q
      exact e'
 case cell =>
  have q:=lR (x:=x) (c:=c) scope.names ((s.heap.push { cls:=.type "list",dict:=none,data:=.seq ([]:List Value).toArray }).push { cls:=.type "dict",data:=.dict #[] }) (b5 X.env scope.names [])
   (fun y c' e'=>by
    obtain ⟨v,z⟩:=I.cell y c' (c8 _ _ (S.cells I) (fun _ z=>by simp at z) e')
    exact ⟨v,z.keeps fun b o e=>Heap.get?_push_of_some _ (Heap.get?_push_of_some _ e)⟩)
  rw [Heap.size_push,qt] at q
  exact q e
 case free =>
  show upd H s.heap.objs.size (.lst []) (s.heap.objs.size+1)=none
  rw [aE (Nat.succ_ne_self _)]
  exact fresh _ (Nat.le_succ _)
 case jR =>
  rcases Ab S I e with q | ⟨q,_⟩
  ·rw [aE (Nat.ne_of_lt (L8 x c q))]
   exact I.jR x c q
  ·have h1:s.heap.objs.size < c:=Nat.lt_of_lt_of_le (Nat.lt_succ_of_lt (Nat.lt_succ_self _)) q
   rw [aE (Nat.ne_of_gt h1)]
   exact fresh c (Nat.le_of_lt h1)
 case obj=>exact ⟨Nat.zero_le _,[],0,.nil,hD⟩
 case len =>
  show (vJ ix σ).length=Nc.length
  unfold vJ
  rw [List.length_map,S.len]
end
def QC (X:Cx) (ifs:List Expr) (t:TT):Prop :=
 ∀ (pins:List (Addr × Obj)) (s:Shared) (σ:St) (H:Hp) (Q:Bool→Hp→Prop),Inv X pins σ H s→t σ H Q →
  wpAny (model X.prog X.w) X.A (forIn ifs true fun c r=>if r=true then do let ok ← isTrue c X.env (eval c X.env);pure (ForInStep.yield ok) else pure (ForInStep.yield r)) (TP X pins σ Q) X.xe s
def QD:TT:=fun _ H Q=>Q true H
theorem cP {X:Cx}:QC X [] QD:=fun _ _ _ H _ I h=>wpAny_tests_nil ⟨H,I,h⟩
theorem xK {X:Cx} {c:Expr} {t:TT} (h:PT X c t):QC X [c] t:=fun pins s σ H Q I hw=>wpAny_tests_one (h pins s σ H Q I hw)
def uQ (J:It) (g:TG) (tt:TT) (te:TE) (D:Addr) (σ:St) (H:Hp) (Q:VK):Prop:=∃ W:Nat→Nat→St→Hp→Prop,(∃ m,W 0 m σ H)∧∀ i m σ' H',W i m σ' H' →
 (J.stop i H'∧Q (.ref D) H')∨(J.go i H'∧∀ x H2,J.L9 i H' x H2→g x σ' H2 fun σ3 H3=>tt σ3 H3 fun b H4 =>
  if b=true then te σ3 H4 fun v H5=>∃ xs,H5 D=some (.lst xs)∧xs.length < sizeLine∧∃ m',m' < m∧W (i+1) m' σ3 (upd H5 D (.lst (xs ++ [v])))
  else ∃ m',m' < m∧W (i+1) m' σ3 H4)
def Wp (wi:TI) (ix:List (Option Nat)) (g:TG) (tt:TT) (te:TE):TE:=fun σ H Q=>wi σ H fun J H1=>∀ D,H1 D=none→uQ J g tt te D (vJ ix σ) (upd H1 D (.lst [])) Q
section
variable {X:Cx} {tg elt iter:Expr} {ifs:List Expr} {scope:Scope} {pos:Pos} {wi:TI} {g:TG} {tt:TT} {te:TE} {Nc:List Str} {ix:List (Option Nat)}
theorem CU {pins:List (Addr × Obj)} {σ:St} {H:Hp} {s:Shared} {it:Addr} {fp:List Addr} {tn:Nat→Heap→Prop} {J:It} {Q:VK} {R:Value→Addr→Result→Shared→Prop}
  (hc:X.calm=true) (S:dZ X Nc ix scope) (I:Inv X pins σ H s) (T:Turn X.prog X.w X.K tg J fp it tn) (st:tn 0 s.heap) (f:∀ b ∈ fp,oq X pins H b)
  (hg:PG (rL X Nc scope (s.heap.objs.size+1) fp s H) tg g) (ht:QC (rL X Nc scope (s.heap.objs.size+1) fp s H) ifs tt) (he:PE (rL X Nc scope (s.heap.objs.size+1) fp s H) elt te)
  (h:∀ D,H D=none→∃ W:Nat→Nat→St→Hp→Prop,(∃ m,W 0 m (vJ ix σ) (upd H D (.lst [])))∧∀ i m σ' H',W i m σ' H' →
   (J.stop i H'∧Q (.ref D) H')∨(J.go i H'∧∀ x H2,J.L9 i H' x H2→g x σ' H2 fun σ3 H3=>tt σ3 H3 fun b H4 =>
    if b=true then te σ3 H4 fun v H5=>∃ xs,H5 D=some (.lst xs)∧xs.length < sizeLine∧∃ m',m' < m∧W (i+1) m' σ3 (upd H5 D (.lst (xs ++ [v])))
    else ∃ m',m' < m∧W (i+1) m' σ3 H4))
  (hR:∀ σ' H' s',Inv (rL X Nc scope (s.heap.objs.size+1) fp s H) [] σ' H' s'→(∀ b ∈ fp,H' b=none)→Q (.ref s.heap.objs.size) H'→R (.ref s.heap.objs.size) (s.heap.objs.size+1) (.ok .next) s') :
  wpAny (model X.prog X.w) X.A (newList []) (fun acc s₃=>wpAny (model X.prog X.w) X.A (newFunctionEnv scope X.env.globals (b5 X.env scope.names []) [] X.env.qual none .none (some X.env)) (fun Jw s₄ =>
   codeAny (model X.prog X.w) X.A (.compStart (.ListComp elt [⟨tg,iter,ifs,0⟩] scope pos) 0 (.ref it) acc { Jw with scope:=relabel scope X.env }) (R acc Jw.locals) s₄) X.xe s₃) X.xe s:=by
 obtain ⟨W,⟨m0,w0⟩,turn⟩:=h s.heap.objs.size (I.bh.fresh (Nat.le_refl _))
 refine wpAny_newObj_type (wX ?_)
 have I4:=CT (t':=s.toks) S I f (fun b hb=>let ⟨o,e,_⟩:=T.obj _ _ st b hb;⟨o,e⟩)
 have qt:(s.heap.push { cls:=.type "list",dict:=none,data:=.seq ([]:List Value).toArray }).objs.size=s.heap.objs.size+1:=Heap.size_push ..
 dsimp only
 rw [qt]
 have xl:tn 0 (pushCells ((s.heap.push { cls:=.type "list",dict:=none,data:=.seq ([]:List Value).toArray }).push { cls:=.type "dict",data:=.dict #[] }) scope.names) :=
  T.keep _ _ _ st fun b _ o e=>pushCells_keeps _ _ b o (Heap.get?_push_of_some _ (Heap.get?_push_of_some _ e))
 have Wq:∀ b ∈ fp,upd H s.heap.objs.size (.lst []) b=none:=fun b hb=>by
  obtain ⟨o,e,_⟩:=T.obj _ _ st b hb
  rw [aE (Nat.ne_of_lt (Heap.lt_size e))]
  exact (f b hb).1
 have xa:∀ {H':Hp},(∀ b ∈ fp,H' b=none)→∀ b ∈ fp,oq (rL X Nc scope (s.heap.objs.size+1) fp s H) [] H' b:=fun {H'} hn b hb=>by
  obtain ⟨q1,q2⟩:=I4.ok.Ly b hb
  exact ⟨hn b hb,q1,I4.ok.wq b hb,.inl hb,q2,fun p hp=>absurd (show p ∈ ([]:List (Addr × Obj)) from hp) (by simp)⟩
 have loop:codeAny (model X.prog X.w) X.A (.compLoop (.ListComp elt [⟨tg,iter,ifs,0⟩] scope pos) 0 (.ref it) (.ref s.heap.objs.size) (rL X Nc scope (s.heap.objs.size+1) fp s H).env)
   (R (.ref s.heap.objs.size) (s.heap.objs.size+1))
   { s with heap:=pushCells ((s.heap.push { cls:=.type "list",dict:=none,data:=.seq ([]:List Value).toArray }).push { cls:=.type "dict",data:=.dict #[] }) scope.names }:=by
  refine uO (fun n s'=>∃ i σ' H',Inv (rL X Nc scope (s.heap.objs.size+1) fp s H) [] σ' H' s'∧tn i s'.heap∧(∀ b ∈ fp,H' b=none)∧W i n σ' H') ?_ m0 ⟨0,_,_,I4,xl,Wq,w0⟩
  rintro n s5 ⟨i,σ5,H5,I5,CC,JR,w5⟩
  rcases turn i n σ5 H5 w5 with ⟨stop,qn⟩ | ⟨go,step⟩
  ·refine bV (T.done (rL X Nc scope (s.heap.objs.size+1) fp s H) rfl rfl rfl hc i [] s5 σ5 H5 _ I5 (xa JR) CC stop) fun r s6 ⟨hr,I6⟩=>?_
   subst hr
   exact hR σ5 H5 s6 I6 JR qn
  ·refine bV (T.item (rL X Nc scope (s.heap.objs.size+1) fp s H) rfl rfl rfl hc i [] s5 σ5 H5 _ I5 (xa JR) CC go) fun r s6 ⟨u,hr,h6⟩=>?_
   subst hr
   refine bV h6 fun _ s7 ⟨x,H7,I7,r7,y7,EF,Wr⟩=>?_
   have Ws:=I7.pinned (xa Wr) (T.obj _ _ EF)
   refine bV (hg _ s7 σ5 H7 x u _ Ws r7 (step x H7 y7)) fun _ s8 ⟨σ8,H8,I8,q8⟩=>?_
   refine bV (ht _ s8 σ8 H8 _ I8 q8) fun b s9 ⟨H9,I9,q9⟩=>?_
   have again:∀ {s':Shared} {σ':St} {H':Hp},Inv (rL X Nc scope (s.heap.objs.size+1) fp s H) ([] ++ vC fp s7.heap) σ' H' s'→tn (i+1) s'.heap∧∀ b ∈ fp,H' b=none:=fun {s' σ' H'} I'=>by
    refine ⟨T.keep _ _ _ EF fun b hb o e=>(I'.pin (b,o) (List.mem_append_right _ (List.mem_append_right _ (iZ hb e)))).1,fun b hb=>?_⟩
    obtain ⟨o,e,d⟩:=T.obj _ _ EF b hb
    exact (I'.pin (b,o) (List.mem_append_right _ (List.mem_append_right _ (iZ hb e)))).2.1
   cases b with
   | false =>
    rw [if_neg Bool.false_ne_true] at q9 ⊢
    obtain ⟨m',hm,w9⟩:=q9
    obtain ⟨a1,a2⟩:=again I9
    exact ⟨m',hm,i+1,σ8,H9,I9.j9,a1,a2,w9⟩
   | true =>
    rw [if_pos rfl] at q9 ⊢
    refine bV (he _ s9 σ8 H9 _ I9 q9) fun v TL ⟨x',QE,Wt,Wu,xs,eD,jS,m',hm,Wv⟩=>?_
    refine bV (ba (X:=rL X Nc scope (s.heap.objs.size+1) fp s H) _ TL σ8 QE (.ref s.heap.objs.size) [x'] (.ref s.heap.objs.size) [v] (fun _ H'=>H'=upd QE s.heap.objs.size (.lst (xs ++ [x']))) Wt rfl (.cons Wu .nil)
     ⟨_,xs,x',rfl,rfl,eD,jS,rfl⟩) fun _ s11 ⟨_,Ww,TM,_,Wx⟩=>?_
    subst Wx
    obtain ⟨a1,a2⟩:=again TM
    exact ⟨m',hm,i+1,σ8,_,TM.j9,a1,a2,Wv⟩
 exact codeAny_compStart_list loop (T.self X.A 0 _ _ _ xl loop)
theorem comp_back {pins:List (Addr × Obj)} {σ σ':St} {H H':Hp} {s s':Shared} {fp:List Addr} (I:Inv X pins σ H s) (f:∀ b ∈ fp,oq X pins H b) (J:Inv (rL X Nc scope (s.heap.objs.size+1) fp s H) [] σ' H' s'):Inv X pins σ H' s' :=
 I.GH (ch:=fp) J.os J.base J.bh J.bare fun b hb=>let ⟨_,q1,_,q3,q4,q5⟩:=f b hb;⟨q3,q1,q4,q5⟩
theorem Inv.Jx {pins:List (Addr × Obj)} {σ:St} {H:Hp} {s:Shared} {C:Addr} {h':Heap} (I:Inv X pins σ H s) (f:oq X pins H C) (hs:Heap.SameBut C s.heap h'):Inv X pins σ H { s with heap:=h' } :=
 I.turned (t':=s.toks) (it:=C) (fun b o hb e=>(hs.2 b hb).trans e) f.1 f.2.1 f.2.2.2.1 f.2.2.2.2.1 f.2.2.2.2.2
theorem lA (hc:X.calm=true) (S:dZ X Nc ix scope) (hi:PI X tg iter wi)
  (hb:∀ (C:Addr) (fp:List Addr) (s:Shared) (H:Hp),PG (rL X Nc scope C fp s H) tg g∧QC (rL X Nc scope C fp s H) ifs tt∧PE (rL X Nc scope C fp s H) elt te)
  (hs:∀ x,foldedSetIterable iter X.env x=pure x:=by intro _;rfl):PE X (.ListComp elt [⟨tg,iter,ifs,0⟩] scope pos) (Wp wi ix g tt te):=by
 intro pins s σ H Q I h
 rw [eval_ListComp]
 refine wpAny_comprehension_free (use:=none) rfl hs (sE (S.cells I)) S.kind S.loc (bV (hi pins s σ H _ I h) fun v s1 h1=>bV h1 fun Pj s2 h2=>?_)
 obtain ⟨it,fp,tn,J,H2,e,I2,T,wt,f2,q2⟩:=h2
 subst e
 obtain ⟨hg,ht,he⟩:=hb (s2.heap.objs.size+1) fp s2 H2
 refine CU (R:=fun acc C=>compPost (model X.prog X.w) X.A X.xe none (EP X pins σ Q) acc C) hc S I2 T wt f2 hg ht he q2 fun σ' H' s' J' Yx q'=>?_
 obtain ⟨m,hn,_⟩:=J'.loc
 refine ⟨m,hn,fun h' EG=>⟨.ref _,H',?_,rfl,q'⟩⟩
 exact (comp_back I2 f2 J').Jx (I2.A3 (Nat.le_succ _) J'.free) EG
theorem pL {i:Nat} {y:Str} {py TN:Pos} (hN:X.N.Nodup) (hy:X.N[i]?=some y) (hl:Loc X.env.scope y) (hc:X.calm=true) (S:dZ X Nc ix scope) (hi:PI X tg iter wi)
  (hb:∀ (C:Addr) (fp:List Addr) (s:Shared) (H:Hp),PG (rL X Nc scope C fp s H) tg g∧QC (rL X Nc scope C fp s H) ifs tt∧PE (rL X Nc scope C fp s H) elt te)
  (Vi:swapsWith (.ListComp elt [⟨tg,iter,ifs,0⟩] scope pos) (some (.Name y py)) TN.line X.env=pure true:=by rfl)
  (hs:∀ x,foldedSetIterable iter X.env x=pure x:=by intro _;rfl)
  (hf:X.fn y=true∨X.env.scope.names.lookup y=some .local:=by first | exact .inl rfl | exact .inr rfl | assumption) :
  PS X (.Assign [.Name y py] (.ListComp elt [⟨tg,iter,ifs,0⟩] scope pos) TN) (Ph (Wp wi ix g tt te) (j8 i)):=by
 intro pins s σ H D I h
 rw [exec_Assign_Name_used _ _ _ _ Vi]
 refine wpAny_bind (wpAny_standAt (wpAny_bind ?_))
 show wpAny _ X.A (do let _ ← comprehension (.ListComp elt [⟨tg,iter,ifs,0⟩] scope pos) scope X.env _ (newList []) false (eval iter X.env) (some (assign (.Name y py) X.env))) _ _ s
 refine wpAny_bind (wpAny_mono (wpAny_comprehension_free (use:=some (assign (.Name y py) X.env)) (Q:=fun _ s'=>SP X pins D .next s') rfl hs (sE (S.cells I)) S.kind S.loc
  (bV (hi pins s σ H _ I h) fun v s1 h1=>bV h1 fun Pj s2 h2=>?_)) (fun _ s' hq=>wpAny_pure (wpAny_pure hq)) fun _ _ e=>e)
 obtain ⟨it,fp,tn,J,H2,e,I2,T,wt,f2,q2⟩:=h2
 subst e
 obtain ⟨hg,ht,he⟩:=hb (s2.heap.objs.size+1) fp s2 H2
 refine CU (Q:=fun x H1=>j8 i x σ H1 D.nx) (R:=fun acc C=>compPost (model X.prog X.w) X.A X.xe (some (assign (.Name y py) X.env)) (fun _ s'=>SP X pins D .next s') acc C) hc S I2 T wt f2 hg ht he q2 fun σ' H' s' J' Yx q'=>?_
 obtain ⟨m,hn,_⟩:=J'.loc
 have I3:=comp_back I2 f2 J'
 have fC:=I2.A3 (Nat.le_succ _) J'.free
 show wpAny _ X.A (assign (.Name y py) X.env (.ref s2.heap.objs.size)) _ _ s'
 refine wpAny_assign_Name (AR (v:=.ref s2.heap.objs.size) I3 hN hy hl rfl (fun s4 I4 ⟨a,Hm,ha⟩=>?_) hf)
 have haC:s2.heap.objs.size+1≠a:=by
  rcases ha with z | z
  ·rw [z];exact fC.2.1
  ·exact Ne.symm (fC.2.2.2.2.1 y a z)
 refine ⟨m,hn.sameBut Hm haC,fun h' EG=>⟨_,H',I4.Jx fC EG,q'⟩⟩
end
end L2
namespace L2
open PySem PySem.Spec PyProof.Rows
def D2 (o:Obj):Prop:=∃ vs,o.data=.fields vs∧vs[2]?=some .none
def C0 (h:Heap) (e:Addr):Prop:=∃ o,h.get? e=some o∧D2 o
def Kp {α:Type}:Sem α→Prop
 | .pure _=>True
 | .raise _=>True
 | .unsupported _=>True
 | .finish _=>True
 | .rule _ k=>Kp (k ())
 | .at _ k=>Kp (k ())
 | .load _ _ k=>∀ o,Kp (k o)
 | .update _ _ f k=>(∀ o,D2 o→D2 (f o))∧Kp (k ())
 | .alloc _ k=>∀ a,Kp (k a)
 | .loadIfAlive _ k=>∀ o,Kp (k o)
 | .point _ k=>Kp (k ())
 | .register _ _=>True
 | .fresh k=>∀ t,Kp (k t)
 | .ask k=>∀ t,Kp (k t)
 | .choose _ _ _=>False
 | .os _ _ _=>False
 | .call _ _ _ _ _=>False
 | .handled _ k=>∀ v,Kp (k v)
 | .newGen _ _=>False
 | .genState _ _=>False
 | .resume _ _ _ _=>False
 | .yield _ _ _ _=>True
 | .stack k=>∀ l,Kp (k l)
 | .fork _ _=>True
 | .thread k=>∀ n,Kp (k n)
 | .await _ _ _ _ _=>True
theorem TQ {α:Type} {M:Model} {Γ:PySem.Ctx} {e:Addr} {Q:α→Pos→Shared→Prop} {E:Value→Pos→Shared→Prop} (t:Sem α):∀ (p:Pos) (s:Shared),Kp t→C0 s.heap e→Sem.wp M Γ t Q E p s→Sem.wp M Γ t (fun a p s=>Q a p s∧C0 s.heap e) E p s:=by
 induction t with
 | pure a=>exact fun p s _ c h=>⟨h,c⟩
 | raise v=>exact fun p s _ c h=>h
 | unsupported | finish | yield | fork | await | register=>exact fun p s _ c h=>h
 | rule _ k ih | «at» _ k ih | point _ k ih=>exact fun p s kp c h=>ih () _ _ kp c h
 | loadIfAlive _ k ih | fresh k ih | ask k ih | handled _ k ih | stack k ih | thread k ih=>exact fun p s kp c h=>ih _ _ _ (kp _) c h
 | alloc o k ih=>exact fun p s kp c h=>ih _ _ _ (kp _) (by obtain ⟨o1,h1,h2⟩:=c;exact ⟨o1,Heap.get?_push_of_some _ h1,h2⟩) h
 | load a _ k ih=>exact fun p s kp c ⟨o,ho,h⟩=>⟨o,ho,ih _ _ _ (kp _) c h⟩
 | update a _ f k ih =>
  refine fun p s kp c h=>⟨h.1,ih _ _ _ kp.2 ?_ h.2⟩
  obtain ⟨o1,h1,h2⟩:=c
  by_cases z:a=e
  ·subst z
   have d:=kp.1 o1 h2
   obtain ⟨vs,dv,_⟩:=id d
   exact ⟨_,Heap.get?_update_self f h1 (Obj.isFreed_of_fields dv),d⟩
  ·exact ⟨o1,(Heap.get?_update_other _ _ z).trans h1,h2⟩
 | choose | os | call | newGen | genState | resume=>exact fun p s kp c h=>kp.elim
theorem QF {α:Type} {M:Model} {A:Around} {e:Addr} {t:Sem α} {Q:α→Shared→Prop} {E:Value→Shared→Prop} {s:Shared} (k:Kp t) (c:C0 s.heap e) (h:wpAny M A t Q E s):wpAny M A t (fun a s'=>Q a s'∧C0 s'.heap e) E s:=fun Γ p hΓ=>TQ t p s k c (h Γ p hΓ)
theorem bD {α β:Type} {g:α→Sem β} (t:Sem α):Kp t→(∀ a,Kp (g a))→Kp (t >>= g):=by
 show Kp t→(∀ a,Kp (g a))→Kp (Sem.bind t g)
 induction t with
 | pure a=>exact fun _ h=>h a
 | raise v=>exact fun _ _=>trivial
 | unsupported | finish | yield | fork | await | register=>exact fun _ _=>trivial
 | rule _ k ih | «at» _ k ih | point _ k ih=>exact fun kp h=>ih () kp h
 | loadIfAlive _ k ih | fresh k ih | ask k ih | handled _ k ih | stack k ih | thread k ih | alloc _ k ih | load _ _ k ih=>exact fun kp h x=>ih x (kp x) h
 | update a _ f k ih=>exact fun kp h=>⟨kp.1,ih () kp.2 h⟩
 | choose | os | call | newGen | genState | resume=>exact fun kp _=>kp.elim
theorem bW {α:Type} {a:α}:Kp (pure a:Sem α):=trivial
theorem lS {α:Type} {z:String}:Kp (unsupported z:Sem α):=trivial
theorem BD {a:Addr}:Kp (load a):=fun _=>trivial
theorem xm:Kp stack:=fun _=>trivial
theorem CV {v:Value}:Kp (fieldsOf v):=by
 unfold fieldsOf
 cases v <;> first
  | exact lS
  | (refine bD _ BD fun o=>?_
     split <;> first | exact lS | exact bW)
theorem uR {v:Value} {i:Nat}:Kp (field v i):=by
 unfold field
 refine bD _ CV fun vs=>?_
 split <;> first | exact lS | exact bW
theorem pM {v x:Value} {i:Nat} (hi:i≠2):Kp (setField v i x):=by
 unfold setField
 cases v <;> first
  | exact lS
  | (unfold updateField
     refine bD _ BD fun o=>?_
     split <;> first
     | exact lS
     | (split <;> first
       | exact lS
       | exact ⟨fun o ⟨vs,d,z⟩=>⟨_,Obj.data_mapFields d _,by rw [Array.getElem?_setIfInBounds_ne hi];exact z⟩,trivial⟩))
theorem Jy:∀ l:List Env,Kp (readyFrames l):=by
 intro l
 induction l with
 | nil=>exact bW
 | cons env outer ih =>
  unfold readyFrames
  split
  ·refine bD _ BD fun o=>?_
   split
   ·exact bW
   ·refine bD _ ?_ fun b=>bD _ ?_ fun v=>bD _ ⟨fun o d=>d,trivial⟩ fun _=>ih
    ·unfold behindIsImport
     split
     ·exact bW
     ·split
      ·exact bW
      ·exact bD _ uR fun _=>bW
    ·unfold keptBack
     split
     ·split
      ·exact bW
      ·exact bD _ (bD _ xm fun _=>bW) fun _=>bW
     ·exact bW
  ·exact lS
theorem EH {env:Env}:Kp (PySem.frameOf env):=by
 unfold PySem.frameOf
 refine bD _ (bD _ xm fun _=>bW) fun l=>bD _ ?_ fun r=>?_
 ·unfold frameObject
  split
  ·exact bW
  ·exact bD _ (Jy _) fun _=>bW
 ·split <;> first | exact bW | exact lS
theorem Jz {f:Addr} {b:Bool}:Kp (entryPlaceOf f b):=by
 unfold entryPlaceOf
 refine bD _ xm fun l=>?_
 split <;> exact bW
theorem Ga {z:String} {d:Data}:Kp (newObjAsIs (.type z) d):=bD _ (fun _=>trivial) fun _=>bW
theorem J0 {a b c d e:Value} {l:List Value}:Kp (EntryCells.newEntry a b c d e l):=by
 unfold EntryCells.newEntry newFields newObj
 dsimp only
 generalize (if l.isEmpty=true then List.replicate 6 Value.none else l)=l'
 split
 ·exact bD _ lS fun _=>Ga
 ·exact Ga
theorem Gb {e:Value} {env:Env}:Kp (noteFrame e env):=by
 unfold noteFrame
 split
 ·rename_i f _
  refine bD _ uR fun h=>?_
  have rest:Kp (PySem.frameOf env >>= fun a=>entryPlaceOf f (h != Value.none) >>= fun pl=>EntryCells.newEntry h a Value.none (rawInt f) Value.none pl >>= fun b=>setField e 1 b):=bD _ EH fun _=>bD _ Jz fun _=>bD _ J0 fun _=>pM (by decide)
  split
  ·refine bD _ uR fun v=>?_
   split
   ·exact bW
   ·exact bD _ (pM (by decide)) fun _=>rest
  ·exact rest
 ·exact lS
theorem vK {e:Value} {f:Option Addr}:Kp (setFlight e f):=by
 unfold setFlight
 refine bD _ uR fun v=>?_
 split
 ·exact pM (by decide)
 ·exact bW
theorem xn {e:Value} {env:Env}:Kp (leaving env e):=bD _ Gb fun _=>vK
theorem CW {M:Model} {A:Around} {e:Addr} {t:Sem Unit} {P:Heap→Prop} {Q:Unit→Shared→Prop} {E:Value→Shared→Prop} {s:Shared} (k:Kp t) (c:C0 s.heap e) (h:∀ Q':Unit→Shared→Prop,(∀ h',P h'→Q' () { s with heap:=h' })→wpAny M A t Q' E s) (hQ:∀ h',P h'→C0 h' e→Q () { s with heap:=h' }):wpAny M A t Q E s :=
 wpAny_mono (QF k c (h (fun _ s'=>∃ h',s'={ s with heap:=h' }∧P h') fun h' p=>⟨h',rfl,p⟩)) (fun _ s' ⟨⟨h',z,p⟩,c'⟩=>by subst z;exact hQ h' p c') fun _ _ z=>z
end L2
namespace L2
open PySem PySem.Spec PyProof.Rows
structure EI (P:Program) (w:World) (outer:List Env) (H:Hp) (s:Shared) (a C:Addr) (a0:Value) (B:Heap) (H':Hp) (s':Shared):Prop where
 os:s'.os=s.os
 bare:AllBare s'.gens
 un:Un (o9 outer) [] H H' s.heap s'.heap
 bh:u5 P w H' s'.heap
 xo:Heap.FlyingW B outer a (.ref C) a0 s'.heap
 J1:∀ b o,s.heap.get? b=some o→b ∉ o9 outer→∃ o',B.get? b=some o'
 Du:∀ b u,H' b=some u→∃ o',B.get? b=some o'
 cx:C0 s'.heap a
def ic (P:Program) (w:World):A7:=fun outer H s E e s'=>∃ (a C:Addr) (a0:Value) (B:Heap) (H':Hp),e=.ref a∧EI P w outer H s a C a0 B H' s'∧E (.ref C) none H'
theorem BE {l:List Env} {b:Addr} {base h:Heap} (F:h.FunFrames base l) (hb:b ∈ o9 l):base.get? b=none∧∃ o,h.get? b=some o∧∀ vs,o.data≠.fields vs:=F.mem hb
theorem xq {outer:List Env} {H H':Hp} {h h1 h2 B:Heap} (u:Un (o9 outer) [] H H' h h1) (F:h1.FunFrames B outer) (Wy:B.StaysIn h1) (Wz:B.StaysIn h2) (up:h1.UpToSlots h2)
  (J1:∀ b o,h.get? b=some o→b ∉ o9 outer→∃ o',B.get? b=some o'):Un (o9 outer) [] H H' h h2:=by
 have at2:∀ b o,h.get? b=some o→b ∉ o9 outer→∀ o1,h1.get? b=some o1→h2.get? b=some o1:=fun b o e hb o1 e1=>by
  obtain ⟨o',eB⟩:=J1 b o e hb
  have q:=Wy b o' eB
  rw [e1] at q;cases q
  exact Wz b _ eB
 refine ⟨fun b o e n hb hx=>at2 b o e hb o (u.keep b o e n hb hx),fun b o e n hb hx=>?_,u.free,fun b o e hx=>?_,u.t9,u.rn,u.uA⟩
 ·obtain ⟨sl,e1⟩:=u.slot b o e n hb hx
  obtain ⟨_,o1,q1,q2⟩:=BE F hb
  rw [e1] at q1;cases q1
  obtain ⟨Vj,e2⟩:=up b _ e1 q2
  exact ⟨Vj,e2⟩
 ·obtain ⟨o1,e1⟩:=u.there b o e hx
  by_cases hb:b ∈ o9 outer
  ·obtain ⟨_,o2,q1,q2⟩:=BE F hb
   obtain ⟨Vj,e2⟩:=up b _ q1 q2
   exact ⟨_,e2⟩
  ·exact ⟨o1,at2 b o e hb o1 e1⟩
theorem vL {P:Program} {w:World} {H:Hp} {h1 h2 B:Heap} (x:u5 P w H h1) (Wy:B.StaysIn h1) (Wz:B.StaysIn h2) (Du:∀ b u,H b=some u→∃ o',B.get? b=some o'):u5 P w H h2:=fun b o e=>by
 refine (x b o e).zJ (fun c u hc q=>?_) (fun _ q=>q) fun _ _ q=>q
 have ht:∃ o',B.get? c=some o':=by
  rcases hc with z | z
  ·rw [z];exact Du b o e
  ·exact Du c _ z
 obtain ⟨o',eB⟩:=ht
 have q1:=Wy c o' eB
 rw [q] at q1;cases q1
 exact Wz c _ eB
structure Body (X:Cx) (E:XK):Prop where
 xe:X.xe=fun e s'=>wpAny (model X.prog X.w) X.A (leaving X.env e) (fun _ Py=>ic X.prog X.w X.outer X.H₀ X.s₀ E e Py) (fun e' Py=>ic X.prog X.w X.outer X.H₀ X.s₀ E e' Py) s'
 GD:X.stack=X.env :: X.outer
 fr:X.env.frame=some X.env.locals
 ex:X.ex=[]
section
variable {X:Cx} {E:XK} {pins:List (Addr × Obj)} {σ:St} {H:Hp} {s:Shared}
theorem Inv.old (I:Inv X pins σ H s) {b:Addr} {o:Obj} (e:X.s₀.heap.get? b=some o):b≠X.env.locals:=Nat.ne_of_lt (Nat.lt_of_lt_of_le (Heap.lt_size e) I.ok.above)
theorem Body.base (Bd:Body X E) (I:Inv X pins σ H s):Un X.fs [] X.H₀ H X.s₀.heap s.heap:=by
 have q:=I.base
 rw [Bd.ex] at q
 exact q
theorem Body.J2 (Bd:Body X E) {b:Addr} (h1:b≠X.env.locals) (h2:b ∉ o9 X.outer):b ∉ o9 X.stack:=by
 rw [Bd.GD]
 intro z
 obtain ⟨env,he,hf⟩:=List.mem_filterMap.mp z
 rcases List.mem_cons.mp he with rfl | he
 ·rw [Bd.fr] at hf;exact h1 (Option.some.inj hf).symm
 ·exact h2 (List.mem_filterMap.mpr ⟨env,he,hf⟩)
theorem mJ (Bd:Body X E):ia (ic X.prog X.w) X E:=by
 intro pins σ H s e s' I h
 obtain ⟨a,C,a0,B,H',rfl,T,q⟩:=h
 rw [Bd.xe]
 have Of:X.A.frames=some (X.env :: X.outer):=by rw [← Bd.GD];exact I.ok.frames
 have xo:=T.xo
 rw [Bd.GD] at xo
 refine CW (P:=fun h'=>Heap.FlyingW B X.outer a (.ref C) a0 h'∧s'.heap.UpToSlots h') xn T.cx (fun Q' hq=>wpAny_leaves_onW Of Bd.fr xo fun h' J3 up=>hq h' ⟨J3,up⟩) fun h' ⟨J3,up⟩ W0=>?_
 have J1:∀ b o,X.s₀.heap.get? b=some o→b ∉ o9 X.outer→∃ o',B.get? b=some o':=fun b o e hb=>by
  obtain ⟨o1,e1⟩:=(Bd.base I).there b o e (by simp)
  exact T.J1 b o1 e1 (Bd.J2 (I.old e) hb)
 have u1:Un (o9 X.outer) [] X.H₀ H' X.s₀.heap s'.heap:=by
  have ub:=Bd.base I
  refine ⟨fun b o e n hb hx=>T.un.keep b o (ub.keep b o e n hb hx) (ub.free b o e n hx) (Bd.J2 (I.old e) hb) (by simp),fun b o e n hb hx=>?_,fun b o e n hx=>?_,fun b o e hx=>?_,fun b xs e=>T.un.t9 b xs (ub.t9 b xs e),
   fun b o xs e=>T.un.rn b o xs (ub.rn b o xs e),fun b ps e=>?_⟩
  ·obtain ⟨sl,e1⟩:=ub.slot b o e n hb hx
   obtain ⟨SW,e2⟩:=T.un.any e1 (ub.free b o e n hx) (by simp)
   exact ⟨SW,e2⟩
  ·obtain ⟨o1,e1⟩:=ub.there b o e hx
   exact T.un.free b o1 e1 (ub.free b o e n hx) (by simp)
  ·obtain ⟨o1,e1⟩:=ub.there b o e hx
   exact T.un.there b o1 e1 (by simp)
  ·obtain ⟨m1,e1⟩:=ub.uA b ps e
   obtain ⟨m2,e2⟩:=T.un.uA b _ e1
   exact ⟨m1 ++ m2,by rw [e2,Array.append_assoc]⟩
 have F':s'.heap.FunFrames B X.outer:=by obtain ⟨_,_,⟨_,_,k⟩,_⟩:=xo;exact k
 exact ⟨a,C,a0,B,H',rfl,⟨T.os.trans I.os,T.bare,xq u1 F' xo.1 J3.1 up J1,vL T.bh xo.1 J3.1 T.Du,J3,J1,T.Du,W0⟩,q⟩
theorem J4 {K:PySem.W.Frag} {h:Heap} {mg:Str→Option Value} {x:Str} {C:Addr} {TR:List Value} {newId:String} (KX:K.In h) (hm:mg x=some (.ref C)) (q:PySem.W.excIn K C TR newId=true):OwnCls x C TR newId mg h:=by
 refine ⟨hm,?_⟩
 unfold PySem.W.excIn at q
 split at q
 ·rename_i dd cd sl ho
  split at q
  ·rename_i C' bm k0 k1 k2 k3 n k5 Yy hs
   simp only [Bool.and_eq_true,beq_iff_eq,Bool.not_eq_true'] at q
   obtain ⟨⟨⟨⟨⟨rfl,rfl⟩,TU⟩,ht⟩,bh⟩,Vk⟩:=q
   obtain ⟨nm,bs,mro,ns,qn,hd,sn,sub,ab,col,del⟩:=cd
   dsimp only at Yy TU bh Vk
   subst Yy TU
   have hsl:sl=#[k0,k1,k2,k3,some (.builtin n),k5]:=by
    obtain ⟨l⟩:=sl
    simp only at hs
    rw [hs]
   subst hsl
   exact ⟨bm,ns,nm,qn,bs,hd,sn,sub,ab,col,dd,k0,k1,k2,k3,k5,_,KX _ _ ho,.of_isNs (PySem.W.isNs_of_in KX bh),PySem.W.nsMap_none_of_in KX bh Vk,PySem.W.tail_of_in KX ht⟩
  ·cases q
 ·cases q
def QG (C:Addr) (E:XK) (t:TA):TS:=fun _ σ H=>t σ H fun vs H1=>vs.length≤sizeLine∧E (.ref C) none H1
theorem gN {x:Str} {np m8 pos:Pos} {e:Expr} {es:List Expr} {t:TA} {C:Addr} {TR:List Value} {B newId QH:String} (Bd:Body X E) (hc:X.calm=true) (hg:Gl X x) (hm:X.mg x=some (.ref C))
  (hk:PySem.W.excIn X.K C TR newId=true) (FB:ExcBaseFacts B newId QH TR) (ha:PA X (e :: es) t)
  (he:starEach (e :: es) X.env=(false,eval e X.env) :: starEach es X.env:=by rfl) (mr:(backTo m8 (starEach es X.env)).any (·.1)=false:=by rfl) (CP:(x == ("__debug__":Str))=false:=by decide) :
  PS X (.Raise (some (.Call (.Name x np) (e :: es) [] m8)) none pos) (QG C E t):=by
 intro pins s σ H D I h
 have O:=J4 (I.mod.OW) hm hk
 obtain ⟨tl,N,nm,q,bs,hdct,sn,sub,ab,col,dd,k0,k1,k2,k3,k5,mN,hC,hN,Vk,T⟩:=O.obj
 refine wpAny_Raise_call_subT (C:=C) (nm:=nm) (q:=q) (N:=N) (bs:=bs) (bm:=tl) (hdct:=hdct) (sn:=sn) (sub:=sub) (ab:=ab) (col:=col) (dd:=dd) (k0:=k0) (k1:=k1) (k2:=k2) (k3:=k3) (k5:=k5)
  FB (mN:=mN) (T.hasType FB.hasBase) (I.ok.hd hc) (by rw [he];show (false || (backTo m8 (starEach es X.env)).any (·.1))=false;rw [mr];rfl) Vk (qp I hg hm ⟨rfl,?_⟩ CP)
 have hA:=ha m8 pins s σ H _ I h
 rw [he] at hA ⊢
 refine Calls.evalArgs_plain (bV hA fun us s2 ⟨vs,H2,I2,r,hz,q2⟩=>?_)
 refine ⟨rfl,by rw [← r.length];exact hz,I2.bk _ _ hC,hN.keeps I2.bk,T.keeps I2.bk,fun h' a hx=>?_⟩
 rw [Bd.xe]
 have Of:X.A.frames=some (X.env :: X.outer):=by rw [← Bd.GD];exact I.ok.frames
 have Vl:∀ env ∈ X.stack,∀ b,env.frame=some b→b ∈ o9 X.stack:=fun env he b hb=>List.mem_filterMap.mpr ⟨env,he,hb⟩
 have F0:s2.heap.FunFrames (PySem.W.hideAll s2.heap (o9 X.stack)) X.stack:=PySem.W.funFrames_hide I2.stack Vl
 have F1:s2.heap.FunFrames (PySem.W.hideAll s2.heap (o9 X.stack)) (X.env :: X.outer):=by rw [← Bd.GD];exact F0
 have W2:(PySem.W.hideAll s2.heap (o9 X.stack)).StaysIn s2.heap:=fun b o q=>PySem.W.of_hideAll _ q
 have Og:∀ b o,s2.heap.get? b=some o→b ∉ o9 X.stack→(PySem.W.hideAll s2.heap (o9 X.stack)).get? b=some o:=fun b o e hb=>PySem.W.hideAll_get _ e hb
 have c0:C0 h' a:=by obtain ⟨t,q,_⟩:=hx.there;exact ⟨_,q,_,rfl,rfl⟩
 refine CW (P:=fun Rt=>∃ t,Heap.FlyingW (PySem.W.hideAll s2.heap (o9 X.stack)) X.outer a (.ref C) (.ref t) Rt∧h'.UpToSlots Rt) xn c0 (fun Q' hq=>wpAny_leaves_madeW Of Bd.fr W2 F1 hx fun Rt t xo tup tn up=>hq Rt ⟨t,xo,up⟩) fun Rt ⟨t,xo,up⟩ W0=>?_
 have J1:∀ b o,X.s₀.heap.get? b=some o→b ∉ o9 X.outer→∃ o',(PySem.W.hideAll s2.heap (o9 X.stack)).get? b=some o':=fun b o e hb=>by
  obtain ⟨o1,e1⟩:=(Bd.base I2).there b o e (by simp)
  exact ⟨o1,Og b o1 e1 (Bd.J2 (I2.old e) hb)⟩
 have Du:∀ b u,H2 b=some u→∃ o',(PySem.W.hideAll s2.heap (o9 X.stack)).get? b=some o':=fun b u e=>by
  have hb:b ∉ o9 X.stack:=fun z=>by rw [I2.A1 b z] at e;cases e
  have jS:=I2.bh.lt e
  obtain ⟨o1,e1⟩:∃ o1,s2.heap.get? b=some o1:=by
   cases hq:s2.heap.get? b with
   | some o1=>exact ⟨o1,rfl⟩
   | none=>exact absurd hq (CY (I2.bh b u e))
  exact ⟨o1,Og b o1 e1 hb⟩
 have F2:s2.heap.FunFrames (PySem.W.hideAll s2.heap (o9 X.stack)) X.outer:=by obtain ⟨_,_,k⟩:=F1;exact k
 have up2:s2.heap.UpToSlots Rt:=(Heap.UpToSlots.of_keeps hx.keeps).trans up
 exact ⟨a,C,.ref t,_,H2,rfl,⟨I2.os,I2.bare,xq (Bd.base I2) F2 W2 xo.1 up2 J1,vL I2.bh W2 xo.1 Du,xo,J1,Du,W0⟩,q2⟩
where
 CY {P:Program} {w:World} {H:Hp} {h:Heap} {a:Addr} {o:HO} (x:eM P w H h a o):h.get? a≠none:=by
  cases o with
  | lst xs=>obtain ⟨_,_,_,_,e⟩:=x;rw [e];simp
  | tup xs=>obtain ⟨_,_,_,ob,e,_⟩:=x;rw [e];simp
  | dK mG=>obtain ⟨_,_,_,_,o,_,_,e,_⟩:=x;rw [e];simp
  | dT mG=>obtain ⟨_,_,_,_,o,_,_,e,_⟩:=x;rw [e];simp
  | set S n=>obtain ⟨o,_,_,_,e,_⟩:=x;rw [e];simp
  | ins C dx fs=>obtain ⟨_,_,_,e,_⟩:=x;rw [e];simp
  | own y=>obtain ⟨_,e⟩:=x;rw [e];simp
  | xd fs=>obtain ⟨_,⟨_,_,_,e,_⟩,_⟩:=x;rw [e];simp
  | VZ lo hi=>obtain ⟨_,_,_,e⟩:=x;rw [e];simp
  | Df ob u=>obtain ⟨e,_⟩:=x;rw [e];simp
  | OU ps=>have e:h.get? a=some _:=x;rw [e];simp
  | met f y=>have e:h.get? a=some _:=x;rw [e];simp
  | ext φ=>obtain ⟨_,⟨_,e⟩,_⟩:=x;rw [e];simp
end
end L2
namespace L2
open PySem PySem.Spec PyProof.Rows
def ExcAt (a C:Addr) (h:Heap):Prop:=∃ oe vs,h.get? a=some oe∧oe.cls=.ref C∧oe.data=.fields vs∧vs[2]?=some .none
theorem ExcAt.mono {a C:Addr} {h1 h2:Heap} (x:ExcAt a C h1) (k:∀ o,h1.get? a=some o→h2.get? a=some o):ExcAt a C h2:=let ⟨oe,vs,e,c,d⟩:=x;⟨oe,vs,k _ e,c,d⟩
structure Catch (K:PySem.W.Frag) (C:Addr):Prop where
 ty:PySem.W.typeIn K (.ref C)=some (.type "type")
 cls:(PySem.W.clsIn K C).isSome=true
 base:PySem.W.subIn K (.ref C) (.type "BaseException")=some true
theorem uS {K:PySem.W.Frag} {M:Model} {h:Heap} {C:Addr} (KX:K.In h) (z0:(PySem.W.clsIn K C).isSome=true):PySem.W.Looks M h (isType (.ref C)) true:=by
 unfold PySem.W.clsIn at z0
 split at z0
 ·rename_i c' d' cd' SW ho
  intro A' Q' E' s' k q
  unfold isType loadHead
  exact wpAny_bind (wpAny_loadPart (k _ _ (KX _ _ ho)) (wpAny_pure q))
 ·cases z0
theorem BF {M:Model} {A:Around} {E:Value→Shared→Prop} {s:Shared} {K:PySem.W.Frag} {a C C2:Addr} {b:Bool} {Q:Bool→Shared→Prop} (KX:K.In s.heap) (x:ExcAt a C s.heap) (c:Catch K C2)
  (hs:PySem.W.subIn K (.ref C) (.ref C2)=some b) (q:Q b s):wpAny M A (excMatches (.ref a) (.ref C2)) Q E s:=by
 obtain ⟨h,g,d,t,os⟩:=s
 obtain ⟨oe,vs,he,hc,hd,_⟩:=x
 have L1:PySem.W.Looks M h (typeOf (.ref C2)) (.type "type"):=PySem.W.looks_typeIn KX c.ty
 have L2:PySem.W.Looks M h (isType (.ref C2)) true:=uS KX c.cls
 have L3:PySem.W.Looks M h (isSubtype (.ref C2) (.type "BaseException")) true:=PySem.W.looks_subIn KX c.base
 have L4:PySem.W.Looks M h (isSubtype (.ref C) (.ref C2)) b:=PySem.W.looks_subIn KX hs
 have L5:PySem.W.Looks M h (typeOf (.ref a)) (.ref C):=hc ▸ (PySem.W.Looks.ld he).andThen .now
 have f:=tc_notTuple
 have L6:PySem.W.Looks M h (isSubtype (.type "type") (.type "tuple")) false:=PySem.W.Looks.of_pure f
 have L7:PySem.W.Looks M h (isInstance (.ref C2) (.type "tuple")) false:=L1.andThen L6
 unfold excMatches
 refine wpAny_bind (L7.at ?_)
 simp only [Bool.false_eq_true,if_false]
 refine wpAny_bind (wpAny_pure ?_)
 rw [List.forIn_cons]
 unfold isExcClass
 refine wpAny_bind (wpAny_bind (wpAny_bind (wpAny_bind (L2.at ?_))))
 simp only [if_true]
 refine L3.at ?_
 simp only [Bool.not_true,Bool.false_eq_true,if_false]
 refine wpAny_pure ?_
 simp only [List.forIn_nil]
 refine wpAny_pure (wpAny_bind (L5.at ?_))
 rw [List.forIn_cons]
 refine wpAny_bind (wpAny_bind (wpAny_bind (L4.at ?_)))
 cases b with
 | true=>simp only [if_true];exact wpAny_pure (wpAny_pure (wpAny_pure q))
 | false=>simp only [Bool.false_eq_true,if_false];exact wpAny_pure (wpAny_pure (wpAny_pure q))
def Gc (X:Cx) (pins:List (Addr × Obj)) (E:XK):Cx:={ X with
 pn:=X.pn ++ pins
 xe:=fun e s'=>∃ (a C:Addr) (a0:Value) (B:Heap) (σ:St) (H H':Hp) (s:Shared),e=.ref a∧Inv X pins σ H s∧EI X.prog X.w X.stack H s a C a0 B H' s'∧E (.ref C) none H' }
def Ac (X:Cx) (a:Addr):Cx:={ X with A:=X.A.mark (some (.ref a)),calm:=false,xe:=fun _ _=>False }
section
variable {X:Cx} {E:XK} {pins:List (Addr × Obj)} {σ:St} {H:Hp} {s:Shared} {a:Addr}
theorem Inv.TV (I:Inv X pins σ H s):Inv (Gc X pins E) [] σ H s :=
 ⟨⟨I.ok.mod,I.ok.kind,I.ok.glob,I.ok.blt,I.ok.above,I.ok.inj,I.ok.has,I.ok.JV,I.ok.hd,I.ok.frames,I.ok.GD,I.ok.Ly,I.ok.bs,I.ok.GF,I.ok.xW,I.ok.wq,I.ok.pD,I.ok.JQ⟩,
  I.os,I.bare,I.base,I.loc,I.cell,I.free,I.jR,fun p hp=>I.pin p (by rw [List.append_nil] at hp;exact hp),I.bh,I.len⟩
theorem Inv.CZ {Oh:List (Addr × Obj)} (I:Inv (Gc X pins E) Oh σ H s):Inv X pins σ H s :=
 ⟨⟨I.ok.mod,I.ok.kind,I.ok.glob,I.ok.blt,I.ok.above,I.ok.inj,I.ok.has,I.ok.JV,I.ok.hd,I.ok.frames,I.ok.GD,I.ok.Ly,I.ok.bs,I.ok.GF,I.ok.xW,I.ok.wq,I.ok.pD,I.ok.JQ⟩,
  I.os,I.bare,I.base,I.loc,I.cell,I.free,I.jR,fun p hp=>I.pin p (List.mem_append_left _ hp),I.bh,I.len⟩
theorem Inv.Oi (I:Inv X pins σ H s):Inv (Ac X a) pins σ H s :=
 ⟨⟨I.ok.mod,I.ok.kind,I.ok.glob,I.ok.blt,I.ok.above,I.ok.inj,I.ok.has,I.ok.JV,(fun z=>by cases z),I.ok.frames,I.ok.GD,I.ok.Ly,I.ok.bs,I.ok.GF,I.ok.xW,I.ok.wq,I.ok.pD,I.ok.JQ⟩,
  I.os,I.bare,I.base,I.loc,I.cell,I.free,I.jR,I.pin,I.bh,I.len⟩
theorem Inv.TX (hd:X.calm=true→X.A.handled=none) (I:Inv (Ac X a) pins σ H s):Inv X pins σ H s :=
 ⟨⟨I.ok.mod,I.ok.kind,I.ok.glob,I.ok.blt,I.ok.above,I.ok.inj,I.ok.has,I.ok.JV,hd,I.ok.frames,I.ok.GD,I.ok.Ly,I.ok.bs,I.ok.GF,I.ok.xW,I.ok.wq,I.ok.pD,I.ok.JQ⟩,
  I.os,I.bare,I.base,I.loc,I.cell,I.free,I.jR,I.pin,I.bh,I.len⟩
theorem Gd:ia (ic X.prog X.w) (Gc X pins E) E:=by
 intro Oh σ H s e s' I h
 obtain ⟨a,C,a0,B,H',rfl,T,q⟩:=h
 exact ⟨a,C,a0,B,σ,H,H',s,rfl,I.CZ,T,q⟩
theorem Un.ext {fs:List Addr} {H H':Hp} {h h':Heap} {a:Addr} {o:HO} (u:Un fs [] H H' h h') (ha:h.get? a=none) (hn:H' a=none):Un fs [] H (upd H' a o) h h' where
 keep:=u.keep
 slot:=u.slot
 free:=fun b ob e n hx=>by rw [aE (fun z=>by rw [z,ha] at e;cases e)];exact u.free b ob e n hx
 there:=u.there
 t9:=fun b xs e=>by have q:=u.t9 b xs e;rw [aE (aK q hn)];exact q
 rn:=fun b ob xs e=>by have q:=u.rn b ob xs e;rw [aE (aK q hn)];exact q
 uA:=fun b ps e=>by obtain ⟨m,q⟩:=u.uA b ps e;exact ⟨m,by rw [aE (aK q hn)];exact q⟩
theorem xu {C:Addr} {a0:Value} {B:Heap} {H':Hp} {s':Shared} {h2:Heap} (I:Inv X pins σ H s) (T:EI X.prog X.w X.stack H s a C a0 B H' s') (fl:Heap.FlyingW B X.stack a (.ref C) a0 h2) (up:s'.heap.UpToSlots h2) (cx:C0 h2 a) :
  Inv X pins σ (upd H' a (.ext (ExcAt a C))) { s' with heap:=h2 }∧H' a=none:=by
 obtain ⟨oe,vs,he,MC,hd,_⟩:=fl.first
 obtain ⟨oe1,vs1,he1,_,TY,_⟩:=T.xo.first
 have Yz:B.get? a=none:=T.xo.2.1
 have hn:H' a=none:=by
  cases q:H' a with
  | none=>rfl
  | some u=>obtain ⟨o',z⟩:=T.Du a u q;rw [Yz] at z;cases z
 have ha:s.heap.get? a=none:=by
  cases q:s.heap.get? a with
  | none=>rfl
  | some o =>
   by_cases hf:a ∈ o9 X.stack
   ·obtain ⟨_,o1,q1,q2⟩:=BE T.xo.2.2.1 hf
    rw [he1] at q1;cases q1
    exact absurd TY (q2 vs1)
   ·obtain ⟨o',z⟩:=T.J1 a o q hf
    rw [Yz] at z;cases z
 have u1:=xq T.un T.xo.2.2.1 T.xo.1 fl.1 up T.J1
 have Y0:=vL T.bh T.xo.1 fl.1 T.Du
 have ex:ExcAt a C h2:=by
  obtain ⟨o2,g1,ws,g2,g3⟩:=cx
  rw [he] at g1;cases g1
  rw [hd] at g2;cases g2
  exact ⟨oe,vs,he,MC,hd,g3⟩
 have Y1:u5 X.prog X.w (upd H' a (.ext (ExcAt a C))) h2:=fun b o e=>by
  by_cases hb:b=a
  ·subst hb
   rw [aB] at e;cases e
   exact ⟨ex,⟨oe,he⟩,fun h1 h2 p k=>p.mono k⟩
  ·rw [aE hb] at e
   exact (Y0 b o e).zJ (fun _ _ _ q=>q) (fun c q=>by rw [aE (aK q hn)];exact q) fun c xs q=>by rw [aE (aK q hn)];exact q
 exact ⟨I.GH (s':={ s' with heap:=h2 }) (ch:=[]) T.os (u1.ext ha hn) Y1 T.bare (fun b z=>absurd z (by simp)),hn⟩
end
end L2
namespace L2
open PySem PySem.Spec PyProof.Rows
structure jb (K:PySem.W.Frag) (C:Addr):Prop where
 ga:PySem.W.findIn K (.ref C) "__getattribute__"=some (some (.builtin "BaseException.__getattribute__"))
 nga:PySem.W.findIn K (.ref C) "__getattr__"=some none
 at_:PySem.W.findIn K (.ref C) "__class__"=some (some (.builtin "object.__class__"))
 cls:(PySem.W.clsIn K C).isSome=true
 obj:PySem.W.mroIn K C (.type "object")=some true
 base:PySem.W.subIn K (.ref C) (.type "BaseException")=some true
section
variable {prog:Program} {w:World} {A:Around} {E:Value→Shared→Prop} {h:Heap} {g:Array GenState} {d:Drawn} {t:Nat} {os:OsState} {K:PySem.W.Frag} {a C:Addr}
theorem ExcAt.type {M:Model} (x:ExcAt a C h):PySem.W.Looks M h (typeOf (.ref a)) (.ref C):=by
 obtain ⟨oe,vs,he,hc,hd,_⟩:=x
 exact hc ▸ (PySem.W.Looks.ld he).andThen .now
open PySem.W Builtin Builtin.ObjectAttr Builtin.Getset_descriptor in
theorem zO {R:Result→Shared→Prop} {tp:Value} (KX:K.In h) (x:ExcAt a C h) (c:jb K C) (hq:R (.ok (.ret (.ref C))) ⟨h,g,d,t,os⟩) :
  codeAny (model prog w) A (.call (.builtin "getset_descriptor.__get__") ⟨[.builtin "object.__class__",.ref a,tp],[]⟩) R ⟨h,g,d,t,os⟩:=by
 have L0:=x.type (M:=model prog w)
 have L1:=looks_mroIn (M:=model prog w) KX c.obj
 refine codeAny_call_builtin KF.slot_gs.plain KF.entry_gs (KF.slot_gs.check _ _ _ _ _ _ _ _ KF.type_class (KF.args_gs _ _ _) ?_)
 unfold Builtin.«getset_descriptor.__get__» descrGet
 rw [dga_obj]
 refine wpAny_bind (wpAny_pure ?_)
 unfold descrGetter descrCheckInstance descrNameAndClass isInstance
 simp only [KF.owner_class]
 repeat lk
 refine ⟨Code.quiet_builtin _ (by decide +kernel),codeAny_builtin KF.entry_class ?_⟩
 unfold Builtin.«object.__class__» shownTypeOf
 repeat lk
 exact hq
open PySem.W in
theorem Hn {M:Model} {Oj:Value} {Q:Unit→Shared→Prop} (KX:K.In h) (x:ExcAt a C h) (c:jb K C) (hq:Q () ⟨h,g,d,t,os⟩) :
  wpAny M A (checkBuiltinCall "BaseException.__getattribute__" ⟨[.ref a,Oj],[]⟩) Q E ⟨h,g,d,t,os⟩:=by
 have hk:builtinKind "BaseException.__getattribute__"=some .slot:=by decide +kernel
 have QI:splitId "BaseException.__getattribute__"=some ("BaseException","__getattribute__"):=by decide +kernel
 have ha:=PySem.F.args_bexc_ga (.ref a) Oj
 have L0:=x.type (M:=M)
 have L1:=looks_subIn (M:=M) KX c.base
 simp only [checkBuiltinCall,hk,QI]
 refine wpAny_bind ?_
 unfold isInstance
 refine wpAny_bind (L0.at ?_)
 refine L1.at ?_
 repeat (first | assumption | wp_step)
open PySem.W in
theorem Ho {tk:Tok} {Q:Fin→Shared→Prop} (KX:K.In h) (x:ExcAt a C h) (c:jb K C) (hq:Q (.done (.ret (.ref C))) ⟨h,g,d,t,os⟩) :
  wpAny (model prog w) A (Builtin.«object.__getattribute__» ⟨[.ref a,.str "__class__" tk],[]⟩) Q E ⟨h,g,d,t,os⟩:=by
 have hT5:(⟨h,g,d,t,os⟩:Shared).TypeIs (.builtin "object.__class__") "getset_descriptor":=PySem.F.typeOf_object_class
 have f5:=PySem.F.typeOf_object_class
 have f6:=PySem.F.slot_gs_get.lookup
 have f7:=PySem.F.slot_gs_set.lookup
 have L0:=x.type (M:=model prog w)
 have L1:=looks_findIn (M:=model prog w) KX c.at_
 repeat (any_goals (first | assumption | with_reducible refine L0.at ?_ | with_reducible refine L1.at ?_ | wp_step))
 refine zO KX x c ?_
 repeat (any_goals (first | assumption | wp_step))
open PySem.W in
theorem J7 {Q:Option Value→Shared→Prop} (KX:K.In h) (x:ExcAt a C h) (c:jb K C) (hq:Q (some (.ref C)) ⟨h,g,d,t+1,os⟩) :
  wpAny (model prog w) A (getAttr? (.ref a) "__class__") Q E ⟨h,g,d,t,os⟩:=by
 have f3:=PySem.F.excAttr_ValueError.ga.bind (.ref a)
 have L0:=x.type (M:=model prog w)
 have L1:=looks_findIn (M:=model prog w) KX c.ga
 have L2:=looks_findIn (M:=model prog w) KX c.nga
 have QJ:(Value.builtin "BaseException.__getattribute__" == Value.builtin "object.__getattribute__")=false:=by decide +kernel
 have xv:(onTheHeap (Value.ref C) && Value.builtin "BaseException.__getattribute__" == Value.builtin "object.__getattribute__")=false:=by rw [QJ];rfl
 unfold getAttr? getAttrBy? getAttrBy
 repeat (any_goals (first | assumption | with_reducible refine L0.at ?_ | with_reducible refine L1.at ?_ | with_reducible refine L2.at ?_ | wp_step))
 refine codeAny_call_builtin PySem.F.excAttr_ValueError.ga.plain PySem.F.entry_bexc_ga (Hn KX x c (Ho KX x c ?_))
 repeat (any_goals (first | assumption | wp_step))
open PySem.W in
theorem J9 (c:jb K C):KitX K (.ref a) (.ref C) (ExcAt a C) where
 ty:=fun _ _ _ x=>x.type
 it:=fun _ _ KX _=>uS KX c.cls
 ne:=fun h tp dd aq n sl KX htp=>by
  refine Bool.eq_false_iff.mpr fun q=>?_
  have e:C=tp:=Value.ref.inj (beq_iff_eq.mp q)
  subst e
  have z:=c.cls
  unfold PySem.W.clsIn at z
  split at z
  ·rename_i c' d' cd' SW ho
   have z:=(KX _ _ ho).symm.trans htp
   cases z
  ·cases z
 ca:=fun {prog w A E Q s} KX x k=>by obtain ⟨h,g,d,t,os⟩:=s;exact J7 KX x c k
end
end L2
namespace L2
open PySem PySem.Spec PyProof.Rows
abbrev TJ:=Str→St→Hp→VK→Prop
def PJ (X:Cx) (es:List Expr) (t:TJ):Prop :=
 ∀ (out:Str) (pins:List (Addr × Obj)) (s:Shared) (σ:St) (H:Hp) (Q:VK),Inv X pins σ H s→t out σ H Q→wpAny (model X.prog X.w) X.A (joinParts out (evalEach es X.env)) (EP X pins σ Q) X.xe s
section
variable {X:Cx} {e:Expr} {es:List Expr} {te:TE} {t:TJ} {pos:Pos}
def W3:TJ:=fun out _ H Q=>out.length≤sizeLine∧Q (.str out) H
theorem pN:PJ X [] W3:=fun out pins s σ H Q I h=>joinParts_nil (show EP X pins σ Q (.str out s.toks) { s with toks:=s.toks+1 } from ⟨.str out,H,I.tok _,⟨_,rfl⟩,h.2⟩) h.1
def TZ (te:TE) (t:TJ):TJ:=fun out σ H Q=>te σ H fun v H1=>∃ y,v=.str y∧(out ++ y).length≤sizeLine∧t (out ++ y) σ H1 Q
theorem bJ (he:PE X e te) (hr:PJ X es t):PJ X (e :: es) (TZ te t):=by
 intro out pins s σ H Q I h
 refine joinParts_consE (joinParts_cons (bV (he pins s σ H _ I h) fun v s1 ⟨x,H1,I1,r1,y,ex,hz,q⟩=>?_))
 subst ex
 obtain ⟨tk,rfl⟩:=r1
 exact ⟨hz,hr _ pins s1 σ H1 Q I1 q⟩
theorem lB {e1 e2:Expr} {rest:List Expr} (h:PJ X (e1 :: e2 :: rest) t):PE X (.JoinedStr (e1 :: e2 :: rest) pos) (fun σ H Q=>t Str.empty σ H Q):=fun pins s σ H Q I hw=>JoinedStr_many (h Str.empty pins s σ H Q I hw)
def Ta (te:TE):TE:=fun σ H Q=>te σ H fun v H1=>∃ i,v=.int i∧i.natAbs.log2 < 1920∧Q (.str (toString i)) H1
theorem gz (he:PE X e te):PE X (.FormattedValue e (-1) none pos) (Ta te):=by
 intro pins s σ H Q I h
 refine FormattedValue_plain (bV (he pins s σ H _ I h) fun v s1 ⟨x,H1,I1,r1,i,ex,hi,q⟩=>?_)
 subst ex
 obtain ⟨tk,rfl⟩:=r1
 exact formatField_int_small hi ⟨.str _,H1,I1.tok _,⟨_,rfl⟩,q⟩
theorem df {i:Int} {n:Nat} (h:i.natAbs < 2 ^ n) (hn:n≤1920) (h0:0 < n):i.natAbs.log2 < 1920:=by
 by_cases z:i.natAbs=0
 ·rw [z];decide
 ·have:=(Nat.log2_lt z).mpr h
  omega
end
end L2
namespace L2
open PySem PySem.Spec PyProof.Rows
theorem PS.A2 {X:Cx} {st:Stmt} {t:TS} (h:PS X.A2 st t):PS X st t:=fun pins s σ H D I hw =>
 wpAny_mono (h pins s σ H D (I.zK _) hw) (fun _ _ q=>q.pH) fun _ _ z=>False.elim z
theorem aX {X:Cx}:ia (ic X.prog X.w) X E0:=fun _ _ _ _ _ _ _ h=>by obtain ⟨_,_,_,_,_,_,_,q⟩:=h;exact q.elim
structure Def (P:Program) (w:World) (K:PySem.W.Frag) (mg:Str→Option Value) (base:Heap) (k:Nat) (x:Str) (ps:List Str) (sp:Sp):Prop where
 ex:∃ (f:Addr) (fd:FuncData),bO P w K mg base (ic P w) k f fd ps sp∧mg x=some (.ref f)∧PySem.W.keepIn K (.ref f)=true∧Binds K fd ps []
section
variable {P:Program} {w:World} {K:PySem.W.Frag} {mg:Str→Option Value} {base:Heap}
theorem Def.mono {j k:Nat} {x:Str} {ps:List Str} {sp:Sp} (D:Def P w K mg base j x ps sp) (h:j≤k):Def P w K mg base k x ps sp:=let ⟨f,fd,a,r⟩:=D.ex;⟨f,fd,a.mono h,r⟩
structure aO (K:PySem.W.Frag) (mg:Str→Option Value) (x:Str) (st:Stmt):Prop where
 ex:∃ (f:Addr) (fd:FuncData),mI K x x st f fd∧mg x=some (.ref f)
theorem aO.mk' {h:Heap} {x:Str} {st:Stmt} {f:Addr} {oc:Value} {od an:Option Addr} {Dh:Array (Option Value)} {kV doc pm bM ct:Value} (KX:K.In h) (G:h.Ns mainGlobals mg)
  (a:PySem.W.nsIn K mainGlobals x=some (some (.ref f))) (l:K.lookup f=some ⟨oc,od,.func (PySem.W.fnOf x x (bI st) (bA st) (aG st) .none kV doc pm an bM ct),Dh⟩)
  (c:PySem.W.codeIn K bM x=true) (k:PySem.W.keepIn K (.ref f)=true):aO K mg x st:=⟨f,_,fj l c k,PySem.W.mg_of KX G a⟩
abbrev Vm (P:Program) (w:World) (K:PySem.W.Frag) (mg:Str→Option Value) (base:Heap) (N:List Str) (x:Str) (st:Stmt) (f:Addr) (bM:Value) (A:Around) (outer:List Env) (s:Shared) (H:Hp) (E:XK):Cx :=
 EC (ic P w) P w K mg base N x (aG st) f bM A outer s H E
theorem ax {N:List Str} {x:Str} {st:Stmt} {f:Addr} {bM:Value} {A:Around} {outer:List Env} {s:Shared} {H:Hp} {E:XK}:Body (Vm P w K mg base N x st f bM A outer s H E) E:=⟨rfl,rfl,rfl,rfl⟩
theorem aO.def {x:Str} {st:Stmt} {N ps:List Str} {k:Nat} {sp:Sp} (F:aO K mg x st) (S:aP N ps (aG st))
  (hb:∀ (kV doc pm:Value) (an:Option Addr) (bM ct:Value) (us:List Value),us.length=ps.length→bindArgs (PySem.W.fnOf x x (bI st) (bA st) (aG st) .none kV doc pm an bM ct) ⟨us,[]⟩=pure (ps.zip us))
  (len:∀ vs H Q E,sp vs H Q E→vs.length=ps.length)
  (pK:∀ (f:Addr) (bM:Value) (A:Around) (outer:List Env) (s:Shared) (H:Hp) (vs:List V) (Q:VK) (E:XK),gy k (A.deeper (envOfC x (aG st) s.heap.objs.size f bM))→sp vs H Q E →
   ∃ t,Dg (Vm P w K mg base N x st f bM A outer s H E) (bA st) t∧t { nx:=fun _ H'=>Q .bH H',rt:=Q } (start N vs) H):Def P w K mg base (k+1) x ps sp:=by
 obtain ⟨f,fd,F1,hm⟩:=F.ex
 have b:=F1.binds hb
 have kp:=F1.kp
 obtain ⟨oc,od,kV,doc,pm,an,bM,ct,Dh,rfl,lk,AS⟩:=F1.ex
 exact ⟨f,_,Jp lk AS S len fun A outer s H vs Q E hr zM=>pK f bM A outer s H vs Q E hr zM,hm,kp,b⟩
end
section
variable {X:Cx} {k:Nat} {ps:List Str} {sp:Sp} {E:XK} {x:Str} {p pos:Pos} {e:Expr} {es:List Expr} {t:TA}
theorem aZ (D:Def X.prog X.w X.K X.mg X.base k x ps sp) (hr:gy k X.A) (hx:ia (ic X.prog X.w) X E) (ha:PA X (e :: es) t) (hg:Gl X x:=by rfl) (CP:(x == ("__debug__":Str))=false:=by decide)
  (he:starEach (e :: es) X.env=(false,eval e X.env) :: starEach es X.env:=by rfl) (mr:(backTo pos (starEach es X.env)).any (·.1)=false:=by rfl) :
  PE X (.Call (.Name x p) (e :: es) [] pos) (GR sp [] E t):=by
 obtain ⟨f,fd,F,hm,hk,hb⟩:=D.ex
 exact MX F hr hg hm hk hb .nil hx ha CP he mr
end
end L2
namespace L2
open PySem PySem.Spec PyProof.Rows
section
variable {X:Cx}
def Ol (K:PySem.W.Frag):R2:=fun x y H Q=>∃ l b xs zs,x=.ref l∧y=.ref b∧aT K H l xs∧aT K H b zs∧xs.length+zs.length≤sizeLine∧∀ p,H p=none→Q (.ref p) (upd H p (.lst (xs ++ zs)))
theorem Mh:ot X (binaryOp .Add) (Ol X.K):=by
 intro pins s σ H x y v u Q I rx ry h
 obtain ⟨l,b,xs,zs,rfl,rfl,hH,hB,hz,q⟩:=h
 cases rx
 cases ry
 obtain ⟨aq,r,pl,_⟩:=I.list hH
 obtain ⟨gw,r2,Tb,_⟩:=I.list hB
 obtain ⟨⟨cls,dd,data,sl⟩,ho,hc,n,hd⟩:=id pl.isList
 obtain ⟨⟨aAH,dd2,data2,Vj⟩,Y2,Y3,n2,hd2⟩:=id Tb.isList
 simp only at hc hd Y3 hd2
 subst hc hd Y3 hd2
 have e:aq.toArray ++ gw.toArray=(aq ++ gw).toArray:=by simp
 have qt:aq.toArray.size+gw.toArray.size≤sizeLine:=by
  rw [List.size_toArray,List.size_toArray,← r.length,← r2.length];exact hz
 refine concat_meets ⟨_,ho,rfl⟩ ⟨_,Y2,rfl⟩ noFill_list_add seq_list_add PySem.F.slot_list_add PySem.F.entry_list_add (PySem.F.args_list_add_2 _ _) (list_addW l b aq.toArray gw.toArray n n2 dd dd2 sl Vj qt) ⟨ho,Y2,?_⟩
 rw [e]
 exact ⟨.ref _,_,I.TB (t':=s.toks) (r.append r2) (by rw [List.length_append];exact hz),rfl,q _ I.fresh⟩
def Tc:V→Value→Prop
 | .ty n,c=>c=.type n
 | .ref a,c=>c=.ref a
 | _,_=>False
theorem KA {v:V} {c u:Value} (h:Tc v c) (r:RelV v u):u=c:=by
 cases v with
 | ty n=>exact (show u=Value.type n from r).trans (show c=Value.type n from h).symm
 | ref a=>exact (show u=Value.ref a from r).trans (show c=Value.ref a from h).symm
 | _=>exact h.elim
inductive W4 (K:PySem.W.Frag) (H:Hp):V→Value→Prop where
 | of {x:V} {t:Value}:vE K H x t→W4 K H x t
 | exc {a C:Addr}:H a=some (.ext (ExcAt a C))→jb K C→W4 K H (.ref a) (.ref C)
def Td (K:PySem.W.Frag):List V→Hp→VK→Prop:=fun xs H Q=>∃ x y t c b,xs=[x,y]∧Tc y c∧W4 K H x t∧PySem.W.kitOne K t c=some b∧Q (.bl b) H
theorem KC:uG X (.builtin "isinstance") (Td X.K):=by
 intro pins s σ H vs us Q I rv h
 obtain ⟨x,y,t,c,b,rfl,hc,ty,e,q⟩:=h
 obtain ⟨u,v,rfl,ru,Pz⟩:=rv.two
 obtain rfl:=KA hc Pz
 cases ty with
 | of ty=>exact Hi I ru ty e fun tk=>⟨.bl b,H,I.tok _,rfl,q⟩
 | exc ex ec =>
  cases ru
  exact PySem.W.kia_one (J9 ec) I.uB (I.bh _ _ ex).1 e (fun z=>nomatch z) fun tk=>⟨.bl b,H,I.tok _,rfl,q⟩
end
end L2
namespace L2
open PySem PySem.Spec PyProof.Rows
theorem fk {X:Cx} (K:PySem.W.Frag) {e1 e2:Expr} {t:TA} {p pos:Pos} (hm:X.mg "isinstance"=none) (ha:PA X [e1,e2] t) (hK:X.K=K:=by rfl) (hg:Gl X "isinstance":=by rfl)
  (he:starEach [e1,e2] X.env=(false,eval e1 X.env) :: starEach [e2] X.env:=by rfl) (mr:(backTo pos (starEach [e2] X.env)).any (·.1)=false:=by rfl) :
  PE X (.Call (.Name "isinstance" p) [e1,e2] [] pos) (Wa (Td K) t):=by
 subst hK
 exact bQ KC hg hm boot_isinstance ha (by decide) (by decide) he mr
theorem wx:bootBuiltins "ValueError"=some (.type "ValueError"):=by decide +kernel
end L2
namespace L2
open PySem PySem.Spec PyProof.Rows
def Ae (K:PySem.W.Frag):Sp:=fun vs H Q _=>∃ (a:Addr) (ns:List Int),vs=[.ref a]∧aT K H a (ns.map V.int)∧ns.length≤63∧∀ H',Q (.bl true) H'
section
variable {P:Program} {w:World} {K:PySem.W.Frag} {mg:Str→Option Value} {base:Heap}
theorem mI.W5 {x:Str} {st:Stmt} {f:Addr} {fd:FuncData} {N ps:List Str} {k:Nat} {sp:Sp} (F:mI K x x st f fd) (S:aP N ps (aG st)) (len:∀ vs H Q E,sp vs H Q E→vs.length=ps.length)
  (pK:∀ (f:Addr) (bM:Value) (A:Around) (outer:List Env) (s:Shared) (H:Hp) (vs:List V) (Q:VK) (E:XK),gy k (A.deeper (envOfC x (aG st) s.heap.objs.size f bM))→sp vs H Q E →
   ∃ t,Dg (Vm P w K mg base N x st f bM A outer s H E) (bA st) t∧t { nx:=fun _ H'=>Q .bH H',rt:=Q } (start N vs) H):bO P w K mg base (ic P w) (k+1) f fd ps sp:=by
 obtain ⟨oc,od,kV,doc,pm,an,bM,ct,Dh,rfl,lk,AS⟩:=F.ex
 exact Jp lk AS S len fun A outer s H vs Q E hr zM=>pK f bM A outer s H vs Q E hr zM
theorem KD {st:Stmt} {fa:Addr} {k:Nat} (S:aO K mg "law" st)
  (hb:∀ (kV doc pm:Value) (an:Option Addr) (bM ct:Value) (us:List Value),us.length=1→bindArgs (PySem.W.fnOf "law" "law" (bI st) (bA st) (aG st) .none kV doc pm an bM ct) ⟨us,[]⟩=pure ((["script"]:List Str).zip us))
  (P8:mg "law"=some (.ref fa)) (hF:∀ (f:Addr) (fd:FuncData) (base:Heap),mI K "law" "law" st f fd→bO P w K mg base (ic P w) k f fd ["script"] (Ae K)) :
  ∃ fd:FuncData,(∀ (s:Shared) (u:Value),BindsTo s fd ⟨[u],[]⟩ [("script",u)])∧∀ base:Heap,K.In base→base.Ns mainGlobals mg→bO P w K mg base (ic P w) k fa fd ["script"] (Ae K):=by
 obtain ⟨f,fd,F,hm⟩:=S.ex
 rw [P8] at hm
 cases hm
 refine ⟨fd,?_,fun base _ _=>hF fa fd base F⟩
 obtain ⟨oc,od,kV,doc,pm,an,bM,ct,Dh,rfl,lk,AS⟩:=F.ex
 exact fun s u=>.of_eq (hb kV doc pm an bM ct [u] rfl)
end
theorem KE {l:PySem.W.OpenLaw} {k:Nat} {q:Program} {loose:List Str} {XP:(Str→Option Value)→Heap→Prop} {YP:World→Heap→Prop} {d:DefRec} {K:Params→PySem.W.Frag}
  (hr:gy k callerA) (hn:l.most=some 63) (TF:d.params.defaults=[])
  (hY:∀ (w:World) (h:Heap),YP w h→(K w.params).In h)
  (F:∀ (w:World) (mg:Str→Option Value) (fa:Addr) (h:Heap),(K w.params).In h→h.Ns mainGlobals mg→mg d.name=some (.ref fa) →
   ∃ fd:FuncData,(∀ (s:Shared) (u:Value),BindsTo s fd ⟨[u],[]⟩ [("script",u)]) ∧
    ∀ base:Heap,(K w.params).In base→base.Ns mainGlobals mg→bO l.prog w (K w.params) mg base (ic l.prog w) k fa fd ["script"] (Ae (K w.params))) :
  PySem.W.WalkO q loose XP YP l.row.toRowW d [] (fun f vs=>PySem.call f vs) :=
 Mg (n:=63) (k:=k) (x:="script") (CX:=fun w=>ic l.prog w) (sp:=fun w=>Ae (K w.params)) hn (by decide) TF hr hY F (fun _ _ a ns hl _ hS=>⟨a,ns,rfl,hS,hl,fun _=>rfl⟩)
  fun _ _ _ _ _ h=>by obtain ⟨_,_,_,_,_,_,_,q⟩:=h;exact q.elim
theorem aS {X:Cx} {x:Str} {n:Int} {pos:Pos} (h:∃ tk,X.mg x=some (.int n tk)) (hg:Gl X x:=by rfl) (hd:(x == ("__debug__":Str))=false:=by decide):PE X (.Name x pos) (tC (.int n)):=by
 obtain ⟨tk,e⟩:=h
 exact cF hg e ⟨tk,rfl⟩ hd
end L2
namespace L2
open PySem
theorem ie {p A B:Prop} [Decidable p] (hp:¬ p) (h:B):if decide p=true then A else B:=by rw [decide_eq_false hp];exact eS h
theorem g7 {p A B:Prop} [Decidable p] (hp:p) (h:A):if decide p=true then A else B:=by rw [decide_eq_true hp];exact ja h
theorem oZ {p A B:Prop} [Decidable p] (hp:p) (h:B):if (!decide p)=true then A else B:=by rw [decide_eq_true hp];exact eS h
theorem xw {p A B:Prop} [Decidable p] (hp:¬ p) (h:A):if (!decide p)=true then A else B:=by rw [decide_eq_false hp];exact ja h
theorem ig {n:Int} (h:-1000≤n) (h2:n≤1000):n.natAbs < 2 ^ 1000:=by
 have:n.natAbs≤1000:=by omega
 exact Nat.lt_of_le_of_lt this (by decide)
theorem aJ.put {H H':Hp} {p:Addr} {o:HO} (s:aJ H H') (hp:H p=none):aJ H (upd H' p o):=fun b u e=>by rw [aE (aK e hp)];exact s b u e
theorem aJ.new {H H':Hp} {p:Addr} {o:HO} (s:aJ H H') (hp:H' p=none):aJ H (upd H' p o):=s.put (s.free hp)
end L2
namespace L2
open PySem
end L2
namespace L2
open PySem PySem.Spec PyProof.Rows
theorem zP:entryFor table "proto.unchain"=some Builtin.«proto.unchain»:=entryFor_of_fast (by kernel_rfl)
section
variable {prog:Program} {w:World} {A:Around} {E:Value→Shared→Prop} {s:Shared} {α:Type}
theorem Mi {e a:Addr} {oe oa:Obj} {Y4 Te:Array Value} {Q:α→Shared→Prop} (hh:A.handled=some (.ref a)) (Di:a≠e) (he:s.heap.get? e=some oe) (de:oe.data=.fields Y4) (ze:2 < Y4.size) (ha:s.heap.get? a=some oa) (da:oa.data=.fields Te) (v2:Te[2]?=some .none)
  (hE:E (.ref e) { s with heap:=s.heap.update e (Obj.mapFields (·.setIfInBounds 2 (.ref a))) }):wpAny (model prog w) A (raiseNew (.ref e):Sem α) Q E s:=by
 unfold raiseNew
 refine wpAny_bind (wpAny_handled ?_)
 rw [hh]
 dsimp only
 rw [if_pos (show (Value.ref a != Value.ref e)=true by simp [Di])]
 refine wpAny_bind (wpAny_holding (wpAny_runValue (codeAny_builtin zP ?_)))
 show wpAny _ _ (field (.ref a) 2 >>= _) _ _ s
 refine wpAny_bind (wpAny_field ha da v2 ?_)
 rw [if_pos (show (Value.none == Value.none)=true by rfl)]
 refine wpAny_pure ?_
 show wpAny (model prog w) A (setField (.ref e) 2 (.ref a) >>= fun _=>throw (Value.ref e)) Q E s
 exact wpAny_bind (wpAny_setField he de ze (wpAny_throw hE))
theorem EJ {it a:Addr} {x left step:Int} {oa:Obj} {Te:Array Value} {Q:Option Value→Shared→Prop} (hh:A.handled=some (.ref a)) (hit:IsRangeIter s.heap it x left step) (Tf:left≤0) (ha:s.heap.get? a=some oa) (da:oa.data=.fields Te) (v2:Te[2]?=some .none)
  (hQ:∀ h',Heap.ExtBut it s.heap h'→Q none { s with heap:=h' }):wpAny (model prog w) A (pyNext (.ref it)) Q E s:=by
 have ty:s.TypeIs (.ref it) "range_iterator":=⟨_,hit,rfl⟩
 unfold pyNext
 refine wpAny_bind (wpAny_attempt (wpAny_callSpecial?_slot (name:=Str.ofString "__next__") ty F.slot_range_iterator_next (wpAny_call_entry F.slot_range_iterator_next ty F.entry_range_iterator_next ?_ (F.args_range_iterator_next_1 _))))
 show wpAny _ _ (do let y ← field (.ref it) 0;_) _ _ s
 refine wpAny_bind (wpAny_field (x:=rawInt x) hit rfl rfl ?_)
 show wpAny _ _ (do let y ← field (.ref it) 1;_) _ _ s
 refine wpAny_bind (wpAny_field (x:=rawInt left) hit rfl rfl ?_)
 show wpAny _ _ (do let y ← field (.ref it) 2;_) _ _ s
 refine wpAny_bind (wpAny_field (x:=rawInt step) hit rfl rfl ?_)
 show wpAny _ _ (ite (left≤0) _ _) _ _ s
 rw [if_pos Tf]
 refine wpAny_bind (wpAny_rule (wpAny_bind ?_))
 show wpAny _ _ (do let y ← newExc (.type "StopIteration") [];_) _ _ _
 refine wpAny_bind ?_
 simp only [newExc,newTuple]
 refine wpAny_bind (wpAny_newObj_type ?_ (by size_fits))
 refine wpAny_bind (m:=firstArgMember _ _) (wpAny_of_eq (a:=Value.none) (by first | rfl | (simp only [firstArgMember];rfl)) ?_)
 refine wpAny_newObj_type ?_ (by size_fits)
 have k1:∀ b o,s.heap.get? b=some o→((s.heap.push { cls:=Value.type "tuple",data:=Data.seq #[] }).push { cls:=Value.type "StopIteration",data:=Data.fields (#[Value.ref s.heap.objs.size,Value.none,Value.none,Value.none,Value.bool false,Value.none] ++ ownMembersOf (Value.type "StopIteration") []) }).get? b=some o:=fun b o e=>Heap.get?_push_of_some _ (Heap.get?_push_of_some _ e)
 have hz:(s.heap.push { cls:=Value.type "tuple",data:=Data.seq #[] }).objs.size=s.heap.objs.size+1:=Heap.size_push ..
 have jS:∀ b o,s.heap.get? b=some o→b≠(s.heap.push { cls:=Value.type "tuple",data:=Data.seq #[] }).objs.size:=fun b o e=>by rw [hz];exact Nat.ne_of_lt (Nat.lt_succ_of_lt (Heap.lt_size e))
 refine Mi (a:=a) hh (jS a oa ha) (Heap.get?_push_size _ rfl) rfl (by rw [Array.size_append];exact Nat.lt_of_lt_of_le (show 2 < 6 by decide) (Nat.le_add_right _ _)) (k1 a oa ha) da v2 ?_
 refine wpAny_bind (wpAny_isInstance (T:="StopIteration") (b:=true) ⟨_,Heap.get?_update_self _ (Heap.get?_push_size _ rfl) (Obj.isFreed_of_fields (Obj.data_mapFields rfl _)),Obj.cls_mapFields _ _⟩ isSubtype_stop ?_)
 exact wpAny_pure (hQ _ fun b o _ e=>(Heap.get?_update_other _ _ (Ne.symm (jS b o e))).trans (k1 b o e))
end
end L2
namespace L2
open PySem PySem.Spec PyProof.Rows
structure KG (ha:Addr) (P:Program) (w:World) (K:PySem.W.Frag) (tg:Expr) (J:It) (fp:List Addr) (it:Addr) (tn:Nat→Heap→Prop):Prop where
 mem:it ∈ fp
 obj:∀ i h,tn i h→∀ b ∈ fp,∃ o,h.get? b=some o∧∀ v,o.data≠.cell v
 keep:∀ i h h',tn i h→(∀ b ∈ fp,∀ o,h.get? b=some o→h'.get? b=some o)→tn i h'
 item:∀ (X:Cx),X.prog=P→X.w=w→X.K=K→X.A.handled=some (.ref ha)→∀ (i:Nat) (pins:List (Addr × Obj)) (s:Shared) (σ:St) (H:Hp) (E:Value→Shared→Prop),Inv X pins σ H s→(∀ b ∈ fp,oq X pins H b)→tn i s.heap→J.go i H →
  wpAny (model P w) X.A (pyNext (.ref it)) (fun r s1=>∃ u,r=some u ∧
   wpAny (model P w) X.A (letOwnedTupleGo tg (.ref it) u) (fun _ s2=>∃ x H',Inv X pins σ H' s2∧RelV x u∧J.L9 i H x H'∧tn (i+1) s2.heap∧∀ b ∈ fp,H' b=none) E s1) E s
 done:∀ (X:Cx),X.prog=P→X.w=w→X.K=K→X.A.handled=some (.ref ha)→∀ (i:Nat) (pins:List (Addr × Obj)) (s:Shared) (σ:St) (H:Hp) (E:Value→Shared→Prop),Inv X pins σ H s→(∀ b ∈ fp,oq X pins H b)→tn i s.heap→J.stop i H →
  wpAny (model P w) X.A (pyNext (.ref it)) (fun r s1=>r=none∧Inv X pins σ H s1) E s
 self:∀ (A:Around) (i:Nat) (s:Shared) (Q:Value→Shared→Prop) (E:Value→Shared→Prop),tn i s.heap→Q (.ref it) s→wpAny (model P w) A (pyIter (.ref it)) Q E s
def Tg (ha:Addr) (X:Cx) (pins:List (Addr × Obj)) (σ:St) (tg:Expr) (R:It→Hp→Prop) (Pj:Value) (s2:Shared):Prop :=
 ∃ (it:Addr) (fp:List Addr) (tn:Nat→Heap→Prop) (J:It) (H':Hp),Pj=.ref it∧Inv X pins σ H' s2∧KG ha X.prog X.w X.K tg J fp it tn∧tn 0 s2.heap∧(∀ b ∈ fp,oq X pins H' b)∧R J H'
def Y5 (ha:Addr) (X:Cx) (tg iter:Expr) (wi:TI):Prop :=
 ∀ (pins:List (Addr × Obj)) (s:Shared) (σ:St) (H:Hp) (R:It→Hp→Prop),Inv X pins σ H s→wi σ H R →
  wpAny (model X.prog X.w) X.A (eval iter X.env) (fun v s1=>wpAny (model X.prog X.w) X.A (pyIter v) (Tg ha X pins σ tg R) X.xe s1) X.xe s
def Mj (ha:Addr) (lo:Int) (n:Nat):It:=⟨fun i _=>i < n,fun i H x H'=>H'=H∧x=.int (lo+i),fun i H=>n≤i∧∃ C,H ha=some (.ext (ExcAt ha C))⟩
theorem Ca {P:Program} {w:World} {K:PySem.W.Frag} {tg:Expr} (ha it:Addr) (lo:Int) (n:Nat):KG ha P w K tg (Mj ha lo n) [it] it (fun i h=>IsRangeIter h it (lo+(i:Nat) * 1) ((n:Int) - (i:Nat)) 1):=by
 refine ⟨by simp,fun i h st b hb=>?_,fun i h h' st k=>k it (by simp) _ st,?_,?_,fun _ _ _ _ _ st h=>wpAny_pyIter_rangeiter st h⟩
 ·obtain rfl:b=it:=by simpa using hb
  exact ⟨_,st,fun v z=>by
   have z':Data.fields _=Data.cell v:=z
   cases z'⟩
 ·intro X hP hw hK hh i pins s σ H E I hf st hg
  subst hP hw hK
  have hg:i < n:=hg
  obtain ⟨f0,f1,f2,f3,f4,f5⟩:=hf it (by simp)
  refine wpAny_pyNext_range_item st (by omega) fun h' uF sb=>?_
  have I1:Inv X pins σ H { s with heap:=h',toks:=s.toks+1 }:=I.turned (fun b o hb e=>(sb.2 b hb).trans e) f0 f1 f3 f4 f5
  have wt:IsRangeIter h' it (lo+((i+1:Nat):Int) * 1) ((n:Int) - ((i+1:Nat):Int)) 1:=by
   rw [show lo+((i+1:Nat):Int) * 1=lo+(i:Int) * 1+1 by omega,show (n:Int) - ((i+1:Nat):Int)=(n:Int) - (i:Int) - 1 by omega]
   exact uF
  refine ⟨_,rfl,GJ (s:={ s with heap:=h',toks:=s.toks+1 }) (n:="range_iterator") wt rfl rfl (by decide) ⟨.int (lo+i),H,I1,⟨s.toks,?_⟩,⟨rfl,rfl⟩,wt,fun b hb=>(hf b hb).1⟩⟩
  rw [Int.mul_one]
 ·intro X hP hw hK hh i pins s σ H E I hf st hg
  subst hP hw hK
  obtain ⟨hn,C,hx⟩:=hg
  obtain ⟨f0,f1,f2,f3,f4,f5⟩:=hf it (by simp)
  obtain ⟨oe,vs,he,_,hd,h2⟩:=(I.bh ha _ hx).1
  exact EJ hh st (by omega) he hd h2 fun h' eb=>⟨rfl,I.turned (t':=s.toks) (fun b o hb e=>eb b o hb e) f0 f1 f3 f4 f5⟩
section
variable {X:Cx} {tg:Expr} {ha:Addr}
theorem Hq {pins:List (Addr × Obj)} {σ:St} {H:Hp} {s:Shared} {R:It→Hp→Prop} {E:Value→Shared→Prop} {lo hi:Int} {t u v:Tok} {tk:Nat} (I:Inv X pins σ H s) (h1:-(2 ^ 62)≤lo) (h2:lo < 2 ^ 62) (h3:-(2 ^ 62)≤hi) (h4:hi < 2 ^ 62)
  (q:R (Mj ha lo (hi - lo).toNat) H):wpAny (model X.prog X.w) X.A (pyIter (.ref s.heap.objs.size)) (Tg ha X pins σ tg R) E { s with heap:=s.heap.push { cls:=.type "range",data:=.fields #[.int lo t,.int hi u,.int 1 v] },toks:=tk }:=by
 refine wpAny_pyIter_range (IsRange.new ..) (small_one h1 h2 h3 h4) ?_
 have I1:Inv X pins σ H { s with heap:=s.heap.push { cls:=.type "range",data:=.fields #[.int lo t,.int hi u,.int 1 v] },toks:=tk }:=I.kept fun b o e=>Heap.get?_push_of_some _ e
 refine ⟨(s.heap.push { cls:=.type "range",data:=.fields #[.int lo t,.int hi u,.int 1 v] }).objs.size,[(s.heap.push { cls:=.type "range",data:=.fields #[.int lo t,.int hi u,.int 1 v] }).objs.size],_,_,H,rfl,
  I1.kept (t':=tk) fun b o e=>Heap.get?_push_of_some _ e,Ca ha _ lo (hi - lo).toNat,?_,fun b hb=>?_,q⟩
 ·have e1:lo+((0:Nat):Int) * 1=lo:=by simp
  have e2:(((hi - lo).toNat:Nat):Int) - ((0:Nat):Int)=Builtin.Range.rangeSize lo hi 1:=by rw [rangeSize_one];split <;> omega
  show IsRangeIter _ _ (lo+((0:Nat):Int) * 1) ((((hi - lo).toNat:Nat):Int) - ((0:Nat):Int)) 1
  rw [e1,e2]
  exact Heap.get?_push_size _ rfl
 ·have e:b=(s.heap.push { cls:=.type "range",data:=.fields #[.int lo t,.int hi u,.int 1 v] }).objs.size:=by simpa using hb
  subst e
  exact I1.A3 (Nat.le_refl _) (I1.bh.fresh (Nat.le_refl _))
def QK (ha:Addr) (ta:TA):TI:=fun σ H R=>ta σ H fun vs H1=>∃ j:Int,vs=[.int j]∧-(2 ^ 62)≤j∧j < 2 ^ 62∧R (Mj ha 0 j.toNat) H1
theorem EK {a:Expr} {ta:TA} {p pos:Pos} (hg:Gl X "range") (hm:X.mg "range"=none) (Th:PA X [a] ta) (hs:starEach [a] X.env=[(false,eval a X.env)]:=by rfl):Y5 ha X tg (.Call (.Name "range" p) [a] [] pos) (QK ha ta):=by
 intro pins s σ H R I h
 refine Call_ (j7 I hg hm boot_range (PyProof.Rows.callWith_type1 (bV (Th pos pins s σ H _ I h) fun us s1 ⟨vs,H1,I1,r1,q1⟩=>?_) hs rfl))
 obtain ⟨j,e,q1,q2,q⟩:=q1
 subst e
 cases r1 with
 | cons r rr =>
  cases rr
  obtain ⟨t,rfl⟩:=r
  exact call_range_1 (Hq I1 (by omega) (by omega) q1 q2 (by simpa using q))
end
structure og (k:Nat) (A:Around):Prop where
 dp:A.depth+3 * k+5 < recursionLimit
 un:A.units+16 * k+200 < cLine
theorem og.depth {k:Nat} {A:Around} (r:og k A):A.depth < recursionLimit:=by have:=r.dp;omega
theorem og.deeper {k:Nat} {A:Around} (r:og (k+1) A) (env:Env):og k (A.deeper env) :=
 ⟨by have:=r.dp;show A.depth+1+3 * k+5 < _;omega,by have:=r.un;show A.units+3+16 * k+200 < _;omega⟩
theorem gy.Y6 {j k:Nat} {A:Around} (r:gy k A) (h:j≤k) (v:Option Value):og j (A.mark v):=⟨by have:=r.dp;show A.depth+3 * j+5 < _;omega,by have:=r.un;show A.units+16 * j+200 < _;omega⟩
def Af (CX:A7) (P:Program) (w:World) (K:PySem.W.Frag) (mg:Str→Option Value) (base:Heap) (N:List Str) (qual:Str) (scope:Scope) (f:Addr) (cd:Value) (A:Around) (outer:List Env) (s:Shared) (H:Hp) (E:XK):Cx :=
 { EC CX P w K mg base N qual scope f cd A outer s H E with calm:=false }
structure Ge (P:Program) (w:World) (K:PySem.W.Frag) (mg:Str→Option Value) (base:Heap) (CX:A7) (k:Nat) (f:Addr) (fd:FuncData) (ps:List Str) (sp:Addr→Sp):Prop where
 len:∀ a vs H Q E,sp a vs H Q E→vs.length=ps.length
 run:∀ (A:Around) (outer:List Env) (s:Shared) (H:Hp) (args:Args) (us:List Value) (vs:List V) (Q:VK) (E:XK) (a:Addr),A.handled=some (.ref a)→og k A→A8 P w K mg base A outer s H→BindsTo s fd args (ps.zip us)→av vs us→sp a vs H Q E →
  codeAny (model P w) A (.call (.ref f) args) (CR CX outer P w H s Q E) s
theorem EL {CX:A7} {P:Program} {w:World} {K:PySem.W.Frag} {mg:Str→Option Value} {base:Heap} {N ps:List Str} {qual:Str} {scope:Scope} {f:Addr} {cd:Value} {A:Around} {outer:List Env} {s s1:Shared} {H:Hp} {E:XK} {us:List Value} {vs:List V}
  (S:aP N ps scope) (e0:A8 P w K mg base A outer s H) (hl:vs.length=ps.length) (r:av vs us)
  (x:InCallC s s.heap.objs.size (bindL (envOfC qual scope s.heap.objs.size f cd).kindOf (ps.zip us) fun _=>none) (cellsFrom (s.heap.objs.size+1) scope.names []) (bindC (envOfC qual scope s.heap.objs.size f cd).kindOf (ps.zip us) fun _=>none) s1) :
  Inv (Af CX P w K mg base N qual scope f cd A outer s H E) [] (start N vs) H s1:=by
 have mr:ps.length≤N.length:=by have:=congrArg List.length S.pre;rw [List.length_take] at this;omega
 obtain ⟨h1,tk,rfl,hk⟩:=x.done
 have MY:∀ b:Addr,b ∉ (Af CX P w K mg base N qual scope f cd A outer s H E).ex:=fun b z=>absurd (show b ∈ ([]:List Addr) from z) (by simp)
 refine ⟨⟨e0.mod,S.kind,rfl,rfl,Nat.le_refl _,fun y z c h1 h2=>?_,fun y hy=>?_,fun y c _ h=>?_,(fun z=>by cases z),Around.frames_deeper e0.frames,.inr ⟨rfl,rfl⟩,fun b z=>absurd z (MY b),e0.bs,e0.GF,fun b _ _=>MY b,fun b z=>absurd z (MY b),e0.pD,e0.JQ⟩,
  rfl,e0.bare,Un.kept hk,⟨_,x.toInCall.ns,fun i y v h1 h2 h3=>?_⟩,fun y c h=>⟨_,x.cell y c h⟩,e0.bh.fresh (Nat.le_refl _),fun y c h=>?_,fun p hp=>absurd (show p ∈ ([]:List (Addr × Obj)) from hp) (by simp),e0.bh.kept hk,?_⟩
 ·exact name_of_addr x.apart (PySem.mem_of_lookup h1) (PySem.mem_of_lookup h2)
 ·have hy:scope.names.lookup y=some .cell∨scope.names.lookup y=some .free:=hy
  rcases hy with hy | hy
  ·exact uM hy
  ·exact absurd rfl (S.Jo _ (PySem.mem_of_lookup hy))
 ·exact Nat.le_of_lt (x.above y c (PySem.mem_of_lookup h))
 ·have hi:i < vs.length:=by
   unfold start at h2
   by_cases hi:i < vs.length
   ·exact hi
   ·rw [List.getElem?_append_right (by simpa using hi)] at h2
    rw [List.getElem?_replicate] at h2
    split at h2 <;> cases h2
  have ha:vs[i]?=some v:=by
   unfold start at h2
   rw [List.getElem?_append_left (by simpa using hi),List.getElem?_map] at h2
   cases e:vs[i]? with
   | none=>rw [e] at h2;cases h2
   | some a=>rw [e] at h2;cases h2;rfl
  obtain ⟨u,hu,rv⟩:=r.get ha
  have hp:ps[i]?=some y:=by
   rw [← S.pre,List.getElem?_take_of_lt (by omega)];exact h1
  have Ss:ps.Nodup:=by rw [← S.pre];exact S.nd.sublist (List.take_sublist _ _)
  refine ⟨u,rv,?_⟩
  rcases S.par y (List.mem_of_getElem? hp) with k | k
  ·exact .inl ⟨k,vF Ss hp hu k⟩
  ·obtain ⟨c,e⟩:=uM (n:=s.heap.objs.size+1) k
   refine .inr ⟨.inl k,c,e,?_⟩
   have q:=x.cell y c e
   rw [vG Ss hp hu (by show scope.names.lookup y≠_;rw [k];decide)] at q
   exact q
 ·exact e0.bh.fresh (Nat.le_of_lt (x.above y c (PySem.mem_of_lookup h)))
 ·unfold start
  show _=N.length
  rw [List.length_append,List.length_map,List.length_replicate]
  omega
theorem QL {CX:A7} {P:Program} {w:World} {K:PySem.W.Frag} {mg:Str→Option Value} {base:Heap} {k:Nat} {f:Addr} {name qual:Str} {params:Arguments} {body:List Stmt} {scope:Scope} {dV kV doc pm bM ct oc:Value} {an od:Option Addr}
  {Dh:Array (Option Value)} {N ps:List Str} {sp:Addr→Sp} (lk:K.lookup f=some ⟨oc,od,.func (PySem.W.fnOf name qual params body scope dV kV doc pm an bM ct),Dh⟩) (AS:PySem.W.codeIn K bM qual=true) (S:aP N ps scope)
  (len:∀ a vs H Q E,sp a vs H Q E→vs.length=ps.length)
  (pK:∀ (A:Around) (outer:List Env) (s:Shared) (H:Hp) (vs:List V) (Q:VK) (E:XK) (a:Addr),A.handled=some (.ref a)→og k (A.deeper (envOfC qual scope s.heap.objs.size f bM))→sp a vs H Q E →
   ∃ t,Dg (Af CX P w K mg base N qual scope f bM A outer s H E) body t∧t { nx:=fun _ H'=>Q .bH H',rt:=Q } (start N vs) H) :
  Ge P w K mg base CX (k+1) f (PySem.W.fnOf name qual params body scope dV kV doc pm an bM ct) ps sp:=by
 refine ⟨len,fun A outer s H args us vs Q E a hh hr e0 hb r zM=>?_⟩
 have hl:=len _ _ _ _ _ zM
 have KX:K.In s.heap:=e0.mod.OW.keeps fun b o e=>(e0.bs b o e).1
 have lim:s.heap.NoLimit:=e0.mod.nolimit.keeps fun b o e=>(e0.bs b o e).1
 have Jq:∀ y ∈ ps.zip us,scope.names.lookup y.1=some .local∨(scope.names.lookup y.1=some .cell∧((cellsFrom (s.heap.objs.size+1) scope.names []).lookup y.1).isSome=true):=fun ⟨n,v⟩ hy=>by
  rcases S.par n (List.of_mem_zip hy).1 with q | q
  ·exact .inl q
  ·exact .inr ⟨q,PySem.W.cellsFrom_some _ _ _ (.inl q)⟩
 refine codeAny_call_function hr.depth (KX _ _ lk) rfl S.co S.gen rfl (PySem.W.codeRec_of KX AS) (hb _ _ _ _ ?_)
 refine wpAny_newFunctionEnv_cells S.kind Jq fun env he s1 x=>?_
 subst he
 refine ⟨lim.keeps x.toInCall.keep,codeAny_func ?_⟩
 obtain ⟨t,ht,hq⟩:=pK A outer s H vs Q E a hh (hr.deeper _) zM
 have I:Inv (Af CX P w K mg base N qual scope f bM A outer s H E) [] (start N vs) H s1:=EL S e0 hl r x
 refine wpAny_mono (ht [] s1 (start N vs) H _ I hq) (fun fl s' hs=>?_) fun e s' hs=>hs
 have fin:∀ {σ':St} {H':Hp} {v:V} {u:Value},Inv (Af CX P w K mg base N qual scope f bM A outer s H E) [] σ' H' s'→RelV v u→Q v H'→CE outer P w H s Q u s' :=
  fun {σ' H' v u} J rv q=>⟨v,H',J.os,J.bare,J.base,J.bh,rv,q⟩
 cases fl with
 | ret u =>
  obtain ⟨v,σ',H',J,rv,q⟩:=hs
  exact fin J rv q
 | next =>
  obtain ⟨σ',H',J,q⟩:=hs
  exact fin (v:=V.bH) (u:=Value.none) J rfl q
 | brk =>
  obtain ⟨_,_,_,q⟩:=hs
  exact False.elim q
 | cont =>
  obtain ⟨_,_,_,q⟩:=hs
  exact False.elim q
section
variable {X:Cx} {CX:A7} {k:Nat} {f C ha:Addr} {fd:FuncData} {ps:List Str} {sp:Addr→Sp} {uL:List V} {ds:List Value} {E:XK} {x m:Str} {p pos apos:Pos} {e o:Expr} {es:List Expr} {ta:TE} {t:TA}
theorem Ml {pins:List (Addr × Obj)} {σ:St} {H:Hp} {s:Shared} {Q:VK} {us:List Value} {vs:List V} (F:Ge X.prog X.w X.K X.mg X.base CX k f fd ps sp) (hh:X.A.handled=some (.ref ha)) (hr:og k X.A) (hb:Binds X.K fd ps ds) (hd:av uL ds) (hx:ia CX X E)
  (I:Inv X pins σ H s) (r:av vs us) (h:sp ha (vs ++ uL) H Q E):wpAny (model X.prog X.w) X.A (call (.ref f) us) (EP X pins σ Q) X.xe s:=by
 have r2:av (vs ++ uL) (us ++ ds):=r.append hd
 have hl:(us ++ ds).length=ps.length:=by rw [← r2.length];exact F.len _ _ _ _ _ h
 refine wpAny_call (codeAny_mono (F.run X.A X.stack s H ⟨us,[]⟩ (us ++ ds) (vs ++ uL) Q E ha hh hr I.Pw (hb s us I.uB hl) r2 h) fun r s' hq=>?_)
 cases r with
 | error e=>exact hx pins σ H s e s' I hq
 | ok fl =>
  cases fl with
  | ret u=>exact I.after hq
  | next=>exact False.elim hq
  | brk=>exact False.elim hq
  | cont=>exact False.elim hq
theorem KH (F:Ge X.prog X.w X.K X.mg X.base CX k f fd ps sp) (hh:X.A.handled=some (.ref ha)) (hr:og k X.A) (hg:Gl X x) (hm:X.mg x=some (.ref f)) (hk:PySem.W.keepIn X.K (.ref f)=true) (hb:Binds X.K fd ps ds) (hd:av uL ds) (hx:ia CX X E)
  (Th:PA X (e :: es) t) (CP:(x == ("__debug__":Str))=false:=by decide) (he:starEach (e :: es) X.env=(false,eval e X.env) :: starEach es X.env:=by rfl) (mr:(backTo pos (starEach es X.env)).any (·.1)=false:=by rfl) :
  PE X (.Call (.Name x p) (e :: es) [] pos) (GR (sp ha) uL E t):=by
 intro pins s σ H Q I h
 refine wpAny_Call_Name_kw (qp I hg hm ?_ CP)
 refine PySem.W.callWith_K (h₀:=X.base) I.ok.mod.OW hk (bV (Th pos pins s σ H _ I h) fun us s1 ⟨vs,H1,I1,r,q⟩=>⟨I1.uB,?_⟩) he mr
 exact Ml F hh hr hb hd hx I1 r q
end
structure KI (P:Program) (w:World) (K:PySem.W.Frag) (mg:Str→Option Value) (base:Heap) (k:Nat) (x:Str) (ps:List Str) (sp:Addr→Sp):Prop where
 ex:∃ (f:Addr) (fd:FuncData),Ge P w K mg base (ic P w) k f fd ps sp∧mg x=some (.ref f)∧PySem.W.keepIn K (.ref f)=true∧Binds K fd ps []
theorem aO.W6 {P:Program} {w:World} {K:PySem.W.Frag} {mg:Str→Option Value} {base:Heap} {x:Str} {st:Stmt} {N ps:List Str} {k:Nat} {sp:Addr→Sp} (F:aO K mg x st) (S:aP N ps (aG st))
  (hb:∀ (kV doc pm:Value) (an:Option Addr) (bM ct:Value) (us:List Value),us.length=ps.length→bindArgs (PySem.W.fnOf x x (bI st) (bA st) (aG st) .none kV doc pm an bM ct) ⟨us,[]⟩=pure (ps.zip us))
  (len:∀ a vs H Q E,sp a vs H Q E→vs.length=ps.length)
  (pK:∀ (f:Addr) (bM:Value) (A:Around) (outer:List Env) (s:Shared) (H:Hp) (vs:List V) (Q:VK) (E:XK) (a:Addr),A.handled=some (.ref a)→og k (A.deeper (envOfC x (aG st) s.heap.objs.size f bM))→sp a vs H Q E →
   ∃ t,Dg (Af (ic P w) P w K mg base N x (aG st) f bM A outer s H E) (bA st) t∧t { nx:=fun _ H'=>Q .bH H',rt:=Q } (start N vs) H):KI P w K mg base (k+1) x ps sp:=by
 obtain ⟨f,fd,F1,hm⟩:=F.ex
 have b:=F1.binds hb
 have kp:=F1.kp
 obtain ⟨oc,od,kV,doc,pm,an,bM,ct,Dh,rfl,lk,AS⟩:=F1.ex
 exact ⟨f,_,QL lk AS S len fun A outer s H vs Q E a hh hr zM=>pK f bM A outer s H vs Q E a hh hr zM,hm,kp,b⟩
theorem Gf {X:Cx} {k:Nat} {ps:List Str} {sp:Addr→Sp} {E:XK} {x:Str} {p pos:Pos} {e:Expr} {es:List Expr} {t:TA} {ha:Addr} (D:KI X.prog X.w X.K X.mg X.base k x ps sp) (hh:X.A.handled=some (.ref ha)) (hr:og k X.A) (hx:ia (ic X.prog X.w) X E) (Th:PA X (e :: es) t) (hg:Gl X x:=by rfl) (CP:(x == ("__debug__":Str))=false:=by decide)
  (he:starEach (e :: es) X.env=(false,eval e X.env) :: starEach es X.env:=by rfl) (mr:(backTo pos (starEach es X.env)).any (·.1)=false:=by rfl) :
  PE X (.Call (.Name x p) (e :: es) [] pos) (GR (sp ha) [] E t):=by
 obtain ⟨f,fd,F,hm,hk,hb⟩:=D.ex
 exact KH F hh hr hg hm hk hb .nil hx Th CP he mr
section
variable {X:Cx} {tg elt iter:Expr} {ifs:List Expr} {scope:Scope} {pos:Pos} {wi:TI} {g:TG} {tt:TT} {te:TE} {Nc:List Str} {ix:List (Option Nat)} {ha:Addr}
theorem Hr {pins:List (Addr × Obj)} {σ:St} {H:Hp} {s:Shared} {it:Addr} {fp:List Addr} {tn:Nat→Heap→Prop} {J:It} {Q:VK} {R:Value→Addr→Result→Shared→Prop}
  (hc:X.A.handled=some (.ref ha)) (S:dZ X Nc ix scope) (I:Inv X pins σ H s) (T:KG ha X.prog X.w X.K tg J fp it tn) (st:tn 0 s.heap) (f:∀ b ∈ fp,oq X pins H b)
  (hg:PG (rL X Nc scope (s.heap.objs.size+1) fp s H) tg g) (ht:QC (rL X Nc scope (s.heap.objs.size+1) fp s H) ifs tt) (he:PE (rL X Nc scope (s.heap.objs.size+1) fp s H) elt te)
  (h:∀ D,H D=none→∃ W:Nat→Nat→St→Hp→Prop,(∃ m,W 0 m (vJ ix σ) (upd H D (.lst [])))∧∀ i m σ' H',W i m σ' H' →
   (J.stop i H'∧Q (.ref D) H')∨(J.go i H'∧∀ x H2,J.L9 i H' x H2→g x σ' H2 fun σ3 H3=>tt σ3 H3 fun b H4 =>
    if b=true then te σ3 H4 fun v H5=>∃ xs,H5 D=some (.lst xs)∧xs.length < sizeLine∧∃ m',m' < m∧W (i+1) m' σ3 (upd H5 D (.lst (xs ++ [v])))
    else ∃ m',m' < m∧W (i+1) m' σ3 H4))
  (hR:∀ σ' H' s',Inv (rL X Nc scope (s.heap.objs.size+1) fp s H) [] σ' H' s'→(∀ b ∈ fp,H' b=none)→Q (.ref s.heap.objs.size) H'→R (.ref s.heap.objs.size) (s.heap.objs.size+1) (.ok .next) s') :
  wpAny (model X.prog X.w) X.A (newList []) (fun acc s₃=>wpAny (model X.prog X.w) X.A (newFunctionEnv scope X.env.globals (b5 X.env scope.names []) [] X.env.qual none .none (some X.env)) (fun Jw s₄ =>
   codeAny (model X.prog X.w) X.A (.compStart (.ListComp elt [⟨tg,iter,ifs,0⟩] scope pos) 0 (.ref it) acc { Jw with scope:=relabel scope X.env }) (R acc Jw.locals) s₄) X.xe s₃) X.xe s:=by
 obtain ⟨W,⟨m0,w0⟩,turn⟩:=h s.heap.objs.size (I.bh.fresh (Nat.le_refl _))
 refine wpAny_newObj_type (wX ?_)
 have I4:=CT (t':=s.toks) S I f (fun b hb=>let ⟨o,e,_⟩:=T.obj _ _ st b hb;⟨o,e⟩)
 have qt:(s.heap.push { cls:=.type "list",dict:=none,data:=.seq ([]:List Value).toArray }).objs.size=s.heap.objs.size+1:=Heap.size_push ..
 dsimp only
 rw [qt]
 have xl:tn 0 (pushCells ((s.heap.push { cls:=.type "list",dict:=none,data:=.seq ([]:List Value).toArray }).push { cls:=.type "dict",data:=.dict #[] }) scope.names) :=
  T.keep _ _ _ st fun b _ o e=>pushCells_keeps _ _ b o (Heap.get?_push_of_some _ (Heap.get?_push_of_some _ e))
 have Wq:∀ b ∈ fp,upd H s.heap.objs.size (.lst []) b=none:=fun b hb=>by
  obtain ⟨o,e,_⟩:=T.obj _ _ st b hb
  rw [aE (Nat.ne_of_lt (Heap.lt_size e))]
  exact (f b hb).1
 have xa:∀ {H':Hp},(∀ b ∈ fp,H' b=none)→∀ b ∈ fp,oq (rL X Nc scope (s.heap.objs.size+1) fp s H) [] H' b:=fun {H'} hn b hb=>by
  obtain ⟨q1,q2⟩:=I4.ok.Ly b hb
  exact ⟨hn b hb,q1,I4.ok.wq b hb,.inl hb,q2,fun p hp=>absurd (show p ∈ ([]:List (Addr × Obj)) from hp) (by simp)⟩
 have loop:codeAny (model X.prog X.w) X.A (.compLoop (.ListComp elt [⟨tg,iter,ifs,0⟩] scope pos) 0 (.ref it) (.ref s.heap.objs.size) (rL X Nc scope (s.heap.objs.size+1) fp s H).env)
   (R (.ref s.heap.objs.size) (s.heap.objs.size+1))
   { s with heap:=pushCells ((s.heap.push { cls:=.type "list",dict:=none,data:=.seq ([]:List Value).toArray }).push { cls:=.type "dict",data:=.dict #[] }) scope.names }:=by
  refine uO (fun n s'=>∃ i σ' H',Inv (rL X Nc scope (s.heap.objs.size+1) fp s H) [] σ' H' s'∧tn i s'.heap∧(∀ b ∈ fp,H' b=none)∧W i n σ' H') ?_ m0 ⟨0,_,_,I4,xl,Wq,w0⟩
  rintro n s5 ⟨i,σ5,H5,I5,CC,JR,w5⟩
  rcases turn i n σ5 H5 w5 with ⟨stop,qn⟩ | ⟨go,step⟩
  ·refine bV (T.done (rL X Nc scope (s.heap.objs.size+1) fp s H) rfl rfl rfl hc i [] s5 σ5 H5 _ I5 (xa JR) CC stop) fun r s6 ⟨hr,I6⟩=>?_
   subst hr
   exact hR σ5 H5 s6 I6 JR qn
  ·refine bV (T.item (rL X Nc scope (s.heap.objs.size+1) fp s H) rfl rfl rfl hc i [] s5 σ5 H5 _ I5 (xa JR) CC go) fun r s6 ⟨u,hr,h6⟩=>?_
   subst hr
   refine bV h6 fun _ s7 ⟨x,H7,I7,r7,y7,EF,Wr⟩=>?_
   have Ws:=I7.pinned (xa Wr) (T.obj _ _ EF)
   refine bV (hg _ s7 σ5 H7 x u _ Ws r7 (step x H7 y7)) fun _ s8 ⟨σ8,H8,I8,q8⟩=>?_
   refine bV (ht _ s8 σ8 H8 _ I8 q8) fun b s9 ⟨H9,I9,q9⟩=>?_
   have again:∀ {s':Shared} {σ':St} {H':Hp},Inv (rL X Nc scope (s.heap.objs.size+1) fp s H) ([] ++ vC fp s7.heap) σ' H' s'→tn (i+1) s'.heap∧∀ b ∈ fp,H' b=none:=fun {s' σ' H'} I'=>by
    refine ⟨T.keep _ _ _ EF fun b hb o e=>(I'.pin (b,o) (List.mem_append_right _ (List.mem_append_right _ (iZ hb e)))).1,fun b hb=>?_⟩
    obtain ⟨o,e,d⟩:=T.obj _ _ EF b hb
    exact (I'.pin (b,o) (List.mem_append_right _ (List.mem_append_right _ (iZ hb e)))).2.1
   cases b with
   | false =>
    rw [if_neg Bool.false_ne_true] at q9 ⊢
    obtain ⟨m',hm,w9⟩:=q9
    obtain ⟨a1,a2⟩:=again I9
    exact ⟨m',hm,i+1,σ8,H9,I9.j9,a1,a2,w9⟩
   | true =>
    rw [if_pos rfl] at q9 ⊢
    refine bV (he _ s9 σ8 H9 _ I9 q9) fun v TL ⟨x',QE,Wt,Wu,xs,eD,jS,m',hm,Wv⟩=>?_
    refine bV (ba (X:=rL X Nc scope (s.heap.objs.size+1) fp s H) _ TL σ8 QE (.ref s.heap.objs.size) [x'] (.ref s.heap.objs.size) [v] (fun _ H'=>H'=upd QE s.heap.objs.size (.lst (xs ++ [x']))) Wt rfl (.cons Wu .nil)
     ⟨_,xs,x',rfl,rfl,eD,jS,rfl⟩) fun _ s11 ⟨_,Ww,TM,_,Wx⟩=>?_
    subst Wx
    obtain ⟨a1,a2⟩:=again TM
    exact ⟨m',hm,i+1,σ8,_,TM.j9,a1,a2,Wv⟩
 exact codeAny_compStart_list loop (T.self X.A 0 _ _ _ xl loop)
theorem QM (hc:X.A.handled=some (.ref ha)) (S:dZ X Nc ix scope) (hi:Y5 ha X tg iter wi)
  (hb:∀ (C:Addr) (fp:List Addr) (s:Shared) (H:Hp),PG (rL X Nc scope C fp s H) tg g∧QC (rL X Nc scope C fp s H) ifs tt∧PE (rL X Nc scope C fp s H) elt te)
  (hs:∀ x,foldedSetIterable iter X.env x=pure x:=by intro _;rfl):PE X (.ListComp elt [⟨tg,iter,ifs,0⟩] scope pos) (Wp wi ix g tt te):=by
 intro pins s σ H Q I h
 rw [eval_ListComp]
 refine wpAny_comprehension_free (use:=none) rfl hs (sE (S.cells I)) S.kind S.loc (bV (hi pins s σ H _ I h) fun v s1 h1=>bV h1 fun Pj s2 h2=>?_)
 obtain ⟨it,fp,tn,J,H2,e,I2,T,wt,f2,q2⟩:=h2
 subst e
 obtain ⟨hg,ht,he⟩:=hb (s2.heap.objs.size+1) fp s2 H2
 refine Hr (R:=fun acc C=>compPost (model X.prog X.w) X.A X.xe none (EP X pins σ Q) acc C) hc S I2 T wt f2 hg ht he q2 fun σ' H' s' J' Yx q'=>?_
 obtain ⟨m,hn,_⟩:=J'.loc
 refine ⟨m,hn,fun h' EG=>⟨.ref _,H',?_,rfl,q'⟩⟩
 exact (comp_back I2 f2 J').Jx (I2.A3 (Nat.le_succ _) J'.free) EG
end
theorem Hs {g:TG} {tt:TT} {te:TE} {D ha:Addr} {σ:St} {H:Hp} {Q:VK} {lo:Int} {n:Nat} (Pv:Nat→St→Hp→Prop) (h0:Pv 0 σ H)
  (hs:∀ (i:Nat) (σ:St) (H:Hp) (N:St→Hp→Prop),(∀ σ H,Pv (i+1) σ H→N σ H)→i < n→Pv i σ H→g (.int (lo+i)) σ H fun σ3 H3=>tt σ3 H3 fun b H4 =>
   if b=true then te σ3 H4 fun v H5=>∃ ys,H5 D=some (.lst ys)∧ys.length < sizeLine∧N σ3 (upd H5 D (.lst (ys ++ [v]))) else N σ3 H4)
  (hx:∀ σ H,Pv n σ H→∃ C,H ha=some (.ext (ExcAt ha C))) (hd:∀ σ H,Pv n σ H→Q (.ref D) H):uQ (Mj ha lo n) g tt te D σ H Q:=by
 refine ⟨fun i m σ H=>m=n - i∧i≤n∧Pv i σ H,⟨n,(Nat.sub_zero n).symm,Nat.zero_le _,h0⟩,fun i m σ' H' ⟨hm,hi,p⟩=>?_⟩
 subst hm
 rcases Nat.lt_or_ge i n with jS | hge
 ·refine .inr ⟨jS,fun x H2 ⟨e,y⟩=>?_⟩
  subst e y
  exact hs i σ' _ (fun σ3 H3=>∃ m',m' < n - i∧m'=n - (i+1)∧i+1≤n∧Pv (i+1) σ3 H3) (fun σ3 H3 z=>⟨n - (i+1),by omega,rfl,jS,z⟩) jS p
 ·obtain rfl:i=n:=by omega
  exact .inl ⟨⟨Nat.le_refl _,hx σ' H' p⟩,hd σ' H' p⟩
def Ti (K:PySem.W.Frag) (C2:Addr) (i:Nat) (E:XK) (tb:TS) (th:Addr→TS):TS:=fun D σ H=>tb D σ H∧∀ (σ':St) (a C:Addr) (H':Hp),σ'.length=σ.length→E (.ref C) none H'→H' a=none →
 PySem.W.subIn K (.ref C) (.ref C2)=some true ∧
  th a { nx:=fun σ2 H2=>D.nx (σ2.set i none) H2,rt:=D.rt,bk:=fun σ2 H2=>D.bk (σ2.set i none) H2,ct:=fun σ2 H2=>D.ct (σ2.set i none) H2 } (σ'.set i (some (.ref a))) (upd H' a (.ext (ExcAt a C)))
section
variable {X:Cx} {E:XK} {pins:List (Addr × Obj)} {σ:St} {H:Hp} {s:Shared} {a:Addr}
theorem Gg {n cn:Str} {np Tj pos:Pos} {body Om:List Stmt} {b₀:Stmt} {tb:TS} {th:Addr→TS} {C2:Addr} {i:Nat} (QN:X.stack=X.env :: X.outer) (Of:X.env.frame=some X.env.locals) (hN:X.N.Nodup) (hi:X.N[i]?=some n)
  (hl:X.env.kindOf n=some .local) (hg:Gl X cn) (hm:X.mg cn=some (.ref C2)) (hC:Catch X.K C2)
  (hb:∀ pins,Dg (Gc X pins E) body tb) (hh:∀ a,Dg (Ac X a) (b₀ :: Om) (th a)) (CP:(cn == ("__debug__":Str))=false:=by decide) :
  PS X (.Try body [.ExceptHandler (some (.Name cn np)) (some n) (b₀ :: Om) Tj] [] [] pos) (Ti X.K C2 i E tb th):=by
 intro pins s σ H D I h
 obtain ⟨h1,h2⟩:=h
 refine wpAny_Try_except (wpAny_mono (hb pins [] s σ H D I.TV h1) (fun f s1 q=>?_) fun e s1 q=>?_)
 ·cases f with
  | next=>obtain ⟨σ',H',I',n'⟩:=q;exact wpAny_execs_nil ⟨σ',H',I'.CZ,n'⟩
  | brk=>obtain ⟨σ',H',I',n'⟩:=q;exact ⟨σ',H',I'.CZ,n'⟩
  | cont=>obtain ⟨σ',H',I',n'⟩:=q;exact ⟨σ',H',I'.CZ,n'⟩
  | ret u=>obtain ⟨v,σ',H',I',r',n'⟩:=q;exact ⟨v,σ',H',I'.CZ,r',n'⟩
 ·obtain ⟨a,C,a0,B,σ0,H0,H',s0,rfl,I0,T,qE⟩:=q
  have Mm:X.A.frames=some (X.env :: X.outer):=by rw [← QN];exact I.ok.frames
  have xo:=T.xo
  rw [QN] at xo
  refine CW (P:=fun h4=>Heap.HeldW B (X.env :: X.outer) a (.ref C) a0 X.env.locals h4∧s1.heap.UpToSlots h4) Gb T.cx (fun Q' hq=>wpAny_looks_onW Mm Of xo fun h4 held W7=>hq h4 ⟨held,W7⟩) fun h4 ⟨held,W7⟩ c4=>?_
  refine CW (P:=fun h5=>Heap.FlyingW B (X.env :: X.outer) a (.ref C) a0 h5∧h4.UpToSlots h5) vK c4 (fun Q' hq=>wpAny_landsW held fun h5 KJ W8=>hq h5 ⟨KJ,W8⟩) fun h5 ⟨KJ,W8⟩ c5=>?_
  have Tn:=W7.trans W8
  rw [← QN] at KJ
  obtain ⟨J5,hna⟩:=xu I0 T KJ Tn c5
  have I5:=J5.Oi (a:=a)
  obtain ⟨To,q7⟩:=h2 σ0 a C H' (by rw [I0.len,I.len]) qE hna
  have x5:ExcAt a C h5:=(I5.bh a _ aB).1
  refine wpAny_handleBy_cons (codeAny_handlers_test (qp (X:=Ac X a) I5 hg hm ?_ CP)) (by intro q;cases q)
  refine BF (K:=X.K) I5.uB x5 hC To ?_
  refine codeAny_handlers_suite_as ?_
  refine CW (P:=fun h6=>Heap.FlyingW B X.stack a (.ref C) a0 h6∧h5.UpToSlots h6) vK c5 (fun Q' hq=>lands_againW KJ fun h6 QO W9=>hq h6 ⟨QO,W9⟩) fun h6 ⟨QO,W9⟩ c6=>?_
  obtain ⟨J6,_⟩:=xu I0 T QO (Tn.trans W9) c6
  have I6:=J6.Oi (a:=a)
  refine xY (X:=Ac X a) (v:=.ref a) I6 hN hi (.inl hl) rfl (fun s7 I7=>?_) (.inr hl)
  refine wpAny_mono (hh a pins s7 _ _ _ I7 q7) (fun f s8 q8=>?_) fun _ _ z=>z.elim
  have hp:(X.env.scope.kind == .class || (X.env.scope.kind == .module && X.env.locals != X.env.globals))=false:=by rw [I.ok.kind];rfl
  have Mn:∀ {σ8:St} {H8:Hp} {P:Prop} {f:Flow},Inv (Ac X a) pins σ8 H8 s8→(∀ s9,Inv X pins (σ8.set i none) H8 s9→SP X pins D f s9) →
    wpAny (model X.prog X.w) X.A (do bindName X.env n .none;unbindBehindTheSuite X.env n Tj) (fun _ s₃=>SP X pins D f s₃) X.xe s8:=fun {σ8 H8 P f} I8 k=>by
   have J8:=I8.TX I.ok.hd
   obtain ⟨m,hn,hlk⟩:=id J8.loc
   refine wpAny_nameGoes_keeps hl hn hp fun h9 v hn9 QP=>k _ ?_
   have JW:=J8.JW
   obtain ⟨oL,_,_,Yn,_⟩:=id hn
   refine ⟨J8.ok,J8.os,J8.bare,⟨fun b o e nn hb hx=>?_,fun b o e nn hb hx=>?_,J8.base.free,fun b o e hx=>?_,J8.base.t9,J8.base.rn,J8.base.uA⟩,⟨_,hn9,fun j y v' e1 e2 e3=>?_⟩,fun y c e=>?_,J8.free,J8.jR,fun p hp=>?_,fun b ob e=>?_,by simpa using J8.len⟩
   ·exact (QP.2 b (J8.old e)).trans (J8.base.keep b o e nn hb hx)
   ·obtain ⟨sl,e1⟩:=J8.base.slot b o e nn hb hx
    exact ⟨sl,(QP.2 b (J8.old e)).trans e1⟩
   ·obtain ⟨o',e1⟩:=J8.base.there b o e hx
    exact ⟨o',(QP.2 b (J8.old e)).trans e1⟩
   ·by_cases hj:j=i
    ·subst hj
     have jS:j < σ8.length:=by rw [J8.len];exact (List.getElem?_eq_some_iff.mp hi).1
     rw [List.getElem?_set_self jS] at e2
     cases e2
    ·rw [List.getElem?_set_ne (Ne.symm hj)] at e2
     obtain ⟨u',r',q⟩:=hlk j y v' e1 e2 e3
     refine ⟨u',r',?_⟩
     rcases q with ⟨k',e⟩ | ⟨k',c,e,z⟩
     ·refine .inl ⟨k',?_⟩
      have Di:y≠n:=fun e=>hj (xX hN e1 (e ▸ hi))
      simp [Di,e]
     ·exact .inr ⟨k',c,e,z.sameBut QP (JW y c e)⟩
   ·obtain ⟨w',z⟩:=J8.cell y c e
    exact ⟨w',z.sameBut QP (JW y c e)⟩
   ·obtain ⟨e,nn,ne,nf,d⟩:=J8.pin p hp
    exact ⟨(QP.2 p.1 ne).trans e,nn,ne,nf,d⟩
   ·refine (J8.bh b ob e).zJ (fun c w' hc q=>(QP.2 c ?_).trans q) (fun _ q=>q) fun _ _ q=>q
    rintro rfl
    rcases hc with z | z
    ·rw [← z,J8.free] at e;cases e
    ·rw [J8.free] at z;cases z
  cases f with
  | next=>obtain ⟨σ8,H8,I8,n8⟩:=q8;exact Mn (P:=True) I8 fun s9 I9=>⟨_,H8,I9,n8⟩
  | brk=>obtain ⟨σ8,H8,I8,n8⟩:=q8;exact Mn (P:=True) I8 fun s9 I9=>⟨_,H8,I9,n8⟩
  | cont=>obtain ⟨σ8,H8,I8,n8⟩:=q8;exact Mn (P:=True) I8 fun s9 I9=>⟨_,H8,I9,n8⟩
  | ret u=>obtain ⟨v,σ8,H8,I8,r8,n8⟩:=q8;exact Mn (P:=True) I8 fun s9 I9=>⟨v,_,H8,I9,r8,n8⟩
end
end L2
namespace L2
open PySem PySem.Spec PyProof.Rows
section
variable {P:Program} {w:World} {K:PySem.W.Frag} {mg:Str→Option Value} {base:Heap}
theorem mI.sG {x qual:Str} {st:Stmt} {f:Addr} {fd:FuncData} {N ps:List Str} {k:Nat} {sp:Sp} (F:mI K x qual st f fd) (S:aP N ps (aG st)) (len:∀ vs H Q E,sp vs H Q E→vs.length=ps.length)
  (pK:∀ (f:Addr) (bM:Value) (A:Around) (outer:List Env) (s:Shared) (H:Hp) (vs:List V) (Q:VK) (E:XK),gy k (A.deeper (envOfC qual (aG st) s.heap.objs.size f bM))→sp vs H Q E →
   ∃ t,Dg (Vm P w K mg base N qual st f bM A outer s H E) (bA st) t∧t { nx:=fun _ H'=>Q .bH H',rt:=Q } (start N vs) H):bO P w K mg base (ic P w) (k+1) f fd ps sp:=by
 obtain ⟨oc,od,kV,doc,pm,an,bM,ct,Dh,rfl,lk,AS⟩:=F.ex
 exact Jp lk AS S len fun A outer s H vs Q E hr zM=>pK f bM A outer s H vs Q E hr zM
end
end L2
namespace L2
open PySem PySem.Spec PyProof.Rows
theorem QQ {X:Cx} {E:XK} (Bd:Body X E):PassesOwn (model X.prog X.w) X.A X.env X.xe:=by
 rw [Bd.xe]
 exact PassesOwn.leaving
inductive Alike (K:PySem.W.Frag) (H:Hp):Nat→V→V→Prop where
 | int {n:Nat} (i:Int):Alike K H n (.int i) (.int i)
 | bl {n:Nat} (i:Bool):Alike K H n (.bl i) (.bl i)
 | str {n:Nat} (i:Str):Alike K H n (.str i) (.str i)
 | bH {n:Nat}:Alike K H n .bH .bH
 | lst {n:Nat} {a b:Addr} {xs ys:List V} (ha:aT K H a xs) (hb:aT K H b ys) (hl:xs.length=ys.length) (h:∀ (j:Nat) (x y:V),xs[j]?=some x→ys[j]?=some y→Alike K H n x y):Alike K H (n+1) (.ref a) (.ref b)
theorem all_true (n:Nat):(List.range n).all (fun _=>true)=true:=by simp
section
variable {X:Cx} {pins:List (Addr × Obj)} {σ:St} {H:Hp} {s:Shared}
theorem dg {xs:List V} {aq:List Value} (r:av xs aq) (j:Nat) (h:j < aq.toArray.size):∃ x,xs[j]?=some x∧RelV x aq.toArray[j]:=by
 have hj:j < aq.length:=by simpa using h
 have hl:=r.length
 have hx:xs[j]?=some xs[j]:=by simp [show j < xs.length by omega]
 obtain ⟨u,hu,ru⟩:=r.get hx
 refine ⟨_,hx,?_⟩
 have e:aq.toArray[j]=u:=by
  have:=hu
  rw [List.getElem?_eq_getElem hj] at this
  simpa using Option.some.inj this
 rw [e]
 exact ru
theorem Cb (I:Inv X pins σ H s) {n:Nat} {x y:V} (h:Alike X.K H n x y):∀ {A:Around} {u v:Value},A.units+n < cLine→RelV x u→RelV y v→SeqAt.EqAt A s u v true:=by
 induction h with
 | int i=>intro A u v _ ru rv;have:=vH (A:=A) (s:=s) ru rv rfl rfl;simpa [Md] using this
 | bl i=>intro A u v _ ru rv;have:=vH (A:=A) (s:=s) ru rv rfl rfl;simpa [Md] using this
 | str i=>intro A u v _ ru rv;have:=vH (A:=A) (s:=s) ru rv rfl rfl;simpa [Md] using this
 | bH=>intro A u v _ ru rv;have:=vH (A:=A) (s:=s) ru rv rfl rfl;simpa [Md] using this
 | @lst n a b xs ys ha hb hl h ih =>
  intro A u v hu ru rv
  cases ru
  cases rv
  by_cases Oo:a=b
  ·subst Oo
   exact SeqAt.EqAt.same _
  ·obtain ⟨aq,r1,p1,_⟩:=I.list ha
   obtain ⟨gw,r2,p2,_⟩:=I.list hb
   have l1:=r1.length
   have l2:=r2.length
   refine SeqAt.EqAt.of_refs Oo ?_
   have q:=SeqAt.RcAt.lists (A:=A) (s:=s) (e:=fun _=>true) p1.isList p2.isList (by simp;omega) (by omega) fun j h1 h2=>?_
   ·rw [all_true] at q
    exact q
   ·obtain ⟨x,hx,rx⟩:=dg r1 j h1
    obtain ⟨y,hy,ry⟩:=dg r2 j h2
    exact ih j x y hx hy (A:=A.in1) (by show A.units+1+n < cLine;omega) rx ry
end
section
variable {X:Cx}
def Mo (K:PySem.W.Frag) (neg:Bool):R2:=fun x y H Q=>∃ a b xs ys,x=.ref a∧y=.ref b∧aT K H a xs∧aT K H b ys ∧
 ((xs.length=ys.length∧(∀ (j:Nat) (u v:V),xs[j]?=some u→ys[j]?=some v→Alike K H 8 u v)∧Q (.bl (!neg)) H)∨(xs.length≠ys.length∧Q (.bl neg) H))
theorem QR (hu:X.A.units+16 < cLine):ot X (compareOp .Eq) (Mo X.K false):=by
 intro pins s σ H x y v u Q I rx ry h
 obtain ⟨a,b,xs,ys,rfl,rfl,ha,hb,h⟩:=h
 cases rx
 cases ry
 obtain ⟨aq,r1,p1,_⟩:=I.list ha
 obtain ⟨gw,r2,p2,_⟩:=I.list hb
 have l1:=r1.length
 have l2:=r2.length
 rcases h with ⟨hl,he,q⟩ | ⟨hl,q⟩
 ·refine SeqAt.eq_listAt (e:=fun _=>true) p1.isList p2.isList (by simp;omega) (by omega) (fun j h1 h2=>?_) ?_
  ·obtain ⟨x,hx,rx⟩:=dg r1 j h1
   obtain ⟨y,hy,ry⟩:=dg r2 j h2
   exact Cb I (he j x y hx hy) (A:=X.A.in1) (by show X.A.units+1+8 < cLine;omega) rx ry
  ·rw [all_true]
   exact ⟨.bl true,H,I,rfl,q⟩
 ·refine SeqAt.eq_list_lengthsAt p1.isList p2.isList (by simp;omega) (by omega) ?_
  exact ⟨.bl false,H,I,rfl,q⟩
theorem QS (hu:X.A.units+16 < cLine):ot X (compareOp .NotEq) (Mo X.K true):=by
 intro pins s σ H x y v u Q I rx ry h
 obtain ⟨a,b,xs,ys,rfl,rfl,ha,hb,h⟩:=h
 cases rx
 cases ry
 obtain ⟨aq,r1,p1,_⟩:=I.list ha
 obtain ⟨gw,r2,p2,_⟩:=I.list hb
 have l1:=r1.length
 have l2:=r2.length
 rcases h with ⟨hl,he,q⟩ | ⟨hl,q⟩
 ·refine PySem.EqBoolInt.of_rcne (SeqAt.RcNeAt.lists (e:=fun _=>true) p1.isList p2.isList (by simp;omega) (by omega) fun j h1 h2=>?_) ?_
  ·obtain ⟨x,hx,rx⟩:=dg r1 j h1
   obtain ⟨y,hy,ry⟩:=dg r2 j h2
   exact Cb I (he j x y hx hy) (A:=X.A.in1) (by show X.A.units+1+8 < cLine;omega) rx ry
  ·rw [all_true]
   exact ⟨.bl false,H,I,rfl,q⟩
 ·refine PySem.EqBoolInt.of_rcne (SeqAt.RcNeAt.lists_lengths p1.isList p2.isList (by simp;omega) (by omega)) ?_
  exact ⟨.bl true,H,I,rfl,q⟩
theorem uT {A:Around} {k:Nat} (hr:gy k A):A.units+16 < cLine:=by have:=hr.un;omega
end
end L2
namespace L2
open PySem PySem.Spec PyProof.Rows
section
variable {prog:Program} {w:World} {A:Around} {s:Shared} {R:Result→Shared→Prop} {I S:Addr} {fp wr:List Addr} {G:Array GenState→Array GenState→Prop} {n:Nat} {P:Nat→Value→Prop} {St:Nat→Shared→Prop} {T:String}
theorem KL (W:WalksS prog w A.in1 I fp wr G n P St) (hT:∀ i s,St i s→s.TypeIs (.ref I) T) (t1:(Value.type T == Value.type "list")=false) (t2:(Value.type T == Value.type "tuple")=false)
  (hh:∀ (s:Shared) (Q:Bool→Shared→Prop) (E:Value→Shared→Prop),St 0 s→Q false s→wpAny (model prog w) A.in1 (Builtin.List.listLengthHint (.ref I)) Q E s)
  (res:Value) (c0:Nat) (Dx:St 0 s) (Vn:S ∉ fp) (hI:I ∈ fp) (hS:s.heap.get? S=some { cls:=.type "list",data:=.seq #[] c0 }) (hn:n≤sizeLine)
  (hR:∀ s' ou c',Moved (S :: wr) G s s'→s'.heap.get? S=some { cls:=.type "list",dict:=none,data:=.seq ou c',slots:=#[] }→ItemsOf P ou n→R (.ok (.ret res)) s') :
  wpAny (model prog w) A.in1 (Builtin.List.listExtendWith (.ref S) (.ref I) res)
   (fun fin s'=>match fin with | .done f=>R (.ok f) s' | .again c'=>c'.quiet=true∧codeAny (model prog w) A c' R s') (fun e s'=>R (.error e) s') s:=by
 have ne:S≠I:=fun e=>Vn (by rw [e];exact hI)
 have h1:Builtin.List.listSameRef (.ref S) (.ref I)=false:=by simp [Builtin.List.listSameRef,ne]
 unfold Builtin.List.listExtendWith
 refine wpAny_bind (wpAny_typeOf (hT 0 s Dx) ?_)
 simp only [h1,t1,t2,Bool.or_false,Bool.false_eq_true,if_false]
 refine wpAny_bind (W.self 0 s _ _ Dx (wpAny_bind (wpAny_holding (hh s _ _ Dx ?_))))
 refine wpAny_ite_split (fun _=>?_) (fun _=>?_)
 ·refine wpAny_bind (wpAny_rule (wpAny_bind ?_))
  show wpAny _ A.in1 (updateSeq S (·.push .none) >>= fun _=>updateSeq S (·.pop)) _ _ s
  refine wpAny_bind (wpAny_updateSeq hS rfl ?_)
  have Vo:=Heap.get?_update_self (Obj.mapSeq (·.push Value.none)) hS rfl
  refine wpAny_updateSeq (hz:=by seq_fits) Vo rfl ?_
  have hS3:=Heap.get?_update_self (Obj.mapSeq (·.pop)) Vo rfl
  have kp:∀ b o,b≠S→s.heap.get? b=some o→((s.heap.update S (Obj.mapSeq (·.push Value.none))).update S (Obj.mapSeq (·.pop))).get? b=some o:=fun b o hb e=>by
   rw [Heap.get?_update_other _ _ (Ne.symm hb),Heap.get?_update_other _ _ (Ne.symm hb)];exact e
  exact wpAny_pure ⟨plainId_quiet F.plain_extend_loop _,codeAny_extend_loopS W hn S Vn res n 0 _ _ _ rfl (Nat.zero_le n) (W.frame 0 s _ s.toks Dx (Nat.le_refl _) fun b hb o e=>kp b o (fun z=>Vn (by rw [← z];exact hb)) e) hS3 (ItemsOf.nil P)
   fun s' ou c' hm QT EM=>hR s' ou c' (Moved.trans W.gtrans ((Moved.refl W.grefl).then_heap (Nat.le_refl _) fun b o hb e=>kp b o (fun z=>hb (by rw [z];exact List.mem_cons_self)) e) hm) QT EM⟩
 ·exact wpAny_pure ⟨plainId_quiet F.plain_extend_loop _,codeAny_extend_loopS W hn S Vn res n 0 s #[] c0 rfl (Nat.zero_le n) Dx hS (ItemsOf.nil P) fun s' ou c' hm QT EM=>hR s' ou c' hm QT EM⟩
theorem Ht {E:Value→Shared→Prop} {Q:Value→Shared→Prop} (W:WalksS prog w A.in1.in1 I fp wr G n P St) (hT:∀ i s,St i s→s.TypeIs (.ref I) T) (t1:(Value.type T == Value.type "list")=false) (t2:(Value.type T == Value.type "tuple")=false)
  (hh:∀ (s:Shared) (Q:Bool→Shared→Prop) (E:Value→Shared→Prop),St 0 s→Q false s→wpAny (model prog w) A.in1.in1 (Builtin.List.listLengthHint (.ref I)) Q E s)
  (Dx:St 0 s) (TK:∀ b ∈ fp,b < s.heap.objs.size) (hI:I ∈ fp) (hn:n≤sizeLine)
  (hQ:∀ s' ou c',Moved (s.heap.objs.size :: wr) G { s with heap:=s.heap.push { cls:=.type "list",data:=.seq #[] } } s' →
   s'.heap.get? s.heap.objs.size=some { cls:=.type "list",dict:=none,data:=.seq ou c',slots:=#[] }→ItemsOf P ou n→Q (.ref s.heap.objs.size) s') :
  wpAny (model prog w) A (call (.type "list") [.ref I]) Q E s:=by
 have nf:s.heap.objs.size ∉ fp:=fun z=>absurd (TK _ z) (Nat.lt_irrefl _)
 refine callType_codes (Q₁:=fun obj z=>obj=.ref s.heap.objs.size∧z={ s with heap:=s.heap.push { cls:=.type "list",data:=.seq #[] } }) F.called_list (F.typeCall_list_1 _) F.entry_list_init (code_list_new _ ⟨rfl,rfl⟩) fun obj z hz=>?_
 obtain ⟨rfl,rfl⟩:=hz
 have hS:(s.heap.push { cls:=.type "list",data:=.seq #[] }).get? s.heap.objs.size=some { cls:=.type "list",data:=.seq #[] }:=Heap.get?_push_size _ rfl
 refine ⟨⟨_,hS,rfl⟩,F.args_list_init_2 _ _,?_⟩
 have XA:=W.frame 0 s (s.heap.push { cls:=.type "list",data:=.seq #[] }) s.toks Dx (Nat.le_refl _) fun b _ o e=>Heap.get?_push_of_some _ e
 show wpAny _ A.in1.in1 (do let old ← Builtin.List.listItems (.ref s.heap.objs.size);Builtin.List.listUpdate (.ref s.heap.objs.size) (fun _=>#[]);letGo old.toList.reverse;Builtin.List.listExtendWith (.ref s.heap.objs.size) (.ref I) .none) _ _ _
 refine wpAny_bind ?_
 unfold Builtin.List.listItems
 refine wpAny_bind (wpAny_seqItems hS rfl (wpAny_pure (wpAny_bind (wpAny_updateSeq hS rfl ?_))))
 have Vo:=Heap.get?_update_self (Obj.mapSeq (fun _=>(#[]:Array Value))) hS rfl
 have kp:∀ b o,b≠s.heap.objs.size→(s.heap.push { cls:=.type "list",data:=.seq #[] }).get? b=some o→((s.heap.push { cls:=.type "list",data:=.seq #[] }).update s.heap.objs.size (Obj.mapSeq (fun _=>(#[]:Array Value)))).get? b=some o :=
  fun b o hb e=>(Heap.get?_update_other _ _ (Ne.symm hb)).trans e
 refine wpAny_bind (wpAny_letGo ?_)
 refine KL W hT t1 t2 hh .none _ (W.frame 0 _ _ s.toks XA (Nat.le_refl _) fun b hb o e=>kp b o (fun z=>nf (by rw [← z];exact hb)) e) nf hI Vo hn fun s' ou c' hm QT EM=>?_
 exact ⟨rfl,hQ s' ou c' (Moved.trans W.gtrans ((Moved.refl W.grefl).then_heap (Nat.le_refl _) fun b o hb e=>kp b o (fun z=>hb (by rw [z];exact List.mem_cons_self)) e) hm) QT EM⟩
end
theorem Hu:typeLookup (.type "list_reverseiterator") "__len__"=pure none:=by rw [typeLookup_type,builtinLookup_eq_fast];kernel_rfl
theorem KN:typeLookup (.type "list_reverseiterator") "__length_hint__"=pure (some (.builtin "list_reverseiterator.__length_hint__")):=by rw [typeLookup_type,builtinLookup_eq_fast];kernel_rfl
theorem KO {prog:Program} {w:World} {A:Around} {s:Shared} {E:Value→Shared→Prop} {Q:Bool→Shared→Prop} {it l:Addr} {i:Int} (hit:s.heap.IsRevIter it l i) (h:Q false s) :
  wpAny (model prog w) A (Builtin.List.listLengthHint (.ref it)) Q E s:=by
 unfold Builtin.List.listLengthHint
 refine wpAny_bind (wpAny_specialOf hit.typeIs Hu ?_)
 show wpAny _ A (specialOf (Value.ref it) (Str.ofString "__length_hint__") >>= _) _ _ _
 refine wpAny_bind (wpAny_specialOf hit.typeIs KN ?_)
 generalize Y7:("list_reverseiterator.__length_hint__":String)=id0
 wp_delta
 rw [show splitId id0=some ("list_reverseiterator","__length_hint__") from by subst Y7;decide +kernel]
 subst Y7
 refine wpAny_bind (wpAny_isInstance (T:="list_reverseiterator") (b:=true) hit.typeIs (by rw [isSubtype_type];kernel_rfl) ?_)
 refine wpAny_ite_split (fun z=>absurd z (by decide)) (fun _=>?_)
 refine wpAny_ite_split (fun _=>?_) (fun z=>absurd (by decide +kernel) z)
 exact wpAny_ite_split (fun z=>absurd z (by decide +kernel)) (fun _=>wpAny_pure h)
section
variable {X:Cx}
def Tp (K:PySem.W.Frag) (te:TE):TE:=fun σ H Q=>te σ H fun v H1=>∃ l xs,v=.ref l∧aT K H1 l xs∧∀ q,H1 q=none→Q (.ref q) (upd H1 q (.lst xs.reverse))
theorem vM {e:Expr} {te:TE} {p p2 pos Mp:Pos} (hc:X.calm=true) (Y8:X.mg "list"=none) (hmr:X.mg "reversed"=none) (he:PE X e te) (hgl:Gl X "list":=by rfl) (hgr:Gl X "reversed":=by rfl)
  (hs:starEach [e] X.env=[(false,eval e X.env)]:=by rfl) (HY:starEach [Expr.Call (.Name "reversed" p2) [e] [] Mp] X.env=[(false,eval (Expr.Call (.Name "reversed" p2) [e] [] Mp) X.env)]:=by rfl) :
  PE X (.Call (.Name "list" p) [.Call (.Name "reversed" p2) [e] [] Mp] [] pos) (Tp X.K te):=by
 intro pins s σ H Q I h
 refine wpAny_Call_Name_kw (j7 I hgl Y8 boot_list ?_ (by decide) (by decide))
 refine PyProof.Rows.callWith_type1 ?_ HY rfl
 rw [HY]
 show wpAny _ _ (spliced [(false,eval (Expr.Call (.Name "reversed" p2) [e] [] Mp) X.env)]) _ _ s
 refine Calls.spliced_cons (wpAny_Call_Name_kw (j7 I hgr hmr boot_reversed ?_ (by decide) (by decide)))
 refine PyProof.Rows.callWith_type1 ?_ hs rfl
 rw [hs]
 show wpAny _ _ (spliced [(false,eval e X.env)]) _ _ s
 refine Calls.spliced_cons (bV (he pins s σ H _ I h) fun v s1 ⟨x,H1,I1,r1,q1⟩=>Calls.spliced_nil ?_)
 obtain ⟨l,xs,rfl,hq,q⟩:=q1
 cases r1
 obtain ⟨aq,rv,pl,hz⟩:=I1.list hq
 have hlen:=rv.length
 refine call_reversed_list pl.isList (Calls.spliced_nil ?_)
 have jS:l < s1.heap.objs.size:=by
  obtain ⟨o,n,ho,_⟩:=pl
  exact Heap.lt_size ho
 have XB:l≠s1.heap.objs.size:=Nat.ne_of_lt jS
 have W:=(Walks.listRev (prog:=X.prog) (w:=X.w) (A:=X.A.in1.in1) (I.ok.hd hc) s1.heap.objs.size l XB aq.toArray).toS
 have Vp:(s1.heap.push (revObj l ((aq.toArray.size:Int) - 1))).objs.size=s1.heap.objs.size+1:=Heap.size_push ..
 have Tb:(s1.heap.push (revObj l ((aq.toArray.size:Int) - 1))).IsList l aq.toArray:=pl.isList.at fun o e=>Heap.get?_push_of_some _ e
 refine Ht W (T:="list_reverseiterator") (fun i s' st=>st.2.1.typeIs) (by decide) (by decide) (fun s' Q' E' st Px=>KO st.2.1 Px) ⟨Nat.zero_le _,⟨_,Heap.get?_push_size _ rfl,rfl,by unfold revObj;simp⟩,Tb⟩ (fun b hb=>?_) (by simp) (by simp;omega) fun s' ou c' hm QT EM=>?_
 ·have hb':b=s1.heap.objs.size∨b=l:=by simpa using hb
  show b < (s1.heap.push (revObj l ((aq.toArray.size:Int) - 1))).objs.size
  rw [Vp]
  rcases hb' with rfl | rfl
  ·exact Nat.lt_succ_self _
  ·exact Nat.lt_succ_of_lt jS
 ·have ea:ou=aq.reverse.toArray:=by
   obtain ⟨a1,a2⟩:=EM
   apply Array.ext'
   apply List.ext_getElem?
   intro j
   by_cases hj:j < aq.length
   ·have Y9:j < ou.size:=by rw [a1];simpa using hj
    have g:=a2 j ou[j] (by simp [Y9])
    have e1:ou.toList[j]?=some ou[j]:=by simp [Y9]
    rw [e1]
    simp only [List.getElem?_toArray,List.size_toArray] at g
    show _=aq.reverse[j]?
    rw [List.getElem?_reverse hj,g]
   ·have:ou.toList[j]?=none:=by simp;rw [a1];simp;omega
    rw [this]
    simp
    omega
  subst ea
  rw [Moved.eq_with hm]
  have kp:∀ b o,s1.heap.get? b=some o→s'.heap.get? b=some o:=fun b o eb=>by
   have ZA:=Heap.lt_size eb
   refine hm.heap b o (fun z=>?_) (Heap.get?_push_of_some _ (Heap.get?_push_of_some _ eb))
   have z':b=(s1.heap.push (revObj l ((aq.toArray.size:Int) - 1))).objs.size∨b=s1.heap.objs.size:=by simpa using z
   rw [Vp] at z'
   rcases z' with z' | z'
   ·exact absurd ZA (by rw [z'];exact Nat.not_lt.mpr (Nat.le_succ _))
   ·exact absurd ZA (by rw [z'];exact Nat.lt_irrefl _)
  refine ⟨.ref _,_,I1.laid (t':=s'.toks) (o:=.lst xs.reverse) (a:=(s1.heap.push (revObj l ((aq.toArray.size:Int) - 1))).objs.size) kp (by rw [Vp];omega) ?_,rfl,q _ (I1.bh.fresh (by rw [Vp];omega))⟩
  exact ⟨by rw [List.length_reverse];exact hz,aq.reverse,c',rv.reverse,QT⟩
end
end L2
namespace L2
open PySem PySem.Spec PyProof.Rows
def Gh (Nc:List Str) (ix:List (Option Nat)) (scope sc:Scope) (N:List Str):Bool :=
 decide (scope.kind=.function) && decide Nc.Nodup && decide (ix.length=Nc.length) &&
 (scope.names.all fun x=>decide (x.2=.local→scope.names.lookup x.1=some .local)) &&
 (scope.names.all fun x=>decide (x.2=.free→sc.names.lookup x.1=some .cell∨sc.names.lookup x.1=some .free)) &&
 (scope.names.all fun x=>decide (x.2=.free→(x.1,NameKind.cell) ∉ scope.names)) &&
 ((ix.zip Nc).all fun p=>match p.1 with | none=>true | some j=>decide (N[j]?=some p.2∧scope.names.lookup p.2=some .free))
theorem cU {X:Cx} {Nc:List Str} {ix:List (Option Nat)} {scope:Scope} (sc:Scope) (N:List Str) (KP:X.env.scope=sc) (hN:X.N=N) (h:Gh Nc ix scope sc N=true):dZ X Nc ix scope:=by
 subst KP hN
 simp only [Gh,Bool.and_eq_true,decide_eq_true_eq,List.all_eq_true] at h
 obtain ⟨⟨⟨⟨⟨⟨h1,h2⟩,h3⟩,h4⟩,h5⟩,h6⟩,h7⟩:=h
 refine ⟨h1,h2,h3,h4,h5,fun x hx=>h6 _ hx rfl,fun i j x e1 e2=>?_⟩
 have hm:(some j,x) ∈ ix.zip Nc:=by
  refine List.mem_iff_getElem?.mpr ⟨i,?_⟩
  rw [List.getElem?_zip_eq_some]
  exact ⟨e1,e2⟩
 have:=h7 _ hm
 simpa using this
end L2
namespace L2
open PySem PySem.Spec PyProof.Rows
section
variable {K:PySem.W.Frag} {g:TG} {tt:TT} {te:TE} {D:Addr} {σ:St} {H:Hp} {Q:VK}
theorem uU {a:Addr} {xs:List V} (Pv:Nat→St→Hp→Prop) (h0:Pv 0 σ H) (hl:∀ i σ H,i≤xs.length→Pv i σ H→aT K H a xs)
  (hs:∀ (i:Nat) (x:V) (σ:St) (H:Hp) (N:St→Hp→Prop),(∀ σ H,Pv (i+1) σ H→N σ H)→xs[i]?=some x→Pv i σ H→g x σ H fun σ3 H3=>tt σ3 H3 fun b H4 =>
   if b=true then te σ3 H4 fun v H5=>∃ ys,H5 D=some (.lst ys)∧ys.length < sizeLine∧N σ3 (upd H5 D (.lst (ys ++ [v]))) else N σ3 H4)
  (hd:∀ σ H,Pv xs.length σ H→Q (.ref D) H) :
  uQ (Pk K a) g tt te D σ H Q:=by
 refine ⟨fun i m σ H=>m=xs.length - i∧i≤xs.length∧Pv i σ H,⟨xs.length,by simp,Nat.zero_le _,h0⟩,?_⟩
 rintro i m σ' H' ⟨rfl,hi,p⟩
 have q:=hl i σ' H' hi p
 by_cases jS:i < xs.length
 ·refine .inr ⟨⟨xs,xs[i],q,by simp [jS]⟩,fun x H2 y=>?_⟩
  obtain ⟨e,y⟩:=y
  subst e
  exact hs i x σ' _ (fun σ3 H3=>∃ m',m' < xs.length - i∧m'=xs.length - (i+1)∧i+1≤xs.length∧Pv (i+1) σ3 H3) (fun σ3 H3 z=>⟨xs.length - (i+1),by omega,rfl,jS,z⟩) (y xs q) p
 ·have e:i=xs.length:=by omega
  subst e
  exact .inl ⟨⟨xs,q,Nat.le_refl _⟩,hd σ' H' p⟩
theorem mK {lo:Int} {n:Nat} (Pv:Nat→St→Hp→Prop) (h0:Pv 0 σ H)
  (hs:∀ (i:Nat) (σ:St) (H:Hp) (N:St→Hp→Prop),(∀ σ H,Pv (i+1) σ H→N σ H)→i < n→Pv i σ H→g (.int (lo+i)) σ H fun σ3 H3=>tt σ3 H3 fun b H4 =>
   if b=true then te σ3 H4 fun v H5=>∃ ys,H5 D=some (.lst ys)∧ys.length < sizeLine∧N σ3 (upd H5 D (.lst (ys ++ [v]))) else N σ3 H4)
  (hd:∀ σ H,Pv n σ H→Q (.ref D) H) :
  uQ (MT lo n) g tt te D σ H Q:=by
 refine ⟨fun i m σ H=>m=n - i∧i≤n∧Pv i σ H,⟨n,by simp,Nat.zero_le _,h0⟩,?_⟩
 rintro i m σ' H' ⟨rfl,hi,p⟩
 by_cases jS:i < n
 ·refine .inr ⟨jS,fun x H2 y=>?_⟩
  obtain ⟨e,y⟩:=y
  subst e y
  exact hs i σ' _ (fun σ3 H3=>∃ m',m' < n - i∧m'=n - (i+1)∧i+1≤n∧Pv (i+1) σ3 H3) (fun σ3 H3 z=>⟨n - (i+1),by omega,rfl,jS,z⟩) jS p
 ·have e:i=n:=by omega
  subst e
  exact .inl ⟨Nat.le_refl _,hd σ' H' p⟩
end
theorem lC {ns:List Int} {i:Nat} {y:V} (h:(ns.map V.int)[i]?=some y):∃ z,ns[i]?=some z∧y=V.int z:=by
 rw [List.getElem?_map] at h
 cases e:ns[i]? with
 | none=>rw [e] at h;cases h
 | some z=>rw [e] at h;exact ⟨z,rfl,(Option.some.inj h).symm⟩
theorem take_succ {α:Type} {l:List α} {i:Nat} {x:α} (h:l[i]?=some x):l.take (i+1)=l.take i ++ [x]:=by
 rw [List.take_succ,h];rfl
end L2
namespace L2
open PySem
end L2
namespace L2
open PySem
theorem fP {i:Nat} {x:V} {σ:St} {H:Hp} {A B:St→Hp→Prop} (h:A (σ.set i (some x)) H):j8 i x σ H fun σ3 H3=>QD σ3 H3 fun b H4=>if b=true then A σ3 H4 else B σ3 H4:=by
 show if true=true then A (σ.set i (some x)) H else B (σ.set i (some x)) H
 exact ja h
end L2
namespace L2
open PySem PySem.Spec PyProof.Rows
section
variable {X:Cx} {pins:List (Addr × Obj)} {σ:St} {H:Hp} {s:Shared} {h':Heap}
theorem Inv.Gi {ch:List Addr} {t':Nat} (I:Inv X pins σ H s) (k:∀ b o,b ∉ ch→s.heap.get? b=some o→h'.get? b=some o) (hf:∀ b ∈ ch,oq X pins H b):Inv X pins σ H { s with heap:=h',toks:=t' }:=by
 have Tq:∀ b u,H b=some u→b ∉ ch:=fun b u e z=>by rw [(hf b z).1] at e;cases e
 refine I.GH (s':={ s with heap:=h',toks:=t' }) (ch:=ch) rfl ⟨fun b o e _ _ hx=>k b o hx e,fun b o e _ _ hx=>⟨o.slots,k b o hx e⟩,fun _ _ _ n _=>n,fun b o e hx=>⟨o,k b o hx e⟩,fun _ _ e=>e,fun _ _ _ e=>e,fun b ps e=>⟨#[],by rw [e];simp⟩⟩ ?_ I.bare fun b hb=>?_
 ·intro b o e
  refine (I.bh b o e).zJ (fun c u hc q=>k c u ?_ q) (fun _ q=>q) fun _ _ q=>q
  rcases hc with z | z
  ·rw [z];exact Tq b o e
  ·exact Tq c _ z
 ·obtain ⟨_,q1,_,q3,q4,q5⟩:=hf b hb
  exact ⟨q3,q1,q4,q5⟩
theorem Inv.Ag {ch:List Addr} {T:Addr} {o:HO} {t':Nat} (I:Inv X pins σ H s) (k:∀ b o,b ∉ ch→s.heap.get? b=some o→h'.get? b=some o) (hf:∀ b ∈ ch,oq X pins H b) (hT:s.heap.objs.size≤T)
  (new:eM X.prog X.w (upd H T o) h' T o):Inv X pins σ (upd H T o) { s with heap:=h',toks:=t' }:=by
 have Tq:∀ b u,H b=some u→b ∉ ch:=fun b u e z=>by rw [(hf b z).1] at e;cases e
 have hn:=I.bh.fresh hT
 have old:∀ b u,s.heap.get? b=some u→b≠T:=fun b u e=>Nat.ne_of_lt (Nat.lt_of_lt_of_le (Heap.lt_size e) hT)
 refine I.GH (s':={ s with heap:=h',toks:=t' }) (ch:=ch) rfl ⟨fun b o e _ _ hx=>k b o hx e,fun b o e _ _ hx=>⟨o.slots,k b o hx e⟩,fun b u e n _=>by rw [aE (old b u e)];exact n,fun b o e hx=>⟨o,k b o hx e⟩,
  fun b xs e=>by rw [aE (aK e hn)];exact e,fun b o u e=>by rw [aE (aK e hn)];exact e,fun b ps e=>⟨#[],by rw [aE (aK e hn),e];simp⟩⟩ ?_ I.bare fun b hb=>?_
 ·intro b u e
  by_cases hb:b=T
  ·subst hb
   rw [aB] at e
   cases e
   exact new
  ·rw [aE hb] at e
   refine (I.bh b u e).zJ (fun c v hc q=>k c v ?_ q) (fun c q=>by rw [aE (aK q hn)];exact q) fun c xs q=>by rw [aE (aK q hn)];exact q
   rcases hc with z | z
   ·rw [z];exact Tq b u e
   ·exact Tq c _ z
 ·obtain ⟨_,q1,_,q3,q4,q5⟩:=hf b hb
  exact ⟨q3,q1,q4,q5⟩
end
def QU (K:PySem.W.Frag) (a b:Addr):It :=
 ⟨fun i H=>∃ xs ys x y,aT K H a xs∧aT K H b ys∧xs[i]?=some x∧ys[i]?=some y,
  fun i H v H'=>∃ p x y,H p=none∧v=.ref p∧H'=upd H p (.tup [x,y])∧(∀ xs,aT K H a xs→xs[i]?=some x)∧∀ ys,aT K H b ys→ys[i]?=some y,
  fun i H=>∃ xs ys,aT K H a xs∧aT K H b ys∧(xs.length≤i∨ys.length≤i)⟩
theorem KQ {P:Program} {w:World} {K:PySem.W.Frag} {elts:List Expr} {x1:Nat} {pos:Pos} {z TI TO i1 i2 l1 l2:Addr} (D:ZipApart z TI TO i1 i2 l1 l2) :
  Turn P w K (.Tuple elts x1 pos) (QU K l1 l2) [z,TI,TO,i1,i2] z (fun i h=>IsZip h z TI TO .none∧IsPair h TI (.ref i1) (.ref i2)∧(∃ a b,IsPair h TO a b)∧h.IsListIter i1 l1 i∧h.IsListIter i2 l2 i) where
 mem:=by simp
 obj:=fun i h st b hb=>by
  obtain ⟨hz,sH,⟨a,b',u6⟩,⟨o1,e1,c1,d1⟩,⟨o2,e2,c2,d2⟩⟩:=st
  simp only [List.mem_cons,List.not_mem_nil,or_false] at hb
  rcases hb with rfl | rfl | rfl | rfl | rfl
  ·exact ⟨_,hz,fun v q=>by cases q⟩
  ·exact ⟨_,sH,fun v q=>by cases q⟩
  ·exact ⟨_,u6,fun v q=>by cases q⟩
  ·exact ⟨_,e1,fun v q=>by rw [d1] at q;cases q⟩
  ·exact ⟨_,e2,fun v q=>by rw [d2] at q;cases q⟩
 keep:=fun i h h' st k=>by
  obtain ⟨hz,sH,⟨a,b',u6⟩,h1,h2⟩:=st
  exact ⟨k z (by simp) _ hz,k TI (by simp) _ sH,⟨a,b',k TO (by simp) _ u6⟩,h1.at fun o e=>k i1 (by simp) o e,h2.at fun o e=>k i2 (by simp) o e⟩
 item:=by
  intro X hP hw hK hc i pins s σ H E I hf st hg
  subst hP hw hK
  obtain ⟨hz,sH,⟨a,b,u6⟩,h1,h2⟩:=st
  obtain ⟨xs,ys,x,y,hx,hy,ex,ey⟩:=hg
  obtain ⟨aq,rv,p,XC⟩:=I.list hx
  obtain ⟨gw,Tr,p2,ZC⟩:=I.list hy
  obtain ⟨u,hu,ru⟩:=rv.get ex
  obtain ⟨u2,XD,XE⟩:=Tr.get ey
  refine wpAny_pyNext_zip_item D hz sH u6 h1 h2 p.isList p2.isList (x:=u) (y:=u2) (by simpa using hu) (by simpa using XD) fun h' a1 a2 a3 a4 a5 a6 kk=>⟨_,rfl,?_⟩
  refine wpAny_letOwnedTupleGo_zip a1 fun Ts XF Hv=>?_
  have lt:∀ {c o},s.heap.get? c=some o→s.heap.objs.size≠c:=fun e=>Nat.ne_of_gt (Heap.lt_size e)
  have k2:∀ c o,c ∉ [z,TI,TO,i1,i2]→s.heap.get? c=some o→Ts.get? c=some o:=fun c o hc e=>by
   simp only [List.mem_cons,List.not_mem_nil,or_false,not_or] at hc
   exact Hv.extBut _ _ hc.1 (kk c o hc.1 hc.2.2.1 hc.2.2.2.1 hc.2.2.2.2 e)
  have tup:eM X.prog X.w (upd H s.heap.objs.size (.tup [x,y])) Ts s.heap.objs.size (.tup [x,y]) :=
   ⟨by show 2≤sizeLine;decide,[u,u2],.cons ru (.cons XE .nil),⟨_,Hv.extBut _ _ (lt hz) a5,rfl,_,rfl⟩⟩
  have hn:=I.bh.fresh (Nat.le_refl s.heap.objs.size)
  refine ⟨.ref s.heap.objs.size,_,I.Ag (t':=s.toks) k2 hf (Nat.le_refl _) tup,rfl,⟨_,x,y,hn,rfl,rfl,fun zs hq=>by rw [I.uD hq hx];exact ex,fun zs hq=>by rw [I.uD hq hy];exact ey⟩,
   ⟨XF,Hv.extBut _ _ D.TIz (kk _ _ D.TIz D.TITO D.TIi1 D.TIi2 sH),⟨_,_,Hv.extBut _ _ D.TOz a2⟩,a3.extBut Hv.extBut D.i1z,a4.extBut Hv.extBut D.i2z⟩,fun c hc=>?_⟩
  have Gj:c≠s.heap.objs.size:=by
   simp only [List.mem_cons,List.not_mem_nil,or_false] at hc
   obtain ⟨o1,e1,_⟩:=h1
   obtain ⟨o2,e2,_⟩:=h2
   rcases hc with rfl | rfl | rfl | rfl | rfl
   ·exact (lt hz).symm
   ·exact (lt sH).symm
   ·exact (lt u6).symm
   ·exact (lt e1).symm
   ·exact (lt e2).symm
  rw [aE Gj]
  exact (hf c hc).1
 done:=by
  intro X hP hw hK hc i pins s σ H E I hf st hg
  subst hP hw hK
  obtain ⟨hz,sH,⟨a,b,u6⟩,h1,h2⟩:=st
  obtain ⟨xs,ys,hx,hy,he⟩:=hg
  obtain ⟨aq,rv,p,XC⟩:=I.list hx
  obtain ⟨gw,Tr,p2,ZC⟩:=I.list hy
  have l1':=rv.length
  have l2':=Tr.length
  refine wpAny_pyNext_zip_end (I.ok.hd hc) D hz sH u6 h1 h2 p.isList p2.isList (by rcases he with h | h;exact .inl (by simp;omega);exact .inr (by simp;omega)) fun h' kk=>⟨rfl,?_⟩
  refine I.Gi (t':=s.toks) (ch:=[z,TI,TO,i1,i2]) (fun c o hc e=>?_) hf
  simp only [List.mem_cons,List.not_mem_nil,or_false,not_or] at hc
  exact kk c o hc.1 hc.2.2.1 hc.2.2.2.1 hc.2.2.2.2 e
 self:=fun _ _ _ _ _ st h=>wpAny_pyIter_zip st.1 h
section
variable {X:Cx}
def Tt (K:PySem.W.Frag) (ta:TA):TI:=fun σ H R=>ta σ H fun vs H1=>∃ a b,vs=[.ref a,.ref b]∧(∃ xs,aT K H1 a xs)∧(∃ ys,aT K H1 b ys)∧R (QU K a b) H1
theorem QV {e1 e2:Expr} {ta:TA} {p pos A6:Pos} {elts:List Expr} {x1:Nat} (hg:Gl X "zip") (hm:X.mg "zip"=none) (ha:PA X [e1,e2] ta) (hs:starEach [e1,e2] X.env=(false,eval e1 X.env) :: starEach [e2] X.env:=by rfl) (mr:(backTo pos (starEach [e2] X.env)).any (·.1)=false:=by rfl) :
  PI X (.Tuple elts x1 A6) (.Call (.Name "zip" p) [e1,e2] [] pos) (Tt X.K ta):=by
 intro pins s σ H R I h
 refine wpAny_Call_Name_kw (j7 I hg hm boot_zip ?_ (by decide) (by decide))
 refine PyProof.Rows.callWith_type1 (bV (ha pos pins s σ H _ I h) fun us s1 ⟨vs,H1,I1,r1,q1⟩=>?_) hs mr
 obtain ⟨a,b,rfl,⟨xs,hx⟩,⟨ys,hy⟩,q⟩:=q1
 obtain ⟨u,v,rfl,ru,rv⟩:=r1.two
 cases ru
 cases rv
 obtain ⟨aq,r1',p1,_⟩:=I1.list hx
 obtain ⟨gw,r2',p2,_⟩:=I1.list hy
 refine call_zip_2 p1.isList p2.isList fun h' hz sH u6 h1 h2 qt kk=>?_
 refine wpAny_pyIter_zip hz ?_
 have la:a < s1.heap.objs.size:=by obtain ⟨o,n,ho,_⟩:=p1;exact Heap.lt_size ho
 have lb:b < s1.heap.objs.size:=by obtain ⟨o,n,ho,_⟩:=p2;exact Heap.lt_size ho
 have I2:Inv X pins σ H1 { s1 with heap:=h' }:=I1.kept (t':=s1.toks) fun b o e=>kk b o e
 refine ⟨s1.heap.objs.size+4,[s1.heap.objs.size+4,s1.heap.objs.size+2,s1.heap.objs.size+3,s1.heap.objs.size,s1.heap.objs.size+1],_,_,H1,rfl,I2,KQ (zipApart_new la lb),⟨hz,sH,⟨_,_,u6⟩,h1,h2⟩,fun c hc=>?_,q⟩
 have hle:s1.heap.objs.size≤c:=by
  simp only [List.mem_cons,List.not_mem_nil,or_false] at hc
  rcases hc with rfl | rfl | rfl | rfl | rfl
  ·exact Nat.le_add_right _ _
  ·exact Nat.le_add_right _ _
  ·exact Nat.le_add_right _ _
  ·exact Nat.le_refl _
  ·exact Nat.le_add_right _ _
 have f:=I1.A3 (H':=H1) hle (I1.bh.fresh hle)
 exact f
theorem QW {i j:Nat} {x y:Str} {px py pos:Pos} {k:Nat} (hc:X.calm=true) (hN:X.N.Nodup) (hi:X.N[i]?=some x) (hj:X.N[j]?=some y) (lx:Loc X.env.scope x) (ly:Loc X.env.scope y)
  (fx:X.fn x=true∨X.env.scope.names.lookup x=some .local:=by first | exact .inl rfl | exact .inr rfl) (fy:X.fn y=true∨X.env.scope.names.lookup y=some .local:=by first | exact .inl rfl | exact .inr rfl)
  (hs:(assignEach [.Name x px,.Name y py] X.env).map (·.2)=[assign (.Name x px) X.env,assign (.Name y py) X.env]:=by rfl) (HY:(assignEach [.Name y py] X.env).map (·.2)=[assign (.Name y py) X.env]:=by rfl) (XG:(assignEach [] X.env).map (·.2)=[]:=by rfl)
  (hn:(assignEach [.Name x px,.Name y py] X.env).length=2:=by rfl) (Dx:(assignEach [.Name x px,.Name y py] X.env).findIdx? (·.1)=none:=by rfl) :
  PG X (.Tuple [.Name x px,.Name y py] k pos) (Jd X.K 2 (uE (j8 i) (uE (j8 j) Jc))) :=
 Pg hc (CL (ak hN hi lx fx) (CL (ak hN hj ly fy) MS (by rw [HY,XG])) (by rw [hs,HY])) hn Dx
end
end L2
namespace L2
open PySem PySem.Spec PyProof.Rows
section
variable {K:PySem.W.Frag} {g:TG} {tt:TT} {te:TE} {D:Addr} {σ:St} {H:Hp} {Q:VK}
theorem QX {a b:Addr} {xs ys:List V} (hlen:xs.length=ys.length) (Pv:Nat→St→Hp→Prop) (h0:Pv 0 σ H) (hl:∀ i σ H,i≤xs.length→Pv i σ H→aT K H a xs∧aT K H b ys)
  (hs:∀ (i:Nat) (x y:V) (p:Addr) (σ:St) (H:Hp) (N:St→Hp→Prop),(∀ σ H,Pv (i+1) σ H→N σ H)→xs[i]?=some x→ys[i]?=some y→Pv i σ H→H p=none→g (.ref p) σ (upd H p (.tup [x,y])) fun σ3 H3=>tt σ3 H3 fun b H4 =>
   if b=true then te σ3 H4 fun v H5=>∃ ys,H5 D=some (.lst ys)∧ys.length < sizeLine∧N σ3 (upd H5 D (.lst (ys ++ [v]))) else N σ3 H4)
  (hd:∀ σ H,Pv xs.length σ H→Q (.ref D) H):uQ (QU K a b) g tt te D σ H Q:=by
 refine ⟨fun i m σ H=>m=xs.length - i∧i≤xs.length∧Pv i σ H,⟨xs.length,by simp,Nat.zero_le _,h0⟩,?_⟩
 rintro i m σ' H' ⟨rfl,hi,p⟩
 obtain ⟨q1,q2⟩:=hl i σ' H' hi p
 by_cases jS:i < xs.length
 ·refine .inr ⟨⟨xs,ys,xs[i],ys[i],q1,q2,by simp [jS],by simp [show i < ys.length by omega]⟩,fun v H2 z=>?_⟩
  obtain ⟨pt,x,y,hp,rfl,rfl,e1,e2⟩:=z
  exact hs i x y pt σ' H' (fun σ3 H3=>∃ m',m' < xs.length - i∧m'=xs.length - (i+1)∧i+1≤xs.length∧Pv (i+1) σ3 H3) (fun σ3 H3 z=>⟨xs.length - (i+1),by omega,rfl,jS,z⟩) (e1 xs q1) (e2 ys q2) p hp
 ·have e:i=xs.length:=by omega
  subst e
  exact .inl ⟨⟨xs,ys,q1,q2,.inl (Nat.le_refl _)⟩,hd σ' H' p⟩
theorem xx {i j:Nat} {x y:V} {p:Addr} {A B:St→Hp→Prop} (h:A ((σ.set i (some x)).set j (some y)) (upd H p (.tup [x,y]))) :
  Jd K 2 (uE (j8 i) (uE (j8 j) Jc)) (.ref p) σ (upd H p (.tup [x,y])) fun σ3 H3=>QD σ3 H3 fun b H4=>if b=true then A σ3 H4 else B σ3 H4 :=
 ⟨p,[x,y],rfl,jZ.of aB,rfl,x,_,rfl,y,_,rfl,rfl,(by
  show if true=true then A ((σ.set i (some x)).set j (some y)) (upd H p (.tup [x,y])) else B ((σ.set i (some x)).set j (some y)) (upd H p (.tup [x,y]))
  exact ja h)⟩
end
section
variable {X:Cx}
end
end L2
namespace L2
open PySem PySem.Spec PyProof.Rows
def be (n:Nat) (f:Nat→V):List V:=(List.range n).map f
abbrev tabI (n:Nat) (f:Nat→Int):List V:=be n fun j=>V.int (f j)
abbrev bN (n:Nat) (f:Nat→Addr):List V:=be n fun j=>V.ref (f j)
theorem aL (n:Nat) (f:Nat→V):(be n f).length=n:=by simp [be]
theorem bS {n i:Nat} {f:Nat→V} (h:i < n):(be n f)[i]?=some (f i):=by simp [be,h]
theorem tab_of {n i:Nat} {f:Nat→V} {x:V} (h:(be n f)[i]?=some x):i < n∧x=f i:=by
 have hi:i < n:=by
  have:=(List.getElem?_eq_some_iff.mp h).1
  rwa [aL] at this
 rw [bS hi] at h
 exact ⟨hi,(Option.some.inj h).symm⟩
theorem xy (n:Nat) (f:Nat→V):be (n+1) f=be n f ++ [f n]:=by simp [be,List.range_succ]
theorem bT {n:Nat} {f g:Nat→V} (h:∀ i,i < n→f i=g i):be n f=be n g:=by
 unfold be
 apply List.map_congr_left
 intro i hi
 exact h i (List.mem_range.mp hi)
theorem xM {n i:Nat} {f:Nat→V} {v:V} (h:i < n):(be n f).set i v=be n fun j=>if j=i then v else f j:=by
 apply List.ext_getElem?
 intro j
 by_cases hj:j < n
 ·rw [bS hj]
  by_cases e:j=i
  ·subst e
   rw [List.getElem?_set_self (by rw [aL];exact hj)]
   simp
  ·rw [List.getElem?_set_ne (Ne.symm e),bS hj]
   simp [e]
 ·rw [List.getElem?_eq_none (by rw [List.length_set,aL];omega),List.getElem?_eq_none (by rw [aL];omega)]
theorem x3 {n:Nat} {i:Int} {f:Nat→V} (h0:0≤i) (h:i < n):GU (be n f).length i=some i.toNat:=by
 rw [aL]
 unfold GU
 rw [if_pos h0,if_pos h]
theorem dh {n:Nat} {i:Int} {f:Nat→V} (h0:0≤i) (h:i < n):xJ (be n f) i=some (f i.toNat):=by
 unfold xJ
 rw [x3 h0 h]
 exact bS (by omega)
theorem KR {n:Nat} {f:Nat→V}:xJ (be (n+1) f) (-1)=some (f n):=by
 have h:GU (be (n+1) f).length (-1)=some n:=by
  rw [aL]
  unfold GU
  rw [if_neg (by omega),if_pos (by omega)]
  congr 1
  omega
 unfold xJ
 rw [h]
 exact bS (by omega)
theorem xN (n:Nat) (f:Nat→Int):((List.range n).map f).map V.int=tabI n f:=by unfold tabI be;rw [List.map_map];rfl
def BG (K:PySem.W.Frag) (H:Hp) (l:Addr) (m n:Nat) (a:Nat→Nat→Int):Prop:=∃ as:Nat→Addr,aT K H l (bN m as)∧∀ i,i < m→aT K H (as i) (tabI n (a i))
end L2
namespace L2
open PySem PySem.Spec PyProof.Rows
section
variable {K:PySem.W.Frag} {g:TG} {tt:TT} {te:TE} {D:Addr} {σ:St} {H:Hp} {Q:VK}
theorem vN {a:Addr} {n:Nat} {F:Nat→V} (Pv:Nat→St→Hp→Prop) (h0:Pv 0 σ H) (hl:∀ i σ H,i≤n→Pv i σ H→aT K H a (be n F))
  (hs:∀ (i:Nat) (σ:St) (H:Hp) (N:St→Hp→Prop),(∀ σ H,Pv (i+1) σ H→N σ H)→i < n→Pv i σ H→g (F i) σ H fun σ3 H3=>tt σ3 H3 fun b H4 =>
   if b=true then te σ3 H4 fun v H5=>∃ ys,H5 D=some (.lst ys)∧ys.length < sizeLine∧N σ3 (upd H5 D (.lst (ys ++ [v]))) else N σ3 H4)
  (hd:∀ σ H,Pv n σ H→Q (.ref D) H):uQ (Pk K a) g tt te D σ H Q:=by
 refine uU (xs:=be n F) Pv h0 (fun i σ H hi=>hl i σ H (by rwa [aL] at hi)) (fun i x σ H N hN hx hp=>?_) (fun σ H h=>hd σ H (by rwa [aL] at h))
 obtain ⟨hi,rfl⟩:=tab_of hx
 exact hs i σ H N hN hi hp
theorem Gk {a b:Addr} {n:Nat} {F G:Nat→V} (Pv:Nat→St→Hp→Prop) (h0:Pv 0 σ H) (hl:∀ i σ H,i≤n→Pv i σ H→aT K H a (be n F)∧aT K H b (be n G))
  (hs:∀ (i:Nat) (p:Addr) (σ:St) (H:Hp) (N:St→Hp→Prop),(∀ σ H,Pv (i+1) σ H→N σ H)→i < n→Pv i σ H→H p=none→g (.ref p) σ (upd H p (.tup [F i,G i])) fun σ3 H3=>tt σ3 H3 fun b H4 =>
   if b=true then te σ3 H4 fun v H5=>∃ ys,H5 D=some (.lst ys)∧ys.length < sizeLine∧N σ3 (upd H5 D (.lst (ys ++ [v]))) else N σ3 H4)
  (hd:∀ σ H,Pv n σ H→Q (.ref D) H):uQ (QU K a b) g tt te D σ H Q:=by
 refine QX (xs:=be n F) (ys:=be n G) (by rw [aL,aL]) Pv h0 (fun i σ H hi=>hl i σ H (by rwa [aL] at hi)) (fun i x y p σ H N hN hx hy hp hn=>?_) (fun σ H h=>hd σ H (by rwa [aL] at h))
 obtain ⟨hi,rfl⟩:=tab_of hx
 obtain ⟨_,rfl⟩:=tab_of hy
 exact hs i p σ H N hN hi hp hn
theorem lD {H:Hp} {D:Addr} {i:Nat} {F:Nat→V} {v:V} (h:v=F i):(upd H D (.lst (be i F ++ [v]))) D=some (.lst (be (i+1) F)):=by
 rw [aB,xy,h]
end
end L2
namespace L2
open PySem
theorem Cc (i:Nat) (F:Nat→V) (x:V):be i F ++ [x]=be (i+1) fun k=>if k=i then x else F k:=by
 refine ((xy i _).trans ?_).symm
 rw [show be i (fun k=>if k=i then x else F k)=be i F from bT fun k hk=>by rw [if_neg (by omega)],if_pos rfl]
theorem fQ (i:Nat) (ps:Nat→Addr) (p:Addr):bN i ps ++ [V.ref p]=bN (i+1) fun k=>if k=i then p else ps k:=by
 rw [Cc]
 refine bT fun k hk=>?_
 by_cases e:k=i <;> simp [e]
end L2
namespace L2
open PySem
end L2
namespace L2
end L2
namespace L2
open PySem PySem.Spec PyProof.Rows
def Tu (t:TS):TS:=fun D σ H=>∃ R:St→Hp→Prop,t { D with nx:=R } σ H∧∀ σ' H',R σ' H'→D.nx σ' H'
theorem BH {X:Cx} {st:Stmt} {t:TS} (h:PS X st t):PS X st (Tu t):=by
 intro pins s σ H D I ⟨R,h1,h2⟩
 refine wpAny_mono (h pins s σ H { D with nx:=R } I h1) (fun f s' q=>?_) fun _ _ z=>z
 cases f with
 | next=>obtain ⟨σ',H',I',q⟩:=q;exact ⟨σ',H',I',h2 σ' H' q⟩
 | brk=>exact q
 | cont=>exact q
 | ret u=>exact q
end L2
namespace L2
open PySem PySem.Spec PyProof.Rows
section
variable {X:Cx} (K:PySem.W.Frag)
theorem aM (hK:X.K=K:=by rfl):Sv X (Sw K):=by subst hK;exact Mb
theorem g8 (hK:X.K=K:=by rfl):Sv X (Sx K):=by subst hK;exact P0
theorem jU (hK:X.K=K:=by rfl):Wb X (Sz K):=by subst hK;exact Mc
theorem bP (hK:X.K=K:=by rfl):uG X (.builtin "len") (fun xs H Q=>∃ p ys,xs=[.ref p]∧(aT K H p ys∨jZ K H p ys)∧Q (.int ys.length) H):=by subst hK;exact BB
theorem ij (hK:X.K=K:=by rfl):uG X (.type "list") (fun xs H Q=>∃ p ys,xs=[.ref p]∧(aT K H p ys∨jZ K H p ys)∧∀ l,H l=none→Q (.ref l) (upd H l (.lst ys))):=by subst hK;exact BC
theorem Mq (hu:X.A.units+16 < cLine) (hK:X.K=K:=by rfl):ot X (compareOp .Eq) (Mo K false):=by subst hK;exact QR hu
theorem Mr (hu:X.A.units+16 < cLine) (hK:X.K=K:=by rfl):ot X (compareOp .NotEq) (Mo K true):=by subst hK;exact QS hu
theorem g9 (hK:X.K=K:=by rfl):ot X (binaryOp .Add) (Ol K):=by subst hK;exact Mh
theorem bK {tg l:Expr} {tl:TE} (hl:PE X l tl) (hK:X.K=K:=by rfl):PI X tg l (Ob K tl):=by subst hK;exact GK hl
theorem BI {e1 e2:Expr} {ta:TA} {p pos A6:Pos} {elts:List Expr} {x1:Nat} (hg:Gl X "zip") (hm:X.mg "zip"=none) (ha:PA X [e1,e2] ta) (hK:X.K=K:=by rfl) (hs:starEach [e1,e2] X.env=(false,eval e1 X.env) :: starEach [e2] X.env:=by rfl) (mr:(backTo pos (starEach [e2] X.env)).any (·.1)=false:=by rfl) :
  PI X (.Tuple elts x1 A6) (.Call (.Name "zip" p) [e1,e2] [] pos) (Tt K ta):=by subst hK;exact QV hg hm ha hs mr
theorem xO {i j:Nat} {x y:Str} {px py pos:Pos} {k:Nat} (hc:X.calm=true) (hN:X.N.Nodup) (hi:X.N[i]?=some x) (hj:X.N[j]?=some y) (lx:Loc X.env.scope x) (ly:Loc X.env.scope y) (hK:X.K=K:=by rfl)
  (fx:X.fn x=true∨X.env.scope.names.lookup x=some .local:=by first | exact .inl rfl | exact .inr rfl) (fy:X.fn y=true∨X.env.scope.names.lookup y=some .local:=by first | exact .inl rfl | exact .inr rfl)
  (hs:(assignEach [.Name x px,.Name y py] X.env).map (·.2)=[assign (.Name x px) X.env,assign (.Name y py) X.env]:=by rfl) (HY:(assignEach [.Name y py] X.env).map (·.2)=[assign (.Name y py) X.env]:=by rfl) (XG:(assignEach [] X.env).map (·.2)=[]:=by rfl)
  (hn:(assignEach [.Name x px,.Name y py] X.env).length=2:=by rfl) (Dx:(assignEach [.Name x px,.Name y py] X.env).findIdx? (·.1)=none:=by rfl) :
  PG X (.Tuple [.Name x px,.Name y py] k pos) (Jd K 2 (uE (j8 i) (uE (j8 j) Jc))):=by
 subst hK
 exact QW hc hN hi hj lx ly fx fy hs HY XG hn Dx
theorem kA {o e:Expr} {es:List Expr} {to:TE} {t:TA} {name:Str} {apos m8:Pos} {T id:String} {r:V→List V→Hp→VK→Prop} (pa:PlainAttrs T) (slot:Slot T name id) (Wd:typeOf (.builtin id)=pure (.type "method_descriptor")) (hm:Ys X id r) (ho:PE X o to) (ha:PA X (e :: es) t) (hK:X.K=K:=by rfl)
  (Jr:attributeBase o name X.env (eval o X.env)=eval o X.env:=by rfl)
  (P4:((backTo m8 (starEach (e :: es) X.env)).all (fun x=>!x.1) && (backToKw m8 (keywordEach [] X.env)).all (fun x=>x.1.isSome)
   && decide ((e :: es).length+([]:List Keyword).length+(if ([]:List Keyword).isEmpty then 0 else 1) < 30))=true:=by rfl)
  (Js:(apos.endLine == m8.line)=true:=by rfl) (hs:starEach (e :: es) X.env=(false,eval e X.env) :: starEach es X.env:=by rfl) (EE:(backTo m8 (starEach es X.env)).any (·.1)=false:=by rfl) :
  PE X (.Call (.Attribute o name apos) (e :: es) [] m8) (Wc K T r to t):=by subst hK;exact Od pa slot Wd hm ho ha Jr P4 Js hs EE
end
end L2
namespace L2
open PySem PySem.Spec PyProof.Rows
section
variable {X:Cx}
def Tv (K:PySem.W.Frag) (neg:Bool):R2:=fun x y H Q=>∃ (a b:Addr) (ys zs:List Int),x=.ref a∧y=.ref b∧aT K H a (ys.map V.int)∧aT K H b (zs.map V.int)∧Q (.bl (if neg then !decide (ys=zs) else decide (ys=zs))) H
theorem KS {pins:List (Addr × Obj)} {σ:St} {H:Hp} {s:Shared} (I:Inv X pins σ H s) {ys zs:List Int} {aq gw:List Value} (r1:av (ys.map V.int) aq) (r2:av (zs.map V.int) gw) {A:Around} (j:Nat) (h1:j < aq.toArray.size) (h2:j < gw.toArray.size) :
  SeqAt.EqAt A s aq.toArray[j] gw.toArray[j] (ys.getD j 0 == zs.getD j 0):=by
 obtain ⟨x,hx,rx⟩:=dg r1 j h1
 obtain ⟨y,hy,ry⟩:=dg r2 j h2
 obtain ⟨u,hu',rfl⟩:=lC hx
 obtain ⟨v,WW,rfl⟩:=lC hy
 have:=vH (A:=A) (s:=s) rx ry rfl rfl
 have e1:ys.getD j 0=u:=by simp [List.getD,hu']
 have e2:zs.getD j 0=v:=by simp [List.getD,WW]
 rw [e1,e2]
 exact this
theorem Cd {ys zs:List Int} (hl:ys.length=zs.length) {n:Nat} (hn:n=ys.length):(List.range n).all (fun j=>ys.getD j 0 == zs.getD j 0)=decide (ys=zs):=by
 subst hn
 by_cases h:ys=zs
 ·subst h
  simp
 ·rw [decide_eq_false h,Bool.eq_false_iff]
  intro Mf
  rw [List.all_eq_true] at Mf
  apply h
  apply List.ext_getElem hl
  intro i g1 g2
  have:=Mf i (List.mem_range.mpr g1)
  simpa [List.getD,g1,g2] using this
theorem QY (hu:X.A.units+16 < cLine):ot X (compareOp .Eq) (Tv X.K false):=by
 intro pins s σ H x y v u Q I rx ry h
 obtain ⟨a,b,ys,zs,rfl,rfl,ha,hb,q⟩:=h
 cases rx
 cases ry
 obtain ⟨aq,r1,p1,_⟩:=I.list ha
 obtain ⟨gw,r2,p2,_⟩:=I.list hb
 have l1:=r1.length
 have l2:=r2.length
 rw [List.length_map] at l1 l2
 by_cases hl:ys.length=zs.length
 ·refine SeqAt.eq_listAt (e:=fun j=>ys.getD j 0 == zs.getD j 0) p1.isList p2.isList (by simp;omega) (by omega) (fun j h1 h2=>KS I r1 r2 j h1 h2) ?_
  rw [Cd hl (by simp;omega)]
  exact ⟨.bl _,H,I,rfl,q⟩
 ·refine SeqAt.eq_list_lengthsAt p1.isList p2.isList (by simp;omega) (by omega) ?_
  have e:decide (ys=zs)=false:=decide_eq_false fun z=>hl (by rw [z])
  rw [e] at q
  exact ⟨.bl false,H,I,rfl,q⟩
theorem Gm (K:PySem.W.Frag) (hu:X.A.units+16 < cLine) (hK:X.K=K:=by rfl):ot X (compareOp .Eq) (Tv K false):=by subst hK;exact QY hu
end
theorem turn_if {i:Nat} {x:V} {σ:St} {H:Hp} {tt:TT} {A B:St→Hp→Prop} (h:tt (σ.set i (some x)) H fun b H4=>if b=true then A (σ.set i (some x)) H4 else B (σ.set i (some x)) H4):j8 i x σ H fun σ3 H3=>tt σ3 H3 fun b H4=>if b=true then A σ3 H4 else B σ3 H4:=h
theorem KU (ns:List Int):ns.map V.int=tabI ns.length fun i=>ns.getD i 0:=by
 apply List.ext_getElem?
 intro j
 by_cases hj:j < ns.length
 ·rw [bS hj,List.getElem?_map]
  simp [hj,List.getD]
 ·rw [List.getElem?_eq_none (by rw [List.length_map];omega),List.getElem?_eq_none (by rw [aL];omega)]
theorem xP {n:Nat} {f:Nat→V} {lo hi:Nat} (h1:lo≤hi) (h2:hi≤n):fh (be n f) (some (lo:Int)) (some (hi:Int))=be (hi - lo) fun i=>f (lo+i):=by
 unfold fh
 rw [HT.mz,HT.mz,aL,Nat.min_eq_left h2,Nat.min_eq_left (by omega)]
 apply List.ext_getElem?
 intro j
 by_cases hj:j < hi - lo
 ·rw [bS hj,List.getElem?_take_of_lt hj,List.getElem?_drop,bS (by omega)]
 ·rw [List.getElem?_eq_none (by rw [List.length_take,List.length_drop,aL];omega),List.getElem?_eq_none (by rw [aL];omega)]
theorem sJ {n:Nat} {f:Nat→V} {hi:Nat} (h2:hi≤n):fh (be n f) none (some (hi:Int))=be hi f:=by
 have:=xP (lo:=0) (f:=f) (Nat.zero_le hi) h2
 have e:fh (be n f) none (some (hi:Int))=fh (be n f) (some ((0:Nat):Int)) (some (hi:Int)):=by
  unfold fh
  rw [HT.mz _ _ hi,HT.xj,HT.mz _ _ 0,Nat.zero_min]
 rw [e,this]
 exact bT fun i _=>by rw [Nat.zero_add]
theorem EN {n:Nat} {f:Nat→V} {lo:Nat} (h2:lo≤n):fh (be n f) (some (lo:Int)) none=be (n - lo) fun i=>f (lo+i):=by
 have:=xP (f:=f) h2 (Nat.le_refl n)
 have e:fh (be n f) (some (lo:Int)) none=fh (be n f) (some (lo:Int)) (some (n:Int)):=by
  unfold fh
  rw [HT.mz,HT.mz,HT.xj,aL,Nat.min_self]
 rw [e,this]
theorem Ms {n m:Nat} {f g:Nat→V}:be n f ++ be m g=be (n+m) fun i=>if i < n then f i else g (i - n):=by
 apply List.ext_getElem?
 intro j
 by_cases hj:j < n+m
 ·rw [bS hj]
  by_cases h:j < n
  ·rw [List.getElem?_append_left (by rw [aL];exact h),bS h,if_pos h]
  ·rw [List.getElem?_append_right (by rw [aL];omega),aL,bS (by omega),if_neg h]
 ·rw [List.getElem?_eq_none (by rw [List.length_append,aL,aL];omega),List.getElem?_eq_none (by rw [aL];omega)]
theorem Hw (n:Nat) (f:Nat→Int) (i:Nat) (h:i < n):((List.range n).map f).getD i 0=f i:=by simp [h]
end L2
namespace L2
open PySem PySem.Spec PyProof.Rows
def Tx (K:PySem.W.Frag) (a:Addr) (xs:List V):It:=⟨fun i H=>aT K H a xs∧i < xs.length,fun i H x H'=>H'=H∧xs.reverse[i]?=some x,fun i _=>xs.length≤i⟩
theorem KW {P:Program} {w:World} {K:PySem.W.Frag} {tg:Expr} (a it:Addr) (xs:List V) :
  Turn P w K tg (Tx K a xs) [it] it (fun i h=>i≤xs.length∧h.IsRevIter it a ((xs.length:Int) - 1 - (i:Int))) where
 mem:=by simp
 obj:=fun i h st b hb=>by
  have e:b=it:=by simpa using hb
  subst e
  obtain ⟨_,o,e,c,d⟩:=st
  exact ⟨o,e,fun v z=>by rw [d] at z;cases z⟩
 keep:=fun i h h' st k=>⟨st.1,st.2.at fun o e=>k it (by simp) o e⟩
 item:=by
  intro X hP hw hK hc i pins s σ H E I hf ⟨Hx,st⟩ ⟨hq,hi⟩
  subst hP hw hK
  obtain ⟨aq,rv,p,hz⟩:=I.list hq
  have hl:=rv.length
  have hx:xs.reverse[i]?=some xs[xs.length - 1 - i]:=by rw [List.getElem?_reverse hi];simp
  have QJ:xs[xs.length - 1 - i]?=some xs[xs.length - 1 - i]:=by simp
  obtain ⟨u,hu,ru⟩:=rv.get QJ
  obtain ⟨f0,f1,f2,f3,f4,f5⟩:=hf it (by simp)
  have e0:(xs.length:Int) - 1 - (i:Int)=((xs.length - 1 - i:Nat):Int):=by omega
  rw [e0] at st
  refine wpAny_pyNext_rev_item st p.isList (x:=u) (by simpa using hu) fun h' uF sb=>?_
  have I1:Inv X pins σ H { s with heap:=h' }:=I.turned (t':=s.toks) (fun b o hb e=>(sb.2 b hb).trans e) f0 f1 f3 f4 f5
  have e1:((xs.length - 1 - i:Nat):Int) - 1=(xs.length:Int) - 1 - ((i+1:Nat):Int):=by omega
  rw [e1] at uF
  obtain ⟨o,e,c,d⟩:=id uF
  exact ⟨u,rfl,GJ (s:={ s with heap:=h' }) e c d (by decide) ⟨_,H,I1,ru,⟨rfl,hx⟩,⟨hi,uF⟩,fun b hb=>(hf b hb).1⟩⟩
 done:=by
  intro X hP hw hK hc i pins s σ H E I hf ⟨Hx,st⟩ hg
  subst hP hw hK
  have hg':xs.length≤i:=hg
  obtain ⟨f0,f1,f2,f3,f4,f5⟩:=hf it (by simp)
  have e0:(xs.length:Int) - 1 - (i:Int)=-1:=by omega
  rw [e0] at st
  exact wpAny_pyNext_rev_end (I.ok.hd hc) st fun h' eb=>⟨rfl,I.turned (t':=s.toks) (fun b o hb e=>eb b o hb e) f0 f1 f3 f4 f5⟩
 self:=fun _ _ _ _ _ st h=>wpAny_pyIter_revIter st.2 h
section
variable {X:Cx} {tg:Expr}
def XH (K:PySem.W.Frag) (ta:TA):TI:=fun σ H R=>ta σ H fun vs H1=>∃ a xs,vs=[.ref a]∧aT K H1 a xs∧R (Tx K a xs) H1
theorem BJ (K:PySem.W.Frag) {e:Expr} {ta:TA} {p pos:Pos} (hg:Gl X "reversed") (hm:X.mg "reversed"=none) (ha:PA X [e] ta) (hK:X.K=K:=by rfl) (hs:starEach [e] X.env=[(false,eval e X.env)]:=by rfl) (mr:(backTo pos (starEach [] X.env)).any (·.1)=false:=by rfl) :
  PI X tg (.Call (.Name "reversed" p) [e] [] pos) (XH K ta):=by
 subst hK
 intro pins s σ H R I h
 refine wpAny_Call_Name_kw (j7 I hg hm boot_reversed ?_ (by decide) (by decide))
 refine PyProof.Rows.callWith_type1 (bV (ha pos pins s σ H _ I h) fun us s1 ⟨vs,H1,I1,r1,q1⟩=>?_) hs mr
 obtain ⟨a,xs,rfl,hx,q⟩:=q1
 obtain ⟨u,rfl,ru⟩:=r1.one
 cases ru
 obtain ⟨aq,rv,p1,_⟩:=I1.list hx
 have hl:=rv.length
 refine call_reversed_list p1.isList ?_
 have hit:(s1.heap.push (revObj a ((aq.toArray.size:Int) - 1))).IsRevIter s1.heap.objs.size a ((aq.toArray.size:Int) - 1):=⟨_,Heap.get?_push_size _ rfl,rfl,by unfold revObj;simp⟩
 refine wpAny_pyIter_revIter hit ?_
 have e0:(aq.toArray.size:Int) - 1=(xs.length:Int) - 1 - ((0:Nat):Int):=by simp;omega
 rw [e0] at hit ⊢
 refine ⟨s1.heap.objs.size,[s1.heap.objs.size],_,_,H1,rfl,I1.kept (t':=s1.toks) fun b o e=>Heap.get?_push_of_some _ e,KW a _ xs,⟨Nat.zero_le _,hit⟩,fun b hb=>?_,q⟩
 have e:b=s1.heap.objs.size:=by simpa using hb
 subst e
 exact I1.A3 (Nat.le_refl _) (I1.bh.fresh (Nat.le_refl _))
end
theorem Mt {K:PySem.W.Frag} {a:Addr} {xs:List V} {g:TG} {tb:TS} {D:Ends} {σ:St} {H:Hp} (Pv:Nat→St→Hp→Prop) (h0:Pv 0 σ H) (hl:∀ i σ H,i≤xs.length→Pv i σ H→aT K H a xs)
  (hs:∀ i x σ H,xs.reverse[i]?=some x→Pv i σ H→g x σ H fun σ2 H2=>tb { D with nx:=Pv (i+1),ct:=Pv (i+1),bk:=D.nx } σ2 H2) (hd:∀ σ H,Pv xs.length σ H→D.nx σ H) :
  ∃ W:Nat→Nat→St→Hp→Prop,(∃ m,W 0 m σ H)∧∀ i m σ H,W i m σ H →
   ((Tx K a xs).stop i H∧D.nx σ H)∨((Tx K a xs).go i H∧∃ N:St→Hp→Prop,(∀ σ' H',N σ' H'→∃ m',m' < m∧W (i+1) m' σ' H')∧∀ x H',(Tx K a xs).L9 i H x H'→g x σ H' fun σ2 H2=>tb { D with nx:=N,ct:=N,bk:=D.nx } σ2 H2):=by
 refine ⟨fun i m σ H=>m=xs.length - i∧i≤xs.length∧Pv i σ H,⟨xs.length,by simp,Nat.zero_le _,h0⟩,?_⟩
 rintro i m σ H ⟨rfl,hi,p⟩
 have q:=hl i σ H hi p
 by_cases jS:i < xs.length
 ·refine .inr ⟨⟨q,jS⟩,Pv (i+1),fun σ' H' p'=>⟨xs.length - (i+1),by omega,rfl,jS,p'⟩,fun x H' y=>?_⟩
  obtain ⟨e,y⟩:=y
  subst e
  exact hs i x σ _ y p
 ·have e:i=xs.length:=by omega
  subst e
  exact .inl ⟨Nat.le_refl _,hd σ H p⟩
section
variable {X:Cx}
end
end L2
namespace L2
open PySem PySem.Spec PyProof.Rows
section
variable {prog:Program} {w:World} {A:Around} {E:Value→Shared→Prop} {s:Shared}
theorem EO {it t:Addr} {i:Nat} {items:Array Value} {x:Value} {Q:Value→Shared→Prop} (hit:s.heap.IsTupleIter it t i) (ht:s.heap.IsTuple t items) (hx:items[i]?=some x)
  (hQ:∀ h',h'.IsTupleIter it t (i+1)→Heap.SameBut it s.heap h'→Q x { s with heap:=h' }):wpAny (model prog w) A (Builtin.SmallTypes.nextOf (.ref it)) Q E s:=by
 obtain ⟨o,ho,hc,hd⟩:=id hit
 obtain ⟨u,hu,_,m,du⟩:=ht
 unfold Builtin.SmallTypes.nextOf
 refine wpAny_bind (wpAny_callSpecial?_slot (name:=Str.ofString "__next__") hit.typeIs F.slot_tuple_iterator_next (wpAny_call_entry F.slot_tuple_iterator_next hit.typeIs F.entry_tuple_iterator_next ?_ (F.args_tuple_iterator_next_1 _)))
 refine (show wpAny _ _ (field (.ref it) 0 >>= _) _ _ s from wpAny_bind (wpAny_field ho hd (x:=.ref t) rfl ?_))
 refine (show wpAny _ _ (if (Value.ref t == Value.none)=true then _ else _) _ _ s from ?_)
 rw [if_neg (by exact Bool.false_ne_true)]
 refine (show wpAny _ _ (field (.ref it) 1 >>= _) _ _ s from wpAny_bind (wpAny_field ho hd (x:=.int i 0) rfl ?_))
 refine (show wpAny _ _ (seqItems? (.ref t) >>= _) _ _ s from wpAny_bind (wpAny_seqItems hu du ?_))
 simp only [hx,Int.toNat_natCast]
 refine wpAny_bind (wpAny_setField ho hd (by simp) (wpAny_pure ⟨x,rfl,wpAny_pure (hQ _ ⟨_,Heap.get?_update_self _ ho (Obj.isFreed_of_fields (Obj.data_mapFields hd _)),(Obj.cls_mapFields ..).trans hc,?_⟩ (Heap.SameBut.update ..))⟩))
 rw [Obj.data_mapFields hd]
 simp [rawInt]
theorem Hy {z TI TO i1 i2 l t:Addr} {k:Nat} {xs ys:Array Value} {x y a b:Value} {Q:Value→Shared→Prop} (D:ZipApart z TI TO i1 i2 l t) (hz:IsZip s.heap z TI TO .none) (sH:IsPair s.heap TI (.ref i1) (.ref i2)) (u6:IsPair s.heap TO a b)
  (h1:s.heap.IsListIter i1 l k) (h2:s.heap.IsTupleIter i2 t k) (hl:s.heap.IsList l xs) (ht:s.heap.IsTuple t ys) (hx:xs[k]?=some x) (hy:ys[k]?=some y)
  (hQ:∀ h',IsZip h' z TI TO (rawInt s.heap.objs.size)→IsPair h' TO x y→h'.IsListIter i1 l (k+1)→h'.IsTupleIter i2 t (k+1)→IsPair h' s.heap.objs.size x y→h'.objs.size=s.heap.objs.size+1 →
   (∀ c o,c≠z→c≠TO→c≠i1→c≠i2→s.heap.get? c=some o→h'.get? c=some o)→Q (.ref s.heap.objs.size) { s with heap:=h' }) :
  wpAny (model prog w) A (Builtin.«zip.__next__» ⟨[.ref z],[]⟩) (fun fin s'=>∃ v,fin=.done (.ret v)∧Q v s') E s:=by
 refine (show wpAny _ _ (field (.ref z) 2 >>= _) _ _ _ from wpAny_bind (wpAny_field hz rfl (x:=.bool false) rfl ?_))
 refine (show wpAny _ _ (field (.ref z) 3 >>= _) _ _ _ from wpAny_bind (wpAny_field hz rfl (x:=.ref TI) rfl (wpAny_bind (wpAny_seqItems sH rfl ?_))))
 refine (show wpAny _ _ (Builtin.SmallTypes.ownedTupleIsFree (.ref z) >>= _) _ _ _ from wpAny_bind ?_)
 unfold Builtin.SmallTypes.ownedTupleIsFree
 refine wpAny_bind (wpAny_field hz rfl (x:=.none) rfl (wpAny_pure ?_))
 rw [if_pos (by rfl)]
 refine wpAny_bind (wpAny_rule (wpAny_bind (wpAny_field hz rfl (x:=.ref TO) rfl (wpAny_bind (wpAny_setField_rec hz (by simp) fun ha XI Hm=>wpAny_bind ?_)))))
 have QZ:IsZip ha z TI TO .ellipsis:=XI
 simp only [List.forIn_cons,List.forIn_nil,List.zipIdx_cons,List.zipIdx_nil]
 refine wpAny_bind (wpAny_bind (wpAny_onRaise (show wpAny _ _ (Builtin.SmallTypes.nextOf (.ref i1) >>= _) _ _ _ from wpAny_bind (wpAny_nextOf_list_item (h1.extBut Hm.extBut D.i1z) (hl.extBut Hm.extBut D.l1z) hx fun hb h1b EG=>wpAny_pure ?_))))
 have to2:IsPair hb TO a b:=EG.extBut _ _ D.TOi1 (Hm.extBut _ _ D.TOz u6)
 refine wpAny_bind (wpAny_seqItems to2 rfl (wpAny_bind (wpAny_updateSeq_pair to2 fun hc to3 KP=>wpAny_bind (wpAny_letGo (wpAny_pure ?_)))))
 have XJ:IsPair hc TO x b:=to3
 refine wpAny_bind (wpAny_bind (wpAny_onRaise (show wpAny _ _ (Builtin.SmallTypes.nextOf (.ref i2) >>= _) _ _ _ from wpAny_bind
  (EO (((h2.extBut Hm.extBut D.i2z).extBut EG.extBut D.i12.symm).extBut KP.extBut D.TOi2.symm) (((ht.extBut Hm.extBut D.l2z).extBut EG.extBut D.l2i1).extBut KP.extBut D.l2TO) hy fun hd h2d iW=>wpAny_pure ?_))))
 have ZD:IsPair hd TO x b:=iW.extBut _ _ D.TOi2 XJ
 refine wpAny_bind (wpAny_seqItems ZD rfl (wpAny_bind (wpAny_updateSeq_pair ZD fun he to5 Tz=>wpAny_bind (wpAny_letGo (wpAny_pure (wpAny_pure ?_))))))
 have T1:IsPair he TO x y:=to5
 refine wpAny_bind (wpAny_seqItems T1 rfl (wpAny_bind (wpAny_newTuple ?_)))
 have Oq:he.objs.size=s.heap.objs.size:=by rw [Tz.1,iW.1,KP.1,EG.1,Hm.1]
 have z5:IsZip he z TI TO .ellipsis:=Tz.extBut _ _ D.TOz.symm (iW.extBut _ _ D.i2z.symm (KP.extBut _ _ D.TOz.symm (EG.extBut _ _ D.i1z.symm QZ)))
 have T2:∀ c o,c≠z→c≠TO→c≠i1→c≠i2→s.heap.get? c=some o→he.get? c=some o:=fun c o n1 n2 n3 n4 e=>Tz.extBut _ _ n2 (iW.extBut _ _ n4 (KP.extBut _ _ n2 (EG.extBut _ _ n3 (Hm.extBut _ _ n1 e))))
 have it1:he.IsListIter i1 l (k+1):=((h1b.extBut KP.extBut D.TOi1.symm).extBut iW.extBut D.i12).extBut Tz.extBut D.TOi1.symm
 have it2:he.IsTupleIter i2 t (k+1):=h2d.extBut Tz.extBut D.TOi2.symm
 have ZE:z < he.objs.size:=Heap.lt_size z5
 refine (show wpAny _ _ (Builtin.SmallTypes.ownedTupleHandOut (.ref z) (.ref he.objs.size) >>= _) _ _ _ from wpAny_bind ?_)
 unfold Builtin.SmallTypes.ownedTupleHandOut
 have z6:IsZip (he.push { cls:=.type "tuple",data:=.seq #[x,y] }) z TI TO .ellipsis:=Heap.get?_push_of_some _ z5
 refine wpAny_bind (wpAny_setField_rec z6 (by simp) fun hf zf XM=>?_)
 have zf':IsZip hf z TI TO (rawInt he.objs.size):=zf
 refine wpAny_setField_rec zf' (by simp) fun hg zg Ru=>?_
 have ZF:IsZip hg z TI TO (rawInt he.objs.size):=zg
 have up:∀ c o,c≠z→he.get? c=some o→hg.get? c=some o:=fun c o n1 e=>Ru.extBut _ _ n1 (XM.extBut _ _ n1 (Heap.get?_push_of_some _ e))
 have Ot:IsPair hg he.objs.size x y:=Ru.extBut _ _ (Nat.ne_of_gt ZE) (XM.extBut _ _ (Nat.ne_of_gt ZE) (Heap.get?_push_size _ rfl))
 have Ou:hg.objs.size=he.objs.size+1:=by rw [Ru.1,XM.1,Heap.size_push]
 rw [Oq] at ZF Ot Ou
 refine wpAny_pure ⟨_,rfl,(show Q (.ref he.objs.size) _ from ?_)⟩
 rw [Oq]
 exact hQ hg ZF (up _ _ D.TOz T1) (it1.at fun o e=>up _ o D.i1z e) (it2.at fun o e=>up _ o D.i2z e) Ot Ou fun c o n1 n2 n3 n4 e=>up c o n1 (T2 c o n1 n2 n3 n4 e)
theorem KY {z TI TO i1 i2 l t:Addr} {k:Nat} {xs:Array Value} {a b:Value} {Q:Fin→Shared→Prop} (hh:A.handled=none) (D:ZipApart z TI TO i1 i2 l t) (hz:IsZip s.heap z TI TO .none) (sH:IsPair s.heap TI (.ref i1) (.ref i2)) (u6:IsPair s.heap TO a b)
  (h1:s.heap.IsListIter i1 l k) (hl:s.heap.IsList l xs) (hx:xs[k]?=none)
  (hE:∀ h' e,(∀ c o,c≠z→c≠TO→c≠i1→c≠i2→s.heap.get? c=some o→h'.get? c=some o)→(∃ o,h'.get? e=some o∧o.cls=.type "StopIteration")→E (.ref e) { s with heap:=h' }) :
  wpAny (model prog w) A (Builtin.«zip.__next__» ⟨[.ref z],[]⟩) Q E s:=by
 refine (show wpAny _ _ (field (.ref z) 2 >>= _) _ _ _ from wpAny_bind (wpAny_field hz rfl (x:=.bool false) rfl ?_))
 refine (show wpAny _ _ (field (.ref z) 3 >>= _) _ _ _ from wpAny_bind (wpAny_field hz rfl (x:=.ref TI) rfl (wpAny_bind (wpAny_seqItems sH rfl ?_))))
 refine (show wpAny _ _ (Builtin.SmallTypes.ownedTupleIsFree (.ref z) >>= _) _ _ _ from wpAny_bind ?_)
 unfold Builtin.SmallTypes.ownedTupleIsFree
 refine wpAny_bind (wpAny_field hz rfl (x:=.none) rfl (wpAny_pure ?_))
 rw [if_pos (by rfl)]
 refine wpAny_bind (wpAny_rule (wpAny_bind (wpAny_field hz rfl (x:=.ref TO) rfl (wpAny_bind (wpAny_setField_rec hz (by simp) fun ha XI Hm=>wpAny_bind ?_)))))
 have QZ:IsZip ha z TI TO .ellipsis:=XI
 simp only [List.forIn_cons,List.forIn_nil,List.zipIdx_cons,List.zipIdx_nil]
 refine wpAny_bind (wpAny_bind (wpAny_onRaise (show wpAny _ _ (Builtin.SmallTypes.nextOf (.ref i1) >>= _) _ _ _ from wpAny_bind (wpAny_nextOf_list_end hh (h1.extBut Hm.extBut D.i1z) (hl.extBut Hm.extBut D.l1z) hx fun hb e EG he=>?_))))
 obtain ⟨oe,XN,ZG⟩:=he
 have z2:IsZip hb z TI TO .ellipsis:=EG _ _ D.i1z.symm QZ
 have hez:e≠z:=fun q=>by subst q;rw [z2] at XN;cases XN;simp at ZG
 exact wpAny_setField_rec z2 (by simp) fun hc _ KP=>hE hc e (fun c o n1 _ n3 _ q=>KP.extBut _ _ n1 (EG _ _ n3 (Hm.extBut _ _ n1 q))) ⟨oe,KP.extBut _ _ hez XN,ZG⟩
theorem vO {z TI TO i1 i2 l t:Addr} {k:Nat} {xs ys:Array Value} {x y a b:Value} {Q:Option Value→Shared→Prop} (D:ZipApart z TI TO i1 i2 l t) (hz:IsZip s.heap z TI TO .none) (sH:IsPair s.heap TI (.ref i1) (.ref i2)) (u6:IsPair s.heap TO a b)
  (h1:s.heap.IsListIter i1 l k) (h2:s.heap.IsTupleIter i2 t k) (hl:s.heap.IsList l xs) (ht:s.heap.IsTuple t ys) (hx:xs[k]?=some x) (hy:ys[k]?=some y)
  (hQ:∀ h',IsZip h' z TI TO (rawInt s.heap.objs.size)→IsPair h' TO x y→h'.IsListIter i1 l (k+1)→h'.IsTupleIter i2 t (k+1)→IsPair h' s.heap.objs.size x y→h'.objs.size=s.heap.objs.size+1 →
   (∀ c o,c≠z→c≠TO→c≠i1→c≠i2→s.heap.get? c=some o→h'.get? c=some o)→Q (some (.ref s.heap.objs.size)) { s with heap:=h' }) :
  wpAny (model prog w) A (pyNext (.ref z)) Q E s:=by
 have hT:s.TypeIs (.ref z) "zip":=⟨_,hz,rfl⟩
 unfold pyNext
 exact wpAny_bind (wpAny_attempt (wpAny_callSpecial?_slot (name:=Str.ofString "__next__") hT F.slot_zip_next (wpAny_call_entry F.slot_zip_next hT F.entry_zip_next
  (Hy D hz sH u6 h1 h2 hl ht hx hy fun h' a1 a2 a3 a4 a5 a6 a7=>wpAny_pure (hQ h' a1 a2 a3 a4 a5 a6 a7)) (F.args_zip_next_1 _))))
theorem wy {z TI TO i1 i2 l t:Addr} {k:Nat} {xs:Array Value} {a b:Value} {Q:Option Value→Shared→Prop} (hh:A.handled=none) (D:ZipApart z TI TO i1 i2 l t) (hz:IsZip s.heap z TI TO .none) (sH:IsPair s.heap TI (.ref i1) (.ref i2)) (u6:IsPair s.heap TO a b)
  (h1:s.heap.IsListIter i1 l k) (hl:s.heap.IsList l xs) (hx:xs[k]?=none)
  (hQ:∀ h',(∀ c o,c≠z→c≠TO→c≠i1→c≠i2→s.heap.get? c=some o→h'.get? c=some o)→Q none { s with heap:=h' }):wpAny (model prog w) A (pyNext (.ref z)) Q E s:=by
 have hT:s.TypeIs (.ref z) "zip":=⟨_,hz,rfl⟩
 unfold pyNext
 refine wpAny_bind (wpAny_attempt (wpAny_callSpecial?_slot (name:=Str.ofString "__next__") hT F.slot_zip_next (wpAny_call_entry F.slot_zip_next hT F.entry_zip_next (KY hh D hz sH u6 h1 hl hx fun h' e hk he=>?_) (F.args_zip_next_1 _))))
 obtain ⟨o,ho,hc⟩:=he
 exact wpAny_bind (wpAny_isInstance (T:="StopIteration") (b:=true) ⟨o,ho,hc⟩ isSubtype_stop (wpAny_pure (hQ _ hk)))
end
abbrev zA (h:Heap) (l:Addr):Heap:=h.push { cls:=.type "list_iterator",data:=.fields #[.ref l,.int 0 0] }
abbrev zB (h:Heap) (l t:Addr):Heap:=(zA h l).push { cls:=.type "tuple_iterator",data:=.fields #[.ref t,.int 0 0] }
abbrev zC (h:Heap) (l t:Addr):Heap:=(zB h l t).push { cls:=.type "tuple",data:=.seq #[.ref h.objs.size,.ref (zA h l).objs.size] }
abbrev zD (h:Heap) (l t:Addr):Heap:=(zC h l t).push { cls:=.type "tuple",data:=.seq #[.none,.none] }
abbrev zE (h:Heap) (l t:Addr):Heap:=(zD h l t).push { cls:=.type "zip",data:=.fields #[.none,.bool false,.bool false,.ref (zB h l t).objs.size,.ref (zC h l t).objs.size] }
theorem ER (l t:Addr) (xs ys:Array Value):Meets (Builtin.«zip.__new__» ⟨[.type "zip",.ref l,.ref t],[]⟩) (fun _ R s=>s.heap.IsList l xs∧s.heap.IsTuple t ys∧R (.ok (.ret (.ref (zD s.heap l t).objs.size))) { s with heap:=zE s.heap l t }) :=
 .of_wp fun prog w A R s h=>by
  obtain ⟨hp,g,d,tk,os⟩:=s
  obtain ⟨hl,ht,h⟩:=h
  have To:=sub_zip
  have e1:Heap.IsList (Shared.heap ⟨hp,g,d,tk,os⟩) l xs:=hl
  have e2:Heap.IsTuple (Shared.heap ⟨hp.push { cls:=.type "list_iterator",data:=.fields #[.ref l,.int 0 0] },g,d,tk,os⟩) t ys:=Heap.IsTuple.push ht _
  wp_walk using wpAny_pyIter_list e1,wpAny_pyIter_tuple e2
  exact ⟨_,rfl,h⟩
section
variable {prog:Program} {w:World} {A:Around} {E:Value→Shared→Prop} {s:Shared}
theorem Hz {l t:Addr} {xs ys:Array Value} {Q:Value→Shared→Prop} (hl:s.heap.IsList l xs) (ht:s.heap.IsTuple t ys)
  (h:∀ h',IsZip h' (s.heap.objs.size+4) (s.heap.objs.size+2) (s.heap.objs.size+3) .none→IsPair h' (s.heap.objs.size+2) (.ref s.heap.objs.size) (.ref (s.heap.objs.size+1))→IsPair h' (s.heap.objs.size+3) .none .none →
   h'.IsListIter s.heap.objs.size l 0→h'.IsTupleIter (s.heap.objs.size+1) t 0→(∀ c o,s.heap.get? c=some o→h'.get? c=some o)→Q (.ref (s.heap.objs.size+4)) { s with heap:=h' }) :
  wpAny (model prog w) A (call (.type "zip") [.ref l,.ref t]) Q E s:=by
 refine callType_new F.called_zip (by decide) (F.typeCall_zip_2 _ _) (F.newCall_zip_2 _ _) (fun obj=>F.args_object_init_3 obj _ _) F.entry_zip_new (ER l t xs ys) ⟨hl,ht,?_⟩
 have s1:(zA s.heap l).objs.size=s.heap.objs.size+1:=Heap.size_push ..
 have s2:(zB s.heap l t).objs.size=s.heap.objs.size+2:=by rw [Heap.size_push,s1]
 have s3:(zC s.heap l t).objs.size=s.heap.objs.size+3:=by rw [Heap.size_push,s2]
 have s4:(zD s.heap l t).objs.size=s.heap.objs.size+4:=by rw [Heap.size_push,s3]
 have up:∀ {g:Heap} {o p:Obj} {c:Addr},g.get? c=some o→(g.push p).get? c=some o:=fun e=>Heap.get?_push_of_some _ e
 have g5:(zE s.heap l t).get? (zD s.heap l t).objs.size=some _:=Heap.get?_push_size _ rfl
 have g4:(zE s.heap l t).get? (zC s.heap l t).objs.size=some _:=up (Heap.get?_push_size _ rfl)
 have g3:(zE s.heap l t).get? (zB s.heap l t).objs.size=some _:=up (up (Heap.get?_push_size _ rfl))
 have g2:(zE s.heap l t).get? (zA s.heap l).objs.size=some _:=up (up (up (Heap.get?_push_size _ rfl)))
 have g1:(zE s.heap l t).get? s.heap.objs.size=some _:=up (up (up (up (Heap.get?_push_size _ rfl))))
 show _∧_
 rw [s2,s3,s4] at g5
 rw [s1,s2] at g3
 rw [s3] at g4
 rw [s1] at g2
 rw [s4]
 exact ⟨⟨_,g5,rfl⟩,h _ g5 g3 g4 ⟨_,g1,rfl,rfl⟩ ⟨_,g2,rfl,rfl⟩ fun c o q=>up (up (up (up (up q))))⟩
end
def Qa (K:PySem.W.Frag) (a b:Addr):It :=
 ⟨fun i H=>∃ xs ys x y,aT K H a xs∧jZ K H b ys∧xs[i]?=some x∧ys[i]?=some y,
  fun i H v H'=>∃ p x y,H p=none∧v=.ref p∧H'=upd H p (.tup [x,y])∧(∀ xs,aT K H a xs→xs[i]?=some x)∧∀ ys,jZ K H b ys→ys[i]?=some y,
  fun i H=>∃ xs,aT K H a xs∧xs.length≤i⟩
theorem IA {P:Program} {w:World} {K:PySem.W.Frag} {elts:List Expr} {x1:Nat} {pos:Pos} {z TI TO i1 i2 l1 l2:Addr} (D:ZipApart z TI TO i1 i2 l1 l2) :
  Turn P w K (.Tuple elts x1 pos) (Qa K l1 l2) [z,TI,TO,i1,i2] z (fun i h=>IsZip h z TI TO .none∧IsPair h TI (.ref i1) (.ref i2)∧(∃ a b,IsPair h TO a b)∧h.IsListIter i1 l1 i∧h.IsTupleIter i2 l2 i) where
 mem:=by simp
 obj:=fun i h st b hb=>by
  obtain ⟨hz,sH,⟨a,b',u6⟩,⟨o1,e1,c1,d1⟩,⟨o2,e2,c2,d2⟩⟩:=st
  simp only [List.mem_cons,List.not_mem_nil,or_false] at hb
  rcases hb with rfl | rfl | rfl | rfl | rfl
  ·exact ⟨_,hz,fun v q=>by cases q⟩
  ·exact ⟨_,sH,fun v q=>by cases q⟩
  ·exact ⟨_,u6,fun v q=>by cases q⟩
  ·exact ⟨_,e1,fun v q=>by rw [d1] at q;cases q⟩
  ·exact ⟨_,e2,fun v q=>by rw [d2] at q;cases q⟩
 keep:=fun i h h' st k=>by
  obtain ⟨hz,sH,⟨a,b',u6⟩,h1,h2⟩:=st
  exact ⟨k z (by simp) _ hz,k TI (by simp) _ sH,⟨a,b',k TO (by simp) _ u6⟩,h1.at fun o e=>k i1 (by simp) o e,h2.at fun o e=>k i2 (by simp) o e⟩
 item:=by
  intro X hP hw hK hc i pins s σ H E I hf st hg
  subst hP hw hK
  obtain ⟨hz,sH,⟨a,b,u6⟩,h1,h2⟩:=st
  obtain ⟨xs,ys,x,y,hx,hy,ex,ey⟩:=hg
  obtain ⟨aq,rv,p,XC⟩:=I.list hx
  obtain ⟨gw,Tr,p2,ZC⟩:=I.tuple hy
  obtain ⟨u,hu,ru⟩:=rv.get ex
  obtain ⟨u2,XD,XE⟩:=Tr.get ey
  refine vO D hz sH u6 h1 h2 p.isList (show s.heap.IsTuple l2 gw.toArray from p2) (x:=u) (y:=u2) (by simpa using hu) (by simpa using XD) fun h' a1 a2 a3 a4 a5 a6 kk=>⟨_,rfl,?_⟩
  refine wpAny_letOwnedTupleGo_zip a1 fun Ts XF Hv=>?_
  have lt:∀ {c o},s.heap.get? c=some o→s.heap.objs.size≠c:=fun e=>Nat.ne_of_gt (Heap.lt_size e)
  have k2:∀ c o,c ∉ [z,TI,TO,i1,i2]→s.heap.get? c=some o→Ts.get? c=some o:=fun c o hc e=>by
   simp only [List.mem_cons,List.not_mem_nil,or_false,not_or] at hc
   exact Hv.extBut _ _ hc.1 (kk c o hc.1 hc.2.2.1 hc.2.2.2.1 hc.2.2.2.2 e)
  have tup:eM X.prog X.w (upd H s.heap.objs.size (.tup [x,y])) Ts s.heap.objs.size (.tup [x,y]) :=
   ⟨by show 2≤sizeLine;decide,[u,u2],.cons ru (.cons XE .nil),⟨_,Hv.extBut _ _ (lt hz) a5,rfl,_,rfl⟩⟩
  have hn:=I.bh.fresh (Nat.le_refl s.heap.objs.size)
  refine ⟨.ref s.heap.objs.size,_,I.Ag (t':=s.toks) k2 hf (Nat.le_refl _) tup,rfl,⟨_,x,y,hn,rfl,rfl,fun zs hq=>by rw [I.uD hq hx];exact ex,fun zs hq=>by rw [I.HW hq hy];exact ey⟩,
   ⟨XF,Hv.extBut _ _ D.TIz (kk _ _ D.TIz D.TITO D.TIi1 D.TIi2 sH),⟨_,_,Hv.extBut _ _ D.TOz a2⟩,a3.extBut Hv.extBut D.i1z,a4.extBut Hv.extBut D.i2z⟩,fun c hc=>?_⟩
  have Gj:c≠s.heap.objs.size:=by
   simp only [List.mem_cons,List.not_mem_nil,or_false] at hc
   obtain ⟨o1,e1,_⟩:=h1
   obtain ⟨o2,e2,_⟩:=h2
   rcases hc with rfl | rfl | rfl | rfl | rfl
   ·exact (lt hz).symm
   ·exact (lt sH).symm
   ·exact (lt u6).symm
   ·exact (lt e1).symm
   ·exact (lt e2).symm
  rw [aE Gj]
  exact (hf c hc).1
 done:=by
  intro X hP hw hK hc i pins s σ H E I hf st hg
  subst hP hw hK
  obtain ⟨hz,sH,⟨a,b,u6⟩,h1,h2⟩:=st
  obtain ⟨xs,hx,he⟩:=hg
  obtain ⟨aq,rv,p,XC⟩:=I.list hx
  have l1':=rv.length
  refine wy (I.ok.hd hc) D hz sH u6 h1 p.isList (by simp;omega) fun h' kk=>⟨rfl,?_⟩
  refine I.Gi (t':=s.toks) (ch:=[z,TI,TO,i1,i2]) (fun c o hc e=>?_) hf
  simp only [List.mem_cons,List.not_mem_nil,or_false,not_or] at hc
  exact kk c o hc.1 hc.2.2.1 hc.2.2.2.1 hc.2.2.2.2 e
 self:=fun _ _ _ _ _ st h=>wpAny_pyIter_zip st.1 h
section
variable {X:Cx}
def T3 (K:PySem.W.Frag) (ta:TA):TI:=fun σ H R=>ta σ H fun vs H1=>∃ a b,vs=[.ref a,.ref b]∧(∃ xs,aT K H1 a xs)∧(∃ ys,jZ K H1 b ys)∧R (Qa K a b) H1
theorem KZ (K:PySem.W.Frag) {e1 e2:Expr} {ta:TA} {p pos A6:Pos} {elts:List Expr} {x1:Nat} (hg:Gl X "zip") (hm:X.mg "zip"=none) (ha:PA X [e1,e2] ta) (hK:X.K=K:=by rfl) (hs:starEach [e1,e2] X.env=(false,eval e1 X.env) :: starEach [e2] X.env:=by rfl) (mr:(backTo pos (starEach [e2] X.env)).any (·.1)=false:=by rfl) :
  PI X (.Tuple elts x1 A6) (.Call (.Name "zip" p) [e1,e2] [] pos) (T3 K ta):=by
 subst hK
 intro pins s σ H R I h
 refine wpAny_Call_Name_kw (j7 I hg hm boot_zip ?_ (by decide) (by decide))
 refine PyProof.Rows.callWith_type1 (bV (ha pos pins s σ H _ I h) fun us s1 ⟨vs,H1,I1,r1,q1⟩=>?_) hs mr
 obtain ⟨a,b,rfl,⟨xs,hx⟩,⟨ys,hy⟩,q⟩:=q1
 obtain ⟨u,v,rfl,ru,rv⟩:=r1.two
 cases ru
 cases rv
 obtain ⟨aq,r1',p1,_⟩:=I1.list hx
 obtain ⟨gw,r2',p2,_⟩:=I1.tuple hy
 have ZH:s1.heap.IsTuple b gw.toArray:=p2
 refine Hz p1.isList ZH fun h' hz sH u6 h1 h2 kk=>?_
 refine wpAny_pyIter_zip hz ?_
 have la:a < s1.heap.objs.size:=by obtain ⟨o,n,ho,_⟩:=p1;exact Heap.lt_size ho
 have lb:b < s1.heap.objs.size:=by obtain ⟨o,ho,_⟩:=ZH;exact Heap.lt_size ho
 have I2:Inv X pins σ H1 { s1 with heap:=h' }:=I1.kept (t':=s1.toks) fun b o e=>kk b o e
 refine ⟨s1.heap.objs.size+4,[s1.heap.objs.size+4,s1.heap.objs.size+2,s1.heap.objs.size+3,s1.heap.objs.size,s1.heap.objs.size+1],_,_,H1,rfl,I2,IA (zipApart_new la lb),⟨hz,sH,⟨_,_,u6⟩,h1,h2⟩,fun c hc=>?_,q⟩
 have hle:s1.heap.objs.size≤c:=by
  simp only [List.mem_cons,List.not_mem_nil,or_false] at hc
  rcases hc with rfl | rfl | rfl | rfl | rfl
  ·exact Nat.le_add_right _ _
  ·exact Nat.le_add_right _ _
  ·exact Nat.le_add_right _ _
  ·exact Nat.le_refl _
  ·exact Nat.le_add_right _ _
 exact I1.A3 (H':=H1) hle (I1.bh.fresh hle)
end
section
variable {K:PySem.W.Frag} {g:TG} {tt:TT} {te:TE} {D:Addr} {σ:St} {H:Hp} {Q:VK}
theorem Mu {a b:Addr} {xs ys:List V} (hlen:xs.length=ys.length) (Pv:Nat→St→Hp→Prop) (h0:Pv 0 σ H) (hl:∀ i σ H,i≤xs.length→Pv i σ H→aT K H a xs∧jZ K H b ys)
  (hs:∀ (i:Nat) (x y:V) (p:Addr) (σ:St) (H:Hp) (N:St→Hp→Prop),(∀ σ H,Pv (i+1) σ H→N σ H)→xs[i]?=some x→ys[i]?=some y→Pv i σ H→H p=none→g (.ref p) σ (upd H p (.tup [x,y])) fun σ3 H3=>tt σ3 H3 fun b H4 =>
   if b=true then te σ3 H4 fun v H5=>∃ ys,H5 D=some (.lst ys)∧ys.length < sizeLine∧N σ3 (upd H5 D (.lst (ys ++ [v]))) else N σ3 H4)
  (hd:∀ σ H,Pv xs.length σ H→Q (.ref D) H):uQ (Qa K a b) g tt te D σ H Q:=by
 refine ⟨fun i m σ H=>m=xs.length - i∧i≤xs.length∧Pv i σ H,⟨xs.length,by simp,Nat.zero_le _,h0⟩,?_⟩
 rintro i m σ' H' ⟨rfl,hi,p⟩
 obtain ⟨q1,q2⟩:=hl i σ' H' hi p
 by_cases jS:i < xs.length
 ·have Qb:i < ys.length:=by omega
  refine .inr ⟨⟨xs,ys,xs[i],ys[i],q1,q2,by simp [jS],by simp [Qb]⟩,fun x H2 y=>?_⟩
  obtain ⟨pp,x1,y1,hn,rfl,rfl,ex,ey⟩:=y
  exact hs i x1 y1 pp σ' _ (fun σ3 H3=>∃ m',m' < xs.length - i∧m'=xs.length - (i+1)∧i+1≤xs.length∧Pv (i+1) σ3 H3) (fun σ3 H3 z=>⟨xs.length - (i+1),by omega,rfl,jS,z⟩) (ex xs q1) (ey ys q2) p hn
 ·have e:i=xs.length:=by omega
  subst e
  exact .inl ⟨⟨xs,q1,Nat.le_refl _⟩,hd σ' H' p⟩
end
end L2
namespace L2
open PySem
structure Qc (K:PySem.W.Frag) (a:Addr) (xs:List V):Prop where
 ex:∃ (o:Obj) (aq:Array Value) (n:Nat),K.lookup a=some o∧o.cls=.type "tuple"∧o.data=.seq aq n∧aq.size≤sizeLine∧av xs aq.toList
theorem Qc.sq {K:PySem.W.Frag} {a:Addr} {xs:List V} (h:Qc K a xs) (H:Hp):jZ K H a xs:=.inr h.ex
end L2
namespace L2
open PySem PySem.Spec PyProof.Rows
section
variable {X:Cx}
end
section
variable {K:PySem.W.Frag} {g:TG} {tt:TT} {te:TE} {D:Addr} {σ:St} {H:Hp} {Q:VK}
theorem Ka {i j:Nat} {x y:V} {p:Addr} {A:St→Hp→Prop} (hp:jZ K H p [x,y]) (h:A ((σ.set i (some x)).set j (some y)) H):Jd K 2 (uE (j8 i) (uE (j8 j) Jc)) (.ref p) σ H A :=
 ⟨p,[x,y],rfl,hp,rfl,x,_,rfl,y,_,rfl,rfl,h⟩
end
end L2
namespace L2
open PySem PySem.Spec PyProof.Rows
section
variable {K:PySem.W.Frag} {g:TG} {tt:TT} {te:TE} {D:Addr} {σ:St} {H:Hp} {Q:VK}
theorem Mv {a b:Addr} {xs ys:List V} {tb:TS} {D:Ends} (hlen:xs.length=ys.length) (Pv:Nat→St→Hp→Prop) (h0:Pv 0 σ H) (hl:∀ i σ H,i≤xs.length→Pv i σ H→aT K H a xs∧aT K H b ys)
  (hs:∀ i x y p σ H,xs[i]?=some x→ys[i]?=some y→Pv i σ H→H p=none→g (.ref p) σ (upd H p (.tup [x,y])) fun σ2 H2=>tb { D with nx:=Pv (i+1),ct:=Pv (i+1),bk:=D.nx } σ2 H2) (hd:∀ σ H,Pv xs.length σ H→D.nx σ H) :
  ∃ W:Nat→Nat→St→Hp→Prop,(∃ m,W 0 m σ H)∧∀ i m σ H,W i m σ H →
   ((QU K a b).stop i H∧D.nx σ H)∨((QU K a b).go i H∧∃ N:St→Hp→Prop,(∀ σ' H',N σ' H'→∃ m',m' < m∧W (i+1) m' σ' H')∧∀ x H',(QU K a b).L9 i H x H'→g x σ H' fun σ2 H2=>tb { D with nx:=N,ct:=N,bk:=D.nx } σ2 H2):=by
 refine ⟨fun i m σ H=>m=xs.length - i∧i≤xs.length∧Pv i σ H,⟨xs.length,by simp,Nat.zero_le _,h0⟩,?_⟩
 rintro i m σ H ⟨rfl,hi,p⟩
 obtain ⟨q1,q2⟩:=hl i σ H hi p
 by_cases jS:i < xs.length
 ·have Qb:i < ys.length:=by omega
  refine .inr ⟨⟨xs,ys,xs[i],ys[i],q1,q2,by simp [jS],by simp [Qb]⟩,Pv (i+1),fun σ' H' p'=>⟨xs.length - (i+1),by omega,rfl,jS,p'⟩,fun x H' y=>?_⟩
  obtain ⟨pp,x1,y1,hn,rfl,rfl,ex,ey⟩:=y
  exact hs i x1 y1 pp σ _ (ex xs q1) (ey ys q2) p hn
 ·have e:i=xs.length:=by omega
  subst e
  exact .inl ⟨⟨xs,ys,q1,q2,.inl (Nat.le_refl _)⟩,hd σ H p⟩
theorem Mw {n:Nat} (hn:n≤1000) {H0:Hp} {σr:St} {b:Nat→Bool} (hD:H0 D=none)
  (ht:∀ (i:Nat) (H:Hp) (N:Bool→Hp→Prop),i < n→aJ H0 H→(∀ H',aJ H H'→N (b i) H')→tt (some (.int (0+(i:Int))) :: σr) H N)
  (he:∀ (i:Nat) (H:Hp) (N:V→Hp→Prop),i < n→N (.int (0+(i:Int))) H→te (some (.int (0+(i:Int))) :: σr) H N)
  (q:∀ H,aJ H0 H→H D=some (.lst (((List.range n).filter b).map fun k=>V.int (k:Nat)))→Q (.ref D) H) :
  uQ (MT 0 n) (j8 0) tt te D (none :: σr) (upd H0 D (.lst [])) Q:=by
 have qt:(2000:Nat)≤sizeLine:=by decide
 refine mK (lo:=0) (n:=n) (fun i σ H'=>∃ v:Option V,σ=v :: σr∧aJ H0 H'∧H' D=some (.lst (((List.range i).filter b).map fun k=>V.int (k:Nat)))) ⟨none,rfl,(aJ.refl _).new hD,aB⟩ ?_ ?_
 ·rintro i σ H' N hN hi ⟨v,rfl,s1,h1⟩
  refine turn_if ?_
  refine ht i H' _ hi s1 fun H2 s2=>?_
  have ef:(List.range (i+1)).filter b=(List.range i).filter b ++ if b i=true then [i] else []:=by
   rw [List.range_succ,List.filter_append]
   congr 1
   by_cases e:b i=true <;> simp [e]
  by_cases e:b i=true
  ·rw [e]
   refine ja (he i H2 _ hi ⟨_,s2 _ _ h1,?_,?_⟩)
   ·rw [List.length_map]
    have:=List.length_filter_le b (List.range i)
    rw [List.length_range] at this
    omega
   ·refine hN _ _ ⟨_,rfl,(s1.trans s2).put hD,?_⟩
    rw [aB,ef,if_pos e,List.map_append]
    simp
  ·have e':b i=false:=by simpa using e
   rw [e']
   refine eS (hN _ _ ⟨_,rfl,s1.trans s2,?_⟩)
   rw [ef,if_neg e,List.append_nil]
   exact s2 _ _ h1
 ·rintro σ H' ⟨v,rfl,s1,h1⟩
  exact q H' s1 h1
theorem Ce (ps:List Nat):(ps.map fun k=>V.int (k:Nat))=tabI ps.length fun q=>((ps.getD q 0:Nat):Int):=by
 apply List.ext_getElem?
 intro j
 by_cases hj:j < ps.length
 ·rw [bS hj,List.getElem?_map]
  simp [hj,List.getD]
 ·rw [List.getElem?_eq_none (by rw [List.length_map];omega),List.getElem?_eq_none (by rw [aL];omega)]
end
section
variable {P:Program} {w:World} {K:PySem.W.Frag} {mg:Str→Option Value} {base:Heap}
end
end L2
namespace L2
open PySem PySem.Spec PyProof.Rows
theorem aJ.tup {K:PySem.W.Frag} {H H':Hp} {a:Addr} {xs:List V} (e:aJ H H') (h:jZ K H a xs):jZ K H' a xs:=by
 rcases h with (h | ⟨o,h⟩) | h
 ·exact .inl (.inl (e _ _ h))
 ·exact .inl (.inr ⟨o,e _ _ h⟩)
 ·exact .inr h
section
variable {prog:Program} {w:World} {A:Around} {E:Value→Shared→Prop} {s:Shared}
end
section
variable {X:Cx}
end
inductive vP (K:PySem.W.Frag) (H:Hp):Nat→V→V→Prop where
 | flat {n:Nat} (x:V):GX x=true→vP K H n x x
 | same {n:Nat} (a:Addr):vP K H n (.ref a) (.ref a)
 | lst {n:Nat} {a b:Addr} {xs ys:List V} (ha:aT K H a xs) (hb:aT K H b ys) (hl:xs.length=ys.length) (h:∀ (j:Nat) (x y:V),xs[j]?=some x→ys[j]?=some y→vP K H n x y):vP K H (n+1) (.ref a) (.ref b)
 | tup {n:Nat} {a b:Addr} {xs ys:List V} (ha:jZ K H a xs) (hb:jZ K H b ys) (hl:xs.length=ys.length) (h:∀ (j:Nat) (x y:V),xs[j]?=some x→ys[j]?=some y→vP K H n x y):vP K H (n+1) (.ref a) (.ref b)
theorem Kb:∀ (x:V),GX x=true→Md x x=true
 | .bH,_=>rfl
 | .bl b,_=>by simp [Md]
 | .int i,_=>by simp [Md]
 | .str z,_=>by simp [Md]
 | .ref _,h=>absurd h (by intro z;cases z)
 | .ty _,h=>absurd h (by intro z;cases z)
section
variable {X:Cx} {pins:List (Addr × Obj)} {σ:St} {H:Hp} {s:Shared}
theorem BK (I:Inv X pins σ H s) {n:Nat} {x y:V} (h:vP X.K H n x y):∀ {A:Around} {u v:Value},A.units+n < cLine→RelV x u→RelV y v→SeqAt.EqAt A s u v true:=by
 induction h with
 | flat x fx=>intro A u v _ ru rv;have:=vH (A:=A) (s:=s) ru rv fx fx;rwa [Kb x fx] at this
 | same a=>intro A u v _ ru rv;cases ru;cases rv;exact SeqAt.EqAt.same _
 | @lst n a b xs ys ha hb hl h ih =>
  intro A u v hu ru rv
  cases ru
  cases rv
  by_cases Oo:a=b
  ·subst Oo
   exact SeqAt.EqAt.same _
  ·obtain ⟨aq,r1,p1,_⟩:=I.list ha
   obtain ⟨gw,r2,p2,_⟩:=I.list hb
   have l1:=r1.length
   have l2:=r2.length
   refine SeqAt.EqAt.of_refs Oo ?_
   have q:=SeqAt.RcAt.lists (A:=A) (s:=s) (e:=fun _=>true) p1.isList p2.isList (by simp;omega) (by omega) fun j h1 h2=>?_
   ·rw [all_true] at q
    exact q
   ·obtain ⟨x,hx,rx⟩:=dg r1 j h1
    obtain ⟨y,hy,ry⟩:=dg r2 j h2
    exact ih j x y hx hy (A:=A.in1) (by show A.units+1+n < cLine;omega) rx ry
 | @tup n a b xs ys ha hb hl h ih =>
  intro A u v hu ru rv
  cases ru
  cases rv
  by_cases Oo:a=b
  ·subst Oo
   exact SeqAt.EqAt.same _
  ·obtain ⟨aq,r1,p1,_⟩:=I.tuple ha
   obtain ⟨gw,r2,p2,_⟩:=I.tuple hb
   have l1:=r1.length
   have l2:=r2.length
   refine SeqAt.EqAt.of_refs Oo ?_
   have q:=SeqAt.RcAt.tuples (A:=A) (s:=s) (e:=fun _=>true) (show s.heap.IsTuple a aq.toArray from p1) (show s.heap.IsTuple b gw.toArray from p2) (by omega) fun j h1 h2=>?_
   ·rw [all_true,Bool.true_and,show (aq.toArray.size == gw.toArray.size)=true by simp;omega] at q
    exact q
   ·obtain ⟨x,hx,rx⟩:=dg r1 j h1
    obtain ⟨y,hy,ry⟩:=dg r2 j h2
    exact ih j x y hx hy (A:=A.in1) (by show A.units+1+n < cLine;omega) rx ry
end
section
variable {X:Cx}
def XO (K:PySem.W.Frag) (neg:Bool):R2:=fun x y H Q=>∃ a b xs ys,x=.ref a∧y=.ref b∧aT K H a xs∧aT K H b ys ∧
 ((xs.length=ys.length∧(∀ (j:Nat) (u v:V),xs[j]?=some u→ys[j]?=some v→vP K H 8 u v)∧Q (.bl (!neg)) H)∨(xs.length≠ys.length∧Q (.bl neg) H))
theorem nC (K:PySem.W.Frag) (hu:X.A.units+16 < cLine) (hK:X.K=K:=by rfl):ot X (compareOp .NotEq) (XO K true):=by
 subst hK
 intro pins s σ H x y v u Q I rx ry h
 obtain ⟨a,b,xs,ys,rfl,rfl,ha,hb,h⟩:=h
 cases rx
 cases ry
 obtain ⟨aq,r1,p1,_⟩:=I.list ha
 obtain ⟨gw,r2,p2,_⟩:=I.list hb
 have l1:=r1.length
 have l2:=r2.length
 rcases h with ⟨hl,he,q⟩ | ⟨hl,q⟩
 ·refine PySem.EqBoolInt.of_rcne (SeqAt.RcNeAt.lists (e:=fun _=>true) p1.isList p2.isList (by simp;omega) (by omega) fun j h1 h2=>?_) ?_
  ·obtain ⟨x,hx,rx⟩:=dg r1 j h1
   obtain ⟨y,hy,ry⟩:=dg r2 j h2
   exact BK I (he j x y hx hy) (A:=X.A.in1) (by show X.A.units+1+8 < cLine;omega) rx ry
  ·rw [all_true]
   exact ⟨.bl false,H,I,rfl,q⟩
 ·refine PySem.EqBoolInt.of_rcne (SeqAt.RcNeAt.lists_lengths p1.isList p2.isList (by simp;omega) (by omega)) ?_
  exact ⟨.bl true,H,I,rfl,q⟩
end
section
variable {K:PySem.W.Frag} {g:TG} {tt:TT} {te:TE} {D:Addr} {σ:St} {H:Hp} {Q:VK}
end
end L2
namespace L2
open PySem PySem.Spec PyProof.Rows
section
variable {X:Cx}
def XQ (K:PySem.W.Frag):R2:=fun x y H Q=>∃ a b xs ys,x=.ref a∧y=.ref b∧jZ K H a xs∧jZ K H b ys ∧
 (∀ (j:Nat) (u v:V),xs[j]?=some u→ys[j]?=some v→vP K H 8 u v)∧Q (.bl (decide (xs.length=ys.length))) H
theorem Gn (K:PySem.W.Frag) (hu:X.A.units+16 < cLine) (hK:X.K=K:=by rfl):ot X (compareOp .Eq) (XQ K):=by
 subst hK
 intro pins s σ H x y v u Q I rx ry h
 obtain ⟨a,b,xs,ys,rfl,rfl,ha,hb,he,q⟩:=h
 cases rx
 cases ry
 obtain ⟨aq,r1,p1,_⟩:=I.tuple ha
 obtain ⟨gw,r2,p2,_⟩:=I.tuple hb
 have l1:=r1.length
 have l2:=r2.length
 refine SeqAt.eq_tupleAt (e:=fun _=>true) (show s.heap.IsTuple a aq.toArray from p1) (show s.heap.IsTuple b gw.toArray from p2) (by omega) (fun j h1 h2=>?_) ?_
 ·obtain ⟨x,hx,rx⟩:=dg r1 j h1
  obtain ⟨y,hy,ry⟩:=dg r2 j h2
  exact BK I (he j x y hx hy) (A:=X.A.in1) (by show X.A.units+1+8 < cLine;omega) rx ry
 ·rw [all_true,Bool.true_and]
  have e:(aq.toArray.size == gw.toArray.size)=decide (xs.length=ys.length):=by rw [l1,l2,List.size_toArray,List.size_toArray,Bool.eq_iff_iff];simp
  rw [e]
  exact ⟨.bl _,H,I,rfl,q⟩
end
end L2
namespace L2
open PySem PySem.Spec PyProof.Rows
end L2
namespace L2
open PySem PySem.Spec PyProof.Rows
section
variable (P:Program) (w:World)
end
section
variable {P:Program} {w:World} {H H':Hp} {h h':Heap} {a:Addr} {o:HO}
end
section
variable {P:Program} {w:World} {H:Hp} {h h':Heap} {x e:Addr} {o':HO}
end
section
variable {fs OV ex ex':List Addr} {H H1 H2:Hp} {h h1 h2 h':Heap} {a x e:Addr} {o:HO}
end
end L2
namespace L2
open PySem PySem.Spec PyProof.Rows
section
variable {X:Cx} {pins:List (Addr × Obj)} {σ:List (Option V)} {H H':Hp} {s:Shared} {h':Heap}
end
end L2
namespace L2
open PySem PySem.Spec PyProof.Rows
section
variable {X:Cx}
variable {a b:Expr} {ta tb:TE} {pos:Pos}
variable {tA SY:TT} {rest:List Expr}
end
end L2
namespace L2
open PySem PySem.Spec PyProof.Rows
section
variable {X:Cx} {pins:List (Addr × Obj)} {σ:St} {H:Hp} {s:Shared} {a:Addr} {xs ys:List V}
end
section
variable {X:Cx} {pins:List (Addr × Obj)} {σ:St} {H:Hp} {s:Shared} {E:Value→Shared→Prop}
end
section
variable {X:Cx} {st:Stmt} {rest:List Stmt} {t u:TS} {e:Expr} {te:TE} {pos:Pos}
end
section
variable {X:Cx} {pos:Pos}
end
section
variable {X:Cx} {pos:Pos}
end
end L2
namespace L2
open PySem PySem.Spec PyProof.Rows
section
variable {X:Cx} {tg:Expr}
end
end L2
namespace L2
open PySem PySem.Spec PyProof.Rows
section
variable {X:Cx} {a b c:Expr} {ta tb tc:TE} {pos:Pos}
end
section
variable {X:Cx} {a b c:Expr} {ta tb tc:TE} {pos:Pos}
end
end L2
namespace L2
open PySem PySem.Spec PyProof.Rows
section
variable {prog:Program} {w:World} {A:Around} {E:Value→Shared→Prop} {s:Shared} {K:PySem.W.Frag} {x dx C f:Addr} {mA:Str→Option Value} {name:Str} {v:Value}
end
section
variable {P:Program} {w:World} {H H':Hp} {h h':Heap} {a C dx:Addr} {fs OV:List (Str × V)}
end
section
variable {X:Cx} {pins:List (Addr × Obj)} {σ:St} {H:Hp} {s:Shared} {a C dx:Addr} {fs:List (Str × V)} {f:Str} {v:V} {A:Around} {E:Value→Shared→Prop}
end
section
variable {X:Cx} {o e value:Expr} {f:Str} {pos pos' A6:Pos} {ta tv:TE}
end
section
variable {X:Cx} {pins:List (Addr × Obj)} {σ:St} {H:Hp} {s:Shared} {A:Around} {E:Value→Shared→Prop} {Q:Value→Shared→Prop} {c:Value} {b:Bool}
end
end L2
namespace L2
open PySem PySem.Spec PyProof.Rows
section
variable {X:Cx} {e:Expr} {es:List Expr} {te:TE} {t:TA} {pos:Pos}
end
section
variable {X:Cx} {pins:List (Addr × Obj)} {σ:St} {H:Hp} {s s':Shared}
end
section
variable {X:Cx} {CX:A7} {k:Nat} {f C:Addr} {fd:FuncData} {ps:List Str} {sp:Sp} {uL:List V} {ds:List Value} {E:XK} {x m:Str} {p pos apos:Pos} {e o:Expr} {es:List Expr} {ta:TE} {t:TA}
end
section
variable {X:Cx} {CX:A7} {k:Nat} {f C:Addr} {fd:FuncData} {ps ks:List Str} {sp:Sp} {E:XK} {x m:Str} {p pos apos WZ:Pos} {e o:Expr} {es:List Expr} {kws:List Keyword} {te ta:TE} {t tk:TA} {nm:Option Str}
variable {g:List Value→List Value→List Value} {gV:List V→List V→List V}
end
end L2
namespace L2
open PySem PySem.Spec PyProof.Rows
section
variable {X:Cx} {x:Str} {p pos:Pos} {e:Expr} {es:List Expr} {t:TA} {id T:String} {r:List V→Hp→VK→Prop}
end
end L2
namespace L2
open PySem PySem.Spec PyProof.Rows
section
variable {κ:Type} [DecidableEq κ]
end
section
variable {P:Program} {w:World} {H:Hp} {h:Heap} {a:Addr}
end
section
variable {X:Cx} {pins:List (Addr × Obj)} {σ:St} {H:Hp} {s:Shared} {a:Addr} {y v:V} {u r:Value} {o:Option V} {A:Around} {E:Value→Shared→Prop}
end
section
variable {X:Cx} {pins:List (Addr × Obj)} {σ:St} {H:Hp} {s:Shared} {a:Addr} {mG:List (Key × V)} {k:Key} {u:Value} {A:Around} {E:Value→Shared→Prop}
end
section
variable {X:Cx} {o i e value:Expr} {pos pos' A6:Pos} {td ty tv:TE}
end
section
variable {X:Cx} {pos:Pos}
end
section
variable {X:Cx} {pins:List (Addr × Obj)} {σ:St} {H:Hp} {s:Shared} {a:Addr} {y d:V} {u r:Value} {o:Option V} {A:Around} {E:Value→Shared→Prop}
end
section
variable {X:Cx} {o e f:Expr} {apos m8:Pos} {td ty tx:TE}
end
section
variable {X:Cx} {pins:List (Addr × Obj)} {σ:St} {H:Hp} {s:Shared} {a:Addr} {mG:List (Key × V)} {A:Around} {E:Value→Shared→Prop}
end
section
variable {X:Cx} {pins:List (Addr × Obj)} {σ:St} {H:Hp} {s:Shared} {a:Addr} {y:V} {u:Value} {A:Around} {E:Value→Shared→Prop}
end
end L2
namespace Att
open PySem PySem.W PySem.Calls PyProof.Rows
section
variable {prog:Program} {w:World} {A:Around} {E:Value→Shared→Prop} {s:Shared} {K:Frag}
end
end Att
namespace L2
open PySem PySem.Spec PyProof.Rows
end L2
namespace L2
open PySem PySem.Spec PyProof.Rows
end L2
namespace L2
open PySem PySem.Spec PyProof.Rows
section
variable {P:Program} {w:World} {K:PySem.W.Frag} {mg:Str→Option Value} {base:Heap}
end
section
variable {X:Cx}
end
section
variable {κ:Type} [DecidableEq κ]
end
end L2
namespace L2
open PySem PySem.Spec PyProof.Rows
section
variable {X:Cx}
end
section
variable {g:TG} {tt:TT} {te:TE} {D:Addr} {σ:St} {H:Hp} {Q:VK}
end
end L2
namespace L2
open PySem PySem.Spec PyProof.Rows
section
variable {X:Cx}
end
section
variable {g:TG} {tt:TT} {te:TE} {D:Addr} {σ:St} {H:Hp} {Q:VK}
end
section
variable {X:Cx} {o e value:Expr} {f:Str} {pos pos':Pos} {ta tv:TE}
theorem ah (K:PySem.W.Frag) (he:PE X e ta) (hb:attributeBase e f X.env (eval e X.env)=eval e X.env) (hK:X.K=K:=by rfl):PE X (.Attribute e f pos) (D6 K ta f):=by subst hK;exact Pr he hb
theorem bX (K:PySem.W.Frag) (ha:PE X o ta) (hv:PE X value tv) (hs:swapsWith value (some (.Attribute o f pos')) pos.line X.env=pure false) (hK:X.K=K:=by rfl):PS X (.Assign [.Attribute o f pos'] value pos) (Jl K ta tv f):=by subst hK;exact Pt ha hv hs
end
end L2
namespace L2
open PySem PySem.Spec PyProof.Rows
section
variable {X:Cx}
end
structure T4 (X:Cx) (e:Expr) (t:TE):Prop where
 out:PE X e t
structure Qd (X:Cx) (es:List Expr) (t:TA):Prop where
 out:PA X es t
section
variable {X:Cx} {te:TE} {t:TA} {es Vq:List Expr}
theorem Kc {x1:Nat} {p1:Pos} {env:Env}:starEach (.Tuple Vq x1 p1 :: es) env=(false,eval (.Tuple Vq x1 p1) env) :: starEach es env:=rfl
theorem Kd {c:Const} {k1:Nat} {p1:Pos} {env:Env}:starEach (.Constant c k1 p1 :: es) env=(false,eval (.Constant c k1 p1) env) :: starEach es env:=rfl
theorem Ov {i:Int} {j:Nat} {pos:Pos}:T4 X (.Constant (.int i) j pos) (tC (.int i)):=⟨aF⟩
theorem XR {e:Expr} (h:PE X e te):T4 X e te:=⟨h⟩
theorem Ow {x1:Nat} {pos:Pos} (h:Qd X es t):T4 X (.Tuple es x1 pos) (Jm t):=⟨eQ h.out⟩
theorem Ke:Qd X [] zL:=⟨aD⟩
theorem Gp {x1:Nat} {p1:Pos} (ha:T4 X (.Tuple Vq x1 p1) te) (hr:Qd X es t):Qd X (.Tuple Vq x1 p1 :: es) (pJ te t):=⟨aA ha.out hr.out Kc⟩
theorem BL {c:Const} {k1:Nat} {p1:Pos} (ha:T4 X (.Constant c k1 p1) te) (hr:Qd X es t):Qd X (.Constant c k1 p1 :: es) (pJ te t):=⟨aA ha.out hr.out Kd⟩
end
end L2
namespace L2
open PySem PySem.Spec PyProof.Rows
section
variable {prog:Program} {w:World} {A:Around} {E:Value→Shared→Prop} {s:Shared}
end
section
variable {prog:Program} {w:World} {A:Around} {E:Value→Shared→Prop} {s:Shared}
end
section
variable {X:Cx}
end
section
variable {K:PySem.W.Frag} {g:TG} {σ:St} {H:Hp}
end
section
variable {X:Cx}
def T5 (K:PySem.W.Frag):R2:=fun x y H Q=>∃ a b xs ys,x=.ref a∧y=.ref b∧jZ K H a xs∧jZ K H b ys ∧
 (∀ (j:Nat) (u v:V),xs[j]?=some u→ys[j]?=some v→vP K H 8 u v)∧Q (.bl (!decide (xs.length=ys.length))) H
theorem Mx (K:PySem.W.Frag) (hu:X.A.units+16 < cLine) (hK:X.K=K:=by rfl):ot X (compareOp .NotEq) (T5 K):=by
 subst hK
 intro pins s σ H x y v u Q I rx ry h
 obtain ⟨a,b,xs,ys,rfl,rfl,ha,hb,he,q⟩:=h
 cases rx
 cases ry
 obtain ⟨aq,r1,p1,_⟩:=I.tuple ha
 obtain ⟨gw,r2,p2,_⟩:=I.tuple hb
 have l1:=r1.length
 have l2:=r2.length
 refine PySem.EqBoolInt.of_rcne (SeqAt.RcNeAt.tuples (e:=fun _=>true) (show s.heap.IsTuple a aq.toArray from p1) (show s.heap.IsTuple b gw.toArray from p2) (by omega) fun j h1 h2=>?_) ?_
 ·obtain ⟨x,hx,rx⟩:=dg r1 j h1
  obtain ⟨y,hy,ry⟩:=dg r2 j h2
  exact BK I (he j x y hx hy) (A:=X.A.in1) (by show X.A.units+1+8 < cLine;omega) rx ry
 ·rw [all_true,Bool.true_and]
  have e:(aq.toArray.size == gw.toArray.size)=decide (xs.length=ys.length):=by rw [l1,l2,List.size_toArray,List.size_toArray,Bool.eq_iff_iff];simp
  rw [e]
  exact ⟨.bl _,H,I,rfl,q⟩
end
end L2
namespace L2
open PySem PySem.Spec PyProof.Rows
section
variable {X:Cx} {pins:List (Addr × Obj)} {σ:St} {H:Hp} {s:Shared}
end
section
variable {X:Cx}
end
end L2
namespace L2
open PySem PySem.Spec PyProof.Rows
section
variable {prog:Program} {w:World} {A:Around} {E:Value→Shared→Prop} {s:Shared}
end
end L2
namespace L2
open PySem PySem.Spec PyProof.Rows
section
variable {X:Cx} {pins:List (Addr × Obj)} {σ:St} {H:Hp} {s:Shared} {a:Addr} {xs:SX} {A:Around} {E:Value→Shared→Prop}
end
section
variable {X:Cx}
variable {o i value:Expr} {pos pos':Pos} {td ty tv:TE}
end
end L2
namespace L2
open PySem PySem.Spec PyProof.Rows
section
variable {prog:Program} {w:World} {A:Around} {E:Value→Shared→Prop} {s:Shared} {d:Addr} {es:Array DictEntry} {ep:Nat}
end
section
variable {prog:Program} {w:World} {A:Around} {E:Value→Shared→Prop} {s:Shared} {d:Addr} {es:Array DictEntry} {ep:Nat}
end
section
variable {X:Cx}
end
end L2
namespace L2
open PySem PySem.Spec PyProof.Rows
section
variable {prog:Program} {w:World} {A:Around} {h0:Heap} {d it l:Addr} {L:List RQ}
end
section
variable {X:Cx} {pins:List (Addr × Obj)} {σ:St} {H:Hp} {s:Shared}
end
end L2
namespace L2
open PySem PySem.Spec PyProof.Rows
section
variable {X:Cx} {pins:List (Addr × Obj)} {σ:St} {H:Hp} {s:Shared}
end
section
variable {X:Cx}
end
end L2
namespace L2
open PySem PySem.Spec PyProof.Rows
end L2
namespace L2
open PySem PySem.Spec PyProof.Rows
def T6 (K:PySem.W.Frag):R2:=fun x y H Q=>WU x y H Q∨T5 K x y H Q
theorem Qe {X:Cx} (K:PySem.W.Frag) (hu:X.A.units+16 < cLine) (hK:X.K=K:=by rfl):ot X (compareOp .NotEq) (T6 K):=by
 intro pins s σ H x y v u Q I rx ry h
 rcases h with h | h
 ·exact uH pins s σ H x y v u Q I rx ry h
 ·exact Mx K hu hK pins s σ H x y v u Q I rx ry h
end L2
namespace My
def P (a k:Int):Int:=a ^ k.toNat % 97
theorem T7 (a k:Int):0≤P a k:=Int.emod_nonneg _ (by decide)
theorem Qf (a k:Int):P a k < 97:=Int.emod_lt_of_pos _ (by decide)
theorem T8:∀ n < 97,0 < n→n ^ 95 % 97 * n % 97=1∧0 < n ^ 95 % 97:=by decide
theorem Ox {a:Int} (h0:0 < a) (h1:a < 97):P a 95 * a % 97=1:=by
 obtain ⟨n,rfl⟩:∃ n:Nat,a=n:=⟨a.toNat,by omega⟩
 have h:=(T8 n (by omega) (by omega)).1
 show ((n:Int) ^ 95 % 97) * n % 97=1
 have:(((n ^ 95 % 97 * n % 97:Nat)):Int)=1:=by rw [h];rfl
 rw [← this];norm_cast
theorem IB {a:Int} (h0:0 < a) (h1:a < 97):0 < P a 95:=by
 obtain ⟨n,rfl⟩:∃ n:Nat,a=n:=⟨a.toNat,by omega⟩
 have h:=(T8 n (by omega) (by omega)).2
 show 0 < ((n:Int) ^ 95 % 97)
 have:(0:Int) < ((n ^ 95 % 97:Nat):Int):=by omega
 simpa using this
theorem Cf (x:Int) (n:Nat):(x % 97) ^ n % 97=x ^ n % 97:=by
 induction n with
 | zero=>simp
 | succ n ih=>rw [Int.pow_succ,Int.pow_succ,Int.mul_emod,ih,Int.emod_emod_of_dvd _ (Int.dvd_refl _),← Int.mul_emod]
theorem sq (q:Int):q ^ 2=q * q:=by rw [Int.pow_succ,Int.pow_succ];simp
theorem IC {p q a:Int} {l k:Int} (hl:0 < l) (ho:l % 2=1) (h:p * q ^ l.toNat % 97=P a k):(p * q % 97) * (q * q % 97) ^ (l / 2).toNat % 97=P a k:=by
 rw [← h]
 have e:l.toNat=2 * (l / 2).toNat+1:=by omega
 rw [e,Int.pow_succ,Int.pow_mul]
 rw [Int.mul_emod,Int.emod_emod_of_dvd _ (Int.dvd_refl _)]
 have e2:(q * q % 97) ^ (l / 2).toNat % 97=(q ^ 2) ^ (l / 2).toNat % 97:=by
  rw [sq]
  exact Cf _ _
 rw [e2,← Int.mul_emod]
 congr 1
 rw [Int.mul_assoc,Int.mul_comm q]
theorem ET {p q a:Int} {l k:Int} (hl:0 < l) (ho:l % 2≠1) (h:p * q ^ l.toNat % 97=P a k):p * (q * q % 97) ^ (l / 2).toNat % 97=P a k:=by
 rw [← h]
 have e:l.toNat=2 * (l / 2).toNat:=by omega
 rw [e,Int.pow_mul,Int.mul_emod]
 have e2:(q * q % 97) ^ (l / 2).toNat % 97=(q ^ 2) ^ (l / 2).toNat % 97:=by
  rw [sq]
  exact Cf _ _
 rw [e2,← Int.mul_emod]
theorem Cg {a k:Int}:(1:Int) * a ^ k.toNat % 97=P a k:=by rw [Int.one_mul];rfl
theorem ID {p q a k l:Int} (hl:l≤0) (p0:0≤p) (p1:p < 97) (h:p * q ^ l.toNat % 97=P a k):p=P a k:=by
 have e:l.toNat=0:=by omega
 rw [← h,e,Int.pow_zero,Int.mul_one];omega
end My
namespace My
def IE (a:Nat):Nat:=((List.range 96).find? fun s=>5 ^ s % 97 == a).getD 0
theorem x4:∀ a < 97,0 < a→IE a < 96∧5 ^ IE a % 97=a:=by decide +kernel
theorem Mz:∀ s < 96,IE (5 ^ s % 97)=s:=by decide +kernel
theorem EU (a:Nat) (ha:a < 97) (h0:0 < a) (s:Nat) (hs:s < IE a):5 ^ s % 97≠a:=by
 intro h
 have h1:=Mz s (by have:=(x4 a ha h0).1;omega)
 rw [h] at h1;omega
def ex (a:Int):Int:=IE a.toNat
theorem Kf (a:Int):0≤ex a:=Int.natCast_nonneg _
theorem T9 {a:Int} (h0:0 < a) (h1:a < 97):ex a≤95:=by
 have:=(x4 a.toNat (by omega) (by omega)).1
 unfold ex;omega
def up (k:Int):Int:=5 ^ k.toNat % 97
theorem UA {a:Int} (h0:0 < a) (h1:a < 97):up (ex a)=a:=by
 have h:=(x4 a.toNat (by omega) (by omega)).2
 unfold up ex
 rw [Int.toNat_natCast]
 have:((5 ^ IE a.toNat % 97:Nat):Int)=(a.toNat:Int):=by rw [h]
 rw [show a=(a.toNat:Int) by omega,Int.toNat_natCast,← this];norm_cast
theorem UB {a s:Int} (h0:0 < a) (h1:a < 97) (hs:0≤s) (hl:s < ex a):up s≠a:=by
 intro h
 have:=EU a.toNat (by omega) (by omega) s.toNat (by unfold ex at hl;omega)
 apply this
 unfold up at h
 have h2:((5 ^ s.toNat % 97:Nat):Int)=a:=by rw [← h];norm_cast
 omega
theorem Qg {a b:Int} (h0:0 < a) (h1:a < 97) (g0:0 < b) (g1:b < 97):0 < a * b % 97:=by
 have h:∀ a < 97,0 < a→∀ b < 97,0 < b→0 < (a * b % 97:Nat):=by decide +kernel
 have q:=h a.toNat (by omega) (by omega) b.toNat (by omega) (by omega)
 have:a * b=((a.toNat * b.toNat:Nat):Int):=by
  rw [Int.natCast_mul,Int.toNat_of_nonneg (by omega),Int.toNat_of_nonneg (by omega)]
 rw [this];omega
theorem M0 {s r:Int} (hs:0≤s) (h:r=up s):r * 5 % 97=up (s+1):=by
 subst h
 unfold up
 have e:(s+1).toNat=s.toNat+1:=by omega
 rw [e,Int.pow_succ,Int.mul_emod,Int.emod_emod_of_dvd _ (Int.dvd_refl _),← Int.mul_emod]
theorem M1:up 0=1:=by decide
end My
namespace My
def sumTo:Nat→(Nat→Int)→Int
 | 0,_=>0
 | n+1,f=>sumTo n f+f n
theorem a9 {f g:Nat→Int}:∀ (n:Nat),(∀ j,j < n→f j=g j)→sumTo n f=sumTo n g
 | 0,_=>rfl
 | n+1,h=>by rw [sumTo,sumTo,a9 n fun j hj=>h j (by omega),h n (by omega)]
theorem fR (c d:Int) (f g:Nat→Int):∀ (n:Nat),sumTo n (fun j=>c * f j+d * g j)=c * sumTo n f+d * sumTo n g
 | 0=>by simp [sumTo]
 | n+1=>by rw [sumTo,sumTo,sumTo,fR c d f g n];grind
theorem vQ (c:Int) (f:Nat→Int) (n:Nat):sumTo n (fun j=>c * f j)=c * sumTo n f:=by
 have h:=fR c 0 f f n
 have e:sumTo n (fun j=>c * f j)=sumTo n (fun j=>c * f j+0 * f j):=a9 n fun j _=>by grind
 rw [e,h];grind
theorem x6 (f:Nat→Int):∀ (n:Nat),sumTo (n+1) f=f 0+sumTo n (fun j=>f (j+1))
 | 0=>by simp [sumTo]
 | n+1=>by rw [sumTo,x6 f n,sumTo];omega
theorem sL {f:Nat→Int}:∀ (n:Nat),(∀ j,j < n→f j=0)→sumTo n f=0
 | 0,_=>rfl
 | n+1,h=>by rw [sumTo,sL n fun j hj=>h j (by omega),h n (by omega)];rfl
theorem Ah {f:Nat→Int} (p:Nat):∀ (n:Nat),p < n→(∀ j,j < n→j≠p→f j=0)→sumTo n f=f p
 | 0,h,_=>by omega
 | n+1,h,hz=>by
  rw [sumTo]
  by_cases e:p=n
  ·subst e;rw [sL p fun j hj=>hz j (by omega) (by omega)];omega
  ·rw [Ah p n (by omega) fun j hj hn=>hz j (by omega) hn,hz n (by omega) (by omega)];omega
theorem vR {f:Nat→Int} (p q:Nat):∀ (n:Nat),p < q→q < n→(∀ j,j < n→j≠p→j≠q→f j=0)→sumTo n f=f p+f q
 | 0,_,h,_=>by omega
 | n+1,M2,h,hz=>by
  rw [sumTo]
  by_cases e:q=n
  ·subst e;rw [Ah p q M2 fun j hj hn=>hz j (by omega) hn (by omega)]
  ·rw [vR p q n M2 (by omega) fun j hj hn hm=>hz j (by omega) hn hm,hz n (by omega) (by omega) (by omega)];omega
theorem mL {f:Nat→Int}:∀ (n:Nat),(∀ j,j < n→(97:Int) ∣ f j)→(97:Int) ∣ sumTo n f
 | 0,_=>⟨0,by simp [sumTo]⟩
 | n+1,h=>by rw [sumTo];exact Int.dvd_add (mL n fun j hj=>h j (by omega)) (h n (by omega))
def ip (n:Nat) (r z:Nat→Int):Int:=sumTo n fun j=>r j * z j
theorem Kg (n:Nat) (c d:Int) (r s z:Nat→Int):ip n (fun j=>c * r j+d * s j) z=c * ip n r z+d * ip n s z:=by
 unfold ip
 rw [← fR]
 exact a9 n fun j _=>by grind
theorem Ci {n:Nat} {r s z:Nat→Int} (h:∀ j,j < n→(97:Int) ∣ r j - s j):(97:Int) ∣ ip n r z - ip n s z:=by
 have e:ip n r z - ip n s z=sumTo n fun j=>(r j - s j) * z j:=by
  have:=fR 1 (-1) (fun j=>r j * z j) (fun j=>s j * z j) n
  unfold ip
  rw [show sumTo n (fun j=>(r j - s j) * z j)=sumTo n (fun j=>1 * (r j * z j)+-1 * (s j * z j)) from a9 n fun j _=>by grind,this];omega
 rw [e]
 exact mL n fun j hj=>Int.dvd_trans (h j hj) (Int.dvd_mul_right _ _)
abbrev qw:=Nat→Nat→Int
def sO (m n:Nat) (a:qw) (z:Nat→Int):Prop:=∀ i,i < m→(97:Int) ∣ ip n (a i) z
def Cj (n:Nat) (a:qw):Prop:=∀ z,sO n n a z→∀ j,j < n→(97:Int) ∣ z j
theorem sO.congr {m n:Nat} {a b:qw} {z:Nat→Int} (h:∀ i j,i < m→j < n→(97:Int) ∣ a i j - b i j) (k:sO m n a z):sO m n b z:=fun i hi=>by
 have h1:=k i hi
 have h2:=Ci (n:=n) (z:=z) fun j hj=>h i j hi hj
 have:=Int.dvd_sub h1 h2
 rwa [show ip n (a i) z - (ip n (a i) z - ip n (b i) z)=ip n (b i) z by omega] at this
theorem sO.EV {m n:Nat} {a b:qw} {z:Nat→Int} (h:∀ i j,i < m→j < n→(97:Int) ∣ a i j - b i j):sO m n a z↔sO m n b z :=
 ⟨fun k=>k.congr h,fun k=>k.congr fun i j hi hj=>by have:=Int.dvd_neg.mpr (h i j hi hj);rwa [show -(a i j - b i j)=b i j - a i j by omega] at this⟩
theorem Cj.congr {n:Nat} {a b:qw} (h:∀ i j,i < n→j < n→(97:Int) ∣ a i j - b i j):Cj n a↔Cj n b:=by
 unfold Cj
 constructor
 ·intro r z k;exact r z ((sO.EV h).mpr k)
 ·intro r z k;exact r z ((sO.EV h).mp k)
theorem UC:∀ n < 97,0 < n→n ^ 95 % 97 * n % 97=1:=by decide
theorem Qh {a:Int} (h:¬ (97:Int) ∣ a):∃ b:Int,(97:Int) ∣ a * b - 1:=by
 have h1:0 < a % 97:=by
  have:a % 97≠0:=fun e=>h (Int.dvd_of_emod_eq_zero e)
  omega
 have q:=UC (a % 97).toNat (by omega) (by omega)
 refine ⟨(((a % 97).toNat ^ 95 % 97:Nat):Int),?_⟩
 generalize (a % 97).toNat ^ 95 % 97=b at q
 have e1:((b * (a % 97).toNat % 97:Nat):Int)=1:=by rw [q];rfl
 have e2:((b:Int) * (a % 97)) % 97=1:=by
  rw [← e1];rw [Int.natCast_emod,Int.natCast_mul,Int.toNat_of_nonneg (by omega)];rfl
 have e3:a * (b:Int) % 97=1:=by rw [Int.mul_comm,Int.mul_emod,← e2,Int.mul_emod (b:Int) (a % 97),Int.emod_emod_of_dvd _ (Int.dvd_refl _)]
 omega
theorem prime {a b:Int} (h:(97:Int) ∣ a * b) (ha:¬ (97:Int) ∣ a):(97:Int) ∣ b:=by
 obtain ⟨c,hc⟩:=Qh ha
 have h1:(97:Int) ∣ c * (a * b):=Int.dvd_trans h (Int.dvd_mul_left _ _)
 have h2:(97:Int) ∣ (a * c - 1) * b:=Int.dvd_trans hc (Int.dvd_mul_right _ _)
 have:=Int.dvd_sub h1 h2
 rwa [show c * (a * b) - (a * c - 1) * b=b by grind] at this
structure Clear (n c:Nat) (t:qw):Prop where
 one:∀ i,i < c→t i i=1
 pO:∀ i j,i < n→j < c→i≠j→t i j=0
theorem Clear.start (n:Nat) (t:qw):Clear n 0 t:=⟨fun _ h=>by omega,fun _ _ _ h=>by omega⟩
def swap (t:qw) (p q:Nat):qw:=fun i=>if i=p then t q else if i=q then t p else t i
theorem sO.swap {m n p q:Nat} {t:qw} {z:Nat→Int} (hp:p < m) (hq:q < m):sO m n (swap t p q) z↔sO m n t z:=by
 constructor
 ·intro k i hi
  by_cases e1:i=p
  ·subst e1
   have:=k q hq
   unfold My.swap at this
   by_cases e:q=i
   ·subst e;simpa using this
   ·rw [if_neg e,if_pos rfl] at this;exact this
  ·by_cases e2:i=q
   ·subst e2
    have:=k p hp
    unfold My.swap at this
    rwa [if_pos rfl] at this
   ·have:=k i hi
    unfold My.swap at this
    rwa [if_neg e1,if_neg e2] at this
 ·intro k i hi
  unfold My.swap
  split
  ·exact k q hq
  ·split
   ·exact k p hp
   ·exact k i hi
def clear (t:qw) (c:Nat) (f:Int):qw:=fun i j=>if i=c then t c j * f % 97 else (t i j - t i c * (t c j * f % 97)) % 97
theorem hG (a:Int):(97:Int) ∣ a % 97 - a:=by omega
theorem sO.clear {m n c:Nat} {t:qw} {f:Int} {z:Nat→Int} (hc:c < m) (hf:(97:Int) ∣ f * t c c - 1):sO m n (clear t c f) z↔sO m n t z:=by
 have hf0:¬ (97:Int) ∣ f:=fun h=>by
  have:=Int.dvd_sub (Int.dvd_trans h (Int.dvd_mul_right f (t c c))) hf
  rw [show f * t c c - (f * t c c - 1)=1 by omega] at this
  omega
 have UD:sO m n (My.clear t c f) z↔sO m n (fun i j=>if i=c then f * t c j+0 * t c j else 1 * t i j+(- (t i c * f)) * t c j) z:=by
  refine sO.EV fun i j _ _=>?_
  unfold My.clear
  by_cases e:i=c
  ·rw [if_pos e,if_pos e]
   have:=hG (t c j * f)
   rwa [show t c j * f % 97 - (f * t c j+0 * t c j)=t c j * f % 97 - t c j * f by grind]
  ·rw [if_neg e,if_neg e]
   have h1:=hG (t i j - t i c * (t c j * f % 97))
   have h2:(97:Int) ∣ t i c * (t c j * f % 97 - t c j * f):=Int.dvd_trans (hG (t c j * f)) (Int.dvd_mul_left _ _)
   have:=Int.dvd_sub h1 h2
   rwa [show (t i j - t i c * (t c j * f % 97)) % 97 - (t i j - t i c * (t c j * f % 97)) - t i c * (t c j * f % 97 - t c j * f)=(t i j - t i c * (t c j * f % 97)) % 97 - (1 * t i j+-(t i c * f) * t c j) by grind] at this
 rw [UD]
 have e1:ip n (fun j=>f * t c j+0 * t c j) z=f * ip n (t c) z:=by rw [Kg];omega
 have e2:∀ i,ip n (fun j=>1 * t i j+(- (t i c * f)) * t c j) z=ip n (t i) z - t i c * f * ip n (t c) z:=fun i=>by rw [Kg];grind
 constructor
 ·intro k
  have kc:(97:Int) ∣ ip n (t c) z:=by
   have:=k c hc
   simp only [if_true] at this
   rw [e1] at this
   exact prime this hf0
  intro i hi
  by_cases e:i=c
  ·subst e;exact kc
  ·have:=k i hi
   simp only [if_neg e] at this
   rw [e2] at this
   have h2:(97:Int) ∣ t i c * f * ip n (t c) z:=Int.dvd_trans kc (Int.dvd_mul_left _ _)
   have:=Int.dvd_add this h2
   rwa [show ip n (t i) z - t i c * f * ip n (t c) z+t i c * f * ip n (t c) z=ip n (t i) z by omega] at this
 ·intro k i hi
  by_cases e:i=c
  ·simp only [if_pos e]
   rw [e1];exact Int.dvd_trans (k c hc) (Int.dvd_mul_left _ _)
  ·simp only [if_neg e]
   rw [e2];exact Int.dvd_sub (k i hi) (Int.dvd_trans (k c hc) (Int.dvd_mul_left _ _))
theorem Clear.swap {n c q:Nat} {t:qw} (h:Clear n c t) (hq:c≤q) (hn:q < n):Clear n c (swap t c q):=by
 refine ⟨fun i hi=>?_,fun i j hi hj ne=>?_⟩
 ·unfold My.swap
  rw [if_neg (by omega),if_neg (by omega)];exact h.one i hi
 ·unfold My.swap
  split
  ·exact h.pO q j hn hj (by omega)
  ·split
   ·exact h.pO c j (by omega) hj (by omega)
   ·exact h.pO i j hi hj ne
theorem Clear.clear {n c:Nat} {t:qw} {f:Int} (h:Clear n c t) (hc:c < n) (hf:(97:Int) ∣ f * t c c - 1):Clear n (c+1) (clear t c f):=by
 have L8:t c c * f % 97=1:=by rw [Int.mul_comm];omega
 have hz:∀ j,j < c→t c j * f % 97=0:=fun j hj=>by rw [h.pO c j hc hj (by omega)];simp
 refine ⟨fun i hi=>?_,fun i j hi hj ne=>?_⟩
 ·unfold My.clear
  by_cases e:i=c
  ·subst e;rw [if_pos rfl,L8]
  ·rw [if_neg e,hz i (by omega),h.one i (by omega)];omega
 ·unfold My.clear
  by_cases e:i=c
  ·rw [if_pos e,hz j (by omega)]
  ·rw [if_neg e]
   by_cases e2:j=c
   ·subst e2;rw [L8];simp
   ·rw [hz j (by omega),h.pO i j hi (by omega) ne];simp
theorem Clear.full {n:Nat} {t:qw} (h:Clear n n t) (z:Nat→Int) (i:Nat) (hi:i < n):ip (n+1) (t i) z=z i+t i n * z n:=by
 unfold ip
 rw [vR i n (n+1) hi (by omega) fun j hj n1 n2=>by rw [h.pO i j hi (by omega) (Ne.symm n1)];omega,h.one i hi];omega
theorem Clear.stuck {n c:Nat} {t:qw} (h:Clear n c t) (hc:c < n) (hz:∀ i,c≤i→i < n→t i c=0) :
  ∃ z:Nat→Int,sO n (n+1) t z∧z c=1∧z n=0:=by
 refine ⟨fun j=>if j < c then - t j c else if j=c then 1 else 0,fun i hi=>?_,by simp,by simp;omega⟩
 have:ip (n+1) (t i) (fun j=>if j < c then - t j c else if j=c then 1 else 0)=0:=by
  unfold ip
  by_cases l:i < c
  ·rw [vR i c (n+1) l (by omega) fun j hj n1 n2=>?_]
   ·simp [l,h.one i l];omega
   ·by_cases l2:j < c
    ·rw [h.pO i j hi l2 (Ne.symm n1)];simp
    ·simp [l2,n2]
  ·refine sL _ fun j hj=>?_
   by_cases l2:j < c
   ·rw [h.pO i j hi l2 (by omega)];simp
   ·by_cases e:j=c
    ·subst e;rw [hz i (by omega) hi];simp
    ·simp [l2,e]
 rw [this];exact ⟨0,by simp⟩
theorem EW:∀ (n:Nat) (al:Nat→Int) (x:Nat→Int),(∀ i,i < n→¬ (97:Int) ∣ al i)→(∀ i j,i < n→j < n→i≠j→¬ (97:Int) ∣ al i - al j) →
  (∀ j,j < n→(97:Int) ∣ sumTo n fun i=>al i ^ (j+1) * x i)→∀ i,i < n→(97:Int) ∣ x i
 | 0,_,_,_,_,_,i,hi=>by omega
 | n+1,al,x,h0,hd,hk,i,hi=>by
  have hy:∀ i,i < n→(97:Int) ∣ (al i - al n) * x i:=by
   refine EW n al (fun i=>(al i - al n) * x i) (fun i hi=>h0 i (by omega)) (fun i j hi hj=>hd i j (by omega) (by omega)) fun j hj=>?_
   have h1:=hk (j+1) (by omega)
   have h2:(97:Int) ∣ al n * sumTo (n+1) fun i=>al i ^ (j+1) * x i:=Int.dvd_trans (hk j (by omega)) (Int.dvd_mul_left _ _)
   have h3:=Int.dvd_sub h1 h2
   have e:(sumTo (n+1) fun i=>al i ^ (j+1+1) * x i) - al n * (sumTo (n+1) fun i=>al i ^ (j+1) * x i)=sumTo n fun i=>al i ^ (j+1) * ((al i - al n) * x i):=by
    rw [sumTo,sumTo]
    have:=fR 1 (- al n) (fun i=>al i ^ (j+1+1) * x i) (fun i=>al i ^ (j+1) * x i) n
    rw [show (sumTo n fun i=>al i ^ (j+1) * ((al i - al n) * x i))=sumTo n (fun i=>1 * (al i ^ (j+1+1) * x i)+- al n * (al i ^ (j+1) * x i)) from a9 n fun i _=>by rw [Int.pow_succ (al i) (j+1)];grind,this,Int.pow_succ (al n) (j+1)]
    grind
   rwa [e] at h3
  have hx:∀ i,i < n→(97:Int) ∣ x i:=fun i hi=>prime (hy i hi) (hd i n (by omega) (by omega) (by omega))
  by_cases e:i=n
  ·subst e
   have h1:=hk 0 (by omega)
   rw [sumTo] at h1
   have h2:(97:Int) ∣ sumTo i fun k=>al k ^ (0+1) * x k:=mL i fun k hk=>Int.dvd_trans (hx k hk) (Int.dvd_mul_left _ _)
   have h3:=Int.dvd_sub h1 h2
   rw [show (sumTo i fun k=>al k ^ (0+1) * x k)+al i ^ (0+1) * x i - (sumTo i fun k=>al k ^ (0+1) * x k)=al i * x i by rw [Int.pow_succ];grind] at h3
   exact prime h3 (h0 i (by omega))
  ·exact hx i (by omega)
end My
namespace My
def T (x:Int) (n:Nat) (f:Nat→Int):Int:=sumTo n (fun i=>f i * x ^ i) % 97
theorem XS (x:Int) (n:Nat) (f:Nat→Int):0≤T x n f:=Int.emod_nonneg _ (by decide)
theorem XT (x:Int) (n:Nat) (f:Nat→Int):T x n f < 97:=Int.emod_lt_of_pos _ (by decide)
theorem M3 {x:Int} {n:Nat} {f g:Nat→Int} (h:∀ i,i < n→f i=g i):T x n f=T x n g:=by
 unfold T
 rw [a9 n fun j hj=>by rw [h j hj]]
theorem BM {x:Int} {n:Nat} {f:Nat→Int}:T x n f=0↔(97:Int) ∣ sumTo n (fun i=>f i * x ^ i):=by
 unfold T
 omega
def St (j:Nat):Int:=([5,25,28,43,21,8]:List Int).getD j 0
theorem XU:∀ j:Nat,j < 6→P 5 (1+(j:Int))=St j:=by decide
def hv (f:Nat→Int) (n:Nat) (x:Int):Nat→Int
 | 0=>0
 | i+1=>(hv f n x i * x+f (n - 1 - i)) % 97
theorem Oy (f:Nat→Int) (n:Nat) (x:Int) (i:Nat):0≤hv f n x i:=by
 cases i with
 | zero=>exact Int.le_refl _
 | succ i=>exact Int.emod_nonneg _ (by decide)
theorem Oz (f:Nat→Int) (n:Nat) (x:Int) (i:Nat):hv f n x i < 97:=by
 cases i with
 | zero=>exact (by decide:(0:Int) < 97)
 | succ i=>exact Int.emod_lt_of_pos _ (by decide)
theorem Kh (f:Nat→Int) (n:Nat) (x:Int):∀ i,i≤n→(97:Int) ∣ hv f n x i - sumTo i (fun k=>f (n - i+k) * x ^ k)
 | 0,_=>by simp [hv,sumTo]
 | i+1,h=>by
  obtain ⟨a,ha⟩:=Kh f n x i (by omega)
  have e:sumTo (i+1) (fun k=>f (n - (i+1)+k) * x ^ k)=f (n - 1 - i)+x * sumTo i (fun k=>f (n - i+k) * x ^ k):=by
   rw [x6,← vQ]
   have e1:f (n - (i+1)+0) * x ^ 0=f (n - 1 - i):=by
    rw [show n - (i+1)+0=n - 1 - i by omega];simp
   rw [e1]
   congr 1
   refine a9 i fun j hj=>?_
   rw [show n - (i+1)+(j+1)=n - i+j by omega,Int.pow_succ]
   grind
  rw [e,hv]
  generalize sumTo i (fun k=>f (n - i+k) * x ^ k)=S at ha
  have hq:hv f n x i=S+97 * a:=by omega
  rw [hq,Int.emod_def]
  exact ⟨a * x - ((S+97 * a) * x+f (n - 1 - i)) / 97,by grind⟩
theorem XW (f:Nat→Int) (n:Nat) (x:Int):hv f n x n=T x n f:=by
 have h:=Kh f n x n (Nat.le_refl n)
 rw [a9 n (g:=fun k=>f k * x ^ k) fun j hj=>by rw [show n - n+j=j by omega]] at h
 have h0:=Oy f n x n
 have h1:=Oz f n x n
 unfold T
 omega
def Dv (k:Nat):Int:=([21,80,53,2,55,63]:List Int).getD k 0
def rs (f:Nat→Int):Nat→Nat→Int
 | 0,_=>0
 | m+1,k=>((if k < 5 then rs f m (k+1) else 0) - (rs f m 0+f m) * Dv k) % 97
theorem UE (f:Nat→Int) (m k:Nat):0≤rs f m k:=by
 cases m with
 | zero=>exact Int.le_refl _
 | succ m=>exact Int.emod_nonneg _ (by decide)
theorem UG (f:Nat→Int) (m k:Nat):rs f m k < 97:=by
 cases m with
 | zero=>exact (by decide:(0:Int) < 97)
 | succ m=>exact Int.emod_lt_of_pos _ (by decide)
def six (y:Int) (r:Nat→Int):Int:=r 0+r 1 * y+r 2 * (y * y)+r 3 * (y * y * y)+r 4 * (y * y * y * y)+r 5 * (y * y * y * y * y)
theorem Ki:∀ j < 6,(97:Int) ∣ 1+St j * six (St j) Dv:=by decide
theorem M4 {y pm S fm a b:Int} {r:Nat→Int} (ha:pm * six y r - S=97 * a) (hb:1+y * six y Dv=97 * b) :
  (97:Int) ∣ pm * y * six y (fun k=>((if k < 5 then r (k+1) else 0) - (r 0+fm) * Dv k) % 97) - (S+fm * pm):=by
 simp only [six] at *
 simp only [show (0:Nat) < 5 by decide,show (1:Nat) < 5 by decide,show (2:Nat) < 5 by decide,show (3:Nat) < 5 by decide,show (4:Nat) < 5 by decide,show ¬ (5:Nat) < 5 by decide,if_true,if_false,Int.emod_def]
 generalize (r (0+1) - (r 0+fm) * Dv 0) / 97=q0
 generalize (r (1+1) - (r 0+fm) * Dv 1) / 97=q1
 generalize (r (2+1) - (r 0+fm) * Dv 2) / 97=q2
 generalize (r (3+1) - (r 0+fm) * Dv 3) / 97=q3
 generalize (r (4+1) - (r 0+fm) * Dv 4) / 97=q4
 generalize ((0:Int) - (r 0+fm) * Dv 5) / 97=q5
 generalize r 0=r0 at *
 generalize r (0+1)=r1 at *
 generalize r (1+1)=r2 at *
 generalize r (2+1)=r3 at *
 generalize r (3+1)=r4 at *
 generalize r (4+1)=r5 at *
 generalize Dv 0=d0 at *
 generalize Dv 1=d1 at *
 generalize Dv 2=d2 at *
 generalize Dv 3=d3 at *
 generalize Dv 4=d4 at *
 generalize Dv 5=d5 at *
 have e:pm * y * (r1 - (r0+fm) * d0 - 97 * q0+(r2 - (r0+fm) * d1 - 97 * q1) * y+(r3 - (r0+fm) * d2 - 97 * q2) * (y * y)+(r4 - (r0+fm) * d3 - 97 * q3) * (y * y * y)+(r5 - (r0+fm) * d4 - 97 * q4) * (y * y * y * y)+(0 - (r0+fm) * d5 - 97 * q5) * (y * y * y * y * y)) - (S+fm * pm)
   = (pm * (r0+r1 * y+r2 * (y * y)+r3 * (y * y * y)+r4 * (y * y * y * y)+r5 * (y * y * y * y * y)) - S) - pm * (r0+fm) * (1+y * (d0+d1 * y+d2 * (y * y)+d3 * (y * y * y)+d4 * (y * y * y * y)+d5 * (y * y * y * y * y))) - 97 * (pm * (q0 * y+q1 * (y * y)+q2 * (y * y * y)+q3 * (y * y * y * y)+q4 * (y * y * y * y * y)+q5 * (y * y * y * y * y * y))):=by grind
 rw [e,ha,hb]
 exact ⟨a - pm * (r0+fm) * b - pm * (q0 * y+q1 * (y * y)+q2 * (y * y * y)+q3 * (y * y * y * y)+q4 * (y * y * y * y * y)+q5 * (y * y * y * y * y * y)),by grind⟩
theorem Kj {y:Int} (hy:(97:Int) ∣ 1+y * six y Dv) (f:Nat→Int):∀ m,(97:Int) ∣ y ^ m * six y (rs f m) - sumTo m (fun i=>f i * y ^ i)
 | 0=>by simp [six,rs,sumTo]
 | m+1=>by
  obtain ⟨a,ha⟩:=Kj hy f m
  obtain ⟨b,hb⟩:=hy
  rw [sumTo,Int.pow_succ]
  exact M4 ha hb
def mM (f:Nat→Int) (i:Nat):Int:=if i < 18 then f i else -(rs f 18 (i - 18)) % 97
theorem M5 {f:Nat→Int} (h:∀ i,i < 18→0≤f i∧f i < 97) (i:Nat):0≤mM f i∧mM f i < 97:=by
 unfold mM
 split
 ·rename_i h1;exact h i h1
 ·exact ⟨Int.emod_nonneg _ (by decide),Int.emod_lt_of_pos _ (by decide)⟩
theorem Ai (f:Nat→Int) (n:Nat):∀ m,sumTo (n+m) f=sumTo n f+sumTo m (fun i=>f (n+i))
 | 0=>by simp [sumTo]
 | m+1=>by rw [← Nat.add_assoc,sumTo,Ai f n m,sumTo];omega
theorem M6 (y:Int) (r:Nat→Int):sumTo 6 (fun k=>r k * y ^ k)=six y r:=by
 simp only [sumTo,six,Int.pow_succ,Int.pow_zero]
 grind
theorem M7 {y:Int} (hy:(97:Int) ∣ 1+y * six y Dv) (f:Nat→Int):T y 24 (mM f)=0:=by
 rw [BM,show (24:Nat)=18+6 from rfl,Ai]
 have e1:sumTo 18 (fun i=>mM f i * y ^ i)=sumTo 18 (fun i=>f i * y ^ i):=a9 18 fun j hj=>by rw [mM,if_pos hj]
 have e2:sumTo 6 (fun i=>mM f (18+i) * y ^ (18+i))=y ^ 18 * six y (fun k=>-(rs f 18 k) % 97):=by
  rw [← M6,← vQ]
  refine a9 6 fun j hj=>?_
  rw [mM,if_neg (by omega),Int.pow_add,show 18+j - 18=j by omega]
  grind
 rw [e1,e2]
 obtain ⟨a,ha⟩:=Kj hy f 18
 generalize sumTo 18 (fun i=>f i * y ^ i)=S at *
 generalize y ^ 18=pm at *
 generalize rs f 18=r at *
 simp only [six,Int.emod_def] at *
 generalize (-(r 0)) / 97=q0
 generalize (-(r 1)) / 97=q1
 generalize (-(r 2)) / 97=q2
 generalize (-(r 3)) / 97=q3
 generalize (-(r 4)) / 97=q4
 generalize (-(r 5)) / 97=q5
 refine ⟨-a - pm * (q0+q1 * y+q2 * (y * y)+q3 * (y * y * y)+q4 * (y * y * y * y)+q5 * (y * y * y * y * y)),?_⟩
 grind
def eU (f:Nat→Int):Prop:=∀ j,j < 6→T (St j) 24 f=0
theorem BN (f:Nat→Int):eU (mM f):=fun j hj=>M7 (Ki j hj) f
theorem hJ {y:Int} (h:¬ (97:Int) ∣ y):∀ n:Nat,¬ (97:Int) ∣ y ^ n
 | 0=>by rw [Int.pow_zero];decide
 | n+1=>fun z=>by
  rw [Int.pow_succ] at z
  exact h (prime z (hJ h n))
end My
namespace My
def kB (n:Nat) (f g:Nat→Int):List Nat:=(List.range n).filter fun i=>!decide (f i=g i)
theorem IF (n:Nat) (f g:Nat→Int):kB (n+1) f g=if f n=g n then kB n f g else kB n f g ++ [n]:=by
 unfold kB
 rw [List.range_succ,List.filter_append]
 by_cases h:f n=g n <;> simp [h]
theorem gO {n:Nat} {f g:Nat→Int} {i:Nat}:i ∈ kB n f g↔i < n∧f i≠g i:=by
 unfold kB
 simp
theorem sP (n:Nat) (f g:Nat→Int):(kB n f g).Nodup:=List.Pairwise.filter _ List.nodup_range
def lsum (l:List Nat) (h:Nat→Int):Int:=sumTo l.length fun k=>h (l.getD k 0)
theorem lsum_snoc (l:List Nat) (n:Nat) (h:Nat→Int):lsum (l ++ [n]) h=lsum l h+h n:=by
 unfold lsum
 rw [List.length_append,List.length_singleton,sumTo]
 congr 1
 ·refine a9 _ fun j hj=>?_
  simp [List.getD,List.getElem?_append_left hj]
 ·simp [List.getD]
theorem Kk (n:Nat) (f g:Nat→Int) (h:Nat→Int) (hz:∀ i,i < n→f i=g i→h i=0):sumTo n h=lsum (kB n f g) h:=by
 induction n with
 | zero=>rfl
 | succ n ih =>
  rw [sumTo,ih fun i hi=>hz i (by omega),IF]
  by_cases e:f n=g n
  ·rw [if_pos e,hz n (by omega) e];omega
  ·rw [if_neg e,lsum_snoc]
theorem Qi:∀ j:Nat,j < 6→St j=5 ^ (j+1) % 97:=by decide
theorem j2:¬ (97:Int) ∣ 5:=by decide
theorem x8:∀ p:Nat,p < 24→∀ q:Nat,q < 24→p≠q→¬ (97:Int) ∣ 5 ^ p - 5 ^ q:=by decide +kernel
theorem Gq {a b:Int} (h:(97:Int) ∣ a - b):∀ n:Nat,(97:Int) ∣ a ^ n - b ^ n
 | 0=>by simp
 | n+1=>by
  obtain ⟨c,hc⟩:=h
  obtain ⟨d,hd⟩:=Gq ⟨c,hc⟩ n
  rw [Int.pow_succ,Int.pow_succ]
  exact ⟨d * a+b ^ n * c,by
   have e:a ^ n * a - b ^ n * b=(a ^ n - b ^ n) * a+b ^ n * (a - b):=by grind
   rw [e,hd,hc];grind⟩
theorem uV {j p:Nat} (hj:j < 6):(97:Int) ∣ St j ^ p - (5 ^ p) ^ (j+1):=by
 have h:(97:Int) ∣ St j - 5 ^ (j+1):=by rw [Qi j hj];exact hG _
 have:=Gq h p
 rwa [← Int.pow_mul,Nat.mul_comm,Int.pow_mul] at this
theorem Kl {l:List Nat} {z:Nat→Int} (hn:l.Nodup) (hb:∀ p ∈ l,p < 24) (hl:l.length≤6) (hs:∀ j,j < l.length→(97:Int) ∣ lsum l fun p=>z p * St j ^ p):∀ p ∈ l,(97:Int) ∣ z p:=by
 intro p hp
 obtain ⟨k,hk,rfl⟩:=List.getElem_of_mem hp
 have e:∀ k,(h:k < l.length)→l.getD k 0=l[k]:=fun k h=>by simp [List.getD,h]
 rw [← e k hk]
 refine EW l.length (fun k=>5 ^ l.getD k 0) (fun k=>z (l.getD k 0)) (fun i _=>hJ j2 _) (fun i j hi hj XX=>?_) (fun j hj=>?_) k hk
 ·refine x8 _ (hb _ (by rw [e i hi];exact List.getElem_mem _)) _ (hb _ (by rw [e j hj];exact List.getElem_mem _)) fun q=>XX ?_
  rw [e i hi,e j hj] at q
  exact (List.getElem_inj hn).mp q
 ·have h1:=hs j hj
  unfold lsum at h1
  have h2:(97:Int) ∣ (sumTo l.length fun k=>(5 ^ l.getD k 0) ^ (j+1) * z (l.getD k 0)) - sumTo l.length fun k=>z (l.getD k 0) * St j ^ l.getD k 0:=by
   have h3:=fR 1 (-1) (fun k=>(5 ^ l.getD k 0) ^ (j+1) * z (l.getD k 0)) (fun k=>z (l.getD k 0) * St j ^ l.getD k 0) l.length
   have h4:(97:Int) ∣ sumTo l.length fun k=>1 * ((5 ^ l.getD k 0) ^ (j+1) * z (l.getD k 0))+-1 * (z (l.getD k 0) * St j ^ l.getD k 0):=mL _ fun k _=>by
    obtain ⟨c,hc⟩:=uV (p:=l.getD k 0) (show j < 6 by omega)
    refine ⟨-(c * z (l.getD k 0)),?_⟩
    generalize St j ^ l.getD k 0=A at *
    generalize ((5:Int) ^ l.getD k 0) ^ (j+1)=B at *
    have:B=A - 97 * c:=by omega
    rw [this];grind
   rw [h3] at h4
   have e5:∀ a b:Int,1 * a+-1 * b=a - b:=fun a b=>by omega
   rw [e5] at h4
   exact h4
  have h5:=Int.dvd_add h2 h1
  rwa [Int.sub_add_cancel] at h5
theorem Ck {n:Nat} {f g:Nat→Int} (y:Int):sumTo n (fun i=>f i * y ^ i) - sumTo n (fun i=>g i * y ^ i)=lsum (kB n f g) fun i=>(f i - g i) * y ^ i:=by
 rw [← Kk n f g _ fun i _ e=>by rw [e];grind]
 have h1:=fR 1 (-1) (fun i=>f i * y ^ i) (fun i=>g i * y ^ i) n
 have h2:sumTo n (fun j=>1 * (f j * y ^ j)+-1 * (g j * y ^ j))=sumTo n fun i=>(f i - g i) * y ^ i:=a9 n fun j _=>by grind
 rw [← h2,h1];omega
theorem UH {f g:Nat→Int} (bf:∀ i,i < 24→0≤f i∧f i < 97) (bg:∀ i,i < 24→0≤g i∧g i < 97) (hf:eU f) (hg:eU g) (h:(kB 24 f g).length≤6):∀ i,i < 24→f i=g i:=by
 intro i hi
 apply Classical.byContradiction
 intro Di
 have hm:i ∈ kB 24 f g:=gO.mpr ⟨hi,Di⟩
 have:=Kl (z:=fun i=>f i - g i) (sP _ _ _) (fun p hp=>(gO.mp hp).1) h (fun j hj=>by
  have h1:=BM.mp (hf j (by omega))
  have h2:=BM.mp (hg j (by omega))
  rw [← Ck]
  exact Int.dvd_sub h1 h2) i hm
 have b1:=bf i hi
 have b2:=bg i hi
 omega
theorem eU.congr {f g:Nat→Int} (h:∀ i,i < 24→f i=g i) (hf:eU f):eU g:=fun j hj=>by rw [← M3 h];exact hf j hj
end My
namespace My
theorem vS:∀ (l L:List Nat),l.Nodup→(∀ x ∈ l,x ∈ L)→l.length≤L.length
 | [],_,_,_=>Nat.zero_le _
 | a :: l,L,hn,hs=>by
  have ha:=hs a List.mem_cons_self
  have Rq:=List.nodup_cons.mp hn
  have:=vS l (L.erase a) Rq.2 fun x hx=>(List.mem_erase_of_ne (fun e=>Rq.1 (by rw [← e];exact hx))).mpr (hs x (List.mem_cons_of_mem _ hx))
  rw [List.length_erase_of_mem ha] at this
  have hp:0 < L.length:=List.length_pos_of_mem ha
  rw [List.length_cons]
  omega
theorem Cn (n:Nat) (f g:Nat→Int):(kB n f g).Pairwise (· < ·):=List.Pairwise.filter _ List.pairwise_lt_range
theorem eV {p q:Nat} (hp:p < 24) (hq:q < 24) (h:p≠q):¬ (97:Int) ∣ 5 ^ p - 5 ^ q:=x8 p hp q hq h
def M (s:Nat→Int):qw:=fun i j=>if j=0 then s (i+1) else -(s i) % 97
theorem UI (s z:Nat→Int) (i:Nat):(97:Int) ∣ ip 2 (M s i) z - (s (i+1) * z 0 - s i * z 1):=by
 have e:ip 2 (M s i) z=s (i+1) * z 0+-(s i) % 97 * z 1:=by simp [ip,sumTo,M]
 rw [e,Int.emod_def]
 exact ⟨-((-(s i)) / 97 * z 1),by grind⟩
theorem EX {s:Nat→Int} (h:¬ (97:Int) ∣ s 0 * s 2 - s 1 * s 1):Cj 2 (M s):=fun z hz j hj=>by
 have k0:=Int.dvd_sub (hz 0 (by decide)) (UI s z 0)
 have k1:=Int.dvd_sub (hz 1 (by decide)) (UI s z 1)
 rw [Int.sub_sub_self] at k0 k1
 obtain ⟨a,ha⟩:=k0
 obtain ⟨b,hb⟩:=k1
 match j,hj with
 | 0,_ =>
  refine prime (a:=s 0 * s 2 - s 1 * s 1) ⟨s 0 * b - s 1 * a,?_⟩ h
  have e:(s 0 * s 2 - s 1 * s 1) * z 0=s 0 * (s (1+1) * z 0 - s 1 * z 1) - s 1 * (s (0+1) * z 0 - s 0 * z 1):=by grind
  rw [e,ha,hb];grind
 | 1,_ =>
  refine prime (a:=s 0 * s 2 - s 1 * s 1) ⟨s 1 * b - s 2 * a,?_⟩ h
  have e:(s 0 * s 2 - s 1 * s 1) * z 1=s 1 * (s (1+1) * z 0 - s 1 * z 1) - s 2 * (s (0+1) * z 0 - s 0 * z 1):=by grind
  rw [e,ha,hb];grind
theorem M8 {s:Nat→Int} {X:Int} (h0:(97:Int) ∣ s 1 - s 0 * X) (h1:(97:Int) ∣ s 2 - s 1 * X):¬ Cj 2 (M s):=fun r=>by
 have:=r (fun j=>if j=0 then 1 else X) (fun i hi=>by
  have k:=UI s (fun j=>if j=0 then 1 else X) i
  have h:(97:Int) ∣ s (i+1) * (if (0:Nat)=0 then 1 else X) - s i * (if (1:Nat)=0 then 1 else X):=by
   match i,hi with
   | 0,_=>simpa using h0
   | 1,_=>simpa using h1
  have:=Int.dvd_add k h
  rwa [Int.sub_add_cancel] at this) 0 (by decide)
 have h1:(97:Int) ∣ 1:=this
 exact absurd h1 (by decide)
theorem M9 {s:Nat→Int} {e d X Y:Int} (h:∀ j,j < 4→(97:Int) ∣ s j - (e * X ^ (j+1)+d * Y ^ (j+1))):(97:Int) ∣ (s 0 * s 2 - s 1 * s 1) - e * d * (X * Y) * ((X - Y) * (X - Y)):=by
 obtain ⟨a,ha⟩:=h 0 (by decide)
 obtain ⟨b,hb⟩:=h 1 (by decide)
 obtain ⟨c,hc⟩:=h 2 (by decide)
 simp only [Int.pow_succ,Int.pow_zero,Int.one_mul,Nat.zero_add] at ha hb hc
 have e0:s 0=e * X+d * Y+97 * a:=by omega
 have e1:s 1=e * (X * X)+d * (Y * Y)+97 * b:=by omega
 have e2:s 2=e * (X * X * X)+d * (Y * Y * Y)+97 * c:=by omega
 rw [e0,e1,e2]
 exact ⟨(e * X+d * Y) * c+a * (e * (X * X * X)+d * (Y * Y * Y))+97 * a * c - 2 * (e * (X * X)+d * (Y * Y)) * b - 97 * b * b,by grind⟩
theorem Km {s x:Nat→Int} {e d X Y:Int} (r:Cj 2 (M s)) (h:∀ j,j < 4→(97:Int) ∣ s j - (e * X ^ (j+1)+d * Y ^ (j+1))) (hx:∀ i,i < 2→(97:Int) ∣ ip 2 (M s i) x - s (i+2)) :
  (97:Int) ∣ x 0 - (X+Y)∧(97:Int) ∣ x 1 - X * Y:=by
 have k:sO 2 2 (M s) fun j=>if j=0 then x 0 - (X+Y) else x 1 - X * Y:=fun i hi=>by
  have k1:=UI s (fun j=>if j=0 then x 0 - (X+Y) else x 1 - X * Y) i
  have k2:=Int.dvd_sub (hx i hi) (UI s x i)
  have k3:(97:Int) ∣ s (i+2) - (s (i+1) * (X+Y) - s i * (X * Y)):=by
   obtain ⟨a,ha⟩:=h i (by omega)
   obtain ⟨b,hb⟩:=h (i+1) (by omega)
   obtain ⟨c,hc⟩:=h (i+2) (by omega)
   rw [Int.pow_succ X (i+2),Int.pow_succ X (i+1),Int.pow_succ Y (i+2),Int.pow_succ Y (i+1)] at hc
   rw [Int.pow_succ X (i+1),Int.pow_succ Y (i+1)] at hb
   generalize X ^ (i+1)=A at *
   generalize Y ^ (i+1)=B at *
   have e0:s i=e * A+d * B+97 * a:=by omega
   have e1:s (i+1)=e * (A * X)+d * (B * Y)+97 * b:=by omega
   have e2:s (i+2)=e * (A * X * X)+d * (B * Y * Y)+97 * c:=by omega
   rw [e0,e1,e2]
   exact ⟨c - b * (X+Y)+a * (X * Y),by grind⟩
  have e1:(if (0:Nat)=0 then x 0 - (X+Y) else x 1 - X * Y)=x 0 - (X+Y):=rfl
  have e2:(if (1:Nat)=0 then x 0 - (X+Y) else x 1 - X * Y)=x 1 - X * Y:=rfl
  rw [e1,e2] at k1
  generalize ip 2 (M s i) (fun j=>if j=0 then x 0 - (X+Y) else x 1 - X * Y)=I at *
  generalize ip 2 (M s i) x=J at *
  obtain ⟨a,ha⟩:=k1
  obtain ⟨b,hb⟩:=k2
  obtain ⟨c,hc⟩:=k3
  refine ⟨a+b+c,?_⟩
  have:I=97 * a+(s (i+1) * (x 0 - (X+Y)) - s i * (x 1 - X * Y)):=by omega
  have e3:s (i+1) * (x 0 - (X+Y)) - s i * (x 1 - X * Y)=(s (i+1) * x 0 - s i * x 1) - (s (i+1) * (X+Y) - s i * (X * Y)):=by grind
  omega
 exact ⟨r _ k 0 (by decide),r _ k 1 (by decide)⟩
def Gr (t u:Int) (k:Nat):Bool:=decide ((P 5 k * P 5 k - t * P 5 k+u) % 97=0)
def roots (t u:Int):List Nat:=(List.range 24).filter (Gr t u)
theorem P5 (k:Nat):(97:Int) ∣ P 5 k - 5 ^ k:=by
 unfold P
 rw [Int.toNat_natCast]
 exact hG _
theorem Ko {t u X Y:Int} {k:Nat} (ht:(97:Int) ∣ t - (X+Y)) (hu:(97:Int) ∣ u - X * Y):Gr t u k=true↔(97:Int) ∣ (5 ^ k - X) * (5 ^ k - Y):=by
 obtain ⟨a,ha⟩:=ht
 obtain ⟨b,hb⟩:=hu
 obtain ⟨c,hc⟩:=P5 k
 unfold Gr
 rw [decide_eq_true_iff]
 generalize (5:Int) ^ k=V at *
 have e0:t=X+Y+97 * a:=by omega
 have e1:u=X * Y+97 * b:=by omega
 have e2:P 5 k=V+97 * c:=by omega
 have e3:P 5 k * P 5 k - t * P 5 k+u=(V - X) * (V - Y)+97 * (2 * V * c+97 * c * c - (X+Y) * c - a * (V+97 * c)+b):=by rw [e0,e1,e2];grind
 rw [e3]
 generalize (V - X) * (V - Y)=W
 omega
theorem IG (t u:Int):(roots t u).length≤2:=by
 apply Classical.byContradiction
 intro h
 have hl:2 < (roots t u).length:=by omega
 have nd:(roots t u).Nodup:=List.Pairwise.filter _ List.nodup_range
 have at_:∀ (i:Nat) (hi:i < (roots t u).length),(roots t u)[i] < 24∧(97:Int) ∣ 5 ^ (roots t u)[i] * 5 ^ (roots t u)[i] - t * 5 ^ (roots t u)[i]+u:=fun i hi=>by
  have hm:(roots t u)[i] ∈ roots t u:=List.getElem_mem _
  generalize (roots t u)[i]=k at hm
  unfold roots at hm
  rw [List.mem_filter,List.mem_range] at hm
  refine ⟨hm.1,?_⟩
  have h2:=of_decide_eq_true hm.2
  obtain ⟨c,hc⟩:=P5 k
  generalize (5:Int) ^ k=V at *
  have e2:P 5 k=V+97 * c:=by omega
  have e3:P 5 k * P 5 k - t * P 5 k+u=V * V - t * V+u+97 * (2 * V * c+97 * c * c - t * c):=by rw [e2];grind
  omega
 obtain ⟨a0,a1⟩:=at_ 0 (by omega)
 obtain ⟨b0,b1⟩:=at_ 1 (by omega)
 obtain ⟨c0,c1⟩:=at_ 2 (by omega)
 have Vr:(roots t u)[0]≠(roots t u)[1]:=fun e=>absurd ((List.getElem_inj nd).mp e) (by decide)
 have n02:(roots t u)[0]≠(roots t u)[2]:=fun e=>absurd ((List.getElem_inj nd).mp e) (by decide)
 have XY:(roots t u)[1]≠(roots t u)[2]:=fun e=>absurd ((List.getElem_inj nd).mp e) (by decide)
 have f01:=eV a0 b0 Vr
 have f02:=eV a0 c0 n02
 have f12:=eV b0 c0 XY
 generalize (5:Int) ^ (roots t u)[0]=A at *
 generalize (5:Int) ^ (roots t u)[1]=B at *
 generalize (5:Int) ^ (roots t u)[2]=C at *
 have k1:(97:Int) ∣ (A - B) * (A+B - t):=by
  have:=Int.dvd_sub a1 b1
  rwa [show A * A - t * A+u - (B * B - t * B+u)=(A - B) * (A+B - t) by grind] at this
 have k2:(97:Int) ∣ (A - C) * (A+C - t):=by
  have:=Int.dvd_sub a1 c1
  rwa [show A * A - t * A+u - (C * C - t * C+u)=(A - C) * (A+C - t) by grind] at this
 have k3:=prime k1 f01
 have k4:=prime k2 f02
 have:=Int.dvd_sub k3 k4
 rw [show A+B - t - (A+C - t)=B - C by omega] at this
 exact f12 this
theorem EY:∀ p:Nat,p < 24→∀ q:Nat,q < 24→p < q→(List.range 24).filter (fun k=>decide (k=p∨k=q))=[p,q]:=by decide +kernel
structure Kq (s:Nat→Int) (ps:List Nat):Prop where
 nd:ps.Nodup
 b:∀ p ∈ ps,p < 24
 Co:ps.length≤2
 one:∀ (e:Int) (p:Nat),p < 24→¬ (97:Int) ∣ e→(∀ j,j < 4→(97:Int) ∣ s j - e * (5 ^ p) ^ (j+1))→ps=[p]
 two:∀ (e d:Int) (p q:Nat),p < q→q < 24→¬ (97:Int) ∣ e→¬ (97:Int) ∣ d→(∀ j,j < 4→(97:Int) ∣ s j - (e * (5 ^ p) ^ (j+1)+d * (5 ^ q) ^ (j+1)))→ps=[p,q]
theorem EZ {s:Nat→Int} {e X:Int} (h:∀ j,j < 4→(97:Int) ∣ s j - e * X ^ (j+1)) (j:Nat) (hj:j < 3):(97:Int) ∣ s (j+1) - s j * X:=by
 obtain ⟨a,ha⟩:=h j (by omega)
 obtain ⟨b,hb⟩:=h (j+1) (by omega)
 rw [Int.pow_succ X (j+1)] at hb
 generalize X ^ (j+1)=A at *
 have e0:s j=e * A+97 * a:=by omega
 have e1:s (j+1)=e * (A * X)+97 * b:=by omega
 rw [e0,e1]
 exact ⟨b - a * X,by grind⟩
theorem jV {a b:Int} (ha:¬ (97:Int) ∣ a) (hb:¬ (97:Int) ∣ b):¬ (97:Int) ∣ a * b:=fun z=>hb (prime z ha)
theorem NA {s:Nat→Int} {e d:Int} {p q:Nat} (M2:p < q) (hq:q < 24) (he:¬ (97:Int) ∣ e) (hd:¬ (97:Int) ∣ d) (h:∀ j,j < 4→(97:Int) ∣ s j - (e * (5 ^ p) ^ (j+1)+d * (5 ^ q) ^ (j+1))):Cj 2 (M s):=by
 refine EX fun z=>?_
 have k:=Int.dvd_sub z (M9 h)
 rw [Int.sub_sub_self] at k
 have f:=eV (by omega:p < 24) hq (by omega)
 exact jV (jV (jV he hd) (jV (hJ j2 p) (hJ j2 q))) (jV f f) k
theorem Kr {s x:Nat→Int} (r:Cj 2 (M s)) (hx:∀ i,i < 2→(97:Int) ∣ ip 2 (M s i) x - s (i+2)):Kq s (roots (x 0) (x 1)) where
 nd:=List.Pairwise.filter _ List.nodup_range
 b:=fun p hp=>List.mem_range.mp (List.mem_filter.mp hp).1
 Co:=IG _ _
 one:=fun e p hp he h=>absurd r (M8 (X:=5 ^ p) (EZ h 0 (by decide)) (EZ h 1 (by decide)))
 two:=fun e d p q M2 hq he hd h=>by
  obtain ⟨ht,hu⟩:=Km r h hx
  rw [← EY p (by omega) q hq M2]
  unfold roots
  apply List.filter_congr
  intro k hk
  have ZI:=List.mem_range.mp hk
  rw [Bool.eq_iff_iff,Ko ht hu,decide_eq_true_iff]
  constructor
  ·intro z
   apply Classical.byContradiction
   intro n
   exact jV (eV ZI (by omega) fun e=>n (.inl e)) (eV ZI hq fun e=>n (.inr e)) z
  ·rintro (e | e)
   ·rw [e,Int.sub_self,Int.zero_mul];exact Int.dvd_zero _
   ·rw [e,Int.sub_self,Int.mul_zero];exact Int.dvd_zero _
def pP (s:Nat→Int):List Nat:=if s 0=0∨s 1=0 then [] else if ex (s 1 * P (s 0) 95 % 97) < 24 then [(ex (s 1 * P (s 0) 95 % 97)).toNat] else []
theorem Qj:∀ p:Nat,p < 24→ex ((5:Int) ^ p % 97)=p:=by decide +kernel
theorem NB {s:Nat→Int} (bs:∀ j,j < 4→0≤s j∧s j < 97) (r:¬ Cj 2 (M s)):Kq s (pP s) where
 nd:=by
  unfold pP
  split
  ·exact List.nodup_nil
  ·split <;> simp
 b:=fun p hp=>by
  unfold pP at hp
  split at hp
  ·cases hp
  ·split at hp
   ·have:=List.mem_singleton.mp hp
    rename_i h
    have:=Kf (s 1 * P (s 0) 95 % 97)
    omega
   ·cases hp
 Co:=by
  unfold pP
  split
  ·exact Nat.zero_le _
  ·split <;> simp
 one:=fun e p hp he h=>by
  have b0:=bs 0 (by decide)
  have b1:=bs 1 (by decide)
  have u0:¬ (97:Int) ∣ s 0:=fun z=>by
   have:=Int.dvd_sub z (h 0 (by decide))
   rw [Int.sub_sub_self] at this
   exact jV he (hJ (hJ j2 p) _) this
  have u1:¬ (97:Int) ∣ s 1:=fun z=>by
   have:=Int.dvd_sub z (h 1 (by decide))
   rw [Int.sub_sub_self] at this
   exact jV he (hJ (hJ j2 p) _) this
  have n0:s 0≠0:=fun z=>u0 (by rw [z];exact Int.dvd_zero _)
  have n1:s 1≠0:=fun z=>u1 (by rw [z];exact Int.dvd_zero _)
  have hv:s 1 * P (s 0) 95 % 97=5 ^ p % 97:=by
   have k:=EZ h 0 (by decide)
   have i:=Ox (a:=s 0) (by omega) b0.2
   obtain ⟨c,hc⟩:=k
   have e1:s 1=s 0 * 5 ^ p+97 * c:=by
    have:s (0+1)=s 1:=rfl
    omega
   have e2:P (s 0) 95 * s 0=1+97 * (P (s 0) 95 * s 0 / 97):=by omega
   generalize P (s 0) 95 * s 0 / 97=m at e2
   generalize (5:Int) ^ p=V at *
   have e3:s 1 * P (s 0) 95=V+97 * (m * V+c * P (s 0) 95):=by
    rw [e1]
    have:(s 0 * V+97 * c) * P (s 0) 95=(P (s 0) 95 * s 0) * V+97 * (c * P (s 0) 95):=by grind
    rw [this,e2];grind
   omega
  unfold pP
  rw [if_neg (by omega),hv,Qj p hp,if_pos (by omega),Int.toNat_natCast]
 two:=fun e d p q M2 hq he hd h=>absurd (NA M2 hq he hd h) r
structure vT (f g:Nat→Int):Prop where
 b:∀ i,i < 24→0≤g i∧g i < 97
 sealed:eU g
 Co:(kB 24 f g).length≤2
theorem Aj {f g:Nat→Int} (h:vT f g) {j:Nat} (hj:j < 6):(97:Int) ∣ T (St j) 24 f - lsum (kB 24 f g) fun i=>(f i - g i) * St j ^ i:=by
 rw [← Ck]
 have h1:=BM.mp (h.sealed j hj)
 unfold T
 omega
theorem Cp {f g:Nat→Int} {ps:List Nat} (bf:∀ i,i < 24→0≤f i∧f i < 97) (h:vT f g) (hn:¬ eU f) (hp:Kq (fun j=>T (St j) 24 f) ps):ps=kB 24 f g:=by
 have hs:=fun (j:Nat) (hj:j < 4)=>Aj h (show j < 6 by omega)
 have hm:∀ i,i ∈ kB 24 f g→i < 24∧¬ (97:Int) ∣ f i - g i:=fun i hi=>by
  obtain ⟨h1,h2⟩:=gO.mp hi
  have:=bf i h1
  have:=h.b i h1
  exact ⟨h1,by omega⟩
 have so:=Cn 24 f g
 have Co:=h.Co
 match hl:kB 24 f g with
 | [] =>
  exfalso
  refine hn (h.sealed.congr fun i hi=>?_)
  apply Classical.byContradiction
  intro z
  have:=gO.mpr ⟨hi,fun e=>z e.symm⟩
  rw [hl] at this
  cases this
 | [p] =>
  rw [hl] at hs hm
  obtain ⟨p0,p1⟩:=hm p (by simp)
  refine hp.one (f p - g p) p p0 p1 fun j hj=>?_
  have k:=hs j hj
  have e:lsum [p] (fun i=>(f i - g i) * St j ^ i)=(f p - g p) * St j ^ p:=by simp [lsum,sumTo]
  rw [e] at k
  obtain ⟨c,hc⟩:=uV (p:=p) (show j < 6 by omega)
  obtain ⟨a,ha⟩:=k
  generalize St j ^ p=A at *
  generalize ((5:Int) ^ p) ^ (j+1)=B at *
  have e2:A=B+97 * c:=by omega
  rw [e2] at ha
  exact ⟨a+(f p - g p) * c,by
   have:(f p - g p) * (B+97 * c)=(f p - g p) * B+97 * ((f p - g p) * c):=by grind
   omega⟩
 | [p,q] =>
  rw [hl] at hs hm so
  obtain ⟨p0,p1⟩:=hm p (by simp)
  obtain ⟨q0,q1⟩:=hm q (by simp)
  have M2:p < q:=by simpa using so
  refine hp.two (f p - g p) (f q - g q) p q M2 q0 p1 q1 fun j hj=>?_
  have k:=hs j hj
  have e:lsum [p,q] (fun i=>(f i - g i) * St j ^ i)=(f p - g p) * St j ^ p+(f q - g q) * St j ^ q:=by simp [lsum,sumTo]
  rw [e] at k
  obtain ⟨c,hc⟩:=uV (p:=p) (show j < 6 by omega)
  obtain ⟨d,hd⟩:=uV (p:=q) (show j < 6 by omega)
  obtain ⟨a,ha⟩:=k
  generalize St j ^ p=A at *
  generalize ((5:Int) ^ p) ^ (j+1)=B at *
  generalize St j ^ q=C at *
  generalize ((5:Int) ^ q) ^ (j+1)=D at *
  have e2:A=B+97 * c:=by omega
  have e3:C=D+97 * d:=by omega
  rw [e2,e3] at ha
  exact ⟨a+(f p - g p) * c+(f q - g q) * d,by
   have:(f p - g p) * (B+97 * c)=(f p - g p) * B+97 * ((f p - g p) * c):=by grind
   have:(f q - g q) * (D+97 * d)=(f q - g q) * D+97 * ((f q - g q) * d):=by grind
   omega⟩
 | _ :: _ :: _ :: _=>rw [hl] at Co;simp at Co
def x9 (f:Nat→Int) (ps:List Nat) (x:Nat→Int):Nat→Nat→Int
 | 0=>f
 | k+1=>fun j=>if j=ps.getD k 0 then (x9 f ps x k (ps.getD k 0) - x k) % 97 else x9 f ps x k j
theorem Ks {f:Nat→Int} (ps:List Nat) (x:Nat→Int) (bf:∀ i,i < 24→0≤f i∧f i < 97):∀ k i,i < 24→0≤x9 f ps x k i∧x9 f ps x k i < 97
 | 0,i,hi=>bf i hi
 | k+1,i,hi=>by
  unfold x9
  split
  ·exact ⟨Int.emod_nonneg _ (by decide),Int.emod_lt_of_pos _ (by decide)⟩
  ·exact Ks ps x bf k i hi
theorem BO (f:Nat→Int) (ps:List Nat) (x:Nat→Int):∀ k,k≤ps.length→∀ i,i ∉ ps→x9 f ps x k i=f i
 | 0,_,i,_=>rfl
 | k+1,hk,i,hi=>by
  unfold x9
  rw [if_neg fun e=>hi (by rw [e];simp [List.getD,show k < ps.length by omega]),BO f ps x k (by omega) i hi]
theorem getD_get {ps:List Nat} {k:Nat} (h:k < ps.length):ps.getD k 0=ps[k]:=by simp [List.getD,h]
theorem Kt (f:Nat→Int) {ps:List Nat} (nd:ps.Nodup) (x:Nat→Int):∀ k,k≤ps.length→(∀ i,i < k→x9 f ps x k (ps.getD i 0)=(f (ps.getD i 0) - x i) % 97)∧∀ i,k≤i→i < ps.length→x9 f ps x k (ps.getD i 0)=f (ps.getD i 0)
 | 0,_=>⟨fun i hi=>by omega,fun i _ _=>rfl⟩
 | k+1,hk=>by
  obtain ⟨h1,h2⟩:=Kt f nd x k (by omega)
  have ne:∀ i,i < ps.length→i≠k→ps.getD i 0≠ps.getD k 0:=fun i hi hik e=>by
   rw [getD_get hi,getD_get (by omega)] at e
   exact hik ((List.getElem_inj nd).mp e)
  refine ⟨fun i hi=>?_,fun i hi hl=>?_⟩
  ·unfold x9
   by_cases e:i=k
   ·subst e
    rw [if_pos rfl,h2 i (Nat.le_refl _) (by omega)]
   ·rw [if_neg (ne i (by omega) e),h1 i (by omega)]
  ·unfold x9
   rw [if_neg (ne i hl (by omega)),h2 i (by omega) hl]
theorem Gs {ps:List Nat} (nd:ps.Nodup) (hb:∀ p ∈ ps,p < 24):Cj ps.length (fun i q=>P 5 ((ps.getD q 0:Nat) * (1+(i:Int)))):=by
 have hg:∀ q,q < ps.length→ps.getD q 0 < 24:=fun q hq=>by rw [getD_get hq];exact hb _ (List.getElem_mem _)
 refine (Cj.congr (b:=fun i q=>((5:Int) ^ ps.getD q 0) ^ (i+1)) fun i q hi hq=>?_).mpr ?_
 ·have e:((ps.getD q 0:Nat) * (1+(i:Int))).toNat=ps.getD q 0 * (i+1):=by
   have:((ps.getD q 0:Nat):Int) * (1+(i:Int))=((ps.getD q 0 * (i+1):Nat):Int):=by rw [Int.natCast_mul,Int.natCast_add];congr 1;omega
   rw [this,Int.toNat_natCast]
  show (97:Int) ∣ (5:Int) ^ ((ps.getD q 0:Nat) * (1+(i:Int))).toNat % 97 - _
  rw [e,Int.pow_mul]
  exact hG _
 ·intro z hz i hi
  refine EW ps.length (fun q=>(5:Int) ^ ps.getD q 0) z (fun i _=>hJ j2 _) (fun i j hi hj XX=>eV (hg i hi) (hg j hj) fun e=>?_) hz i hi
  rw [getD_get hi,getD_get hj] at e
  exact XX ((List.getElem_inj nd).mp e)
theorem UJ {n:Nat} {a:qw} {b x y:Nat→Int} (hr:Cj n a) (hx:∀ i,i < n→(97:Int) ∣ ip n (a i) x - b i) (hy:∀ i,i < n→(97:Int) ∣ ip n (a i) y - b i):∀ i,i < n→(97:Int) ∣ x i - y i:=by
 intro i hi
 refine hr (fun j=>x j - y j) (fun i hi=>?_) i hi
 have e:ip n (a i) (fun j=>x j - y j)=ip n (a i) x - ip n (a i) y:=by
  have:=fR 1 (-1) (fun j=>a i j * x j) (fun j=>a i j * y j) n
  unfold ip
  rw [show sumTo n (fun j=>a i j * (x j - y j))=sumTo n (fun j=>1 * (a i j * x j)+-1 * (a i j * y j)) from a9 n fun j _=>by grind,this]
  omega
 rw [e]
 have:=Int.dvd_sub (hx i hi) (hy i hi)
 rwa [show ip n (a i) x - b i - (ip n (a i) y - b i)=ip n (a i) x - ip n (a i) y by omega] at this
theorem Ea {f g x:Nat→Int} {ps:List Nat} (bf:∀ i,i < 24→0≤f i∧f i < 97) (h:vT f g) (hn:¬ eU f) (hp:Kq (fun j=>T (St j) 24 f) ps)
  (hx:∀ i,i < ps.length→(97:Int) ∣ ip ps.length (fun q=>P 5 ((ps.getD q 0:Nat) * (1+(i:Int)))) x - T (St i) 24 f):∀ i,i < 24→x9 f ps x ps.length i=g i:=by
 have e:=Cp bf h hn hp
 have Co:=hp.Co
 have hy:∀ i,i < ps.length→(97:Int) ∣ ip ps.length (fun q=>P 5 ((ps.getD q 0:Nat) * (1+(i:Int)))) (fun q=>f (ps.getD q 0) - g (ps.getD q 0)) - T (St i) 24 f:=fun i hi=>by
  have k:=Aj h (j:=i) (by omega)
  rw [← e] at k
  have k2:(97:Int) ∣ ip ps.length (fun q=>P 5 ((ps.getD q 0:Nat) * (1+(i:Int)))) (fun q=>f (ps.getD q 0) - g (ps.getD q 0)) - lsum ps fun i'=>(f i' - g i') * St i ^ i':=by
   have h1:=fR 1 (-1) (fun q=>P 5 ((ps.getD q 0:Nat) * (1+(i:Int))) * (f (ps.getD q 0) - g (ps.getD q 0))) (fun q=>(f (ps.getD q 0) - g (ps.getD q 0)) * St i ^ ps.getD q 0) ps.length
   have h2:(97:Int) ∣ sumTo ps.length fun q=>1 * (P 5 ((ps.getD q 0:Nat) * (1+(i:Int))) * (f (ps.getD q 0) - g (ps.getD q 0)))+-1 * ((f (ps.getD q 0) - g (ps.getD q 0)) * St i ^ ps.getD q 0):=mL _ fun q _=>by
    have ee:((ps.getD q 0:Nat) * (1+(i:Int))).toNat=ps.getD q 0 * (i+1):=by
     have:((ps.getD q 0:Nat):Int) * (1+(i:Int))=((ps.getD q 0 * (i+1):Nat):Int):=by rw [Int.natCast_mul,Int.natCast_add];congr 1;omega
     rw [this,Int.toNat_natCast]
    have h3:(97:Int) ∣ P 5 ((ps.getD q 0:Nat) * (1+(i:Int))) - (5 ^ ps.getD q 0) ^ (i+1):=by
     unfold P
     rw [ee,Int.pow_mul]
     exact hG _
    obtain ⟨a,ha⟩:=h3
    obtain ⟨c,hc⟩:=uV (p:=ps.getD q 0) (show i < 6 by omega)
    generalize P 5 ((ps.getD q 0:Nat) * (1+(i:Int)))=A at *
    generalize ((5:Int) ^ ps.getD q 0) ^ (i+1)=B at *
    generalize St i ^ ps.getD q 0=C at *
    have e1:A=B+97 * a:=by omega
    have e2:C=B+97 * c:=by omega
    rw [e1,e2]
    exact ⟨(f (ps.getD q 0) - g (ps.getD q 0)) * (a - c),by grind⟩
   rw [h1] at h2
   have e5:∀ a b:Int,1 * a+-1 * b=a - b:=fun a b=>by omega
   rw [e5] at h2
   exact h2
  have:=Int.dvd_sub k2 k
  omega
 have hu:=UJ (Gs hp.nd hp.b) hx hy
 intro i hi
 by_cases hm:i ∈ ps
 ·obtain ⟨k,hk,rfl⟩:=List.getElem_of_mem hm
  have h1:=(Kt f hp.nd x ps.length (Nat.le_refl _)).1 k hk
  rw [getD_get hk] at h1
  rw [h1]
  have h2:=hu k hk
  rw [getD_get hk] at h2
  have h3:=h.b ps[k] hi
  omega
 ·rw [BO f ps x ps.length (Nat.le_refl _) i hm]
  apply Classical.byContradiction
  intro z
  exact hm (by rw [e];exact gO.mpr ⟨hi,z⟩)
theorem Eb {f x:Nat→Int} {ps:List Nat} (bf:∀ i,i < 24→0≤f i∧f i < 97) (nd:ps.Nodup) (Co:ps.length≤2) (hs:eU (x9 f ps x ps.length)):vT f (x9 f ps x ps.length) where
 b:=Ks ps x bf ps.length
 sealed:=hs
 Co:=Nat.le_trans (vS _ ps (sP _ _ _) fun i hi=>by
  apply Classical.byContradiction
  intro z
  exact (gO.mp hi).2 (BO f ps x ps.length (Nat.le_refl _) i z).symm) Co
theorem vT.self {f:Nat→Int} (bf:∀ i,i < 24→0≤f i∧f i < 97) (h:eU f):vT f f:=⟨bf,h,by
 have e:kB 24 f f=[]:=by simp [kB]
 rw [e];exact Nat.zero_le _⟩
end My
set_option genInjectivity false
namespace K29
open PySem L2 PyProof.Rows
theorem zz0:0≤sizeLine:=by decide
theorem zz1:1≤sizeLine:=by decide
theorem zz2:2≤sizeLine:=by decide
theorem zz3:3≤sizeLine:=by decide
theorem zz4:4≤sizeLine:=by decide
theorem zz5:5≤sizeLine:=by decide
theorem zz6:6≤sizeLine:=by decide
theorem zz7:7≤sizeLine:=by decide
theorem zz8:8≤sizeLine:=by decide
theorem zz12:12≤sizeLine:=by decide
theorem zz15:15≤sizeLine:=by decide
def top (i:Nat):Stmt:=PySem.Challenge.pw_stormpost_k29_puts_and_refusals.main.body.getD i (.Pass ⟨0,0,0,0⟩)
abbrev qx:Stmt:=top 20
abbrev lE:Stmt:=top 21
abbrev lF:Stmt:=top 22
abbrev xQ:Stmt:=top 23
abbrev qy:Stmt:=top 24
abbrev nF:Stmt:=top 25
abbrev kC:Stmt:=top 26
abbrev jP:Stmt:=top 27
abbrev lG:Stmt:=top 28
abbrev kD:Stmt:=top 29
abbrev j3:Stmt:=top 30
abbrev mO:Stmt:=top 31
abbrev jx:Stmt:=top 37
abbrev lH:Stmt:=top 38
abbrev nG:Stmt:=top 39
abbrev kF:Stmt:=top 40
abbrev lI:Stmt:=top 41
abbrev mP:Stmt:=top 42
abbrev pQ:Stmt:=top 43
abbrev lJ:Stmt:=top 47
abbrev hU:Stmt:=top 48
abbrev nH:Stmt:=top 49
abbrev jy:Stmt:=top 51
abbrev qz:Stmt:=top 52
abbrev dW:Stmt:=top 53
abbrev kG:Stmt:=top 54
abbrev uW:Stmt:=top 55
abbrev hV:Stmt:=top 57
abbrev hX:Stmt:=top 58
abbrev jz:Stmt:=top 68
abbrev lK:Stmt:=top 71
abbrev hZ:Stmt:=top 72
abbrev iA:Stmt:=top 73
abbrev iB:Stmt:=top 74
abbrev fS:Stmt:=top 75
abbrev eJ:Stmt:=top 76
abbrev iC:Stmt:=top 77
abbrev gQ:Stmt:=top 78
abbrev lL:Stmt:=top 79
abbrev lM:Stmt:=top 80
abbrev yA:Stmt:=top 81
def dA:Stmt→List Stmt
 | .ClassDef _ _ _ b _ _ _ _ _ _ _=>b
 | _=>[]
abbrev vU:Stmt:=(dA (top 69)).getD 0 (.Pass ⟨0,0,0,0⟩)
abbrev b9:Stmt:=(dA (top 69)).getD 1 (.Pass ⟨0,0,0,0⟩)
abbrev pR:Stmt:=(dA (top 69)).getD 2 (.Pass ⟨0,0,0,0⟩)
abbrev fT:Stmt:=(dA (top 69)).getD 3 (.Pass ⟨0,0,0,0⟩)
abbrev vV:Stmt:=(dA (top 69)).getD 4 (.Pass ⟨0,0,0,0⟩)
abbrev vW:Stmt:=(dA (top 69)).getD 5 (.Pass ⟨0,0,0,0⟩)
abbrev j4:Stmt:=(dA (top 69)).getD 6 (.Pass ⟨0,0,0,0⟩)
abbrev mQ:Stmt:=(dA (top 69)).getD 7 (.Pass ⟨0,0,0,0⟩)
abbrev fU:Stmt:=(dA (top 69)).getD 8 (.Pass ⟨0,0,0,0⟩)
abbrev fV:Stmt:=(dA (top 69)).getD 9 (.Pass ⟨0,0,0,0⟩)
abbrev fW:Stmt:=(dA (top 69)).getD 10 (.Pass ⟨0,0,0,0⟩)
abbrev Ak:Stmt:=(dA (top 69)).getD 11 (.Pass ⟨0,0,0,0⟩)
abbrev IH:Stmt:=(dA (top 69)).getD 12 (.Pass ⟨0,0,0,0⟩)
abbrev rA:Stmt:=(dA (top 69)).getD 13 (.Pass ⟨0,0,0,0⟩)
abbrev mR:Stmt:=(dA (top 69)).getD 14 (.Pass ⟨0,0,0,0⟩)
structure Ad where
 BadCell:Addr
 BadFate:Addr
 BadHouse:Addr
 BadLetter:Addr
 BadMeasure:Addr
 BadModel:Addr
 BadName:Addr
 BadNet:Addr
 BadNews:Addr
 BadPiece:Addr
 BadSign:Addr
 BadText:Addr
 DIVISOR:Addr
 LinkEnd:Addr
 NoAsk:Addr
 NoLink:Addr
 NoStream:Addr
 PostError:Addr
 init:Addr
 cA:Addr
 yB:Addr
 iD:Addr
 yC:Addr
 yD:Addr
 mS:Addr
 mT:Addr
 iE:Addr
 iF:Addr
 iG:Addr
 Cq:Addr
 Ku:Addr
 nI:Addr
 mU:Addr
structure Txt (K:PySem.W.Frag) (mg:Str→Option Value) (t:Ad):Prop where
 uX:∃ tk,mg "BIRTH_SIGNS"=some (.int 2 tk)
 II:∃ tk,mg "COUNT_AT"=some (.int 5 tk)
 uY:∃ tk,mg "FREE_PLACES"=some (.int 18 tk)
 Al:∃ tk,mg "KNOWN_AT"=some (.int 2 tk)
 Ec:∃ tk,mg "LENGTH_AT"=some (.int 6 tk)
 pS:∃ tk,mg "LONGEST_PIECE"=some (.int 10 tk)
 yE:∃ tk,mg "MOST_LATE"=some (.int 6 tk)
 yF:∃ tk,mg "MOST_LOST"=some (.int 4 tk)
 rB:∃ tk,mg "NO_BIRTH"=some (.int 0 tk)
 yG:∃ tk,mg "NUMBER_AT"=some (.int 4 tk)
 Am:∃ tk,mg "PIECE_AT"=some (.int 7 tk)
 BP:∃ tk,mg "PLACES"=some (.int 24 tk)
 Gu:∃ tk,mg "ROOT"=some (.int 5 tk)
 b6:∃ tk,mg "SIGNS"=some (.int 97 tk)
 Gv:∃ tk,mg "SUMS"=some (.int 6 tk)
 BQ:mg "ValueError"=none
 UK:mg "int"=none
 aw:mg "isinstance"=none
 kH:mg "len"=none
 sQ:mg "list"=none
 UL:mg "min"=none
 dB:mg "range"=none
 yH:mg "reversed"=none
 Gw:mg "zip"=none
 yI:mg "BadCell"=some (.ref t.BadCell)
 Kv:mg "BadFate"=some (.ref t.BadFate)
 IJ:mg "BadHouse"=some (.ref t.BadHouse)
 Ed:mg "BadLetter"=some (.ref t.BadLetter)
 pT:mg "BadMeasure"=some (.ref t.BadMeasure)
 IK:mg "BadModel"=some (.ref t.BadModel)
 Kw:mg "BadName"=some (.ref t.BadName)
 NC:mg "BadNet"=some (.ref t.BadNet)
 Kx:mg "BadNews"=some (.ref t.BadNews)
 vX:mg "BadPiece"=some (.ref t.BadPiece)
 uZ:mg "BadSign"=some (.ref t.BadSign)
 Ky:mg "BadText"=some (.ref t.BadText)
 Kz:mg "DIVISOR"=some (.ref t.DIVISOR)
 yJ:mg "LinkEnd"=some (.ref t.LinkEnd)
 Qk:mg "NoAsk"=some (.ref t.NoAsk)
 Gx:mg "NoLink"=some (.ref t.NoLink)
 IL:mg "NoStream"=some (.ref t.NoStream)
 yK:mg "PostError"=some (.ref t.PostError)
 Cr:PySem.W.excIn K t.BadCell [.type "ValueError",.type "Exception",.type "BaseException",.type "object"] "ValueError.__new__"=true
 UM:jb K t.BadCell
 Cs:PySem.W.subIn K (.ref t.BadCell) (.ref t.PostError)=some true
 Ee:PySem.W.kitOne K (.ref t.BadCell) (.ref t.BadCell)=some true
 Ef:PySem.W.kitOne K (.ref t.BadCell) (.ref t.BadFate)=some false
 Dj:PySem.W.kitOne K (.ref t.BadCell) (.ref t.BadHouse)=some false
 Ct:PySem.W.kitOne K (.ref t.BadCell) (.ref t.BadLetter)=some false
 CD:PySem.W.kitOne K (.ref t.BadCell) (.ref t.BadMeasure)=some false
 Dk:PySem.W.kitOne K (.ref t.BadCell) (.ref t.BadModel)=some false
 Eg:PySem.W.kitOne K (.ref t.BadCell) (.ref t.BadName)=some false
 Gy:PySem.W.kitOne K (.ref t.BadCell) (.ref t.BadNet)=some false
 Eh:PySem.W.kitOne K (.ref t.BadCell) (.ref t.BadNews)=some false
 Dl:PySem.W.kitOne K (.ref t.BadCell) (.ref t.BadPiece)=some false
 Ei:PySem.W.kitOne K (.ref t.BadCell) (.ref t.BadSign)=some false
 Ej:PySem.W.kitOne K (.ref t.BadCell) (.ref t.BadText)=some false
 IM:PySem.W.kitOne K (.ref t.BadCell) (.ref t.NoAsk)=some false
 Gz:PySem.W.kitOne K (.ref t.BadCell) (.ref t.NoLink)=some false
 Dm:PySem.W.kitOne K (.ref t.BadCell) (.ref t.NoStream)=some false
 CF:PySem.W.kitOne K (.ref t.BadCell) (.type "ValueError")=some true
 wY:PySem.W.excIn K t.BadMeasure [.type "ValueError",.type "Exception",.type "BaseException",.type "object"] "ValueError.__new__"=true
 Cu:jb K t.BadMeasure
 mV:PySem.W.subIn K (.ref t.BadMeasure) (.ref t.PostError)=some true
 ox:PySem.W.kitOne K (.ref t.BadMeasure) (.ref t.BadCell)=some false
 oy:PySem.W.kitOne K (.ref t.BadMeasure) (.ref t.BadFate)=some false
 nJ:PySem.W.kitOne K (.ref t.BadMeasure) (.ref t.BadHouse)=some false
 mW:PySem.W.kitOne K (.ref t.BadMeasure) (.ref t.BadLetter)=some false
 lT:PySem.W.kitOne K (.ref t.BadMeasure) (.ref t.BadMeasure)=some true
 nK:PySem.W.kitOne K (.ref t.BadMeasure) (.ref t.BadModel)=some false
 oz:PySem.W.kitOne K (.ref t.BadMeasure) (.ref t.BadName)=some false
 pU:PySem.W.kitOne K (.ref t.BadMeasure) (.ref t.BadNet)=some false
 o4:PySem.W.kitOne K (.ref t.BadMeasure) (.ref t.BadNews)=some false
 nL:PySem.W.kitOne K (.ref t.BadMeasure) (.ref t.BadPiece)=some false
 o5:PySem.W.kitOne K (.ref t.BadMeasure) (.ref t.BadSign)=some false
 o6:PySem.W.kitOne K (.ref t.BadMeasure) (.ref t.BadText)=some false
 rM:PySem.W.kitOne K (.ref t.BadMeasure) (.ref t.NoAsk)=some false
 pV:PySem.W.kitOne K (.ref t.BadMeasure) (.ref t.NoLink)=some false
 nM:PySem.W.kitOne K (.ref t.BadMeasure) (.ref t.NoStream)=some false
 lU:PySem.W.kitOne K (.ref t.BadMeasure) (.type "ValueError")=some true
 An:PySem.W.excIn K t.BadPiece [.type "ValueError",.type "Exception",.type "BaseException",.type "object"] "ValueError.__new__"=true
 IP:jb K t.BadPiece
 o7:PySem.W.subIn K (.ref t.BadPiece) (.ref t.PostError)=some true
 rN:PySem.W.kitOne K (.ref t.BadPiece) (.ref t.BadCell)=some false
 rO:PySem.W.kitOne K (.ref t.BadPiece) (.ref t.BadFate)=some false
 pW:PySem.W.kitOne K (.ref t.BadPiece) (.ref t.BadHouse)=some false
 o8:PySem.W.kitOne K (.ref t.BadPiece) (.ref t.BadLetter)=some false
 nN:PySem.W.kitOne K (.ref t.BadPiece) (.ref t.BadMeasure)=some false
 pX:PySem.W.kitOne K (.ref t.BadPiece) (.ref t.BadModel)=some false
 rP:PySem.W.kitOne K (.ref t.BadPiece) (.ref t.BadName)=some false
 sR:PySem.W.kitOne K (.ref t.BadPiece) (.ref t.BadNet)=some false
 rQ:PySem.W.kitOne K (.ref t.BadPiece) (.ref t.BadNews)=some false
 pY:PySem.W.kitOne K (.ref t.BadPiece) (.ref t.BadPiece)=some true
 rR:PySem.W.kitOne K (.ref t.BadPiece) (.ref t.BadSign)=some false
 rS:PySem.W.kitOne K (.ref t.BadPiece) (.ref t.BadText)=some false
 ua:PySem.W.kitOne K (.ref t.BadPiece) (.ref t.NoAsk)=some false
 sS:PySem.W.kitOne K (.ref t.BadPiece) (.ref t.NoLink)=some false
 pZ:PySem.W.kitOne K (.ref t.BadPiece) (.ref t.NoStream)=some false
 nO:PySem.W.kitOne K (.ref t.BadPiece) (.type "ValueError")=some true
 yL:PySem.W.excIn K t.BadSign [.type "ValueError",.type "Exception",.type "BaseException",.type "object"] "ValueError.__new__"=true
 UN:jb K t.BadSign
 Cv:PySem.W.subIn K (.ref t.BadSign) (.ref t.PostError)=some true
 Ek:PySem.W.kitOne K (.ref t.BadSign) (.ref t.BadCell)=some false
 En:PySem.W.kitOne K (.ref t.BadSign) (.ref t.BadFate)=some false
 Dn:PySem.W.kitOne K (.ref t.BadSign) (.ref t.BadHouse)=some false
 Cw:PySem.W.kitOne K (.ref t.BadSign) (.ref t.BadLetter)=some false
 CG:PySem.W.kitOne K (.ref t.BadSign) (.ref t.BadMeasure)=some false
 Dp:PySem.W.kitOne K (.ref t.BadSign) (.ref t.BadModel)=some false
 Eo:PySem.W.kitOne K (.ref t.BadSign) (.ref t.BadName)=some false
 G4:PySem.W.kitOne K (.ref t.BadSign) (.ref t.BadNet)=some false
 Ep:PySem.W.kitOne K (.ref t.BadSign) (.ref t.BadNews)=some false
 Dq:PySem.W.kitOne K (.ref t.BadSign) (.ref t.BadPiece)=some false
 Er:PySem.W.kitOne K (.ref t.BadSign) (.ref t.BadSign)=some true
 Es:PySem.W.kitOne K (.ref t.BadSign) (.ref t.BadText)=some false
 IQ:PySem.W.kitOne K (.ref t.BadSign) (.ref t.NoAsk)=some false
 G5:PySem.W.kitOne K (.ref t.BadSign) (.ref t.NoLink)=some false
 Dr:PySem.W.kitOne K (.ref t.BadSign) (.ref t.NoStream)=some false
 CH:PySem.W.kitOne K (.ref t.BadSign) (.type "ValueError")=some true
 ND:PySem.W.excIn K t.NoLink [.type "ValueError",.type "Exception",.type "BaseException",.type "object"] "ValueError.__new__"=true
 NF:jb K t.NoLink
 rT:PySem.W.subIn K (.ref t.NoLink) (.ref t.PostError)=some true
 uc:PySem.W.kitOne K (.ref t.NoLink) (.ref t.BadCell)=some false
 ud:PySem.W.kitOne K (.ref t.NoLink) (.ref t.BadFate)=some false
 sT:PySem.W.kitOne K (.ref t.NoLink) (.ref t.BadHouse)=some false
 rV:PySem.W.kitOne K (.ref t.NoLink) (.ref t.BadLetter)=some false
 pd:PySem.W.kitOne K (.ref t.NoLink) (.ref t.BadMeasure)=some false
 sU:PySem.W.kitOne K (.ref t.NoLink) (.ref t.BadModel)=some false
 ue:PySem.W.kitOne K (.ref t.NoLink) (.ref t.BadName)=some false
 vY:PySem.W.kitOne K (.ref t.NoLink) (.ref t.BadNet)=some false
 uf:PySem.W.kitOne K (.ref t.NoLink) (.ref t.BadNews)=some false
 sV:PySem.W.kitOne K (.ref t.NoLink) (.ref t.BadPiece)=some false
 ug:PySem.W.kitOne K (.ref t.NoLink) (.ref t.BadSign)=some false
 uh:PySem.W.kitOne K (.ref t.NoLink) (.ref t.BadText)=some false
 wz:PySem.W.kitOne K (.ref t.NoLink) (.ref t.NoAsk)=some false
 vZ:PySem.W.kitOne K (.ref t.NoLink) (.ref t.NoLink)=some true
 sW:PySem.W.kitOne K (.ref t.NoLink) (.ref t.NoStream)=some false
 pe:PySem.W.kitOne K (.ref t.NoLink) (.type "ValueError")=some true
 Cy:Qc K t.DIVISOR [V.int (21),V.int (80),V.int (53),V.int (2),V.int (55),V.int (63)]
 yM:Mk K t.LinkEnd t.init
 fi:∃ fd,mI K "__init__" "LinkEnd.__init__" vU t.init fd
 aI:He K t.LinkEnd
 yN:c9 K t.LinkEnd "quiet"
 G6:c9 K t.LinkEnd "side"
 xR:c9 K t.LinkEnd "done"
 nP:c9 K t.LinkEnd "unheard"
 mX:c9 K t.LinkEnd "birth"
 iH:c9 K t.LinkEnd "known"
 iI:c9 K t.LinkEnd "pair"
 nQ:c9 K t.LinkEnd "told"
 ik:c9 K t.LinkEnd "pieces"
 nR:c9 K t.LinkEnd "offered"
 pf:c9 K t.LinkEnd "taken"
 mY:pI K t.LinkEnd "forget_pieces" t.cA
 w6:∃ fd,mI K "forget_pieces" "LinkEnd.forget_pieces" b9 t.cA fd
 G7:pI K t.LinkEnd "tick" t.yB
 Ql:∃ fd,mI K "tick" "LinkEnd.tick" pR t.yB fd
 zQ:pI K t.LinkEnd "cell_given" t.iD
 BR:∃ fd,mI K "cell_given" "LinkEnd.cell_given" fT t.iD fd
 NG:pI K t.LinkEnd "read" t.yC
 Qm:∃ fd,mI K "read" "LinkEnd.read" vV t.yC fd
 NH:pI K t.LinkEnd "meet" t.yD
 Qn:∃ fd,mI K "meet" "LinkEnd.meet" vW t.yD fd
 Et:pI K t.LinkEnd "come_up" t.mS
 IS:∃ fd,mI K "come_up" "LinkEnd.come_up" j4 t.mS fd
 Ao:pI K t.LinkEnd "end_up" t.mT
 K0:∃ fd,mI K "end_up" "LinkEnd.end_up" mQ t.mT fd
 zR:pI K t.LinkEnd "start_over" t.iE
 BS:∃ fd,mI K "start_over" "LinkEnd.start_over" fU t.iE fd
 zS:pI K t.LinkEnd "hear_count" t.iF
 BU:∃ fd,mI K "hear_count" "LinkEnd.hear_count" fV t.iF fd
 zT:pI K t.LinkEnd "take_piece" t.iG
 BV:∃ fd,mI K "take_piece" "LinkEnd.take_piece" fW t.iG fd
 Qo:pI K t.LinkEnd "put" t.Cq
 UO:∃ fd,mI K "put" "LinkEnd.put" Ak t.Cq fd
 Cz:pI K t.LinkEnd "up" t.Ku
 XZ:∃ fd,mI K "up" "LinkEnd.up" IH t.Ku fd
 kI:pI K t.LinkEnd "waits" t.nI
 NI:∃ fd,mI K "waits" "LinkEnd.waits" rA t.nI fd
 rC:pI K t.LinkEnd "events" t.mU
 K1:∃ fd,mI K "events" "LinkEnd.events" mR t.mU fd
 ph:Catch K t.PostError
section
variable {P:Program} {w:World} {K:PySem.W.Frag} {mg:Str→Option Value} {base:Heap} {t:Ad}
def nS:Sp:=fun vs H Q _=>∃ n:Int,vs=[.int n]∧Q (.bl (decide (0≤n∧n < 97))) H
theorem Eu:aP ["number"] ["number"] (aG qx):=⟨rfl,rfl,rfl,by decide +kernel,rfl,by decide +kernel,by decide +kernel⟩
theorem Ew (F:aO K mg "is_sign" qx) (T:Txt K mg t):Def P w K mg base 1 "is_sign" ["number"] nS:=by
 refine F.def Eu (fun _ _ _ _ _ _ us hl=>match us,hl with | [_],_=>rfl) (fun vs H Q E h=>?_) (fun f bM A outer s H vs Q E hr h=>?_)
 ·obtain ⟨n,rfl,_⟩:=h
  rfl
 ·obtain ⟨n,rfl,q⟩:=h
  refine ⟨_,aH (aY (Ji uI AU aF (pv 0) (aS T.b6))),?_⟩
  refine ⟨_,rfl,_,_,rfl,rfl,_,rfl,?_⟩
  by_cases h0:0≤n
  ·rw [decide_eq_true h0]
   refine ja ⟨_,_,rfl,rfl,?_⟩
   have e:decide (n < 97)=decide (0≤n∧n < 97):=by simp [h0]
   show Q (.bl (decide (n < 97))) H
   rw [e]
   exact q
  ·rw [decide_eq_false h0]
   refine eS ?_
   have e:false=decide (0≤n∧n < 97):=by simp [h0]
   show Q (.bl false) H
   rw [e]
   exact q
def C1 (m:Int) (ns:List Int):Prop:=(ns.length:Int)=m∧∀ n ∈ ns,0≤n∧n < 97
def lV (K:PySem.W.Frag) (C:Addr):Sp:=fun vs H Q E=>∃ (l:Addr) (ns:List Int) (m:Int),vs=[.ref l,.int m]∧aT K H l (ns.map V.int)∧(∀ n ∈ ns,n.natAbs < 2 ^ 1000)∧m.natAbs < 2 ^ 1000 ∧
 (C1 m ns→Q .bH H)∧(¬ C1 m ns→E (.ref C) none H)
theorem iJ {i:Int} (h:i.natAbs < 2 ^ 1000):(Str.ofString (toString i)).length≤1001:=by
 have hl:i.natAbs.log2 < 1000:=by
  by_cases z:i.natAbs=0
  ·rw [z];decide
  ·exact (Nat.log2_lt z).mpr h
 have e:=int_text_length_le (k:=1000) (by decide) hl
 rw [PySem.ofString_length];omega
theorem rY:aP ["signs","many","sign"] ["signs","many"] (aG jx):=⟨rfl,rfl,rfl,by decide +kernel,rfl,by decide +kernel,by decide +kernel⟩
theorem zU (F:aO K mg "look_signs" jx) (T:Txt K mg t) (il:Def P w K mg base 1 "is_sign" ["number"] nS):Def P w K mg base 2 "look_signs" ["signs","many"] (lV K t.BadCell):=by
 refine F.def rY (fun _ _ _ _ _ _ us hl=>match us,hl with | [_,_],_=>rfl) (fun vs H Q E h=>?_) (fun f bM A outer s H vs Q E hr h=>?_)
 ·obtain ⟨l,ns,m,rfl,_⟩:=h
  rfl
 ·obtain ⟨l,ns,m,rfl,hl,hb,hm,q1,q2⟩:=h
  refine ⟨_,aC (bG (aV uH (bQ (bP K) (by rfl) T.kH boot_len (aA (pv 0) aD)) (pv 1) (aa _))
    (aH (gN ax rfl rfl T.yI T.Cr PySem.F.excBase_ValueError (aA (lB (bJ (gz (pv 1)) (bJ cR pN))) aD)))
    (aj))
   (aH (cT (QQ ax) rfl (bK K (pv 0)) (ak (i:=2) rY.nd rfl (Or.inl rfl))
    (aH (bG (mq (pF (aZ (il.mono (by decide)) hr aX (aA (pv 2) aD))))
     (aH (gN ax rfl rfl T.yI T.Cr PySem.F.excBase_ValueError (aA (lB (bJ (gz (pv 2)) (bJ cR pN))) aD)))
     (aj))))),?_⟩
  have sl:(2000:Nat)≤sizeLine:=by decide
  refine ⟨_,rfl,l,_,rfl,.inl hl,_,rfl,rfl,_,rfl,?_⟩
  by_cases hlen:(ns.length:Int)=m
  ·refine oZ (by rw [List.length_map,hlen]) ?_
   refine ⟨_,rfl,l,rfl,⟨_,hl⟩,gM (K:=K) (a:=l) (xs:=ns.map V.int) (fun i σ H'=>∃ x:Option V,σ=[some (.ref l),some (.int m),x]∧H'=H∧∀ n ∈ ns.take i,0≤n∧n < 97) ⟨none,rfl,rfl,fun n hn=>by simp at hn⟩ (fun i σ H' _ ⟨_,_,e,_⟩=>by rw [e];exact hl) ?_ ?_⟩
   ·rintro i y σ H' hi ⟨x,rfl,rfl,ha⟩
    obtain ⟨z,hz,rfl⟩:=lC hi
    have Qp:z ∈ ns:=List.mem_of_getElem? hz
    refine ⟨_,rfl,z,rfl,_,rfl,?_⟩
    by_cases h0:0≤z∧z < 97
    ·rw [decide_eq_true h0]
     refine eS ⟨some (.int z),rfl,rfl,?_⟩
     rw [take_succ hz]
     intro n hn
     rcases List.mem_append.mp hn with z1 | z1
     ·exact ha n z1
     ·rw [List.mem_singleton.mp z1];exact h0
    ·rw [decide_eq_false h0]
     refine ja ?_
     have ZJ:=iJ (hb z Qp)
     have e0:(Str.empty ++ Str.ofString (toString z)).length≤1001:=by rw [strLen_append];show 0+_≤1001;omega
     have e1:((Str.empty ++ Str.ofString (toString z)) ++ (" is no sign":Str)).length≤2000:=by
      have:(" is no sign":Str).length=11:=by decide +kernel
      rw [strLen_append];omega
     refine ⟨_,rfl,z,rfl,df (hb z Qp) (by decide) (by decide),_,rfl,by omega,_,rfl,by omega,by omega,?_⟩
     exact ⟨zz1,q2 fun r=>h0 (r.2 z Qp)⟩
   ·rintro σ H' ⟨x,rfl,rfl,ha⟩
    rw [List.length_map,List.take_length] at ha
    exact q1 ⟨hlen,ha⟩
  ·refine xw (fun e=>hlen (by have:=V.int.inj e;rwa [List.length_map] at this)) ?_
   have ZJ:=iJ hm
   have e0:(Str.empty ++ Str.ofString (toString m)).length≤1001:=by rw [strLen_append];show 0+_≤1001;omega
   have e1:((Str.empty ++ Str.ofString (toString m)) ++ (" signs are asked for here":Str)).length≤2000:=by
    have:(" signs are asked for here":Str).length=25:=by decide +kernel
    rw [strLen_append];omega
   refine ⟨_,rfl,m,rfl,df hm (by decide) (by decide),_,rfl,by omega,_,rfl,by omega,by omega,?_⟩
   exact ⟨zz1,q2 fun r=>hlen r.1⟩
structure IsCell (n:Nat) (f:Nat→Int):Prop where
 b:∀ i,i < n→0≤f i∧f i < 97
theorem IsCell.row {n:Nat} {f:Nat→Int} (h:IsCell n f):C1 n ((List.range n).map f):=by
 refine ⟨by simp,fun x hx=>?_⟩
 obtain ⟨i,hi,rfl⟩:=List.mem_map.mp hx
 exact h.b i (List.mem_range.mp hi)
theorem IsCell.ZK {n:Nat} {f:Nat→Int} (h:IsCell n f):∀ x ∈ (List.range n).map f,x.natAbs < 2 ^ 1000:=fun x hx=>by
 obtain ⟨i,hi,rfl⟩:=List.mem_map.mp hx
 have:=h.b i (List.mem_range.mp hi)
 exact ig (by omega) (by omega)
def ui (K:PySem.W.Frag) (C:Addr):Sp:=fun vs H Q E=>∃ (l:Addr) (ns:List Int),vs=[.ref l]∧aT K H l (ns.map V.int)∧(∀ n ∈ ns,n.natAbs < 2 ^ 1000) ∧
 (C1 24 ns→Q .bH H)∧(¬ C1 24 ns→E (.ref C) none H)
theorem BW:aP ["cell"] ["cell"] (aG lH):=⟨rfl,rfl,rfl,by decide +kernel,rfl,by decide +kernel,by decide +kernel⟩
theorem BX (F:aO K mg "look_cell" lH) (T:Txt K mg t) (fX:Def P w K mg base 2 "look_signs" ["signs","many"] (lV K t.BadCell)):Def P w K mg base 3 "look_cell" ["cell"] (ui K t.BadCell):=by
 refine F.def BW (fun _ _ _ _ _ _ us hl=>match us,hl with | [_],_=>rfl) (fun vs H Q E h=>?_) (fun f bM A outer s H vs Q E hr h=>?_)
 ·obtain ⟨l,ns,rfl,_⟩:=h
  rfl
 ·obtain ⟨l,ns,rfl,hl,hb,q1,q2⟩:=h
  refine ⟨_,aH (ar (aZ (fX.mono (by decide)) hr (mJ ax) (aA (pv 0) (aA (aS T.BP) aD)))),?_⟩
  exact ⟨_,rfl,l,ns,24,rfl,hl,hb,by decide,q1,q2⟩
def j0 (C:Addr):Sp:=fun vs H Q E=>∃ n:Int,vs=[.int n]∧n.natAbs < 2 ^ 1000∧(0≤n∧n < 97→Q .bH H)∧(¬ (0≤n∧n < 97)→E (.ref C) none H)
theorem BY:aP ["number"] ["number"] (aG lE):=⟨rfl,rfl,rfl,by decide +kernel,rfl,by decide +kernel,by decide +kernel⟩
theorem BZ (F:aO K mg "look_sign" lE) (T:Txt K mg t) (D1:Def P w K mg base 1 "is_sign" ["number"] nS):Def P w K mg base 2 "look_sign" ["number"] (j0 t.BadSign):=by
 refine F.def BY (fun _ _ _ _ _ _ us hl=>match us,hl with | [_],_=>rfl) (fun vs H Q E h=>?_) (fun f bM A outer s H vs Q E hr h=>?_)
 ·obtain ⟨n,rfl,_⟩:=h
  rfl
 ·obtain ⟨n,rfl,hb,q1,q2⟩:=h
  refine ⟨_,aH (bG (mq (pF (aZ D1 hr aX (aA (pv 0) aD))))
   (aH (gN ax rfl rfl T.uZ T.yL PySem.F.excBase_ValueError (aA (lB (bJ (gz (pv 0)) (bJ cR pN))) aD))) aj),?_⟩
  refine ⟨_,rfl,n,rfl,_,rfl,?_⟩
  by_cases h0:0≤n∧n < 97
  ·rw [decide_eq_true h0]
   exact eS (q1 h0)
  ·rw [decide_eq_false h0]
   refine ja ?_
   have hz:=iJ hb
   have e0:(Str.empty ++ Str.ofString (toString n)).length≤1001:=by rw [strLen_append];show 0+_≤1001;omega
   have e1:((Str.empty ++ Str.ofString (toString n)) ++ (" is no sign":Str)).length≤2000:=by
    have:(" is no sign":Str).length=11:=by decide +kernel
    rw [strLen_append];omega
   have sl:(2000:Nat)≤sizeLine:=by decide
   refine ⟨_,rfl,n,rfl,df hb (by decide) (by decide),_,rfl,by omega,_,rfl,by omega,by omega,?_⟩
   exact ⟨zz1,q2 h0⟩
def nT (C:Addr):Sp:=fun vs H Q E=>∃ n:Int,vs=[.int n]∧n.natAbs < 2 ^ 1000∧(0 < n∧n < 97→Q .bH H)∧(¬ (0 < n∧n < 97)→E (.ref C) none H)
theorem Ba:aP ["number"] ["number"] (aG lF):=⟨rfl,rfl,rfl,by decide +kernel,rfl,by decide +kernel,by decide +kernel⟩
theorem Bb (F:aO K mg "look_unit" lF) (T:Txt K mg t) (D2:Def P w K mg base 2 "look_sign" ["number"] (j0 t.BadSign)):Def P w K mg base 3 "look_unit" ["number"] (nT t.BadSign):=by
 refine F.def Ba (fun _ _ _ _ _ _ us hl=>match us,hl with | [_],_=>rfl) (fun vs H Q E h=>?_) (fun f bM A outer s H vs Q E hr h=>?_)
 ·obtain ⟨n,rfl,_⟩:=h
  rfl
 ·obtain ⟨n,rfl,hb,q1,q2⟩:=h
  refine ⟨_,aC (ar (aZ D2 hr (mJ ax) (aA (pv 0) aD)))
   (aH (bG (aV mH (pv 0) aF (aa _)) (aH (gN ax rfl rfl T.uZ T.yL PySem.F.excBase_ValueError (aA cR aD))) aj)),?_⟩
  refine ⟨_,rfl,n,rfl,hb,fun h0=>?_,fun h0=>q2 (by omega)⟩
  refine ⟨_,rfl,rfl,_,rfl,?_⟩
  by_cases z:n=0
  ·subst z
   refine ja ?_
   exact ⟨zz1,q2 (by omega)⟩
  ·have e:decide (V.int n=V.int 0)=false:=decide_eq_false fun q=>z (V.int.inj q)
   rw [e]
   exact eS (q1 (by omega))
def pj (C:Addr):Sp:=fun vs H Q E=>∃ a k:Int,vs=[.int a,.int k]∧a.natAbs < 2 ^ 1000∧0≤k∧(0≤a∧a < 97→Q (.int (My.P a k)) H)∧(¬ (0≤a∧a < 97)→E (.ref C) none H)
def K2:L2.St→Hp→Nat:=fun σ _=>match σ with
 | [_,_,_,_,some (.int s)]=>s.toNat
 | _=>0
theorem kJ:aP ["a","k","product","square","left"] ["a","k"] (aG xQ):=⟨rfl,rfl,rfl,by decide +kernel,rfl,by decide +kernel,by decide +kernel⟩
theorem K3 (F:aO K mg "power" xQ) (T:Txt K mg t) (eW:Def P w K mg base 2 "look_sign" ["number"] (j0 t.BadSign)):Def P w K mg base 3 "power" ["a","k"] (pj t.BadSign):=by
 refine F.def kJ (fun _ _ _ _ _ _ us hl=>match us,hl with | [_,_],_=>rfl) (fun vs H Q E h=>?_) (fun f bM A outer s H vs Q E hr h=>?_)
 ·obtain ⟨a,k,rfl,_⟩:=h
  rfl
 ·obtain ⟨a,k,rfl,hb,k0,q1,q2⟩:=h
  refine ⟨_,aC (ar (aZ (eW.mono (by decide)) hr (mJ ax) (aA (pv 0) aD)))
   (aC (aR (i:=2) kJ.nd rfl (Or.inl rfl) aF)
   (aC (aR (i:=3) kJ.nd rfl (Or.inl rfl) (pv 0))
   (aC (aR (i:=4) kJ.nd rfl (Or.inl rfl) (pv 1))
   (aC (PS.A2 (CM PassesOwn.never (aV GP (pv 4) aF (aa _))
    (aC (bG (aV mH (aN az (pv 4) aF) aF (aa _))
     (aH (aR (i:=2) kJ.nd rfl (Or.inl rfl) (aN az (aN ff (pv 2) (pv 3)) (aS T.b6))))
     (aj))
    (aC (aR (i:=3) kJ.nd rfl (Or.inl rfl) (aN az (aN ff (pv 3) (pv 3)) (aS T.b6)))
    (aH (aR (i:=4) kJ.nd rfl (Or.inl rfl) (aN jN (pv 4) aF)))))))
   (aH (aY (pv 2))))))),?_⟩
  refine ⟨_,rfl,a,rfl,hb,fun h0=>?_,fun h0=>q2 h0⟩
  refine ⟨_,rfl,?_⟩
  refine ⟨_,rfl,?_⟩
  refine CO (fun σ H'=>∃ p q l:Int,σ=[some (.int a),some (.int k),some (.int p),some (.int q),some (.int l)]∧H'=H∧0≤p∧p < 97∧0≤q∧q < 97∧0≤l∧p * q ^ l.toNat % 97=My.P a k) K2 ⟨1,a,k,rfl,rfl,by decide,by decide,h0.1,h0.2,k0,My.Cg⟩ ?_ ?_
  ·rintro σ H' ⟨p,q,l,rfl,rfl,p0,p1,q0,q1',l0,hh⟩
   refine ⟨_,rfl,_,_,rfl,rfl,_,rfl,?_⟩
   refine QB (fun h=>?_) (fun h=>?_)
   ·have hl:0 < l:=of_decide_eq_true h
    have ZL:(l / 2).toNat < l.toNat:=by omega
    refine ⟨_,rfl,_,_,rfl,rfl,(by show (0:Int) < 2;decide),rfl,_,rfl,?_⟩
    refine QB (fun h2=>?_) (fun h2=>?_)
    ·have ho:l % 2=1:=V.int.inj (of_decide_eq_true h2)
     refine ⟨_,rfl,_,rfl,_,_,rfl,rfl,.inl ⟨by omega,by omega⟩,_,_,rfl,rfl,(by show (0:Int) < 97;decide),?_⟩
     refine ⟨_,rfl,_,rfl,_,_,rfl,rfl,.inl ⟨by omega,by omega⟩,_,_,rfl,rfl,(by show (0:Int) < 97;decide),?_⟩
     refine ⟨_,rfl,_,_,rfl,rfl,⟨by decide,by decide⟩,?_⟩
     exact ⟨⟨_,_,_,rfl,rfl,Int.emod_nonneg _ (by decide),Int.emod_lt_of_pos _ (by decide),Int.emod_nonneg _ (by decide),Int.emod_lt_of_pos _ (by decide),by omega,My.IC hl ho hh⟩,ZL⟩
    ·have ho:l % 2≠1:=fun z=>h2 (decide_eq_true (congrArg V.int z))
     refine ⟨_,rfl,_,rfl,_,_,rfl,rfl,.inl ⟨by omega,by omega⟩,_,_,rfl,rfl,(by show (0:Int) < 97;decide),?_⟩
     refine ⟨_,rfl,_,_,rfl,rfl,⟨by decide,by decide⟩,?_⟩
     exact ⟨⟨_,_,_,rfl,rfl,p0,p1,Int.emod_nonneg _ (by decide),Int.emod_lt_of_pos _ (by decide),by omega,My.ET hl ho hh⟩,ZL⟩
   ·have hl:¬ 0 < l:=fun z=>h (decide_eq_true z)
    refine ⟨_,rfl,?_⟩
    rw [My.ID (by omega) p0 p1 hh]
    exact q1 h0
  ·rintro σ H' Q1 Q2 hm ⟨v,e,i,j,ei,ej,k,ek,q⟩
   exact ⟨v,e,i,j,ei,ej,k,ek,hm _ _ q⟩
def sX (C:Addr):Sp:=fun vs H Q E=>∃ a:Int,vs=[.int a]∧a.natAbs < 2 ^ 1000∧(0 < a∧a < 97→Q (.int (My.P a 95)) H)∧(¬ (0 < a∧a < 97)→E (.ref C) none H)
theorem Ex:aP ["a"] ["a"] (aG qy):=⟨rfl,rfl,rfl,by decide +kernel,rfl,by decide +kernel,by decide +kernel⟩
theorem Ey (F:aO K mg "inverse" qy) (T:Txt K mg t) (lN:Def P w K mg base 3 "look_unit" ["number"] (nT t.BadSign)) (gR:Def P w K mg base 3 "power" ["a","k"] (pj t.BadSign)):Def P w K mg base 4 "inverse" ["a"] (sX t.BadSign):=by
 refine F.def Ex (fun _ _ _ _ _ _ us hl=>match us,hl with | [_],_=>rfl) (fun vs H Q E h=>?_) (fun f bM A outer s H vs Q E hr h=>?_)
 ·obtain ⟨a,rfl,_⟩:=h
  rfl
 ·obtain ⟨a,rfl,hb,q1,q2⟩:=h
  refine ⟨_,aC (ar (aZ (lN.mono (by decide)) hr (mJ ax) (aA (pv 0) aD)))
   (aH (aY (aZ (gR.mono (by decide)) hr (mJ ax) (aA (pv 0) (aA (aN dc (aS T.b6) aF) aD))))),?_⟩
  refine ⟨_,rfl,a,rfl,hb,fun h0=>?_,fun h0=>q2 h0⟩
  refine ⟨_,rfl,_,_,rfl,rfl,a,95,rfl,hb,by decide,fun _=>q1 h0,fun h1=>absurd ⟨by omega,h0.2⟩ h1⟩
def wZ (C:Addr):Sp:=fun vs H Q E=>∃ n:Int,vs=[.int n]∧n.natAbs < 2 ^ 1000∧(0 < n∧n < 97→Q (.int (My.ex n)) H)∧(¬ (0 < n∧n < 97)→E (.ref C) none H)
theorem jW:aP ["a","steps","reached"] ["a"] (aG nF):=⟨rfl,rfl,rfl,by decide +kernel,rfl,by decide +kernel,by decide +kernel⟩
def UP:L2.St→Hp→Nat:=fun σ _=>match σ with
 | [_,some (.int s),_]=>(100 - s).toNat
 | _=>0
theorem C3 (F:aO K mg "exponent" nF) (T:Txt K mg t) (D3:Def P w K mg base 3 "look_unit" ["number"] (nT t.BadSign)):Def P w K mg base 4 "exponent" ["a"] (wZ t.BadSign):=by
 refine F.def jW (fun _ _ _ _ _ _ us hl=>match us,hl with | [_],_=>rfl) (fun vs H Q E h=>?_) (fun f bM A outer s H vs Q E hr h=>?_)
 ·obtain ⟨n,rfl,_⟩:=h
  rfl
 ·obtain ⟨a,rfl,hb,q1,q2⟩:=h
  refine ⟨_,aC (ar (aZ D3 hr (mJ ax) (aA (pv 0) aD)))
   (aC (aR (i:=1) jW.nd rfl (Or.inl rfl) aF)
   (aC (aR (i:=2) jW.nd rfl (Or.inl rfl) aF)
   (aC (PS.A2 (CM PassesOwn.never (aV uH (pv 2) (pv 0) (aa _))
    (aC (aR (i:=2) jW.nd rfl (Or.inl rfl) (aN az (aN ff (pv 2) (aS T.Gu)) (aS T.b6)))
    (aH (aR (i:=1) jW.nd rfl (Or.inl rfl) (aN bj (pv 1) aF))))))
   (aH (aY (pv 1)))))),?_⟩
  refine ⟨_,rfl,a,rfl,hb,fun h0=>?_,fun h0=>q2 h0⟩
  refine CO (fun σ H'=>∃ st:Int,σ=[some (.int a),some (.int st),some (.int (My.up st))]∧H'=H∧0≤st∧st≤My.ex a) UP ⟨0,by rw [My.M1];rfl,rfl,Int.le_refl _,My.Kf a⟩ ?_ ?_
  ·rintro σ H' ⟨st,rfl,rfl,s0,s1⟩
   refine ⟨_,rfl,_,rfl,rfl,_,rfl,?_⟩
   have he:=My.T9 h0.1 h0.2
   by_cases z:My.up st=a
   ·have e:decide (V.int (My.up st)=V.int a)=true:=decide_eq_true (by rw [z])
    rw [e]
    refine eS ⟨_,rfl,?_⟩
    have es:st=My.ex a:=by
     by_cases l:st < My.ex a
     ·exact absurd z (My.UB h0.1 h0.2 s0 l)
     ·omega
    rw [es]
    exact q1 h0
   ·have e:decide (V.int (My.up st)=V.int a)=false:=decide_eq_false fun q=>z (V.int.inj q)
    rw [e]
    refine ja ?_
    have u0:0≤My.up st:=Int.emod_nonneg _ (by decide)
    have u1:My.up st < 97:=Int.emod_lt_of_pos _ (by decide)
    refine ⟨_,rfl,_,_,rfl,rfl,.inl ⟨by omega,by omega⟩,_,_,rfl,rfl,(by show (0:Int) < 97;decide),_,rfl,_,_,rfl,rfl,?_⟩
    have Di:st≠My.ex a:=fun q=>z (by rw [q];exact My.UA h0.1 h0.2)
    refine ⟨⟨st+1,by rw [← My.M0 s0 rfl];rfl,rfl,by omega,by omega⟩,?_⟩
    show (100 - (st+1)).toNat < (100 - st).toNat
    omega
  ·rintro σ H' Q1 Q2 hm ⟨v,e,u,e2,hs,k,ek,q⟩
   exact ⟨v,e,u,e2,hs,k,ek,hm _ _ q⟩
def wa (K:PySem.W.Frag):Sp:=fun vs H Q _=>∃ (l:Addr) (n:Nat) (f:Nat→Int) (x:Int),vs=[.ref l,.int x]∧aT K H l (tabI n f)∧Q (.int (My.T x n f)) H
theorem NJ {n:Nat} {f:Nat→V} {i:Nat} {x:V} (h:(be n f).reverse[i]?=some x):i < n∧x=f (n - 1 - i):=by
 have hi:i < n:=by
  have:=(List.getElem?_eq_some_iff.mp h).1
  rwa [List.length_reverse,aL] at this
 rw [List.getElem?_reverse (by rw [aL];exact hi),aL,bS (by omega)] at h
 exact ⟨hi,(Option.some.inj h).symm⟩
theorem lO:aP ["signs","point","value","sign"] ["signs","point"] (aG nG):=⟨rfl,rfl,rfl,by decide +kernel,rfl,by decide +kernel,by decide +kernel⟩
theorem C4 (F:aO K mg "value_at" nG) (T:Txt K mg t):Def P w K mg base 1 "value_at" ["signs","point"] (wa K):=by
 refine F.def lO (fun _ _ _ _ _ _ us hl=>match us,hl with | [_,_],_=>rfl) (fun vs H Q E h=>?_) (fun f bM A outer s H vs Q E hr h=>?_)
 ·obtain ⟨l,n,f,x,rfl,_⟩:=h
  rfl
 ·obtain ⟨l,n,f,x,rfl,hl,q⟩:=h
  refine ⟨_,aC (aR (i:=2) lO.nd rfl (Or.inl rfl) aF)
   (aC (PS.A2 (cT PassesOwn.never rfl (BJ K (by rfl) T.yH (aA (pv 0) aD)) (ak (i:=3) lO.nd rfl (Or.inl rfl))
    (aH (aR (i:=2) lO.nd rfl (Or.inl rfl) (aN az (aN bj (aN ff (pv 2) (pv 1)) (pv 3)) (aS T.b6))))))
   (aH (aY (pv 2)))),?_⟩
  refine ⟨_,rfl,l,_,rfl,hl,Mt (K:=K) (a:=l) (xs:=tabI n f) (fun i σ H'=>∃ v:Option V,σ=[some (.ref l),some (.int x),some (.int (My.hv f n x i)),v]∧H'=H) ⟨none,rfl,rfl⟩ (fun i σ H' _ ⟨_,_,e⟩=>by rw [e];exact hl) ?_ ?_⟩
  ·rintro i y σ H' hi ⟨v,rfl,rfl⟩
   obtain ⟨C5,rfl⟩:=NJ hi
   have h0:=My.Oy f n x i
   have h1:=My.Oz f n x i
   refine ⟨_,rfl,_,rfl,_,_,rfl,rfl,.inl ⟨by omega,by omega⟩,_,rfl,_,_,rfl,rfl,_,_,rfl,rfl,(by show (0:Int) < 97;decide),?_⟩
   exact ⟨_,rfl,rfl⟩
  ·rintro σ H' ⟨v,rfl,rfl⟩
   refine ⟨_,rfl,?_⟩
   rw [aL,My.XW]
   exact q
def pk (K:PySem.W.Frag):Sp:=fun vs H Q _=>∃ (l:Addr) (f:Nat→Int),vs=[.ref l]∧aT K H l (tabI 24 f)∧IsCell 24 f ∧
 ∀ p H',H p=none→aJ H H'→H' p=some (.lst (tabI 6 fun j=>My.T (My.St j) 24 f))→Q (.ref p) H'
theorem C6:aP ["cell"] ["cell"] (aG kF):=⟨rfl,rfl,rfl,by decide +kernel,rfl,by decide +kernel,by decide +kernel⟩
theorem C7 (F:aO K mg "troubles" kF) (T:Txt K mg t) (pq:Def P w K mg base 3 "look_cell" ["cell"] (ui K t.BadCell)) (sY:Def P w K mg base 1 "value_at" ["signs","point"] (wa K)) (gR:Def P w K mg base 3 "power" ["a","k"] (pj t.BadSign)) :
  Def P w K mg base 4 "troubles" ["cell"] (pk K):=by
 refine F.def C6 (fun _ _ _ _ _ _ us hl=>match us,hl with | [_],_=>rfl) (fun vs H Q E h=>?_) (fun f bM A outer s H vs Q E hr h=>?_)
 ·obtain ⟨l,f,rfl,_⟩:=h
  rfl
 ·obtain ⟨l,f,rfl,hl,cf,q⟩:=h
  refine ⟨_,aC (ar (aZ (pq.mono (by decide)) hr aX (aA (pv 0) aD)))
   (aH (aY (lA rfl (Nc:=["j","cell"]) (ix:=[none,some 0]) (cU (aG kF) ["cell"] rfl rfl (by decide +kernel)) (vB (by rfl) T.dB (aA aF (aA (aN bj (aS T.Gv) aF) aD))) (fun C fp s H=>⟨(ak (i:=0) (show (["j","cell"]:List Str).Nodup by decide +kernel) rfl (Or.inl rfl)),cP,(aZ (sY.mono (by decide)) hr aX (aA (pv 1) (aA (aZ (gR.mono (by decide)) hr aX (aA (aS T.Gu) (aA (pv 0) aD))) aD)))⟩)))),?_⟩
  have qt:(2000:Nat)≤sizeLine:=by decide
  refine ⟨_,rfl,l,(List.range 24).map f,rfl,by rw [xN];exact hl,cf.ZK,fun _=>?_,fun h=>absurd cf.row h⟩
  refine ⟨_,_,rfl,rfl,1,_,rfl,⟨by decide,by decide,by decide,by decide⟩,fun D hD=>?_⟩
  refine mK (lo:=1) (n:=6) (fun i σ H'=>∃ v:Option V,σ=[v,some (.ref l)]∧aJ H H'∧H' D=some (.lst (tabI i fun j=>My.T (My.St j) 24 f))) ⟨none,rfl,(aJ.refl _).new hD,aB⟩ ?_ ?_
  ·rintro i σ H' N hN hi ⟨v,rfl,s1,h1⟩
   refine fP ?_
   refine ⟨_,rfl,_,rfl,5,_,rfl,by decide,by omega,fun _=>?_,fun h=>absurd (show (0:Int)≤5∧(5:Int) < 97 by decide) h⟩
   refine ⟨l,24,f,_,rfl,s1.seq hl,?_⟩
   rw [My.XU i hi]
   refine ⟨_,h1,by rw [aL];omega,?_⟩
   exact hN _ _ ⟨_,rfl,s1.put hD,lD rfl⟩
  ·rintro σ H' ⟨v,rfl,s1,h1⟩
   exact q D H' hD s1 h1
def rD (f:Nat→Int):Bool:=decide ((List.range 6).map (fun j=>My.T (My.St j) 24 f)=(List.range 6).map fun _=>(0:Int))
theorem lP {f:Nat→Int}:rD f=true↔My.eU f:=by
 unfold rD My.eU
 rw [decide_eq_true_iff]
 constructor
 ·intro h j hj
  have:=congrArg (fun l=>l.getD j 0) h
  simp only [Hw 6 _ j hj] at this
  exact this
 ·intro h
  apply List.map_congr_left
  intro j hj
  exact h j (List.mem_range.mp hj)
theorem Ez {f:Nat→Int} (h:¬ My.eU f):rD f=false:=by
 rw [Bool.eq_false_iff]
 exact fun z=>h (lP.mp z)
def uj (K:PySem.W.Frag):Sp:=fun vs H Q _=>∃ (l:Addr) (f:Nat→Int),vs=[.ref l]∧aT K H l (tabI 24 f)∧IsCell 24 f∧∀ H',aJ H H'→Q (.bl (rD f)) H'
theorem Bc:aP ["cell"] ["cell"] (aG lI):=⟨rfl,rfl,rfl,by decide +kernel,rfl,by decide +kernel,by decide +kernel⟩
theorem Be (F:aO K mg "is_sealed" lI) (T:Txt K mg t) (iq:Def P w K mg base 4 "troubles" ["cell"] (pk K)):Def P w K mg base 5 "is_sealed" ["cell"] (uj K):=by
 refine F.def Bc (fun _ _ _ _ _ _ us hl=>match us,hl with | [_],_=>rfl) (fun vs H Q E h=>?_) (fun f bM A outer s H vs Q E hr h=>?_)
 ·obtain ⟨l,f,rfl,_⟩:=h
  rfl
 ·obtain ⟨l,f,rfl,hl,cf,q⟩:=h
  refine ⟨_,aH (aY (qs (Gm K (uT hr)) (aZ (iq.mono (by decide)) hr aX (aA (pv 0) aD)) (aN xk (ai (aA aF aD)) (aS T.Gv)) (aa _))),?_⟩
  refine ⟨_,rfl,l,f,rfl,hl,cf,fun p H1 hp s1 h1=>?_⟩
  refine ⟨zz1,fun a1 IT=>?_⟩
  refine ⟨a1,_,_,rfl,rfl,aB,by decide,by decide,by decide,fun a2 IU=>?_⟩
  have s2:=((aJ.refl H1).new (o:=.lst [V.int 0]) IT).new (o:=.lst (List.replicate (6:Int).toNat [V.int 0]).flatten) IU
  refine ⟨p,a2,_,(List.range 6).map fun _=>0,rfl,rfl,aT.of (by rw [xN];exact s2 _ _ h1),aT.of (by rw [aB];rfl),?_⟩
  exact q _ (s1.trans s2)
def yO (K:PySem.W.Frag):Sp:=fun vs H Q _=>∃ (l:Addr) (r:Nat→Int) (s:Int),vs=[.ref l,.int s]∧aT K H l (tabI 6 r)∧(∀ k,k < 6→0≤r k∧r k < 97)∧0≤s∧s < 97 ∧
 ∀ p H',H p=none→aJ H H'→H' p=some (.lst (tabI 6 fun k=>((if k < 5 then r (k+1) else 0) - (r 0+s) * My.Dv k) % 97))→Q (.ref p) H'
theorem NK:([V.int (21),V.int (80),V.int (53),V.int (2),V.int (55),V.int (63)]:List V)=tabI 6 My.Dv:=by rfl
theorem yP:aP ["rest","sign","times"] ["rest","sign"] (aG mP):=⟨rfl,rfl,rfl,by decide +kernel,rfl,by decide +kernel,by decide +kernel⟩
theorem FA (F:aO K mg "carried" mP) (T:Txt K mg t):Def P w K mg base 1 "carried" ["rest","sign"] (yO K):=by
 refine F.def yP (fun _ _ _ _ _ _ us hl=>match us,hl with | [_,_],_=>rfl) (fun vs H Q E h=>?_) (fun f bM A outer s H vs Q E hr h=>?_)
 ·obtain ⟨l,r,s,rfl,_⟩:=h
  rfl
 ·obtain ⟨l,r,sg,rfl,hl,br,s0,s1,q⟩:=h
  refine ⟨_,aC (aR (i:=2) yP.nd rfl (Or.inr rfl) (aN bj (ag (aM K) (pv 0) aF (fun _ _=>rfl)) (pv 1)))
   (aH (aY (lA rfl (Nc:=["low","part","times"]) (ix:=[none,none,some 2]) (cU (aG mP) ["rest","sign","times"] rfl rfl (by decide +kernel)) (KZ K (by rfl) T.Gw (aA (aN (g9 K) (jT (jU K) (pv 0) (jO aF) qu) (ai (aA aF aD))) (aA (cF (v:=.ref t.DIVISOR) (by rfl) T.Kz rfl) aD))) (fun C fp s H=>⟨(xO K (i:=0) (j:=1) rfl (show (["low","part","times"]:List Str).Nodup by decide +kernel) rfl rfl (Or.inl rfl) (Or.inl rfl)),cP,(aN az (aN dc (pv 0) (aN ff (pv 2) (pv 1))) (aS T.b6))⟩)))),?_⟩
  have qt:(2000:Nat)≤sizeLine:=by decide
  have b0:=br 0 (by decide)
  refine ⟨_,rfl,l,_,_,_,rfl,rfl,hl,dh (n:=6) (by decide) (by decide),_,rfl,_,_,rfl,rfl,?_⟩
  refine ⟨_,rfl,_,rfl,l,_,rfl,hl,fun p1 zV=>?_⟩
  rw [show fh (tabI 6 r) (some 1) none=tabI 5 fun k=>r (1+k) from EN (lo:=1) (n:=6) (by decide)]
  have t1:=(aJ.refl H).new (o:=.lst (tabI 5 fun k=>r (1+k))) zV
  refine ⟨zz1,fun p2 zW=>?_⟩
  have XY:p1≠p2:=aK aB zW
  have t2:=t1.new (o:=.lst [V.int 0]) zW
  refine ⟨p1,p2,_,_,rfl,rfl,aT.of (by rw [aE XY];exact aB),aT.of aB,by rw [aL];decide,fun p3 CI=>?_⟩
  have ec:(tabI 5 fun k=>r (1+k)) ++ [V.int 0]=tabI 6 fun k=>if k < 5 then r (k+1) else 0:=by
   rw [Cc]
   refine bT fun k hk=>?_
   by_cases e:k=5
   ·subst e;rfl
   ·rw [if_neg e];dsimp only;rw [if_pos (by omega),Nat.add_comm]
  rw [ec]
  have t3:=t2.new (o:=.lst (tabI 6 fun k=>if k < 5 then r (k+1) else 0)) CI
  have h3:∀ H0:Hp,(upd H0 p3 (.lst (tabI 6 fun k=>if k < 5 then r (k+1) else 0))) p3=some (.lst (tabI 6 fun k=>if k < 5 then r (k+1) else 0)):=fun _=>aB
  refine ⟨p3,t.DIVISOR,rfl,⟨_,aT.of (h3 _)⟩,⟨_,T.Cy.sq _⟩,fun D hD=>?_⟩
  have h3':=h3 (upd (upd H p1 (.lst (tabI 5 fun k=>r (1+k)))) p2 (.lst [V.int 0]))
  generalize upd (upd (upd H p1 (.lst (tabI 5 fun k=>r (1+k)))) p2 (.lst [V.int 0])) p3 (.lst (tabI 6 fun k=>if k < 5 then r (k+1) else 0))=H3 at *
  refine Mu (K:=K) (a:=p3) (b:=t.DIVISOR) (xs:=tabI 6 fun k=>if k < 5 then r (k+1) else 0) (ys:=tabI 6 My.Dv) (by rw [aL,aL]) (fun i σ H'=>∃ v1 v2:Option V,σ=[v1,v2,some (.int (r 0+sg))]∧aJ H3 H'∧H' D=some (.lst (tabI i fun k=>((if k < 5 then r (k+1) else 0) - (r 0+sg) * My.Dv k) % 97)))
   ⟨none,none,rfl,(aJ.refl _).new hD,aB⟩ (fun i σ H' _ ⟨_,_,_,s2,_⟩=>⟨aT.of (s2 _ _ h3'),by rw [← NK];exact T.Cy.sq _⟩) ?_ ?_
  ·rintro i x y pp σ H' N hN hx hy ⟨v1,v2,rfl,s2,h2⟩ Qq
   obtain ⟨hi,rfl⟩:=tab_of hx
   obtain ⟨_,rfl⟩:=tab_of hy
   refine xx ?_
   have nD:D≠pp:=aK h2 Qq
   refine ⟨_,rfl,_,rfl,_,rfl,_,_,rfl,rfl,.inl ⟨by omega,by omega⟩,_,_,rfl,rfl,_,_,rfl,rfl,(by show (0:Int) < 97;decide),?_⟩
   refine ⟨_,by rw [aE nD];exact h2,by rw [aL];omega,?_⟩
   exact hN _ _ ⟨_,_,rfl,(s2.new Qq).put hD,lD rfl⟩
  ·rintro σ H' ⟨v1,v2,rfl,s2,h2⟩
   rw [aL] at h2
   exact q D H' (t3.free hD) (t3.trans s2) h2
def Ap (K:PySem.W.Frag):Sp:=fun vs H Q _=>∃ (l:Addr) (f:Nat→Int),vs=[.ref l]∧aT K H l (tabI 18 f)∧IsCell 18 f∧∀ p H',H p=none→aJ H H'→H' p=some (.lst (tabI 24 (My.mM f)))→Q (.ref p) H'
theorem rE:aP ["signs","rest","sign"] ["signs"] (aG pQ):=⟨rfl,rfl,rfl,by decide +kernel,rfl,by decide +kernel,by decide +kernel⟩
theorem IV (F:aO K mg "sealed" pQ) (T:Txt K mg t) (fX:Def P w K mg base 2 "look_signs" ["signs","many"] (lV K t.BadCell)) (va:Def P w K mg base 1 "carried" ["rest","sign"] (yO K)):Def P w K mg base 3 "sealed" ["signs"] (Ap K):=by
 refine F.def rE (fun _ _ _ _ _ _ us hl=>match us,hl with | [_],_=>rfl) (fun vs H Q E h=>?_) (fun f bM A outer s H vs Q E hr h=>?_)
 ·obtain ⟨l,f,rfl,_⟩:=h
  rfl
 ·obtain ⟨l,f,rfl,hl,cf,q⟩:=h
  refine ⟨_,aC (ar (aZ (fX.mono (by decide)) hr aX (aA (pv 0) (aA (aS T.uY) aD))))
   (aC (aR (i:=1) rE.nd rfl (Or.inl rfl) (aN xk (ai (aA aF aD)) (aS T.Gv)))
   (aC (PS.A2 (cT PassesOwn.never rfl (bK K (pv 0)) (ak (i:=2) rE.nd rfl (Or.inl rfl))
    (aH (aR (i:=1) rE.nd rfl (Or.inl rfl) (aZ (va.mono (by decide)) hr aX (aA (pv 1) (aA (pv 2) aD)))))))
   (aH (aY (aN (g9 K) (ib (ij K) (by rfl) T.sQ boot_list (aA (pv 0) aD)) (lA rfl (Nc:=["part"]) (ix:=[none]) (cU (aG pQ) ["signs","rest","sign"] rfl rfl (by decide +kernel)) (bK K (pv 1)) (fun C fp s H=>⟨(ak (i:=0) (show (["part"]:List Str).Nodup by decide +kernel) rfl (Or.inl rfl)),cP,(aN az (xb r9 (pv 0)) (aS T.b6))⟩))))))),?_⟩
  have qt:(2000:Nat)≤sizeLine:=by decide
  refine ⟨_,rfl,l,(List.range 18).map f,18,rfl,by rw [xN];exact hl,cf.ZK,by decide,fun _=>?_,fun h=>absurd cf.row h⟩
  refine ⟨zz1,fun a1 IT=>?_⟩
  refine ⟨a1,_,_,rfl,rfl,aB,by decide,by decide,by decide,fun a2 IU=>?_⟩
  have s1:=((aJ.refl H).new (o:=.lst [V.int 0]) IT).new (o:=.lst (List.replicate (6:Int).toNat [V.int 0]).flatten) IU
  refine ⟨_,rfl,l,rfl,⟨_,s1.seq hl⟩,gM (K:=K) (a:=l) (xs:=tabI 18 f) (fun i σ H'=>∃ (v:Option V) (p:Addr),σ=[some (.ref l),some (.ref p),v]∧aJ H H'∧H' p=some (.lst (tabI 6 (My.rs f i)))) ⟨none,a2,rfl,s1,by rw [aB];rfl⟩ (fun i σ H' _ ⟨_,_,_,s2,_⟩=>s2.seq hl) ?_ ?_⟩
  ·rintro i y σ H' hi ⟨v,p,rfl,s2,h2⟩
   obtain ⟨C5,rfl⟩:=tab_of hi
   have bi:=cf.b i C5
   refine ⟨_,rfl,_,rfl,p,My.rs f i,f i,rfl,aT.of h2,fun k _=>⟨My.UE f i k,My.UG f i k⟩,bi.1,bi.2,fun p2 H2 zW s3 h3=>?_⟩
   exact ⟨_,p2,rfl,s2.trans s3,h3⟩
  ·rintro σ H' ⟨v,p,rfl,s2,h2⟩
   rw [aL] at h2
   refine ⟨_,rfl,l,_,rfl,.inl (s2.seq hl),fun b1 Xa=>?_⟩
   have s3:=(aJ.refl H').new (o:=.lst (tabI 18 f)) Xa
   refine ⟨_,rfl,p,rfl,⟨_,aT.of (s3 _ _ h2)⟩,fun D hD=>?_⟩
   have nD:b1≠D:=aK aB hD
   refine vN (K:=K) (a:=p) (n:=6) (F:=fun k=>V.int (My.rs f 18 k)) (fun i σ H4=>∃ v:Option V,σ=[v]∧aJ (upd H' b1 (.lst (tabI 18 f))) H4∧H4 D=some (.lst (tabI i fun k=>-(My.rs f 18 k) % 97))) ⟨none,rfl,(aJ.refl _).new hD,aB⟩ (fun i σ H4 _ ⟨_,_,s4,_⟩=>aT.of (s4 _ _ (s3 _ _ h2))) ?_ ?_
   ·rintro i σ H4 N hN hi ⟨v,rfl,s4,h4⟩
    refine fP ?_
    refine ⟨_,rfl,_,rfl,_,_,rfl,rfl,(by show (0:Int) < 97;decide),?_⟩
    refine ⟨_,h4,by rw [aL];omega,?_⟩
    exact hN _ _ ⟨_,rfl,s4.put hD,lD rfl⟩
   ·rintro σ H4 ⟨v,rfl,s4,h4⟩
    refine ⟨b1,D,_,_,rfl,rfl,aT.of (s4 _ _ aB),aT.of h4,by rw [aL,aL];decide,fun c1 Rv=>?_⟩
    have s5:=((s2.trans s3).trans s4)
    refine q c1 _ (s5.free Rv) (s5.new Rv) ?_
    rw [aB,Ms]
    refine congrArg (fun z=>some (HO.lst z)) (bT fun i hi=>?_)
    unfold My.mM
    split <;> rfl
def uk (C:Addr):Sp:=fun vs H Q E=>∃ n:Int,vs=[.int n]∧n.natAbs < 2 ^ 1000∧(1≤n∧n≤6→Q .bH H)∧(¬ (1≤n∧n≤6)→E (.ref C) none H)
theorem Bf:aP ["late"] ["late"] (aG lJ):=⟨rfl,rfl,rfl,by decide +kernel,rfl,by decide +kernel,by decide +kernel⟩
theorem Bg (F:aO K mg "look_late" lJ) (T:Txt K mg t):Def P w K mg base 1 "look_late" ["late"] (uk t.BadMeasure):=by
 refine F.def Bf (fun _ _ _ _ _ _ us hl=>match us,hl with | [_],_=>rfl) (fun vs H Q E h=>?_) (fun f bM A outer s H vs Q E hr h=>?_)
 ·obtain ⟨n,rfl,_⟩:=h
  rfl
 ·obtain ⟨n,rfl,hb,q1,q2⟩:=h
  refine ⟨_,aH (bG (mq (uJ uI uI aF (pv 0) (aS T.yE)))
    (aH (gN ax rfl rfl T.pT T.wY PySem.F.excBase_ValueError (aA (lB (bJ cR (bJ (gz (aS T.yE)) (bJ cR (bJ (gz (pv 0)) pN))))) aD)))
    (aj)),?_⟩
  have sl:(3000:Nat)≤sizeLine:=by decide
  have bad:¬ (1≤n∧n≤6)→_:=fun z=>q2 z
  have l1:("late is from 1 to ":Str).length=18:=by decide +kernel
  have l2:(", not ":Str).length=6:=by decide +kernel
  have z6:=iJ (i:=6) (by decide)
  have zn:=iJ hb
  have e0:(Str.empty ++ ("late is from 1 to ":Str)).length≤18:=by rw [strLen_append,l1];show 0+18≤18;omega
  have e1:((Str.empty ++ ("late is from 1 to ":Str)) ++ Str.ofString (toString (6:Int))).length≤1019:=by rw [strLen_append];omega
  have e2:(((Str.empty ++ ("late is from 1 to ":Str)) ++ Str.ofString (toString (6:Int))) ++ (", not ":Str)).length≤1025:=by rw [strLen_append];omega
  have e3:((((Str.empty ++ ("late is from 1 to ":Str)) ++ Str.ofString (toString (6:Int))) ++ (", not ":Str)) ++ Str.ofString (toString n)).length≤2026:=by rw [strLen_append];omega
  refine ⟨_,rfl,_,_,rfl,rfl,_,rfl,?_⟩
  by_cases h1:1≤n
  ·refine g7 h1 ?_
   refine ⟨_,_,rfl,rfl,_,rfl,?_⟩
   by_cases h2:n≤6
   ·rw [decide_eq_true h2]
    exact eS (q1 ⟨h1,h2⟩)
   ·rw [decide_eq_false h2]
    refine ja ?_
    refine ⟨_,rfl,by omega,6,rfl,df (n:=1000) (by decide) (by decide) (by decide),_,rfl,by omega,_,rfl,by omega,_,rfl,n,rfl,df hb (by decide) (by decide),_,rfl,by omega,by omega,?_⟩
    exact ⟨zz1,q2 (by omega)⟩
  ·refine ie h1 ⟨_,rfl,ja ?_⟩
   refine ⟨_,rfl,by omega,6,rfl,df (n:=1000) (by decide) (by decide) (by decide),_,rfl,by omega,_,rfl,by omega,_,rfl,n,rfl,df hb (by decide) (by decide),_,rfl,by omega,by omega,?_⟩
   exact ⟨zz1,q2 (by omega)⟩
def oh (K:PySem.W.Frag) (C:Addr):Sp:=fun vs H Q E=>∃ (a:Addr) (x y:Int),vs=[.ref a]∧jZ K H a [.int x,.int y]∧x.natAbs < 2 ^ 1000∧y.natAbs < 2 ^ 1000∧((1≤x∧x≤6)∧0≤y∧y≤4→Q .bH H)∧(¬ ((1≤x∧x≤6)∧0≤y∧y≤4)→E (.ref C) none H)
theorem oi:aP ["measure","lost"] ["measure"] (aG hU):=⟨rfl,rfl,rfl,by decide +kernel,rfl,by decide +kernel,by decide +kernel⟩
theorem w8 (F:aO K mg "look_measure" hU) (T:Txt K mg t) (pw:Def P w K mg base 1 "look_late" ["late"] (uk t.BadMeasure)):Def P w K mg base 2 "look_measure" ["measure"] (oh K t.BadMeasure):=by
 refine F.def oi (fun _ _ _ _ _ _ us hl=>match us,hl with | [_],_=>rfl) (fun vs H Q E h=>?_) (fun f bM A outer s H vs Q E hr h=>?_)
 ·obtain ⟨a,x,y,rfl,_⟩:=h
  rfl
 ·obtain ⟨a,x,n,rfl,ha,hx,hb,q1,q2⟩:=h
  refine ⟨_,aC (ar (aZ (pw.mono (by decide)) hr (mJ ax) (aA (ag (g8 K) (pv 0) aF (fun _ _=>rfl)) aD)))
   (aC (aR (i:=1) oi.nd rfl (Or.inl rfl) (ag (g8 K) (pv 0) aF (fun _ _=>rfl)))
   (aH (bG (mq (uJ uI uI aF (pv 1) (aS T.yF)))
    (aH (gN ax rfl rfl T.pT T.wY PySem.F.excBase_ValueError (aA (lB (bJ cR (bJ (gz (aS T.yF)) (bJ cR (bJ (gz (pv 1)) pN))))) aD)))
    (aj)))),?_⟩
  have sl:(3000:Nat)≤sizeLine:=by decide
  have l1:("lost is from 0 to ":Str).length=18:=by decide +kernel
  have l2:(", not ":Str).length=6:=by decide +kernel
  have z6:=iJ (i:=4) (by decide)
  have zn:=iJ hb
  have e0:(Str.empty ++ ("lost is from 0 to ":Str)).length≤18:=by rw [strLen_append,l1];show 0+18≤18;omega
  have e1:((Str.empty ++ ("lost is from 0 to ":Str)) ++ Str.ofString (toString (4:Int))).length≤1019:=by rw [strLen_append];omega
  have e2:(((Str.empty ++ ("lost is from 0 to ":Str)) ++ Str.ofString (toString (4:Int))) ++ (", not ":Str)).length≤1025:=by rw [strLen_append];omega
  have e3:((((Str.empty ++ ("lost is from 0 to ":Str)) ++ Str.ofString (toString (4:Int))) ++ (", not ":Str)) ++ Str.ofString (toString n)).length≤2026:=by rw [strLen_append];omega
  refine ⟨_,rfl,a,_,_,_,rfl,rfl,ha,rfl,x,rfl,hx,fun h0=>?_,fun h0=>q2 fun z=>h0 z.1⟩
  refine ⟨_,rfl,a,_,_,_,rfl,rfl,ha,rfl,?_⟩
  refine ⟨_,rfl,_,_,rfl,rfl,_,rfl,?_⟩
  by_cases h1:0≤n
  ·refine g7 h1 ?_
   refine ⟨_,_,rfl,rfl,_,rfl,?_⟩
   by_cases h2:n≤4
   ·rw [decide_eq_true h2]
    exact eS (q1 ⟨h0,h1,h2⟩)
   ·rw [decide_eq_false h2]
    refine ja ?_
    refine ⟨_,rfl,by omega,4,rfl,df (n:=1000) (by decide) (by decide) (by decide),_,rfl,by omega,_,rfl,by omega,_,rfl,n,rfl,df hb (by decide) (by decide),_,rfl,by omega,by omega,?_⟩
    exact ⟨zz1,q2 (by omega)⟩
  ·refine ie h1 ⟨_,rfl,ja ?_⟩
   refine ⟨_,rfl,by omega,4,rfl,df (n:=1000) (by decide) (by decide) (by decide),_,rfl,by omega,_,rfl,by omega,_,rfl,n,rfl,df hb (by decide) (by decide),_,rfl,by omega,by omega,?_⟩
   exact ⟨zz1,q2 (by omega)⟩
def O0 (x y:Int):Prop:=(1≤x∧x≤6)∧0≤y∧y≤4
def wb (K:PySem.W.Frag) (C:Addr):Sp:=fun vs H Q E=>∃ (a:Addr) (x y:Int),vs=[.ref a]∧jZ K H a [.int x,.int y]∧x.natAbs < 2 ^ 1000∧y.natAbs < 2 ^ 1000∧(O0 x y→Q (.int (x+y)) H)∧(¬ O0 x y→E (.ref C) none H)
theorem C8:aP ["measure"] ["measure"] (aG nH):=⟨rfl,rfl,rfl,by decide +kernel,rfl,by decide +kernel,by decide +kernel⟩
theorem C9 (F:aO K mg "quiet_of" nH) (T:Txt K mg t) (kK:Def P w K mg base 2 "look_measure" ["measure"] (oh K t.BadMeasure)):Def P w K mg base 3 "quiet_of" ["measure"] (wb K t.BadMeasure):=by
 refine F.def C8 (fun _ _ _ _ _ _ us hl=>match us,hl with | [_],_=>rfl) (fun vs H Q E h=>?_) (fun f bM A outer s H vs Q E hr h=>?_)
 ·obtain ⟨a,x,y,rfl,_⟩:=h
  rfl
 ·obtain ⟨a,x,y,rfl,ha,hx,hy,q1,q2⟩:=h
  refine ⟨_,aC (ar (aZ (kK.mono (by decide)) hr (mJ ax) (aA (pv 0) aD)))
   (aH (aY (aN bj (ag (g8 K) (pv 0) aF (fun _ _=>rfl)) (ag (g8 K) (pv 0) aF (fun _ _=>rfl))))),?_⟩
  refine ⟨_,rfl,a,x,y,rfl,ha,hx,hy,fun h0=>?_,fun h0=>q2 h0⟩
  refine ⟨_,rfl,a,_,_,_,rfl,rfl,ha,rfl,?_⟩
  refine ⟨_,rfl,a,_,_,_,rfl,rfl,ha,rfl,_,_,rfl,rfl,?_⟩
  exact q1 h0
def wc (K:PySem.W.Frag):Sp:=fun vs H Q _=>∃ (l:Addr) (n:Nat) (f:Nat→Int) (z:Int),vs=[.ref l,.int z]∧aT K H l (tabI n f)∧n≤1000 ∧
 ∀ p H',H p=none→aJ H H'→H' p=some (.lst (tabI (n+1) fun j=>(if j < n then f j else z) % 97))→Q (.ref p) H'
theorem DA:aP ["row","side"] ["row","side"] (aG kC):=⟨rfl,rfl,rfl,by decide +kernel,rfl,by decide +kernel,by decide +kernel⟩
theorem DB (F:aO K mg "equation" kC) (T:Txt K mg t):Def P w K mg base 1 "equation" ["row","side"] (wc K):=by
 refine F.def DA (fun _ _ _ _ _ _ us hl=>match us,hl with | [_,_],_=>rfl) (fun vs H Q E h=>?_) (fun f bM A outer s H vs Q E hr h=>?_)
 ·obtain ⟨l,n,f,z,rfl,_⟩:=h
  rfl
 ·obtain ⟨l,n,f',z,rfl,hl,hn,q⟩:=h
  refine ⟨_,aH (aY (aN (g9 K) (lA rfl (Nc:=["sign"]) (ix:=[none]) (cU (aG kC) ["row","side"] rfl rfl (by decide +kernel)) (bK K (pv 0)) (fun C fp s H=>⟨(ak (i:=0) (show (["sign"]:List Str).Nodup by decide +kernel) rfl (Or.inl rfl)),cP,(aN az (pv 0) (aS T.b6))⟩)) (ai (aA (aN az (pv 1) (aS T.b6)) aD)))),?_⟩
  have qt:(2000:Nat)≤sizeLine:=by decide
  refine ⟨_,rfl,l,rfl,⟨_,hl⟩,fun D hD=>?_⟩
  refine vN (K:=K) (a:=l) (n:=n) (F:=fun j=>V.int (f' j)) (fun i σ H'=>∃ v:Option V,σ=[v]∧aJ H H'∧H' D=some (.lst (tabI i fun j=>f' j % 97))) ⟨none,rfl,(aJ.refl _).new hD,aB⟩ (fun i σ H' _ ⟨_,_,s1,_⟩=>s1.seq hl) ?_ ?_
  ·rintro i σ H' N hN hi ⟨v,rfl,s1,h1⟩
   refine fP ?_
   refine ⟨_,rfl,_,_,rfl,rfl,(by show (0:Int) < 97;decide),_,h1,by rw [aL];omega,?_⟩
   exact hN _ _ ⟨_,rfl,s1.put hD,lD rfl⟩
  ·rintro σ H' ⟨v,rfl,s1,h1⟩
   refine ⟨_,rfl,_,_,rfl,rfl,(by show (0:Int) < 97;decide),zz1,fun p2 zW=>?_⟩
   have n2:D≠p2:=aK h1 zW
   have s2:=s1.new (o:=.lst [V.int (z % 97)]) zW
   refine ⟨D,p2,_,_,rfl,rfl,aT.of (by rw [aE n2];exact h1),aT.of aB,by rw [aL];show n+1≤sizeLine;omega,fun p3 CI=>?_⟩
   refine q p3 _ (s2.free CI) (s2.new CI) ?_
   have e3:tabI (n+1) (fun j=>(if j < n then f' j else z) % 97)=tabI n (fun j=>f' j % 97) ++ [V.int (z % 97)]:=by
    refine (xy n _).trans ?_
    rw [show be n (fun j=>V.int ((if j < n then f' j else z) % 97))=tabI n fun j=>f' j % 97 from bT fun i hi=>by rw [if_pos hi]]
    show _ ++ [V.int ((if n < n then f' n else z) % 97)]=_
    rw [if_neg (Nat.lt_irrefl n)]
   rw [aB,e3]
def pz (K:PySem.W.Frag):Sp:=fun vs H Q _=>∃ (l:Addr) (m n c:Nat) (a:My.qw),vs=[.ref l,.int c]∧BG K H l m n a∧c < n∧c≤m∧m≤1000∧n≤1000 ∧
 (∀ i:Nat,c≤i→i < m→a i c≠0→(∀ k,c≤k→k < i→a k c=0)→Q (.int i) H)∧((∀ i,c≤i→i < m→a i c=0)→Q .bH H)
theorem qA:aP ["table","column","place"] ["table","column"] (aG jP):=⟨rfl,rfl,rfl,by decide +kernel,rfl,by decide +kernel,by decide +kernel⟩
theorem yQ (F:aO K mg "pivot_place" jP) (T:Txt K mg t):Def P w K mg base 1 "pivot_place" ["table","column"] (pz K):=by
 refine F.def qA (fun _ _ _ _ _ _ us hl=>match us,hl with | [_,_],_=>rfl) (fun vs H Q E h=>?_) (fun f bM A outer s H vs Q E hr h=>?_)
 ·obtain ⟨l,m,n,c,a,rfl,_⟩:=h
  rfl
 ·obtain ⟨l,m,n,c,a,rfl,⟨as,g1,g2⟩,hc,Vs,hm,hn,q1,q2⟩:=h
  refine ⟨_,aC (PS.A2 (cT PassesOwn.never rfl (vB (by rfl) T.dB (aA (pv 1) (aA (bQ (bP K) (by rfl) T.kH boot_len (aA (pv 0) aD)) aD))) (ak (i:=2) qA.nd rfl (Or.inl rfl))
    (aH (bG (aV uH (ag (aM K) (ag (aM K) (pv 0) (pv 2) (fun _ _=>rfl)) (pv 1) (fun _ _=>rfl)) aF (aa _))
     (aH (aY (pv 2)))
     (aj)))))
   (aH (aY eO)),?_⟩
  refine ⟨_,rfl,_,rfl,l,_,rfl,.inl g1,(c:Int),((bN m as).length:Nat),rfl,⟨by omega,by omega,by omega,by rw [aL];omega⟩,?_⟩
  have en:((((bN m as).length:Nat):Int) - (c:Int)).toNat=m - c:=by rw [aL];omega
  rw [en]
  refine gs (lo:=(c:Int)) (n:=m - c) (fun i σ H'=>∃ v:Option V,σ=[some (.ref l),some (.int c),v]∧H'=H∧∀ k,c≤k→k < c+i→a k c=0) ⟨none,rfl,rfl,fun k h1 h2=>by omega⟩ ?_ ?_
  ·rintro i σ H' hi ⟨v,rfl,rfl,hz⟩
   have ei:((c:Int)+(i:Nat)).toNat=c+i:=by omega
   refine ⟨_,rfl,_,rfl,l,_,_,_,rfl,rfl,g1,dh (by omega) (by omega),_,rfl,_,_,_,_,rfl,rfl,g2 _ (by omega),dh (by omega) (by omega),rfl,_,rfl,?_⟩
   by_cases z:a (c+i) c=0
   ·refine oZ (by rw [ei,Int.toNat_natCast,z]) ?_
    refine ⟨_,rfl,rfl,fun k h1 h2=>?_⟩
    by_cases e:k=c+i
    ·rw [e];exact z
    ·exact hz k h1 (by omega)
   ·refine xw (fun e=>z (by have:=V.int.inj e;rwa [ei,Int.toNat_natCast] at this)) ?_
    refine ⟨_,rfl,?_⟩
    have:=q1 (c+i) (by omega) (by omega) z hz
    have e:((c+i:Nat):Int)=(c:Int)+(i:Nat):=by omega
    rw [e] at this
    exact this
  ·rintro σ H' ⟨v,rfl,rfl,hz⟩
   exact q2 fun i h1 h2=>hz i h1 (by omega)
def um (K:PySem.W.Frag):Sp:=fun vs H Q _=>∃ (l:Addr) (m n c d:Nat) (a:My.qw),vs=[.ref l,.int c,.int d]∧BG K H l m n a∧c < m∧d < m∧m≤1000 ∧
 ∀ p H',H p=none→aJ H H'→BG K H' p m n (My.swap a c d)→Q (.ref p) H'
theorem uo:aP ["table","one","other","rows"] ["table","one","other"] (aG lG):=⟨rfl,rfl,rfl,by decide +kernel,rfl,by decide +kernel,by decide +kernel⟩
theorem Bh (F:aO K mg "exchanged" lG) (T:Txt K mg t):Def P w K mg base 1 "exchanged" ["table","one","other"] (um K):=by
 refine F.def uo (fun _ _ _ _ _ _ us hl=>match us,hl with | [_,_,_],_=>rfl) (fun vs H Q E h=>?_) (fun f bM A outer s H vs Q E hr h=>?_)
 ·obtain ⟨l,m,n,c,d,a,rfl,_⟩:=h
  rfl
 ·obtain ⟨l,m,n,c,d,a,rfl,⟨as,g1,g2⟩,hc,hd,hm,q⟩:=h
  refine ⟨_,aC (aR (i:=3) uo.nd rfl (Or.inl rfl) (ib (ij K) (by rfl) T.sQ boot_list (aA (pv 0) aD)))
   (aC (vA (ag (aM K) (pv 0) (pv 2) (fun _ _=>rfl)) (u9 (pv 3) (pv 1) set_list))
   (aC (vA (ag (aM K) (pv 0) (pv 1) (fun _ _=>rfl)) (u9 (pv 3) (pv 2) set_list))
   (aH (aY (pv 3))))),?_⟩
  refine ⟨_,rfl,l,_,rfl,.inl g1,fun p hp=>?_⟩
  have s1:=(aJ.refl H).new (o:=.lst (bN m as)) hp
  refine ⟨_,rfl,_,rfl,l,_,_,_,rfl,rfl,s1.seq g1,dh (by omega) (by omega),_,rfl,_,rfl,p,_,_,_,rfl,rfl,aB,x3 (by omega) (by omega),?_⟩
  have s2:=s1.put (o:=.lst ((bN m as).set (c:Int).toNat (V.ref (as (d:Int).toNat)))) hp
  rw [xM (by omega)] at *
  refine ⟨_,rfl,_,rfl,l,_,_,_,rfl,rfl,s2.seq g1,dh (by omega) (by omega),_,rfl,_,rfl,p,_,_,_,rfl,rfl,aB,x3 (by omega) (by omega),?_⟩
  rw [xM (by omega)]
  refine ⟨_,rfl,?_⟩
  refine q p _ hp (s2.put hp) ⟨fun i=>if i=d then as c else if i=c then as d else as i,aT.of ?_,fun i hi=>(s2.put hp).seq ?_⟩
  ·rw [aB]
   refine congrArg (fun l=>some (HO.lst l)) (bT fun i hi=>?_)
   rw [Int.toNat_natCast,Int.toNat_natCast]
   by_cases e:i=d
   ·simp [e]
   ·by_cases e2:i=c
    ·subst e2
     simp [e]
    ·simp [e,e2]
  ·unfold My.swap
   by_cases e:i=d
   ·subst e
    by_cases e2:i=c
    ·subst e2;simp;exact g2 i hi
    ·simp [e2];exact g2 c hc
   ·by_cases e2:i=c
    ·subst e2;simp [e];exact g2 d hd
    ·simp [e,e2];exact g2 i hi
def wd (K:PySem.W.Frag):Sp:=fun vs H Q _=>∃ (l b:Addr) (n:Nat) (f g:Nat→Int) (z:Int),vs=[.ref l,.ref b,.int z]∧aT K H l (tabI n f)∧aT K H b (tabI n g)∧n≤1000∧0≤z∧z < 97 ∧
 ∀ p H',H p=none→aJ H H'→H' p=some (.lst (tabI n fun j=>(f j - z * g j) % 97))→Q (.ref p) H'
theorem DC:aP ["row","head","times"] ["row","head","times"] (aG kD):=⟨rfl,rfl,rfl,by decide +kernel,rfl,by decide +kernel,by decide +kernel⟩
theorem DD (F:aO K mg "lessened" kD) (T:Txt K mg t):Def P w K mg base 1 "lessened" ["row","head","times"] (wd K):=by
 refine F.def DC (fun _ _ _ _ _ _ us hl=>match us,hl with | [_,_,_],_=>rfl) (fun vs H Q E h=>?_) (fun f bM A outer s H vs Q E hr h=>?_)
 ·obtain ⟨l,b,n,f,g,z,rfl,_⟩:=h
  rfl
 ·obtain ⟨l,b,n,f',g',z,rfl,hl,hb,hn,z0,z1,q⟩:=h
  refine ⟨_,aH (aY (lA rfl (Nc:=["sign","top","times"]) (ix:=[none,none,some 2]) (cU (aG kD) ["row","head","times"] rfl rfl (by decide +kernel)) (BI K (by rfl) T.Gw (aA (pv 0) (aA (pv 1) aD))) (fun C fp s H=>⟨(xO K (i:=0) (j:=1) rfl (show (["sign","top","times"]:List Str).Nodup by decide +kernel) rfl rfl (Or.inl rfl) (Or.inl rfl)),cP,(aN az (aN dc (pv 0) (aN ff (pv 2) (pv 1))) (aS T.b6))⟩))),?_⟩
  have qt:(2000:Nat)≤sizeLine:=by decide
  refine ⟨_,rfl,_,rfl,l,b,rfl,⟨_,hl⟩,⟨_,hb⟩,fun D hD=>?_⟩
  refine Gk (K:=K) (a:=l) (b:=b) (n:=n) (F:=fun j=>V.int (f' j)) (G:=fun j=>V.int (g' j)) (fun i σ H'=>∃ v u:Option V,σ=[v,u,some (.int z)]∧aJ H H'∧H' D=some (.lst (tabI i fun j=>(f' j - z * g' j) % 97))) ⟨none,none,rfl,(aJ.refl _).new hD,aB⟩ (fun i σ H' _ ⟨_,_,_,s1,_⟩=>⟨s1.seq hl,s1.seq hb⟩) ?_ ?_
  ·rintro i p σ H' N hN hi ⟨v,u,rfl,s1,h1⟩ hp
   refine xx ?_
   have nD:D≠p:=aK h1 hp
   refine ⟨_,rfl,_,rfl,_,rfl,_,_,rfl,rfl,.inl ⟨by omega,by omega⟩,_,_,rfl,rfl,_,_,rfl,rfl,(by show (0:Int) < 97;decide),_,(by rw [aE nD];exact h1),by rw [aL];omega,?_⟩
   exact hN _ _ ⟨_,_,rfl,(s1.new hp).put hD,lD rfl⟩
  ·rintro σ H' ⟨v,u,rfl,s1,h1⟩
   exact q D H' hD s1 h1
def yR (K:PySem.W.Frag):Sp:=fun vs H Q _=>∃ (l:Addr) (m n c:Nat) (a:My.qw),vs=[.ref l,.int c]∧BG K H l m n a∧c < m∧c < n∧m≤1000∧n≤1000∧(∀ i j,i < m→j < n→0≤a i j∧a i j < 97)∧a c c≠0 ∧
 ∀ p H',H p=none→aJ H H'→BG K H' p m n (My.clear a c (My.P (a c c) 95))→Q (.ref p) H'
theorem nU:aP ["table","column","factor","head","rows"] ["table","column"] (aG j3):=⟨rfl,rfl,rfl,by decide +kernel,rfl,by decide +kernel,by decide +kernel⟩
theorem FC (F:aO K mg "cleared" j3) (T:Txt K mg t) (j5:Def P w K mg base 4 "inverse" ["a"] (sX t.BadSign)) (sZ:Def P w K mg base 1 "lessened" ["row","head","times"] (wd K)):Def P w K mg base 5 "cleared" ["table","column"] (yR K):=by
 refine F.def nU (fun _ _ _ _ _ _ us hl=>match us,hl with | [_,_],_=>rfl) (fun vs H Q E h=>?_) (fun f bM A outer s H vs Q E hr h=>?_)
 ·obtain ⟨l,m,n,c,a,rfl,_⟩:=h
  rfl
 ·obtain ⟨l,m,n,c,a,rfl,⟨as,g1,g2⟩,Vs,Gj,hm,hn,ha,h0,q⟩:=h
  refine ⟨_,aC (aR (i:=2) nU.nd rfl (Or.inr rfl) (aZ (j5.mono (by decide)) hr (mJ ax) (aA (ag (aM K) (ag (aM K) (pv 0) (pv 1) (fun _ _=>rfl)) (pv 1) (fun _ _=>rfl)) aD)))
   (aC (aR (i:=3) nU.nd rfl (Or.inr rfl) (lA rfl (Nc:=["sign","factor"]) (ix:=[none,some 2]) (cU (aG j3) ["table","column","factor","head","rows"] rfl rfl (by decide +kernel)) (bK K (ag (aM K) (pv 0) (pv 1) (fun _ _=>rfl))) (fun C fp s H=>⟨(ak (i:=0) (show (["sign","factor"]:List Str).Nodup by decide +kernel) rfl (Or.inl rfl)),cP,(aN az (aN ff (pv 0) (pv 1)) (aS T.b6))⟩)))
   (aC (pL (i:=4) nU.nd rfl (Or.inl rfl) rfl (Nc:=["row","head","column"]) (ix:=[none,some 3,some 1]) (cU (aG j3) ["table","column","factor","head","rows"] rfl rfl (by decide +kernel)) (bK K (pv 0)) (fun C fp s H=>⟨(ak (i:=0) (show (["row","head","column"]:List Str).Nodup by decide +kernel) rfl (Or.inl rfl)),cP,(aZ (sZ.mono (by decide)) hr aX (aA (pv 0) (aA (pv 1) (aA (ag (aM K) (pv 0) (pv 2) (fun _ _=>rfl)) aD))))⟩))
   (aC (vA (pv 3) (u9 (pv 4) (pv 1) set_list))
   (aH (aY (pv 4)))))),?_⟩
  have qt:(2000:Nat)≤sizeLine:=by decide
  have ec:((c:Nat):Int).toNat=c:=Int.toNat_natCast c
  have L8:=ha c c Vs Gj
  refine ⟨_,rfl,_,rfl,l,_,_,_,rfl,rfl,g1,dh (by omega) (by omega),_,rfl,_,_,_,_,rfl,rfl,g2 _ (by omega),dh (by omega) (by omega),_,rfl,?_,fun _=>?_,fun h=>absurd ?_ h⟩
  ·rw [ec];exact ig (by omega) (by omega)
  ·rw [ec]
   have f0:=My.T7 (a c c) 95
   have f1:=My.Qf (a c c) 95
   generalize My.P (a c c) 95=O1 at *
   refine ⟨_,rfl,_,rfl,l,_,_,_,rfl,rfl,g1,dh (by omega) (by omega),_,rfl,⟨_,g2 _ (by omega)⟩,fun D hD=>?_⟩
   rw [ec]
   refine vN (K:=K) (a:=as c) (n:=n) (F:=fun j=>V.int (a c j)) (fun i σ H'=>∃ v:Option V,σ=[v,some (.int O1)]∧aJ H H'∧H' D=some (.lst (tabI i fun j=>a c j * O1 % 97))) ⟨none,rfl,(aJ.refl _).new hD,aB⟩ (fun i σ H' _ ⟨_,_,s1,_⟩=>s1.seq (g2 c Vs)) ?_ ?_
   ·rintro i σ H' N hN hi ⟨v,rfl,s1,h1⟩
    have hb:=ha c i Vs hi
    refine fP ?_
    refine ⟨_,rfl,_,rfl,_,_,rfl,rfl,.inl ⟨by omega,by omega⟩,_,_,rfl,rfl,(by show (0:Int) < 97;decide),_,h1,by rw [aL];omega,?_⟩
    exact hN _ _ ⟨_,rfl,s1.put hD,lD rfl⟩
   ·rintro σ H1 ⟨v,rfl,s1,h1⟩
    refine ⟨_,rfl,l,rfl,⟨_,s1.seq g1⟩,fun D2 CJ=>?_⟩
    have nDD:D≠D2:=aK h1 CJ
    refine vN (K:=K) (a:=l) (n:=m) (F:=fun i=>V.ref (as i)) (fun i σ H'=>∃ (v:Option V) (ps:Nat→Addr),σ=[v,some (.ref D),some (.int c)]∧aJ H1 H'∧H' D2=some (.lst (bN i ps))∧∀ k,k < i→aT K H' (ps k) (tabI n fun j=>(a k j - a k c * (a c j * O1 % 97)) % 97)∧ps k≠D2)
     ⟨none,as,rfl,(aJ.refl _).new CJ,aB,fun k hk=>by omega⟩ (fun i σ H' _ ⟨_,_,_,s2,_⟩=>s2.seq (s1.seq g1)) ?_ ?_
    ·rintro i σ H' N hN hi ⟨v,ps,rfl,s2,h2,hp⟩
     have hb:=ha i c hi Gj
     refine fP ?_
     refine ⟨_,rfl,_,rfl,_,rfl,_,rfl,as i,_,_,_,rfl,rfl,s2.seq (s1.seq (g2 i hi)),dh (by omega) (by omega),as i,D,n,a i,(fun j=>a c j * O1 % 97),_,rfl,s2.seq (s1.seq (g2 i hi)),aT.of (s2 _ _ h1),hn,?_,?_,fun p H2 Qr s3 h3=>?_⟩
     ·rw [ec];exact hb.1
     ·rw [ec];exact hb.2
     ·have np:D2≠p:=aK h2 Qr
      refine ⟨_,s3 _ _ h2,by rw [aL];omega,?_⟩
      rw [fQ]
      refine hN _ _ ⟨_,_,rfl,(s2.trans s3).put CJ,aB,fun k hk=>?_⟩
      by_cases e:k=i
      ·subst e
       simp only [if_true]
       refine ⟨aT.of ?_,Ne.symm np⟩
       rw [aE (Ne.symm np),h3,ec]
      ·simp only [e,if_false]
       obtain ⟨q1,q2⟩:=hp k (by omega)
       refine ⟨?_,q2⟩
       rcases s3.seq q1 with (z | ⟨o,z⟩) | z
       ·exact .inl (.inl (by rw [aE q2];exact z))
       ·exact .inl (.inr ⟨o,by rw [aE q2];exact z⟩)
       ·exact .inr z
    ·rintro σ H' ⟨v,ps,rfl,s2,h2,hp⟩
     refine ⟨_,rfl,_,rfl,_,rfl,D2,_,_,_,rfl,rfl,h2,x3 (by omega) (by omega),?_⟩
     rw [xM (by omega),ec]
     refine ⟨_,rfl,?_⟩
     refine q D2 _ (s1.free CJ) ((s1.trans s2).put (s1.free CJ)) ⟨fun k=>if k=c then D else ps k,aT.of ?_,fun i hi=>?_⟩
     ·rw [aB]
      refine congrArg (fun l=>some (HO.lst l)) (bT fun k hk=>?_)
      by_cases e:k=c <;> simp [e]
     ·by_cases e:i=c
      ·subst e
       have e2:tabI n (My.clear a i O1 i)=tabI n fun j=>a i j * O1 % 97:=bT fun j hj=>by unfold My.clear;rw [if_pos rfl]
       simp only [if_true]
       rw [e2]
       exact aT.of (by rw [aE nDD];exact s2 _ _ h1)
      ·obtain ⟨q1,q2⟩:=hp i hi
       have e2:tabI n (My.clear a c O1 i)=tabI n fun j=>(a i j - a i c * (a c j * O1 % 97)) % 97:=bT fun j hj=>by unfold My.clear;rw [if_neg e]
       simp only [e,if_false]
       rw [e2]
       rcases q1 with (z | ⟨o,z⟩) | z
       ·exact .inl (.inl (by rw [aE q2];exact z))
       ·exact .inl (.inr ⟨o,by rw [aE q2];exact z⟩)
       ·exact .inr z
  ·rw [ec];exact ⟨by omega,L8.2⟩
def jc (n:Nat) (a:My.qw) (b:Nat→Int):My.qw:=fun i j=>(if j < n then a i j else b i) % 97
theorem G8 (n:Nat) (a:My.qw) (b:Nat→Int) (z:Nat→Int) (i:Nat):(97:Int) ∣ My.ip (n+1) (jc n a b i) z - (My.ip n (a i) z+b i * z n):=by
 have h1:My.ip (n+1) (jc n a b i) z=My.ip n (jc n a b i) z+jc n a b i n * z n:=by unfold My.ip;rw [My.sumTo]
 have h2:(97:Int) ∣ My.ip n (jc n a b i) z - My.ip n (a i) z:=My.Ci fun j hj=>by unfold jc;rw [if_pos hj];exact My.hG _
 have h3:(97:Int) ∣ jc n a b i n * z n - b i * z n:=by
  have:(97:Int) ∣ (jc n a b i n - b i) * z n:=Int.dvd_trans (by unfold jc;rw [if_neg (Nat.lt_irrefl n)];exact My.hG _) (Int.dvd_mul_right _ _)
  rwa [Int.sub_mul] at this
 rw [h1]
 have:=Int.dvd_add h2 h3
 rwa [show My.ip n (jc n a b i) z - My.ip n (a i) z+(jc n a b i n * z n - b i * z n)=My.ip n (jc n a b i) z+jc n a b i n * z n - (My.ip n (a i) z+b i * z n) by omega] at this
theorem yS {n:Nat} {a:My.qw} {b:Nat→Int} {z:Nat→Int}:My.sO n (n+1) (jc n a b) z↔∀ i,i < n→(97:Int) ∣ My.ip n (a i) z+b i * z n:=by
 constructor
 ·intro k i hi
  have:=Int.dvd_sub (k i hi) (G8 n a b z i)
  rwa [show My.ip (n+1) (jc n a b i) z - (My.ip (n+1) (jc n a b i) z - (My.ip n (a i) z+b i * z n))=My.ip n (a i) z+b i * z n by omega] at this
 ·intro k i hi
  have:=Int.dvd_add (k i hi) (G8 n a b z i)
  rwa [show My.ip n (a i) z+b i * z n+(My.ip (n+1) (jc n a b i) z - (My.ip n (a i) z+b i * z n))=My.ip (n+1) (jc n a b i) z by omega] at this
theorem K4 (n:Nat) (r z:Nat→Int) (u:Int):My.ip n r (fun j=>if j < n then z j else u)=My.ip n r z:=My.a9 n fun j hj=>by simp [hj]
theorem NL {n c:Nat} {a:My.qw} {b:Nat→Int} {u:My.qw} (hk:∀ z,My.sO n (n+1) u z↔My.sO n (n+1) (jc n a b) z) (h:My.Clear n c u) (hc:c < n) (hz:∀ i,c≤i→i < n→u i c=0):¬ My.Cj n a:=by
 obtain ⟨z,k,z1,z2⟩:=h.stuck hc hz
 intro r
 have k2:=yS.mp ((hk z).mp k)
 have:=r z (fun i hi=>by have:=k2 i hi;rw [z2] at this;simpa using this) c hc
 rw [z1] at this
 omega
theorem FD {n:Nat} {a:My.qw} {b:Nat→Int} {u:My.qw} (hk:∀ z,My.sO n (n+1) u z↔My.sO n (n+1) (jc n a b) z) (h:My.Clear n n u):My.Cj n a∧∀ i,i < n→(97:Int) ∣ My.ip n (a i) (fun j=>u j n) - b i:=by
 constructor
 ·intro z k j hj
  have k2:My.sO n (n+1) (jc n a b) (fun j=>if j < n then z j else 0):=yS.mpr fun i hi=>by
   rw [K4]
   simp only [Nat.lt_irrefl,if_false,Int.mul_zero,Int.add_zero]
   exact k i hi
  have k3:=(hk _).mpr k2 j hj
  rw [h.full _ j hj] at k3
  simpa [hj] using k3
 ·intro i hi
  have k1:My.sO n (n+1) u (fun j=>if j < n then - u j n else 1):=fun i hi=>by
   rw [h.full _ i hi]
   simp only [hi,if_true,Nat.lt_irrefl,if_false]
   exact ⟨0,by omega⟩
  have k2:=yS.mp ((hk _).mp k1) i hi
  rw [K4] at k2
  simp only [Nat.lt_irrefl,if_false,Int.mul_one] at k2
  have e:My.ip n (a i) (fun j=>- u j n)=- My.ip n (a i) (fun j=>u j n):=by
   have:=My.vQ (-1) (fun j=>a i j * u j n) n
   unfold My.ip
   rw [show My.sumTo n (fun j=>a i j * - u j n)=My.sumTo n (fun j=>-1 * (a i j * u j n)) from My.a9 n fun j _=>by grind,this]
   show -1 * My.sumTo n (fun j=>a i j * u j n)=- My.sumTo n (fun j=>a i j * u j n)
   omega
  rw [e] at k2
  have:=Int.dvd_neg.mpr k2
  rwa [show -(-My.ip n (a i) (fun j=>u j n)+b i)=My.ip n (a i) (fun j=>u j n) - b i by omega] at this
theorem K5 {m n c:Nat} {a:My.qw} {f:Int}:∀ i j,i < m→j < n→0≤My.clear a c f i j∧My.clear a c f i j < 97:=fun i j _ _=>by
 unfold My.clear
 split <;> exact ⟨Int.emod_nonneg _ (by decide),Int.emod_lt_of_pos _ (by decide)⟩
theorem NM {m n p q:Nat} {a:My.qw} (hp:p < m) (hq:q < m) (h:∀ i j,i < m→j < n→0≤a i j∧a i j < 97):∀ i j,i < m→j < n→0≤My.swap a p q i j∧My.swap a p q i j < 97:=fun i j hi hj=>by
 unfold My.swap
 split
 ·exact h q j hq hj
 ·split
  ·exact h p j hp hj
  ·exact h i j hi hj
def vb (K:PySem.W.Frag):Sp:=fun vs H Q _=>∃ (l r:Addr) (n:Nat) (a:My.qw) (b:Nat→Int),vs=[.ref l,.ref r]∧BG K H l n n a∧aT K H r (tabI n b)∧n≤100 ∧
 (My.Cj n a→∀ p H' x,H p=none→aJ H H'→H' p=some (.lst (tabI n x))→(∀ i,i < n→0≤x i∧x i < 97)→(∀ i,i < n→(97:Int) ∣ My.ip n (a i) x - b i)→Q (.ref p) H')∧(¬ My.Cj n a→∀ H',aJ H H'→Q .bH H')
theorem mZ:aP ["rows","right","table","column","place"] ["rows","right"] (aG mO):=⟨rfl,rfl,rfl,by decide +kernel,rfl,by decide +kernel,by decide +kernel⟩
theorem IW (F:aO K mg "solved" mO) (T:Txt K mg t) (se:Def P w K mg base 1 "equation" ["row","side"] (wc K)) (lW:Def P w K mg base 1 "pivot_place" ["table","column"] (pz K))
  (qB:Def P w K mg base 1 "exchanged" ["table","one","other"] (um K)) (vc:Def P w K mg base 5 "cleared" ["table","column"] (yR K)):Def P w K mg base 6 "solved" ["rows","right"] (vb K):=by
 refine F.def mZ (fun _ _ _ _ _ _ us hl=>match us,hl with | [_,_],_=>rfl) (fun vs H Q E h=>?_) (fun f bM A outer s H vs Q E hr h=>?_)
 ·obtain ⟨l,r,n,a,b,rfl,_⟩:=h
  rfl
 ·obtain ⟨l,r,n,a,b,rfl,⟨as,g1,g2⟩,O2,hn,q1,q2⟩:=h
  refine ⟨_,aC (pL (i:=2) mZ.nd rfl (Or.inl rfl) rfl (Nc:=["row","side"]) (ix:=[none,none]) (cU (aG mO) ["rows","right","table","column","place"] rfl rfl (by decide +kernel)) (BI K (by rfl) T.Gw (aA (pv 0) (aA (pv 1) aD))) (fun C fp s H=>⟨(xO K (i:=0) (j:=1) rfl (show (["row","side"]:List Str).Nodup by decide +kernel) rfl rfl (Or.inl rfl) (Or.inl rfl)),cP,(aZ (se.mono (by decide)) hr aX (aA (pv 0) (aA (pv 1) aD)))⟩))
   (aC (PS.A2 (cT PassesOwn.never rfl (cS (by rfl) T.dB (aA (bQ (bP K) (by rfl) T.kH boot_len (aA (pv 2) aD)) aD)) (ak (i:=3) mZ.nd rfl (Or.inl rfl))
    (aC (aR (i:=4) mZ.nd rfl (Or.inl rfl) (aZ (lW.mono (by decide)) hr aX (aA (pv 2) (aA (pv 3) aD))))
    (aC (bG (aV A4 (pv 4) eO (aa _))
     (aH (aY eO))
     (aj))
    (aH (aR (i:=2) mZ.nd rfl (Or.inl rfl) (aZ (vc.mono (by decide)) hr aX (aA (aZ (qB.mono (by decide)) hr aX (aA (pv 2) (aA (pv 3) (aA (pv 4) aD)))) (aA (pv 3) aD)))))))))
   (aH (aY (lA rfl (Nc:=["row"]) (ix:=[none]) (cU (aG mO) ["rows","right","table","column","place"] rfl rfl (by decide +kernel)) (bK K (pv 2)) (fun C fp s H=>⟨(ak (i:=0) (show (["row"]:List Str).Nodup by decide +kernel) rfl (Or.inl rfl)),cP,(ag (aM K) (pv 0) (xb r9 aF) (fun _ _=>rfl))⟩))))),?_⟩
  have qt:(2000:Nat)≤sizeLine:=by decide
  refine ⟨_,rfl,_,rfl,l,r,rfl,⟨_,g1⟩,⟨_,O2⟩,fun D hD=>?_⟩
  refine Gk (K:=K) (a:=l) (b:=r) (n:=n) (F:=fun i=>V.ref (as i)) (G:=fun i=>V.int (b i)) (fun i σ H'=>∃ (v u:Option V) (ps:Nat→Addr),σ=[v,u]∧aJ H H'∧H' D=some (.lst (bN i ps))∧∀ k,k < i→H' (ps k)=some (.lst (tabI (n+1) (jc n a b k)))∧ps k≠D)
   ⟨none,none,as,rfl,(aJ.refl _).new hD,aB,fun k hk=>by omega⟩ (fun i σ H' _ ⟨_,_,_,_,s1,_⟩=>⟨s1.seq g1,s1.seq O2⟩) ?_ ?_
  ·rintro i pt σ H' N hN hi ⟨v,u,ps,rfl,s1,h1,hp⟩ ZM
   refine xx ?_
   have nD:D≠pt:=aK h1 ZM
   have st:=(aJ.refl H').new (o:=.tup [V.ref (as i),V.int (b i)]) ZM
   refine ⟨_,rfl,_,rfl,as i,n,a i,b i,rfl,st.seq (s1.seq (g2 i hi)),by omega,fun p H2 Qr s2 h2=>?_⟩
   have s3:=st.trans s2
   have np:D≠p:=aK (st _ _ h1) Qr
   refine ⟨_,s3 _ _ h1,by rw [aL];omega,?_⟩
   rw [fQ]
   refine hN _ _ ⟨_,_,_,rfl,(s1.trans s3).put hD,aB,fun k hk=>?_⟩
   by_cases e:k=i
   ·subst e
    simp only [if_true]
    exact ⟨by rw [aE (Ne.symm np),h2];rfl,Ne.symm np⟩
   ·simp only [e,if_false]
    obtain ⟨z1,z2⟩:=hp k (by omega)
    exact ⟨by rw [aE z2];exact s3 _ _ z1,z2⟩
  ·rintro σ H1 ⟨v,u,ps,rfl,s1,h1,hp⟩
   have G0:BG K H1 D n (n+1) (jc n a b):=⟨ps,aT.of h1,fun i hi=>aT.of (hp i hi).1⟩
   refine ⟨_,rfl,D,_,rfl,.inl (aT.of h1),_,rfl,by omega,by rw [aL];omega,?_⟩
   have en:(((bN n ps).length:Nat):Int).toNat=n:=by rw [aL,Int.toNat_natCast]
   rw [en]
   refine gs (lo:=0) (n:=n) (fun c σ H'=>∃ (v v':Option V) (l':Addr) (u:My.qw),σ=[some (.ref l),some (.ref r),some (.ref l'),v,v']∧aJ H1 H'∧BG K H' l' n (n+1) u∧(∀ i j,i < n→j < n+1→0≤u i j∧u i j < 97)∧My.Clear n c u∧∀ z,My.sO n (n+1) u z↔My.sO n (n+1) (jc n a b) z)
    ⟨none,none,D,jc n a b,rfl,aJ.refl _,G0,fun i j _ _=>⟨Int.emod_nonneg _ (by decide),Int.emod_lt_of_pos _ (by decide)⟩,My.Clear.start _ _,fun z=>Iff.rfl⟩ ?_ ?_
   ·rintro c σ H' hc ⟨v,v',l',u,rfl,s2,G,hu,MC,hk⟩
    have e0:(0:Int)+(c:Nat)=((c:Nat):Int):=by omega
    rw [e0]
    refine ⟨_,rfl,_,rfl,l',n,n+1,c,u,rfl,G,by omega,by omega,by omega,by omega,fun p zV zW CI _=>?_,fun hz=>?_⟩
    ·refine ⟨_,rfl,rfl,_,rfl,ie (fun z=>nomatch z) ?_⟩
     refine ⟨_,rfl,_,rfl,_,rfl,l',n,n+1,c,p,u,rfl,G,hc,zW,by omega,fun x1 H2 xv s3 G2=>?_⟩
     have Vi:My.swap u c p c c=u p c:=by unfold My.swap;rw [if_pos rfl]
     have Vl:=NM (n:=n+1) hc zW hu
     have Qs:=Vl c c hc (by omega)
     refine ⟨_,rfl,x1,n,n+1,c,My.swap u c p,rfl,G2,hc,by omega,by omega,by omega,Vl,by rw [Vi];exact CI,fun x2 H3 QJ s4 G3=>?_⟩
     have hinv:(97:Int) ∣ My.P (My.swap u c p c c) 95 * My.swap u c p c c - 1:=by
      have:=My.Ox (a:=My.swap u c p c c) (by rw [Vi] at *;omega) Qs.2
      omega
     exact ⟨_,_,x2,_,rfl,s2.trans (s3.trans s4),G3,K5,(MC.swap zV zW).clear hc hinv,fun z=>(My.sO.clear hc hinv).trans ((My.sO.swap hc zW).trans (hk z))⟩
    ·refine ⟨_,rfl,rfl,_,rfl,g7 rfl ?_⟩
     exact q2 (NL hk MC hc hz) H' (s1.trans s2)
   ·rintro σ H' ⟨v,v',l',u,rfl,s2,⟨bs,G1,G2⟩,hu,MC,hk⟩
    obtain ⟨NN,Xb⟩:=FD hk MC
    refine ⟨_,rfl,l',rfl,⟨_,G1⟩,fun D2 CJ=>?_⟩
    refine vN (K:=K) (a:=l') (n:=n) (F:=fun i=>V.ref (bs i)) (fun i σ H2=>∃ v:Option V,σ=[v]∧aJ H' H2∧H2 D2=some (.lst (tabI i fun k=>u k n))) ⟨none,rfl,(aJ.refl _).new CJ,aB⟩ (fun i σ H' _ ⟨_,_,s1,_⟩=>s1.seq G1) ?_ ?_
    ·rintro i σ H2 N hN hi ⟨v,rfl,s3,h3⟩
     refine fP ?_
     refine ⟨_,rfl,_,rfl,_,_,_,_,rfl,rfl,s3.seq (G2 i hi),KR,_,h3,by rw [aL];omega,?_⟩
     exact hN _ _ ⟨_,rfl,s3.put CJ,lD rfl⟩
    ·rintro σ H2 ⟨v,rfl,s3,h3⟩
     have UQ:=(s1.trans s2)
     exact q1 NN D2 H2 _ (UQ.free CJ) (UQ.trans s3) h3 (fun i hi=>hu i n hi (by omega)) Xb
def rZ (K:PySem.W.Frag):Sp:=fun vs H Q _=>∃ (l:Addr) (s:Nat→Int),vs=[.ref l]∧aT K H l (tabI 6 s)∧(∀ j,j < 6→0≤s j∧s j < 97) ∧
 ∀ p H',H p=none→aJ H H'→H' p=some (.lst ((My.pP s).map fun k=>V.int (k:Nat)))→Q (.ref p) H'
theorem ra:aP ["sums","place"] ["sums"] (aG jy):=⟨rfl,rfl,rfl,by decide +kernel,rfl,by decide +kernel,by decide +kernel⟩
theorem zX (F:aO K mg "lone_place" jy) (T:Txt K mg t) (si:Def P w K mg base 4 "exponent" ["a"] (wZ t.BadSign)) (j5:Def P w K mg base 4 "inverse" ["a"] (sX t.BadSign)):Def P w K mg base 5 "lone_place" ["sums"] (rZ K):=by
 refine F.def ra (fun _ _ _ _ _ _ us hl=>match us,hl with | [_],_=>rfl) (fun vs H Q E h=>?_) (fun f bM A outer s H vs Q E hr h=>?_)
 ·obtain ⟨l,s,rfl,_⟩:=h
  rfl
 ·obtain ⟨l,s,rfl,hl,bs,q⟩:=h
  refine ⟨_,aC (bG (PW.pt (rX (aV mH (ag (aM K) (pv 0) aF (fun _ _=>rfl)) aF (aa _)) (u7 (aV mH (ag (aM K) (pv 0) aF (fun _ _=>rfl)) aF (aa _)))))
    (aH (aY (ai aD)))
    (aj))
   (aC (aR (i:=1) ra.nd rfl (Or.inl rfl) (aZ (si.mono (by decide)) hr aX (aA (aN az (aN ff (ag (aM K) (pv 0) aF (fun _ _=>rfl)) (aZ (j5.mono (by decide)) hr aX (aA (ag (aM K) (pv 0) aF (fun _ _=>rfl)) aD))) (aS T.b6)) aD)))
   (aH (aY (pG (aV AU (pv 1) (aS T.BP) (aa _)) (ai (aA (pv 1) aD)) (ai aD))))),?_⟩
  have b0:=bs 0 (by decide)
  have b1:=bs 1 (by decide)
  have a0:xJ (tabI 6 s) 0=some (V.int (s 0)):=dh (n:=6) (by decide) (by decide)
  have a1:xJ (tabI 6 s) 1=some (V.int (s 1)):=dh (n:=6) (by decide) (by decide)
  have q':∀ p,H p=none→Q (.ref p) (upd H p (.lst ((My.pP s).map fun k=>V.int (k:Nat)))):=fun p hp=>q p _ hp ((aJ.refl _).new hp) aB
  refine ⟨_,rfl,l,_,_,_,rfl,rfl,hl,a0,rfl,_,rfl,?_⟩
  by_cases z0:s 0=0
  ·refine g7 (by rw [z0]) (ja ?_)
   refine ⟨zz0,fun p hp=>?_⟩
   have:=q' p hp
   rwa [My.pP,if_pos (.inl z0)] at this
  ·refine ie (fun e=>z0 (V.int.inj e)) ?_
   refine ⟨_,rfl,l,_,_,_,rfl,rfl,hl,a1,rfl,_,rfl,?_⟩
   by_cases z1:s 1=0
   ·refine g7 (by rw [z1]) ?_
    refine ⟨zz0,fun p hp=>?_⟩
    have:=q' p hp
    rwa [My.pP,if_pos (.inr z1)] at this
   ·refine ie (fun e=>z1 (V.int.inj e)) ?_
    have hinv:=My.IB (a:=s 0) (by omega) b0.2
    have UR:=My.Qf (s 0) 95
    have hv:=My.Qg (a:=s 1) (b:=My.P (s 0) 95) (by omega) b1.2 hinv UR
    have hv1:s 1 * My.P (s 0) 95 % 97 < 97:=Int.emod_lt_of_pos _ (by decide)
    refine ⟨_,rfl,l,_,_,_,rfl,rfl,hl,a1,_,rfl,l,_,_,_,rfl,rfl,hl,a0,s 0,rfl,ig (by omega) (by omega),fun _=>?_,fun h=>absurd ⟨by omega,b0.2⟩ h⟩
    refine ⟨_,_,rfl,rfl,.inl ⟨by omega,by omega⟩,_,_,rfl,rfl,(by show (0:Int) < 97;decide),_,rfl,ig (by omega) (by omega),fun _=>?_,fun h=>absurd ⟨hv,hv1⟩ h⟩
    have e0:=My.Kf (s 1 * My.P (s 0) 95 % 97)
    refine ⟨_,rfl,_,_,rfl,rfl,_,rfl,?_⟩
    by_cases hp:My.ex (s 1 * My.P (s 0) 95 % 97) < 24
    ·refine g7 hp ?_
     refine ⟨_,rfl,zz1,fun p Qr=>?_⟩
     have:=q' p Qr
     rw [My.pP,if_neg (by omega),if_pos hp] at this
     have e1:[V.int (My.ex (s 1 * My.P (s 0) 95 % 97))]=([(My.ex (s 1 * My.P (s 0) 95 % 97)).toNat].map fun k=>V.int (k:Nat)):=by
      show _=[V.int (((My.ex (s 1 * My.P (s 0) 95 % 97)).toNat:Nat):Int)]
      rw [Int.toNat_of_nonneg e0]
     rw [e1]
     exact this
    ·refine ie hp ?_
     refine ⟨zz0,fun p Qr=>?_⟩
     have:=q' p Qr
     rwa [My.pP,if_neg (by omega),if_neg hp] at this
def yT:Sp:=fun vs H Q _=>∃ x t u:Int,vs=[.int x,.int t,.int u]∧0≤x∧x < 97∧0≤t∧t < 97∧Q (.bl (decide ((x * x - t * x+u) % 97=0))) H
theorem FE:aP ["point","total","product"] ["point","total","product"] (aG qz):=⟨rfl,rfl,rfl,by decide +kernel,rfl,by decide +kernel,by decide +kernel⟩
theorem FF (F:aO K mg "is_root" qz) (T:Txt K mg t):Def P w K mg base 1 "is_root" ["point","total","product"] yT:=by
 refine F.def FE (fun _ _ _ _ _ _ us hl=>match us,hl with | [_,_,_],_=>rfl) (fun vs H Q E h=>?_) (fun f bM A outer s H vs Q E hr h=>?_)
 ·obtain ⟨x,t,u,rfl,_⟩:=h
  rfl
 ·obtain ⟨x,tt,u,rfl,x0,x1,t0,t1,q⟩:=h
  refine ⟨_,aH (aY (qs mH (aN az (aN bj (aN dc (aN ff (pv 0) (pv 0)) (aN ff (pv 1) (pv 0))) (pv 2)) (aS T.b6)) aF (aa _))),?_⟩
  refine ⟨_,rfl,_,rfl,_,_,rfl,rfl,.inl ⟨by omega,by omega⟩,_,rfl,_,rfl,_,_,rfl,rfl,.inl ⟨by omega,by omega⟩,_,_,rfl,rfl,_,rfl,_,_,rfl,rfl,_,_,rfl,rfl,(by show (0:Int) < 97;decide),rfl,?_⟩
  have e:decide (V.int ((x * x - tt * x+u) % 97)=V.int 0)=decide ((x * x - tt * x+u) % 97=0):=decide_eq_decide.mpr ⟨fun h=>V.int.inj h,fun h=>by rw [h]⟩
  show Q (.bl (decide (V.int ((x * x - tt * x+u) % 97)=V.int 0))) H
  rw [e]
  exact q
def md (K:PySem.W.Frag):Sp:=fun vs H Q _=>∃ (l:Addr) (s:Nat→Int),vs=[.ref l]∧aT K H l (tabI 6 s)∧(∀ j,j < 6→0≤s j∧s j < 97) ∧
 ∀ p H' ps,H p=none→aJ H H'→H' p=some (.lst (ps.map fun k=>V.int (k:Nat)))→My.Kq s ps→Q (.ref p) H'
theorem ir:aP ["sums","rows","pair"] ["sums"] (aG dW):=⟨rfl,rfl,rfl,by decide +kernel,rfl,by decide +kernel,by decide +kernel⟩
theorem vd (F:aO K mg "turned_places" dW) (T:Txt K mg t) (me:Def P w K mg base 6 "solved" ["rows","right"] (vb K)) (nV:Def P w K mg base 5 "lone_place" ["sums"] (rZ K)) (ve:Def P w K mg base 1 "is_root" ["point","total","product"] yT)
  (gR:Def P w K mg base 3 "power" ["a","k"] (pj t.BadSign)):Def P w K mg base 7 "turned_places" ["sums"] (md K):=by
 refine F.def ir (fun _ _ _ _ _ _ us hl=>match us,hl with | [_],_=>rfl) (fun vs H Q E h=>?_) (fun f bM A outer s H vs Q E hr h=>?_)
 ·obtain ⟨l,s,rfl,_⟩:=h
  rfl
 ·obtain ⟨l,s,rfl,hl,bs,q⟩:=h
  refine ⟨_,aC (aR (i:=1) ir.nd rfl (Or.inl rfl) (ai (aA (ai (aA (ag (aM K) (pv 0) aF (fun _ _=>rfl)) (aA (aN az (xb r9 (ag (aM K) (pv 0) aF (fun _ _=>rfl))) (aS T.b6)) aD))) (aA (ai (aA (ag (aM K) (pv 0) aF (fun _ _=>rfl)) (aA (aN az (xb r9 (ag (aM K) (pv 0) aF (fun _ _=>rfl))) (aS T.b6)) aD))) aD))))
   (aC (aR (i:=2) ir.nd rfl (Or.inr rfl) (aZ (me.mono (by decide)) hr aX (aA (pv 1) (aA (ai (aA (ag (aM K) (pv 0) aF (fun _ _=>rfl)) (aA (ag (aM K) (pv 0) aF (fun _ _=>rfl)) aD))) aD))))
   (aC (bG (aV A4 (pv 2) eO (aa _))
    (aH (aY (aZ (nV.mono (by decide)) hr aX (aA (pv 0) aD))))
    (aj))
   (aH (aY (lA rfl (Nc:=["place","pair"]) (ix:=[none,some 2]) (cU (aG dW) ["sums","rows","pair"] rfl rfl (by decide +kernel)) (cS (by rfl) T.dB (aA (aS T.BP) aD)) (fun C fp s H=>⟨(ak (i:=0) (show (["place","pair"]:List Str).Nodup by decide +kernel) rfl (Or.inl rfl)),(xK (pF (aZ (ve.mono (by decide)) hr aX (aA (aZ (gR.mono (by decide)) hr aX (aA (aS T.Gu) (aA (pv 0) aD))) (aA (ag (aM K) (pv 1) aF (fun _ _=>rfl)) (aA (ag (aM K) (pv 1) aF (fun _ _=>rfl)) aD)))))),(pv 0)⟩)))))),?_⟩
  have a0:xJ (tabI 6 s) 0=some (V.int (s 0)):=dh (n:=6) (by decide) (by decide)
  have a1:xJ (tabI 6 s) 1=some (V.int (s 1)):=dh (n:=6) (by decide) (by decide)
  have a2:xJ (tabI 6 s) 2=some (V.int (s 2)):=dh (n:=6) (by decide) (by decide)
  have a3:xJ (tabI 6 s) 3=some (V.int (s 3)):=dh (n:=6) (by decide) (by decide)
  have b4:∀ j,j < 4→0≤s j∧s j < 97:=fun j hj=>bs j (by omega)
  refine ⟨_,rfl,l,_,_,_,rfl,rfl,hl,a1,_,rfl,l,_,_,_,rfl,rfl,hl,a0,_,rfl,_,_,rfl,rfl,(by show (0:Int) < 97;decide),zz2,fun r1 O2=>?_⟩
  have s1:=(aJ.refl H).new (o:=.lst [V.int (s 1),V.int (-(s 0) % 97)]) O2
  refine ⟨_,rfl,l,_,_,_,rfl,rfl,s1.seq hl,a2,_,rfl,l,_,_,_,rfl,rfl,s1.seq hl,a1,_,rfl,_,_,rfl,rfl,(by show (0:Int) < 97;decide),zz2,fun r2 Vt=>?_⟩
  have s2:=s1.new (o:=.lst [V.int (s 2),V.int (-(s 1) % 97)]) Vt
  refine ⟨zz2,fun r3 Xc=>?_⟩
  have s3:=s2.new (o:=.lst [V.ref r1,V.ref r2]) Xc
  have e1:(upd (upd (upd H r1 (.lst [V.int (s 1),V.int (-(s 0) % 97)])) r2 (.lst [V.int (s 2),V.int (-(s 1) % 97)])) r3 (.lst [V.ref r1,V.ref r2])) r1=some (.lst [V.int (s 1),V.int (-(s 0) % 97)]):=by
   have z:r1≠r2:=aK aB Vt
   rw [aE (aK (by rw [aE z];exact aB) Xc),aE z];exact aB
  have e2:(upd (upd (upd H r1 (.lst [V.int (s 1),V.int (-(s 0) % 97)])) r2 (.lst [V.int (s 2),V.int (-(s 1) % 97)])) r3 (.lst [V.ref r1,V.ref r2])) r2=some (.lst [V.int (s 2),V.int (-(s 1) % 97)]):=by
   rw [aE (aK aB Xc)];exact aB
  have e3:(upd (upd (upd H r1 (.lst [V.int (s 1),V.int (-(s 0) % 97)])) r2 (.lst [V.int (s 2),V.int (-(s 1) % 97)])) r3 (.lst [V.ref r1,V.ref r2])) r3=some (.lst [V.ref r1,V.ref r2]):=aB
  generalize upd (upd (upd H r1 (.lst [V.int (s 1),V.int (-(s 0) % 97)])) r2 (.lst [V.int (s 2),V.int (-(s 1) % 97)])) r3 (.lst [V.ref r1,V.ref r2])=H3 at *
  refine ⟨_,rfl,_,rfl,l,_,_,_,rfl,rfl,s3.seq hl,a2,_,rfl,l,_,_,_,rfl,rfl,s3.seq hl,a3,zz2,fun r4 hr4=>?_⟩
  have s4:=(aJ.refl H3).new (o:=.lst [V.int (s 2),V.int (s 3)]) hr4
  have G:BG K (upd H3 r4 (.lst [V.int (s 2),V.int (s 3)])) r3 2 2 (My.M s):=by
   refine ⟨fun i=>if i=0 then r1 else r2,aT.of (s4 _ _ e3),fun i hi=>?_⟩
   match i,hi with
   | 0,_=>exact aT.of (s4 _ _ e1)
   | 1,_=>exact aT.of (s4 _ _ e2)
  refine ⟨r3,r4,2,My.M s,fun i=>s (i+2),rfl,G,aT.of aB,by decide,fun Xd p5 H5 x Rw s5 h5 bx hx=>?_,fun Xd H5 s5=>?_⟩
  ·refine ⟨_,rfl,rfl,_,rfl,ie (fun z=>nomatch z) ?_⟩
   have sA:=(s3.trans s4).trans s5
   refine ⟨24,rfl,by decide,by decide,fun D hD=>?_⟩
   refine Mw (n:=24) (by decide) (b:=My.Gr (x 0) (x 1)) hD (fun i H6 N hi s6 hn=>?_) (fun i H6 N hi hn=>⟨_,rfl,hn⟩) fun H6 s6 h6=>?_
   ·have Qt:=bx 0 (by decide)
    refine ⟨_,rfl,5,_,rfl,by decide,by omega,fun _=>?_,fun h=>absurd (show (0:Int)≤5∧(5:Int) < 97 by decide) h⟩
    refine ⟨_,rfl,p5,_,_,_,rfl,rfl,aT.of (s6 _ _ h5),dh (n:=2) (by decide) (by decide),_,rfl,p5,_,_,_,rfl,rfl,aT.of (s6 _ _ h5),dh (n:=2) (by decide) (by decide),_,_,_,rfl,My.T7 _ _,My.Qf _ _,Qt.1,Qt.2,_,rfl,?_⟩
    have e0:(0:Int)+(i:Nat)=(i:Nat):=by omega
    rw [e0]
    exact hn H6 (aJ.refl _)
   ·exact q D H6 _ (sA.free hD) (sA.trans s6) h6 (My.Kr Xd hx)
  ·refine ⟨_,rfl,rfl,_,rfl,g7 rfl ?_⟩
   have sA:=(s3.trans s4).trans s5
   refine ⟨_,rfl,l,s,rfl,sA.seq hl,bs,fun p6 H6 O3 s6 h6=>?_⟩
   exact q p6 H6 _ (sA.free O3) (sA.trans s6) h6 (My.NB b4 Xd)
def we (K:PySem.W.Frag):Sp:=fun vs H Q _=>∃ (l r:Addr) (ps:List Nat) (s:Nat→Int),vs=[.ref l,.ref r]∧H l=some (.lst (ps.map fun k=>V.int (k:Nat)))∧aT K H r (tabI 6 s)∧ps.Nodup∧(∀ p ∈ ps,p < 24)∧ps.length≤2 ∧
 ∀ p H' x,H p=none→aJ H H'→H' p=some (.lst (tabI ps.length x))→(∀ i,i < ps.length→0≤x i∧x i < 97)→(∀ i,i < ps.length→(97:Int) ∣ My.ip ps.length (fun q=>My.P 5 ((ps.getD q 0:Nat) * (1+(i:Int)))) x - s i)→Q (.ref p) H'
theorem wg:aP ["places","sums","rows"] ["places","sums"] (aG kG):=⟨rfl,rfl,rfl,by decide +kernel,rfl,by decide +kernel,by decide +kernel⟩
theorem DE (F:aO K mg "turns_at" kG) (T:Txt K mg t) (me:Def P w K mg base 6 "solved" ["rows","right"] (vb K)) (gR:Def P w K mg base 3 "power" ["a","k"] (pj t.BadSign)):Def P w K mg base 7 "turns_at" ["places","sums"] (we K):=by
 refine F.def wg (fun _ _ _ _ _ _ us hl=>match us,hl with | [_,_],_=>rfl) (fun vs H Q E h=>?_) (fun f bM A outer s H vs Q E hr h=>?_)
 ·obtain ⟨l,r,ps,s,rfl,_⟩:=h
  rfl
 ·obtain ⟨l,r,ps,s,rfl,hl,O2,nd,hb,Co,q⟩:=h
  refine ⟨_,aC (pL (i:=2) wg.nd rfl (Or.inl rfl) rfl (Nc:=["j","places"]) (ix:=[none,some 0]) (cU (aG kG) ["places","sums","rows"] rfl rfl (by decide +kernel)) (vB (by rfl) T.dB (aA aF (aA (aN bj (bQ (bP K) (by rfl) T.kH boot_len (aA (pv 0) aD)) aF) aD))) (fun C fp s H=>⟨(ak (i:=0) (show (["j","places"]:List Str).Nodup by decide +kernel) rfl (Or.inr rfl)),cP,(lA rfl (Nc:=["place","j"]) (ix:=[none,some 0]) (cU _ ["j","places"] rfl rfl (by kernel_rfl)) (bK K (pv 1)) (fun C fp s H=>⟨(ak (i:=0) (show (["place","j"]:List Str).Nodup by decide +kernel) rfl (Or.inl rfl)),cP,(aZ (gR.mono (by decide)) hr aX (aA (aS T.Gu) (aA (aN ff (pv 0) (pv 1)) aD)))⟩))⟩))
   (aH (aY (aZ (me.mono (by decide)) hr aX (aA (pv 2) (aA (jT (jU K) (pv 1) qu (jO (bQ (bP K) (by rfl) T.kH boot_len (aA (pv 0) aD)))) aD))))),?_⟩
  have qt:(2000:Nat)≤sizeLine:=by decide
  rw [Ce] at hl
  generalize hn:ps.length=n at *
  have hg:∀ q,q < n→((ps.getD q 0:Nat):Int) < 24:=fun q hq=>by
   have:=hb (ps.getD q 0) (by rw [My.getD_get (by omega)];exact List.getElem_mem _)
   omega
  refine ⟨_,rfl,l,_,rfl,.inl (aT.of hl),_,_,rfl,rfl,1,_,rfl,⟨by decide,by decide,by rw [aL];omega,by rw [aL];omega⟩,fun D3 MD=>?_⟩
  rw [show ((((tabI n fun q=>((ps.getD q 0:Nat):Int)).length:Nat):Int)+1 - 1).toNat=n by rw [aL];omega]
  refine mK (lo:=1) (n:=n) (fun j σ Hf=>∃ (v:Option V) (rs:Nat→Addr),σ=[v,some (.ref l)]∧aJ H Hf∧Hf D3=some (.lst (bN j rs))∧∀ y,y < j→Hf (rs y)=some (.lst (tabI n fun q=>My.P 5 ((ps.getD q 0:Nat) * (1+(y:Int)))))∧rs y≠D3)
   ⟨none,fun _=>0,rfl,(aJ.refl _).new MD,aB,fun y hy=>by omega⟩ ?_ ?_
  ·rintro j σ Hf N hN hj ⟨v,rs,rfl,sf,NO,Qu⟩
   refine fP ?_
   refine ⟨_,rfl,l,rfl,⟨_,aT.of (sf _ _ hl)⟩,fun D4 Xe=>?_⟩
   have ZN:D3≠D4:=aK NO Xe
   refine vN (K:=K) (a:=l) (n:=n) (F:=fun q=>V.int ((ps.getD q 0:Nat):Int)) (fun y σ Hg=>∃ v:Option V,σ=[v,some (.int (1+(j:Int)))]∧aJ Hf Hg∧Hg D4=some (.lst (tabI y fun q=>My.P 5 ((ps.getD q 0:Nat) * (1+(j:Int))))))
    ⟨none,rfl,(aJ.refl _).new Xe,aB⟩ (fun y σ Hg _ ⟨_,_,sg,_⟩=>aT.of (sg _ _ (sf _ _ hl))) ?_ ?_
   ·rintro y σ Hg N2 US hy ⟨v,rfl,sg,Qv⟩
    refine fP ?_
    have hb:=hg y hy
    refine ⟨_,rfl,_,rfl,_,_,rfl,rfl,.inl ⟨by omega,by omega⟩,5,_,rfl,by decide,Int.mul_nonneg (by omega) (by omega),fun _=>?_,fun h=>absurd (show (0:Int)≤5∧(5:Int) < 97 by decide) h⟩
    refine ⟨_,Qv,by rw [aL];omega,?_⟩
    exact US _ _ ⟨_,rfl,sg.put Xe,lD rfl⟩
   ·rintro σ Hg ⟨v,rfl,sg,Qv⟩
    refine ⟨_,sg _ _ NO,by rw [aL];omega,?_⟩
    rw [fQ]
    refine hN _ _ ⟨_,_,rfl,(sf.trans sg).put MD,aB,fun y hy=>?_⟩
    by_cases e:y=j
    ·subst e
     rw [if_pos rfl,aE (Ne.symm ZN)]
     exact ⟨Qv,Ne.symm ZN⟩
    ·rw [if_neg e]
     obtain ⟨w1,w2⟩:=Qu y (by omega)
     rw [aE w2]
     exact ⟨sg _ _ w1,w2⟩
  ·rintro σ Hf ⟨v,rs,rfl,sf,NO,Qu⟩
   refine ⟨_,rfl,_,rfl,_,rfl,l,_,rfl,.inl (aT.of (sf _ _ hl)),_,rfl,r,_,rfl,sf.seq O2,fun D5 hD5=>?_⟩
   rw [aL,show fh (tabI 6 s) none (some (n:Int))=tabI n s from sJ (by omega)]
   have s5:=(aJ.refl Hf).new (o:=.lst (tabI n s)) hD5
   have NN:=My.Gs nd hb
   rw [hn] at NN
   refine ⟨D3,D5,n,(fun i q=>My.P 5 ((ps.getD q 0:Nat) * (1+(i:Int)))),s,rfl,⟨rs,aT.of (s5 _ _ NO),fun i hi=>aT.of (s5 _ _ (Qu i hi).1)⟩,aT.of aB,by omega,fun _ pa Hh x G9 sh hxa bx UT=>?_,fun h=>absurd NN h⟩
   have sA:=sf.trans s5
   exact q pa Hh x (sA.free G9) (sA.trans sh) hxa bx UT
def Aq (K:PySem.W.Frag):Sp:=fun vs H Q _=>∃ (l:Addr) (f:Nat→Int),vs=[.ref l]∧aT K H l (tabI 24 f)∧IsCell 24 f ∧
 (∀ g p H',My.vT f g→H p=none→aJ H H'→H' p=some (.lst (tabI 24 g))→Q (.ref p) H')∧((∀ g,¬ My.vT f g)→∀ H',aJ H H'→Q .bH H')
theorem NP {f x:Nat→Int} {ps:List Nat} {k:Nat} (h:ps.getD k 0 < 24):(tabI 24 (My.x9 f ps x k)).set (ps.getD k 0) (V.int ((My.x9 f ps x k (ps.getD k 0) - x k) % 97))=tabI 24 (My.x9 f ps x (k+1)):=by
 rw [xM h]
 refine bT fun j _=>?_
 show _=V.int (if j=ps.getD k 0 then (My.x9 f ps x k (ps.getD k 0) - x k) % 97 else My.x9 f ps x k j)
 split <;> rfl
theorem mf:aP ["cell","sums","places","found","place","turn"] ["cell"] (aG uW):=⟨rfl,rfl,rfl,by decide +kernel,rfl,by decide +kernel,by decide +kernel⟩
theorem IX (F:aO K mg "mended" uW) (T:Txt K mg t) (iq:Def P w K mg base 4 "troubles" ["cell"] (pk K)) (qC:Def P w K mg base 5 "is_sealed" ["cell"] (uj K)) (jd:Def P w K mg base 7 "turned_places" ["sums"] (md K))
  (sj:Def P w K mg base 7 "turns_at" ["places","sums"] (we K)):Def P w K mg base 8 "mended" ["cell"] (Aq K):=by
 refine F.def mf (fun _ _ _ _ _ _ us hl=>match us,hl with | [_],_=>rfl) (fun vs H Q E h=>?_) (fun f bM A outer s H vs Q E hr h=>?_)
 ·obtain ⟨l,f,rfl,_⟩:=h
  rfl
 ·obtain ⟨l,f,rfl,hl,cf,q1,q2⟩:=h
  refine ⟨_,aC (aR (i:=1) mf.nd rfl (Or.inl rfl) (aZ (iq.mono (by decide)) hr aX (aA (pv 0) aD)))
   (aC (bG (aV (Gm K (uT hr)) (pv 1) (aN xk (ai (aA aF aD)) (aS T.Gv)) (aa _))
    (aH (aY (ib (ij K) (by rfl) T.sQ boot_list (aA (pv 0) aD))))
    (aj))
   (aC (aR (i:=2) mf.nd rfl (Or.inl rfl) (aZ (jd.mono (by decide)) hr aX (aA (pv 1) aD)))
   (aC (aR (i:=3) mf.nd rfl (Or.inl rfl) (ib (ij K) (by rfl) T.sQ boot_list (aA (pv 0) aD)))
   (aC (PS.A2 (cT PassesOwn.never rfl (BI K (by rfl) T.Gw (aA (pv 2) (aA (aZ (sj.mono (by decide)) hr aX (aA (pv 2) (aA (pv 1) aD))) aD))) (xO K (i:=4) (j:=5) rfl mf.nd rfl rfl (Or.inl rfl) (Or.inl rfl))
    (aH (vA (aN az (aN dc (ag (aM K) (pv 3) (pv 4) (fun _ _=>rfl)) (pv 5)) (aS T.b6)) (u9 (pv 3) (pv 4) set_list)))))
   (aH (aY (pG (pF (aZ (qC.mono (by decide)) hr aX (aA (pv 3) aD))) (pv 3) eO))))))),?_⟩
  have mp:∀ n (g:Nat→Int),tabI n g=((List.range n).map g).map V.int:=fun n g=>(xN n g).symm
  refine ⟨_,rfl,l,f,rfl,hl,cf,fun p1 H1 zV s1 h1=>?_⟩
  have bs:∀ j,j < 6→0≤My.T (My.St j) 24 f∧My.T (My.St j) 24 f < 97:=fun j _=>⟨My.XS _ _ _,My.XT _ _ _⟩
  refine ⟨_,rfl,zz1,fun a1 IT=>?_⟩
  refine ⟨a1,_,_,rfl,rfl,aB,by decide,by decide,by decide,fun a2 IU=>?_⟩
  have s2:=((aJ.refl H1).new (o:=.lst [V.int 0]) IT).new (o:=.lst (List.replicate (6:Int).toNat [V.int 0]).flatten) IU
  have Rx:=s2 _ _ h1
  refine ⟨p1,a2,(List.range 6).map fun j=>My.T (My.St j) 24 f,(List.range 6).map fun _=>0,rfl,rfl,aT.of (by rw [← mp];exact Rx),aT.of (by rw [aB];rfl),_,rfl,?_⟩
  have sA:=s1.trans s2
  generalize upd (upd H1 a1 (.lst [V.int 0])) a2 (.lst (List.replicate (6:Int).toNat [V.int 0]).flatten)=H2 at *
  by_cases hz:(List.range 6).map (fun j=>My.T (My.St j) 24 f)=(List.range 6).map fun _=>(0:Int)
  ·refine g7 hz ?_
   have sl:My.eU f:=lP.mp (by unfold rD;exact decide_eq_true hz)
   refine ⟨_,rfl,l,_,rfl,.inl (sA.seq hl),fun p hp=>?_⟩
   exact q1 f p _ (My.vT.self cf.b sl) (sA.free hp) (sA.new hp) aB
  ·refine ie hz ?_
   have sl:¬ My.eU f:=fun z=>hz (by have:=lP.mpr z;unfold rD at this;exact of_decide_eq_true this)
   refine ⟨_,rfl,p1,_,rfl,aT.of Rx,bs,fun p3 H3 ps CI s3 h3 pl=>?_⟩
   have sB:=sA.trans s3
   refine ⟨_,rfl,l,_,rfl,.inl (sB.seq hl),fun p4 Ry=>?_⟩
   have s4:=(aJ.refl H3).new (o:=.lst (tabI 24 f)) Ry
   have h4:(upd H3 p4 (.lst (tabI 24 f))) p4=some (.lst (tabI 24 f)):=aB
   have UU:=s4 _ _ h3
   have h14:=s4 _ _ (s3 _ _ Rx)
   generalize hH4:upd H3 p4 (.lst (tabI 24 f))=H4 at *
   refine ⟨_,rfl,_,rfl,_,rfl,p3,p1,ps,_,rfl,UU,aT.of h14,pl.nd,pl.b,pl.Co,fun p5 H5 x Rw s5 h5 bx hx=>?_⟩
   have Xf:=s5 _ _ UU
   rw [Ce] at Xf
   have n45:p4≠p5:=aK h4 Rw
   refine ⟨p3,p5,rfl,⟨_,aT.of Xf⟩,⟨_,aT.of h5⟩,?_⟩
   have f3:H3 p4=none:=Ry
   have n43:p3≠p4:=aK h3 f3
   refine Mv (K:=K) (a:=p3) (b:=p5) (xs:=tabI ps.length fun q=>((ps.getD q 0:Nat):Int)) (ys:=tabI ps.length x) (by rw [aL,aL])
    (fun k σ H6=>∃ v1 v2:Option V,σ=[some (.ref l),some (.ref p1),some (.ref p3),some (.ref p4),v1,v2]∧aJ H3 H6∧H6 p4=some (.lst (tabI 24 (My.x9 f ps x k)))∧H6 p3=some (.lst (tabI ps.length fun q=>((ps.getD q 0:Nat):Int)))∧H6 p5=some (.lst (tabI ps.length x)))
    ⟨none,none,rfl,s4.trans s5,s5 _ _ h4,Xf,h5⟩ (fun k σ H6 _ ⟨_,_,_,_,_,z3,z5⟩=>⟨aT.of z3,aT.of z5⟩) ?_ ?_
   ·rintro k u v pp σ H6 hu hv ⟨v1,v2,rfl,s6,h6,z3,z5⟩ Qq
    obtain ⟨hk,rfl⟩:=tab_of hu
    obtain ⟨_,rfl⟩:=tab_of hv
    have hg:ps.getD k 0 < 24:=pl.b _ (by rw [My.getD_get hk];exact List.getElem_mem _)
    have np:p4≠pp:=aK h6 Qq
    have n3:p3≠pp:=aK z3 Qq
    have n5:p5≠pp:=aK z5 Qq
    have ZO:(upd H6 pp (.tup [V.int ((ps.getD k 0:Nat):Int),V.int (x k)])) p4=some (.lst (tabI 24 (My.x9 f ps x k))):=by rw [aE np];exact h6
    refine Ka (jZ.of aB) ?_
    refine ⟨_,rfl,_,rfl,p4,_,_,_,rfl,rfl,aT.of ZO,dh (by dsimp only;omega) (by dsimp only;omega),_,rfl,_,_,rfl,rfl,_,_,rfl,rfl,(by show (0:Int) < 97;decide),_,rfl,_,rfl,p4,_,_,_,rfl,rfl,ZO,x3 (by dsimp only;omega) (by dsimp only;omega),?_⟩
    dsimp only
    rw [Int.toNat_natCast,NP hg]
    refine ⟨_,_,rfl,(s6.new Qq).put f3,aB,?_,?_⟩
    ·rw [aE n43,aE n3];exact z3
    ·rw [aE (Ne.symm n45),aE n5];exact z5
   ·rintro σ H6 ⟨v1,v2,rfl,s6,h6,z3,z5⟩
    rw [aL] at h6
    have cfn:IsCell 24 (My.x9 f ps x ps.length):=⟨My.Ks ps x cf.b ps.length⟩
    have sC:=sB.trans s6
    refine ⟨_,rfl,p4,_,rfl,aT.of h6,cfn,fun H7 s7=>⟨_,rfl,?_⟩⟩
    by_cases hs:My.eU (My.x9 f ps x ps.length)
    ·rw [lP.mpr hs]
     refine ja ?_
     refine ⟨_,rfl,?_⟩
     exact q1 _ p4 H7 (My.Eb cf.b pl.nd pl.Co hs) (sB.free f3) (sC.trans s7) (s7 _ _ h6)
    ·rw [Ez hs]
     refine eS ?_
     refine q2 (fun g hm=>hs ?_) H7 (sC.trans s7)
     exact hm.sealed.congr fun i hi=>(My.Ea cf.b hm sl pl hx i hi).symm
inductive Ev where
 | mk (w:Str) (p:Int × Int) (ns:List Int)
 | took (xs:List Int)
structure Lk where
 q:Int
 s:Int
 d:Int
 u:Int
 b:Int
 k:Int
 p:Option (Int × Int)
 ev:List Ev
 bR:List (List Int)
 of:Int
 tk:Int
def cN (q s d u b k:Int) (pv:V) (tA pA:Addr) (o tk:Int):List (Str × V):=[("quiet",.int q),("side",.int s),("done",.int d),("unheard",.int u),("birth",.int b),("known",.int k),("pair",pv),("told",.ref tA),("pieces",.ref pA),("offered",.int o),("taken",.int tk)]
section
variable {q s d u b k x o tk:Int} {pv v:V} {tA pA y:Addr}
theorem HA:(cN q s d u b k pv tA pA o tk).lookup ("quiet":Str)=some (.int q):=rfl
theorem Qw:(cN q s d u b k pv tA pA o tk).lookup ("side":Str)=some (.int s):=rfl
theorem FG:(cN q s d u b k pv tA pA o tk).lookup ("done":Str)=some (.int d):=rfl
theorem Ar:(cN q s d u b k pv tA pA o tk).lookup ("unheard":Str)=some (.int u):=rfl
theorem uq:(cN q s d u b k pv tA pA o tk).lookup ("birth":Str)=some (.int b):=rfl
theorem rF:(cN q s d u b k pv tA pA o tk).lookup ("known":Str)=some (.int k):=rfl
theorem qD:(cN q s d u b k pv tA pA o tk).lookup ("pair":Str)=some pv:=rfl
theorem yU:(cN q s d u b k pv tA pA o tk).lookup ("told":Str)=some (.ref tA):=rfl
theorem mh:(cN q s d u b k pv tA pA o tk).lookup ("pieces":Str)=some (.ref pA):=rfl
theorem As:(cN q s d u b k pv tA pA o tk).lookup ("offered":Str)=some (.int o):=rfl
theorem Bi:(cN q s d u b k pv tA pA o tk).lookup ("taken":Str)=some (.int tk):=rfl
theorem NQ:fg "done" (.int x) (cN q s d u b k pv tA pA o tk)=cN q s x u b k pv tA pA o tk:=rfl
theorem FH:fg "unheard" (.int x) (cN q s d u b k pv tA pA o tk)=cN q s d x b k pv tA pA o tk:=rfl
theorem K6:fg "birth" (.int x) (cN q s d u b k pv tA pA o tk)=cN q s d u x k pv tA pA o tk:=rfl
theorem DF:fg "known" (.int x) (cN q s d u b k pv tA pA o tk)=cN q s d u b x pv tA pA o tk:=rfl
theorem HB:fg "pair" v (cN q s d u b k pv tA pA o tk)=cN q s d u b k v tA pA o tk:=rfl
theorem NR:fg "told" (.ref y) (cN q s d u b k pv tA pA o tk)=cN q s d u b k pv y pA o tk:=rfl
theorem IY:fg "pieces" (.ref y) (cN q s d u b k pv tA pA o tk)=cN q s d u b k pv tA y o tk:=rfl
theorem yV:fg "offered" (.int x) (cN q s d u b k pv tA pA o tk)=cN q s d u b k pv tA pA x tk:=rfl
theorem DG:fg "taken" (.int x) (cN q s d u b k pv tA pA o tk)=cN q s d u b k pv tA pA o x:=rfl
end
abbrev Lk.fld (L:Lk) (pv:V) (tA pA:Addr):List (Str × V):=cN L.q L.s L.d L.u L.b L.k pv tA pA L.of L.tk
def wj (B:Hp) (pv:V):Option (Int × Int)→Prop
 | none=>pv=.bH
 | some p=>∃ a,pv=.ref a∧B a=some (.tup [.int p.1,.int p.2])
def DH (B:Hp) (a:Addr):Ev→Prop
 | .mk w p ns=>∃ pa,B a=some (.tup (.str w :: .ref pa :: ns.map V.int))∧B pa=some (.tup [.int p.1,.int p.2])
 | .took xs=>∃ l,B a=some (.tup [.str "took",.ref l])∧B l=some (.lst (xs.map V.int))
def HC (B H:Hp) (l:Addr) (es:List Ev):Prop:=∃ kz:Nat→Addr,H l=some (.lst (bN es.length kz))∧∀ y e,es[y]?=some e→DH B (kz y) e
def bq (B H:Hp) (l:Addr) (ps:List (List Int)):Prop:=∃ iX:Nat→Addr,H l=some (.lst (bN ps.length iX))∧∀ y xs,ps[y]?=some xs→B (iX y)=some (.lst (xs.map V.int))
theorem wj.mono {B B':Hp} {pv:V} {o:Option (Int × Int)} (h:wj B pv o) (s:aJ B B'):wj B' pv o:=by
 cases o with
 | none=>exact h
 | some p=>obtain ⟨a,e,g⟩:=h;exact ⟨a,e,s _ _ g⟩
theorem DH.mono {B B':Hp} {a:Addr} {e:Ev} (h:DH B a e) (s:aJ B B'):DH B' a e:=by
 cases e with
 | mk w p ns=>obtain ⟨pa,g1,g2⟩:=h;exact ⟨pa,s _ _ g1,s _ _ g2⟩
 | took xs=>obtain ⟨l,g1,g2⟩:=h;exact ⟨l,s _ _ g1,s _ _ g2⟩
structure bE (C:Addr) (B H:Hp) (x tA pA:Addr) (L:Lk):Prop where
 sb:aJ B H
 bx:B x=none
 bt:B tA=none
 bp:B pA=none
 at_:∃ dx pv,H x=some (.ins C dx (L.fld pv tA pA))∧wj B pv L.p
 told:HC B H tA L.ev
 bR:bq B H pA L.bR
 ne:tA≠pA
def UW (a b c:Addr) (H H':Hp):Prop:=∀ x o,x≠a→x≠b→x≠c→H x=some o→H' x=some o
theorem kL {H:Hp} {x b:Addr} {o:HO} (h:(upd H x o) b=none) (hx:H x≠none):H b=none:=by
 by_cases z:b=x
 ·subst z;rw [aB] at h;cases h
 ·rw [aE z] at h;exact h
structure j1 (B H B' H':Hp) (x tA pA tB pB:Addr):Prop where
 bb:aJ B B'
 no:∀ a,H a≠none→B a=none→B' a=none
 k:UW x tA pA H H'
 g:∀ b,H' b=none→H b=none
 t:tB=tA∨H tB=none
 p:pB=pA∨H pB=none
theorem j1.refl {B H:Hp} {x tA pA:Addr}:j1 B H B H x tA pA tA pA:=⟨aJ.refl _,fun _ _ h=>h,fun _ _ _ _ _ h=>h,fun _ h=>h,.inl rfl,.inl rfl⟩
theorem j1.trans {B H B1 H1 B2 H2:Hp} {x tA pA tB pB tC pC:Addr} (a:j1 B H B1 H1 x tA pA tB pB) (b:j1 B1 H1 B2 H2 x tB pB tC pC):j1 B H B2 H2 x tA pA tC pC:=by
 have ne:∀ {y z:Addr} {o:HO},H y=some o→y≠z→(∀ {w:Addr},(w=z∨H w=none)→y≠w):=fun {y z o} e n {w} h=>h.elim (fun q=>q ▸ n) (fun q=>aK e q)
 refine ⟨a.bb.trans b.bb,fun y h1 h2=>b.no y (fun z=>h1 (a.g y z)) (a.no y h1 h2),fun y o n1 n2 n3 e=>b.k y o n1 (ne e n2 a.t) (ne e n3 a.p) (a.k y o n1 n2 n3 e),fun y h=>a.g y (b.g y h),?_,?_⟩
 ·rcases b.t with z | z
  ·rw [z];exact a.t
  ·exact .inr (a.g _ z)
 ·rcases b.p with z | z
  ·rw [z];exact a.p
  ·exact .inr (a.g _ z)
theorem j1.of_same {B H H1:Hp} {x tA pA:Addr} (s:aJ H H1):j1 B H B H1 x tA pA tA pA:=⟨aJ.refl _,fun _ _ h=>h,fun y o _ _ _ e=>s _ _ e,fun y h=>s.free h,.inl rfl,.inl rfl⟩
theorem j1.same {B H B1 H1 H2:Hp} {x tA pA tB pB:Addr} (a:j1 B H B1 H1 x tA pA tB pB) (s:aJ H1 H2):j1 B H B1 H2 x tA pA tB pB:=a.trans (j1.of_same s)
section
variable {C:Addr} {B H H':Hp} {x tA pA:Addr} {L:Lk}
theorem bE.hx (h:bE C B H x tA pA L):H x≠none:=by obtain ⟨_,_,g,_⟩:=h.at_;rw [g];exact fun z=>by cases z
theorem bE.ht (h:bE C B H x tA pA L):H tA≠none:=by obtain ⟨_,g,_⟩:=h.told;rw [g];exact fun z=>by cases z
theorem bE.hp (h:bE C B H x tA pA L):H pA≠none:=by obtain ⟨_,g,_⟩:=h.bR;rw [g];exact fun z=>by cases z
theorem bE.xt (h:bE C B H x tA pA L):x≠tA:=fun z=>by obtain ⟨_,_,g,_⟩:=h.at_;obtain ⟨_,g2,_⟩:=h.told;rw [z,g2] at g;cases g
theorem bE.xp (h:bE C B H x tA pA L):x≠pA:=fun z=>by obtain ⟨_,_,g,_⟩:=h.at_;obtain ⟨_,g2,_⟩:=h.bR;rw [z,g2] at g;cases g
theorem bE.same (h:bE C B H x tA pA L) (s:aJ H H'):bE C B H' x tA pA L:=by
 obtain ⟨dx,pv,g,gp⟩:=h.at_
 obtain ⟨kz,g2,Ds⟩:=h.told
 obtain ⟨iX,g3,yW⟩:=h.bR
 exact ⟨h.sb.trans s,h.bx,h.bt,h.bp,⟨dx,pv,s _ _ g,gp⟩,⟨kz,s _ _ g2,Ds⟩,⟨iX,s _ _ g3,yW⟩,h.ne⟩
theorem bE.grow {a:Addr} {o:HO} (h:bE C B H x tA pA L) (s:aJ H H') (na:H a=none) (ea:H' a=some o):bE C (upd B a o) H' x tA pA L∧j1 B H (upd B a o) H' x tA pA tA pA:=by
 have sB:aJ B (upd B a o):=(aJ.refl _).new (h.sb.free na)
 have no:∀ {b:Addr},H b≠none→B b=none→(upd B a o) b=none:=fun {b} hb e=>by rw [aE (fun z=>hb (by rw [z];exact na))];exact e
 have h1:=h.same s
 obtain ⟨dx,pv,g,gp⟩:=h1.at_
 obtain ⟨kz,g2,Ds⟩:=h1.told
 obtain ⟨iX,g3,yW⟩:=h1.bR
 refine ⟨⟨?_,no h.hx h.bx,no h.ht h.bt,no h.hp h.bp,⟨dx,pv,g,gp.mono sB⟩,⟨kz,g2,fun y e he=>(Ds y e he).mono sB⟩,⟨iX,g3,fun y xs hy=>sB _ _ (yW y xs hy)⟩,h.ne⟩,⟨sB,fun b=>no,fun y u _ _ _ e=>s _ _ e,fun y hy=>s.free hy,.inl rfl,.inl rfl⟩⟩
 intro b u e
 by_cases z:b=a
 ·rw [z] at e ⊢;rw [aB] at e;rw [ea];exact e
 ·rw [aE z] at e;exact h1.sb _ _ e
theorem bE.set {dx:Addr} {pv:V} {L':Lk} (h:bE C B H x tA pA L) (hp:wj B pv L'.p) (e:L'.ev=L.ev) (e2:L'.bR=L.bR) :
  bE C B (upd H x (.ins C dx (L'.fld pv tA pA))) x tA pA L'∧j1 B H B (upd H x (.ins C dx (L'.fld pv tA pA))) x tA pA tA pA:=by
 obtain ⟨kz,g2,Ds⟩:=h.told
 obtain ⟨iX,g3,yW⟩:=h.bR
 exact ⟨⟨h.sb.put h.bx,h.bx,h.bt,h.bp,⟨dx,pv,aB,hp⟩,by rw [e];exact ⟨kz,by rw [aE (Ne.symm h.xt)];exact g2,Ds⟩,by rw [e2];exact ⟨iX,by rw [aE (Ne.symm h.xp)];exact g3,yW⟩,h.ne⟩,
  ⟨aJ.refl _,fun _ _ z=>z,fun y o n1 _ _ e=>by rw [aE n1];exact e,fun b hb=>kL hb h.hx,.inl rfl,.inl rfl⟩⟩
theorem bE.tell {ea:Addr} {kz:Nat→Addr} {vs:List V} {e:Ev} (h:bE C B H x tA pA L) (g:H tA=some (.lst (bN L.ev.length kz))) (g':∀ y e,L.ev[y]?=some e→DH B (kz y) e) (he:H ea=none) (UX:DH (upd B ea (.tup vs)) ea e) :
  bE C (upd B ea (.tup vs)) (upd (upd H ea (.tup vs)) tA (.lst (bN L.ev.length kz ++ [.ref ea]))) x tA pA { L with ev:=L.ev ++ [e] } ∧
  j1 B H (upd B ea (.tup vs)) (upd (upd H ea (.tup vs)) tA (.lst (bN L.ev.length kz ++ [.ref ea]))) x tA pA tA pA:=by
 have s1:aJ H (upd H ea (.tup vs)):=(aJ.refl _).new he
 obtain ⟨h1,m1⟩:=h.grow (o:=.tup vs) s1 he aB
 obtain ⟨dx,pv,gx,gp⟩:=h1.at_
 obtain ⟨iX,g3,yW⟩:=h1.bR
 have g1:=s1 _ _ g
 refine ⟨⟨h1.sb.put h1.bt,h1.bx,h1.bt,h1.bp,⟨dx,pv,by rw [aE h.xt];exact gx,gp⟩,?_,⟨iX,by rw [aE (Ne.symm h.ne)];exact g3,yW⟩,h.ne⟩,?_⟩
 ·refine ⟨fun y=>if y=L.ev.length then ea else kz y,by rw [fQ];show _=some (HO.lst (bN (L.ev ++ [_]).length _));rw [List.length_append];exact aB,fun y e' hy=>?_⟩
  have hy:(L.ev ++ [e])[y]?=some e':=hy
  by_cases z:y=L.ev.length
  ·rw [z,List.getElem?_append_right (Nat.le_refl _),Nat.sub_self] at hy
   cases hy
   simp only [z,if_true]
   exact UX
  ·have UY:y < (L.ev ++ [e]).length:=(List.getElem?_eq_some_iff.mp hy).1
   rw [List.length_append] at UY
   have Xg:y < L.ev.length:=by simp at UY;omega
   rw [List.getElem?_append_left Xg] at hy
   simp only [z,if_false]
   exact (g' y e' hy).mono m1.bb
 ·exact m1.trans ⟨aJ.refl _,fun _ _ z=>z,fun y o _ n2 _ e=>by rw [aE n2];exact e,fun b hb=>kL hb h1.ht,.inl rfl,.inl rfl⟩
theorem K7 {ea pa:Addr} {w:Str} {p:Int × Int} {ns:List Int} (hb:B ea=none) (hp:B pa=some (.tup [.int p.1,.int p.2])):DH (upd B ea (.tup (.str w :: .ref pa :: ns.map V.int))) ea (.mk w p ns) :=
 ⟨pa,aB,by rw [aE (aK hp hb)];exact hp⟩
theorem NS {ea l:Addr} {xs:List Int} (hb:B ea=none) (hl:B l=some (.lst (xs.map V.int))):DH (upd B ea (.tup [.str "took",.ref l])) ea (.took xs) :=
 ⟨l,aB,by rw [aE (aK hl hb)];exact hl⟩
end
def Qx (L:Lk):Lk:={ L with p:=none,bR:=[],of:=0,tk:=0 }
def dX (L:Lk) (n:Int):Lk:=match L.p with
 | none=>{ L with k:=n }
 | some p=>if L.k < n then { L with p:=none,bR:=[],of:=0,tk:=0,k:=n,ev:=L.ev ++ [.mk "anew" p []] } else { L with k:=n }
def iK (L:Lk):Lk:=match L.p with
 | none=>{ L with p:=some (if L.s=0 then (L.b,L.k) else (L.k,L.b)),ev:=L.ev ++ [.mk "up" (if L.s=0 then (L.b,L.k) else (L.k,L.b)) []] }
 | some _=>L
def rf (L:Lk):Lk:=match L.p with
 | none=>{ L with b:=L.b+1,k:=0 }
 | some p=>{ L with p:=none,bR:=[],of:=0,tk:=0,b:=L.b+1,k:=0,ev:=L.ev ++ [.mk "silent" p [L.d - L.q+1,L.d]] }
def iY (L:Lk) (c:Int):Lk:=if L.bR≠[]∧c=(L.of+1) % 97 then { L with bR:=L.bR.tail,of:=(L.of+1) % 97 } else L
def kM (L:Lk) (n:Int) (xs:List Int):Lk:=if xs≠[]∧n=L.tk then { L with ev:=L.ev ++ [.took xs],tk:=(L.tk+1) % 97 } else L
structure Cl where
 b:Int
 k:Int
 n:Int
 c:Int
 xs:List Int
def gu (L:Lk) (a:Cl):Lk:=if a.b < L.k then L else if a.k=(dX L a.b).b then kM (iY (iK (dX L a.b)) a.c) a.n a.xs else dX L a.b
def kN (L:Lk):Cl:=⟨L.b,L.k,L.of,L.tk,L.bR.headD []⟩
def iu (C:Addr):Sp:=fun vs H Q _=>∃ (x dx:Addr) (fs:List (Str × V)),vs=[.ref x]∧H x=some (.ins C dx fs)∧fs.length < 900∧∀ pB,H pB=none→Q .bH (upd (upd H pB (.lst [])) x (.ins C dx (fg "taken" (.int 0) (fg "offered" (.int 0) (fg "pieces" (.ref pB) fs)))))
theorem yX (f:Str) (v:V):∀ fs:List (Str × V),(fg f v fs).length≤fs.length+1
 | []=>Nat.le_refl _
 | (g,x) :: r=>by
  unfold fg
  split
  ·rw [List.length_cons,List.length_cons];omega
  ·rw [List.length_cons,List.length_cons];have:=yX f v r;omega
theorem vf:aP ["self"] ["self"] (aG b9):=⟨rfl,rfl,rfl,by decide +kernel,rfl,by decide +kernel,by decide +kernel⟩
theorem vg {fd:FuncData} (T:Txt K mg t) (F:mI K "forget_pieces" "LinkEnd.forget_pieces" b9 t.cA fd) :
  bO P w K mg base (ic P w) 1 t.cA fd ["self"] (iu t.LinkEnd)∧Binds K fd ["self"] []:=by
 refine ⟨F.sG vf (fun vs H Q E h=>?_) (fun f bM A outer s H vs Q E hr h=>?_),F.binds fun _ _ _ _ _ _ us hl=>match us,hl with | [_],_=>rfl⟩
 ·obtain ⟨x,dx,fs,rfl,_⟩:=h
  rfl
 ·obtain ⟨x,dx,fs,rfl,hx,hl,q⟩:=h
  refine ⟨_,aC (bX K (pv 0) (ai aD) (by rfl))
   (aC (bX K (pv 0) aF (by rfl))
   (aH (bX K (pv 0) aF (by rfl)))),?_⟩
  refine ⟨zz0,fun pB O4=>?_⟩
  have n1:x≠pB:=aK hx O4
  have l1:=yX "pieces" (.ref pB) fs
  have l2:=yX "offered" (.int 0) (fg "pieces" (.ref pB) fs)
  refine ⟨_,rfl,x,t.LinkEnd,dx,fs,rfl,by rw [aE n1];exact hx,T.aI,T.ik,by omega,?_⟩
  refine ⟨_,rfl,x,t.LinkEnd,dx,_,rfl,aB,T.aI,T.nR,by omega,?_⟩
  rw [jv]
  refine ⟨_,rfl,x,t.LinkEnd,dx,_,rfl,aB,T.aI,T.pf,by omega,?_⟩
  rw [jv]
  exact q pB O4
def vh (C:Addr):Sp:=fun vs H Q _=>∃ (B:Hp) (x tA pA:Addr) (L:Lk),vs=[.ref x]∧bE C B H x tA pA L∧∀ B' H' pB,j1 B H B' H' x tA pA tA pB→bE C B' H' x tA pB (Qx L)→Q .bH H'
theorem IZ:aP ["self"] ["self"] (aG mQ):=⟨rfl,rfl,rfl,by decide +kernel,rfl,by decide +kernel,by decide +kernel⟩
theorem Ia {fd DI:FuncData} (T:Txt K mg t) (F:mI K "end_up" "LinkEnd.end_up" mQ t.mT fd) (cB:bO P w K mg base (ic P w) 1 t.cA DI ["self"] (iu t.LinkEnd)) (cC:Binds K DI ["self"] []) :
  bO P w K mg base (ic P w) 2 t.mT fd ["self"] (vh t.LinkEnd)∧Binds K fd ["self"] []:=by
 refine ⟨F.sG IZ (fun vs H Q E h=>?_) (fun f bM A outer s H vs Q E hr h=>?_),F.binds fun _ _ _ _ _ _ us hl=>match us,hl with | [_],_=>rfl⟩
 ·obtain ⟨B,x,tA,pA,L,rfl,_⟩:=h
  rfl
 ·obtain ⟨B,x,tA,pA,L,rfl,h,q⟩:=h
  refine ⟨_,aC (bX K (pv 0) eO (by rfl))
   (aH (ar (a8 (pv 0) T.aI T.mY (cB.mono (by decide)) hr cC .nil aX))),?_⟩
  obtain ⟨dx,pv,hx,hp⟩:=h.at_
  refine ⟨_,rfl,x,t.LinkEnd,dx,_,rfl,hx,T.aI,T.iI,by show 11 < 1000;decide,?_⟩
  rw [HB]
  obtain ⟨h1,m1⟩:=h.set (dx:=dx) (pv:=.bH) (L':={ L with p:=none }) rfl rfl rfl
  refine ⟨_,rfl,x,dx,_,rfl,aB,rfl,x,dx,_,rfl,aB,by show 11 < 900;decide,fun pB O4=>?_⟩
  rw [IY,yV,DG]
  have h1:bE t.LinkEnd B (upd H x (.ins t.LinkEnd dx (cN L.q L.s L.d L.u L.b L.k .bH tA pA L.of L.tk))) x tA pA { L with p:=none }:=h1
  have m1:j1 B H B (upd H x (.ins t.LinkEnd dx (cN L.q L.s L.d L.u L.b L.k .bH tA pA L.of L.tk))) x tA pA tA pA:=m1
  generalize upd H x (.ins t.LinkEnd dx (cN L.q L.s L.d L.u L.b L.k .bH tA pA L.of L.tk))=H1 at *
  have s2:aJ H1 (upd H1 pB (.lst [])):=(aJ.refl _).new O4
  have h2:=h1.same s2
  have UZ:tA≠pB:=fun z=>h1.ht (z ▸ O4)
  have NT:x≠pB:=fun z=>h1.hx (z ▸ O4)
  obtain ⟨kz,g,g'⟩:=h2.told
  refine q B _ pB (m1.trans ⟨aJ.refl _,fun _ _ z=>z,fun y o n1 n2 n3 e=>by rw [aE n1];exact s2 _ _ e,fun b hb=>s2.free (kL hb h2.hx),.inl rfl,.inr O4⟩)
   ⟨h2.sb.put h2.bx,h.bx,h.bt,h1.sb.free O4,⟨dx,.bH,aB,rfl⟩,⟨kz,by rw [aE (Ne.symm h2.xt)];exact g,g'⟩,⟨fun _=>0,by rw [aE (Ne.symm NT)];exact aB,fun y xs hy=>by cases hy⟩,UZ⟩
def HD (C:Addr):Sp:=fun vs H Q _=>∃ (B:Hp) (x tA pA:Addr) (L:Lk) (n:Int),vs=[.ref x,.int n]∧bE C B H x tA pA L∧L.ev.length < 1000000∧∀ B' H' pB,j1 B H B' H' x tA pA tA pB→bE C B' H' x tA pB (dX L n)→Q .bH H'
theorem NU:aP ["self","birth"] ["self","birth"] (aG vW):=⟨rfl,rfl,rfl,by decide +kernel,rfl,by decide +kernel,by decide +kernel⟩
theorem NV {fd DI:FuncData} (T:Txt K mg t) (F:mI K "meet" "LinkEnd.meet" vW t.yD fd) (mi:bO P w K mg base (ic P w) 2 t.mT DI ["self"] (vh t.LinkEnd)) (mj:Binds K DI ["self"] []) :
  bO P w K mg base (ic P w) 3 t.yD fd ["self","birth"] (HD t.LinkEnd)∧Binds K fd ["self","birth"] []:=by
 refine ⟨F.sG NU (fun vs H Q E h=>?_) (fun f bM A outer s H vs Q E hr h=>?_),F.binds fun _ _ _ _ _ _ us hl=>match us,hl with | [_,_],_=>rfl⟩
 ·obtain ⟨B,x,tA,pA,L,n,rfl,_⟩:=h
  rfl
 ·obtain ⟨B,x,tA,pA,L,n,rfl,h,hlen,q⟩:=h
  refine ⟨_,aC (bG (PW.pt (xZ (aV qr (ah K (pv 0) (by rfl)) eO (aa _)) (uC (aV GP (pv 1) (ah K (pv 0) (by rfl)) (aa _)))))
    (aC (ar (kA K PySem.F.plainAttrs_list PySem.F.slot_list_append PySem.F.type_list_append ba (ah K (pv 0) (by rfl)) (aA (eQ (aA cR (aA (ah K (pv 0) (by rfl)) aD))) aD)))
    (aH (ar (a8 (pv 0) T.aI T.Ao (mi.mono (by decide)) hr mj .nil aX))))
    (aj))
   (aH (bX K (pv 0) (pv 1) (by rfl))),?_⟩
  have qt:(1000001:Nat)≤sizeLine:=by decide
  obtain ⟨dx,pv,hx,hp⟩:=h.at_
  have last:∀ (B1 H1:Hp) (pB:Addr) (L1:Lk),j1 B H B1 H1 x tA pA tA pB→bE t.LinkEnd B1 H1 x tA pB L1→{ L1 with k:=n }=dX L n→(Jl K (rq 0) (rq 1) "known") { nx:=fun _ H'=>Q .bH H',rt:=Q } [some (.ref x),some (.int n)] H1:=fun B1 H1 pB L1 m1 h1 e1=>by
   obtain ⟨yY,NW,xv,zV⟩:=h1.at_
   refine ⟨_,rfl,_,rfl,x,t.LinkEnd,yY,_,rfl,xv,T.aI,T.iH,by show 11 < 1000;decide,?_⟩
   rw [DF]
   obtain ⟨h2,m2⟩:=h1.set (dx:=yY) (pv:=NW) (L':={ L1 with k:=n }) zV rfl rfl
   exact q B1 _ pB (m1.trans m2) (by rw [← e1];exact h2)
  refine ⟨_,rfl,x,t.LinkEnd,dx,_,_,rfl,hx,T.aI,T.iI,qD,rfl,_,rfl,?_⟩
  cases ep:L.p with
  | none =>
   rw [ep] at hp
   have hp:pv=.bH:=hp
   subst hp
   refine oZ rfl (eS ?_)
   exact last B H pA L j1.refl h (by unfold dX;rw [ep])
  | some p =>
   rw [ep] at hp
   obtain ⟨pa,rfl,G9⟩:=hp
   refine xw (fun z=>by cases z) ?_
   refine ⟨_,rfl,_,rfl,x,t.LinkEnd,dx,_,_,rfl,hx,T.aI,T.iH,rF,_,_,rfl,rfl,_,rfl,?_⟩
   by_cases hk:L.k < n
   ·refine g7 hk ?_
    obtain ⟨kz,g,g'⟩:=h.told
    refine ⟨_,rfl,x,t.LinkEnd,dx,_,_,rfl,hx,T.aI,T.nQ,yU,.inl ⟨rfl,_,aT.of g⟩,?_⟩
    refine ⟨_,rfl,x,t.LinkEnd,dx,_,_,rfl,hx,T.aI,T.iI,qD,zz2,fun ea FI=>?_⟩
    refine ⟨tA,_,_,rfl,rfl,by rw [aE (aK g FI)];exact g,by rw [aL];omega,?_⟩
    obtain ⟨h1,m1⟩:=h.tell g g' FI (K7 (w:="anew") (ns:=[]) (h.sb.free FI) G9)
    obtain ⟨yY,NW,xv,zV⟩:=h1.at_
    refine ⟨_,rfl,x,yY,_,rfl,xv,rfl,_,x,tA,pA,_,rfl,h1,fun B2 H2 pB m2 h2=>?_⟩
    exact last B2 H2 pB _ (m1.trans m2) h2 (by unfold dX Qx;rw [ep];simp only [if_pos hk])
   ·refine ie hk ?_
    exact last B H pA L j1.refl h (by unfold dX;rw [ep];simp only [if_neg hk])
end
end K29
namespace My
def told (l:List Int):Int:=l.foldl (fun n s=>n * 97+s) 0
def low:Nat→Int→List Int
 | 0,_=>[]
 | m+1,n=>n % 97 :: low m (n / 97)
def rest:Nat→Int→Int
 | 0,n=>n
 | m+1,n=>rest m (n / 97)
theorem HE:∀ (m:Nat) (n:Int),(low m n).length=m
 | 0,_=>rfl
 | m+1,n=>by rw [low,List.length_cons,HE]
theorem DJ:∀ (m:Nat) (n:Int),low (m+1) n=low m n ++ [rest m n % 97]
 | 0,n=>rfl
 | m+1,n=>by rw [low,DJ m (n / 97),low,rest,List.cons_append]
theorem Au:∀ (m:Nat) (n:Int),rest (m+1) n=rest m n / 97
 | 0,n=>rfl
 | m+1,n=>by rw [rest,Au m (n / 97),rest]
theorem Ib (l:List Int) (s:Int):told (l ++ [s])=told l * 97+s:=by unfold told;rw [List.foldl_append];rfl
theorem wk:∀ (m:Nat) (n:Int),0≤n→0≤rest m n
 | 0,n,h=>by rw [rest];exact h
 | m+1,n,h=>by rw [rest];exact wk m _ (by omega)
end My
namespace K29
open PySem L2 PyProof.Rows
section
variable {P:Program} {w:World} {K:PySem.W.Frag} {mg:Str→Option Value} {base:Heap} {t:Ad}
def oj (C:Addr):Sp:=fun vs H Q E=>∃ n m:Int,vs=[.int n,.int m]∧n.natAbs < 2 ^ 1000∧0≤m∧m≤1000 ∧
 (0≤n→My.rest m.toNat n=0→∀ p H',H p=none→aJ H H'→H' p=some (.lst ((My.low m.toNat n).reverse.map V.int))→Q (.ref p) H')∧(n < 0∨0 < My.rest m.toNat n→∀ H',aJ H H'→E (.ref C) none H')
theorem dY:aP ["number","many","signs","left","place"] ["number","many"] (aG hV):=⟨rfl,rfl,rfl,by decide +kernel,rfl,by decide +kernel,by decide +kernel⟩
theorem xA (F:aO K mg "number_signs" hV) (T:Txt K mg t):Def P w K mg base 1 "number_signs" ["number","many"] (oj t.BadSign):=by
 refine F.def dY (fun _ _ _ _ _ _ us hl=>match us,hl with | [_,_],_=>rfl) (fun vs H Q E h=>?_) (fun f bM A outer s H vs Q E hr h=>?_)
 ·obtain ⟨n,m,rfl,_⟩:=h
  rfl
 ·obtain ⟨n,m,rfl,hb,m0,m1,q1,q2⟩:=h
  refine ⟨_,aC (aR (i:=2) dY.nd rfl (Or.inl rfl) (ai aD))
   (aC (aR (i:=3) dY.nd rfl (Or.inl rfl) (pv 0))
   (aC (PS.A2 (cT PassesOwn.never rfl (cS (by rfl) T.dB (aA (pv 1) aD)) (ak (i:=4) dY.nd rfl (Or.inl rfl))
    (aC (ar (Od PySem.F.plainAttrs_list PySem.F.slot_list_append PySem.F.type_list_append ba (pv 2) (aA (aN az (pv 3) (aS T.b6)) aD)))
    (aH (aR (i:=3) dY.nd rfl (Or.inl rfl) (aN jN (pv 3) (aS T.b6)))))))
   (aC (bG (PW.pt (rX (aV AU (pv 0) aF (aa _)) (u7 (aV GP (pv 3) aF (aa _)))))
    (aH (gN ax rfl rfl T.uZ T.yL PySem.F.excBase_ValueError (aA (lB (bJ (gz (pv 0)) (bJ cR (bJ (gz (pv 1)) (bJ cR pN))))) aD)))
    (aj))
   (aH (aY (vM rfl T.sQ T.yH (pv 2))))))),?_⟩
  refine ⟨zz0,fun ps HF=>?_⟩
  refine ⟨_,rfl,?_⟩
  have qt:(2000:Nat)≤sizeLine:=by decide
  refine ⟨_,rfl,m,rfl,by omega,by omega,gs (lo:=0) (n:=m.toNat) (fun i σ H'=>∃ x:Option V,σ=[some (.int n),some (.int m),some (.ref ps),some (.int (My.rest i n)),x]∧aJ H H'∧H' ps=some (.lst ((My.low i n).map V.int))) ⟨none,rfl,(aJ.refl _).new HF,aB⟩ ?_ ?_⟩
  ·rintro i σ H' hi ⟨x,rfl,s1,h1⟩
   refine ⟨_,rfl,.inl ⟨rfl,_,aT.of h1⟩,_,rfl,_,_,rfl,rfl,(by show (0:Int) < 97;decide),ps,_,_,rfl,rfl,h1,by rw [List.length_map,My.HE];omega,?_⟩
   refine ⟨_,rfl,_,_,rfl,rfl,⟨by decide,by decide⟩,?_⟩
   refine ⟨_,by rw [My.Au];rfl,s1.put HF,?_⟩
   rw [aB,My.DJ,List.map_append]
   rfl
  ·rintro σ H' ⟨x,rfl,s1,h1⟩
   refine ⟨_,rfl,_,_,rfl,rfl,_,rfl,?_⟩
   have hz:=iJ hb
   have hz2:=iJ (i:=m) (ig (by omega) (by omega))
   have l1:(" is not told by ":Str).length=16:=by decide +kernel
   have l2:(" signs":Str).length=6:=by decide +kernel
   have sl:(3000:Nat)≤sizeLine:=by decide
   have e0:(Str.empty ++ Str.ofString (toString n)).length≤1001:=by rw [strLen_append];show 0+_≤1001;omega
   have e1:((Str.empty ++ Str.ofString (toString n)) ++ (" is not told by ":Str)).length≤1017:=by rw [strLen_append];omega
   have e2:(((Str.empty ++ Str.ofString (toString n)) ++ (" is not told by ":Str)) ++ Str.ofString (toString m)).length≤2018:=by rw [strLen_append];omega
   have e3:((((Str.empty ++ Str.ofString (toString n)) ++ (" is not told by ":Str)) ++ Str.ofString (toString m)) ++ (" signs":Str)).length≤2024:=by rw [strLen_append];omega
   have bad:n < 0∨0 < My.rest m.toNat n→E (.ref t.BadSign) none H':=fun z=>q2 z H' s1
   by_cases h0:n < 0
   ·refine g7 h0 (ja ?_)
    refine ⟨_,rfl,n,rfl,df hb (by decide) (by decide),_,rfl,by omega,_,rfl,by omega,_,rfl,m,rfl,df (ig (by omega) (by omega)) (by decide) (by decide),_,rfl,by omega,_,rfl,by omega,by omega,?_⟩
    exact ⟨zz1,bad (.inl h0)⟩
   ·refine ie h0 ?_
    refine ⟨_,rfl,_,_,rfl,rfl,_,rfl,?_⟩
    by_cases h2:0 < My.rest m.toNat n
    ·refine g7 h2 ?_
     refine ⟨_,rfl,n,rfl,df hb (by decide) (by decide),_,rfl,by omega,_,rfl,by omega,_,rfl,m,rfl,df (ig (by omega) (by omega)) (by decide) (by decide),_,rfl,by omega,_,rfl,by omega,by omega,?_⟩
     exact ⟨zz1,bad (.inr h2)⟩
    ·refine ie h2 ?_
     have r0:=My.wk m.toNat n (by omega)
     refine ⟨_,rfl,ps,_,rfl,aT.of h1,fun p hp=>?_⟩
     refine q1 (by omega) (by omega) p _ (s1.free hp) (s1.new hp) ?_
     rw [aB,← List.map_reverse]
def om (K:PySem.W.Frag) (C:Addr):Sp:=fun vs H Q E=>∃ (l:Addr) (ns:List Int),vs=[.ref l]∧aT K H l (ns.map V.int)∧(∀ n ∈ ns,n.natAbs < 2 ^ 1000) ∧
 ((∀ n ∈ ns,0≤n∧n < 97)→Q (.int (My.told ns)) H)∧(∀ n ∈ ns,¬ (0≤n∧n < 97)→E (.ref C) none H)
theorem gS:aP ["signs","number","sign"] ["signs"] (aG hX):=⟨rfl,rfl,rfl,by decide +kernel,rfl,by decide +kernel,by decide +kernel⟩
theorem xB (F:aO K mg "signs_number" hX) (T:Txt K mg t) (eW:Def P w K mg base 2 "look_sign" ["number"] (j0 t.BadSign)):Def P w K mg base 3 "signs_number" ["signs"] (om K t.BadSign):=by
 refine F.def gS (fun _ _ _ _ _ _ us hl=>match us,hl with | [_],_=>rfl) (fun vs H Q E h=>?_) (fun f bM A outer s H vs Q E hr h=>?_)
 ·obtain ⟨l,ns,rfl,_⟩:=h
  rfl
 ·obtain ⟨l,ns,rfl,hl,hb,q1,q2⟩:=h
  refine ⟨_,aC (aR (i:=1) gS.nd rfl (Or.inl rfl) aF)
   (aC (cT (QQ ax) rfl (GK (pv 0)) (ak (i:=2) gS.nd rfl (Or.inl rfl))
    (aC (ar (aZ (eW.mono (by decide)) hr (mJ ax) (aA (pv 2) aD)))
    (aH (aR (i:=1) gS.nd rfl (Or.inl rfl) (aN bj (aN ff (pv 1) (aS T.b6)) (pv 2))))))
   (aH (aY (pv 1)))),?_⟩
  refine ⟨_,rfl,l,rfl,⟨_,hl⟩,gM (K:=K) (a:=l) (xs:=ns.map V.int) (fun i σ H'=>∃ x:Option V,σ=[some (.ref l),some (.int (My.told (ns.take i))),x]∧H'=H∧∀ n ∈ ns.take i,0≤n∧n < 97) ⟨none,rfl,rfl,fun n hn=>by simp at hn⟩ (fun i σ H' _ ⟨_,_,e,_⟩=>by rw [e];exact hl) ?_ ?_⟩
  ·rintro i y σ H' hi ⟨x,rfl,rfl,ha⟩
   obtain ⟨z,hz,rfl⟩:=lC hi
   have hm:z ∈ ns:=List.mem_of_getElem? hz
   refine ⟨_,rfl,z,rfl,hb z hm,fun h0=>?_,fun h0=>q2 z hm h0⟩
   refine ⟨_,rfl,_,_,rfl,rfl,.inr ⟨by decide,by decide⟩,_,rfl,_,_,rfl,rfl,?_⟩
   refine ⟨some (.int z),?_,rfl,?_⟩
   ·rw [take_succ hz,My.Ib]
    rfl
   ·rw [take_succ hz]
    intro n hn
    rcases List.mem_append.mp hn with z1 | z1
    ·exact ha n z1
    ·rw [List.mem_singleton.mp z1];exact h0
  ·rintro σ H' ⟨x,rfl,rfl,ha⟩
   refine ⟨_,rfl,?_⟩
   rw [List.length_map,List.take_length] at *
   exact q1 ha
def yZ (C:Addr):Sp:=fun vs H Q _=>∃ (B:Hp) (x tA pA:Addr) (L:Lk),vs=[.ref x]∧bE C B H x tA pA L∧L.ev.length < 1000000∧∀ B' H',j1 B H B' H' x tA pA tA pA→bE C B' H' x tA pA (iK L)→Q .bH H'
theorem FJ:aP ["self"] ["self"] (aG j4):=⟨rfl,rfl,rfl,by decide +kernel,rfl,by decide +kernel,by decide +kernel⟩
theorem FK {fd:FuncData} (T:Txt K mg t) (F:mI K "come_up" "LinkEnd.come_up" j4 t.mS fd) :
  bO P w K mg base (ic P w) 1 t.mS fd ["self"] (yZ t.LinkEnd)∧Binds K fd ["self"] []:=by
 refine ⟨F.sG FJ (fun vs H Q E h=>?_) (fun f bM A outer s H vs Q E hr h=>?_),F.binds fun _ _ _ _ _ _ us hl=>match us,hl with | [_],_=>rfl⟩
 ·obtain ⟨B,x,tA,pA,L,rfl,_⟩:=h
  rfl
 ·obtain ⟨B,x,tA,pA,L,rfl,h,hlen,q⟩:=h
  refine ⟨_,aH (bG (aV A4 (ah K (pv 0) (by rfl)) eO (aa _))
    (aC (bX K (pv 0) (pG (aV mH (ah K (pv 0) (by rfl)) aF (aa _)) (eQ (aA (ah K (pv 0) (by rfl)) (aA (ah K (pv 0) (by rfl)) aD))) (eQ (aA (ah K (pv 0) (by rfl)) (aA (ah K (pv 0) (by rfl)) aD)))) (by rfl))
    (aH (ar (kA K PySem.F.plainAttrs_list PySem.F.slot_list_append PySem.F.type_list_append ba (ah K (pv 0) (by rfl)) (aA (eQ (aA cR (aA (ah K (pv 0) (by rfl)) aD))) aD)))))
    (aj)),?_⟩
  have qt:(1000001:Nat)≤sizeLine:=by decide
  obtain ⟨dx,pv,hx,hp⟩:=h.at_
  refine ⟨_,rfl,x,t.LinkEnd,dx,_,_,rfl,hx,T.aI,T.iI,qD,rfl,_,rfl,?_⟩
  cases ep:L.p with
  | some p =>
   rw [ep] at hp
   obtain ⟨pa,rfl,G9⟩:=hp
   refine ie (fun z=>by cases z) ?_
   exact q B H j1.refl (by unfold iK;rw [ep];exact h)
  | none =>
   rw [ep] at hp
   have hp:pv=.bH:=hp
   subst hp
   refine g7 rfl ?_
   have main:∀ (pa:Addr) (p:Int × Int),H pa=none→p=(if L.s=0 then (L.b,L.k) else (L.k,L.b))→(∃ a C dx fs,V.ref x=.ref a∧(upd H pa (.tup [.int p.1,.int p.2])) a=some (.ins C dx fs)∧He K C∧c9 K C "pair"∧fs.length < 1000∧(Jb (Wc K "list" GY (D6 K (rq 0) "told") (pJ (Jm (pJ (tC (.str "up")) (pJ (D6 K (rq 0) "pair") zL))) zL))) { nx:=fun _ H'=>Q .bH H',rt:=Q } [some (.ref x)] (upd (upd H pa (.tup [.int p.1,.int p.2])) a (.ins C dx (fg "pair" (.ref pa) fs)))):=fun pa p G9 ep2=>by
    have s1:aJ H (upd H pa (.tup [.int p.1,.int p.2])):=(aJ.refl _).new G9
    obtain ⟨h1,m1⟩:=h.grow (o:=.tup [.int p.1,.int p.2]) s1 G9 aB
    refine ⟨x,t.LinkEnd,dx,_,rfl,s1 _ _ hx,T.aI,T.iI,by show 11 < 1000;decide,?_⟩
    rw [HB]
    obtain ⟨h2,m2⟩:=h1.set (dx:=dx) (pv:=.ref pa) (L':={ L with p:=some p }) ⟨pa,rfl,aB⟩ rfl rfl
    have Xh:(upd B pa (.tup [.int p.1,.int p.2])) pa=some (.tup [.int p.1,.int p.2]):=aB
    have QJ:(upd (upd H pa (.tup [.int p.1,.int p.2])) x (.ins t.LinkEnd dx (cN L.q L.s L.d L.u L.b L.k (.ref pa) tA pA L.of L.tk))) x=some (.ins t.LinkEnd dx (cN L.q L.s L.d L.u L.b L.k (.ref pa) tA pA L.of L.tk)):=aB
    have h2:bE t.LinkEnd (upd B pa (.tup [.int p.1,.int p.2])) (upd (upd H pa (.tup [.int p.1,.int p.2])) x (.ins t.LinkEnd dx (cN L.q L.s L.d L.u L.b L.k (.ref pa) tA pA L.of L.tk))) x tA pA { L with p:=some p }:=h2
    have Ua:j1 B H (upd B pa (.tup [.int p.1,.int p.2])) (upd (upd H pa (.tup [.int p.1,.int p.2])) x (.ins t.LinkEnd dx (cN L.q L.s L.d L.u L.b L.k (.ref pa) tA pA L.of L.tk))) x tA pA tA pA:=m1.trans m2
    generalize upd (upd H pa (.tup [.int p.1,.int p.2])) x (.ins t.LinkEnd dx (cN L.q L.s L.d L.u L.b L.k (.ref pa) tA pA L.of L.tk))=H2 at *
    generalize upd B pa (.tup [.int p.1,.int p.2])=B2 at *
    obtain ⟨kz,g,g'⟩:=h2.told
    refine ⟨_,rfl,x,t.LinkEnd,dx,_,_,rfl,QJ,T.aI,T.nQ,yU,.inl ⟨rfl,_,aT.of g⟩,?_⟩
    refine ⟨_,rfl,x,t.LinkEnd,dx,_,_,rfl,QJ,T.aI,T.iI,qD,zz2,fun ea FI=>?_⟩
    refine ⟨tA,_,_,rfl,rfl,by rw [aE (aK g FI)];exact g,by rw [aL];show L.ev.length < sizeLine;omega,?_⟩
    obtain ⟨h3,m3⟩:=h2.tell g g' FI (K7 (w:="up") (ns:=[]) (h2.sb.free FI) Xh)
    refine q _ _ (Ua.trans m3) ?_
    have e3:iK L={ L with p:=some p,ev:=L.ev ++ [.mk "up" p []] }:=by unfold iK;rw [ep,ep2]
    rw [e3]
    exact h3
   refine ⟨_,rfl,x,t.LinkEnd,dx,_,_,rfl,hx,T.aI,T.G6,Qw,rfl,_,rfl,?_⟩
   by_cases hs:L.s=0
   ·refine g7 (by rw [hs]) ?_
    refine ⟨_,rfl,x,t.LinkEnd,dx,_,_,rfl,hx,T.aI,T.mX,uq,_,rfl,x,t.LinkEnd,dx,_,_,rfl,hx,T.aI,T.iH,rF,zz2,fun pa G9=>?_⟩
    exact ⟨_,rfl,main pa (L.b,L.k) G9 (by rw [if_pos hs])⟩
   ·refine ie (fun z=>hs (V.int.inj z)) ?_
    refine ⟨_,rfl,x,t.LinkEnd,dx,_,_,rfl,hx,T.aI,T.iH,rF,_,rfl,x,t.LinkEnd,dx,_,_,rfl,hx,T.aI,T.mX,uq,zz2,fun pa G9=>?_⟩
    exact ⟨_,rfl,main pa (L.k,L.b) G9 (by rw [if_neg hs])⟩
def lX (C:Addr):Sp:=fun vs H Q _=>∃ (B:Hp) (x tA pA:Addr) (L:Lk),vs=[.ref x]∧bE C B H x tA pA L∧L.ev.length < 1000000∧∀ B' H' pB,j1 B H B' H' x tA pA tA pB→bE C B' H' x tA pB (rf L)→Q .bH H'
theorem zY:aP ["self"] ["self"] (aG fU):=⟨rfl,rfl,rfl,by decide +kernel,rfl,by decide +kernel,by decide +kernel⟩
theorem zZ {fd DI:FuncData} (T:Txt K mg t) (F:mI K "start_over" "LinkEnd.start_over" fU t.iE fd) (mi:bO P w K mg base (ic P w) 2 t.mT DI ["self"] (vh t.LinkEnd)) (mj:Binds K DI ["self"] []) :
  bO P w K mg base (ic P w) 3 t.iE fd ["self"] (lX t.LinkEnd)∧Binds K fd ["self"] []:=by
 refine ⟨F.sG zY (fun vs H Q E h=>?_) (fun f bM A outer s H vs Q E hr h=>?_),F.binds fun _ _ _ _ _ _ us hl=>match us,hl with | [_],_=>rfl⟩
 ·obtain ⟨B,x,tA,pA,L,rfl,_⟩:=h
  rfl
 ·obtain ⟨B,x,tA,pA,L,rfl,h,hlen,q⟩:=h
  refine ⟨_,aC (bG (aV qr (ah K (pv 0) (by rfl)) eO (aa _))
    (aC (ar (kA K PySem.F.plainAttrs_list PySem.F.slot_list_append PySem.F.type_list_append ba (ah K (pv 0) (by rfl)) (aA (eQ (aA cR (aA (ah K (pv 0) (by rfl)) (aA (aN bj (aN dc (ah K (pv 0) (by rfl)) (ah K (pv 0) (by rfl))) aF) (aA (ah K (pv 0) (by rfl)) aD))))) aD)))
    (aH (ar (a8 (pv 0) T.aI T.Ao (mi.mono (by decide)) hr mj .nil aX))))
    (aj))
   (aC (AV (pv 0) aF Je)
   (aH (bX K (pv 0) (aS T.rB) (by rfl)))),?_⟩
  have qt:(1000001:Nat)≤sizeLine:=by decide
  obtain ⟨dx,pv,hx,hp⟩:=h.at_
  obtain ⟨tk,hNB⟩:=T.rB
  have last:∀ (B1 H1:Hp) (pB:Addr) (L1:Lk),j1 B H B1 H1 x tA pA tA pB→bE t.LinkEnd B1 H1 x tA pB L1→{ L1 with b:=L1.b+1,k:=0 }=rf L→(Ja (A5 K (rq 0) (tC (.int 1)) (MA fun i j=>.int (i+j)) "birth") (Jl K (rq 0) (tC (.int 0)) "known")) { nx:=fun _ H'=>Q .bH H',rt:=Q } [some (.ref x)] H1:=fun B1 H1 pB L1 m1 h1 e1=>by
   obtain ⟨yY,NW,xv,zV⟩:=h1.at_
   refine ⟨_,rfl,x,t.LinkEnd,yY,_,_,rfl,xv,T.aI,T.mX,uq,_,_,rfl,rfl,yY,_,xv,by show 11 < 1000;decide,?_⟩
   rw [K6]
   refine ⟨_,rfl,x,t.LinkEnd,yY,_,rfl,aB,T.aI,T.iH,by show 11 < 1000;decide,?_⟩
   rw [DF,jv]
   obtain ⟨h2,m2⟩:=h1.set (dx:=yY) (pv:=NW) (L':={ L1 with b:=L1.b+1,k:=0 }) zV rfl rfl
   exact q B1 _ pB (m1.trans m2) (by rw [← e1];exact h2)
  refine ⟨_,rfl,x,t.LinkEnd,dx,_,_,rfl,hx,T.aI,T.iI,qD,rfl,_,rfl,?_⟩
  cases ep:L.p with
  | none =>
   rw [ep] at hp
   have hp:pv=.bH:=hp
   subst hp
   refine oZ rfl ?_
   exact last B H pA L j1.refl h (by unfold rf;rw [ep])
  | some p =>
   rw [ep] at hp
   obtain ⟨pa,rfl,G9⟩:=hp
   refine xw (fun z=>by cases z) ?_
   obtain ⟨kz,g,g'⟩:=h.told
   refine ⟨_,rfl,x,t.LinkEnd,dx,_,_,rfl,hx,T.aI,T.nQ,yU,.inl ⟨rfl,_,aT.of g⟩,?_⟩
   refine ⟨_,rfl,x,t.LinkEnd,dx,_,_,rfl,hx,T.aI,T.iI,qD,?_⟩
   refine ⟨_,rfl,x,t.LinkEnd,dx,_,_,rfl,hx,T.aI,T.xR,FG,_,rfl,x,t.LinkEnd,dx,_,_,rfl,hx,T.aI,T.yN,HA,_,_,rfl,rfl,_,_,rfl,rfl,?_⟩
   refine ⟨_,rfl,x,t.LinkEnd,dx,_,_,rfl,hx,T.aI,T.xR,FG,zz4,fun ea FI=>?_⟩
   refine ⟨tA,_,_,rfl,rfl,by rw [aE (aK g FI)];exact g,by rw [aL];omega,?_⟩
   obtain ⟨h1,m1⟩:=h.tell g g' FI (K7 (w:="silent") (ns:=[L.d - L.q+1,L.d]) (h.sb.free FI) G9)
   obtain ⟨yY,NW,xv,zV⟩:=h1.at_
   refine ⟨_,rfl,x,yY,_,rfl,xv,rfl,_,x,tA,pA,_,rfl,h1,fun B2 H2 pB m2 h2=>?_⟩
   exact last B2 H2 pB _ (m1.trans m2) h2 (by unfold rf Qx;rw [ep])
def rg (C:Addr):Sp:=fun vs H Q _=>∃ (B:Hp) (x tA pA:Addr) (L:Lk) (n:Int),vs=[.ref x,.int n]∧bE C B H x tA pA L∧∀ H',j1 B H B H' x tA pA tA pA→bE C B H' x tA pA (iY L n)→Q .bH H'
theorem Ic {n:Nat} {f:Nat→Addr}:(bN (n+1) f).eraseIdx 0=bN n (fun j=>f (j+1)):=by
 apply List.ext_getElem?
 intro j
 rw [List.getElem?_eraseIdx]
 by_cases hj:j < n
 ·rw [if_neg (by omega),bS (f:=fun j=>V.ref (f j)) (show j+1 < n+1 by omega),bS (f:=fun j=>V.ref (f (j+1))) hj]
 ·rw [if_neg (by omega),List.getElem?_eq_none (by rw [aL];omega),List.getElem?_eq_none (by rw [aL];omega)]
theorem rh:aP ["self","count","following"] ["self","count"] (aG fV):=⟨rfl,rfl,rfl,by decide +kernel,rfl,by decide +kernel,by decide +kernel⟩
theorem zc {fd:FuncData} (T:Txt K mg t) (F:mI K "hear_count" "LinkEnd.hear_count" fV t.iF fd) :
  bO P w K mg base (ic P w) 1 t.iF fd ["self","count"] (rg t.LinkEnd)∧Binds K fd ["self","count"] []:=by
 refine ⟨F.sG rh (fun vs H Q E h=>?_) (fun f bM A outer s H vs Q E hr h=>?_),F.binds fun _ _ _ _ _ _ us hl=>match us,hl with | [_,_],_=>rfl⟩
 ·obtain ⟨B,x,tA,pA,L,n,rfl,_⟩:=h
  rfl
 ·obtain ⟨B,x,tA,pA,L,n,rfl,h,q⟩:=h
  refine ⟨_,aC (aR (i:=2) rh.nd rfl (Or.inl rfl) (aN az (aN bj (ah K (pv 0) (by rfl)) aF) (aS T.b6)))
   (aH (bG (PW.pt (xZ (uK (ah K (pv 0) (by rfl)) (fun _=>rfl)) (uC (aV mH (pv 1) (pv 2) (aa _)))))
    (aC (ar (kA K PySem.F.plainAttrs_list PySem.F.slot_list_pop PySem.F.type_list_pop Ju (ah K (pv 0) (by rfl)) (aA aF aD)))
    (aH (bX K (pv 0) (pv 2) (by rfl))))
    (aj))),?_⟩
  obtain ⟨dx,pv,hx,hp⟩:=h.at_
  obtain ⟨iX,g3,yW⟩:=h.bR
  refine ⟨_,rfl,x,t.LinkEnd,dx,_,_,rfl,hx,T.aI,T.nR,As,_,_,rfl,rfl,_,_,rfl,rfl,(by show (0:Int) < 97;decide),?_⟩
  refine ⟨_,rfl,x,t.LinkEnd,dx,_,_,rfl,hx,T.aI,T.ik,mh,_,.inl ⟨_,aT.of g3,rfl⟩,?_⟩
  cases ep:L.bR with
  | nil =>
   rw [ep] at g3
   refine eS (eS (q H j1.refl ?_))
   unfold iY
   rw [if_neg (fun z=>z.1 ep)];exact h
  | cons a r =>
   rw [ep] at g3 yW
   have Di:(!(bN (a :: r).length iX).isEmpty)=true:=by
    have hl:(bN (a :: r).length iX).length=r.length+1:=aL _ _
    cases e:bN (a :: r).length iX with
    | nil=>rw [e] at hl;cases hl
    | cons u v=>rfl
   rw [Di]
   refine ja ?_
   refine ⟨_,rfl,_,rfl,rfl,_,rfl,?_⟩
   by_cases hc:n=(L.of+1) % 97
   ·refine g7 (by show V.int n=V.int ((L.of+1) % 97);rw [hc]) ?_
    refine ⟨_,rfl,x,t.LinkEnd,dx,_,_,rfl,hx,T.aI,T.ik,mh,.inl ⟨rfl,_,aT.of g3⟩,pA,_,0,0,_,rfl,rfl,g3,by decide,by decide,by rw [aL,List.length_cons];unfold seqIndex?;simp,bS (f:=fun j=>V.ref (iX j)) (Nat.succ_pos _),?_⟩
    have e0:(bN (a :: r).length iX).eraseIdx 0=bN r.length (fun j=>iX (j+1)):=Ic
    rw [e0]
    have NT:=h.xp
    refine ⟨_,rfl,_,rfl,x,t.LinkEnd,dx,_,rfl,by rw [aE NT];exact hx,T.aI,T.nR,by show 11 < 1000;decide,?_⟩
    rw [yV]
    have e1:iY L n={ L with bR:=r,of:=(L.of+1) % 97 }:=by
     unfold iY
     rw [if_pos ⟨(by rw [ep];exact fun z=>by cases z),hc⟩,ep]
     rfl
    obtain ⟨kz,g2,Ds⟩:=h.told
    refine q _ ⟨aJ.refl _,fun _ _ z=>z,fun y o n1 n2 n3 e=>by rw [aE n1,aE n3];exact e,fun b hb=>kL (kL hb (by rw [aE NT];exact h.hx)) h.hp,.inl rfl,.inl rfl⟩ ?_
    rw [e1]
    exact ⟨(h.sb.put h.bp).put h.bx,h.bx,h.bt,h.bp,⟨dx,pv,aB,hp⟩,⟨kz,by rw [aE (Ne.symm h.xt),aE h.ne];exact g2,Ds⟩,⟨fun j=>iX (j+1),by rw [aE (Ne.symm NT)];exact aB,fun y xs hy=>yW (y+1) xs hy⟩,h.ne⟩
   ·refine ie (fun z=>hc (V.int.inj z)) (q H j1.refl ?_)
    unfold iY
    rw [if_neg (fun z=>hc z.2)];exact h
def rj (C:Addr):Sp:=fun vs H Q _=>∃ (B:Hp) (x tA pA l:Addr) (L:Lk) (n:Int) (xs:List Int),vs=[.ref x,.int n,.ref l]∧bE C B H x tA pA L∧L.ev.length < 1000000∧B l=some (.lst (xs.map V.int))∧∀ B' H',j1 B H B' H' x tA pA tA pA→bE C B' H' x tA pA (kM L n xs)→Q .bH H'
theorem zd:aP ["self","number","piece"] ["self","number","piece"] (aG fW):=⟨rfl,rfl,rfl,by decide +kernel,rfl,by decide +kernel,by decide +kernel⟩
theorem zh {fd:FuncData} (T:Txt K mg t) (F:mI K "take_piece" "LinkEnd.take_piece" fW t.iG fd) :
  bO P w K mg base (ic P w) 1 t.iG fd ["self","number","piece"] (rj t.LinkEnd)∧Binds K fd ["self","number","piece"] []:=by
 refine ⟨F.sG zd (fun vs H Q E h=>?_) (fun f bM A outer s H vs Q E hr h=>?_),F.binds fun _ _ _ _ _ _ us hl=>match us,hl with | [_,_,_],_=>rfl⟩
 ·obtain ⟨B,x,tA,pA,l,L,n,xs,rfl,_⟩:=h
  rfl
 ·obtain ⟨B,x,tA,pA,l,L,n,xs,rfl,h,hlen,hl,q⟩:=h
  refine ⟨_,aH (bG (PW.pt (xZ (uK (pv 2) (fun _=>rfl)) (uC (aV mH (pv 1) (ah K (pv 0) (by rfl)) (aa _)))))
    (aC (ar (kA K PySem.F.plainAttrs_list PySem.F.slot_list_append PySem.F.type_list_append ba (ah K (pv 0) (by rfl)) (aA (eQ (aA cR (aA (pv 2) aD))) aD)))
    (aH (bX K (pv 0) (aN az (aN bj (ah K (pv 0) (by rfl)) aF) (aS T.b6)) (by rfl))))
    (aj)),?_⟩
  have qt:(1000001:Nat)≤sizeLine:=by decide
  obtain ⟨dx,pv,hx,hp⟩:=h.at_
  obtain ⟨kz,g,g'⟩:=h.told
  refine ⟨_,rfl,_,.inl ⟨_,aT.of (h.sb _ _ hl),rfl⟩,?_⟩
  cases xs with
  | nil =>
   refine eS (eS (q B H j1.refl ?_))
   unfold kM
   rw [if_neg (fun z=>z.1 rfl)];exact h
  | cons a r =>
   have Di:(!((a :: r).map V.int).isEmpty)=true:=rfl
   rw [Di]
   refine ja ?_
   refine ⟨_,rfl,_,rfl,x,t.LinkEnd,dx,_,_,rfl,hx,T.aI,T.pf,Bi,rfl,_,rfl,?_⟩
   by_cases hc:n=L.tk
   ·refine g7 (by rw [hc]) ?_
    refine ⟨_,rfl,x,t.LinkEnd,dx,_,_,rfl,hx,T.aI,T.nQ,yU,.inl ⟨rfl,_,aT.of g⟩,?_⟩
    refine ⟨_,rfl,zz2,fun ea FI=>?_⟩
    refine ⟨tA,_,_,rfl,rfl,by rw [aE (aK g FI)];exact g,by rw [aL];omega,?_⟩
    obtain ⟨h1,m1⟩:=h.tell g g' FI (NS (h.sb.free FI) hl)
    obtain ⟨yY,NW,xv,zV⟩:=h1.at_
    refine ⟨_,rfl,x,t.LinkEnd,yY,_,_,rfl,xv,T.aI,T.pf,Bi,_,_,rfl,rfl,_,_,rfl,rfl,(by show (0:Int) < 97;decide),?_⟩
    refine ⟨_,rfl,x,t.LinkEnd,yY,_,rfl,xv,T.aI,T.pf,by show 11 < 1000;decide,?_⟩
    rw [DG]
    obtain ⟨h2,m2⟩:=h1.set (dx:=yY) (pv:=NW) (L':={ L with ev:=L.ev ++ [.took (a :: r)],tk:=(L.tk+1) % 97 }) zV rfl rfl
    refine q _ _ (m1.trans m2) ?_
    unfold kM
    rw [if_pos ⟨(fun z=>by cases z),hc⟩]
    exact h2
   ·refine ie (fun z=>hc (V.int.inj z)) (q B H j1.refl ?_)
    unfold kM
    rw [if_neg (fun z=>hc z.2)];exact h
def O5 (C:Addr):Sp:=fun vs H Q _=>∃ (B:Hp) (x tA pA:Addr) (L:Lk),vs=[.ref x]∧bE C B H x tA pA L∧∀ pv,wj B pv L.p→Q pv H
theorem Ub:aP ["self"] ["self"] (aG IH):=⟨rfl,rfl,rfl,by decide +kernel,rfl,by decide +kernel,by decide +kernel⟩
theorem Uc {fd:FuncData} (T:Txt K mg t) (F:mI K "up" "LinkEnd.up" IH t.Ku fd) :
  bO P w K mg base (ic P w) 1 t.Ku fd ["self"] (O5 t.LinkEnd)∧Binds K fd ["self"] []:=by
 refine ⟨F.sG Ub (fun vs H Q E h=>?_) (fun f bM A outer s H vs Q E hr h=>?_),F.binds fun _ _ _ _ _ _ us hl=>match us,hl with | [_],_=>rfl⟩
 ·obtain ⟨B,x,tA,pA,L,rfl,_⟩:=h
  rfl
 ·obtain ⟨B,x,tA,pA,L,rfl,h,q⟩:=h
  refine ⟨_,aH (aY (ah K (pv 0) (by rfl))),?_⟩
  obtain ⟨dx,pv,hx,hp⟩:=h.at_
  exact ⟨_,rfl,x,t.LinkEnd,dx,_,_,rfl,hx,T.aI,T.iI,qD,q pv hp⟩
def ur (C:Addr):Sp:=fun vs H Q _=>∃ (B:Hp) (x tA pA:Addr) (L:Lk),vs=[.ref x]∧bE C B H x tA pA L∧Q (.int (L.bR.length:Nat)) H
theorem K8:aP ["self"] ["self"] (aG rA):=⟨rfl,rfl,rfl,by decide +kernel,rfl,by decide +kernel,by decide +kernel⟩
theorem K9 {fd:FuncData} (T:Txt K mg t) (F:mI K "waits" "LinkEnd.waits" rA t.nI fd) :
  bO P w K mg base (ic P w) 1 t.nI fd ["self"] (ur t.LinkEnd)∧Binds K fd ["self"] []:=by
 refine ⟨F.sG K8 (fun vs H Q E h=>?_) (fun f bM A outer s H vs Q E hr h=>?_),F.binds fun _ _ _ _ _ _ us hl=>match us,hl with | [_],_=>rfl⟩
 ·obtain ⟨B,x,tA,pA,L,rfl,_⟩:=h
  rfl
 ·obtain ⟨B,x,tA,pA,L,rfl,h,q⟩:=h
  refine ⟨_,aH (aY (bQ (bP K) (by rfl) T.kH boot_len (aA (ah K (pv 0) (by rfl)) aD))),?_⟩
  obtain ⟨dx,pv,hx,hp⟩:=h.at_
  obtain ⟨iX,g3,yW⟩:=h.bR
  refine ⟨_,rfl,x,t.LinkEnd,dx,_,_,rfl,hx,T.aI,T.ik,mh,pA,_,rfl,.inl (aT.of g3),?_⟩
  rw [aL]
  exact q
def vi (C:Addr):Sp:=fun vs H Q _=>∃ (B:Hp) (x tA pA:Addr) (L:Lk),vs=[.ref x]∧bE C B H x tA pA L∧∀ H' tB,j1 B H B H' x tA pA tB pA→tB≠tA→bE C B H' x tB pA { L with ev:=[] }→HC B H' tA L.ev→Q (.ref tA) H'
theorem Av:aP ["self","told"] ["self"] (aG mR):=⟨rfl,rfl,rfl,by decide +kernel,rfl,by decide +kernel,by decide +kernel⟩
theorem Ie {fd:FuncData} (T:Txt K mg t) (F:mI K "events" "LinkEnd.events" mR t.mU fd) :
  bO P w K mg base (ic P w) 1 t.mU fd ["self"] (vi t.LinkEnd)∧Binds K fd ["self"] []:=by
 refine ⟨F.sG Av (fun vs H Q E h=>?_) (fun f bM A outer s H vs Q E hr h=>?_),F.binds fun _ _ _ _ _ _ us hl=>match us,hl with | [_],_=>rfl⟩
 ·obtain ⟨B,x,tA,pA,L,rfl,_⟩:=h
  rfl
 ·obtain ⟨B,x,tA,pA,L,rfl,h,q⟩:=h
  refine ⟨_,aC (aR (i:=1) Av.nd rfl (Or.inl rfl) (ah K (pv 0) (by rfl)))
   (aC (bX K (pv 0) (ai aD) (by rfl))
   (aH (aY (pv 1)))),?_⟩
  obtain ⟨dx,pv,hx,hp⟩:=h.at_
  obtain ⟨iX,g3,yW⟩:=h.bR
  obtain ⟨kz,g2,Ds⟩:=h.told
  refine ⟨_,rfl,x,t.LinkEnd,dx,_,_,rfl,hx,T.aI,T.nQ,yU,?_⟩
  refine ⟨zz0,fun tB Rz=>?_⟩
  have s1:aJ H (upd H tB (.lst [])):=(aJ.refl _).new Rz
  have h1:=h.same s1
  have Qy:x≠tB:=fun z=>h.hx (by rw [z];exact Rz)
  have npt:pA≠tB:=fun z=>h.hp (by rw [z];exact Rz)
  have ntt:tA≠tB:=fun z=>h.ht (by rw [z];exact Rz)
  refine ⟨_,rfl,x,t.LinkEnd,dx,_,rfl,s1 _ _ hx,T.aI,T.nQ,by show 11 < 1000;decide,?_⟩
  rw [NR]
  exact ⟨_,rfl,q _ tB ⟨aJ.refl _,fun _ _ z=>z,fun y o n1 n2 n3 e=>by rw [aE n1];exact s1 _ _ e,fun b hb=>s1.free (kL hb h1.hx),.inr Rz,.inl rfl⟩ (Ne.symm ntt) ⟨h1.sb.put h.bx,h.bx,h.sb.free Rz,h.bp,⟨dx,pv,aB,hp⟩,⟨fun _=>0,by rw [aE (Ne.symm Qy)];exact aB,fun y e he=>by cases he⟩,⟨iX,by rw [aE (Ne.symm h.xp)];exact s1 _ _ g3,yW⟩,Ne.symm npt⟩ ⟨kz,by rw [aE (Ne.symm h.xt)];exact s1 _ _ g2,Ds⟩⟩
def HG (b:Int):Prop:=0≤b∧b < 9409
def Ig (n:Int):Prop:=0≤n∧n < 97
structure je (a:Cl):Prop where
 b:HG a.b
 k:HG a.k
 n:Ig a.n
 c:Ig a.c
 l:a.xs.length≤10
 x:∀ v ∈ a.xs,Ig v
def zi (a:Cl):List Int:=[a.b / 97,a.b % 97,a.k / 97,a.k % 97,a.n,a.c,(a.xs.length:Int)] ++ a.xs
def wm (a:Cl) (i:Nat):Int:=(zi a).getD i 0
theorem NX {a:Cl} (h:je a):∀ v ∈ zi a,Ig v:=by
 intro v hv
 obtain ⟨b0,b1⟩:=h.b
 obtain ⟨k0,k1⟩:=h.k
 have hl:=h.l
 unfold zi at hv
 rcases List.mem_append.mp hv with z | z
 ·simp only [List.mem_cons,List.not_mem_nil,or_false] at z
  rcases z with rfl | rfl | rfl | rfl | rfl | rfl | rfl
  ·exact ⟨by omega,by omega⟩
  ·exact ⟨by omega,by omega⟩
  ·exact ⟨by omega,by omega⟩
  ·exact ⟨by omega,by omega⟩
  ·exact h.n
  ·exact h.c
  ·exact ⟨by omega,by omega⟩
 ·exact h.x v z
theorem DK {a:Cl} (h:je a):IsCell 18 (wm a):=by
 refine ⟨fun i _=>?_⟩
 unfold wm
 rw [List.getD_eq_getElem?_getD]
 cases e:(zi a)[i]? with
 | none=>exact ⟨by decide,by decide⟩
 | some v=>exact NX h v (List.mem_of_getElem? e)
theorem NY (a:Cl) (i:Nat):wm a (7+i)=a.xs.getD i 0:=by
 unfold wm zi
 rw [Nat.add_comm]
 rfl
abbrev au (a:Cl):Nat→Int:=My.mM (wm a)
theorem Ih {a:Cl} {i:Nat} (h:i < 18):au a i=wm a i:=by unfold au My.mM;rw [if_pos h]
theorem DL {a:Cl} (h:je a):IsCell 24 (au a):=⟨fun i _=>My.M5 (DK h).b i⟩
theorem NZ (a:Cl):au a 0 * 97+au a 1=a.b:=by
 show a.b / 97 * 97+a.b % 97=a.b
 omega
theorem Na (a:Cl):au a 2 * 97+au a 3=a.k:=by
 show a.k / 97 * 97+a.k % 97=a.k
 omega
theorem Ii {a:Cl} (h:je a):fh (tabI 24 (au a)) (some 7) (some (7+au a 6))=a.xs.map V.int:=by
 have hl:=h.l
 have e6:au a 6=(a.xs.length:Int):=rfl
 have:=xP (f:=fun j=>V.int (au a j)) (n:=24) (lo:=7) (hi:=7+a.xs.length) (by omega) (by omega)
 rw [e6]
 rw [show ((7+a.xs.length:Nat):Int)=7+(a.xs.length:Int) by omega] at this
 refine this.trans ?_
 rw [KU,show 7+a.xs.length - 7=a.xs.length by omega]
 refine bT fun i hi=>?_
 rw [Ih (by omega),NY]
theorem LA (ns:List Int) (h:ns.length≤18):ns.map V.int ++ (List.replicate (18 - ns.length) [V.int 0]).flatten=tabI 18 (fun i=>ns.getD i 0):=by
 rw [List.flatten_replicate_singleton]
 apply List.ext_getElem?
 intro j
 by_cases hj:j < 18
 ·rw [bS (f:=fun i=>V.int (ns.getD i 0)) hj,List.getD_eq_getElem?_getD]
  by_cases hn:j < ns.length
  ·rw [List.getElem?_append_left (by rw [List.length_map];exact hn),List.getElem?_map]
   cases e:ns[j]? with
   | none=>rw [List.getElem?_eq_none_iff] at e;omega
   | some v=>rfl
  ·rw [List.getElem?_append_right (by rw [List.length_map];omega),List.length_map,List.getElem?_replicate,if_pos (by omega),List.getElem?_eq_none (by omega)]
   rfl
 ·rw [List.getElem?_eq_none (by rw [List.length_append,List.length_map,List.length_replicate];omega),List.getElem?_eq_none (by rw [aL];omega)]
theorem HH {n:Int}:(My.low (2:Int).toNat n).reverse=[n / 97 % 97,n % 97]:=rfl
theorem DM {n:Int} (h:HG n):My.rest (2:Int).toNat n=0:=by
 show n / 97 / 97=0
 obtain ⟨h0,h1⟩:=h
 omega
theorem DN (a b:Int):My.told [a,b]=a * 97+b:=by
 show (0 * 97+a) * 97+b=_
 omega
theorem vj {n:Int} (h:HG n):n.natAbs < 2 ^ 1000:=by
 have:n.natAbs < 9409:=by obtain ⟨h0,h1⟩:=h;omega
 exact Nat.lt_of_lt_of_le this (by decide)
theorem ya {n:Int} (h:0≤n∧n < 97):n.natAbs < 2 ^ 1000:=vj ⟨h.1,by omega⟩
theorem DO (L:Lk) (n:Int):(dX L n).ev.length≤L.ev.length+1:=by
 unfold dX
 cases L.p with
 | none=>exact Nat.le_succ _
 | some p =>
  simp only
  split
  ·show (L.ev ++ [_]).length≤_
   rw [List.length_append];exact Nat.le_refl _
  ·exact Nat.le_succ _
theorem DP (L:Lk):(iK L).ev.length≤L.ev.length+1:=by
 unfold iK
 cases L.p with
 | none=>show (L.ev ++ [_]).length≤_;rw [List.length_append];exact Nat.le_refl _
 | some p=>exact Nat.le_succ _
theorem HI (L:Lk) (c:Int):(iY L c).ev=L.ev:=by unfold iY;split <;> rfl
def HJ (C:Addr):Sp:=fun vs H Q _=>∃ (B:Hp) (x tA pA l:Addr) (L:Lk) (a:Cl),vs=[.ref x,.ref l]∧bE C B H x tA pA L∧L.ev.length < 900000∧H l=some (.lst (tabI 24 (au a)))∧je a∧l≠tA∧l≠pA ∧
 ∀ B' H' pB,j1 B H B' H' x tA pA tA pB→bE C B' H' x tA pB (gu L a)→Q .bH H'
theorem HK:aP ["self","cell","birth"] ["self","cell"] (aG vV):=⟨rfl,rfl,rfl,by decide +kernel,rfl,by decide +kernel,by decide +kernel⟩
theorem Nb {fd DI Ud Ue ZP:FuncData} (T:Txt K mg t) (F:mI K "read" "LinkEnd.read" vV t.yC fd) (iL:Def P w K mg base 3 "signs_number" ["signs"] (om K t.BadSign))
  (FL:bO P w K mg base (ic P w) 3 t.yD DI ["self","birth"] (HD t.LinkEnd)) (FN:Binds K DI ["self","birth"] []) (vk:bO P w K mg base (ic P w) 1 t.mS Ud ["self"] (yZ t.LinkEnd)) (vm:Binds K Ud ["self"] [])
  (nW:bO P w K mg base (ic P w) 1 t.iF Ue ["self","count"] (rg t.LinkEnd)) (nX:Binds K Ue ["self","count"] []) (nY:bO P w K mg base (ic P w) 1 t.iG ZP ["self","number","piece"] (rj t.LinkEnd)) (nZ:Binds K ZP ["self","number","piece"] []) :
  bO P w K mg base (ic P w) 4 t.yC fd ["self","cell"] (HJ t.LinkEnd)∧Binds K fd ["self","cell"] []:=by
 refine ⟨F.sG HK (fun vs H Q E h=>?_) (fun f bM A outer s H vs Q E hr h=>?_),F.binds fun _ _ _ _ _ _ us hl=>match us,hl with | [_,_],_=>rfl⟩
 ·obtain ⟨B,x,tA,pA,l,L,a,rfl,_⟩:=h
  rfl
 ·obtain ⟨B,x,tA,pA,l,L,a,rfl,h,hlen,hl,ga,n1,n2,q⟩:=h
  refine ⟨_,aC (aR (i:=2) HK.nd rfl (Or.inl rfl) (aZ (iL.mono (by decide)) hr aX (aA (jT (jU K) (pv 1) qu (jO (aS T.Al))) aD)))
   (aC (bG (aV AU (pv 2) (ah K (pv 0) (by rfl)) (aa _))
    (aH (MR))
    (aj))
   (aC (ar (mw (pv 0) T.aI T.NH (FL.mono (by decide)) hr FN .nil aX (aA (pv 2) aD)))
   (aH (bG (aV mH (aZ (iL.mono (by decide)) hr aX (aA (jT (jU K) (pv 1) (jO (aS T.Al)) (jO (aS T.yG))) aD)) (ah K (pv 0) (by rfl)) (aa _))
    (aC (ar (a8 (pv 0) T.aI T.Et (vk.mono (by decide)) hr vm .nil aX))
    (aC (ar (mw (pv 0) T.aI T.zS (nW.mono (by decide)) hr nX .nil aX (aA (ag (aM K) (pv 1) (aS T.II) (fun _ _=>rfl)) aD)))
    (aH (ar (mw (pv 0) T.aI T.zT (nY.mono (by decide)) hr nZ .nil aX (aA (ag (aM K) (pv 1) (aS T.yG) (fun _ _=>rfl)) (aA (jT (jU K) (pv 1) (jO (aS T.Am)) (jO (aN bj (aS T.Am) (ag (aM K) (pv 1) (aS T.Ec) (fun _ _=>rfl))))) aD)))))))
    (aj))))),?_⟩
  have sg:∀ i,i < 24→0≤au a i∧au a i < 97:=(DL ga).b
  have two:∀ {a b:Int},(0≤a∧a < 97)→(0≤b∧b < 97)→∀ n ∈ [a,b],0≤n∧n < 97:=fun {a b} ha hb n hn=>by
   rcases List.mem_cons.mp hn with rfl | hn
   ·exact ha
   ·rw [List.mem_singleton.mp hn];exact hb
  have Xi:l≠x:=fun z=>by obtain ⟨_,_,gx,_⟩:=h.at_;rw [z,gx] at hl;cases hl
  refine ⟨_,rfl,_,rfl,l,_,rfl,aT.of hl,fun p1 zV=>?_⟩
  have ec:fh (tabI 24 (au a)) none (some 2)=[au a 0,au a 1].map V.int:=sJ (f:=fun j=>V.int (au a j)) (n:=24) (hi:=2) (by decide)
  rw [ec]
  have s1:aJ H (upd H p1 (.lst ([au a 0,au a 1].map V.int))):=(aJ.refl _).new zV
  have Rx:=two (sg 0 (by decide)) (sg 1 (by decide))
  refine ⟨p1,[au a 0,au a 1],rfl,aT.of aB,fun n hn=>ya (Rx n hn),fun _=>?_,fun n hn z=>absurd (Rx n hn) z⟩
  generalize upd H p1 (.lst ([au a 0,au a 1].map V.int))=H1 at *
  rw [DN,NZ]
  have h1:=h.same s1
  have m1:j1 B H B H1 x tA pA tA pA:=j1.of_same s1
  obtain ⟨dx,pv,hx,hp⟩:=h1.at_
  refine ⟨_,rfl,_,rfl,x,t.LinkEnd,dx,_,_,rfl,hx,T.aI,T.iH,rF,_,_,rfl,rfl,_,rfl,?_⟩
  unfold gu at q
  by_cases hk:a.b < L.k
  ·rw [if_pos hk] at q
   exact g7 hk (q B H1 pA m1 h1)
  ·rw [if_neg hk] at q
   refine ie hk ?_
   refine ⟨_,rfl,x,dx,_,rfl,hx,rfl,_,rfl,B,x,tA,pA,L,_,rfl,h1,by omega,fun B2 H2 pB m2 h2=>?_⟩
   have Ua:=m1.trans m2
   have ZQ:H2 l=some (.lst (tabI 24 (au a))):=Ua.k l _ Xi n1 n2 hl
   have ZR:l≠pB:=by
    rcases Ua.p with z | z
    ·rw [z];exact n2
    ·exact aK hl z
   have Y8:=DO L a.b
   generalize dX L a.b=L2 at *
   refine ⟨_,rfl,_,rfl,_,rfl,l,_,rfl,aT.of ZQ,fun p3 CI=>?_⟩
   have ec2:fh (tabI 24 (au a)) (some 2) (some 4)=[au a 2,au a 3].map V.int:=xP (f:=fun j=>V.int (au a j)) (n:=24) (lo:=2) (hi:=4) (by decide) (by decide)
   rw [ec2]
   have s3:aJ H2 (upd H2 p3 (.lst ([au a 2,au a 3].map V.int))):=(aJ.refl _).new CI
   have UU:=two (sg 2 (by decide)) (sg 3 (by decide))
   refine ⟨p3,[au a 2,au a 3],rfl,aT.of aB,fun n hn=>ya (UU n hn),fun _=>?_,fun n hn z=>absurd (UU n hn) z⟩
   generalize upd H2 p3 (.lst ([au a 2,au a 3].map V.int))=H3 at *
   rw [DN,Na]
   have h3:=h2.same s3
   have Vu:=Ua.same s3
   have hl3:=s3 _ _ ZQ
   obtain ⟨Nd,R0,Qz,aBy⟩:=h3.at_
   refine ⟨_,rfl,x,t.LinkEnd,Nd,_,_,rfl,Qz,T.aI,T.mX,uq,rfl,_,rfl,?_⟩
   by_cases ho:a.k=L2.b
   ·rw [if_pos ho] at q
    refine g7 (by rw [ho]) ?_
    refine ⟨_,rfl,x,Nd,_,rfl,Qz,rfl,B2,x,tA,pB,L2,rfl,h3,by omega,fun B4 H4 m4 h4=>?_⟩
    have ZS:H4 l=some (.lst (tabI 24 (au a))):=m4.k l _ Xi n1 ZR hl3
    obtain ⟨R1,pv4,R3,_⟩:=h4.at_
    have Ug:=Vu.trans m4
    refine ⟨_,rfl,x,R1,_,rfl,R3,rfl,_,rfl,l,_,_,_,rfl,rfl,aT.of ZS,rfl,B4,x,tA,pB,_,a.c,rfl,h4,fun H5 m5 h5=>?_⟩
    have Uh:H5 l=some (.lst (tabI 24 (au a))):=m5.k l _ Xi n1 ZR ZS
    obtain ⟨ME,Ui,R4,_⟩:=h5.at_
    have m05:=Ug.trans m5
    refine ⟨_,rfl,x,ME,_,rfl,R4,rfl,_,rfl,l,_,_,_,rfl,rfl,aT.of Uh,rfl,?_⟩
    refine ⟨_,rfl,_,rfl,_,rfl,l,_,_,_,rfl,rfl,aT.of Uh,rfl,_,_,rfl,rfl,_,rfl,l,_,rfl,aT.of Uh,fun p6 O3=>?_⟩
    have ec3:fh (tabI 24 (au a)) (some 7) (some (7+au a 6))=a.xs.map V.int:=Ii ga
    have s6:aJ H5 (upd H5 p6 (.lst (fh (tabI 24 (au a)) (some 7) (some (7+au a 6))))):=(aJ.refl _).new O3
    obtain ⟨h6,m6⟩:=h5.grow (o:=.lst (fh (tabI 24 (au a)) (some 7) (some (7+au a 6)))) s6 O3 aB
    have MC:=DP L2
    refine ⟨_,x,tA,pB,p6,_,a.n,a.xs,rfl,h6,by rw [HI];omega,by rw [aB,ec3],fun B7 H7 m7 h7=>?_⟩
    exact q B7 H7 pB ((m05.trans m6).trans m7) h7
   ·rw [if_neg ho] at q
    refine ie (fun z=>ho (V.int.inj z)) ?_
    exact q B2 H3 pB Vu h3
def LB (L:Lk):Prop:=je (kN L)
def lY (C:Addr):Sp:=fun vs H Q _=>∃ (B:Hp) (x tA pA:Addr) (L:Lk),vs=[.ref x]∧bE C B H x tA pA L∧LB L∧∀ p H',H p=none→aJ H H'→H' p=some (.lst (tabI 24 (au (kN L))))→Q (.ref p) H'
theorem jQ:aP ["self","piece","births","signs"] ["self"] (aG fT):=⟨rfl,rfl,rfl,by decide +kernel,rfl,by decide +kernel,by decide +kernel⟩
set_option maxHeartbeats 1000000 in
theorem zj {fd:FuncData} (T:Txt K mg t) (F:mI K "cell_given" "LinkEnd.cell_given" fT t.iD fd) (iM:Def P w K mg base 1 "number_signs" ["number","many"] (oj t.BadSign)) (yb:Def P w K mg base 3 "sealed" ["signs"] (Ap K)) :
  bO P w K mg base (ic P w) 4 t.iD fd ["self"] (lY t.LinkEnd)∧Binds K fd ["self"] []:=by
 refine ⟨F.sG jQ (fun vs H Q E h=>?_) (fun f bM A outer s H vs Q E hr h=>?_),F.binds fun _ _ _ _ _ _ us hl=>match us,hl with | [_],_=>rfl⟩
 ·obtain ⟨B,x,tA,pA,L,rfl,_⟩:=h
  rfl
 ·obtain ⟨B,x,tA,pA,L,rfl,h,gl,q⟩:=h
  refine ⟨_,aC (BH (aR (i:=1) jQ.nd rfl (Or.inl rfl) (pG (uK (ah K (pv 0) (by rfl)) (fun _=>rfl)) (ag (aM K) (ah K (pv 0) (by rfl)) aF (fun _ _=>rfl)) (ai aD))))
   (aC (aR (i:=2) jQ.nd rfl (Or.inl rfl) (aN (g9 K) (aZ (iM.mono (by decide)) hr aX (aA (ah K (pv 0) (by rfl)) (aA (aS T.uX) aD))) (aZ (iM.mono (by decide)) hr aX (aA (ah K (pv 0) (by rfl)) (aA (aS T.uX) aD)))))
   (aC (aR (i:=3) jQ.nd rfl (Or.inl rfl) (aN (g9 K) (aN (g9 K) (pv 2) (ai (aA (ah K (pv 0) (by rfl)) (aA (ah K (pv 0) (by rfl)) (aA (bQ (bP K) (by rfl) T.kH boot_len (aA (pv 1) aD)) aD))))) (pv 1)))
   (aH (aY (aZ (yb.mono (by decide)) hr (mJ ax) (aA (aN (g9 K) (pv 3) (aN xk (ai (aA aF aD)) (aN dc (aS T.uY) (bQ (bP K) (by rfl) T.kH boot_len (aA (pv 3) aD))))) aD)))))),?_⟩
  have qt:(1000001:Nat)≤sizeLine:=by decide
  obtain ⟨dx,pv,hx,_⟩:=h.at_
  obtain ⟨iX,g3,yW⟩:=h.bR
  refine ⟨fun σ H0=>∃ p0,σ=[some (.ref x),some (.ref p0),none,none]∧aJ H H0∧H0 p0=some (.lst ((L.bR.headD []).map V.int)),?_,?_⟩
  ·refine ⟨_,rfl,x,t.LinkEnd,dx,_,_,rfl,hx,T.aI,T.ik,mh,_,.inl ⟨_,aT.of g3,rfl⟩,?_⟩
   cases ep:L.bR with
   | nil =>
    rw [ep] at g3
    refine eS ⟨zz0,fun p0 DQ=>⟨p0,rfl,(aJ.refl _).new DQ,aB⟩⟩
   | cons a r =>
    rw [ep] at g3 yW
    have Di:(!(bN (a :: r).length iX).isEmpty)=true:=by
     have hl:(bN (a :: r).length iX).length=r.length+1:=aL _ _
     cases e:bN (a :: r).length iX with
     | nil=>rw [e] at hl;cases hl
     | cons u v=>rfl
    rw [Di]
    refine ja ⟨_,rfl,x,t.LinkEnd,dx,_,_,rfl,hx,T.aI,T.ik,mh,pA,_,_,_,rfl,rfl,aT.of g3,jw (bS (f:=fun j=>V.ref (iX j)) (Nat.succ_pos _)),?_⟩
    exact ⟨iX 0,rfl,aJ.refl _,h.sb _ _ (yW 0 a rfl)⟩
  rintro σ H0 ⟨p0,rfl,s0,e0⟩
  have gb:=gl.b
  have gk:=gl.k
  have aB2:(L.bR.headD []).length≤10:=gl.l
  have hb:HG L.b:=gb
  have hk:HG L.k:=gk
  have Ru:zi (kN L)=[L.b / 97,L.b % 97,L.k / 97,L.k % 97,L.of,L.tk,((L.bR.headD []).length:Int)] ++ L.bR.headD []:=rfl
  have hcp:∀ i,wm (kN L) i=(zi (kN L)).getD i 0:=fun i=>rfl
  generalize L.bR.headD []=xs at *
  refine ⟨_,rfl,x,t.LinkEnd,dx,_,_,rfl,s0 _ _ hx,T.aI,T.mX,uq,L.b,2,rfl,vj hb,by decide,by decide,fun _ _ p1 H1 zV s1 e1=>?_,fun z=>absurd z (by rw [DM hb];have:=hb.1;omega)⟩
  rw [HH] at e1
  have ZT:=s0.trans s1
  refine ⟨_,rfl,x,t.LinkEnd,dx,_,_,rfl,ZT _ _ hx,T.aI,T.iH,rF,L.k,2,rfl,vj hk,by decide,by decide,fun _ _ p2 H2 zW s2 e2=>?_,fun z=>absurd z (by rw [DM hk];have:=hk.1;omega)⟩
  rw [HH] at e2
  have Vv:=ZT.trans s2
  refine ⟨p1,p2,_,_,rfl,rfl,aT.of (s2 _ _ e1),aT.of e2,zz4,fun p3 CI=>?_⟩
  have t3:=(aJ.refl H2).new (o:=.lst ([L.b / 97 % 97,L.b % 97].map V.int ++ [L.k / 97 % 97,L.k % 97].map V.int)) CI
  have e3:(upd H2 p3 (.lst ([L.b / 97 % 97,L.b % 97].map V.int ++ [L.k / 97 % 97,L.k % 97].map V.int))) p3=some (.lst ([L.b / 97 % 97,L.b % 97,L.k / 97 % 97,L.k % 97].map V.int)):=aB
  have s3:=Vv.trans t3
  have ZU:=((s1.trans s2).trans t3) _ _ e0
  generalize upd H2 p3 (.lst ([L.b / 97 % 97,L.b % 97].map V.int ++ [L.k / 97 % 97,L.k % 97].map V.int))=H3 at *
  refine ⟨_,rfl,_,rfl,x,t.LinkEnd,dx,_,_,rfl,s3 _ _ hx,T.aI,T.nR,As,_,rfl,x,t.LinkEnd,dx,_,_,rfl,s3 _ _ hx,T.aI,T.pf,Bi,_,rfl,p0,_,rfl,.inl (aT.of ZU),zz3,fun p4 Ry=>?_⟩
  rw [List.length_map]
  have t4:=(aJ.refl H3).new (o:=.lst [V.int L.of,V.int L.tk,V.int (xs.length:Nat)]) Ry
  refine ⟨p3,p4,_,_,rfl,rfl,aT.of (t4 _ _ e3),aT.of aB,zz7,fun p5 Rw=>?_⟩
  have t5:=t4.new (o:=.lst ([L.b / 97 % 97,L.b % 97,L.k / 97 % 97,L.k % 97].map V.int ++ [V.int L.of,V.int L.tk,V.int (xs.length:Nat)])) Rw
  refine ⟨_,rfl,p5,p0,_,_,rfl,rfl,aT.of aB,aT.of (t5 _ _ ZU),by rw [List.length_map];show 7+xs.length≤sizeLine;omega,fun p6 O3=>?_⟩
  have t6:=t5.new (o:=.lst (([L.b / 97 % 97,L.b % 97,L.k / 97 % 97,L.k % 97].map V.int ++ [V.int L.of,V.int L.tk,V.int (xs.length:Nat)]) ++ xs.map V.int)) O3
  have s6:=s3.trans t6
  have eb:L.b / 97 % 97=L.b / 97:=by obtain ⟨h0,h1⟩:=hb;omega
  have ek:L.k / 97 % 97=L.k / 97:=by obtain ⟨h0,h1⟩:=hk;omega
  have e6:(upd (upd (upd H3 p4 (.lst [V.int L.of,V.int L.tk,V.int (xs.length:Nat)])) p5 (.lst ([L.b / 97 % 97,L.b % 97,L.k / 97 % 97,L.k % 97].map V.int ++ [V.int L.of,V.int L.tk,V.int (xs.length:Nat)]))) p6 (.lst (([L.b / 97 % 97,L.b % 97,L.k / 97 % 97,L.k % 97].map V.int ++ [V.int L.of,V.int L.tk,V.int (xs.length:Nat)]) ++ xs.map V.int))) p6=some (.lst ((zi (kN L)).map V.int)):=by
   rw [aB,Ru,eb,ek,List.map_append]
   rfl
  generalize (upd (upd (upd H3 p4 (.lst [V.int L.of,V.int L.tk,V.int (xs.length:Nat)])) p5 (.lst ([L.b / 97 % 97,L.b % 97,L.k / 97 % 97,L.k % 97].map V.int ++ [V.int L.of,V.int L.tk,V.int (xs.length:Nat)]))) p6 (.lst (([L.b / 97 % 97,L.b % 97,L.k / 97 % 97,L.k % 97].map V.int ++ [V.int L.of,V.int L.tk,V.int (xs.length:Nat)]) ++ xs.map V.int)))=H6 at *
  have sl7:(zi (kN L)).length=7+xs.length:=by rw [Ru,List.length_append];rfl
  generalize zi (kN L)=ss at *
  refine ⟨_,rfl,zz1,fun p7 Xj=>?_⟩
  have s7:=(aJ.refl H6).new (o:=.lst [V.int 0]) Xj
  refine ⟨_,rfl,p6,_,rfl,.inl (aT.of (s7 _ _ e6)),_,_,rfl,rfl,?_⟩
  rw [List.length_map]
  refine ⟨p7,_,_,rfl,rfl,aB,by omega,by omega,by show 1 * _≤sizeLine;omega,fun p8 Xk=>?_⟩
  have en:((18:Int) - (ss.length:Nat)).toNat=18 - ss.length:=by omega
  rw [en]
  have s8:=s7.new (o:=.lst ((List.replicate (18 - ss.length) [V.int 0]).flatten)) Xk
  refine ⟨p6,p8,_,_,rfl,rfl,aT.of (s8 _ _ e6),aT.of aB,by rw [List.flatten_replicate_singleton,List.length_map,List.length_replicate];omega,fun p9 Nf=>?_⟩
  rw [LA ss (by omega)] at *
  have s9:=s8.new (o:=.lst (tabI 18 fun i=>ss.getD i 0)) Nf
  refine ⟨p9,wm (kN L),rfl,aT.of ?_,DK gl,fun p H' hp s' e'=>?_⟩
  ·rw [aB]
   exact congrArg (fun z=>some (HO.lst z)) (bT fun i _=>by rw [hcp i])
  ·have sA:=(s6.trans s9).trans s'
   exact q p H' ((s6.trans s9).free hp) sA e'
theorem Ij {f g h:Nat→Int} (a:My.vT f g) (b:My.vT f h):tabI 24 g=tabI 24 h:=by
 refine bT fun i hi=>?_
 rw [My.UH a.b b.b a.sealed b.sealed ?_ i hi]
 have:=My.vS (My.kB 24 g h) (My.kB 24 f g ++ My.kB 24 f h) (My.sP _ _ _) fun i hi=>by
  obtain ⟨h1,h2⟩:=My.gO.mp hi
  by_cases e:f i=g i
  ·exact List.mem_append_right _ (My.gO.mpr ⟨h1,fun z=>h2 (by rw [← e,z])⟩)
  ·exact List.mem_append_left _ (My.gO.mpr ⟨h1,e⟩)
 have a2:=a.Co
 have b2:=b.Co
 rw [List.length_append] at this
 omega
def O6 (f:Nat→Int):Option Cl→Prop
 | none=>∀ g,¬ My.vT f g
 | some a=>je a∧My.vT f (au a)
abbrev Cm:=(Nat→Int) × Option Cl
def ZV (H:Hp) (cl:Addr) (FO:Nat→Addr) (fs:List Cm):Prop:=H cl=some (.lst (bN fs.length FO))∧∀ j c,fs[j]?=some c→H (FO j)=some (.lst (tabI 24 c.1))∧IsCell 24 c.1∧O6 c.1 c.2
def LC (H0 H:Hp) (D:Addr) (v:V):Option Cl→Prop
 | none=>v=.bH
 | some b=>∃ p,v=.ref p∧H0 p=none∧p≠D∧H p=some (.lst (tabI 24 (au b)))
theorem LC.mono {H0 H H':Hp} {D:Addr} {v:V} {o:Option Cl} (h:LC H0 H D v o) (k:∀ p u,p≠D→H p=some u→H' p=some u):LC H0 H' D v o:=by
 cases o with
 | none=>exact h
 | some b=>obtain ⟨p,h1,h2,h3,h4⟩:=h;exact ⟨p,h1,h2,h3,k p _ h3 h4⟩
def bL (L:Lk) (bs:List Cl):Lk:=bs.foldl gu L
def yc (L:Lk) (bs:List Cl):Lk:={ L with u:=if bs=[] then L.u+1 else 0 }
def eY (L:Lk):Lk:=if L.k≠0∧L.q≤L.u then rf L else L
def kO (L:Lk) (bs:List Cl):Lk:={ eY (yc (bL L bs) bs) with d:=(eY (yc (bL L bs) bs)).d+1 }
theorem FP (L:Lk) (bs:List Cl) (b:Cl):bL L (bs ++ [b])=gu (bL L bs) b:=by unfold bL;rw [List.foldl_append];rfl
structure xS (L:Lk):Prop where
 k:HG L.k
 o:Ig L.of
 t:Ig L.tk
 p:∀ xs ∈ L.bR,xs.length≤10∧∀ v ∈ xs,Ig v
theorem LD:HG 0:=⟨by decide,by decide⟩
theorem rW:Ig 0:=⟨by decide,by decide⟩
theorem rG (n:Int):Ig (n % 97):=⟨Int.emod_nonneg _ (by decide),Int.emod_lt_of_pos _ (by decide)⟩
theorem xS.give {L:Lk} (h:xS L) (hb:HG L.b):LB L:=by
 refine ⟨hb,h.k,h.o,h.t,?_,?_⟩
 ·show (L.bR.headD []).length≤10
  cases e:L.bR with
  | nil=>exact Nat.zero_le _
  | cons a r=>exact (h.p a (by rw [e];exact List.mem_cons_self)).1
 ·show ∀ v ∈ L.bR.headD [],Ig v
  cases e:L.bR with
  | nil=>intro v hv;cases hv
  | cons a r=>exact (h.p a (by rw [e];exact List.mem_cons_self)).2
theorem HL {L:Lk} {n:Int} (h:xS L) (hn:HG n):xS (dX L n):=by
 unfold dX
 cases L.p with
 | none=>exact ⟨hn,h.o,h.t,h.p⟩
 | some p =>
  simp only
  split
  ·exact ⟨hn,rW,rW,fun xs hx=>by cases hx⟩
  ·exact ⟨hn,h.o,h.t,h.p⟩
theorem Ng {L:Lk} (h:xS L):xS (iK L):=by
 unfold iK
 cases L.p with
 | none=>exact ⟨h.k,h.o,h.t,h.p⟩
 | some p=>exact h
theorem Nh {L:Lk} {c:Int} (h:xS L):xS (iY L c):=by
 unfold iY
 split
 ·exact ⟨h.k,rG _,h.t,fun xs hx=>h.p xs (List.mem_of_mem_tail hx)⟩
 ·exact h
theorem Ni {L:Lk} {n:Int} {xs:List Int} (h:xS L):xS (kM L n xs):=by
 unfold kM
 split
 ·exact ⟨h.k,h.o,rG _,h.p⟩
 ·exact h
theorem Nj {L:Lk} {a:Cl} (h:xS L) (ha:HG a.b):xS (gu L a):=by
 unfold gu
 split
 ·exact h
 ·split
  ·exact Ni (Nh (Ng (HL h ha)))
  ·exact HL h ha
theorem Nk {L:Lk} (h:xS L):xS (rf L):=by
 unfold rf
 cases L.p with
 | none=>exact ⟨LD,h.o,h.t,h.p⟩
 | some p=>exact ⟨LD,rW,rW,fun xs hx=>by cases hx⟩
theorem LF {L:Lk} (h:xS L):xS (eY L):=by
 unfold eY
 split
 ·exact Nk h
 ·exact h
theorem DR:∀ (bs:List Cl) (L:Lk),xS L→(∀ b ∈ bs,HG b.b)→xS (bL L bs)
 | [],_,h,_=>h
 | b :: r,L,h,hb=>DR r (gu L b) (Nj h (hb b List.mem_cons_self)) fun x hx=>hb x (List.mem_cons_of_mem _ hx)
theorem Q0 (L:Lk) (n:Int):(dX L n).b=L.b∧(dX L n).k=n:=by
 unfold dX
 cases L.p with
 | none=>exact ⟨rfl,rfl⟩
 | some p=>simp only;split <;> exact ⟨rfl,rfl⟩
theorem Q3 (L:Lk):(iK L).b=L.b∧(iK L).k=L.k:=by
 unfold iK
 cases L.p <;> exact ⟨rfl,rfl⟩
theorem Q4 (L:Lk) (c:Int):(iY L c).b=L.b∧(iY L c).k=L.k:=by unfold iY;split <;> exact ⟨rfl,rfl⟩
theorem Q5 (L:Lk) (n:Int) (xs:List Int):(kM L n xs).b=L.b∧(kM L n xs).k=L.k∧(kM L n xs).ev.length≤L.ev.length+1:=by
 unfold kM
 split
 ·exact ⟨rfl,rfl,by show (L.ev ++ [_]).length≤_;rw [List.length_append];exact Nat.le_refl _⟩
 ·exact ⟨rfl,rfl,Nat.le_succ _⟩
theorem Q6 (L:Lk) (a:Cl):(gu L a).b=L.b∧((gu L a).k=L.k∨(gu L a).k=a.b)∧(gu L a).ev.length≤L.ev.length+3:=by
 have m1:=Q0 L a.b
 have m2:=DO L a.b
 have c1:=Q3 (dX L a.b)
 have c2:=DP (dX L a.b)
 have h1:=Q4 (iK (dX L a.b)) a.c
 have h2:=HI (iK (dX L a.b)) a.c
 have t1:=Q5 (iY (iK (dX L a.b)) a.c) a.n a.xs
 unfold gu
 split
 ·exact ⟨rfl,.inl rfl,by omega⟩
 ·split
  ·refine ⟨t1.1.trans (h1.1.trans (c1.1.trans m1.1)),.inr (t1.2.1.trans (h1.2.trans (c1.2.trans m1.2))),?_⟩
   have:=t1.2.2
   rw [h2] at this
   omega
  ·exact ⟨m1.1,.inr m1.2,by omega⟩
theorem HM (L:Lk):∀ (bs:List Cl),(bL L bs).b=L.b∧(bL L bs).ev.length≤L.ev.length+3 * bs.length:=by
 intro bs
 induction bs generalizing L with
 | nil=>exact ⟨rfl,Nat.le_refl _⟩
 | cons b r ih =>
  have rb:=Q6 L b
  obtain ⟨i1,i3⟩:=ih (gu L b)
  show (bL (gu L b) r).b=_∧(bL (gu L b) r).ev.length≤_
  exact ⟨i1.trans rb.1,by rw [List.length_cons];omega⟩
theorem Q7 (L:Lk):(rf L).b=L.b+1∧(rf L).k=0:=by
 unfold rf
 cases L.p <;> exact ⟨rfl,rfl⟩
def cQ (fs:List Cm):List Cl:=fs.filterMap (·.2)
theorem FQ {fs:List Cm} {i:Nat} {c:Cm} (h:fs[i]?=some c):cQ (fs.take (i+1))=cQ (fs.take i) ++ (match c.2 with | none=>[] | some b=>[b]):=by
 unfold cQ
 rw [List.take_succ,h,List.filterMap_append]
 congr 1
 cases e:c.2 <;> simp [e]
def HN (C:Addr):Sp:=fun vs H Q _=>∃ (B:Hp) (x tA pA cl:Addr) (FO:Nat→Addr) (L:Lk) (fs:List Cm),vs=[.ref x,.ref cl]∧bE C B H x tA pA L∧ZV H cl FO fs∧fs.length≤1000∧L.ev.length≤1000∧0≤L.b∧L.b < 9000∧xS L ∧
 ∀ B' H' pB p,j1 B H B' H' x tA pA tA pB→bE C B' H' x tA pB (kO L (cQ fs))→H p=none→B' p=none→p≠pB→H' p=some (.lst (tabI 24 (au (kN (kO L (cQ fs))))))→Q (.ref p) H'
theorem xT:aP ["self","cells","tried","readable","cell"] ["self","cells"] (aG pR):=⟨rfl,rfl,rfl,by decide +kernel,rfl,by decide +kernel,by decide +kernel⟩
theorem Nl {fd DI Ud Ue:FuncData} (T:Txt K mg t) (F:mI K "tick" "LinkEnd.tick" pR t.yB fd) (yd:Def P w K mg base 8 "mended" ["cell"] (Aq K)) (FR:bO P w K mg base (ic P w) 4 t.yC DI ["self","cell"] (HJ t.LinkEnd)) (FT:Binds K DI ["self","cell"] [])
  (ng:bO P w K mg base (ic P w) 3 t.iE Ud ["self"] (lX t.LinkEnd)) (nh:Binds K Ud ["self"] []) (ni:bO P w K mg base (ic P w) 4 t.iD Ue ["self"] (lY t.LinkEnd)) (nj:Binds K Ue ["self"] []) :
  bO P w K mg base (ic P w) 9 t.yB fd ["self","cells"] (HN t.LinkEnd)∧Binds K fd ["self","cells"] []:=by
 refine ⟨F.sG xT (fun vs H Q E h=>?_) (fun f bM A outer s H vs Q E hr h=>?_),F.binds fun _ _ _ _ _ _ us hl=>match us,hl with | [_,_],_=>rfl⟩
 ·obtain ⟨B,x,tA,pA,cl,FO,L,fs,rfl,_⟩:=h
  rfl
 ·obtain ⟨B,x,tA,pA,cl,FO,L,fs,rfl,h,⟨MC,Uj⟩,ZW,hel,b0,b1,hk,q⟩:=h
  refine ⟨_,aC (pL (i:=2) xT.nd rfl (Or.inl rfl) rfl (Nc:=["cell"]) (ix:=[none]) (cU (aG pR) ["self","cells","tried","readable","cell"] rfl rfl (by decide +kernel)) (bK K (pv 1)) (fun C fp s H=>⟨(ak (i:=0) (show (["cell"]:List Str).Nodup by decide +kernel) rfl (Or.inl rfl)),cP,(aZ (yd.mono (by decide)) hr aX (aA (pv 0) aD))⟩))
   (aC (pL (i:=3) xT.nd rfl (Or.inl rfl) rfl (Nc:=["cell"]) (ix:=[none]) (cU (aG pR) ["self","cells","tried","readable","cell"] rfl rfl (by decide +kernel)) (bK K (pv 2)) (fun C fp s H=>⟨(ak (i:=0) (show (["cell"]:List Str).Nodup by decide +kernel) rfl (Or.inl rfl)),(xK (aV qr (pv 0) eO (aa _))),(pv 0)⟩))
   (aC (PS.A2 (cT PassesOwn.never rfl (bK K (pv 3)) (ak (i:=4) xT.nd rfl (Or.inl rfl))
    (aH (ar (mw (pv 0) T.aI T.NG (FR.mono (by decide)) hr FT .nil aX (aA (pv 4) aD))))))
   (aC (bX K (pv 0) (pG (uK (pv 3) (fun _=>rfl)) aF (aN bj (ah K (pv 0) (by rfl)) aF)) (by rfl))
   (aC (BH (bG (PW.pt (xZ (aV uH (ah K (pv 0) (by rfl)) (aS T.rB) (aa _)) (uC (aV Oc (ah K (pv 0) (by rfl)) (ah K (pv 0) (by rfl)) (aa _)))))
    (aH (ar (a8 (pv 0) T.aI T.zR (ng.mono (by decide)) hr nh .nil aX)))
    (aj)))
   (aC (AV (pv 0) aF Je)
   (aH (aY (a8 (pv 0) T.aI T.zQ (ni.mono (by decide)) hr nj .nil aX)))))))),?_⟩
  have qt:(1000001:Nat)≤sizeLine:=by decide
  have nz:∀ {a b:Addr},H a≠none→H b=none→b≠a:=fun {a b} h1 h2 z=>h1 (z ▸ h2)
  refine ⟨_,rfl,cl,rfl,⟨_,aT.of MC⟩,fun D hD=>?_⟩
  refine uU (K:=K) (a:=cl) (xs:=bN fs.length FO) (fun i σ H'=>(∃ v,σ=[v])∧aJ H H'∧∃ vs:List V,H' D=some (.lst vs)∧vs.length=i∧∀ (j:Nat) (v:V) (c:Cm),vs[j]?=some v→fs[j]?=some c→LC H H' D v c.2)
   ⟨⟨none,rfl⟩,(aJ.refl H).new hD,[],aB,rfl,fun j v c hv=>by cases hv⟩ (fun i σ H' _ p=>aT.of (p.2.1 _ _ MC)) ?_ ?_
  ·rintro i v σ H' N hN hi ⟨⟨v0,rfl⟩,s1,vs,hv,R5,Xl⟩
   obtain ⟨O7,rfl⟩:=tab_of hi
   have e:fs[i]?=some fs[i]:=by simp [O7]
   generalize fs[i]=c at e
   obtain ⟨c1,c2,c3⟩:=Uj i c e
   refine fP ?_
   have fin:∀ (v:V) (H2:Hp),aJ H' H2→LC H H2 D v c.2→(∃ ys,H2 D=some (.lst ys)∧ys.length < sizeLine∧N [some (.ref (FO i))] (upd H2 D (.lst (ys ++ [v])))):=fun v H2 s2 Vt=>by
    refine ⟨_,s2 _ _ hv,by omega,hN _ _ ⟨⟨_,rfl⟩,(s1.trans s2).put hD,vs ++ [v],aB,by rw [List.length_append,R5];rfl,fun j v' c' h1 h2=>?_⟩⟩
    have up:∀ p u,p≠D→H2 p=some u→(upd H2 D (.lst (vs ++ [v]))) p=some u:=fun p u n e=>by rw [aE n];exact e
    by_cases hj:j < vs.length
    ·rw [List.getElem?_append_left hj] at h1
     exact ((Xl j v' c' h1 h2).mono fun p u _ e=>s2 _ _ e).mono up
    ·have R6:j < (vs ++ [v]).length:=(List.getElem?_eq_some_iff.mp h1).1
     rw [List.length_append] at R6
     have Uk:j=vs.length:=by simp at R6;omega
     rw [Uk,List.getElem?_append_right (Nat.le_refl _),Nat.sub_self] at h1
     cases h1
     rw [Uk,R5,e] at h2
     cases h2
     exact Vt.mono up
   refine ⟨_,rfl,FO i,c.1,rfl,aT.of (s1 _ _ c1),c2,fun g p H2 hm hp s2 e2=>?_,fun hno H2 s2=>?_⟩
   ·refine fin _ H2 s2 ?_
    cases ec:c.2 with
    | none=>rw [ec] at c3;exact absurd hm (c3 g)
    | some b =>
     rw [ec] at c3
     exact ⟨p,rfl,s1.free hp,(fun z=>by rw [z,hv] at hp;cases hp),by rw [e2,Ij hm c3.2]⟩
   ·refine fin _ H2 s2 ?_
    cases ec:c.2 with
    | none=>exact rfl
    | some b=>rw [ec] at c3;exact absurd c3.2 (hno _)
  ·rintro σ H1 ⟨⟨v0,rfl⟩,s1,vs,hv,R5,Xl⟩
   rw [aL] at R5
   have ZX:∀ b ∈ cQ fs,je b:=fun b hb=>by
    obtain ⟨c,hc,ec⟩:=List.mem_filterMap.mp hb
    obtain ⟨j,hj⟩:=List.getElem?_of_mem hc
    have c3:=(Uj j c hj).2.2
    rw [ec] at c3
    exact c3.1
   have hrl:(cQ fs).length≤fs.length:=List.length_filterMap_le _ _
   obtain ⟨Xa,hb3⟩:=HM L (cQ fs)
   have MB:=DR (cQ fs) L hk fun b hb=>(ZX b hb).b
   refine ⟨_,rfl,D,rfl,⟨_,aT.of hv⟩,fun D2 CJ=>?_⟩
   refine uU (K:=K) (a:=D) (xs:=vs) (fun i σ H'=>(∃ v,σ=[v])∧aJ H1 H'∧∃ ps:List Addr,H' D2=some (.lst (ps.map V.ref))∧ps.length=(cQ (fs.take i)).length∧∀ (j:Nat) (p:Addr) (b:Cl),ps[j]?=some p→(cQ (fs.take i))[j]?=some b→H p=none∧H1 p=some (.lst (tabI 24 (au b))))
    ⟨⟨none,rfl⟩,(aJ.refl H1).new CJ,[],aB,rfl,fun j p b hp=>by cases hp⟩ (fun i σ H' _ p=>aT.of (p.2.1 _ _ hv)) ?_ ?_
   ·rintro i v σ H' N hN hi ⟨⟨v0,rfl⟩,s2,ps,zW,mr,HF⟩
    have O7:i < fs.length:=by rw [← R5];exact (List.getElem?_eq_some_iff.mp hi).1
    have e:fs[i]?=some fs[i]:=by simp [O7]
    generalize fs[i]=c at e
    have Ik:=Xl i v c hi e
    have O8:=FQ e
    refine turn_if ?_
    cases ec:c.2 with
    | none =>
     rw [ec] at Ik O8
     have Ik:v=.bH:=Ik
     subst Ik
     refine ⟨_,rfl,rfl,_,rfl,oZ rfl ?_⟩
     refine hN _ _ ⟨⟨_,rfl⟩,s2,ps,zW,?_,?_⟩
     ·rw [O8,List.append_nil];exact mr
     ·rw [O8,List.append_nil];exact HF
    | some b =>
     rw [ec] at Ik O8
     obtain ⟨p,rfl,DQ,hpD,MF⟩:=Ik
     have O8:cQ (fs.take (i+1))=cQ (fs.take i) ++ [b]:=O8
     have Xm:(cQ (fs.take i)).length≤(fs.take i).length:=List.length_filterMap_le _ _
     rw [List.length_take] at Xm
     refine ⟨_,rfl,rfl,_,rfl,xw (fun z=>by cases z) ?_⟩
     refine ⟨_,rfl,_,zW,by rw [List.length_map];omega,hN _ _ ⟨⟨_,rfl⟩,s2.put CJ,ps ++ [p],?_,?_,?_⟩⟩
     ·rw [aB,List.map_append];rfl
     ·rw [O8,List.length_append,List.length_append,mr];rfl
     ·intro j p' b' h1 h2
      rw [O8] at h2
      by_cases hj:j < ps.length
      ·rw [List.getElem?_append_left hj] at h1
       rw [List.getElem?_append_left (by omega)] at h2
       exact HF j p' b' h1 h2
      ·have R6:j < (ps ++ [p]).length:=(List.getElem?_eq_some_iff.mp h1).1
       rw [List.length_append] at R6
       have Uk:j=ps.length:=by simp at R6;omega
       rw [Uk,List.getElem?_append_right (Nat.le_refl _),Nat.sub_self] at h1
       cases h1
       rw [Uk,mr,List.getElem?_append_right (Nat.le_refl _),Nat.sub_self] at h2
       cases h2
       exact ⟨DQ,MF⟩
   ·rintro σ H2 ⟨⟨v0,rfl⟩,s2,ps,zW,mr,HF⟩
    rw [R5,List.take_length] at mr HF
    generalize hbs:cQ fs=bs at *
    have Vv:=s1.trans s2
    have h2:=h.same Vv
    have Vw:H D2=none:=s1.free CJ
    have LG:∀ {B3 H3:Hp} {pB:Addr} {a:Addr} {u:HO},j1 B H2 B3 H3 x tA pA tA pB→H a=none→H2 a=some u→H3 a=some u:=fun {B3 H3 pB a u} m ha e=>m.k a u (nz h.hx ha) (nz h.ht ha) (nz h.hp ha) e
    refine ⟨_,rfl,D2,rfl,⟨_,aT.of zW⟩,gM (K:=K) (a:=D2) (xs:=ps.map V.ref) (fun i σ H3=>∃ (B3:Hp) (pB:Addr) (v4:Option V),σ=[some (.ref x),some (.ref cl),some (.ref D),some (.ref D2),v4]∧j1 B H2 B3 H3 x tA pA tA pB∧bE t.LinkEnd B3 H3 x tA pB (bL L (bs.take i)))
     ⟨B,pA,none,rfl,j1.refl,h2⟩ (fun i σ H3 _ ⟨_,_,_,_,m3,_⟩=>aT.of (LG m3 Vw zW)) ?_ ?_⟩
    ·rintro i v σ H3 hi ⟨B3,pB,v4,rfl,m3,h3⟩
     rw [List.getElem?_map] at hi
     cases ep:ps[i]? with
     | none=>rw [ep] at hi;cases hi
     | some p =>
      rw [ep] at hi
      cases hi
      have hib:i < bs.length:=by rw [← mr];exact (List.getElem?_eq_some_iff.mp ep).1
      have eb:bs[i]?=some bs[i]:=by simp [hib]
      generalize bs[i]=b at eb
      obtain ⟨DQ,MF⟩:=HF i p b ep eb
      have CI:=LG m3 DQ (s2 _ _ MF)
      have bb:=ZX b (List.mem_of_getElem? eb)
      have Q8:p≠pB:=by
       rcases m3.p with z | z
       ·rw [z];exact nz h.hp DQ
       ·exact aK (s2 _ _ MF) z
      have UX:=(HM L (bs.take i)).2
      rw [List.length_take] at UX
      obtain ⟨Nd,R0,Qz,_⟩:=h3.at_
      refine ⟨_,rfl,x,Nd,_,rfl,Qz,rfl,_,rfl,B3,x,tA,pB,p,_,b,rfl,h3,by omega,CI,bb,nz h.ht DQ,Q8,fun B4 H4 pC m4 h4=>?_⟩
      rw [← FP,← take_succ eb] at h4
      exact ⟨B4,pC,_,rfl,m3.trans m4,h4⟩
    ·rintro σ H3 ⟨B3,pB,v4,rfl,m3,h3⟩
     rw [List.length_map,mr,List.take_length] at h3
     have Vu:=(j1.of_same (B:=B) Vv).trans m3
     obtain ⟨Nd,R0,Qz,Xn⟩:=h3.at_
     have MD:=LG m3 Vw zW
     have tail:∀ (n:Int),(yc (bL L bs) bs).u=n→(Ja (Jl K (rq 0) (tC (.int n)) "unheard") (Ja (Tu (Sf (Sa (GQ (Rr WU (D6 K (rq 0) "known") (tC (V.int 0)))) (GQ (Rr (MA fun i j=>V.bl (decide (j≤i))) (D6 K (rq 0) "unheard") (D6 K (rq 0) "quiet"))))
       (Jb (GS t.LinkEnd "start_over" (lX t.LinkEnd) [] E0 (rq 0) zL)) Oa)) (Ja (A5 K (rq 0) (tC (V.int 1)) (Yq fun i j=>i+j) "done") (Sd (GS t.LinkEnd "cell_given" (lY t.LinkEnd) [] E0 (rq 0) zL))))) { nx:=fun x H'=>Q V.bH H',rt:=Q } [some (V.ref x),some (V.ref cl),some (V.ref D),some (V.ref D2),v4] H3:=fun n hn=>by
      refine ⟨_,rfl,x,t.LinkEnd,Nd,_,rfl,Qz,T.aI,T.nP,by show 11 < 1000;decide,?_⟩
      rw [FH]
      obtain ⟨h4,m4⟩:=h3.set (dx:=Nd) (pv:=R0) (L':=yc (bL L bs) bs) Xn rfl rfl
      have e4:cN (bL L bs).q (bL L bs).s (bL L bs).d n (bL L bs).b (bL L bs).k R0 tA pB (bL L bs).of (bL L bs).tk=(yc (bL L bs) bs).fld R0 tA pB:=by rw [← hn];rfl
      rw [e4]
      have Ug:=Vu.trans m4
      have ZY:(yc (bL L bs) bs).b=L.b:=Xa
      have l4k:xS (yc (bL L bs) bs):=⟨MB.k,MB.o,MB.t,MB.p⟩
      have l4e:(yc (bL L bs) bs).ev.length≤L.ev.length+3 * bs.length:=hb3
      have tk:kO L bs={ eY (yc (bL L bs) bs) with d:=(eY (yc (bL L bs) bs)).d+1 }:=rfl
      generalize yc (bL L bs) bs=L4 at *
      generalize upd H3 x (.ins t.LinkEnd Nd (L4.fld R0 tA pB))=H4 at *
      obtain ⟨R1,pv4,R3,aB8⟩:=h4.at_
      refine ⟨fun σ H'=>∃ B5 pC,σ=[some (V.ref x),some (V.ref cl),some (V.ref D),some (V.ref D2),v4]∧j1 B H B5 H' x tA pA tA pC∧bE t.LinkEnd B5 H' x tA pC (eY L4),?_,?_⟩
      ·refine ⟨_,rfl,x,t.LinkEnd,R1,_,_,rfl,R3,T.aI,T.iH,rF,rfl,_,rfl,?_⟩
       by_cases Vx:L4.k=0
       ·refine oZ (by rw [Vx]) (eS ?_)
        exact ⟨B3,pB,rfl,Ug,by unfold eY;rw [if_neg (fun z=>z.1 Vx)];exact h4⟩
       ·refine xw (fun z=>Vx (V.int.inj z)) ?_
        refine ⟨_,rfl,x,t.LinkEnd,R1,_,_,rfl,R3,T.aI,T.nP,Ar,_,rfl,x,t.LinkEnd,R1,_,_,rfl,R3,T.aI,T.yN,HA,_,_,rfl,rfl,_,rfl,?_⟩
        by_cases Q9:L4.q≤L4.u
        ·refine g7 Q9 ?_
         refine ⟨_,rfl,x,R1,_,rfl,R3,rfl,B3,x,tA,pB,L4,rfl,h4,by omega,fun B5 H5 pC m5 h5=>?_⟩
         exact ⟨B5,pC,rfl,Ug.trans m5,by unfold eY;rw [if_pos ⟨Vx,Q9⟩];exact h5⟩
        ·refine ie Q9 ?_
         exact ⟨B3,pB,rfl,Ug,by unfold eY;rw [if_neg (fun z=>Q9 z.2)];exact h4⟩
      ·rintro σ H5 ⟨B5,pC,rfl,m5,h5⟩
       have l5:HG (eY L4).b∧xS (eY L4):=by
        refine ⟨?_,LF l4k⟩
        unfold eY
        split
        ·rw [(Q7 L4).1,ZY]
         exact ⟨by omega,by omega⟩
        ·rw [ZY]
         exact ⟨by omega,by omega⟩
       generalize eY L4=L5 at *
       obtain ⟨ME,Ui,R4,Xo⟩:=h5.at_
       refine ⟨_,rfl,x,t.LinkEnd,ME,_,_,rfl,R4,T.aI,T.xR,FG,_,_,rfl,rfl,ME,_,R4,by show 11 < 1000;decide,?_⟩
       rw [NQ]
       obtain ⟨h6,m6⟩:=h5.set (dx:=ME) (pv:=Ui) (L':={ L5 with d:=L5.d+1 }) Xo rfl rfl
       have h6:bE t.LinkEnd B5 (upd H5 x (.ins t.LinkEnd ME (cN L5.q L5.s (L5.d+1) L5.u L5.b L5.k Ui tA pC L5.of L5.tk))) x tA pC { L5 with d:=L5.d+1 }:=h6
       have m6:j1 B5 H5 B5 (upd H5 x (.ins t.LinkEnd ME (cN L5.q L5.s (L5.d+1) L5.u L5.b L5.k Ui tA pC L5.of L5.tk))) x tA pC tA pC:=m6
       generalize upd H5 x (.ins t.LinkEnd ME (cN L5.q L5.s (L5.d+1) L5.u L5.b L5.k Ui tA pC L5.of L5.tk))=H6 at *
       have ZZ:=m5.trans m6
       obtain ⟨Xp,pv6,Xq,_⟩:=h6.at_
       have gl6:LB { L5 with d:=L5.d+1 }:=(xS.give (L:=L5) l5.2 l5.1)
       refine ⟨_,rfl,x,Xp,_,rfl,Xq,rfl,B5,x,tA,pC,_,rfl,h6,gl6,fun p H7 hp s7 e7=>?_⟩
       rw [tk] at q
       exact q B5 H7 pC p (ZZ.same s7) (h6.same s7) (ZZ.g p hp) (h6.sb.free hp) (fun z=>h6.hp (by rw [← z];exact hp)) e7
     refine ⟨_,rfl,_,.inl ⟨_,aT.of MD,rfl⟩,?_⟩
     by_cases JP:bs=[]
     ·have Xr:ps=[]:=List.length_eq_zero_iff.mp (by rw [mr,JP];rfl)
      rw [Xr]
      refine eS ?_
      refine ⟨_,rfl,x,t.LinkEnd,Nd,_,_,rfl,Qz,T.aI,T.nP,Ar,_,_,rfl,rfl,?_⟩
      exact tail _ (if_pos JP)
     ·have Xr:(!(ps.map V.ref).isEmpty)=true:=by
       cases ps with
       | nil=>exact absurd (List.length_eq_zero_iff.mp mr.symm) JP
       | cons a r=>rfl
      rw [Xr]
      refine ja ?_
      exact tail _ (if_neg JP)
def RA (q s:Int):Lk:=⟨q,s,0,0,1,0,none,[],[],0,0⟩
theorem Nm:aP ["self","measure","side"] ["self","measure","side"] (aG vU):=⟨rfl,rfl,rfl,by decide +kernel,rfl,by decide +kernel,by decide +kernel⟩
def Bj (K:PySem.W.Frag) (C Bm:Addr):Sp:=fun vs H Q E=>∃ (x dx ma:Addr) (a b sd:Int),vs=[.ref x,.ref ma,.int sd]∧H x=some (.ins C dx [])∧jZ K H ma [.int a,.int b]∧a.natAbs < 2 ^ 1000∧b.natAbs < 2 ^ 1000∧((¬ O0 a b∧E (.ref Bm) none H)∨(O0 a b∧∃ B:Hp,aJ B H∧B x=none ∧
 ∀ (tA pA:Addr) (H':Hp),(∀ y o,y≠x→H y=some o→H' y=some o)→(∀ y,H' y=none→H y=none)→H tA=none→H pA=none→bE C B H' x tA pA (RA (a+b) sd)→Q .bH H'))
theorem Nn {fd DI:FuncData} (T:Txt K mg t) (F:mI K "__init__" "LinkEnd.__init__" vU t.init fd) (sk:Def P w K mg base 3 "quiet_of" ["measure"] (wb K t.BadMeasure)) (cB:bO P w K mg base (ic P w) 1 t.cA DI ["self"] (iu t.LinkEnd)) (cC:Binds K DI ["self"] []) :
  bO P w K mg base (ic P w) 4 t.init fd ["self","measure","side"] (Bj K t.LinkEnd t.BadMeasure)∧Binds K fd ["self","measure","side"] []:=by
 refine ⟨F.sG Nm (fun vs H Q E h=>?_) (fun f bM A outer s H vs Q E hr h=>?_),F.binds fun _ _ _ _ _ _ us hl=>match us,hl with | [_,_,_],_=>rfl⟩
 ·obtain ⟨x,dx,ma,a,b,sd,rfl,_⟩:=h
  rfl
 ·obtain ⟨x,dx,ma,a,b,sd,rfl,hx,Ul,za,zb,hq⟩:=h
  refine ⟨_,aC (bX K (pv 0) (aZ (sk.mono (by decide)) hr (mJ ax) (aA (pv 1) aD)) (by rfl)) (aC (bX K (pv 0) (pv 2) (by rfl)) (aC (bX K (pv 0) aF (by rfl)) (aC (bX K (pv 0) aF (by rfl)) (aC (bX K (pv 0) aF (by rfl)) (aC (bX K (pv 0) (aS T.rB) (by rfl)) (aC (bX K (pv 0) eO (by rfl)) (aC (bX K (pv 0) (ai aD) (by rfl))
   (aH (ar (a8 (pv 0) T.aI T.mY (cB.mono (by decide)) hr cC .nil aX)))))))))),?_⟩
  refine ⟨_,rfl,ma,a,b,rfl,Ul,za,zb,fun hm=>?_,fun z=>?_⟩
  rotate_left
  ·rcases hq with ⟨_,q⟩ | ⟨hm,_⟩
   ·exact q
   ·exact absurd hm z
  obtain ⟨_,B,sB,bx,q⟩:=hq.resolve_left fun y=>y.1 hm
  refine ⟨_,rfl,x,t.LinkEnd,dx,_,rfl,hx,T.aI,T.yN,by show 0 < 1000;decide,?_⟩
  refine ⟨_,rfl,_,rfl,x,t.LinkEnd,dx,_,rfl,aB,T.aI,T.G6,by show 1 < 1000;decide,?_⟩
  rw [jv]
  refine ⟨_,rfl,x,t.LinkEnd,dx,_,rfl,aB,T.aI,T.xR,by show 2 < 1000;decide,?_⟩
  rw [jv]
  refine ⟨_,rfl,x,t.LinkEnd,dx,_,rfl,aB,T.aI,T.nP,by show 3 < 1000;decide,?_⟩
  rw [jv]
  refine ⟨_,rfl,x,t.LinkEnd,dx,_,rfl,aB,T.aI,T.mX,by show 4 < 1000;decide,?_⟩
  rw [jv]
  refine ⟨_,rfl,x,t.LinkEnd,dx,_,rfl,aB,T.aI,T.iH,by show 5 < 1000;decide,?_⟩
  rw [jv]
  refine ⟨_,rfl,x,t.LinkEnd,dx,_,rfl,aB,T.aI,T.iI,by show 6 < 1000;decide,?_⟩
  rw [jv]
  refine ⟨zz0,fun tA Vy=>?_⟩
  have Qy:x≠tA:=fun z=>by rw [← z,aB] at Vy;cases Vy
  have Um:H tA=none:=by rw [aE (Ne.symm Qy)] at Vy;exact Vy
  refine ⟨_,rfl,x,t.LinkEnd,dx,_,rfl,by rw [aE Qy];exact aB,T.aI,T.nQ,by show 7 < 1000;decide,?_⟩
  refine ⟨_,rfl,x,dx,_,rfl,aB,rfl,x,dx,_,rfl,aB,by show 8 < 900;decide,fun pA R7=>?_⟩
  have NT:x≠pA:=fun z=>by rw [← z,aB] at R7;cases R7
  have UZ:tA≠pA:=fun z=>by rw [← z,aE (Ne.symm Qy),aB] at R7;cases R7
  have MF:H pA=none:=by rw [aE (Ne.symm NT),aE (Ne.symm UZ),aE (Ne.symm NT)] at R7;exact R7
  refine q tA pA _ (fun y o n e=>?_) (fun y hy=>?_) Um MF ⟨?_,bx,sB.free Um,sB.free MF,⟨dx,.bH,aB,rfl⟩,⟨fun _=>0,?_,fun y e he=>by cases he⟩,⟨fun _=>0,?_,fun y e he=>by cases he⟩,UZ⟩
  ·rw [aE n,aE (aK e MF),aE n,aE (aK e Um),aE n];exact e
  ·by_cases z1:y=x
   ·rw [z1,aB] at hy;cases hy
   ·by_cases z2:y=pA
    ·rw [z2];exact MF
    ·by_cases z3:y=tA
     ·rw [z3];exact Um
     ·rw [aE z1,aE z2,aE z1,aE z3,aE z1] at hy;exact hy
  ·intro y o e
   have n:y≠x:=fun z=>by rw [z,bx] at e;cases e
   have e:=sB _ _ e
   rw [aE n,aE (aK e MF),aE n,aE (aK e Um),aE n];exact e
  ·rw [aE (Ne.symm Qy),aE UZ,aE (Ne.symm Qy)];exact aB
  ·rw [aE (Ne.symm NT)];exact aB
def ye (ns:List Int):Prop:=(1≤ns.length∧ns.length≤10)∧∀ n ∈ ns,Ig n
def rk (K:PySem.W.Frag) (C:Addr):Sp:=fun vs H Q E=>∃ (l:Addr) (ns:List Int),vs=[.ref l]∧aT K H l (ns.map V.int)∧(∀ n ∈ ns,n.natAbs < 2 ^ 1000)∧(ye ns→Q .bH H)∧(¬ ye ns→E (.ref C) none H)
theorem rm:aP ["piece","sign"] ["piece"] (aG jz):=⟨rfl,rfl,rfl,by decide +kernel,rfl,by decide +kernel,by decide +kernel⟩
theorem zk (F:aO K mg "look_piece" jz) (T:Txt K mg t) (il:Def P w K mg base 1 "is_sign" ["number"] nS):Def P w K mg base 2 "look_piece" ["piece"] (rk K t.BadPiece):=by
 refine F.def rm (fun _ _ _ _ _ _ us hl=>match us,hl with | [_],_=>rfl) (fun vs H Q E h=>?_) (fun f bM A outer s H vs Q E hr h=>?_)
 ·obtain ⟨l,ns,rfl,_⟩:=h
  rfl
 ·obtain ⟨l,ns,rfl,hl,hb,q1,q2⟩:=h
  refine ⟨_,aC (bG (mq (uJ uI uI aF (bQ (bP K) (by rfl) T.kH boot_len (aA (pv 0) aD)) (aS T.pS)))
    (aH (gN ax rfl rfl T.vX T.An PySem.F.excBase_ValueError (aA (lB (bJ cR (bJ (gz (aS T.pS)) (bJ cR pN)))) aD)))
    (aj))
   (aH (cT (QQ ax) rfl (bK K (pv 0)) (ak (i:=1) rm.nd rfl (Or.inl rfl))
    (aH (bG (mq (pF (aZ (il.mono (by decide)) hr aX (aA (pv 1) aD))))
     (aH (gN ax rfl rfl T.vX T.An PySem.F.excBase_ValueError (aA (lB (bJ (gz (pv 1)) (bJ cR pN))) aD)))
     (aj))))),?_⟩
  have sl:(3000:Nat)≤sizeLine:=by decide
  have z10:=iJ (i:=10) (by decide)
  have l1:("a piece has 1 to ":Str).length=17:=by decide +kernel
  have l2:(" signs":Str).length=6:=by decide +kernel
  have e0:(Str.empty ++ ("a piece has 1 to ":Str)).length≤17:=by rw [strLen_append,l1];show 0+17≤17;omega
  have e1:((Str.empty ++ ("a piece has 1 to ":Str)) ++ Str.ofString (toString (10:Int))).length≤1018:=by rw [strLen_append];omega
  have e2:(((Str.empty ++ ("a piece has 1 to ":Str)) ++ Str.ofString (toString (10:Int))) ++ (" signs":Str)).length≤1024:=by rw [strLen_append];omega
  refine ⟨_,rfl,l,_,rfl,.inl hl,_,_,rfl,rfl,_,rfl,?_⟩
  rw [List.length_map]
  by_cases h1:(1:Int)≤(ns.length:Nat)
  ·refine g7 h1 ?_
   refine ⟨_,_,rfl,rfl,_,rfl,?_⟩
   by_cases h2:((ns.length:Nat):Int)≤10
   ·rw [decide_eq_true h2]
    refine eS ?_
    refine ⟨_,rfl,l,rfl,⟨_,hl⟩,gM (K:=K) (a:=l) (xs:=ns.map V.int) (fun i σ H'=>∃ x:Option V,σ=[some (.ref l),x]∧H'=H∧∀ n ∈ ns.take i,Ig n) ⟨none,rfl,rfl,fun n hn=>by simp at hn⟩ (fun i σ H' _ ⟨_,_,e,_⟩=>by rw [e];exact hl) ?_ ?_⟩
    ·rintro i y σ H' hi ⟨x,rfl,rfl,ha⟩
     obtain ⟨z,hz,rfl⟩:=lC hi
     have Qp:z ∈ ns:=List.mem_of_getElem? hz
     refine ⟨_,rfl,z,rfl,_,rfl,?_⟩
     by_cases h0:0≤z∧z < 97
     ·rw [decide_eq_true h0]
      refine eS ⟨some (.int z),rfl,rfl,?_⟩
      rw [take_succ hz]
      intro n hn
      rcases List.mem_append.mp hn with z1 | z1
      ·exact ha n z1
      ·rw [List.mem_singleton.mp z1];exact h0
     ·rw [decide_eq_false h0]
      refine ja ?_
      have ZJ:=iJ (hb z Qp)
      have f0:(Str.empty ++ Str.ofString (toString z)).length≤1001:=by rw [strLen_append];show 0+_≤1001;omega
      have f1:((Str.empty ++ Str.ofString (toString z)) ++ (" is no sign":Str)).length≤2000:=by
       have:(" is no sign":Str).length=11:=by decide +kernel
       rw [strLen_append];omega
      refine ⟨_,rfl,z,rfl,df (hb z Qp) (by decide) (by decide),_,rfl,by omega,_,rfl,by omega,by omega,?_⟩
      exact ⟨zz1,q2 fun r=>h0 (r.2 z Qp)⟩
    ·rintro σ H' ⟨x,rfl,rfl,ha⟩
     rw [List.length_map,List.take_length] at ha
     exact q1 ⟨⟨by omega,by omega⟩,ha⟩
   ·rw [decide_eq_false h2]
    refine ja ?_
    refine ⟨_,rfl,by omega,10,rfl,df (n:=1000) (by decide) (by decide) (by decide),_,rfl,by omega,_,rfl,by omega,by omega,?_⟩
    exact ⟨zz1,q2 fun r=>h2 (by have:=r.1.2;omega)⟩
  ·refine ie h1 ?_
   refine ⟨_,rfl,ja ?_⟩
   refine ⟨_,rfl,by omega,10,rfl,df (n:=1000) (by decide) (by decide) (by decide),_,rfl,by omega,_,rfl,by omega,by omega,?_⟩
   exact ⟨zz1,q2 fun r=>h1 (by have:=r.1.1;omega)⟩
def LH (K:PySem.W.Frag) (C N Bp:Addr):Sp:=fun vs H Q E=>∃ (B:Hp) (x tA pA l:Addr) (L:Lk) (ns:List Int),vs=[.ref x,.ref l]∧bE C B H x tA pA L∧L.bR.length < 1000000∧aT K H l (ns.map V.int)∧(∀ n ∈ ns,n.natAbs < 2 ^ 1000) ∧
 (L.p=none→E (.ref N) none H)∧(L.p≠none→¬ ye ns→E (.ref Bp) none H)∧(L.p≠none→ye ns→∀ B' H',j1 B H B' H' x tA pA tA pA→bE C B' H' x tA pA { L with bR:=L.bR ++ [ns] }→Q .bH H')
theorem RB:aP ["self","piece"] ["self","piece"] (aG Ak):=⟨rfl,rfl,rfl,by decide +kernel,rfl,by decide +kernel,by decide +kernel⟩
theorem RC {fd:FuncData} (T:Txt K mg t) (F:mI K "put" "LinkEnd.put" Ak t.Cq fd) (nk:Def P w K mg base 2 "look_piece" ["piece"] (rk K t.BadPiece)) :
  bO P w K mg base (ic P w) 3 t.Cq fd ["self","piece"] (LH K t.LinkEnd t.NoLink t.BadPiece)∧Binds K fd ["self","piece"] []:=by
 refine ⟨F.sG RB (fun vs H Q E h=>?_) (fun f bM A outer s H vs Q E hr h=>?_),F.binds fun _ _ _ _ _ _ us hl=>match us,hl with | [_,_],_=>rfl⟩
 ·obtain ⟨B,x,tA,pA,l,L,ns,rfl,_⟩:=h
  rfl
 ·obtain ⟨B,x,tA,pA,l,L,ns,rfl,h,hlen,hl,hb,q1,q2,q3⟩:=h
  refine ⟨_,aC (bG (aV A4 (ah K (pv 0) (by rfl)) eO (aa _))
    (aH (gN ax rfl rfl T.Gx T.ND PySem.F.excBase_ValueError (aA cR aD)))
    (aj))
   (aC (ar (aZ (nk.mono (by decide)) hr (mJ ax) (aA (pv 1) aD)))
   (aH (ar (kA K PySem.F.plainAttrs_list PySem.F.slot_list_append PySem.F.type_list_append ba (ah K (pv 0) (by rfl)) (aA (ib (ij K) (by rfl) T.sQ boot_list (aA (pv 1) aD)) aD))))),?_⟩
  have qt:(1000001:Nat)≤sizeLine:=by decide
  obtain ⟨dx,pv,hx,hp⟩:=h.at_
  obtain ⟨iX,g3,yW⟩:=h.bR
  refine ⟨_,rfl,x,t.LinkEnd,dx,_,_,rfl,hx,T.aI,T.iI,qD,rfl,_,rfl,?_⟩
  cases ep:L.p with
  | none =>
   rw [ep] at hp
   have hp:pv=.bH:=hp
   subst hp
   refine g7 rfl ?_
   exact ⟨zz1,q1 ep⟩
  | some p =>
   have hn:L.p≠none:=by rw [ep];exact fun z=>by cases z
   rw [ep] at hp
   obtain ⟨pa,rfl,G9⟩:=hp
   refine ie (fun z=>by cases z) ?_
   refine ⟨_,rfl,l,ns,rfl,hl,hb,fun Qs=>?_,fun z=>q2 hn z⟩
   refine ⟨_,rfl,x,t.LinkEnd,dx,_,_,rfl,hx,T.aI,T.ik,mh,.inl ⟨rfl,_,aT.of g3⟩,?_⟩
   refine ⟨_,rfl,l,_,rfl,.inl hl,fun c hc=>?_⟩
   have s1:aJ H (upd H c (.lst (ns.map V.int))):=(aJ.refl _).new hc
   obtain ⟨h1,m1⟩:=h.grow (o:=.lst (ns.map V.int)) s1 hc aB
   refine ⟨pA,_,_,rfl,rfl,s1 _ _ g3,by rw [aL];omega,?_⟩
   have bc:(upd B c (.lst (ns.map V.int))) c=some (.lst (ns.map V.int)):=aB
   have g31:=s1 _ _ g3
   generalize upd H c (.lst (ns.map V.int))=H1 at *
   have sB:=m1.bb
   generalize upd B c (.lst (ns.map V.int))=B1 at *
   obtain ⟨yY,NW,xv,zV⟩:=h1.at_
   obtain ⟨kz,g2,Ds⟩:=h1.told
   rw [fQ]
   refine q3 hn Qs B1 _ (m1.trans ⟨aJ.refl _,fun _ _ z=>z,fun y o _ _ n3 e=>by rw [aE n3];exact e,fun b hb=>kL hb h1.hp,.inl rfl,.inl rfl⟩) ⟨h1.sb.put h1.bp,h1.bx,h1.bt,h1.bp,⟨yY,NW,by rw [aE h.xp];exact xv,zV⟩,⟨kz,by rw [aE h.ne];exact g2,Ds⟩,⟨fun k=>if k=L.bR.length then c else iX k,?_,fun y xs hy=>?_⟩,h.ne⟩
   ·rw [aB]
    show some (HO.lst (bN (L.bR.length+1) _))=some (HO.lst (bN (L.bR ++ [ns]).length _))
    rw [List.length_append];rfl
   ·have hy:(L.bR ++ [ns])[y]?=some xs:=hy
    by_cases z:y=L.bR.length
    ·rw [z,List.getElem?_append_right (Nat.le_refl _),Nat.sub_self] at hy
     cases hy
     simp only [z,if_true]
     exact bc
    ·have UY:y < (L.bR ++ [ns]).length:=(List.getElem?_eq_some_iff.mp hy).1
     rw [List.length_append] at UY
     have Xg:y < L.bR.length:=by simp at UY;omega
     rw [List.getElem?_append_left Xg] at hy
     simp only [z,if_false]
     exact sB _ _ (yW y xs hy)
def jf:Sp:=fun vs H Q _=>∃ (c:Int) (m:Nat),vs=[.int c,.int (m:Int)]∧m≤100∧∀ (r:Addr) (H':Hp) (ns:List Int),aJ H H'→H r=none→H' r=some (.lst (ns.map V.int))→ns.length=m→(∀ n ∈ ns,0≤n∧n < 1000000000)→Q (.ref r) H'
theorem cD:aP ["cell","many","told","left","k","stir"] ["cell","many"] (aG hZ):=⟨rfl,rfl,rfl,by decide +kernel,rfl,by decide +kernel,by decide +kernel⟩
theorem xC (F:aO K mg "_law_numbers" hZ) (T:Txt K mg t):Def P w K mg base 1 "_law_numbers" ["cell","many"] jf:=by
 refine F.def cD (fun _ _ _ _ _ _ us hl=>match us,hl with | [_,_],_=>rfl) (fun vs H Q E h=>?_) (fun f bM A outer s H vs Q E hr h=>?_)
 ·obtain ⟨c,m,rfl,_⟩:=h
  rfl
 ·obtain ⟨c,m,rfl,hm,q⟩:=h
  refine ⟨_,aC (aR (i:=2) cD.nd rfl (Or.inl rfl) (ai aD))
   (aC (aR (i:=3) cD.nd rfl (Or.inl rfl) (pv 0))
   (aC (PS.A2 (cT PassesOwn.never rfl (cS (by rfl) T.dB (aA (pv 1) aD)) (ak (i:=4) cD.nd rfl (Or.inl rfl))
    (aH (bG (aV Oc (pv 3) (aN Po aF aF) (aa _))
     (aC (ar (kA K PySem.F.plainAttrs_list PySem.F.slot_list_append PySem.F.type_list_append ba (pv 2) (aA (aN az (pv 3) aF) aD)))
     (aH (aR (i:=3) cD.nd rfl (Or.inl rfl) (aN jN (pv 3) aF))))
     (aC (aR (i:=5) cD.nd rfl (Or.inl rfl) (aN az (aN ff (aN bj (aN bj (aN az (pv 0) aF) (aN ff aF (pv 4))) aF) aF) aF))
     (aH (ar (kA K PySem.F.plainAttrs_list PySem.F.slot_list_append PySem.F.type_list_append ba (pv 2) (aA (aN jN (aN az (aN ff (pv 5) (pv 5)) aF) aF) aD)))))))))
   (aH (aY (pv 2))))),?_⟩
  have qt:(2000:Nat)≤sizeLine:=by decide
  refine ⟨zz0,fun L hL=>?_⟩
  refine ⟨_,rfl,?_⟩
  refine ⟨_,rfl,(m:Int),rfl,by omega,by omega,?_⟩
  rw [Int.toNat_natCast]
  refine gs (lo:=0) (n:=m) (fun i σ H2=>∃ (left:Int) (ns:List Int) (v4 v5:Option V),σ=[some (.int c),some (.int (m:Int)),some (.ref L),some (.int left),v4,v5]∧aJ H H2∧H2 L=some (.lst (ns.map V.int))∧ns.length=i∧∀ n ∈ ns,0≤n∧n < 1000000000)
   ⟨c,[],none,none,rfl,(aJ.refl _).new hL,aB,rfl,fun n hn=>by cases hn⟩ ?_ ?_
  ·rintro i σ H2 hi ⟨left,ns,v4,v5,rfl,s2,h2,hl,hn⟩
   have bnd:∀ x:Int,x % 998244353 / 7 < 1000000000:=fun x=>by omega
   have push:∀ (x:Int),0≤x∧x < 1000000000→(aJ H (upd H2 L (.lst (ns.map V.int ++ [V.int x])))∧(upd H2 L (.lst (ns.map V.int ++ [V.int x]))) L=some (.lst ((ns ++ [x]).map V.int))∧(ns ++ [x]).length=i+1∧∀ n ∈ ns ++ [x],0≤n∧n < 1000000000):=fun x hx=>⟨s2.put hL,by rw [aB,List.map_append];rfl,by rw [List.length_append,hl];rfl,fun n Rq=>by
    rcases List.mem_append.mp Rq with h | h
    ·exact hn n h
    ·rw [List.mem_singleton] at h;rw [h];exact hx⟩
   refine ⟨_,rfl,_,_,rfl,rfl,⟨by decide,by decide,by decide⟩,_,_,rfl,rfl,_,rfl,?_⟩
   refine QB (fun h=>?_) (fun h=>?_)
   ·refine ⟨_,rfl,.inl ⟨rfl,_,aT.of h2⟩,_,rfl,_,_,rfl,rfl,(by show (0:Int) < 1000003;decide),L,_,_,rfl,rfl,h2,by rw [List.length_map];omega,?_⟩
    refine ⟨_,rfl,_,_,rfl,rfl,⟨by decide,by decide⟩,?_⟩
    exact ⟨_,_,_,_,rfl,push _ ⟨Int.emod_nonneg _ (by decide),Int.lt_trans (Int.emod_lt_of_pos _ (by decide)) (show (1000003:Int) < 1000000000 by decide)⟩⟩
   ·refine ⟨_,rfl,_,_,rfl,rfl,(by show (0:Int) < 2147483647;decide),_,rfl,_,_,rfl,rfl,.inl ⟨by decide,by decide⟩,_,_,rfl,rfl,_,_,rfl,rfl,_,_,rfl,rfl,.inr ⟨by decide,by decide⟩,_,_,rfl,rfl,(by show (0:Int) < 2147483647;decide),?_⟩
    generalize hN:(c % 2147483647+7919 * (0+(i:Nat))+1) * 69621 % 2147483647=N
    have hN1:0≤N:=by rw [← hN];exact Int.emod_nonneg _ (by decide)
    have US:N < 2147483647:=by rw [← hN];exact Int.emod_lt_of_pos _ (by decide)
    refine ⟨_,rfl,.inl ⟨rfl,_,aT.of h2⟩,_,rfl,_,rfl,_,_,rfl,rfl,.inl ⟨by omega,by omega⟩,_,_,rfl,rfl,(by show (0:Int) < 998244353;decide),_,_,rfl,rfl,⟨by decide,by decide⟩,L,_,_,rfl,rfl,h2,by rw [List.length_map];omega,?_⟩
    exact ⟨_,_,_,_,rfl,push _ ⟨Int.ediv_nonneg (Int.emod_nonneg _ (by decide)) (by decide),bnd _⟩⟩
  ·rintro σ H2 ⟨left,ns,v4,v5,rfl,s2,h2,hl,hn⟩
   exact ⟨_,rfl,q L H2 ns s2 hL h2 hl hn⟩
def uu (K:PySem.W.Frag):Sp:=fun vs H Q _=>∃ (l:Addr) (ns:List Int) (k:Int),vs=[.ref l,.int k]∧aT K H l (ns.map V.int)∧0≤k∧∀ c:Int,Q (.int c) H
theorem Bk:aP ["script","k"] ["script","k"] (aG lK):=⟨rfl,rfl,rfl,by decide +kernel,rfl,by decide +kernel,by decide +kernel⟩
theorem Bl (F:aO K mg "_law_cell" lK) (T:Txt K mg t):Def P w K mg base 1 "_law_cell" ["script","k"] (uu K):=by
 refine F.def Bk (fun _ _ _ _ _ _ us hl=>match us,hl with | [_,_],_=>rfl) (fun vs H Q E h=>?_) (fun f bM A outer s H vs Q E hr h=>?_)
 ·obtain ⟨l,ns,k,rfl,_⟩:=h
  rfl
 ·obtain ⟨l,ns,k,rfl,hl,k0,q⟩:=h
  refine ⟨_,aC (bG (aV AU (pv 1) (bQ (bP K) (by rfl) T.kH boot_len (aA (pv 0) aD)) (aa _))
    (aH (aY (ag (aM K) (pv 0) (pv 1) (fun _ _=>rfl))))
    (aj))
   (aH (aY aF)),?_⟩
  refine ⟨_,rfl,_,rfl,l,_,rfl,.inl hl,_,_,rfl,rfl,_,rfl,?_⟩
  by_cases z:k < ((ns.map V.int).length:Nat)
  ·refine g7 z ?_
   rw [List.length_map] at z
   obtain ⟨j,rfl⟩:∃ j:Nat,k=j:=⟨k.toNat,by omega⟩
   have hj:j < ns.length:=by omega
   exact ⟨_,rfl,_,rfl,l,_,_,V.int ns[j],rfl,rfl,hl,jw (by simp [hj]),q _⟩
  ·exact ie z (q 0)
theorem bE.mv {C:Addr} {B H B' H':Hp} {x tA pA:Addr} {L:Lk} (h:bE C B H x tA pA L) (sb:aJ B' H') (bb:aJ B B') (no:∀ a,H a≠none→B a=none→B' a=none) (kx:∀ o,H x=some o→H' x=some o) (kt:∀ o,H tA=some o→H' tA=some o) (kp:∀ o,H pA=some o→H' pA=some o):bE C B' H' x tA pA L:=by
 obtain ⟨dx,pv,g,gp⟩:=h.at_
 obtain ⟨kz,g2,Ds⟩:=h.told
 obtain ⟨iX,g3,yW⟩:=h.bR
 exact ⟨sb,no _ h.hx h.bx,no _ h.ht h.bt,no _ h.hp h.bp,⟨dx,pv,kx _ g,gp.mono bb⟩,⟨kz,kt _ g2,fun y e he=>(Ds y e he).mono bb⟩,⟨iX,kp _ g3,fun y xs hy=>bb _ _ (yW y xs hy)⟩,h.ne⟩
def at2 {α:Type} (f:Nat→α) (s:Nat) (v:α):Nat→α:=fun i=>if i=s then v else f i
theorem ay {α:Type} {f:Nat→α} {s:Nat} {v:α}:at2 f s v s=v:=if_pos rfl
theorem bY {α:Type} {f:Nat→α} {s i:Nat} {v:α} (h:i≠s):at2 f s v i=f i:=if_neg h
structure Il (o:HO):Prop where
 t:∀ xs,o≠.tup xs
 f:∀ a u,o≠.Df a u
theorem bu (xs:List V):Il (.lst xs):=⟨(fun _ z=>by cases z),(fun _ _ z=>by cases z)⟩
theorem qF {ρ:Addr→Nat} {a b:Addr} {i j:Nat} (ha:ρ a=i) (hb:ρ b=j) (h:i≠j):a≠b:=fun z=>h (by rw [← ha,← hb,z])
def jg {α:Type} (a b:α):Nat→α:=fun s=>if s=0 then a else b
theorem dC {q:Nat→Prop} (h0:q 0) (h1:q 1):∀ s,s < 2→q s:=fun s hs=>by
 match s,hs with
 | 0,_=>exact h0
 | 1,_=>exact h1
 | s+2,hs=>omega
theorem cV {f:Nat→Addr} {s:Nat} (h:s < 2):xJ [V.ref (f 0),V.ref (f 1)] (s:Int)=some (.ref (f s)):=by
 match s,h with
 | 0,_=>rfl
 | 1,_=>rfl
 | s+2,h=>omega
theorem yf {α:Type} {f:Nat→α} {s:Nat}:at2 f s (f s)=f:=funext fun i=>by
 by_cases z:i=s
 ·rw [z,ay]
 ·rw [bY z]
theorem Uo (x:V) (l:List V):xJ (x :: l) 0=some x:=by
 have h:(x :: l)[0]?=some x:=rfl
 exact jw h
theorem Xs (x y:V) (l:List V):xJ (x :: y :: l) 1=some y:=by
 have h:(x :: y :: l)[1]?=some y:=rfl
 exact jw h
theorem DS {B H:Hp} {l a:Addr} {ps:List (List Int)} {xs:List Int} (h:bq B H l ps) (ha:B a=some (.lst (xs.map V.int))):∃ iX:Nat→Addr,H l=some (.lst (bN ps.length iX))∧∀ H':Hp,H' l=some (.lst (bN ps.length iX ++ [.ref a]))→bq B H' l (ps ++ [xs]):=by
 obtain ⟨iX,g1,g2⟩:=h
 refine ⟨iX,g1,fun H' e=>⟨fun i=>if i=ps.length then a else iX i,?_,fun y ys hy=>?_⟩⟩
 ·rw [e,fQ,List.length_append];rfl
 ·show B (if y=ps.length then a else iX y)=_
  by_cases z:y < ps.length
  ·rw [if_neg (by omega)];rw [List.getElem?_append_left z] at hy;exact g2 y ys hy
  ·have jS:=(List.getElem?_eq_some_iff.mp hy).1
   rw [List.length_append] at jS
   have e:y=ps.length:=by simp at jS;omega
   rw [e,List.getElem?_append_right (Nat.le_refl _),Nat.sub_self] at hy
   cases hy
   rw [if_pos e];exact ha
theorem bq.same {B B' H H':Hp} {a:Addr} {ps:List (List Int)} (h:bq B H a ps) (bb:aJ B B') (e:∀ o,H a=some o→H' a=some o):bq B' H' a ps:=by
 obtain ⟨iX,g1,g2⟩:=h
 exact ⟨iX,e _ g1,fun y xs hy=>bb _ _ (g2 y xs hy)⟩
theorem LI {K:PySem.W.Frag} {H:Hp} {pv Xt:V} {p:Option (Int × Int)} {Q:VK} (h:wj H pv p) (h':wj H Xt p) (q:Q (.bl false) H):T6 K pv Xt H Q:=by
 cases p with
 | none =>
  have h:pv=.bH:=h
  have h':Xt=.bH:=h'
  subst h h'
  exact .inl ⟨rfl,q⟩
 | some p =>
  obtain ⟨a,rfl,g⟩:=h
  obtain ⟨a',rfl,g'⟩:=h'
  refine .inr ⟨a,a',_,_,rfl,rfl,jZ.of g,jZ.of g',fun j u v hu hv=>?_,q⟩
  match j,hu,hv with
  | 0,hu,hv=>cases hu;cases hv;exact .flat _ rfl
  | 1,hu,hv=>cases hu;cases hv;exact .flat _ rfl
  | j+2,hu,hv=>cases hu
def LJ (H:Hp) (d:Addr):Hp:=fun a=>if a=d then none else H a
theorem yg {H:Hp} {d:Addr}:aJ (LJ H d) H:=fun a o e=>by
 have e:(if a=d then none else H a)=some o:=e
 split at e
 ·cases e
 ·exact e
section
end
structure Tw (C:Addr) (B H E:Hp) (x tA pA:Nat→Addr) (L:Nat→Lk) (ρ:Addr→Nat):Prop where
 sb:aJ B H
 lk:∀ s,s < 2→bE C B H (x s) (tA s) (pA s) (L s)
 rx:∀ s,s < 2→ρ (x s)=10+s
 rt:∀ s,s < 2→ρ (tA s)=20+s
 rp:∀ s,s < 2→ρ (pA s)=30+s
 ee:aJ E H
 eb:∀ a,E a≠none→B a=none
 er:∀ a,E a≠none→ρ a=100
 en:∀ a o,E a=some o→Il o
section
variable {C:Addr} {B H B' H' E E':Hp} {x tA pA:Nat→Addr} {L:Nat→Lk} {ρ:Addr→Nat} {s:Nat}
theorem Tw.he (h:Tw C B H E x tA pA L ρ) {a:Addr} (hi:E a≠none):H a≠none:=fun z=>hi (h.ee.free z)
theorem Tw.same (h:Tw C B H E x tA pA L ρ) (e:aJ H H'):Tw C B H' E x tA pA L ρ :=
 ⟨h.sb.trans e,fun s hs=>(h.lk s hs).same e,h.rx,h.rt,h.rp,h.ee.trans e,h.eb,h.er,h.en⟩
theorem Tw.Xu {tB pB:Addr} {L':Lk} (h:Tw C B H E x tA pA L ρ) (hs:s < 2) (mv:j1 B H B' H' (x s) (tA s) (pA s) tB pB) (hl:bE C B' H' (x s) tB pB L') :
  ∃ ρ',Tw C B' H' E x (at2 tA s tB) (at2 pA s pB) (at2 L s L') ρ'∧∀ a,a≠tB→a≠pB→ρ' a=ρ a:=by
 have old:∀ {a:Addr} {i:Nat},ρ a=i→i≠10+s→i≠20+s→i≠30+s→∀ o,H a=some o→H' a=some o:=fun {a i} e n1 n2 n3 o g=>mv.k a o (qF e (h.rx s hs) n1) (qF e (h.rt s hs) n2) (qF e (h.rp s hs) n3) g
 have nt:∀ {a:Addr} {i:Nat},ρ a=i→i≠20+s→H a≠none→a≠tB:=fun {a i} e n1 g z=>by
  rcases mv.t with y | y
  ·exact qF e (h.rt s hs) n1 (z.trans y)
  ·exact g (by rw [z];exact y)
 have np:∀ {a:Addr} {i:Nat},ρ a=i→i≠30+s→H a≠none→a≠pB:=fun {a i} e n1 g z=>by
  rcases mv.p with y | y
  ·exact qF e (h.rp s hs) n1 (z.trans y)
  ·exact g (by rw [z];exact y)
 have rr:∀ {a:Addr} {i:Nat},ρ a=i→i≠20+s→i≠30+s→H a≠none→(fun b=>if b=tB then 20+s else if b=pB then 30+s else ρ b) a=i:=fun {a i} e n1 n2 g=>by
  show (if a=tB then 20+s else if a=pB then 30+s else ρ a)=i
  rw [if_neg (nt e n1 g),if_neg (np e n2 g)];exact e
 refine ⟨fun b=>if b=tB then 20+s else if b=pB then 30+s else ρ b,⟨hl.sb,?_,?_,?_,?_,fun a o e=>old (h.er a (by rw [e];exact fun z=>by cases z)) (by omega) (by omega) (by omega) _ (h.ee _ _ e),fun a hi=>mv.no _ (h.he hi) (h.eb a hi),fun a hi=>rr (h.er a hi) (by omega) (by omega) (h.he hi),h.en⟩,fun a h1 h2=>by show (if a=tB then 20+s else if a=pB then 30+s else ρ a)=ρ a;rw [if_neg h1,if_neg h2]⟩
 ·intro i hi
  by_cases z:i=s
  ·subst z;rw [ay,ay,ay];exact hl
  ·rw [bY z,bY z,bY z]
   exact (h.lk i hi).mv hl.sb mv.bb mv.no (old (h.rx i hi) (by omega) (by omega) (by omega)) (old (h.rt i hi) (by omega) (by omega) (by omega)) (old (h.rp i hi) (by omega) (by omega) (by omega))
 ·intro i hi
  exact rr (h.rx i hi) (by omega) (by omega) (h.lk i hi).hx
 ·intro i hi
  by_cases z:i=s
  ·subst z;rw [ay];exact if_pos rfl
  ·rw [bY z];exact rr (h.rt i hi) (by omega) (by omega) (h.lk i hi).ht
 ·intro i hi
  by_cases z:i=s
  ·subst z
   rw [ay]
   show (if pB=tB then 20+i else if pB=pB then 30+i else ρ pB)=_
   rw [if_neg (Ne.symm hl.ne),if_pos rfl]
  ·rw [bY z];exact rr (h.rp i hi) (by omega) (by omega) (h.lk i hi).hp
theorem Tw.grow {a:Addr} {o:HO} (h:Tw C B H E x tA pA L ρ) (s:aJ H H') (na:H a=none) (ea:H' a=some o) :
  Tw C (upd B a o) H' E x tA pA L ρ∧aJ B (upd B a o):=by
 have h1:=h.same s
 have sB:aJ B (upd B a o):=(aJ.refl _).new (h.sb.free na)
 have no:∀ b,H b≠none→B b=none→(upd B a o) b=none:=fun b hb e=>by rw [aE (fun z=>hb (by rw [z];exact na))];exact e
 have LK:aJ (upd B a o) H':=fun b u e=>by
  by_cases z:b=a
  ·rw [z] at e ⊢;rw [aB] at e;rw [ea];exact e
  ·rw [aE z] at e;exact h1.sb _ _ e
 exact ⟨⟨LK,fun i hi=>(h.lk i hi).mv LK sB no (fun o e=>s _ _ e) (fun o e=>s _ _ e) (fun o e=>s _ _ e),h.rx,h.rt,h.rp,h1.ee,fun a hi=>no _ (h.he hi) (h.eb a hi),h.er,h.en⟩,sB⟩
theorem Tw.chg (h:Tw C B H E x tA pA L ρ) (fr:∀ a o,E a=none→H a=some o→H' a=some o) (ee':aJ E' H') (nw:∀ a,E' a≠none→E a≠none∨H a=none) (en':∀ a o,E' a=some o→Il o):∃ ρ',Tw C B H' E' x tA pA L ρ':=by
 classical
 have ez:∀ {b:Addr} {k:Nat},ρ b=k→k < 100→E b=none:=fun {b k} q n1=>Classical.byContradiction fun z=>by have:=h.er b z;omega
 have old:∀ {b:Addr} {k:Nat},ρ b=k→k < 100→∀ u,H b=some u→H' b=some u:=fun {b k} q n1 u g=>fr b u (ez q n1) g
 have LK:aJ B H':=fun a o e=>fr a o (Classical.byContradiction fun z=>by rw [h.eb a z] at e;cases e) (h.sb _ _ e)
 have rr:∀ {b:Addr} {k:Nat},ρ b=k→k < 100→H b≠none→(if E' b≠none then 100 else ρ b)=k:=fun {b k} q n1 hb=>by
  rw [if_neg (fun z=>(nw b z).elim (fun y=>y (ez q n1)) hb)];exact q
 exact ⟨fun a=>if E' a≠none then 100 else ρ a,LK,fun i hi=>(h.lk i hi).mv LK (aJ.refl _) (fun _ _ z=>z) (old (h.rx i hi) (by omega)) (old (h.rt i hi) (by omega)) (old (h.rp i hi) (by omega)),
  fun i hi=>rr (h.rx i hi) (by omega) (h.lk i hi).hx,fun i hi=>rr (h.rt i hi) (by omega) (h.lk i hi).ht,fun i hi=>rr (h.rp i hi) (by omega) (h.lk i hi).hp,ee',fun a ha=>(nw a ha).elim (h.eb a) h.sb.free,fun a ha=>if_pos ha,en'⟩
theorem Tw.put {a:Addr} {o:HO} (h:Tw C B H E x tA pA L ρ) (ha:E a≠none) (no:Il o):∃ ρ',Tw C B (upd H a o) (upd E a o) x tA pA L ρ':=by
 refine h.chg (fun b u hb e=>by rw [aE (fun z=>ha (by rw [← z];exact hb))];exact e) (fun b u e=>?_) (fun b hb=>?_) (fun b u e=>?_)
 ·by_cases z:b=a
  ·rw [z,aB] at e;rw [z,aB];exact e
  ·rw [aE z] at e ⊢;exact h.ee _ _ e
 ·by_cases z:b=a
  ·rw [z];exact .inl ha
  ·rw [aE z] at hb;exact .inl hb
 ·by_cases z:b=a
  ·rw [z,aB] at e;cases e;exact no
  ·rw [aE z] at e;exact h.en _ _ e
theorem Tw.new {a:Addr} {o:HO} (h:Tw C B H E x tA pA L ρ) (ha:H a=none) (no:Il o):∃ ρ',Tw C B (upd H a o) (upd E a o) x tA pA L ρ':=by
 refine h.chg (fun b u hb e=>by rw [aE (fun z=>by rw [z,ha] at e;cases e)];exact e) (fun b u e=>?_) (fun b hb=>?_) (fun b u e=>?_)
 ·by_cases z:b=a
  ·rw [z,aB] at e;rw [z,aB];exact e
  ·rw [aE z] at e ⊢;exact h.ee _ _ e
 ·by_cases z:b=a
  ·rw [z];exact .inr ha
  ·rw [aE z] at hb;exact .inl hb
 ·by_cases z:b=a
  ·rw [z,aB] at e;cases e;exact no
  ·rw [aE z] at e;exact h.en _ _ e
theorem Tw.re (h:Tw C B H E x tA pA L ρ) {L':Nat→Lk} (hL:∀ s,s < 2→L' s=L s):Tw C B H E x tA pA L' ρ :=
 ⟨h.sb,fun s hs=>by rw [hL s hs];exact h.lk s hs,h.rx,h.rt,h.rp,h.ee,h.eb,h.er,h.en⟩
end
theorem Tw.O9 {C:Addr} {B H E:Hp} {x tA pA:Nat→Addr} {L:Nat→Lk} {ρ:Addr→Nat} {p:Addr} {o:HO} (h:Tw C B H E x tA pA L ρ) (hp:H p=some o) (hb:B p=none) (n1:∀ s,s < 2→p≠x s∧p≠tA s∧p≠pA s) (n3:E p=none) :
  Tw C (upd B p o) H E x tA pA L ρ∧aJ B (upd B p o):=by
 have sB:aJ B (upd B p o):=(aJ.refl _).new hb
 have LK:aJ (upd B p o) H:=fun b u e=>by
  by_cases z:b=p
  ·rw [z] at e ⊢;rw [aB] at e;rw [hp];exact e
  ·rw [aE z] at e;exact h.sb _ _ e
 refine ⟨⟨LK,fun i hi=>?_,h.rx,h.rt,h.rp,h.ee,fun a ha=>by rw [aE (fun z=>ha (by rw [z];exact n3))];exact h.eb a ha,h.er,h.en⟩,sB⟩
 ·have l:=h.lk i hi
  obtain ⟨m1,m2,m3⟩:=n1 i hi
  obtain ⟨dx,pv,g,gp⟩:=l.at_
  obtain ⟨kz,g2,Ds⟩:=l.told
  obtain ⟨iX,g3,yW⟩:=l.bR
  exact ⟨LK,by rw [aE (Ne.symm m1)];exact l.bx,by rw [aE (Ne.symm m2)];exact l.bt,by rw [aE (Ne.symm m3)];exact l.bp,⟨dx,pv,g,gp.mono sB⟩,⟨kz,g2,fun y e he=>(Ds y e he).mono sB⟩,⟨iX,g3,fun y xs hy=>sB _ _ (yW y xs hy)⟩,l.ne⟩
theorem Tw.Vz {C:Addr} {B H H' E:Hp} {x tA pA:Nat→Addr} {L:Nat→Lk} {ρ:Addr→Nat} {sd:Nat} {tB:Addr} (st:Tw C B H E x tA pA L ρ) (iW:sd < 2) (mv:j1 B H B H' (x sd) (tA sd) (pA sd) tB (pA sd)) (RD:tB≠tA sd) (lk:bE C B H' (x sd) tB (pA sd) { L sd with ev:=[] }) (ev:HC B H' (tA sd) (L sd).ev) :
  ∃ B' ρ',aJ B B'∧Tw C B' H' E x (at2 tA sd tB) pA (at2 L sd { L sd with ev:=[] }) ρ'∧HC B' B' (tA sd) (L sd).ev:=by
 obtain ⟨ρ1,FU,_⟩:=st.Xu iW mv lk
 have eP:at2 pA sd (pA sd)=pA:=funext fun i=>by
  by_cases z:i=sd
  ·rw [z,ay]
  ·rw [bY z]
 rw [eP] at FU
 obtain ⟨kz,PB,PC⟩:=ev
 have r0:=st.rt sd iW
 obtain ⟨wt,sB⟩:=FU.O9 PB (st.lk sd iW).bt (fun s hs=>⟨qF r0 (st.rx s hs) (by omega),fun z=>by
   by_cases y:s=sd
   ·rw [y,ay] at z;exact RD z.symm
   ·rw [bY y] at z;exact qF r0 (st.rt s hs) (by omega) z,qF r0 (st.rp s hs) (by omega)⟩) (Classical.byContradiction fun z=>by have:=st.er _ z;omega)
 exact ⟨_,ρ1,sB,wt,kz,aB,fun y e he=>(PC y e he).mono sB⟩
theorem Tw.start {C:Addr} {H:Hp} {x t p:Nat→Addr} {L:Nat→Lk} (nd:[x 0,x 1,t 0,t 1,p 0,p 1].Nodup) (lk:∀ s,s < 2→∃ B0,bE C B0 H (x s) (t s) (p s) (L s)) (le:∀ s,s < 2→(L s).ev=[]∧(L s).bR=[]∧(L s).p=none) :
  ∃ (B:Hp) (ρ:Addr→Nat),Tw C B H (fun _=>none) x t p L ρ∧∀ a o,a ∉ [x 0,x 1,t 0,t 1,p 0,p 1]→H a=some o→B a=some o:=by
 classical
 simp only [List.nodup_cons,List.mem_cons,List.not_mem_nil,or_false,not_or,List.nodup_nil,and_true,not_false_eq_true] at nd
 obtain ⟨⟨a1,a2,a3,a4,a5⟩,⟨b1,b2,b3,b4⟩,⟨c1,c2,c3⟩,⟨d1,d2⟩,e1⟩:=nd
 let B:Hp:=fun a=>if a ∈ [x 0,x 1,t 0,t 1,p 0,p 1] then none else H a
 have Xv:∀ a,a ∈ [x 0,x 1,t 0,t 1,p 0,p 1]→B a=none:=fun a h=>if_pos h
 have sb:aJ B H:=fun a o e=>by
  have e:(if a ∈ [x 0,x 1,t 0,t 1,p 0,p 1] then none else H a)=some o:=e
  split at e
  ·cases e
  ·exact e
 refine ⟨B,fun a=>if a=x 0 then 10 else if a=x 1 then 11 else if a=t 0 then 20 else if a=t 1 then 21 else if a=p 0 then 30 else if a=p 1 then 31 else 0,⟨sb,?_,?_,?_,?_,fun a o e=>(by cases e),fun a h=>absurd rfl h,fun a h=>absurd rfl h,fun a o e=>(by cases e)⟩,fun a o h e=>by show (if a ∈ [x 0,x 1,t 0,t 1,p 0,p 1] then none else H a)=some o;rw [if_neg h];exact e⟩
 ·intro s hs
  obtain ⟨B0,l⟩:=lk s hs
  obtain ⟨q1,q2,q3⟩:=le s hs
  obtain ⟨dx,pv,g,gp⟩:=l.at_
  obtain ⟨kz,g2,Ds⟩:=l.told
  obtain ⟨iX,g3,yW⟩:=l.bR
  have mx:x s ∈ [x 0,x 1,t 0,t 1,p 0,p 1]:=(dC (by simp) (by simp):∀ s,s < 2→x s ∈ [x 0,x 1,t 0,t 1,p 0,p 1]) s hs
  have mt:t s ∈ [x 0,x 1,t 0,t 1,p 0,p 1]:=(dC (by simp) (by simp):∀ s,s < 2→t s ∈ [x 0,x 1,t 0,t 1,p 0,p 1]) s hs
  have mp:p s ∈ [x 0,x 1,t 0,t 1,p 0,p 1]:=(dC (by simp) (by simp):∀ s,s < 2→p s ∈ [x 0,x 1,t 0,t 1,p 0,p 1]) s hs
  refine ⟨sb,Xv _ mx,Xv _ mt,Xv _ mp,⟨dx,pv,g,?_⟩,⟨kz,g2,fun y e he=>by rw [q1] at he;cases he⟩,⟨iX,g3,fun y e he=>by rw [q2] at he;cases he⟩,l.ne⟩
  rw [q3] at gp ⊢;exact gp
 ·exact dC (if_pos rfl) (by simp only [Ne.symm a1,if_false,if_true])
 ·exact dC (by simp only [Ne.symm a2,Ne.symm b1,if_false,if_true]) (by simp only [Ne.symm a3,Ne.symm b2,Ne.symm c1,if_false,if_true])
 ·exact dC (by simp only [Ne.symm a4,Ne.symm b3,Ne.symm c2,Ne.symm d1,if_false,if_true]) (by simp only [Ne.symm a5,Ne.symm b4,Ne.symm c3,Ne.symm d2,Ne.symm e1,if_false,if_true])
structure Kn (K:PySem.W.Frag) (t:Ad) (C:Addr) (n:Nat):Prop where
 e:jb K C
 lt:n < 15
 k0:PySem.W.kitOne K (.ref C) (.ref t.BadCell)=some (decide (0=n))
 k1:PySem.W.kitOne K (.ref C) (.ref t.BadFate)=some (decide (1=n))
 k2:PySem.W.kitOne K (.ref C) (.ref t.BadHouse)=some (decide (2=n))
 k3:PySem.W.kitOne K (.ref C) (.ref t.BadLetter)=some (decide (3=n))
 k4:PySem.W.kitOne K (.ref C) (.ref t.BadMeasure)=some (decide (4=n))
 k5:PySem.W.kitOne K (.ref C) (.ref t.BadModel)=some (decide (5=n))
 k6:PySem.W.kitOne K (.ref C) (.ref t.BadName)=some (decide (6=n))
 k7:PySem.W.kitOne K (.ref C) (.ref t.BadNet)=some (decide (7=n))
 k8:PySem.W.kitOne K (.ref C) (.ref t.BadNews)=some (decide (8=n))
 k9:PySem.W.kitOne K (.ref C) (.ref t.BadPiece)=some (decide (9=n))
 k10:PySem.W.kitOne K (.ref C) (.ref t.BadSign)=some (decide (10=n))
 k11:PySem.W.kitOne K (.ref C) (.ref t.BadText)=some (decide (11=n))
 k12:PySem.W.kitOne K (.ref C) (.ref t.NoAsk)=some (decide (12=n))
 k13:PySem.W.kitOne K (.ref C) (.ref t.NoLink)=some (decide (13=n))
 k14:PySem.W.kitOne K (.ref C) (.ref t.NoStream)=some (decide (14=n))
 v:PySem.W.kitOne K (.ref C) (.type "ValueError")=some true
theorem FV (T:Txt K mg t):Kn K t t.BadMeasure 4:=⟨T.Cu,by decide,T.ox,T.oy,T.nJ,T.mW,T.lT,T.nK,T.oz,T.pU,T.o4,T.nL,T.o5,T.o6,T.rM,T.pV,T.nM,T.lU⟩
theorem LL (T:Txt K mg t):Kn K t t.BadPiece 9:=⟨T.IP,by decide,T.rN,T.rO,T.pW,T.o8,T.nN,T.pX,T.rP,T.sR,T.rQ,T.pY,T.rR,T.rS,T.ua,T.sS,T.pZ,T.nO⟩
theorem Np (T:Txt K mg t):Kn K t t.NoLink 13:=⟨T.NF,by decide,T.uc,T.ud,T.sT,T.rV,T.pd,T.sU,T.ue,T.vY,T.uf,T.sV,T.ug,T.uh,T.wz,T.vZ,T.sW,T.pe⟩
theorem bB {G:Hp} {a:Addr} {o:HO} (h:G a=none):aJ G (upd G a o)∧(upd G a o) a=some o:=⟨(aJ.refl _).new h,aB⟩
def PD (n:Nat):List V:=be 15 fun j=>.bl (decide (j=n))
theorem Nq {n j:Nat} (hj:j < 15):xJ (PD n) (j:Int)=some (V.bl (decide (j=n))):=jw (bS hj)
def Im (n i:Nat):List V:=if i≤n then [] else [.int (n:Int)]
def lZ (K:PySem.W.Frag) (t:Ad):Addr→Sp:=fun a vs H Q _=>∃ (C:Addr) (n:Nat),vs=[.ref a]∧H a=some (.ext (ExcAt a C))∧Kn K t C n∧∀ p H',aJ H H'→H p=none→H' p=some (.lst [.int (n:Int),.int 1])→Q (.ref p) H'
theorem gP:aP ["e","first","more","then","heard"] ["e"] (aG iB):=⟨rfl,rfl,rfl,by decide +kernel,rfl,by decide +kernel,by decide +kernel⟩
set_option maxHeartbeats 1000000 in
theorem zl (F:aO K mg "_law_kinds" iB) (T:Txt K mg t):KI P w K mg base 1 "_law_kinds" ["e"] (lZ K t):=by
 refine F.W6 gP (fun _ _ _ _ _ _ us hl=>match us,hl with | [_],_=>rfl) (fun a vs H Q E h=>?_) (fun f bM A outer s H vs Q E a hh hr h=>?_)
 ·obtain ⟨C,n,rfl,_⟩:=h
  rfl
 ·obtain ⟨C,n,rfl,ha,kn,q⟩:=h
  refine ⟨_,aC (aR (i:=1) gP.nd rfl (Or.inl rfl) (ai (aA (fk K T.aw (aA (pv 0) (aA (cF (v:=.ref t.BadCell) (by rfl) T.yI rfl) aD))) (aA (fk K T.aw (aA (pv 0) (aA (cF (v:=.ref t.BadFate) (by rfl) T.Kv rfl) aD))) (aA (fk K T.aw (aA (pv 0) (aA (cF (v:=.ref t.BadHouse) (by rfl) T.IJ rfl) aD))) (aA (fk K T.aw (aA (pv 0) (aA (cF (v:=.ref t.BadLetter) (by rfl) T.Ed rfl) aD))) aD))))))
   (aC (aR (i:=2) gP.nd rfl (Or.inl rfl) (ai (aA (fk K T.aw (aA (pv 0) (aA (cF (v:=.ref t.BadMeasure) (by rfl) T.pT rfl) aD))) (aA (fk K T.aw (aA (pv 0) (aA (cF (v:=.ref t.BadModel) (by rfl) T.IK rfl) aD))) (aA (fk K T.aw (aA (pv 0) (aA (cF (v:=.ref t.BadName) (by rfl) T.Kw rfl) aD))) (aA (fk K T.aw (aA (pv 0) (aA (cF (v:=.ref t.BadNet) (by rfl) T.NC rfl) aD))) aD))))))
   (aC (aR (i:=3) gP.nd rfl (Or.inl rfl) (ai (aA (fk K T.aw (aA (pv 0) (aA (cF (v:=.ref t.BadNews) (by rfl) T.Kx rfl) aD))) (aA (fk K T.aw (aA (pv 0) (aA (cF (v:=.ref t.BadPiece) (by rfl) T.vX rfl) aD))) (aA (fk K T.aw (aA (pv 0) (aA (cF (v:=.ref t.BadSign) (by rfl) T.uZ rfl) aD))) (aA (fk K T.aw (aA (pv 0) (aA (cF (v:=.ref t.BadText) (by rfl) T.Ky rfl) aD))) aD))))))
   (aC (aR (i:=4) gP.nd rfl (Or.inr rfl) (aN (g9 K) (aN (g9 K) (aN (g9 K) (pv 1) (pv 2)) (pv 3)) (ai (aA (fk K T.aw (aA (pv 0) (aA (cF (v:=.ref t.NoAsk) (by rfl) T.Qk rfl) aD))) (aA (fk K T.aw (aA (pv 0) (aA (cF (v:=.ref t.NoLink) (by rfl) T.Gx rfl) aD))) (aA (fk K T.aw (aA (pv 0) (aA (cF (v:=.ref t.NoStream) (by rfl) T.IL rfl) aD))) aD))))))
   (aH (aY (aN (g9 K) (QM (ha:=a) hh (Nc:=["k","heard"]) (ix:=[none,some 4]) (cU (aG iB) ["e","first","more","then","heard"] rfl rfl (by decide +kernel)) (EK (by rfl) T.dB (aA aF aD)) (fun C fp s H=>⟨(ak (i:=0) (show (["k","heard"]:List Str).Nodup by decide +kernel) rfl (Or.inl rfl)),(xK (pF (ag (aM K) (pv 1) (pv 0) (fun _ _=>rfl)))),(pv 0)⟩)) (ai (aA (ib Hb (by rfl) T.UK boot_int (aA (fk K T.aw (aA (pv 0) (aA (MQ (v:=.ty "ValueError") (by rfl) T.BQ wx rfl) aD))) aD)) aD)))))))),?_⟩
  have qt:(2000:Nat)≤sizeLine:=by decide
  refine ⟨_,rfl,_,_,_,_,_,rfl,rfl,.exc ha kn.e,kn.k0,_,rfl,_,_,_,_,_,rfl,rfl,.exc ha kn.e,kn.k1,_,rfl,_,_,_,_,_,rfl,rfl,.exc ha kn.e,kn.k2,_,rfl,_,_,_,_,_,rfl,rfl,.exc ha kn.e,kn.k3,zz4,fun p1 zV=>?_⟩
  have s1:=(aJ.refl H).new (o:=.lst [.bl (decide (0=n)),.bl (decide (1=n)),.bl (decide (2=n)),.bl (decide (3=n))]) zV
  have e1:(upd H p1 (.lst [.bl (decide (0=n)),.bl (decide (1=n)),.bl (decide (2=n)),.bl (decide (3=n))])) p1=some (.lst [.bl (decide (0=n)),.bl (decide (1=n)),.bl (decide (2=n)),.bl (decide (3=n))]):=aB
  generalize upd H p1 (.lst [.bl (decide (0=n)),.bl (decide (1=n)),.bl (decide (2=n)),.bl (decide (3=n))])=H1 at *
  have IT:=s1 _ _ ha
  refine ⟨_,rfl,_,_,_,_,_,rfl,rfl,.exc IT kn.e,kn.k4,_,rfl,_,_,_,_,_,rfl,rfl,.exc IT kn.e,kn.k5,_,rfl,_,_,_,_,_,rfl,rfl,.exc IT kn.e,kn.k6,_,rfl,_,_,_,_,_,rfl,rfl,.exc IT kn.e,kn.k7,zz4,fun p2 zW=>?_⟩
  have s2:=(aJ.refl H1).new (o:=.lst [.bl (decide (4=n)),.bl (decide (5=n)),.bl (decide (6=n)),.bl (decide (7=n))]) zW
  have e2:(upd H1 p2 (.lst [.bl (decide (4=n)),.bl (decide (5=n)),.bl (decide (6=n)),.bl (decide (7=n))])) p2=some (.lst [.bl (decide (4=n)),.bl (decide (5=n)),.bl (decide (6=n)),.bl (decide (7=n))]):=aB
  generalize upd H1 p2 (.lst [.bl (decide (4=n)),.bl (decide (5=n)),.bl (decide (6=n)),.bl (decide (7=n))])=H2 at *
  have IU:=s2 _ _ IT
  refine ⟨_,rfl,_,_,_,_,_,rfl,rfl,.exc IU kn.e,kn.k8,_,rfl,_,_,_,_,_,rfl,rfl,.exc IU kn.e,kn.k9,_,rfl,_,_,_,_,_,rfl,rfl,.exc IU kn.e,kn.k10,_,rfl,_,_,_,_,_,rfl,rfl,.exc IU kn.e,kn.k11,zz4,fun p3 CI=>?_⟩
  have s3:=(aJ.refl H2).new (o:=.lst [.bl (decide (8=n)),.bl (decide (9=n)),.bl (decide (10=n)),.bl (decide (11=n))]) CI
  have e3:(upd H2 p3 (.lst [.bl (decide (8=n)),.bl (decide (9=n)),.bl (decide (10=n)),.bl (decide (11=n))])) p3=some (.lst [.bl (decide (8=n)),.bl (decide (9=n)),.bl (decide (10=n)),.bl (decide (11=n))]):=aB
  generalize upd H2 p3 (.lst [.bl (decide (8=n)),.bl (decide (9=n)),.bl (decide (10=n)),.bl (decide (11=n))])=H3 at *
  have Xw:=s3 _ _ IU
  refine ⟨_,rfl,_,rfl,p1,p2,_,_,rfl,rfl,aT.of (s3 _ _ (s2 _ _ e1)),aT.of (s3 _ _ e2),zz8,fun p4 Ry=>?_⟩
  obtain ⟨s4,e4⟩:=bB (o:=.lst ([.bl (decide (0=n)),.bl (decide (1=n)),.bl (decide (2=n)),.bl (decide (3=n))] ++ [.bl (decide (4=n)),.bl (decide (5=n)),.bl (decide (6=n)),.bl (decide (7=n))])) Ry
  generalize upd H3 p4 (.lst ([.bl (decide (0=n)),.bl (decide (1=n)),.bl (decide (2=n)),.bl (decide (3=n))] ++ [.bl (decide (4=n)),.bl (decide (5=n)),.bl (decide (6=n)),.bl (decide (7=n))]))=H4 at *
  refine ⟨_,rfl,p4,p3,_,_,rfl,rfl,aT.of e4,aT.of (s4 _ _ e3),zz12,fun p5 Rw=>?_⟩
  obtain ⟨s5,e5⟩:=bB (o:=.lst ([.bl (decide (0=n)),.bl (decide (1=n)),.bl (decide (2=n)),.bl (decide (3=n))] ++ [.bl (decide (4=n)),.bl (decide (5=n)),.bl (decide (6=n)),.bl (decide (7=n))] ++ [.bl (decide (8=n)),.bl (decide (9=n)),.bl (decide (10=n)),.bl (decide (11=n))])) Rw
  generalize upd H4 p5 (.lst ([.bl (decide (0=n)),.bl (decide (1=n)),.bl (decide (2=n)),.bl (decide (3=n))] ++ [.bl (decide (4=n)),.bl (decide (5=n)),.bl (decide (6=n)),.bl (decide (7=n))] ++ [.bl (decide (8=n)),.bl (decide (9=n)),.bl (decide (10=n)),.bl (decide (11=n))]))=H5 at *
  have PF:=s5 _ _ (s4 _ _ Xw)
  refine ⟨_,rfl,_,_,_,_,_,rfl,rfl,.exc PF kn.e,kn.k12,_,rfl,_,_,_,_,_,rfl,rfl,.exc PF kn.e,kn.k13,_,rfl,_,_,_,_,_,rfl,rfl,.exc PF kn.e,kn.k14,zz3,fun p6 O3=>?_⟩
  obtain ⟨s6,e6⟩:=bB (o:=.lst [.bl (decide (12=n)),.bl (decide (13=n)),.bl (decide (14=n))]) O3
  generalize upd H5 p6 (.lst [.bl (decide (12=n)),.bl (decide (13=n)),.bl (decide (14=n))])=H6 at *
  refine ⟨p5,p6,_,_,rfl,rfl,aT.of (s6 _ _ e5),aT.of e6,zz15,fun p7 Xj=>?_⟩
  have e7:(upd H6 p7 (.lst ([.bl (decide (0=n)),.bl (decide (1=n)),.bl (decide (2=n)),.bl (decide (3=n))] ++ [.bl (decide (4=n)),.bl (decide (5=n)),.bl (decide (6=n)),.bl (decide (7=n))] ++ [.bl (decide (8=n)),.bl (decide (9=n)),.bl (decide (10=n)),.bl (decide (11=n))] ++ [.bl (decide (12=n)),.bl (decide (13=n)),.bl (decide (14=n))]))) p7=some (.lst (PD n)):=aB
  have s7:aJ H6 (upd H6 p7 (.lst ([.bl (decide (0=n)),.bl (decide (1=n)),.bl (decide (2=n)),.bl (decide (3=n))] ++ [.bl (decide (4=n)),.bl (decide (5=n)),.bl (decide (6=n)),.bl (decide (7=n))] ++ [.bl (decide (8=n)),.bl (decide (9=n)),.bl (decide (10=n)),.bl (decide (11=n))] ++ [.bl (decide (12=n)),.bl (decide (13=n)),.bl (decide (14=n))]))):=(aJ.refl _).new Xj
  generalize upd H6 p7 (.lst ([.bl (decide (0=n)),.bl (decide (1=n)),.bl (decide (2=n)),.bl (decide (3=n))] ++ [.bl (decide (4=n)),.bl (decide (5=n)),.bl (decide (6=n)),.bl (decide (7=n))] ++ [.bl (decide (8=n)),.bl (decide (9=n)),.bl (decide (10=n)),.bl (decide (11=n))] ++ [.bl (decide (12=n)),.bl (decide (13=n)),.bl (decide (14=n))]))=H7 at *
  have Za:=s6.trans s7
  have Zb:=Za _ _ PF
  have s07:=s1.trans (s2.trans (s3.trans (s4.trans (s5.trans Za))))
  refine ⟨15,rfl,by decide,by decide,fun D hD=>?_⟩
  refine Hs (ha:=a) (lo:=0) (n:=15) (fun i σ H'=>(∃ v:Option V,σ=[v,some (.ref p7)])∧aJ H7 H'∧H' D=some (.lst (Im n i))) ⟨⟨none,rfl⟩,(aJ.refl _).new hD,by rw [aB];unfold Im;rw [if_pos (Nat.zero_le _)]⟩ ?_ (fun σ H' ⟨_,s8,_⟩=>⟨_,s8 _ _ Zb⟩) ?_
  ·rintro i σ H' N hN hi ⟨⟨v,rfl⟩,s8,h8⟩
   rw [show (0:Int)+(i:Nat)=(i:Int) by omega]
   refine turn_if ?_
   refine ⟨_,rfl,_,rfl,p7,_,_,_,rfl,rfl,aT.of (s8 _ _ e7),Nq hi,_,rfl,?_⟩
   by_cases h4:i=n
   ·refine g7 h4 ?_
    have e0:Im n i=[]:=if_pos (by omega)
    have e1:Im n (i+1)=[.int (i:Int)]:=by rw [h4];exact if_neg (by omega)
    rw [e0] at h8
    exact ⟨_,rfl,_,h8,by show 0 < sizeLine;decide,hN _ _ ⟨⟨_,rfl⟩,s8.put hD,by rw [aB,e1];rfl⟩⟩
   ·refine ie h4 ?_
    refine hN _ _ ⟨⟨_,rfl⟩,s8,?_⟩
    rw [h8]
    unfold Im
    by_cases h5:i≤n
    ·rw [if_pos h5,if_pos (by omega)]
    ·rw [if_neg h5,if_neg (by omega)]
  rintro σ H8 ⟨⟨v,rfl⟩,s8,h8⟩
  have e0:Im n 15=[.int (n:Int)]:=if_neg (by have:=kn.lt;omega)
  rw [e0] at h8
  refine ⟨_,rfl,_,_,_,_,_,rfl,rfl,.exc (s8 _ _ Zb) kn.e,kn.v,.inr ⟨true,rfl,zz1,fun p8 Xk=>?_⟩⟩
  obtain ⟨s9,e9⟩:=bB (o:=.lst [.int 1]) Xk
  refine ⟨D,p8,_,_,rfl,rfl,aT.of (s9 _ _ h8),aT.of e9,zz2,fun p9 Nf=>?_⟩
  have TL:=(aJ.refl _).new (o:=.lst ([.int (n:Int)] ++ [.int 1])) Nf
  have sA:=s07.trans (s8.trans s9)
  exact q p9 _ (sA.trans TL) (sA.free Nf) aB
theorem DT (ns:List Int) (lo hi:Option Int):∃ as:List Int,fh (ns.map V.int) lo hi=as.map V.int∧∀ a ∈ as,a ∈ ns:=by
 refine ⟨(ns.drop (HT.AY (ns.map V.int).length 0 lo)).take (HT.AY (ns.map V.int).length (ns.map V.int).length hi - HT.AY (ns.map V.int).length 0 lo),?_,fun a h=>List.mem_of_mem_drop (List.mem_of_mem_take h)⟩
 unfold fh
 rw [List.map_take,List.map_drop]
theorem DU {xs:List V} {n:Nat} (h:n≤xs.length):(fh xs none (some (n:Int))).length=n:=by
 unfold fh
 rw [HT.xj,HT.mz,List.length_take,List.length_drop]
 omega
def lg (K:PySem.W.Frag):Sp:=fun vs H Q _=>∃ (nl:Addr) (ms:List Int),vs=[.ref nl]∧aT K H nl (ms.map V.int)∧ms.length=12∧(∀ n ∈ ms,0≤n∧n < 1000000000)∧∀ (r:Addr) (H':Hp) (xs:List Int),aJ H H'→H r=none→H' r=some (.lst (xs.map V.int))→ye xs→Q (.ref r) H'
theorem zm:aP ["numbers"] ["numbers"] (aG iC):=⟨rfl,rfl,rfl,by decide +kernel,rfl,by decide +kernel,by decide +kernel⟩
theorem zo (F:aO K mg "_law_piece" iC) (T:Txt K mg t):Def P w K mg base 1 "_law_piece" ["numbers"] (lg K):=by
 refine F.def zm (fun _ _ _ _ _ _ us hl=>match us,hl with | [_],_=>rfl) (fun vs H Q E h=>?_) (fun f bM A outer s H vs Q E hr h=>?_)
 ·obtain ⟨nl,ms,rfl,_⟩:=h
  rfl
 ·obtain ⟨nl,ms,rfl,hS,hl,hb,q⟩:=h
  refine ⟨_,aH (aY (lA rfl (Nc:=["number"]) (ix:=[none]) (cU (aG iC) ["numbers"] rfl rfl (by decide +kernel)) (bK K (jT (jU K) (pv 0) qu (jO (aN bj aF (aN az (ag (aM K) (pv 0) aF (fun _ _=>rfl)) aF))))) (fun C fp s H=>⟨(ak (i:=0) (show (["number"]:List Str).Nodup by decide +kernel) rfl (Or.inl rfl)),cP,(aN az (aN jN (pv 0) aF) aF)⟩))),?_⟩
  have qt:(2000:Nat)≤sizeLine:=by decide
  obtain ⟨m0,hm0⟩:∃ m0,ms[0]?=some m0:=⟨_,List.getElem?_eq_getElem (by omega)⟩
  have V0:xJ (ms.map V.int) 0=some (.int m0):=by
   have h:(ms.map V.int)[0]?=some (.int m0):=by rw [List.getElem?_map,hm0];rfl
   exact jw h
  obtain ⟨k,hk,Y0,Y1⟩:∃ k:Nat,1+m0 % 10=(k:Int)∧1≤k∧k≤10:=⟨(1+m0 % 10).toNat,by omega,by omega,by omega⟩
  refine ⟨_,rfl,_,rfl,nl,_,_,_,rfl,rfl,hS,V0,_,_,rfl,rfl,(by show (0:Int) < 10;decide),_,_,rfl,rfl,_,rfl,nl,_,rfl,hS,fun sp zM=>?_⟩
  obtain ⟨as,kz,_⟩:=DT ms none (some (k:Int))
  have las:as.length=k:=by
   have h1:=DU (xs:=ms.map V.int) (n:=k) (by rw [List.length_map];omega)
   rw [kz,List.length_map] at h1
   exact h1
  have Xx:fh (ms.map V.int) none (some (1+m0 % 10))=as.map V.int:=by rw [hk];exact kz
  have SS:aJ H (upd H sp (.lst (fh (ms.map V.int) none (some (1+m0 % 10))))):=(aJ.refl _).new zM
  have ES:(upd H sp (.lst (fh (ms.map V.int) none (some (1+m0 % 10))))) sp=some (.lst (as.map V.int)):=by rw [aB,Xx]
  refine ⟨sp,rfl,⟨_,aT.of ES⟩,fun D hD=>?_⟩
  have Zc:H D=none:=SS.free hD
  have Zd:sp≠D:=aK ES hD
  refine uU (K:=K) (a:=sp) (xs:=as.map V.int) (fun i σ H'=>(∃ v,σ=[v])∧aJ H H'∧H' sp=some (.lst (as.map V.int))∧H' D=some (.lst ((as.take i).map fun n=>V.int (n / 13 % 97)))) ⟨⟨none,rfl⟩,SS.new hD,by rw [aE Zd];exact ES,aB⟩ (fun i σ H' _ p=>aT.of p.2.2.1) ?_ ?_
  ·rintro i v σ H' N hN hi ⟨⟨v0,rfl⟩,s1',z1,z2⟩
   obtain ⟨nn,hnn,rfl⟩:=lC hi
   refine fP ?_
   refine ⟨_,rfl,_,_,rfl,rfl,⟨by decide,by decide⟩,_,_,rfl,rfl,(by show (0:Int) < 97;decide),_,z2,by rw [List.length_map,List.length_take];omega,hN _ _ ⟨⟨_,rfl⟩,s1'.put Zc,by rw [aE Zd];exact z1,?_⟩⟩
   rw [aB,List.take_add_one,hnn,List.map_append];rfl
  rintro σ RE ⟨⟨v0,rfl⟩,RF,_,z2⟩
  rw [List.length_map,List.take_length] at z2
  refine q D RE (as.map fun n=>n / 13 % 97) RF Zc (by rw [z2,List.map_map];rfl) ⟨⟨by rw [List.length_map];omega,by rw [List.length_map];omega⟩,fun v hv=>?_⟩
  obtain ⟨n,_,rfl⟩:=List.mem_map.mp hv
  exact ⟨Int.emod_nonneg _ (by decide),Int.emod_lt_of_pos _ (by decide)⟩
def ml (K:PySem.W.Frag):Sp:=fun vs H Q _=>∃ (nl:Addr) (ms:List Int),vs=[.ref nl]∧aT K H nl (ms.map V.int)∧ms.length=12∧(∀ n ∈ ms,0≤n∧n < 1000000000)∧∀ (r:Addr) (H':Hp) (xs:List Int),aJ H H'→H r=none→H' r=some (.lst (xs.map V.int))→¬ ye xs→(∀ n ∈ xs,n.natAbs < 2 ^ 1000)→Q (.ref r) H'
theorem Nr {ms:List Int} {k:Nat} (h:k < ms.length):∃ m,xJ (ms.map V.int) (k:Int)=some (.int m)∧m ∈ ms:=by
 obtain ⟨m,hm⟩:∃ m,ms[k]?=some m:=⟨_,List.getElem?_eq_getElem h⟩
 exact ⟨m,jw (by rw [List.getElem?_map,hm];rfl),List.mem_of_getElem? hm⟩
theorem Aw (xs:List Int):∀ k:Nat,(List.replicate k (xs.map V.int)).flatten=((List.replicate k xs).flatten).map V.int
 | 0=>rfl
 | k+1=>by rw [List.replicate_succ,List.replicate_succ,List.flatten_cons,List.flatten_cons,List.map_append,Aw xs k]
theorem fY:aP ["numbers","piece","at","kind"] ["numbers"] (aG gQ):=⟨rfl,rfl,rfl,by decide +kernel,rfl,by decide +kernel,by decide +kernel⟩
set_option maxHeartbeats 1000000 in
theorem vn (F:aO K mg "_law_no_piece" gQ) (T:Txt K mg t) (fZ:Def P w K mg base 1 "_law_piece" ["numbers"] (lg K)):Def P w K mg base 2 "_law_no_piece" ["numbers"] (ml K):=by
 refine F.def fY (fun _ _ _ _ _ _ us hl=>match us,hl with | [_],_=>rfl) (fun vs H Q E h=>?_) (fun f bM A outer s H vs Q E hr h=>?_)
 ·obtain ⟨nl,ms,rfl,_⟩:=h
  rfl
 ·obtain ⟨nl,ms,rfl,hS,hl,hb,q⟩:=h
  refine ⟨_,aC (aR (i:=1) fY.nd rfl (Or.inl rfl) (aZ (fZ.mono (by decide)) hr aX (aA (pv 0) aD)))
   (aC (aR (i:=2) fY.nd rfl (Or.inl rfl) (aN az (ag (aM K) (pv 0) aF (fun _ _=>rfl)) (bQ (bP K) (by rfl) T.kH boot_len (aA (pv 1) aD))))
   (aC (aR (i:=3) fY.nd rfl (Or.inl rfl) (aN az (ag (aM K) (pv 0) aF (fun _ _=>rfl)) aF))
   (aC (bG (aV mH (pv 3) aF (aa _))
    (aH (aY (ai aD)))
    (aj))
   (aC (bG (aV mH (pv 3) aF (aa _))
    (aH (aY (jT (jU K) (aN xk (pv 1) aF) qu (jO aF))))
    (aj))
   (aC (vA (ag (aM K) (ai (aA (aN dc (xb r9 aF) (aN az (ag (aM K) (pv 0) aF (fun _ _=>rfl)) aF)) (aA aF (aA (aN bj aF (ag (aM K) (pv 0) aF (fun _ _=>rfl))) aD)))) (aN dc (pv 3) aF) (fun _ _=>rfl)) (u9 (pv 1) (pv 2) set_list))
   (aH (aY (pv 1)))))))),?_⟩
  have qt:(2000:Nat)≤sizeLine:=by decide
  obtain ⟨m1,at1,mb1⟩:=Nr (ms:=ms) (k:=1) (by omega)
  obtain ⟨m2,Xy,mb2⟩:=Nr (ms:=ms) (k:=2) (by omega)
  obtain ⟨m3,Ze,mb3⟩:=Nr (ms:=ms) (k:=3) (by omega)
  have b3:=hb m3 mb3
  refine ⟨_,rfl,nl,ms,rfl,hS,hl,hb,fun r H1 xs s1 nr er hx=>?_⟩
  have V1:=s1.seq hS
  have hxl:=hx.1
  have lp:(0:Int) < (((xs.map V.int).length:Nat):Int):=by rw [List.length_map];omega
  refine ⟨_,rfl,nl,_,_,_,rfl,rfl,V1,at1,_,rfl,r,_,rfl,.inl (aT.of er),_,_,rfl,rfl,lp,?_⟩
  refine ⟨_,rfl,nl,_,_,_,rfl,rfl,V1,Xy,_,_,rfl,rfl,(by show (0:Int) < 5;decide),?_⟩
  have hkd:0≤m2 % 5∧m2 % 5 < 5:=⟨Int.emod_nonneg _ (by decide),Int.emod_lt_of_pos _ (by decide)⟩
  have small:∀ n ∈ xs,n.natAbs < 2 ^ 1000:=fun n hn=>by
   obtain ⟨v0,v97⟩:=hx.2 n hn
   exact Nat.lt_of_lt_of_le (show n.natAbs < 97 by omega) (by decide)
  refine ⟨_,rfl,rfl,_,rfl,?_⟩
  by_cases w0:m2 % 5=0
  ·refine g7 (by show V.int (m2 % 5)=V.int 0;rw [w0]) ?_
   refine ⟨zz0,fun p hp=>?_⟩
   exact q p _ [] (s1.trans ((aJ.refl _).new hp)) (s1.free hp) aB (fun z=>absurd z.1.1 (by decide)) fun n hn=>by cases hn
  refine ie (fun z=>w0 (V.int.inj z)) ?_
  refine ⟨_,rfl,rfl,_,rfl,?_⟩
  by_cases w1:m2 % 5=1
  ·refine g7 (by show V.int (m2 % 5)=V.int 1;rw [w1]) ?_
   refine ⟨_,rfl,r,11,_,rfl,rfl,er,by decide,by decide,by rw [List.length_map];show xs.length * 11≤sizeLine;omega,fun p hp=>?_⟩
   have ef:(List.replicate (11:Int).toNat (xs.map V.int)).flatten=((List.replicate 11 xs).flatten).map V.int:=Aw xs 11
   rw [ef]
   obtain ⟨s2,e2⟩:=bB (o:=.lst (((List.replicate 11 xs).flatten).map V.int)) hp
   generalize upd H1 p (.lst (((List.replicate 11 xs).flatten).map V.int))=H2 at *
   refine ⟨_,rfl,p,_,rfl,aT.of e2,fun p3 CI=>?_⟩
   obtain ⟨as,kz,has⟩:=DT ((List.replicate 11 xs).flatten) none (some (11:Int))
   have las:as.length=11:=by
    have h1:=DU (xs:=((List.replicate 11 xs).flatten).map V.int) (n:=11) (by rw [List.length_map,len_rep];omega)
    have h2:(fh (((List.replicate 11 xs).flatten).map V.int) none (some ((11:Nat):Int)))=as.map V.int:=kz
    rw [h2,List.length_map] at h1
    exact h1
   rw [kz]
   refine q p3 _ as (s1.trans (s2.trans ((aJ.refl _).new CI))) (s1.free (s2.free CI)) aB (fun z=>absurd z.1.2 (by omega)) fun n hn=>small n ?_
   have h3:=has n hn
   obtain ⟨l,h4,h5⟩:=List.mem_flatten.mp h3
   rw [(List.mem_replicate.mp h4).2] at h5
   exact h5
  refine ie (fun z=>w1 (V.int.inj z)) ?_
  refine ⟨_,rfl,_,rfl,nl,_,_,_,rfl,rfl,V1,Ze,_,_,rfl,rfl,(by show (0:Int) < 9;decide),_,_,rfl,rfl,_,rfl,nl,_,_,_,rfl,rfl,V1,Ze,_,_,rfl,rfl,zz3,fun p hp=>?_⟩
  dsimp only
  obtain ⟨v,hv,v'⟩:∃ v,xJ [V.int (-1 - m3 % 9),V.int 97,V.int (97+m3)] (m2 % 5 - 2)=some (.int v)∧(v < 0∨97≤v)∧v.natAbs≤2000000000:=by
   have h:m2 % 5 - 2=0∨m2 % 5 - 2=1∨m2 % 5 - 2=2:=by omega
   rcases h with z | z | z <;> rw [z]
   ·exact ⟨_,rfl,.inl (by omega),by omega⟩
   ·exact ⟨_,rfl,.inr (by omega),by omega⟩
   ·exact ⟨_,rfl,.inr (by omega),by omega⟩
  obtain ⟨s2,e2⟩:=bB (o:=.lst [V.int (-1 - m3 % 9),V.int 97,V.int (97+m3)]) hp
  have er2:=s2 _ _ er
  generalize upd H1 p (.lst [V.int (-1 - m3 % 9),V.int 97,V.int (97+m3)])=H2 at *
  obtain ⟨i,hi,O7⟩:∃ i:Nat,m1 % (((xs.map V.int).length:Nat):Int)=(i:Int)∧i < (xs.map V.int).length:=by
   have h1:=Int.emod_nonneg m1 (show (((xs.map V.int).length:Nat):Int)≠0 by omega)
   have h2:=Int.emod_lt_of_pos m1 lp
   exact ⟨(m1 % (((xs.map V.int).length:Nat):Int)).toNat,by omega,by omega⟩
  have hix:GU (xs.map V.int).length (m1 % (((xs.map V.int).length:Nat):Int))=some i:=by
   rw [hi]
   unfold GU
   rw [if_pos (by omega),if_pos (by omega)];simp
  refine ⟨_,rfl,_,_,rfl,rfl,p,_,_,_,rfl,rfl,aT.of e2,hv,_,rfl,_,rfl,r,_,_,i,rfl,rfl,er2,hix,?_⟩
  rw [List.length_map] at O7
  have es:(xs.map V.int).set i (.int v)=(xs.set i v).map V.int:=by rw [List.map_set]
  rw [es]
  refine ⟨_,rfl,q r _ (xs.set i v) ((s1.trans s2).put nr) nr aB (fun z=>?_) fun n hn=>?_⟩
  ·have hm:v ∈ xs.set i v:=List.mem_iff_getElem?.mpr ⟨i,by rw [List.getElem?_set_self O7]⟩
   obtain ⟨g1,g2⟩:=z.2 v hm
   omega
  ·rcases List.mem_or_eq_of_mem_set hn with h | h
   ·exact small n h
   ·rw [h];exact Nat.lt_of_le_of_lt v'.2 (by decide)
def iN (K:PySem.W.Frag) (C:Addr):Sp:=fun vs H Q _=>∃ (B:Hp) (x tA pA l:Addr) (L:Lk) (ns:List Int),vs=[.ref x,.ref l]∧bE C B H x tA pA L∧L.bR.length < 1000000∧aT K H l (ns.map V.int)∧(∀ n ∈ ns,n.natAbs < 2 ^ 1000) ∧
 (L.p=none→∀ r H',aJ H H'→H r=none→H' r=some (.lst [.int 13,.int 1])→Q (.ref r) H')∧(L.p≠none→¬ ye ns→∀ r H',aJ H H'→H r=none→H' r=some (.lst [.int 9,.int 1])→Q (.ref r) H') ∧
 (L.p≠none→ye ns→∀ r H0 B' H',aJ H H0→H r=none→H0 r=some (.lst [])→j1 B H0 B' H' x tA pA tA pA→bE C B' H' x tA pA { L with bR:=L.bR ++ [ns] }→H' r=some (.lst [])→Q (.ref r) H')
theorem eK:aP ["end","piece","heard","e"] ["end","piece"] (aG fS):=⟨rfl,rfl,rfl,by decide +kernel,rfl,by decide +kernel,by decide +kernel⟩
set_option maxHeartbeats 1000000 in
theorem uv {Zf:FuncData} (F:aO K mg "_law_put_heard" fS) (T:Txt K mg t) (fb:KI P w K mg base 1 "_law_kinds" ["e"] (lZ K t)) (LM:bO P w K mg base (ic P w) 3 t.Cq Zf ["self","piece"] (LH K t.LinkEnd t.NoLink t.BadPiece)) (LN:Binds K Zf ["self","piece"] []):Def P w K mg base 4 "_law_put_heard" ["end","piece"] (iN K t.LinkEnd):=by
 refine F.def eK (fun _ _ _ _ _ _ us hl=>match us,hl with | [_,_],_=>rfl) (fun vs H Q E h=>?_) (fun f bM A outer s H vs Q E hr h=>?_)
 ·obtain ⟨B,x,tA,pA,l,L,ns,rfl,_⟩:=h
  rfl
 ·obtain ⟨B,x,tA,pA,l,L,ns,rfl,lk,hl,hS,Xz,q1,q2,q3⟩:=h
  refine ⟨_,aC (aR (i:=2) eK.nd rfl (Or.inl rfl) (ai aD))
   (aC (Gg (E:=fun c _ H'=>(∃ n,(c=.ref t.NoLink∧n=13∨c=.ref t.BadPiece∧n=9)∧aJ H H'∧∀ r H2,aJ H H2→H r=none→H2 r=some (.lst [.int (n:Nat),.int 1])→Q (.ref r) H2)) (i:=3) rfl rfl eK.nd rfl rfl rfl T.yK T.ph
    (fun pins=>aH (ar (mw (pv 0) T.aI T.Qo (LM.mono (by decide)) hr LN .nil Gd (aA (pv 1) aD))))
    (fun a=>aH (aR (i:=2) eK.nd rfl (Or.inl rfl) (Gf (ha:=a) fb rfl (hr.Y6 (by decide) _) aX (aA (pv 3) aD)))))
   (aH (aY (pv 2)))),?_⟩
  refine ⟨zz0,fun r0 RG=>?_⟩
  obtain ⟨s0,e0⟩:=bB (o:=.lst []) RG
  generalize upd H r0 (.lst [])=H0 at *
  have Ax:=lk.same s0
  obtain ⟨dx,_,hx,_⟩:=Ax.at_
  refine ⟨?_,?_⟩
  ·refine ⟨_,rfl,x,dx,_,rfl,hx,rfl,_,rfl,B,x,tA,pA,l,L,ns,rfl,Ax,hl,s0.seq hS,Xz,fun z=>?_,fun z1 z2=>?_,fun z1 z2 B' H' mv lk'=>?_⟩
   ·exact ⟨13,.inl ⟨rfl,rfl⟩,s0,fun r H2 s2 nr er=>q1 z r H2 s2 nr er⟩
   ·exact ⟨9,.inr ⟨rfl,rfl⟩,s0,fun r H2 s2 nr er=>q2 z1 z2 r H2 s2 nr er⟩
   ·have O2:H' r0=some (.lst []):=mv.k r0 _ (fun z=>lk.hx (by rw [← z];exact RG)) (fun z=>lk.ht (by rw [← z];exact RG)) (fun z=>lk.hp (by rw [← z];exact RG)) e0
    exact ⟨_,rfl,q3 z1 z2 r0 H0 B' H' s0 RG e0 mv lk' O2⟩
  ·rintro σ' e Up H' X0 ⟨n,hc,s1,q⟩ Di
   obtain ⟨v0,v1,v2,v3,rfl⟩:∃ v0 v1 v2 v3,σ'=[v0,v1,v2,v3]:=by
    match σ',X0 with
    | [v0,v1,v2,v3],_=>exact ⟨v0,v1,v2,v3,rfl⟩
   have kn:Kn K t Up n∧PySem.W.subIn K (.ref Up) (.ref t.PostError)=some true:=by
    rcases hc with ⟨z,rfl⟩ | ⟨z,rfl⟩
    ·cases z;exact ⟨Np T,T.rT⟩
    ·cases z;exact ⟨LL T,T.o7⟩
   refine ⟨kn.2,?_⟩
   have s2:=s1.new (o:=.ext (ExcAt e Up)) Di
   refine ⟨_,rfl,Up,n,rfl,aB,kn.1,fun p H3 s3 np e3=>?_⟩
   exact ⟨_,rfl,q p H3 (s2.trans s3) (s2.free np) e3⟩
def kP (K:PySem.W.Frag):Sp:=fun vs H Q _=>∃ (ma:Addr) (a b:Int),vs=[.ref ma]∧jZ K H ma [.int a,.int b]∧a.natAbs < 2 ^ 1000∧b.natAbs < 2 ^ 1000∧¬ O0 a b∧∀ r H',aJ H H'→H r=none→H' r=some (.lst [.int 4,.int 1])→Q (.ref r) H'
theorem dD:aP ["measure","heard","e"] ["measure"] (aG eJ):=⟨rfl,rfl,rfl,by decide +kernel,rfl,by decide +kernel,by decide +kernel⟩
set_option maxHeartbeats 1000000 in
theorem sm {Uq:FuncData} (F:aO K mg "_law_made_heard" eJ) (T:Txt K mg t) (fb:KI P w K mg base 1 "_law_kinds" ["e"] (lZ K t)) (sr:bO P w K mg base (ic P w) 4 t.init Uq ["self","measure","side"] (Bj K t.LinkEnd t.BadMeasure)) (su:Binds K Uq ["self","measure","side"] []):Def P w K mg base 6 "_law_made_heard" ["measure"] (kP K):=by
 refine F.def dD (fun _ _ _ _ _ _ us hl=>match us,hl with | [_],_=>rfl) (fun vs H Q E h=>?_) (fun f bM A outer s H vs Q E hr h=>?_)
 ·obtain ⟨ma,a,b,rfl,_⟩:=h
  rfl
 ·obtain ⟨ma,a,b,rfl,Ul,za,zb,hn,q⟩:=h
  refine ⟨_,aC (aR (i:=1) dD.nd rfl (Or.inl rfl) (ai aD))
   (aC (Gg (E:=fun c _ H'=>(c=.ref t.BadMeasure∧aJ H H')) (i:=2) rfl rfl dD.nd rfl rfl rfl T.yK T.ph
    (fun pins=>aH (ar (A9 T.yM (sr.mono (by decide)) hr (by rfl) T.yJ su .nil Gd (aA (pv 0) (aA aF aD)))))
    (fun a=>aH (aR (i:=1) dD.nd rfl (Or.inl rfl) (Gf (ha:=a) fb rfl (hr.Y6 (by decide) _) aX (aA (pv 2) aD)))))
   (aH (aY (pv 1)))),?_⟩
  refine ⟨zz0,fun r0 RG=>?_⟩
  obtain ⟨s0,e0⟩:=bB (o:=.lst []) RG
  generalize upd H r0 (.lst [])=H0 at *
  refine ⟨?_,?_⟩
  ·refine ⟨_,rfl,fun x dx hx hdx nx=>?_⟩
   have sI:aJ H0 (upd (upd H0 dx (.own x)) x (.ins t.LinkEnd dx [])):=((aJ.refl _).new hdx).new (by rw [aE (Ne.symm nx)];exact hx)
   exact ⟨x,dx,ma,a,b,0,rfl,aB,(s0.trans sI).tup Ul,za,zb,.inl ⟨hn,rfl,s0.trans sI⟩⟩
  ·rintro σ' e Up H' X0 ⟨hc,s1⟩ Di
   cases hc
   obtain ⟨v0,v1,v2,rfl⟩:∃ v0 v1 v2,σ'=[v0,v1,v2]:=by
    match σ',X0 with
    | [v0,v1,v2],_=>exact ⟨v0,v1,v2,rfl⟩
   refine ⟨T.mV,?_⟩
   have s2:=s1.new (o:=.ext (ExcAt e t.BadMeasure)) Di
   refine ⟨_,rfl,t.BadMeasure,4,rfl,aB,FV T,fun p H3 s3 np e3=>?_⟩
   exact ⟨_,rfl,q p H3 (s2.trans s3) (s2.free np) e3⟩
theorem Io {W:List (List Int)} {n:Nat} {xs:List Int} (h:W[n]?=some xs):W.take n ++ [xs]=W.take (n+1):=by rw [List.take_add_one,h];rfl
theorem Ur {t:Nat→Addr} (h:t 0≠t 1) {s sd:Nat} (hs:s < 2) (iW:sd < 2) (z:s≠sd):t s≠t sd:=fun w=>by
 match s,hs,sd,iW,w,z with
 | 0,_,0,_,_,z=>exact z rfl
 | 1,_,1,_,_,z=>exact z rfl
 | 0,_,1,_,w,_=>exact h w
 | 1,_,0,_,w,_=>exact h w.symm
def JS (L:Nat→Lk):Nat→Lk:=fun s=>{ L s with ev:=[] }
def uw (C:Addr):Sp:=fun vs H Q _=>∃ (B E:Hp) (x tA pA:Nat→Addr) (L:Nat→Lk) (ρ:Addr→Nat) (eL dL cL:Addr) (du ca:Nat→Addr) (W:Nat→List (List Int)) (k:Nat→Nat),
 vs=[.ref eL,.ref dL,.ref cL]∧Tw C B H E x tA pA L ρ∧B eL=some (.lst [.ref (x 0),.ref (x 1)])∧B dL=some (.lst [.ref (du 0),.ref (du 1)])∧B cL=some (.lst [.ref (ca 0),.ref (ca 1)])∧ca 0≠ca 1∧(∀ s r,s < 2→r < 2→du s≠ca r)∧(∀ s,s < 2→bq B E (du s) (W s))∧(∀ s,s < 2→bq B E (ca s) ((W (1 - s)).take (k s)))∧(∀ s,s < 2→k s+(L s).ev.length≤(W (1 - s)).length)∧(∀ s,s < 2→(W s).length < 900000) ∧
 (∀ s,s < 2→∀ i e,(L s).ev[i]?=some e→∃ xs,e=.took xs∧(W (1 - s))[k s+i]?=some xs)∧(∀ s,s < 2→(W s).length≤(L s).bR.length+(k (1 - s)+(L (1 - s)).ev.length)∧(L s).bR.length≤(W s).length) ∧
 ∀ (B' H' E':Hp) (tA':Nat→Addr) (ρ':Addr→Nat),aJ B B'→Tw C B' H' E' x tA' pA (JS L) ρ'→(∀ s,s < 2→bq B' E' (ca s) ((W (1 - s)).take (k s+(L s).ev.length)))→(∀ a o,a≠ca 0→a≠ca 1→E a=some o→E' a=some o)→Q (.bl true) H'
theorem iO:aP ["ends","due","came","side","event","most"] ["ends","due","came"] (aG lM):=⟨rfl,rfl,rfl,by decide +kernel,rfl,by decide +kernel,by decide +kernel⟩
set_option maxHeartbeats 2000000 in
theorem Bn {Us PH:FuncData} (F:aO K mg "_law_went" lM) (T:Txt K mg t) (jX:bO P w K mg base (ic P w) 1 t.mU Us ["self"] (vi t.LinkEnd)) (jY:Binds K Us ["self"] []) (fc:bO P w K mg base (ic P w) 1 t.nI PH ["self"] (ur t.LinkEnd)) (fe:Binds K PH ["self"] []):Def P w K mg base 3 "_law_went" ["ends","due","came"] (uw t.LinkEnd):=by
 refine F.def iO (fun _ _ _ _ _ _ us hl=>match us,hl with | [_,_,_],_=>rfl) (fun vs H Q E h=>?_) (fun f bM A outer s H vs Q E hr h=>?_)
 ·obtain ⟨B,E,x,tA,pA,L,ρ,eL,dL,cL,du,ca,W,k,rfl,_⟩:=h
  rfl
 ·obtain ⟨B0,E0,x,tA0,pA,L,ρ0,eL,dL,cL,du,ca,W,k,rfl,Hx,LO,PK,RH,X1,LP,xU,CK,Zg,X2,UX,hwt,q⟩:=h
  refine ⟨_,aC (PS.A2 (cT PassesOwn.never rfl (cS (by rfl) T.dB (aA aF aD)) (ak (i:=3) iO.nd rfl (Or.inl rfl))
    (aC (cT PassesOwn.never rfl (bK K (a8 (ag (aM K) (pv 0) (pv 3) (fun _ _=>rfl)) T.aI T.rC (jX.mono (by decide)) hr jY .nil aX)) (ak (i:=4) iO.nd rfl (Or.inl rfl))
     (aC (bG (aV uH (ag (g8 K) (pv 4) aF (fun _ _=>rfl)) cR (aa _))
      (aH (aY pE))
      (aj))
     (aH (ar (kA K PySem.F.plainAttrs_list PySem.F.slot_list_append PySem.F.type_list_append ba (ag (aM K) (pv 2) (pv 3) (fun _ _=>rfl)) (aA (ag (g8 K) (pv 4) aF (fun _ _=>rfl)) aD))))))
    (aH (bG (aV (nC K (uT hr)) (ag (aM K) (pv 2) (pv 3) (fun _ _=>rfl)) (jT (jU K) (ag (aM K) (pv 1) (aN dc aF (pv 3)) (fun _ _=>rfl)) qu (jO (bQ (bP K) (by rfl) T.kH boot_len (aA (ag (aM K) (pv 2) (pv 3) (fun _ _=>rfl)) aD)))) (aa _))
     (aH (aY pE))
     (aj))))))
   (aC (PS.A2 (cT PassesOwn.never rfl (cS (by rfl) T.dB (aA aF aD)) (ak (i:=3) iO.nd rfl (Or.inl rfl))
    (aC (aR (i:=5) iO.nd rfl (Or.inl rfl) (bQ (bP K) (by rfl) T.kH boot_len (aA (ag (aM K) (pv 1) (pv 3) (fun _ _=>rfl)) aD)))
    (aH (bG (mq (uJ uI uI (aN dc (pv 5) (bQ (bP K) (by rfl) T.kH boot_len (aA (ag (aM K) (pv 2) (aN dc aF (pv 3)) (fun _ _=>rfl)) aD))) (a8 (ag (aM K) (pv 0) (pv 3) (fun _ _=>rfl)) T.aI T.kI (fc.mono (by decide)) hr fe .nil aX) (pv 5)))
     (aH (aY pE))
     (aj))))))
   (aH (aY pE))),?_⟩
  have qt:(1000001:Nat)≤sizeLine:=by decide
  refine ⟨2,rfl,by decide,by decide,?_⟩
  refine gs (lo:=0) (n:=2) (fun sd σ H'=>∃ (B E:Hp) (tA:Nat→Addr) (L':Nat→Lk) (ρ:Addr→Nat) (v3 v4 v5:Option V),σ=[some (.ref eL),some (.ref dL),some (.ref cL),v3,v4,v5]∧aJ B0 B∧Tw t.LinkEnd B H' E x tA pA L' ρ∧(∀ s,s < 2→L' s=if s < sd then { L s with ev:=[] } else L s)∧(∀ s,s < 2→bq B E (ca s) ((W (1 - s)).take (if s < sd then k s+(L s).ev.length else k s)))∧∀ a o,a≠ca 0→a≠ca 1→E0 a=some o→E a=some o)
   ⟨B0,E0,tA0,L,ρ0,none,none,none,rfl,aJ.refl _,Hx,fun s hs=>(if_neg (Nat.not_lt_zero _)).symm,fun s hs=>by rw [if_neg (Nat.not_lt_zero _)];exact CK s hs,fun _ _ _ _ e=>e⟩ ?_ ?_
  ·rintro sd σ H1 iW ⟨B,E,tA,L',ρ,v3,v4,v5,rfl,sB,st,HP,OZ,fr⟩
   rw [show (0:Int)+(sd:Nat)=(sd:Int) by omega]
   have vo:1 - sd < 2:=by omega
   have Ip:(1:Int) - (sd:Int)=((1 - sd:Nat):Int):=by omega
   have X3:=HP sd iW
   rw [if_neg (by omega)] at X3
   have Uj:=OZ sd iW
   rw [if_neg (by omega)] at Uj
   have Ax:=st.lk sd iW
   obtain ⟨dx,_,hx,_⟩:=Ax.at_
   refine ⟨_,rfl,_,rfl,eL,_,_,_,rfl,rfl,aT.of (st.sb _ _ (sB _ _ LO)),cV iW,x sd,dx,_,rfl,hx,rfl,B,x sd,tA sd,pA sd,L' sd,rfl,Ax,fun H2 tB mv RD RI PB=>?_⟩
   obtain ⟨B1,ρ1,MG,FU,kz,PC,Ut⟩:=st.Vz iW mv RD RI PB
   rw [X3] at PC Ut
   have X4:=Zg sd iW
   have hw9:=X2 (1 - sd) vo
   refine ⟨tA sd,rfl,⟨_,aT.of (FU.sb _ _ PC)⟩,gM (K:=K) (a:=tA sd) (xs:=bN (L sd).ev.length kz) (fun i σ H'=>∃ (E':Hp) (ρ':Addr→Nat) (w4:Option V),σ=[some (.ref eL),some (.ref dL),some (.ref cL),some (.int (sd:Int)),w4,v5]∧Tw t.LinkEnd B1 H' E' x (at2 tA sd tB) pA (at2 L' sd { L' sd with ev:=[] }) ρ'∧bq B1 E' (ca sd) ((W (1 - sd)).take (k sd+i))∧∀ a o,a≠ca sd→E a=some o→E' a=some o)
    ⟨E,ρ1,_,rfl,FU,Uj.same MG fun _ e=>e,fun _ _ _ e=>e⟩ (fun i σ H' _ ⟨_,_,_,_,s',_⟩=>aT.of (s'.sb _ _ PC)) ?_ ?_⟩
   ·rintro i v σ H3 hi ⟨E3,ρ3,w4,rfl,xH,Uu,f3⟩
    obtain ⟨O7,rfl⟩:=tab_of hi
    obtain ⟨e,he⟩:∃ e,(L sd).ev[i]?=some e:=⟨_,List.getElem?_eq_getElem O7⟩
    obtain ⟨xs,rfl,hWx⟩:=UX sd iW i e he
    obtain ⟨Zh,k1,k2⟩:=Ut i _ he
    obtain ⟨iX,g1,g2⟩:=DS Uu k2
    have R8:((W (1 - sd)).take (k sd+i)).length=k sd+i:=by rw [List.length_take];omega
    have Zi:=xH.ee _ _ g1
    refine ⟨_,rfl,kz i,_,_,_,rfl,rfl,jZ.of (xH.sb _ _ k1),Uo _ _,rfl,_,rfl,oZ rfl ?_⟩
    refine ⟨_,rfl,_,rfl,cL,_,_,_,rfl,rfl,aT.of (xH.sb _ _ (MG _ _ (sB _ _ RH))),cV iW,.inl ⟨rfl,_,aT.of Zi⟩,_,rfl,kz i,_,_,_,rfl,rfl,jZ.of (xH.sb _ _ k1),Xs _ _ _,ca sd,_,_,rfl,rfl,Zi,by rw [aL,R8];omega,?_⟩
    obtain ⟨ρ4,xl⟩:=xH.put (a:=ca sd) (o:=.lst (bN ((W (1 - sd)).take (k sd+i)).length iX ++ [.ref Zh])) (by rw [g1];exact fun z=>by cases z) (bu _)
    refine ⟨_,ρ4,_,rfl,xl,?_,fun a o h1 e=>by rw [aE h1];exact f3 a o h1 e⟩
    have:=g2 _ (aB (H:=E3) (a:=ca sd) (o:=.lst (bN ((W (1 - sd)).take (k sd+i)).length iX ++ [.ref Zh])))
    rw [Io hWx] at this
    exact this
   ·rintro σ H3 ⟨E3,ρ3,w4,rfl,xH,Uu,f3⟩
    rw [aL] at Uu
    have X5:bq B1 E3 (du (1 - sd)) (W (1 - sd)):=(xU (1 - sd) vo).same (sB.trans MG) fun o e=>f3 _ _ (LP _ _ vo iW) (fr _ _ (LP _ _ vo (by decide)) (LP _ _ vo (by decide)) e)
    obtain ⟨iX,c1,c2⟩:=id Uu
    obtain ⟨MH,d1,d2⟩:=id X5
    have R8:((W (1 - sd)).take (k sd+(L sd).ev.length)).length=k sd+(L sd).ev.length:=by rw [List.length_take];omega
    have Zj:=xH.ee _ _ c1
    have d1H:=xH.ee _ _ d1
    have Nt:=aT.of (K:=K) (xH.sb _ _ (MG _ _ (sB _ _ RH)))
    have RJ:=aT.of (K:=K) (xH.sb _ _ (MG _ _ (sB _ _ PK)))
    refine ⟨_,rfl,_,rfl,cL,_,_,_,rfl,rfl,Nt,cV iW,_,rfl,_,rfl,_,_,rfl,rfl,dL,_,_,_,rfl,rfl,RJ,by rw [Ip];exact cV vo,_,rfl,_,rfl,cL,_,_,_,rfl,rfl,Nt,cV iW,ca sd,_,rfl,.inl (aT.of Zj),_,rfl,du (1 - sd),_,rfl,aT.of d1H,fun sp zM=>?_⟩
    have X6:fh (bN (W (1 - sd)).length MH) none (some (((bN ((W (1 - sd)).take (k sd+(L sd).ev.length)).length iX).length:Nat):Int))=bN (k sd+(L sd).ev.length) MH:=by rw [aL,R8];exact sJ X4
    have SS:aJ H3 (upd H3 sp (.lst (fh (bN (W (1 - sd)).length MH) none (some (((bN ((W (1 - sd)).take (k sd+(L sd).ev.length)).length iX).length:Nat):Int))))):=(aJ.refl _).new zM
    have ES:(upd H3 sp (.lst (fh (bN (W (1 - sd)).length MH) none (some (((bN ((W (1 - sd)).take (k sd+(L sd).ev.length)).length iX).length:Nat):Int))))) sp=some (.lst (bN (k sd+(L sd).ev.length) MH)):=by rw [aB,X6]
    have xl:=xH.same SS
    refine ⟨ca sd,sp,_,_,rfl,rfl,aT.of (SS _ _ Zj),aT.of ES,.inl ⟨by rw [aL,aL,R8],fun j u v hu hv=>?_,?_⟩⟩
    ·obtain ⟨hj,rfl⟩:=tab_of hu
     obtain ⟨R6,rfl⟩:=tab_of hv
     obtain ⟨xs,Uv⟩:∃ xs,((W (1 - sd)).take (k sd+(L sd).ev.length))[j]?=some xs:=⟨_,List.getElem?_eq_getElem hj⟩
     have hys:(W (1 - sd))[j]?=some xs:=by
      rw [List.getElem?_take_of_lt (by omega)] at Uv;exact Uv
     exact .lst (n:=7) (aT.of (xl.sb _ _ (c2 j xs Uv))) (aT.of (xl.sb _ _ (d2 j xs hys))) rfl fun k a b ha hb=>by
      rw [ha] at hb
      cases hb
      obtain ⟨z,_,rfl⟩:=lC ha
      exact .flat _ rfl
    refine ⟨_,rfl,eS ?_⟩
    refine ⟨B1,E3,_,_,ρ3,_,_,_,rfl,sB.trans MG,xl,fun s hs=>?_,fun s hs=>?_,fun a o h0 h1 e=>f3 a o ((dC h0 h1:∀ s,s < 2→a≠ca s) sd iW) (fr a o h0 h1 e)⟩
    ·by_cases z:s=sd
     ·rw [z,ay,X3,if_pos (by omega)]
     ·rw [bY z,HP s hs]
      by_cases y:s < sd
      ·rw [if_pos y,if_pos (by omega)]
      ·rw [if_neg y,if_neg (by omega)]
    ·by_cases z:s=sd
     ·rw [z,if_pos (by omega)];exact Uu
     ·have h3:=OZ s hs
      have e3:(if s < sd+1 then k s+(L s).ev.length else k s)=(if s < sd then k s+(L s).ev.length else k s):=by
       by_cases y:s < sd
       ·rw [if_pos y,if_pos (by omega)]
       ·rw [if_neg y,if_neg (by omega)]
      rw [e3]
      exact h3.same MG fun o e=>f3 _ _ (Ur X1 hs iW z) e
  rintro σ H4 ⟨B,E,tA,L',ρ,v3,v4,v5,rfl,sB,st,HP,OZ,fr⟩
  have wt:=st.re (L':=JS L) (fun s hs=>by rw [HP s hs,if_pos hs];rfl)
  refine ⟨2,rfl,by decide,by decide,?_⟩
  refine gs (lo:=0) (n:=2) (fun sd σ H'=>∃ v3 v5:Option V,σ=[some (.ref eL),some (.ref dL),some (.ref cL),v3,v4,v5]∧H'=H4) ⟨_,_,rfl,rfl⟩ ?_ ?_
  ·rintro sd σ H' iW ⟨w3,w5,rfl,rfl⟩
   rw [show (0:Int)+(sd:Nat)=(sd:Int) by omega]
   have vo:1 - sd < 2:=by omega
   have Ip:(1:Int) - (sd:Int)=((1 - sd:Nat):Int):=by omega
   obtain ⟨MH,d1,_⟩:=(xU sd iW).same sB fun o e=>fr _ _ (LP _ _ iW (by decide)) (LP _ _ iW (by decide)) e
   obtain ⟨iX,c1,_⟩:=OZ (1 - sd) vo
   rw [if_pos vo] at c1
   have X4:=Zg (1 - sd) vo
   rw [show 1 - (1 - sd)=sd by omega] at c1 X4
   obtain ⟨w1,w2⟩:=hwt sd iW
   have lk:=wt.lk sd iW
   obtain ⟨dx,_,hx,_⟩:=lk.at_
   have RJ:=aT.of (K:=K) (st.sb _ _ (sB _ _ PK))
   have Nt:=aT.of (K:=K) (st.sb _ _ (sB _ _ RH))
   refine ⟨_,rfl,_,rfl,dL,_,_,_,rfl,rfl,RJ,cV iW,du sd,_,rfl,.inl (aT.of (st.ee _ _ d1)),?_⟩
   refine ⟨_,rfl,_,rfl,_,rfl,_,_,rfl,rfl,cL,_,_,_,rfl,rfl,Nt,by rw [Ip];exact cV vo,ca (1 - sd),_,rfl,.inl (aT.of (st.ee _ _ c1)),_,_,rfl,rfl,?_⟩
   have R8:((W sd).take (k (1 - sd)+(L (1 - sd)).ev.length)).length=k (1 - sd)+(L (1 - sd)).ev.length:=by rw [List.length_take];omega
   have w1':(W sd).length≤(JS L sd).bR.length+(k (1 - sd)+(L (1 - sd)).ev.length):=w1
   have w2':(JS L sd).bR.length≤(W sd).length:=w2
   refine ⟨_,rfl,_,rfl,eL,_,_,_,rfl,rfl,aT.of (st.sb _ _ (sB _ _ LO)),cV iW,x sd,dx,_,rfl,hx,rfl,B,x sd,_,_,JS L sd,rfl,lk,_,_,rfl,rfl,_,rfl,g7 ?_ ?_⟩
   ·show ((bN (W sd).length MH).length:Int) - ((bN ((W sd).take (k (1 - sd)+(L (1 - sd)).ev.length)).length iX).length:Int)≤((JS L sd).bR.length:Int)
    rw [aL,aL,R8];omega
   refine ⟨_,rfl,_,_,rfl,rfl,_,rfl,oZ ?_ ⟨_,_,rfl,rfl⟩⟩
   show ((JS L sd).bR.length:Int)≤((bN (W sd).length MH).length:Int)
   rw [aL];omega
  ·rintro σ H' ⟨w3,w5,rfl,rfl⟩
   refine q B _ E tA ρ sB wt (fun s hs=>?_) fr
   have:=OZ s hs
   rw [if_pos hs] at this;exact this
theorem Tw.RK {C:Addr} {B H H' E:Hp} {x tA pA:Nat→Addr} {L:Nat→Lk} {ρ:Addr→Nat} {a:Addr} {o:HO} (h:Tw C B H E x tA pA L ρ) (s:aJ H H') (na:H a=none) (ea:H' a=some o) (no:Il o):∃ ρ',Tw C B H' (upd E a o) x tA pA L ρ':=by
 refine h.chg (fun b u _ e=>s _ _ e) (fun b u e=>?_) (fun b hb=>?_) (fun b u e=>?_)
 ·by_cases z:b=a
  ·rw [z,aB] at e;cases e;rw [z];exact ea
  ·rw [aE z] at e;exact s _ _ (h.ee _ _ e)
 ·by_cases z:b=a
  ·rw [z];exact .inr na
  ·rw [aE z] at hb;exact .inl hb
 ·by_cases z:b=a
  ·rw [z,aB] at e;cases e;exact no
  ·rw [aE z] at e;exact h.en _ _ e
def LQ (L L':Nat→Lk) (W W':Nat→List (List Int)):Prop:=(L'=L∧W'=W)∨∃ (sd:Nat) (xs:List Int),sd < 2∧ye xs∧L'=at2 L sd { L sd with bR:=(L sd).bR ++ [xs] }∧W'=at2 W sd (W sd ++ [xs])
def ux (C:Addr):Sp:=fun vs H Q _=>∃ (B E:Hp) (x tA pA:Nat→Addr) (L:Nat→Lk) (ρ:Addr→Nat) (eL dL:Addr) (du:Nat→Addr) (W:Nat→List (List Int)) (c:Int),
 vs=[.ref eL,.ref dL,.int c]∧Tw C B H E x tA pA L ρ∧B eL=some (.lst [.ref (x 0),.ref (x 1)])∧B dL=some (.lst [.ref (du 0),.ref (du 1)])∧du 0≠du 1∧(∀ s,s < 2→bq B E (du s) (W s))∧(∀ s,s < 2→(W s).length < 900000)∧(∀ s,s < 2→(L s).p≠none∧(L s).bR.length < 900000) ∧
 ∀ (B' H' E':Hp) (L':Nat→Lk) (ρ':Addr→Nat) (W':Nat→List (List Int)),aJ B B'→Tw C B' H' E' x tA pA L' ρ'→LQ L L' W W'→(∀ s,s < 2→bq B' E' (du s) (W' s))→(∀ a o,a≠du 0→a≠du 1→E a=some o→E' a=some o)→Q (.bl true) H'
theorem dE:aP ["ends","due","cell","numbers","side","piece","waiting","bad"] ["ends","due","cell"] (aG lL):=⟨rfl,rfl,rfl,by decide +kernel,rfl,by decide +kernel,by decide +kernel⟩
set_option maxHeartbeats 2000000 in
theorem Bo {PH:FuncData} (F:aO K mg "_law_puts" lL) (T:Txt K mg t) (cW:Def P w K mg base 1 "_law_numbers" ["cell","many"] jf) (fZ:Def P w K mg base 1 "_law_piece" ["numbers"] (lg K)) (jh:Def P w K mg base 2 "_law_no_piece" ["numbers"] (ml K)) (bF:Def P w K mg base 4 "_law_put_heard" ["end","piece"] (iN K t.LinkEnd)) (fc:bO P w K mg base (ic P w) 1 t.nI PH ["self"] (ur t.LinkEnd)) (fe:Binds K PH ["self"] []):Def P w K mg base 5 "_law_puts" ["ends","due","cell"] (ux t.LinkEnd):=by
 refine F.def dE (fun _ _ _ _ _ _ us hl=>match us,hl with | [_,_,_],_=>rfl) (fun vs H Q E h=>?_) (fun f bM A outer s H vs Q E hr h=>?_)
 ·obtain ⟨B,E,x,tA,pA,L,ρ,eL,dL,du,W,c,rfl,_⟩:=h
  rfl
 ·obtain ⟨B0,E0,x,tA,pA,L,ρ0,eL,dL,du,W,c,rfl,Hx,LO,PK,X7,xU,X2,Nf,q⟩:=h
  refine ⟨_,aC (aR (i:=3) dE.nd rfl (Or.inl rfl) (aZ (cW.mono (by decide)) hr aX (aA (pv 2) (aA aF aD))))
   (aC (aR (i:=4) dE.nd rfl (Or.inl rfl) (aN az (ag (aM K) (pv 3) aF (fun _ _=>rfl)) aF))
   (aC (BH (bG (aV GP (aN az (aN jN (ag (aM K) (pv 3) aF (fun _ _=>rfl)) aF) aF) aF (aa _))
    (aC (aR (i:=5) dE.nd rfl (Or.inl rfl) (aZ (fZ.mono (by decide)) hr aX (aA (pv 3) aD)))
    (aC (aR (i:=6) dE.nd rfl (Or.inl rfl) (a8 (ag (aM K) (pv 0) (pv 4) (fun _ _=>rfl)) T.aI T.kI (fc.mono (by decide)) hr fe .nil aX))
    (aC (bG (PW.pt (rX (aV (Mr K (uT hr)) (aZ (bF.mono (by decide)) hr aX (aA (ag (aM K) (pv 0) (pv 4) (fun _ _=>rfl)) (aA (pv 5) aD))) (ai aD) (aa _)) (u7 (aV uH (a8 (ag (aM K) (pv 0) (pv 4) (fun _ _=>rfl)) T.aI T.kI (fc.mono (by decide)) hr fe .nil aX) (aN bj (pv 6) aF) (aa _)))))
     (aH (aY pE))
     (aj))
    (aC (ar (kA K PySem.F.plainAttrs_list PySem.F.slot_list_append PySem.F.type_list_append ba (ag (aM K) (pv 1) (pv 4) (fun _ _=>rfl)) (aA (ib (ij K) (by rfl) T.sQ boot_list (aA (pv 5) aD)) aD)))
    (aC (ar (kA K PySem.F.plainAttrs_list PySem.F.slot_list_append PySem.F.type_list_append ba (pv 5) (aA aF aD)))
    (aH (vA (aN dc aF (ag (aM K) (pv 5) aF (fun _ _=>rfl))) (u9 (pv 5) aF set_list))))))))
    (aj)))
   (aC (aR (i:=7) dE.nd rfl (Or.inl rfl) (aZ (jh.mono (by decide)) hr aX (aA (pv 3) aD)))
   (aC (aR (i:=6) dE.nd rfl (Or.inl rfl) (a8 (ag (aM K) (pv 0) (aN dc aF (pv 4)) (fun _ _=>rfl)) T.aI T.kI (fc.mono (by decide)) hr fe .nil aX))
   (aH (aY (JZ (qs (Mq K (uT hr)) (aZ (bF.mono (by decide)) hr aX (aA (ag (aM K) (pv 0) (aN dc aF (pv 4)) (fun _ _=>rfl)) (aA (pv 7) aD))) (ai (aA aF (aA aF aD))) (aa _)) (JY (qs mH (a8 (ag (aM K) (pv 0) (aN dc aF (pv 4)) (fun _ _=>rfl)) T.aI T.kI (fc.mono (by decide)) hr fe .nil aX) (pv 6) (aa _)))))))))),?_⟩
  have qt:(1000001:Nat)≤sizeLine:=by decide
  refine ⟨_,rfl,c,12,rfl,by decide,fun nl H1 ms s1 nn e1 hl hb=>?_⟩
  obtain ⟨m,V0,mb⟩:=Nr (ms:=ms) (k:=11) (by omega)
  have m0:=hb m mb
  obtain ⟨sd,X8,iW⟩:∃ sd:Nat,m % 2=(sd:Int)∧sd < 2:=⟨(m % 2).toNat,by omega,by omega⟩
  refine ⟨_,rfl,nl,_,_,_,rfl,rfl,aT.of e1,V0,_,_,rfl,rfl,(by show (0:Int) < 2;decide),?_⟩
  dsimp only
  rw [X8]
  obtain ⟨ρ1,FU⟩:=Hx.RK s1 nn e1 (bu _)
  have Uw:∀ a o,E0 a=some o→a≠nl:=fun a o e z=>by rw [z] at e;have:=Hx.ee _ _ e;rw [nn] at this;cases this
  have vo:1 - sd < 2:=by omega
  have Ip:(1:Int) - (sd:Int)=((1 - sd:Nat):Int):=by omega
  refine ⟨fun σ H'=>∃ (B E:Hp) (L':Nat→Lk) (ρ:Addr→Nat) (W':Nat→List (List Int)) (v5 v6:Option V),σ=[some (.ref eL),some (.ref dL),some (.int c),some (.ref nl),some (.int (sd:Int)),v5,v6,none]∧aJ B0 B∧Tw t.LinkEnd B H' E x tA pA L' ρ∧LQ L L' W W'∧E nl=some (.lst (ms.map V.int))∧(∀ s,s < 2→bq B E (du s) (W' s))∧(∀ s,s < 2→(L' s).p≠none∧(L' s).bR.length≤900000)∧∀ a o,a≠du 0→a≠du 1→E0 a=some o→E a=some o,?_,?_⟩
  ·refine ⟨_,rfl,nl,_,_,_,rfl,rfl,aT.of e1,V0,_,_,rfl,rfl,⟨by decide,by decide⟩,_,_,rfl,rfl,(by show (0:Int) < 4;decide),_,_,rfl,rfl,_,rfl,?_⟩
   by_cases hz:m / 2 % 4 > 0
   ·refine g7 hz ?_
    refine ⟨_,rfl,nl,ms,rfl,aT.of e1,hl,hb,fun r H2 xs s2 nr er hx=>?_⟩
    obtain ⟨ρ2,wt⟩:=FU.RK s2 nr er (bu _)
    have R9:∀ a o,(upd E0 nl (.lst (ms.map V.int))) a=some o→a≠r:=fun a o e z=>by rw [z] at e;have:=FU.ee _ _ e;rw [nr] at this;cases this
    have X9:nl≠r:=R9 nl _ aB
    have kE:∀ a o,E0 a=some o→(upd (upd E0 nl (.lst (ms.map V.int))) r (.lst (xs.map V.int))) a=some o:=fun a o e=>by
     have e':(upd E0 nl (.lst (ms.map V.int))) a=some o:=by rw [aE (Uw a o e)];exact e
     rw [aE (R9 a o e')];exact e'
    have eN:(upd (upd E0 nl (.lst (ms.map V.int))) r (.lst (xs.map V.int))) nl=some (.lst (ms.map V.int)):=by rw [aE X9];exact aB
    have eR:(upd (upd E0 nl (.lst (ms.map V.int))) r (.lst (xs.map V.int))) r=some (.lst (xs.map V.int)):=aB
    have SD:∀ s,s < 2→du s≠r∧du s≠nl:=fun s hs=>by
     obtain ⟨MH,d1,_⟩:=xU s hs
     exact ⟨R9 _ _ (by rw [aE (Uw _ _ d1)];exact d1),Uw _ _ d1⟩
    generalize upd (upd E0 nl (.lst (ms.map V.int))) r (.lst (xs.map V.int))=E2 at *
    have lk:=wt.lk sd iW
    obtain ⟨dx,_,UT,_⟩:=lk.at_
    have HF:=Nf sd iW
    refine ⟨_,rfl,_,rfl,eL,_,_,_,rfl,rfl,aT.of (wt.sb _ _ LO),cV iW,x sd,dx,_,rfl,UT,rfl,B0,x sd,_,_,L sd,rfl,lk,?_⟩
    refine ⟨_,rfl,_,rfl,eL,_,_,_,rfl,rfl,aT.of (wt.sb _ _ LO),cV iW,_,rfl,B0,x sd,tA sd,pA sd,r,L sd,xs,rfl,lk,by omega,aT.of er,fun n hn=>?_,fun z=>absurd z HF.1,fun _ z=>absurd hx z,fun _ _ r0 H3 B3 H4 s3 nr0 e0 mv Ux er0=>?_⟩
    ·obtain ⟨v0,v97⟩:=hx.2 n hn
     exact Nat.lt_of_lt_of_le (show n.natAbs < 97 by omega) (by decide)
    have xH:=wt.same s3
    obtain ⟨ρ4,xl,_⟩:=xH.Xu iW mv Ux
    rw [yf,yf] at xl
    refine ⟨zz0,fun p0 DQ=>?_⟩
    have S5:aJ H4 (upd H4 p0 (.lst [])):=(aJ.refl _).new DQ
    have CC:=xl.same S5
    refine ⟨r0,p0,_,_,rfl,rfl,aT.of (S5 _ _ er0),aT.of aB,.inl ⟨rfl,(fun j u v hu=>by cases hu),_,rfl,eS ?_⟩⟩
    generalize upd H4 p0 (.lst [])=H5 at *
    have YA:=CC.lk sd iW
    have eX:at2 L sd { L sd with bR:=(L sd).bR ++ [xs] } sd={ L sd with bR:=(L sd).bR ++ [xs] }:=ay
    rw [eX] at YA
    obtain ⟨ME,_,R4,_⟩:=YA.at_
    refine ⟨_,rfl,_,rfl,eL,_,_,_,rfl,rfl,aT.of (CC.sb _ _ (mv.bb _ _ LO)),cV iW,x sd,ME,_,rfl,R4,rfl,B3,x sd,_,_,_,rfl,YA,_,rfl,_,_,rfl,rfl,rfl,_,rfl,oZ ?_ ?_⟩
    ·show V.int (((L sd).bR ++ [xs]).length:Int)=V.int (((L sd).bR.length:Int)+1)
     rw [List.length_append];rfl
    have hd2:bq B3 E2 (du sd) (W sd):=(xU sd iW).same mv.bb fun o e=>kE _ _ e
    obtain ⟨MH,d1,_⟩:=id hd2
    have rH:=CC.ee _ _ eR
    refine ⟨_,rfl,_,rfl,dL,_,_,_,rfl,rfl,aT.of (CC.sb _ _ (mv.bb _ _ PK)),cV iW,.inl ⟨rfl,_,aT.of (CC.ee _ _ d1)⟩,_,rfl,r,_,rfl,.inl (aT.of rH),fun lq Zk=>?_⟩
    obtain ⟨SE,YB⟩:=CC.grow ((aJ.refl _).new Zk) Zk (aB (o:=.lst (xs.map V.int)))
    obtain ⟨iX,g1,g2⟩:=DS (a:=lq) (xs:=xs) (hd2.same YB fun _ e=>e) aB
    have w9:=X2 sd iW
    refine ⟨du sd,_,_,rfl,rfl,SE.ee _ _ g1,by rw [aL];omega,?_⟩
    obtain ⟨ρ7,EF⟩:=SE.put (a:=du sd) (o:=.lst (bN (W sd).length iX ++ [.ref lq])) (by rw [g1];exact fun z=>by cases z) (bu _)
    have Zl:(upd E2 (du sd) (.lst (bN (W sd).length iX ++ [.ref lq]))) r=some (.lst (xs.map V.int)):=by rw [aE (Ne.symm (SD sd iW).1)];exact eR
    have Zm:=EF.ee _ _ Zl
    refine ⟨_,rfl,.inl ⟨rfl,_,aT.of Zm⟩,r,_,_,rfl,rfl,Zm,by rw [List.length_map];have:=hx.1.2;omega,?_⟩
    obtain ⟨ρ8,Zn⟩:=EF.put (a:=r) (o:=.lst (xs.map V.int ++ [.int 1])) (by rw [Zl];exact fun z=>by cases z) (bu _)
    obtain ⟨x0,xr,Uv⟩:∃ x0 xr,xs=x0 :: xr:=by
     cases xs with
     | nil=>exact absurd hx.1.1 (by decide)
     | cons a b=>exact ⟨a,b,rfl⟩
    have Zo:(upd (upd E2 (du sd) (.lst (bN (W sd).length iX ++ [.ref lq]))) r (.lst (xs.map V.int ++ [.int 1]))) r=some (.lst (.int x0 :: (xr.map V.int ++ [.int 1]))):=by rw [aB,Uv];rfl
    have Zp:=Zn.ee _ _ Zo
    refine ⟨_,rfl,r,_,_,_,rfl,rfl,aT.of Zp,Uo _ _,_,_,rfl,rfl,_,rfl,r,_,_,0,rfl,rfl,Zp,(by unfold GU;rw [if_pos (by decide),if_pos (by simp;omega)];rfl),?_⟩
    obtain ⟨ρ9,MI⟩:=Zn.put (a:=r) (o:=.lst ((V.int x0 :: (xr.map V.int ++ [.int 1])).set 0 (.int (96 - x0)))) (by rw [Zo];exact fun z=>by cases z) (bu _)
    refine ⟨_,_,_,ρ9,at2 W sd (W sd ++ [xs]),_,_,rfl,mv.bb.trans YB,MI,.inr ⟨sd,xs,iW,hx,rfl,rfl⟩,?_,fun s hs=>?_,fun s hs=>?_,fun a o h0 h1 e=>?_⟩
    ·rw [aE X9,aE X9,aE (Ne.symm (SD sd iW).2)];exact eN
    ·by_cases z:s=sd
     ·rw [z,ay]
      exact g2 _ (by rw [aE (SD sd iW).1,aE (SD sd iW).1];exact aB)
     ·rw [bY z]
      exact (xU s hs).same (mv.bb.trans YB) fun o e=>by rw [aE (SD s hs).1,aE (SD s hs).1,aE (Ur X7 hs iW z)];exact kE _ _ e
    ·by_cases z:s=sd
     ·rw [z,ay]
      exact ⟨HF.1,by show ((L sd).bR ++ [xs]).length≤900000;rw [List.length_append];have:=HF.2;show (L sd).bR.length+1≤900000;omega⟩
     ·rw [bY z];have:=Nf s hs;exact ⟨this.1,by omega⟩
    ·have V2:a≠r:=fun z=>by
      have:=kE a o e
      rw [z,eR] at this
      have n1:=Hx.ee _ _ e
      rw [z] at n1
      have n2:=s1 _ _ n1
      rw [nr] at n2;cases n2
     rw [aE V2,aE V2,aE ((dC h0 h1:∀ s,s < 2→a≠du s) sd iW)]
     exact kE a o e
   ·refine ie hz ?_
    exact ⟨B0,_,L,ρ1,W,none,none,rfl,aJ.refl _,FU,.inl ⟨rfl,rfl⟩,aB,fun s hs=>(xU s hs).same (aJ.refl _) fun o e=>by rw [aE (Uw _ _ e)];exact e,fun s hs=>⟨(Nf s hs).1,by have:=(Nf s hs).2;omega⟩,fun a o _ _ e=>by rw [aE (Uw _ _ e)];exact e⟩
  rintro σ H3 ⟨B,E,L',ρ,W',v5,v6,rfl,sB,st,YC,enl,RL,hp',fr⟩
  refine ⟨_,rfl,nl,ms,rfl,aT.of (st.ee _ _ enl),hl,hb,fun r H4 xs s4 nr er hx Xz=>?_⟩
  have lk:=st.lk (1 - sd) vo
  obtain ⟨ρ4,xl⟩:=st.RK s4 nr er (bu _)
  have R9:∀ a o,E a=some o→a≠r:=fun a o e z=>by rw [z] at e;have:=st.ee _ _ e;rw [nr] at this;cases this
  have Ux:=xl.lk (1 - sd) vo
  obtain ⟨dx,_,UT,_⟩:=Ux.at_
  have HF:=hp' (1 - sd) vo
  have Uy:=aT.of (K:=K) (xl.sb _ _ (sB _ _ LO))
  refine ⟨_,rfl,_,rfl,_,_,rfl,rfl,eL,_,_,_,rfl,rfl,Uy,by rw [Ip];exact cV vo,x (1 - sd),dx,_,rfl,UT,rfl,B,x (1 - sd),_,_,L' (1 - sd),rfl,Ux,?_⟩
  refine ⟨_,rfl,_,rfl,_,_,rfl,rfl,eL,_,_,_,rfl,rfl,Uy,by rw [Ip];exact cV vo,_,rfl,B,x (1 - sd),tA (1 - sd),pA (1 - sd),r,L' (1 - sd),xs,rfl,Ux,by omega,aT.of er,Xz,fun z=>absurd z HF.1,fun _ _ r0 H5 s5 nr0 e0=>?_,fun _ z=>absurd z hx⟩
  have CC:=xl.same s5
  refine ⟨zz2,fun p0 DQ=>?_⟩
  have S6:aJ H5 (upd H5 p0 (.lst [.int 9,.int 1])):=(aJ.refl _).new DQ
  have SE:=CC.same S6
  refine ⟨r0,p0,_,_,rfl,rfl,aT.of (S6 _ _ e0),aT.of aB,.inl ⟨rfl,fun j u v hu hv=>?_,?_⟩⟩
  ·rw [hu] at hv;cases hv
   match j,hu with
   | 0,hu=>cases hu;exact .int 9
   | 1,hu=>cases hu;exact .int 1
   | j+2,hu=>cases hu
  refine ⟨_,rfl,ja ?_⟩
  have Zq:=SE.lk (1 - sd) vo
  obtain ⟨Xp,_,Xq,_⟩:=Zq.at_
  refine ⟨_,rfl,_,rfl,_,_,rfl,rfl,eL,_,_,_,rfl,rfl,aT.of (SE.sb _ _ (sB _ _ LO)),by rw [Ip];exact cV vo,x (1 - sd),Xp,_,rfl,Xq,rfl,B,x (1 - sd),_,_,L' (1 - sd),rfl,Zq,_,rfl,rfl,?_⟩
  rw [show decide (V.int ((L' (1 - sd)).bR.length:Int)=V.int ((L' (1 - sd)).bR.length:Int))=true from decide_eq_true rfl]
  exact q B _ _ L' ρ4 W' sB SE YC (fun s hs=>(RL s hs).same (aJ.refl _) fun o e=>by rw [aE (R9 _ _ e)];exact e) fun a o h0 h1 e=>by
   have e':=fr a o h0 h1 e
   rw [aE (R9 _ _ e')];exact e'
def t8 (q s:Int):Nat→Lk
 | 0=>RA q s
 | 1=>⟨q,s,1,1,1,0,none,[],[],0,0⟩
 | 2=>⟨q,s,2,0,1,1,none,[],[],0,0⟩
 | _=>⟨q,s,3,0,1,1,some (1,1),[.mk "up" (1,1) []],[],0,0⟩
def RM:Nat→List Cl
 | 0=>[]
 | 1=>[⟨1,0,0,0,[]⟩]
 | _=>[⟨1,1,0,0,[]⟩]
theorem HQ {q s:Int} (hq:1≤q):∀ i,i < 3→kO (t8 q s i) (RM i)=t8 q s (i+1)∧RM (i+1)=[kN (t8 q s (i+1))]:=by
 have hn:¬ q≤0:=by omega
 intro i hi
 match i,hi with
 | 0,_=>exact ⟨rfl,rfl⟩
 | 1,_ =>
  refine ⟨?_,rfl⟩
  show kO (t8 q s 1) [⟨1,0,0,0,[]⟩]=_
  unfold kO eY
  rw [if_neg (fun z=>hn z.2)];rfl
 | 2,_ =>
  refine ⟨?_,rfl⟩
  show kO (t8 q s 2) [⟨1,1,0,0,[]⟩]=_
  have e:gu (t8 q s 2) ⟨1,1,0,0,[]⟩=⟨q,s,2,0,1,1,some (1,1),[.mk "up" (1,1) []],[],0,0⟩:=by
   have c:iK (dX (t8 q s 2) 1)=⟨q,s,2,0,1,1,some (1,1),[.mk "up" (1,1) []],[],0,0⟩:=by
    show (⟨q,s,2,0,1,1,some (if s=0 then ((1:Int),(1:Int)) else (1,1)),[] ++ [.mk "up" (if s=0 then ((1:Int),(1:Int)) else (1,1)) []],[],0,0⟩:Lk)=_
    rw [ite_self];rfl
   have r:gu (t8 q s 2) ⟨1,1,0,0,[]⟩=kM (iY (iK (dX (t8 q s 2) 1)) 0) 0 []:=rfl
   rw [r,c];rfl
  have h:bL (t8 q s 2) [⟨1,1,0,0,[]⟩]=⟨q,s,2,0,1,1,some (1,1),[.mk "up" (1,1) []],[],0,0⟩:=e
  unfold kO eY
  rw [h,if_neg (fun z=>hn z.2)];rfl
theorem Uz:HG 1:=⟨by decide,by decide⟩
theorem U0 (q s:Int) (i:Nat):xS (t8 q s i)∧(t8 q s i).b=1∧(t8 q s i).ev.length≤1:=by
 match i with
 | 0=>exact ⟨⟨LD,rW,rW,fun xs hx=>by cases hx⟩,rfl,Nat.zero_le _⟩
 | 1=>exact ⟨⟨LD,rW,rW,fun xs hx=>by cases hx⟩,rfl,Nat.zero_le _⟩
 | 2=>exact ⟨⟨Uz,rW,rW,fun xs hx=>by cases hx⟩,rfl,Nat.zero_le _⟩
 | i+3=>exact ⟨⟨Uz,rW,rW,fun xs hx=>by cases hx⟩,rfl,Nat.le_refl _⟩
theorem YD (q s:Int) {i:Nat} (h:i < 3):(t8 q s i).p=none∧(t8 q s i).ev=[]∧(t8 q s i).bR=[]:=by
 match i,h with
 | 0,_=>exact ⟨rfl,rfl,rfl⟩
 | 1,_=>exact ⟨rfl,rfl,rfl⟩
 | 2,_=>exact ⟨rfl,rfl,rfl⟩
theorem Nu {i:Nat} {c:Cl} (h:c ∈ RM i):je c:=by
 match i,h with
 | 0,h=>cases h
 | 1,h=>rw [List.mem_singleton.mp h];exact ⟨⟨by decide,by decide⟩,LD,rW,rW,Nat.zero_le _,fun v hv=>by cases hv⟩
 | i+2,h =>
  have h:c ∈ [(⟨1,1,0,0,[]⟩:Cl)]:=h
  rw [List.mem_singleton.mp h];exact ⟨⟨by decide,by decide⟩,⟨by decide,by decide⟩,rW,rW,Nat.zero_le _,fun v hv=>by cases hv⟩
structure Pl (q:Int) (L:Nat→Lk) (W:Nat→List (List Int)) (O K:Nat→Nat) (c:Nat→Cl):Prop where
 at_:∀ s,s < 2→(L s).b=1∧(L s).k=1∧(L s).p=some (1,1)∧(L s).q=q∧(L s).ev=[]
 of:∀ s,s < 2→(L s).of=(O s:Int) % 97
 tk:∀ s,s < 2→(L s).tk=(K s:Int) % 97
 pc:∀ s,s < 2→(L s).bR=(W s).drop (O s)
 rel:∀ s,s < 2→O s≤K (1 - s)∧K (1 - s)≤O s+1∧K (1 - s)≤(W s).length
 cl:∀ s,s < 2→(c s).b=1∧(c s).k=1∧(c s).n=(O s:Int) % 97∧(c s).c=(K s:Int) % 97∧((c s).xs=[]∨(W s)[O s]?=some (c s).xs)
 wp:∀ s,s < 2→∀ xs ∈ W s,ye xs
theorem LR {xs:List Int} (h:ye xs):xs.length≤10∧∀ v ∈ xs,Ig v:=⟨h.1.2,h.2⟩
section
variable {q:Int} {L:Nat→Lk} {W:Nat→List (List Int)} {O K:Nat→Nat} {c:Nat→Cl} {s:Nat}
theorem Pl.ok (h:Pl q L W O K c) (hs:s < 2):xS (L s)∧je (c s):=by
 obtain ⟨a1,a2,_⟩:=h.at_ s hs
 obtain ⟨c1,c2,c3,c4,c5⟩:=h.cl s hs
 refine ⟨⟨by rw [a2];exact ⟨by decide,by decide⟩,by rw [h.of s hs];exact rG _,by rw [h.tk s hs];exact rG _,fun xs hx=>LR (h.wp s hs xs (List.mem_of_mem_drop (by rw [← h.pc s hs];exact hx)))⟩,by rw [c1];exact ⟨by decide,by decide⟩,by rw [c2];exact ⟨by decide,by decide⟩,by rw [c3];exact rG _,by rw [c4];exact rG _,?_,?_⟩
 ·rcases c5 with z | z
  ·rw [z];exact Nat.zero_le _
  ·exact (LR (h.wp s hs _ (List.mem_of_getElem? z))).1
 ·rcases c5 with z | z
  ·rw [z];intro v hv;cases hv
  ·exact (LR (h.wp s hs _ (List.mem_of_getElem? z))).2
theorem Pl.tick (h:Pl q L W O K c) (hq:1≤q) (hs:s < 2):∃ L':Lk,kO (L s) [c (1 - s)]=L'∧(L'.b=1∧L'.k=1∧L'.p=some (1,1)∧L'.q=q)∧L'.of=(K (1 - s):Int) % 97∧L'.tk=((K s+L'.ev.length:Nat):Int) % 97∧L'.bR=(W s).drop (K (1 - s))∧(L'.ev=[]∨∃ xs,L'.ev=[.took xs]∧K s=O (1 - s)∧(W (1 - s))[K s]?=some xs):=by
 obtain ⟨a1,a2,a3,a4,a5⟩:=h.at_ s hs
 have vo:1 - s < 2:=by omega
 have Ip:1 - (1 - s)=s:=by omega
 obtain ⟨c1,c2,c3,c4,c5⟩:=h.cl (1 - s) vo
 obtain ⟨r1,r2,r3⟩:=h.rel s hs
 obtain ⟨r4,r5,r6⟩:=h.rel (1 - s) vo
 rw [Ip] at r4 r5 r6
 have ho:=h.of s hs
 have ht:=h.tk s hs
 have hp:=h.pc s hs
 have em:dX (L s) (c (1 - s)).b=L s:=by
  have e:(if (L s).k < 1 then ({ L s with p:=none,bR:=[],of:=0,tk:=0,k:=1,ev:=(L s).ev ++ [.mk "anew" (1,1) []] }:Lk) else { L s with k:=1 })=L s:=by
   rw [if_neg (by omega)]
   generalize L s=X at a2
   obtain ⟨q,s,d,u,b,k,p,ev,bR,of,tk⟩:=X
   simp only at a2
   subst a2;rfl
  unfold dX
  rw [c1]
  split
  ·rename_i z;rw [a3] at z;cases z
  ·rename_i p z;rw [a3] at z;cases z;exact e
 have ec:iK (L s)=L s:=by unfold iK;rw [a3]
 have er:gu (L s) (c (1 - s))=kM (iY (L s) (c (1 - s)).c) (c (1 - s)).n (c (1 - s)).xs:=by
  unfold gu
  rw [if_neg (by omega),em,if_pos (by omega),ec]
 have eh:iY (L s) (c (1 - s)).c={ L s with bR:=(W s).drop (K (1 - s)),of:=(K (1 - s):Int) % 97 }:=by
  unfold iY
  by_cases z:K (1 - s)=O s
  ·rw [if_neg (fun y=>by have y:=y.2;rw [c4,ho] at y;omega),z,← ho,← hp]
  ·have z':K (1 - s)=O s+1:=by omega
   rw [if_pos ⟨fun y=>by rw [hp,List.drop_eq_nil_iff] at y;omega,by rw [c4,ho];omega⟩,hp,List.tail_drop,z',ho,show ((O s:Int) % 97+1) % 97=((O s+1:Nat):Int) % 97 by omega]
 rw [eh] at er
 have eL:∀ R:Lk,gu (L s) (c (1 - s))=R→R.q=q→kO (L s) [c (1 - s)]={ R with u:=0,d:=R.d+1 }:=fun R hR hRq=>by
  have hh:bL (L s) [c (1 - s)]=R:=hR
  unfold kO eY
  rw [hh,if_neg (fun z=>by have z:R.q≤0:=z.2;omega)];rfl
 by_cases z:(c (1 - s)).xs≠[]∧(c (1 - s)).n=(L s).tk
 ·have et:kM { L s with bR:=(W s).drop (K (1 - s)),of:=(K (1 - s):Int) % 97 } (c (1 - s)).n (c (1 - s)).xs={ L s with bR:=(W s).drop (K (1 - s)),of:=(K (1 - s):Int) % 97,ev:=(L s).ev ++ [Ev.took (c (1 - s)).xs],tk:=((L s).tk+1) % 97 }:=if_pos z
  rw [et] at er
  refine ⟨_,eL _ er a4,⟨a1,a2,a3,a4⟩,rfl,?_,rfl,.inr ⟨(c (1 - s)).xs,?_,?_⟩⟩
  ·show ((L s).tk+1) % 97=((K s+((L s).ev ++ [Ev.took (c (1 - s)).xs]).length:Nat):Int) % 97
   rw [a5,ht]
   show _=((K s+1:Nat):Int) % 97
   omega
  ·show (L s).ev ++ [Ev.took (c (1 - s)).xs]=_
   rw [a5];rfl
  ·have z2:=z.2
   rw [c3,ht] at z2
   have:K s=O (1 - s):=by omega
   exact ⟨this,by rw [this];exact c5.resolve_left z.1⟩
 ·have et:kM { L s with bR:=(W s).drop (K (1 - s)),of:=(K (1 - s):Int) % 97 } (c (1 - s)).n (c (1 - s)).xs={ L s with bR:=(W s).drop (K (1 - s)),of:=(K (1 - s):Int) % 97 }:=if_neg z
  rw [et] at er
  refine ⟨_,eL _ er a4,⟨a1,a2,a3,a4⟩,rfl,?_,rfl,.inl a5⟩
  show (L s).tk=((K s+(L s).ev.length:Nat):Int) % 97
  rw [a5,ht];rfl
theorem Pl.step {L':Nat→Lk} (h:Pl q L W O K c) (hq:1≤q) (hL:∀ s,s < 2→L' s=kO (L s) [c (1 - s)]) :
  Pl q (JS L') W (fun s=>K (1 - s)) (fun s=>K s+(L' s).ev.length) (fun s=>kN (L' s))∧(∀ s,s < 2→K s+(L' s).ev.length≤(W (1 - s)).length)∧(∀ s,s < 2→∀ i e,(L' s).ev[i]?=some e→∃ xs,e=.took xs∧(W (1 - s))[K s+i]?=some xs)∧(∀ s,s < 2→(W s).length≤(L' s).bR.length+(K (1 - s)+(L' (1 - s)).ev.length)∧(L' s).bR.length≤(W s).length):=by
 have T:∀ s,s < 2→((L' s).b=1∧(L' s).k=1∧(L' s).p=some (1,1)∧(L' s).q=q)∧(L' s).of=(K (1 - s):Int) % 97∧(L' s).tk=((K s+(L' s).ev.length:Nat):Int) % 97∧(L' s).bR=(W s).drop (K (1 - s))∧((L' s).ev=[]∨∃ xs,(L' s).ev=[.took xs]∧K s=O (1 - s)∧(W (1 - s))[K s]?=some xs):=fun s hs=>by
  obtain ⟨X,e,h1⟩:=h.tick hq hs
  rw [hL s hs,e];exact h1
 have le:∀ s,s < 2→K s+(L' s).ev.length≤(W (1 - s)).length∧(L' s).ev.length≤1:=fun s hs=>by
  obtain ⟨_,_,_,_,z | ⟨xs,z,_,y⟩⟩:=T s hs
  ·have:=(h.rel (1 - s) (by omega)).2.2
   rw [show 1 - (1 - s)=s by omega] at this
   rw [z];exact ⟨this,Nat.zero_le _⟩
  ·have:=(List.getElem?_eq_some_iff.mp y).1
   rw [z];exact ⟨this,Nat.le_refl _⟩
 refine ⟨⟨fun s hs=>?_,fun s hs=>(T s hs).2.1,fun s hs=>(T s hs).2.2.1,fun s hs=>(T s hs).2.2.2.1,fun s hs=>?_,fun s hs=>?_,h.wp⟩,fun s hs=>(le s hs).1,fun s hs i e he=>?_,fun s hs=>?_⟩
 ·obtain ⟨⟨a1,a2,a3,a4⟩,_⟩:=T s hs
  exact ⟨a1,a2,a3,a4,rfl⟩
 ·have vo:1 - s < 2:=by omega
  have:=le (1 - s) vo
  rw [show 1 - (1 - s)=s by omega] at this
  exact ⟨by show K (1 - s)≤K (1 - s)+_;omega,by show K (1 - s)+_≤K (1 - s)+1;omega,this.1⟩
 ·obtain ⟨⟨a1,a2,_⟩,a5,a6,a7,_⟩:=T s hs
  refine ⟨a1,a2,a5,a6,?_⟩
  show (L' s).bR.headD []=[]∨(W s)[K (1 - s)]?=some ((L' s).bR.headD [])
  rw [a7]
  cases e:(W s).drop (K (1 - s)) with
  | nil=>exact .inl rfl
  | cons x r =>
   right
   have:((W s).drop (K (1 - s)))[0]?=some x:=by rw [e];rfl
   rw [List.getElem?_drop] at this
   exact this
 ·obtain ⟨_,_,_,_,z | ⟨xs,z,_,y⟩⟩:=T s hs
  ·rw [z] at he;cases he
  ·rw [z] at he
   cases i with
   | zero=>cases he;exact ⟨xs,rfl,y⟩
   | succ i=>cases he
 ·obtain ⟨_,_,_,a7,_⟩:=T s hs
  have:=(h.rel s hs).2.2
  rw [a7,List.length_drop];omega
theorem Pl.put {L':Nat→Lk} {W':Nat→List (List Int)} (h:Pl q L W O K c) (hp:LQ L L' W W'):Pl q L' W' O K c:=by
 rcases hp with ⟨rfl,rfl⟩ | ⟨sd,xs,iW,hx,rfl,rfl⟩
 ·exact h
 have ow:=h.rel sd iW
 have e:∀ s,(at2 L sd { L sd with bR:=(L sd).bR ++ [xs] } s).b=(L s).b∧(at2 L sd { L sd with bR:=(L sd).bR ++ [xs] } s).k=(L s).k∧(at2 L sd { L sd with bR:=(L sd).bR ++ [xs] } s).p=(L s).p∧(at2 L sd { L sd with bR:=(L sd).bR ++ [xs] } s).q=(L s).q∧(at2 L sd { L sd with bR:=(L sd).bR ++ [xs] } s).ev=(L s).ev∧(at2 L sd { L sd with bR:=(L sd).bR ++ [xs] } s).of=(L s).of∧(at2 L sd { L sd with bR:=(L sd).bR ++ [xs] } s).tk=(L s).tk:=fun s=>by
  by_cases z:s=sd
  ·rw [z,ay];exact ⟨rfl,rfl,rfl,rfl,rfl,rfl,rfl⟩
  ·rw [bY z];exact ⟨rfl,rfl,rfl,rfl,rfl,rfl,rfl⟩
 have wl:∀ s,∃ r,at2 W sd (W sd ++ [xs]) s=W s ++ r:=fun s=>by
  by_cases z:s=sd
  ·rw [z,ay];exact ⟨_,rfl⟩
  ·rw [bY z];exact ⟨[],(List.append_nil _).symm⟩
 refine ⟨fun s hs=>?_,fun s hs=>?_,fun s hs=>?_,fun s hs=>?_,fun s hs=>?_,fun s hs=>?_,fun s hs ys hy=>?_⟩
 ·obtain ⟨e1,e2,e3,e4,e5,_⟩:=e s
  rw [e1,e2,e3,e4,e5];exact h.at_ s hs
 ·rw [(e s).2.2.2.2.2.1];exact h.of s hs
 ·rw [(e s).2.2.2.2.2.2];exact h.tk s hs
 ·by_cases z:s=sd
  ·rw [z,ay,ay,List.drop_append_of_le_length (by omega),← h.pc sd iW]
  ·rw [bY z,bY z];exact h.pc s hs
 ·obtain ⟨r,er⟩:=wl s
  have:=h.rel s hs
  rw [er,List.length_append];omega
 ·obtain ⟨r,er⟩:=wl s
  obtain ⟨c1,c2,c3,c4,c5⟩:=h.cl s hs
  refine ⟨c1,c2,c3,c4,c5.imp id fun y=>?_⟩
  rw [er,List.getElem?_append_left (List.getElem?_eq_some_iff.mp y).1];exact y
 ·by_cases z:s=sd
  ·rw [z,ay] at hy
   rcases List.mem_append.mp hy with y | y
   ·exact h.wp sd iW ys y
   ·rw [List.mem_singleton.mp y];exact hx
  ·rw [bY z] at hy;exact h.wp s hs ys hy
theorem Pl.start (q:Int):Pl q (JS fun s=>t8 q (s:Int) 3) (fun _=>[]) (fun _=>0) (fun _=>0) (fun _=>⟨1,1,0,0,[]⟩) :=
 ⟨fun s hs=>⟨rfl,rfl,rfl,rfl,rfl⟩,fun s hs=>rfl,fun s hs=>rfl,fun s hs=>rfl,fun s hs=>⟨Nat.le_refl _,by decide,Nat.le_refl _⟩,fun s hs=>⟨rfl,rfl,rfl,rfl,.inl rfl⟩,fun s hs xs hx=>by cases hx⟩
end
def oo:Sp:=fun vs H Q _=>∃ n:Int,vs=[.int n]∧0≤n∧∀ (a:Addr) (x y:Int),O0 x y→H a=none→Q (.ref a) (upd H a (.tup [.int x,.int y]))
theorem xD:aP ["number"] ["number"] (aG iA):=⟨rfl,rfl,rfl,by decide +kernel,rfl,by decide +kernel,by decide +kernel⟩
theorem xE (F:aO K mg "_law_measure" iA):Def P w K mg base 1 "_law_measure" ["number"] oo:=by
 refine F.def xD (fun _ _ _ _ _ _ us hl=>match us,hl with | [_],_=>rfl) (fun vs H Q E h=>?_) (fun f bM A outer s H vs Q E hr h=>?_)
 ·obtain ⟨n,rfl,_⟩:=h
  rfl
 ·obtain ⟨n,rfl,n0,q⟩:=h
  refine ⟨_,aC (bG (aV mH (aN az (pv 0) aF) aF (aa _))
    (aH (aY (eQ (aA (aN bj aF (aN az (aN jN (pv 0) aF) aF)) (aA (aN az (aN jN (pv 0) aF) aF) aD)))))
    (aj))
   (aH (aY (eQ (aA (aN bj aF (aN az (aN jN (pv 0) aF) aF)) (aA (aN az (aN jN (pv 0) aF) aF) aD))))),?_⟩
  have d8:0≤n / 8:=Int.ediv_nonneg n0 (by decide)
  have d48:0≤n / 48:=Int.ediv_nonneg n0 (by decide)
  have d24:0≤n / 24:=Int.ediv_nonneg n0 (by decide)
  refine ⟨_,rfl,_,_,rfl,rfl,(by show (0:Int) < 8;decide),rfl,_,rfl,?_⟩
  by_cases h7:n % 8=7
  ·refine g7 (by show V.int (n % 8)=V.int 7;rw [h7]) ?_
   refine ⟨_,rfl,_,_,rfl,rfl,⟨by decide,by decide⟩,_,_,rfl,rfl,(by show (0:Int) < 6;decide),_,_,rfl,rfl,_,rfl,_,_,rfl,rfl,⟨by decide,by decide⟩,_,_,rfl,rfl,(by show (0:Int) < 5;decide),zz2,fun a ha=>?_⟩
   exact q a _ _ ⟨by omega,by omega⟩ ha
  ·refine ie (fun z=>h7 (V.int.inj z)) ?_
   refine ⟨_,rfl,_,_,rfl,rfl,⟨by decide,by decide⟩,_,_,rfl,rfl,(by show (0:Int) < 3;decide),_,_,rfl,rfl,_,rfl,_,_,rfl,rfl,⟨by decide,by decide⟩,_,_,rfl,rfl,(by show (0:Int) < 3;decide),zz2,fun a ha=>?_⟩
   exact q a _ _ ⟨by omega,by omega⟩ ha
theorem rJ {K:PySem.W.Frag} {H:Hp} {xs:List Int}:∀ (j:Nat) (u v:V),(xs.map V.int)[j]?=some u→(xs.map V.int)[j]?=some v→vP K H 8 u v:=fun j u v hu hv=>by
 rw [hu] at hv
 cases hv
 obtain ⟨z,_,rfl⟩:=lC hu
 exact .flat _ rfl
theorem Nv {K:PySem.W.Frag} {H:Hp} {e a1 a2 pa:Addr} (w1:H e=some (.tup [.str "up",.ref pa])) (w2:H pa=some (.tup [.int 1,.int 1])) (EB:H a2=some (.tup [.str "up",.ref a1])) (EA:H a1=some (.tup [.int 1,.int 1])):vP K H 8 (.ref e) (.ref a2) :=
 .tup (n:=7) (jZ.of w1) (jZ.of EB) rfl fun j x y hx hy=>by
  match j,hx,hy with
  | 0,hx,hy=>cases hx;cases hy;exact .flat _ rfl
  | 1,hx,hy =>
   cases hx;cases hy
   exact .tup (n:=6) (jZ.of w2) (jZ.of EA) rfl fun j x y hx hy=>by
    match j,hx,hy with
    | 0,hx,hy=>cases hx;cases hy;exact .flat _ rfl
    | 1,hx,hy=>cases hx;cases hy;exact .flat _ rfl
    | j+2,hx,hy=>cases hx
  | j+2,hx,hy=>cases hx
theorem Nw {X:Cx} {es:List Expr} {tt:TA} {pos:Pos} (h:Qd X es tt):PE X (.List es pos) (Pu tt):=ai h.out
theorem Nx {X:Cx} {z:Str} {i j:Int} {c d e k l:Nat} {p q r s u pos:Pos}:PE X (.List [.Tuple [.Constant (.str z) c p,.Tuple [.Constant (.int i) d q,.Constant (.int j) e r] k s] l u] pos) (Pu (pJ (Jm (pJ (tC (.str z)) (pJ (Jm (pJ (tC (.int i)) (pJ (tC (.int j)) zL))) zL))) zL)):=Nw (Gp (Ow (BL (XR cR) (Gp (Ow (BL Ov (BL Ov Ke))) Ke))) Ke)
theorem FW {x:Nat→Addr} {i:Nat} {v:V} (h:[V.ref (x 0),V.ref (x 1)][i]?=some v):i < 2∧v=.ref (x i):=by
 match i,h with
 | 0,h=>cases h;exact ⟨by decide,rfl⟩
 | 1,h=>cases h;exact ⟨by decide,rfl⟩
 | i+2,h=>cases h
theorem Iq {a:Cl} (h:je a):IsCell 24 (au a)∧O6 (au a) (some a):=by
 have c:=DL h
 refine ⟨c,h,c.b,My.BN _,?_⟩
 have:My.kB 24 (au a) (au a)=[]:=List.eq_nil_iff_forall_not_mem.mpr fun i hi=>(My.gO.mp hi).2 rfl
 rw [this];exact Nat.zero_le _
section
variable {C:Addr} {B H B' H' E E':Hp} {x tA pA:Nat→Addr} {L:Nat→Lk} {ρ:Addr→Nat} {s:Nat}
theorem Tw.U1 (h:Tw C B H E x tA pA L ρ) (s:aJ H H'):∃ B',aJ B B'∧Tw C B' H' E x tA pA L ρ∧∀ a o,H a=none→H' a=some o→B' a=some o:=by
 classical
 let B':Hp:=fun a=>if H a=none then H' a else B a
 have bn:∀ a,H a=none→B' a=H' a:=fun a e=>if_pos e
 have bo:∀ a,H a≠none→B' a=B a:=fun a e=>if_neg e
 have sB:aJ B B':=fun a o e=>by rw [bo a (fun z=>by rw [h.sb _ _ e] at z;cases z)];exact e
 have no:∀ b,H b≠none→B b=none→B' b=none:=fun b hb e=>by rw [bo b hb];exact e
 have LK:aJ B' H':=fun b u e=>by
  by_cases z:H b=none
  ·rw [bn b z] at e;exact e
  ·rw [bo b z] at e;exact s _ _ (h.sb _ _ e)
 exact ⟨B',sB,⟨LK,fun i hi=>(h.lk i hi).mv LK sB no (fun o e=>s _ _ e) (fun o e=>s _ _ e) (fun o e=>s _ _ e),h.rx,h.rt,h.rp,h.ee.trans s,fun a hi=>no _ (h.he hi) (h.eb a hi),h.er,h.en⟩,fun a o e e'=>by rw [bn a e];exact e'⟩
theorem Tw.LS {sd:Nat} {D p pB:Addr} {cn:Nat→Addr} {L':Lk} {o:HO} (st:Tw C B H E x tA pA L ρ) (iW:sd < 2) (hD:E D=some (.lst (bN sd cn))) (mv:j1 B H B' H' (x sd) (tA sd) (pA sd) (tA sd) pB) (lk:bE C B' H' (x sd) (tA sd) pB L') (np:H p=none) (bp:B' p=none) (Q8:p≠pB) (ep:H' p=some o) :
  ∃ B2 ρ2,aJ B B2∧B2 p=some o∧H' D=some (.lst (bN sd cn))∧Tw C B2 (upd H' D (.lst (bN sd cn ++ [.ref p]))) (upd E D (.lst (bN sd cn ++ [.ref p]))) x tA (at2 pA sd pB) (at2 L sd L') ρ2:=by
 obtain ⟨ρ1,FU,_⟩:=st.Xu iW mv lk
 have eT:at2 tA sd (tA sd)=tA:=yf
 rw [eT] at FU
 obtain ⟨wt,sB⟩:=FU.O9 ep bp (fun s hs=>⟨fun z=>(st.lk s hs).hx (by rw [← z];exact np),fun z=>(st.lk s hs).ht (by rw [← z];exact np),fun z=>by
  by_cases y:s=sd
  ·rw [y,ay] at z;exact Q8 z
  ·rw [bY y] at z;exact (st.lk s hs).hp (by rw [← z];exact np)⟩) (Classical.byContradiction fun z=>st.he z np)
 have hDH:=wt.ee _ _ hD
 obtain ⟨ρ3,xH⟩:=wt.put (a:=D) (o:=.lst (bN sd cn ++ [.ref p])) (by rw [hD];exact fun z=>by cases z) (bu _)
 exact ⟨_,ρ3,mv.bb.trans sB,aB,hDH,xH⟩
end
def U2 (B:Hp) (vs:Nat→V) (cs:List Cl):Prop:=∀ s,s < 2→(cs=[]∧vs s=.bH)∨∃ a p,cs=[a]∧vs s=.ref p∧B p=some (.lst (tabI 24 (au a)))
theorem U2.same {B B':Hp} {vs:Nat→V} {cs:List Cl} (h:U2 B vs cs) (s:aJ B B'):U2 B' vs cs:=fun i hi=>(h i hi).imp id fun ⟨a,p,e1,e2,e3⟩=>⟨a,p,e1,e2,s _ _ e3⟩
structure Fx (K:PySem.W.Frag) (B:Hp) (sc ma eL dL cL:Addr) (ns:List Int) (late lost:Int) (x du ca:Nat→Addr):Prop where
 sc:aT K B sc (ns.map V.int)
 ma:B ma=some (.tup [.int late,.int lost])
 eL:B eL=some (.lst [.ref (x 0),.ref (x 1)])
 dL:B dL=some (.lst [.ref (du 0),.ref (du 1)])
 cL:B cL=some (.lst [.ref (ca 0),.ref (ca 1)])
theorem Fx.same {K:PySem.W.Frag} {B B':Hp} {sc ma eL dL cL:Addr} {ns:List Int} {late lost:Int} {x du ca:Nat→Addr} (h:Fx K B sc ma eL dL cL ns late lost x du ca) (s:aJ B B'):Fx K B' sc ma eL dL cL ns late lost x du ca:=⟨s.seq h.sc,s _ _ h.ma,s _ _ h.eL,s _ _ h.dL,s _ _ h.cL⟩
def hv (cs:List Cl) (v:V):List V:=if cs=[] then [] else [v]
theorem LU {B H:Hp} {vs:Nat→V} {cs:List Cl} {s:Nat} {l:Addr} (h:U2 B vs cs) (hs:s < 2) (hH:H l=some (.lst (hv cs (vs s)))) (sb:aJ B H) (g:∀ c ∈ cs,je c):∃ FO fs,ZV H l FO fs∧cQ fs=cs∧fs.length≤1:=by
 rcases h s hs with ⟨rfl,_⟩ | ⟨a,p,rfl,e2,e3⟩
 ·exact ⟨fun _=>0,[],⟨hH,fun j c hj=>by cases hj⟩,rfl,Nat.zero_le _⟩
 ·refine ⟨fun _=>p,[(au a,some a)],⟨?_,fun j c hj=>?_⟩,rfl,Nat.le_refl _⟩
  ·rw [hH,e2];rfl
  ·cases j with
   | zero =>
    cases hj
    obtain ⟨k1,k2⟩:=Iq (g a (by simp))
    exact ⟨sb _ _ e3,k1,k2⟩
   | succ j=>cases hj
theorem Ny {f:Nat→V} {s:Nat} (h:s < 2):xJ [f 0,f 1] (s:Int)=some (f s):=by
 match s,h with
 | 0,_=>rfl
 | 1,_=>rfl
 | s+2,h=>omega
theorem LQ.le {L L':Nat→Lk} {W W':Nat→List (List Int)} {n:Nat} (h:LQ L L' W W') (hW:∀ s,s < 2→(W s).length≤n) (hL:∀ s,s < 2→(L s).bR.length≤n):∀ s,s < 2→(∃ r,W' s=W s ++ r)∧(W' s).length≤n+1∧(L' s).bR.length≤n+1:=fun s hs=>by
 have a1:=hW s hs
 have a2:=hL s hs
 rcases h with ⟨rfl,rfl⟩ | ⟨sd,xs,iW,hx,rfl,rfl⟩
 ·exact ⟨⟨[],(List.append_nil _).symm⟩,by omega,by omega⟩
 ·by_cases z:s=sd
  ·subst z
   rw [ay,ay]
   exact ⟨⟨_,rfl⟩,by rw [List.length_append];exact Nat.add_le_add_right a1 1,by show ((L s).bR ++ [xs]).length≤n+1;rw [List.length_append];exact Nat.add_le_add_right a2 1⟩
  ·rw [bY z,bY z]
   exact ⟨⟨[],(List.append_nil _).symm⟩,by omega,by omega⟩
theorem HR {K:PySem.W.Frag} {H:Hp}:∀ (j:Nat) (u v:V),[V.int 1,V.int 1][j]?=some u→[V.int 1,V.int 1][j]?=some v→vP K H 8 u v:=rJ (xs:=[1,1])
theorem fo:aP ["script","measure","bad","ends","end","cells","due","came","tick","handed","many"] ["script"] (aG yA):=⟨rfl,rfl,rfl,by decide +kernel,rfl,by decide +kernel,by decide +kernel⟩
set_option maxHeartbeats 4000000 in
theorem RN {f:Addr} {fd Uq Zr Us Zs PH:FuncData} (T:Txt K mg t) (F:mI K "law" "law" yA f fd) (qG:Def P w K mg base 1 "_law_cell" ["script","k"] (uu K)) (cW:Def P w K mg base 1 "_law_numbers" ["cell","many"] jf) (kQ:Def P w K mg base 1 "_law_measure" ["number"] oo) (iP:Def P w K mg base 6 "_law_made_heard" ["measure"] (kP K)) (bF:Def P w K mg base 4 "_law_put_heard" ["end","piece"] (iN K t.LinkEnd)) (qH:Def P w K mg base 5 "_law_puts" ["ends","due","cell"] (ux t.LinkEnd)) (qI:Def P w K mg base 3 "_law_went" ["ends","due","came"] (uw t.LinkEnd))
  (sr:bO P w K mg base (ic P w) 4 t.init Uq ["self","measure","side"] (Bj K t.LinkEnd t.BadMeasure)) (su:Binds K Uq ["self","measure","side"] []) (Bq:bO P w K mg base (ic P w) 9 t.yB Zr ["self","cells"] (HN t.LinkEnd)) (Br:Binds K Zr ["self","cells"] []) (jX:bO P w K mg base (ic P w) 1 t.mU Us ["self"] (vi t.LinkEnd)) (jY:Binds K Us ["self"] [])
  (FX:bO P w K mg base (ic P w) 1 t.Ku Zs ["self"] (O5 t.LinkEnd)) (FY:Binds K Zs ["self"] []) (fc:bO P w K mg base (ic P w) 1 t.nI PH ["self"] (ur t.LinkEnd)) (fe:Binds K PH ["self"] []):bO P w K mg base (ic P w) 10 f fd ["script"] (Ae K):=by
 refine F.W5 fo (fun vs H Q E h=>?_) (fun f bM A outer s H vs Q E hr h=>?_)
 ·obtain ⟨a,ns,rfl,_⟩:=h
  rfl
 ·obtain ⟨sc,ns,rfl,hS,hlen,q⟩:=h
  refine ⟨_,aC (aR (i:=1) fo.nd rfl (Or.inl rfl) (aZ (kQ.mono (by decide)) hr aX (aA (ag (aM K) (aZ (cW.mono (by decide)) hr aX (aA (aZ (qG.mono (by decide)) hr aX (aA (pv 0) (aA aF aD))) (aA aF aD))) aF (fun _ _=>rfl)) aD)))
   (aC (PS.A2 (cT PassesOwn.never rfl (bK K (ai (aA (eQ (aA aF (aA (ag (g8 K) (pv 1) aF (fun _ _=>rfl)) aD))) (aA (eQ (aA aF (aA aF aD))) (aA (eQ (aA (ag (g8 K) (pv 1) aF (fun _ _=>rfl)) (aA (xb r9 aF) aD))) (aA (eQ (aA (ag (g8 K) (pv 1) aF (fun _ _=>rfl)) (aA aF aD))) (aA (eQ (aA (xb r9 aF) (aA aF aD))) aD))))))) (ak (i:=2) fo.nd rfl (Or.inl rfl))
    (aH (bG (aV (nC K (uT hr)) (aZ (iP.mono (by decide)) hr aX (aA (pv 2) aD)) (ai (aA aF (aA aF aD))) (aa _))
     (aH (aY pE))
     (aj)))))
   (aC (aR (i:=3) fo.nd rfl (Or.inr rfl) (ai (aA (A9 T.yM (sr.mono (by decide)) hr (by rfl) T.yJ su .nil aX (aA (pv 1) (aA aF aD))) (aA (A9 T.yM (sr.mono (by decide)) hr (by rfl) T.yJ su .nil aX (aA (pv 1) (aA aF aD))) aD))))
   (aC (PS.A2 (cT PassesOwn.never rfl (bK K (pv 3)) (ak (i:=4) fo.nd rfl (Or.inl rfl))
    (aH (bG (PW.pt (rX (aV (nC K (uT hr)) (a8 (pv 4) T.aI T.rC (jX.mono (by decide)) hr jY .nil aX) (ai aD) (aa _)) (rX (aV uH (a8 (pv 4) T.aI T.kI (fc.mono (by decide)) hr fe .nil aX) aF (aa _)) (u7 (aV qr (a8 (pv 4) T.aI T.Cz (FX.mono (by decide)) hr FY .nil aX) eO (aa _))))))
     (aH (aY pE))
     (aj)))))
   (aC (aR (i:=5) fo.nd rfl (Or.inr rfl) (ai (aA eO (aA eO aD))))
   (aC (aR (i:=6) fo.nd rfl (Or.inl rfl) (ai (aA (ai aD) (aA (ai aD) aD))))
   (aC (aR (i:=7) fo.nd rfl (Or.inl rfl) (ai (aA (ai aD) (aA (ai aD) aD))))
   (aC (PS.A2 (cT PassesOwn.never rfl (cS (by rfl) T.dB (aA aF aD)) (ak (i:=8) fo.nd rfl (Or.inl rfl))
    (aC (cT PassesOwn.never rfl (bK K (pv 3)) (ak (i:=4) fo.nd rfl (Or.inl rfl))
     (aH (bG (PW.pt (rX (aV (nC K (uT hr)) (aZ (bF.mono (by decide)) hr aX (aA (pv 4) (aA (ai (aA aF aD)) aD))) (ai (aA aF (aA aF aD))) (aa _)) (rX (aV (nC K (uT hr)) (aZ (bF.mono (by decide)) hr aX (aA (pv 4) (aA (ai aD) aD))) (ai (aA aF (aA aF aD))) (aa _)) (u7 (aV qr (a8 (pv 4) T.aI T.Cz (FX.mono (by decide)) hr FY .nil aX) eO (aa _))))))
      (aH (aY pE))
      (aj))))
    (aC (aR (i:=9) fo.nd rfl (Or.inr rfl) (lA rfl (Nc:=["side","cells"]) (ix:=[none,some 5]) (cU (aG yA) ["script","measure","bad","ends","end","cells","due","came","tick","handed","many"] rfl rfl (by decide +kernel)) (cS (by rfl) T.dB (aA aF aD)) (fun C fp s H=>⟨(ak (i:=0) (show (["side","cells"]:List Str).Nodup by decide +kernel) rfl (Or.inl rfl)),cP,(lA rfl (Nc:=["cell"]) (ix:=[none]) (cU _ ["side","cells"] rfl rfl (by kernel_rfl)) (bK K (ai (aA (ag (aM K) (pv 1) (aN dc aF (pv 0)) (fun _ _=>rfl)) aD))) (fun C fp s H=>⟨(ak (i:=0) (show (["cell"]:List Str).Nodup by decide +kernel) rfl (Or.inl rfl)),(xK (aV qr (pv 0) eO (aa _))),(pv 0)⟩))⟩)))
    (aH (aR (i:=5) fo.nd rfl (Or.inr rfl) (lA rfl (Nc:=["side","ends","handed"]) (ix:=[none,some 3,some 9]) (cU (aG yA) ["script","measure","bad","ends","end","cells","due","came","tick","handed","many"] rfl rfl (by decide +kernel)) (cS (by rfl) T.dB (aA aF aD)) (fun C fp s H=>⟨(ak (i:=0) (show (["side","ends","handed"]:List Str).Nodup by decide +kernel) rfl (Or.inl rfl)),cP,(mw (ag (aM K) (pv 1) (pv 0) (fun _ _=>rfl)) T.aI T.G7 (Bq.mono (by decide)) hr Br .nil aX (aA (ag (aM K) (pv 2) (pv 0) (fun _ _=>rfl)) aD))⟩))))))))
   (aC (PS.A2 (cT PassesOwn.never rfl (bK K (pv 3)) (ak (i:=4) fo.nd rfl (Or.inl rfl))
    (aH (bG (PW.pt (rX (aV (nC K (uT hr)) (a8 (pv 4) T.aI T.rC (jX.mono (by decide)) hr jY .nil aX) Nx (aa _)) (rX (aV (Qe K (uT hr)) (a8 (pv 4) T.aI T.Cz (FX.mono (by decide)) hr FY .nil aX) (eQ (aA aF (aA aF aD))) (aa _)) (rX (aV uH (a8 (pv 4) T.aI T.kI (fc.mono (by decide)) hr fe .nil aX) aF (aa _)) (u7 (aV (nC K (uT hr)) (a8 (pv 4) T.aI T.rC (jX.mono (by decide)) hr jY .nil aX) (ai aD) (aa _)))))))
     (aH (aY pE))
     (aj)))))
   (aC (aR (i:=10) fo.nd rfl (Or.inl rfl) (bQ (Ha rfl) (by rfl) T.UL boot_min (aA aF (aA (bQ (bP K) (by rfl) T.kH boot_len (aA (pv 0) aD)) aD))))
   (aC (PS.A2 (cT PassesOwn.never rfl (cS (by rfl) T.dB (aA (aN bj (aN bj (pv 10) (aN ff aF (aN bj (ag (g8 K) (pv 1) aF (fun _ _=>rfl)) (ag (g8 K) (pv 1) aF (fun _ _=>rfl))))) aF) aD)) (ak (i:=8) fo.nd rfl (Or.inl rfl))
    (aC (BH (bG (PW.pt (xZ (aV AU (pv 8) (pv 10) (aa _)) (uC (mq (pF (aZ (qH.mono (by decide)) hr aX (aA (pv 3) (aA (pv 6) (aA (ag (aM K) (pv 0) (pv 8) (fun _ _=>rfl)) aD)))))))))
     (aH (aY pE))
     (aj)))
    (aC (aR (i:=5) fo.nd rfl (Or.inr rfl) (lA rfl (Nc:=["side","ends","cells"]) (ix:=[none,some 3,some 5]) (cU (aG yA) ["script","measure","bad","ends","end","cells","due","came","tick","handed","many"] rfl rfl (by decide +kernel)) (cS (by rfl) T.dB (aA aF aD)) (fun C fp s H=>⟨(ak (i:=0) (show (["side","ends","cells"]:List Str).Nodup by decide +kernel) rfl (Or.inl rfl)),cP,(mw (ag (aM K) (pv 1) (pv 0) (fun _ _=>rfl)) T.aI T.G7 (Bq.mono (by decide)) hr Br .nil aX (aA (ai (aA (ag (aM K) (pv 2) (aN dc aF (pv 0)) (fun _ _=>rfl)) aD)) aD))⟩)))
    (aH (bG (mq (pF (aZ (qI.mono (by decide)) hr aX (aA (pv 3) (aA (pv 6) (aA (pv 7) aD))))))
     (aH (aY pE))
     (aj)))))))
   (aH (aY (JZ (qs (Gn K (uT hr)) (a8 (ag (aM K) (pv 3) aF (fun _ _=>rfl)) T.aI T.Cz (FX.mono (by decide)) hr FY .nil aX) (eQ (aA aF (aA aF aD))) (aa _)) (JY (qs (Gn K (uT hr)) (a8 (ag (aM K) (pv 3) aF (fun _ _=>rfl)) T.aI T.Cz (FX.mono (by decide)) hr FY .nil aX) (eQ (aA aF (aA aF aD))) (aa _)))))))))))))))),?_⟩
  have qt:(1000001:Nat)≤sizeLine:=by decide
  refine ⟨_,rfl,sc,ns,0,rfl,hS,by decide,fun c=>?_⟩
  refine ⟨c,1,rfl,by decide,fun nl H1 Zt s1 nn1 e1 U3 hn1=>?_⟩
  obtain ⟨n0,rfl⟩:∃ n0,Zt=[n0]:=by
   match Zt,U3 with
   | [n0],_=>exact ⟨n0,rfl⟩
  refine ⟨nl,_,_,_,rfl,rfl,aT.of e1,rfl,n0,rfl,(hn1 n0 (by simp)).1,fun ma late lost hm Ul=>?_⟩
  obtain ⟨Sm,Em⟩:=bB (o:=.tup [.int late,.int lost]) Ul
  generalize upd H1 ma (.tup [.int late,.int lost])=H2 at *
  refine ⟨_,rfl,ma,_,_,_,rfl,rfl,jZ.of Em,rfl,zz2,fun q0 Q9=>?_⟩
  obtain ⟨S0,E0⟩:=bB (o:=.tup [.int 0,.int lost]) Q9
  refine ⟨zz2,fun q1 SF=>?_⟩
  obtain ⟨S1,E1⟩:=bB (o:=.tup [.int 7,.int 0]) SF
  refine ⟨_,rfl,ma,_,_,_,rfl,rfl,jZ.of (S1 _ _ (S0 _ _ Em)),rfl,1,rfl,zz2,fun q2 Zu=>?_⟩
  obtain ⟨S2,E2⟩:=bB (o:=.tup [.int late,.int (-1)]) Zu
  refine ⟨_,rfl,ma,_,_,_,rfl,rfl,jZ.of (S2 _ _ (S1 _ _ (S0 _ _ Em))),rfl,zz2,fun q3 Zv=>?_⟩
  obtain ⟨S3,E3⟩:=bB (o:=.tup [.int late,.int 5]) Zv
  refine ⟨1,rfl,zz2,fun q4 Zw=>?_⟩
  obtain ⟨S4,E4⟩:=bB (o:=.tup [.int (-1),.int 9]) Zw
  refine ⟨zz5,fun ql hql=>?_⟩
  obtain ⟨Sl,El⟩:=bB (o:=.lst [.ref q0,.ref q1,.ref q2,.ref q3,.ref q4]) hql
  have a4:=Sl
  have a3:=S4.trans a4
  have a2:=S3.trans a3
  have a1:=S2.trans a2
  have a0:=S1.trans a1
  have sM:=S0.trans a0
  replace E0:=a0 _ _ E0
  replace E1:=a1 _ _ E1
  replace E2:=a2 _ _ E2
  replace E3:=a3 _ _ E3
  replace E4:=a4 _ _ E4
  have Zx:=sM _ _ Em
  generalize upd _ ql _=H3 at *
  clear S0 S1 S2 S3 S4 Sl a0 a1 a2 a3 a4 Q9 SF Zu Zv Zw
  obtain ⟨⟨hm1,hm2⟩,hm3,hm4⟩:=hm
  have Ir:∀ z:Int,z.natAbs < 100→z.natAbs < 2 ^ 1000:=fun z hz=>Nat.lt_of_lt_of_le hz (by decide)
  have bad:∀ (i:Nat) (v:V),[V.ref q0,V.ref q1,V.ref q2,V.ref q3,V.ref q4][i]?=some v→∃ qa a b,v=.ref qa∧H3 qa=some (.tup [.int a,.int b])∧a.natAbs < 2 ^ 1000∧b.natAbs < 2 ^ 1000∧¬ O0 a b:=by
   intro i v hv
   match i,hv with
   | 0,hv=>cases hv;exact ⟨q0,_,_,rfl,E0,Ir _ (by omega),Ir _ (by omega),fun z=>by have:=z.1.1;omega⟩
   | 1,hv=>cases hv;exact ⟨q1,_,_,rfl,E1,Ir _ (by omega),Ir _ (by omega),fun z=>by have:=z.1.2;omega⟩
   | 2,hv=>cases hv;exact ⟨q2,_,_,rfl,E2,Ir _ (by omega),Ir _ (by omega),fun z=>by have:=z.2.1;omega⟩
   | 3,hv=>cases hv;exact ⟨q3,_,_,rfl,E3,Ir _ (by omega),Ir _ (by omega),fun z=>by have:=z.2.2;omega⟩
   | 4,hv=>cases hv;exact ⟨q4,_,_,rfl,E4,Ir _ (by omega),Ir _ (by omega),fun z=>by have:=z.1.1;omega⟩
   | i+5,hv=>cases hv
  refine ⟨ql,rfl,⟨_,aT.of El⟩,gM (K:=K) (a:=ql) (xs:=[V.ref q0,V.ref q1,V.ref q2,V.ref q3,V.ref q4]) (fun i σ H'=>∃ v2:Option V,σ=[some (.ref sc),some (.ref ma),v2,none,none,none,none,none,none,none,none]∧aJ H3 H') ⟨none,rfl,aJ.refl _⟩ (fun i σ H' _ ⟨_,_,s'⟩=>aT.of (s' _ _ El)) ?_ ?_⟩
  ·rintro i v σ H' hi ⟨v2,rfl,s'⟩
   obtain ⟨qa,a,b,rfl,hqa,za,zb,hn⟩:=bad i v hi
   refine ⟨_,rfl,qa,a,b,rfl,jZ.of (s' _ _ hqa),za,zb,hn,fun r H4 s4 nr er=>?_⟩
   refine ⟨zz2,fun p0 DQ=>?_⟩
   obtain ⟨S5,E5⟩:=bB (o:=.lst [.int 4,.int 1]) DQ
   refine ⟨r,p0,_,_,rfl,rfl,aT.of (S5 _ _ er),aT.of E5,.inl ⟨rfl,rJ (xs:=[4,1]),_,rfl,eS ?_⟩⟩
   exact ⟨_,rfl,s'.trans (s4.trans S5)⟩
  rintro σ H4 ⟨v2,rfl,s4⟩
  have e4:=s4 _ _ Zx
  have Zy:=(s1.trans (Sm.trans (sM.trans s4))).seq hS
  have za:=Ir late (by omega)
  have zb:=Ir lost (by omega)
  have hm:O0 late lost:=⟨⟨hm1,hm2⟩,hm3,hm4⟩
  clear bad El E0 E1 E2 E3 E4 s1 Sm sM s4 Zx Em
  refine ⟨_,rfl,fun x0 U4 Qt U5 Zz=>?_⟩
  have U6:aJ H4 (upd (upd H4 U4 (.own x0)) x0 (.ins t.LinkEnd U4 [])):=((aJ.refl _).new U5).new (by rw [aE (Ne.symm Zz)];exact Qt)
  refine ⟨x0,U4,ma,late,lost,0,rfl,aB,jZ.of (U6 _ _ e4),za,zb,.inr ⟨hm,LJ (upd (upd H4 U4 (.own x0)) x0 (.ins t.LinkEnd U4 [])) x0,yg,if_pos rfl,fun t0 p0 H5 JR g5 Z0 Z1 Ax=>⟨rfl,?_⟩⟩⟩
  have s5:aJ H4 H5:=fun y o e=>JR y o (aK e Qt) (U6 _ _ e)
  have e5:=s5 _ _ e4
  refine ⟨_,rfl,fun x1 yY xv U7 Z2=>?_⟩
  have U8:aJ H5 (upd (upd H5 yY (.own x1)) x1 (.ins t.LinkEnd yY [])):=((aJ.refl _).new U7).new (by rw [aE (Ne.symm Z2)];exact xv)
  refine ⟨x1,yY,ma,late,lost,1,rfl,aB,jZ.of (U8 _ _ e5),za,zb,.inr ⟨hm,LJ (upd (upd H5 yY (.own x1)) x1 (.ins t.LinkEnd yY [])) x1,yg,if_pos rfl,fun t1 p1 H6 Z3 g6 Z4 Z5 RI=>⟨rfl,?_⟩⟩⟩
  have s6:aJ H5 H6:=fun y o e=>Z3 y o (aK e xv) (U8 _ _ e)
  have LV:H5 t1=none:=U8.free Z4
  have LW:H5 p1=none:=U8.free Z5
  have U9:H4 t0=none:=U6.free Z0
  have VA:H4 p0=none:=U6.free Z1
  have VB:=Ax.same s6
  have ne:∀ {G:Hp} {a b:Addr},G a≠none→G b=none→a≠b:=fun {G a b} h1 h2 z=>h1 (by rw [z];exact h2)
  have Z6:[x0,x1,t0,t1,p0,p1].Nodup:=by
   simp only [List.nodup_cons,List.mem_cons,List.not_mem_nil,or_false,not_or,List.nodup_nil,and_true,not_false_eq_true]
   exact ⟨⟨ne Ax.hx xv,Ax.xt,ne Ax.hx LV,Ax.xp,ne Ax.hx LW⟩,⟨Ne.symm (ne Ax.ht xv),RI.xt,Ne.symm (ne Ax.hp xv),RI.xp⟩,⟨ne Ax.ht LV,Ax.ne,ne Ax.ht LW⟩,⟨Ne.symm (ne Ax.hp LV),RI.ne⟩,ne Ax.hp LW⟩
  have z4:∀ a,a ∈ [x0,x1,t0,t1,p0,p1]→H4 a=none:=by
   intro a ha
   simp only [List.mem_cons,List.not_mem_nil,or_false] at ha
   rcases ha with rfl | rfl | rfl | rfl | rfl | rfl
   ·exact Qt
   ·exact s5.free xv
   ·exact U9
   ·exact s5.free LV
   ·exact VA
   ·exact s5.free LW
  obtain ⟨B0,ρ0,Hx,YE⟩:=Tw.start (C:=t.LinkEnd) (H:=H6) (x:=jg x0 x1) (t:=jg t0 t1) (p:=jg p0 p1) (L:=fun s=>RA (late+lost) (s:Int)) Z6 (dC ⟨_,VB⟩ ⟨_,RI⟩) (fun s _=>⟨rfl,rfl,rfl⟩)
  have PL:B0 ma=some (.tup [.int late,.int lost]):=YE _ _ (fun h=>by rw [z4 ma h] at e4;cases e4) (s6 _ _ e5)
  have PM:aT K B0 sc (ns.map V.int):=by
   have cv:∀ a o,H4 a=some o→B0 a=some o:=fun a o e=>YE a o (fun h=>by rw [z4 a h] at e;cases e) (s6 _ _ (s5 _ _ e))
   rcases Zy with (h3 | ⟨u,h3⟩) | h3
   ·exact .inl (.inl (cv _ _ h3))
   ·exact .inl (.inr ⟨u,cv _ _ h3⟩)
   ·exact .inr h3
  refine ⟨zz2,fun eL LO=>?_⟩
  obtain ⟨SeL,EeL⟩:=bB (o:=.lst [.ref x0,.ref x1]) LO
  generalize upd H6 eL (.lst [.ref x0,.ref x1])=H7 at *
  obtain ⟨EF,YF⟩:=Hx.grow SeL LO EeL
  have PN:(upd B0 eL (.lst [.ref x0,.ref x1])) eL=some (.lst [.ref (jg x0 x1 0),.ref (jg x0 x1 1)]):=aB
  replace PL:=YF _ _ PL
  replace PM:=YF.seq PM
  generalize upd B0 eL (.lst [.ref x0,.ref x1])=B7 at *
  clear z4 Z6 YE YF VB Ax RI JR Z3 U6 U8 g5 g6 s5 s6 e4 e5 Zy
  generalize jg x0 x1=x at *
  generalize jg t0 t1=t7 at *
  generalize jg p0 p1=p7 at *
  clear Qt U5 Zz Z0 Z1 xv U7 Z2 Z4 Z5 LV LW U9 VA
  obtain ⟨qq,hqq⟩:∃ qq:Int,late+lost=qq:=⟨_,rfl⟩
  have SF:1≤qq:=by omega
  rw [hqq] at EF
  refine ⟨_,rfl,eL,rfl,⟨_,aT.of (EF.sb _ _ PN)⟩,gM (K:=K) (a:=eL) (xs:=[V.ref (x 0),V.ref (x 1)]) (fun i σ H'=>∃ (v4:Option V) (B:Hp) (tA:Nat→Addr) (ρ:Addr→Nat),σ=[some (.ref sc),some (.ref ma),v2,some (.ref eL),v4,none,none,none,none,none,none]∧aJ B7 B∧Tw t.LinkEnd B H' (fun _=>none) x tA p7 (fun s=>t8 qq (s:Int) 0) ρ) ⟨none,B7,t7,ρ0,rfl,aJ.refl _,EF⟩ (fun i σ H' _ ⟨_,_,_,_,_,sB,st⟩=>aT.of (st.sb _ _ (sB _ _ PN))) ?_ ?_⟩
  ·rintro i v σ H8 hi ⟨v4,B,tA,ρ,rfl,sB,st⟩
   obtain ⟨C5,rfl⟩:=FW hi
   have lk:=st.lk i C5
   obtain ⟨dx,_,hx,_⟩:=lk.at_
   refine ⟨_,rfl,x i,dx,_,rfl,hx,rfl,B,x i,tA i,p7 i,_,rfl,lk,fun H9 tB mv RD lk9 ev9=>?_⟩
   obtain ⟨B9,ρ9,sB9,MI,kz,PB,_⟩:=st.Vz C5 mv RD lk9 ev9
   replace MI:=MI.re (L':=fun s=>t8 qq (s:Int) 0) (fun s hs=>by
    by_cases z:s=i
    ·rw [z,ay];rfl
    ·rw [bY z])
   refine ⟨zz0,fun p0 DQ=>?_⟩
   obtain ⟨SA,EA⟩:=bB (o:=.lst []) DQ
   refine ⟨tA i,p0,_,_,rfl,rfl,aT.of (SA _ _ (MI.sb _ _ PB)),aT.of EA,.inl ⟨rfl,(fun j u v hu=>by cases hu),_,rfl,eS ?_⟩⟩
   have Z7:=MI.same SA
   have YG:=Z7.lk i C5
   obtain ⟨Z8,_,Z9,_⟩:=YG.at_
   refine ⟨_,rfl,x i,Z8,_,rfl,Z9,rfl,B9,x i,_,_,_,rfl,YG,rfl,_,rfl,eS ?_⟩
   refine ⟨_,rfl,x i,Z8,_,rfl,Z9,rfl,B9,x i,_,_,_,rfl,YG,fun pv Dt=>?_⟩
   have Dt:pv=.bH:=Dt
   subst Dt
   exact ⟨rfl,_,rfl,oZ rfl ⟨_,B9,_,ρ9,rfl,sB.trans sB9,Z7⟩⟩
  rintro σ H8 ⟨v4,B,tA,ρ,rfl,sB,st⟩
  replace PL:=sB _ _ PL
  replace PM:=sB.seq PM
  replace PN:=sB _ _ PN
  clear sB EF
  refine ⟨zz2,fun Nz VC=>?_⟩
  obtain ⟨ρ9,MI⟩:=st.new VC (bu [V.bH,V.bH])
  have xV:(upd (fun _=>none) Nz (.lst [V.bH,V.bH]):Hp) Nz=some (.lst [V.bH,V.bH]):=aB
  generalize upd H8 Nz (.lst [V.bH,V.bH])=H9 at *
  generalize upd (fun _=>none) Nz (.lst [V.bH,V.bH])=E9 at *
  refine ⟨zz0,fun d0 YH=>?_⟩
  have nE9:∀ a o,E9 a=some o→a≠d0:=fun a o e z=>by rw [z] at e;have:=MI.ee _ _ e;rw [YH] at this;cases this
  obtain ⟨ρ10,RO⟩:=MI.new YH (bu [])
  replace xV:(upd E9 d0 (.lst [])) Nz=some (.lst [V.bH,V.bH]):=by rw [aE (nE9 _ _ xV)];exact xV
  have HS:(upd E9 d0 (.lst [])) d0=some (.lst []):=aB
  generalize upd H9 d0 (.lst [])=QE at *
  generalize upd E9 d0 (.lst [])=VD at *
  clear nE9
  refine ⟨zz0,fun d1 TY=>?_⟩
  have N0:∀ a o,VD a=some o→a≠d1:=fun a o e z=>by rw [z] at e;have:=RO.ee _ _ e;rw [TY] at this;cases this
  have Vr:=N0 _ _ HS
  obtain ⟨ρ11,VE⟩:=RO.new TY (bu [])
  replace xV:(upd VD d1 (.lst [])) Nz=some (.lst [V.bH,V.bH]):=by rw [aE (N0 _ _ xV)];exact xV
  replace HS:(upd VD d1 (.lst [])) d0=some (.lst []):=by rw [aE (N0 _ _ HS)];exact HS
  have MJ:(upd VD d1 (.lst [])) d1=some (.lst []):=aB
  generalize upd QE d1 (.lst [])=Ww at *
  generalize upd VD d1 (.lst [])=SG at *
  clear N0
  refine ⟨zz2,fun dL PK=>?_⟩
  obtain ⟨SdL,EdL⟩:=bB (o:=.lst [.ref d0,.ref d1]) PK
  obtain ⟨RP,N1⟩:=VE.grow SdL PK EdL
  have V3:(upd B dL (.lst [.ref d0,.ref d1])) dL=some (.lst [.ref (jg d0 d1 0),.ref (jg d0 d1 1)]):=aB
  generalize upd Ww dL (.lst [.ref d0,.ref d1])=H12 at *
  refine ⟨zz0,fun c0 SH=>?_⟩
  have Iu:∀ a o,SG a=some o→a≠c0:=fun a o e z=>by rw [z] at e;have:=RP.ee _ _ e;rw [SH] at this;cases this
  have PQ:=Iu _ _ HS
  have PR:=Iu _ _ MJ
  obtain ⟨ρ13,RR⟩:=RP.new SH (bu [])
  replace xV:(upd SG c0 (.lst [])) Nz=some (.lst [V.bH,V.bH]):=by rw [aE (Iu _ _ xV)];exact xV
  replace HS:(upd SG c0 (.lst [])) d0=some (.lst []):=by rw [aE (Iu _ _ HS)];exact HS
  replace MJ:(upd SG c0 (.lst [])) d1=some (.lst []):=by rw [aE (Iu _ _ MJ)];exact MJ
  have SI:(upd SG c0 (.lst [])) c0=some (.lst []):=aB
  generalize upd H12 c0 (.lst [])=H13 at *
  generalize upd SG c0 (.lst [])=RS at *
  clear Iu
  refine ⟨zz0,fun c1 Rv=>?_⟩
  have DV:∀ a o,RS a=some o→a≠c1:=fun a o e z=>by rw [z] at e;have:=RR.ee _ _ e;rw [Rv] at this;cases this
  have PU:=DV _ _ HS
  have PV:=DV _ _ MJ
  have VF:=DV _ _ SI
  obtain ⟨ρ14,VG⟩:=RR.new Rv (bu [])
  replace xV:(upd RS c1 (.lst [])) Nz=some (.lst [V.bH,V.bH]):=by rw [aE (DV _ _ xV)];exact xV
  replace HS:(upd RS c1 (.lst [])) d0=some (.lst []):=by rw [aE (DV _ _ HS)];exact HS
  replace MJ:(upd RS c1 (.lst [])) d1=some (.lst []):=by rw [aE (DV _ _ MJ)];exact MJ
  replace SI:(upd RS c1 (.lst [])) c0=some (.lst []):=by rw [aE (DV _ _ SI)];exact SI
  have ec1:(upd RS c1 (.lst [])) c1=some (.lst []):=aB
  generalize upd H13 c1 (.lst [])=H14 at *
  generalize upd RS c1 (.lst [])=YI at *
  clear DV
  refine ⟨zz2,fun cL RH=>?_⟩
  obtain ⟨ScL,EcL⟩:=bB (o:=.lst [.ref c0,.ref c1]) RH
  obtain ⟨VH,LX⟩:=VG.grow ScL RH EcL
  have cLB:(upd (upd B dL (.lst [.ref d0,.ref d1])) cL (.lst [.ref c0,.ref c1])) cL=some (.lst [.ref (jg c0 c1 0),.ref (jg c0 c1 1)]):=aB
  generalize upd H14 cL (.lst [.ref c0,.ref c1])=H15 at *
  replace V3:=LX _ _ V3
  replace PL:=LX _ _ (N1 _ _ PL)
  replace PM:=(N1.trans LX).seq PM
  replace PN:=LX _ _ (N1 _ _ PN)
  generalize upd (upd B dL (.lst [.ref d0,.ref d1])) cL (.lst [.ref c0,.ref c1])=V4 at *
  have xU:∀ s,s < 2→bq V4 YI (jg d0 d1 s) []:=dC ⟨fun _=>0,HS,fun y xs hy=>by cases hy⟩ ⟨fun _=>0,MJ,fun y xs hy=>by cases hy⟩
  have CK:∀ s,s < 2→bq V4 YI (jg c0 c1 s) []:=dC ⟨fun _=>0,SI,fun y xs hy=>by cases hy⟩ ⟨fun _=>0,ec1,fun y xs hy=>by cases hy⟩
  have X7:jg d0 d1 0≠jg d0 d1 1:=Vr
  have X1:jg c0 c1 0≠jg c0 c1 1:=VF
  have LP:∀ s r,s < 2→r < 2→jg d0 d1 s≠jg c0 c1 r:=fun s r hs hr=>dC (q:=fun s=>∀ r,r < 2→jg d0 d1 s≠jg c0 c1 r) (dC PQ PU) (dC PR PV) s hs r hr
  clear HS MJ SI ec1 Vr VF PQ PU PR PV N1 LX VG RR RP VE RO MI st ScL SdL EcL EdL RH PK SH Rv YH TY VC
  generalize jg d0 d1=du at *
  generalize jg c0 c1=ca at *
  have fx:Fx K V4 sc ma eL dL cL ns late lost x du ca:=⟨PM,PL,PN,V3,cLB⟩
  clear PM PL PN V3 cLB
  refine ⟨3,rfl,by decide,by decide,?_⟩
  refine gs (lo:=0) (n:=3) (fun T σ H'=>∃ (v4 v8 v9:Option V) (cl:Addr) (vs:Nat→V) (B E:Hp) (tA pA:Nat→Addr) (ρ:Addr→Nat),σ=[some (.ref sc),some (.ref ma),v2,some (.ref eL),v4,some (.ref cl),some (.ref dL),some (.ref cL),v8,v9,none]∧Fx K B sc ma eL dL cL ns late lost x du ca∧Tw t.LinkEnd B H' E x tA pA (fun s=>t8 qq (s:Int) T) ρ∧E cl=some (.lst [vs 0,vs 1])∧U2 B vs (RM T)∧(∀ s,s < 2→bq B E (du s) [])∧∀ s,s < 2→bq B E (ca s) [])
   ⟨_,none,none,Nz,fun _=>.bH,V4,YI,_,_,ρ14,rfl,fx,VH,xV,fun s hs=>.inl ⟨rfl,rfl⟩,xU,CK⟩ ?_ ?_
  ·clear fx VH xV xU CK
   rintro T σ YJ hT ⟨v4,v8,v9,cl,vs,B,E,tA,pA,ρ,rfl,fx,st,xV,LY,xU,CK⟩
   rw [show (0:Int)+(T:Nat)=(T:Int) by omega]
   refine ⟨_,rfl,eL,rfl,⟨_,aT.of (st.sb _ _ fx.eL)⟩,gM (K:=K) (a:=eL) (xs:=[V.ref (x 0),V.ref (x 1)]) (fun i σ H'=>∃ v4:Option V,σ=[some (.ref sc),some (.ref ma),v2,some (.ref eL),v4,some (.ref cl),some (.ref dL),some (.ref cL),some (.int (T:Int)),v9,none]∧aJ YJ H') ⟨v4,rfl,aJ.refl _⟩ (fun i σ H' _ ⟨_,_,s'⟩=>aT.of (s' _ _ (st.sb _ _ fx.eL))) ?_ ?_⟩
   ·rintro i v σ RE hi ⟨v4,rfl,RF⟩
    obtain ⟨C5,rfl⟩:=FW hi
    have lk:=(st.same RF).lk i C5
    have hp:=YD qq (i:Int) hT
    refine ⟨_,rfl,zz1,fun l5 Uh=>?_⟩
    obtain ⟨S5,E5⟩:=bB (o:=.lst [.int 5]) Uh
    refine ⟨B,x i,tA i,pA i,l5,t8 qq (i:Int) T,[5],rfl,lk.same S5,by rw [hp.2.2];decide,aT.of E5,fun n hn=>?_,fun _ r N3 PX nr er=>?_,fun z=>absurd hp.1 z,fun z=>absurd hp.1 z⟩
    ·rw [List.mem_singleton.mp hn];exact Ir 5 (by decide)
    refine ⟨zz2,fun p0 DQ=>?_⟩
    obtain ⟨S6,E6⟩:=bB (o:=.lst [.int 13,.int 1]) DQ
    refine ⟨r,p0,_,_,rfl,rfl,aT.of (S6 _ _ er),aT.of E6,.inl ⟨rfl,rJ (xs:=[13,1]),_,rfl,eS ?_⟩⟩
    have sA:=RF.trans (S5.trans (PX.trans S6))
    generalize upd N3 p0 (.lst [.int 13,.int 1])=SJ at *
    refine ⟨_,rfl,zz0,fun l6 hl6=>?_⟩
    obtain ⟨S7,E7⟩:=bB (o:=.lst []) hl6
    refine ⟨B,x i,tA i,pA i,l6,t8 qq (i:Int) T,[],rfl,((st.same sA).lk i C5).same S7,by rw [hp.2.2];decide,aT.of E7,(fun n hn=>by cases hn),fun _ r' N4 SK nr' V2=>?_,fun z=>absurd hp.1 z,fun z=>absurd hp.1 z⟩
    refine ⟨zz2,fun p1 zV=>?_⟩
    obtain ⟨S8,E8⟩:=bB (o:=.lst [.int 13,.int 1]) zV
    refine ⟨r',p1,_,_,rfl,rfl,aT.of (S8 _ _ V2),aT.of E8,.inl ⟨rfl,rJ (xs:=[13,1]),_,rfl,eS ?_⟩⟩
    have sC:=sA.trans (S7.trans (SK.trans S8))
    generalize upd N4 p1 (.lst [.int 13,.int 1])=YK at *
    have lkC:=(st.same sC).lk i C5
    obtain ⟨dxC,_,hxC,_⟩:=lkC.at_
    refine ⟨_,rfl,x i,dxC,_,rfl,hxC,rfl,B,x i,_,_,_,rfl,lkC,fun pv Dt=>?_⟩
    rw [hp.1] at Dt
    have Dt:pv=.bH:=Dt
    subst Dt
    exact ⟨rfl,_,rfl,oZ rfl ⟨_,rfl,sC⟩⟩
   rintro σ RE ⟨v4,rfl,RF⟩
   replace st:=st.same RF
   clear RF
   refine ⟨2,rfl,by decide,by decide,fun D hD=>?_⟩
   refine mK (lo:=0) (n:=2) (fun i σ H'=>(∃ v,σ=[v,some (.ref cl)])∧aJ RE H'∧∃ ha:Nat→Addr,H' D=some (.lst (bN i ha))∧∀ j,j < i→H' (ha j)=some (.lst (hv (RM T) (vs (1 - j))))∧RE (ha j)=none∧ha j≠D) ⟨⟨none,rfl⟩,(aJ.refl _).new hD,fun _=>0,aB,fun j hj=>absurd hj (Nat.not_lt_zero _)⟩ ?_ ?_
   ·rintro i σ N3 N hN hi ⟨⟨v,rfl⟩,PX,ha,k1,k2⟩
    rw [show (0:Int)+(i:Nat)=(i:Int) by omega]
    have Ip:(1:Int) - (i:Int)=((1 - i:Nat):Int):=by omega
    refine fP ?_
    refine ⟨_,rfl,_,rfl,_,_,rfl,rfl,cl,_,_,_,rfl,rfl,aT.of (PX _ _ (st.ee _ _ xV)),by rw [Ip];exact Ny (by omega),zz1,fun l1 U3=>?_⟩
    obtain ⟨S1,E1⟩:=bB (o:=.lst [vs (1 - i)]) U3
    generalize upd N3 l1 (.lst [vs (1 - i)])=SJ at *
    refine ⟨l1,rfl,⟨_,aT.of E1⟩,fun D2 CJ=>?_⟩
    refine uU (K:=K) (a:=l1) (xs:=[vs (1 - i)]) (fun j σ H'=>(∃ v,σ=[v])∧aJ SJ H'∧H' D2=some (.lst (if j=0 then [] else hv (RM T) (vs (1 - i))))) ⟨⟨none,rfl⟩,(aJ.refl _).new CJ,aB⟩ (fun j σ H' _ p=>aT.of (p.2.1 _ _ E1)) ?_ ?_
    ·rintro j w σ N4 N2 US hj ⟨⟨w0,rfl⟩,SK,k3⟩
     obtain ⟨rfl,rfl⟩:j=0∧w=vs (1 - i):=by
      cases j with
      | zero=>cases hj;exact ⟨rfl,rfl⟩
      | succ j=>cases hj
     rw [if_pos rfl] at k3
     refine ⟨_,rfl,rfl,_,rfl,?_⟩
     rcases LY (1 - i) (by omega) with ⟨y1,y2⟩ | ⟨a,pp,y1,y2,_⟩
     ·refine oZ y2 (US _ _ ⟨⟨_,rfl⟩,SK,?_⟩)
      rw [if_neg (by omega),y1];exact k3
     ·refine xw (by rw [y2];exact fun z=>by cases z) ?_
      refine ⟨_,rfl,_,k3,by decide,US _ _ ⟨⟨_,rfl⟩,SK.put CJ,?_⟩⟩
      rw [aB,if_neg (by omega),y1];rfl
    rintro σ N4 ⟨⟨w0,rfl⟩,SK,k3⟩
    have LZ:=S1.trans SK
    have Vw:∀ a o,N3 a=some o→a≠D2:=fun a o e=>aK (S1 _ _ e) CJ
    refine ⟨_,LZ _ _ k1,by rw [aL];omega,hN _ _ ⟨⟨_,rfl⟩,(PX.trans LZ).put hD,fun j=>if j=i then D2 else ha j,by rw [aB,fQ],fun j hj=>?_⟩⟩
    by_cases z:j=i
    ·simp only [z,if_true]
     have n:=Ne.symm (Vw _ _ k1)
     exact ⟨by rw [aE n];exact k3,PX.free (S1.free CJ),n⟩
    ·simp only [z,if_false]
     obtain ⟨m1,m2,m3⟩:=k2 j (by omega)
     exact ⟨by rw [aE m3];exact LZ _ _ m1,m2,m3⟩
   rintro σ N3 ⟨⟨v,rfl⟩,PX,ha,k1,k2⟩
   obtain ⟨N5,FZ,Bs,RT⟩:=st.U1 PX
   have YL:=RT _ _ hD k1
   have YM:∀ j,j < 2→N5 (ha j)=some (.lst (hv (RM T) (vs (1 - j)))):=fun j hj=>RT _ _ (k2 j hj).2.1 (k2 j hj).1
   replace fx:=fx.same FZ
   replace LY:=LY.same FZ
   replace xU:∀ s,s < 2→bq N5 E (du s) []:=fun s hs=>(xU s hs).same FZ fun _ e=>e
   replace CK:∀ s,s < 2→bq N5 E (ca s) []:=fun s hs=>(CK s hs).same FZ fun _ e=>e
   clear k1 k2 RT FZ st PX
   refine ⟨2,rfl,by decide,by decide,fun D3 MD=>?_⟩
   have VI:∀ a o,E a=some o→a≠D3:=fun a o e=>aK (Bs.ee _ _ e) MD
   obtain ⟨ρ19,La⟩:=Bs.new MD (bu [])
   refine mK (lo:=0) (n:=2) (fun i σ H'=>∃ (v0:Option V) (B' E':Hp) (JT:Nat→Addr) (L':Nat→Lk) (ρ':Addr→Nat) (cn:Nat→Addr),σ=[v0,some (.ref eL),some (.ref D)]∧aJ N5 B'∧Tw t.LinkEnd B' H' E' x tA JT L' ρ'∧(∀ s,s < 2→L' s=if s < i then t8 qq (s:Int) (T+1) else t8 qq (s:Int) T)∧E' D3=some (.lst (bN i cn))∧(∀ j,j < i→B' (cn j)=some (.lst (tabI 24 (au (kN (t8 qq (j:Int) (T+1)))))))∧∀ a o,E a=some o→E' a=some o) ⟨none,N5,_,pA,_,ρ19,fun _=>0,rfl,aJ.refl _,La,fun s hs=>by rw [if_neg (Nat.not_lt_zero _)],aB,fun j hj=>absurd hj (Nat.not_lt_zero _),fun a o e=>by rw [aE (VI a o e)];exact e⟩ ?_ ?_
   ·rintro i σ N4 N hN hi ⟨v0,B',E',JT,L',ρ',cn,rfl,DW,uF,HP,RU,Gj,MK⟩
    rw [show (0:Int)+(i:Nat)=(i:Int) by omega]
    have lk:=uF.lk i hi
    obtain ⟨dx,_,hx,_⟩:=lk.at_
    have Iv:=HP i hi
    rw [if_neg (by omega)] at Iv
    obtain ⟨FO,fs,inc,YN,ZW⟩:=LU (s:=1 - i) (l:=ha i) (LY.same DW) (by omega) (uF.sb _ _ (DW _ _ (YM i hi))) uF.sb (fun c hc=>Nu hc)
    obtain ⟨o1,o2,o3⟩:=U0 qq (i:Int) T
    refine fP ?_
    refine ⟨_,rfl,_,rfl,eL,_,_,_,rfl,rfl,aT.of (uF.sb _ _ (DW _ _ fx.eL)),cV hi,x i,dx,_,rfl,hx,rfl,_,rfl,_,rfl,D,_,_,_,rfl,rfl,aT.of (uF.sb _ _ (DW _ _ YL)),jw (bS hi),?_⟩
    refine ⟨B',x i,tA i,JT i,ha i,FO,L' i,fs,rfl,lk,inc,by omega,by rw [Iv];omega,by rw [Iv,o2];decide,by rw [Iv,o2];decide,by rw [Iv];exact o1,fun YO YK pB p mv Fb np bp Q8 ep=>?_⟩
    obtain ⟨u1,u2⟩:=HQ (s:=(i:Int)) SF T hT
    rw [Iv,YN,u1] at Fb ep
    obtain ⟨YQ,ρ22,Lb,RV,RW,RX⟩:=uF.LS hi RU mv Fb np bp Q8 ep
    refine ⟨_,RW,by rw [aL];omega,hN _ _ ⟨_,YQ,_,_,_,ρ22,fun j=>if j=i then p else cn j,rfl,DW.trans Lb,RX,fun s hs=>?_,?_,fun j hj=>?_,fun a o e=>?_⟩⟩
    ·by_cases z:s=i
     ·rw [z,ay,if_pos (by omega)]
     ·rw [bY z,HP s hs]
      by_cases y:s < i
      ·rw [if_pos y,if_pos (by omega)]
      ·rw [if_neg y,if_neg (by omega)]
    ·rw [aB,fQ]
    ·by_cases z:j=i
     ·simp only [z,if_true];exact RV
     ·simp only [z,if_false];exact Lb _ _ (Gj j (by omega))
    ·rw [aE (VI a o e)];exact MK a o e
   rintro σ N4 ⟨v0,B',E',JT,L',ρ',cn,rfl,DW,uF,HP,RU,Gj,MK⟩
   refine ⟨_,_,_,D3,fun s=>.ref (cn s),B',E',tA,JT,ρ',rfl,fx.same DW,uF.re (fun s hs=>by rw [HP s hs,if_pos hs]),RU,fun s hs=>.inr ⟨_,cn s,(HQ (s:=(s:Int)) SF T hT).2,rfl,Gj s hs⟩,fun s hs=>(xU s hs).same DW fun o e=>MK _ _ e,fun s hs=>(CK s hs).same DW fun o e=>MK _ _ e⟩
  rintro σ YJ ⟨v4,v8,v9,cl,vs,B,E,tA,pA,ρ,rfl,fx,st,xV,LY,xU,CK⟩
  obtain ⟨Lc,SM⟩:∃ Lc:Nat→Nat→Lk,Lc=fun i s=>if s < i then JS (fun s=>t8 qq (s:Int) 3) s else t8 qq (s:Int) 3:=⟨_,rfl⟩
  have YR:∀ i,Lc i i=t8 qq (i:Int) 3:=fun i=>by rw [SM];exact if_neg (Nat.lt_irrefl _)
  have SN:∀ i,Lc (i+1) i={ t8 qq (i:Int) 3 with ev:=[] }:=fun i=>by rw [SM];exact if_pos (Nat.lt_succ_self _)
  have Lcn:∀ i s,s≠i→Lc (i+1) s=Lc i s:=fun i s h=>by
   rw [SM]
   show (if s < i+1 then _ else _)=if s < i then _ else _
   by_cases y:s < i
   ·rw [if_pos y,if_pos (by omega)]
   ·rw [if_neg y,if_neg (by omega)]
  have Hx:Tw t.LinkEnd B YJ E x tA pA (Lc 0) ρ:=st.re fun s hs=>by rw [SM];exact if_neg (Nat.not_lt_zero _)
  refine ⟨_,rfl,eL,rfl,⟨_,aT.of (Hx.sb _ _ fx.eL)⟩,gM (K:=K) (a:=eL) (xs:=[V.ref (x 0),V.ref (x 1)]) (fun i σ H'=>∃ (v4:Option V) (B':Hp) (tA:Nat→Addr) (ρ:Addr→Nat),σ=[some (.ref sc),some (.ref ma),v2,some (.ref eL),v4,some (.ref cl),some (.ref dL),some (.ref cL),v8,v9,none]∧aJ B B'∧Tw t.LinkEnd B' H' E x tA pA (Lc i) ρ) ⟨v4,B,tA,ρ,rfl,aJ.refl _,Hx⟩ (fun i σ H' _ ⟨_,_,_,_,_,sB,st⟩=>aT.of (st.sb _ _ (sB _ _ fx.eL))) ?_ ?_⟩
  ·rintro i v σ RE hi ⟨v4,RY,tA,ρ,rfl,Fc,st⟩
   obtain ⟨C5,rfl⟩:=FW hi
   have lk:=st.lk i C5
   obtain ⟨dx,_,hx,_⟩:=lk.at_
   refine ⟨_,rfl,x i,dx,_,rfl,hx,rfl,RY,x i,tA i,pA i,_,rfl,lk,fun N3 tB mv RD YS YT=>?_⟩
   obtain ⟨N5,ρ18,FZ,Bs,kz,PB,PC⟩:=st.Vz C5 mv RD YS YT
   rw [YR] at PB PC
   obtain ⟨pa,w1,w2⟩:=PC 0 _ rfl
   replace Bs:=Bs.re (L':=Lc (i+1)) (fun s hs=>by
    by_cases z:s=i
    ·rw [z,ay,SN,YR]
    ·rw [bY z,Lcn i s z])
   refine ⟨zz2,fun a1 IT=>?_⟩
   obtain ⟨S1,E1⟩:=bB (o:=.tup [.int 1,.int 1]) IT
   refine ⟨zz2,fun a2 IU=>?_⟩
   obtain ⟨S2,E2⟩:=bB (o:=.tup [.str "up",.ref a1]) IU
   refine ⟨zz1,fun a3 Xw=>?_⟩
   obtain ⟨S3,E3⟩:=bB (o:=.lst [.ref a2]) Xw
   have sN:=S1.trans (S2.trans S3)
   have wl1:=sN _ _ (Bs.sb _ _ w1)
   have wl2:=sN _ _ (Bs.sb _ _ w2)
   refine ⟨tA i,a3,_,_,rfl,rfl,aT.of (sN _ _ (Bs.sb _ _ PB)),aT.of E3,.inl ⟨rfl,fun j u v hu hv=>?_,_,rfl,eS ?_⟩⟩
   ·cases j with
    | zero=>cases hu;cases hv;exact Nv wl1 wl2 (S3 _ _ E2) (S3 _ _ (S2 _ _ E1))
    | succ j=>cases hv
   have La:=Bs.same sN
   generalize upd _ a3 _=SJ at *
   have RZ:=La.lk i C5
   rw [SN] at RZ
   obtain ⟨YU,_,YV,_⟩:=RZ.at_
   refine ⟨_,rfl,x i,YU,_,rfl,YV,rfl,N5,x i,_,_,_,rfl,RZ,fun pv Dt=>?_⟩
   refine ⟨zz2,fun a4 YW=>?_⟩
   obtain ⟨S4,E4⟩:=bB (o:=.tup [.int 1,.int 1]) YW
   have Ra:=La.same S4
   refine LI (Dt.mono (La.sb.trans S4)) ⟨a4,rfl,E4⟩ ⟨_,rfl,eS ?_⟩
   generalize upd SJ a4 (.tup [.int 1,.int 1])=N4 at *
   have Rb:=Ra.lk i C5
   rw [SN] at Rb
   obtain ⟨VJ,_,VL,_⟩:=Rb.at_
   refine ⟨_,rfl,x i,VJ,_,rfl,VL,rfl,N5,x i,_,_,_,rfl,Rb,rfl,_,rfl,eS ?_⟩
   have VM:=Ra.lk i C5
   refine ⟨_,rfl,x i,VJ,_,rfl,VL,rfl,N5,x i,_,_,_,rfl,VM,fun YK tC mv2 ntC Fb YX=>?_⟩
   obtain ⟨YO,ρ21,YY,N6,aC2,Ut,_⟩:=Ra.Vz C5 mv2 ntC Fb YX
   rw [SN] at Ut
   replace N6:=N6.re (L':=Lc (i+1)) (fun s hs=>by
    by_cases z:s=i
    ·rw [z,ay,SN]
    ·rw [bY z])
   refine ⟨zz0,fun a5 PF=>?_⟩
   obtain ⟨S5,E5⟩:=bB (o:=.lst []) PF
   refine ⟨_,a5,_,_,rfl,rfl,aT.of (S5 _ _ (N6.sb _ _ Ut)),aT.of E5,.inl ⟨rfl,(fun j u v hu=>by cases hu),_,rfl,eS ?_⟩⟩
   exact ⟨_,YO,_,ρ21,rfl,Fc.trans (FZ.trans YY),N6.same S5⟩
  rintro σ RE ⟨v4,RY,tA,ρ,rfl,Fc,st⟩
  replace fx:=fx.same Fc
  replace LY:=LY.same Fc
  replace xU:∀ s,s < 2→bq RY E (du s) []:=fun s hs=>(xU s hs).same Fc fun _ e=>e
  replace CK:∀ s,s < 2→bq RY E (ca s) []:=fun s hs=>(CK s hs).same Fc fun _ e=>e
  replace st:=st.re (L':=JS fun s=>t8 qq (s:Int) 3) fun s hs=>by rw [SM];exact (if_pos hs).symm
  clear Fc YR SN Lcn Hx SM
  refine ⟨_,rfl,sc,_,rfl,.inl (st.sb.seq fx.sc),_,_,rfl,?_⟩
  obtain ⟨my,hmy,aC4,aC5⟩:∃ my:Nat,(if ((ns.map V.int).length:Int) < 12 then ((ns.map V.int).length:Int) else 12)=(my:Int)∧my≤12∧my≤ns.length:=by
   by_cases z:((ns.map V.int).length:Int) < 12
   ·rw [if_pos z]
    rw [List.length_map] at z ⊢
    exact ⟨ns.length,rfl,by omega,Nat.le_refl _⟩
   ·rw [if_neg z]
    rw [List.length_map] at z
    exact ⟨12,rfl,by decide,by omega⟩
  rw [hmy]
  obtain ⟨tk,Vg,aC6⟩:∃ tk:Nat,(my:Int)+2 * (late+lost)+6=(tk:Int)∧tk≤60:=⟨((my:Int)+2 * (late+lost)+6).toNat,by omega,by omega⟩
  have YZ:=jZ.of (K:=K) (st.sb _ _ fx.ma)
  refine ⟨_,rfl,_,rfl,ma,_,_,_,rfl,rfl,YZ,rfl,_,rfl,ma,_,_,_,rfl,rfl,YZ,rfl,_,_,rfl,rfl,_,_,rfl,rfl,.inl ⟨by decide,by decide⟩,_,_,rfl,rfl,_,_,rfl,rfl,?_⟩
  refine ⟨(tk:Int),by rw [← Vg],by omega,by omega,?_⟩
  rw [Int.toNat_natCast]
  refine gs (lo:=0) (n:=tk) (fun T σ H'=>∃ (v4 v8 v9:Option V) (cl:Addr) (cn:Nat→Addr) (B E:Hp) (tA pA:Nat→Addr) (ρ:Addr→Nat) (L:Nat→Lk) (W:Nat→List (List Int)) (O K':Nat→Nat) (c:Nat→Cl),σ=[some (.ref sc),some (.ref ma),v2,some (.ref eL),v4,some (.ref cl),some (.ref dL),some (.ref cL),v8,v9,some (.int (my:Int))]∧Fx K B sc ma eL dL cL ns late lost x du ca∧Tw t.LinkEnd B H' E x tA pA L ρ∧Pl qq L W O K' c∧E cl=some (.lst [.ref (cn 0),.ref (cn 1)])∧(∀ s,s < 2→B (cn s)=some (.lst (tabI 24 (au (c s)))))∧(∀ s,s < 2→bq B E (du s) (W s))∧(∀ s,s < 2→bq B E (ca s) ((W (1 - s)).take (K' s)))∧(∀ s,s < 2→(W s).length≤T)∧(∀ s,s < 2→(L s).bR.length≤T)∧(∀ s,s < 2→cl≠du s∧cl≠ca s)) ?_ ?_ ?_
  ·have SH:∀ s,s < 2→∃ p,vs s=.ref p∧RY p=some (.lst (tabI 24 (au ⟨1,1,0,0,[]⟩))):=fun s hs=>by
    rcases LY s hs with ⟨y,_⟩ | ⟨a,p,y1,y2,y3⟩
    ·cases y
    ·have:a=⟨1,1,0,0,[]⟩:=(List.cons.inj y1).1.symm
     rw [this] at y3;exact ⟨p,y2,y3⟩
   obtain ⟨p0,y0,z0⟩:=SH 0 (by decide)
   obtain ⟨p1,y1,z1⟩:=SH 1 (by decide)
   have nc:∀ a,bq RY E a []→cl≠a:=fun a ⟨_,g,_⟩ z=>by rw [← z,xV] at g;cases g
   exact ⟨v4,v8,v9,cl,jg p0 p1,RY,E,tA,pA,ρ,_,fun _=>[],fun _=>0,fun _=>0,fun _=>⟨1,1,0,0,[]⟩,rfl,fx,st,Pl.start qq,by rw [xV,y0,y1];rfl,dC z0 z1,xU,fun s hs=>CK s hs,fun s _=>Nat.le_refl _,fun s _=>Nat.le_refl _,fun s hs=>⟨nc _ (xU s hs),nc _ (CK s hs)⟩⟩
  ·clear LY xV xU CK st fx YZ
   rintro T σ N3 hT ⟨v4,v8,v9,cl,cn,B,E,tA,pA,ρ,L,W,O,K',c,rfl,fx,st,pl,xV,Gj,xU,CK,hW,Qs,ncl⟩
   rw [show (0:Int)+(T:Nat)=(T:Int) by omega]
   refine ⟨fun σ H'=>∃ (B' E':Hp) (L':Nat→Lk) (ρ':Addr→Nat) (W':Nat→List (List Int)),σ=[some (.ref sc),some (.ref ma),v2,some (.ref eL),v4,some (.ref cl),some (.ref dL),some (.ref cL),some (.int (T:Int)),v9,some (.int (my:Int))]∧aJ B B'∧Tw t.LinkEnd B' H' E' x tA pA L' ρ'∧Pl qq L' W' O K' c∧E' cl=some (.lst [.ref (cn 0),.ref (cn 1)])∧(∀ s,s < 2→bq B' E' (du s) (W' s))∧(∀ s,s < 2→bq B' E' (ca s) ((W' (1 - s)).take (K' s)))∧∀ s,s < 2→(W' s).length≤T+1,?_,?_⟩
   ·refine ⟨_,rfl,_,rfl,_,_,rfl,rfl,_,rfl,?_⟩
    by_cases z:(T:Int) < (my:Int)
    ·refine g7 z ?_
     obtain ⟨cv,LY⟩:∃ cv,ns[T]?=some cv:=⟨_,List.getElem?_eq_getElem (by omega)⟩
     refine ⟨_,rfl,_,rfl,_,rfl,_,rfl,sc,_,_,_,rfl,rfl,st.sb.seq fx.sc,jw (by rw [List.getElem?_map,LY];rfl),B,E,x,tA,pA,L,ρ,eL,dL,du,W,cv,rfl,st,fx.eL,fx.dL,X7,xU,fun s hs=>by have:=hW s hs;omega,fun s hs=>⟨by rw [(pl.at_ s hs).2.2.1];exact (fun z=>by cases z),by have:=Qs s hs;omega⟩,fun B' H' E' L' ρ' W' sB uF hP RL fr=>?_⟩
     refine ⟨_,rfl,eS ?_⟩
     have le:=hP.le hW Qs
     refine ⟨B',E',L',ρ',W',rfl,sB,uF,pl.put hP,fr _ _ (ncl 0 (by decide)).1 (ncl 1 (by decide)).1 xV,RL,fun s hs=>?_,fun s hs=>(le s hs).2.1⟩
     have vo:1 - s < 2:=by omega
     obtain ⟨⟨r,er⟩,_⟩:=le (1 - s) vo
     have rl:=(pl.rel (1 - s) vo).2.2
     rw [show 1 - (1 - s)=s by omega] at rl
     rw [er,List.take_append_of_le_length rl]
     exact (CK s hs).same sB fun o e=>fr _ _ (Ne.symm (LP 0 s (by decide) hs)) (Ne.symm (LP 1 s (by decide) hs)) e
    ·refine ie z (eS ?_)
     exact ⟨B,E,L,ρ,W,rfl,aJ.refl _,st,pl,xV,xU,CK,fun s hs=>by have:=hW s hs;omega⟩
   rintro σ SJ ⟨B1,E1,L1,ρ1,W1,rfl,MG,FU,V5,Ya,VN,VO,Yb⟩
   replace fx:=fx.same MG
   replace Gj:∀ s,s < 2→B1 (cn s)=some (.lst (tabI 24 (au (c s)))):=fun s hs=>MG _ _ (Gj s hs)
   clear st pl xV xU CK hW Qs
   refine ⟨2,rfl,by decide,by decide,fun D3 MD=>?_⟩
   have nE:∀ a o,E1 a=some o→a≠D3:=fun a o e=>aK (FU.ee _ _ e) MD
   obtain ⟨ρ2,wt⟩:=FU.new MD (bu [])
   refine mK (lo:=0) (n:=2) (fun i σ H'=>∃ (v0:Option V) (B' E':Hp) (JT:Nat→Addr) (L':Nat→Lk) (ρ':Addr→Nat) (dn:Nat→Addr),σ=[v0,some (.ref eL),some (.ref cl)]∧aJ B1 B'∧Tw t.LinkEnd B' H' E' x tA JT L' ρ'∧(∀ s,s < 2→L' s=if s < i then kO (L1 s) [c (1 - s)] else L1 s)∧E' D3=some (.lst (bN i dn))∧(∀ j,j < i→B' (dn j)=some (.lst (tabI 24 (au (kN (kO (L1 j) [c (1 - j)]))))))∧∀ a o,E1 a=some o→E' a=some o) ⟨none,B1,_,pA,_,ρ2,fun _=>0,rfl,aJ.refl _,wt,fun s hs=>by rw [if_neg (Nat.not_lt_zero _)],aB,fun j hj=>absurd hj (Nat.not_lt_zero _),fun a o e=>by rw [aE (nE a o e)];exact e⟩ ?_ ?_
   ·rintro i σ N4 N hN hi ⟨v0,B',E',JT,L',ρ',dn,rfl,DW,uF,HP,RU,Yc,MK⟩
    rw [show (0:Int)+(i:Nat)=(i:Int) by omega]
    have Yd:1 - i < 2:=by omega
    obtain ⟨dx,_,hx,_⟩:=(uF.lk i hi).at_
    have Iv:=HP i hi
    rw [if_neg (by omega)] at Iv
    obtain ⟨W5,_⟩:=V5.ok hi
    obtain ⟨_,gd⟩:=V5.ok Yd
    obtain ⟨a1,_,_,_,a5⟩:=V5.at_ i hi
    have Ip:(1:Int) - (i:Int)=((1 - i:Nat):Int):=by omega
    refine fP ?_
    refine ⟨_,rfl,_,rfl,eL,_,_,_,rfl,rfl,aT.of (uF.sb _ _ (DW _ _ fx.eL)),cV hi,x i,dx,_,rfl,hx,rfl,_,rfl,_,rfl,_,_,rfl,rfl,cl,_,_,_,rfl,rfl,aT.of (uF.ee _ _ (MK _ _ Ya)),by rw [Ip];exact cV Yd,zz1,fun l1 U3=>?_⟩
    obtain ⟨S1,El1⟩:=bB (o:=.lst [.ref (cn (1 - i))]) U3
    have xH:=uF.same S1
    generalize upd N4 l1 (.lst [.ref (cn (1 - i))])=Ye at *
    obtain ⟨FO,fs,inc,YN,ZW⟩:=LU (vs:=fun _=>.ref (cn (1 - i))) (cs:=[c (1 - i)]) (s:=0) (l:=l1) (B:=B') (H:=Ye) (fun s hs=>.inr ⟨_,_,rfl,rfl,DW _ _ (Gj _ Yd)⟩) (by decide) (by rw [El1];rfl) xH.sb (fun c' hc=>by rw [List.mem_singleton.mp hc];exact gd)
    refine ⟨B',x i,tA i,JT i,l1,FO,L' i,fs,rfl,xH.lk i hi,inc,by omega,by rw [Iv,a5];decide,by rw [Iv,a1];decide,by rw [Iv,a1];decide,by rw [Iv];exact W5,fun YO YK pB p mv Fb np bp Q8 ep=>?_⟩
    rw [Iv,YN] at Fb ep
    obtain ⟨YQ,ρ22,Lb,RV,RW,RX⟩:=xH.LS hi RU mv Fb np bp Q8 ep
    refine ⟨_,RW,by rw [aL];omega,hN _ _ ⟨_,YQ,_,_,_,ρ22,fun j=>if j=i then p else dn j,rfl,DW.trans Lb,RX,fun s hs=>?_,?_,fun j hj=>?_,fun a o e=>?_⟩⟩
    ·by_cases z:s=i
     ·rw [z,ay,if_pos (by omega)]
     ·rw [bY z,HP s hs]
      by_cases y:s < i
      ·rw [if_pos y,if_pos (by omega)]
      ·rw [if_neg y,if_neg (by omega)]
    ·rw [aB,fQ]
    ·by_cases z:j=i
     ·simp only [z,if_true];exact RV
     ·simp only [z,if_false];exact Lb _ _ (Yc j (by omega))
    ·rw [aE (nE a o e)];exact MK a o e
   rintro σ N4 ⟨v0,B',E',JT,L',ρ',dn,rfl,DW,uF,HP,RU,Yc,MK⟩
   have hL2:∀ s,s < 2→L' s=kO (L1 s) [c (1 - s)]:=fun s hs=>by rw [HP s hs,if_pos hs]
   obtain ⟨Tb,k1,k2,k3⟩:=V5.step SF hL2
   replace fx:=fx.same DW
   have VP:∀ s,s < 2→bq B' E' (du s) (W1 s):=fun s hs=>(VN s hs).same DW fun o e=>MK _ _ e
   have Yf:∀ s,s < 2→bq B' E' (ca s) ((W1 (1 - s)).take (K' s)):=fun s hs=>(VO s hs).same DW fun o e=>MK _ _ e
   have nd:∀ s,s < 2→D3≠du s∧D3≠ca s:=fun s hs=>by
    obtain ⟨_,g1,_⟩:=VN s hs
    obtain ⟨_,g2,_⟩:=VO s hs
    exact ⟨Ne.symm (nE _ _ g1),Ne.symm (nE _ _ g2)⟩
   refine ⟨_,rfl,_,rfl,_,rfl,B',E',x,tA,JT,L',ρ',eL,dL,cL,du,ca,W1,K',rfl,uF,fx.eL,fx.dL,fx.cL,X1,LP,VP,Yf,k1,fun s hs=>by have:=Yb s hs;omega,k2,k3,fun B3 H3 E3 tA3 ρ3 Yg xH Yh Sj=>?_⟩
   refine ⟨_,rfl,eS ?_⟩
   exact ⟨_,_,_,D3,dn,B3,E3,tA3,JT,ρ3,JS L',W1,_,_,fun s=>kN (L' s),rfl,fx.same Yg,xH,Tb,Sj _ _ (nd 0 (by decide)).2 (nd 1 (by decide)).2 RU,fun s hs=>by have:=Yg _ _ (Yc s hs);rw [← hL2 s hs] at this;exact this,fun s hs=>(VP s hs).same Yg fun o e=>Sj _ _ (LP s 0 hs (by decide)) (LP s 1 hs (by decide)) e,Yh,Yb,fun s hs=>Nat.le_trans (k3 s hs).2 (Yb s hs),nd⟩
  ·rintro σ N3 ⟨v4,v8,v9,cl,cn,B,E,tA,pA,ρ,L,W,O,K',c,rfl,fx,st,pl,_⟩
   obtain ⟨dx,_,hx,_⟩:=(st.lk 0 (by decide)).at_
   refine ⟨_,rfl,eL,_,_,_,rfl,rfl,aT.of (st.sb _ _ fx.eL),cV (s:=0) (by decide),x 0,dx,_,rfl,hx,rfl,B,x 0,_,_,_,rfl,st.lk 0 (by decide),fun pv Dt=>?_⟩
   rw [(pl.at_ 0 (by decide)).2.2.1] at Dt
   obtain ⟨pa,rfl,g⟩:=Dt
   refine ⟨zz2,fun a4 YW=>?_⟩
   obtain ⟨S4,E4⟩:=bB (o:=.tup [.int 1,.int 1]) YW
   refine ⟨pa,a4,_,_,rfl,rfl,jZ.of (S4 _ _ (st.sb _ _ g)),jZ.of E4,HR,_,rfl,g7 rfl ?_⟩
   have xl:=st.same S4
   generalize upd N3 a4 (.tup [.int 1,.int 1])=SJ at *
   obtain ⟨dx,_,hx,_⟩:=(xl.lk 1 (by decide)).at_
   refine ⟨_,rfl,eL,_,_,_,rfl,rfl,aT.of (xl.sb _ _ fx.eL),cV (s:=1) (by decide),x 1,dx,_,rfl,hx,rfl,B,x 1,_,_,_,rfl,xl.lk 1 (by decide),fun pv Dt=>?_⟩
   rw [(pl.at_ 1 (by decide)).2.2.1] at Dt
   obtain ⟨pb,rfl,g'⟩:=Dt
   refine ⟨zz2,fun a5 PF=>?_⟩
   obtain ⟨S5,E5⟩:=bB (o:=.tup [.int 1,.int 1]) PF
   refine ⟨pb,a5,_,_,rfl,rfl,jZ.of (S5 _ _ (xl.sb _ _ g')),jZ.of E5,HR,?_⟩
   exact q _
theorem N7 {f:Addr} {fd:FuncData} (T:Txt K mg t) (F:mI K "law" "law" yA f fd) (vp:aO K mg "is_sign" qx) (qJ:aO K mg "look_sign" lE) (qK:aO K mg "look_unit" lF) (Bt:aO K mg "power" xQ) (vq:aO K mg "inverse" qy) (sv:aO K mg "exponent" nF) (sx:aO K mg "equation" kC) (lh:aO K mg "pivot_place" jP) (qL:aO K mg "exchanged" lG) (sy:aO K mg "lessened" kD) (vt:aO K mg "cleared" j3) (yh:aO K mg "solved" mO) (nq:aO K mg "look_signs" jx) (qM:aO K mg "look_cell" lH) (tD:aO K mg "value_at" nG) (tE:aO K mg "troubles" kF) (qN:aO K mg "is_sealed" lI) (vv:aO K mg "carried" mP) (yi:aO K mg "sealed" pQ) (qO:aO K mg "look_late" lJ) (kR:aO K mg "look_measure" hU) (tF:aO K mg "quiet_of" nH) (nu:aO K mg "lone_place" jy) (vw:aO K mg "is_root" qz) (ji:aO K mg "turned_places" dW) (tG:aO K mg "turns_at" kG) (yj:aO K mg "mended" uW) (kS:aO K mg "number_signs" hV) (kT:aO K mg "signs_number" hX) (nv:aO K mg "look_piece" jz) (qP:aO K mg "_law_cell" lK) (kU:aO K mg "_law_numbers" hZ) (kW:aO K mg "_law_measure" iA) (ny:aO K mg "_law_kinds" iB) (iw:aO K mg "_law_put_heard" fS) (iQ:aO K mg "_law_made_heard" eJ) (n6:aO K mg "_law_piece" iC) (jj:aO K mg "_law_no_piece" gQ) (qQ:aO K mg "_law_puts" lL) (qR:aO K mg "_law_went" lM):bO P w K mg base (ic P w) 10 f fd ["script"] (Ae K):=by
 obtain ⟨V6,Ld⟩:=T.fi
 obtain ⟨Iw,uy⟩:=T.w6
 obtain ⟨V7,Le⟩:=T.Ql
 obtain ⟨ML,yk⟩:=T.BR
 obtain ⟨V8,Lf⟩:=T.Qm
 obtain ⟨V9,Lg⟩:=T.Qn
 obtain ⟨Rc,DX⟩:=T.IS
 obtain ⟨SO,Fd⟩:=T.K0
 obtain ⟨MM,yl⟩:=T.BS
 obtain ⟨MN,ym⟩:=T.BU
 obtain ⟨MO,yn⟩:=T.BV
 obtain ⟨Yi,N8⟩:=T.UO
 obtain ⟨aAl,Rf⟩:=T.XZ
 obtain ⟨VQ,Iy⟩:=T.NI
 obtain ⟨SQ,Fe⟩:=T.K1
 have il:=Ew (P:=P) (w:=w) (base:=base) vp T
 have fX:=zU nq T il
 have pq:=BX qM T fX
 have eW:=BZ qJ T il
 have lN:=Bb qK T eW
 have gR:=K3 Bt T eW
 have j5:=Ey vq T lN gR
 have si:=C3 sv T lN
 have sY:=C4 (P:=P) (w:=w) (base:=base) tD T
 have iq:=C7 tE T pq sY gR
 have qC:=Be qN T iq
 have va:=FA (P:=P) (w:=w) (base:=base) vv T
 have yb:=IV yi T fX va
 have pw:=Bg (P:=P) (w:=w) (base:=base) qO T
 have kK:=w8 kR T pw
 have sk:=C9 tF T kK
 have se:=DB (P:=P) (w:=w) (base:=base) sx T
 have lW:=yQ (P:=P) (w:=w) (base:=base) lh T
 have qB:=Bh (P:=P) (w:=w) (base:=base) qL T
 have sZ:=DD (P:=P) (w:=w) (base:=base) sy T
 have vc:=FC vt T j5 sZ
 have me:=IW yh T se lW qB vc
 have nV:=zX nu T si j5
 have ve:=FF (P:=P) (w:=w) (base:=base) vw T
 have jd:=vd ji T me nV ve gR
 have sj:=DE tG T me gR
 have yd:=IX yj T iq qC jd sj
 obtain ⟨cB,cC⟩:=vg (P:=P) (w:=w) (base:=base) T uy
 obtain ⟨mi,mj⟩:=Ia T Fd cB cC
 obtain ⟨FL,FN⟩:=NV T Lg mi mj
 have iM:=xA (P:=P) (w:=w) (base:=base) kS T
 have iL:=xB kT T eW
 obtain ⟨vk,vm⟩:=FK (P:=P) (w:=w) (base:=base) T DX
 obtain ⟨ng,nh⟩:=zZ T yl mi mj
 obtain ⟨nW,nX⟩:=zc (P:=P) (w:=w) (base:=base) T ym
 obtain ⟨nY,nZ⟩:=zh (P:=P) (w:=w) (base:=base) T yn
 obtain ⟨FX,FY⟩:=Uc (P:=P) (w:=w) (base:=base) T Rf
 obtain ⟨fc,fe⟩:=K9 (P:=P) (w:=w) (base:=base) T Iy
 obtain ⟨jX,jY⟩:=Ie (P:=P) (w:=w) (base:=base) T Fe
 obtain ⟨FR,FT⟩:=Nb T Lf iL FL FN vk vm nW nX nY nZ
 obtain ⟨ni,nj⟩:=zj T yk iM yb
 obtain ⟨Bq,Br⟩:=Nl T Le yd FR FT ng nh ni nj
 obtain ⟨sr,su⟩:=Nn T Ld sk cB cC
 have nk:=zk nv T il
 obtain ⟨LM,LN⟩:=RC T N8 nk
 have cW:=xC (P:=P) (w:=w) (base:=base) kU T
 have qG:=Bl (P:=P) (w:=w) (base:=base) qP T
 have fb:=zl (P:=P) (w:=w) (base:=base) ny T
 have fZ:=zo (P:=P) (w:=w) (base:=base) n6 T
 have jh:=vn jj T fZ
 have bF:=uv iw T fb LM LN
 have iP:=sm iQ T fb sr su
 have qI:=Bn qR T jX jY fc fe
 have qH:=Bo qQ T cW fZ jh bF fc fe
 have kQ:=xE (P:=P) (w:=w) (base:=base) kW
 exact RN T F qG cW kQ iP bF qH qI sr su Bq Br jX jY FX FY fc fe
end
end K29
namespace K29
open PySem L2 PyProof.Rows
theorem Rg {K:PySem.W.Frag} {h:Heap} {mg:Str→Option Value} {ae iy gT eZ aQ gU iz kX i0 aU af i4 vx aW n9 ao gW bZ yo bU mm cX mn mo gv i5 cY cZ cb rK vy j6 i6:Addr} {xF Bu xG Bv zp uz zq zr Bw zt Bx Ff Lh Iz Li:Tok} {Fg:Option Addr} {Fh Fi Fj Fk Fl Fm:Tok} {JA:Nat} {Fn:Array (Option Value)} {ioc:Value} {iod ian:Option Addr} {Yj:Array (Option Value)} {ikV Yk ipm VR ict:Value} {vz:Value} {v7 wA:Option Addr} {u3:Array (Option Value)} {wB u4 wC lQ wD:Value} {N9:Value} {OA OB:Option Addr} {Lj:Array (Option Value)} {OC Ll OD DY OE:Value} {zu:Value} {zv zw:Option Addr} {yp:Array (Option Value)} {zx yq zy qS zz:Value} {OF:Value} {OG OH:Option Addr} {Lm:Array (Option Value)} {OI Ln OJ DZ OK:Value} {OL:Value} {OM ON:Option Addr} {Lo:Array (Option Value)} {OO Lp OP Dc OQ:Value} {Fo:Value} {Fp Fq:Option Addr} {Dd:Array (Option Value)} {Fs De Ft wo Fu:Value} {JB:Value} {JC JD:Option Addr} {Fv:Array (Option Value)} {JE Fw JF yr JG:Value} {z7:Value} {z8 z9:Option Addr} {yt:Array (Option Value)} {AA yu AB qT AD:Value} {AE:Value} {AF AG:Option Addr} {yv:Array (Option Value)} {AH yw AI qU AJ:Value} {AK:Value} {AL AM:Option Addr} {yx:Array (Option Value)} {AN yy AO qV AQ:Value} {Rh:Value} {Ri Rj:Option Addr} {OR:Array (Option Value)} {Rk OS Rl HU Rm:Value} {VS:Value} {VT VU:Option Addr} {Rn:Array (Option Value)} {VV Ro VW Lq VX:Value} {Lr:Value} {Ls Lu:Option Addr} {JH:Array (Option Value)} {Lv JI Lw Ay Lx:Value} {JJ:Value} {JK JL:Option Addr} {Fy:Array (Option Value)} {JM Fz JN yz JO:Value} (KX:K.In h) (G:h.Ns mainGlobals mg)
  (tH:PySem.W.nsIn K mainGlobals "BadCell"=some (some (.ref ae)))
  (tI:PySem.W.nsIn K mainGlobals "BadFate"=some (some (.ref iy)))
  (qW:PySem.W.nsIn K mainGlobals "BadHouse"=some (some (.ref gT)))
  (oA:PySem.W.nsIn K mainGlobals "BadLetter"=some (some (.ref eZ)))
  (lj:PySem.W.nsIn K mainGlobals "BadMeasure"=some (some (.ref aQ)))
  (qX:PySem.W.nsIn K mainGlobals "BadModel"=some (some (.ref gU)))
  (tJ:PySem.W.nsIn K mainGlobals "BadName"=some (some (.ref iz)))
  (wF:PySem.W.nsIn K mainGlobals "BadNet"=some (some (.ref kX)))
  (tK:PySem.W.nsIn K mainGlobals "BadNews"=some (some (.ref i0)))
  (qY:PySem.W.nsIn K mainGlobals "BadPiece"=some (some (.ref aU)))
  (tL:PySem.W.nsIn K mainGlobals "BadSign"=some (some (.ref af)))
  (tM:PySem.W.nsIn K mainGlobals "BadText"=some (some (.ref i4)))
  (tN:PySem.W.nsIn K mainGlobals "DIVISOR"=some (some (.ref vx)))
  (tO:PySem.W.nsIn K mainGlobals "LinkEnd"=some (some (.ref aW)))
  (y4:PySem.W.nsIn K mainGlobals "NoAsk"=some (some (.ref n9)))
  (wG:PySem.W.nsIn K mainGlobals "NoLink"=some (some (.ref ao)))
  (qZ:PySem.W.nsIn K mainGlobals "NoStream"=some (some (.ref gW)))
  (oB:PySem.W.nsIn K mainGlobals "PostError"=some (some (.ref bZ)))
  (kY:PySem.W.nsIn K mainGlobals "BIRTH_SIGNS"=some (some (.int 2 xF)))
  (qb:PySem.W.nsIn K mainGlobals "COUNT_AT"=some (some (.int 5 Bu)))
  (kZ:PySem.W.nsIn K mainGlobals "FREE_PLACES"=some (some (.int 18 xG)))
  (qc:PySem.W.nsIn K mainGlobals "KNOWN_AT"=some (some (.int 2 Bv)))
  (oC:PySem.W.nsIn K mainGlobals "LENGTH_AT"=some (some (.int 6 zp)))
  (i7:PySem.W.nsIn K mainGlobals "LONGEST_PIECE"=some (some (.int 10 uz)))
  (oE:PySem.W.nsIn K mainGlobals "MOST_LATE"=some (some (.int 6 zq)))
  (oF:PySem.W.nsIn K mainGlobals "MOST_LOST"=some (some (.int 4 zr)))
  (qd:PySem.W.nsIn K mainGlobals "NO_BIRTH"=some (some (.int 0 Bw)))
  (oG:PySem.W.nsIn K mainGlobals "NUMBER_AT"=some (some (.int 4 zt)))
  (qe:PySem.W.nsIn K mainGlobals "PIECE_AT"=some (some (.int 7 Bx)))
  (wH:PySem.W.nsIn K mainGlobals "PLACES"=some (some (.int 24 Ff)))
  (By:PySem.W.nsIn K mainGlobals "ROOT"=some (some (.int 5 Lh)))
  (y6:PySem.W.nsIn K mainGlobals "SIGNS"=some (some (.int 97 Iz)))
  (Bz:PySem.W.nsIn K mainGlobals "SUMS"=some (some (.int 6 Li)))
  (ka:PySem.W.nsIn K mainGlobals "ValueError"=some none)
  (B6:PySem.W.nsIn K mainGlobals "int"=some none)
  (kb:PySem.W.nsIn K mainGlobals "isinstance"=some none)
  (B8:PySem.W.nsIn K mainGlobals "len"=some none)
  (y8:PySem.W.nsIn K mainGlobals "list"=some none)
  (CA:PySem.W.nsIn K mainGlobals "min"=some none)
  (wI:PySem.W.nsIn K mainGlobals "range"=some none)
  (oH:PySem.W.nsIn K mainGlobals "reversed"=some none)
  (CB:PySem.W.nsIn K mainGlobals "zip"=some none)
  (tP:PySem.W.excIn K ae [.type "ValueError",.type "Exception",.type "BaseException",.type "object"] "ValueError.__new__"=true)
  (ll:PySem.W.findIn K (.ref ae) "__getattribute__"=some (some (.builtin "BaseException.__getattribute__")))
  (kd:PySem.W.findIn K (.ref ae) "__getattr__"=some none)
  (ke:PySem.W.findIn K (.ref ae) "__class__"=some (some (.builtin "object.__class__")))
  (kf:PySem.W.isClsIn K ae=true)
  (kg:PySem.W.mroIn K ae (.type "object")=some true)
  (jk:PySem.W.subIn K (.ref ae) (.type "BaseException")=some true)
  (dF:PySem.W.subIn K (.ref ae) (.ref bZ)=some true)
  (ed:PySem.W.kitOne K (.ref ae) (.ref ae)=some true)
  (eg:PySem.W.kitOne K (.ref ae) (.ref iy)=some false)
  (di:PySem.W.kitOne K (.ref ae) (.ref gT)=some false)
  (dG:PySem.W.kitOne K (.ref ae) (.ref eZ)=some false)
  (cc:PySem.W.kitOne K (.ref ae) (.ref aQ)=some false)
  (dj:PySem.W.kitOne K (.ref ae) (.ref gU)=some false)
  (el:PySem.W.kitOne K (.ref ae) (.ref iz)=some false)
  (fq:PySem.W.kitOne K (.ref ae) (.ref kX)=some false)
  (eu:PySem.W.kitOne K (.ref ae) (.ref i0)=some false)
  (dk:PySem.W.kitOne K (.ref ae) (.ref aU)=some false)
  (e8:PySem.W.kitOne K (.ref ae) (.ref af)=some false)
  (fA:PySem.W.kitOne K (.ref ae) (.ref i4)=some false)
  (gX:PySem.W.kitOne K (.ref ae) (.ref n9)=some false)
  (ft:PySem.W.kitOne K (.ref ae) (.ref ao)=some false)
  (dm:PySem.W.kitOne K (.ref ae) (.ref gW)=some false)
  (cg:PySem.W.kitOne K (.ref ae) (.type "ValueError")=some true)
  (lr:PySem.W.excIn K aQ [.type "ValueError",.type "Exception",.type "BaseException",.type "object"] "ValueError.__new__"=true)
  (i8:PySem.W.findIn K (.ref aQ) "__getattribute__"=some (some (.builtin "BaseException.__getattribute__")))
  (iR:PySem.W.findIn K (.ref aQ) "__getattr__"=some none)
  (iS:PySem.W.findIn K (.ref aQ) "__class__"=some (some (.builtin "object.__class__")))
  (iT:PySem.W.isClsIn K aQ=true)
  (iU:PySem.W.mroIn K aQ (.type "object")=some true)
  (gY:PySem.W.subIn K (.ref aQ) (.type "BaseException")=some true)
  (b7:PySem.W.subIn K (.ref aQ) (.ref bZ)=some true)
  (cj:PySem.W.kitOne K (.ref aQ) (.ref ae)=some false)
  (ck:PySem.W.kitOne K (.ref aQ) (.ref iy)=some false)
  (cG:PySem.W.kitOne K (.ref aQ) (.ref gT)=some false)
  (b8:PySem.W.kitOne K (.ref aQ) (.ref eZ)=some false)
  (bw:PySem.W.kitOne K (.ref aQ) (.ref aQ)=some true)
  (cH:PySem.W.kitOne K (.ref aQ) (.ref gU)=some false)
  (cm:PySem.W.kitOne K (.ref aQ) (.ref iz)=some false)
  (dH:PySem.W.kitOne K (.ref aQ) (.ref kX)=some false)
  (cp:PySem.W.kitOne K (.ref aQ) (.ref i0)=some false)
  (cI:PySem.W.kitOne K (.ref aQ) (.ref aU)=some false)
  (cq:PySem.W.kitOne K (.ref aQ) (.ref af)=some false)
  (cu:PySem.W.kitOne K (.ref aQ) (.ref i4)=some false)
  (dq:PySem.W.kitOne K (.ref aQ) (.ref n9)=some false)
  (dI:PySem.W.kitOne K (.ref aQ) (.ref ao)=some false)
  (cJ:PySem.W.kitOne K (.ref aQ) (.ref gW)=some false)
  (bz:PySem.W.kitOne K (.ref aQ) (.type "ValueError")=some true)
  (qf:PySem.W.excIn K aU [.type "ValueError",.type "Exception",.type "BaseException",.type "object"] "ValueError.__new__"=true)
  (kh:PySem.W.findIn K (.ref aU) "__getattribute__"=some (some (.builtin "BaseException.__getattribute__")))
  (jl:PySem.W.findIn K (.ref aU) "__getattr__"=some none)
  (jm:PySem.W.findIn K (.ref aU) "__class__"=some (some (.builtin "object.__class__")))
  (jn:PySem.W.isClsIn K aU=true)
  (jo:PySem.W.mroIn K aU (.type "object")=some true)
  (i9:PySem.W.subIn K (.ref aU) (.type "BaseException")=some true)
  (cw:PySem.W.subIn K (.ref aU) (.ref bZ)=some true)
  (dr:PySem.W.kitOne K (.ref aU) (.ref ae)=some false)
  (dt:PySem.W.kitOne K (.ref aU) (.ref iy)=some false)
  (dJ:PySem.W.kitOne K (.ref aU) (.ref gT)=some false)
  (cy:PySem.W.kitOne K (.ref aU) (.ref eZ)=some false)
  (cK:PySem.W.kitOne K (.ref aU) (.ref aQ)=some false)
  (dM:PySem.W.kitOne K (.ref aU) (.ref gU)=some false)
  (dw:PySem.W.kitOne K (.ref aU) (.ref iz)=some false)
  (fB:PySem.W.kitOne K (.ref aU) (.ref kX)=some false)
  (dy:PySem.W.kitOne K (.ref aU) (.ref i0)=some false)
  (dN:PySem.W.kitOne K (.ref aU) (.ref aU)=some true)
  (dz:PySem.W.kitOne K (.ref aU) (.ref af)=some false)
  (d6:PySem.W.kitOne K (.ref aU) (.ref i4)=some false)
  (fu:PySem.W.kitOne K (.ref aU) (.ref n9)=some false)
  (fD:PySem.W.kitOne K (.ref aU) (.ref ao)=some false)
  (dO:PySem.W.kitOne K (.ref aU) (.ref gW)=some false)
  (cM:PySem.W.kitOne K (.ref aU) (.type "ValueError")=some true)
  (tQ:PySem.W.excIn K af [.type "ValueError",.type "Exception",.type "BaseException",.type "object"] "ValueError.__new__"=true)
  (ls:PySem.W.findIn K (.ref af) "__getattribute__"=some (some (.builtin "BaseException.__getattribute__")))
  (ki:PySem.W.findIn K (.ref af) "__getattr__"=some none)
  (kj:PySem.W.findIn K (.ref af) "__class__"=some (some (.builtin "object.__class__")))
  (kl:PySem.W.isClsIn K af=true)
  (km:PySem.W.mroIn K af (.type "object")=some true)
  (jq:PySem.W.subIn K (.ref af) (.type "BaseException")=some true)
  (dP:PySem.W.subIn K (.ref af) (.ref bZ)=some true)
  (fE:PySem.W.kitOne K (.ref af) (.ref ae)=some false)
  (fF:PySem.W.kitOne K (.ref af) (.ref iy)=some false)
  (d7:PySem.W.kitOne K (.ref af) (.ref gT)=some false)
  (dQ:PySem.W.kitOne K (.ref af) (.ref eZ)=some false)
  (cz:PySem.W.kitOne K (.ref af) (.ref aQ)=some false)
  (d9:PySem.W.kitOne K (.ref af) (.ref gU)=some false)
  (fG:PySem.W.kitOne K (.ref af) (.ref iz)=some false)
  (fv:PySem.W.kitOne K (.ref af) (.ref kX)=some false)
  (fH:PySem.W.kitOne K (.ref af) (.ref i0)=some false)
  (eA:PySem.W.kitOne K (.ref af) (.ref aU)=some false)
  (fI:PySem.W.kitOne K (.ref af) (.ref af)=some true)
  (fJ:PySem.W.kitOne K (.ref af) (.ref i4)=some false)
  (gZ:PySem.W.kitOne K (.ref af) (.ref n9)=some false)
  (fw:PySem.W.kitOne K (.ref af) (.ref ao)=some false)
  (eC:PySem.W.kitOne K (.ref af) (.ref gW)=some false)
  (c7:PySem.W.kitOne K (.ref af) (.type "ValueError")=some true)
  (wJ:PySem.W.excIn K ao [.type "ValueError",.type "Exception",.type "BaseException",.type "object"] "ValueError.__new__"=true)
  (oI:PySem.W.findIn K (.ref ao) "__getattribute__"=some (some (.builtin "BaseException.__getattribute__")))
  (lu:PySem.W.findIn K (.ref ao) "__getattr__"=some none)
  (lz:PySem.W.findIn K (.ref ao) "__class__"=some (some (.builtin "object.__class__")))
  (l3:PySem.W.isClsIn K ao=true)
  (l4:PySem.W.mroIn K ao (.type "object")=some true)
  (ko:PySem.W.subIn K (.ref ao) (.type "BaseException")=some true)
  (eE:PySem.W.subIn K (.ref ao) (.ref bZ)=some true)
  (fz:PySem.W.kitOne K (.ref ao) (.ref ae)=some false)
  (f9:PySem.W.kitOne K (.ref ao) (.ref iy)=some false)
  (fK:PySem.W.kitOne K (.ref ao) (.ref gT)=some false)
  (eF:PySem.W.kitOne K (.ref ao) (.ref eZ)=some false)
  (dR:PySem.W.kitOne K (.ref ao) (.ref aQ)=some false)
  (fL:PySem.W.kitOne K (.ref ao) (.ref gU)=some false)
  (gA:PySem.W.kitOne K (.ref ao) (.ref iz)=some false)
  (gc:PySem.W.kitOne K (.ref ao) (.ref kX)=some false)
  (gB:PySem.W.kitOne K (.ref ao) (.ref i0)=some false)
  (fM:PySem.W.kitOne K (.ref ao) (.ref aU)=some false)
  (gC:PySem.W.kitOne K (.ref ao) (.ref af)=some false)
  (gD:PySem.W.kitOne K (.ref ao) (.ref i4)=some false)
  (iV:PySem.W.kitOne K (.ref ao) (.ref n9)=some false)
  (gf:PySem.W.kitOne K (.ref ao) (.ref ao)=some true)
  (fN:PySem.W.kitOne K (.ref ao) (.ref gW)=some false)
  (dS:PySem.W.kitOne K (.ref ao) (.type "ValueError")=some true)
  (tR:K.lookup vx=some ⟨.type "tuple",Fg,.seq #[.int (21) Fh,.int (80) Fi,.int (53) Fj,.int (2) Fk,.int (55) Fl,.int (63) Fm] JA,Fn⟩)
  (wK:PySem.W.makesIn K aW=true)
  (y9:PySem.W.findIn K (.ref aW) "__init__"=some (some (.ref yo)))
  (F3:PySem.W.isFn K (.ref yo)=true)
  (F4:PySem.W.keepIn K (.ref aW)=true)
  (F5:K.lookup yo=some ⟨ioc,iod,.func (PySem.W.fnOf "__init__" "LinkEnd.__init__" (bI vU) (bA vU) (aG vU) .none ikV Yk ipm ian VR ict),Yj⟩)
  (F6:PySem.W.codeIn K VR "LinkEnd.__init__"=true)
  (F7:PySem.W.keepIn K (.ref yo)=true)
  (F8:PySem.W.plainGet K aW Str.empty=true)
  (F9:PySem.W.hasDictIn K aW=true)
  (GA:PySem.W.plainOver K aW=true)
  (GB:PySem.W.findIn K (.ref aW) "__setattr__"=some (some (.builtin "object.__setattr__")))
  (tS:PySem.W.findIn K (.ref aW) "quiet"=some none)
  (wL:PySem.W.findIn K (.ref aW) "side"=some none)
  (wM:PySem.W.findIn K (.ref aW) "done"=some none)
  (oJ:PySem.W.findIn K (.ref aW) "unheard"=some none)
  (tT:PySem.W.findIn K (.ref aW) "birth"=some none)
  (tU:PySem.W.findIn K (.ref aW) "known"=some none)
  (wN:PySem.W.findIn K (.ref aW) "pair"=some none)
  (wO:PySem.W.findIn K (.ref aW) "told"=some none)
  (qg:PySem.W.findIn K (.ref aW) "pieces"=some none)
  (oK:PySem.W.findIn K (.ref aW) "offered"=some none)
  (tV:PySem.W.findIn K (.ref aW) "taken"=some none)
  (dU:PySem.W.findIn K (.ref aW) "forget_pieces"=some (some (.ref bU)))
  (eG:PySem.W.isFn K (.ref bU)=true)
  (eH:PySem.W.keepIn K (.ref bU)=true)
  (gE:K.lookup bU=some ⟨vz,v7,.func (PySem.W.fnOf "forget_pieces" "LinkEnd.forget_pieces" (bI b9) (bA b9) (aG b9) .none wB u4 wC wA lQ wD),u3⟩)
  (gF:PySem.W.codeIn K lQ "LinkEnd.forget_pieces"=true)
  (gG:PySem.W.keepIn K (.ref bU)=true)
  (l7:PySem.W.findIn K (.ref aW) "tick"=some (some (.ref mm)))
  (oM:PySem.W.isFn K (.ref mm)=true)
  (oN:PySem.W.keepIn K (.ref mm)=true)
  (tW:K.lookup mm=some ⟨N9,OA,.func (PySem.W.fnOf "tick" "LinkEnd.tick" (bI pR) (bA pR) (aG pR) .none OC Ll OD OB DY OE),Lj⟩)
  (tX:PySem.W.codeIn K DY "LinkEnd.tick"=true)
  (tY:PySem.W.keepIn K (.ref mm)=true)
  (gH:PySem.W.findIn K (.ref aW) "cell_given"=some (some (.ref cX)))
  (gg:PySem.W.isFn K (.ref cX)=true)
  (gh:PySem.W.keepIn K (.ref cX)=true)
  (jA:K.lookup cX=some ⟨zu,zv,.func (PySem.W.fnOf "cell_given" "LinkEnd.cell_given" (bI fT) (bA fT) (aG fT) .none zx yq zy zw qS zz),yp⟩)
  (jB:PySem.W.codeIn K qS "LinkEnd.cell_given"=true)
  (jC:PySem.W.keepIn K (.ref cX)=true)
  (l8:PySem.W.findIn K (.ref aW) "read"=some (some (.ref mn)))
  (oO:PySem.W.isFn K (.ref mn)=true)
  (oP:PySem.W.keepIn K (.ref mn)=true)
  (tZ:K.lookup mn=some ⟨OF,OG,.func (PySem.W.fnOf "read" "LinkEnd.read" (bI vV) (bA vV) (aG vV) .none OI Ln OJ OH DZ OK),Lm⟩)
  (tf:PySem.W.codeIn K DZ "LinkEnd.read"=true)
  (tj:PySem.W.keepIn K (.ref mn)=true)
  (l9:PySem.W.findIn K (.ref aW) "meet"=some (some (.ref mo)))
  (oQ:PySem.W.isFn K (.ref mo)=true)
  (oR:PySem.W.keepIn K (.ref mo)=true)
  (tm:K.lookup mo=some ⟨OL,OM,.func (PySem.W.fnOf "meet" "LinkEnd.meet" (bI vW) (bA vW) (aG vW) .none OO Lp OP ON Dc OQ),Lo⟩)
  (tq:PySem.W.codeIn K Dc "LinkEnd.meet"=true)
  (tu:PySem.W.keepIn K (.ref mo)=true)
  (jD:PySem.W.findIn K (.ref aW) "come_up"=some (some (.ref gv)))
  (jr:PySem.W.isFn K (.ref gv)=true)
  (js:PySem.W.keepIn K (.ref gv)=true)
  (mB:K.lookup gv=some ⟨Fo,Fp,.func (PySem.W.fnOf "come_up" "LinkEnd.come_up" (bI j4) (bA j4) (aG j4) .none Fs De Ft Fq wo Fu),Dd⟩)
  (mC:PySem.W.codeIn K wo "LinkEnd.come_up"=true)
  (mD:PySem.W.keepIn K (.ref gv)=true)
  (jt:PySem.W.findIn K (.ref aW) "end_up"=some (some (.ref i5)))
  (kq:PySem.W.isFn K (.ref i5)=true)
  (kr:PySem.W.keepIn K (.ref i5)=true)
  (oS:K.lookup i5=some ⟨JB,JC,.func (PySem.W.fnOf "end_up" "LinkEnd.end_up" (bI mQ) (bA mQ) (aG mQ) .none JE Fw JF JD yr JG),Fv⟩)
  (oT:PySem.W.codeIn K yr "LinkEnd.end_up"=true)
  (oU:PySem.W.keepIn K (.ref i5)=true)
  (gI:PySem.W.findIn K (.ref aW) "start_over"=some (some (.ref cY)))
  (gi:PySem.W.isFn K (.ref cY)=true)
  (gj:PySem.W.keepIn K (.ref cY)=true)
  (jE:K.lookup cY=some ⟨z7,z8,.func (PySem.W.fnOf "start_over" "LinkEnd.start_over" (bI fU) (bA fU) (aG fU) .none AA yu AB z9 qT AD),yt⟩)
  (jF:PySem.W.codeIn K qT "LinkEnd.start_over"=true)
  (jG:PySem.W.keepIn K (.ref cY)=true)
  (gJ:PySem.W.findIn K (.ref aW) "hear_count"=some (some (.ref cZ)))
  (gm:PySem.W.isFn K (.ref cZ)=true)
  (gn:PySem.W.keepIn K (.ref cZ)=true)
  (jH:K.lookup cZ=some ⟨AE,AF,.func (PySem.W.fnOf "hear_count" "LinkEnd.hear_count" (bI fV) (bA fV) (aG fV) .none AH yw AI AG qU AJ),yv⟩)
  (jI:PySem.W.codeIn K qU "LinkEnd.hear_count"=true)
  (jJ:PySem.W.keepIn K (.ref cZ)=true)
  (gK:PySem.W.findIn K (.ref aW) "take_piece"=some (some (.ref cb)))
  (gq:PySem.W.isFn K (.ref cb)=true)
  (gr:PySem.W.keepIn K (.ref cb)=true)
  (jK:K.lookup cb=some ⟨AK,AL,.func (PySem.W.fnOf "take_piece" "LinkEnd.take_piece" (bI fW) (bA fW) (aG fW) .none AN yy AO AM qV AQ),yx⟩)
  (jL:PySem.W.codeIn K qV "LinkEnd.take_piece"=true)
  (jM:PySem.W.keepIn K (.ref cb)=true)
  (oV:PySem.W.findIn K (.ref aW) "put"=some (some (.ref rK)))
  (qh:PySem.W.isFn K (.ref rK)=true)
  (qi:PySem.W.keepIn K (.ref rK)=true)
  (wQ:K.lookup rK=some ⟨Rh,Ri,.func (PySem.W.fnOf "put" "LinkEnd.put" (bI Ak) (bA Ak) (aG Ak) .none Rk OS Rl Rj HU Rm),OR⟩)
  (wR:PySem.W.codeIn K HU "LinkEnd.put"=true)
  (wU:PySem.W.keepIn K (.ref rK)=true)
  (qj:PySem.W.findIn K (.ref aW) "up"=some (some (.ref vy)))
  (tw:PySem.W.isFn K (.ref vy)=true)
  (tz:PySem.W.keepIn K (.ref vy)=true)
  (zF:K.lookup vy=some ⟨VS,VT,.func (PySem.W.fnOf "up" "LinkEnd.up" (bI IH) (bA IH) (aG IH) .none VV Ro VW VU Lq VX),Rn⟩)
  (zG:PySem.W.codeIn K Lq "LinkEnd.up"=true)
  (zH:PySem.W.keepIn K (.ref vy)=true)
  (ku:PySem.W.findIn K (.ref aW) "waits"=some (some (.ref j6)))
  (mE:PySem.W.isFn K (.ref j6)=true)
  (mF:PySem.W.keepIn K (.ref j6)=true)
  (qk:K.lookup j6=some ⟨Lr,Ls,.func (PySem.W.fnOf "waits" "LinkEnd.waits" (bI rA) (bA rA) (aG rA) .none Lv JI Lw Lu Ay Lx),JH⟩)
  (qm:PySem.W.codeIn K Ay "LinkEnd.waits"=true)
  (qo:PySem.W.keepIn K (.ref j6)=true)
  (ju:PySem.W.findIn K (.ref aW) "events"=some (some (.ref i6)))
  (kv:PySem.W.isFn K (.ref i6)=true)
  (ky:PySem.W.keepIn K (.ref i6)=true)
  (oW:K.lookup i6=some ⟨JJ,JK,.func (PySem.W.fnOf "events" "LinkEnd.events" (bI mR) (bA mR) (aG mR) .none JM Fz JN JL yz JO),Fy⟩)
  (oX:PySem.W.codeIn K yz "LinkEnd.events"=true)
  (oY:PySem.W.keepIn K (.ref i6)=true)
  (gL:PySem.W.typeIn K (.ref bZ)=some (.type "type"))
  (fO:PySem.W.isClsIn K bZ=true)
  (eI:PySem.W.subIn K (.ref bZ) (.type "BaseException")=some true)
  : ∃ t,Txt K mg t:=⟨⟨ae,iy,gT,eZ,aQ,gU,iz,kX,i0,aU,af,i4,vx,aW,n9,ao,gW,bZ,yo,bU,mm,cX,mn,mo,gv,i5,cY,cZ,cb,rK,vy,j6,i6⟩,⟨⟨_,PySem.W.mg_of KX G kY⟩,⟨_,PySem.W.mg_of KX G qb⟩,⟨_,PySem.W.mg_of KX G kZ⟩,⟨_,PySem.W.mg_of KX G qc⟩,⟨_,PySem.W.mg_of KX G oC⟩,⟨_,PySem.W.mg_of KX G i7⟩,⟨_,PySem.W.mg_of KX G oE⟩,⟨_,PySem.W.mg_of KX G oF⟩,⟨_,PySem.W.mg_of KX G qd⟩,⟨_,PySem.W.mg_of KX G oG⟩,⟨_,PySem.W.mg_of KX G qe⟩,⟨_,PySem.W.mg_of KX G wH⟩,⟨_,PySem.W.mg_of KX G By⟩,⟨_,PySem.W.mg_of KX G y6⟩,⟨_,PySem.W.mg_of KX G Bz⟩,PySem.W.mg_none_of KX G ka,PySem.W.mg_none_of KX G B6,PySem.W.mg_none_of KX G kb,PySem.W.mg_none_of KX G B8,PySem.W.mg_none_of KX G y8,PySem.W.mg_none_of KX G CA,PySem.W.mg_none_of KX G wI,PySem.W.mg_none_of KX G oH,PySem.W.mg_none_of KX G CB,PySem.W.mg_of KX G tH,PySem.W.mg_of KX G tI,PySem.W.mg_of KX G qW,PySem.W.mg_of KX G oA,PySem.W.mg_of KX G lj,PySem.W.mg_of KX G qX,PySem.W.mg_of KX G tJ,PySem.W.mg_of KX G wF,PySem.W.mg_of KX G tK,PySem.W.mg_of KX G qY,PySem.W.mg_of KX G tL,PySem.W.mg_of KX G tM,PySem.W.mg_of KX G tN,PySem.W.mg_of KX G tO,PySem.W.mg_of KX G y4,PySem.W.mg_of KX G wG,PySem.W.mg_of KX G qZ,PySem.W.mg_of KX G oB,tP,⟨ll,kd,ke,kf,kg,jk⟩,dF,ed,eg,di,dG,cc,dj,el,fq,eu,dk,e8,fA,gX,ft,dm,cg,lr,⟨i8,iR,iS,iT,iU,gY⟩,b7,cj,ck,cG,b8,bw,cH,cm,dH,cp,cI,cq,cu,dq,dI,cJ,bz,qf,⟨kh,jl,jm,jn,jo,i9⟩,cw,dr,dt,dJ,cy,cK,dM,dw,fB,dy,dN,dz,d6,fu,fD,dO,cM,tQ,⟨ls,ki,kj,kl,km,jq⟩,dP,fE,fF,d7,dQ,cz,d9,fG,fv,fH,eA,fI,fJ,gZ,fw,eC,c7,wJ,⟨oI,lu,lz,l3,l4,ko⟩,eE,fz,f9,fK,eF,dR,fL,gA,gc,gB,fM,gC,gD,iV,gf,fN,dS,⟨⟨_,_,_,tR,rfl,rfl,(zz6),(.cons ⟨_,rfl⟩ (.cons ⟨_,rfl⟩ (.cons ⟨_,rfl⟩ (.cons ⟨_,rfl⟩ (.cons ⟨_,rfl⟩ (.cons ⟨_,rfl⟩ .nil))))))⟩⟩,⟨wK,y9,F3,F4⟩,⟨_,fj F5 F6 F7⟩,⟨F8,F9,GA,GB⟩,tS,wL,wM,oJ,tT,tU,wN,wO,qg,oK,tV,⟨dU,eG,eH⟩,⟨_,fj gE gF gG⟩,⟨l7,oM,oN⟩,⟨_,fj tW tX tY⟩,⟨gH,gg,gh⟩,⟨_,fj jA jB jC⟩,⟨l8,oO,oP⟩,⟨_,fj tZ tf tj⟩,⟨l9,oQ,oR⟩,⟨_,fj tm tq tu⟩,⟨jD,jr,js⟩,⟨_,fj mB mC mD⟩,⟨jt,kq,kr⟩,⟨_,fj oS oT oU⟩,⟨gI,gi,gj⟩,⟨_,fj jE jF jG⟩,⟨gJ,gm,gn⟩,⟨_,fj jH jI jJ⟩,⟨gK,gq,gr⟩,⟨_,fj jK jL jM⟩,⟨oV,qh,qi⟩,⟨_,fj wQ wR wU⟩,⟨qj,tw,tz⟩,⟨_,fj zF zG zH⟩,⟨ku,mE,mF⟩,⟨_,fj qk qm qo⟩,⟨ju,kv,ky⟩,⟨_,fj oW oX oY⟩,⟨gL,fO,eI⟩⟩⟩
end K29
open PySem PySem.W PyProof.Rows
def PySem.W.Fast.tw13425804566582283929:Nat:=0
def PySem.W.Fast.tw13540749578117971736:Nat:=0
def PySem.W.Fast.tw15185500912578851213:Nat:=0
def PySem.W.Fast.tw2162841424401506472:Nat:=0
def PySem.W.Fast.tw14452883148832615371:Nat:=0
def PySem.W.Fast.tw2546755825429472450:Nat:=0
def PySem.W.Fast.tw14584508649782601661:Nat:=0
def PySem.W.Fast.tw5208225369868772274:Nat:=0
def PySem.W.Fast.tw14310221225989295702:Nat:=0
def PySem.W.Fast.tw16414948360702243909:Nat:=0
def PySem.W.Fast.tw4659858078055584288:Nat:=0
def PySem.W.Fast.tw9752733260537634736:Nat:=0
def PySem.W.Fast.tw16721071845652943781:Nat:=0
def PySem.W.Fast.tw17369102388918482501:Nat:=0
def PySem.W.Fast.tw17083815745299422199:Nat:=0
def PySem.W.Fast.tw11835937811421882714:Nat:=0
def PySem.W.Fast.tw4980488871226975424:Nat:=0
def PySem.W.Fast.tw15679903921176498280:Nat:=0
def PySem.W.Fast.tw7145163460089302920:Nat:=0
def PySem.W.Fast.tw15394765463160620381:Nat:=0
def PySem.W.Fast.tw18172166389022286834:Nat:=0
def PySem.W.Fast.tw1660312855862850361:Nat:=0
def PySem.W.Fast.tw17327547676974575402:Nat:=0
def PySem.W.Fast.tw217373760230953766:Nat:=0
def PySem.W.Fast.tw15322468690269724003:Nat:=0
def PySem.W.Fast.tw12007485684905032714:Nat:=0
def PySem.W.Fast.tw15823195507466841794:Nat:=0
def PySem.W.Fast.tw10250648894906100498:Nat:=0
def PySem.W.Fast.tw9255309947051850038:Nat:=0
def PySem.W.Fast.tw10574854651823407051:Nat:=0
def PySem.W.Fast.tw9830841578556213339:Nat:=0
def PySem.W.Fast.tw690757652305018086:Nat:=0
def PySem.W.Fast.tw13119370702787054275:Nat:=0
def PySem.W.Fast.tw1912599422796673015:Nat:=0
def PySem.W.Fast.tw3434864929164085588:Nat:=0
def PySem.W.Fast.tw7589809945816474527:Nat:=0
def PySem.W.Fast.tw11422175283967816333:Nat:=0
def PySem.W.Fast.tw16838288562977290220:Nat:=0
def PySem.W.Fast.tw9440044421590157472:Nat:=0
def PySem.W.Fast.tw15697285741164157958:Nat:=0
def PySem.W.Fast.tw16323600549178131495:Nat:=0
def PySem.W.Fast.tw5723034130269890469:Nat:=0
def PySem.W.Fast.tw18250883347857973581:Nat:=0
def PySem.W.Fast.tw17364213968335191842:Nat:=0
def PySem.W.Fast.tw11929778948023922324:Nat:=0
def PySem.W.Fast.tw18282357777221247053:Nat:=0
def PySem.W.Fast.tw10149226597294857173:Nat:=0
def PySem.W.Fast.tw7061029004767836037:Nat:=0
def PySem.W.Fast.tw7259950963338053924:Nat:=0
def PySem.W.Fast.tw5358675766298336954:Nat:=0
def PySem.W.Fast.tw7076211344647815109:Nat:=0
def PySem.W.Fast.tw4190878394814493633:Nat:=0
def PySem.W.Fast.tw9974840020297823656:Nat:=0
def PySem.W.Fast.tw14539846931556622412:Nat:=0
def PySem.W.Fast.tw2840282607551132858:Nat:=0
def PySem.W.Fast.tw9148160477840079091:Nat:=0
def PySem.W.Fast.tw8591069764444024704:Nat:=0
def PySem.W.Fast.tw7021729344863809545:Nat:=0
def PySem.W.Fast.tw15668207118044313257:Nat:=0
def PySem.W.Fast.tw12619200343672545962:Nat:=0
def PySem.W.Fast.tw2522353754126489864:Nat:=0
def PySem.W.Fast.tw9574009789789732936:Nat:=0
def PySem.W.Fast.tw6498551841134455269:Nat:=0
def PySem.W.Fast.tw12203982760907681723:Nat:=0
def PySem.W.Fast.tw13606462754322660043:Nat:=0
def PySem.W.Fast.tw2563225376563850153:Nat:=0
def PySem.W.Fast.tw14064308985391245747:Nat:=0
def PySem.W.Fast.tw14092397345723002294:Nat:=0
def PySem.W.Fast.tw5886655823052916752:Nat:=0
def PySem.W.Fast.tw5789888545808630966:Nat:=0
def PySem.W.Fast.tw14473323339361342679:Nat:=0
def PySem.W.Fast.tw10832557910375948505:Nat:=0
def PySem.W.Fast.tw16628398265473523243:Nat:=0
def PySem.W.Fast.tw7541502112461706881:Nat:=0
def PySem.W.Fast.tw12124744945356880288:Nat:=0
def PySem.W.Fast.tw10105205644326686942:Nat:=0
def PySem.W.Fast.tw2445164546049201312:Nat:=0
def PySem.W.Fast.tw16335632094354824456:Nat:=0
def PySem.W.Fast.tw15642953327666414244:Nat:=0
def PySem.W.Fast.tw14324241230547190111:Nat:=0
def PySem.W.Fast.tw14998263636568917692:Nat:=0
def PySem.W.Fast.tw12367896412120410994:Nat:=0
def PySem.W.Fast.tw15477777538949112458:Nat:=0
def PySem.W.Fast.tw2008174683576757658:Nat:=0
def PySem.W.Fast.tw18392510119811651270:Nat:=0
def PySem.W.Fast.tw820030131703170522:Nat:=0
def PySem.W.Fast.tw10384117724541984565:Nat:=0
def PySem.W.Fast.tw6202702704722681269:Nat:=0
def PySem.W.Fast.tw11969386443166092360:Nat:=0
def PySem.W.Fast.tw14503699670390126650:Nat:=0
def PySem.W.Fast.tw4415507175504683115:Nat:=0
def PySem.W.Fast.tw1893533868959108607:Nat:=0
def PySem.W.Fast.tw2110469567627993575:Nat:=0
def PySem.W.Fast.tw13918276700392611416:Nat:=0
def PySem.W.Fast.tw10215960754687234647:Nat:=0
def PySem.W.Fast.tw1051859190430918448:Nat:=0
def PySem.W.Fast.tw8039389441889605045:Nat:=0
def PySem.W.Fast.tw3911086923557659927:Nat:=0
def PySem.W.Fast.tw17006254644791976588:Nat:=0
def PySem.W.Fast.tw3120255041674936060:Nat:=0
def PySem.W.Fast.tw7265817922314628674:Nat:=0
def PySem.W.Fast.tw4281905847855261798:Nat:=0
def PySem.W.Fast.tw14330678830142454844:Nat:=0
def PySem.W.Fast.tw3606311139625943945:Nat:=0
def PySem.W.Fast.tw10834266469239668712:Nat:=0
def PySem.W.Fast.tw1802733183966808409:Nat:=0
def PySem.W.Fast.tw2948236157471341550:Nat:=0
def PySem.W.Fast.tw16055362765034937601:Nat:=0
def PySem.W.Fast.tw2182992797906916793:Nat:=0
def PySem.W.Fast.tw2171011859347169503:Nat:=0
def PySem.W.Fast.tw10938929307736940337:Nat:=0
def PySem.W.Fast.tw2395975796010365505:Nat:=0
def PySem.W.Fast.tw9311349137973437750:Nat:=0
def PySem.W.Fast.tw6111329475469556698:Nat:=0
def PySem.W.Fast.tw13187074092506058320:Nat:=0
def PySem.W.Fast.tw10069940426614180339:Nat:=0
def PySem.W.Fast.tw15192798934262287092:Nat:=0
def PySem.W.Fast.tw8681692042768050821:Nat:=0
def PySem.W.Fast.tw3658499393213822133:Nat:=0
def PySem.W.Fast.tw1794841933546289573:Nat:=0
def PySem.W.Fast.tw12081615823688406520:Nat:=0
def PySem.W.Fast.tw13973293497163465566:Nat:=0
def PySem.W.Fast.tw10264782515441845718:Nat:=0
def PySem.W.Fast.tw16285214788242785004:Nat:=0
def PySem.W.Fast.tw1934491887062715932:Nat:=0
def PySem.W.Fast.tw9861515993337715627:Nat:=0
def PySem.W.Fast.tw13032911917035479534:Nat:=0
def PySem.W.Fast.tw10605629678446785314:Nat:=0
def PySem.W.Fast.tw13425657804737361569:Nat:=0
def PySem.W.Fast.tw15828484130911121435:Nat:=0
def PySem.W.Fast.tw8038643630286600477:Nat:=0
def PySem.W.Fast.tw4738887504300272713:Nat:=0
def PySem.W.Fast.tw6507818536735645848:Nat:=0
def PySem.W.Fast.tw8047658011937710048:Nat:=0
def PySem.W.Fast.tw9568828647566108228:Nat:=0
def PySem.W.Fast.tw18273756757712012938:Nat:=0
def PySem.W.Fast.tw1048702855560552603:Nat:=0
def PySem.W.Fast.tw7513299196600199361:Nat:=0
def PySem.W.Fast.tw4034949711014950363:Nat:=0
def PySem.W.Fast.tw17285902291592658110:Nat:=0
def PySem.W.Fast.tw5476980187252283803:Nat:=0
def PySem.W.Fast.tw13716950153831517997:Nat:=0
def PySem.W.Fast.tw9395495790111153001:Nat:=0
def PySem.W.Fast.tw13972055131672701325:Nat:=0
def PySem.W.Fast.tw16149367330542686876:Nat:=0
def PySem.W.Fast.tw3350298974805344902:Nat:=0
def PySem.W.Fast.tw1374229729729022226:Nat:=0
def PySem.W.Fast.tw16922846003123780311:Nat:=0
def PySem.W.Fast.tw1298949856418021119:Nat:=0
def PySem.W.Fast.tw4808514714035609005:Nat:=0
def PySem.W.Fast.tw14853722930382914854:Nat:=0
def PySem.W.Fast.tw5322269901233538589:Nat:=0
def PySem.W.Fast.tw12201421542329961654:Nat:=0
def PySem.W.Fast.tw1199276656406277852:Nat:=0
def PySem.W.Fast.tw8066716490015065533:Nat:=0
def PySem.W.Fast.tw12747573317960220963:Nat:=0
def PySem.W.Fast.tw1257715236921611181:Nat:=0
def PySem.W.Fast.tw11060669332157555981:Nat:=0
def PySem.W.Fast.tw9464057936878791700:Nat:=0
def PySem.W.Fast.tw12732108577382013999:Nat:=0
def PySem.W.Fast.tw1589401655867996065:Nat:=0
def PySem.W.Fast.tw13307109606304992652:Nat:=0
def PySem.W.Fast.tw6167038408721335607:Nat:=0
def PySem.W.Fast.tw5087924399436752055:Nat:=0
def PySem.W.Fast.tw18133926118405628268:Nat:=0
def PySem.W.Fast.tw12331265542560254566:Nat:=0
def PySem.W.Fast.tw17501426105264370761:Nat:=0
def PySem.W.Fast.tw9429662499931856205:Nat:=0
def PySem.W.Fast.tw16822232626927075113:Nat:=0
def PySem.W.Fast.tw14473271642393146453:Nat:=0
def PySem.W.Fast.tw800144205016380525:Nat:=0
def PySem.W.Fast.tw18404870758550926420:Nat:=0
def PySem.W.Fast.tw2184226290002269847:Nat:=0
def PySem.W.Fast.tw18321295949236329606:Nat:=0
def PySem.W.Fast.tw14683318312114177219:Nat:=0
def PySem.W.Fast.tw8669947115146035923:Nat:=0
def PySem.W.Fast.tw17303245306027965094:Nat:=0
def PySem.W.Fast.tw10414211754564550664:Nat:=0
def PySem.W.Fast.tw2730058622208778027:Nat:=0
def PySem.W.Fast.tw5821177583122223097:Nat:=0
def PySem.W.Fast.tw18138900812732808827:Nat:=0
def PySem.W.Fast.tw3992563599107724605:Nat:=0
def PySem.W.Fast.tw392189575326723289:Nat:=0
def PySem.W.Fast.tw14099899087540204318:Nat:=0
def PySem.W.Fast.tw688107419267342056:Nat:=0
def PySem.W.Fast.tw17226979469227879864:Nat:=0
def PySem.W.Fast.tw11409559968745937349:Nat:=0
def PySem.W.Fast.tw11600001682693724588:Nat:=0
def PySem.W.Fast.tw6936691925589534056:Nat:=0
def PySem.W.Fast.tw6683511704551937607:Nat:=0
def PySem.W.Fast.tw6365988865214713324:Nat:=0
def PySem.W.Fast.tw7521449260595407070:Nat:=0
def PySem.W.Fast.tw9385816310954535310:Nat:=0
def PySem.W.Fast.tw8835240684189767947:Nat:=0
def PySem.W.Fast.tw6539015857098783574:Nat:=0
def PySem.W.Fast.tw3898085819489088469:Nat:=0
def PySem.W.Fast.tw10914481382302529327:Nat:=0
def PySem.W.Fast.tw1125003176920996479:Nat:=0
def PySem.W.Fast.tw5181142910186696978:Nat:=0
def PySem.W.Fast.tw3962123003656493616:Nat:=0
def PySem.W.Fast.tw2547307997269811635:Nat:=0
def PySem.W.Fast.tw11049853571204487036:Nat:=0
def PySem.W.Fast.tw10970887374935969451:Nat:=0
def PySem.W.Fast.tw11432063478091237175:Nat:=0
def PySem.W.Fast.tw6397965813569639474:Nat:=0
def PySem.W.Fast.tw12294485940594579786:Nat:=0
def PySem.W.Fast.tw3910273334123041700:Nat:=0
def PySem.W.Fast.tw9287588215421936335:Nat:=0
def PySem.W.Fast.tw40325213168165773:Nat:=0
def PySem.W.Fast.tw7010921373060311524:Nat:=0
def PySem.W.Fast.tw8005037027258918553:Nat:=0
def PySem.W.Fast.tw14593582298017247589:Nat:=0
def PySem.W.Fast.tw13231073164346105910:Nat:=0
def PySem.W.Fast.tw14978936872603556305:Nat:=0
def PySem.W.Fast.tw16970944462408047362:Nat:=0
def PySem.W.Fast.tw5107944742089905845:Nat:=0
def PySem.W.Fast.tw9552709458236246604:Nat:=0
def PySem.W.Fast.tw5542927340140984360:Nat:=0
def PySem.W.Fast.tw3610016573138670186:Nat:=0
def PySem.W.Fast.tw3506002311160250139:Nat:=0
def PySem.W.Fast.tw2466032991993188699:Nat:=0
def PySem.W.Fast.tw2213592854499088674:Nat:=0
def PySem.W.Fast.tw18346771487260132434:Nat:=0
def PySem.W.Fast.tw17670917648752231492:Nat:=0
def PySem.W.Fast.tw17405046753775861773:Nat:=0
def PySem.W.Fast.tw1576999056189259652:Nat:=0
def PySem.W.Fast.tw15370666070823073450:Nat:=0
def PySem.W.Fast.tw15147278199081015911:Nat:=0
def PySem.W.Fast.tw11914289501019468453:Nat:=0
def PySem.W.Fast.tw5795928482666291533:Nat:=0
def PySem.W.Fast.tw10142704949663392258:Nat:=0
def PySem.W.Fast.tw13038074566769433515:Nat:=0
def PySem.W.Fast.tw16697854849416939541:Nat:=0
def PySem.W.Fast.tw15366173271967047047:Nat:=0
def PySem.W.Fast.tw7774382483366494747:Nat:=0
def PySem.W.Fast.tw10850538622479281526:Nat:=0
def PySem.W.Fast.tw7792221328087391193:Nat:=0
def PySem.W.Fast.tw18242847680785005640:Nat:=0
def PySem.W.Fast.tw6333331325525952632:Nat:=0
def PySem.W.Fast.tw2138634275288840788:Nat:=0
def PySem.W.Fast.tw5856821386607021614:Nat:=0
def PySem.W.Fast.tw13282679210574974281:Nat:=0
def PySem.W.Fast.tw3162220886655599181:Nat:=0
def PySem.W.Fast.tw14641631885327581053:Nat:=0
def PySem.W.Fast.tw4127563749950263473:Nat:=0
def PySem.W.Fast.tw2994913980375977355:Nat:=0
def PySem.W.Fast.tw13236272909171844804:Nat:=0
def PySem.W.Fast.tw16756112672658989069:Nat:=0
def PySem.W.Fast.tw13803299649598070621:Nat:=0
def PySem.W.Fast.tw11315514608845854529:Nat:=0
def PySem.W.Fast.tw10447659302219216260:Nat:=0
def PySem.W.Fast.tw15287000468526905848:Nat:=0
def PySem.W.Fast.tw14596748050053401533:Nat:=0
def PySem.W.Fast.tw12081321523538211435:Nat:=0
def PySem.W.Fast.tw8071806228202479355:Nat:=0
def PySem.W.Fast.tw1848174897439267152:Nat:=0
def PySem.W.Fast.tw14189142858276266514:Nat:=0
def PySem.W.Fast.tw3638469793855945315:Nat:=0
def PySem.W.Fast.tw11728418743330065642:Nat:=0
def PySem.W.Fast.tw11451900210593219515:Nat:=0
def PySem.W.Fast.tw8797223805964733099:Nat:=0
def PySem.W.Fast.tw7478281438665284794:Nat:=0
def PySem.W.Fast.tw7607384085823975910:Nat:=0
def PySem.W.Fast.tw15973825913398080899:Nat:=0
def PySem.W.Fast.tw9301112912584853192:Nat:=0
def PySem.W.Fast.tw6847200079012018138:Nat:=0
def PySem.W.Fast.tw16289383735137956043:Nat:=0
def PySem.W.Fast.tw10323365567248767747:Nat:=0
def PySem.W.Fast.tw15866707709197667005:Nat:=0
def PySem.W.Fast.tw2178692136008955806:Nat:=0
def PySem.W.Fast.tw11890135468107753445:Nat:=0
def PySem.W.Fast.tw15945688171034404294:Nat:=0
def PySem.W.Fast.tw12459077754139797505:Nat:=0
def PySem.W.Fast.tw15139515985237710871:Nat:=0
def PySem.W.Fast.tw11987007521223276403:Nat:=0
def PySem.W.Fast.tw3355089099990922530:Nat:=0
def PySem.W.Fast.tw17948951525736385895:Nat:=0
def PySem.W.Fast.tw1163375387969295938:Nat:=0
def PySem.W.Fast.tw9377215242813455160:Nat:=0
def PySem.W.Fast.tw4296656107590460484:Nat:=0
def PySem.W.Fast.tw2725121669754281089:Nat:=0
def PySem.W.Fast.tw16468253332482152952:Nat:=0
def PySem.W.Fast.tw13749822714065186188:Nat:=0
def PySem.W.Fast.tw9650729406049902578:Nat:=0
def PySem.W.Fast.tw1851564744149473463:Nat:=0
def PySem.W.Fast.tw6633799021262747092:Nat:=0
def PySem.W.Fast.tw15535429393911380688:Nat:=0
def PySem.W.Fast.tw9850044704935062008:Nat:=0
def PySem.W.Fast.tw6385448968941300614:Nat:=0
def PySem.W.Fast.tw1132383792752291910:Nat:=0
def PySem.W.Fast.tw17517980717342569942:Nat:=0
def PySem.W.Fast.tw8845386458856199469:Nat:=0
def PySem.W.Fast.tw15699573055743499386:Nat:=0
def PySem.W.Fast.tw15336339079021459934:Nat:=0
def PySem.W.Fast.tw15149045403865977530:Nat:=0
def PySem.W.Fast.tw3968070729308169602:Nat:=0
def PySem.W.Fast.tw11940199798021825443:Nat:=0
def PySem.W.Fast.tw3088038875013648171:Nat:=0
def PySem.W.Fast.tw18273096593155326185:Nat:=0
def PySem.W.Fast.tw818377216559089733:Nat:=0
def PySem.W.Fast.tw18297280356516222749:Nat:=0
def PySem.W.Fast.tw13425811903201003420:Nat:=0
def PySem.W.Fast.tw9495326807231292973:Nat:=0
def PySem.W.Fast.tw7285273527573970492:Nat:=0
def PySem.W.Fast.tw11693350298520782776:Nat:=0
def PySem.W.Fast.tw7209141142346434308:Nat:=0
def PySem.W.Fast.tw6798717156905241865:Nat:=0
def PySem.W.Fast.tw5597329240423254058:Nat:=0
def PySem.W.Fast.tw14589372637496253161:Nat:=0
def PySem.W.Fast.tw11134997839587651393:Nat:=0
def PySem.W.Fast.tw10463798534709664245:Nat:=0
def PySem.W.Fast.tw3697638002561240626:Nat:=0
def PySem.W.Fast.tw15124714550989405016:Nat:=0
def PySem.W.Fast.tw8813200222770354756:Nat:=0
def PySem.W.Fast.tw8756920084988360999:Nat:=0
def PySem.W.Fast.tw8493112923401867918:Nat:=0
def PySem.W.Fast.tw12447268785770548620:Nat:=0
def PySem.W.Fast.tw6809685040779288603:Nat:=0
def PySem.W.Fast.tw5039098695467070408:Nat:=0
def PySem.W.Fast.tw5569786210051640786:Nat:=0
def PySem.W.Fast.tw16069596641479427390:Nat:=0
def PySem.W.Fast.tw10963030148403590716:Nat:=0
def PySem.W.Fast.tw7243117264127602543:Nat:=0
def PySem.W.Fast.tw9882904339734518662:Nat:=0
def PySem.W.Fast.tw9251336125015773851:Nat:=0
def PySem.W.Fast.tw17366723485145679580:Nat:=0
def PySem.W.Fast.tw17249608146812261917:Nat:=0
def PySem.W.Fast.tw16818593149417434920:Nat:=0
def PySem.W.Fast.tw11012841103629194580:Nat:=0
def PySem.W.Fast.tw15506764938976160000:Nat:=0
def PySem.W.Fast.tw8745379246825111098:Nat:=0
def PySem.W.Fast.tw15363052675582419997:Nat:=0
def PySem.W.Fast.tw456527345749928307:Nat:=0
def PySem.W.Fast.tw8352476731244583844:Nat:=0
def PySem.W.Fast.tw16680653555057363384:Nat:=0
def PySem.W.Fast.tw1386264425910685814:Nat:=0
def PySem.W.Fast.tw7515225886081230895:Nat:=0
def PySem.W.Fast.tw6847251808395335871:Nat:=0
def PySem.W.Fast.tw16757487350369046870:Nat:=0
def PySem.W.Fast.tw3320928952646986408:Nat:=0
def PySem.W.Fast.tw4603624901444541631:Nat:=0
def PySem.W.Fast.tw3252621481162886344:Nat:=0
def PySem.W.Fast.tw16841703816103197617:Nat:=0
def PySem.W.Fast.tw9076050212759383233:Nat:=0
def PySem.W.Fast.tw1759183332018388120:Nat:=0
def PySem.W.Fast.tw1490656219196808527:Nat:=0
def PySem.W.Fast.tw11124312378026620004:Nat:=0
def PySem.W.Fast.tw3663924760635258368:Nat:=0
def PySem.W.Fast.tw2620381238222221963:Nat:=0
def PySem.W.Fast.tw8274680123957320350:Nat:=0
def PySem.W.Fast.tw345244071812873365:Nat:=0
def PySem.W.Fast.tw17793183849654207269:Nat:=0
def PySem.W.Fast.tw13013444703025369132:Nat:=0
def PySem.W.Fast.tw10016719932577202446:Nat:=0
def PySem.W.Fast.tw3049505914528704639:Nat:=0
def PySem.W.Fast.tw7416249166680300653:Nat:=0
def PySem.W.Fast.tw11077688826908789423:Nat:=0
def PySem.W.Fast.tw8344551514349517879:Nat:=0
def PySem.W.Fast.tw7031154728228637032:Nat:=0
def PySem.W.Fast.tw3294032229611028609:Nat:=0
def PySem.W.Fast.tw3289370836082211690:Nat:=0
def PySem.W.Fast.tw8849269735699646749:Nat:=0
def PySem.W.Fast.tw14498155035468224705:Nat:=0
def PySem.W.Fast.tw9588300743420584216:Nat:=0
def PySem.W.Fast.tw5680606973667928977:Nat:=0
def PySem.W.Fast.tw262829556530780923:Nat:=0
def PySem.W.Fast.tw16550443470027293992:Nat:=0
def PySem.W.Fast.tw10359164727250400643:Nat:=0
def PySem.W.Fast.tw6810090434497804609:Nat:=0
def PySem.W.Fast.tw2349342722243222815:Nat:=0
def PySem.W.Fast.tw1332069053059676207:Nat:=0
def PySem.W.Fast.tw8667873493975759615:Nat:=0
def PySem.W.Fast.tw9352882885663035791:Nat:=0
def PySem.W.Fast.tw5743243334108953410:Nat:=0
def PySem.W.Fast.tw270888720621442907:Nat:=0
def PySem.W.Fast.tw10851679710938607305:Nat:=0
def PySem.W.Fast.tw9837383991380068072:Nat:=0
def PySem.W.Fast.tw5171624468789264451:Nat:=0
def PySem.W.Fast.tw15152243242028637719:Nat:=0
def PySem.W.Fast.tw15067699486615924412:Nat:=0
def PySem.W.Fast.tw14576474789159779803:Nat:=0
def PySem.W.Fast.tw11667247158992711605:Nat:=0
def PySem.W.Fast.tw14882217791152308213:Nat:=0
def PySem.W.Fast.tw14615671993680981088:Nat:=0
def PySem.W.Fast.tw3168221429171336827:Nat:=0
def PySem.W.Fast.tw14405344733371863052:Nat:=0
def PySem.W.Fast.tw1546154726769240258:Nat:=0
def PySem.W.Fast.tw5594691405701766119:Nat:=0
def PySem.W.Fast.tw1762604599812306543:Nat:=0
def PySem.W.Fast.tw7705681746190742603:Nat:=0
def PySem.W.Fast.tw5856932530203563313:Nat:=0
def PySem.W.Fast.tw3961737629861699855:Nat:=0
def PySem.W.Fast.tw11837486680502886007:Nat:=0
def PySem.W.Fast.tw12907960673037118974:Nat:=0
def PySem.W.Fast.tw17083474879970234350:Nat:=0
def PySem.W.Fast.tw12278329726355520687:Nat:=0
def PySem.W.Fast.tw14233978047585497810:Nat:=0
def PySem.W.Fast.tw10258522508030307032:Nat:=0
def PySem.W.Fast.tw9990511280185610502:Nat:=0
def PySem.W.Fast.tw8502279566353008304:Nat:=0
def PySem.W.Fast.tw8078400917889365555:Nat:=0
def PySem.W.Fast.tw7339264909221245123:Nat:=0
def PySem.W.Fast.tw5048785320402487668:Nat:=0
def PySem.W.Fast.tw2222189563248409763:Nat:=0
def PySem.W.Fast.tw18439090498039150554:Nat:=0
def PySem.W.Fast.tw17293570424513689563:Nat:=0
def PySem.W.Fast.tw16640332599570242797:Nat:=0
def PySem.W.Fast.tw16274436695105520657:Nat:=0
def PySem.W.Fast.tw1586686684175374450:Nat:=0
def PySem.W.Fast.tw14138419557552555381:Nat:=0
def PySem.W.Fast.tw13709704802072887026:Nat:=0
def PySem.W.Fast.tw12603952938694531414:Nat:=0
def PySem.W.Fast.tw11896838114339684078:Nat:=0
def PySem.W.Fast.tw10059986408424264237:Nat:=0
def PySem.W.Fast.tw14794574913325550867:Nat:=0
def PySem.W.Fast.tw7531621004223810406:Nat:=0
def PySem.W.Fast.tw2394878784624528664:Nat:=0
def PySem.W.Fast.tw12160713915462702690:Nat:=0
def PySem.W.Fast.tw5298135329494367917:Nat:=0
def PySem.W.Fast.tw6912762398184037235:Nat:=0
def PySem.W.Fast.tw4603799425633473922:Nat:=0
def PySem.W.Fast.tw18126933740986050310:Nat:=0
def PySem.W.Fast.tw12132670441177653493:Nat:=0
def PySem.W.Fast.tw9041007503073691720:Nat:=0
def PySem.W.Fast.tw903861949605707642:Nat:=0
def PySem.W.Fast.tw8145900639112660508:Nat:=0
def PySem.W.Fast.tw6183056938809140703:Nat:=0
def PySem.W.Fast.tw5769771169986547007:Nat:=0
def PySem.W.Fast.tw4299175608172633240:Nat:=0
def PySem.W.Fast.tw2652902179690817122:Nat:=0
def PySem.W.Fast.tw2508381993308628149:Nat:=0
def PySem.W.Fast.tw12849862626708307614:Nat:=0
def PySem.W.Fast.tw12300724016996491633:Nat:=0
def PySem.W.Fast.tw10435664215186524095:Nat:=0
def PySem.W.Fast.tw16969492767046586475:Nat:=0
def PySem.W.Fast.tw13473055103994068928:Nat:=0
def PySem.W.Fast.tw11200769516651626441:Nat:=0
def PySem.W.Fast.tw8810356662432200428:Nat:=0
def PySem.W.Fast.tw9754486717521573397:Nat:=0
def PySem.W.Fast.tw9908329062819259975:Nat:=0
def PySem.W.Fast.tw8140040244898829254:Nat:=0
def PySem.W.Fast.tw7295582952365978660:Nat:=0
def PySem.W.Fast.tw6784470019588891869:Nat:=0
def PySem.W.Fast.tw670667339909677602:Nat:=0
def PySem.W.Fast.tw5427839836975710887:Nat:=0
def PySem.W.Fast.tw3238735858853878074:Nat:=0
def PySem.W.Fast.tw2628430360870703980:Nat:=0
def PySem.W.Fast.tw2387589824753727402:Nat:=0
def PySem.W.Fast.tw16497687675081609996:Nat:=0
def PySem.W.Fast.tw15936553001007153203:Nat:=0
def PySem.W.Fast.tw15810951667212359270:Nat:=0
def PySem.W.Fast.tw13956853841186679307:Nat:=0
def PySem.W.Fast.tw13738772002929547127:Nat:=0
def PySem.W.Fast.tw13163906634141479341:Nat:=0
def PySem.W.Fast.tw12574898535566521710:Nat:=0
def PySem.W.Fast.tw11054483040638722935:Nat:=0
def PySem.W.Fast.tw10545688479602507901:Nat:=0
def PySem.W.Fast.tw9291319611063820516:Nat:=0
def PySem.W.Fast.tw8833163431609862597:Nat:=0
def PySem.W.Fast.tw5304022128125754011:Nat:=0
def PySem.W.Fast.tw4790153825749768716:Nat:=0
def PySem.W.Fast.tw3201315126442695087:Nat:=0
def PySem.W.Fast.tw252740157713227017:Nat:=0
def PySem.W.Fast.tw2121980276755960081:Nat:=0
def PySem.W.Fast.tw17257316046946511903:Nat:=0
def PySem.W.Fast.tw1682720689328639575:Nat:=0
def PySem.W.Fast.tw16583511815492610733:Nat:=0
def PySem.W.Fast.tw16318600613710935594:Nat:=0
def PySem.W.Fast.tw14902085855849328280:Nat:=0
def PySem.W.Fast.tw14266709304526851983:Nat:=0
def PySem.W.Fast.tw12841473244287022477:Nat:=0
def PySem.W.Fast.tw12567731799222038579:Nat:=0
def PySem.W.Fast.tw11776797987286656971:Nat:=0
def PySem.W.Fast.tw10999903005119265202:Nat:=0
def PySem.W.Fast.tw6152088941080607184:Nat:=0
set_option maxRecDepth 100000 in
set_option maxHeartbeats 0 in
theorem PySem.Challenge.cw_stormpost_k29_puts_and_refusals_holds : PySem.Challenge.rw_stormpost_k29_puts_and_refusals.Holds := by
 w_on;o_law;k_head;(case hw=>w_witness2)
 k_fill
 refine L2.KE (l:=PySem.Challenge.rw_stormpost_k29_puts_and_refusals) (k:=10) ⟨rfl,by decide,by decide⟩ rfl rfl (fun w h Y=>PySem.W.kIn_of Y) ?F
 case F =>
  intro w mg fa h KX G P8
  have vp:L2.aO (L2.cO KX) mg "is_sign" K29.qx:=by
   dsimp only [L2.cO]
   refine' L2.aO.mk' KX G ?a ?l ?c ?k
   (case a=>k_is);(case l=>k_is);(case c=>k_is);(case k=>k_is)
  have qJ:L2.aO (L2.cO KX) mg "look_sign" K29.lE:=by
   dsimp only [L2.cO]
   refine' L2.aO.mk' KX G ?a ?l ?c ?k
   (case a=>k_is);(case l=>k_is);(case c=>k_is);(case k=>k_is)
  have qK:L2.aO (L2.cO KX) mg "look_unit" K29.lF:=by
   dsimp only [L2.cO]
   refine' L2.aO.mk' KX G ?a ?l ?c ?k
   (case a=>k_is);(case l=>k_is);(case c=>k_is);(case k=>k_is)
  have Bt:L2.aO (L2.cO KX) mg "power" K29.xQ:=by
   dsimp only [L2.cO]
   refine' L2.aO.mk' KX G ?a ?l ?c ?k
   (case a=>k_is);(case l=>k_is);(case c=>k_is);(case k=>k_is)
  have vq:L2.aO (L2.cO KX) mg "inverse" K29.qy:=by
   dsimp only [L2.cO]
   refine' L2.aO.mk' KX G ?a ?l ?c ?k
   (case a=>k_is);(case l=>k_is);(case c=>k_is);(case k=>k_is)
  have sv:L2.aO (L2.cO KX) mg "exponent" K29.nF:=by
   dsimp only [L2.cO]
   refine' L2.aO.mk' KX G ?a ?l ?c ?k
   (case a=>k_is);(case l=>k_is);(case c=>k_is);(case k=>k_is)
  have sx:L2.aO (L2.cO KX) mg "equation" K29.kC:=by
   dsimp only [L2.cO]
   refine' L2.aO.mk' KX G ?a ?l ?c ?k
   (case a=>k_is);(case l=>k_is);(case c=>k_is);(case k=>k_is)
  have lh:L2.aO (L2.cO KX) mg "pivot_place" K29.jP:=by
   dsimp only [L2.cO]
   refine' L2.aO.mk' KX G ?a ?l ?c ?k
   (case a=>k_is);(case l=>k_is);(case c=>k_is);(case k=>k_is)
  have qL:L2.aO (L2.cO KX) mg "exchanged" K29.lG:=by
   dsimp only [L2.cO]
   refine' L2.aO.mk' KX G ?a ?l ?c ?k
   (case a=>k_is);(case l=>k_is);(case c=>k_is);(case k=>k_is)
  have sy:L2.aO (L2.cO KX) mg "lessened" K29.kD:=by
   dsimp only [L2.cO]
   refine' L2.aO.mk' KX G ?a ?l ?c ?k
   (case a=>k_is);(case l=>k_is);(case c=>k_is);(case k=>k_is)
  have vt:L2.aO (L2.cO KX) mg "cleared" K29.j3:=by
   dsimp only [L2.cO]
   refine' L2.aO.mk' KX G ?a ?l ?c ?k
   (case a=>k_is);(case l=>k_is);(case c=>k_is);(case k=>k_is)
  have yh:L2.aO (L2.cO KX) mg "solved" K29.mO:=by
   dsimp only [L2.cO]
   refine' L2.aO.mk' KX G ?a ?l ?c ?k
   (case a=>k_is);(case l=>k_is);(case c=>k_is);(case k=>k_is)
  have nq:L2.aO (L2.cO KX) mg "look_signs" K29.jx:=by
   dsimp only [L2.cO]
   refine' L2.aO.mk' KX G ?a ?l ?c ?k
   (case a=>k_is);(case l=>k_is);(case c=>k_is);(case k=>k_is)
  have qM:L2.aO (L2.cO KX) mg "look_cell" K29.lH:=by
   dsimp only [L2.cO]
   refine' L2.aO.mk' KX G ?a ?l ?c ?k
   (case a=>k_is);(case l=>k_is);(case c=>k_is);(case k=>k_is)
  have tD:L2.aO (L2.cO KX) mg "value_at" K29.nG:=by
   dsimp only [L2.cO]
   refine' L2.aO.mk' KX G ?a ?l ?c ?k
   (case a=>k_is);(case l=>k_is);(case c=>k_is);(case k=>k_is)
  have tE:L2.aO (L2.cO KX) mg "troubles" K29.kF:=by
   dsimp only [L2.cO]
   refine' L2.aO.mk' KX G ?a ?l ?c ?k
   (case a=>k_is);(case l=>k_is);(case c=>k_is);(case k=>k_is)
  have qN:L2.aO (L2.cO KX) mg "is_sealed" K29.lI:=by
   dsimp only [L2.cO]
   refine' L2.aO.mk' KX G ?a ?l ?c ?k
   (case a=>k_is);(case l=>k_is);(case c=>k_is);(case k=>k_is)
  have vv:L2.aO (L2.cO KX) mg "carried" K29.mP:=by
   dsimp only [L2.cO]
   refine' L2.aO.mk' KX G ?a ?l ?c ?k
   (case a=>k_is);(case l=>k_is);(case c=>k_is);(case k=>k_is)
  have yi:L2.aO (L2.cO KX) mg "sealed" K29.pQ:=by
   dsimp only [L2.cO]
   refine' L2.aO.mk' KX G ?a ?l ?c ?k
   (case a=>k_is);(case l=>k_is);(case c=>k_is);(case k=>k_is)
  have qO:L2.aO (L2.cO KX) mg "look_late" K29.lJ:=by
   dsimp only [L2.cO]
   refine' L2.aO.mk' KX G ?a ?l ?c ?k
   (case a=>k_is);(case l=>k_is);(case c=>k_is);(case k=>k_is)
  have kR:L2.aO (L2.cO KX) mg "look_measure" K29.hU:=by
   dsimp only [L2.cO]
   refine' L2.aO.mk' KX G ?a ?l ?c ?k
   (case a=>k_is);(case l=>k_is);(case c=>k_is);(case k=>k_is)
  have tF:L2.aO (L2.cO KX) mg "quiet_of" K29.nH:=by
   dsimp only [L2.cO]
   refine' L2.aO.mk' KX G ?a ?l ?c ?k
   (case a=>k_is);(case l=>k_is);(case c=>k_is);(case k=>k_is)
  have nu:L2.aO (L2.cO KX) mg "lone_place" K29.jy:=by
   dsimp only [L2.cO]
   refine' L2.aO.mk' KX G ?a ?l ?c ?k
   (case a=>k_is);(case l=>k_is);(case c=>k_is);(case k=>k_is)
  have vw:L2.aO (L2.cO KX) mg "is_root" K29.qz:=by
   dsimp only [L2.cO]
   refine' L2.aO.mk' KX G ?a ?l ?c ?k
   (case a=>k_is);(case l=>k_is);(case c=>k_is);(case k=>k_is)
  have ji:L2.aO (L2.cO KX) mg "turned_places" K29.dW:=by
   dsimp only [L2.cO]
   refine' L2.aO.mk' KX G ?a ?l ?c ?k
   (case a=>k_is);(case l=>k_is);(case c=>k_is);(case k=>k_is)
  have tG:L2.aO (L2.cO KX) mg "turns_at" K29.kG:=by
   dsimp only [L2.cO]
   refine' L2.aO.mk' KX G ?a ?l ?c ?k
   (case a=>k_is);(case l=>k_is);(case c=>k_is);(case k=>k_is)
  have yj:L2.aO (L2.cO KX) mg "mended" K29.uW:=by
   dsimp only [L2.cO]
   refine' L2.aO.mk' KX G ?a ?l ?c ?k
   (case a=>k_is);(case l=>k_is);(case c=>k_is);(case k=>k_is)
  have kS:L2.aO (L2.cO KX) mg "number_signs" K29.hV:=by
   dsimp only [L2.cO]
   refine' L2.aO.mk' KX G ?a ?l ?c ?k
   (case a=>k_is);(case l=>k_is);(case c=>k_is);(case k=>k_is)
  have kT:L2.aO (L2.cO KX) mg "signs_number" K29.hX:=by
   dsimp only [L2.cO]
   refine' L2.aO.mk' KX G ?a ?l ?c ?k
   (case a=>k_is);(case l=>k_is);(case c=>k_is);(case k=>k_is)
  have nv:L2.aO (L2.cO KX) mg "look_piece" K29.jz:=by
   dsimp only [L2.cO]
   refine' L2.aO.mk' KX G ?a ?l ?c ?k
   (case a=>k_is);(case l=>k_is);(case c=>k_is);(case k=>k_is)
  have qP:L2.aO (L2.cO KX) mg "_law_cell" K29.lK:=by
   dsimp only [L2.cO]
   refine' L2.aO.mk' KX G ?a ?l ?c ?k
   (case a=>k_is);(case l=>k_is);(case c=>k_is);(case k=>k_is)
  have kU:L2.aO (L2.cO KX) mg "_law_numbers" K29.hZ:=by
   dsimp only [L2.cO]
   refine' L2.aO.mk' KX G ?a ?l ?c ?k
   (case a=>k_is);(case l=>k_is);(case c=>k_is);(case k=>k_is)
  have kW:L2.aO (L2.cO KX) mg "_law_measure" K29.iA:=by
   dsimp only [L2.cO]
   refine' L2.aO.mk' KX G ?a ?l ?c ?k
   (case a=>k_is);(case l=>k_is);(case c=>k_is);(case k=>k_is)
  have ny:L2.aO (L2.cO KX) mg "_law_kinds" K29.iB:=by
   dsimp only [L2.cO]
   refine' L2.aO.mk' KX G ?a ?l ?c ?k
   (case a=>k_is);(case l=>k_is);(case c=>k_is);(case k=>k_is)
  have iw:L2.aO (L2.cO KX) mg "_law_put_heard" K29.fS:=by
   dsimp only [L2.cO]
   refine' L2.aO.mk' KX G ?a ?l ?c ?k
   (case a=>k_is);(case l=>k_is);(case c=>k_is);(case k=>k_is)
  have iQ:L2.aO (L2.cO KX) mg "_law_made_heard" K29.eJ:=by
   dsimp only [L2.cO]
   refine' L2.aO.mk' KX G ?a ?l ?c ?k
   (case a=>k_is);(case l=>k_is);(case c=>k_is);(case k=>k_is)
  have n6:L2.aO (L2.cO KX) mg "_law_piece" K29.iC:=by
   dsimp only [L2.cO]
   refine' L2.aO.mk' KX G ?a ?l ?c ?k
   (case a=>k_is);(case l=>k_is);(case c=>k_is);(case k=>k_is)
  have jj:L2.aO (L2.cO KX) mg "_law_no_piece" K29.gQ:=by
   dsimp only [L2.cO]
   refine' L2.aO.mk' KX G ?a ?l ?c ?k
   (case a=>k_is);(case l=>k_is);(case c=>k_is);(case k=>k_is)
  have qQ:L2.aO (L2.cO KX) mg "_law_puts" K29.lL:=by
   dsimp only [L2.cO]
   refine' L2.aO.mk' KX G ?a ?l ?c ?k
   (case a=>k_is);(case l=>k_is);(case c=>k_is);(case k=>k_is)
  have qR:L2.aO (L2.cO KX) mg "_law_went" K29.lM:=by
   dsimp only [L2.cO]
   refine' L2.aO.mk' KX G ?a ?l ?c ?k
   (case a=>k_is);(case l=>k_is);(case c=>k_is);(case k=>k_is)
  have VY:L2.aO (L2.cO KX) mg "law" K29.yA:=by
   dsimp only [L2.cO]
   refine' L2.aO.mk' KX G ?a ?l ?c ?k
   (case a=>k_is);(case l=>k_is);(case c=>k_is);(case k=>k_is)
  have T:∃ t,K29.Txt (L2.cO KX) mg t:=by
   dsimp only [L2.cO]
   refine' K29.Rg KX G ?tH ?tI ?qW ?oA ?lj ?qX ?tJ ?wF ?tK ?qY ?tL ?tM ?tN ?tO ?y4 ?wG ?qZ ?oB ?kY ?qb ?kZ ?qc ?oC ?i7 ?oE ?oF ?qd ?oG ?qe ?wH ?By ?y6 ?Bz ?ka ?B6 ?kb ?B8 ?y8 ?CA ?wI ?oH ?CB ?tP ?ll ?kd ?ke ?kf ?kg ?jk ?dF ?ed ?eg ?di ?dG ?cc ?dj ?el ?fq ?eu ?dk ?e8 ?fA ?gX ?ft ?dm ?cg ?lr ?i8 ?iR ?iS ?iT ?iU ?gY ?b7 ?cj ?ck ?cG ?b8 ?bw ?cH ?cm ?dH ?cp ?cI ?cq ?cu ?dq ?dI ?cJ ?bz ?qf ?kh ?jl ?jm ?jn ?jo ?i9 ?cw ?dr ?dt ?dJ ?cy ?cK ?dM ?dw ?fB ?dy ?dN ?dz ?d6 ?fu ?fD ?dO ?cM ?tQ ?ls ?ki ?kj ?kl ?km ?jq ?dP ?fE ?fF ?d7 ?dQ ?cz ?d9 ?fG ?fv ?fH ?eA ?fI ?fJ ?gZ ?fw ?eC ?c7 ?wJ ?oI ?lu ?lz ?l3 ?l4 ?ko ?eE ?fz ?f9 ?fK ?eF ?dR ?fL ?gA ?gc ?gB ?fM ?gC ?gD ?iV ?gf ?fN ?dS ?tR ?wK ?y9 ?F3 ?F4 ?F5 ?F6 ?F7 ?F8 ?F9 ?GA ?GB ?tS ?wL ?wM ?oJ ?tT ?tU ?wN ?wO ?qg ?oK ?tV ?dU ?eG ?eH ?gE ?gF ?gG ?l7 ?oM ?oN ?tW ?tX ?tY ?gH ?gg ?gh ?jA ?jB ?jC ?l8 ?oO ?oP ?tZ ?tf ?tj ?l9 ?oQ ?oR ?tm ?tq ?tu ?jD ?jr ?js ?mB ?mC ?mD ?jt ?kq ?kr ?oS ?oT ?oU ?gI ?gi ?gj ?jE ?jF ?jG ?gJ ?gm ?gn ?jH ?jI ?jJ ?gK ?gq ?gr ?jK ?jL ?jM ?oV ?qh ?qi ?wQ ?wR ?wU ?qj ?tw ?tz ?zF ?zG ?zH ?ku ?mE ?mF ?qk ?qm ?qo ?ju ?kv ?ky ?oW ?oX ?oY ?gL ?fO ?eI
   (case tH=>k_is)
   (case tI=>k_is)
   (case qW=>k_is)
   (case oA=>k_is)
   (case lj=>k_is)
   (case qX=>k_is)
   (case tJ=>k_is)
   (case wF=>k_is)
   (case tK=>k_is)
   (case qY=>k_is)
   (case tL=>k_is)
   (case tM=>k_is)
   (case tN=>k_is)
   (case tO=>k_is)
   (case y4=>k_is)
   (case wG=>k_is)
   (case qZ=>k_is)
   (case oB=>k_is)
   (case kY=>k_is)
   (case qb=>k_is)
   (case kZ=>k_is)
   (case qc=>k_is)
   (case oC=>k_is)
   (case i7=>k_is)
   (case oE=>k_is)
   (case oF=>k_is)
   (case qd=>k_is)
   (case oG=>k_is)
   (case qe=>k_is)
   (case wH=>k_is)
   (case By=>k_is)
   (case y6=>k_is)
   (case Bz=>k_is)
   (case ka=>k_is)
   (case B6=>k_is)
   (case kb=>k_is)
   (case B8=>k_is)
   (case y8=>k_is)
   (case CA=>k_is)
   (case wI=>k_is)
   (case oH=>k_is)
   (case CB=>k_is)
   (case tP=>k_exc)
   (case ll=>k_is)
   (case kd=>k_is)
   (case ke=>k_is)
   (case kf=>k_is)
   (case kg=>k_is)
   (case jk=>k_is)
   (case dF=>k_is)
   (case ed=>kit_is)
   (case eg=>kit_is)
   (case di=>kit_is)
   (case dG=>kit_is)
   (case cc=>kit_is)
   (case dj=>kit_is)
   (case el=>kit_is)
   (case fq=>kit_is)
   (case eu=>kit_is)
   (case dk=>kit_is)
   (case e8=>kit_is)
   (case fA=>kit_is)
   (case gX=>kit_is)
   (case ft=>kit_is)
   (case dm=>kit_is)
   (case cg=>kit_is)
   (case lr=>k_exc)
   (case i8=>k_is)
   (case iR=>k_is)
   (case iS=>k_is)
   (case iT=>k_is)
   (case iU=>k_is)
   (case gY=>k_is)
   (case b7=>k_is)
   (case cj=>kit_is)
   (case ck=>kit_is)
   (case cG=>kit_is)
   (case b8=>kit_is)
   (case bw=>kit_is)
   (case cH=>kit_is)
   (case cm=>kit_is)
   (case dH=>kit_is)
   (case cp=>kit_is)
   (case cI=>kit_is)
   (case cq=>kit_is)
   (case cu=>kit_is)
   (case dq=>kit_is)
   (case dI=>kit_is)
   (case cJ=>kit_is)
   (case bz=>kit_is)
   (case qf=>k_exc)
   (case kh=>k_is)
   (case jl=>k_is)
   (case jm=>k_is)
   (case jn=>k_is)
   (case jo=>k_is)
   (case i9=>k_is)
   (case cw=>k_is)
   (case dr=>kit_is)
   (case dt=>kit_is)
   (case dJ=>kit_is)
   (case cy=>kit_is)
   (case cK=>kit_is)
   (case dM=>kit_is)
   (case dw=>kit_is)
   (case fB=>kit_is)
   (case dy=>kit_is)
   (case dN=>kit_is)
   (case dz=>kit_is)
   (case d6=>kit_is)
   (case fu=>kit_is)
   (case fD=>kit_is)
   (case dO=>kit_is)
   (case cM=>kit_is)
   (case tQ=>k_exc)
   (case ls=>k_is)
   (case ki=>k_is)
   (case kj=>k_is)
   (case kl=>k_is)
   (case km=>k_is)
   (case jq=>k_is)
   (case dP=>k_is)
   (case fE=>kit_is)
   (case fF=>kit_is)
   (case d7=>kit_is)
   (case dQ=>kit_is)
   (case cz=>kit_is)
   (case d9=>kit_is)
   (case fG=>kit_is)
   (case fv=>kit_is)
   (case fH=>kit_is)
   (case eA=>kit_is)
   (case fI=>kit_is)
   (case fJ=>kit_is)
   (case gZ=>kit_is)
   (case fw=>kit_is)
   (case eC=>kit_is)
   (case c7=>kit_is)
   (case wJ=>k_exc)
   (case oI=>k_is)
   (case lu=>k_is)
   (case lz=>k_is)
   (case l3=>k_is)
   (case l4=>k_is)
   (case ko=>k_is)
   (case eE=>k_is)
   (case fz=>kit_is)
   (case f9=>kit_is)
   (case fK=>kit_is)
   (case eF=>kit_is)
   (case dR=>kit_is)
   (case fL=>kit_is)
   (case gA=>kit_is)
   (case gc=>kit_is)
   (case gB=>kit_is)
   (case fM=>kit_is)
   (case gC=>kit_is)
   (case gD=>kit_is)
   (case iV=>kit_is)
   (case gf=>kit_is)
   (case fN=>kit_is)
   (case dS=>kit_is)
   (case tR=>k_is)
   (case wK=>k_is)
   (case y9=>k_is)
   (case F3=>k_is)
   (case F4=>k_is)
   (case F5=>k_is)
   (case F6=>k_is)
   (case F7=>k_is)
   (case F8=>k_is)
   (case F9=>k_is)
   (case GA=>k_is)
   (case GB=>k_is)
   (case tS=>k_is)
   (case wL=>k_is)
   (case wM=>k_is)
   (case oJ=>k_is)
   (case tT=>k_is)
   (case tU=>k_is)
   (case wN=>k_is)
   (case wO=>k_is)
   (case qg=>k_is)
   (case oK=>k_is)
   (case tV=>k_is)
   (case dU=>k_is)
   (case eG=>k_is)
   (case eH=>k_is)
   (case gE=>k_is)
   (case gF=>k_is)
   (case gG=>k_is)
   (case l7=>k_is)
   (case oM=>k_is)
   (case oN=>k_is)
   (case tW=>k_is)
   (case tX=>k_is)
   (case tY=>k_is)
   (case gH=>k_is)
   (case gg=>k_is)
   (case gh=>k_is)
   (case jA=>k_is)
   (case jB=>k_is)
   (case jC=>k_is)
   (case l8=>k_is)
   (case oO=>k_is)
   (case oP=>k_is)
   (case tZ=>k_is)
   (case tf=>k_is)
   (case tj=>k_is)
   (case l9=>k_is)
   (case oQ=>k_is)
   (case oR=>k_is)
   (case tm=>k_is)
   (case tq=>k_is)
   (case tu=>k_is)
   (case jD=>k_is)
   (case jr=>k_is)
   (case js=>k_is)
   (case mB=>k_is)
   (case mC=>k_is)
   (case mD=>k_is)
   (case jt=>k_is)
   (case kq=>k_is)
   (case kr=>k_is)
   (case oS=>k_is)
   (case oT=>k_is)
   (case oU=>k_is)
   (case gI=>k_is)
   (case gi=>k_is)
   (case gj=>k_is)
   (case jE=>k_is)
   (case jF=>k_is)
   (case jG=>k_is)
   (case gJ=>k_is)
   (case gm=>k_is)
   (case gn=>k_is)
   (case jH=>k_is)
   (case jI=>k_is)
   (case jJ=>k_is)
   (case gK=>k_is)
   (case gq=>k_is)
   (case gr=>k_is)
   (case jK=>k_is)
   (case jL=>k_is)
   (case jM=>k_is)
   (case oV=>k_is)
   (case qh=>k_is)
   (case qi=>k_is)
   (case wQ=>k_is)
   (case wR=>k_is)
   (case wU=>k_is)
   (case qj=>k_is)
   (case tw=>k_is)
   (case tz=>k_is)
   (case zF=>k_is)
   (case zG=>k_is)
   (case zH=>k_is)
   (case ku=>k_is)
   (case mE=>k_is)
   (case mF=>k_is)
   (case qk=>k_is)
   (case qm=>k_is)
   (case qo=>k_is)
   (case ju=>k_is)
   (case kv=>k_is)
   (case ky=>k_is)
   (case oW=>k_is)
   (case oX=>k_is)
   (case oY=>k_is)
   (case gL=>k_is)
   (case fO=>k_is)
   (case eI=>k_is)
  obtain ⟨t,T⟩:=T
  exact L2.KD VY (fun _ _ _ _ _ _ us hl=>match us,hl with | [_],_=>rfl) P8 fun f fd base F=>K29.N7 T F vp qJ qK Bt vq sv sx lh qL sy vt yh nq qM tD tE qN vv yi qO kR tF nu vw ji tG yj kS kT nv qP kU kW ny iw iQ n6 jj qQ qR
#print axioms PySem.Challenge.cw_stormpost_k29_puts_and_refusals_holds
