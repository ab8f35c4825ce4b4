import PyProof.Rows.All
import Wide.All
import OpenK.AllK
import Wide.FinOn
import Lean
import PyProof.EqAt
import PyProof.EqKinds
import PyProof.TupleCall
import PySem.Challenge.RW_stormpost_k35_whole_up_within_three_quie
set_option genSizeOf false
set_option Elab.async false
set_option linter.all false
set_option maxRecDepth 100000
namespace L2
open PySem PySem.Spec PyProof.Rows
abbrev Key:=Sum Int Str
def OD:Key→Value→Bool
 | .inl k,v=>Value.isInt k v
 | .inr x,v=>Value.isStrOf x v
def WI (w:World):Key→Int
 | .inl k=>hashInt k
 | .inr x=>hashStr w x
theorem cZ:∀ {k:Key} {v:Value},OD k v=true→(∃ i t,k=Sum.inl i∧v=Value.int i t)∨(∃ x t,k=Sum.inr x∧v=Value.str x t)
 | .inl i,v,h=>by
  obtain ⟨t,e⟩:=Value.isInt_shape (k:=i) (v:=v) h
  exact .inl ⟨i,t,rfl,e⟩
 | .inr x,v,h=>by
  obtain ⟨t,e⟩:=Value.isStrOf_shape (x:=x) (v:=v) h
  exact .inr ⟨x,t,rfl,e⟩
theorem O3 (a b:Int):decide ((Sum.inl a:Key)=Sum.inl b)=(a == b):=by
 by_cases e:a=b
 ·subst e;simp
 ·have h:¬ (Sum.inl a:Key)=Sum.inl b:=fun q=>e (Sum.inl.inj q)
  rw [decide_eq_false h]
  exact (beq_eq_false_iff_ne.mpr e).symm
theorem O4 (a b:Str):decide ((Sum.inr a:Key)=Sum.inr b)=decide (a=b):=by
 by_cases e:a=b
 ·subst e;simp
 ·have h:¬ (Sum.inr a:Key)=Sum.inr b:=fun q=>e (Sum.inr.inj q)
  rw [decide_eq_false h,decide_eq_false e]
theorem O5 (a:Int) (b:Str):decide ((Sum.inl a:Key)=Sum.inr b)=false:=decide_eq_false (fun q=>nomatch q)
theorem O6 (a:Str) (b:Int):decide ((Sum.inr a:Key)=Sum.inl b)=false:=decide_eq_false (fun q=>nomatch q)
def vZ (prog:Program) (w:World):PySem.KeyKind prog w Key where
 is:=OD
 hash:=WI w
 inj:=fun v a b ha hb=>by
  rcases cZ ha with ⟨i,t,rfl,rfl⟩ | ⟨x,t,rfl,rfl⟩
  ·rcases cZ hb with ⟨j,u,rfl,e⟩ | ⟨y,u,rfl,e⟩
   ·injection e with e1 _;rw [e1]
   ·exact nomatch e
  ·rcases cZ hb with ⟨j,u,rfl,e⟩ | ⟨y,u,rfl,e⟩
   ·exact nomatch e
   ·injection e with e1 _;rw [e1]
 byValue:=fun k v h=>by
  rcases cZ h with ⟨i,t,rfl,rfl⟩ | ⟨x,t,rfl,rfl⟩ <;> rfl
 pyHash:=fun hv h=>by
  rcases cZ hv with ⟨i,t,rfl,rfl⟩ | ⟨x,t,rfl,rfl⟩
  ·exact wpAny_pyHash_int h
  ·exact wpAny_pyHash_str h
 eqBool:=fun hu hv h=>by
  rcases cZ hu with ⟨i,t,rfl,rfl⟩ | ⟨x,t,rfl,rfl⟩
  ·rcases cZ hv with ⟨j,u,rfl,rfl⟩ | ⟨y,u,rfl,rfl⟩
   ·rw [O3] at h;exact wpAny_eqBool_int h
   ·rw [O5] at h;exact SeqAt.EqAt.int_str i t y u _ _ _ _ h
  ·rcases cZ hv with ⟨j,u,rfl,rfl⟩ | ⟨y,u,rfl,rfl⟩
   ·rw [O6] at h;exact SeqAt.EqAt.str_int x t j u _ _ _ _ h
   ·rw [O4] at h;exact wpAny_eqBool_str h
 «strs»:=fun k x t v h=>by
  rcases cZ h with ⟨i,u,rfl,e⟩ | ⟨y,u,rfl,e⟩
  ·exact nomatch e
  ·injection e with e1 _
   subst e1
   cases v <;> rfl
end L2
namespace L2
open PySem PySem.Spec PyProof.Rows
inductive V where
 | cB | bl (b:Bool) | int (i:Int) | str (x:Str) | FY (b:Array UInt8) | RJ (b:UInt64) | ref (a:Addr) | ty (n:String)
 deriving DecidableEq
def RelV:V→Value→Prop
 | .cB,u=>u=Value.none
 | .bl b,u=>u=Value.bool b
 | .int i,u=>∃ t,u=Value.int i t
 | .str x,u=>∃ t,u=Value.str x t
 | .FY b,u=>∃ t,u=Value.bytes b t
 | .RJ b,u=>∃ t,u=Value.float b t
 | .ref a,u=>u=Value.ref a
 | .ty n,u=>u=Value.type n
abbrev a9:List V→List Value→Prop:=Paired RelV
theorem a9.length {xs:List V} {us:List Value} (r:a9 xs us):xs.length=us.length:=Paired.length r
theorem a9.get:∀ {xs:List V} {us:List Value} {i:Nat} {x:V},a9 xs us→xs[i]?=some x→∃ u,us[i]?=some u∧RelV x u
 | _,_,_,_,.nil,e=>by simp at e
 | _,_,0,_,.cons r _,e=>by simp at e;subst e;exact ⟨_,rfl,r⟩
 | _,_,i+1,x,.cons _ t,e=>by
  obtain ⟨u,h1,h2⟩:=a9.get (i:=i) (x:=x) t (by simpa using e)
  exact ⟨u,by simpa using h1,h2⟩
theorem a9.set {x:V} {u:Value} (r:RelV x u):∀ {xs:List V} {us:List Value} (i:Nat),a9 xs us→a9 (xs.set i x) (us.set i u)
 | _,_,_,.nil=>.nil
 | _,_,0,.cons _ t=>.cons r t
 | _,_,i+1,.cons q t=>.cons q (a9.set r i t)
theorem a9.append:∀ {xs ys:List V} {us ws:List Value},a9 xs us→a9 ys ws→a9 (xs ++ ys) (us ++ ws)
 | _,_,_,_,.nil,s=>s
 | _,_,_,_,.cons r t,s=>.cons r (a9.append t s)
theorem a9.take:∀ {xs:List V} {us:List Value} (n:Nat),a9 xs us→a9 (xs.take n) (us.take n)
 | _,_,0,_=>.nil
 | _,_,_+1,.nil=>.nil
 | _,_,n+1,.cons r t=>.cons r (a9.take n t)
theorem a9.drop:∀ {xs:List V} {us:List Value} (n:Nat),a9 xs us→a9 (xs.drop n) (us.drop n)
 | _,_,0,r=>r
 | _,_,_+1,.nil=>.nil
 | _,_,n+1,.cons _ t=>a9.drop n t
theorem a9.none_of:∀ {xs:List V} {us:List Value} {i:Nat},a9 xs us→xs[i]?=none→us[i]?=none:=fun {xs us i} r e=>by
 have h1:=r.length
 have h2:xs.length≤i:=List.getElem?_eq_none_iff.mp e
 exact List.getElem?_eq_none_iff.mpr (by omega)
def nj:Option V→Option Value→Prop
 | some v,some u=>RelV v u
 | none,none=>True
 | _,_=>False
def KV {κ:Type}:List (κ × V)→List (κ × Value)→Prop:=Paired fun (p:κ × V) (q:κ × Value)=>p.1=q.1∧RelV p.2 q.2
def kV:Key→V
 | .inl i=>.int i
 | .inr x=>.str x
inductive HO where
 | lst (xs:List V)
 | tup (xs:List V)
 | dK (bU:List (Key × V)) | dT (bU:List (List Key × V))
 | set (S:Int→Bool) (n:Nat)
 | ins (C dx:Addr) (fs:List (Str × V))
 | own (x:Addr)
 | xd (fs:List (Str × V))
 | met (f x:Addr)
 | VR (lo hi:Int)
 | AA (o:Obj) (u:HO)
 | OE (ps:Array Value)
 | ext (φ:Heap→Prop)
abbrev Hp:=Addr→Option HO
def upd (H:Hp) (a:Addr) (o:HO):Hp:=fun b=>if b=a then some o else H b
theorem aD {H:Hp} {a:Addr} {o:HO}:upd H a o a=some o:=by unfold upd;rw [if_pos rfl]
theorem aH {H:Hp} {a b:Addr} {o:HO} (h:b≠a):upd H a o b=H b:=by unfold upd;rw [if_neg h]
theorem ir {H:Hp} {a:Addr} {o u:HO}:upd (upd H a o) a u=upd H a u:=by
 funext b;unfold upd;split <;> rfl
theorem aP {H:Hp} {a b:Addr} {o:HO} (h:H a=some o) (h':H b=none):a≠b:=by
 intro e;subst e;rw [h] at h';cases h'
section
variable (P:Program) (w:World)
def fV (H:Hp) (h:Heap) (a:Addr):HO→Prop
 | .lst xs=>xs.length≤sizeLine∧∃ (au:List Value) (n:Nat),a9 xs au∧h.get? a=some { cls:=.type "list",data:=.seq au.toArray n }
 | .tup xs=>xs.length≤sizeLine∧∃ au:List Value,a9 xs au∧IsTup h a au.toArray
 | .dK bU=>bU.length≤sizeLine∧(a == sysModules)=false∧∃ vs,KV bU vs∧h.DictOf (vZ P w) a vs
 | .dT bU=>bU.length≤sizeLine∧(a == sysModules)=false∧∃ xs:List (List Key × Addr × Value),
   Paired (fun (p:List Key × V) (q:List Key × Addr × Value)=>p.1=q.1∧H q.2.1=some (.tup (p.1.map kV))∧RelV p.2 q.2.2) bU xs ∧
   ∃ o es ep,h.get? a=some o∧o.ExactDict∧o.data=.dict es ep∧es.toList=xs.map (entryOfKey (tupleKind (vZ P w)))∧(xs.map (·.1)).Nodup
 | .set S n=>h.SetOf (intKind P w) a S n
 | .ins C dx fs=>H dx=some (.own a)∧fs.length≤1000∧dx≠a∧h.get? a=some (PySem.W.instObj C dx) ∧
   ∃ mA,h.Ns1 dx mA∧(∀ f,nj (fs.lookup f) (mA f))∧PySem.Within mA (fs.map (·.1))
 | .own _=>∃ o,h.get? a=some o
 | .xd fs=>∃ mA,h.Ns1 a mA∧∀ f,nj (fs.lookup f) (mA f)
 | .VR lo hi=>∃ t u v,h.get? a=some { cls:=.type "range",data:=.fields #[.int lo t,.int hi u,.int 1 v] }
 | .AA o u=>h.get? a=some o∧fV H h a u
 | .OE ps=>h.get? a=some { cls:=.none,data:=.fields ps }
 | .met f x=>h.get? a=some (PySem.W.methodObj (.ref f) (.ref x))
 | .ext φ=>φ h∧(∃ o,h.get? a=some o)∧∀ h1 h2:Heap,φ h1→(∀ o,h1.get? a=some o→h2.get? a=some o)→φ h2
def tF (H:Hp) (h:Heap):Prop:=∀ a o,H a=some o→fV P w H h a o
end
section
variable {P:Program} {w:World} {H H':Hp} {h h':Heap} {a:Addr} {o:HO}
theorem fV.lt (x:fV P w H h a o):a < h.objs.size:=by
 cases o with
 | lst xs=>obtain ⟨_,_,_,_,e⟩:=x;exact Heap.lt_size e
 | tup xs=>obtain ⟨_,_,_,p⟩:=x;exact p.lt
 | dK bU=>obtain ⟨_,_,_,_,o,_,_,e,_⟩:=x;exact Heap.lt_size e
 | dT bU=>obtain ⟨_,_,_,_,o,_,_,e,_⟩:=x;exact Heap.lt_size e
 | set S n=>obtain ⟨o,_,_,_,e,_⟩:=x;exact Heap.lt_size e
 | ins C dx fs=>obtain ⟨_,_,_,e,_⟩:=x;exact Heap.lt_size e
 | own y=>obtain ⟨_,e⟩:=x;exact Heap.lt_size e
 | xd fs=>obtain ⟨_,⟨_,_,_,e,_⟩,_⟩:=x;exact Heap.lt_size e
 | VR lo hi=>obtain ⟨_,_,_,e⟩:=x;exact Heap.lt_size e
 | AA ob u=>obtain ⟨e,_⟩:=x;exact Heap.lt_size e
 | OE ps=>exact Heap.lt_size (show h.get? a=some _ from x)
 | met f y=>exact Heap.lt_size (show h.get? a=some _ from x)
 | ext φ=>obtain ⟨_,⟨_,e⟩,_⟩:=x;exact Heap.lt_size e
theorem Paired.O7 {α β:Type} {F G:α→β→Prop}:∀ {l₁:List α} {l₂:List β},Paired F l₁ l₂→(∀ a b,F a b→G a b)→Paired G l₁ l₂
 | _,_,.nil,_=>.nil
 | _,_,.cons r t,f=>.cons (f _ _ r) (Paired.O7 t f)
theorem fV.BR (x:fV P w H h a o) (k:∀ b u,(b=a∨H b=some (.own a))→h.get? b=some u→h'.get? b=some u)
  (ho:∀ b,H b=some (.own a)→H' b=some (.own a)) (ht:∀ b xs,H b=some (.tup xs)→H' b=some (.tup xs)):fV P w H' h' a o:=by
 induction o with
 | lst xs=>obtain ⟨z,au,n,r,e⟩:=x;exact ⟨z,au,n,r,k _ _ (.inl rfl) e⟩
 | tup xs=>obtain ⟨z,au,r,ob,e,c⟩:=x;exact ⟨z,au,r,ob,k _ _ (.inl rfl) e,c⟩
 | dK bU=>obtain ⟨z,y,vs,r,ob,es,ep,e,c⟩:=x;exact ⟨z,y,vs,r,ob,es,ep,k _ _ (.inl rfl) e,c⟩
 | dT bU =>
  obtain ⟨z,y,xs,r,ob,es,ep,e,c⟩:=x
  exact ⟨z,y,xs,Paired.O7 r fun p q z=>⟨z.1,ht _ _ z.2.1,z.2.2⟩,ob,es,ep,k _ _ (.inl rfl) e,c⟩
 | set S n=>obtain ⟨ob,es,ep,t,e,c⟩:=x;exact ⟨ob,es,ep,t,k _ _ (.inl rfl) e,c⟩
 | ins C dx fs =>
  obtain ⟨d,z,ne,e,mA,⟨od,es,ep,e2,c⟩,r⟩:=x
  exact ⟨ho _ d,z,ne,k _ _ (.inl rfl) e,mA,⟨od,es,ep,k _ _ (.inr d) e2,c⟩,r⟩
 | own y=>obtain ⟨ob,e⟩:=x;exact ⟨ob,k _ _ (.inl rfl) e⟩
 | xd fs=>obtain ⟨mA,⟨od,es,ep,e,c⟩,r⟩:=x;exact ⟨mA,⟨od,es,ep,k _ _ (.inl rfl) e,c⟩,r⟩
 | VR lo hi=>obtain ⟨t,u,v,e⟩:=x;exact ⟨t,u,v,k _ _ (.inl rfl) e⟩
 | AA ob u ih=>obtain ⟨e,q⟩:=x;exact ⟨k _ _ (.inl rfl) e,ih q⟩
 | OE ps =>
  have e:h.get? a=some { cls:=.none,data:=.fields ps }:=x
  show h'.get? a=some { cls:=.none,data:=.fields ps }
  exact k a _ (.inl rfl) e
 | met f y =>
  have e:h.get? a=some (PySem.W.methodObj (.ref f) (.ref y)):=x
  show h'.get? a=some (PySem.W.methodObj (.ref f) (.ref y))
  exact k a _ (.inl rfl) e
 | ext φ=>obtain ⟨p,⟨o,e⟩,st⟩:=x;exact ⟨st _ _ p fun o q=>k _ _ (.inl rfl) q,⟨o,k _ _ (.inl rfl) e⟩,st⟩
theorem tF.lt (x:tF P w H h) (e:H a=some o):a < h.objs.size:=(x a o e).lt
theorem tF.fresh (x:tF P w H h) (e:h.objs.size≤a):H a=none:=by
 cases q:H a with
 | none=>rfl
 | some u=>exact absurd (Nat.lt_of_lt_of_le (x.lt q) e) (Nat.lt_irrefl _)
theorem tF.kept (x:tF P w H h) (k:∀ b u,h.get? b=some u→h'.get? b=some u):tF P w H h':=fun a o e =>
 (x a o e).BR (fun b u _ q=>k b u q) (fun _ q=>q) fun _ _ q=>q
theorem tF.laid (x:tF P w H h) (k:∀ b u,h.get? b=some u→h'.get? b=some u) (hp:h.objs.size≤a) (new:fV P w (upd H a o) h' a o):tF P w (upd H a o) h':=fun b u e=>by
 have hn:=x.fresh hp
 by_cases hb:b=a
 ·subst hb;rw [aD] at e;cases e;exact new
 ·rw [aH hb] at e
  exact (x b u e).BR (fun c v _ q=>k c v q) (fun c q=>by rw [aH (aP q hn)];exact q) fun c xs q=>by rw [aH (aP q hn)];exact q
end
def Rd (H:Hp) (a:Addr) (u:HO):Prop:=H a=some u∨∃ o,H a=some (.AA o u)
theorem Rd.of {H:Hp} {a:Addr} {u:HO} (h:H a=some u):Rd H a u:=.inl h
theorem Rd.ok {P:Program} {w:World} {H:Hp} {h:Heap} {a:Addr} {u:HO} (r:Rd H a u) (x:tF P w H h):fV P w H h a u:=by
 rcases r with r | ⟨o,r⟩
 ·exact x a u r
 ·obtain ⟨_,q⟩:=x a _ r
  exact q
def VS:Option HO→Prop
 | some (.lst _)=>True
 | some (.dK _)=>True
 | some (.dT _)=>True
 | some (.set _ _)=>True
 | some (.ins _ _ _)=>True
 | some (.ext _)=>True
 | _=>False
section
variable {P:Program} {w:World} {H:Hp} {h h':Heap} {x e:Addr} {o':HO}
theorem tF.write (ok:tF P w H h) (mu:VS (H x)) (he:e=x∨H e=some (.own x)) (k:∀ b u,b≠e→h.get? b=some u→h'.get? b=some u) (RK:∃ u,h'.get? e=some u)
  (new:fV P w (upd H x o') h' x o'):tF P w (upd H x o') h':=fun b u q=>by
 have Rz:∀ c y,H c=some (.own y)→c≠x:=fun c y r z=>by subst z;rw [r] at mu;exact mu
 have WJ:∀ c xs,H c=some (.tup xs)→c≠x:=fun c xs r z=>by subst z;rw [r] at mu;exact mu
 by_cases hb:b=x
 ·subst hb;rw [aD] at q;cases q;exact new
 ·rw [aH hb] at q
  by_cases I0:b=e
  ·have q':H b=some (.own x):=by
    rcases he with z | z
    ·exact absurd (I0.trans z) hb
    ·rw [I0];exact z
   rw [q] at q';cases q'
   obtain ⟨v,hv⟩:=RK
   exact ⟨v,by rw [I0];exact hv⟩
  ·refine (ok b u q).BR (fun c v hc r=>k c v ?_ r) (fun c r=>by rw [aH (Rz c b r)];exact r) fun c xs r=>by rw [aH (WJ c xs r)];exact r
   rcases hc with rfl | hc
   ·exact I0
   ·rintro rfl
    rcases he with z | z
    ·exact Rz c b hc z
    ·rw [hc] at z;cases z;exact hb rfl
end
structure Un (fs ex:List Addr) (H H':Hp) (h h':Heap):Prop where
 keep:∀ b o,h.get? b=some o→H b=none→b ∉ fs→b ∉ ex→h'.get? b=some o
 slot:∀ b o,h.get? b=some o→H b=none→b ∈ fs→b ∉ ex→∃ sl,h'.get? b=some { o with slots:=sl }
 free:∀ b o,h.get? b=some o→H b=none→b ∉ ex→H' b=none
 there:∀ b o,h.get? b=some o→b ∉ ex→∃ o',h'.get? b=some o'
 nk:∀ b xs,H b=some (.tup xs)→H' b=some (.tup xs)
 nW:∀ b o u,H b=some (.AA o u)→H' b=some (.AA o u)
 nq:∀ b ps,H b=some (.OE ps)→∃ more,H' b=some (.OE (ps ++ more))
section
variable {fs Lc ex WK:List Addr} {H H1 H2:Hp} {h h1 h2 h':Heap} {a x e:Addr} {o:HO}
theorem Un.any (u:Un fs ex H H1 h h1) {b:Addr} {ob:Obj} (q:h.get? b=some ob) (n:H b=none) (hx:b ∉ ex):∃ sl,h1.get? b=some { ob with slots:=sl }:=by
 by_cases hb:b ∈ fs
 ·exact u.slot b ob q n hb hx
 ·exact ⟨ob.slots,u.keep b ob q n hb hx⟩
theorem Un.trans (a:Un fs ex H H1 h h1) (b:Un fs ex H1 H2 h1 h2):Un fs ex H H2 h h2 where
 keep:=fun c ob q n hc hx=>b.keep c ob (a.keep c ob q n hc hx) (a.free c ob q n hx) hc hx
 slot:=fun c ob q n hc hx=>by
  obtain ⟨sl,e1⟩:=a.slot c ob q n hc hx
  obtain ⟨R0,e2⟩:=b.slot c _ e1 (a.free c ob q n hx) hc hx
  exact ⟨R0,e2⟩
 free:=fun c ob q n hx=>by
  obtain ⟨o',e1⟩:=a.there c ob q hx
  exact b.free c o' e1 (a.free c ob q n hx) hx
 there:=fun c ob q hx=>by
  obtain ⟨o',e1⟩:=a.there c ob q hx
  exact b.there c o' e1 hx
 nk:=fun c xs q=>b.nk c xs (a.nk c xs q)
 nW:=fun c ob xs q=>b.nW c ob xs (a.nW c ob xs q)
 nq:=fun c ps q=>by
  obtain ⟨m1,e1⟩:=a.nq c ps q
  obtain ⟨m2,e2⟩:=b.nq c _ e1
  exact ⟨m1 ++ m2,by rw [e2,Array.append_assoc]⟩
theorem Un.kept (k:∀ b u,h.get? b=some u→h'.get? b=some u):Un fs ex H H h h' :=
 ⟨fun b ob q _ _ _=>k b ob q,fun b ob q _ _ _=>⟨ob.slots,k b ob q⟩,fun _ _ _ n _=>n,fun b ob q _=>⟨ob,k b ob q⟩,fun _ _ q=>q,fun _ _ _ q=>q,fun _ ps q=>⟨#[],by rw [q];simp⟩⟩
theorem Un.refl:Un fs ex H H h h:=Un.kept fun _ _ q=>q
theorem Un.laid (k:∀ b u,h.get? b=some u→h'.get? b=some u) (hp:h.objs.size≤a) (hn:H a=none):Un fs ex H (upd H a o) h h' where
 keep:=fun b u q _ _ _=>k b u q
 slot:=fun b u q _ _ _=>⟨u.slots,k b u q⟩
 free:=fun b u q n _=>by rw [aH (Nat.ne_of_lt (Nat.lt_of_lt_of_le (Heap.lt_size q) hp))];exact n
 there:=fun b u q _=>⟨u,k b u q⟩
 nk:=fun b xs q=>by rw [aH (aP q hn)];exact q
 nW:=fun b u xs q=>by rw [aH (aP q hn)];exact q
 nq:=fun b ps q=>⟨#[],by rw [aH (aP q hn),q];simp⟩
theorem Un.write (mu:VS (H x)) (he:e=x∨H e=some (.own x)) (k:∀ b u,b≠e→h.get? b=some u→h'.get? b=some u) (RK:∃ u,h'.get? e=some u):Un fs ex H (upd H x o) h h':=by
 have hx:∀ b,H b=none→b≠x:=fun b n z=>by subst z;rw [n] at mu;exact mu
 have hb:∀ b,H b=none→b≠e:=fun b n z=>by
  subst z
  rcases he with r | r
  ·exact hx b n r
  ·rw [n] at r;cases r
 have hm:∀ b u,H b=some u→¬ VS (some u)→b≠x:=fun b u q nm z=>by subst z;rw [q] at mu;exact nm mu
 refine ⟨fun b u q n _ _=>k b u (hb b n) q,fun b u q n _ _=>⟨u.slots,k b u (hb b n) q⟩,fun b u q n _=>by rw [aH (hx b n)];exact n,fun b u q _=>?_,
  fun b xs q=>by rw [aH (hm b _ q fun z=>z)];exact q,fun b u xs q=>by rw [aH (hm b _ q fun z=>z)];exact q,fun b ps q=>⟨#[],by rw [aH (hm b _ q fun z=>z),q];simp⟩⟩
 by_cases I0:b=e
 ·subst I0;exact RK
 ·exact ⟨u,k b u I0 q⟩
theorem Un.mono (u:Un fs ex H H1 h h1) (hs:∀ b ∈ fs,b ∈ Lc) (hx:∀ b ∈ ex,b ∈ WK):Un Lc WK H H1 h h1 :=
 ⟨fun b ob q n hb he=>u.keep b ob q n (fun z=>hb (hs b z)) fun z=>he (hx b z),fun _ _ q n _ he=>u.any q n fun z=>he (hx _ z),fun b ob q n he=>u.free b ob q n fun z=>he (hx b z),fun b ob q he=>u.there b ob q fun z=>he (hx b z),u.nk,u.nW,u.nq⟩
end
def G7 (h:Heap) (H:Hp):List Addr:=(List.range h.objs.size).filter fun a=>(H a).isSome
def AB (h:Heap) (H:Hp):Heap:=PySem.W.hideAll h (G7 h H)
theorem G8 (h:Heap) (H:Hp):(AB h H).objs.size=h.objs.size:=PySem.W.hideAll_size _ _
theorem JI {h:Heap} {H:Hp} {b:Addr} {o:Obj} (e:h.get? b=some o) (n:H b=none):(AB h H).get? b=some o :=
 PySem.W.hideAll_get _ e fun hm=>by
  have q:(H b).isSome=true:=(List.mem_filter.mp hm).2
  rw [n] at q;simp at q
theorem Lx {h:Heap} {H:Hp} {b:Addr} {o:Obj} (e:(AB h H).get? b=some o):h.get? b=some o∧H b=none:=by
 have e':h.get? b=some o:=PySem.W.of_hideAll (G7 h H) e
 refine ⟨e',?_⟩
 cases q:H b with
 | none=>rfl
 | some x =>
  have hm:b ∈ G7 h H:=List.mem_filter.mpr ⟨List.mem_range.mpr (Heap.lt_size e'),by simp [q]⟩
  have z:(AB h H).get? b=none:=PySem.W.hideAll_none (G7 h H) hm
  rw [z] at e;cases e
def Ly (g h:Heap) (L:Addr):List (Addr × Obj):=(List.range h.objs.size).filterMap fun a=>if a=L∨(g.get? a).isSome=true then none else (h.get? a).map fun o=>(a,o)
def rest (g h:Heap) (L d:Addr):List (Addr × Obj):=(Ly g h L).filter fun p=>decide (p.1≠d)
end L2
namespace L2
open PySem PySem.Spec PyProof.Rows
structure Mod (K:PySem.W.Frag) (mg:Str→Option Value) (base:Heap):Prop where
 RL:K.In base
 glob:base.Ns mainGlobals mg
 blt:∃ mb,base.Ns builtinsNs mb∧∀ x:Str,x≠"__name__"→mb x=bootBuiltins x
 nolimit:base.NoLimit
structure Cx where
 prog:Program
 w:World
 K:PySem.W.Frag
 mg:Str→Option Value
 base:Heap
 A:Around
 N:List Str
 s₀:Shared
 H₀:Hp
 env:Env
 outer:List Env
 stack:List Env
 ex:List Addr
 fn:Str→Bool
 calm:Bool
 pn:List (Addr × Obj)
 xe:Value→Shared→Prop
def pM (l:List Env):List Addr:=l.filterMap (·.frame)
abbrev Cx.fs (X:Cx):List Addr:=pM X.outer
def VT (sc:Scope) (x:Str):Prop:=sc.names.lookup x=some .local∨sc.names.lookup x=some .cell∨sc.names.lookup x=some .free
def Loc (sc:Scope) (x:Str):Prop:=sc.names.lookup x=some .local∨sc.names.lookup x=some .cell
def Look (env:Env) (h:Heap) (m:Str→Option Value) (x:Str) (u:Value):Prop :=
 (env.kindOf x=some .local∧m x=some u)∨((env.kindOf x=some .cell∨env.kindOf x=some .free)∧∃ c,env.cells.lookup x=some c∧h.IsCell c (some u))
structure Cx.Ok (X:Cx):Prop where
 mod:Mod X.K X.mg X.base
 kind:X.env.scope.kind=.function
 glob:X.env.globals=mainGlobals
 blt:X.env.builtins=builtinsNs
 above:X.s₀.heap.objs.size≤X.env.locals
 inj:∀ x y c,X.env.cells.lookup x=some c→X.env.cells.lookup y=some c→x=y
 has:∀ x,(X.env.kindOf x=some .cell∨X.env.kindOf x=some .free)→∃ c,X.env.cells.lookup x=some c
 O8:∀ x c,X.fn x=true→X.env.cells.lookup x=some c→X.s₀.heap.objs.size≤c
 hd:X.calm=true→X.A.handled=none
 frames:X.A.frames=some X.stack
 Ld:X.stack=X.outer∨(X.stack=X.env :: X.outer∧X.env.frame=some X.env.locals)
 R1:∀ b ∈ X.ex,b≠X.env.locals∧∀ x c,X.env.cells.lookup x=some c→c≠b
 bs:∀ b o,X.base.get? b=some o→X.s₀.heap.get? b=some o∧X.H₀ b=none
 JJ:X.base.objs.size≤X.s₀.heap.objs.size
 DJ:∀ b o,X.base.get? b=some o→b ∉ X.ex
 DK:∀ b ∈ X.ex,b ∉ X.fs
 tG:X.s₀.heap.FunFrames X.base X.outer
 OF:∀ b ∈ X.fs,X.H₀ b=none
structure Inv (X:Cx) (pins:List (Addr × Obj)) (σ:List (Option V)) (H:Hp) (s:Shared):Prop where
 ok:X.Ok
 os:s.os=X.s₀.os
 bare:AllBare s.gens
 base:Un X.fs X.ex X.H₀ H X.s₀.heap s.heap
 loc:∃ m,s.heap.Ns X.env.locals m∧∀ (i:Nat) (x:Str) (v:V),X.N[i]?=some x→σ[i]?=some (some v)→VT X.env.scope x→∃ u,RelV v u∧Look X.env s.heap m x u
 cell:∀ x c,X.env.cells.lookup x=some c→∃ v,s.heap.IsCell c v
 free:H X.env.locals=none
 nN:∀ x c,X.env.cells.lookup x=some c→H c=none
 pin:∀ p ∈ X.pn ++ pins,s.heap.get? p.1=some p.2∧H p.1=none∧p.1≠X.env.locals∧p.1 ∉ X.fs∧∀ v,p.2.data≠.cell v
 dN:tF X.prog X.w H s.heap
 len:σ.length=X.N.length
section
variable {X:Cx} {pins:List (Addr × Obj)} {σ:List (Option V)} {H H':Hp} {s:Shared} {h':Heap}
theorem Cx.Ok.WL (ok:X.Ok) {b:Addr} {o:Obj} (e:X.base.get? b=some o):b ∉ X.fs:=fun hb=>by
 have:=(ok.tG.mem hb).1
 rw [e] at this;cases this
theorem Inv.bs (I:Inv X pins σ H s):∀ b o,X.base.get? b=some o→s.heap.get? b=some o∧H b=none:=fun b o e =>
 ⟨I.base.keep b o (I.ok.bs b o e).1 (I.ok.bs b o e).2 (I.ok.WL e) (I.ok.DJ b o e),I.base.free b o (I.ok.bs b o e).1 (I.ok.bs b o e).2 (I.ok.DJ b o e)⟩
theorem Inv.bk (I:Inv X pins σ H s):∀ b o,X.base.get? b=some o→s.heap.get? b=some o:=fun b o e=>(I.bs b o e).1
theorem Inv.mod (I:Inv X pins σ H s):Mod X.K X.mg X.base:=I.ok.mod
theorem Inv.FZ (I:Inv X pins σ H s):X.K.In s.heap:=I.ok.mod.RL.keeps I.bk
theorem Inv.nolimit (I:Inv X pins σ H s):s.heap.NoLimit:=I.ok.mod.nolimit.keeps I.bk
theorem Inv.fr (I:Inv X pins σ H s):∃ m,Fr X.base X.env.locals s.heap m :=
 let ⟨m,hn,_⟩:=I.loc
 ⟨m,hn,I.bk,Nat.le_trans I.ok.JJ I.ok.above⟩
theorem Inv.lt (I:Inv X pins σ H s):X.env.locals < s.heap.objs.size:=let ⟨_,hn,_⟩:=I.loc;hn.lt
theorem Inv.sz (I:Inv X pins σ H s):X.s₀.heap.objs.size≤s.heap.objs.size:=Nat.le_trans I.ok.above (Nat.le_of_lt I.lt)
theorem Inv.WM (I:Inv X pins σ H s) {a:Addr} (h:s.heap.objs.size≤a):a ∉ X.fs:=fun hb=>by
 obtain ⟨_,o,ho,_⟩:=I.ok.tG.mem hb
 exact absurd (Nat.lt_of_lt_of_le (Heap.lt_size ho) (Nat.le_trans I.sz h)) (Nat.lt_irrefl _)
theorem Inv.O9 (I:Inv X pins σ H s):∀ x c,X.env.cells.lookup x=some c→c≠X.env.locals:=fun x c e z=>by
 obtain ⟨v,o,ho,hd⟩:=I.cell x c e
 obtain ⟨m,⟨o',es,ep,BJ,BK,_⟩,_⟩:=I.loc
 rw [z,BJ] at ho;cases ho;rw [BK] at hd;cases hd
theorem Inv.tG (I:Inv X pins σ H s):s.heap.FunFrames X.base X.outer:=by
 have all:∀ (l:List Env),(∀ b ∈ pM l,b ∈ X.fs)→X.s₀.heap.FunFrames X.base l→s.heap.FunFrames X.base l:=by
  intro l
  induction l with
  | nil=>intro _ _;trivial
  | cons env r ih =>
   intro hs hl
   obtain ⟨hk,⟨L,o,hf,hn,ho,hd⟩,hr⟩:=hl
   have hL:L ∈ X.fs:=hs L (by unfold pM;rw [List.filterMap_cons,hf];exact List.mem_cons_self)
   obtain ⟨sl,e⟩:=I.base.slot L o ho (I.ok.OF L hL) hL fun z=>I.ok.DK L z hL
   exact ⟨hk,⟨L,_,hf,hn,e,hd⟩,ih (fun b hb=>hs b (by unfold pM;rw [List.filterMap_cons,hf];exact List.mem_cons_of_mem _ hb)) hr⟩
 exact all X.outer (fun _ hb=>hb) I.ok.tG
theorem Inv.stack (I:Inv X pins σ H s):s.heap.FunFrames X.base X.stack:=by
 rcases I.ok.Ld with e | ⟨e,hf⟩
 ·rw [e];exact I.tG
 ·rw [e]
  obtain ⟨m,hn,_⟩:=I.loc
  refine .cons (by rw [I.ok.kind];decide) hf hn ?_ I.tG
  exact Heap.get?_none_of_le (Nat.le_trans I.ok.JJ I.ok.above)
theorem Inv.DL (I:Inv X pins σ H s):∀ b ∈ pM X.stack,b ∈ X.env.locals :: X.fs:=fun b hb=>by
 rcases I.ok.Ld with e | ⟨e,hf⟩
 ·rw [e] at hb;exact List.mem_cons_of_mem _ hb
 ·rw [e] at hb
  unfold pM at hb
  rw [List.filterMap_cons,hf] at hb
  exact hb
theorem Inv.AD (I:Inv X pins σ H s):∀ b ∈ pM X.stack,H b=none:=fun b hb=>by
 rcases List.mem_cons.mp (I.DL b hb) with e | hb
 ·rw [e];exact I.free
 ·obtain ⟨_,o,ho,_⟩:=I.ok.tG.mem hb
  exact I.base.free b o ho (I.ok.OF b hb) fun z=>I.ok.DK b z hb
theorem Inv.step {g':Array GenState} {t':Nat} {d':Drawn} {ch:List Addr} (I:Inv X pins σ H s)
  (Le:∀ b ∈ ch,(b ∈ X.ex∨X.s₀.heap.objs.size≤b)∧b≠X.env.locals∧(∀ x c,X.env.cells.lookup x=some c→c≠b)∧∀ p ∈ X.pn ++ pins,p.1≠b)
  (keep:∀ b o,b≠X.env.locals→b ∉ X.fs→b ∉ ch→s.heap.get? b=some o→H b=none→h'.get? b=some o)
  (slot:∀ b o,b≠X.env.locals→b ∈ X.fs→b ∉ ch→s.heap.get? b=some o→H b=none→∃ sl,h'.get? b=some { o with slots:=sl }) (free:∀ b o,b ∉ ch→s.heap.get? b=some o→H b=none→H' b=none)
  (there:∀ b o,b ∉ ch→s.heap.get? b=some o→∃ o',h'.get? b=some o')
  (nk:∀ b xs,H b=some (.tup xs)→H' b=some (.tup xs)) (nW:∀ b o u,H b=some (.AA o u)→H' b=some (.AA o u)) (nq:∀ b ps,H b=some (.OE ps)→∃ more,H' b=some (.OE (ps ++ more)))
  (ns:∀ m,s.heap.Ns X.env.locals m→h'.Ns X.env.locals m) (dN:tF X.prog X.w H' h') (hg:AllBare g') :
  Inv X pins σ H' { s with heap:=h',gens:=g',drawn:=d',toks:=t' }:=by
 have VU:∀ b o,X.s₀.heap.get? b=some o→b≠X.env.locals:=fun b o e=>Nat.ne_of_lt (Nat.lt_of_lt_of_le (Heap.lt_size e) I.ok.above)
 have VV:∀ b o,X.s₀.heap.get? b=some o→b ∉ X.ex→b ∉ ch:=fun b o e hx hb=>by
  rcases (Le b hb).1 with z | z
  ·exact hx z
  ·exact absurd (Nat.lt_of_lt_of_le (Heap.lt_size e) z) (Nat.lt_irrefl _)
 have cellK:∀ x c,X.env.cells.lookup x=some c→∀ v,s.heap.IsCell c v→h'.IsCell c v:=fun x c e v ⟨o,ho,hd⟩=>by
  have R3:c ∉ ch:=fun z=>(Le c z).2.2.1 x c e rfl
  by_cases hc:c ∈ X.fs
  ·obtain ⟨sl,q⟩:=slot c o (I.O9 x c e) hc R3 ho (I.nN x c e)
   exact ⟨_,q,hd⟩
  ·exact ⟨o,keep c o (I.O9 x c e) hc R3 ho (I.nN x c e),hd⟩
 refine ⟨I.ok,I.os,hg,⟨fun b o e n hb hx=>?_,fun b o e n hb hx=>?_,fun b o e n hx=>?_,fun b o e hx=>?_,fun b xs e=>nk b xs (I.base.nk b xs e),fun b o xs e=>nW b o xs (I.base.nW b o xs e),fun b ps e=>?_⟩,?_,fun x c e=>?_,?_,fun x c e=>?_,fun p hp=>?_,dN,I.len⟩
 ·exact keep b o (VU b o e) hb (VV b o e hx) (I.base.keep b o e n hb hx) (I.base.free b o e n hx)
 ·obtain ⟨sl,e1⟩:=I.base.slot b o e n hb hx
  obtain ⟨R0,e2⟩:=slot b _ (VU b o e) hb (VV b o e hx) e1 (I.base.free b o e n hx)
  exact ⟨R0,e2⟩
 ·obtain ⟨o',e1⟩:=I.base.there b o e hx
  exact free b o' (VV b o e hx) e1 (I.base.free b o e n hx)
 ·obtain ⟨o',e1⟩:=I.base.there b o e hx
  exact there b o' (VV b o e hx) e1
 ·obtain ⟨m1,e1⟩:=I.base.nq b ps e
  obtain ⟨m2,e2⟩:=nq b _ e1
  exact ⟨m1 ++ m2,by rw [e2,Array.append_assoc]⟩
 ·obtain ⟨m,hn,hl⟩:=I.loc
  refine ⟨m,ns m hn,fun i x v e1 e2 e3=>?_⟩
  obtain ⟨u,r,l⟩:=hl i x v e1 e2 e3
  refine ⟨u,r,?_⟩
  rcases l with l | ⟨k,c,e,z⟩
  ·exact .inl l
  ·exact .inr ⟨k,c,e,cellK x c e _ z⟩
 ·obtain ⟨v,z⟩:=I.cell x c e
  exact ⟨v,cellK x c e v z⟩
 ·obtain ⟨m,⟨o,_,_,ho,_⟩,_⟩:=I.loc
  exact free _ o (fun z=>(Le _ z).2.1 rfl) ho I.free
 ·obtain ⟨v,o,ho,hd⟩:=I.cell x c e
  exact free c o (fun z=>(Le c z).2.2.1 x c e rfl) ho (I.nN x c e)
 ·obtain ⟨e,n,ne,nf,d⟩:=I.pin p hp
  have R3:p.1 ∉ ch:=fun z=>(Le p.1 z).2.2.2 p hp rfl
  exact ⟨keep p.1 p.2 ne nf R3 e n,free p.1 p.2 R3 e n,ne,nf,d⟩
theorem Inv.un {t':Nat} (I:Inv X pins σ H s) (u:Un X.fs [] H H' s.heap h') (dN:tF X.prog X.w H' h'):Inv X pins σ H' { s with heap:=h',toks:=t' }:=by
 obtain ⟨m,⟨o,es,ep,ho,r⟩,_⟩:=id I.loc
 obtain ⟨sl,hL⟩:=u.any ho I.free (by simp)
 exact I.step (g':=s.gens) (d':=s.drawn) (ch:=[]) (fun _ z=>nomatch z) (fun b o _ hb _ e n=>u.keep b o e n hb (by simp)) (fun b o _ hb _ e n=>u.slot b o e n hb (by simp)) (fun b o _ e n=>u.free b o e n (by simp)) (fun b o _ e=>u.there b o e (by simp)) u.nk u.nW u.nq (fun m' hm=>by
  obtain ⟨o',R4,RM,BJ,r'⟩:=hm
  rw [ho] at BJ;cases BJ
  exact ⟨_,R4,RM,hL,r'⟩) dN I.bare
theorem Inv.call {g':Array GenState} {t':Nat} {d':Drawn} {ch:List Addr} (I:Inv X pins σ H s) (u:Un (pM X.stack) ch H H' s.heap h') (dN:tF X.prog X.w H' h') (hg:AllBare g')
  (Le:∀ b ∈ ch,(b ∈ X.ex∨X.s₀.heap.objs.size≤b)∧b≠X.env.locals∧(∀ x c,X.env.cells.lookup x=some c→c≠b)∧∀ p ∈ X.pn ++ pins,p.1≠b) :
  Inv X pins σ H' { s with heap:=h',gens:=g',drawn:=d',toks:=t' }:=by
 obtain ⟨m,⟨o,es,ep,ho,r⟩,_⟩:=id I.loc
 obtain ⟨sl,hL⟩:=u.any ho I.free fun z=>(Le _ z).2.1 rfl
 exact I.step (ch:=ch) Le (fun b o hL hb hc e n=>u.keep b o e n (fun z=>(List.mem_cons.mp (I.DL b z)).elim hL hb) hc) (fun b o _ _ hc e n=>u.any e n hc) (fun b o hc e n=>u.free b o e n hc) (fun b o hc e=>u.there b o e hc) u.nk u.nW u.nq (fun m' hm=>by
  obtain ⟨o',R4,RM,BJ,r'⟩:=hm
  rw [ho] at BJ;cases BJ
  exact ⟨_,R4,RM,hL,r'⟩) dN hg
theorem Inv.turned {t':Nat} {it:Addr} (I:Inv X pins σ H s) (k:∀ b o,b≠it→s.heap.get? b=some o→h'.get? b=some o) (hn:H it=none) (hL:it≠X.env.locals)
  (h1:it ∈ X.ex∨X.s₀.heap.objs.size≤it) (h2:∀ x c,X.env.cells.lookup x=some c→c≠it) (h3:∀ p ∈ X.pn ++ pins,p.1≠it):Inv X pins σ H { s with heap:=h',toks:=t' }:=by
 have ZI:∀ b u,H b=some u→b≠it:=fun b u e z=>by rw [z,hn] at e;cases e
 refine I.step (g':=s.gens) (d':=s.drawn) (ch:=[it]) (fun b hb=>?_) (fun b o _ _ hc e _=>k b o (fun z=>hc (by simp [z])) e) (fun b o _ _ hc e _=>⟨o.slots,k b o (fun z=>hc (by simp [z])) e⟩) (fun _ _ _ _ n=>n)
  (fun b o hc e=>⟨o,k b o (fun z=>hc (by simp [z])) e⟩) (fun _ _ e=>e) (fun _ _ _ e=>e) (fun b ps e=>⟨#[],by rw [e];simp⟩) (fun m hm=>?_) (fun b u e=>?_) I.bare
 ·have e:b=it:=by simpa using hb
  subst e
  exact ⟨h1,hL,h2,h3⟩
 ·obtain ⟨o,es,ep,ho,r⟩:=hm
  exact ⟨o,es,ep,k _ o (Ne.symm hL) ho,r⟩
 ·refine (I.dN b u e).BR (fun c v hc q=>k c v ?_ q) (fun _ q=>q) fun _ _ q=>q
  rcases hc with z | z
  ·rw [z];exact ZI b u e
  ·exact ZI c _ z
theorem Inv.tok (I:Inv X pins σ H s) (t:Nat):Inv X pins σ H { s with toks:=t }:=I.un (h':=s.heap) (t':=t) Un.refl I.dN
theorem Inv.kept {t':Nat} (I:Inv X pins σ H s) (k:∀ b u,s.heap.get? b=some u→h'.get? b=some u):Inv X pins σ H { s with heap:=h',toks:=t' }:=I.un (Un.kept k) (I.dN.kept k)
theorem Inv.laid {a:Addr} {o:HO} {t':Nat} (I:Inv X pins σ H s) (k:∀ b u,s.heap.get? b=some u→h'.get? b=some u) (hp:s.heap.objs.size≤a) (new:fV X.prog X.w (upd H a o) h' a o) :
  Inv X pins σ (upd H a o) { s with heap:=h',toks:=t' }:=I.un (Un.laid k hp (I.dN.fresh hp)) (I.dN.laid k hp new)
theorem Inv.write {x e:Addr} {o:HO} {t':Nat} (I:Inv X pins σ H s) (mu:VS (H x)) (he:e=x∨H e=some (.own x)) (k:∀ b u,b≠e→s.heap.get? b=some u→h'.get? b=some u) (RK:∃ u,h'.get? e=some u)
  (new:fV X.prog X.w (upd H x o) h' x o):Inv X pins σ (upd H x o) { s with heap:=h',toks:=t' }:=I.un (Un.write mu he k RK) (I.dN.write mu he k RK new)
theorem Inv.Fb {OG:List (Addr × Obj)} (I:Inv X pins σ H s) (h:∀ p ∈ OG,s.heap.get? p.1=some p.2∧H p.1=none∧p.1≠X.env.locals∧p.1 ∉ X.fs∧∀ v,p.2.data≠.cell v):Inv X OG σ H s :=
 ⟨I.ok,I.os,I.bare,I.base,I.loc,I.cell,I.free,I.nN,fun p hp=>(List.mem_append.mp hp).elim (fun z=>I.pin p (List.mem_append_left _ z)) (h p),I.dN,I.len⟩
theorem BS {N:List Str} (hN:N.Nodup) {i j:Nat} {x:Str} (a:N[i]?=some x) (b:N[j]?=some x):i=j:=by
 obtain ⟨h1,e1⟩:=List.getElem?_eq_some_iff.mp a
 obtain ⟨h2,e2⟩:=List.getElem?_eq_some_iff.mp b
 exact (List.getElem_inj hN).mp (e1.trans e2.symm)
theorem zG {M:Model} {A:Around} {E:Value→Shared→Prop} {i:Nat} {x:Str} {v:V} {u:Value} {Q:Unit→Shared→Prop} (I:Inv X pins σ H s) (hN:X.N.Nodup) (hi:X.N[i]?=some x) (hx:Loc X.env.scope x) (r:RelV v u)
  (h:∀ s',Inv X pins (σ.set i (some v)) H s'→(∃ a,Heap.SameBut a s.heap s'.heap∧(a=X.env.locals∨X.env.cells.lookup x=some a))→Q () s') (hf:X.fn x=true∨X.env.scope.names.lookup x=some .local:=by first | exact .inl rfl | exact .inr rfl | assumption):wpAny M A (storeName X.env x u) Q E s:=by
 obtain ⟨m,hn,hl⟩:=id I.loc
 have WN:(X.env.scope.kind == .class || (X.env.scope.kind == .module && X.env.locals != X.env.globals))=false:=by rw [I.ok.kind];rfl
 have hiσ:i < σ.length:=by rw [I.len];exact (List.getElem?_eq_some_iff.mp hi).1
 have O9:=I.O9
 have tracked:∀ {a:Addr} {h':Heap},(∃ o,s.heap.get? a=some o∧H a=none)→Heap.SameBut a s.heap h'→tF X.prog X.w H h':=fun {a h'} ha hs b ob e=>by
  obtain ⟨_,_,OH⟩:=ha
  refine (I.dN b ob e).BR (fun c w' hc q=>(hs.2 c ?_).trans q) (fun _ q=>q) fun _ _ q=>q
  rintro rfl
  rcases hc with rfl | hc
  ·rw [OH] at e;cases e
  ·rw [OH] at hc;cases hc
 rcases hx with hk | hk
 ·refine wpAny_storeName_local hk hn (fun h' RN hs=>?_) WN
  obtain ⟨oL,_,_,hoL,_⟩:=id hn
  refine h _ ⟨I.ok,I.os,I.bare,⟨fun b o e n hb hx=>?_,fun b o e n hb hx=>?_,I.base.free,fun b o e hx=>?_,I.base.nk,I.base.nW,I.base.nq⟩,⟨_,RN,fun j y v' e1 e2 e3=>?_⟩,fun y c e=>?_,I.free,I.nN,fun p hp=>?_,tracked ⟨oL,hoL,I.free⟩ hs,by simpa using I.len⟩ ⟨_,hs,.inl rfl⟩
  ·exact (hs.2 b (Nat.ne_of_lt (Nat.lt_of_lt_of_le (Heap.lt_size e) I.ok.above))).trans (I.base.keep b o e n hb hx)
  ·obtain ⟨sl,e1⟩:=I.base.slot b o e n hb hx
   exact ⟨sl,(hs.2 b (Nat.ne_of_lt (Nat.lt_of_lt_of_le (Heap.lt_size e) I.ok.above))).trans e1⟩
  ·obtain ⟨o',e1⟩:=I.base.there b o e hx
   exact ⟨o',(hs.2 b (Nat.ne_of_lt (Nat.lt_of_lt_of_le (Heap.lt_size e) I.ok.above))).trans e1⟩
  ·by_cases hj:j=i
   ·subst hj
    rw [hi] at e1;cases e1
    rw [List.getElem?_set_self hiσ] at e2
    cases e2
    exact ⟨u,r,.inl ⟨hk,by simp⟩⟩
   ·rw [List.getElem?_set_ne (Ne.symm hj)] at e2
    obtain ⟨u',r',q⟩:=hl j y v' e1 e2 e3
    refine ⟨u',r',?_⟩
    rcases q with ⟨k,e⟩ | ⟨k,c,e,z⟩
    ·refine .inl ⟨k,?_⟩
     have:y≠x:=fun e=>hj (BS hN e1 (e ▸ hi))
     simp [this,e]
    ·exact .inr ⟨k,c,e,z.sameBut hs (O9 y c e)⟩
  ·obtain ⟨w',z⟩:=I.cell y c e
   exact ⟨w',z.sameBut hs (O9 y c e)⟩
  ·obtain ⟨e,n,ne,nf,d⟩:=I.pin p hp
   exact ⟨(hs.2 p.1 ne).trans e,n,ne,nf,d⟩
 ·have WO:X.fn x=true:=by
   rcases hf with z | z
   ·exact z
   ·rw [z] at hk;cases hk
  obtain ⟨c,hc⟩:=I.ok.has x (.inl hk)
  obtain ⟨w',z⟩:=I.cell x c hc
  refine wpAny_storeName_cell I.ok.kind hk hc z (fun h' RO hs=>?_)
  obtain ⟨oc,ZJ,WQ⟩:=id z
  refine h { s with heap:=h' } ⟨I.ok,I.os,I.bare,⟨fun b o e n hb hx=>?_,fun b o e n hb hx=>?_,I.base.free,fun b o e hx=>?_,I.base.nk,I.base.nW,I.base.nq⟩,⟨m,hn.sameBut hs (Ne.symm (O9 x c hc)),fun j y v' e1 e2 e3=>?_⟩,fun y c' e=>?_,I.free,I.nN,fun p hp=>?_,tracked ⟨oc,ZJ,I.nN x c hc⟩ hs,by simpa using I.len⟩ ⟨c,hs,.inr hc⟩
  ·exact (hs.2 b (Nat.ne_of_lt (Nat.lt_of_lt_of_le (Heap.lt_size e) (I.ok.O8 x c WO hc)))).trans (I.base.keep b o e n hb hx)
  ·obtain ⟨sl,e1⟩:=I.base.slot b o e n hb hx
   exact ⟨sl,(hs.2 b (Nat.ne_of_lt (Nat.lt_of_lt_of_le (Heap.lt_size e) (I.ok.O8 x c WO hc)))).trans e1⟩
  ·obtain ⟨o',e1⟩:=I.base.there b o e hx
   exact ⟨o',(hs.2 b (Nat.ne_of_lt (Nat.lt_of_lt_of_le (Heap.lt_size e) (I.ok.O8 x c WO hc)))).trans e1⟩
  ·by_cases hj:j=i
   ·subst hj
    rw [hi] at e1;cases e1
    rw [List.getElem?_set_self hiσ] at e2
    cases e2
    exact ⟨u,r,.inr ⟨.inl hk,c,hc,RO⟩⟩
   ·rw [List.getElem?_set_ne (Ne.symm hj)] at e2
    obtain ⟨u',r',q⟩:=hl j y v' e1 e2 e3
    refine ⟨u',r',?_⟩
    rcases q with q | ⟨k,c',e,z'⟩
    ·exact .inl q
    ·refine .inr ⟨k,c',e,z'.sameBut hs ?_⟩
     rintro rfl
     exact hj (BS hN e1 (I.ok.inj _ _ _ e hc ▸ hi))
  ·by_cases Lf:c'=c
   ·subst Lf;exact ⟨_,RO⟩
   ·obtain ⟨w2,z2⟩:=I.cell y c' e
    exact ⟨w2,z2.sameBut hs Lf⟩
  ·obtain ⟨e,n,ne,nf,d⟩:=I.pin p hp
   refine ⟨(hs.2 p.1 ?_).trans e,n,ne,nf,d⟩
   intro q
   rw [q,ZJ] at e
   have q':oc=p.2:=Option.some.inj e
   exact d w' (by rw [← q'];exact WQ)
theorem BU {M:Model} {A:Around} {E:Value→Shared→Prop} {i:Nat} {x:Str} {v:V} {u:Value} {Q:Unit→Shared→Prop} (I:Inv X pins σ H s) (hN:X.N.Nodup) (hi:X.N[i]?=some x) (hx:Loc X.env.scope x) (r:RelV v u)
  (h:∀ s',Inv X pins (σ.set i (some v)) H s'→Q () s') (hf:X.fn x=true∨X.env.scope.names.lookup x=some .local:=by first | exact .inl rfl | exact .inr rfl | assumption):wpAny M A (storeName X.env x u) Q E s :=
 zG I hN hi hx r (fun s' I' _=>h s' I') hf
theorem Inv.JK {s':Shared} {ch:List Addr} (I:Inv X pins σ H s) (ho:s'.os=s.os) (u:Un (pM X.stack) ch H H' s.heap s'.heap) (dN:tF X.prog X.w H' s'.heap) (hg:AllBare s'.gens)
  (Le:∀ b ∈ ch,(b ∈ X.ex∨X.s₀.heap.objs.size≤b)∧b≠X.env.locals∧(∀ x c,X.env.cells.lookup x=some c→c≠b)∧∀ p ∈ X.pn ++ pins,p.1≠b):Inv X pins σ H' s':=by
 obtain ⟨h',g',d',t',o'⟩:=s'
 have e:o'=s.os:=ho
 subst e
 exact I.call (g':=g') (t':=t') (d':=d') u dN hg Le
end
abbrev XK:=Value→Option Addr→Hp→Prop
abbrev St:=List (Option V)
abbrev VK:=V→Hp→Prop
abbrev TE:=St→Hp→VK→Prop
abbrev TT:=St→Hp→(Bool→Hp→Prop)→Prop
abbrev TA:=St→Hp→(List V→Hp→Prop)→Prop
structure Ends where
 nx:St→Hp→Prop
 rt:VK
 bk:St→Hp→Prop:=fun _ _=>False
 ct:St→Hp→Prop:=fun _ _=>False
abbrev TS:=Ends→St→Hp→Prop
def EP (X:Cx) (pins:List (Addr × Obj)) (σ:St) (Q:VK) (u:Value) (s':Shared):Prop:=∃ v H',Inv X pins σ H' s'∧RelV v u∧Q v H'
def TP (X:Cx) (pins:List (Addr × Obj)) (σ:St) (Q:Bool→Hp→Prop) (b:Bool) (s':Shared):Prop:=∃ H',Inv X pins σ H' s'∧Q b H'
def AP (X:Cx) (pins:List (Addr × Obj)) (σ:St) (Q:List V→Hp→Prop) (us:List Value) (s':Shared):Prop:=∃ vs H',Inv X pins σ H' s'∧a9 vs us∧Q vs H'
def SP (X:Cx) (pins:List (Addr × Obj)) (D:Ends) (f:Flow) (s':Shared):Prop :=
 match f with
 | .next=>∃ σ' H',Inv X pins σ' H' s'∧D.nx σ' H'
 | .brk=>∃ σ' H',Inv X pins σ' H' s'∧D.bk σ' H'
 | .cont=>∃ σ' H',Inv X pins σ' H' s'∧D.ct σ' H'
 | .ret u=>∃ v σ' H',Inv X pins σ' H' s'∧RelV v u∧D.rt v H'
def PE (X:Cx) (e:Expr) (t:TE):Prop :=
 ∀ (pins:List (Addr × Obj)) (s:Shared) (σ:St) (H:Hp) (Q:VK),Inv X pins σ H s→t σ H Q→wpAny (model X.prog X.w) X.A (eval e X.env) (EP X pins σ Q) X.xe s
def PT (X:Cx) (e:Expr) (t:TT):Prop :=
 ∀ (pins:List (Addr × Obj)) (s:Shared) (σ:St) (H:Hp) (Q:Bool→Hp→Prop),Inv X pins σ H s→t σ H Q→wpAny (model X.prog X.w) X.A (isTrue e X.env (eval e X.env)) (TP X pins σ Q) X.xe s
def PW (X:Cx) (e:Expr) (t:TT):Prop :=
 ∀ (whole:Sem Value) (pins:List (Addr × Obj)) (s:Shared) (σ:St) (H:Hp) (Q:Bool→Hp→Prop),Inv X pins σ H s→t σ H Q→wpAny (model X.prog X.w) X.A (isTrue e X.env whole) (TP X pins σ Q) X.xe s
theorem PW.pt {X:Cx} {e:Expr} {t:TT} (h:PW X e t):PT X e t:=h _
def PA (X:Cx) (es:List Expr) (t:TA):Prop :=
 ∀ (pos:Pos) (pins:List (Addr × Obj)) (s:Shared) (σ:St) (H:Hp) (Q:List V→Hp→Prop),Inv X pins σ H s→t σ H Q→wpAny (model X.prog X.w) X.A (spliced (backTo pos (starEach es X.env))) (AP X pins σ Q) X.xe s
def PS (X:Cx) (st:Stmt) (t:TS):Prop :=
 ∀ (pins:List (Addr × Obj)) (s:Shared) (σ:St) (H:Hp) (D:Ends),Inv X pins σ H s→t D σ H→wpAny (model X.prog X.w) X.A (exec st X.env) (SP X pins D) X.xe s
def BV (X:Cx) (st:List Stmt) (t:TS):Prop :=
 ∀ (pins:List (Addr × Obj)) (s:Shared) (σ:St) (H:Hp) (D:Ends),Inv X pins σ H s→t D σ H→wpAny (model X.prog X.w) X.A (execs st X.env) (SP X pins D) X.xe s
theorem cb {α:Type} {t:Sem α} {Q Q':α→Shared→Prop} {M:Model} {A:Around} {E:Value→Shared→Prop} {s:Shared} (h:wpAny M A t Q E s) (hQ:∀ a s,Q a s→Q' a s):wpAny M A t Q' E s:=wpAny_mono h hQ fun _ _ x=>x
end L2
namespace L2
open PySem PySem.Spec PyProof.Rows
section
variable {X:Cx}
def qN (i:Nat):TE:=fun σ H Q=>∃ v,σ[i]?=some (some v)∧Q v H
def tC (v:V):TE:=fun _ H Q=>Q v H
theorem PB {i:Nat} {x:Str} {pos:Pos} (hN:X.N[i]?=some x) (hv:VT X.env.scope x) (hd:(x == ("__debug__":Str))=false:=by decide) (BL:(x == ("__classdict__":Str))=false:=by decide):PE X (.Name x pos) (qN i):=by
 intro pins s σ H Q I h
 obtain ⟨v,e,h⟩:=h
 obtain ⟨m,hn,hl⟩:=I.loc
 obtain ⟨u,r,l⟩:=hl i x v hN e hv
 have fin:EP X pins σ Q u s:=⟨v,H,I,r,h⟩
 rcases l with ⟨hk,hm⟩ | ⟨hk,c,hc,Fc⟩
 ·exact wpAny_Name (wpAny_loadName_local I.ok.kind hk hn hm fin) hd
 ·rcases hk with hk | hk
  ·exact wpAny_Name (wpAny_loadName_cell I.ok.kind hk hc Fc fin) hd
  ·exact wpAny_Name (wpAny_loadName_free I.ok.kind hk hc Fc fin BL) hd
theorem aG {i j pos}:PE X (.Constant (.int i) j pos) (tC (.int i)):=fun _ _ _ H _ I h=>wpAny_Constant_int ⟨.int i,H,I.tok _,⟨_,rfl⟩,h⟩
theorem BW {b j pos}:PE X (.Constant (.bool b) j pos) (tC (.bl b)):=fun _ _ _ H _ I h=>Constant_bool ⟨.bl b,H,I,rfl,h⟩
theorem fW {j pos}:PE X (.Constant .none j pos) (tC .cB):=fun _ _ _ H _ I h=>Constant_none ⟨.cB,H,I,rfl,h⟩
theorem cy {x j pos}:PE X (.Constant (.str x) j pos) (tC (.str x)):=fun _ _ _ H _ I h=>Calls.Constant_str ⟨.str x,H,I.tok _,⟨_,rfl⟩,h⟩
def Gl (X:Cx) (x:Str):Prop:=X.env.kindOf x=some .globalImplicit
theorem vd {E:Value→Shared→Prop} {pins:List (Addr × Obj)} {s:Shared} {σ:St} {H:Hp} {x:Str} {u:Value} {pos:Pos} {Q:Value→Shared→Prop} (I:Inv X pins σ H s) (hg:Gl X x) (hm:X.mg x=some u) (h:Q u s)
  (hd:(x == ("__debug__":Str))=false:=by decide):wpAny (model X.prog X.w) X.A (eval (.Name x pos) X.env) Q E s :=
 Calls.Name_function_global I.ok.kind hg (Calls.loadGlobal_global (by rw [I.ok.glob];exact I.mod.glob.keeps I.bk) hm h) hd
theorem lu {E:Value→Shared→Prop} {pins:List (Addr × Obj)} {s:Shared} {σ:St} {H:Hp} {x:Str} {u:Value} {pos:Pos} {Q:Value→Shared→Prop} (I:Inv X pins σ H s) (hg:Gl X x) (hm:X.mg x=none) (hv:bootBuiltins x=some u) (h:Q u s)
  (hn:x≠"__name__":=by decide) (hd:(x == ("__debug__":Str))=false:=by decide):wpAny (model X.prog X.w) X.A (eval (.Name x pos) X.env) Q E s:=by
 obtain ⟨mb,h1,h2⟩:=I.mod.blt
 exact Calls.Name_function_global I.ok.kind hg (Calls.loadGlobal_builtin (by rw [I.ok.glob];exact I.mod.glob.keeps I.bk) hm (by rw [I.ok.blt];exact h1.keeps I.bk) ((h2 x hn).trans hv) h) hd
theorem Fd {x:Str} {v:V} {u:Value} {pos:Pos} (hg:Gl X x) (hm:X.mg x=some u) (r:RelV v u) (hd:(x == ("__debug__":Str))=false:=by decide):PE X (.Name x pos) (tC v) :=
 fun _ _ _ H _ I h=>vd I hg hm ⟨v,H,I,r,h⟩ hd
variable {a b:Expr} {ta tb:TE} {pos:Pos}
def tB (t:TE):TT:=fun σ H Q=>t σ H fun x H1=>∃ c,x=.bl c∧Q c H1
theorem tH {e:Expr} {t:TE} (h:PE X e t) (he:∀ whole,isTrue e X.env whole=(do let v ← whole;standAt e.pos;holding [v] (truthy v)):=by intro _;rfl):PT X e (tB t):=by
 intro pins s σ H Q I hw
 refine isTrue_plain (cb (h pins s σ H _ I hw) fun v s1 ⟨x,H1,I1,r1,q1⟩=>?_) (he _)
 obtain ⟨d,rfl,q⟩:=q1
 cases r1
 exact wpAny_truthy_bool ⟨H1,I1,q⟩
variable {tA R5:TT} {rest:List Expr}
def R6 (t u:TT):TT:=fun σ H Q=>t σ H fun c H1=>if c=true then u σ H1 Q else Q false H1
def tOr (t u:TT):TT:=fun σ H Q=>t σ H fun c H1=>if c=true then Q true H1 else u σ H1 Q
def WR (t:TT):TT:=fun σ H Q=>t σ H fun c H1=>Q (!c) H1
theorem ve (ha:PT X a tA):PW X (.BoolOp .And [a] pos) tA:=by
 intro wh pins s σ H Q I h
 refine isTrue_and (cb (ha pins s σ H Q I h) fun c s1 e=>?_)
 cases c with
 | true=>exact isTrue_and_nil e
 | false=>exact e
theorem AE (ha:PT X a tA):PW X (.BoolOp .Or [a] pos) tA:=by
 intro wh pins s σ H Q I h
 refine isTrue_or (cb (ha pins s σ H Q I h) fun c s1 e=>?_)
 cases c with
 | false=>exact isTrue_or_nil e
 | true=>exact e
theorem AF (ha:PT X a tA) (hb:PW X (.BoolOp .And (b :: rest) pos) R5):PW X (.BoolOp .And (a :: b :: rest) pos) (R6 tA R5):=by
 intro wh pins s σ H Q I h
 refine isTrue_and (cb (ha pins s σ H _ I h) fun c s1 ⟨H1,I1,q1⟩=>?_)
 cases c with
 | true=>exact hb wh pins s1 σ H1 Q I1 q1
 | false=>exact ⟨H1,I1,q1⟩
theorem Fe (ha:PT X a tA) (hb:PW X (.BoolOp .Or (b :: rest) pos) R5):PW X (.BoolOp .Or (a :: b :: rest) pos) (tOr tA R5):=by
 intro wh pins s σ H Q I h
 refine isTrue_or (cb (ha pins s σ H _ I h) fun c s1 ⟨H1,I1,q1⟩=>?_)
 cases c with
 | true=>exact ⟨H1,I1,q1⟩
 | false=>exact hb wh pins s1 σ H1 Q I1 q1
theorem qO (ha:PT X a tA):PT X (.UnaryOp .Not a pos) (WR tA):=by
 intro pins s σ H Q I h
 exact isTrue_not (ha pins s σ H (fun c H1=>Q (!c) H1) I h)
def WS (ta tb:TE):TE:=fun σ H Q=>ta σ H fun x H1=>∃ c,x=.bl c∧if c=true then Q (.bl true) H1 else tb σ H1 Q
theorem PC {op} {t:TE} (h:PE X a t):PE X (.BoolOp op [a] pos) t:=fun pins s σ H Q I hw=>BoolOp_one (h pins s σ H Q I hw)
theorem R7 (ha:PE X a ta) (hb:PE X (.BoolOp .Or (b :: rest) pos) tb):PE X (.BoolOp .Or (a :: b :: rest) pos) (WS ta tb):=by
 intro pins s σ H Q I h
 refine BoolOp_or (cb (ha pins s σ H _ I h) fun v s1 ⟨x,H1,I1,r1,q1⟩=>?_)
 obtain ⟨c,rfl,q1⟩:=q1
 cases r1
 refine wpAny_truthy_bool ?_
 cases c with
 | false=>exact hb pins s1 σ H1 Q I1 q1
 | true=>exact ⟨.bl true,H1,I1,rfl,q1⟩
def tIf (t:TT) (ta tb:TE):TE:=fun σ H Q=>t σ H fun c H1=>if c=true then ta σ H1 Q else tb σ H1 Q
theorem nu {c:Expr} (hc:PT X c tA) (ha:PE X a ta) (hb:PE X b tb):PE X (.IfExp c a b pos) (tIf tA ta tb):=by
 intro pins s σ H Q I h
 refine wpAny_IfExp (cb (hc pins s σ H _ I h) fun d s1 ⟨H1,I1,q1⟩=>?_)
 cases d with
 | true=>exact ha pins s1 σ H1 Q I1 q1
 | false=>exact hb pins s1 σ H1 Q I1 q1
end
end L2
namespace L2
open PySem PySem.Spec PyProof.Rows
def ae (K:PySem.W.Frag) (H:Hp) (a:Addr) (xs:List V):Prop :=
 Rd H a (.lst xs) ∨
  ∃ (o:Obj) (au:Array Value) (n:Nat),K.lookup a=some o∧o.cls=.type "list"∧o.dict=none∧o.data=.seq au n∧au.size≤sizeLine∧a9 xs au.toList
def cD (K:PySem.W.Frag) (H:Hp) (a:Addr) (xs:List V):Prop :=
 Rd H a (.tup xs) ∨
  ∃ (o:Obj) (au:Array Value) (n:Nat),K.lookup a=some o∧o.cls=.type "tuple"∧o.data=.seq au n∧au.size≤sizeLine∧a9 xs au.toList
def WT:Value→Option V
 | .none=>some .cB
 | .bool b=>some (.bl b)
 | .int i _=>some (.int i)
 | .str x _=>some (.str x)
 | .bytes b _=>some (.FY b)
 | .float b _=>some (.RJ b)
 | .ref a=>some (.ref a)
 | .type n=>some (.ty n)
 | _=>none
theorem RelV.abs {x:V} {u:Value} (r:RelV x u):WT u=some x:=by
 cases x with
 | cB=>cases r;rfl
 | bl _=>cases r;rfl
 | int _=>obtain ⟨t,rfl⟩:=r;rfl
 | str _=>obtain ⟨t,rfl⟩:=r;rfl
 | FY _=>obtain ⟨t,rfl⟩:=r;rfl
 | RJ _=>obtain ⟨t,rfl⟩:=r;rfl
 | ref _=>cases r;rfl
 | ty _=>cases r;rfl
theorem RelV.inj {x y:V} {u:Value} (r:RelV x u) (q:RelV y u):x=y:=Option.some.inj (r.abs.symm.trans q.abs)
theorem a9.inj:∀ {xs ys:List V} {us:List Value},a9 xs us→a9 ys us→xs=ys
 | _,_,_,.nil,.nil=>rfl
 | _,_,_,.cons r t,.cons r' t'=>by rw [r.inj r',a9.inj t t']
section
variable {X:Cx} {pins:List (Addr × Obj)} {σ:St} {H:Hp} {s:Shared} {a:Addr} {xs ys:List V}
theorem ae.of {K:PySem.W.Frag} (h:H a=some (.lst xs)):ae K H a xs:=.inl (.inl h)
theorem cD.of {K:PySem.W.Frag} (h:H a=some (.tup xs)):cD K H a xs:=.inl (.inl h)
theorem Inv.list (I:Inv X pins σ H s) (h:ae X.K H a xs):∃ au:List Value,a9 xs au∧PlainL s.heap a au.toArray∧xs.length≤sizeLine:=by
 rcases h with h | ⟨o,au,n,hk,hc,hd,hs,hz,r⟩
 ·obtain ⟨z,au,n,r,e⟩:=h.ok I.dN
  exact ⟨au,r,⟨_,n,e,rfl,rfl,rfl⟩,z⟩
 ·refine ⟨au.toList,r,⟨o,n,I.FZ a o hk,hc,hd,by simpa using hs⟩,?_⟩
  have e:=r.length
  simp only [Array.length_toList] at e
  omega
theorem Inv.tuple (I:Inv X pins σ H s) (h:cD X.K H a xs):∃ au:List Value,a9 xs au∧IsTup s.heap a au.toArray∧xs.length≤sizeLine:=by
 rcases h with h | ⟨o,au,n,hk,hc,hs,hz,r⟩
 ·obtain ⟨z,au,r,p⟩:=h.ok I.dN
  exact ⟨au,r,p,z⟩
 ·refine ⟨au.toList,r,⟨o,I.FZ a o hk,hc,n,by simpa using hs⟩,?_⟩
  have e:=r.length
  simp only [Array.length_toList] at e
  omega
theorem Inv.rR (I:Inv X pins σ H s) (h:ae X.K H a xs) (h':ae X.K H a ys):xs=ys:=by
 obtain ⟨au,r,⟨o,n,e,_,_,d⟩,_⟩:=I.list h
 obtain ⟨its',r',⟨o',n',e',_,_,d'⟩,_⟩:=I.list h'
 rw [e] at e';cases e'
 rw [d] at d'
 injection d' with d1 _
 have:au=its':=by simpa using congrArg Array.toList d1
 subst this
 exact r.inj r'
theorem Inv.zH (I:Inv X pins σ H s) (h:cD X.K H a xs) (h':cD X.K H a ys):xs=ys:=by
 obtain ⟨au,r,⟨o,e,_,n,d⟩,_⟩:=I.tuple h
 obtain ⟨its',r',⟨o',e',_,n',d'⟩,_⟩:=I.tuple h'
 rw [e] at e';cases e'
 rw [d] at d'
 injection d' with d1 _
 have:au=its':=by simpa using congrArg Array.toList d1
 subst this
 exact r.inj r'
end
abbrev Cx.tI (X:Cx) (E:Value→Shared→Prop):Cx:={ X with xe:=E }
abbrev Cx.rS (X:Cx):Cx:=X.tI fun _ _=>False
theorem Cx.Ok.tI {X:Cx} (ok:X.Ok) (E:Value→Shared→Prop):(X.tI E).Ok :=
 ⟨ok.mod,ok.kind,ok.glob,ok.blt,ok.above,ok.inj,ok.has,ok.O8,ok.hd,ok.frames,ok.Ld,ok.R1,ok.bs,ok.JJ,ok.DJ,ok.DK,ok.tG,ok.OF⟩
theorem Cx.Ok.jI {X:Cx} {E:Value→Shared→Prop} (ok:(X.tI E).Ok):X.Ok :=
 ⟨ok.mod,ok.kind,ok.glob,ok.blt,ok.above,ok.inj,ok.has,ok.O8,ok.hd,ok.frames,ok.Ld,ok.R1,ok.bs,ok.JJ,ok.DJ,ok.DK,ok.tG,ok.OF⟩
section
variable {X:Cx} {pins:List (Addr × Obj)} {σ:St} {H:Hp} {s:Shared} {E:Value→Shared→Prop}
theorem Inv.tI (I:Inv X pins σ H s) (E:Value→Shared→Prop):Inv (X.tI E) pins σ H s:=⟨I.ok.tI E,I.os,I.bare,I.base,I.loc,I.cell,I.free,I.nN,I.pin,I.dN,I.len⟩
theorem Inv.jI (I:Inv (X.tI E) pins σ H s):Inv X pins σ H s:=⟨I.ok.jI,I.os,I.bare,I.base,I.loc,I.cell,I.free,I.nN,I.pin,I.dN,I.len⟩
theorem SP.jI {D:Ends} {f:Flow} {s':Shared} (h:SP (X.tI E) pins D f s'):SP X pins D f s':=by
 cases f with
 | next=>obtain ⟨σ',H',I,q⟩:=h;exact ⟨σ',H',I.jI,q⟩
 | brk=>obtain ⟨σ',H',I,q⟩:=h;exact ⟨σ',H',I.jI,q⟩
 | cont=>obtain ⟨σ',H',I,q⟩:=h;exact ⟨σ',H',I.jI,q⟩
 | ret u=>obtain ⟨v,σ',H',I,r,q⟩:=h;exact ⟨v,σ',H',I.jI,r,q⟩
theorem PE.rS {e:Expr} {t:TE} (h:PE X.rS e t):PE X e t:=fun pins s σ H Q I hw =>
 wpAny_mono (h pins s σ H Q (I.tI _) hw) (fun _ _ ⟨v,H',I',r,q⟩=>⟨v,H',I'.jI,r,q⟩) fun _ _ z=>False.elim z
theorem PT.rS {e:Expr} {t:TT} (h:PT X.rS e t):PT X e t:=fun pins s σ H Q I hw =>
 wpAny_mono (h pins s σ H Q (I.tI _) hw) (fun _ _ ⟨H',I',q⟩=>⟨H',I'.jI,q⟩) fun _ _ z=>False.elim z
theorem BV.rS {st:List Stmt} {t:TS} (h:BV X.rS st t):BV X st t:=fun pins s σ H D I hw =>
 wpAny_mono (h pins s σ H D (I.tI _) hw) (fun _ _ q=>q.jI) fun _ _ z=>False.elim z
end
section
variable {X:Cx} {st:Stmt} {rest:List Stmt} {t u:TS} {e:Expr} {te:TE} {pos:Pos}
def OI:TS:=fun D σ H=>D.nx σ H
def JL (t u:TS):TS:=fun D σ H=>t { D with nx:=u D } σ H
theorem aq:BV X [] OI:=fun _ _ σ H _ I h=>wpAny_execs_nil ⟨σ,H,I,h⟩
theorem aE (h1:PS X st t) (h2:BV X rest u):BV X (st :: rest) (JL t u):=by
 intro pins s σ H D I h
 refine wpAny_execs_cons (cb (h1 pins s σ H { D with nx:=u D } I h) fun f s1 q=>?_)
 cases f with
 | next =>
  obtain ⟨σ',H',I',q⟩:=q
  exact h2 pins s1 σ' H' D I' q
 | ret v=>exact q
 | brk=>exact q
 | cont=>exact q
theorem aJ (h1:PS X st t):BV X [st] t:=by
 intro pins s σ H D I h
 refine wpAny_execs_cons (cb (h1 pins s σ H D I h) fun f s1 q=>?_)
 cases f with
 | next=>exact wpAny_execs_nil q
 | ret v=>exact q
 | brk=>exact q
 | cont=>exact q
theorem Inv.quiet {pins:List (Addr × Obj)} {σ:St} {H:Hp} {s:Shared} (I:Inv X pins σ H s):interactive X.env=false:=by simp [interactive,I.ok.kind]
def JM (te:TE):TS:=fun D σ H=>te σ H fun _ H1=>D.nx σ H1
theorem av (he:PE X e te) (hs:swapsWith e none pos.line X.env=pure false:=by rfl):PS X (.Expr e pos) (JM te):=by
 intro pins s σ H D I h
 exact wpAny_Expr_any (cb (he pins s σ H _ I h) fun v s1 ⟨x,H1,I1,r1,q1⟩=>⟨σ,H1,I1,q1⟩) I.quiet hs
def PD (te:TE):TS:=fun D σ H=>te σ H D.rt
theorem ai (he:PE X e te):PS X (.Return (some e) pos) (PD te):=by
 intro pins s σ H D I h
 exact wpAny_Return_some (cb (he pins s σ H _ I h) fun v s1 ⟨x,H1,I1,r1,q1⟩=>⟨x,σ,H1,I1,r1,q1⟩)
def R8:TS:=fun D _ H=>D.rt .cB H
theorem Lz:PS X (.Return none pos) R8:=fun _ _ σ H _ I h=>wpAny_Return_none ⟨.cB,σ,H,I,rfl,h⟩
def R9 (c:TT) (t u:TS):TS:=fun D σ H=>c σ H fun b H1=>if b=true then t D σ H1 else u D σ H1
theorem bO {c:Expr} {a b:List Stmt} {tc:TT} (hc:PT X c tc) (ha:BV X a t) (hb:BV X b u):PS X (.If c a b pos) (R9 tc t u):=by
 intro pins s σ H D I h
 refine wpAny_If (cb (hc pins s σ H _ I h) fun d s1 ⟨H1,I1,q1⟩=>?_)
 cases d with
 | true=>exact ha pins s1 σ H1 D I1 q1
 | false=>exact hb pins s1 σ H1 D I1 q1
end
abbrev TG:=V→St→Hp→(St→Hp→Prop)→Prop
abbrev PF:=List V→St→Hp→(St→Hp→Prop)→Prop
def PG (X:Cx) (target:Expr) (t:TG):Prop :=
 ∀ (pins:List (Addr × Obj)) (s:Shared) (σ:St) (H:Hp) (v:V) (u:Value) (Q:St→Hp→Prop),Inv X pins σ H s→RelV v u→t v σ H Q →
  wpAny (model X.prog X.w) X.A (assign target X.env u) (fun _ s'=>∃ σ' H',Inv X pins σ' H' s'∧Q σ' H') X.xe s
def VW (X:Cx) (ts:List Expr) (t:PF):Prop :=
 ∀ (pins:List (Addr × Obj)) (s:Shared) (σ:St) (H:Hp) (vs:List V) (us:List Value) (Q:St→Hp→Prop),Inv X pins σ H s→a9 vs us→t vs σ H Q →
  wpAny (model X.prog X.w) X.A (assignInOrder ((assignEach ts X.env).map (·.2)) us) (fun _ s'=>∃ σ' H',Inv X pins σ' H' s'∧Q σ' H') X.xe s
abbrev PH:=V→V→V→Hp→(Hp→Prop)→Prop
def SA (X:Cx) (t:PH):Prop :=
 ∀ (pins:List (Addr × Obj)) (s:Shared) (σ:St) (H:Hp) (o i v:V) (ov iv u:Value) (Q:Hp→Prop),Inv X pins σ H s→RelV o ov→RelV i iv→RelV v u→t o i v H Q →
  wpAny (model X.prog X.w) X.A (setItem ov iv u) (fun _ s'=>∃ H',Inv X pins σ H' s'∧Q H') X.xe s
abbrev ZK:=V→V→Hp→VK→Prop
def PIp (X:Cx) (op:Operator) (t:ZK):Prop :=
 ∀ (pins:List (Addr × Obj)) (s:Shared) (σ:St) (H:Hp) (x y:V) (v u:Value) (Q:VK),Inv X pins σ H s→RelV x v→RelV y u→t x y H Q →
  wpAny (model X.prog X.w) X.A (inplaceOp op v u) (EP X pins σ Q) X.xe s
section
variable {X:Cx} {pos:Pos}
def ik (i:Nat):TG:=fun v σ H Q=>Q (σ.set i (some v)) H
theorem aw {i:Nat} {x:Str} (hN:X.N.Nodup) (hi:X.N[i]?=some x) (hx:Loc X.env.scope x) (hf:X.fn x=true∨X.env.scope.names.lookup x=some .local:=by first | exact .inl rfl | exact .inr rfl | assumption):PG X (.Name x pos) (ik i):=by
 intro pins s σ H v u Q I r h
 exact wpAny_assign_Name (BU I hN hi hx r (fun s' I'=>⟨_,H,I',h⟩) hf)
def JN:PF:=fun vs σ H Q=>vs=[]∧Q σ H
def rT (t:TG) (u:PF):PF:=fun vs σ H Q=>∃ v r,vs=v :: r∧t v σ H fun σ' H'=>u r σ' H' Q
theorem L0:VW X [] JN:=by
 intro pins s σ H vs us Q I r h
 obtain ⟨e,h⟩:=h
 subst e
 cases r
 exact assignInOrder_nil ⟨σ,H,I,h⟩
theorem BX {e:Expr} {es:List Expr} {t:TG} {u:PF} (h1:PG X e t) (h2:VW X es u)
  (hs:(assignEach (e :: es) X.env).map (·.2)=assign e X.env :: (assignEach es X.env).map (·.2):=by rfl):VW X (e :: es) (rT t u):=by
 intro pins s σ H vs us Q I r h
 obtain ⟨v,vr,e1,h⟩:=h
 subst e1
 cases r with
 | cons r rr =>
  rw [hs]
  refine assignInOrder_cons (cb (h1 pins s σ H _ _ _ I r h) fun _ s1 ⟨σ1,H1,I1,q1⟩=>?_)
  exact h2 pins s1 σ1 H1 _ _ Q I1 rr q1
def JO (K:PySem.W.Frag) (n:Nat) (t:PF):TG:=fun v σ H Q=>∃ a xs,v=.ref a∧cD K H a xs∧xs.length=n∧t xs σ H Q
theorem PK {es:List Expr} {k:Nat} {t:PF} {n:Nat} (hc:X.calm=true) (h:VW X es t)
  (hn:(assignEach es X.env).length=n:=by rfl) (DM:(assignEach es X.env).findIdx? (·.1)=none:=by rfl):PG X (.Tuple es k pos) (JO X.K n t):=by
 intro pins s σ H v u Q I r hw
 obtain ⟨a,xs,e1,hq,hl,hw⟩:=hw
 subst e1
 cases r
 obtain ⟨au,rv,ht,hz⟩:=I.tuple hq
 refine assign_Tuple_tuple (I.ok.hd hc) ht (by simp [hn,← hl,rv.length]) DM fun h' hx=>?_
 have I1:Inv X pins σ H { s with heap:=h' }:=I.kept (t':=s.toks) fun b o e=>hx b o (Nat.ne_of_lt (Heap.lt_size e)) e
 exact h pins _ σ H xs _ Q I1 (by simpa using rv) hw
def WU (to ti:TE) (t:PH):TG:=fun v σ H Q=>to σ H fun o H1=>ti σ H1 fun i H2=>t o i v H2 fun H3=>Q σ H3
theorem vw {o i:Expr} {to ti:TE} {t:PH} (ho:PE X o to) (hi:PE X i ti) (hs:SA X t)
  (ha:∀ v,assign (.Subscript o i pos) X.env v=(do
   let ov ← holding [v] (eval o X.env)
   let iv ← holding [v,ov] (eval i X.env)
   standAt pos
   holding [v,ov,iv] (setItem ov iv v)
   release [v,ov,iv] []):=by intro _;rfl):PG X (.Subscript o i pos) (WU to ti t):=by
 intro pins s σ H v u Q I r h
 rw [ha]
 refine wpAny_bind (wpAny_holding (cb (ho pins s σ H _ I h) fun ov s1 ⟨x,H1,I1,r1,q1⟩=>?_))
 refine wpAny_bind (wpAny_holding (cb (hi pins s1 σ H1 _ I1 q1) fun iv s2 ⟨y,H2,I2,r2,q2⟩=>?_))
 refine wpAny_bind (wpAny_standAt (wpAny_bind (wpAny_holding (cb (hs pins s2 σ H2 x y v ov iv u _ I2 r1 r2 r q2) fun _ s3 ⟨H3,I3,q3⟩=>?_))))
 exact wpAny_release ⟨σ,H3,I3,q3⟩
def L3 (te:TE) (g:TG):TS:=fun D σ H=>te σ H fun x H1=>g x σ H1 D.nx
theorem qP {tg e:Expr} {te:TE} {g:TG} (he:PE X e te) (hg:PG X tg g) (hs:swapsWithSole [tg] e pos.line X.env=pure false:=by rfl) (hw:swappedStores [tg] e X.env=pure none:=by rfl)
  (h1:(assignEach [tg] X.env).map (·.2)=[assign tg X.env]:=by rfl):PS X (.Assign [tg] e pos) (L3 te g):=by
 intro pins s σ H D I h
 refine wpAny_Assign_stores (cb (he pins s σ H _ I h) fun v s1 ⟨x,H1,I1,r1,q1⟩=>?_) hs hw
 rw [h1]
 exact cb (hg pins s1 σ H1 x v _ I1 r1 q1) fun _ s2 q=>q
theorem aX {i:Nat} {x:Str} {e:Expr} {te:TE} {pos':Pos} (hN:X.N.Nodup) (hi:X.N[i]?=some x) (hx:Loc X.env.scope x) (he:PE X e te) (hs:swapsWith e (some (.Name x pos')) pos.line X.env=pure false:=by rfl) (hf:X.fn x=true∨X.env.scope.names.lookup x=some .local:=by first | exact .inl rfl | exact .inr rfl | assumption) :
  PS X (.Assign [.Name x pos'] e pos) (L3 te (ik i)):=by
 intro pins s σ H D I h
 refine wpAny_Assign_Name (cb (he pins s σ H _ I h) fun v s1 ⟨y,H1,I1,r1,q1⟩=>?_) hs
 exact BU I1 hN hi hx r1 (fun s2 I2=>⟨_,H1,I2,q1⟩) hf
def ZL (f:Int→Int→Int):ZK:=fun x y H Q=>∃ i j,x=.int i∧y=.int j∧Q (.int (f i j)) H
theorem JP:PIp X .Add (ZL fun i j=>i+j):=by
 intro pins s σ H x y v u Q I r1 r2 h
 obtain ⟨i,j,e1,e2,q⟩:=h
 subst e1;subst e2
 obtain ⟨t,rfl⟩:=r1
 obtain ⟨t',rfl⟩:=r2
 exact iadd_int ⟨.int _,H,I.tok _,⟨_,rfl⟩,q⟩
end
section
variable {X:Cx} {pos:Pos}
def JQ (c:TT) (tb:TS):TS:=fun D σ H=>∃ W:Nat→St→Hp→Prop,(∃ m,W m σ H)∧∀ m σ H,W m σ H →
 c σ H fun b H1=>if b=true then ∃ N:St→Hp→Prop,(∀ σ' H',N σ' H'→∃ m',m' < m∧W m' σ' H')∧tb { D with nx:=N,ct:=N,bk:=D.nx } σ H1 else D.nx σ H1
theorem BY {c:Expr} {body:List Stmt} {tc:TT} {tb:TS} (hp:PassesOwn (model X.prog X.w) X.A X.env X.xe) (hc:PT X c tc) (hb:BV X body tb):PS X (.While c body [] pos) (JQ tc tb):=by
 intro pins s σ H D I h
 obtain ⟨W,⟨m0,w0⟩,turn⟩:=h
 refine wpAny_While (codeAny_whileLoop (fun n s'=>∃ σ' H',Inv X pins σ' H' s'∧W n σ' H') ?_ m0 ⟨σ,H,I,w0⟩)
 rintro n s1 ⟨σ1,H1,I1,w1⟩
 refine wpAny_passesOwn hp (cb (hc pins s1 σ1 H1 _ I1 (turn n σ1 H1 w1)) fun b s2 ⟨H2,I2,q2⟩=>?_)
 cases b with
 | true =>
  obtain ⟨N,hN,q2⟩:=q2
  rw [if_pos rfl]
  refine wpAny_passesOwn hp (cb (hb pins s2 σ1 H2 _ I2 q2) fun f s3 q3=>?_)
  cases f with
  | next =>
   obtain ⟨σ3,H3,I3,n3⟩:=q3
   obtain ⟨m',hm,w3⟩:=hN σ3 H3 n3
   exact ⟨m',hm,σ3,H3,I3,w3⟩
  | cont =>
   obtain ⟨σ3,H3,I3,n3⟩:=q3
   obtain ⟨m',hm,w3⟩:=hN σ3 H3 n3
   exact ⟨m',hm,σ3,H3,I3,w3⟩
  | brk=>exact q3
  | ret v=>exact q3
 | false =>
  rw [if_neg Bool.false_ne_true]
  exact wpAny_execs_nil ⟨σ1,H2,I2,q2⟩
end
structure It where
 go:Nat→Hp→Prop
 L7:Nat→Hp→V→Hp→Prop
 stop:Nat→Hp→Prop
def tJ (X:Cx) (pins:List (Addr × Obj)) (H:Hp) (b:Addr):Prop :=
 H b=none∧b≠X.env.locals∧b ∉ X.fs∧(b ∈ X.ex∨X.s₀.heap.objs.size≤b)∧(∀ x c,X.env.cells.lookup x=some c→c≠b)∧∀ p ∈ X.pn ++ pins,p.1≠b
theorem Inv.BZ {X:Cx} {pins:List (Addr × Obj)} {σ:St} {H H':Hp} {s:Shared} {b:Addr} (I:Inv X pins σ H s) (hb:s.heap.objs.size≤b) (hn:H' b=none):tJ X pins H' b:=by
 refine ⟨hn,Nat.ne_of_gt (Nat.lt_of_lt_of_le I.lt hb),I.WM hb,.inr (Nat.le_trans I.sz hb),fun x c e z=>?_,fun p hp z=>?_⟩
 ·obtain ⟨v,q⟩:=I.cell x c e
  exact absurd (Nat.lt_of_lt_of_le q.lt (by rw [z];exact hb)) (Nat.lt_irrefl _)
 ·exact absurd (Nat.lt_of_lt_of_le (Heap.lt_size (I.pin p hp).1) (by rw [z];exact hb)) (Nat.lt_irrefl _)
structure Turn (P:Program) (w:World) (K:PySem.W.Frag) (tg:Expr) (J:It) (fp:List Addr) (it:Addr) (tn:Nat→Heap→Prop):Prop where
 mem:it ∈ fp
 obj:∀ i h,tn i h→∀ b ∈ fp,∃ o,h.get? b=some o∧∀ v,o.data≠.cell v
 keep:∀ i h h',tn i h→(∀ b ∈ fp,∀ o,h.get? b=some o→h'.get? b=some o)→tn i h'
 item:∀ (X:Cx),X.prog=P→X.w=w→X.K=K→X.calm=true→∀ (i:Nat) (pins:List (Addr × Obj)) (s:Shared) (σ:St) (H:Hp) (E:Value→Shared→Prop),Inv X pins σ H s→(∀ b ∈ fp,tJ X pins H b)→tn i s.heap→J.go i H →
  wpAny (model P w) X.A (pyNext (.ref it)) (fun r s1=>∃ u,r=some u ∧
   wpAny (model P w) X.A (letOwnedTupleGo tg (.ref it) u) (fun _ s2=>∃ x H',Inv X pins σ H' s2∧RelV x u∧J.L7 i H x H'∧tn (i+1) s2.heap∧∀ b ∈ fp,H' b=none) E s1) E s
 done:∀ (X:Cx),X.prog=P→X.w=w→X.K=K→X.calm=true→∀ (i:Nat) (pins:List (Addr × Obj)) (s:Shared) (σ:St) (H:Hp) (E:Value→Shared→Prop),Inv X pins σ H s→(∀ b ∈ fp,tJ X pins H b)→tn i s.heap→J.stop i H →
  wpAny (model P w) X.A (pyNext (.ref it)) (fun r s1=>r=none∧Inv X pins σ H s1) E s
 self:∀ (A:Around) (i:Nat) (s:Shared) (Q:Value→Shared→Prop) (E:Value→Shared→Prop),tn i s.heap→Q (.ref it) s→wpAny (model P w) A (pyIter (.ref it)) Q E s
abbrev TI:=St→Hp→(It→Hp→Prop)→Prop
def ZM (X:Cx) (pins:List (Addr × Obj)) (σ:St) (tg:Expr) (R:It→Hp→Prop) (VX:Value) (s2:Shared):Prop :=
 ∃ (it:Addr) (fp:List Addr) (tn:Nat→Heap→Prop) (J:It) (H':Hp),VX=.ref it∧Inv X pins σ H' s2∧Turn X.prog X.w X.K tg J fp it tn∧tn 0 s2.heap∧(∀ b ∈ fp,tJ X pins H' b)∧R J H'
def PI (X:Cx) (tg iter:Expr) (wi:TI):Prop :=
 ∀ (pins:List (Addr × Obj)) (s:Shared) (σ:St) (H:Hp) (R:It→Hp→Prop),Inv X pins σ H s→wi σ H R →
  wpAny (model X.prog X.w) X.A (eval iter X.env) (fun v s1=>wpAny (model X.prog X.w) X.A (pyIter v) (ZM X pins σ tg R) X.xe s1) X.xe s
theorem Ff {M:Model} {A:Around} {E:Value→Shared→Prop} {s:Shared} {tg:Expr} {it:Addr} {u:Value} {o:Obj} {n:String} {vs:Array Value} {Q:Unit→Shared→Prop} (ho:s.heap.get? it=some o) (hc:o.cls=.type n) (hd:o.data=.fields vs)
  (hn:["enumerate","zip","dict_itemiterator","dict_reverseitemiterator","odict_iterator","itertools.zip_longest","itertools.pairwise"].contains n=false) (hQ:Q () s):wpAny M A (letOwnedTupleGo tg (.ref it) u) Q E s:=by
 unfold letOwnedTupleGo
 cases tg <;> first
  | exact wpAny_pure hQ
  | (cases u <;> first
    | exact wpAny_pure hQ
    | (refine wpAny_bind (wpAny_load ho ?_)
       rw [hc,hd]
       show wpAny M A (if (["enumerate","zip","dict_itemiterator","dict_reverseitemiterator","odict_iterator","itertools.zip_longest","itertools.pairwise"].contains n && vs[0]? == some (rawInt _))=true then _ else _) Q E s
       rw [if_neg (by intro h;rw [hn,Bool.false_and] at h;cases h)]
       exact wpAny_pure hQ))
def PL (K:PySem.W.Frag) (a:Addr):It :=
 ⟨fun i H=>∃ xs x,ae K H a xs∧xs[i]?=some x,fun i H x H'=>H'=H∧∀ xs,ae K H a xs→xs[i]?=some x,fun i H=>∃ xs,ae K H a xs∧xs.length≤i⟩
def RP (K:PySem.W.Frag) (a:Addr):It :=
 ⟨fun i H=>∃ xs x,cD K H a xs∧xs[i]?=some x,fun i H x H'=>H'=H∧∀ xs,cD K H a xs→xs[i]?=some x,fun i H=>∃ xs,cD K H a xs∧xs.length≤i⟩
def L8 (lo:Int) (n:Nat):It:=⟨fun i _=>i < n,fun i H x H'=>H'=H∧x=.int (lo+i),fun i _=>n≤i⟩
theorem G9 {P:Program} {w:World} {K:PySem.W.Frag} {tg:Expr} (a it:Addr):Turn P w K tg (PL K a) [it] it (fun i h=>h.IsListIter it a i) where
 mem:=by simp
 obj:=fun i h st b hb=>by
  have e:b=it:=by simpa using hb
  subst e
  obtain ⟨o,e,c,d⟩:=st
  exact ⟨o,e,fun v z=>by rw [d] at z;cases z⟩
 keep:=fun i h h' st k=>st.at fun o e=>k it (by simp) o e
 item:=by
  intro X hP hw hK hc i pins s σ H E I hf st hg
  subst hP hw hK
  obtain ⟨xs,x,hq,hx⟩:=hg
  obtain ⟨au,rv,p,hz⟩:=I.list hq
  obtain ⟨u,hu,ru⟩:=rv.get hx
  obtain ⟨f0,f1,f2,f3,f4,f5⟩:=hf it (by simp)
  refine wpAny_pyNext_list_item st p.isList (x:=u) (by simpa using hu) fun h' kS sb=>?_
  have I1:Inv X pins σ H { s with heap:=h' }:=I.turned (t':=s.toks) (fun b o hb e=>(sb.2 b hb).trans e) f0 f1 f3 f4 f5
  obtain ⟨o,e,c,d⟩:=id kS
  exact ⟨u,rfl,Ff (s:={ s with heap:=h' }) e c d (by decide) ⟨x,H,I1,ru,⟨rfl,fun ys hy=>by rw [I.rR hy hq];exact hx⟩,kS,fun b hb=>(hf b hb).1⟩⟩
 done:=by
  intro X hP hw hK hc i pins s σ H E I hf st hg
  subst hP hw hK
  obtain ⟨xs,hq,hx⟩:=hg
  obtain ⟨au,rv,p,hz⟩:=I.list hq
  obtain ⟨f0,f1,f2,f3,f4,f5⟩:=hf it (by simp)
  have hl:=rv.length
  exact wpAny_pyNext_list_end (I.ok.hd hc) st p.isList (by simp;omega) fun h' eb=>⟨rfl,I.turned (t':=s.toks) (fun b o hb e=>eb b o hb e) f0 f1 f3 f4 f5⟩
 self:=fun _ _ _ _ _ st h=>wpAny_pyIter_listiter st h
theorem DN {P:Program} {w:World} {K:PySem.W.Frag} {tg:Expr} (a it:Addr):Turn P w K tg (RP K a) [it] it (fun i h=>h.IsTupleIter it a i) where
 mem:=by simp
 obj:=fun i h st b hb=>by
  have e:b=it:=by simpa using hb
  subst e
  obtain ⟨o,e,c,d⟩:=st
  exact ⟨o,e,fun v z=>by rw [d] at z;cases z⟩
 keep:=fun i h h' st k=>st.at fun o e=>k it (by simp) o e
 item:=by
  intro X hP hw hK hc i pins s σ H E I hf st hg
  subst hP hw hK
  obtain ⟨xs,x,hq,hx⟩:=hg
  obtain ⟨au,rv,p,hz⟩:=I.tuple hq
  obtain ⟨u,hu,ru⟩:=rv.get hx
  obtain ⟨f0,f1,f2,f3,f4,f5⟩:=hf it (by simp)
  refine wpAny_pyNext_tuple_item st (show s.heap.IsTuple a au.toArray from p) (x:=u) (by simpa using hu) fun h' kS sb=>?_
  have I1:Inv X pins σ H { s with heap:=h' }:=I.turned (t':=s.toks) (fun b o hb e=>(sb.2 b hb).trans e) f0 f1 f3 f4 f5
  obtain ⟨o,e,c,d⟩:=id kS
  exact ⟨u,rfl,Ff (s:={ s with heap:=h' }) e c d (by decide) ⟨x,H,I1,ru,⟨rfl,fun ys hy=>by rw [I.zH hy hq];exact hx⟩,kS,fun b hb=>(hf b hb).1⟩⟩
 done:=by
  intro X hP hw hK hc i pins s σ H E I hf st hg
  subst hP hw hK
  obtain ⟨xs,hq,hx⟩:=hg
  obtain ⟨au,rv,p,hz⟩:=I.tuple hq
  obtain ⟨f0,f1,f2,f3,f4,f5⟩:=hf it (by simp)
  have hl:=rv.length
  exact wpAny_pyNext_tuple_end (I.ok.hd hc) st (show s.heap.IsTuple a au.toArray from p) (by simp;omega) fun h' eb=>⟨rfl,I.turned (t':=s.toks) (fun b o hb e=>eb b o hb e) f0 f1 f3 f4 f5⟩
 self:=fun _ _ _ _ _ st h=>wpAny_pyIter_tupleiter st h
theorem DO {P:Program} {w:World} {K:PySem.W.Frag} {tg:Expr} (it:Addr) (lo:Int) (n:Nat):Turn P w K tg (L8 lo n) [it] it (fun i h=>IsRangeIter h it (lo+(i:Nat) * 1) ((n:Int) - (i:Nat)) 1) where
 mem:=by simp
 obj:=fun i h st b hb=>by
  have e:b=it:=by simpa using hb
  subst e
  exact ⟨_,st,fun v z=>by
   have z':Data.fields _=Data.cell v:=z
   cases z'⟩
 keep:=fun i h h' st k=>k it (by simp) _ st
 item:=by
  intro X hP hw hK hc i pins s σ H E I hf st hg
  subst hP hw hK
  obtain ⟨f0,f1,f2,f3,f4,f5⟩:=hf it (by simp)
  have W:=Walks.range (prog:=X.prog) (w:=X.w) (I.ok.hd hc) it lo 1 n
  refine W.item i s _ _ hg st fun v h' tk hv kS kk=>?_
  obtain ⟨t,rfl⟩:=hv
  have I1:Inv X pins σ H { s with heap:=h',toks:=tk }:=I.turned (fun b o hb e=>kk b o (by simpa using hb) e) f0 f1 f3 f4 f5
  refine ⟨_,rfl,Ff (s:={ s with heap:=h',toks:=tk }) (n:="range_iterator") kS rfl rfl (by decide) ⟨.int (lo+i),H,I1,⟨t,?_⟩,⟨rfl,rfl⟩,kS,fun b hb=>(hf b hb).1⟩⟩
  rw [Int.mul_one]
 done:=by
  intro X hP hw hK hc i pins s σ H E I hf st hg
  subst hP hw hK
  obtain ⟨f0,f1,f2,f3,f4,f5⟩:=hf it (by simp)
  exact wpAny_pyNext_range_end (I.ok.hd hc) st (by have:n≤i:=hg;omega) fun h' eb=>⟨rfl,I.turned (t':=s.toks) (fun b o hb e=>eb b o hb e) f0 f1 f3 f4 f5⟩
 self:=fun _ _ _ _ _ st h=>wpAny_pyIter_rangeiter st h
end L2
namespace L2
open PySem PySem.Spec PyProof.Rows
section
variable {X:Cx} {tg:Expr}
def OJ (K:PySem.W.Frag) (tl:TE):TI:=fun σ H R=>tl σ H fun x H1=>∃ a,x=.ref a∧(∃ xs,ae K H1 a xs)∧R (PL K a) H1
def SE (K:PySem.W.Frag) (tl:TE):TI:=fun σ H R=>tl σ H fun x H1=>∃ a,x=.ref a∧(∃ xs,cD K H1 a xs)∧R (RP K a) H1
theorem Fg {l:Expr} {tl:TE} (hl:PE X l tl):PI X tg l (OJ X.K tl):=by
 intro pins s σ H R I h
 refine cb (hl pins s σ H _ I h) fun v s1 ⟨x,H1,I1,r1,q1⟩=>?_
 obtain ⟨a,e,⟨xs,hq⟩,q⟩:=q1
 subst e
 cases r1
 obtain ⟨au,rv,p,hz⟩:=I1.list hq
 refine wpAny_pyIter_list p.isList ?_
 refine ⟨s1.heap.objs.size,[s1.heap.objs.size],_,_,H1,rfl,I1.kept (t':=s1.toks) fun b o e=>Heap.get?_push_of_some _ e,G9 a _,⟨_,Heap.get?_push_size _ rfl,rfl,rfl⟩,fun b hb=>?_,q⟩
 have e:b=s1.heap.objs.size:=by simpa using hb
 subst e
 exact I1.BZ (Nat.le_refl _) (I1.dN.fresh (Nat.le_refl _))
theorem PM {l:Expr} {tl:TE} (hl:PE X l tl):PI X tg l (SE X.K tl):=by
 intro pins s σ H R I h
 refine cb (hl pins s σ H _ I h) fun v s1 ⟨x,H1,I1,r1,q1⟩=>?_
 obtain ⟨a,e,⟨xs,hq⟩,q⟩:=q1
 subst e
 cases r1
 obtain ⟨au,rv,p,hz⟩:=I1.tuple hq
 refine wpAny_pyIter_tuple (show s1.heap.IsTuple a au.toArray from p) ?_
 refine ⟨s1.heap.objs.size,[s1.heap.objs.size],_,_,H1,rfl,I1.kept (t':=s1.toks) fun b o e=>Heap.get?_push_of_some _ e,DN a _,⟨_,Heap.get?_push_size _ rfl,rfl,rfl⟩,fun b hb=>?_,q⟩
 have e:b=s1.heap.objs.size:=by simpa using hb
 subst e
 exact I1.BZ (Nat.le_refl _) (I1.dN.fresh (Nat.le_refl _))
theorem Ba {pins:List (Addr × Obj)} {σ:St} {H:Hp} {s:Shared} {R:It→Hp→Prop} {E:Value→Shared→Prop} {lo hi:Int} {t u v:Tok} {tk:Nat} (I:Inv X pins σ H s) (h1:-(2 ^ 62)≤lo) (h2:lo < 2 ^ 62) (h3:-(2 ^ 62)≤hi) (h4:hi < 2 ^ 62)
  (q:R (L8 lo (hi - lo).toNat) H):wpAny (model X.prog X.w) X.A (pyIter (.ref s.heap.objs.size)) (ZM X pins σ tg R) E { s with heap:=s.heap.push { cls:=.type "range",data:=.fields #[.int lo t,.int hi u,.int 1 v] },toks:=tk }:=by
 refine wpAny_pyIter_range (IsRange.new ..) (small_one h1 h2 h3 h4) ?_
 have I1:Inv X pins σ H { s with heap:=s.heap.push { cls:=.type "range",data:=.fields #[.int lo t,.int hi u,.int 1 v] },toks:=tk }:=I.kept fun b o e=>Heap.get?_push_of_some _ e
 refine ⟨(s.heap.push { cls:=.type "range",data:=.fields #[.int lo t,.int hi u,.int 1 v] }).objs.size,[(s.heap.push { cls:=.type "range",data:=.fields #[.int lo t,.int hi u,.int 1 v] }).objs.size],_,_,H,rfl,
  I1.kept (t':=tk) fun b o e=>Heap.get?_push_of_some _ e,DO _ lo (hi - lo).toNat,?_,fun b hb=>?_,q⟩
 ·have e1:lo+((0:Nat):Int) * 1=lo:=by simp
  have e2:(((hi - lo).toNat:Nat):Int) - ((0:Nat):Int)=Builtin.Range.rangeSize lo hi 1:=by rw [rangeSize_one];split <;> omega
  show IsRangeIter _ _ (lo+((0:Nat):Int) * 1) ((((hi - lo).toNat:Nat):Int) - ((0:Nat):Int)) 1
  rw [e1,e2]
  exact Heap.get?_push_size _ rfl
 ·have e:b=(s.heap.push { cls:=.type "range",data:=.fields #[.int lo t,.int hi u,.int 1 v] }).objs.size:=by simpa using hb
  subst e
  exact I1.BZ (Nat.le_refl _) (I1.dN.fresh (Nat.le_refl _))
def SF (ta:TA):TI:=fun σ H R=>ta σ H fun vs H1=>∃ j:Int,vs=[.int j]∧-(2 ^ 62)≤j∧j < 2 ^ 62∧R (L8 0 j.toNat) H1
def SG (ta:TA):TI:=fun σ H R=>ta σ H fun vs H1=>∃ i j:Int,vs=[.int i,.int j]∧(-(2 ^ 62)≤i∧i < 2 ^ 62∧-(2 ^ 62)≤j∧j < 2 ^ 62)∧R (L8 i (j - i).toNat) H1
theorem bo {a:Expr} {ta:TA} {p pos:Pos} (hg:Gl X "range") (hm:X.mg "range"=none) (ha:PA X [a] ta) (hs:starEach [a] X.env=[(false,eval a X.env)]:=by rfl):PI X tg (.Call (.Name "range" p) [a] [] pos) (SF ta):=by
 intro pins s σ H R I h
 refine Call_ (lu I hg hm boot_range (PyProof.Rows.callWith_type1 (cb (ha pos pins s σ H _ I h) fun us s1 ⟨vs,H1,I1,r1,q1⟩=>?_) hs rfl))
 obtain ⟨j,e,q1,q2,q⟩:=q1
 subst e
 cases r1 with
 | cons r rr =>
  cases rr
  obtain ⟨t,rfl⟩:=r
  exact call_range_1 (Ba I1 (by omega) (by omega) q1 q2 (by simpa using q))
theorem pN {a b:Expr} {ta:TA} {p pos:Pos} (hg:Gl X "range") (hm:X.mg "range"=none) (ha:PA X [a,b] ta) (hs:starEach [a,b] X.env=[(false,eval a X.env),(false,eval b X.env)]:=by rfl) (HA:starEach [b] X.env=[(false,eval b X.env)]:=by rfl) :
  PI X tg (.Call (.Name "range" p) [a,b] [] pos) (SG ta):=by
 intro pins s σ H R I h
 refine Call_ (lu I hg hm boot_range (PyProof.Rows.callWith_type1 (cb (ha pos pins s σ H _ I h) fun us s1 ⟨vs,H1,I1,r1,q1⟩=>?_) (by rw [hs,HA]) (by rw [HA];rfl)))
 obtain ⟨i,j,e,⟨q1,q2,q3,q4⟩,q⟩:=q1
 subst e
 cases r1 with
 | cons r rr =>
  cases rr with
  | cons r' rr =>
   cases rr
   obtain ⟨t,rfl⟩:=r
   obtain ⟨t',rfl⟩:=r'
   exact call_range_2 (Ba I1 q1 q2 q3 q4 q)
def WV (wi:TI) (g:TG) (tb:TS):TS:=fun D σ H=>wi σ H fun J H1=>∃ W:Nat→Nat→St→Hp→Prop,(∃ m,W 0 m σ H1)∧∀ i m σ H,W i m σ H →
 (J.stop i H∧D.nx σ H)∨(J.go i H∧∃ N:St→Hp→Prop,(∀ σ' H',N σ' H'→∃ m',m' < m∧W (i+1) m' σ' H')∧∀ x H',J.L7 i H x H'→g x σ H' fun σ2 H2=>tb { D with nx:=N,ct:=N,bk:=D.nx } σ2 H2)
def vx (fp:List Addr) (h:Heap):List (Addr × Obj):=fp.filterMap fun b=>(h.get? b).map fun o=>(b,o)
theorem lz {fp:List Addr} {h:Heap} {b:Addr} {o:Obj} (hb:b ∈ fp) (e:h.get? b=some o):(b,o) ∈ vx fp h:=List.mem_filterMap.mpr ⟨b,hb,by rw [e];rfl⟩
theorem HB {fp:List Addr} {h:Heap} {p:Addr × Obj} (hp:p ∈ vx fp h):p.1 ∈ fp∧h.get? p.1=some p.2:=by
 obtain ⟨b,hb,e⟩:=List.mem_filterMap.mp hp
 cases q:h.get? b with
 | none=>rw [q] at e;cases e
 | some o =>
  rw [q] at e
  have e':(b,o)=p:=Option.some.inj e
  subst e'
  exact ⟨hb,q⟩
theorem Inv.pinned {pins:List (Addr × Obj)} {σ:St} {H:Hp} {s:Shared} {fp:List Addr} (I:Inv X pins σ H s) (hf:∀ b ∈ fp,tJ X pins H b) (ho:∀ b ∈ fp,∃ o,s.heap.get? b=some o∧∀ v,o.data≠.cell v):Inv X (pins ++ vx fp s.heap) σ H s :=
 I.Fb fun p hp=>(List.mem_append.mp hp).elim (fun z=>I.pin p (List.mem_append_right _ z)) fun z=>by
  obtain ⟨hb,e⟩:=HB z
  obtain ⟨f0,f1,f2,_⟩:=hf p.1 hb
  obtain ⟨o,e',d⟩:=ho p.1 hb
  rw [e] at e';cases e'
  exact ⟨e,f0,f1,f2,d⟩
theorem Inv.nv {pins pl:List (Addr × Obj)} {σ:St} {H:Hp} {s:Shared} (I:Inv X (pins ++ pl) σ H s):Inv X pins σ H s:=I.Fb fun p hp=>I.pin p (List.mem_append_right _ (List.mem_append_left _ hp))
theorem cP {iter:Expr} {body:List Stmt} {wi:TI} {g:TG} {tb:TS} {pos:Pos} (hp:PassesOwn (model X.prog X.w) X.A X.env X.xe) (hc:X.calm=true) (hi:PI X tg iter wi) (hg:PG X tg g) (hb:BV X body tb)
  (hs:∀ x,foldedSetIterable iter X.env x=pure x:=by intro _;rfl):PS X (.For tg iter body [] pos) (WV wi g tb):=by
 intro pins s σ H D I h
 refine wpAny_For (cb (hi pins s σ H _ I h) fun v s1 h1=>cb h1 fun VX s2 h2=>?_) hs
 obtain ⟨it,fp,tn,J,H2,e,I2,T,BM,f2,W,⟨m0,w0⟩,turn⟩:=h2
 subst e
 have DP:∀ {H':Hp},(∀ b ∈ fp,H' b=none)→∀ b ∈ fp,tJ X pins H' b:=fun hn b hb=>⟨hn b hb,(f2 b hb).2⟩
 refine codeAny_forLoop_any (fun n s'=>∃ i σ' H',Inv X pins σ' H' s'∧tn i s'.heap∧(∀ b ∈ fp,H' b=none)∧W i n σ' H') ?_ m0 ⟨0,σ,H2,I2,BM,fun b hb=>(f2 b hb).1,w0⟩
 rintro n s3 ⟨i,σ3,H3,I3,Bb,ZN,w3⟩
 rcases turn i n σ3 H3 w3 with ⟨stop,qn⟩ | ⟨go,N,hN,step⟩
 ·refine wpAny_passesOwn hp (cb (T.done X rfl rfl rfl hc i pins s3 σ3 H3 X.xe I3 (DP ZN) Bb stop) fun r s4 ⟨hr,I4⟩=>?_)
  subst hr
  exact wpAny_execs_nil ⟨σ3,H3,I4,qn⟩
 ·refine wpAny_passesOwn hp (cb (T.item X rfl rfl rfl hc i pins s3 σ3 H3 X.xe I3 (DP ZN) Bb go) fun r s4 ⟨u,hr,h4⟩=>?_)
  subst hr
  refine wpAny_passesOwn hp (cb h4 fun _ s5 ⟨x,H5,I5,r5,y5,uh,JA⟩=>?_)
  have I5':=I5.pinned (DP JA) (T.obj _ _ uh)
  refine wpAny_passesOwn hp (cb (hg _ s5 σ3 H5 x u _ I5' r5 (step x H5 y5)) fun _ s6 ⟨σ6,H6,I6,q6⟩=>?_)
  refine wpAny_passesOwn hp (cb (hb _ s6 σ6 H6 _ I6 q6) fun f s7 q7=>?_)
  have again:∀ {σ7:St} {H7:Hp},Inv X (pins ++ vx fp s5.heap) σ7 H7 s7→N σ7 H7→∃ m,m < n∧∃ i σ' H',Inv X pins σ' H' s7∧tn i s7.heap∧(∀ b ∈ fp,H' b=none)∧W i m σ' H':=fun {σ7 H7} I7 n7=>by
   obtain ⟨m',hm,w7⟩:=hN σ7 H7 n7
   refine ⟨m',hm,i+1,σ7,H7,I7.nv,T.keep _ _ _ uh fun b hb o e=>(I7.pin (b,o) (List.mem_append_right _ (List.mem_append_right _ (lz hb e)))).1,fun b hb=>?_,w7⟩
   obtain ⟨o,e,d⟩:=T.obj _ _ uh b hb
   exact (I7.pin (b,o) (List.mem_append_right _ (List.mem_append_right _ (lz hb e)))).2.1
  cases f with
  | next=>obtain ⟨σ7,H7,I7,n7⟩:=q7;exact again I7 n7
  | cont=>obtain ⟨σ7,H7,I7,n7⟩:=q7;exact again I7 n7
  | brk=>obtain ⟨σ7,H7,I7,q7⟩:=q7;exact ⟨σ7,H7,I7.nv,q7⟩
  | ret v=>obtain ⟨x7,σ7,H7,I7,r7,q7⟩:=q7;exact ⟨x7,σ7,H7,I7.nv,r7,q7⟩
end
theorem lG {K:PySem.W.Frag} {a:Addr} {xs:List V} {g:TG} {tb:TS} {D:Ends} {σ:St} {H:Hp} (Pv:Nat→St→Hp→Prop) (h0:Pv 0 σ H) (hl:∀ i σ H,i≤xs.length→Pv i σ H→ae K H a xs)
  (hs:∀ i x σ H,xs[i]?=some x→Pv i σ H→g x σ H fun σ2 H2=>tb { D with nx:=Pv (i+1),ct:=Pv (i+1),bk:=D.nx } σ2 H2) (hd:∀ σ H,Pv xs.length σ H→D.nx σ H) :
  ∃ W:Nat→Nat→St→Hp→Prop,(∃ m,W 0 m σ H)∧∀ i m σ H,W i m σ H →
   ((PL K a).stop i H∧D.nx σ H)∨((PL K a).go i H∧∃ N:St→Hp→Prop,(∀ σ' H',N σ' H'→∃ m',m' < m∧W (i+1) m' σ' H')∧∀ x H',(PL K a).L7 i H x H'→g x σ H' fun σ2 H2=>tb { D with nx:=N,ct:=N,bk:=D.nx } σ2 H2):=by
 refine ⟨fun i m σ H=>m=xs.length - i∧i≤xs.length∧Pv i σ H,⟨xs.length,by simp,Nat.zero_le _,h0⟩,?_⟩
 rintro i m σ H ⟨rfl,hi,p⟩
 have q:=hl i σ H hi p
 by_cases eU:i < xs.length
 ·refine .inr ⟨⟨xs,xs[i],q,by simp [eU]⟩,Pv (i+1),fun σ' H' p'=>⟨xs.length - (i+1),by omega,rfl,eU,p'⟩,fun x H' y=>?_⟩
  obtain ⟨e,y⟩:=y
  subst e
  exact hs i x σ _ (y xs q) p
 ·have e:i=xs.length:=by omega
  subst e
  exact .inl ⟨⟨xs,q,Nat.le_refl _⟩,hd σ H p⟩
theorem Fh {K:PySem.W.Frag} {a:Addr} {xs:List V} {g:TG} {tb:TS} {D:Ends} {σ:St} {H:Hp} (Pv:Nat→St→Hp→Prop) (h0:Pv 0 σ H) (hl:∀ i σ H,i≤xs.length→Pv i σ H→cD K H a xs)
  (hs:∀ i x σ H,xs[i]?=some x→Pv i σ H→g x σ H fun σ2 H2=>tb { D with nx:=Pv (i+1),ct:=Pv (i+1),bk:=D.nx } σ2 H2) (hd:∀ σ H,Pv xs.length σ H→D.nx σ H) :
  ∃ W:Nat→Nat→St→Hp→Prop,(∃ m,W 0 m σ H)∧∀ i m σ H,W i m σ H →
   ((RP K a).stop i H∧D.nx σ H)∨((RP K a).go i H∧∃ N:St→Hp→Prop,(∀ σ' H',N σ' H'→∃ m',m' < m∧W (i+1) m' σ' H')∧∀ x H',(RP K a).L7 i H x H'→g x σ H' fun σ2 H2=>tb { D with nx:=N,ct:=N,bk:=D.nx } σ2 H2):=by
 refine ⟨fun i m σ H=>m=xs.length - i∧i≤xs.length∧Pv i σ H,⟨xs.length,by simp,Nat.zero_le _,h0⟩,?_⟩
 rintro i m σ H ⟨rfl,hi,p⟩
 have q:=hl i σ H hi p
 by_cases eU:i < xs.length
 ·refine .inr ⟨⟨xs,xs[i],q,by simp [eU]⟩,Pv (i+1),fun σ' H' p'=>⟨xs.length - (i+1),by omega,rfl,eU,p'⟩,fun x H' y=>?_⟩
  obtain ⟨e,y⟩:=y
  subst e
  exact hs i x σ _ (y xs q) p
 ·have e:i=xs.length:=by omega
  subst e
  exact .inl ⟨⟨xs,q,Nat.le_refl _⟩,hd σ H p⟩
theorem cS {lo:Int} {n:Nat} {g:TG} {tb:TS} {D:Ends} {σ:St} {H:Hp} (Pv:Nat→St→Hp→Prop) (h0:Pv 0 σ H)
  (hs:∀ i σ H,i < n→Pv i σ H→g (.int (lo+i)) σ H fun σ2 H2=>tb { D with nx:=Pv (i+1),ct:=Pv (i+1),bk:=D.nx } σ2 H2) (hd:∀ σ H,Pv n σ H→D.nx σ H) :
  ∃ W:Nat→Nat→St→Hp→Prop,(∃ m,W 0 m σ H)∧∀ i m σ H,W i m σ H →
   ((L8 lo n).stop i H∧D.nx σ H)∨((L8 lo n).go i H∧∃ N:St→Hp→Prop,(∀ σ' H',N σ' H'→∃ m',m' < m∧W (i+1) m' σ' H')∧∀ x H',(L8 lo n).L7 i H x H'→g x σ H' fun σ2 H2=>tb { D with nx:=N,ct:=N,bk:=D.nx } σ2 H2):=by
 refine ⟨fun i m σ H=>m=n - i∧i≤n∧Pv i σ H,⟨n,by simp,Nat.zero_le _,h0⟩,?_⟩
 rintro i m σ H ⟨rfl,hi,p⟩
 by_cases eU:i < n
 ·refine .inr ⟨eU,Pv (i+1),fun σ' H' p'=>⟨n - (i+1),by omega,rfl,eU,p'⟩,fun x H' y=>?_⟩
  obtain ⟨e,y⟩:=y
  subst e y
  exact hs i σ _ eU p
 ·have e:i=n:=by omega
  subst e
  exact .inl ⟨Nat.le_refl _,hd σ H p⟩
theorem Be {c:TT} {tb:TS} {D:Ends} {σ:St} {H:Hp} (Pv:St→Hp→Prop) (μ:St→Hp→Nat) (h0:Pv σ H)
  (hs:∀ σ H,Pv σ H→c σ H fun b H1=>if b=true then tb { D with nx:=fun σ' H'=>Pv σ' H'∧μ σ' H' < μ σ H,ct:=fun σ' H'=>Pv σ' H'∧μ σ' H' < μ σ H,bk:=D.nx } σ H1 else D.nx σ H1)
  (mono:∀ σ H Q Q',(∀ b H1,Q b H1→Q' b H1)→c σ H Q→c σ H Q'):JQ c tb D σ H:=by
 refine ⟨fun m σ H=>m=μ σ H∧Pv σ H,⟨_,rfl,h0⟩,?_⟩
 rintro m σ H ⟨rfl,p⟩
 refine mono σ H _ _ (fun b H1 q=>?_) (hs σ H p)
 cases b with
 | true=>exact ⟨_,fun σ' H' ⟨p',l⟩=>⟨_,l,rfl,p'⟩,q⟩
 | false=>exact q
end L2
namespace L2
open PySem PySem.Spec PyProof.Rows
abbrev R2:=V→V→Hp→VK→Prop
def ni (X:Cx) (f:Value→Value→Sem Value) (r:R2):Prop :=
 ∀ (pins:List (Addr × Obj)) (s:Shared) (σ:St) (H:Hp) (x y:V) (v u:Value) (Q:VK),Inv X pins σ H s→RelV x v→RelV y u→r x y H Q →
  wpAny (model X.prog X.w) X.A (f v u) (EP X pins σ Q) X.xe s
def WW (X:Cx) (f:Value→Sem Value) (r:V→Hp→VK→Prop):Prop :=
 ∀ (pins:List (Addr × Obj)) (s:Shared) (σ:St) (H:Hp) (x:V) (v:Value) (Q:VK),Inv X pins σ H s→RelV x v→r x H Q →
  wpAny (model X.prog X.w) X.A (f v) (EP X pins σ Q) X.xe s
def j7 (X:Cx) (f:Value) (r:List V→Hp→VK→Prop):Prop :=
 ∀ (pins:List (Addr × Obj)) (s:Shared) (σ:St) (H:Hp) (xs:List V) (us:List Value) (Q:VK),Inv X pins σ H s→a9 xs us→r xs H Q →
  wpAny (model X.prog X.w) X.A (call f us) (EP X pins σ Q) X.xe s
def WX (X:Cx) (r:V→Hp→(Bool→Hp→Prop)→Prop):Prop :=
 ∀ (pins:List (Addr × Obj)) (s:Shared) (σ:St) (H:Hp) (x:V) (v:Value) (Q:Bool→Hp→Prop),Inv X pins σ H s→RelV x v→r x H Q →
  wpAny (model X.prog X.w) X.A (truthy v) (TP X pins σ Q) X.xe s
def PN (r:R2) (ta tb:TE):TE:=fun σ H Q=>ta σ H fun x H1=>tb σ H1 fun y H2=>r x y H2 Q
def tUn (r:V→Hp→VK→Prop) (ta:TE):TE:=fun σ H Q=>ta σ H fun x H1=>r x H1 Q
def rI (C:Int→Int→Prop) (g:Int→Int→V):R2:=fun x y H Q=>∃ i j,x=.int i∧y=.int j∧C i j∧Q (g i j) H
def Lg (g:Int→Int→V):R2:=fun x y H Q=>∃ i j,x=.int i∧y=.int j∧Q (g i j) H
def rU (g:Int→V):V→Hp→VK→Prop:=fun x H Q=>∃ i,x=.int i∧Q (g i) H
section
variable {X:Cx} {a b c:Expr} {ta tb tc:TE} {pos:Pos}
theorem PQ (ha:PE X a ta) (hb:PE X b tb) {pins:List (Addr × Obj)} {s:Shared} {σ:St} {H:Hp} {R:V→V→Hp→Prop} (I:Inv X pins σ H s)
  (h:ta σ H fun x H1=>tb σ H1 fun y H2=>R x y H2) {Q:Value→Shared→Prop} {f:Value→Value→Sem Value}
  (hf:∀ v u s2 x y H2,Inv X pins σ H2 s2→RelV x v→RelV y u→R x y H2→wpAny (model X.prog X.w) X.A (f v u) Q X.xe s2) :
  wpAny (model X.prog X.w) X.A (eval a X.env) (fun v s₁=>wpAny (model X.prog X.w) X.A (eval b X.env) (fun u s₂=>wpAny (model X.prog X.w) X.A (f v u) Q X.xe s₂) X.xe s₁) X.xe s:=by
 refine cb (ha pins s σ H _ I h) fun v s1 ⟨x,H1,I1,r1,q1⟩=>?_
 refine cb (hb pins s1 σ H1 _ I1 q1) fun u s2 ⟨y,H2,I2,r2,q2⟩=>?_
 exact hf v u s2 x y H2 I2 r1 r2 q2
theorem aM {op:Operator} {r:R2} (ho:ni X (binaryOp op) r) (ha:PE X a ta) (hb:PE X b tb):PE X (.BinOp a op b pos) (PN r ta tb):=by
 intro pins s σ H Q I h
 exact wpAny_BinOp (PQ ha hb I h fun v u s2 x y H2 I2 rx ry q=>ho pins s2 σ H2 x y v u Q I2 rx ry q)
theorem Bf {op:UnaryOp} {r:V→Hp→VK→Prop} (ho:WW X (unaryOp op) r) (ha:PE X a ta):PE X (.UnaryOp op a pos) (tUn r ta):=by
 intro pins s σ H Q I h
 exact UnaryOp_ (cb (ha pins s σ H _ I h) fun v s1 ⟨x,H1,I1,r1,q1⟩=>ho pins s1 σ H1 x v Q I1 r1 q1)
theorem VY {f:Value→Value→Sem Value} {C:Int→Int→Prop} {g:Int→Int→Int}
  (rule:∀ (i j:Int) (t u:Tok) (s:Shared) (Q:Value→Shared→Prop) (E:Value→Shared→Prop),C i j→Q (.int (g i j) s.toks) { s with toks:=s.toks+1 }→wpAny (model X.prog X.w) X.A (f (.int i t) (.int j u)) Q E s) :
  ni X f (rI C fun i j=>.int (g i j)):=by
 intro pins s σ H x y v u Q I rx ry h
 obtain ⟨i,j,rfl,rfl,hc,q⟩:=h
 obtain ⟨t,rfl⟩:=rx
 obtain ⟨t',rfl⟩:=ry
 exact rule i j t t' s _ _ hc ⟨.int (g i j),H,I.tok _,⟨_,rfl⟩,q⟩
theorem SH {f:Value→Value→Sem Value} {g:Int→Int→Int}
  (rule:∀ (i j:Int) (t u:Tok) (s:Shared) (Q:Value→Shared→Prop) (E:Value→Shared→Prop),Q (.int (g i j) s.toks) { s with toks:=s.toks+1 }→wpAny (model X.prog X.w) X.A (f (.int i t) (.int j u)) Q E s) :
  ni X f (Lg fun i j=>.int (g i j)):=by
 intro pins s σ H x y v u Q I rx ry h
 obtain ⟨i,j,rfl,rfl,q⟩:=h
 obtain ⟨t,rfl⟩:=rx
 obtain ⟨t',rfl⟩:=ry
 exact rule i j t t' s _ _ ⟨.int (g i j),H,I.tok _,⟨_,rfl⟩,q⟩
theorem L9 {f:Value→Value→Sem Value} {g:Int→Int→Bool}
  (rule:∀ (i j:Int) (t u:Tok) (s:Shared) (Q:Value→Shared→Prop) (E:Value→Shared→Prop),Q (.bool (g i j)) s→wpAny (model X.prog X.w) X.A (f (.int i t) (.int j u)) Q E s) :
  ni X f (Lg fun i j=>.bl (g i j)):=by
 intro pins s σ H x y v u Q I rx ry h
 obtain ⟨i,j,rfl,rfl,q⟩:=h
 obtain ⟨t,rfl⟩:=rx
 obtain ⟨t',rfl⟩:=ry
 exact rule i j t t' s _ _ ⟨.bl (g i j),H,I,rfl,q⟩
def WY (i j:Int):Prop:=0 < j∧j < 1073741824
def WZ (i j:Int):Prop:=0≤j∧j≤1000000∧i.natAbs < 2 ^ 64
def PR (i j:Int):Prop:=(-(2 ^ 64) < i∧i < 2 ^ 64)∨(-(2 ^ 64) < j∧j < 2 ^ 64)
theorem PR.ok {i j:Int} (h:PR i j):IntMulOk i j:=by
 rcases h with ⟨h1,h2⟩ | ⟨h1,h2⟩
 ·exact .of_left (intBits_le_64 h1 h2)
 ·exact .of_right (intBits_le_64 h1 h2)
theorem az:ni X (binaryOp .Add) (Lg fun i j=>.int (i+j)):=SH fun _ _ _ _ _ _ _ q=>add_int q
theorem d9:ni X (binaryOp .Sub) (Lg fun i j=>.int (i - j)):=SH fun _ _ _ _ _ _ _ q=>sub_int q
theorem cE:ni X (binaryOp .Mult) (rI PR fun i j=>.int (i * j)):=VY fun _ _ _ _ _ _ _ hc q=>mul_int q hc.ok
theorem cF:ni X (binaryOp .FloorDiv) (rI WY fun i j=>.int (i / j)):=VY fun i j _ _ _ _ _ hc q=>by
 have h1:(0:Int) < j:=hc.1
 have h2:j < 1073741824:=hc.2
 exact floordiv_int (by omega) (by rw [Int.fdiv_eq_ediv_of_nonneg i (by omega)];exact q) (.inl (PyProof.noPylong_small (by omega)))
theorem ay:ni X (binaryOp .Mod) (rI (fun _ j=>0 < j) fun i j=>.int (i % j)):=VY fun i j _ _ _ _ _ hc q=>by
 have h1:(0:Int) < j:=hc
 exact mod_int' (by omega) (by rw [Int.fmod_eq_emod_of_nonneg i (by omega)];exact q)
theorem PU:ni X (binaryOp .Pow) (rI WZ fun i j=>.int (i ^ j.toNat)):=VY fun _ _ _ _ _ _ _ hc q=>pow_int_small hc.1 hc.2.1 hc.2.2 q
theorem unI {f:Value→Sem Value} {g:Int→Int}
  (rule:∀ (i:Int) (t:Tok) (s:Shared) (Q:Value→Shared→Prop) (E:Value→Shared→Prop),Q (.int (g i) s.toks) { s with toks:=s.toks+1 }→wpAny (model X.prog X.w) X.A (f (.int i t)) Q E s) :
  WW X f (rU fun i=>.int (g i)):=by
 intro pins s σ H x v Q I rx h
 obtain ⟨i,rfl,q⟩:=h
 obtain ⟨t,rfl⟩:=rx
 exact rule i t s _ _ ⟨.int (g i),H,I.tok _,⟨_,rfl⟩,q⟩
theorem vy:WW X (unaryOp .USub) (rU fun i=>.int (-i)):=unI fun _ _ _ _ _ q=>neg_int q
end
def SI:V→V→Bool
 | .cB,.cB=>true | .cB,.int _=>true | .int _,.cB=>true | .cB,.bl _=>true | .bl _,.cB=>true | .cB,.str _=>true | .str _,.cB=>true
 | .int _,.int _=>true | .bl _,.bl _=>true | .str _,.str _=>true | .FY _,.FY _=>true
 | .int _,.str _=>true | .str _,.int _=>true | .bl _,.str _=>true | .str _,.bl _=>true
 | _,_=>false
def rEq:R2:=fun x y H Q=>SI x y=true∧Q (.bl (decide (x=y))) H
def Wa:R2:=fun x y H Q=>SI x y=true∧Q (.bl (!decide (x=y))) H
theorem Fi {i j:Int}:decide (V.int i=V.int j)=(i == j):=by
 rw [Bool.eq_iff_iff]
 simp
theorem JR {i j:Bool}:decide (V.bl i=V.bl j)=(i == j):=by
 rw [Bool.eq_iff_iff]
 simp
theorem Fj {i j:Str}:decide (V.str i=V.str j)=(i == j):=by
 rw [Bool.eq_iff_iff]
 simp
theorem Fk {i j:Array UInt8}:decide (V.FY i=V.FY j)=(i.toList == j.toList):=by
 rw [Bool.eq_iff_iff]
 cases i
 cases j
 simp
section
variable {X:Cx} {a b c:Expr} {ta tb tc:TE} {pos:Pos}
theorem bQ {pins:List (Addr × Obj)} {σ:St} {H:Hp} {s:Shared} {Q:VK} {k k':Bool} (I:Inv X pins σ H s) (q:Q (.bl k) H) (e:k=k'):EP X pins σ Q (.bool k') s:=by
 subst e
 exact ⟨.bl k,H,I,rfl,q⟩
theorem gQ:ni X (compareOp .Eq) rEq:=by
 intro pins s σ H x y v u Q I rx ry h
 obtain ⟨hs,q⟩:=h
 cases x with
 | cB =>
  cases rx
  cases y with
  | cB=>cases ry;exact PySem.EqNone.eq_none_none (bQ I q (by simp))
  | bl j=>cases ry;exact PySem.EqNone.eq_none_bool (bQ I q (by simp))
  | int j=>obtain ⟨t',rfl⟩:=ry;exact PySem.EqNone.eq_none_int (bQ I q (by simp))
  | str j=>obtain ⟨t',rfl⟩:=ry;exact PySem.EqNone.eq_none_str (bQ I q (by simp))
  | _=>exact absurd (show false=true from hs) Bool.false_ne_true
 | bl i =>
  cases rx
  cases y with
  | cB=>cases ry;exact PySem.EqNone.eq_bool_none (bQ I q (by simp))
  | bl j=>cases ry;exact eq_bool (bQ I q JR)
  | str j=>obtain ⟨t',rfl⟩:=ry;exact PySem.EqMixed.eq_bool_str (bQ I q (by simp))
  | _=>exact absurd (show false=true from hs) Bool.false_ne_true
 | int i =>
  obtain ⟨t,rfl⟩:=rx
  cases y with
  | cB=>cases ry;exact PySem.EqNone.eq_int_none (bQ I q (by simp))
  | int j=>obtain ⟨t',rfl⟩:=ry;exact eq_int (bQ I q Fi)
  | str j=>obtain ⟨t',rfl⟩:=ry;exact PySem.EqMixed.eq_int_str (bQ I q (by simp))
  | _=>exact absurd (show false=true from hs) Bool.false_ne_true
 | str i =>
  obtain ⟨t,rfl⟩:=rx
  cases y with
  | cB=>cases ry;exact PySem.EqNone.eq_str_none (bQ I q (by simp))
  | bl j=>cases ry;exact PySem.EqMixed.eq_str_bool (bQ I q (by simp))
  | int j=>obtain ⟨t',rfl⟩:=ry;exact PySem.EqMixed.eq_str_int (bQ I q (by simp))
  | str j=>obtain ⟨t',rfl⟩:=ry;exact eq_str (bQ I q Fj)
  | _=>exact absurd (show false=true from hs) Bool.false_ne_true
 | FY i =>
  obtain ⟨t,rfl⟩:=rx
  cases y with
  | FY j=>obtain ⟨t',rfl⟩:=ry;exact PySem.W.eq_bytes (bQ I q Fk)
  | _=>exact absurd (show false=true from hs) Bool.false_ne_true
 | _=>cases y <;> exact absurd (show false=true from hs) Bool.false_ne_true
theorem Bg:ni X (compareOp .NotEq) Wa:=by
 intro pins s σ H x y v u Q I rx ry h
 obtain ⟨hs,q⟩:=h
 cases x with
 | cB =>
  cases rx
  cases y with
  | cB=>cases ry;exact PySem.EqNone.ne_none_none (bQ I q (by simp))
  | bl j=>cases ry;exact PySem.EqNone.ne_none_bool (bQ I q (by simp))
  | int j=>obtain ⟨t',rfl⟩:=ry;exact PySem.EqNone.ne_none_int (bQ I q (by simp))
  | str j=>obtain ⟨t',rfl⟩:=ry;exact PySem.EqNone.ne_none_str (bQ I q (by simp))
  | _=>exact absurd (show false=true from hs) Bool.false_ne_true
 | bl i =>
  cases rx
  cases y with
  | cB=>cases ry;exact PySem.EqNone.ne_bool_none (bQ I q (by simp))
  | bl j=>cases ry;exact ne_bool (bQ I q (congrArg not JR))
  | str j=>obtain ⟨t',rfl⟩:=ry;exact PySem.EqMixed.ne_bool_str (bQ I q (by simp))
  | _=>exact absurd (show false=true from hs) Bool.false_ne_true
 | int i =>
  obtain ⟨t,rfl⟩:=rx
  cases y with
  | cB=>cases ry;exact PySem.EqNone.ne_int_none (bQ I q (by simp))
  | int j=>obtain ⟨t',rfl⟩:=ry;exact ne_int (bQ I q (congrArg not Fi))
  | str j=>obtain ⟨t',rfl⟩:=ry;exact PySem.EqMixed.ne_int_str (bQ I q (by simp))
  | _=>exact absurd (show false=true from hs) Bool.false_ne_true
 | str i =>
  obtain ⟨t,rfl⟩:=rx
  cases y with
  | cB=>cases ry;exact PySem.EqNone.ne_str_none (bQ I q (by simp))
  | bl j=>cases ry;exact PySem.EqMixed.ne_str_bool (bQ I q (by simp))
  | int j=>obtain ⟨t',rfl⟩:=ry;exact PySem.EqMixed.ne_str_int (bQ I q (by simp))
  | str j=>obtain ⟨t',rfl⟩:=ry;exact ne_str (bQ I q (congrArg not Fj))
  | _=>exact absurd (show false=true from hs) Bool.false_ne_true
 | FY i =>
  obtain ⟨t,rfl⟩:=rx
  cases y with
  | FY j=>obtain ⟨t',rfl⟩:=ry;exact PySem.W.ne_bytes (bQ I q (congrArg not Fk))
  | _=>exact absurd (show false=true from hs) Bool.false_ne_true
 | _=>cases y <;> exact absurd (show false=true from hs) Bool.false_ne_true
theorem jJ:ni X (compareOp .Lt) (Lg fun i j=>.bl (decide (i < j))):=L9 fun _ _ _ _ _ _ _ q=>lt_int q
theorem vz:ni X (compareOp .LtE) (Lg fun i j=>.bl (decide (i≤j))):=L9 fun _ _ _ _ _ _ _ q=>le_int q
theorem Bh:ni X (compareOp .Gt) (Lg fun i j=>.bl (decide (j < i))):=L9 fun _ _ _ _ _ _ _ q=>gt_int q
theorem JS:ni X (compareOp .GtE) (Lg fun i j=>.bl (decide (j≤i))):=L9 fun _ _ _ _ _ _ _ q=>ge_int q
theorem wB:ni X (compareOp .Is) (fun x y H Q=>y=.cB∧Q (.bl (decide (x=.cB))) H):=by
 intro pins s σ H x y v u Q I rx ry h
 obtain ⟨rfl,q⟩:=h
 cases ry
 refine is_none_gen (bQ I q ?_)
 cases x <;> first
  | (cases rx;rfl)
  | (obtain ⟨t,rfl⟩:=rx;rfl)
theorem AG:ni X (compareOp .IsNot) (fun x y H Q=>y=.cB∧Q (.bl (!decide (x=.cB))) H):=by
 intro pins s σ H x y v u Q I rx ry h
 obtain ⟨rfl,q⟩:=h
 cases ry
 refine isnot_none_gen (bQ I q ?_)
 cases x <;> first
  | (cases rx;rfl)
  | (obtain ⟨t,rfl⟩:=rx;rfl)
theorem ni.or {f:Value→Value→Sem Value} {r r':R2} (h:ni X f r) (h':ni X f r'):ni X f (fun x y H Q=>r x y H Q∨r' x y H Q):=by
 intro pins s σ H x y v u Q I rx ry q
 rcases q with q | q
 ·exact h pins s σ H x y v u Q I rx ry q
 ·exact h' pins s σ H x y v u Q I rx ry q
theorem af (b:Expr) {op:CmpOp} (h:op≠.In:=by decide) (h2:op≠.NotIn:=by decide):behindInMarks op b=false:=by
 have e1:(op == CmpOp.In)=false:=by cases op <;> first | rfl | exact absurd rfl h
 have e2:(op == CmpOp.NotIn)=false:=by cases op <;> first | rfl | exact absurd rfl h2
 cases b <;> simp [behindInMarks,e1,e2]
theorem j8 {op:CmpOp} {r:R2} (ho:ni X (compareOp op) r) (ha:PE X a ta) (hb:PE X b tb) (hm:behindInMarks op b=false):PE X (.Compare a [op] [b] pos) (PN r ta tb):=by
 intro pins s σ H Q I h
 exact wpAny_Compare1 (PQ ha hb I h fun v u s2 x y H2 I2 rx ry q=>ho pins s2 σ H2 x y v u Q I2 rx ry q) hm
def Fl (t:TE):TT:=fun σ H Q=>t σ H fun x H'=>∃ k,x=.bl k∧Q k H'
theorem aZ {op:CmpOp} {r:R2} (ho:ni X (compareOp op) r) (ha:PE X a ta) (hb:PE X b tb) (hm:behindInMarks op b=false):PT X (.Compare a [op] [b] pos) (Fl (PN r ta tb)):=by
 intro pins s σ H Q I h
 refine wpAny_isTrue_Compare1 (cb (ha pins s σ H _ I h) fun v s1 ⟨x,H1,I1,r1,q1⟩=>cb (hb pins s1 σ H1 _ I1 q1) fun u s2 ⟨y,H2,I2,r2,q2⟩ =>
  cb (ho pins s2 σ H2 x y v u _ I2 r1 r2 q2) fun c s3 ⟨z,H3,I3,r3,k,e,q3⟩=>?_) hm
 subst e
 cases r3
 exact wpAny_truthy_bool ⟨H3,I3,q3⟩
def JT (r r':R2) (ta tb tc:TE):TE:=fun σ H Q=>ta σ H fun x H1=>tb σ H1 fun y H2=>r x y H2 fun z H3=>∃ k,z=.bl k ∧
 (if k=true then tc σ H3 fun w' H4=>r' y w' H4 Q else Q (.bl false) H3)
theorem JU {op PV:CmpOp} {r r':R2} (ho:ni X (compareOp op) r) (BJ:ni X (compareOp PV) r') (ha:PE X a ta) (hb:PE X b tb) (hc:PE X c tc)
  (hm:lastMarks [op,PV] [b,c]=false:=by with_unfolding_all rfl):PE X (.Compare a [op,PV] [b,c] pos) (JT r r' ta tb tc):=by
 intro pins s σ H Q I h
 refine Compare_chain (cb (ha pins s σ H _ I h) fun v s1 ⟨x,H1,I1,r1,q1⟩=>chain_link (cb (hb pins s1 σ H1 _ I1 q1) fun u s2 ⟨y,H2,I2,r2,q2⟩ =>
  cb (ho pins s2 σ H2 x y v u _ I2 r1 r2 q2) fun d s3 ⟨z,H3,I3,r3,k,e,q3⟩=>?_)) hm
 subst e
 cases r3
 refine wpAny_truthy_bool ?_
 cases k with
 | false=>exact ite_ff ⟨.bl false,H3,I3,rfl,q3⟩
 | true=>exact ite_tt (chain_last (cb (hc pins s3 σ H3 _ I3 q3) fun w' s4 ⟨z',H4,I4,r4,q4⟩=>BJ pins s4 σ H4 y z' u w' Q I4 r2 r4 q4))
theorem wC {op PV:CmpOp} {r r':R2} (ho:ni X (compareOp op) r) (BJ:ni X (compareOp PV) r') (ha:PE X a ta) (hb:PE X b tb) (hc:PE X c tc)
  (hm:lastMarks [op,PV] [b,c]=false:=by with_unfolding_all rfl):PT X (.Compare a [op,PV] [b,c] pos) (Fl (JT r r' ta tb tc)):=by
 intro pins s σ H Q I h
 refine isTrue_chain (cb (ha pins s σ H _ I h) fun v s1 ⟨x,H1,I1,r1,q1⟩=>test_link (cb (hb pins s1 σ H1 _ I1 q1) fun u s2 ⟨y,H2,I2,r2,q2⟩ =>
  cb (ho pins s2 σ H2 x y v u _ I2 r1 r2 q2) fun d s3 ⟨z,H3,I3,r3,k,e,q3⟩=>?_)) hm
 subst e
 cases r3
 refine wpAny_truthy_bool ?_
 cases k with
 | false =>
  obtain ⟨k',e',q'⟩:=q3
  cases e'
  exact ite_ff ⟨H3,I3,q'⟩
 | true =>
  refine ite_tt (test_last (cb (hc pins s3 σ H3 _ I3 q3) fun w' s4 ⟨z',H4,I4,r4,q4⟩=>cb (BJ pins s4 σ H4 y z' u w' _ I4 r2 r4 q4) fun d' s5 ⟨z2,H5,I5,r5,k2,e2,q5⟩=>?_))
  subst e2
  cases r5
  exact wpAny_truthy_bool ⟨H5,I5,q5⟩
def SJ (K:PySem.W.Frag) (x:V) (H:Hp) (k:Bool):Prop :=
 match x with
 | .cB=>k=false
 | .bl b=>k=b
 | .int i=>k=(i != 0)
 | .str y=>y.length≤sizeLine∧k=((y.length:Int) != 0)
 | .FY y=>y.size≤sizeLine∧k=((y.size:Int) != 0)
 | .ref p=>(∃ xs,ae K H p xs∧k=!xs.isEmpty)∨(∃ xs,cD K H p xs∧k=!xs.isEmpty)∨∃ bU,H p=some (.dK bU)∧k=!bU.isEmpty
 | _=>False
theorem DQ {κ:Type} {bU:List (κ × V)} {vs:List (κ × Value)} (r:KV bU vs):(!vs.isEmpty)=!bU.isEmpty:=by
 cases r <;> rfl
theorem wD {xs:List V} {au:List Value} (r:a9 xs au):(!au.toArray.isEmpty)=!xs.isEmpty:=by
 cases r <;> simp
theorem wF:(sizeLine:Nat) < 2 ^ 63:=by rw [sizeLine_eq];decide
theorem PX:WX X (fun x H Q=>∃ k,SJ X.K x H k∧Q k H):=by
 intro pins s σ H x v Q I rx h
 obtain ⟨k,e,q⟩:=h
 have hl:=wF
 have hs:sizeLine=16777216:=sizeLine_eq
 cases x with
 | cB =>
  cases rx
  have e':k=false:=e
  subst e'
  exact truthy_none ⟨H,I,q⟩
 | bl b =>
  cases rx
  have e':k=b:=e
  subst e'
  exact wpAny_truthy_bool ⟨H,I,q⟩
 | int i =>
  obtain ⟨t,rfl⟩:=rx
  have e':k=(i != 0):=e
  subst e'
  exact PySem.P.truthy_int ⟨H,I,q⟩
 | str y =>
  obtain ⟨t,rfl⟩:=rx
  obtain ⟨hy,e'⟩:y.length≤sizeLine∧k=((y.length:Int) != 0):=e
  subst e'
  exact PySem.P.truthy_str (by omega) ⟨H,I.tok _,q⟩
 | FY y =>
  obtain ⟨t,rfl⟩:=rx
  obtain ⟨hy,e'⟩:y.size≤sizeLine∧k=((y.size:Int) != 0):=e
  subst e'
  exact PySem.W.truthy_bytes (by omega) ⟨H,I.tok _,q⟩
 | ref p =>
  cases rx
  have e':(∃ xs,ae X.K H p xs∧k=!xs.isEmpty)∨(∃ xs,cD X.K H p xs∧k=!xs.isEmpty)∨∃ bU,H p=some (.dK bU)∧k=!bU.isEmpty:=e
  rcases e' with ⟨xs,hx,e'⟩ | ⟨xs,hx,e'⟩ | ⟨bU,hx,e'⟩
  ·subst e'
   obtain ⟨au,r,pl,hz⟩:=I.list hx
   have hlen:=r.length
   exact wpAny_truthy_list pl.isList (by simp only [List.size_toArray];omega) ⟨H,I.tok _,by rw [wD r];exact q⟩
  ·subst e'
   obtain ⟨au,r,pl,hz⟩:=I.tuple hx
   have hlen:=r.length
   exact truthy_tuple pl (by simp only [List.size_toArray];omega) ⟨H,I.tok _,by rw [wD r];exact q⟩
  ·subst e'
   obtain ⟨hz,hS,vs,r,m⟩:bU.length≤sizeLine∧(p == sysModules)=false∧∃ vs,KV bU vs∧s.heap.DictOf (vZ X.prog X.w) p vs:=I.dN p _ hx
   have hlen:bU.length=vs.length:=Paired.length r
   exact wpAny_truthy_dict hS m (by omega) ⟨H,I.tok _,by rw [DQ r];exact q⟩
 | _=>exact (show False from e).elim
theorem rV (ha:PE X a ta) (he:∀ whole,isTrue a X.env whole=(do let v ← whole;standAt a.pos;holding [v] (truthy v))) :
  PT X a (fun σ H Q=>ta σ H fun x H'=>∃ k,SJ X.K x H' k∧Q k H'):=by
 intro pins s σ H Q I h
 exact isTrue_plain (cb (ha pins s σ H _ I h) fun v s1 ⟨x,H1,I1,r1,q1⟩=>PX pins s1 σ H1 x v Q I1 r1 q1) (he _)
theorem vals1 {x:V} {us:List Value} (r:a9 [x] us):∃ u,us=[u]∧RelV x u:=by
 cases r with
 | cons r1 r2=>cases r2;exact ⟨_,rfl,r1⟩
theorem vals2 {x y:V} {us:List Value} (r:a9 [x,y] us):∃ u w',us=[u,w']∧RelV x u∧RelV y w':=by
 cases r with
 | cons r1 r2 =>
  cases r2 with
  | cons r3 r4=>cases r4;exact ⟨_,_,rfl,r1,r3⟩
theorem zI (hc:X.calm=true):j7 X (.builtin "max") (fun xs H Q=>∃ i j,xs=[.int i,.int j]∧Q (.int (if j > i then j else i)) H):=by
 intro pins s σ H xs us Q I r h
 obtain ⟨i,j,rfl,q⟩:=h
 obtain ⟨u,w',rfl,⟨t,rfl⟩,⟨t',rfl⟩⟩:=vals2 r
 refine max_two_ints (I.ok.hd hc) fun h' tk k=>⟨_,H,I.kept k,?_,q⟩
 by_cases hj:j > i
 ·rw [if_pos hj,if_pos hj];exact ⟨_,rfl⟩
 ·rw [if_neg hj,if_neg hj];exact ⟨_,rfl⟩
theorem zJ:j7 X (.type "int") (fun xs H Q=>(∃ i,xs=[.int i]∧Q (.int i) H)∨∃ k,xs=[.bl k]∧Q (.int (if k then 1 else 0)) H):=by
 intro pins s σ H xs us Q I r h
 rcases h with ⟨i,rfl,q⟩ | ⟨k,rfl,q⟩
 ·obtain ⟨u,rfl,t,rfl⟩:=vals1 r
  exact call_int_int ⟨.int i,H,I,⟨_,rfl⟩,q⟩
 ·obtain ⟨u,rfl,r1⟩:=vals1 r
  cases r1
  exact call_int_bool ⟨.int (if k then 1 else 0),H,I.tok _,⟨_,rfl⟩,q⟩
end
end L2
namespace L2
open PySem PySem.Spec PyProof.Rows
structure DR (h:Heap) (x dx C:Addr) (mA:Str→Option Value):Prop where
 obj:h.get? x=some (PySem.W.instObj C dx)
 ns:h.Ns1 dx mA
 ne:dx≠x
theorem HC {h:Heap} {dx:Addr} {mA:Str→Option Value} (n:h.Ns1 dx mA):∃ od,h.get? dx=some od∧∀ name,PySem.W.lookIn name od=some (mA name):=by
 obtain ⟨o,es,ep,ho,hd,hk,_,hm⟩:=n
 refine ⟨o,ho,fun name=>?_⟩
 have e:=hm name
 unfold nsFind findBy at e
 rw [← Array.find?_toList] at e
 unfold PySem.W.lookIn
 rw [hd]
 dsimp only
 split
 ·rename_i y q
  rw [q] at e
  exact congrArg some e
 ·rename_i q
  rw [q] at e
  have a:es.toList.any (·.refKey)=false:=by
   rw [List.any_eq_false]
   intro y hy
   obtain ⟨z,t,Wb⟩:=hk y (Array.mem_toList_iff.mp hy)
   simp [DictEntry.refKey,Wb]
  have a':¬ es.toList.any (·.refKey)=true:=by rw [a];exact Bool.false_ne_true
  rw [if_neg a']
  exact congrArg some e
theorem DR.look {h:Heap} {x dx C:Addr} {mA:Str→Option Value} (I:DR h x dx C mA):∃ od,PySem.W.InstAt h x (PySem.W.instObj C dx) C (some od)∧∀ name,PySem.W.lookIn name od=some (mA name) :=
 let ⟨od,ho,hl⟩:=HC I.ns
 ⟨od,⟨I.obj,rfl,rfl,ho⟩,hl⟩
section
variable {prog:Program} {w:World} {A:Around} {E:Value→Shared→Prop} {s:Shared} {K:PySem.W.Frag} {x dx C f:Addr} {mA:Str→Option Value} {name:Str} {v:Value}
theorem get_map {expr:Bool} {Q:Value→Shared→Prop} (X:K.In s.heap) (I:DR s.heap x dx C mA) (hg:PySem.W.plainGet K C name=true) (hh:PySem.W.hasDictIn K C=true)
  (ha:PySem.W.findIn K (.ref C) name=some none) (hv:mA name=some v) (SK:PySem.W.handedIn v=true) (h:Q v { s with toks:=s.toks+1 }) :
  wpAny (model prog w) A (getAttr (.ref x) name expr) Q E s:=by
 obtain ⟨od,J,hl⟩:=I.look
 exact PySem.W.get_value X J (PySem.W.plainGet_of hg).1 (PySem.W.findObj_own hh ha rfl (by rw [hl,hv])) SK h
theorem JV {pl:Sem Bool} {Q:Value × List Value→Shared→Prop} (X:K.In s.heap) (I:DR s.heap x dx C mA) (hg:PySem.W.plainGet K C name=true)
  (hf:PySem.W.findIn K (.ref C) name=some (some (.ref f))) (ht:PySem.W.isFn K (.ref f)=true) (hv:mA name=none) (h:Q (.ref f,[.ref x]) s) :
  wpAny (model prog w) A (getMethod (.ref x) name pl) Q E s:=by
 obtain ⟨od,J,hl⟩:=I.look
 exact PySem.W.method_fn X J (PySem.W.plainGet_of hg).1 (PySem.W.plainGet_of hg).2 hf (beq_iff_eq.mp ht) (by show (PySem.W.lookIn name od).map (·.isSome)=some false;rw [hl,hv];rfl) h
theorem MA {ns:List Str} {Q:Unit→Shared→Prop} (X:K.In s.heap) (I:DR s.heap x dx C mA)
  (hs:PySem.W.findIn K (.ref C) "__setattr__"=some (some (.builtin "object.__setattr__"))) (hp:PySem.W.plainOver K C=true) (ht:PySem.W.takerIn K C name=some none) (hh:PySem.W.hasDictIn K C=true)
  (hw:PySem.Within mA ns) (pf:ns.length≤sizeLine)
  (h:∀ h',DR h' x dx C (fun y=>if y=name then some v else mA y)→Heap.SameBut dx s.heap h'→Q () { s with heap:=h',toks:=s.toks+2 }) :
  wpAny (model prog w) A (setAttr (.ref x) name v) Q E s:=by
 obtain ⟨od,J,hl⟩:=I.look
 refine PySem.W.set_plain X J hs (PySem.W.osa_open (s:={ s with toks:=s.toks+1 }) (r:=none) X J hp ht fun b=>?_)
 obtain ⟨cd,hc,BK⟩:=PySem.W.any_some hh
 have hx:s.heap.get? x=some ⟨.ref C,some dx,.plain,#[]⟩:=I.obj
 refine wpAny_bind (wpAny_pure (wpAny_bind (wpAny_bind (wpAny_loadPart hx (wpAny_bind (PySem.W.Looks.here (s:={ s with toks:=s.toks+1 }) (PySem.W.looks_clsIn X hc) ?_))))))
 rw [BK]
 refine wpAny_pure (a:=some dx) (wpAny_bind (wpAny_pure (wpAny_bind ?_)))
 refine wpAny_nsSet1 (s:={ s with toks:=s.toks+1 }) I.ns fun h' PY HA=>?_
 obtain ⟨oD,esD,epD,hoD,hdD,hcD⟩:=PY.count (PySem.Within.cons name v hw)
 refine wpAny_bind (wpAny_lookBehind hoD (by rw [hdD];exact pastItsLine_dict (Nat.le_trans hcD (by rw [List.length_cons];omega))) ?_)
 exact wpAny_pure (h _ ⟨(HA.2 _ (Ne.symm I.ne)).trans I.obj,PY,I.ne⟩ HA)
theorem JW {R:Result→Shared→Prop} {vs:List Value} {kw:List (Str × Value)} (X:K.In s.heap) (hm:PySem.W.makesIn K C=true)
  (hi:PySem.W.findIn K (.ref C) "__init__"=some (some (.ref f))) (hf:PySem.W.typeIn K (.ref f)=some (.type "function"))
  (h:codeAny (model prog w) (A.under (.builtin "type.__call__" ⟨.ref C :: vs,kw⟩)) (.call (.ref f) ⟨.ref (s.heap.objs.size+1) :: vs,kw⟩) (PySem.W.InitBack (s.heap.objs.size+1) R)
   { s with heap:=(s.heap.push PySem.W.emptyDict).push (PySem.W.instObj C s.heap.objs.size) }) :
  codeAny (model prog w) A (.call (.ref C) ⟨vs,kw⟩) R s:=by
 obtain ⟨hh,g,d,t,os⟩:=s
 exact PySem.W.make_core (PySem.W.makes_of X hm) (PySem.W.looks_findIn X hi) (fun self=>PySem.W.bind_fn X self hf) (.inl rfl) h
end
def eC (f:Str) (v:V):List (Str × V)→List (Str × V)
 | []=>[(f,v)]
 | (g,x) :: r=>if g=f then (g,v) :: r else (g,x) :: eC f v r
theorem ui (f g:Str) (v:V):∀ fs:List (Str × V),(eC f v fs).lookup g=if g=f then some v else fs.lookup g
 | []=>by
  show List.lookup g [(f,v)]=_
  by_cases h:g=f
  ·have hb:(g == f)=true:=beq_iff_eq.mpr h
   simp only [List.lookup,hb,if_pos h]
  ·have hb:(g == f)=false:=beq_eq_false_iff_ne.mpr h
   simp only [List.lookup,hb,if_neg h]
 | (k,x) :: r=>by
  have ih:=ui f g v r
  rw [show eC f v ((k,x) :: r)=(if k=f then (k,v) :: r else (k,x) :: eC f v r) from rfl]
  by_cases hk:k=f
  ·rw [if_pos hk]
   by_cases h:g=k
   ·have hb:(g == k)=true:=beq_iff_eq.mpr h
    simp only [List.lookup,hb,if_pos (h.trans hk)]
   ·have hb:(g == k)=false:=beq_eq_false_iff_ne.mpr h
    simp only [List.lookup,hb,if_neg (fun e:g=f=>h (e.trans hk.symm))]
  ·rw [if_neg hk]
   by_cases h:g=k
   ·have hb:(g == k)=true:=beq_iff_eq.mpr h
    simp only [List.lookup,hb,if_neg (fun e:g=f=>hk (h.symm.trans e))]
   ·have hb:(g == k)=false:=beq_eq_false_iff_ne.mpr h
    simp only [List.lookup,hb]
    exact ih
theorem tK (f:Str) (v:V):∀ fs:List (Str × V),f ∈ (eC f v fs).map (·.1)∧∀ g,g ∈ fs.map (·.1)→g ∈ (eC f v fs).map (·.1)
 | []=>⟨by simp [eC],fun g h=>by simp at h⟩
 | (k,x) :: r=>by
  obtain ⟨i1,i2⟩:=tK f v r
  rw [show eC f v ((k,x) :: r)=(if k=f then (k,v) :: r else (k,x) :: eC f v r) from rfl]
  by_cases hk:k=f
  ·rw [if_pos hk]
   subst hk
   exact ⟨by simp,fun g h=>by simpa using h⟩
  ·rw [if_neg hk]
   refine ⟨?_,fun g h=>?_⟩
   ·rw [List.map_cons]
    exact List.mem_cons_of_mem _ i1
   ·rw [List.map_cons] at h ⊢
    rcases List.mem_cons.mp h with e | e
    ·exact List.mem_cons.mpr (.inl e)
    ·exact List.mem_cons_of_mem _ (i2 g e)
theorem uj (f:Str) (v:V):∀ fs:List (Str × V),(eC f v fs).length≤fs.length+1
 | []=>by simp [eC]
 | (k,x) :: r=>by
  have ih:=uj f v r
  rw [show eC f v ((k,x) :: r)=(if k=f then (k,v) :: r else (k,x) :: eC f v r) from rfl]
  by_cases hk:k=f
  ·rw [if_pos hk,List.length_cons,List.length_cons];omega
  ·rw [if_neg hk,List.length_cons,List.length_cons];omega
theorem nj.some_of {v:V} {o:Option Value} (r:nj (some v) o):∃ u,o=some u∧RelV v u:=by
 cases o with
 | none=>exact (show False from r).elim
 | some u=>exact ⟨u,rfl,r⟩
theorem nj.none_of {o:Option Value} (r:nj none o):o=none:=by
 cases o with
 | none=>rfl
 | some u=>exact (show False from r).elim
theorem HD {v:V} {u:Value} (r:RelV v u):PySem.W.handedIn u=true:=by
 cases v with
 | cB=>cases (show u=Value.none from r);rfl
 | bl b=>cases (show u=Value.bool b from r);rfl
 | int i=>obtain ⟨t,e⟩:=(show ∃ t,u=Value.int i t from r);cases e;rfl
 | str x=>obtain ⟨t,e⟩:=(show ∃ t,u=Value.str x t from r);cases e;rfl
 | FY b=>obtain ⟨t,e⟩:=(show ∃ t,u=Value.bytes b t from r);cases e;rfl
 | RJ b=>obtain ⟨t,e⟩:=(show ∃ t,u=Value.float b t from r);cases e;rfl
 | ref a=>cases (show u=Value.ref a from r);rfl
 | ty n=>cases (show u=Value.type n from r);rfl
section
variable {P:Program} {w:World} {H H':Hp} {h h':Heap} {a C dx:Addr} {fs Lc:List (Str × V)}
theorem AH (dN:tF P w H h) (e:H a=some (.ins C dx fs)):∃ mA,DR h a dx C mA∧(∀ f,nj (fs.lookup f) (mA f))∧PySem.Within mA (fs.map (·.1))∧fs.length≤1000∧H dx=some (.own a):=by
 obtain ⟨d,z,ne,ob,mA,n,r,q⟩:=(show fV P w H h a (.ins C dx fs) from dN a _ e)
 exact ⟨mA,⟨ob,n,ne⟩,r,q,z,d⟩
end
structure HE (K:PySem.W.Frag) (C:Addr):Prop where
 pg:PySem.W.plainGet K C Str.empty=true
 hd:PySem.W.hasDictIn K C=true
 po:PySem.W.plainOver K C=true
 sa:PySem.W.findIn K (.ref C) "__setattr__"=some (some (.builtin "object.__setattr__"))
theorem HE.get {K:PySem.W.Frag} {C:Addr} (c:HE K C) (f:Str):PySem.W.plainGet K C f=true:=c.pg
def dG (K:PySem.W.Frag) (C:Addr) (f:Str):Prop:=PySem.W.findIn K (.ref C) f=some none
theorem dG.SN {K:PySem.W.Frag} {C:Addr} {f:Str} (n:dG K C f):PySem.W.takerIn K C f=some none:=by
 unfold PySem.W.takerIn
 rw [show PySem.W.findIn K (.ref C) f=some none from n]
 rfl
structure Con (K:PySem.W.Frag) (C:Addr) (f:Str) (v:V) (u:Value):Prop where
 at_:PySem.W.findIn K (.ref C) f=some (some u)
 rel:RelV v u
 get:PySem.W.specialIn K u "__get__"=some none
 cp:PySem.W.copiedNames.contains f=false
structure ny (K:PySem.W.Frag) (C:Addr) (m:Str) (f:Addr):Prop where
 at_:PySem.W.findIn K (.ref C) m=some (some (.ref f))
 fn:PySem.W.isFn K (.ref f)=true
 kp:PySem.W.keepIn K (.ref f)=true
section
variable {X:Cx} {pins:List (Addr × Obj)} {σ:St} {H:Hp} {s:Shared} {a C dx:Addr} {fs:List (Str × V)} {f:Str} {v:V} {A:Around} {E:Value→Shared→Prop}
theorem wG {b:Bool} {Q:Value→Shared→Prop} (I:Inv X pins σ H s) (e:H a=some (.ins C dx fs)) (c:HE X.K C) (n:dG X.K C f) (l:fs.lookup f=some v)
  (h:∀ u s',Inv X pins σ H s'→RelV v u→Q u s'):wpAny (model X.prog X.w) A (getAttr (.ref a) f b) Q E s:=by
 obtain ⟨mA,O,r,_,_,_⟩:=AH I.dN e
 obtain ⟨u,hu,ru⟩:=nj.some_of (v:=v) (o:=mA f) (by rw [← l];exact r f)
 exact get_map I.FZ O (c.get f) c.hd n hu (HD ru) (h u _ (I.tok _) ru)
theorem wH {m:Str} {g:Addr} {pl:Sem Bool} {Q:Value × List Value→Shared→Prop} (I:Inv X pins σ H s) (e:H a=some (.ins C dx fs)) (c:HE X.K C) (k:ny X.K C m g) (l:fs.lookup m=none)
  (h:Q (.ref g,[.ref a]) s):wpAny (model X.prog X.w) A (getMethod (.ref a) m pl) Q E s:=by
 obtain ⟨mA,O,r,_,_,_⟩:=AH I.dN e
 have hn:mA m=none:=nj.none_of (by rw [← l];exact r m)
 exact JV I.FZ O (c.get m) k.at_ k.fn hn h
theorem wI {y:V} {u:Value} {Q:Unit→Shared→Prop} (I:Inv X pins σ H s) (e:H a=some (.ins C dx fs)) (c:HE X.K C) (n:dG X.K C f) (hl:fs.length < 1000) (ry:RelV y u)
  (h:∀ s',Inv X pins σ (upd H a (.ins C dx (eC f y fs))) s'→Q () s'):wpAny (model X.prog X.w) A (setAttr (.ref a) f u) Q E s:=by
 obtain ⟨mA,O,r,wi,_,ho⟩:=AH I.dN e
 have hz:(fs.map (·.1)).length≤sizeLine:=by rw [List.length_map,sizeLine_eq];omega
 refine MA I.FZ O c.sa c.po n.SN c.hd wi hz fun h' O' sb=>h _ ?_
 have hd:∃ o,h'.get? dx=some o:=let ⟨o,_,_,e',_⟩:=O'.ns;⟨o,e'⟩
 refine I.write (x:=a) (e:=dx) (by rw [e];exact True.intro) (.inr ho) (fun b q hb z=>(sb.2 b hb).trans z) hd ?_
 refine ⟨by rw [aH O.ne];exact ho,?_,O.ne,O'.obj,_,O'.ns,fun g=>?_,fun g hg=>?_⟩
 ·have:=uj f y fs;omega
 ·show nj ((eC f y fs).lookup g) (if g=f then some u else mA g)
  rw [ui]
  by_cases q:g=f
  ·rw [if_pos q,if_pos q];exact ry
  ·rw [if_neg q,if_neg q];exact r g
 ·by_cases q:g=f
  ·rw [q];exact (tK f y fs).1
  ·refine (tK f y fs).2 g (wi g fun z=>hg ?_)
   show (if g=f then some u else mA g)=none
   rw [if_neg q];exact z
theorem Inv.made (I:Inv X pins σ H s):Inv X pins σ (upd (upd H s.heap.objs.size (.own (s.heap.objs.size+1))) (s.heap.objs.size+1) (.ins C s.heap.objs.size []))
  { s with heap:=(s.heap.push PySem.W.emptyDict).push (PySem.W.instObj C s.heap.objs.size) }:=by
 have e1:(s.heap.push PySem.W.emptyDict).get? s.heap.objs.size=some PySem.W.emptyDict:=Heap.get?_push_size s.heap rfl
 have e2:((s.heap.push PySem.W.emptyDict).push (PySem.W.instObj C s.heap.objs.size)).get? (s.heap.objs.size+1)=some (PySem.W.instObj C s.heap.objs.size):=by
  have:=Heap.get?_push_size (s.heap.push PySem.W.emptyDict) (o:=PySem.W.instObj C s.heap.objs.size) rfl
  rwa [Heap.size_push] at this
 have e3:(s.heap.push PySem.W.emptyDict).Ns s.heap.objs.size (fun _=>none):=⟨PySem.W.emptyDict,#[],_,e1,rfl,(fun e he=>absurd he (by simp)),fun _=>rfl⟩
 have I1:=I.laid (a:=s.heap.objs.size) (o:=.own (s.heap.objs.size+1)) (h':=s.heap.push PySem.W.emptyDict) (t':=s.toks) (fun b u q=>Heap.get?_push_of_some _ q) (Nat.le_refl _) ⟨_,e1⟩
 refine I1.laid (a:=s.heap.objs.size+1) (o:=.ins C s.heap.objs.size []) (t':=s.toks) (fun b u q=>Heap.get?_push_of_some _ q) (Nat.le_of_eq (Heap.size_push _ _)) ?_
 have ne:s.heap.objs.size≠s.heap.objs.size+1:=Nat.ne_of_lt (Nat.lt_succ_self _)
 refine ⟨by rw [aH ne,aD],Nat.zero_le _,ne,e2,fun _=>none,(Heap.Ns1.of_empty e3).at fun o q=>Heap.get?_push_of_some _ q,fun _=>True.intro,fun y hy=>absurd rfl hy⟩
theorem MB {prog:Program} {w:World} {env:Env} {e:Expr} {f:Str} {pos:Pos} {s:Shared} {Q:Value→Shared→Prop} (hb:attributeBase e f env (eval e env)=eval e env)
  (h:wpAny (model prog w) A (eval e env) (fun o s₁=>wpAny (model prog w) A (getAttr o f true) Q E s₁) E s):wpAny (model prog w) A (eval (.Attribute e f pos) env) Q E s :=
 Attribute_any_ h (by rw [arm_eval_Attribute,hb])
end
def DT (K:PySem.W.Frag) (ta:TE) (f:Str):TE:=fun σ H Q=>ta σ H fun x H1=>∃ a C dx fs v,x=.ref a∧H1 a=some (.ins C dx fs)∧HE K C∧dG K C f∧fs.lookup f=some v∧Q v H1
def JX (K:PySem.W.Frag) (ta tv:TE) (f:Str):TS:=fun D σ H=>tv σ H fun y H1=>ta σ H1 fun x H2=>∃ a C dx fs,x=.ref a∧H2 a=some (.ins C dx fs)∧HE K C∧dG K C f∧fs.length < 1000 ∧
 D.nx σ (upd H2 a (.ins C dx (eC f y fs)))
def Wc (X:Cx) (op:Operator) (rd:V→V→Hp→VK→Prop):Prop :=
 ∀ (pins:List (Addr × Obj)) (s:Shared) (σ:St) (H:Hp) (x y:V) (u v:Value) (Q:VK),Inv X pins σ H s→RelV x u→RelV y v→rd x y H Q→wpAny (model X.prog X.w) X.A (inplaceOp op u v) (EP X pins σ Q) X.xe s
def AI (K:PySem.W.Frag) (ta tv:TE) (rd:V→V→Hp→VK→Prop) (f:Str):TS:=fun D σ H=>ta σ H fun x H1=>∃ a C dx fs v,x=.ref a∧H1 a=some (.ins C dx fs)∧HE K C∧dG K C f∧fs.lookup f=some v ∧
 tv σ H1 fun y H2=>rd v y H2 fun z H3=>∃ Wd Lc,H3 a=some (.ins C Wd Lc)∧Lc.length < 1000∧D.nx σ (upd H3 a (.ins C Wd (eC f z Lc)))
section
variable {X:Cx} {o e value:Expr} {f:Str} {pos pos' AJ:Pos} {ta tv:TE}
theorem PZ (he:PE X e ta) (hb:attributeBase e f X.env (eval e X.env)=eval e X.env):PE X (.Attribute e f pos) (DT X.K ta f):=by
 intro pins s σ H Q I h
 refine MB hb (cb (he pins s σ H _ I h) fun u s1 ⟨x,H1,I1,rx,a,C,dx,fs,v,ex,ea,c,n,l,q⟩=>?_)
 subst ex
 obtain rfl:u=Value.ref a:=rx
 exact wG I1 ea c n l fun u' s2 I2 ru=>⟨v,H1,I2,ru,q⟩
theorem Pa (ha:PE X o ta) (hv:PE X value tv) (hs:swapsWith value (some (.Attribute o f pos')) pos.line X.env=pure false):PS X (.Assign [.Attribute o f pos'] value pos) (JX X.K ta tv f):=by
 intro pins s σ H D I h
 refine plainObj_wpAny_Assign_Attribute (cb (hv pins s σ H _ I h) fun u s1 ⟨y,H1,I1,ry,q⟩=>cb (ha pins s1 σ H1 _ I1 q) fun ov s2 ⟨x,H2,I2,rx,a,C,dx,fs,ex,ea,c,n,l,q2⟩=>?_) hs
 subst ex
 obtain rfl:ov=Value.ref a:=rx
 exact wI I2 ea c n l ry fun s3 I3=>⟨σ,_,I3,q2⟩
theorem zK {op:Operator} {rd:V→V→Hp→VK→Prop} (ha:PE X o ta) (hv:PE X value tv) (hop:Wc X op rd):PS X (.AugAssign (.Attribute o f AJ) op value pos) (AI X.K ta tv rd f):=by
 intro pins s σ H D I h
 refine wpAny_AugAssign_AttributeAny (cb (ha pins s σ H _ I h) fun ov s1 ⟨x,H1,I1,rx,a,C,dx,fs,v,ex,ea,c,n,l,q⟩=>?_)
 subst ex
 obtain rfl:ov=Value.ref a:=rx
 refine wG I1 ea c n l fun u s2 I2 ru=>cb (hv pins s2 σ H1 _ I2 q) fun w3 s3 ⟨y,H2,I3,ry,q3⟩=>cb (hop pins s3 σ H2 v y u w3 _ I3 ru ry q3) fun w4 s4 ⟨z,H3,I4,rz,Wd,Lc,ea',l',q4⟩=>?_
 exact wI I4 ea' c n l' rz fun s5 I5=>⟨σ,_,I5,q4⟩
end
section
variable {X:Cx} {pins:List (Addr × Obj)} {σ:St} {H:Hp} {s:Shared} {A:Around} {E:Value→Shared→Prop} {Q:Value→Shared→Prop} {c:Value} {b:Bool}
inductive vI (K:PySem.W.Frag) (H:Hp):V→Value→Prop where
 | cB:vI K H .cB (.type "NoneType")
 | bl (x:Bool):vI K H (.bl x) (.type "bool")
 | int (i:Int):vI K H (.int i) (.type "int")
 | str (x:Str):vI K H (.str x) (.type "str")
 | RJ (x:UInt64):vI K H (.RJ x) (.type "float")
 | lst {a:Addr} {xs:List V} (e:H a=some (.lst xs)):vI K H (.ref a) (.type "list")
 | AA {a:Addr} {o:Obj} {xs:List V} (e:H a=some (.AA o (.lst xs))):vI K H (.ref a) (.type "list")
 | tup {a:Addr} {xs:List V} (e:H a=some (.tup xs)):vI K H (.ref a) (.type "tuple")
 | dK {a:Addr} {bU:List (Key × V)} (e:H a=some (.dK bU)):vI K H (.ref a) (.type "dict")
 | dT {a:Addr} {bU:List (List Key × V)} (e:H a=some (.dT bU)):vI K H (.ref a) (.type "dict")
 | ins {a C dx:Addr} {fs:List (Str × V)} (e:H a=some (.ins C dx fs)) (cl:HE K C) (ha:PySem.W.findIn K (.ref C) "__class__"=some (some (.builtin "object.__class__")))
   (hn:PySem.W.specialIn K (.builtin "object.__class__") "__get__"=some (some (.builtin "getset_descriptor.__get__"))) (OK:PySem.W.takesIn K (.builtin "object.__class__")=some true)
   (hm:PySem.W.mroIn K C (.type "object")=some true):vI K H (.ref a) (.ref C)
end
end L2
namespace L2
open PySem PySem.Spec PyProof.Rows
structure eE (k:Nat) (A:Around):Prop where
 hd:A.handled=none
 dp:A.depth+3 * k+5 < recursionLimit
 un:A.units+16 * k+200 < cLine
theorem eE.mono {j k:Nat} {A:Around} (r:eE k A) (h:j≤k):eE j A:=⟨r.hd,by have:=r.dp;omega,by have:=r.un;omega⟩
theorem eE.deeper {k:Nat} {A:Around} (r:eE (k+1) A) (env:Env):eE k (A.deeper env) :=
 ⟨r.hd,by have:=r.dp;show A.depth+1+3 * k+5 < _;omega,by have:=r.un;show A.units+3+16 * k+200 < _;omega⟩
theorem eE.in1 {k:Nat} {A:Around} (r:eE (k+1) A):eE k A.in1 :=
 ⟨r.hd,by have:=r.dp;show A.depth+3 * k+5 < _;omega,by have:=r.un;show A.units+1+16 * k+200 < _;omega⟩
theorem DU {A:Around} {C:Addr} {us:List Value} {kw:List (Str × Value)}:(A.under (.builtin "type.__call__" ⟨.ref C :: us,kw⟩)).depth=A.depth+1:=by
 first | rfl | simp [Around.under,Code.weight,Code.isCreation,Code.isGuard,Code.isCaller,Code.frames,Code.isFrame,guardIds]
theorem DV {A:Around} {C:Addr} {us:List Value} {kw:List (Str × Value)}:(A.under (.builtin "type.__call__" ⟨.ref C :: us,kw⟩)).units=A.units+1:=by
 first | rfl | simp [Around.under,Code.cUnits,Code.frames,Code.isFrame]
theorem eE.make {k:Nat} {A:Around} (r:eE (k+1) A) (C:Addr) (us:List Value) (kw:List (Str × Value)):eE k (A.under (.builtin "type.__call__" ⟨.ref C :: us,kw⟩)) :=
 ⟨r.hd,by have:=r.dp;rw [DU];omega,by have:=r.un;rw [DV];omega⟩
theorem eE.depth {k:Nat} {A:Around} (r:eE k A):A.depth < recursionLimit:=by have:=r.dp;omega
theorem eE.units {k:Nat} {A:Around} (r:eE k A):A.units+64 < cLine:=by have:=r.un;omega
def DW:TA:=fun _ H Q=>Q [] H
def uk (ta:TE) (tr:TA):TA:=fun σ H Q=>ta σ H fun x H1=>tr σ H1 fun xs H2=>Q (x :: xs) H2
section
variable {X:Cx} {e:Expr} {es:List Expr} {te:TE} {t:TA} {pos:Pos}
theorem aF:PA X [] DW:=fun _ _ _ _ H Q I h=>Calls.spliced_nil ⟨[],H,I,.nil,h⟩
theorem aC (ha:PE X e te) (hr:PA X es t) (hs:starEach (e :: es) X.env=(false,eval e X.env) :: starEach es X.env:=by rfl):PA X (e :: es) (uk te t):=by
 intro pos pins s σ H Q I h
 rw [hs]
 show wpAny _ _ (spliced ((false,eval e X.env) :: backTo pos (starEach es X.env))) _ _ s
 refine Calls.spliced_cons (cb (ha pins s σ H _ I h) fun u s1 ⟨x,H1,I1,r1,q1⟩=>?_)
 exact cb (hr pos pins s1 σ H1 _ I1 q1) fun us s2 ⟨xs,H2,I2,r2,q2⟩=>⟨x :: xs,H2,I2,.cons r1 r2,q2⟩
def Pb (t:TA):TE:=fun σ H Q=>t σ H fun xs H1=>xs.length≤sizeLine∧∀ p,H1 p=none→Q (.ref p) (upd H1 p (.tup xs))
def SO (t:TA):TE:=fun σ H Q=>t σ H fun xs H1=>xs.length≤sizeLine∧∀ p,H1 p=none→Q (.ref p) (upd H1 p (.lst xs))
theorem bK {x1} (h:PA X es t):PE X (.Tuple es x1 pos) (Pb t):=by
 intro pins s σ H Q I hq
 refine wpAny_Tuple_spliced (cb (h pos pins s σ H _ I hq) fun us s1 ⟨xs,H1,I1,r,z,q⟩=>⟨by rw [← r.length];exact z,?_⟩)
 have hf:H1 s1.heap.objs.size=none:=I1.dN.fresh (Nat.le_refl _)
 refine ⟨.ref s1.heap.objs.size,upd H1 s1.heap.objs.size (.tup xs),I1.laid (t':=s1.toks) (fun b u e=>Heap.get?_push_of_some _ e) (Nat.le_refl _) ?_,rfl,q _ hf⟩
 exact ⟨z,us,r,⟨_,Heap.get?_push_size _ rfl,rfl,_,rfl⟩⟩
theorem bI (h:PA X es t):PE X (.List es pos) (SO t):=by
 intro pins s σ H Q I hq
 refine wpAny_List_spliced (cb (h pos pins s σ H _ I hq) fun us s1 ⟨xs,H1,I1,r,z,q⟩=>⟨by rw [← r.length];exact z,?_⟩)
 have hf:H1 s1.heap.objs.size=none:=I1.dN.fresh (Nat.le_refl _)
 refine ⟨.ref s1.heap.objs.size,upd H1 s1.heap.objs.size (.lst xs),I1.laid (t':=s1.toks) (fun b u e=>Heap.get?_push_of_some _ e) (Nat.le_refl _) ?_,rfl,q _ hf⟩
 exact ⟨z,us,0,r,Heap.get?_push_size _ rfl⟩
end
abbrev Sp:=List V→Hp→VK→XK→Prop
abbrev Bi:=List Env→Hp→Shared→XK→Value→Shared→Prop
structure yD (P:Program) (w:World) (K:PySem.W.Frag) (mg:Str→Option Value) (base:Heap) (A:Around) (outer:List Env) (s:Shared) (H:Hp):Prop where
 frames:A.frames=some outer
 mod:Mod K mg base
 bs:∀ b o,base.get? b=some o→s.heap.get? b=some o∧H b=none
 JJ:base.objs.size≤s.heap.objs.size
 tG:s.heap.FunFrames base outer
 OF:∀ b ∈ pM outer,H b=none
 dN:tF P w H s.heap
 bare:AllBare s.gens
def CE (outer:List Env) (P:Program) (w:World) (H:Hp) (s:Shared) (Q:VK) (u:Value) (s':Shared):Prop :=
 ∃ v H',s'.os=s.os∧AllBare s'.gens∧Un (pM outer) [] H H' s.heap s'.heap∧tF P w H' s'.heap∧RelV v u∧Q v H'
def CR (CX:Bi) (outer:List Env) (P:Program) (w:World) (H:Hp) (s:Shared) (Q:VK) (E:XK) (r:Result) (s':Shared):Prop :=
 match r with
 | .ok (.ret u)=>CE outer P w H s Q u s'
 | .ok _=>False
 | .error e=>CX outer H s E e s'
structure bz (P:Program) (w:World) (K:PySem.W.Frag) (mg:Str→Option Value) (base:Heap) (CX:Bi) (k:Nat) (f:Addr) (fd:FuncData) (ps:List Str) (sp:Sp):Prop where
 len:∀ vs H Q E,sp vs H Q E→vs.length=ps.length
 run:∀ (A:Around) (outer:List Env) (s:Shared) (H:Hp) (args:Args) (us:List Value) (vs:List V) (Q:VK) (E:XK),eE k A→yD P w K mg base A outer s H→BindsTo s fd args (ps.zip us)→a9 vs us→sp vs H Q E →
  codeAny (model P w) A (.call (.ref f) args) (CR CX outer P w H s Q E) s
theorem bz.mono {P:Program} {w:World} {K:PySem.W.Frag} {mg:Str→Option Value} {base:Heap} {CX:Bi} {j k:Nat} {f:Addr} {fd:FuncData} {ps:List Str} {sp:Sp} (F:bz P w K mg base CX j f fd ps sp) (h:j≤k) :
  bz P w K mg base CX k f fd ps sp:=⟨F.len,fun A outer s H args us vs Q E hr=>F.run A outer s H args us vs Q E (hr.mono h)⟩
theorem bz.imp {P:Program} {w:World} {K:PySem.W.Frag} {mg:Str→Option Value} {base:Heap} {CX:Bi} {k:Nat} {f:Addr} {fd:FuncData} {ps:List Str} {sp ZO:Sp} (F:bz P w K mg base CX k f fd ps sp)
  (h:∀ vs H Q E,ZO vs H Q E→sp vs H Q E):bz P w K mg base CX k f fd ps ZO :=
 ⟨fun vs H Q E q=>F.len vs H Q E (h _ _ _ _ q),fun A outer s H args us vs Q E hr he hb hv hs=>F.run A outer s H args us vs Q E hr he hb hv (h _ _ _ _ hs)⟩
theorem yD.make {P:Program} {w:World} {K:PySem.W.Frag} {mg:Str→Option Value} {base:Heap} {A:Around} {outer:List Env} {s:Shared} {H:Hp} (e:yD P w K mg base A outer s H) (C:Addr) (us:List Value) (kw:List (Str × Value)) :
  yD P w K mg base (A.under (.builtin "type.__call__" ⟨.ref C :: us,kw⟩)) outer s H:=⟨by first | exact e.frames | (simpa [Around.under,Code.envs,Code.isFrame,pushEnvs] using e.frames),e.mod,e.bs,e.JJ,e.tG,e.OF,e.dN,e.bare⟩
theorem yD.in1 {P:Program} {w:World} {K:PySem.W.Frag} {mg:Str→Option Value} {base:Heap} {A:Around} {outer:List Env} {s:Shared} {H:Hp} (e:yD P w K mg base A outer s H) :
  yD P w K mg base A.in1 outer s H:=⟨e.frames,e.mod,e.bs,e.JJ,e.tG,e.OF,e.dN,e.bare⟩
section
variable {X:Cx} {pins:List (Addr × Obj)} {σ:St} {H:Hp} {s s':Shared}
theorem Inv.SQ (I:Inv X pins σ H s):yD X.prog X.w X.K X.mg X.base X.A X.stack s H :=
 ⟨I.ok.frames,I.ok.mod,I.bs,Nat.le_trans I.ok.JJ I.sz,I.stack,I.AD,I.dN,I.bare⟩
theorem Inv.after {Q:VK} {u:Value} (I:Inv X pins σ H s) (h:CE X.stack X.prog X.w H s Q u s'):EP X pins σ Q u s':=by
 obtain ⟨v,H',os,bare,un,dN,r,q⟩:=h
 obtain ⟨hh,g,d,t,os'⟩:=s'
 obtain rfl:os'=s.os:=os
 exact ⟨v,H',I.call (h':=hh) (g':=g) (d':=d) (t':=t) (ch:=[]) un dN bare (fun b z=>absurd z (by simp)),r,q⟩
end
def OL (sp:Sp) (yB:List V) (E:XK) (t:TA):TE:=fun σ H Q=>t σ H fun vs H1=>sp (vs ++ yB) H1 Q E
def Fm (C:Addr) (m:Str) (sp:Sp) (yB:List V) (E:XK) (ta:TE) (t:TA):TE:=fun σ H Q=>ta σ H fun x H1=>∃ a dx fs,x=.ref a∧H1 a=some (.ins C dx fs)∧fs.lookup m=none ∧
 t σ H1 fun vs H2=>sp (x :: (vs ++ yB)) H2 Q E
def SR (C:Addr) (sp:Sp) (yB:List V) (E:XK) (t:TA):TE:=fun σ H Q=>t σ H fun vs H1=>∀ x dx,H1 x=none→H1 dx=none→dx≠x →
 sp (.ref x :: (vs ++ yB)) (upd (upd H1 dx (.own x)) x (.ins C dx [])) (fun v H2=>v=.cB∧Q (.ref x) H2) E
def Binds (K:PySem.W.Frag) (fd:FuncData) (ps:List Str) (ds:List Value):Prop :=
 ∀ (s:Shared) (us:List Value),K.In s.heap→(us ++ ds).length=ps.length→BindsTo s fd ⟨us,[]⟩ (ps.zip (us ++ ds))
theorem Binds.all {K:PySem.W.Frag} {fd:FuncData} {ps:List Str} (h:∀ us:List Value,us.length=ps.length→bindArgs fd ⟨us,[]⟩=pure (ps.zip us)):Binds K fd ps []:=fun s us _ hl=>by
 rw [List.append_nil] at hl ⊢
 exact .of_eq (h us hl)
def l4 (CX:Bi) (X:Cx) (E:XK):Prop:=∀ (pins:List (Addr × Obj)) (σ:St) (H:Hp) (s:Shared) (e:Value) (s':Shared),Inv X pins σ H s→CX X.stack H s E e s'→X.xe e s'
section
variable {X:Cx} {CX:Bi} {k:Nat} {f C:Addr} {fd:FuncData} {ps:List Str} {sp:Sp} {yB:List V} {ds:List Value} {E:XK} {x m:Str} {p pos apos:Pos} {e o:Expr} {es:List Expr} {ta:TE} {t:TA}
theorem DX {pins:List (Addr × Obj)} {σ:St} {H:Hp} {s:Shared} {Q:VK} {us:List Value} {vs:List V} (F:bz X.prog X.w X.K X.mg X.base CX k f fd ps sp) (hr:eE k X.A) (hb:Binds X.K fd ps ds) (hd:a9 yB ds) (hx:l4 CX X E)
  (I:Inv X pins σ H s) (r:a9 vs us) (h:sp (vs ++ yB) H Q E):wpAny (model X.prog X.w) X.A (call (.ref f) us) (EP X pins σ Q) X.xe s:=by
 have r2:a9 (vs ++ yB) (us ++ ds):=r.append hd
 have hl:(us ++ ds).length=ps.length:=by rw [← r2.length];exact F.len _ _ _ _ h
 refine wpAny_call (codeAny_mono (F.run X.A X.stack s H ⟨us,[]⟩ (us ++ ds) (vs ++ yB) Q E hr I.SQ (hb s us I.FZ hl) r2 h) fun r s' hq=>?_)
 cases r with
 | error e=>exact hx pins σ H s e s' I hq
 | ok fl =>
  cases fl with
  | ret u=>exact I.after hq
  | next=>exact False.elim hq
  | brk=>exact False.elim hq
  | cont=>exact False.elim hq
theorem MC (F:bz X.prog X.w X.K X.mg X.base CX k f fd ps sp) (hr:eE k X.A) (hg:Gl X x) (hm:X.mg x=some (.ref f)) (hk:PySem.W.keepIn X.K (.ref f)=true) (hb:Binds X.K fd ps ds) (hd:a9 yB ds) (hx:l4 CX X E)
  (ha:PA X (e :: es) t) (JY:(x == ("__debug__":Str))=false:=by decide) (he:starEach (e :: es) X.env=(false,eval e X.env) :: starEach es X.env:=by rfl) (pj:(backTo pos (starEach es X.env)).any (·.1)=false:=by rfl) :
  PE X (.Call (.Name x p) (e :: es) [] pos) (OL sp yB E t):=by
 intro pins s σ H Q I h
 refine wpAny_Call_Name_kw (vd I hg hm ?_ JY)
 refine PySem.W.callWith_K (h₀:=X.base) I.ok.mod.RL hk (cb (ha pos pins s σ H _ I h) fun us s1 ⟨vs,H1,I1,r,q⟩=>⟨I1.FZ,?_⟩) he pj
 exact DX F hr hb hd hx I1 r q
theorem pO {pl:Sem Bool} (he:PE X o ta) (c:HE X.K C) (hm:ny X.K C m f) (F:bz X.prog X.w X.K X.mg X.base CX k f fd ps sp) (hr:eE k X.A) (hb:Binds X.K fd ps ds) (hd:a9 yB ds) (hx:l4 CX X E) (ha:PA X (e :: es) t)
  (DM:starEach (e :: es) X.env=(false,eval e X.env) :: starEach es X.env:=by rfl) (pj:(backTo pos (starEach es X.env)).any (·.1)=false:=by rfl)
  (ht:eval (.Call (.Attribute o m apos) (e :: es) [] pos) X.env=(do
   let ov ← eval o X.env
   standAt apos.atName
   let (f,first) ← holding [ov] (getMethod ov m pl)
   callWith pos f first (backTo pos (starEach (e :: es) X.env)) (backToKw pos (keywordEach [] X.env))):=by rfl) :
  PE X (.Call (.Attribute o m apos) (e :: es) [] pos) (Fm C m sp yB E ta t):=by
 intro pins s σ H Q I h
 refine PySem.W.methodCall_KW (pl:=pl) (cb (he pins s σ H _ I h) fun u s1 ⟨x,H1,I1,rx,a,dx,fs,ex,ea,l,q⟩=>?_) ht
 subst ex
 obtain rfl:u=Value.ref a:=rx
 refine wH I1 ea c hm l ?_
 refine PySem.W.callWith_K (first:=[.ref a]) (h₀:=X.base) I.ok.mod.RL hm.kp (cb (ha pos pins s1 σ H1 _ I1 q) fun us s2 ⟨vs,H2,I2,r,q2⟩=>⟨I2.FZ,?_⟩) DM pj
 exact DX (us:=.ref a :: us) (vs:=.ref a :: vs) F hr hb hd hx I2 (.cons rfl r) q2
theorem cj {pl:Sem Bool} (he:PE X o ta) (c:HE X.K C) (hm:ny X.K C m f) (F:bz X.prog X.w X.K X.mg X.base CX k f fd ps sp) (hr:eE k X.A) (hb:Binds X.K fd ps ds) (hd:a9 yB ds) (hx:l4 CX X E)
  (ht:eval (.Call (.Attribute o m apos) [] [] pos) X.env=(do
   let ov ← eval o X.env
   standAt apos.atName
   let (f,first) ← holding [ov] (getMethod ov m pl)
   callWith pos f first (backTo pos (starEach [] X.env)) (backToKw pos (keywordEach [] X.env))):=by rfl) :
  PE X (.Call (.Attribute o m apos) [] [] pos) (Fm C m sp yB E ta DW):=by
 intro pins s σ H Q I h
 refine PySem.W.methodCall_KW (pl:=pl) (cb (he pins s σ H _ I h) fun u s1 ⟨x,H1,I1,rx,a,dx,fs,ex,ea,l,q⟩=>?_) ht
 subst ex
 obtain rfl:u=Value.ref a:=rx
 refine wH I1 ea c hm l ?_
 exact PySem.W.callWith_K0 (first:=[.ref a]) I1.FZ hm.kp (DX (us:=[.ref a]) (vs:=[.ref a]) F hr hb hd hx I1 (.cons rfl .nil) q)
structure Mk (K:PySem.W.Frag) (C f:Addr):Prop where
 makes:PySem.W.makesIn K C=true
 init:PySem.W.findIn K (.ref C) "__init__"=some (some (.ref f))
 fn:PySem.W.isFn K (.ref f)=true
 kp:PySem.W.keepIn K (.ref C)=true
theorem JZ {pins:List (Addr × Obj)} {σ:St} {H:Hp} {s:Shared} {Q:VK} {us:List Value} {vs:List V} (M:Mk X.K C f) (F:bz X.prog X.w X.K X.mg X.base CX k f fd ps sp) (hr:eE (k+1) X.A) (hb:Binds X.K fd ps ds) (hd:a9 yB ds)
  (hx:l4 CX X E) (I:Inv X pins σ H s) (r:a9 vs us)
  (h:∀ x dx,H x=none→H dx=none→dx≠x→sp (.ref x :: (vs ++ yB)) (upd (upd H dx (.own x)) x (.ins C dx [])) (fun v H2=>v=.cB∧Q (.ref x) H2) E) :
  wpAny (model X.prog X.w) X.A (call (.ref C) us) (EP X pins σ Q) X.xe s:=by
 have hq:=h (s.heap.objs.size+1) s.heap.objs.size (I.dN.fresh (Nat.le_succ _)) (I.dN.fresh (Nat.le_refl _)) (Nat.ne_of_lt (Nat.lt_succ_self _))
 have I2:=Inv.made (C:=C) I
 have r2:a9 (V.ref (s.heap.objs.size+1) :: (vs ++ yB)) (Value.ref (s.heap.objs.size+1) :: (us ++ ds)):=.cons rfl (r.append hd)
 have hl:(Value.ref (s.heap.objs.size+1) :: us ++ ds).length=ps.length:=by
  have e:=r2.length
  rw [F.len _ _ _ _ hq] at e
  exact e.symm
 refine wpAny_call (JW (f:=f) I.FZ M.makes M.init (beq_iff_eq.mp M.fn) (codeAny_mono (F.run _ X.stack _ _ ⟨Value.ref (s.heap.objs.size+1) :: us,[]⟩ (Value.ref (s.heap.objs.size+1) :: (us ++ ds)) _ _ E (hr.make C us [])
  (I2.SQ.make C us []) (hb _ (Value.ref (s.heap.objs.size+1) :: us) I2.FZ hl) r2 hq) fun r s' Pc=>?_))
 cases r with
 | error e=>exact hx pins σ _ _ e s' I2 Pc
 | ok fl =>
  cases fl with
  | ret u =>
   obtain ⟨v,H',I3,rv,ev,q3⟩:=I2.after Pc
   subst ev
   exact ⟨rv,⟨V.ref (s.heap.objs.size+1),H',I3,rfl,q3⟩⟩
  | next=>exact False.elim Pc
  | brk=>exact False.elim Pc
  | cont=>exact False.elim Pc
theorem Fn (M:Mk X.K C f) (F:bz X.prog X.w X.K X.mg X.base CX k f fd ps sp) (hr:eE (k+1) X.A) (hg:Gl X x) (hm:X.mg x=some (.ref C)) (hb:Binds X.K fd ps ds) (hd:a9 yB ds) (hx:l4 CX X E)
  (ha:PA X (e :: es) t) (JY:(x == ("__debug__":Str))=false:=by decide) (he:starEach (e :: es) X.env=(false,eval e X.env) :: starEach es X.env:=by rfl) (pj:(backTo pos (starEach es X.env)).any (·.1)=false:=by rfl) :
  PE X (.Call (.Name x p) (e :: es) [] pos) (SR C sp yB E t):=by
 intro pins s σ H Q I h
 refine wpAny_Call_Name_kw (vd I hg hm ?_ JY)
 refine PySem.W.callWith_K (h₀:=X.base) I.ok.mod.RL M.kp (cb (ha pos pins s σ H _ I h) fun us s1 ⟨vs,H1,I1,r,q⟩=>⟨I1.FZ,?_⟩) he pj
 exact JZ M F hr hb hd hx I1 r q
end
section
variable {X:Cx} {CX:Bi} {k:Nat} {f C:Addr} {fd:FuncData} {ps ks:List Str} {sp:Sp} {E:XK} {x m:Str} {p pos apos We:Pos} {e o:Expr} {es:List Expr} {kws:List Keyword} {te ta:TE} {t tk:TA} {nm:Option Str}
structure Wf (K:PySem.W.Frag) (fd:FuncData) (ps ks:List Str) (g:List Value→List Value→List Value) (gV:List V→List V→List V):Prop where
 to:∀ (s:Shared) (us ws:List Value),K.In s.heap→(g us ws).length=ps.length→BindsTo s fd ⟨us,ks.zip ws⟩ (ps.zip (g us ws))
 rel:∀ {vs:List V} {us:List Value} {zs:List V} {ws:List Value},a9 vs us→a9 zs ws→a9 (gV vs zs) (g us ws)
variable {g:List Value→List Value→List Value} {gV:List V→List V→List V}
end
structure aV (N P:List Str) (sc:Scope):Prop where
 kind:sc.kind=.function
 co:sc.isCoroutine=false
 gen:sc.isGenerator=false
 nd:N.Nodup
 pre:N.take P.length=P
 par:∀ x ∈ P,sc.names.lookup x=some .local∨sc.names.lookup x=some .cell
 Pd:∀ y ∈ sc.names,y.2≠.free
theorem zL {kindOf:Str→Option NameKind} {x:Str}:∀ {binds:List (Str × Value)} {m:Str→Option Value},(∀ v,(x,v) ∉ binds)→bindL kindOf binds m x=m x
 | [],_,_=>rfl
 | (n,v) :: r,m,h=>by
  unfold bindL
  rw [zL fun w hw=>h w (List.mem_cons_of_mem _ hw)]
  split
  ·have:x≠n:=by rintro rfl;exact h v List.mem_cons_self
   simp [this]
  ·rfl
theorem zM {kindOf:Str→Option NameKind} {x:Str}:∀ {binds:List (Str × Value)} {m:Str→Option Value},(∀ v,(x,v) ∉ binds)→bindC kindOf binds m x=m x
 | [],_,_=>rfl
 | (n,v) :: r,m,h=>by
  unfold bindC
  rw [zM fun w hw=>h w (List.mem_cons_of_mem _ hw)]
  split
  ·rfl
  ·have:x≠n:=by rintro rfl;exact h v List.mem_cons_self
   simp [this]
theorem zN {kindOf:Str→Option NameKind} {x:Str} {v:Value}:∀ {P:List Str} {vs:List Value} {i:Nat} {m:Str→Option Value},P.Nodup→P[i]?=some x→vs[i]?=some v→kindOf x=some .local →
  bindL kindOf (P.zip vs) m x=some v
 | [],_,_,_,_,h,_,_=>by simp at h
 | _ :: _,[],_,_,_,_,h,_=>by simp at h
 | p :: P,w :: vs,0,m,nd,h1,h2,hk=>by
  simp at h1 h2;subst h1;subst h2
  show bindL kindOf ((p,w) :: P.zip vs) m p=_
  unfold bindL
  rw [zL fun v hv=>(List.nodup_cons.mp nd).1 (List.of_mem_zip hv).1,if_pos hk]
  simp
 | p :: P,w :: vs,i+1,m,nd,h1,h2,hk=>by
  show bindL kindOf ((p,w) :: P.zip vs) m x=_
  unfold bindL
  exact zN (i:=i) (List.nodup_cons.mp nd).2 (by simpa using h1) (by simpa using h2) hk
theorem zO {kindOf:Str→Option NameKind} {x:Str} {v:Value}:∀ {P:List Str} {vs:List Value} {i:Nat} {m:Str→Option Value},P.Nodup→P[i]?=some x→vs[i]?=some v→kindOf x≠some .local →
  bindC kindOf (P.zip vs) m x=some v
 | [],_,_,_,_,h,_,_=>by simp at h
 | _ :: _,[],_,_,_,_,h,_=>by simp at h
 | p :: P,w :: vs,0,m,nd,h1,h2,hk=>by
  simp at h1 h2;subst h1;subst h2
  show bindC kindOf ((p,w) :: P.zip vs) m p=_
  unfold bindC
  rw [zM fun v hv=>(List.nodup_cons.mp nd).1 (List.of_mem_zip hv).1,if_neg hk]
  simp
 | p :: P,w :: vs,i+1,m,nd,h1,h2,hk=>by
  show bindC kindOf ((p,w) :: P.zip vs) m x=_
  unfold bindC
  exact zO (i:=i) (List.nodup_cons.mp nd).2 (by simpa using h1) (by simpa using h2) hk
def start (N:List Str) (vs:List V):St:=vs.map some ++ List.replicate (N.length - vs.length) none
def DY (CX:Bi) (P:Program) (w:World) (K:PySem.W.Frag) (mg:Str→Option Value) (base:Heap) (N:List Str) (qual:Str) (scope:Scope) (f:Addr) (cd:Value) (A:Around) (outer:List Env) (s:Shared) (H:Hp) (E:XK):Cx where
 prog:=P
 w:=w
 K:=K
 mg:=mg
 base:=base
 A:=A.deeper (envOfC qual scope s.heap.objs.size f cd)
 N:=N
 s₀:=s
 H₀:=H
 env:=envOfC qual scope s.heap.objs.size f cd
 outer:=outer
 stack:=envOfC qual scope s.heap.objs.size f cd :: outer
 ex:=[]
 calm:=true
 fn:=fun _=>true
 pn:=[]
 xe:=fun e s'=>wpAny (model P w) (A.deeper (envOfC qual scope s.heap.objs.size f cd)) (leaving (envOfC qual scope s.heap.objs.size f cd) e) (fun _ Pe=>CX outer H s E e Pe) (fun e' Pe=>CX outer H s E e' Pe) s'
theorem Bj {sc:Scope} {n:Nat} {x:Str} (h:sc.names.lookup x=some .cell):∃ c,(cellsFrom n sc.names []).lookup x=some c:=by
 have q:=PySem.W.cellsFrom_some sc.names n [] (.inl h)
 exact Option.isSome_iff_exists.mp q
theorem HF {CX:Bi} {P:Program} {w:World} {K:PySem.W.Frag} {mg:Str→Option Value} {base:Heap} {N ps:List Str} {qual:Str} {scope:Scope} {f:Addr} {cd:Value} {A:Around} {outer:List Env} {s s1:Shared} {H:Hp} {E:XK} {us:List Value} {vs:List V}
  (S:aV N ps scope) (hd:A.handled=none) (e0:yD P w K mg base A outer s H) (hl:vs.length=ps.length) (r:a9 vs us)
  (x:InCallC s s.heap.objs.size (bindL (envOfC qual scope s.heap.objs.size f cd).kindOf (ps.zip us) fun _=>none) (cellsFrom (s.heap.objs.size+1) scope.names []) (bindC (envOfC qual scope s.heap.objs.size f cd).kindOf (ps.zip us) fun _=>none) s1) :
  Inv (DY CX P w K mg base N qual scope f cd A outer s H E) [] (start N vs) H s1:=by
 have pj:ps.length≤N.length:=by have:=congrArg List.length S.pre;rw [List.length_take] at this;omega
 obtain ⟨h1,tk,rfl,hk⟩:=x.done
 have SU:∀ b:Addr,b ∉ (DY CX P w K mg base N qual scope f cd A outer s H E).ex:=fun b z=>absurd (show b ∈ ([]:List Addr) from z) (by simp)
 refine ⟨⟨e0.mod,S.kind,rfl,rfl,Nat.le_refl _,fun y z c h1 h2=>?_,fun y hy=>?_,fun y c _ h=>?_,fun _=>hd,Around.frames_deeper e0.frames,.inr ⟨rfl,rfl⟩,fun b z=>absurd z (SU b),e0.bs,e0.JJ,fun b _ _=>SU b,fun b z=>absurd z (SU b),e0.tG,e0.OF⟩,
  rfl,e0.bare,Un.kept hk,⟨_,x.toInCall.ns,fun i y v h1 h2 h3=>?_⟩,fun y c h=>⟨_,x.cell y c h⟩,e0.dN.fresh (Nat.le_refl _),fun y c h=>?_,fun p hp=>absurd (show p ∈ ([]:List (Addr × Obj)) from hp) (by simp),e0.dN.kept hk,?_⟩
 ·exact name_of_addr x.apart (PySem.mem_of_lookup h1) (PySem.mem_of_lookup h2)
 ·have hy:scope.names.lookup y=some .cell∨scope.names.lookup y=some .free:=hy
  rcases hy with hy | hy
  ·exact Bj hy
  ·exact absurd rfl (S.Pd _ (PySem.mem_of_lookup hy))
 ·exact Nat.le_of_lt (x.above y c (PySem.mem_of_lookup h))
 ·have hi:i < vs.length:=by
   unfold start at h2
   by_cases hi:i < vs.length
   ·exact hi
   ·rw [List.getElem?_append_right (by simpa using hi)] at h2
    rw [List.getElem?_replicate] at h2
    split at h2 <;> cases h2
  have ha:vs[i]?=some v:=by
   unfold start at h2
   rw [List.getElem?_append_left (by simpa using hi),List.getElem?_map] at h2
   cases e:vs[i]? with
   | none=>rw [e] at h2;cases h2
   | some a=>rw [e] at h2;cases h2;rfl
  obtain ⟨u,hu,rv⟩:=r.get ha
  have hp:ps[i]?=some y:=by
   rw [← S.pre,List.getElem?_take_of_lt (by omega)];exact h1
  have ZP:ps.Nodup:=by rw [← S.pre];exact S.nd.sublist (List.take_sublist _ _)
  refine ⟨u,rv,?_⟩
  rcases S.par y (List.mem_of_getElem? hp) with k | k
  ·exact .inl ⟨k,zN ZP hp hu k⟩
  ·obtain ⟨c,e⟩:=Bj (n:=s.heap.objs.size+1) k
   refine .inr ⟨.inl k,c,e,?_⟩
   have q:=x.cell y c e
   rw [zO ZP hp hu (by show scope.names.lookup y≠_;rw [k];decide)] at q
   exact q
 ·exact e0.dN.fresh (Nat.le_of_lt (x.above y c (PySem.mem_of_lookup h)))
 ·unfold start
  show _=N.length
  rw [List.length_append,List.length_map,List.length_replicate]
  omega
theorem Fo {CX:Bi} {P:Program} {w:World} {K:PySem.W.Frag} {mg:Str→Option Value} {base:Heap} {k:Nat} {f:Addr} {name qual:Str} {params:Arguments} {body:List Stmt} {scope:Scope} {dV kV doc pm bw ct oc:Value} {an od:Option Addr}
  {Fp:Array (Option Value)} {N ps:List Str} {sp:Sp} (lk:K.lookup f=some ⟨oc,od,.func (PySem.W.fnOf name qual params body scope dV kV doc pm an bw ct),Fp⟩) (BL:PySem.W.codeIn K bw qual=true) (S:aV N ps scope)
  (len:∀ vs H Q E,sp vs H Q E→vs.length=ps.length)
  (rW:∀ (A:Around) (outer:List Env) (s:Shared) (H:Hp) (vs:List V) (Q:VK) (E:XK),eE k (A.deeper (envOfC qual scope s.heap.objs.size f bw))→sp vs H Q E →
   ∃ t,BV (DY CX P w K mg base N qual scope f bw A outer s H E) body t∧t { nx:=fun _ H'=>Q .cB H',rt:=Q } (start N vs) H) :
  bz P w K mg base CX (k+1) f (PySem.W.fnOf name qual params body scope dV kV doc pm an bw ct) ps sp:=by
 refine ⟨len,fun A outer s H args us vs Q E hr e0 hb r BN=>?_⟩
 have hl:=len _ _ _ _ BN
 have KX:K.In s.heap:=e0.mod.RL.keeps fun b o e=>(e0.bs b o e).1
 have lim:s.heap.NoLimit:=e0.mod.nolimit.keeps fun b o e=>(e0.bs b o e).1
 have SV:∀ y ∈ ps.zip us,scope.names.lookup y.1=some .local∨(scope.names.lookup y.1=some .cell∧((cellsFrom (s.heap.objs.size+1) scope.names []).lookup y.1).isSome=true):=fun ⟨n,v⟩ hy=>by
  rcases S.par n (List.of_mem_zip hy).1 with q | q
  ·exact .inl q
  ·exact .inr ⟨q,PySem.W.cellsFrom_some _ _ _ (.inl q)⟩
 refine codeAny_call_function hr.depth (KX _ _ lk) rfl S.co S.gen rfl (PySem.W.codeRec_of KX BL) (hb _ _ _ _ ?_)
 refine wpAny_newFunctionEnv_cells S.kind SV fun env he s1 x=>?_
 subst he
 refine ⟨lim.keeps x.toInCall.keep,codeAny_func ?_⟩
 obtain ⟨t,ht,hq⟩:=rW A outer s H vs Q E (hr.deeper _) BN
 have I:Inv (DY CX P w K mg base N qual scope f bw A outer s H E) [] (start N vs) H s1:=HF S hr.hd e0 hl r x
 refine wpAny_mono (ht [] s1 (start N vs) H _ I hq) (fun fl s' hs=>?_) fun e s' hs=>hs
 have fin:∀ {σ':St} {H':Hp} {v:V} {u:Value},Inv (DY CX P w K mg base N qual scope f bw A outer s H E) [] σ' H' s'→RelV v u→Q v H'→CE outer P w H s Q u s' :=
  fun {σ' H' v u} J rv q=>⟨v,H',J.os,J.bare,J.base,J.dN,rv,q⟩
 cases fl with
 | ret u =>
  obtain ⟨v,σ',H',J,rv,q⟩:=hs
  exact fin J rv q
 | next =>
  obtain ⟨σ',H',J,q⟩:=hs
  exact fin (v:=V.cB) (u:=Value.none) J rfl q
 | brk =>
  obtain ⟨_,_,_,q⟩:=hs
  exact False.elim q
 | cont =>
  obtain ⟨_,_,_,q⟩:=hs
  exact False.elim q
end L2
namespace L2
open PySem PySem.Spec PyProof.Rows
section
variable {X:Cx} {x:Str} {p pos:Pos} {e:Expr} {es:List Expr} {t:TA} {id T:String} {r:List V→Hp→VK→Prop}
def ZQ (r:List V→Hp→VK→Prop) (t:TA):TE:=fun σ H Q=>t σ H fun vs H1=>r vs H1 Q
theorem bR (hc:j7 X (.builtin id) r) (hg:Gl X x) (hm:X.mg x=none) (hv:bootBuiltins x=some (.builtin id)) (ha:PA X (e :: es) t) (hn:x≠"__name__":=by decide) (JY:(x == ("__debug__":Str))=false:=by decide)
  (he:starEach (e :: es) X.env=(false,eval e X.env) :: starEach es X.env:=by rfl) (pj:(backTo pos (starEach es X.env)).any (·.1)=false:=by rfl):PE X (.Call (.Name x p) (e :: es) [] pos) (ZQ r t):=by
 intro pins s σ H Q I h
 refine wpAny_Call_Name_kw (lu I hg hm hv ?_ hn JY)
 exact PyProof.Rows.callWith_builtin1 (cb (ha pos pins s σ H _ I h) fun us s1 ⟨vs,H1,I1,r1,q1⟩=>hc pins s1 σ H1 vs us Q I1 r1 q1) he pj
theorem df (hc:j7 X (.type T) r) (hg:Gl X x) (hm:X.mg x=none) (hv:bootBuiltins x=some (.type T)) (ha:PA X (e :: es) t) (hn:x≠"__name__":=by decide) (JY:(x == ("__debug__":Str))=false:=by decide)
  (he:starEach (e :: es) X.env=(false,eval e X.env) :: starEach es X.env:=by rfl) (pj:(backTo pos (starEach es X.env)).any (·.1)=false:=by rfl):PE X (.Call (.Name x p) (e :: es) [] pos) (ZQ r t):=by
 intro pins s σ H Q I h
 refine wpAny_Call_Name_kw (lu I hg hm hv ?_ hn JY)
 exact PyProof.Rows.callWith_type1 (cb (ha pos pins s σ H _ I h) fun us s1 ⟨vs,H1,I1,r1,q1⟩=>hc pins s1 σ H1 vs us Q I1 r1 q1) he pj
end
end L2
namespace HT
open PySem PyProof.Rows
section
open PySem.SeqAt
open PySem.AutoSeq1 (wpAny_loadPart')
open PySem.MeetsSeq PySem.MeetsSeq2 PySem.MeetsSeq3
end
section
variable {prog:Program} {w:World} {A:Around} {E:Value→Shared→Prop} {s:Shared}
def Bk (n d:Nat):Option Int→Nat
 | none=>d
 | some v=>if v < 0 then (v+(n:Int)).toNat else min v.toNat n
theorem Bl (n d:Nat):Bk n d none=d:=rfl
theorem pP (n d k:Nat):Bk n d (some (k:Int))=min k n:=by
 show (if (k:Int) < 0 then ((k:Int)+(n:Int)).toNat else min (k:Int).toNat n)=min k n
 rw [if_neg (by omega),Int.toNat_natCast]
end
end HT
namespace L2
open PySem PySem.Spec PyProof.Rows
abbrev TO:=St→Hp→(Option Int→Hp→Prop)→Prop
def PO (X:Cx) (e:Option Expr) (t:TO):Prop :=
 ∀ (pins:List (Addr × Obj)) (s:Shared) (σ:St) (H:Hp) (Q:Option Int→Hp→Prop),Inv X pins σ H s→t σ H Q →
  wpAny (model X.prog X.w) X.A (evalPart e X.env) (fun u s'=>∃ o H',Inv X pins σ H' s'∧IsPart u o∧Q o H') X.xe s
def MD:TO:=fun _ H Q=>Q none H
def SW (t:TE):TO:=fun σ H Q=>t σ H fun x H1=>∃ i,x=.int i∧Q (some i) H1
section
variable {X:Cx} {e:Expr} {te:TE} {lo hi:Option Expr} {tl th:TO} {pos p2:Pos}
theorem vf:PO X none MD:=by
 intro pins s σ H Q I h
 rw [evalPart_none]
 exact wpAny_pure ⟨none,H,I,.none,h⟩
theorem iD (h:PE X e te):PO X (some e) (SW te):=by
 intro pins s σ H Q I hw
 rw [evalPart_some]
 refine cb (h pins s σ H _ I hw) fun u s1 ⟨x,H1,I1,r1,q1⟩=>?_
 obtain ⟨i,rfl,q⟩:=q1
 obtain ⟨t,rfl⟩:=r1
 exact ⟨some i,H1,I1,.int i t,q⟩
def Pf (X:Cx) (r:V→Option Int→Option Int→Hp→VK→Prop):Prop :=
 ∀ (pins:List (Addr × Obj)) (s:Shared) (σ:St) (H:Hp) (x:V) (v vl vu:Value) (lo hi:Option Int) (sl:Addr) (Q:VK),Inv X pins σ H s→RelV x v→s.heap.IsSliceOf sl vl vu .none→IsPart vl lo→IsPart vu hi→r x lo hi H Q →
  ∃ T id,typeLookup (.type T) "__getitem__"=pure (some (.builtin id))∧s.TypeIs v T∧wpAny (model X.prog X.w) X.A (getItem v (.ref sl)) (EP X pins σ Q) X.xe s
theorem Pf.or {r r':V→Option Int→Option Int→Hp→VK→Prop} (h:Pf X r) (h':Pf X r'):Pf X (fun x lo hi H Q=>r x lo hi H Q∨r' x lo hi H Q):=by
 intro pins s σ H x v vl vu lo hi sl Q I rx hs pl pu q
 rcases q with q | q
 ·exact h pins s σ H x v vl vu lo hi sl Q I rx hs pl pu q
 ·exact h' pins s σ H x v vl vu lo hi sl Q I rx hs pl pu q
def tSl (r:V→Option Int→Option Int→Hp→VK→Prop) (te:TE) (tl th:TO):TE:=fun σ H Q=>te σ H fun x H1=>tl σ H1 fun l H2=>th σ H2 fun u H3=>r x l u H3 Q
theorem jK {r:V→Option Int→Option Int→Hp→VK→Prop} (hr:Pf X r) (he:PE X e te) (hl:PO X lo tl) (hu:PO X hi th):PE X (.Subscript e (.Slice lo hi none p2) pos) (tSl r te tl th):=by
 intro pins s σ H Q I h
 refine Subscript_ (cb (he pins s σ H _ I h) fun v s1 ⟨x,H1,I1,r1,q1⟩=>?_)
 refine wpAny_Slice (cb (hl pins s1 σ H1 _ I1 q1) fun vl s2 ⟨l,H2,I2,pl,q2⟩=>cb (hu pins s2 σ H2 _ I2 q2) fun vu s3 ⟨u,H3,I3,pu,q3⟩=>?_)
 rw [evalPart_none]
 refine wpAny_pure ?_
 have I4:Inv X pins σ H3 { s3 with heap:=s3.heap.push { cls:=.type "slice",data:=.fields #[vl,vu,.none] } }:=I3.kept (t':=s3.toks) fun b ob q=>Heap.get?_push_of_some _ q
 obtain ⟨T,id,hT,ht,hg⟩:=hr pins { s3 with heap:=s3.heap.push { cls:=.type "slice",data:=.fields #[vl,vu,.none] } } σ H3 x v vl vu l u s3.heap.objs.size Q I4 r1 (Heap.IsSliceOf.new ..) pl pu q3
 show wpAny (model X.prog X.w) X.A (subscriptTail e (.Slice lo hi none p2) v (.ref s3.heap.objs.size)) (EP X pins σ Q) X.xe { s3 with heap:=s3.heap.push { cls:=.type "slice",data:=.fields #[vl,vu,.none] } }
 exact tail_any (ops:=[.ref s3.heap.objs.size,v]) ht hT hg (by with_unfolding_all rfl)
def gP (xs:List V) (lo hi:Option Int):List V:=(xs.drop (HT.Bk xs.length 0 lo)).take (HT.Bk xs.length xs.length hi - HT.Bk xs.length 0 lo)
theorem Bm (xs:List V) (lo hi:Option Int):(gP xs lo hi).length≤xs.length:=by
 unfold gP
 rw [List.length_take,List.length_drop]
 omega
end
end L2
namespace L2
open PySem PySem.Spec PyProof.Rows
def DZ (n:Nat) (i:Int):Option Nat:=if 0≤i then (if i < n then some i.toNat else none) else if -(n:Int)≤i then some (i+n).toNat else none
def qA {α:Type} (xs:List α) (i:Int):Option α:=(DZ xs.length i).bind fun j=>xs[j]?
theorem Fq {n:Nat} {i:Int} {j:Nat} (h:DZ n i=some j):seqIndex? i n=some j∧j < n∧-(n:Int)≤i∧i < n:=by
 unfold DZ at h
 by_cases h0:0≤i
 ·rw [if_pos h0] at h
  by_cases h1:i < n
  ·rw [if_pos h1] at h
   have e:i.toNat=j:=Option.some.inj h
   exact ⟨by rw [seqIndex_of h0 h1,e],by omega,by omega,h1⟩
  ·rw [if_neg h1] at h;cases h
 ·rw [if_neg h0] at h
  by_cases h1:-(n:Int)≤i
  ·rw [if_pos h1] at h
   have e:(i+n).toNat=j:=Option.some.inj h
   exact ⟨by rw [seqIndex_neg (by omega) h1,e],by omega,h1,by omega⟩
  ·rw [if_neg h1] at h;cases h
theorem Fs {α:Type} {xs:List α} {i:Int} {v:α} (h:qA xs i=some v):∃ j,seqIndex? i xs.length=some j∧xs[j]?=some v∧j < xs.length∧-(xs.length:Int)≤i∧i < xs.length:=by
 unfold qA at h
 cases e:DZ xs.length i with
 | none=>rw [e] at h;cases h
 | some j =>
  rw [e] at h
  obtain ⟨h1,h2,h3,h4⟩:=Fq e
  exact ⟨j,h1,h,h2,h3,h4⟩
theorem fX {α:Type} {xs:List α} {j:Nat} {v:α} (h:xs[j]?=some v):qA xs (j:Int)=some v:=by
 have hj:j < xs.length:=(List.getElem?_eq_some_iff.mp h).1
 have e:DZ xs.length (j:Int)=some j:=by
  unfold DZ
  rw [if_pos (by omega),if_pos (by omega)];simp
 unfold qA;rw [e];exact h
theorem Bn {α:Type} (xs:List α) (v:α):qA (xs ++ [v]) (-1)=some v:=by
 have hl:(xs ++ [v]).length=xs.length+1:=by simp
 have e:DZ (xs ++ [v]).length (-1)=some xs.length:=by
  unfold DZ
  rw [hl,if_neg (by decide),if_pos (by omega)]
  congr 1
  omega
 unfold qA
 rw [e]
 show (xs ++ [v])[xs.length]?=some v
 simp
def Fu (b:Expr):Prop:=∀ o i,subscripted b false o i=operate [o,i] (getItem o i)
def ME (X:Cx) (r:R2):Prop :=
 ∀ (value slice:Expr) (pins:List (Addr × Obj)) (s:Shared) (σ:St) (H:Hp) (x y:V) (v u:Value) (Q:VK),Inv X pins σ H s→RelV x v→RelV y u→r x y H Q →
  subscripted slice false v u=operate [v,u] (getItem v u)→wpAny (model X.prog X.w) X.A (subscriptTail value slice v u) (EP X pins σ Q) X.xe s
def RR (X:Cx) (id:String) (r:V→List V→Hp→VK→Prop):Prop :=
 ∀ (pins:List (Addr × Obj)) (s:Shared) (σ:St) (H:Hp) (x:V) (xs:List V) (v:Value) (us:List Value) (Q:VK),Inv X pins σ H s→RelV x v→a9 xs us→r x xs H Q →
  wpAny (model X.prog X.w) X.A (call (.builtin id) (v :: us)) (EP X pins σ Q) X.xe s
section
variable {X:Cx} {a b:Expr} {ta tb:TE} {pos:Pos}
theorem ME.or {r r':R2} (h:ME X r) (h':ME X r'):ME X (fun x y H Q=>r x y H Q∨r' x y H Q):=by
 intro value slice pins s σ H x y v u Q I rx ry q hs
 rcases q with q | q
 ·exact h value slice pins s σ H x y v u Q I rx ry q hs
 ·exact h' value slice pins s σ H x y v u Q I rx ry q hs
theorem RR.or {id:String} {r r':V→List V→Hp→VK→Prop} (h:RR X id r) (h':RR X id r'):RR X id (fun x xs H Q=>r x xs H Q∨r' x xs H Q):=by
 intro pins s σ H x xs v us Q I rx rs q
 rcases q with q | q
 ·exact h pins s σ H x xs v us Q I rx rs q
 ·exact h' pins s σ H x xs v us Q I rx rs q
theorem aj {r:R2} (hr:ME X r) (ha:PE X a ta) (hb:PE X b tb) (hs:Fu b):PE X (.Subscript a b pos) (PN r ta tb):=by
 intro pins s σ H Q I h
 exact Subscript_ (PQ ha hb I h fun v u s2 x y H2 I2 rx ry q=>hr a b pins s2 σ H2 x y v u Q I2 rx ry q (hs _ _))
def Pg (K:PySem.W.Frag):R2:=fun x y H Q=>∃ p xs i v,x=.ref p∧y=.int i∧ae K H p xs∧qA xs i=some v∧Q v H
def SY (K:PySem.W.Frag):R2:=fun x y H Q=>∃ p xs i v,x=.ref p∧y=.int i∧cD K H p xs∧qA xs i=some v∧Q v H
theorem MF:ME X (Pg X.K):=by
 intro value slice pins s σ H x y v u Q I rx ry h hs
 obtain ⟨p,xs,i,z,rfl,rfl,hq,he,q⟩:=h
 cases rx
 obtain ⟨t,rfl⟩:=ry
 obtain ⟨au,r,pl,hz⟩:=I.list hq
 obtain ⟨j,h1,h2,h3,h4,h5⟩:=Fs he
 obtain ⟨w,ew,rw'⟩:=r.get h2
 have hl:=r.length
 have hn:=wF
 have fin:EP X pins σ Q w s:=⟨z,H,I,rw',q⟩
 by_cases h0:0≤i
 ·have hj:i.toNat=j:=by
   rw [seqIndex_of h0 h5] at h1
   exact Option.some.inj h1
  exact item_listR pl.isList h0 (by omega) (by rw [hj];simpa using ew) fin hs
 ·have hj:(i+(au.toArray.size:Int)).toNat=j:=by
   rw [seqIndex_neg (by omega) h4] at h1
   rw [List.size_toArray,← hl]
   exact Option.some.inj h1
  exact subscriptTail_builtinR (x:=w) pl.isList.typeIs slot_list_getitem.lookup
   (wpAny_getItem_list_neg (Q:=fun r s'=>r=w∧EP X pins σ Q r s') pl.isList (by omega) (by rw [List.size_toArray] <;> omega) (by omega) (by rw [hj];simpa using ew) ⟨rfl,fin⟩) hs
theorem Pj:ME X (SY X.K):=by
 intro value slice pins s σ H x y v u Q I rx ry h hs
 obtain ⟨p,xs,i,z,rfl,rfl,hq,he,q⟩:=h
 cases rx
 obtain ⟨t,rfl⟩:=ry
 obtain ⟨au,r,pl,hz⟩:=I.tuple hq
 obtain ⟨j,h1,h2,h3,h4,h5⟩:=Fs he
 obtain ⟨w,ew,rw'⟩:=r.get h2
 have hl:=r.length
 have hn:=wF
 have fin:EP X pins σ Q w s:=⟨z,H,I,rw',q⟩
 exact subscriptTail_builtinR (x:=w) pl.typeIs slot_tuple_getitem.lookup
  (getItem_tuple (j:=j) (Q:=fun r s'=>r=w∧EP X pins σ Q r s') pl (by omega) (by omega) (by rw [List.size_toArray,← hl];exact h1) (by simpa using ew) ⟨rfl,fin⟩) hs
theorem Dc (au:List Value) (n j:Nat) (u:Value):Obj.mapSeq (·.setIfInBounds j u) { cls:=.type "list",data:=.seq au.toArray n }={ cls:=.type "list",data:=.seq (au.set j u).toArray n }:=by
 simp [Obj.mapSeq]
theorem Inv.lst {pins:List (Addr × Obj)} {σ:St} {H:Hp} {s:Shared} {p:Addr} {xs:List V} (I:Inv X pins σ H s) (h:H p=some (.lst xs)) :
  ∃ (au:List Value) (n:Nat),a9 xs au∧s.heap.get? p=some { cls:=.type "list",data:=.seq au.toArray n }∧xs.length≤sizeLine:=by
 obtain ⟨z,au,n,r,e⟩:=I.dN p _ h
 exact ⟨au,n,r,e,z⟩
theorem Inv.Pk {pins:List (Addr × Obj)} {σ:St} {H:Hp} {s:Shared} {p:Addr} {xs ys:List V} {au its':List Value} {n n':Nat} {f:Obj→Obj} (I:Inv X pins σ H s) (h:H p=some (.lst xs))
  (ho:s.heap.get? p=some { cls:=.type "list",data:=.seq au.toArray n }) (hf:f { cls:=.type "list",data:=.seq au.toArray n }={ cls:=.type "list",data:=.seq its'.toArray n' }) (r:a9 ys its') (hz:ys.length≤sizeLine) (t:Nat) :
  Inv X pins σ (upd H p (.lst ys)) { s with heap:=s.heap.update p f,toks:=t }:=by
 have e:(s.heap.update p f).get? p=some { cls:=.type "list",data:=.seq its'.toArray n' }:=by
  rw [Heap.get?_update_self f ho (by rw [hf] <;> rfl),hf]
 refine I.write (x:=p) (e:=p) (by rw [h];trivial) (.inl rfl) (fun b u hb q=>(Heap.get?_update_other _ _ (Ne.symm hb)).trans q) ⟨_,e⟩ ?_
 exact ⟨hz,its',n',r,e⟩
def Se:V→V→V→Hp→(Hp→Prop)→Prop:=fun o i v H Q=>∃ p xs k j,o=.ref p∧i=.int k∧H p=some (.lst xs)∧DZ xs.length k=some j∧Q (upd H p (.lst (xs.set j v)))
theorem set_list:SA X Se:=by
 intro pins s σ H o i v ov iv u Q I ro ri rv h
 obtain ⟨p,xs,k,j,rfl,rfl,hp,hj,q⟩:=h
 cases ro
 obtain ⟨t,rfl⟩:=ri
 obtain ⟨au,n,r,ho,hz⟩:=I.lst hp
 obtain ⟨h1,h2,h3,h4⟩:=Fq hj
 have hl:=r.length
 have hn:=wF
 have I':Inv X pins σ (upd H p (.lst (xs.set j v))) { s with heap:=s.heap.update p (Obj.mapSeq (·.setIfInBounds j u)) } :=
  I.Pk hp ho (Dc au n j u) (r.set rv j) (by rw [List.length_set];exact hz) s.toks
 by_cases h0:0≤k
 ·have hk:k.toNat=j:=by
   rw [seqIndex_of h0 h4] at h1
   exact Option.some.inj h1
  exact PySem.W.ki_setAt ho h0 (by omega) (by rw [List.size_toArray,← hl];exact h4) (by rw [hk];exact ⟨_,I',q⟩)
 ·have hk:(k+(au.toArray.size:Int)).toNat=j:=by
   rw [seqIndex_neg (by omega) h3] at h1
   rw [List.size_toArray,← hl]
   exact Option.some.inj h1
  exact PySem.W.ki_setBack ho (by omega) (by rw [List.size_toArray,← hl];exact h3) (by omega) (by rw [hk];exact ⟨_,I',q⟩)
theorem AK (lo hi:Option Int) (n:Nat):(sliceBounds lo hi none n).1=((HT.Bk n 0 lo:Nat):Int)∧(sliceBounds lo hi none n).2.1=((HT.Bk n n hi:Nat):Int)∧(sliceBounds lo hi none n).2.2=1:=by
 refine ⟨?_,?_,rfl⟩
 ·cases lo with
  | none=>simp [sliceBounds,HT.Bk]
  | some i =>
   simp only [sliceBounds,HT.Bk,Option.getD_none,show (1:Int) > 0 by decide,if_true]
   by_cases h:i < 0
   ·simp only [h,if_true] <;> omega
   ·simp only [h,if_false] <;> omega
 ·cases hi with
  | none=>simp [sliceBounds,HT.Bk]
  | some i =>
   simp only [sliceBounds,HT.Bk,Option.getD_none,show (1:Int) > 0 by decide,if_true]
   by_cases h:i < 0
   ·simp only [h,if_true] <;> omega
   ·simp only [h,if_false] <;> omega
theorem yE (au:List Value) (lo hi:Option Int):slicePick au.toArray lo hi none=((au.drop (HT.Bk au.length 0 lo)).take (HT.Bk au.length au.length hi - HT.Bk au.length 0 lo)).toArray:=by
 obtain ⟨h1,h2,h3⟩:=AK lo hi au.toArray.size
 unfold slicePick
 rw [h1,h2,h3]
 simp only [sliceRange_one,pick_run,List.size_toArray] <;> rfl
def Sf (K:PySem.W.Frag):V→Option Int→Option Int→Hp→VK→Prop:=fun x lo hi H Q=>∃ a xs,x=.ref a∧ae K H a xs∧∀ p,H p=none→Q (.ref p) (upd H p (.lst (gP xs lo hi)))
theorem MG:Pf X (Sf X.K):=by
 intro pins s σ H x v vl vu lo hi sl Q I rx hs pl pu h
 obtain ⟨a,xs,rfl,hx,q⟩:=h
 cases rx
 obtain ⟨au,r,ht,hz⟩:=I.list hx
 have hlen:=r.length
 refine ⟨"list",_,slot_list_getitem.lookup,ht.isList.typeIs,?_⟩
 refine wpAny_getItem_list_slice ht.isList hs pl pu .none (by simp) ?_ (by rw [List.size_toArray] <;> omega)
 rw [yE,← hlen]
 refine ⟨.ref s.heap.objs.size,_,I.laid (t':=s.toks) (o:=.lst (gP xs lo hi)) (fun b ob q=>Heap.get?_push_of_some _ q) (Nat.le_refl _) ?_,rfl,q _ (I.dN.fresh (Nat.le_refl _))⟩
 exact ⟨Nat.le_trans (Bm xs lo hi) hz,_,0,(r.drop (HT.Bk xs.length 0 lo)).take (HT.Bk xs.length xs.length hi - HT.Bk xs.length 0 lo),Heap.get?_push_size _ rfl⟩
def Bo:V→Bool
 | .cB=>true
 | .bl _=>true
 | .int _=>true
 | .str _=>true
 | _=>false
def RS:V→V→Bool
 | .cB,.cB=>true
 | .bl a,.bl b=>a == b
 | .bl a,.int b=>(if a then 1 else 0) == b
 | .int a,.bl b=>a == (if b then 1 else 0)
 | .int a,.int b=>a == b
 | .str a,.str b=>a == b
 | _,_=>false
theorem Dd {A:Around} {s:Shared} {y x:V} {u v:Value} (ry:RelV y u) (rx:RelV x v) (fy:Bo y=true) (fx:Bo x=true):SeqAt.EqAt A s u v (RS y x):=by
 cases y with
 | cB =>
  cases ry
  cases x with
  | cB=>cases rx;exact SeqAt.EqAt.same _
  | bl b=>cases rx;exact SeqAt.EqAt.none_bool b
  | int b=>obtain ⟨t,rfl⟩:=rx;exact SeqAt.EqAt.none_int b t
  | str b=>obtain ⟨t,rfl⟩:=rx;exact SeqAt.EqAt.none_str b t
  | _=>exact absurd (show false=true from fx) Bool.false_ne_true
 | bl a =>
  cases ry
  cases x with
  | cB=>cases rx;exact SeqAt.EqAt.bool_none a
  | bl b=>cases rx;exact SeqAt.EqAt.bool_bool a b
  | int b=>obtain ⟨t,rfl⟩:=rx;exact SeqAt.EqAt.bool_int a b t
  | str b=>obtain ⟨t,rfl⟩:=rx;exact SeqAt.EqAt.bool_str a b t
  | _=>exact absurd (show false=true from fx) Bool.false_ne_true
 | int a =>
  obtain ⟨t',rfl⟩:=ry
  cases x with
  | cB=>cases rx;exact SeqAt.EqAt.int_none a t'
  | bl b=>cases rx;exact SeqAt.EqAt.int_bool a t' b
  | int b=>obtain ⟨t,rfl⟩:=rx;exact SeqAt.EqAt.int_int a t' b t
  | str b=>obtain ⟨t,rfl⟩:=rx;exact SeqAt.EqAt.int_str a t' b t
  | _=>exact absurd (show false=true from fx) Bool.false_ne_true
 | str a =>
  obtain ⟨t',rfl⟩:=ry
  cases x with
  | cB=>cases rx;exact SeqAt.EqAt.str_none a t'
  | bl b=>cases rx;exact SeqAt.EqAt.str_bool a t' b
  | int b=>obtain ⟨t,rfl⟩:=rx;exact SeqAt.EqAt.str_int a t' b t
  | str b=>obtain ⟨t,rfl⟩:=rx;exact SeqAt.EqAt.str_str a t' b t
  | _=>exact absurd (show false=true from fx) Bool.false_ne_true
 | _=>exact absurd (show false=true from fy) Bool.false_ne_true
theorem AL:j7 X (.builtin "len") (fun xs H Q=>∃ p ys,xs=[.ref p]∧(ae X.K H p ys∨cD X.K H p ys)∧Q (.int ys.length) H):=by
 intro pins s σ H xs us Q I r h
 obtain ⟨p,ys,rfl,hq,q⟩:=h
 obtain ⟨u,rfl,rx⟩:=vals1 r
 cases rx
 have hn:=wF
 rcases hq with hq | hq
 ·obtain ⟨au,r',pl,hz⟩:=I.list hq
  have hlen:=r'.length
  exact Calls.call_len_list pl.isList (by simp only [List.size_toArray] <;> omega) ⟨.int ys.length,H,I.tok _,⟨s.toks+1,by rw [List.size_toArray,hlen]⟩,q⟩
 ·obtain ⟨au,r',pl,hz⟩:=I.tuple hq
  have hlen:=r'.length
  exact len_tuple pl (by simp only [List.size_toArray] <;> omega) ⟨.int ys.length,H,I.tok _,⟨s.toks+1,by rw [List.size_toArray,hlen]⟩,q⟩
theorem j7.or {f:Value} {r r':List V→Hp→VK→Prop} (h:j7 X f r) (h':j7 X f r'):j7 X f (fun xs H Q=>r xs H Q∨r' xs H Q):=by
 intro pins s σ H xs us Q I rs q
 rcases q with q | q
 ·exact h pins s σ H xs us Q I rs q
 ·exact h' pins s σ H xs us Q I rs q
theorem AM:j7 X (.type "list") (fun xs H Q=>∃ p ys,xs=[.ref p]∧(ae X.K H p ys∨cD X.K H p ys)∧∀ l,H l=none→Q (.ref l) (upd H l (.lst ys))):=by
 intro pins s σ H xs us Q I r h
 obtain ⟨p,ys,rfl,hq,q⟩:=h
 obtain ⟨u,rfl,rx⟩:=vals1 r
 cases rx
 have fin:∀ (au:List Value),a9 ys au→ys.length≤sizeLine→∀ (h':Heap) (c':Nat),(∀ b o',s.heap.get? b=some o'→h'.get? b=some o') →
   h'.get? s.heap.objs.size=some { cls:=.type "list",dict:=none,data:=.seq au.toArray c',slots:=#[] }→EP X pins σ Q (.ref s.heap.objs.size) { s with heap:=h' }:=fun au r' hz h' c' kp e =>
  ⟨.ref s.heap.objs.size,_,I.laid (t':=s.toks) kp (Nat.le_refl _) (show fV X.prog X.w _ h' _ (.lst ys) from ⟨hz,au,c',r',e⟩),rfl,q _ (I.dN.fresh (Nat.le_refl _))⟩
 rcases hq with hq | hq
 ·obtain ⟨au,r',pl,hz⟩:=I.list hq
  have hlen:=r'.length
  obtain ⟨o,ho,hc,n,hd⟩:=pl.isList
  exact call_list_seq p (.inl rfl) ho hc hd (fun h' c' kp e=>fin au r' hz h' c' kp e) (by simp only [List.size_toArray] <;> omega)
 ·obtain ⟨au,r',pl,hz⟩:=I.tuple hq
  have hlen:=r'.length
  obtain ⟨o,ho,hc,n,hd⟩:=pl
  exact call_list_seq p (.inr rfl) ho hc hd (fun h' c' kp e=>fin au r' hz h' c' kp e) (by simp only [List.size_toArray] <;> omega)
theorem yF:j7 X (.type "tuple") (fun xs H Q=>∃ p ys,xs=[.ref p]∧((ae X.K H p ys∧∀ l,H l=none→Q (.ref l) (upd H l (.tup ys)))∨(cD X.K H p ys∧Q (.ref p) H))):=by
 intro pins s σ H xs us Q I r h
 obtain ⟨p,ys,rfl,h⟩:=h
 obtain ⟨u,rfl,rx⟩:=vals1 r
 cases rx
 rcases h with ⟨hq,q⟩ | ⟨hq,q⟩
 ·obtain ⟨au,r',pl,hz⟩:=I.list hq
  have hlen:=r'.length
  refine call_tuple_list pl.isList (fun h' kp=>?_) (by simp only [List.size_toArray] <;> omega)
  have I1:Inv X pins σ H { s with heap:=h' }:=I.kept (t':=s.toks) kp
  have I2:Inv X pins σ (upd H h'.objs.size (.tup ys)) { s with heap:=h'.push { cls:=.type "tuple",data:=.seq au.toArray } } :=
   I1.laid (t':=s.toks) (fun b o e=>Heap.get?_push_of_some _ e) (Nat.le_refl _) (show fV X.prog X.w _ _ _ (.tup ys) from ⟨hz,au,r',IsTup.new _ _⟩)
  exact ⟨.ref h'.objs.size,_,I2,rfl,q _ (I1.dN.fresh (Nat.le_refl _))⟩
 ·obtain ⟨au,r',pl,hz⟩:=I.tuple hq
  exact call_tuple_same pl ⟨.ref p,H,I,rfl,q⟩
def ZR (K:PySem.W.Frag) (T:String) (x:V) (H:Hp):Prop:=match x with
 | .str _=>T="str"
 | .int _=>T="int"
 | .ref p=>(T="list"∧∃ xs,ae K H p xs)∨(T="tuple"∧∃ o,K.lookup p=some o∧o.cls=.type "tuple"∧o.dict=none) ∨
   (T="dict"∧((∃ bU,H p=some (.dK bU))∨∃ bU,H p=some (.dT bU)))∨(T="set"∧∃ S n,H p=some (.set S n))
 | _=>False
theorem Pl {pins:List (Addr × Obj)} {σ:St} {H:Hp} {s:Shared} {T:String} {x:V} {v:Value} (I:Inv X pins σ H s) (r:RelV x v) (ty:ZR X.K T x H) :
  s.TypeIs v T∧∀ a,v=.ref a→∃ ob,s.heap.get? a=some ob∧ob.dict=none:=by
 cases x with
 | str z =>
  obtain ⟨t,rfl⟩:=r
  cases (show T="str" from ty)
  exact ⟨typeIs_str s z t,fun _ e=>nomatch e⟩
 | int i =>
  obtain ⟨t,rfl⟩:=r
  cases (show T="int" from ty)
  exact ⟨typeIs_int s i t,fun _ e=>nomatch e⟩
 | ref p =>
  cases r
  rcases ty with ⟨rfl,xs,hq⟩ | ⟨rfl,o,hk,hc,hd⟩ | ⟨rfl,hk⟩ | ⟨rfl,S,n,hk⟩
  ·obtain ⟨au,_,pl,_⟩:=I.list hq
   refine ⟨pl.isList.typeIs,fun a e=>?_⟩
   cases e
   obtain ⟨o,n,e,c,hd,_⟩:=pl
   exact ⟨o,e,hd⟩
  ·refine ⟨⟨o,I.FZ p o hk,hc⟩,fun a e=>?_⟩
   cases e
   exact ⟨o,I.FZ _ o hk,hd⟩
  ·have z:∃ o,s.heap.get? p=some o∧o.ExactDict:=by
    rcases hk with ⟨bU,hk⟩ | ⟨bU,hk⟩
    ·obtain ⟨_,_,_,_,o,_,_,e,ex,_⟩:=I.dN p _ hk
     exact ⟨o,e,ex⟩
    ·obtain ⟨_,_,_,_,o,_,_,e,ex,_⟩:=I.dN p _ hk
     exact ⟨o,e,ex⟩
   obtain ⟨o,e,ex⟩:=z
   refine ⟨⟨o,e,ex.1⟩,fun a e2=>?_⟩
   cases e2
   exact ⟨o,e,ex.2.1⟩
  ·obtain ⟨o,_,_,_,e,ex,_⟩:=I.dN p _ hk
   refine ⟨⟨o,e,ex.1⟩,fun a e2=>?_⟩
   cases e2
   exact ⟨o,e,ex.2.1⟩
 | _=>exact False.elim ty
def Wg (K:PySem.W.Frag) (T:String) (r:V→List V→Hp→VK→Prop) (to:TE) (t:TA):TE:=fun σ H Q=>to σ H fun x H1=>ZR K T x H1∧t σ H1 fun xs H2=>r x xs H2 Q
variable {o e:Expr} {es:List Expr} {to:TE} {t:TA} {name:Str} {apos fY:Pos} {T id:String} {r:V→List V→Hp→VK→Prop}
theorem OM (pa:PlainAttrs T) (slot:Slot T name id) (Wh:typeOf (.builtin id)=pure (.type "method_descriptor")) (hm:RR X id r) (ho:PE X o to) (ha:PA X (e :: es) t)
  (Ja:attributeBase o name X.env (eval o X.env)=eval o X.env:=by rfl)
  (Pm:((backTo fY (starEach (e :: es) X.env)).all (fun x=>!x.1) && (backToKw fY (keywordEach [] X.env)).all (fun x=>x.1.isSome)
   && decide ((e :: es).length+([]:List Keyword).length+(if ([]:List Keyword).isEmpty then 0 else 1) < 30))=true:=by rfl)
  (Jb:(apos.endLine == fY.line)=true:=by rfl) (hs:starEach (e :: es) X.env=(false,eval e X.env) :: starEach es X.env:=by rfl) (De:(backTo fY (starEach es X.env)).any (·.1)=false:=by rfl) :
  PE X (.Call (.Attribute o name apos) (e :: es) [] fY) (Wg X.K T r to t):=by
 intro pins s σ H Q I h
 refine wpAny_Call_method_late Ja Pm Jb rfl (cb (ho pins s σ H _ I h) fun v s1 ⟨x,H1,I1,r1,ty,q1⟩=>?_)
 obtain ⟨h1,h2⟩:=Pl I1 r1 ty
 refine ⟨T,id,pa,slot,Wh,h1,h2,?_⟩
 have hA:=ha fY pins s1 σ H1 _ I1 q1
 rw [hs] at hA ⊢
 refine Calls.callWith_builtin (by show (false || (backTo fY (starEach es X.env)).any (·.1))=false;rw [De] <;> rfl) (Calls.evalArgs_plain ?_)
 exact cb hA fun us s2 ⟨vs,H2,I2,r2,q2⟩=>hm pins s2 σ H2 x vs v us Q I2 r1 r2 q2
end
end L2
namespace L2
open PySem PySem.Spec PyProof.Rows
def ZS (X:Cx) (id:String) (r:V→List V→Hp→VK→Prop):Prop :=
 ∀ (pins:List (Addr × Obj)) (s:Shared) (σ:St) (H:Hp) (x:V) (xs:List V) (v:Value) (us:List Value) (Q:VK),Inv X pins σ H s→RelV x v→a9 xs us→r x xs H Q →
  wpAny (model X.prog X.w) X.A (call (.builtin id) (v :: us)) (EP X pins σ Q) X.xe s
theorem a9.one:∀ {x:V} {us:List Value},a9 [x] us→∃ u,us=[u]∧RelV x u
 | _,_,.cons r .nil=>⟨_,rfl,r⟩
theorem a9.two:∀ {x y:V} {us:List Value},a9 [x,y] us→∃ u v,us=[u,v]∧RelV x u∧RelV y v
 | _,_,_,.cons r (.cons q .nil)=>⟨_,_,rfl,r,q⟩
theorem a9.zero:∀ {us:List Value},a9 [] us→us=[]
 | _,.nil=>rfl
theorem a9.eraseIdx:∀ {xs:List V} {us:List Value} (i:Nat),a9 xs us→a9 (xs.eraseIdx i) (us.eraseIdx i)
 | _,_,_,.nil=>.nil
 | _,_,0,.cons _ t=>t
 | _,_,i+1,.cons r t=>.cons r (a9.eraseIdx i t)
theorem a9.reverse {xs:List V} {us:List Value} (h:a9 xs us):a9 xs.reverse us.reverse:=by
 induction h with
 | nil=>exact .nil
 | cons r t ih=>rw [List.reverse_cons,List.reverse_cons];exact a9.append ih (.cons r .nil)
theorem a9.rep {xs:List V} {us:List Value} (h:a9 xs us):∀ k:Nat,a9 (List.replicate k xs).flatten (List.replicate k us).flatten
 | 0=>.nil
 | k+1=>by
  rw [List.replicate_succ,List.replicate_succ,List.flatten_cons,List.flatten_cons]
  exact a9.append h (a9.rep h k)
theorem zP {α:Type}:∀ (l:List α) (i:Nat),(l.eraseIdx i).length≤l.length
 | [],_=>Nat.le_refl _
 | _ :: _,0=>Nat.le_succ _
 | _ :: r,i+1=>Nat.succ_le_succ (zP r i)
theorem foldl_rep (au:List Value):∀ (k:Nat) (acc:List Value),
  List.foldl (fun x1 x2=>x1 ++ x2) acc.toArray (List.replicate k au.toArray)=(acc ++ (List.replicate k au).flatten).toArray
 | 0,acc=>by simp
 | k+1,acc=>by
  have e:acc.toArray ++ au.toArray=(acc ++ au).toArray:=by simp
  have e2:(acc ++ au) ++ (List.replicate k au).flatten=acc ++ (List.replicate (k+1) au).flatten:=by
   rw [List.replicate_succ,List.flatten_cons,List.append_assoc]
  rw [← e2,← foldl_rep au k (acc ++ au),← e,List.replicate_succ,List.foldl_cons]
section
variable {X:Cx} {pins:List (Addr × Obj)} {σ:St} {H:Hp} {s:Shared} {l b:Addr} {xs ys zs:List V}
theorem Inv.Sg {au its':List Value} {n:Nat} {f:Array Value→Array Value} {t':Nat} (I:Inv X pins σ H s) (hH:H l=some (.lst xs))
  (e:s.heap.get? l=some { cls:=.type "list",data:=.seq au.toArray n }) (hf:f au.toArray=its'.toArray) (hv:a9 ys its') (hz:ys.length≤sizeLine) :
  Inv X pins σ (upd H l (.lst ys)) { s with heap:=s.heap.update l (Obj.mapSeq f),toks:=t' }:=by
 have q:=PySem.IsL.update e f
 rw [hf] at q
 refine I.write (x:=l) (e:=l) (by rw [hH];exact trivial) (.inl rfl) (fun b' u hb hu=>(Heap.get?_update_other s.heap (Obj.mapSeq f) (Ne.symm hb)).trans hu) ⟨_,q⟩ ?_
 exact ⟨hz,its',_,hv,q⟩
theorem Inv.Sh {au:List Value} {t':Nat} (I:Inv X pins σ H s) (hv:a9 ys au) (hz:ys.length≤sizeLine) :
  Inv X pins σ (upd H s.heap.objs.size (.lst ys)) { s with heap:=s.heap.push { cls:=.type "list",data:=.seq au.toArray },toks:=t' } :=
 I.laid (fun _ _ q=>Heap.get?_push_of_some _ q) (Nat.le_refl _) ⟨hz,au,0,hv,Heap.get?_push_size _ rfl⟩
theorem Inv.fresh (I:Inv X pins σ H s):H s.heap.objs.size=none:=I.dN.fresh (Nat.le_refl _)
theorem Inv.Pn (I:Inv X pins σ H s) (hH:H l=some (.lst xs)):xs.length≤sizeLine∧∃ (au:List Value) (n:Nat),a9 xs au∧xs.length=au.length∧s.heap.get? l=some { cls:=.type "list",data:=.seq au.toArray n }:=by
 obtain ⟨z,au,n,r,e⟩:=I.dN l _ hH
 exact ⟨z,au,n,r,r.length,e⟩
theorem Jc {n:Nat} (h:n≤sizeLine):Builtin.List.listTooLong n=false:=by
 unfold Builtin.List.listTooLong
 exact decide_eq_false (by omega)
end
section
variable {X:Cx}
def Fv:V→List V→Hp→VK→Prop:=fun x vs H Q=>∃ l xs y,x=.ref l∧vs=[y]∧H l=some (.lst xs)∧xs.length < sizeLine∧Q .cB (upd H l (.lst (xs ++ [y])))
theorem bZ:ZS X "list.append" Fv:=by
 intro pins s σ H x vs v us Q I rx rv h
 obtain ⟨l,xs,y,rfl,rfl,hH,hz,q⟩:=h
 cases rx
 obtain ⟨u,rfl,ru⟩:=rv.one
 obtain ⟨z,au,n,r,hl,e⟩:=I.Pn hH
 refine call_meets F.slot_list_append ⟨_,e,rfl⟩ F.entry_list_append (F.args_list_append_2 _ _) (PySem.list_append l au.toArray n u (by rw [List.size_toArray];omega)) ⟨e,?_⟩
 refine ⟨.cB,_,I.Sg (its':=au ++ [u]) hH e (by simp) (r.append (.cons ru .nil)) ?_,rfl,q⟩
 rw [List.length_append,List.length_singleton]
 omega
def Po:V→List V→Hp→VK→Prop:=fun x vs H Q=>∃ l xs i k y,x=.ref l∧vs=[.int i]∧H l=some (.lst xs)∧-(2 ^ 63)≤i∧i < 2 ^ 63∧seqIndex? i xs.length=some k∧xs[k]?=some y∧Q y (upd H l (.lst (xs.eraseIdx k)))
theorem Je:ZS X "list.pop" Po:=by
 intro pins s σ H x vs v us Q I rx rv h
 obtain ⟨l,xs,i,k,y,rfl,rfl,hH,h1,h2,hk,hy,q⟩:=h
 cases rx
 obtain ⟨u,rfl,ru⟩:=rv.one
 obtain ⟨t,rfl⟩:=ru
 obtain ⟨z,au,n,r,hl,e⟩:=I.Pn hH
 obtain ⟨w,hw,rw'⟩:=r.get hy
 refine call_meets F.slot_list_pop ⟨_,e,rfl⟩ F.entry_list_pop (F.args_list_pop_2 _ _)
  (MeetsSeq.list_pop_at l au.toArray n i t k w (fitsIndex_both h1 h2) (by rw [List.size_toArray,← hl];exact hk) (by rw [← Array.getElem?_toList];exact hw) (by rw [List.size_toArray];omega)) ⟨e,?_⟩
 refine ⟨y,_,I.Sg (its':=au.eraseIdx k) hH e ?_ (r.eraseIdx k) ?_,rw',q⟩
 ·show au.toArray.eraseIdxIfInBounds k=(au.eraseIdx k).toArray
  rw [List.eraseIdxIfInBounds_toArray]
 ·have:=zP xs k
  omega
def Wi:R2:=fun x y H Q=>∃ l k xs,x=.ref l∧y=.int k∧H l=some (.lst xs)∧-(2 ^ 63)≤k∧k < 2 ^ 63∧xs.length * k.toNat≤sizeLine ∧
 ∀ p,H p=none→Q (.ref p) (upd H p (.lst (List.replicate k.toNat xs).flatten))
theorem len_rep {α:Type} (xs:List α) (k:Nat):(List.replicate k xs).flatten.length=k * xs.length:=by
 induction k with
 | zero=>simp
 | succ k ih=>rw [List.replicate_succ,List.flatten_cons,List.length_append,ih,Nat.succ_mul,Nat.add_comm]
theorem AN:ni X (binaryOp .Mult) Wi:=by
 intro pins s σ H x y v u Q I rx ry h
 obtain ⟨l,k,xs,rfl,rfl,hH,h1,h2,hz,q⟩:=h
 cases rx
 obtain ⟨t,rfl⟩:=ry
 obtain ⟨z,au,n,r,hl,e⟩:=I.Pn hH
 have hlen:au.toArray.size * k.toNat≤sizeLine:=by rw [List.size_toArray,← hl];exact hz
 have Wj:¬ au.toArray.size * k.toNat > (2 ^ 63 - 1) / 8:=by
  have:(sizeLine:Nat)≤(2 ^ 63 - 1) / 8:=by decide
  omega
 have Pq:¬ (!Builtin.List.listFitsIndex k)=true:=by
  rw [fitsIndex_both h1 h2]
  exact Bool.false_ne_true
 have Si:¬ Builtin.List.listTooLong (au.toArray.size * k.toNat)=true:=by
  rw [Jc hlen]
  exact Bool.false_ne_true
 have Wk:List.foldl (fun x1 x2=>x1 ++ x2) #[] (List.replicate (if au.toArray.isEmpty=true then 0 else k.toNat) au.toArray)=(List.replicate k.toNat au).flatten.toArray:=by
  have f0:∀ m:Nat,List.foldl (fun x1 x2=>x1 ++ x2) #[] (List.replicate m au.toArray)=(List.replicate m au).flatten.toArray:=fun m=>by
   have:=foldl_rep au m []
   rw [List.nil_append] at this
   exact this
  rw [f0]
  cases au with
  | nil=>simp
  | cons a r'=>rw [if_neg (by simp)]
 refine wpAny_binaryOp_repeat_ref (T:="list") (U:="int") (by decide) ⟨_,e,rfl⟩ (fun s'=>typeIs_int s' k t) noFill_list_mul F.fills_int_mul F.slot_int_rmul repeat_list F.slot_int_index.lookup
  (call_meets F.slot_int_rmul (typeIs_int s k t) F.entry_int_rmul (F.args_int_rmul_2 _ _) (int___rmul___int_list k t l au.toArray n)
   ⟨e,rfl,⟨_,e,rfl⟩,call_meets F.slot_list_mul ⟨_,e,rfl⟩ F.entry_list_mul (F.args_list_mul_2 _ _) (AutoListH.list___mul___list_int_3 l au.toArray n k t Pq Wj Si) ⟨e,?_⟩⟩)
 rw [Wk]
 exact ⟨.ref _,_,I.Sh (t':=s.toks) (r.rep k.toNat) (by rw [len_rep,Nat.mul_comm];exact hz),rfl,q _ I.fresh⟩
end
section
variable {prog:Program} {w:World} {A:Around} {E:Value→Shared→Prop} {s:Shared}
end
section
variable {X:Cx}
end
end L2
namespace Att
open PySem PySem.W PySem.Calls PyProof.Rows
theorem vJ {P:Params} {h:Heap}:∀ (ns:List Int) (vs:List Value),WellAll P h vs (ns.map WData.int)→IntsAre vs ns:=by
 intro ns
 induction ns with
 | nil =>
  intro vs w
  rw [List.map_nil] at w
  cases w
  exact .nil
 | cons n ns ih =>
  intro vs w
  rw [List.map_cons] at w
  cases w with
  | cons a b =>
   cases a
   exact .cons _ _ (ih _ b)
theorem HG {l:OpenLaw} {n:Nat} (hn:l.most=some n) {P:Params} {h:Heap} {args:List WData} {vals:List Value}
  (MH:l.row.toRowW.claim.pre args=true) (Wl:WellAll P h vals args) :
  ∃ a vs ns,vals=[Value.ref a]∧args=[WData.list (ns.map WData.int)]∧h.get? a=some { cls:=.type "list",data:=.seq vs.toArray }∧IntsAre vs ns∧ns.length≤n:=by
 have hsh:WShape.hasAll [] args [.list .int]=true:=(pre_splitW MH).1
 have hc:l.pre.holds [] { args:=args }=true:=(pre_splitW MH).2
 obtain ⟨d,r,rfl,h1,h2⟩:=hasAllW_cons hsh
 obtain rfl:=hasAllW_nil h2
 obtain ⟨xs,rfl,h3⟩:=hasW_list h1
 obtain ⟨ns,rfl⟩:=items_int h3
 have hlen:ns.length≤n:=by
  unfold OpenLaw.pre at hc
  have h4:(WTm.not (.lt (.lit (.int (n:Int))) (.len (.arg 0)))).holds [] { args:=[.list (ns.map .int)] }=true:=by
   have h4:=(holds_andW hc).1
   rw [hn] at h4
   exact h4
  have h5:=condW_of h4 (w_not (w_lt w_lit (w_len_list (w_arg rfl))))
  rw [List.length_map] at h5
  refine Nat.le_of_not_lt fun q=>?_
  have q':(n:Int) < ((ns.length:Nat):Int):=by omega
  first
   | (rw [decide_eq_true q'] at h5;exact absurd h5 (by decide))
   | (simp at h5;omega)
 cases Wl with
 | cons w1 w2 =>
  cases w2
  cases w1 with
  | list ho Df=>exact ⟨_,_,ns,rfl,rfl,ho,vJ ns _ Df,hlen⟩
theorem HH (l:OpenLaw) (args:List WData):l.row.toRowW.claim.post args (.bool true) args=true :=
 postW_of (r:=l.row.toRowW) (X:=(true == true))
  (show WShape.has [] (.bool true) .bool=true by first | rfl | decide | simp [WShape.has,WShape.arms,WShape.armsAll])
  (show (WTm.eq .res (.lit (.bool true))).value [] { args:=args,res:=some (.bool true),after:=args }=some (.bool (true == true)) from w_eq_bool (w_res rfl) w_lit) rfl
theorem Bq {l:OpenLaw} {n:Nat} {q:Program} {loose:List Str} {XP:(Str→Option Value)→Heap→Prop} {YP:World→Heap→Prop} {d:DefRec}
  (hn:l.most=some n) (Sj:d.params.defaults=[])
  (call:∀ (w:World) (s₀ s₁:Shared) (mg mb:Str→Option Value) (fa:Addr) (o:Obj) (pm cd doc:Value) (a:Addr) (vs:List Value) (ns:List Int),
   Ground q loose [] XP w s₀ mg mb s₁.heap→YP w s₁.heap →
   s₁.heap.get? fa=some o→o.data=.func (docDef d.name d.params d.body d.scope pm cd doc)→s₁.heap.CodeRec cd d.name→mg d.name=some (.ref fa) →
   s₁.heap.get? a=some { cls:=.type "list",data:=.seq vs.toArray }→IntsAre vs ns→ns.length≤n→s₁.gens=#[] →
   codeAny (model l.prog w) callerA (.call (.ref fa) ⟨[.ref a],[]⟩) (fun r s'=>r=.ok (.ret (.bool true))∧OldK s₁.heap s'.heap∧s'.os=s₁.os∧AllBare s'.gens) s₁) :
  WalkO q loose XP YP l.row.toRowW d [] (fun f vs=>PySem.call f vs):=by
 intro w s₀ s₁ mg mb G Y fa o pm cd doc dV kV ho hd BL hD Pt hg args vals as MH aBv RT Wl hlo
 obtain rfl:dV=.none:=Dflts.none hD Sj
 obtain rfl:kV=.none:=Dflts.noKw hD
 obtain ⟨a,vs,ns,rfl,rfl,Pu,hints,hlen⟩:=HG hn MH Wl
 refine enter_call (codeAny_mono (call w s₀ s₁ mg mb fa o pm cd doc a vs ns G Y ho (fd_plain hd) BL Pt Pu hints hlen hg) fun r s' hq=>?_)
 obtain ⟨rfl,h2,h3,h4⟩:=hq
 exact ⟨.inl ⟨.bool true,.bool true,[],rfl,fun _=>rfl,.bool true,HH l _,fun _=>⟨List.Pairwise.nil,fun _ hm=>(nomatch hm)⟩⟩,h2,h3,h4⟩
section
variable {prog:Program} {w:World} {A:Around} {E:Value→Shared→Prop} {s:Shared} {K:Frag}
end
end Att
namespace L2
open PySem PySem.Spec PyProof.Rows
theorem zQ:∀ {vs:List Value} {ns:List Int},IntsAre vs ns→a9 (ns.map V.int) vs
 | _,_,.nil=>.nil
 | _,_,.cons n t h=>.cons ⟨t,rfl⟩ (zQ h)
def Pw (H:Hp):Prop:=∀ b,H b=none∨∃ o xs,H b=some (.AA o (.lst xs))
theorem Jf {P:Program} {w:World} {K:PySem.W.Frag} {mg mb:Str→Option Value} {CX:Bi} {k:Nat} {fa a:Addr} {fd:FuncData} {x:Str} {sp:Sp} {s₁:Shared} {vs:List Value} {ns:List Int}
  (KX:K.In s₁.heap) (ZT:s₁.heap.Ns mainGlobals mg) (hb:s₁.heap.Ns builtinsNs mb) (hbb:∀ x:Str,x≠"__name__"→mb x=bootBuiltins x) (Wm:s₁.heap.NoLimit) (hg:s₁.gens=#[])
  (ha:s₁.heap.get? a=some { cls:=.type "list",data:=.seq vs.toArray }) (hi:IntsAre vs ns) (hl:ns.length≤sizeLine) (hr:eE k callerA)
  (F:∀ base:Heap,K.In base→base.Ns mainGlobals mg→bz P w K mg base CX k fa fd [x] sp) (Sk:∀ (s:Shared) (u:Value),BindsTo s fd ⟨[u],[]⟩ [(x,u)])
  (BN:∀ H:Hp,Pw H→ae K H a (ns.map V.int)→sp [.ref a] H (fun v _=>v=.bl true) fun _ _ _=>False)
  (Wn:∀ H e s',CX [] H s₁ (fun _ _ _=>False) e s'→False) :
  codeAny (model P w) callerA (.call (.ref fa) ⟨[.ref a],[]⟩) (fun r s'=>r=.ok (.ret (.bool true))∧OldK s₁.heap s'.heap∧s'.os=s₁.os∧AllBare s'.gens) s₁:=by
 have rv:=zQ hi
 have Wo:=hi.length
 have core:∀ H:Hp,Pw H→ae K H a (ns.map V.int)→tF P w H s₁.heap→(∀ b,H b≠none→b=a)→(H a≠none→K.lookup a=none) →
   codeAny (model P w) callerA (.call (.ref fa) ⟨[.ref a],[]⟩) (fun r s'=>r=.ok (.ret (.bool true))∧OldK s₁.heap s'.heap∧s'.os=s₁.os∧AllBare s'.gens) s₁:=by
  intro H hO hS dN hA hK
  have Fw:∀ {b:Addr} {o:Obj},s₁.heap.get? b=some o→H b=none→(AB s₁.heap H).get? b=some o:=fun e n=>JI e n
  have SU:∀ {b:Addr} {o:Obj} {es:Array DictEntry} {ep:Nat},s₁.heap.get? b=some o→o.data=.dict es ep→H b=none:=fun {b o es ep} e d=>by
   cases q:H b with
   | none=>rfl
   | some u =>
    have e':b=a:=hA b (by rw [q];simp)
    subst e'
    rw [ha] at e;cases e
    have d':Data.seq vs.toArray _=Data.dict es ep:=d
    cases d'
  have VZ:∀ {b:Addr} {m:Str→Option Value},s₁.heap.Ns b m→(AB s₁.heap H).Ns b m:=fun {b m} ⟨o,es,ep,e,d,r⟩=>⟨o,es,ep,Fw e (SU e d),d,r⟩
  have ZU:K.In (AB s₁.heap H):=fun b o e=>Fw (KX b o e) (by
   cases q:H b with
   | none=>rfl
   | some u =>
    have e':b=a:=hA b (by rw [q];simp)
    subst e'
    rw [hK (by rw [q];simp)] at e;cases e)
  have hM:Mod K mg (AB s₁.heap H):=⟨ZU,VZ ZT,⟨mb,VZ hb,hbb⟩,let ⟨mc,h1,h2⟩:=Wm;⟨mc,VZ h1,h2⟩⟩
  have e0:yD P w K mg (AB s₁.heap H) callerA [] s₁ H:=⟨rfl,hM,fun b o e=>Lx e,Nat.le_of_eq (G8 _ _),trivial,fun b hb=>absurd (show b ∈ ([]:List Addr) from hb) (by simp),dN,.of_eq hg⟩
  refine codeAny_mono ((F _ ZU (VZ ZT)).run callerA [] s₁ H ⟨[.ref a],[]⟩ [.ref a] [.ref a] _ _ hr e0 (Sk s₁ (.ref a)) (.cons rfl .nil) (BN H hO hS)) fun r s' h=>?_
  cases r with
  | error e=>exact (Wn H e s' h).elim
  | ok fl =>
   cases fl with
   | next=>exact False.elim h
   | brk=>exact False.elim h
   | cont=>exact False.elim h
   | ret u =>
    obtain ⟨v,H',os,bare,un,Wp,r',q⟩:=h
    have q':v=.bl true:=q
    subst q'
    obtain rfl:u=Value.bool true:=r'
    refine ⟨rfl,OldK.of_keep fun b o e=>?_,os,bare⟩
    cases q:H b with
    | none=>exact un.keep b o e q (by intro z;exact absurd (show b ∈ ([]:List Addr) from z) (by simp)) (by simp)
    | some u =>
     rcases hO b with z | ⟨ob,xs,z⟩
     ·rw [q] at z;cases z
     ·have z2:=un.nW b ob _ z
      obtain ⟨e1,_⟩:=dN b _ z
      obtain ⟨e2,_⟩:=Wp b _ z2
      rw [e] at e1;cases e1
      exact e2
 cases hk:K.lookup a with
 | some o =>
  have e:=KX a o hk
  rw [ha] at e
  cases e
  refine core (fun _=>none) (fun _=>.inl rfl) (.inr ⟨_,vs.toArray,_,hk,rfl,rfl,rfl,by rw [List.size_toArray,Wo];exact hl,by simpa using rv⟩) (fun b u z=>by have z':(none:Option HO)=some u:=z;cases z') (fun b z=>absurd rfl z) fun z=>absurd rfl z
 | none =>
  refine core (fun b=>if b=a then some (.AA { cls:=.type "list",data:=.seq vs.toArray } (.lst (ns.map V.int))) else none) (fun b=>?_) (.inl (.inr ⟨{ cls:=.type "list",data:=.seq vs.toArray },if_pos rfl⟩)) (fun b u z=>?_) (fun b z=>?_) fun _=>hk
  ·by_cases hb:b=a
   ·exact .inr ⟨_,_,if_pos hb⟩
   ·exact .inl (if_neg hb)
  ·by_cases hb:b=a
   ·have z':=(if_pos hb).symm.trans z
    cases z'
    subst hb
    exact ⟨ha,by rw [List.length_map];exact hl,vs,_,rv,ha⟩
   ·have z':=(if_neg hb).symm.trans z
    cases z'
  ·by_cases hb:b=a
   ·exact hb
   ·exact absurd (if_neg hb) z
end L2
namespace L2
open PySem PySem.Spec PyProof.Rows
abbrev cv {K:PySem.W.Frag} {h:Heap} (_:K.In h):PySem.W.Frag:=K
theorem MI {l:PySem.W.OpenLaw} {n k:Nat} {q:Program} {loose:List Str} {XP:(Str→Option Value)→Heap→Prop} {YP:World→Heap→Prop} {d:DefRec} {K:Params→PySem.W.Frag} {CX:World→Bi} {sp:World→Sp} {x:Str}
  (hn:l.most=some n) (PY:n≤sizeLine) (Sj:d.params.defaults=[]) (hr:eE k callerA)
  (hY:∀ (w:World) (h:Heap),YP w h→(K w.params).In h)
  (F:∀ (w:World) (mg:Str→Option Value) (fa:Addr) (h:Heap),(K w.params).In h→h.Ns mainGlobals mg→mg d.name=some (.ref fa) →
   ∃ fd:FuncData,(∀ (s:Shared) (u:Value),BindsTo s fd ⟨[u],[]⟩ [(x,u)]) ∧
    ∀ base:Heap,(K w.params).In base→base.Ns mainGlobals mg→bz l.prog w (K w.params) mg base (CX w) k fa fd [x] (sp w))
  (BN:∀ (w:World) (H:Hp) (a:Addr) (ns:List Int),ns.length≤n→Pw H→ae (K w.params) H a (ns.map V.int)→sp w [.ref a] H (fun v _=>v=.bl true) fun _ _ _=>False)
  (Wn:∀ (w:World) (H:Hp) (s:Shared) (e:Value) (s':Shared),CX w [] H s (fun _ _ _=>False) e s'→False) :
  PySem.W.WalkO q loose XP YP l.row.toRowW d [] (fun f vs=>PySem.call f vs):=by
 refine Att.Bq hn Sj fun w s₀ s₁ mg mb fa o pm cd doc a vs ns G Y ho hd BL Pt Pu hints hlen hg=>?_
 have KX:=hY w _ Y
 obtain ⟨fd,hb,hF⟩:=F w mg fa _ KX G.T.g Pt
 exact Jf KX G.T.g G.T.b G.T.builtins G.T.nolimit hg Pu hints (Nat.le_trans hlen PY) hr hF hb (fun H hO hS=>BN w H a ns hlen hO hS) fun H e s'=>Wn w H s₁ e s'
end L2
namespace L2
open PySem PySem.Spec PyProof.Rows
def bX (s:Stmt):Arguments:=match s with
 | .FunctionDef _ a _ _ _ _ _ _ _ _=>a
 | _=>{ posonlyargs:=[],args:=[],vararg:=none,kwonlyargs:=[],kw_defaults:=[],kwarg:=none,defaults:=[] }
def bL (s:Stmt):List Stmt:=match s with
 | .FunctionDef _ _ b _ _ _ _ _ _ _=>b
 | _=>[]
def aI (s:Stmt):Scope:=match s with
 | .FunctionDef _ _ _ _ _ _ sc _ _ _=>sc
 | _=>{ kind:=.function,names:=[],isGenerator:=false,isCoroutine:=false }
abbrev ZV:Bi:=fun _ _ _ _ _ _=>False
abbrev E0:XK:=fun _ _ _=>False
structure lF (K:PySem.W.Frag) (x qual:Str) (st:Stmt) (f:Addr) (fd:FuncData):Prop where
 ex:∃ (oc:Value) (od:Option Addr) (kV doc pm:Value) (an:Option Addr) (bw ct:Value) (Fp:Array (Option Value)),
  fd=PySem.W.fnOf x qual (bX st) (bL st) (aI st) .none kV doc pm an bw ct∧K.lookup f=some ⟨oc,od,.func fd,Fp⟩∧PySem.W.codeIn K bw qual=true
 kp:PySem.W.keepIn K (.ref f)=true
section
variable {P:Program} {w:World} {K:PySem.W.Frag} {mg:Str→Option Value} {base:Heap}
theorem lF.ok {x qual:Str} {st:Stmt} {f:Addr} {fd:FuncData} {N ps:List Str} {k:Nat} {sp:Sp} (F:lF K x qual st f fd) (S:aV N ps (aI st)) (len:∀ vs H Q E,sp vs H Q E→vs.length=ps.length)
  (rW:∀ (bw:Value) (A:Around) (outer:List Env) (s:Shared) (H:Hp) (vs:List V) (Q:VK) (E:XK),eE k (A.deeper (envOfC qual (aI st) s.heap.objs.size f bw))→sp vs H Q E →
   ∃ t,BV (DY ZV P w K mg base N qual (aI st) f bw A outer s H E).rS (bL st) t∧t { nx:=fun _ H'=>Q .cB H',rt:=Q } (start N vs) H):bz P w K mg base ZV (k+1) f fd ps sp:=by
 obtain ⟨oc,od,kV,doc,pm,an,bw,ct,Fp,rfl,lk,BL⟩:=F.ex
 refine Fo lk BL S len fun A outer s H vs Q E hr BN=>?_
 obtain ⟨t,h,q⟩:=rW bw A outer s H vs Q E hr BN
 exact ⟨t,h.rS,q⟩
theorem lF.binds {x qual:Str} {st:Stmt} {f:Addr} {fd:FuncData} {ps:List Str} (F:lF K x qual st f fd)
  (h:∀ (kV doc pm:Value) (an:Option Addr) (bw ct:Value) (us:List Value),us.length=ps.length→bindArgs (PySem.W.fnOf x qual (bX st) (bL st) (aI st) .none kV doc pm an bw ct) ⟨us,[]⟩=pure (ps.zip us)):Binds K fd ps []:=by
 obtain ⟨oc,od,kV,doc,pm,an,bw,ct,Fp,rfl,lk,BL⟩:=F.ex
 exact .all (h kV doc pm an bw ct)
theorem eF {x qual:Str} {st:Stmt} {f:Addr} {oc:Value} {od an:Option Addr} {Fp:Array (Option Value)} {kV doc pm bw ct:Value} (l:K.lookup f=some ⟨oc,od,.func (PySem.W.fnOf x qual (bX st) (bL st) (aI st) .none kV doc pm an bw ct),Fp⟩)
  (c:PySem.W.codeIn K bw qual=true) (k:PySem.W.keepIn K (.ref f)=true):lF K x qual st f (PySem.W.fnOf x qual (bX st) (bL st) (aI st) .none kV doc pm an bw ct):=⟨⟨oc,od,kV,doc,pm,an,bw,ct,Fp,rfl,l,c⟩,k⟩
end
section
variable {X:Cx}
theorem pv (i:Nat) {x:Str} {pos:Pos} (hN:X.N[i]?=some x:=by rfl) (hv:VT X.env.scope x:=by first | exact Or.inl rfl | exact Or.inr (Or.inl rfl) | exact Or.inr (Or.inr rfl)) (hd:(x == ("__debug__":Str))=false:=by decide)
  (BL:(x == ("__classdict__":Str))=false:=by decide):PE X (.Name x pos) (qN i):=PB hN hv hd BL
end
theorem iI {A B:Prop} (h:B):if false=true then A else B:=by
 rw [if_neg Bool.false_ne_true]
 exact h
theorem iu {A B:Prop} (h:A):if true=true then A else B:=by
 rw [if_pos rfl]
 exact h
theorem Px {c A B:Prop} [Decidable c] (h1:c→A) (h2:¬ c→B):if c then A else B:=by
 by_cases h:c
 ·rw [if_pos h]
  exact h1 h
 ·rw [if_neg h]
  exact h2 h
def aK (H H':Hp):Prop:=∀ b o,H b=some o→H' b=some o
theorem aK.refl (H:Hp):aK H H:=fun _ _ h=>h
theorem aK.trans {H H1 H2:Hp} (a:aK H H1) (b:aK H1 H2):aK H H2:=fun c o h=>b c o (a c o h)
theorem aK.free {H H':Hp} (e:aK H H') {l:Addr} (h:H' l=Option.none):H l=Option.none:=by
 cases q:H l with
 | none=>rfl
 | some o =>
  rw [e l o q] at h
  cases h
theorem aK.seq {K:PySem.W.Frag} {H H':Hp} {a:Addr} {xs:List V} (e:aK H H') (h:ae K H a xs):ae K H' a xs:=by
 rcases h with (h | ⟨o,h⟩) | h
 ·exact .inl (.inl (e _ _ h))
 ·exact .inl (.inr ⟨o,e _ _ h⟩)
 ·exact .inr h
end L2
namespace L2
open PySem PySem.Spec PyProof.Rows
def cq (env:Env):List (Str × NameKind)→List (Str × Addr)→List (Str × Addr)
 | [],acc=>acc
 | (n,k) :: r,acc=>if k == .free then cq env r ((n,(env.cells.lookup n).getD 0) :: acc) else cq env r acc
theorem qQ {env:Env}:∀ (names:List (Str × NameKind)) (acc:List (Str × Addr)) (f:Str × NameKind→List (Str × Addr)→Sem (ForInStep (List (Str × Addr)))),
  (∀ n k cs,f (n,k) cs=if k == .free then (do let c ← cellOf env n;pure (.yield ((n,c) :: cs))) else pure (.yield cs)) →
  (∀ x ∈ names,x.2=.free→∃ c,env.cells.lookup x.1=some c)→(forIn names acc f:Sem _)=pure (cq env names acc)
 | [],acc,f,_,_=>rfl
 | (n,k) :: r,acc,f,hf,h=>by
  rw [List.forIn_cons,hf]
  unfold cq
  by_cases hk:(k == .free)=true
  ·rw [if_pos hk,if_pos hk]
   obtain ⟨c,e⟩:=h (n,k) List.mem_cons_self (beq_iff_eq.mp hk)
   have e':env.cells.lookup n=some c:=e
   unfold cellOf
   rw [e']
   show (forIn r ((n,c) :: acc) f:Sem _)=_
   exact qQ r _ f hf fun x hx=>h x (List.mem_cons_of_mem _ hx)
  ·rw [if_neg hk,if_neg hk]
   show (forIn r acc f:Sem _)=_
   exact qQ r _ f hf fun x hx=>h x (List.mem_cons_of_mem _ hx)
theorem wJ {env:Env} {scope:Scope} (h:∀ x ∈ scope.names,x.2=.free→∃ c,env.cells.lookup x.1=some c):closureFor scope env=pure (cq env scope.names []):=by
 unfold closureFor
 have e:=qQ scope.names [] (fun x cs=>if x.2 == .free then (do let c ← cellOf env x.1;pure (.yield ((x.1,c) :: cs))) else pure (.yield cs)) (fun _ _ _=>rfl) h
 show (forIn scope.names [] _ >>= fun cs=>pure cs)=_
 exact (rX e)
where
 rX {α:Type} {a:α} {t:Sem α} (e:t=pure a):(t >>= fun x=>pure x)=pure a:=by rw [e];rfl
theorem dF {env:Env} {x:Str} {c:Addr}:∀ (names:List (Str × NameKind)) (acc:List (Str × Addr)),(∀ y ∈ names,y.2=.free→∃ c,env.cells.lookup y.1=some c) →
  (∀ c,acc.lookup x=some c→env.cells.lookup x=some c)→(cq env names acc).lookup x=some c→env.cells.lookup x=some c
 | [],acc,_,ha,h=>ha c h
 | (n,k) :: r,acc,hn,ha,h=>by
  unfold cq at h
  have hr:∀ y ∈ r,y.2=.free→∃ c,env.cells.lookup y.1=some c:=fun y hy=>hn y (List.mem_cons_of_mem _ hy)
  by_cases hk:(k == .free)=true
  ·rw [if_pos hk] at h
   obtain ⟨c',e⟩:=hn (n,k) List.mem_cons_self (beq_iff_eq.mp hk)
   have e':env.cells.lookup n=some c':=e
   rw [e'] at h
   refine dF r _ hr (fun c2 q=>?_) h
   rw [List.lookup_cons] at q
   cases hb:x == n with
   | true=>rw [hb] at q;cases q;rw [beq_iff_eq.mp hb];exact e'
   | false=>rw [hb] at q;exact ha c2 q
  ·rw [if_neg hk] at h
   exact dF r _ hr ha h
theorem l7 {env:Env} {x:Str}:∀ (names:List (Str × NameKind)) (acc:List (Str × Addr)),((x,NameKind.free) ∈ names∨∃ c,acc.lookup x=some c)→∃ c,(cq env names acc).lookup x=some c
 | [],acc,h=>h.elim (fun z=>by cases z) id
 | (n,k) :: r,acc,h=>by
  unfold cq
  by_cases hk:(k == .free)=true
  ·rw [if_pos hk]
   refine l7 r _ ?_
   cases hb:x == n with
   | true=>exact .inr ⟨_,by rw [List.lookup_cons,hb]⟩
   | false =>
    rcases h with h | ⟨c,h⟩
    ·rcases List.mem_cons.mp h with e | e
     ·injection e with e1 _
      rw [e1] at hb;simp at hb
     ·exact .inl e
    ·exact .inr ⟨c,by rw [List.lookup_cons,hb];exact h⟩
  ·rw [if_neg hk]
   refine l7 r _ ?_
   rcases h with h | h
   ·rcases List.mem_cons.mp h with e | e
    ·injection e with _ e2
     rw [← e2] at hk;exact absurd rfl hk
    ·exact .inl e
   ·exact .inr h
theorem qR {x:Str} {c:Addr}:∀ (names:List (Str × NameKind)) (n:Nat) (acc:List (Str × Addr)),(cellsFrom n names acc).lookup x=some c→acc.lookup x=some c∨(n≤c∧(x,NameKind.cell) ∈ names)
 | [],_,_,h=>.inl h
 | (y,k) :: r,n,acc,h=>by
  unfold cellsFrom at h
  by_cases hk:(k == .cell)=true
  ·rw [if_pos hk] at h
   rcases qR r _ _ h with q | ⟨q1,q2⟩
   ·rw [List.lookup_cons] at q
    cases hb:x == y with
    | true=>rw [hb] at q;cases q;exact .inr ⟨Nat.le_refl _,by rw [beq_iff_eq.mp hb,beq_iff_eq.mp hk];exact List.mem_cons_self⟩
    | false=>rw [hb] at q;exact .inl q
   ·exact .inr ⟨by omega,List.mem_cons_of_mem _ q2⟩
  ·rw [if_neg hk] at h
   rcases qR r _ _ h with q | ⟨q1,q2⟩
   ·exact .inl q
   ·exact .inr ⟨q1,List.mem_cons_of_mem _ q2⟩
theorem pQ {x:Str} {lo:Nat}:∀ (names:List (Str × NameKind)) (n:Nat) (acc:List (Str × Addr)),lo≤n→((x,NameKind.cell) ∈ names∨∃ c,acc.lookup x=some c∧lo≤c)→∃ c,(cellsFrom n names acc).lookup x=some c∧lo≤c
 | [],_,_,_,h=>h.elim (fun z=>by cases z) id
 | (y,k) :: r,n,acc,hn,h=>by
  unfold cellsFrom
  by_cases hk:(k == .cell)=true
  ·rw [if_pos hk]
   refine pQ r _ _ (by omega) ?_
   cases hb:x == y with
   | true=>exact .inr ⟨n,by rw [List.lookup_cons,hb],hn⟩
   | false =>
    rcases h with h | ⟨c,h,hc⟩
    ·rcases List.mem_cons.mp h with e | e
     ·injection e with e1 _
      rw [e1] at hb;simp at hb
     ·exact .inl e
    ·exact .inr ⟨c,by rw [List.lookup_cons,hb];exact h,hc⟩
  ·rw [if_neg hk]
   refine pQ r _ _ hn ?_
   rcases h with h | h
   ·rcases List.mem_cons.mp h with e | e
    ·injection e with _ e2
     rw [← e2] at hk;exact absurd rfl hk
    ·exact .inl e
   ·exact .inr h
theorem l8 {x:Str}:∀ (names:List (Str × NameKind)) (n:Nat) (acc:List (Str × Addr)),(x,NameKind.cell) ∉ names→(cellsFrom n names acc).lookup x=acc.lookup x
 | [],_,_,_=>rfl
 | (y,k) :: r,n,acc,h=>by
  unfold cellsFrom
  have hr:(x,NameKind.cell) ∉ r:=fun z=>h (List.mem_cons_of_mem _ z)
  by_cases hk:(k == .cell)=true
  ·rw [if_pos hk,l8 r _ _ hr,List.lookup_cons]
   cases hb:x == y with
   | true=>exact absurd (by rw [beq_iff_eq.mp hb,beq_iff_eq.mp hk];exact List.mem_cons_self) h
   | false=>rfl
  ·rw [if_neg hk];exact l8 r _ _ hr
theorem tL:∀ (names:List (Str × NameKind)) (n:Nat) (acc:List (Str × Addr)),(∀ x c,acc.lookup x=some c→c < n)→(∀ x y c,acc.lookup x=some c→acc.lookup y=some c→x=y) →
  ∀ x y c,(cellsFrom n names acc).lookup x=some c→(cellsFrom n names acc).lookup y=some c→x=y
 | [],_,_,_,h=>h
 | (z,k) :: r,n,acc,eU,h=>by
  unfold cellsFrom
  by_cases hk:(k == .cell)=true
  ·rw [if_pos hk]
   refine tL r (n+1) _ (fun x c e=>?_) fun x y c e1 e2=>?_
   ·rw [List.lookup_cons] at e
    cases hb:x == z with
    | true=>rw [hb] at e;cases e;exact Nat.lt_succ_self _
    | false=>rw [hb] at e;exact Nat.lt_succ_of_lt (eU x c e)
   ·rw [List.lookup_cons] at e1 e2
    cases hb:x == z with
    | true =>
     rw [hb] at e1;cases e1
     cases Fx:y == z with
     | true=>rw [beq_iff_eq.mp hb,beq_iff_eq.mp Fx]
     | false=>rw [Fx] at e2;exact absurd (eU y _ e2) (Nat.lt_irrefl _)
    | false =>
     rw [hb] at e1
     cases Fx:y == z with
     | true=>rw [Fx] at e2;cases e2;exact absurd (eU x _ e1) (Nat.lt_irrefl _)
     | false=>rw [Fx] at e2;exact h x y c e1 e2
  ·rw [if_neg hk];exact tL r n _ eU h
theorem kT {x:Str} {c:Addr}:∀ (names:List (Str × NameKind)) (h:Heap) (acc:List (Str × Addr)),(∀ y c,acc.lookup y=some c→∃ v,h.IsCell c v) →
  (cellsFrom h.objs.size names acc).lookup x=some c→∃ v,(pushCells h names).IsCell c v
 | [],h,acc,ha,e=>ha x c e
 | (y,k) :: r,h,acc,ha,e=>by
  unfold cellsFrom at e
  unfold pushCells
  by_cases hk:(k == .cell)=true
  ·rw [if_pos hk] at e ⊢
   rw [show h.objs.size+1=(h.push { cls:=.type "cell",data:=.cell none }).objs.size from (Heap.size_push ..).symm] at e
   refine kT r _ _ (fun z c' q=>?_) e
   rw [List.lookup_cons] at q
   cases hb:z == y with
   | true=>rw [hb] at q;cases q;exact ⟨none,_,Heap.get?_push_size _ rfl,rfl⟩
   | false =>
    rw [hb] at q
    obtain ⟨v,w⟩:=ha z c' q
    exact ⟨v,w.keeps fun b o e=>Heap.get?_push_of_some _ e⟩
  ·rw [if_neg hk] at e ⊢
   exact kT r _ _ ha e
section
variable {M:Model} {A:Around} {E:Value→Shared→Prop} {s:Shared}
theorem Br {scope:Scope} {globals:Addr} {cl:List (Str × Addr)} {qual:Str} {env:Env} {Q:Env→Shared→Prop}
  (h:Q { scope,locals:=s.heap.objs.size,globals,cells:=cellsFrom (s.heap.objs.size+1) scope.names cl,qual,func:=none,code:=env.code,frame:=env.frame,builtins:=env.builtins }
   { s with heap:=pushCells (s.heap.push { cls:=.type "dict",data:=.dict #[] }) scope.names }) :
  wpAny M A (newFunctionEnv scope globals cl [] qual none .none (some env)) Q E s:=by
 simp only [newFunctionEnv,Option.isSome_some,if_true]
 refine wpAny_bind (wpAny_alloc ?_)
 refine wpAny_bind (wpAny_layCells _ (fun name kind cells=>by cases hkc:kind == NameKind.cell <;> simp [hkc]) _ _ _ _ ?_)
 rw [show ({ s with heap:=s.heap.push { cls:=.type "dict",data:=.dict #[] } }:Shared).heap.objs.size=s.heap.objs.size+1 from Heap.size_push ..]
 refine wpAny_bind ?_
 rw [List.forIn_nil]
 exact wpAny_pure (wpAny_pure h)
end
section
variable {prog:Program} {w:World} {A:Around} {R:Result→Shared→Prop} {s:Shared}
theorem AO {elt target iter:Expr} {ifs:List Expr} {scope:Scope} {pos:Pos} {it acc:Value} {env:Env} (I:Nat→Shared→Prop)
  (turn:∀ n s,I n s→wpAny (model prog w) A (pyNext it) (fun r s₁=>match r with
   | none=>R (.ok .next) s₁
   | some v=>wpAny (model prog w) A (letOwnedTupleGo target it v) (fun _ s₁'=>wpAny (model prog w) A (assign target env v) (fun _ s₂ =>
     wpAny (model prog w) A (forIn ifs true fun c r=>if r=true then do let ok ← isTrue c env (eval c env);pure (ForInStep.yield ok) else pure (ForInStep.yield r)) (fun ok s₃ =>
      if ok=true then wpAny (model prog w) A (eval elt env) (fun x s₄ =>
       wpAny (model prog w) A (call (.builtin "list.append") [acc,x]) (fun _ s₅=>∃ m,m < n∧I m s₅) (fun _ _=>False) s₄) (fun _ _=>False) s₃
      else ∃ m,m < n∧I m s₃) (fun _ _=>False) s₂) (fun _ _=>False) s₁') (fun _ _=>False) s₁) (fun _ _=>False) s)
  (n:Nat) (h:I n s) :
  codeAny (model prog w) A (.compLoop (.ListComp elt [⟨target,iter,ifs,0⟩] scope pos) 0 it acc env) R s:=by
 refine codeAny_loop rfl I (fun n s hI=>?_) n h
 show wpAny _ A ((compTurn (.ListComp elt [⟨target,iter,ifs,0⟩] scope pos) 0 it acc env).onRaise (fun x=>do noteFrame x env;theTreesLotGoes x)) _ _ s
 refine wpAny_noted ?_
 rw [compTurn_list]
 refine wpAny_bind (wpAny_standAt (wpAny_bind (wpAny_mono (turn n s hI) (fun r s₁ h₁=>?_) fun _ _ h'=>h'.elim)))
 cases r with
 | none=>exact wpAny_pure h₁
 | some v =>
  refine wpAny_bind (wpAny_mono h₁ (fun _ s₁' h₁'=>?_) fun _ _ h'=>h'.elim)
  refine wpAny_bind (wpAny_mono h₁' (fun _ s₂ h₂=>wpAny_bind (wpAny_mono h₂ (fun ok s₃ h₃=>?_) fun _ _ h'=>h'.elim)) fun _ _ h'=>h'.elim)
  cases ok with
  | false=>exact wpAny_pure ⟨rfl,h₃⟩
  | true =>
   exact wpAny_bind (wpAny_bind (wpAny_mono h₃ (fun x s₄ h₄=>wpAny_bind (wpAny_mono h₄ (fun _ s₅ h₅=>wpAny_pure (wpAny_pure ⟨rfl,h₅⟩)) fun _ _ h'=>h'.elim)) fun _ _ h'=>h'.elim))
end
end L2
namespace L2
open PySem PySem.Spec PyProof.Rows
def AQ (X:Cx) (Nc:List Str) (scope:Scope) (C:Addr) (fp:List Addr) (s:Shared) (H:Hp):Cx where
 prog:=X.prog
 w:=X.w
 K:=X.K
 mg:=X.mg
 base:=X.base
 A:=X.A
 N:=Nc
 s₀:=s
 H₀:=H
 env:=compEnvC scope (cellsFrom (C+1) scope.names (cq X.env scope.names [])) C X.env
 outer:=X.stack
 stack:=X.stack
 ex:=fp
 fn:=fun x=>scope.names.contains (x,NameKind.cell)
 calm:=X.calm
 pn:=[]
 xe:=fun _ _=>False
structure fL (X:Cx) (Nc:List Str) (ix:List (Option Nat)) (scope:Scope):Prop where
 kind:scope.kind=.function
 nd:Nc.Nodup
 len:ix.length=Nc.length
 loc:∀ x ∈ scope.names,x.2=.local→scope.names.lookup x.1=some .local
 free:∀ x ∈ scope.names,x.2=.free→X.env.kindOf x.1=some .cell∨X.env.kindOf x.1=some .free
 once:∀ x,(x,NameKind.free) ∈ scope.names→(x,NameKind.cell) ∉ scope.names
 out:∀ (i j:Nat) (x:Str),ix[i]?=some (some j)→Nc[i]?=some x→X.N[j]?=some x∧scope.names.lookup x=some .free
def wK (ix:List (Option Nat)) (σ:St):St:=ix.map fun o=>o.bind fun j=>(σ[j]?).bind id
theorem l9 {env:Env} {x:Str}:∀ {names:List (Str × NameKind)} {k:NameKind},names.lookup x=some k →
  (names.map fun (n,k)=>if (k == NameKind.free && env.scope.kind == .function && env.kindOf n == some .cell) then (n,NameKind.cell) else (n,k)).lookup x =
   some (if (k == NameKind.free && env.scope.kind == .function && env.kindOf x == some .cell) then NameKind.cell else k)
 | [],_,h=>by simp at h
 | (n,k') :: r,k,h=>by
  show List.lookup x ((if (k' == NameKind.free && env.scope.kind == .function && env.kindOf n == some .cell)=true then (n,NameKind.cell) else (n,k')) :: _)=_
  cases hx:x == n with
  | true =>
   simp only [List.lookup_cons,hx] at h
   cases h
   have e:=beq_iff_eq.mp hx
   subst e
   split <;> simp [List.lookup_cons]
  | false =>
   simp only [List.lookup_cons,hx] at h
   have ih:=l9 (env:=env) (names:=r) h
   split <;> (simp only [List.lookup_cons,hx];exact ih)
theorem rY {env:Env} {x:Str}:∀ {names:List (Str × NameKind)},names.lookup x=none →
  (names.map fun (n,k)=>if (k == NameKind.free && env.scope.kind == .function && env.kindOf n == some .cell) then (n,NameKind.cell) else (n,k)).lookup x=none
 | [],_=>rfl
 | (n,k') :: r,h=>by
  show List.lookup x ((if (k' == NameKind.free && env.scope.kind == .function && env.kindOf n == some .cell)=true then (n,NameKind.cell) else (n,k')) :: _)=_
  cases hx:x == n with
  | true=>simp only [List.lookup_cons,hx] at h;cases h
  | false =>
   simp only [List.lookup_cons,hx] at h
   have ih:=rY (env:=env) (names:=r) h
   split <;> (simp only [List.lookup_cons,hx];exact ih)
section
variable {X:Cx} {pins:List (Addr × Obj)} {σ:St} {H:Hp} {s:Shared} {Nc:List Str} {ix:List (Option Nat)} {scope:Scope} {fp:List Addr}
theorem fL.cells (S:fL X Nc ix scope) (I:Inv X pins σ H s):∀ x ∈ scope.names,x.2=.free→∃ c,X.env.cells.lookup x.1=some c:=fun x hx hf=>I.ok.has x.1 (S.free x hx hf)
theorem zR (S:fL X Nc ix scope) (I:Inv X pins σ H s) {C:Addr} {x:Str} {c:Addr} (e:(cellsFrom (C+1) scope.names (cq X.env scope.names [])).lookup x=some c) :
  X.env.cells.lookup x=some c∨(C+1≤c∧(x,NameKind.cell) ∈ scope.names):=by
 rcases qR _ _ _ e with q | q
 ·exact .inl (dF _ _ (S.cells I) (fun _ z=>by simp at z) q)
 ·exact .inr q
theorem Jg (S:fL X Nc ix scope) (I:Inv X pins σ H s) (Sl:∀ b ∈ fp,tJ X pins H b) (ho:∀ b ∈ fp,∃ o,s.heap.get? b=some o) {t':Nat} :
  Inv (AQ X Nc scope (s.heap.objs.size+1) fp s H) [] (wK ix σ) (upd H s.heap.objs.size (.lst []))
   { s with heap:=pushCells ((s.heap.push { cls:=.type "list",dict:=none,data:=.seq ([]:List Value).toArray }).push { cls:=.type "dict",data:=.dict #[] }) scope.names,toks:=t' }:=by
 have keep:∀ b o,s.heap.get? b=some o→(pushCells ((s.heap.push { cls:=.type "list",dict:=none,data:=.seq ([]:List Value).toArray }).push { cls:=.type "dict",data:=.dict #[] }) scope.names).get? b=some o :=
  fun b o e=>pushCells_keeps _ _ b o (Heap.get?_push_of_some _ (Heap.get?_push_of_some _ e))
 have hD:(pushCells ((s.heap.push { cls:=.type "list",dict:=none,data:=.seq ([]:List Value).toArray }).push { cls:=.type "dict",data:=.dict #[] }) scope.names).get? s.heap.objs.size =
   some { cls:=.type "list",dict:=none,data:=.seq ([]:List Value).toArray }:=pushCells_keeps _ _ _ _ (Heap.get?_push_of_some _ (Heap.get?_push_size _ rfl))
 have pf:(s.heap.push { cls:=.type "list",dict:=none,data:=.seq ([]:List Value).toArray }).objs.size=s.heap.objs.size+1:=Heap.size_push ..
 have fresh:∀ a:Addr,s.heap.objs.size≤a→H a=none:=fun a h=>I.dN.fresh h
 have Lf:∀ x c,X.env.cells.lookup x=some c→c < s.heap.objs.size:=fun x c e=>let ⟨_,q⟩:=I.cell x c e;q.lt
 have clt:∀ x c,(cq X.env scope.names []).lookup x=some c→c < s.heap.objs.size+1+1:=fun x c e =>
  Nat.lt_succ_of_lt (Nat.lt_succ_of_lt (Lf x c (dF _ _ (S.cells I) (fun _ z=>by simp at z) e)))
 have Wq:∀ x y c,(cq X.env scope.names []).lookup x=some c→(cq X.env scope.names []).lookup y=some c→x=y:=fun x y c e1 e2 =>
  I.ok.inj x y c (dF _ _ (S.cells I) (fun _ z=>by simp at z) e1) (dF _ _ (S.cells I) (fun _ z=>by simp at z) e2)
 refine ⟨⟨I.ok.mod,S.kind,I.ok.glob,I.ok.blt,Nat.le_succ _,tL _ _ _ clt Wq,fun x hx=>?has,fun x c hf e=>?O8,I.ok.hd,I.ok.frames,.inl rfl,fun b hb=>?R1,I.bs,Nat.le_trans I.ok.JJ I.sz,fun b o e hb=>?DJ,fun b hb hs=>?DK,I.stack,I.AD⟩,
  rfl,I.bare,Un.laid keep (Nat.le_refl _) (fresh _ (Nat.le_refl _)),⟨fun _=>none,?ns,fun i x v e1 e2 e3=>?loc⟩,fun x c e=>?cell,?free,fun x c e=>?nN,fun p hp=>absurd (show p ∈ ([]:List (Addr × Obj)) from hp) (by simp),I.dN.laid keep (Nat.le_refl _) ?obj,?len⟩
 case has =>
  have hx:(relabel scope X.env).names.lookup x=some .cell∨(relabel scope X.env).names.lookup x=some .free:=hx
  show ∃ c,(cellsFrom (s.heap.objs.size+1+1) scope.names (cq X.env scope.names [])).lookup x=some c
  cases hk:scope.names.lookup x with
  | none =>
   rw [show (relabel scope X.env).names.lookup x=none from rY hk] at hx
   rcases hx with z | z <;> cases z
  | some k =>
   have hm:=PySem.mem_of_lookup hk
   rw [show (relabel scope X.env).names.lookup x=_ from l9 hk] at hx
   cases k with
   | cell=>obtain ⟨c,e,_⟩:=pQ (x:=x) (lo:=0) scope.names (s.heap.objs.size+1+1) (cq X.env scope.names []) (Nat.zero_le _) (.inl hm);exact ⟨c,e⟩
   | free =>
    obtain ⟨c,e⟩:=l7 (env:=X.env) (x:=x) scope.names [] (.inl hm)
    exact ⟨c,by rw [l8 _ _ _ (S.once x hm)];exact e⟩
   | _=>rcases hx with z | z <;> simp at z
 case O8 =>
  have hm:(x,NameKind.cell) ∈ scope.names:=List.contains_iff_mem.mp hf
  obtain ⟨c',e',hc⟩:=pQ (x:=x) (lo:=s.heap.objs.size+1+1) scope.names (s.heap.objs.size+1+1) (cq X.env scope.names []) (Nat.le_refl _) (.inl hm)
  have e2:(cellsFrom (s.heap.objs.size+1+1) scope.names (cq X.env scope.names [])).lookup x=some c:=e
  rw [e'] at e2;cases e2
  exact Nat.le_trans (Nat.le_trans (Nat.le_succ _) (Nat.le_succ _)) hc
 case R1 =>
  obtain ⟨o,eo⟩:=ho b hb
  have eU:=Heap.lt_size eo
  refine ⟨Nat.ne_of_lt (Nat.lt_succ_of_lt eU),fun x c e=>?_⟩
  rcases zR S I e with q | ⟨q,_⟩
  ·exact (Sl b hb).2.2.2.2.1 x c q
  ·exact Nat.ne_of_gt (Nat.lt_of_lt_of_le (Nat.lt_succ_of_lt (Nat.lt_succ_of_lt eU)) q)
 case DJ =>
  obtain ⟨_,_,_,q,_⟩:=Sl b hb
  rcases q with q | q
  ·exact I.ok.DJ b o e q
  ·exact absurd (Nat.lt_of_lt_of_le (Nat.lt_of_lt_of_le (Heap.lt_size e) I.ok.JJ) q) (Nat.lt_irrefl _)
 case DK =>
  obtain ⟨_,q1,q2,_⟩:=Sl b hb
  rcases List.mem_cons.mp (I.DL b hs) with z | z
  ·exact q1 z
  ·exact q2 z
 case ns =>
  refine Heap.Ns.keeps (h:=(s.heap.push { cls:=.type "list",dict:=none,data:=.seq ([]:List Value).toArray }).push { cls:=.type "dict",data:=.dict #[] }) ?_ (pushCells_keeps _ _)
  have q:=Heap.Ns.new (s.heap.push { cls:=.type "list",dict:=none,data:=.seq ([]:List Value).toArray }) (.type "dict")
  rw [pf] at q
  exact q
 case loc =>
  have ON:(ix.map fun o=>o.bind fun j=>(σ[j]?).bind id)[i]?=some (some v):=e2
  rw [List.getElem?_map] at ON
  cases ei:ix[i]? with
  | none=>rw [ei] at ON;cases ON
  | some o =>
   rw [ei] at ON
   cases o with
   | none=>simp at ON
   | some j =>
    obtain ⟨hN,RU⟩:=S.out i j x ei e1
    have ej:σ[j]?=some (some v):=by
     cases q:σ[j]? with
     | none=>simp [q] at ON
     | some y=>simp [q] at ON;rw [ON]
    have hm:=PySem.mem_of_lookup RU
    have Wr:VT X.env.scope x:=by
     rcases S.free (x,.free) hm rfl with z | z
     ·exact .inr (.inl z)
     ·exact .inr (.inr z)
    obtain ⟨m0,hn0,hl0⟩:=I.loc
    obtain ⟨u,r,l⟩:=hl0 j x v hN ej Wr
    refine ⟨u,r,?_⟩
    have hk:X.env.kindOf x=some .cell∨X.env.kindOf x=some .free:=S.free (x,.free) hm rfl
    rcases l with ⟨z,_⟩ | ⟨_,c,ec,Fc⟩
    ·rcases hk with y | y <;> (rw [z] at y;cases y)
    ·refine .inr ⟨?_,c,?_,Fc.keeps keep⟩
     ·show (relabel scope X.env).names.lookup x=_∨(relabel scope X.env).names.lookup x=_
      rw [show (relabel scope X.env).names.lookup x=_ from l9 RU]
      split
      ·exact .inl rfl
      ·exact .inr rfl
     ·show (cellsFrom (s.heap.objs.size+1+1) scope.names (cq X.env scope.names [])).lookup x=some c
      rw [l8 _ _ _ (S.once x hm)]
      obtain ⟨c',e'⟩:=l7 (env:=X.env) (x:=x) scope.names [] (.inl hm)
      have q:=dF _ _ (S.cells I) (fun _ z=>by simp at z) e'
      rw [ec] at q;cases q
      exact e'
 case cell =>
  have q:=kT (x:=x) (c:=c) scope.names ((s.heap.push { cls:=.type "list",dict:=none,data:=.seq ([]:List Value).toArray }).push { cls:=.type "dict",data:=.dict #[] }) (cq X.env scope.names [])
   (fun y c' e'=>by
    obtain ⟨v,z⟩:=I.cell y c' (dF _ _ (S.cells I) (fun _ z=>by simp at z) e')
    exact ⟨v,z.keeps fun b o e=>Heap.get?_push_of_some _ (Heap.get?_push_of_some _ e)⟩)
  rw [Heap.size_push,pf] at q
  exact q e
 case free =>
  show upd H s.heap.objs.size (.lst []) (s.heap.objs.size+1)=none
  rw [aH (Nat.succ_ne_self _)]
  exact fresh _ (Nat.le_succ _)
 case nN =>
  rcases zR S I e with q | ⟨q,_⟩
  ·rw [aH (Nat.ne_of_lt (Lf x c q))]
   exact I.nN x c q
  ·have h1:s.heap.objs.size < c:=Nat.lt_of_lt_of_le (Nat.lt_succ_of_lt (Nat.lt_succ_self _)) q
   rw [aH (Nat.ne_of_gt h1)]
   exact fresh c (Nat.le_of_lt h1)
 case obj=>exact ⟨Nat.zero_le _,[],0,.nil,hD⟩
 case len =>
  show (wK ix σ).length=Nc.length
  unfold wK
  rw [List.length_map,S.len]
end
def Sm (X:Cx) (ifs:List Expr) (t:TT):Prop :=
 ∀ (pins:List (Addr × Obj)) (s:Shared) (σ:St) (H:Hp) (Q:Bool→Hp→Prop),Inv X pins σ H s→t σ H Q →
  wpAny (model X.prog X.w) X.A (forIn ifs true fun c r=>if r=true then do let ok ← isTrue c X.env (eval c X.env);pure (ForInStep.yield ok) else pure (ForInStep.yield r)) (TP X pins σ Q) X.xe s
def Py:TT:=fun _ H Q=>Q true H
theorem b6 {X:Cx}:Sm X [] Py:=fun _ _ _ H _ I h=>wpAny_tests_nil ⟨H,I,h⟩
theorem vg {X:Cx} {c:Expr} {t:TT} (h:PT X c t):Sm X [c] t:=fun pins s σ H Q I hw=>wpAny_tests_one (h pins s σ H Q I hw)
def rZ (J:It) (g:TG) (tt:TT) (te:TE) (D:Addr) (σ:St) (H:Hp) (Q:VK):Prop:=∃ W:Nat→Nat→St→Hp→Prop,(∃ m,W 0 m σ H)∧∀ i m σ' H',W i m σ' H' →
 (J.stop i H'∧Q (.ref D) H')∨(J.go i H'∧∀ x H2,J.L7 i H' x H2→g x σ' H2 fun σ3 H3=>tt σ3 H3 fun b H4 =>
  if b=true then te σ3 H4 fun v H5=>∃ xs,H5 D=some (.lst xs)∧xs.length < sizeLine∧∃ m',m' < m∧W (i+1) m' σ3 (upd H5 D (.lst (xs ++ [v])))
  else ∃ m',m' < m∧W (i+1) m' σ3 H4)
def ZW (wi:TI) (ix:List (Option Nat)) (g:TG) (tt:TT) (te:TE):TE:=fun σ H Q=>wi σ H fun J H1=>∀ D,H1 D=none→rZ J g tt te D (wK ix σ) (upd H1 D (.lst [])) Q
section
variable {X:Cx} {tg elt iter:Expr} {ifs:List Expr} {scope:Scope} {pos:Pos} {wi:TI} {g:TG} {tt:TT} {te:TE} {Nc:List Str} {ix:List (Option Nat)}
theorem Bs {pins:List (Addr × Obj)} {σ:St} {H:Hp} {s:Shared} {it:Addr} {fp:List Addr} {tn:Nat→Heap→Prop} {J:It} {Q:VK} {R:Value→Addr→Result→Shared→Prop}
  (hc:X.calm=true) (S:fL X Nc ix scope) (I:Inv X pins σ H s) (T:Turn X.prog X.w X.K tg J fp it tn) (st:tn 0 s.heap) (f:∀ b ∈ fp,tJ X pins H b)
  (hg:PG (AQ X Nc scope (s.heap.objs.size+1) fp s H) tg g) (ht:Sm (AQ X Nc scope (s.heap.objs.size+1) fp s H) ifs tt) (he:PE (AQ X Nc scope (s.heap.objs.size+1) fp s H) elt te)
  (h:∀ D,H D=none→∃ W:Nat→Nat→St→Hp→Prop,(∃ m,W 0 m (wK ix σ) (upd H D (.lst [])))∧∀ i m σ' H',W i m σ' H' →
   (J.stop i H'∧Q (.ref D) H')∨(J.go i H'∧∀ x H2,J.L7 i H' x H2→g x σ' H2 fun σ3 H3=>tt σ3 H3 fun b H4 =>
    if b=true then te σ3 H4 fun v H5=>∃ xs,H5 D=some (.lst xs)∧xs.length < sizeLine∧∃ m',m' < m∧W (i+1) m' σ3 (upd H5 D (.lst (xs ++ [v])))
    else ∃ m',m' < m∧W (i+1) m' σ3 H4))
  (hR:∀ σ' H' s',Inv (AQ X Nc scope (s.heap.objs.size+1) fp s H) [] σ' H' s'→(∀ b ∈ fp,H' b=none)→Q (.ref s.heap.objs.size) H'→R (.ref s.heap.objs.size) (s.heap.objs.size+1) (.ok .next) s') :
  wpAny (model X.prog X.w) X.A (newList []) (fun acc s₃=>wpAny (model X.prog X.w) X.A (newFunctionEnv scope X.env.globals (cq X.env scope.names []) [] X.env.qual none .none (some X.env)) (fun Sn s₄ =>
   codeAny (model X.prog X.w) X.A (.compStart (.ListComp elt [⟨tg,iter,ifs,0⟩] scope pos) 0 (.ref it) acc { Sn with scope:=relabel scope X.env }) (R acc Sn.locals) s₄) X.xe s₃) X.xe s:=by
 obtain ⟨W,⟨m0,w0⟩,turn⟩:=h s.heap.objs.size (I.dN.fresh (Nat.le_refl _))
 refine wpAny_newObj_type (Br ?_)
 have I4:=Jg (t':=s.toks) S I f (fun b hb=>let ⟨o,e,_⟩:=T.obj _ _ st b hb;⟨o,e⟩)
 have pf:(s.heap.push { cls:=.type "list",dict:=none,data:=.seq ([]:List Value).toArray }).objs.size=s.heap.objs.size+1:=Heap.size_push ..
 dsimp only
 rw [pf]
 have MJ:tn 0 (pushCells ((s.heap.push { cls:=.type "list",dict:=none,data:=.seq ([]:List Value).toArray }).push { cls:=.type "dict",data:=.dict #[] }) scope.names) :=
  T.keep _ _ _ st fun b _ o e=>pushCells_keeps _ _ b o (Heap.get?_push_of_some _ (Heap.get?_push_of_some _ e))
 have Wu:∀ b ∈ fp,upd H s.heap.objs.size (.lst []) b=none:=fun b hb=>by
  obtain ⟨o,e,_⟩:=T.obj _ _ st b hb
  rw [aH (Nat.ne_of_lt (Heap.lt_size e))]
  exact (f b hb).1
 have DP:∀ {H':Hp},(∀ b ∈ fp,H' b=none)→∀ b ∈ fp,tJ (AQ X Nc scope (s.heap.objs.size+1) fp s H) [] H' b:=fun {H'} hn b hb=>by
  obtain ⟨q1,q2⟩:=I4.ok.R1 b hb
  exact ⟨hn b hb,q1,I4.ok.DK b hb,.inl hb,q2,fun p hp=>absurd (show p ∈ ([]:List (Addr × Obj)) from hp) (by simp)⟩
 have loop:codeAny (model X.prog X.w) X.A (.compLoop (.ListComp elt [⟨tg,iter,ifs,0⟩] scope pos) 0 (.ref it) (.ref s.heap.objs.size) (AQ X Nc scope (s.heap.objs.size+1) fp s H).env)
   (R (.ref s.heap.objs.size) (s.heap.objs.size+1))
   { s with heap:=pushCells ((s.heap.push { cls:=.type "list",dict:=none,data:=.seq ([]:List Value).toArray }).push { cls:=.type "dict",data:=.dict #[] }) scope.names }:=by
  refine AO (fun n s'=>∃ i σ' H',Inv (AQ X Nc scope (s.heap.objs.size+1) fp s H) [] σ' H' s'∧tn i s'.heap∧(∀ b ∈ fp,H' b=none)∧W i n σ' H') ?_ m0 ⟨0,_,_,I4,MJ,Wu,w0⟩
  rintro n s5 ⟨i,σ5,H5,I5,uh,JA,w5⟩
  rcases turn i n σ5 H5 w5 with ⟨stop,qn⟩ | ⟨go,step⟩
  ·refine cb (T.done (AQ X Nc scope (s.heap.objs.size+1) fp s H) rfl rfl rfl hc i [] s5 σ5 H5 _ I5 (DP JA) uh stop) fun r s6 ⟨hr,I6⟩=>?_
   subst hr
   exact hR σ5 H5 s6 I6 JA qn
  ·refine cb (T.item (AQ X Nc scope (s.heap.objs.size+1) fp s H) rfl rfl rfl hc i [] s5 σ5 H5 _ I5 (DP JA) uh go) fun r s6 ⟨u,hr,h6⟩=>?_
   subst hr
   refine cb h6 fun _ s7 ⟨x,H7,I7,r7,y7,Wv,fr7⟩=>?_
   have I7':=I7.pinned (DP fr7) (T.obj _ _ Wv)
   refine cb (hg _ s7 σ5 H7 x u _ I7' r7 (step x H7 y7)) fun _ s8 ⟨σ8,H8,I8,q8⟩=>?_
   refine cb (ht _ s8 σ8 H8 _ I8 q8) fun b s9 ⟨H9,I9,q9⟩=>?_
   have again:∀ {s':Shared} {σ':St} {H':Hp},Inv (AQ X Nc scope (s.heap.objs.size+1) fp s H) ([] ++ vx fp s7.heap) σ' H' s'→tn (i+1) s'.heap∧∀ b ∈ fp,H' b=none:=fun {s' σ' H'} I'=>by
    refine ⟨T.keep _ _ _ Wv fun b hb o e=>(I'.pin (b,o) (List.mem_append_right _ (List.mem_append_right _ (lz hb e)))).1,fun b hb=>?_⟩
    obtain ⟨o,e,d⟩:=T.obj _ _ Wv b hb
    exact (I'.pin (b,o) (List.mem_append_right _ (List.mem_append_right _ (lz hb e)))).2.1
   cases b with
   | false =>
    rw [if_neg Bool.false_ne_true] at q9 ⊢
    obtain ⟨m',hm,w9⟩:=q9
    obtain ⟨a1,a2⟩:=again I9
    exact ⟨m',hm,i+1,σ8,H9,I9.nv,a1,a2,w9⟩
   | true =>
    rw [if_pos rfl] at q9 ⊢
    refine cb (he _ s9 σ8 H9 _ I9 q9) fun v s10 ⟨x',Jh,I10,r10,xs,eD,eU,m',hm,w10⟩=>?_
    refine cb (bZ (X:=AQ X Nc scope (s.heap.objs.size+1) fp s H) _ s10 σ8 Jh (.ref s.heap.objs.size) [x'] (.ref s.heap.objs.size) [v] (fun _ H'=>H'=upd Jh s.heap.objs.size (.lst (xs ++ [x']))) I10 rfl (.cons r10 .nil)
     ⟨_,xs,x',rfl,rfl,eD,eU,rfl⟩) fun _ s11 ⟨_,Lh,ZX,_,e11⟩=>?_
    subst e11
    obtain ⟨a1,a2⟩:=again ZX
    exact ⟨m',hm,i+1,σ8,_,ZX.nv,a1,a2,w10⟩
 exact codeAny_compStart_list loop (T.self X.A 0 _ _ _ MJ loop)
theorem comp_back {pins:List (Addr × Obj)} {σ σ':St} {H H':Hp} {s s':Shared} {fp:List Addr} (I:Inv X pins σ H s) (f:∀ b ∈ fp,tJ X pins H b) (J:Inv (AQ X Nc scope (s.heap.objs.size+1) fp s H) [] σ' H' s'):Inv X pins σ H' s' :=
 I.JK (ch:=fp) J.os J.base J.dN J.bare fun b hb=>let ⟨_,q1,_,q3,q4,q5⟩:=f b hb;⟨q3,q1,q4,q5⟩
theorem Inv.OO {pins:List (Addr × Obj)} {σ:St} {H:Hp} {s:Shared} {C:Addr} {h':Heap} (I:Inv X pins σ H s) (f:tJ X pins H C) (hs:Heap.SameBut C s.heap h'):Inv X pins σ H { s with heap:=h' } :=
 I.turned (t':=s.toks) (it:=C) (fun b o hb e=>(hs.2 b hb).trans e) f.1 f.2.1 f.2.2.2.1 f.2.2.2.2.1 f.2.2.2.2.2
theorem iJ (hc:X.calm=true) (S:fL X Nc ix scope) (hi:PI X tg iter wi)
  (hb:∀ (C:Addr) (fp:List Addr) (s:Shared) (H:Hp),PG (AQ X Nc scope C fp s H) tg g∧Sm (AQ X Nc scope C fp s H) ifs tt∧PE (AQ X Nc scope C fp s H) elt te)
  (hs:∀ x,foldedSetIterable iter X.env x=pure x:=by intro _;rfl):PE X (.ListComp elt [⟨tg,iter,ifs,0⟩] scope pos) (ZW wi ix g tt te):=by
 intro pins s σ H Q I h
 rw [eval_ListComp]
 refine wpAny_comprehension_free (use:=none) rfl hs (wJ (S.cells I)) S.kind S.loc (cb (hi pins s σ H _ I h) fun v s1 h1=>cb h1 fun VX s2 h2=>?_)
 obtain ⟨it,fp,tn,J,H2,e,I2,T,BM,f2,q2⟩:=h2
 subst e
 obtain ⟨hg,ht,he⟩:=hb (s2.heap.objs.size+1) fp s2 H2
 refine Bs (R:=fun acc C=>compPost (model X.prog X.w) X.A X.xe none (EP X pins σ Q) acc C) hc S I2 T BM f2 hg ht he q2 fun σ' H' s' J' HI q'=>?_
 obtain ⟨m,hn,_⟩:=J'.loc
 refine ⟨m,hn,fun h' HJ=>⟨.ref _,H',?_,rfl,q'⟩⟩
 exact (comp_back I2 f2 J').OO (I2.BZ (Nat.le_succ _) J'.free) HJ
theorem jL {i:Nat} {y:Str} {py So:Pos} (hN:X.N.Nodup) (hy:X.N[i]?=some y) (hl:Loc X.env.scope y) (hc:X.calm=true) (S:fL X Nc ix scope) (hi:PI X tg iter wi)
  (hb:∀ (C:Addr) (fp:List Addr) (s:Shared) (H:Hp),PG (AQ X Nc scope C fp s H) tg g∧Sm (AQ X Nc scope C fp s H) ifs tt∧PE (AQ X Nc scope C fp s H) elt te)
  (Va:swapsWith (.ListComp elt [⟨tg,iter,ifs,0⟩] scope pos) (some (.Name y py)) So.line X.env=pure true:=by rfl)
  (hs:∀ x,foldedSetIterable iter X.env x=pure x:=by intro _;rfl)
  (hf:X.fn y=true∨X.env.scope.names.lookup y=some .local:=by first | exact .inl rfl | exact .inr rfl | assumption) :
  PS X (.Assign [.Name y py] (.ListComp elt [⟨tg,iter,ifs,0⟩] scope pos) So) (L3 (ZW wi ix g tt te) (ik i)):=by
 intro pins s σ H D I h
 rw [exec_Assign_Name_used _ _ _ _ Va]
 refine wpAny_bind (wpAny_standAt (wpAny_bind ?_))
 show wpAny _ X.A (do let _ ← comprehension (.ListComp elt [⟨tg,iter,ifs,0⟩] scope pos) scope X.env _ (newList []) false (eval iter X.env) (some (assign (.Name y py) X.env))) _ _ s
 refine wpAny_bind (wpAny_mono (wpAny_comprehension_free (use:=some (assign (.Name y py) X.env)) (Q:=fun _ s'=>SP X pins D .next s') rfl hs (wJ (S.cells I)) S.kind S.loc
  (cb (hi pins s σ H _ I h) fun v s1 h1=>cb h1 fun VX s2 h2=>?_)) (fun _ s' hq=>wpAny_pure (wpAny_pure hq)) fun _ _ e=>e)
 obtain ⟨it,fp,tn,J,H2,e,I2,T,BM,f2,q2⟩:=h2
 subst e
 obtain ⟨hg,ht,he⟩:=hb (s2.heap.objs.size+1) fp s2 H2
 refine Bs (Q:=fun x H1=>ik i x σ H1 D.nx) (R:=fun acc C=>compPost (model X.prog X.w) X.A X.xe (some (assign (.Name y py) X.env)) (fun _ s'=>SP X pins D .next s') acc C) hc S I2 T BM f2 hg ht he q2 fun σ' H' s' J' HI q'=>?_
 obtain ⟨m,hn,_⟩:=J'.loc
 have I3:=comp_back I2 f2 J'
 have fC:=I2.BZ (Nat.le_succ _) J'.free
 show wpAny _ X.A (assign (.Name y py) X.env (.ref s2.heap.objs.size)) _ _ s'
 refine wpAny_assign_Name (zG (v:=.ref s2.heap.objs.size) I3 hN hy hl rfl (fun s4 I4 ⟨a,HK,ha⟩=>?_) hf)
 have haC:s2.heap.objs.size+1≠a:=by
  rcases ha with z | z
  ·rw [z];exact fC.2.1
  ·exact Ne.symm (fC.2.2.2.2.1 y a z)
 refine ⟨m,hn.sameBut HK haC,fun h' HJ=>⟨_,H',I4.OO fC HJ,q'⟩⟩
end
end L2
namespace L2
open PySem PySem.Spec PyProof.Rows
structure Pz (P:Program) (w:World) (outer:List Env) (H:Hp) (s:Shared) (a C:Addr) (a0:Value) (B:Heap) (H':Hp) (s':Shared):Prop where
 os:s'.os=s.os
 bare:AllBare s'.gens
 un:Un (pM outer) [] H H' s.heap s'.heap
 dN:tF P w H' s'.heap
 Ji:Heap.FlyingW B outer a (.ref C) a0 s'.heap
 MK:∀ b o,s.heap.get? b=some o→b ∉ pM outer→∃ o',B.get? b=some o'
 G7:∀ b u,H' b=some u→∃ o',B.get? b=some o'
def j5 (P:Program) (w:World):Bi:=fun outer H s E e s'=>∃ (a C:Addr) (a0:Value) (B:Heap) (H':Hp),e=.ref a∧Pz P w outer H s a C a0 B H' s'∧E (.ref C) none H'
theorem Fy {l:List Env} {b:Addr} {base h:Heap} (F:h.FunFrames base l) (hb:b ∈ pM l):base.get? b=none∧∃ o,h.get? b=some o∧∀ vs,o.data≠.fields vs:=F.mem hb
theorem Bt {outer:List Env} {H H':Hp} {h h1 h2 B:Heap} (u:Un (pM outer) [] H H' h h1) (F:h1.FunFrames B outer) (Ww:B.StaysIn h1) (Wy:B.StaysIn h2) (up:h1.UpToSlots h2)
  (MK:∀ b o,h.get? b=some o→b ∉ pM outer→∃ o',B.get? b=some o'):Un (pM outer) [] H H' h h2:=by
 have at2:∀ b o,h.get? b=some o→b ∉ pM outer→∀ o1,h1.get? b=some o1→h2.get? b=some o1:=fun b o e hb o1 e1=>by
  obtain ⟨o',eB⟩:=MK b o e hb
  have q:=Ww b o' eB
  rw [e1] at q;cases q
  exact Wy b _ eB
 refine ⟨fun b o e n hb hx=>at2 b o e hb o (u.keep b o e n hb hx),fun b o e n hb hx=>?_,u.free,fun b o e hx=>?_,u.nk,u.nW,u.nq⟩
 ·obtain ⟨sl,e1⟩:=u.slot b o e n hb hx
  obtain ⟨_,o1,q1,q2⟩:=Fy F hb
  rw [e1] at q1;cases q1
  obtain ⟨Vb,e2⟩:=up b _ e1 q2
  exact ⟨Vb,e2⟩
 ·obtain ⟨o1,e1⟩:=u.there b o e hx
  by_cases hb:b ∈ pM outer
  ·obtain ⟨_,o2,q1,q2⟩:=Fy F hb
   obtain ⟨Vb,e2⟩:=up b _ q1 q2
   exact ⟨_,e2⟩
  ·exact ⟨o1,at2 b o e hb o1 e1⟩
theorem zS {P:Program} {w:World} {H:Hp} {h1 h2 B:Heap} (x:tF P w H h1) (Ww:B.StaysIn h1) (Wy:B.StaysIn h2) (G7:∀ b u,H b=some u→∃ o',B.get? b=some o'):tF P w H h2:=fun b o e=>by
 refine (x b o e).BR (fun c u hc q=>?_) (fun _ q=>q) fun _ _ q=>q
 have ht:∃ o',B.get? c=some o':=by
  rcases hc with z | z
  ·rw [z];exact G7 b o e
  ·exact G7 c _ z
 obtain ⟨o',eB⟩:=ht
 have q1:=Ww c o' eB
 rw [q] at q1;cases q1
 exact Wy c _ eB
structure Body (X:Cx) (E:XK):Prop where
 xe:X.xe=fun e s'=>wpAny (model X.prog X.w) X.A (leaving X.env e) (fun _ Pe=>j5 X.prog X.w X.outer X.H₀ X.s₀ E e Pe) (fun e' Pe=>j5 X.prog X.w X.outer X.H₀ X.s₀ E e' Pe) s'
 Ld:X.stack=X.env :: X.outer
 fr:X.env.frame=some X.env.locals
 ex:X.ex=[]
section
variable {X:Cx} {E:XK} {pins:List (Addr × Obj)} {σ:St} {H:Hp} {s:Shared}
theorem Inv.old (I:Inv X pins σ H s) {b:Addr} {o:Obj} (e:X.s₀.heap.get? b=some o):b≠X.env.locals:=Nat.ne_of_lt (Nat.lt_of_lt_of_le (Heap.lt_size e) I.ok.above)
theorem Body.base (Bd:Body X E) (I:Inv X pins σ H s):Un X.fs [] X.H₀ H X.s₀.heap s.heap:=by
 have q:=I.base
 rw [Bd.ex] at q
 exact q
theorem Body.Jj (Bd:Body X E) {b:Addr} (h1:b≠X.env.locals) (h2:b ∉ pM X.outer):b ∉ pM X.stack:=by
 rw [Bd.Ld]
 intro z
 obtain ⟨env,he,hf⟩:=List.mem_filterMap.mp z
 rcases List.mem_cons.mp he with rfl | he
 ·rw [Bd.fr] at hf;exact h1 (Option.some.inj hf).symm
 ·exact h2 (List.mem_filterMap.mpr ⟨env,he,hf⟩)
theorem lH (Bd:Body X E):l4 (j5 X.prog X.w) X E:=by
 intro pins σ H s e s' I h
 obtain ⟨a,C,a0,B,H',rfl,T,q⟩:=h
 rw [Bd.xe]
 have RU:X.A.frames=some (X.env :: X.outer):=by rw [← Bd.Ld];exact I.ok.frames
 have Ji:=T.Ji
 rw [Bd.Ld] at Ji
 refine wpAny_leaves_onW RU Bd.fr Ji fun h' P0 up=>?_
 have MK:∀ b o,X.s₀.heap.get? b=some o→b ∉ pM X.outer→∃ o',B.get? b=some o':=fun b o e hb=>by
  obtain ⟨o1,e1⟩:=(Bd.base I).there b o e (by simp)
  exact T.MK b o1 e1 (Bd.Jj (I.old e) hb)
 have u1:Un (pM X.outer) [] X.H₀ H' X.s₀.heap s'.heap:=by
  have ub:=Bd.base I
  refine ⟨fun b o e n hb hx=>T.un.keep b o (ub.keep b o e n hb hx) (ub.free b o e n hx) (Bd.Jj (I.old e) hb) (by simp),fun b o e n hb hx=>?_,fun b o e n hx=>?_,fun b o e hx=>?_,fun b xs e=>T.un.nk b xs (ub.nk b xs e),
   fun b o xs e=>T.un.nW b o xs (ub.nW b o xs e),fun b ps e=>?_⟩
  ·obtain ⟨sl,e1⟩:=ub.slot b o e n hb hx
   obtain ⟨R0,e2⟩:=T.un.any e1 (ub.free b o e n hx) (by simp)
   exact ⟨R0,e2⟩
  ·obtain ⟨o1,e1⟩:=ub.there b o e hx
   exact T.un.free b o1 e1 (ub.free b o e n hx) (by simp)
  ·obtain ⟨o1,e1⟩:=ub.there b o e hx
   exact T.un.there b o1 e1 (by simp)
  ·obtain ⟨m1,e1⟩:=ub.nq b ps e
   obtain ⟨m2,e2⟩:=T.un.nq b _ e1
   exact ⟨m1 ++ m2,by rw [e2,Array.append_assoc]⟩
 have F':s'.heap.FunFrames B X.outer:=by obtain ⟨_,_,⟨_,_,k⟩,_⟩:=Ji;exact k
 exact ⟨a,C,a0,B,H',rfl,⟨T.os.trans I.os,T.bare,Bt u1 F' Ji.1 P0.1 up MK,zS T.dN Ji.1 P0.1 T.G7,P0,MK,T.G7⟩,q⟩
theorem Bu {K:PySem.W.Frag} {h:Heap} {mg:Str→Option Value} {x:Str} {C:Addr} {Sr:List Value} {newId:String} (KX:K.In h) (hm:mg x=some (.ref C)) (q:PySem.W.excIn K C Sr newId=true):OwnCls x C Sr newId mg h:=by
 refine ⟨hm,?_⟩
 unfold PySem.W.excIn at q
 split at q
 ·rename_i dd cd sl ho
  split at q
  ·rename_i C' bm k0 k1 k2 k3 n k5 Vc hs
   simp only [Bool.and_eq_true,beq_iff_eq,Bool.not_eq_true'] at q
   obtain ⟨⟨⟨⟨⟨rfl,rfl⟩,Ss⟩,ht⟩,dN⟩,RV⟩:=q
   obtain ⟨nm,bs,mro,ns,qn,hd,sn,sub,ab,col,del⟩:=cd
   dsimp only at Vc Ss dN RV
   subst Vc Ss
   have ZY:sl=#[k0,k1,k2,k3,some (.builtin n),k5]:=by
    obtain ⟨l⟩:=sl
    simp only at hs
    rw [hs]
   subst ZY
   exact ⟨bm,ns,nm,qn,bs,hd,sn,sub,ab,col,dd,k0,k1,k2,k3,k5,_,KX _ _ ho,.of_isNs (PySem.W.isNs_of_in KX dN),PySem.W.nsMap_none_of_in KX dN RV,PySem.W.tail_of_in KX ht⟩
  ·cases q
 ·cases q
def P1 (C:Addr) (E:XK) (t:TA):TS:=fun _ σ H=>t σ H fun vs H1=>vs.length≤sizeLine∧E (.ref C) none H1
theorem eY {x:Str} {np fY pos:Pos} {e:Expr} {es:List Expr} {t:TA} {C:Addr} {Sr:List Value} {B newId P2:String} (Bd:Body X E) (hc:X.calm=true) (hg:Gl X x) (hm:X.mg x=some (.ref C))
  (hk:PySem.W.excIn X.K C Sr newId=true) (FB:ExcBaseFacts B newId P2 Sr) (ha:PA X (e :: es) t)
  (he:starEach (e :: es) X.env=(false,eval e X.env) :: starEach es X.env:=by rfl) (pj:(backTo fY (starEach es X.env)).any (·.1)=false:=by rfl) (JY:(x == ("__debug__":Str))=false:=by decide) :
  PS X (.Raise (some (.Call (.Name x np) (e :: es) [] fY)) none pos) (P1 C E t):=by
 intro pins s σ H D I h
 have O:=Bu (I.mod.RL) hm hk
 obtain ⟨tl,N,nm,q,bs,hdct,sn,sub,ab,col,dd,k0,k1,k2,k3,k5,mN,hC,hN,RV,T⟩:=O.obj
 refine wpAny_Raise_call_subT (C:=C) (nm:=nm) (q:=q) (N:=N) (bs:=bs) (bm:=tl) (hdct:=hdct) (sn:=sn) (sub:=sub) (ab:=ab) (col:=col) (dd:=dd) (k0:=k0) (k1:=k1) (k2:=k2) (k3:=k3) (k5:=k5)
  FB (mN:=mN) (T.hasType FB.hasBase) (I.ok.hd hc) (by rw [he];show (false || (backTo fY (starEach es X.env)).any (·.1))=false;rw [pj];rfl) RV (vd I hg hm ⟨rfl,?_⟩ JY)
 have hA:=ha fY pins s σ H _ I h
 rw [he] at hA ⊢
 refine Calls.evalArgs_plain (cb hA fun us s2 ⟨vs,H2,I2,r,hz,q2⟩=>?_)
 refine ⟨rfl,by rw [← r.length];exact hz,I2.bk _ _ hC,hN.keeps I2.bk,T.keeps I2.bk,fun h' a hx=>?_⟩
 rw [Bd.xe]
 have RU:X.A.frames=some (X.env :: X.outer):=by rw [← Bd.Ld];exact I.ok.frames
 have Vd:∀ env ∈ X.stack,∀ b,env.frame=some b→b ∈ pM X.stack:=fun env he b hb=>List.mem_filterMap.mpr ⟨env,he,hb⟩
 have F0:s2.heap.FunFrames (PySem.W.hideAll s2.heap (pM X.stack)) X.stack:=PySem.W.funFrames_hide I2.stack Vd
 have F1:s2.heap.FunFrames (PySem.W.hideAll s2.heap (pM X.stack)) (X.env :: X.outer):=by rw [← Bd.Ld];exact F0
 have Wz:(PySem.W.hideAll s2.heap (pM X.stack)).StaysIn s2.heap:=fun b o q=>PySem.W.of_hideAll _ q
 have OP:∀ b o,s2.heap.get? b=some o→b ∉ pM X.stack→(PySem.W.hideAll s2.heap (pM X.stack)).get? b=some o:=fun b o e hb=>PySem.W.hideAll_get _ e hb
 refine wpAny_leaves_madeW RU Bd.fr Wz F1 hx fun h'' t Ji tup tn up=>?_
 have MK:∀ b o,X.s₀.heap.get? b=some o→b ∉ pM X.outer→∃ o',(PySem.W.hideAll s2.heap (pM X.stack)).get? b=some o':=fun b o e hb=>by
  obtain ⟨o1,e1⟩:=(Bd.base I2).there b o e (by simp)
  exact ⟨o1,OP b o1 e1 (Bd.Jj (I2.old e) hb)⟩
 have G7:∀ b u,H2 b=some u→∃ o',(PySem.W.hideAll s2.heap (pM X.stack)).get? b=some o':=fun b u e=>by
  have hb:b ∉ pM X.stack:=fun z=>by rw [I2.AD b z] at e;cases e
  have eU:=I2.dN.lt e
  obtain ⟨o1,e1⟩:∃ o1,s2.heap.get? b=some o1:=by
   cases hq:s2.heap.get? b with
   | some o1=>exact ⟨o1,rfl⟩
   | none=>exact absurd hq (Bw (I2.dN b u e))
  exact ⟨o1,OP b o1 e1 hb⟩
 have F2:s2.heap.FunFrames (PySem.W.hideAll s2.heap (pM X.stack)) X.outer:=by obtain ⟨_,_,k⟩:=F1;exact k
 have up2:s2.heap.UpToSlots h'':=(Heap.UpToSlots.of_keeps hx.keeps).trans up
 exact ⟨a,C,.ref t,_,H2,rfl,⟨I2.os,I2.bare,Bt (Bd.base I2) F2 Wz Ji.1 up2 MK,zS I2.dN Wz Ji.1 G7,Ji,MK,G7⟩,q2⟩
where
 Bw {P:Program} {w:World} {H:Hp} {h:Heap} {a:Addr} {o:HO} (x:fV P w H h a o):h.get? a≠none:=by
  cases o with
  | lst xs=>obtain ⟨_,_,_,_,e⟩:=x;rw [e];simp
  | tup xs=>obtain ⟨_,_,_,ob,e,_⟩:=x;rw [e];simp
  | dK bU=>obtain ⟨_,_,_,_,o,_,_,e,_⟩:=x;rw [e];simp
  | dT bU=>obtain ⟨_,_,_,_,o,_,_,e,_⟩:=x;rw [e];simp
  | set S n=>obtain ⟨o,_,_,_,e,_⟩:=x;rw [e];simp
  | ins C dx fs=>obtain ⟨_,_,_,e,_⟩:=x;rw [e];simp
  | own y=>obtain ⟨_,e⟩:=x;rw [e];simp
  | xd fs=>obtain ⟨_,⟨_,_,_,e,_⟩,_⟩:=x;rw [e];simp
  | VR lo hi=>obtain ⟨_,_,_,e⟩:=x;rw [e];simp
  | AA ob u=>obtain ⟨e,_⟩:=x;rw [e];simp
  | OE ps=>have e:h.get? a=some _:=x;rw [e];simp
  | met f y=>have e:h.get? a=some _:=x;rw [e];simp
  | ext φ=>obtain ⟨_,⟨_,e⟩,_⟩:=x;rw [e];simp
end
end L2
namespace L2
open PySem PySem.Spec PyProof.Rows
def ExcAt (a C:Addr) (h:Heap):Prop:=∃ oe vs,h.get? a=some oe∧oe.cls=.ref C∧oe.data=.fields vs
theorem ExcAt.mono {a C:Addr} {h1 h2:Heap} (x:ExcAt a C h1) (k:∀ o,h1.get? a=some o→h2.get? a=some o):ExcAt a C h2:=let ⟨oe,vs,e,c,d⟩:=x;⟨oe,vs,k _ e,c,d⟩
structure Catch (K:PySem.W.Frag) (C:Addr):Prop where
 ty:PySem.W.typeIn K (.ref C)=some (.type "type")
 cls:(PySem.W.clsIn K C).isSome=true
 base:PySem.W.subIn K (.ref C) (.type "BaseException")=some true
section
variable {X:Cx} {E:XK} {pins:List (Addr × Obj)} {σ:St} {H:Hp} {s:Shared} {a:Addr}
theorem Un.ext {fs:List Addr} {H H':Hp} {h h':Heap} {a:Addr} {o:HO} (u:Un fs [] H H' h h') (ha:h.get? a=none) (hn:H' a=none):Un fs [] H (upd H' a o) h h' where
 keep:=u.keep
 slot:=u.slot
 free:=fun b ob e n hx=>by rw [aH (fun z=>by rw [z,ha] at e;cases e)];exact u.free b ob e n hx
 there:=u.there
 nk:=fun b xs e=>by have q:=u.nk b xs e;rw [aH (aP q hn)];exact q
 nW:=fun b ob xs e=>by have q:=u.nW b ob xs e;rw [aH (aP q hn)];exact q
 nq:=fun b ps e=>by obtain ⟨m,q⟩:=u.nq b ps e;exact ⟨m,by rw [aH (aP q hn)];exact q⟩
end
end L2
namespace L2
open PySem PySem.Spec PyProof.Rows
structure tM (K:PySem.W.Frag) (C:Addr):Prop where
 ga:PySem.W.findIn K (.ref C) "__getattribute__"=some (some (.builtin "BaseException.__getattribute__"))
 nga:PySem.W.findIn K (.ref C) "__getattr__"=some none
 at_:PySem.W.findIn K (.ref C) "__class__"=some (some (.builtin "object.__class__"))
 cls:(PySem.W.clsIn K C).isSome=true
 obj:PySem.W.mroIn K C (.type "object")=some true
 base:PySem.W.subIn K (.ref C) (.type "BaseException")=some true
section
variable {prog:Program} {w:World} {A:Around} {E:Value→Shared→Prop} {h:Heap} {g:Array GenState} {d:Drawn} {t:Nat} {os:OsState} {K:PySem.W.Frag} {a C:Addr}
theorem ExcAt.type {M:Model} (x:ExcAt a C h):PySem.W.Looks M h (typeOf (.ref a)) (.ref C):=by
 obtain ⟨oe,vs,he,hc,hd⟩:=x
 exact hc ▸ (PySem.W.Looks.ld he).andThen .now
end
end L2
namespace L2
open PySem PySem.Spec PyProof.Rows
abbrev TJ:=Str→St→Hp→VK→Prop
def PJ (X:Cx) (es:List Expr) (t:TJ):Prop :=
 ∀ (out:Str) (pins:List (Addr × Obj)) (s:Shared) (σ:St) (H:Hp) (Q:VK),Inv X pins σ H s→t out σ H Q→wpAny (model X.prog X.w) X.A (joinParts out (evalEach es X.env)) (EP X pins σ Q) X.xe s
section
variable {X:Cx} {e:Expr} {es:List Expr} {te:TE} {t:TJ} {pos:Pos}
def W1:TJ:=fun out _ H Q=>out.length≤sizeLine∧Q (.str out) H
theorem n8:PJ X [] W1:=fun out pins s σ H Q I h=>joinParts_nil (show EP X pins σ Q (.str out s.toks) { s with toks:=s.toks+1 } from ⟨.str out,H,I.tok _,⟨_,rfl⟩,h.2⟩) h.1
def Su (te:TE) (t:TJ):TJ:=fun out σ H Q=>te σ H fun v H1=>∃ y,v=.str y∧(out ++ y).length≤sizeLine∧t (out ++ y) σ H1 Q
theorem bY (he:PE X e te) (hr:PJ X es t):PJ X (e :: es) (Su te t):=by
 intro out pins s σ H Q I h
 refine joinParts_consE (joinParts_cons (cb (he pins s σ H _ I h) fun v s1 ⟨x,H1,I1,r1,y,ex,hz,q⟩=>?_))
 subst ex
 obtain ⟨tk,rfl⟩:=r1
 exact ⟨hz,hr _ pins s1 σ H1 Q I1 q⟩
theorem j9 {e1 e2:Expr} {rest:List Expr} (h:PJ X (e1 :: e2 :: rest) t):PE X (.JoinedStr (e1 :: e2 :: rest) pos) (fun σ H Q=>t Str.empty σ H Q):=fun pins s σ H Q I hw=>JoinedStr_many (h Str.empty pins s σ H Q I hw)
def Sv (te:TE):TE:=fun σ H Q=>te σ H fun v H1=>∃ i,v=.int i∧i.natAbs.log2 < 1920∧Q (.str (toString i)) H1
theorem fZ (he:PE X e te):PE X (.FormattedValue e (-1) none pos) (Sv te):=by
 intro pins s σ H Q I h
 refine FormattedValue_plain (cb (he pins s σ H _ I h) fun v s1 ⟨x,H1,I1,r1,i,ex,hi,q⟩=>?_)
 subst ex
 obtain ⟨tk,rfl⟩:=r1
 exact formatField_int_small hi ⟨.str _,H1,I1.tok _,⟨_,rfl⟩,q⟩
theorem dR {i:Int} {n:Nat} (h:i.natAbs < 2 ^ n) (hn:n≤1920) (h0:0 < n):i.natAbs.log2 < 1920:=by
 by_cases z:i.natAbs=0
 ·rw [z];decide
 ·have:=(Nat.log2_lt z).mpr h
  omega
end
end L2
namespace L2
open PySem PySem.Spec PyProof.Rows
theorem PS.rS {X:Cx} {st:Stmt} {t:TS} (h:PS X.rS st t):PS X st t:=fun pins s σ H D I hw =>
 wpAny_mono (h pins s σ H D (I.tI _) hw) (fun _ _ q=>q.jI) fun _ _ z=>False.elim z
theorem ao {X:Cx}:l4 (j5 X.prog X.w) X E0:=fun _ _ _ _ _ _ _ h=>by obtain ⟨_,_,_,_,_,_,_,q⟩:=h;exact q.elim
structure Def (P:Program) (w:World) (K:PySem.W.Frag) (mg:Str→Option Value) (base:Heap) (k:Nat) (x:Str) (ps:List Str) (sp:Sp):Prop where
 ex:∃ (f:Addr) (fd:FuncData),bz P w K mg base (j5 P w) k f fd ps sp∧mg x=some (.ref f)∧PySem.W.keepIn K (.ref f)=true∧Binds K fd ps []
section
variable {P:Program} {w:World} {K:PySem.W.Frag} {mg:Str→Option Value} {base:Heap}
theorem Def.mono {j k:Nat} {x:Str} {ps:List Str} {sp:Sp} (D:Def P w K mg base j x ps sp) (h:j≤k):Def P w K mg base k x ps sp:=let ⟨f,fd,a,r⟩:=D.ex;⟨f,fd,a.mono h,r⟩
structure aT (K:PySem.W.Frag) (mg:Str→Option Value) (x:Str) (st:Stmt):Prop where
 ex:∃ (f:Addr) (fd:FuncData),lF K x x st f fd∧mg x=some (.ref f)
theorem aT.mk' {h:Heap} {x:Str} {st:Stmt} {f:Addr} {oc:Value} {od an:Option Addr} {Fp:Array (Option Value)} {kV doc pm bw ct:Value} (KX:K.In h) (G:h.Ns mainGlobals mg)
  (a:PySem.W.nsIn K mainGlobals x=some (some (.ref f))) (l:K.lookup f=some ⟨oc,od,.func (PySem.W.fnOf x x (bX st) (bL st) (aI st) .none kV doc pm an bw ct),Fp⟩)
  (c:PySem.W.codeIn K bw x=true) (k:PySem.W.keepIn K (.ref f)=true):aT K mg x st:=⟨f,_,eF l c k,PySem.W.mg_of KX G a⟩
abbrev Ve (P:Program) (w:World) (K:PySem.W.Frag) (mg:Str→Option Value) (base:Heap) (N:List Str) (x:Str) (st:Stmt) (f:Addr) (bw:Value) (A:Around) (outer:List Env) (s:Shared) (H:Hp) (E:XK):Cx :=
 DY (j5 P w) P w K mg base N x (aI st) f bw A outer s H E
theorem bE {N:List Str} {x:Str} {st:Stmt} {f:Addr} {bw:Value} {A:Around} {outer:List Env} {s:Shared} {H:Hp} {E:XK}:Body (Ve P w K mg base N x st f bw A outer s H E) E:=⟨rfl,rfl,rfl,rfl⟩
theorem aT.def {x:Str} {st:Stmt} {N ps:List Str} {k:Nat} {sp:Sp} (F:aT K mg x st) (S:aV N ps (aI st))
  (hb:∀ (kV doc pm:Value) (an:Option Addr) (bw ct:Value) (us:List Value),us.length=ps.length→bindArgs (PySem.W.fnOf x x (bX st) (bL st) (aI st) .none kV doc pm an bw ct) ⟨us,[]⟩=pure (ps.zip us))
  (len:∀ vs H Q E,sp vs H Q E→vs.length=ps.length)
  (rW:∀ (f:Addr) (bw:Value) (A:Around) (outer:List Env) (s:Shared) (H:Hp) (vs:List V) (Q:VK) (E:XK),eE k (A.deeper (envOfC x (aI st) s.heap.objs.size f bw))→sp vs H Q E →
   ∃ t,BV (Ve P w K mg base N x st f bw A outer s H E) (bL st) t∧t { nx:=fun _ H'=>Q .cB H',rt:=Q } (start N vs) H):Def P w K mg base (k+1) x ps sp:=by
 obtain ⟨f,fd,F1,hm⟩:=F.ex
 have b:=F1.binds hb
 have kp:=F1.kp
 obtain ⟨oc,od,kV,doc,pm,an,bw,ct,Fp,rfl,lk,BL⟩:=F1.ex
 exact ⟨f,_,Fo lk BL S len fun A outer s H vs Q E hr BN=>rW f bw A outer s H vs Q E hr BN,hm,kp,b⟩
end
section
variable {X:Cx} {k:Nat} {ps:List Str} {sp:Sp} {E:XK} {x:Str} {p pos:Pos} {e:Expr} {es:List Expr} {t:TA}
theorem aY (D:Def X.prog X.w X.K X.mg X.base k x ps sp) (hr:eE k X.A) (hx:l4 (j5 X.prog X.w) X E) (ha:PA X (e :: es) t) (hg:Gl X x:=by rfl) (JY:(x == ("__debug__":Str))=false:=by decide)
  (he:starEach (e :: es) X.env=(false,eval e X.env) :: starEach es X.env:=by rfl) (pj:(backTo pos (starEach es X.env)).any (·.1)=false:=by rfl) :
  PE X (.Call (.Name x p) (e :: es) [] pos) (OL sp [] E t):=by
 obtain ⟨f,fd,F,hm,hk,hb⟩:=D.ex
 exact MC F hr hg hm hk hb .nil hx ha JY he pj
end
end L2
namespace L2
open PySem PySem.Spec PyProof.Rows
section
variable {X:Cx}
def OQ (K:PySem.W.Frag):R2:=fun x y H Q=>∃ l b xs zs,x=.ref l∧y=.ref b∧ae K H l xs∧ae K H b zs∧xs.length+zs.length≤sizeLine∧∀ p,H p=none→Q (.ref p) (upd H p (.lst (xs ++ zs)))
theorem ML:ni X (binaryOp .Add) (OQ X.K):=by
 intro pins s σ H x y v u Q I rx ry h
 obtain ⟨l,b,xs,zs,rfl,rfl,hH,hB,hz,q⟩:=h
 cases rx
 cases ry
 obtain ⟨au,r,pl,_⟩:=I.list hH
 obtain ⟨iO,r2,W2,_⟩:=I.list hB
 obtain ⟨⟨cls,dd,data,sl⟩,ho,hc,n,hd⟩:=id pl.isList
 obtain ⟨⟨aBA,dd2,data2,Vb⟩,ZZ,RW,n2,hd2⟩:=id W2.isList
 simp only at hc hd RW hd2
 subst hc hd RW hd2
 have e:au.toArray ++ iO.toArray=(au ++ iO).toArray:=by simp
 have pf:au.toArray.size+iO.toArray.size≤sizeLine:=by
  rw [List.size_toArray,List.size_toArray,← r.length,← r2.length];exact hz
 refine concat_meets ⟨_,ho,rfl⟩ ⟨_,ZZ,rfl⟩ noFill_list_add seq_list_add PySem.F.slot_list_add PySem.F.entry_list_add (PySem.F.args_list_add_2 _ _) (list_addW l b au.toArray iO.toArray n n2 dd dd2 sl Vb pf) ⟨ho,ZZ,?_⟩
 rw [e]
 exact ⟨.ref _,_,I.Sh (t':=s.toks) (r.append r2) (by rw [List.length_append];exact hz),rfl,q _ I.fresh⟩
inductive Za (K:PySem.W.Frag) (H:Hp):V→Value→Prop where
 | of {x:V} {t:Value}:vI K H x t→Za K H x t
 | exc {a C:Addr}:H a=some (.ext (ExcAt a C))→tM K C→Za K H (.ref a) (.ref C)
end
end L2
namespace L2
open PySem PySem.Spec PyProof.Rows
end L2
namespace L2
open PySem PySem.Spec PyProof.Rows
def zT (K:PySem.W.Frag):Sp:=fun vs H Q _=>∃ (a:Addr) (ns:List Int),vs=[.ref a]∧ae K H a (ns.map V.int)∧ns.length≤63∧∀ H',Q (.bl true) H'
section
variable {P:Program} {w:World} {K:PySem.W.Frag} {mg:Str→Option Value} {base:Heap}
theorem lF.ok1 {x:Str} {st:Stmt} {f:Addr} {fd:FuncData} {N ps:List Str} {k:Nat} {sp:Sp} (F:lF K x x st f fd) (S:aV N ps (aI st)) (len:∀ vs H Q E,sp vs H Q E→vs.length=ps.length)
  (rW:∀ (f:Addr) (bw:Value) (A:Around) (outer:List Env) (s:Shared) (H:Hp) (vs:List V) (Q:VK) (E:XK),eE k (A.deeper (envOfC x (aI st) s.heap.objs.size f bw))→sp vs H Q E →
   ∃ t,BV (Ve P w K mg base N x st f bw A outer s H E) (bL st) t∧t { nx:=fun _ H'=>Q .cB H',rt:=Q } (start N vs) H):bz P w K mg base (j5 P w) (k+1) f fd ps sp:=by
 obtain ⟨oc,od,kV,doc,pm,an,bw,ct,Fp,rfl,lk,BL⟩:=F.ex
 exact Fo lk BL S len fun A outer s H vs Q E hr BN=>rW f bw A outer s H vs Q E hr BN
theorem Jk {st:Stmt} {fa:Addr} {k:Nat} (S:aT K mg "law" st)
  (hb:∀ (kV doc pm:Value) (an:Option Addr) (bw ct:Value) (us:List Value),us.length=1→bindArgs (PySem.W.fnOf "law" "law" (bX st) (bL st) (aI st) .none kV doc pm an bw ct) ⟨us,[]⟩=pure ((["script"]:List Str).zip us))
  (Pt:mg "law"=some (.ref fa)) (hF:∀ (f:Addr) (fd:FuncData) (base:Heap),lF K "law" "law" st f fd→bz P w K mg base (j5 P w) k f fd ["script"] (zT K)) :
  ∃ fd:FuncData,(∀ (s:Shared) (u:Value),BindsTo s fd ⟨[u],[]⟩ [("script",u)])∧∀ base:Heap,K.In base→base.Ns mainGlobals mg→bz P w K mg base (j5 P w) k fa fd ["script"] (zT K):=by
 obtain ⟨f,fd,F,hm⟩:=S.ex
 rw [Pt] at hm
 cases hm
 refine ⟨fd,?_,fun base _ _=>hF fa fd base F⟩
 obtain ⟨oc,od,kV,doc,pm,an,bw,ct,Fp,rfl,lk,BL⟩:=F.ex
 exact fun s u=>.of_eq (hb kV doc pm an bw ct [u] rfl)
end
theorem Jl {l:PySem.W.OpenLaw} {k:Nat} {q:Program} {loose:List Str} {XP:(Str→Option Value)→Heap→Prop} {YP:World→Heap→Prop} {d:DefRec} {K:Params→PySem.W.Frag}
  (hr:eE k callerA) (hn:l.most=some 63) (Sj:d.params.defaults=[])
  (hY:∀ (w:World) (h:Heap),YP w h→(K w.params).In h)
  (F:∀ (w:World) (mg:Str→Option Value) (fa:Addr) (h:Heap),(K w.params).In h→h.Ns mainGlobals mg→mg d.name=some (.ref fa) →
   ∃ fd:FuncData,(∀ (s:Shared) (u:Value),BindsTo s fd ⟨[u],[]⟩ [("script",u)]) ∧
    ∀ base:Heap,(K w.params).In base→base.Ns mainGlobals mg→bz l.prog w (K w.params) mg base (j5 l.prog w) k fa fd ["script"] (zT (K w.params))) :
  PySem.W.WalkO q loose XP YP l.row.toRowW d [] (fun f vs=>PySem.call f vs) :=
 MI (n:=63) (k:=k) (x:="script") (CX:=fun w=>j5 l.prog w) (sp:=fun w=>zT (K w.params)) hn (by decide) Sj hr hY F (fun _ _ a ns hl _ hS=>⟨a,ns,rfl,hS,hl,fun _=>rfl⟩)
  fun _ _ _ _ _ h=>by obtain ⟨_,_,_,_,_,_,_,q⟩:=h;exact q.elim
theorem aW {X:Cx} {x:Str} {n:Int} {pos:Pos} (h:∃ tk,X.mg x=some (.int n tk)) (hg:Gl X x:=by rfl) (hd:(x == ("__debug__":Str))=false:=by decide):PE X (.Name x pos) (tC (.int n)):=by
 obtain ⟨tk,e⟩:=h
 exact Fd hg e ⟨tk,rfl⟩ hd
end L2
namespace L2
open PySem
theorem dE {p A B:Prop} [Decidable p] (hp:¬ p) (h:B):if decide p=true then A else B:=by rw [decide_eq_false hp];exact iI h
theorem dX {p A B:Prop} [Decidable p] (hp:p) (h:A):if decide p=true then A else B:=by rw [decide_eq_true hp];exact iu h
theorem zU {p A B:Prop} [Decidable p] (hp:p) (h:B):if (!decide p)=true then A else B:=by rw [decide_eq_true hp];exact iI h
theorem zV {p A B:Prop} [Decidable p] (hp:¬ p) (h:A):if (!decide p)=true then A else B:=by rw [decide_eq_false hp];exact iu h
theorem dg {n:Int} (h:-1000≤n) (h2:n≤1000):n.natAbs < 2 ^ 1000:=by
 have:n.natAbs≤1000:=by omega
 exact Nat.lt_of_le_of_lt this (by decide)
theorem aK.put {H H':Hp} {p:Addr} {o:HO} (s:aK H H') (hp:H p=none):aK H (upd H' p o):=fun b u e=>by rw [aH (aP e hp)];exact s b u e
theorem aK.new {H H':Hp} {p:Addr} {o:HO} (s:aK H H') (hp:H' p=none):aK H (upd H' p o):=s.put (s.free hp)
end L2
namespace L2
open PySem
end L2
namespace L2
open PySem PySem.Spec PyProof.Rows
theorem P4 {X:Cx} {E:XK} (Bd:Body X E):PassesOwn (model X.prog X.w) X.A X.env X.xe:=by
 rw [Bd.xe]
 exact PassesOwn.leaving
inductive Alike (K:PySem.W.Frag) (H:Hp):Nat→V→V→Prop where
 | int {n:Nat} (i:Int):Alike K H n (.int i) (.int i)
 | bl {n:Nat} (i:Bool):Alike K H n (.bl i) (.bl i)
 | str {n:Nat} (i:Str):Alike K H n (.str i) (.str i)
 | cB {n:Nat}:Alike K H n .cB .cB
 | lst {n:Nat} {a b:Addr} {xs ys:List V} (ha:ae K H a xs) (hb:ae K H b ys) (hl:xs.length=ys.length) (h:∀ (j:Nat) (x y:V),xs[j]?=some x→ys[j]?=some y→Alike K H n x y):Alike K H (n+1) (.ref a) (.ref b)
theorem all_true (n:Nat):(List.range n).all (fun _=>true)=true:=by simp
section
variable {X:Cx} {pins:List (Addr × Obj)} {σ:St} {H:Hp} {s:Shared}
theorem iP {xs:List V} {au:List Value} (r:a9 xs au) (j:Nat) (h:j < au.toArray.size):∃ x,xs[j]?=some x∧RelV x au.toArray[j]:=by
 have hj:j < au.length:=by simpa using h
 have hl:=r.length
 have hx:xs[j]?=some xs[j]:=by simp [show j < xs.length by omega]
 obtain ⟨u,hu,ru⟩:=r.get hx
 refine ⟨_,hx,?_⟩
 have e:au.toArray[j]=u:=by
  have:=hu
  rw [List.getElem?_eq_getElem hj] at this
  simpa using Option.some.inj this
 rw [e]
 exact ru
end
section
variable {X:Cx}
theorem HL {A:Around} {k:Nat} (hr:eE k A):A.units+16 < cLine:=by have:=hr.un;omega
end
end L2
namespace L2
open PySem PySem.Spec PyProof.Rows
section
variable {prog:Program} {w:World} {A:Around} {s:Shared} {R:Result→Shared→Prop} {I S:Addr} {fp wr:List Addr} {G:Array GenState→Array GenState→Prop} {n:Nat} {P:Nat→Value→Prop} {St:Nat→Shared→Prop} {T:String}
theorem Jm (W:WalksS prog w A.in1 I fp wr G n P St) (hT:∀ i s,St i s→s.TypeIs (.ref I) T) (t1:(Value.type T == Value.type "list")=false) (t2:(Value.type T == Value.type "tuple")=false)
  (hh:∀ (s:Shared) (Q:Bool→Shared→Prop) (E:Value→Shared→Prop),St 0 s→Q false s→wpAny (model prog w) A.in1 (Builtin.List.listLengthHint (.ref I)) Q E s)
  (res:Value) (c0:Nat) (DM:St 0 s) (Vf:S ∉ fp) (hI:I ∈ fp) (hS:s.heap.get? S=some { cls:=.type "list",data:=.seq #[] c0 }) (hn:n≤sizeLine)
  (hR:∀ s' nX c',Moved (S :: wr) G s s'→s'.heap.get? S=some { cls:=.type "list",dict:=none,data:=.seq nX c',slots:=#[] }→ItemsOf P nX n→R (.ok (.ret res)) s') :
  wpAny (model prog w) A.in1 (Builtin.List.listExtendWith (.ref S) (.ref I) res)
   (fun fin s'=>match fin with | .done f=>R (.ok f) s' | .again c'=>c'.quiet=true∧codeAny (model prog w) A c' R s') (fun e s'=>R (.error e) s') s:=by
 have ne:S≠I:=fun e=>Vf (by rw [e];exact hI)
 have h1:Builtin.List.listSameRef (.ref S) (.ref I)=false:=by simp [Builtin.List.listSameRef,ne]
 unfold Builtin.List.listExtendWith
 refine wpAny_bind (wpAny_typeOf (hT 0 s DM) ?_)
 simp only [h1,t1,t2,Bool.or_false,Bool.false_eq_true,if_false]
 refine wpAny_bind (W.self 0 s _ _ DM (wpAny_bind (wpAny_holding (hh s _ _ DM ?_))))
 refine wpAny_ite_split (fun _=>?_) (fun _=>?_)
 ·refine wpAny_bind (wpAny_rule (wpAny_bind ?_))
  show wpAny _ A.in1 (updateSeq S (·.push .none) >>= fun _=>updateSeq S (·.pop)) _ _ s
  refine wpAny_bind (wpAny_updateSeq hS rfl ?_)
  have Vg:=Heap.get?_update_self (Obj.mapSeq (·.push Value.none)) hS rfl
  refine wpAny_updateSeq (hz:=by seq_fits) Vg rfl ?_
  have hS3:=Heap.get?_update_self (Obj.mapSeq (·.pop)) Vg rfl
  have kp:∀ b o,b≠S→s.heap.get? b=some o→((s.heap.update S (Obj.mapSeq (·.push Value.none))).update S (Obj.mapSeq (·.pop))).get? b=some o:=fun b o hb e=>by
   rw [Heap.get?_update_other _ _ (Ne.symm hb),Heap.get?_update_other _ _ (Ne.symm hb)];exact e
  exact wpAny_pure ⟨plainId_quiet F.plain_extend_loop _,codeAny_extend_loopS W hn S Vf res n 0 _ _ _ rfl (Nat.zero_le n) (W.frame 0 s _ s.toks DM (Nat.le_refl _) fun b hb o e=>kp b o (fun z=>Vf (by rw [← z];exact hb)) e) hS3 (ItemsOf.nil P)
   fun s' nX c' hm P6 Dg=>hR s' nX c' (Moved.trans W.gtrans ((Moved.refl W.grefl).then_heap (Nat.le_refl _) fun b o hb e=>kp b o (fun z=>hb (by rw [z];exact List.mem_cons_self)) e) hm) P6 Dg⟩
 ·exact wpAny_pure ⟨plainId_quiet F.plain_extend_loop _,codeAny_extend_loopS W hn S Vf res n 0 s #[] c0 rfl (Nat.zero_le n) DM hS (ItemsOf.nil P) fun s' nX c' hm P6 Dg=>hR s' nX c' hm P6 Dg⟩
theorem HM {E:Value→Shared→Prop} {Q:Value→Shared→Prop} (W:WalksS prog w A.in1.in1 I fp wr G n P St) (hT:∀ i s,St i s→s.TypeIs (.ref I) T) (t1:(Value.type T == Value.type "list")=false) (t2:(Value.type T == Value.type "tuple")=false)
  (hh:∀ (s:Shared) (Q:Bool→Shared→Prop) (E:Value→Shared→Prop),St 0 s→Q false s→wpAny (model prog w) A.in1.in1 (Builtin.List.listLengthHint (.ref I)) Q E s)
  (DM:St 0 s) (Sl:∀ b ∈ fp,b < s.heap.objs.size) (hI:I ∈ fp) (hn:n≤sizeLine)
  (hQ:∀ s' nX c',Moved (s.heap.objs.size :: wr) G { s with heap:=s.heap.push { cls:=.type "list",data:=.seq #[] } } s' →
   s'.heap.get? s.heap.objs.size=some { cls:=.type "list",dict:=none,data:=.seq nX c',slots:=#[] }→ItemsOf P nX n→Q (.ref s.heap.objs.size) s') :
  wpAny (model prog w) A (call (.type "list") [.ref I]) Q E s:=by
 have nf:s.heap.objs.size ∉ fp:=fun z=>absurd (Sl _ z) (Nat.lt_irrefl _)
 refine callType_codes (Q₁:=fun obj z=>obj=.ref s.heap.objs.size∧z={ s with heap:=s.heap.push { cls:=.type "list",data:=.seq #[] } }) F.called_list (F.typeCall_list_1 _) F.entry_list_init (code_list_new _ ⟨rfl,rfl⟩) fun obj z hz=>?_
 obtain ⟨rfl,rfl⟩:=hz
 have hS:(s.heap.push { cls:=.type "list",data:=.seq #[] }).get? s.heap.objs.size=some { cls:=.type "list",data:=.seq #[] }:=Heap.get?_push_size _ rfl
 refine ⟨⟨_,hS,rfl⟩,F.args_list_init_2 _ _,?_⟩
 have W3:=W.frame 0 s (s.heap.push { cls:=.type "list",data:=.seq #[] }) s.toks DM (Nat.le_refl _) fun b _ o e=>Heap.get?_push_of_some _ e
 show wpAny _ A.in1.in1 (do let old ← Builtin.List.listItems (.ref s.heap.objs.size);Builtin.List.listUpdate (.ref s.heap.objs.size) (fun _=>#[]);letGo old.toList.reverse;Builtin.List.listExtendWith (.ref s.heap.objs.size) (.ref I) .none) _ _ _
 refine wpAny_bind ?_
 unfold Builtin.List.listItems
 refine wpAny_bind (wpAny_seqItems hS rfl (wpAny_pure (wpAny_bind (wpAny_updateSeq hS rfl ?_))))
 have Vg:=Heap.get?_update_self (Obj.mapSeq (fun _=>(#[]:Array Value))) hS rfl
 have kp:∀ b o,b≠s.heap.objs.size→(s.heap.push { cls:=.type "list",data:=.seq #[] }).get? b=some o→((s.heap.push { cls:=.type "list",data:=.seq #[] }).update s.heap.objs.size (Obj.mapSeq (fun _=>(#[]:Array Value)))).get? b=some o :=
  fun b o hb e=>(Heap.get?_update_other _ _ (Ne.symm hb)).trans e
 refine wpAny_bind (wpAny_letGo ?_)
 refine Jm W hT t1 t2 hh .none _ (W.frame 0 _ _ s.toks W3 (Nat.le_refl _) fun b hb o e=>kp b o (fun z=>nf (by rw [← z];exact hb)) e) nf hI Vg hn fun s' nX c' hm P6 Dg=>?_
 exact ⟨rfl,hQ s' nX c' (Moved.trans W.gtrans ((Moved.refl W.grefl).then_heap (Nat.le_refl _) fun b o hb e=>kp b o (fun z=>hb (by rw [z];exact List.mem_cons_self)) e) hm) P6 Dg⟩
end
theorem HN:typeLookup (.type "list_reverseiterator") "__len__"=pure none:=by rw [typeLookup_type,builtinLookup_eq_fast];kernel_rfl
theorem Jo:typeLookup (.type "list_reverseiterator") "__length_hint__"=pure (some (.builtin "list_reverseiterator.__length_hint__")):=by rw [typeLookup_type,builtinLookup_eq_fast];kernel_rfl
theorem Jp {prog:Program} {w:World} {A:Around} {s:Shared} {E:Value→Shared→Prop} {Q:Bool→Shared→Prop} {it l:Addr} {i:Int} (hit:s.heap.IsRevIter it l i) (h:Q false s) :
  wpAny (model prog w) A (Builtin.List.listLengthHint (.ref it)) Q E s:=by
 unfold Builtin.List.listLengthHint
 refine wpAny_bind (wpAny_specialOf hit.typeIs HN ?_)
 show wpAny _ A (specialOf (Value.ref it) (Str.ofString "__length_hint__") >>= _) _ _ _
 refine wpAny_bind (wpAny_specialOf hit.typeIs Jo ?_)
 generalize Zb:("list_reverseiterator.__length_hint__":String)=id0
 wp_delta
 rw [show splitId id0=some ("list_reverseiterator","__length_hint__") from by subst Zb;decide +kernel]
 subst Zb
 refine wpAny_bind (wpAny_isInstance (T:="list_reverseiterator") (b:=true) hit.typeIs (by rw [isSubtype_type];kernel_rfl) ?_)
 refine wpAny_ite_split (fun z=>absurd z (by decide)) (fun _=>?_)
 refine wpAny_ite_split (fun _=>?_) (fun z=>absurd (by decide +kernel) z)
 exact wpAny_ite_split (fun z=>absurd z (by decide +kernel)) (fun _=>wpAny_pure h)
section
variable {X:Cx}
def Sw (K:PySem.W.Frag) (te:TE):TE:=fun σ H Q=>te σ H fun v H1=>∃ l xs,v=.ref l∧ae K H1 l xs∧∀ q,H1 q=none→Q (.ref q) (upd H1 q (.lst xs.reverse))
theorem tN {e:Expr} {te:TE} {p p2 pos MM:Pos} (hc:X.calm=true) (Zc:X.mg "list"=none) (hmr:X.mg "reversed"=none) (he:PE X e te) (hgl:Gl X "list":=by rfl) (hgr:Gl X "reversed":=by rfl)
  (hs:starEach [e] X.env=[(false,eval e X.env)]:=by rfl) (HA:starEach [Expr.Call (.Name "reversed" p2) [e] [] MM] X.env=[(false,eval (Expr.Call (.Name "reversed" p2) [e] [] MM) X.env)]:=by rfl) :
  PE X (.Call (.Name "list" p) [.Call (.Name "reversed" p2) [e] [] MM] [] pos) (Sw X.K te):=by
 intro pins s σ H Q I h
 refine wpAny_Call_Name_kw (lu I hgl Zc boot_list ?_ (by decide) (by decide))
 refine PyProof.Rows.callWith_type1 ?_ HA rfl
 rw [HA]
 show wpAny _ _ (spliced [(false,eval (Expr.Call (.Name "reversed" p2) [e] [] MM) X.env)]) _ _ s
 refine Calls.spliced_cons (wpAny_Call_Name_kw (lu I hgr hmr boot_reversed ?_ (by decide) (by decide)))
 refine PyProof.Rows.callWith_type1 ?_ hs rfl
 rw [hs]
 show wpAny _ _ (spliced [(false,eval e X.env)]) _ _ s
 refine Calls.spliced_cons (cb (he pins s σ H _ I h) fun v s1 ⟨x,H1,I1,r1,q1⟩=>Calls.spliced_nil ?_)
 obtain ⟨l,xs,rfl,hq,q⟩:=q1
 cases r1
 obtain ⟨au,rv,pl,hz⟩:=I1.list hq
 have hlen:=rv.length
 refine call_reversed_list pl.isList (Calls.spliced_nil ?_)
 have eU:l < s1.heap.objs.size:=by
  obtain ⟨o,n,ho,_⟩:=pl
  exact Heap.lt_size ho
 have W4:l≠s1.heap.objs.size:=Nat.ne_of_lt eU
 have W:=(Walks.listRev (prog:=X.prog) (w:=X.w) (A:=X.A.in1.in1) (I.ok.hd hc) s1.heap.objs.size l W4 au.toArray).toS
 have Vh:(s1.heap.push (revObj l ((au.toArray.size:Int) - 1))).objs.size=s1.heap.objs.size+1:=Heap.size_push ..
 have W2:(s1.heap.push (revObj l ((au.toArray.size:Int) - 1))).IsList l au.toArray:=pl.isList.at fun o e=>Heap.get?_push_of_some _ e
 refine HM W (T:="list_reverseiterator") (fun i s' st=>st.2.1.typeIs) (by decide) (by decide) (fun s' Q' E' st Pc=>Jp st.2.1 Pc) ⟨Nat.zero_le _,⟨_,Heap.get?_push_size _ rfl,rfl,by unfold revObj;simp⟩,W2⟩ (fun b hb=>?_) (by simp) (by simp;omega) fun s' nX c' hm P6 Dg=>?_
 ·have Sy:b=s1.heap.objs.size∨b=l:=by simpa using hb
  show b < (s1.heap.push (revObj l ((au.toArray.size:Int) - 1))).objs.size
  rw [Vh]
  rcases Sy with rfl | rfl
  ·exact Nat.lt_succ_self _
  ·exact Nat.lt_succ_of_lt eU
 ·have ea:nX=au.reverse.toArray:=by
   obtain ⟨a1,a2⟩:=Dg
   apply Array.ext'
   apply List.ext_getElem?
   intro j
   by_cases hj:j < au.length
   ·have Li:j < nX.size:=by rw [a1];simpa using hj
    have g:=a2 j nX[j] (by simp [Li])
    have e1:nX.toList[j]?=some nX[j]:=by simp [Li]
    rw [e1]
    simp only [List.getElem?_toArray,List.size_toArray] at g
    show _=au.reverse[j]?
    rw [List.getElem?_reverse hj,g]
   ·have:nX.toList[j]?=none:=by simp;rw [a1];simp;omega
    rw [this]
    simp
    omega
  subst ea
  rw [Moved.eq_with hm]
  have kp:∀ b o,s1.heap.get? b=some o→s'.heap.get? b=some o:=fun b o eb=>by
   have Zd:=Heap.lt_size eb
   refine hm.heap b o (fun z=>?_) (Heap.get?_push_of_some _ (Heap.get?_push_of_some _ eb))
   have z':b=(s1.heap.push (revObj l ((au.toArray.size:Int) - 1))).objs.size∨b=s1.heap.objs.size:=by simpa using z
   rw [Vh] at z'
   rcases z' with z' | z'
   ·exact absurd Zd (by rw [z'];exact Nat.not_lt.mpr (Nat.le_succ _))
   ·exact absurd Zd (by rw [z'];exact Nat.lt_irrefl _)
  refine ⟨.ref _,_,I1.laid (t':=s'.toks) (o:=.lst xs.reverse) (a:=(s1.heap.push (revObj l ((au.toArray.size:Int) - 1))).objs.size) kp (by rw [Vh];omega) ?_,rfl,q _ (I1.dN.fresh (by rw [Vh];omega))⟩
  exact ⟨by rw [List.length_reverse];exact hz,au.reverse,c',rv.reverse,P6⟩
end
end L2
namespace L2
open PySem PySem.Spec PyProof.Rows
def Fz (Nc:List Str) (ix:List (Option Nat)) (scope sc:Scope) (N:List Str):Bool :=
 decide (scope.kind=.function) && decide Nc.Nodup && decide (ix.length=Nc.length) &&
 (scope.names.all fun x=>decide (x.2=.local→scope.names.lookup x.1=some .local)) &&
 (scope.names.all fun x=>decide (x.2=.free→sc.names.lookup x.1=some .cell∨sc.names.lookup x.1=some .free)) &&
 (scope.names.all fun x=>decide (x.2=.free→(x.1,NameKind.cell) ∉ scope.names)) &&
 ((ix.zip Nc).all fun p=>match p.1 with | none=>true | some j=>decide (N[j]?=some p.2∧scope.names.lookup p.2=some .free))
theorem cG {X:Cx} {Nc:List Str} {ix:List (Option Nat)} {scope:Scope} (sc:Scope) (N:List Str) (Di:X.env.scope=sc) (hN:X.N=N) (h:Fz Nc ix scope sc N=true):fL X Nc ix scope:=by
 subst Di hN
 simp only [Fz,Bool.and_eq_true,decide_eq_true_eq,List.all_eq_true] at h
 obtain ⟨⟨⟨⟨⟨⟨h1,h2⟩,h3⟩,h4⟩,h5⟩,h6⟩,h7⟩:=h
 refine ⟨h1,h2,h3,h4,h5,fun x hx=>h6 _ hx rfl,fun i j x e1 e2=>?_⟩
 have hm:(some j,x) ∈ ix.zip Nc:=by
  refine List.mem_iff_getElem?.mpr ⟨i,?_⟩
  rw [List.getElem?_zip_eq_some]
  exact ⟨e1,e2⟩
 have:=h7 _ hm
 simpa using this
end L2
namespace L2
open PySem PySem.Spec PyProof.Rows
section
variable {K:PySem.W.Frag} {g:TG} {tt:TT} {te:TE} {D:Addr} {σ:St} {H:Hp} {Q:VK}
theorem kA {a:Addr} {xs:List V} (Pv:Nat→St→Hp→Prop) (h0:Pv 0 σ H) (hl:∀ i σ H,i≤xs.length→Pv i σ H→ae K H a xs)
  (hs:∀ (i:Nat) (x:V) (σ:St) (H:Hp) (N:St→Hp→Prop),(∀ σ H,Pv (i+1) σ H→N σ H)→xs[i]?=some x→Pv i σ H→g x σ H fun σ3 H3=>tt σ3 H3 fun b H4 =>
   if b=true then te σ3 H4 fun v H5=>∃ ys,H5 D=some (.lst ys)∧ys.length < sizeLine∧N σ3 (upd H5 D (.lst (ys ++ [v]))) else N σ3 H4)
  (hd:∀ σ H,Pv xs.length σ H→Q (.ref D) H) :
  rZ (PL K a) g tt te D σ H Q:=by
 refine ⟨fun i m σ H=>m=xs.length - i∧i≤xs.length∧Pv i σ H,⟨xs.length,by simp,Nat.zero_le _,h0⟩,?_⟩
 rintro i m σ' H' ⟨rfl,hi,p⟩
 have q:=hl i σ' H' hi p
 by_cases eU:i < xs.length
 ·refine .inr ⟨⟨xs,xs[i],q,by simp [eU]⟩,fun x H2 y=>?_⟩
  obtain ⟨e,y⟩:=y
  subst e
  exact hs i x σ' _ (fun σ3 H3=>∃ m',m' < xs.length - i∧m'=xs.length - (i+1)∧i+1≤xs.length∧Pv (i+1) σ3 H3) (fun σ3 H3 z=>⟨xs.length - (i+1),by omega,rfl,eU,z⟩) (y xs q) p
 ·have e:i=xs.length:=by omega
  subst e
  exact .inl ⟨⟨xs,q,Nat.le_refl _⟩,hd σ' H' p⟩
theorem jM {lo:Int} {n:Nat} (Pv:Nat→St→Hp→Prop) (h0:Pv 0 σ H)
  (hs:∀ (i:Nat) (σ:St) (H:Hp) (N:St→Hp→Prop),(∀ σ H,Pv (i+1) σ H→N σ H)→i < n→Pv i σ H→g (.int (lo+i)) σ H fun σ3 H3=>tt σ3 H3 fun b H4 =>
   if b=true then te σ3 H4 fun v H5=>∃ ys,H5 D=some (.lst ys)∧ys.length < sizeLine∧N σ3 (upd H5 D (.lst (ys ++ [v]))) else N σ3 H4)
  (hd:∀ σ H,Pv n σ H→Q (.ref D) H) :
  rZ (L8 lo n) g tt te D σ H Q:=by
 refine ⟨fun i m σ H=>m=n - i∧i≤n∧Pv i σ H,⟨n,by simp,Nat.zero_le _,h0⟩,?_⟩
 rintro i m σ' H' ⟨rfl,hi,p⟩
 by_cases eU:i < n
 ·refine .inr ⟨eU,fun x H2 y=>?_⟩
  obtain ⟨e,y⟩:=y
  subst e y
  exact hs i σ' _ (fun σ3 H3=>∃ m',m' < n - i∧m'=n - (i+1)∧i+1≤n∧Pv (i+1) σ3 H3) (fun σ3 H3 z=>⟨n - (i+1),by omega,rfl,eU,z⟩) eU p
 ·have e:i=n:=by omega
  subst e
  exact .inl ⟨Nat.le_refl _,hd σ' H' p⟩
end
theorem mB {ns:List Int} {i:Nat} {y:V} (h:(ns.map V.int)[i]?=some y):∃ z,ns[i]?=some z∧y=V.int z:=by
 rw [List.getElem?_map] at h
 cases e:ns[i]? with
 | none=>rw [e] at h;cases h
 | some z=>rw [e] at h;exact ⟨z,rfl,(Option.some.inj h).symm⟩
theorem take_succ {α:Type} {l:List α} {i:Nat} {x:α} (h:l[i]?=some x):l.take (i+1)=l.take i ++ [x]:=by
 rw [List.take_succ,h];rfl
end L2
namespace L2
open PySem
end L2
namespace L2
open PySem
theorem ck {i:Nat} {x:V} {σ:St} {H:Hp} {A B:St→Hp→Prop} (h:A (σ.set i (some x)) H):ik i x σ H fun σ3 H3=>Py σ3 H3 fun b H4=>if b=true then A σ3 H4 else B σ3 H4:=by
 show if true=true then A (σ.set i (some x)) H else B (σ.set i (some x)) H
 exact iu h
end L2
namespace L2
open PySem PySem.Spec PyProof.Rows
section
variable {X:Cx} {pins:List (Addr × Obj)} {σ:St} {H:Hp} {s:Shared} {h':Heap}
theorem Inv.F3 {ch:List Addr} {t':Nat} (I:Inv X pins σ H s) (k:∀ b o,b ∉ ch→s.heap.get? b=some o→h'.get? b=some o) (hf:∀ b ∈ ch,tJ X pins H b):Inv X pins σ H { s with heap:=h',toks:=t' }:=by
 have Sz:∀ b u,H b=some u→b ∉ ch:=fun b u e z=>by rw [(hf b z).1] at e;cases e
 refine I.JK (s':={ s with heap:=h',toks:=t' }) (ch:=ch) rfl ⟨fun b o e _ _ hx=>k b o hx e,fun b o e _ _ hx=>⟨o.slots,k b o hx e⟩,fun _ _ _ n _=>n,fun b o e hx=>⟨o,k b o hx e⟩,fun _ _ e=>e,fun _ _ _ e=>e,fun b ps e=>⟨#[],by rw [e];simp⟩⟩ ?_ I.bare fun b hb=>?_
 ·intro b o e
  refine (I.dN b o e).BR (fun c u hc q=>k c u ?_ q) (fun _ q=>q) fun _ _ q=>q
  rcases hc with z | z
  ·rw [z];exact Sz b o e
  ·exact Sz c _ z
 ·obtain ⟨_,q1,_,q3,q4,q5⟩:=hf b hb
  exact ⟨q3,q1,q4,q5⟩
theorem Inv.zW {ch:List Addr} {T:Addr} {o:HO} {t':Nat} (I:Inv X pins σ H s) (k:∀ b o,b ∉ ch→s.heap.get? b=some o→h'.get? b=some o) (hf:∀ b ∈ ch,tJ X pins H b) (hT:s.heap.objs.size≤T)
  (new:fV X.prog X.w (upd H T o) h' T o):Inv X pins σ (upd H T o) { s with heap:=h',toks:=t' }:=by
 have Sz:∀ b u,H b=some u→b ∉ ch:=fun b u e z=>by rw [(hf b z).1] at e;cases e
 have hn:=I.dN.fresh hT
 have old:∀ b u,s.heap.get? b=some u→b≠T:=fun b u e=>Nat.ne_of_lt (Nat.lt_of_lt_of_le (Heap.lt_size e) hT)
 refine I.JK (s':={ s with heap:=h',toks:=t' }) (ch:=ch) rfl ⟨fun b o e _ _ hx=>k b o hx e,fun b o e _ _ hx=>⟨o.slots,k b o hx e⟩,fun b u e n _=>by rw [aH (old b u e)];exact n,fun b o e hx=>⟨o,k b o hx e⟩,
  fun b xs e=>by rw [aH (aP e hn)];exact e,fun b o u e=>by rw [aH (aP e hn)];exact e,fun b ps e=>⟨#[],by rw [aH (aP e hn),e];simp⟩⟩ ?_ I.bare fun b hb=>?_
 ·intro b u e
  by_cases hb:b=T
  ·subst hb
   rw [aD] at e
   cases e
   exact new
  ·rw [aH hb] at e
   refine (I.dN b u e).BR (fun c v hc q=>k c v ?_ q) (fun c q=>by rw [aH (aP q hn)];exact q) fun c xs q=>by rw [aH (aP q hn)];exact q
   rcases hc with z | z
   ·rw [z];exact Sz b u e
   ·exact Sz c _ z
 ·obtain ⟨_,q1,_,q3,q4,q5⟩:=hf b hb
  exact ⟨q3,q1,q4,q5⟩
end
def P7 (K:PySem.W.Frag) (a b:Addr):It :=
 ⟨fun i H=>∃ xs ys x y,ae K H a xs∧ae K H b ys∧xs[i]?=some x∧ys[i]?=some y,
  fun i H v H'=>∃ p x y,H p=none∧v=.ref p∧H'=upd H p (.tup [x,y])∧(∀ xs,ae K H a xs→xs[i]?=some x)∧∀ ys,ae K H b ys→ys[i]?=some y,
  fun i H=>∃ xs ys,ae K H a xs∧ae K H b ys∧(xs.length≤i∨ys.length≤i)⟩
theorem Jq {P:Program} {w:World} {K:PySem.W.Frag} {elts:List Expr} {x1:Nat} {pos:Pos} {z TI TO i1 i2 l1 l2:Addr} (D:ZipApart z TI TO i1 i2 l1 l2) :
  Turn P w K (.Tuple elts x1 pos) (P7 K l1 l2) [z,TI,TO,i1,i2] z (fun i h=>IsZip h z TI TO .none∧IsPair h TI (.ref i1) (.ref i2)∧(∃ a b,IsPair h TO a b)∧h.IsListIter i1 l1 i∧h.IsListIter i2 l2 i) where
 mem:=by simp
 obj:=fun i h st b hb=>by
  obtain ⟨hz,qS,⟨a,b',tD⟩,⟨o1,e1,c1,d1⟩,⟨o2,e2,c2,d2⟩⟩:=st
  simp only [List.mem_cons,List.not_mem_nil,or_false] at hb
  rcases hb with rfl | rfl | rfl | rfl | rfl
  ·exact ⟨_,hz,fun v q=>by cases q⟩
  ·exact ⟨_,qS,fun v q=>by cases q⟩
  ·exact ⟨_,tD,fun v q=>by cases q⟩
  ·exact ⟨_,e1,fun v q=>by rw [d1] at q;cases q⟩
  ·exact ⟨_,e2,fun v q=>by rw [d2] at q;cases q⟩
 keep:=fun i h h' st k=>by
  obtain ⟨hz,qS,⟨a,b',tD⟩,h1,h2⟩:=st
  exact ⟨k z (by simp) _ hz,k TI (by simp) _ qS,⟨a,b',k TO (by simp) _ tD⟩,h1.at fun o e=>k i1 (by simp) o e,h2.at fun o e=>k i2 (by simp) o e⟩
 item:=by
  intro X hP hw hK hc i pins s σ H E I hf st hg
  subst hP hw hK
  obtain ⟨hz,qS,⟨a,b,tD⟩,h1,h2⟩:=st
  obtain ⟨xs,ys,x,y,hx,hy,ex,ey⟩:=hg
  obtain ⟨au,rv,p,W5⟩:=I.list hx
  obtain ⟨iO,S0,p2,Ze⟩:=I.list hy
  obtain ⟨u,hu,ru⟩:=rv.get ex
  obtain ⟨u2,W6,W7⟩:=S0.get ey
  refine wpAny_pyNext_zip_item D hz qS tD h1 h2 p.isList p2.isList (x:=u) (y:=u2) (by simpa using hu) (by simpa using W6) fun h' a1 a2 a3 a4 a5 a6 kk=>⟨_,rfl,?_⟩
  refine wpAny_letOwnedTupleGo_zip a1 fun P8 W8 HP=>?_
  have lt:∀ {c o},s.heap.get? c=some o→s.heap.objs.size≠c:=fun e=>Nat.ne_of_gt (Heap.lt_size e)
  have k2:∀ c o,c ∉ [z,TI,TO,i1,i2]→s.heap.get? c=some o→P8.get? c=some o:=fun c o hc e=>by
   simp only [List.mem_cons,List.not_mem_nil,or_false,not_or] at hc
   exact HP.extBut _ _ hc.1 (kk c o hc.1 hc.2.2.1 hc.2.2.2.1 hc.2.2.2.2 e)
  have tup:fV X.prog X.w (upd H s.heap.objs.size (.tup [x,y])) P8 s.heap.objs.size (.tup [x,y]) :=
   ⟨by show 2≤sizeLine;decide,[u,u2],.cons ru (.cons W7 .nil),⟨_,HP.extBut _ _ (lt hz) a5,rfl,_,rfl⟩⟩
  have hn:=I.dN.fresh (Nat.le_refl s.heap.objs.size)
  refine ⟨.ref s.heap.objs.size,_,I.zW (t':=s.toks) k2 hf (Nat.le_refl _) tup,rfl,⟨_,x,y,hn,rfl,rfl,fun zs hq=>by rw [I.rR hq hx];exact ex,fun zs hq=>by rw [I.rR hq hy];exact ey⟩,
   ⟨W8,HP.extBut _ _ D.TIz (kk _ _ D.TIz D.TITO D.TIi1 D.TIi2 qS),⟨_,_,HP.extBut _ _ D.TOz a2⟩,a3.extBut HP.extBut D.i1z,a4.extBut HP.extBut D.i2z⟩,fun c hc=>?_⟩
  have RX:c≠s.heap.objs.size:=by
   simp only [List.mem_cons,List.not_mem_nil,or_false] at hc
   obtain ⟨o1,e1,_⟩:=h1
   obtain ⟨o2,e2,_⟩:=h2
   rcases hc with rfl | rfl | rfl | rfl | rfl
   ·exact (lt hz).symm
   ·exact (lt qS).symm
   ·exact (lt tD).symm
   ·exact (lt e1).symm
   ·exact (lt e2).symm
  rw [aH RX]
  exact (hf c hc).1
 done:=by
  intro X hP hw hK hc i pins s σ H E I hf st hg
  subst hP hw hK
  obtain ⟨hz,qS,⟨a,b,tD⟩,h1,h2⟩:=st
  obtain ⟨xs,ys,hx,hy,he⟩:=hg
  obtain ⟨au,rv,p,W5⟩:=I.list hx
  obtain ⟨iO,S0,p2,Ze⟩:=I.list hy
  have l1':=rv.length
  have l2':=S0.length
  refine wpAny_pyNext_zip_end (I.ok.hd hc) D hz qS tD h1 h2 p.isList p2.isList (by rcases he with h | h;exact .inl (by simp;omega);exact .inr (by simp;omega)) fun h' kk=>⟨rfl,?_⟩
  refine I.F3 (t':=s.toks) (ch:=[z,TI,TO,i1,i2]) (fun c o hc e=>?_) hf
  simp only [List.mem_cons,List.not_mem_nil,or_false,not_or] at hc
  exact kk c o hc.1 hc.2.2.1 hc.2.2.2.1 hc.2.2.2.2 e
 self:=fun _ _ _ _ _ st h=>wpAny_pyIter_zip st.1 h
section
variable {X:Cx}
def S6 (K:PySem.W.Frag) (ta:TA):TI:=fun σ H R=>ta σ H fun vs H1=>∃ a b,vs=[.ref a,.ref b]∧(∃ xs,ae K H1 a xs)∧(∃ ys,ae K H1 b ys)∧R (P7 K a b) H1
theorem P9 {e1 e2:Expr} {ta:TA} {p pos AJ:Pos} {elts:List Expr} {x1:Nat} (hg:Gl X "zip") (hm:X.mg "zip"=none) (ha:PA X [e1,e2] ta) (hs:starEach [e1,e2] X.env=(false,eval e1 X.env) :: starEach [e2] X.env:=by rfl) (pj:(backTo pos (starEach [e2] X.env)).any (·.1)=false:=by rfl) :
  PI X (.Tuple elts x1 AJ) (.Call (.Name "zip" p) [e1,e2] [] pos) (S6 X.K ta):=by
 intro pins s σ H R I h
 refine wpAny_Call_Name_kw (lu I hg hm boot_zip ?_ (by decide) (by decide))
 refine PyProof.Rows.callWith_type1 (cb (ha pos pins s σ H _ I h) fun us s1 ⟨vs,H1,I1,r1,q1⟩=>?_) hs pj
 obtain ⟨a,b,rfl,⟨xs,hx⟩,⟨ys,hy⟩,q⟩:=q1
 obtain ⟨u,v,rfl,ru,rv⟩:=r1.two
 cases ru
 cases rv
 obtain ⟨au,RY,p1,_⟩:=I1.list hx
 obtain ⟨iO,RZ,p2,_⟩:=I1.list hy
 refine call_zip_2 p1.isList p2.isList fun h' hz qS tD h1 h2 pf kk=>?_
 refine wpAny_pyIter_zip hz ?_
 have la:a < s1.heap.objs.size:=by obtain ⟨o,n,ho,_⟩:=p1;exact Heap.lt_size ho
 have lb:b < s1.heap.objs.size:=by obtain ⟨o,n,ho,_⟩:=p2;exact Heap.lt_size ho
 have I2:Inv X pins σ H1 { s1 with heap:=h' }:=I1.kept (t':=s1.toks) fun b o e=>kk b o e
 refine ⟨s1.heap.objs.size+4,[s1.heap.objs.size+4,s1.heap.objs.size+2,s1.heap.objs.size+3,s1.heap.objs.size,s1.heap.objs.size+1],_,_,H1,rfl,I2,Jq (zipApart_new la lb),⟨hz,qS,⟨_,_,tD⟩,h1,h2⟩,fun c hc=>?_,q⟩
 have hle:s1.heap.objs.size≤c:=by
  simp only [List.mem_cons,List.not_mem_nil,or_false] at hc
  rcases hc with rfl | rfl | rfl | rfl | rfl
  ·exact Nat.le_add_right _ _
  ·exact Nat.le_add_right _ _
  ·exact Nat.le_add_right _ _
  ·exact Nat.le_refl _
  ·exact Nat.le_add_right _ _
 have f:=I1.BZ (H':=H1) hle (I1.dN.fresh hle)
 exact f
theorem QA {i j:Nat} {x y:Str} {px py pos:Pos} {k:Nat} (hc:X.calm=true) (hN:X.N.Nodup) (hi:X.N[i]?=some x) (hj:X.N[j]?=some y) (lx:Loc X.env.scope x) (ly:Loc X.env.scope y)
  (fx:X.fn x=true∨X.env.scope.names.lookup x=some .local:=by first | exact .inl rfl | exact .inr rfl) (fy:X.fn y=true∨X.env.scope.names.lookup y=some .local:=by first | exact .inl rfl | exact .inr rfl)
  (hs:(assignEach [.Name x px,.Name y py] X.env).map (·.2)=[assign (.Name x px) X.env,assign (.Name y py) X.env]:=by rfl) (HA:(assignEach [.Name y py] X.env).map (·.2)=[assign (.Name y py) X.env]:=by rfl) (W9:(assignEach [] X.env).map (·.2)=[]:=by rfl)
  (hn:(assignEach [.Name x px,.Name y py] X.env).length=2:=by rfl) (DM:(assignEach [.Name x px,.Name y py] X.env).findIdx? (·.1)=none:=by rfl) :
  PG X (.Tuple [.Name x px,.Name y py] k pos) (JO X.K 2 (rT (ik i) (rT (ik j) JN))) :=
 PK hc (BX (aw hN hi lx fx) (BX (aw hN hj ly fy) L0 (by rw [HA,W9])) (by rw [hs,HA])) hn DM
end
end L2
namespace L2
open PySem PySem.Spec PyProof.Rows
section
variable {K:PySem.W.Frag} {g:TG} {tt:TT} {te:TE} {D:Addr} {σ:St} {H:Hp} {Q:VK}
theorem QB {a b:Addr} {xs ys:List V} (hlen:xs.length=ys.length) (Pv:Nat→St→Hp→Prop) (h0:Pv 0 σ H) (hl:∀ i σ H,i≤xs.length→Pv i σ H→ae K H a xs∧ae K H b ys)
  (hs:∀ (i:Nat) (x y:V) (p:Addr) (σ:St) (H:Hp) (N:St→Hp→Prop),(∀ σ H,Pv (i+1) σ H→N σ H)→xs[i]?=some x→ys[i]?=some y→Pv i σ H→H p=none→g (.ref p) σ (upd H p (.tup [x,y])) fun σ3 H3=>tt σ3 H3 fun b H4 =>
   if b=true then te σ3 H4 fun v H5=>∃ ys,H5 D=some (.lst ys)∧ys.length < sizeLine∧N σ3 (upd H5 D (.lst (ys ++ [v]))) else N σ3 H4)
  (hd:∀ σ H,Pv xs.length σ H→Q (.ref D) H):rZ (P7 K a b) g tt te D σ H Q:=by
 refine ⟨fun i m σ H=>m=xs.length - i∧i≤xs.length∧Pv i σ H,⟨xs.length,by simp,Nat.zero_le _,h0⟩,?_⟩
 rintro i m σ' H' ⟨rfl,hi,p⟩
 obtain ⟨q1,q2⟩:=hl i σ' H' hi p
 by_cases eU:i < xs.length
 ·refine .inr ⟨⟨xs,ys,xs[i],ys[i],q1,q2,by simp [eU],by simp [show i < ys.length by omega]⟩,fun v H2 z=>?_⟩
  obtain ⟨pt,x,y,hp,rfl,rfl,e1,e2⟩:=z
  exact hs i x y pt σ' H' (fun σ3 H3=>∃ m',m' < xs.length - i∧m'=xs.length - (i+1)∧i+1≤xs.length∧Pv (i+1) σ3 H3) (fun σ3 H3 z=>⟨xs.length - (i+1),by omega,rfl,eU,z⟩) (e1 xs q1) (e2 ys q2) p hp
 ·have e:i=xs.length:=by omega
  subst e
  exact .inl ⟨⟨xs,ys,q1,q2,.inl (Nat.le_refl _)⟩,hd σ' H' p⟩
theorem wM {i j:Nat} {x y:V} {p:Addr} {A B:St→Hp→Prop} (h:A ((σ.set i (some x)).set j (some y)) (upd H p (.tup [x,y]))) :
  JO K 2 (rT (ik i) (rT (ik j) JN)) (.ref p) σ (upd H p (.tup [x,y])) fun σ3 H3=>Py σ3 H3 fun b H4=>if b=true then A σ3 H4 else B σ3 H4 :=
 ⟨p,[x,y],rfl,cD.of aD,rfl,x,_,rfl,y,_,rfl,rfl,(by
  show if true=true then A ((σ.set i (some x)).set j (some y)) (upd H p (.tup [x,y])) else B ((σ.set i (some x)).set j (some y)) (upd H p (.tup [x,y]))
  exact iu h)⟩
end
section
variable {X:Cx}
end
end L2
namespace L2
open PySem PySem.Spec PyProof.Rows
def cN (n:Nat) (f:Nat→V):List V:=(List.range n).map f
abbrev tabI (n:Nat) (f:Nat→Int):List V:=cN n fun j=>V.int (f j)
abbrev bD (n:Nat) (f:Nat→Addr):List V:=cN n fun j=>V.ref (f j)
theorem aN (n:Nat) (f:Nat→V):(cN n f).length=n:=by simp [cN]
theorem be {n i:Nat} {f:Nat→V} (h:i < n):(cN n f)[i]?=some (f i):=by simp [cN,h]
theorem tab_of {n i:Nat} {f:Nat→V} {x:V} (h:(cN n f)[i]?=some x):i < n∧x=f i:=by
 have hi:i < n:=by
  have:=(List.getElem?_eq_some_iff.mp h).1
  rwa [aN] at this
 rw [be hi] at h
 exact ⟨hi,(Option.some.inj h).symm⟩
theorem rf (n:Nat) (f:Nat→V):cN (n+1) f=cN n f ++ [f n]:=by simp [cN,List.range_succ]
theorem ba {n:Nat} {f g:Nat→V} (h:∀ i,i < n→f i=g i):cN n f=cN n g:=by
 unfold cN
 apply List.map_congr_left
 intro i hi
 exact h i (List.mem_range.mp hi)
theorem rg {n i:Nat} {f:Nat→V} {v:V} (h:i < n):(cN n f).set i v=cN n fun j=>if j=i then v else f j:=by
 apply List.ext_getElem?
 intro j
 by_cases hj:j < n
 ·rw [be hj]
  by_cases e:j=i
  ·subst e
   rw [List.getElem?_set_self (by rw [aN];exact hj)]
   simp
  ·rw [List.getElem?_set_ne (Ne.symm e),be hj]
   simp [e]
 ·rw [List.getElem?_eq_none (by rw [List.length_set,aN];omega),List.getElem?_eq_none (by rw [aN];omega)]
theorem wN {n:Nat} {i:Int} {f:Nat→V} (h0:0≤i) (h:i < n):DZ (cN n f).length i=some i.toNat:=by
 rw [aN]
 unfold DZ
 rw [if_pos h0,if_pos h]
theorem dH {n:Nat} {i:Int} {f:Nat→V} (h0:0≤i) (h:i < n):qA (cN n f) i=some (f i.toNat):=by
 unfold qA
 rw [wN h0 h]
 exact be (by omega)
theorem Jr {n:Nat} {f:Nat→V}:qA (cN (n+1) f) (-1)=some (f n):=by
 have h:DZ (cN (n+1) f).length (-1)=some n:=by
  rw [aN]
  unfold DZ
  rw [if_neg (by omega),if_pos (by omega)]
  congr 1
  omega
 unfold qA
 rw [h]
 exact be (by omega)
theorem vh (n:Nat) (f:Nat→Int):((List.range n).map f).map V.int=tabI n f:=by unfold tabI cN;rw [List.map_map];rfl
def rh (K:PySem.W.Frag) (H:Hp) (l:Addr) (m n:Nat) (a:Nat→Nat→Int):Prop:=∃ as:Nat→Addr,ae K H l (bD m as)∧∀ i,i < m→ae K H (as i) (tabI n (a i))
theorem aK.aBJ {K:PySem.W.Frag} {H H':Hp} {l:Addr} {m n:Nat} {a:Nat→Nat→Int} (s:aK H H') (g:rh K H l m n a):rh K H' l m n a:=let ⟨as,h1,h2⟩:=g;⟨as,s.seq h1,fun i hi=>s.seq (h2 i hi)⟩
theorem rh.congr {K:PySem.W.Frag} {H:Hp} {l:Addr} {m n:Nat} {a b:Nat→Nat→Int} (g:rh K H l m n a) (h:∀ i j,i < m→j < n→a i j=b i j):rh K H l m n b:=by
 obtain ⟨as,h1,h2⟩:=g
 refine ⟨as,h1,fun i hi=>?_⟩
 have e:tabI n (a i)=tabI n (b i):=ba fun j hj=>by rw [h i j hi hj]
 rw [← e]
 exact h2 i hi
end L2
namespace L2
open PySem PySem.Spec PyProof.Rows
section
variable {K:PySem.W.Frag} {g:TG} {tt:TT} {te:TE} {D:Addr} {σ:St} {H:Hp} {Q:VK}
theorem tO {a:Addr} {n:Nat} {F:Nat→V} (Pv:Nat→St→Hp→Prop) (h0:Pv 0 σ H) (hl:∀ i σ H,i≤n→Pv i σ H→ae K H a (cN n F))
  (hs:∀ (i:Nat) (σ:St) (H:Hp) (N:St→Hp→Prop),(∀ σ H,Pv (i+1) σ H→N σ H)→i < n→Pv i σ H→g (F i) σ H fun σ3 H3=>tt σ3 H3 fun b H4 =>
   if b=true then te σ3 H4 fun v H5=>∃ ys,H5 D=some (.lst ys)∧ys.length < sizeLine∧N σ3 (upd H5 D (.lst (ys ++ [v]))) else N σ3 H4)
  (hd:∀ σ H,Pv n σ H→Q (.ref D) H):rZ (PL K a) g tt te D σ H Q:=by
 refine kA (xs:=cN n F) Pv h0 (fun i σ H hi=>hl i σ H (by rwa [aN] at hi)) (fun i x σ H N hN hx hp=>?_) (fun σ H h=>hd σ H (by rwa [aN] at h))
 obtain ⟨hi,rfl⟩:=tab_of hx
 exact hs i σ H N hN hi hp
theorem F4 {a b:Addr} {n:Nat} {F G:Nat→V} (Pv:Nat→St→Hp→Prop) (h0:Pv 0 σ H) (hl:∀ i σ H,i≤n→Pv i σ H→ae K H a (cN n F)∧ae K H b (cN n G))
  (hs:∀ (i:Nat) (p:Addr) (σ:St) (H:Hp) (N:St→Hp→Prop),(∀ σ H,Pv (i+1) σ H→N σ H)→i < n→Pv i σ H→H p=none→g (.ref p) σ (upd H p (.tup [F i,G i])) fun σ3 H3=>tt σ3 H3 fun b H4 =>
   if b=true then te σ3 H4 fun v H5=>∃ ys,H5 D=some (.lst ys)∧ys.length < sizeLine∧N σ3 (upd H5 D (.lst (ys ++ [v]))) else N σ3 H4)
  (hd:∀ σ H,Pv n σ H→Q (.ref D) H):rZ (P7 K a b) g tt te D σ H Q:=by
 refine QB (xs:=cN n F) (ys:=cN n G) (by rw [aN,aN]) Pv h0 (fun i σ H hi=>hl i σ H (by rwa [aN] at hi)) (fun i x y p σ H N hN hx hy hp hn=>?_) (fun σ H h=>hd σ H (by rwa [aN] at h))
 obtain ⟨hi,rfl⟩:=tab_of hx
 obtain ⟨_,rfl⟩:=tab_of hy
 exact hs i p σ H N hN hi hp hn
theorem kC {H:Hp} {D:Addr} {i:Nat} {F:Nat→V} {v:V} (h:v=F i):(upd H D (.lst (cN i F ++ [v]))) D=some (.lst (cN (i+1) F)):=by
 rw [aD,rf,h]
end
end L2
namespace L2
open PySem
theorem Bx (i:Nat) (F:Nat→V) (x:V):cN i F ++ [x]=cN (i+1) fun k=>if k=i then x else F k:=by
 refine ((rf i _).trans ?_).symm
 rw [show cN i (fun k=>if k=i then x else F k)=cN i F from ba fun k hk=>by rw [if_neg (by omega)],if_pos rfl]
theorem bq (i:Nat) (ps:Nat→Addr) (p:Addr):bD i ps ++ [V.ref p]=bD (i+1) fun k=>if k=i then p else ps k:=by
 rw [Bx]
 refine ba fun k hk=>?_
 by_cases e:k=i <;> simp [e]
end L2
namespace L2
open PySem
theorem aK.both {B H:Hp} {p:Addr} {o:HO} (s:aK B H) (h:H p=some o):aK (upd B p o) H:=fun b u e=>by
 by_cases z:b=p
 ·subst z
  rw [aD] at e
  cases e
  exact h
 ·rw [aH z] at e
  exact s b u e
theorem aK.grow {B:Hp} {p:Addr} {o:HO} (h:B p=none):aK B (upd B p o):=(aK.refl B).new h
end L2
namespace L2
end L2
namespace L2
open PySem PySem.Spec PyProof.Rows
def S7 (t:TS):TS:=fun D σ H=>∃ R:St→Hp→Prop,t { D with nx:=R } σ H∧∀ σ' H',R σ' H'→D.nx σ' H'
theorem Dj {X:Cx} {st:Stmt} {t:TS} (h:PS X st t):PS X st (S7 t):=by
 intro pins s σ H D I ⟨R,h1,h2⟩
 refine wpAny_mono (h pins s σ H { D with nx:=R } I h1) (fun f s' q=>?_) fun _ _ z=>z
 cases f with
 | next=>obtain ⟨σ',H',I',q⟩:=q;exact ⟨σ',H',I',h2 σ' H' q⟩
 | brk=>exact q
 | cont=>exact q
 | ret u=>exact q
end L2
namespace L2
open PySem PySem.Spec PyProof.Rows
section
variable {X:Cx} (K:PySem.W.Frag)
theorem aR (hK:X.K=K:=by rfl):ME X (Pg K):=by subst hK;exact MF
theorem dh (hK:X.K=K:=by rfl):ME X (SY K):=by subst hK;exact Pj
theorem jN (hK:X.K=K:=by rfl):Pf X (Sf K):=by subst hK;exact MG
theorem bM (hK:X.K=K:=by rfl):j7 X (.builtin "len") (fun xs H Q=>∃ p ys,xs=[.ref p]∧(ae K H p ys∨cD K H p ys)∧Q (.int ys.length) H):=by subst hK;exact AL
theorem gT (hK:X.K=K:=by rfl):j7 X (.type "list") (fun xs H Q=>∃ p ys,xs=[.ref p]∧(ae K H p ys∨cD K H p ys)∧∀ l,H l=none→Q (.ref l) (upd H l (.lst ys))):=by subst hK;exact AM
theorem kD (hK:X.K=K:=by rfl):ni X (binaryOp .Add) (OQ K):=by subst hK;exact ML
theorem bj {tg l:Expr} {tl:TE} (hl:PE X l tl) (hK:X.K=K:=by rfl):PI X tg l (OJ K tl):=by subst hK;exact Fg hl
theorem AR {e1 e2:Expr} {ta:TA} {p pos AJ:Pos} {elts:List Expr} {x1:Nat} (hg:Gl X "zip") (hm:X.mg "zip"=none) (ha:PA X [e1,e2] ta) (hK:X.K=K:=by rfl) (hs:starEach [e1,e2] X.env=(false,eval e1 X.env) :: starEach [e2] X.env:=by rfl) (pj:(backTo pos (starEach [e2] X.env)).any (·.1)=false:=by rfl) :
  PI X (.Tuple elts x1 AJ) (.Call (.Name "zip" p) [e1,e2] [] pos) (S6 K ta):=by subst hK;exact P9 hg hm ha hs pj
theorem iw {i j:Nat} {x y:Str} {px py pos:Pos} {k:Nat} (hc:X.calm=true) (hN:X.N.Nodup) (hi:X.N[i]?=some x) (hj:X.N[j]?=some y) (lx:Loc X.env.scope x) (ly:Loc X.env.scope y) (hK:X.K=K:=by rfl)
  (fx:X.fn x=true∨X.env.scope.names.lookup x=some .local:=by first | exact .inl rfl | exact .inr rfl) (fy:X.fn y=true∨X.env.scope.names.lookup y=some .local:=by first | exact .inl rfl | exact .inr rfl)
  (hs:(assignEach [.Name x px,.Name y py] X.env).map (·.2)=[assign (.Name x px) X.env,assign (.Name y py) X.env]:=by rfl) (HA:(assignEach [.Name y py] X.env).map (·.2)=[assign (.Name y py) X.env]:=by rfl) (W9:(assignEach [] X.env).map (·.2)=[]:=by rfl)
  (hn:(assignEach [.Name x px,.Name y py] X.env).length=2:=by rfl) (DM:(assignEach [.Name x px,.Name y py] X.env).findIdx? (·.1)=none:=by rfl) :
  PG X (.Tuple [.Name x px,.Name y py] k pos) (JO K 2 (rT (ik i) (rT (ik j) JN))):=by
 subst hK
 exact QA hc hN hi hj lx ly fx fy hs HA W9 hn DM
theorem eg {o e:Expr} {es:List Expr} {to:TE} {t:TA} {name:Str} {apos fY:Pos} {T id:String} {r:V→List V→Hp→VK→Prop} (pa:PlainAttrs T) (slot:Slot T name id) (Wh:typeOf (.builtin id)=pure (.type "method_descriptor")) (hm:RR X id r) (ho:PE X o to) (ha:PA X (e :: es) t) (hK:X.K=K:=by rfl)
  (Ja:attributeBase o name X.env (eval o X.env)=eval o X.env:=by rfl)
  (Pm:((backTo fY (starEach (e :: es) X.env)).all (fun x=>!x.1) && (backToKw fY (keywordEach [] X.env)).all (fun x=>x.1.isSome)
   && decide ((e :: es).length+([]:List Keyword).length+(if ([]:List Keyword).isEmpty then 0 else 1) < 30))=true:=by rfl)
  (Jb:(apos.endLine == fY.line)=true:=by rfl) (hs:starEach (e :: es) X.env=(false,eval e X.env) :: starEach es X.env:=by rfl) (De:(backTo fY (starEach es X.env)).any (·.1)=false:=by rfl) :
  PE X (.Call (.Attribute o name apos) (e :: es) [] fY) (Wg K T r to t):=by subst hK;exact OM pa slot Wh hm ho ha Ja Pm Jb hs De
end
end L2
namespace L2
open PySem PySem.Spec PyProof.Rows
section
variable {X:Cx}
def S8 (K:PySem.W.Frag) (neg:Bool):R2:=fun x y H Q=>∃ (a b:Addr) (ys zs:List Int),x=.ref a∧y=.ref b∧ae K H a (ys.map V.int)∧ae K H b (zs.map V.int)∧Q (.bl (if neg then !decide (ys=zs) else decide (ys=zs))) H
theorem Js {pins:List (Addr × Obj)} {σ:St} {H:Hp} {s:Shared} (I:Inv X pins σ H s) {ys zs:List Int} {au iO:List Value} (r1:a9 (ys.map V.int) au) (r2:a9 (zs.map V.int) iO) {A:Around} (j:Nat) (h1:j < au.toArray.size) (h2:j < iO.toArray.size) :
  SeqAt.EqAt A s au.toArray[j] iO.toArray[j] (ys.getD j 0 == zs.getD j 0):=by
 obtain ⟨x,hx,rx⟩:=iP r1 j h1
 obtain ⟨y,hy,ry⟩:=iP r2 j h2
 obtain ⟨u,XA,rfl⟩:=mB hx
 obtain ⟨v,SK,rfl⟩:=mB hy
 have:=Dd (A:=A) (s:=s) rx ry rfl rfl
 have e1:ys.getD j 0=u:=by simp [List.getD,XA]
 have e2:zs.getD j 0=v:=by simp [List.getD,SK]
 rw [e1,e2]
 exact this
theorem By {ys zs:List Int} (hl:ys.length=zs.length) {n:Nat} (hn:n=ys.length):(List.range n).all (fun j=>ys.getD j 0 == zs.getD j 0)=decide (ys=zs):=by
 subst hn
 by_cases h:ys=zs
 ·subst h
  simp
 ·rw [decide_eq_false h,Bool.eq_false_iff]
  intro Df
  rw [List.all_eq_true] at Df
  apply h
  apply List.ext_getElem hl
  intro i g1 g2
  have:=Df i (List.mem_range.mpr g1)
  simpa [List.getD,g1,g2] using this
theorem QC (hu:X.A.units+16 < cLine):ni X (compareOp .Eq) (S8 X.K false):=by
 intro pins s σ H x y v u Q I rx ry h
 obtain ⟨a,b,ys,zs,rfl,rfl,ha,hb,q⟩:=h
 cases rx
 cases ry
 obtain ⟨au,r1,p1,_⟩:=I.list ha
 obtain ⟨iO,r2,p2,_⟩:=I.list hb
 have l1:=r1.length
 have l2:=r2.length
 rw [List.length_map] at l1 l2
 by_cases hl:ys.length=zs.length
 ·refine SeqAt.eq_listAt (e:=fun j=>ys.getD j 0 == zs.getD j 0) p1.isList p2.isList (by simp;omega) (by omega) (fun j h1 h2=>Js I r1 r2 j h1 h2) ?_
  rw [By hl (by simp;omega)]
  exact ⟨.bl _,H,I,rfl,q⟩
 ·refine SeqAt.eq_list_lengthsAt p1.isList p2.isList (by simp;omega) (by omega) ?_
  have e:decide (ys=zs)=false:=decide_eq_false fun z=>hl (by rw [z])
  rw [e] at q
  exact ⟨.bl false,H,I,rfl,q⟩
theorem F5 (K:PySem.W.Frag) (hu:X.A.units+16 < cLine) (hK:X.K=K:=by rfl):ni X (compareOp .Eq) (S8 K false):=by subst hK;exact QC hu
end
theorem turn_if {i:Nat} {x:V} {σ:St} {H:Hp} {tt:TT} {A B:St→Hp→Prop} (h:tt (σ.set i (some x)) H fun b H4=>if b=true then A (σ.set i (some x)) H4 else B (σ.set i (some x)) H4):ik i x σ H fun σ3 H3=>tt σ3 H3 fun b H4=>if b=true then A σ3 H4 else B σ3 H4:=h
theorem Jt (ns:List Int):ns.map V.int=tabI ns.length fun i=>ns.getD i 0:=by
 apply List.ext_getElem?
 intro j
 by_cases hj:j < ns.length
 ·rw [be hj,List.getElem?_map]
  simp [hj,List.getD]
 ·rw [List.getElem?_eq_none (by rw [List.length_map];omega),List.getElem?_eq_none (by rw [aN];omega)]
theorem vi {n:Nat} {f:Nat→V} {lo hi:Nat} (h1:lo≤hi) (h2:hi≤n):gP (cN n f) (some (lo:Int)) (some (hi:Int))=cN (hi - lo) fun i=>f (lo+i):=by
 unfold gP
 rw [HT.pP,HT.pP,aN,Nat.min_eq_left h2,Nat.min_eq_left (by omega)]
 apply List.ext_getElem?
 intro j
 by_cases hj:j < hi - lo
 ·rw [be hj,List.getElem?_take_of_lt hj,List.getElem?_drop,be (by omega)]
 ·rw [List.getElem?_eq_none (by rw [List.length_take,List.length_drop,aN];omega),List.getElem?_eq_none (by rw [aN];omega)]
theorem qT {n:Nat} {f:Nat→V} {hi:Nat} (h2:hi≤n):gP (cN n f) none (some (hi:Int))=cN hi f:=by
 have:=vi (lo:=0) (f:=f) (Nat.zero_le hi) h2
 have e:gP (cN n f) none (some (hi:Int))=gP (cN n f) (some ((0:Nat):Int)) (some (hi:Int)):=by
  unfold gP
  rw [HT.pP _ _ hi,HT.Bl,HT.pP _ _ 0,Nat.zero_min]
 rw [e,this]
 exact ba fun i _=>by rw [Nat.zero_add]
theorem Dk {n:Nat} {f:Nat→V} {lo:Nat} (h2:lo≤n):gP (cN n f) (some (lo:Int)) none=cN (n - lo) fun i=>f (lo+i):=by
 have:=vi (f:=f) h2 (Nat.le_refl n)
 have e:gP (cN n f) (some (lo:Int)) none=gP (cN n f) (some (lo:Int)) (some (n:Int)):=by
  unfold gP
  rw [HT.pP,HT.pP,HT.Bl,aN,Nat.min_self]
 rw [e,this]
theorem MN {n m:Nat} {f g:Nat→V}:cN n f ++ cN m g=cN (n+m) fun i=>if i < n then f i else g (i - n):=by
 apply List.ext_getElem?
 intro j
 by_cases hj:j < n+m
 ·rw [be hj]
  by_cases h:j < n
  ·rw [List.getElem?_append_left (by rw [aN];exact h),be h,if_pos h]
  ·rw [List.getElem?_append_right (by rw [aN];omega),aN,be (by omega),if_neg h]
 ·rw [List.getElem?_eq_none (by rw [List.length_append,aN,aN];omega),List.getElem?_eq_none (by rw [aN];omega)]
theorem HQ (n:Nat) (f:Nat→Int) (i:Nat) (h:i < n):((List.range n).map f).getD i 0=f i:=by simp [h]
end L2
namespace L2
open PySem PySem.Spec PyProof.Rows
def S9 (K:PySem.W.Frag) (a:Addr) (xs:List V):It:=⟨fun i H=>ae K H a xs∧i < xs.length,fun i H x H'=>H'=H∧xs.reverse[i]?=some x,fun i _=>xs.length≤i⟩
theorem Ju {P:Program} {w:World} {K:PySem.W.Frag} {tg:Expr} (a it:Addr) (xs:List V) :
  Turn P w K tg (S9 K a xs) [it] it (fun i h=>i≤xs.length∧h.IsRevIter it a ((xs.length:Int) - 1 - (i:Int))) where
 mem:=by simp
 obj:=fun i h st b hb=>by
  have e:b=it:=by simpa using hb
  subst e
  obtain ⟨_,o,e,c,d⟩:=st
  exact ⟨o,e,fun v z=>by rw [d] at z;cases z⟩
 keep:=fun i h h' st k=>⟨st.1,st.2.at fun o e=>k it (by simp) o e⟩
 item:=by
  intro X hP hw hK hc i pins s σ H E I hf ⟨XB,st⟩ ⟨hq,hi⟩
  subst hP hw hK
  obtain ⟨au,rv,p,hz⟩:=I.list hq
  have hl:=rv.length
  have hx:xs.reverse[i]?=some xs[xs.length - 1 - i]:=by rw [List.getElem?_reverse hi];simp
  have TB:xs[xs.length - 1 - i]?=some xs[xs.length - 1 - i]:=by simp
  obtain ⟨u,hu,ru⟩:=rv.get TB
  obtain ⟨f0,f1,f2,f3,f4,f5⟩:=hf it (by simp)
  have e0:(xs.length:Int) - 1 - (i:Int)=((xs.length - 1 - i:Nat):Int):=by omega
  rw [e0] at st
  refine wpAny_pyNext_rev_item st p.isList (x:=u) (by simpa using hu) fun h' kS sb=>?_
  have I1:Inv X pins σ H { s with heap:=h' }:=I.turned (t':=s.toks) (fun b o hb e=>(sb.2 b hb).trans e) f0 f1 f3 f4 f5
  have e1:((xs.length - 1 - i:Nat):Int) - 1=(xs.length:Int) - 1 - ((i+1:Nat):Int):=by omega
  rw [e1] at kS
  obtain ⟨o,e,c,d⟩:=id kS
  exact ⟨u,rfl,Ff (s:={ s with heap:=h' }) e c d (by decide) ⟨_,H,I1,ru,⟨rfl,hx⟩,⟨hi,kS⟩,fun b hb=>(hf b hb).1⟩⟩
 done:=by
  intro X hP hw hK hc i pins s σ H E I hf ⟨XB,st⟩ hg
  subst hP hw hK
  have hg':xs.length≤i:=hg
  obtain ⟨f0,f1,f2,f3,f4,f5⟩:=hf it (by simp)
  have e0:(xs.length:Int) - 1 - (i:Int)=-1:=by omega
  rw [e0] at st
  exact wpAny_pyNext_rev_end (I.ok.hd hc) st fun h' eb=>⟨rfl,I.turned (t':=s.toks) (fun b o hb e=>eb b o hb e) f0 f1 f3 f4 f5⟩
 self:=fun _ _ _ _ _ st h=>wpAny_pyIter_revIter st.2 h
section
variable {X:Cx} {tg:Expr}
def XC (K:PySem.W.Frag) (ta:TA):TI:=fun σ H R=>ta σ H fun vs H1=>∃ a xs,vs=[.ref a]∧ae K H1 a xs∧R (S9 K a xs) H1
theorem AS (K:PySem.W.Frag) {e:Expr} {ta:TA} {p pos:Pos} (hg:Gl X "reversed") (hm:X.mg "reversed"=none) (ha:PA X [e] ta) (hK:X.K=K:=by rfl) (hs:starEach [e] X.env=[(false,eval e X.env)]:=by rfl) (pj:(backTo pos (starEach [] X.env)).any (·.1)=false:=by rfl) :
  PI X tg (.Call (.Name "reversed" p) [e] [] pos) (XC K ta):=by
 subst hK
 intro pins s σ H R I h
 refine wpAny_Call_Name_kw (lu I hg hm boot_reversed ?_ (by decide) (by decide))
 refine PyProof.Rows.callWith_type1 (cb (ha pos pins s σ H _ I h) fun us s1 ⟨vs,H1,I1,r1,q1⟩=>?_) hs pj
 obtain ⟨a,xs,rfl,hx,q⟩:=q1
 obtain ⟨u,rfl,ru⟩:=r1.one
 cases ru
 obtain ⟨au,rv,p1,_⟩:=I1.list hx
 have hl:=rv.length
 refine call_reversed_list p1.isList ?_
 have hit:(s1.heap.push (revObj a ((au.toArray.size:Int) - 1))).IsRevIter s1.heap.objs.size a ((au.toArray.size:Int) - 1):=⟨_,Heap.get?_push_size _ rfl,rfl,by unfold revObj;simp⟩
 refine wpAny_pyIter_revIter hit ?_
 have e0:(au.toArray.size:Int) - 1=(xs.length:Int) - 1 - ((0:Nat):Int):=by simp;omega
 rw [e0] at hit ⊢
 refine ⟨s1.heap.objs.size,[s1.heap.objs.size],_,_,H1,rfl,I1.kept (t':=s1.toks) fun b o e=>Heap.get?_push_of_some _ e,Ju a _ xs,⟨Nat.zero_le _,hit⟩,fun b hb=>?_,q⟩
 have e:b=s1.heap.objs.size:=by simpa using hb
 subst e
 exact I1.BZ (Nat.le_refl _) (I1.dN.fresh (Nat.le_refl _))
end
theorem MO {K:PySem.W.Frag} {a:Addr} {xs:List V} {g:TG} {tb:TS} {D:Ends} {σ:St} {H:Hp} (Pv:Nat→St→Hp→Prop) (h0:Pv 0 σ H) (hl:∀ i σ H,i≤xs.length→Pv i σ H→ae K H a xs)
  (hs:∀ i x σ H,xs.reverse[i]?=some x→Pv i σ H→g x σ H fun σ2 H2=>tb { D with nx:=Pv (i+1),ct:=Pv (i+1),bk:=D.nx } σ2 H2) (hd:∀ σ H,Pv xs.length σ H→D.nx σ H) :
  ∃ W:Nat→Nat→St→Hp→Prop,(∃ m,W 0 m σ H)∧∀ i m σ H,W i m σ H →
   ((S9 K a xs).stop i H∧D.nx σ H)∨((S9 K a xs).go i H∧∃ N:St→Hp→Prop,(∀ σ' H',N σ' H'→∃ m',m' < m∧W (i+1) m' σ' H')∧∀ x H',(S9 K a xs).L7 i H x H'→g x σ H' fun σ2 H2=>tb { D with nx:=N,ct:=N,bk:=D.nx } σ2 H2):=by
 refine ⟨fun i m σ H=>m=xs.length - i∧i≤xs.length∧Pv i σ H,⟨xs.length,by simp,Nat.zero_le _,h0⟩,?_⟩
 rintro i m σ H ⟨rfl,hi,p⟩
 have q:=hl i σ H hi p
 by_cases eU:i < xs.length
 ·refine .inr ⟨⟨q,eU⟩,Pv (i+1),fun σ' H' p'=>⟨xs.length - (i+1),by omega,rfl,eU,p'⟩,fun x H' y=>?_⟩
  obtain ⟨e,y⟩:=y
  subst e
  exact hs i x σ _ y p
 ·have e:i=xs.length:=by omega
  subst e
  exact .inl ⟨Nat.le_refl _,hd σ H p⟩
section
variable {X:Cx}
end
end L2
namespace L2
open PySem PySem.Spec PyProof.Rows
section
variable {prog:Program} {w:World} {A:Around} {E:Value→Shared→Prop} {s:Shared}
theorem Dl {it t:Addr} {i:Nat} {items:Array Value} {x:Value} {Q:Value→Shared→Prop} (hit:s.heap.IsTupleIter it t i) (ht:s.heap.IsTuple t items) (hx:items[i]?=some x)
  (hQ:∀ h',h'.IsTupleIter it t (i+1)→Heap.SameBut it s.heap h'→Q x { s with heap:=h' }):wpAny (model prog w) A (Builtin.SmallTypes.nextOf (.ref it)) Q E s:=by
 obtain ⟨o,ho,hc,hd⟩:=id hit
 obtain ⟨u,hu,_,m,du⟩:=ht
 unfold Builtin.SmallTypes.nextOf
 refine wpAny_bind (wpAny_callSpecial?_slot (name:=Str.ofString "__next__") hit.typeIs F.slot_tuple_iterator_next (wpAny_call_entry F.slot_tuple_iterator_next hit.typeIs F.entry_tuple_iterator_next ?_ (F.args_tuple_iterator_next_1 _)))
 refine (show wpAny _ _ (field (.ref it) 0 >>= _) _ _ s from wpAny_bind (wpAny_field ho hd (x:=.ref t) rfl ?_))
 refine (show wpAny _ _ (if (Value.ref t == Value.none)=true then _ else _) _ _ s from ?_)
 rw [if_neg (by exact Bool.false_ne_true)]
 refine (show wpAny _ _ (field (.ref it) 1 >>= _) _ _ s from wpAny_bind (wpAny_field ho hd (x:=.int i 0) rfl ?_))
 refine (show wpAny _ _ (seqItems? (.ref t) >>= _) _ _ s from wpAny_bind (wpAny_seqItems hu du ?_))
 simp only [hx,Int.toNat_natCast]
 refine wpAny_bind (wpAny_setField ho hd (by simp) (wpAny_pure ⟨x,rfl,wpAny_pure (hQ _ ⟨_,Heap.get?_update_self _ ho (Obj.isFreed_of_fields (Obj.data_mapFields hd _)),(Obj.cls_mapFields ..).trans hc,?_⟩ (Heap.SameBut.update ..))⟩))
 rw [Obj.data_mapFields hd]
 simp [rawInt]
theorem HR {z TI TO i1 i2 l t:Addr} {k:Nat} {xs ys:Array Value} {x y a b:Value} {Q:Value→Shared→Prop} (D:ZipApart z TI TO i1 i2 l t) (hz:IsZip s.heap z TI TO .none) (qS:IsPair s.heap TI (.ref i1) (.ref i2)) (tD:IsPair s.heap TO a b)
  (h1:s.heap.IsListIter i1 l k) (h2:s.heap.IsTupleIter i2 t k) (hl:s.heap.IsList l xs) (ht:s.heap.IsTuple t ys) (hx:xs[k]?=some x) (hy:ys[k]?=some y)
  (hQ:∀ h',IsZip h' z TI TO (rawInt s.heap.objs.size)→IsPair h' TO x y→h'.IsListIter i1 l (k+1)→h'.IsTupleIter i2 t (k+1)→IsPair h' s.heap.objs.size x y→h'.objs.size=s.heap.objs.size+1 →
   (∀ c o,c≠z→c≠TO→c≠i1→c≠i2→s.heap.get? c=some o→h'.get? c=some o)→Q (.ref s.heap.objs.size) { s with heap:=h' }) :
  wpAny (model prog w) A (Builtin.«zip.__next__» ⟨[.ref z],[]⟩) (fun fin s'=>∃ v,fin=.done (.ret v)∧Q v s') E s:=by
 refine (show wpAny _ _ (field (.ref z) 2 >>= _) _ _ _ from wpAny_bind (wpAny_field hz rfl (x:=.bool false) rfl ?_))
 refine (show wpAny _ _ (field (.ref z) 3 >>= _) _ _ _ from wpAny_bind (wpAny_field hz rfl (x:=.ref TI) rfl (wpAny_bind (wpAny_seqItems qS rfl ?_))))
 refine (show wpAny _ _ (Builtin.SmallTypes.ownedTupleIsFree (.ref z) >>= _) _ _ _ from wpAny_bind ?_)
 unfold Builtin.SmallTypes.ownedTupleIsFree
 refine wpAny_bind (wpAny_field hz rfl (x:=.none) rfl (wpAny_pure ?_))
 rw [if_pos (by rfl)]
 refine wpAny_bind (wpAny_rule (wpAny_bind (wpAny_field hz rfl (x:=.ref TO) rfl (wpAny_bind (wpAny_setField_rec hz (by simp) fun ha XD HK=>wpAny_bind ?_)))))
 have QD:IsZip ha z TI TO .ellipsis:=XD
 simp only [List.forIn_cons,List.forIn_nil,List.zipIdx_cons,List.zipIdx_nil]
 refine wpAny_bind (wpAny_bind (wpAny_onRaise (show wpAny _ _ (Builtin.SmallTypes.nextOf (.ref i1) >>= _) _ _ _ from wpAny_bind (wpAny_nextOf_list_item (h1.extBut HK.extBut D.i1z) (hl.extBut HK.extBut D.l1z) hx fun hb h1b HJ=>wpAny_pure ?_))))
 have to2:IsPair hb TO a b:=HJ.extBut _ _ D.TOi1 (HK.extBut _ _ D.TOz tD)
 refine wpAny_bind (wpAny_seqItems to2 rfl (wpAny_bind (wpAny_updateSeq_pair to2 fun hc to3 Di=>wpAny_bind (wpAny_letGo (wpAny_pure ?_)))))
 have XE:IsPair hc TO x b:=to3
 refine wpAny_bind (wpAny_bind (wpAny_onRaise (show wpAny _ _ (Builtin.SmallTypes.nextOf (.ref i2) >>= _) _ _ _ from wpAny_bind
  (Dl (((h2.extBut HK.extBut D.i2z).extBut HJ.extBut D.i12.symm).extBut Di.extBut D.TOi2.symm) (((ht.extBut HK.extBut D.l2z).extBut HJ.extBut D.l2i1).extBut Di.extBut D.l2TO) hy fun hd h2d dY=>wpAny_pure ?_))))
 have Zf:IsPair hd TO x b:=dY.extBut _ _ D.TOi2 XE
 refine wpAny_bind (wpAny_seqItems Zf rfl (wpAny_bind (wpAny_updateSeq_pair Zf fun he to5 TC=>wpAny_bind (wpAny_letGo (wpAny_pure (wpAny_pure ?_))))))
 have TF:IsPair he TO x y:=to5
 refine wpAny_bind (wpAny_seqItems TF rfl (wpAny_bind (wpAny_newTuple ?_)))
 have OR:he.objs.size=s.heap.objs.size:=by rw [TC.1,dY.1,Di.1,HJ.1,HK.1]
 have z5:IsZip he z TI TO .ellipsis:=TC.extBut _ _ D.TOz.symm (dY.extBut _ _ D.i2z.symm (Di.extBut _ _ D.TOz.symm (HJ.extBut _ _ D.i1z.symm QD)))
 have TH:∀ c o,c≠z→c≠TO→c≠i1→c≠i2→s.heap.get? c=some o→he.get? c=some o:=fun c o n1 n2 n3 n4 e=>TC.extBut _ _ n2 (dY.extBut _ _ n4 (Di.extBut _ _ n2 (HJ.extBut _ _ n3 (HK.extBut _ _ n1 e))))
 have it1:he.IsListIter i1 l (k+1):=((h1b.extBut Di.extBut D.TOi1.symm).extBut dY.extBut D.i12).extBut TC.extBut D.TOi1.symm
 have it2:he.IsTupleIter i2 t (k+1):=h2d.extBut TC.extBut D.TOi2.symm
 have Zg:z < he.objs.size:=Heap.lt_size z5
 refine (show wpAny _ _ (Builtin.SmallTypes.ownedTupleHandOut (.ref z) (.ref he.objs.size) >>= _) _ _ _ from wpAny_bind ?_)
 unfold Builtin.SmallTypes.ownedTupleHandOut
 have z6:IsZip (he.push { cls:=.type "tuple",data:=.seq #[x,y] }) z TI TO .ellipsis:=Heap.get?_push_of_some _ z5
 refine wpAny_bind (wpAny_setField_rec z6 (by simp) fun hf zf XF=>?_)
 have zf':IsZip hf z TI TO (rawInt he.objs.size):=zf
 refine wpAny_setField_rec zf' (by simp) fun hg zg Ra=>?_
 have Zh:IsZip hg z TI TO (rawInt he.objs.size):=zg
 have up:∀ c o,c≠z→he.get? c=some o→hg.get? c=some o:=fun c o n1 e=>Ra.extBut _ _ n1 (XF.extBut _ _ n1 (Heap.get?_push_of_some _ e))
 have OS:IsPair hg he.objs.size x y:=Ra.extBut _ _ (Nat.ne_of_gt Zg) (XF.extBut _ _ (Nat.ne_of_gt Zg) (Heap.get?_push_size _ rfl))
 have OT:hg.objs.size=he.objs.size+1:=by rw [Ra.1,XF.1,Heap.size_push]
 rw [OR] at Zh OS OT
 refine wpAny_pure ⟨_,rfl,(show Q (.ref he.objs.size) _ from ?_)⟩
 rw [OR]
 exact hQ hg Zh (up _ _ D.TOz TF) (it1.at fun o e=>up _ o D.i1z e) (it2.at fun o e=>up _ o D.i2z e) OS OT fun c o n1 n2 n3 n4 e=>up c o n1 (TH c o n1 n2 n3 n4 e)
theorem Jv {z TI TO i1 i2 l t:Addr} {k:Nat} {xs:Array Value} {a b:Value} {Q:Fin→Shared→Prop} (hh:A.handled=none) (D:ZipApart z TI TO i1 i2 l t) (hz:IsZip s.heap z TI TO .none) (qS:IsPair s.heap TI (.ref i1) (.ref i2)) (tD:IsPair s.heap TO a b)
  (h1:s.heap.IsListIter i1 l k) (hl:s.heap.IsList l xs) (hx:xs[k]?=none)
  (hE:∀ h' e,(∀ c o,c≠z→c≠TO→c≠i1→c≠i2→s.heap.get? c=some o→h'.get? c=some o)→(∃ o,h'.get? e=some o∧o.cls=.type "StopIteration")→E (.ref e) { s with heap:=h' }) :
  wpAny (model prog w) A (Builtin.«zip.__next__» ⟨[.ref z],[]⟩) Q E s:=by
 refine (show wpAny _ _ (field (.ref z) 2 >>= _) _ _ _ from wpAny_bind (wpAny_field hz rfl (x:=.bool false) rfl ?_))
 refine (show wpAny _ _ (field (.ref z) 3 >>= _) _ _ _ from wpAny_bind (wpAny_field hz rfl (x:=.ref TI) rfl (wpAny_bind (wpAny_seqItems qS rfl ?_))))
 refine (show wpAny _ _ (Builtin.SmallTypes.ownedTupleIsFree (.ref z) >>= _) _ _ _ from wpAny_bind ?_)
 unfold Builtin.SmallTypes.ownedTupleIsFree
 refine wpAny_bind (wpAny_field hz rfl (x:=.none) rfl (wpAny_pure ?_))
 rw [if_pos (by rfl)]
 refine wpAny_bind (wpAny_rule (wpAny_bind (wpAny_field hz rfl (x:=.ref TO) rfl (wpAny_bind (wpAny_setField_rec hz (by simp) fun ha XD HK=>wpAny_bind ?_)))))
 have QD:IsZip ha z TI TO .ellipsis:=XD
 simp only [List.forIn_cons,List.forIn_nil,List.zipIdx_cons,List.zipIdx_nil]
 refine wpAny_bind (wpAny_bind (wpAny_onRaise (show wpAny _ _ (Builtin.SmallTypes.nextOf (.ref i1) >>= _) _ _ _ from wpAny_bind (wpAny_nextOf_list_end hh (h1.extBut HK.extBut D.i1z) (hl.extBut HK.extBut D.l1z) hx fun hb e HJ he=>?_))))
 obtain ⟨oe,XG,Zi⟩:=he
 have z2:IsZip hb z TI TO .ellipsis:=HJ _ _ D.i1z.symm QD
 have hez:e≠z:=fun q=>by subst q;rw [z2] at XG;cases XG;simp at Zi
 exact wpAny_setField_rec z2 (by simp) fun hc _ Di=>hE hc e (fun c o n1 _ n3 _ q=>Di.extBut _ _ n1 (HJ _ _ n3 (HK.extBut _ _ n1 q))) ⟨oe,Di.extBut _ _ hez XG,Zi⟩
theorem tP {z TI TO i1 i2 l t:Addr} {k:Nat} {xs ys:Array Value} {x y a b:Value} {Q:Option Value→Shared→Prop} (D:ZipApart z TI TO i1 i2 l t) (hz:IsZip s.heap z TI TO .none) (qS:IsPair s.heap TI (.ref i1) (.ref i2)) (tD:IsPair s.heap TO a b)
  (h1:s.heap.IsListIter i1 l k) (h2:s.heap.IsTupleIter i2 t k) (hl:s.heap.IsList l xs) (ht:s.heap.IsTuple t ys) (hx:xs[k]?=some x) (hy:ys[k]?=some y)
  (hQ:∀ h',IsZip h' z TI TO (rawInt s.heap.objs.size)→IsPair h' TO x y→h'.IsListIter i1 l (k+1)→h'.IsTupleIter i2 t (k+1)→IsPair h' s.heap.objs.size x y→h'.objs.size=s.heap.objs.size+1 →
   (∀ c o,c≠z→c≠TO→c≠i1→c≠i2→s.heap.get? c=some o→h'.get? c=some o)→Q (some (.ref s.heap.objs.size)) { s with heap:=h' }) :
  wpAny (model prog w) A (pyNext (.ref z)) Q E s:=by
 have hT:s.TypeIs (.ref z) "zip":=⟨_,hz,rfl⟩
 unfold pyNext
 exact wpAny_bind (wpAny_attempt (wpAny_callSpecial?_slot (name:=Str.ofString "__next__") hT F.slot_zip_next (wpAny_call_entry F.slot_zip_next hT F.entry_zip_next
  (HR D hz qS tD h1 h2 hl ht hx hy fun h' a1 a2 a3 a4 a5 a6 a7=>wpAny_pure (hQ h' a1 a2 a3 a4 a5 a6 a7)) (F.args_zip_next_1 _))))
theorem vK {z TI TO i1 i2 l t:Addr} {k:Nat} {xs:Array Value} {a b:Value} {Q:Option Value→Shared→Prop} (hh:A.handled=none) (D:ZipApart z TI TO i1 i2 l t) (hz:IsZip s.heap z TI TO .none) (qS:IsPair s.heap TI (.ref i1) (.ref i2)) (tD:IsPair s.heap TO a b)
  (h1:s.heap.IsListIter i1 l k) (hl:s.heap.IsList l xs) (hx:xs[k]?=none)
  (hQ:∀ h',(∀ c o,c≠z→c≠TO→c≠i1→c≠i2→s.heap.get? c=some o→h'.get? c=some o)→Q none { s with heap:=h' }):wpAny (model prog w) A (pyNext (.ref z)) Q E s:=by
 have hT:s.TypeIs (.ref z) "zip":=⟨_,hz,rfl⟩
 unfold pyNext
 refine wpAny_bind (wpAny_attempt (wpAny_callSpecial?_slot (name:=Str.ofString "__next__") hT F.slot_zip_next (wpAny_call_entry F.slot_zip_next hT F.entry_zip_next (Jv hh D hz qS tD h1 hl hx fun h' e hk he=>?_) (F.args_zip_next_1 _))))
 obtain ⟨o,ho,hc⟩:=he
 exact wpAny_bind (wpAny_isInstance (T:="StopIteration") (b:=true) ⟨o,ho,hc⟩ isSubtype_stop (wpAny_pure (hQ _ hk)))
end
abbrev zA (h:Heap) (l:Addr):Heap:=h.push { cls:=.type "list_iterator",data:=.fields #[.ref l,.int 0 0] }
abbrev zB (h:Heap) (l t:Addr):Heap:=(zA h l).push { cls:=.type "tuple_iterator",data:=.fields #[.ref t,.int 0 0] }
abbrev zC (h:Heap) (l t:Addr):Heap:=(zB h l t).push { cls:=.type "tuple",data:=.seq #[.ref h.objs.size,.ref (zA h l).objs.size] }
abbrev zD (h:Heap) (l t:Addr):Heap:=(zC h l t).push { cls:=.type "tuple",data:=.seq #[.none,.none] }
abbrev zE (h:Heap) (l t:Addr):Heap:=(zD h l t).push { cls:=.type "zip",data:=.fields #[.none,.bool false,.bool false,.ref (zB h l t).objs.size,.ref (zC h l t).objs.size] }
theorem Dm (l t:Addr) (xs ys:Array Value):Meets (Builtin.«zip.__new__» ⟨[.type "zip",.ref l,.ref t],[]⟩) (fun _ R s=>s.heap.IsList l xs∧s.heap.IsTuple t ys∧R (.ok (.ret (.ref (zD s.heap l t).objs.size))) { s with heap:=zE s.heap l t }) :=
 .of_wp fun prog w A R s h=>by
  obtain ⟨hp,g,d,tk,os⟩:=s
  obtain ⟨hl,ht,h⟩:=h
  have aBR:=sub_zip
  have e1:Heap.IsList (Shared.heap ⟨hp,g,d,tk,os⟩) l xs:=hl
  have e2:Heap.IsTuple (Shared.heap ⟨hp.push { cls:=.type "list_iterator",data:=.fields #[.ref l,.int 0 0] },g,d,tk,os⟩) t ys:=Heap.IsTuple.push ht _
  wp_walk using wpAny_pyIter_list e1,wpAny_pyIter_tuple e2
  exact ⟨_,rfl,h⟩
section
variable {prog:Program} {w:World} {A:Around} {E:Value→Shared→Prop} {s:Shared}
theorem HS {l t:Addr} {xs ys:Array Value} {Q:Value→Shared→Prop} (hl:s.heap.IsList l xs) (ht:s.heap.IsTuple t ys)
  (h:∀ h',IsZip h' (s.heap.objs.size+4) (s.heap.objs.size+2) (s.heap.objs.size+3) .none→IsPair h' (s.heap.objs.size+2) (.ref s.heap.objs.size) (.ref (s.heap.objs.size+1))→IsPair h' (s.heap.objs.size+3) .none .none →
   h'.IsListIter s.heap.objs.size l 0→h'.IsTupleIter (s.heap.objs.size+1) t 0→(∀ c o,s.heap.get? c=some o→h'.get? c=some o)→Q (.ref (s.heap.objs.size+4)) { s with heap:=h' }) :
  wpAny (model prog w) A (call (.type "zip") [.ref l,.ref t]) Q E s:=by
 refine callType_new F.called_zip (by decide) (F.typeCall_zip_2 _ _) (F.newCall_zip_2 _ _) (fun obj=>F.args_object_init_3 obj _ _) F.entry_zip_new (Dm l t xs ys) ⟨hl,ht,?_⟩
 have s1:(zA s.heap l).objs.size=s.heap.objs.size+1:=Heap.size_push ..
 have s2:(zB s.heap l t).objs.size=s.heap.objs.size+2:=by rw [Heap.size_push,s1]
 have s3:(zC s.heap l t).objs.size=s.heap.objs.size+3:=by rw [Heap.size_push,s2]
 have s4:(zD s.heap l t).objs.size=s.heap.objs.size+4:=by rw [Heap.size_push,s3]
 have up:∀ {g:Heap} {o p:Obj} {c:Addr},g.get? c=some o→(g.push p).get? c=some o:=fun e=>Heap.get?_push_of_some _ e
 have g5:(zE s.heap l t).get? (zD s.heap l t).objs.size=some _:=Heap.get?_push_size _ rfl
 have g4:(zE s.heap l t).get? (zC s.heap l t).objs.size=some _:=up (Heap.get?_push_size _ rfl)
 have g3:(zE s.heap l t).get? (zB s.heap l t).objs.size=some _:=up (up (Heap.get?_push_size _ rfl))
 have g2:(zE s.heap l t).get? (zA s.heap l).objs.size=some _:=up (up (up (Heap.get?_push_size _ rfl)))
 have g1:(zE s.heap l t).get? s.heap.objs.size=some _:=up (up (up (up (Heap.get?_push_size _ rfl))))
 show _∧_
 rw [s2,s3,s4] at g5
 rw [s1,s2] at g3
 rw [s3] at g4
 rw [s1] at g2
 rw [s4]
 exact ⟨⟨_,g5,rfl⟩,h _ g5 g3 g4 ⟨_,g1,rfl,rfl⟩ ⟨_,g2,rfl,rfl⟩ fun c o q=>up (up (up (up (up q))))⟩
end
def QE (K:PySem.W.Frag) (a b:Addr):It :=
 ⟨fun i H=>∃ xs ys x y,ae K H a xs∧cD K H b ys∧xs[i]?=some x∧ys[i]?=some y,
  fun i H v H'=>∃ p x y,H p=none∧v=.ref p∧H'=upd H p (.tup [x,y])∧(∀ xs,ae K H a xs→xs[i]?=some x)∧∀ ys,cD K H b ys→ys[i]?=some y,
  fun i H=>∃ xs,ae K H a xs∧xs.length≤i⟩
theorem HU {P:Program} {w:World} {K:PySem.W.Frag} {elts:List Expr} {x1:Nat} {pos:Pos} {z TI TO i1 i2 l1 l2:Addr} (D:ZipApart z TI TO i1 i2 l1 l2) :
  Turn P w K (.Tuple elts x1 pos) (QE K l1 l2) [z,TI,TO,i1,i2] z (fun i h=>IsZip h z TI TO .none∧IsPair h TI (.ref i1) (.ref i2)∧(∃ a b,IsPair h TO a b)∧h.IsListIter i1 l1 i∧h.IsTupleIter i2 l2 i) where
 mem:=by simp
 obj:=fun i h st b hb=>by
  obtain ⟨hz,qS,⟨a,b',tD⟩,⟨o1,e1,c1,d1⟩,⟨o2,e2,c2,d2⟩⟩:=st
  simp only [List.mem_cons,List.not_mem_nil,or_false] at hb
  rcases hb with rfl | rfl | rfl | rfl | rfl
  ·exact ⟨_,hz,fun v q=>by cases q⟩
  ·exact ⟨_,qS,fun v q=>by cases q⟩
  ·exact ⟨_,tD,fun v q=>by cases q⟩
  ·exact ⟨_,e1,fun v q=>by rw [d1] at q;cases q⟩
  ·exact ⟨_,e2,fun v q=>by rw [d2] at q;cases q⟩
 keep:=fun i h h' st k=>by
  obtain ⟨hz,qS,⟨a,b',tD⟩,h1,h2⟩:=st
  exact ⟨k z (by simp) _ hz,k TI (by simp) _ qS,⟨a,b',k TO (by simp) _ tD⟩,h1.at fun o e=>k i1 (by simp) o e,h2.at fun o e=>k i2 (by simp) o e⟩
 item:=by
  intro X hP hw hK hc i pins s σ H E I hf st hg
  subst hP hw hK
  obtain ⟨hz,qS,⟨a,b,tD⟩,h1,h2⟩:=st
  obtain ⟨xs,ys,x,y,hx,hy,ex,ey⟩:=hg
  obtain ⟨au,rv,p,W5⟩:=I.list hx
  obtain ⟨iO,S0,p2,Ze⟩:=I.tuple hy
  obtain ⟨u,hu,ru⟩:=rv.get ex
  obtain ⟨u2,W6,W7⟩:=S0.get ey
  refine tP D hz qS tD h1 h2 p.isList (show s.heap.IsTuple l2 iO.toArray from p2) (x:=u) (y:=u2) (by simpa using hu) (by simpa using W6) fun h' a1 a2 a3 a4 a5 a6 kk=>⟨_,rfl,?_⟩
  refine wpAny_letOwnedTupleGo_zip a1 fun P8 W8 HP=>?_
  have lt:∀ {c o},s.heap.get? c=some o→s.heap.objs.size≠c:=fun e=>Nat.ne_of_gt (Heap.lt_size e)
  have k2:∀ c o,c ∉ [z,TI,TO,i1,i2]→s.heap.get? c=some o→P8.get? c=some o:=fun c o hc e=>by
   simp only [List.mem_cons,List.not_mem_nil,or_false,not_or] at hc
   exact HP.extBut _ _ hc.1 (kk c o hc.1 hc.2.2.1 hc.2.2.2.1 hc.2.2.2.2 e)
  have tup:fV X.prog X.w (upd H s.heap.objs.size (.tup [x,y])) P8 s.heap.objs.size (.tup [x,y]) :=
   ⟨by show 2≤sizeLine;decide,[u,u2],.cons ru (.cons W7 .nil),⟨_,HP.extBut _ _ (lt hz) a5,rfl,_,rfl⟩⟩
  have hn:=I.dN.fresh (Nat.le_refl s.heap.objs.size)
  refine ⟨.ref s.heap.objs.size,_,I.zW (t':=s.toks) k2 hf (Nat.le_refl _) tup,rfl,⟨_,x,y,hn,rfl,rfl,fun zs hq=>by rw [I.rR hq hx];exact ex,fun zs hq=>by rw [I.zH hq hy];exact ey⟩,
   ⟨W8,HP.extBut _ _ D.TIz (kk _ _ D.TIz D.TITO D.TIi1 D.TIi2 qS),⟨_,_,HP.extBut _ _ D.TOz a2⟩,a3.extBut HP.extBut D.i1z,a4.extBut HP.extBut D.i2z⟩,fun c hc=>?_⟩
  have RX:c≠s.heap.objs.size:=by
   simp only [List.mem_cons,List.not_mem_nil,or_false] at hc
   obtain ⟨o1,e1,_⟩:=h1
   obtain ⟨o2,e2,_⟩:=h2
   rcases hc with rfl | rfl | rfl | rfl | rfl
   ·exact (lt hz).symm
   ·exact (lt qS).symm
   ·exact (lt tD).symm
   ·exact (lt e1).symm
   ·exact (lt e2).symm
  rw [aH RX]
  exact (hf c hc).1
 done:=by
  intro X hP hw hK hc i pins s σ H E I hf st hg
  subst hP hw hK
  obtain ⟨hz,qS,⟨a,b,tD⟩,h1,h2⟩:=st
  obtain ⟨xs,hx,he⟩:=hg
  obtain ⟨au,rv,p,W5⟩:=I.list hx
  have l1':=rv.length
  refine vK (I.ok.hd hc) D hz qS tD h1 p.isList (by simp;omega) fun h' kk=>⟨rfl,?_⟩
  refine I.F3 (t':=s.toks) (ch:=[z,TI,TO,i1,i2]) (fun c o hc e=>?_) hf
  simp only [List.mem_cons,List.not_mem_nil,or_false,not_or] at hc
  exact kk c o hc.1 hc.2.2.1 hc.2.2.2.1 hc.2.2.2.2 e
 self:=fun _ _ _ _ _ st h=>wpAny_pyIter_zip st.1 h
section
variable {X:Cx}
def TK (K:PySem.W.Frag) (ta:TA):TI:=fun σ H R=>ta σ H fun vs H1=>∃ a b,vs=[.ref a,.ref b]∧(∃ xs,ae K H1 a xs)∧(∃ ys,cD K H1 b ys)∧R (QE K a b) H1
theorem Jw (K:PySem.W.Frag) {e1 e2:Expr} {ta:TA} {p pos AJ:Pos} {elts:List Expr} {x1:Nat} (hg:Gl X "zip") (hm:X.mg "zip"=none) (ha:PA X [e1,e2] ta) (hK:X.K=K:=by rfl) (hs:starEach [e1,e2] X.env=(false,eval e1 X.env) :: starEach [e2] X.env:=by rfl) (pj:(backTo pos (starEach [e2] X.env)).any (·.1)=false:=by rfl) :
  PI X (.Tuple elts x1 AJ) (.Call (.Name "zip" p) [e1,e2] [] pos) (TK K ta):=by
 subst hK
 intro pins s σ H R I h
 refine wpAny_Call_Name_kw (lu I hg hm boot_zip ?_ (by decide) (by decide))
 refine PyProof.Rows.callWith_type1 (cb (ha pos pins s σ H _ I h) fun us s1 ⟨vs,H1,I1,r1,q1⟩=>?_) hs pj
 obtain ⟨a,b,rfl,⟨xs,hx⟩,⟨ys,hy⟩,q⟩:=q1
 obtain ⟨u,v,rfl,ru,rv⟩:=r1.two
 cases ru
 cases rv
 obtain ⟨au,RY,p1,_⟩:=I1.list hx
 obtain ⟨iO,RZ,p2,_⟩:=I1.tuple hy
 have Zj:s1.heap.IsTuple b iO.toArray:=p2
 refine HS p1.isList Zj fun h' hz qS tD h1 h2 kk=>?_
 refine wpAny_pyIter_zip hz ?_
 have la:a < s1.heap.objs.size:=by obtain ⟨o,n,ho,_⟩:=p1;exact Heap.lt_size ho
 have lb:b < s1.heap.objs.size:=by obtain ⟨o,ho,_⟩:=Zj;exact Heap.lt_size ho
 have I2:Inv X pins σ H1 { s1 with heap:=h' }:=I1.kept (t':=s1.toks) fun b o e=>kk b o e
 refine ⟨s1.heap.objs.size+4,[s1.heap.objs.size+4,s1.heap.objs.size+2,s1.heap.objs.size+3,s1.heap.objs.size,s1.heap.objs.size+1],_,_,H1,rfl,I2,HU (zipApart_new la lb),⟨hz,qS,⟨_,_,tD⟩,h1,h2⟩,fun c hc=>?_,q⟩
 have hle:s1.heap.objs.size≤c:=by
  simp only [List.mem_cons,List.not_mem_nil,or_false] at hc
  rcases hc with rfl | rfl | rfl | rfl | rfl
  ·exact Nat.le_add_right _ _
  ·exact Nat.le_add_right _ _
  ·exact Nat.le_add_right _ _
  ·exact Nat.le_refl _
  ·exact Nat.le_add_right _ _
 exact I1.BZ (H':=H1) hle (I1.dN.fresh hle)
end
section
variable {K:PySem.W.Frag} {g:TG} {tt:TT} {te:TE} {D:Addr} {σ:St} {H:Hp} {Q:VK}
theorem MP {a b:Addr} {xs ys:List V} (hlen:xs.length=ys.length) (Pv:Nat→St→Hp→Prop) (h0:Pv 0 σ H) (hl:∀ i σ H,i≤xs.length→Pv i σ H→ae K H a xs∧cD K H b ys)
  (hs:∀ (i:Nat) (x y:V) (p:Addr) (σ:St) (H:Hp) (N:St→Hp→Prop),(∀ σ H,Pv (i+1) σ H→N σ H)→xs[i]?=some x→ys[i]?=some y→Pv i σ H→H p=none→g (.ref p) σ (upd H p (.tup [x,y])) fun σ3 H3=>tt σ3 H3 fun b H4 =>
   if b=true then te σ3 H4 fun v H5=>∃ ys,H5 D=some (.lst ys)∧ys.length < sizeLine∧N σ3 (upd H5 D (.lst (ys ++ [v]))) else N σ3 H4)
  (hd:∀ σ H,Pv xs.length σ H→Q (.ref D) H):rZ (QE K a b) g tt te D σ H Q:=by
 refine ⟨fun i m σ H=>m=xs.length - i∧i≤xs.length∧Pv i σ H,⟨xs.length,by simp,Nat.zero_le _,h0⟩,?_⟩
 rintro i m σ' H' ⟨rfl,hi,p⟩
 obtain ⟨q1,q2⟩:=hl i σ' H' hi p
 by_cases eU:i < xs.length
 ·have QF:i < ys.length:=by omega
  refine .inr ⟨⟨xs,ys,xs[i],ys[i],q1,q2,by simp [eU],by simp [QF]⟩,fun x H2 y=>?_⟩
  obtain ⟨pp,x1,y1,hn,rfl,rfl,ex,ey⟩:=y
  exact hs i x1 y1 pp σ' _ (fun σ3 H3=>∃ m',m' < xs.length - i∧m'=xs.length - (i+1)∧i+1≤xs.length∧Pv (i+1) σ3 H3) (fun σ3 H3 z=>⟨xs.length - (i+1),by omega,rfl,eU,z⟩) (ex xs q1) (ey ys q2) p hn
 ·have e:i=xs.length:=by omega
  subst e
  exact .inl ⟨⟨xs,q1,Nat.le_refl _⟩,hd σ' H' p⟩
end
end L2
namespace L2
open PySem
structure QG (K:PySem.W.Frag) (a:Addr) (xs:List V):Prop where
 ex:∃ (o:Obj) (au:Array Value) (n:Nat),K.lookup a=some o∧o.cls=.type "tuple"∧o.data=.seq au n∧au.size≤sizeLine∧a9 xs au.toList
theorem QG.sq {K:PySem.W.Frag} {a:Addr} {xs:List V} (h:QG K a xs) (H:Hp):cD K H a xs:=.inr h.ex
end L2
namespace L2
open PySem PySem.Spec PyProof.Rows
section
variable {X:Cx}
end
section
variable {K:PySem.W.Frag} {g:TG} {tt:TT} {te:TE} {D:Addr} {σ:St} {H:Hp} {Q:VK}
theorem lI {i j:Nat} {x y:V} {p:Addr} {A:St→Hp→Prop} (hp:cD K H p [x,y]) (h:A ((σ.set i (some x)).set j (some y)) H):JO K 2 (rT (ik i) (rT (ik j) JN)) (.ref p) σ H A :=
 ⟨p,[x,y],rfl,hp,rfl,x,_,rfl,y,_,rfl,rfl,h⟩
end
end L2
namespace L2
open PySem PySem.Spec PyProof.Rows
section
variable {K:PySem.W.Frag} {g:TG} {tt:TT} {te:TE} {D:Addr} {σ:St} {H:Hp} {Q:VK}
theorem MQ {a b:Addr} {xs ys:List V} {tb:TS} {D:Ends} (hlen:xs.length=ys.length) (Pv:Nat→St→Hp→Prop) (h0:Pv 0 σ H) (hl:∀ i σ H,i≤xs.length→Pv i σ H→ae K H a xs∧ae K H b ys)
  (hs:∀ i x y p σ H,xs[i]?=some x→ys[i]?=some y→Pv i σ H→H p=none→g (.ref p) σ (upd H p (.tup [x,y])) fun σ2 H2=>tb { D with nx:=Pv (i+1),ct:=Pv (i+1),bk:=D.nx } σ2 H2) (hd:∀ σ H,Pv xs.length σ H→D.nx σ H) :
  ∃ W:Nat→Nat→St→Hp→Prop,(∃ m,W 0 m σ H)∧∀ i m σ H,W i m σ H →
   ((P7 K a b).stop i H∧D.nx σ H)∨((P7 K a b).go i H∧∃ N:St→Hp→Prop,(∀ σ' H',N σ' H'→∃ m',m' < m∧W (i+1) m' σ' H')∧∀ x H',(P7 K a b).L7 i H x H'→g x σ H' fun σ2 H2=>tb { D with nx:=N,ct:=N,bk:=D.nx } σ2 H2):=by
 refine ⟨fun i m σ H=>m=xs.length - i∧i≤xs.length∧Pv i σ H,⟨xs.length,by simp,Nat.zero_le _,h0⟩,?_⟩
 rintro i m σ H ⟨rfl,hi,p⟩
 obtain ⟨q1,q2⟩:=hl i σ H hi p
 by_cases eU:i < xs.length
 ·have QF:i < ys.length:=by omega
  refine .inr ⟨⟨xs,ys,xs[i],ys[i],q1,q2,by simp [eU],by simp [QF]⟩,Pv (i+1),fun σ' H' p'=>⟨xs.length - (i+1),by omega,rfl,eU,p'⟩,fun x H' y=>?_⟩
  obtain ⟨pp,x1,y1,hn,rfl,rfl,ex,ey⟩:=y
  exact hs i x1 y1 pp σ _ (ex xs q1) (ey ys q2) p hn
 ·have e:i=xs.length:=by omega
  subst e
  exact .inl ⟨⟨xs,ys,q1,q2,.inl (Nat.le_refl _)⟩,hd σ H p⟩
theorem MR {n:Nat} (hn:n≤1000) {H0:Hp} {σr:St} {b:Nat→Bool} (hD:H0 D=none)
  (ht:∀ (i:Nat) (H:Hp) (N:Bool→Hp→Prop),i < n→aK H0 H→(∀ H',aK H H'→N (b i) H')→tt (some (.int (0+(i:Int))) :: σr) H N)
  (he:∀ (i:Nat) (H:Hp) (N:V→Hp→Prop),i < n→N (.int (0+(i:Int))) H→te (some (.int (0+(i:Int))) :: σr) H N)
  (q:∀ H,aK H0 H→H D=some (.lst (((List.range n).filter b).map fun k=>V.int (k:Nat)))→Q (.ref D) H) :
  rZ (L8 0 n) (ik 0) tt te D (none :: σr) (upd H0 D (.lst [])) Q:=by
 have pf:(2000:Nat)≤sizeLine:=by decide
 refine jM (lo:=0) (n:=n) (fun i σ H'=>∃ v:Option V,σ=v :: σr∧aK H0 H'∧H' D=some (.lst (((List.range i).filter b).map fun k=>V.int (k:Nat)))) ⟨none,rfl,(aK.refl _).new hD,aD⟩ ?_ ?_
 ·rintro i σ H' N hN hi ⟨v,rfl,s1,h1⟩
  refine turn_if ?_
  refine ht i H' _ hi s1 fun H2 s2=>?_
  have ef:(List.range (i+1)).filter b=(List.range i).filter b ++ if b i=true then [i] else []:=by
   rw [List.range_succ,List.filter_append]
   congr 1
   by_cases e:b i=true <;> simp [e]
  by_cases e:b i=true
  ·rw [e]
   refine iu (he i H2 _ hi ⟨_,s2 _ _ h1,?_,?_⟩)
   ·rw [List.length_map]
    have:=List.length_filter_le b (List.range i)
    rw [List.length_range] at this
    omega
   ·refine hN _ _ ⟨_,rfl,(s1.trans s2).put hD,?_⟩
    rw [aD,ef,if_pos e,List.map_append]
    simp
  ·have e':b i=false:=by simpa using e
   rw [e']
   refine iI (hN _ _ ⟨_,rfl,s1.trans s2,?_⟩)
   rw [ef,if_neg e,List.append_nil]
   exact s2 _ _ h1
 ·rintro σ H' ⟨v,rfl,s1,h1⟩
  exact q H' s1 h1
theorem Bz (ps:List Nat):(ps.map fun k=>V.int (k:Nat))=tabI ps.length fun q=>((ps.getD q 0:Nat):Int):=by
 apply List.ext_getElem?
 intro j
 by_cases hj:j < ps.length
 ·rw [be hj,List.getElem?_map]
  simp [hj,List.getD]
 ·rw [List.getElem?_eq_none (by rw [List.length_map];omega),List.getElem?_eq_none (by rw [aN];omega)]
end
section
variable {P:Program} {w:World} {K:PySem.W.Frag} {mg:Str→Option Value} {base:Heap}
def XH:Sp:=fun _ _ _ _=>False
theorem aT.no {x:Str} {st:Stmt} {N ps:List Str} (F:aT K mg x st) (S:aV N ps (aI st))
  (hb:∀ (kV doc pm:Value) (an:Option Addr) (bw ct:Value) (us:List Value),us.length=ps.length→bindArgs (PySem.W.fnOf x x (bX st) (bL st) (aI st) .none kV doc pm an bw ct) ⟨us,[]⟩=pure (ps.zip us)):Def P w K mg base 1 x ps XH :=
 F.def S hb (fun _ _ _ _ h=>h.elim) fun _ _ _ _ _ _ _ _ _ _ h=>h.elim
end
end L2
namespace L2
open PySem PySem.Spec PyProof.Rows
theorem aK.tup {K:PySem.W.Frag} {H H':Hp} {a:Addr} {xs:List V} (e:aK H H') (h:cD K H a xs):cD K H' a xs:=by
 rcases h with (h | ⟨o,h⟩) | h
 ·exact .inl (.inl (e _ _ h))
 ·exact .inl (.inr ⟨o,e _ _ h⟩)
 ·exact .inr h
section
variable {prog:Program} {w:World} {A:Around} {E:Value→Shared→Prop} {s:Shared}
end
section
variable {X:Cx}
end
inductive AU (K:PySem.W.Frag) (H:Hp):Nat→V→V→Prop where
 | flat {n:Nat} (x:V):Bo x=true→AU K H n x x
 | same {n:Nat} (a:Addr):AU K H n (.ref a) (.ref a)
 | lst {n:Nat} {a b:Addr} {xs ys:List V} (ha:ae K H a xs) (hb:ae K H b ys) (hl:xs.length=ys.length) (h:∀ (j:Nat) (x y:V),xs[j]?=some x→ys[j]?=some y→AU K H n x y):AU K H (n+1) (.ref a) (.ref b)
 | tup {n:Nat} {a b:Addr} {xs ys:List V} (ha:cD K H a xs) (hb:cD K H b ys) (hl:xs.length=ys.length) (h:∀ (j:Nat) (x y:V),xs[j]?=some x→ys[j]?=some y→AU K H n x y):AU K H (n+1) (.ref a) (.ref b)
theorem Jx:∀ (x:V),Bo x=true→RS x x=true
 | .cB,_=>rfl
 | .bl b,_=>by simp [RS]
 | .int i,_=>by simp [RS]
 | .str z,_=>by simp [RS]
 | .ref _,h=>absurd h (by intro z;cases z)
 | .ty _,h=>absurd h (by intro z;cases z)
section
variable {X:Cx} {pins:List (Addr × Obj)} {σ:St} {H:Hp} {s:Shared}
theorem F6 (I:Inv X pins σ H s) {n:Nat} {x y:V} (h:AU X.K H n x y):∀ {A:Around} {u v:Value},A.units+n < cLine→RelV x u→RelV y v→SeqAt.EqAt A s u v true:=by
 induction h with
 | flat x fx=>intro A u v _ ru rv;have:=Dd (A:=A) (s:=s) ru rv fx fx;rwa [Jx x fx] at this
 | same a=>intro A u v _ ru rv;cases ru;cases rv;exact SeqAt.EqAt.same _
 | @lst n a b xs ys ha hb hl h ih =>
  intro A u v hu ru rv
  cases ru
  cases rv
  by_cases HV:a=b
  ·subst HV
   exact SeqAt.EqAt.same _
  ·obtain ⟨au,r1,p1,_⟩:=I.list ha
   obtain ⟨iO,r2,p2,_⟩:=I.list hb
   have l1:=r1.length
   have l2:=r2.length
   refine SeqAt.EqAt.of_refs HV ?_
   have q:=SeqAt.RcAt.lists (A:=A) (s:=s) (e:=fun _=>true) p1.isList p2.isList (by simp;omega) (by omega) fun j h1 h2=>?_
   ·rw [all_true] at q
    exact q
   ·obtain ⟨x,hx,rx⟩:=iP r1 j h1
    obtain ⟨y,hy,ry⟩:=iP r2 j h2
    exact ih j x y hx hy (A:=A.in1) (by show A.units+1+n < cLine;omega) rx ry
 | @tup n a b xs ys ha hb hl h ih =>
  intro A u v hu ru rv
  cases ru
  cases rv
  by_cases HV:a=b
  ·subst HV
   exact SeqAt.EqAt.same _
  ·obtain ⟨au,r1,p1,_⟩:=I.tuple ha
   obtain ⟨iO,r2,p2,_⟩:=I.tuple hb
   have l1:=r1.length
   have l2:=r2.length
   refine SeqAt.EqAt.of_refs HV ?_
   have q:=SeqAt.RcAt.tuples (A:=A) (s:=s) (e:=fun _=>true) (show s.heap.IsTuple a au.toArray from p1) (show s.heap.IsTuple b iO.toArray from p2) (by omega) fun j h1 h2=>?_
   ·rw [all_true,Bool.true_and,show (au.toArray.size == iO.toArray.size)=true by simp;omega] at q
    exact q
   ·obtain ⟨x,hx,rx⟩:=iP r1 j h1
    obtain ⟨y,hy,ry⟩:=iP r2 j h2
    exact ih j x y hx hy (A:=A.in1) (by show A.units+1+n < cLine;omega) rx ry
end
section
variable {X:Cx}
def XI (K:PySem.W.Frag) (neg:Bool):R2:=fun x y H Q=>∃ a b xs ys,x=.ref a∧y=.ref b∧ae K H a xs∧ae K H b ys ∧
 ((xs.length=ys.length∧(∀ (j:Nat) (u v:V),xs[j]?=some u→ys[j]?=some v→AU K H 8 u v)∧Q (.bl (!neg)) H)∨(xs.length≠ys.length∧Q (.bl neg) H))
theorem MS (K:PySem.W.Frag) (hu:X.A.units+16 < cLine) (hK:X.K=K:=by rfl):ni X (compareOp .NotEq) (XI K true):=by
 subst hK
 intro pins s σ H x y v u Q I rx ry h
 obtain ⟨a,b,xs,ys,rfl,rfl,ha,hb,h⟩:=h
 cases rx
 cases ry
 obtain ⟨au,r1,p1,_⟩:=I.list ha
 obtain ⟨iO,r2,p2,_⟩:=I.list hb
 have l1:=r1.length
 have l2:=r2.length
 rcases h with ⟨hl,he,q⟩ | ⟨hl,q⟩
 ·refine PySem.EqBoolInt.of_rcne (SeqAt.RcNeAt.lists (e:=fun _=>true) p1.isList p2.isList (by simp;omega) (by omega) fun j h1 h2=>?_) ?_
  ·obtain ⟨x,hx,rx⟩:=iP r1 j h1
   obtain ⟨y,hy,ry⟩:=iP r2 j h2
   exact F6 I (he j x y hx hy) (A:=X.A.in1) (by show X.A.units+1+8 < cLine;omega) rx ry
  ·rw [all_true]
   exact ⟨.bl false,H,I,rfl,q⟩
 ·refine PySem.EqBoolInt.of_rcne (SeqAt.RcNeAt.lists_lengths p1.isList p2.isList (by simp;omega) (by omega)) ?_
  exact ⟨.bl true,H,I,rfl,q⟩
theorem AV (K:PySem.W.Frag) {tg l:Expr} {tl:TE} (hl:PE X l tl) (hK:X.K=K:=by rfl):PI X tg l (SE K tl):=by subst hK;exact PM hl
theorem B8 (K:PySem.W.Frag) (hK:X.K=K:=by rfl):j7 X (.type "tuple") (fun xs H Q=>∃ p ys,xs=[.ref p]∧((ae K H p ys∧∀ l,H l=none→Q (.ref l) (upd H l (.tup ys)))∨(cD K H p ys∧Q (.ref p) H))):=by subst hK;exact yF
end
section
variable {K:PySem.W.Frag} {g:TG} {tt:TT} {te:TE} {D:Addr} {σ:St} {H:Hp} {Q:VK}
theorem QH {a:Addr} {xs:List V} (Pv:Nat→St→Hp→Prop) (h0:Pv 0 σ H) (hl:∀ i σ H,i≤xs.length→Pv i σ H→cD K H a xs)
  (hs:∀ (i:Nat) (x:V) (σ:St) (H:Hp) (N:St→Hp→Prop),(∀ σ H,Pv (i+1) σ H→N σ H)→xs[i]?=some x→Pv i σ H→g x σ H fun σ3 H3=>tt σ3 H3 fun b H4 =>
   if b=true then te σ3 H4 fun v H5=>∃ ys,H5 D=some (.lst ys)∧ys.length < sizeLine∧N σ3 (upd H5 D (.lst (ys ++ [v]))) else N σ3 H4)
  (hd:∀ σ H,Pv xs.length σ H→Q (.ref D) H):rZ (RP K a) g tt te D σ H Q:=by
 refine ⟨fun i m σ H=>m=xs.length - i∧i≤xs.length∧Pv i σ H,⟨xs.length,by simp,Nat.zero_le _,h0⟩,?_⟩
 rintro i m σ' H' ⟨rfl,hi,p⟩
 have q:=hl i σ' H' hi p
 by_cases eU:i < xs.length
 ·refine .inr ⟨⟨xs,xs[i],q,by simp [eU]⟩,fun x H2 y=>?_⟩
  obtain ⟨e,y⟩:=y
  subst e
  exact hs i x σ' _ (fun σ3 H3=>∃ m',m' < xs.length - i∧m'=xs.length - (i+1)∧i+1≤xs.length∧Pv (i+1) σ3 H3) (fun σ3 H3 z=>⟨xs.length - (i+1),by omega,rfl,eU,z⟩) (y xs q) p
 ·have e:i=xs.length:=by omega
  subst e
  exact .inl ⟨⟨xs,q,Nat.le_refl _⟩,hd σ' H' p⟩
end
end L2
namespace L2
open PySem PySem.Spec PyProof.Rows
end L2
namespace L2
open PySem PySem.Spec PyProof.Rows
section
variable (P:Program) (w:World)
end
section
variable {P:Program} {w:World} {H H':Hp} {h h':Heap} {a:Addr} {o:HO}
end
section
variable {P:Program} {w:World} {H:Hp} {h h':Heap} {x e:Addr} {o':HO}
end
section
variable {fs Lc ex WK:List Addr} {H H1 H2:Hp} {h h1 h2 h':Heap} {a x e:Addr} {o:HO}
end
end L2
namespace L2
open PySem PySem.Spec PyProof.Rows
section
variable {X:Cx} {pins:List (Addr × Obj)} {σ:List (Option V)} {H H':Hp} {s:Shared} {h':Heap}
end
end L2
namespace L2
open PySem PySem.Spec PyProof.Rows
section
variable {X:Cx}
variable {a b:Expr} {ta tb:TE} {pos:Pos}
variable {tA R5:TT} {rest:List Expr}
end
end L2
namespace L2
open PySem PySem.Spec PyProof.Rows
section
variable {X:Cx} {pins:List (Addr × Obj)} {σ:St} {H:Hp} {s:Shared} {a:Addr} {xs ys:List V}
end
section
variable {X:Cx} {pins:List (Addr × Obj)} {σ:St} {H:Hp} {s:Shared} {E:Value→Shared→Prop}
end
section
variable {X:Cx} {st:Stmt} {rest:List Stmt} {t u:TS} {e:Expr} {te:TE} {pos:Pos}
end
section
variable {X:Cx} {pos:Pos}
end
section
variable {X:Cx} {pos:Pos}
end
end L2
namespace L2
open PySem PySem.Spec PyProof.Rows
section
variable {X:Cx} {tg:Expr}
end
end L2
namespace L2
open PySem PySem.Spec PyProof.Rows
section
variable {X:Cx} {a b c:Expr} {ta tb tc:TE} {pos:Pos}
end
section
variable {X:Cx} {a b c:Expr} {ta tb tc:TE} {pos:Pos}
end
end L2
namespace L2
open PySem PySem.Spec PyProof.Rows
section
variable {prog:Program} {w:World} {A:Around} {E:Value→Shared→Prop} {s:Shared} {K:PySem.W.Frag} {x dx C f:Addr} {mA:Str→Option Value} {name:Str} {v:Value}
end
section
variable {P:Program} {w:World} {H H':Hp} {h h':Heap} {a C dx:Addr} {fs Lc:List (Str × V)}
end
section
variable {X:Cx} {pins:List (Addr × Obj)} {σ:St} {H:Hp} {s:Shared} {a C dx:Addr} {fs:List (Str × V)} {f:Str} {v:V} {A:Around} {E:Value→Shared→Prop}
end
section
variable {X:Cx} {o e value:Expr} {f:Str} {pos pos' AJ:Pos} {ta tv:TE}
end
section
variable {X:Cx} {pins:List (Addr × Obj)} {σ:St} {H:Hp} {s:Shared} {A:Around} {E:Value→Shared→Prop} {Q:Value→Shared→Prop} {c:Value} {b:Bool}
end
end L2
namespace L2
open PySem PySem.Spec PyProof.Rows
section
variable {X:Cx} {e:Expr} {es:List Expr} {te:TE} {t:TA} {pos:Pos}
end
section
variable {X:Cx} {pins:List (Addr × Obj)} {σ:St} {H:Hp} {s s':Shared}
end
section
variable {X:Cx} {CX:Bi} {k:Nat} {f C:Addr} {fd:FuncData} {ps:List Str} {sp:Sp} {yB:List V} {ds:List Value} {E:XK} {x m:Str} {p pos apos:Pos} {e o:Expr} {es:List Expr} {ta:TE} {t:TA}
end
section
variable {X:Cx} {CX:Bi} {k:Nat} {f C:Addr} {fd:FuncData} {ps ks:List Str} {sp:Sp} {E:XK} {x m:Str} {p pos apos We:Pos} {e o:Expr} {es:List Expr} {kws:List Keyword} {te ta:TE} {t tk:TA} {nm:Option Str}
variable {g:List Value→List Value→List Value} {gV:List V→List V→List V}
end
end L2
namespace L2
open PySem PySem.Spec PyProof.Rows
section
variable {X:Cx} {x:Str} {p pos:Pos} {e:Expr} {es:List Expr} {t:TA} {id T:String} {r:List V→Hp→VK→Prop}
end
end L2
namespace L2
open PySem PySem.Spec PyProof.Rows
section
variable {κ:Type} [DecidableEq κ]
def vL (bU:List (κ × V)) (k:κ):Option V:=(bU.find? fun kv=>decide (kv.1=k)).map (·.2)
def putK (bU:List (κ × V)) (k:κ) (v:V):List (κ × V) :=
 if (bU.any fun kv=>decide (kv.1=k))=true then bU.map (fun kv=>if kv.1=k then (kv.1,v) else kv) else bU ++ [(k,v)]
def OU (bU:List (κ × V)) (k:κ):List (κ × V):=bU.filter fun kv=>decide (kv.1≠k)
theorem wO {p:κ × V} {r:List (κ × V)} {k:κ} (e:p.1=k):vL (p :: r) k=some p.2:=by simp [vL,List.find?_cons,e]
theorem wQ {p:κ × V} {r:List (κ × V)} {k:κ} (e:¬ p.1=k):vL (p :: r) k=vL r k:=by simp [vL,List.find?_cons,e]
theorem B9 (k:κ):∀ bU:List (κ × V),(bU.any fun kv=>decide (kv.1=k))=(vL bU k).isSome
 | []=>rfl
 | p :: r=>by
  rw [List.any_cons]
  by_cases e:p.1=k
  ·simp only [wO e,decide_eq_true e,Bool.true_or,Option.isSome_some]
  ·rw [wQ e,decide_eq_false e,Bool.false_or];exact B9 k r
theorem nj.zX {o:Option V} {u:Option Value} (r:nj o u):o.isSome=u.isSome:=by
 cases o with
 | none=>cases u with
  | none=>rfl
  | some _=>exact (show False from r).elim
 | some _=>cases u with
  | none=>exact (show False from r).elim
  | some _=>rfl
theorem nj.getD {o:Option V} {u:Option Value} {d:V} {d':Value} (r:nj o u) (rd:RelV d d'):RelV (o.getD d) (u.getD d'):=by
 cases o with
 | none=>cases u with
  | none=>exact rd
  | some _=>exact (show False from r).elim
 | some _=>cases u with
  | none=>exact (show False from r).elim
  | some _=>exact r
theorem KV.val {bU:List (κ × V)} {vs:List (κ × Value)} (r:KV bU vs) (k:κ):nj (vL bU k) (valueAt vs k):=by
 unfold KV at r
 induction r with
 | nil=>exact True.intro
 | @cons p q ps qs h t ih =>
  obtain ⟨h1,h2⟩:=h
  by_cases e:p.1=k
  ·have e':q.1=k:=h1.symm.trans e
   have b:valueAt (q :: qs) k=some q.2:=by simp [valueAt,List.find?_cons,e']
   rw [wO e,b];exact h2
  ·have e':¬ q.1=k:=fun z=>e (h1.trans z)
   have b:valueAt (q :: qs) k=valueAt qs k:=by simp [valueAt,List.find?_cons,e']
   rw [wQ e,b];exact ih
theorem KV.any {bU:List (κ × V)} {vs:List (κ × Value)} (r:KV bU vs) (k:κ):(bU.any fun kv=>decide (kv.1=k))=vs.any fun kv=>decide (kv.1=k):=by
 unfold KV at r
 induction r with
 | nil=>rfl
 | cons h t ih=>rw [List.any_cons,List.any_cons,ih,h.1]
theorem KV.Jy {bU:List (κ × V)} {vs:List (κ × Value)} (r:KV bU vs) (k:κ) {y:V} {u:Value} (ry:RelV y u) :
  KV (bU.map fun kv=>if kv.1=k then (kv.1,y) else kv) (vs.map fun kv=>if kv.1=k then (kv.1,u) else kv):=by
 unfold KV at r ⊢
 induction r with
 | nil=>exact .nil
 | @cons p q ps qs h t ih =>
  rw [List.map_cons,List.map_cons]
  refine .cons ?_ ih
  obtain ⟨h1,h2⟩:=h
  by_cases e:p.1=k
  ·rw [if_pos e,if_pos (h1.symm.trans e)];exact ⟨h1,ry⟩
  ·rw [if_neg e,if_neg (fun z=>e (h1.trans z))];exact ⟨h1,h2⟩
theorem KV.put {bU:List (κ × V)} {vs:List (κ × Value)} (r:KV bU vs) (k:κ) {y:V} {u:Value} (ry:RelV y u):KV (putK bU k y) (stored vs k u):=by
 unfold putK stored
 rw [r.any k]
 by_cases e:(vs.any fun kv=>decide (kv.1=k))=true
 ·rw [if_pos e,if_pos e];exact r.Jy k ry
 ·rw [if_neg e,if_neg e];exact Paired.snoc r ⟨rfl,ry⟩
theorem KV.drop {bU:List (κ × V)} {vs:List (κ × Value)} (r:KV bU vs) (k:κ):KV (OU bU k) (without vs k):=by
 unfold KV at r ⊢
 unfold OU without
 induction r with
 | nil=>exact .nil
 | @cons p q ps qs h t ih =>
  obtain ⟨h1,h2⟩:=h
  rw [List.filter_cons,List.filter_cons]
  by_cases e:p.1=k
  ·have a:¬ decide (p.1≠k)=true:=by simp [e]
   have b:¬ decide (q.1≠k)=true:=by simp [h1.symm.trans e]
   rw [if_neg a,if_neg b];exact ih
  ·have e':¬ q.1=k:=fun z=>e (h1.trans z)
   have a:decide (p.1≠k)=true:=by simp [e]
   have b:decide (q.1≠k)=true:=by simp [e']
   rw [if_pos a,if_pos b];exact .cons ⟨h1,h2⟩ ih
theorem KV.keys {bU:List (κ × V)} {vs:List (κ × Value)} (r:KV bU vs):bU.map (·.1)=vs.map (·.1):=by
 unfold KV at r
 induction r with
 | nil=>rfl
 | cons h t ih=>rw [List.map_cons,List.map_cons,ih,h.1]
theorem KV.length {bU:List (κ × V)} {vs:List (κ × Value)} (r:KV bU vs):bU.length=vs.length:=Paired.length r
end
abbrev KT (H:Hp):List (List Key × V)→List (List Key × Addr × Value)→Prop:=Paired fun p q=>p.1=q.1∧H q.2.1=some (.tup (p.1.map kV))∧RelV p.2 q.2.2
theorem KT.val {H:Hp} {bU:List (List Key × V)} {xs:List (List Key × Addr × Value)} (r:KT H bU xs) (k:List Key):nj (vL bU k) ((atKey xs k).map (·.2)):=by
 induction r with
 | nil=>exact True.intro
 | @cons p q ps qs h t ih =>
  obtain ⟨h1,_,h2⟩:=h
  by_cases e:p.1=k
  ·have e':q.1=k:=h1.symm.trans e
   have b:atKey (q :: qs) k=some q.2:=by simp [atKey,List.find?_cons,e']
   rw [wO e,b];exact h2
  ·have e':¬ q.1=k:=fun z=>e (h1.trans z)
   have b:atKey (q :: qs) k=atKey qs k:=by simp [atKey,List.find?_cons,e']
   rw [wQ e,b];exact ih
theorem KT.Jy {H:Hp} {bU:List (List Key × V)} {xs:List (List Key × Addr × Value)} (r:KT H bU xs) (k:List Key) {y:V} {u:Value} (ry:RelV y u) :
  KT H (bU.map fun kv=>if kv.1=k then (kv.1,y) else kv) (xs.map (putAt k u)):=by
 induction r with
 | nil=>exact .nil
 | @cons p q ps qs h t ih =>
  rw [List.map_cons,List.map_cons]
  refine .cons ?_ ih
  obtain ⟨h1,h2,h3⟩:=h
  unfold putAt
  by_cases e:p.1=k
  ·rw [if_pos e,if_pos (h1.symm.trans e)];exact ⟨h1,h2,ry⟩
  ·rw [if_neg e,if_neg (fun z=>e (h1.trans z))];exact ⟨h1,h2,h3⟩
theorem KT.put {H:Hp} {bU:List (List Key × V)} {xs:List (List Key × Addr × Value)} (r:KT H bU xs) (k:List Key) {b:Addr} {y:V} {u:Value} (hb:H b=some (.tup (k.map kV))) (ry:RelV y u) :
  KT H (putK bU k y) (storedH xs k b u):=by
 have e:(bU.any fun kv=>decide (kv.1=k))=(atKey xs k).isSome:=by
  rw [B9,(r.val k).zX,Option.isSome_map]
 unfold putK storedH
 rw [e]
 by_cases q:(atKey xs k).isSome=true
 ·rw [if_pos q,if_pos q];exact r.Jy k ry
 ·rw [if_neg q,if_neg q];exact Paired.snoc r ⟨rfl,hb,ry⟩
theorem KT.keeps {H H':Hp} {bU:List (List Key × V)} {xs:List (List Key × Addr × Value)} (r:KT H bU xs) (ht:∀ b ys,H b=some (.tup ys)→H' b=some (.tup ys)):KT H' bU xs :=
 Paired.O7 r fun _ _ z=>⟨z.1,ht _ _ z.2.1,z.2.2⟩
section
variable {P:Program} {w:World} {H:Hp} {h:Heap} {a:Addr}
end
def MT (H:Hp) (a:Addr) (y:V) (r:Option V):Prop :=
 (∃ bU k,Rd H a (.dK bU)∧y=kV k∧r=vL bU k)∨∃ bU k b,Rd H a (.dT bU)∧y=.ref b∧H b=some (.tup (k.map kV))∧r=vL bU k
def MU (H:Hp) (a:Addr) (y v:V) (H':Hp):Prop :=
 (∃ bU k,H a=some (.dK bU)∧y=kV k∧bU.length < sizeLine∧H'=upd H a (.dK (putK bU k v))) ∨
 ∃ bU k b,H a=some (.dT bU)∧y=.ref b∧H b=some (.tup (k.map kV))∧bU.length < sizeLine∧H'=upd H a (.dT (putK bU k v))
theorem MT.k {H:Hp} {a:Addr} {bU:List (Key × V)} {k:Key} (e:H a=some (.dK bU)):MT H a (kV k) (vL bU k):=.inl ⟨bU,k,.inl e,rfl,rfl⟩
theorem MT.t {H:Hp} {a b:Addr} {bU:List (List Key × V)} {k:List Key} (e:H a=some (.dT bU)) (eb:H b=some (.tup (k.map kV))):MT H a (.ref b) (vL bU k):=.inr ⟨bU,k,b,.inl e,rfl,eb,rfl⟩
theorem MU.k {H:Hp} {a:Addr} {bU:List (Key × V)} {k:Key} {v:V} (e:H a=some (.dK bU)) (hl:bU.length < sizeLine):MU H a (kV k) v (upd H a (.dK (putK bU k v))):=.inl ⟨bU,k,e,rfl,hl,rfl⟩
theorem MU.t {H:Hp} {a b:Addr} {bU:List (List Key × V)} {k:List Key} {v:V} (e:H a=some (.dT bU)) (eb:H b=some (.tup (k.map kV))) (hl:bU.length < sizeLine) :
  MU H a (.ref b) v (upd H a (.dT (putK bU k v))):=.inr ⟨bU,k,b,e,rfl,eb,hl,rfl⟩
section
variable {X:Cx} {pins:List (Addr × Obj)} {σ:St} {H:Hp} {s:Shared} {a:Addr} {y v:V} {u r:Value} {o:Option V} {A:Around} {E:Value→Shared→Prop}
end
section
variable {X:Cx} {pins:List (Addr × Obj)} {σ:St} {H:Hp} {s:Shared} {a:Addr} {bU:List (Key × V)} {k:Key} {u:Value} {A:Around} {E:Value→Shared→Prop}
end
section
variable {X:Cx} {o i e value:Expr} {pos pos' AJ:Pos} {td ty tv:TE}
end
section
variable {X:Cx} {pos:Pos}
end
structure M1 (X:Cx) (o:Expr) (m:Str) (apos:Pos) (e:Expr) (fY:Pos):Prop where
 base:attributeBase o m X.env (eval o X.env)=eval o X.env
 zY:((backTo fY (starEach [e] X.env)).all (fun x=>!x.1) && (backToKw fY (keywordEach [] X.env)).all (fun x=>x.1.isSome)
  && decide (([e]:List Expr).length+([]:List Keyword).length+(if ([]:List Keyword).isEmpty then 0 else 1) < 30))=true
 line:(apos.endLine == fY.line)=true
 trees:backTo fY (starEach [e] X.env)=[(false,eval e X.env)]
structure M2 (X:Cx) (o:Expr) (m:Str) (apos:Pos) (e f:Expr) (fY:Pos):Prop where
 base:attributeBase o m X.env (eval o X.env)=eval o X.env
 zY:((backTo fY (starEach [e,f] X.env)).all (fun x=>!x.1) && (backToKw fY (keywordEach [] X.env)).all (fun x=>x.1.isSome)
  && decide (([e,f]:List Expr).length+([]:List Keyword).length+(if ([]:List Keyword).isEmpty then 0 else 1) < 30))=true
 line:(apos.endLine == fY.line)=true
 trees:backTo fY (starEach [e,f] X.env)=[(false,eval e X.env),(false,eval f X.env)]
section
variable {X:Cx} {pins:List (Addr × Obj)} {σ:St} {H:Hp} {s:Shared} {a:Addr} {y d:V} {u r:Value} {o:Option V} {A:Around} {E:Value→Shared→Prop}
end
section
variable {X:Cx} {o e f:Expr} {apos fY:Pos} {td ty tx:TE}
end
section
variable {X:Cx} {pins:List (Addr × Obj)} {σ:St} {H:Hp} {s:Shared} {a:Addr} {bU:List (Key × V)} {A:Around} {E:Value→Shared→Prop}
end
section
variable {X:Cx} {pins:List (Addr × Obj)} {σ:St} {H:Hp} {s:Shared} {a:Addr} {y:V} {u:Value} {A:Around} {E:Value→Shared→Prop}
end
end L2
namespace Att
open PySem PySem.W PySem.Calls PyProof.Rows
section
variable {prog:Program} {w:World} {A:Around} {E:Value→Shared→Prop} {s:Shared} {K:Frag}
end
end Att
namespace L2
open PySem PySem.Spec PyProof.Rows
end L2
namespace L2
open PySem PySem.Spec PyProof.Rows
end L2
namespace L2
open PySem PySem.Spec PyProof.Rows
section
variable {P:Program} {w:World} {K:PySem.W.Frag} {mg:Str→Option Value} {base:Heap}
end
section
variable {X:Cx}
end
section
variable {κ:Type} [DecidableEq κ]
end
end L2
namespace L2
open PySem PySem.Spec PyProof.Rows
section
variable {X:Cx}
end
section
variable {g:TG} {tt:TT} {te:TE} {D:Addr} {σ:St} {H:Hp} {Q:VK}
end
end L2
namespace L2
open PySem PySem.Spec PyProof.Rows
section
variable {X:Cx}
end
section
variable {g:TG} {tt:TT} {te:TE} {D:Addr} {σ:St} {H:Hp} {Q:VK}
end
section
variable {X:Cx} {o e value:Expr} {f:Str} {pos pos':Pos} {ta tv:TE}
theorem ax (K:PySem.W.Frag) (he:PE X e ta) (hb:attributeBase e f X.env (eval e X.env)=eval e X.env) (hK:X.K=K:=by rfl):PE X (.Attribute e f pos) (DT K ta f):=by subst hK;exact PZ he hb
theorem cH (K:PySem.W.Frag) (ha:PE X o ta) (hv:PE X value tv) (hs:swapsWith value (some (.Attribute o f pos')) pos.line X.env=pure false) (hK:X.K=K:=by rfl):PS X (.Assign [.Attribute o f pos'] value pos) (JX K ta tv f):=by subst hK;exact Pa ha hv hs
end
end L2
namespace L2
open PySem PySem.Spec PyProof.Rows
section
variable {X:Cx}
end
structure OV (X:Cx) (e:Expr) (t:TE):Prop where
 out:PE X e t
structure Jz (X:Cx) (es:List Expr) (t:TA):Prop where
 out:PA X es t
section
variable {X:Cx} {te:TE} {t:TA} {es HW:List Expr}
theorem J0 {x1:Nat} {p1:Pos} {env:Env}:starEach (.Tuple HW x1 p1 :: es) env=(false,eval (.Tuple HW x1 p1) env) :: starEach es env:=rfl
theorem J3 {l r:Expr} {o:Operator} {p1:Pos} {env:Env}:starEach (.BinOp l o r p1 :: es) env=(false,eval (.BinOp l o r p1) env) :: starEach es env:=rfl
theorem J4 {c:Const} {k1:Nat} {p1:Pos} {env:Env}:starEach (.Constant c k1 p1 :: es) env=(false,eval (.Constant c k1 p1) env) :: starEach es env:=rfl
theorem HX {f:Expr} {as:List Expr} {ks:List Keyword} {p1:Pos} {env:Env}:starEach (.Call f as ks p1 :: es) env=(false,eval (.Call f as ks p1) env) :: starEach es env:=rfl
theorem TL {i:Int} {j:Nat} {pos:Pos}:OV X (.Constant (.int i) j pos) (tC (.int i)):=⟨aG⟩
theorem MV {e:Expr} (h:PE X e te):OV X e te:=⟨h⟩
theorem zZ {x1:Nat} {pos:Pos} (h:Jz X es t):OV X (.Tuple es x1 pos) (Pb t):=⟨bK h.out⟩
theorem wR:Jz X [] DW:=⟨aF⟩
theorem rk {x1:Nat} {p1:Pos} (ha:OV X (.Tuple HW x1 p1) te) (hr:Jz X es t):Jz X (.Tuple HW x1 p1 :: es) (uk te t):=⟨aC ha.out hr.out J0⟩
theorem F7 {l r:Expr} {o:Operator} {p1:Pos} (ha:OV X (.BinOp l o r p1) te) (hr:Jz X es t):Jz X (.BinOp l o r p1 :: es) (uk te t):=⟨aC ha.out hr.out J3⟩
theorem MW {c:Const} {k1:Nat} {p1:Pos} (ha:OV X (.Constant c k1 p1) te) (hr:Jz X es t):Jz X (.Constant c k1 p1 :: es) (uk te t):=⟨aC ha.out hr.out J4⟩
theorem F8 {f:Expr} {as:List Expr} {ks:List Keyword} {p1:Pos} (ha:OV X (.Call f as ks p1) te) (hr:Jz X es t):Jz X (.Call f as ks p1 :: es) (uk te t):=⟨aC ha.out hr.out HX⟩
end
end L2
namespace L2
open PySem PySem.Spec PyProof.Rows
section
variable {prog:Program} {w:World} {A:Around} {E:Value→Shared→Prop} {s:Shared}
end
abbrev eA (h:Heap) (l:Addr):Heap:=h.push { cls:=.type "tuple_iterator",data:=.fields #[.ref l,.int 0 0] }
abbrev eB (h:Heap) (l:Addr):Heap:=(eA h l).push { cls:=.type "enumerate",data:=.fields #[.none,.bool false,.ref h.objs.size,rawInt 1,.none,.none] }
section
variable {prog:Program} {w:World} {A:Around} {E:Value→Shared→Prop} {s:Shared}
end
section
variable {X:Cx}
end
section
variable {K:PySem.W.Frag} {g:TG} {σ:St} {H:Hp}
end
section
variable {X:Cx}
inductive TM (K:PySem.W.Frag) (H:Hp):V→Value→Prop where
 | cB:TM K H .cB (.type "NoneType")
 | int (i:Int):TM K H (.int i) (.type "int")
 | bl (b:Bool):TM K H (.bl b) (.type "bool")
 | tup {a:Addr} {xs:List V}:cD K H a xs→TM K H (.ref a) (.type "tuple")
 | lst {a:Addr} {xs:List V}:ae K H a xs→TM K H (.ref a) (.type "list")
def TN (K:PySem.W.Frag):R2:=fun x y H Q=>∃ a b xs ys,x=.ref a∧y=.ref b∧cD K H a xs∧cD K H b ys ∧
 (∀ (j:Nat) (u v:V),xs[j]?=some u→ys[j]?=some v→AU K H 8 u v)∧Q (.bl (!decide (xs.length=ys.length))) H
theorem MX (K:PySem.W.Frag) (hu:X.A.units+16 < cLine) (hK:X.K=K:=by rfl):ni X (compareOp .NotEq) (TN K):=by
 subst hK
 intro pins s σ H x y v u Q I rx ry h
 obtain ⟨a,b,xs,ys,rfl,rfl,ha,hb,he,q⟩:=h
 cases rx
 cases ry
 obtain ⟨au,r1,p1,_⟩:=I.tuple ha
 obtain ⟨iO,r2,p2,_⟩:=I.tuple hb
 have l1:=r1.length
 have l2:=r2.length
 refine PySem.EqBoolInt.of_rcne (SeqAt.RcNeAt.tuples (e:=fun _=>true) (show s.heap.IsTuple a au.toArray from p1) (show s.heap.IsTuple b iO.toArray from p2) (by omega) fun j h1 h2=>?_) ?_
 ·obtain ⟨x,hx,rx⟩:=iP r1 j h1
  obtain ⟨y,hy,ry⟩:=iP r2 j h2
  exact F6 I (he j x y hx hy) (A:=X.A.in1) (by show X.A.units+1+8 < cLine;omega) rx ry
 ·rw [all_true,Bool.true_and]
  have e:(au.toArray.size == iO.toArray.size)=decide (xs.length=ys.length):=by rw [l1,l2,List.size_toArray,List.size_toArray,Bool.eq_iff_iff];simp
  rw [e]
  exact ⟨.bl _,H,I,rfl,q⟩
end
end L2
namespace L2
open PySem PySem.Spec PyProof.Rows
def ent:Option Int→V
 | none=>.cB
 | some n=>.int n
theorem CA (e:Option Int):Bo (ent e)=true:=by cases e <;> rfl
theorem MY (x y:Option Int):RS (ent x) (ent y)=decide (x=y):=by
 cases x <;> cases y
 ·rfl
 ·rfl
 ·rfl
 ·rename_i a b
  show (a == b)=_
  by_cases h:a=b <;> simp [h]
theorem J5:∀ (x y:List (Option Int)),((List.range (min x.length y.length)).all (fun j=>decide ((x[j]?).getD none=(y[j]?).getD none)) && (x.length == y.length))=decide (x=y)
 | x,y=>by
  by_cases h:x=y
  ·subst h;simp
  ·rw [decide_eq_false h]
   by_cases hl:x.length=y.length
   ·rw [Bool.and_eq_false_iff]
    left
    rw [List.all_eq_false]
    apply Classical.byContradiction
    intro hn
    apply h
    apply List.ext_getElem?
    intro j
    by_cases hj:j < x.length
    ·have Li:j < y.length:=by omega
     have:=Classical.byContradiction fun hz=>hn ⟨j,List.mem_range.mpr (by omega),hz⟩
     have e:=of_decide_eq_true this
     simp only [List.getElem?_eq_getElem hj,List.getElem?_eq_getElem Li,Option.getD_some] at e ⊢
     rw [e]
    ·rw [List.getElem?_eq_none (by omega),List.getElem?_eq_none (by omega)]
   ·simp [hl]
section
variable {X:Cx} {pins:List (Addr × Obj)} {σ:St} {H:Hp} {s:Shared}
end
section
variable {X:Cx}
end
end L2
namespace L2
open PySem PySem.Spec PyProof.Rows
structure Std where
 ah:Int
 rs:Int
 se:List (Option Int)
 to:List (Option Int)
deriving DecidableEq
structure il (K:PySem.W.Frag) (H:Hp) (a:Addr) (s:Std):Prop where
 ex:∃ b c,cD K H a [.int s.ah,.int s.rs,.ref b,.ref c]∧cD K H b (s.se.map ent)∧cD K H c (s.to.map ent)
theorem il.same {K:PySem.W.Frag} {H H':Hp} {a:Addr} {s:Std} (h:il K H a s) (e:aK H H'):il K H' a s:=by
 obtain ⟨b,c,h1,h2,h3⟩:=h.ex
 exact ⟨b,c,e.tup h1,e.tup h2,e.tup h3⟩
def gU (h:Heap) (x:List (Option Int)) (a:Addr):Prop:=∃ au:List Value,a9 (x.map ent) au∧h.IsTuple a au.toArray
def iQ (h:Heap) (s:Std) (a:Addr):Prop:=∃ (b c:Addr) (t t':Tok),h.IsTuple a #[.int s.ah t,.int s.rs t',.ref b,.ref c]∧gU h s.se b∧gU h s.to c
def rm:Int:=0xFCA86420
def vj:Option Int→Int
 | some k=>hashInt k
 | none=>rm
def mC (x:List (Option Int)):Int:=reduceHash (Builtin.Tuple.tupleHashOf (x.map vj))
def AW (s:Std):Int:=reduceHash (Builtin.Tuple.tupleHashOf [hashInt s.ah,hashInt s.rs,mC s.se,mC s.to])
theorem F9 {h:Heap} {a:Addr} {x y:Array Value} (hx:h.IsTuple a x) (hy:h.IsTuple a y):x=y:=by
 obtain ⟨o,ho,_,n,hd⟩:=hx
 obtain ⟨o',BJ,_,n',BK⟩:=hy
 rw [ho] at BJ
 obtain rfl:=Option.some.inj BJ
 rw [hd] at BK
 injection BK with h1 _
theorem CB:∀ {x y:List (Option Int)} {vs:List Value},a9 (x.map ent) vs→a9 (y.map ent) vs→x=y
 | [],[],_,_,_=>rfl
 | [],_ :: _,_,.nil,h=>by cases h
 | _ :: _,[],_,h,.nil=>by cases h
 | a :: x,b :: y,_,.cons r t,.cons r' t'=>by
  rw [CB t t']
  congr 1
  cases a with
  | none =>
   cases b with
   | none=>rfl
   | some j=>cases (show _=Value.none from r);obtain ⟨_,e⟩:=(show ∃ t,Value.none=Value.int j t from r');cases e
  | some i =>
   obtain ⟨u,rfl⟩:=(show ∃ t,_=Value.int i t from r)
   cases b with
   | none=>have e:=(show Value.int i u=Value.none from r');cases e
   | some j=>obtain ⟨_,e⟩:=(show ∃ t,Value.int i u=Value.int j t from r');cases e;rfl
theorem gU.inj {h:Heap} {a:Addr} {x y:List (Option Int)} (hx:gU h x a) (hy:gU h y a):x=y:=by
 obtain ⟨au,r,ht⟩:=hx
 obtain ⟨its',r',ht'⟩:=hy
 have e:=F9 ht ht'
 have e':au=its':=by simpa using congrArg Array.toList e
 subst e'
 exact CB r r'
theorem iQ.inj {h:Heap} {a:Addr} {x y:Std} (hx:iQ h x a) (hy:iQ h y a):x=y:=by
 obtain ⟨b,c,t,t',ht,h1,h2⟩:=hx
 obtain ⟨b',c',u,u',hu,k1,k2⟩:=hy
 have e:=congrArg Array.toList (F9 ht hu)
 simp only [List.cons.injEq,and_true,Value.int.injEq,Value.ref.injEq] at e
 obtain ⟨⟨e1,_⟩,⟨e2,_⟩,rfl,rfl⟩:=e
 have e3:=h1.inj k1
 have e4:=h2.inj k2
 cases x;cases y
 simp only at e1 e2 e3 e4
 rw [e1,e2,e3,e4]
theorem wU {h h':Heap} {a d:Addr} {x:Array Value} {o:Obj} {es ep} (hx:h.IsTuple a x) (ho:h.get? d=some o) (hd:o.data=.dict es ep) (hs:Heap.SameBut d h h'):h'.IsTuple a x:=by
 obtain ⟨o',BJ,hc,n,BK⟩:=hx
 have BO:a≠d:=by
  rintro rfl
  rw [ho] at BJ
  obtain rfl:=Option.some.inj BJ
  rw [hd] at BK
  exact nomatch BK
 exact ⟨o',(hs.2 a BO).trans BJ,hc,n,BK⟩
section
variable {prog:Program} {w:World} {A:Around} {E:Value→Shared→Prop} {s:Shared}
theorem CC {Q:Int→Shared→Prop} (h:Q rm { s with toks:=s.toks+1 }):wpAny (model prog w) A (pyHash .none) Q E s:=by
 have hT:=typeIs_none s
 unfold pyHash
 unfold pyHashByItsType
 have hv:[Value.none].any Value.onHeap=false:=rfl
 refine wpAny_bind ?_
 rw [cRoomFor,if_neg (by rw [hv];exact Bool.false_ne_true)];refine wpAny_pure ?_
 refine wpAny_bind (wpAny_specialOf hT F.slot_NoneType_hash.lookup ?_)
 refine (show wpAny _ _ (if (some (Value.builtin "NoneType.__hash__") == some Value.none)=true then _ else _) Q E s from ?_)
 rw [if_neg (by rw [beq_builtin_none];exact Bool.false_ne_true)]
 refine wpAny_bind (wpAny_specialOf hT F.slot_NoneType_hash.lookup ?_)
 refine (show wpAny _ _ (callSpecialIfBoundUnlessNone? Value.none "__hash__" _ >>= _) Q E s from ?_)
 refine wpAny_bind (wpAny_callSpecialIfBoundUnlessNone?_slot hT F.slot_NoneType_hash (wpAny_call_entry F.slot_NoneType_hash hT F.entry_NoneType_hash ?_ (F.args_NoneType_hash_1 _)))
 refine (show wpAny _ _ (do ret (← mkInt 0xFCA86420)) _ _ s from wpAny_ret_mkInt ?_)
 exact wpAny_pure h
theorem rq {a:Addr} {all:List (Value × Int × Nat)} {Q:Int→Shared→Prop} (hu:A.units < cLine) (ht:s.heap.IsTuple a (all.map (·.1)).toArray)
  (hi:∀ x ∈ all,∀ (tk:Nat) (Q:Int→Shared→Prop),Q x.2.1 { s with toks:=tk+x.2.2 }→wpAny (model prog w) A.in1 (pyHash x.1) Q E { s with toks:=tk })
  (h:Q (reduceHash (Builtin.Tuple.tupleHashOf (all.map (·.2.1)))) { s with toks:=s.toks+((all.map (·.2.2)).sum+1) }):wpAny (model prog w) A (pyHash (.ref a)) Q E s:=by
 have hT:s.TypeIs (.ref a) "tuple":=let ⟨o,ho,hc,_⟩:=ht;⟨o,ho,hc⟩
 obtain ⟨o,ho,_,n,hd⟩:=ht
 unfold pyHash
 unfold pyHashByItsType
 refine wpAny_bind (wpAny_cRoomFor_or (.inr hu) ?_)
 refine wpAny_bind (wpAny_specialOf hT F.slot_tuple_hash.lookup ?_)
 refine (show wpAny _ _ (if (some (Value.builtin "tuple.__hash__") == some Value.none)=true then _ else _) Q E s from ?_)
 rw [if_neg (by rw [beq_builtin_none];exact Bool.false_ne_true)]
 refine wpAny_bind (wpAny_specialOf hT F.slot_tuple_hash.lookup ?_)
 refine (show wpAny _ _ (callSpecialIfBoundUnlessNone? (.ref a) "__hash__" _ >>= _) Q E s from ?_)
 refine wpAny_bind (wpAny_callSpecialIfBoundUnlessNone?_slot hT F.slot_tuple_hash (wpAny_call_entry F.slot_tuple_hash hT F.entry_tuple_hash ?_ (F.args_tuple_hash_1 _)))
 refine (show wpAny _ _ (Builtin.Tuple.tupleItemsOf (.ref a) >>= _) _ _ s from wpAny_bind (wpAny_tupleItemsOf ho hd (wpAny_bind ?_)))
 rw [← Array.forIn_toList]
 refine wpAny_forIn_list _
  (fun rest (b:Array Int) s'=>∃ done left,all=done ++ left∧rest=left.map (·.1)∧b.toList=done.map (·.2.1)∧s'={ s with toks:=s.toks+(done.map (·.2.2)).sum })
  _ ?_ ?_ _ _ ⟨[],all,rfl,by simp,rfl,rfl⟩
 ·rintro x rest b s' ⟨done,left,rfl,hl,hb,rfl⟩
  match left,hl with
  | y :: OW,hl =>
   rw [List.map_cons] at hl
   obtain ⟨rfl,rfl⟩:=List.cons.inj hl
   refine wpAny_bind (hi y (by simp) _ _ ?_)
   first
    | exact wpAny_pure ⟨done ++ [y],OW,by simp,rfl,by simp [hb],by simp [Nat.add_assoc]⟩
    | exact wpAny_bind (wpAny_pure (wpAny_pure ⟨done ++ [y],OW,by simp,rfl,by simp [hb],by simp [Nat.add_assoc]⟩))
 ·rintro b s' ⟨done,left,rfl,hl,hb,rfl⟩
  have:left=[]:=List.map_eq_nil_iff.mp hl.symm
  subst this
  rw [List.append_nil] at h
  refine (show wpAny _ _ (retInt (Builtin.Tuple.tupleHashOf b.toList)) _ _ _ from ?_)
  rw [hb]
  refine wpAny_ret_mkInt ?_
  refine (show wpAny _ _ (if (decide (-(2:Int) ^ 63≤Builtin.Tuple.tupleHashOf (done.map (·.2.1))) && decide (Builtin.Tuple.tupleHashOf (done.map (·.2.1)) < 2 ^ 63))=true then _ else _) Q E _ from ?_)
  unfold reduceHash at h
  by_cases hr:(decide (-(2:Int) ^ 63≤Builtin.Tuple.tupleHashOf (done.map (·.2.1))) && decide (Builtin.Tuple.tupleHashOf (done.map (·.2.1)) < 2 ^ 63))=true
  ·rw [if_pos hr]
   rw [if_pos hr] at h
   exact wpAny_pure (by simpa [Nat.add_assoc] using h)
  ·rw [if_neg hr]
   rw [if_neg hr] at h
   exact wpAny_bind (wpAny_rule (wpAny_pure (by simpa [Nat.add_assoc] using h)))
theorem wV {x:List (Option Int)} {a:Addr} {Q:Int→Shared→Prop} (hu:A.units < cLine) (hx:gU s.heap x a) (h:Q (mC x) { s with toks:=s.toks+(x.length+1) }):wpAny (model prog w) A (pyHash (.ref a)) Q E s:=by
 obtain ⟨au,r,ht⟩:=hx
 have hl:=r.length
 rw [List.length_map] at hl
 have sums:∀ {x:List (Option Int)} {au:List Value},a9 (x.map ent) au→∃ all:List (Value × Int × Nat),all.map (·.1)=au∧all.map (·.2.1)=x.map vj∧(all.map (·.2.2)).sum=x.length∧∀ y ∈ all,y.2.2=1∧((y.1=.none∧y.2.1=rm)∨∃ i t,y.1=.int i t∧y.2.1=hashInt i):=by
  intro x
  induction x with
  | nil=>intro au r;cases r;exact ⟨[],rfl,rfl,rfl,fun y hy=>by cases hy⟩
  | cons e x ih =>
   intro au r
   cases r with
   | cons r t =>
    obtain ⟨all,a1,a2,a3,a4⟩:=ih t
    cases e with
    | none =>
     cases (show _=Value.none from r)
     refine ⟨(.none,rm,1) :: all,by simp [a1],by simp [a2,vj],by simp [a3];omega,fun y hy=>?_⟩
     rcases List.mem_cons.mp hy with rfl | hy
     ·exact ⟨rfl,.inl ⟨rfl,rfl⟩⟩
     ·exact a4 y hy
    | some i =>
     obtain ⟨u,rfl⟩:=(show ∃ t,_=Value.int i t from r)
     refine ⟨(.int i u,hashInt i,1) :: all,by simp [a1],by simp [a2,vj],by simp [a3];omega,fun y hy=>?_⟩
     rcases List.mem_cons.mp hy with rfl | hy
     ·exact ⟨rfl,.inr ⟨i,u,rfl,rfl⟩⟩
     ·exact a4 y hy
 obtain ⟨all,a1,a2,a3,a4⟩:=sums r
 refine rq (all:=all) hu (by rw [a1];exact ht) (fun y hy tk Q' hq=>?_) (by rw [a2,a3];exact h)
 obtain ⟨e1,e2⟩:=a4 y hy
 rw [e1] at hq
 rcases e2 with ⟨e3,e4⟩ | ⟨i,t,e3,e4⟩
 ·rw [e3];rw [e4] at hq;exact CC hq
 ·rw [e3];rw [e4] at hq;exact wpAny_pyHash_int hq
theorem Dn {x:Std} {a:Addr} {Q:Int→Shared→Prop} (hu:A.units+1 < cLine) (hx:iQ s.heap x a) (h:Q (AW x) { s with toks:=s.toks+(x.se.length+x.to.length+5) }):wpAny (model prog w) A (pyHash (.ref a)) Q E s:=by
 obtain ⟨b,c,t,t',ht,h1,h2⟩:=hx
 refine rq (all:=[(.int x.ah t,hashInt x.ah,1),(.int x.rs t',hashInt x.rs,1),(.ref b,mC x.se,x.se.length+1),(.ref c,mC x.to,x.to.length+1)]) (by omega) ht (fun y hy tk Q' hq=>?_) ?_
 ·simp only [List.mem_cons,List.not_mem_nil,or_false] at hy
  rcases hy with rfl | rfl | rfl | rfl
  ·exact wpAny_pyHash_int hq
  ·exact wpAny_pyHash_int hq
  ·exact wV (by show A.units+1 < cLine;exact hu) h1 hq
  ·exact wV (by show A.units+1 < cLine;exact hu) h2 hq
 ·have e:(([(.int x.ah t,hashInt x.ah,1),(.int x.rs t',hashInt x.rs,1),(.ref b,mC x.se,x.se.length+1),(.ref c,mC x.to,x.to.length+1)]:List (Value × Int × Nat)).map (·.2.2)).sum+1=x.se.length+x.to.length+5:=by simp;omega
  rw [e]
  exact h
theorem rowAt {x y:List (Option Int)} {a b:Addr} (hu:A.units < cLine) (hx:gU s.heap x a) (hy:gU s.heap y b):SeqAt.EqAt A s (.ref a) (.ref b) (decide (x=y)):=by
 by_cases HV:a=b
 ·subst HV
  rw [decide_eq_true (hx.inj hy)]
  exact SeqAt.EqAt.same _
 ·obtain ⟨au,r1,p1⟩:=hx
  obtain ⟨iO,r2,p2⟩:=hy
  have l1:=r1.length
  have l2:=r2.length
  rw [List.length_map] at l1 l2
  refine SeqAt.EqAt.of_refs HV ?_
  have q:=SeqAt.RcAt.tuples (A:=A) (s:=s) (e:=fun j=>decide ((x[j]?).getD none=(y[j]?).getD none)) p1 p2 hu fun j h1 h2=>?_
  ·rw [List.size_toArray,List.size_toArray,← l1,← l2,J5] at q
   exact q
  ·obtain ⟨u,hx,rx⟩:=iP r1 j h1
   obtain ⟨v,hy,ry⟩:=iP r2 j h2
   rw [List.getElem?_map] at hx hy
   cases ex:x[j]? with
   | none=>rw [ex] at hx;cases hx
   | some eu =>
    cases ey:y[j]? with
    | none=>rw [ey] at hy;cases hy
    | some ev =>
     rw [ex] at hx
     rw [ey] at hy
     obtain rfl:ent eu=u:=Option.some.inj hx
     obtain rfl:ent ev=v:=Option.some.inj hy
     have:=Dd (A:=A.in1) (s:=s) rx ry (CA eu) (CA ev)
     rw [MY] at this
     exact this
theorem TQ {x y:Std} {a b:Addr} (hu:A.units+1 < cLine) (hx:iQ s.heap x a) (hy:iQ s.heap y b):SeqAt.EqAt A s (.ref a) (.ref b) (decide (x=y)):=by
 by_cases HV:a=b
 ·subst HV
  rw [decide_eq_true (hx.inj hy)]
  exact SeqAt.EqAt.same _
 ·obtain ⟨b1,c1,t1,u1,p1,g1,g2⟩:=hx
  obtain ⟨b2,c2,t2,u2,p2,k1,k2⟩:=hy
  refine SeqAt.EqAt.of_refs HV ?_
  have q:=SeqAt.RcAt.tuples (A:=A) (s:=s) (e:=fun j=>if j=0 then (x.ah == y.ah) else if j=1 then (x.rs == y.rs) else if j=2 then decide (x.se=y.se) else decide (x.to=y.to)) p1 p2 (by omega) fun j h1 h2=>?_
  ·have e:((List.range (min 4 4)).all (fun j=>if j=0 then (x.ah == y.ah) else if j=1 then (x.rs == y.rs) else if j=2 then decide (x.se=y.se) else decide (x.to=y.to)) && ((4:Nat) == 4))=decide (x=y):=by
    have e4:List.range (min 4 4)=[0,1,2,3]:=rfl
    rw [e4]
    cases x;cases y
    rw [Bool.eq_iff_iff]
    simp
   exact e ▸ q
  ·match j,h1,h2 with
   | 0,_,_=>exact SeqAt.EqAt.int_int _ _ _ _
   | 1,_,_=>exact SeqAt.EqAt.int_int _ _ _ _
   | 2,_,_=>exact rowAt (by show A.units+1 < cLine;exact hu) g1 k1
   | 3,_,_=>exact rowAt (by show A.units+1 < cLine;exact hu) g2 k2
   | j+4,h1,_=>exact absurd h1 (by show ¬ (j+4 < 4);omega)
theorem uo (n:Nat) {a:Addr} {items:Array Value} {Q:Bool→Shared→Prop} (ht:s.heap.IsTuple a items) (hi:∀ v ∈ items.toList,∀ Q:Bool→Shared→Prop,Q true s→wpAny (model prog w) A (eqIsQuiet n v) Q E s) (h:Q true s):wpAny (model prog w) A (eqIsQuiet (n+1) (.ref a)) Q E s:=by
 have hT:s.TypeIs (.ref a) "tuple":=let ⟨o,ho,hc,_⟩:=ht;⟨o,ho,hc⟩
 obtain ⟨o,ho,_,m,hd⟩:=ht
 unfold eqIsQuiet
 refine wpAny_bind (wpAny_specialOf hT F.slot_tuple_eq.lookup ?_)
 refine (show wpAny _ _ (isInstance (.ref a) (.type "tuple") >>= _) _ _ s from wpAny_bind (wpAny_isInstance hT isSubtype_tuple_tuple ?_))
 simp only [Bool.not_true,Bool.false_eq_true,if_false]
 refine wpAny_bind (wpAny_seqItems ho hd (wpAny_bind ?_))
 refine (show wpAny _ _ (forIn items _ _) _ _ s from ?_)
 rw [← Array.forIn_toList]
 refine wpAny_forIn_list _ (fun rest r s'=>r.1=none∧s'=s∧∀ v ∈ rest,v ∈ items.toList) _ ?_ ?_ _ _ ⟨rfl,rfl,fun v hv=>hv⟩
 ·rintro v rest r s' ⟨hr,rfl,Df⟩
  refine wpAny_bind (hi v (Df v List.mem_cons_self) _ ?_)
  simp only [Bool.not_true,Bool.false_eq_true,if_false]
  exact wpAny_pure ⟨rfl,rfl,fun u XA=>Df u (List.mem_cons_of_mem _ XA)⟩
 ·rintro ⟨r1,r2⟩ s' ⟨hr,rfl,_⟩
  simp only at hr
  subst hr
  exact wpAny_pure h
theorem za (n:Nat) {x:List (Option Int)} {a:Addr} {Q:Bool→Shared→Prop} (hx:gU s.heap x a) (h:Q true s):wpAny (model prog w) A (eqIsQuiet (n+1) (.ref a)) Q E s:=by
 obtain ⟨au,r,ht⟩:=hx
 refine uo n ht (fun v hv Q' hq=>?_) h
 have hb:carriedByValue v=true:=by
  have SK:v ∈ au:=by simpa using hv
  clear hv
  have all:∀ {x:List (Option Int)} {au:List Value},a9 (x.map ent) au→∀ v ∈ au,carriedByValue v=true:=by
   intro x
   induction x with
   | nil=>intro au r v hv;cases r;cases hv
   | cons e x ih =>
    intro au r v hv
    cases r with
    | cons r t =>
     rcases List.mem_cons.mp hv with rfl | hv
     ·cases e with
      | none=>cases (show v=Value.none from r);rfl
      | some i=>obtain ⟨u,rfl⟩:=(show ∃ t,v=Value.int i t from r);rfl
     ·exact ih t v hv
  exact all r v SK
 rw [eqIsQuiet_byValue _ hb]
 exact wpAny_pure hq
theorem HZ {x:Std} {a:Addr} {Q:Bool→Shared→Prop} (hx:iQ s.heap x a) (h:Q true s):wpAny (model prog w) A (eqIsQuiet 8 (.ref a)) Q E s:=by
 obtain ⟨b,c,t,t',ht,h1,h2⟩:=hx
 refine uo 7 ht (fun v hv Q' hq=>?_) h
 simp only [List.mem_cons,List.not_mem_nil,or_false] at hv
 rcases hv with rfl | rfl | rfl | rfl
 ·rw [eqIsQuiet_byValue _ rfl];exact wpAny_pure hq
 ·rw [eqIsQuiet_byValue _ rfl];exact wpAny_pure hq
 ·exact za 6 h1 hq
 ·exact za 6 h2 hq
end
def GA (prog:Program) (w:World):HeapKind prog w Std where
 is:=iQ
 hash:=AW
 draws:=fun x=>x.se.length+x.to.length+5
 room:=fun A=>A.units+1 < cLine
 inj:=fun hx hy=>hx.inj hy
 keeps:=fun {h h' k a d o es ep} hx ho hd hs=>by
  obtain ⟨b,c,t,t',ht,⟨i1,r1,p1⟩,⟨i2,r2,p2⟩⟩:=hx
  exact ⟨b,c,t,t',wU ht ho hd hs,⟨i1,r1,wU p1 ho hd hs⟩,⟨i2,r2,wU p2 ho hd hs⟩⟩
 pyHash:=fun hu hk h=>Dn hu hk h
 eqBool:=fun hu hx hy h=>TQ hu hx hy _ _ _ _ h
 quiet:=fun hk h=>HZ hk h
end L2
namespace L2
open PySem PySem.Spec PyProof.Rows
abbrev SX:=List (Std × Addr × V)
def J6 (q:Std × Addr × Value):DictEntry:=⟨AW q.1,.ref q.2.1,q.2.2⟩
abbrev P3:SX→List (Std × Addr × Value)→Prop:=Paired fun p q=>p.1=q.1∧p.2.1=q.2.1∧RelV p.2.2 q.2.2
def DSφ (a:Addr) (xs:SX) (h:Heap):Prop:=xs.length≤sizeLine∧(a == sysModules)=false∧(xs.map (·.1)).Nodup∧∃ vs:List (Std × Addr × Value),P3 xs vs∧∃ o es ep,h.get? a=some o∧o.ExactDict∧o.data=.dict es ep∧es.toList=vs.map J6
def DS (a:Addr) (xs:SX):HO:=.ext (DSφ a xs)
def CD (xs:SX) (k:Std):Option V:=(xs.find? fun x=>decide (x.1=k)).map (·.2.2)
def Hi (xs:SX) (k:Std) (b:Addr) (v:V):SX:=if (CD xs k).isSome then xs.map (fun x=>if x.1=k then (x.1,x.2.1,v) else x) else xs ++ [(k,b,v)]
theorem P3.val {xs:SX} {vs:List (Std × Addr × Value)} (r:P3 xs vs) (k:Std):nj (CD xs k) ((atKey vs k).map (·.2)):=by
 induction r with
 | nil=>exact True.intro
 | @cons p q ps qs h t ih =>
  obtain ⟨h1,_,h2⟩:=h
  by_cases e:p.1=k
  ·have e':q.1=k:=h1.symm.trans e
   have b:atKey (q :: qs) k=some q.2:=by simp [atKey,List.find?_cons,e']
   have b':CD (p :: ps) k=some p.2.2:=by simp [CD,List.find?_cons,e]
   rw [b',b];exact h2
  ·have e':¬ q.1=k:=fun z=>e (h1.trans z)
   have b:atKey (q :: qs) k=atKey qs k:=by simp [atKey,List.find?_cons,e']
   have b':CD (p :: ps) k=CD ps k:=by simp [CD,List.find?_cons,e]
   rw [b',b];exact ih
theorem P3.Jy {xs:SX} {vs:List (Std × Addr × Value)} (r:P3 xs vs) (k:Std) {y:V} {u:Value} (ry:RelV y u) :
  P3 (xs.map fun x=>if x.1=k then (x.1,x.2.1,y) else x) (vs.map (putAt k u)):=by
 induction r with
 | nil=>exact .nil
 | @cons p q ps qs h t ih =>
  rw [List.map_cons,List.map_cons]
  refine .cons ?_ ih
  obtain ⟨h1,h2,h3⟩:=h
  unfold putAt
  by_cases e:p.1=k
  ·rw [if_pos e,if_pos (h1.symm.trans e)];exact ⟨h1,h2,ry⟩
  ·rw [if_neg e,if_neg (fun z=>e (h1.trans z))];exact ⟨h1,h2,h3⟩
theorem P3.put {xs:SX} {vs:List (Std × Addr × Value)} (r:P3 xs vs) (k:Std) (b:Addr) {y:V} {u:Value} (ry:RelV y u):P3 (Hi xs k b y) (storedH vs k b u):=by
 have e:(CD xs k).isSome=(atKey vs k).isSome:=by rw [(r.val k).zX,Option.isSome_map]
 unfold Hi storedH
 rw [e]
 by_cases q:(atKey vs k).isSome=true
 ·rw [if_pos q,if_pos q];exact r.Jy k ry
 ·rw [if_neg q,if_neg q];exact Paired.snoc r ⟨rfl,rfl,ry⟩
theorem P3.keys {xs:SX} {vs:List (Std × Addr × Value)} (r:P3 xs vs):xs.map (·.1)=vs.map (·.1):=by
 induction r with
 | nil=>rfl
 | cons h t ih=>rw [List.map_cons,List.map_cons,ih,h.1]
structure SD (K:PySem.W.Frag) (H:Hp) (a:Addr) (xs:SX):Prop where
 at_:H a=some (DS a xs)
 keys:∀ p ∈ xs,il K H p.2.1 p.1
section
variable {X:Cx} {pins:List (Addr × Obj)} {σ:St} {H:Hp} {s:Shared} {a:Addr} {xs:SX} {A:Around} {E:Value→Shared→Prop}
theorem OX (I:Inv X pins σ H s) {b:Addr} {x:List (Option Int)} (h:cD X.K H b (x.map ent)):gU s.heap x b:=by
 obtain ⟨au,r,ht,_⟩:=I.tuple h
 exact ⟨au,r,ht⟩
theorem J7 (I:Inv X pins σ H s) {b:Addr} {k:Std} (h:il X.K H b k):iQ s.heap k b:=by
 obtain ⟨p,q,h1,h2,h3⟩:=h.ex
 obtain ⟨au,r,ht,_⟩:=I.tuple h1
 cases r with
 | cons r1 r =>
  cases r with
  | cons r2 r =>
   cases r with
   | cons r3 r =>
    cases r with
    | cons r4 r =>
     cases r
     obtain ⟨t,rfl⟩:=r1
     obtain ⟨t',rfl⟩:=r2
     cases r3
     cases r4
     exact ⟨p,q,t,t',ht,OX I h2,OX I h3⟩
theorem il.inj (I:Inv X pins σ H s) {b:Addr} {k k':Std} (h:il X.K H b k) (h':il X.K H b k'):k=k':=(J7 I h).inj (J7 I h')
theorem SD.raw (I:Inv X pins σ H s) (d:H a=some (DS a xs)):DSφ a xs s.heap:=(I.dN a _ d).1
theorem SD.dict (I:Inv X pins σ H s) (d:SD X.K H a xs):xs.length≤sizeLine∧(a == sysModules)=false∧(xs.map (·.1)).Nodup∧∃ vs,P3 xs vs∧s.heap.DictOfH (GA X.prog X.w) a vs:=by
 obtain ⟨z,hd,hn,vs,r,o,es,ep,h1,h2,h3,h4⟩:=SD.raw I d.at_
 refine ⟨z,hd,hn,vs,r,o,es,ep,h1,h2,h3,h4,?_,by rw [← r.keys];exact hn⟩
 have all:∀ {l:SX} {m:List (Std × Addr × Value)},P3 l m→(∀ p ∈ l,il X.K H p.2.1 p.1)→∀ x ∈ m,(GA X.prog X.w).is s.heap x.1 x.2.1:=by
  intro l m q
  induction q with
  | nil=>intro _ x hx;exact nomatch hx
  | @cons p q ps qs hq t ih =>
   intro hl x hx
   rcases List.mem_cons.mp hx with e | hx
   ·subst e
    rw [← hq.1,← hq.2.1]
    exact J7 I (hl p List.mem_cons_self)
   ·exact ih (fun p hp=>hl p (List.mem_cons_of_mem _ hp)) x hx
 exact all r d.keys
end
section
variable {X:Cx}
variable {o i value:Expr} {pos pos':Pos} {td ty tv:TE}
end
end L2
namespace L2
open PySem PySem.Spec PyProof.Rows
def CF (d:Addr) (es:Array DictEntry) (ep:Nat) (h:Heap):Prop:=∃ o,h.get? d=some o∧o.ExactDict∧o.data=.dict es ep
theorem CF.typeIs {s:Shared} {d:Addr} {es:Array DictEntry} {ep:Nat} (x:CF d es ep s.heap):s.TypeIs (.ref d) "dict":=let ⟨o,ho,hc,_⟩:=x;⟨o,ho,hc.1⟩
theorem CF.lt {h:Heap} {d:Addr} {es:Array DictEntry} {ep:Nat} (x:CF d es ep h):d < h.objs.size:=let ⟨_,ho,_⟩:=x;Heap.lt_size ho
theorem CF.at_ {h h':Heap} {d:Addr} {es:Array DictEntry} {ep:Nat} (x:CF d es ep h) (e:∀ o,h.get? d=some o→h'.get? d=some o):CF d es ep h':=let ⟨o,ho,r⟩:=x;⟨o,e _ ho,r⟩
section
variable {prog:Program} {w:World} {A:Around} {E:Value→Shared→Prop} {s:Shared} {d:Addr} {es:Array DictEntry} {ep:Nat}
end
section
variable {prog:Program} {w:World} {A:Around} {E:Value→Shared→Prop} {s:Shared} {d:Addr} {es:Array DictEntry} {ep:Nat}
end
section
variable {X:Cx}
end
end L2
namespace L2
open PySem PySem.Spec PyProof.Rows
theorem gU.at_ {h h':Heap} {x:List (Option Int)} {a:Addr} (r:gU h x a) (k:∀ b o,h.get? b=some o→h'.get? b=some o):gU h' x a:=by
 obtain ⟨au,r,o,ho,z⟩:=r
 exact ⟨au,r,o,k _ _ ho,z⟩
theorem iQ.at_ {h h':Heap} {x:Std} {a:Addr} (r:iQ h x a) (k:∀ b o,h.get? b=some o→h'.get? b=some o):iQ h' x a:=by
 obtain ⟨b,c,t,t',⟨o,ho,z⟩,h1,h2⟩:=r
 exact ⟨b,c,t,t',⟨o,k _ _ ho,z⟩,h1.at_ k,h2.at_ k⟩
abbrev RQ:=Addr × Std × Addr × Value
section
variable {prog:Program} {w:World} {A:Around} {h0:Heap} {d it l:Addr} {L:List RQ}
end
section
variable {X:Cx} {pins:List (Addr × Obj)} {σ:St} {H:Hp} {s:Shared}
end
end L2
namespace L2
open PySem PySem.Spec PyProof.Rows
theorem SD.same {K:PySem.W.Frag} {H H':Hp} {a:Addr} {xs:SX} (h:SD K H a xs) (e:aK H H'):SD K H' a xs:=⟨e _ _ h.at_,fun p hp=>(h.keys p hp).same e⟩
theorem AX {K:PySem.W.Frag} {H:Hp} {l a:Addr} {o' o:HO} {xs:List V} (hl:H l=some o') (hn:∀ ys,o'≠.tup ys) (hf:∀ u ys,o'≠.AA u (.tup ys)) (h:cD K H a xs):cD K (upd H l o) a xs:=by
 rcases h with (h | ⟨u,h⟩) | h
 ·exact .inl (.inl (by rw [aH (fun z=>by rw [z,hl] at h;exact hn _ (Option.some.inj h))];exact h))
 ·exact .inl (.inr ⟨u,by rw [aH (fun z=>by rw [z,hl] at h;exact hf _ _ (Option.some.inj h))];exact h⟩)
 ·exact .inr h
theorem il.XJ {K:PySem.W.Frag} {H:Hp} {l a:Addr} {ys:SX} {o:HO} {s:Std} (h:il K H a s) (hl:H l=some (DS l ys)):il K (upd H l o) a s:=by
 obtain ⟨b,c,h1,h2,h3⟩:=h.ex
 have n1:∀ zs,DS l ys≠.tup zs:=fun _ e=>nomatch e
 have n2:∀ u zs,DS l ys≠.AA u (.tup zs):=fun _ _ e=>nomatch e
 exact ⟨b,c,AX hl n1 n2 h1,AX hl n1 n2 h2,AX hl n1 n2 h3⟩
theorem yG {K:PySem.W.Frag} {H:Hp} {xs:SX} {k:Std} {b:Addr} {v:V} (h:∀ p ∈ xs,il K H p.2.1 p.1) (hb:il K H b k):∀ p ∈ Hi xs k b v,il K H p.2.1 p.1:=by
 intro p hp
 unfold Hi at hp
 split at hp
 ·rw [List.mem_map] at hp
  obtain ⟨q,hq,rfl⟩:=hp
  split
  ·exact h q hq
  ·exact h q hq
 ·rcases List.mem_append.mp hp with hp | hp
  ·exact h p hp
  ·rw [List.mem_singleton.mp hp];exact hb
theorem SD.put {K:PySem.W.Frag} {H:Hp} {a b:Addr} {xs:SX} {k:Std} {v:V} (h:SD K H a xs) (hb:il K H b k):SD K (upd H a (DS a (Hi xs k b v))) a (Hi xs k b v) :=
 ⟨aD,fun p hp=>(yG h.keys hb p hp).XJ h.at_⟩
section
variable {X:Cx} {pins:List (Addr × Obj)} {σ:St} {H:Hp} {s:Shared}
end
section
variable {X:Cx}
end
end L2
namespace L2
open PySem PySem.Spec PyProof.Rows
end L2
namespace L2
open PySem PySem.Spec PyProof.Rows
def TR (K:PySem.W.Frag):R2:=fun x y H Q=>Wa x y H Q∨TN K x y H Q
theorem Dp {X:Cx} (K:PySem.W.Frag) (hu:X.A.units+16 < cLine) (hK:X.K=K:=by rfl):ni X (compareOp .NotEq) (TR K):=by
 intro pins s σ H x y v u Q I rx ry h
 rcases h with h | h
 ·exact Bg pins s σ H x y v u Q I rx ry h
 ·exact MX K hu hK pins s σ H x y v u Q I rx ry h
end L2
namespace L2
open PySem PySem.Spec PyProof.Rows
abbrev XT:=List (List Key × Addr × Value)
structure QI (P:Program) (w:World) (H:Hp) (d:Addr) (bU:List (List Key × V)) (u:HO) (bs:Nat→Addr):Prop where
 z:bU.length≤sizeLine
 sm:(d == sysModules)=false
 ks:∀ i k v,bU[i]?=some (k,v)→H (bs i)=some (.tup (k.map kV))
 ex:∃ (xs:XT) (es:Array DictEntry) (ep:Nat),Paired (fun (p:List Key × V) (q:List Key × Addr × Value)=>p.1=q.1∧H q.2.1=some (.tup (p.1.map kV))∧RelV p.2 q.2.2) bU xs ∧
  es.toList=xs.map (entryOfKey (tupleKind (vZ P w)))∧(xs.map (·.1)).Nodup∧(∀ i x,xs[i]?=some x→bs i=x.2.1)∧u=.ext (CF d es ep)
section
variable {X:Cx}
theorem QI.keep {P:Program} {w:World} {H H':Hp} {d:Addr} {bU:List (List Key × V)} {u:HO} {bs:Nat→Addr} (h:QI P w H d bU u bs) (k:∀ a xs,H a=some (.tup xs)→H' a=some (.tup xs)):QI P w H' d bU u bs:=by
 obtain ⟨xs,es,ep,r,q⟩:=h.ex
 refine ⟨h.z,h.sm,fun i a v e=>k _ _ (h.ks i a v e),xs,es,ep,?_,q⟩
 clear q h
 induction r with
 | nil=>exact .nil
 | @cons p q ps qs hq t ih=>exact .cons ⟨hq.1,k _ _ hq.2.1,hq.2.2⟩ ih
end
section
variable {g:TG} {σ:St} {H:Hp}
end
section
variable {X:Cx}
end
end L2
namespace L2
open PySem PySem.Spec PyProof.Rows
def less (B:Heap) (c:Addr):Heap:=B.update c fun o=>{ o with data:=.freed }
section
variable {X:Cx} {E:XK} {pins:List (Addr × Obj)} {σ:St} {H:Hp} {s:Shared}
end
end L2
namespace L2
open PySem PySem.Spec PyProof.Rows
section
variable {X:Cx} {pins:List (Addr × Obj)} {σ:St} {H:Hp} {s:Shared}
def wW (a C:Addr) (h:Heap):Prop:=∃ t0:Addr,h.get? a=some { cls:=.ref C,data:=.fields #[.ref t0,.none,.none,.none,.bool false,.none] }
def r8 (a C dx:Addr) (h:Heap):Prop:=∃ t0:Addr,h.get? a=some { cls:=.ref C,dict:=some dx,data:=.fields #[.ref t0,.none,.none,.none,.bool false,.none] }
theorem wW.mono {a C:Addr} (h1 h2:Heap) (x:wW a C h1) (k:∀ o,h1.get? a=some o→h2.get? a=some o):wW a C h2:=let ⟨t,e⟩:=x;⟨t,k _ e⟩
theorem r8.mono {a C dx:Addr} (h1 h2:Heap) (x:r8 a C dx h1) (k:∀ o,h1.get? a=some o→h2.get? a=some o):r8 a C dx h2:=let ⟨t,e⟩:=x;⟨t,k _ e⟩
theorem wW.at_ {a C:Addr} (h:Heap) (x:wW a C h):ExcAt a C h:=let ⟨_,e⟩:=x;⟨_,_,e,rfl,rfl⟩
theorem r8.at_ {a C dx:Addr} (h:Heap) (x:r8 a C dx h):ExcAt a C h:=let ⟨_,e⟩:=x;⟨_,_,e,rfl,rfl⟩
def J8 (H:Hp) (a C:Addr):Prop:=∃ φ:Heap→Prop,H a=some (.ext φ)∧∀ h,φ h→ExcAt a C h
theorem J8.same {H H':Hp} {a C:Addr} (x:J8 H a C) (s:aK H H'):J8 H' a C:=let ⟨φ,e,f⟩:=x;⟨φ,s _ _ e,f⟩
end
end L2
namespace L2
open PySem PySem.Spec PyProof.Rows
abbrev MZ:List Value:=[.type "ValueError",.type "Exception",.type "BaseException",.type "object"]
structure OY (K:PySem.W.Frag) (C B f:Addr):Prop where
 lk:∃ nm q N bs sn sub ab col dd k0 k1 k2 k3 k5,K.lookup C=some (excClassObj nm q C N bs (.ref B :: MZ) true sn sub ab col dd k0 k1 k2 k3 k5 "ValueError.__new__")
 par:PySem.W.excIn K B MZ "ValueError.__new__"=true
 init:PySem.W.findIn K (.ref C) "__init__"=some (some (.ref f))
 fn:PySem.W.typeIn K (.ref f)=some (.type "function")
 kp:PySem.W.keepIn K (.ref C)=true
 sa:PySem.W.findIn K (.ref C) "__setattr__"=some (some (.builtin "object.__setattr__"))
theorem OY.tail {K:PySem.W.Frag} {C B f:Addr} {h:Heap} (Z:OY K C B f) (KX:K.In h):OwnTail h MZ (.ref B :: MZ):=by
 obtain ⟨tl,N,nm,q0,bs,hdct,sn,sub,ab,col,dd,k0,k1,k2,k3,k5,mN,hC,hN,RV,T⟩:=(Bu (x:="") (mg:=fun _=>some (.ref B)) KX rfl Z.par).obj
 exact .own hC hN RV .base
section
variable {prog:Program} {w:World} {A:Around} {E:Value→Shared→Prop} {h:Heap} {g:Array GenState} {d:Drawn} {t:Nat} {os:OsState} {K:PySem.W.Frag} {C B f:Addr}
end
section
variable {X:Cx} {CX:Bi} {k:Nat} {f C B:Addr} {fd:FuncData} {ps:List Str} {sp:Sp} {E:XK} {x:Str} {p pos:Pos} {e:Expr} {es:List Expr} {t:TA}
end
end L2
namespace L2
open PySem PySem.Spec PyProof.Rows
structure XUp (K:PySem.W.Frag) (B:Addr):Prop where
 sp:PySem.W.specialIn K (.ref B) "__getattribute__"=some (some (.builtin "type.__getattribute__"))
 rd:PySem.W.readsIn K B (.type "type")=true
 fd:PySem.W.findCls K (.ref B) (.type "type") "__init__"=some (.val (.builtin "ValueError.__init__"))
section
variable {X:Cx} {pins:List (Addr × Obj)} {σ:St} {H:Hp} {s:Shared} {C B f a:Addr}
end
section
variable {prog:Program} {w:World} {A:Around} {E:Value→Shared→Prop} {h:Heap} {g:Array GenState} {d:Drawn} {t:Nat} {os:OsState} {K:PySem.W.Frag} {a C B f dx:Addr} {name:Str} {v:Value} {mA:Str→Option Value}
end
section
variable {X:Cx}
end
end L2
namespace L2
open PySem PySem.Spec PyProof.Rows
section
variable {P:Program} {w:World} {K:PySem.W.Frag} {mg:Str→Option Value} {base:Heap}
theorem lF.r9 {x qual:Str} {st:Stmt} {f:Addr} {fd:FuncData} {N ps:List Str} {k:Nat} {sp:Sp} (F:lF K x qual st f fd) (S:aV N ps (aI st)) (len:∀ vs H Q E,sp vs H Q E→vs.length=ps.length)
  (rW:∀ (f:Addr) (bw:Value) (A:Around) (outer:List Env) (s:Shared) (H:Hp) (vs:List V) (Q:VK) (E:XK),eE k (A.deeper (envOfC qual (aI st) s.heap.objs.size f bw))→sp vs H Q E →
   ∃ t,BV (Ve P w K mg base N qual st f bw A outer s H E) (bL st) t∧t { nx:=fun _ H'=>Q .cB H',rt:=Q } (start N vs) H):bz P w K mg base (j5 P w) (k+1) f fd ps sp:=by
 obtain ⟨oc,od,kV,doc,pm,an,bw,ct,Fp,rfl,lk,BL⟩:=F.ex
 exact Fo lk BL S len fun A outer s H vs Q E hr BN=>rW f bw A outer s H vs Q E hr BN
end
end L2
namespace My
def P (a k:Int):Int:=a ^ k.toNat % 97
theorem TU (a k:Int):0≤P a k:=Int.emod_nonneg _ (by decide)
theorem QJ (a k:Int):P a k < 97:=Int.emod_lt_of_pos _ (by decide)
theorem TV:∀ n < 97,0 < n→n ^ 95 % 97 * n % 97=1∧0 < n ^ 95 % 97:=by decide
theorem OZ {a:Int} (h0:0 < a) (h1:a < 97):P a 95 * a % 97=1:=by
 obtain ⟨n,rfl⟩:∃ n:Nat,a=n:=⟨a.toNat,by omega⟩
 have h:=(TV n (by omega) (by omega)).1
 show ((n:Int) ^ 95 % 97) * n % 97=1
 have:(((n ^ 95 % 97 * n % 97:Nat)):Int)=1:=by rw [h];rfl
 rw [← this];norm_cast
theorem Hj {a:Int} (h0:0 < a) (h1:a < 97):0 < P a 95:=by
 obtain ⟨n,rfl⟩:∃ n:Nat,a=n:=⟨a.toNat,by omega⟩
 have h:=(TV n (by omega) (by omega)).2
 show 0 < ((n:Int) ^ 95 % 97)
 have:(0:Int) < ((n ^ 95 % 97:Nat):Int):=by omega
 simpa using this
theorem CG (x:Int) (n:Nat):(x % 97) ^ n % 97=x ^ n % 97:=by
 induction n with
 | zero=>simp
 | succ n ih=>rw [Int.pow_succ,Int.pow_succ,Int.mul_emod,ih,Int.emod_emod_of_dvd _ (Int.dvd_refl _),← Int.mul_emod]
theorem sq (q:Int):q ^ 2=q * q:=by rw [Int.pow_succ,Int.pow_succ];simp
theorem Hk {p q a:Int} {l k:Int} (hl:0 < l) (ho:l % 2=1) (h:p * q ^ l.toNat % 97=P a k):(p * q % 97) * (q * q % 97) ^ (l / 2).toNat % 97=P a k:=by
 rw [← h]
 have e:l.toNat=2 * (l / 2).toNat+1:=by omega
 rw [e,Int.pow_succ,Int.pow_mul]
 rw [Int.mul_emod,Int.emod_emod_of_dvd _ (Int.dvd_refl _)]
 have e2:(q * q % 97) ^ (l / 2).toNat % 97=(q ^ 2) ^ (l / 2).toNat % 97:=by
  rw [sq]
  exact CG _ _
 rw [e2,← Int.mul_emod]
 congr 1
 rw [Int.mul_assoc,Int.mul_comm q]
theorem Dq {p q a:Int} {l k:Int} (hl:0 < l) (ho:l % 2≠1) (h:p * q ^ l.toNat % 97=P a k):p * (q * q % 97) ^ (l / 2).toNat % 97=P a k:=by
 rw [← h]
 have e:l.toNat=2 * (l / 2).toNat:=by omega
 rw [e,Int.pow_mul,Int.mul_emod]
 have e2:(q * q % 97) ^ (l / 2).toNat % 97=(q ^ 2) ^ (l / 2).toNat % 97:=by
  rw [sq]
  exact CG _ _
 rw [e2,← Int.mul_emod]
theorem CH {a k:Int}:(1:Int) * a ^ k.toNat % 97=P a k:=by rw [Int.one_mul];rfl
theorem Hl {p q a k l:Int} (hl:l≤0) (p0:0≤p) (p1:p < 97) (h:p * q ^ l.toNat % 97=P a k):p=P a k:=by
 have e:l.toNat=0:=by omega
 rw [← h,e,Int.pow_zero,Int.mul_one];omega
end My
namespace My
def Hm (a:Nat):Nat:=((List.range 96).find? fun s=>5 ^ s % 97 == a).getD 0
theorem wX:∀ a < 97,0 < a→Hm a < 96∧5 ^ Hm a % 97=a:=by decide +kernel
theorem Ma:∀ s < 96,Hm (5 ^ s % 97)=s:=by decide +kernel
theorem Dr (a:Nat) (ha:a < 97) (h0:0 < a) (s:Nat) (hs:s < Hm a):5 ^ s % 97≠a:=by
 intro h
 have h1:=Ma s (by have:=(wX a ha h0).1;omega)
 rw [h] at h1;omega
def ex (a:Int):Int:=Hm a.toNat
theorem J9 (a:Int):0≤ex a:=Int.natCast_nonneg _
theorem TX {a:Int} (h0:0 < a) (h1:a < 97):ex a≤95:=by
 have:=(wX a.toNat (by omega) (by omega)).1
 unfold ex;omega
def up (k:Int):Int:=5 ^ k.toNat % 97
theorem TY {a:Int} (h0:0 < a) (h1:a < 97):up (ex a)=a:=by
 have h:=(wX a.toNat (by omega) (by omega)).2
 unfold up ex
 rw [Int.toNat_natCast]
 have:((5 ^ Hm a.toNat % 97:Nat):Int)=(a.toNat:Int):=by rw [h]
 rw [show a=(a.toNat:Int) by omega,Int.toNat_natCast,← this];norm_cast
theorem TZ {a s:Int} (h0:0 < a) (h1:a < 97) (hs:0≤s) (hl:s < ex a):up s≠a:=by
 intro h
 have:=Dr a.toNat (by omega) (by omega) s.toNat (by unfold ex at hl;omega)
 apply this
 unfold up at h
 have h2:((5 ^ s.toNat % 97:Nat):Int)=a:=by rw [← h];norm_cast
 omega
theorem QK {a b:Int} (h0:0 < a) (h1:a < 97) (g0:0 < b) (g1:b < 97):0 < a * b % 97:=by
 have h:∀ a < 97,0 < a→∀ b < 97,0 < b→0 < (a * b % 97:Nat):=by decide +kernel
 have q:=h a.toNat (by omega) (by omega) b.toNat (by omega) (by omega)
 have:a * b=((a.toNat * b.toNat:Nat):Int):=by
  rw [Int.natCast_mul,Int.toNat_of_nonneg (by omega),Int.toNat_of_nonneg (by omega)]
 rw [this];omega
theorem Mb {s r:Int} (hs:0≤s) (h:r=up s):r * 5 % 97=up (s+1):=by
 subst h
 unfold up
 have e:(s+1).toNat=s.toNat+1:=by omega
 rw [e,Int.pow_succ,Int.mul_emod,Int.emod_emod_of_dvd _ (Int.dvd_refl _),← Int.mul_emod]
theorem Mc:up 0=1:=by decide
end My
namespace My
def sumTo:Nat→(Nat→Int)→Int
 | 0,_=>0
 | n+1,f=>sumTo n f+f n
theorem bJ {f g:Nat→Int}:∀ (n:Nat),(∀ j,j < n→f j=g j)→sumTo n f=sumTo n g
 | 0,_=>rfl
 | n+1,h=>by rw [sumTo,sumTo,bJ n fun j hj=>h j (by omega),h n (by omega)]
theorem dQ (c d:Int) (f g:Nat→Int):∀ (n:Nat),sumTo n (fun j=>c * f j+d * g j)=c * sumTo n f+d * sumTo n g
 | 0=>by simp [sumTo]
 | n+1=>by rw [sumTo,sumTo,sumTo,dQ c d f g n];grind
theorem pR (c:Int) (f:Nat→Int) (n:Nat):sumTo n (fun j=>c * f j)=c * sumTo n f:=by
 have h:=dQ c 0 f f n
 have e:sumTo n (fun j=>c * f j)=sumTo n (fun j=>c * f j+0 * f j):=bJ n fun j _=>by grind
 rw [e,h];grind
theorem gX (f:Nat→Int):∀ (n:Nat),sumTo (n+1) f=f 0+sumTo n (fun j=>f (j+1))
 | 0=>by simp [sumTo]
 | n+1=>by rw [sumTo,gX f n,sumTo];omega
theorem qU {f:Nat→Int}:∀ (n:Nat),(∀ j,j < n→f j=0)→sumTo n f=0
 | 0,_=>rfl
 | n+1,h=>by rw [sumTo,qU n fun j hj=>h j (by omega),h n (by omega)];rfl
theorem tQ {f:Nat→Int} (p:Nat):∀ (n:Nat),p < n→(∀ j,j < n→j≠p→f j=0)→sumTo n f=f p
 | 0,h,_=>by omega
 | n+1,h,hz=>by
  rw [sumTo]
  by_cases e:p=n
  ·subst e;rw [qU p fun j hj=>hz j (by omega) (by omega)];omega
  ·rw [tQ p n (by omega) fun j hj hn=>hz j (by omega) hn,hz n (by omega) (by omega)];omega
theorem tR {f:Nat→Int} (p q:Nat):∀ (n:Nat),p < q→q < n→(∀ j,j < n→j≠p→j≠q→f j=0)→sumTo n f=f p+f q
 | 0,_,h,_=>by omega
 | n+1,GB,h,hz=>by
  rw [sumTo]
  by_cases e:q=n
  ·subst e;rw [tQ p q GB fun j hj hn=>hz j (by omega) hn (by omega)]
  ·rw [tR p q n GB (by omega) fun j hj hn hm=>hz j (by omega) hn hm,hz n (by omega) (by omega) (by omega)];omega
theorem gY {f:Nat→Int}:∀ (n:Nat),(∀ j,j < n→(97:Int) ∣ f j)→(97:Int) ∣ sumTo n f
 | 0,_=>⟨0,by simp [sumTo]⟩
 | n+1,h=>by rw [sumTo];exact Int.dvd_add (gY n fun j hj=>h j (by omega)) (h n (by omega))
def ip (n:Nat) (r z:Nat→Int):Int:=sumTo n fun j=>r j * z j
theorem Ds (n:Nat) (c d:Int) (r s z:Nat→Int):ip n (fun j=>c * r j+d * s j) z=c * ip n r z+d * ip n s z:=by
 unfold ip
 rw [← dQ]
 exact bJ n fun j _=>by grind
theorem CI {n:Nat} {r s z:Nat→Int} (h:∀ j,j < n→(97:Int) ∣ r j - s j):(97:Int) ∣ ip n r z - ip n s z:=by
 have e:ip n r z - ip n s z=sumTo n fun j=>(r j - s j) * z j:=by
  have:=dQ 1 (-1) (fun j=>r j * z j) (fun j=>s j * z j) n
  unfold ip
  rw [show sumTo n (fun j=>(r j - s j) * z j)=sumTo n (fun j=>1 * (r j * z j)+-1 * (s j * z j)) from bJ n fun j _=>by grind,this];omega
 rw [e]
 exact gY n fun j hj=>Int.dvd_trans (h j hj) (Int.dvd_mul_right _ _)
abbrev nY:=Nat→Nat→Int
def pS (m n:Nat) (a:nY) (z:Nat→Int):Prop:=∀ i,i < m→(97:Int) ∣ ip n (a i) z
def vk (n:Nat) (a:nY):Prop:=∀ z,pS n n a z→∀ j,j < n→(97:Int) ∣ z j
theorem pS.congr {m n:Nat} {a b:nY} {z:Nat→Int} (h:∀ i j,i < m→j < n→(97:Int) ∣ a i j - b i j) (k:pS m n a z):pS m n b z:=fun i hi=>by
 have h1:=k i hi
 have h2:=CI (n:=n) (z:=z) fun j hj=>h i j hi hj
 have:=Int.dvd_sub h1 h2
 rwa [show ip n (a i) z - (ip n (a i) z - ip n (b i) z)=ip n (b i) z by omega] at this
theorem pS.Dt {m n:Nat} {a b:nY} {z:Nat→Int} (h:∀ i j,i < m→j < n→(97:Int) ∣ a i j - b i j):pS m n a z↔pS m n b z :=
 ⟨fun k=>k.congr h,fun k=>k.congr fun i j hi hj=>by have:=Int.dvd_neg.mpr (h i j hi hj);rwa [show -(a i j - b i j)=b i j - a i j by omega] at this⟩
theorem vk.congr {n:Nat} {a b:nY} (h:∀ i j,i < n→j < n→(97:Int) ∣ a i j - b i j):vk n a↔vk n b:=by
 unfold vk
 constructor
 ·intro r z k;exact r z ((pS.Dt h).mpr k)
 ·intro r z k;exact r z ((pS.Dt h).mp k)
theorem Ta:∀ n < 97,0 < n→n ^ 95 % 97 * n % 97=1:=by decide
theorem KA {a:Int} (h:¬ (97:Int) ∣ a):∃ b:Int,(97:Int) ∣ a * b - 1:=by
 have h1:0 < a % 97:=by
  have:a % 97≠0:=fun e=>h (Int.dvd_of_emod_eq_zero e)
  omega
 have q:=Ta (a % 97).toNat (by omega) (by omega)
 refine ⟨(((a % 97).toNat ^ 95 % 97:Nat):Int),?_⟩
 generalize (a % 97).toNat ^ 95 % 97=b at q
 have e1:((b * (a % 97).toNat % 97:Nat):Int)=1:=by rw [q];rfl
 have e2:((b:Int) * (a % 97)) % 97=1:=by
  rw [← e1];rw [Int.natCast_emod,Int.natCast_mul,Int.toNat_of_nonneg (by omega)];rfl
 have e3:a * (b:Int) % 97=1:=by rw [Int.mul_comm,Int.mul_emod,← e2,Int.mul_emod (b:Int) (a % 97),Int.emod_emod_of_dvd _ (Int.dvd_refl _)]
 omega
theorem prime {a b:Int} (h:(97:Int) ∣ a * b) (ha:¬ (97:Int) ∣ a):(97:Int) ∣ b:=by
 obtain ⟨c,hc⟩:=KA ha
 have h1:(97:Int) ∣ c * (a * b):=Int.dvd_trans h (Int.dvd_mul_left _ _)
 have h2:(97:Int) ∣ (a * c - 1) * b:=Int.dvd_trans hc (Int.dvd_mul_right _ _)
 have:=Int.dvd_sub h1 h2
 rwa [show c * (a * b) - (a * c - 1) * b=b by grind] at this
def skip (p i:Nat):Nat:=if i < p then i else i+1
theorem vk.step {n p:Nat} {a:nY} (hp:p≤n) (h0:¬ (97:Int) ∣ a p 0) :
  vk (n+1) a↔vk n (fun i j=>a (skip p i) (j+1) * a p 0 - a p (j+1) * a (skip p i) 0):=by
 have sk:∀ i,i < n→skip p i < n+1:=fun i hi=>by unfold skip;split <;> omega
 have red:∀ (i:Nat) (z:Nat→Int),ip n (fun j=>a (skip p i) (j+1) * a p 0 - a p (j+1) * a (skip p i) 0) (fun j=>z (j+1)) =
   a p 0 * ip (n+1) (a (skip p i)) z - a (skip p i) 0 * ip (n+1) (a p) z:=fun i z=>by
  have e1:ip (n+1) (a (skip p i)) z=a (skip p i) 0 * z 0+ip n (fun j=>a (skip p i) (j+1)) (fun j=>z (j+1)):=by unfold ip;rw [gX]
  have e2:ip (n+1) (a p) z=a p 0 * z 0+ip n (fun j=>a p (j+1)) (fun j=>z (j+1)):=by unfold ip;rw [gX]
  have e3:=Ds n (a p 0) (- a (skip p i) 0) (fun j=>a (skip p i) (j+1)) (fun j=>a p (j+1)) (fun j=>z (j+1))
  rw [e1,e2,show (fun j=>a (skip p i) (j+1) * a p 0 - a p (j+1) * a (skip p i) 0)=(fun j=>a p 0 * a (skip p i) (j+1)+-a (skip p i) 0 * a p (j+1)) from funext fun j=>by grind,e3]
  grind
 constructor
 ·intro r y k j hj
  obtain ⟨b,hb⟩:=KA h0
  let z:Nat→Int:=fun j=>match j with
   | 0=>-(b * ip n (fun j=>a p (j+1)) y)
   | j+1=>y j
  have zt:(fun j=>z (j+1))=y:=rfl
  have kp:(97:Int) ∣ ip (n+1) (a p) z:=by
   have e2:ip (n+1) (a p) z=a p 0 * z 0+ip n (fun j=>a p (j+1)) (fun j=>z (j+1)):=by unfold ip;rw [gX]
   rw [e2,zt,show z 0=-(b * ip n (fun j=>a p (j+1)) y) from rfl]
   have:(97:Int) ∣ (a p 0 * b - 1) * -(ip n (fun j=>a p (j+1)) y):=Int.dvd_trans hb (Int.dvd_mul_right _ _)
   rwa [show (a p 0 * b - 1) * -(ip n (fun j=>a p (j+1)) y)=a p 0 * -(b * ip n (fun j=>a p (j+1)) y)+ip n (fun j=>a p (j+1)) y by grind] at this
  have ks:∀ i,i < n→(97:Int) ∣ ip (n+1) (a (skip p i)) z:=fun i hi=>by
   have h1:=k i hi
   have e:=red i z
   rw [zt] at e
   rw [e] at h1
   have h2:(97:Int) ∣ a (skip p i) 0 * ip (n+1) (a p) z:=Int.dvd_trans kp (Int.dvd_mul_left _ _)
   have h3:=Int.dvd_add h1 h2
   rw [show a p 0 * ip (n+1) (a (skip p i)) z - a (skip p i) 0 * ip (n+1) (a p) z+a (skip p i) 0 * ip (n+1) (a p) z=a p 0 * ip (n+1) (a (skip p i)) z by omega] at h3
   exact prime h3 h0
  have kz:pS (n+1) (n+1) a z:=fun i hi=>by
   by_cases e:i=p
   ·subst e;exact kp
   ·by_cases l:i < p
    ·have:=ks i (by omega)
     rwa [show skip p i=i by unfold skip;rw [if_pos l]] at this
    ·have:=ks (i - 1) (by omega)
     rwa [show skip p (i - 1)=i by unfold skip;rw [if_neg (by omega)];omega] at this
  exact r z kz (j+1) (by omega)
 ·intro r z k
  have ky:pS n n (fun i j=>a (skip p i) (j+1) * a p 0 - a p (j+1) * a (skip p i) 0) (fun j=>z (j+1)):=fun i hi=>by
   show (97:Int) ∣ ip n _ _
   rw [red i z]
   exact Int.dvd_sub (Int.dvd_trans (k _ (sk i hi)) (Int.dvd_mul_left _ _)) (Int.dvd_trans (k p (by omega)) (Int.dvd_mul_left _ _))
  have ht:=r _ ky
  have hz:(97:Int) ∣ z 0:=by
   have kp:=k p (by omega)
   have e2:ip (n+1) (a p) z=a p 0 * z 0+ip n (fun j=>a p (j+1)) (fun j=>z (j+1)):=by unfold ip;rw [gX]
   have h3:(97:Int) ∣ ip n (fun j=>a p (j+1)) (fun j=>z (j+1)):=gY n fun j hj=>Int.dvd_trans (ht j hj) (Int.dvd_mul_left _ _)
   have h4:=Int.dvd_sub kp h3
   rw [e2,show a p 0 * z 0+ip n (fun j=>a p (j+1)) (fun j=>z (j+1)) - ip n (fun j=>a p (j+1)) (fun j=>z (j+1))=a p 0 * z 0 by omega] at h4
   exact prime h4 h0
  intro j hj
  cases j with
  | zero=>exact hz
  | succ j=>exact ht j (by omega)
theorem vk.none {n:Nat} {a:nY} (h:∀ i,i < n+1→(97:Int) ∣ a i 0):¬ vk (n+1) a:=fun r=>by
 have k:pS (n+1) (n+1) a (fun j=>if j=0 then 1 else 0):=fun i hi=>by
  have:ip (n+1) (a i) (fun j=>if j=0 then 1 else 0)=a i 0:=by
   unfold ip
   rw [tQ 0 (n+1) (by omega) fun j _ hj=>by simp [hj]]
   simp
  rw [this];exact h i hi
 have:=r _ k 0 (by omega)
 simp at this
theorem vk.zero (a:nY):vk 0 a:=fun _ _ j hj=>by omega
structure Clear (n c:Nat) (t:nY):Prop where
 one:∀ i,i < c→t i i=1
 n9:∀ i j,i < n→j < c→i≠j→t i j=0
theorem Clear.start (n:Nat) (t:nY):Clear n 0 t:=⟨fun _ h=>by omega,fun _ _ _ h=>by omega⟩
def swap (t:nY) (p q:Nat):nY:=fun i=>if i=p then t q else if i=q then t p else t i
theorem pS.swap {m n p q:Nat} {t:nY} {z:Nat→Int} (hp:p < m) (hq:q < m):pS m n (swap t p q) z↔pS m n t z:=by
 constructor
 ·intro k i hi
  by_cases e1:i=p
  ·subst e1
   have:=k q hq
   unfold My.swap at this
   by_cases e:q=i
   ·subst e;simpa using this
   ·rw [if_neg e,if_pos rfl] at this;exact this
  ·by_cases e2:i=q
   ·subst e2
    have:=k p hp
    unfold My.swap at this
    rwa [if_pos rfl] at this
   ·have:=k i hi
    unfold My.swap at this
    rwa [if_neg e1,if_neg e2] at this
 ·intro k i hi
  unfold My.swap
  split
  ·exact k q hq
  ·split
   ·exact k p hp
   ·exact k i hi
def clear (t:nY) (c:Nat) (f:Int):nY:=fun i j=>if i=c then t c j * f % 97 else (t i j - t i c * (t c j * f % 97)) % 97
theorem fb (a:Int):(97:Int) ∣ a % 97 - a:=by omega
theorem pS.clear {m n c:Nat} {t:nY} {f:Int} {z:Nat→Int} (hc:c < m) (hf:(97:Int) ∣ f * t c c - 1):pS m n (clear t c f) z↔pS m n t z:=by
 have XM:¬ (97:Int) ∣ f:=fun h=>by
  have:=Int.dvd_sub (Int.dvd_trans h (Int.dvd_mul_right f (t c c))) hf
  rw [show f * t c c - (f * t c c - 1)=1 by omega] at this
  omega
 have Tb:pS m n (My.clear t c f) z↔pS m n (fun i j=>if i=c then f * t c j+0 * t c j else 1 * t i j+(- (t i c * f)) * t c j) z:=by
  refine pS.Dt fun i j _ _=>?_
  unfold My.clear
  by_cases e:i=c
  ·rw [if_pos e,if_pos e]
   have:=fb (t c j * f)
   rwa [show t c j * f % 97 - (f * t c j+0 * t c j)=t c j * f % 97 - t c j * f by grind]
  ·rw [if_neg e,if_neg e]
   have h1:=fb (t i j - t i c * (t c j * f % 97))
   have h2:(97:Int) ∣ t i c * (t c j * f % 97 - t c j * f):=Int.dvd_trans (fb (t c j * f)) (Int.dvd_mul_left _ _)
   have:=Int.dvd_sub h1 h2
   rwa [show (t i j - t i c * (t c j * f % 97)) % 97 - (t i j - t i c * (t c j * f % 97)) - t i c * (t c j * f % 97 - t c j * f)=(t i j - t i c * (t c j * f % 97)) % 97 - (1 * t i j+-(t i c * f) * t c j) by grind] at this
 rw [Tb]
 have e1:ip n (fun j=>f * t c j+0 * t c j) z=f * ip n (t c) z:=by rw [Ds];omega
 have e2:∀ i,ip n (fun j=>1 * t i j+(- (t i c * f)) * t c j) z=ip n (t i) z - t i c * f * ip n (t c) z:=fun i=>by rw [Ds];grind
 constructor
 ·intro k
  have kc:(97:Int) ∣ ip n (t c) z:=by
   have:=k c hc
   simp only [if_true] at this
   rw [e1] at this
   exact prime this XM
  intro i hi
  by_cases e:i=c
  ·subst e;exact kc
  ·have:=k i hi
   simp only [if_neg e] at this
   rw [e2] at this
   have h2:(97:Int) ∣ t i c * f * ip n (t c) z:=Int.dvd_trans kc (Int.dvd_mul_left _ _)
   have:=Int.dvd_add this h2
   rwa [show ip n (t i) z - t i c * f * ip n (t c) z+t i c * f * ip n (t c) z=ip n (t i) z by omega] at this
 ·intro k i hi
  by_cases e:i=c
  ·simp only [if_pos e]
   rw [e1];exact Int.dvd_trans (k c hc) (Int.dvd_mul_left _ _)
  ·simp only [if_neg e]
   rw [e2];exact Int.dvd_sub (k i hi) (Int.dvd_trans (k c hc) (Int.dvd_mul_left _ _))
theorem Clear.swap {n c q:Nat} {t:nY} (h:Clear n c t) (hq:c≤q) (hn:q < n):Clear n c (swap t c q):=by
 refine ⟨fun i hi=>?_,fun i j hi hj ne=>?_⟩
 ·unfold My.swap
  rw [if_neg (by omega),if_neg (by omega)];exact h.one i hi
 ·unfold My.swap
  split
  ·exact h.n9 q j hn hj (by omega)
  ·split
   ·exact h.n9 c j (by omega) hj (by omega)
   ·exact h.n9 i j hi hj ne
theorem Clear.clear {n c:Nat} {t:nY} {f:Int} (h:Clear n c t) (hc:c < n) (hf:(97:Int) ∣ f * t c c - 1):Clear n (c+1) (clear t c f):=by
 have Lf:t c c * f % 97=1:=by rw [Int.mul_comm];omega
 have hz:∀ j,j < c→t c j * f % 97=0:=fun j hj=>by rw [h.n9 c j hc hj (by omega)];simp
 refine ⟨fun i hi=>?_,fun i j hi hj ne=>?_⟩
 ·unfold My.clear
  by_cases e:i=c
  ·subst e;rw [if_pos rfl,Lf]
  ·rw [if_neg e,hz i (by omega),h.one i (by omega)];omega
 ·unfold My.clear
  by_cases e:i=c
  ·rw [if_pos e,hz j (by omega)]
  ·rw [if_neg e]
   by_cases e2:j=c
   ·subst e2;rw [Lf];simp
   ·rw [hz j (by omega),h.n9 i j hi (by omega) ne];simp
theorem Clear.full {n:Nat} {t:nY} (h:Clear n n t) (z:Nat→Int) (i:Nat) (hi:i < n):ip (n+1) (t i) z=z i+t i n * z n:=by
 unfold ip
 rw [tR i n (n+1) hi (by omega) fun j hj n1 n2=>by rw [h.n9 i j hi (by omega) (Ne.symm n1)];omega,h.one i hi];omega
theorem Clear.stuck {n c:Nat} {t:nY} (h:Clear n c t) (hc:c < n) (hz:∀ i,c≤i→i < n→t i c=0) :
  ∃ z:Nat→Int,pS n (n+1) t z∧z c=1∧z n=0:=by
 refine ⟨fun j=>if j < c then - t j c else if j=c then 1 else 0,fun i hi=>?_,by simp,by simp;omega⟩
 have:ip (n+1) (t i) (fun j=>if j < c then - t j c else if j=c then 1 else 0)=0:=by
  unfold ip
  by_cases l:i < c
  ·rw [tR i c (n+1) l (by omega) fun j hj n1 n2=>?_]
   ·simp [l,h.one i l];omega
   ·by_cases l2:j < c
    ·rw [h.n9 i j hi l2 (Ne.symm n1)];simp
    ·simp [l2,n2]
  ·refine qU _ fun j hj=>?_
   by_cases l2:j < c
   ·rw [h.n9 i j hi l2 (by omega)];simp
   ·by_cases e:j=c
    ·subst e;rw [hz i (by omega) hi];simp
    ·simp [l2,e]
 rw [this];exact ⟨0,by simp⟩
theorem Du:∀ (n:Nat) (al:Nat→Int) (x:Nat→Int),(∀ i,i < n→¬ (97:Int) ∣ al i)→(∀ i j,i < n→j < n→i≠j→¬ (97:Int) ∣ al i - al j) →
  (∀ j,j < n→(97:Int) ∣ sumTo n fun i=>al i ^ (j+1) * x i)→∀ i,i < n→(97:Int) ∣ x i
 | 0,_,_,_,_,_,i,hi=>by omega
 | n+1,al,x,h0,hd,hk,i,hi=>by
  have hy:∀ i,i < n→(97:Int) ∣ (al i - al n) * x i:=by
   refine Du n al (fun i=>(al i - al n) * x i) (fun i hi=>h0 i (by omega)) (fun i j hi hj=>hd i j (by omega) (by omega)) fun j hj=>?_
   have h1:=hk (j+1) (by omega)
   have h2:(97:Int) ∣ al n * sumTo (n+1) fun i=>al i ^ (j+1) * x i:=Int.dvd_trans (hk j (by omega)) (Int.dvd_mul_left _ _)
   have h3:=Int.dvd_sub h1 h2
   have e:(sumTo (n+1) fun i=>al i ^ (j+1+1) * x i) - al n * (sumTo (n+1) fun i=>al i ^ (j+1) * x i)=sumTo n fun i=>al i ^ (j+1) * ((al i - al n) * x i):=by
    rw [sumTo,sumTo]
    have:=dQ 1 (- al n) (fun i=>al i ^ (j+1+1) * x i) (fun i=>al i ^ (j+1) * x i) n
    rw [show (sumTo n fun i=>al i ^ (j+1) * ((al i - al n) * x i))=sumTo n (fun i=>1 * (al i ^ (j+1+1) * x i)+- al n * (al i ^ (j+1) * x i)) from bJ n fun i _=>by rw [Int.pow_succ (al i) (j+1)];grind,this,Int.pow_succ (al n) (j+1)]
    grind
   rwa [e] at h3
  have hx:∀ i,i < n→(97:Int) ∣ x i:=fun i hi=>prime (hy i hi) (hd i n (by omega) (by omega) (by omega))
  by_cases e:i=n
  ·subst e
   have h1:=hk 0 (by omega)
   rw [sumTo] at h1
   have h2:(97:Int) ∣ sumTo i fun k=>al k ^ (0+1) * x k:=gY i fun k hk=>Int.dvd_trans (hx k hk) (Int.dvd_mul_left _ _)
   have h3:=Int.dvd_sub h1 h2
   rw [show (sumTo i fun k=>al k ^ (0+1) * x k)+al i ^ (0+1) * x i - (sumTo i fun k=>al k ^ (0+1) * x k)=al i * x i by rw [Int.pow_succ];grind] at h3
   exact prime h3 (h0 i (by omega))
  ·exact hx i (by omega)
end My
namespace My
def T (x:Int) (n:Nat) (f:Nat→Int):Int:=sumTo n (fun i=>f i * x ^ i) % 97
theorem XN (x:Int) (n:Nat) (f:Nat→Int):0≤T x n f:=Int.emod_nonneg _ (by decide)
theorem XO (x:Int) (n:Nat) (f:Nat→Int):T x n f < 97:=Int.emod_lt_of_pos _ (by decide)
theorem Md {x:Int} {n:Nat} {f g:Nat→Int} (h:∀ i,i < n→f i=g i):T x n f=T x n g:=by
 unfold T
 rw [bJ n fun j hj=>by rw [h j hj]]
theorem tS {x:Int} {n:Nat} {f:Nat→Int}:T x n f=0↔(97:Int) ∣ sumTo n (fun i=>f i * x ^ i):=by
 unfold T
 omega
def St (j:Nat):Int:=([5,25,28,43,21,8]:List Int).getD j 0
theorem XQ:∀ j:Nat,j < 6→P 5 (1+(j:Int))=St j:=by decide
def hv (f:Nat→Int) (n:Nat) (x:Int):Nat→Int
 | 0=>0
 | i+1=>(hv f n x i * x+f (n - 1 - i)) % 97
theorem Oa (f:Nat→Int) (n:Nat) (x:Int) (i:Nat):0≤hv f n x i:=by
 cases i with
 | zero=>exact Int.le_refl _
 | succ i=>exact Int.emod_nonneg _ (by decide)
theorem Ob (f:Nat→Int) (n:Nat) (x:Int) (i:Nat):hv f n x i < 97:=by
 cases i with
 | zero=>exact (by decide:(0:Int) < 97)
 | succ i=>exact Int.emod_lt_of_pos _ (by decide)
theorem KC (f:Nat→Int) (n:Nat) (x:Int):∀ i,i≤n→(97:Int) ∣ hv f n x i - sumTo i (fun k=>f (n - i+k) * x ^ k)
 | 0,_=>by simp [hv,sumTo]
 | i+1,h=>by
  obtain ⟨a,ha⟩:=KC f n x i (by omega)
  have e:sumTo (i+1) (fun k=>f (n - (i+1)+k) * x ^ k)=f (n - 1 - i)+x * sumTo i (fun k=>f (n - i+k) * x ^ k):=by
   rw [gX,← pR]
   have e1:f (n - (i+1)+0) * x ^ 0=f (n - 1 - i):=by
    rw [show n - (i+1)+0=n - 1 - i by omega];simp
   rw [e1]
   congr 1
   refine bJ i fun j hj=>?_
   rw [show n - (i+1)+(j+1)=n - i+j by omega,Int.pow_succ]
   grind
  rw [e,hv]
  generalize sumTo i (fun k=>f (n - i+k) * x ^ k)=S at ha
  have hq:hv f n x i=S+97 * a:=by omega
  rw [hq,Int.emod_def]
  exact ⟨a * x - ((S+97 * a) * x+f (n - 1 - i)) / 97,by grind⟩
theorem XR (f:Nat→Int) (n:Nat) (x:Int):hv f n x n=T x n f:=by
 have h:=KC f n x n (Nat.le_refl n)
 rw [bJ n (g:=fun k=>f k * x ^ k) fun j hj=>by rw [show n - n+j=j by omega]] at h
 have h0:=Oa f n x n
 have h1:=Ob f n x n
 unfold T
 omega
def Dv (k:Nat):Int:=([21,80,53,2,55,63]:List Int).getD k 0
def rs (f:Nat→Int):Nat→Nat→Int
 | 0,_=>0
 | m+1,k=>((if k < 5 then rs f m (k+1) else 0) - (rs f m 0+f m) * Dv k) % 97
theorem Tc (f:Nat→Int) (m k:Nat):0≤rs f m k:=by
 cases m with
 | zero=>exact Int.le_refl _
 | succ m=>exact Int.emod_nonneg _ (by decide)
theorem Td (f:Nat→Int) (m k:Nat):rs f m k < 97:=by
 cases m with
 | zero=>exact (by decide:(0:Int) < 97)
 | succ m=>exact Int.emod_lt_of_pos _ (by decide)
def six (y:Int) (r:Nat→Int):Int:=r 0+r 1 * y+r 2 * (y * y)+r 3 * (y * y * y)+r 4 * (y * y * y * y)+r 5 * (y * y * y * y * y)
theorem KD:∀ j < 6,(97:Int) ∣ 1+St j * six (St j) Dv:=by decide
theorem Me {y pm S fm a b:Int} {r:Nat→Int} (ha:pm * six y r - S=97 * a) (hb:1+y * six y Dv=97 * b) :
  (97:Int) ∣ pm * y * six y (fun k=>((if k < 5 then r (k+1) else 0) - (r 0+fm) * Dv k) % 97) - (S+fm * pm):=by
 simp only [six] at *
 simp only [show (0:Nat) < 5 by decide,show (1:Nat) < 5 by decide,show (2:Nat) < 5 by decide,show (3:Nat) < 5 by decide,show (4:Nat) < 5 by decide,show ¬ (5:Nat) < 5 by decide,if_true,if_false,Int.emod_def]
 generalize (r (0+1) - (r 0+fm) * Dv 0) / 97=q0
 generalize (r (1+1) - (r 0+fm) * Dv 1) / 97=q1
 generalize (r (2+1) - (r 0+fm) * Dv 2) / 97=q2
 generalize (r (3+1) - (r 0+fm) * Dv 3) / 97=q3
 generalize (r (4+1) - (r 0+fm) * Dv 4) / 97=q4
 generalize ((0:Int) - (r 0+fm) * Dv 5) / 97=q5
 generalize r 0=r0 at *
 generalize r (0+1)=r1 at *
 generalize r (1+1)=r2 at *
 generalize r (2+1)=r3 at *
 generalize r (3+1)=r4 at *
 generalize r (4+1)=r5 at *
 generalize Dv 0=d0 at *
 generalize Dv 1=d1 at *
 generalize Dv 2=d2 at *
 generalize Dv 3=d3 at *
 generalize Dv 4=d4 at *
 generalize Dv 5=d5 at *
 have e:pm * y * (r1 - (r0+fm) * d0 - 97 * q0+(r2 - (r0+fm) * d1 - 97 * q1) * y+(r3 - (r0+fm) * d2 - 97 * q2) * (y * y)+(r4 - (r0+fm) * d3 - 97 * q3) * (y * y * y)+(r5 - (r0+fm) * d4 - 97 * q4) * (y * y * y * y)+(0 - (r0+fm) * d5 - 97 * q5) * (y * y * y * y * y)) - (S+fm * pm)
   = (pm * (r0+r1 * y+r2 * (y * y)+r3 * (y * y * y)+r4 * (y * y * y * y)+r5 * (y * y * y * y * y)) - S) - pm * (r0+fm) * (1+y * (d0+d1 * y+d2 * (y * y)+d3 * (y * y * y)+d4 * (y * y * y * y)+d5 * (y * y * y * y * y))) - 97 * (pm * (q0 * y+q1 * (y * y)+q2 * (y * y * y)+q3 * (y * y * y * y)+q4 * (y * y * y * y * y)+q5 * (y * y * y * y * y * y))):=by grind
 rw [e,ha,hb]
 exact ⟨a - pm * (r0+fm) * b - pm * (q0 * y+q1 * (y * y)+q2 * (y * y * y)+q3 * (y * y * y * y)+q4 * (y * y * y * y * y)+q5 * (y * y * y * y * y * y)),by grind⟩
theorem KE {y:Int} (hy:(97:Int) ∣ 1+y * six y Dv) (f:Nat→Int):∀ m,(97:Int) ∣ y ^ m * six y (rs f m) - sumTo m (fun i=>f i * y ^ i)
 | 0=>by simp [six,rs,sumTo]
 | m+1=>by
  obtain ⟨a,ha⟩:=KE hy f m
  obtain ⟨b,hb⟩:=hy
  rw [sumTo,Int.pow_succ]
  exact Me ha hb
def lJ (f:Nat→Int) (i:Nat):Int:=if i < 18 then f i else -(rs f 18 (i - 18)) % 97
theorem Mf {f:Nat→Int} (h:∀ i,i < 18→0≤f i∧f i < 97) (i:Nat):0≤lJ f i∧lJ f i < 97:=by
 unfold lJ
 split
 ·rename_i h1;exact h i h1
 ·exact ⟨Int.emod_nonneg _ (by decide),Int.emod_lt_of_pos _ (by decide)⟩
theorem zb (f:Nat→Int) (n:Nat):∀ m,sumTo (n+m) f=sumTo n f+sumTo m (fun i=>f (n+i))
 | 0=>by simp [sumTo]
 | m+1=>by rw [← Nat.add_assoc,sumTo,zb f n m,sumTo];omega
theorem Mg (y:Int) (r:Nat→Int):sumTo 6 (fun k=>r k * y ^ k)=six y r:=by
 simp only [sumTo,six,Int.pow_succ,Int.pow_zero]
 grind
theorem Mh {y:Int} (hy:(97:Int) ∣ 1+y * six y Dv) (f:Nat→Int):T y 24 (lJ f)=0:=by
 rw [tS,show (24:Nat)=18+6 from rfl,zb]
 have e1:sumTo 18 (fun i=>lJ f i * y ^ i)=sumTo 18 (fun i=>f i * y ^ i):=bJ 18 fun j hj=>by rw [lJ,if_pos hj]
 have e2:sumTo 6 (fun i=>lJ f (18+i) * y ^ (18+i))=y ^ 18 * six y (fun k=>-(rs f 18 k) % 97):=by
  rw [← Mg,← pR]
  refine bJ 6 fun j hj=>?_
  rw [lJ,if_neg (by omega),Int.pow_add,show 18+j - 18=j by omega]
  grind
 rw [e1,e2]
 obtain ⟨a,ha⟩:=KE hy f 18
 generalize sumTo 18 (fun i=>f i * y ^ i)=S at *
 generalize y ^ 18=pm at *
 generalize rs f 18=r at *
 simp only [six,Int.emod_def] at *
 generalize (-(r 0)) / 97=q0
 generalize (-(r 1)) / 97=q1
 generalize (-(r 2)) / 97=q2
 generalize (-(r 3)) / 97=q3
 generalize (-(r 4)) / 97=q4
 generalize (-(r 5)) / 97=q5
 refine ⟨-a - pm * (q0+q1 * y+q2 * (y * y)+q3 * (y * y * y)+q4 * (y * y * y * y)+q5 * (y * y * y * y * y)),?_⟩
 grind
def bu (f:Nat→Int):Prop:=∀ j,j < 6→T (St j) 24 f=0
theorem AY (f:Nat→Int):bu (lJ f):=fun j hj=>Mh (KD j hj) f
theorem fc {y:Int} (h:¬ (97:Int) ∣ y):∀ n:Nat,¬ (97:Int) ∣ y ^ n
 | 0=>by rw [Int.pow_zero];decide
 | n+1=>fun z=>by
  rw [Int.pow_succ] at z
  exact h (prime z (fc h n))
end My
namespace My
def el (n:Nat) (f g:Nat→Int):List Nat:=(List.range n).filter fun i=>!decide (f i=g i)
theorem Hn (n:Nat) (f g:Nat→Int):el (n+1) f g=if f n=g n then el n f g else el n f g ++ [n]:=by
 unfold el
 rw [List.range_succ,List.filter_append]
 by_cases h:f n=g n <;> simp [h]
theorem cC {n:Nat} {f g:Nat→Int} {i:Nat}:i ∈ el n f g↔i < n∧f i≠g i:=by
 unfold el
 simp
theorem gZ (n:Nat) (f g:Nat→Int):(el n f g).Nodup:=List.Pairwise.filter _ List.nodup_range
def lsum (l:List Nat) (h:Nat→Int):Int:=sumTo l.length fun k=>h (l.getD k 0)
theorem lsum_snoc (l:List Nat) (n:Nat) (h:Nat→Int):lsum (l ++ [n]) h=lsum l h+h n:=by
 unfold lsum
 rw [List.length_append,List.length_singleton,sumTo]
 congr 1
 ·refine bJ _ fun j hj=>?_
  simp [List.getD,List.getElem?_append_left hj]
 ·simp [List.getD]
theorem KG (n:Nat) (f g:Nat→Int) (h:Nat→Int) (hz:∀ i,i < n→f i=g i→h i=0):sumTo n h=lsum (el n f g) h:=by
 induction n with
 | zero=>rfl
 | succ n ih =>
  rw [sumTo,ih fun i hi=>hz i (by omega),Hn]
  by_cases e:f n=g n
  ·rw [if_pos e,hz n (by omega) e];omega
  ·rw [if_neg e,lsum_snoc]
theorem QL:∀ j:Nat,j < 6→St j=5 ^ (j+1) % 97:=by decide
theorem jA:¬ (97:Int) ∣ 5:=by decide
theorem wY:∀ p:Nat,p < 24→∀ q:Nat,q < 24→p≠q→¬ (97:Int) ∣ 5 ^ p - 5 ^ q:=by decide +kernel
theorem GC {a b:Int} (h:(97:Int) ∣ a - b):∀ n:Nat,(97:Int) ∣ a ^ n - b ^ n
 | 0=>by simp
 | n+1=>by
  obtain ⟨c,hc⟩:=h
  obtain ⟨d,hd⟩:=GC ⟨c,hc⟩ n
  rw [Int.pow_succ,Int.pow_succ]
  exact ⟨d * a+b ^ n * c,by
   have e:a ^ n * a - b ^ n * b=(a ^ n - b ^ n) * a+b ^ n * (a - b):=by grind
   rw [e,hd,hc];grind⟩
theorem sD {j p:Nat} (hj:j < 6):(97:Int) ∣ St j ^ p - (5 ^ p) ^ (j+1):=by
 have h:(97:Int) ∣ St j - 5 ^ (j+1):=by rw [QL j hj];exact fb _
 have:=GC h p
 rwa [← Int.pow_mul,Nat.mul_comm,Int.pow_mul] at this
theorem KH {l:List Nat} {z:Nat→Int} (hn:l.Nodup) (hb:∀ p ∈ l,p < 24) (hl:l.length≤6) (hs:∀ j,j < l.length→(97:Int) ∣ lsum l fun p=>z p * St j ^ p):∀ p ∈ l,(97:Int) ∣ z p:=by
 intro p hp
 obtain ⟨k,hk,rfl⟩:=List.getElem_of_mem hp
 have e:∀ k,(h:k < l.length)→l.getD k 0=l[k]:=fun k h=>by simp [List.getD,h]
 rw [← e k hk]
 refine Du l.length (fun k=>5 ^ l.getD k 0) (fun k=>z (l.getD k 0)) (fun i _=>fc jA _) (fun i j hi hj XS=>?_) (fun j hj=>?_) k hk
 ·refine wY _ (hb _ (by rw [e i hi];exact List.getElem_mem _)) _ (hb _ (by rw [e j hj];exact List.getElem_mem _)) fun q=>XS ?_
  rw [e i hi,e j hj] at q
  exact (List.getElem_inj hn).mp q
 ·have h1:=hs j hj
  unfold lsum at h1
  have h2:(97:Int) ∣ (sumTo l.length fun k=>(5 ^ l.getD k 0) ^ (j+1) * z (l.getD k 0)) - sumTo l.length fun k=>z (l.getD k 0) * St j ^ l.getD k 0:=by
   have h3:=dQ 1 (-1) (fun k=>(5 ^ l.getD k 0) ^ (j+1) * z (l.getD k 0)) (fun k=>z (l.getD k 0) * St j ^ l.getD k 0) l.length
   have h4:(97:Int) ∣ sumTo l.length fun k=>1 * ((5 ^ l.getD k 0) ^ (j+1) * z (l.getD k 0))+-1 * (z (l.getD k 0) * St j ^ l.getD k 0):=gY _ fun k _=>by
    obtain ⟨c,hc⟩:=sD (p:=l.getD k 0) (show j < 6 by omega)
    refine ⟨-(c * z (l.getD k 0)),?_⟩
    generalize St j ^ l.getD k 0=A at *
    generalize ((5:Int) ^ l.getD k 0) ^ (j+1)=B at *
    have:B=A - 97 * c:=by omega
    rw [this];grind
   rw [h3] at h4
   have e5:∀ a b:Int,1 * a+-1 * b=a - b:=fun a b=>by omega
   rw [e5] at h4
   exact h4
  have h5:=Int.dvd_add h2 h1
  rwa [Int.sub_add_cancel] at h5
theorem CJ {n:Nat} {f g:Nat→Int} (y:Int):sumTo n (fun i=>f i * y ^ i) - sumTo n (fun i=>g i * y ^ i)=lsum (el n f g) fun i=>(f i - g i) * y ^ i:=by
 rw [← KG n f g _ fun i _ e=>by rw [e];grind]
 have h1:=dQ 1 (-1) (fun i=>f i * y ^ i) (fun i=>g i * y ^ i) n
 have h2:sumTo n (fun j=>1 * (f j * y ^ j)+-1 * (g j * y ^ j))=sumTo n fun i=>(f i - g i) * y ^ i:=bJ n fun j _=>by grind
 rw [← h2,h1];omega
theorem Oc {f g:Nat→Int} (bf:∀ i,i < 24→0≤f i∧f i < 97) (bg:∀ i,i < 24→0≤g i∧g i < 97) (hf:bu f) (hg:bu g) (h:(el 24 f g).length≤6):∀ i,i < 24→f i=g i:=by
 intro i hi
 apply Classical.byContradiction
 intro BO
 have hm:i ∈ el 24 f g:=cC.mpr ⟨hi,BO⟩
 have:=KH (z:=fun i=>f i - g i) (gZ _ _ _) (fun p hp=>(cC.mp hp).1) h (fun j hj=>by
  have h1:=tS.mp (hf j (by omega))
  have h2:=tS.mp (hg j (by omega))
  rw [← CJ]
  exact Int.dvd_sub h1 h2) i hm
 have b1:=bf i hi
 have b2:=bg i hi
 omega
theorem bu.congr {f g:Nat→Int} (h:∀ i,i < 24→f i=g i) (hf:bu f):bu g:=fun j hj=>by rw [← Md h];exact hf j hj
theorem bu.QM {f:Nat→Int} (h:∀ j,j < 6→(97:Int) ∣ sumTo 24 fun i=>f i * St j ^ i):bu fun i=>f i % 97:=fun j hj=>by
 rw [tS]
 have h1:=dQ 1 (-1) (fun i=>f i * St j ^ i) (fun i=>f i % 97 * St j ^ i) 24
 have h2:(97:Int) ∣ sumTo 24 fun i=>1 * (f i * St j ^ i)+-1 * (f i % 97 * St j ^ i):=gY _ fun i _=>by
  rw [Int.emod_def]
  exact ⟨f i / 97 * St j ^ i,by grind⟩
 rw [h1] at h2
 have h3:=h j hj
 omega
theorem bu.times {f:Nat→Int} (hf:bu f) (c:Int):bu fun i=>f i * c % 97:=bu.QM fun j hj=>by
 have h:=tS.mp (hf j hj)
 have e:sumTo 24 (fun i=>f i * c * St j ^ i)=c * sumTo 24 (fun i=>f i * St j ^ i):=by rw [← pR];exact bJ _ fun i _=>by grind
 rw [e]
 exact Int.dvd_trans h (Int.dvd_mul_left _ _)
end My
namespace My
theorem gc:∀ (l L:List Nat),l.Nodup→(∀ x ∈ l,x ∈ L)→l.length≤L.length
 | [],_,_,_=>Nat.zero_le _
 | a :: l,L,hn,hs=>by
  have ha:=hs a List.mem_cons_self
  have RN:=List.nodup_cons.mp hn
  have:=gc l (L.erase a) RN.2 fun x hx=>(List.mem_erase_of_ne (fun e=>RN.1 (by rw [← e];exact hx))).mpr (hs x (List.mem_cons_of_mem _ hx))
  rw [List.length_erase_of_mem ha] at this
  have hp:0 < L.length:=List.length_pos_of_mem ha
  rw [List.length_cons]
  omega
theorem CK (n:Nat) (f g:Nat→Int):(el n f g).Pairwise (· < ·):=List.Pairwise.filter _ List.pairwise_lt_range
theorem dZ {p q:Nat} (hp:p < 24) (hq:q < 24) (h:p≠q):¬ (97:Int) ∣ 5 ^ p - 5 ^ q:=wY p hp q hq h
def M (s:Nat→Int):nY:=fun i j=>if j=0 then s (i+1) else -(s i) % 97
theorem Te (s z:Nat→Int) (i:Nat):(97:Int) ∣ ip 2 (M s i) z - (s (i+1) * z 0 - s i * z 1):=by
 have e:ip 2 (M s i) z=s (i+1) * z 0+-(s i) % 97 * z 1:=by simp [ip,sumTo,M]
 rw [e,Int.emod_def]
 exact ⟨-((-(s i)) / 97 * z 1),by grind⟩
theorem Dw {s:Nat→Int} (h:¬ (97:Int) ∣ s 0 * s 2 - s 1 * s 1):vk 2 (M s):=fun z hz j hj=>by
 have k0:=Int.dvd_sub (hz 0 (by decide)) (Te s z 0)
 have k1:=Int.dvd_sub (hz 1 (by decide)) (Te s z 1)
 rw [Int.sub_sub_self] at k0 k1
 obtain ⟨a,ha⟩:=k0
 obtain ⟨b,hb⟩:=k1
 match j,hj with
 | 0,_ =>
  refine prime (a:=s 0 * s 2 - s 1 * s 1) ⟨s 0 * b - s 1 * a,?_⟩ h
  have e:(s 0 * s 2 - s 1 * s 1) * z 0=s 0 * (s (1+1) * z 0 - s 1 * z 1) - s 1 * (s (0+1) * z 0 - s 0 * z 1):=by grind
  rw [e,ha,hb];grind
 | 1,_ =>
  refine prime (a:=s 0 * s 2 - s 1 * s 1) ⟨s 1 * b - s 2 * a,?_⟩ h
  have e:(s 0 * s 2 - s 1 * s 1) * z 1=s 1 * (s (1+1) * z 0 - s 1 * z 1) - s 2 * (s (0+1) * z 0 - s 0 * z 1):=by grind
  rw [e,ha,hb];grind
theorem Mi {s:Nat→Int} {X:Int} (h0:(97:Int) ∣ s 1 - s 0 * X) (h1:(97:Int) ∣ s 2 - s 1 * X):¬ vk 2 (M s):=fun r=>by
 have:=r (fun j=>if j=0 then 1 else X) (fun i hi=>by
  have k:=Te s (fun j=>if j=0 then 1 else X) i
  have h:(97:Int) ∣ s (i+1) * (if (0:Nat)=0 then 1 else X) - s i * (if (1:Nat)=0 then 1 else X):=by
   match i,hi with
   | 0,_=>simpa using h0
   | 1,_=>simpa using h1
  have:=Int.dvd_add k h
  rwa [Int.sub_add_cancel] at this) 0 (by decide)
 have h1:(97:Int) ∣ 1:=this
 exact absurd h1 (by decide)
theorem Mj {s:Nat→Int} {e d X Y:Int} (h:∀ j,j < 4→(97:Int) ∣ s j - (e * X ^ (j+1)+d * Y ^ (j+1))):(97:Int) ∣ (s 0 * s 2 - s 1 * s 1) - e * d * (X * Y) * ((X - Y) * (X - Y)):=by
 obtain ⟨a,ha⟩:=h 0 (by decide)
 obtain ⟨b,hb⟩:=h 1 (by decide)
 obtain ⟨c,hc⟩:=h 2 (by decide)
 simp only [Int.pow_succ,Int.pow_zero,Int.one_mul,Nat.zero_add] at ha hb hc
 have e0:s 0=e * X+d * Y+97 * a:=by omega
 have e1:s 1=e * (X * X)+d * (Y * Y)+97 * b:=by omega
 have e2:s 2=e * (X * X * X)+d * (Y * Y * Y)+97 * c:=by omega
 rw [e0,e1,e2]
 exact ⟨(e * X+d * Y) * c+a * (e * (X * X * X)+d * (Y * Y * Y))+97 * a * c - 2 * (e * (X * X)+d * (Y * Y)) * b - 97 * b * b,by grind⟩
theorem KI {s x:Nat→Int} {e d X Y:Int} (r:vk 2 (M s)) (h:∀ j,j < 4→(97:Int) ∣ s j - (e * X ^ (j+1)+d * Y ^ (j+1))) (hx:∀ i,i < 2→(97:Int) ∣ ip 2 (M s i) x - s (i+2)) :
  (97:Int) ∣ x 0 - (X+Y)∧(97:Int) ∣ x 1 - X * Y:=by
 have k:pS 2 2 (M s) fun j=>if j=0 then x 0 - (X+Y) else x 1 - X * Y:=fun i hi=>by
  have k1:=Te s (fun j=>if j=0 then x 0 - (X+Y) else x 1 - X * Y) i
  have k2:=Int.dvd_sub (hx i hi) (Te s x i)
  have k3:(97:Int) ∣ s (i+2) - (s (i+1) * (X+Y) - s i * (X * Y)):=by
   obtain ⟨a,ha⟩:=h i (by omega)
   obtain ⟨b,hb⟩:=h (i+1) (by omega)
   obtain ⟨c,hc⟩:=h (i+2) (by omega)
   rw [Int.pow_succ X (i+2),Int.pow_succ X (i+1),Int.pow_succ Y (i+2),Int.pow_succ Y (i+1)] at hc
   rw [Int.pow_succ X (i+1),Int.pow_succ Y (i+1)] at hb
   generalize X ^ (i+1)=A at *
   generalize Y ^ (i+1)=B at *
   have e0:s i=e * A+d * B+97 * a:=by omega
   have e1:s (i+1)=e * (A * X)+d * (B * Y)+97 * b:=by omega
   have e2:s (i+2)=e * (A * X * X)+d * (B * Y * Y)+97 * c:=by omega
   rw [e0,e1,e2]
   exact ⟨c - b * (X+Y)+a * (X * Y),by grind⟩
  have e1:(if (0:Nat)=0 then x 0 - (X+Y) else x 1 - X * Y)=x 0 - (X+Y):=rfl
  have e2:(if (1:Nat)=0 then x 0 - (X+Y) else x 1 - X * Y)=x 1 - X * Y:=rfl
  rw [e1,e2] at k1
  generalize ip 2 (M s i) (fun j=>if j=0 then x 0 - (X+Y) else x 1 - X * Y)=I at *
  generalize ip 2 (M s i) x=J at *
  obtain ⟨a,ha⟩:=k1
  obtain ⟨b,hb⟩:=k2
  obtain ⟨c,hc⟩:=k3
  refine ⟨a+b+c,?_⟩
  have:I=97 * a+(s (i+1) * (x 0 - (X+Y)) - s i * (x 1 - X * Y)):=by omega
  have e3:s (i+1) * (x 0 - (X+Y)) - s i * (x 1 - X * Y)=(s (i+1) * x 0 - s i * x 1) - (s (i+1) * (X+Y) - s i * (X * Y)):=by grind
  omega
 exact ⟨r _ k 0 (by decide),r _ k 1 (by decide)⟩
def GD (t u:Int) (k:Nat):Bool:=decide ((P 5 k * P 5 k - t * P 5 k+u) % 97=0)
def roots (t u:Int):List Nat:=(List.range 24).filter (GD t u)
theorem P5 (k:Nat):(97:Int) ∣ P 5 k - 5 ^ k:=by
 unfold P
 rw [Int.toNat_natCast]
 exact fb _
theorem KJ {t u X Y:Int} {k:Nat} (ht:(97:Int) ∣ t - (X+Y)) (hu:(97:Int) ∣ u - X * Y):GD t u k=true↔(97:Int) ∣ (5 ^ k - X) * (5 ^ k - Y):=by
 obtain ⟨a,ha⟩:=ht
 obtain ⟨b,hb⟩:=hu
 obtain ⟨c,hc⟩:=P5 k
 unfold GD
 rw [decide_eq_true_iff]
 generalize (5:Int) ^ k=V at *
 have e0:t=X+Y+97 * a:=by omega
 have e1:u=X * Y+97 * b:=by omega
 have e2:P 5 k=V+97 * c:=by omega
 have e3:P 5 k * P 5 k - t * P 5 k+u=(V - X) * (V - Y)+97 * (2 * V * c+97 * c * c - (X+Y) * c - a * (V+97 * c)+b):=by rw [e0,e1,e2];grind
 rw [e3]
 generalize (V - X) * (V - Y)=W
 omega
theorem Ho (t u:Int):(roots t u).length≤2:=by
 apply Classical.byContradiction
 intro h
 have hl:2 < (roots t u).length:=by omega
 have nd:(roots t u).Nodup:=List.Pairwise.filter _ List.nodup_range
 have at_:∀ (i:Nat) (hi:i < (roots t u).length),(roots t u)[i] < 24∧(97:Int) ∣ 5 ^ (roots t u)[i] * 5 ^ (roots t u)[i] - t * 5 ^ (roots t u)[i]+u:=fun i hi=>by
  have hm:(roots t u)[i] ∈ roots t u:=List.getElem_mem _
  generalize (roots t u)[i]=k at hm
  unfold roots at hm
  rw [List.mem_filter,List.mem_range] at hm
  refine ⟨hm.1,?_⟩
  have h2:=of_decide_eq_true hm.2
  obtain ⟨c,hc⟩:=P5 k
  generalize (5:Int) ^ k=V at *
  have e2:P 5 k=V+97 * c:=by omega
  have e3:P 5 k * P 5 k - t * P 5 k+u=V * V - t * V+u+97 * (2 * V * c+97 * c * c - t * c):=by rw [e2];grind
  omega
 obtain ⟨a0,a1⟩:=at_ 0 (by omega)
 obtain ⟨b0,b1⟩:=at_ 1 (by omega)
 obtain ⟨c0,c1⟩:=at_ 2 (by omega)
 have XU:(roots t u)[0]≠(roots t u)[1]:=fun e=>absurd ((List.getElem_inj nd).mp e) (by decide)
 have n02:(roots t u)[0]≠(roots t u)[2]:=fun e=>absurd ((List.getElem_inj nd).mp e) (by decide)
 have XW:(roots t u)[1]≠(roots t u)[2]:=fun e=>absurd ((List.getElem_inj nd).mp e) (by decide)
 have f01:=dZ a0 b0 XU
 have f02:=dZ a0 c0 n02
 have f12:=dZ b0 c0 XW
 generalize (5:Int) ^ (roots t u)[0]=A at *
 generalize (5:Int) ^ (roots t u)[1]=B at *
 generalize (5:Int) ^ (roots t u)[2]=C at *
 have k1:(97:Int) ∣ (A - B) * (A+B - t):=by
  have:=Int.dvd_sub a1 b1
  rwa [show A * A - t * A+u - (B * B - t * B+u)=(A - B) * (A+B - t) by grind] at this
 have k2:(97:Int) ∣ (A - C) * (A+C - t):=by
  have:=Int.dvd_sub a1 c1
  rwa [show A * A - t * A+u - (C * C - t * C+u)=(A - C) * (A+C - t) by grind] at this
 have k3:=prime k1 f01
 have k4:=prime k2 f02
 have:=Int.dvd_sub k3 k4
 rw [show A+B - t - (A+C - t)=B - C by omega] at this
 exact f12 this
theorem Dx:∀ p:Nat,p < 24→∀ q:Nat,q < 24→p < q→(List.range 24).filter (fun k=>decide (k=p∨k=q))=[p,q]:=by decide +kernel
structure KL (s:Nat→Int) (ps:List Nat):Prop where
 nd:ps.Nodup
 b:∀ p ∈ ps,p < 24
 zY:ps.length≤2
 one:∀ (e:Int) (p:Nat),p < 24→¬ (97:Int) ∣ e→(∀ j,j < 4→(97:Int) ∣ s j - e * (5 ^ p) ^ (j+1))→ps=[p]
 two:∀ (e d:Int) (p q:Nat),p < q→q < 24→¬ (97:Int) ∣ e→¬ (97:Int) ∣ d→(∀ j,j < 4→(97:Int) ∣ s j - (e * (5 ^ p) ^ (j+1)+d * (5 ^ q) ^ (j+1)))→ps=[p,q]
theorem Dy {s:Nat→Int} {e X:Int} (h:∀ j,j < 4→(97:Int) ∣ s j - e * X ^ (j+1)) (j:Nat) (hj:j < 3):(97:Int) ∣ s (j+1) - s j * X:=by
 obtain ⟨a,ha⟩:=h j (by omega)
 obtain ⟨b,hb⟩:=h (j+1) (by omega)
 rw [Int.pow_succ X (j+1)] at hb
 generalize X ^ (j+1)=A at *
 have e0:s j=e * A+97 * a:=by omega
 have e1:s (j+1)=e * (A * X)+97 * b:=by omega
 rw [e0,e1]
 exact ⟨b - a * X,by grind⟩
theorem iK {a b:Int} (ha:¬ (97:Int) ∣ a) (hb:¬ (97:Int) ∣ b):¬ (97:Int) ∣ a * b:=fun z=>hb (prime z ha)
theorem Ml {s:Nat→Int} {e d:Int} {p q:Nat} (GB:p < q) (hq:q < 24) (he:¬ (97:Int) ∣ e) (hd:¬ (97:Int) ∣ d) (h:∀ j,j < 4→(97:Int) ∣ s j - (e * (5 ^ p) ^ (j+1)+d * (5 ^ q) ^ (j+1))):vk 2 (M s):=by
 refine Dw fun z=>?_
 have k:=Int.dvd_sub z (Mj h)
 rw [Int.sub_sub_self] at k
 have f:=dZ (by omega:p < 24) hq (by omega)
 exact iK (iK (iK he hd) (iK (fc jA p) (fc jA q))) (iK f f) k
theorem KN {s x:Nat→Int} (r:vk 2 (M s)) (hx:∀ i,i < 2→(97:Int) ∣ ip 2 (M s i) x - s (i+2)):KL s (roots (x 0) (x 1)) where
 nd:=List.Pairwise.filter _ List.nodup_range
 b:=fun p hp=>List.mem_range.mp (List.mem_filter.mp hp).1
 zY:=Ho _ _
 one:=fun e p hp he h=>absurd r (Mi (X:=5 ^ p) (Dy h 0 (by decide)) (Dy h 1 (by decide)))
 two:=fun e d p q GB hq he hd h=>by
  obtain ⟨ht,hu⟩:=KI r h hx
  rw [← Dx p (by omega) q hq GB]
  unfold roots
  apply List.filter_congr
  intro k hk
  have Zk:=List.mem_range.mp hk
  rw [Bool.eq_iff_iff,KJ ht hu,decide_eq_true_iff]
  constructor
  ·intro z
   apply Classical.byContradiction
   intro n
   exact iK (dZ Zk (by omega) fun e=>n (.inl e)) (dZ Zk hq fun e=>n (.inr e)) z
  ·rintro (e | e)
   ·rw [e,Int.sub_self,Int.zero_mul];exact Int.dvd_zero _
   ·rw [e,Int.sub_self,Int.mul_zero];exact Int.dvd_zero _
def oA (s:Nat→Int):List Nat:=if s 0=0∨s 1=0 then [] else if ex (s 1 * P (s 0) 95 % 97) < 24 then [(ex (s 1 * P (s 0) 95 % 97)).toNat] else []
theorem QN:∀ p:Nat,p < 24→ex ((5:Int) ^ p % 97)=p:=by decide +kernel
theorem Mm {s:Nat→Int} (bs:∀ j,j < 4→0≤s j∧s j < 97) (r:¬ vk 2 (M s)):KL s (oA s) where
 nd:=by
  unfold oA
  split
  ·exact List.nodup_nil
  ·split <;> simp
 b:=fun p hp=>by
  unfold oA at hp
  split at hp
  ·cases hp
  ·split at hp
   ·have:=List.mem_singleton.mp hp
    rename_i h
    have:=J9 (s 1 * P (s 0) 95 % 97)
    omega
   ·cases hp
 zY:=by
  unfold oA
  split
  ·exact Nat.zero_le _
  ·split <;> simp
 one:=fun e p hp he h=>by
  have b0:=bs 0 (by decide)
  have b1:=bs 1 (by decide)
  have u0:¬ (97:Int) ∣ s 0:=fun z=>by
   have:=Int.dvd_sub z (h 0 (by decide))
   rw [Int.sub_sub_self] at this
   exact iK he (fc (fc jA p) _) this
  have u1:¬ (97:Int) ∣ s 1:=fun z=>by
   have:=Int.dvd_sub z (h 1 (by decide))
   rw [Int.sub_sub_self] at this
   exact iK he (fc (fc jA p) _) this
  have n0:s 0≠0:=fun z=>u0 (by rw [z];exact Int.dvd_zero _)
  have n1:s 1≠0:=fun z=>u1 (by rw [z];exact Int.dvd_zero _)
  have hv:s 1 * P (s 0) 95 % 97=5 ^ p % 97:=by
   have k:=Dy h 0 (by decide)
   have i:=OZ (a:=s 0) (by omega) b0.2
   obtain ⟨c,hc⟩:=k
   have e1:s 1=s 0 * 5 ^ p+97 * c:=by
    have:s (0+1)=s 1:=rfl
    omega
   have e2:P (s 0) 95 * s 0=1+97 * (P (s 0) 95 * s 0 / 97):=by omega
   generalize P (s 0) 95 * s 0 / 97=m at e2
   generalize (5:Int) ^ p=V at *
   have e3:s 1 * P (s 0) 95=V+97 * (m * V+c * P (s 0) 95):=by
    rw [e1]
    have:(s 0 * V+97 * c) * P (s 0) 95=(P (s 0) 95 * s 0) * V+97 * (c * P (s 0) 95):=by grind
    rw [this,e2];grind
   omega
  unfold oA
  rw [if_neg (by omega),hv,QN p hp,if_pos (by omega),Int.toNat_natCast]
 two:=fun e d p q GB hq he hd h=>absurd (Ml GB hq he hd h) r
structure qV (f g:Nat→Int):Prop where
 b:∀ i,i < 24→0≤g i∧g i < 97
 sealed:bu g
 zY:(el 24 f g).length≤2
theorem zd {f g:Nat→Int} (h:qV f g) {j:Nat} (hj:j < 6):(97:Int) ∣ T (St j) 24 f - lsum (el 24 f g) fun i=>(f i - g i) * St j ^ i:=by
 rw [← CJ]
 have h1:=tS.mp (h.sealed j hj)
 unfold T
 omega
theorem CL {f g:Nat→Int} {ps:List Nat} (bf:∀ i,i < 24→0≤f i∧f i < 97) (h:qV f g) (hn:¬ bu f) (hp:KL (fun j=>T (St j) 24 f) ps):ps=el 24 f g:=by
 have hs:=fun (j:Nat) (hj:j < 4)=>zd h (show j < 6 by omega)
 have hm:∀ i,i ∈ el 24 f g→i < 24∧¬ (97:Int) ∣ f i - g i:=fun i hi=>by
  obtain ⟨h1,h2⟩:=cC.mp hi
  have:=bf i h1
  have:=h.b i h1
  exact ⟨h1,by omega⟩
 have so:=CK 24 f g
 have zY:=h.zY
 match hl:el 24 f g with
 | [] =>
  exfalso
  refine hn (h.sealed.congr fun i hi=>?_)
  apply Classical.byContradiction
  intro z
  have:=cC.mpr ⟨hi,fun e=>z e.symm⟩
  rw [hl] at this
  cases this
 | [p] =>
  rw [hl] at hs hm
  obtain ⟨p0,p1⟩:=hm p (by simp)
  refine hp.one (f p - g p) p p0 p1 fun j hj=>?_
  have k:=hs j hj
  have e:lsum [p] (fun i=>(f i - g i) * St j ^ i)=(f p - g p) * St j ^ p:=by simp [lsum,sumTo]
  rw [e] at k
  obtain ⟨c,hc⟩:=sD (p:=p) (show j < 6 by omega)
  obtain ⟨a,ha⟩:=k
  generalize St j ^ p=A at *
  generalize ((5:Int) ^ p) ^ (j+1)=B at *
  have e2:A=B+97 * c:=by omega
  rw [e2] at ha
  exact ⟨a+(f p - g p) * c,by
   have:(f p - g p) * (B+97 * c)=(f p - g p) * B+97 * ((f p - g p) * c):=by grind
   omega⟩
 | [p,q] =>
  rw [hl] at hs hm so
  obtain ⟨p0,p1⟩:=hm p (by simp)
  obtain ⟨q0,q1⟩:=hm q (by simp)
  have GB:p < q:=by simpa using so
  refine hp.two (f p - g p) (f q - g q) p q GB q0 p1 q1 fun j hj=>?_
  have k:=hs j hj
  have e:lsum [p,q] (fun i=>(f i - g i) * St j ^ i)=(f p - g p) * St j ^ p+(f q - g q) * St j ^ q:=by simp [lsum,sumTo]
  rw [e] at k
  obtain ⟨c,hc⟩:=sD (p:=p) (show j < 6 by omega)
  obtain ⟨d,hd⟩:=sD (p:=q) (show j < 6 by omega)
  obtain ⟨a,ha⟩:=k
  generalize St j ^ p=A at *
  generalize ((5:Int) ^ p) ^ (j+1)=B at *
  generalize St j ^ q=C at *
  generalize ((5:Int) ^ q) ^ (j+1)=D at *
  have e2:A=B+97 * c:=by omega
  have e3:C=D+97 * d:=by omega
  rw [e2,e3] at ha
  exact ⟨a+(f p - g p) * c+(f q - g q) * d,by
   have:(f p - g p) * (B+97 * c)=(f p - g p) * B+97 * ((f p - g p) * c):=by grind
   have:(f q - g q) * (D+97 * d)=(f q - g q) * D+97 * ((f q - g q) * d):=by grind
   omega⟩
 | _ :: _ :: _ :: _=>rw [hl] at zY;simp at zY
def wZ (f:Nat→Int) (ps:List Nat) (x:Nat→Int):Nat→Nat→Int
 | 0=>f
 | k+1=>fun j=>if j=ps.getD k 0 then (wZ f ps x k (ps.getD k 0) - x k) % 97 else wZ f ps x k j
theorem KO {f:Nat→Int} (ps:List Nat) (x:Nat→Int) (bf:∀ i,i < 24→0≤f i∧f i < 97):∀ k i,i < 24→0≤wZ f ps x k i∧wZ f ps x k i < 97
 | 0,i,hi=>bf i hi
 | k+1,i,hi=>by
  unfold wZ
  split
  ·exact ⟨Int.emod_nonneg _ (by decide),Int.emod_lt_of_pos _ (by decide)⟩
  ·exact KO ps x bf k i hi
theorem AZ (f:Nat→Int) (ps:List Nat) (x:Nat→Int):∀ k,k≤ps.length→∀ i,i ∉ ps→wZ f ps x k i=f i
 | 0,_,i,_=>rfl
 | k+1,hk,i,hi=>by
  unfold wZ
  rw [if_neg fun e=>hi (by rw [e];simp [List.getD,show k < ps.length by omega]),AZ f ps x k (by omega) i hi]
theorem getD_get {ps:List Nat} {k:Nat} (h:k < ps.length):ps.getD k 0=ps[k]:=by simp [List.getD,h]
theorem KP (f:Nat→Int) {ps:List Nat} (nd:ps.Nodup) (x:Nat→Int):∀ k,k≤ps.length→(∀ i,i < k→wZ f ps x k (ps.getD i 0)=(f (ps.getD i 0) - x i) % 97)∧∀ i,k≤i→i < ps.length→wZ f ps x k (ps.getD i 0)=f (ps.getD i 0)
 | 0,_=>⟨fun i hi=>by omega,fun i _ _=>rfl⟩
 | k+1,hk=>by
  obtain ⟨h1,h2⟩:=KP f nd x k (by omega)
  have ne:∀ i,i < ps.length→i≠k→ps.getD i 0≠ps.getD k 0:=fun i hi hik e=>by
   rw [getD_get hi,getD_get (by omega)] at e
   exact hik ((List.getElem_inj nd).mp e)
  refine ⟨fun i hi=>?_,fun i hi hl=>?_⟩
  ·unfold wZ
   by_cases e:i=k
   ·subst e
    rw [if_pos rfl,h2 i (Nat.le_refl _) (by omega)]
   ·rw [if_neg (ne i (by omega) e),h1 i (by omega)]
  ·unfold wZ
   rw [if_neg (ne i hl (by omega)),h2 i (by omega) hl]
theorem GF {ps:List Nat} (nd:ps.Nodup) (hb:∀ p ∈ ps,p < 24):vk ps.length (fun i q=>P 5 ((ps.getD q 0:Nat) * (1+(i:Int)))):=by
 have hg:∀ q,q < ps.length→ps.getD q 0 < 24:=fun q hq=>by rw [getD_get hq];exact hb _ (List.getElem_mem _)
 refine (vk.congr (b:=fun i q=>((5:Int) ^ ps.getD q 0) ^ (i+1)) fun i q hi hq=>?_).mpr ?_
 ·have e:((ps.getD q 0:Nat) * (1+(i:Int))).toNat=ps.getD q 0 * (i+1):=by
   have:((ps.getD q 0:Nat):Int) * (1+(i:Int))=((ps.getD q 0 * (i+1):Nat):Int):=by rw [Int.natCast_mul,Int.natCast_add];congr 1;omega
   rw [this,Int.toNat_natCast]
  show (97:Int) ∣ (5:Int) ^ ((ps.getD q 0:Nat) * (1+(i:Int))).toNat % 97 - _
  rw [e,Int.pow_mul]
  exact fb _
 ·intro z hz i hi
  refine Du ps.length (fun q=>(5:Int) ^ ps.getD q 0) z (fun i _=>fc jA _) (fun i j hi hj XS=>dZ (hg i hi) (hg j hj) fun e=>?_) hz i hi
  rw [getD_get hi,getD_get hj] at e
  exact XS ((List.getElem_inj nd).mp e)
theorem Tf {n:Nat} {a:nY} {b x y:Nat→Int} (hr:vk n a) (hx:∀ i,i < n→(97:Int) ∣ ip n (a i) x - b i) (hy:∀ i,i < n→(97:Int) ∣ ip n (a i) y - b i):∀ i,i < n→(97:Int) ∣ x i - y i:=by
 intro i hi
 refine hr (fun j=>x j - y j) (fun i hi=>?_) i hi
 have e:ip n (a i) (fun j=>x j - y j)=ip n (a i) x - ip n (a i) y:=by
  have:=dQ 1 (-1) (fun j=>a i j * x j) (fun j=>a i j * y j) n
  unfold ip
  rw [show sumTo n (fun j=>a i j * (x j - y j))=sumTo n (fun j=>1 * (a i j * x j)+-1 * (a i j * y j)) from bJ n fun j _=>by grind,this]
  omega
 rw [e]
 have:=Int.dvd_sub (hx i hi) (hy i hi)
 rwa [show ip n (a i) x - b i - (ip n (a i) y - b i)=ip n (a i) x - ip n (a i) y by omega] at this
theorem Dz {f g x:Nat→Int} {ps:List Nat} (bf:∀ i,i < 24→0≤f i∧f i < 97) (h:qV f g) (hn:¬ bu f) (hp:KL (fun j=>T (St j) 24 f) ps)
  (hx:∀ i,i < ps.length→(97:Int) ∣ ip ps.length (fun q=>P 5 ((ps.getD q 0:Nat) * (1+(i:Int)))) x - T (St i) 24 f):∀ i,i < 24→wZ f ps x ps.length i=g i:=by
 have e:=CL bf h hn hp
 have zY:=hp.zY
 have hy:∀ i,i < ps.length→(97:Int) ∣ ip ps.length (fun q=>P 5 ((ps.getD q 0:Nat) * (1+(i:Int)))) (fun q=>f (ps.getD q 0) - g (ps.getD q 0)) - T (St i) 24 f:=fun i hi=>by
  have k:=zd h (j:=i) (by omega)
  rw [← e] at k
  have k2:(97:Int) ∣ ip ps.length (fun q=>P 5 ((ps.getD q 0:Nat) * (1+(i:Int)))) (fun q=>f (ps.getD q 0) - g (ps.getD q 0)) - lsum ps fun i'=>(f i' - g i') * St i ^ i':=by
   have h1:=dQ 1 (-1) (fun q=>P 5 ((ps.getD q 0:Nat) * (1+(i:Int))) * (f (ps.getD q 0) - g (ps.getD q 0))) (fun q=>(f (ps.getD q 0) - g (ps.getD q 0)) * St i ^ ps.getD q 0) ps.length
   have h2:(97:Int) ∣ sumTo ps.length fun q=>1 * (P 5 ((ps.getD q 0:Nat) * (1+(i:Int))) * (f (ps.getD q 0) - g (ps.getD q 0)))+-1 * ((f (ps.getD q 0) - g (ps.getD q 0)) * St i ^ ps.getD q 0):=gY _ fun q _=>by
    have ee:((ps.getD q 0:Nat) * (1+(i:Int))).toNat=ps.getD q 0 * (i+1):=by
     have:((ps.getD q 0:Nat):Int) * (1+(i:Int))=((ps.getD q 0 * (i+1):Nat):Int):=by rw [Int.natCast_mul,Int.natCast_add];congr 1;omega
     rw [this,Int.toNat_natCast]
    have h3:(97:Int) ∣ P 5 ((ps.getD q 0:Nat) * (1+(i:Int))) - (5 ^ ps.getD q 0) ^ (i+1):=by
     unfold P
     rw [ee,Int.pow_mul]
     exact fb _
    obtain ⟨a,ha⟩:=h3
    obtain ⟨c,hc⟩:=sD (p:=ps.getD q 0) (show i < 6 by omega)
    generalize P 5 ((ps.getD q 0:Nat) * (1+(i:Int)))=A at *
    generalize ((5:Int) ^ ps.getD q 0) ^ (i+1)=B at *
    generalize St i ^ ps.getD q 0=C at *
    have e1:A=B+97 * a:=by omega
    have e2:C=B+97 * c:=by omega
    rw [e1,e2]
    exact ⟨(f (ps.getD q 0) - g (ps.getD q 0)) * (a - c),by grind⟩
   rw [h1] at h2
   have e5:∀ a b:Int,1 * a+-1 * b=a - b:=fun a b=>by omega
   rw [e5] at h2
   exact h2
  have:=Int.dvd_sub k2 k
  omega
 have hu:=Tf (GF hp.nd hp.b) hx hy
 intro i hi
 by_cases hm:i ∈ ps
 ·obtain ⟨k,hk,rfl⟩:=List.getElem_of_mem hm
  have h1:=(KP f hp.nd x ps.length (Nat.le_refl _)).1 k hk
  rw [getD_get hk] at h1
  rw [h1]
  have h2:=hu k hk
  rw [getD_get hk] at h2
  have h3:=h.b ps[k] hi
  omega
 ·rw [AZ f ps x ps.length (Nat.le_refl _) i hm]
  apply Classical.byContradiction
  intro z
  exact hm (by rw [e];exact cC.mpr ⟨hi,z⟩)
theorem D6 {f x:Nat→Int} {ps:List Nat} (bf:∀ i,i < 24→0≤f i∧f i < 97) (nd:ps.Nodup) (zY:ps.length≤2) (hs:bu (wZ f ps x ps.length)):qV f (wZ f ps x ps.length) where
 b:=KO ps x bf ps.length
 sealed:=hs
 zY:=Nat.le_trans (gc _ ps (gZ _ _ _) fun i hi=>by
  apply Classical.byContradiction
  intro z
  exact (cC.mp hi).2 (AZ f ps x ps.length (Nat.le_refl _) i z).symm) zY
theorem qV.self {f:Nat→Int} (bf:∀ i,i < 24→0≤f i∧f i < 97) (h:bu f):qV f f:=⟨bf,h,by
 have e:el 24 f f=[]:=by simp [el]
 rw [e];exact Nat.zero_le _⟩
end My
set_option genInjectivity false
namespace K35
open PySem L2 PyProof.Rows
theorem zz0:0≤sizeLine:=by decide
theorem zz1:1≤sizeLine:=by decide
theorem zz2:2≤sizeLine:=by decide
theorem zz3:3≤sizeLine:=by decide
theorem zz4:4≤sizeLine:=by decide
theorem zz6:6≤sizeLine:=by decide
theorem zz7:7≤sizeLine:=by decide
def top (i:Nat):Stmt:=PySem.Challenge.pw_stormpost_k35_whole_up_within_three_quie.main.body.getD i (.Pass ⟨0,0,0,0⟩)
abbrev pT:Stmt:=top 11
abbrev kE:Stmt:=top 12
abbrev kF:Stmt:=top 13
abbrev vm:Stmt:=top 14
abbrev pU:Stmt:=top 15
abbrev mD:Stmt:=top 16
abbrev jO:Stmt:=top 17
abbrev iE:Stmt:=top 18
abbrev kG:Stmt:=top 19
abbrev jP:Stmt:=top 20
abbrev jB:Stmt:=top 21
abbrev lK:Stmt:=top 22
abbrev iy:Stmt:=top 28
abbrev kH:Stmt:=top 29
abbrev mE:Stmt:=top 30
abbrev jQ:Stmt:=top 31
abbrev kI:Stmt:=top 32
abbrev lL:Stmt:=top 33
abbrev oB:Stmt:=top 34
abbrev kJ:Stmt:=top 38
abbrev fe:Stmt:=top 39
abbrev mF:Stmt:=top 40
abbrev iz:Stmt:=top 42
abbrev pV:Stmt:=top 43
abbrev dO:Stmt:=top 44
abbrev jR:Stmt:=top 45
abbrev sE:Stmt:=top 46
abbrev ff:Stmt:=top 48
abbrev fg:Stmt:=top 49
abbrev i6:Stmt:=top 59
abbrev kK:Stmt:=top 62
abbrev fh:Stmt:=top 63
abbrev fj:Stmt:=top 64
abbrev fk:Stmt:=top 65
abbrev kL:Stmt:=top 66
abbrev iF:Stmt:=top 67
abbrev kM:Stmt:=top 68
abbrev fo:Stmt:=top 69
abbrev iL:Stmt:=top 70
abbrev fq:Stmt:=top 71
abbrev da:Stmt:=top 72
abbrev qB:Stmt:=top 73
def dI:Stmt→List Stmt
 | .ClassDef _ _ _ b _ _ _ _ _ _ _=>b
 | _=>[]
abbrev tU:Stmt:=(dI (top 60)).getD 0 (.Pass ⟨0,0,0,0⟩)
abbrev cT:Stmt:=(dI (top 60)).getD 1 (.Pass ⟨0,0,0,0⟩)
abbrev oC:Stmt:=(dI (top 60)).getD 2 (.Pass ⟨0,0,0,0⟩)
abbrev di:Stmt:=(dI (top 60)).getD 3 (.Pass ⟨0,0,0,0⟩)
abbrev tV:Stmt:=(dI (top 60)).getD 4 (.Pass ⟨0,0,0,0⟩)
abbrev tW:Stmt:=(dI (top 60)).getD 5 (.Pass ⟨0,0,0,0⟩)
abbrev jC:Stmt:=(dI (top 60)).getD 6 (.Pass ⟨0,0,0,0⟩)
abbrev lM:Stmt:=(dI (top 60)).getD 7 (.Pass ⟨0,0,0,0⟩)
abbrev dj:Stmt:=(dI (top 60)).getD 8 (.Pass ⟨0,0,0,0⟩)
abbrev dk:Stmt:=(dI (top 60)).getD 9 (.Pass ⟨0,0,0,0⟩)
abbrev dm:Stmt:=(dI (top 60)).getD 10 (.Pass ⟨0,0,0,0⟩)
abbrev ze:Stmt:=(dI (top 60)).getD 11 (.Pass ⟨0,0,0,0⟩)
abbrev Hq:Stmt:=(dI (top 60)).getD 12 (.Pass ⟨0,0,0,0⟩)
abbrev vn:Stmt:=(dI (top 60)).getD 13 (.Pass ⟨0,0,0,0⟩)
abbrev lN:Stmt:=(dI (top 60)).getD 14 (.Pass ⟨0,0,0,0⟩)
structure Ad where
 BadCell:Addr
 BadMeasure:Addr
 BadPiece:Addr
 BadSign:Addr
 DIVISOR:Addr
 LinkEnd:Addr
 NoLink:Addr
 init:Addr
 cU:Addr
 wa:Addr
 fu:Addr
 wb:Addr
 wc:Addr
 lO:Addr
 lP:Addr
 fv:Addr
 fw:Addr
 fz:Addr
 CM:Addr
 KQ:Addr
 GG:Addr
 oE:Addr
structure Txt (K:PySem.W.Frag) (mg:Str→Option Value) (t:Ad):Prop where
 sF:∃ tk,mg "BIRTH_SIGNS"=some (.int 2 tk)
 Hs:∃ tk,mg "COUNT_AT"=some (.int 5 tk)
 sG:∃ tk,mg "FREE_PLACES"=some (.int 18 tk)
 zh:∃ tk,mg "KNOWN_AT"=some (.int 2 tk)
 D7:∃ tk,mg "LENGTH_AT"=some (.int 6 tk)
 oF:∃ tk,mg "LONGEST_PIECE"=some (.int 10 tk)
 wd:∃ tk,mg "MOST_LATE"=some (.int 6 tk)
 wg:∃ tk,mg "MOST_LOST"=some (.int 4 tk)
 pW:∃ tk,mg "NO_BIRTH"=some (.int 0 tk)
 wj:∃ tk,mg "NUMBER_AT"=some (.int 4 tk)
 zk:∃ tk,mg "PIECE_AT"=some (.int 7 tk)
 Aa:∃ tk,mg "PLACES"=some (.int 24 tk)
 GH:∃ tk,mg "ROOT"=some (.int 5 tk)
 cQ:∃ tk,mg "SIGNS"=some (.int 97 tk)
 GI:∃ tk,mg "SUMS"=some (.int 6 tk)
 Od:mg "int"=none
 f6:mg "len"=none
 qW:mg "list"=none
 Oe:mg "max"=none
 cI:mg "range"=none
 wk:mg "reversed"=none
 Mn:mg "tuple"=none
 GJ:mg "zip"=none
 CN:mg "BadCell"=some (.ref t.BadCell)
 uq:mg "BadMeasure"=some (.ref t.BadMeasure)
 zl:mg "BadPiece"=some (.ref t.BadPiece)
 wm:mg "BadSign"=some (.ref t.BadSign)
 KR:mg "DIVISOR"=some (.ref t.DIVISOR)
 CO:mg "LinkEnd"=some (.ref t.LinkEnd)
 Mo:mg "NoLink"=some (.ref t.NoLink)
 CP:PySem.W.excIn K t.BadCell [.type "ValueError",.type "Exception",.type "BaseException",.type "object"] "ValueError.__new__"=true
 Tg:tM K t.BadCell
 uu:PySem.W.excIn K t.BadMeasure [.type "ValueError",.type "Exception",.type "BaseException",.type "object"] "ValueError.__new__"=true
 Of:tM K t.BadMeasure
 zm:PySem.W.excIn K t.BadPiece [.type "ValueError",.type "Exception",.type "BaseException",.type "object"] "ValueError.__new__"=true
 Rb:tM K t.BadPiece
 wo:PySem.W.excIn K t.BadSign [.type "ValueError",.type "Exception",.type "BaseException",.type "object"] "ValueError.__new__"=true
 Th:tM K t.BadSign
 Mp:PySem.W.excIn K t.NoLink [.type "ValueError",.type "Exception",.type "BaseException",.type "object"] "ValueError.__new__"=true
 Vi:tM K t.NoLink
 CQ:QG K t.DIVISOR [V.int (21),V.int (80),V.int (53),V.int (2),V.int (55),V.int (63)]
 CS:Mk K t.LinkEnd t.init
 fi:∃ fd,lF K "__init__" "LinkEnd.__init__" tU t.init fd
 aO:HE K t.LinkEnd
 wq:dG K t.LinkEnd "quiet"
 GK:dG K t.LinkEnd "side"
 vo:dG K t.LinkEnd "done"
 mG:dG K t.LinkEnd "unheard"
 lQ:dG K t.LinkEnd "birth"
 f7:dG K t.LinkEnd "known"
 f9:dG K t.LinkEnd "pair"
 mH:dG K t.LinkEnd "told"
 jD:dG K t.LinkEnd "pieces"
 mI:dG K t.LinkEnd "offered"
 oG:dG K t.LinkEnd "taken"
 lR:ny K t.LinkEnd "forget_pieces" t.cU
 vM:∃ fd,lF K "forget_pieces" "LinkEnd.forget_pieces" cT t.cU fd
 Mq:ny K t.LinkEnd "tick" t.wa
 QO:∃ fd,lF K "tick" "LinkEnd.tick" oC t.wa fd
 yH:ny K t.LinkEnd "cell_given" t.fu
 Ab:∃ fd,lF K "cell_given" "LinkEnd.cell_given" di t.fu fd
 Mr:ny K t.LinkEnd "read" t.wb
 QP:∃ fd,lF K "read" "LinkEnd.read" tV t.wb fd
 Ms:ny K t.LinkEnd "meet" t.wc
 QQ:∃ fd,lF K "meet" "LinkEnd.meet" tW t.wc fd
 D8:ny K t.LinkEnd "come_up" t.lO
 Ht:∃ fd,lF K "come_up" "LinkEnd.come_up" jC t.lO fd
 zo:ny K t.LinkEnd "end_up" t.lP
 KS:∃ fd,lF K "end_up" "LinkEnd.end_up" lM t.lP fd
 yI:ny K t.LinkEnd "start_over" t.fv
 Ac:∃ fd,lF K "start_over" "LinkEnd.start_over" dj t.fv fd
 yJ:ny K t.LinkEnd "hear_count" t.fw
 Ae:∃ fd,lF K "hear_count" "LinkEnd.hear_count" dk t.fw fd
 yK:ny K t.LinkEnd "take_piece" t.fz
 Af:∃ fd,lF K "take_piece" "LinkEnd.take_piece" dm t.fz fd
 QR:ny K t.LinkEnd "put" t.CM
 Ti:∃ fd,lF K "put" "LinkEnd.put" ze t.CM fd
 zp:ny K t.LinkEnd "up" t.KQ
 XX:∃ fd,lF K "up" "LinkEnd.up" Hq t.KQ fd
 Tj:ny K t.LinkEnd "waits" t.GG
 Vj:∃ fd,lF K "waits" "LinkEnd.waits" vn t.GG fd
 Hu:ny K t.LinkEnd "events" t.oE
 KU:∃ fd,lF K "events" "LinkEnd.events" lN t.oE fd
section
variable {P:Program} {w:World} {K:PySem.W.Frag} {mg:Str→Option Value} {base:Heap} {t:Ad}
def mJ:Sp:=fun vs H Q _=>∃ n:Int,vs=[.int n]∧Q (.bl (decide (0≤n∧n < 97))) H
theorem D9:aV ["number"] ["number"] (aI pT):=⟨rfl,rfl,rfl,by decide +kernel,rfl,by decide +kernel,by decide +kernel⟩
theorem EA (F:aT K mg "is_sign" pT) (T:Txt K mg t):Def P w K mg base 1 "is_sign" ["number"] mJ:=by
 refine F.def D9 (fun _ _ _ _ _ _ us hl=>match us,hl with | [_],_=>rfl) (fun vs H Q E h=>?_) (fun f bw A outer s H vs Q E hr h=>?_)
 ·obtain ⟨n,rfl,_⟩:=h
  rfl
 ·obtain ⟨n,rfl,q⟩:=h
  refine ⟨_,aJ (ai (JU vz jJ aG (pv 0) (aW T.cQ))),?_⟩
  refine ⟨_,rfl,_,_,rfl,rfl,_,rfl,?_⟩
  by_cases h0:0≤n
  ·rw [decide_eq_true h0]
   refine iu ⟨_,_,rfl,rfl,?_⟩
   have e:decide (n < 97)=decide (0≤n∧n < 97):=by simp [h0]
   show Q (.bl (decide (n < 97))) H
   rw [e]
   exact q
  ·rw [decide_eq_false h0]
   refine iI ?_
   have e:false=decide (0≤n∧n < 97):=by simp [h0]
   show Q (.bl false) H
   rw [e]
   exact q
def CT (m:Int) (ns:List Int):Prop:=(ns.length:Int)=m∧∀ n ∈ ns,0≤n∧n < 97
def kU (K:PySem.W.Frag) (C:Addr):Sp:=fun vs H Q E=>∃ (l:Addr) (ns:List Int) (m:Int),vs=[.ref l,.int m]∧ae K H l (ns.map V.int)∧(∀ n ∈ ns,n.natAbs < 2 ^ 1000)∧m.natAbs < 2 ^ 1000 ∧
 (CT m ns→Q .cB H)∧(¬ CT m ns→E (.ref C) none H)
theorem gB {i:Int} (h:i.natAbs < 2 ^ 1000):(Str.ofString (toString i)).length≤1001:=by
 have hl:i.natAbs.log2 < 1000:=by
  by_cases z:i.natAbs=0
  ·rw [z];decide
  ·exact (Nat.log2_lt z).mpr h
 have e:=int_text_length_le (k:=1000) (by decide) hl
 rw [PySem.ofString_length];omega
theorem qC:aV ["signs","many","sign"] ["signs","many"] (aI iy):=⟨rfl,rfl,rfl,by decide +kernel,rfl,by decide +kernel,by decide +kernel⟩
theorem yL (F:aT K mg "look_signs" iy) (T:Txt K mg t) (gd:Def P w K mg base 1 "is_sign" ["number"] mJ):Def P w K mg base 2 "look_signs" ["signs","many"] (kU K t.BadCell):=by
 refine F.def qC (fun _ _ _ _ _ _ us hl=>match us,hl with | [_,_],_=>rfl) (fun vs H Q E h=>?_) (fun f bw A outer s H vs Q E hr h=>?_)
 ·obtain ⟨l,ns,m,rfl,_⟩:=h
  rfl
 ·obtain ⟨l,ns,m,rfl,hl,hb,hm,q1,q2⟩:=h
  refine ⟨_,aE (bO (aZ Bg (bR (bM K) (by rfl) T.f6 boot_len (aC (pv 0) aF)) (pv 1) (af _))
    (aJ (eY bE rfl rfl T.CN T.CP PySem.F.excBase_ValueError (aC (j9 (bY (fZ (pv 1)) (bY cy n8))) aF)))
    (aq))
   (aJ (cP (P4 bE) rfl (bj K (pv 0)) (aw (i:=2) qC.nd rfl (Or.inl rfl))
    (aJ (bO (qO (tH (aY (gd.mono (by decide)) hr ao (aC (pv 2) aF))))
     (aJ (eY bE rfl rfl T.CN T.CP PySem.F.excBase_ValueError (aC (j9 (bY (fZ (pv 2)) (bY cy n8))) aF)))
     (aq))))),?_⟩
  have sl:(2000:Nat)≤sizeLine:=by decide
  refine ⟨_,rfl,l,_,rfl,.inl hl,_,rfl,rfl,_,rfl,?_⟩
  by_cases hlen:(ns.length:Int)=m
  ·refine zU (by rw [List.length_map,hlen]) ?_
   refine ⟨_,rfl,l,rfl,⟨_,hl⟩,lG (K:=K) (a:=l) (xs:=ns.map V.int) (fun i σ H'=>∃ x:Option V,σ=[some (.ref l),some (.int m),x]∧H'=H∧∀ n ∈ ns.take i,0≤n∧n < 97) ⟨none,rfl,rfl,fun n hn=>by simp at hn⟩ (fun i σ H' _ ⟨_,_,e,_⟩=>by rw [e];exact hl) ?_ ?_⟩
   ·rintro i y σ H' hi ⟨x,rfl,rfl,ha⟩
    obtain ⟨z,hz,rfl⟩:=mB hi
    have QS:z ∈ ns:=List.mem_of_getElem? hz
    refine ⟨_,rfl,z,rfl,_,rfl,?_⟩
    by_cases h0:0≤z∧z < 97
    ·rw [decide_eq_true h0]
     refine iI ⟨some (.int z),rfl,rfl,?_⟩
     rw [take_succ hz]
     intro n hn
     rcases List.mem_append.mp hn with z1 | z1
     ·exact ha n z1
     ·rw [List.mem_singleton.mp z1];exact h0
    ·rw [decide_eq_false h0]
     refine iu ?_
     have Zl:=gB (hb z QS)
     have e0:(Str.empty ++ Str.ofString (toString z)).length≤1001:=by rw [strLen_append];show 0+_≤1001;omega
     have e1:((Str.empty ++ Str.ofString (toString z)) ++ (" is no sign":Str)).length≤2000:=by
      have:(" is no sign":Str).length=11:=by decide +kernel
      rw [strLen_append];omega
     refine ⟨_,rfl,z,rfl,dR (hb z QS) (by decide) (by decide),_,rfl,by omega,_,rfl,by omega,by omega,?_⟩
     exact ⟨zz1,q2 fun r=>h0 (r.2 z QS)⟩
   ·rintro σ H' ⟨x,rfl,rfl,ha⟩
    rw [List.length_map,List.take_length] at ha
    exact q1 ⟨hlen,ha⟩
  ·refine zV (fun e=>hlen (by have:=V.int.inj e;rwa [List.length_map] at this)) ?_
   have Zl:=gB hm
   have e0:(Str.empty ++ Str.ofString (toString m)).length≤1001:=by rw [strLen_append];show 0+_≤1001;omega
   have e1:((Str.empty ++ Str.ofString (toString m)) ++ (" signs are asked for here":Str)).length≤2000:=by
    have:(" signs are asked for here":Str).length=25:=by decide +kernel
    rw [strLen_append];omega
   refine ⟨_,rfl,m,rfl,dR hm (by decide) (by decide),_,rfl,by omega,_,rfl,by omega,by omega,?_⟩
   exact ⟨zz1,q2 fun r=>hlen r.1⟩
structure IsCell (n:Nat) (f:Nat→Int):Prop where
 b:∀ i,i < n→0≤f i∧f i < 97
theorem IsCell.row {n:Nat} {f:Nat→Int} (h:IsCell n f):CT n ((List.range n).map f):=by
 refine ⟨by simp,fun x hx=>?_⟩
 obtain ⟨i,hi,rfl⟩:=List.mem_map.mp hx
 exact h.b i (List.mem_range.mp hi)
theorem IsCell.Zm {n:Nat} {f:Nat→Int} (h:IsCell n f):∀ x ∈ (List.range n).map f,x.natAbs < 2 ^ 1000:=fun x hx=>by
 obtain ⟨i,hi,rfl⟩:=List.mem_map.mp hx
 have:=h.b i (List.mem_range.mp hi)
 exact dg (by omega) (by omega)
def sH (K:PySem.W.Frag) (C:Addr):Sp:=fun vs H Q E=>∃ (l:Addr) (ns:List Int),vs=[.ref l]∧ae K H l (ns.map V.int)∧(∀ n ∈ ns,n.natAbs < 2 ^ 1000) ∧
 (CT 24 ns→Q .cB H)∧(¬ CT 24 ns→E (.ref C) none H)
theorem Ag:aV ["cell"] ["cell"] (aI kH):=⟨rfl,rfl,rfl,by decide +kernel,rfl,by decide +kernel,by decide +kernel⟩
theorem Ah (F:aT K mg "look_cell" kH) (T:Txt K mg t) (dq:Def P w K mg base 2 "look_signs" ["signs","many"] (kU K t.BadCell)):Def P w K mg base 3 "look_cell" ["cell"] (sH K t.BadCell):=by
 refine F.def Ag (fun _ _ _ _ _ _ us hl=>match us,hl with | [_],_=>rfl) (fun vs H Q E h=>?_) (fun f bw A outer s H vs Q E hr h=>?_)
 ·obtain ⟨l,ns,rfl,_⟩:=h
  rfl
 ·obtain ⟨l,ns,rfl,hl,hb,q1,q2⟩:=h
  refine ⟨_,aJ (av (aY (dq.mono (by decide)) hr (lH bE) (aC (pv 0) (aC (aW T.Aa) aF)))),?_⟩
  exact ⟨_,rfl,l,ns,24,rfl,hl,hb,by decide,q1,q2⟩
def i7 (C:Addr):Sp:=fun vs H Q E=>∃ n:Int,vs=[.int n]∧n.natAbs < 2 ^ 1000∧(0≤n∧n < 97→Q .cB H)∧(¬ (0≤n∧n < 97)→E (.ref C) none H)
theorem Ai:aV ["number"] ["number"] (aI kE):=⟨rfl,rfl,rfl,by decide +kernel,rfl,by decide +kernel,by decide +kernel⟩
theorem Aj (F:aT K mg "look_sign" kE) (T:Txt K mg t) (D1:Def P w K mg base 1 "is_sign" ["number"] mJ):Def P w K mg base 2 "look_sign" ["number"] (i7 t.BadSign):=by
 refine F.def Ai (fun _ _ _ _ _ _ us hl=>match us,hl with | [_],_=>rfl) (fun vs H Q E h=>?_) (fun f bw A outer s H vs Q E hr h=>?_)
 ·obtain ⟨n,rfl,_⟩:=h
  rfl
 ·obtain ⟨n,rfl,hb,q1,q2⟩:=h
  refine ⟨_,aJ (bO (qO (tH (aY D1 hr ao (aC (pv 0) aF))))
   (aJ (eY bE rfl rfl T.wm T.wo PySem.F.excBase_ValueError (aC (j9 (bY (fZ (pv 0)) (bY cy n8))) aF))) aq),?_⟩
  refine ⟨_,rfl,n,rfl,_,rfl,?_⟩
  by_cases h0:0≤n∧n < 97
  ·rw [decide_eq_true h0]
   exact iI (q1 h0)
  ·rw [decide_eq_false h0]
   refine iu ?_
   have hz:=gB hb
   have e0:(Str.empty ++ Str.ofString (toString n)).length≤1001:=by rw [strLen_append];show 0+_≤1001;omega
   have e1:((Str.empty ++ Str.ofString (toString n)) ++ (" is no sign":Str)).length≤2000:=by
    have:(" is no sign":Str).length=11:=by decide +kernel
    rw [strLen_append];omega
   have sl:(2000:Nat)≤sizeLine:=by decide
   refine ⟨_,rfl,n,rfl,dR hb (by decide) (by decide),_,rfl,by omega,_,rfl,by omega,by omega,?_⟩
   exact ⟨zz1,q2 h0⟩
def mK (C:Addr):Sp:=fun vs H Q E=>∃ n:Int,vs=[.int n]∧n.natAbs < 2 ^ 1000∧(0 < n∧n < 97→Q .cB H)∧(¬ (0 < n∧n < 97)→E (.ref C) none H)
theorem Ak:aV ["number"] ["number"] (aI kF):=⟨rfl,rfl,rfl,by decide +kernel,rfl,by decide +kernel,by decide +kernel⟩
theorem Al (F:aT K mg "look_unit" kF) (T:Txt K mg t) (D2:Def P w K mg base 2 "look_sign" ["number"] (i7 t.BadSign)):Def P w K mg base 3 "look_unit" ["number"] (mK t.BadSign):=by
 refine F.def Ak (fun _ _ _ _ _ _ us hl=>match us,hl with | [_],_=>rfl) (fun vs H Q E h=>?_) (fun f bw A outer s H vs Q E hr h=>?_)
 ·obtain ⟨n,rfl,_⟩:=h
  rfl
 ·obtain ⟨n,rfl,hb,q1,q2⟩:=h
  refine ⟨_,aE (av (aY D2 hr (lH bE) (aC (pv 0) aF)))
   (aJ (bO (aZ gQ (pv 0) aG (af _)) (aJ (eY bE rfl rfl T.wm T.wo PySem.F.excBase_ValueError (aC cy aF))) aq)),?_⟩
  refine ⟨_,rfl,n,rfl,hb,fun h0=>?_,fun h0=>q2 (by omega)⟩
  refine ⟨_,rfl,rfl,_,rfl,?_⟩
  by_cases z:n=0
  ·subst z
   refine iu ?_
   exact ⟨zz1,q2 (by omega)⟩
  ·have e:decide (V.int n=V.int 0)=false:=decide_eq_false fun q=>z (V.int.inj q)
   rw [e]
   exact iI (q1 (by omega))
def oH (C:Addr):Sp:=fun vs H Q E=>∃ a k:Int,vs=[.int a,.int k]∧a.natAbs < 2 ^ 1000∧0≤k∧(0≤a∧a < 97→Q (.int (My.P a k)) H)∧(¬ (0≤a∧a < 97)→E (.ref C) none H)
def KW:L2.St→Hp→Nat:=fun σ _=>match σ with
 | [_,_,_,_,some (.int s)]=>s.toNat
 | _=>0
theorem jS:aV ["a","k","product","square","left"] ["a","k"] (aI vm):=⟨rfl,rfl,rfl,by decide +kernel,rfl,by decide +kernel,by decide +kernel⟩
theorem KY (F:aT K mg "power" vm) (T:Txt K mg t) (dc:Def P w K mg base 2 "look_sign" ["number"] (i7 t.BadSign)):Def P w K mg base 3 "power" ["a","k"] (oH t.BadSign):=by
 refine F.def jS (fun _ _ _ _ _ _ us hl=>match us,hl with | [_,_],_=>rfl) (fun vs H Q E h=>?_) (fun f bw A outer s H vs Q E hr h=>?_)
 ·obtain ⟨a,k,rfl,_⟩:=h
  rfl
 ·obtain ⟨a,k,rfl,hb,k0,q1,q2⟩:=h
  refine ⟨_,aE (av (aY (dc.mono (by decide)) hr (lH bE) (aC (pv 0) aF)))
   (aE (aX (i:=2) jS.nd rfl (Or.inl rfl) aG)
   (aE (aX (i:=3) jS.nd rfl (Or.inl rfl) (pv 0))
   (aE (aX (i:=4) jS.nd rfl (Or.inl rfl) (pv 1))
   (aE (PS.rS (BY PassesOwn.never (aZ Bh (pv 4) aG (af _))
    (aE (bO (aZ gQ (aM ay (pv 4) aG) aG (af _))
     (aJ (aX (i:=2) jS.nd rfl (Or.inl rfl) (aM ay (aM cE (pv 2) (pv 3)) (aW T.cQ))))
     (aq))
    (aE (aX (i:=3) jS.nd rfl (Or.inl rfl) (aM ay (aM cE (pv 3) (pv 3)) (aW T.cQ)))
    (aJ (aX (i:=4) jS.nd rfl (Or.inl rfl) (aM cF (pv 4) aG)))))))
   (aJ (ai (pv 2))))))),?_⟩
  refine ⟨_,rfl,a,rfl,hb,fun h0=>?_,fun h0=>q2 h0⟩
  refine ⟨_,rfl,?_⟩
  refine ⟨_,rfl,?_⟩
  refine Be (fun σ H'=>∃ p q l:Int,σ=[some (.int a),some (.int k),some (.int p),some (.int q),some (.int l)]∧H'=H∧0≤p∧p < 97∧0≤q∧q < 97∧0≤l∧p * q ^ l.toNat % 97=My.P a k) KW ⟨1,a,k,rfl,rfl,by decide,by decide,h0.1,h0.2,k0,My.CH⟩ ?_ ?_
  ·rintro σ H' ⟨p,q,l,rfl,rfl,p0,p1,q0,q1',l0,hh⟩
   refine ⟨_,rfl,_,_,rfl,rfl,_,rfl,?_⟩
   refine Px (fun h=>?_) (fun h=>?_)
   ·have hl:0 < l:=of_decide_eq_true h
    have Zn:(l / 2).toNat < l.toNat:=by omega
    refine ⟨_,rfl,_,_,rfl,rfl,(by show (0:Int) < 2;decide),rfl,_,rfl,?_⟩
    refine Px (fun h2=>?_) (fun h2=>?_)
    ·have ho:l % 2=1:=V.int.inj (of_decide_eq_true h2)
     refine ⟨_,rfl,_,rfl,_,_,rfl,rfl,.inl ⟨by omega,by omega⟩,_,_,rfl,rfl,(by show (0:Int) < 97;decide),?_⟩
     refine ⟨_,rfl,_,rfl,_,_,rfl,rfl,.inl ⟨by omega,by omega⟩,_,_,rfl,rfl,(by show (0:Int) < 97;decide),?_⟩
     refine ⟨_,rfl,_,_,rfl,rfl,⟨by decide,by decide⟩,?_⟩
     exact ⟨⟨_,_,_,rfl,rfl,Int.emod_nonneg _ (by decide),Int.emod_lt_of_pos _ (by decide),Int.emod_nonneg _ (by decide),Int.emod_lt_of_pos _ (by decide),by omega,My.Hk hl ho hh⟩,Zn⟩
    ·have ho:l % 2≠1:=fun z=>h2 (decide_eq_true (congrArg V.int z))
     refine ⟨_,rfl,_,rfl,_,_,rfl,rfl,.inl ⟨by omega,by omega⟩,_,_,rfl,rfl,(by show (0:Int) < 97;decide),?_⟩
     refine ⟨_,rfl,_,_,rfl,rfl,⟨by decide,by decide⟩,?_⟩
     exact ⟨⟨_,_,_,rfl,rfl,p0,p1,Int.emod_nonneg _ (by decide),Int.emod_lt_of_pos _ (by decide),by omega,My.Dq hl ho hh⟩,Zn⟩
   ·have hl:¬ 0 < l:=fun z=>h (decide_eq_true z)
    refine ⟨_,rfl,?_⟩
    rw [My.Hl (by omega) p0 p1 hh]
    exact q1 h0
  ·rintro σ H' Q1 Q2 hm ⟨v,e,i,j,ei,ej,k,ek,q⟩
   exact ⟨v,e,i,j,ei,ej,k,ek,hm _ _ q⟩
def qX (C:Addr):Sp:=fun vs H Q E=>∃ a:Int,vs=[.int a]∧a.natAbs < 2 ^ 1000∧(0 < a∧a < 97→Q (.int (My.P a 95)) H)∧(¬ (0 < a∧a < 97)→E (.ref C) none H)
theorem EB:aV ["a"] ["a"] (aI pU):=⟨rfl,rfl,rfl,by decide +kernel,rfl,by decide +kernel,by decide +kernel⟩
theorem EC (F:aT K mg "inverse" pU) (T:Txt K mg t) (kN:Def P w K mg base 3 "look_unit" ["number"] (mK t.BadSign)) (eZ:Def P w K mg base 3 "power" ["a","k"] (oH t.BadSign)):Def P w K mg base 4 "inverse" ["a"] (qX t.BadSign):=by
 refine F.def EB (fun _ _ _ _ _ _ us hl=>match us,hl with | [_],_=>rfl) (fun vs H Q E h=>?_) (fun f bw A outer s H vs Q E hr h=>?_)
 ·obtain ⟨a,rfl,_⟩:=h
  rfl
 ·obtain ⟨a,rfl,hb,q1,q2⟩:=h
  refine ⟨_,aE (av (aY (kN.mono (by decide)) hr (lH bE) (aC (pv 0) aF)))
   (aJ (ai (aY (eZ.mono (by decide)) hr (lH bE) (aC (pv 0) (aC (aM d9 (aW T.cQ) aG) aF))))),?_⟩
  refine ⟨_,rfl,a,rfl,hb,fun h0=>?_,fun h0=>q2 h0⟩
  refine ⟨_,rfl,_,_,rfl,rfl,a,95,rfl,hb,by decide,fun _=>q1 h0,fun h1=>absurd ⟨by omega,h0.2⟩ h1⟩
def uv (C:Addr):Sp:=fun vs H Q E=>∃ n:Int,vs=[.int n]∧n.natAbs < 2 ^ 1000∧(0 < n∧n < 97→Q (.int (My.ex n)) H)∧(¬ (0 < n∧n < 97)→E (.ref C) none H)
theorem iM:aV ["a","steps","reached"] ["a"] (aI mD):=⟨rfl,rfl,rfl,by decide +kernel,rfl,by decide +kernel,by decide +kernel⟩
def Tn:L2.St→Hp→Nat:=fun σ _=>match σ with
 | [_,some (.int s),_]=>(100 - s).toNat
 | _=>0
theorem CU (F:aT K mg "exponent" mD) (T:Txt K mg t) (D3:Def P w K mg base 3 "look_unit" ["number"] (mK t.BadSign)):Def P w K mg base 4 "exponent" ["a"] (uv t.BadSign):=by
 refine F.def iM (fun _ _ _ _ _ _ us hl=>match us,hl with | [_],_=>rfl) (fun vs H Q E h=>?_) (fun f bw A outer s H vs Q E hr h=>?_)
 ·obtain ⟨n,rfl,_⟩:=h
  rfl
 ·obtain ⟨a,rfl,hb,q1,q2⟩:=h
  refine ⟨_,aE (av (aY D3 hr (lH bE) (aC (pv 0) aF)))
   (aE (aX (i:=1) iM.nd rfl (Or.inl rfl) aG)
   (aE (aX (i:=2) iM.nd rfl (Or.inl rfl) aG)
   (aE (PS.rS (BY PassesOwn.never (aZ Bg (pv 2) (pv 0) (af _))
    (aE (aX (i:=2) iM.nd rfl (Or.inl rfl) (aM ay (aM cE (pv 2) (aW T.GH)) (aW T.cQ)))
    (aJ (aX (i:=1) iM.nd rfl (Or.inl rfl) (aM az (pv 1) aG))))))
   (aJ (ai (pv 1)))))),?_⟩
  refine ⟨_,rfl,a,rfl,hb,fun h0=>?_,fun h0=>q2 h0⟩
  refine Be (fun σ H'=>∃ st:Int,σ=[some (.int a),some (.int st),some (.int (My.up st))]∧H'=H∧0≤st∧st≤My.ex a) Tn ⟨0,by rw [My.Mc];rfl,rfl,Int.le_refl _,My.J9 a⟩ ?_ ?_
  ·rintro σ H' ⟨st,rfl,rfl,s0,s1⟩
   refine ⟨_,rfl,_,rfl,rfl,_,rfl,?_⟩
   have he:=My.TX h0.1 h0.2
   by_cases z:My.up st=a
   ·have e:decide (V.int (My.up st)=V.int a)=true:=decide_eq_true (by rw [z])
    rw [e]
    refine iI ⟨_,rfl,?_⟩
    have es:st=My.ex a:=by
     by_cases l:st < My.ex a
     ·exact absurd z (My.TZ h0.1 h0.2 s0 l)
     ·omega
    rw [es]
    exact q1 h0
   ·have e:decide (V.int (My.up st)=V.int a)=false:=decide_eq_false fun q=>z (V.int.inj q)
    rw [e]
    refine iu ?_
    have u0:0≤My.up st:=Int.emod_nonneg _ (by decide)
    have u1:My.up st < 97:=Int.emod_lt_of_pos _ (by decide)
    refine ⟨_,rfl,_,_,rfl,rfl,.inl ⟨by omega,by omega⟩,_,_,rfl,rfl,(by show (0:Int) < 97;decide),_,rfl,_,_,rfl,rfl,?_⟩
    have BO:st≠My.ex a:=fun q=>z (by rw [q];exact My.TY h0.1 h0.2)
    refine ⟨⟨st+1,by rw [← My.Mb s0 rfl];rfl,rfl,by omega,by omega⟩,?_⟩
    show (100 - (st+1)).toNat < (100 - st).toNat
    omega
  ·rintro σ H' Q1 Q2 hm ⟨v,e,u,e2,hs,k,ek,q⟩
   exact ⟨v,e,u,e2,hs,k,ek,hm _ _ q⟩
def uw (K:PySem.W.Frag):Sp:=fun vs H Q _=>∃ (l:Addr) (n:Nat) (f:Nat→Int) (x:Int),vs=[.ref l,.int x]∧ae K H l (tabI n f)∧Q (.int (My.T x n f)) H
theorem Mt {n:Nat} {f:Nat→V} {i:Nat} {x:V} (h:(cN n f).reverse[i]?=some x):i < n∧x=f (n - 1 - i):=by
 have hi:i < n:=by
  have:=(List.getElem?_eq_some_iff.mp h).1
  rwa [List.length_reverse,aN] at this
 rw [List.getElem?_reverse (by rw [aN];exact hi),aN,be (by omega)] at h
 exact ⟨hi,(Option.some.inj h).symm⟩
theorem kO:aV ["signs","point","value","sign"] ["signs","point"] (aI mE):=⟨rfl,rfl,rfl,by decide +kernel,rfl,by decide +kernel,by decide +kernel⟩
theorem CV (F:aT K mg "value_at" mE) (T:Txt K mg t):Def P w K mg base 1 "value_at" ["signs","point"] (uw K):=by
 refine F.def kO (fun _ _ _ _ _ _ us hl=>match us,hl with | [_,_],_=>rfl) (fun vs H Q E h=>?_) (fun f bw A outer s H vs Q E hr h=>?_)
 ·obtain ⟨l,n,f,x,rfl,_⟩:=h
  rfl
 ·obtain ⟨l,n,f,x,rfl,hl,q⟩:=h
  refine ⟨_,aE (aX (i:=2) kO.nd rfl (Or.inl rfl) aG)
   (aE (PS.rS (cP PassesOwn.never rfl (AS K (by rfl) T.wk (aC (pv 0) aF)) (aw (i:=3) kO.nd rfl (Or.inl rfl))
    (aJ (aX (i:=2) kO.nd rfl (Or.inl rfl) (aM ay (aM az (aM cE (pv 2) (pv 1)) (pv 3)) (aW T.cQ))))))
   (aJ (ai (pv 2)))),?_⟩
  refine ⟨_,rfl,l,_,rfl,hl,MO (K:=K) (a:=l) (xs:=tabI n f) (fun i σ H'=>∃ v:Option V,σ=[some (.ref l),some (.int x),some (.int (My.hv f n x i)),v]∧H'=H) ⟨none,rfl,rfl⟩ (fun i σ H' _ ⟨_,_,e⟩=>by rw [e];exact hl) ?_ ?_⟩
  ·rintro i y σ H' hi ⟨v,rfl,rfl⟩
   obtain ⟨Zo,rfl⟩:=Mt hi
   have h0:=My.Oa f n x i
   have h1:=My.Ob f n x i
   refine ⟨_,rfl,_,rfl,_,_,rfl,rfl,.inl ⟨by omega,by omega⟩,_,rfl,_,_,rfl,rfl,_,_,rfl,rfl,(by show (0:Int) < 97;decide),?_⟩
   exact ⟨_,rfl,rfl⟩
  ·rintro σ H' ⟨v,rfl,rfl⟩
   refine ⟨_,rfl,?_⟩
   rw [aN,My.XR]
   exact q
def oI (K:PySem.W.Frag):Sp:=fun vs H Q _=>∃ (l:Addr) (f:Nat→Int),vs=[.ref l]∧ae K H l (tabI 24 f)∧IsCell 24 f ∧
 ∀ p H',H p=none→aK H H'→H' p=some (.lst (tabI 6 fun j=>My.T (My.St j) 24 f))→Q (.ref p) H'
theorem CW:aV ["cell"] ["cell"] (aI jQ):=⟨rfl,rfl,rfl,by decide +kernel,rfl,by decide +kernel,by decide +kernel⟩
theorem CY (F:aT K mg "troubles" jQ) (T:Txt K mg t) (oJ:Def P w K mg base 3 "look_cell" ["cell"] (sH K t.BadCell)) (qY:Def P w K mg base 1 "value_at" ["signs","point"] (uw K)) (eZ:Def P w K mg base 3 "power" ["a","k"] (oH t.BadSign)) :
  Def P w K mg base 4 "troubles" ["cell"] (oI K):=by
 refine F.def CW (fun _ _ _ _ _ _ us hl=>match us,hl with | [_],_=>rfl) (fun vs H Q E h=>?_) (fun f bw A outer s H vs Q E hr h=>?_)
 ·obtain ⟨l,f,rfl,_⟩:=h
  rfl
 ·obtain ⟨l,f,rfl,hl,cf,q⟩:=h
  refine ⟨_,aE (av (aY (oJ.mono (by decide)) hr ao (aC (pv 0) aF)))
   (aJ (ai (iJ rfl (Nc:=["j","cell"]) (ix:=[none,some 0]) (cG (aI jQ) ["cell"] rfl rfl (by decide +kernel)) (pN (by rfl) T.cI (aC aG (aC (aM az (aW T.GI) aG) aF))) (fun C fp s H=>⟨(aw (i:=0) (show (["j","cell"]:List Str).Nodup by decide +kernel) rfl (Or.inl rfl)),b6,(aY (qY.mono (by decide)) hr ao (aC (pv 1) (aC (aY (eZ.mono (by decide)) hr ao (aC (aW T.GH) (aC (pv 0) aF))) aF)))⟩)))),?_⟩
  have pf:(2000:Nat)≤sizeLine:=by decide
  refine ⟨_,rfl,l,(List.range 24).map f,rfl,by rw [vh];exact hl,cf.Zm,fun _=>?_,fun h=>absurd cf.row h⟩
  refine ⟨_,_,rfl,rfl,1,_,rfl,⟨by decide,by decide,by decide,by decide⟩,fun D hD=>?_⟩
  refine jM (lo:=1) (n:=6) (fun i σ H'=>∃ v:Option V,σ=[v,some (.ref l)]∧aK H H'∧H' D=some (.lst (tabI i fun j=>My.T (My.St j) 24 f))) ⟨none,rfl,(aK.refl _).new hD,aD⟩ ?_ ?_
  ·rintro i σ H' N hN hi ⟨v,rfl,s1,h1⟩
   refine ck ?_
   refine ⟨_,rfl,_,rfl,5,_,rfl,by decide,by omega,fun _=>?_,fun h=>absurd (show (0:Int)≤5∧(5:Int) < 97 by decide) h⟩
   refine ⟨l,24,f,_,rfl,s1.seq hl,?_⟩
   rw [My.XQ i hi]
   refine ⟨_,h1,by rw [aN];omega,?_⟩
   exact hN _ _ ⟨_,rfl,s1.put hD,kC rfl⟩
  ·rintro σ H' ⟨v,rfl,s1,h1⟩
   exact q D H' hD s1 h1
def pX (f:Nat→Int):Bool:=decide ((List.range 6).map (fun j=>My.T (My.St j) 24 f)=(List.range 6).map fun _=>(0:Int))
theorem kP {f:Nat→Int}:pX f=true↔My.bu f:=by
 unfold pX My.bu
 rw [decide_eq_true_iff]
 constructor
 ·intro h j hj
  have:=congrArg (fun l=>l.getD j 0) h
  simp only [HQ 6 _ j hj] at this
  exact this
 ·intro h
  apply List.map_congr_left
  intro j hj
  exact h j (List.mem_range.mp hj)
theorem ED {f:Nat→Int} (h:¬ My.bu f):pX f=false:=by
 rw [Bool.eq_false_iff]
 exact fun z=>h (kP.mp z)
def sI (K:PySem.W.Frag):Sp:=fun vs H Q _=>∃ (l:Addr) (f:Nat→Int),vs=[.ref l]∧ae K H l (tabI 24 f)∧IsCell 24 f∧∀ H',aK H H'→Q (.bl (pX f)) H'
theorem Am:aV ["cell"] ["cell"] (aI kI):=⟨rfl,rfl,rfl,by decide +kernel,rfl,by decide +kernel,by decide +kernel⟩
theorem An (F:aT K mg "is_sealed" kI) (T:Txt K mg t) (gh:Def P w K mg base 4 "troubles" ["cell"] (oI K)):Def P w K mg base 5 "is_sealed" ["cell"] (sI K):=by
 refine F.def Am (fun _ _ _ _ _ _ us hl=>match us,hl with | [_],_=>rfl) (fun vs H Q E h=>?_) (fun f bw A outer s H vs Q E hr h=>?_)
 ·obtain ⟨l,f,rfl,_⟩:=h
  rfl
 ·obtain ⟨l,f,rfl,hl,cf,q⟩:=h
  refine ⟨_,aJ (ai (j8 (F5 K (HL hr)) (aY (gh.mono (by decide)) hr ao (aC (pv 0) aF)) (aM AN (bI (aC aG aF)) (aW T.GI)) (af _))),?_⟩
  refine ⟨_,rfl,l,f,rfl,hl,cf,fun p H1 hp s1 h1=>?_⟩
  refine ⟨zz1,fun a1 To=>?_⟩
  refine ⟨a1,_,_,rfl,rfl,aD,by decide,by decide,by decide,fun a2 Tp=>?_⟩
  have s2:=((aK.refl H1).new (o:=.lst [V.int 0]) To).new (o:=.lst (List.replicate (6:Int).toNat [V.int 0]).flatten) Tp
  refine ⟨p,a2,_,(List.range 6).map fun _=>0,rfl,rfl,ae.of (by rw [vh];exact s2 _ _ h1),ae.of (by rw [aD];rfl),?_⟩
  exact q _ (s1.trans s2)
def wu (K:PySem.W.Frag):Sp:=fun vs H Q _=>∃ (l:Addr) (r:Nat→Int) (s:Int),vs=[.ref l,.int s]∧ae K H l (tabI 6 r)∧(∀ k,k < 6→0≤r k∧r k < 97)∧0≤s∧s < 97 ∧
 ∀ p H',H p=none→aK H H'→H' p=some (.lst (tabI 6 fun k=>((if k < 5 then r (k+1) else 0) - (r 0+s) * My.Dv k) % 97))→Q (.ref p) H'
theorem Mu:([V.int (21),V.int (80),V.int (53),V.int (2),V.int (55),V.int (63)]:List V)=tabI 6 My.Dv:=by rfl
theorem wy:aV ["rest","sign","times"] ["rest","sign"] (aI lL):=⟨rfl,rfl,rfl,by decide +kernel,rfl,by decide +kernel,by decide +kernel⟩
theorem EE (F:aT K mg "carried" lL) (T:Txt K mg t):Def P w K mg base 1 "carried" ["rest","sign"] (wu K):=by
 refine F.def wy (fun _ _ _ _ _ _ us hl=>match us,hl with | [_,_],_=>rfl) (fun vs H Q E h=>?_) (fun f bw A outer s H vs Q E hr h=>?_)
 ·obtain ⟨l,r,s,rfl,_⟩:=h
  rfl
 ·obtain ⟨l,r,sg,rfl,hl,br,s0,s1,q⟩:=h
  refine ⟨_,aE (aX (i:=2) wy.nd rfl (Or.inr rfl) (aM az (aj (aR K) (pv 0) aG (fun _ _=>rfl)) (pv 1)))
   (aJ (ai (iJ rfl (Nc:=["low","part","times"]) (ix:=[none,none,some 2]) (cG (aI lL) ["rest","sign","times"] rfl rfl (by decide +kernel)) (Jw K (by rfl) T.GJ (aC (aM (kD K) (jK (jN K) (pv 0) (iD aG) vf) (bI (aC aG aF))) (aC (Fd (v:=.ref t.DIVISOR) (by rfl) T.KR rfl) aF))) (fun C fp s H=>⟨(iw K (i:=0) (j:=1) rfl (show (["low","part","times"]:List Str).Nodup by decide +kernel) rfl rfl (Or.inl rfl) (Or.inl rfl)),b6,(aM ay (aM d9 (pv 0) (aM cE (pv 2) (pv 1))) (aW T.cQ))⟩)))),?_⟩
  have pf:(2000:Nat)≤sizeLine:=by decide
  have b0:=br 0 (by decide)
  refine ⟨_,rfl,l,_,_,_,rfl,rfl,hl,dH (n:=6) (by decide) (by decide),_,rfl,_,_,rfl,rfl,?_⟩
  refine ⟨_,rfl,_,rfl,l,_,rfl,hl,fun p1 Ao=>?_⟩
  rw [show gP (tabI 6 r) (some 1) none=tabI 5 fun k=>r (1+k) from Dk (lo:=1) (n:=6) (by decide)]
  have t1:=(aK.refl H).new (o:=.lst (tabI 5 fun k=>r (1+k))) Ao
  refine ⟨zz1,fun p2 yM=>?_⟩
  have XW:p1≠p2:=aP aD yM
  have t2:=t1.new (o:=.lst [V.int 0]) yM
  refine ⟨p1,p2,_,_,rfl,rfl,ae.of (by rw [aH XW];exact aD),ae.of aD,by rw [aN];decide,fun p3 GL=>?_⟩
  have ec:(tabI 5 fun k=>r (1+k)) ++ [V.int 0]=tabI 6 fun k=>if k < 5 then r (k+1) else 0:=by
   rw [Bx]
   refine ba fun k hk=>?_
   by_cases e:k=5
   ·subst e;rfl
   ·rw [if_neg e];dsimp only;rw [if_pos (by omega),Nat.add_comm]
  rw [ec]
  have t3:=t2.new (o:=.lst (tabI 6 fun k=>if k < 5 then r (k+1) else 0)) GL
  have h3:∀ H0:Hp,(upd H0 p3 (.lst (tabI 6 fun k=>if k < 5 then r (k+1) else 0))) p3=some (.lst (tabI 6 fun k=>if k < 5 then r (k+1) else 0)):=fun _=>aD
  refine ⟨p3,t.DIVISOR,rfl,⟨_,ae.of (h3 _)⟩,⟨_,T.CQ.sq _⟩,fun D hD=>?_⟩
  have h3':=h3 (upd (upd H p1 (.lst (tabI 5 fun k=>r (1+k)))) p2 (.lst [V.int 0]))
  generalize upd (upd (upd H p1 (.lst (tabI 5 fun k=>r (1+k)))) p2 (.lst [V.int 0])) p3 (.lst (tabI 6 fun k=>if k < 5 then r (k+1) else 0))=H3 at *
  refine MP (K:=K) (a:=p3) (b:=t.DIVISOR) (xs:=tabI 6 fun k=>if k < 5 then r (k+1) else 0) (ys:=tabI 6 My.Dv) (by rw [aN,aN]) (fun i σ H'=>∃ v1 v2:Option V,σ=[v1,v2,some (.int (r 0+sg))]∧aK H3 H'∧H' D=some (.lst (tabI i fun k=>((if k < 5 then r (k+1) else 0) - (r 0+sg) * My.Dv k) % 97)))
   ⟨none,none,rfl,(aK.refl _).new hD,aD⟩ (fun i σ H' _ ⟨_,_,_,s2,_⟩=>⟨ae.of (s2 _ _ h3'),by rw [← Mu];exact T.CQ.sq _⟩) ?_ ?_
  ·rintro i x y pp σ H' N hN hx hy ⟨v1,v2,rfl,s2,h2⟩ QT
   obtain ⟨hi,rfl⟩:=tab_of hx
   obtain ⟨_,rfl⟩:=tab_of hy
   refine wM ?_
   have nD:D≠pp:=aP h2 QT
   refine ⟨_,rfl,_,rfl,_,rfl,_,_,rfl,rfl,.inl ⟨by omega,by omega⟩,_,_,rfl,rfl,_,_,rfl,rfl,(by show (0:Int) < 97;decide),?_⟩
   refine ⟨_,by rw [aH nD];exact h2,by rw [aN];omega,?_⟩
   exact hN _ _ ⟨_,_,rfl,(s2.new QT).put hD,kC rfl⟩
  ·rintro σ H' ⟨v1,v2,rfl,s2,h2⟩
   rw [aN] at h2
   exact q D H' (t3.free hD) (t3.trans s2) h2
def zq (K:PySem.W.Frag):Sp:=fun vs H Q _=>∃ (l:Addr) (f:Nat→Int),vs=[.ref l]∧ae K H l (tabI 18 f)∧IsCell 18 f∧∀ p H',H p=none→aK H H'→H' p=some (.lst (tabI 24 (My.lJ f)))→Q (.ref p) H'
theorem pY:aV ["signs","rest","sign"] ["signs"] (aI oB):=⟨rfl,rfl,rfl,by decide +kernel,rfl,by decide +kernel,by decide +kernel⟩
theorem Hv (F:aT K mg "sealed" oB) (T:Txt K mg t) (dq:Def P w K mg base 2 "look_signs" ["signs","many"] (kU K t.BadCell)) (tX:Def P w K mg base 1 "carried" ["rest","sign"] (wu K)):Def P w K mg base 3 "sealed" ["signs"] (zq K):=by
 refine F.def pY (fun _ _ _ _ _ _ us hl=>match us,hl with | [_],_=>rfl) (fun vs H Q E h=>?_) (fun f bw A outer s H vs Q E hr h=>?_)
 ·obtain ⟨l,f,rfl,_⟩:=h
  rfl
 ·obtain ⟨l,f,rfl,hl,cf,q⟩:=h
  refine ⟨_,aE (av (aY (dq.mono (by decide)) hr ao (aC (pv 0) (aC (aW T.sG) aF))))
   (aE (aX (i:=1) pY.nd rfl (Or.inl rfl) (aM AN (bI (aC aG aF)) (aW T.GI)))
   (aE (PS.rS (cP PassesOwn.never rfl (bj K (pv 0)) (aw (i:=2) pY.nd rfl (Or.inl rfl))
    (aJ (aX (i:=1) pY.nd rfl (Or.inl rfl) (aY (tX.mono (by decide)) hr ao (aC (pv 1) (aC (pv 2) aF)))))))
   (aJ (ai (aM (kD K) (df (gT K) (by rfl) T.qW boot_list (aC (pv 0) aF)) (iJ rfl (Nc:=["part"]) (ix:=[none]) (cG (aI oB) ["signs","rest","sign"] rfl rfl (by decide +kernel)) (bj K (pv 1)) (fun C fp s H=>⟨(aw (i:=0) (show (["part"]:List Str).Nodup by decide +kernel) rfl (Or.inl rfl)),b6,(aM ay (Bf vy (pv 0)) (aW T.cQ))⟩))))))),?_⟩
  have pf:(2000:Nat)≤sizeLine:=by decide
  refine ⟨_,rfl,l,(List.range 18).map f,18,rfl,by rw [vh];exact hl,cf.Zm,by decide,fun _=>?_,fun h=>absurd cf.row h⟩
  refine ⟨zz1,fun a1 To=>?_⟩
  refine ⟨a1,_,_,rfl,rfl,aD,by decide,by decide,by decide,fun a2 Tp=>?_⟩
  have s1:=((aK.refl H).new (o:=.lst [V.int 0]) To).new (o:=.lst (List.replicate (6:Int).toNat [V.int 0]).flatten) Tp
  refine ⟨_,rfl,l,rfl,⟨_,s1.seq hl⟩,lG (K:=K) (a:=l) (xs:=tabI 18 f) (fun i σ H'=>∃ (v:Option V) (p:Addr),σ=[some (.ref l),some (.ref p),v]∧aK H H'∧H' p=some (.lst (tabI 6 (My.rs f i)))) ⟨none,a2,rfl,s1,by rw [aD];rfl⟩ (fun i σ H' _ ⟨_,_,_,s2,_⟩=>s2.seq hl) ?_ ?_⟩
  ·rintro i y σ H' hi ⟨v,p,rfl,s2,h2⟩
   obtain ⟨Zo,rfl⟩:=tab_of hi
   have bi:=cf.b i Zo
   refine ⟨_,rfl,_,rfl,p,My.rs f i,f i,rfl,ae.of h2,fun k _=>⟨My.Tc f i k,My.Td f i k⟩,bi.1,bi.2,fun p2 H2 yM s3 h3=>?_⟩
   exact ⟨_,p2,rfl,s2.trans s3,h3⟩
  ·rintro σ H' ⟨v,p,rfl,s2,h2⟩
   rw [aN] at h2
   refine ⟨_,rfl,l,_,rfl,.inl (s2.seq hl),fun b1 Tq=>?_⟩
   have s3:=(aK.refl H').new (o:=.lst (tabI 18 f)) Tq
   refine ⟨_,rfl,p,rfl,⟨_,ae.of (s3 _ _ h2)⟩,fun D hD=>?_⟩
   have nD:b1≠D:=aP aD hD
   refine tO (K:=K) (a:=p) (n:=6) (F:=fun k=>V.int (My.rs f 18 k)) (fun i σ H4=>∃ v:Option V,σ=[v]∧aK (upd H' b1 (.lst (tabI 18 f))) H4∧H4 D=some (.lst (tabI i fun k=>-(My.rs f 18 k) % 97))) ⟨none,rfl,(aK.refl _).new hD,aD⟩ (fun i σ H4 _ ⟨_,_,s4,_⟩=>ae.of (s4 _ _ (s3 _ _ h2))) ?_ ?_
   ·rintro i σ H4 N hN hi ⟨v,rfl,s4,h4⟩
    refine ck ?_
    refine ⟨_,rfl,_,rfl,_,_,rfl,rfl,(by show (0:Int) < 97;decide),?_⟩
    refine ⟨_,h4,by rw [aN];omega,?_⟩
    exact hN _ _ ⟨_,rfl,s4.put hD,kC rfl⟩
   ·rintro σ H4 ⟨v,rfl,s4,h4⟩
    refine ⟨b1,D,_,_,rfl,rfl,ae.of (s4 _ _ aD),ae.of h4,by rw [aN,aN];decide,fun c1 Zp=>?_⟩
    have s5:=((s2.trans s3).trans s4)
    refine q c1 _ (s5.free Zp) (s5.new Zp) ?_
    rw [aD,MN]
    refine congrArg (fun z=>some (HO.lst z)) (ba fun i hi=>?_)
    unfold My.lJ
    split <;> rfl
def sJ (C:Addr):Sp:=fun vs H Q E=>∃ n:Int,vs=[.int n]∧n.natAbs < 2 ^ 1000∧(1≤n∧n≤6→Q .cB H)∧(¬ (1≤n∧n≤6)→E (.ref C) none H)
theorem Ap:aV ["late"] ["late"] (aI kJ):=⟨rfl,rfl,rfl,by decide +kernel,rfl,by decide +kernel,by decide +kernel⟩
theorem Aq (F:aT K mg "look_late" kJ) (T:Txt K mg t):Def P w K mg base 1 "look_late" ["late"] (sJ t.BadMeasure):=by
 refine F.def Ap (fun _ _ _ _ _ _ us hl=>match us,hl with | [_],_=>rfl) (fun vs H Q E h=>?_) (fun f bw A outer s H vs Q E hr h=>?_)
 ·obtain ⟨n,rfl,_⟩:=h
  rfl
 ·obtain ⟨n,rfl,hb,q1,q2⟩:=h
  refine ⟨_,aJ (bO (qO (wC vz vz aG (pv 0) (aW T.wd)))
    (aJ (eY bE rfl rfl T.uq T.uu PySem.F.excBase_ValueError (aC (j9 (bY cy (bY (fZ (aW T.wd)) (bY cy (bY (fZ (pv 0)) n8))))) aF)))
    (aq)),?_⟩
  have sl:(3000:Nat)≤sizeLine:=by decide
  have bad:¬ (1≤n∧n≤6)→_:=fun z=>q2 z
  have l1:("late is from 1 to ":Str).length=18:=by decide +kernel
  have l2:(", not ":Str).length=6:=by decide +kernel
  have z6:=gB (i:=6) (by decide)
  have zn:=gB hb
  have e0:(Str.empty ++ ("late is from 1 to ":Str)).length≤18:=by rw [strLen_append,l1];show 0+18≤18;omega
  have e1:((Str.empty ++ ("late is from 1 to ":Str)) ++ Str.ofString (toString (6:Int))).length≤1019:=by rw [strLen_append];omega
  have e2:(((Str.empty ++ ("late is from 1 to ":Str)) ++ Str.ofString (toString (6:Int))) ++ (", not ":Str)).length≤1025:=by rw [strLen_append];omega
  have e3:((((Str.empty ++ ("late is from 1 to ":Str)) ++ Str.ofString (toString (6:Int))) ++ (", not ":Str)) ++ Str.ofString (toString n)).length≤2026:=by rw [strLen_append];omega
  refine ⟨_,rfl,_,_,rfl,rfl,_,rfl,?_⟩
  by_cases h1:1≤n
  ·refine dX h1 ?_
   refine ⟨_,_,rfl,rfl,_,rfl,?_⟩
   by_cases h2:n≤6
   ·rw [decide_eq_true h2]
    exact iI (q1 ⟨h1,h2⟩)
   ·rw [decide_eq_false h2]
    refine iu ?_
    refine ⟨_,rfl,by omega,6,rfl,dR (n:=1000) (by decide) (by decide) (by decide),_,rfl,by omega,_,rfl,by omega,_,rfl,n,rfl,dR hb (by decide) (by decide),_,rfl,by omega,by omega,?_⟩
    exact ⟨zz1,q2 (by omega)⟩
  ·refine dE h1 ⟨_,rfl,iu ?_⟩
   refine ⟨_,rfl,by omega,6,rfl,dR (n:=1000) (by decide) (by decide) (by decide),_,rfl,by omega,_,rfl,by omega,_,rfl,n,rfl,dR hb (by decide) (by decide),_,rfl,by omega,by omega,?_⟩
   exact ⟨zz1,q2 (by omega)⟩
def nO (K:PySem.W.Frag) (C:Addr):Sp:=fun vs H Q E=>∃ (a:Addr) (x y:Int),vs=[.ref a]∧cD K H a [.int x,.int y]∧x.natAbs < 2 ^ 1000∧y.natAbs < 2 ^ 1000∧((1≤x∧x≤6)∧0≤y∧y≤4→Q .cB H)∧(¬ ((1≤x∧x≤6)∧0≤y∧y≤4)→E (.ref C) none H)
theorem nP:aV ["measure","lost"] ["measure"] (aI fe):=⟨rfl,rfl,rfl,by decide +kernel,rfl,by decide +kernel,by decide +kernel⟩
theorem vN (F:aT K mg "look_measure" fe) (T:Txt K mg t) (oK:Def P w K mg base 1 "look_late" ["late"] (sJ t.BadMeasure)):Def P w K mg base 2 "look_measure" ["measure"] (nO K t.BadMeasure):=by
 refine F.def nP (fun _ _ _ _ _ _ us hl=>match us,hl with | [_],_=>rfl) (fun vs H Q E h=>?_) (fun f bw A outer s H vs Q E hr h=>?_)
 ·obtain ⟨a,x,y,rfl,_⟩:=h
  rfl
 ·obtain ⟨a,x,n,rfl,ha,hx,hb,q1,q2⟩:=h
  refine ⟨_,aE (av (aY (oK.mono (by decide)) hr (lH bE) (aC (aj (dh K) (pv 0) aG (fun _ _=>rfl)) aF)))
   (aE (aX (i:=1) nP.nd rfl (Or.inl rfl) (aj (dh K) (pv 0) aG (fun _ _=>rfl)))
   (aJ (bO (qO (wC vz vz aG (pv 1) (aW T.wg)))
    (aJ (eY bE rfl rfl T.uq T.uu PySem.F.excBase_ValueError (aC (j9 (bY cy (bY (fZ (aW T.wg)) (bY cy (bY (fZ (pv 1)) n8))))) aF)))
    (aq)))),?_⟩
  have sl:(3000:Nat)≤sizeLine:=by decide
  have l1:("lost is from 0 to ":Str).length=18:=by decide +kernel
  have l2:(", not ":Str).length=6:=by decide +kernel
  have z6:=gB (i:=4) (by decide)
  have zn:=gB hb
  have e0:(Str.empty ++ ("lost is from 0 to ":Str)).length≤18:=by rw [strLen_append,l1];show 0+18≤18;omega
  have e1:((Str.empty ++ ("lost is from 0 to ":Str)) ++ Str.ofString (toString (4:Int))).length≤1019:=by rw [strLen_append];omega
  have e2:(((Str.empty ++ ("lost is from 0 to ":Str)) ++ Str.ofString (toString (4:Int))) ++ (", not ":Str)).length≤1025:=by rw [strLen_append];omega
  have e3:((((Str.empty ++ ("lost is from 0 to ":Str)) ++ Str.ofString (toString (4:Int))) ++ (", not ":Str)) ++ Str.ofString (toString n)).length≤2026:=by rw [strLen_append];omega
  refine ⟨_,rfl,a,_,_,_,rfl,rfl,ha,rfl,x,rfl,hx,fun h0=>?_,fun h0=>q2 fun z=>h0 z.1⟩
  refine ⟨_,rfl,a,_,_,_,rfl,rfl,ha,rfl,?_⟩
  refine ⟨_,rfl,_,_,rfl,rfl,_,rfl,?_⟩
  by_cases h1:0≤n
  ·refine dX h1 ?_
   refine ⟨_,_,rfl,rfl,_,rfl,?_⟩
   by_cases h2:n≤4
   ·rw [decide_eq_true h2]
    exact iI (q1 ⟨h0,h1,h2⟩)
   ·rw [decide_eq_false h2]
    refine iu ?_
    refine ⟨_,rfl,by omega,4,rfl,dR (n:=1000) (by decide) (by decide) (by decide),_,rfl,by omega,_,rfl,by omega,_,rfl,n,rfl,dR hb (by decide) (by decide),_,rfl,by omega,by omega,?_⟩
    exact ⟨zz1,q2 (by omega)⟩
  ·refine dE h1 ⟨_,rfl,iu ?_⟩
   refine ⟨_,rfl,by omega,4,rfl,dR (n:=1000) (by decide) (by decide) (by decide),_,rfl,by omega,_,rfl,by omega,_,rfl,n,rfl,dR hb (by decide) (by decide),_,rfl,by omega,by omega,?_⟩
   exact ⟨zz1,q2 (by omega)⟩
def Tt (x y:Int):Prop:=(1≤x∧x≤6)∧0≤y∧y≤4
def ux (K:PySem.W.Frag) (C:Addr):Sp:=fun vs H Q E=>∃ (a:Addr) (x y:Int),vs=[.ref a]∧cD K H a [.int x,.int y]∧x.natAbs < 2 ^ 1000∧y.natAbs < 2 ^ 1000∧(Tt x y→Q (.int (x+y)) H)∧(¬ Tt x y→E (.ref C) none H)
theorem CZ:aV ["measure"] ["measure"] (aI mF):=⟨rfl,rfl,rfl,by decide +kernel,rfl,by decide +kernel,by decide +kernel⟩
theorem Ca (F:aT K mg "quiet_of" mF) (T:Txt K mg t) (jT:Def P w K mg base 2 "look_measure" ["measure"] (nO K t.BadMeasure)):Def P w K mg base 3 "quiet_of" ["measure"] (ux K t.BadMeasure):=by
 refine F.def CZ (fun _ _ _ _ _ _ us hl=>match us,hl with | [_],_=>rfl) (fun vs H Q E h=>?_) (fun f bw A outer s H vs Q E hr h=>?_)
 ·obtain ⟨a,x,y,rfl,_⟩:=h
  rfl
 ·obtain ⟨a,x,y,rfl,ha,hx,hy,q1,q2⟩:=h
  refine ⟨_,aE (av (aY (jT.mono (by decide)) hr (lH bE) (aC (pv 0) aF)))
   (aJ (ai (aM az (aj (dh K) (pv 0) aG (fun _ _=>rfl)) (aj (dh K) (pv 0) aG (fun _ _=>rfl))))),?_⟩
  refine ⟨_,rfl,a,x,y,rfl,ha,hx,hy,fun h0=>?_,fun h0=>q2 h0⟩
  refine ⟨_,rfl,a,_,_,_,rfl,rfl,ha,rfl,?_⟩
  refine ⟨_,rfl,a,_,_,_,rfl,rfl,ha,rfl,_,_,rfl,rfl,?_⟩
  exact q1 h0
def uy (K:PySem.W.Frag):Sp:=fun vs H Q _=>∃ (l:Addr) (n:Nat) (f:Nat→Int) (z:Int),vs=[.ref l,.int z]∧ae K H l (tabI n f)∧n≤1000 ∧
 ∀ p H',H p=none→aK H H'→H' p=some (.lst (tabI (n+1) fun j=>(if j < n then f j else z) % 97))→Q (.ref p) H'
theorem Cb:aV ["row","side"] ["row","side"] (aI jO):=⟨rfl,rfl,rfl,by decide +kernel,rfl,by decide +kernel,by decide +kernel⟩
theorem Cc (F:aT K mg "equation" jO) (T:Txt K mg t):Def P w K mg base 1 "equation" ["row","side"] (uy K):=by
 refine F.def Cb (fun _ _ _ _ _ _ us hl=>match us,hl with | [_,_],_=>rfl) (fun vs H Q E h=>?_) (fun f bw A outer s H vs Q E hr h=>?_)
 ·obtain ⟨l,n,f,z,rfl,_⟩:=h
  rfl
 ·obtain ⟨l,n,f',z,rfl,hl,hn,q⟩:=h
  refine ⟨_,aJ (ai (aM (kD K) (iJ rfl (Nc:=["sign"]) (ix:=[none]) (cG (aI jO) ["row","side"] rfl rfl (by decide +kernel)) (bj K (pv 0)) (fun C fp s H=>⟨(aw (i:=0) (show (["sign"]:List Str).Nodup by decide +kernel) rfl (Or.inl rfl)),b6,(aM ay (pv 0) (aW T.cQ))⟩)) (bI (aC (aM ay (pv 1) (aW T.cQ)) aF)))),?_⟩
  have pf:(2000:Nat)≤sizeLine:=by decide
  refine ⟨_,rfl,l,rfl,⟨_,hl⟩,fun D hD=>?_⟩
  refine tO (K:=K) (a:=l) (n:=n) (F:=fun j=>V.int (f' j)) (fun i σ H'=>∃ v:Option V,σ=[v]∧aK H H'∧H' D=some (.lst (tabI i fun j=>f' j % 97))) ⟨none,rfl,(aK.refl _).new hD,aD⟩ (fun i σ H' _ ⟨_,_,s1,_⟩=>s1.seq hl) ?_ ?_
  ·rintro i σ H' N hN hi ⟨v,rfl,s1,h1⟩
   refine ck ?_
   refine ⟨_,rfl,_,_,rfl,rfl,(by show (0:Int) < 97;decide),_,h1,by rw [aN];omega,?_⟩
   exact hN _ _ ⟨_,rfl,s1.put hD,kC rfl⟩
  ·rintro σ H' ⟨v,rfl,s1,h1⟩
   refine ⟨_,rfl,_,_,rfl,rfl,(by show (0:Int) < 97;decide),zz1,fun p2 yM=>?_⟩
   have n2:D≠p2:=aP h1 yM
   have s2:=s1.new (o:=.lst [V.int (z % 97)]) yM
   refine ⟨D,p2,_,_,rfl,rfl,ae.of (by rw [aH n2];exact h1),ae.of aD,by rw [aN];show n+1≤sizeLine;omega,fun p3 GL=>?_⟩
   refine q p3 _ (s2.free GL) (s2.new GL) ?_
   have e3:tabI (n+1) (fun j=>(if j < n then f' j else z) % 97)=tabI n (fun j=>f' j % 97) ++ [V.int (z % 97)]:=by
    refine (rf n _).trans ?_
    rw [show cN n (fun j=>V.int ((if j < n then f' j else z) % 97))=tabI n fun j=>f' j % 97 from ba fun i hi=>by rw [if_pos hi]]
    show _ ++ [V.int ((if n < n then f' n else z) % 97)]=_
    rw [if_neg (Nat.lt_irrefl n)]
   rw [aD,e3]
def oM (K:PySem.W.Frag):Sp:=fun vs H Q _=>∃ (l:Addr) (m n c:Nat) (a:My.nY),vs=[.ref l,.int c]∧rh K H l m n a∧c < n∧c≤m∧m≤1000∧n≤1000 ∧
 (∀ i:Nat,c≤i→i < m→a i c≠0→(∀ k,c≤k→k < i→a k c=0)→Q (.int i) H)∧((∀ i,c≤i→i < m→a i c=0)→Q .cB H)
theorem oN:aV ["table","column","place"] ["table","column"] (aI iE):=⟨rfl,rfl,rfl,by decide +kernel,rfl,by decide +kernel,by decide +kernel⟩
theorem wz (F:aT K mg "pivot_place" iE) (T:Txt K mg t):Def P w K mg base 1 "pivot_place" ["table","column"] (oM K):=by
 refine F.def oN (fun _ _ _ _ _ _ us hl=>match us,hl with | [_,_],_=>rfl) (fun vs H Q E h=>?_) (fun f bw A outer s H vs Q E hr h=>?_)
 ·obtain ⟨l,m,n,c,a,rfl,_⟩:=h
  rfl
 ·obtain ⟨l,m,n,c,a,rfl,⟨as,g1,g2⟩,hc,QU,hm,hn,q1,q2⟩:=h
  refine ⟨_,aE (PS.rS (cP PassesOwn.never rfl (pN (by rfl) T.cI (aC (pv 1) (aC (bR (bM K) (by rfl) T.f6 boot_len (aC (pv 0) aF)) aF))) (aw (i:=2) oN.nd rfl (Or.inl rfl))
    (aJ (bO (aZ Bg (aj (aR K) (aj (aR K) (pv 0) (pv 2) (fun _ _=>rfl)) (pv 1) (fun _ _=>rfl)) aG (af _))
     (aJ (ai (pv 2)))
     (aq)))))
   (aJ (ai fW)),?_⟩
  refine ⟨_,rfl,_,rfl,l,_,rfl,.inl g1,(c:Int),((bD m as).length:Nat),rfl,⟨by omega,by omega,by omega,by rw [aN];omega⟩,?_⟩
  have en:((((bD m as).length:Nat):Int) - (c:Int)).toNat=m - c:=by rw [aN];omega
  rw [en]
  refine cS (lo:=(c:Int)) (n:=m - c) (fun i σ H'=>∃ v:Option V,σ=[some (.ref l),some (.int c),v]∧H'=H∧∀ k,c≤k→k < c+i→a k c=0) ⟨none,rfl,rfl,fun k h1 h2=>by omega⟩ ?_ ?_
  ·rintro i σ H' hi ⟨v,rfl,rfl,hz⟩
   have ei:((c:Int)+(i:Nat)).toNat=c+i:=by omega
   refine ⟨_,rfl,_,rfl,l,_,_,_,rfl,rfl,g1,dH (by omega) (by omega),_,rfl,_,_,_,_,rfl,rfl,g2 _ (by omega),dH (by omega) (by omega),rfl,_,rfl,?_⟩
   by_cases z:a (c+i) c=0
   ·refine zU (by rw [ei,Int.toNat_natCast,z]) ?_
    refine ⟨_,rfl,rfl,fun k h1 h2=>?_⟩
    by_cases e:k=c+i
    ·rw [e];exact z
    ·exact hz k h1 (by omega)
   ·refine zV (fun e=>z (by have:=V.int.inj e;rwa [ei,Int.toNat_natCast] at this)) ?_
    refine ⟨_,rfl,?_⟩
    have:=q1 (c+i) (by omega) (by omega) z hz
    have e:((c+i:Nat):Int)=(c:Int)+(i:Nat):=by omega
    rw [e] at this
    exact this
  ·rintro σ H' ⟨v,rfl,rfl,hz⟩
   exact q2 fun i h1 h2=>hz i h1 (by omega)
def sL (K:PySem.W.Frag):Sp:=fun vs H Q _=>∃ (l:Addr) (m n c d:Nat) (a:My.nY),vs=[.ref l,.int c,.int d]∧rh K H l m n a∧c < m∧d < m∧m≤1000 ∧
 ∀ p H',H p=none→aK H H'→rh K H' p m n (My.swap a c d)→Q (.ref p) H'
theorem sM:aV ["table","one","other","rows"] ["table","one","other"] (aI kG):=⟨rfl,rfl,rfl,by decide +kernel,rfl,by decide +kernel,by decide +kernel⟩
theorem Ar (F:aT K mg "exchanged" kG) (T:Txt K mg t):Def P w K mg base 1 "exchanged" ["table","one","other"] (sL K):=by
 refine F.def sM (fun _ _ _ _ _ _ us hl=>match us,hl with | [_,_,_],_=>rfl) (fun vs H Q E h=>?_) (fun f bw A outer s H vs Q E hr h=>?_)
 ·obtain ⟨l,m,n,c,d,a,rfl,_⟩:=h
  rfl
 ·obtain ⟨l,m,n,c,d,a,rfl,⟨as,g1,g2⟩,hc,hd,hm,q⟩:=h
  refine ⟨_,aE (aX (i:=3) sM.nd rfl (Or.inl rfl) (df (gT K) (by rfl) T.qW boot_list (aC (pv 0) aF)))
   (aE (qP (aj (aR K) (pv 0) (pv 2) (fun _ _=>rfl)) (vw (pv 3) (pv 1) set_list))
   (aE (qP (aj (aR K) (pv 0) (pv 1) (fun _ _=>rfl)) (vw (pv 3) (pv 2) set_list))
   (aJ (ai (pv 3))))),?_⟩
  refine ⟨_,rfl,l,_,rfl,.inl g1,fun p hp=>?_⟩
  have s1:=(aK.refl H).new (o:=.lst (bD m as)) hp
  refine ⟨_,rfl,_,rfl,l,_,_,_,rfl,rfl,s1.seq g1,dH (by omega) (by omega),_,rfl,_,rfl,p,_,_,_,rfl,rfl,aD,wN (by omega) (by omega),?_⟩
  have s2:=s1.put (o:=.lst ((bD m as).set (c:Int).toNat (V.ref (as (d:Int).toNat)))) hp
  rw [rg (by omega)] at *
  refine ⟨_,rfl,_,rfl,l,_,_,_,rfl,rfl,s2.seq g1,dH (by omega) (by omega),_,rfl,_,rfl,p,_,_,_,rfl,rfl,aD,wN (by omega) (by omega),?_⟩
  rw [rg (by omega)]
  refine ⟨_,rfl,?_⟩
  refine q p _ hp (s2.put hp) ⟨fun i=>if i=d then as c else if i=c then as d else as i,ae.of ?_,fun i hi=>(s2.put hp).seq ?_⟩
  ·rw [aD]
   refine congrArg (fun l=>some (HO.lst l)) (ba fun i hi=>?_)
   rw [Int.toNat_natCast,Int.toNat_natCast]
   by_cases e:i=d
   ·simp [e]
   ·by_cases e2:i=c
    ·subst e2
     simp [e]
    ·simp [e,e2]
  ·unfold My.swap
   by_cases e:i=d
   ·subst e
    by_cases e2:i=c
    ·subst e2;simp;exact g2 i hi
    ·simp [e2];exact g2 c hc
   ·by_cases e2:i=c
    ·subst e2;simp [e];exact g2 d hd
    ·simp [e,e2];exact g2 i hi
def uz (K:PySem.W.Frag):Sp:=fun vs H Q _=>∃ (l b:Addr) (n:Nat) (f g:Nat→Int) (z:Int),vs=[.ref l,.ref b,.int z]∧ae K H l (tabI n f)∧ae K H b (tabI n g)∧n≤1000∧0≤z∧z < 97 ∧
 ∀ p H',H p=none→aK H H'→H' p=some (.lst (tabI n fun j=>(f j - z * g j) % 97))→Q (.ref p) H'
theorem Cd:aV ["row","head","times"] ["row","head","times"] (aI jP):=⟨rfl,rfl,rfl,by decide +kernel,rfl,by decide +kernel,by decide +kernel⟩
theorem Ce (F:aT K mg "lessened" jP) (T:Txt K mg t):Def P w K mg base 1 "lessened" ["row","head","times"] (uz K):=by
 refine F.def Cd (fun _ _ _ _ _ _ us hl=>match us,hl with | [_,_,_],_=>rfl) (fun vs H Q E h=>?_) (fun f bw A outer s H vs Q E hr h=>?_)
 ·obtain ⟨l,b,n,f,g,z,rfl,_⟩:=h
  rfl
 ·obtain ⟨l,b,n,f',g',z,rfl,hl,hb,hn,z0,z1,q⟩:=h
  refine ⟨_,aJ (ai (iJ rfl (Nc:=["sign","top","times"]) (ix:=[none,none,some 2]) (cG (aI jP) ["row","head","times"] rfl rfl (by decide +kernel)) (AR K (by rfl) T.GJ (aC (pv 0) (aC (pv 1) aF))) (fun C fp s H=>⟨(iw K (i:=0) (j:=1) rfl (show (["sign","top","times"]:List Str).Nodup by decide +kernel) rfl rfl (Or.inl rfl) (Or.inl rfl)),b6,(aM ay (aM d9 (pv 0) (aM cE (pv 2) (pv 1))) (aW T.cQ))⟩))),?_⟩
  have pf:(2000:Nat)≤sizeLine:=by decide
  refine ⟨_,rfl,_,rfl,l,b,rfl,⟨_,hl⟩,⟨_,hb⟩,fun D hD=>?_⟩
  refine F4 (K:=K) (a:=l) (b:=b) (n:=n) (F:=fun j=>V.int (f' j)) (G:=fun j=>V.int (g' j)) (fun i σ H'=>∃ v u:Option V,σ=[v,u,some (.int z)]∧aK H H'∧H' D=some (.lst (tabI i fun j=>(f' j - z * g' j) % 97))) ⟨none,none,rfl,(aK.refl _).new hD,aD⟩ (fun i σ H' _ ⟨_,_,_,s1,_⟩=>⟨s1.seq hl,s1.seq hb⟩) ?_ ?_
  ·rintro i p σ H' N hN hi ⟨v,u,rfl,s1,h1⟩ hp
   refine wM ?_
   have nD:D≠p:=aP h1 hp
   refine ⟨_,rfl,_,rfl,_,rfl,_,_,rfl,rfl,.inl ⟨by omega,by omega⟩,_,_,rfl,rfl,_,_,rfl,rfl,(by show (0:Int) < 97;decide),_,(by rw [aH nD];exact h1),by rw [aN];omega,?_⟩
   exact hN _ _ ⟨_,_,rfl,(s1.new hp).put hD,kC rfl⟩
  ·rintro σ H' ⟨v,u,rfl,s1,h1⟩
   exact q D H' hD s1 h1
def w8 (K:PySem.W.Frag):Sp:=fun vs H Q _=>∃ (l:Addr) (m n c:Nat) (a:My.nY),vs=[.ref l,.int c]∧rh K H l m n a∧c < m∧c < n∧m≤1000∧n≤1000∧(∀ i j,i < m→j < n→0≤a i j∧a i j < 97)∧a c c≠0 ∧
 ∀ p H',H p=none→aK H H'→rh K H' p m n (My.clear a c (My.P (a c c) 95))→Q (.ref p) H'
theorem mL:aV ["table","column","factor","head","rows"] ["table","column"] (aI jB):=⟨rfl,rfl,rfl,by decide +kernel,rfl,by decide +kernel,by decide +kernel⟩
theorem EF (F:aT K mg "cleared" jB) (T:Txt K mg t) (jE:Def P w K mg base 4 "inverse" ["a"] (qX t.BadSign)) (qZ:Def P w K mg base 1 "lessened" ["row","head","times"] (uz K)):Def P w K mg base 5 "cleared" ["table","column"] (w8 K):=by
 refine F.def mL (fun _ _ _ _ _ _ us hl=>match us,hl with | [_,_],_=>rfl) (fun vs H Q E h=>?_) (fun f bw A outer s H vs Q E hr h=>?_)
 ·obtain ⟨l,m,n,c,a,rfl,_⟩:=h
  rfl
 ·obtain ⟨l,m,n,c,a,rfl,⟨as,g1,g2⟩,QU,RX,hm,hn,ha,h0,q⟩:=h
  refine ⟨_,aE (aX (i:=2) mL.nd rfl (Or.inr rfl) (aY (jE.mono (by decide)) hr (lH bE) (aC (aj (aR K) (aj (aR K) (pv 0) (pv 1) (fun _ _=>rfl)) (pv 1) (fun _ _=>rfl)) aF)))
   (aE (aX (i:=3) mL.nd rfl (Or.inr rfl) (iJ rfl (Nc:=["sign","factor"]) (ix:=[none,some 2]) (cG (aI jB) ["table","column","factor","head","rows"] rfl rfl (by decide +kernel)) (bj K (aj (aR K) (pv 0) (pv 1) (fun _ _=>rfl))) (fun C fp s H=>⟨(aw (i:=0) (show (["sign","factor"]:List Str).Nodup by decide +kernel) rfl (Or.inl rfl)),b6,(aM ay (aM cE (pv 0) (pv 1)) (aW T.cQ))⟩)))
   (aE (jL (i:=4) mL.nd rfl (Or.inl rfl) rfl (Nc:=["row","head","column"]) (ix:=[none,some 3,some 1]) (cG (aI jB) ["table","column","factor","head","rows"] rfl rfl (by decide +kernel)) (bj K (pv 0)) (fun C fp s H=>⟨(aw (i:=0) (show (["row","head","column"]:List Str).Nodup by decide +kernel) rfl (Or.inl rfl)),b6,(aY (qZ.mono (by decide)) hr ao (aC (pv 0) (aC (pv 1) (aC (aj (aR K) (pv 0) (pv 2) (fun _ _=>rfl)) aF))))⟩))
   (aE (qP (pv 3) (vw (pv 4) (pv 1) set_list))
   (aJ (ai (pv 4)))))),?_⟩
  have pf:(2000:Nat)≤sizeLine:=by decide
  have ec:((c:Nat):Int).toNat=c:=Int.toNat_natCast c
  have Lf:=ha c c QU RX
  refine ⟨_,rfl,_,rfl,l,_,_,_,rfl,rfl,g1,dH (by omega) (by omega),_,rfl,_,_,_,_,rfl,rfl,g2 _ (by omega),dH (by omega) (by omega),_,rfl,?_,fun _=>?_,fun h=>absurd ?_ h⟩
  ·rw [ec];exact dg (by omega) (by omega)
  ·rw [ec]
   have f0:=My.TU (a c c) 95
   have f1:=My.QJ (a c c) 95
   generalize My.P (a c c) 95=Og at *
   refine ⟨_,rfl,_,rfl,l,_,_,_,rfl,rfl,g1,dH (by omega) (by omega),_,rfl,⟨_,g2 _ (by omega)⟩,fun D hD=>?_⟩
   rw [ec]
   refine tO (K:=K) (a:=as c) (n:=n) (F:=fun j=>V.int (a c j)) (fun i σ H'=>∃ v:Option V,σ=[v,some (.int Og)]∧aK H H'∧H' D=some (.lst (tabI i fun j=>a c j * Og % 97))) ⟨none,rfl,(aK.refl _).new hD,aD⟩ (fun i σ H' _ ⟨_,_,s1,_⟩=>s1.seq (g2 c QU)) ?_ ?_
   ·rintro i σ H' N hN hi ⟨v,rfl,s1,h1⟩
    have hb:=ha c i QU hi
    refine ck ?_
    refine ⟨_,rfl,_,rfl,_,_,rfl,rfl,.inl ⟨by omega,by omega⟩,_,_,rfl,rfl,(by show (0:Int) < 97;decide),_,h1,by rw [aN];omega,?_⟩
    exact hN _ _ ⟨_,rfl,s1.put hD,kC rfl⟩
   ·rintro σ H1 ⟨v,rfl,s1,h1⟩
    refine ⟨_,rfl,l,rfl,⟨_,s1.seq g1⟩,fun D2 Hw=>?_⟩
    have nDD:D≠D2:=aP h1 Hw
    refine tO (K:=K) (a:=l) (n:=m) (F:=fun i=>V.ref (as i)) (fun i σ H'=>∃ (v:Option V) (ps:Nat→Addr),σ=[v,some (.ref D),some (.int c)]∧aK H1 H'∧H' D2=some (.lst (bD i ps))∧∀ k,k < i→ae K H' (ps k) (tabI n fun j=>(a k j - a k c * (a c j * Og % 97)) % 97)∧ps k≠D2)
     ⟨none,as,rfl,(aK.refl _).new Hw,aD,fun k hk=>by omega⟩ (fun i σ H' _ ⟨_,_,_,s2,_⟩=>s2.seq (s1.seq g1)) ?_ ?_
    ·rintro i σ H' N hN hi ⟨v,ps,rfl,s2,h2,hp⟩
     have hb:=ha i c hi RX
     refine ck ?_
     refine ⟨_,rfl,_,rfl,_,rfl,_,rfl,as i,_,_,_,rfl,rfl,s2.seq (s1.seq (g2 i hi)),dH (by omega) (by omega),as i,D,n,a i,(fun j=>a c j * Og % 97),_,rfl,s2.seq (s1.seq (g2 i hi)),ae.of (s2 _ _ h1),hn,?_,?_,fun p H2 QV s3 h3=>?_⟩
     ·rw [ec];exact hb.1
     ·rw [ec];exact hb.2
     ·have np:D2≠p:=aP h2 QV
      refine ⟨_,s3 _ _ h2,by rw [aN];omega,?_⟩
      rw [bq]
      refine hN _ _ ⟨_,_,rfl,(s2.trans s3).put Hw,aD,fun k hk=>?_⟩
      by_cases e:k=i
      ·subst e
       simp only [if_true]
       refine ⟨ae.of ?_,Ne.symm np⟩
       rw [aH (Ne.symm np),h3,ec]
      ·simp only [e,if_false]
       obtain ⟨q1,q2⟩:=hp k (by omega)
       refine ⟨?_,q2⟩
       rcases s3.seq q1 with (z | ⟨o,z⟩) | z
       ·exact .inl (.inl (by rw [aH q2];exact z))
       ·exact .inl (.inr ⟨o,by rw [aH q2];exact z⟩)
       ·exact .inr z
    ·rintro σ H' ⟨v,ps,rfl,s2,h2,hp⟩
     refine ⟨_,rfl,_,rfl,_,rfl,D2,_,_,_,rfl,rfl,h2,wN (by omega) (by omega),?_⟩
     rw [rg (by omega),ec]
     refine ⟨_,rfl,?_⟩
     refine q D2 _ (s1.free Hw) ((s1.trans s2).put (s1.free Hw)) ⟨fun k=>if k=c then D else ps k,ae.of ?_,fun i hi=>?_⟩
     ·rw [aD]
      refine congrArg (fun l=>some (HO.lst l)) (ba fun k hk=>?_)
      by_cases e:k=c <;> simp [e]
     ·by_cases e:i=c
      ·subst e
       have e2:tabI n (My.clear a i Og i)=tabI n fun j=>a i j * Og % 97:=ba fun j hj=>by unfold My.clear;rw [if_pos rfl]
       simp only [if_true]
       rw [e2]
       exact ae.of (by rw [aH nDD];exact s2 _ _ h1)
      ·obtain ⟨q1,q2⟩:=hp i hi
       have e2:tabI n (My.clear a c Og i)=tabI n fun j=>(a i j - a i c * (a c j * Og % 97)) % 97:=ba fun j hj=>by unfold My.clear;rw [if_neg e]
       simp only [e,if_false]
       rw [e2]
       rcases q1 with (z | ⟨o,z⟩) | z
       ·exact .inl (.inl (by rw [aH q2];exact z))
       ·exact .inl (.inr ⟨o,by rw [aH q2];exact z⟩)
       ·exact .inr z
  ·rw [ec];exact ⟨by omega,Lf.2⟩
def iR (n:Nat) (a:My.nY) (b:Nat→Int):My.nY:=fun i j=>(if j < n then a i j else b i) % 97
theorem GN (n:Nat) (a:My.nY) (b:Nat→Int) (z:Nat→Int) (i:Nat):(97:Int) ∣ My.ip (n+1) (iR n a b i) z - (My.ip n (a i) z+b i * z n):=by
 have h1:My.ip (n+1) (iR n a b i) z=My.ip n (iR n a b i) z+iR n a b i n * z n:=by unfold My.ip;rw [My.sumTo]
 have h2:(97:Int) ∣ My.ip n (iR n a b i) z - My.ip n (a i) z:=My.CI fun j hj=>by unfold iR;rw [if_pos hj];exact My.fb _
 have h3:(97:Int) ∣ iR n a b i n * z n - b i * z n:=by
  have:(97:Int) ∣ (iR n a b i n - b i) * z n:=Int.dvd_trans (by unfold iR;rw [if_neg (Nat.lt_irrefl n)];exact My.fb _) (Int.dvd_mul_right _ _)
  rwa [Int.sub_mul] at this
 rw [h1]
 have:=Int.dvd_add h2 h3
 rwa [show My.ip n (iR n a b i) z - My.ip n (a i) z+(iR n a b i n * z n - b i * z n)=My.ip n (iR n a b i) z+iR n a b i n * z n - (My.ip n (a i) z+b i * z n) by omega] at this
theorem xA {n:Nat} {a:My.nY} {b:Nat→Int} {z:Nat→Int}:My.pS n (n+1) (iR n a b) z↔∀ i,i < n→(97:Int) ∣ My.ip n (a i) z+b i * z n:=by
 constructor
 ·intro k i hi
  have:=Int.dvd_sub (k i hi) (GN n a b z i)
  rwa [show My.ip (n+1) (iR n a b i) z - (My.ip (n+1) (iR n a b i) z - (My.ip n (a i) z+b i * z n))=My.ip n (a i) z+b i * z n by omega] at this
 ·intro k i hi
  have:=Int.dvd_add (k i hi) (GN n a b z i)
  rwa [show My.ip n (a i) z+b i * z n+(My.ip (n+1) (iR n a b i) z - (My.ip n (a i) z+b i * z n))=My.ip (n+1) (iR n a b i) z by omega] at this
theorem KZ (n:Nat) (r z:Nat→Int) (u:Int):My.ip n r (fun j=>if j < n then z j else u)=My.ip n r z:=My.bJ n fun j hj=>by simp [hj]
theorem Mv {n c:Nat} {a:My.nY} {b:Nat→Int} {u:My.nY} (hk:∀ z,My.pS n (n+1) u z↔My.pS n (n+1) (iR n a b) z) (h:My.Clear n c u) (hc:c < n) (hz:∀ i,c≤i→i < n→u i c=0):¬ My.vk n a:=by
 obtain ⟨z,k,z1,z2⟩:=h.stuck hc hz
 intro r
 have k2:=xA.mp ((hk z).mp k)
 have:=r z (fun i hi=>by have:=k2 i hi;rw [z2] at this;simpa using this) c hc
 rw [z1] at this
 omega
theorem EG {n:Nat} {a:My.nY} {b:Nat→Int} {u:My.nY} (hk:∀ z,My.pS n (n+1) u z↔My.pS n (n+1) (iR n a b) z) (h:My.Clear n n u):My.vk n a∧∀ i,i < n→(97:Int) ∣ My.ip n (a i) (fun j=>u j n) - b i:=by
 constructor
 ·intro z k j hj
  have k2:My.pS n (n+1) (iR n a b) (fun j=>if j < n then z j else 0):=xA.mpr fun i hi=>by
   rw [KZ]
   simp only [Nat.lt_irrefl,if_false,Int.mul_zero,Int.add_zero]
   exact k i hi
  have k3:=(hk _).mpr k2 j hj
  rw [h.full _ j hj] at k3
  simpa [hj] using k3
 ·intro i hi
  have k1:My.pS n (n+1) u (fun j=>if j < n then - u j n else 1):=fun i hi=>by
   rw [h.full _ i hi]
   simp only [hi,if_true,Nat.lt_irrefl,if_false]
   exact ⟨0,by omega⟩
  have k2:=xA.mp ((hk _).mp k1) i hi
  rw [KZ] at k2
  simp only [Nat.lt_irrefl,if_false,Int.mul_one] at k2
  have e:My.ip n (a i) (fun j=>- u j n)=- My.ip n (a i) (fun j=>u j n):=by
   have:=My.pR (-1) (fun j=>a i j * u j n) n
   unfold My.ip
   rw [show My.sumTo n (fun j=>a i j * - u j n)=My.sumTo n (fun j=>-1 * (a i j * u j n)) from My.bJ n fun j _=>by grind,this]
   show -1 * My.sumTo n (fun j=>a i j * u j n)=- My.sumTo n (fun j=>a i j * u j n)
   omega
  rw [e] at k2
  have:=Int.dvd_neg.mpr k2
  rwa [show -(-My.ip n (a i) (fun j=>u j n)+b i)=My.ip n (a i) (fun j=>u j n) - b i by omega] at this
theorem Ka {m n c:Nat} {a:My.nY} {f:Int}:∀ i j,i < m→j < n→0≤My.clear a c f i j∧My.clear a c f i j < 97:=fun i j _ _=>by
 unfold My.clear
 split <;> exact ⟨Int.emod_nonneg _ (by decide),Int.emod_lt_of_pos _ (by decide)⟩
theorem Mw {m n p q:Nat} {a:My.nY} (hp:p < m) (hq:q < m) (h:∀ i j,i < m→j < n→0≤a i j∧a i j < 97):∀ i j,i < m→j < n→0≤My.swap a p q i j∧My.swap a p q i j < 97:=fun i j hi hj=>by
 unfold My.swap
 split
 ·exact h q j hq hj
 ·split
  ·exact h p j hp hj
  ·exact h i j hi hj
def tY (K:PySem.W.Frag):Sp:=fun vs H Q _=>∃ (l r:Addr) (n:Nat) (a:My.nY) (b:Nat→Int),vs=[.ref l,.ref r]∧rh K H l n n a∧ae K H r (tabI n b)∧n≤100 ∧
 (My.vk n a→∀ p H' x,H p=none→aK H H'→H' p=some (.lst (tabI n x))→(∀ i,i < n→0≤x i∧x i < 97)→(∀ i,i < n→(97:Int) ∣ My.ip n (a i) x - b i)→Q (.ref p) H')∧(¬ My.vk n a→∀ H',aK H H'→Q .cB H')
theorem lS:aV ["rows","right","table","column","place"] ["rows","right"] (aI lK):=⟨rfl,rfl,rfl,by decide +kernel,rfl,by decide +kernel,by decide +kernel⟩
theorem Hx (F:aT K mg "solved" lK) (T:Txt K mg t) (qa:Def P w K mg base 1 "equation" ["row","side"] (uy K)) (kW:Def P w K mg base 1 "pivot_place" ["table","column"] (oM K))
  (oO:Def P w K mg base 1 "exchanged" ["table","one","other"] (sL K)) (tZ:Def P w K mg base 5 "cleared" ["table","column"] (w8 K)):Def P w K mg base 6 "solved" ["rows","right"] (tY K):=by
 refine F.def lS (fun _ _ _ _ _ _ us hl=>match us,hl with | [_,_],_=>rfl) (fun vs H Q E h=>?_) (fun f bw A outer s H vs Q E hr h=>?_)
 ·obtain ⟨l,r,n,a,b,rfl,_⟩:=h
  rfl
 ·obtain ⟨l,r,n,a,b,rfl,⟨as,g1,g2⟩,Rc,hn,q1,q2⟩:=h
  refine ⟨_,aE (jL (i:=2) lS.nd rfl (Or.inl rfl) rfl (Nc:=["row","side"]) (ix:=[none,none]) (cG (aI lK) ["rows","right","table","column","place"] rfl rfl (by decide +kernel)) (AR K (by rfl) T.GJ (aC (pv 0) (aC (pv 1) aF))) (fun C fp s H=>⟨(iw K (i:=0) (j:=1) rfl (show (["row","side"]:List Str).Nodup by decide +kernel) rfl rfl (Or.inl rfl) (Or.inl rfl)),b6,(aY (qa.mono (by decide)) hr ao (aC (pv 0) (aC (pv 1) aF)))⟩))
   (aE (PS.rS (cP PassesOwn.never rfl (bo (by rfl) T.cI (aC (bR (bM K) (by rfl) T.f6 boot_len (aC (pv 2) aF)) aF)) (aw (i:=3) lS.nd rfl (Or.inl rfl))
    (aE (aX (i:=4) lS.nd rfl (Or.inl rfl) (aY (kW.mono (by decide)) hr ao (aC (pv 2) (aC (pv 3) aF))))
    (aE (bO (aZ wB (pv 4) fW (af _))
     (aJ (ai fW))
     (aq))
    (aJ (aX (i:=2) lS.nd rfl (Or.inl rfl) (aY (tZ.mono (by decide)) hr ao (aC (aY (oO.mono (by decide)) hr ao (aC (pv 2) (aC (pv 3) (aC (pv 4) aF)))) (aC (pv 3) aF)))))))))
   (aJ (ai (iJ rfl (Nc:=["row"]) (ix:=[none]) (cG (aI lK) ["rows","right","table","column","place"] rfl rfl (by decide +kernel)) (bj K (pv 2)) (fun C fp s H=>⟨(aw (i:=0) (show (["row"]:List Str).Nodup by decide +kernel) rfl (Or.inl rfl)),b6,(aj (aR K) (pv 0) (Bf vy aG) (fun _ _=>rfl))⟩))))),?_⟩
  have pf:(2000:Nat)≤sizeLine:=by decide
  refine ⟨_,rfl,_,rfl,l,r,rfl,⟨_,g1⟩,⟨_,Rc⟩,fun D hD=>?_⟩
  refine F4 (K:=K) (a:=l) (b:=r) (n:=n) (F:=fun i=>V.ref (as i)) (G:=fun i=>V.int (b i)) (fun i σ H'=>∃ (v u:Option V) (ps:Nat→Addr),σ=[v,u]∧aK H H'∧H' D=some (.lst (bD i ps))∧∀ k,k < i→H' (ps k)=some (.lst (tabI (n+1) (iR n a b k)))∧ps k≠D)
   ⟨none,none,as,rfl,(aK.refl _).new hD,aD,fun k hk=>by omega⟩ (fun i σ H' _ ⟨_,_,_,_,s1,_⟩=>⟨s1.seq g1,s1.seq Rc⟩) ?_ ?_
  ·rintro i pt σ H' N hN hi ⟨v,u,ps,rfl,s1,h1,hp⟩ Tu
   refine wM ?_
   have nD:D≠pt:=aP h1 Tu
   have st:=(aK.refl H').new (o:=.tup [V.ref (as i),V.int (b i)]) Tu
   refine ⟨_,rfl,_,rfl,as i,n,a i,b i,rfl,st.seq (s1.seq (g2 i hi)),by omega,fun p H2 QV s2 h2=>?_⟩
   have s3:=st.trans s2
   have np:D≠p:=aP (st _ _ h1) QV
   refine ⟨_,s3 _ _ h1,by rw [aN];omega,?_⟩
   rw [bq]
   refine hN _ _ ⟨_,_,_,rfl,(s1.trans s3).put hD,aD,fun k hk=>?_⟩
   by_cases e:k=i
   ·subst e
    simp only [if_true]
    exact ⟨by rw [aH (Ne.symm np),h2];rfl,Ne.symm np⟩
   ·simp only [e,if_false]
    obtain ⟨z1,z2⟩:=hp k (by omega)
    exact ⟨by rw [aH z2];exact s3 _ _ z1,z2⟩
  ·rintro σ H1 ⟨v,u,ps,rfl,s1,h1,hp⟩
   have G0:rh K H1 D n (n+1) (iR n a b):=⟨ps,ae.of h1,fun i hi=>ae.of (hp i hi).1⟩
   refine ⟨_,rfl,D,_,rfl,.inl (ae.of h1),_,rfl,by omega,by rw [aN];omega,?_⟩
   have en:(((bD n ps).length:Nat):Int).toNat=n:=by rw [aN,Int.toNat_natCast]
   rw [en]
   refine cS (lo:=0) (n:=n) (fun c σ H'=>∃ (v v':Option V) (l':Addr) (u:My.nY),σ=[some (.ref l),some (.ref r),some (.ref l'),v,v']∧aK H1 H'∧rh K H' l' n (n+1) u∧(∀ i j,i < n→j < n+1→0≤u i j∧u i j < 97)∧My.Clear n c u∧∀ z,My.pS n (n+1) u z↔My.pS n (n+1) (iR n a b) z)
    ⟨none,none,D,iR n a b,rfl,aK.refl _,G0,fun i j _ _=>⟨Int.emod_nonneg _ (by decide),Int.emod_lt_of_pos _ (by decide)⟩,My.Clear.start _ _,fun z=>Iff.rfl⟩ ?_ ?_
   ·rintro c σ H' hc ⟨v,v',l',u,rfl,s2,G,hu,Oh,hk⟩
    have e0:(0:Int)+(c:Nat)=((c:Nat):Int):=by omega
    rw [e0]
    refine ⟨_,rfl,_,rfl,l',n,n+1,c,u,rfl,G,by omega,by omega,by omega,by omega,fun p Ao yM GL _=>?_,fun hz=>?_⟩
    ·refine ⟨_,rfl,rfl,_,rfl,dE (fun z=>nomatch z) ?_⟩
     refine ⟨_,rfl,_,rfl,_,rfl,l',n,n+1,c,p,u,rfl,G,hc,yM,by omega,fun x1 H2 yN s3 G2=>?_⟩
     have Va:My.swap u c p c c=u p c:=by unfold My.swap;rw [if_pos rfl]
     have Vd:=Mw (n:=n+1) hc yM hu
     have Tv:=Vd c c hc (by omega)
     refine ⟨_,rfl,x1,n,n+1,c,My.swap u c p,rfl,G2,hc,by omega,by omega,by omega,Vd,by rw [Va];exact GL,fun x2 H3 TB s4 G3=>?_⟩
     have hinv:(97:Int) ∣ My.P (My.swap u c p c c) 95 * My.swap u c p c c - 1:=by
      have:=My.OZ (a:=My.swap u c p c c) (by rw [Va] at *;omega) Tv.2
      omega
     exact ⟨_,_,x2,_,rfl,s2.trans (s3.trans s4),G3,Ka,(Oh.swap Ao yM).clear hc hinv,fun z=>(My.pS.clear hc hinv).trans ((My.pS.swap hc yM).trans (hk z))⟩
    ·refine ⟨_,rfl,rfl,_,rfl,dX rfl ?_⟩
     exact q2 (Mv hk Oh hc hz) H' (s1.trans s2)
   ·rintro σ H' ⟨v,v',l',u,rfl,s2,⟨bs,G1,G2⟩,hu,Oh,hk⟩
    obtain ⟨Mx,XY⟩:=EG hk Oh
    refine ⟨_,rfl,l',rfl,⟨_,G1⟩,fun D2 Hw=>?_⟩
    refine tO (K:=K) (a:=l') (n:=n) (F:=fun i=>V.ref (bs i)) (fun i σ H2=>∃ v:Option V,σ=[v]∧aK H' H2∧H2 D2=some (.lst (tabI i fun k=>u k n))) ⟨none,rfl,(aK.refl _).new Hw,aD⟩ (fun i σ H' _ ⟨_,_,s1,_⟩=>s1.seq G1) ?_ ?_
    ·rintro i σ H2 N hN hi ⟨v,rfl,s3,h3⟩
     refine ck ?_
     refine ⟨_,rfl,_,rfl,_,_,_,_,rfl,rfl,s3.seq (G2 i hi),Jr,_,h3,by rw [aN];omega,?_⟩
     exact hN _ _ ⟨_,rfl,s3.put Hw,kC rfl⟩
    ·rintro σ H2 ⟨v,rfl,s3,h3⟩
     have Tw:=(s1.trans s2)
     exact q1 Mx D2 H2 _ (Tw.free Hw) (Tw.trans s3) h3 (fun i hi=>hu i n hi (by omega)) XY
def qD (K:PySem.W.Frag):Sp:=fun vs H Q _=>∃ (l:Addr) (s:Nat→Int),vs=[.ref l]∧ae K H l (tabI 6 s)∧(∀ j,j < 6→0≤s j∧s j < 97) ∧
 ∀ p H',H p=none→aK H H'→H' p=some (.lst ((My.oA s).map fun k=>V.int (k:Nat)))→Q (.ref p) H'
theorem qE:aV ["sums","place"] ["sums"] (aI iz):=⟨rfl,rfl,rfl,by decide +kernel,rfl,by decide +kernel,by decide +kernel⟩
theorem yO (F:aT K mg "lone_place" iz) (T:Txt K mg t) (qb:Def P w K mg base 4 "exponent" ["a"] (uv t.BadSign)) (jE:Def P w K mg base 4 "inverse" ["a"] (qX t.BadSign)):Def P w K mg base 5 "lone_place" ["sums"] (qD K):=by
 refine F.def qE (fun _ _ _ _ _ _ us hl=>match us,hl with | [_],_=>rfl) (fun vs H Q E h=>?_) (fun f bw A outer s H vs Q E hr h=>?_)
 ·obtain ⟨l,s,rfl,_⟩:=h
  rfl
 ·obtain ⟨l,s,rfl,hl,bs,q⟩:=h
  refine ⟨_,aE (bO (PW.pt (Fe (aZ gQ (aj (aR K) (pv 0) aG (fun _ _=>rfl)) aG (af _)) (AE (aZ gQ (aj (aR K) (pv 0) aG (fun _ _=>rfl)) aG (af _)))))
    (aJ (ai (bI aF)))
    (aq))
   (aE (aX (i:=1) qE.nd rfl (Or.inl rfl) (aY (qb.mono (by decide)) hr ao (aC (aM ay (aM cE (aj (aR K) (pv 0) aG (fun _ _=>rfl)) (aY (jE.mono (by decide)) hr ao (aC (aj (aR K) (pv 0) aG (fun _ _=>rfl)) aF))) (aW T.cQ)) aF)))
   (aJ (ai (nu (aZ jJ (pv 1) (aW T.Aa) (af _)) (bI (aC (pv 1) aF)) (bI aF))))),?_⟩
  have b0:=bs 0 (by decide)
  have b1:=bs 1 (by decide)
  have a0:qA (tabI 6 s) 0=some (V.int (s 0)):=dH (n:=6) (by decide) (by decide)
  have a1:qA (tabI 6 s) 1=some (V.int (s 1)):=dH (n:=6) (by decide) (by decide)
  have q':∀ p,H p=none→Q (.ref p) (upd H p (.lst ((My.oA s).map fun k=>V.int (k:Nat)))):=fun p hp=>q p _ hp ((aK.refl _).new hp) aD
  refine ⟨_,rfl,l,_,_,_,rfl,rfl,hl,a0,rfl,_,rfl,?_⟩
  by_cases z0:s 0=0
  ·refine dX (by rw [z0]) (iu ?_)
   refine ⟨zz0,fun p hp=>?_⟩
   have:=q' p hp
   rwa [My.oA,if_pos (.inl z0)] at this
  ·refine dE (fun e=>z0 (V.int.inj e)) ?_
   refine ⟨_,rfl,l,_,_,_,rfl,rfl,hl,a1,rfl,_,rfl,?_⟩
   by_cases z1:s 1=0
   ·refine dX (by rw [z1]) ?_
    refine ⟨zz0,fun p hp=>?_⟩
    have:=q' p hp
    rwa [My.oA,if_pos (.inr z1)] at this
   ·refine dE (fun e=>z1 (V.int.inj e)) ?_
    have hinv:=My.Hj (a:=s 0) (by omega) b0.2
    have Tx:=My.QJ (s 0) 95
    have hv:=My.QK (a:=s 1) (b:=My.P (s 0) 95) (by omega) b1.2 hinv Tx
    have hv1:s 1 * My.P (s 0) 95 % 97 < 97:=Int.emod_lt_of_pos _ (by decide)
    refine ⟨_,rfl,l,_,_,_,rfl,rfl,hl,a1,_,rfl,l,_,_,_,rfl,rfl,hl,a0,s 0,rfl,dg (by omega) (by omega),fun _=>?_,fun h=>absurd ⟨by omega,b0.2⟩ h⟩
    refine ⟨_,_,rfl,rfl,.inl ⟨by omega,by omega⟩,_,_,rfl,rfl,(by show (0:Int) < 97;decide),_,rfl,dg (by omega) (by omega),fun _=>?_,fun h=>absurd ⟨hv,hv1⟩ h⟩
    have e0:=My.J9 (s 1 * My.P (s 0) 95 % 97)
    refine ⟨_,rfl,_,_,rfl,rfl,_,rfl,?_⟩
    by_cases hp:My.ex (s 1 * My.P (s 0) 95 % 97) < 24
    ·refine dX hp ?_
     refine ⟨_,rfl,zz1,fun p QV=>?_⟩
     have:=q' p QV
     rw [My.oA,if_neg (by omega),if_pos hp] at this
     have e1:[V.int (My.ex (s 1 * My.P (s 0) 95 % 97))]=([(My.ex (s 1 * My.P (s 0) 95 % 97)).toNat].map fun k=>V.int (k:Nat)):=by
      show _=[V.int (((My.ex (s 1 * My.P (s 0) 95 % 97)).toNat:Nat):Int)]
      rw [Int.toNat_of_nonneg e0]
     rw [e1]
     exact this
    ·refine dE hp ?_
     refine ⟨zz0,fun p QV=>?_⟩
     have:=q' p QV
     rwa [My.oA,if_neg (by omega),if_neg hp] at this
def xB:Sp:=fun vs H Q _=>∃ x t u:Int,vs=[.int x,.int t,.int u]∧0≤x∧x < 97∧0≤t∧t < 97∧Q (.bl (decide ((x * x - t * x+u) % 97=0))) H
theorem EH:aV ["point","total","product"] ["point","total","product"] (aI pV):=⟨rfl,rfl,rfl,by decide +kernel,rfl,by decide +kernel,by decide +kernel⟩
theorem EI (F:aT K mg "is_root" pV) (T:Txt K mg t):Def P w K mg base 1 "is_root" ["point","total","product"] xB:=by
 refine F.def EH (fun _ _ _ _ _ _ us hl=>match us,hl with | [_,_,_],_=>rfl) (fun vs H Q E h=>?_) (fun f bw A outer s H vs Q E hr h=>?_)
 ·obtain ⟨x,t,u,rfl,_⟩:=h
  rfl
 ·obtain ⟨x,tt,u,rfl,x0,x1,t0,t1,q⟩:=h
  refine ⟨_,aJ (ai (j8 gQ (aM ay (aM az (aM d9 (aM cE (pv 0) (pv 0)) (aM cE (pv 1) (pv 0))) (pv 2)) (aW T.cQ)) aG (af _))),?_⟩
  refine ⟨_,rfl,_,rfl,_,_,rfl,rfl,.inl ⟨by omega,by omega⟩,_,rfl,_,rfl,_,_,rfl,rfl,.inl ⟨by omega,by omega⟩,_,_,rfl,rfl,_,rfl,_,_,rfl,rfl,_,_,rfl,rfl,(by show (0:Int) < 97;decide),rfl,?_⟩
  have e:decide (V.int ((x * x - tt * x+u) % 97)=V.int 0)=decide ((x * x - tt * x+u) % 97=0):=decide_eq_decide.mpr ⟨fun h=>V.int.inj h,fun h=>by rw [h]⟩
  show Q (.bl (decide (V.int ((x * x - tt * x+u) % 97)=V.int 0))) H
  rw [e]
  exact q
def lT (K:PySem.W.Frag):Sp:=fun vs H Q _=>∃ (l:Addr) (s:Nat→Int),vs=[.ref l]∧ae K H l (tabI 6 s)∧(∀ j,j < 6→0≤s j∧s j < 97) ∧
 ∀ p H' ps,H p=none→aK H H'→H' p=some (.lst (ps.map fun k=>V.int (k:Nat)))→My.KL s ps→Q (.ref p) H'
theorem gi:aV ["sums","rows","pair"] ["sums"] (aI dO):=⟨rfl,rfl,rfl,by decide +kernel,rfl,by decide +kernel,by decide +kernel⟩
theorem tf (F:aT K mg "turned_places" dO) (T:Txt K mg t) (lU:Def P w K mg base 6 "solved" ["rows","right"] (tY K)) (mM:Def P w K mg base 5 "lone_place" ["sums"] (qD K)) (tj:Def P w K mg base 1 "is_root" ["point","total","product"] xB)
  (eZ:Def P w K mg base 3 "power" ["a","k"] (oH t.BadSign)):Def P w K mg base 7 "turned_places" ["sums"] (lT K):=by
 refine F.def gi (fun _ _ _ _ _ _ us hl=>match us,hl with | [_],_=>rfl) (fun vs H Q E h=>?_) (fun f bw A outer s H vs Q E hr h=>?_)
 ·obtain ⟨l,s,rfl,_⟩:=h
  rfl
 ·obtain ⟨l,s,rfl,hl,bs,q⟩:=h
  refine ⟨_,aE (aX (i:=1) gi.nd rfl (Or.inl rfl) (bI (aC (bI (aC (aj (aR K) (pv 0) aG (fun _ _=>rfl)) (aC (aM ay (Bf vy (aj (aR K) (pv 0) aG (fun _ _=>rfl))) (aW T.cQ)) aF))) (aC (bI (aC (aj (aR K) (pv 0) aG (fun _ _=>rfl)) (aC (aM ay (Bf vy (aj (aR K) (pv 0) aG (fun _ _=>rfl))) (aW T.cQ)) aF))) aF))))
   (aE (aX (i:=2) gi.nd rfl (Or.inr rfl) (aY (lU.mono (by decide)) hr ao (aC (pv 1) (aC (bI (aC (aj (aR K) (pv 0) aG (fun _ _=>rfl)) (aC (aj (aR K) (pv 0) aG (fun _ _=>rfl)) aF))) aF))))
   (aE (bO (aZ wB (pv 2) fW (af _))
    (aJ (ai (aY (mM.mono (by decide)) hr ao (aC (pv 0) aF))))
    (aq))
   (aJ (ai (iJ rfl (Nc:=["place","pair"]) (ix:=[none,some 2]) (cG (aI dO) ["sums","rows","pair"] rfl rfl (by decide +kernel)) (bo (by rfl) T.cI (aC (aW T.Aa) aF)) (fun C fp s H=>⟨(aw (i:=0) (show (["place","pair"]:List Str).Nodup by decide +kernel) rfl (Or.inl rfl)),(vg (tH (aY (tj.mono (by decide)) hr ao (aC (aY (eZ.mono (by decide)) hr ao (aC (aW T.GH) (aC (pv 0) aF))) (aC (aj (aR K) (pv 1) aG (fun _ _=>rfl)) (aC (aj (aR K) (pv 1) aG (fun _ _=>rfl)) aF)))))),(pv 0)⟩)))))),?_⟩
  have a0:qA (tabI 6 s) 0=some (V.int (s 0)):=dH (n:=6) (by decide) (by decide)
  have a1:qA (tabI 6 s) 1=some (V.int (s 1)):=dH (n:=6) (by decide) (by decide)
  have a2:qA (tabI 6 s) 2=some (V.int (s 2)):=dH (n:=6) (by decide) (by decide)
  have a3:qA (tabI 6 s) 3=some (V.int (s 3)):=dH (n:=6) (by decide) (by decide)
  have b4:∀ j,j < 4→0≤s j∧s j < 97:=fun j hj=>bs j (by omega)
  refine ⟨_,rfl,l,_,_,_,rfl,rfl,hl,a1,_,rfl,l,_,_,_,rfl,rfl,hl,a0,_,rfl,_,_,rfl,rfl,(by show (0:Int) < 97;decide),zz2,fun r1 Rc=>?_⟩
  have s1:=(aK.refl H).new (o:=.lst [V.int (s 1),V.int (-(s 0) % 97)]) Rc
  refine ⟨_,rfl,l,_,_,_,rfl,rfl,s1.seq hl,a2,_,rfl,l,_,_,_,rfl,rfl,s1.seq hl,a1,_,rfl,_,_,rfl,rfl,(by show (0:Int) < 97;decide),zz2,fun r2 GO=>?_⟩
  have s2:=s1.new (o:=.lst [V.int (s 2),V.int (-(s 1) % 97)]) GO
  refine ⟨zz2,fun r3 XZ=>?_⟩
  have s3:=s2.new (o:=.lst [V.ref r1,V.ref r2]) XZ
  have e1:(upd (upd (upd H r1 (.lst [V.int (s 1),V.int (-(s 0) % 97)])) r2 (.lst [V.int (s 2),V.int (-(s 1) % 97)])) r3 (.lst [V.ref r1,V.ref r2])) r1=some (.lst [V.int (s 1),V.int (-(s 0) % 97)]):=by
   have z:r1≠r2:=aP aD GO
   rw [aH (aP (by rw [aH z];exact aD) XZ),aH z];exact aD
  have e2:(upd (upd (upd H r1 (.lst [V.int (s 1),V.int (-(s 0) % 97)])) r2 (.lst [V.int (s 2),V.int (-(s 1) % 97)])) r3 (.lst [V.ref r1,V.ref r2])) r2=some (.lst [V.int (s 2),V.int (-(s 1) % 97)]):=by
   rw [aH (aP aD XZ)];exact aD
  have e3:(upd (upd (upd H r1 (.lst [V.int (s 1),V.int (-(s 0) % 97)])) r2 (.lst [V.int (s 2),V.int (-(s 1) % 97)])) r3 (.lst [V.ref r1,V.ref r2])) r3=some (.lst [V.ref r1,V.ref r2]):=aD
  generalize upd (upd (upd H r1 (.lst [V.int (s 1),V.int (-(s 0) % 97)])) r2 (.lst [V.int (s 2),V.int (-(s 1) % 97)])) r3 (.lst [V.ref r1,V.ref r2])=H3 at *
  refine ⟨_,rfl,_,rfl,l,_,_,_,rfl,rfl,s3.seq hl,a2,_,rfl,l,_,_,_,rfl,rfl,s3.seq hl,a3,zz2,fun r4 hr4=>?_⟩
  have s4:=(aK.refl H3).new (o:=.lst [V.int (s 2),V.int (s 3)]) hr4
  have G:rh K (upd H3 r4 (.lst [V.int (s 2),V.int (s 3)])) r3 2 2 (My.M s):=by
   refine ⟨fun i=>if i=0 then r1 else r2,ae.of (s4 _ _ e3),fun i hi=>?_⟩
   match i,hi with
   | 0,_=>exact ae.of (s4 _ _ e1)
   | 1,_=>exact ae.of (s4 _ _ e2)
  refine ⟨r3,r4,2,My.M s,fun i=>s (i+2),rfl,G,ae.of aD,by decide,fun Xa p5 H5 x Vk s5 h5 bx hx=>?_,fun Xa H5 s5=>?_⟩
  ·refine ⟨_,rfl,rfl,_,rfl,dE (fun z=>nomatch z) ?_⟩
   have sA:=(s3.trans s4).trans s5
   refine ⟨24,rfl,by decide,by decide,fun D hD=>?_⟩
   refine MR (n:=24) (by decide) (b:=My.GD (x 0) (x 1)) hD (fun i H6 N hi s6 hn=>?_) (fun i H6 N hi hn=>⟨_,rfl,hn⟩) fun H6 s6 h6=>?_
   ·have Rf:=bx 0 (by decide)
    refine ⟨_,rfl,5,_,rfl,by decide,by omega,fun _=>?_,fun h=>absurd (show (0:Int)≤5∧(5:Int) < 97 by decide) h⟩
    refine ⟨_,rfl,p5,_,_,_,rfl,rfl,ae.of (s6 _ _ h5),dH (n:=2) (by decide) (by decide),_,rfl,p5,_,_,_,rfl,rfl,ae.of (s6 _ _ h5),dH (n:=2) (by decide) (by decide),_,_,_,rfl,My.TU _ _,My.QJ _ _,Rf.1,Rf.2,_,rfl,?_⟩
    have e0:(0:Int)+(i:Nat)=(i:Nat):=by omega
    rw [e0]
    exact hn H6 (aK.refl _)
   ·exact q D H6 _ (sA.free hD) (sA.trans s6) h6 (My.KN Xa hx)
  ·refine ⟨_,rfl,rfl,_,rfl,dX rfl ?_⟩
   have sA:=(s3.trans s4).trans s5
   refine ⟨_,rfl,l,s,rfl,sA.seq hl,bs,fun p6 H6 Rg s6 h6=>?_⟩
   exact q p6 H6 _ (sA.free Rg) (sA.trans s6) h6 (My.Mm b4 Xa)
def u7 (K:PySem.W.Frag):Sp:=fun vs H Q _=>∃ (l r:Addr) (ps:List Nat) (s:Nat→Int),vs=[.ref l,.ref r]∧H l=some (.lst (ps.map fun k=>V.int (k:Nat)))∧ae K H r (tabI 6 s)∧ps.Nodup∧(∀ p ∈ ps,p < 24)∧ps.length≤2 ∧
 ∀ p H' x,H p=none→aK H H'→H' p=some (.lst (tabI ps.length x))→(∀ i,i < ps.length→0≤x i∧x i < 97)→(∀ i,i < ps.length→(97:Int) ∣ My.ip ps.length (fun q=>My.P 5 ((ps.getD q 0:Nat) * (1+(i:Int)))) x - s i)→Q (.ref p) H'
theorem u9:aV ["places","sums","rows"] ["places","sums"] (aI jR):=⟨rfl,rfl,rfl,by decide +kernel,rfl,by decide +kernel,by decide +kernel⟩
theorem Cf (F:aT K mg "turns_at" jR) (T:Txt K mg t) (lU:Def P w K mg base 6 "solved" ["rows","right"] (tY K)) (eZ:Def P w K mg base 3 "power" ["a","k"] (oH t.BadSign)):Def P w K mg base 7 "turns_at" ["places","sums"] (u7 K):=by
 refine F.def u9 (fun _ _ _ _ _ _ us hl=>match us,hl with | [_,_],_=>rfl) (fun vs H Q E h=>?_) (fun f bw A outer s H vs Q E hr h=>?_)
 ·obtain ⟨l,r,ps,s,rfl,_⟩:=h
  rfl
 ·obtain ⟨l,r,ps,s,rfl,hl,Rc,nd,hb,zY,q⟩:=h
  refine ⟨_,aE (jL (i:=2) u9.nd rfl (Or.inl rfl) rfl (Nc:=["j","places"]) (ix:=[none,some 0]) (cG (aI jR) ["places","sums","rows"] rfl rfl (by decide +kernel)) (pN (by rfl) T.cI (aC aG (aC (aM az (bR (bM K) (by rfl) T.f6 boot_len (aC (pv 0) aF)) aG) aF))) (fun C fp s H=>⟨(aw (i:=0) (show (["j","places"]:List Str).Nodup by decide +kernel) rfl (Or.inr rfl)),b6,(iJ rfl (Nc:=["place","j"]) (ix:=[none,some 0]) (cG _ ["j","places"] rfl rfl (by kernel_rfl)) (bj K (pv 1)) (fun C fp s H=>⟨(aw (i:=0) (show (["place","j"]:List Str).Nodup by decide +kernel) rfl (Or.inl rfl)),b6,(aY (eZ.mono (by decide)) hr ao (aC (aW T.GH) (aC (aM cE (pv 0) (pv 1)) aF)))⟩))⟩))
   (aJ (ai (aY (lU.mono (by decide)) hr ao (aC (pv 2) (aC (jK (jN K) (pv 1) vf (iD (bR (bM K) (by rfl) T.f6 boot_len (aC (pv 0) aF)))) aF))))),?_⟩
  have pf:(2000:Nat)≤sizeLine:=by decide
  rw [Bz] at hl
  generalize hn:ps.length=n at *
  have hg:∀ q,q < n→((ps.getD q 0:Nat):Int) < 24:=fun q hq=>by
   have:=hb (ps.getD q 0) (by rw [My.getD_get (by omega)];exact List.getElem_mem _)
   omega
  refine ⟨_,rfl,l,_,rfl,.inl (ae.of hl),_,_,rfl,rfl,1,_,rfl,⟨by decide,by decide,by rw [aN];omega,by rw [aN];omega⟩,fun D3 Vl=>?_⟩
  rw [show ((((tabI n fun q=>((ps.getD q 0:Nat):Int)).length:Nat):Int)+1 - 1).toNat=n by rw [aN];omega]
  refine jM (lo:=1) (n:=n) (fun j σ Hf=>∃ (v:Option V) (rs:Nat→Addr),σ=[v,some (.ref l)]∧aK H Hf∧Hf D3=some (.lst (bD j rs))∧∀ y,y < j→Hf (rs y)=some (.lst (tabI n fun q=>My.P 5 ((ps.getD q 0:Nat) * (1+(y:Int)))))∧rs y≠D3)
   ⟨none,fun _=>0,rfl,(aK.refl _).new Vl,aD,fun y hy=>by omega⟩ ?_ ?_
  ·rintro j σ Hf N hN hj ⟨v,rs,rfl,sf,Mz,e8⟩
   refine ck ?_
   refine ⟨_,rfl,l,rfl,⟨_,ae.of (sf _ _ hl)⟩,fun D4 Xb=>?_⟩
   have Zq:D3≠D4:=aP Mz Xb
   refine tO (K:=K) (a:=l) (n:=n) (F:=fun q=>V.int ((ps.getD q 0:Nat):Int)) (fun y σ Hg=>∃ v:Option V,σ=[v,some (.int (1+(j:Int)))]∧aK Hf Hg∧Hg D4=some (.lst (tabI y fun q=>My.P 5 ((ps.getD q 0:Nat) * (1+(j:Int))))))
    ⟨none,rfl,(aK.refl _).new Xb,aD⟩ (fun y σ Hg _ ⟨_,_,sg,_⟩=>ae.of (sg _ _ (sf _ _ hl))) ?_ ?_
   ·rintro y σ Hg N2 Zr hy ⟨v,rfl,sg,QW⟩
    refine ck ?_
    have hb:=hg y hy
    refine ⟨_,rfl,_,rfl,_,_,rfl,rfl,.inl ⟨by omega,by omega⟩,5,_,rfl,by decide,Int.mul_nonneg (by omega) (by omega),fun _=>?_,fun h=>absurd (show (0:Int)≤5∧(5:Int) < 97 by decide) h⟩
    refine ⟨_,QW,by rw [aN];omega,?_⟩
    exact Zr _ _ ⟨_,rfl,sg.put Xb,kC rfl⟩
   ·rintro σ Hg ⟨v,rfl,sg,QW⟩
    refine ⟨_,sg _ _ Mz,by rw [aN];omega,?_⟩
    rw [bq]
    refine hN _ _ ⟨_,_,rfl,(sf.trans sg).put Vl,aD,fun y hy=>?_⟩
    by_cases e:y=j
    ·subst e
     rw [if_pos rfl,aH (Ne.symm Zq)]
     exact ⟨QW,Ne.symm Zq⟩
    ·rw [if_neg e]
     obtain ⟨w1,w2⟩:=e8 y (by omega)
     rw [aH w2]
     exact ⟨sg _ _ w1,w2⟩
  ·rintro σ Hf ⟨v,rs,rfl,sf,Mz,e8⟩
   refine ⟨_,rfl,_,rfl,_,rfl,l,_,rfl,.inl (ae.of (sf _ _ hl)),_,rfl,r,_,rfl,sf.seq Rc,fun D5 hD5=>?_⟩
   rw [aN,show gP (tabI 6 s) none (some (n:Int))=tabI n s from qT (by omega)]
   have s5:=(aK.refl Hf).new (o:=.lst (tabI n s)) hD5
   have Mx:=My.GF nd hb
   rw [hn] at Mx
   refine ⟨D3,D5,n,(fun i q=>My.P 5 ((ps.getD q 0:Nat) * (1+(i:Int)))),s,rfl,⟨rs,ae.of (s5 _ _ Mz),fun i hi=>ae.of (s5 _ _ (e8 i hi).1)⟩,ae.of aD,by omega,fun _ pa Hh x GP sh hxa bx hxx=>?_,fun h=>absurd Mx h⟩
   have sA:=sf.trans s5
   exact q pa Hh x (sA.free GP) (sA.trans sh) hxa bx hxx
def zu (K:PySem.W.Frag):Sp:=fun vs H Q _=>∃ (l:Addr) (f:Nat→Int),vs=[.ref l]∧ae K H l (tabI 24 f)∧IsCell 24 f ∧
 (∀ g p H',My.qV f g→H p=none→aK H H'→H' p=some (.lst (tabI 24 g))→Q (.ref p) H')∧((∀ g,¬ My.qV f g)→∀ H',aK H H'→Q .cB H')
theorem M0 {f x:Nat→Int} {ps:List Nat} {k:Nat} (h:ps.getD k 0 < 24):(tabI 24 (My.wZ f ps x k)).set (ps.getD k 0) (V.int ((My.wZ f ps x k (ps.getD k 0) - x k) % 97))=tabI 24 (My.wZ f ps x (k+1)):=by
 rw [rg h]
 refine ba fun j _=>?_
 show _=V.int (if j=ps.getD k 0 then (My.wZ f ps x k (ps.getD k 0) - x k) % 97 else My.wZ f ps x k j)
 split <;> rfl
theorem lV:aV ["cell","sums","places","found","place","turn"] ["cell"] (aI sE):=⟨rfl,rfl,rfl,by decide +kernel,rfl,by decide +kernel,by decide +kernel⟩
theorem Hy (F:aT K mg "mended" sE) (T:Txt K mg t) (gh:Def P w K mg base 4 "troubles" ["cell"] (oI K)) (oP:Def P w K mg base 5 "is_sealed" ["cell"] (sI K)) (iS:Def P w K mg base 7 "turned_places" ["sums"] (lT K))
  (qd:Def P w K mg base 7 "turns_at" ["places","sums"] (u7 K)):Def P w K mg base 8 "mended" ["cell"] (zu K):=by
 refine F.def lV (fun _ _ _ _ _ _ us hl=>match us,hl with | [_],_=>rfl) (fun vs H Q E h=>?_) (fun f bw A outer s H vs Q E hr h=>?_)
 ·obtain ⟨l,f,rfl,_⟩:=h
  rfl
 ·obtain ⟨l,f,rfl,hl,cf,q1,q2⟩:=h
  refine ⟨_,aE (aX (i:=1) lV.nd rfl (Or.inl rfl) (aY (gh.mono (by decide)) hr ao (aC (pv 0) aF)))
   (aE (bO (aZ (F5 K (HL hr)) (pv 1) (aM AN (bI (aC aG aF)) (aW T.GI)) (af _))
    (aJ (ai (df (gT K) (by rfl) T.qW boot_list (aC (pv 0) aF))))
    (aq))
   (aE (aX (i:=2) lV.nd rfl (Or.inl rfl) (aY (iS.mono (by decide)) hr ao (aC (pv 1) aF)))
   (aE (aX (i:=3) lV.nd rfl (Or.inl rfl) (df (gT K) (by rfl) T.qW boot_list (aC (pv 0) aF)))
   (aE (PS.rS (cP PassesOwn.never rfl (AR K (by rfl) T.GJ (aC (pv 2) (aC (aY (qd.mono (by decide)) hr ao (aC (pv 2) (aC (pv 1) aF))) aF))) (iw K (i:=4) (j:=5) rfl lV.nd rfl rfl (Or.inl rfl) (Or.inl rfl))
    (aJ (qP (aM ay (aM d9 (aj (aR K) (pv 3) (pv 4) (fun _ _=>rfl)) (pv 5)) (aW T.cQ)) (vw (pv 3) (pv 4) set_list)))))
   (aJ (ai (nu (tH (aY (oP.mono (by decide)) hr ao (aC (pv 3) aF))) (pv 3) fW))))))),?_⟩
  have mp:∀ n (g:Nat→Int),tabI n g=((List.range n).map g).map V.int:=fun n g=>(vh n g).symm
  refine ⟨_,rfl,l,f,rfl,hl,cf,fun p1 H1 Ao s1 h1=>?_⟩
  have bs:∀ j,j < 6→0≤My.T (My.St j) 24 f∧My.T (My.St j) 24 f < 97:=fun j _=>⟨My.XN _ _ _,My.XO _ _ _⟩
  refine ⟨_,rfl,zz1,fun a1 To=>?_⟩
  refine ⟨a1,_,_,rfl,rfl,aD,by decide,by decide,by decide,fun a2 Tp=>?_⟩
  have s2:=((aK.refl H1).new (o:=.lst [V.int 0]) To).new (o:=.lst (List.replicate (6:Int).toNat [V.int 0]).flatten) Tp
  have Rh:=s2 _ _ h1
  refine ⟨p1,a2,(List.range 6).map fun j=>My.T (My.St j) 24 f,(List.range 6).map fun _=>0,rfl,rfl,ae.of (by rw [← mp];exact Rh),ae.of (by rw [aD];rfl),_,rfl,?_⟩
  have sA:=s1.trans s2
  generalize upd (upd H1 a1 (.lst [V.int 0])) a2 (.lst (List.replicate (6:Int).toNat [V.int 0]).flatten)=H2 at *
  by_cases hz:(List.range 6).map (fun j=>My.T (My.St j) 24 f)=(List.range 6).map fun _=>(0:Int)
  ·refine dX hz ?_
   have sl:My.bu f:=kP.mp (by unfold pX;exact decide_eq_true hz)
   refine ⟨_,rfl,l,_,rfl,.inl (sA.seq hl),fun p hp=>?_⟩
   exact q1 f p _ (My.qV.self cf.b sl) (sA.free hp) (sA.new hp) aD
  ·refine dE hz ?_
   have sl:¬ My.bu f:=fun z=>hz (by have:=kP.mpr z;unfold pX at this;exact of_decide_eq_true this)
   refine ⟨_,rfl,p1,_,rfl,ae.of Rh,bs,fun p3 H3 ps GL s3 h3 pl=>?_⟩
   have sB:=sA.trans s3
   refine ⟨_,rfl,l,_,rfl,.inl (sB.seq hl),fun p4 Vm=>?_⟩
   have s4:=(aK.refl H3).new (o:=.lst (tabI 24 f)) Vm
   have h4:(upd H3 p4 (.lst (tabI 24 f))) p4=some (.lst (tabI 24 f)):=aD
   have Tz:=s4 _ _ h3
   have h14:=s4 _ _ (s3 _ _ Rh)
   generalize hH4:upd H3 p4 (.lst (tabI 24 f))=H4 at *
   refine ⟨_,rfl,_,rfl,_,rfl,p3,p1,ps,_,rfl,Tz,ae.of h14,pl.nd,pl.b,pl.zY,fun p5 H5 x Vk s5 h5 bx hx=>?_⟩
   have Xc:=s5 _ _ Tz
   rw [Bz] at Xc
   have n45:p4≠p5:=aP h4 Vk
   refine ⟨p3,p5,rfl,⟨_,ae.of Xc⟩,⟨_,ae.of h5⟩,?_⟩
   have f3:H3 p4=none:=Vm
   have n43:p3≠p4:=aP h3 f3
   refine MQ (K:=K) (a:=p3) (b:=p5) (xs:=tabI ps.length fun q=>((ps.getD q 0:Nat):Int)) (ys:=tabI ps.length x) (by rw [aN,aN])
    (fun k σ H6=>∃ v1 v2:Option V,σ=[some (.ref l),some (.ref p1),some (.ref p3),some (.ref p4),v1,v2]∧aK H3 H6∧H6 p4=some (.lst (tabI 24 (My.wZ f ps x k)))∧H6 p3=some (.lst (tabI ps.length fun q=>((ps.getD q 0:Nat):Int)))∧H6 p5=some (.lst (tabI ps.length x)))
    ⟨none,none,rfl,s4.trans s5,s5 _ _ h4,Xc,h5⟩ (fun k σ H6 _ ⟨_,_,_,_,_,z3,z5⟩=>⟨ae.of z3,ae.of z5⟩) ?_ ?_
   ·rintro k u v pp σ H6 hu hv ⟨v1,v2,rfl,s6,h6,z3,z5⟩ QT
    obtain ⟨hk,rfl⟩:=tab_of hu
    obtain ⟨_,rfl⟩:=tab_of hv
    have hg:ps.getD k 0 < 24:=pl.b _ (by rw [My.getD_get hk];exact List.getElem_mem _)
    have np:p4≠pp:=aP h6 QT
    have n3:p3≠pp:=aP z3 QT
    have n5:p5≠pp:=aP z5 QT
    have Zs:(upd H6 pp (.tup [V.int ((ps.getD k 0:Nat):Int),V.int (x k)])) p4=some (.lst (tabI 24 (My.wZ f ps x k))):=by rw [aH np];exact h6
    refine lI (cD.of aD) ?_
    refine ⟨_,rfl,_,rfl,p4,_,_,_,rfl,rfl,ae.of Zs,dH (by dsimp only;omega) (by dsimp only;omega),_,rfl,_,_,rfl,rfl,_,_,rfl,rfl,(by show (0:Int) < 97;decide),_,rfl,_,rfl,p4,_,_,_,rfl,rfl,Zs,wN (by dsimp only;omega) (by dsimp only;omega),?_⟩
    dsimp only
    rw [Int.toNat_natCast,M0 hg]
    refine ⟨_,_,rfl,(s6.new QT).put f3,aD,?_,?_⟩
    ·rw [aH n43,aH n3];exact z3
    ·rw [aH (Ne.symm n45),aH n5];exact z5
   ·rintro σ H6 ⟨v1,v2,rfl,s6,h6,z3,z5⟩
    rw [aN] at h6
    have cfn:IsCell 24 (My.wZ f ps x ps.length):=⟨My.KO ps x cf.b ps.length⟩
    have sC:=sB.trans s6
    refine ⟨_,rfl,p4,_,rfl,ae.of h6,cfn,fun H7 s7=>⟨_,rfl,?_⟩⟩
    by_cases hs:My.bu (My.wZ f ps x ps.length)
    ·rw [kP.mpr hs]
     refine iu ?_
     refine ⟨_,rfl,?_⟩
     exact q1 _ p4 H7 (My.D6 cf.b pl.nd pl.zY hs) (sB.free f3) (sC.trans s7) (s7 _ _ h6)
    ·rw [ED hs]
     refine iI ?_
     refine q2 (fun g hm=>hs ?_) H7 (sC.trans s7)
     exact hm.sealed.congr fun i hi=>(My.Dz cf.b hm sl pl hx i hi).symm
inductive Ev where
 | mk (w:Str) (p:Int × Int) (ns:List Int)
 | took (xs:List Int)
structure Lk where
 q:Int
 s:Int
 d:Int
 u:Int
 b:Int
 k:Int
 p:Option (Int × Int)
 ev:List Ev
 bT:List (List Int)
 of:Int
 tk:Int
def cw (q s d u b k:Int) (pv:V) (tA pA:Addr) (o tk:Int):List (Str × V):=[("quiet",.int q),("side",.int s),("done",.int d),("unheard",.int u),("birth",.int b),("known",.int k),("pair",pv),("told",.ref tA),("pieces",.ref pA),("offered",.int o),("taken",.int tk)]
section
variable {q s d u b k x o tk:Int} {pv v:V} {tA pA y:Addr}
theorem GQ:(cw q s d u b k pv tA pA o tk).lookup ("quiet":Str)=some (.int q):=rfl
theorem QX:(cw q s d u b k pv tA pA o tk).lookup ("side":Str)=some (.int s):=rfl
theorem EJ:(cw q s d u b k pv tA pA o tk).lookup ("done":Str)=some (.int d):=rfl
theorem zv:(cw q s d u b k pv tA pA o tk).lookup ("unheard":Str)=some (.int u):=rfl
theorem sN:(cw q s d u b k pv tA pA o tk).lookup ("birth":Str)=some (.int b):=rfl
theorem pZ:(cw q s d u b k pv tA pA o tk).lookup ("known":Str)=some (.int k):=rfl
theorem oQ:(cw q s d u b k pv tA pA o tk).lookup ("pair":Str)=some pv:=rfl
theorem xC:(cw q s d u b k pv tA pA o tk).lookup ("told":Str)=some (.ref tA):=rfl
theorem oR:(cw q s d u b k pv tA pA o tk).lookup ("pieces":Str)=some (.ref pA):=rfl
theorem zw:(cw q s d u b k pv tA pA o tk).lookup ("offered":Str)=some (.int o):=rfl
theorem As:(cw q s d u b k pv tA pA o tk).lookup ("taken":Str)=some (.int tk):=rfl
theorem M3:eC "done" (.int x) (cw q s d u b k pv tA pA o tk)=cw q s x u b k pv tA pA o tk:=rfl
theorem EK:eC "unheard" (.int x) (cw q s d u b k pv tA pA o tk)=cw q s d x b k pv tA pA o tk:=rfl
theorem Kb:eC "birth" (.int x) (cw q s d u b k pv tA pA o tk)=cw q s d u x k pv tA pA o tk:=rfl
theorem Ci:eC "known" (.int x) (cw q s d u b k pv tA pA o tk)=cw q s d u b x pv tA pA o tk:=rfl
theorem GR:eC "pair" v (cw q s d u b k pv tA pA o tk)=cw q s d u b k v tA pA o tk:=rfl
theorem M4:eC "told" (.ref y) (cw q s d u b k pv tA pA o tk)=cw q s d u b k pv y pA o tk:=rfl
theorem Hz:eC "pieces" (.ref y) (cw q s d u b k pv tA pA o tk)=cw q s d u b k pv tA y o tk:=rfl
theorem xD:eC "offered" (.int x) (cw q s d u b k pv tA pA o tk)=cw q s d u b k pv tA pA x tk:=rfl
theorem Cj:eC "taken" (.int x) (cw q s d u b k pv tA pA o tk)=cw q s d u b k pv tA pA o x:=rfl
end
abbrev Lk.fld (L:Lk) (pv:V) (tA pA:Addr):List (Str × V):=cw L.q L.s L.d L.u L.b L.k pv tA pA L.of L.tk
def vA (B:Hp) (pv:V):Option (Int × Int)→Prop
 | none=>pv=.cB
 | some p=>∃ a,pv=.ref a∧B a=some (.tup [.int p.1,.int p.2])
def Ck (B:Hp) (a:Addr):Ev→Prop
 | .mk w p ns=>∃ pa,B a=some (.tup (.str w :: .ref pa :: ns.map V.int))∧B pa=some (.tup [.int p.1,.int p.2])
 | .took xs=>∃ l,B a=some (.tup [.str "took",.ref l])∧B l=some (.lst (xs.map V.int))
def GS (B H:Hp) (l:Addr) (es:List Ev):Prop:=∃ kX:Nat→Addr,H l=some (.lst (bD es.length kX))∧∀ y e,es[y]?=some e→Ck B (kX y) e
def qF (B H:Hp) (l:Addr) (ps:List (List Int)):Prop:=∃ gj:Nat→Addr,H l=some (.lst (bD ps.length gj))∧∀ y xs,ps[y]?=some xs→B (gj y)=some (.lst (xs.map V.int))
theorem vA.mono {B B':Hp} {pv:V} {o:Option (Int × Int)} (h:vA B pv o) (s:aK B B'):vA B' pv o:=by
 cases o with
 | none=>exact h
 | some p=>obtain ⟨a,e,g⟩:=h;exact ⟨a,e,s _ _ g⟩
theorem Ck.mono {B B':Hp} {a:Addr} {e:Ev} (h:Ck B a e) (s:aK B B'):Ck B' a e:=by
 cases e with
 | mk w p ns=>obtain ⟨pa,g1,g2⟩:=h;exact ⟨pa,s _ _ g1,s _ _ g2⟩
 | took xs=>obtain ⟨l,g1,g2⟩:=h;exact ⟨l,s _ _ g1,s _ _ g2⟩
structure bS (C:Addr) (B H:Hp) (x tA pA:Addr) (L:Lk):Prop where
 sb:aK B H
 bx:B x=none
 bt:B tA=none
 bp:B pA=none
 at_:∃ dx pv,H x=some (.ins C dx (L.fld pv tA pA))∧vA B pv L.p
 told:GS B H tA L.ev
 bT:qF B H pA L.bT
 ne:tA≠pA
def T3 (a b c:Addr) (H H':Hp):Prop:=∀ x o,x≠a→x≠b→x≠c→H x=some o→H' x=some o
theorem jU {H:Hp} {x b:Addr} {o:HO} (h:(upd H x o) b=none) (hx:H x≠none):H b=none:=by
 by_cases z:b=x
 ·subst z;rw [aD] at h;cases h
 ·rw [aH z] at h;exact h
structure jF (B H B' H':Hp) (x tA pA tB pB:Addr):Prop where
 bb:aK B B'
 no:∀ a,H a≠none→B a=none→B' a=none
 k:T3 x tA pA H H'
 g:∀ b,H' b=none→H b=none
 t:tB=tA∨H tB=none
 p:pB=pA∨H pB=none
theorem jF.refl {B H:Hp} {x tA pA:Addr}:jF B H B H x tA pA tA pA:=⟨aK.refl _,fun _ _ h=>h,fun _ _ _ _ _ h=>h,fun _ h=>h,.inl rfl,.inl rfl⟩
theorem jF.trans {B H B1 H1 B2 H2:Hp} {x tA pA tB pB tC pC:Addr} (a:jF B H B1 H1 x tA pA tB pB) (b:jF B1 H1 B2 H2 x tB pB tC pC):jF B H B2 H2 x tA pA tC pC:=by
 have ne:∀ {y z:Addr} {o:HO},H y=some o→y≠z→(∀ {w:Addr},(w=z∨H w=none)→y≠w):=fun {y z o} e n {w} h=>h.elim (fun q=>q ▸ n) (fun q=>aP e q)
 refine ⟨a.bb.trans b.bb,fun y h1 h2=>b.no y (fun z=>h1 (a.g y z)) (a.no y h1 h2),fun y o n1 n2 n3 e=>b.k y o n1 (ne e n2 a.t) (ne e n3 a.p) (a.k y o n1 n2 n3 e),fun y h=>a.g y (b.g y h),?_,?_⟩
 ·rcases b.t with z | z
  ·rw [z];exact a.t
  ·exact .inr (a.g _ z)
 ·rcases b.p with z | z
  ·rw [z];exact a.p
  ·exact .inr (a.g _ z)
theorem jF.of_same {B H H1:Hp} {x tA pA:Addr} (s:aK H H1):jF B H B H1 x tA pA tA pA:=⟨aK.refl _,fun _ _ h=>h,fun y o _ _ _ e=>s _ _ e,fun y h=>s.free h,.inl rfl,.inl rfl⟩
theorem jF.same {B H B1 H1 H2:Hp} {x tA pA tB pB:Addr} (a:jF B H B1 H1 x tA pA tB pB) (s:aK H1 H2):jF B H B1 H2 x tA pA tB pB:=a.trans (jF.of_same s)
section
variable {C:Addr} {B H H':Hp} {x tA pA:Addr} {L:Lk}
theorem bS.hx (h:bS C B H x tA pA L):H x≠none:=by obtain ⟨_,_,g,_⟩:=h.at_;rw [g];exact fun z=>by cases z
theorem bS.ht (h:bS C B H x tA pA L):H tA≠none:=by obtain ⟨_,g,_⟩:=h.told;rw [g];exact fun z=>by cases z
theorem bS.hp (h:bS C B H x tA pA L):H pA≠none:=by obtain ⟨_,g,_⟩:=h.bT;rw [g];exact fun z=>by cases z
theorem bS.xt (h:bS C B H x tA pA L):x≠tA:=fun z=>by obtain ⟨_,_,g,_⟩:=h.at_;obtain ⟨_,g2,_⟩:=h.told;rw [z,g2] at g;cases g
theorem bS.xp (h:bS C B H x tA pA L):x≠pA:=fun z=>by obtain ⟨_,_,g,_⟩:=h.at_;obtain ⟨_,g2,_⟩:=h.bT;rw [z,g2] at g;cases g
theorem bS.same (h:bS C B H x tA pA L) (s:aK H H'):bS C B H' x tA pA L:=by
 obtain ⟨dx,pv,g,gp⟩:=h.at_
 obtain ⟨kX,g2,Au⟩:=h.told
 obtain ⟨gj,g3,xE⟩:=h.bT
 exact ⟨h.sb.trans s,h.bx,h.bt,h.bp,⟨dx,pv,s _ _ g,gp⟩,⟨kX,s _ _ g2,Au⟩,⟨gj,s _ _ g3,xE⟩,h.ne⟩
theorem bS.grow {a:Addr} {o:HO} (h:bS C B H x tA pA L) (s:aK H H') (na:H a=none) (ea:H' a=some o):bS C (upd B a o) H' x tA pA L∧jF B H (upd B a o) H' x tA pA tA pA:=by
 have sB:aK B (upd B a o):=(aK.refl _).new (h.sb.free na)
 have no:∀ {b:Addr},H b≠none→B b=none→(upd B a o) b=none:=fun {b} hb e=>by rw [aH (fun z=>hb (by rw [z];exact na))];exact e
 have h1:=h.same s
 obtain ⟨dx,pv,g,gp⟩:=h1.at_
 obtain ⟨kX,g2,Au⟩:=h1.told
 obtain ⟨gj,g3,xE⟩:=h1.bT
 refine ⟨⟨?_,no h.hx h.bx,no h.ht h.bt,no h.hp h.bp,⟨dx,pv,g,gp.mono sB⟩,⟨kX,g2,fun y e he=>(Au y e he).mono sB⟩,⟨gj,g3,fun y xs hy=>sB _ _ (xE y xs hy)⟩,h.ne⟩,⟨sB,fun b=>no,fun y u _ _ _ e=>s _ _ e,fun y hy=>s.free hy,.inl rfl,.inl rfl⟩⟩
 intro b u e
 by_cases z:b=a
 ·rw [z] at e ⊢;rw [aD] at e;rw [ea];exact e
 ·rw [aH z] at e;exact h1.sb _ _ e
theorem bS.set {dx:Addr} {pv:V} {L':Lk} (h:bS C B H x tA pA L) (hp:vA B pv L'.p) (e:L'.ev=L.ev) (e2:L'.bT=L.bT) :
  bS C B (upd H x (.ins C dx (L'.fld pv tA pA))) x tA pA L'∧jF B H B (upd H x (.ins C dx (L'.fld pv tA pA))) x tA pA tA pA:=by
 obtain ⟨kX,g2,Au⟩:=h.told
 obtain ⟨gj,g3,xE⟩:=h.bT
 exact ⟨⟨h.sb.put h.bx,h.bx,h.bt,h.bp,⟨dx,pv,aD,hp⟩,by rw [e];exact ⟨kX,by rw [aH (Ne.symm h.xt)];exact g2,Au⟩,by rw [e2];exact ⟨gj,by rw [aH (Ne.symm h.xp)];exact g3,xE⟩,h.ne⟩,
  ⟨aK.refl _,fun _ _ z=>z,fun y o n1 _ _ e=>by rw [aH n1];exact e,fun b hb=>jU hb h.hx,.inl rfl,.inl rfl⟩⟩
theorem bS.tell {ea:Addr} {kX:Nat→Addr} {vs:List V} {e:Ev} (h:bS C B H x tA pA L) (g:H tA=some (.lst (bD L.ev.length kX))) (g':∀ y e,L.ev[y]?=some e→Ck B (kX y) e) (he:H ea=none) (IA:Ck (upd B ea (.tup vs)) ea e) :
  bS C (upd B ea (.tup vs)) (upd (upd H ea (.tup vs)) tA (.lst (bD L.ev.length kX ++ [.ref ea]))) x tA pA { L with ev:=L.ev ++ [e] } ∧
  jF B H (upd B ea (.tup vs)) (upd (upd H ea (.tup vs)) tA (.lst (bD L.ev.length kX ++ [.ref ea]))) x tA pA tA pA:=by
 have s1:aK H (upd H ea (.tup vs)):=(aK.refl _).new he
 obtain ⟨h1,m1⟩:=h.grow (o:=.tup vs) s1 he aD
 obtain ⟨dx,pv,gx,gp⟩:=h1.at_
 obtain ⟨gj,g3,xE⟩:=h1.bT
 have g1:=s1 _ _ g
 refine ⟨⟨h1.sb.put h1.bt,h1.bx,h1.bt,h1.bp,⟨dx,pv,by rw [aH h.xt];exact gx,gp⟩,?_,⟨gj,by rw [aH (Ne.symm h.ne)];exact g3,xE⟩,h.ne⟩,?_⟩
 ·refine ⟨fun y=>if y=L.ev.length then ea else kX y,by rw [bq];show _=some (HO.lst (bD (L.ev ++ [_]).length _));rw [List.length_append];exact aD,fun y e' hy=>?_⟩
  have hy:(L.ev ++ [e])[y]?=some e':=hy
  by_cases z:y=L.ev.length
  ·rw [z,List.getElem?_append_right (Nat.le_refl _),Nat.sub_self] at hy
   cases hy
   simp only [z,if_true]
   exact IA
  ·have T4:y < (L.ev ++ [e]).length:=(List.getElem?_eq_some_iff.mp hy).1
   rw [List.length_append] at T4
   have QY:y < L.ev.length:=by simp at T4;omega
   rw [List.getElem?_append_left QY] at hy
   simp only [z,if_false]
   exact (g' y e' hy).mono m1.bb
 ·exact m1.trans ⟨aK.refl _,fun _ _ z=>z,fun y o _ n2 _ e=>by rw [aH n2];exact e,fun b hb=>jU hb h1.ht,.inl rfl,.inl rfl⟩
theorem Kc {ea pa:Addr} {w:Str} {p:Int × Int} {ns:List Int} (hb:B ea=none) (hp:B pa=some (.tup [.int p.1,.int p.2])):Ck (upd B ea (.tup (.str w :: .ref pa :: ns.map V.int))) ea (.mk w p ns) :=
 ⟨pa,aD,by rw [aH (aP hp hb)];exact hp⟩
theorem M5 {ea l:Addr} {xs:List Int} (hb:B ea=none) (hl:B l=some (.lst (xs.map V.int))):Ck (upd B ea (.tup [.str "took",.ref l])) ea (.took xs) :=
 ⟨l,aD,by rw [aH (aP hl hb)];exact hl⟩
end
def QZ (L:Lk):Lk:={ L with p:=none,bT:=[],of:=0,tk:=0 }
def bC (L:Lk) (n:Int):Lk:=match L.p with
 | none=>{ L with k:=n }
 | some p=>if L.k < n then { L with p:=none,bT:=[],of:=0,tk:=0,k:=n,ev:=L.ev ++ [.mk "anew" p []] } else { L with k:=n }
def bH (L:Lk):Lk:=match L.p with
 | none=>{ L with p:=some (if L.s=0 then (L.b,L.k) else (L.k,L.b)),ev:=L.ev ++ [.mk "up" (if L.s=0 then (L.b,L.k) else (L.k,L.b)) []] }
 | some _=>L
def gR (L:Lk):Lk:=match L.p with
 | none=>{ L with b:=L.b+1,k:=0 }
 | some p=>{ L with p:=none,bT:=[],of:=0,tk:=0,b:=L.b+1,k:=0,ev:=L.ev ++ [.mk "silent" p [L.d - L.q+1,L.d]] }
def bF (L:Lk) (c:Int):Lk:=if L.bT≠[]∧c=(L.of+1) % 97 then { L with bT:=L.bT.tail,of:=(L.of+1) % 97 } else L
def bV (L:Lk) (n:Int) (xs:List Int):Lk:=if xs≠[]∧n=L.tk then { L with ev:=L.ev ++ [.took xs],tk:=(L.tk+1) % 97 } else L
structure Cl where
 b:Int
 k:Int
 n:Int
 c:Int
 xs:List Int
def ar (L:Lk) (a:Cl):Lk:=if a.b < L.k then L else if a.k=(bC L a.b).b then bV (bF (bH (bC L a.b)) a.c) a.n a.xs else bC L a.b
def cO (L:Lk):Cl:=⟨L.b,L.k,L.of,L.tk,L.bT.headD []⟩
def gm (C:Addr):Sp:=fun vs H Q _=>∃ (x dx:Addr) (fs:List (Str × V)),vs=[.ref x]∧H x=some (.ins C dx fs)∧fs.length < 900∧∀ pB,H pB=none→Q .cB (upd (upd H pB (.lst [])) x (.ins C dx (eC "taken" (.int 0) (eC "offered" (.int 0) (eC "pieces" (.ref pB) fs)))))
theorem xF (f:Str) (v:V):∀ fs:List (Str × V),(eC f v fs).length≤fs.length+1
 | []=>Nat.le_refl _
 | (g,x) :: r=>by
  unfold eC
  split
  ·rw [List.length_cons,List.length_cons];omega
  ·rw [List.length_cons,List.length_cons];have:=xF f v r;omega
theorem tm:aV ["self"] ["self"] (aI cT):=⟨rfl,rfl,rfl,by decide +kernel,rfl,by decide +kernel,by decide +kernel⟩
theorem tp {fd:FuncData} (T:Txt K mg t) (F:lF K "forget_pieces" "LinkEnd.forget_pieces" cT t.cU fd) :
  bz P w K mg base (j5 P w) 1 t.cU fd ["self"] (gm t.LinkEnd)∧Binds K fd ["self"] []:=by
 refine ⟨F.r9 tm (fun vs H Q E h=>?_) (fun f bw A outer s H vs Q E hr h=>?_),F.binds fun _ _ _ _ _ _ us hl=>match us,hl with | [_],_=>rfl⟩
 ·obtain ⟨x,dx,fs,rfl,_⟩:=h
  rfl
 ·obtain ⟨x,dx,fs,rfl,hx,hl,q⟩:=h
  refine ⟨_,aE (cH K (pv 0) (bI aF) (by rfl))
   (aE (cH K (pv 0) aG (by rfl))
   (aJ (cH K (pv 0) aG (by rfl)))),?_⟩
  refine ⟨zz0,fun pB Oi=>?_⟩
  have n1:x≠pB:=aP hx Oi
  have l1:=xF "pieces" (.ref pB) fs
  have l2:=xF "offered" (.int 0) (eC "pieces" (.ref pB) fs)
  refine ⟨_,rfl,x,t.LinkEnd,dx,fs,rfl,by rw [aH n1];exact hx,T.aO,T.jD,by omega,?_⟩
  refine ⟨_,rfl,x,t.LinkEnd,dx,_,rfl,aD,T.aO,T.mI,by omega,?_⟩
  rw [ir]
  refine ⟨_,rfl,x,t.LinkEnd,dx,_,rfl,aD,T.aO,T.oG,by omega,?_⟩
  rw [ir]
  exact q pB Oi
def tu (C:Addr):Sp:=fun vs H Q _=>∃ (B:Hp) (x tA pA:Addr) (L:Lk),vs=[.ref x]∧bS C B H x tA pA L∧∀ B' H' pB,jF B H B' H' x tA pA tA pB→bS C B' H' x tA pB (QZ L)→Q .cB H'
theorem IB:aV ["self"] ["self"] (aI lM):=⟨rfl,rfl,rfl,by decide +kernel,rfl,by decide +kernel,by decide +kernel⟩
theorem IC {fd Cn:FuncData} (T:Txt K mg t) (F:lF K "end_up" "LinkEnd.end_up" lM t.lP fd) (cV:bz P w K mg base (j5 P w) 1 t.cU Cn ["self"] (gm t.LinkEnd)) (cW:Binds K Cn ["self"] []) :
  bz P w K mg base (j5 P w) 2 t.lP fd ["self"] (tu t.LinkEnd)∧Binds K fd ["self"] []:=by
 refine ⟨F.r9 IB (fun vs H Q E h=>?_) (fun f bw A outer s H vs Q E hr h=>?_),F.binds fun _ _ _ _ _ _ us hl=>match us,hl with | [_],_=>rfl⟩
 ·obtain ⟨B,x,tA,pA,L,rfl,_⟩:=h
  rfl
 ·obtain ⟨B,x,tA,pA,L,rfl,h,q⟩:=h
  refine ⟨_,aE (cH K (pv 0) fW (by rfl))
   (aJ (av (cj (pv 0) T.aO T.lR (cV.mono (by decide)) hr cW .nil ao))),?_⟩
  obtain ⟨dx,pv,hx,hp⟩:=h.at_
  refine ⟨_,rfl,x,t.LinkEnd,dx,_,rfl,hx,T.aO,T.f9,by show 11 < 1000;decide,?_⟩
  rw [GR]
  obtain ⟨h1,m1⟩:=h.set (dx:=dx) (pv:=.cB) (L':={ L with p:=none }) rfl rfl rfl
  refine ⟨_,rfl,x,dx,_,rfl,aD,rfl,x,dx,_,rfl,aD,by show 11 < 900;decide,fun pB Oi=>?_⟩
  rw [Hz,xD,Cj]
  have h1:bS t.LinkEnd B (upd H x (.ins t.LinkEnd dx (cw L.q L.s L.d L.u L.b L.k .cB tA pA L.of L.tk))) x tA pA { L with p:=none }:=h1
  have m1:jF B H B (upd H x (.ins t.LinkEnd dx (cw L.q L.s L.d L.u L.b L.k .cB tA pA L.of L.tk))) x tA pA tA pA:=m1
  generalize upd H x (.ins t.LinkEnd dx (cw L.q L.s L.d L.u L.b L.k .cB tA pA L.of L.tk))=H1 at *
  have s2:aK H1 (upd H1 pB (.lst [])):=(aK.refl _).new Oi
  have h2:=h1.same s2
  have T5:tA≠pB:=fun z=>h1.ht (z ▸ Oi)
  have M6:x≠pB:=fun z=>h1.hx (z ▸ Oi)
  obtain ⟨kX,g,g'⟩:=h2.told
  refine q B _ pB (m1.trans ⟨aK.refl _,fun _ _ z=>z,fun y o n1 n2 n3 e=>by rw [aH n1];exact s2 _ _ e,fun b hb=>s2.free (jU hb h2.hx),.inl rfl,.inr Oi⟩)
   ⟨h2.sb.put h2.bx,h.bx,h.bt,h1.sb.free Oi,⟨dx,.cB,aD,rfl⟩,⟨kX,by rw [aH (Ne.symm h2.xt)];exact g,g'⟩,⟨fun _=>0,by rw [aH (Ne.symm M6)];exact aD,fun y xs hy=>by cases hy⟩,T5⟩
def GU (C:Addr):Sp:=fun vs H Q _=>∃ (B:Hp) (x tA pA:Addr) (L:Lk) (n:Int),vs=[.ref x,.int n]∧bS C B H x tA pA L∧L.ev.length < 1000000∧∀ B' H' pB,jF B H B' H' x tA pA tA pB→bS C B' H' x tA pB (bC L n)→Q .cB H'
theorem M7:aV ["self","birth"] ["self","birth"] (aI tW):=⟨rfl,rfl,rfl,by decide +kernel,rfl,by decide +kernel,by decide +kernel⟩
theorem M8 {fd Cn:FuncData} (T:Txt K mg t) (F:lF K "meet" "LinkEnd.meet" tW t.wc fd) (lW:bz P w K mg base (j5 P w) 2 t.lP Cn ["self"] (tu t.LinkEnd)) (lX:Binds K Cn ["self"] []) :
  bz P w K mg base (j5 P w) 3 t.wc fd ["self","birth"] (GU t.LinkEnd)∧Binds K fd ["self","birth"] []:=by
 refine ⟨F.r9 M7 (fun vs H Q E h=>?_) (fun f bw A outer s H vs Q E hr h=>?_),F.binds fun _ _ _ _ _ _ us hl=>match us,hl with | [_,_],_=>rfl⟩
 ·obtain ⟨B,x,tA,pA,L,n,rfl,_⟩:=h
  rfl
 ·obtain ⟨B,x,tA,pA,L,n,rfl,h,hlen,q⟩:=h
  refine ⟨_,aE (bO (PW.pt (AF (aZ AG (ax K (pv 0) (by rfl)) fW (af _)) (ve (aZ Bh (pv 1) (ax K (pv 0) (by rfl)) (af _)))))
    (aE (av (eg K PySem.F.plainAttrs_list PySem.F.slot_list_append PySem.F.type_list_append bZ (ax K (pv 0) (by rfl)) (aC (bK (aC cy (aC (ax K (pv 0) (by rfl)) aF))) aF)))
    (aJ (av (cj (pv 0) T.aO T.zo (lW.mono (by decide)) hr lX .nil ao))))
    (aq))
   (aJ (cH K (pv 0) (pv 1) (by rfl))),?_⟩
  have pf:(1000001:Nat)≤sizeLine:=by decide
  obtain ⟨dx,pv,hx,hp⟩:=h.at_
  have last:∀ (B1 H1:Hp) (pB:Addr) (L1:Lk),jF B H B1 H1 x tA pA tA pB→bS t.LinkEnd B1 H1 x tA pB L1→{ L1 with k:=n }=bC L n→(JX K (qN 0) (qN 1) "known") { nx:=fun _ H'=>Q .cB H',rt:=Q } [some (.ref x),some (.int n)] H1:=fun B1 H1 pB L1 m1 h1 e1=>by
   obtain ⟨xG,M9,yN,Ao⟩:=h1.at_
   refine ⟨_,rfl,_,rfl,x,t.LinkEnd,xG,_,rfl,yN,T.aO,T.f7,by show 11 < 1000;decide,?_⟩
   rw [Ci]
   obtain ⟨h2,m2⟩:=h1.set (dx:=xG) (pv:=M9) (L':={ L1 with k:=n }) Ao rfl rfl
   exact q B1 _ pB (m1.trans m2) (by rw [← e1];exact h2)
  refine ⟨_,rfl,x,t.LinkEnd,dx,_,_,rfl,hx,T.aO,T.f9,oQ,rfl,_,rfl,?_⟩
  cases ep:L.p with
  | none =>
   rw [ep] at hp
   have hp:pv=.cB:=hp
   subst hp
   refine zU rfl (iI ?_)
   exact last B H pA L jF.refl h (by unfold bC;rw [ep])
  | some p =>
   rw [ep] at hp
   obtain ⟨pa,rfl,GP⟩:=hp
   refine zV (fun z=>by cases z) ?_
   refine ⟨_,rfl,_,rfl,x,t.LinkEnd,dx,_,_,rfl,hx,T.aO,T.f7,pZ,_,_,rfl,rfl,_,rfl,?_⟩
   by_cases hk:L.k < n
   ·refine dX hk ?_
    obtain ⟨kX,g,g'⟩:=h.told
    refine ⟨_,rfl,x,t.LinkEnd,dx,_,_,rfl,hx,T.aO,T.mH,xC,.inl ⟨rfl,_,ae.of g⟩,?_⟩
    refine ⟨_,rfl,x,t.LinkEnd,dx,_,_,rfl,hx,T.aO,T.f9,oQ,zz2,fun ea EL=>?_⟩
    refine ⟨tA,_,_,rfl,rfl,by rw [aH (aP g EL)];exact g,by rw [aN];omega,?_⟩
    obtain ⟨h1,m1⟩:=h.tell g g' EL (Kc (w:="anew") (ns:=[]) (h.sb.free EL) GP)
    obtain ⟨xG,M9,yN,Ao⟩:=h1.at_
    refine ⟨_,rfl,x,xG,_,rfl,yN,rfl,_,x,tA,pA,_,rfl,h1,fun B2 H2 pB m2 h2=>?_⟩
    exact last B2 H2 pB _ (m1.trans m2) h2 (by unfold bC QZ;rw [ep];simp only [if_pos hk])
   ·refine dE hk ?_
    exact last B H pA L jF.refl h (by unfold bC;rw [ep];simp only [if_neg hk])
end
end K35
namespace My
def told (l:List Int):Int:=l.foldl (fun n s=>n * 97+s) 0
def low:Nat→Int→List Int
 | 0,_=>[]
 | m+1,n=>n % 97 :: low m (n / 97)
def rest:Nat→Int→Int
 | 0,n=>n
 | m+1,n=>rest m (n / 97)
theorem GV:∀ (m:Nat) (n:Int),(low m n).length=m
 | 0,_=>rfl
 | m+1,n=>by rw [low,List.length_cons,GV]
theorem Co:∀ (m:Nat) (n:Int),low (m+1) n=low m n ++ [rest m n % 97]
 | 0,n=>rfl
 | m+1,n=>by rw [low,Co m (n / 97),low,rest,List.cons_append]
theorem zx:∀ (m:Nat) (n:Int),rest (m+1) n=rest m n / 97
 | 0,n=>rfl
 | m+1,n=>by rw [rest,zx m (n / 97),rest]
theorem ID (l:List Int) (s:Int):told (l ++ [s])=told l * 97+s:=by unfold told;rw [List.foldl_append];rfl
theorem vB:∀ (m:Nat) (n:Int),0≤n→0≤rest m n
 | 0,n,h=>by rw [rest];exact h
 | m+1,n,h=>by rw [rest];exact vB m _ (by omega)
end My
namespace K35
open PySem L2 PyProof.Rows
section
variable {P:Program} {w:World} {K:PySem.W.Frag} {mg:Str→Option Value} {base:Heap} {t:Ad}
def nQ (C:Addr):Sp:=fun vs H Q E=>∃ n m:Int,vs=[.int n,.int m]∧n.natAbs < 2 ^ 1000∧0≤m∧m≤1000 ∧
 (0≤n→My.rest m.toNat n=0→∀ p H',H p=none→aK H H'→H' p=some (.lst ((My.low m.toNat n).reverse.map V.int))→Q (.ref p) H')∧(n < 0∨0 < My.rest m.toNat n→∀ H',aK H H'→E (.ref C) none H')
theorem dP:aV ["number","many","signs","left","place"] ["number","many"] (aI ff):=⟨rfl,rfl,rfl,by decide +kernel,rfl,by decide +kernel,by decide +kernel⟩
theorem vO (F:aT K mg "number_signs" ff) (T:Txt K mg t):Def P w K mg base 1 "number_signs" ["number","many"] (nQ t.BadSign):=by
 refine F.def dP (fun _ _ _ _ _ _ us hl=>match us,hl with | [_,_],_=>rfl) (fun vs H Q E h=>?_) (fun f bw A outer s H vs Q E hr h=>?_)
 ·obtain ⟨n,m,rfl,_⟩:=h
  rfl
 ·obtain ⟨n,m,rfl,hb,m0,m1,q1,q2⟩:=h
  refine ⟨_,aE (aX (i:=2) dP.nd rfl (Or.inl rfl) (bI aF))
   (aE (aX (i:=3) dP.nd rfl (Or.inl rfl) (pv 0))
   (aE (PS.rS (cP PassesOwn.never rfl (bo (by rfl) T.cI (aC (pv 1) aF)) (aw (i:=4) dP.nd rfl (Or.inl rfl))
    (aE (av (OM PySem.F.plainAttrs_list PySem.F.slot_list_append PySem.F.type_list_append bZ (pv 2) (aC (aM ay (pv 3) (aW T.cQ)) aF)))
    (aJ (aX (i:=3) dP.nd rfl (Or.inl rfl) (aM cF (pv 3) (aW T.cQ)))))))
   (aE (bO (PW.pt (Fe (aZ jJ (pv 0) aG (af _)) (AE (aZ Bh (pv 3) aG (af _)))))
    (aJ (eY bE rfl rfl T.wm T.wo PySem.F.excBase_ValueError (aC (j9 (bY (fZ (pv 0)) (bY cy (bY (fZ (pv 1)) (bY cy n8))))) aF)))
    (aq))
   (aJ (ai (tN rfl T.qW T.wk (pv 2))))))),?_⟩
  refine ⟨zz0,fun ps IE=>?_⟩
  refine ⟨_,rfl,?_⟩
  have pf:(2000:Nat)≤sizeLine:=by decide
  refine ⟨_,rfl,m,rfl,by omega,by omega,cS (lo:=0) (n:=m.toNat) (fun i σ H'=>∃ x:Option V,σ=[some (.int n),some (.int m),some (.ref ps),some (.int (My.rest i n)),x]∧aK H H'∧H' ps=some (.lst ((My.low i n).map V.int))) ⟨none,rfl,(aK.refl _).new IE,aD⟩ ?_ ?_⟩
  ·rintro i σ H' hi ⟨x,rfl,s1,h1⟩
   refine ⟨_,rfl,.inl ⟨rfl,_,ae.of h1⟩,_,rfl,_,_,rfl,rfl,(by show (0:Int) < 97;decide),ps,_,_,rfl,rfl,h1,by rw [List.length_map,My.GV];omega,?_⟩
   refine ⟨_,rfl,_,_,rfl,rfl,⟨by decide,by decide⟩,?_⟩
   refine ⟨_,by rw [My.zx];rfl,s1.put IE,?_⟩
   rw [aD,My.Co,List.map_append]
   rfl
  ·rintro σ H' ⟨x,rfl,s1,h1⟩
   refine ⟨_,rfl,_,_,rfl,rfl,_,rfl,?_⟩
   have hz:=gB hb
   have hz2:=gB (i:=m) (dg (by omega) (by omega))
   have l1:(" is not told by ":Str).length=16:=by decide +kernel
   have l2:(" signs":Str).length=6:=by decide +kernel
   have sl:(3000:Nat)≤sizeLine:=by decide
   have e0:(Str.empty ++ Str.ofString (toString n)).length≤1001:=by rw [strLen_append];show 0+_≤1001;omega
   have e1:((Str.empty ++ Str.ofString (toString n)) ++ (" is not told by ":Str)).length≤1017:=by rw [strLen_append];omega
   have e2:(((Str.empty ++ Str.ofString (toString n)) ++ (" is not told by ":Str)) ++ Str.ofString (toString m)).length≤2018:=by rw [strLen_append];omega
   have e3:((((Str.empty ++ Str.ofString (toString n)) ++ (" is not told by ":Str)) ++ Str.ofString (toString m)) ++ (" signs":Str)).length≤2024:=by rw [strLen_append];omega
   have bad:n < 0∨0 < My.rest m.toNat n→E (.ref t.BadSign) none H':=fun z=>q2 z H' s1
   by_cases h0:n < 0
   ·refine dX h0 (iu ?_)
    refine ⟨_,rfl,n,rfl,dR hb (by decide) (by decide),_,rfl,by omega,_,rfl,by omega,_,rfl,m,rfl,dR (dg (by omega) (by omega)) (by decide) (by decide),_,rfl,by omega,_,rfl,by omega,by omega,?_⟩
    exact ⟨zz1,bad (.inl h0)⟩
   ·refine dE h0 ?_
    refine ⟨_,rfl,_,_,rfl,rfl,_,rfl,?_⟩
    by_cases h2:0 < My.rest m.toNat n
    ·refine dX h2 ?_
     refine ⟨_,rfl,n,rfl,dR hb (by decide) (by decide),_,rfl,by omega,_,rfl,by omega,_,rfl,m,rfl,dR (dg (by omega) (by omega)) (by decide) (by decide),_,rfl,by omega,_,rfl,by omega,by omega,?_⟩
     exact ⟨zz1,bad (.inr h2)⟩
    ·refine dE h2 ?_
     have r0:=My.vB m.toNat n (by omega)
     refine ⟨_,rfl,ps,_,rfl,ae.of h1,fun p hp=>?_⟩
     refine q1 (by omega) (by omega) p _ (s1.free hp) (s1.new hp) ?_
     rw [aD,← List.map_reverse]
def nR (K:PySem.W.Frag) (C:Addr):Sp:=fun vs H Q E=>∃ (l:Addr) (ns:List Int),vs=[.ref l]∧ae K H l (ns.map V.int)∧(∀ n ∈ ns,n.natAbs < 2 ^ 1000) ∧
 ((∀ n ∈ ns,0≤n∧n < 97)→Q (.int (My.told ns)) H)∧(∀ n ∈ ns,¬ (0≤n∧n < 97)→E (.ref C) none H)
theorem ed:aV ["signs","number","sign"] ["signs"] (aI fg):=⟨rfl,rfl,rfl,by decide +kernel,rfl,by decide +kernel,by decide +kernel⟩
theorem vP (F:aT K mg "signs_number" fg) (T:Txt K mg t) (dc:Def P w K mg base 2 "look_sign" ["number"] (i7 t.BadSign)):Def P w K mg base 3 "signs_number" ["signs"] (nR K t.BadSign):=by
 refine F.def ed (fun _ _ _ _ _ _ us hl=>match us,hl with | [_],_=>rfl) (fun vs H Q E h=>?_) (fun f bw A outer s H vs Q E hr h=>?_)
 ·obtain ⟨l,ns,rfl,_⟩:=h
  rfl
 ·obtain ⟨l,ns,rfl,hl,hb,q1,q2⟩:=h
  refine ⟨_,aE (aX (i:=1) ed.nd rfl (Or.inl rfl) aG)
   (aE (cP (P4 bE) rfl (Fg (pv 0)) (aw (i:=2) ed.nd rfl (Or.inl rfl))
    (aE (av (aY (dc.mono (by decide)) hr (lH bE) (aC (pv 2) aF)))
    (aJ (aX (i:=1) ed.nd rfl (Or.inl rfl) (aM az (aM cE (pv 1) (aW T.cQ)) (pv 2))))))
   (aJ (ai (pv 1)))),?_⟩
  refine ⟨_,rfl,l,rfl,⟨_,hl⟩,lG (K:=K) (a:=l) (xs:=ns.map V.int) (fun i σ H'=>∃ x:Option V,σ=[some (.ref l),some (.int (My.told (ns.take i))),x]∧H'=H∧∀ n ∈ ns.take i,0≤n∧n < 97) ⟨none,rfl,rfl,fun n hn=>by simp at hn⟩ (fun i σ H' _ ⟨_,_,e,_⟩=>by rw [e];exact hl) ?_ ?_⟩
  ·rintro i y σ H' hi ⟨x,rfl,rfl,ha⟩
   obtain ⟨z,hz,rfl⟩:=mB hi
   have hm:z ∈ ns:=List.mem_of_getElem? hz
   refine ⟨_,rfl,z,rfl,hb z hm,fun h0=>?_,fun h0=>q2 z hm h0⟩
   refine ⟨_,rfl,_,_,rfl,rfl,.inr ⟨by decide,by decide⟩,_,rfl,_,_,rfl,rfl,?_⟩
   refine ⟨some (.int z),?_,rfl,?_⟩
   ·rw [take_succ hz,My.ID]
    rfl
   ·rw [take_succ hz]
    intro n hn
    rcases List.mem_append.mp hn with z1 | z1
    ·exact ha n z1
    ·rw [List.mem_singleton.mp z1];exact h0
  ·rintro σ H' ⟨x,rfl,rfl,ha⟩
   refine ⟨_,rfl,?_⟩
   rw [List.length_map,List.take_length] at *
   exact q1 ha
def xH (C:Addr):Sp:=fun vs H Q _=>∃ (B:Hp) (x tA pA:Addr) (L:Lk),vs=[.ref x]∧bS C B H x tA pA L∧L.ev.length < 1000000∧∀ B' H',jF B H B' H' x tA pA tA pA→bS C B' H' x tA pA (bH L)→Q .cB H'
theorem EN:aV ["self"] ["self"] (aI jC):=⟨rfl,rfl,rfl,by decide +kernel,rfl,by decide +kernel,by decide +kernel⟩
theorem EO {fd:FuncData} (T:Txt K mg t) (F:lF K "come_up" "LinkEnd.come_up" jC t.lO fd) :
  bz P w K mg base (j5 P w) 1 t.lO fd ["self"] (xH t.LinkEnd)∧Binds K fd ["self"] []:=by
 refine ⟨F.r9 EN (fun vs H Q E h=>?_) (fun f bw A outer s H vs Q E hr h=>?_),F.binds fun _ _ _ _ _ _ us hl=>match us,hl with | [_],_=>rfl⟩
 ·obtain ⟨B,x,tA,pA,L,rfl,_⟩:=h
  rfl
 ·obtain ⟨B,x,tA,pA,L,rfl,h,hlen,q⟩:=h
  refine ⟨_,aJ (bO (aZ wB (ax K (pv 0) (by rfl)) fW (af _))
    (aE (cH K (pv 0) (nu (aZ gQ (ax K (pv 0) (by rfl)) aG (af _)) (bK (aC (ax K (pv 0) (by rfl)) (aC (ax K (pv 0) (by rfl)) aF))) (bK (aC (ax K (pv 0) (by rfl)) (aC (ax K (pv 0) (by rfl)) aF)))) (by rfl))
    (aJ (av (eg K PySem.F.plainAttrs_list PySem.F.slot_list_append PySem.F.type_list_append bZ (ax K (pv 0) (by rfl)) (aC (bK (aC cy (aC (ax K (pv 0) (by rfl)) aF))) aF)))))
    (aq)),?_⟩
  have pf:(1000001:Nat)≤sizeLine:=by decide
  obtain ⟨dx,pv,hx,hp⟩:=h.at_
  refine ⟨_,rfl,x,t.LinkEnd,dx,_,_,rfl,hx,T.aO,T.f9,oQ,rfl,_,rfl,?_⟩
  cases ep:L.p with
  | some p =>
   rw [ep] at hp
   obtain ⟨pa,rfl,GP⟩:=hp
   refine dE (fun z=>by cases z) ?_
   exact q B H jF.refl (by unfold bH;rw [ep];exact h)
  | none =>
   rw [ep] at hp
   have hp:pv=.cB:=hp
   subst hp
   refine dX rfl ?_
   have main:∀ (pa:Addr) (p:Int × Int),H pa=none→p=(if L.s=0 then (L.b,L.k) else (L.k,L.b))→(∃ a C dx fs,V.ref x=.ref a∧(upd H pa (.tup [.int p.1,.int p.2])) a=some (.ins C dx fs)∧HE K C∧dG K C "pair"∧fs.length < 1000∧(JM (Wg K "list" Fv (DT K (qN 0) "told") (uk (Pb (uk (tC (.str "up")) (uk (DT K (qN 0) "pair") DW))) DW))) { nx:=fun _ H'=>Q .cB H',rt:=Q } [some (.ref x)] (upd (upd H pa (.tup [.int p.1,.int p.2])) a (.ins C dx (eC "pair" (.ref pa) fs)))):=fun pa p GP ep2=>by
    have s1:aK H (upd H pa (.tup [.int p.1,.int p.2])):=(aK.refl _).new GP
    obtain ⟨h1,m1⟩:=h.grow (o:=.tup [.int p.1,.int p.2]) s1 GP aD
    refine ⟨x,t.LinkEnd,dx,_,rfl,s1 _ _ hx,T.aO,T.f9,by show 11 < 1000;decide,?_⟩
    rw [GR]
    obtain ⟨h2,m2⟩:=h1.set (dx:=dx) (pv:=.ref pa) (L':={ L with p:=some p }) ⟨pa,rfl,aD⟩ rfl rfl
    have Xd:(upd B pa (.tup [.int p.1,.int p.2])) pa=some (.tup [.int p.1,.int p.2]):=aD
    have TB:(upd (upd H pa (.tup [.int p.1,.int p.2])) x (.ins t.LinkEnd dx (cw L.q L.s L.d L.u L.b L.k (.ref pa) tA pA L.of L.tk))) x=some (.ins t.LinkEnd dx (cw L.q L.s L.d L.u L.b L.k (.ref pa) tA pA L.of L.tk)):=aD
    have h2:bS t.LinkEnd (upd B pa (.tup [.int p.1,.int p.2])) (upd (upd H pa (.tup [.int p.1,.int p.2])) x (.ins t.LinkEnd dx (cw L.q L.s L.d L.u L.b L.k (.ref pa) tA pA L.of L.tk))) x tA pA { L with p:=some p }:=h2
    have T6:jF B H (upd B pa (.tup [.int p.1,.int p.2])) (upd (upd H pa (.tup [.int p.1,.int p.2])) x (.ins t.LinkEnd dx (cw L.q L.s L.d L.u L.b L.k (.ref pa) tA pA L.of L.tk))) x tA pA tA pA:=m1.trans m2
    generalize upd (upd H pa (.tup [.int p.1,.int p.2])) x (.ins t.LinkEnd dx (cw L.q L.s L.d L.u L.b L.k (.ref pa) tA pA L.of L.tk))=H2 at *
    generalize upd B pa (.tup [.int p.1,.int p.2])=B2 at *
    obtain ⟨kX,g,g'⟩:=h2.told
    refine ⟨_,rfl,x,t.LinkEnd,dx,_,_,rfl,TB,T.aO,T.mH,xC,.inl ⟨rfl,_,ae.of g⟩,?_⟩
    refine ⟨_,rfl,x,t.LinkEnd,dx,_,_,rfl,TB,T.aO,T.f9,oQ,zz2,fun ea EL=>?_⟩
    refine ⟨tA,_,_,rfl,rfl,by rw [aH (aP g EL)];exact g,by rw [aN];show L.ev.length < sizeLine;omega,?_⟩
    obtain ⟨h3,m3⟩:=h2.tell g g' EL (Kc (w:="up") (ns:=[]) (h2.sb.free EL) Xd)
    refine q _ _ (T6.trans m3) ?_
    have e3:bH L={ L with p:=some p,ev:=L.ev ++ [.mk "up" p []] }:=by unfold bH;rw [ep,ep2]
    rw [e3]
    exact h3
   refine ⟨_,rfl,x,t.LinkEnd,dx,_,_,rfl,hx,T.aO,T.GK,QX,rfl,_,rfl,?_⟩
   by_cases hs:L.s=0
   ·refine dX (by rw [hs]) ?_
    refine ⟨_,rfl,x,t.LinkEnd,dx,_,_,rfl,hx,T.aO,T.lQ,sN,_,rfl,x,t.LinkEnd,dx,_,_,rfl,hx,T.aO,T.f7,pZ,zz2,fun pa GP=>?_⟩
    exact ⟨_,rfl,main pa (L.b,L.k) GP (by rw [if_pos hs])⟩
   ·refine dE (fun z=>hs (V.int.inj z)) ?_
    refine ⟨_,rfl,x,t.LinkEnd,dx,_,_,rfl,hx,T.aO,T.f7,pZ,_,rfl,x,t.LinkEnd,dx,_,_,rfl,hx,T.aO,T.lQ,sN,zz2,fun pa GP=>?_⟩
    exact ⟨_,rfl,main pa (L.k,L.b) GP (by rw [if_neg hs])⟩
def kY (C:Addr):Sp:=fun vs H Q _=>∃ (B:Hp) (x tA pA:Addr) (L:Lk),vs=[.ref x]∧bS C B H x tA pA L∧L.ev.length < 1000000∧∀ B' H' pB,jF B H B' H' x tA pA tA pB→bS C B' H' x tA pB (gR L)→Q .cB H'
theorem yP:aV ["self"] ["self"] (aI dj):=⟨rfl,rfl,rfl,by decide +kernel,rfl,by decide +kernel,by decide +kernel⟩
theorem yQ {fd Cn:FuncData} (T:Txt K mg t) (F:lF K "start_over" "LinkEnd.start_over" dj t.fv fd) (lW:bz P w K mg base (j5 P w) 2 t.lP Cn ["self"] (tu t.LinkEnd)) (lX:Binds K Cn ["self"] []) :
  bz P w K mg base (j5 P w) 3 t.fv fd ["self"] (kY t.LinkEnd)∧Binds K fd ["self"] []:=by
 refine ⟨F.r9 yP (fun vs H Q E h=>?_) (fun f bw A outer s H vs Q E hr h=>?_),F.binds fun _ _ _ _ _ _ us hl=>match us,hl with | [_],_=>rfl⟩
 ·obtain ⟨B,x,tA,pA,L,rfl,_⟩:=h
  rfl
 ·obtain ⟨B,x,tA,pA,L,rfl,h,hlen,q⟩:=h
  refine ⟨_,aE (bO (aZ AG (ax K (pv 0) (by rfl)) fW (af _))
    (aE (av (eg K PySem.F.plainAttrs_list PySem.F.slot_list_append PySem.F.type_list_append bZ (ax K (pv 0) (by rfl)) (aC (bK (aC cy (aC (ax K (pv 0) (by rfl)) (aC (aM az (aM d9 (ax K (pv 0) (by rfl)) (ax K (pv 0) (by rfl))) aG) (aC (ax K (pv 0) (by rfl)) aF))))) aF)))
    (aJ (av (cj (pv 0) T.aO T.zo (lW.mono (by decide)) hr lX .nil ao))))
    (aq))
   (aE (zK (pv 0) aG JP)
   (aJ (cH K (pv 0) (aW T.pW) (by rfl)))),?_⟩
  have pf:(1000001:Nat)≤sizeLine:=by decide
  obtain ⟨dx,pv,hx,hp⟩:=h.at_
  obtain ⟨tk,hNB⟩:=T.pW
  have last:∀ (B1 H1:Hp) (pB:Addr) (L1:Lk),jF B H B1 H1 x tA pA tA pB→bS t.LinkEnd B1 H1 x tA pB L1→{ L1 with b:=L1.b+1,k:=0 }=gR L→(JL (AI K (qN 0) (tC (.int 1)) (Lg fun i j=>.int (i+j)) "birth") (JX K (qN 0) (tC (.int 0)) "known")) { nx:=fun _ H'=>Q .cB H',rt:=Q } [some (.ref x)] H1:=fun B1 H1 pB L1 m1 h1 e1=>by
   obtain ⟨xG,M9,yN,Ao⟩:=h1.at_
   refine ⟨_,rfl,x,t.LinkEnd,xG,_,_,rfl,yN,T.aO,T.lQ,sN,_,_,rfl,rfl,xG,_,yN,by show 11 < 1000;decide,?_⟩
   rw [Kb]
   refine ⟨_,rfl,x,t.LinkEnd,xG,_,rfl,aD,T.aO,T.f7,by show 11 < 1000;decide,?_⟩
   rw [Ci,ir]
   obtain ⟨h2,m2⟩:=h1.set (dx:=xG) (pv:=M9) (L':={ L1 with b:=L1.b+1,k:=0 }) Ao rfl rfl
   exact q B1 _ pB (m1.trans m2) (by rw [← e1];exact h2)
  refine ⟨_,rfl,x,t.LinkEnd,dx,_,_,rfl,hx,T.aO,T.f9,oQ,rfl,_,rfl,?_⟩
  cases ep:L.p with
  | none =>
   rw [ep] at hp
   have hp:pv=.cB:=hp
   subst hp
   refine zU rfl ?_
   exact last B H pA L jF.refl h (by unfold gR;rw [ep])
  | some p =>
   rw [ep] at hp
   obtain ⟨pa,rfl,GP⟩:=hp
   refine zV (fun z=>by cases z) ?_
   obtain ⟨kX,g,g'⟩:=h.told
   refine ⟨_,rfl,x,t.LinkEnd,dx,_,_,rfl,hx,T.aO,T.mH,xC,.inl ⟨rfl,_,ae.of g⟩,?_⟩
   refine ⟨_,rfl,x,t.LinkEnd,dx,_,_,rfl,hx,T.aO,T.f9,oQ,?_⟩
   refine ⟨_,rfl,x,t.LinkEnd,dx,_,_,rfl,hx,T.aO,T.vo,EJ,_,rfl,x,t.LinkEnd,dx,_,_,rfl,hx,T.aO,T.wq,GQ,_,_,rfl,rfl,_,_,rfl,rfl,?_⟩
   refine ⟨_,rfl,x,t.LinkEnd,dx,_,_,rfl,hx,T.aO,T.vo,EJ,zz4,fun ea EL=>?_⟩
   refine ⟨tA,_,_,rfl,rfl,by rw [aH (aP g EL)];exact g,by rw [aN];omega,?_⟩
   obtain ⟨h1,m1⟩:=h.tell g g' EL (Kc (w:="silent") (ns:=[L.d - L.q+1,L.d]) (h.sb.free EL) GP)
   obtain ⟨xG,M9,yN,Ao⟩:=h1.at_
   refine ⟨_,rfl,x,xG,_,rfl,yN,rfl,_,x,tA,pA,_,rfl,h1,fun B2 H2 pB m2 h2=>?_⟩
   exact last B2 H2 pB _ (m1.trans m2) h2 (by unfold gR QZ;rw [ep])
def qG (C:Addr):Sp:=fun vs H Q _=>∃ (B:Hp) (x tA pA:Addr) (L:Lk) (n:Int),vs=[.ref x,.int n]∧bS C B H x tA pA L∧∀ H',jF B H B H' x tA pA tA pA→bS C B H' x tA pA (bF L n)→Q .cB H'
theorem IF {n:Nat} {f:Nat→Addr}:(bD (n+1) f).eraseIdx 0=bD n (fun j=>f (j+1)):=by
 apply List.ext_getElem?
 intro j
 rw [List.getElem?_eraseIdx]
 by_cases hj:j < n
 ·rw [if_neg (by omega),be (f:=fun j=>V.ref (f j)) (show j+1 < n+1 by omega),be (f:=fun j=>V.ref (f (j+1))) hj]
 ·rw [if_neg (by omega),List.getElem?_eq_none (by rw [aN];omega),List.getElem?_eq_none (by rw [aN];omega)]
theorem qH:aV ["self","count","following"] ["self","count"] (aI dk):=⟨rfl,rfl,rfl,by decide +kernel,rfl,by decide +kernel,by decide +kernel⟩
theorem yR {fd:FuncData} (T:Txt K mg t) (F:lF K "hear_count" "LinkEnd.hear_count" dk t.fw fd) :
  bz P w K mg base (j5 P w) 1 t.fw fd ["self","count"] (qG t.LinkEnd)∧Binds K fd ["self","count"] []:=by
 refine ⟨F.r9 qH (fun vs H Q E h=>?_) (fun f bw A outer s H vs Q E hr h=>?_),F.binds fun _ _ _ _ _ _ us hl=>match us,hl with | [_,_],_=>rfl⟩
 ·obtain ⟨B,x,tA,pA,L,n,rfl,_⟩:=h
  rfl
 ·obtain ⟨B,x,tA,pA,L,n,rfl,h,q⟩:=h
  refine ⟨_,aE (aX (i:=2) qH.nd rfl (Or.inl rfl) (aM ay (aM az (ax K (pv 0) (by rfl)) aG) (aW T.cQ)))
   (aJ (bO (PW.pt (AF (rV (ax K (pv 0) (by rfl)) (fun _=>rfl)) (ve (aZ gQ (pv 1) (pv 2) (af _)))))
    (aE (av (eg K PySem.F.plainAttrs_list PySem.F.slot_list_pop PySem.F.type_list_pop Je (ax K (pv 0) (by rfl)) (aC aG aF)))
    (aJ (cH K (pv 0) (pv 2) (by rfl))))
    (aq))),?_⟩
  obtain ⟨dx,pv,hx,hp⟩:=h.at_
  obtain ⟨gj,g3,xE⟩:=h.bT
  refine ⟨_,rfl,x,t.LinkEnd,dx,_,_,rfl,hx,T.aO,T.mI,zw,_,_,rfl,rfl,_,_,rfl,rfl,(by show (0:Int) < 97;decide),?_⟩
  refine ⟨_,rfl,x,t.LinkEnd,dx,_,_,rfl,hx,T.aO,T.jD,oR,_,.inl ⟨_,ae.of g3,rfl⟩,?_⟩
  cases ep:L.bT with
  | nil =>
   rw [ep] at g3
   refine iI (iI (q H jF.refl ?_))
   unfold bF
   rw [if_neg (fun z=>z.1 ep)];exact h
  | cons a r =>
   rw [ep] at g3 xE
   have BO:(!(bD (a :: r).length gj).isEmpty)=true:=by
    have hl:(bD (a :: r).length gj).length=r.length+1:=aN _ _
    cases e:bD (a :: r).length gj with
    | nil=>rw [e] at hl;cases hl
    | cons u v=>rfl
   rw [BO]
   refine iu ?_
   refine ⟨_,rfl,_,rfl,rfl,_,rfl,?_⟩
   by_cases hc:n=(L.of+1) % 97
   ·refine dX (by show V.int n=V.int ((L.of+1) % 97);rw [hc]) ?_
    refine ⟨_,rfl,x,t.LinkEnd,dx,_,_,rfl,hx,T.aO,T.jD,oR,.inl ⟨rfl,_,ae.of g3⟩,pA,_,0,0,_,rfl,rfl,g3,by decide,by decide,by rw [aN,List.length_cons];unfold seqIndex?;simp,be (f:=fun j=>V.ref (gj j)) (Nat.succ_pos _),?_⟩
    have e0:(bD (a :: r).length gj).eraseIdx 0=bD r.length (fun j=>gj (j+1)):=IF
    rw [e0]
    have M6:=h.xp
    refine ⟨_,rfl,_,rfl,x,t.LinkEnd,dx,_,rfl,by rw [aH M6];exact hx,T.aO,T.mI,by show 11 < 1000;decide,?_⟩
    rw [xD]
    have e1:bF L n={ L with bT:=r,of:=(L.of+1) % 97 }:=by
     unfold bF
     rw [if_pos ⟨(by rw [ep];exact fun z=>by cases z),hc⟩,ep]
     rfl
    obtain ⟨kX,g2,Au⟩:=h.told
    refine q _ ⟨aK.refl _,fun _ _ z=>z,fun y o n1 n2 n3 e=>by rw [aH n1,aH n3];exact e,fun b hb=>jU (jU hb (by rw [aH M6];exact h.hx)) h.hp,.inl rfl,.inl rfl⟩ ?_
    rw [e1]
    exact ⟨(h.sb.put h.bp).put h.bx,h.bx,h.bt,h.bp,⟨dx,pv,aD,hp⟩,⟨kX,by rw [aH (Ne.symm h.xt),aH h.ne];exact g2,Au⟩,⟨fun j=>gj (j+1),by rw [aH (Ne.symm M6)];exact aD,fun y xs hy=>xE (y+1) xs hy⟩,h.ne⟩
   ·refine dE (fun z=>hc (V.int.inj z)) (q H jF.refl ?_)
    unfold bF
    rw [if_neg (fun z=>hc z.2)];exact h
def qI (C:Addr):Sp:=fun vs H Q _=>∃ (B:Hp) (x tA pA l:Addr) (L:Lk) (n:Int) (xs:List Int),vs=[.ref x,.int n,.ref l]∧bS C B H x tA pA L∧L.ev.length < 1000000∧B l=some (.lst (xs.map V.int))∧∀ B' H',jF B H B' H' x tA pA tA pA→bS C B' H' x tA pA (bV L n xs)→Q .cB H'
theorem yS:aV ["self","number","piece"] ["self","number","piece"] (aI dm):=⟨rfl,rfl,rfl,by decide +kernel,rfl,by decide +kernel,by decide +kernel⟩
theorem yT {fd:FuncData} (T:Txt K mg t) (F:lF K "take_piece" "LinkEnd.take_piece" dm t.fz fd) :
  bz P w K mg base (j5 P w) 1 t.fz fd ["self","number","piece"] (qI t.LinkEnd)∧Binds K fd ["self","number","piece"] []:=by
 refine ⟨F.r9 yS (fun vs H Q E h=>?_) (fun f bw A outer s H vs Q E hr h=>?_),F.binds fun _ _ _ _ _ _ us hl=>match us,hl with | [_,_,_],_=>rfl⟩
 ·obtain ⟨B,x,tA,pA,l,L,n,xs,rfl,_⟩:=h
  rfl
 ·obtain ⟨B,x,tA,pA,l,L,n,xs,rfl,h,hlen,hl,q⟩:=h
  refine ⟨_,aJ (bO (PW.pt (AF (rV (pv 2) (fun _=>rfl)) (ve (aZ gQ (pv 1) (ax K (pv 0) (by rfl)) (af _)))))
    (aE (av (eg K PySem.F.plainAttrs_list PySem.F.slot_list_append PySem.F.type_list_append bZ (ax K (pv 0) (by rfl)) (aC (bK (aC cy (aC (pv 2) aF))) aF)))
    (aJ (cH K (pv 0) (aM ay (aM az (ax K (pv 0) (by rfl)) aG) (aW T.cQ)) (by rfl))))
    (aq)),?_⟩
  have pf:(1000001:Nat)≤sizeLine:=by decide
  obtain ⟨dx,pv,hx,hp⟩:=h.at_
  obtain ⟨kX,g,g'⟩:=h.told
  refine ⟨_,rfl,_,.inl ⟨_,ae.of (h.sb _ _ hl),rfl⟩,?_⟩
  cases xs with
  | nil =>
   refine iI (iI (q B H jF.refl ?_))
   unfold bV
   rw [if_neg (fun z=>z.1 rfl)];exact h
  | cons a r =>
   have BO:(!((a :: r).map V.int).isEmpty)=true:=rfl
   rw [BO]
   refine iu ?_
   refine ⟨_,rfl,_,rfl,x,t.LinkEnd,dx,_,_,rfl,hx,T.aO,T.oG,As,rfl,_,rfl,?_⟩
   by_cases hc:n=L.tk
   ·refine dX (by rw [hc]) ?_
    refine ⟨_,rfl,x,t.LinkEnd,dx,_,_,rfl,hx,T.aO,T.mH,xC,.inl ⟨rfl,_,ae.of g⟩,?_⟩
    refine ⟨_,rfl,zz2,fun ea EL=>?_⟩
    refine ⟨tA,_,_,rfl,rfl,by rw [aH (aP g EL)];exact g,by rw [aN];omega,?_⟩
    obtain ⟨h1,m1⟩:=h.tell g g' EL (M5 (h.sb.free EL) hl)
    obtain ⟨xG,M9,yN,Ao⟩:=h1.at_
    refine ⟨_,rfl,x,t.LinkEnd,xG,_,_,rfl,yN,T.aO,T.oG,As,_,_,rfl,rfl,_,_,rfl,rfl,(by show (0:Int) < 97;decide),?_⟩
    refine ⟨_,rfl,x,t.LinkEnd,xG,_,rfl,yN,T.aO,T.oG,by show 11 < 1000;decide,?_⟩
    rw [Cj]
    obtain ⟨h2,m2⟩:=h1.set (dx:=xG) (pv:=M9) (L':={ L with ev:=L.ev ++ [.took (a :: r)],tk:=(L.tk+1) % 97 }) Ao rfl rfl
    refine q _ _ (m1.trans m2) ?_
    unfold bV
    rw [if_pos ⟨(fun z=>by cases z),hc⟩]
    exact h2
   ·refine dE (fun z=>hc (V.int.inj z)) (q B H jF.refl ?_)
    unfold bV
    rw [if_neg (fun z=>hc z.2)];exact h
def Oj (C:Addr):Sp:=fun vs H Q _=>∃ (B:Hp) (x tA pA:Addr) (L:Lk),vs=[.ref x]∧bS C B H x tA pA L∧∀ pv,vA B pv L.p→Q pv H
theorem T7:aV ["self"] ["self"] (aI Hq):=⟨rfl,rfl,rfl,by decide +kernel,rfl,by decide +kernel,by decide +kernel⟩
theorem T8 {fd:FuncData} (T:Txt K mg t) (F:lF K "up" "LinkEnd.up" Hq t.KQ fd) :
  bz P w K mg base (j5 P w) 1 t.KQ fd ["self"] (Oj t.LinkEnd)∧Binds K fd ["self"] []:=by
 refine ⟨F.r9 T7 (fun vs H Q E h=>?_) (fun f bw A outer s H vs Q E hr h=>?_),F.binds fun _ _ _ _ _ _ us hl=>match us,hl with | [_],_=>rfl⟩
 ·obtain ⟨B,x,tA,pA,L,rfl,_⟩:=h
  rfl
 ·obtain ⟨B,x,tA,pA,L,rfl,h,q⟩:=h
  refine ⟨_,aJ (ai (ax K (pv 0) (by rfl))),?_⟩
  obtain ⟨dx,pv,hx,hp⟩:=h.at_
  exact ⟨_,rfl,x,t.LinkEnd,dx,_,_,rfl,hx,T.aO,T.f9,oQ,q pv hp⟩
def zz (C:Addr):Sp:=fun vs H Q _=>∃ (B:Hp) (x tA pA:Addr) (L:Lk),vs=[.ref x]∧bS C B H x tA pA L∧∀ H' tB,jF B H B H' x tA pA tB pA→tB≠tA→bS C B H' x tB pA { L with ev:=[] }→GS B H' tA L.ev→Q (.ref tA) H'
theorem z4:aV ["self","told"] ["self"] (aI lN):=⟨rfl,rfl,rfl,by decide +kernel,rfl,by decide +kernel,by decide +kernel⟩
theorem IG {fd:FuncData} (T:Txt K mg t) (F:lF K "events" "LinkEnd.events" lN t.oE fd) :
  bz P w K mg base (j5 P w) 1 t.oE fd ["self"] (zz t.LinkEnd)∧Binds K fd ["self"] []:=by
 refine ⟨F.r9 z4 (fun vs H Q E h=>?_) (fun f bw A outer s H vs Q E hr h=>?_),F.binds fun _ _ _ _ _ _ us hl=>match us,hl with | [_],_=>rfl⟩
 ·obtain ⟨B,x,tA,pA,L,rfl,_⟩:=h
  rfl
 ·obtain ⟨B,x,tA,pA,L,rfl,h,q⟩:=h
  refine ⟨_,aE (aX (i:=1) z4.nd rfl (Or.inl rfl) (ax K (pv 0) (by rfl)))
   (aE (cH K (pv 0) (bI aF) (by rfl))
   (aJ (ai (pv 1)))),?_⟩
  obtain ⟨dx,pv,hx,hp⟩:=h.at_
  obtain ⟨gj,g3,xE⟩:=h.bT
  obtain ⟨kX,g2,Au⟩:=h.told
  refine ⟨_,rfl,x,t.LinkEnd,dx,_,_,rfl,hx,T.aO,T.mH,xC,?_⟩
  refine ⟨zz0,fun tB Ri=>?_⟩
  have s1:aK H (upd H tB (.lst [])):=(aK.refl _).new Ri
  have h1:=h.same s1
  have Qa:x≠tB:=fun z=>h.hx (by rw [z];exact Ri)
  have npt:pA≠tB:=fun z=>h.hp (by rw [z];exact Ri)
  have ntt:tA≠tB:=fun z=>h.ht (by rw [z];exact Ri)
  refine ⟨_,rfl,x,t.LinkEnd,dx,_,rfl,s1 _ _ hx,T.aO,T.mH,by show 11 < 1000;decide,?_⟩
  rw [M4]
  exact ⟨_,rfl,q _ tB ⟨aK.refl _,fun _ _ z=>z,fun y o n1 n2 n3 e=>by rw [aH n1];exact s1 _ _ e,fun b hb=>s1.free (jU hb h1.hx),.inr Ri,.inl rfl⟩ (Ne.symm ntt) ⟨h1.sb.put h.bx,h.bx,h.sb.free Ri,h.bp,⟨dx,pv,aD,hp⟩,⟨fun _=>0,by rw [aH (Ne.symm Qa)];exact aD,fun y e he=>by cases he⟩,⟨gj,by rw [aH (Ne.symm h.xp)];exact s1 _ _ g3,xE⟩,Ne.symm npt⟩ ⟨kX,by rw [aH (Ne.symm h.xt)];exact s1 _ _ g2,Au⟩⟩
def yC (b:Int):Prop:=0≤b∧b < 9409
def JB (n:Int):Prop:=0≤n∧n < 97
structure jV (a:Cl):Prop where
 b:yC a.b
 k:yC a.k
 n:JB a.n
 c:JB a.c
 l:a.xs.length≤10
 x:∀ v ∈ a.xs,JB v
def yU (a:Cl):List Int:=[a.b / 97,a.b % 97,a.k / 97,a.k % 97,a.n,a.c,(a.xs.length:Int)] ++ a.xs
def vC (a:Cl) (i:Nat):Int:=(yU a).getD i 0
theorem NA {a:Cl} (h:jV a):∀ v ∈ yU a,JB v:=by
 intro v hv
 obtain ⟨b0,b1⟩:=h.b
 obtain ⟨k0,k1⟩:=h.k
 have hl:=h.l
 unfold yU at hv
 rcases List.mem_append.mp hv with z | z
 ·simp only [List.mem_cons,List.not_mem_nil,or_false] at z
  rcases z with rfl | rfl | rfl | rfl | rfl | rfl | rfl
  ·exact ⟨by omega,by omega⟩
  ·exact ⟨by omega,by omega⟩
  ·exact ⟨by omega,by omega⟩
  ·exact ⟨by omega,by omega⟩
  ·exact h.n
  ·exact h.c
  ·exact ⟨by omega,by omega⟩
 ·exact h.x v z
theorem Cp {a:Cl} (h:jV a):IsCell 18 (vC a):=by
 refine ⟨fun i _=>?_⟩
 unfold vC
 rw [List.getD_eq_getElem?_getD]
 cases e:(yU a)[i]? with
 | none=>exact ⟨by decide,by decide⟩
 | some v=>exact NA h v (List.mem_of_getElem? e)
theorem NB (a:Cl) (i:Nat):vC a (7+i)=a.xs.getD i 0:=by
 unfold vC yU
 rw [Nat.add_comm]
 rfl
abbrev bB (a:Cl):Nat→Int:=My.lJ (vC a)
theorem IH {a:Cl} {i:Nat} (h:i < 18):bB a i=vC a i:=by unfold bB My.lJ;rw [if_pos h]
theorem Cq {a:Cl} (h:jV a):IsCell 24 (bB a):=⟨fun i _=>My.Mf (Cp h).b i⟩
theorem NC (a:Cl):bB a 0 * 97+bB a 1=a.b:=by
 show a.b / 97 * 97+a.b % 97=a.b
 omega
theorem ND (a:Cl):bB a 2 * 97+bB a 3=a.k:=by
 show a.k / 97 * 97+a.k % 97=a.k
 omega
theorem II {a:Cl} (h:jV a):gP (tabI 24 (bB a)) (some 7) (some (7+bB a 6))=a.xs.map V.int:=by
 have hl:=h.l
 have e6:bB a 6=(a.xs.length:Int):=rfl
 have:=vi (f:=fun j=>V.int (bB a j)) (n:=24) (lo:=7) (hi:=7+a.xs.length) (by omega) (by omega)
 rw [e6]
 rw [show ((7+a.xs.length:Nat):Int)=7+(a.xs.length:Int) by omega] at this
 refine this.trans ?_
 rw [Jt,show 7+a.xs.length - 7=a.xs.length by omega]
 refine ba fun i hi=>?_
 rw [IH (by omega),NB]
theorem Kd (ns:List Int) (h:ns.length≤18):ns.map V.int ++ (List.replicate (18 - ns.length) [V.int 0]).flatten=tabI 18 (fun i=>ns.getD i 0):=by
 rw [List.flatten_replicate_singleton]
 apply List.ext_getElem?
 intro j
 by_cases hj:j < 18
 ·rw [be (f:=fun i=>V.int (ns.getD i 0)) hj,List.getD_eq_getElem?_getD]
  by_cases hn:j < ns.length
  ·rw [List.getElem?_append_left (by rw [List.length_map];exact hn),List.getElem?_map]
   cases e:ns[j]? with
   | none=>rw [List.getElem?_eq_none_iff] at e;omega
   | some v=>rfl
  ·rw [List.getElem?_append_right (by rw [List.length_map];omega),List.length_map,List.getElem?_replicate,if_pos (by omega),List.getElem?_eq_none (by omega)]
   rfl
 ·rw [List.getElem?_eq_none (by rw [List.length_append,List.length_map,List.length_replicate];omega),List.getElem?_eq_none (by rw [aN];omega)]
theorem GW {n:Int}:(My.low (2:Int).toNat n).reverse=[n / 97 % 97,n % 97]:=rfl
theorem Cr {n:Int} (h:yC n):My.rest (2:Int).toNat n=0:=by
 show n / 97 / 97=0
 obtain ⟨h0,h1⟩:=h
 omega
theorem Cs (a b:Int):My.told [a,b]=a * 97+b:=by
 show (0 * 97+a) * 97+b=_
 omega
theorem tw {n:Int} (h:yC n):n.natAbs < 2 ^ 1000:=by
 have:n.natAbs < 9409:=by obtain ⟨h0,h1⟩:=h;omega
 exact Nat.lt_of_lt_of_le this (by decide)
theorem xI {n:Int} (h:0≤n∧n < 97):n.natAbs < 2 ^ 1000:=tw ⟨h.1,by omega⟩
theorem Ct (L:Lk) (n:Int):(bC L n).ev.length≤L.ev.length+1:=by
 unfold bC
 cases L.p with
 | none=>exact Nat.le_succ _
 | some p =>
  simp only
  split
  ·show (L.ev ++ [_]).length≤_
   rw [List.length_append];exact Nat.le_refl _
  ·exact Nat.le_succ _
theorem Cu (L:Lk):(bH L).ev.length≤L.ev.length+1:=by
 unfold bH
 cases L.p with
 | none=>show (L.ev ++ [_]).length≤_;rw [List.length_append];exact Nat.le_refl _
 | some p=>exact Nat.le_succ _
theorem GX (L:Lk) (c:Int):(bF L c).ev=L.ev:=by unfold bF;split <;> rfl
def GY (C:Addr):Sp:=fun vs H Q _=>∃ (B:Hp) (x tA pA l:Addr) (L:Lk) (a:Cl),vs=[.ref x,.ref l]∧bS C B H x tA pA L∧L.ev.length < 900000∧H l=some (.lst (tabI 24 (bB a)))∧jV a∧l≠tA∧l≠pA ∧
 ∀ B' H' pB,jF B H B' H' x tA pA tA pB→bS C B' H' x tA pB (ar L a)→Q .cB H'
theorem GZ:aV ["self","cell","birth"] ["self","cell"] (aI tV):=⟨rfl,rfl,rfl,by decide +kernel,rfl,by decide +kernel,by decide +kernel⟩
theorem NF {fd Cn T9 UA Zt:FuncData} (T:Txt K mg t) (F:lF K "read" "LinkEnd.read" tV t.wb fd) (gC:Def P w K mg base 3 "signs_number" ["signs"] (nR K t.BadSign))
  (ER:bz P w K mg base (j5 P w) 3 t.wc Cn ["self","birth"] (GU t.LinkEnd)) (ET:Binds K Cn ["self","birth"] []) (tz:bz P w K mg base (j5 P w) 1 t.lO T9 ["self"] (xH t.LinkEnd)) (t7:Binds K T9 ["self"] [])
  (mO:bz P w K mg base (j5 P w) 1 t.fw UA ["self","count"] (qG t.LinkEnd)) (mP:Binds K UA ["self","count"] []) (mQ:bz P w K mg base (j5 P w) 1 t.fz Zt ["self","number","piece"] (qI t.LinkEnd)) (mR:Binds K Zt ["self","number","piece"] []) :
  bz P w K mg base (j5 P w) 4 t.wb fd ["self","cell"] (GY t.LinkEnd)∧Binds K fd ["self","cell"] []:=by
 refine ⟨F.r9 GZ (fun vs H Q E h=>?_) (fun f bw A outer s H vs Q E hr h=>?_),F.binds fun _ _ _ _ _ _ us hl=>match us,hl with | [_,_],_=>rfl⟩
 ·obtain ⟨B,x,tA,pA,l,L,a,rfl,_⟩:=h
  rfl
 ·obtain ⟨B,x,tA,pA,l,L,a,rfl,h,hlen,hl,ga,n1,n2,q⟩:=h
  refine ⟨_,aE (aX (i:=2) GZ.nd rfl (Or.inl rfl) (aY (gC.mono (by decide)) hr ao (aC (jK (jN K) (pv 1) vf (iD (aW T.zh))) aF)))
   (aE (bO (aZ jJ (pv 2) (ax K (pv 0) (by rfl)) (af _))
    (aJ (Lz))
    (aq))
   (aE (av (pO (pv 0) T.aO T.Ms (ER.mono (by decide)) hr ET .nil ao (aC (pv 2) aF)))
   (aJ (bO (aZ gQ (aY (gC.mono (by decide)) hr ao (aC (jK (jN K) (pv 1) (iD (aW T.zh)) (iD (aW T.wj))) aF)) (ax K (pv 0) (by rfl)) (af _))
    (aE (av (cj (pv 0) T.aO T.D8 (tz.mono (by decide)) hr t7 .nil ao))
    (aE (av (pO (pv 0) T.aO T.yJ (mO.mono (by decide)) hr mP .nil ao (aC (aj (aR K) (pv 1) (aW T.Hs) (fun _ _=>rfl)) aF)))
    (aJ (av (pO (pv 0) T.aO T.yK (mQ.mono (by decide)) hr mR .nil ao (aC (aj (aR K) (pv 1) (aW T.wj) (fun _ _=>rfl)) (aC (jK (jN K) (pv 1) (iD (aW T.zk)) (iD (aM az (aW T.zk) (aj (aR K) (pv 1) (aW T.D7) (fun _ _=>rfl))))) aF)))))))
    (aq))))),?_⟩
  have sg:∀ i,i < 24→0≤bB a i∧bB a i < 97:=(Cq ga).b
  have two:∀ {a b:Int},(0≤a∧a < 97)→(0≤b∧b < 97)→∀ n ∈ [a,b],0≤n∧n < 97:=fun {a b} ha hb n hn=>by
   rcases List.mem_cons.mp hn with rfl | hn
   ·exact ha
   ·rw [List.mem_singleton.mp hn];exact hb
  have Xe:l≠x:=fun z=>by obtain ⟨_,_,gx,_⟩:=h.at_;rw [z,gx] at hl;cases hl
  refine ⟨_,rfl,_,rfl,l,_,rfl,ae.of hl,fun p1 Ao=>?_⟩
  have ec:gP (tabI 24 (bB a)) none (some 2)=[bB a 0,bB a 1].map V.int:=qT (f:=fun j=>V.int (bB a j)) (n:=24) (hi:=2) (by decide)
  rw [ec]
  have s1:aK H (upd H p1 (.lst ([bB a 0,bB a 1].map V.int))):=(aK.refl _).new Ao
  have Rh:=two (sg 0 (by decide)) (sg 1 (by decide))
  refine ⟨p1,[bB a 0,bB a 1],rfl,ae.of aD,fun n hn=>xI (Rh n hn),fun _=>?_,fun n hn z=>absurd (Rh n hn) z⟩
  generalize upd H p1 (.lst ([bB a 0,bB a 1].map V.int))=H1 at *
  rw [Cs,NC]
  have h1:=h.same s1
  have m1:jF B H B H1 x tA pA tA pA:=jF.of_same s1
  obtain ⟨dx,pv,hx,hp⟩:=h1.at_
  refine ⟨_,rfl,_,rfl,x,t.LinkEnd,dx,_,_,rfl,hx,T.aO,T.f7,pZ,_,_,rfl,rfl,_,rfl,?_⟩
  unfold ar at q
  by_cases hk:a.b < L.k
  ·rw [if_pos hk] at q
   exact dX hk (q B H1 pA m1 h1)
  ·rw [if_neg hk] at q
   refine dE hk ?_
   refine ⟨_,rfl,x,dx,_,rfl,hx,rfl,_,rfl,B,x,tA,pA,L,_,rfl,h1,by omega,fun B2 H2 pB m2 h2=>?_⟩
   have T6:=m1.trans m2
   have Rj:H2 l=some (.lst (tabI 24 (bB a))):=T6.k l _ Xe n1 n2 hl
   have Zu:l≠pB:=by
    rcases T6.p with z | z
    ·rw [z];exact n2
    ·exact aP hl z
   have Zc:=Ct L a.b
   generalize bC L a.b=L2 at *
   refine ⟨_,rfl,_,rfl,_,rfl,l,_,rfl,ae.of Rj,fun p3 GL=>?_⟩
   have ec2:gP (tabI 24 (bB a)) (some 2) (some 4)=[bB a 2,bB a 3].map V.int:=vi (f:=fun j=>V.int (bB a j)) (n:=24) (lo:=2) (hi:=4) (by decide) (by decide)
   rw [ec2]
   have s3:aK H2 (upd H2 p3 (.lst ([bB a 2,bB a 3].map V.int))):=(aK.refl _).new GL
   have Tz:=two (sg 2 (by decide)) (sg 3 (by decide))
   refine ⟨p3,[bB a 2,bB a 3],rfl,ae.of aD,fun n hn=>xI (Tz n hn),fun _=>?_,fun n hn z=>absurd (Tz n hn) z⟩
   generalize upd H2 p3 (.lst ([bB a 2,bB a 3].map V.int))=H3 at *
   rw [Cs,ND]
   have h3:=h2.same s3
   have Vn:=T6.same s3
   have Zv:=s3 _ _ Rj
   obtain ⟨NG,Rk,Qb,aCn⟩:=h3.at_
   refine ⟨_,rfl,x,t.LinkEnd,NG,_,_,rfl,Qb,T.aO,T.lQ,sN,rfl,_,rfl,?_⟩
   by_cases ho:a.k=L2.b
   ·rw [if_pos ho] at q
    refine dX (by rw [ho]) ?_
    refine ⟨_,rfl,x,NG,_,rfl,Qb,rfl,B2,x,tA,pB,L2,rfl,h3,by omega,fun B4 H4 m4 h4=>?_⟩
    have Zw:H4 l=some (.lst (tabI 24 (bB a))):=m4.k l _ Xe n1 Zu Zv
    obtain ⟨Rl,pv4,Rm,_⟩:=h4.at_
    have UB:=Vn.trans m4
    refine ⟨_,rfl,x,Rl,_,rfl,Rm,rfl,_,rfl,l,_,_,_,rfl,rfl,ae.of Zw,rfl,B4,x,tA,pB,_,a.c,rfl,h4,fun H5 m5 h5=>?_⟩
    have Xf:H5 l=some (.lst (tabI 24 (bB a))):=m5.k l _ Xe n1 Zu Zw
    obtain ⟨Lj,UC,Rn,_⟩:=h5.at_
    have m05:=UB.trans m5
    refine ⟨_,rfl,x,Lj,_,rfl,Rn,rfl,_,rfl,l,_,_,_,rfl,rfl,ae.of Xf,rfl,?_⟩
    refine ⟨_,rfl,_,rfl,_,rfl,l,_,_,_,rfl,rfl,ae.of Xf,rfl,_,_,rfl,rfl,_,rfl,l,_,rfl,ae.of Xf,fun p6 Rg=>?_⟩
    have ec3:gP (tabI 24 (bB a)) (some 7) (some (7+bB a 6))=a.xs.map V.int:=II ga
    have s6:aK H5 (upd H5 p6 (.lst (gP (tabI 24 (bB a)) (some 7) (some (7+bB a 6))))):=(aK.refl _).new Rg
    obtain ⟨h6,m6⟩:=h5.grow (o:=.lst (gP (tabI 24 (bB a)) (some 7) (some (7+bB a 6)))) s6 Rg aD
    have Oh:=Cu L2
    refine ⟨_,x,tA,pB,p6,_,a.n,a.xs,rfl,h6,by rw [GX];omega,by rw [aD,ec3],fun B7 H7 m7 h7=>?_⟩
    exact q B7 H7 pB ((m05.trans m6).trans m7) h7
   ·rw [if_neg ho] at q
    refine dE (fun z=>ho (V.int.inj z)) ?_
    exact q B2 H3 pB Vn h3
def Ga (L:Lk):Prop:=jV (cO L)
def kZ (C:Addr):Sp:=fun vs H Q _=>∃ (B:Hp) (x tA pA:Addr) (L:Lk),vs=[.ref x]∧bS C B H x tA pA L∧Ga L∧∀ p H',H p=none→aK H H'→H' p=some (.lst (tabI 24 (bB (cO L))))→Q (.ref p) H'
theorem iG:aV ["self","piece","births","signs"] ["self"] (aI di):=⟨rfl,rfl,rfl,by decide +kernel,rfl,by decide +kernel,by decide +kernel⟩
set_option maxHeartbeats 1000000 in
theorem yV {fd:FuncData} (T:Txt K mg t) (F:lF K "cell_given" "LinkEnd.cell_given" di t.fu fd) (gD:Def P w K mg base 1 "number_signs" ["number","many"] (nQ t.BadSign)) (xJ:Def P w K mg base 3 "sealed" ["signs"] (zq K)) :
  bz P w K mg base (j5 P w) 4 t.fu fd ["self"] (kZ t.LinkEnd)∧Binds K fd ["self"] []:=by
 refine ⟨F.r9 iG (fun vs H Q E h=>?_) (fun f bw A outer s H vs Q E hr h=>?_),F.binds fun _ _ _ _ _ _ us hl=>match us,hl with | [_],_=>rfl⟩
 ·obtain ⟨B,x,tA,pA,L,rfl,_⟩:=h
  rfl
 ·obtain ⟨B,x,tA,pA,L,rfl,h,gl,q⟩:=h
  refine ⟨_,aE (Dj (aX (i:=1) iG.nd rfl (Or.inl rfl) (nu (rV (ax K (pv 0) (by rfl)) (fun _=>rfl)) (aj (aR K) (ax K (pv 0) (by rfl)) aG (fun _ _=>rfl)) (bI aF))))
   (aE (aX (i:=2) iG.nd rfl (Or.inl rfl) (aM (kD K) (aY (gD.mono (by decide)) hr ao (aC (ax K (pv 0) (by rfl)) (aC (aW T.sF) aF))) (aY (gD.mono (by decide)) hr ao (aC (ax K (pv 0) (by rfl)) (aC (aW T.sF) aF)))))
   (aE (aX (i:=3) iG.nd rfl (Or.inl rfl) (aM (kD K) (aM (kD K) (pv 2) (bI (aC (ax K (pv 0) (by rfl)) (aC (ax K (pv 0) (by rfl)) (aC (bR (bM K) (by rfl) T.f6 boot_len (aC (pv 1) aF)) aF))))) (pv 1)))
   (aJ (ai (aY (xJ.mono (by decide)) hr (lH bE) (aC (aM (kD K) (pv 3) (aM AN (bI (aC aG aF)) (aM d9 (aW T.sG) (bR (bM K) (by rfl) T.f6 boot_len (aC (pv 3) aF))))) aF)))))),?_⟩
  have pf:(1000001:Nat)≤sizeLine:=by decide
  obtain ⟨dx,pv,hx,_⟩:=h.at_
  obtain ⟨gj,g3,xE⟩:=h.bT
  refine ⟨fun σ H0=>∃ p0,σ=[some (.ref x),some (.ref p0),none,none]∧aK H H0∧H0 p0=some (.lst ((L.bT.headD []).map V.int)),?_,?_⟩
  ·refine ⟨_,rfl,x,t.LinkEnd,dx,_,_,rfl,hx,T.aO,T.jD,oR,_,.inl ⟨_,ae.of g3,rfl⟩,?_⟩
   cases ep:L.bT with
   | nil =>
    rw [ep] at g3
    refine iI ⟨zz0,fun p0 Qc=>⟨p0,rfl,(aK.refl _).new Qc,aD⟩⟩
   | cons a r =>
    rw [ep] at g3 xE
    have BO:(!(bD (a :: r).length gj).isEmpty)=true:=by
     have hl:(bD (a :: r).length gj).length=r.length+1:=aN _ _
     cases e:bD (a :: r).length gj with
     | nil=>rw [e] at hl;cases hl
     | cons u v=>rfl
    rw [BO]
    refine iu ⟨_,rfl,x,t.LinkEnd,dx,_,_,rfl,hx,T.aO,T.jD,oR,pA,_,_,_,rfl,rfl,ae.of g3,fX (be (f:=fun j=>V.ref (gj j)) (Nat.succ_pos _)),?_⟩
    exact ⟨gj 0,rfl,aK.refl _,h.sb _ _ (xE 0 a rfl)⟩
  rintro σ H0 ⟨p0,rfl,s0,e0⟩
  have gb:=gl.b
  have gk:=gl.k
  have aCr:(L.bT.headD []).length≤10:=gl.l
  have hb:yC L.b:=gb
  have hk:yC L.k:=gk
  have Ra:yU (cO L)=[L.b / 97,L.b % 97,L.k / 97,L.k % 97,L.of,L.tk,((L.bT.headD []).length:Int)] ++ L.bT.headD []:=rfl
  have hcp:∀ i,vC (cO L) i=(yU (cO L)).getD i 0:=fun i=>rfl
  generalize L.bT.headD []=xs at *
  refine ⟨_,rfl,x,t.LinkEnd,dx,_,_,rfl,s0 _ _ hx,T.aO,T.lQ,sN,L.b,2,rfl,tw hb,by decide,by decide,fun _ _ p1 H1 Ao s1 e1=>?_,fun z=>absurd z (by rw [Cr hb];have:=hb.1;omega)⟩
  rw [GW] at e1
  have Ke:=s0.trans s1
  refine ⟨_,rfl,x,t.LinkEnd,dx,_,_,rfl,Ke _ _ hx,T.aO,T.f7,pZ,L.k,2,rfl,tw hk,by decide,by decide,fun _ _ p2 H2 yM s2 e2=>?_,fun z=>absurd z (by rw [Cr hk];have:=hk.1;omega)⟩
  rw [GW] at e2
  have Vo:=Ke.trans s2
  refine ⟨p1,p2,_,_,rfl,rfl,ae.of (s2 _ _ e1),ae.of e2,zz4,fun p3 GL=>?_⟩
  have t3:=(aK.refl H2).new (o:=.lst ([L.b / 97 % 97,L.b % 97].map V.int ++ [L.k / 97 % 97,L.k % 97].map V.int)) GL
  have e3:(upd H2 p3 (.lst ([L.b / 97 % 97,L.b % 97].map V.int ++ [L.k / 97 % 97,L.k % 97].map V.int))) p3=some (.lst ([L.b / 97 % 97,L.b % 97,L.k / 97 % 97,L.k % 97].map V.int)):=aD
  have s3:=Vo.trans t3
  have Zx:=((s1.trans s2).trans t3) _ _ e0
  generalize upd H2 p3 (.lst ([L.b / 97 % 97,L.b % 97].map V.int ++ [L.k / 97 % 97,L.k % 97].map V.int))=H3 at *
  refine ⟨_,rfl,_,rfl,x,t.LinkEnd,dx,_,_,rfl,s3 _ _ hx,T.aO,T.mI,zw,_,rfl,x,t.LinkEnd,dx,_,_,rfl,s3 _ _ hx,T.aO,T.oG,As,_,rfl,p0,_,rfl,.inl (ae.of Zx),zz3,fun p4 Vm=>?_⟩
  rw [List.length_map]
  have t4:=(aK.refl H3).new (o:=.lst [V.int L.of,V.int L.tk,V.int (xs.length:Nat)]) Vm
  refine ⟨p3,p4,_,_,rfl,rfl,ae.of (t4 _ _ e3),ae.of aD,zz7,fun p5 Vk=>?_⟩
  have t5:=t4.new (o:=.lst ([L.b / 97 % 97,L.b % 97,L.k / 97 % 97,L.k % 97].map V.int ++ [V.int L.of,V.int L.tk,V.int (xs.length:Nat)])) Vk
  refine ⟨_,rfl,p5,p0,_,_,rfl,rfl,ae.of aD,ae.of (t5 _ _ Zx),by rw [List.length_map];show 7+xs.length≤sizeLine;omega,fun p6 Rg=>?_⟩
  have t6:=t5.new (o:=.lst (([L.b / 97 % 97,L.b % 97,L.k / 97 % 97,L.k % 97].map V.int ++ [V.int L.of,V.int L.tk,V.int (xs.length:Nat)]) ++ xs.map V.int)) Rg
  have s6:=s3.trans t6
  have eb:L.b / 97 % 97=L.b / 97:=by obtain ⟨h0,h1⟩:=hb;omega
  have ek:L.k / 97 % 97=L.k / 97:=by obtain ⟨h0,h1⟩:=hk;omega
  have e6:(upd (upd (upd H3 p4 (.lst [V.int L.of,V.int L.tk,V.int (xs.length:Nat)])) p5 (.lst ([L.b / 97 % 97,L.b % 97,L.k / 97 % 97,L.k % 97].map V.int ++ [V.int L.of,V.int L.tk,V.int (xs.length:Nat)]))) p6 (.lst (([L.b / 97 % 97,L.b % 97,L.k / 97 % 97,L.k % 97].map V.int ++ [V.int L.of,V.int L.tk,V.int (xs.length:Nat)]) ++ xs.map V.int))) p6=some (.lst ((yU (cO L)).map V.int)):=by
   rw [aD,Ra,eb,ek,List.map_append]
   rfl
  generalize (upd (upd (upd H3 p4 (.lst [V.int L.of,V.int L.tk,V.int (xs.length:Nat)])) p5 (.lst ([L.b / 97 % 97,L.b % 97,L.k / 97 % 97,L.k % 97].map V.int ++ [V.int L.of,V.int L.tk,V.int (xs.length:Nat)]))) p6 (.lst (([L.b / 97 % 97,L.b % 97,L.k / 97 % 97,L.k % 97].map V.int ++ [V.int L.of,V.int L.tk,V.int (xs.length:Nat)]) ++ xs.map V.int)))=H6 at *
  have sl7:(yU (cO L)).length=7+xs.length:=by rw [Ra,List.length_append];rfl
  generalize yU (cO L)=ss at *
  refine ⟨_,rfl,zz1,fun p7 hp7=>?_⟩
  have s7:=(aK.refl H6).new (o:=.lst [V.int 0]) hp7
  refine ⟨_,rfl,p6,_,rfl,.inl (ae.of (s7 _ _ e6)),_,_,rfl,rfl,?_⟩
  rw [List.length_map]
  refine ⟨p7,_,_,rfl,rfl,aD,by omega,by omega,by show 1 * _≤sizeLine;omega,fun p8 hp8=>?_⟩
  have en:((18:Int) - (ss.length:Nat)).toNat=18 - ss.length:=by omega
  rw [en]
  have s8:=s7.new (o:=.lst ((List.replicate (18 - ss.length) [V.int 0]).flatten)) hp8
  refine ⟨p6,p8,_,_,rfl,rfl,ae.of (s8 _ _ e6),ae.of aD,by rw [List.flatten_replicate_singleton,List.length_map,List.length_replicate];omega,fun p9 hp9=>?_⟩
  rw [Kd ss (by omega)] at *
  have s9:=s8.new (o:=.lst (tabI 18 fun i=>ss.getD i 0)) hp9
  refine ⟨p9,vC (cO L),rfl,ae.of ?_,Cp gl,fun p H' hp s' e'=>?_⟩
  ·rw [aD]
   exact congrArg (fun z=>some (HO.lst z)) (ba fun i _=>by rw [hcp i])
  ·have sA:=(s6.trans s9).trans s'
   exact q p H' ((s6.trans s9).free hp) sA e'
theorem IJ {f g h:Nat→Int} (a:My.qV f g) (b:My.qV f h):tabI 24 g=tabI 24 h:=by
 refine ba fun i hi=>?_
 rw [My.Oc a.b b.b a.sealed b.sealed ?_ i hi]
 have:=My.gc (My.el 24 g h) (My.el 24 f g ++ My.el 24 f h) (My.gZ _ _ _) fun i hi=>by
  obtain ⟨h1,h2⟩:=My.cC.mp hi
  by_cases e:f i=g i
  ·exact List.mem_append_right _ (My.cC.mpr ⟨h1,fun z=>h2 (by rw [← e,z])⟩)
  ·exact List.mem_append_left _ (My.cC.mpr ⟨h1,e⟩)
 have a2:=a.zY
 have b2:=b.zY
 rw [List.length_append] at this
 omega
def Kf (f:Nat→Int):Option Cl→Prop
 | none=>∀ g,¬ My.qV f g
 | some a=>jV a∧My.qV f (bB a)
abbrev Cm:=(Nat→Int) × Option Cl
def Zy (H:Hp) (cl:Addr) (NH:Nat→Addr) (fs:List Cm):Prop:=H cl=some (.lst (bD fs.length NH))∧∀ j c,fs[j]?=some c→H (NH j)=some (.lst (tabI 24 c.1))∧IsCell 24 c.1∧Kf c.1 c.2
def Kg (H0 H:Hp) (D:Addr) (v:V):Option Cl→Prop
 | none=>v=.cB
 | some b=>∃ p,v=.ref p∧H0 p=none∧p≠D∧H p=some (.lst (tabI 24 (bB b)))
theorem Kg.mono {H0 H H':Hp} {D:Addr} {v:V} {o:Option Cl} (h:Kg H0 H D v o) (k:∀ p u,p≠D→H p=some u→H' p=some u):Kg H0 H' D v o:=by
 cases o with
 | none=>exact h
 | some b=>obtain ⟨p,h1,h2,h3,h4⟩:=h;exact ⟨p,h1,h2,h3,k p _ h3 h4⟩
def aU (L:Lk) (bs:List Cl):Lk:=bs.foldl ar L
def fU (L:Lk) (bs:List Cl):Lk:={ L with u:=if bs=[] then L.u+1 else 0 }
def bG (L:Lk):Lk:=if L.k≠0∧L.q≤L.u then gR L else L
def bW (L:Lk) (bs:List Cl):Lk:={ bG (fU (aU L bs) bs) with d:=(bG (fU (aU L bs) bs)).d+1 }
theorem EU (L:Lk) (bs:List Cl) (b:Cl):aU L (bs ++ [b])=ar (aU L bs) b:=by unfold aU;rw [List.foldl_append];rfl
structure vD (L:Lk):Prop where
 k:yC L.k
 o:JB L.of
 t:JB L.tk
 p:∀ xs ∈ L.bT,xs.length≤10∧∀ v ∈ xs,JB v
theorem Qd:yC 0:=⟨by decide,by decide⟩
theorem IK:JB 0:=⟨by decide,by decide⟩
theorem Gb (n:Int):JB (n % 97):=⟨Int.emod_nonneg _ (by decide),Int.emod_lt_of_pos _ (by decide)⟩
theorem vD.give {L:Lk} (h:vD L) (hb:yC L.b):Ga L:=by
 refine ⟨hb,h.k,h.o,h.t,?_,?_⟩
 ·show (L.bT.headD []).length≤10
  cases e:L.bT with
  | nil=>exact Nat.zero_le _
  | cons a r=>exact (h.p a (by rw [e];exact List.mem_cons_self)).1
 ·show ∀ v ∈ L.bT.headD [],JB v
  cases e:L.bT with
  | nil=>intro v hv;cases hv
  | cons a r=>exact (h.p a (by rw [e];exact List.mem_cons_self)).2
theorem Gc {L:Lk} {n:Int} (h:vD L) (hn:yC n):vD (bC L n):=by
 unfold bC
 cases L.p with
 | none=>exact ⟨hn,h.o,h.t,h.p⟩
 | some p =>
  simp only
  split
  ·exact ⟨hn,IK,IK,fun xs hx=>by cases hx⟩
  ·exact ⟨hn,h.o,h.t,h.p⟩
theorem NI {L:Lk} (h:vD L):vD (bH L):=by
 unfold bH
 cases L.p with
 | none=>exact ⟨h.k,h.o,h.t,h.p⟩
 | some p=>exact h
theorem NJ {L:Lk} {c:Int} (h:vD L):vD (bF L c):=by
 unfold bF
 split
 ·exact ⟨h.k,Gb _,h.t,fun xs hx=>h.p xs (List.mem_of_mem_tail hx)⟩
 ·exact h
theorem NK {L:Lk} {n:Int} {xs:List Int} (h:vD L):vD (bV L n xs):=by
 unfold bV
 split
 ·exact ⟨h.k,h.o,Gb _,h.p⟩
 ·exact h
theorem NL {L:Lk} {a:Cl} (h:vD L) (ha:yC a.b):vD (ar L a):=by
 unfold ar
 split
 ·exact h
 ·split
  ·exact NK (NJ (NI (Gc h ha)))
  ·exact Gc h ha
theorem NM {L:Lk} (h:vD L):vD (gR L):=by
 unfold gR
 cases L.p with
 | none=>exact ⟨Qd,h.o,h.t,h.p⟩
 | some p=>exact ⟨Qd,IK,IK,fun xs hx=>by cases hx⟩
theorem Cv {L:Lk} (h:vD L):vD (bG L):=by
 unfold bG
 split
 ·exact NM h
 ·exact h
theorem sO:∀ (bs:List Cl) (L:Lk),vD L→(∀ b ∈ bs,yC b.b)→vD (aU L bs)
 | [],_,h,_=>h
 | b :: r,L,h,hb=>sO r (ar L b) (NL h (hb b List.mem_cons_self)) fun x hx=>hb x (List.mem_cons_of_mem _ hx)
theorem t8 (L:Lk) (n:Int):(bC L n).b=L.b∧(bC L n).k=n:=by
 unfold bC
 cases L.p with
 | none=>exact ⟨rfl,rfl⟩
 | some p=>simp only;split <;> exact ⟨rfl,rfl⟩
theorem EV (L:Lk):(bH L).b=L.b∧(bH L).k=L.k:=by
 unfold bH
 cases L.p <;> exact ⟨rfl,rfl⟩
theorem Kh (L:Lk) (c:Int):(bF L c).b=L.b∧(bF L c).k=L.k:=by unfold bF;split <;> exact ⟨rfl,rfl⟩
theorem Ki (L:Lk) (n:Int) (xs:List Int):(bV L n xs).b=L.b∧(bV L n xs).k=L.k∧(bV L n xs).ev.length≤L.ev.length+1:=by
 unfold bV
 split
 ·exact ⟨rfl,rfl,by show (L.ev ++ [_]).length≤_;rw [List.length_append];exact Nat.le_refl _⟩
 ·exact ⟨rfl,rfl,Nat.le_succ _⟩
theorem Qe (L:Lk) (a:Cl):(ar L a).b=L.b∧((ar L a).k=L.k∨(ar L a).k=a.b)∧(ar L a).ev.length≤L.ev.length+3:=by
 have m1:=t8 L a.b
 have m2:=Ct L a.b
 have c1:=EV (bC L a.b)
 have c2:=Cu (bC L a.b)
 have h1:=Kh (bH (bC L a.b)) a.c
 have h2:=GX (bH (bC L a.b)) a.c
 have t1:=Ki (bF (bH (bC L a.b)) a.c) a.n a.xs
 unfold ar
 split
 ·exact ⟨rfl,.inl rfl,by omega⟩
 ·split
  ·refine ⟨t1.1.trans (h1.1.trans (c1.1.trans m1.1)),.inr (t1.2.1.trans (h1.2.trans (c1.2.trans m1.2))),?_⟩
   have:=t1.2.2
   rw [h2] at this
   omega
  ·exact ⟨m1.1,.inr m1.2,by omega⟩
theorem Av (L:Lk):∀ (bs:List Cl),(aU L bs).b=L.b∧(aU L bs).ev.length≤L.ev.length+3 * bs.length:=by
 intro bs
 induction bs generalizing L with
 | nil=>exact ⟨rfl,Nat.le_refl _⟩
 | cons b r ih =>
  have rb:=Qe L b
  obtain ⟨i1,i3⟩:=ih (ar L b)
  show (aU (ar L b) r).b=_∧(aU (ar L b) r).ev.length≤_
  exact ⟨i1.trans rb.1,by rw [List.length_cons];omega⟩
theorem Qf (L:Lk):(gR L).b=L.b+1∧(gR L).k=0:=by
 unfold gR
 cases L.p <;> exact ⟨rfl,rfl⟩
def cn (fs:List Cm):List Cl:=fs.filterMap (·.2)
theorem EW {fs:List Cm} {i:Nat} {c:Cm} (h:fs[i]?=some c):cn (fs.take (i+1))=cn (fs.take i) ++ (match c.2 with | none=>[] | some b=>[b]):=by
 unfold cn
 rw [List.take_succ,h,List.filterMap_append]
 congr 1
 cases e:c.2 <;> simp [e]
def Gd (C:Addr):Sp:=fun vs H Q _=>∃ (B:Hp) (x tA pA cl:Addr) (NH:Nat→Addr) (L:Lk) (fs:List Cm),vs=[.ref x,.ref cl]∧bS C B H x tA pA L∧Zy H cl NH fs∧fs.length≤1000∧L.ev.length≤1000∧0≤L.b∧L.b < 9000∧vD L ∧
 ∀ B' H' pB p,jF B H B' H' x tA pA tA pB→bS C B' H' x tA pB (bW L (cn fs))→H p=none→B' p=none→p≠pB→H' p=some (.lst (tabI 24 (bB (cO (bW L (cn fs))))))→Q (.ref p) H'
theorem vp:aV ["self","cells","tried","readable","cell"] ["self","cells"] (aI oC):=⟨rfl,rfl,rfl,by decide +kernel,rfl,by decide +kernel,by decide +kernel⟩
theorem NN {fd Cn T9 UA:FuncData} (T:Txt K mg t) (F:lF K "tick" "LinkEnd.tick" oC t.wa fd) (xK:Def P w K mg base 8 "mended" ["cell"] (zu K)) (EX:bz P w K mg base (j5 P w) 4 t.wb Cn ["self","cell"] (GY t.LinkEnd)) (EY:Binds K Cn ["self","cell"] [])
  (mS:bz P w K mg base (j5 P w) 3 t.fv T9 ["self"] (kY t.LinkEnd)) (mT:Binds K T9 ["self"] []) (mU:bz P w K mg base (j5 P w) 4 t.fu UA ["self"] (kZ t.LinkEnd)) (mV:Binds K UA ["self"] []) :
  bz P w K mg base (j5 P w) 9 t.wa fd ["self","cells"] (Gd t.LinkEnd)∧Binds K fd ["self","cells"] []:=by
 refine ⟨F.r9 vp (fun vs H Q E h=>?_) (fun f bw A outer s H vs Q E hr h=>?_),F.binds fun _ _ _ _ _ _ us hl=>match us,hl with | [_,_],_=>rfl⟩
 ·obtain ⟨B,x,tA,pA,cl,NH,L,fs,rfl,_⟩:=h
  rfl
 ·obtain ⟨B,x,tA,pA,cl,NH,L,fs,rfl,h,⟨Oh,Zz⟩,hfl,Vp,b0,b1,hk,q⟩:=h
  refine ⟨_,aE (jL (i:=2) vp.nd rfl (Or.inl rfl) rfl (Nc:=["cell"]) (ix:=[none]) (cG (aI oC) ["self","cells","tried","readable","cell"] rfl rfl (by decide +kernel)) (bj K (pv 1)) (fun C fp s H=>⟨(aw (i:=0) (show (["cell"]:List Str).Nodup by decide +kernel) rfl (Or.inl rfl)),b6,(aY (xK.mono (by decide)) hr ao (aC (pv 0) aF))⟩))
   (aE (jL (i:=3) vp.nd rfl (Or.inl rfl) rfl (Nc:=["cell"]) (ix:=[none]) (cG (aI oC) ["self","cells","tried","readable","cell"] rfl rfl (by decide +kernel)) (bj K (pv 2)) (fun C fp s H=>⟨(aw (i:=0) (show (["cell"]:List Str).Nodup by decide +kernel) rfl (Or.inl rfl)),(vg (aZ AG (pv 0) fW (af _))),(pv 0)⟩))
   (aE (PS.rS (cP PassesOwn.never rfl (bj K (pv 3)) (aw (i:=4) vp.nd rfl (Or.inl rfl))
    (aJ (av (pO (pv 0) T.aO T.Mr (EX.mono (by decide)) hr EY .nil ao (aC (pv 4) aF))))))
   (aE (cH K (pv 0) (nu (rV (pv 3) (fun _=>rfl)) aG (aM az (ax K (pv 0) (by rfl)) aG)) (by rfl))
   (aE (Dj (bO (PW.pt (AF (aZ Bg (ax K (pv 0) (by rfl)) (aW T.pW) (af _)) (ve (aZ JS (ax K (pv 0) (by rfl)) (ax K (pv 0) (by rfl)) (af _)))))
    (aJ (av (cj (pv 0) T.aO T.yI (mS.mono (by decide)) hr mT .nil ao)))
    (aq)))
   (aE (zK (pv 0) aG JP)
   (aJ (ai (cj (pv 0) T.aO T.yH (mU.mono (by decide)) hr mV .nil ao)))))))),?_⟩
  have pf:(1000001:Nat)≤sizeLine:=by decide
  have nz:∀ {a b:Addr},H a≠none→H b=none→b≠a:=fun {a b} h1 h2 z=>h1 (z ▸ h2)
  refine ⟨_,rfl,cl,rfl,⟨_,ae.of Oh⟩,fun D hD=>?_⟩
  refine kA (K:=K) (a:=cl) (xs:=bD fs.length NH) (fun i σ H'=>(∃ v,σ=[v])∧aK H H'∧∃ vs:List V,H' D=some (.lst vs)∧vs.length=i∧∀ (j:Nat) (v:V) (c:Cm),vs[j]?=some v→fs[j]?=some c→Kg H H' D v c.2)
   ⟨⟨none,rfl⟩,(aK.refl H).new hD,[],aD,rfl,fun j v c hv=>by cases hv⟩ (fun i σ H' _ p=>ae.of (p.2.1 _ _ Oh)) ?_ ?_
  ·rintro i v σ H' N hN hi ⟨⟨v0,rfl⟩,s1,vs,hv,Ro,Xg⟩
   obtain ⟨Kj,rfl⟩:=tab_of hi
   have e:fs[i]?=some fs[i]:=by simp [Kj]
   generalize fs[i]=c at e
   obtain ⟨c1,c2,c3⟩:=Zz i c e
   refine ck ?_
   have fin:∀ (v:V) (H2:Hp),aK H' H2→Kg H H2 D v c.2→(∃ ys,H2 D=some (.lst ys)∧ys.length < sizeLine∧N [some (.ref (NH i))] (upd H2 D (.lst (ys ++ [v])))):=fun v H2 s2 GO=>by
    refine ⟨_,s2 _ _ hv,by omega,hN _ _ ⟨⟨_,rfl⟩,(s1.trans s2).put hD,vs ++ [v],aD,by rw [List.length_append,Ro];rfl,fun j v' c' h1 h2=>?_⟩⟩
    have up:∀ p u,p≠D→H2 p=some u→(upd H2 D (.lst (vs ++ [v]))) p=some u:=fun p u n e=>by rw [aH n];exact e
    by_cases hj:j < vs.length
    ·rw [List.getElem?_append_left hj] at h1
     exact ((Xg j v' c' h1 h2).mono fun p u _ e=>s2 _ _ e).mono up
    ·have UD:j < (vs ++ [v]).length:=(List.getElem?_eq_some_iff.mp h1).1
     rw [List.length_append] at UD
     have UE:j=vs.length:=by simp at UD;omega
     rw [UE,List.getElem?_append_right (Nat.le_refl _),Nat.sub_self] at h1
     cases h1
     rw [UE,Ro,e] at h2
     cases h2
     exact GO.mono up
   refine ⟨_,rfl,NH i,c.1,rfl,ae.of (s1 _ _ c1),c2,fun g p H2 hm hp s2 e2=>?_,fun hno H2 s2=>?_⟩
   ·refine fin _ H2 s2 ?_
    cases ec:c.2 with
    | none=>rw [ec] at c3;exact absurd hm (c3 g)
    | some b =>
     rw [ec] at c3
     exact ⟨p,rfl,s1.free hp,(fun z=>by rw [z,hv] at hp;cases hp),by rw [e2,IJ hm c3.2]⟩
   ·refine fin _ H2 s2 ?_
    cases ec:c.2 with
    | none=>exact rfl
    | some b=>rw [ec] at c3;exact absurd c3.2 (hno _)
  ·rintro σ H1 ⟨⟨v0,rfl⟩,s1,vs,hv,Ro,Xg⟩
   rw [aN] at Ro
   have Z0:∀ b ∈ cn fs,jV b:=fun b hb=>by
    obtain ⟨c,hc,ec⟩:=List.mem_filterMap.mp hb
    obtain ⟨j,hj⟩:=List.getElem?_of_mem hc
    have c3:=(Zz j c hj).2.2
    rw [ec] at c3
    exact c3.1
   have Kk:(cn fs).length≤fs.length:=List.length_filterMap_le _ _
   obtain ⟨Tq,Xh⟩:=Av L (cn fs)
   have Fx:=sO (cn fs) L hk fun b hb=>(Z0 b hb).b
   refine ⟨_,rfl,D,rfl,⟨_,ae.of hv⟩,fun D2 Hw=>?_⟩
   refine kA (K:=K) (a:=D) (xs:=vs) (fun i σ H'=>(∃ v,σ=[v])∧aK H1 H'∧∃ ps:List Addr,H' D2=some (.lst (ps.map V.ref))∧ps.length=(cn (fs.take i)).length∧∀ (j:Nat) (p:Addr) (b:Cl),ps[j]?=some p→(cn (fs.take i))[j]?=some b→H p=none∧H1 p=some (.lst (tabI 24 (bB b))))
    ⟨⟨none,rfl⟩,(aK.refl H1).new Hw,[],aD,rfl,fun j p b hp=>by cases hp⟩ (fun i σ H' _ p=>ae.of (p.2.1 _ _ hv)) ?_ ?_
   ·rintro i v σ H' N hN hi ⟨⟨v0,rfl⟩,s2,ps,yM,pj,IE⟩
    have Kj:i < fs.length:=by rw [← Ro];exact (List.getElem?_eq_some_iff.mp hi).1
    have e:fs[i]?=some fs[i]:=by simp [Kj]
    generalize fs[i]=c at e
    have IL:=Xg i v c hi e
    have Ol:=EW e
    refine turn_if ?_
    cases ec:c.2 with
    | none =>
     rw [ec] at IL Ol
     have IL:v=.cB:=IL
     subst IL
     refine ⟨_,rfl,rfl,_,rfl,zU rfl ?_⟩
     refine hN _ _ ⟨⟨_,rfl⟩,s2,ps,yM,?_,?_⟩
     ·rw [Ol,List.append_nil];exact pj
     ·rw [Ol,List.append_nil];exact IE
    | some b =>
     rw [ec] at IL Ol
     obtain ⟨p,rfl,Qc,hpD,Ll⟩:=IL
     have Ol:cn (fs.take (i+1))=cn (fs.take i) ++ [b]:=Ol
     have UG:(cn (fs.take i)).length≤(fs.take i).length:=List.length_filterMap_le _ _
     rw [List.length_take] at UG
     refine ⟨_,rfl,rfl,_,rfl,zV (fun z=>by cases z) ?_⟩
     refine ⟨_,rfl,_,yM,by rw [List.length_map];omega,hN _ _ ⟨⟨_,rfl⟩,s2.put Hw,ps ++ [p],?_,?_,?_⟩⟩
     ·rw [aD,List.map_append];rfl
     ·rw [Ol,List.length_append,List.length_append,pj];rfl
     ·intro j p' b' h1 h2
      rw [Ol] at h2
      by_cases hj:j < ps.length
      ·rw [List.getElem?_append_left hj] at h1
       rw [List.getElem?_append_left (by omega)] at h2
       exact IE j p' b' h1 h2
      ·have UD:j < (ps ++ [p]).length:=(List.getElem?_eq_some_iff.mp h1).1
       rw [List.length_append] at UD
       have UE:j=ps.length:=by simp at UD;omega
       rw [UE,List.getElem?_append_right (Nat.le_refl _),Nat.sub_self] at h1
       cases h1
       rw [UE,pj,List.getElem?_append_right (Nat.le_refl _),Nat.sub_self] at h2
       cases h2
       exact ⟨Qc,Ll⟩
   ·rintro σ H2 ⟨⟨v0,rfl⟩,s2,ps,yM,pj,IE⟩
    rw [Ro,List.take_length] at pj IE
    generalize xM:cn fs=bs at *
    have Vo:=s1.trans s2
    have h2:=h.same Vo
    have Z1:H D2=none:=s1.free Hw
    have Kl:∀ {B3 H3:Hp} {pB:Addr} {a:Addr} {u:HO},jF B H2 B3 H3 x tA pA tA pB→H a=none→H2 a=some u→H3 a=some u:=fun {B3 H3 pB a u} m ha e=>m.k a u (nz h.hx ha) (nz h.ht ha) (nz h.hp ha) e
    refine ⟨_,rfl,D2,rfl,⟨_,ae.of yM⟩,lG (K:=K) (a:=D2) (xs:=ps.map V.ref) (fun i σ H3=>∃ (B3:Hp) (pB:Addr) (v4:Option V),σ=[some (.ref x),some (.ref cl),some (.ref D),some (.ref D2),v4]∧jF B H2 B3 H3 x tA pA tA pB∧bS t.LinkEnd B3 H3 x tA pB (aU L (bs.take i)))
     ⟨B,pA,none,rfl,jF.refl,h2⟩ (fun i σ H3 _ ⟨_,_,_,_,m3,_⟩=>ae.of (Kl m3 Z1 yM)) ?_ ?_⟩
    ·rintro i v σ H3 hi ⟨B3,pB,v4,rfl,m3,h3⟩
     rw [List.getElem?_map] at hi
     cases ep:ps[i]? with
     | none=>rw [ep] at hi;cases hi
     | some p =>
      rw [ep] at hi
      cases hi
      have hib:i < bs.length:=by rw [← pj];exact (List.getElem?_eq_some_iff.mp ep).1
      have eb:bs[i]?=some bs[i]:=by simp [hib]
      generalize bs[i]=b at eb
      obtain ⟨Qc,Ll⟩:=IE i p b ep eb
      have GL:=Kl m3 Qc (s2 _ _ Ll)
      have bb:=Z0 b (List.mem_of_getElem? eb)
      have Xi:p≠pB:=by
       rcases m3.p with z | z
       ·rw [z];exact nz h.hp Qc
       ·exact aP (s2 _ _ Ll) z
      have IA:=(Av L (bs.take i)).2
      rw [List.length_take] at IA
      obtain ⟨NG,Rk,Qb,_⟩:=h3.at_
      refine ⟨_,rfl,x,NG,_,rfl,Qb,rfl,_,rfl,B3,x,tA,pB,p,_,b,rfl,h3,by omega,GL,bb,nz h.ht Qc,Xi,fun B4 H4 pC m4 h4=>?_⟩
      rw [← EU,← take_succ eb] at h4
      exact ⟨B4,pC,_,rfl,m3.trans m4,h4⟩
    ·rintro σ H3 ⟨B3,pB,v4,rfl,m3,h3⟩
     rw [List.length_map,pj,List.take_length] at h3
     have Vn:=(jF.of_same (B:=B) Vo).trans m3
     obtain ⟨NG,Rk,Qb,Xj⟩:=h3.at_
     have Vl:=Kl m3 Z1 yM
     have tail:∀ (n:Int),(fU (aU L bs) bs).u=n→(JL (JX K (qN 0) (tC (.int n)) "unheard") (JL (S7 (R9 (R6 (Fl (PN Wa (DT K (qN 0) "known") (tC (V.int 0)))) (Fl (PN (Lg fun i j=>V.bl (decide (j≤i))) (DT K (qN 0) "unheard") (DT K (qN 0) "quiet"))))
       (JM (Fm t.LinkEnd "start_over" (kY t.LinkEnd) [] E0 (qN 0) DW)) OI)) (JL (AI K (qN 0) (tC (V.int 1)) (ZL fun i j=>i+j) "done") (PD (Fm t.LinkEnd "cell_given" (kZ t.LinkEnd) [] E0 (qN 0) DW))))) { nx:=fun x H'=>Q V.cB H',rt:=Q } [some (V.ref x),some (V.ref cl),some (V.ref D),some (V.ref D2),v4] H3:=fun n hn=>by
      refine ⟨_,rfl,x,t.LinkEnd,NG,_,rfl,Qb,T.aO,T.mG,by show 11 < 1000;decide,?_⟩
      rw [EK]
      obtain ⟨h4,m4⟩:=h3.set (dx:=NG) (pv:=Rk) (L':=fU (aU L bs) bs) Xj rfl rfl
      have e4:cw (aU L bs).q (aU L bs).s (aU L bs).d n (aU L bs).b (aU L bs).k Rk tA pB (aU L bs).of (aU L bs).tk=(fU (aU L bs) bs).fld Rk tA pB:=by rw [← hn];rfl
      rw [e4]
      have UB:=Vn.trans m4
      have Z2:(fU (aU L bs) bs).b=L.b:=Tq
      have l4k:vD (fU (aU L bs) bs):=⟨Fx.k,Fx.o,Fx.t,Fx.p⟩
      have l4e:(fU (aU L bs) bs).ev.length≤L.ev.length+3 * bs.length:=Xh
      have tk:bW L bs={ bG (fU (aU L bs) bs) with d:=(bG (fU (aU L bs) bs)).d+1 }:=rfl
      generalize fU (aU L bs) bs=L4 at *
      generalize upd H3 x (.ins t.LinkEnd NG (L4.fld Rk tA pB))=H4 at *
      obtain ⟨Rl,pv4,Rm,aCz⟩:=h4.at_
      refine ⟨fun σ H'=>∃ B5 pC,σ=[some (V.ref x),some (V.ref cl),some (V.ref D),some (V.ref D2),v4]∧jF B H B5 H' x tA pA tA pC∧bS t.LinkEnd B5 H' x tA pC (bG L4),?_,?_⟩
      ·refine ⟨_,rfl,x,t.LinkEnd,Rl,_,_,rfl,Rm,T.aO,T.f7,pZ,rfl,_,rfl,?_⟩
       by_cases Vq:L4.k=0
       ·refine zU (by rw [Vq]) (iI ?_)
        exact ⟨B3,pB,rfl,UB,by unfold bG;rw [if_neg (fun z=>z.1 Vq)];exact h4⟩
       ·refine zV (fun z=>Vq (V.int.inj z)) ?_
        refine ⟨_,rfl,x,t.LinkEnd,Rl,_,_,rfl,Rm,T.aO,T.mG,zv,_,rfl,x,t.LinkEnd,Rl,_,_,rfl,Rm,T.aO,T.wq,GQ,_,_,rfl,rfl,_,rfl,?_⟩
        by_cases Vr:L4.q≤L4.u
        ·refine dX Vr ?_
         refine ⟨_,rfl,x,Rl,_,rfl,Rm,rfl,B3,x,tA,pB,L4,rfl,h4,by omega,fun B5 H5 pC m5 h5=>?_⟩
         exact ⟨B5,pC,rfl,UB.trans m5,by unfold bG;rw [if_pos ⟨Vq,Vr⟩];exact h5⟩
        ·refine dE Vr ?_
         exact ⟨B3,pB,rfl,UB,by unfold bG;rw [if_neg (fun z=>Vr z.2)];exact h4⟩
      ·rintro σ H5 ⟨B5,pC,rfl,m5,h5⟩
       have l5:yC (bG L4).b∧vD (bG L4):=by
        refine ⟨?_,Cv l4k⟩
        unfold bG
        split
        ·rw [(Qf L4).1,Z2]
         exact ⟨by omega,by omega⟩
        ·rw [Z2]
         exact ⟨by omega,by omega⟩
       generalize bG L4=L5 at *
       obtain ⟨Lj,UC,Rn,Xk⟩:=h5.at_
       refine ⟨_,rfl,x,t.LinkEnd,Lj,_,_,rfl,Rn,T.aO,T.vo,EJ,_,_,rfl,rfl,Lj,_,Rn,by show 11 < 1000;decide,?_⟩
       rw [M3]
       obtain ⟨h6,m6⟩:=h5.set (dx:=Lj) (pv:=UC) (L':={ L5 with d:=L5.d+1 }) Xk rfl rfl
       have h6:bS t.LinkEnd B5 (upd H5 x (.ins t.LinkEnd Lj (cw L5.q L5.s (L5.d+1) L5.u L5.b L5.k UC tA pC L5.of L5.tk))) x tA pC { L5 with d:=L5.d+1 }:=h6
       have m6:jF B5 H5 B5 (upd H5 x (.ins t.LinkEnd Lj (cw L5.q L5.s (L5.d+1) L5.u L5.b L5.k UC tA pC L5.of L5.tk))) x tA pC tA pC:=m6
       generalize upd H5 x (.ins t.LinkEnd Lj (cw L5.q L5.s (L5.d+1) L5.u L5.b L5.k UC tA pC L5.of L5.tk))=H6 at *
       have Z3:=m5.trans m6
       obtain ⟨dx6,pv6,hx6,_⟩:=h6.at_
       have gl6:Ga { L5 with d:=L5.d+1 }:=(vD.give (L:=L5) l5.2 l5.1)
       refine ⟨_,rfl,x,dx6,_,rfl,hx6,rfl,B5,x,tA,pC,_,rfl,h6,gl6,fun p H7 hp s7 e7=>?_⟩
       rw [tk] at q
       exact q B5 H7 pC p (Z3.same s7) (h6.same s7) (Z3.g p hp) (h6.sb.free hp) (fun z=>h6.hp (by rw [← z];exact hp)) e7
     refine ⟨_,rfl,_,.inl ⟨_,ae.of Vl,rfl⟩,?_⟩
     by_cases I0:bs=[]
     ·have Xl:ps=[]:=List.length_eq_zero_iff.mp (by rw [pj,I0];rfl)
      rw [Xl]
      refine iI ?_
      refine ⟨_,rfl,x,t.LinkEnd,NG,_,_,rfl,Qb,T.aO,T.mG,zv,_,_,rfl,rfl,?_⟩
      exact tail _ (if_pos I0)
     ·have Xl:(!(ps.map V.ref).isEmpty)=true:=by
       cases ps with
       | nil=>exact absurd (List.length_eq_zero_iff.mp pj.symm) I0
       | cons a r=>rfl
      rw [Xl]
      refine iu ?_
      exact tail _ (if_neg I0)
def nZ (q s:Int):Lk:=⟨q,s,0,0,1,0,none,[],[],0,0⟩
theorem NO:aV ["self","measure","side"] ["self","measure","side"] (aI tU):=⟨rfl,rfl,rfl,by decide +kernel,rfl,by decide +kernel,by decide +kernel⟩
def Ge (K:PySem.W.Frag) (C:Addr):Sp:=fun vs H Q _=>∃ (B:Hp) (x dx ma:Addr) (a b sd:Int),vs=[.ref x,.ref ma,.int sd]∧H x=some (.ins C dx [])∧cD K H ma [.int a,.int b]∧Tt a b∧aK B H∧B x=none ∧
 ∀ (tA pA:Addr) (H':Hp),(∀ y o,y≠x→H y=some o→H' y=some o)→(∀ y,H' y=none→H y=none)→H tA=none→H pA=none→bS C B H' x tA pA (nZ (a+b) sd)→Q .cB H'
theorem NP {fd Cn:FuncData} (T:Txt K mg t) (F:lF K "__init__" "LinkEnd.__init__" tU t.init fd) (qe:Def P w K mg base 3 "quiet_of" ["measure"] (ux K t.BadMeasure)) (cV:bz P w K mg base (j5 P w) 1 t.cU Cn ["self"] (gm t.LinkEnd)) (cW:Binds K Cn ["self"] []) :
  bz P w K mg base (j5 P w) 4 t.init fd ["self","measure","side"] (Ge K t.LinkEnd)∧Binds K fd ["self","measure","side"] []:=by
 refine ⟨F.r9 NO (fun vs H Q E h=>?_) (fun f bw A outer s H vs Q E hr h=>?_),F.binds fun _ _ _ _ _ _ us hl=>match us,hl with | [_,_,_],_=>rfl⟩
 ·obtain ⟨B,x,dx,ma,a,b,sd,rfl,_⟩:=h
  rfl
 ·obtain ⟨B,x,dx,ma,a,b,sd,rfl,hx,Om,hm,sB,bx,q⟩:=h
  refine ⟨_,aE (cH K (pv 0) (aY (qe.mono (by decide)) hr (lH bE) (aC (pv 1) aF)) (by rfl)) (aE (cH K (pv 0) (pv 2) (by rfl)) (aE (cH K (pv 0) aG (by rfl)) (aE (cH K (pv 0) aG (by rfl)) (aE (cH K (pv 0) aG (by rfl)) (aE (cH K (pv 0) (aW T.pW) (by rfl)) (aE (cH K (pv 0) fW (by rfl)) (aE (cH K (pv 0) (bI aF) (by rfl))
   (aJ (av (cj (pv 0) T.aO T.lR (cV.mono (by decide)) hr cW .nil ao)))))))))),?_⟩
  refine ⟨_,rfl,ma,a,b,rfl,Om,dg (by have:=hm.1;omega) (by have:=hm.1;omega),dg (by have:=hm.2;omega) (by have:=hm.2;omega),fun _=>?_,fun z=>absurd hm z⟩
  refine ⟨_,rfl,x,t.LinkEnd,dx,_,rfl,hx,T.aO,T.wq,by show 0 < 1000;decide,?_⟩
  refine ⟨_,rfl,_,rfl,x,t.LinkEnd,dx,_,rfl,aD,T.aO,T.GK,by show 1 < 1000;decide,?_⟩
  rw [ir]
  refine ⟨_,rfl,x,t.LinkEnd,dx,_,rfl,aD,T.aO,T.vo,by show 2 < 1000;decide,?_⟩
  rw [ir]
  refine ⟨_,rfl,x,t.LinkEnd,dx,_,rfl,aD,T.aO,T.mG,by show 3 < 1000;decide,?_⟩
  rw [ir]
  refine ⟨_,rfl,x,t.LinkEnd,dx,_,rfl,aD,T.aO,T.lQ,by show 4 < 1000;decide,?_⟩
  rw [ir]
  refine ⟨_,rfl,x,t.LinkEnd,dx,_,rfl,aD,T.aO,T.f7,by show 5 < 1000;decide,?_⟩
  rw [ir]
  refine ⟨_,rfl,x,t.LinkEnd,dx,_,rfl,aD,T.aO,T.f9,by show 6 < 1000;decide,?_⟩
  rw [ir]
  refine ⟨zz0,fun tA Vs=>?_⟩
  have Qa:x≠tA:=fun z=>by rw [← z,aD] at Vs;cases Vs
  have UH:H tA=none:=by rw [aH (Ne.symm Qa)] at Vs;exact Vs
  refine ⟨_,rfl,x,t.LinkEnd,dx,_,rfl,by rw [aH Qa];exact aD,T.aO,T.mH,by show 7 < 1000;decide,?_⟩
  refine ⟨_,rfl,x,dx,_,rfl,aD,rfl,x,dx,_,rfl,aD,by show 8 < 900;decide,fun pA Rp=>?_⟩
  have M6:x≠pA:=fun z=>by rw [← z,aD] at Rp;cases Rp
  have T5:tA≠pA:=fun z=>by rw [← z,aH (Ne.symm Qa),aD] at Rp;cases Rp
  have Ll:H pA=none:=by rw [aH (Ne.symm M6),aH (Ne.symm T5),aH (Ne.symm M6)] at Rp;exact Rp
  refine q tA pA _ (fun y o n e=>?_) (fun y hy=>?_) UH Ll ⟨?_,bx,sB.free UH,sB.free Ll,⟨dx,.cB,aD,rfl⟩,⟨fun _=>0,?_,fun y e he=>by cases he⟩,⟨fun _=>0,?_,fun y e he=>by cases he⟩,T5⟩
  ·rw [aH n,aH (aP e Ll),aH n,aH (aP e UH),aH n];exact e
  ·by_cases z1:y=x
   ·rw [z1,aD] at hy;cases hy
   ·by_cases z2:y=pA
    ·rw [z2];exact Ll
    ·by_cases z3:y=tA
     ·rw [z3];exact UH
     ·rw [aH z1,aH z2,aH z1,aH z3,aH z1] at hy;exact hy
  ·intro y o e
   have n:y≠x:=fun z=>by rw [z,bx] at e;cases e
   have e:=sB _ _ e
   rw [aH n,aH (aP e Ll),aH n,aH (aP e UH),aH n];exact e
  ·rw [aH (Ne.symm Qa),aH T5,aH (Ne.symm Qa)];exact aD
  ·rw [aH (Ne.symm M6)];exact aD
def Aw (ns:List Int):Prop:=(1≤ns.length∧ns.length≤10)∧∀ n ∈ ns,JB n
def qJ (K:PySem.W.Frag) (C:Addr):Sp:=fun vs H Q E=>∃ (l:Addr) (ns:List Int),vs=[.ref l]∧ae K H l (ns.map V.int)∧(∀ n ∈ ns,n.natAbs < 2 ^ 1000)∧(Aw ns→Q .cB H)∧(¬ Aw ns→E (.ref C) none H)
theorem qK:aV ["piece","sign"] ["piece"] (aI i6):=⟨rfl,rfl,rfl,by decide +kernel,rfl,by decide +kernel,by decide +kernel⟩
theorem yW (F:aT K mg "look_piece" i6) (T:Txt K mg t) (gd:Def P w K mg base 1 "is_sign" ["number"] mJ):Def P w K mg base 2 "look_piece" ["piece"] (qJ K t.BadPiece):=by
 refine F.def qK (fun _ _ _ _ _ _ us hl=>match us,hl with | [_],_=>rfl) (fun vs H Q E h=>?_) (fun f bw A outer s H vs Q E hr h=>?_)
 ·obtain ⟨l,ns,rfl,_⟩:=h
  rfl
 ·obtain ⟨l,ns,rfl,hl,hb,q1,q2⟩:=h
  refine ⟨_,aE (bO (qO (wC vz vz aG (bR (bM K) (by rfl) T.f6 boot_len (aC (pv 0) aF)) (aW T.oF)))
    (aJ (eY bE rfl rfl T.zl T.zm PySem.F.excBase_ValueError (aC (j9 (bY cy (bY (fZ (aW T.oF)) (bY cy n8)))) aF)))
    (aq))
   (aJ (cP (P4 bE) rfl (bj K (pv 0)) (aw (i:=1) qK.nd rfl (Or.inl rfl))
    (aJ (bO (qO (tH (aY (gd.mono (by decide)) hr ao (aC (pv 1) aF))))
     (aJ (eY bE rfl rfl T.zl T.zm PySem.F.excBase_ValueError (aC (j9 (bY (fZ (pv 1)) (bY cy n8))) aF)))
     (aq))))),?_⟩
  have sl:(3000:Nat)≤sizeLine:=by decide
  have z10:=gB (i:=10) (by decide)
  have l1:("a piece has 1 to ":Str).length=17:=by decide +kernel
  have l2:(" signs":Str).length=6:=by decide +kernel
  have e0:(Str.empty ++ ("a piece has 1 to ":Str)).length≤17:=by rw [strLen_append,l1];show 0+17≤17;omega
  have e1:((Str.empty ++ ("a piece has 1 to ":Str)) ++ Str.ofString (toString (10:Int))).length≤1018:=by rw [strLen_append];omega
  have e2:(((Str.empty ++ ("a piece has 1 to ":Str)) ++ Str.ofString (toString (10:Int))) ++ (" signs":Str)).length≤1024:=by rw [strLen_append];omega
  refine ⟨_,rfl,l,_,rfl,.inl hl,_,_,rfl,rfl,_,rfl,?_⟩
  rw [List.length_map]
  by_cases h1:(1:Int)≤(ns.length:Nat)
  ·refine dX h1 ?_
   refine ⟨_,_,rfl,rfl,_,rfl,?_⟩
   by_cases h2:((ns.length:Nat):Int)≤10
   ·rw [decide_eq_true h2]
    refine iI ?_
    refine ⟨_,rfl,l,rfl,⟨_,hl⟩,lG (K:=K) (a:=l) (xs:=ns.map V.int) (fun i σ H'=>∃ x:Option V,σ=[some (.ref l),x]∧H'=H∧∀ n ∈ ns.take i,JB n) ⟨none,rfl,rfl,fun n hn=>by simp at hn⟩ (fun i σ H' _ ⟨_,_,e,_⟩=>by rw [e];exact hl) ?_ ?_⟩
    ·rintro i y σ H' hi ⟨x,rfl,rfl,ha⟩
     obtain ⟨z,hz,rfl⟩:=mB hi
     have QS:z ∈ ns:=List.mem_of_getElem? hz
     refine ⟨_,rfl,z,rfl,_,rfl,?_⟩
     by_cases h0:0≤z∧z < 97
     ·rw [decide_eq_true h0]
      refine iI ⟨some (.int z),rfl,rfl,?_⟩
      rw [take_succ hz]
      intro n hn
      rcases List.mem_append.mp hn with z1 | z1
      ·exact ha n z1
      ·rw [List.mem_singleton.mp z1];exact h0
     ·rw [decide_eq_false h0]
      refine iu ?_
      have Zl:=gB (hb z QS)
      have f0:(Str.empty ++ Str.ofString (toString z)).length≤1001:=by rw [strLen_append];show 0+_≤1001;omega
      have f1:((Str.empty ++ Str.ofString (toString z)) ++ (" is no sign":Str)).length≤2000:=by
       have:(" is no sign":Str).length=11:=by decide +kernel
       rw [strLen_append];omega
      refine ⟨_,rfl,z,rfl,dR (hb z QS) (by decide) (by decide),_,rfl,by omega,_,rfl,by omega,by omega,?_⟩
      exact ⟨zz1,q2 fun r=>h0 (r.2 z QS)⟩
    ·rintro σ H' ⟨x,rfl,rfl,ha⟩
     rw [List.length_map,List.take_length] at ha
     exact q1 ⟨⟨by omega,by omega⟩,ha⟩
   ·rw [decide_eq_false h2]
    refine iu ?_
    refine ⟨_,rfl,by omega,10,rfl,dR (n:=1000) (by decide) (by decide) (by decide),_,rfl,by omega,_,rfl,by omega,by omega,?_⟩
    exact ⟨zz1,q2 fun r=>h2 (by have:=r.1.2;omega)⟩
  ·refine dE h1 ?_
   refine ⟨_,rfl,iu ?_⟩
   refine ⟨_,rfl,by omega,10,rfl,dR (n:=1000) (by decide) (by decide) (by decide),_,rfl,by omega,_,rfl,by omega,by omega,?_⟩
   exact ⟨zz1,q2 fun r=>h1 (by have:=r.1.1;omega)⟩
def Km (K:PySem.W.Frag) (C N Bp:Addr):Sp:=fun vs H Q E=>∃ (B:Hp) (x tA pA l:Addr) (L:Lk) (ns:List Int),vs=[.ref x,.ref l]∧bS C B H x tA pA L∧L.bT.length < 1000000∧ae K H l (ns.map V.int)∧(∀ n ∈ ns,n.natAbs < 2 ^ 1000) ∧
 (L.p=none→E (.ref N) none H)∧(L.p≠none→¬ Aw ns→E (.ref Bp) none H)∧(L.p≠none→Aw ns→∀ B' H',jF B H B' H' x tA pA tA pA→bS C B' H' x tA pA { L with bT:=L.bT ++ [ns] }→Q .cB H')
theorem Qg:aV ["self","piece"] ["self","piece"] (aI ze):=⟨rfl,rfl,rfl,by decide +kernel,rfl,by decide +kernel,by decide +kernel⟩
theorem Qh {fd:FuncData} (T:Txt K mg t) (F:lF K "put" "LinkEnd.put" ze t.CM fd) (mW:Def P w K mg base 2 "look_piece" ["piece"] (qJ K t.BadPiece)) :
  bz P w K mg base (j5 P w) 3 t.CM fd ["self","piece"] (Km K t.LinkEnd t.NoLink t.BadPiece)∧Binds K fd ["self","piece"] []:=by
 refine ⟨F.r9 Qg (fun vs H Q E h=>?_) (fun f bw A outer s H vs Q E hr h=>?_),F.binds fun _ _ _ _ _ _ us hl=>match us,hl with | [_,_],_=>rfl⟩
 ·obtain ⟨B,x,tA,pA,l,L,ns,rfl,_⟩:=h
  rfl
 ·obtain ⟨B,x,tA,pA,l,L,ns,rfl,h,hlen,hl,hb,q1,q2,q3⟩:=h
  refine ⟨_,aE (bO (aZ wB (ax K (pv 0) (by rfl)) fW (af _))
    (aJ (eY bE rfl rfl T.Mo T.Mp PySem.F.excBase_ValueError (aC cy aF)))
    (aq))
   (aE (av (aY (mW.mono (by decide)) hr (lH bE) (aC (pv 1) aF)))
   (aJ (av (eg K PySem.F.plainAttrs_list PySem.F.slot_list_append PySem.F.type_list_append bZ (ax K (pv 0) (by rfl)) (aC (df (gT K) (by rfl) T.qW boot_list (aC (pv 1) aF)) aF))))),?_⟩
  have pf:(1000001:Nat)≤sizeLine:=by decide
  obtain ⟨dx,pv,hx,hp⟩:=h.at_
  obtain ⟨gj,g3,xE⟩:=h.bT
  refine ⟨_,rfl,x,t.LinkEnd,dx,_,_,rfl,hx,T.aO,T.f9,oQ,rfl,_,rfl,?_⟩
  cases ep:L.p with
  | none =>
   rw [ep] at hp
   have hp:pv=.cB:=hp
   subst hp
   refine dX rfl ?_
   exact ⟨zz1,q1 ep⟩
  | some p =>
   have hn:L.p≠none:=by rw [ep];exact fun z=>by cases z
   rw [ep] at hp
   obtain ⟨pa,rfl,GP⟩:=hp
   refine dE (fun z=>by cases z) ?_
   refine ⟨_,rfl,l,ns,rfl,hl,hb,fun Tv=>?_,fun z=>q2 hn z⟩
   refine ⟨_,rfl,x,t.LinkEnd,dx,_,_,rfl,hx,T.aO,T.jD,oR,.inl ⟨rfl,_,ae.of g3⟩,?_⟩
   refine ⟨_,rfl,l,_,rfl,.inl hl,fun c hc=>?_⟩
   have s1:aK H (upd H c (.lst (ns.map V.int))):=(aK.refl _).new hc
   obtain ⟨h1,m1⟩:=h.grow (o:=.lst (ns.map V.int)) s1 hc aD
   refine ⟨pA,_,_,rfl,rfl,s1 _ _ g3,by rw [aN];omega,?_⟩
   have bc:(upd B c (.lst (ns.map V.int))) c=some (.lst (ns.map V.int)):=aD
   have g31:=s1 _ _ g3
   generalize upd H c (.lst (ns.map V.int))=H1 at *
   have sB:=m1.bb
   generalize upd B c (.lst (ns.map V.int))=B1 at *
   obtain ⟨xG,M9,yN,Ao⟩:=h1.at_
   obtain ⟨kX,g2,Au⟩:=h1.told
   rw [bq]
   refine q3 hn Tv B1 _ (m1.trans ⟨aK.refl _,fun _ _ z=>z,fun y o _ _ n3 e=>by rw [aH n3];exact e,fun b hb=>jU hb h1.hp,.inl rfl,.inl rfl⟩) ⟨h1.sb.put h1.bp,h1.bx,h1.bt,h1.bp,⟨xG,M9,by rw [aH h.xp];exact yN,Ao⟩,⟨kX,by rw [aH h.ne];exact g2,Au⟩,⟨fun k=>if k=L.bT.length then c else gj k,?_,fun y xs hy=>?_⟩,h.ne⟩
   ·rw [aD]
    show some (HO.lst (bD (L.bT.length+1) _))=some (HO.lst (bD (L.bT ++ [ns]).length _))
    rw [List.length_append];rfl
   ·have hy:(L.bT ++ [ns])[y]?=some xs:=hy
    by_cases z:y=L.bT.length
    ·rw [z,List.getElem?_append_right (Nat.le_refl _),Nat.sub_self] at hy
     cases hy
     simp only [z,if_true]
     exact bc
    ·have T4:y < (L.bT ++ [ns]).length:=(List.getElem?_eq_some_iff.mp hy).1
     rw [List.length_append] at T4
     have QY:y < L.bT.length:=by simp at T4;omega
     rw [List.getElem?_append_left QY] at hy
     simp only [z,if_false]
     exact sB _ _ (xE y xs hy)
abbrev Pr:=Int × Int
def own (s:Nat) (P:Pr):Int:=if s=0 then P.1 else P.2
def BP (s:Nat) (P:Pr):Int:=if s=0 then P.2 else P.1
def pr (s:Nat) (b k:Int):Pr:=if s=0 then (b,k) else (k,b)
theorem oS (s:Nat) (b k:Int):own s (pr s b k)=b:=by unfold own pr;split <;> rfl
theorem t9 (s:Nat) (b k:Int):BP s (pr s b k)=k:=by unfold BP pr;split <;> rfl
theorem NQ {s:Nat} (h:s < 2) (b k:Int):pr (1 - s) b k=pr s k b:=by
 match s,h with
 | 0,_=>rfl
 | 1,_=>rfl
 | s+2,h=>omega
structure Gh where
 W:Nat→Pr→List (List Int)
 O:Nat→Pr→Nat
 K:Nat→Pr→Nat
 U:Nat→Pr→Prop
def Unr (s:Nat) (L:Lk) (P:Pr):Prop:=L.b < own s P∨(own s P=L.b∧L.k < BP s P)
structure oT (G:Gh) (s:Nat) (P:Pr):Prop where
 w:G.W s P=[]
 o:G.O s P=0
 k:G.K s P=0
 u:¬ G.U s P
structure En (G:Gh) (s:Nat) (L:Lk):Prop where
 sd:L.s=(s:Int)
 o:L.of=(G.O s (pr s L.b L.k):Int) % 97
 t:L.tk=(G.K s (pr s L.b L.k):Int) % 97
 p:L.bT=(G.W s (pr s L.b L.k)).drop (G.O s (pr s L.b L.k))
 ow:G.O s (pr s L.b L.k)≤(G.W s (pr s L.b L.k)).length
 dn:L.p=none→oT G s (pr s L.b L.k)
 up:∀ x,L.p=some x→x=pr s L.b L.k∧G.U s (pr s L.b L.k)
 un:∀ P,Unr s L P→oT G s P
 um:∀ P,G.U s P→own s P≤L.b∧(own s P=L.b→BP s P≤L.k)
def Rel (G:Gh):Prop:=∀ s,s < 2→∀ P,G.O s P≤G.K (1 - s) P∧G.K (1 - s) P≤G.O s P+1∧G.K (1 - s) P≤(G.W s P).length
structure eG (G:Gh) (s:Nat) (a:Cl) (Ax:Nat):Prop where
 ex:∃ nc cc:Nat,a.n=(nc:Int) % 97∧a.c=(cc:Int) % 97∧nc≤G.O s (pr s a.b a.k)∧cc≤G.K s (pr s a.b a.k)∧G.O s (pr s a.b a.k)≤nc+Ax∧G.K s (pr s a.b a.k)≤cc+Ax∧(a.xs=[]∨(G.W s (pr s a.b a.k))[nc]?=some a.xs)
 m:∀ P,G.U (1 - s) P→own (1 - s) P < a.k→BP (1 - s) P≤a.b
def cx {α:Type} (f:Nat→Pr→α) (s:Nat) (P:Pr) (v:α):Nat→Pr→α:=fun i Q=>if i=s∧Q=P then v else f i Q
theorem bN {α:Type} {f:Nat→Pr→α} {s:Nat} {P:Pr} {v:α}:cx f s P v s P=v:=if_pos ⟨rfl,rfl⟩
theorem b7 {α:Type} {f:Nat→Pr→α} {s i:Nat} {P Q:Pr} {v:α} (h:¬ (i=s∧Q=P)):cx f s P v i Q=f i Q:=if_neg h
structure Wt where
 p:Option Pr
 k:Pr→Nat
 u:Pr→Prop
def wt (G:Gh) (s:Nat) (L:Lk):Wt:=⟨L.p,G.K s,G.U s⟩
inductive pb (W:Pr→List (List Int)):Wt→List Ev→Wt→Prop
 | nil (a):pb W a [] a
 | up {a b:Wt} {es:List Ev} {x:Pr} (h:pb W a es b) (hp:b.p=none) (hu:¬ b.u x) (hm:∀ P,b.u P→P.1≤x.1∧P.2≤x.2) (hz:b.k x=0):pb W a (es ++ [.mk "up" x []]) ⟨some x,b.k,fun P=>P=x∨b.u P⟩
 | anew {a b:Wt} {es:List Ev} {x:Pr} (h:pb W a es b) (hp:b.p=some x):pb W a (es ++ [.mk "anew" x []]) ⟨none,b.k,b.u⟩
 | dr {a b:Wt} {es:List Ev} {x:Pr} {f e:Int} (h:pb W a es b) (hp:b.p=some x):pb W a (es ++ [.mk "silent" x [f,e]]) ⟨none,b.k,b.u⟩
 | took {a b:Wt} {es:List Ev} {x:Pr} {xs:List Int} (h:pb W a es b) (hp:b.p=some x) (hw:(W x)[b.k x]?=some xs):pb W a (es ++ [.took xs]) ⟨b.p,fun P=>if P=x then b.k x+1 else b.k P,b.u⟩
structure j6 (r:Nat) (b:Int) (G G':Gh):Prop where
 w:G'.W=G.W
 o:∀ i,i≠r→G'.O i=G.O i
 k:∀ i,i≠r→G'.K i=G.K i
 u:∀ i,i≠r→G'.U i=G.U i
 om:∀ P,G.O r P≤G'.O r P
 km:∀ P,G.K r P≤G'.K r P
 un:∀ P,G'.U r P→G.U r P∨own r P=b
theorem j6.refl {r:Nat} {b:Int} {G:Gh}:j6 r b G G:=⟨rfl,fun _ _=>rfl,fun _ _=>rfl,fun _ _=>rfl,fun _=>Nat.le_refl _,fun _=>Nat.le_refl _,fun _ h=>.inl h⟩
theorem j6.trans {r:Nat} {β:Int} {G G1 G2:Gh} (a:j6 r β G G1) (b:j6 r β G1 G2):j6 r β G G2 :=
 ⟨b.w.trans a.w,fun i h=>(b.o i h).trans (a.o i h),fun i h=>(b.k i h).trans (a.k i h),fun i h=>(b.u i h).trans (a.u i h),fun P=>Nat.le_trans (a.om P) (b.om P),fun P=>Nat.le_trans (a.km P) (b.km P),fun P h=>(b.un P h).elim (a.un P) .inr⟩
theorem eG.grow {r:Nat} {β:Int} {G G':Gh} (g:j6 r β G G') {s:Nat} (hs:s≠r) (hr:r=1 - s) {a:Cl} {Ax:Nat} (hk:a.k≤β) (h:eG G s a Ax):eG G' s a Ax:=by
 obtain ⟨nc,cc,h1⟩:=h.ex
 refine ⟨⟨nc,cc,by rw [g.o s hs,g.k s hs,g.w];exact h1⟩,fun P hP ho=>?_⟩
 subst hr
 rcases g.un P hP with z | z
 ·exact h.m P z ho
 ·omega
theorem UI {s:Nat} {P:Pr} {b k:Int} (h1:own s P≤b) (h2:BP s P≤k):P.1≤(pr s b k).1∧P.2≤(pr s b k).2:=by
 unfold own BP at *
 unfold pr
 split
 ·rename_i z;rw [if_pos z] at h1 h2;exact ⟨h1,h2⟩
 ·rename_i z;rw [if_neg z] at h1 h2;exact ⟨h2,h1⟩
theorem fM {G:Gh} {s:Nat} {L:Lk} (sd:L.s=(s:Int)) (fr:oT G s (pr s L.b L.k)) (h1:L.p=none) (h2:L.bT=[]) (h3:L.of=0) (h4:L.tk=0) (un:∀ P,Unr s L P→oT G s P) (um:∀ P,G.U s P→own s P≤L.b∧(own s P=L.b→BP s P≤L.k)):En G s L :=
 ⟨sd,by rw [fr.o,h3];rfl,by rw [fr.k,h4];rfl,by rw [fr.w,h2,List.drop_nil],by rw [fr.o];exact Nat.zero_le _,fun _=>fr,fun x hx=>(by rw [h1] at hx;cases hx),un,um⟩
theorem En.zero {G:Gh} {s:Nat} {L:Lk} (h:En G s L) (hp:L.p=none):L.bT=[]∧L.of=0∧L.tk=0:=by
 have fr:=h.dn hp
 refine ⟨by rw [h.p,fr.w,List.drop_nil],by rw [h.o,fr.o];rfl,by rw [h.t,fr.k];rfl⟩
section
variable {G:Gh} {s r Ax:Nat} {L:Lk} {a:Cl}
theorem En.meet {A:Wt} {es0:List Ev} {W:Pr→List (List Int)} (h:En G s L) {n:Int} (hn:L.k≤n) (ht:pb W A L.ev (wt G s L)):En G s (bC L n)∧pb W A (bC L n).ev (wt G s (bC L n))∧(bC L n).b=L.b∧(bC L n).k=n:=by
 have mb:=t8 L n
 by_cases e:L.k=n
 ·have em:bC L n=L:=by
   unfold bC
   obtain ⟨q,s,d,u,b,k,p,ev,bT,of,tk⟩:=L
   simp only at e
   subst e
   cases p with
   | none=>rfl
   | some x=>simp only;rw [if_neg (by omega)]
  rw [em];exact ⟨h,ht,rfl,e⟩
 ·have eU:L.k < n:=by omega
  have ur:Unr s L (pr s L.b n):=.inr ⟨oS _ _ _,by rw [t9];exact eU⟩
  have UJ:∀ P,Unr s { L with k:=n } P→oT G s P:=fun P hP=>h.un P (by
   rcases hP with z | ⟨z1,z2⟩
   ·exact .inl z
   ·exact .inr ⟨z1,by have z2:n < BP s P:=z2;omega⟩)
  have UK:∀ P,G.U s P→own s P≤L.b∧(own s P=L.b→BP s P≤n):=fun P hP=>⟨(h.um P hP).1,fun z=>by have:=(h.um P hP).2 z;omega⟩
  cases ep:L.p with
  | none =>
   obtain ⟨z1,z2,z3⟩:=h.zero ep
   have em:bC L n={ L with k:=n }:=by unfold bC;rw [ep]
   rw [em]
   exact ⟨fM h.sd (h.un _ ur) ep z1 z2 z3 UJ UK,ht,rfl,rfl⟩
  | some x =>
   have em:bC L n={ L with p:=none,bT:=[],of:=0,tk:=0,k:=n,ev:=L.ev ++ [.mk "anew" x []] }:=by unfold bC;rw [ep];simp only;rw [if_pos eU]
   rw [em]
   refine ⟨fM h.sd (h.un _ ur) rfl rfl rfl rfl UJ UK,?_,rfl,rfl⟩
   exact pb.anew (b:=wt G s L) ht ep
theorem En.Xm {A:Wt} {W:Pr→List (List Int)} (h:En G s L) (hm:∀ P,G.U s P→own s P < L.b→BP s P≤L.k) (ht:pb W A L.ev (wt G s L)):∃ G',En G' s (bH L)∧j6 s L.b G G'∧G'.O=G.O∧G'.K=G.K∧pb W A (bH L).ev (wt G' s (bH L))∧(bH L).b=L.b∧(bH L).k=L.k∧(bH L).p≠none:=by
 cases ep:L.p with
 | some x =>
  have ec:bH L=L:=by unfold bH;rw [ep]
  rw [ec]
  exact ⟨G,h,j6.refl,rfl,rfl,ht,rfl,rfl,by rw [ep];exact fun z=>by cases z⟩
 | none =>
  have epr:(if L.s=0 then (L.b,L.k) else (L.k,L.b))=pr s L.b L.k:=by
   unfold pr
   rw [h.sd]
   by_cases z:s=0
   ·rw [if_pos z,if_pos (by omega)]
   ·rw [if_neg z,if_neg (by omega)]
  have ec:bH L={ L with p:=some (pr s L.b L.k),ev:=L.ev ++ [.mk "up" (pr s L.b L.k) []] }:=by unfold bH;rw [ep];simp only;rw [epr]
  rw [ec]
  have fr:=h.dn ep
  have pk:∀ P,Unr s L P→P≠pr s L.b L.k:=fun P hP z=>by
   rw [z] at hP
   rcases hP with y | ⟨_,y⟩
   ·rw [oS] at y;omega
   ·rw [t9] at y;omega
  refine ⟨⟨G.W,G.O,G.K,fun i P=>(i=s∧P=pr s L.b L.k)∨G.U i P⟩,⟨h.sd,h.o,h.t,h.p,h.ow,(fun z=>by cases z),fun x hx=>?_,fun P hP=>?_,fun P hP=>hP.elim (fun y=>by rw [y.2,oS,t9];exact ⟨Int.le_refl _,fun _=>Int.le_refl _⟩) (h.um P)⟩,⟨rfl,fun _ _=>rfl,fun _ _=>rfl,fun i hi=>?_,fun _=>Nat.le_refl _,fun _=>Nat.le_refl _,fun P hP=>hP.elim (fun y=>.inr (by rw [y.2,oS])) .inl⟩,rfl,rfl,?_,rfl,rfl,(fun z=>by cases z)⟩
  ·cases hx;exact ⟨rfl,.inl ⟨rfl,rfl⟩⟩
  ·have f:=h.un P hP
   exact ⟨f.w,f.o,f.k,fun z=>z.elim (fun y=>pk P hP y.2) f.u⟩
  ·funext P
   show ((i=s∧P=pr s L.b L.k)∨G.U i P)=G.U i P
   rw [eq_iff_iff]
   exact ⟨fun z=>z.elim (fun y=>absurd y.1 hi) id,.inr⟩
  ·have:=pb.up (x:=pr s L.b L.k) (b:=wt G s L) ht ep fr.u (fun P hP=>UI (h.um P hP).1 (by
    have a1:=(h.um P hP).1
    by_cases z:own s P=L.b
    ·exact (h.um P hP).2 z
    ·exact hm P hP (by omega))) fr.k
   have e2:(wt ⟨G.W,G.O,G.K,fun i P=>(i=s∧P=pr s L.b L.k)∨G.U i P⟩ s { L with p:=some (pr s L.b L.k),ev:=L.ev ++ [.mk "up" (pr s L.b L.k) []] })=⟨some (pr s L.b L.k),(wt G s L).k,fun P=>P=pr s L.b L.k∨(wt G s L).u P⟩:=by
    unfold wt
    congr 1
    funext P
    show ((s=s∧P=pr s L.b L.k)∨G.U s P)=(P=pr s L.b L.k∨G.U s P)
    rw [eq_iff_iff]
    exact ⟨fun z=>z.elim (fun y=>.inl y.2) .inr,fun z=>z.elim (fun y=>.inl ⟨rfl,y⟩) .inr⟩
   rw [e2]
   exact this
theorem En.Xn {A:Wt} {W:Pr→List (List Int)} (hs:s < 2) (h:En G s L) (rel:Rel G) (hu:L.p≠none) (c:Int) (cc:Nat) (hc:c=(cc:Int) % 97) (h1:cc≤G.K (1 - s) (pr s L.b L.k)) (h2:G.K (1 - s) (pr s L.b L.k)≤cc+8) (ht:pb W A L.ev (wt G s L)) :
  ∃ G',En G' s (bF L c)∧Rel G'∧j6 s L.b G G'∧pb W A (bF L c).ev (wt G' s (bF L c))∧(bF L c).b=L.b∧(bF L c).k=L.k∧(bF L c).p=L.p:=by
 by_cases z:L.bT≠[]∧c=(L.of+1) % 97
 ·obtain ⟨z1,z2⟩:=z
  have eh:bF L c={ L with bT:=L.bT.tail,of:=(L.of+1) % 97 }:=if_pos ⟨z1,z2⟩
  rw [eh]
  obtain ⟨r1,r2,r3⟩:=rel s hs (pr s L.b L.k)
  have ho:=h.o
  have e1:cc=G.O s (pr s L.b L.k)+1:=by rw [hc,ho] at z2;omega
  have e2:G.K (1 - s) (pr s L.b L.k)=G.O s (pr s L.b L.k)+1:=by omega
  have eU:G.O s (pr s L.b L.k) < (G.W s (pr s L.b L.k)).length:=by omega
  have pk:∀ P,Unr s L P→P≠pr s L.b L.k:=fun P hP y=>by
   rw [y] at hP
   rcases hP with w | ⟨_,w⟩
   ·rw [oS] at w;omega
   ·rw [t9] at w;omega
  refine ⟨⟨G.W,cx G.O s (pr s L.b L.k) (G.O s (pr s L.b L.k)+1),G.K,G.U⟩,⟨h.sd,?_,h.t,?_,?_,fun y=>absurd y hu,h.up,fun P hP=>?_,h.um⟩,?_,⟨rfl,fun i hi=>?_,fun _ _=>rfl,fun _ _=>rfl,fun P=>?_,fun _=>Nat.le_refl _,fun _ h=>.inl h⟩,ht,rfl,rfl,rfl⟩
  ·show (L.of+1) % 97=((cx G.O s (pr s L.b L.k) (G.O s (pr s L.b L.k)+1) s (pr s L.b L.k):Nat):Int) % 97
   rw [bN,ho];omega
  ·show L.bT.tail=(G.W s (pr s L.b L.k)).drop (cx G.O s (pr s L.b L.k) (G.O s (pr s L.b L.k)+1) s (pr s L.b L.k))
   rw [bN,h.p,List.tail_drop]
  ·show cx G.O s (pr s L.b L.k) (G.O s (pr s L.b L.k)+1) s (pr s L.b L.k)≤_
   rw [bN];exact eU
  ·have f:=h.un P hP
   exact ⟨f.w,by show cx G.O s (pr s L.b L.k) _ s P=0;rw [b7 (fun y=>pk P hP y.2)];exact f.o,f.k,f.u⟩
  ·intro i hi P
   show cx G.O s (pr s L.b L.k) (G.O s (pr s L.b L.k)+1) i P≤G.K (1 - i) P∧G.K (1 - i) P≤cx G.O s (pr s L.b L.k) (G.O s (pr s L.b L.k)+1) i P+1∧G.K (1 - i) P≤(G.W i P).length
   by_cases y:i=s∧P=pr s L.b L.k
   ·rw [y.1,y.2,bN]
    exact ⟨by omega,by omega,r3⟩
   ·rw [b7 y];exact rel i hi P
  ·funext P
   exact b7 fun y=>hi y.1
  ·show G.O s P≤cx G.O s (pr s L.b L.k) (G.O s (pr s L.b L.k)+1) s P
   by_cases y:P=pr s L.b L.k
   ·rw [y,bN];omega
   ·rw [b7 (fun w=>y w.2)];exact Nat.le_refl _
 ·have eh:bF L c=L:=if_neg z
  rw [eh]
  exact ⟨G,h,rel,j6.refl,ht,rfl,rfl,rfl⟩
theorem En.take {A:Wt} (hs:s < 2) (h:En G s L) (rel:Rel G) (hu:L.p≠none) (n:Int) (xs:List Int) (nc:Nat) (hn:n=(nc:Int) % 97) (h1:nc≤G.O (1 - s) (pr s L.b L.k)) (h2:G.O (1 - s) (pr s L.b L.k)≤nc+8) (hx:xs=[]∨(G.W (1 - s) (pr s L.b L.k))[nc]?=some xs) (ht:pb (G.W (1 - s)) A L.ev (wt G s L)) :
  ∃ G',En G' s (bV L n xs)∧Rel G'∧j6 s L.b G G'∧pb (G.W (1 - s)) A (bV L n xs).ev (wt G' s (bV L n xs))∧(bV L n xs).b=L.b∧(bV L n xs).k=L.k∧(bV L n xs).p=L.p:=by
 by_cases z:xs≠[]∧n=L.tk
 ·obtain ⟨z1,z2⟩:=z
  have eh:bV L n xs={ L with ev:=L.ev ++ [.took xs],tk:=(L.tk+1) % 97 }:=if_pos ⟨z1,z2⟩
  rw [eh]
  have vq:1 - s < 2:=by omega
  have Cw:1 - (1 - s)=s:=by omega
  obtain ⟨r1,r2,r3⟩:=rel (1 - s) vq (pr s L.b L.k)
  rw [Cw] at r1 r2 r3
  have ho:=h.t
  have e1:nc=G.K s (pr s L.b L.k):=by rw [hn,ho] at z2;omega
  have hw:(G.W (1 - s) (pr s L.b L.k))[G.K s (pr s L.b L.k)]?=some xs:=by rw [← e1];exact hx.resolve_left z1
  have eU:G.K s (pr s L.b L.k) < (G.W (1 - s) (pr s L.b L.k)).length:=(List.getElem?_eq_some_iff.mp hw).1
  have pk:∀ P,Unr s L P→P≠pr s L.b L.k:=fun P hP y=>by
   rw [y] at hP
   rcases hP with w | ⟨_,w⟩
   ·rw [oS] at w;omega
   ·rw [t9] at w;omega
  obtain ⟨x,ex⟩:∃ x,L.p=some x:=by
   cases e:L.p with
   | none=>exact absurd e hu
   | some x=>exact ⟨x,rfl⟩
  have UL:=(h.up x ex).1
  refine ⟨⟨G.W,G.O,cx G.K s (pr s L.b L.k) (G.K s (pr s L.b L.k)+1),G.U⟩,⟨h.sd,h.o,?_,h.p,h.ow,fun y=>absurd y hu,h.up,fun P hP=>?_,h.um⟩,?_,⟨rfl,fun _ _=>rfl,fun i hi=>?_,fun _ _=>rfl,fun _=>Nat.le_refl _,fun P=>?_,fun _ h=>.inl h⟩,?_,rfl,rfl,rfl⟩
  ·show (L.tk+1) % 97=((cx G.K s (pr s L.b L.k) (G.K s (pr s L.b L.k)+1) s (pr s L.b L.k):Nat):Int) % 97
   rw [bN,ho];omega
  ·have f:=h.un P hP
   exact ⟨f.w,f.o,by show cx G.K s (pr s L.b L.k) _ s P=0;rw [b7 (fun y=>pk P hP y.2)];exact f.k,f.u⟩
  ·intro i hi P
   show G.O i P≤cx G.K s (pr s L.b L.k) (G.K s (pr s L.b L.k)+1) (1 - i) P∧cx G.K s (pr s L.b L.k) (G.K s (pr s L.b L.k)+1) (1 - i) P≤G.O i P+1∧cx G.K s (pr s L.b L.k) (G.K s (pr s L.b L.k)+1) (1 - i) P≤(G.W i P).length
   by_cases y:1 - i=s∧P=pr s L.b L.k
   ·have ei:i=1 - s:=by omega
    rw [y.1,y.2,bN,ei]
    exact ⟨by omega,by omega,by omega⟩
   ·rw [b7 y];exact rel i hi P
  ·funext P
   exact b7 fun y=>hi y.1
  ·show G.K s P≤cx G.K s (pr s L.b L.k) (G.K s (pr s L.b L.k)+1) s P
   by_cases y:P=pr s L.b L.k
   ·rw [y,bN];omega
   ·rw [b7 (fun w=>y w.2)];exact Nat.le_refl _
  ·have:=pb.took (x:=pr s L.b L.k) (b:=wt G s L) ht (by show L.p=_;rw [ex,UL]) hw
   have e2:wt ⟨G.W,G.O,cx G.K s (pr s L.b L.k) (G.K s (pr s L.b L.k)+1),G.U⟩ s { L with ev:=L.ev ++ [.took xs],tk:=(L.tk+1) % 97 }=⟨(wt G s L).p,fun P=>if P=pr s L.b L.k then (wt G s L).k (pr s L.b L.k)+1 else (wt G s L).k P,(wt G s L).u⟩:=by
    unfold wt
    congr 1
    funext P
    show cx G.K s (pr s L.b L.k) (G.K s (pr s L.b L.k)+1) s P=if P=pr s L.b L.k then G.K s (pr s L.b L.k)+1 else G.K s P
    by_cases y:P=pr s L.b L.k
    ·rw [y,bN,if_pos rfl]
    ·rw [b7 (fun w=>y w.2),if_neg y]
   rw [e2]
   exact this
 ·have eh:bV L n xs=L:=if_neg z
  rw [eh]
  exact ⟨G,h,rel,j6.refl,ht,rfl,rfl,rfl⟩
theorem En.read {A:Wt} (hs:s < 2) (h:En G s L) (rel:Rel G) (hc:eG G (1 - s) a 8) (Qi:a.k≤L.b) (ht:pb (G.W (1 - s)) A L.ev (wt G s L)) :
  ∃ G',En G' s (ar L a)∧Rel G'∧j6 s L.b G G'∧pb (G.W (1 - s)) A (ar L a).ev (wt G' s (ar L a))∧(ar L a).b=L.b:=by
 unfold ar
 by_cases z:a.b < L.k
 ·rw [if_pos z];exact ⟨G,h,rel,j6.refl,ht,rfl⟩
 ·rw [if_neg z]
  obtain ⟨m1,m2,m3,m4⟩:=h.meet (es0:=[]) (n:=a.b) (by omega) ht
  by_cases y:a.k=(bC L a.b).b
  ·rw [if_pos y]
   generalize bC L a.b=L1 at *
   have QU:=hc.m
   rw [show 1 - (1 - s)=s by omega] at QU
   obtain ⟨G2,c1,c2,c3,c4,c5,c6,c7,c8⟩:=m1.Xm (fun P hP ho=>by rw [m4];exact QU P hP (by rw [y];exact ho)) m2
   rw [m3] at c2
   have ePr:pr (1 - s) a.b a.k=pr s (bH L1).b (bH L1).k:=by rw [NQ hs,c6,c7,m4,y]
   have Xo:Rel G2:=fun i hi P=>by rw [c3,c4,c2.w];exact rel i hi P
   generalize bH L1=L2 at *
   obtain ⟨nc,cc,k1,k2,k3,k4,k5,k6,k7⟩:=(hc.grow c2 (show 1 - s≠s by omega) (by omega) Qi).ex
   rw [ePr] at k3 k4 k5 k6 k7
   obtain ⟨G3,d1,d2,d3,d4,d5,d6,d7⟩:=c1.Xn hs Xo c8 a.c cc k2 k4 k6 c5
   have UM:pr s (bF L2 a.c).b (bF L2 a.c).k=pr s L2.b L2.k:=by rw [d5,d6]
   have Z4:=k3;have Z5:=k5;have Z6:=k7
   rw [← d3.o (1 - s) (by omega),← UM] at Z4 Z5
   rw [← d3.w,← UM] at Z6
   have w3:G3.W (1 - s)=G.W (1 - s):=by rw [d3.w,c2.w]
   rw [← w3] at d4
   obtain ⟨G4,e1,e2,e3,e4,e5,_,_⟩:=d1.take hs d2 (by rw [d7];exact c8) a.n a.xs nc k1 Z4 Z5 Z6 d4
   have eb:(bF L2 a.c).b=L.b:=by rw [d5,c6,m3]
   rw [eb] at e3 e5
   rw [c6,m3] at d3
   exact ⟨G4,e1,e2,(c2.trans d3).trans e3,by rw [← w3];exact e4,e5⟩
  ·rw [if_neg y];exact ⟨G,m1,rel,j6.refl,m2,m3⟩
theorem En.Oo {A:Wt} (hs:s < 2):∀ (bs:List Cl) (G:Gh) (L:Lk),En G s L→Rel G→(∀ a ∈ bs,eG G (1 - s) a 8)→(∀ a ∈ bs,a.k≤L.b)→pb (G.W (1 - s)) A L.ev (wt G s L) →
  ∃ G',En G' s (aU L bs)∧Rel G'∧j6 s L.b G G'∧pb (G.W (1 - s)) A (aU L bs).ev (wt G' s (aU L bs))∧(aU L bs).b=L.b
 | [],G,L,h,rel,_,_,ht=>⟨G,h,rel,j6.refl,ht,rfl⟩
 | a :: r,G,L,h,rel,hc,Qi,ht=>by
  obtain ⟨G1,h1,r1,g1,t1,b1⟩:=h.read hs rel (hc a List.mem_cons_self) (Qi a List.mem_cons_self) ht
  have w1:G1.W (1 - s)=G.W (1 - s):=by rw [g1.w]
  rw [← w1] at t1
  obtain ⟨G2,h2,r2,g2,t2,b2⟩:=En.Oo hs r G1 (ar L a) h1 r1 (fun x hx=>(hc x (List.mem_cons_of_mem _ hx)).grow g1 (by omega) (by omega) (Qi x (List.mem_cons_of_mem _ hx))) (fun x hx=>by rw [b1];exact Qi x (List.mem_cons_of_mem _ hx)) t1
  rw [b1] at g2
  exact ⟨G2,h2,r2,g1.trans g2,by rw [← w1];exact t2,b2.trans b1⟩
theorem En.quiet {A:Wt} {W:Pr→List (List Int)} (h:En G s L) (hk:0≤L.k) (ht:pb W A L.ev (wt G s L)):En G s (bG L)∧pb W A (bG L).ev (wt G s (bG L)):=by
 unfold bG
 split
 ·have ur:Unr s L (pr s (L.b+1) 0):=.inl (by rw [oS];omega)
  have UJ:∀ P,(L.b+1 < own s P∨(own s P=L.b+1∧0 < BP s P))→oT G s P:=fun P hP=>h.un P (.inl (by rcases hP with z | ⟨z,_⟩ <;> omega))
  have UK:∀ P,G.U s P→own s P≤L.b+1∧(own s P=L.b+1→BP s P≤0):=fun P hP=>by have:=(h.um P hP).1;exact ⟨by omega,fun z=>by omega⟩
  cases ep:L.p with
  | none =>
   obtain ⟨z1,z2,z3⟩:=h.zero ep
   have em:gR L={ L with b:=L.b+1,k:=0 }:=by unfold gR;rw [ep]
   rw [em]
   exact ⟨fM h.sd (h.un _ ur) ep z1 z2 z3 UJ UK,ht⟩
  | some x =>
   have em:gR L={ L with p:=none,bT:=[],of:=0,tk:=0,b:=L.b+1,k:=0,ev:=L.ev ++ [.mk "silent" x [L.d - L.q+1,L.d]] }:=by unfold gR;rw [ep]
   rw [em]
   exact ⟨fM h.sd (h.un _ ur) rfl rfl rfl rfl UJ UK,pb.dr (b:=wt G s L) ht ep⟩
 ·exact ⟨h,ht⟩
theorem En.re {L':Lk} (h:En G s L) (h1:L'.s=L.s) (h2:L'.b=L.b) (h3:L'.k=L.k) (h4:L'.p=L.p) (h5:L'.bT=L.bT) (h6:L'.of=L.of) (h7:L'.tk=L.tk):En G s L':=by
 refine ⟨h1.trans h.sd,?_,?_,?_,?_,?_,?_,?_,by rw [h2,h3];exact h.um⟩
 ·rw [h6,h2,h3];exact h.o
 ·rw [h7,h2,h3];exact h.t
 ·rw [h5,h2,h3];exact h.p
 ·rw [h2,h3];exact h.ow
 ·rw [h2,h3,h4];exact h.dn
 ·rw [h2,h3,h4];exact h.up
 ·intro P hP
  refine h.un P ?_
  unfold Unr at hP ⊢
  rw [h2,h3] at hP
  exact hP
theorem En.tick {bs:List Cl} (hs:s < 2) (h:En G s L) (rel:Rel G) (hk:vD L) (xM:∀ a ∈ bs,yC a.b) (hc:∀ a ∈ bs,eG G (1 - s) a 8) (Qi:∀ a ∈ bs,a.k≤L.b) (IA:L.ev=[]) :
  ∃ G',En G' s { bW L bs with ev:=[] }∧Rel G'∧j6 s L.b G G'∧pb (G.W (1 - s)) (wt G s L) (bW L bs).ev (wt G' s (bW L bs))∧(aU L bs).b=L.b∧∀ P,G'.U s P→G.U s P∨BP s P≤(aU L bs).k:=by
 obtain ⟨G1,h1,r1,g1,t1,b1⟩:=En.Oo (A:=wt G s L) hs bs G L h rel hc Qi (by rw [IA];exact .nil _)
 have k1:=(sO bs L hk xM).k.1
 have h2:En G1 s (fU (aU L bs) bs):=h1.re rfl rfl rfl rfl rfl rfl rfl
 obtain ⟨h3,t3⟩:=h2.quiet (W:=G.W (1 - s)) (A:=wt G s L) k1 t1
 exact ⟨G1,h3.re rfl rfl rfl rfl rfl rfl rfl,r1,g1,t3,b1,fun P hP=>(g1.un P hP).elim .inl fun z=>.inr ((h1.um P hP).2 (by rw [b1];exact z))⟩
end
abbrev Ts:=List (Int × Int)
structure jW (ts:Ts):Prop where
 len:ts.length≤4
 at_:∀ q ∈ ts,(0≤q.1∧q.1 < 24)∧1≤q.2∧q.2≤96
 nd:(ts.map fun q=>q.1.toNat).Nodup
def oU (K:PySem.W.Frag) (H:Hp) (a:Addr) (ts:Ts):Prop:=∃ iN:Nat→Addr,cD K H a (bD ts.length iN)∧∀ y q,ts[y]?=some q→cD K H (iN y) [.int q.1,.int q.2]
theorem oU.same {K:PySem.W.Frag} {H H':Hp} {a:Addr} {ts:Ts} (h:oU K H a ts) (s:aK H H'):oU K H' a ts:=by
 obtain ⟨iN,h1,h2⟩:=h
 exact ⟨iN,s.tup h1,fun y q e=>s.tup (h2 y q e)⟩
def EZ (f:Nat→Int) (i:Nat) (v:Int):Nat→Int:=fun j=>if j=i then v else f j
def dy (f:Nat→Int) (ts:Ts):Nat→Int:=ts.foldl (fun f q=>EZ f q.1.toNat ((f q.1.toNat+q.2) % 97)) f
theorem IM (f:Nat→Int) (ts:Ts) (q:Int × Int):dy f (ts ++ [q])=EZ (dy f ts) q.1.toNat ((dy f ts q.1.toNat+q.2) % 97):=by unfold dy;rw [List.foldl_append];rfl
theorem xN:∀ (ts:Ts) (f:Nat→Int) (i:Nat),i ∉ (ts.map fun q=>q.1.toNat)→dy f ts i=f i
 | [],_,_,_=>rfl
 | q :: r,f,i,h=>by
  rw [List.map_cons,List.mem_cons,not_or] at h
  show dy (EZ f q.1.toNat _) r i=f i
  rw [xN r _ i h.2]
  exact if_neg h.1
theorem Gf:∀ (ts:Ts) (f:Nat→Int),(ts.map fun q=>q.1.toNat).Nodup→∀ q ∈ ts,dy f ts q.1.toNat=(f q.1.toNat+q.2) % 97
 | p :: r,f,nd,q,hq=>by
  rw [List.map_cons,List.nodup_cons] at nd
  show dy (EZ f p.1.toNat _) r q.1.toNat=_
  rcases List.mem_cons.mp hq with rfl | hq
  ·rw [xN r _ _ nd.1]
   exact if_pos rfl
  ·rw [Gf r _ nd.2 q hq]
   have ne:q.1.toNat≠p.1.toNat:=fun z=>nd.1 (by rw [← z];exact List.mem_map.mpr ⟨q,hq,rfl⟩)
   unfold EZ
   rw [if_neg ne]
theorem IP {f:Nat→Int} {ts:Ts} (h:IsCell 24 f):IsCell 24 (dy f ts):=by
 suffices ∀ (ts:Ts) (f:Nat→Int),(∀ i,i < 24→0≤f i∧f i < 97)→∀ i,i < 24→0≤dy f ts i∧dy f ts i < 97 from ⟨this ts f h.b⟩
 intro ts
 induction ts with
 | nil=>intro f h;exact h
 | cons q r ih =>
  intro f h
  refine ih _ fun i hi=>?_
  show 0≤(if i=q.1.toNat then (f q.1.toNat+q.2) % 97 else f i)∧(if i=q.1.toNat then (f q.1.toNat+q.2) % 97 else f i) < 97
  split
  ·exact ⟨Int.emod_nonneg _ (by decide),Int.emod_lt_of_pos _ (by decide)⟩
  ·exact h i hi
theorem NR {f:Nat→Int} {ts:Ts} (g:jW ts) (h:IsCell 24 f) {q:Int × Int} (hq:q ∈ ts):q.1.toNat < 24∧dy f ts q.1.toNat≠f q.1.toNat:=by
 obtain ⟨⟨a0,a1⟩,b0,b1⟩:=g.at_ q hq
 have hi:q.1.toNat < 24:=by omega
 have hb:=h.b _ hi
 refine ⟨hi,?_⟩
 rw [Gf ts f g.nd q hq]
 generalize f q.1.toNat=v at *
 intro z
 have:(v+q.2) % 97=v:=z
 omega
theorem Cy {f:Nat→Int} {ts:Ts} (g:jW ts) (h:IsCell 24 f):(My.el 24 (dy f ts) f).length=ts.length:=by
 have e:ts.length=(ts.map fun q=>q.1.toNat).length:=by rw [List.length_map]
 apply Nat.le_antisymm
 ·rw [e]
  refine My.gc _ _ (My.gZ _ _ _) fun i hi=>?_
  obtain ⟨h1,h2⟩:=My.cC.mp hi
  exact Classical.byContradiction fun z=>h2 (xN ts f i z)
 ·rw [e]
  refine My.gc _ _ g.nd fun i hi=>?_
  obtain ⟨q,hq,rfl⟩:=List.mem_map.mp hi
  obtain ⟨h1,h2⟩:=NR g h hq
  exact My.cC.mpr ⟨h1,h2⟩
theorem IQ {f g h:Nat→Int}:(My.el 24 f h).length≤(My.el 24 g f).length+(My.el 24 g h).length:=by
 have:=My.gc (My.el 24 f h) (My.el 24 g f ++ My.el 24 g h) (My.gZ _ _ _) fun i hi=>by
  obtain ⟨h1,h2⟩:=My.cC.mp hi
  by_cases e:g i=f i
  ·exact List.mem_append_right _ (My.cC.mpr ⟨h1,fun z=>h2 (by rw [← e,z])⟩)
  ·exact List.mem_append_left _ (My.cC.mpr ⟨h1,e⟩)
 rwa [List.length_append] at this
theorem IS {f:Nat→Int} {ts:Ts} (g:jW ts) (h:IsCell 24 f) (hs:My.bu f) (h2:ts.length < 3):My.qV (dy f ts) f:=⟨h.b,hs,by rw [Cy g h];omega⟩
theorem IT {f:Nat→Int} {ts:Ts} (g:jW ts) (h:IsCell 24 f) (hs:My.bu f) (h2:¬ ts.length < 3):∀ k,¬ My.qV (dy f ts) k:=by
 intro k m
 have d1:=Cy g h
 have d2:=IQ (f:=f) (g:=dy f ts) (h:=k)
 have d3:=m.zY
 have d4:=g.len
 have e:∀ i,i < 24→f i=k i:=My.Oc h.b m.b hs m.sealed (by omega)
 have d5:(My.el 24 (dy f ts) f).length≤(My.el 24 (dy f ts) k).length:=by
  refine My.gc _ _ (My.gZ _ _ _) fun i hi=>?_
  obtain ⟨h1,h2⟩:=My.cC.mp hi
  exact My.cC.mpr ⟨h1,by rw [← e i h1];exact h2⟩
 omega
def nS:Sp:=fun vs H Q _=>∃ n:Int,vs=[.int n]∧0≤n∧∀ (a:Addr) (x y:Int),Tt x y→H a=none→Q (.ref a) (upd H a (.tup [.int x,.int y]))
theorem vQ:aV ["number"] ["number"] (aI fj):=⟨rfl,rfl,rfl,by decide +kernel,rfl,by decide +kernel,by decide +kernel⟩
theorem vR (F:aT K mg "_law_measure" fj):Def P w K mg base 1 "_law_measure" ["number"] nS:=by
 refine F.def vQ (fun _ _ _ _ _ _ us hl=>match us,hl with | [_],_=>rfl) (fun vs H Q E h=>?_) (fun f bw A outer s H vs Q E hr h=>?_)
 ·obtain ⟨n,rfl,_⟩:=h
  rfl
 ·obtain ⟨n,rfl,n0,q⟩:=h
  refine ⟨_,aE (bO (aZ gQ (aM ay (pv 0) aG) aG (af _))
    (aJ (ai (bK (aC (aM az aG (aM ay (aM cF (pv 0) aG) aG)) (aC (aM ay (aM cF (pv 0) aG) aG) aF)))))
    (aq))
   (aJ (ai (bK (aC (aM az aG (aM ay (aM cF (pv 0) aG) aG)) (aC (aM ay (aM cF (pv 0) aG) aG) aF))))),?_⟩
  have d8:0≤n / 8:=Int.ediv_nonneg n0 (by decide)
  have d48:0≤n / 48:=Int.ediv_nonneg n0 (by decide)
  have d24:0≤n / 24:=Int.ediv_nonneg n0 (by decide)
  refine ⟨_,rfl,_,_,rfl,rfl,(by show (0:Int) < 8;decide),rfl,_,rfl,?_⟩
  by_cases h7:n % 8=7
  ·refine dX (by show V.int (n % 8)=V.int 7;rw [h7]) ?_
   refine ⟨_,rfl,_,_,rfl,rfl,⟨by decide,by decide⟩,_,_,rfl,rfl,(by show (0:Int) < 6;decide),_,_,rfl,rfl,_,rfl,_,_,rfl,rfl,⟨by decide,by decide⟩,_,_,rfl,rfl,(by show (0:Int) < 5;decide),zz2,fun a ha=>?_⟩
   exact q a _ _ ⟨by omega,by omega⟩ ha
  ·refine dE (fun z=>h7 (V.int.inj z)) ?_
   refine ⟨_,rfl,_,_,rfl,rfl,⟨by decide,by decide⟩,_,_,rfl,rfl,(by show (0:Int) < 3;decide),_,_,rfl,rfl,_,rfl,_,_,rfl,rfl,⟨by decide,by decide⟩,_,_,rfl,rfl,(by show (0:Int) < 3;decide),zz2,fun a ha=>?_⟩
   exact q a _ _ ⟨by omega,by omega⟩ ha
def eH (n:Int) (m:Nat):Ts:=(List.range m).map fun (k:Nat)=>(n / 7 % 21+(k:Int),1+(n / 11+31 * (k:Int)) % 96)
theorem jX {n:Int} {m:Nat} (n0:0≤n) (hm:m≤4):jW (eH n m):=by
 have d7:0≤n / 7:=Int.ediv_nonneg n0 (by decide)
 refine ⟨by unfold eH;rw [List.length_map,List.length_range];exact hm,fun q hq=>?_,?_⟩
 ·obtain ⟨k,hk,rfl⟩:=List.mem_map.mp hq
  rw [List.mem_range] at hk
  refine ⟨⟨?_,?_⟩,?_,?_⟩
  ·show 0≤n / 7 % 21+(k:Int);omega
  ·show n / 7 % 21+(k:Int) < 24;omega
  ·show 1≤1+(n / 11+31 * (k:Int)) % 96;omega
  ·show 1+(n / 11+31 * (k:Int)) % 96≤96;omega
 ·unfold eH
  rw [List.map_map]
  refine List.Pairwise.map _ (fun a b HV z=>HV ?_) List.nodup_range
  have z:(n / 7 % 21+(a:Int)).toNat=(n / 7 % 21+(b:Int)).toNat:=z
  omega
theorem Ee (n:Int) (m:Nat):eH n (m+1)=eH n m ++ [(n / 7 % 21+(m:Int),1+(n / 11+31 * (m:Int)) % 96)]:=by unfold eH;rw [List.range_succ,List.map_append];rfl
theorem jG (n:Int) (m:Nat):(eH n m).length=m:=by unfold eH;rw [List.length_map,List.length_range]
def ka (K:PySem.W.Frag):Sp:=fun vs H Q _=>∃ (n:Int) (m:Nat),vs=[.int n,.int (m:Int)]∧0≤n∧m≤4∧∀ (a:Addr) (H':Hp),aK H H'→oU K H' a (eH n m)→Q (.ref a) H'
theorem yX:aV ["number","many"] ["number","many"] (aI fk):=⟨rfl,rfl,rfl,by decide +kernel,rfl,by decide +kernel,by decide +kernel⟩
theorem yY (F:aT K mg "_law_turns" fk) (T:Txt K mg t):Def P w K mg base 1 "_law_turns" ["number","many"] (ka K):=by
 refine F.def yX (fun _ _ _ _ _ _ us hl=>match us,hl with | [_,_],_=>rfl) (fun vs H Q E h=>?_) (fun f bw A outer s H vs Q E hr h=>?_)
 ·obtain ⟨n,m,rfl,_⟩:=h
  rfl
 ·obtain ⟨n,m,rfl,n0,hm,q⟩:=h
  refine ⟨_,aJ (ai (df (B8 K) (by rfl) T.Mn boot_tuple (aC (iJ rfl (Nc:=["k","number"]) (ix:=[none,some 0]) (cG (aI fk) ["number","many"] rfl rfl (by decide +kernel)) (bo (by rfl) T.cI (aC (pv 1) aF)) (fun C fp s H=>⟨(aw (i:=0) (show (["k","number"]:List Str).Nodup by decide +kernel) rfl (Or.inl rfl)),b6,(bK (aC (aM az (aM ay (aM cF (pv 1) aG) aG) (pv 0)) (aC (aM az aG (aM ay (aM az (aM cF (pv 1) aG) (aM cE aG (pv 0))) aG)) aF)))⟩)) aF))),?_⟩
  have pf:(2000:Nat)≤sizeLine:=by decide
  refine ⟨_,rfl,(m:Int),rfl,by omega,by omega,fun D hD=>?_⟩
  rw [Int.toNat_natCast]
  refine jM (lo:=0) (n:=m) (fun i σ H'=>(∃ v,σ=[v,some (.int n)])∧aK H H'∧∃ iN:Nat→Addr,H' D=some (.lst (bD i iN))∧∀ y q,(eH n i)[y]?=some q→H' (iN y)=some (.tup [.int q.1,.int q.2]))
   ⟨⟨none,rfl⟩,(aK.refl H).new hD,fun _=>0,aD,fun y q hq=>by cases hq⟩ ?_ ?_
  ·rintro i σ H' N hN hi ⟨⟨v,rfl⟩,s1,iN,e1,e2⟩
   rw [show (0:Int)+(i:Nat)=(i:Int) by omega]
   refine ck ?_
   refine ⟨_,rfl,_,_,rfl,rfl,⟨by decide,by decide⟩,_,_,rfl,rfl,(by show (0:Int) < 21;decide),_,rfl,_,_,rfl,rfl,_,rfl,_,_,rfl,rfl,⟨by decide,by decide⟩,_,rfl,_,_,rfl,rfl,.inl ⟨by decide,by decide⟩,_,_,rfl,rfl,_,_,rfl,rfl,(by show (0:Int) < 96;decide),_,_,rfl,rfl,zz2,fun p hp=>?_⟩
   have UN:D≠p:=aP e1 hp
   refine ⟨_,by rw [aH UN];exact e1,by rw [aN];omega,hN _ _ ⟨⟨_,rfl⟩,(s1.new hp).put hD,fun y=>if y=i then p else iN y,by rw [aD,bq],fun y q hq=>?_⟩⟩
   rw [Ee] at hq
   by_cases z:y=i
   ·rw [z,List.getElem?_append_right (by rw [jG];exact Nat.le_refl _),jG,Nat.sub_self] at hq
    cases hq
    simp only [z,if_true]
    rw [aH (Ne.symm UN)]
    exact aD
   ·have hy:y < (eH n i ++ [(n / 7 % 21+(i:Int),1+(n / 11+31 * (i:Int)) % 96)]).length:=(List.getElem?_eq_some_iff.mp hq).1
    rw [List.length_append,jG] at hy
    have QY:y < i:=by simp at hy;omega
    rw [List.getElem?_append_left (by rw [jG];exact QY)] at hq
    have:=e2 y q hq
    simp only [z,if_false]
    rw [aH (fun w=>by rw [w,e1] at this;cases this),aH (aP this hp)]
    exact this
  ·rintro σ H' ⟨⟨v,rfl⟩,s1,iN,e1,e2⟩
   refine ⟨D,_,rfl,.inl ⟨ae.of e1,fun a ha=>?_⟩⟩
   have s2:=s1.new (o:=.tup (bD m iN)) ha
   refine q a _ s2 ⟨iN,cD.of (by rw [jG];exact aD),fun y q hq=>cD.of ?_⟩
   have:=e2 y q hq
   rw [aH (aP this ha)]
   exact this
abbrev Ft:=List (Int × Ts)
structure gS (late:Int) (fs:Ft):Prop where
 len:fs.length≤3
 at_:∀ d ∈ fs,1≤d.1∧d.1≤late∧jW d.2
def jY (K:PySem.W.Frag) (H:Hp) (a:Addr) (fs:Ft):Prop:=∃ Kn iN:Nat→Addr,cD K H a (bD fs.length Kn)∧∀ y d,fs[y]?=some d→cD K H (Kn y) [.int d.1,.ref (iN y)]∧oU K H (iN y) d.2
theorem jY.same {K:PySem.W.Frag} {H H':Hp} {a:Addr} {fs:Ft} (h:jY K H a fs) (s:aK H H'):jY K H' a fs:=by
 obtain ⟨Kn,iN,h1,h2⟩:=h
 exact ⟨Kn,iN,s.tup h1,fun y d e=>⟨s.tup (h2 y d e).1,(h2 y d e).2.same s⟩⟩
theorem Qj {K:PySem.W.Frag} {H:Hp} {a:Addr} (h:cD K H a []):oU K H a []:=⟨fun _=>0,h,fun y q e=>by cases e⟩
theorem gn:jW []:=⟨by decide,(fun q hq=>by cases hq),List.nodup_nil⟩
theorem Ko {K:PySem.W.Frag} {H:Hp} {a:Addr} (h:cD K H a []):jY K H a []:=⟨fun _=>0,fun _=>0,h,fun y q e=>by cases e⟩
theorem uA {K:PySem.W.Frag} {H:Hp} {a b c:Addr} {d:Int} {ts:Ts} (h:cD K H a [.ref b]) (hb:cD K H b [.int d,.ref c]) (hc:oU K H c ts):jY K H a [(d,ts)] :=
 ⟨fun _=>b,fun _=>c,h,fun y e he=>by
  cases y with
  | zero=>cases he;exact ⟨hb,hc⟩
  | succ y=>cases he⟩
theorem Qk {K:PySem.W.Frag} {H:Hp} {a b c b' c':Addr} {d d':Int} {ts Cz:Ts} (h:cD K H a [.ref b,.ref b']) (hb:cD K H b [.int d,.ref c]) (hc:oU K H c ts) (Sy:cD K H b' [.int d',.ref c']) (RO:oU K H c' Cz):jY K H a [(d,ts),(d',Cz)] :=
 ⟨fun y=>if y=0 then b else b',fun y=>if y=0 then c else c',h,fun y e he=>by
  match y,he with
  | 0,he=>cases he;exact ⟨hb,hc⟩
  | 1,he=>cases he;exact ⟨Sy,RO⟩
  | y+2,he=>cases he⟩
theorem Kp {K:PySem.W.Frag} {H:Hp} {a b c b' c' Xp Xq:Addr} {d d' Z7:Int} {ts Cz UO:Ts} (h:cD K H a [.ref b,.ref b',.ref Xp]) (hb:cD K H b [.int d,.ref c]) (hc:oU K H c ts) (Sy:cD K H b' [.int d',.ref c']) (RO:oU K H c' Cz) (Xr:cD K H Xp [.int Z7,.ref Xq]) (Xs:oU K H Xq UO):jY K H a [(d,ts),(d',Cz),(Z7,UO)] :=
 ⟨fun y=>if y=0 then b else if y=1 then b' else Xp,fun y=>if y=0 then c else if y=1 then c' else Xq,h,fun y e he=>by
  match y,he with
  | 0,he=>cases he;exact ⟨hb,hc⟩
  | 1,he=>cases he;exact ⟨Sy,RO⟩
  | 2,he=>cases he;exact ⟨Xr,Xs⟩
  | y+3,he=>cases he⟩
theorem lY {K:PySem.W.Frag} {H:Hp} {b c:Addr} {d:Int} (hc:H c=none) (hb:(upd H c (.tup [])) b=none):aK H (upd (upd H c (.tup [])) b (.tup [.int d,.ref c]))∧cD K (upd (upd H c (.tup [])) b (.tup [.int d,.ref c])) b [.int d,.ref c]∧oU K (upd (upd H c (.tup [])) b (.tup [.int d,.ref c])) c []:=by
 have s1:aK H (upd H c (.tup [])):=(aK.refl _).new hc
 have s2:aK (upd H c (.tup [])) (upd (upd H c (.tup [])) b (.tup [.int d,.ref c])):=(aK.refl _).new hb
 exact ⟨s1.trans s2,cD.of aD,Qj (cD.of (s2 _ _ aD))⟩
theorem sP {K:PySem.W.Frag} {H:Hp} {b c:Addr} {d:Int} {ts:Ts} (hc:oU K H c ts) (hb:H b=none):aK H (upd H b (.tup [.int d,.ref c]))∧cD K (upd H b (.tup [.int d,.ref c])) b [.int d,.ref c]∧oU K (upd H b (.tup [.int d,.ref c])) c ts:=by
 have s1:aK H (upd H b (.tup [.int d,.ref c])):=(aK.refl _).new hb
 exact ⟨s1,cD.of aD,hc.same s1⟩
def mX (K:PySem.W.Frag):Sp:=fun vs H Q _=>∃ n late:Int,vs=[.int n,.int late]∧0≤n∧1≤late∧late≤6∧∀ (a:Addr) (H':Hp) (fs:Ft),aK H H'→jY K H' a fs→gS late fs→Q (.ref a) H'
theorem i8:aV ["number","late","delay","other","kind"] ["number","late"] (aI kL):=⟨rfl,rfl,rfl,by decide +kernel,rfl,by decide +kernel,by decide +kernel⟩
theorem Ay (F:aT K mg "_law_fate" kL) (T:Txt K mg t) (cJ:Def P w K mg base 1 "_law_turns" ["number","many"] (ka K)):Def P w K mg base 2 "_law_fate" ["number","late"] (mX K):=by
 refine F.def i8 (fun _ _ _ _ _ _ us hl=>match us,hl with | [_,_],_=>rfl) (fun vs H Q E h=>?_) (fun f bw A outer s H vs Q E hr h=>?_)
 ·obtain ⟨n,late,rfl,_⟩:=h
  rfl
 ·obtain ⟨n,late,rfl,n0,l0,l1,q⟩:=h
  refine ⟨_,aE (aX (i:=2) i8.nd rfl (Or.inl rfl) (aM az aG (aM ay (aM cF (pv 0) aG) (pv 1))))
   (aE (aX (i:=3) i8.nd rfl (Or.inl rfl) (aM az aG (aM ay (aM cF (pv 0) aG) (pv 1))))
   (aE (aX (i:=4) i8.nd rfl (Or.inl rfl) (aM ay (pv 0) aG))
   (aE (bO (aZ jJ (pv 4) aG (af _))
    (aJ (ai (bK (aC (bK (aC aG (aC (bK aF) aF))) aF))))
    (aq))
   (aE (bO (aZ jJ (pv 4) aG (af _))
    (aJ (ai (bK aF)))
    (aq))
   (aE (bO (aZ jJ (pv 4) aG (af _))
    (aJ (ai (bK (aC (bK (aC (pv 2) (aC (bK aF) aF))) aF))))
    (aq))
   (aE (bO (aZ jJ (pv 4) aG (af _))
    (aJ (ai (bK (aC (bK (aC (pv 2) (aC (bK aF) aF))) (aC (bK (aC (pv 3) (aC (bK aF) aF))) aF)))))
    (aq))
   (aE (bO (aZ gQ (pv 4) aG (af _))
    (aJ (ai (bK (aC (bK (aC (pv 2) (aC (aY (cJ.mono (by decide)) hr ao (aC (pv 0) (aC aG aF))) aF))) (aC (bK (aC (pv 3) (aC (bK aF) aF))) (aC (bK (aC (pv 2) (aC (bK aF) aF))) aF))))))
    (aq))
   (aE (bO (aZ jJ (pv 4) aG (af _))
    (aJ (ai (bK (aC (bK (aC (pv 2) (aC (aY (cJ.mono (by decide)) hr ao (aC (pv 0) (aC (aM az aG (aM ay (aM cF (pv 0) aG) aG)) aF))) aF))) aF))))
    (aq))
   (aJ (ai (bK (aC (bK (aC (pv 2) (aC (aY (cJ.mono (by decide)) hr ao (aC (pv 0) (aC (aM az aG (aM ay (aM cF (pv 0) aG) aG)) aF))) aF))) aF)))))))))))),?_⟩
  have d16:0≤n / 16:=Int.ediv_nonneg n0 (by decide)
  have lp:0 < late:=by omega
  refine ⟨_,rfl,_,_,rfl,rfl,⟨by decide,by decide⟩,_,rfl,_,_,rfl,rfl,lp,_,_,rfl,rfl,?_⟩
  refine ⟨_,rfl,_,_,rfl,rfl,⟨by decide,by decide⟩,_,rfl,_,_,rfl,rfl,lp,_,_,rfl,rfl,?_⟩
  have b1:1≤(1+n / 16 % late)∧(1+n / 16 % late)≤late:=by
   have:=Int.emod_nonneg (n / 16) (show late≠0 by omega)
   have:=Int.emod_lt_of_pos (n / 16) lp
   omega
  have b2:1≤(1+n / 100 % late)∧(1+n / 100 % late)≤late:=by
   have:=Int.emod_nonneg (n / 100) (show late≠0 by omega)
   have:=Int.emod_lt_of_pos (n / 100) lp
   omega
  refine ⟨_,rfl,_,_,rfl,rfl,(by show (0:Int) < 16;decide),?_⟩
  have one:∀ {d:Int} {ts:Ts},(1≤d∧d≤late)→jW ts→gS late [(d,ts)]:=fun {d ts} hd g=>⟨by show 1≤3;decide,fun x hx=>by rw [List.mem_singleton.mp hx];exact ⟨hd.1,hd.2,g⟩⟩
  have m16:0≤n % 16∧n % 16 < 16:=⟨Int.emod_nonneg _ (by decide),Int.emod_lt_of_pos _ (by decide)⟩
  refine ⟨_,rfl,_,_,rfl,rfl,_,rfl,?_⟩
  by_cases w1:(n % 16) < 5
  ·refine dX w1 ?_
   refine ⟨zz0,fun c hc=>⟨zz2,fun b hb=>⟨zz1,fun a ha=>?_⟩⟩⟩
   obtain ⟨s1,g1,g2⟩:=lY (K:=K) (d:=1) hc hb
   have s2:=(aK.refl _).new (o:=.tup [.ref b]) ha
   exact q a _ [(1,[])] (s1.trans s2) (uA (cD.of aD) (s2.tup g1) (g2.same s2)) (one ⟨by decide,l0⟩ gn)
  refine dE w1 ?_
  refine ⟨_,rfl,_,_,rfl,rfl,_,rfl,?_⟩
  by_cases w2:(n % 16) < 8
  ·refine dX w2 ?_
   refine ⟨zz0,fun a ha=>?_⟩
   exact q a _ [] ((aK.refl _).new ha) (Ko (cD.of aD)) ⟨by decide,fun d hd=>by cases hd⟩
  refine dE w2 ?_
  refine ⟨_,rfl,_,_,rfl,rfl,_,rfl,?_⟩
  by_cases w3:(n % 16) < 10
  ·refine dX w3 ?_
   refine ⟨_,rfl,zz0,fun c hc=>⟨zz2,fun b hb=>⟨zz1,fun a ha=>?_⟩⟩⟩
   obtain ⟨s1,g1,g2⟩:=lY (K:=K) (d:=(1+n / 16 % late)) hc hb
   have s2:=(aK.refl _).new (o:=.tup [.ref b]) ha
   exact q a _ [((1+n / 16 % late),[])] (s1.trans s2) (uA (cD.of aD) (s2.tup g1) (g2.same s2)) (one b1 gn)
  refine dE w3 ?_
  refine ⟨_,rfl,_,_,rfl,rfl,_,rfl,?_⟩
  by_cases w4:(n % 16) < 12
  ·refine dX w4 ?_
   refine ⟨_,rfl,zz0,fun c hc=>⟨zz2,fun b hb=>?_⟩⟩
   obtain ⟨s1,g1,g2⟩:=lY (K:=K) (d:=(1+n / 16 % late)) hc hb
   refine ⟨_,rfl,zz0,fun c2 RW=>⟨zz2,fun Xt Fx=>?_⟩⟩
   obtain ⟨s2,k1,k2⟩:=lY (K:=K) (d:=(1+n / 100 % late)) RW Fx
   refine ⟨zz2,fun a ha=>?_⟩
   have s3:=(aK.refl _).new (o:=.tup [.ref b,.ref Xt]) ha
   have Xu:=s2.trans s3
   refine q a _ [((1+n / 16 % late),[]),((1+n / 100 % late),[])] (s1.trans Xu) (Qk (cD.of aD) (Xu.tup g1) (g2.same Xu) (s3.tup k1) (k2.same s3)) ⟨by show 2≤3;decide,fun d hd=>?_⟩
   rcases List.mem_cons.mp hd with rfl | hd
   ·exact ⟨b1.1,b1.2,gn⟩
   ·rw [List.mem_singleton.mp hd];exact ⟨b2.1,b2.2,gn⟩
  refine dE w4 ?_
  refine ⟨_,rfl,rfl,_,rfl,?_⟩
  by_cases w5:(n % 16)=12
  ·refine dX (by show V.int (n % 16)=V.int 12;rw [w5]) ?_
   refine ⟨_,rfl,_,rfl,n,3,rfl,n0,by decide,fun c H0 s0 hc=>⟨zz2,fun b hb=>?_⟩⟩
   obtain ⟨s1,g1,g2⟩:=sP (d:=(1+n / 16 % late)) hc hb
   refine ⟨_,rfl,zz0,fun c2 RW=>⟨zz2,fun Xt Fx=>?_⟩⟩
   obtain ⟨s2,k1,k2⟩:=lY (K:=K) (d:=(1+n / 100 % late)) RW Fx
   refine ⟨_,rfl,zz0,fun c3 hc3=>⟨zz2,fun b3 Xh=>?_⟩⟩
   obtain ⟨s3,j1,j2⟩:=lY (K:=K) (d:=(1+n / 16 % late)) hc3 Xh
   refine ⟨zz3,fun a ha=>?_⟩
   have s4:=(aK.refl _).new (o:=.tup [.ref b,.ref Xt,.ref b3]) ha
   have Xv:=s3.trans s4
   have Xw:=s2.trans Xv
   refine q a _ [((1+n / 16 % late),eH n 3),((1+n / 100 % late),[]),((1+n / 16 % late),[])] ((s0.trans s1).trans Xw) (Kp (cD.of aD) (Xw.tup g1) (g2.same Xw) (Xv.tup k1) (k2.same Xv) (s4.tup j1) (j2.same s4)) ⟨by show 3≤3;decide,fun d hd=>?_⟩
   rcases List.mem_cons.mp hd with rfl | hd
   ·exact ⟨b1.1,b1.2,jX n0 (by decide)⟩
   ·rcases List.mem_cons.mp hd with rfl | hd
    ·exact ⟨b2.1,b2.2,gn⟩
    ·rw [List.mem_singleton.mp hd];exact ⟨b1.1,b1.2,gn⟩
  refine dE (fun z=>w5 (V.int.inj z)) ?_
  have h2:0≤n / 16 % 2∧n / 16 % 2 < 2:=⟨Int.emod_nonneg _ (by decide),Int.emod_lt_of_pos _ (by decide)⟩
  refine ⟨_,rfl,_,_,rfl,rfl,_,rfl,?_⟩
  by_cases w6:(n % 16) < 15
  ·refine dX w6 ?_
   refine ⟨_,rfl,_,rfl,_,rfl,_,_,rfl,rfl,⟨by decide,by decide⟩,_,_,rfl,rfl,(by show (0:Int) < 2;decide),_,_,rfl,rfl,n,(1+n / 16 % 2).toNat,?_,n0,by omega,fun c H0 s0 hc=>⟨zz2,fun b hb=>⟨zz1,fun a ha=>?_⟩⟩⟩
   ·show [V.int n,V.int (1+n / 16 % 2)]=_
    rw [Int.toNat_of_nonneg (by omega)]
   obtain ⟨s1,g1,g2⟩:=sP (d:=(1+n / 16 % late)) hc hb
   have s2:=(aK.refl _).new (o:=.tup [.ref b]) ha
   exact q a _ [((1+n / 16 % late),eH n (1+n / 16 % 2).toNat)] ((s0.trans s1).trans s2) (uA (cD.of aD) (s2.tup g1) (g2.same s2)) (one b1 (jX n0 (by omega)))
  ·refine dE w6 ?_
   refine ⟨_,rfl,_,rfl,_,rfl,_,_,rfl,rfl,⟨by decide,by decide⟩,_,_,rfl,rfl,(by show (0:Int) < 2;decide),_,_,rfl,rfl,n,(3+n / 16 % 2).toNat,?_,n0,by omega,fun c H0 s0 hc=>⟨zz2,fun b hb=>⟨zz1,fun a ha=>?_⟩⟩⟩
   ·show [V.int n,V.int (3+n / 16 % 2)]=_
    rw [Int.toNat_of_nonneg (by omega)]
   obtain ⟨s1,g1,g2⟩:=sP (d:=(1+n / 16 % late)) hc hb
   have s2:=(aK.refl _).new (o:=.tup [.ref b]) ha
   exact q a _ [((1+n / 16 % late),eH n (3+n / 16 % 2).toNat)] ((s0.trans s1).trans s2) (uA (cD.of aD) (s2.tup g1) (g2.same s2)) (one b1 (jX n0 (by omega)))
def oV (K:PySem.W.Frag):Sp:=fun vs H Q _=>∃ (l a:Addr) (f:Nat→Int) (ts:Ts),vs=[.ref l,.ref a]∧ae K H l (tabI 24 f)∧oU K H a ts∧jW ts∧∀ (p:Addr) (H':Hp),aK H H'→H p=none→H' p=some (.lst (tabI 24 (dy f ts)))→Q (.ref p) H'
theorem NS {n:Nat} {f:Nat→Int} {i:Int} (h0:0≤i) (h1:i < n):qA (tabI n f) i=some (V.int (f i.toNat)):=dH (f:=fun j=>V.int (f j)) h0 h1
theorem NT {n:Nat} {f:Nat→Int} {i:Int} (h0:0≤i) (h1:i < n):DZ (tabI n f).length i=some i.toNat:=by
 unfold DZ
 rw [aN,if_pos h0,if_pos h1]
theorem Kq {n i:Nat} {f:Nat→Int} {v:Int} (h:i < n):(tabI n f).set i (V.int v)=tabI n (EZ f i v):=by
 refine (rg (f:=fun j=>V.int (f j)) h).trans (ba fun j _=>?_)
 unfold EZ
 by_cases z:j=i
 ·rw [if_pos z,if_pos z]
 ·rw [if_neg z,if_neg z]
theorem jZ:aV ["cell","turns","made","place","add"] ["cell","turns"] (aI iF):=⟨rfl,rfl,rfl,by decide +kernel,rfl,by decide +kernel,by decide +kernel⟩
theorem xO (F:aT K mg "_law_turned" iF) (T:Txt K mg t):Def P w K mg base 1 "_law_turned" ["cell","turns"] (oV K):=by
 refine F.def jZ (fun _ _ _ _ _ _ us hl=>match us,hl with | [_,_],_=>rfl) (fun vs H Q E h=>?_) (fun f bw A outer s H vs Q E hr h=>?_)
 ·obtain ⟨l,a,f,ts,rfl,_⟩:=h
  rfl
 ·obtain ⟨l,a,f,ts,rfl,hl,⟨iN,hA,ht⟩,g,q⟩:=h
  refine ⟨_,aE (aX (i:=2) jZ.nd rfl (Or.inl rfl) (df (gT K) (by rfl) T.qW boot_list (aC (pv 0) aF)))
   (aE (PS.rS (cP PassesOwn.never rfl (AV K (pv 1)) (iw K (i:=3) (j:=4) rfl jZ.nd rfl rfl (Or.inl rfl) (Or.inl rfl))
    (aJ (qP (aM ay (aM az (aj (aR K) (pv 2) (pv 3) (fun _ _=>rfl)) (pv 4)) aG) (vw (pv 2) (pv 3) set_list)))))
   (aJ (ai (pv 2)))),?_⟩
  refine ⟨_,rfl,l,_,rfl,.inl hl,fun r hr=>?_⟩
  have s1:=(aK.refl H).new (o:=.lst (tabI 24 f)) hr
  refine ⟨_,rfl,a,rfl,⟨_,s1.tup hA⟩,?_⟩
  refine Fh (K:=K) (a:=a) (xs:=bD ts.length iN) (fun i σ H'=>∃ v3 v4:Option V,σ=[some (.ref l),some (.ref a),some (.ref r),v3,v4]∧aK H H'∧H' r=some (.lst (tabI 24 (dy f (ts.take i))))) ⟨none,none,rfl,s1,aD⟩ (fun i σ H' _ ⟨_,_,_,s2,_⟩=>s2.tup hA) ?_ ?_
  ·rintro i x σ H' hx ⟨v3,v4,rfl,s2,GO⟩
   obtain ⟨hi,rfl⟩:=tab_of hx
   have e:ts[i]?=some ts[i]:=by simp [hi]
   generalize ts[i]=c at e
   obtain ⟨⟨p0,p1⟩,_⟩:=g.at_ c (List.mem_of_getElem? e)
   refine lI (s2.tup (ht i c e)) ?_
   refine ⟨_,rfl,_,rfl,r,_,_,_,rfl,rfl,ae.of GO,NS p0 (by omega),_,rfl,_,_,rfl,rfl,_,_,rfl,rfl,(by show (0:Int) < 97;decide),?_⟩
   refine ⟨_,rfl,_,rfl,r,_,_,_,rfl,rfl,GO,NT p0 (by omega),?_⟩
   refine ⟨_,_,rfl,s2.put hr,?_⟩
   rw [aD,take_succ e,IM]
   exact congrArg (fun z=>some (HO.lst z)) (Kq (by omega))
  ·rintro σ H' ⟨v3,v4,rfl,s2,GO⟩
   rw [aN,List.take_length] at GO
   exact ⟨_,rfl,q r H' s2 hr GO⟩
structure Rw where
 f:Nat→Int
 rd:Bool
 b:Cl
structure Ef (r:Rw):Prop where
 c:IsCell 24 r.f
 m:Kf r.f (if r.rd=true then some r.b else none)
 g:jV r.b
abbrev BQ:=Hp→V→Cl→Prop
def Kr (Bv:BQ) (B:Hp) (a:Addr) (r:Rw):Prop:=∃ (c:Addr) (v:V),B a=some (.tup [.ref c,.bl r.rd,v])∧B c=some (.lst (tabI 24 r.f))∧Bv B v r.b∧Ef r
def fN (Bv:BQ):Prop:=∀ B B' v b,aK B B'→Bv B v b→Bv B' v b
theorem Kr.same {Bv:BQ} (mb:fN Bv) {B B':Hp} {a:Addr} {r:Rw} (h:Kr Bv B a r) (s:aK B B'):Kr Bv B' a r:=by
 obtain ⟨c,v,h1,h2,h3,h4⟩:=h
 exact ⟨c,v,s _ _ h1,s _ _ h2,mb _ _ _ _ s h3,h4⟩
structure Slot (Bv:BQ) (B H:Hp) (a:Addr) (rs:List Rw):Prop where
 no:B a=none
 at_:∃ Gg:Nat→Addr,H a=some (.lst (bD rs.length Gg))∧∀ y r,rs[y]?=some r→Kr Bv B (Gg y) r
theorem Slot.keep {Bv:BQ} (mb:fN Bv) {B B' H H':Hp} {a:Addr} {rs:List Rw} (h:Slot Bv B H a rs) (s:aK B B') (n:B' a=none) (e:H' a=H a):Slot Bv B' H' a rs:=by
 obtain ⟨Gg,h1,h2⟩:=h.at_
 exact ⟨n,Gg,e.trans h1,fun y r hr=>(h2 y r hr).same mb s⟩
structure Cg (Bv:BQ) (B H:Hp) (d:Addr) (sl:Nat→Addr) (n:Nat) (rows:Nat→List Rw):Prop where
 dl:B d=some (.lst (bD n sl))
 inj:∀ i j,i < n→j < n→sl i=sl j→i=j
 at_:∀ j,j < n→Slot Bv B H (sl j) (rows j)
def de (b:Cl) (ts:Ts):Rw:=⟨dy (bB b) ts,decide (ts.length < 3),b⟩
def uB (rows:Nat→List Rw) (k:Nat) (r:Rw):Nat→List Rw:=fun j=>if j=k then rows j ++ [r] else rows j
def gE (rows:Nat→List Rw) (tick:Nat) (b:Cl) (fs:Ft):Nat→List Rw:=fs.foldl (fun rs d=>uB rs (tick+d.1.toNat) (de b d.2)) rows
theorem IU (rows:Nat→List Rw) (tick:Nat) (b:Cl) (fs:Ft) (d:Int × Ts):gE rows tick b (fs ++ [d])=uB (gE rows tick b fs) (tick+d.1.toNat) (de b d.2):=by unfold gE;rw [List.foldl_append];rfl
theorem Ks {b:Cl} {ts:Ts} (h1:jV b) (g:jW ts) (hs:My.bu (bB b)):Ef (de b ts):=by
 have c:=Cq h1
 refine ⟨IP c,?_,h1⟩
 show Kf (dy (bB b) ts) (if decide (ts.length < 3)=true then some b else none)
 by_cases z:ts.length < 3
 ·rw [decide_eq_true z,if_pos rfl]
  exact ⟨h1,IS g c hs z⟩
 ·rw [decide_eq_false z,if_neg (by decide)]
  exact IT g c hs z
structure Gv (B H B' H':Hp) (sl:Nat→Addr) (n:Nat):Prop where
 bb:aK B B'
 bh:aK B' H'
 no:∀ m,H m≠none→B m=none→B' m=none
 fr:∀ m o,(∀ j,j < n→m≠sl j)→H m=some o→H' m=some o
 g:∀ m,H' m=none→H m=none
theorem Gv.refl {B H:Hp} {sl:Nat→Addr} {n:Nat} (s:aK B H):Gv B H B H sl n:=⟨aK.refl _,s,fun _ _ h=>h,fun _ _ _ h=>h,fun _ h=>h⟩
theorem Gv.trans {B H B1 H1 B2 H2:Hp} {sl:Nat→Addr} {n:Nat} (a:Gv B H B1 H1 sl n) (b:Gv B1 H1 B2 H2 sl n):Gv B H B2 H2 sl n :=
 ⟨a.bb.trans b.bb,b.bh,fun m h1 h2=>b.no m (fun z=>h1 (a.g m z)) (a.no m h1 h2),fun m o h e=>b.fr m o h (a.fr m o h e),fun m h=>a.g m (b.g m h)⟩
theorem Slot.val {Bv:BQ} {B H:Hp} {a:Addr} {rs:List Rw} (h:Slot Bv B H a rs):H a≠none:=by obtain ⟨_,g,_⟩:=h.at_;rw [g];exact fun z=>by cases z
theorem Cg.step {Bv:BQ} (mb:fN Bv) {B H H2:Hp} {d p r:Addr} {sl:Nat→Addr} {n k:Nat} {rows:Nat→List Rw} {v3:V} {rw':Rw} {Gg:Nat→Addr} (c:Cg Bv B H d sl n rows) (sb:aK B H) (hk:k < n) (s2:aK H H2) (np:H p=none) (ep:H2 p=some (.lst (tabI 24 rw'.f))) (nr:H2 r=none)
  (g:Ef rw') (hv:Bv B v3 rw'.b) (e1:H (sl k)=some (.lst (bD (rows k).length Gg))) (e2:∀ y x,(rows k)[y]?=some x→Kr Bv B (Gg y) x) :
  Gv B H (upd (upd B p (.lst (tabI 24 rw'.f))) r (.tup [.ref p,.bl rw'.rd,v3])) (upd (upd H2 r (.tup [.ref p,.bl rw'.rd,v3])) (sl k) (.lst (bD (rows k).length Gg ++ [.ref r]))) sl n ∧
  Cg Bv (upd (upd B p (.lst (tabI 24 rw'.f))) r (.tup [.ref p,.bl rw'.rd,v3])) (upd (upd H2 r (.tup [.ref p,.bl rw'.rd,v3])) (sl k) (.lst (bD (rows k).length Gg ++ [.ref r]))) d sl n (uB rows k rw'):=by
 have UP:H r=none:=s2.free nr
 have Xx:p≠r:=fun z=>by rw [z,nr] at ep;cases ep
 have bp:B p=none:=sb.free np
 have br:B r=none:=sb.free UP
 have sB1:aK B (upd B p (.lst (tabI 24 rw'.f))):=(aK.refl _).new bp
 have sB:aK B (upd (upd B p (.lst (tabI 24 rw'.f))) r (.tup [.ref p,.bl rw'.rd,v3])):=sB1.new (by rw [aH (Ne.symm Xx)];exact br)
 have slk:H (sl k)≠none:=(c.at_ k hk).val
 have Xy:∀ j,j < n→sl j≠r:=fun j hj z=>(c.at_ j hj).val (by rw [z];exact UP)
 have Z8:∀ j,j < n→sl j≠p:=fun j hj z=>(c.at_ j hj).val (by rw [z];exact np)
 have Z9:∀ j,j < n→(upd (upd B p (.lst (tabI 24 rw'.f))) r (.tup [.ref p,.bl rw'.rd,v3])) (sl j)=none:=fun j hj=>by rw [aH (Xy j hj),aH (Z8 j hj)];exact (c.at_ j hj).no
 refine ⟨⟨sB,?_,?_,?_,?_⟩,⟨sB _ _ c.dl,c.inj,fun j hj=>?_⟩⟩
 ·intro m o e
  by_cases z1:m=r
  ·rw [z1] at e ⊢
   rw [aD] at e
   rw [aH (Ne.symm (Xy k hk)),aD];exact e
  ·rw [aH z1] at e
   by_cases z2:m=p
   ·rw [z2] at e ⊢
    rw [aD] at e
    rw [aH (Ne.symm (Z8 k hk)),aH Xx,ep];exact e
   ·rw [aH z2] at e
    rw [aH (fun z=>by rw [z,(c.at_ k hk).no] at e;cases e),aH z1]
    exact s2 _ _ (sb _ _ e)
 ·intro m h1 h2
  rw [aH (fun z=>h1 (by rw [z];exact UP)),aH (fun z=>h1 (by rw [z];exact np))];exact h2
 ·intro m o h e
  rw [aH (h k hk),aH (fun z=>by rw [z,UP] at e;cases e)]
  exact s2 _ _ e
 ·intro m h
  by_cases z1:m=sl k
  ·rw [z1,aD] at h;cases h
  ·rw [aH z1] at h
   by_cases z2:m=r
   ·rw [z2];exact UP
   ·rw [aH z2] at h
    exact s2.free h
 ·by_cases z:j=k
  ·subst z
   refine ⟨Z9 j hj,fun y=>if y=(rows j).length then r else Gg y,?_,fun y x hx=>?_⟩
   ·rw [aD,bq]
    show _=some (HO.lst (bD (if j=j then rows j ++ [rw'] else rows j).length _))
    rw [if_pos rfl,List.length_append]
    rfl
   ·have hx:(if j=j then rows j ++ [rw'] else rows j)[y]?=some x:=hx
    rw [if_pos rfl] at hx
    by_cases zy:y=(rows j).length
    ·rw [zy,List.getElem?_append_right (Nat.le_refl _),Nat.sub_self] at hx
     cases hx
     simp only [zy,if_true]
     exact ⟨p,v3,aD,by rw [aH Xx];exact aD,mb _ _ _ _ sB hv,g⟩
    ·have hy:y < (rows j ++ [rw']).length:=(List.getElem?_eq_some_iff.mp hx).1
     rw [List.length_append] at hy
     have QY:y < (rows j).length:=by simp at hy;omega
     rw [List.getElem?_append_left QY] at hx
     simp only [zy,if_false]
     exact (e2 y x hx).same mb sB
  ·show Slot Bv _ _ (sl j) (if j=k then _ else rows j)
   rw [if_neg z]
   have ne:sl j≠sl k:=fun w=>z (c.inj j k hj hk w)
   obtain ⟨rj,g1,g2⟩:=(c.at_ j hj).at_
   exact (c.at_ j hj).keep mb sB (Z9 j hj) (by rw [aH ne,aH (Xy j hj),s2 _ _ g1,g1])
def sQ (K:PySem.W.Frag) (Bv:BQ):Sp:=fun vs H Q _=>∃ (B:Hp) (d l fA:Addr) (tick:Nat) (v3:V) (sl:Nat→Addr) (n:Nat) (rows:Nat→List Rw) (b:Cl) (fs:Ft) (late:Int),vs=[.ref d,.ref l,.ref fA,.int (tick:Int),v3]∧aK B H∧Cg Bv B H d sl n rows ∧
 H l=some (.lst (tabI 24 (bB b)))∧jV b∧Bv B v3 b∧jY K H fA fs∧gS late fs∧late≤6∧tick+6 < n∧(∀ j,j < n→(rows j).length≤100000)∧(∀ j,j < n→l≠sl j) ∧
 ∀ B' H',Gv B H B' H' sl n→Cg Bv B' H' d sl n (gE rows tick b fs)→Q .cB H'
theorem Az {K:PySem.W.Frag} {H H':Hp} {a:Addr} {xs:List V} {sl:Nat→Addr} {n:Nat} (fr:∀ m o,(∀ j,j < n→m≠sl j)→H m=some o→H' m=some o) (ls:∀ j,j < n→∃ ys,H (sl j)=some (.lst ys)) (h:cD K H a xs):cD K H' a xs:=by
 rcases h with (h | ⟨u,h⟩) | h
 ·exact .inl (.inl (fr a _ (fun j hj z=>by obtain ⟨ys,e⟩:=ls j hj;rw [z,e] at h;cases h) h))
 ·exact .inl (.inr ⟨u,fr a _ (fun j hj z=>by obtain ⟨ys,e⟩:=ls j hj;rw [z,e] at h;cases h) h⟩)
 ·exact .inr h
theorem C0 {rows:Nat→List Rw} {tick:Nat} {b:Cl}:∀ (fs:Ft) (j:Nat),(gE rows tick b fs j).length≤(rows j).length+fs.length:=by
 intro fs
 induction fs generalizing rows with
 | nil=>intro j;exact Nat.le_refl _
 | cons d r ih =>
  intro j
  have:=ih (rows:=uB rows (tick+d.1.toNat) (de b d.2)) j
  have h2:(uB rows (tick+d.1.toNat) (de b d.2) j).length≤(rows j).length+1:=by
   unfold uB
   split
   ·rw [List.length_append];exact Nat.le_refl _
   ·exact Nat.le_succ _
  show (gE (uB rows (tick+d.1.toNat) (de b d.2)) tick b r j).length≤_
  rw [List.length_cons]
  omega
theorem sR:aV ["coming","cell","fate","tick","births","delay","turns"] ["coming","cell","fate","tick","births"] (aI kM):=⟨rfl,rfl,rfl,by decide +kernel,rfl,by decide +kernel,by decide +kernel⟩
theorem A0 {Bv:BQ} (mb:fN Bv) (F:aT K mg "_law_give" kM) (T:Txt K mg t) (kd:Def P w K mg base 1 "_law_turned" ["cell","turns"] (oV K)):Def P w K mg base 2 "_law_give" ["coming","cell","fate","tick","births"] (sQ K Bv):=by
 refine F.def sR (fun _ _ _ _ _ _ us hl=>match us,hl with | [_,_,_,_,_],_=>rfl) (fun vs H Q E h=>?_) (fun f bw A outer s H vs Q E hr h=>?_)
 ·obtain ⟨B,d,l,fA,tick,v3,sl,n,rows,b,fs,late,rfl,_⟩:=h
  rfl
 ·obtain ⟨B,d,l,fA,tick,v3,sl,n,rows,b,fs,late,rfl,sb,cg,hl,Tq,hv,hf,gf,l6,ht,Kk,nl,q⟩:=h
  refine ⟨_,aJ (PS.rS (cP PassesOwn.never rfl (AV K (pv 2)) (iw K (i:=5) (j:=6) rfl sR.nd rfl rfl (Or.inl rfl) (Or.inl rfl))
    (aJ (av (eg K PySem.F.plainAttrs_list PySem.F.slot_list_append PySem.F.type_list_append bZ (aj (aR K) (pv 0) (aM az (pv 3) (pv 5)) (fun _ _=>rfl)) (aC (bK (aC (aY (kd.mono (by decide)) hr ao (aC (pv 1) (aC (pv 6) aF))) (aC (j8 jJ (bR (bM K) (by rfl) T.f6 boot_len (aC (pv 6) aF)) aG (af _)) (aC (pv 4) aF)))) aF)))))),?_⟩
  have pf:(1000001:Nat)≤sizeLine:=by decide
  obtain ⟨Kn,iN,h1,h2⟩:=hf
  have hs:My.bu (bB b):=My.AY _
  have ls:∀ j,j < n→∃ ys,H (sl j)=some (.lst ys):=fun j hj=>by obtain ⟨_,g,_⟩:=(cg.at_ j hj).at_;exact ⟨_,g⟩
  refine ⟨_,rfl,fA,rfl,⟨_,h1⟩,?_⟩
  refine Fh (K:=K) (a:=fA) (xs:=bD fs.length Kn) (fun i σ H'=>∃ (B':Hp) (v5 v6:Option V),σ=[some (.ref d),some (.ref l),some (.ref fA),some (.int (tick:Int)),some v3,v5,v6]∧Gv B H B' H' sl n∧Cg Bv B' H' d sl n (gE rows tick b (fs.take i)))
   ⟨B,none,none,rfl,Gv.refl sb,cg⟩ (fun i σ H' _ ⟨_,_,_,_,g,_⟩=>Az g.fr ls h1) ?_ ?_
  ·rintro i x σ H1 hx ⟨B1,v5,v6,rfl,g1,c1⟩
   obtain ⟨hi,rfl⟩:=tab_of hx
   have e:fs[i]?=some fs[i]:=by simp [hi]
   generalize fs[i]=dd at e
   obtain ⟨d1,d2,d3⟩:=gf.at_ dd (List.mem_of_getElem? e)
   obtain ⟨k1,Xz,k2,k3⟩:=h2 i dd e
   have kts:oU K H1 (iN i) dd.2:=⟨Xz,Az g1.fr ls k2,fun y q hq=>Az g1.fr ls (k3 y q hq)⟩
   refine lI (Az g1.fr ls k1) ?_
   have Vt:tick+dd.1.toNat < n:=by omega
   obtain ⟨Gg,r1,r2⟩:=(c1.at_ _ Vt).at_
   have UQ:H1 l=some (.lst (tabI 24 (bB b))):=g1.fr l _ nl hl
   have eix:qA (bD n sl) ((tick:Int)+dd.1)=some (.ref (sl (tick+dd.1.toNat))):=by
    rw [show (tick:Int)+dd.1=((tick+dd.1.toNat:Nat):Int) by omega]
    exact fX (be Vt)
   have hlen:=C0 (rows:=rows) (tick:=tick) (b:=b) (fs.take i) (tick+dd.1.toNat)
   have Zv:=gf.len
   rw [List.length_take] at hlen
   have UG:=Kk _ Vt
   refine ⟨_,rfl,_,rfl,_,rfl,_,_,rfl,rfl,d,_,_,_,rfl,rfl,ae.of (g1.bh _ _ c1.dl),eix,.inl ⟨rfl,_,ae.of r1⟩,?_⟩
   refine ⟨_,rfl,_,rfl,l,iN i,_,dd.2,rfl,ae.of UQ,kts,d3,fun p H2 s2 np ep=>?_⟩
   refine ⟨_,rfl,iN i,_,rfl,.inr (s2.tup (kts.choose_spec.1)),_,_,rfl,rfl,?_⟩
   rw [aN]
   refine ⟨_,rfl,zz3,fun r ng=>?_⟩
   refine ⟨sl (tick+dd.1.toNat),_,_,rfl,rfl,by rw [aH (aP (s2 _ _ r1) ng)];exact s2 _ _ r1,by rw [aN];omega,?_⟩
   have RT:decide (((dd.2.length:Nat):Int) < 3)=decide (dd.2.length < 3):=by
    by_cases z:dd.2.length < 3
    ·rw [decide_eq_true z,decide_eq_true (by omega)]
    ·rw [decide_eq_false z,decide_eq_false (by omega)]
   obtain ⟨gA,cA⟩:=c1.step mb (rw':=de b dd.2) (v3:=v3) g1.bh Vt s2 np ep ng (Ks Tq d3 hs) (mb _ _ _ _ g1.bb hv) r1 r2
   refine ⟨upd (upd B1 p (.lst (tabI 24 (de b dd.2).f))) r (.tup [.ref p,.bl (de b dd.2).rd,v3]),_,_,rfl,g1.trans ?_,?_⟩
   ·show Gv B1 H1 _ (upd (upd H2 r (.tup [.ref p,.bl (decide (((dd.2.length:Nat):Int) < 3)),v3])) _ _) sl n
    rw [RT]
    exact gA
   ·show Cg Bv _ (upd (upd H2 r (.tup [.ref p,.bl (decide (((dd.2.length:Nat):Int) < 3)),v3])) _ _) d sl n _
    rw [RT,take_succ e,IU]
    exact cA
  ·rintro σ H1 ⟨B1,v5,v6,rfl,g1,c1⟩
   rw [aN,List.take_length] at c1
   exact q B1 H1 g1 c1
theorem bS.mv {C:Addr} {B H B' H':Hp} {x tA pA:Addr} {L:Lk} (h:bS C B H x tA pA L) (sb:aK B' H') (bb:aK B B') (no:∀ a,H a≠none→B a=none→B' a=none) (kx:∀ o,H x=some o→H' x=some o) (kt:∀ o,H tA=some o→H' tA=some o) (kp:∀ o,H pA=some o→H' pA=some o):bS C B' H' x tA pA L:=by
 obtain ⟨dx,pv,g,gp⟩:=h.at_
 obtain ⟨kX,g2,Au⟩:=h.told
 obtain ⟨gj,g3,xE⟩:=h.bT
 exact ⟨sb,no _ h.hx h.bx,no _ h.ht h.bt,no _ h.hp h.bp,⟨dx,pv,kx _ g,gp.mono bb⟩,⟨kX,kt _ g2,fun y e he=>(Au y e he).mono bb⟩,⟨gj,kp _ g3,fun y xs hy=>bb _ _ (xE y xs hy)⟩,h.ne⟩
def at2 {α:Type} (f:Nat→α) (s:Nat) (v:α):Nat→α:=fun i=>if i=s then v else f i
theorem aL {α:Type} {f:Nat→α} {s:Nat} {v:α}:at2 f s v s=v:=if_pos rfl
theorem aS {α:Type} {f:Nat→α} {s i:Nat} {v:α} (h:i≠s):at2 f s v i=f i:=if_neg h
structure sS (o:HO):Prop where
 t:∀ xs,o≠.tup xs
 f:∀ a u,o≠.AA a u
theorem b5 (xs:List V):sS (.lst xs):=⟨(fun _ z=>by cases z),(fun _ _ z=>by cases z)⟩
structure St (Bv:BQ) (C:Addr) (B H:Hp) (n:Nat) (x tA pA d:Nat→Addr) (sl:Nat→Nat→Addr) (L:Nat→Lk) (rows:Nat→Nat→List Rw) (ρ:Addr→Nat) (m:Nat) (ex:Nat→Addr) (eo:Nat→HO):Prop where
 sb:aK B H
 lk:∀ s,s < 2→bS C B H (x s) (tA s) (pA s) (L s)
 cg:∀ s,s < 2→Cg Bv B H (d s) (sl s) n (rows s)
 rx:∀ s,s < 2→ρ (x s)=10+s
 rt:∀ s,s < 2→ρ (tA s)=20+s
 rp:∀ s,s < 2→ρ (pA s)=30+s
 rs:∀ s,s < 2→∀ j,j < n→ρ (sl s j)=50+s
 ee:∀ i,i < m→H (ex i)=some (eo i)
 eb:∀ i,i < m→B (ex i)=none
 er:∀ i,i < m→ρ (ex i)=100+i
 en:∀ i,i < m→sS (eo i)
section
variable {Bv:BQ} {C:Addr} {B H B' H':Hp} {n:Nat} {x tA pA d:Nat→Addr} {sl:Nat→Nat→Addr} {L:Nat→Lk} {rows:Nat→Nat→List Rw} {ρ:Addr→Nat} {s m:Nat} {ex:Nat→Addr} {eo Rq:Nat→HO}
theorem dS {a b:Addr} {i j:Nat} (ha:ρ a=i) (hb:ρ b=j) (h:i≠j):a≠b:=fun z=>h (by rw [← ha,← hb,z])
theorem Cg.mv (mb:fN Bv) {a:Addr} {sa:Nat→Addr} {ra:Nat→List Rw} (h:Cg Bv B H a sa n ra) (bb:aK B B') (no:∀ a,H a≠none→B a=none→B' a=none) (e:∀ j,j < n→∀ o,H (sa j)=some o→H' (sa j)=some o):Cg Bv B' H' a sa n ra :=
 ⟨bb _ _ h.dl,h.inj,fun j hj=>(h.at_ j hj).keep mb bb (no _ (h.at_ j hj).val (h.at_ j hj).no) (by obtain ⟨_,g,_⟩:=(h.at_ j hj).at_;rw [e j hj _ g,g])⟩
theorem St.he (h:St Bv C B H n x tA pA d sl L rows ρ m ex eo) {i:Nat} (hi:i < m):H (ex i)≠none:=by rw [h.ee i hi];exact fun z=>by cases z
theorem St.same (mb:fN Bv) (h:St Bv C B H n x tA pA d sl L rows ρ m ex eo) (e:aK H H'):St Bv C B H' n x tA pA d sl L rows ρ m ex eo :=
 ⟨h.sb.trans e,fun s hs=>(h.lk s hs).same e,fun s hs=>(h.cg s hs).mv mb (aK.refl _) (fun _ _ z=>z) fun j _ o g=>e _ _ g,h.rx,h.rt,h.rp,h.rs,fun i hi=>e _ _ (h.ee i hi),h.eb,h.er,h.en⟩
theorem St.Vu (mb:fN Bv) {tB pB:Addr} {L':Lk} (h:St Bv C B H n x tA pA d sl L rows ρ m ex eo) (hs:s < 2) (mv:jF B H B' H' (x s) (tA s) (pA s) tB pB) (hl:bS C B' H' (x s) tB pB L') :
  ∃ ρ',St Bv C B' H' n x (at2 tA s tB) (at2 pA s pB) d sl (at2 L s L') rows ρ' m ex eo∧∀ a,a≠tB→a≠pB→ρ' a=ρ a:=by
 have old:∀ {a:Addr} {i:Nat},ρ a=i→i≠10+s→i≠20+s→i≠30+s→∀ o,H a=some o→H' a=some o:=fun {a i} e n1 n2 n3 o g=>mv.k a o (dS e (h.rx s hs) n1) (dS e (h.rt s hs) n2) (dS e (h.rp s hs) n3) g
 have nt:∀ {a:Addr} {i:Nat},ρ a=i→i≠20+s→H a≠none→a≠tB:=fun {a i} e n1 g z=>by
  rcases mv.t with y | y
  ·exact dS e (h.rt s hs) n1 (z.trans y)
  ·exact g (by rw [z];exact y)
 have np:∀ {a:Addr} {i:Nat},ρ a=i→i≠30+s→H a≠none→a≠pB:=fun {a i} e n1 g z=>by
  rcases mv.p with y | y
  ·exact dS e (h.rp s hs) n1 (z.trans y)
  ·exact g (by rw [z];exact y)
 have rr:∀ {a:Addr} {i:Nat},ρ a=i→i≠20+s→i≠30+s→H a≠none→(fun b=>if b=tB then 20+s else if b=pB then 30+s else ρ b) a=i:=fun {a i} e n1 n2 g=>by
  show (if a=tB then 20+s else if a=pB then 30+s else ρ a)=i
  rw [if_neg (nt e n1 g),if_neg (np e n2 g)];exact e
 refine ⟨fun b=>if b=tB then 20+s else if b=pB then 30+s else ρ b,⟨hl.sb,?_,?_,?_,?_,?_,?_,fun i hi=>old (h.er i hi) (by omega) (by omega) (by omega) _ (h.ee i hi),fun i hi=>mv.no _ (h.he hi) (h.eb i hi),fun i hi=>rr (h.er i hi) (by omega) (by omega) (h.he hi),h.en⟩,fun a h1 h2=>by show (if a=tB then 20+s else if a=pB then 30+s else ρ a)=ρ a;rw [if_neg h1,if_neg h2]⟩
 ·intro i hi
  by_cases z:i=s
  ·subst z;rw [aL,aL,aL];exact hl
  ·rw [aS z,aS z,aS z]
   exact (h.lk i hi).mv hl.sb mv.bb mv.no (old (h.rx i hi) (by omega) (by omega) (by omega)) (old (h.rt i hi) (by omega) (by omega) (by omega)) (old (h.rp i hi) (by omega) (by omega) (by omega))
 ·intro i hi
  exact (h.cg i hi).mv mb mv.bb mv.no fun j hj=>old (h.rs i hi j hj) (by omega) (by omega) (by omega)
 ·intro i hi
  exact rr (h.rx i hi) (by omega) (by omega) (h.lk i hi).hx
 ·intro i hi
  by_cases z:i=s
  ·subst z;rw [aL];exact if_pos rfl
  ·rw [aS z];exact rr (h.rt i hi) (by omega) (by omega) (h.lk i hi).ht
 ·intro i hi
  by_cases z:i=s
  ·subst z
   rw [aL]
   show (if pB=tB then 20+i else if pB=pB then 30+i else ρ pB)=_
   rw [if_neg (Ne.symm hl.ne),if_pos rfl]
  ·rw [aS z];exact rr (h.rp i hi) (by omega) (by omega) (h.lk i hi).hp
 ·intro i hi j hj
  exact rr (h.rs i hi j hj) (by omega) (by omega) ((h.cg i hi).at_ j hj).val
theorem St.gv (mb:fN Bv) {ra:Nat→List Rw} (h:St Bv C B H n x tA pA d sl L rows ρ m ex eo) (hs:s < 2) (g:Gv B H B' H' (sl s) n) (c:Cg Bv B' H' (d s) (sl s) n ra):St Bv C B' H' n x tA pA d sl L (at2 rows s ra) ρ m ex eo:=by
 have old:∀ {a:Addr} {i:Nat},ρ a=i→i≠50+s→∀ o,H a=some o→H' a=some o:=fun {a i} e n1 o q=>g.fr a o (fun j hj=>dS e (h.rs s hs j hj) n1) q
 refine ⟨g.bh,?_,?_,h.rx,h.rt,h.rp,h.rs,fun i hi=>old (h.er i hi) (by omega) _ (h.ee i hi),fun i hi=>g.no _ (h.he hi) (h.eb i hi),h.er,h.en⟩
 ·intro i hi
  exact (h.lk i hi).mv g.bh g.bb g.no (old (h.rx i hi) (by omega)) (old (h.rt i hi) (by omega)) (old (h.rp i hi) (by omega))
 ·intro i hi
  by_cases z:i=s
  ·subst z;rw [aL];exact c
  ·rw [aS z]
   exact (h.cg i hi).mv mb g.bb g.no fun j hj=>old (h.rs i hi j hj) (by omega)
theorem St.grow (mb:fN Bv) {a:Addr} {o:HO} (h:St Bv C B H n x tA pA d sl L rows ρ m ex eo) (s:aK H H') (na:H a=none) (ea:H' a=some o) :
  St Bv C (upd B a o) H' n x tA pA d sl L rows ρ m ex eo∧aK B (upd B a o):=by
 have h1:=h.same mb s
 have sB:aK B (upd B a o):=(aK.refl _).new (h.sb.free na)
 have no:∀ b,H b≠none→B b=none→(upd B a o) b=none:=fun b hb e=>by rw [aH (fun z=>hb (by rw [z];exact na))];exact e
 have Gi:aK (upd B a o) H':=fun b u e=>by
  by_cases z:b=a
  ·rw [z] at e ⊢;rw [aD] at e;rw [ea];exact e
  ·rw [aH z] at e;exact h1.sb _ _ e
 exact ⟨⟨Gi,fun i hi=>(h.lk i hi).mv Gi sB no (fun o e=>s _ _ e) (fun o e=>s _ _ e) (fun o e=>s _ _ e),fun i hi=>(h.cg i hi).mv mb sB no fun j _ o e=>s _ _ e,h.rx,h.rt,h.rp,h.rs,h1.ee,fun i hi=>no _ (h.he hi) (h.eb i hi),h.er,h.en⟩,sB⟩
theorem St.chg (mb:fN Bv) (h:St Bv C B H n x tA pA d sl L rows ρ m ex eo) (fr:∀ a o,(∀ i,i < m→a≠ex i)→H a=some o→H' a=some o) (X0:∀ i,i < m→H' (ex i)=some (Rq i)) (Kt:∀ i,i < m→sS (Rq i)):St Bv C B H' n x tA pA d sl L rows ρ m ex Rq:=by
 have old:∀ {b:Addr} {k:Nat},ρ b=k→k < 100→∀ u,H b=some u→H' b=some u:=fun {b k} q n1 u g=>fr b u (fun i hi=>dS q (h.er i hi) (by omega)) g
 have Gi:aK B H':=fun a o e=>fr a o (fun i hi z=>by rw [z,h.eb i hi] at e;cases e) (h.sb _ _ e)
 exact ⟨Gi,fun i hi=>(h.lk i hi).mv Gi (aK.refl _) (fun _ _ z=>z) (old (h.rx i hi) (by omega)) (old (h.rt i hi) (by omega)) (old (h.rp i hi) (by omega)),fun i hi=>(h.cg i hi).mv mb (aK.refl _) (fun _ _ z=>z) fun j hj=>old (h.rs i hi j hj) (by omega),h.rx,h.rt,h.rp,h.rs,X0,h.eb,h.er,Kt⟩
theorem St.put (mb:fN Bv) {i:Nat} {o:HO} (h:St Bv C B H n x tA pA d sl L rows ρ m ex eo) (hi:i < m) (no:sS o):St Bv C B (upd H (ex i) o) n x tA pA d sl L rows ρ m ex (at2 eo i o):=by
 refine h.chg mb (fun a u hn e=>by rw [aH (hn i hi)];exact e) (fun k hk=>?_) (fun k hk=>?_)
 ·by_cases z:k=i
  ·rw [z,aL];exact aD
  ·rw [aS z,aH (dS (h.er k hk) (h.er i hi) (by omega))];exact h.ee k hk
 ·by_cases z:k=i
  ·rw [z,aL];exact no
  ·rw [aS z];exact h.en k hk
theorem St.re (h:St Bv C B H n x tA pA d sl L rows ρ m ex eo) {L':Nat→Lk} {Rq:Nat→HO} (hL:∀ s,s < 2→L' s=L s) (hE:∀ i,i < m→Rq i=eo i):St Bv C B H n x tA pA d sl L' rows ρ m ex Rq :=
 ⟨h.sb,fun s hs=>by rw [hL s hs];exact h.lk s hs,h.cg,h.rx,h.rt,h.rp,h.rs,fun i hi=>by rw [hE i hi];exact h.ee i hi,h.eb,h.er,fun i hi=>by rw [hE i hi];exact h.en i hi⟩
end
section
def lZ (B H:Hp):Hp:=fun a=>match H a with
 | some (.tup xs)=>some (.tup xs)
 | some (.AA o u)=>some (.AA o u)
 | _=>B a
theorem Gj {B H:Hp} {a:Addr} {o:HO} (h:H a=some o) (n:sS o):lZ B H a=B a:=by
 unfold lZ
 rw [h]
 cases o with
 | tup xs=>exact absurd rfl (n.t xs)
 | AA b u=>exact absurd rfl (n.f b u)
 | _=>rfl
theorem Ku {B H:Hp} {a:Addr} {xs:List V} (h:H a=some (.tup xs)):lZ B H a=some (.tup xs):=by unfold lZ;rw [h]
theorem sT {B H:Hp} {K:PySem.W.Frag} {a:Addr} {xs:List V} (h:cD K H a xs):cD K (lZ B H) a xs:=by
 rcases h with (h | ⟨o,h⟩) | h
 ·exact .inl (.inl (Ku h))
 ·exact .inl (.inr ⟨o,by unfold lZ;rw [h]⟩)
 ·exact .inr h
theorem Kv {B H:Hp} (s:aK B H):aK (lZ B H) H:=fun a o e=>by
 unfold lZ at e
 split at e
 ·rename_i xs h;rw [h];exact e
 ·rename_i b u h;rw [h];exact e
 ·exact s _ _ e
end
open Classical in
noncomputable def cM (x t p:Nat→Addr) (sl:Nat→Nat→Addr) (n m:Nat) (ex:Nat→Addr) (a:Addr):Nat :=
 if a=x 0 then 10 else if a=x 1 then 11 else if a=t 0 then 20 else if a=t 1 then 21 else if a=p 0 then 30 else if a=p 1 then 31
 else if ∃ j,j < n∧a=sl 0 j then 50 else if ∃ j,j < n∧a=sl 1 j then 51 else if h:∃ i,i < m∧a=ex i then 100+Classical.choose h else 0
structure Apart (x t p:Nat→Addr) (sl:Nat→Nat→Addr) (n m:Nat) (ex:Nat→Addr):Prop where
 nd:[x 0,x 1,t 0,t 1,p 0,p 1].Nodup
 s0:∀ j,j < n→sl 0 j ∉ [x 0,x 1,t 0,t 1,p 0,p 1]
 s1:∀ j,j < n→sl 1 j ∉ [x 0,x 1,t 0,t 1,p 0,p 1]
 ss:∀ i j,i < n→j < n→sl 1 i≠sl 0 j
 ei:∀ i j,i < m→j < m→ex i=ex j→i=j
 ea:∀ i,i < m→ex i ∉ [x 0,x 1,t 0,t 1,p 0,p 1]
 e0:∀ i,i < m→∀ j,j < n→ex i≠sl 0 j
 e1:∀ i,i < m→∀ j,j < n→ex i≠sl 1 j
def a8 {α:Type} (a b:α):Nat→α:=fun s=>if s=0 then a else b
theorem bP {q:Nat→Prop} (h0:q 0) (h1:q 1):∀ s,s < 2→q s:=fun s hs=>by
 match s,hs with
 | 0,_=>exact h0
 | 1,_=>exact h1
 | s+2,hs=>omega
section
variable {x t p:Nat→Addr} {sl:Nat→Nat→Addr} {n m:Nat} {ex:Nat→Addr}
theorem oW {a:Addr} (h1:a ∉ [x 0,x 1,t 0,t 1,p 0,p 1]) (h2:∀ j,j < n→a≠sl 0 j) (h3:∀ j,j < n→a≠sl 1 j) (h4:∀ i,i < m→a≠ex i):cM x t p sl n m ex a=0:=by
 simp only [List.mem_cons,List.not_mem_nil,or_false,not_or] at h1
 obtain ⟨a1,a2,a3,a4,a5,a6⟩:=h1
 unfold cM
 rw [if_neg a1,if_neg a2,if_neg a3,if_neg a4,if_neg a5,if_neg a6,if_neg (fun ⟨j,hj,e⟩=>h2 j hj e),if_neg (fun ⟨j,hj,e⟩=>h3 j hj e),dif_neg (fun ⟨j,hj,e⟩=>h4 j hj e)]
theorem Gk (h:Apart x t p sl n m ex):(∀ s,s < 2→cM x t p sl n m ex (x s)=10+s)∧(∀ s,s < 2→cM x t p sl n m ex (t s)=20+s)∧(∀ s,s < 2→cM x t p sl n m ex (p s)=30+s)∧(∀ s,s < 2→∀ j,j < n→cM x t p sl n m ex (sl s j)=50+s)∧(∀ i,i < m→cM x t p sl n m ex (ex i)=100+i):=by
 have nd:=h.nd
 simp only [List.nodup_cons,List.mem_cons,List.not_mem_nil,or_false,not_or,List.nodup_nil,and_true,not_false_eq_true] at nd
 obtain ⟨⟨a1,a2,a3,a4,a5⟩,⟨b1,b2,b3,b4⟩,⟨c1,c2,c3⟩,⟨d1,d2⟩,e1⟩:=nd
 refine ⟨bP ?_ ?_,bP ?_ ?_,bP ?_ ?_,bP ?_ ?_,?_⟩
 ·unfold cM;rw [if_pos rfl]
 ·unfold cM;rw [if_neg (Ne.symm a1),if_pos rfl]
 ·unfold cM;rw [if_neg (Ne.symm a2),if_neg (Ne.symm b1),if_pos rfl]
 ·unfold cM;rw [if_neg (Ne.symm a3),if_neg (Ne.symm b2),if_neg (Ne.symm c1),if_pos rfl]
 ·unfold cM;rw [if_neg (Ne.symm a4),if_neg (Ne.symm b3),if_neg (Ne.symm c2),if_neg (Ne.symm d1),if_pos rfl]
 ·unfold cM;rw [if_neg (Ne.symm a5),if_neg (Ne.symm b4),if_neg (Ne.symm c3),if_neg (Ne.symm d2),if_neg (Ne.symm e1),if_pos rfl]
 ·intro j hj
  have h1:=h.s0 j hj
  simp only [List.mem_cons,List.not_mem_nil,or_false,not_or] at h1
  obtain ⟨u1,u2,u3,u4,u5,u6⟩:=h1
  unfold cM
  rw [if_neg u1,if_neg u2,if_neg u3,if_neg u4,if_neg u5,if_neg u6,if_pos ⟨j,hj,rfl⟩]
 ·intro j hj
  have h1:=h.s1 j hj
  simp only [List.mem_cons,List.not_mem_nil,or_false,not_or] at h1
  obtain ⟨u1,u2,u3,u4,u5,u6⟩:=h1
  unfold cM
  rw [if_neg u1,if_neg u2,if_neg u3,if_neg u4,if_neg u5,if_neg u6,if_neg (fun ⟨i,hi,e⟩=>h.ss j i hj hi e),if_pos ⟨j,hj,rfl⟩]
 ·intro i hi
  have h1:=h.ea i hi
  simp only [List.mem_cons,List.not_mem_nil,or_false,not_or] at h1
  obtain ⟨u1,u2,u3,u4,u5,u6⟩:=h1
  have hx:∃ k,k < m∧ex i=ex k:=⟨i,hi,rfl⟩
  unfold cM
  rw [if_neg u1,if_neg u2,if_neg u3,if_neg u4,if_neg u5,if_neg u6,if_neg (fun ⟨j,hj,e⟩=>h.e0 i hi j hj e),if_neg (fun ⟨j,hj,e⟩=>h.e1 i hi j hj e),dif_pos hx]
  have:=Classical.choose_spec hx
  rw [← h.ei i _ hi this.1 this.2]
end
theorem St.start {Bv:BQ} {C:Addr} {H:Hp} {n m:Nat} {ex:Nat→Addr} {eo:Nat→HO} {x t p d:Nat→Addr} {sl:Nat→Nat→Addr} {L:Nat→Lk} (ap:Apart x t p sl n m ex) (lk:∀ s,s < 2→∃ B0,bS C B0 H (x s) (t s) (p s) (L s)) (le:∀ s,s < 2→(L s).ev=[]∧(L s).bT=[]∧(L s).p=none)
  (dl:∀ s,s < 2→H (d s)=some (.lst (bD n (sl s)))) (dz:∀ s,s < 2→cM x t p sl n m ex (d s)=0) (inj:∀ s,s < 2→∀ i j,i < n→j < n→sl s i=sl s j→i=j) (X1:∀ s,s < 2→∀ j,j < n→H (sl s j)=some (.lst [])) (ee:∀ i,i < m→H (ex i)=some (eo i)) (en:∀ i,i < m→sS (eo i)) :
  ∃ B,St Bv C B H n x t p d sl L (fun _ _=>[]) (cM x t p sl n m ex) m ex eo∧∀ a o,cM x t p sl n m ex a=0→H a=some o→B a=some o:=by
 obtain ⟨r1,r2,r3,r5,r6⟩:=Gk ap
 have no:∀ {a:Addr} {k:Nat},cM x t p sl n m ex a=k→k≠0→(fun a=>if cM x t p sl n m ex a=0 then H a else none) a=none:=fun {a k} e h=>by
  show (if cM x t p sl n m ex a=0 then H a else none)=none
  rw [if_neg (by rw [e];exact h)]
 have yes:∀ a o,cM x t p sl n m ex a=0→H a=some o→(fun a=>if cM x t p sl n m ex a=0 then H a else none) a=some o:=fun a o e h=>by
  show (if cM x t p sl n m ex a=0 then H a else none)=some o
  rw [if_pos e];exact h
 have sb:aK (fun a=>if cM x t p sl n m ex a=0 then H a else none) H:=fun a o e=>by
  by_cases z:cM x t p sl n m ex a=0
  ·have e:(if cM x t p sl n m ex a=0 then H a else none)=some o:=e
   rw [if_pos z] at e;exact e
  ·have e:(if cM x t p sl n m ex a=0 then H a else none)=some o:=e
   rw [if_neg z] at e;cases e
 refine ⟨fun a=>if cM x t p sl n m ex a=0 then H a else none,⟨sb,?_,?_,r1,r2,r3,r5,ee,fun i hi=>no (r6 i hi) (by omega),r6,en⟩,yes⟩
 ·intro s hs
  obtain ⟨B0,l⟩:=lk s hs
  obtain ⟨q1,q2,q3⟩:=le s hs
  obtain ⟨dx,pv,g,gp⟩:=l.at_
  obtain ⟨kX,g2,Au⟩:=l.told
  obtain ⟨gj,g3,xE⟩:=l.bT
  refine ⟨sb,no (r1 s hs) (by omega),no (r2 s hs) (by omega),no (r3 s hs) (by omega),⟨dx,pv,g,?_⟩,⟨kX,g2,fun y e he=>by rw [q1] at he;cases he⟩,⟨gj,g3,fun y e he=>by rw [q2] at he;cases he⟩,l.ne⟩
  rw [q3] at gp ⊢;exact gp
 ·intro s hs
  exact ⟨yes _ _ (dz s hs) (dl s hs),inj s hs,fun j hj=>⟨no (r5 s hs j hj) (by omega),fun _=>0,X1 s hs j hj,fun y r e=>by cases e⟩⟩
theorem mY {f:Nat→Addr} {s:Nat} (h:s < 2):qA [V.ref (f 0),V.ref (f 1)] (s:Int)=some (.ref (f s)):=by
 match s,h with
 | 0,_=>rfl
 | 1,_=>rfl
 | s+2,h=>omega
theorem NU {f:Nat→Int} {s:Nat} (h:s < 2):qA [V.int (f 0),V.int (f 1)] (s:Int)=some (.int (f s)):=by
 match s,h with
 | 0,_=>rfl
 | 1,_=>rfl
 | s+2,h=>omega
structure Ql (H0 H:Hp) (D:Addr) (sl:Nat→Addr) (n:Nat):Prop where
 sm:aK H0 H
 nD:H0 D=none
 at_:H D=some (.lst (bD n sl))
 em:∀ j,j < n→H (sl j)=some (.lst [])
 no:∀ j,j < n→H0 (sl j)=none
 nd:∀ j,j < n→sl j≠D
 inj:∀ i j,i < n→j < n→sl i=sl j→i=j
theorem Ql.step {H0 H:Hp} {D p:Addr} {sl:Nat→Addr} {n:Nat} (h:Ql H0 H D sl n) (hp:H p=none):Ql H0 (upd (upd H p (.lst [])) D (.lst (bD n sl ++ [.ref p]))) D (fun j=>if j=n then p else sl j) (n+1):=by
 have UN:D≠p:=aP h.at_ hp
 refine ⟨(h.sm.new hp).put h.nD,h.nD,by rw [aD,bq],fun j hj=>?_,fun j hj=>?_,fun j hj=>?_,fun i j hi hj e=>?_⟩
 ·by_cases z:j=n
  ·simp only [z,if_true]
   rw [aH (Ne.symm UN)];exact aD
  ·simp only [z,if_false]
   have Li:j < n:=by omega
   rw [aH (h.nd j Li),aH (aP (h.em j Li) hp)];exact h.em j Li
 ·by_cases z:j=n
  ·simp only [z,if_true];exact h.sm.free hp
  ·simp only [z,if_false];exact h.no j (by omega)
 ·by_cases z:j=n
  ·simp only [z,if_true];exact Ne.symm UN
  ·simp only [z,if_false];exact h.nd j (by omega)
 ·by_cases zi:i=n
  ·by_cases zj:j=n
   ·omega
   ·simp only [zi,zj,if_true,if_false] at e
    have Li:j < n:=by omega
    exact absurd e.symm (aP (h.em j Li) hp)
  ·by_cases zj:j=n
   ·simp only [zi,zj,if_true,if_false] at e
    have hi':i < n:=by omega
    exact absurd e (aP (h.em i hi') hp)
   ·simp only [zi,zj,if_false] at e
    exact h.inj i j (by omega) (by omega) e
def Eg:BQ:=fun _ v _=>v=.cB
theorem gG:fN Eg:=fun _ _ _ _ _ h=>h
def bA (L:Lk) (bs:List Cl):Lk:={ bW L bs with ev:=[] }
def aQ (rs:List Rw):List Cl:=rs.filterMap fun r=>if r.rd=true then some r.b else none
theorem ja {rs:List Rw} {x:Cl} (h:x ∈ aQ rs):∃ row ∈ rs,row.rd=true∧row.b=x:=by
 obtain ⟨y,hy,e⟩:=List.mem_filterMap.mp h
 split at e
 ·rename_i z;cases e;exact ⟨y,hy,z,rfl⟩
 ·cases e
def Qm (r:Rw):Cm:=(r.f,if r.rd=true then some r.b else none)
theorem Kw (rs:List Rw):cn (rs.map Qm)=aQ rs:=by
 unfold cn aQ
 rw [List.filterMap_map]
 rfl
theorem sU {rows:Nat→List Rw} {tick:Nat} {b:Cl}:∀ (fs:Ft) (j:Nat) (r:Rw),r ∈ gE rows tick b fs j→r ∈ rows j∨∃ d ∈ fs,j=tick+d.1.toNat∧r=de b d.2:=by
 intro fs
 induction fs generalizing rows with
 | nil=>intro j r h;exact .inl h
 | cons d rest ih =>
  intro j r h
  rcases ih (rows:=uB rows (tick+d.1.toNat) (de b d.2)) j r h with z | ⟨x,hx,z⟩
  ·have z:r ∈ (if j=tick+d.1.toNat then rows j ++ [de b d.2] else rows j):=z
   split at z
   ·rename_i e
    rcases List.mem_append.mp z with y | y
    ·exact .inl y
    ·exact .inr ⟨d,List.mem_cons_self,e,List.mem_singleton.mp y⟩
   ·exact .inl z
  ·exact .inr ⟨x,List.mem_cons_of_mem _ hx,z⟩
theorem eG.UR {G:Gh} {s:Nat} {a:Cl} {m n:Nat} (h:eG G s a m) (hm:m≤n):eG G s a n:=by
 obtain ⟨nc,cc,h1,h2,h3,h4,h5,h6,h7⟩:=h.ex
 exact ⟨⟨nc,cc,h1,h2,h3,h4,by omega,by omega,h7⟩,h.m⟩
theorem En.grow {r s:Nat} {β:Int} {G G':Gh} {L:Lk} (g:j6 r β G G') (hs:s≠r) (h:En G s L):En G' s L:=by
 have fr:∀ {P:Pr},oT G s P→oT G' s P:=fun {P} f=>⟨by rw [g.w];exact f.w,by rw [g.o s hs];exact f.o,by rw [g.k s hs];exact f.k,by rw [g.u s hs];exact f.u⟩
 exact ⟨h.sd,by rw [g.o s hs];exact h.o,by rw [g.k s hs];exact h.t,by rw [g.w,g.o s hs];exact h.p,by rw [g.w,g.o s hs];exact h.ow,fun z=>fr (h.dn z),by rw [g.u s hs];exact h.up,fun P hP=>fr (h.un P hP),by rw [g.u s hs];exact h.um⟩
structure xP (late:Int) (G:Gh) (L:Nat→Lk) (rows:Nat→Nat→List Rw):Prop where
 en:∀ s,s < 2→En G s (L s)
 rel:Rel G
 ag:∀ s,s < 2→∀ (j:Nat) (row:Rw),row ∈ rows (1 - s) j→∃ Ax:Nat,eG G s row.b Ax∧(Ax:Int)+j+1≤(L s).d+late
 bi:∀ s,s < 2→∀ (j:Nat) (row:Rw),row ∈ rows (1 - s) j→row.b.b≤(L s).b∧row.b.k≤(L (1 - s)).b
 kb:∀ s,s < 2→0≤(L (1 - s)).b∧(L s).k≤(L (1 - s)).b∧∀ P,G.U s P→BP s P≤(L (1 - s)).b
theorem Eh (L:Lk) (bs:List Cl):(bW L bs).d=L.d+1∧(bW L bs).s=L.s∧(bW L bs).q=L.q:=by
 have mt:∀ (L:Lk) (n:Int),(bC L n).d=L.d∧(bC L n).s=L.s∧(bC L n).q=L.q:=fun L n=>by
  unfold bC
  cases L.p with
  | none=>exact ⟨rfl,rfl,rfl⟩
  | some p=>simp only;split <;> exact ⟨rfl,rfl,rfl⟩
 have cm:∀ L:Lk,(bH L).d=L.d∧(bH L).s=L.s∧(bH L).q=L.q:=fun L=>by
  unfold bH
  cases L.p <;> exact ⟨rfl,rfl,rfl⟩
 have hr:∀ (L:Lk) (c:Int),(bF L c).d=L.d∧(bF L c).s=L.s∧(bF L c).q=L.q:=fun L c=>by unfold bF;split <;> exact ⟨rfl,rfl,rfl⟩
 have tk:∀ (L:Lk) (n:Int) (xs:List Int),(bV L n xs).d=L.d∧(bV L n xs).s=L.s∧(bV L n xs).q=L.q:=fun L n xs=>by unfold bV;split <;> exact ⟨rfl,rfl,rfl⟩
 have rd:∀ (L:Lk) (a:Cl),(ar L a).d=L.d∧(ar L a).s=L.s∧(ar L a).q=L.q:=fun L a=>by
  unfold ar
  split
  ·exact ⟨rfl,rfl,rfl⟩
  ·split
   ·obtain ⟨t1,t2,t3⟩:=tk (bF (bH (bC L a.b)) a.c) a.n a.xs
    obtain ⟨h1,h2,h3⟩:=hr (bH (bC L a.b)) a.c
    obtain ⟨c1,c2,c3⟩:=cm (bC L a.b)
    obtain ⟨m1,m2,m3⟩:=mt L a.b
    exact ⟨t1.trans (h1.trans (c1.trans m1)),t2.trans (h2.trans (c2.trans m2)),t3.trans (h3.trans (c3.trans m3))⟩
   ·exact mt L a.b
 have hd:∀ (bs:List Cl) (L:Lk),(aU L bs).d=L.d∧(aU L bs).s=L.s∧(aU L bs).q=L.q:=fun bs=>by
  induction bs with
  | nil=>intro L;exact ⟨rfl,rfl,rfl⟩
  | cons a r ih =>
   intro L
   obtain ⟨i1,i2,i3⟩:=ih (ar L a)
   obtain ⟨r1,r2,r3⟩:=rd L a
   exact ⟨i1.trans r1,i2.trans r2,i3.trans r3⟩
 have qt:∀ L:Lk,(bG L).d=L.d∧(bG L).s=L.s∧(bG L).q=L.q:=fun L=>by
  unfold bG
  split
  ·unfold gR
   cases L.p <;> exact ⟨rfl,rfl,rfl⟩
  ·exact ⟨rfl,rfl,rfl⟩
 obtain ⟨h1,h2,h3⟩:=hd bs L
 obtain ⟨q1,q2,q3⟩:=qt (fU (aU L bs) bs)
 refine ⟨?_,q2.trans h2,q3.trans h3⟩
 show (bG (fU (aU L bs) bs)).d+1=_
 rw [q1];show (aU L bs).d+1=_;rw [h1]
theorem xQ {B:Int}:∀ (bs:List Cl) (L:Lk),L.k≤B→(∀ a ∈ bs,a.b≤B)→(aU L bs).k≤B
 | [],_,h,_=>h
 | a :: r,L,h,hb=>by
  refine xQ r (ar L a) ?_ fun x hx=>hb x (List.mem_cons_of_mem _ hx)
  have h1:a.b≤B:=hb a List.mem_cons_self
  unfold ar
  split
  ·exact h
  ·split
   ·have t1:(bV (bF (bH (bC L a.b)) a.c) a.n a.xs).k=(bF (bH (bC L a.b)) a.c).k:=by unfold bV;split <;> rfl
    have t2:(bF (bH (bC L a.b)) a.c).k=(bH (bC L a.b)).k:=by unfold bF;split <;> rfl
    rw [t1,t2,(EV _).2,(t8 _ _).2];exact h1
   ·rw [(t8 _ _).2];exact h1
theorem C1 (L:Lk):((bG L).b=L.b∧(bG L).k=L.k)∨((bG L).b=L.b+1∧(bG L).k=0):=by
 unfold bG
 split
 ·right;unfold gR;cases L.p <;> exact ⟨rfl,rfl⟩
 ·exact .inl ⟨rfl,rfl⟩
theorem xP.step {late:Int} {G:Gh} {L:Nat→Lk} {rows:Nat→Nat→List Rw} {s T:Nat} {fs:Ft} (h:xP late G L rows) (hs:s < 2) (hd:(L s).d=(T:Int)) (ho:(L (1 - s)).d≤(T:Int)+1) (l6:late≤6) (hk:vD (L s)) (xM:∀ a ∈ aQ (rows s T),yC a.b) (IA:(L s).ev=[]) (gf:gS late fs) :
  ∃ G',xP late G' (at2 L s (bA (L s) (aQ (rows s T)))) (at2 rows (1 - s) (gE (rows (1 - s)) T (cO (bA (L s) (aQ (rows s T)))) fs))∧j6 s (L s).b G G'∧pb (G.W (1 - s)) (wt G s (L s)) (bW (L s) (aQ (rows s T))).ev (wt G' s (bA (L s) (aQ (rows s T)))):=by
 have ne:1 - s≠s:=by omega
 have vq:1 - s < 2:=by omega
 have Cw:1 - (1 - s)=s:=by omega
 have hc:∀ a ∈ aQ (rows s T),eG G (1 - s) a 8:=fun a ha=>by
  obtain ⟨row,q1,_,rfl⟩:=ja ha
  have:=h.ag (1 - s) vq T row
  rw [Cw] at this
  obtain ⟨Ax,c1,c2⟩:=this q1
  exact c1.UR (by omega)
 have Oq:∀ a ∈ aQ (rows s T),a.b≤(L (1 - s)).b∧a.k≤(L s).b:=fun a ha=>by
  obtain ⟨row,q1,_,rfl⟩:=ja ha
  have:=h.bi (1 - s) vq T row
  rw [Cw] at this
  exact this q1
 obtain ⟨G',n1,r1,g1,t1,b1,u1⟩:=(h.en s hs).tick (bs:=aQ (rows s T)) hs h.rel hk xM hc (fun a ha=>(Oq a ha).2) IA
 obtain ⟨kb1,kb2,kb3⟩:=h.kb s hs
 have hk1:=xQ (aQ (rows s T)) (L s) kb2 fun a ha=>(Oq a ha).1
 have kb':=h.kb (1 - s) vq
 rw [Cw] at kb'
 obtain ⟨kc1,kc2,kc3⟩:=kb'
 have lA:(L s).b≤(bA (L s) (aQ (rows s T))).b∧(bA (L s) (aQ (rows s T))).k≤(L (1 - s)).b:=by
  have hh:(fU (aU (L s) (aQ (rows s T))) (aQ (rows s T))).b=(L s).b:=b1
  have hh2:(fU (aU (L s) (aQ (rows s T))) (aQ (rows s T))).k≤(L (1 - s)).b:=hk1
  have e1:(bA (L s) (aQ (rows s T))).b=(bG (fU (aU (L s) (aQ (rows s T))) (aQ (rows s T)))).b:=rfl
  have e2:(bA (L s) (aQ (rows s T))).k=(bG (fU (aU (L s) (aQ (rows s T))) (aQ (rows s T)))).k:=rfl
  rw [e1,e2]
  rcases C1 (fU (aU (L s) (aQ (rows s T))) (aQ (rows s T))) with ⟨z1,z2⟩ | ⟨z1,z2⟩
  ·rw [z1,z2];exact ⟨by omega,hh2⟩
  ·rw [z1,z2];exact ⟨by omega,kb1⟩
 obtain ⟨td,ts,tq⟩:=Eh (L s) (aQ (rows s T))
 have dA:(bA (L s) (aQ (rows s T))).d=(T:Int)+1:=by show (bW (L s) (aQ (rows s T))).d=_;rw [td,hd]
 have nA:En G' s (bA (L s) (aQ (rows s T))):=n1
 refine ⟨G',⟨fun i hi=>?_,r1,fun i hi j row e8=>?_,fun i hi j row e8=>?_,fun i hi=>?_⟩,g1,t1⟩
 ·by_cases z:i=s
  ·rw [z,aL];exact nA
  ·rw [aS z];exact (h.en i hi).grow g1 z
 ·by_cases z:i=s
  ·subst z
   rw [aL] at e8
   rw [aL,dA]
   rcases sU fs j row e8 with y | ⟨d,BK,rfl,rfl⟩
   ·obtain ⟨Ax,c1,c2⟩:=h.ag i hi j row y
    obtain ⟨nc,cc,k1,k2,k3,k4,k5,k6,k7⟩:=c1.ex
    refine ⟨Ax+1,⟨⟨nc,cc,k1,k2,Nat.le_trans k3 (g1.om _),Nat.le_trans k4 (g1.km _),?_,?_,by rw [g1.w];exact k7⟩,by rw [g1.u (1 - i) ne];exact c1.m⟩,by omega⟩
    ·have a1:=(r1 i hi (pr i row.b.b row.b.k)).1
     have a2:=(h.rel i hi (pr i row.b.b row.b.k)).2.1
     rw [g1.k (1 - i) ne] at a1
     omega
    ·have a1:=(r1 (1 - i) vq (pr i row.b.b row.b.k)).2.1
     have a2:=(h.rel (1 - i) vq (pr i row.b.b row.b.k)).1
     rw [Cw] at a1 a2
     rw [g1.o (1 - i) ne] at a1
     omega
   ·generalize bA (L i) (aQ (rows i T))=LA at *
    have b1:=(gf.at_ d BK).1
    have b2:=(gf.at_ d BK).2.1
    refine ⟨0,⟨⟨G'.O i (pr i LA.b LA.k),G'.K i (pr i LA.b LA.k),nA.o,nA.t,Nat.le_refl _,Nat.le_refl _,Nat.le_refl _,Nat.le_refl _,?_⟩,fun P hP _=>by rw [g1.u (1 - i) ne] at hP;exact Int.le_trans (kc3 P hP) lA.1⟩,by omega⟩
    show LA.bT.headD []=[]∨(G'.W i (pr i LA.b LA.k))[G'.O i (pr i LA.b LA.k)]?=some (LA.bT.headD [])
    have hp:=nA.p
    cases e:LA.bT with
    | nil=>exact .inl rfl
    | cons x r =>
     right
     rw [e] at hp
     have:((G'.W i (pr i LA.b LA.k)).drop (G'.O i (pr i LA.b LA.k)))[0]?=some x:=by rw [← hp];rfl
     rw [List.getElem?_drop] at this
     exact this
  ·have ei:i=1 - s:=by omega
   subst ei
   rw [Cw] at e8
   rw [aS (by omega)] at e8
   rw [aS ne]
   have:=h.ag (1 - s) hi j row
   rw [Cw] at this
   obtain ⟨Ax,c1,c2⟩:=this e8
   have b2:=h.bi (1 - s) hi j row
   rw [Cw] at b2
   exact ⟨Ax,c1.grow g1 ne (by omega) (b2 e8).2,c2⟩
 ·by_cases z:i=s
  ·subst z
   rw [aL] at e8
   rw [aL,aS ne]
   rcases sU fs j row e8 with y | ⟨d,BK,rfl,rfl⟩
   ·obtain ⟨y1,y2⟩:=h.bi i hi j row y
    exact ⟨Int.le_trans y1 lA.1,y2⟩
   ·exact ⟨Int.le_refl _,lA.2⟩
  ·have ei:i=1 - s:=by omega
   subst ei
   rw [Cw] at e8
   rw [aS (by omega)] at e8
   rw [aS ne,Cw,aL]
   have b2:=h.bi (1 - s) hi j row
   rw [Cw] at b2
   exact ⟨(b2 e8).1,Int.le_trans (b2 e8).2 lA.1⟩
 ·by_cases z:i=s
  ·subst z
   rw [aL,aS ne]
   exact ⟨kb1,lA.2,fun P hP=>(u1 P hP).elim (kb3 P) fun y=>Int.le_trans y hk1⟩
  ·have ei:i=1 - s:=by omega
   subst ei
   rw [aS ne,Cw,aL,g1.u (1 - s) ne]
   exact ⟨Int.le_trans kc1 lA.1,Int.le_trans kc2 lA.1,fun P hP=>Int.le_trans (kc3 P hP) lA.1⟩
theorem xP.put {late:Int} {G:Gh} {L:Nat→Lk} {rows:Nat→Nat→List Rw} {s:Nat} {xs:List Int} (h:xP late G L rows) (hs:s < 2) (hu:(L s).p≠none) :
  xP late ⟨cx G.W s (pr s (L s).b (L s).k) (G.W s (pr s (L s).b (L s).k) ++ [xs]),G.O,G.K,G.U⟩ (at2 L s { L s with bT:=(L s).bT ++ [xs] }) rows:=by
 have n0:=h.en s hs
 have pk:∀ P,Unr s (L s) P→P≠pr s (L s).b (L s).k:=fun P hP y=>by
  rw [y] at hP
  rcases hP with w | ⟨_,w⟩
  ·rw [oS] at w;omega
  ·rw [t9] at w;omega
 have wl:∀ i P,(G.W i P).length≤(cx G.W s (pr s (L s).b (L s).k) (G.W s (pr s (L s).b (L s).k) ++ [xs]) i P).length:=fun i P=>by
  by_cases y:i=s∧P=pr s (L s).b (L s).k
  ·rw [y.1,y.2,bN,List.length_append];omega
  ·rw [b7 y];exact Nat.le_refl _
 have eb:∀ i,(at2 L s { L s with bT:=(L s).bT ++ [xs] } i).b=(L i).b∧(at2 L s { L s with bT:=(L s).bT ++ [xs] } i).k=(L i).k:=fun i=>by
  by_cases z:i=s
  ·rw [z,aL];exact ⟨rfl,rfl⟩
  ·rw [aS z];exact ⟨rfl,rfl⟩
 refine ⟨fun i hi=>?_,fun i hi P=>?_,fun i hi j row e8=>?_,fun i hi j row e8=>by rw [(eb _).1,(eb _).1];exact h.bi i hi j row e8,fun i hi=>by rw [(eb _).1,(eb _).2];exact h.kb i hi⟩
 ·by_cases z:i=s
  ·subst z
   rw [aL]
   refine ⟨n0.sd,n0.o,n0.t,?_,?_,fun y=>absurd y hu,n0.up,fun P hP=>?_,n0.um⟩
   ·show (L i).bT ++ [xs]=(cx G.W i (pr i (L i).b (L i).k) (G.W i (pr i (L i).b (L i).k) ++ [xs]) i (pr i (L i).b (L i).k)).drop (G.O i (pr i (L i).b (L i).k))
    rw [bN,List.drop_append_of_le_length n0.ow,n0.p]
   ·exact Nat.le_trans n0.ow (wl i _)
   ·have f:=n0.un P hP
    exact ⟨by show cx G.W i (pr i (L i).b (L i).k) _ i P=[];rw [b7 (fun y=>pk P hP y.2)];exact f.w,f.o,f.k,f.u⟩
  ·rw [aS z]
   have n1:=h.en i hi
   have we:∀ P,cx G.W s (pr s (L s).b (L s).k) (G.W s (pr s (L s).b (L s).k) ++ [xs]) i P=G.W i P:=fun P=>b7 fun y=>z y.1
   have fr:∀ {P:Pr},oT G i P→oT ⟨cx G.W s (pr s (L s).b (L s).k) (G.W s (pr s (L s).b (L s).k) ++ [xs]),G.O,G.K,G.U⟩ i P:=fun {P} f=>⟨(we P).trans f.w,f.o,f.k,f.u⟩
   exact ⟨n1.sd,n1.o,n1.t,by show _=(cx G.W s _ _ i _).drop _;rw [we];exact n1.p,by show _≤(cx G.W s _ _ i _).length;rw [we];exact n1.ow,fun y=>fr (n1.dn y),n1.up,fun P hP=>fr (n1.un P hP),n1.um⟩
 ·obtain ⟨r1,r2,r3⟩:=h.rel i hi P
  exact ⟨r1,r2,Nat.le_trans r3 (wl i P)⟩
 ·obtain ⟨Ax,c1,c2⟩:=h.ag i hi j row e8
  obtain ⟨nc,cc,k1,k2,k3,k4,k5,k6,k7⟩:=c1.ex
  refine ⟨Ax,⟨⟨nc,cc,k1,k2,k3,k4,k5,k6,k7.imp id fun y=>?_⟩,c1.m⟩,?_⟩
  ·show (cx G.W s (pr s (L s).b (L s).k) (G.W s (pr s (L s).b (L s).k) ++ [xs]) i (pr i row.b.b row.b.k))[nc]?=some row.b.xs
   by_cases z:i=s∧pr i row.b.b row.b.k=pr s (L s).b (L s).k
   ·obtain ⟨z1,z2⟩:=z
    rw [z2,z1] at y ⊢
    rw [bN,List.getElem?_append_left (List.getElem?_eq_some_iff.mp y).1];exact y
   ·rw [b7 z];exact y
  ·by_cases z:i=s
   ·subst z;rw [aL];exact c2
   ·rw [aS z];exact c2
theorem xP.start {late q:Int}:xP late ⟨fun _ _=>[],fun _ _=>0,fun _ _=>0,fun _ _=>False⟩ (a8 (nZ q 0) (nZ q 1)) (fun _ _=>[]):=by
 have fr:∀ s P,oT ⟨fun _ _=>[],fun _ _=>0,fun _ _=>0,fun _ _=>False⟩ s P:=fun s P=>⟨rfl,rfl,rfl,id⟩
 refine ⟨bP (fM rfl (fr _ _) rfl rfl rfl rfl (fun P _=>fr _ P) fun P h=>h.elim) (fM rfl (fr _ _) rfl rfl rfl rfl (fun P _=>fr _ P) fun P h=>h.elim),fun s hs P=>⟨Nat.le_refl _,Nat.zero_le _,Nat.le_refl _⟩,fun s hs j row h=>(by cases h),fun s hs j row h=>(by cases h),bP ⟨Int.zero_le_ofNat 1,Int.zero_le_ofNat 1,fun P h=>h.elim⟩ ⟨Int.zero_le_ofNat 1,Int.zero_le_ofNat 1,fun P h=>h.elim⟩⟩
def iT:Sp:=fun vs H Q _=>∃ (c:Int) (m:Nat),vs=[.int c,.int (m:Int)]∧m≤100∧∀ (r:Addr) (H':Hp) (ns:List Int),aK H H'→H r=none→H' r=some (.lst (ns.map V.int))→ns.length=m→(∀ n ∈ ns,0≤n)→Q (.ref r) H'
theorem cX:aV ["cell","many","told","left","k","stir"] ["cell","many"] (aI fh):=⟨rfl,rfl,rfl,by decide +kernel,rfl,by decide +kernel,by decide +kernel⟩
theorem vS (F:aT K mg "_law_numbers" fh) (T:Txt K mg t):Def P w K mg base 1 "_law_numbers" ["cell","many"] iT:=by
 refine F.def cX (fun _ _ _ _ _ _ us hl=>match us,hl with | [_,_],_=>rfl) (fun vs H Q E h=>?_) (fun f bw A outer s H vs Q E hr h=>?_)
 ·obtain ⟨c,m,rfl,_⟩:=h
  rfl
 ·obtain ⟨c,m,rfl,hm,q⟩:=h
  refine ⟨_,aE (aX (i:=2) cX.nd rfl (Or.inl rfl) (bI aF))
   (aE (aX (i:=3) cX.nd rfl (Or.inl rfl) (pv 0))
   (aE (PS.rS (cP PassesOwn.never rfl (bo (by rfl) T.cI (aC (pv 1) aF)) (aw (i:=4) cX.nd rfl (Or.inl rfl))
    (aJ (bO (aZ JS (pv 3) (aM PU aG aG) (af _))
     (aE (av (eg K PySem.F.plainAttrs_list PySem.F.slot_list_append PySem.F.type_list_append bZ (pv 2) (aC (aM ay (pv 3) aG) aF)))
     (aJ (aX (i:=3) cX.nd rfl (Or.inl rfl) (aM cF (pv 3) aG))))
     (aE (aX (i:=5) cX.nd rfl (Or.inl rfl) (aM ay (aM cE (aM az (aM az (aM ay (pv 0) aG) (aM cE aG (pv 4))) aG) aG) aG))
     (aJ (av (eg K PySem.F.plainAttrs_list PySem.F.slot_list_append PySem.F.type_list_append bZ (pv 2) (aC (aM cF (aM ay (aM cE (pv 5) (pv 5)) aG) aG) aF)))))))))
   (aJ (ai (pv 2))))),?_⟩
  have pf:(2000:Nat)≤sizeLine:=by decide
  refine ⟨zz0,fun L hL=>?_⟩
  refine ⟨_,rfl,?_⟩
  refine ⟨_,rfl,(m:Int),rfl,by omega,by omega,?_⟩
  rw [Int.toNat_natCast]
  refine cS (lo:=0) (n:=m) (fun i σ H2=>∃ (left:Int) (ns:List Int) (v4 v5:Option V),σ=[some (.int c),some (.int (m:Int)),some (.ref L),some (.int left),v4,v5]∧aK H H2∧H2 L=some (.lst (ns.map V.int))∧ns.length=i∧∀ n ∈ ns,0≤n)
   ⟨c,[],none,none,rfl,(aK.refl _).new hL,aD,rfl,fun n hn=>by cases hn⟩ ?_ ?_
  ·rintro i σ H2 hi ⟨left,ns,v4,v5,rfl,s2,h2,hl,hn⟩
   have push:∀ (x:Int),0≤x→(aK H (upd H2 L (.lst (ns.map V.int ++ [V.int x])))∧(upd H2 L (.lst (ns.map V.int ++ [V.int x]))) L=some (.lst ((ns ++ [x]).map V.int))∧(ns ++ [x]).length=i+1∧∀ n ∈ ns ++ [x],0≤n):=fun x hx=>⟨s2.put hL,by rw [aD,List.map_append];rfl,by rw [List.length_append,hl];rfl,fun n RN=>by
    rcases List.mem_append.mp RN with h | h
    ·exact hn n h
    ·rw [List.mem_singleton] at h;rw [h];exact hx⟩
   refine ⟨_,rfl,_,_,rfl,rfl,⟨by decide,by decide,by decide⟩,_,_,rfl,rfl,_,rfl,?_⟩
   refine Px (fun h=>?_) (fun h=>?_)
   ·refine ⟨_,rfl,.inl ⟨rfl,_,ae.of h2⟩,_,rfl,_,_,rfl,rfl,(by show (0:Int) < 1000003;decide),L,_,_,rfl,rfl,h2,by rw [List.length_map];omega,?_⟩
    refine ⟨_,rfl,_,_,rfl,rfl,⟨by decide,by decide⟩,?_⟩
    exact ⟨_,_,_,_,rfl,push _ (Int.emod_nonneg _ (by decide))⟩
   ·refine ⟨_,rfl,_,_,rfl,rfl,(by show (0:Int) < 2147483647;decide),_,rfl,_,_,rfl,rfl,.inl ⟨by decide,by decide⟩,_,_,rfl,rfl,_,_,rfl,rfl,_,_,rfl,rfl,.inr ⟨by decide,by decide⟩,_,_,rfl,rfl,(by show (0:Int) < 2147483647;decide),?_⟩
    generalize hN:(c % 2147483647+7919 * (0+(i:Nat))+1) * 69621 % 2147483647=N
    have hN1:0≤N:=by rw [← hN];exact Int.emod_nonneg _ (by decide)
    have Zr:N < 2147483647:=by rw [← hN];exact Int.emod_lt_of_pos _ (by decide)
    refine ⟨_,rfl,.inl ⟨rfl,_,ae.of h2⟩,_,rfl,_,rfl,_,_,rfl,rfl,.inl ⟨by omega,by omega⟩,_,_,rfl,rfl,(by show (0:Int) < 998244353;decide),_,_,rfl,rfl,⟨by decide,by decide⟩,L,_,_,rfl,rfl,h2,by rw [List.length_map];omega,?_⟩
    exact ⟨_,_,_,_,rfl,push _ (Int.ediv_nonneg (Int.emod_nonneg _ (by decide)) (by decide))⟩
  ·rintro σ H2 ⟨left,ns,v4,v5,rfl,s2,h2,hl,hn⟩
   exact ⟨_,rfl,q L H2 ns s2 hL h2 hl hn⟩
def mZ (K:PySem.W.Frag):Sp:=fun vs H Q _=>∃ (l:Addr) (ns:List Int) (k:Int),vs=[.ref l,.int k]∧ae K H l (ns.map V.int)∧0≤k∧∀ c:Int,Q (.int c) H
theorem A1:aV ["script","k"] ["script","k"] (aI kK):=⟨rfl,rfl,rfl,by decide +kernel,rfl,by decide +kernel,by decide +kernel⟩
theorem A2 (F:aT K mg "_law_cell" kK) (T:Txt K mg t):Def P w K mg base 1 "_law_cell" ["script","k"] (mZ K):=by
 refine F.def A1 (fun _ _ _ _ _ _ us hl=>match us,hl with | [_,_],_=>rfl) (fun vs H Q E h=>?_) (fun f bw A outer s H vs Q E hr h=>?_)
 ·obtain ⟨l,ns,k,rfl,_⟩:=h
  rfl
 ·obtain ⟨l,ns,k,rfl,hl,k0,q⟩:=h
  refine ⟨_,aE (bO (aZ jJ (pv 1) (bR (bM K) (by rfl) T.f6 boot_len (aC (pv 0) aF)) (af _))
    (aJ (ai (aj (aR K) (pv 0) (pv 1) (fun _ _=>rfl))))
    (aq))
   (aJ (ai aG)),?_⟩
  refine ⟨_,rfl,_,rfl,l,_,rfl,.inl hl,_,_,rfl,rfl,_,rfl,?_⟩
  by_cases z:k < ((ns.map V.int).length:Nat)
  ·refine dX z ?_
   rw [List.length_map] at z
   obtain ⟨j,rfl⟩:∃ j:Nat,k=j:=⟨k.toNat,by omega⟩
   have hj:j < ns.length:=by omega
   exact ⟨_,rfl,_,rfl,l,_,_,V.int ns[j],rfl,rfl,hl,fX (by simp [hj]),q _⟩
  ·exact dE z (q 0)
theorem xP.cell {late:Int} {G:Gh} {L:Nat→Lk} {rows:Nat→Nat→List Rw} {s:Nat} (h:xP late G L rows) (hs:s < 2):eG G s (cO (L s)) 0:=by
 have nA:=h.en s hs
 have kb:=h.kb (1 - s) (by omega)
 rw [show 1 - (1 - s)=s by omega] at kb
 refine ⟨⟨G.O s (pr s (L s).b (L s).k),G.K s (pr s (L s).b (L s).k),nA.o,nA.t,Nat.le_refl _,Nat.le_refl _,Nat.le_refl _,Nat.le_refl _,?_⟩,fun P hP _=>kb.2.2 P hP⟩
 show (L s).bT.headD []=[]∨(G.W s (pr s (L s).b (L s).k))[G.O s (pr s (L s).b (L s).k)]?=some ((L s).bT.headD [])
 have hp:=nA.p
 cases e:(L s).bT with
 | nil=>exact .inl rfl
 | cons x r =>
  right
  rw [e] at hp
  have:((G.W s (pr s (L s).b (L s).k)).drop (G.O s (pr s (L s).b (L s).k)))[0]?=some x:=by rw [← hp];rfl
  rw [List.getElem?_drop] at this
  exact this
def nh (G:Gh) (s:Nat) (P:Pr) (Lm:List (List Int)):Gh:=⟨cx G.W s P (G.W s P ++ Lm),G.O,G.K,G.U⟩
theorem eG.put {G:Gh} {s i Ax:Nat} {a:Cl} {P:Pr} {Lm:List (List Int)} (c:eG G s a Ax):eG (nh G i P Lm) s a Ax:=by
 obtain ⟨nc,cc,k1,k2,k3,k4,k5,k6,k7⟩:=c.ex
 refine ⟨⟨nc,cc,k1,k2,k3,k4,k5,k6,k7.imp id fun y=>?_⟩,c.m⟩
 show (cx G.W i P (G.W i P ++ Lm) s (pr s a.b a.k))[nc]?=some a.xs
 by_cases z:s=i∧pr s a.b a.k=P
 ·obtain ⟨z1,z2⟩:=z
  rw [z2,z1] at y ⊢
  rw [bN,List.getElem?_append_left (List.getElem?_eq_some_iff.mp y).1];exact y
 ·rw [b7 z];exact y
theorem xP.give {late:Int} {G:Gh} {L:Nat→Lk} {rows:Nat→Nat→List Rw} {s T:Nat} {a:Cl} {fs:Ft} (h:xP late G L rows) (hs:s < 2) (hd:(L s).d=(T:Int)+1) (c:eG G s a 0) (hb:a.b≤(L s).b) (hk:a.k≤(L (1 - s)).b) (gf:gS late fs):xP late G L (at2 rows (1 - s) (gE (rows (1 - s)) T a fs)):=by
 refine ⟨h.en,h.rel,fun i hi j row e8=>?_,fun i hi j row e8=>?_,h.kb⟩
 ·by_cases z:i=s
  ·subst z
   rw [aL] at e8
   rcases sU fs j row e8 with y | ⟨d,BK,rfl,rfl⟩
   ·exact h.ag i hi j row y
   ·have b1:=(gf.at_ d BK).1
    have b2:=(gf.at_ d BK).2.1
    exact ⟨0,c,by omega⟩
  ·rw [aS (by omega)] at e8;exact h.ag i hi j row e8
 ·by_cases z:i=s
  ·subst z
   rw [aL] at e8
   rcases sU fs j row e8 with y | ⟨d,BK,rfl,rfl⟩
   ·exact h.bi i hi j row y
   ·exact ⟨hb,hk⟩
  ·rw [aS (by omega)] at e8;exact h.bi i hi j row e8
theorem sV {α:Type} {f:Nat→α} {s:Nat}:at2 f s (f s)=f:=funext fun i=>by
 by_cases z:i=s
 ·rw [z,aL]
 ·rw [aS z]
theorem vt {α:Type} {f:Nat→α} {s:Nat} {u v:α}:at2 (at2 f s u) s v=at2 f s v:=funext fun i=>by
 by_cases z:i=s
 ·rw [z,aL,aL]
 ·rw [aS z,aS z,aS z]
theorem Kx {α:Type} {f:Nat→Pr→α} {s:Nat} {P:Pr} {u v:α}:cx (cx f s P u) s P v=cx f s P v:=funext fun i=>funext fun Q=>by
 by_cases z:i=s∧Q=P
 ·rw [z.1,z.2,bN,bN]
 ·rw [b7 z,b7 z,b7 z]
theorem IV {α:Type} {f:Nat→Pr→α} {s:Nat} {P:Pr}:cx f s P (f s P)=f:=funext fun i=>funext fun Q=>by
 by_cases z:i=s∧Q=P
 ·rw [z.1,z.2,bN]
 ·rw [b7 z]
theorem xP.Qn {late:Int} {rows:Nat→Nat→List Rw} {s:Nat} (hs:s < 2):∀ (Lm:List (List Int)) (G:Gh) (L:Nat→Lk),xP late G L rows→(L s).p≠none→xP late (nh G s (pr s (L s).b (L s).k) Lm) (at2 L s { L s with bT:=(L s).bT ++ Lm }) rows
 | [],G,L,h,_=>by
  have e1:nh G s (pr s (L s).b (L s).k) []=G:=by unfold nh;rw [List.append_nil,IV]
  have e2:({ L s with bT:=(L s).bT ++ [] }:Lk)=L s:=by rw [List.append_nil]
  rw [e1,e2,sV];exact h
 | xs :: r,G,L,h,hu=>by
  have h1:=xP.Qn hs r _ _ (h.put (xs:=xs) hs hu) (by rw [aL];exact hu)
  rw [aL,vt] at h1
  have e1:nh ⟨cx G.W s (pr s (L s).b (L s).k) (G.W s (pr s (L s).b (L s).k) ++ [xs]),G.O,G.K,G.U⟩ s (pr s (L s).b (L s).k) r=nh G s (pr s (L s).b (L s).k) (xs :: r):=by
   unfold nh
   simp only [bN,Kx,List.append_assoc,List.singleton_append]
  have e2:({ L s with bT:=((L s).bT ++ [xs]) ++ r }:Lk)={ L s with bT:=(L s).bT ++ xs :: r }:=by rw [List.append_assoc];rfl
  have h2:xP late (nh ⟨cx G.W s (pr s (L s).b (L s).k) (G.W s (pr s (L s).b (L s).k) ++ [xs]),G.O,G.K,G.U⟩ s (pr s (L s).b (L s).k) r) (at2 L s { L s with bT:=((L s).bT ++ [xs]) ++ r }) rows:=h1
  rw [e1,e2] at h2
  exact h2
def nT (b:Wt):Ev→Wt
 | .mk w x _=>if w=("up":Str) then ⟨some x,b.k,fun P=>P=x∨b.u P⟩ else ⟨none,b.k,b.u⟩
 | .took _=>match b.p with
  | none=>b
  | some x=>⟨b.p,fun P=>if P=x then b.k x+1 else b.k P,b.u⟩
def Ln (A:Wt) (es:List Ev):Wt:=es.foldl nT A
theorem sW (A:Wt) (es:List Ev) (e:Ev):Ln A (es ++ [e])=nT (Ln A es) e:=by unfold Ln;rw [List.foldl_append];rfl
def OkE (W:Pr→List (List Int)) (b:Wt):Ev→Prop
 | .mk w x _=>(w=("up":Str)∧b.p=none∧¬ b.u x∧(∀ P,b.u P→P.1≤x.1∧P.2≤x.2)∧b.k x=0)∨(w≠("up":Str)∧w≠("took":Str)∧b.p=some x)
 | .took xs=>∃ x,b.p=some x∧(W x)[b.k x]?=some xs
def NV (W:Pr→List (List Int)) (A:Wt) (es:List Ev):Prop:=∀ (i:Nat) (e:Ev),es[i]?=some e→OkE W (Ln A (es.take i)) e
theorem NV.snoc {W:Pr→List (List Int)} {A:Wt} {es:List Ev} {e:Ev} (h:NV W A es) (h1:OkE W (Ln A es) e):NV W A (es ++ [e]):=by
 intro i x hx
 by_cases z:i < es.length
 ·rw [List.getElem?_append_left z] at hx
  rw [List.take_append_of_le_length (by omega)]
  exact h i x hx
 ·have eU:i < (es ++ [e]).length:=(List.getElem?_eq_some_iff.mp hx).1
  rw [List.length_append] at eU
  have ei:i=es.length:=by simp at eU;omega
  rw [ei,List.getElem?_append_right (Nat.le_refl _),Nat.sub_self] at hx
  cases hx
  rw [ei,List.take_left']
  ·exact h1
  ·rfl
theorem pb.ok {W:Pr→List (List Int)} {A Z:Wt} {es:List Ev} (h:pb W A es Z):NV W A es∧Ln A es=Z:=by
 induction h with
 | nil=>exact ⟨fun i e he=>(by cases he),rfl⟩
 | up h hp hu hm hz ih =>
  obtain ⟨i1,i2⟩:=ih
  refine ⟨i1.snoc (by rw [i2];exact .inl ⟨rfl,hp,hu,hm,hz⟩),?_⟩
  rw [sW,i2];unfold nT;simp only;exact if_pos trivial
 | anew h hp ih =>
  obtain ⟨i1,i2⟩:=ih
  refine ⟨i1.snoc (by rw [i2];exact .inr ⟨by decide,by decide,hp⟩),?_⟩
  rw [sW,i2];unfold nT;simp only;rw [if_neg (by decide)]
 | dr h hp ih =>
  obtain ⟨i1,i2⟩:=ih
  refine ⟨i1.snoc (by rw [i2];exact .inr ⟨by decide,by decide,hp⟩),?_⟩
  rw [sW,i2];unfold nT;simp only;rw [if_neg (by decide)]
 | took h hp hw ih =>
  obtain ⟨i1,i2⟩:=ih
  refine ⟨i1.snoc (by rw [i2];exact ⟨_,hp,hw⟩),?_⟩
  rw [sW,i2];unfold nT;simp only;rw [hp]
structure Sx (Bv:BQ) (C:Addr) (B H E:Hp) (n:Nat) (x tA pA d:Nat→Addr) (sl:Nat→Nat→Addr) (L:Nat→Lk) (rows:Nat→Nat→List Rw) (ρ:Addr→Nat):Prop where
 sb:aK B H
 lk:∀ s,s < 2→bS C B H (x s) (tA s) (pA s) (L s)
 cg:∀ s,s < 2→Cg Bv B H (d s) (sl s) n (rows s)
 rx:∀ s,s < 2→ρ (x s)=10+s
 rt:∀ s,s < 2→ρ (tA s)=20+s
 rp:∀ s,s < 2→ρ (pA s)=30+s
 rs:∀ s,s < 2→∀ j,j < n→ρ (sl s j)=50+s
 ee:aK E H
 eb:∀ a,E a≠none→B a=none
 er:∀ a,E a≠none→ρ a=100
 en:∀ a o,E a=some o→sS o
section
variable {Bv:BQ} {C:Addr} {B H B' H' E E':Hp} {n:Nat} {x tA pA d:Nat→Addr} {sl:Nat→Nat→Addr} {L:Nat→Lk} {rows:Nat→Nat→List Rw} {ρ:Addr→Nat} {s:Nat}
theorem Sx.he (h:Sx Bv C B H E n x tA pA d sl L rows ρ) {a:Addr} (hi:E a≠none):H a≠none:=fun z=>hi (h.ee.free z)
theorem Sx.same (mb:fN Bv) (h:Sx Bv C B H E n x tA pA d sl L rows ρ) (e:aK H H'):Sx Bv C B H' E n x tA pA d sl L rows ρ :=
 ⟨h.sb.trans e,fun s hs=>(h.lk s hs).same e,fun s hs=>(h.cg s hs).mv mb (aK.refl _) (fun _ _ z=>z) fun j _ o g=>e _ _ g,h.rx,h.rt,h.rp,h.rs,h.ee.trans e,h.eb,h.er,h.en⟩
theorem Sx.Vu (mb:fN Bv) {tB pB:Addr} {L':Lk} (h:Sx Bv C B H E n x tA pA d sl L rows ρ) (hs:s < 2) (mv:jF B H B' H' (x s) (tA s) (pA s) tB pB) (hl:bS C B' H' (x s) tB pB L') :
  ∃ ρ',Sx Bv C B' H' E n x (at2 tA s tB) (at2 pA s pB) d sl (at2 L s L') rows ρ'∧∀ a,a≠tB→a≠pB→ρ' a=ρ a:=by
 have old:∀ {a:Addr} {i:Nat},ρ a=i→i≠10+s→i≠20+s→i≠30+s→∀ o,H a=some o→H' a=some o:=fun {a i} e n1 n2 n3 o g=>mv.k a o (dS e (h.rx s hs) n1) (dS e (h.rt s hs) n2) (dS e (h.rp s hs) n3) g
 have nt:∀ {a:Addr} {i:Nat},ρ a=i→i≠20+s→H a≠none→a≠tB:=fun {a i} e n1 g z=>by
  rcases mv.t with y | y
  ·exact dS e (h.rt s hs) n1 (z.trans y)
  ·exact g (by rw [z];exact y)
 have np:∀ {a:Addr} {i:Nat},ρ a=i→i≠30+s→H a≠none→a≠pB:=fun {a i} e n1 g z=>by
  rcases mv.p with y | y
  ·exact dS e (h.rp s hs) n1 (z.trans y)
  ·exact g (by rw [z];exact y)
 have rr:∀ {a:Addr} {i:Nat},ρ a=i→i≠20+s→i≠30+s→H a≠none→(fun b=>if b=tB then 20+s else if b=pB then 30+s else ρ b) a=i:=fun {a i} e n1 n2 g=>by
  show (if a=tB then 20+s else if a=pB then 30+s else ρ a)=i
  rw [if_neg (nt e n1 g),if_neg (np e n2 g)];exact e
 refine ⟨fun b=>if b=tB then 20+s else if b=pB then 30+s else ρ b,⟨hl.sb,?_,?_,?_,?_,?_,?_,fun a o e=>old (h.er a (by rw [e];exact fun z=>by cases z)) (by omega) (by omega) (by omega) _ (h.ee _ _ e),fun a hi=>mv.no _ (h.he hi) (h.eb a hi),fun a hi=>rr (h.er a hi) (by omega) (by omega) (h.he hi),h.en⟩,fun a h1 h2=>by show (if a=tB then 20+s else if a=pB then 30+s else ρ a)=ρ a;rw [if_neg h1,if_neg h2]⟩
 ·intro i hi
  by_cases z:i=s
  ·subst z;rw [aL,aL,aL];exact hl
  ·rw [aS z,aS z,aS z]
   exact (h.lk i hi).mv hl.sb mv.bb mv.no (old (h.rx i hi) (by omega) (by omega) (by omega)) (old (h.rt i hi) (by omega) (by omega) (by omega)) (old (h.rp i hi) (by omega) (by omega) (by omega))
 ·intro i hi
  exact (h.cg i hi).mv mb mv.bb mv.no fun j hj=>old (h.rs i hi j hj) (by omega) (by omega) (by omega)
 ·intro i hi
  exact rr (h.rx i hi) (by omega) (by omega) (h.lk i hi).hx
 ·intro i hi
  by_cases z:i=s
  ·subst z;rw [aL];exact if_pos rfl
  ·rw [aS z];exact rr (h.rt i hi) (by omega) (by omega) (h.lk i hi).ht
 ·intro i hi
  by_cases z:i=s
  ·subst z
   rw [aL]
   show (if pB=tB then 20+i else if pB=pB then 30+i else ρ pB)=_
   rw [if_neg (Ne.symm hl.ne),if_pos rfl]
  ·rw [aS z];exact rr (h.rp i hi) (by omega) (by omega) (h.lk i hi).hp
 ·intro i hi j hj
  exact rr (h.rs i hi j hj) (by omega) (by omega) ((h.cg i hi).at_ j hj).val
theorem Sx.gv (mb:fN Bv) {ra:Nat→List Rw} (h:Sx Bv C B H E n x tA pA d sl L rows ρ) (hs:s < 2) (g:Gv B H B' H' (sl s) n) (c:Cg Bv B' H' (d s) (sl s) n ra):Sx Bv C B' H' E n x tA pA d sl L (at2 rows s ra) ρ:=by
 have old:∀ {a:Addr} {i:Nat},ρ a=i→i≠50+s→∀ o,H a=some o→H' a=some o:=fun {a i} e n1 o q=>g.fr a o (fun j hj=>dS e (h.rs s hs j hj) n1) q
 refine ⟨g.bh,?_,?_,h.rx,h.rt,h.rp,h.rs,fun a o e=>old (h.er a (by rw [e];exact fun z=>by cases z)) (by omega) _ (h.ee _ _ e),fun a hi=>g.no _ (h.he hi) (h.eb a hi),h.er,h.en⟩
 ·intro i hi
  exact (h.lk i hi).mv g.bh g.bb g.no (old (h.rx i hi) (by omega)) (old (h.rt i hi) (by omega)) (old (h.rp i hi) (by omega))
 ·intro i hi
  by_cases z:i=s
  ·subst z;rw [aL];exact c
  ·rw [aS z]
   exact (h.cg i hi).mv mb g.bb g.no fun j hj=>old (h.rs i hi j hj) (by omega)
theorem Sx.grow (mb:fN Bv) {a:Addr} {o:HO} (h:Sx Bv C B H E n x tA pA d sl L rows ρ) (s:aK H H') (na:H a=none) (ea:H' a=some o) :
  Sx Bv C (upd B a o) H' E n x tA pA d sl L rows ρ∧aK B (upd B a o):=by
 have h1:=h.same mb s
 have sB:aK B (upd B a o):=(aK.refl _).new (h.sb.free na)
 have no:∀ b,H b≠none→B b=none→(upd B a o) b=none:=fun b hb e=>by rw [aH (fun z=>hb (by rw [z];exact na))];exact e
 have Gi:aK (upd B a o) H':=fun b u e=>by
  by_cases z:b=a
  ·rw [z] at e ⊢;rw [aD] at e;rw [ea];exact e
  ·rw [aH z] at e;exact h1.sb _ _ e
 exact ⟨⟨Gi,fun i hi=>(h.lk i hi).mv Gi sB no (fun o e=>s _ _ e) (fun o e=>s _ _ e) (fun o e=>s _ _ e),fun i hi=>(h.cg i hi).mv mb sB no fun j _ o e=>s _ _ e,h.rx,h.rt,h.rp,h.rs,h1.ee,fun a hi=>no _ (h.he hi) (h.eb a hi),h.er,h.en⟩,sB⟩
theorem Sx.chg (mb:fN Bv) (h:Sx Bv C B H E n x tA pA d sl L rows ρ) (fr:∀ a o,E a=none→H a=some o→H' a=some o) (X0:aK E' H') (nw:∀ a,E' a≠none→E a≠none∨H a=none) (Kt:∀ a o,E' a=some o→sS o):∃ ρ',Sx Bv C B H' E' n x tA pA d sl L rows ρ':=by
 classical
 have ez:∀ {b:Addr} {k:Nat},ρ b=k→k < 100→E b=none:=fun {b k} q n1=>Classical.byContradiction fun z=>by have:=h.er b z;omega
 have old:∀ {b:Addr} {k:Nat},ρ b=k→k < 100→∀ u,H b=some u→H' b=some u:=fun {b k} q n1 u g=>fr b u (ez q n1) g
 have Gi:aK B H':=fun a o e=>fr a o (Classical.byContradiction fun z=>by rw [h.eb a z] at e;cases e) (h.sb _ _ e)
 have rr:∀ {b:Addr} {k:Nat},ρ b=k→k < 100→H b≠none→(if E' b≠none then 100 else ρ b)=k:=fun {b k} q n1 hb=>by
  rw [if_neg (fun z=>(nw b z).elim (fun y=>y (ez q n1)) hb)];exact q
 exact ⟨fun a=>if E' a≠none then 100 else ρ a,Gi,fun i hi=>(h.lk i hi).mv Gi (aK.refl _) (fun _ _ z=>z) (old (h.rx i hi) (by omega)) (old (h.rt i hi) (by omega)) (old (h.rp i hi) (by omega)),fun i hi=>(h.cg i hi).mv mb (aK.refl _) (fun _ _ z=>z) fun j hj=>old (h.rs i hi j hj) (by omega),
  fun i hi=>rr (h.rx i hi) (by omega) (h.lk i hi).hx,fun i hi=>rr (h.rt i hi) (by omega) (h.lk i hi).ht,fun i hi=>rr (h.rp i hi) (by omega) (h.lk i hi).hp,fun i hi j hj=>rr (h.rs i hi j hj) (by omega) ((h.cg i hi).at_ j hj).val,X0,fun a ha=>(nw a ha).elim (h.eb a) h.sb.free,fun a ha=>if_pos ha,Kt⟩
theorem Sx.put (mb:fN Bv) {a:Addr} {o:HO} (h:Sx Bv C B H E n x tA pA d sl L rows ρ) (ha:E a≠none) (no:sS o):∃ ρ',Sx Bv C B (upd H a o) (upd E a o) n x tA pA d sl L rows ρ':=by
 refine h.chg mb (fun b u hb e=>by rw [aH (fun z=>ha (by rw [← z];exact hb))];exact e) (fun b u e=>?_) (fun b hb=>?_) (fun b u e=>?_)
 ·by_cases z:b=a
  ·rw [z,aD] at e;rw [z,aD];exact e
  ·rw [aH z] at e ⊢;exact h.ee _ _ e
 ·by_cases z:b=a
  ·rw [z];exact .inl ha
  ·rw [aH z] at hb;exact .inl hb
 ·by_cases z:b=a
  ·rw [z,aD] at e;cases e;exact no
  ·rw [aH z] at e;exact h.en _ _ e
theorem Sx.new (mb:fN Bv) {a:Addr} {o:HO} (h:Sx Bv C B H E n x tA pA d sl L rows ρ) (ha:H a=none) (no:sS o):∃ ρ',Sx Bv C B (upd H a o) (upd E a o) n x tA pA d sl L rows ρ':=by
 refine h.chg mb (fun b u hb e=>by rw [aH (fun z=>by rw [z,ha] at e;cases e)];exact e) (fun b u e=>?_) (fun b hb=>?_) (fun b u e=>?_)
 ·by_cases z:b=a
  ·rw [z,aD] at e;rw [z,aD];exact e
  ·rw [aH z] at e ⊢;exact h.ee _ _ e
 ·by_cases z:b=a
  ·rw [z];exact .inr ha
  ·rw [aH z] at hb;exact .inl hb
 ·by_cases z:b=a
  ·rw [z,aD] at e;cases e;exact no
  ·rw [aH z] at e;exact h.en _ _ e
theorem Sx.re (h:Sx Bv C B H E n x tA pA d sl L rows ρ) {L':Nat→Lk} (hL:∀ s,s < 2→L' s=L s):Sx Bv C B H E n x tA pA d sl L' rows ρ :=
 ⟨h.sb,fun s hs=>by rw [hL s hs];exact h.lk s hs,h.cg,h.rx,h.rt,h.rp,h.rs,h.ee,h.eb,h.er,h.en⟩
end
open Classical in
noncomputable def Qo (x t p:Nat→Addr) (sl:Nat→Nat→Addr) (n:Nat) (E:Hp) (a:Addr):Nat :=
 if E a≠none then 100 else cM x t p sl n 0 (fun _=>0) a
theorem Sx.start {Bv:BQ} {C:Addr} {H E:Hp} {n:Nat} {x t p d:Nat→Addr} {sl:Nat→Nat→Addr} {L:Nat→Lk} (ap:Apart x t p sl n 0 (fun _=>0)) (lk:∀ s,s < 2→∃ B0,bS C B0 H (x s) (t s) (p s) (L s)) (le:∀ s,s < 2→(L s).ev=[]∧(L s).bT=[]∧(L s).p=none)
  (dl:∀ s,s < 2→H (d s)=some (.lst (bD n (sl s)))) (dz:∀ s,s < 2→cM x t p sl n 0 (fun _=>0) (d s)=0) (inj:∀ s,s < 2→∀ i j,i < n→j < n→sl s i=sl s j→i=j) (X1:∀ s,s < 2→∀ j,j < n→H (sl s j)=some (.lst [])) (ee:aK E H) (en:∀ a o,E a=some o→sS o) (ez:∀ a,E a≠none→cM x t p sl n 0 (fun _=>0) a=0∧a≠d 0∧a≠d 1) :
  ∃ B,Sx Bv C B H E n x t p d sl L (fun _ _=>[]) (Qo x t p sl n E)∧∀ a o,E a=none→cM x t p sl n 0 (fun _=>0) a=0→H a=some o→B a=some o:=by
 classical
 obtain ⟨r1,r2,r3,r5,_⟩:=Gk ap
 have rE:∀ {a:Addr} {k:Nat},cM x t p sl n 0 (fun _=>0) a=k→k≠0→Qo x t p sl n E a=k:=fun {a k} e h=>by
  unfold Qo
  rw [if_neg (fun z=>h (by rw [← e];exact (ez a z).1))];exact e
 have no:∀ {a:Addr} {k:Nat},cM x t p sl n 0 (fun _=>0) a=k→k≠0→(fun a=>if E a=none∧cM x t p sl n 0 (fun _=>0) a=0 then H a else none) a=none:=fun {a k} e h=>by
  show (if E a=none∧cM x t p sl n 0 (fun _=>0) a=0 then H a else none)=none
  rw [if_neg (by rw [e];exact fun z=>h z.2)]
 have yes:∀ a o,E a=none→cM x t p sl n 0 (fun _=>0) a=0→H a=some o→(fun a=>if E a=none∧cM x t p sl n 0 (fun _=>0) a=0 then H a else none) a=some o:=fun a o e1 e h=>by
  show (if E a=none∧cM x t p sl n 0 (fun _=>0) a=0 then H a else none)=some o
  rw [if_pos ⟨e1,e⟩];exact h
 have sb:aK (fun a=>if E a=none∧cM x t p sl n 0 (fun _=>0) a=0 then H a else none) H:=fun a o e=>by
  have e:(if E a=none∧cM x t p sl n 0 (fun _=>0) a=0 then H a else none)=some o:=e
  by_cases z:E a=none∧cM x t p sl n 0 (fun _=>0) a=0
  ·rw [if_pos z] at e;exact e
  ·rw [if_neg z] at e;cases e
 have dn:∀ s,s < 2→E (d s)=none:=fun s hs=>Classical.byContradiction fun z=>by
  have:=ez _ z
  match s,hs with
  | 0,_=>exact this.2.1 rfl
  | 1,_=>exact this.2.2 rfl
  | s+2,h=>omega
 refine ⟨fun a=>if E a=none∧cM x t p sl n 0 (fun _=>0) a=0 then H a else none,⟨sb,?_,?_,fun s hs=>rE (r1 s hs) (by omega),fun s hs=>rE (r2 s hs) (by omega),fun s hs=>rE (r3 s hs) (by omega),fun s hs j hj=>rE (r5 s hs j hj) (by omega),ee,fun a ha=>?_,fun a ha=>if_pos ha,en⟩,yes⟩
 ·intro s hs
  obtain ⟨B0,l⟩:=lk s hs
  obtain ⟨q1,q2,q3⟩:=le s hs
  obtain ⟨dx,pv,g,gp⟩:=l.at_
  obtain ⟨kX,g2,Au⟩:=l.told
  obtain ⟨gj,g3,xE⟩:=l.bT
  refine ⟨sb,no (r1 s hs) (by omega),no (r2 s hs) (by omega),no (r3 s hs) (by omega),⟨dx,pv,g,?_⟩,⟨kX,g2,fun y e he=>by rw [q1] at he;cases he⟩,⟨gj,g3,fun y e he=>by rw [q2] at he;cases he⟩,l.ne⟩
  rw [q3] at gp ⊢;exact gp
 ·intro s hs
  exact ⟨yes _ _ (dn s hs) (dz s hs) (dl s hs),inj s hs,fun j hj=>⟨no (r5 s hs j hj) (by omega),fun _=>0,X1 s hs j hj,fun y r e=>by cases e⟩⟩
 ·show (if E a=none∧cM x t p sl n 0 (fun _=>0) a=0 then H a else none)=none
  rw [if_neg fun z=>ha z.1]
def Ei (fs:Ft):Prop:=∃ d ∈ fs,d.2.length < 3
def Jn (q:Nat) (rows:Nat→List Rw) (Tr Ts run τ:Nat) (φ:Cl→Prop):Prop:=(∃ (j:Nat) (row:Rw),Tr≤j∧j≤τ+q∧row ∈ rows j∧row.rd=true∧φ row.b)∨Ts≤τ+run
theorem xR {tick:Nat} {b:Cl}:∀ (fs:Ft) (rows:Nat→List Rw) (j:Nat) (r:Rw),r ∈ rows j→r ∈ gE rows tick b fs j
 | [],_,_,_,h=>h
 | d :: fs,rows,j,r,h=>xR fs (uB rows (tick+d.1.toNat) (de b d.2)) j r (by
   unfold uB
   split
   ·exact List.mem_append_left _ h
   ·exact h)
theorem C2 {tick:Nat} {b:Cl} {d:Int × Ts}:∀ (fs:Ft) (rows:Nat→List Rw),d ∈ fs→de b d.2 ∈ gE rows tick b fs (tick+d.1.toNat)
 | [],_,h=>by cases h
 | e :: fs,rows,h=>by
  rcases List.mem_cons.mp h with z | z
  ·subst z
   refine xR fs (uB rows (tick+d.1.toNat) (de b d.2)) _ _ ?_
   unfold uB
   rw [if_pos rfl]
   exact List.mem_append_right _ (List.mem_singleton.mpr rfl)
  ·exact C2 fs (uB rows (tick+e.1.toNat) (de b e.2)) z
section
variable {q late lost Tr Ts run run' τ:Nat} {rows:Nat→List Rw} {φ ψ:Cl→Prop} {fs:Ft} {c:Cl}
theorem Jn.now (h:Ts≤τ):Jn q rows Tr Ts run τ φ:=.inr (by omega)
theorem Jn.le (h:Jn q rows Tr Ts run τ φ) (hr:run≤lost) (hq:lost+1≤q) (ht:Tr≤Ts+1):Tr≤τ+q:=by
 rcases h with ⟨j,_,h1,h2,_⟩ | h <;> omega
theorem Jn.mono (h:Jn q rows Tr Ts run τ φ) (hm:∀ a,φ a→ψ a):Jn q rows Tr Ts run τ ψ:=by
 rcases h with ⟨j,row,h1,h2,h3,h4,h5⟩ | h
 ·exact .inl ⟨j,row,h1,h2,h3,h4,hm _ h5⟩
 ·exact .inr h
theorem Jn.give (h:Jn q rows Tr Ts run τ φ) (hc:φ c) (gf:gS (late:Int) fs) (hq:late+lost=q) (hr:run≤lost) (ht:Tr≤Ts+1) (hf:Ei fs∨run'=run+1):Jn q (gE rows Ts c fs) Tr (Ts+1) run' τ φ:=by
 rcases h with ⟨j,row,h1,h2,h3,h4,h5⟩ | h
 ·exact .inl ⟨j,row,h1,h2,xR fs rows j row h3,h4,h5⟩
 ·rcases hf with ⟨d,hd,hl⟩ | hf
  ·obtain ⟨d1,d2,_⟩:=gf.at_ d hd
   exact .inl ⟨Ts+d.1.toNat,de c d.2,by omega,by omega,C2 fs rows hd,decide_eq_true hl,hc⟩
  ·exact .inr (by omega)
theorem IW {rs:List Rw} {row:Rw} (h:row ∈ rs) (hr:row.rd=true):row.b ∈ aQ rs:=by
 unfold aQ
 exact List.mem_filterMap.mpr ⟨row,h,by rw [if_pos hr]⟩
theorem Jn.tick (h:Jn q rows Tr Ts run τ φ) (hn:∀ a ∈ aQ (rows Tr),¬ φ a):Jn q rows (Tr+1) Ts run τ φ:=by
 rcases h with ⟨j,row,h1,h2,h3,h4,h5⟩ | h
 ·by_cases z:j=Tr
  ·subst z;exact absurd h5 (hn _ (IW h3 h4))
  ·exact .inl ⟨j,row,by omega,h2,h3,h4,h5⟩
 ·exact .inr h
end
theorem meet_self (L:Lk):bC L L.k=L:=by
 unfold bC
 obtain ⟨q,s,d,u,b,k,p,ev,bT,of,tk⟩:=L
 cases p with
 | none=>rfl
 | some x=>simp only;rw [if_neg (by omega)]
structure oX (L L':Lk):Prop where
 p:L'.p=L.p
 b:L'.b=L.b
 k:L'.k=L.k
 ev:∃ es:List Ev,L'.ev=L.ev ++ es∧∀ e ∈ es,∃ xs,e=.took xs
 l:L'.bT.length≤L.bT.length
theorem oX.refl (L:Lk):oX L L:=⟨rfl,rfl,rfl,⟨[],(List.append_nil _).symm,fun e h=>by cases h⟩,Nat.le_refl _⟩
theorem oX.trans {L L1 L2:Lk} (a:oX L L1) (b:oX L1 L2):oX L L2:=by
 obtain ⟨e1,h1,h1'⟩:=a.ev
 obtain ⟨e2,h2,P8⟩:=b.ev
 exact ⟨b.p.trans a.p,b.b.trans a.b,b.k.trans a.k,⟨e1 ++ e2,by rw [h2,h1,List.append_assoc],fun e h=>(List.mem_append.mp h).elim (h1' e) (P8 e)⟩,Nat.le_trans b.l a.l⟩
theorem fO (L:Lk) (c:Int):oX L (bF L c)∧(bF L c).tk=L.tk∧(bF L c).ev=L.ev:=by
 unfold bF
 split
 ·exact ⟨⟨rfl,rfl,rfl,⟨[],(List.append_nil _).symm,fun e h=>by cases h⟩,by show L.bT.tail.length≤_;rw [List.length_tail];omega⟩,rfl,rfl⟩
 ·exact ⟨oX.refl _,rfl,rfl⟩
theorem lg (L:Lk) (n:Int) (xs:List Int):oX L (bV L n xs)∧(bV L n xs).bT=L.bT∧(bV L n xs).of=L.of:=by
 unfold bV
 split
 ·exact ⟨⟨rfl,rfl,rfl,⟨[.took xs],rfl,fun e h=>⟨xs,List.mem_singleton.mp h⟩⟩,Nat.le_refl _⟩,rfl,rfl⟩
 ·exact ⟨oX.refl _,rfl,rfl⟩
theorem A3 {L:Lk} {a:Cl} (hp:L.p≠none) (ha:a.b≤L.k):ar L a=L∨(ar L a=bV (bF L a.c) a.n a.xs∧a.k=L.b∧a.b=L.k):=by
 have ec:bH L=L:=by
  unfold bH
  cases e:L.p with
  | none=>exact absurd e hp
  | some x=>rfl
 unfold ar
 by_cases z:a.b < L.k
 ·rw [if_pos z];exact .inl rfl
 ·have e:a.b=L.k:=by omega
  rw [if_neg z,e,meet_self,ec]
  by_cases y:a.k=L.b
  ·rw [if_pos y];exact .inr ⟨rfl,y,rfl⟩
  ·rw [if_neg y];exact .inl rfl
theorem uC {L:Lk} {a:Cl} (hp:L.p≠none) (ha:a.b≤L.k):oX L (ar L a):=by
 rcases A3 hp ha with z | ⟨z,_⟩
 ·rw [z];exact oX.refl _
 ·rw [z];exact (fO L a.c).1.trans (lg _ _ _).1
theorem gq:∀ (bs:List Cl) (L:Lk),L.p≠none→(∀ a ∈ bs,a.b≤L.k)→oX L (aU L bs)
 | [],L,_,_=>oX.refl L
 | a :: r,L,hp,h=>by
  have s:=uC hp (h a List.mem_cons_self)
  exact s.trans (gq r (ar L a) (by rw [s.p];exact hp) fun x hx=>by rw [s.k];exact h x (List.mem_cons_of_mem _ hx))
theorem oX.evl {L L':Lk} (s:oX L L'):L.ev.length≤L'.ev.length:=by
 obtain ⟨es,h,_⟩:=s.ev
 rw [h,List.length_append];omega
theorem qf:∀ (bs:List Cl) (L:Lk) (a:Cl),L.p≠none→(∀ x ∈ bs,x.b≤L.k)→a ∈ bs→a.b=L.k→a.k=L.b→a.xs≠[]→a.n=L.tk→L.ev.length < (aU L bs).ev.length
 | [],_,_,_,_,hm,_,_,_,_=>by cases hm
 | c :: r,L,a,hp,h,hm,hb,hk,hx,hn=>by
  have s:=uC hp (h c List.mem_cons_self)
  have hr:∀ x ∈ r,x.b≤(ar L c).k:=fun x hx=>by rw [s.k];exact h x (List.mem_cons_of_mem _ hx)
  have s2:=gq r (ar L c) (by rw [s.p];exact hp) hr
  show L.ev.length < (aU (ar L c) r).ev.length
  have l2:=s2.evl
  rcases A3 hp (h c List.mem_cons_self) with z | ⟨z,z1,z2⟩
  ·rcases List.mem_cons.mp hm with y | y
   ·exfalso
    subst y
    have e:ar L a=bV (bF L a.c) a.n a.xs:=by
     have ec:bH L=L:=by
      unfold bH
      cases e:L.p with
      | none=>exact absurd e hp
      | some x=>rfl
     unfold ar
     rw [if_neg (by omega),hb,meet_self,ec,if_pos hk]
    have e2:(ar L a).ev.length=L.ev.length+1:=by
     rw [e];unfold bV
     rw [if_pos ⟨hx,by rw [(fO L a.c).2.1];exact hn⟩]
     show ((bF L a.c).ev ++ [_]).length=_
     rw [(fO L a.c).2.2,List.length_append];rfl
    rw [z] at e2;omega
   ·rw [z];exact qf r L a hp (fun x hx=>h x (List.mem_cons_of_mem _ hx)) y hb hk hx hn
  ·by_cases y:c.xs≠[]∧c.n=L.tk
   ·have e2:(ar L c).ev.length=L.ev.length+1:=by
     rw [z];unfold bV
     rw [if_pos ⟨y.1,by rw [(fO L c.c).2.1];exact y.2⟩]
     show ((bF L c.c).ev ++ [_]).length=_
     rw [(fO L c.c).2.2,List.length_append];rfl
    omega
   ·have e2:ar L c=bF L c.c:=by
     rw [z];unfold bV
     rw [if_neg (fun w=>y ⟨w.1,by rw [(fO L c.c).2.1] at w;exact w.2⟩)]
    rcases List.mem_cons.mp hm with w | w
    ·subst w;exact absurd ⟨hx,hn⟩ y
    ·have l1:=s.evl
     refine Nat.lt_of_le_of_lt l1 (qf r (ar L c) a (by rw [s.p];exact hp) hr w (by rw [s.k];exact hb) (by rw [s.b];exact hk) hx ?_)
     rw [e2,(fO L c.c).2.1];exact hn
theorem oY:∀ (bs:List Cl) (L:Lk) (a:Cl),L.p≠none→(∀ x ∈ bs,x.b≤L.k)→a ∈ bs→a.b=L.k→a.k=L.b→L.bT≠[]→a.c=(L.of+1) % 97→(aU L bs).bT.length < L.bT.length
 | [],_,_,_,_,hm,_,_,_,_=>by cases hm
 | c :: r,L,a,hp,h,hm,hb,hk,hx,hn=>by
  have s:=uC hp (h c List.mem_cons_self)
  have hr:∀ x ∈ r,x.b≤(ar L c).k:=fun x hx=>by rw [s.k];exact h x (List.mem_cons_of_mem _ hx)
  have s2:=gq r (ar L c) (by rw [s.p];exact hp) hr
  show (aU (ar L c) r).bT.length < L.bT.length
  have l2:=s2.l
  have hl:0 < L.bT.length:=by
   cases e:L.bT with
   | nil=>exact absurd e hx
   | cons _ _=>exact Nat.zero_lt_succ _
  have ec:bH L=L:=by
   unfold bH
   cases e:L.p with
   | none=>exact absurd e hp
   | some x=>rfl
  rcases A3 hp (h c List.mem_cons_self) with z | ⟨z,z1,z2⟩
  ·rcases List.mem_cons.mp hm with y | y
   ·exfalso
    subst y
    have e:ar L a=bV (bF L a.c) a.n a.xs:=by
     unfold ar
     rw [if_neg (by omega),hb,meet_self,ec,if_pos hk]
    have e2:(ar L a).bT=L.bT.tail:=by
     rw [e,(lg _ _ _).2.1];unfold bF;rw [if_pos ⟨hx,hn⟩]
    rw [z] at e2
    have:=congrArg List.length e2
    rw [List.length_tail] at this;omega
   ·rw [z];exact oY r L a hp (fun x hx=>h x (List.mem_cons_of_mem _ hx)) y hb hk hx hn
  ·by_cases y:L.bT≠[]∧c.c=(L.of+1) % 97
   ·have e2:(ar L c).bT=L.bT.tail:=by rw [z,(lg _ _ _).2.1];unfold bF;rw [if_pos y]
    rw [e2,List.length_tail] at l2
    omega
   ·have e2:bF L c.c=L:=if_neg y
    rw [e2] at z
    rcases List.mem_cons.mp hm with w | w
    ·subst w;exact absurd ⟨hx,hn⟩ y
    ·have e3:(ar L c).bT=L.bT∧(ar L c).of=L.of:=by rw [z];exact (lg _ _ _).2
     have:=oY r (ar L c) a (by rw [s.p];exact hp) hr w (by rw [s.k];exact hb) (by rw [s.b];exact hk) (by rw [e3.1];exact hx) (by rw [e3.2];exact hn)
     rw [e3.1] at this;exact this
theorem Ky (L:Lk) (a:Cl):(ar L a).b=L.b∧(ar L a).k=(if a.b < L.k then L.k else a.b)∧(ar L a).u=L.u∧(ar L a).q=L.q:=by
 have mt:(bC L a.b).u=L.u∧(bC L a.b).q=L.q:=by
  unfold bC
  cases L.p with
  | none=>exact ⟨rfl,rfl⟩
  | some p=>simp only;split <;> exact ⟨rfl,rfl⟩
 have cm:∀ L:Lk,(bH L).u=L.u∧(bH L).q=L.q:=fun L=>by
  unfold bH
  cases L.p <;> exact ⟨rfl,rfl⟩
 have hr:∀ (L:Lk) (c:Int),(bF L c).u=L.u∧(bF L c).q=L.q:=fun L c=>by unfold bF;split <;> exact ⟨rfl,rfl⟩
 have tk:∀ (L:Lk) (n:Int) (xs:List Int),(bV L n xs).u=L.u∧(bV L n xs).q=L.q:=fun L n xs=>by unfold bV;split <;> exact ⟨rfl,rfl⟩
 have mb:=t8 L a.b
 unfold ar
 by_cases z:a.b < L.k
 ·rw [if_pos z,if_pos z];exact ⟨rfl,rfl,rfl,rfl⟩
 ·rw [if_neg z,if_neg z]
  split
  ·have t1:=Ki (bF (bH (bC L a.b)) a.c) a.n a.xs
   have h1:=Kh (bH (bC L a.b)) a.c
   have c1:=EV (bC L a.b)
   refine ⟨t1.1.trans (h1.1.trans (c1.1.trans mb.1)),t1.2.1.trans (h1.2.trans (c1.2.trans mb.2)),?_,?_⟩
   ·rw [(tk _ _ _).1,(hr _ _).1,(cm _).1,mt.1]
   ·rw [(tk _ _ _).2,(hr _ _).2,(cm _).2,mt.2]
  ·exact ⟨mb.1,mb.2,mt.1,mt.2⟩
theorem vv:∀ (bs:List Cl) (L:Lk),(aU L bs).b=L.b∧L.k≤(aU L bs).k∧(∀ a ∈ bs,a.b≤(aU L bs).k)∧(aU L bs).u=L.u∧(aU L bs).q=L.q
 | [],L=>⟨rfl,Int.le_refl _,fun a h=>(by cases h),rfl,rfl⟩
 | a :: r,L=>by
  obtain ⟨r1,r2,r3,r4⟩:=Ky L a
  obtain ⟨i1,i2,i3,i4,i5⟩:=vv r (ar L a)
  have h1:L.k≤(ar L a).k∧a.b≤(ar L a).k:=by rw [r2];split <;> omega
  refine ⟨i1.trans r1,Int.le_trans h1.1 i2,fun x hx=>?_,i4.trans r3,i5.trans r4⟩
  rcases List.mem_cons.mp hx with z | z
  ·rw [z];exact Int.le_trans h1.2 i2
  ·exact i3 x z
theorem C3:∀ (bs:List Cl) (L:Lk) (B:Int) (a:Cl),L.k≤B→(∀ x ∈ bs,x.b≤B)→a ∈ bs→a.b=B→a.k=L.b→(aU L bs).p≠none
 | [],_,_,_,_,_,hm,_,_=>by cases hm
 | c :: r,L,B,a,hk,h,hm,hb,ha=>by
  obtain ⟨r1,r2,_,_⟩:=Ky L c
  have hc:=h c List.mem_cons_self
  have k1:(ar L c).k≤B:=by rw [r2];split <;> omega
  show (aU (ar L c) r).p≠none
  rcases List.mem_cons.mp hm with y | y
  ·subst y
   have kB:(ar L a).k=B:=by rw [r2,hb];split <;> omega
   have pn:(ar L a).p≠none:=by
    unfold ar
    rw [if_neg (by omega),if_pos (by rw [(t8 L a.b).1];exact ha),(lg _ _ _).1.p,(fO _ _).1.p]
    unfold bH
    cases e:(bC L a.b).p with
    | none=>exact fun z=>by cases z
    | some x=>simp only;rw [e];exact fun z=>by cases z
   rw [(gq r (ar L a) pn fun x hx=>by rw [kB];exact h x (List.mem_cons_of_mem _ hx)).p]
   exact pn
  ·exact C3 r (ar L c) B a k1 (fun x hx=>h x (List.mem_cons_of_mem _ hx)) y hb (by rw [r1];exact ha)
theorem fP {L:Lk} {bs:List Cl} (h:(aU L bs).k=0∨(if bs=[] then L.u+1 else 0) < L.q):bA L bs={ aU L bs with u:=(if bs=[] then L.u+1 else 0),d:=(aU L bs).d+1,ev:=[] }∧(bW L bs).ev=(aU L bs).ev:=by
 obtain ⟨_,_,_,hu,hq⟩:=vv bs L
 have e:bG (fU (aU L bs) bs)=fU (aU L bs) bs:=by
  unfold bG
  refine if_neg fun z=>?_
  rcases h with y | y
  ·exact z.1 y
  ·have z2:(aU L bs).q≤(if bs=[] then (aU L bs).u+1 else 0):=z.2
   rw [hu,hq] at z2;omega
 unfold bA bW
 rw [e]
 unfold fU
 rw [hu]
 exact ⟨rfl,rfl⟩
abbrev Jd (q:Nat) (rows:Nat→Nat→List Rw) (run D:Nat→Nat) (r τ:Nat) (φ:Cl→Prop):Prop:=Jn q (rows r) (D r) (D (1 - r)) (run (1 - r)) τ φ
structure Wx (q late lost:Nat) (L:Nat→Lk) (rows:Nat→Nat→List Rw) (run D:Nat→Nat):Prop where
 hq:late+lost=q
 h1:1≤late
 d:∀ r,r < 2→(L r).d=(D r:Int)
 dd:∀ r,r < 2→D r≤D (1 - r)+1
 rn:∀ r,r < 2→run r≤lost
 e:∀ r,r < 2→∀ φ:Cl→Prop,φ (cO (L (1 - r)))→Jn q (rows r) (D r+1) (D (1 - r)) (run (1 - r)) (D r) φ
section
variable {q late lost:Nat} {L:Nat→Lk} {rows:Nat→Nat→List Rw} {run D:Nat→Nat} {x r':Nat} {LA:Lk} {fs:Ft}
theorem Wx.le (h:Wx q late lost L rows run D) {r τ:Nat} {φ:Cl→Prop} (hr:r < 2) (j:Jd q rows run D r τ φ):D r≤τ+q:=Jn.le j (h.rn (1 - r) (by omega)) (by have:=h.hq;have:=h.h1;omega) (h.dd r hr)
structure Ws (q late lost:Nat) (L:Nat→Lk) (rows:Nat→Nat→List Rw) (run D:Nat→Nat) (x:Nat) (LA:Lk) (fQ:Nat→Nat→List Rw) (run' D':Nat→Nat):Prop where
 w:Wx q late lost (at2 L x LA) fQ run' D'
 tk:∀ τ φ,Jd q rows run D x τ φ→(∀ a ∈ aQ (rows x (D x)),¬ φ a)→Jd q fQ run' D' x τ φ
 sr:∀ φ:Cl→Prop,φ (cO (L (1 - x)))→Jd q fQ run' D' x (D x) φ
 gv:∀ τ φ,Jd q rows run D (1 - x) τ φ→φ (cO LA)→Jd q fQ run' D' (1 - x) τ φ
 ss:∀ φ:Cl→Prop,φ (cO LA)→Jd q fQ run' D' (1 - x) (D x) φ
 lx:∀ τ φ,Jd q rows run D x τ φ→D x≤τ+q
theorem Wx.step (h:Wx q late lost L rows run D) (hx:x < 2) (hd:D x≤D (1 - x)) (hLA:LA.d=(D x:Int)+1) (gf:gS (late:Int) fs) (hf:Ei fs∨r'=run x+1) (hr:r'≤lost) :
  Ws q late lost L rows run D x LA (at2 rows (1 - x) (gE (rows (1 - x)) (D x) (cO LA) fs)) (at2 run x r') (at2 D x (D x+1)):=by
 have ne:1 - x≠x:=by omega
 have vE:1 - x < 2:=by omega
 have e1:1 - (1 - x)=x:=by omega
 have d1:=h.dd x hx
 have d2:=h.dd (1 - x) vE
 rw [e1] at d2
 have hq:=h.hq
 have h1:=h.h1
 have rn:=h.rn x hx
 have ss:∀ φ:Cl→Prop,φ (cO LA)→Jn q (gE (rows (1 - x)) (D x) (cO LA) fs) (D (1 - x)) (D x+1) r' (D x) φ:=fun φ hφ=>(Jn.now (Nat.le_refl _)).give hφ gf hq rn (by omega) hf
 have J1:∀ τ φ,Jd q (at2 rows (1 - x) (gE (rows (1 - x)) (D x) (cO LA) fs)) (at2 run x r') (at2 D x (D x+1)) x τ φ=Jn q (rows x) (D x+1) (D (1 - x)) (run (1 - x)) τ φ:=fun τ φ=>by
  show Jn q (at2 rows (1 - x) _ x) (at2 D x (D x+1) x) (at2 D x (D x+1) (1 - x)) (at2 run x r' (1 - x)) τ φ=_
  rw [aS (Ne.symm ne),aL,aS ne,aS ne]
 have J2:∀ τ φ,Jd q (at2 rows (1 - x) (gE (rows (1 - x)) (D x) (cO LA) fs)) (at2 run x r') (at2 D x (D x+1)) (1 - x) τ φ=Jn q (gE (rows (1 - x)) (D x) (cO LA) fs) (D (1 - x)) (D x+1) r' τ φ:=fun τ φ=>by
  show Jn q (at2 rows (1 - x) _ (1 - x)) (at2 D x (D x+1) (1 - x)) (at2 D x (D x+1) (1 - (1 - x))) (at2 run x r' (1 - (1 - x))) τ φ=_
  rw [e1,aL,aS ne,aL,aL]
 refine ⟨⟨hq,h1,fun r ng=>?_,fun r ng=>?_,fun r ng=>?_,fun r ng φ hφ=>?_⟩,fun τ φ j hn=>?_,fun φ hφ=>?_,fun τ φ j hφ=>?_,fun φ hφ=>?_,fun τ φ j=>h.le hx j⟩
 ·by_cases z:r=x
  ·rw [z,aL,aL,hLA];omega
  ·rw [aS z,aS z];exact h.d r ng
 ·by_cases z:r=x
  ·rw [z,aL,aS ne];omega
  ·have:r=1 - x:=by omega
   rw [this,aS ne,e1,aL];omega
 ·by_cases z:r=x
  ·rw [z,aL];exact hr
  ·rw [aS z];exact h.rn r ng
 ·by_cases z:r=x
  ·subst z
   rw [aL,aS ne,aS (Ne.symm ne),aS ne]
   exact .inr (by omega)
  ·have er:r=1 - x:=by omega
   subst er
   rw [e1,aL] at hφ
   rw [aL,aS ne,e1,aL,aL]
   by_cases y:D (1 - x)=D x
   ·rw [y]
    exact (Jn.now (q:=q) (rows:=rows (1 - x)) (Tr:=D x+1) (run:=run x) (Nat.le_refl (D x))).give hφ gf hq rn (by omega) hf
   ·exact .inr (by omega)
 ·rw [J1];exact Jn.tick j hn
 ·rw [J1];exact h.e x hx φ hφ
 ·rw [J2]
  have j':Jn q (rows (1 - x)) (D (1 - x)) (D x) (run x) τ φ:=by
   have:=j
   unfold Jd at this
   rw [e1] at this;exact this
  exact j'.give hφ gf hq rn (by omega) hf
 ·rw [J2];exact ss φ hφ
structure Hr (q T0:Nat) (L:Nat→Lk) (rows:Nat→Nat→List Rw) (run D:Nat→Nat):Prop where
 Q:∀ r,r < 2→(L r).q=(q:Int)
 u0:∀ r,r < 2→0≤(L r).u
 a:∀ r,r < 2→∃ τ,T0≤τ∧Jd q rows run D r τ (fun _=>True)∧((τ=T0∧(T0=0→(L r).k=0))∨(L r).u+(τ:Int)+1=(D r:Int))
theorem Gm (L:Lk) (bs:List Cl):(bA L bs).u=(if bs=[] then L.u+1 else 0)∧(bA L bs).q=L.q:=by
 obtain ⟨_,_,_,hu,hq⟩:=vv bs L
 have e:∀ L:Lk,(bG L).u=L.u:=fun L=>by
  unfold bG
  split
  ·unfold gR;cases L.p <;> rfl
  ·rfl
 refine ⟨?_,(Eh L bs).2.2⟩
 show (bG (fU (aU L bs) bs)).u=_
 rw [e]
 show (if bs=[] then (aU L bs).u+1 else 0)=_
 rw [hu]
def Still (L:Lk) (bs:List Cl):Prop:=(aU L bs).k=0∨(if bs=[] then L.u+1 else 0) < L.q
theorem Hr.step {T0:Nat} {fQ:Nat→Nat→List Rw} {run' D':Nat→Nat} (h:Hr q T0 L rows run D) (hx:x < 2) (hw:Wx q late lost L rows run D) (s:Ws q late lost L rows run D x (bA (L x) (aQ (rows x (D x)))) fQ run' D') (hD:D' x=D x+1) (Vv:D' (1 - x)=D (1 - x)) (hT:T0≤D x) :
  Hr q T0 (at2 L x (bA (L x) (aQ (rows x (D x))))) fQ run' D'∧(Still (L x) (aQ (rows x (D x)))∨(T0≠0∧D x < T0+q)):=by
 obtain ⟨u1,q1⟩:=Gm (L x) (aQ (rows x (D x)))
 obtain ⟨τ,t1,j,t2⟩:=h.a x hx
 have u0:=h.u0 x hx
 have hQ:=h.Q x hx
 have ne:1 - x≠x:=by omega
 have BP:∀ r,r < 2→r≠x→∃ τ,T0≤τ∧Jd q fQ run' D' r τ (fun _=>True)∧((τ=T0∧(T0=0→(L r).k=0))∨(L r).u+(τ:Int)+1=(D' r:Int)):=fun r hr z=>by
  have er:r=1 - x:=by omega
  subst er
  obtain ⟨τ',a1,a2,a3⟩:=h.a (1 - x) hr
  exact ⟨τ',a1,s.gv τ' _ a2 trivial,by rw [Vv];exact a3⟩
 have hq1:1≤q:=by have:=hw.hq;have:=hw.h1;omega
 by_cases z:aQ (rows x (D x))=[]
 ·have j':=s.tk τ _ j (fun a ha=>by rw [z] at ha;cases ha)
  have l':=s.w.le hx j'
  rw [hD] at l'
  rw [if_pos z] at u1
  have hk:(aU (L x) (aQ (rows x (D x)))).k=(L x).k:=by rw [z];rfl
  refine ⟨⟨fun r hr=>?_,fun r hr=>?_,fun r hr=>?_⟩,?_⟩
  ·by_cases y:r=x
   ·rw [y,aL,q1];exact hQ
   ·rw [aS y];exact h.Q r hr
  ·by_cases y:r=x
   ·rw [y,aL,u1];omega
   ·rw [aS y];exact h.u0 r hr
  ·by_cases y:r=x
   ·subst y
    rw [aL]
    refine ⟨τ,t1,j',?_⟩
    rcases t2 with ⟨y1,y2⟩ | y
    ·refine .inl ⟨y1,fun w=>?_⟩
     have k0:=y2 w
     rw [(fP (.inl (by rw [hk];exact k0))).1]
     show (aU (L r) (aQ (rows r (D r)))).k=0
     rw [hk];exact k0
    ·right;rw [u1,hD];omega
   ·rw [aS y];exact BP r hr y
  ·unfold Still
   rw [if_pos z,hk,hQ]
   rcases t2 with ⟨y1,y2⟩ | y
   ·by_cases w:T0=0
    ·exact .inl (.inl (y2 w))
    ·exact .inr ⟨w,by omega⟩
   ·exact .inl (.inr (by omega))
 ·rw [if_neg z] at u1
  refine ⟨⟨fun r hr=>?_,fun r hr=>?_,fun r hr=>?_⟩,?_⟩
  ·by_cases y:r=x
   ·rw [y,aL,q1];exact hQ
   ·rw [aS y];exact h.Q r hr
  ·by_cases y:r=x
   ·rw [y,aL,u1];exact Int.le_refl _
   ·rw [aS y];exact h.u0 r hr
  ·by_cases y:r=x
   ·subst y
    rw [aL]
    exact ⟨D r,hT,s.sr _ trivial,.inr (by rw [u1,hD];omega)⟩
   ·rw [aS y];exact BP r hr y
  ·exact .inl (.inr (by rw [if_neg z,hQ];omega))
structure Bc (q T1:Nat) (β:Nat→Int) (L:Nat→Lk) (rows:Nat→Nat→List Rw) (run D:Nat→Nat):Prop where
 b:∀ r,r < 2→(L r).b=β r
 c:∀ r,r < 2→(L r).k=β (1 - r)∨Jd q rows run D r T1 (fun a=>a.b=β (1 - r))
 u:∀ r,r < 2→((L r).p≠none∧(L r).k=β (1 - r))∨(L (1 - r)).k≠β r∨((L (1 - r)).k=β r∧∃ τ,τ≤T1+q∧Jd q rows run D r τ (fun a=>a.k=β r∧a.b=β (1 - r)))
theorem Bc.step {T1:Nat} {β:Nat→Int} {fQ:Nat→Nat→List Rw} {run' D':Nat→Nat} (h:Bc q T1 β L rows run D) (hx:x < 2) (s:Ws q late lost L rows run D x (bA (L x) (aQ (rows x (D x)))) fQ run' D') (st:Still (L x) (aQ (rows x (D x)))) (hk:(L x).k≤(L (1 - x)).b) (hr:∀ a ∈ aQ (rows x (D x)),a.b≤(L (1 - x)).b) :
  Bc q T1 β (at2 L x (bA (L x) (aQ (rows x (D x))))) fQ run' D':=by
 have ne:1 - x≠x:=by omega
 have vE:1 - x < 2:=by omega
 have e1:1 - (1 - x)=x:=by omega
 obtain ⟨eA,_⟩:=fP st
 obtain ⟨b1,k1,k2,_,_⟩:=vv (aQ (rows x (D x))) (L x)
 have bs:=h.b (1 - x) vE
 rw [bs] at hk hr
 have k3:=xQ (aQ (rows x (D x))) (L x) hk hr
 have ab:(bA (L x) (aQ (rows x (D x)))).b=β x:=by rw [eA];show (aU _ _).b=_;rw [b1];exact h.b x hx
 have ak:(bA (L x) (aQ (rows x (D x)))).k=(aU (L x) (aQ (rows x (D x)))).k:=by rw [eA]
 have apv:(bA (L x) (aQ (rows x (D x)))).p=(aU (L x) (aQ (rows x (D x)))).p:=by rw [eA]
 have keep:(L x).k=β (1 - x)→(bA (L x) (aQ (rows x (D x)))).k=β (1 - x):=fun z=>by rw [ak];omega
 have got:(∃ a ∈ aQ (rows x (D x)),a.b=β (1 - x))→(bA (L x) (aQ (rows x (D x)))).k=β (1 - x):=fun ⟨a,ha,hb⟩=>by
  have:=k2 a ha
  rw [ak];omega
 refine ⟨fun r ng=>?_,fun r ng=>?_,fun r ng=>?_⟩
 ·by_cases z:r=x
  ·rw [z,aL];exact ab
  ·rw [aS z];exact h.b r ng
 ·by_cases z:r=x
  ·subst z
   rw [aL]
   rcases h.c r ng with y | y
   ·exact .inl (keep y)
   ·by_cases w:∃ a ∈ aQ (rows r (D r)),a.b=β (1 - r)
    ·exact .inl (got w)
    ·exact .inr (s.tk _ _ y fun a ha hb=>w ⟨a,ha,hb⟩)
  ·have er:r=1 - x:=by omega
   subst er
   rw [aS ne,e1]
   rcases h.c (1 - x) ng with y | y
   ·rw [e1] at y;exact .inl y
   ·rw [e1] at y;exact .inr (s.gv _ _ y ab)
 ·by_cases z:r=x
  ·subst z
   rw [aL,aS ne]
   rcases h.u r ng with ⟨y1,y2⟩ | y | ⟨y,τ,t1,j⟩
   ·refine .inl ⟨?_,keep y2⟩
    rw [apv,(gq _ _ y1 fun a ha=>by rw [y2];exact hr a ha).p];exact y1
   ·exact .inr (.inl y)
   ·by_cases w:∃ a ∈ aQ (rows r (D r)),a.k=β r∧a.b=β (1 - r)
    ·obtain ⟨a,ha,w1,w2⟩:=w
     refine .inl ⟨?_,got ⟨a,ha,w2⟩⟩
     rw [apv]
     exact C3 _ _ (β (1 - r)) a hk hr ha w2 (by rw [w1];exact (h.b r ng).symm)
    ·exact .inr (.inr ⟨y,τ,t1,s.tk _ _ j fun a ha hb=>w ⟨a,ha,hb⟩⟩)
  ·have er:r=1 - x:=by omega
   subst er
   rw [aS ne,e1,aL]
   rcases h.u (1 - x) ng with y | y | ⟨y,τ,t1,j⟩
   ·rw [e1] at y;exact .inl y
   ·rw [e1] at y
    by_cases w:(bA (L x) (aQ (rows x (D x)))).k=β (1 - x)
    ·refine .inr (.inr ⟨w,D x,?_,s.ss _ ⟨w,ab⟩⟩)
     rcases h.c x hx with v | v
     ·exact absurd v y
     ·exact s.lx _ _ v
    ·exact .inr (.inl w)
   ·rw [e1] at y j
    exact .inr (.inr ⟨keep y,τ,t1,s.gv _ _ j ⟨keep y,ab⟩⟩)
theorem Bc.start {T1:Nat} {β:Nat→Int} (hb:∀ r,r < 2→(L r).b=β r) (hD:∀ r,r < 2→D r=T1):Bc q T1 β L rows run D:=by
 have now:∀ r,r < 2→∀ φ,Jd q rows run D r T1 φ:=fun r hr φ=>Jn.now (by rw [hD (1 - r) (by omega)];exact Nat.le_refl _)
 refine ⟨hb,fun r hr=>.inr (now r hr _),fun r hr=>?_⟩
 by_cases z:(L (1 - r)).k=β r
 ·exact .inr (.inr ⟨z,T1,by omega,now r hr _⟩)
 ·exact .inr (.inl z)
theorem Bc.up {T1:Nat} {β:Nat→Int} (h:Bc q T1 β L rows run D) (hw:Wx q late lost L rows run D) (hD:∀ r,r < 2→T1+2 * q < D r):∀ r,r < 2→(L r).p≠none∧(L r).k=β (1 - r)∧(L r).b=β r:=by
 have hk:∀ r,r < 2→(L r).k=β (1 - r):=fun r hr=>by
  rcases h.c r hr with y | y
  ·exact y
  ·have:=hw.le hr y
   have:=hD r hr
   omega
 intro r hr
 rcases h.u r hr with y | y | ⟨_,τ,t1,j⟩
 ·exact ⟨y.1,y.2,h.b r hr⟩
 ·have:=hk (1 - r) (by omega)
  rw [show 1 - (1 - r)=r by omega] at this
  exact absurd this y
 ·have:=hw.le hr j
  have:=hD r hr
  omega
end
theorem sX:∀ (es:List Ev) (A:Wt) (x:Pr),A.p=some x→(∀ e ∈ es,∃ xs,e=.took xs)→(Ln A es).k x=A.k x+es.length
 | [],_,_,_,_=>rfl
 | e :: r,A,x,hp,h=>by
  obtain ⟨xs,rfl⟩:=h e List.mem_cons_self
  have es:nT A (.took xs)=⟨A.p,fun P=>if P=x then A.k x+1 else A.k P,A.u⟩:=by unfold nT;simp only;rw [hp]
  have i:=sX r (nT A (.took xs)) x (by rw [es];exact hp) fun e he=>h e (List.mem_cons_of_mem _ he)
  show (Ln (nT A (.took xs)) r).k x=_
  rw [i,es]
  show (if x=x then A.k x+1 else A.k x)+r.length=_
  rw [if_pos rfl,List.length_cons];omega
def NW (β:Nat→Int) (G:Gh) (s:Nat) (P:Pr):Cl→Prop:=fun a=>a.b=β s∧a.k=β (1 - s)∧a.n=((G.O s P:Nat):Int) % 97∧a.xs≠[]
def Kz (β:Nat→Int) (G:Gh) (s:Nat) (P:Pr):Cl→Prop:=fun a=>a.b=β (1 - s)∧a.k=β s∧a.c=((G.K (1 - s) P:Nat):Int) % 97
def Ph (q:Nat) (rows:Nat→Nat→List Rw) (run D:Nat→Nat) (β:Nat→Int) (G:Gh) (P:Pr) (s τ:Nat):Prop :=
 G.O s P=(G.W s P).length∨(G.K (1 - s) P=G.O s P∧G.O s P < (G.W s P).length∧Jd q rows run D (1 - s) τ (NW β G s P))∨(G.K (1 - s) P=G.O s P+1∧Jd q rows run D s τ (Kz β G s P))
def NX (β:Nat→Int) (L:Nat→Lk):Prop:=∀ r,r < 2→(L r).p≠none∧(L r).k=β (1 - r)∧(L r).b=β r
section
variable {q late lost:Nat} {L:Nat→Lk} {rows fQ:Nat→Nat→List Rw} {run run' D D':Nat→Nat} {x s τ:Nat} {β:Nat→Int} {G G':Gh} {P:Pr}
theorem xS (up:NX β L) (hx:x < 2) {bs:List Cl} (st:Still (L x) bs) (hr:∀ a ∈ bs,a.b≤(L (1 - x)).b):oX (L x) (aU (L x) bs)∧(bA (L x) bs).p=(L x).p∧(bA (L x) bs).k=β (1 - x)∧(bA (L x) bs).b=β x:=by
 obtain ⟨u1,u2,u3⟩:=up x hx
 obtain ⟨_,_,v3⟩:=up (1 - x) (by omega)
 have sy:=gq bs (L x) u1 fun a ha=>by rw [u2,← v3];exact hr a ha
 obtain ⟨eA,_⟩:=fP st
 rw [eA]
 exact ⟨sy,sy.p,sy.k.trans u2,sy.b.trans u3⟩
theorem NX.step (up:NX β L) (hx:x < 2) {bs:List Cl} (st:Still (L x) bs) (hr:∀ a ∈ bs,a.b≤(L (1 - x)).b):NX β (at2 L x (bA (L x) bs)):=by
 obtain ⟨_,a1,a2,a3⟩:=xS up hx st hr
 intro r ng
 by_cases z:r=x
 ·rw [z,aL];exact ⟨by rw [a1];exact (up x hx).1,a2,a3⟩
 ·rw [aS z];exact up r ng
theorem Ph.step (hx:x < 2) (hs:s < 2) (h:Ph q rows run D β G P s τ) (ws:Ws q late lost L rows run D x (bA (L x) (aQ (rows x (D x)))) fQ run' D') (up:NX β L) (st:Still (L x) (aQ (rows x (D x)))) (hr:∀ a ∈ aQ (rows x (D x)),a.b≤(L (1 - x)).b)
  (en:En G x (L x)) (Kt:En G' x (bA (L x) (aQ (rows x (D x))))) (rel:Rel G) (US:Rel G') {b:Int} (gr:j6 x b G G') (tr:pb (G.W (1 - x)) (wt G x (L x)) (bW (L x) (aQ (rows x (D x)))).ev (wt G' x (bA (L x) (aQ (rows x (D x)))))) (IA:(L x).ev=[]) (hP:∀ r,r < 2→pr r (β r) (β (1 - r))=P) (BO:∀ xs ∈ G.W s P,xs≠[]) :
  ∃ τ',Ph q fQ run' D' β G' P s τ'∧((G'.O s P=G.O s P∧G'.K (1 - s) P=G.K (1 - s) P∧τ'=τ)∨(G'.O s P+G'.K (1 - s) P=G.O s P+G.K (1 - s) P+1∧τ'=D x∧D x≤τ+q)):=by
 have ne:1 - x≠x:=by omega
 have vE:1 - x < 2:=by omega
 have e1:1 - (1 - x)=x:=by omega
 obtain ⟨sy,a1,a2,a3⟩:=xS up hx st hr
 obtain ⟨u1,u2,u3⟩:=up x hx
 obtain ⟨_,v2,v3⟩:=up (1 - x) vE
 rw [e1] at v2
 have ng:∀ a ∈ aQ (rows x (D x)),a.b≤(L x).k:=fun a ha=>by rw [u2,← v3];exact hr a ha
 obtain ⟨eA,eV⟩:=fP st
 have p1:pr x (L x).b (L x).k=P:=by rw [u2,u3];exact hP x hx
 have p2:pr x (bA (L x) (aQ (rows x (D x)))).b (bA (L x) (aQ (rows x (D x)))).k=P:=by rw [a2,a3];exact hP x hx
 have o1:=en.o
 have k1:=en.t
 have c1:=en.p
 rw [p1] at o1 k1 c1
 have o2:=Kt.o
 have k2:=Kt.t
 have c2:=Kt.p
 have w2:=Kt.ow
 rw [p2] at o2 k2 c2 w2
 have eW:=gr.w
 rw [eW] at c2 w2
 have epc:(bA (L x) (aQ (rows x (D x)))).bT=(aU (L x) (aQ (rows x (D x)))).bT:=by rw [eA]
 obtain ⟨xp,Ot⟩:∃ xp,(L x).p=some xp:=by
  cases e:(L x).p with
  | none=>exact absurd e u1
  | some y=>exact ⟨y,rfl⟩
 have UL:xp=P:=by have:=(en.up xp Ot).1;rw [p1] at this;exact this
 obtain ⟨es,HW,NY⟩:=sy.ev
 rw [IA,List.nil_append] at HW
 have kk:G'.K x P=G.K x P+(aU (L x) (aQ (rows x (D x)))).ev.length:=by
  have t2:=tr.ok.2
  rw [eV,HW] at t2
  have:=sX es (wt G x (L x)) P (by rw [← UL];exact Ot) NY
  rw [t2] at this
  rw [HW];exact this
 by_cases z:s=x
 ·subst z
  have gk:=gr.k (1 - s) ne
  have hK:G'.K (1 - s) P=G.K (1 - s) P:=by rw [gk]
  have om:=gr.om P
  obtain ⟨r1,r2,r3⟩:=rel s hs P
  obtain ⟨RY,RZ,UT⟩:=US s hs P
  rw [hK] at RY RZ UT
  rw [eW] at UT
  have Ou:G'.O s P < (G.W s P).length→NW β G' s P (cO (bA (L s) (aQ (rows s (D s))))):=fun eU=>by
   refine ⟨a3,a2,o2,?_⟩
   show (bA (L s) (aQ (rows s (D s)))).bT.headD []≠[]
   rw [c2]
   have:((G.W s P).drop (G'.O s P)).headD []=(G.W s P)[G'.O s P]:=by
    rw [List.drop_eq_getElem_cons eU];rfl
   rw [this]
   exact BO _ (List.getElem_mem eU)
  rcases h with y | ⟨y1,y2,j⟩ | ⟨y1,j⟩
  ·exact ⟨τ,.inl (by rw [eW];omega),.inl ⟨by omega,hK,rfl⟩⟩
  ·have eO:G'.O s P=G.O s P:=by omega
   refine ⟨τ,.inr (.inl ⟨by rw [hK,y1,eO],by rw [eW,eO];exact y2,?_⟩),.inl ⟨eO,hK,rfl⟩⟩
   refine ws.gv τ _ ?_ (Ou (by omega))
   refine Jn.mono j fun a ha=>?_
   unfold NW at ha ⊢
   rw [eO];exact ha
  ·by_cases w:G'.O s P=G.O s P
   ·refine ⟨τ,.inr (.inr ⟨by rw [hK,y1,w],?_⟩),.inl ⟨w,hK,rfl⟩⟩
    have j':=ws.tk τ _ j fun a ha hc=>by
     obtain ⟨q1,q2,q3⟩:=hc
     have hlp:(L s).bT≠[]:=fun z=>by
      rw [c1] at z
      have:=congrArg List.length z
      rw [List.length_drop] at this
      have z0:([]:List (List Int)).length=0:=rfl
      omega
     have:=oY _ (L s) a u1 ng ha (by rw [u2];exact q1) (by rw [u3];exact q2) hlp (by rw [q3,o1,y1];omega)
     rw [← epc,c2,c1,List.length_drop,List.length_drop] at this
     omega
    refine Jn.mono j' fun a ha=>?_
    unfold Kz at ha ⊢
    rw [hK];exact ha
   ·have eO:G'.O s P=G.O s P+1:=by omega
    have lx:=ws.lx _ _ j
    refine ⟨D s,?_,.inr ⟨by omega,rfl,lx⟩⟩
    by_cases v:G'.O s P=(G.W s P).length
    ·exact .inl (by rw [eW];exact v)
    ·exact .inr (.inl ⟨by omega,by rw [eW];omega,ws.ss _ (Ou (by omega))⟩)
 ·have R4:s=1 - x:=by omega
  subst R4
  have hO:G'.O (1 - x) P=G.O (1 - x) P:=by rw [gr.o (1 - x) ne]
  rw [e1]
  obtain ⟨r1,r2,r3⟩:=rel (1 - x) hs P
  obtain ⟨RY,RZ,UT⟩:=US (1 - x) hs P
  rw [e1] at r1 r2 r3 RY RZ UT
  rw [hO] at RY RZ
  rw [eW] at UT
  unfold Ph at h
  rw [e1] at h
  have count:Kz β G' (1 - x) P (cO (bA (L x) (aQ (rows x (D x))))):=by
   unfold Kz
   rw [e1]
   exact ⟨a3,a2,k2⟩
  rcases h with y | ⟨y1,y2,j⟩ | ⟨y1,j⟩
  ·exact ⟨τ,.inl (by rw [hO,eW];exact y),.inl ⟨hO,by omega,rfl⟩⟩
  ·by_cases w:G'.K x P=G.K x P
   ·refine ⟨τ,.inr (.inl ⟨by rw [e1,w,y1,hO],by rw [hO,eW];exact y2,?_⟩),.inl ⟨hO,w,rfl⟩⟩
    have j':=ws.tk τ _ j fun a ha hc=>by
     obtain ⟨q1,q2,q3,q4⟩:=hc
     have:=qf _ (L x) a u1 ng ha (by rw [u2];exact q1) (by rw [u3,q2,e1]) q4 (by rw [q3,k1,y1])
     rw [IA] at this
     have z0:([]:List Ev).length=0:=rfl
     omega
    rw [e1]
    refine Jn.mono j' fun a ha=>?_
    unfold NW at ha ⊢
    rw [hO];exact ha
   ·have eK:G'.K x P=G.K x P+1:=by omega
    have lx:=ws.lx _ _ j
    exact ⟨D x,.inr (.inr ⟨by rw [e1];omega,ws.ss _ count⟩),.inr ⟨by omega,rfl,lx⟩⟩
  ·have eK:G'.K x P=G.K x P:=by omega
   refine ⟨τ,.inr (.inr ⟨by rw [e1,eK,y1,hO],?_⟩),.inl ⟨hO,eK,rfl⟩⟩
   refine ws.gv τ _ ?_ count
   refine Jn.mono j fun a ha=>?_
   unfold Kz at ha ⊢
   rw [e1] at ha ⊢
   rw [eK];exact ha
end
def pre (es:List Ev) (L:Lk):Lk:={ L with ev:=es ++ L.ev }
structure JC (G F:Hp) (l:List Addr):Prop where
 nd:l.Nodup
 no:∀ b,b ∈ l→G b=none
 ne:∀ b,b ∈ l→F b≠none
 sm:aK G F
theorem JC.nil {F:Hp}:JC F F []:=⟨List.nodup_nil,fun b h=>(by cases h),fun b h=>(by cases h),aK.refl _⟩
theorem JC.cons {G G' F:Hp} {a:Addr} {l:List Addr} (s:aK G G') (h1:G a=none) (h2:G' a≠none) (c:JC G' F l):JC G F (a :: l) :=
 ⟨List.nodup_cons.mpr ⟨fun z=>h2 (c.no a z),c.nd⟩,fun b hb=>(List.mem_cons.mp hb).elim (fun z=>by rw [z];exact h1) (fun z=>s.free (c.no b z)),fun b hb=>(List.mem_cons.mp hb).elim (fun z=>by rw [z];exact fun y=>h2 (c.sm.free y)) (c.ne b),s.trans c.sm⟩
open Classical in
noncomputable def Ov (os:List Addr) (H:Hp):Hp:=fun a=>if a ∈ os then H a else none
theorem xT {os:List Addr} {H:Hp} {a:Addr} (h:a ∈ os):Ov os H a=H a:=if_pos h
theorem xU {os:List Addr} {H:Hp} {a:Addr} (h:a ∉ os):Ov os H a=none:=if_neg h
theorem A4 {os:List Addr} {H:Hp} {a:Addr} (h:Ov os H a≠none):a ∈ os:=Classical.byContradiction fun z=>h (xU z)
theorem Qp {C:Addr} {H3 H5 H6 Jh Lh JD He:Hp} {x0 x1 t0 t1 p0 p1 eL D0 D1 cL:Addr} {Gn Gp:Nat→Addr} {n:Nat} {q:Int} {al os:List Addr} (DI:aK H3 H5) (Vw:[x0,x1,t0,t1,p0,p1].Nodup) (UU:∀ a,a ∈ [x0,x1,t0,t1,p0,p1]→H5 a≠none) (z3:∀ a,a ∈ [x0,x1,t0,t1,p0,p1]→H3 a=none)
  (lk:∀ s,s < 2→∃ B0,bS C B0 H5 (a8 x0 x1 s) (a8 t0 t1 s) (a8 p0 p1 s) (a8 (nZ q 0) (nZ q 1) s)) (X2:aK H5 H6) (VU:H5 eL=none) (X3:H6 eL=some (.lst [.ref x0,.ref x1]))
  (JE:Ql H6 Jh D0 Gn n) (Ej:Ql Jh Lh D1 Gp n) (Lo:aK Lh JD) (X4:Lh cL=none) (ecL:JD cL=some (.lst [.ref D0,.ref D1])) (c:JC JD He al) (sub:∀ a,a ∈ os→a ∈ al) (val:∀ a,a ∈ os→∃ o,He a=some o∧sS o) :
  ∃ (B:Hp) (ρ:Addr→Nat),Sx Eg C B He (Ov os He) n (a8 x0 x1) (a8 t0 t1) (a8 p0 p1) (a8 D0 D1) (a8 Gn Gp) (a8 (nZ q 0) (nZ q 1)) (fun _ _=>[]) ρ ∧
   (∀ a o,H3 a=some o→B a=some o)∧B eL=some (.lst [.ref x0,.ref x1])∧B cL=some (.lst [.ref D0,.ref D1])∧∀ a o,a ∈ al→a ∉ os→He a=some o→B a=some o:=by
 have ne:∀ {G:Hp} {a b:Addr},G a≠none→G b=none→a≠b:=fun {G a b} h1 h2 z=>h1 (by rw [z];exact h2)
 have up:∀ {G G':Hp} {a:Addr},aK G G'→G a≠none→G' a≠none:=fun {G G' a} s h z=>h (s.free z)
 have sm:∀ {G:Hp} {a:Addr} {o:HO},G a=some o→G a≠none:=fun {G a o} e z=>by rw [e] at z;cases z
 have UW:=JE.sm
 have Ke:=Ej.sm
 have X5:∀ a,a ∈ [x0,x1,t0,t1,p0,p1]→H6 a≠none:=fun a ha=>up X2 (UU a ha)
 have Qq:∀ a,a ∈ [x0,x1,t0,t1,p0,p1]→Jh a≠none:=fun a ha=>up UW (X5 a ha)
 have UX:∀ a,a ∈ [x0,x1,t0,t1,p0,p1]→Lh a≠none:=fun a ha=>up Ke (Qq a ha)
 have X6:∀ a,a ∈ [x0,x1,t0,t1,p0,p1]→JD a≠none:=fun a ha=>up Lo (UX a ha)
 have off:∀ {G:Hp} {b:Addr},(∀ a,a ∈ [x0,x1,t0,t1,p0,p1]→G a≠none)→G b=none→b ∉ [x0,x1,t0,t1,p0,p1]:=fun {G b} h1 h2 hb=>h1 b hb h2
 have NZ:∀ j,j < n→Jh (Gn j)≠none:=fun j hj=>sm (JE.em j hj)
 have UY:∀ j,j < n→Lh (Gp j)≠none:=fun j hj=>sm (Ej.em j hj)
 have ap:Apart (a8 x0 x1) (a8 t0 t1) (a8 p0 p1) (a8 Gn Gp) n 0 (fun _=>0) :=
  ⟨Vw,fun j hj=>off X5 (JE.no j hj),fun j hj=>off Qq (Ej.no j hj),fun i j hi hj=>Ne.symm (ne (NZ j hj) (Ej.no i hi)),fun i j hi=>absurd hi (Nat.not_lt_zero _),fun i hi=>absurd hi (Nat.not_lt_zero _),fun i hi=>absurd hi (Nat.not_lt_zero _),fun i hi=>absurd hi (Nat.not_lt_zero _)⟩
 have zr:∀ {b:Addr},b ∉ [x0,x1,t0,t1,p0,p1]→H6 b≠none→cM (a8 x0 x1) (a8 t0 t1) (a8 p0 p1) (a8 Gn Gp) n 0 (fun _=>0) b=0:=fun {b} h1 h2=>oW h1 (fun j hj=>ne h2 (JE.no j hj)) (fun j hj=>ne (up UW h2) (Ej.no j hj)) (fun i hi=>absurd hi (Nat.not_lt_zero _))
 have zc:∀ {b:Addr},b ∈ al→cM (a8 x0 x1) (a8 t0 t1) (a8 p0 p1) (a8 Gn Gp) n 0 (fun _=>0) b=0:=fun {b} hb=>oW (off X6 (c.no b hb)) (fun j hj=>Ne.symm (ne (G:=JD) (up (Ke.trans Lo) (NZ j hj)) (c.no b hb))) (fun j hj=>Ne.symm (ne (G:=JD) (up Lo (UY j hj)) (c.no b hb))) (fun i hi=>absurd hi (Nat.not_lt_zero _))
 have UZ:Jh D0≠none:=sm JE.at_
 have X7:aK H6 He:=((UW.trans Ke).trans Lo).trans c.sm
 have s0T:aK Jh He:=(Ke.trans Lo).trans c.sm
 have s1T:aK Lh He:=Lo.trans c.sm
 obtain ⟨B,st,yes⟩:=Sx.start (Bv:=Eg) (C:=C) (H:=He) (E:=Ov os He) (n:=n) (x:=a8 x0 x1) (t:=a8 t0 t1) (p:=a8 p0 p1) (d:=a8 D0 D1) (sl:=a8 Gn Gp) (L:=a8 (nZ q 0) (nZ q 1)) ap
  (fun s hs=>by obtain ⟨B0,k⟩:=lk s hs;exact ⟨B0,k.same (X2.trans X7)⟩) (bP ⟨rfl,rfl,rfl⟩ ⟨rfl,rfl,rfl⟩)
  (bP (s0T _ _ JE.at_) (s1T _ _ Ej.at_))
  (bP (oW (off X5 JE.nD) (fun j hj=>Ne.symm (JE.nd j hj)) (fun j hj=>ne UZ (Ej.no j hj)) (fun i hi=>absurd hi (Nat.not_lt_zero _))) (oW (off Qq Ej.nD) (fun j hj=>Ne.symm (ne (NZ j hj) Ej.nD)) (fun j hj=>Ne.symm (Ej.nd j hj)) (fun i hi=>absurd hi (Nat.not_lt_zero _))))
  (bP JE.inj Ej.inj) (bP (fun j hj=>s0T _ _ (JE.em j hj)) (fun j hj=>s1T _ _ (Ej.em j hj)))
  (fun a o e=>by
   have h:=A4 (a:=a) (by rw [e];exact fun z=>by cases z)
   rw [xT h] at e;exact e)
  (fun a o e=>by
   have h:=A4 (a:=a) (by rw [e];exact fun z=>by cases z)
   rw [xT h] at e
   obtain ⟨u,h1,h2⟩:=val a h
   rw [h1] at e;cases e;exact h2)
  (fun a ha=>by
   have h:=sub a (A4 ha)
   exact ⟨zc h,Ne.symm (ne (G:=JD) (up (Ke.trans Lo) UZ) (c.no a h)),Ne.symm (ne (G:=JD) (up Lo (sm Ej.at_)) (c.no a h))⟩)
 have X8:∀ {a:Addr},JD a≠none→a ∉ os:=fun {a} h z=>h (c.no a (sub a z))
 refine ⟨B,_,st,fun a o e=>?_,yes _ _ (xU (X8 (up ((UW.trans Ke).trans Lo) (sm X3)))) (zr (off UU VU) (sm X3)) (X7 _ _ X3),yes _ _ (xU (X8 (sm ecL))) (oW (off UX X4) (fun j hj=>Ne.symm (ne (G:=Lh) (up Ke (NZ j hj)) X4)) (fun j hj=>Ne.symm (ne (UY j hj) X4)) (fun i hi=>absurd hi (Nat.not_lt_zero _))) (c.sm _ _ ecL),fun a o h1 h2 e=>yes a o (xU h2) (zc h1) e⟩
 have h5:=DI _ _ e
 have h6:=X2 _ _ h5
 exact yes a o (xU (X8 (up ((UW.trans Ke).trans Lo) (sm h6)))) (zr (fun h=>by have:=z3 a h;rw [e] at this;cases this) (sm h6)) (X7 _ _ h6)
structure Sq (T:Int) (L:Lk):Prop where
 d:L.d=T
 ev:L.ev=[]
 ok:vD L
 b0:0≤L.b
 b1:L.b≤T+1
theorem K0 (L:Lk):(bG L).ev.length≤L.ev.length+1:=by
 unfold bG
 split
 ·unfold gR
  cases L.p with
  | none=>exact Nat.le_succ _
  | some p=>show (L.ev ++ [_]).length≤_;rw [List.length_append];exact Nat.le_refl _
 ·exact Nat.le_succ _
theorem Sq.tick {T:Int} {L:Lk} {bs:List Cl} (h:Sq T L) (hb:∀ a ∈ bs,yC a.b):Sq (T+1) (bA L bs)∧(bW L bs).ev.length≤3 * bs.length+1:=by
 have h1:=sO bs L h.ok hb
 have h2:vD (fU (aU L bs) bs):=⟨h1.k,h1.o,h1.t,h1.p⟩
 have h3:=Cv h2
 obtain ⟨b1,b2⟩:=Av L bs
 have b0':=h.b0
 have b1':=h.b1
 have eb:(fU (aU L bs) bs).b=L.b:=b1
 have q:=C1 (fU (aU L bs) bs)
 have bb:(bA L bs).b=(bG (fU (aU L bs) bs)).b:=rfl
 refine ⟨⟨?_,rfl,⟨h3.k,h3.o,h3.t,h3.p⟩,?_,?_⟩,?_⟩
 ·show (bW L bs).d=_
  rw [(Eh L bs).1,h.d]
 ·rw [bb];omega
 ·rw [bb];omega
 ·have:=K0 (fU (aU L bs) bs)
  have e:(fU (aU L bs) bs).ev=(aU L bs).ev:=rfl
  rw [e] at this
  rw [h.ev] at b2
  have e2:(bW L bs).ev=(bG (fU (aU L bs) bs)).ev:=rfl
  rw [e2]
  have:([]:List Ev).length=0:=rfl
  omega
theorem Sq.put {T:Int} {L:Lk} {Lm:List (List Int)} (h:Sq T L) (hx:∀ xs ∈ Lm,Aw xs):Sq T { L with bT:=L.bT ++ Lm } :=
 ⟨h.d,h.ev,⟨h.ok.k,h.ok.o,h.ok.t,fun xs Vx=>(List.mem_append.mp Vx).elim (h.ok.p xs) fun y=>⟨(hx xs y).1.2,(hx xs y).2⟩⟩,h.b0,h.b1⟩
theorem Hr.congr {q T0:Nat} {L L':Nat→Lk} {rows:Nat→Nat→List Rw} {run D:Nat→Nat} (h:Hr q T0 L rows run D) (e:∀ r,r < 2→(L' r).q=(L r).q∧(L' r).u=(L r).u∧(L' r).k=(L r).k):Hr q T0 L' rows run D :=
 ⟨fun r hr=>by rw [(e r hr).1];exact h.Q r hr,fun r hr=>by rw [(e r hr).2.1];exact h.u0 r hr,fun r hr=>by rw [(e r hr).2.1,(e r hr).2.2];exact h.a r hr⟩
theorem Wx.congr {q late lost:Nat} {L L':Nat→Lk} {rows:Nat→Nat→List Rw} {run D:Nat→Nat} (h:Wx q late lost L rows run D) (e:∀ r,r < 2→(L' r).d=(L r).d) (hD:∀ r,r < 2→D (1 - r)≤D r):Wx q late lost L' rows run D :=
 ⟨h.hq,h.h1,fun r hr=>by rw [e r hr];exact h.d r hr,h.dd,h.rn,fun r hr φ _=>.inr (by have:=hD r hr;omega)⟩
def gI (es:List Ev):Prop:=∀ p ns,Ev.mk "silent" p ns ∉ es
theorem uD {es fs:List Ev} (h:gI es) (h':gI fs):gI (es ++ fs):=fun p ns z=>(List.mem_append.mp z).elim (h p ns) (h' p ns)
theorem z7 {w:Str} {x:Int × Int} {ms:List Int} (h:w≠"silent"):gI [.mk w x ms]:=fun p ns z=>by
 have z:=List.mem_singleton.mp z
 injection z with a
 exact h a.symm
theorem Ek {xs:List Int}:gI [.took xs]:=fun p ns z=>by
 have z:=List.mem_singleton.mp z
 cases z
theorem El {L:Lk} {a:Cl} (h:gI L.ev):gI (ar L a).ev:=by
 have mt:gI (bC L a.b).ev:=by
  unfold bC
  cases L.p with
  | none=>exact h
  | some p =>
   simp only
   split
   ·exact uD h (z7 (by decide))
   ·exact h
 have cm:∀ L:Lk,gI L.ev→gI (bH L).ev:=fun L h=>by
  unfold bH
  cases L.p with
  | none=>exact uD h (z7 (by decide))
  | some p=>exact h
 have hr:∀ (L:Lk) (c:Int),gI L.ev→gI (bF L c).ev:=fun L c h=>by
  unfold bF
  split <;> exact h
 have tk:∀ (L:Lk) (n:Int) (xs:List Int),gI L.ev→gI (bV L n xs).ev:=fun L n xs h=>by
  unfold bV
  split
  ·exact uD h Ek
  ·exact h
 unfold ar
 split
 ·exact h
 ·split
  ·exact tk _ _ _ (hr _ _ (cm _ mt))
  ·exact mt
theorem vF:∀ (bs:List Cl) (L:Lk),gI L.ev→gI (aU L bs).ev
 | [],_,h=>h
 | a :: bs,L,h=>vF bs (ar L a) (El h)
theorem pb.nm {W:Pr→List (List Int)} {a b:Wt} {es:List Ev} (h:pb W a es b):∀ w p ns,Ev.mk w p ns ∈ es→w≠"took":=by
 induction h with
 | nil=>intro w p ns z;cases z
 | up h _ _ _ _ ih =>
  intro w p ns z
  rcases List.mem_append.mp z with z | z
  ·exact ih w p ns z
  ·cases List.mem_singleton.mp z;decide
 | anew h _ ih =>
  intro w p ns z
  rcases List.mem_append.mp z with z | z
  ·exact ih w p ns z
  ·cases List.mem_singleton.mp z;decide
 | dr h _ ih =>
  intro w p ns z
  rcases List.mem_append.mp z with z | z
  ·exact ih w p ns z
  ·cases List.mem_singleton.mp z;decide
 | took h _ _ ih =>
  intro w p ns z
  rcases List.mem_append.mp z with z | z
  ·exact ih w p ns z
  ·cases List.mem_singleton.mp z
def Ow (L:Nat→Lk) (rows:Nat→Nat→List Rw) (T x:Nat) (fs:Ft):Nat→Nat→List Rw:=at2 rows (1 - x) (gE (rows (1 - x)) T (cO (bA (L x) (aQ (rows x T)))) fs)
def Gq (L:Nat→Lk) (rows:Nat→Nat→List Rw) (T x:Nat):Nat→Lk:=at2 L x (bA (L x) (aQ (rows x T)))
structure sY (q late lost T0:Nat) (L:Nat→Lk) (rows:Nat→Nat→List Rw) (run D:Nat→Nat) (G:Gh):Prop where
 hq:late+lost=q
 h1:1≤late
 pc:xP (late:Int) G L rows
 sq:∀ s,s < 2→Sq (D s:Int) (L s)
 qq:∀ s,s < 2→(L s).q=(q:Int)∧0≤(L s).u
 dd:∀ r,r < 2→D r≤D (1 - r)+1
 w0:∀ s,s < 2→∀ P,G.W s P=[]
 rn:∀ s,s < 2→D s < T0→run s=0
 r1:∀ s,s < 2→run s≤lost
 rz:(∀ s,s < 2→D s≤T0)→∀ s,s < 2→run s=0
 wx:(∀ s,s < 2→T0≤D s)→Wx q late lost L rows run D∧Hr q T0 L rows run D
 bc:(∀ s,s < 2→T0+q≤D s)→∃ β,Bc q (T0+q) β L rows run D
section
variable {q late lost T0:Nat} {L:Nat→Lk} {rows:Nat→Nat→List Rw} {run D:Nat→Nat} {G:Gh}
theorem Wx.start (hq:late+lost=q) (h1:1≤late) (hd:∀ r,r < 2→(L r).d=(D r:Int)) (rn:∀ r,r < 2→run r≤lost) (hD:∀ r,r < 2→D r=T0):Wx q late lost L rows run D :=
 ⟨hq,h1,hd,fun r hr=>by rw [hD r hr,hD (1 - r) (by omega)];exact Nat.le_succ _,rn,fun r hr φ _=>.inr (by rw [hD r hr,hD (1 - r) (by omega)];omega)⟩
theorem Hr.start (hQ:∀ r,r < 2→(L r).q=(q:Int)∧0≤(L r).u) (hD:∀ r,r < 2→D r=T0) (hk:∀ r,r < 2→T0=0→(L r).k=0):Hr q T0 L rows run D :=
 ⟨fun r hr=>(hQ r hr).1,fun r hr=>(hQ r hr).2,fun r hr=>⟨T0,Nat.le_refl _,.inr (by rw [hD (1 - r) (by omega)];omega),.inl ⟨rfl,hk r hr⟩⟩⟩
theorem sY.step {x r':Nat} {fs:Ft} (h:sY q late lost T0 L rows run D G) (hx:x < 2) (hd:D x≤D (1 - x)) (X9:(late:Int)≤6) (xM:∀ a ∈ aQ (rows x (D x)),yC a.b) (gf:gS (late:Int) fs) (hf:T0≤D x→Ei fs∨r'=run x+1) (ng:r'≤lost) (hr0:D x < T0→r'=0) :
  ∃ G',sY q late lost T0 (Gq L rows (D x) x) (Ow L rows (D x) x fs) (at2 run x r') (at2 D x (D x+1)) G'∧(T0+q≤D x→gI (bW (L x) (aQ (rows x (D x)))).ev)∧∀ w p ns,Ev.mk w p ns ∈ (bW (L x) (aQ (rows x (D x)))).ev→w≠"took":=by
 have ne:1 - x≠x:=by omega
 have vE:1 - x < 2:=by omega
 have e1:1 - (1 - x)=x:=by omega
 have YA:=h.dd (1 - x) vE
 rw [e1] at YA
 have JF:=h.sq x hx
 have YB:=(h.sq (1 - x) vE).d
 obtain ⟨G',Ox,gr,tr⟩:=h.pc.step (fs:=fs) hx JF.d (by rw [YB];omega) X9 JF.ok xM JF.ev gf
 obtain ⟨Na,_⟩:=JF.tick xM
 have YC:(D x:Int)+1=((D x+1:Nat):Int):=by omega
 have YD:∀ s,s < 2→Sq ((at2 D x (D x+1) s:Nat):Int) (Gq L rows (D x) x s):=fun s hs=>by
  unfold Gq
  by_cases z:s=x
  ·rw [z,aL,aL,← YC];exact Na
  ·rw [aS z,aS z];exact h.sq s hs
 have YE:∀ s,s < 2→(Gq L rows (D x) x s).q=(q:Int)∧0≤(Gq L rows (D x) x s).u:=fun s hs=>by
  unfold Gq
  by_cases z:s=x
  ·obtain ⟨u1,q1⟩:=Gm (L x) (aQ (rows x (D x)))
   rw [z,aL,u1,q1]
   have:=h.qq x hx
   exact ⟨this.1,by split <;> omega⟩
  ·rw [aS z];exact h.qq s hs
 have dds:∀ r,r < 2→at2 D x (D x+1) r≤at2 D x (D x+1) (1 - r)+1:=fun r hr=>by
  by_cases z:r=x
  ·rw [z,aL,aS ne];omega
  ·have:1 - r=x:=by omega
   rw [aS z,this,aL]
   have:r=1 - x:=by omega
   rw [this];omega
 have YF:∀ s,s < 2→at2 run x r' s≤lost:=fun s hs=>by
  by_cases z:s=x
  ·rw [z,aL];exact ng
  ·rw [aS z];exact h.r1 s hs
 have all2:∀ {p:Nat→Prop},p x→p (1 - x)→∀ s,s < 2→p s:=fun {p} a b s hs=>by
  by_cases z:s=x
  ·rw [z];exact a
  ·have:s=1 - x:=by omega
   rw [this];exact b
 have kb:=h.pc.kb x hx
 have Oq:∀ a ∈ aQ (rows x (D x)),a.b≤(L (1 - x)).b:=fun a ha=>by
  obtain ⟨row,q1,_,rfl⟩:=ja ha
  have:=h.pc.bi (1 - x) vE (D x) row
  rw [e1] at this
  exact (this q1).1
 by_cases hT:T0≤D x
 ·obtain ⟨wx,hr⟩:=h.wx (all2 hT (by omega))
  have ws:=wx.step (LA:=bA (L x) (aQ (rows x (D x)))) (fs:=fs) (r':=r') hx hd Na.d gf (hf hT) ng
  obtain ⟨GO,lh⟩:=hr.step hx wx ws aL (aS ne) hT
  refine ⟨G',⟨h.hq,h.h1,Ox,YD,YE,dds,fun s hs P=>by rw [gr.w];exact h.w0 s hs P,all2 (fun z=>by rw [aL] at z;omega) (fun z=>by rw [aS ne] at z;omega),YF,fun z=>?_,fun _=>⟨ws.w,GO⟩,fun z=>?_⟩,fun z=>?_,tr.nm⟩
  ·have:=z x hx
   rw [aL] at this;omega
  ·by_cases y:T0+q≤D x
   ·obtain ⟨β,bc⟩:=h.bc (all2 y (by omega))
    have lh:Still (L x) (aQ (rows x (D x))):=lh.resolve_right fun z=>by omega
    exact ⟨β,bc.step hx ws lh kb.2.1 Oq⟩
   ·have z1:=z x hx
    have z2:=z (1 - x) vE
    rw [aL] at z1
    rw [aS ne] at z2
    exact ⟨fun r=>(Gq L rows (D x) x r).b,Bc.start (fun r hr=>rfl) (all2 (by rw [aL];omega) (by rw [aS ne];omega))⟩
  ·have lh:Still (L x) (aQ (rows x (D x))):=lh.resolve_right fun z=>by omega
   rw [(fP lh).2]
   exact vF _ _ (by rw [JF.ev];exact fun p ns z=>by cases z)
 ·have r0:=hr0 (by omega)
  have hq:=h.hq
  have h1:=h.h1
  refine ⟨G',⟨h.hq,h.h1,Ox,YD,YE,dds,fun s hs P=>by rw [gr.w];exact h.w0 s hs P,all2 (fun z=>by rw [aL];exact r0) (fun z=>by rw [aS ne] at z ⊢;exact h.rn _ vE z),YF,fun z=>all2 (by rw [aL];exact r0) (by rw [aS ne];exact h.rz (all2 (by omega) (by omega)) _ vE),fun z=>?_,fun z=>?_⟩,fun z=>absurd z (by omega),tr.nm⟩
  ·have z1:=z x hx
   rw [aL] at z1
   have z2:=z (1 - x) vE
   rw [aS ne] at z2
   have hD:∀ r,r < 2→at2 D x (D x+1) r=T0:=all2 (by rw [aL];omega) (by rw [aS ne];omega)
   exact ⟨Wx.start h.hq h.h1 (fun r hr=>(YD r hr).d) YF hD,Hr.start YE hD fun _ _ z=>by omega⟩
  ·have z1:=z x hx
   rw [aL] at z1
   omega
theorem sY.start (hq:late+lost=q) (h1:1≤late):sY q late lost T0 (a8 (nZ (q:Int) 0) (nZ (q:Int) 1)) (fun _ _=>[]) (fun _=>0) (fun _=>0) ⟨fun _ _=>[],fun _ _=>0,fun _ _=>0,fun _ _=>False⟩:=by
 have sq0:∀ q s:Int,Sq 0 (nZ q s):=fun q s=>⟨rfl,rfl,⟨Qd,IK,IK,fun xs h=>(by cases h)⟩,(by show (0:Int)≤1;decide),(by show (1:Int)≤0+1;decide)⟩
 have qq:∀ s,s < 2→(a8 (nZ (q:Int) 0) (nZ (q:Int) 1) s).q=(q:Int)∧0≤(a8 (nZ (q:Int) 0) (nZ (q:Int) 1) s).u:=bP ⟨rfl,Int.le_refl _⟩ ⟨rfl,Int.le_refl _⟩
 refine ⟨hq,h1,xP.start,bP (sq0 _ _) (sq0 _ _),qq,fun _ _=>Nat.le_succ _,fun _ _ _=>rfl,fun _ _ _=>rfl,fun _ _=>Nat.zero_le _,fun _ _ _=>rfl,fun z=>?_,fun z=>?_⟩
 ·have z0:=z 0 (by decide)
  exact ⟨Wx.start hq h1 (bP rfl rfl) (fun _ _=>Nat.zero_le _) fun r _=>show (0:Nat)=T0 by omega,Hr.start qq (fun r _=>show (0:Nat)=T0 by omega) (bP (fun _=>rfl) fun _=>rfl)⟩
 ·have z0:=z 0 (by decide)
  omega
theorem sY.Ua (h:sY q late lost T0 L rows run D G) (hD:∀ s,s < 2→D s=T0+3 * q+1):∃ (β:Nat→Int) (P:Pr),NX β L∧(∀ r,r < 2→pr r (β r) (β (1 - r))=P)∧∀ s,s < 2→(L s).p=some P∧(L s).bT=[]:=by
 obtain ⟨β,bc⟩:=h.bc fun s hs=>by rw [hD s hs];omega
 obtain ⟨wx,_⟩:=h.wx fun s hs=>by rw [hD s hs];omega
 have up:=bc.up wx fun r hr=>by rw [hD r hr];omega
 have hP:∀ r,r < 2→pr r (β r) (β (1 - r))=pr 0 (β 0) (β 1):=bP rfl rfl
 refine ⟨β,_,up,hP,fun s hs=>?_⟩
 obtain ⟨u1,u2,u3⟩:=up s hs
 have en:=h.pc.en s hs
 refine ⟨?_,?_⟩
 ·cases e:(L s).p with
  | none=>exact absurd e u1
  | some y =>
   have:=(en.up y e).1
   rw [u2,u3] at this
   rw [this,hP s hs]
 ·have:=en.p
  rw [h.w0 s hs,List.drop_nil] at this
  exact this
end
abbrev Tks:=List (Nat × List Int)
def iq (t0:Nat) (ts:Tks):Nat:=(ts.getLast?.map Prod.fst).getD t0
theorem qg {t0 t:Nat} {ts:Tks} {xs:List Int}:iq t0 (ts ++ [(t,xs)])=t:=by
 unfold iq;rw [List.getLast?_concat];rfl
def Ub (q t0:Nat) (ts:Tks):Prop:=∀ (k:Nat) (x:Nat × List Int),ts[k]?=some x→x.1≤iq t0 (ts.take k)+2 * q
theorem Ub.snoc {q t0 t:Nat} {ts:Tks} {xs:List Int} (h:Ub q t0 ts) (ht:t≤iq t0 ts+2 * q):Ub q t0 (ts ++ [(t,xs)]):=fun k x hk=>by
 by_cases z:k < ts.length
 ·rw [List.getElem?_append_left z] at hk
  rw [List.take_append_of_le_length (by omega)]
  exact h k x hk
 ·rw [List.getElem?_append_right (by omega)] at hk
  have hl:k - ts.length < 1:=(List.getElem?_eq_some_iff.mp hk).1
  have e:k=ts.length:=by omega
  rw [e,Nat.sub_self] at hk
  cases hk
  rw [e,List.take_left' rfl];exact ht
def cR (t:Nat) (es:List Ev):Tks:=es.filterMap fun e=>match e with | .took xs=>some (t,xs) | _=>none
theorem xV {t:Nat}:∀ (es:List Ev),(∀ e ∈ es,∃ xs,e=.took xs)→(cR t es).length=es.length∧∀ (i:Nat) (x:Nat × List Int),(cR t es)[i]?=some x→x.1=t∧es[i]?=some (Ev.took x.2)
 | [],_=>⟨rfl,fun i x h=>by cases h⟩
 | e :: es,h=>by
  obtain ⟨xs,rfl⟩:=h e List.mem_cons_self
  obtain ⟨h1,h2⟩:=xV (t:=t) es fun e he=>h e (List.mem_cons_of_mem _ he)
  refine ⟨congrArg Nat.succ h1,fun i x hi=>?_⟩
  match i,hi with
  | 0,hi=>cases hi;exact ⟨rfl,rfl⟩
  | i+1,hi=>exact h2 i x hi
structure vT (q late lost T0 T2:Nat) (β:Nat→Int) (P:Pr) (pL:Nat→List (List Int)) (L:Nat→Lk) (rows:Nat→Nat→List Rw) (run D:Nat→Nat) (G:Gh) (cY:Nat→Tks):Prop where
 tt:T0+q≤T2
 pc:xP (late:Int) G L rows
 sq:∀ s,s < 2→Sq (D s:Int) (L s)
 dt:∀ s,s < 2→T2≤D s
 wx:Wx q late lost L rows run D
 hr:Hr q T0 L rows run D
 up:NX β L
 hP:∀ r,r < 2→pr r (β r) (β (1 - r))=P
 hw:∀ s,s < 2→G.W s P=pL s
 ph:∀ s,s < 2→∃ τ,Ph q rows run D β G P s τ∧(G.K (1 - s) P=G.O s P→τ≤iq (T2 - 1) (cY (1 - s))+q)∧(G.K (1 - s) P=G.O s P+1→τ≤iq (T2 - 1) (cY (1 - s)))
 tl:∀ s,s < 2→G.K s P=(cY s).length
 tk:∀ s,s < 2→∀ (i:Nat) (x:Nat × List Int),(cY s)[i]?=some x→(pL (1 - s))[i]?=some x.2
 go:∀ s,s < 2→Ub q (T2 - 1) (cY s)
section
variable {q late lost T0 T2:Nat} {β:Nat→Int} {P:Pr} {pL:Nat→List (List Int)} {L:Nat→Lk} {rows:Nat→Nat→List Rw} {run D:Nat→Nat} {G:Gh} {cY:Nat→Tks}
theorem vT.step {x r':Nat} {fs:Ft} (h:vT q late lost T0 T2 β P pL L rows run D G cY) (hx:x < 2) (hd:D x≤D (1 - x)) (X9:(late:Int)≤6) (xM:∀ a ∈ aQ (rows x (D x)),yC a.b) (gf:gS (late:Int) fs) (hf:Ei fs∨r'=run x+1) (ng:r'≤lost) (BO:∀ s,s < 2→∀ xs ∈ pL s,xs≠[]) :
  ∃ G',vT q late lost T0 T2 β P pL (Gq L rows (D x) x) (Ow L rows (D x) x fs) (at2 run x r') (at2 D x (D x+1)) G' (at2 cY x (cY x ++ cR (D x) (bW (L x) (aQ (rows x (D x)))).ev))∧(∀ e ∈ (bW (L x) (aQ (rows x (D x)))).ev,∃ xs,e=.took xs)∧(bW (L x) (aQ (rows x (D x)))).ev.length≤1:=by
 have ne:1 - x≠x:=by omega
 have vE:1 - x < 2:=by omega
 have e1:1 - (1 - x)=x:=by omega
 have YA:=h.wx.dd (1 - x) vE
 rw [e1] at YA
 have JF:=h.sq x hx
 have YB:=(h.sq (1 - x) vE).d
 obtain ⟨G',Ox,gr,tr⟩:=h.pc.step (fs:=fs) hx JF.d (by rw [YB];omega) X9 JF.ok xM JF.ev gf
 obtain ⟨Na,_⟩:=JF.tick xM
 have YC:(D x:Int)+1=((D x+1:Nat):Int):=by omega
 have ws:=h.wx.step (LA:=bA (L x) (aQ (rows x (D x)))) (fs:=fs) (r':=r') hx hd Na.d gf hf ng
 have hdt:=h.dt x hx
 have htt:=h.tt
 obtain ⟨GO,lh⟩:=h.hr.step hx h.wx ws aL (aS ne) (by omega)
 have lh:Still (L x) (aQ (rows x (D x))):=lh.resolve_right fun z=>by omega
 have kb:=h.pc.kb x hx
 have Oq:∀ a ∈ aQ (rows x (D x)),a.b≤(L (1 - x)).b:=fun a ha=>by
  obtain ⟨row,q1,_,rfl⟩:=ja ha
  have:=h.pc.bi (1 - x) vE (D x) row
  rw [e1] at this
  exact (this q1).1
 obtain ⟨eA,eV⟩:=fP lh
 obtain ⟨sy,a1,a2,a3⟩:=xS h.up hx lh Oq
 have YG:=h.up.step hx lh Oq
 have enx:=h.pc.en x hx
 have Kt:=Ox.en x hx
 rw [aL] at Kt
 obtain ⟨u1,u2,u3⟩:=h.up x hx
 obtain ⟨xp,Ot⟩:∃ xp,(L x).p=some xp:=by
  cases e:(L x).p with
  | none=>exact absurd e u1
  | some y=>exact ⟨y,rfl⟩
 have UL:xp=P:=by
  have:=(enx.up xp Ot).1
  rw [u2,u3] at this;exact this.trans (h.hP x hx)
 rw [UL] at Ot
 obtain ⟨es,HW,NY⟩:=sy.ev
 have HW:(bW (L x) (aQ (rows x (D x)))).ev=es:=by rw [eV,HW,JF.ev];rfl
 obtain ⟨trA,trW⟩:=tr.ok
 rw [HW] at trA trW
 have kx:G'.K x P=G.K x P+es.length:=by
  have:=sX es (wt G x (L x)) P Ot NY
  rw [trW] at this;exact this
 have k1:G'.K (1 - x)=G.K (1 - x):=gr.k _ ne
 have o1:G'.O (1 - x)=G.O (1 - x):=gr.o _ ne
 have stp:∀ s,s < 2→∀ τ,Ph q rows run D β G P s τ→∃ τ',Ph q (Ow L rows (D x) x fs) (at2 run x r') (at2 D x (D x+1)) β G' P s τ'∧((G'.O s P=G.O s P∧G'.K (1 - s) P=G.K (1 - s) P∧τ'=τ)∨(G'.O s P+G'.K (1 - s) P=G.O s P+G.K (1 - s) P+1∧τ'=D x∧D x≤τ+q)):=fun s hs τ f1 =>
  f1.step hx hs ws h.up lh Oq enx Kt h.pc.rel Ox.rel gr tr JF.ev h.hP (fun xs Vx=>by rw [h.hw s hs] at Vx;exact BO s hs xs Vx)
 obtain ⟨τ1,f1,b1,b2⟩:=h.ph (1 - x) vE
 rw [e1] at b1 b2
 obtain ⟨τ1',f1',c1⟩:=stp _ vE τ1 f1
 rw [e1,o1,kx] at c1
 obtain ⟨ra1,ra2,ra3⟩:=h.pc.rel (1 - x) vE P
 obtain ⟨rb1,Uc,rb3⟩:=Ox.rel (1 - x) vE P
 rw [e1] at ra1 ra2 ra3 rb1 Uc rb3
 rw [o1,kx] at rb1 Uc
 obtain ⟨τ2,f2,d1,d2⟩:=h.ph x hx
 obtain ⟨τ2',f2',c2⟩:=stp _ hx τ2 f2
 rw [k1] at c2
 obtain ⟨rc1,rc2,rc3⟩:=h.pc.rel x hx P
 obtain ⟨rd1,rd2,rd3⟩:=Ox.rel x hx P
 rw [k1] at rd1 rd2
 have tlx:=h.tl x hx
 obtain ⟨m1,m2⟩:=xV (t:=D x) es NY
 have tkx:∀ (i:Nat) (y:Nat × List Int),(cR (D x) es)[i]?=some y→(pL (1 - x))[(cY x).length+i]?=some y.2:=fun i y hy=>by
  obtain ⟨_,he⟩:=m2 i y hy
  have hi:i < es.length:=(List.getElem?_eq_some_iff.mp he).1
  have ok:=trA _ _ he
  obtain ⟨y0,q1,q2⟩:=ok
  have hm:∀ e ∈ es.take i,∃ xs,e=.took xs:=fun e h=>NY e (List.mem_of_mem_take h)
  have t1:=sX (es.take i) (wt G x (L x)) P Ot hm
  have pp:∀ (es:List Ev) (A:Wt),(∀ e ∈ es,∃ xs,e=.took xs)→(Ln A es).p=A.p:=by
   intro es
   induction es with
   | nil=>intro A _;rfl
   | cons e r ih =>
    intro A h
    obtain ⟨xs,rfl⟩:=h e List.mem_cons_self
    show (Ln (nT A (.took xs)) r).p=A.p
    rw [ih _ fun e he=>h e (List.mem_cons_of_mem _ he)]
    unfold nT;simp only
    cases e:A.p with
    | none=>exact e
    | some y=>rfl
  have p1:=pp (es.take i) (wt G x (L x)) hm
  rw [p1] at q1
  have ey:y0=P:=by
   have q1:(L x).p=some y0:=q1
   rw [Ot] at q1;cases q1;rfl
  rw [ey,t1,h.hw (1 - x) vE] at q2
  have hk:(wt G x (L x)).k P=G.K x P:=rfl
  rw [hk,tlx,List.length_take,Nat.min_eq_left (by omega)] at q2
  exact q2
 have all2:∀ {p:Nat→Prop},p x→p (1 - x)→∀ s,s < 2→p s:=fun {p} a b s hs=>by
  by_cases z:s=x
  ·rw [z];exact a
  ·have:s=1 - x:=by omega
   rw [this];exact b
 have Nb:es=[]∨∃ xs,es=[.took xs]∧cR (D x) es=[(D x,xs)]:=by
  match es,NY,kx,Uc with
  | [],_,_,_=>exact .inl rfl
  | [e],NY,_,_=>obtain ⟨xs,rfl⟩:=NY e List.mem_cons_self;exact .inr ⟨xs,rfl,rfl⟩
  | _ :: _ :: r,_,_,Uc=>exfalso;simp only [List.length_cons] at Uc;omega
 rw [HW]
 have eU:iq (T2 - 1) (cY x ++ cR (D x) es)=if es=[] then iq (T2 - 1) (cY x) else D x:=by
  rcases Nb with rfl | ⟨xs,rfl,e⟩
  ·rw [show cR (D x) []=[] from rfl,List.append_nil,if_pos rfl]
  ·rw [e,qg,if_neg (fun z=>by cases z)]
 refine ⟨G',⟨h.tt,Ox,fun s hs=>?_,?_,ws.w,GO,YG,h.hP,fun s hs=>by rw [gr.w];exact h.hw s hs,?_,?_,?_,?_⟩,NY,?_⟩
 ·unfold Gq
  by_cases z:s=x
  ·rw [z,aL,aL,← YC];exact Na
  ·rw [aS z,aS z];exact h.sq s hs
 ·exact all2 (by rw [aL];omega) (by rw [aS ne];exact h.dt _ vE)
 ·refine all2 ⟨τ2',f2',?_⟩ ⟨τ1',f1',?_⟩
  ·rw [aS ne,k1]
   exact ⟨fun z=>by omega,fun z=>by omega⟩
  ·rw [e1,aL,o1,kx,eU]
   rcases Nb with rfl | ⟨xs,rfl,_⟩
   ·rw [if_pos rfl]
    simp only [List.length_nil] at *
    exact ⟨fun z=>by omega,fun z=>by omega⟩
   ·rw [if_neg (fun z=>by cases z)]
    simp only [List.length_cons,List.length_nil] at *
    exact ⟨fun z=>by omega,fun z=>by omega⟩
 ·exact all2 (by rw [aL,kx,List.length_append,m1,tlx]) (by rw [aS ne,k1];exact h.tl _ vE)
 ·refine all2 (fun i y hy=>?_) (fun i y hy=>?_)
  ·rw [aL] at hy
   by_cases z:i < (cY x).length
   ·rw [List.getElem?_append_left z] at hy;exact h.tk x hx i y hy
   ·rw [List.getElem?_append_right (by omega)] at hy
    have:=tkx _ y hy
    rw [show (cY x).length+(i - (cY x).length)=i by omega] at this;exact this
  ·rw [aS ne] at hy;exact h.tk _ vE i y hy
 ·refine all2 ?_ ?_
  ·rw [aL]
   rcases Nb with rfl | ⟨xs,rfl,e⟩
   ·rw [show cR (D x) []=[] from rfl,List.append_nil];exact h.go x hx
   ·rw [e]
    refine (h.go x hx).snoc ?_
    simp only [List.length_cons,List.length_nil] at *
    have:τ1≤iq (T2 - 1) (cY x)+q:=b1 (by omega)
    omega
  ·rw [aS ne];exact h.go _ vE
 ·rcases Nb with rfl | ⟨xs,rfl,e⟩
  ·exact Nat.zero_le _
  ·exact Nat.le_refl _
def K1 (L:Nat→Lk) (pL:Nat→List (List Int)):Nat→Lk:=at2 (at2 L 0 { L 0 with bT:=pL 0 }) 1 { L 1 with bT:=pL 1 }
theorem Gr (L:Nat→Lk) (pL:Nat→List (List Int)):∀ s,s < 2→K1 L pL s={ L s with bT:=pL s }:=bP rfl rfl
theorem sY.put (h:sY q late lost T0 L rows run D G) (hD:∀ s,s < 2→D s=T0+3 * q+1) (up:NX β L) (hP:∀ r,r < 2→pr r (β r) (β (1 - r))=P) (pz:∀ s,s < 2→(L s).bT=[]) (Tv:∀ s,s < 2→∀ xs ∈ pL s,Aw xs):∃ G',vT q late lost T0 (T0+3 * q+1) β P pL (K1 L pL) rows run D G' (fun _=>[]):=by
 have w0:=h.w0
 have e0:pr 0 (L 0).b (L 0).k=P:=by obtain ⟨_,a,b⟩:=up 0 (by decide);rw [a,b];exact hP 0 (by decide)
 have e1:pr 1 (L 1).b (L 1).k=P:=by obtain ⟨_,a,b⟩:=up 1 (by decide);rw [a,b];exact hP 1 (by decide)
 have c1:=xP.Qn (by decide) (pL 0) G L h.pc (up 0 (by decide)).1
 rw [e0,pz 0 (by decide),List.nil_append] at c1
 have c2:=xP.Qn (s:=1) (by decide) (pL 1) _ _ c1 (by show (L 1).p≠none;exact (up 1 (by decide)).1)
 have q1:(at2 L 0 { L 0 with bT:=pL 0 } 1)=L 1:=rfl
 rw [q1,e1,pz 1 (by decide),List.nil_append] at c2
 have eL:=Gr L pL
 have kz:∀ s,s < 2→∀ P,G.K (1 - s) P=0∧G.O s P=0:=fun s hs P=>by
  obtain ⟨r1,r2,r3⟩:=h.pc.rel s hs P
  rw [w0 s hs P] at r3
  have:([]:List (List Int)).length=0:=rfl
  omega
 have gW:∀ s,s < 2→(nh (nh G 0 P (pL 0)) 1 P (pL 1)).W s P=pL s:=bP (by
   show cx (cx G.W 0 P (G.W 0 P ++ pL 0)) 1 P (cx G.W 0 P (G.W 0 P ++ pL 0) 1 P ++ pL 1) 0 P=pL 0
   rw [b7 (fun z=>by cases z.1),bN,w0 0 (by decide)];rfl) (by
   show cx (cx G.W 0 P (G.W 0 P ++ pL 0)) 1 P (cx G.W 0 P (G.W 0 P ++ pL 0) 1 P ++ pL 1) 1 P=pL 1
   rw [bN,b7 (fun z=>by cases z.1),w0 1 (by decide)];rfl)
 obtain ⟨wx,hr⟩:=h.wx fun s hs=>by rw [hD s hs];omega
 have YG:NX β (K1 L pL):=fun r hr=>by rw [eL r hr];exact up r hr
 have hq:=h.hq
 have h1:=h.h1
 refine ⟨nh (nh G 0 P (pL 0)) 1 P (pL 1),⟨by omega,c2,fun s hs=>?_,fun s hs=>by rw [hD s hs];exact Nat.le_refl _,wx.congr (fun r hr=>by rw [eL r hr]) (fun r hr=>by rw [hD r hr,hD (1 - r) (by omega)];exact Nat.le_refl _),hr.congr (fun r hr=>by rw [eL r hr];exact ⟨rfl,rfl,rfl⟩),YG,hP,gW,fun s hs=>⟨T0+3 * q+1,?_,fun _=>?_,fun z=>?_⟩,fun s hs=>?_,fun s hs i x z=>(by cases z),fun s hs k x z=>(by cases z)⟩⟩
 ·rw [eL s hs]
  have:=(h.sq s hs).put (Tv s hs)
  rw [pz s hs,List.nil_append] at this;exact this
 ·obtain ⟨k1,k2⟩:=kz s hs P
  have YH:(nh (nh G 0 P (pL 0)) 1 P (pL 1)).K (1 - s) P=0:=k1
  have k2':(nh (nh G 0 P (pL 0)) 1 P (pL 1)).O s P=0:=k2
  unfold Ph
  rw [gW s hs,YH,k2']
  by_cases z:(pL s).length=0
  ·exact .inl z.symm
  ·exact .inr (.inl ⟨rfl,by omega,Jn.now (by rw [show 1 - (1 - s)=s by omega,hD s hs];exact Nat.le_refl _)⟩)
 ·show T0+3 * q+1≤T0+3 * q+1 - 1+q
  omega
 ·obtain ⟨k1,k2⟩:=kz s hs P
  have YH:(nh (nh G 0 P (pL 0)) 1 P (pL 1)).K (1 - s) P=0:=k1
  rw [YH] at z
  omega
 ·obtain ⟨k1,_⟩:=kz (1 - s) (by omega) P
  rw [show 1 - (1 - s)=s by omega] at k1
  exact k1
theorem vT.done (h:vT q late lost T0 T2 β P pL L rows run D G cY) {T:Nat} (hD:∀ s,s < 2→D s=T) (s:Nat) (hs:s < 2):(cY s).length=(pL (1 - s)).length∨T≤iq (T2 - 1) (cY s)+2 * q:=by
 have vq:1 - s < 2:=by omega
 have e1:1 - (1 - s)=s:=by omega
 obtain ⟨τ,f1,b1,b2⟩:=h.ph (1 - s) vq
 obtain ⟨r1,r2,r3⟩:=h.pc.rel (1 - s) vq P
 have hl:=h.tl s hs
 rw [e1] at b1 b2 r1 r2 r3
 unfold Ph at f1
 rw [h.hw _ vq] at f1 r3
 rw [e1] at f1
 rcases f1 with y | ⟨y1,y2,j⟩ | ⟨y1,j⟩
 ·left;omega
 ·right
  have l:=h.wx.le hs j
  rw [hD s hs] at l
  have:=b1 y1
  omega
 ·right
  have l:=h.wx.le vq j
  rw [hD _ vq] at l
  have:=b2 y1
  omega
end
theorem gs {α:Type} {l:List α} {i:Nat} {x:α} (h:l[i]?=some x):l.take (i+1)=l.take i ++ [x]:=by rw [List.take_add_one,h];rfl
theorem eI {G:Hp} {a:Addr} {o:HO} (h:G a=none):aK G (upd G a o)∧(upd G a o) a=some o:=⟨(aK.refl _).new h,aD⟩
theorem Oy {late d:Int} {ts:Ts} (h:1≤d∧d≤late) (g:jW ts):gS late [(d,ts)]:=⟨by show 1≤3;decide,fun x hx=>by rw [List.mem_singleton.mp hx];exact ⟨h.1,h.2,g⟩⟩
structure YI (X:Cx) (st:Stmt) (tt:TS):Prop where
 out:PS X st tt
theorem K2 {X:Cx} (K:PySem.W.Frag) {i:Nat} {x:Str} {es:List Expr} {b:Expr} {tt:TA} {tb:TE} {lp ip pos' pos:Pos} (hN:X.N.Nodup) (hi:X.N[i]?=some x) (hx:Loc X.env.scope x) (h:Jz X es tt) (hb:PE X b tb) (hp:Fu b) (hK:X.K=K:=by rfl) (hf:X.fn x=true∨X.env.scope.names.lookup x=some .local:=by first | exact .inl rfl | exact .inr rfl | assumption) :
  YI X (.Assign [.Name x pos'] (.Subscript (.List es lp) b ip) pos) (L3 (PN (Pg K) (SO tt) tb) (ik i)):=⟨aX hN hi hx (aj (aR K hK) (bI h.out) hb hp) rfl hf⟩
theorem Qr {X:Cx} {e:Expr} {te:TE} {pos:Pos} (h:OV X e te):YI X (.Return (some e) pos) (PD te):=⟨ai h.out⟩
theorem C4 {X:Cx} {st:Stmt} {tt:TS} (h:YI X st tt):BV X [st] tt:=aJ h.out
theorem K3 {late:Int}:gS late []:=⟨by decide,fun d hd=>by cases hd⟩
def qL (K:PySem.W.Frag):Sp:=fun vs H Q _=>∃ (n:Int) (run late lost:Nat) (ma:Addr),vs=[.int n,.int (run:Int),.ref ma]∧0≤n∧cD K H ma [.int (late:Int),.int (lost:Int)]∧1≤late∧late≤6∧run≤lost ∧
 ∀ (r fB:Addr) (H':Hp) (fs:Ft) (run':Nat),aK H H'→H' r=some (.tup [.ref fB,.int (run':Int)])→jY K H' fB fs→gS (late:Int) fs→Ei fs∨run'=run+1→run'≤lost→Q (.ref r) H'
theorem iH:aV ["number","run","measure","late","lost","fate"] ["number","run","measure"] (aI fo):=⟨rfl,rfl,rfl,by decide +kernel,rfl,by decide +kernel,by decide +kernel⟩
set_option maxHeartbeats 1000000 in
theorem yZ (F:aT K mg "_law_sharp" fo) (T:Txt K mg t) (cJ:Def P w K mg base 1 "_law_turns" ["number","many"] (ka K)) (fR:Def P w K mg base 2 "_law_fate" ["number","late"] (mX K)):Def P w K mg base 3 "_law_sharp" ["number","run","measure"] (qL K):=by
 refine F.def iH (fun _ _ _ _ _ _ us hl=>match us,hl with | [_,_,_],_=>rfl) (fun vs H Q E h=>?_) (fun f bw A outer s H vs Q E hr h=>?_)
 ·obtain ⟨n,run,late,lost,ma,rfl,_⟩:=h
  rfl
 ·obtain ⟨n,run,late,lost,ma,rfl,n0,Om,h1,h6,aCS,q⟩:=h
  refine ⟨_,aE (qP (pv 2) (iw K (i:=3) (j:=4) rfl iH.nd rfl rfl (Or.inl rfl) (Or.inl rfl)))
   (aE (aX (i:=5) iH.nd rfl (Or.inl rfl) (aY (fR.mono (by decide)) hr ao (aC (pv 0) (aC (pv 3) aF))))
   (aE (Dj (bO (aZ gQ (aM ay (pv 0) aG) aG (af _))
    (C4 (K2 K (i:=5) iH.nd rfl (Or.inl rfl) (rk (zZ wR) (rk (zZ (rk (zZ (F7 (MV (aM az aG (aM ay (pv 0) (pv 3)))) (F8 (MV (aY (cJ.mono (by decide)) hr ao (aC (pv 0) (aC aG aF)))) wR))) wR)) wR)) (aM ay (aM cF (pv 0) aG) aG) (fun _ _=>rfl)))
    (aq)))
   (aE (bO (aZ Bh (bR (bM K) (by rfl) T.f6 boot_len (aC (iJ rfl (Nc:=["delay","turns"]) (ix:=[none,none]) (cG (aI fo) ["number","run","measure","late","lost","fate"] rfl rfl (by decide +kernel)) (AV K (pv 5)) (fun C fp s H=>⟨(iw K (i:=0) (j:=1) rfl (show (["delay","turns"]:List Str).Nodup by decide +kernel) rfl rfl (Or.inl rfl) (Or.inl rfl)),(vg (aZ jJ (bR (bM K) (by rfl) T.f6 boot_len (aC (pv 1) aF)) aG (af _))),(pv 1)⟩)) aF)) aG (af _))
    (aJ (ai (bK (aC (pv 5) (aC aG aF)))))
    (aq))
   (aE (bO (aZ jJ (pv 1) (pv 4) (af _))
    (aJ (ai (bK (aC (pv 5) (aC (aM az (pv 1) aG) aF)))))
    (aq))
   (C4 (Qr (zZ (rk (zZ (rk (zZ (F7 (MV (aM d9 (pv 3) (aM cE (aM ay (aM cF (pv 0) aG) aG) (aM ay (pv 0) (pv 3))))) (F8 (MV (aY (cJ.mono (by decide)) hr ao (aC (pv 0) (aC (aM ay (aM cF (pv 0) aG) aG) aF)))) wR))) wR)) (MW TL wR))))))))),?_⟩
  have pf:(2000:Nat)≤sizeLine:=by decide
  have lp:(0:Int) < (late:Int):=by omega
  refine ⟨_,rfl,lI Om ?_⟩
  refine ⟨_,rfl,_,rfl,n,(late:Int),rfl,n0,by omega,by omega,fun f0 H1 fs0 s1 XM gf0=>?_⟩
  have bd:1≤1+n % (late:Int)∧1+n % (late:Int)≤(late:Int):=by
   have:=Int.emod_nonneg n (show (late:Int)≠0 by omega)
   have:=Int.emod_lt_of_pos n lp
   omega
  refine ⟨fun σ H'=>∃ (fB:Addr) (fs:Ft),σ=[some (.int n),some (.int (run:Int)),some (.ref ma),some (.int (late:Int)),some (.int (lost:Int)),some (.ref fB)]∧aK H1 H'∧jY K H' fB fs∧gS (late:Int) fs,?_,?_⟩
  ·refine ⟨_,rfl,_,_,rfl,rfl,(by show (0:Int) < 3;decide),rfl,_,rfl,?_⟩
   by_cases z:n % 3=1
   ·refine dX (by show V.int (n % 3)=V.int 1;rw [z]) ?_
    refine ⟨zz0,fun e he=>?_⟩
    have S1:aK H1 (upd H1 e (.tup [])):=(aK.refl _).new he
    have F1:jY K (upd H1 e (.tup [])) e []:=Ko (cD.of aD)
    generalize upd H1 e (.tup [])=H2 at *
    refine ⟨_,rfl,_,rfl,_,_,rfl,rfl,lp,_,_,rfl,rfl,_,rfl,n,3,rfl,n0,by decide,fun tA H3 S2 YJ=>?_⟩
    refine ⟨zz2,fun b hb=>?_⟩
    obtain ⟨S3,p2,p3⟩:=sP (d:=1+n % (late:Int)) YJ hb
    generalize upd H3 b (.tup [.int (1+n % (late:Int)),.ref tA])=H4 at *
    refine ⟨zz1,fun a ha=>?_⟩
    have S4:aK H4 (upd H4 a (.tup [.ref b])):=(aK.refl _).new ha
    have F2:jY K (upd H4 a (.tup [.ref b])) a [(1+n % (late:Int),eH n 3)]:=uA (cD.of aD) (S4.tup p2) (p3.same S4)
    generalize upd H4 a (.tup [.ref b])=H5 at *
    refine ⟨zz2,fun ll hll=>?_⟩
    obtain ⟨S5,E5⟩:=eI (o:=.lst [.ref e,.ref a]) hll
    generalize upd H5 ll (.lst [.ref e,.ref a])=H6 at *
    have sA:=S2.trans (S3.trans (S4.trans S5))
    obtain ⟨fB,fs,YK,hF,gF⟩:∃ (fB:Addr) (fs:Ft),qA [V.ref e,V.ref a] (n / 3 % 2)=some (.ref fB)∧jY K H6 fB fs∧gS (late:Int) fs:=by
     have h2:n / 3 % 2=0∨n / 3 % 2=1:=by omega
     rcases h2 with y | y
     ·exact ⟨e,_,by rw [y];rfl,F1.same sA,K3⟩
     ·exact ⟨a,_,by rw [y];rfl,F2.same S5,Oy bd (jX n0 (by decide))⟩
    refine ⟨_,rfl,_,_,rfl,rfl,⟨by decide,by decide⟩,_,_,rfl,rfl,(by show (0:Int) < 2;decide),ll,_,_,_,rfl,rfl,ae.of E5,YK,?_⟩
    exact ⟨fB,fs,rfl,S1.trans sA,hF,gF⟩
   ·exact dE (fun w=>z (V.int.inj w)) ⟨f0,fs0,rfl,aK.refl _,XM,gf0⟩
  rintro σ H2 ⟨fB,fs,rfl,s2,hF,gF⟩
  obtain ⟨Kn,iN,g1,g2⟩:=hF
  refine ⟨_,rfl,fB,rfl,⟨_,g1⟩,fun D hD=>?_⟩
  refine QH (K:=K) (xs:=bD fs.length Kn) (fun i σ H'=>(∃ v1 v2:Option V,σ=[v1,v2])∧aK H2 H'∧∃ vs:List V,H' D=some (.lst vs)∧vs.length≤i∧(vs=[]↔∀ d ∈ fs.take i,¬ d.2.length < 3)) ⟨⟨none,none,rfl⟩,(aK.refl _).new hD,[],aD,Nat.le_refl _,⟨(fun _ d hd=>by cases hd),fun _=>rfl⟩⟩ (fun i σ H' _ ⟨_,s',_⟩=>s'.tup g1) ?_ ?_
  ·rintro j x σ H' N hN hx ⟨⟨v1,v2,rfl⟩,s5,vs,h1,h2,h3⟩
   obtain ⟨hj,rfl⟩:=tab_of hx
   have e:fs[j]?=some fs[j]:=by simp [hj]
   generalize fs[j]=d at e
   obtain ⟨k1,tt,k2,k3⟩:=g2 j d e
   have hlen:=gF.len
   refine lI (s5.tup k1) ?_
   refine ⟨_,rfl,iN j,_,rfl,.inr (s5.tup k2),_,_,rfl,rfl,_,rfl,?_⟩
   rw [aN]
   by_cases hd:d.2.length < 3
   ·refine dX (by omega) ?_
    refine ⟨_,rfl,_,h1,by omega,hN _ _ ⟨⟨_,_,rfl⟩,s5.put hD,_,aD,by rw [List.length_append];show vs.length+1≤j+1;omega,?_⟩⟩
    constructor
    ·intro z;exact absurd z (by simp)
    ·intro z
     rw [gs e] at z
     exact absurd hd (z d (List.mem_append_right _ (List.mem_singleton.mpr rfl)))
   ·refine dE (by omega) ?_
    refine hN _ _ ⟨⟨_,_,rfl⟩,s5,vs,h1,by omega,?_⟩
    rw [gs e,h3]
    constructor
    ·intro z x hx
     rcases List.mem_append.mp hx with y | y
     ·exact z x y
     ·rw [List.mem_singleton.mp y];exact hd
    ·intro z x hx
     exact z x (List.mem_append_left _ hx)
  rintro σ H3 ⟨⟨v1,v2,rfl⟩,s3,vs,e1,e2,e3⟩
  rw [aN,List.take_length] at e3
  have hF3:jY K H3 fB fs:=jY.same ⟨Kn,iN,g1,g2⟩ s3
  have YL:=s1.trans (s2.trans s3)
  refine ⟨D,_,rfl,.inl (ae.of e1),_,_,rfl,rfl,_,rfl,?_⟩
  by_cases hv:vs=[]
  ·refine dE (by rw [hv];show ¬ ((([]:List V).length:Int) > 0);decide) ?_
   refine ⟨_,rfl,_,rfl,_,_,rfl,rfl,_,rfl,?_⟩
   by_cases y:(run:Int) < (lost:Int)
   ·refine dX y ?_
    refine ⟨_,rfl,_,rfl,_,_,rfl,rfl,zz2,fun r ng=>?_⟩
    obtain ⟨s4,e4⟩:=eI (o:=.tup [.ref fB,.int ((run:Int)+1)]) ng
    exact q r fB _ fs (run+1) (YL.trans s4) (by rw [e4];rfl) (hF3.same s4) gF (.inr rfl) (by omega)
   ·refine dE y ?_
    have m2:0≤n / 18 % 3∧n / 18 % 3 < 3:=⟨Int.emod_nonneg _ (by decide),Int.emod_lt_of_pos _ (by decide)⟩
    obtain ⟨m,hm,hm3⟩:∃ m:Nat,n / 18 % 3=(m:Int)∧m < 3:=⟨(n / 18 % 3).toNat,by omega,by omega⟩
    have bd2:1≤(late:Int) - n / 9 % 2 * (n % (late:Int))∧(late:Int) - n / 9 % 2 * (n % (late:Int))≤(late:Int):=by
     have:=Int.emod_nonneg n (show (late:Int)≠0 by omega)
     have:=Int.emod_lt_of_pos n lp
     have h2:n / 9 % 2=0∨n / 9 % 2=1:=by omega
     rcases h2 with y | y <;> rw [y]
     ·rw [Int.zero_mul];omega
     ·rw [Int.one_mul];omega
    refine ⟨_,rfl,_,rfl,_,_,rfl,rfl,⟨by decide,by decide⟩,_,_,rfl,rfl,(by show (0:Int) < 2;decide),_,rfl,_,rfl,_,_,rfl,rfl,lp,_,_,rfl,rfl,.inl ⟨by omega,by omega⟩,_,_,rfl,rfl,_,rfl,_,rfl,_,_,rfl,rfl,⟨by decide,by decide⟩,_,_,rfl,rfl,(by show (0:Int) < 3;decide),n,m,by rw [← hm];rfl,n0,by omega,fun tA H4 S2 YJ=>?_⟩
    refine ⟨zz2,fun b hb=>?_⟩
    obtain ⟨S3,p2,p3⟩:=sP (d:=(late:Int) - n / 9 % 2 * (n % (late:Int))) YJ hb
    generalize upd H4 b (.tup [.int ((late:Int) - n / 9 % 2 * (n % (late:Int))),.ref tA])=H5 at *
    refine ⟨zz1,fun a ha=>?_⟩
    have S4:aK H5 (upd H5 a (.tup [.ref b])):=(aK.refl _).new ha
    have F2:jY K (upd H5 a (.tup [.ref b])) a [((late:Int) - n / 9 % 2 * (n % (late:Int)),eH n m)]:=uA (cD.of aD) (S4.tup p2) (p3.same S4)
    generalize upd H5 a (.tup [.ref b])=H6 at *
    refine ⟨zz2,fun r ng=>?_⟩
    obtain ⟨S5,E5⟩:=eI (o:=.tup [.ref a,.int 0]) ng
    exact q r a _ _ 0 (YL.trans (S2.trans (S3.trans (S4.trans S5)))) (by rw [E5];rfl) (F2.same S5) (Oy bd2 (jX n0 (by omega))) (.inl ⟨_,List.mem_cons_self,by rw [jG];exact hm3⟩) (Nat.zero_le _)
  ·refine dX (by have:vs.length≠0:=fun z=>hv (List.length_eq_zero_iff.mp z);omega) ?_
   refine ⟨_,rfl,zz2,fun r ng=>?_⟩
   obtain ⟨s4,e4⟩:=eI (o:=.tup [.ref fB,.int 0]) ng
   refine q r fB _ fs 0 (YL.trans s4) (by rw [e4];rfl) (hF3.same s4) gF (.inl ?_) (Nat.zero_le _)
   exact Classical.byContradiction fun w=>hv (e3.mpr fun d hd hl=>w ⟨d,hd,hl⟩)
def Lp:Hp:=fun _=>none
theorem K4 (H:Hp):aK Lp H:=fun _ _ e=>by cases e
theorem pd {H H':Hp} (s:aK H H'):aK (lZ Lp H) (lZ Lp H'):=fun a o e=>by
 unfold lZ at e ⊢
 split at e
 ·rename_i xs h;rw [s _ _ h];exact e
 ·rename_i b u h;rw [s _ _ h];exact e
 ·cases e
theorem xW {H:Hp} {a:Addr} {o o':HO} (h:H a=some o) (n:sS o) (n':sS o'):lZ Lp (upd H a o')=lZ Lp H:=funext fun b=>by
 by_cases z:b=a
 ·rw [z,Gj aD n',Gj h n]
 ·unfold lZ;rw [aH z]
theorem jY.lift {K:PySem.W.Frag} {B H:Hp} {a:Addr} {fs:Ft} (h:jY K H a fs):jY K (lZ B H) a fs:=by
 obtain ⟨Kn,iN,h1,h2⟩:=h
 refine ⟨Kn,iN,sT h1,fun y d e=>⟨sT (h2 y d e).1,?_⟩⟩
 obtain ⟨ts,g1,g2⟩:=(h2 y d e).2
 exact ⟨ts,sT g1,fun y q e=>sT (g2 y q e)⟩
structure JG (K:PySem.W.Frag) (H:Hp) (late lost begin:Nat) (n:Nat) (fa:Nat→Addr) (F:Nat→Ft) (R:Nat→Nat):Prop where
 ft:∀ j,j < n→jY K H (fa j) (F j)∧gS (late:Int) (F j)
 r0:∀ j,j≤begin→R j=0
 rl:∀ j,R j≤lost
 rn:∀ j,j < n→begin≤j→Ei (F j)∨R (j+1)=R j+1
theorem JG.same {K:PySem.W.Frag} {H H':Hp} {late lost begin n:Nat} {fa:Nat→Addr} {F:Nat→Ft} {R:Nat→Nat} (h:JG K H late lost begin n fa F R) (s:aK H H'):JG K H' late lost begin n fa F R :=
 ⟨fun j hj=>⟨(h.ft j hj).1.same s,(h.ft j hj).2⟩,h.r0,h.rl,h.rn⟩
theorem JG.snoc {K:PySem.W.Frag} {H:Hp} {late lost begin n r':Nat} {fa:Nat→Addr} {F:Nat→Ft} {R:Nat→Nat} {a:Addr} {fs:Ft} (h:JG K H late lost begin n fa F R) (hf:jY K H a fs) (gf:gS (late:Int) fs) (h0:n < begin→r'=0) (hl:r'≤lost) (hn:begin≤n→Ei fs∨r'=R n+1) :
  ∃ (F':Nat→Ft) (R':Nat→Nat),R' (n+1)=r'∧JG K H late lost begin (n+1) (fun j=>if j=n then a else fa j) F' R':=by
 refine ⟨fun j=>if j=n then fs else F j,fun j=>if j=n+1 then r' else R j,if_pos rfl,fun j hj=>?_,fun j hj=>?_,fun j=>?_,fun j hj hb=>?_⟩
 ·by_cases z:j=n
  ·simp only [z,if_true];exact ⟨hf,gf⟩
  ·simp only [z,if_false];exact h.ft j (by omega)
 ·by_cases z:j=n+1
  ·simp only [z,if_true];exact h0 (by omega)
  ·simp only [z,if_false];exact h.r0 j hj
 ·by_cases z:j=n+1
  ·simp only [z,if_true];exact hl
  ·simp only [z,if_false];exact h.rl j
 ·by_cases z:j=n
  ·subst z
   simp only [if_true,show ¬ j=j+1 by omega,if_false];exact hn hb
  ·simp only [z,if_false,show ¬ j=n+1 by omega,show ¬ j+1=n+1 by omega]
   exact h.rn j (by omega) hb
def nU (K:PySem.W.Frag):Sp:=fun vs H Q _=>∃ (sc ma:Addr) (ns:List Int) (sd begin ticks late lost:Nat),vs=[.ref sc,.int (sd:Int),.int (begin:Int),.int (ticks:Int),.ref ma]∧ae K H sc (ns.map V.int)∧ns.length≤63∧sd < 2∧ticks≤1000∧cD K H ma [.int (late:Int),.int (lost:Int)]∧1≤late∧late≤6 ∧
 ∀ (l:Addr) (H':Hp) (fa:Nat→Addr) (F:Nat→Ft) (R:Nat→Nat),aK H H'→H l=none→H' l=some (.lst (bD ticks fa))→JG K (lZ Lp H') late lost begin ticks fa F R→Q (.ref l) H'
theorem K5 {x y:Int} (b:Bool):qA [V.int x,V.int y] (if b=true then 1 else 0)=some (.int (if b=true then y else x)):=by
 cases b <;> rfl
theorem b9:aV ["script","side","begin","ticks","measure","told","run","tick","cell","number","fate"] ["script","side","begin","ticks","measure"] (aI fq):=⟨rfl,rfl,rfl,by decide +kernel,rfl,by decide +kernel,by decide +kernel⟩
set_option maxHeartbeats 1000000 in
theorem vU (F:aT K mg "_law_weather" fq) (T:Txt K mg t) (fS:Def P w K mg base 1 "_law_cell" ["script","k"] (mZ K)) (cz:Def P w K mg base 1 "_law_numbers" ["cell","many"] iT) (fR:Def P w K mg base 2 "_law_fate" ["number","late"] (mX K)) (md:Def P w K mg base 3 "_law_sharp" ["number","run","measure"] (qL K)):Def P w K mg base 4 "_law_weather" ["script","side","begin","ticks","measure"] (nU K):=by
 refine F.def b9 (fun _ _ _ _ _ _ us hl=>match us,hl with | [_,_,_,_,_],_=>rfl) (fun vs H Q E h=>?_) (fun f bw A outer s H vs Q E hr h=>?_)
 ·obtain ⟨sc,ma,ns,sd,begin,ticks,late,lost,rfl,_⟩:=h
  rfl
 ·obtain ⟨sc,ma,ns,sd,begin,ticks,late,lost,rfl,hS,hlen,dY,OK,Om,h1,h6,q⟩:=h
  refine ⟨_,aE (aX (i:=5) b9.nd rfl (Or.inl rfl) (bI aF))
   (aE (aX (i:=6) b9.nd rfl (Or.inl rfl) aG)
   (aE (PS.rS (cP PassesOwn.never rfl (bo (by rfl) T.cI (aC (pv 3) aF)) (aw (i:=7) b9.nd rfl (Or.inl rfl))
    (aE (aX (i:=8) b9.nd rfl (Or.inl rfl) (aM az (aY (fS.mono (by decide)) hr ao (aC (pv 0) (aC (aM az aG (aM ay (pv 7) (bR (zI rfl) (by rfl) T.Oe boot_max (aC aG (aC (bR (bM K) (by rfl) T.f6 boot_len (aC (pv 0) aF)) aF))))) aF))) (aM cF (pv 7) (bR (zI rfl) (by rfl) T.Oe boot_max (aC aG (aC (bR (bM K) (by rfl) T.f6 boot_len (aC (pv 0) aF)) aF))))))
    (aE (aX (i:=9) b9.nd rfl (Or.inl rfl) (aj (aR K) (aY (cz.mono (by decide)) hr ao (aC (pv 8) (aC aG aF))) (pv 1) (fun _ _=>rfl)))
    (aJ (bO (aZ jJ (pv 7) (pv 2) (af _))
     (aJ (av (eg K PySem.F.plainAttrs_list PySem.F.slot_list_append PySem.F.type_list_append bZ (pv 5) (aC (aY (fR.mono (by decide)) hr ao (aC (aM az (aM cE (pv 9) (aj (aR K) (bI (aC aG (aC aG aF))) (df zJ (by rfl) T.Od boot_int (aC (j8 gQ (aM ay (pv 9) aG) aG (af _)) aF)) (fun _ _=>rfl))) (aj (aR K) (bI (aC aG (aC aG aF))) (df zJ (by rfl) T.Od boot_int (aC (j8 gQ (aM ay (pv 9) aG) aG (af _)) aF)) (fun _ _=>rfl))) (aC (aj (dh K) (pv 4) aG (fun _ _=>rfl)) aF))) aF))))
     (aE (qP (aY (md.mono (by decide)) hr ao (aC (pv 9) (aC (pv 6) (aC (pv 4) aF)))) (iw K (i:=10) (j:=6) rfl b9.nd rfl rfl (Or.inl rfl) (Or.inl rfl)))
     (aJ (av (eg K PySem.F.plainAttrs_list PySem.F.slot_list_append PySem.F.type_list_append bZ (pv 5) (aC (pv 10) aF)))))))))))
   (aJ (ai (pv 5))))),?_⟩
  have pf:(2000:Nat)≤sizeLine:=by decide
  have mx0:0 < (if ((ns.map V.int).length:Int) > 1 then ((ns.map V.int).length:Int) else 1):=by split <;> omega
  have mx1:(if ((ns.map V.int).length:Int) > 1 then ((ns.map V.int).length:Int) else 1) < 1073741824:=by rw [List.length_map];split <;> omega
  refine ⟨zz0,fun l hl=>?_⟩
  refine ⟨_,rfl,(ticks:Int),rfl,by omega,by omega,?_⟩
  rw [Int.toNat_natCast]
  refine cS (lo:=0) (n:=ticks) (fun i σ H'=>∃ (fa:Nat→Addr) (F:Nat→Ft) (R:Nat→Nat) (v7 v8 v9 v10:Option V),σ=[some (.ref sc),some (.int (sd:Int)),some (.int (begin:Int)),some (.int (ticks:Int)),some (.ref ma),some (.ref l),some (.int (R i:Int)),v7,v8,v9,v10]∧aK H H'∧H' l=some (.lst (bD i fa))∧JG K (lZ Lp H') late lost begin i fa F R)
   ⟨fun _=>0,fun _=>[],fun _=>0,none,none,none,none,rfl,(aK.refl _).new hl,aD,⟨fun j hj=>absurd hj (Nat.not_lt_zero _),fun _ _=>rfl,fun _=>Nat.zero_le _,fun j hj=>absurd hj (Nat.not_lt_zero _)⟩⟩ ?_ ?_
  ·rintro i σ H1 hi ⟨fa,F,R,v7,v8,v9,v10,rfl,s1,e1,wt⟩
   rw [show (0:Int)+(i:Nat)=(i:Int) by omega]
   have Di:=s1.seq hS
   have aCZ:=Int.emod_nonneg (i:Int) (show (if ((ns.map V.int).length:Int) > 1 then ((ns.map V.int).length:Int) else 1)≠0 by omega)
   refine ⟨_,rfl,_,rfl,_,rfl,sc,_,rfl,.inl Di,_,_,rfl,_,_,rfl,rfl,mx0,_,_,rfl,rfl,sc,ns,_,rfl,Di,(by show 0≤1+(i:Int) % (if ((ns.map V.int).length:Int) > 1 then ((ns.map V.int).length:Int) else 1);omega),fun c=>?_⟩
   refine ⟨_,rfl,_,rfl,sc,_,rfl,.inl Di,_,_,rfl,_,_,rfl,rfl,⟨mx0,mx1⟩,_,_,rfl,rfl,?_⟩
   refine ⟨_,rfl,_,2,rfl,by decide,fun nl H2 ms s2 nn2 e2 Rj PY=>?_⟩
   obtain ⟨m0,m1,rfl⟩:∃ m0 m1,ms=[m0,m1]:=by
    match ms,Rj with
    | [m0,m1],_=>exact ⟨m0,m1,rfl⟩
   have n0:0≤a8 m0 m1 sd:=(bP (PY m0 (by simp)) (PY m1 (by simp)):∀ s,s < 2→0≤a8 m0 m1 s) sd dY
   refine ⟨_,rfl,nl,_,_,_,rfl,rfl,ae.of e2,NU (f:=a8 m0 m1) dY,?_⟩
   generalize a8 m0 m1 sd=n at *
   have l2:=s2 _ _ e1
   have wt2:=wt.same (pd s2)
   refine ⟨_,rfl,_,rfl,_,_,rfl,rfl,_,rfl,?_⟩
   by_cases hb:(i:Int) < (begin:Int)
   ·refine dX hb ?_
    refine ⟨_,rfl,.inl ⟨rfl,_,ae.of l2⟩,?_⟩
    refine ⟨_,rfl,zz2,fun p1 Ao=>?_⟩
    obtain ⟨S1,E1⟩:=eI (o:=.lst [.int 1,.int 0]) Ao
    generalize upd H2 p1 (.lst [.int 1,.int 0])=H3 at *
    refine ⟨_,rfl,_,_,rfl,rfl,(by show (0:Int) < 5;decide),rfl,.inr ⟨_,rfl,?_⟩⟩
    refine ⟨p1,_,_,_,rfl,rfl,ae.of E1,K5 _,?_⟩
    refine ⟨_,_,rfl,rfl,.inr (by split <;> exact ⟨by decide,by decide⟩),zz2,fun p2 yM=>?_⟩
    obtain ⟨S2,E2⟩:=eI (o:=.lst [.int 0,.int 5]) yM
    generalize upd H3 p2 (.lst [.int 0,.int 5])=H4 at *
    refine ⟨_,rfl,_,_,rfl,rfl,(by show (0:Int) < 5;decide),rfl,.inr ⟨_,rfl,?_⟩⟩
    refine ⟨p2,_,_,_,rfl,rfl,ae.of E2,K5 _,?_⟩
    have YM:=(s1.trans (s2.trans (S1.trans S2))).tup Om
    refine ⟨_,_,rfl,rfl,_,rfl,ma,_,_,_,rfl,rfl,YM,rfl,_,(late:Int),rfl,?_,by omega,by omega,fun a H5 fs s5 hf gf=>?_⟩
    ·generalize decide (V.int (n % 5)=V.int 1)=b
     cases b
     ·show 0≤n * 1+0;omega
     ·show 0≤n * 0+5;omega
    have l5:=s5 _ _ (S2 _ _ (S1 _ _ l2))
    have wt5:=wt2.same (pd (S1.trans (S2.trans s5)))
    refine ⟨l,_,_,rfl,rfl,l5,by rw [aN];omega,?_⟩
    obtain ⟨F',R',hR,YN⟩:=wt5.snoc (a:=a) (fs:=fs) (r':=R i) hf.lift gf (fun z=>wt.r0 i (by omega)) (wt.rl i) (fun z=>by omega)
    refine ⟨_,F',R',_,_,_,_,by rw [hR];rfl,(s1.trans (s2.trans (S1.trans (S2.trans s5)))).put hl,by rw [aD,bq],?_⟩
    rw [xW l5 (b5 _) (b5 _)]
    exact YN
   ·refine dE hb ?_
    have YO:=(s1.trans s2).tup Om
    refine ⟨_,rfl,_,rfl,_,rfl,n,R i,late,lost,ma,rfl,n0,YO,h1,h6,wt.rl i,fun r fB H3 fs run' s3 er hf gf Pq Kk=>?_⟩
    refine lI (cD.of er) ?_
    have l3:=s3 _ _ l2
    have wt3:=wt2.same (pd s3)
    refine ⟨_,rfl,.inl ⟨rfl,_,ae.of l3⟩,_,rfl,l,_,_,rfl,rfl,l3,by rw [aN];omega,?_⟩
    obtain ⟨F',R',hR,YN⟩:=wt3.snoc (a:=fB) (fs:=fs) (r':=run') hf.lift gf (fun z=>by omega) Kk (fun z=>Pq)
    refine ⟨_,F',R',_,_,_,_,by rw [hR];rfl,(s1.trans (s2.trans s3)).put hl,by rw [aD,bq],?_⟩
    rw [xW l3 (b5 _) (b5 _)]
    exact YN
  ·rintro σ H1 ⟨fa,F,R,v7,v8,v9,v10,rfl,s1,e1,wt⟩
   exact ⟨_,rfl,q l H1 fa F R s1 hl e1 wt⟩
theorem Nd (x:V) (l:List V):qA (x :: l) 0=some x:=by
 have h:(x :: l)[0]?=some x:=rfl
 exact fX h
theorem YQ (x y:V) (l:List V):qA (x :: y :: l) 1=some y:=by
 have h:(x :: y :: l)[1]?=some y:=rfl
 exact fX h
theorem Sx.Oz {Bv:BQ} {C:Addr} {B H E:Hp} {n:Nat} {x tA pA d:Nat→Addr} {sl:Nat→Nat→Addr} {L:Nat→Lk} {rows:Nat→Nat→List Rw} {ρ:Addr→Nat} {p:Addr} {o:HO} (mb:fN Bv) (h:Sx Bv C B H E n x tA pA d sl L rows ρ) (hp:H p=some o) (hb:B p=none) (n1:∀ s,s < 2→p≠x s∧p≠tA s∧p≠pA s) (n2:∀ s,s < 2→∀ j,j < n→p≠sl s j) (n3:E p=none) :
  Sx Bv C (upd B p o) H E n x tA pA d sl L rows ρ∧aK B (upd B p o):=by
 have sB:aK B (upd B p o):=(aK.refl _).new hb
 have Gi:aK (upd B p o) H:=fun b u e=>by
  by_cases z:b=p
  ·rw [z] at e ⊢;rw [aD] at e;rw [hp];exact e
  ·rw [aH z] at e;exact h.sb _ _ e
 refine ⟨⟨Gi,fun i hi=>?_,fun i hi=>?_,h.rx,h.rt,h.rp,h.rs,h.ee,fun a ha=>by rw [aH (fun z=>ha (by rw [z];exact n3))];exact h.eb a ha,h.er,h.en⟩,sB⟩
 ·have l:=h.lk i hi
  obtain ⟨m1,m2,m3⟩:=n1 i hi
  obtain ⟨dx,pv,g,gp⟩:=l.at_
  obtain ⟨kX,g2,Au⟩:=l.told
  obtain ⟨gj,g3,xE⟩:=l.bT
  exact ⟨Gi,by rw [aH (Ne.symm m1)];exact l.bx,by rw [aH (Ne.symm m2)];exact l.bt,by rw [aH (Ne.symm m3)];exact l.bp,⟨dx,pv,g,gp.mono sB⟩,⟨kX,g2,fun y e he=>(Au y e he).mono sB⟩,⟨gj,g3,fun y xs hy=>sB _ _ (xE y xs hy)⟩,l.ne⟩
 ·have c:=h.cg i hi
  exact ⟨sB _ _ c.dl,c.inj,fun j hj=>(c.at_ j hj).keep mb sB (by rw [aH (Ne.symm (n2 i hi j hj))];exact (c.at_ j hj).no) rfl⟩
theorem Sx.evs {C:Addr} {B H H' E:Hp} {n:Nat} {x tA pA d:Nat→Addr} {sl:Nat→Nat→Addr} {L:Nat→Lk} {rows:Nat→Nat→List Rw} {ρ:Addr→Nat} {sd:Nat} {tB:Addr} (st:Sx Eg C B H E n x tA pA d sl L rows ρ) (dY:sd < 2) (mv:jF B H B H' (x sd) (tA sd) (pA sd) tB (pA sd)) (YR:tB≠tA sd) (lk:bS C B H' (x sd) tB (pA sd) { L sd with ev:=[] }) (ev:GS B H' (tA sd) (L sd).ev) :
  ∃ B' ρ',aK B B'∧Sx Eg C B' H' E n x (at2 tA sd tB) pA d sl (at2 L sd { L sd with ev:=[] }) rows ρ'∧GS B' B' (tA sd) (L sd).ev:=by
 obtain ⟨ρ1,Vy,_⟩:=st.Vu gG dY mv lk
 have eP:at2 pA sd (pA sd)=pA:=funext fun i=>by
  by_cases z:i=sd
  ·rw [z,aL]
  ·rw [aS z]
 rw [eP] at Vy
 obtain ⟨kX,YS,Ud⟩:=ev
 have r0:=st.rt sd dY
 obtain ⟨BM,sB⟩:=Vy.Oz gG YS (st.lk sd dY).bt (fun s hs=>⟨dS r0 (st.rx s hs) (by omega),fun z=>by
   by_cases y:s=sd
   ·rw [y,aL] at z;exact YR z.symm
   ·rw [aS y] at z;exact dS r0 (st.rt s hs) (by omega) z,dS r0 (st.rp s hs) (by omega)⟩) (fun s hs j hj=>dS r0 (st.rs s hs j hj) (by omega)) (Classical.byContradiction fun z=>by have:=st.er _ z;omega)
 exact ⟨_,ρ1,sB,BM,kX,aD,fun y e he=>(Ud y e he).mono sB⟩
def gJ (t:Nat) (es:List Ev):List Nat:=es.filterMap fun e=>match e with | .mk w _ _=>if w="silent" then some t else none | _=>none
theorem vG {t:Nat} {es:List Ev} {e:Ev}:cR t (es ++ [e])=cR t es ++ cR t [e]:=by unfold cR;rw [List.filterMap_append]
theorem qh {t:Nat} {es:List Ev} {e:Ev}:gJ t (es ++ [e])=gJ t es ++ gJ t [e]:=by unfold gJ;rw [List.filterMap_append]
theorem uE {t:Nat} {es:List Ev} (h:gI es):gJ t es=[]:=by
 unfold gJ
 refine List.filterMap_eq_nil_iff.mpr fun e he=>?_
 cases e with
 | mk w p ns =>
  refine if_neg fun z=>?_
  rw [z] at he
  exact h p ns he
 | took xs=>rfl
theorem z8 (t:Nat) (es:List Ev):(gJ t es).length≤es.length:=List.length_filterMap_le _ _
theorem xX (t:Nat) (es:List Ev):(cR t es).length≤es.length:=List.length_filterMap_le _ _
theorem IX {t:Nat} {es:List Ev}:∀ n ∈ gJ t es,n=t:=fun n hn=>by
 obtain ⟨e,_,h⟩:=List.mem_filterMap.mp hn
 cases e with
 | mk w p ns =>
  simp only at h
  split at h
  ·cases h;rfl
  ·cases h
 | took xs=>cases h
def Em (B E:Hp) (a:Addr) (ts:Tks):Prop:=∃ iN C5:Nat→Addr,E a=some (.lst (bD ts.length iN))∧∀ (y:Nat) (x:Nat × List Int),ts[y]?=some x→B (iN y)=some (.tup [.int (x.1:Int),.ref (C5 y)])∧B (C5 y)=some (.lst (x.2.map V.int))
theorem Em.same {B B' E E':Hp} {a:Addr} {ts:Tks} (h:Em B E a ts) (bb:aK B B') (e:∀ o,E a=some o→E' a=some o):Em B' E' a ts:=by
 obtain ⟨iN,C5,g1,g2⟩:=h
 exact ⟨iN,C5,e _ g1,fun y x hy=>⟨bb _ _ (g2 y x hy).1,bb _ _ (g2 y x hy).2⟩⟩
theorem Em.push {B E:Hp} {a p l:Addr} {ts:Tks} {t:Nat} {xs:List Int} (h:Em B E a ts) (hp:B p=some (.tup [.int (t:Int),.ref l])) (hl:B l=some (.lst (xs.map V.int))):∃ iN:Nat→Addr,E a=some (.lst (bD ts.length iN))∧∀ E':Hp,E' a=some (.lst (bD ts.length iN ++ [.ref p]))→Em B E' a (ts ++ [(t,xs)]):=by
 obtain ⟨iN,C5,g1,g2⟩:=h
 refine ⟨iN,g1,fun E' e=>⟨fun i=>if i=ts.length then p else iN i,fun i=>if i=ts.length then l else C5 i,?_,fun y x hy=>?_⟩⟩
 ·rw [e,bq,List.length_append];rfl
 ·by_cases z:y < ts.length
  ·simp only [show ¬ y=ts.length by omega,if_false];rw [List.getElem?_append_left z] at hy;exact g2 y x hy
  ·have eU:=(List.getElem?_eq_some_iff.mp hy).1
   rw [List.length_append] at eU
   have e:y=ts.length:=by simp at eU;omega
   rw [e,List.getElem?_append_right (Nat.le_refl _),Nat.sub_self] at hy
   cases hy
   simp only [e,if_true];exact ⟨hp,hl⟩
structure JH (B E:Hp) (t:Nat→Addr) (si:Addr) (cY:Nat→Tks) (dr:List Nat):Prop where
 tk:∀ s,s < 2→Em B E (t s) (cY s)
 si:E si=some (.lst (dr.map fun (n:Nat)=>V.int (n:Int)))
theorem JH.same {B B' E:Hp} {t:Nat→Addr} {si:Addr} {cY:Nat→Tks} {dr:List Nat} (h:JH B E t si cY dr) (bb:aK B B'):JH B' E t si cY dr:=⟨fun s hs=>(h.tk s hs).same bb fun _ e=>e,h.si⟩
def Vz (t:Nat→Addr) (si:Addr) (E E':Hp):Prop:=∀ a o,a≠t 0→a≠t 1→a≠si→E a=some o→E' a=some o
theorem YT {t:Nat→Addr} {a:Addr} {sd:Nat} (dY:sd < 2) (h0:a≠t 0) (h1:a≠t 1):a≠t sd:=(bP h0 h1:∀ s,s < 2→a≠t s) sd dY
theorem YU {t:Nat→Addr} (h:t 0≠t 1) {s sd:Nat} (hs:s < 2) (dY:sd < 2) (z:s≠sd):t s≠t sd:=fun w=>by
 match s,hs,sd,dY,w,z with
 | 0,_,0,_,_,z=>exact z rfl
 | 1,_,1,_,_,z=>exact z rfl
 | 0,_,1,_,w,_=>exact h w
 | 1,_,0,_,w,_=>exact h w.symm
structure IY (B:Hp) (eL cL wL uF:Addr) (x d wA t:Nat→Addr):Prop where
 eL:B eL=some (.lst [.ref (x 0),.ref (x 1)])
 cL:B cL=some (.lst [.ref (d 0),.ref (d 1)])
 wL:B wL=some (.lst [.ref (wA 0),.ref (wA 1)])
 uF:B uF=some (.lst [.ref (t 0),.ref (t 1)])
theorem IY.same {B B':Hp} {eL cL wL uF:Addr} {x d wA t:Nat→Addr} (h:IY B eL cL wL uF x d wA t) (s:aK B B'):IY B' eL cL wL uF x d wA t:=⟨s _ _ h.eL,s _ _ h.cL,s _ _ h.wL,s _ _ h.uF⟩
structure Qs (T:Nat) (sd:Nat) (L:Nat→Lk) (rows:Nat→Nat→List Rw) (cY:Nat→Tks) (dr:List Nat):Prop where
 sq:Sq (T:Int) (L sd)
 rl:∀ s j,(rows s j).length≤900
 tl:(cY sd).length≤500000
 sl:dr.length≤500000
 nm:∀ w p ns,Ev.mk w p ns ∈ (bW (L sd) (aQ (rows sd T))).ev→w≠"took"
def sZ (K:PySem.W.Frag) (C:Addr):Sp:=fun vs H Q _=>∃ (B E:Hp) (n:Nat) (x tA pA d:Nat→Addr) (sl:Nat→Nat→Addr) (L:Nat→Lk) (rows:Nat→Nat→List Rw) (ρ:Addr→Nat) (eL cL wL uF si:Addr) (T:Nat) (wA t:Nat→Addr) (m:Nat) (fa:Nat→Nat→Addr) (fs:Nat→Ft) (late:Nat) (cY:Nat→Tks) (dr:List Nat) (I:Nat→(Nat→Lk)→(Nat→Nat→List Rw)→(Nat→Tks)→List Nat→Prop),
 vs=[.ref eL,.int (T:Int),.ref cL,.ref wL,.ref uF,.ref si]∧Sx Eg C B H E n x tA pA d sl L rows ρ∧IY B eL cL wL uF x d wA t∧(∀ s,s < 2→B (wA s)=some (.lst (bD m (fa s))))∧T < m∧T≤1000∧T+7≤n∧late≤6∧(∀ s,s < 2→jY K B (fa s T) (fs s)∧gS (late:Int) (fs s))∧(t 0≠t 1∧t 0≠si∧t 1≠si)∧JH B E t si cY dr∧I 0 L rows cY dr ∧
 (∀ sd L rows cY dr,sd < 2→I sd L rows cY dr→(∀ a ∈ aQ (rows sd T),yC a.b)→Qs T sd L rows cY dr∧I (sd+1) (Gq L rows T sd) (Ow L rows T sd (fs sd)) (at2 cY sd (cY sd ++ cR T (bW (L sd) (aQ (rows sd T))).ev)) (dr ++ gJ T (bW (L sd) (aQ (rows sd T))).ev)) ∧
 ∀ (B' H' E':Hp) (YV YW:Nat→Addr) (L':Nat→Lk) (fQ:Nat→Nat→List Rw) (ρ':Addr→Nat) (Nf:Nat→Tks) (Ng:List Nat),aK B B'→Sx Eg C B' H' E' n x YV YW d sl L' fQ ρ'→JH B' E' t si Nf Ng→Vz t si E E'→I 2 L' fQ Nf Ng→Q .cB H'
theorem i9:aV ["ends","tick","coming","weather","took","silent","side","given","event"] ["ends","tick","coming","weather","took","silent"] (aI iL):=⟨rfl,rfl,rfl,by decide +kernel,rfl,by decide +kernel,by decide +kernel⟩
set_option maxHeartbeats 2000000 in
theorem A5 {fdt fde:FuncData} (F:aT K mg "_law_tick" iL) (T:Txt K mg t) (oZ:Def P w K mg base 2 "_law_give" ["coming","cell","fate","tick","births"] (sQ K Eg)) (Eo:bz P w K mg base (j5 P w) 9 t.wa fdt ["self","cells"] (Gd t.LinkEnd)) (Er:Binds K fdt ["self","cells"] []) (xY:bz P w K mg base (j5 P w) 1 t.oE fde ["self"] (zz t.LinkEnd)) (xZ:Binds K fde ["self"] []):Def P w K mg base 10 "_law_tick" ["ends","tick","coming","weather","took","silent"] (sZ K t.LinkEnd):=by
 refine F.def i9 (fun _ _ _ _ _ _ us hl=>match us,hl with | [_,_,_,_,_,_],_=>rfl) (fun vs H Q E h=>?_) (fun f bw A outer s H vs Q E hr h=>?_)
 ·obtain ⟨B,E,n,x,tA,pA,d,sl,L,rows,ρ,eL,cL,wL,uF,si,T,wA,t',m,fa,fs,late,cY,dr,I,rfl,_⟩:=h
  rfl
 ·obtain ⟨B0,E0,n,x,tA,pA,d,sl,L,rows,ρ,eL,cL,wL,uF,si,Tk,wA,tT,m,fa,fs,late,cY,dr,I,rfl,st,O0,V0,Qt,hT,hTn,h6,hft,⟨XU,n0s,n1s⟩,ts,hI,Ue,q⟩:=h
  refine ⟨_,aJ (PS.rS (cP PassesOwn.never rfl (bo (by rfl) T.cI (aC aG aF)) (aw (i:=6) i9.nd rfl (Or.inl rfl))
    (aE (aX (i:=7) i9.nd rfl (Or.inl rfl) (pO (aj (aR K) (pv 0) (pv 6) (fun _ _=>rfl)) T.aO T.Mq (Eo.mono (by decide)) hr Er .nil ao (aC (iJ rfl (Nc:=["row"]) (ix:=[none]) (cG (aI iL) ["ends","tick","coming","weather","took","silent","side","given","event"] rfl rfl (by decide +kernel)) (bj K (aj (aR K) (aj (aR K) (pv 2) (pv 6) (fun _ _=>rfl)) (pv 1) (fun _ _=>rfl))) (fun C fp s H=>⟨(aw (i:=0) (show (["row"]:List Str).Nodup by decide +kernel) rfl (Or.inl rfl)),b6,(aj (dh K) (pv 0) aG (fun _ _=>rfl))⟩)) aF)))
    (aE (cP PassesOwn.never rfl (bj K (cj (aj (aR K) (pv 0) (pv 6) (fun _ _=>rfl)) T.aO T.Hu (xY.mono (by decide)) hr xZ .nil ao)) (aw (i:=8) i9.nd rfl (Or.inl rfl))
     (aE (bO (aZ gQ (aj (dh K) (pv 8) aG (fun _ _=>rfl)) cy (af _))
      (aJ (av (eg K PySem.F.plainAttrs_list PySem.F.slot_list_append PySem.F.type_list_append bZ (aj (aR K) (pv 4) (pv 6) (fun _ _=>rfl)) (aC (bK (aC (pv 1) (aC (aj (dh K) (pv 8) aG (fun _ _=>rfl)) aF))) aF))))
      (aq))
     (aJ (bO (aZ gQ (aj (dh K) (pv 8) aG (fun _ _=>rfl)) cy (af _))
      (aJ (av (eg K PySem.F.plainAttrs_list PySem.F.slot_list_append PySem.F.type_list_append bZ (pv 5) (aC (pv 1) aF))))
      (aq)))))
    (aJ (av (aY (oZ.mono (by decide)) hr ao (aC (aj (aR K) (pv 2) (aM d9 aG (pv 6)) (fun _ _=>rfl)) (aC (pv 7) (aC (aj (aR K) (aj (aR K) (pv 3) (pv 6) (fun _ _=>rfl)) (pv 1) (fun _ _=>rfl)) (aC (pv 1) (aC fW aF)))))))))))),?_⟩
  have pf:(1000001:Nat)≤sizeLine:=by decide
  refine ⟨2,rfl,by decide,by decide,?_⟩
  refine cS (lo:=0) (n:=2) (fun sd σ H'=>∃ (B E:Hp) (tA pA:Nat→Addr) (L:Nat→Lk) (rows:Nat→Nat→List Rw) (ρ:Addr→Nat) (cY:Nat→Tks) (dr:List Nat) (v6 v7 v8:Option V),σ=[some (.ref eL),some (.int (Tk:Int)),some (.ref cL),some (.ref wL),some (.ref uF),some (.ref si),v6,v7,v8]∧aK B0 B∧Sx Eg t.LinkEnd B H' E n x tA pA d sl L rows ρ∧JH B E tT si cY dr∧Vz tT si E0 E∧I sd L rows cY dr)
   ⟨B0,E0,tA,pA,L,rows,ρ,cY,dr,none,none,none,rfl,aK.refl _,st,ts,fun _ _ _ _ _ e=>e,hI⟩ ?_ ?_
  ·clear st ts hI
   rintro sd σ IZ dY ⟨B,E,tA,pA,L,rows,ρ,cY,dr,v6,v7,v8,rfl,Rr,st,ts,fr,hI⟩
   rw [show (0:Int)+(sd:Nat)=(sd:Int) by omega]
   have fx:=O0.same Rr
   have Ug:Tk < n:=by omega
   have vq:1 - sd < 2:=by omega
   have Cw:(1:Int) - (sd:Int)=((1 - sd:Nat):Int):=by omega
   have cg:=st.cg sd dY
   obtain ⟨Gg,r1,r2⟩:=(cg.at_ Tk Ug).at_
   have xM:∀ a ∈ aQ (rows sd Tk),yC a.b:=fun a ha=>by
    obtain ⟨row,q1,_,rfl⟩:=ja ha
    obtain ⟨j,hj⟩:=List.mem_iff_getElem?.mp q1
    obtain ⟨_,_,_,_,_,gg⟩:=r2 j row hj
    exact gg.g.b
   obtain ⟨cd,V1⟩:=Ue sd L rows cY dr dY hI xM
   have Uh:=cd.sq
   have Kk:=cd.rl
   obtain ⟨YX,_,YY,_⟩:=(st.lk sd dY).at_
   refine ⟨_,rfl,_,rfl,eL,_,_,_,rfl,rfl,ae.of (st.sb _ _ fx.eL),mY dY,x sd,YX,_,rfl,YY,rfl,_,rfl,_,rfl,cL,_,_,_,rfl,rfl,ae.of (st.sb _ _ fx.cL),mY dY,_,rfl,d sd,_,_,_,rfl,rfl,ae.of (st.sb _ _ cg.dl),fX (be Ug),sl sd Tk,rfl,⟨_,ae.of r1⟩,fun Dh hDh=>?_⟩
   refine kA (K:=K) (a:=sl sd Tk) (xs:=bD (rows sd Tk).length Gg) (fun i σ H'=>(∃ v,σ=[v])∧aK IZ H'∧∃ Qu:Nat→Addr,H' Dh=some (.lst (bD i Qu))∧∀ (y:Nat) (r:Rw),y < i→(rows sd Tk)[y]?=some r→B (Qu y)=some (.lst (tabI 24 r.f)))
    ⟨⟨none,rfl⟩,(aK.refl _).new hDh,fun _=>0,aD,fun y r hy=>absurd hy (Nat.not_lt_zero _)⟩ (fun i σ H' _ p=>ae.of (p.2.1 _ _ r1)) ?_ ?_
   ·rintro i v σ H' N hN hi ⟨⟨v0,rfl⟩,s1,Qu,w1,w2⟩
    obtain ⟨Kj,rfl⟩:=tab_of hi
    have e:(rows sd Tk)[i]?=some (rows sd Tk)[i]:=by simp [Kj]
    have aDe:=Kk sd Tk
    generalize (rows sd Tk)[i]=rr at e
    obtain ⟨c,v3,k1,k2,_⟩:=r2 i rr e
    refine ck ?_
    refine ⟨_,rfl,Gg i,_,_,_,rfl,rfl,cD.of (s1 _ _ (st.sb _ _ k1)),rfl,_,w1,by rw [aN];omega,hN _ _ ⟨⟨_,rfl⟩,s1.put hDh,fun y=>if y=i then c else Qu y,by rw [aD,bq],fun y r hy ng=>?_⟩⟩
    by_cases z:y=i
    ·rw [z,e] at ng
     cases ng
     simp only [z,if_true]
     exact k2
    ·simp only [z,if_false]
     exact w2 y r (by omega) ng
   rintro σ Ui ⟨⟨v0,rfl⟩,Nh,Qu,c1',c2'⟩
   rw [aN] at c1' c2'
   have C6:=st.same gG Nh
   have Uj:=C6.lk sd dY
   have inc:Zy Ui Dh Qu ((rows sd Tk).map Qm):=by
    refine ⟨by rw [List.length_map];exact c1',fun j cm hj=>?_⟩
    rw [List.getElem?_map] at hj
    cases e:(rows sd Tk)[j]? with
    | none=>rw [e] at hj;cases hj
    | some rr =>
     rw [e] at hj
     cases hj
     obtain ⟨_,_,_,_,_,gg⟩:=r2 j rr e
     exact ⟨C6.sb _ _ (c2' j rr (List.getElem?_eq_some_iff.mp e).1 e),gg.c,gg.m⟩
   have aDf:=Uh.b1
   refine ⟨B,x sd,tA sd,pA sd,Dh,Qu,L sd,(rows sd Tk).map Qm,rfl,Uj,inc,by rw [List.length_map];have:=Kk sd Tk;omega,by rw [Uh.ev];exact Nat.zero_le _,Uh.b0,by omega,Uh.ok,fun B18 H18 pB p mv Uk np bp Xi ep=>?_⟩
   rw [Kw] at Uk ep
   obtain ⟨ρ18,K6,_⟩:=C6.Vu gG dY mv Uk
   obtain ⟨K6,YZ⟩:=K6.Oz gG ep bp (fun s hs=>⟨fun z=>(C6.lk s hs).hx (by rw [← z];exact np),fun z=>by
    by_cases y:s=sd
    ·rw [y,aL] at z;exact Uj.ht (by rw [← z];exact np)
    ·rw [aS y] at z;exact (C6.lk s hs).ht (by rw [← z];exact np),fun z=>by
    by_cases y:s=sd
    ·rw [y,aL] at z;exact Xi z
    ·rw [aS y] at z;exact (C6.lk s hs).hp (by rw [← z];exact np)⟩) (fun s hs j hj z=>((C6.cg s hs).at_ j hj).val (by rw [← z];exact np)) (Classical.byContradiction fun z=>C6.he z np)
   have Ya:(upd B18 p (.lst (tabI 24 (bB (cO (bW (L sd) (aQ (rows sd Tk)))))))) p=some (.lst (tabI 24 (bB (cO (bW (L sd) (aQ (rows sd Tk))))))):=aD
   have Ul:=mv.bb.trans YZ
   generalize upd B18 p (.lst (tabI 24 (bB (cO (bW (L sd) (aQ (rows sd Tk)))))))=B19 at *
   have Um:=K6.lk sd dY
   obtain ⟨Yb,_,Yc,_⟩:=Um.at_
   obtain ⟨es,Nb⟩:∃ es,es=(bW (L sd) (aQ (rows sd Tk))).ev:=⟨_,rfl⟩
   refine ⟨_,rfl,_,rfl,eL,_,_,_,rfl,rfl,ae.of (K6.sb _ _ (Ul _ _ fx.eL)),mY dY,x sd,Yb,_,rfl,Yc,rfl,B19,x sd,_,_,_,rfl,Um,fun H19 tB mv2 YR Yd YS=>?_⟩
   obtain ⟨Ye,ρ20,Uo,K7,kX,Ud,ev3⟩:=K6.evs dY mv2 YR Yd YS
   have eX:at2 L sd (bW (L sd) (aQ (rows sd Tk))) sd=bW (L sd) (aQ (rows sd Tk)):=aL
   rw [eX,vt,vt] at K7
   rw [eX,← Nb] at Ud ev3
   rw [← Nb] at V1
   have hnm:=cd.nm
   rw [← Nb] at hnm
   obtain ⟨Na,Vp⟩:=Uh.tick xM
   rw [← Nb] at Vp
   have RT:(aQ (rows sd Tk)).length≤900:=Nat.le_trans (List.length_filterMap_le _ _) (Kk sd Tk)
   have htl:=cd.tl
   have ZY:=cd.sl
   have Qv:=Ul.trans Uo
   have Yf:=Uo _ _ Ya
   obtain ⟨V2,V3,K7⟩:∃ V2 V3,Sx Eg t.LinkEnd Ye H19 E n x V2 V3 d sl (Gq L rows Tk sd) rows ρ20:=⟨_,_,K7⟩
   refine ⟨_,rfl,⟨_,ae.of (K7.sb _ _ Ud)⟩,lG (K:=K) (xs:=bD es.length kX) (fun i σ H'=>∃ (B' E':Hp) (ρ':Addr→Nat) (v8:Option V),σ=[some (.ref eL),some (.int (Tk:Int)),some (.ref cL),some (.ref wL),some (.ref uF),some (.ref si),some (.int (sd:Int)),some (.ref p),v8]∧aK Ye B'∧Sx Eg t.LinkEnd B' H' E' n x V2 V3 d sl (Gq L rows Tk sd) rows ρ'∧JH B' E' tT si (at2 cY sd (cY sd ++ cR Tk (es.take i))) (dr ++ gJ Tk (es.take i))∧Vz tT si E0 E')
    ⟨Ye,E,ρ20,v8,rfl,aK.refl _,K7,?_,fr⟩ (fun i σ H' _ ⟨_,_,_,_,_,s2,s4,_⟩=>ae.of (s4.sb _ _ (s2 _ _ Ud))) ?_ ?_⟩
   ·show JH _ _ _ _ (at2 cY sd (cY sd ++ [])) (dr ++ [])
    rw [List.append_nil,List.append_nil,sV]
    exact ts.same Qv
   ·rintro i v σ H21 hi ⟨B',E',ρ',v8',rfl,C7,kS,Cz,HI⟩
    obtain ⟨Kj,rfl⟩:=tab_of hi
    obtain ⟨e,he⟩:∃ e,es[i]?=some e:=⟨_,List.getElem?_eq_getElem Kj⟩
    have IA:=(ev3 i e he).mono C7
    have OK:es.take (i+1)=es.take i ++ [e]:=gs he
    have hti:(es.take i).length≤2800:=by rw [List.length_take];omega
    cases e with
    | took xs =>
     obtain ⟨l0,k1,k2⟩:=IA
     refine ⟨_,rfl,kX i,_,_,_,rfl,rfl,cD.of (kS.sb _ _ k1),Nd _ _,rfl,_,rfl,dX rfl ?_⟩
     obtain ⟨aDj,aDk,g0,_⟩:=Cz.tk sd dY
     rw [aL] at g0
     refine ⟨_,rfl,_,rfl,uF,_,_,_,rfl,rfl,ae.of (kS.sb _ _ (C7 _ _ (Qv _ _ fx.uF))),mY dY,.inl ⟨rfl,_,ae.of (kS.ee _ _ g0)⟩,?_⟩
     refine ⟨_,rfl,_,rfl,kX i,_,_,_,rfl,rfl,cD.of (kS.sb _ _ k1),YQ _ _ _,zz2,fun pt Tu=>?_⟩
     obtain ⟨Sp,Ep⟩:=eI (o:=.tup [.int (Tk:Int),.ref l0]) Tu
     obtain ⟨BM,K8⟩:=kS.grow gG Sp Tu Ep
     have Yg:=Cz.same K8
     have tk2:=Yg.tk sd dY
     rw [aL] at tk2
     obtain ⟨iN,g1,g2⟩:=tk2.push (p:=pt) (l:=l0) (t:=Tk) (xs:=xs) aD (K8 _ _ k2)
     have gH:=BM.ee _ _ g1
     have tll:(cY sd ++ cR Tk (es.take i)).length≤600000:=by
      rw [List.length_append]
      have:=xX Tk (es.take i)
      omega
     refine ⟨tT sd,_,_,rfl,rfl,gH,by rw [aN];omega,?_⟩
     obtain ⟨ρ3,Bb⟩:=BM.put gG (a:=tT sd) (o:=.lst (bD (cY sd ++ cR Tk (es.take i)).length iN ++ [.ref pt])) (by rw [g1];exact fun z=>by cases z) (b5 _)
     refine ⟨_,rfl,kX i,_,_,_,rfl,rfl,cD.of (Bb.sb _ _ (K8 _ _ k1)),Nd _ _,rfl,_,rfl,dE (fun z=>absurd (V.str.inj z) (by decide)) ?_⟩
     refine ⟨_,_,ρ3,_,rfl,C7.trans K8,Bb,⟨fun s hs=>?_,?_⟩,fun a o h0 h1 h2 e=>?_⟩
     ·rw [OK,vG]
      by_cases z:s=sd
      ·rw [z,aL,← List.append_assoc]
       exact g2 _ aD
      ·have:=Yg.tk s hs
       rw [aS z] at this ⊢
       refine this.same (aK.refl _) fun o e=>?_
       rw [aH (YU XU hs dY z)];exact e
     ·rw [OK,qh,aH (Ne.symm ((bP n0s n1s:∀ s,s < 2→tT s≠si) sd dY))]
      show _=some (HO.lst ((dr ++ (gJ Tk (es.take i) ++ [])).map _))
      rw [List.append_nil]
      exact Yg.si
     ·rw [aH (YT dY h0 h1)];exact HI a o h0 h1 h2 e
    | mk w pp ns =>
     obtain ⟨pa,k1,k2⟩:=IA
     have hnt:=hnm w pp ns (List.mem_of_getElem? he)
     have Up:cR Tk (es.take (i+1))=cR Tk (es.take i):=by
      rw [OK,vG]
      show _ ++ []=_
      rw [List.append_nil]
     refine ⟨_,rfl,kX i,_,_,_,rfl,rfl,cD.of (kS.sb _ _ k1),Nd _ _,rfl,_,rfl,dE (fun z=>hnt (V.str.inj z)) ?_⟩
     refine ⟨_,rfl,kX i,_,_,_,rfl,rfl,cD.of (kS.sb _ _ k1),Nd _ _,rfl,_,rfl,?_⟩
     by_cases hs:w="silent"
     ·refine dX (by show V.str w=V.str _;rw [hs]) ?_
      have g1:=Cz.si
      have gH:=kS.ee _ _ g1
      have sll:(dr ++ gJ Tk (es.take i)).length≤600000:=by
       rw [List.length_append]
       have:=z8 Tk (es.take i)
       omega
      refine ⟨_,rfl,.inl ⟨rfl,_,ae.of gH⟩,_,rfl,si,_,_,rfl,rfl,gH,by rw [List.length_map];omega,?_⟩
      obtain ⟨ρ3,Bb⟩:=kS.put gG (a:=si) (o:=.lst ((dr ++ gJ Tk (es.take i)).map (fun (n:Nat)=>V.int (n:Int)) ++ [.int (Tk:Int)])) (by rw [g1];exact fun z=>by cases z) (b5 _)
      refine ⟨_,_,ρ3,_,rfl,C7,Bb,⟨fun s hs=>?_,?_⟩,fun a o h0 h1 h2 e=>?_⟩
      ·rw [Up]
       exact (Cz.tk s hs).same (aK.refl _) fun o e=>by rw [aH ((bP n0s n1s:∀ s,s < 2→tT s≠si) s hs)];exact e
      ·have e1:gJ Tk [Ev.mk w pp ns]=[Tk]:=by rw [hs];rfl
       rw [OK,qh,e1,aD,← List.append_assoc,List.map_append (l₁:=dr ++ gJ Tk (es.take i)) (l₂:=[Tk])];rfl
      ·rw [aH h2];exact HI a o h0 h1 h2 e
     ·refine dE (fun z=>hs (V.str.inj z)) ?_
      refine ⟨_,_,ρ',_,rfl,C7,kS,⟨fun s hs=>?_,?_⟩,HI⟩
      ·rw [Up];exact Cz.tk s hs
      ·have e1:gJ Tk [Ev.mk w pp ns]=[]:=uE fun p ns' z=>hs (by
        have z:=List.mem_singleton.mp z
        injection z with a
        exact a.symm)
       rw [OK,qh,e1,List.append_nil];exact Cz.si
   ·rintro σ H22 ⟨B',E',ρ',v8',rfl,C7,kS,Cz,HI⟩
    rw [aN,List.take_length] at Cz
    have Uq:=Qv.trans C7
    have RM:=C7 _ _ Yf
    obtain ⟨hf1,hf2⟩:=hft sd dY
    have Ur:Ga (bW (L sd) (aQ (rows sd Tk))):=Na.ok.give ⟨Na.b0,by have:=Na.b1;omega⟩
    refine ⟨_,rfl,_,rfl,_,_,rfl,rfl,cL,_,_,_,rfl,rfl,ae.of (kS.sb _ _ (Uq _ _ fx.cL)),by rw [Cw];exact mY vq,_,rfl,_,rfl,_,rfl,wL,_,_,_,rfl,rfl,ae.of (kS.sb _ _ (Uq _ _ fx.wL)),mY dY,_,rfl,wA sd,_,_,_,rfl,rfl,ae.of (kS.sb _ _ (Uq _ _ (Rr _ _ (V0 sd dY)))),fX (be Qt),_,rfl,?_⟩
    refine ⟨B',d (1 - sd),p,fa sd Tk,Tk,.cB,sl (1 - sd),n,rows (1 - sd),cO (bW (L sd) (aQ (rows sd Tk))),fs sd,(late:Int),rfl,kS.sb,kS.cg (1 - sd) vq,kS.sb _ _ RM,Ur,rfl,hf1.same (Rr.trans (Uq.trans kS.sb)),hf2,by omega,by omega,fun j hj=>?_,fun j hj z=>?_,fun B5 H27 gv cg2=>?_⟩
    ·have:=Kk (1 - sd) j;omega
    ·have:=((kS.cg (1 - sd) vq).at_ j hj).no
     rw [← z,RM] at this;cases this
    have Yh:=kS.gv gG vq gv cg2
    exact ⟨B5,E',V2,V3,_,_,ρ',_,_,_,_,_,rfl,Rr.trans (Uq.trans gv.bb),Yh,Cz.same gv.bb,HI,V1⟩
  ·rintro σ IZ ⟨B,E,tA,pA,L,rows,ρ,cY,dr,v6,v7,v8,rfl,Rr,st,ts,fr,hI⟩
   exact q B IZ E tA pA L rows ρ cY dr Rr st ts fr hI
def Gs (t0:Int) (ts:Tks):List V:=V.int t0 :: ts.map fun x=>V.int (x.1:Int)
theorem Ni (t0:Int) (ts:Tks):(Gs t0 ts).length=ts.length+1:=by unfold Gs;rw [List.length_cons,List.length_map]
theorem Qw {t0:Nat} {ts:Tks} {k:Nat} (hk:k≤ts.length):(Gs (t0:Int) ts)[k]?=some (.int (iq t0 (ts.take k):Int)):=by
 cases k with
 | zero=>rfl
 | succ k =>
  obtain ⟨x,hx⟩:∃ x,ts[k]?=some x:=⟨_,List.getElem?_eq_getElem (by omega)⟩
  rw [gs hx]
  obtain ⟨x1,x2⟩:=x
  rw [qg]
  show (ts.map fun x=>V.int (x.1:Int))[k]?=_
  rw [List.getElem?_map,hx]
  rfl
theorem K9 (t0:Nat) (ts:Tks):qA (Gs (t0:Int) ts) (-1)=some (.int (iq t0 ts:Int)):=by
 rcases List.eq_nil_or_concat ts with rfl | ⟨l,x,rfl⟩
 ·exact Bn [] _
 ·obtain ⟨x1,x2⟩:=x
  have e:Gs (t0:Int) (l.concat (x1,x2))=Gs (t0:Int) l ++ [V.int (x1:Int)]:=by unfold Gs;rw [List.concat_eq_append,List.map_append];rfl
  rw [e,Bn,List.concat_eq_append,qg]
def nV:Sp:=fun vs H Q _=>∃ (O1:Addr) (ts:Tks) (iN C5:Nat→Addr) (T1 last q many:Nat),vs=[.ref O1,.int ((T1+1:Nat):Int),.int (last:Int),.int (q:Int),.int (many:Int)]∧H O1=some (.lst (bD ts.length iN))∧(∀ (y:Nat) (x:Nat × List Int),ts[y]?=some x→H (iN y)=some (.tup [.int (x.1:Int),.ref (C5 y)]))∧ts.length≤1000∧Ub q T1 ts∧(ts.length=many∨last < iq T1 ts+2 * q)∧∀ H',aK H H'→Q (.bl true) H'
theorem iU:aV ["took","begin","last","quiet","many","ticks","k"] ["took","begin","last","quiet","many"] (aI da):=⟨rfl,rfl,rfl,by decide +kernel,rfl,by decide +kernel,by decide +kernel⟩
set_option maxHeartbeats 1000000 in
theorem vV (F:aT K mg "_law_gone_on" da) (T:Txt K mg t):Def P w K mg base 1 "_law_gone_on" ["took","begin","last","quiet","many"] nV:=by
 refine F.def iU (fun _ _ _ _ _ _ us hl=>match us,hl with | [_,_,_,_,_],_=>rfl) (fun vs H Q E h=>?_) (fun f bw A outer s H vs Q E hr h=>?_)
 ·obtain ⟨O1,ts,iN,C5,T1,last,qq,many,rfl,_⟩:=h
  rfl
 ·obtain ⟨O1,ts,iN,C5,T1,last,qq,many,rfl,e0,e1,hl,go,V4,q⟩:=h
  refine ⟨_,aE (aX (i:=5) iU.nd rfl (Or.inl rfl) (aM (kD K) (bI (aC (aM d9 (pv 1) aG) aF)) (iJ rfl (Nc:=["pair"]) (ix:=[none]) (cG (aI da) ["took","begin","last","quiet","many","ticks","k"] rfl rfl (by decide +kernel)) (bj K (pv 0)) (fun C fp s H=>⟨(aw (i:=0) (show (["pair"]:List Str).Nodup by decide +kernel) rfl (Or.inl rfl)),b6,(aj (dh K) (pv 0) aG (fun _ _=>rfl))⟩))))
   (aE (PS.rS (cP PassesOwn.never rfl (bo (by rfl) T.cI (aC (aM d9 (bR (bM K) (by rfl) T.f6 boot_len (aC (pv 5) aF)) aG) aF)) (aw (i:=6) iU.nd rfl (Or.inl rfl))
    (aJ (bO (aZ Bh (aM d9 (aj (aR K) (pv 5) (aM az (pv 6) aG) (fun _ _=>rfl)) (aj (aR K) (pv 5) (pv 6) (fun _ _=>rfl))) (aM cE aG (pv 3)) (af _))
     (aJ (ai BW))
     (aq)))))
   (aJ (ai (R7 (j8 gQ (bR (bM K) (by rfl) T.f6 boot_len (aC (pv 0) aF)) (pv 4) (af _)) (PC (j8 jJ (aM d9 (pv 2) (aj (aR K) (pv 5) (Bf vy aG) (fun _ _=>rfl))) (aM cE aG (pv 3)) (af _))))))),?_⟩
  have pf:(2000:Nat)≤sizeLine:=by decide
  refine ⟨_,rfl,_,_,rfl,rfl,zz1,fun l1 UQ=>?_⟩
  have et:((T1+1:Nat):Int) - 1=(T1:Int):=by omega
  dsimp only
  rw [et]
  obtain ⟨S1,E1⟩:=eI (o:=.lst [.int (T1:Int)]) UQ
  generalize upd H l1 (.lst [.int (T1:Int)])=H1 at *
  refine ⟨_,rfl,O1,rfl,⟨_,ae.of (S1 _ _ e0)⟩,fun D hD=>?_⟩
  refine kA (K:=K) (a:=O1) (xs:=bD ts.length iN) (fun i σ H'=>(∃ v,σ=[v])∧aK H1 H'∧H' D=some (.lst ((ts.take i).map fun x=>V.int (x.1:Int))))
   ⟨⟨none,rfl⟩,(aK.refl _).new hD,aD⟩ (fun i σ H' _ p=>ae.of (p.2.1 _ _ (S1 _ _ e0))) ?_ ?_
  ·rintro i v σ H' N hN hi ⟨⟨v0,rfl⟩,s1,w1⟩
   obtain ⟨Kj,rfl⟩:=tab_of hi
   obtain ⟨x,hx⟩:∃ x,ts[i]?=some x:=⟨_,List.getElem?_eq_getElem Kj⟩
   refine ck ?_
   refine ⟨_,rfl,iN i,_,_,_,rfl,rfl,cD.of (s1 _ _ (S1 _ _ (e1 i x hx))),rfl,_,w1,by rw [List.length_map,List.length_take];omega,hN _ _ ⟨⟨_,rfl⟩,s1.put hD,?_⟩⟩
   rw [aD,gs hx,List.map_append];rfl
  rintro σ H2 ⟨⟨v0,rfl⟩,s2,w2⟩
  rw [aN,List.take_length] at w2
  have e2:=s2 _ _ E1
  refine ⟨l1,D,_,_,rfl,rfl,ae.of e2,ae.of w2,by rw [List.length_map];show 1+ts.length≤sizeLine;omega,fun l2 Rj=>?_⟩
  obtain ⟨S3,E3⟩:=eI (o:=.lst (Gs (T1:Int) ts)) Rj
  have Yi:=S1.trans (s2.trans S3)
  have E3':(upd H2 l2 (.lst ([V.int (T1:Int)] ++ ts.map fun x=>V.int (x.1:Int))))=upd H2 l2 (.lst (Gs (T1:Int) ts)):=rfl
  rw [E3']
  generalize upd H2 l2 (.lst (Gs (T1:Int) ts))=H3 at *
  have Yj:=Ni (T1:Int) ts
  refine ⟨_,rfl,l2,_,rfl,.inl (ae.of E3),_,_,rfl,rfl,((Gs (T1:Int) ts).length:Int) - 1,rfl,by rw [Yj];omega,by rw [Yj];omega,?_⟩
  rw [show (((Gs (T1:Int) ts).length:Int) - 1).toNat=ts.length by rw [Yj];omega]
  refine cS (lo:=0) (n:=ts.length) (fun i σ H'=>∃ v6:Option V,σ=[some (.ref O1),some (.int ((T1+1:Nat):Int)),some (.int (last:Int)),some (.int (qq:Int)),some (.int (many:Int)),some (.ref l2),v6]∧H'=H3) ⟨none,rfl,rfl⟩ ?_ ?_
  ·rintro i σ H' hi ⟨v6,rfl,rfl⟩
   rw [show (0:Int)+(i:Nat)=(i:Int) by omega]
   obtain ⟨x,hx⟩:∃ x,ts[i]?=some x:=⟨_,List.getElem?_eq_getElem hi⟩
   have g:=go i x hx
   have a1:qA (Gs (T1:Int) ts) ((i:Int)+1)=some (.int (x.1:Int)):=by
    rw [show (i:Int)+1=((i+1:Nat):Int) by omega]
    refine fX ?_
    show (ts.map fun x=>V.int (x.1:Int))[i]?=_
    rw [List.getElem?_map,hx];rfl
   have a0:qA (Gs (T1:Int) ts) (i:Int)=some (.int (iq T1 (ts.take i):Int)):=fX (Qw (by omega))
   refine ⟨_,rfl,_,rfl,_,_,rfl,rfl,l2,_,_,_,rfl,rfl,ae.of E3,a1,_,rfl,_,rfl,l2,_,_,_,rfl,rfl,ae.of E3,a0,_,_,rfl,rfl,_,rfl,_,_,rfl,rfl,.inl ⟨by decide,by decide⟩,_,_,rfl,rfl,_,rfl,dE (by show ¬ ((x.1:Int) - (iq T1 (ts.take i):Int) > 2 * (qq:Int));omega) ?_⟩
   exact ⟨_,rfl,rfl⟩
  ·rintro σ H' ⟨v6,rfl,rfl⟩
   have e5:=Yi _ _ e0
   refine ⟨_,rfl,O1,_,rfl,.inl (ae.of e5),_,rfl,rfl,_,rfl,?_⟩
   rw [aN]
   by_cases z:ts.length=many
   ·refine dX (by rw [z]) ?_
    exact q _ Yi
   ·refine dE (fun y=>z (by have:=V.int.inj y;omega)) ?_
    have h2:=V4.resolve_left z
    refine ⟨_,rfl,_,rfl,_,rfl,l2,_,_,_,rfl,rfl,ae.of E3,K9 T1 ts,_,_,rfl,rfl,_,rfl,_,_,rfl,rfl,.inl ⟨by decide,by decide⟩,_,_,rfl,rfl,?_⟩
    have:decide ((last:Int) - (iq T1 ts:Int) < 2 * (qq:Int))=true:=decide_eq_true (by omega)
    dsimp only
    rw [this]
    exact q _ Yi
section
variable {q late lost T0 T1 T2:Nat} {L:Nat→Lk} {rows:Nat→Nat→List Rw} {run run' D D':Nat→Nat} {β:Nat→Int} {G:Gh} {P:Pr} {pL:Nat→List (List Int)} {r s τ:Nat} {φ:Cl→Prop} {cY:Nat→Tks}
theorem C8 (e:∀ s,s < 2→D' s=D s) (f:∀ s,s < 2→run' s=run s) (hr:r < 2) (j:Jd q rows run D r τ φ):Jd q rows run' D' r τ φ:=by
 show Jn q (rows r) (D' r) (D' (1 - r)) (run' (1 - r)) τ φ
 rw [e r hr,e (1 - r) (by omega),f (1 - r) (by omega)];exact j
theorem Wx.Gu (h:Wx q late lost L rows run D) (e:∀ s,s < 2→D' s=D s) (f:∀ s,s < 2→run' s=run s):Wx q late lost L rows run' D' :=
 ⟨h.hq,h.h1,fun r hr=>by rw [e r hr];exact h.d r hr,fun r hr=>by rw [e r hr,e (1 - r) (by omega)];exact h.dd r hr,fun r hr=>by rw [f r hr];exact h.rn r hr,fun r hr φ hφ=>by rw [e r hr,e (1 - r) (by omega),f (1 - r) (by omega)];exact h.e r hr φ hφ⟩
theorem Hr.Gu (h:Hr q T0 L rows run D) (e:∀ s,s < 2→D' s=D s) (f:∀ s,s < 2→run' s=run s):Hr q T0 L rows run' D' :=
 ⟨h.Q,h.u0,fun r hr=>by obtain ⟨τ,a1,a2,a3⟩:=h.a r hr;exact ⟨τ,a1,C8 e f hr a2,by rw [e r hr];exact a3⟩⟩
theorem Bc.Gu (h:Bc q T1 β L rows run D) (e:∀ s,s < 2→D' s=D s) (f:∀ s,s < 2→run' s=run s):Bc q T1 β L rows run' D' :=
 ⟨h.b,fun r hr=>(h.c r hr).imp id (C8 e f hr),fun r hr=>(h.u r hr).imp id fun z=>z.imp id fun ⟨a,τ,b,c⟩=>⟨a,τ,b,C8 e f hr c⟩⟩
theorem Ph.Gu (h:Ph q rows run D β G P s τ) (hs:s < 2) (e:∀ s,s < 2→D' s=D s) (f:∀ s,s < 2→run' s=run s):Ph q rows run' D' β G P s τ :=
 Or.imp id (Or.imp (fun ⟨a,b,c⟩=>⟨a,b,C8 e f (by omega) c⟩) (fun ⟨a,c⟩=>⟨a,C8 e f hs c⟩)) h
theorem sY.Gu (h:sY q late lost T0 L rows run D G) (e:∀ s,s < 2→D' s=D s) (f:∀ s,s < 2→run' s=run s):sY q late lost T0 L rows run' D' G :=
 ⟨h.hq,h.h1,h.pc,fun s hs=>by rw [e s hs];exact h.sq s hs,h.qq,fun r hr=>by rw [e r hr,e (1 - r) (by omega)];exact h.dd r hr,h.w0,fun s hs=>by rw [e s hs,f s hs];exact h.rn s hs,fun s hs=>by rw [f s hs];exact h.r1 s hs,fun z s hs=>by rw [f s hs];exact h.rz (fun s hs=>by rw [← e s hs];exact z s hs) s hs,
  fun z=>by obtain ⟨a,b⟩:=h.wx (fun s hs=>by rw [← e s hs];exact z s hs);exact ⟨a.Gu e f,b.Gu e f⟩,fun z=>by obtain ⟨β,b⟩:=h.bc (fun s hs=>by rw [← e s hs];exact z s hs);exact ⟨β,b.Gu e f⟩⟩
theorem vT.Gu (h:vT q late lost T0 T2 β P pL L rows run D G cY) (e:∀ s,s < 2→D' s=D s) (f:∀ s,s < 2→run' s=run s):vT q late lost T0 T2 β P pL L rows run' D' G cY :=
 ⟨h.tt,h.pc,fun s hs=>by rw [e s hs];exact h.sq s hs,fun s hs=>by rw [e s hs];exact h.dt s hs,h.wx.Gu e f,h.hr.Gu e f,h.up,h.hP,h.hw,fun s hs=>by obtain ⟨τ,a,b⟩:=h.ph s hs;exact ⟨τ,a.Gu hs e f,b⟩,h.tl,h.tk,h.go⟩
end
def dn (sd T:Nat):Nat→Nat:=fun s=>if s < sd then T+1 else T
theorem qM {sd T:Nat}:dn sd T sd=T:=if_neg (Nat.lt_irrefl _)
theorem Gw {sd T:Nat}:at2 (dn sd T) sd (T+1)=dn (sd+1) T:=funext fun s=>by
 unfold dn
 by_cases z:s=sd
 ·rw [z,aL,if_pos (by omega)]
 ·rw [aS z]
  by_cases y:s < sd
  ·rw [if_pos y,if_pos (by omega)]
  ·rw [if_neg y,if_neg (by omega)]
theorem Gx {R:Nat→Nat→Nat} {D:Nat→Nat} {x v:Nat}:at2 (fun s=>R s (D s)) x (R x v)=fun s=>R s (at2 D x v s):=funext fun s=>by
 by_cases z:s=x
 ·rw [z,aL,aL]
 ·rw [aS z,aS z]
structure Us (T sd:Nat) (rows:Nat→Nat→List Rw) (cY:Nat→Tks) (dr:List Nat):Prop where
 rl:∀ s j,(rows s j).length≤6 * T+3 * sd
 tl:∀ s,(cY s).length≤6000 * T+3000 * sd
 sl:dr.length≤6000 * T+3000 * sd
theorem Us.step {T sd:Nat} {L:Nat→Lk} {rows:Nat→Nat→List Rw} {cY:Nat→Tks} {dr:List Nat} {late:Int} {fs:Ft} {es:List Ev} (h:Us T sd rows cY dr) (gf:gS late fs) (he:es.length≤3000):Us T (sd+1) (Ow L rows T sd fs) (at2 cY sd (cY sd ++ cR T es)) (dr ++ gJ T es):=by
 refine ⟨fun s j=>?_,fun s=>?_,?_⟩
 ·unfold Ow
  by_cases z:s=1 - sd
  ·rw [z,aL]
   have h1:=C0 (rows:=rows (1 - sd)) (tick:=T) (b:=cO (bA (L sd) (aQ (rows sd T)))) fs j
   have h2:=gf.len
   have h3:=h.rl (1 - sd) j
   omega
  ·rw [aS z];have:=h.rl s j;omega
 ·by_cases z:s=sd
  ·rw [z,aL,List.length_append]
   have:=xX T es
   have:=h.tl sd
   omega
  ·rw [aS z];have:=h.tl s;omega
 ·rw [List.length_append]
  have:=z8 T es
  have:=h.sl
  omega
def ya (q late lost T0:Nat) (R:Nat→Nat→Nat) (T:Nat) (sd:Nat) (L:Nat→Lk) (rows:Nat→Nat→List Rw) (cY:Nat→Tks) (dr:List Nat):Prop:=(∃ G,sY q late lost T0 L rows (fun s=>R s (dn sd T s)) (dn sd T) G)∧Us T sd rows cY dr∧∀ n ∈ dr,n < T0+q
def yb (q late lost T0 T2:Nat) (β:Nat→Int) (P:Pr) (pL:Nat→List (List Int)) (R:Nat→Nat→Nat) (T:Nat) (sd:Nat) (L:Nat→Lk) (rows:Nat→Nat→List Rw) (cY:Nat→Tks) (dr:List Nat):Prop:=(∃ G,vT q late lost T0 T2 β P pL L rows (fun s=>R s (dn sd T s)) (dn sd T) G cY)∧Us T sd rows cY dr∧∀ n ∈ dr,n < T0+q
section
variable {K:PySem.W.Frag} {B:Hp} {q late lost T0 T2 T sd m:Nat} {R:Nat→Nat→Nat} {fa:Nat→Nat→Addr} {F:Nat→Nat→Ft} {β:Nat→Int} {P:Pr} {pL:Nat→List (List Int)} {L:Nat→Lk} {rows:Nat→Nat→List Rw} {cY:Nat→Tks} {dr:List Nat}
theorem C9 (dY:sd < 2):dn sd T sd≤dn sd T (1 - sd):=by rw [qM];unfold dn;split <;> omega
theorem ya.step (W:∀ s,s < 2→JG K B late lost T0 m (fa s) (F s) (R s)) (Qt:T < m) (hT:T≤64) (h6:late≤6) (dY:sd < 2) (h:ya q late lost T0 R T sd L rows cY dr) (xM:∀ a ∈ aQ (rows sd T),yC a.b) :
  Qs T sd L rows cY dr∧ya q late lost T0 R T (sd+1) (Gq L rows T sd) (Ow L rows T sd (F sd T)) (at2 cY sd (cY sd ++ cR T (bW (L sd) (aQ (rows sd T))).ev)) (dr ++ gJ T (bW (L sd) (aQ (rows sd T))).ev):=by
 obtain ⟨⟨G,a⟩,DI,hs⟩:=h
 have w:=W sd dY
 have gf:=(w.ft T Qt).2
 obtain ⟨G',a',ns,nm⟩:=a.step (x:=sd) (r':=R sd (T+1)) (fs:=F sd T) dY (C9 dY) (by omega) (by rw [qM];exact xM) gf (by rw [qM];exact fun z=>w.rn T Qt z) (w.rl _) (by rw [qM];exact fun z=>w.r0 _ (by omega))
 rw [qM] at a' ns nm
 rw [Gx,Gw] at a'
 have sq:=a.sq sd dY
 rw [qM] at sq
 obtain ⟨_,Vp⟩:=sq.tick xM
 have Kk:=DI.rl sd T
 have RT:(aQ (rows sd T)).length≤(rows sd T).length:=List.length_filterMap_le _ _
 refine ⟨⟨sq,fun s j=>by have:=DI.rl s j;omega,by have:=DI.tl sd;omega,by have:=DI.sl;omega,nm⟩,⟨G',a'⟩,DI.step gf (by omega),fun n hn=>?_⟩
 rcases List.mem_append.mp hn with z | z
 ·exact hs n z
 ·have e:=IX n z
  by_cases y:T0+q≤T
  ·rw [uE (ns y)] at z;cases z
  ·omega
theorem ya.next (h:ya q late lost T0 R T 2 L rows cY dr):ya q late lost T0 R (T+1) 0 L rows cY dr:=by
 obtain ⟨⟨G,a⟩,s,hs⟩:=h
 have e:∀ s,s < 2→dn 0 (T+1) s=dn 2 T s:=fun s hs=>by unfold dn;rw [if_neg (by omega),if_pos hs]
 exact ⟨⟨G,a.Gu e fun s hs=>by rw [e s hs]⟩,⟨fun s' j=>by have:=s.rl s' j;omega,fun s'=>by have:=s.tl s';omega,by have:=s.sl;omega⟩,hs⟩
theorem yb.step (W:∀ s,s < 2→JG K B late lost T0 m (fa s) (F s) (R s)) (Qt:T < m) (hT:T≤64) (h6:late≤6) (BO:∀ s,s < 2→∀ xs ∈ pL s,xs≠[]) (hT0:T0≤T) (dY:sd < 2) (h:yb q late lost T0 T2 β P pL R T sd L rows cY dr) (xM:∀ a ∈ aQ (rows sd T),yC a.b) :
  Qs T sd L rows cY dr∧yb q late lost T0 T2 β P pL R T (sd+1) (Gq L rows T sd) (Ow L rows T sd (F sd T)) (at2 cY sd (cY sd ++ cR T (bW (L sd) (aQ (rows sd T))).ev)) (dr ++ gJ T (bW (L sd) (aQ (rows sd T))).ev):=by
 obtain ⟨⟨G,a⟩,DI,hs⟩:=h
 have w:=W sd dY
 have gf:=(w.ft T Qt).2
 obtain ⟨G',a',tk,_⟩:=a.step (x:=sd) (r':=R sd (T+1)) (fs:=F sd T) dY (C9 dY) (by omega) (by rw [qM];exact xM) gf (by rw [qM];exact w.rn T Qt hT0) (w.rl _) BO
 rw [qM] at a' tk
 rw [Gx,Gw] at a'
 have sq:=a.sq sd dY
 rw [qM] at sq
 obtain ⟨_,Vp⟩:=sq.tick xM
 have Kk:=DI.rl sd T
 have RT:(aQ (rows sd T)).length≤(rows sd T).length:=List.length_filterMap_le _ _
 have ns:gI (bW (L sd) (aQ (rows sd T))).ev:=fun p ns z=>by obtain ⟨xs,e⟩:=tk _ z;cases e
 refine ⟨⟨sq,fun s j=>by have:=DI.rl s j;omega,by have:=DI.tl sd;omega,by have:=DI.sl;omega,fun w p ns z=>by obtain ⟨xs,e⟩:=tk _ z;cases e⟩,⟨G',a'⟩,DI.step gf (by omega),fun n hn=>?_⟩
 rw [uE ns,List.append_nil] at hn
 exact hs n hn
theorem yb.next (h:yb q late lost T0 T2 β P pL R T 2 L rows cY dr):yb q late lost T0 T2 β P pL R (T+1) 0 L rows cY dr:=by
 obtain ⟨⟨G,a⟩,s,hs⟩:=h
 have e:∀ s,s < 2→dn 0 (T+1) s=dn 2 T s:=fun s hs=>by unfold dn;rw [if_neg (by omega),if_pos hs]
 exact ⟨⟨G,a.Gu e fun s hs=>by rw [e s hs]⟩,⟨fun s' j=>by have:=s.rl s' j;omega,fun s'=>by have:=s.tl s';omega,by have:=s.sl;omega⟩,hs⟩
end
theorem xa {K:PySem.W.Frag} {H:Hp} {pv Ut:V} {p:Option (Int × Int)} {Q:VK} (h:vA H pv p) (h':vA H Ut p) (q:Q (.bl false) H):TR K pv Ut H Q:=by
 cases p with
 | none =>
  have h:pv=.cB:=h
  have h':Ut=.cB:=h'
  subst h h'
  exact .inl ⟨rfl,q⟩
 | some p =>
  obtain ⟨a,rfl,g⟩:=h
  obtain ⟨a',rfl,g'⟩:=h'
  refine .inr ⟨a,a',_,_,rfl,rfl,cD.of g,cD.of g',fun j u v hu hv=>?_,q⟩
  match j,hu,hv with
  | 0,hu,hv=>cases hu;cases hv;exact .flat _ rfl
  | 1,hu,hv=>cases hu;cases hv;exact .flat _ rfl
  | j+2,hu,hv=>cases hu
def LB (H:Hp) (d:Addr):Hp:=fun a=>if a=d then none else H a
theorem xb {H:Hp} {d:Addr}:aK (LB H d) H:=fun a o e=>by
 have e:(if a=d then none else H a)=some o:=e
 split at e
 ·cases e
 ·exact e
theorem LC {B H:Hp} {l a:Addr} {ps:List (List Int)} {xs:List Int} (h:qF B H l ps) (ha:B a=some (.lst (xs.map V.int))):∃ gj:Nat→Addr,H l=some (.lst (bD ps.length gj))∧∀ H':Hp,H' l=some (.lst (bD ps.length gj ++ [.ref a]))→qF B H' l (ps ++ [xs]):=by
 obtain ⟨gj,g1,g2⟩:=h
 refine ⟨gj,g1,fun H' e=>⟨fun i=>if i=ps.length then a else gj i,?_,fun y ys hy=>?_⟩⟩
 ·rw [e,bq,List.length_append];rfl
 ·show B (if y=ps.length then a else gj y)=_
  by_cases z:y < ps.length
  ·rw [if_neg (by omega)];rw [List.getElem?_append_left z] at hy;exact g2 y ys hy
  ·have eU:=(List.getElem?_eq_some_iff.mp hy).1
   rw [List.length_append] at eU
   have e:y=ps.length:=by simp at eU;omega
   rw [e,List.getElem?_append_right (Nat.le_refl _),Nat.sub_self] at hy
   cases hy
   rw [if_pos e];exact ha
theorem qF.same {B B' H H':Hp} {a:Addr} {ps:List (List Int)} (h:qF B H a ps) (bb:aK B B') (e:∀ o,H a=some o→H' a=some o):qF B' H' a ps:=by
 obtain ⟨gj,g1,g2⟩:=h
 exact ⟨gj,e _ g1,fun y xs hy=>bb _ _ (g2 y xs hy)⟩
theorem Yk {n0 n1 n2 n3 n4 n5 n6 n7:Int} {sd k:Nat} (dY:sd < 2):∃ ms:List Int,gP ([n0,n1,n2,n3,n4,n5,n6,n7].map V.int) (some (2+(sd:Int))) (some (4+(sd:Int)+(k:Int) % 3))=ms.map V.int∧1≤ms.length∧ms.length≤4:=by
 have h3:(k:Int) % 3=0∨(k:Int) % 3=1∨(k:Int) % 3=2:=by omega
 match sd,dY with
 | 0,_ =>
  rcases h3 with z | z | z <;> rw [z]
  ·exact ⟨[n2,n3],rfl,by simp,by simp⟩
  ·exact ⟨[n2,n3,n4],rfl,by simp,by simp⟩
  ·exact ⟨[n2,n3,n4,n5],rfl,by simp,by simp⟩
 | 1,_ =>
  rcases h3 with z | z | z <;> rw [z]
  ·exact ⟨[n3,n4],rfl,by simp,by simp⟩
  ·exact ⟨[n3,n4,n5],rfl,by simp,by simp⟩
  ·exact ⟨[n3,n4,n5,n6],rfl,by simp,by simp⟩
theorem Yl {n0 n1 n2 n3 n4 n5 n6 n7:Int} {sd:Nat} (dY:sd < 2):qA ([n0,n1,n2,n3,n4,n5,n6,n7].map V.int) (6+(sd:Int))=some (.int (a8 n6 n7 sd)):=by
 match sd,dY with
 | 0,_=>rfl
 | 1,_=>rfl
theorem vT.p {q late lost T0 T2:Nat} {β:Nat→Int} {P:Pr} {pL:Nat→List (List Int)} {L:Nat→Lk} {rows:Nat→Nat→List Rw} {run D:Nat→Nat} {G:Gh} {cY:Nat→Tks} (h:vT q late lost T0 T2 β P pL L rows run D G cY) (s:Nat) (hs:s < 2):(L s).p=some P:=by
 obtain ⟨u1,u2,u3⟩:=h.up s hs
 cases e:(L s).p with
 | none=>exact absurd e u1
 | some y =>
  have:=((h.pc.en s hs).up y e).1
  rw [u2,u3] at this
  rw [this,h.hP s hs]
theorem cu:aV ["script","numbers","measure","quiet","begin","ticks","weather","ends","coming","took","silent","tick","pair","put","side","pieces","k","found"] ["script"] (aI qB):=⟨rfl,rfl,rfl,by decide +kernel,rfl,by decide +kernel,by decide +kernel⟩
set_option maxHeartbeats 4000000 in
theorem Qx {f:Addr} {fd fdi fdu fdp:FuncData} (T:Txt K mg t) (F:lF K "law" "law" qB f fd) (fS:Def P w K mg base 1 "_law_cell" ["script","k"] (mZ K)) (cz:Def P w K mg base 1 "_law_numbers" ["cell","many"] iT) (jb:Def P w K mg base 1 "_law_measure" ["number"] nS) (jc:Def P w K mg base 4 "_law_weather" ["script","side","begin","ticks","measure"] (nU K))
  (kQ:Def P w K mg base 10 "_law_tick" ["ends","tick","coming","weather","took","silent"] (sZ K t.LinkEnd)) (jd:Def P w K mg base 1 "_law_gone_on" ["took","begin","last","quiet","many"] nV)
  (A6:bz P w K mg base (j5 P w) 4 t.init fdi ["self","measure","side"] (Ge K t.LinkEnd)) (A7:Binds K fdi ["self","measure","side"] [])
  (DA:bz P w K mg base (j5 P w) 1 t.KQ fdu ["self"] (Oj t.LinkEnd)) (DB:Binds K fdu ["self"] []) (LD:bz P w K mg base (j5 P w) 3 t.CM fdp ["self","piece"] (Km K t.LinkEnd t.NoLink t.BadPiece)) (LF:Binds K fdp ["self","piece"] []):bz P w K mg base (j5 P w) 12 f fd ["script"] (zT K):=by
 refine F.ok1 cu (fun vs H Q E h=>?_) (fun f bw A outer s H vs Q E hr h=>?_)
 ·obtain ⟨a,ns,rfl,_⟩:=h
  rfl
 ·obtain ⟨sc,ns,rfl,hS,hlen,q⟩:=h
  refine ⟨_,aE (aX (i:=1) cu.nd rfl (Or.inl rfl) (aY (cz.mono (by decide)) hr ao (aC (aY (fS.mono (by decide)) hr ao (aC (pv 0) (aC aG aF))) (aC aG aF))))
   (aE (aX (i:=2) cu.nd rfl (Or.inr rfl) (aY (jb.mono (by decide)) hr ao (aC (aj (aR K) (pv 1) aG (fun _ _=>rfl)) aF)))
   (aE (aX (i:=3) cu.nd rfl (Or.inr rfl) (aM az (aj (dh K) (pv 2) aG (fun _ _=>rfl)) (aj (dh K) (pv 2) aG (fun _ _=>rfl))))
   (aE (aX (i:=4) cu.nd rfl (Or.inr rfl) (aM ay (aj (aR K) (pv 1) aG (fun _ _=>rfl)) aG))
   (aE (aX (i:=5) cu.nd rfl (Or.inr rfl) (aM az (aM az (pv 4) (aM cE aG (pv 3))) aG))
   (aE (jL (i:=6) cu.nd rfl (Or.inl rfl) rfl (Nc:=["side","script","begin","ticks","measure"]) (ix:=[none,some 0,some 4,some 5,some 2]) (cG (aI qB) ["script","numbers","measure","quiet","begin","ticks","weather","ends","coming","took","silent","tick","pair","put","side","pieces","k","found"] rfl rfl (by decide +kernel)) (bo (by rfl) T.cI (aC aG aF)) (fun C fp s H=>⟨(aw (i:=0) (show (["side","script","begin","ticks","measure"]:List Str).Nodup by decide +kernel) rfl (Or.inl rfl)),b6,(aY (jc.mono (by decide)) hr ao (aC (pv 1) (aC (pv 0) (aC (pv 2) (aC (pv 3) (aC (pv 4) aF))))))⟩))
   (aE (aX (i:=7) cu.nd rfl (Or.inl rfl) (bI (aC (Fn T.CS (A6.mono (by decide)) hr (by rfl) T.CO A7 .nil ao (aC (pv 2) (aC aG aF))) (aC (Fn T.CS (A6.mono (by decide)) hr (by rfl) T.CO A7 .nil ao (aC (pv 2) (aC aG aF))) aF))))
   (aE (aX (i:=8) cu.nd rfl (Or.inl rfl) (bI (aC (iJ rfl (Nc:=["k"]) (ix:=[none]) (cG (aI qB) ["script","numbers","measure","quiet","begin","ticks","weather","ends","coming","took","silent","tick","pair","put","side","pieces","k","found"] rfl rfl (by decide +kernel)) (bo (by rfl) T.cI (aC (aM az (pv 5) aG) aF)) (fun C fp s H=>⟨(aw (i:=0) (show (["k"]:List Str).Nodup by decide +kernel) rfl (Or.inl rfl)),b6,(bI aF)⟩)) (aC (iJ rfl (Nc:=["k"]) (ix:=[none]) (cG (aI qB) ["script","numbers","measure","quiet","begin","ticks","weather","ends","coming","took","silent","tick","pair","put","side","pieces","k","found"] rfl rfl (by decide +kernel)) (bo (by rfl) T.cI (aC (aM az (pv 5) aG) aF)) (fun C fp s H=>⟨(aw (i:=0) (show (["k"]:List Str).Nodup by decide +kernel) rfl (Or.inl rfl)),b6,(bI aF)⟩)) aF))))
   (aE (aX (i:=9) cu.nd rfl (Or.inl rfl) (bI (aC (bI aF) (aC (bI aF) aF))))
   (aE (aX (i:=10) cu.nd rfl (Or.inl rfl) (bI aF))
   (aE (PS.rS (cP PassesOwn.never rfl (bo (by rfl) T.cI (aC (aM az (aM az (pv 4) (aM cE aG (pv 3))) aG) aF)) (aw (i:=11) cu.nd rfl (Or.inl rfl))
    (aJ (av (aY (kQ.mono (by decide)) hr ao (aC (pv 7) (aC (pv 11) (aC (pv 8) (aC (pv 6) (aC (pv 9) (aC (pv 10) aF)))))))))))
   (aE (bO (PW.pt (Fe (aZ wB (cj (aj (aR K) (pv 7) aG (fun _ _=>rfl)) T.aO T.zp (DA.mono (by decide)) hr DB .nil ao) fW (af _)) (AE (aZ (Dp K (HL hr)) (cj (aj (aR K) (pv 7) aG (fun _ _=>rfl)) T.aO T.zp (DA.mono (by decide)) hr DB .nil ao) (cj (aj (aR K) (pv 7) aG (fun _ _=>rfl)) T.aO T.zp (DA.mono (by decide)) hr DB .nil ao) (af _)))))
    (aJ (ai BW))
    (aq))
   (aE (aX (i:=12) cu.nd rfl (Or.inl rfl) (cj (aj (aR K) (pv 7) aG (fun _ _=>rfl)) T.aO T.zp (DA.mono (by decide)) hr DB .nil ao))
   (aE (aX (i:=13) cu.nd rfl (Or.inl rfl) (bI aF))
   (aE (PS.rS (cP PassesOwn.never rfl (bo (by rfl) T.cI (aC aG aF)) (aw (i:=14) cu.nd rfl (Or.inl rfl))
    (aE (aX (i:=15) cu.nd rfl (Or.inl rfl) (bI aF))
    (aE (cP PassesOwn.never rfl (bo (by rfl) T.cI (aC (aM ay (aj (aR K) (pv 1) (aM az aG (pv 14)) (fun _ _=>rfl)) aG) aF)) (aw (i:=16) cu.nd rfl (Or.inl rfl))
     (aE (av (eg K PySem.F.plainAttrs_list PySem.F.slot_list_append PySem.F.type_list_append bZ (pv 15) (aC (iJ rfl (Nc:=["number"]) (ix:=[none]) (cG (aI qB) ["script","numbers","measure","quiet","begin","ticks","weather","ends","coming","took","silent","tick","pair","put","side","pieces","k","found"] rfl rfl (by decide +kernel)) (bj K (jK (jN K) (pv 1) (iD (aM az aG (pv 14))) (iD (aM az (aM az aG (pv 14)) (aM ay (pv 16) aG))))) (fun C fp s H=>⟨(aw (i:=0) (show (["number"]:List Str).Nodup by decide +kernel) rfl (Or.inl rfl)),b6,(aM ay (aM cF (pv 0) aG) aG)⟩)) aF)))
     (aJ (av (pO (aj (aR K) (pv 7) (pv 14) (fun _ _=>rfl)) T.aO T.QR (LD.mono (by decide)) hr LF .nil ao (aC (aj (aR K) (pv 15) (pv 16) (fun _ _=>rfl)) aF))))))
    (aJ (av (eg K PySem.F.plainAttrs_list PySem.F.slot_list_append PySem.F.type_list_append bZ (pv 13) (aC (pv 15) aF))))))))
   (aE (aX (i:=9) cu.nd rfl (Or.inl rfl) (bI (aC (bI aF) (aC (bI aF) aF))))
   (aE (PS.rS (cP PassesOwn.never rfl (pN (by rfl) T.cI (aC (aM az (aM az (pv 4) (aM cE aG (pv 3))) aG) (aC (pv 5) aF))) (aw (i:=11) cu.nd rfl (Or.inl rfl))
    (aE (av (aY (kQ.mono (by decide)) hr ao (aC (pv 7) (aC (pv 11) (aC (pv 8) (aC (pv 6) (aC (pv 9) (aC (pv 10) aF))))))))
    (aJ (bO (PW.pt (Fe (aZ (Dp K (HL hr)) (cj (aj (aR K) (pv 7) aG (fun _ _=>rfl)) T.aO T.zp (DA.mono (by decide)) hr DB .nil ao) (pv 12) (af _)) (AE (aZ (Dp K (HL hr)) (cj (aj (aR K) (pv 7) aG (fun _ _=>rfl)) T.aO T.zp (DA.mono (by decide)) hr DB .nil ao) (pv 12) (af _)))))
     (aJ (ai BW))
     (aq))))))
   (aE (PS.rS (cP PassesOwn.never rfl (bo (by rfl) T.cI (aC aG aF)) (aw (i:=14) cu.nd rfl (Or.inl rfl))
    (aE (jL (i:=17) cu.nd rfl (Or.inl rfl) rfl (Nc:=["one"]) (ix:=[none]) (cG (aI qB) ["script","numbers","measure","quiet","begin","ticks","weather","ends","coming","took","silent","tick","pair","put","side","pieces","k","found"] rfl rfl (by decide +kernel)) (bj K (aj (aR K) (pv 9) (pv 14) (fun _ _=>rfl))) (fun C fp s H=>⟨(aw (i:=0) (show (["one"]:List Str).Nodup by decide +kernel) rfl (Or.inl rfl)),b6,(aj (dh K) (pv 0) aG (fun _ _=>rfl))⟩))
    (aE (bO (aZ (MS K (HL hr)) (pv 17) (jK (jN K) (aj (aR K) (pv 13) (aM d9 aG (pv 14)) (fun _ _=>rfl)) vf (iD (bR (bM K) (by rfl) T.f6 boot_len (aC (pv 17) aF)))) (af _))
     (aJ (ai BW))
     (aq))
    (aJ (bO (qO (tH (aY (jd.mono (by decide)) hr ao (aC (aj (aR K) (pv 9) (pv 14) (fun _ _=>rfl)) (aC (aM az (aM az (pv 4) (aM cE aG (pv 3))) aG) (aC (aM d9 (pv 5) aG) (aC (pv 3) (aC (bR (bM K) (by rfl) T.f6 boot_len (aC (aj (aR K) (pv 13) (aM d9 aG (pv 14)) (fun _ _=>rfl)) aF)) aF))))))))
     (aJ (ai BW))
     (aq)))))))
   (aJ (ai (j8 gQ (bR (bM K) (by rfl) T.f6 boot_len (aC (iJ rfl (Nc:=["tick","begin","quiet"]) (ix:=[none,some 4,some 3]) (cG (aI qB) ["script","numbers","measure","quiet","begin","ticks","weather","ends","coming","took","silent","tick","pair","put","side","pieces","k","found"] rfl rfl (by decide +kernel)) (bj K (pv 10)) (fun C fp s H=>⟨(aw (i:=0) (show (["tick","begin","quiet"]:List Str).Nodup by decide +kernel) rfl (Or.inl rfl)),(vg (aZ JS (pv 0) (aM az (pv 1) (pv 2)) (af _))),(pv 0)⟩)) aF)) aG (af _))))))))))))))))))))),?_⟩
  have pf:(1000001:Nat)≤sizeLine:=by decide
  refine ⟨_,rfl,sc,ns,0,rfl,hS,by decide,fun c=>?_⟩
  refine ⟨c,8,rfl,by decide,fun nl H1 ns1 s1 nn1 e1 UQ V5=>?_⟩
  obtain ⟨n0,n1,n2,n3,n4,n5,n6,n7,rfl⟩:∃ n0 n1 n2 n3 n4 n5 n6 n7,ns1=[n0,n1,n2,n3,n4,n5,n6,n7]:=by
   match ns1,UQ with
   | [n0,n1,n2,n3,n4,n5,n6,n7],_=>exact ⟨n0,n1,n2,n3,n4,n5,n6,n7,rfl⟩
  refine ⟨_,rfl,nl,_,_,_,rfl,rfl,ae.of e1,rfl,n0,rfl,V5 n0 (by simp),fun ma mx my hM Om=>?_⟩
  obtain ⟨late,rfl⟩:∃ late:Nat,mx=(late:Int):=⟨mx.toNat,by have:=hM.1.1;omega⟩
  obtain ⟨lost,rfl⟩:∃ lost:Nat,my=(lost:Int):=⟨my.toNat,by have:=hM.2.1;omega⟩
  obtain ⟨⟨Ym,Yn⟩,_,Yo⟩:=hM
  have h1l:1≤late:=by omega
  have Uu:late≤6:=by omega
  have h4l:lost≤4:=by omega
  clear Ym Yn Yo
  obtain ⟨SM,EM⟩:=eI (o:=.tup [.int (late:Int),.int (lost:Int)]) Om
  generalize upd H1 ma (.tup [.int (late:Int),.int (lost:Int)])=H2 at *
  have e2:=SM _ _ e1
  refine ⟨_,rfl,ma,_,_,_,rfl,rfl,cD.of EM,rfl,_,rfl,ma,_,_,_,rfl,rfl,cD.of EM,rfl,_,_,rfl,rfl,?_⟩
  refine ⟨_,rfl,nl,_,_,_,rfl,rfl,ae.of e2,rfl,_,_,rfl,rfl,(by show (0:Int) < 13;decide),?_⟩
  obtain ⟨bg,hbg,aAC⟩:∃ bg:Nat,n1 % 13=(bg:Int)∧bg≤12:=⟨(n1 % 13).toNat,by have:=V5 n1 (by simp);omega,by omega⟩
  dsimp only
  rw [hbg]
  refine ⟨_,rfl,_,rfl,_,_,rfl,rfl,.inl ⟨by decide,by decide⟩,_,_,rfl,rfl,_,_,rfl,rfl,?_⟩
  dsimp only
  obtain ⟨tk,OK,aAD⟩:∃ tk:Nat,tk=bg+4 * (late+lost)+12∧tk≤64:=⟨_,rfl,by omega⟩
  rw [show (bg:Int)+4 * ((late:Int)+(lost:Int))+12=(tk:Int) by omega]
  refine ⟨2,rfl,by decide,by decide,fun wL hwL=>?_⟩
  refine jM (lo:=0) (n:=2) (fun i σ H'=>(∃ v,σ=[v,some (.ref sc),some (.int (bg:Int)),some (.int (tk:Int)),some (.ref ma)])∧aK H2 H'∧∃ (wA:Nat→Addr) (fa:Nat→Nat→Addr) (F:Nat→Nat→Ft) (R:Nat→Nat→Nat),H' wL=some (.lst (bD i wA))∧∀ s,s < i→wA s≠wL∧H' (wA s)=some (.lst (bD tk (fa s)))∧JG K (lZ Lp H') late lost bg tk (fa s) (F s) (R s))
   ⟨⟨none,rfl⟩,(aK.refl _).new hwL,fun _=>0,fun _ _=>0,fun _ _=>[],fun _ _=>0,aD,fun s hs=>absurd hs (Nat.not_lt_zero _)⟩ ?_ ?_
  ·rintro i σ H' N hN hi ⟨⟨v,rfl⟩,s3,wA,fa,F,R,w1,w2⟩
   rw [show (0:Int)+(i:Nat)=(i:Int) by omega]
   refine ck ?_
   refine ⟨_,rfl,_,rfl,_,rfl,_,rfl,_,rfl,sc,ma,ns,i,bg,tk,late,lost,rfl,(s1.trans (SM.trans s3)).seq hS,hlen,hi,by omega,cD.of (s3 _ _ EM),h1l,Uu,fun l H4 fa' F' R' s4 nl4 e4 wt4=>?_⟩
   have w1':=s4 _ _ w1
   have nlw:l≠wL:=fun z=>by rw [z,w1] at nl4;cases nl4
   have nt:lZ Lp (upd H4 wL (.lst (bD i wA ++ [.ref l])))=lZ Lp H4:=xW w1' (b5 _) (b5 _)
   refine ⟨_,w1',by rw [aN];omega,hN _ _ ⟨⟨_,rfl⟩,(s3.trans s4).put hwL,fun s=>if s=i then l else wA s,fun s=>if s=i then fa' else fa s,fun s=>if s=i then F' else F s,fun s=>if s=i then R' else R s,by rw [aD,bq],fun s hs=>?_⟩⟩
   rw [nt]
   by_cases z:s=i
   ·simp only [z,if_true]
    exact ⟨nlw,by rw [aH nlw];exact e4,wt4⟩
   ·simp only [z,if_false]
    obtain ⟨g1,g2,g3⟩:=w2 s (by omega)
    exact ⟨g1,by rw [aH g1];exact s4 _ _ g2,g3.same (pd s4)⟩
  rintro σ H3 ⟨⟨v,rfl⟩,s3,wA,fa,F,R,eWL,hW3⟩
  have e3:=s3 _ _ EM
  have en3:=s3 _ _ e2
  have hm:Tt (late:Int) (lost:Int):=⟨⟨by omega,by omega⟩,by omega,by omega⟩
  refine ⟨_,rfl,fun x0 Uv Rf Yp nx0=>?_⟩
  have V6:aK H3 (upd (upd H3 Uv (.own x0)) x0 (.ins t.LinkEnd Uv [])):=((aK.refl _).new Yp).new (by rw [aH (Ne.symm nx0)];exact Rf)
  refine ⟨LB (upd (upd H3 Uv (.own x0)) x0 (.ins t.LinkEnd Uv [])) x0,x0,Uv,ma,(late:Int),(lost:Int),0,rfl,aD,cD.of (V6 _ _ e3),hm,xb,if_pos rfl,fun t0 p0 H4 Wu g4 nt0 np0 yc=>⟨rfl,?_⟩⟩
  have s4:aK H3 H4:=fun y o e=>Wu y o (aP e Rf) (V6 _ _ e)
  have Yq:H3 t0=none:=V6.free nt0
  have Yr:H3 p0=none:=V6.free np0
  have e4:=s4 _ _ e3
  refine ⟨_,rfl,fun x1 xG yN Ys nx1=>?_⟩
  have V7:aK H4 (upd (upd H4 xG (.own x1)) x1 (.ins t.LinkEnd xG [])):=((aK.refl _).new Ys).new (by rw [aH (Ne.symm nx1)];exact yN)
  refine ⟨LB (upd (upd H4 xG (.own x1)) x1 (.ins t.LinkEnd xG [])) x1,x1,xG,ma,(late:Int),(lost:Int),1,rfl,aD,cD.of (V7 _ _ e4),hm,xb,if_pos rfl,fun t1 p1 H5 JA g5 nt1 np1 Ia=>⟨rfl,?_⟩⟩
  have s5:aK H4 H5:=fun y o e=>JA y o (aP e yN) (V7 _ _ e)
  have Nj:H4 t1=none:=V7.free nt1
  have Nk:H4 p1=none:=V7.free np1
  have Nl:=yc.same s5
  have ne:∀ {G:Hp} {a b:Addr},G a≠none→G b=none→a≠b:=fun {G a b} h1 h2 z=>h1 (by rw [z];exact h2)
  have Vw:[x0,x1,t0,t1,p0,p1].Nodup:=by
   simp only [List.nodup_cons,List.mem_cons,List.not_mem_nil,or_false,not_or,List.nodup_nil,and_true,not_false_eq_true]
   exact ⟨⟨ne yc.hx yN,yc.xt,ne yc.hx Nj,yc.xp,ne yc.hx Nk⟩,⟨Ne.symm (ne yc.ht yN),Ia.xt,Ne.symm (ne yc.hp yN),Ia.xp⟩,⟨ne yc.ht Nj,yc.ne,ne yc.ht Nk⟩,⟨Ne.symm (ne yc.hp Nj),Ia.ne⟩,ne yc.hp Nk⟩
  have UU:∀ a,a ∈ [x0,x1,t0,t1,p0,p1]→H5 a≠none:=by
   intro a ha
   simp only [List.mem_cons,List.not_mem_nil,or_false] at ha
   rcases ha with rfl | rfl | rfl | rfl | rfl | rfl
   ·exact Nl.hx
   ·exact Ia.hx
   ·exact Nl.ht
   ·exact Ia.ht
   ·exact Nl.hp
   ·exact Ia.hp
  have z3:∀ a,a ∈ [x0,x1,t0,t1,p0,p1]→H3 a=none:=by
   intro a ha
   simp only [List.mem_cons,List.not_mem_nil,or_false] at ha
   rcases ha with rfl | rfl | rfl | rfl | rfl | rfl
   ·exact Rf
   ·exact s4.free yN
   ·exact Yq
   ·exact s4.free Nj
   ·exact Yr
   ·exact s4.free Nk
  refine ⟨zz2,fun eL Qy=>?_⟩
  obtain ⟨SeL,EeL⟩:=eI (o:=.lst [.ref x0,.ref x1]) Qy
  generalize upd H5 eL (.lst [.ref x0,.ref x1])=H6 at *
  refine ⟨_,rfl,_,_,rfl,rfl,(tk:Int)+7,rfl,by omega,by omega,fun D0 hD0=>?_⟩
  rw [show ((tk:Int)+7).toNat=tk+7 by omega]
  refine jM (lo:=0) (n:=tk+7) (fun i σ H'=>(∃ v,σ=[v])∧∃ sl,Ql H6 H' D0 sl i) ⟨⟨none,rfl⟩,fun _=>0,(aK.refl _).new hD0,hD0,aD,fun j hj=>absurd hj (Nat.not_lt_zero _),fun j hj=>absurd hj (Nat.not_lt_zero _),fun j hj=>absurd hj (Nat.not_lt_zero _),fun i j hi=>absurd hi (Nat.not_lt_zero _)⟩ ?_ ?_
  ·rintro i σ H' N hN hi ⟨⟨v,rfl⟩,sl,he⟩
   refine ck ?_
   refine ⟨zz0,fun p hp=>⟨_,by rw [aH (aP he.at_ hp)];exact he.at_,by rw [aN];omega,hN _ _ ⟨⟨_,rfl⟩,_,he.step hp⟩⟩⟩
  rintro σ Jh ⟨⟨v,rfl⟩,Gn,JE⟩
  refine ⟨_,rfl,_,_,rfl,rfl,(tk:Int)+7,rfl,by omega,by omega,fun D1 Vv=>?_⟩
  rw [show ((tk:Int)+7).toNat=tk+7 by omega]
  refine jM (lo:=0) (n:=tk+7) (fun i σ H'=>(∃ v,σ=[v])∧∃ sl,Ql Jh H' D1 sl i) ⟨⟨none,rfl⟩,fun _=>0,(aK.refl _).new Vv,Vv,aD,fun j hj=>absurd hj (Nat.not_lt_zero _),fun j hj=>absurd hj (Nat.not_lt_zero _),fun j hj=>absurd hj (Nat.not_lt_zero _),fun i j hi=>absurd hi (Nat.not_lt_zero _)⟩ ?_ ?_
  ·rintro i σ H' N hN hi ⟨⟨v,rfl⟩,sl,he⟩
   refine ck ?_
   refine ⟨zz0,fun p hp=>⟨_,by rw [aH (aP he.at_ hp)];exact he.at_,by rw [aN];omega,hN _ _ ⟨⟨_,rfl⟩,_,he.step hp⟩⟩⟩
  rintro σ Lh ⟨⟨v,rfl⟩,Gp,Ej⟩
  refine ⟨zz2,fun cL hcL=>?_⟩
  obtain ⟨ScL,EcL⟩:=eI (o:=.lst [.ref D0,.ref D1]) hcL
  generalize upd Lh cL (.lst [.ref D0,.ref D1])=JD at *
  refine ⟨zz0,fun Es Uw=>?_⟩
  obtain ⟨Sa,Ea⟩:=eI (o:=.lst []) Uw
  generalize upd JD Es (.lst [])=Ha at *
  refine ⟨zz0,fun Et Ux=>?_⟩
  obtain ⟨Sb,Eb⟩:=eI (o:=.lst []) Ux
  generalize upd Ha Et (.lst [])=Hb at *
  refine ⟨zz2,fun uF Uy=>?_⟩
  obtain ⟨Sc,Ec⟩:=eI (o:=.lst [.ref Es,.ref Et]) Uy
  generalize upd Hb uF (.lst [.ref Es,.ref Et])=Hc at *
  refine ⟨zz0,fun si hsi=>?_⟩
  obtain ⟨Sd,Ed⟩:=eI (o:=.lst []) hsi
  generalize upd Hc si (.lst [])=Hd at *
  have sm:∀ {G:Hp} {a:Addr} {o:HO},G a=some o→G a≠none:=fun {G a o} e z=>by rw [e] at z;cases z
  have Yt:JC JD Hd [Es,Et,uF,si]:=JC.cons Sa Uw (sm Ea) (JC.cons Sb Ux (sm Eb) (JC.cons Sc Uy (sm Ec) (JC.cons Sd hsi (sm Ed) JC.nil)))
  have va:Hd Es=some (.lst []):=(Sb.trans (Sc.trans Sd)) _ _ Ea
  have vb:Hd Et=some (.lst []):=(Sc.trans Sd) _ _ Eb
  have vc:Hd uF=some (.lst [.ref Es,.ref Et]):=Sd _ _ Ec
  have cnd:=Yt.nd
  simp only [List.nodup_cons,List.mem_cons,List.not_mem_nil,or_false,not_or,List.nodup_nil,and_true,not_false_eq_true] at cnd
  obtain ⟨⟨g1,g2,g3⟩,⟨g4,g5⟩,g6⟩:=cnd
  obtain ⟨B0,ρ0,XB,Uz,Yu,Yv,bAl⟩:=Qp (C:=t.LinkEnd) (q:=(late:Int)+(lost:Int)) (os:=[Es,Et,si]) (s4.trans s5) Vw UU z3 (bP ⟨_,Nl⟩ ⟨_,Ia⟩) SeL Qy EeL JE Ej ScL hcL EcL Yt (fun a ha=>by
    simp only [List.mem_cons,List.not_mem_nil,or_false] at ha ⊢
    rcases ha with h | h | h <;> simp [h]) (fun a ha=>by
    simp only [List.mem_cons,List.not_mem_nil,or_false] at ha
    rcases ha with rfl | rfl | rfl
    ·exact ⟨_,va,b5 _⟩
    ·exact ⟨_,vb,b5 _⟩
    ·exact ⟨_,Ed,b5 _⟩)
  have O0:IY B0 eL cL wL uF (a8 x0 x1) (a8 D0 D1) wA (a8 Es Et):=⟨Yu,Yv,Uz _ _ eWL,bAl uF _ (by simp) (by simp only [List.mem_cons,List.not_mem_nil,or_false,not_or];exact ⟨Ne.symm g2,Ne.symm g4,g6⟩) vc⟩
  have V0:∀ s,s < 2→B0 (wA s)=some (.lst (bD tk (fa s))):=fun s hs=>Uz _ _ (hW3 s hs).2.1
  have W0:∀ s,s < 2→JG K B0 late lost bg tk (fa s) (F s) (R s):=fun s hs=>(hW3 s hs).2.2.same fun a o e=>Uz _ _ (Kv (K4 _) _ _ e)
  have enB:=Uz _ _ en3
  have qc:((late+lost:Nat):Int)=(late:Int)+(lost:Int):=by omega
  have a0:=sY.start (q:=late+lost) (T0:=bg) rfl h1l
  rw [qc] at a0
  have ts0:JH B0 (Ov [Es,Et,si] Hd) (a8 Es Et) si (fun _=>[]) []:=⟨bP ⟨fun _=>0,fun _=>0,by show Ov [Es,Et,si] Hd Es=_;rw [xT (by simp)];exact va,fun y x hy=>(by cases hy)⟩ ⟨fun _=>0,fun _=>0,by show Ov [Es,Et,si] Hd Et=_;rw [xT (by simp)];exact vb,fun y x hy=>(by cases hy)⟩,by rw [xT (by simp)];exact Ed⟩
  have i0:ya (late+lost) late lost bg R 0 0 (a8 (nZ ((late:Int)+(lost:Int)) 0) (nZ ((late:Int)+(lost:Int)) 1)) (fun _ _=>[]) (fun _=>[]) []:=⟨⟨_,a0.Gu (fun s hs=>rfl) (fun s hs=>(W0 s hs).r0 0 (Nat.zero_le _))⟩,⟨fun _ _=>Nat.zero_le _,fun _=>Nat.zero_le _,Nat.zero_le _⟩,fun n hn=>(by cases hn)⟩
  clear Yt Uz z3 UU Vw bAl
  refine ⟨_,rfl,_,rfl,_,_,rfl,rfl,.inl ⟨by decide,by decide⟩,_,_,rfl,rfl,_,_,rfl,rfl,(bg:Int)+3 * ((late:Int)+(lost:Int))+1,rfl,by omega,by omega,?_⟩
  obtain ⟨T2,hT2⟩:∃ T2:Nat,T2=bg+3 * (late+lost)+1:=⟨_,rfl⟩
  rw [show ((bg:Int)+3 * ((late:Int)+(lost:Int))+1).toNat=T2 by omega]
  refine cS (lo:=0) (n:=T2) (fun T σ H'=>∃ (B E:Hp) (tA pA:Nat→Addr) (L:Nat→Lk) (rows:Nat→Nat→List Rw) (ρ:Addr→Nat) (cY:Nat→Tks) (dr:List Nat) (v11:Option V),σ=[some (.ref sc),some (.ref nl),some (.ref ma),some (.int ((late:Int)+(lost:Int))),some (.int (bg:Int)),some (.int (tk:Int)),some (.ref wL),some (.ref eL),some (.ref cL),some (.ref uF),some (.ref si),v11,none,none,none,none,none,none]∧aK B0 B∧Sx Eg t.LinkEnd B H' E (tk+7) (a8 x0 x1) tA pA (a8 D0 D1) (a8 Gn Gp) L rows ρ∧JH B E (a8 Es Et) si cY dr∧ya (late+lost) late lost bg R T 0 L rows cY dr)
   ⟨B0,_,_,_,_,_,ρ0,_,_,none,rfl,aK.refl _,XB,ts0,i0⟩ ?_ ?_
  ·rintro T σ H13 hT ⟨B,E,tA,pA,L,rows,ρ,cY,dr,v11,rfl,sB,st,ts,hI⟩
   rw [show (0:Int)+(T:Nat)=(T:Int) by omega]
   refine ⟨_,rfl,_,rfl,_,rfl,_,rfl,_,rfl,_,rfl,?_⟩
   have W:=fun s hs=>(W0 s hs).same sB
   refine ⟨B,E,tk+7,a8 x0 x1,tA,pA,a8 D0 D1,a8 Gn Gp,L,rows,ρ,eL,cL,wL,uF,si,T,wA,a8 Es Et,tk,fa,fun s=>F s T,late,cY,dr,ya (late+lost) late lost bg R T,rfl,st,O0.same sB,fun s hs=>sB _ _ (V0 s hs),by omega,by omega,by omega,Uu,fun s hs=>(W s hs).ft T (by omega),⟨g1,g3,g5⟩,ts,hI,fun sd L rows cY dr dY h xM=>ya.step W (by omega) (by omega) Uu dY h xM,fun B' H' E' YV YW L' fQ ρ' Nf Ng C7 kS Cz HI V1=>?_⟩
   exact ⟨B',E',YV,YW,L',fQ,ρ',Nf,Ng,_,rfl,sB.trans C7,kS,Cz,V1.next⟩
  ·rintro σ H13 ⟨B,E,tA,pA,L,rows,ρ,cY,dr,v11,rfl,sB,st,ts,hI⟩
   obtain ⟨⟨G,aA⟩,DI,Yw⟩:=hI
   have V4:∀ s,s < 2→dn 0 T2 s=bg+3 * (late+lost)+1:=fun s hs=>hT2
   obtain ⟨β,Pp,up,hP,U0⟩:=aA.Ua V4
   have yc:=st.lk 0 (by decide)
   have Ia:=st.lk 1 (by decide)
   obtain ⟨y0,_,U1,_⟩:=yc.at_
   obtain ⟨y1,_,Yx,_⟩:=Ia.at_
   have p0:=(U0 0 (by decide)).1
   have p1:=(U0 1 (by decide)).1
   have Qy:=ae.of (K:=K) (st.sb _ _ (sB _ _ O0.eL))
   refine ⟨_,rfl,eL,_,_,_,rfl,rfl,Qy,rfl,a8 x0 x1 0,y0,_,rfl,U1,rfl,B,a8 x0 x1 0,_,_,L 0,rfl,yc,fun pv Nm=>?_⟩
   rw [p0] at Nm
   obtain ⟨pq,rfl,GB⟩:=Nm
   refine ⟨rfl,_,rfl,dE (fun z=>by cases z) ?_⟩
   refine ⟨_,rfl,eL,_,_,_,rfl,rfl,Qy,rfl,a8 x0 x1 0,y0,_,rfl,U1,rfl,B,a8 x0 x1 0,_,_,L 0,rfl,yc,fun pv Nm=>?_⟩
   refine ⟨_,rfl,eL,_,_,_,rfl,rfl,Qy,rfl,a8 x0 x1 1,y1,_,rfl,Yx,rfl,B,a8 x0 x1 1,_,_,L 1,rfl,Ia,fun Ut Qz=>?_⟩
   rw [p0] at Nm
   rw [p1] at Qz
   refine xa (p:=some Pp) (Nm.mono st.sb) (Qz.mono st.sb) ?_
   refine ⟨_,rfl,iI ?_⟩
   clear Nm Qz GB pv Ut pq
   refine ⟨_,rfl,eL,_,_,_,rfl,rfl,Qy,rfl,a8 x0 x1 0,y0,_,rfl,U1,rfl,B,a8 x0 x1 0,_,_,L 0,rfl,yc,fun pv Nm=>?_⟩
   rw [p0] at Nm
   refine ⟨zz0,fun pu hpu=>?_⟩
   obtain ⟨ρ1,Vy⟩:=st.new gG (a:=pu) (o:=.lst []) hpu (b5 _)
   have Q0:∀ a o,E a=some o→a≠pu:=fun a o e z=>by rw [z] at e;have:=st.ee _ _ e;rw [hpu] at this;cases this
   refine ⟨2,rfl,by decide,by decide,?_⟩
   refine cS (lo:=0) (n:=2) (fun sd σ H'=>∃ (B' E':Hp) (ρ':Addr→Nat) (L':Nat→Lk) (Gy:Nat→Addr) (pL:Nat→List (List Int)) (Rt U2 Q3:Option V),σ=[some (.ref sc),some (.ref nl),some (.ref ma),some (.int ((late:Int)+(lost:Int))),some (.int (bg:Int)),some (.int (tk:Int)),some (.ref wL),some (.ref eL),some (.ref cL),some (.ref uF),some (.ref si),v11,some pv,some (.ref pu),Rt,U2,Q3,none]∧aK B B'∧Sx Eg t.LinkEnd B' H' E' (tk+7) (a8 x0 x1) tA pA (a8 D0 D1) (a8 Gn Gp) L' rows ρ'∧(∀ s,s < 2→L' s=if s < sd then { L s with bT:=pL s } else L s)∧E' pu=some (.lst (bD sd Gy))∧(∀ s,s < sd→(Gy s≠pu∧Gy s≠si)∧qF B' E' (Gy s) (pL s)∧(∀ xs ∈ pL s,Aw xs)∧(pL s).length≤3)∧∀ a o,E a=some o→E' a=some o)
    ⟨B,_,ρ1,L,fun _=>0,fun _=>[],none,none,none,rfl,aK.refl _,Vy,fun s hs=>(if_neg (Nat.not_lt_zero _)).symm,aD,fun s hs=>absurd hs (Nat.not_lt_zero _),fun a o e=>by rw [aH (Q0 a o e)];exact e⟩ ?_ ?_
   ·rintro sd σ H14 dY ⟨B',E',ρ',L',Gy,pL,Rt,U2,Q3,rfl,C7,kS,V8,Ib,Ic,HI⟩
    rw [show (0:Int)+(sd:Nat)=(sd:Int) by omega]
    have hLs:=V8 sd dY
    rw [if_neg (by omega)] at hLs
    have U3:=C7 _ _ (sB _ _ enB)
    refine ⟨zz0,fun pq GB=>?_⟩
    obtain ⟨ρ2,BM⟩:=kS.new gG (a:=pq) (o:=.lst []) GB (b5 _)
    have V9:∀ a o,E' a=some o→a≠pq:=fun a o e z=>by rw [z] at e;have:=kS.ee _ _ e;rw [GB] at this;cases this
    have n67:0≤a8 n6 n7 sd:=(bP (V5 n6 (by simp)) (V5 n7 (by simp)):∀ s,s < 2→0≤a8 n6 n7 s) sd dY
    obtain ⟨mk,hmk,aDB⟩:∃ mk:Nat,a8 n6 n7 sd % 4=(mk:Int)∧mk≤3:=⟨(a8 n6 n7 sd % 4).toNat,by omega,by omega⟩
    refine ⟨_,rfl,_,rfl,_,_,rfl,rfl,nl,_,_,_,rfl,rfl,ae.of (BM.sb _ _ U3),Yl dY,_,_,rfl,rfl,(by show (0:Int) < 4;decide),a8 n6 n7 sd % 4,rfl,by omega,by omega,?_⟩
    rw [hmk,Int.toNat_natCast]
    have e0:({ L sd with bT:=[] }:Lk)=L sd:=by rw [← (U0 sd dY).2]
    have BM:=BM.re (L':=at2 L' sd { L sd with bT:=[] }) (fun s hs=>by
     by_cases z:s=sd
     ·rw [z,aL,hLs,e0]
     ·rw [aS z])
    refine cS (lo:=0) (n:=mk) (fun k σ H'=>∃ (B2 E2:Hp) (ρ2:Addr→Nat) (ps:List (List Int)) (Q3:Option V),σ=[some (.ref sc),some (.ref nl),some (.ref ma),some (.int ((late:Int)+(lost:Int))),some (.int (bg:Int)),some (.int (tk:Int)),some (.ref wL),some (.ref eL),some (.ref cL),some (.ref uF),some (.ref si),v11,some pv,some (.ref pu),some (.int (sd:Int)),some (.ref pq),Q3,none]∧aK B' B2∧Sx Eg t.LinkEnd B2 H' E2 (tk+7) (a8 x0 x1) tA pA (a8 D0 D1) (a8 Gn Gp) (at2 L' sd { L sd with bT:=ps }) rows ρ2∧ps.length=k∧(∀ xs ∈ ps,Aw xs)∧qF B2 E2 pq ps∧∀ a o,a≠pq→E' a=some o→E2 a=some o)
     ⟨B',_,ρ2,[],_,rfl,aK.refl _,BM,rfl,fun xs h=>(by cases h),⟨fun _=>0,aD,fun y xs h=>(by cases h)⟩,fun a o n e=>by rw [aH n];exact e⟩ ?_ ?_
    ·rintro k σ IZ hk ⟨B2,E2,ρ3,ps,w16,rfl,K8,Bb,IE,Q4,Q5,U4⟩
     rw [show (0:Int)+(k:Nat)=(k:Int) by omega]
     obtain ⟨ms,hms,hm1,hm4⟩:=Yk (n0:=n0) (n1:=n1) (n2:=n2) (n3:=n3) (n4:=n4) (n5:=n5) (n6:=n6) (n7:=n7) (k:=k) dY
     obtain ⟨Yy,q1,q2⟩:=Q5
     refine ⟨_,rfl,.inl ⟨rfl,_,ae.of (Bb.ee _ _ q1)⟩,?_⟩
     refine ⟨_,rfl,_,rfl,_,_,rfl,rfl,_,rfl,_,rfl,_,_,rfl,rfl,_,rfl,_,_,rfl,rfl,(by show (0:Int) < 3;decide),_,_,rfl,rfl,_,rfl,nl,_,rfl,ae.of (Bb.sb _ _ (K8 _ _ U3)),fun sp BN=>?_⟩
     have SS:aK IZ (upd IZ sp (.lst (gP ([n0,n1,n2,n3,n4,n5,n6,n7].map V.int) (some (2+(sd:Int))) (some (4+(sd:Int)+(k:Int) % 3))))):=(aK.refl _).new BN
     have ES:(upd IZ sp (.lst (gP ([n0,n1,n2,n3,n4,n5,n6,n7].map V.int) (some (2+(sd:Int))) (some (4+(sd:Int)+(k:Int) % 3))))) sp=some (.lst (ms.map V.int)):=by rw [aD,hms]
     refine ⟨sp,rfl,⟨_,ae.of ES⟩,fun D hD=>?_⟩
     have hDf:IZ D=none:=SS.free hD
     have nsD:sp≠D:=aP ES hD
     refine kA (K:=K) (a:=sp) (xs:=ms.map V.int) (fun i σ H'=>(∃ v,σ=[v])∧aK IZ H'∧H' sp=some (.lst (ms.map V.int))∧H' D=some (.lst ((ms.take i).map fun n=>V.int (n / 13 % 97)))) ⟨⟨none,rfl⟩,SS.new hD,by rw [aH nsD];exact ES,aD⟩ (fun i σ H' _ p=>ae.of p.2.2.1) ?_ ?_
     ·rintro i v σ H' N hN hi ⟨⟨v0,rfl⟩,Ru,z1,z2⟩
      obtain ⟨nn,hnn,rfl⟩:=mB hi
      refine ck ?_
      refine ⟨_,rfl,_,_,rfl,rfl,⟨by decide,by decide⟩,_,_,rfl,rfl,(by show (0:Int) < 97;decide),_,z2,by rw [List.length_map,List.length_take];omega,hN _ _ ⟨⟨_,rfl⟩,Ru.put hDf,by rw [aH nsD];exact z1,by rw [aD,gs hnn,List.map_append];rfl⟩⟩
     rintro σ Rv ⟨⟨v0,rfl⟩,U5,_,z2⟩
     rw [List.length_map,List.take_length] at z2
     have z2:Rv D=some (.lst ((ms.map fun n=>n / 13 % 97).map V.int)):=by rw [z2,List.map_map];rfl
     have WA:Aw (ms.map fun n=>n / 13 % 97):=⟨⟨by rw [List.length_map];exact hm1,by rw [List.length_map];omega⟩,fun v hv=>by obtain ⟨n,_,rfl⟩:=List.mem_map.mp hv;exact ⟨Int.emod_nonneg _ (by decide),Int.emod_lt_of_pos _ (by decide)⟩⟩
     generalize (ms.map fun n=>n / 13 % 97)=xs at z2 WA
     obtain ⟨MJ,Q6⟩:=Bb.grow gG U5 hDf z2
     obtain ⟨gj,g1',Au⟩:=LC (a:=D) (xs:=xs) (qF.same ⟨Yy,q1,q2⟩ Q6 fun _ e=>e) aD
     have gH:=MJ.ee _ _ g1'
     refine ⟨pq,_,_,rfl,rfl,gH,by rw [aN];omega,?_⟩
     obtain ⟨ρ5,uh⟩:=MJ.put gG (a:=pq) (o:=.lst (bD ps.length gj ++ [.ref D])) (by rw [g1'];exact fun z=>by cases z) (b5 _)
     have Yz:=uh.lk sd dY
     have e5:at2 L' sd { L sd with bT:=ps } sd={ L sd with bT:=ps }:=aL
     rw [e5] at Yz
     obtain ⟨Lj,_,Rn,_⟩:=Yz.at_
     have YK:qA (bD ps.length gj ++ [V.ref D]) (k:Int)=some (.ref D):=fX (by rw [List.getElem?_append_right (by rw [aN,IE];exact Nat.le_refl _),aN,IE,Nat.sub_self];rfl)
     refine ⟨_,rfl,_,rfl,eL,_,_,_,rfl,rfl,ae.of (uh.sb _ _ (Q6 _ _ (K8 _ _ (C7 _ _ (sB _ _ O0.eL))))),mY dY,a8 x0 x1 sd,Lj,_,rfl,Rn,rfl,_,rfl,_,rfl,pq,_,_,_,rfl,rfl,ae.of (uh.ee _ _ aD),YK,_,a8 x0 x1 sd,_,_,D,_,xs,rfl,Yz,?_,ae.of (uh.sb _ _ aD),fun v hv=>?_,fun z=>absurd ((U0 sd dY).1.symm.trans z) (fun z=>by cases z),fun _ z=>absurd WA z,fun _ _ B5 H5 mv lk6=>?_⟩
     ·show ps.length < 1000000;omega
     ·obtain ⟨v0,v97⟩:=WA.2 v hv
      exact Nat.lt_of_lt_of_le (show v.natAbs < 97 by omega) (by decide)
     obtain ⟨ρ6,Lq,_⟩:=uh.Vu gG dY mv lk6
     rw [sV,sV,vt] at Lq
     exact ⟨B5,_,ρ6,ps ++ [xs],_,rfl,K8.trans (Q6.trans mv.bb),Lq,by rw [List.length_append,IE];rfl,fun ys hy=>(List.mem_append.mp hy).elim (Q4 ys) fun z=>by rw [List.mem_singleton.mp z];exact WA,(Au _ aD).same mv.bb fun _ e=>e,fun a o n e=>by rw [aH n];exact U4 a o n e⟩
    ·rintro σ IZ ⟨B2,E2,ρ3,ps,w16,rfl,K8,Bb,IE,Q4,Q5,U4⟩
     have Y0:pu≠pq:=V9 pu _ Ib
     have Q7:=U4 pu _ Y0 Ib
     refine ⟨_,rfl,.inl ⟨rfl,_,ae.of (Bb.ee _ _ Q7)⟩,_,rfl,pu,_,_,rfl,rfl,Bb.ee _ _ Q7,by rw [aN];omega,?_⟩
     obtain ⟨ρ4,MJ⟩:=Bb.put gG (a:=pu) (o:=.lst (bD sd Gy ++ [.ref pq])) (by rw [Q7];exact fun z=>by cases z) (b5 _)
     refine ⟨B2,_,ρ4,_,fun s=>if s=sd then pq else Gy s,fun s=>if s=sd then ps else pL s,_,_,_,rfl,C7.trans K8,MJ,fun s hs=>?_,by rw [aD,bq],fun s hs=>?_,fun a o e=>?_⟩
     ·by_cases z:s=sd
      ·rw [z,aL,if_pos (by omega)];simp only [if_true]
      ·rw [aS z,V8 s hs]
       simp only [z,if_false]
       by_cases y:s < sd
       ·rw [if_pos y,if_pos (by omega)]
       ·rw [if_neg y,if_neg (by omega)]
     ·by_cases z:s=sd
      ·simp only [z,if_true]
       exact ⟨⟨Ne.symm Y0,Ne.symm (V9 si _ (HI si _ ts.si))⟩,Q5.same (aK.refl _) fun o e=>by rw [aH (Ne.symm Y0)];exact e,Q4,by omega⟩
      ·obtain ⟨h1,h2,h3,h4⟩:=Ic s (by omega)
       simp only [z,if_false]
       exact ⟨h1,h2.same K8 fun o e=>by rw [aH h1.1];exact U4 _ _ (V9 _ _ e) e,h3,h4⟩
     ·have:=HI a o e
      rw [aH (Q0 a o e)];exact U4 a o (V9 a o this) this
   rintro σ H14 ⟨B',E',ρ',L',Gy,pL,Rt,U2,Q3,rfl,C7,kS,V8,Ib,Ic,HI⟩
   have kS:=kS.re (L':=K1 L pL) (fun s hs=>by rw [V8 s hs,if_pos hs,Gr L pL s hs])
   obtain ⟨G1,aB⟩:=aA.put (pL:=pL) V4 up hP (fun s hs=>(U0 s hs).2) (fun s hs=>(Ic s hs).2.2.1)
   have BO:∀ s,s < 2→∀ xs ∈ pL s,xs≠[]:=fun s hs xs hx z=>by have:=((Ic s hs).2.2.1 xs hx).1.1;rw [z] at this;exact absurd this (by decide)
   rw [← hT2] at aB
   refine ⟨zz0,fun tE U6=>?_⟩
   obtain ⟨ρ2,BM⟩:=kS.new gG (a:=tE) (o:=.lst []) U6 (b5 _)
   refine ⟨zz0,fun vW U7=>?_⟩
   obtain ⟨ρ3,Bb⟩:=BM.new gG (a:=vW) (o:=.lst []) U7 (b5 _)
   refine ⟨zz2,fun Nn U8=>?_⟩
   obtain ⟨MJ,Q6⟩:=Bb.grow gG ((aK.refl _).new U8) U8 (aD (o:=.lst [.ref tE,.ref vW]))
   have Y1:(upd B' Nn (.lst [.ref tE,.ref vW])) Nn=some (.lst [.ref tE,.ref vW]):=aD
   generalize upd B' Nn (.lst [.ref tE,.ref vW])=B4 at *
   have n0:∀ a o,E' a=some o→a≠tE:=fun a o e z=>by rw [z] at e;have:=kS.ee _ _ e;rw [U6] at this;cases this
   have n1:∀ a o,(upd E' tE (.lst [])) a=some o→a≠vW:=fun a o e z=>by rw [z] at e;have:=BM.ee _ _ e;rw [U7] at this;cases this
   have keep:∀ a o,E' a=some o→(upd (upd E' tE (.lst [])) vW (.lst [])) a=some o:=fun a o e=>by
    have e1:(upd E' tE (.lst [])) a=some o:=by rw [aH (n0 a o e)];exact e
    rw [aH (n1 a o e1)];exact e1
   have Y2:∀ a o,E' a=some o→a≠vW:=fun a o e=>n1 a o (by rw [aH (n0 a o e)];exact e)
   have Y3:=HI si _ ts.si
   have Y4:a8 tE vW 0≠a8 tE vW 1:=n1 tE _ aD
   have Y5:a8 tE vW 0≠si:=Ne.symm (n0 si _ Y3)
   have Y6:a8 tE vW 1≠si:=Ne.symm (Y2 si _ Y3)
   have eT0:(upd (upd E' tE (.lst [])) vW (.lst [])) tE=some (.lst []):=by rw [aH (n1 tE _ aD)];exact aD
   have eT1:(upd (upd E' tE (.lst [])) vW (.lst [])) vW=some (.lst []):=aD
   generalize upd (upd E' tE (.lst [])) vW (.lst [])=E1 at *
   have U9:=sB.trans (C7.trans Q6)
   have WB:IY B4 eL cL wL Nn (a8 x0 x1) (a8 D0 D1) wA (a8 tE vW):=⟨U9 _ _ O0.eL,U9 _ _ O0.cL,U9 _ _ O0.wL,Y1⟩
   have ts4:JH B4 E1 (a8 tE vW) si (fun _=>[]) dr:=⟨bP ⟨fun _=>0,fun _=>0,eT0,fun y x hy=>(by cases hy)⟩ ⟨fun _=>0,fun _=>0,eT1,fun y x hy=>(by cases hy)⟩,keep _ _ Y3⟩
   have iB:yb (late+lost) late lost bg T2 β Pp pL R (T2+0) 0 (K1 L pL) rows (fun _=>[]) dr:=⟨⟨G1,aB⟩,⟨DI.rl,fun _=>Nat.zero_le _,DI.sl⟩,Yw⟩
   refine ⟨_,rfl,_,rfl,_,_,rfl,rfl,.inl ⟨by decide,by decide⟩,_,_,rfl,rfl,_,_,rfl,rfl,_,rfl,(bg:Int)+3 * ((late:Int)+(lost:Int))+1,(tk:Int),rfl,⟨by omega,by omega,by omega,by omega⟩,?_⟩
   rw [show ((tk:Int) - ((bg:Int)+3 * ((late:Int)+(lost:Int))+1)).toNat=tk - T2 by omega,show (bg:Int)+3 * ((late:Int)+(lost:Int))+1=(T2:Int) by omega]
   refine cS (lo:=(T2:Int)) (n:=tk - T2) (fun i σ H'=>∃ (B2 E2:Hp) (tA pA:Nat→Addr) (L2:Nat→Lk) (rows:Nat→Nat→List Rw) (ρ:Addr→Nat) (cY:Nat→Tks) (dr:List Nat) (v11:Option V),σ=[some (.ref sc),some (.ref nl),some (.ref ma),some (.int ((late:Int)+(lost:Int))),some (.int (bg:Int)),some (.int (tk:Int)),some (.ref wL),some (.ref eL),some (.ref cL),some (.ref Nn),some (.ref si),v11,some pv,some (.ref pu),Rt,U2,Q3,none]∧aK B4 B2∧Sx Eg t.LinkEnd B2 H' E2 (tk+7) (a8 x0 x1) tA pA (a8 D0 D1) (a8 Gn Gp) L2 rows ρ∧JH B2 E2 (a8 tE vW) si cY dr∧Vz (a8 tE vW) si E1 E2∧yb (late+lost) late lost bg T2 β Pp pL R (T2+i) 0 L2 rows cY dr)
    ⟨B4,E1,tA,pA,_,rows,ρ3,_,dr,v11,rfl,aK.refl _,MJ,ts4,fun _ _ _ _ _ e=>e,iB⟩ ?_ ?_
   ·rintro i σ IZ hi ⟨B5,E5,tA5,pA5,L5,O2,ρ5,xc,LG,w11,rfl,Lr,uh,WC,JA,Y7⟩
    rw [show (T2:Int)+(i:Nat)=((T2+i:Nat):Int) by omega]
    refine ⟨_,rfl,_,rfl,_,rfl,_,rfl,_,rfl,_,rfl,?_⟩
    have W:=fun s hs=>(W0 s hs).same (U9.trans Lr)
    refine ⟨B5,E5,tk+7,a8 x0 x1,tA5,pA5,a8 D0 D1,a8 Gn Gp,L5,O2,ρ5,eL,cL,wL,Nn,si,T2+i,wA,a8 tE vW,tk,fa,fun s=>F s (T2+i),late,xc,LG,yb (late+lost) late lost bg T2 β Pp pL R (T2+i),rfl,uh,WB.same Lr,fun s hs=>(U9.trans Lr) _ _ (V0 s hs),by omega,by omega,by omega,Uu,fun s hs=>(W s hs).ft (T2+i) (by omega),⟨Y4,Y5,Y6⟩,WC,Y7,fun sd L rows cY dr dY h xM=>yb.step W (by omega) (by omega) Uu BO (by omega) dY h xM,fun B6 H6 E6 tA6 pA6 L6 VA ρ6 Y8 Y9 ZA Lq ts6 fr6 hI6=>?_⟩
    have pB:∀ s,s < 2→(L6 s).p=some Pp:=by obtain ⟨⟨G6,a6⟩,_⟩:=hI6;exact a6.p
    have yc:=Lq.lk 0 (by decide)
    have Ia:=Lq.lk 1 (by decide)
    obtain ⟨y0,_,U1,_⟩:=yc.at_
    obtain ⟨y1,_,Yx,_⟩:=Ia.at_
    have VB:=ae.of (K:=K) (Lq.sb _ _ (ZA _ _ (Lr _ _ WB.eL)))
    have VC:=Nm.mono (C7.trans (Q6.trans (Lr.trans (ZA.trans Lq.sb))))
    refine ⟨_,rfl,eL,_,_,_,rfl,rfl,VB,rfl,a8 x0 x1 0,y0,_,rfl,U1,rfl,B6,a8 x0 x1 0,_,_,L6 0,rfl,yc,fun pw hpw=>?_⟩
    rw [pB 0 (by decide)] at hpw
    refine ⟨_,rfl,xa (p:=some Pp) (hpw.mono Lq.sb) VC ?_⟩
    refine ⟨_,rfl,iI ?_⟩
    refine ⟨_,rfl,eL,_,_,_,rfl,rfl,VB,rfl,a8 x0 x1 1,y1,_,rfl,Yx,rfl,B6,a8 x0 x1 1,_,_,L6 1,rfl,Ia,fun pw' VD=>?_⟩
    rw [pB 1 (by decide)] at VD
    refine ⟨_,rfl,xa (p:=some Pp) (VD.mono Lq.sb) VC ?_⟩
    refine ⟨_,rfl,iI ?_⟩
    exact ⟨B6,E6,tA6,pA6,L6,VA,ρ6,Y8,Y9,_,rfl,Lr.trans ZA,Lq,ts6,fun a o h0 h1 h2 e=>fr6 a o h0 h1 h2 (JA a o h0 h1 h2 e),hI6.next⟩
   rintro σ IZ ⟨B5,E5,tA5,pA5,L5,O2,ρ5,xc,LG,w11,rfl,Lr,uh,WC,JA,Y7⟩
   obtain ⟨⟨G5,a5⟩,s5',hs5⟩:=Y7
   rw [show T2+(tk - T2)=tk by omega] at a5
   have VE:E5 pu=some (.lst (bD 2 Gy)):=JA pu _ (n0 pu _ Ib) (Y2 pu _ Ib) (Ne.symm (Q0 si _ ts.si)) (keep pu _ Ib)
   have ZC:∀ s,s < 2→qF B5 E5 (Gy s) (pL s):=fun s hs=>by
    obtain ⟨⟨_,h2⟩,h3,_⟩:=Ic s hs
    exact h3.same (Q6.trans Lr) fun o e=>JA _ _ (n0 _ _ e) (Y2 _ _ e) h2 (keep _ _ e)
   refine ⟨2,rfl,by decide,by decide,?_⟩
   refine cS (lo:=0) (n:=2) (fun sd σ H'=>∃ (Rt v17:Option V),σ=[some (.ref sc),some (.ref nl),some (.ref ma),some (.int ((late:Int)+(lost:Int))),some (.int (bg:Int)),some (.int (tk:Int)),some (.ref wL),some (.ref eL),some (.ref cL),some (.ref Nn),some (.ref si),w11,some pv,some (.ref pu),Rt,U2,Q3,v17]∧aK IZ H') ⟨_,_,rfl,aK.refl _⟩ ?_ ?_
   ·rintro sd σ Ui dY ⟨w14,w17,rfl,Nh⟩
    rw [show (0:Int)+(sd:Nat)=(sd:Int) by omega]
    have vq:1 - sd < 2:=by omega
    have Cw:(1:Int) - (sd:Int)=((1 - sd:Nat):Int):=by omega
    obtain ⟨iN,C5,k1,k2⟩:=WC.tk sd dY
    obtain ⟨gj,m1,m2⟩:=ZC (1 - sd) vq
    have k1H:=Nh _ _ (uh.ee _ _ k1)
    refine ⟨_,rfl,_,rfl,Nn,_,_,_,rfl,rfl,ae.of (Nh _ _ (uh.sb _ _ (Lr _ _ WB.uF))),mY dY,a8 tE vW sd,rfl,⟨_,ae.of k1H⟩,fun D hD=>?_⟩
    have hkl:=a5.tl sd dY
    have VF:=(a5.pc.rel (1 - sd) vq Pp).2.2
    rw [show 1 - (1 - sd)=sd by omega,a5.hw (1 - sd) vq,hkl] at VF
    have GL:=(Ic (1 - sd) vq).2.2.2
    refine kA (K:=K) (a:=a8 tE vW sd) (xs:=bD (xc sd).length iN) (fun i σ H'=>(∃ v,σ=[v])∧aK Ui H'∧H' D=some (.lst (bD i C5)))
     ⟨⟨none,rfl⟩,(aK.refl _).new hD,aD⟩ (fun i σ H' _ p=>ae.of (p.2.1 _ _ k1H)) ?_ ?_
    ·rintro i v σ H' N hN hi ⟨⟨v0,rfl⟩,Ru,w1⟩
     obtain ⟨Kj,rfl⟩:=tab_of hi
     obtain ⟨x,hx⟩:∃ x,(xc sd)[i]?=some x:=⟨_,List.getElem?_eq_getElem Kj⟩
     refine ck ?_
     exact ⟨_,rfl,iN i,_,_,_,rfl,rfl,cD.of (Ru _ _ (Nh _ _ (uh.sb _ _ (k2 i x hx).1))),rfl,_,w1,by rw [aN];omega,hN _ _ ⟨⟨_,rfl⟩,Ru.put hD,by rw [aD];exact congrArg (fun l=>some (HO.lst l)) (rf i fun j=>V.ref (C5 j)).symm⟩⟩
    rintro σ Rv ⟨⟨v0,rfl⟩,U5,LH⟩
    rw [aN] at LH
    have ZD:=Nh.trans U5
    have puH:=ZD _ _ (uh.ee _ _ VE)
    have pcH:=ZD _ _ (uh.ee _ _ m1)
    have ZE:gP (bD (pL (1 - sd)).length gj) none (some (((bD (xc sd).length C5).length:Nat):Int))=bD (xc sd).length gj:=by rw [aN];exact qT VF
    have VG:qA (bD 2 Gy) ((1:Int) - (sd:Int))=some (.ref (Gy (1 - sd))):=by rw [Cw];exact fX (be vq)
    refine ⟨_,rfl,_,rfl,_,rfl,_,_,rfl,rfl,pu,_,_,_,rfl,rfl,ae.of puH,VG,?_⟩
    refine ⟨_,rfl,D,_,rfl,.inl (ae.of LH),_,rfl,Gy (1 - sd),_,rfl,ae.of pcH,fun sp BN=>?_⟩
    have SS:aK Rv (upd Rv sp (.lst (gP (bD (pL (1 - sd)).length gj) none (some (((bD (xc sd).length C5).length:Nat):Int))))):=(aK.refl _).new BN
    have ES:(upd Rv sp (.lst (gP (bD (pL (1 - sd)).length gj) none (some (((bD (xc sd).length C5).length:Nat):Int))))) sp=some (.lst (bD (xc sd).length gj)):=by rw [aD,ZE]
    have VH:=ZD.trans SS
    refine ⟨D,sp,_,_,rfl,rfl,ae.of (SS _ _ LH),ae.of ES,.inl ⟨by rw [aN,aN],fun j u v hu hv=>?_,?_⟩⟩
    ·obtain ⟨hj,rfl⟩:=tab_of hu
     obtain ⟨_,rfl⟩:=tab_of hv
     obtain ⟨x,hx⟩:∃ x,(xc sd)[j]?=some x:=⟨_,List.getElem?_eq_getElem hj⟩
     have hy:=a5.tk sd dY j x hx
     exact .lst (n:=7) (ae.of (VH _ _ (uh.sb _ _ (k2 j x hx).2))) (ae.of (VH _ _ (uh.sb _ _ (m2 j _ hy)))) rfl fun k a b ha hb=>by
      rw [ha] at hb
      cases hb
      obtain ⟨z,_,rfl⟩:=mB ha
      exact .flat _ rfl
    refine ⟨_,rfl,iI ?_⟩
    refine ⟨_,rfl,_,rfl,Nn,_,_,_,rfl,rfl,ae.of (VH _ _ (uh.sb _ _ (Lr _ _ WB.uF))),mY dY,_,rfl,_,rfl,_,_,rfl,rfl,.inl ⟨by decide,by decide⟩,_,_,rfl,rfl,_,_,rfl,rfl,_,rfl,_,_,rfl,rfl,_,rfl,_,rfl,_,rfl,_,_,rfl,rfl,pu,_,_,_,rfl,rfl,ae.of (SS _ _ puH),VG,Gy (1 - sd),_,rfl,.inl (ae.of (SS _ _ pcH)),?_⟩
    refine ⟨a8 tE vW sd,xc sd,iN,C5,T2 - 1,tk - 1,late+lost,(pL (1 - sd)).length,?_,VH _ _ (uh.ee _ _ k1),fun y x hx=>VH _ _ (uh.sb _ _ (k2 y x hx).1),by omega,a5.go sd dY,?_,fun H19 s19=>?_⟩
    ·show [V.ref (a8 tE vW sd),V.int ((bg:Int)+3 * ((late:Int)+(lost:Int))+1),V.int ((tk:Int) - 1),V.int ((late:Int)+(lost:Int)),V.int ((bD (pL (1 - sd)).length gj).length:Int)]=_
     rw [aN,show (bg:Int)+3 * ((late:Int)+(lost:Int))+1=((T2 - 1+1:Nat):Int) by omega,show (tk:Int) - 1=((tk - 1:Nat):Int) by omega,← qc]
    ·rcases a5.done (T:=tk) (fun s hs=>rfl) sd dY with z | z
     ·exact .inl z
     ·exact .inr (by omega)
    refine ⟨_,rfl,iI ?_⟩
    exact ⟨_,_,rfl,Nh.trans (U5.trans (SS.trans s19))⟩
   rintro σ Ui ⟨w14,w17,rfl,Nh⟩
   have siH:=Nh _ _ (uh.ee _ _ WC.si)
   refine ⟨_,rfl,si,rfl,⟨_,ae.of siH⟩,fun D hD=>?_⟩
   refine kA (K:=K) (a:=si) (xs:=LG.map fun (n:Nat)=>V.int (n:Int)) (fun i σ H'=>(∃ v,σ=[v,some (.int (bg:Int)),some (.int ((late:Int)+(lost:Int)))])∧aK Ui H'∧H' D=some (.lst []))
    ⟨⟨none,rfl⟩,(aK.refl _).new hD,aD⟩ (fun i σ H' _ p=>ae.of (p.2.1 _ _ siH)) ?_ ?_
   ·rintro i v σ H' N hN hi ⟨⟨v0,rfl⟩,Ru,w1⟩
    rw [List.getElem?_map] at hi
    obtain ⟨m,Vc,rfl⟩:∃ m,LG[i]?=some m∧V.int (m:Int)=v:=by
     cases e:LG[i]? with
     | none=>rw [e] at hi;cases hi
     | some m=>rw [e] at hi;cases hi;exact ⟨m,rfl,rfl⟩
    have eU:=hs5 m (List.mem_of_getElem? Vc)
    refine turn_if ?_
    exact ⟨_,rfl,_,rfl,_,rfl,_,_,rfl,rfl,_,_,rfl,rfl,_,rfl,dE (by show ¬ ((bg:Int)+((late:Int)+(lost:Int))≤(m:Int));omega) (hN _ _ ⟨⟨_,rfl⟩,Ru,w1⟩)⟩
   rintro σ Rv ⟨⟨v0,rfl⟩,U5,LH⟩
   refine ⟨D,_,rfl,.inl (ae.of LH),rfl,?_⟩
   exact q _
theorem Np {f:Addr} {fd:FuncData} (T:Txt K mg t) (F:lF K "law" "law" qB f fd) (uG:aT K mg "is_sign" pT) (oa:aT K mg "look_sign" kE) (og:aT K mg "look_unit" kF) (A8:aT K mg "power" vm) (uH:aT K mg "inverse" pU) (qi:aT K mg "exponent" mD) (qj:aT K mg "equation" jO) (ke:aT K mg "pivot_place" iE) (oh:aT K mg "exchanged" kG) (qk:aT K mg "lessened" jP) (uI:aT K mg "cleared" jB) (xf:aT K mg "solved" lK) (me:aT K mg "look_signs" iy) (oi:aT K mg "look_cell" kH) (ql:aT K mg "value_at" mE) (qm:aT K mg "troubles" jQ) (oj:aT K mg "is_sealed" kI) (uJ:aT K mg "carried" lL) (xg:aT K mg "sealed" oB) (oo:aT K mg "look_late" kJ) (je:aT K mg "look_measure" fe) (qo:aT K mg "quiet_of" mF) (mf:aT K mg "lone_place" iz) (uK:aT K mg "is_root" pV) (iV:aT K mg "turned_places" dO) (qp:aT K mg "turns_at" jR) (xh:aT K mg "mended" sE) (jf:aT K mg "number_signs" ff) (jg:aT K mg "signs_number" fg) (mh:aT K mg "look_piece" i6) (oq:aT K mg "_law_cell" kK) (jh:aT K mg "_law_numbers" fh) (ji:aT K mg "_law_measure" fj) (mi:aT K mg "_law_turns" fk) (ot:aT K mg "_law_fate" kL) (kf:aT K mg "_law_turned" iF) (ou:aT K mg "_law_give" kM) (mj:aT K mg "_law_sharp" fo) (ox:aT K mg "_law_tick" iL) (jj:aT K mg "_law_weather" fq) (jk:aT K mg "_law_gone_on" da):bz P w K mg base (j5 P w) 12 f fd ["script"] (zT K):=by
 obtain ⟨WD,LI⟩:=T.fi
 obtain ⟨Ie,sj⟩:=T.vM
 obtain ⟨WE,LJ⟩:=T.QO
 obtain ⟨Ls,xi⟩:=T.Ab
 obtain ⟨WG,LK⟩:=T.QP
 obtain ⟨WH,LL⟩:=T.QQ
 obtain ⟨Q8,DC⟩:=T.Ht
 obtain ⟨Rx,Eu⟩:=T.KS
 obtain ⟨Lu,xj⟩:=T.Ac
 obtain ⟨Lv,xk⟩:=T.Ae
 obtain ⟨Lw,xl⟩:=T.Af
 obtain ⟨ZF,Nq⟩:=T.Ti
 obtain ⟨aBd,Q9⟩:=T.XX
 obtain ⟨Ry,Ew⟩:=T.KU
 have gd:=EA (P:=P) (w:=w) (base:=base) uG T
 have dq:=yL me T gd
 have oJ:=Ah oi T dq
 have dc:=Aj oa T gd
 have kN:=Al og T dc
 have eZ:=KY A8 T dc
 have jE:=EC uH T kN eZ
 have qb:=CU qi T kN
 have qY:=CV (P:=P) (w:=w) (base:=base) ql T
 have gh:=CY qm T oJ qY eZ
 have oP:=An oj T gh
 have tX:=EE (P:=P) (w:=w) (base:=base) uJ T
 have xJ:=Hv xg T dq tX
 have oK:=Aq (P:=P) (w:=w) (base:=base) oo T
 have jT:=vN je T oK
 have qe:=Ca qo T jT
 have qa:=Cc (P:=P) (w:=w) (base:=base) qj T
 have kW:=wz (P:=P) (w:=w) (base:=base) ke T
 have oO:=Ar (P:=P) (w:=w) (base:=base) oh T
 have qZ:=Ce (P:=P) (w:=w) (base:=base) qk T
 have tZ:=EF uI T jE qZ
 have lU:=Hx xf T qa kW oO tZ
 have mM:=yO mf T qb jE
 have tj:=EI (P:=P) (w:=w) (base:=base) uK T
 have iS:=tf iV T lU mM tj eZ
 have qd:=Cf qp T lU eZ
 have xK:=Hy xh T gh oP iS qd
 obtain ⟨cV,cW⟩:=tp (P:=P) (w:=w) (base:=base) T sj
 obtain ⟨lW,lX⟩:=IC T Eu cV cW
 obtain ⟨ER,ET⟩:=M8 T LL lW lX
 have gD:=vO (P:=P) (w:=w) (base:=base) jf T
 have gC:=vP jg T dc
 obtain ⟨tz,t7⟩:=EO (P:=P) (w:=w) (base:=base) T DC
 obtain ⟨mS,mT⟩:=yQ T xj lW lX
 obtain ⟨mO,mP⟩:=yR (P:=P) (w:=w) (base:=base) T xk
 obtain ⟨mQ,mR⟩:=yT (P:=P) (w:=w) (base:=base) T xl
 obtain ⟨DA,DB⟩:=T8 (P:=P) (w:=w) (base:=base) T Q9
 obtain ⟨xY,xZ⟩:=IG (P:=P) (w:=w) (base:=base) T Ew
 obtain ⟨EX,EY⟩:=NF T LK gC ER ET tz t7 mO mP mQ mR
 obtain ⟨mU,mV⟩:=yV T xi gD xJ
 obtain ⟨Eo,Er⟩:=NN T LJ xK EX EY mS mT mU mV
 obtain ⟨A6,A7⟩:=NP T LI qe cV cW
 have mW:=yW mh T gd
 obtain ⟨LD,LF⟩:=Qh T Nq mW
 have jb:=vR (P:=P) (w:=w) (base:=base) ji
 have cJ:=yY (P:=P) (w:=w) (base:=base) mi T
 have fR:=Ay ot T cJ
 have kd:=xO (P:=P) (w:=w) (base:=base) kf T
 have oZ:=A0 gG ou T kd
 have cz:=vS (P:=P) (w:=w) (base:=base) jh T
 have fS:=A2 (P:=P) (w:=w) (base:=base) oq T
 have md:=yZ mj T cJ fR
 have jc:=vU jj T fS cz fR md
 have kQ:=A5 ox T oZ Eo Er xY xZ
 have jd:=vV (P:=P) (w:=w) (base:=base) jk T
 exact Qx T F fS cz jb jc kQ jd A6 A7 DA DB LD LF
end
end K35
namespace K35
open PySem L2 PyProof.Rows
theorem RA {K:PySem.W.Frag} {h:Heap} {mg:Str→Option Value} {dv cK dJ dw uL aa gK xm b8 lj c9 lq lr fT gu dB dC dD pe uM jH gw:Addr} {vX A9 vY BA yd su ye yf BB yg BC Ex LM Ig LN:Tok} {Ey:Option Addr} {Ez E4 E7 E8 E9 FA:Tok} {Ih:Nat} {FC:Array (Option Value)} {ioc:Value} {iod ian:Option Addr} {ZG:Array (Option Value)} {ikV ZH ipm VI ict:Value} {uN:Value} {uO uP:Option Addr} {sv:Array (Option Value)} {uQ sx uR kR uS:Value} {Nr:Value} {Nt Nu:Option Addr} {LO:Array (Option Value)} {Nv LP Nw DD Nx:Value} {yh:Value} {yi yj:Option Addr} {xn:Array (Option Value)} {yk xo yl oy ym:Value} {Ny:Value} {Nz N0:Option Addr} {LQ:Array (Option Value)} {N1 LR N3 DE N4:Value} {N5:Value} {N6 N7:Option Addr} {LS:Array (Option Value)} {N8 LU N9 DF OA:Value} {FD:Value} {FE FF:Option Addr} {DG:Array (Option Value)} {FG DH FH vH FI:Value} {Ii:Value} {Ij Ik:Option Addr} {FJ:Array (Option Value)} {Il FK Im xq Io:Value} {yn:Value} {yo yp:Option Addr} {xr:Array (Option Value)} {yq xu yr oz yt:Value} {yu:Value} {yv yw:Option Addr} {xv:Array (Option Value)} {yx xw yy o3 yz:Value} {y3:Value} {y4 y6:Option Addr} {xx:Array (Option Value)} {y8 xy y9 o4 zF:Value} {RB:Value} {RC RD:Option Addr} {OB:Array (Option Value)} {RE OC RF Gz RG:Value} {VJ:Value} {VL VM:Option Addr} {RH:Array (Option Value)} {VN RI VO LV VP:Value} {LW:Value} {LX LY:Option Addr} {Ip:Array (Option Value)} {LZ Iq La z9 Lb:Value} {Ir:Value} {Iu Iv:Option Addr} {FL:Array (Option Value)} {Iw FN Iy x3 Iz:Value} (KX:K.In h) (G:h.Ns mainGlobals mg)
  (qr:PySem.W.nsIn K mainGlobals "BadCell"=some (some (.ref dv)))
  (kg:PySem.W.nsIn K mainGlobals "BadMeasure"=some (some (.ref cK)))
  (o5:PySem.W.nsIn K mainGlobals "BadPiece"=some (some (.ref dJ)))
  (qu:PySem.W.nsIn K mainGlobals "BadSign"=some (some (.ref dw)))
  (qv:PySem.W.nsIn K mainGlobals "DIVISOR"=some (some (.ref uL)))
  (qw:PySem.W.nsIn K mainGlobals "LinkEnd"=some (some (.ref aa)))
  (uT:PySem.W.nsIn K mainGlobals "NoLink"=some (some (.ref gK)))
  (jl:PySem.W.nsIn K mainGlobals "BIRTH_SIGNS"=some (some (.int 2 vX)))
  (o6:PySem.W.nsIn K mainGlobals "COUNT_AT"=some (some (.int 5 A9)))
  (jm:PySem.W.nsIn K mainGlobals "FREE_PLACES"=some (some (.int 18 vY)))
  (o7:PySem.W.nsIn K mainGlobals "KNOWN_AT"=some (some (.int 2 BA)))
  (ml:PySem.W.nsIn K mainGlobals "LENGTH_AT"=some (some (.int 6 yd)))
  (gy:PySem.W.nsIn K mainGlobals "LONGEST_PIECE"=some (some (.int 10 su)))
  (mm:PySem.W.nsIn K mainGlobals "MOST_LATE"=some (some (.int 6 ye)))
  (mn:PySem.W.nsIn K mainGlobals "MOST_LOST"=some (some (.int 4 yf)))
  (o8:PySem.W.nsIn K mainGlobals "NO_BIRTH"=some (some (.int 0 BB)))
  (mo:PySem.W.nsIn K mainGlobals "NUMBER_AT"=some (some (.int 4 yg)))
  (o9:PySem.W.nsIn K mainGlobals "PIECE_AT"=some (some (.int 7 BC)))
  (uU:PySem.W.nsIn K mainGlobals "PLACES"=some (some (.int 24 Ex)))
  (BD:PySem.W.nsIn K mainGlobals "ROOT"=some (some (.int 5 LM)))
  (x4:PySem.W.nsIn K mainGlobals "SIGNS"=some (some (.int 97 Ig)))
  (BE:PySem.W.nsIn K mainGlobals "SUMS"=some (some (.int 6 LN)))
  (BF:PySem.W.nsIn K mainGlobals "int"=some none)
  (BG:PySem.W.nsIn K mainGlobals "len"=some none)
  (x5:PySem.W.nsIn K mainGlobals "list"=some none)
  (BH:PySem.W.nsIn K mainGlobals "max"=some none)
  (uV:PySem.W.nsIn K mainGlobals "range"=some none)
  (mq:PySem.W.nsIn K mainGlobals "reversed"=some none)
  (uW:PySem.W.nsIn K mainGlobals "tuple"=some none)
  (BI:PySem.W.nsIn K mainGlobals "zip"=some none)
  (qx:PySem.W.excIn K dv [.type "ValueError",.type "Exception",.type "BaseException",.type "object"] "ValueError.__new__"=true)
  (kh:PySem.W.findIn K (.ref dv) "__getattribute__"=some (some (.builtin "BaseException.__getattribute__")))
  (jn:PySem.W.findIn K (.ref dv) "__getattr__"=some none)
  (jo:PySem.W.findIn K (.ref dv) "__class__"=some (some (.builtin "object.__class__")))
  (jq:PySem.W.isClsIn K dv=true)
  (jr:PySem.W.mroIn K dv (.type "object")=some true)
  (iW:PySem.W.subIn K (.ref dv) (.type "BaseException")=some true)
  (ki:PySem.W.excIn K cK [.type "ValueError",.type "Exception",.type "BaseException",.type "object"] "ValueError.__new__"=true)
  (gz:PySem.W.findIn K (.ref cK) "__getattribute__"=some (some (.builtin "BaseException.__getattribute__")))
  (gL:PySem.W.findIn K (.ref cK) "__getattr__"=some none)
  (gM:PySem.W.findIn K (.ref cK) "__class__"=some (some (.builtin "object.__class__")))
  (gN:PySem.W.isClsIn K cK=true)
  (gO:PySem.W.mroIn K cK (.type "object")=some true)
  (e9:PySem.W.subIn K (.ref cK) (.type "BaseException")=some true)
  (pD:PySem.W.excIn K dJ [.type "ValueError",.type "Exception",.type "BaseException",.type "object"] "ValueError.__new__"=true)
  (js:PySem.W.findIn K (.ref dJ) "__getattribute__"=some (some (.builtin "BaseException.__getattribute__")))
  (iX:PySem.W.findIn K (.ref dJ) "__getattr__"=some none)
  (iY:PySem.W.findIn K (.ref dJ) "__class__"=some (some (.builtin "object.__class__")))
  (iZ:PySem.W.isClsIn K dJ=true)
  (ia:PySem.W.mroIn K dJ (.type "object")=some true)
  (g7:PySem.W.subIn K (.ref dJ) (.type "BaseException")=some true)
  (qy:PySem.W.excIn K dw [.type "ValueError",.type "Exception",.type "BaseException",.type "object"] "ValueError.__new__"=true)
  (kj:PySem.W.findIn K (.ref dw) "__getattribute__"=some (some (.builtin "BaseException.__getattribute__")))
  (jt:PySem.W.findIn K (.ref dw) "__getattr__"=some none)
  (ju:PySem.W.findIn K (.ref dw) "__class__"=some (some (.builtin "object.__class__")))
  (jv:PySem.W.isClsIn K dw=true)
  (jw:PySem.W.mroIn K dw (.type "object")=some true)
  (ib:PySem.W.subIn K (.ref dw) (.type "BaseException")=some true)
  (uX:PySem.W.excIn K gK [.type "ValueError",.type "Exception",.type "BaseException",.type "object"] "ValueError.__new__"=true)
  (mr:PySem.W.findIn K (.ref gK) "__getattribute__"=some (some (.builtin "BaseException.__getattribute__")))
  (kl:PySem.W.findIn K (.ref gK) "__getattr__"=some none)
  (kn:PySem.W.findIn K (.ref gK) "__class__"=some (some (.builtin "object.__class__")))
  (ko:PySem.W.isClsIn K gK=true)
  (kq:PySem.W.mroIn K gK (.type "object")=some true)
  (jx:PySem.W.subIn K (.ref gK) (.type "BaseException")=some true)
  (qz:K.lookup uL=some ⟨.type "tuple",Ey,.seq #[.int (21) Ez,.int (80) E4,.int (53) E7,.int (2) E8,.int (55) E9,.int (63) FA] Ih,FC⟩)
  (uY:PySem.W.makesIn K aa=true)
  (x6:PySem.W.findIn K (.ref aa) "__init__"=some (some (.ref xm)))
  (FO:PySem.W.isFn K (.ref xm)=true)
  (FP:PySem.W.keepIn K (.ref aa)=true)
  (FQ:K.lookup xm=some ⟨ioc,iod,.func (PySem.W.fnOf "__init__" "LinkEnd.__init__" (bX tU) (bL tU) (aI tU) .none ikV ZH ipm ian VI ict),ZG⟩)
  (FR:PySem.W.codeIn K VI "LinkEnd.__init__"=true)
  (FT:PySem.W.keepIn K (.ref xm)=true)
  (FU:PySem.W.plainGet K aa Str.empty=true)
  (FV:PySem.W.hasDictIn K aa=true)
  (FW:PySem.W.plainOver K aa=true)
  (FX:PySem.W.findIn K (.ref aa) "__setattr__"=some (some (.builtin "object.__setattr__")))
  (rA:PySem.W.findIn K (.ref aa) "quiet"=some none)
  (uZ:PySem.W.findIn K (.ref aa) "side"=some none)
  (ua:PySem.W.findIn K (.ref aa) "done"=some none)
  (mw:PySem.W.findIn K (.ref aa) "unheard"=some none)
  (rB:PySem.W.findIn K (.ref aa) "birth"=some none)
  (rC:PySem.W.findIn K (.ref aa) "known"=some none)
  (uc:PySem.W.findIn K (.ref aa) "pair"=some none)
  (ud:PySem.W.findIn K (.ref aa) "told"=some none)
  (pE:PySem.W.findIn K (.ref aa) "pieces"=some none)
  (mz:PySem.W.findIn K (.ref aa) "offered"=some none)
  (rD:PySem.W.findIn K (.ref aa) "taken"=some none)
  (dM:PySem.W.findIn K (.ref aa) "forget_pieces"=some (some (.ref b8)))
  (dU:PySem.W.isFn K (.ref b8)=true)
  (dW:PySem.W.keepIn K (.ref b8)=true)
  (eJ:K.lookup b8=some ⟨uN,uO,.func (PySem.W.fnOf "forget_pieces" "LinkEnd.forget_pieces" (bX cT) (bL cT) (aI cT) .none uQ sx uR uP kR uS),sv⟩)
  (eM:PySem.W.codeIn K kR "LinkEnd.forget_pieces"=true)
  (eN:PySem.W.keepIn K (.ref b8)=true)
  (kr:PySem.W.findIn K (.ref aa) "tick"=some (some (.ref lj)))
  (m8:PySem.W.isFn K (.ref lj)=true)
  (m9:PySem.W.keepIn K (.ref lj)=true)
  (rF:K.lookup lj=some ⟨Nr,Nt,.func (PySem.W.fnOf "tick" "LinkEnd.tick" (bX oC) (bL oC) (aI oC) .none Nv LP Nw Nu DD Nx),LO⟩)
  (rG:PySem.W.codeIn K DD "LinkEnd.tick"=true)
  (rH:PySem.W.keepIn K (.ref lj)=true)
  (eQ:PySem.W.findIn K (.ref aa) "cell_given"=some (some (.ref c9)))
  (fD:PySem.W.isFn K (.ref c9)=true)
  (fE:PySem.W.keepIn K (.ref c9)=true)
  (g8:K.lookup c9=some ⟨yh,yi,.func (PySem.W.fnOf "cell_given" "LinkEnd.cell_given" (bX di) (bL di) (aI di) .none yk xo yl yj oy ym),xn⟩)
  (g9:PySem.W.codeIn K oy "LinkEnd.cell_given"=true)
  (hG:PySem.W.keepIn K (.ref c9)=true)
  (ku:PySem.W.findIn K (.ref aa) "read"=some (some (.ref lq)))
  (nB:PySem.W.isFn K (.ref lq)=true)
  (nC:PySem.W.keepIn K (.ref lq)=true)
  (rJ:K.lookup lq=some ⟨Ny,Nz,.func (PySem.W.fnOf "read" "LinkEnd.read" (bX tV) (bL tV) (aI tV) .none N1 LR N3 N0 DE N4),LQ⟩)
  (rK:PySem.W.codeIn K DE "LinkEnd.read"=true)
  (rL:PySem.W.keepIn K (.ref lq)=true)
  (k8:PySem.W.findIn K (.ref aa) "meet"=some (some (.ref lr)))
  (nE:PySem.W.isFn K (.ref lr)=true)
  (nF:PySem.W.keepIn K (.ref lr)=true)
  (rM:K.lookup lr=some ⟨N5,N6,.func (PySem.W.fnOf "meet" "LinkEnd.meet" (bX tW) (bL tW) (aI tW) .none N8 LU N9 N7 DF OA),LS⟩)
  (rN:PySem.W.codeIn K DF "LinkEnd.meet"=true)
  (rO:PySem.W.keepIn K (.ref lr)=true)
  (hJ:PySem.W.findIn K (.ref aa) "come_up"=some (some (.ref fT)))
  (ic:PySem.W.isFn K (.ref fT)=true)
  (ie:PySem.W.keepIn K (.ref fT)=true)
  (k9:K.lookup fT=some ⟨FD,FE,.func (PySem.W.fnOf "come_up" "LinkEnd.come_up" (bX jC) (bL jC) (aI jC) .none FG DH FH FF vH FI),DG⟩)
  (lB:PySem.W.codeIn K vH "LinkEnd.come_up"=true)
  (lC:PySem.W.keepIn K (.ref fT)=true)
  (ig:PySem.W.findIn K (.ref aa) "end_up"=some (some (.ref gu)))
  (jy:PySem.W.isFn K (.ref gu)=true)
  (jz:PySem.W.keepIn K (.ref gu)=true)
  (nG:K.lookup gu=some ⟨Ii,Ij,.func (PySem.W.fnOf "end_up" "LinkEnd.end_up" (bX lM) (bL lM) (aI lM) .none Il FK Im Ik xq Io),FJ⟩)
  (nH:PySem.W.codeIn K xq "LinkEnd.end_up"=true)
  (nI:PySem.W.keepIn K (.ref gu)=true)
  (eR:PySem.W.findIn K (.ref aa) "start_over"=some (some (.ref dB)))
  (fF:PySem.W.isFn K (.ref dB)=true)
  (fG:PySem.W.keepIn K (.ref dB)=true)
  (hU:K.lookup dB=some ⟨yn,yo,.func (PySem.W.fnOf "start_over" "LinkEnd.start_over" (bX dj) (bL dj) (aI dj) .none yq xu yr yp oz yt),xr⟩)
  (hV:PySem.W.codeIn K oz "LinkEnd.start_over"=true)
  (hW:PySem.W.keepIn K (.ref dB)=true)
  (eS:PySem.W.findIn K (.ref aa) "hear_count"=some (some (.ref dC)))
  (fH:PySem.W.isFn K (.ref dC)=true)
  (fI:PySem.W.keepIn K (.ref dC)=true)
  (hX:K.lookup dC=some ⟨yu,yv,.func (PySem.W.fnOf "hear_count" "LinkEnd.hear_count" (bX dk) (bL dk) (aI dk) .none yx xw yy yw o3 yz),xv⟩)
  (hZ:PySem.W.codeIn K o3 "LinkEnd.hear_count"=true)
  (h8:PySem.W.keepIn K (.ref dC)=true)
  (eT:PySem.W.findIn K (.ref aa) "take_piece"=some (some (.ref dD)))
  (fJ:PySem.W.isFn K (.ref dD)=true)
  (fK:PySem.W.keepIn K (.ref dD)=true)
  (h9:K.lookup dD=some ⟨y3,y4,.func (PySem.W.fnOf "take_piece" "LinkEnd.take_piece" (bX dm) (bL dm) (aI dm) .none y8 xy y9 y6 o4 zF),xx⟩)
  (iA:PySem.W.codeIn K o4 "LinkEnd.take_piece"=true)
  (iC:PySem.W.keepIn K (.ref dD)=true)
  (nJ:PySem.W.findIn K (.ref aa) "put"=some (some (.ref pe)))
  (pF:PySem.W.isFn K (.ref pe)=true)
  (pG:PySem.W.keepIn K (.ref pe)=true)
  (ue:K.lookup pe=some ⟨RB,RC,.func (PySem.W.fnOf "put" "LinkEnd.put" (bX ze) (bL ze) (aI ze) .none RE OC RF RD Gz RG),OB⟩)
  (uf:PySem.W.codeIn K Gz "LinkEnd.put"=true)
  (ug:PySem.W.keepIn K (.ref pe)=true)
  (pH:PySem.W.findIn K (.ref aa) "up"=some (some (.ref uM)))
  (rP:PySem.W.isFn K (.ref uM)=true)
  (rQ:PySem.W.keepIn K (.ref uM)=true)
  (x8:K.lookup uM=some ⟨VJ,VL,.func (PySem.W.fnOf "up" "LinkEnd.up" (bX Hq) (bL Hq) (aI Hq) .none VN RI VO VM LV VP),RH⟩)
  (x9:PySem.W.codeIn K LV "LinkEnd.up"=true)
  (yA:PySem.W.keepIn K (.ref uM)=true)
  (j0:PySem.W.findIn K (.ref aa) "waits"=some (some (.ref jH)))
  (lD:PySem.W.isFn K (.ref jH)=true)
  (lE:PySem.W.keepIn K (.ref jH)=true)
  (pI:K.lookup jH=some ⟨LW,LX,.func (PySem.W.fnOf "waits" "LinkEnd.waits" (bX vn) (bL vn) (aI vn) .none LZ Iq La LY z9 Lb),Ip⟩)
  (pJ:PySem.W.codeIn K z9 "LinkEnd.waits"=true)
  (pK:PySem.W.keepIn K (.ref jH)=true)
  (ij:PySem.W.findIn K (.ref aa) "events"=some (some (.ref gw)))
  (j3:PySem.W.isFn K (.ref gw)=true)
  (j4:PySem.W.keepIn K (.ref gw)=true)
  (nK:K.lookup gw=some ⟨Ir,Iu,.func (PySem.W.fnOf "events" "LinkEnd.events" (bX lN) (bL lN) (aI lN) .none Iw FN Iy Iv x3 Iz),FL⟩)
  (nL:PySem.W.codeIn K x3 "LinkEnd.events"=true)
  (nM:PySem.W.keepIn K (.ref gw)=true)
  : ∃ t,Txt K mg t:=⟨⟨dv,cK,dJ,dw,uL,aa,gK,xm,b8,lj,c9,lq,lr,fT,gu,dB,dC,dD,pe,uM,jH,gw⟩,⟨⟨_,PySem.W.mg_of KX G jl⟩,⟨_,PySem.W.mg_of KX G o6⟩,⟨_,PySem.W.mg_of KX G jm⟩,⟨_,PySem.W.mg_of KX G o7⟩,⟨_,PySem.W.mg_of KX G ml⟩,⟨_,PySem.W.mg_of KX G gy⟩,⟨_,PySem.W.mg_of KX G mm⟩,⟨_,PySem.W.mg_of KX G mn⟩,⟨_,PySem.W.mg_of KX G o8⟩,⟨_,PySem.W.mg_of KX G mo⟩,⟨_,PySem.W.mg_of KX G o9⟩,⟨_,PySem.W.mg_of KX G uU⟩,⟨_,PySem.W.mg_of KX G BD⟩,⟨_,PySem.W.mg_of KX G x4⟩,⟨_,PySem.W.mg_of KX G BE⟩,PySem.W.mg_none_of KX G BF,PySem.W.mg_none_of KX G BG,PySem.W.mg_none_of KX G x5,PySem.W.mg_none_of KX G BH,PySem.W.mg_none_of KX G uV,PySem.W.mg_none_of KX G mq,PySem.W.mg_none_of KX G uW,PySem.W.mg_none_of KX G BI,PySem.W.mg_of KX G qr,PySem.W.mg_of KX G kg,PySem.W.mg_of KX G o5,PySem.W.mg_of KX G qu,PySem.W.mg_of KX G qv,PySem.W.mg_of KX G qw,PySem.W.mg_of KX G uT,qx,⟨kh,jn,jo,jq,jr,iW⟩,ki,⟨gz,gL,gM,gN,gO,e9⟩,pD,⟨js,iX,iY,iZ,ia,g7⟩,qy,⟨kj,jt,ju,jv,jw,ib⟩,uX,⟨mr,kl,kn,ko,kq,jx⟩,⟨⟨_,_,_,qz,rfl,rfl,(zz6),(.cons ⟨_,rfl⟩ (.cons ⟨_,rfl⟩ (.cons ⟨_,rfl⟩ (.cons ⟨_,rfl⟩ (.cons ⟨_,rfl⟩ (.cons ⟨_,rfl⟩ .nil))))))⟩⟩,⟨uY,x6,FO,FP⟩,⟨_,eF FQ FR FT⟩,⟨FU,FV,FW,FX⟩,rA,uZ,ua,mw,rB,rC,uc,ud,pE,mz,rD,⟨dM,dU,dW⟩,⟨_,eF eJ eM eN⟩,⟨kr,m8,m9⟩,⟨_,eF rF rG rH⟩,⟨eQ,fD,fE⟩,⟨_,eF g8 g9 hG⟩,⟨ku,nB,nC⟩,⟨_,eF rJ rK rL⟩,⟨k8,nE,nF⟩,⟨_,eF rM rN rO⟩,⟨hJ,ic,ie⟩,⟨_,eF k9 lB lC⟩,⟨ig,jy,jz⟩,⟨_,eF nG nH nI⟩,⟨eR,fF,fG⟩,⟨_,eF hU hV hW⟩,⟨eS,fH,fI⟩,⟨_,eF hX hZ h8⟩,⟨eT,fJ,fK⟩,⟨_,eF h9 iA iC⟩,⟨nJ,pF,pG⟩,⟨_,eF ue uf ug⟩,⟨pH,rP,rQ⟩,⟨_,eF x8 x9 yA⟩,⟨j0,lD,lE⟩,⟨_,eF pI pJ pK⟩,⟨ij,j3,j4⟩,⟨_,eF nK nL nM⟩⟩⟩
end K35
open PySem PySem.W PyProof.Rows
def PySem.W.Fast.tw3480477080647452054:Nat:=0
def PySem.W.Fast.tw11805953071655644655:Nat:=0
def PySem.W.Fast.tw6691671027299911855:Nat:=0
def PySem.W.Fast.tw4804448163441339242:Nat:=0
def PySem.W.Fast.tw6668088405523181017:Nat:=0
def PySem.W.Fast.tw14276194997943782876:Nat:=0
def PySem.W.Fast.tw1370238792644323601:Nat:=0
def PySem.W.Fast.tw16842511026130818667:Nat:=0
def PySem.W.Fast.tw5830354137794884369:Nat:=0
def PySem.W.Fast.tw8471454104833520745:Nat:=0
def PySem.W.Fast.tw8099822881093884894:Nat:=0
def PySem.W.Fast.tw15706456660707503570:Nat:=0
def PySem.W.Fast.tw5741182133181224441:Nat:=0
def PySem.W.Fast.tw5283130756640613225:Nat:=0
def PySem.W.Fast.tw11959118248273377983:Nat:=0
def PySem.W.Fast.tw5442451785426833281:Nat:=0
def PySem.W.Fast.tw18317694131797458923:Nat:=0
def PySem.W.Fast.tw2723449484333035997:Nat:=0
def PySem.W.Fast.tw14386759500908556920:Nat:=0
def PySem.W.Fast.tw618405709661012130:Nat:=0
def PySem.W.Fast.tw2972399334779459162:Nat:=0
def PySem.W.Fast.tw431248669634809439:Nat:=0
def PySem.W.Fast.tw16421372370816480641:Nat:=0
def PySem.W.Fast.tw17734286483364453520:Nat:=0
def PySem.W.Fast.tw8277008598130130246:Nat:=0
def PySem.W.Fast.tw579780432429533812:Nat:=0
def PySem.W.Fast.tw10844627351616577439:Nat:=0
def PySem.W.Fast.tw14306280241704477398:Nat:=0
def PySem.W.Fast.tw17613636013128219414:Nat:=0
def PySem.W.Fast.tw1280178542883830569:Nat:=0
def PySem.W.Fast.tw16898358765933842268:Nat:=0
def PySem.W.Fast.tw6798641749378543477:Nat:=0
def PySem.W.Fast.tw9274558551021025845:Nat:=0
def PySem.W.Fast.tw17863278274730994299:Nat:=0
def PySem.W.Fast.tw17691283360079261784:Nat:=0
def PySem.W.Fast.tw2741789980038507605:Nat:=0
def PySem.W.Fast.tw4798018496441362430:Nat:=0
def PySem.W.Fast.tw17337015764472191657:Nat:=0
def PySem.W.Fast.tw18078212539685361498:Nat:=0
def PySem.W.Fast.tw15971109479407580860:Nat:=0
def PySem.W.Fast.tw14567679623583476443:Nat:=0
def PySem.W.Fast.tw390339597796021955:Nat:=0
def PySem.W.Fast.tw8345029373976362232:Nat:=0
def PySem.W.Fast.tw10755124887222165883:Nat:=0
def PySem.W.Fast.tw17191565921386500207:Nat:=0
def PySem.W.Fast.tw12178658569474209127:Nat:=0
def PySem.W.Fast.tw10634030355332540939:Nat:=0
def PySem.W.Fast.tw5525052218391482395:Nat:=0
def PySem.W.Fast.tw4024616740155052971:Nat:=0
def PySem.W.Fast.tw13970700961729260279:Nat:=0
def PySem.W.Fast.tw17604142468832818532:Nat:=0
def PySem.W.Fast.tw12379765310724847099:Nat:=0
def PySem.W.Fast.tw16809235134030582546:Nat:=0
def PySem.W.Fast.tw5807195927969244200:Nat:=0
def PySem.W.Fast.tw18176560007930635773:Nat:=0
def PySem.W.Fast.tw15920017692513836714:Nat:=0
def PySem.W.Fast.tw4270489073472861965:Nat:=0
def PySem.W.Fast.tw15967426869990964858:Nat:=0
def PySem.W.Fast.tw14595532155281911315:Nat:=0
def PySem.W.Fast.tw3607570006818786634:Nat:=0
def PySem.W.Fast.tw6067838976007695549:Nat:=0
def PySem.W.Fast.tw10229062528513041925:Nat:=0
def PySem.W.Fast.tw5783695005660093939:Nat:=0
def PySem.W.Fast.tw11549786239902637026:Nat:=0
def PySem.W.Fast.tw9921167369139101596:Nat:=0
def PySem.W.Fast.tw8836771119323576371:Nat:=0
def PySem.W.Fast.tw7615029889269383643:Nat:=0
def PySem.W.Fast.tw8289774962167994053:Nat:=0
def PySem.W.Fast.tw18313507691980394606:Nat:=0
def PySem.W.Fast.tw3921040018989920123:Nat:=0
def PySem.W.Fast.tw16772727510634512944:Nat:=0
def PySem.W.Fast.tw12935127404846092858:Nat:=0
def PySem.W.Fast.tw1786061202885294770:Nat:=0
def PySem.W.Fast.tw17644950985795197652:Nat:=0
def PySem.W.Fast.tw9934794062375726248:Nat:=0
def PySem.W.Fast.tw15205514543030090293:Nat:=0
def PySem.W.Fast.tw18004091245201439540:Nat:=0
def PySem.W.Fast.tw4888276370514880320:Nat:=0
def PySem.W.Fast.tw15071853930369106692:Nat:=0
def PySem.W.Fast.tw13933497986129149292:Nat:=0
def PySem.W.Fast.tw9856136541929580433:Nat:=0
def PySem.W.Fast.tw7711482222540267217:Nat:=0
def PySem.W.Fast.tw10674629948813181996:Nat:=0
def PySem.W.Fast.tw2794607158291558952:Nat:=0
def PySem.W.Fast.tw5427769277613596217:Nat:=0
def PySem.W.Fast.tw2377434616971777592:Nat:=0
def PySem.W.Fast.tw713531908080616306:Nat:=0
def PySem.W.Fast.tw16929867351763583663:Nat:=0
def PySem.W.Fast.tw18296636034570469416:Nat:=0
def PySem.W.Fast.tw8918591958529607388:Nat:=0
def PySem.W.Fast.tw777701919568309096:Nat:=0
def PySem.W.Fast.tw3866457014984076663:Nat:=0
def PySem.W.Fast.tw10650180890107892464:Nat:=0
def PySem.W.Fast.tw6610161993410807130:Nat:=0
def PySem.W.Fast.tw4570197820456004629:Nat:=0
def PySem.W.Fast.tw2685986766069333897:Nat:=0
def PySem.W.Fast.tw10076105159057879604:Nat:=0
def PySem.W.Fast.tw13859212450237866625:Nat:=0
def PySem.W.Fast.tw16993147919093997391:Nat:=0
def PySem.W.Fast.tw1891977992559685132:Nat:=0
def PySem.W.Fast.tw8704540867466228772:Nat:=0
def PySem.W.Fast.tw6646956369633636570:Nat:=0
def PySem.W.Fast.tw640244298117950772:Nat:=0
def PySem.W.Fast.tw16351994954999854431:Nat:=0
def PySem.W.Fast.tw18203404418037927510:Nat:=0
def PySem.W.Fast.tw13157860179465735428:Nat:=0
def PySem.W.Fast.tw2020183664299761539:Nat:=0
def PySem.W.Fast.tw7023314404580014353:Nat:=0
def PySem.W.Fast.tw6674050967027996721:Nat:=0
def PySem.W.Fast.tw9862988549262357181:Nat:=0
def PySem.W.Fast.tw15924930063999526627:Nat:=0
def PySem.W.Fast.tw10482319990486472231:Nat:=0
def PySem.W.Fast.tw2166397119533309444:Nat:=0
def PySem.W.Fast.tw8735122319957621549:Nat:=0
def PySem.W.Fast.tw6745857411339038412:Nat:=0
def PySem.W.Fast.tw5802500246602493274:Nat:=0
def PySem.W.Fast.tw4393646152763559880:Nat:=0
def PySem.W.Fast.tw15515619148440219595:Nat:=0
def PySem.W.Fast.tw18078626617491233636:Nat:=0
def PySem.W.Fast.tw14332158182635437519:Nat:=0
def PySem.W.Fast.tw8560556574185952031:Nat:=0
def PySem.W.Fast.tw198769785414637915:Nat:=0
def PySem.W.Fast.tw12647644244839655600:Nat:=0
def PySem.W.Fast.tw11534661015338696307:Nat:=0
def PySem.W.Fast.tw12109067040812835407:Nat:=0
def PySem.W.Fast.tw14999517912117317368:Nat:=0
def PySem.W.Fast.tw3481180733776987058:Nat:=0
def PySem.W.Fast.tw8211801960324131950:Nat:=0
def PySem.W.Fast.tw16917527122425758371:Nat:=0
def PySem.W.Fast.tw11749009735379441100:Nat:=0
def PySem.W.Fast.tw1643148611930884718:Nat:=0
def PySem.W.Fast.tw9931155492185602409:Nat:=0
def PySem.W.Fast.tw15641715312573087064:Nat:=0
def PySem.W.Fast.tw4154714128482163801:Nat:=0
def PySem.W.Fast.tw15190451525439652257:Nat:=0
def PySem.W.Fast.tw17728213671883093192:Nat:=0
def PySem.W.Fast.tw11825083440313417143:Nat:=0
def PySem.W.Fast.tw5623873693870433793:Nat:=0
def PySem.W.Fast.tw16284021472122680746:Nat:=0
def PySem.W.Fast.tw5604802617832549202:Nat:=0
def PySem.W.Fast.tw3474095973174092369:Nat:=0
def PySem.W.Fast.tw952698015994894819:Nat:=0
def PySem.W.Fast.tw10745445998104229565:Nat:=0
def PySem.W.Fast.tw17161528571984136778:Nat:=0
def PySem.W.Fast.tw16673929854509236410:Nat:=0
def PySem.W.Fast.tw18070347688087189275:Nat:=0
def PySem.W.Fast.tw2656281798222839871:Nat:=0
def PySem.W.Fast.tw2524197496465125645:Nat:=0
def PySem.W.Fast.tw8046274221781065813:Nat:=0
def PySem.W.Fast.tw1067490713437905558:Nat:=0
def PySem.W.Fast.tw9835213374285265423:Nat:=0
def PySem.W.Fast.tw12714524119219191859:Nat:=0
def PySem.W.Fast.tw6103406505003566166:Nat:=0
def PySem.W.Fast.tw250216116158539534:Nat:=0
def PySem.W.Fast.tw7901890336612795391:Nat:=0
def PySem.W.Fast.tw10111613006880487953:Nat:=0
def PySem.W.Fast.tw8520310140180737359:Nat:=0
def PySem.W.Fast.tw9933448702575519932:Nat:=0
def PySem.W.Fast.tw17831650027082955482:Nat:=0
def PySem.W.Fast.tw5702324759562082985:Nat:=0
def PySem.W.Fast.tw14363153559468315301:Nat:=0
def PySem.W.Fast.tw12456413520783986109:Nat:=0
def PySem.W.Fast.tw11681865020717511492:Nat:=0
def PySem.W.Fast.tw1303150958247711428:Nat:=0
def PySem.W.Fast.tw9612399679362619783:Nat:=0
def PySem.W.Fast.tw18397819626844650414:Nat:=0
def PySem.W.Fast.tw14314023497832143802:Nat:=0
def PySem.W.Fast.tw4088932369384127242:Nat:=0
def PySem.W.Fast.tw17370879816207340431:Nat:=0
def PySem.W.Fast.tw1217728445152143391:Nat:=0
def PySem.W.Fast.tw2788167971758048580:Nat:=0
def PySem.W.Fast.tw2588293803071640670:Nat:=0
def PySem.W.Fast.tw3780691406038868858:Nat:=0
def PySem.W.Fast.tw14881978842593639354:Nat:=0
def PySem.W.Fast.tw17042995980250716203:Nat:=0
def PySem.W.Fast.tw6088929309864091437:Nat:=0
def PySem.W.Fast.tw9920807937018361923:Nat:=0
def PySem.W.Fast.tw9610734246784636781:Nat:=0
def PySem.W.Fast.tw15676073068337792953:Nat:=0
def PySem.W.Fast.tw957958712041632537:Nat:=0
def PySem.W.Fast.tw8440143584074889623:Nat:=0
def PySem.W.Fast.tw5462405095899425986:Nat:=0
def PySem.W.Fast.tw4203332750662668396:Nat:=0
def PySem.W.Fast.tw16207739598348303332:Nat:=0
def PySem.W.Fast.tw13430971640045710450:Nat:=0
def PySem.W.Fast.tw14996555035901941953:Nat:=0
def PySem.W.Fast.tw9731380926533928023:Nat:=0
def PySem.W.Fast.tw3453651288979326172:Nat:=0
def PySem.W.Fast.tw2919722321530206787:Nat:=0
def PySem.W.Fast.tw8322732830933610010:Nat:=0
def PySem.W.Fast.tw8146798347982869120:Nat:=0
def PySem.W.Fast.tw17083321355504888169:Nat:=0
def PySem.W.Fast.tw5594220601050898275:Nat:=0
def PySem.W.Fast.tw13198816502279282477:Nat:=0
def PySem.W.Fast.tw4556697119052156147:Nat:=0
def PySem.W.Fast.tw202721783797094541:Nat:=0
def PySem.W.Fast.tw10896196020035455971:Nat:=0
def PySem.W.Fast.tw10670492833439212150:Nat:=0
def PySem.W.Fast.tw4174417986199181946:Nat:=0
def PySem.W.Fast.tw780623934800483119:Nat:=0
def PySem.W.Fast.tw8467474525943066869:Nat:=0
def PySem.W.Fast.tw4755957647318229141:Nat:=0
def PySem.W.Fast.tw2965301218144549764:Nat:=0
def PySem.W.Fast.tw8993972080774829298:Nat:=0
def PySem.W.Fast.tw8427558958854043990:Nat:=0
def PySem.W.Fast.tw3016989475850485133:Nat:=0
def PySem.W.Fast.tw8951847381599791575:Nat:=0
def PySem.W.Fast.tw4379141714683447235:Nat:=0
def PySem.W.Fast.tw7938361013279218773:Nat:=0
def PySem.W.Fast.tw3918526154688244689:Nat:=0
def PySem.W.Fast.tw7236025996575281844:Nat:=0
def PySem.W.Fast.tw931690096684433299:Nat:=0
def PySem.W.Fast.tw881378309162315982:Nat:=0
def PySem.W.Fast.tw4850157298123827822:Nat:=0
def PySem.W.Fast.tw9144679220729697988:Nat:=0
def PySem.W.Fast.tw204299897147911834:Nat:=0
def PySem.W.Fast.tw11663537018453947189:Nat:=0
def PySem.W.Fast.tw3828613935411749756:Nat:=0
def PySem.W.Fast.tw279882241322473166:Nat:=0
def PySem.W.Fast.tw13744951891650581645:Nat:=0
def PySem.W.Fast.tw9845320354943027536:Nat:=0
def PySem.W.Fast.tw14562830352730181226:Nat:=0
def PySem.W.Fast.tw7745134545763718618:Nat:=0
def PySem.W.Fast.tw717832451349962289:Nat:=0
def PySem.W.Fast.tw495660258148147249:Nat:=0
def PySem.W.Fast.tw10934896614770627894:Nat:=0
def PySem.W.Fast.tw7014095251516624136:Nat:=0
def PySem.W.Fast.tw9057001651157879853:Nat:=0
def PySem.W.Fast.tw6718116648801043210:Nat:=0
def PySem.W.Fast.tw12499265047921304808:Nat:=0
def PySem.W.Fast.tw2950468518496538939:Nat:=0
def PySem.W.Fast.tw2534122422895735682:Nat:=0
def PySem.W.Fast.tw18362727409065448729:Nat:=0
def PySem.W.Fast.tw18154227546770313853:Nat:=0
def PySem.W.Fast.tw13054106134739108937:Nat:=0
def PySem.W.Fast.tw6004969319339002606:Nat:=0
def PySem.W.Fast.tw4920297090459643511:Nat:=0
def PySem.W.Fast.tw8255598971543738547:Nat:=0
def PySem.W.Fast.tw654077655583179903:Nat:=0
def PySem.W.Fast.tw1596345966762140535:Nat:=0
def PySem.W.Fast.tw11530205831000715593:Nat:=0
def PySem.W.Fast.tw6238145333381990990:Nat:=0
def PySem.W.Fast.tw1621549883620393666:Nat:=0
def PySem.W.Fast.tw14548362840456443024:Nat:=0
def PySem.W.Fast.tw5065752703226506383:Nat:=0
def PySem.W.Fast.tw15610314347004373385:Nat:=0
def PySem.W.Fast.tw12473386551153121212:Nat:=0
def PySem.W.Fast.tw1234944580447012369:Nat:=0
def PySem.W.Fast.tw10440919821055962617:Nat:=0
def PySem.W.Fast.tw9766615539113542091:Nat:=0
def PySem.W.Fast.tw3526775938164504846:Nat:=0
def PySem.W.Fast.tw12723105424653797541:Nat:=0
def PySem.W.Fast.tw4148602384471824084:Nat:=0
def PySem.W.Fast.tw13987963012191321950:Nat:=0
def PySem.W.Fast.tw14413858068004779083:Nat:=0
def PySem.W.Fast.tw6355172420894285522:Nat:=0
def PySem.W.Fast.tw4265158359429776597:Nat:=0
def PySem.W.Fast.tw3203678264804373539:Nat:=0
def PySem.W.Fast.tw16788906616901343153:Nat:=0
def PySem.W.Fast.tw5507004900508034922:Nat:=0
def PySem.W.Fast.tw2888576522289274659:Nat:=0
def PySem.W.Fast.tw6398616629166826862:Nat:=0
def PySem.W.Fast.tw2203830991974203073:Nat:=0
def PySem.W.Fast.tw15469925170484659221:Nat:=0
def PySem.W.Fast.tw7844902896034711486:Nat:=0
def PySem.W.Fast.tw6374889526021705077:Nat:=0
def PySem.W.Fast.tw5540336134754731868:Nat:=0
def PySem.W.Fast.tw432289145018047724:Nat:=0
def PySem.W.Fast.tw16559032775742542863:Nat:=0
def PySem.W.Fast.tw142383335396885154:Nat:=0
def PySem.W.Fast.tw10467246485344749254:Nat:=0
def PySem.W.Fast.tw4263923752144152443:Nat:=0
def PySem.W.Fast.tw9969602958302963244:Nat:=0
def PySem.W.Fast.tw4480128405039247269:Nat:=0
def PySem.W.Fast.tw14081436017490273414:Nat:=0
def PySem.W.Fast.tw6514385383308580744:Nat:=0
def PySem.W.Fast.tw609859228315219445:Nat:=0
def PySem.W.Fast.tw11802530082373385320:Nat:=0
def PySem.W.Fast.tw7046165026678298072:Nat:=0
def PySem.W.Fast.tw13099724896854602933:Nat:=0
def PySem.W.Fast.tw4353227109499713640:Nat:=0
def PySem.W.Fast.tw7484071923103275679:Nat:=0
def PySem.W.Fast.tw16483040072017016225:Nat:=0
def PySem.W.Fast.tw11284377591343344372:Nat:=0
def PySem.W.Fast.tw776015492777070477:Nat:=0
def PySem.W.Fast.tw7295287047005749938:Nat:=0
def PySem.W.Fast.tw7807291601096158338:Nat:=0
def PySem.W.Fast.tw3517478808500556862:Nat:=0
def PySem.W.Fast.tw9222543502257965387:Nat:=0
def PySem.W.Fast.tw803875325514266930:Nat:=0
def PySem.W.Fast.tw7751832697283730734:Nat:=0
def PySem.W.Fast.tw2442618194283672151:Nat:=0
def PySem.W.Fast.tw5638098097541452874:Nat:=0
def PySem.W.Fast.tw4186105822052442896:Nat:=0
def PySem.W.Fast.tw6815637542379789589:Nat:=0
def PySem.W.Fast.tw15171219942178058439:Nat:=0
def PySem.W.Fast.tw14200407825466351210:Nat:=0
def PySem.W.Fast.tw13894952550054222186:Nat:=0
def PySem.W.Fast.tw5625866980400474222:Nat:=0
def PySem.W.Fast.tw15204903967441090972:Nat:=0
def PySem.W.Fast.tw10838742105086474146:Nat:=0
def PySem.W.Fast.tw7532245294095910651:Nat:=0
def PySem.W.Fast.tw2092221456486823442:Nat:=0
def PySem.W.Fast.tw17329397565429879840:Nat:=0
def PySem.W.Fast.tw7010041241633529350:Nat:=0
def PySem.W.Fast.tw10634247979455515283:Nat:=0
def PySem.W.Fast.tw13300480490410484231:Nat:=0
def PySem.W.Fast.tw792923120519148860:Nat:=0
def PySem.W.Fast.tw9747376899637305142:Nat:=0
def PySem.W.Fast.tw7523653319641456980:Nat:=0
def PySem.W.Fast.tw8555722381742537881:Nat:=0
def PySem.W.Fast.tw8305096021564017023:Nat:=0
def PySem.W.Fast.tw13405008886788993586:Nat:=0
def PySem.W.Fast.tw13060971299882317760:Nat:=0
def PySem.W.Fast.tw14500523229067454187:Nat:=0
def PySem.W.Fast.tw8090485716949863946:Nat:=0
def PySem.W.Fast.tw3840132560111999623:Nat:=0
def PySem.W.Fast.tw8165263906182440732:Nat:=0
def PySem.W.Fast.tw612460236601140289:Nat:=0
def PySem.W.Fast.tw7504210265931468340:Nat:=0
def PySem.W.Fast.tw5897481092288859687:Nat:=0
def PySem.W.Fast.tw5571481696081782107:Nat:=0
def PySem.W.Fast.tw18418465228912411947:Nat:=0
def PySem.W.Fast.tw148007202940523881:Nat:=0
def PySem.W.Fast.tw11817301117165032866:Nat:=0
def PySem.W.Fast.tw10381089370186707060:Nat:=0
def PySem.W.Fast.tw12726737252009348591:Nat:=0
def PySem.W.Fast.tw2955481885971887087:Nat:=0
def PySem.W.Fast.tw9170318573211111781:Nat:=0
def PySem.W.Fast.tw17664195827277594328:Nat:=0
def PySem.W.Fast.tw9509984482113566873:Nat:=0
def PySem.W.Fast.tw1846870416685621220:Nat:=0
def PySem.W.Fast.tw1663410756654290994:Nat:=0
def PySem.W.Fast.tw15934658910893330843:Nat:=0
def PySem.W.Fast.tw7453523865540673196:Nat:=0
def PySem.W.Fast.tw7431375350773685736:Nat:=0
def PySem.W.Fast.tw694640566996259094:Nat:=0
def PySem.W.Fast.tw5023173633060539637:Nat:=0
def PySem.W.Fast.tw17610126997650693597:Nat:=0
def PySem.W.Fast.tw17319739198414351116:Nat:=0
def PySem.W.Fast.tw17053618854686966028:Nat:=0
def PySem.W.Fast.tw15383537996769245577:Nat:=0
def PySem.W.Fast.tw1385260733579354757:Nat:=0
def PySem.W.Fast.tw12170448244197546979:Nat:=0
def PySem.W.Fast.tw10609705672487874787:Nat:=0
def PySem.W.Fast.tw6698085891660797017:Nat:=0
def PySem.W.Fast.tw11070392625159776481:Nat:=0
def PySem.W.Fast.tw16343969486718347491:Nat:=0
def PySem.W.Fast.tw7231914662927332126:Nat:=0
def PySem.W.Fast.tw5203717430413576643:Nat:=0
def PySem.W.Fast.tw9750912301251962623:Nat:=0
def PySem.W.Fast.tw9006995470259341675:Nat:=0
def PySem.W.Fast.tw8644350153672840116:Nat:=0
def PySem.W.Fast.tw7368366328523930155:Nat:=0
def PySem.W.Fast.tw7233561764787827016:Nat:=0
def PySem.W.Fast.tw17378402236553111073:Nat:=0
def PySem.W.Fast.tw13715477054842507586:Nat:=0
def PySem.W.Fast.tw11937376635088376308:Nat:=0
def PySem.W.Fast.tw6787301228755748635:Nat:=0
def PySem.W.Fast.tw4377686932118943582:Nat:=0
def PySem.W.Fast.tw1760048187127722111:Nat:=0
def PySem.W.Fast.tw15078159294185923658:Nat:=0
def PySem.W.Fast.tw14427955547115492090:Nat:=0
def PySem.W.Fast.tw1178486231608197198:Nat:=0
def PySem.W.Fast.tw10434680981472092287:Nat:=0
def PySem.W.Fast.tw3402189701652533615:Nat:=0
set_option maxRecDepth 100000 in
set_option maxHeartbeats 0 in
theorem PySem.Challenge.cw_stormpost_k35_whole_up_within_three_quie_holds : PySem.Challenge.rw_stormpost_k35_whole_up_within_three_quie.Holds := by
 w_on;o_law;k_head;(case hw=>w_witness2)
 k_fill
 refine L2.Jl (l:=PySem.Challenge.rw_stormpost_k35_whole_up_within_three_quie) (k:=12) ⟨rfl,by decide,by decide⟩ rfl rfl (fun w h Y=>PySem.W.kIn_of Y) ?F
 case F =>
  intro w mg fa h KX G Pt
  have uG:L2.aT (L2.cv KX) mg "is_sign" K35.pT:=by
   dsimp only [L2.cv]
   refine' L2.aT.mk' KX G ?a ?l ?c ?k
   (case a=>k_is);(case l=>k_is);(case c=>k_is);(case k=>k_is)
  have oa:L2.aT (L2.cv KX) mg "look_sign" K35.kE:=by
   dsimp only [L2.cv]
   refine' L2.aT.mk' KX G ?a ?l ?c ?k
   (case a=>k_is);(case l=>k_is);(case c=>k_is);(case k=>k_is)
  have og:L2.aT (L2.cv KX) mg "look_unit" K35.kF:=by
   dsimp only [L2.cv]
   refine' L2.aT.mk' KX G ?a ?l ?c ?k
   (case a=>k_is);(case l=>k_is);(case c=>k_is);(case k=>k_is)
  have A8:L2.aT (L2.cv KX) mg "power" K35.vm:=by
   dsimp only [L2.cv]
   refine' L2.aT.mk' KX G ?a ?l ?c ?k
   (case a=>k_is);(case l=>k_is);(case c=>k_is);(case k=>k_is)
  have uH:L2.aT (L2.cv KX) mg "inverse" K35.pU:=by
   dsimp only [L2.cv]
   refine' L2.aT.mk' KX G ?a ?l ?c ?k
   (case a=>k_is);(case l=>k_is);(case c=>k_is);(case k=>k_is)
  have qi:L2.aT (L2.cv KX) mg "exponent" K35.mD:=by
   dsimp only [L2.cv]
   refine' L2.aT.mk' KX G ?a ?l ?c ?k
   (case a=>k_is);(case l=>k_is);(case c=>k_is);(case k=>k_is)
  have qj:L2.aT (L2.cv KX) mg "equation" K35.jO:=by
   dsimp only [L2.cv]
   refine' L2.aT.mk' KX G ?a ?l ?c ?k
   (case a=>k_is);(case l=>k_is);(case c=>k_is);(case k=>k_is)
  have ke:L2.aT (L2.cv KX) mg "pivot_place" K35.iE:=by
   dsimp only [L2.cv]
   refine' L2.aT.mk' KX G ?a ?l ?c ?k
   (case a=>k_is);(case l=>k_is);(case c=>k_is);(case k=>k_is)
  have oh:L2.aT (L2.cv KX) mg "exchanged" K35.kG:=by
   dsimp only [L2.cv]
   refine' L2.aT.mk' KX G ?a ?l ?c ?k
   (case a=>k_is);(case l=>k_is);(case c=>k_is);(case k=>k_is)
  have qk:L2.aT (L2.cv KX) mg "lessened" K35.jP:=by
   dsimp only [L2.cv]
   refine' L2.aT.mk' KX G ?a ?l ?c ?k
   (case a=>k_is);(case l=>k_is);(case c=>k_is);(case k=>k_is)
  have uI:L2.aT (L2.cv KX) mg "cleared" K35.jB:=by
   dsimp only [L2.cv]
   refine' L2.aT.mk' KX G ?a ?l ?c ?k
   (case a=>k_is);(case l=>k_is);(case c=>k_is);(case k=>k_is)
  have xf:L2.aT (L2.cv KX) mg "solved" K35.lK:=by
   dsimp only [L2.cv]
   refine' L2.aT.mk' KX G ?a ?l ?c ?k
   (case a=>k_is);(case l=>k_is);(case c=>k_is);(case k=>k_is)
  have me:L2.aT (L2.cv KX) mg "look_signs" K35.iy:=by
   dsimp only [L2.cv]
   refine' L2.aT.mk' KX G ?a ?l ?c ?k
   (case a=>k_is);(case l=>k_is);(case c=>k_is);(case k=>k_is)
  have oi:L2.aT (L2.cv KX) mg "look_cell" K35.kH:=by
   dsimp only [L2.cv]
   refine' L2.aT.mk' KX G ?a ?l ?c ?k
   (case a=>k_is);(case l=>k_is);(case c=>k_is);(case k=>k_is)
  have ql:L2.aT (L2.cv KX) mg "value_at" K35.mE:=by
   dsimp only [L2.cv]
   refine' L2.aT.mk' KX G ?a ?l ?c ?k
   (case a=>k_is);(case l=>k_is);(case c=>k_is);(case k=>k_is)
  have qm:L2.aT (L2.cv KX) mg "troubles" K35.jQ:=by
   dsimp only [L2.cv]
   refine' L2.aT.mk' KX G ?a ?l ?c ?k
   (case a=>k_is);(case l=>k_is);(case c=>k_is);(case k=>k_is)
  have oj:L2.aT (L2.cv KX) mg "is_sealed" K35.kI:=by
   dsimp only [L2.cv]
   refine' L2.aT.mk' KX G ?a ?l ?c ?k
   (case a=>k_is);(case l=>k_is);(case c=>k_is);(case k=>k_is)
  have uJ:L2.aT (L2.cv KX) mg "carried" K35.lL:=by
   dsimp only [L2.cv]
   refine' L2.aT.mk' KX G ?a ?l ?c ?k
   (case a=>k_is);(case l=>k_is);(case c=>k_is);(case k=>k_is)
  have xg:L2.aT (L2.cv KX) mg "sealed" K35.oB:=by
   dsimp only [L2.cv]
   refine' L2.aT.mk' KX G ?a ?l ?c ?k
   (case a=>k_is);(case l=>k_is);(case c=>k_is);(case k=>k_is)
  have oo:L2.aT (L2.cv KX) mg "look_late" K35.kJ:=by
   dsimp only [L2.cv]
   refine' L2.aT.mk' KX G ?a ?l ?c ?k
   (case a=>k_is);(case l=>k_is);(case c=>k_is);(case k=>k_is)
  have je:L2.aT (L2.cv KX) mg "look_measure" K35.fe:=by
   dsimp only [L2.cv]
   refine' L2.aT.mk' KX G ?a ?l ?c ?k
   (case a=>k_is);(case l=>k_is);(case c=>k_is);(case k=>k_is)
  have qo:L2.aT (L2.cv KX) mg "quiet_of" K35.mF:=by
   dsimp only [L2.cv]
   refine' L2.aT.mk' KX G ?a ?l ?c ?k
   (case a=>k_is);(case l=>k_is);(case c=>k_is);(case k=>k_is)
  have mf:L2.aT (L2.cv KX) mg "lone_place" K35.iz:=by
   dsimp only [L2.cv]
   refine' L2.aT.mk' KX G ?a ?l ?c ?k
   (case a=>k_is);(case l=>k_is);(case c=>k_is);(case k=>k_is)
  have uK:L2.aT (L2.cv KX) mg "is_root" K35.pV:=by
   dsimp only [L2.cv]
   refine' L2.aT.mk' KX G ?a ?l ?c ?k
   (case a=>k_is);(case l=>k_is);(case c=>k_is);(case k=>k_is)
  have iV:L2.aT (L2.cv KX) mg "turned_places" K35.dO:=by
   dsimp only [L2.cv]
   refine' L2.aT.mk' KX G ?a ?l ?c ?k
   (case a=>k_is);(case l=>k_is);(case c=>k_is);(case k=>k_is)
  have qp:L2.aT (L2.cv KX) mg "turns_at" K35.jR:=by
   dsimp only [L2.cv]
   refine' L2.aT.mk' KX G ?a ?l ?c ?k
   (case a=>k_is);(case l=>k_is);(case c=>k_is);(case k=>k_is)
  have xh:L2.aT (L2.cv KX) mg "mended" K35.sE:=by
   dsimp only [L2.cv]
   refine' L2.aT.mk' KX G ?a ?l ?c ?k
   (case a=>k_is);(case l=>k_is);(case c=>k_is);(case k=>k_is)
  have jf:L2.aT (L2.cv KX) mg "number_signs" K35.ff:=by
   dsimp only [L2.cv]
   refine' L2.aT.mk' KX G ?a ?l ?c ?k
   (case a=>k_is);(case l=>k_is);(case c=>k_is);(case k=>k_is)
  have jg:L2.aT (L2.cv KX) mg "signs_number" K35.fg:=by
   dsimp only [L2.cv]
   refine' L2.aT.mk' KX G ?a ?l ?c ?k
   (case a=>k_is);(case l=>k_is);(case c=>k_is);(case k=>k_is)
  have mh:L2.aT (L2.cv KX) mg "look_piece" K35.i6:=by
   dsimp only [L2.cv]
   refine' L2.aT.mk' KX G ?a ?l ?c ?k
   (case a=>k_is);(case l=>k_is);(case c=>k_is);(case k=>k_is)
  have oq:L2.aT (L2.cv KX) mg "_law_cell" K35.kK:=by
   dsimp only [L2.cv]
   refine' L2.aT.mk' KX G ?a ?l ?c ?k
   (case a=>k_is);(case l=>k_is);(case c=>k_is);(case k=>k_is)
  have jh:L2.aT (L2.cv KX) mg "_law_numbers" K35.fh:=by
   dsimp only [L2.cv]
   refine' L2.aT.mk' KX G ?a ?l ?c ?k
   (case a=>k_is);(case l=>k_is);(case c=>k_is);(case k=>k_is)
  have ji:L2.aT (L2.cv KX) mg "_law_measure" K35.fj:=by
   dsimp only [L2.cv]
   refine' L2.aT.mk' KX G ?a ?l ?c ?k
   (case a=>k_is);(case l=>k_is);(case c=>k_is);(case k=>k_is)
  have mi:L2.aT (L2.cv KX) mg "_law_turns" K35.fk:=by
   dsimp only [L2.cv]
   refine' L2.aT.mk' KX G ?a ?l ?c ?k
   (case a=>k_is);(case l=>k_is);(case c=>k_is);(case k=>k_is)
  have ot:L2.aT (L2.cv KX) mg "_law_fate" K35.kL:=by
   dsimp only [L2.cv]
   refine' L2.aT.mk' KX G ?a ?l ?c ?k
   (case a=>k_is);(case l=>k_is);(case c=>k_is);(case k=>k_is)
  have kf:L2.aT (L2.cv KX) mg "_law_turned" K35.iF:=by
   dsimp only [L2.cv]
   refine' L2.aT.mk' KX G ?a ?l ?c ?k
   (case a=>k_is);(case l=>k_is);(case c=>k_is);(case k=>k_is)
  have ou:L2.aT (L2.cv KX) mg "_law_give" K35.kM:=by
   dsimp only [L2.cv]
   refine' L2.aT.mk' KX G ?a ?l ?c ?k
   (case a=>k_is);(case l=>k_is);(case c=>k_is);(case k=>k_is)
  have mj:L2.aT (L2.cv KX) mg "_law_sharp" K35.fo:=by
   dsimp only [L2.cv]
   refine' L2.aT.mk' KX G ?a ?l ?c ?k
   (case a=>k_is);(case l=>k_is);(case c=>k_is);(case k=>k_is)
  have ox:L2.aT (L2.cv KX) mg "_law_tick" K35.iL:=by
   dsimp only [L2.cv]
   refine' L2.aT.mk' KX G ?a ?l ?c ?k
   (case a=>k_is);(case l=>k_is);(case c=>k_is);(case k=>k_is)
  have jj:L2.aT (L2.cv KX) mg "_law_weather" K35.fq:=by
   dsimp only [L2.cv]
   refine' L2.aT.mk' KX G ?a ?l ?c ?k
   (case a=>k_is);(case l=>k_is);(case c=>k_is);(case k=>k_is)
  have jk:L2.aT (L2.cv KX) mg "_law_gone_on" K35.da:=by
   dsimp only [L2.cv]
   refine' L2.aT.mk' KX G ?a ?l ?c ?k
   (case a=>k_is);(case l=>k_is);(case c=>k_is);(case k=>k_is)
  have VQ:L2.aT (L2.cv KX) mg "law" K35.qB:=by
   dsimp only [L2.cv]
   refine' L2.aT.mk' KX G ?a ?l ?c ?k
   (case a=>k_is);(case l=>k_is);(case c=>k_is);(case k=>k_is)
  have T:∃ t,K35.Txt (L2.cv KX) mg t:=by
   dsimp only [L2.cv]
   refine' K35.RA KX G ?qr ?kg ?o5 ?qu ?qv ?qw ?uT ?jl ?o6 ?jm ?o7 ?ml ?gy ?mm ?mn ?o8 ?mo ?o9 ?uU ?BD ?x4 ?BE ?BF ?BG ?x5 ?BH ?uV ?mq ?uW ?BI ?qx ?kh ?jn ?jo ?jq ?jr ?iW ?ki ?gz ?gL ?gM ?gN ?gO ?e9 ?pD ?js ?iX ?iY ?iZ ?ia ?g7 ?qy ?kj ?jt ?ju ?jv ?jw ?ib ?uX ?mr ?kl ?kn ?ko ?kq ?jx ?qz ?uY ?x6 ?FO ?FP ?FQ ?FR ?FT ?FU ?FV ?FW ?FX ?rA ?uZ ?ua ?mw ?rB ?rC ?uc ?ud ?pE ?mz ?rD ?dM ?dU ?dW ?eJ ?eM ?eN ?kr ?m8 ?m9 ?rF ?rG ?rH ?eQ ?fD ?fE ?g8 ?g9 ?hG ?ku ?nB ?nC ?rJ ?rK ?rL ?k8 ?nE ?nF ?rM ?rN ?rO ?hJ ?ic ?ie ?k9 ?lB ?lC ?ig ?jy ?jz ?nG ?nH ?nI ?eR ?fF ?fG ?hU ?hV ?hW ?eS ?fH ?fI ?hX ?hZ ?h8 ?eT ?fJ ?fK ?h9 ?iA ?iC ?nJ ?pF ?pG ?ue ?uf ?ug ?pH ?rP ?rQ ?x8 ?x9 ?yA ?j0 ?lD ?lE ?pI ?pJ ?pK ?ij ?j3 ?j4 ?nK ?nL ?nM
   (case qr=>k_is)
   (case kg=>k_is)
   (case o5=>k_is)
   (case qu=>k_is)
   (case qv=>k_is)
   (case qw=>k_is)
   (case uT=>k_is)
   (case jl=>k_is)
   (case o6=>k_is)
   (case jm=>k_is)
   (case o7=>k_is)
   (case ml=>k_is)
   (case gy=>k_is)
   (case mm=>k_is)
   (case mn=>k_is)
   (case o8=>k_is)
   (case mo=>k_is)
   (case o9=>k_is)
   (case uU=>k_is)
   (case BD=>k_is)
   (case x4=>k_is)
   (case BE=>k_is)
   (case BF=>k_is)
   (case BG=>k_is)
   (case x5=>k_is)
   (case BH=>k_is)
   (case uV=>k_is)
   (case mq=>k_is)
   (case uW=>k_is)
   (case BI=>k_is)
   (case qx=>k_exc)
   (case kh=>k_is)
   (case jn=>k_is)
   (case jo=>k_is)
   (case jq=>k_is)
   (case jr=>k_is)
   (case iW=>k_is)
   (case ki=>k_exc)
   (case gz=>k_is)
   (case gL=>k_is)
   (case gM=>k_is)
   (case gN=>k_is)
   (case gO=>k_is)
   (case e9=>k_is)
   (case pD=>k_exc)
   (case js=>k_is)
   (case iX=>k_is)
   (case iY=>k_is)
   (case iZ=>k_is)
   (case ia=>k_is)
   (case g7=>k_is)
   (case qy=>k_exc)
   (case kj=>k_is)
   (case jt=>k_is)
   (case ju=>k_is)
   (case jv=>k_is)
   (case jw=>k_is)
   (case ib=>k_is)
   (case uX=>k_exc)
   (case mr=>k_is)
   (case kl=>k_is)
   (case kn=>k_is)
   (case ko=>k_is)
   (case kq=>k_is)
   (case jx=>k_is)
   (case qz=>k_is)
   (case uY=>k_is)
   (case x6=>k_is)
   (case FO=>k_is)
   (case FP=>k_is)
   (case FQ=>k_is)
   (case FR=>k_is)
   (case FT=>k_is)
   (case FU=>k_is)
   (case FV=>k_is)
   (case FW=>k_is)
   (case FX=>k_is)
   (case rA=>k_is)
   (case uZ=>k_is)
   (case ua=>k_is)
   (case mw=>k_is)
   (case rB=>k_is)
   (case rC=>k_is)
   (case uc=>k_is)
   (case ud=>k_is)
   (case pE=>k_is)
   (case mz=>k_is)
   (case rD=>k_is)
   (case dM=>k_is)
   (case dU=>k_is)
   (case dW=>k_is)
   (case eJ=>k_is)
   (case eM=>k_is)
   (case eN=>k_is)
   (case kr=>k_is)
   (case m8=>k_is)
   (case m9=>k_is)
   (case rF=>k_is)
   (case rG=>k_is)
   (case rH=>k_is)
   (case eQ=>k_is)
   (case fD=>k_is)
   (case fE=>k_is)
   (case g8=>k_is)
   (case g9=>k_is)
   (case hG=>k_is)
   (case ku=>k_is)
   (case nB=>k_is)
   (case nC=>k_is)
   (case rJ=>k_is)
   (case rK=>k_is)
   (case rL=>k_is)
   (case k8=>k_is)
   (case nE=>k_is)
   (case nF=>k_is)
   (case rM=>k_is)
   (case rN=>k_is)
   (case rO=>k_is)
   (case hJ=>k_is)
   (case ic=>k_is)
   (case ie=>k_is)
   (case k9=>k_is)
   (case lB=>k_is)
   (case lC=>k_is)
   (case ig=>k_is)
   (case jy=>k_is)
   (case jz=>k_is)
   (case nG=>k_is)
   (case nH=>k_is)
   (case nI=>k_is)
   (case eR=>k_is)
   (case fF=>k_is)
   (case fG=>k_is)
   (case hU=>k_is)
   (case hV=>k_is)
   (case hW=>k_is)
   (case eS=>k_is)
   (case fH=>k_is)
   (case fI=>k_is)
   (case hX=>k_is)
   (case hZ=>k_is)
   (case h8=>k_is)
   (case eT=>k_is)
   (case fJ=>k_is)
   (case fK=>k_is)
   (case h9=>k_is)
   (case iA=>k_is)
   (case iC=>k_is)
   (case nJ=>k_is)
   (case pF=>k_is)
   (case pG=>k_is)
   (case ue=>k_is)
   (case uf=>k_is)
   (case ug=>k_is)
   (case pH=>k_is)
   (case rP=>k_is)
   (case rQ=>k_is)
   (case x8=>k_is)
   (case x9=>k_is)
   (case yA=>k_is)
   (case j0=>k_is)
   (case lD=>k_is)
   (case lE=>k_is)
   (case pI=>k_is)
   (case pJ=>k_is)
   (case pK=>k_is)
   (case ij=>k_is)
   (case j3=>k_is)
   (case j4=>k_is)
   (case nK=>k_is)
   (case nL=>k_is)
   (case nM=>k_is)
  obtain ⟨t,T⟩:=T
  exact L2.Jk VQ (fun _ _ _ _ _ _ us hl=>match us,hl with | [_],_=>rfl) Pt fun f fd base F=>K35.Np T F uG oa og A8 uH qi qj ke oh qk uI xf me oi ql qm oj uJ xg oo je qo mf uK iV qp xh jf jg mh oq jh ji mi ot kf ou mj ox jj jk
#print axioms PySem.Challenge.cw_stormpost_k35_whole_up_within_three_quie_holds
