import PyProof.Rows.All
import Wide.All
import OpenK.AllK
import Wide.FinOn
import Lean
import PyProof.EqAt
import PyProof.EqKinds
import PyProof.TupleCall
import PySem.Challenge.RW_stormpost_k31_pieces_once_in_order
set_option Elab.async false
set_option linter.all false
set_option maxRecDepth 100000
namespace L2
open PySem PySem.Spec PyProof.Rows
abbrev Key:=Sum Int Str
def yj:Key→Value→Bool
 | .inl k,v=>Value.isInt k v
 | .inr x,v=>Value.isStrOf x v
def aAr (w:World):Key→Int
 | .inl k=>hashInt k
 | .inr x=>hashStr w x
theorem cV:∀ {k:Key} {v:Value},yj k v=true→(∃ i t,k=Sum.inl i∧v=Value.int i t)∨(∃ x t,k=Sum.inr x∧v=Value.str x t)
 | .inl i,v,h=>by
  obtain ⟨t,e⟩:=Value.isInt_shape (k:=i) (v:=v) h
  exact .inl ⟨i,t,rfl,e⟩
 | .inr x,v,h=>by
  obtain ⟨t,e⟩:=Value.isStrOf_shape (x:=x) (v:=v) h
  exact .inr ⟨x,t,rfl,e⟩
theorem Ly (i:Int) (t:Tok):yj (.inl i) (.int i t)=true:=by simp [yj,Value.isInt]
theorem Lz (x:Str) (t:Tok):yj (.inr x) (.str x t)=true:=by simp [yj,Value.isStrOf]
theorem Tu (a b:Int):decide ((Sum.inl a:Key)=Sum.inl b)=(a == b):=by
 by_cases e:a=b
 ·subst e;simp
 ·have h:¬ (Sum.inl a:Key)=Sum.inl b:=fun q=>e (Sum.inl.inj q)
  rw [decide_eq_false h]
  exact (beq_eq_false_iff_ne.mpr e).symm
theorem Tv (a b:Str):decide ((Sum.inr a:Key)=Sum.inr b)=decide (a=b):=by
 by_cases e:a=b
 ·subst e;simp
 ·have h:¬ (Sum.inr a:Key)=Sum.inr b:=fun q=>e (Sum.inr.inj q)
  rw [decide_eq_false h,decide_eq_false e]
theorem Tw (a:Int) (b:Str):decide ((Sum.inl a:Key)=Sum.inr b)=false:=decide_eq_false (fun q=>nomatch q)
theorem Tx (a:Str) (b:Int):decide ((Sum.inr a:Key)=Sum.inl b)=false:=decide_eq_false (fun q=>nomatch q)
def be (prog:Program) (w:World):PySem.KeyKind prog w Key where
 is:=yj
 hash:=aAr w
 inj:=fun v a b ha hb=>by
  rcases cV ha with ⟨i,t,rfl,rfl⟩ | ⟨x,t,rfl,rfl⟩
  ·rcases cV hb with ⟨j,u,rfl,e⟩ | ⟨y,u,rfl,e⟩
   ·injection e with e1 _;rw [e1]
   ·exact nomatch e
  ·rcases cV hb with ⟨j,u,rfl,e⟩ | ⟨y,u,rfl,e⟩
   ·exact nomatch e
   ·injection e with e1 _;rw [e1]
 byValue:=fun k v h=>by
  rcases cV h with ⟨i,t,rfl,rfl⟩ | ⟨x,t,rfl,rfl⟩ <;> rfl
 pyHash:=fun hv h=>by
  rcases cV hv with ⟨i,t,rfl,rfl⟩ | ⟨x,t,rfl,rfl⟩
  ·exact wpAny_pyHash_int h
  ·exact wpAny_pyHash_str h
 eqBool:=fun hu hv h=>by
  rcases cV hu with ⟨i,t,rfl,rfl⟩ | ⟨x,t,rfl,rfl⟩
  ·rcases cV hv with ⟨j,u,rfl,rfl⟩ | ⟨y,u,rfl,rfl⟩
   ·rw [Tu] at h;exact wpAny_eqBool_int h
   ·rw [Tw] at h;exact SeqAt.EqAt.int_str i t y u _ _ _ _ h
  ·rcases cV hv with ⟨j,u,rfl,rfl⟩ | ⟨y,u,rfl,rfl⟩
   ·rw [Tx] at h;exact SeqAt.EqAt.str_int x t j u _ _ _ _ h
   ·rw [Tv] at h;exact wpAny_eqBool_str h
 «strs»:=fun k x t v h=>by
  rcases cV h with ⟨i,u,rfl,e⟩ | ⟨y,u,rfl,e⟩
  ·exact nomatch e
  ·injection e with e1 _
   subst e1
   cases v <;> rfl
theorem GV (prog:Program) (w:World) (i:Int) (t:Tok):(be prog w).is (.inl i) (.int i t)=true:=Ly i t
theorem GW (prog:Program) (w:World) (x:Str) (t:Tok):(be prog w).is (.inr x) (.str x t)=true:=Lz x t
end L2
namespace L2
open PySem PySem.Spec PyProof.Rows
inductive V where
 | bJ | bl (b:Bool) | int (i:Int) | str (x:Str) | Kp (b:Array UInt8) | WC (b:UInt64) | ref (a:Addr) | ty (n:String)
 deriving DecidableEq
def RelV:V→Value→Prop
 | .bJ,u=>u=Value.none
 | .bl b,u=>u=Value.bool b
 | .int i,u=>∃ t,u=Value.int i t
 | .str x,u=>∃ t,u=Value.str x t
 | .Kp b,u=>∃ t,u=Value.bytes b t
 | .WC b,u=>∃ t,u=Value.float b t
 | .ref a,u=>u=Value.ref a
 | .ty n,u=>u=Value.type n
abbrev au:List V→List Value→Prop:=Paired RelV
theorem au.length {xs:List V} {us:List Value} (r:au xs us):xs.length=us.length:=Paired.length r
theorem au.get:∀ {xs:List V} {us:List Value} {i:Nat} {x:V},au xs us→xs[i]?=some x→∃ u,us[i]?=some u∧RelV x u
 | _,_,_,_,.nil,e=>by simp at e
 | _,_,0,_,.cons r _,e=>by simp at e;subst e;exact ⟨_,rfl,r⟩
 | _,_,i+1,x,.cons _ t,e=>by
  obtain ⟨u,h1,h2⟩:=au.get (i:=i) (x:=x) t (by simpa using e)
  exact ⟨u,by simpa using h1,h2⟩
theorem au.set {x:V} {u:Value} (r:RelV x u):∀ {xs:List V} {us:List Value} (i:Nat),au xs us→au (xs.set i x) (us.set i u)
 | _,_,_,.nil=>.nil
 | _,_,0,.cons _ t=>.cons r t
 | _,_,i+1,.cons q t=>.cons q (au.set r i t)
theorem au.append:∀ {xs ys:List V} {us ws:List Value},au xs us→au ys ws→au (xs ++ ys) (us ++ ws)
 | _,_,_,_,.nil,s=>s
 | _,_,_,_,.cons r t,s=>.cons r (au.append t s)
theorem au.take:∀ {xs:List V} {us:List Value} (n:Nat),au xs us→au (xs.take n) (us.take n)
 | _,_,0,_=>.nil
 | _,_,_+1,.nil=>.nil
 | _,_,n+1,.cons r t=>.cons r (au.take n t)
theorem au.drop:∀ {xs:List V} {us:List Value} (n:Nat),au xs us→au (xs.drop n) (us.drop n)
 | _,_,0,r=>r
 | _,_,_+1,.nil=>.nil
 | _,_,n+1,.cons _ t=>au.drop n t
theorem au.none_of:∀ {xs:List V} {us:List Value} {i:Nat},au xs us→xs[i]?=none→us[i]?=none:=fun {xs us i} r e=>by
 have h1:=r.length
 have h2:xs.length≤i:=List.getElem?_eq_none_iff.mp e
 exact List.getElem?_eq_none_iff.mpr (by omega)
def lB:Option V→Option Value→Prop
 | some v,some u=>RelV v u
 | none,none=>True
 | _,_=>False
def KV {κ:Type}:List (κ × V)→List (κ × Value)→Prop:=Paired fun (p:κ × V) (q:κ × Value)=>p.1=q.1∧RelV p.2 q.2
def kV:Key→V
 | .inl i=>.int i
 | .inr x=>.str x
inductive HO where
 | lst (xs:List V)
 | tup (xs:List V)
 | dK (aq:List (Key × V)) | dT (aq:List (List Key × V))
 | set (S:Int→Bool) (n:Nat)
 | ins (C dx:Addr) (fs:List (Str × V))
 | own (x:Addr)
 | xd (fs:List (Str × V))
 | met (f x:Addr)
 | Zf (lo hi:Int)
 | Ir (o:Obj) (u:HO)
 | Sy (ps:Array Value)
 | ext (φ:Heap→Prop)
abbrev Hp:=Addr→Option HO
def upd (H:Hp) (a:Addr) (o:HO):Hp:=fun b=>if b=a then some o else H b
theorem aB {H:Hp} {a:Addr} {o:HO}:upd H a o a=some o:=by unfold upd;rw [if_pos rfl]
theorem aD {H:Hp} {a b:Addr} {o:HO} (h:b≠a):upd H a o b=H b:=by unfold upd;rw [if_neg h]
theorem ir {H:Hp} {a:Addr} {o u:HO}:upd (upd H a o) a u=upd H a u:=by
 funext b;unfold upd;split <;> rfl
theorem Wn {H:Hp} {a b:Addr} {o u:HO} (h:H a=some o) (h':H b=some u) (d:o≠u):a≠b:=by
 intro e;subst e;rw [h] at h';exact d (Option.some.inj h')
theorem aK {H:Hp} {a b:Addr} {o:HO} (h:H a=some o) (h':H b=none):a≠b:=by
 intro e;subst e;rw [h] at h';cases h'
section
variable (P:Program) (w:World)
def cJ (H:Hp) (h:Heap) (a:Addr):HO→Prop
 | .lst xs=>xs.length≤sizeLine∧∃ (ai:List Value) (n:Nat),au xs ai∧h.get? a=some { cls:=.type "list",data:=.seq ai.toArray n }
 | .tup xs=>xs.length≤sizeLine∧∃ ai:List Value,au xs ai∧IsTup h a ai.toArray
 | .dK aq=>aq.length≤sizeLine∧(a == sysModules)=false∧∃ vs,KV aq vs∧h.DictOf (be P w) a vs
 | .dT aq=>aq.length≤sizeLine∧(a == sysModules)=false∧∃ xs:List (List Key × Addr × Value),
   Paired (fun (p:List Key × V) (q:List Key × Addr × Value)=>p.1=q.1∧H q.2.1=some (.tup (p.1.map kV))∧RelV p.2 q.2.2) aq xs ∧
   ∃ o es ep,h.get? a=some o∧o.ExactDict∧o.data=.dict es ep∧es.toList=xs.map (entryOfKey (tupleKind (be P w)))∧(xs.map (·.1)).Nodup
 | .set S n=>h.SetOf (intKind P w) a S n
 | .ins C dx fs=>H dx=some (.own a)∧fs.length≤1000∧dx≠a∧h.get? a=some (PySem.W.instObj C dx) ∧
   ∃ mA,h.Ns1 dx mA∧(∀ f,lB (fs.lookup f) (mA f))∧PySem.Within mA (fs.map (·.1))
 | .own _=>∃ o,h.get? a=some o
 | .xd fs=>∃ mA,h.Ns1 a mA∧∀ f,lB (fs.lookup f) (mA f)
 | .Zf lo hi=>∃ t u v,h.get? a=some { cls:=.type "range",data:=.fields #[.int lo t,.int hi u,.int 1 v] }
 | .Ir o u=>h.get? a=some o∧cJ H h a u
 | .Sy ps=>h.get? a=some { cls:=.none,data:=.fields ps }
 | .met f x=>h.get? a=some (PySem.W.methodObj (.ref f) (.ref x))
 | .ext φ=>φ h∧(∃ o,h.get? a=some o)∧∀ h1 h2:Heap,φ h1→(∀ o,h1.get? a=some o→h2.get? a=some o)→φ h2
def pq (H:Hp) (h:Heap):Prop:=∀ a o,H a=some o→cJ P w H h a o
end
section
variable {P:Program} {w:World} {H H':Hp} {h h':Heap} {a:Addr} {o:HO}
theorem cJ.lt (x:cJ P w H h a o):a < h.objs.size:=by
 cases o with
 | lst xs=>obtain ⟨_,_,_,_,e⟩:=x;exact Heap.lt_size e
 | tup xs=>obtain ⟨_,_,_,p⟩:=x;exact p.lt
 | dK aq=>obtain ⟨_,_,_,_,o,_,_,e,_⟩:=x;exact Heap.lt_size e
 | dT aq=>obtain ⟨_,_,_,_,o,_,_,e,_⟩:=x;exact Heap.lt_size e
 | set S n=>obtain ⟨o,_,_,_,e,_⟩:=x;exact Heap.lt_size e
 | ins C dx fs=>obtain ⟨_,_,_,e,_⟩:=x;exact Heap.lt_size e
 | own y=>obtain ⟨_,e⟩:=x;exact Heap.lt_size e
 | xd fs=>obtain ⟨_,⟨_,_,_,e,_⟩,_⟩:=x;exact Heap.lt_size e
 | Zf lo hi=>obtain ⟨_,_,_,e⟩:=x;exact Heap.lt_size e
 | Ir ob u=>obtain ⟨e,_⟩:=x;exact Heap.lt_size e
 | Sy ps=>exact Heap.lt_size (show h.get? a=some _ from x)
 | met f y=>exact Heap.lt_size (show h.get? a=some _ from x)
 | ext φ=>obtain ⟨_,⟨_,e⟩,_⟩:=x;exact Heap.lt_size e
theorem Paired.Tz {α β:Type} {F G:α→β→Prop}:∀ {l₁:List α} {l₂:List β},Paired F l₁ l₂→(∀ a b,F a b→G a b)→Paired G l₁ l₂
 | _,_,.nil,_=>.nil
 | _,_,.cons r t,f=>.cons (f _ _ r) (Paired.Tz t f)
theorem cJ.GX (x:cJ P w H h a o) (k:∀ b u,(b=a∨H b=some (.own a))→h.get? b=some u→h'.get? b=some u)
  (ho:∀ b,H b=some (.own a)→H' b=some (.own a)) (ht:∀ b xs,H b=some (.tup xs)→H' b=some (.tup xs)):cJ P w H' h' a o:=by
 induction o with
 | lst xs=>obtain ⟨z,ai,n,r,e⟩:=x;exact ⟨z,ai,n,r,k _ _ (.inl rfl) e⟩
 | tup xs=>obtain ⟨z,ai,r,ob,e,c⟩:=x;exact ⟨z,ai,r,ob,k _ _ (.inl rfl) e,c⟩
 | dK aq=>obtain ⟨z,y,vs,r,ob,es,ep,e,c⟩:=x;exact ⟨z,y,vs,r,ob,es,ep,k _ _ (.inl rfl) e,c⟩
 | dT aq =>
  obtain ⟨z,y,xs,r,ob,es,ep,e,c⟩:=x
  exact ⟨z,y,xs,Paired.Tz r fun p q z=>⟨z.1,ht _ _ z.2.1,z.2.2⟩,ob,es,ep,k _ _ (.inl rfl) e,c⟩
 | set S n=>obtain ⟨ob,es,ep,t,e,c⟩:=x;exact ⟨ob,es,ep,t,k _ _ (.inl rfl) e,c⟩
 | ins C dx fs =>
  obtain ⟨d,z,ne,e,mA,⟨od,es,ep,e2,c⟩,r⟩:=x
  exact ⟨ho _ d,z,ne,k _ _ (.inl rfl) e,mA,⟨od,es,ep,k _ _ (.inr d) e2,c⟩,r⟩
 | own y=>obtain ⟨ob,e⟩:=x;exact ⟨ob,k _ _ (.inl rfl) e⟩
 | xd fs=>obtain ⟨mA,⟨od,es,ep,e,c⟩,r⟩:=x;exact ⟨mA,⟨od,es,ep,k _ _ (.inl rfl) e,c⟩,r⟩
 | Zf lo hi=>obtain ⟨t,u,v,e⟩:=x;exact ⟨t,u,v,k _ _ (.inl rfl) e⟩
 | Ir ob u ih=>obtain ⟨e,q⟩:=x;exact ⟨k _ _ (.inl rfl) e,ih q⟩
 | Sy ps =>
  have e:h.get? a=some { cls:=.none,data:=.fields ps }:=x
  show h'.get? a=some { cls:=.none,data:=.fields ps }
  exact k a _ (.inl rfl) e
 | met f y =>
  have e:h.get? a=some (PySem.W.methodObj (.ref f) (.ref y)):=x
  show h'.get? a=some (PySem.W.methodObj (.ref f) (.ref y))
  exact k a _ (.inl rfl) e
 | ext φ=>obtain ⟨p,⟨o,e⟩,st⟩:=x;exact ⟨st _ _ p fun o q=>k _ _ (.inl rfl) q,⟨o,k _ _ (.inl rfl) e⟩,st⟩
theorem pq.lt (x:pq P w H h) (e:H a=some o):a < h.objs.size:=(x a o e).lt
theorem pq.fresh (x:pq P w H h) (e:h.objs.size≤a):H a=none:=by
 cases q:H a with
 | none=>rfl
 | some u=>exact absurd (Nat.lt_of_lt_of_le (x.lt q) e) (Nat.lt_irrefl _)
theorem pq.kept (x:pq P w H h) (k:∀ b u,h.get? b=some u→h'.get? b=some u):pq P w H h':=fun a o e =>
 (x a o e).GX (fun b u _ q=>k b u q) (fun _ q=>q) fun _ _ q=>q
theorem pq.laid (x:pq P w H h) (k:∀ b u,h.get? b=some u→h'.get? b=some u) (hp:h.objs.size≤a) (new:cJ P w (upd H a o) h' a o):pq P w (upd H a o) h':=fun b u e=>by
 have hn:=x.fresh hp
 by_cases hb:b=a
 ·subst hb;rw [aB] at e;cases e;exact new
 ·rw [aD hb] at e
  exact (x b u e).GX (fun c v _ q=>k c v q) (fun c q=>by rw [aD (aK q hn)];exact q) fun c xs q=>by rw [aD (aK q hn)];exact q
end
def Rd (H:Hp) (a:Addr) (u:HO):Prop:=H a=some u∨∃ o,H a=some (.Ir o u)
theorem Rd.of {H:Hp} {a:Addr} {u:HO} (h:H a=some u):Rd H a u:=.inl h
theorem Rd.ok {P:Program} {w:World} {H:Hp} {h:Heap} {a:Addr} {u:HO} (r:Rd H a u) (x:pq P w H h):cJ P w H h a u:=by
 rcases r with r | ⟨o,r⟩
 ·exact x a u r
 ·obtain ⟨_,q⟩:=x a _ r
  exact q
def Wo:Option HO→Prop
 | some (.lst _)=>True
 | some (.dK _)=>True
 | some (.dT _)=>True
 | some (.set _ _)=>True
 | some (.ins _ _ _)=>True
 | some (.ext _)=>True
 | _=>False
section
variable {P:Program} {w:World} {H:Hp} {h h':Heap} {x e:Addr} {o':HO}
theorem pq.write (ok:pq P w H h) (mu:Wo (H x)) (he:e=x∨H e=some (.own x)) (k:∀ b u,b≠e→h.get? b=some u→h'.get? b=some u) (WD:∃ u,h'.get? e=some u)
  (new:cJ P w (upd H x o') h' x o'):pq P w (upd H x o') h':=fun b u q=>by
 have Wp:∀ c y,H c=some (.own y)→c≠x:=fun c y r z=>by subst z;rw [r] at mu;exact mu
 have aAs:∀ c xs,H c=some (.tup xs)→c≠x:=fun c xs r z=>by subst z;rw [r] at mu;exact mu
 by_cases hb:b=x
 ·subst hb;rw [aB] at q;cases q;exact new
 ·rw [aD hb] at q
  by_cases Nl:b=e
  ·have q':H b=some (.own x):=by
    rcases he with z | z
    ·exact absurd (Nl.trans z) hb
    ·rw [Nl];exact z
   rw [q] at q';cases q'
   obtain ⟨v,hv⟩:=WD
   exact ⟨v,by rw [Nl];exact hv⟩
  ·refine (ok b u q).GX (fun c v hc r=>k c v ?_ r) (fun c r=>by rw [aD (Wp c b r)];exact r) fun c xs r=>by rw [aD (aAs c xs r)];exact r
   rcases hc with rfl | hc
   ·exact Nl
   ·rintro rfl
    rcases he with z | z
    ·exact Wp c b hc z
    ·rw [hc] at z;cases z;exact hb rfl
end
structure Un (fs ex:List Addr) (H H':Hp) (h h':Heap):Prop where
 keep:∀ b o,h.get? b=some o→H b=none→b ∉ fs→b ∉ ex→h'.get? b=some o
 slot:∀ b o,h.get? b=some o→H b=none→b ∈ fs→b ∉ ex→∃ sl,h'.get? b=some { o with slots:=sl }
 free:∀ b o,h.get? b=some o→H b=none→b ∉ ex→H' b=none
 there:∀ b o,h.get? b=some o→b ∉ ex→∃ o',h'.get? b=some o'
 nU:∀ b xs,H b=some (.tup xs)→H' b=some (.tup xs)
 nQ:∀ b o u,H b=some (.Ir o u)→H' b=some (.Ir o u)
 nV:∀ b ps,H b=some (.Sy ps)→∃ more,H' b=some (.Sy (ps ++ more))
section
variable {fs QI ex ex':List Addr} {H H1 H2:Hp} {h h1 h2 h':Heap} {a x e:Addr} {o:HO}
theorem Un.any (u:Un fs ex H H1 h h1) {b:Addr} {ob:Obj} (q:h.get? b=some ob) (n:H b=none) (hx:b ∉ ex):∃ sl,h1.get? b=some { ob with slots:=sl }:=by
 by_cases hb:b ∈ fs
 ·exact u.slot b ob q n hb hx
 ·exact ⟨ob.slots,u.keep b ob q n hb hx⟩
theorem Un.trans (a:Un fs ex H H1 h h1) (b:Un fs ex H1 H2 h1 h2):Un fs ex H H2 h h2 where
 keep:=fun c ob q n hc hx=>b.keep c ob (a.keep c ob q n hc hx) (a.free c ob q n hx) hc hx
 slot:=fun c ob q n hc hx=>by
  obtain ⟨sl,e1⟩:=a.slot c ob q n hc hx
  obtain ⟨Wq,e2⟩:=b.slot c _ e1 (a.free c ob q n hx) hc hx
  exact ⟨Wq,e2⟩
 free:=fun c ob q n hx=>by
  obtain ⟨o',e1⟩:=a.there c ob q hx
  exact b.free c o' e1 (a.free c ob q n hx) hx
 there:=fun c ob q hx=>by
  obtain ⟨o',e1⟩:=a.there c ob q hx
  exact b.there c o' e1 hx
 nU:=fun c xs q=>b.nU c xs (a.nU c xs q)
 nQ:=fun c ob xs q=>b.nQ c ob xs (a.nQ c ob xs q)
 nV:=fun c ps q=>by
  obtain ⟨m1,e1⟩:=a.nV c ps q
  obtain ⟨m2,e2⟩:=b.nV c _ e1
  exact ⟨m1 ++ m2,by rw [e2,Array.append_assoc]⟩
theorem Un.kept (k:∀ b u,h.get? b=some u→h'.get? b=some u):Un fs ex H H h h' :=
 ⟨fun b ob q _ _ _=>k b ob q,fun b ob q _ _ _=>⟨ob.slots,k b ob q⟩,fun _ _ _ n _=>n,fun b ob q _=>⟨ob,k b ob q⟩,fun _ _ q=>q,fun _ _ _ q=>q,fun _ ps q=>⟨#[],by rw [q];simp⟩⟩
theorem Un.refl:Un fs ex H H h h:=Un.kept fun _ _ q=>q
theorem Un.laid (k:∀ b u,h.get? b=some u→h'.get? b=some u) (hp:h.objs.size≤a) (hn:H a=none):Un fs ex H (upd H a o) h h' where
 keep:=fun b u q _ _ _=>k b u q
 slot:=fun b u q _ _ _=>⟨u.slots,k b u q⟩
 free:=fun b u q n _=>by rw [aD (Nat.ne_of_lt (Nat.lt_of_lt_of_le (Heap.lt_size q) hp))];exact n
 there:=fun b u q _=>⟨u,k b u q⟩
 nU:=fun b xs q=>by rw [aD (aK q hn)];exact q
 nQ:=fun b u xs q=>by rw [aD (aK q hn)];exact q
 nV:=fun b ps q=>⟨#[],by rw [aD (aK q hn),q];simp⟩
theorem Un.write (mu:Wo (H x)) (he:e=x∨H e=some (.own x)) (k:∀ b u,b≠e→h.get? b=some u→h'.get? b=some u) (WD:∃ u,h'.get? e=some u):Un fs ex H (upd H x o) h h':=by
 have hx:∀ b,H b=none→b≠x:=fun b n z=>by subst z;rw [n] at mu;exact mu
 have hb:∀ b,H b=none→b≠e:=fun b n z=>by
  subst z
  rcases he with r | r
  ·exact hx b n r
  ·rw [n] at r;cases r
 have hm:∀ b u,H b=some u→¬ Wo (some u)→b≠x:=fun b u q nm z=>by subst z;rw [q] at mu;exact nm mu
 refine ⟨fun b u q n _ _=>k b u (hb b n) q,fun b u q n _ _=>⟨u.slots,k b u (hb b n) q⟩,fun b u q n _=>by rw [aD (hx b n)];exact n,fun b u q _=>?_,
  fun b xs q=>by rw [aD (hm b _ q fun z=>z)];exact q,fun b u xs q=>by rw [aD (hm b _ q fun z=>z)];exact q,fun b ps q=>⟨#[],by rw [aD (hm b _ q fun z=>z),q];simp⟩⟩
 by_cases Nl:b=e
 ·subst Nl;exact WD
 ·exact ⟨u,k b u Nl q⟩
theorem Un.mono (u:Un fs ex H H1 h h1) (hs:∀ b ∈ fs,b ∈ QI) (hx:∀ b ∈ ex,b ∈ ex'):Un QI ex' H H1 h h1 :=
 ⟨fun b ob q n hb he=>u.keep b ob q n (fun z=>hb (hs b z)) fun z=>he (hx b z),fun _ _ q n _ he=>u.any q n fun z=>he (hx _ z),fun b ob q n he=>u.free b ob q n fun z=>he (hx b z),fun b ob q he=>u.there b ob q fun z=>he (hx b z),u.nU,u.nQ,u.nV⟩
end
def L0 (h:Heap) (H:Hp):List Addr:=(List.range h.objs.size).filter fun a=>(H a).isSome
def zX (h:Heap) (H:Hp):Heap:=PySem.W.hideAll h (L0 h H)
theorem L3 (h:Heap) (H:Hp):(zX h H).objs.size=h.objs.size:=PySem.W.hideAll_size _ _
theorem Nq {h:Heap} {H:Hp} {b:Addr} {o:Obj} (e:h.get? b=some o) (n:H b=none):(zX h H).get? b=some o :=
 PySem.W.hideAll_get _ e fun hm=>by
  have q:(H b).isSome=true:=(List.mem_filter.mp hm).2
  rw [n] at q;simp at q
theorem Qb {h:Heap} {H:Hp} {b:Addr} {o:Obj} (e:(zX h H).get? b=some o):h.get? b=some o∧H b=none:=by
 have e':h.get? b=some o:=PySem.W.of_hideAll (L0 h H) e
 refine ⟨e',?_⟩
 cases q:H b with
 | none=>rfl
 | some x =>
  have hm:b ∈ L0 h H:=List.mem_filter.mpr ⟨List.mem_range.mpr (Heap.lt_size e'),by simp [q]⟩
  have z:(zX h H).get? b=none:=PySem.W.hideAll_none (L0 h H) hm
  rw [z] at e;cases e
def Qc (g h:Heap) (L:Addr):List (Addr × Obj):=(List.range h.objs.size).filterMap fun a=>if a=L∨(g.get? a).isSome=true then none else (h.get? a).map fun o=>(a,o)
def rest (g h:Heap) (L d:Addr):List (Addr × Obj):=(Qc g h L).filter fun p=>decide (p.1≠d)
end L2
namespace L2
open PySem PySem.Spec PyProof.Rows
structure Mod (K:PySem.W.Frag) (mg:Str→Option Value) (base:Heap):Prop where
 WE:K.In base
 glob:base.Ns mainGlobals mg
 blt:∃ mb,base.Ns builtinsNs mb∧∀ x:Str,x≠"__name__"→mb x=bootBuiltins x
 nolimit:base.NoLimit
structure Cx where
 prog:Program
 w:World
 K:PySem.W.Frag
 mg:Str→Option Value
 base:Heap
 A:Around
 N:List Str
 s₀:Shared
 H₀:Hp
 env:Env
 outer:List Env
 stack:List Env
 ex:List Addr
 fn:Str→Bool
 calm:Bool
 pn:List (Addr × Obj)
 xe:Value→Shared→Prop
def pJ (l:List Env):List Addr:=l.filterMap (·.frame)
abbrev Cx.fs (X:Cx):List Addr:=pJ X.outer
def Zg (sc:Scope) (x:Str):Prop:=sc.names.lookup x=some .local∨sc.names.lookup x=some .cell∨sc.names.lookup x=some .free
def Loc (sc:Scope) (x:Str):Prop:=sc.names.lookup x=some .local∨sc.names.lookup x=some .cell
def Look (env:Env) (h:Heap) (m:Str→Option Value) (x:Str) (u:Value):Prop :=
 (env.kindOf x=some .local∧m x=some u)∨((env.kindOf x=some .cell∨env.kindOf x=some .free)∧∃ c,env.cells.lookup x=some c∧h.IsCell c (some u))
structure Cx.Ok (X:Cx):Prop where
 mod:Mod X.K X.mg X.base
 kind:X.env.scope.kind=.function
 glob:X.env.globals=mainGlobals
 blt:X.env.builtins=builtinsNs
 above:X.s₀.heap.objs.size≤X.env.locals
 inj:∀ x y c,X.env.cells.lookup x=some c→X.env.cells.lookup y=some c→x=y
 has:∀ x,(X.env.kindOf x=some .cell∨X.env.kindOf x=some .free)→∃ c,X.env.cells.lookup x=some c
 T1:∀ x c,X.fn x=true→X.env.cells.lookup x=some c→X.s₀.heap.objs.size≤c
 hd:X.calm=true→X.A.handled=none
 frames:X.A.frames=some X.stack
 QJ:X.stack=X.outer∨(X.stack=X.env :: X.outer∧X.env.frame=some X.env.locals)
 Wr:∀ b ∈ X.ex,b≠X.env.locals∧∀ x c,X.env.cells.lookup x=some c→c≠b
 bs:∀ b o,X.base.get? b=some o→X.s₀.heap.get? b=some o∧X.H₀ b=none
 Nr:X.base.objs.size≤X.s₀.heap.objs.size
 Iz:∀ b o,X.base.get? b=some o→b ∉ X.ex
 I0:∀ b ∈ X.ex,b ∉ X.fs
 su:X.s₀.heap.FunFrames X.base X.outer
 Sz:∀ b ∈ X.fs,X.H₀ b=none
structure Inv (X:Cx) (pins:List (Addr × Obj)) (σ:List (Option V)) (H:Hp) (s:Shared):Prop where
 ok:X.Ok
 os:s.os=X.s₀.os
 bare:AllBare s.gens
 base:Un X.fs X.ex X.H₀ H X.s₀.heap s.heap
 loc:∃ m,s.heap.Ns X.env.locals m∧∀ (i:Nat) (x:Str) (v:V),X.N[i]?=some x→σ[i]?=some (some v)→Zg X.env.scope x→∃ u,RelV v u∧Look X.env s.heap m x u
 cell:∀ x c,X.env.cells.lookup x=some c→∃ v,s.heap.IsCell c v
 free:H X.env.locals=none
 nI:∀ x c,X.env.cells.lookup x=some c→H c=none
 pin:∀ p ∈ X.pn ++ pins,s.heap.get? p.1=some p.2∧H p.1=none∧p.1≠X.env.locals∧p.1 ∉ X.fs∧∀ v,p.2.data≠.cell v
 bz:pq X.prog X.w H s.heap
 len:σ.length=X.N.length
section
variable {X:Cx} {pins:List (Addr × Obj)} {σ:List (Option V)} {H H':Hp} {s:Shared} {h':Heap}
theorem Cx.Ok.aAu (ok:X.Ok) {b:Addr} {o:Obj} (e:X.base.get? b=some o):b ∉ X.fs:=fun hb=>by
 have:=(ok.su.mem hb).1
 rw [e] at this;cases this
theorem Inv.bs (I:Inv X pins σ H s):∀ b o,X.base.get? b=some o→s.heap.get? b=some o∧H b=none:=fun b o e =>
 ⟨I.base.keep b o (I.ok.bs b o e).1 (I.ok.bs b o e).2 (I.ok.aAu e) (I.ok.Iz b o e),I.base.free b o (I.ok.bs b o e).1 (I.ok.bs b o e).2 (I.ok.Iz b o e)⟩
theorem Inv.bk (I:Inv X pins σ H s):∀ b o,X.base.get? b=some o→s.heap.get? b=some o:=fun b o e=>(I.bs b o e).1
theorem Inv.mod (I:Inv X pins σ H s):Mod X.K X.mg X.base:=I.ok.mod
theorem Inv.Kq (I:Inv X pins σ H s):X.K.In s.heap:=I.ok.mod.WE.keeps I.bk
theorem Inv.nolimit (I:Inv X pins σ H s):s.heap.NoLimit:=I.ok.mod.nolimit.keeps I.bk
theorem Inv.fr (I:Inv X pins σ H s):∃ m,Fr X.base X.env.locals s.heap m :=
 let ⟨m,hn,_⟩:=I.loc
 ⟨m,hn,I.bk,Nat.le_trans I.ok.Nr I.ok.above⟩
theorem Inv.lt (I:Inv X pins σ H s):X.env.locals < s.heap.objs.size:=let ⟨_,hn,_⟩:=I.loc;hn.lt
theorem Inv.sz (I:Inv X pins σ H s):X.s₀.heap.objs.size≤s.heap.objs.size:=Nat.le_trans I.ok.above (Nat.le_of_lt I.lt)
theorem Inv.aAv (I:Inv X pins σ H s) {a:Addr} (h:s.heap.objs.size≤a):a ∉ X.fs:=fun hb=>by
 obtain ⟨_,o,ho,_⟩:=I.ok.su.mem hb
 exact absurd (Nat.lt_of_lt_of_le (Heap.lt_size ho) (Nat.le_trans I.sz h)) (Nat.lt_irrefl _)
theorem Inv.T2 (I:Inv X pins σ H s):∀ x c,X.env.cells.lookup x=some c→c≠X.env.locals:=fun x c e z=>by
 obtain ⟨v,o,ho,hd⟩:=I.cell x c e
 obtain ⟨m,⟨o',es,ep,De,Df,_⟩,_⟩:=I.loc
 rw [z,De] at ho;cases ho;rw [Df] at hd;cases hd
theorem Inv.su (I:Inv X pins σ H s):s.heap.FunFrames X.base X.outer:=by
 have all:∀ (l:List Env),(∀ b ∈ pJ l,b ∈ X.fs)→X.s₀.heap.FunFrames X.base l→s.heap.FunFrames X.base l:=by
  intro l
  induction l with
  | nil=>intro _ _;trivial
  | cons env r ih =>
   intro hs hl
   obtain ⟨hk,⟨L,o,hf,hn,ho,hd⟩,hr⟩:=hl
   have hL:L ∈ X.fs:=hs L (by unfold pJ;rw [List.filterMap_cons,hf];exact List.mem_cons_self)
   obtain ⟨sl,e⟩:=I.base.slot L o ho (I.ok.Sz L hL) hL fun z=>I.ok.I0 L z hL
   exact ⟨hk,⟨L,_,hf,hn,e,hd⟩,ih (fun b hb=>hs b (by unfold pJ;rw [List.filterMap_cons,hf];exact List.mem_cons_of_mem _ hb)) hr⟩
 exact all X.outer (fun _ hb=>hb) I.ok.su
theorem Inv.stack (I:Inv X pins σ H s):s.heap.FunFrames X.base X.stack:=by
 rcases I.ok.QJ with e | ⟨e,hf⟩
 ·rw [e];exact I.su
 ·rw [e]
  obtain ⟨m,hn,_⟩:=I.loc
  refine .cons (by rw [I.ok.kind];decide) hf hn ?_ I.su
  exact Heap.get?_none_of_le (Nat.le_trans I.ok.Nr I.ok.above)
theorem Inv.JA (I:Inv X pins σ H s):∀ b ∈ pJ X.stack,b ∈ X.env.locals :: X.fs:=fun b hb=>by
 rcases I.ok.QJ with e | ⟨e,hf⟩
 ·rw [e] at hb;exact List.mem_cons_of_mem _ hb
 ·rw [e] at hb
  unfold pJ at hb
  rw [List.filterMap_cons,hf] at hb
  exact hb
theorem Inv.zY (I:Inv X pins σ H s):∀ b ∈ pJ X.stack,H b=none:=fun b hb=>by
 rcases List.mem_cons.mp (I.JA b hb) with e | hb
 ·rw [e];exact I.free
 ·obtain ⟨_,o,ho,_⟩:=I.ok.su.mem hb
  exact I.base.free b o ho (I.ok.Sz b hb) fun z=>I.ok.I0 b z hb
theorem Inv.step {g':Array GenState} {t':Nat} {d':Drawn} {ch:List Addr} (I:Inv X pins σ H s)
  (QK:∀ b ∈ ch,(b ∈ X.ex∨X.s₀.heap.objs.size≤b)∧b≠X.env.locals∧(∀ x c,X.env.cells.lookup x=some c→c≠b)∧∀ p ∈ X.pn ++ pins,p.1≠b)
  (keep:∀ b o,b≠X.env.locals→b ∉ X.fs→b ∉ ch→s.heap.get? b=some o→H b=none→h'.get? b=some o)
  (slot:∀ b o,b≠X.env.locals→b ∈ X.fs→b ∉ ch→s.heap.get? b=some o→H b=none→∃ sl,h'.get? b=some { o with slots:=sl }) (free:∀ b o,b ∉ ch→s.heap.get? b=some o→H b=none→H' b=none)
  (there:∀ b o,b ∉ ch→s.heap.get? b=some o→∃ o',h'.get? b=some o')
  (nU:∀ b xs,H b=some (.tup xs)→H' b=some (.tup xs)) (nQ:∀ b o u,H b=some (.Ir o u)→H' b=some (.Ir o u)) (nV:∀ b ps,H b=some (.Sy ps)→∃ more,H' b=some (.Sy (ps ++ more)))
  (ns:∀ m,s.heap.Ns X.env.locals m→h'.Ns X.env.locals m) (bz:pq X.prog X.w H' h') (hg:AllBare g') :
  Inv X pins σ H' { s with heap:=h',gens:=g',drawn:=d',toks:=t' }:=by
 have neL:∀ b o,X.s₀.heap.get? b=some o→b≠X.env.locals:=fun b o e=>Nat.ne_of_lt (Nat.lt_of_lt_of_le (Heap.lt_size e) I.ok.above)
 have Zh:∀ b o,X.s₀.heap.get? b=some o→b ∉ X.ex→b ∉ ch:=fun b o e hx hb=>by
  rcases (QK b hb).1 with z | z
  ·exact hx z
  ·exact absurd (Nat.lt_of_lt_of_le (Heap.lt_size e) z) (Nat.lt_irrefl _)
 have cellK:∀ x c,X.env.cells.lookup x=some c→∀ v,s.heap.IsCell c v→h'.IsCell c v:=fun x c e v ⟨o,ho,hd⟩=>by
  have Ws:c ∉ ch:=fun z=>(QK c z).2.2.1 x c e rfl
  by_cases hc:c ∈ X.fs
  ·obtain ⟨sl,q⟩:=slot c o (I.T2 x c e) hc Ws ho (I.nI x c e)
   exact ⟨_,q,hd⟩
  ·exact ⟨o,keep c o (I.T2 x c e) hc Ws ho (I.nI x c e),hd⟩
 refine ⟨I.ok,I.os,hg,⟨fun b o e n hb hx=>?_,fun b o e n hb hx=>?_,fun b o e n hx=>?_,fun b o e hx=>?_,fun b xs e=>nU b xs (I.base.nU b xs e),fun b o xs e=>nQ b o xs (I.base.nQ b o xs e),fun b ps e=>?_⟩,?_,fun x c e=>?_,?_,fun x c e=>?_,fun p hp=>?_,bz,I.len⟩
 ·exact keep b o (neL b o e) hb (Zh b o e hx) (I.base.keep b o e n hb hx) (I.base.free b o e n hx)
 ·obtain ⟨sl,e1⟩:=I.base.slot b o e n hb hx
  obtain ⟨Wq,e2⟩:=slot b _ (neL b o e) hb (Zh b o e hx) e1 (I.base.free b o e n hx)
  exact ⟨Wq,e2⟩
 ·obtain ⟨o',e1⟩:=I.base.there b o e hx
  exact free b o' (Zh b o e hx) e1 (I.base.free b o e n hx)
 ·obtain ⟨o',e1⟩:=I.base.there b o e hx
  exact there b o' (Zh b o e hx) e1
 ·obtain ⟨m1,e1⟩:=I.base.nV b ps e
  obtain ⟨m2,e2⟩:=nV b _ e1
  exact ⟨m1 ++ m2,by rw [e2,Array.append_assoc]⟩
 ·obtain ⟨m,hn,hl⟩:=I.loc
  refine ⟨m,ns m hn,fun i x v e1 e2 e3=>?_⟩
  obtain ⟨u,r,l⟩:=hl i x v e1 e2 e3
  refine ⟨u,r,?_⟩
  rcases l with l | ⟨k,c,e,z⟩
  ·exact .inl l
  ·exact .inr ⟨k,c,e,cellK x c e _ z⟩
 ·obtain ⟨v,z⟩:=I.cell x c e
  exact ⟨v,cellK x c e v z⟩
 ·obtain ⟨m,⟨o,_,_,ho,_⟩,_⟩:=I.loc
  exact free _ o (fun z=>(QK _ z).2.1 rfl) ho I.free
 ·obtain ⟨v,o,ho,hd⟩:=I.cell x c e
  exact free c o (fun z=>(QK c z).2.2.1 x c e rfl) ho (I.nI x c e)
 ·obtain ⟨e,n,ne,nf,d⟩:=I.pin p hp
  have Ws:p.1 ∉ ch:=fun z=>(QK p.1 z).2.2.2 p hp rfl
  exact ⟨keep p.1 p.2 ne nf Ws e n,free p.1 p.2 Ws e n,ne,nf,d⟩
theorem Inv.un {t':Nat} (I:Inv X pins σ H s) (u:Un X.fs [] H H' s.heap h') (bz:pq X.prog X.w H' h'):Inv X pins σ H' { s with heap:=h',toks:=t' }:=by
 obtain ⟨m,⟨o,es,ep,ho,r⟩,_⟩:=id I.loc
 obtain ⟨sl,hL⟩:=u.any ho I.free (by simp)
 exact I.step (g':=s.gens) (d':=s.drawn) (ch:=[]) (fun _ z=>nomatch z) (fun b o _ hb _ e n=>u.keep b o e n hb (by simp)) (fun b o _ hb _ e n=>u.slot b o e n hb (by simp)) (fun b o _ e n=>u.free b o e n (by simp)) (fun b o _ e=>u.there b o e (by simp)) u.nU u.nQ u.nV (fun m' hm=>by
  obtain ⟨o',T3,ep',De,r'⟩:=hm
  rw [ho] at De;cases De
  exact ⟨_,T3,ep',hL,r'⟩) bz I.bare
theorem Inv.call {g':Array GenState} {t':Nat} {d':Drawn} {ch:List Addr} (I:Inv X pins σ H s) (u:Un (pJ X.stack) ch H H' s.heap h') (bz:pq X.prog X.w H' h') (hg:AllBare g')
  (QK:∀ b ∈ ch,(b ∈ X.ex∨X.s₀.heap.objs.size≤b)∧b≠X.env.locals∧(∀ x c,X.env.cells.lookup x=some c→c≠b)∧∀ p ∈ X.pn ++ pins,p.1≠b) :
  Inv X pins σ H' { s with heap:=h',gens:=g',drawn:=d',toks:=t' }:=by
 obtain ⟨m,⟨o,es,ep,ho,r⟩,_⟩:=id I.loc
 obtain ⟨sl,hL⟩:=u.any ho I.free fun z=>(QK _ z).2.1 rfl
 exact I.step (ch:=ch) QK (fun b o hL hb hc e n=>u.keep b o e n (fun z=>(List.mem_cons.mp (I.JA b z)).elim hL hb) hc) (fun b o _ _ hc e n=>u.any e n hc) (fun b o hc e n=>u.free b o e n hc) (fun b o hc e=>u.there b o e hc) u.nU u.nQ u.nV (fun m' hm=>by
  obtain ⟨o',T3,ep',De,r'⟩:=hm
  rw [ho] at De;cases De
  exact ⟨_,T3,ep',hL,r'⟩) bz hg
theorem Inv.turned {t':Nat} {it:Addr} (I:Inv X pins σ H s) (k:∀ b o,b≠it→s.heap.get? b=some o→h'.get? b=some o) (hn:H it=none) (hL:it≠X.env.locals)
  (h1:it ∈ X.ex∨X.s₀.heap.objs.size≤it) (h2:∀ x c,X.env.cells.lookup x=some c→c≠it) (h3:∀ p ∈ X.pn ++ pins,p.1≠it):Inv X pins σ H { s with heap:=h',toks:=t' }:=by
 have nit:∀ b u,H b=some u→b≠it:=fun b u e z=>by rw [z,hn] at e;cases e
 refine I.step (g':=s.gens) (d':=s.drawn) (ch:=[it]) (fun b hb=>?_) (fun b o _ _ hc e _=>k b o (fun z=>hc (by simp [z])) e) (fun b o _ _ hc e _=>⟨o.slots,k b o (fun z=>hc (by simp [z])) e⟩) (fun _ _ _ _ n=>n)
  (fun b o hc e=>⟨o,k b o (fun z=>hc (by simp [z])) e⟩) (fun _ _ e=>e) (fun _ _ _ e=>e) (fun b ps e=>⟨#[],by rw [e];simp⟩) (fun m hm=>?_) (fun b u e=>?_) I.bare
 ·have e:b=it:=by simpa using hb
  subst e
  exact ⟨h1,hL,h2,h3⟩
 ·obtain ⟨o,es,ep,ho,r⟩:=hm
  exact ⟨o,es,ep,k _ o (Ne.symm hL) ho,r⟩
 ·refine (I.bz b u e).GX (fun c v hc q=>k c v ?_ q) (fun _ q=>q) fun _ _ q=>q
  rcases hc with z | z
  ·rw [z];exact nit b u e
  ·exact nit c _ z
theorem Inv.tok (I:Inv X pins σ H s) (t:Nat):Inv X pins σ H { s with toks:=t }:=I.un (h':=s.heap) (t':=t) Un.refl I.bz
theorem Inv.kept {t':Nat} (I:Inv X pins σ H s) (k:∀ b u,s.heap.get? b=some u→h'.get? b=some u):Inv X pins σ H { s with heap:=h',toks:=t' }:=I.un (Un.kept k) (I.bz.kept k)
theorem Inv.laid {a:Addr} {o:HO} {t':Nat} (I:Inv X pins σ H s) (k:∀ b u,s.heap.get? b=some u→h'.get? b=some u) (hp:s.heap.objs.size≤a) (new:cJ X.prog X.w (upd H a o) h' a o) :
  Inv X pins σ (upd H a o) { s with heap:=h',toks:=t' }:=I.un (Un.laid k hp (I.bz.fresh hp)) (I.bz.laid k hp new)
theorem Inv.write {x e:Addr} {o:HO} {t':Nat} (I:Inv X pins σ H s) (mu:Wo (H x)) (he:e=x∨H e=some (.own x)) (k:∀ b u,b≠e→s.heap.get? b=some u→h'.get? b=some u) (WD:∃ u,h'.get? e=some u)
  (new:cJ X.prog X.w (upd H x o) h' x o):Inv X pins σ (upd H x o) { s with heap:=h',toks:=t' }:=I.un (Un.write mu he k WD) (I.bz.write mu he k WD new)
theorem Inv.Kr {S0:List (Addr × Obj)} (I:Inv X pins σ H s) (h:∀ p ∈ S0,s.heap.get? p.1=some p.2∧H p.1=none∧p.1≠X.env.locals∧p.1 ∉ X.fs∧∀ v,p.2.data≠.cell v):Inv X S0 σ H s :=
 ⟨I.ok,I.os,I.bare,I.base,I.loc,I.cell,I.free,I.nI,fun p hp=>(List.mem_append.mp hp).elim (fun z=>I.pin p (List.mem_append_left _ z)) (h p),I.bz,I.len⟩
theorem GY {N:List Str} (hN:N.Nodup) {i j:Nat} {x:Str} (a:N[i]?=some x) (b:N[j]?=some x):i=j:=by
 obtain ⟨h1,e1⟩:=List.getElem?_eq_some_iff.mp a
 obtain ⟨h2,e2⟩:=List.getElem?_eq_some_iff.mp b
 exact (List.getElem_inj hN).mp (e1.trans e2.symm)
theorem yk {M:Model} {A:Around} {E:Value→Shared→Prop} {i:Nat} {x:Str} {v:V} {u:Value} {Q:Unit→Shared→Prop} (I:Inv X pins σ H s) (hN:X.N.Nodup) (hi:X.N[i]?=some x) (hx:Loc X.env.scope x) (r:RelV v u)
  (h:∀ s',Inv X pins (σ.set i (some v)) H s'→(∃ a,Heap.SameBut a s.heap s'.heap∧(a=X.env.locals∨X.env.cells.lookup x=some a))→Q () s') (hf:X.fn x=true∨X.env.scope.names.lookup x=some .local:=by first | exact .inl rfl | exact .inr rfl | assumption):wpAny M A (storeName X.env x u) Q E s:=by
 obtain ⟨m,hn,hl⟩:=id I.loc
 have aAx:(X.env.scope.kind == .class || (X.env.scope.kind == .module && X.env.locals != X.env.globals))=false:=by rw [I.ok.kind];rfl
 have hiσ:i < σ.length:=by rw [I.len];exact (List.getElem?_eq_some_iff.mp hi).1
 have T2:=I.T2
 have tracked:∀ {a:Addr} {h':Heap},(∃ o,s.heap.get? a=some o∧H a=none)→Heap.SameBut a s.heap h'→pq X.prog X.w H h':=fun {a h'} ha hs b ob e=>by
  obtain ⟨_,_,S3⟩:=ha
  refine (I.bz b ob e).GX (fun c w' hc q=>(hs.2 c ?_).trans q) (fun _ q=>q) fun _ _ q=>q
  rintro rfl
  rcases hc with rfl | hc
  ·rw [S3] at e;cases e
  ·rw [S3] at hc;cases hc
 rcases hx with hk | hk
 ·refine wpAny_storeName_local hk hn (fun h' WG hs=>?_) aAx
  obtain ⟨oL,_,_,hoL,_⟩:=id hn
  refine h _ ⟨I.ok,I.os,I.bare,⟨fun b o e n hb hx=>?_,fun b o e n hb hx=>?_,I.base.free,fun b o e hx=>?_,I.base.nU,I.base.nQ,I.base.nV⟩,⟨_,WG,fun j y v' e1 e2 e3=>?_⟩,fun y c e=>?_,I.free,I.nI,fun p hp=>?_,tracked ⟨oL,hoL,I.free⟩ hs,by simpa using I.len⟩ ⟨_,hs,.inl rfl⟩
  ·exact (hs.2 b (Nat.ne_of_lt (Nat.lt_of_lt_of_le (Heap.lt_size e) I.ok.above))).trans (I.base.keep b o e n hb hx)
  ·obtain ⟨sl,e1⟩:=I.base.slot b o e n hb hx
   exact ⟨sl,(hs.2 b (Nat.ne_of_lt (Nat.lt_of_lt_of_le (Heap.lt_size e) I.ok.above))).trans e1⟩
  ·obtain ⟨o',e1⟩:=I.base.there b o e hx
   exact ⟨o',(hs.2 b (Nat.ne_of_lt (Nat.lt_of_lt_of_le (Heap.lt_size e) I.ok.above))).trans e1⟩
  ·by_cases hj:j=i
   ·subst hj
    rw [hi] at e1;cases e1
    rw [List.getElem?_set_self hiσ] at e2
    cases e2
    exact ⟨u,r,.inl ⟨hk,by simp⟩⟩
   ·rw [List.getElem?_set_ne (Ne.symm hj)] at e2
    obtain ⟨u',r',q⟩:=hl j y v' e1 e2 e3
    refine ⟨u',r',?_⟩
    rcases q with ⟨k,e⟩ | ⟨k,c,e,z⟩
    ·refine .inl ⟨k,?_⟩
     have:y≠x:=fun e=>hj (GY hN e1 (e ▸ hi))
     simp [this,e]
    ·exact .inr ⟨k,c,e,z.sameBut hs (T2 y c e)⟩
  ·obtain ⟨w',z⟩:=I.cell y c e
   exact ⟨w',z.sameBut hs (T2 y c e)⟩
  ·obtain ⟨e,n,ne,nf,d⟩:=I.pin p hp
   exact ⟨(hs.2 p.1 ne).trans e,n,ne,nf,d⟩
 ·have hfn:X.fn x=true:=by
   rcases hf with z | z
   ·exact z
   ·rw [z] at hk;cases hk
  obtain ⟨c,hc⟩:=I.ok.has x (.inl hk)
  obtain ⟨w',z⟩:=I.cell x c hc
  refine wpAny_storeName_cell I.ok.kind hk hc z (fun h' WH hs=>?_)
  obtain ⟨oc,hoc,aAz⟩:=id z
  refine h { s with heap:=h' } ⟨I.ok,I.os,I.bare,⟨fun b o e n hb hx=>?_,fun b o e n hb hx=>?_,I.base.free,fun b o e hx=>?_,I.base.nU,I.base.nQ,I.base.nV⟩,⟨m,hn.sameBut hs (Ne.symm (T2 x c hc)),fun j y v' e1 e2 e3=>?_⟩,fun y c' e=>?_,I.free,I.nI,fun p hp=>?_,tracked ⟨oc,hoc,I.nI x c hc⟩ hs,by simpa using I.len⟩ ⟨c,hs,.inr hc⟩
  ·exact (hs.2 b (Nat.ne_of_lt (Nat.lt_of_lt_of_le (Heap.lt_size e) (I.ok.T1 x c hfn hc)))).trans (I.base.keep b o e n hb hx)
  ·obtain ⟨sl,e1⟩:=I.base.slot b o e n hb hx
   exact ⟨sl,(hs.2 b (Nat.ne_of_lt (Nat.lt_of_lt_of_le (Heap.lt_size e) (I.ok.T1 x c hfn hc)))).trans e1⟩
  ·obtain ⟨o',e1⟩:=I.base.there b o e hx
   exact ⟨o',(hs.2 b (Nat.ne_of_lt (Nat.lt_of_lt_of_le (Heap.lt_size e) (I.ok.T1 x c hfn hc)))).trans e1⟩
  ·by_cases hj:j=i
   ·subst hj
    rw [hi] at e1;cases e1
    rw [List.getElem?_set_self hiσ] at e2
    cases e2
    exact ⟨u,r,.inr ⟨.inl hk,c,hc,WH⟩⟩
   ·rw [List.getElem?_set_ne (Ne.symm hj)] at e2
    obtain ⟨u',r',q⟩:=hl j y v' e1 e2 e3
    refine ⟨u',r',?_⟩
    rcases q with q | ⟨k,c',e,z'⟩
    ·exact .inl q
    ·refine .inr ⟨k,c',e,z'.sameBut hs ?_⟩
     rintro rfl
     exact hj (GY hN e1 (I.ok.inj _ _ _ e hc ▸ hi))
  ·by_cases QL:c'=c
   ·subst QL;exact ⟨_,WH⟩
   ·obtain ⟨w2,z2⟩:=I.cell y c' e
    exact ⟨w2,z2.sameBut hs QL⟩
  ·obtain ⟨e,n,ne,nf,d⟩:=I.pin p hp
   refine ⟨(hs.2 p.1 ?_).trans e,n,ne,nf,d⟩
   intro q
   rw [q,hoc] at e
   have q':oc=p.2:=Option.some.inj e
   exact d w' (by rw [← q'];exact aAz)
theorem GZ {M:Model} {A:Around} {E:Value→Shared→Prop} {i:Nat} {x:Str} {v:V} {u:Value} {Q:Unit→Shared→Prop} (I:Inv X pins σ H s) (hN:X.N.Nodup) (hi:X.N[i]?=some x) (hx:Loc X.env.scope x) (r:RelV v u)
  (h:∀ s',Inv X pins (σ.set i (some v)) H s'→Q () s') (hf:X.fn x=true∨X.env.scope.names.lookup x=some .local:=by first | exact .inl rfl | exact .inr rfl | assumption):wpAny M A (storeName X.env x u) Q E s :=
 yk I hN hi hx r (fun s' I' _=>h s' I') hf
theorem Inv.Nt {s':Shared} {ch:List Addr} (I:Inv X pins σ H s) (ho:s'.os=s.os) (u:Un (pJ X.stack) ch H H' s.heap s'.heap) (bz:pq X.prog X.w H' s'.heap) (hg:AllBare s'.gens)
  (QK:∀ b ∈ ch,(b ∈ X.ex∨X.s₀.heap.objs.size≤b)∧b≠X.env.locals∧(∀ x c,X.env.cells.lookup x=some c→c≠b)∧∀ p ∈ X.pn ++ pins,p.1≠b):Inv X pins σ H' s':=by
 obtain ⟨h',g',d',t',o'⟩:=s'
 have e:o'=s.os:=ho
 subst e
 exact I.call (g':=g') (t':=t') (d':=d') u bz hg QK
end
abbrev XK:=Value→Option Addr→Hp→Prop
abbrev St:=List (Option V)
abbrev VK:=V→Hp→Prop
abbrev TE:=St→Hp→VK→Prop
abbrev TT:=St→Hp→(Bool→Hp→Prop)→Prop
abbrev TA:=St→Hp→(List V→Hp→Prop)→Prop
structure Ends where
 nx:St→Hp→Prop
 rt:VK
 bk:St→Hp→Prop:=fun _ _=>False
 ct:St→Hp→Prop:=fun _ _=>False
abbrev TS:=Ends→St→Hp→Prop
def EP (X:Cx) (pins:List (Addr × Obj)) (σ:St) (Q:VK) (u:Value) (s':Shared):Prop:=∃ v H',Inv X pins σ H' s'∧RelV v u∧Q v H'
def TP (X:Cx) (pins:List (Addr × Obj)) (σ:St) (Q:Bool→Hp→Prop) (b:Bool) (s':Shared):Prop:=∃ H',Inv X pins σ H' s'∧Q b H'
def AP (X:Cx) (pins:List (Addr × Obj)) (σ:St) (Q:List V→Hp→Prop) (us:List Value) (s':Shared):Prop:=∃ vs H',Inv X pins σ H' s'∧au vs us∧Q vs H'
def SP (X:Cx) (pins:List (Addr × Obj)) (D:Ends) (f:Flow) (s':Shared):Prop :=
 match f with
 | .next=>∃ σ' H',Inv X pins σ' H' s'∧D.nx σ' H'
 | .brk=>∃ σ' H',Inv X pins σ' H' s'∧D.bk σ' H'
 | .cont=>∃ σ' H',Inv X pins σ' H' s'∧D.ct σ' H'
 | .ret u=>∃ v σ' H',Inv X pins σ' H' s'∧RelV v u∧D.rt v H'
def PE (X:Cx) (e:Expr) (t:TE):Prop :=
 ∀ (pins:List (Addr × Obj)) (s:Shared) (σ:St) (H:Hp) (Q:VK),Inv X pins σ H s→t σ H Q→wpAny (model X.prog X.w) X.A (eval e X.env) (EP X pins σ Q) X.xe s
def PT (X:Cx) (e:Expr) (t:TT):Prop :=
 ∀ (pins:List (Addr × Obj)) (s:Shared) (σ:St) (H:Hp) (Q:Bool→Hp→Prop),Inv X pins σ H s→t σ H Q→wpAny (model X.prog X.w) X.A (isTrue e X.env (eval e X.env)) (TP X pins σ Q) X.xe s
def PW (X:Cx) (e:Expr) (t:TT):Prop :=
 ∀ (whole:Sem Value) (pins:List (Addr × Obj)) (s:Shared) (σ:St) (H:Hp) (Q:Bool→Hp→Prop),Inv X pins σ H s→t σ H Q→wpAny (model X.prog X.w) X.A (isTrue e X.env whole) (TP X pins σ Q) X.xe s
theorem PW.pt {X:Cx} {e:Expr} {t:TT} (h:PW X e t):PT X e t:=h _
def PA (X:Cx) (es:List Expr) (t:TA):Prop :=
 ∀ (pos:Pos) (pins:List (Addr × Obj)) (s:Shared) (σ:St) (H:Hp) (Q:List V→Hp→Prop),Inv X pins σ H s→t σ H Q→wpAny (model X.prog X.w) X.A (spliced (backTo pos (starEach es X.env))) (AP X pins σ Q) X.xe s
def PS (X:Cx) (st:Stmt) (t:TS):Prop :=
 ∀ (pins:List (Addr × Obj)) (s:Shared) (σ:St) (H:Hp) (D:Ends),Inv X pins σ H s→t D σ H→wpAny (model X.prog X.w) X.A (exec st X.env) (SP X pins D) X.xe s
def Iu (X:Cx) (st:List Stmt) (t:TS):Prop :=
 ∀ (pins:List (Addr × Obj)) (s:Shared) (σ:St) (H:Hp) (D:Ends),Inv X pins σ H s→t D σ H→wpAny (model X.prog X.w) X.A (execs st X.env) (SP X pins D) X.xe s
theorem bu {α:Type} {t:Sem α} {Q Q':α→Shared→Prop} {M:Model} {A:Around} {E:Value→Shared→Prop} {s:Shared} (h:wpAny M A t Q E s) (hQ:∀ a s,Q a s→Q' a s):wpAny M A t Q' E s:=wpAny_mono h hQ fun _ _ x=>x
end L2
namespace L2
open PySem PySem.Spec PyProof.Rows
section
variable {X:Cx}
def qM (i:Nat):TE:=fun σ H Q=>∃ v,σ[i]?=some (some v)∧Q v H
def tC (v:V):TE:=fun _ H Q=>Q v H
theorem T4 {i:Nat} {x:Str} {pos:Pos} (hN:X.N[i]?=some x) (hv:Zg X.env.scope x) (hd:(x == ("__debug__":Str))=false:=by decide) (yl:(x == ("__classdict__":Str))=false:=by decide):PE X (.Name x pos) (qM i):=by
 intro pins s σ H Q I h
 obtain ⟨v,e,h⟩:=h
 obtain ⟨m,hn,hl⟩:=I.loc
 obtain ⟨u,r,l⟩:=hl i x v hN e hv
 have fin:EP X pins σ Q u s:=⟨v,H,I,r,h⟩
 rcases l with ⟨hk,hm⟩ | ⟨hk,c,hc,Ks⟩
 ·exact wpAny_Name (wpAny_loadName_local I.ok.kind hk hn hm fin) hd
 ·rcases hk with hk | hk
  ·exact wpAny_Name (wpAny_loadName_cell I.ok.kind hk hc Ks fin) hd
  ·exact wpAny_Name (wpAny_loadName_free I.ok.kind hk hc Ks fin yl) hd
theorem aF {i j pos}:PE X (.Constant (.int i) j pos) (tC (.int i)):=fun _ _ _ H _ I h=>wpAny_Constant_int ⟨.int i,H,I.tok _,⟨_,rfl⟩,h⟩
theorem lC {b j pos}:PE X (.Constant (.bool b) j pos) (tC (.bl b)):=fun _ _ _ H _ I h=>Constant_bool ⟨.bl b,H,I,rfl,h⟩
theorem cK {j pos}:PE X (.Constant .none j pos) (tC .bJ):=fun _ _ _ H _ I h=>Constant_none ⟨.bJ,H,I,rfl,h⟩
theorem cZ {x j pos}:PE X (.Constant (.str x) j pos) (tC (.str x)):=fun _ _ _ H _ I h=>Calls.Constant_str ⟨.str x,H,I.tok _,⟨_,rfl⟩,h⟩
def Gl (X:Cx) (x:Str):Prop:=X.env.kindOf x=some .globalImplicit
theorem vN {E:Value→Shared→Prop} {pins:List (Addr × Obj)} {s:Shared} {σ:St} {H:Hp} {x:Str} {u:Value} {pos:Pos} {Q:Value→Shared→Prop} (I:Inv X pins σ H s) (hg:Gl X x) (hm:X.mg x=some u) (h:Q u s)
  (hd:(x == ("__debug__":Str))=false:=by decide):wpAny (model X.prog X.w) X.A (eval (.Name x pos) X.env) Q E s :=
 Calls.Name_function_global I.ok.kind hg (Calls.loadGlobal_global (by rw [I.ok.glob];exact I.mod.glob.keeps I.bk) hm h) hd
theorem lz {E:Value→Shared→Prop} {pins:List (Addr × Obj)} {s:Shared} {σ:St} {H:Hp} {x:Str} {u:Value} {pos:Pos} {Q:Value→Shared→Prop} (I:Inv X pins σ H s) (hg:Gl X x) (hm:X.mg x=none) (hv:bootBuiltins x=some u) (h:Q u s)
  (hn:x≠"__name__":=by decide) (hd:(x == ("__debug__":Str))=false:=by decide):wpAny (model X.prog X.w) X.A (eval (.Name x pos) X.env) Q E s:=by
 obtain ⟨mb,h1,h2⟩:=I.mod.blt
 exact Calls.Name_function_global I.ok.kind hg (Calls.loadGlobal_builtin (by rw [I.ok.glob];exact I.mod.glob.keeps I.bk) hm (by rw [I.ok.blt];exact h1.keeps I.bk) ((h2 x hn).trans hv) h) hd
theorem Kt {x:Str} {v:V} {u:Value} {pos:Pos} (hg:Gl X x) (hm:X.mg x=some u) (r:RelV v u) (hd:(x == ("__debug__":Str))=false:=by decide):PE X (.Name x pos) (tC v) :=
 fun _ _ _ H _ I h=>vN I hg hm ⟨v,H,I,r,h⟩ hd
variable {a b:Expr} {ta tb:TE} {pos:Pos}
def PC (X:Cx) (op:CmpOp) (a b:Expr) (t:TE):Prop :=
 ∀ (pins:List (Addr × Obj)) (s:Shared) (σ:St) (H:Hp) (Q:VK),Inv X pins σ H s→t σ H Q →
  wpAny (model X.prog X.w) X.A (eval a X.env) (fun v s₁=>wpAny (model X.prog X.w) X.A (eval b X.env) (fun u s₂=>wpAny (model X.prog X.w) X.A (compareOp op v u) (EP X pins σ Q) X.xe s₂) X.xe s₁) X.xe s
theorem Nu (b:Expr) {op:CmpOp} (h:op≠.In) (h2:op≠.NotIn):behindInMarks op b=false:=by
 have e1:(op == CmpOp.In)=false:=by cases op <;> first | rfl | exact absurd rfl h
 have e2:(op == CmpOp.NotIn)=false:=by cases op <;> first | rfl | exact absurd rfl h2
 cases b <;> simp [behindInMarks,e1,e2]
def tB (t:TE):TT:=fun σ H Q=>t σ H fun x H1=>∃ c,x=.bl c∧Q c H1
theorem Nv {op:CmpOp} {t:TE} (h:PC X op a b t) (h1:behindInMarks op b=false:=by first | exact Nu _ (by decide) (by decide) | rfl):PT X (.Compare a [op] [b] pos) (tB t):=by
 intro pins s σ H Q I hw
 refine wpAny_isTrue_Compare1 (bu (h pins s σ H _ I hw) fun v s1 h1=>bu h1 fun u s2 h2=>bu h2 fun c s3 ⟨x,H1,I1,r1,q1⟩=>?_) h1
 obtain ⟨d,rfl,q⟩:=q1
 cases r1
 exact wpAny_truthy_bool ⟨H1,I1,q⟩
theorem jH {e:Expr} {t:TE} (h:PE X e t) (he:∀ whole,isTrue e X.env whole=(do let v ← whole;standAt e.pos;holding [v] (truthy v)):=by intro _;rfl):PT X e (tB t):=by
 intro pins s σ H Q I hw
 refine isTrue_plain (bu (h pins s σ H _ I hw) fun v s1 ⟨x,H1,I1,r1,q1⟩=>?_) (he _)
 obtain ⟨d,rfl,q⟩:=q1
 cases r1
 exact wpAny_truthy_bool ⟨H1,I1,q⟩
variable {tA Wu:TT} {rest:List Expr}
def Wv (t u:TT):TT:=fun σ H Q=>t σ H fun c H1=>if c=true then u σ H1 Q else Q false H1
def tOr (t u:TT):TT:=fun σ H Q=>t σ H fun c H1=>if c=true then Q true H1 else u σ H1 Q
def aA0 (t:TT):TT:=fun σ H Q=>t σ H fun c H1=>Q (!c) H1
theorem pK (ha:PT X a tA):PW X (.BoolOp .And [a] pos) tA:=by
 intro wh pins s σ H Q I h
 refine isTrue_and (bu (ha pins s σ H Q I h) fun c s1 e=>?_)
 cases c with
 | true=>exact isTrue_and_nil e
 | false=>exact e
theorem vY (ha:PT X a tA):PW X (.BoolOp .Or [a] pos) tA:=by
 intro wh pins s σ H Q I h
 refine isTrue_or (bu (ha pins s σ H Q I h) fun c s1 e=>?_)
 cases c with
 | false=>exact isTrue_or_nil e
 | true=>exact e
theorem sx (ha:PT X a tA) (hb:PW X (.BoolOp .And (b :: rest) pos) Wu):PW X (.BoolOp .And (a :: b :: rest) pos) (Wv tA Wu):=by
 intro wh pins s σ H Q I h
 refine isTrue_and (bu (ha pins s σ H _ I h) fun c s1 ⟨H1,I1,q1⟩=>?_)
 cases c with
 | true=>exact hb wh pins s1 σ H1 Q I1 q1
 | false=>exact ⟨H1,I1,q1⟩
theorem Ga (ha:PT X a tA) (hb:PW X (.BoolOp .Or (b :: rest) pos) Wu):PW X (.BoolOp .Or (a :: b :: rest) pos) (tOr tA Wu):=by
 intro wh pins s σ H Q I h
 refine isTrue_or (bu (ha pins s σ H _ I h) fun c s1 ⟨H1,I1,q1⟩=>?_)
 cases c with
 | true=>exact ⟨H1,I1,q1⟩
 | false=>exact hb wh pins s1 σ H1 Q I1 q1
theorem kJ (ha:PT X a tA):PT X (.UnaryOp .Not a pos) (aA0 tA):=by
 intro pins s σ H Q I h
 exact isTrue_not (ha pins s σ H (fun c H1=>Q (!c) H1) I h)
def Ww (ta tb:TE):TE:=fun σ H Q=>ta σ H fun x H1=>∃ c,x=.bl c∧if c=true then tb σ H1 Q else Q (.bl false) H1
theorem T5 {op} {t:TE} (h:PE X a t):PE X (.BoolOp op [a] pos) t:=fun pins s σ H Q I hw=>BoolOp_one (h pins s σ H Q I hw)
theorem T6 (ha:PE X a ta) (hb:PE X (.BoolOp .And (b :: rest) pos) tb):PE X (.BoolOp .And (a :: b :: rest) pos) (Ww ta tb):=by
 intro pins s σ H Q I h
 refine BoolOp_and (bu (ha pins s σ H _ I h) fun v s1 ⟨x,H1,I1,r1,q1⟩=>?_)
 obtain ⟨c,rfl,q1⟩:=q1
 cases r1
 refine wpAny_truthy_bool ?_
 cases c with
 | true=>exact hb pins s1 σ H1 Q I1 q1
 | false=>exact ⟨.bl false,H1,I1,rfl,q1⟩
def tIf (t:TT) (ta tb:TE):TE:=fun σ H Q=>t σ H fun c H1=>if c=true then ta σ H1 Q else tb σ H1 Q
theorem nW {c:Expr} (hc:PT X c tA) (ha:PE X a ta) (hb:PE X b tb):PE X (.IfExp c a b pos) (tIf tA ta tb):=by
 intro pins s σ H Q I h
 refine wpAny_IfExp (bu (hc pins s σ H _ I h) fun d s1 ⟨H1,I1,q1⟩=>?_)
 cases d with
 | true=>exact ha pins s1 σ H1 Q I1 q1
 | false=>exact hb pins s1 σ H1 Q I1 q1
end
end L2
namespace L2
open PySem PySem.Spec PyProof.Rows
def aX (K:PySem.W.Frag) (H:Hp) (a:Addr) (xs:List V):Prop :=
 Rd H a (.lst xs) ∨
  ∃ (o:Obj) (ai:Array Value) (n:Nat),K.lookup a=some o∧o.cls=.type "list"∧o.dict=none∧o.data=.seq ai n∧ai.size≤sizeLine∧au xs ai.toList
def bw (K:PySem.W.Frag) (H:Hp) (a:Addr) (xs:List V):Prop :=
 Rd H a (.tup xs) ∨
  ∃ (o:Obj) (ai:Array Value) (n:Nat),K.lookup a=some o∧o.cls=.type "tuple"∧o.data=.seq ai n∧ai.size≤sizeLine∧au xs ai.toList
def aA1:Value→Option V
 | .none=>some .bJ
 | .bool b=>some (.bl b)
 | .int i _=>some (.int i)
 | .str x _=>some (.str x)
 | .bytes b _=>some (.Kp b)
 | .float b _=>some (.WC b)
 | .ref a=>some (.ref a)
 | .type n=>some (.ty n)
 | _=>none
theorem RelV.abs {x:V} {u:Value} (r:RelV x u):aA1 u=some x:=by
 cases x with
 | bJ=>cases r;rfl
 | bl _=>cases r;rfl
 | int _=>obtain ⟨t,rfl⟩:=r;rfl
 | str _=>obtain ⟨t,rfl⟩:=r;rfl
 | Kp _=>obtain ⟨t,rfl⟩:=r;rfl
 | WC _=>obtain ⟨t,rfl⟩:=r;rfl
 | ref _=>cases r;rfl
 | ty _=>cases r;rfl
theorem RelV.inj {x y:V} {u:Value} (r:RelV x u) (q:RelV y u):x=y:=Option.some.inj (r.abs.symm.trans q.abs)
theorem au.inj:∀ {xs ys:List V} {us:List Value},au xs us→au ys us→xs=ys
 | _,_,_,.nil,.nil=>rfl
 | _,_,_,.cons r t,.cons r' t'=>by rw [r.inj r',au.inj t t']
section
variable {X:Cx} {pins:List (Addr × Obj)} {σ:St} {H:Hp} {s:Shared} {a:Addr} {xs ys:List V}
theorem aX.of {K:PySem.W.Frag} (h:H a=some (.lst xs)):aX K H a xs:=.inl (.inl h)
theorem bw.of {K:PySem.W.Frag} (h:H a=some (.tup xs)):bw K H a xs:=.inl (.inl h)
theorem Inv.list (I:Inv X pins σ H s) (h:aX X.K H a xs):∃ ai:List Value,au xs ai∧PlainL s.heap a ai.toArray∧xs.length≤sizeLine:=by
 rcases h with h | ⟨o,ai,n,hk,hc,hd,hs,hz,r⟩
 ·obtain ⟨z,ai,n,r,e⟩:=h.ok I.bz
  exact ⟨ai,r,⟨_,n,e,rfl,rfl,rfl⟩,z⟩
 ·refine ⟨ai.toList,r,⟨o,n,I.Kq a o hk,hc,hd,by simpa using hs⟩,?_⟩
  have e:=r.length
  simp only [Array.length_toList] at e
  omega
theorem Inv.tuple (I:Inv X pins σ H s) (h:bw X.K H a xs):∃ ai:List Value,au xs ai∧IsTup s.heap a ai.toArray∧xs.length≤sizeLine:=by
 rcases h with h | ⟨o,ai,n,hk,hc,hs,hz,r⟩
 ·obtain ⟨z,ai,r,p⟩:=h.ok I.bz
  exact ⟨ai,r,p,z⟩
 ·refine ⟨ai.toList,r,⟨o,I.Kq a o hk,hc,n,by simpa using hs⟩,?_⟩
  have e:=r.length
  simp only [Array.length_toList] at e
  omega
theorem Inv.rP (I:Inv X pins σ H s) (h:aX X.K H a xs) (h':aX X.K H a ys):xs=ys:=by
 obtain ⟨ai,r,⟨o,n,e,_,_,d⟩,_⟩:=I.list h
 obtain ⟨its',r',⟨o',n',e',_,_,d'⟩,_⟩:=I.list h'
 rw [e] at e';cases e'
 rw [d] at d'
 injection d' with d1 _
 have:ai=its':=by simpa using congrArg Array.toList d1
 subst this
 exact r.inj r'
theorem Inv.ym (I:Inv X pins σ H s) (h:bw X.K H a xs) (h':bw X.K H a ys):xs=ys:=by
 obtain ⟨ai,r,⟨o,e,_,n,d⟩,_⟩:=I.tuple h
 obtain ⟨its',r',⟨o',e',_,n',d'⟩,_⟩:=I.tuple h'
 rw [e] at e';cases e'
 rw [d] at d'
 injection d' with d1 _
 have:ai=its':=by simpa using congrArg Array.toList d1
 subst this
 exact r.inj r'
end
abbrev Cx.sy (X:Cx) (E:Value→Shared→Prop):Cx:={ X with xe:=E }
abbrev Cx.uX (X:Cx):Cx:=X.sy fun _ _=>False
theorem Cx.Ok.sy {X:Cx} (ok:X.Ok) (E:Value→Shared→Prop):(X.sy E).Ok :=
 ⟨ok.mod,ok.kind,ok.glob,ok.blt,ok.above,ok.inj,ok.has,ok.T1,ok.hd,ok.frames,ok.QJ,ok.Wr,ok.bs,ok.Nr,ok.Iz,ok.I0,ok.su,ok.Sz⟩
theorem Cx.Ok.jI {X:Cx} {E:Value→Shared→Prop} (ok:(X.sy E).Ok):X.Ok :=
 ⟨ok.mod,ok.kind,ok.glob,ok.blt,ok.above,ok.inj,ok.has,ok.T1,ok.hd,ok.frames,ok.QJ,ok.Wr,ok.bs,ok.Nr,ok.Iz,ok.I0,ok.su,ok.Sz⟩
section
variable {X:Cx} {pins:List (Addr × Obj)} {σ:St} {H:Hp} {s:Shared} {E:Value→Shared→Prop}
theorem Inv.sy (I:Inv X pins σ H s) (E:Value→Shared→Prop):Inv (X.sy E) pins σ H s:=⟨I.ok.sy E,I.os,I.bare,I.base,I.loc,I.cell,I.free,I.nI,I.pin,I.bz,I.len⟩
theorem Inv.jI (I:Inv (X.sy E) pins σ H s):Inv X pins σ H s:=⟨I.ok.jI,I.os,I.bare,I.base,I.loc,I.cell,I.free,I.nI,I.pin,I.bz,I.len⟩
theorem SP.jI {D:Ends} {f:Flow} {s':Shared} (h:SP (X.sy E) pins D f s'):SP X pins D f s':=by
 cases f with
 | next=>obtain ⟨σ',H',I,q⟩:=h;exact ⟨σ',H',I.jI,q⟩
 | brk=>obtain ⟨σ',H',I,q⟩:=h;exact ⟨σ',H',I.jI,q⟩
 | cont=>obtain ⟨σ',H',I,q⟩:=h;exact ⟨σ',H',I.jI,q⟩
 | ret u=>obtain ⟨v,σ',H',I,r,q⟩:=h;exact ⟨v,σ',H',I.jI,r,q⟩
theorem PE.uX {e:Expr} {t:TE} (h:PE X.uX e t):PE X e t:=fun pins s σ H Q I hw =>
 wpAny_mono (h pins s σ H Q (I.sy _) hw) (fun _ _ ⟨v,H',I',r,q⟩=>⟨v,H',I'.jI,r,q⟩) fun _ _ z=>False.elim z
theorem PT.uX {e:Expr} {t:TT} (h:PT X.uX e t):PT X e t:=fun pins s σ H Q I hw =>
 wpAny_mono (h pins s σ H Q (I.sy _) hw) (fun _ _ ⟨H',I',q⟩=>⟨H',I'.jI,q⟩) fun _ _ z=>False.elim z
theorem Iu.uX {st:List Stmt} {t:TS} (h:Iu X.uX st t):Iu X st t:=fun pins s σ H D I hw =>
 wpAny_mono (h pins s σ H D (I.sy _) hw) (fun _ _ q=>q.jI) fun _ _ z=>False.elim z
end
section
variable {X:Cx} {st:Stmt} {rest:List Stmt} {t u:TS} {e:Expr} {te:TE} {pos:Pos}
def S4:TS:=fun D σ H=>D.nx σ H
def Nw (t u:TS):TS:=fun D σ H=>t { D with nx:=u D } σ H
theorem af:Iu X [] S4:=fun _ _ σ H _ I h=>wpAny_execs_nil ⟨σ,H,I,h⟩
theorem aC (h1:PS X st t) (h2:Iu X rest u):Iu X (st :: rest) (Nw t u):=by
 intro pins s σ H D I h
 refine wpAny_execs_cons (bu (h1 pins s σ H { D with nx:=u D } I h) fun f s1 q=>?_)
 cases f with
 | next =>
  obtain ⟨σ',H',I',q⟩:=q
  exact h2 pins s1 σ' H' D I' q
 | ret v=>exact q
 | brk=>exact q
 | cont=>exact q
theorem aG (h1:PS X st t):Iu X [st] t:=by
 intro pins s σ H D I h
 refine wpAny_execs_cons (bu (h1 pins s σ H D I h) fun f s1 q=>?_)
 cases f with
 | next=>exact wpAny_execs_nil q
 | ret v=>exact q
 | brk=>exact q
 | cont=>exact q
theorem Inv.quiet {pins:List (Addr × Obj)} {σ:St} {H:Hp} {s:Shared} (I:Inv X pins σ H s):interactive X.env=false:=by simp [interactive,I.ok.kind]
def Nx (te:TE):TS:=fun D σ H=>te σ H fun _ H1=>D.nx σ H1
theorem ax (he:PE X e te) (hs:swapsWith e none pos.line X.env=pure false:=by rfl):PS X (.Expr e pos) (Nx te):=by
 intro pins s σ H D I h
 exact wpAny_Expr_any (bu (he pins s σ H _ I h) fun v s1 ⟨x,H1,I1,r1,q1⟩=>⟨σ,H1,I1,q1⟩) I.quiet hs
def Wx (te:TE):TS:=fun D σ H=>te σ H D.rt
theorem aV (he:PE X e te):PS X (.Return (some e) pos) (Wx te):=by
 intro pins s σ H D I h
 exact wpAny_Return_some (bu (he pins s σ H _ I h) fun v s1 ⟨x,H1,I1,r1,q1⟩=>⟨x,σ,H1,I1,r1,q1⟩)
def Wy:TS:=fun D _ H=>D.rt .bJ H
theorem Qd:PS X (.Return none pos) Wy:=fun _ _ σ H _ I h=>wpAny_Return_none ⟨.bJ,σ,H,I,rfl,h⟩
def Wz (c:TT) (t u:TS):TS:=fun D σ H=>c σ H fun b H1=>if b=true then t D σ H1 else u D σ H1
theorem bD {c:Expr} {a b:List Stmt} {tc:TT} (hc:PT X c tc) (ha:Iu X a t) (hb:Iu X b u):PS X (.If c a b pos) (Wz tc t u):=by
 intro pins s σ H D I h
 refine wpAny_If (bu (hc pins s σ H _ I h) fun d s1 ⟨H1,I1,q1⟩=>?_)
 cases d with
 | true=>exact ha pins s1 σ H1 D I1 q1
 | false=>exact hb pins s1 σ H1 D I1 q1
end
abbrev TG:=V→St→Hp→(St→Hp→Prop)→Prop
abbrev T7:=List V→St→Hp→(St→Hp→Prop)→Prop
def PG (X:Cx) (target:Expr) (t:TG):Prop :=
 ∀ (pins:List (Addr × Obj)) (s:Shared) (σ:St) (H:Hp) (v:V) (u:Value) (Q:St→Hp→Prop),Inv X pins σ H s→RelV v u→t v σ H Q →
  wpAny (model X.prog X.w) X.A (assign target X.env u) (fun _ s'=>∃ σ' H',Inv X pins σ' H' s'∧Q σ' H') X.xe s
def Zi (X:Cx) (ts:List Expr) (t:T7):Prop :=
 ∀ (pins:List (Addr × Obj)) (s:Shared) (σ:St) (H:Hp) (vs:List V) (us:List Value) (Q:St→Hp→Prop),Inv X pins σ H s→au vs us→t vs σ H Q →
  wpAny (model X.prog X.w) X.A (assignInOrder ((assignEach ts X.env).map (·.2)) us) (fun _ s'=>∃ σ' H',Inv X pins σ' H' s'∧Q σ' H') X.xe s
abbrev T8:=V→V→V→Hp→(Hp→Prop)→Prop
def W0 (X:Cx) (t:T8):Prop :=
 ∀ (pins:List (Addr × Obj)) (s:Shared) (σ:St) (H:Hp) (o i v:V) (ov iv u:Value) (Q:Hp→Prop),Inv X pins σ H s→RelV o ov→RelV i iv→RelV v u→t o i v H Q →
  wpAny (model X.prog X.w) X.A (setItem ov iv u) (fun _ s'=>∃ H',Inv X pins σ H' s'∧Q H') X.xe s
abbrev TIp:=V→V→Hp→VK→Prop
def PIp (X:Cx) (op:Operator) (t:TIp):Prop :=
 ∀ (pins:List (Addr × Obj)) (s:Shared) (σ:St) (H:Hp) (x y:V) (v u:Value) (Q:VK),Inv X pins σ H s→RelV x v→RelV y u→t x y H Q →
  wpAny (model X.prog X.w) X.A (inplaceOp op v u) (EP X pins σ Q) X.xe s
section
variable {X:Cx} {pos:Pos}
def jJ (i:Nat):TG:=fun v σ H Q=>Q (σ.set i (some v)) H
theorem az {i:Nat} {x:Str} (hN:X.N.Nodup) (hi:X.N[i]?=some x) (hx:Loc X.env.scope x) (hf:X.fn x=true∨X.env.scope.names.lookup x=some .local:=by first | exact .inl rfl | exact .inr rfl | assumption):PG X (.Name x pos) (jJ i):=by
 intro pins s σ H v u Q I r h
 exact wpAny_assign_Name (GZ I hN hi hx r (fun s' I'=>⟨_,H,I',h⟩) hf)
def Ny:T7:=fun vs σ H Q=>vs=[]∧Q σ H
def rQ (t:TG) (u:T7):T7:=fun vs σ H Q=>∃ v r,vs=v :: r∧t v σ H fun σ' H'=>u r σ' H' Q
theorem Qe:Zi X [] Ny:=by
 intro pins s σ H vs us Q I r h
 obtain ⟨e,h⟩:=h
 subst e
 cases r
 exact assignInOrder_nil ⟨σ,H,I,h⟩
theorem Gb {e:Expr} {es:List Expr} {t:TG} {u:T7} (h1:PG X e t) (h2:Zi X es u)
  (hs:(assignEach (e :: es) X.env).map (·.2)=assign e X.env :: (assignEach es X.env).map (·.2):=by rfl):Zi X (e :: es) (rQ t u):=by
 intro pins s σ H vs us Q I r h
 obtain ⟨v,vr,e1,h⟩:=h
 subst e1
 cases r with
 | cons r rr =>
  rw [hs]
  refine assignInOrder_cons (bu (h1 pins s σ H _ _ _ I r h) fun _ s1 ⟨σ1,H1,I1,q1⟩=>?_)
  exact h2 pins s1 σ1 H1 _ _ Q I1 rr q1
def Nz (K:PySem.W.Frag) (n:Nat) (t:T7):TG:=fun v σ H Q=>∃ a xs,v=.ref a∧bw K H a xs∧xs.length=n∧t xs σ H Q
theorem T9 {es:List Expr} {k:Nat} {t:T7} {n:Nat} (hc:X.calm=true) (h:Zi X es t)
  (hn:(assignEach es X.env).length=n:=by rfl) (sj:(assignEach es X.env).findIdx? (·.1)=none:=by rfl):PG X (.Tuple es k pos) (Nz X.K n t):=by
 intro pins s σ H v u Q I r hw
 obtain ⟨a,xs,e1,hq,hl,hw⟩:=hw
 subst e1
 cases r
 obtain ⟨ai,rv,ht,hz⟩:=I.tuple hq
 refine assign_Tuple_tuple (I.ok.hd hc) ht (by simp [hn,← hl,rv.length]) sj fun h' hx=>?_
 have I1:Inv X pins σ H { s with heap:=h' }:=I.kept (t':=s.toks) fun b o e=>hx b o (Nat.ne_of_lt (Heap.lt_size e)) e
 exact h pins _ σ H xs _ Q I1 (by simpa using rv) hw
def aA2 (to ti:TE) (t:T8):TG:=fun v σ H Q=>to σ H fun o H1=>ti σ H1 fun i H2=>t o i v H2 fun H3=>Q σ H3
theorem nX {o i:Expr} {to ti:TE} {t:T8} (ho:PE X o to) (hi:PE X i ti) (hs:W0 X t)
  (ha:∀ v,assign (.Subscript o i pos) X.env v=(do
   let ov ← holding [v] (eval o X.env)
   let iv ← holding [v,ov] (eval i X.env)
   standAt pos
   holding [v,ov,iv] (setItem ov iv v)
   release [v,ov,iv] []):=by intro _;rfl):PG X (.Subscript o i pos) (aA2 to ti t):=by
 intro pins s σ H v u Q I r h
 rw [ha]
 refine wpAny_bind (wpAny_holding (bu (ho pins s σ H _ I h) fun ov s1 ⟨x,H1,I1,r1,q1⟩=>?_))
 refine wpAny_bind (wpAny_holding (bu (hi pins s1 σ H1 _ I1 q1) fun iv s2 ⟨y,H2,I2,r2,q2⟩=>?_))
 refine wpAny_bind (wpAny_standAt (wpAny_bind (wpAny_holding (bu (hs pins s2 σ H2 x y v ov iv u _ I2 r1 r2 r q2) fun _ s3 ⟨H3,I3,q3⟩=>?_))))
 exact wpAny_release ⟨σ,H3,I3,q3⟩
def UA (te:TE) (g:TG):TS:=fun D σ H=>te σ H fun x H1=>g x σ H1 D.nx
theorem nY {tg e:Expr} {te:TE} {g:TG} (he:PE X e te) (hg:PG X tg g) (hs:swapsWithSole [tg] e pos.line X.env=pure false:=by rfl) (hw:swappedStores [tg] e X.env=pure none:=by rfl)
  (h1:(assignEach [tg] X.env).map (·.2)=[assign tg X.env]:=by rfl):PS X (.Assign [tg] e pos) (UA te g):=by
 intro pins s σ H D I h
 refine wpAny_Assign_stores (bu (he pins s σ H _ I h) fun v s1 ⟨x,H1,I1,r1,q1⟩=>?_) hs hw
 rw [h1]
 exact bu (hg pins s1 σ H1 x v _ I1 r1 q1) fun _ s2 q=>q
theorem aT {i:Nat} {x:Str} {e:Expr} {te:TE} {pos':Pos} (hN:X.N.Nodup) (hi:X.N[i]?=some x) (hx:Loc X.env.scope x) (he:PE X e te) (hs:swapsWith e (some (.Name x pos')) pos.line X.env=pure false:=by rfl) (hf:X.fn x=true∨X.env.scope.names.lookup x=some .local:=by first | exact .inl rfl | exact .inr rfl | assumption) :
  PS X (.Assign [.Name x pos'] e pos) (UA te (jJ i)):=by
 intro pins s σ H D I h
 refine wpAny_Assign_Name (bu (he pins s σ H _ I h) fun v s1 ⟨y,H1,I1,r1,q1⟩=>?_) hs
 exact GZ I1 hN hi hx r1 (fun s2 I2=>⟨_,H1,I2,q1⟩) hf
def ipI (f:Int→Int→Int):TIp:=fun x y H Q=>∃ i j,x=.int i∧y=.int j∧Q (.int (f i j)) H
theorem N0:PIp X .Add (ipI fun i j=>i+j):=by
 intro pins s σ H x y v u Q I r1 r2 h
 obtain ⟨i,j,e1,e2,q⟩:=h
 subst e1;subst e2
 obtain ⟨t,rfl⟩:=r1
 obtain ⟨t',rfl⟩:=r2
 exact iadd_int ⟨.int _,H,I.tok _,⟨_,rfl⟩,q⟩
end
section
variable {X:Cx} {pos:Pos}
def N1 (c:TT) (tb:TS):TS:=fun D σ H=>∃ W:Nat→St→Hp→Prop,(∃ m,W m σ H)∧∀ m σ H,W m σ H →
 c σ H fun b H1=>if b=true then ∃ N:St→Hp→Prop,(∀ σ' H',N σ' H'→∃ m',m' < m∧W m' σ' H')∧tb { D with nx:=N,ct:=N,bk:=D.nx } σ H1 else D.nx σ H1
theorem Gc {c:Expr} {body:List Stmt} {tc:TT} {tb:TS} (hp:PassesOwn (model X.prog X.w) X.A X.env X.xe) (hc:PT X c tc) (hb:Iu X body tb):PS X (.While c body [] pos) (N1 tc tb):=by
 intro pins s σ H D I h
 obtain ⟨W,⟨m0,w0⟩,turn⟩:=h
 refine wpAny_While (codeAny_whileLoop (fun n s'=>∃ σ' H',Inv X pins σ' H' s'∧W n σ' H') ?_ m0 ⟨σ,H,I,w0⟩)
 rintro n s1 ⟨σ1,H1,I1,w1⟩
 refine wpAny_passesOwn hp (bu (hc pins s1 σ1 H1 _ I1 (turn n σ1 H1 w1)) fun b s2 ⟨H2,I2,q2⟩=>?_)
 cases b with
 | true =>
  obtain ⟨N,hN,q2⟩:=q2
  rw [if_pos rfl]
  refine wpAny_passesOwn hp (bu (hb pins s2 σ1 H2 _ I2 q2) fun f s3 q3=>?_)
  cases f with
  | next =>
   obtain ⟨σ3,H3,I3,n3⟩:=q3
   obtain ⟨m',hm,w3⟩:=hN σ3 H3 n3
   exact ⟨m',hm,σ3,H3,I3,w3⟩
  | cont =>
   obtain ⟨σ3,H3,I3,n3⟩:=q3
   obtain ⟨m',hm,w3⟩:=hN σ3 H3 n3
   exact ⟨m',hm,σ3,H3,I3,w3⟩
  | brk=>exact q3
  | ret v=>exact q3
 | false =>
  rw [if_neg Bool.false_ne_true]
  exact wpAny_execs_nil ⟨σ1,H2,I2,q2⟩
end
structure It where
 go:Nat→Hp→Prop
 N3:Nat→Hp→V→Hp→Prop
 stop:Nat→Hp→Prop
def tD (X:Cx) (pins:List (Addr × Obj)) (H:Hp) (b:Addr):Prop :=
 H b=none∧b≠X.env.locals∧b ∉ X.fs∧(b ∈ X.ex∨X.s₀.heap.objs.size≤b)∧(∀ x c,X.env.cells.lookup x=some c→c≠b)∧∀ p ∈ X.pn ++ pins,p.1≠b
theorem Inv.zZ {X:Cx} {pins:List (Addr × Obj)} {σ:St} {H H':Hp} {s:Shared} {b:Addr} (I:Inv X pins σ H s) (hb:s.heap.objs.size≤b) (hn:H' b=none):tD X pins H' b:=by
 refine ⟨hn,Nat.ne_of_gt (Nat.lt_of_lt_of_le I.lt hb),I.aAv hb,.inr (Nat.le_trans I.sz hb),fun x c e z=>?_,fun p hp z=>?_⟩
 ·obtain ⟨v,q⟩:=I.cell x c e
  exact absurd (Nat.lt_of_lt_of_le q.lt (by rw [z];exact hb)) (Nat.lt_irrefl _)
 ·exact absurd (Nat.lt_of_lt_of_le (Heap.lt_size (I.pin p hp).1) (by rw [z];exact hb)) (Nat.lt_irrefl _)
structure Turn (P:Program) (w:World) (K:PySem.W.Frag) (tg:Expr) (J:It) (fp:List Addr) (it:Addr) (tn:Nat→Heap→Prop):Prop where
 mem:it ∈ fp
 obj:∀ i h,tn i h→∀ b ∈ fp,∃ o,h.get? b=some o∧∀ v,o.data≠.cell v
 keep:∀ i h h',tn i h→(∀ b ∈ fp,∀ o,h.get? b=some o→h'.get? b=some o)→tn i h'
 item:∀ (X:Cx),X.prog=P→X.w=w→X.K=K→X.calm=true→∀ (i:Nat) (pins:List (Addr × Obj)) (s:Shared) (σ:St) (H:Hp) (E:Value→Shared→Prop),Inv X pins σ H s→(∀ b ∈ fp,tD X pins H b)→tn i s.heap→J.go i H →
  wpAny (model P w) X.A (pyNext (.ref it)) (fun r s1=>∃ u,r=some u ∧
   wpAny (model P w) X.A (letOwnedTupleGo tg (.ref it) u) (fun _ s2=>∃ x H',Inv X pins σ H' s2∧RelV x u∧J.N3 i H x H'∧tn (i+1) s2.heap∧∀ b ∈ fp,H' b=none) E s1) E s
 done:∀ (X:Cx),X.prog=P→X.w=w→X.K=K→X.calm=true→∀ (i:Nat) (pins:List (Addr × Obj)) (s:Shared) (σ:St) (H:Hp) (E:Value→Shared→Prop),Inv X pins σ H s→(∀ b ∈ fp,tD X pins H b)→tn i s.heap→J.stop i H →
  wpAny (model P w) X.A (pyNext (.ref it)) (fun r s1=>r=none∧Inv X pins σ H s1) E s
 self:∀ (A:Around) (i:Nat) (s:Shared) (Q:Value→Shared→Prop) (E:Value→Shared→Prop),tn i s.heap→Q (.ref it) s→wpAny (model P w) A (pyIter (.ref it)) Q E s
abbrev TI:=St→Hp→(It→Hp→Prop)→Prop
def PIE (X:Cx) (pins:List (Addr × Obj)) (σ:St) (tg:Expr) (R:It→Hp→Prop) (Zj:Value) (s2:Shared):Prop :=
 ∃ (it:Addr) (fp:List Addr) (tn:Nat→Heap→Prop) (J:It) (H':Hp),Zj=.ref it∧Inv X pins σ H' s2∧Turn X.prog X.w X.K tg J fp it tn∧tn 0 s2.heap∧(∀ b ∈ fp,tD X pins H' b)∧R J H'
def PI (X:Cx) (tg iter:Expr) (wi:TI):Prop :=
 ∀ (pins:List (Addr × Obj)) (s:Shared) (σ:St) (H:Hp) (R:It→Hp→Prop),Inv X pins σ H s→wi σ H R →
  wpAny (model X.prog X.w) X.A (eval iter X.env) (fun v s1=>wpAny (model X.prog X.w) X.A (pyIter v) (PIE X pins σ tg R) X.xe s1) X.xe s
theorem Gd {M:Model} {A:Around} {E:Value→Shared→Prop} {s:Shared} {tg:Expr} {it:Addr} {u:Value} {o:Obj} {n:String} {vs:Array Value} {Q:Unit→Shared→Prop} (ho:s.heap.get? it=some o) (hc:o.cls=.type n) (hd:o.data=.fields vs)
  (hn:["enumerate","zip","dict_itemiterator","dict_reverseitemiterator","odict_iterator","itertools.zip_longest","itertools.pairwise"].contains n=false) (hQ:Q () s):wpAny M A (letOwnedTupleGo tg (.ref it) u) Q E s:=by
 unfold letOwnedTupleGo
 cases tg <;> first
  | exact wpAny_pure hQ
  | (cases u <;> first
    | exact wpAny_pure hQ
    | (refine wpAny_bind (wpAny_load ho ?_)
       rw [hc,hd]
       show wpAny M A (if (["enumerate","zip","dict_itemiterator","dict_reverseitemiterator","odict_iterator","itertools.zip_longest","itertools.pairwise"].contains n && vs[0]? == some (rawInt _))=true then _ else _) Q E s
       rw [if_neg (by intro h;rw [hn,Bool.false_and] at h;cases h)]
       exact wpAny_pure hQ))
def UB (K:PySem.W.Frag) (a:Addr):It :=
 ⟨fun i H=>∃ xs x,aX K H a xs∧xs[i]?=some x,fun i H x H'=>H'=H∧∀ xs,aX K H a xs→xs[i]?=some x,fun i H=>∃ xs,aX K H a xs∧xs.length≤i⟩
def W1 (K:PySem.W.Frag) (a:Addr):It :=
 ⟨fun i H=>∃ xs x,bw K H a xs∧xs[i]?=some x,fun i H x H'=>H'=H∧∀ xs,bw K H a xs→xs[i]?=some x,fun i H=>∃ xs,bw K H a xs∧xs.length≤i⟩
def Qf (lo:Int) (n:Nat):It:=⟨fun i _=>i < n,fun i H x H'=>H'=H∧x=.int (lo+i),fun i _=>n≤i⟩
theorem L6 {P:Program} {w:World} {K:PySem.W.Frag} {tg:Expr} (a it:Addr):Turn P w K tg (UB K a) [it] it (fun i h=>h.IsListIter it a i) where
 mem:=by simp
 obj:=fun i h st b hb=>by
  have e:b=it:=by simpa using hb
  subst e
  obtain ⟨o,e,c,d⟩:=st
  exact ⟨o,e,fun v z=>by rw [d] at z;cases z⟩
 keep:=fun i h h' st k=>st.at fun o e=>k it (by simp) o e
 item:=by
  intro X hP hw hK hc i pins s σ H E I hf st hg
  subst hP hw hK
  obtain ⟨xs,x,hq,hx⟩:=hg
  obtain ⟨ai,rv,p,hz⟩:=I.list hq
  obtain ⟨u,hu,ru⟩:=rv.get hx
  obtain ⟨f0,f1,f2,f3,f4,f5⟩:=hf it (by simp)
  refine wpAny_pyNext_list_item st p.isList (x:=u) (by simpa using hu) fun h' xf sb=>?_
  have I1:Inv X pins σ H { s with heap:=h' }:=I.turned (t':=s.toks) (fun b o hb e=>(sb.2 b hb).trans e) f0 f1 f3 f4 f5
  obtain ⟨o,e,c,d⟩:=id xf
  exact ⟨u,rfl,Gd (s:={ s with heap:=h' }) e c d (by decide) ⟨x,H,I1,ru,⟨rfl,fun ys hy=>by rw [I.rP hy hq];exact hx⟩,xf,fun b hb=>(hf b hb).1⟩⟩
 done:=by
  intro X hP hw hK hc i pins s σ H E I hf st hg
  subst hP hw hK
  obtain ⟨xs,hq,hx⟩:=hg
  obtain ⟨ai,rv,p,hz⟩:=I.list hq
  obtain ⟨f0,f1,f2,f3,f4,f5⟩:=hf it (by simp)
  have hl:=rv.length
  exact wpAny_pyNext_list_end (I.ok.hd hc) st p.isList (by simp;omega) fun h' eb=>⟨rfl,I.turned (t':=s.toks) (fun b o hb e=>eb b o hb e) f0 f1 f3 f4 f5⟩
 self:=fun _ _ _ _ _ st h=>wpAny_pyIter_listiter st h
theorem JB {P:Program} {w:World} {K:PySem.W.Frag} {tg:Expr} (a it:Addr):Turn P w K tg (W1 K a) [it] it (fun i h=>h.IsTupleIter it a i) where
 mem:=by simp
 obj:=fun i h st b hb=>by
  have e:b=it:=by simpa using hb
  subst e
  obtain ⟨o,e,c,d⟩:=st
  exact ⟨o,e,fun v z=>by rw [d] at z;cases z⟩
 keep:=fun i h h' st k=>st.at fun o e=>k it (by simp) o e
 item:=by
  intro X hP hw hK hc i pins s σ H E I hf st hg
  subst hP hw hK
  obtain ⟨xs,x,hq,hx⟩:=hg
  obtain ⟨ai,rv,p,hz⟩:=I.tuple hq
  obtain ⟨u,hu,ru⟩:=rv.get hx
  obtain ⟨f0,f1,f2,f3,f4,f5⟩:=hf it (by simp)
  refine wpAny_pyNext_tuple_item st (show s.heap.IsTuple a ai.toArray from p) (x:=u) (by simpa using hu) fun h' xf sb=>?_
  have I1:Inv X pins σ H { s with heap:=h' }:=I.turned (t':=s.toks) (fun b o hb e=>(sb.2 b hb).trans e) f0 f1 f3 f4 f5
  obtain ⟨o,e,c,d⟩:=id xf
  exact ⟨u,rfl,Gd (s:={ s with heap:=h' }) e c d (by decide) ⟨x,H,I1,ru,⟨rfl,fun ys hy=>by rw [I.ym hy hq];exact hx⟩,xf,fun b hb=>(hf b hb).1⟩⟩
 done:=by
  intro X hP hw hK hc i pins s σ H E I hf st hg
  subst hP hw hK
  obtain ⟨xs,hq,hx⟩:=hg
  obtain ⟨ai,rv,p,hz⟩:=I.tuple hq
  obtain ⟨f0,f1,f2,f3,f4,f5⟩:=hf it (by simp)
  have hl:=rv.length
  exact wpAny_pyNext_tuple_end (I.ok.hd hc) st (show s.heap.IsTuple a ai.toArray from p) (by simp;omega) fun h' eb=>⟨rfl,I.turned (t':=s.toks) (fun b o hb e=>eb b o hb e) f0 f1 f3 f4 f5⟩
 self:=fun _ _ _ _ _ st h=>wpAny_pyIter_tupleiter st h
theorem JC {P:Program} {w:World} {K:PySem.W.Frag} {tg:Expr} (it:Addr) (lo:Int) (n:Nat):Turn P w K tg (Qf lo n) [it] it (fun i h=>IsRangeIter h it (lo+(i:Nat) * 1) ((n:Int) - (i:Nat)) 1) where
 mem:=by simp
 obj:=fun i h st b hb=>by
  have e:b=it:=by simpa using hb
  subst e
  exact ⟨_,st,fun v z=>by
   have z':Data.fields _=Data.cell v:=z
   cases z'⟩
 keep:=fun i h h' st k=>k it (by simp) _ st
 item:=by
  intro X hP hw hK hc i pins s σ H E I hf st hg
  subst hP hw hK
  obtain ⟨f0,f1,f2,f3,f4,f5⟩:=hf it (by simp)
  have W:=Walks.range (prog:=X.prog) (w:=X.w) (I.ok.hd hc) it lo 1 n
  refine W.item i s _ _ hg st fun v h' tk hv xf kk=>?_
  obtain ⟨t,rfl⟩:=hv
  have I1:Inv X pins σ H { s with heap:=h',toks:=tk }:=I.turned (fun b o hb e=>kk b o (by simpa using hb) e) f0 f1 f3 f4 f5
  refine ⟨_,rfl,Gd (s:={ s with heap:=h',toks:=tk }) (n:="range_iterator") xf rfl rfl (by decide) ⟨.int (lo+i),H,I1,⟨t,?_⟩,⟨rfl,rfl⟩,xf,fun b hb=>(hf b hb).1⟩⟩
  rw [Int.mul_one]
 done:=by
  intro X hP hw hK hc i pins s σ H E I hf st hg
  subst hP hw hK
  obtain ⟨f0,f1,f2,f3,f4,f5⟩:=hf it (by simp)
  exact wpAny_pyNext_range_end (I.ok.hd hc) st (by have:n≤i:=hg;omega) fun h' eb=>⟨rfl,I.turned (t':=s.toks) (fun b o hb e=>eb b o hb e) f0 f1 f3 f4 f5⟩
 self:=fun _ _ _ _ _ st h=>wpAny_pyIter_rangeiter st h
end L2
namespace L2
open PySem PySem.Spec PyProof.Rows
section
variable {X:Cx} {tg:Expr}
def S5 (K:PySem.W.Frag) (tl:TE):TI:=fun σ H R=>tl σ H fun x H1=>∃ a,x=.ref a∧(∃ xs,aX K H1 a xs)∧R (UB K a) H1
def W2 (K:PySem.W.Frag) (tl:TE):TI:=fun σ H R=>tl σ H fun x H1=>∃ a,x=.ref a∧(∃ xs,bw K H1 a xs)∧R (W1 K a) H1
theorem Ku {l:Expr} {tl:TE} (hl:PE X l tl):PI X tg l (S5 X.K tl):=by
 intro pins s σ H R I h
 refine bu (hl pins s σ H _ I h) fun v s1 ⟨x,H1,I1,r1,q1⟩=>?_
 obtain ⟨a,e,⟨xs,hq⟩,q⟩:=q1
 subst e
 cases r1
 obtain ⟨ai,rv,p,hz⟩:=I1.list hq
 refine wpAny_pyIter_list p.isList ?_
 refine ⟨s1.heap.objs.size,[s1.heap.objs.size],_,_,H1,rfl,I1.kept (t':=s1.toks) fun b o e=>Heap.get?_push_of_some _ e,L6 a _,⟨_,Heap.get?_push_size _ rfl,rfl,rfl⟩,fun b hb=>?_,q⟩
 have e:b=s1.heap.objs.size:=by simpa using hb
 subst e
 exact I1.zZ (Nat.le_refl _) (I1.bz.fresh (Nat.le_refl _))
theorem UC {l:Expr} {tl:TE} (hl:PE X l tl):PI X tg l (W2 X.K tl):=by
 intro pins s σ H R I h
 refine bu (hl pins s σ H _ I h) fun v s1 ⟨x,H1,I1,r1,q1⟩=>?_
 obtain ⟨a,e,⟨xs,hq⟩,q⟩:=q1
 subst e
 cases r1
 obtain ⟨ai,rv,p,hz⟩:=I1.tuple hq
 refine wpAny_pyIter_tuple (show s1.heap.IsTuple a ai.toArray from p) ?_
 refine ⟨s1.heap.objs.size,[s1.heap.objs.size],_,_,H1,rfl,I1.kept (t':=s1.toks) fun b o e=>Heap.get?_push_of_some _ e,JB a _,⟨_,Heap.get?_push_size _ rfl,rfl,rfl⟩,fun b hb=>?_,q⟩
 have e:b=s1.heap.objs.size:=by simpa using hb
 subst e
 exact I1.zZ (Nat.le_refl _) (I1.bz.fresh (Nat.le_refl _))
theorem Ge {pins:List (Addr × Obj)} {σ:St} {H:Hp} {s:Shared} {R:It→Hp→Prop} {E:Value→Shared→Prop} {lo hi:Int} {t u v:Tok} {tk:Nat} (I:Inv X pins σ H s) (h1:-(2 ^ 62)≤lo) (h2:lo < 2 ^ 62) (h3:-(2 ^ 62)≤hi) (h4:hi < 2 ^ 62)
  (q:R (Qf lo (hi - lo).toNat) H):wpAny (model X.prog X.w) X.A (pyIter (.ref s.heap.objs.size)) (PIE X pins σ tg R) E { s with heap:=s.heap.push { cls:=.type "range",data:=.fields #[.int lo t,.int hi u,.int 1 v] },toks:=tk }:=by
 refine wpAny_pyIter_range (IsRange.new ..) (small_one h1 h2 h3 h4) ?_
 have I1:Inv X pins σ H { s with heap:=s.heap.push { cls:=.type "range",data:=.fields #[.int lo t,.int hi u,.int 1 v] },toks:=tk }:=I.kept fun b o e=>Heap.get?_push_of_some _ e
 refine ⟨(s.heap.push { cls:=.type "range",data:=.fields #[.int lo t,.int hi u,.int 1 v] }).objs.size,[(s.heap.push { cls:=.type "range",data:=.fields #[.int lo t,.int hi u,.int 1 v] }).objs.size],_,_,H,rfl,
  I1.kept (t':=tk) fun b o e=>Heap.get?_push_of_some _ e,JC _ lo (hi - lo).toNat,?_,fun b hb=>?_,q⟩
 ·have e1:lo+((0:Nat):Int) * 1=lo:=by simp
  have e2:(((hi - lo).toNat:Nat):Int) - ((0:Nat):Int)=Builtin.Range.rangeSize lo hi 1:=by rw [rangeSize_one];split <;> omega
  show IsRangeIter _ _ (lo+((0:Nat):Int) * 1) ((((hi - lo).toNat:Nat):Int) - ((0:Nat):Int)) 1
  rw [e1,e2]
  exact Heap.get?_push_size _ rfl
 ·have e:b=(s.heap.push { cls:=.type "range",data:=.fields #[.int lo t,.int hi u,.int 1 v] }).objs.size:=by simpa using hb
  subst e
  exact I1.zZ (Nat.le_refl _) (I1.bz.fresh (Nat.le_refl _))
def W3 (ta:TA):TI:=fun σ H R=>ta σ H fun vs H1=>∃ j:Int,vs=[.int j]∧-(2 ^ 62)≤j∧j < 2 ^ 62∧R (Qf 0 j.toNat) H1
def W4 (ta:TA):TI:=fun σ H R=>ta σ H fun vs H1=>∃ i j:Int,vs=[.int i,.int j]∧(-(2 ^ 62)≤i∧i < 2 ^ 62∧-(2 ^ 62)≤j∧j < 2 ^ 62)∧R (Qf i (j - i).toNat) H1
theorem cw {a:Expr} {ta:TA} {p pos:Pos} (hg:Gl X "range") (hm:X.mg "range"=none) (ha:PA X [a] ta) (hs:starEach [a] X.env=[(false,eval a X.env)]:=by rfl):PI X tg (.Call (.Name "range" p) [a] [] pos) (W3 ta):=by
 intro pins s σ H R I h
 refine Call_ (lz I hg hm boot_range (PyProof.Rows.callWith_type1 (bu (ha pos pins s σ H _ I h) fun us s1 ⟨vs,H1,I1,r1,q1⟩=>?_) hs rfl))
 obtain ⟨j,e,q1,q2,q⟩:=q1
 subst e
 cases r1 with
 | cons r rr =>
  cases rr
  obtain ⟨t,rfl⟩:=r
  exact call_range_1 (Ge I1 (by omega) (by omega) q1 q2 (by simpa using q))
theorem tE {a b:Expr} {ta:TA} {p pos:Pos} (hg:Gl X "range") (hm:X.mg "range"=none) (ha:PA X [a,b] ta) (hs:starEach [a,b] X.env=[(false,eval a X.env),(false,eval b X.env)]:=by rfl) (L7:starEach [b] X.env=[(false,eval b X.env)]:=by rfl) :
  PI X tg (.Call (.Name "range" p) [a,b] [] pos) (W4 ta):=by
 intro pins s σ H R I h
 refine Call_ (lz I hg hm boot_range (PyProof.Rows.callWith_type1 (bu (ha pos pins s σ H _ I h) fun us s1 ⟨vs,H1,I1,r1,q1⟩=>?_) (by rw [hs,L7]) (by rw [L7];rfl)))
 obtain ⟨i,j,e,⟨q1,q2,q3,q4⟩,q⟩:=q1
 subst e
 cases r1 with
 | cons r rr =>
  cases rr with
  | cons r' rr =>
   cases rr
   obtain ⟨t,rfl⟩:=r
   obtain ⟨t',rfl⟩:=r'
   exact call_range_2 (Ge I1 q1 q2 q3 q4 q)
def aA3 (wi:TI) (g:TG) (tb:TS):TS:=fun D σ H=>wi σ H fun J H1=>∃ W:Nat→Nat→St→Hp→Prop,(∃ m,W 0 m σ H1)∧∀ i m σ H,W i m σ H →
 (J.stop i H∧D.nx σ H)∨(J.go i H∧∃ N:St→Hp→Prop,(∀ σ' H',N σ' H'→∃ m',m' < m∧W (i+1) m' σ' H')∧∀ x H',J.N3 i H x H'→g x σ H' fun σ2 H2=>tb { D with nx:=N,ct:=N,bk:=D.nx } σ2 H2)
def vZ (fp:List Addr) (h:Heap):List (Addr × Obj):=fp.filterMap fun b=>(h.get? b).map fun o=>(b,o)
theorem l3 {fp:List Addr} {h:Heap} {b:Addr} {o:Obj} (hb:b ∈ fp) (e:h.get? b=some o):(b,o) ∈ vZ fp h:=List.mem_filterMap.mpr ⟨b,hb,by rw [e];rfl⟩
theorem L8 {fp:List Addr} {h:Heap} {p:Addr × Obj} (hp:p ∈ vZ fp h):p.1 ∈ fp∧h.get? p.1=some p.2:=by
 obtain ⟨b,hb,e⟩:=List.mem_filterMap.mp hp
 cases q:h.get? b with
 | none=>rw [q] at e;cases e
 | some o =>
  rw [q] at e
  have e':(b,o)=p:=Option.some.inj e
  subst e'
  exact ⟨hb,q⟩
theorem Inv.pinned {pins:List (Addr × Obj)} {σ:St} {H:Hp} {s:Shared} {fp:List Addr} (I:Inv X pins σ H s) (hf:∀ b ∈ fp,tD X pins H b) (ho:∀ b ∈ fp,∃ o,s.heap.get? b=some o∧∀ v,o.data≠.cell v):Inv X (pins ++ vZ fp s.heap) σ H s :=
 I.Kr fun p hp=>(List.mem_append.mp hp).elim (fun z=>I.pin p (List.mem_append_right _ z)) fun z=>by
  obtain ⟨hb,e⟩:=L8 z
  obtain ⟨f0,f1,f2,_⟩:=hf p.1 hb
  obtain ⟨o,e',d⟩:=ho p.1 hb
  rw [e] at e';cases e'
  exact ⟨e,f0,f1,f2,d⟩
theorem Inv.nZ {pins pl:List (Addr × Obj)} {σ:St} {H:Hp} {s:Shared} (I:Inv X (pins ++ pl) σ H s):Inv X pins σ H s:=I.Kr fun p hp=>I.pin p (List.mem_append_right _ (List.mem_append_left _ hp))
theorem dD {iter:Expr} {body:List Stmt} {wi:TI} {g:TG} {tb:TS} {pos:Pos} (hp:PassesOwn (model X.prog X.w) X.A X.env X.xe) (hc:X.calm=true) (hi:PI X tg iter wi) (hg:PG X tg g) (hb:Iu X body tb)
  (hs:∀ x,foldedSetIterable iter X.env x=pure x:=by intro _;rfl):PS X (.For tg iter body [] pos) (aA3 wi g tb):=by
 intro pins s σ H D I h
 refine wpAny_For (bu (hi pins s σ H _ I h) fun v s1 h1=>bu h1 fun Zj s2 h2=>?_) hs
 obtain ⟨it,fp,tn,J,H2,e,I2,T,Dg,f2,W,⟨m0,w0⟩,turn⟩:=h2
 subst e
 have JD:∀ {H':Hp},(∀ b ∈ fp,H' b=none)→∀ b ∈ fp,tD X pins H' b:=fun hn b hb=>⟨hn b hb,(f2 b hb).2⟩
 refine codeAny_forLoop_any (fun n s'=>∃ i σ' H',Inv X pins σ' H' s'∧tn i s'.heap∧(∀ b ∈ fp,H' b=none)∧W i n σ' H') ?_ m0 ⟨0,σ,H2,I2,Dg,fun b hb=>(f2 b hb).1,w0⟩
 rintro n s3 ⟨i,σ3,H3,I3,Nm,fr3,w3⟩
 rcases turn i n σ3 H3 w3 with ⟨stop,qn⟩ | ⟨go,N,hN,step⟩
 ·refine wpAny_passesOwn hp (bu (T.done X rfl rfl rfl hc i pins s3 σ3 H3 X.xe I3 (JD fr3) Nm stop) fun r s4 ⟨hr,I4⟩=>?_)
  subst hr
  exact wpAny_execs_nil ⟨σ3,H3,I4,qn⟩
 ·refine wpAny_passesOwn hp (bu (T.item X rfl rfl rfl hc i pins s3 σ3 H3 X.xe I3 (JD fr3) Nm go) fun r s4 ⟨u,hr,h4⟩=>?_)
  subst hr
  refine wpAny_passesOwn hp (bu h4 fun _ s5 ⟨x,H5,I5,r5,y5,vb,UD⟩=>?_)
  have I5':=I5.pinned (JD UD) (T.obj _ _ vb)
  refine wpAny_passesOwn hp (bu (hg _ s5 σ3 H5 x u _ I5' r5 (step x H5 y5)) fun _ s6 ⟨σ6,H6,I6,q6⟩=>?_)
  refine wpAny_passesOwn hp (bu (hb _ s6 σ6 H6 _ I6 q6) fun f s7 q7=>?_)
  have again:∀ {σ7:St} {H7:Hp},Inv X (pins ++ vZ fp s5.heap) σ7 H7 s7→N σ7 H7→∃ m,m < n∧∃ i σ' H',Inv X pins σ' H' s7∧tn i s7.heap∧(∀ b ∈ fp,H' b=none)∧W i m σ' H':=fun {σ7 H7} I7 n7=>by
   obtain ⟨m',hm,w7⟩:=hN σ7 H7 n7
   refine ⟨m',hm,i+1,σ7,H7,I7.nZ,T.keep _ _ _ vb fun b hb o e=>(I7.pin (b,o) (List.mem_append_right _ (List.mem_append_right _ (l3 hb e)))).1,fun b hb=>?_,w7⟩
   obtain ⟨o,e,d⟩:=T.obj _ _ vb b hb
   exact (I7.pin (b,o) (List.mem_append_right _ (List.mem_append_right _ (l3 hb e)))).2.1
  cases f with
  | next=>obtain ⟨σ7,H7,I7,n7⟩:=q7;exact again I7 n7
  | cont=>obtain ⟨σ7,H7,I7,n7⟩:=q7;exact again I7 n7
  | brk=>obtain ⟨σ7,H7,I7,q7⟩:=q7;exact ⟨σ7,H7,I7.nZ,q7⟩
  | ret v=>obtain ⟨x7,σ7,H7,I7,r7,q7⟩:=q7;exact ⟨x7,σ7,H7,I7.nZ,r7,q7⟩
end
theorem lD {K:PySem.W.Frag} {a:Addr} {xs:List V} {g:TG} {tb:TS} {D:Ends} {σ:St} {H:Hp} (Pv:Nat→St→Hp→Prop) (h0:Pv 0 σ H) (hl:∀ i σ H,i≤xs.length→Pv i σ H→aX K H a xs)
  (hs:∀ i x σ H,xs[i]?=some x→Pv i σ H→g x σ H fun σ2 H2=>tb { D with nx:=Pv (i+1),ct:=Pv (i+1),bk:=D.nx } σ2 H2) (hd:∀ σ H,Pv xs.length σ H→D.nx σ H) :
  ∃ W:Nat→Nat→St→Hp→Prop,(∃ m,W 0 m σ H)∧∀ i m σ H,W i m σ H →
   ((UB K a).stop i H∧D.nx σ H)∨((UB K a).go i H∧∃ N:St→Hp→Prop,(∀ σ' H',N σ' H'→∃ m',m' < m∧W (i+1) m' σ' H')∧∀ x H',(UB K a).N3 i H x H'→g x σ H' fun σ2 H2=>tb { D with nx:=N,ct:=N,bk:=D.nx } σ2 H2):=by
 refine ⟨fun i m σ H=>m=xs.length - i∧i≤xs.length∧Pv i σ H,⟨xs.length,by simp,Nat.zero_le _,h0⟩,?_⟩
 rintro i m σ H ⟨rfl,hi,p⟩
 have q:=hl i σ H hi p
 by_cases fE:i < xs.length
 ·refine .inr ⟨⟨xs,xs[i],q,by simp [fE]⟩,Pv (i+1),fun σ' H' p'=>⟨xs.length - (i+1),by omega,rfl,fE,p'⟩,fun x H' y=>?_⟩
  obtain ⟨e,y⟩:=y
  subst e
  exact hs i x σ _ (y xs q) p
 ·have e:i=xs.length:=by omega
  subst e
  exact .inl ⟨⟨xs,q,Nat.le_refl _⟩,hd σ H p⟩
theorem Kv {K:PySem.W.Frag} {a:Addr} {xs:List V} {g:TG} {tb:TS} {D:Ends} {σ:St} {H:Hp} (Pv:Nat→St→Hp→Prop) (h0:Pv 0 σ H) (hl:∀ i σ H,i≤xs.length→Pv i σ H→bw K H a xs)
  (hs:∀ i x σ H,xs[i]?=some x→Pv i σ H→g x σ H fun σ2 H2=>tb { D with nx:=Pv (i+1),ct:=Pv (i+1),bk:=D.nx } σ2 H2) (hd:∀ σ H,Pv xs.length σ H→D.nx σ H) :
  ∃ W:Nat→Nat→St→Hp→Prop,(∃ m,W 0 m σ H)∧∀ i m σ H,W i m σ H →
   ((W1 K a).stop i H∧D.nx σ H)∨((W1 K a).go i H∧∃ N:St→Hp→Prop,(∀ σ' H',N σ' H'→∃ m',m' < m∧W (i+1) m' σ' H')∧∀ x H',(W1 K a).N3 i H x H'→g x σ H' fun σ2 H2=>tb { D with nx:=N,ct:=N,bk:=D.nx } σ2 H2):=by
 refine ⟨fun i m σ H=>m=xs.length - i∧i≤xs.length∧Pv i σ H,⟨xs.length,by simp,Nat.zero_le _,h0⟩,?_⟩
 rintro i m σ H ⟨rfl,hi,p⟩
 have q:=hl i σ H hi p
 by_cases fE:i < xs.length
 ·refine .inr ⟨⟨xs,xs[i],q,by simp [fE]⟩,Pv (i+1),fun σ' H' p'=>⟨xs.length - (i+1),by omega,rfl,fE,p'⟩,fun x H' y=>?_⟩
  obtain ⟨e,y⟩:=y
  subst e
  exact hs i x σ _ (y xs q) p
 ·have e:i=xs.length:=by omega
  subst e
  exact .inl ⟨⟨xs,q,Nat.le_refl _⟩,hd σ H p⟩
theorem fT {lo:Int} {n:Nat} {g:TG} {tb:TS} {D:Ends} {σ:St} {H:Hp} (Pv:Nat→St→Hp→Prop) (h0:Pv 0 σ H)
  (hs:∀ i σ H,i < n→Pv i σ H→g (.int (lo+i)) σ H fun σ2 H2=>tb { D with nx:=Pv (i+1),ct:=Pv (i+1),bk:=D.nx } σ2 H2) (hd:∀ σ H,Pv n σ H→D.nx σ H) :
  ∃ W:Nat→Nat→St→Hp→Prop,(∃ m,W 0 m σ H)∧∀ i m σ H,W i m σ H →
   ((Qf lo n).stop i H∧D.nx σ H)∨((Qf lo n).go i H∧∃ N:St→Hp→Prop,(∀ σ' H',N σ' H'→∃ m',m' < m∧W (i+1) m' σ' H')∧∀ x H',(Qf lo n).N3 i H x H'→g x σ H' fun σ2 H2=>tb { D with nx:=N,ct:=N,bk:=D.nx } σ2 H2):=by
 refine ⟨fun i m σ H=>m=n - i∧i≤n∧Pv i σ H,⟨n,by simp,Nat.zero_le _,h0⟩,?_⟩
 rintro i m σ H ⟨rfl,hi,p⟩
 by_cases fE:i < n
 ·refine .inr ⟨fE,Pv (i+1),fun σ' H' p'=>⟨n - (i+1),by omega,rfl,fE,p'⟩,fun x H' y=>?_⟩
  obtain ⟨e,y⟩:=y
  subst e y
  exact hs i σ _ fE p
 ·have e:i=n:=by omega
  subst e
  exact .inl ⟨Nat.le_refl _,hd σ H p⟩
theorem Gf {c:TT} {tb:TS} {D:Ends} {σ:St} {H:Hp} (Pv:St→Hp→Prop) (μ:St→Hp→Nat) (h0:Pv σ H)
  (hs:∀ σ H,Pv σ H→c σ H fun b H1=>if b=true then tb { D with nx:=fun σ' H'=>Pv σ' H'∧μ σ' H' < μ σ H,ct:=fun σ' H'=>Pv σ' H'∧μ σ' H' < μ σ H,bk:=D.nx } σ H1 else D.nx σ H1)
  (mono:∀ σ H Q Q',(∀ b H1,Q b H1→Q' b H1)→c σ H Q→c σ H Q'):N1 c tb D σ H:=by
 refine ⟨fun m σ H=>m=μ σ H∧Pv σ H,⟨_,rfl,h0⟩,?_⟩
 rintro m σ H ⟨rfl,p⟩
 refine mono σ H _ _ (fun b H1 q=>?_) (hs σ H p)
 cases b with
 | true=>exact ⟨_,fun σ' H' ⟨p',l⟩=>⟨_,l,rfl,p'⟩,q⟩
 | false=>exact q
end L2
namespace L2
open PySem PySem.Spec PyProof.Rows
abbrev R2:=V→V→Hp→VK→Prop
def nR (X:Cx) (f:Value→Value→Sem Value) (r:R2):Prop :=
 ∀ (pins:List (Addr × Obj)) (s:Shared) (σ:St) (H:Hp) (x y:V) (v u:Value) (Q:VK),Inv X pins σ H s→RelV x v→RelV y u→r x y H Q →
  wpAny (model X.prog X.w) X.A (f v u) (EP X pins σ Q) X.xe s
def UnR (X:Cx) (f:Value→Sem Value) (r:V→Hp→VK→Prop):Prop :=
 ∀ (pins:List (Addr × Obj)) (s:Shared) (σ:St) (H:Hp) (x:V) (v:Value) (Q:VK),Inv X pins σ H s→RelV x v→r x H Q →
  wpAny (model X.prog X.w) X.A (f v) (EP X pins σ Q) X.xe s
def jx (X:Cx) (f:Value) (r:List V→Hp→VK→Prop):Prop :=
 ∀ (pins:List (Addr × Obj)) (s:Shared) (σ:St) (H:Hp) (xs:List V) (us:List Value) (Q:VK),Inv X pins σ H s→au xs us→r xs H Q →
  wpAny (model X.prog X.w) X.A (call f us) (EP X pins σ Q) X.xe s
def aA5 (X:Cx) (r:V→Hp→(Bool→Hp→Prop)→Prop):Prop :=
 ∀ (pins:List (Addr × Obj)) (s:Shared) (σ:St) (H:Hp) (x:V) (v:Value) (Q:Bool→Hp→Prop),Inv X pins σ H s→RelV x v→r x H Q →
  wpAny (model X.prog X.w) X.A (truthy v) (TP X pins σ Q) X.xe s
def WI (r:R2) (ta tb:TE):TE:=fun σ H Q=>ta σ H fun x H1=>tb σ H1 fun y H2=>r x y H2 Q
def tUn (r:V→Hp→VK→Prop) (ta:TE):TE:=fun σ H Q=>ta σ H fun x H1=>r x H1 Q
def rI (C:Int→Int→Prop) (g:Int→Int→V):R2:=fun x y H Q=>∃ i j,x=.int i∧y=.int j∧C i j∧Q (g i j) H
def QM (g:Int→Int→V):R2:=fun x y H Q=>∃ i j,x=.int i∧y=.int j∧Q (g i j) H
def rU (g:Int→V):V→Hp→VK→Prop:=fun x H Q=>∃ i,x=.int i∧Q (g i) H
section
variable {X:Cx} {a b c:Expr} {ta tb tc:TE} {pos:Pos}
theorem UE (ha:PE X a ta) (hb:PE X b tb) {pins:List (Addr × Obj)} {s:Shared} {σ:St} {H:Hp} {R:V→V→Hp→Prop} (I:Inv X pins σ H s)
  (h:ta σ H fun x H1=>tb σ H1 fun y H2=>R x y H2) {Q:Value→Shared→Prop} {f:Value→Value→Sem Value}
  (hf:∀ v u s2 x y H2,Inv X pins σ H2 s2→RelV x v→RelV y u→R x y H2→wpAny (model X.prog X.w) X.A (f v u) Q X.xe s2) :
  wpAny (model X.prog X.w) X.A (eval a X.env) (fun v s₁=>wpAny (model X.prog X.w) X.A (eval b X.env) (fun u s₂=>wpAny (model X.prog X.w) X.A (f v u) Q X.xe s₂) X.xe s₁) X.xe s:=by
 refine bu (ha pins s σ H _ I h) fun v s1 ⟨x,H1,I1,r1,q1⟩=>?_
 refine bu (hb pins s1 σ H1 _ I1 q1) fun u s2 ⟨y,H2,I2,r2,q2⟩=>?_
 exact hf v u s2 x y H2 I2 r1 r2 q2
theorem aN {op:Operator} {r:R2} (ho:nR X (binaryOp op) r) (ha:PE X a ta) (hb:PE X b tb):PE X (.BinOp a op b pos) (WI r ta tb):=by
 intro pins s σ H Q I h
 exact wpAny_BinOp (UE ha hb I h fun v u s2 x y H2 I2 rx ry q=>ho pins s2 σ H2 x y v u Q I2 rx ry q)
theorem Kw {op:UnaryOp} {r:V→Hp→VK→Prop} (ho:UnR X (unaryOp op) r) (ha:PE X a ta):PE X (.UnaryOp op a pos) (tUn r ta):=by
 intro pins s σ H Q I h
 exact UnaryOp_ (bu (ha pins s σ H _ I h) fun v s1 ⟨x,H1,I1,r1,q1⟩=>ho pins s1 σ H1 x v Q I1 r1 q1)
theorem Zk {f:Value→Value→Sem Value} {C:Int→Int→Prop} {g:Int→Int→Int}
  (rule:∀ (i j:Int) (t u:Tok) (s:Shared) (Q:Value→Shared→Prop) (E:Value→Shared→Prop),C i j→Q (.int (g i j) s.toks) { s with toks:=s.toks+1 }→wpAny (model X.prog X.w) X.A (f (.int i t) (.int j u)) Q E s) :
  nR X f (rI C fun i j=>.int (g i j)):=by
 intro pins s σ H x y v u Q I rx ry h
 obtain ⟨i,j,rfl,rfl,hc,q⟩:=h
 obtain ⟨t,rfl⟩:=rx
 obtain ⟨t',rfl⟩:=ry
 exact rule i j t t' s _ _ hc ⟨.int (g i j),H,I.tok _,⟨_,rfl⟩,q⟩
theorem W5 {f:Value→Value→Sem Value} {g:Int→Int→Int}
  (rule:∀ (i j:Int) (t u:Tok) (s:Shared) (Q:Value→Shared→Prop) (E:Value→Shared→Prop),Q (.int (g i j) s.toks) { s with toks:=s.toks+1 }→wpAny (model X.prog X.w) X.A (f (.int i t) (.int j u)) Q E s) :
  nR X f (QM fun i j=>.int (g i j)):=by
 intro pins s σ H x y v u Q I rx ry h
 obtain ⟨i,j,rfl,rfl,q⟩:=h
 obtain ⟨t,rfl⟩:=rx
 obtain ⟨t',rfl⟩:=ry
 exact rule i j t t' s _ _ ⟨.int (g i j),H,I.tok _,⟨_,rfl⟩,q⟩
theorem Qg {f:Value→Value→Sem Value} {g:Int→Int→Bool}
  (rule:∀ (i j:Int) (t u:Tok) (s:Shared) (Q:Value→Shared→Prop) (E:Value→Shared→Prop),Q (.bool (g i j)) s→wpAny (model X.prog X.w) X.A (f (.int i t) (.int j u)) Q E s) :
  nR X f (QM fun i j=>.bl (g i j)):=by
 intro pins s σ H x y v u Q I rx ry h
 obtain ⟨i,j,rfl,rfl,q⟩:=h
 obtain ⟨t,rfl⟩:=rx
 obtain ⟨t',rfl⟩:=ry
 exact rule i j t t' s _ _ ⟨.bl (g i j),H,I,rfl,q⟩
def aA6 (i j:Int):Prop:=0 < j∧j < 1073741824
def aA7 (i j:Int):Prop:=0≤j∧j≤1000000∧i.natAbs < 2 ^ 64
def UG (i j:Int):Prop:=(-(2 ^ 64) < i∧i < 2 ^ 64)∨(-(2 ^ 64) < j∧j < 2 ^ 64)
theorem UG.ok {i j:Int} (h:UG i j):IntMulOk i j:=by
 rcases h with ⟨h1,h2⟩ | ⟨h1,h2⟩
 ·exact .of_left (intBits_le_64 h1 h2)
 ·exact .of_right (intBits_le_64 h1 h2)
theorem bA:nR X (binaryOp .Add) (QM fun i j=>.int (i+j)):=W5 fun _ _ _ _ _ _ _ q=>add_int q
theorem jK:nR X (binaryOp .Sub) (QM fun i j=>.int (i - j)):=W5 fun _ _ _ _ _ _ _ q=>sub_int q
theorem eM:nR X (binaryOp .Mult) (rI UG fun i j=>.int (i * j)):=Zk fun _ _ _ _ _ _ _ hc q=>mul_int q hc.ok
theorem cW:nR X (binaryOp .FloorDiv) (rI aA6 fun i j=>.int (i / j)):=Zk fun i j _ _ _ _ _ hc q=>by
 have h1:(0:Int) < j:=hc.1
 have h2:j < 1073741824:=hc.2
 exact floordiv_int (by omega) (by rw [Int.fdiv_eq_ediv_of_nonneg i (by omega)];exact q) (.inl (PyProof.noPylong_small (by omega)))
theorem aw:nR X (binaryOp .Mod) (rI (fun _ j=>0 < j) fun i j=>.int (i % j)):=Zk fun i j _ _ _ _ _ hc q=>by
 have h1:(0:Int) < j:=hc
 exact mod_int' (by omega) (by rw [Int.fmod_eq_emod_of_nonneg i (by omega)];exact q)
theorem UH:nR X (binaryOp .Pow) (rI aA7 fun i j=>.int (i ^ j.toNat)):=Zk fun _ _ _ _ _ _ _ hc q=>pow_int_small hc.1 hc.2.1 hc.2.2 q
theorem unI {f:Value→Sem Value} {g:Int→Int}
  (rule:∀ (i:Int) (t:Tok) (s:Shared) (Q:Value→Shared→Prop) (E:Value→Shared→Prop),Q (.int (g i) s.toks) { s with toks:=s.toks+1 }→wpAny (model X.prog X.w) X.A (f (.int i t)) Q E s) :
  UnR X f (rU fun i=>.int (g i)):=by
 intro pins s σ H x v Q I rx h
 obtain ⟨i,rfl,q⟩:=h
 obtain ⟨t,rfl⟩:=rx
 exact rule i t s _ _ ⟨.int (g i),H,I.tok _,⟨_,rfl⟩,q⟩
theorem za:UnR X (unaryOp .USub) (rU fun i=>.int (-i)):=unI fun _ _ _ _ _ q=>neg_int q
end
def W6:V→V→Bool
 | .bJ,.bJ=>true | .bJ,.int _=>true | .int _,.bJ=>true | .bJ,.bl _=>true | .bl _,.bJ=>true | .bJ,.str _=>true | .str _,.bJ=>true
 | .int _,.int _=>true | .bl _,.bl _=>true | .str _,.str _=>true | .Kp _,.Kp _=>true
 | .int _,.str _=>true | .str _,.int _=>true | .bl _,.str _=>true | .str _,.bl _=>true
 | _,_=>false
def rEq:R2:=fun x y H Q=>W6 x y=true∧Q (.bl (decide (x=y))) H
def rNe:R2:=fun x y H Q=>W6 x y=true∧Q (.bl (!decide (x=y))) H
theorem Kx {i j:Int}:decide (V.int i=V.int j)=(i == j):=by
 rw [Bool.eq_iff_iff]
 simp
theorem N4 {i j:Bool}:decide (V.bl i=V.bl j)=(i == j):=by
 rw [Bool.eq_iff_iff]
 simp
theorem Ky {i j:Str}:decide (V.str i=V.str j)=(i == j):=by
 rw [Bool.eq_iff_iff]
 simp
theorem Kz {i j:Array UInt8}:decide (V.Kp i=V.Kp j)=(i.toList == j.toList):=by
 rw [Bool.eq_iff_iff]
 cases i
 cases j
 simp
section
variable {X:Cx} {a b c:Expr} {ta tb tc:TE} {pos:Pos}
theorem bN {pins:List (Addr × Obj)} {σ:St} {H:Hp} {s:Shared} {Q:VK} {k k':Bool} (I:Inv X pins σ H s) (q:Q (.bl k) H) (e:k=k'):EP X pins σ Q (.bool k') s:=by
 subst e
 exact ⟨.bl k,H,I,rfl,q⟩
theorem jL:nR X (compareOp .Eq) rEq:=by
 intro pins s σ H x y v u Q I rx ry h
 obtain ⟨hs,q⟩:=h
 cases x with
 | bJ =>
  cases rx
  cases y with
  | bJ=>cases ry;exact PySem.EqNone.eq_none_none (bN I q (by simp))
  | bl j=>cases ry;exact PySem.EqNone.eq_none_bool (bN I q (by simp))
  | int j=>obtain ⟨t',rfl⟩:=ry;exact PySem.EqNone.eq_none_int (bN I q (by simp))
  | str j=>obtain ⟨t',rfl⟩:=ry;exact PySem.EqNone.eq_none_str (bN I q (by simp))
  | _=>exact absurd (show false=true from hs) Bool.false_ne_true
 | bl i =>
  cases rx
  cases y with
  | bJ=>cases ry;exact PySem.EqNone.eq_bool_none (bN I q (by simp))
  | bl j=>cases ry;exact eq_bool (bN I q N4)
  | str j=>obtain ⟨t',rfl⟩:=ry;exact PySem.EqMixed.eq_bool_str (bN I q (by simp))
  | _=>exact absurd (show false=true from hs) Bool.false_ne_true
 | int i =>
  obtain ⟨t,rfl⟩:=rx
  cases y with
  | bJ=>cases ry;exact PySem.EqNone.eq_int_none (bN I q (by simp))
  | int j=>obtain ⟨t',rfl⟩:=ry;exact eq_int (bN I q Kx)
  | str j=>obtain ⟨t',rfl⟩:=ry;exact PySem.EqMixed.eq_int_str (bN I q (by simp))
  | _=>exact absurd (show false=true from hs) Bool.false_ne_true
 | str i =>
  obtain ⟨t,rfl⟩:=rx
  cases y with
  | bJ=>cases ry;exact PySem.EqNone.eq_str_none (bN I q (by simp))
  | bl j=>cases ry;exact PySem.EqMixed.eq_str_bool (bN I q (by simp))
  | int j=>obtain ⟨t',rfl⟩:=ry;exact PySem.EqMixed.eq_str_int (bN I q (by simp))
  | str j=>obtain ⟨t',rfl⟩:=ry;exact eq_str (bN I q Ky)
  | _=>exact absurd (show false=true from hs) Bool.false_ne_true
 | Kp i =>
  obtain ⟨t,rfl⟩:=rx
  cases y with
  | Kp j=>obtain ⟨t',rfl⟩:=ry;exact PySem.W.eq_bytes (bN I q Kz)
  | _=>exact absurd (show false=true from hs) Bool.false_ne_true
 | _=>cases y <;> exact absurd (show false=true from hs) Bool.false_ne_true
theorem Gg:nR X (compareOp .NotEq) rNe:=by
 intro pins s σ H x y v u Q I rx ry h
 obtain ⟨hs,q⟩:=h
 cases x with
 | bJ =>
  cases rx
  cases y with
  | bJ=>cases ry;exact PySem.EqNone.ne_none_none (bN I q (by simp))
  | bl j=>cases ry;exact PySem.EqNone.ne_none_bool (bN I q (by simp))
  | int j=>obtain ⟨t',rfl⟩:=ry;exact PySem.EqNone.ne_none_int (bN I q (by simp))
  | str j=>obtain ⟨t',rfl⟩:=ry;exact PySem.EqNone.ne_none_str (bN I q (by simp))
  | _=>exact absurd (show false=true from hs) Bool.false_ne_true
 | bl i =>
  cases rx
  cases y with
  | bJ=>cases ry;exact PySem.EqNone.ne_bool_none (bN I q (by simp))
  | bl j=>cases ry;exact ne_bool (bN I q (congrArg not N4))
  | str j=>obtain ⟨t',rfl⟩:=ry;exact PySem.EqMixed.ne_bool_str (bN I q (by simp))
  | _=>exact absurd (show false=true from hs) Bool.false_ne_true
 | int i =>
  obtain ⟨t,rfl⟩:=rx
  cases y with
  | bJ=>cases ry;exact PySem.EqNone.ne_int_none (bN I q (by simp))
  | int j=>obtain ⟨t',rfl⟩:=ry;exact ne_int (bN I q (congrArg not Kx))
  | str j=>obtain ⟨t',rfl⟩:=ry;exact PySem.EqMixed.ne_int_str (bN I q (by simp))
  | _=>exact absurd (show false=true from hs) Bool.false_ne_true
 | str i =>
  obtain ⟨t,rfl⟩:=rx
  cases y with
  | bJ=>cases ry;exact PySem.EqNone.ne_str_none (bN I q (by simp))
  | bl j=>cases ry;exact PySem.EqMixed.ne_str_bool (bN I q (by simp))
  | int j=>obtain ⟨t',rfl⟩:=ry;exact PySem.EqMixed.ne_str_int (bN I q (by simp))
  | str j=>obtain ⟨t',rfl⟩:=ry;exact ne_str (bN I q (congrArg not Ky))
  | _=>exact absurd (show false=true from hs) Bool.false_ne_true
 | Kp i =>
  obtain ⟨t,rfl⟩:=rx
  cases y with
  | Kp j=>obtain ⟨t',rfl⟩:=ry;exact PySem.W.ne_bytes (bN I q (congrArg not Kz))
  | _=>exact absurd (show false=true from hs) Bool.false_ne_true
 | _=>cases y <;> exact absurd (show false=true from hs) Bool.false_ne_true
theorem jy:nR X (compareOp .Lt) (QM fun i j=>.bl (decide (i < j))):=Qg fun _ _ _ _ _ _ _ q=>lt_int q
theorem qB:nR X (compareOp .LtE) (QM fun i j=>.bl (decide (i≤j))):=Qg fun _ _ _ _ _ _ _ q=>le_int q
theorem N5:nR X (compareOp .Gt) (QM fun i j=>.bl (decide (j < i))):=Qg fun _ _ _ _ _ _ _ q=>gt_int q
theorem S6:nR X (compareOp .GtE) (QM fun i j=>.bl (decide (j≤i))):=Qg fun _ _ _ _ _ _ _ q=>ge_int q
theorem tF:nR X (compareOp .Is) (fun x y H Q=>y=.bJ∧Q (.bl (decide (x=.bJ))) H):=by
 intro pins s σ H x y v u Q I rx ry h
 obtain ⟨rfl,q⟩:=h
 cases ry
 refine is_none_gen (bN I q ?_)
 cases x <;> first
  | (cases rx;rfl)
  | (obtain ⟨t,rfl⟩:=rx;rfl)
theorem pL:nR X (compareOp .IsNot) (fun x y H Q=>y=.bJ∧Q (.bl (!decide (x=.bJ))) H):=by
 intro pins s σ H x y v u Q I rx ry h
 obtain ⟨rfl,q⟩:=h
 cases ry
 refine isnot_none_gen (bN I q ?_)
 cases x <;> first
  | (cases rx;rfl)
  | (obtain ⟨t,rfl⟩:=rx;rfl)
theorem nR.or {f:Value→Value→Sem Value} {r r':R2} (h:nR X f r) (h':nR X f r'):nR X f (fun x y H Q=>r x y H Q∨r' x y H Q):=by
 intro pins s σ H x y v u Q I rx ry q
 rcases q with q | q
 ·exact h pins s σ H x y v u Q I rx ry q
 ·exact h' pins s σ H x y v u Q I rx ry q
theorem aj (b:Expr) {op:CmpOp} (h:op≠.In:=by decide) (h2:op≠.NotIn:=by decide):behindInMarks op b=false:=by
 have e1:(op == CmpOp.In)=false:=by cases op <;> first | rfl | exact absurd rfl h
 have e2:(op == CmpOp.NotIn)=false:=by cases op <;> first | rfl | exact absurd rfl h2
 cases b <;> simp [behindInMarks,e1,e2]
theorem pM {op:CmpOp} {r:R2} (ho:nR X (compareOp op) r) (ha:PE X a ta) (hb:PE X b tb) (hm:behindInMarks op b=false):PE X (.Compare a [op] [b] pos) (WI r ta tb):=by
 intro pins s σ H Q I h
 exact wpAny_Compare1 (UE ha hb I h fun v u s2 x y H2 I2 rx ry q=>ho pins s2 σ H2 x y v u Q I2 rx ry q) hm
def K0 (t:TE):TT:=fun σ H Q=>t σ H fun x H'=>∃ k,x=.bl k∧Q k H'
theorem aW {op:CmpOp} {r:R2} (ho:nR X (compareOp op) r) (ha:PE X a ta) (hb:PE X b tb) (hm:behindInMarks op b=false):PT X (.Compare a [op] [b] pos) (K0 (WI r ta tb)):=by
 intro pins s σ H Q I h
 refine wpAny_isTrue_Compare1 (bu (ha pins s σ H _ I h) fun v s1 ⟨x,H1,I1,r1,q1⟩=>bu (hb pins s1 σ H1 _ I1 q1) fun u s2 ⟨y,H2,I2,r2,q2⟩ =>
  bu (ho pins s2 σ H2 x y v u _ I2 r1 r2 q2) fun c s3 ⟨z,H3,I3,r3,k,e,q3⟩=>?_) hm
 subst e
 cases r3
 exact wpAny_truthy_bool ⟨H3,I3,q3⟩
def N6 (r r':R2) (ta tb tc:TE):TE:=fun σ H Q=>ta σ H fun x H1=>tb σ H1 fun y H2=>r x y H2 fun z H3=>∃ k,z=.bl k ∧
 (if k=true then tc σ H3 fun w' H4=>r' y w' H4 Q else Q (.bl false) H3)
theorem Gi {op UI:CmpOp} {r r':R2} (ho:nR X (compareOp op) r) (De:nR X (compareOp UI) r') (ha:PE X a ta) (hb:PE X b tb) (hc:PE X c tc)
  (hm:lastMarks [op,UI] [b,c]=false:=by with_unfolding_all rfl):PE X (.Compare a [op,UI] [b,c] pos) (N6 r r' ta tb tc):=by
 intro pins s σ H Q I h
 refine Compare_chain (bu (ha pins s σ H _ I h) fun v s1 ⟨x,H1,I1,r1,q1⟩=>chain_link (bu (hb pins s1 σ H1 _ I1 q1) fun u s2 ⟨y,H2,I2,r2,q2⟩ =>
  bu (ho pins s2 σ H2 x y v u _ I2 r1 r2 q2) fun d s3 ⟨z,H3,I3,r3,k,e,q3⟩=>?_)) hm
 subst e
 cases r3
 refine wpAny_truthy_bool ?_
 cases k with
 | false=>exact ite_ff ⟨.bl false,H3,I3,rfl,q3⟩
 | true=>exact ite_tt (chain_last (bu (hc pins s3 σ H3 _ I3 q3) fun w' s4 ⟨z',H4,I4,r4,q4⟩=>De pins s4 σ H4 y z' u w' Q I4 r2 r4 q4))
theorem rR {op UI:CmpOp} {r r':R2} (ho:nR X (compareOp op) r) (De:nR X (compareOp UI) r') (ha:PE X a ta) (hb:PE X b tb) (hc:PE X c tc)
  (hm:lastMarks [op,UI] [b,c]=false:=by with_unfolding_all rfl):PT X (.Compare a [op,UI] [b,c] pos) (K0 (N6 r r' ta tb tc)):=by
 intro pins s σ H Q I h
 refine isTrue_chain (bu (ha pins s σ H _ I h) fun v s1 ⟨x,H1,I1,r1,q1⟩=>test_link (bu (hb pins s1 σ H1 _ I1 q1) fun u s2 ⟨y,H2,I2,r2,q2⟩ =>
  bu (ho pins s2 σ H2 x y v u _ I2 r1 r2 q2) fun d s3 ⟨z,H3,I3,r3,k,e,q3⟩=>?_)) hm
 subst e
 cases r3
 refine wpAny_truthy_bool ?_
 cases k with
 | false =>
  obtain ⟨k',e',q'⟩:=q3
  cases e'
  exact ite_ff ⟨H3,I3,q'⟩
 | true =>
  refine ite_tt (test_last (bu (hc pins s3 σ H3 _ I3 q3) fun w' s4 ⟨z',H4,I4,r4,q4⟩=>bu (De pins s4 σ H4 y z' u w' _ I4 r2 r4 q4) fun d' s5 ⟨z2,H5,I5,r5,k2,e2,q5⟩=>?_))
  subst e2
  cases r5
  exact wpAny_truthy_bool ⟨H5,I5,q5⟩
def W7 (K:PySem.W.Frag) (x:V) (H:Hp) (k:Bool):Prop :=
 match x with
 | .bJ=>k=false
 | .bl b=>k=b
 | .int i=>k=(i != 0)
 | .str y=>y.length≤sizeLine∧k=((y.length:Int) != 0)
 | .Kp y=>y.size≤sizeLine∧k=((y.size:Int) != 0)
 | .ref p=>(∃ xs,aX K H p xs∧k=!xs.isEmpty)∨(∃ xs,bw K H p xs∧k=!xs.isEmpty)∨∃ aq,H p=some (.dK aq)∧k=!aq.isEmpty
 | _=>False
theorem JE {κ:Type} {aq:List (κ × V)} {vs:List (κ × Value)} (r:KV aq vs):(!vs.isEmpty)=!aq.isEmpty:=by
 cases r <;> rfl
theorem vc {xs:List V} {ai:List Value} (r:au xs ai):(!ai.toArray.isEmpty)=!xs.isEmpty:=by
 cases r <;> simp
theorem vd:(sizeLine:Nat) < 2 ^ 63:=by rw [sizeLine_eq];decide
theorem UJ:aA5 X (fun x H Q=>∃ k,W7 X.K x H k∧Q k H):=by
 intro pins s σ H x v Q I rx h
 obtain ⟨k,e,q⟩:=h
 have hl:=vd
 have hs:sizeLine=16777216:=sizeLine_eq
 cases x with
 | bJ =>
  cases rx
  have e':k=false:=e
  subst e'
  exact truthy_none ⟨H,I,q⟩
 | bl b =>
  cases rx
  have e':k=b:=e
  subst e'
  exact wpAny_truthy_bool ⟨H,I,q⟩
 | int i =>
  obtain ⟨t,rfl⟩:=rx
  have e':k=(i != 0):=e
  subst e'
  exact PySem.P.truthy_int ⟨H,I,q⟩
 | str y =>
  obtain ⟨t,rfl⟩:=rx
  obtain ⟨hy,e'⟩:y.length≤sizeLine∧k=((y.length:Int) != 0):=e
  subst e'
  exact PySem.P.truthy_str (by omega) ⟨H,I.tok _,q⟩
 | Kp y =>
  obtain ⟨t,rfl⟩:=rx
  obtain ⟨hy,e'⟩:y.size≤sizeLine∧k=((y.size:Int) != 0):=e
  subst e'
  exact PySem.W.truthy_bytes (by omega) ⟨H,I.tok _,q⟩
 | ref p =>
  cases rx
  have e':(∃ xs,aX X.K H p xs∧k=!xs.isEmpty)∨(∃ xs,bw X.K H p xs∧k=!xs.isEmpty)∨∃ aq,H p=some (.dK aq)∧k=!aq.isEmpty:=e
  rcases e' with ⟨xs,hx,e'⟩ | ⟨xs,hx,e'⟩ | ⟨aq,hx,e'⟩
  ·subst e'
   obtain ⟨ai,r,pl,hz⟩:=I.list hx
   have hlen:=r.length
   exact wpAny_truthy_list pl.isList (by simp only [List.size_toArray];omega) ⟨H,I.tok _,by rw [vc r];exact q⟩
  ·subst e'
   obtain ⟨ai,r,pl,hz⟩:=I.tuple hx
   have hlen:=r.length
   exact truthy_tuple pl (by simp only [List.size_toArray];omega) ⟨H,I.tok _,by rw [vc r];exact q⟩
  ·subst e'
   obtain ⟨hz,hS,vs,r,m⟩:aq.length≤sizeLine∧(p == sysModules)=false∧∃ vs,KV aq vs∧s.heap.DictOf (be X.prog X.w) p vs:=I.bz p _ hx
   have hlen:aq.length=vs.length:=Paired.length r
   exact wpAny_truthy_dict hS m (by omega) ⟨H,I.tok _,by rw [JE r];exact q⟩
 | _=>exact (show False from e).elim
theorem rS (ha:PE X a ta) (he:∀ whole,isTrue a X.env whole=(do let v ← whole;standAt a.pos;holding [v] (truthy v))) :
  PT X a (fun σ H Q=>ta σ H fun x H'=>∃ k,W7 X.K x H' k∧Q k H'):=by
 intro pins s σ H Q I h
 exact isTrue_plain (bu (ha pins s σ H _ I h) fun v s1 ⟨x,H1,I1,r1,q1⟩=>UJ pins s1 σ H1 x v Q I1 r1 q1) (he _)
theorem vals1 {x:V} {us:List Value} (r:au [x] us):∃ u,us=[u]∧RelV x u:=by
 cases r with
 | cons r1 r2=>cases r2;exact ⟨_,rfl,r1⟩
theorem vals2 {x y:V} {us:List Value} (r:au [x,y] us):∃ u w',us=[u,w']∧RelV x u∧RelV y w':=by
 cases r with
 | cons r1 r2 =>
  cases r2 with
  | cons r3 r4=>cases r4;exact ⟨_,_,rfl,r1,r3⟩
theorem yn (hc:X.calm=true):jx X (.builtin "max") (fun xs H Q=>∃ i j,xs=[.int i,.int j]∧Q (.int (if j > i then j else i)) H):=by
 intro pins s σ H xs us Q I r h
 obtain ⟨i,j,rfl,q⟩:=h
 obtain ⟨u,w',rfl,⟨t,rfl⟩,⟨t',rfl⟩⟩:=vals2 r
 refine max_two_ints (I.ok.hd hc) fun h' tk k=>⟨_,H,I.kept k,?_,q⟩
 by_cases hj:j > i
 ·rw [if_pos hj,if_pos hj];exact ⟨_,rfl⟩
 ·rw [if_neg hj,if_neg hj];exact ⟨_,rfl⟩
theorem L9 (hc:X.calm=true):jx X (.builtin "min") (fun xs H Q=>∃ i j,xs=[.int i,.int j]∧Q (.int (if j < i then j else i)) H):=by
 intro pins s σ H xs us Q I r h
 obtain ⟨i,j,rfl,q⟩:=h
 obtain ⟨u,w',rfl,⟨t,rfl⟩,⟨t',rfl⟩⟩:=vals2 r
 refine min_two_ints (I.ok.hd hc) fun h' tk k=>⟨_,H,I.kept k,?_,q⟩
 by_cases hj:j < i
 ·rw [if_pos hj,if_pos hj];exact ⟨_,rfl⟩
 ·rw [if_neg hj,if_neg hj];exact ⟨_,rfl⟩
end
end L2
namespace L2
open PySem PySem.Spec PyProof.Rows
structure JF (h:Heap) (x dx C:Addr) (mA:Str→Option Value):Prop where
 obj:h.get? x=some (PySem.W.instObj C dx)
 ns:h.Ns1 dx mA
 ne:dx≠x
theorem MA {h:Heap} {dx:Addr} {mA:Str→Option Value} (n:h.Ns1 dx mA):∃ od,h.get? dx=some od∧∀ name,PySem.W.lookIn name od=some (mA name):=by
 obtain ⟨o,es,ep,ho,hd,hk,_,hm⟩:=n
 refine ⟨o,ho,fun name=>?_⟩
 have e:=hm name
 unfold nsFind findBy at e
 rw [← Array.find?_toList] at e
 unfold PySem.W.lookIn
 rw [hd]
 dsimp only
 split
 ·rename_i y q
  rw [q] at e
  exact congrArg some e
 ·rename_i q
  rw [q] at e
  have a:es.toList.any (·.refKey)=false:=by
   rw [List.any_eq_false]
   intro y hy
   obtain ⟨z,t,aA9⟩:=hk y (Array.mem_toList_iff.mp hy)
   simp [DictEntry.refKey,aA9]
  have a':¬ es.toList.any (·.refKey)=true:=by rw [a];exact Bool.false_ne_true
  rw [if_neg a']
  exact congrArg some e
theorem JF.look {h:Heap} {x dx C:Addr} {mA:Str→Option Value} (I:JF h x dx C mA):∃ od,PySem.W.InstAt h x (PySem.W.instObj C dx) C (some od)∧∀ name,PySem.W.lookIn name od=some (mA name) :=
 let ⟨od,ho,hl⟩:=MA I.ns
 ⟨od,⟨I.obj,rfl,rfl,ho⟩,hl⟩
section
variable {prog:Program} {w:World} {A:Around} {E:Value→Shared→Prop} {s:Shared} {K:PySem.W.Frag} {x dx C f:Addr} {mA:Str→Option Value} {name:Str} {v:Value}
theorem get_map {expr:Bool} {Q:Value→Shared→Prop} (X:K.In s.heap) (I:JF s.heap x dx C mA) (hg:PySem.W.plainGet K C name=true) (hh:PySem.W.hasDictIn K C=true)
  (ha:PySem.W.findIn K (.ref C) name=some none) (hv:mA name=some v) (W8:PySem.W.handedIn v=true) (h:Q v { s with toks:=s.toks+1 }) :
  wpAny (model prog w) A (getAttr (.ref x) name expr) Q E s:=by
 obtain ⟨od,J,hl⟩:=I.look
 exact PySem.W.get_value X J (PySem.W.plainGet_of hg).1 (PySem.W.findObj_own hh ha rfl (by rw [hl,hv])) W8 h
theorem N7 {pl:Sem Bool} {Q:Value × List Value→Shared→Prop} (X:K.In s.heap) (I:JF s.heap x dx C mA) (hg:PySem.W.plainGet K C name=true)
  (hf:PySem.W.findIn K (.ref C) name=some (some (.ref f))) (ht:PySem.W.isFn K (.ref f)=true) (hv:mA name=none) (h:Q (.ref f,[.ref x]) s) :
  wpAny (model prog w) A (getMethod (.ref x) name pl) Q E s:=by
 obtain ⟨od,J,hl⟩:=I.look
 exact PySem.W.method_fn X J (PySem.W.plainGet_of hg).1 (PySem.W.plainGet_of hg).2 hf (beq_iff_eq.mp ht) (by show (PySem.W.lookIn name od).map (·.isSome)=some false;rw [hl,hv];rfl) h
theorem Qh {ns:List Str} {Q:Unit→Shared→Prop} (X:K.In s.heap) (I:JF s.heap x dx C mA)
  (hs:PySem.W.findIn K (.ref C) "__setattr__"=some (some (.builtin "object.__setattr__"))) (hp:PySem.W.plainOver K C=true) (ht:PySem.W.takerIn K C name=some none) (hh:PySem.W.hasDictIn K C=true)
  (hw:PySem.Within mA ns) (hsz:ns.length≤sizeLine)
  (h:∀ h',JF h' x dx C (fun y=>if y=name then some v else mA y)→Heap.SameBut dx s.heap h'→Q () { s with heap:=h',toks:=s.toks+2 }) :
  wpAny (model prog w) A (setAttr (.ref x) name v) Q E s:=by
 obtain ⟨od,J,hl⟩:=I.look
 refine PySem.W.set_plain X J hs (PySem.W.osa_open (s:={ s with toks:=s.toks+1 }) (r:=none) X J hp ht fun b=>?_)
 obtain ⟨cd,hc,Df⟩:=PySem.W.any_some hh
 have hx:s.heap.get? x=some ⟨.ref C,some dx,.plain,#[]⟩:=I.obj
 refine wpAny_bind (wpAny_pure (wpAny_bind (wpAny_bind (wpAny_loadPart hx (wpAny_bind (PySem.W.Looks.here (s:={ s with toks:=s.toks+1 }) (PySem.W.looks_clsIn X hc) ?_))))))
 rw [Df]
 refine wpAny_pure (a:=some dx) (wpAny_bind (wpAny_pure (wpAny_bind ?_)))
 refine wpAny_nsSet1 (s:={ s with toks:=s.toks+1 }) I.ns fun h' W9 L7=>?_
 obtain ⟨oD,esD,epD,hoD,hdD,hcD⟩:=W9.count (PySem.Within.cons name v hw)
 refine wpAny_bind (wpAny_lookBehind hoD (by rw [hdD];exact pastItsLine_dict (Nat.le_trans hcD (by rw [List.length_cons];omega))) ?_)
 exact wpAny_pure (h _ ⟨(L7.2 _ (Ne.symm I.ne)).trans I.obj,W9,I.ne⟩ L7)
theorem N8 {R:Result→Shared→Prop} {vs:List Value} {kw:List (Str × Value)} (X:K.In s.heap) (hm:PySem.W.makesIn K C=true)
  (hi:PySem.W.findIn K (.ref C) "__init__"=some (some (.ref f))) (hf:PySem.W.typeIn K (.ref f)=some (.type "function"))
  (h:codeAny (model prog w) (A.under (.builtin "type.__call__" ⟨.ref C :: vs,kw⟩)) (.call (.ref f) ⟨.ref (s.heap.objs.size+1) :: vs,kw⟩) (PySem.W.InitBack (s.heap.objs.size+1) R)
   { s with heap:=(s.heap.push PySem.W.emptyDict).push (PySem.W.instObj C s.heap.objs.size) }) :
  codeAny (model prog w) A (.call (.ref C) ⟨vs,kw⟩) R s:=by
 obtain ⟨hh,g,d,t,os⟩:=s
 exact PySem.W.make_core (PySem.W.makes_of X hm) (PySem.W.looks_findIn X hi) (fun self=>PySem.W.bind_fn X self hf) (.inl rfl) h
end
def eN (f:Str) (v:V):List (Str × V)→List (Str × V)
 | []=>[(f,v)]
 | (g,x) :: r=>if g=f then (g,v) :: r else (g,x) :: eN f v r
theorem uY (f g:Str) (v:V):∀ fs:List (Str × V),(eN f v fs).lookup g=if g=f then some v else fs.lookup g
 | []=>by
  show List.lookup g [(f,v)]=_
  by_cases h:g=f
  ·have hb:(g == f)=true:=beq_iff_eq.mpr h
   simp only [List.lookup,hb,if_pos h]
  ·have hb:(g == f)=false:=beq_eq_false_iff_ne.mpr h
   simp only [List.lookup,hb,if_neg h]
 | (k,x) :: r=>by
  have ih:=uY f g v r
  rw [show eN f v ((k,x) :: r)=(if k=f then (k,v) :: r else (k,x) :: eN f v r) from rfl]
  by_cases hk:k=f
  ·rw [if_pos hk]
   by_cases h:g=k
   ·have hb:(g == k)=true:=beq_iff_eq.mpr h
    simp only [List.lookup,hb,if_pos (h.trans hk)]
   ·have hb:(g == k)=false:=beq_eq_false_iff_ne.mpr h
    simp only [List.lookup,hb,if_neg (fun e:g=f=>h (e.trans hk.symm))]
  ·rw [if_neg hk]
   by_cases h:g=k
   ·have hb:(g == k)=true:=beq_iff_eq.mpr h
    simp only [List.lookup,hb,if_neg (fun e:g=f=>hk (h.symm.trans e))]
   ·have hb:(g == k)=false:=beq_eq_false_iff_ne.mpr h
    simp only [List.lookup,hb]
    exact ih
theorem tG (f:Str) (v:V):∀ fs:List (Str × V),f ∈ (eN f v fs).map (·.1)∧∀ g,g ∈ fs.map (·.1)→g ∈ (eN f v fs).map (·.1)
 | []=>⟨by simp [eN],fun g h=>by simp at h⟩
 | (k,x) :: r=>by
  obtain ⟨i1,i2⟩:=tG f v r
  rw [show eN f v ((k,x) :: r)=(if k=f then (k,v) :: r else (k,x) :: eN f v r) from rfl]
  by_cases hk:k=f
  ·rw [if_pos hk]
   subst hk
   exact ⟨by simp,fun g h=>by simpa using h⟩
  ·rw [if_neg hk]
   refine ⟨?_,fun g h=>?_⟩
   ·rw [List.map_cons]
    exact List.mem_cons_of_mem _ i1
   ·rw [List.map_cons] at h ⊢
    rcases List.mem_cons.mp h with e | e
    ·exact List.mem_cons.mpr (.inl e)
    ·exact List.mem_cons_of_mem _ (i2 g e)
theorem uZ (f:Str) (v:V):∀ fs:List (Str × V),(eN f v fs).length≤fs.length+1
 | []=>by simp [eN]
 | (k,x) :: r=>by
  have ih:=uZ f v r
  rw [show eN f v ((k,x) :: r)=(if k=f then (k,v) :: r else (k,x) :: eN f v r) from rfl]
  by_cases hk:k=f
  ·rw [if_pos hk,List.length_cons,List.length_cons];omega
  ·rw [if_neg hk,List.length_cons,List.length_cons];omega
theorem lB.some_of {v:V} {o:Option Value} (r:lB (some v) o):∃ u,o=some u∧RelV v u:=by
 cases o with
 | none=>exact (show False from r).elim
 | some u=>exact ⟨u,rfl,r⟩
theorem lB.none_of {o:Option Value} (r:lB none o):o=none:=by
 cases o with
 | none=>rfl
 | some u=>exact (show False from r).elim
theorem MB {v:V} {u:Value} (r:RelV v u):PySem.W.handedIn u=true:=by
 cases v with
 | bJ=>cases (show u=Value.none from r);rfl
 | bl b=>cases (show u=Value.bool b from r);rfl
 | int i=>obtain ⟨t,e⟩:=(show ∃ t,u=Value.int i t from r);cases e;rfl
 | str x=>obtain ⟨t,e⟩:=(show ∃ t,u=Value.str x t from r);cases e;rfl
 | Kp b=>obtain ⟨t,e⟩:=(show ∃ t,u=Value.bytes b t from r);cases e;rfl
 | WC b=>obtain ⟨t,e⟩:=(show ∃ t,u=Value.float b t from r);cases e;rfl
 | ref a=>cases (show u=Value.ref a from r);rfl
 | ty n=>cases (show u=Value.type n from r);rfl
section
variable {P:Program} {w:World} {H H':Hp} {h h':Heap} {a C dx:Addr} {fs QI:List (Str × V)}
theorem zb (bz:pq P w H h) (e:H a=some (.ins C dx fs)):∃ mA,JF h a dx C mA∧(∀ f,lB (fs.lookup f) (mA f))∧PySem.Within mA (fs.map (·.1))∧fs.length≤1000∧H dx=some (.own a):=by
 obtain ⟨d,z,ne,ob,mA,n,r,q⟩:=(show cJ P w H h a (.ins C dx fs) from bz a _ e)
 exact ⟨mA,⟨ob,n,ne⟩,r,q,z,d⟩
end
structure MC (K:PySem.W.Frag) (C:Addr):Prop where
 pg:PySem.W.plainGet K C Str.empty=true
 hd:PySem.W.hasDictIn K C=true
 po:PySem.W.plainOver K C=true
 sa:PySem.W.findIn K (.ref C) "__setattr__"=some (some (.builtin "object.__setattr__"))
theorem MC.get {K:PySem.W.Frag} {C:Addr} (c:MC K C) (f:Str):PySem.W.plainGet K C f=true:=c.pg
def dE (K:PySem.W.Frag) (C:Addr) (f:Str):Prop:=PySem.W.findIn K (.ref C) f=some none
theorem dE.XA {K:PySem.W.Frag} {C:Addr} {f:Str} (n:dE K C f):PySem.W.takerIn K C f=some none:=by
 unfold PySem.W.takerIn
 rw [show PySem.W.findIn K (.ref C) f=some none from n]
 rfl
structure Con (K:PySem.W.Frag) (C:Addr) (f:Str) (v:V) (u:Value):Prop where
 at_:PySem.W.findIn K (.ref C) f=some (some u)
 rel:RelV v u
 get:PySem.W.specialIn K u "__get__"=some none
 cp:PySem.W.copiedNames.contains f=false
structure ng (K:PySem.W.Frag) (C:Addr) (m:Str) (f:Addr):Prop where
 at_:PySem.W.findIn K (.ref C) m=some (some (.ref f))
 fn:PySem.W.isFn K (.ref f)=true
 kp:PySem.W.keepIn K (.ref f)=true
section
variable {X:Cx} {pins:List (Addr × Obj)} {σ:St} {H:Hp} {s:Shared} {a C dx:Addr} {fs:List (Str × V)} {f:Str} {v:V} {A:Around} {E:Value→Shared→Prop}
theorem ve {b:Bool} {Q:Value→Shared→Prop} (I:Inv X pins σ H s) (e:H a=some (.ins C dx fs)) (c:MC X.K C) (n:dE X.K C f) (l:fs.lookup f=some v)
  (h:∀ u s',Inv X pins σ H s'→RelV v u→Q u s'):wpAny (model X.prog X.w) A (getAttr (.ref a) f b) Q E s:=by
 obtain ⟨mA,O,r,_,_,_⟩:=zb I.bz e
 obtain ⟨u,hu,ru⟩:=lB.some_of (v:=v) (o:=mA f) (by rw [← l];exact r f)
 exact get_map I.Kq O (c.get f) c.hd n hu (MB ru) (h u _ (I.tok _) ru)
theorem vf {m:Str} {g:Addr} {pl:Sem Bool} {Q:Value × List Value→Shared→Prop} (I:Inv X pins σ H s) (e:H a=some (.ins C dx fs)) (c:MC X.K C) (k:ng X.K C m g) (l:fs.lookup m=none)
  (h:Q (.ref g,[.ref a]) s):wpAny (model X.prog X.w) A (getMethod (.ref a) m pl) Q E s:=by
 obtain ⟨mA,O,r,_,_,_⟩:=zb I.bz e
 have hn:mA m=none:=lB.none_of (by rw [← l];exact r m)
 exact N7 I.Kq O (c.get m) k.at_ k.fn hn h
theorem vg {y:V} {u:Value} {Q:Unit→Shared→Prop} (I:Inv X pins σ H s) (e:H a=some (.ins C dx fs)) (c:MC X.K C) (n:dE X.K C f) (hl:fs.length < 1000) (ry:RelV y u)
  (h:∀ s',Inv X pins σ (upd H a (.ins C dx (eN f y fs))) s'→Q () s'):wpAny (model X.prog X.w) A (setAttr (.ref a) f u) Q E s:=by
 obtain ⟨mA,O,r,wi,_,ho⟩:=zb I.bz e
 have hz:(fs.map (·.1)).length≤sizeLine:=by rw [List.length_map,sizeLine_eq];omega
 refine Qh I.Kq O c.sa c.po n.XA c.hd wi hz fun h' O' sb=>h _ ?_
 have hd:∃ o,h'.get? dx=some o:=let ⟨o,_,_,e',_⟩:=O'.ns;⟨o,e'⟩
 refine I.write (x:=a) (e:=dx) (by rw [e];exact True.intro) (.inr ho) (fun b q hb z=>(sb.2 b hb).trans z) hd ?_
 refine ⟨by rw [aD O.ne];exact ho,?_,O.ne,O'.obj,_,O'.ns,fun g=>?_,fun g hg=>?_⟩
 ·have:=uZ f y fs;omega
 ·show lB ((eN f y fs).lookup g) (if g=f then some u else mA g)
  rw [uY]
  by_cases q:g=f
  ·rw [if_pos q,if_pos q];exact ry
  ·rw [if_neg q,if_neg q];exact r g
 ·by_cases q:g=f
  ·rw [q];exact (tG f y fs).1
  ·refine (tG f y fs).2 g (wi g fun z=>hg ?_)
   show (if g=f then some u else mA g)=none
   rw [if_neg q];exact z
theorem Inv.made (I:Inv X pins σ H s):Inv X pins σ (upd (upd H s.heap.objs.size (.own (s.heap.objs.size+1))) (s.heap.objs.size+1) (.ins C s.heap.objs.size []))
  { s with heap:=(s.heap.push PySem.W.emptyDict).push (PySem.W.instObj C s.heap.objs.size) }:=by
 have e1:(s.heap.push PySem.W.emptyDict).get? s.heap.objs.size=some PySem.W.emptyDict:=Heap.get?_push_size s.heap rfl
 have e2:((s.heap.push PySem.W.emptyDict).push (PySem.W.instObj C s.heap.objs.size)).get? (s.heap.objs.size+1)=some (PySem.W.instObj C s.heap.objs.size):=by
  have:=Heap.get?_push_size (s.heap.push PySem.W.emptyDict) (o:=PySem.W.instObj C s.heap.objs.size) rfl
  rwa [Heap.size_push] at this
 have e3:(s.heap.push PySem.W.emptyDict).Ns s.heap.objs.size (fun _=>none):=⟨PySem.W.emptyDict,#[],_,e1,rfl,(fun e he=>absurd he (by simp)),fun _=>rfl⟩
 have I1:=I.laid (a:=s.heap.objs.size) (o:=.own (s.heap.objs.size+1)) (h':=s.heap.push PySem.W.emptyDict) (t':=s.toks) (fun b u q=>Heap.get?_push_of_some _ q) (Nat.le_refl _) ⟨_,e1⟩
 refine I1.laid (a:=s.heap.objs.size+1) (o:=.ins C s.heap.objs.size []) (t':=s.toks) (fun b u q=>Heap.get?_push_of_some _ q) (Nat.le_of_eq (Heap.size_push _ _)) ?_
 have ne:s.heap.objs.size≠s.heap.objs.size+1:=Nat.ne_of_lt (Nat.lt_succ_self _)
 refine ⟨by rw [aD ne,aB],Nat.zero_le _,ne,e2,fun _=>none,(Heap.Ns1.of_empty e3).at fun o q=>Heap.get?_push_of_some _ q,fun _=>True.intro,fun y hy=>absurd rfl hy⟩
theorem Qi {prog:Program} {w:World} {env:Env} {e:Expr} {f:Str} {pos:Pos} {s:Shared} {Q:Value→Shared→Prop} (hb:attributeBase e f env (eval e env)=eval e env)
  (h:wpAny (model prog w) A (eval e env) (fun o s₁=>wpAny (model prog w) A (getAttr o f true) Q E s₁) E s):wpAny (model prog w) A (eval (.Attribute e f pos) env) Q E s :=
 Attribute_any_ h (by rw [arm_eval_Attribute,hb])
end
def JG (K:PySem.W.Frag) (ta:TE) (f:Str):TE:=fun σ H Q=>ta σ H fun x H1=>∃ a C dx fs v,x=.ref a∧H1 a=some (.ins C dx fs)∧MC K C∧dE K C f∧fs.lookup f=some v∧Q v H1
def N9 (K:PySem.W.Frag) (ta tv:TE) (f:Str):TS:=fun D σ H=>tv σ H fun y H1=>ta σ H1 fun x H2=>∃ a C dx fs,x=.ref a∧H2 a=some (.ins C dx fs)∧MC K C∧dE K C f∧fs.length < 1000 ∧
 D.nx σ (upd H2 a (.ins C dx (eN f y fs)))
def aAA (X:Cx) (op:Operator) (rd:V→V→Hp→VK→Prop):Prop :=
 ∀ (pins:List (Addr × Obj)) (s:Shared) (σ:St) (H:Hp) (x y:V) (u v:Value) (Q:VK),Inv X pins σ H s→RelV x u→RelV y v→rd x y H Q→wpAny (model X.prog X.w) X.A (inplaceOp op u v) (EP X pins σ Q) X.xe s
def zd (K:PySem.W.Frag) (ta tv:TE) (rd:V→V→Hp→VK→Prop) (f:Str):TS:=fun D σ H=>ta σ H fun x H1=>∃ a C dx fs v,x=.ref a∧H1 a=some (.ins C dx fs)∧MC K C∧dE K C f∧fs.lookup f=some v ∧
 tv σ H1 fun y H2=>rd v y H2 fun z H3=>∃ dx' QI,H3 a=some (.ins C dx' QI)∧QI.length < 1000∧D.nx σ (upd H3 a (.ins C dx' (eN f z QI)))
section
variable {X:Cx} {o e value:Expr} {f:Str} {pos pos' ze:Pos} {ta tv:TE}
theorem UK (he:PE X e ta) (hb:attributeBase e f X.env (eval e X.env)=eval e X.env):PE X (.Attribute e f pos) (JG X.K ta f):=by
 intro pins s σ H Q I h
 refine Qi hb (bu (he pins s σ H _ I h) fun u s1 ⟨x,H1,I1,rx,a,C,dx,fs,v,ex,ea,c,n,l,q⟩=>?_)
 subst ex
 obtain rfl:u=Value.ref a:=rx
 exact ve I1 ea c n l fun u' s2 I2 ru=>⟨v,H1,I2,ru,q⟩
theorem UL (ha:PE X o ta) (hv:PE X value tv) (hs:swapsWith value (some (.Attribute o f pos')) pos.line X.env=pure false):PS X (.Assign [.Attribute o f pos'] value pos) (N9 X.K ta tv f):=by
 intro pins s σ H D I h
 refine plainObj_wpAny_Assign_Attribute (bu (hv pins s σ H _ I h) fun u s1 ⟨y,H1,I1,ry,q⟩=>bu (ha pins s1 σ H1 _ I1 q) fun ov s2 ⟨x,H2,I2,rx,a,C,dx,fs,ex,ea,c,n,l,q2⟩=>?_) hs
 subst ex
 obtain rfl:ov=Value.ref a:=rx
 exact vg I2 ea c n l ry fun s3 I3=>⟨σ,_,I3,q2⟩
theorem yo {op:Operator} {rd:V→V→Hp→VK→Prop} (ha:PE X o ta) (hv:PE X value tv) (hop:aAA X op rd):PS X (.AugAssign (.Attribute o f ze) op value pos) (zd X.K ta tv rd f):=by
 intro pins s σ H D I h
 refine wpAny_AugAssign_AttributeAny (bu (ha pins s σ H _ I h) fun ov s1 ⟨x,H1,I1,rx,a,C,dx,fs,v,ex,ea,c,n,l,q⟩=>?_)
 subst ex
 obtain rfl:ov=Value.ref a:=rx
 refine ve I1 ea c n l fun u s2 I2 ru=>bu (hv pins s2 σ H1 _ I2 q) fun w3 s3 ⟨y,H2,I3,ry,q3⟩=>bu (hop pins s3 σ H2 v y u w3 _ I3 ru ry q3) fun w4 s4 ⟨z,H3,I4,rz,dx',QI,ea',l',q4⟩=>?_
 exact vg I4 ea' c n l' rz fun s5 I5=>⟨σ,_,I5,q4⟩
end
section
variable {X:Cx} {pins:List (Addr × Obj)} {σ:St} {H:Hp} {s:Shared} {A:Around} {E:Value→Shared→Prop} {Q:Value→Shared→Prop} {c:Value} {b:Bool}
inductive u9 (K:PySem.W.Frag) (H:Hp):V→Value→Prop where
 | bJ:u9 K H .bJ (.type "NoneType")
 | bl (x:Bool):u9 K H (.bl x) (.type "bool")
 | int (i:Int):u9 K H (.int i) (.type "int")
 | str (x:Str):u9 K H (.str x) (.type "str")
 | WC (x:UInt64):u9 K H (.WC x) (.type "float")
 | lst {a:Addr} {xs:List V} (e:H a=some (.lst xs)):u9 K H (.ref a) (.type "list")
 | Ir {a:Addr} {o:Obj} {xs:List V} (e:H a=some (.Ir o (.lst xs))):u9 K H (.ref a) (.type "list")
 | tup {a:Addr} {xs:List V} (e:H a=some (.tup xs)):u9 K H (.ref a) (.type "tuple")
 | dK {a:Addr} {aq:List (Key × V)} (e:H a=some (.dK aq)):u9 K H (.ref a) (.type "dict")
 | dT {a:Addr} {aq:List (List Key × V)} (e:H a=some (.dT aq)):u9 K H (.ref a) (.type "dict")
 | ins {a C dx:Addr} {fs:List (Str × V)} (e:H a=some (.ins C dx fs)) (cl:MC K C) (ha:PySem.W.findIn K (.ref C) "__class__"=some (some (.builtin "object.__class__")))
   (hn:PySem.W.specialIn K (.builtin "object.__class__") "__get__"=some (some (.builtin "getset_descriptor.__get__"))) (htk:PySem.W.takesIn K (.builtin "object.__class__")=some true)
   (hm:PySem.W.mroIn K C (.type "object")=some true):u9 K H (.ref a) (.ref C)
end
end L2
namespace L2
open PySem PySem.Spec PyProof.Rows
structure dv (k:Nat) (A:Around):Prop where
 hd:A.handled=none
 dp:A.depth+3 * k+5 < recursionLimit
 un:A.units+16 * k+200 < cLine
theorem dv.mono {j k:Nat} {A:Around} (r:dv k A) (h:j≤k):dv j A:=⟨r.hd,by have:=r.dp;omega,by have:=r.un;omega⟩
theorem dv.deeper {k:Nat} {A:Around} (r:dv (k+1) A) (env:Env):dv k (A.deeper env) :=
 ⟨r.hd,by have:=r.dp;show A.depth+1+3 * k+5 < _;omega,by have:=r.un;show A.units+3+16 * k+200 < _;omega⟩
theorem dv.in1 {k:Nat} {A:Around} (r:dv (k+1) A):dv k A.in1 :=
 ⟨r.hd,by have:=r.dp;show A.depth+3 * k+5 < _;omega,by have:=r.un;show A.units+1+16 * k+200 < _;omega⟩
theorem JH {A:Around} {C:Addr} {us:List Value} {kw:List (Str × Value)}:(A.under (.builtin "type.__call__" ⟨.ref C :: us,kw⟩)).depth=A.depth+1:=by
 first | rfl | simp [Around.under,Code.weight,Code.isCreation,Code.isGuard,Code.isCaller,Code.frames,Code.isFrame,guardIds]
theorem JI {A:Around} {C:Addr} {us:List Value} {kw:List (Str × Value)}:(A.under (.builtin "type.__call__" ⟨.ref C :: us,kw⟩)).units=A.units+1:=by
 first | rfl | simp [Around.under,Code.cUnits,Code.frames,Code.isFrame]
theorem dv.make {k:Nat} {A:Around} (r:dv (k+1) A) (C:Addr) (us:List Value) (kw:List (Str × Value)):dv k (A.under (.builtin "type.__call__" ⟨.ref C :: us,kw⟩)) :=
 ⟨r.hd,by have:=r.dp;rw [JH];omega,by have:=r.un;rw [JI];omega⟩
theorem dv.depth {k:Nat} {A:Around} (r:dv k A):A.depth < recursionLimit:=by have:=r.dp;omega
theorem dv.units {k:Nat} {A:Around} (r:dv k A):A.units+64 < cLine:=by have:=r.un;omega
def MD:TA:=fun _ H Q=>Q [] H
def K1 (ta:TE) (tr:TA):TA:=fun σ H Q=>ta σ H fun x H1=>tr σ H1 fun xs H2=>Q (x :: xs) H2
section
variable {X:Cx} {e:Expr} {es:List Expr} {te:TE} {t:TA} {pos:Pos}
theorem aE:PA X [] MD:=fun _ _ _ _ H Q I h=>Calls.spliced_nil ⟨[],H,I,.nil,h⟩
theorem aA (ha:PE X e te) (hr:PA X es t) (hs:starEach (e :: es) X.env=(false,eval e X.env) :: starEach es X.env:=by rfl):PA X (e :: es) (K1 te t):=by
 intro pos pins s σ H Q I h
 rw [hs]
 show wpAny _ _ (spliced ((false,eval e X.env) :: backTo pos (starEach es X.env))) _ _ s
 refine Calls.spliced_cons (bu (ha pins s σ H _ I h) fun u s1 ⟨x,H1,I1,r1,q1⟩=>?_)
 exact bu (hr pos pins s1 σ H1 _ I1 q1) fun us s2 ⟨xs,H2,I2,r2,q2⟩=>⟨x :: xs,H2,I2,.cons r1 r2,q2⟩
def XB (t:TA):TE:=fun σ H Q=>t σ H fun xs H1=>xs.length≤sizeLine∧∀ p,H1 p=none→Q (.ref p) (upd H1 p (.tup xs))
def aAC (t:TA):TE:=fun σ H Q=>t σ H fun xs H1=>xs.length≤sizeLine∧∀ p,H1 p=none→Q (.ref p) (upd H1 p (.lst xs))
theorem bB {x1} (h:PA X es t):PE X (.Tuple es x1 pos) (XB t):=by
 intro pins s σ H Q I hq
 refine wpAny_Tuple_spliced (bu (h pos pins s σ H _ I hq) fun us s1 ⟨xs,H1,I1,r,z,q⟩=>⟨by rw [← r.length];exact z,?_⟩)
 have hf:H1 s1.heap.objs.size=none:=I1.bz.fresh (Nat.le_refl _)
 refine ⟨.ref s1.heap.objs.size,upd H1 s1.heap.objs.size (.tup xs),I1.laid (t':=s1.toks) (fun b u e=>Heap.get?_push_of_some _ e) (Nat.le_refl _) ?_,rfl,q _ hf⟩
 exact ⟨z,us,r,⟨_,Heap.get?_push_size _ rfl,rfl,_,rfl⟩⟩
theorem bF (h:PA X es t):PE X (.List es pos) (aAC t):=by
 intro pins s σ H Q I hq
 refine wpAny_List_spliced (bu (h pos pins s σ H _ I hq) fun us s1 ⟨xs,H1,I1,r,z,q⟩=>⟨by rw [← r.length];exact z,?_⟩)
 have hf:H1 s1.heap.objs.size=none:=I1.bz.fresh (Nat.le_refl _)
 refine ⟨.ref s1.heap.objs.size,upd H1 s1.heap.objs.size (.lst xs),I1.laid (t':=s1.toks) (fun b u e=>Heap.get?_push_of_some _ e) (Nat.le_refl _) ?_,rfl,q _ hf⟩
 exact ⟨z,us,0,r,Heap.get?_push_size _ rfl⟩
end
abbrev Sp:=List V→Hp→VK→XK→Prop
abbrev Gj:=List Env→Hp→Shared→XK→Value→Shared→Prop
structure xg (P:Program) (w:World) (K:PySem.W.Frag) (mg:Str→Option Value) (base:Heap) (A:Around) (outer:List Env) (s:Shared) (H:Hp):Prop where
 frames:A.frames=some outer
 mod:Mod K mg base
 bs:∀ b o,base.get? b=some o→s.heap.get? b=some o∧H b=none
 Nr:base.objs.size≤s.heap.objs.size
 su:s.heap.FunFrames base outer
 Sz:∀ b ∈ pJ outer,H b=none
 bz:pq P w H s.heap
 bare:AllBare s.gens
def CE (outer:List Env) (P:Program) (w:World) (H:Hp) (s:Shared) (Q:VK) (u:Value) (s':Shared):Prop :=
 ∃ v H',s'.os=s.os∧AllBare s'.gens∧Un (pJ outer) [] H H' s.heap s'.heap∧pq P w H' s'.heap∧RelV v u∧Q v H'
def CR (CX:Gj) (outer:List Env) (P:Program) (w:World) (H:Hp) (s:Shared) (Q:VK) (E:XK) (r:Result) (s':Shared):Prop :=
 match r with
 | .ok (.ret u)=>CE outer P w H s Q u s'
 | .ok _=>False
 | .error e=>CX outer H s E e s'
structure bZ (P:Program) (w:World) (K:PySem.W.Frag) (mg:Str→Option Value) (base:Heap) (CX:Gj) (k:Nat) (f:Addr) (fd:FuncData) (ps:List Str) (sp:Sp):Prop where
 len:∀ vs H Q E,sp vs H Q E→vs.length=ps.length
 run:∀ (A:Around) (outer:List Env) (s:Shared) (H:Hp) (args:Args) (us:List Value) (vs:List V) (Q:VK) (E:XK),dv k A→xg P w K mg base A outer s H→BindsTo s fd args (ps.zip us)→au vs us→sp vs H Q E →
  codeAny (model P w) A (.call (.ref f) args) (CR CX outer P w H s Q E) s
theorem bZ.mono {P:Program} {w:World} {K:PySem.W.Frag} {mg:Str→Option Value} {base:Heap} {CX:Gj} {j k:Nat} {f:Addr} {fd:FuncData} {ps:List Str} {sp:Sp} (F:bZ P w K mg base CX j f fd ps sp) (h:j≤k) :
  bZ P w K mg base CX k f fd ps sp:=⟨F.len,fun A outer s H args us vs Q E hr=>F.run A outer s H args us vs Q E (hr.mono h)⟩
theorem bZ.imp {P:Program} {w:World} {K:PySem.W.Frag} {mg:Str→Option Value} {base:Heap} {CX:Gj} {k:Nat} {f:Addr} {fd:FuncData} {ps:List Str} {sp sp':Sp} (F:bZ P w K mg base CX k f fd ps sp)
  (h:∀ vs H Q E,sp' vs H Q E→sp vs H Q E):bZ P w K mg base CX k f fd ps sp' :=
 ⟨fun vs H Q E q=>F.len vs H Q E (h _ _ _ _ q),fun A outer s H args us vs Q E hr he hb hv hs=>F.run A outer s H args us vs Q E hr he hb hv (h _ _ _ _ hs)⟩
theorem xg.make {P:Program} {w:World} {K:PySem.W.Frag} {mg:Str→Option Value} {base:Heap} {A:Around} {outer:List Env} {s:Shared} {H:Hp} (e:xg P w K mg base A outer s H) (C:Addr) (us:List Value) (kw:List (Str × Value)) :
  xg P w K mg base (A.under (.builtin "type.__call__" ⟨.ref C :: us,kw⟩)) outer s H:=⟨by first | exact e.frames | (simpa [Around.under,Code.envs,Code.isFrame,pushEnvs] using e.frames),e.mod,e.bs,e.Nr,e.su,e.Sz,e.bz,e.bare⟩
theorem xg.in1 {P:Program} {w:World} {K:PySem.W.Frag} {mg:Str→Option Value} {base:Heap} {A:Around} {outer:List Env} {s:Shared} {H:Hp} (e:xg P w K mg base A outer s H) :
  xg P w K mg base A.in1 outer s H:=⟨e.frames,e.mod,e.bs,e.Nr,e.su,e.Sz,e.bz,e.bare⟩
section
variable {X:Cx} {pins:List (Addr × Obj)} {σ:St} {H:Hp} {s s':Shared}
theorem Inv.XC (I:Inv X pins σ H s):xg X.prog X.w X.K X.mg X.base X.A X.stack s H :=
 ⟨I.ok.frames,I.ok.mod,I.bs,Nat.le_trans I.ok.Nr I.sz,I.stack,I.zY,I.bz,I.bare⟩
theorem Inv.after {Q:VK} {u:Value} (I:Inv X pins σ H s) (h:CE X.stack X.prog X.w H s Q u s'):EP X pins σ Q u s':=by
 obtain ⟨v,H',os,bare,un,bz,r,q⟩:=h
 obtain ⟨hh,g,d,t,os'⟩:=s'
 obtain rfl:os'=s.os:=os
 exact ⟨v,H',I.call (h':=hh) (g':=g) (d':=d) (t':=t) (ch:=[]) un bz bare (fun b z=>absurd z (by simp)),r,q⟩
end
def S7 (sp:Sp) (xb:List V) (E:XK) (t:TA):TE:=fun σ H Q=>t σ H fun vs H1=>sp (vs ++ xb) H1 Q E
def K2 (C:Addr) (m:Str) (sp:Sp) (xb:List V) (E:XK) (ta:TE) (t:TA):TE:=fun σ H Q=>ta σ H fun x H1=>∃ a dx fs,x=.ref a∧H1 a=some (.ins C dx fs)∧fs.lookup m=none ∧
 t σ H1 fun vs H2=>sp (x :: (vs ++ xb)) H2 Q E
def XD (C:Addr) (sp:Sp) (xb:List V) (E:XK) (t:TA):TE:=fun σ H Q=>t σ H fun vs H1=>∀ x dx,H1 x=none→H1 dx=none→dx≠x →
 sp (.ref x :: (vs ++ xb)) (upd (upd H1 dx (.own x)) x (.ins C dx [])) (fun v H2=>v=.bJ∧Q (.ref x) H2) E
def Binds (K:PySem.W.Frag) (fd:FuncData) (ps:List Str) (ds:List Value):Prop :=
 ∀ (s:Shared) (us:List Value),K.In s.heap→(us ++ ds).length=ps.length→BindsTo s fd ⟨us,[]⟩ (ps.zip (us ++ ds))
theorem Binds.all {K:PySem.W.Frag} {fd:FuncData} {ps:List Str} (h:∀ us:List Value,us.length=ps.length→bindArgs fd ⟨us,[]⟩=pure (ps.zip us)):Binds K fd ps []:=fun s us _ hl=>by
 rw [List.append_nil] at hl ⊢
 exact .of_eq (h us hl)
def l4 (CX:Gj) (X:Cx) (E:XK):Prop:=∀ (pins:List (Addr × Obj)) (σ:St) (H:Hp) (s:Shared) (e:Value) (s':Shared),Inv X pins σ H s→CX X.stack H s E e s'→X.xe e s'
section
variable {X:Cx} {CX:Gj} {k:Nat} {f C:Addr} {fd:FuncData} {ps:List Str} {sp:Sp} {xb:List V} {ds:List Value} {E:XK} {x m:Str} {p pos apos:Pos} {e o:Expr} {es:List Expr} {ta:TE} {t:TA}
theorem JJ {pins:List (Addr × Obj)} {σ:St} {H:Hp} {s:Shared} {Q:VK} {us:List Value} {vs:List V} (F:bZ X.prog X.w X.K X.mg X.base CX k f fd ps sp) (hr:dv k X.A) (hb:Binds X.K fd ps ds) (hd:au xb ds) (hx:l4 CX X E)
  (I:Inv X pins σ H s) (r:au vs us) (h:sp (vs ++ xb) H Q E):wpAny (model X.prog X.w) X.A (call (.ref f) us) (EP X pins σ Q) X.xe s:=by
 have r2:au (vs ++ xb) (us ++ ds):=r.append hd
 have hl:(us ++ ds).length=ps.length:=by rw [← r2.length];exact F.len _ _ _ _ h
 refine wpAny_call (codeAny_mono (F.run X.A X.stack s H ⟨us,[]⟩ (us ++ ds) (vs ++ xb) Q E hr I.XC (hb s us I.Kq hl) r2 h) fun r s' hq=>?_)
 cases r with
 | error e=>exact hx pins σ H s e s' I hq
 | ok fl =>
  cases fl with
  | ret u=>exact I.after hq
  | next=>exact False.elim hq
  | brk=>exact False.elim hq
  | cont=>exact False.elim hq
theorem Qj (F:bZ X.prog X.w X.K X.mg X.base CX k f fd ps sp) (hr:dv k X.A) (hg:Gl X x) (hm:X.mg x=some (.ref f)) (hk:PySem.W.keepIn X.K (.ref f)=true) (hb:Binds X.K fd ps ds) (hd:au xb ds) (hx:l4 CX X E)
  (ha:PA X (e :: es) t) (OA:(x == ("__debug__":Str))=false:=by decide) (he:starEach (e :: es) X.env=(false,eval e X.env) :: starEach es X.env:=by rfl) (kK:(backTo pos (starEach es X.env)).any (·.1)=false:=by rfl) :
  PE X (.Call (.Name x p) (e :: es) [] pos) (S7 sp xb E t):=by
 intro pins s σ H Q I h
 refine wpAny_Call_Name_kw (vN I hg hm ?_ OA)
 refine PySem.W.callWith_K (h₀:=X.base) I.ok.mod.WE hk (bu (ha pos pins s σ H _ I h) fun us s1 ⟨vs,H1,I1,r,q⟩=>⟨I1.Kq,?_⟩) he kK
 exact JJ F hr hb hd hx I1 r q
theorem pN {pl:Sem Bool} (he:PE X o ta) (c:MC X.K C) (hm:ng X.K C m f) (F:bZ X.prog X.w X.K X.mg X.base CX k f fd ps sp) (hr:dv k X.A) (hb:Binds X.K fd ps ds) (hd:au xb ds) (hx:l4 CX X E) (ha:PA X (e :: es) t)
  (sj:starEach (e :: es) X.env=(false,eval e X.env) :: starEach es X.env:=by rfl) (kK:(backTo pos (starEach es X.env)).any (·.1)=false:=by rfl)
  (ht:eval (.Call (.Attribute o m apos) (e :: es) [] pos) X.env=(do
   let ov ← eval o X.env
   standAt apos.atName
   let (f,first) ← holding [ov] (getMethod ov m pl)
   callWith pos f first (backTo pos (starEach (e :: es) X.env)) (backToKw pos (keywordEach [] X.env))):=by rfl) :
  PE X (.Call (.Attribute o m apos) (e :: es) [] pos) (K2 C m sp xb E ta t):=by
 intro pins s σ H Q I h
 refine PySem.W.methodCall_KW (pl:=pl) (bu (he pins s σ H _ I h) fun u s1 ⟨x,H1,I1,rx,a,dx,fs,ex,ea,l,q⟩=>?_) ht
 subst ex
 obtain rfl:u=Value.ref a:=rx
 refine vf I1 ea c hm l ?_
 refine PySem.W.callWith_K (first:=[.ref a]) (h₀:=X.base) I.ok.mod.WE hm.kp (bu (ha pos pins s1 σ H1 _ I1 q) fun us s2 ⟨vs,H2,I2,r,q2⟩=>⟨I2.Kq,?_⟩) sj kK
 exact JJ (us:=.ref a :: us) (vs:=.ref a :: vs) F hr hb hd hx I2 (.cons rfl r) q2
theorem dh {pl:Sem Bool} (he:PE X o ta) (c:MC X.K C) (hm:ng X.K C m f) (F:bZ X.prog X.w X.K X.mg X.base CX k f fd ps sp) (hr:dv k X.A) (hb:Binds X.K fd ps ds) (hd:au xb ds) (hx:l4 CX X E)
  (ht:eval (.Call (.Attribute o m apos) [] [] pos) X.env=(do
   let ov ← eval o X.env
   standAt apos.atName
   let (f,first) ← holding [ov] (getMethod ov m pl)
   callWith pos f first (backTo pos (starEach [] X.env)) (backToKw pos (keywordEach [] X.env))):=by rfl) :
  PE X (.Call (.Attribute o m apos) [] [] pos) (K2 C m sp xb E ta MD):=by
 intro pins s σ H Q I h
 refine PySem.W.methodCall_KW (pl:=pl) (bu (he pins s σ H _ I h) fun u s1 ⟨x,H1,I1,rx,a,dx,fs,ex,ea,l,q⟩=>?_) ht
 subst ex
 obtain rfl:u=Value.ref a:=rx
 refine vf I1 ea c hm l ?_
 exact PySem.W.callWith_K0 (first:=[.ref a]) I1.Kq hm.kp (JJ (us:=[.ref a]) (vs:=[.ref a]) F hr hb hd hx I1 (.cons rfl .nil) q)
structure Mk (K:PySem.W.Frag) (C f:Addr):Prop where
 makes:PySem.W.makesIn K C=true
 init:PySem.W.findIn K (.ref C) "__init__"=some (some (.ref f))
 fn:PySem.W.isFn K (.ref f)=true
 kp:PySem.W.keepIn K (.ref C)=true
theorem OB {pins:List (Addr × Obj)} {σ:St} {H:Hp} {s:Shared} {Q:VK} {us:List Value} {vs:List V} (M:Mk X.K C f) (F:bZ X.prog X.w X.K X.mg X.base CX k f fd ps sp) (hr:dv (k+1) X.A) (hb:Binds X.K fd ps ds) (hd:au xb ds)
  (hx:l4 CX X E) (I:Inv X pins σ H s) (r:au vs us)
  (h:∀ x dx,H x=none→H dx=none→dx≠x→sp (.ref x :: (vs ++ xb)) (upd (upd H dx (.own x)) x (.ins C dx [])) (fun v H2=>v=.bJ∧Q (.ref x) H2) E) :
  wpAny (model X.prog X.w) X.A (call (.ref C) us) (EP X pins σ Q) X.xe s:=by
 have hq:=h (s.heap.objs.size+1) s.heap.objs.size (I.bz.fresh (Nat.le_succ _)) (I.bz.fresh (Nat.le_refl _)) (Nat.ne_of_lt (Nat.lt_succ_self _))
 have I2:=Inv.made (C:=C) I
 have r2:au (V.ref (s.heap.objs.size+1) :: (vs ++ xb)) (Value.ref (s.heap.objs.size+1) :: (us ++ ds)):=.cons rfl (r.append hd)
 have hl:(Value.ref (s.heap.objs.size+1) :: us ++ ds).length=ps.length:=by
  have e:=r2.length
  rw [F.len _ _ _ _ hq] at e
  exact e.symm
 refine wpAny_call (N8 (f:=f) I.Kq M.makes M.init (beq_iff_eq.mp M.fn) (codeAny_mono (F.run _ X.stack _ _ ⟨Value.ref (s.heap.objs.size+1) :: us,[]⟩ (Value.ref (s.heap.objs.size+1) :: (us ++ ds)) _ _ E (hr.make C us [])
  (I2.XC.make C us []) (hb _ (Value.ref (s.heap.objs.size+1) :: us) I2.Kq hl) r2 hq) fun r s' UM=>?_))
 cases r with
 | error e=>exact hx pins σ _ _ e s' I2 UM
 | ok fl =>
  cases fl with
  | ret u =>
   obtain ⟨v,H',I3,rv,ev,q3⟩:=I2.after UM
   subst ev
   exact ⟨rv,⟨V.ref (s.heap.objs.size+1),H',I3,rfl,q3⟩⟩
  | next=>exact False.elim UM
  | brk=>exact False.elim UM
  | cont=>exact False.elim UM
theorem K3 (M:Mk X.K C f) (F:bZ X.prog X.w X.K X.mg X.base CX k f fd ps sp) (hr:dv (k+1) X.A) (hg:Gl X x) (hm:X.mg x=some (.ref C)) (hb:Binds X.K fd ps ds) (hd:au xb ds) (hx:l4 CX X E)
  (ha:PA X (e :: es) t) (OA:(x == ("__debug__":Str))=false:=by decide) (he:starEach (e :: es) X.env=(false,eval e X.env) :: starEach es X.env:=by rfl) (kK:(backTo pos (starEach es X.env)).any (·.1)=false:=by rfl) :
  PE X (.Call (.Name x p) (e :: es) [] pos) (XD C sp xb E t):=by
 intro pins s σ H Q I h
 refine wpAny_Call_Name_kw (vN I hg hm ?_ OA)
 refine PySem.W.callWith_K (h₀:=X.base) I.ok.mod.WE M.kp (bu (ha pos pins s σ H _ I h) fun us s1 ⟨vs,H1,I1,r,q⟩=>⟨I1.Kq,?_⟩) he kK
 exact OB M F hr hb hd hx I1 r q
end
section
variable {X:Cx} {CX:Gj} {k:Nat} {f C:Addr} {fd:FuncData} {ps ks:List Str} {sp:Sp} {E:XK} {x m:Str} {p pos apos aAD:Pos} {e o:Expr} {es:List Expr} {kws:List Keyword} {te ta:TE} {t tk:TA} {nm:Option Str}
structure aAE (K:PySem.W.Frag) (fd:FuncData) (ps ks:List Str) (g:List Value→List Value→List Value) (gV:List V→List V→List V):Prop where
 to:∀ (s:Shared) (us ws:List Value),K.In s.heap→(g us ws).length=ps.length→BindsTo s fd ⟨us,ks.zip ws⟩ (ps.zip (g us ws))
 rel:∀ {vs:List V} {us:List Value} {zs:List V} {ws:List Value},au vs us→au zs ws→au (gV vs zs) (g us ws)
variable {g:List Value→List Value→List Value} {gV:List V→List V→List V}
end
structure aQ (N P:List Str) (sc:Scope):Prop where
 kind:sc.kind=.function
 co:sc.isCoroutine=false
 gen:sc.isGenerator=false
 nd:N.Nodup
 pre:N.take P.length=P
 par:∀ x ∈ P,sc.names.lookup x=some .local∨sc.names.lookup x=some .cell
 UN:∀ y ∈ sc.names,y.2≠.free
theorem yp {kindOf:Str→Option NameKind} {x:Str}:∀ {binds:List (Str × Value)} {m:Str→Option Value},(∀ v,(x,v) ∉ binds)→bindL kindOf binds m x=m x
 | [],_,_=>rfl
 | (n,v) :: r,m,h=>by
  unfold bindL
  rw [yp fun w hw=>h w (List.mem_cons_of_mem _ hw)]
  split
  ·have:x≠n:=by rintro rfl;exact h v List.mem_cons_self
   simp [this]
  ·rfl
theorem yq {kindOf:Str→Option NameKind} {x:Str}:∀ {binds:List (Str × Value)} {m:Str→Option Value},(∀ v,(x,v) ∉ binds)→bindC kindOf binds m x=m x
 | [],_,_=>rfl
 | (n,v) :: r,m,h=>by
  unfold bindC
  rw [yq fun w hw=>h w (List.mem_cons_of_mem _ hw)]
  split
  ·rfl
  ·have:x≠n:=by rintro rfl;exact h v List.mem_cons_self
   simp [this]
theorem yr {kindOf:Str→Option NameKind} {x:Str} {v:Value}:∀ {P:List Str} {vs:List Value} {i:Nat} {m:Str→Option Value},P.Nodup→P[i]?=some x→vs[i]?=some v→kindOf x=some .local →
  bindL kindOf (P.zip vs) m x=some v
 | [],_,_,_,_,h,_,_=>by simp at h
 | _ :: _,[],_,_,_,_,h,_=>by simp at h
 | p :: P,w :: vs,0,m,nd,h1,h2,hk=>by
  simp at h1 h2;subst h1;subst h2
  show bindL kindOf ((p,w) :: P.zip vs) m p=_
  unfold bindL
  rw [yp fun v hv=>(List.nodup_cons.mp nd).1 (List.of_mem_zip hv).1,if_pos hk]
  simp
 | p :: P,w :: vs,i+1,m,nd,h1,h2,hk=>by
  show bindL kindOf ((p,w) :: P.zip vs) m x=_
  unfold bindL
  exact yr (i:=i) (List.nodup_cons.mp nd).2 (by simpa using h1) (by simpa using h2) hk
theorem yt {kindOf:Str→Option NameKind} {x:Str} {v:Value}:∀ {P:List Str} {vs:List Value} {i:Nat} {m:Str→Option Value},P.Nodup→P[i]?=some x→vs[i]?=some v→kindOf x≠some .local →
  bindC kindOf (P.zip vs) m x=some v
 | [],_,_,_,_,h,_,_=>by simp at h
 | _ :: _,[],_,_,_,_,h,_=>by simp at h
 | p :: P,w :: vs,0,m,nd,h1,h2,hk=>by
  simp at h1 h2;subst h1;subst h2
  show bindC kindOf ((p,w) :: P.zip vs) m p=_
  unfold bindC
  rw [yq fun v hv=>(List.nodup_cons.mp nd).1 (List.of_mem_zip hv).1,if_neg hk]
  simp
 | p :: P,w :: vs,i+1,m,nd,h1,h2,hk=>by
  show bindC kindOf ((p,w) :: P.zip vs) m x=_
  unfold bindC
  exact yt (i:=i) (List.nodup_cons.mp nd).2 (by simpa using h1) (by simpa using h2) hk
def start (N:List Str) (vs:List V):St:=vs.map some ++ List.replicate (N.length - vs.length) none
def JK (CX:Gj) (P:Program) (w:World) (K:PySem.W.Frag) (mg:Str→Option Value) (base:Heap) (N:List Str) (qual:Str) (scope:Scope) (f:Addr) (cd:Value) (A:Around) (outer:List Env) (s:Shared) (H:Hp) (E:XK):Cx where
 prog:=P
 w:=w
 K:=K
 mg:=mg
 base:=base
 A:=A.deeper (envOfC qual scope s.heap.objs.size f cd)
 N:=N
 s₀:=s
 H₀:=H
 env:=envOfC qual scope s.heap.objs.size f cd
 outer:=outer
 stack:=envOfC qual scope s.heap.objs.size f cd :: outer
 ex:=[]
 calm:=true
 fn:=fun _=>true
 pn:=[]
 xe:=fun e s'=>wpAny (model P w) (A.deeper (envOfC qual scope s.heap.objs.size f cd)) (leaving (envOfC qual scope s.heap.objs.size f cd) e) (fun _ UO=>CX outer H s E e UO) (fun e' UO=>CX outer H s E e' UO) s'
theorem Gk {sc:Scope} {n:Nat} {x:Str} (h:sc.names.lookup x=some .cell):∃ c,(cellsFrom n sc.names []).lookup x=some c:=by
 have q:=PySem.W.cellsFrom_some sc.names n [] (.inl h)
 exact Option.isSome_iff_exists.mp q
theorem ME {CX:Gj} {P:Program} {w:World} {K:PySem.W.Frag} {mg:Str→Option Value} {base:Heap} {N ps:List Str} {qual:Str} {scope:Scope} {f:Addr} {cd:Value} {A:Around} {outer:List Env} {s s1:Shared} {H:Hp} {E:XK} {us:List Value} {vs:List V}
  (S:aQ N ps scope) (hd:A.handled=none) (e0:xg P w K mg base A outer s H) (hl:vs.length=ps.length) (r:au vs us)
  (x:InCallC s s.heap.objs.size (bindL (envOfC qual scope s.heap.objs.size f cd).kindOf (ps.zip us) fun _=>none) (cellsFrom (s.heap.objs.size+1) scope.names []) (bindC (envOfC qual scope s.heap.objs.size f cd).kindOf (ps.zip us) fun _=>none) s1) :
  Inv (JK CX P w K mg base N qual scope f cd A outer s H E) [] (start N vs) H s1:=by
 have kK:ps.length≤N.length:=by have:=congrArg List.length S.pre;rw [List.length_take] at this;omega
 obtain ⟨h1,tk,rfl,hk⟩:=x.done
 have XE:∀ b:Addr,b ∉ (JK CX P w K mg base N qual scope f cd A outer s H E).ex:=fun b z=>absurd (show b ∈ ([]:List Addr) from z) (by simp)
 refine ⟨⟨e0.mod,S.kind,rfl,rfl,Nat.le_refl _,fun y z c h1 h2=>?_,fun y hy=>?_,fun y c _ h=>?_,fun _=>hd,Around.frames_deeper e0.frames,.inr ⟨rfl,rfl⟩,fun b z=>absurd z (XE b),e0.bs,e0.Nr,fun b _ _=>XE b,fun b z=>absurd z (XE b),e0.su,e0.Sz⟩,
  rfl,e0.bare,Un.kept hk,⟨_,x.toInCall.ns,fun i y v h1 h2 h3=>?_⟩,fun y c h=>⟨_,x.cell y c h⟩,e0.bz.fresh (Nat.le_refl _),fun y c h=>?_,fun p hp=>absurd (show p ∈ ([]:List (Addr × Obj)) from hp) (by simp),e0.bz.kept hk,?_⟩
 ·exact name_of_addr x.apart (PySem.mem_of_lookup h1) (PySem.mem_of_lookup h2)
 ·have hy:scope.names.lookup y=some .cell∨scope.names.lookup y=some .free:=hy
  rcases hy with hy | hy
  ·exact Gk hy
  ·exact absurd rfl (S.UN _ (PySem.mem_of_lookup hy))
 ·exact Nat.le_of_lt (x.above y c (PySem.mem_of_lookup h))
 ·have hi:i < vs.length:=by
   unfold start at h2
   by_cases hi:i < vs.length
   ·exact hi
   ·rw [List.getElem?_append_right (by simpa using hi)] at h2
    rw [List.getElem?_replicate] at h2
    split at h2 <;> cases h2
  have ha:vs[i]?=some v:=by
   unfold start at h2
   rw [List.getElem?_append_left (by simpa using hi),List.getElem?_map] at h2
   cases e:vs[i]? with
   | none=>rw [e] at h2;cases h2
   | some a=>rw [e] at h2;cases h2;rfl
  obtain ⟨u,hu,rv⟩:=r.get ha
  have hp:ps[i]?=some y:=by
   rw [← S.pre,List.getElem?_take_of_lt (by omega)];exact h1
  have ndP:ps.Nodup:=by rw [← S.pre];exact S.nd.sublist (List.take_sublist _ _)
  refine ⟨u,rv,?_⟩
  rcases S.par y (List.mem_of_getElem? hp) with k | k
  ·exact .inl ⟨k,yr ndP hp hu k⟩
  ·obtain ⟨c,e⟩:=Gk (n:=s.heap.objs.size+1) k
   refine .inr ⟨.inl k,c,e,?_⟩
   have q:=x.cell y c e
   rw [yt ndP hp hu (by show scope.names.lookup y≠_;rw [k];decide)] at q
   exact q
 ·exact e0.bz.fresh (Nat.le_of_lt (x.above y c (PySem.mem_of_lookup h)))
 ·unfold start
  show _=N.length
  rw [List.length_append,List.length_map,List.length_replicate]
  omega
theorem K4 {CX:Gj} {P:Program} {w:World} {K:PySem.W.Frag} {mg:Str→Option Value} {base:Heap} {k:Nat} {f:Addr} {name qual:Str} {params:Arguments} {body:List Stmt} {scope:Scope} {dV kV doc pm bo ct oc:Value} {an od:Option Addr}
  {K5:Array (Option Value)} {N ps:List Str} {sp:Sp} (lk:K.lookup f=some ⟨oc,od,.func (PySem.W.fnOf name qual params body scope dV kV doc pm an bo ct),K5⟩) (yl:PySem.W.codeIn K bo qual=true) (S:aQ N ps scope)
  (len:∀ vs H Q E,sp vs H Q E→vs.length=ps.length)
  (rT:∀ (A:Around) (outer:List Env) (s:Shared) (H:Hp) (vs:List V) (Q:VK) (E:XK),dv k (A.deeper (envOfC qual scope s.heap.objs.size f bo))→sp vs H Q E →
   ∃ t,Iu (JK CX P w K mg base N qual scope f bo A outer s H E) body t∧t { nx:=fun _ H'=>Q .bJ H',rt:=Q } (start N vs) H) :
  bZ P w K mg base CX (k+1) f (PySem.W.fnOf name qual params body scope dV kV doc pm an bo ct) ps sp:=by
 refine ⟨len,fun A outer s H args us vs Q E hr e0 hb r K6=>?_⟩
 have hl:=len _ _ _ _ K6
 have KX:K.In s.heap:=e0.mod.WE.keeps fun b o e=>(e0.bs b o e).1
 have lim:s.heap.NoLimit:=e0.mod.nolimit.keeps fun b o e=>(e0.bs b o e).1
 have XF:∀ y ∈ ps.zip us,scope.names.lookup y.1=some .local∨(scope.names.lookup y.1=some .cell∧((cellsFrom (s.heap.objs.size+1) scope.names []).lookup y.1).isSome=true):=fun ⟨n,v⟩ hy=>by
  rcases S.par n (List.of_mem_zip hy).1 with q | q
  ·exact .inl q
  ·exact .inr ⟨q,PySem.W.cellsFrom_some _ _ _ (.inl q)⟩
 refine codeAny_call_function hr.depth (KX _ _ lk) rfl S.co S.gen rfl (PySem.W.codeRec_of KX yl) (hb _ _ _ _ ?_)
 refine wpAny_newFunctionEnv_cells S.kind XF fun env he s1 x=>?_
 subst he
 refine ⟨lim.keeps x.toInCall.keep,codeAny_func ?_⟩
 obtain ⟨t,ht,hq⟩:=rT A outer s H vs Q E (hr.deeper _) K6
 have I:Inv (JK CX P w K mg base N qual scope f bo A outer s H E) [] (start N vs) H s1:=ME S hr.hd e0 hl r x
 refine wpAny_mono (ht [] s1 (start N vs) H _ I hq) (fun fl s' hs=>?_) fun e s' hs=>hs
 have fin:∀ {σ':St} {H':Hp} {v:V} {u:Value},Inv (JK CX P w K mg base N qual scope f bo A outer s H E) [] σ' H' s'→RelV v u→Q v H'→CE outer P w H s Q u s' :=
  fun {σ' H' v u} J rv q=>⟨v,H',J.os,J.bare,J.base,J.bz,rv,q⟩
 cases fl with
 | ret u =>
  obtain ⟨v,σ',H',J,rv,q⟩:=hs
  exact fin J rv q
 | next =>
  obtain ⟨σ',H',J,q⟩:=hs
  exact fin (v:=V.bJ) (u:=Value.none) J rfl q
 | brk =>
  obtain ⟨_,_,_,q⟩:=hs
  exact False.elim q
 | cont =>
  obtain ⟨_,_,_,q⟩:=hs
  exact False.elim q
end L2
namespace L2
open PySem PySem.Spec PyProof.Rows
section
variable {X:Cx} {x:Str} {p pos:Pos} {e:Expr} {es:List Expr} {t:TA} {id T:String} {r:List V→Hp→VK→Prop}
def tCB (r:List V→Hp→VK→Prop) (t:TA):TE:=fun σ H Q=>t σ H fun vs H1=>r vs H1 Q
theorem bP (hc:jx X (.builtin id) r) (hg:Gl X x) (hm:X.mg x=none) (hv:bootBuiltins x=some (.builtin id)) (ha:PA X (e :: es) t) (hn:x≠"__name__":=by decide) (OA:(x == ("__debug__":Str))=false:=by decide)
  (he:starEach (e :: es) X.env=(false,eval e X.env) :: starEach es X.env:=by rfl) (kK:(backTo pos (starEach es X.env)).any (·.1)=false:=by rfl):PE X (.Call (.Name x p) (e :: es) [] pos) (tCB r t):=by
 intro pins s σ H Q I h
 refine wpAny_Call_Name_kw (lz I hg hm hv ?_ hn OA)
 exact PyProof.Rows.callWith_builtin1 (bu (ha pos pins s σ H _ I h) fun us s1 ⟨vs,H1,I1,r1,q1⟩=>hc pins s1 σ H1 vs us Q I1 r1 q1) he kK
theorem gP (hc:jx X (.type T) r) (hg:Gl X x) (hm:X.mg x=none) (hv:bootBuiltins x=some (.type T)) (ha:PA X (e :: es) t) (hn:x≠"__name__":=by decide) (OA:(x == ("__debug__":Str))=false:=by decide)
  (he:starEach (e :: es) X.env=(false,eval e X.env) :: starEach es X.env:=by rfl) (kK:(backTo pos (starEach es X.env)).any (·.1)=false:=by rfl):PE X (.Call (.Name x p) (e :: es) [] pos) (tCB r t):=by
 intro pins s σ H Q I h
 refine wpAny_Call_Name_kw (lz I hg hm hv ?_ hn OA)
 exact PyProof.Rows.callWith_type1 (bu (ha pos pins s σ H _ I h) fun us s1 ⟨vs,H1,I1,r1,q1⟩=>hc pins s1 σ H1 vs us Q I1 r1 q1) he kK
end
end L2
namespace HT
open PySem PyProof.Rows
section
open PySem.SeqAt
open PySem.AutoSeq1 (wpAny_loadPart')
open PySem.MeetsSeq PySem.MeetsSeq2 PySem.MeetsSeq3
end
section
variable {prog:Program} {w:World} {A:Around} {E:Value→Shared→Prop} {s:Shared}
def Gm (n d:Nat):Option Int→Nat
 | none=>d
 | some v=>if v < 0 then (v+(n:Int)).toNat else min v.toNat n
theorem vh (n d:Nat):Gm n d none=d:=rfl
theorem iu (n d k:Nat):Gm n d (some (k:Int))=min k n:=by
 show (if (k:Int) < 0 then ((k:Int)+(n:Int)).toNat else min (k:Int).toNat n)=min k n
 rw [if_neg (by omega),Int.toNat_natCast]
end
end HT
namespace L2
open PySem PySem.Spec PyProof.Rows
abbrev TO:=St→Hp→(Option Int→Hp→Prop)→Prop
def PO (X:Cx) (e:Option Expr) (t:TO):Prop :=
 ∀ (pins:List (Addr × Obj)) (s:Shared) (σ:St) (H:Hp) (Q:Option Int→Hp→Prop),Inv X pins σ H s→t σ H Q →
  wpAny (model X.prog X.w) X.A (evalPart e X.env) (fun u s'=>∃ o H',Inv X pins σ H' s'∧IsPart u o∧Q o H') X.xe s
def Qk:TO:=fun _ H Q=>Q none H
def XG (t:TE):TO:=fun σ H Q=>t σ H fun x H1=>∃ i,x=.int i∧Q (some i) H1
section
variable {X:Cx} {e:Expr} {te:TE} {lo hi:Option Expr} {tl th:TO} {pos p2:Pos}
theorem rV:PO X none Qk:=by
 intro pins s σ H Q I h
 rw [evalPart_none]
 exact wpAny_pure ⟨none,H,I,.none,h⟩
theorem fb (h:PE X e te):PO X (some e) (XG te):=by
 intro pins s σ H Q I hw
 rw [evalPart_some]
 refine bu (h pins s σ H _ I hw) fun u s1 ⟨x,H1,I1,r1,q1⟩=>?_
 obtain ⟨i,rfl,q⟩:=q1
 obtain ⟨t,rfl⟩:=r1
 exact ⟨some i,H1,I1,.int i t,q⟩
def UP (X:Cx) (r:V→Option Int→Option Int→Hp→VK→Prop):Prop :=
 ∀ (pins:List (Addr × Obj)) (s:Shared) (σ:St) (H:Hp) (x:V) (v vl vu:Value) (lo hi:Option Int) (sl:Addr) (Q:VK),Inv X pins σ H s→RelV x v→s.heap.IsSliceOf sl vl vu .none→IsPart vl lo→IsPart vu hi→r x lo hi H Q →
  ∃ T id,typeLookup (.type T) "__getitem__"=pure (some (.builtin id))∧s.TypeIs v T∧wpAny (model X.prog X.w) X.A (getItem v (.ref sl)) (EP X pins σ Q) X.xe s
theorem UP.or {r r':V→Option Int→Option Int→Hp→VK→Prop} (h:UP X r) (h':UP X r'):UP X (fun x lo hi H Q=>r x lo hi H Q∨r' x lo hi H Q):=by
 intro pins s σ H x v vl vu lo hi sl Q I rx hs pl pu q
 rcases q with q | q
 ·exact h pins s σ H x v vl vu lo hi sl Q I rx hs pl pu q
 ·exact h' pins s σ H x v vl vu lo hi sl Q I rx hs pl pu q
def tSl (r:V→Option Int→Option Int→Hp→VK→Prop) (te:TE) (tl th:TO):TE:=fun σ H Q=>te σ H fun x H1=>tl σ H1 fun l H2=>th σ H2 fun u H3=>r x l u H3 Q
theorem iB {r:V→Option Int→Option Int→Hp→VK→Prop} (hr:UP X r) (he:PE X e te) (hl:PO X lo tl) (hu:PO X hi th):PE X (.Subscript e (.Slice lo hi none p2) pos) (tSl r te tl th):=by
 intro pins s σ H Q I h
 refine Subscript_ (bu (he pins s σ H _ I h) fun v s1 ⟨x,H1,I1,r1,q1⟩=>?_)
 refine wpAny_Slice (bu (hl pins s1 σ H1 _ I1 q1) fun vl s2 ⟨l,H2,I2,pl,q2⟩=>bu (hu pins s2 σ H2 _ I2 q2) fun vu s3 ⟨u,H3,I3,pu,q3⟩=>?_)
 rw [evalPart_none]
 refine wpAny_pure ?_
 have I4:Inv X pins σ H3 { s3 with heap:=s3.heap.push { cls:=.type "slice",data:=.fields #[vl,vu,.none] } }:=I3.kept (t':=s3.toks) fun b ob q=>Heap.get?_push_of_some _ q
 obtain ⟨T,id,hT,ht,hg⟩:=hr pins { s3 with heap:=s3.heap.push { cls:=.type "slice",data:=.fields #[vl,vu,.none] } } σ H3 x v vl vu l u s3.heap.objs.size Q I4 r1 (Heap.IsSliceOf.new ..) pl pu q3
 show wpAny (model X.prog X.w) X.A (subscriptTail e (.Slice lo hi none p2) v (.ref s3.heap.objs.size)) (EP X pins σ Q) X.xe { s3 with heap:=s3.heap.push { cls:=.type "slice",data:=.fields #[vl,vu,.none] } }
 exact tail_any (ops:=[.ref s3.heap.objs.size,v]) ht hT hg (by with_unfolding_all rfl)
def fc (xs:List V) (lo hi:Option Int):List V:=(xs.drop (HT.Gm xs.length 0 lo)).take (HT.Gm xs.length xs.length hi - HT.Gm xs.length 0 lo)
theorem Gn (xs:List V) (lo hi:Option Int):(fc xs lo hi).length≤xs.length:=by
 unfold fc
 rw [List.length_take,List.length_drop]
 omega
end
end L2
namespace L2
open PySem PySem.Spec PyProof.Rows
def MF (n:Nat) (i:Int):Option Nat:=if 0≤i then (if i < n then some i.toNat else none) else if -(n:Int)≤i then some (i+n).toNat else none
def xc {α:Type} (xs:List α) (i:Int):Option α:=(MF xs.length i).bind fun j=>xs[j]?
theorem K7 {n:Nat} {i:Int} {j:Nat} (h:MF n i=some j):seqIndex? i n=some j∧j < n∧-(n:Int)≤i∧i < n:=by
 unfold MF at h
 by_cases h0:0≤i
 ·rw [if_pos h0] at h
  by_cases h1:i < n
  ·rw [if_pos h1] at h
   have e:i.toNat=j:=Option.some.inj h
   exact ⟨by rw [seqIndex_of h0 h1,e],by omega,by omega,h1⟩
  ·rw [if_neg h1] at h;cases h
 ·rw [if_neg h0] at h
  by_cases h1:-(n:Int)≤i
  ·rw [if_pos h1] at h
   have e:(i+n).toNat=j:=Option.some.inj h
   exact ⟨by rw [seqIndex_neg (by omega) h1,e],by omega,h1,by omega⟩
  ·rw [if_neg h1] at h;cases h
theorem K8 {α:Type} {xs:List α} {i:Int} {v:α} (h:xc xs i=some v):∃ j,seqIndex? i xs.length=some j∧xs[j]?=some v∧j < xs.length∧-(xs.length:Int)≤i∧i < xs.length:=by
 unfold xc at h
 cases e:MF xs.length i with
 | none=>rw [e] at h;cases h
 | some j =>
  rw [e] at h
  obtain ⟨h1,h2,h3,h4⟩:=K7 e
  exact ⟨j,h1,h,h2,h3,h4⟩
theorem iw {α:Type} {xs:List α} {j:Nat} {v:α} (h:xs[j]?=some v):xc xs (j:Int)=some v:=by
 have hj:j < xs.length:=(List.getElem?_eq_some_iff.mp h).1
 have e:MF xs.length (j:Int)=some j:=by
  unfold MF
  rw [if_pos (by omega),if_pos (by omega)];simp
 unfold xc;rw [e];exact h
def Ql (b:Expr):Prop:=∀ o i,subscripted b false o i=operate [o,i] (getItem o i)
def Qm (X:Cx) (r:R2):Prop :=
 ∀ (value slice:Expr) (pins:List (Addr × Obj)) (s:Shared) (σ:St) (H:Hp) (x y:V) (v u:Value) (Q:VK),Inv X pins σ H s→RelV x v→RelV y u→r x y H Q →
  subscripted slice false v u=operate [v,u] (getItem v u)→wpAny (model X.prog X.w) X.A (subscriptTail value slice v u) (EP X pins σ Q) X.xe s
def WJ (X:Cx) (id:String) (r:V→List V→Hp→VK→Prop):Prop :=
 ∀ (pins:List (Addr × Obj)) (s:Shared) (σ:St) (H:Hp) (x:V) (xs:List V) (v:Value) (us:List Value) (Q:VK),Inv X pins σ H s→RelV x v→au xs us→r x xs H Q →
  wpAny (model X.prog X.w) X.A (call (.builtin id) (v :: us)) (EP X pins σ Q) X.xe s
section
variable {X:Cx} {a b:Expr} {ta tb:TE} {pos:Pos}
theorem Qm.or {r r':R2} (h:Qm X r) (h':Qm X r'):Qm X (fun x y H Q=>r x y H Q∨r' x y H Q):=by
 intro value slice pins s σ H x y v u Q I rx ry q hs
 rcases q with q | q
 ·exact h value slice pins s σ H x y v u Q I rx ry q hs
 ·exact h' value slice pins s σ H x y v u Q I rx ry q hs
theorem WJ.or {id:String} {r r':V→List V→Hp→VK→Prop} (h:WJ X id r) (h':WJ X id r'):WJ X id (fun x xs H Q=>r x xs H Q∨r' x xs H Q):=by
 intro pins s σ H x xs v us Q I rx rs q
 rcases q with q | q
 ·exact h pins s σ H x xs v us Q I rx rs q
 ·exact h' pins s σ H x xs v us Q I rx rs q
theorem aR {r:R2} (hr:Qm X r) (ha:PE X a ta) (hb:PE X b tb) (hs:Ql b):PE X (.Subscript a b pos) (WI r ta tb):=by
 intro pins s σ H Q I h
 exact Subscript_ (UE ha hb I h fun v u s2 x y H2 I2 rx ry q=>hr a b pins s2 σ H2 x y v u Q I2 rx ry q (hs _ _))
def XH (K:PySem.W.Frag):R2:=fun x y H Q=>∃ p xs i v,x=.ref p∧y=.int i∧aX K H p xs∧xc xs i=some v∧Q v H
def XI (K:PySem.W.Frag):R2:=fun x y H Q=>∃ p xs i v,x=.ref p∧y=.int i∧bw K H p xs∧xc xs i=some v∧Q v H
theorem Qn:Qm X (XH X.K):=by
 intro value slice pins s σ H x y v u Q I rx ry h hs
 obtain ⟨p,xs,i,z,rfl,rfl,hq,he,q⟩:=h
 cases rx
 obtain ⟨t,rfl⟩:=ry
 obtain ⟨ai,r,pl,hz⟩:=I.list hq
 obtain ⟨j,h1,h2,h3,h4,h5⟩:=K8 he
 obtain ⟨w,ew,rw'⟩:=r.get h2
 have hl:=r.length
 have hn:=vd
 have fin:EP X pins σ Q w s:=⟨z,H,I,rw',q⟩
 by_cases h0:0≤i
 ·have hj:i.toNat=j:=by
   rw [seqIndex_of h0 h5] at h1
   exact Option.some.inj h1
  exact item_listR pl.isList h0 (by omega) (by rw [hj];simpa using ew) fin hs
 ·have hj:(i+(ai.toArray.size:Int)).toNat=j:=by
   rw [seqIndex_neg (by omega) h4] at h1
   rw [List.size_toArray,← hl]
   exact Option.some.inj h1
  exact subscriptTail_builtinR (x:=w) pl.isList.typeIs slot_list_getitem.lookup
   (wpAny_getItem_list_neg (Q:=fun r s'=>r=w∧EP X pins σ Q r s') pl.isList (by omega) (by rw [List.size_toArray] <;> omega) (by omega) (by rw [hj];simpa using ew) ⟨rfl,fin⟩) hs
theorem UQ:Qm X (XI X.K):=by
 intro value slice pins s σ H x y v u Q I rx ry h hs
 obtain ⟨p,xs,i,z,rfl,rfl,hq,he,q⟩:=h
 cases rx
 obtain ⟨t,rfl⟩:=ry
 obtain ⟨ai,r,pl,hz⟩:=I.tuple hq
 obtain ⟨j,h1,h2,h3,h4,h5⟩:=K8 he
 obtain ⟨w,ew,rw'⟩:=r.get h2
 have hl:=r.length
 have hn:=vd
 have fin:EP X pins σ Q w s:=⟨z,H,I,rw',q⟩
 exact subscriptTail_builtinR (x:=w) pl.typeIs slot_tuple_getitem.lookup
  (getItem_tuple (j:=j) (Q:=fun r s'=>r=w∧EP X pins σ Q r s') pl (by omega) (by omega) (by rw [List.size_toArray,← hl];exact h1) (by simpa using ew) ⟨rfl,fin⟩) hs
theorem JL (ai:List Value) (n j:Nat) (u:Value):Obj.mapSeq (·.setIfInBounds j u) { cls:=.type "list",data:=.seq ai.toArray n }={ cls:=.type "list",data:=.seq (ai.set j u).toArray n }:=by
 simp [Obj.mapSeq]
theorem Inv.lst {pins:List (Addr × Obj)} {σ:St} {H:Hp} {s:Shared} {p:Addr} {xs:List V} (I:Inv X pins σ H s) (h:H p=some (.lst xs)) :
  ∃ (ai:List Value) (n:Nat),au xs ai∧s.heap.get? p=some { cls:=.type "list",data:=.seq ai.toArray n }∧xs.length≤sizeLine:=by
 obtain ⟨z,ai,n,r,e⟩:=I.bz p _ h
 exact ⟨ai,n,r,e,z⟩
theorem Inv.UR {pins:List (Addr × Obj)} {σ:St} {H:Hp} {s:Shared} {p:Addr} {xs ys:List V} {ai its':List Value} {n n':Nat} {f:Obj→Obj} (I:Inv X pins σ H s) (h:H p=some (.lst xs))
  (ho:s.heap.get? p=some { cls:=.type "list",data:=.seq ai.toArray n }) (hf:f { cls:=.type "list",data:=.seq ai.toArray n }={ cls:=.type "list",data:=.seq its'.toArray n' }) (r:au ys its') (hz:ys.length≤sizeLine) (t:Nat) :
  Inv X pins σ (upd H p (.lst ys)) { s with heap:=s.heap.update p f,toks:=t }:=by
 have e:(s.heap.update p f).get? p=some { cls:=.type "list",data:=.seq its'.toArray n' }:=by
  rw [Heap.get?_update_self f ho (by rw [hf] <;> rfl),hf]
 refine I.write (x:=p) (e:=p) (by rw [h];trivial) (.inl rfl) (fun b u hb q=>(Heap.get?_update_other _ _ (Ne.symm hb)).trans q) ⟨_,e⟩ ?_
 exact ⟨hz,its',n',r,e⟩
def XJ:V→V→V→Hp→(Hp→Prop)→Prop:=fun o i v H Q=>∃ p xs k j,o=.ref p∧i=.int k∧H p=some (.lst xs)∧MF xs.length k=some j∧Q (upd H p (.lst (xs.set j v)))
theorem set_list:W0 X XJ:=by
 intro pins s σ H o i v ov iv u Q I ro ri rv h
 obtain ⟨p,xs,k,j,rfl,rfl,hp,hj,q⟩:=h
 cases ro
 obtain ⟨t,rfl⟩:=ri
 obtain ⟨ai,n,r,ho,hz⟩:=I.lst hp
 obtain ⟨h1,h2,h3,h4⟩:=K7 hj
 have hl:=r.length
 have hn:=vd
 have I':Inv X pins σ (upd H p (.lst (xs.set j v))) { s with heap:=s.heap.update p (Obj.mapSeq (·.setIfInBounds j u)) } :=
  I.UR hp ho (JL ai n j u) (r.set rv j) (by rw [List.length_set];exact hz) s.toks
 by_cases h0:0≤k
 ·have hk:k.toNat=j:=by
   rw [seqIndex_of h0 h4] at h1
   exact Option.some.inj h1
  exact PySem.W.ki_setAt ho h0 (by omega) (by rw [List.size_toArray,← hl];exact h4) (by rw [hk];exact ⟨_,I',q⟩)
 ·have hk:(k+(ai.toArray.size:Int)).toNat=j:=by
   rw [seqIndex_neg (by omega) h3] at h1
   rw [List.size_toArray,← hl]
   exact Option.some.inj h1
  exact PySem.W.ki_setBack ho (by omega) (by rw [List.size_toArray,← hl];exact h3) (by omega) (by rw [hk];exact ⟨_,I',q⟩)
theorem zh (lo hi:Option Int) (n:Nat):(sliceBounds lo hi none n).1=((HT.Gm n 0 lo:Nat):Int)∧(sliceBounds lo hi none n).2.1=((HT.Gm n n hi:Nat):Int)∧(sliceBounds lo hi none n).2.2=1:=by
 refine ⟨?_,?_,rfl⟩
 ·cases lo with
  | none=>simp [sliceBounds,HT.Gm]
  | some i =>
   simp only [sliceBounds,HT.Gm,Option.getD_none,show (1:Int) > 0 by decide,if_true]
   by_cases h:i < 0
   ·simp only [h,if_true] <;> omega
   ·simp only [h,if_false] <;> omega
 ·cases hi with
  | none=>simp [sliceBounds,HT.Gm]
  | some i =>
   simp only [sliceBounds,HT.Gm,Option.getD_none,show (1:Int) > 0 by decide,if_true]
   by_cases h:i < 0
   ·simp only [h,if_true] <;> omega
   ·simp only [h,if_false] <;> omega
theorem xh (ai:List Value) (lo hi:Option Int):slicePick ai.toArray lo hi none=((ai.drop (HT.Gm ai.length 0 lo)).take (HT.Gm ai.length ai.length hi - HT.Gm ai.length 0 lo)).toArray:=by
 obtain ⟨h1,h2,h3⟩:=zh lo hi ai.toArray.size
 unfold slicePick
 rw [h1,h2,h3]
 simp only [sliceRange_one,pick_run,List.size_toArray] <;> rfl
def XM (K:PySem.W.Frag):V→Option Int→Option Int→Hp→VK→Prop:=fun x lo hi H Q=>∃ a xs,x=.ref a∧aX K H a xs∧∀ p,H p=none→Q (.ref p) (upd H p (.lst (fc xs lo hi)))
theorem Qo:UP X (XM X.K):=by
 intro pins s σ H x v vl vu lo hi sl Q I rx hs pl pu h
 obtain ⟨a,xs,rfl,hx,q⟩:=h
 cases rx
 obtain ⟨ai,r,ht,hz⟩:=I.list hx
 have hlen:=r.length
 refine ⟨"list",_,slot_list_getitem.lookup,ht.isList.typeIs,?_⟩
 refine wpAny_getItem_list_slice ht.isList hs pl pu .none (by simp) ?_ (by rw [List.size_toArray] <;> omega)
 rw [xh,← hlen]
 refine ⟨.ref s.heap.objs.size,_,I.laid (t':=s.toks) (o:=.lst (fc xs lo hi)) (fun b ob q=>Heap.get?_push_of_some _ q) (Nat.le_refl _) ?_,rfl,q _ (I.bz.fresh (Nat.le_refl _))⟩
 exact ⟨Nat.le_trans (Gn xs lo hi) hz,_,0,(r.drop (HT.Gm xs.length 0 lo)).take (HT.Gm xs.length xs.length hi - HT.Gm xs.length 0 lo),Heap.get?_push_size _ rfl⟩
def nh:V→Bool
 | .bJ=>true
 | .bl _=>true
 | .int _=>true
 | .str _=>true
 | _=>false
def MG:V→V→Bool
 | .bJ,.bJ=>true
 | .bl a,.bl b=>a == b
 | .bl a,.int b=>(if a then 1 else 0) == b
 | .int a,.bl b=>a == (if b then 1 else 0)
 | .int a,.int b=>a == b
 | .str a,.str b=>a == b
 | _,_=>false
theorem zk {A:Around} {s:Shared} {y x:V} {u v:Value} (ry:RelV y u) (rx:RelV x v) (fy:nh y=true) (fx:nh x=true):SeqAt.EqAt A s u v (MG y x):=by
 cases y with
 | bJ =>
  cases ry
  cases x with
  | bJ=>cases rx;exact SeqAt.EqAt.same _
  | bl b=>cases rx;exact SeqAt.EqAt.none_bool b
  | int b=>obtain ⟨t,rfl⟩:=rx;exact SeqAt.EqAt.none_int b t
  | str b=>obtain ⟨t,rfl⟩:=rx;exact SeqAt.EqAt.none_str b t
  | _=>exact absurd (show false=true from fx) Bool.false_ne_true
 | bl a =>
  cases ry
  cases x with
  | bJ=>cases rx;exact SeqAt.EqAt.bool_none a
  | bl b=>cases rx;exact SeqAt.EqAt.bool_bool a b
  | int b=>obtain ⟨t,rfl⟩:=rx;exact SeqAt.EqAt.bool_int a b t
  | str b=>obtain ⟨t,rfl⟩:=rx;exact SeqAt.EqAt.bool_str a b t
  | _=>exact absurd (show false=true from fx) Bool.false_ne_true
 | int a =>
  obtain ⟨t',rfl⟩:=ry
  cases x with
  | bJ=>cases rx;exact SeqAt.EqAt.int_none a t'
  | bl b=>cases rx;exact SeqAt.EqAt.int_bool a t' b
  | int b=>obtain ⟨t,rfl⟩:=rx;exact SeqAt.EqAt.int_int a t' b t
  | str b=>obtain ⟨t,rfl⟩:=rx;exact SeqAt.EqAt.int_str a t' b t
  | _=>exact absurd (show false=true from fx) Bool.false_ne_true
 | str a =>
  obtain ⟨t',rfl⟩:=ry
  cases x with
  | bJ=>cases rx;exact SeqAt.EqAt.str_none a t'
  | bl b=>cases rx;exact SeqAt.EqAt.str_bool a t' b
  | int b=>obtain ⟨t,rfl⟩:=rx;exact SeqAt.EqAt.str_int a t' b t
  | str b=>obtain ⟨t,rfl⟩:=rx;exact SeqAt.EqAt.str_str a t' b t
  | _=>exact absurd (show false=true from fx) Bool.false_ne_true
 | _=>exact absurd (show false=true from fy) Bool.false_ne_true
def Qp (x:V) (u:Value):Bool:=match u with
 | .none=>MG .bJ x
 | .bool b=>MG (.bl b) x
 | .int i _=>MG (.int i) x
 | .str z _=>MG (.str z) x
 | _=>false
theorem OC {x y:V} {u:Value} (r:RelV y u) (f:nh y=true):Qp x u=MG y x:=by
 cases y with
 | bJ=>cases r;rfl
 | bl b=>cases r;rfl
 | int i=>obtain ⟨t,rfl⟩:=r;rfl
 | str z=>obtain ⟨t,rfl⟩:=r;rfl
 | _=>exact absurd (show false=true from f) Bool.false_ne_true
theorem zl {x:V}:∀ {xs:List V} {us:List Value},au xs us→xs.all nh=true→us.any (Qp x)=xs.any fun y=>MG y x
 | _,_,.nil,_=>rfl
 | y :: xs,u :: us,.cons r t,f=>by
  rw [List.all_cons,Bool.and_eq_true] at f
  rw [List.any_cons,List.any_cons,OC r f.1,zl t f.2]
theorem vi {A:Around} {s:Shared} {x:V} {v:Value} (rx:RelV x v) (fx:nh x=true):∀ {xs:List V} {us:List Value},au xs us→xs.all nh=true→∀ u ∈ us,SeqAt.EqAt A s u v (Qp x u)
 | _,_,.nil,_=>fun u hu=>by cases hu
 | y :: xs,u :: us,.cons r t,f=>fun u' hu=>by
  rw [List.all_cons,Bool.and_eq_true] at f
  rcases List.mem_cons.mp hu with rfl | hu
  ·rw [OC r f.1];exact zk r rx f.1 fx
  ·exact vi rx fx t f.2 u' hu
def WK (x:V) (xs:List V):Bool:=xs.any fun y=>MG y x
def rIn (K:PySem.W.Frag) (neg:Bool):R2:=fun x y H Q=>∃ p xs,y=.ref p∧(aX K H p xs∨bw K H p xs)∧nh x=true∧xs.all nh=true∧Q (.bl (if neg then !WK x xs else WK x xs)) H
theorem MH:nR X (compareOp .In) (rIn X.K false):=by
 intro pins s σ H x y v u Q I rx ry h
 obtain ⟨p,xs,rfl,hq,fx,fs,q⟩:=h
 cases ry
 rcases hq with hq | hq
 ·obtain ⟨ai,r,pl,hz⟩:=I.list hq
  refine SeqAt.in_listAt (Qp x) pl.isList (fun w hw=>vi rx fx r fs w (by simpa using hw)) ⟨.bl _,H,I,rfl,?_⟩
  rw [show ai.toArray.any (Qp x)=ai.any (Qp x) by simp,zl r fs]
  exact q
 ·obtain ⟨ai,r,pl,hz⟩:=I.tuple hq
  refine SeqAt.in_tupleAt (Qp x) pl (fun w hw=>vi rx fx r fs w (by simpa using hw)) ⟨.bl _,H,I,rfl,?_⟩
  rw [show ai.toArray.any (Qp x)=ai.any (Qp x) by simp,zl r fs]
  exact q
theorem zm:jx X (.builtin "len") (fun xs H Q=>∃ p ys,xs=[.ref p]∧(aX X.K H p ys∨bw X.K H p ys)∧Q (.int ys.length) H):=by
 intro pins s σ H xs us Q I r h
 obtain ⟨p,ys,rfl,hq,q⟩:=h
 obtain ⟨u,rfl,rx⟩:=vals1 r
 cases rx
 have hn:=vd
 rcases hq with hq | hq
 ·obtain ⟨ai,r',pl,hz⟩:=I.list hq
  have hlen:=r'.length
  exact Calls.call_len_list pl.isList (by simp only [List.size_toArray] <;> omega) ⟨.int ys.length,H,I.tok _,⟨s.toks+1,by rw [List.size_toArray,hlen]⟩,q⟩
 ·obtain ⟨ai,r',pl,hz⟩:=I.tuple hq
  have hlen:=r'.length
  exact len_tuple pl (by simp only [List.size_toArray] <;> omega) ⟨.int ys.length,H,I.tok _,⟨s.toks+1,by rw [List.size_toArray,hlen]⟩,q⟩
theorem jx.or {f:Value} {r r':List V→Hp→VK→Prop} (h:jx X f r) (h':jx X f r'):jx X f (fun xs H Q=>r xs H Q∨r' xs H Q):=by
 intro pins s σ H xs us Q I rs q
 rcases q with q | q
 ·exact h pins s σ H xs us Q I rs q
 ·exact h' pins s σ H xs us Q I rs q
theorem zo:jx X (.type "list") (fun xs H Q=>∃ p ys,xs=[.ref p]∧(aX X.K H p ys∨bw X.K H p ys)∧∀ l,H l=none→Q (.ref l) (upd H l (.lst ys))):=by
 intro pins s σ H xs us Q I r h
 obtain ⟨p,ys,rfl,hq,q⟩:=h
 obtain ⟨u,rfl,rx⟩:=vals1 r
 cases rx
 have fin:∀ (ai:List Value),au ys ai→ys.length≤sizeLine→∀ (h':Heap) (c':Nat),(∀ b o',s.heap.get? b=some o'→h'.get? b=some o') →
   h'.get? s.heap.objs.size=some { cls:=.type "list",dict:=none,data:=.seq ai.toArray c',slots:=#[] }→EP X pins σ Q (.ref s.heap.objs.size) { s with heap:=h' }:=fun ai r' hz h' c' kp e =>
  ⟨.ref s.heap.objs.size,_,I.laid (t':=s.toks) kp (Nat.le_refl _) (show cJ X.prog X.w _ h' _ (.lst ys) from ⟨hz,ai,c',r',e⟩),rfl,q _ (I.bz.fresh (Nat.le_refl _))⟩
 rcases hq with hq | hq
 ·obtain ⟨ai,r',pl,hz⟩:=I.list hq
  have hlen:=r'.length
  obtain ⟨o,ho,hc,n,hd⟩:=pl.isList
  exact call_list_seq p (.inl rfl) ho hc hd (fun h' c' kp e=>fin ai r' hz h' c' kp e) (by simp only [List.size_toArray] <;> omega)
 ·obtain ⟨ai,r',pl,hz⟩:=I.tuple hq
  have hlen:=r'.length
  obtain ⟨o,ho,hc,n,hd⟩:=pl
  exact call_list_seq p (.inr rfl) ho hc hd (fun h' c' kp e=>fin ai r' hz h' c' kp e) (by simp only [List.size_toArray] <;> omega)
theorem xj:jx X (.type "tuple") (fun xs H Q=>∃ p ys,xs=[.ref p]∧((aX X.K H p ys∧∀ l,H l=none→Q (.ref l) (upd H l (.tup ys)))∨(bw X.K H p ys∧Q (.ref p) H))):=by
 intro pins s σ H xs us Q I r h
 obtain ⟨p,ys,rfl,h⟩:=h
 obtain ⟨u,rfl,rx⟩:=vals1 r
 cases rx
 rcases h with ⟨hq,q⟩ | ⟨hq,q⟩
 ·obtain ⟨ai,r',pl,hz⟩:=I.list hq
  have hlen:=r'.length
  refine call_tuple_list pl.isList (fun h' kp=>?_) (by simp only [List.size_toArray] <;> omega)
  have I1:Inv X pins σ H { s with heap:=h' }:=I.kept (t':=s.toks) kp
  have I2:Inv X pins σ (upd H h'.objs.size (.tup ys)) { s with heap:=h'.push { cls:=.type "tuple",data:=.seq ai.toArray } } :=
   I1.laid (t':=s.toks) (fun b o e=>Heap.get?_push_of_some _ e) (Nat.le_refl _) (show cJ X.prog X.w _ _ _ (.tup ys) from ⟨hz,ai,r',IsTup.new _ _⟩)
  exact ⟨.ref h'.objs.size,_,I2,rfl,q _ (I1.bz.fresh (Nat.le_refl _))⟩
 ·obtain ⟨ai,r',pl,hz⟩:=I.tuple hq
  exact call_tuple_same pl ⟨.ref p,H,I,rfl,q⟩
def tyV (K:PySem.W.Frag) (T:String) (x:V) (H:Hp):Prop:=match x with
 | .str _=>T="str"
 | .int _=>T="int"
 | .ref p=>(T="list"∧∃ xs,aX K H p xs)∨(T="tuple"∧∃ o,K.lookup p=some o∧o.cls=.type "tuple"∧o.dict=none) ∨
   (T="dict"∧((∃ aq,H p=some (.dK aq))∨∃ aq,H p=some (.dT aq)))∨(T="set"∧∃ S n,H p=some (.set S n))
 | _=>False
theorem US {pins:List (Addr × Obj)} {σ:St} {H:Hp} {s:Shared} {T:String} {x:V} {v:Value} (I:Inv X pins σ H s) (r:RelV x v) (ty:tyV X.K T x H) :
  s.TypeIs v T∧∀ a,v=.ref a→∃ ob,s.heap.get? a=some ob∧ob.dict=none:=by
 cases x with
 | str z =>
  obtain ⟨t,rfl⟩:=r
  cases (show T="str" from ty)
  exact ⟨typeIs_str s z t,fun _ e=>nomatch e⟩
 | int i =>
  obtain ⟨t,rfl⟩:=r
  cases (show T="int" from ty)
  exact ⟨typeIs_int s i t,fun _ e=>nomatch e⟩
 | ref p =>
  cases r
  rcases ty with ⟨rfl,xs,hq⟩ | ⟨rfl,o,hk,hc,hd⟩ | ⟨rfl,hk⟩ | ⟨rfl,S,n,hk⟩
  ·obtain ⟨ai,_,pl,_⟩:=I.list hq
   refine ⟨pl.isList.typeIs,fun a e=>?_⟩
   cases e
   obtain ⟨o,n,e,c,hd,_⟩:=pl
   exact ⟨o,e,hd⟩
  ·refine ⟨⟨o,I.Kq p o hk,hc⟩,fun a e=>?_⟩
   cases e
   exact ⟨o,I.Kq _ o hk,hd⟩
  ·have z:∃ o,s.heap.get? p=some o∧o.ExactDict:=by
    rcases hk with ⟨aq,hk⟩ | ⟨aq,hk⟩
    ·obtain ⟨_,_,_,_,o,_,_,e,ex,_⟩:=I.bz p _ hk
     exact ⟨o,e,ex⟩
    ·obtain ⟨_,_,_,_,o,_,_,e,ex,_⟩:=I.bz p _ hk
     exact ⟨o,e,ex⟩
   obtain ⟨o,e,ex⟩:=z
   refine ⟨⟨o,e,ex.1⟩,fun a e2=>?_⟩
   cases e2
   exact ⟨o,e,ex.2.1⟩
  ·obtain ⟨o,_,_,_,e,ex,_⟩:=I.bz p _ hk
   refine ⟨⟨o,e,ex.1⟩,fun a e2=>?_⟩
   cases e2
   exact ⟨o,e,ex.2.1⟩
 | _=>exact False.elim ty
def tBM (K:PySem.W.Frag) (T:String) (r:V→List V→Hp→VK→Prop) (to:TE) (t:TA):TE:=fun σ H Q=>to σ H fun x H1=>tyV K T x H1∧t σ H1 fun xs H2=>r x xs H2 Q
variable {o e:Expr} {es:List Expr} {to:TE} {t:TA} {name:Str} {apos fF:Pos} {T id:String} {r:V→List V→Hp→VK→Prop}
theorem S8 (pa:PlainAttrs T) (slot:Slot T name id) (hty:typeOf (.builtin id)=pure (.type "method_descriptor")) (hm:WJ X id r) (ho:PE X o to) (ha:PA X (e :: es) t)
  (OD:attributeBase o name X.env (eval o X.env)=eval o X.env:=by rfl)
  (UT:((backTo fF (starEach (e :: es) X.env)).all (fun x=>!x.1) && (backToKw fF (keywordEach [] X.env)).all (fun x=>x.1.isSome)
   && decide ((e :: es).length+([]:List Keyword).length+(if ([]:List Keyword).isEmpty then 0 else 1) < 30))=true:=by rfl)
  (OE:(apos.endLine == fF.line)=true:=by rfl) (hs:starEach (e :: es) X.env=(false,eval e X.env) :: starEach es X.env:=by rfl) (JM:(backTo fF (starEach es X.env)).any (·.1)=false:=by rfl) :
  PE X (.Call (.Attribute o name apos) (e :: es) [] fF) (tBM X.K T r to t):=by
 intro pins s σ H Q I h
 refine wpAny_Call_method_late OD UT OE rfl (bu (ho pins s σ H _ I h) fun v s1 ⟨x,H1,I1,r1,ty,q1⟩=>?_)
 obtain ⟨h1,h2⟩:=US I1 r1 ty
 refine ⟨T,id,pa,slot,hty,h1,h2,?_⟩
 have hA:=ha fF pins s1 σ H1 _ I1 q1
 rw [hs] at hA ⊢
 refine Calls.callWith_builtin (by show (false || (backTo fF (starEach es X.env)).any (·.1))=false;rw [JM] <;> rfl) (Calls.evalArgs_plain ?_)
 exact bu hA fun us s2 ⟨vs,H2,I2,r2,q2⟩=>hm pins s2 σ H2 x vs v us Q I2 r1 r2 q2
end
end L2
namespace L2
open PySem PySem.Spec PyProof.Rows
def MtM (X:Cx) (id:String) (r:V→List V→Hp→VK→Prop):Prop :=
 ∀ (pins:List (Addr × Obj)) (s:Shared) (σ:St) (H:Hp) (x:V) (xs:List V) (v:Value) (us:List Value) (Q:VK),Inv X pins σ H s→RelV x v→au xs us→r x xs H Q →
  wpAny (model X.prog X.w) X.A (call (.builtin id) (v :: us)) (EP X pins σ Q) X.xe s
theorem au.one:∀ {x:V} {us:List Value},au [x] us→∃ u,us=[u]∧RelV x u
 | _,_,.cons r .nil=>⟨_,rfl,r⟩
theorem au.two:∀ {x y:V} {us:List Value},au [x,y] us→∃ u v,us=[u,v]∧RelV x u∧RelV y v
 | _,_,_,.cons r (.cons q .nil)=>⟨_,_,rfl,r,q⟩
theorem au.zero:∀ {us:List Value},au [] us→us=[]
 | _,.nil=>rfl
theorem au.eraseIdx:∀ {xs:List V} {us:List Value} (i:Nat),au xs us→au (xs.eraseIdx i) (us.eraseIdx i)
 | _,_,_,.nil=>.nil
 | _,_,0,.cons _ t=>t
 | _,_,i+1,.cons r t=>.cons r (au.eraseIdx i t)
theorem au.reverse {xs:List V} {us:List Value} (h:au xs us):au xs.reverse us.reverse:=by
 induction h with
 | nil=>exact .nil
 | cons r t ih=>rw [List.reverse_cons,List.reverse_cons];exact au.append ih (.cons r .nil)
theorem au.rep {xs:List V} {us:List Value} (h:au xs us):∀ k:Nat,au (List.replicate k xs).flatten (List.replicate k us).flatten
 | 0=>.nil
 | k+1=>by
  rw [List.replicate_succ,List.replicate_succ,List.flatten_cons,List.flatten_cons]
  exact au.append h (au.rep h k)
theorem yu {α:Type}:∀ (l:List α) (i:Nat),(l.eraseIdx i).length≤l.length
 | [],_=>Nat.le_refl _
 | _ :: _,0=>Nat.le_succ _
 | _ :: r,i+1=>Nat.succ_le_succ (yu r i)
theorem foldl_rep (ai:List Value):∀ (k:Nat) (acc:List Value),
  List.foldl (fun x1 x2=>x1 ++ x2) acc.toArray (List.replicate k ai.toArray)=(acc ++ (List.replicate k ai).flatten).toArray
 | 0,acc=>by simp
 | k+1,acc=>by
  have e:acc.toArray ++ ai.toArray=(acc ++ ai).toArray:=by simp
  have e2:(acc ++ ai) ++ (List.replicate k ai).flatten=acc ++ (List.replicate (k+1) ai).flatten:=by
   rw [List.replicate_succ,List.flatten_cons,List.append_assoc]
  rw [← e2,← foldl_rep ai k (acc ++ ai),← e,List.replicate_succ,List.foldl_cons]
section
variable {X:Cx} {pins:List (Addr × Obj)} {σ:St} {H:Hp} {s:Shared} {l b:Addr} {xs ys zs:List V}
theorem Inv.XN {ai its':List Value} {n:Nat} {f:Array Value→Array Value} {t':Nat} (I:Inv X pins σ H s) (hH:H l=some (.lst xs))
  (e:s.heap.get? l=some { cls:=.type "list",data:=.seq ai.toArray n }) (hf:f ai.toArray=its'.toArray) (hv:au ys its') (hz:ys.length≤sizeLine) :
  Inv X pins σ (upd H l (.lst ys)) { s with heap:=s.heap.update l (Obj.mapSeq f),toks:=t' }:=by
 have q:=PySem.IsL.update e f
 rw [hf] at q
 refine I.write (x:=l) (e:=l) (by rw [hH];exact trivial) (.inl rfl) (fun b' u hb hu=>(Heap.get?_update_other s.heap (Obj.mapSeq f) (Ne.symm hb)).trans hu) ⟨_,q⟩ ?_
 exact ⟨hz,its',_,hv,q⟩
theorem Inv.XO {ai:List Value} {t':Nat} (I:Inv X pins σ H s) (hv:au ys ai) (hz:ys.length≤sizeLine) :
  Inv X pins σ (upd H s.heap.objs.size (.lst ys)) { s with heap:=s.heap.push { cls:=.type "list",data:=.seq ai.toArray },toks:=t' } :=
 I.laid (fun _ _ q=>Heap.get?_push_of_some _ q) (Nat.le_refl _) ⟨hz,ai,0,hv,Heap.get?_push_size _ rfl⟩
theorem Inv.fresh (I:Inv X pins σ H s):H s.heap.objs.size=none:=I.bz.fresh (Nat.le_refl _)
theorem Inv.UU (I:Inv X pins σ H s) (hH:H l=some (.lst xs)):xs.length≤sizeLine∧∃ (ai:List Value) (n:Nat),au xs ai∧xs.length=ai.length∧s.heap.get? l=some { cls:=.type "list",data:=.seq ai.toArray n }:=by
 obtain ⟨z,ai,n,r,e⟩:=I.bz l _ hH
 exact ⟨z,ai,n,r,r.length,e⟩
theorem OF {n:Nat} (h:n≤sizeLine):Builtin.List.listTooLong n=false:=by
 unfold Builtin.List.listTooLong
 exact decide_eq_false (by omega)
end
section
variable {X:Cx}
def K9:V→List V→Hp→VK→Prop:=fun x vs H Q=>∃ l xs y,x=.ref l∧vs=[y]∧H l=some (.lst xs)∧xs.length < sizeLine∧Q .bJ (upd H l (.lst (xs ++ [y])))
theorem cP:MtM X "list.append" K9:=by
 intro pins s σ H x vs v us Q I rx rv h
 obtain ⟨l,xs,y,rfl,rfl,hH,hz,q⟩:=h
 cases rx
 obtain ⟨u,rfl,ru⟩:=rv.one
 obtain ⟨z,ai,n,r,hl,e⟩:=I.UU hH
 refine call_meets F.slot_list_append ⟨_,e,rfl⟩ F.entry_list_append (F.args_list_append_2 _ _) (PySem.list_append l ai.toArray n u (by rw [List.size_toArray];omega)) ⟨e,?_⟩
 refine ⟨.bJ,_,I.XN (its':=ai ++ [u]) hH e (by simp) (r.append (.cons ru .nil)) ?_,rfl,q⟩
 rw [List.length_append,List.length_singleton]
 omega
def UW:V→List V→Hp→VK→Prop:=fun x vs H Q=>∃ l xs i k y,x=.ref l∧vs=[.int i]∧H l=some (.lst xs)∧-(2 ^ 63)≤i∧i < 2 ^ 63∧seqIndex? i xs.length=some k∧xs[k]?=some y∧Q y (upd H l (.lst (xs.eraseIdx k)))
theorem OG:MtM X "list.pop" UW:=by
 intro pins s σ H x vs v us Q I rx rv h
 obtain ⟨l,xs,i,k,y,rfl,rfl,hH,h1,h2,hk,hy,q⟩:=h
 cases rx
 obtain ⟨u,rfl,ru⟩:=rv.one
 obtain ⟨t,rfl⟩:=ru
 obtain ⟨z,ai,n,r,hl,e⟩:=I.UU hH
 obtain ⟨w,hw,rw'⟩:=r.get hy
 refine call_meets F.slot_list_pop ⟨_,e,rfl⟩ F.entry_list_pop (F.args_list_pop_2 _ _)
  (MeetsSeq.list_pop_at l ai.toArray n i t k w (fitsIndex_both h1 h2) (by rw [List.size_toArray,← hl];exact hk) (by rw [← Array.getElem?_toList];exact hw) (by rw [List.size_toArray];omega)) ⟨e,?_⟩
 refine ⟨y,_,I.XN (its':=ai.eraseIdx k) hH e ?_ (r.eraseIdx k) ?_,rw',q⟩
 ·show ai.toArray.eraseIdxIfInBounds k=(ai.eraseIdx k).toArray
  rw [List.eraseIdxIfInBounds_toArray]
 ·have:=yu xs k
  omega
def aAH:R2:=fun x y H Q=>∃ l k xs,x=.ref l∧y=.int k∧H l=some (.lst xs)∧-(2 ^ 63)≤k∧k < 2 ^ 63∧xs.length * k.toNat≤sizeLine ∧
 ∀ p,H p=none→Q (.ref p) (upd H p (.lst (List.replicate k.toNat xs).flatten))
theorem len_rep {α:Type} (xs:List α) (k:Nat):(List.replicate k xs).flatten.length=k * xs.length:=by
 induction k with
 | zero=>simp
 | succ k ih=>rw [List.replicate_succ,List.flatten_cons,List.length_append,ih,Nat.succ_mul,Nat.add_comm]
theorem zu:nR X (binaryOp .Mult) aAH:=by
 intro pins s σ H x y v u Q I rx ry h
 obtain ⟨l,k,xs,rfl,rfl,hH,h1,h2,hz,q⟩:=h
 cases rx
 obtain ⟨t,rfl⟩:=ry
 obtain ⟨z,ai,n,r,hl,e⟩:=I.UU hH
 have hlen:ai.toArray.size * k.toNat≤sizeLine:=by rw [List.size_toArray,← hl];exact hz
 have aAI:¬ ai.toArray.size * k.toNat > (2 ^ 63 - 1) / 8:=by
  have:(sizeLine:Nat)≤(2 ^ 63 - 1) / 8:=by decide
  omega
 have aAJ:¬ (!Builtin.List.listFitsIndex k)=true:=by
  rw [fitsIndex_both h1 h2]
  exact Bool.false_ne_true
 have XQ:¬ Builtin.List.listTooLong (ai.toArray.size * k.toNat)=true:=by
  rw [OF hlen]
  exact Bool.false_ne_true
 have aAK:List.foldl (fun x1 x2=>x1 ++ x2) #[] (List.replicate (if ai.toArray.isEmpty=true then 0 else k.toNat) ai.toArray)=(List.replicate k.toNat ai).flatten.toArray:=by
  have f0:∀ m:Nat,List.foldl (fun x1 x2=>x1 ++ x2) #[] (List.replicate m ai.toArray)=(List.replicate m ai).flatten.toArray:=fun m=>by
   have:=foldl_rep ai m []
   rw [List.nil_append] at this
   exact this
  rw [f0]
  cases ai with
  | nil=>simp
  | cons a r'=>rw [if_neg (by simp)]
 refine wpAny_binaryOp_repeat_ref (T:="list") (U:="int") (by decide) ⟨_,e,rfl⟩ (fun s'=>typeIs_int s' k t) noFill_list_mul F.fills_int_mul F.slot_int_rmul repeat_list F.slot_int_index.lookup
  (call_meets F.slot_int_rmul (typeIs_int s k t) F.entry_int_rmul (F.args_int_rmul_2 _ _) (int___rmul___int_list k t l ai.toArray n)
   ⟨e,rfl,⟨_,e,rfl⟩,call_meets F.slot_list_mul ⟨_,e,rfl⟩ F.entry_list_mul (F.args_list_mul_2 _ _) (AutoListH.list___mul___list_int_3 l ai.toArray n k t aAJ aAI XQ) ⟨e,?_⟩⟩)
 rw [aAK]
 exact ⟨.ref _,_,I.XO (t':=s.toks) (r.rep k.toNat) (by rw [len_rep,Nat.mul_comm];exact hz),rfl,q _ I.fresh⟩
end
section
variable {prog:Program} {w:World} {A:Around} {E:Value→Shared→Prop} {s:Shared}
end
section
variable {X:Cx}
end
end L2
namespace Att
open PySem PySem.W PySem.Calls PyProof.Rows
theorem vA {P:Params} {h:Heap}:∀ (ns:List Int) (vs:List Value),WellAll P h vs (ns.map WData.int)→IntsAre vs ns:=by
 intro ns
 induction ns with
 | nil =>
  intro vs w
  rw [List.map_nil] at w
  cases w
  exact .nil
 | cons n ns ih =>
  intro vs w
  rw [List.map_cons] at w
  cases w with
  | cons a b =>
   cases a
   exact .cons _ _ (ih _ b)
theorem MI {l:OpenLaw} {n:Nat} (hn:l.most=some n) {P:Params} {h:Heap} {args:List WData} {vals:List Value}
  (Qq:l.row.toRowW.claim.pre args=true) (hwl:WellAll P h vals args) :
  ∃ a vs ns,vals=[Value.ref a]∧args=[WData.list (ns.map WData.int)]∧h.get? a=some { cls:=.type "list",data:=.seq vs.toArray }∧IntsAre vs ns∧ns.length≤n:=by
 have hsh:WShape.hasAll [] args [.list .int]=true:=(pre_splitW Qq).1
 have hc:l.pre.holds [] { args:=args }=true:=(pre_splitW Qq).2
 obtain ⟨d,r,rfl,h1,h2⟩:=hasAllW_cons hsh
 obtain rfl:=hasAllW_nil h2
 obtain ⟨xs,rfl,h3⟩:=hasW_list h1
 obtain ⟨ns,rfl⟩:=items_int h3
 have hlen:ns.length≤n:=by
  unfold OpenLaw.pre at hc
  have h4:(WTm.not (.lt (.lit (.int (n:Int))) (.len (.arg 0)))).holds [] { args:=[.list (ns.map .int)] }=true:=by
   have h4:=(holds_andW hc).1
   rw [hn] at h4
   exact h4
  have h5:=condW_of h4 (w_not (w_lt w_lit (w_len_list (w_arg rfl))))
  rw [List.length_map] at h5
  refine Nat.le_of_not_lt fun q=>?_
  have q':(n:Int) < ((ns.length:Nat):Int):=by omega
  first
   | (rw [decide_eq_true q'] at h5;exact absurd h5 (by decide))
   | (simp at h5;omega)
 cases hwl with
 | cons w1 w2 =>
  cases w2
  cases w1 with
  | list ho JN=>exact ⟨_,_,ns,rfl,rfl,ho,vA ns _ JN,hlen⟩
theorem MJ (l:OpenLaw) (args:List WData):l.row.toRowW.claim.post args (.bool true) args=true :=
 postW_of (r:=l.row.toRowW) (X:=(true == true))
  (show WShape.has [] (.bool true) .bool=true by first | rfl | decide | simp [WShape.has,WShape.arms,WShape.armsAll])
  (show (WTm.eq .res (.lit (.bool true))).value [] { args:=args,res:=some (.bool true),after:=args }=some (.bool (true == true)) from w_eq_bool (w_res rfl) w_lit) rfl
theorem Gp {l:OpenLaw} {n:Nat} {q:Program} {loose:List Str} {XP:(Str→Option Value)→Heap→Prop} {YP:World→Heap→Prop} {d:DefRec}
  (hn:l.most=some n) (XR:d.params.defaults=[])
  (call:∀ (w:World) (s₀ s₁:Shared) (mg mb:Str→Option Value) (fa:Addr) (o:Obj) (pm cd doc:Value) (a:Addr) (vs:List Value) (ns:List Int),
   Ground q loose [] XP w s₀ mg mb s₁.heap→YP w s₁.heap →
   s₁.heap.get? fa=some o→o.data=.func (docDef d.name d.params d.body d.scope pm cd doc)→s₁.heap.CodeRec cd d.name→mg d.name=some (.ref fa) →
   s₁.heap.get? a=some { cls:=.type "list",data:=.seq vs.toArray }→IntsAre vs ns→ns.length≤n→s₁.gens=#[] →
   codeAny (model l.prog w) callerA (.call (.ref fa) ⟨[.ref a],[]⟩) (fun r s'=>r=.ok (.ret (.bool true))∧OldK s₁.heap s'.heap∧s'.os=s₁.os∧AllBare s'.gens) s₁) :
  WalkO q loose XP YP l.row.toRowW d [] (fun f vs=>PySem.call f vs):=by
 intro w s₀ s₁ mg mb G Y fa o pm cd doc dV kV ho hd yl hD UX hg args vals as Qq aEV hrd hwl hlo
 obtain rfl:dV=.none:=Dflts.none hD XR
 obtain rfl:kV=.none:=Dflts.noKw hD
 obtain ⟨a,vs,ns,rfl,rfl,UY,hints,hlen⟩:=MI hn Qq hwl
 refine enter_call (codeAny_mono (call w s₀ s₁ mg mb fa o pm cd doc a vs ns G Y ho (fd_plain hd) yl UX UY hints hlen hg) fun r s' hq=>?_)
 obtain ⟨rfl,h2,h3,h4⟩:=hq
 exact ⟨.inl ⟨.bool true,.bool true,[],rfl,fun _=>rfl,.bool true,MJ l _,fun _=>⟨List.Pairwise.nil,fun _ hm=>(nomatch hm)⟩⟩,h2,h3,h4⟩
section
variable {prog:Program} {w:World} {A:Around} {E:Value→Shared→Prop} {s:Shared} {K:Frag}
end
end Att
namespace L2
open PySem PySem.Spec PyProof.Rows
theorem yv:∀ {vs:List Value} {ns:List Int},IntsAre vs ns→au (ns.map V.int) vs
 | _,_,.nil=>.nil
 | _,_,.cons n t h=>.cons ⟨t,rfl⟩ (yv h)
def UZ (H:Hp):Prop:=∀ b,H b=none∨∃ o xs,H b=some (.Ir o (.lst xs))
theorem OH {P:Program} {w:World} {K:PySem.W.Frag} {mg mb:Str→Option Value} {CX:Gj} {k:Nat} {fa a:Addr} {fd:FuncData} {x:Str} {sp:Sp} {s₁:Shared} {vs:List Value} {ns:List Int}
  (KX:K.In s₁.heap) (XS:s₁.heap.Ns mainGlobals mg) (hb:s₁.heap.Ns builtinsNs mb) (hbb:∀ x:Str,x≠"__name__"→mb x=bootBuiltins x) (aAN:s₁.heap.NoLimit) (hg:s₁.gens=#[])
  (ha:s₁.heap.get? a=some { cls:=.type "list",data:=.seq vs.toArray }) (hi:IntsAre vs ns) (hl:ns.length≤sizeLine) (hr:dv k callerA)
  (F:∀ base:Heap,K.In base→base.Ns mainGlobals mg→bZ P w K mg base CX k fa fd [x] sp) (XU:∀ (s:Shared) (u:Value),BindsTo s fd ⟨[u],[]⟩ [(x,u)])
  (K6:∀ H:Hp,UZ H→aX K H a (ns.map V.int)→sp [.ref a] H (fun v _=>v=.bl true) fun _ _ _=>False)
  (hCX:∀ H e s',CX [] H s₁ (fun _ _ _=>False) e s'→False) :
  codeAny (model P w) callerA (.call (.ref fa) ⟨[.ref a],[]⟩) (fun r s'=>r=.ok (.ret (.bool true))∧OldK s₁.heap s'.heap∧s'.os=s₁.os∧AllBare s'.gens) s₁:=by
 have rv:=yv hi
 have aAP:=hi.length
 have core:∀ H:Hp,UZ H→aX K H a (ns.map V.int)→pq P w H s₁.heap→(∀ b,H b≠none→b=a)→(H a≠none→K.lookup a=none) →
   codeAny (model P w) callerA (.call (.ref fa) ⟨[.ref a],[]⟩) (fun r s'=>r=.ok (.ret (.bool true))∧OldK s₁.heap s'.heap∧s'.os=s₁.os∧AllBare s'.gens) s₁:=by
  intro H hO hS bz hA hK
  have LB:∀ {b:Addr} {o:Obj},s₁.heap.get? b=some o→H b=none→(zX s₁.heap H).get? b=some o:=fun e n=>Nq e n
  have XE:∀ {b:Addr} {o:Obj} {es:Array DictEntry} {ep:Nat},s₁.heap.get? b=some o→o.data=.dict es ep→H b=none:=fun {b o es ep} e d=>by
   cases q:H b with
   | none=>rfl
   | some u =>
    have e':b=a:=hA b (by rw [q];simp)
    subst e'
    rw [ha] at e;cases e
    have d':Data.seq vs.toArray _=Data.dict es ep:=d
    cases d'
  have Zl:∀ {b:Addr} {m:Str→Option Value},s₁.heap.Ns b m→(zX s₁.heap H).Ns b m:=fun {b m} ⟨o,es,ep,e,d,r⟩=>⟨o,es,ep,LB e (XE e d),d,r⟩
  have hKb:K.In (zX s₁.heap H):=fun b o e=>LB (KX b o e) (by
   cases q:H b with
   | none=>rfl
   | some u =>
    have e':b=a:=hA b (by rw [q];simp)
    subst e'
    rw [hK (by rw [q];simp)] at e;cases e)
  have hM:Mod K mg (zX s₁.heap H):=⟨hKb,Zl XS,⟨mb,Zl hb,hbb⟩,let ⟨mc,h1,h2⟩:=aAN;⟨mc,Zl h1,h2⟩⟩
  have e0:xg P w K mg (zX s₁.heap H) callerA [] s₁ H:=⟨rfl,hM,fun b o e=>Qb e,Nat.le_of_eq (L3 _ _),trivial,fun b hb=>absurd (show b ∈ ([]:List Addr) from hb) (by simp),bz,.of_eq hg⟩
  refine codeAny_mono ((F _ hKb (Zl XS)).run callerA [] s₁ H ⟨[.ref a],[]⟩ [.ref a] [.ref a] _ _ hr e0 (XU s₁ (.ref a)) (.cons rfl .nil) (K6 H hO hS)) fun r s' h=>?_
  cases r with
  | error e=>exact (hCX H e s' h).elim
  | ok fl =>
   cases fl with
   | next=>exact False.elim h
   | brk=>exact False.elim h
   | cont=>exact False.elim h
   | ret u =>
    obtain ⟨v,H',os,bare,un,aAQ,r',q⟩:=h
    have q':v=.bl true:=q
    subst q'
    obtain rfl:u=Value.bool true:=r'
    refine ⟨rfl,OldK.of_keep fun b o e=>?_,os,bare⟩
    cases q:H b with
    | none=>exact un.keep b o e q (by intro z;exact absurd (show b ∈ ([]:List Addr) from z) (by simp)) (by simp)
    | some u =>
     rcases hO b with z | ⟨ob,xs,z⟩
     ·rw [q] at z;cases z
     ·have z2:=un.nQ b ob _ z
      obtain ⟨e1,_⟩:=bz b _ z
      obtain ⟨e2,_⟩:=aAQ b _ z2
      rw [e] at e1;cases e1
      exact e2
 cases hk:K.lookup a with
 | some o =>
  have e:=KX a o hk
  rw [ha] at e
  cases e
  refine core (fun _=>none) (fun _=>.inl rfl) (.inr ⟨_,vs.toArray,_,hk,rfl,rfl,rfl,by rw [List.size_toArray,aAP];exact hl,by simpa using rv⟩) (fun b u z=>by have z':(none:Option HO)=some u:=z;cases z') (fun b z=>absurd rfl z) fun z=>absurd rfl z
 | none =>
  refine core (fun b=>if b=a then some (.Ir { cls:=.type "list",data:=.seq vs.toArray } (.lst (ns.map V.int))) else none) (fun b=>?_) (.inl (.inr ⟨{ cls:=.type "list",data:=.seq vs.toArray },if_pos rfl⟩)) (fun b u z=>?_) (fun b z=>?_) fun _=>hk
  ·by_cases hb:b=a
   ·exact .inr ⟨_,_,if_pos hb⟩
   ·exact .inl (if_neg hb)
  ·by_cases hb:b=a
   ·have z':=(if_pos hb).symm.trans z
    cases z'
    subst hb
    exact ⟨ha,by rw [List.length_map];exact hl,vs,_,rv,ha⟩
   ·have z':=(if_neg hb).symm.trans z
    cases z'
  ·by_cases hb:b=a
   ·exact hb
   ·exact absurd (if_neg hb) z
end L2
namespace L2
open PySem PySem.Spec PyProof.Rows
abbrev cn {K:PySem.W.Frag} {h:Heap} (_:K.In h):PySem.W.Frag:=K
theorem Qr {l:PySem.W.OpenLaw} {n k:Nat} {q:Program} {loose:List Str} {XP:(Str→Option Value)→Heap→Prop} {YP:World→Heap→Prop} {d:DefRec} {K:Params→PySem.W.Frag} {CX:World→Gj} {sp:World→Sp} {x:Str}
  (hn:l.most=some n) (W9:n≤sizeLine) (XR:d.params.defaults=[]) (hr:dv k callerA)
  (hY:∀ (w:World) (h:Heap),YP w h→(K w.params).In h)
  (F:∀ (w:World) (mg:Str→Option Value) (fa:Addr) (h:Heap),(K w.params).In h→h.Ns mainGlobals mg→mg d.name=some (.ref fa) →
   ∃ fd:FuncData,(∀ (s:Shared) (u:Value),BindsTo s fd ⟨[u],[]⟩ [(x,u)]) ∧
    ∀ base:Heap,(K w.params).In base→base.Ns mainGlobals mg→bZ l.prog w (K w.params) mg base (CX w) k fa fd [x] (sp w))
  (K6:∀ (w:World) (H:Hp) (a:Addr) (ns:List Int),ns.length≤n→UZ H→aX (K w.params) H a (ns.map V.int)→sp w [.ref a] H (fun v _=>v=.bl true) fun _ _ _=>False)
  (hCX:∀ (w:World) (H:Hp) (s:Shared) (e:Value) (s':Shared),CX w [] H s (fun _ _ _=>False) e s'→False) :
  PySem.W.WalkO q loose XP YP l.row.toRowW d [] (fun f vs=>PySem.call f vs):=by
 refine Att.Gp hn XR fun w s₀ s₁ mg mb fa o pm cd doc a vs ns G Y ho hd yl UX UY hints hlen hg=>?_
 have KX:=hY w _ Y
 obtain ⟨fd,hb,hF⟩:=F w mg fa _ KX G.T.g UX
 exact OH KX G.T.g G.T.b G.T.builtins G.T.nolimit hg UY hints (Nat.le_trans hlen W9) hr hF hb (fun H hO hS=>K6 w H a ns hlen hO hS) fun H e s'=>hCX w H s₁ e s'
end L2
namespace L2
open PySem PySem.Spec PyProof.Rows
def bT (s:Stmt):Arguments:=match s with
 | .FunctionDef _ a _ _ _ _ _ _ _ _=>a
 | _=>{ posonlyargs:=[],args:=[],vararg:=none,kwonlyargs:=[],kw_defaults:=[],kwarg:=none,defaults:=[] }
def bG (s:Stmt):List Stmt:=match s with
 | .FunctionDef _ _ b _ _ _ _ _ _ _=>b
 | _=>[]
def aH (s:Stmt):Scope:=match s with
 | .FunctionDef _ _ _ _ _ _ sc _ _ _=>sc
 | _=>{ kind:=.function,names:=[],isGenerator:=false,isCoroutine:=false }
abbrev CX0:Gj:=fun _ _ _ _ _ _=>False
abbrev E0:XK:=fun _ _ _=>False
structure kL (K:PySem.W.Frag) (x qual:Str) (st:Stmt) (f:Addr) (fd:FuncData):Prop where
 ex:∃ (oc:Value) (od:Option Addr) (kV doc pm:Value) (an:Option Addr) (bo ct:Value) (K5:Array (Option Value)),
  fd=PySem.W.fnOf x qual (bT st) (bG st) (aH st) .none kV doc pm an bo ct∧K.lookup f=some ⟨oc,od,.func fd,K5⟩∧PySem.W.codeIn K bo qual=true
 kp:PySem.W.keepIn K (.ref f)=true
section
variable {P:Program} {w:World} {K:PySem.W.Frag} {mg:Str→Option Value} {base:Heap}
theorem kL.ok {x qual:Str} {st:Stmt} {f:Addr} {fd:FuncData} {N ps:List Str} {k:Nat} {sp:Sp} (F:kL K x qual st f fd) (S:aQ N ps (aH st)) (len:∀ vs H Q E,sp vs H Q E→vs.length=ps.length)
  (rT:∀ (bo:Value) (A:Around) (outer:List Env) (s:Shared) (H:Hp) (vs:List V) (Q:VK) (E:XK),dv k (A.deeper (envOfC qual (aH st) s.heap.objs.size f bo))→sp vs H Q E →
   ∃ t,Iu (JK CX0 P w K mg base N qual (aH st) f bo A outer s H E).uX (bG st) t∧t { nx:=fun _ H'=>Q .bJ H',rt:=Q } (start N vs) H):bZ P w K mg base CX0 (k+1) f fd ps sp:=by
 obtain ⟨oc,od,kV,doc,pm,an,bo,ct,K5,rfl,lk,yl⟩:=F.ex
 refine K4 lk yl S len fun A outer s H vs Q E hr K6=>?_
 obtain ⟨t,h,q⟩:=rT bo A outer s H vs Q E hr K6
 exact ⟨t,h.uX,q⟩
theorem kL.binds {x qual:Str} {st:Stmt} {f:Addr} {fd:FuncData} {ps:List Str} (F:kL K x qual st f fd)
  (h:∀ (kV doc pm:Value) (an:Option Addr) (bo ct:Value) (us:List Value),us.length=ps.length→bindArgs (PySem.W.fnOf x qual (bT st) (bG st) (aH st) .none kV doc pm an bo ct) ⟨us,[]⟩=pure (ps.zip us)):Binds K fd ps []:=by
 obtain ⟨oc,od,kV,doc,pm,an,bo,ct,K5,rfl,lk,yl⟩:=F.ex
 exact .all (h kV doc pm an bo ct)
theorem eO {x qual:Str} {st:Stmt} {f:Addr} {oc:Value} {od an:Option Addr} {K5:Array (Option Value)} {kV doc pm bo ct:Value} (l:K.lookup f=some ⟨oc,od,.func (PySem.W.fnOf x qual (bT st) (bG st) (aH st) .none kV doc pm an bo ct),K5⟩)
  (c:PySem.W.codeIn K bo qual=true) (k:PySem.W.keepIn K (.ref f)=true):kL K x qual st f (PySem.W.fnOf x qual (bT st) (bG st) (aH st) .none kV doc pm an bo ct):=⟨⟨oc,od,kV,doc,pm,an,bo,ct,K5,rfl,l,c⟩,k⟩
end
theorem ni {A:Around} {k:Nat} (hr:dv k A):A.units+1 < cLine:=Nat.lt_of_le_of_lt (Nat.add_le_add_left (by decide:1≤64) _) hr.units
section
variable {X:Cx}
theorem pv (i:Nat) {x:Str} {pos:Pos} (hN:X.N[i]?=some x:=by rfl) (hv:Zg X.env.scope x:=by first | exact Or.inl rfl | exact Or.inr (Or.inl rfl) | exact Or.inr (Or.inr rfl)) (hd:(x == ("__debug__":Str))=false:=by decide)
  (yl:(x == ("__classdict__":Str))=false:=by decide):PE X (.Name x pos) (qM i):=T4 hN hv hd yl
end
theorem di {A B:Prop} (h:B):if false=true then A else B:=by
 rw [if_neg Bool.false_ne_true]
 exact h
theorem fe {A B:Prop} (h:A):if true=true then A else B:=by
 rw [if_pos rfl]
 exact h
theorem Ua {c A B:Prop} [Decidable c] (h1:c→A) (h2:¬ c→B):if c then A else B:=by
 by_cases h:c
 ·rw [if_pos h]
  exact h1 h
 ·rw [if_neg h]
  exact h2 h
def aI (H H':Hp):Prop:=∀ b o,H b=some o→H' b=some o
theorem aI.refl (H:Hp):aI H H:=fun _ _ h=>h
theorem aI.trans {H H1 H2:Hp} (a:aI H H1) (b:aI H1 H2):aI H H2:=fun c o h=>b c o (a c o h)
theorem aI.free {H H':Hp} (e:aI H H') {l:Addr} (h:H' l=Option.none):H l=Option.none:=by
 cases q:H l with
 | none=>rfl
 | some o =>
  rw [e l o q] at h
  cases h
theorem aI.seq {K:PySem.W.Frag} {H H':Hp} {a:Addr} {xs:List V} (e:aI H H') (h:aX K H a xs):aX K H' a xs:=by
 rcases h with (h | ⟨o,h⟩) | h
 ·exact .inl (.inl (e _ _ h))
 ·exact .inl (.inr ⟨o,e _ _ h⟩)
 ·exact .inr h
end L2
namespace L2
open PySem PySem.Spec PyProof.Rows
def cb (env:Env):List (Str × NameKind)→List (Str × Addr)→List (Str × Addr)
 | [],acc=>acc
 | (n,k) :: r,acc=>if k == .free then cb env r ((n,(env.cells.lookup n).getD 0) :: acc) else cb env r acc
theorem qN {env:Env}:∀ (names:List (Str × NameKind)) (acc:List (Str × Addr)) (f:Str × NameKind→List (Str × Addr)→Sem (ForInStep (List (Str × Addr)))),
  (∀ n k cs,f (n,k) cs=if k == .free then (do let c ← cellOf env n;pure (.yield ((n,c) :: cs))) else pure (.yield cs)) →
  (∀ x ∈ names,x.2=.free→∃ c,env.cells.lookup x.1=some c)→(forIn names acc f:Sem _)=pure (cb env names acc)
 | [],acc,f,_,_=>rfl
 | (n,k) :: r,acc,f,hf,h=>by
  rw [List.forIn_cons,hf]
  unfold cb
  by_cases hk:(k == .free)=true
  ·rw [if_pos hk,if_pos hk]
   obtain ⟨c,e⟩:=h (n,k) List.mem_cons_self (beq_iff_eq.mp hk)
   have e':env.cells.lookup n=some c:=e
   unfold cellOf
   rw [e']
   show (forIn r ((n,c) :: acc) f:Sem _)=_
   exact qN r _ f hf fun x hx=>h x (List.mem_cons_of_mem _ hx)
  ·rw [if_neg hk,if_neg hk]
   show (forIn r acc f:Sem _)=_
   exact qN r _ f hf fun x hx=>h x (List.mem_cons_of_mem _ hx)
theorem vj {env:Env} {scope:Scope} (h:∀ x ∈ scope.names,x.2=.free→∃ c,env.cells.lookup x.1=some c):closureFor scope env=pure (cb env scope.names []):=by
 unfold closureFor
 have e:=qN scope.names [] (fun x cs=>if x.2 == .free then (do let c ← cellOf env x.1;pure (.yield ((x.1,c) :: cs))) else pure (.yield cs)) (fun _ _ _=>rfl) h
 show (forIn scope.names [] _ >>= fun cs=>pure cs)=_
 exact (rW e)
where
 rW {α:Type} {a:α} {t:Sem α} (e:t=pure a):(t >>= fun x=>pure x)=pure a:=by rw [e];rfl
theorem dC {env:Env} {x:Str} {c:Addr}:∀ (names:List (Str × NameKind)) (acc:List (Str × Addr)),(∀ y ∈ names,y.2=.free→∃ c,env.cells.lookup y.1=some c) →
  (∀ c,acc.lookup x=some c→env.cells.lookup x=some c)→(cb env names acc).lookup x=some c→env.cells.lookup x=some c
 | [],acc,_,ha,h=>ha c h
 | (n,k) :: r,acc,hn,ha,h=>by
  unfold cb at h
  have hr:∀ y ∈ r,y.2=.free→∃ c,env.cells.lookup y.1=some c:=fun y hy=>hn y (List.mem_cons_of_mem _ hy)
  by_cases hk:(k == .free)=true
  ·rw [if_pos hk] at h
   obtain ⟨c',e⟩:=hn (n,k) List.mem_cons_self (beq_iff_eq.mp hk)
   have e':env.cells.lookup n=some c':=e
   rw [e'] at h
   refine dC r _ hr (fun c2 q=>?_) h
   rw [List.lookup_cons] at q
   cases hb:x == n with
   | true=>rw [hb] at q;cases q;rw [beq_iff_eq.mp hb];exact e'
   | false=>rw [hb] at q;exact ha c2 q
  ·rw [if_neg hk] at h
   exact dC r _ hr ha h
theorem l7 {env:Env} {x:Str}:∀ (names:List (Str × NameKind)) (acc:List (Str × Addr)),((x,NameKind.free) ∈ names∨∃ c,acc.lookup x=some c)→∃ c,(cb env names acc).lookup x=some c
 | [],acc,h=>h.elim (fun z=>by cases z) id
 | (n,k) :: r,acc,h=>by
  unfold cb
  by_cases hk:(k == .free)=true
  ·rw [if_pos hk]
   refine l7 r _ ?_
   cases hb:x == n with
   | true=>exact .inr ⟨_,by rw [List.lookup_cons,hb]⟩
   | false =>
    rcases h with h | ⟨c,h⟩
    ·rcases List.mem_cons.mp h with e | e
     ·injection e with e1 _
      rw [e1] at hb;simp at hb
     ·exact .inl e
    ·exact .inr ⟨c,by rw [List.lookup_cons,hb];exact h⟩
  ·rw [if_neg hk]
   refine l7 r _ ?_
   rcases h with h | h
   ·rcases List.mem_cons.mp h with e | e
    ·injection e with _ e2
     rw [← e2] at hk;exact absurd rfl hk
    ·exact .inl e
   ·exact .inr h
theorem qO {x:Str} {c:Addr}:∀ (names:List (Str × NameKind)) (n:Nat) (acc:List (Str × Addr)),(cellsFrom n names acc).lookup x=some c→acc.lookup x=some c∨(n≤c∧(x,NameKind.cell) ∈ names)
 | [],_,_,h=>.inl h
 | (y,k) :: r,n,acc,h=>by
  unfold cellsFrom at h
  by_cases hk:(k == .cell)=true
  ·rw [if_pos hk] at h
   rcases qO r _ _ h with q | ⟨q1,q2⟩
   ·rw [List.lookup_cons] at q
    cases hb:x == y with
    | true=>rw [hb] at q;cases q;exact .inr ⟨Nat.le_refl _,by rw [beq_iff_eq.mp hb,beq_iff_eq.mp hk];exact List.mem_cons_self⟩
    | false=>rw [hb] at q;exact .inl q
   ·exact .inr ⟨by omega,List.mem_cons_of_mem _ q2⟩
  ·rw [if_neg hk] at h
   rcases qO r _ _ h with q | ⟨q1,q2⟩
   ·exact .inl q
   ·exact .inr ⟨q1,List.mem_cons_of_mem _ q2⟩
theorem pO {x:Str} {lo:Nat}:∀ (names:List (Str × NameKind)) (n:Nat) (acc:List (Str × Addr)),lo≤n→((x,NameKind.cell) ∈ names∨∃ c,acc.lookup x=some c∧lo≤c)→∃ c,(cellsFrom n names acc).lookup x=some c∧lo≤c
 | [],_,_,_,h=>h.elim (fun z=>by cases z) id
 | (y,k) :: r,n,acc,hn,h=>by
  unfold cellsFrom
  by_cases hk:(k == .cell)=true
  ·rw [if_pos hk]
   refine pO r _ _ (by omega) ?_
   cases hb:x == y with
   | true=>exact .inr ⟨n,by rw [List.lookup_cons,hb],hn⟩
   | false =>
    rcases h with h | ⟨c,h,hc⟩
    ·rcases List.mem_cons.mp h with e | e
     ·injection e with e1 _
      rw [e1] at hb;simp at hb
     ·exact .inl e
    ·exact .inr ⟨c,by rw [List.lookup_cons,hb];exact h,hc⟩
  ·rw [if_neg hk]
   refine pO r _ _ hn ?_
   rcases h with h | h
   ·rcases List.mem_cons.mp h with e | e
    ·injection e with _ e2
     rw [← e2] at hk;exact absurd rfl hk
    ·exact .inl e
   ·exact .inr h
theorem l8 {x:Str}:∀ (names:List (Str × NameKind)) (n:Nat) (acc:List (Str × Addr)),(x,NameKind.cell) ∉ names→(cellsFrom n names acc).lookup x=acc.lookup x
 | [],_,_,_=>rfl
 | (y,k) :: r,n,acc,h=>by
  unfold cellsFrom
  have hr:(x,NameKind.cell) ∉ r:=fun z=>h (List.mem_cons_of_mem _ z)
  by_cases hk:(k == .cell)=true
  ·rw [if_pos hk,l8 r _ _ hr,List.lookup_cons]
   cases hb:x == y with
   | true=>exact absurd (by rw [beq_iff_eq.mp hb,beq_iff_eq.mp hk];exact List.mem_cons_self) h
   | false=>rfl
  ·rw [if_neg hk];exact l8 r _ _ hr
theorem tH:∀ (names:List (Str × NameKind)) (n:Nat) (acc:List (Str × Addr)),(∀ x c,acc.lookup x=some c→c < n)→(∀ x y c,acc.lookup x=some c→acc.lookup y=some c→x=y) →
  ∀ x y c,(cellsFrom n names acc).lookup x=some c→(cellsFrom n names acc).lookup y=some c→x=y
 | [],_,_,_,h=>h
 | (z,k) :: r,n,acc,fE,h=>by
  unfold cellsFrom
  by_cases hk:(k == .cell)=true
  ·rw [if_pos hk]
   refine tH r (n+1) _ (fun x c e=>?_) fun x y c e1 e2=>?_
   ·rw [List.lookup_cons] at e
    cases hb:x == z with
    | true=>rw [hb] at e;cases e;exact Nat.lt_succ_self _
    | false=>rw [hb] at e;exact Nat.lt_succ_of_lt (fE x c e)
   ·rw [List.lookup_cons] at e1 e2
    cases hb:x == z with
    | true =>
     rw [hb] at e1;cases e1
     cases Iv:y == z with
     | true=>rw [beq_iff_eq.mp hb,beq_iff_eq.mp Iv]
     | false=>rw [Iv] at e2;exact absurd (fE y _ e2) (Nat.lt_irrefl _)
    | false =>
     rw [hb] at e1
     cases Iv:y == z with
     | true=>rw [Iv] at e2;cases e2;exact absurd (fE x _ e1) (Nat.lt_irrefl _)
     | false=>rw [Iv] at e2;exact h x y c e1 e2
  ·rw [if_neg hk];exact tH r n _ fE h
theorem kM {x:Str} {c:Addr}:∀ (names:List (Str × NameKind)) (h:Heap) (acc:List (Str × Addr)),(∀ y c,acc.lookup y=some c→∃ v,h.IsCell c v) →
  (cellsFrom h.objs.size names acc).lookup x=some c→∃ v,(pushCells h names).IsCell c v
 | [],h,acc,ha,e=>ha x c e
 | (y,k) :: r,h,acc,ha,e=>by
  unfold cellsFrom at e
  unfold pushCells
  by_cases hk:(k == .cell)=true
  ·rw [if_pos hk] at e ⊢
   rw [show h.objs.size+1=(h.push { cls:=.type "cell",data:=.cell none }).objs.size from (Heap.size_push ..).symm] at e
   refine kM r _ _ (fun z c' q=>?_) e
   rw [List.lookup_cons] at q
   cases hb:z == y with
   | true=>rw [hb] at q;cases q;exact ⟨none,_,Heap.get?_push_size _ rfl,rfl⟩
   | false =>
    rw [hb] at q
    obtain ⟨v,w⟩:=ha z c' q
    exact ⟨v,w.keeps fun b o e=>Heap.get?_push_of_some _ e⟩
  ·rw [if_neg hk] at e ⊢
   exact kM r _ _ ha e
section
variable {M:Model} {A:Around} {E:Value→Shared→Prop} {s:Shared}
theorem Gq {scope:Scope} {globals:Addr} {cl:List (Str × Addr)} {qual:Str} {env:Env} {Q:Env→Shared→Prop}
  (h:Q { scope,locals:=s.heap.objs.size,globals,cells:=cellsFrom (s.heap.objs.size+1) scope.names cl,qual,func:=none,code:=env.code,frame:=env.frame,builtins:=env.builtins }
   { s with heap:=pushCells (s.heap.push { cls:=.type "dict",data:=.dict #[] }) scope.names }) :
  wpAny M A (newFunctionEnv scope globals cl [] qual none .none (some env)) Q E s:=by
 simp only [newFunctionEnv,Option.isSome_some,if_true]
 refine wpAny_bind (wpAny_alloc ?_)
 refine wpAny_bind (wpAny_layCells _ (fun name kind cells=>by cases hkc:kind == NameKind.cell <;> simp [hkc]) _ _ _ _ ?_)
 rw [show ({ s with heap:=s.heap.push { cls:=.type "dict",data:=.dict #[] } }:Shared).heap.objs.size=s.heap.objs.size+1 from Heap.size_push ..]
 refine wpAny_bind ?_
 rw [List.forIn_nil]
 exact wpAny_pure (wpAny_pure h)
end
section
variable {prog:Program} {w:World} {A:Around} {R:Result→Shared→Prop} {s:Shared}
theorem zv {elt target iter:Expr} {ifs:List Expr} {scope:Scope} {pos:Pos} {it acc:Value} {env:Env} (I:Nat→Shared→Prop)
  (turn:∀ n s,I n s→wpAny (model prog w) A (pyNext it) (fun r s₁=>match r with
   | none=>R (.ok .next) s₁
   | some v=>wpAny (model prog w) A (letOwnedTupleGo target it v) (fun _ s₁'=>wpAny (model prog w) A (assign target env v) (fun _ s₂ =>
     wpAny (model prog w) A (forIn ifs true fun c r=>if r=true then do let ok ← isTrue c env (eval c env);pure (ForInStep.yield ok) else pure (ForInStep.yield r)) (fun ok s₃ =>
      if ok=true then wpAny (model prog w) A (eval elt env) (fun x s₄ =>
       wpAny (model prog w) A (call (.builtin "list.append") [acc,x]) (fun _ s₅=>∃ m,m < n∧I m s₅) (fun _ _=>False) s₄) (fun _ _=>False) s₃
      else ∃ m,m < n∧I m s₃) (fun _ _=>False) s₂) (fun _ _=>False) s₁') (fun _ _=>False) s₁) (fun _ _=>False) s)
  (n:Nat) (h:I n s) :
  codeAny (model prog w) A (.compLoop (.ListComp elt [⟨target,iter,ifs,0⟩] scope pos) 0 it acc env) R s:=by
 refine codeAny_loop rfl I (fun n s hI=>?_) n h
 show wpAny _ A ((compTurn (.ListComp elt [⟨target,iter,ifs,0⟩] scope pos) 0 it acc env).onRaise (fun x=>do noteFrame x env;theTreesLotGoes x)) _ _ s
 refine wpAny_noted ?_
 rw [compTurn_list]
 refine wpAny_bind (wpAny_standAt (wpAny_bind (wpAny_mono (turn n s hI) (fun r s₁ h₁=>?_) fun _ _ h'=>h'.elim)))
 cases r with
 | none=>exact wpAny_pure h₁
 | some v =>
  refine wpAny_bind (wpAny_mono h₁ (fun _ s₁' h₁'=>?_) fun _ _ h'=>h'.elim)
  refine wpAny_bind (wpAny_mono h₁' (fun _ s₂ h₂=>wpAny_bind (wpAny_mono h₂ (fun ok s₃ h₃=>?_) fun _ _ h'=>h'.elim)) fun _ _ h'=>h'.elim)
  cases ok with
  | false=>exact wpAny_pure ⟨rfl,h₃⟩
  | true =>
   exact wpAny_bind (wpAny_bind (wpAny_mono h₃ (fun x s₄ h₄=>wpAny_bind (wpAny_mono h₄ (fun _ s₅ h₅=>wpAny_pure (wpAny_pure ⟨rfl,h₅⟩)) fun _ _ h'=>h'.elim)) fun _ _ h'=>h'.elim))
end
end L2
namespace L2
open PySem PySem.Spec PyProof.Rows
def zx (X:Cx) (Nc:List Str) (scope:Scope) (C:Addr) (fp:List Addr) (s:Shared) (H:Hp):Cx where
 prog:=X.prog
 w:=X.w
 K:=X.K
 mg:=X.mg
 base:=X.base
 A:=X.A
 N:=Nc
 s₀:=s
 H₀:=H
 env:=compEnvC scope (cellsFrom (C+1) scope.names (cb X.env scope.names [])) C X.env
 outer:=X.stack
 stack:=X.stack
 ex:=fp
 fn:=fun x=>scope.names.contains (x,NameKind.cell)
 calm:=X.calm
 pn:=[]
 xe:=fun _ _=>False
structure fU (X:Cx) (Nc:List Str) (ix:List (Option Nat)) (scope:Scope):Prop where
 kind:scope.kind=.function
 nd:Nc.Nodup
 len:ix.length=Nc.length
 loc:∀ x ∈ scope.names,x.2=.local→scope.names.lookup x.1=some .local
 free:∀ x ∈ scope.names,x.2=.free→X.env.kindOf x.1=some .cell∨X.env.kindOf x.1=some .free
 once:∀ x,(x,NameKind.free) ∈ scope.names→(x,NameKind.cell) ∉ scope.names
 out:∀ (i j:Nat) (x:Str),ix[i]?=some (some j)→Nc[i]?=some x→X.N[j]?=some x∧scope.names.lookup x=some .free
def vk (ix:List (Option Nat)) (σ:St):St:=ix.map fun o=>o.bind fun j=>(σ[j]?).bind id
theorem l9 {env:Env} {x:Str}:∀ {names:List (Str × NameKind)} {k:NameKind},names.lookup x=some k →
  (names.map fun (n,k)=>if (k == NameKind.free && env.scope.kind == .function && env.kindOf n == some .cell) then (n,NameKind.cell) else (n,k)).lookup x =
   some (if (k == NameKind.free && env.scope.kind == .function && env.kindOf x == some .cell) then NameKind.cell else k)
 | [],_,h=>by simp at h
 | (n,k') :: r,k,h=>by
  show List.lookup x ((if (k' == NameKind.free && env.scope.kind == .function && env.kindOf n == some .cell)=true then (n,NameKind.cell) else (n,k')) :: _)=_
  cases hx:x == n with
  | true =>
   simp only [List.lookup_cons,hx] at h
   cases h
   have e:=beq_iff_eq.mp hx
   subst e
   split <;> simp [List.lookup_cons]
  | false =>
   simp only [List.lookup_cons,hx] at h
   have ih:=l9 (env:=env) (names:=r) h
   split <;> (simp only [List.lookup_cons,hx];exact ih)
theorem rX {env:Env} {x:Str}:∀ {names:List (Str × NameKind)},names.lookup x=none →
  (names.map fun (n,k)=>if (k == NameKind.free && env.scope.kind == .function && env.kindOf n == some .cell) then (n,NameKind.cell) else (n,k)).lookup x=none
 | [],_=>rfl
 | (n,k') :: r,h=>by
  show List.lookup x ((if (k' == NameKind.free && env.scope.kind == .function && env.kindOf n == some .cell)=true then (n,NameKind.cell) else (n,k')) :: _)=_
  cases hx:x == n with
  | true=>simp only [List.lookup_cons,hx] at h;cases h
  | false =>
   simp only [List.lookup_cons,hx] at h
   have ih:=rX (env:=env) (names:=r) h
   split <;> (simp only [List.lookup_cons,hx];exact ih)
section
variable {X:Cx} {pins:List (Addr × Obj)} {σ:St} {H:Hp} {s:Shared} {Nc:List Str} {ix:List (Option Nat)} {scope:Scope} {fp:List Addr}
theorem fU.cells (S:fU X Nc ix scope) (I:Inv X pins σ H s):∀ x ∈ scope.names,x.2=.free→∃ c,X.env.cells.lookup x.1=some c:=fun x hx hf=>I.ok.has x.1 (S.free x hx hf)
theorem yw (S:fU X Nc ix scope) (I:Inv X pins σ H s) {C:Addr} {x:Str} {c:Addr} (e:(cellsFrom (C+1) scope.names (cb X.env scope.names [])).lookup x=some c) :
  X.env.cells.lookup x=some c∨(C+1≤c∧(x,NameKind.cell) ∈ scope.names):=by
 rcases qO _ _ _ e with q | q
 ·exact .inl (dC _ _ (S.cells I) (fun _ z=>by simp at z) q)
 ·exact .inr q
theorem OI (S:fU X Nc ix scope) (I:Inv X pins σ H s) (XW:∀ b ∈ fp,tD X pins H b) (ho:∀ b ∈ fp,∃ o,s.heap.get? b=some o) {t':Nat} :
  Inv (zx X Nc scope (s.heap.objs.size+1) fp s H) [] (vk ix σ) (upd H s.heap.objs.size (.lst []))
   { s with heap:=pushCells ((s.heap.push { cls:=.type "list",dict:=none,data:=.seq ([]:List Value).toArray }).push { cls:=.type "dict",data:=.dict #[] }) scope.names,toks:=t' }:=by
 have keep:∀ b o,s.heap.get? b=some o→(pushCells ((s.heap.push { cls:=.type "list",dict:=none,data:=.seq ([]:List Value).toArray }).push { cls:=.type "dict",data:=.dict #[] }) scope.names).get? b=some o :=
  fun b o e=>pushCells_keeps _ _ b o (Heap.get?_push_of_some _ (Heap.get?_push_of_some _ e))
 have hD:(pushCells ((s.heap.push { cls:=.type "list",dict:=none,data:=.seq ([]:List Value).toArray }).push { cls:=.type "dict",data:=.dict #[] }) scope.names).get? s.heap.objs.size =
   some { cls:=.type "list",dict:=none,data:=.seq ([]:List Value).toArray }:=pushCells_keeps _ _ _ _ (Heap.get?_push_of_some _ (Heap.get?_push_size _ rfl))
 have hsz:(s.heap.push { cls:=.type "list",dict:=none,data:=.seq ([]:List Value).toArray }).objs.size=s.heap.objs.size+1:=Heap.size_push ..
 have fresh:∀ a:Addr,s.heap.objs.size≤a→H a=none:=fun a h=>I.bz.fresh h
 have QL:∀ x c,X.env.cells.lookup x=some c→c < s.heap.objs.size:=fun x c e=>let ⟨_,q⟩:=I.cell x c e;q.lt
 have clt:∀ x c,(cb X.env scope.names []).lookup x=some c→c < s.heap.objs.size+1+1:=fun x c e =>
  Nat.lt_succ_of_lt (Nat.lt_succ_of_lt (QL x c (dC _ _ (S.cells I) (fun _ z=>by simp at z) e)))
 have aAR:∀ x y c,(cb X.env scope.names []).lookup x=some c→(cb X.env scope.names []).lookup y=some c→x=y:=fun x y c e1 e2 =>
  I.ok.inj x y c (dC _ _ (S.cells I) (fun _ z=>by simp at z) e1) (dC _ _ (S.cells I) (fun _ z=>by simp at z) e2)
 refine ⟨⟨I.ok.mod,S.kind,I.ok.glob,I.ok.blt,Nat.le_succ _,tH _ _ _ clt aAR,fun x hx=>?has,fun x c hf e=>?T1,I.ok.hd,I.ok.frames,.inl rfl,fun b hb=>?Wr,I.bs,Nat.le_trans I.ok.Nr I.sz,fun b o e hb=>?Iz,fun b hb hs=>?I0,I.stack,I.zY⟩,
  rfl,I.bare,Un.laid keep (Nat.le_refl _) (fresh _ (Nat.le_refl _)),⟨fun _=>none,?ns,fun i x v e1 e2 e3=>?loc⟩,fun x c e=>?cell,?free,fun x c e=>?nI,fun p hp=>absurd (show p ∈ ([]:List (Addr × Obj)) from hp) (by simp),I.bz.laid keep (Nat.le_refl _) ?obj,?len⟩
 case has =>
  have hx:(relabel scope X.env).names.lookup x=some .cell∨(relabel scope X.env).names.lookup x=some .free:=hx
  show ∃ c,(cellsFrom (s.heap.objs.size+1+1) scope.names (cb X.env scope.names [])).lookup x=some c
  cases hk:scope.names.lookup x with
  | none =>
   rw [show (relabel scope X.env).names.lookup x=none from rX hk] at hx
   rcases hx with z | z <;> cases z
  | some k =>
   have hm:=PySem.mem_of_lookup hk
   rw [show (relabel scope X.env).names.lookup x=_ from l9 hk] at hx
   cases k with
   | cell=>obtain ⟨c,e,_⟩:=pO (x:=x) (lo:=0) scope.names (s.heap.objs.size+1+1) (cb X.env scope.names []) (Nat.zero_le _) (.inl hm);exact ⟨c,e⟩
   | free =>
    obtain ⟨c,e⟩:=l7 (env:=X.env) (x:=x) scope.names [] (.inl hm)
    exact ⟨c,by rw [l8 _ _ _ (S.once x hm)];exact e⟩
   | _=>rcases hx with z | z <;> simp at z
 case T1 =>
  have hm:(x,NameKind.cell) ∈ scope.names:=List.contains_iff_mem.mp hf
  obtain ⟨c',e',hc⟩:=pO (x:=x) (lo:=s.heap.objs.size+1+1) scope.names (s.heap.objs.size+1+1) (cb X.env scope.names []) (Nat.le_refl _) (.inl hm)
  have e2:(cellsFrom (s.heap.objs.size+1+1) scope.names (cb X.env scope.names [])).lookup x=some c:=e
  rw [e'] at e2;cases e2
  exact Nat.le_trans (Nat.le_trans (Nat.le_succ _) (Nat.le_succ _)) hc
 case Wr =>
  obtain ⟨o,eo⟩:=ho b hb
  have fE:=Heap.lt_size eo
  refine ⟨Nat.ne_of_lt (Nat.lt_succ_of_lt fE),fun x c e=>?_⟩
  rcases yw S I e with q | ⟨q,_⟩
  ·exact (XW b hb).2.2.2.2.1 x c q
  ·exact Nat.ne_of_gt (Nat.lt_of_lt_of_le (Nat.lt_succ_of_lt (Nat.lt_succ_of_lt fE)) q)
 case Iz =>
  obtain ⟨_,_,_,q,_⟩:=XW b hb
  rcases q with q | q
  ·exact I.ok.Iz b o e q
  ·exact absurd (Nat.lt_of_lt_of_le (Nat.lt_of_lt_of_le (Heap.lt_size e) I.ok.Nr) q) (Nat.lt_irrefl _)
 case I0 =>
  obtain ⟨_,q1,q2,_⟩:=XW b hb
  rcases List.mem_cons.mp (I.JA b hs) with z | z
  ·exact q1 z
  ·exact q2 z
 case ns =>
  refine Heap.Ns.keeps (h:=(s.heap.push { cls:=.type "list",dict:=none,data:=.seq ([]:List Value).toArray }).push { cls:=.type "dict",data:=.dict #[] }) ?_ (pushCells_keeps _ _)
  have q:=Heap.Ns.new (s.heap.push { cls:=.type "list",dict:=none,data:=.seq ([]:List Value).toArray }) (.type "dict")
  rw [hsz] at q
  exact q
 case loc =>
  have S9:(ix.map fun o=>o.bind fun j=>(σ[j]?).bind id)[i]?=some (some v):=e2
  rw [List.getElem?_map] at S9
  cases ei:ix[i]? with
  | none=>rw [ei] at S9;cases S9
  | some o =>
   rw [ei] at S9
   cases o with
   | none=>simp at S9
   | some j =>
    obtain ⟨hN,WL⟩:=S.out i j x ei e1
    have ej:σ[j]?=some (some v):=by
     cases q:σ[j]? with
     | none=>simp [q] at S9
     | some y=>simp [q] at S9;rw [S9]
    have hm:=PySem.mem_of_lookup WL
    have aAS:Zg X.env.scope x:=by
     rcases S.free (x,.free) hm rfl with z | z
     ·exact .inr (.inl z)
     ·exact .inr (.inr z)
    obtain ⟨m0,hn0,hl0⟩:=I.loc
    obtain ⟨u,r,l⟩:=hl0 j x v hN ej aAS
    refine ⟨u,r,?_⟩
    have hk:X.env.kindOf x=some .cell∨X.env.kindOf x=some .free:=S.free (x,.free) hm rfl
    rcases l with ⟨z,_⟩ | ⟨_,c,ec,Ks⟩
    ·rcases hk with y | y <;> (rw [z] at y;cases y)
    ·refine .inr ⟨?_,c,?_,Ks.keeps keep⟩
     ·show (relabel scope X.env).names.lookup x=_∨(relabel scope X.env).names.lookup x=_
      rw [show (relabel scope X.env).names.lookup x=_ from l9 WL]
      split
      ·exact .inl rfl
      ·exact .inr rfl
     ·show (cellsFrom (s.heap.objs.size+1+1) scope.names (cb X.env scope.names [])).lookup x=some c
      rw [l8 _ _ _ (S.once x hm)]
      obtain ⟨c',e'⟩:=l7 (env:=X.env) (x:=x) scope.names [] (.inl hm)
      have q:=dC _ _ (S.cells I) (fun _ z=>by simp at z) e'
      rw [ec] at q;cases q
      exact e'
 case cell =>
  have q:=kM (x:=x) (c:=c) scope.names ((s.heap.push { cls:=.type "list",dict:=none,data:=.seq ([]:List Value).toArray }).push { cls:=.type "dict",data:=.dict #[] }) (cb X.env scope.names [])
   (fun y c' e'=>by
    obtain ⟨v,z⟩:=I.cell y c' (dC _ _ (S.cells I) (fun _ z=>by simp at z) e')
    exact ⟨v,z.keeps fun b o e=>Heap.get?_push_of_some _ (Heap.get?_push_of_some _ e)⟩)
  rw [Heap.size_push,hsz] at q
  exact q e
 case free =>
  show upd H s.heap.objs.size (.lst []) (s.heap.objs.size+1)=none
  rw [aD (Nat.succ_ne_self _)]
  exact fresh _ (Nat.le_succ _)
 case nI =>
  rcases yw S I e with q | ⟨q,_⟩
  ·rw [aD (Nat.ne_of_lt (QL x c q))]
   exact I.nI x c q
  ·have h1:s.heap.objs.size < c:=Nat.lt_of_lt_of_le (Nat.lt_succ_of_lt (Nat.lt_succ_self _)) q
   rw [aD (Nat.ne_of_gt h1)]
   exact fresh c (Nat.le_of_lt h1)
 case obj=>exact ⟨Nat.zero_le _,[],0,.nil,hD⟩
 case len =>
  show (vk ix σ).length=Nc.length
  unfold vk
  rw [List.length_map,S.len]
end
def XX (X:Cx) (ifs:List Expr) (t:TT):Prop :=
 ∀ (pins:List (Addr × Obj)) (s:Shared) (σ:St) (H:Hp) (Q:Bool→Hp→Prop),Inv X pins σ H s→t σ H Q →
  wpAny (model X.prog X.w) X.A (forIn ifs true fun c r=>if r=true then do let ok ← isTrue c X.env (eval c X.env);pure (ForInStep.yield ok) else pure (ForInStep.yield r)) (TP X pins σ Q) X.xe s
def Ub:TT:=fun _ H Q=>Q true H
theorem cX {X:Cx}:XX X [] Ub:=fun _ _ _ H _ I h=>wpAny_tests_nil ⟨H,I,h⟩
theorem LC {X:Cx} {c:Expr} {t:TT} (h:PT X c t):XX X [c] t:=fun pins s σ H Q I hw=>wpAny_tests_one (h pins s σ H Q I hw)
def ua (J:It) (g:TG) (tt:TT) (te:TE) (D:Addr) (σ:St) (H:Hp) (Q:VK):Prop:=∃ W:Nat→Nat→St→Hp→Prop,(∃ m,W 0 m σ H)∧∀ i m σ' H',W i m σ' H' →
 (J.stop i H'∧Q (.ref D) H')∨(J.go i H'∧∀ x H2,J.N3 i H' x H2→g x σ' H2 fun σ3 H3=>tt σ3 H3 fun b H4 =>
  if b=true then te σ3 H4 fun v H5=>∃ xs,H5 D=some (.lst xs)∧xs.length < sizeLine∧∃ m',m' < m∧W (i+1) m' σ3 (upd H5 D (.lst (xs ++ [v])))
  else ∃ m',m' < m∧W (i+1) m' σ3 H4)
def tLC (wi:TI) (ix:List (Option Nat)) (g:TG) (tt:TT) (te:TE):TE:=fun σ H Q=>wi σ H fun J H1=>∀ D,H1 D=none→ua J g tt te D (vk ix σ) (upd H1 D (.lst [])) Q
section
variable {X:Cx} {tg elt iter:Expr} {ifs:List Expr} {scope:Scope} {pos:Pos} {wi:TI} {g:TG} {tt:TT} {te:TE} {Nc:List Str} {ix:List (Option Nat)}
theorem Gr {pins:List (Addr × Obj)} {σ:St} {H:Hp} {s:Shared} {it:Addr} {fp:List Addr} {tn:Nat→Heap→Prop} {J:It} {Q:VK} {R:Value→Addr→Result→Shared→Prop}
  (hc:X.calm=true) (S:fU X Nc ix scope) (I:Inv X pins σ H s) (T:Turn X.prog X.w X.K tg J fp it tn) (st:tn 0 s.heap) (f:∀ b ∈ fp,tD X pins H b)
  (hg:PG (zx X Nc scope (s.heap.objs.size+1) fp s H) tg g) (ht:XX (zx X Nc scope (s.heap.objs.size+1) fp s H) ifs tt) (he:PE (zx X Nc scope (s.heap.objs.size+1) fp s H) elt te)
  (h:∀ D,H D=none→∃ W:Nat→Nat→St→Hp→Prop,(∃ m,W 0 m (vk ix σ) (upd H D (.lst [])))∧∀ i m σ' H',W i m σ' H' →
   (J.stop i H'∧Q (.ref D) H')∨(J.go i H'∧∀ x H2,J.N3 i H' x H2→g x σ' H2 fun σ3 H3=>tt σ3 H3 fun b H4 =>
    if b=true then te σ3 H4 fun v H5=>∃ xs,H5 D=some (.lst xs)∧xs.length < sizeLine∧∃ m',m' < m∧W (i+1) m' σ3 (upd H5 D (.lst (xs ++ [v])))
    else ∃ m',m' < m∧W (i+1) m' σ3 H4))
  (hR:∀ σ' H' s',Inv (zx X Nc scope (s.heap.objs.size+1) fp s H) [] σ' H' s'→(∀ b ∈ fp,H' b=none)→Q (.ref s.heap.objs.size) H'→R (.ref s.heap.objs.size) (s.heap.objs.size+1) (.ok .next) s') :
  wpAny (model X.prog X.w) X.A (newList []) (fun acc s₃=>wpAny (model X.prog X.w) X.A (newFunctionEnv scope X.env.globals (cb X.env scope.names []) [] X.env.qual none .none (some X.env)) (fun XY s₄ =>
   codeAny (model X.prog X.w) X.A (.compStart (.ListComp elt [⟨tg,iter,ifs,0⟩] scope pos) 0 (.ref it) acc { XY with scope:=relabel scope X.env }) (R acc XY.locals) s₄) X.xe s₃) X.xe s:=by
 obtain ⟨W,⟨m0,w0⟩,turn⟩:=h s.heap.objs.size (I.bz.fresh (Nat.le_refl _))
 refine wpAny_newObj_type (Gq ?_)
 have I4:=OI (t':=s.toks) S I f (fun b hb=>let ⟨o,e,_⟩:=T.obj _ _ st b hb;⟨o,e⟩)
 have hsz:(s.heap.push { cls:=.type "list",dict:=none,data:=.seq ([]:List Value).toArray }).objs.size=s.heap.objs.size+1:=Heap.size_push ..
 dsimp only
 rw [hsz]
 have OJ:tn 0 (pushCells ((s.heap.push { cls:=.type "list",dict:=none,data:=.seq ([]:List Value).toArray }).push { cls:=.type "dict",data:=.dict #[] }) scope.names) :=
  T.keep _ _ _ st fun b _ o e=>pushCells_keeps _ _ b o (Heap.get?_push_of_some _ (Heap.get?_push_of_some _ e))
 have fr4:∀ b ∈ fp,upd H s.heap.objs.size (.lst []) b=none:=fun b hb=>by
  obtain ⟨o,e,_⟩:=T.obj _ _ st b hb
  rw [aD (Nat.ne_of_lt (Heap.lt_size e))]
  exact (f b hb).1
 have JD:∀ {H':Hp},(∀ b ∈ fp,H' b=none)→∀ b ∈ fp,tD (zx X Nc scope (s.heap.objs.size+1) fp s H) [] H' b:=fun {H'} hn b hb=>by
  obtain ⟨q1,q2⟩:=I4.ok.Wr b hb
  exact ⟨hn b hb,q1,I4.ok.I0 b hb,.inl hb,q2,fun p hp=>absurd (show p ∈ ([]:List (Addr × Obj)) from hp) (by simp)⟩
 have loop:codeAny (model X.prog X.w) X.A (.compLoop (.ListComp elt [⟨tg,iter,ifs,0⟩] scope pos) 0 (.ref it) (.ref s.heap.objs.size) (zx X Nc scope (s.heap.objs.size+1) fp s H).env)
   (R (.ref s.heap.objs.size) (s.heap.objs.size+1))
   { s with heap:=pushCells ((s.heap.push { cls:=.type "list",dict:=none,data:=.seq ([]:List Value).toArray }).push { cls:=.type "dict",data:=.dict #[] }) scope.names }:=by
  refine zv (fun n s'=>∃ i σ' H',Inv (zx X Nc scope (s.heap.objs.size+1) fp s H) [] σ' H' s'∧tn i s'.heap∧(∀ b ∈ fp,H' b=none)∧W i n σ' H') ?_ m0 ⟨0,_,_,I4,OJ,fr4,w0⟩
  rintro n s5 ⟨i,σ5,H5,I5,vb,UD,w5⟩
  rcases turn i n σ5 H5 w5 with ⟨stop,qn⟩ | ⟨go,step⟩
  ·refine bu (T.done (zx X Nc scope (s.heap.objs.size+1) fp s H) rfl rfl rfl hc i [] s5 σ5 H5 _ I5 (JD UD) vb stop) fun r s6 ⟨hr,I6⟩=>?_
   subst hr
   exact hR σ5 H5 s6 I6 UD qn
  ·refine bu (T.item (zx X Nc scope (s.heap.objs.size+1) fp s H) rfl rfl rfl hc i [] s5 σ5 H5 _ I5 (JD UD) vb go) fun r s6 ⟨u,hr,h6⟩=>?_
   subst hr
   refine bu h6 fun _ s7 ⟨x,H7,I7,r7,y7,st7,fr7⟩=>?_
   have I7':=I7.pinned (JD fr7) (T.obj _ _ st7)
   refine bu (hg _ s7 σ5 H7 x u _ I7' r7 (step x H7 y7)) fun _ s8 ⟨σ8,H8,I8,q8⟩=>?_
   refine bu (ht _ s8 σ8 H8 _ I8 q8) fun b s9 ⟨H9,I9,q9⟩=>?_
   have again:∀ {s':Shared} {σ':St} {H':Hp},Inv (zx X Nc scope (s.heap.objs.size+1) fp s H) ([] ++ vZ fp s7.heap) σ' H' s'→tn (i+1) s'.heap∧∀ b ∈ fp,H' b=none:=fun {s' σ' H'} I'=>by
    refine ⟨T.keep _ _ _ st7 fun b hb o e=>(I'.pin (b,o) (List.mem_append_right _ (List.mem_append_right _ (l3 hb e)))).1,fun b hb=>?_⟩
    obtain ⟨o,e,d⟩:=T.obj _ _ st7 b hb
    exact (I'.pin (b,o) (List.mem_append_right _ (List.mem_append_right _ (l3 hb e)))).2.1
   cases b with
   | false =>
    rw [if_neg Bool.false_ne_true] at q9 ⊢
    obtain ⟨m',hm,w9⟩:=q9
    obtain ⟨a1,a2⟩:=again I9
    exact ⟨m',hm,i+1,σ8,H9,I9.nZ,a1,a2,w9⟩
   | true =>
    rw [if_pos rfl] at q9 ⊢
    refine bu (he _ s9 σ8 H9 _ I9 q9) fun v s10 ⟨x',OK,I10,r10,xs,eD,fE,m',hm,w10⟩=>?_
    refine bu (cP (X:=zx X Nc scope (s.heap.objs.size+1) fp s H) _ s10 σ8 OK (.ref s.heap.objs.size) [x'] (.ref s.heap.objs.size) [v] (fun _ H'=>H'=upd OK s.heap.objs.size (.lst (xs ++ [x']))) I10 rfl (.cons r10 .nil)
     ⟨_,xs,x',rfl,rfl,eD,fE,rfl⟩) fun _ s11 ⟨_,MK,I11,_,e11⟩=>?_
    subst e11
    obtain ⟨a1,a2⟩:=again I11
    exact ⟨m',hm,i+1,σ8,_,I11.nZ,a1,a2,w10⟩
 exact codeAny_compStart_list loop (T.self X.A 0 _ _ _ OJ loop)
theorem comp_back {pins:List (Addr × Obj)} {σ σ':St} {H H':Hp} {s s':Shared} {fp:List Addr} (I:Inv X pins σ H s) (f:∀ b ∈ fp,tD X pins H b) (J:Inv (zx X Nc scope (s.heap.objs.size+1) fp s H) [] σ' H' s'):Inv X pins σ H' s' :=
 I.Nt (ch:=fp) J.os J.base J.bz J.bare fun b hb=>let ⟨_,q1,_,q3,q4,q5⟩:=f b hb;⟨q3,q1,q4,q5⟩
theorem Inv.TB {pins:List (Addr × Obj)} {σ:St} {H:Hp} {s:Shared} {C:Addr} {h':Heap} (I:Inv X pins σ H s) (f:tD X pins H C) (hs:Heap.SameBut C s.heap h'):Inv X pins σ H { s with heap:=h' } :=
 I.turned (t':=s.toks) (it:=C) (fun b o hb e=>(hs.2 b hb).trans e) f.1 f.2.1 f.2.2.2.1 f.2.2.2.2.1 f.2.2.2.2.2
theorem lE (hc:X.calm=true) (S:fU X Nc ix scope) (hi:PI X tg iter wi)
  (hb:∀ (C:Addr) (fp:List Addr) (s:Shared) (H:Hp),PG (zx X Nc scope C fp s H) tg g∧XX (zx X Nc scope C fp s H) ifs tt∧PE (zx X Nc scope C fp s H) elt te)
  (hs:∀ x,foldedSetIterable iter X.env x=pure x:=by intro _;rfl):PE X (.ListComp elt [⟨tg,iter,ifs,0⟩] scope pos) (tLC wi ix g tt te):=by
 intro pins s σ H Q I h
 rw [eval_ListComp]
 refine wpAny_comprehension_free (use:=none) rfl hs (vj (S.cells I)) S.kind S.loc (bu (hi pins s σ H _ I h) fun v s1 h1=>bu h1 fun Zj s2 h2=>?_)
 obtain ⟨it,fp,tn,J,H2,e,I2,T,Dg,f2,q2⟩:=h2
 subst e
 obtain ⟨hg,ht,he⟩:=hb (s2.heap.objs.size+1) fp s2 H2
 refine Gr (R:=fun acc C=>compPost (model X.prog X.w) X.A X.xe none (EP X pins σ Q) acc C) hc S I2 T Dg f2 hg ht he q2 fun σ' H' s' J' fr' q'=>?_
 obtain ⟨m,hn,_⟩:=J'.loc
 refine ⟨m,hn,fun h' ML=>⟨.ref _,H',?_,rfl,q'⟩⟩
 exact (comp_back I2 f2 J').TB (I2.zZ (Nat.le_succ _) J'.free) ML
theorem lF {i:Nat} {y:Str} {py XZ:Pos} (hN:X.N.Nodup) (hy:X.N[i]?=some y) (hl:Loc X.env.scope y) (hc:X.calm=true) (S:fU X Nc ix scope) (hi:PI X tg iter wi)
  (hb:∀ (C:Addr) (fp:List Addr) (s:Shared) (H:Hp),PG (zx X Nc scope C fp s H) tg g∧XX (zx X Nc scope C fp s H) ifs tt∧PE (zx X Nc scope C fp s H) elt te)
  (Zm:swapsWith (.ListComp elt [⟨tg,iter,ifs,0⟩] scope pos) (some (.Name y py)) XZ.line X.env=pure true:=by rfl)
  (hs:∀ x,foldedSetIterable iter X.env x=pure x:=by intro _;rfl)
  (hf:X.fn y=true∨X.env.scope.names.lookup y=some .local:=by first | exact .inl rfl | exact .inr rfl | assumption) :
  PS X (.Assign [.Name y py] (.ListComp elt [⟨tg,iter,ifs,0⟩] scope pos) XZ) (UA (tLC wi ix g tt te) (jJ i)):=by
 intro pins s σ H D I h
 rw [exec_Assign_Name_used _ _ _ _ Zm]
 refine wpAny_bind (wpAny_standAt (wpAny_bind ?_))
 show wpAny _ X.A (do let _ ← comprehension (.ListComp elt [⟨tg,iter,ifs,0⟩] scope pos) scope X.env _ (newList []) false (eval iter X.env) (some (assign (.Name y py) X.env))) _ _ s
 refine wpAny_bind (wpAny_mono (wpAny_comprehension_free (use:=some (assign (.Name y py) X.env)) (Q:=fun _ s'=>SP X pins D .next s') rfl hs (vj (S.cells I)) S.kind S.loc
  (bu (hi pins s σ H _ I h) fun v s1 h1=>bu h1 fun Zj s2 h2=>?_)) (fun _ s' hq=>wpAny_pure (wpAny_pure hq)) fun _ _ e=>e)
 obtain ⟨it,fp,tn,J,H2,e,I2,T,Dg,f2,q2⟩:=h2
 subst e
 obtain ⟨hg,ht,he⟩:=hb (s2.heap.objs.size+1) fp s2 H2
 refine Gr (Q:=fun x H1=>jJ i x σ H1 D.nx) (R:=fun acc C=>compPost (model X.prog X.w) X.A X.xe (some (assign (.Name y py) X.env)) (fun _ s'=>SP X pins D .next s') acc C) hc S I2 T Dg f2 hg ht he q2 fun σ' H' s' J' fr' q'=>?_
 obtain ⟨m,hn,_⟩:=J'.loc
 have I3:=comp_back I2 f2 J'
 have fC:=I2.zZ (Nat.le_succ _) J'.free
 show wpAny _ X.A (assign (.Name y py) X.env (.ref s2.heap.objs.size)) _ _ s'
 refine wpAny_assign_Name (yk (v:=.ref s2.heap.objs.size) I3 hN hy hl rfl (fun s4 I4 ⟨a,MM,ha⟩=>?_) hf)
 have haC:s2.heap.objs.size+1≠a:=by
  rcases ha with z | z
  ·rw [z];exact fC.2.1
  ·exact Ne.symm (fC.2.2.2.2.1 y a z)
 refine ⟨m,hn.sameBut MM haC,fun h' ML=>⟨_,H',I4.TB fC ML,q'⟩⟩
end
end L2
namespace L2
open PySem PySem.Spec PyProof.Rows
structure Uc (P:Program) (w:World) (outer:List Env) (H:Hp) (s:Shared) (a C:Addr) (a0:Value) (B:Heap) (H':Hp) (s':Shared):Prop where
 os:s'.os=s.os
 bare:AllBare s'.gens
 un:Un (pJ outer) [] H H' s.heap s'.heap
 bz:pq P w H' s'.heap
 OL:Heap.FlyingW B outer a (.ref C) a0 s'.heap
 Qs:∀ b o,s.heap.get? b=some o→b ∉ pJ outer→∃ o',B.get? b=some o'
 L0:∀ b u,H' b=some u→∃ o',B.get? b=some o'
def i9 (P:Program) (w:World):Gj:=fun outer H s E e s'=>∃ (a C:Addr) (a0:Value) (B:Heap) (H':Hp),e=.ref a∧Uc P w outer H s a C a0 B H' s'∧E (.ref C) none H'
theorem LD {l:List Env} {b:Addr} {base h:Heap} (F:h.FunFrames base l) (hb:b ∈ pJ l):base.get? b=none∧∃ o,h.get? b=some o∧∀ vs,o.data≠.fields vs:=F.mem hb
theorem Gs {outer:List Env} {H H':Hp} {h h1 h2 B:Heap} (u:Un (pJ outer) [] H H' h h1) (F:h1.FunFrames B outer) (hB1:B.StaysIn h1) (hB2:B.StaysIn h2) (up:h1.UpToSlots h2)
  (Qs:∀ b o,h.get? b=some o→b ∉ pJ outer→∃ o',B.get? b=some o'):Un (pJ outer) [] H H' h h2:=by
 have at2:∀ b o,h.get? b=some o→b ∉ pJ outer→∀ o1,h1.get? b=some o1→h2.get? b=some o1:=fun b o e hb o1 e1=>by
  obtain ⟨o',eB⟩:=Qs b o e hb
  have q:=hB1 b o' eB
  rw [e1] at q;cases q
  exact hB2 b _ eB
 refine ⟨fun b o e n hb hx=>at2 b o e hb o (u.keep b o e n hb hx),fun b o e n hb hx=>?_,u.free,fun b o e hx=>?_,u.nU,u.nQ,u.nV⟩
 ·obtain ⟨sl,e1⟩:=u.slot b o e n hb hx
  obtain ⟨_,o1,q1,q2⟩:=LD F hb
  rw [e1] at q1;cases q1
  obtain ⟨Zn,e2⟩:=up b _ e1 q2
  exact ⟨Zn,e2⟩
 ·obtain ⟨o1,e1⟩:=u.there b o e hx
  by_cases hb:b ∈ pJ outer
  ·obtain ⟨_,o2,q1,q2⟩:=LD F hb
   obtain ⟨Zn,e2⟩:=up b _ q1 q2
   exact ⟨_,e2⟩
  ·exact ⟨o1,at2 b o e hb o1 e1⟩
theorem yx {P:Program} {w:World} {H:Hp} {h1 h2 B:Heap} (x:pq P w H h1) (hB1:B.StaysIn h1) (hB2:B.StaysIn h2) (L0:∀ b u,H b=some u→∃ o',B.get? b=some o'):pq P w H h2:=fun b o e=>by
 refine (x b o e).GX (fun c u hc q=>?_) (fun _ q=>q) fun _ _ q=>q
 have ht:∃ o',B.get? c=some o':=by
  rcases hc with z | z
  ·rw [z];exact L0 b o e
  ·exact L0 c _ z
 obtain ⟨o',eB⟩:=ht
 have q1:=hB1 c o' eB
 rw [q] at q1;cases q1
 exact hB2 c _ eB
structure Body (X:Cx) (E:XK):Prop where
 xe:X.xe=fun e s'=>wpAny (model X.prog X.w) X.A (leaving X.env e) (fun _ UO=>i9 X.prog X.w X.outer X.H₀ X.s₀ E e UO) (fun e' UO=>i9 X.prog X.w X.outer X.H₀ X.s₀ E e' UO) s'
 QJ:X.stack=X.env :: X.outer
 fr:X.env.frame=some X.env.locals
 ex:X.ex=[]
section
variable {X:Cx} {E:XK} {pins:List (Addr × Obj)} {σ:St} {H:Hp} {s:Shared}
theorem Inv.old (I:Inv X pins σ H s) {b:Addr} {o:Obj} (e:X.s₀.heap.get? b=some o):b≠X.env.locals:=Nat.ne_of_lt (Nat.lt_of_lt_of_le (Heap.lt_size e) I.ok.above)
theorem Body.base (Bd:Body X E) (I:Inv X pins σ H s):Un X.fs [] X.H₀ H X.s₀.heap s.heap:=by
 have q:=I.base
 rw [Bd.ex] at q
 exact q
theorem Body.OM (Bd:Body X E) {b:Addr} (h1:b≠X.env.locals) (h2:b ∉ pJ X.outer):b ∉ pJ X.stack:=by
 rw [Bd.QJ]
 intro z
 obtain ⟨env,he,hf⟩:=List.mem_filterMap.mp z
 rcases List.mem_cons.mp he with rfl | he
 ·rw [Bd.fr] at hf;exact h1 (Option.some.inj hf).symm
 ·exact h2 (List.mem_filterMap.mpr ⟨env,he,hf⟩)
theorem lG (Bd:Body X E):l4 (i9 X.prog X.w) X E:=by
 intro pins σ H s e s' I h
 obtain ⟨a,C,a0,B,H',rfl,T,q⟩:=h
 rw [Bd.xe]
 have WL:X.A.frames=some (X.env :: X.outer):=by rw [← Bd.QJ];exact I.ok.frames
 have OL:=T.OL
 rw [Bd.QJ] at OL
 refine wpAny_leaves_onW WL Bd.fr OL fun h' Ud up=>?_
 have Qs:∀ b o,X.s₀.heap.get? b=some o→b ∉ pJ X.outer→∃ o',B.get? b=some o':=fun b o e hb=>by
  obtain ⟨o1,e1⟩:=(Bd.base I).there b o e (by simp)
  exact T.Qs b o1 e1 (Bd.OM (I.old e) hb)
 have u1:Un (pJ X.outer) [] X.H₀ H' X.s₀.heap s'.heap:=by
  have ub:=Bd.base I
  refine ⟨fun b o e n hb hx=>T.un.keep b o (ub.keep b o e n hb hx) (ub.free b o e n hx) (Bd.OM (I.old e) hb) (by simp),fun b o e n hb hx=>?_,fun b o e n hx=>?_,fun b o e hx=>?_,fun b xs e=>T.un.nU b xs (ub.nU b xs e),
   fun b o xs e=>T.un.nQ b o xs (ub.nQ b o xs e),fun b ps e=>?_⟩
  ·obtain ⟨sl,e1⟩:=ub.slot b o e n hb hx
   obtain ⟨Wq,e2⟩:=T.un.any e1 (ub.free b o e n hx) (by simp)
   exact ⟨Wq,e2⟩
  ·obtain ⟨o1,e1⟩:=ub.there b o e hx
   exact T.un.free b o1 e1 (ub.free b o e n hx) (by simp)
  ·obtain ⟨o1,e1⟩:=ub.there b o e hx
   exact T.un.there b o1 e1 (by simp)
  ·obtain ⟨m1,e1⟩:=ub.nV b ps e
   obtain ⟨m2,e2⟩:=T.un.nV b _ e1
   exact ⟨m1 ++ m2,by rw [e2,Array.append_assoc]⟩
 have F':s'.heap.FunFrames B X.outer:=by obtain ⟨_,_,⟨_,_,k⟩,_⟩:=OL;exact k
 exact ⟨a,C,a0,B,H',rfl,⟨T.os.trans I.os,T.bare,Gs u1 F' OL.1 Ud.1 up Qs,yx T.bz OL.1 Ud.1 T.L0,Ud,Qs,T.L0⟩,q⟩
theorem Gu {K:PySem.W.Frag} {h:Heap} {mg:Str→Option Value} {x:Str} {C:Addr} {Xa:List Value} {newId:String} (KX:K.In h) (hm:mg x=some (.ref C)) (q:PySem.W.excIn K C Xa newId=true):OwnCls x C Xa newId mg h:=by
 refine ⟨hm,?_⟩
 unfold PySem.W.excIn at q
 split at q
 ·rename_i dd cd sl ho
  split at q
  ·rename_i C' bm k0 k1 k2 k3 n k5 hm' hs
   simp only [Bool.and_eq_true,beq_iff_eq,Bool.not_eq_true'] at q
   obtain ⟨⟨⟨⟨⟨rfl,rfl⟩,Xb⟩,ht⟩,bz⟩,WM⟩:=q
   obtain ⟨nm,bs,mro,ns,qn,hd,sn,sub,ab,col,del⟩:=cd
   dsimp only at hm' Xb bz WM
   subst hm' Xb
   have hsl:sl=#[k0,k1,k2,k3,some (.builtin n),k5]:=by
    obtain ⟨l⟩:=sl
    simp only at hs
    rw [hs]
   subst hsl
   exact ⟨bm,ns,nm,qn,bs,hd,sn,sub,ab,col,dd,k0,k1,k2,k3,k5,_,KX _ _ ho,.of_isNs (PySem.W.isNs_of_in KX bz),PySem.W.nsMap_none_of_in KX bz WM,PySem.W.tail_of_in KX ht⟩
  ·cases q
 ·cases q
def Ue (C:Addr) (E:XK) (t:TA):TS:=fun _ σ H=>t σ H fun vs H1=>vs.length≤sizeLine∧E (.ref C) none H1
theorem eg {x:Str} {np fF pos:Pos} {e:Expr} {es:List Expr} {t:TA} {C:Addr} {Xa:List Value} {B newId Ug:String} (Bd:Body X E) (hc:X.calm=true) (hg:Gl X x) (hm:X.mg x=some (.ref C))
  (hk:PySem.W.excIn X.K C Xa newId=true) (FB:ExcBaseFacts B newId Ug Xa) (ha:PA X (e :: es) t)
  (he:starEach (e :: es) X.env=(false,eval e X.env) :: starEach es X.env:=by rfl) (kK:(backTo fF (starEach es X.env)).any (·.1)=false:=by rfl) (OA:(x == ("__debug__":Str))=false:=by decide) :
  PS X (.Raise (some (.Call (.Name x np) (e :: es) [] fF)) none pos) (Ue C E t):=by
 intro pins s σ H D I h
 have O:=Gu (I.mod.WE) hm hk
 obtain ⟨tl,N,nm,q,bs,hdct,sn,sub,ab,col,dd,k0,k1,k2,k3,k5,mN,hC,hN,WM,T⟩:=O.obj
 refine wpAny_Raise_call_subT (C:=C) (nm:=nm) (q:=q) (N:=N) (bs:=bs) (bm:=tl) (hdct:=hdct) (sn:=sn) (sub:=sub) (ab:=ab) (col:=col) (dd:=dd) (k0:=k0) (k1:=k1) (k2:=k2) (k3:=k3) (k5:=k5)
  FB (mN:=mN) (T.hasType FB.hasBase) (I.ok.hd hc) (by rw [he];show (false || (backTo fF (starEach es X.env)).any (·.1))=false;rw [kK];rfl) WM (vN I hg hm ⟨rfl,?_⟩ OA)
 have hA:=ha fF pins s σ H _ I h
 rw [he] at hA ⊢
 refine Calls.evalArgs_plain (bu hA fun us s2 ⟨vs,H2,I2,r,hz,q2⟩=>?_)
 refine ⟨rfl,by rw [← r.length];exact hz,I2.bk _ _ hC,hN.keeps I2.bk,T.keeps I2.bk,fun h' a hx=>?_⟩
 rw [Bd.xe]
 have WL:X.A.frames=some (X.env :: X.outer):=by rw [← Bd.QJ];exact I.ok.frames
 have WN:∀ env ∈ X.stack,∀ b,env.frame=some b→b ∈ pJ X.stack:=fun env he b hb=>List.mem_filterMap.mpr ⟨env,he,hb⟩
 have F0:s2.heap.FunFrames (PySem.W.hideAll s2.heap (pJ X.stack)) X.stack:=PySem.W.funFrames_hide I2.stack WN
 have F1:s2.heap.FunFrames (PySem.W.hideAll s2.heap (pJ X.stack)) (X.env :: X.outer):=by rw [← Bd.QJ];exact F0
 have hB0:(PySem.W.hideAll s2.heap (pJ X.stack)).StaysIn s2.heap:=fun b o q=>PySem.W.of_hideAll _ q
 have TC:∀ b o,s2.heap.get? b=some o→b ∉ pJ X.stack→(PySem.W.hideAll s2.heap (pJ X.stack)).get? b=some o:=fun b o e hb=>PySem.W.hideAll_get _ e hb
 refine wpAny_leaves_madeW WL Bd.fr hB0 F1 hx fun h'' t OL tup tn up=>?_
 have Qs:∀ b o,X.s₀.heap.get? b=some o→b ∉ pJ X.outer→∃ o',(PySem.W.hideAll s2.heap (pJ X.stack)).get? b=some o':=fun b o e hb=>by
  obtain ⟨o1,e1⟩:=(Bd.base I2).there b o e (by simp)
  exact ⟨o1,TC b o1 e1 (Bd.OM (I2.old e) hb)⟩
 have L0:∀ b u,H2 b=some u→∃ o',(PySem.W.hideAll s2.heap (pJ X.stack)).get? b=some o':=fun b u e=>by
  have hb:b ∉ pJ X.stack:=fun z=>by rw [I2.zY b z] at e;cases e
  have fE:=I2.bz.lt e
  obtain ⟨o1,e1⟩:∃ o1,s2.heap.get? b=some o1:=by
   cases hq:s2.heap.get? b with
   | some o1=>exact ⟨o1,rfl⟩
   | none=>exact absurd hq (Gw (I2.bz b u e))
  exact ⟨o1,TC b o1 e1 hb⟩
 have F2:s2.heap.FunFrames (PySem.W.hideAll s2.heap (pJ X.stack)) X.outer:=by obtain ⟨_,_,k⟩:=F1;exact k
 have up2:s2.heap.UpToSlots h'':=(Heap.UpToSlots.of_keeps hx.keeps).trans up
 exact ⟨a,C,.ref t,_,H2,rfl,⟨I2.os,I2.bare,Gs (Bd.base I2) F2 hB0 OL.1 up2 Qs,yx I2.bz hB0 OL.1 L0,OL,Qs,L0⟩,q2⟩
where
 Gw {P:Program} {w:World} {H:Hp} {h:Heap} {a:Addr} {o:HO} (x:cJ P w H h a o):h.get? a≠none:=by
  cases o with
  | lst xs=>obtain ⟨_,_,_,_,e⟩:=x;rw [e];simp
  | tup xs=>obtain ⟨_,_,_,ob,e,_⟩:=x;rw [e];simp
  | dK aq=>obtain ⟨_,_,_,_,o,_,_,e,_⟩:=x;rw [e];simp
  | dT aq=>obtain ⟨_,_,_,_,o,_,_,e,_⟩:=x;rw [e];simp
  | set S n=>obtain ⟨o,_,_,_,e,_⟩:=x;rw [e];simp
  | ins C dx fs=>obtain ⟨_,_,_,e,_⟩:=x;rw [e];simp
  | own y=>obtain ⟨_,e⟩:=x;rw [e];simp
  | xd fs=>obtain ⟨_,⟨_,_,_,e,_⟩,_⟩:=x;rw [e];simp
  | Zf lo hi=>obtain ⟨_,_,_,e⟩:=x;rw [e];simp
  | Ir ob u=>obtain ⟨e,_⟩:=x;rw [e];simp
  | Sy ps=>have e:h.get? a=some _:=x;rw [e];simp
  | met f y=>have e:h.get? a=some _:=x;rw [e];simp
  | ext φ=>obtain ⟨_,⟨_,e⟩,_⟩:=x;rw [e];simp
end
end L2
namespace L2
open PySem PySem.Spec PyProof.Rows
def ExcAt (a C:Addr) (h:Heap):Prop:=∃ oe vs,h.get? a=some oe∧oe.cls=.ref C∧oe.data=.fields vs
theorem ExcAt.mono {a C:Addr} {h1 h2:Heap} (x:ExcAt a C h1) (k:∀ o,h1.get? a=some o→h2.get? a=some o):ExcAt a C h2:=let ⟨oe,vs,e,c,d⟩:=x;⟨oe,vs,k _ e,c,d⟩
structure Catch (K:PySem.W.Frag) (C:Addr):Prop where
 ty:PySem.W.typeIn K (.ref C)=some (.type "type")
 cls:(PySem.W.clsIn K C).isSome=true
 base:PySem.W.subIn K (.ref C) (.type "BaseException")=some true
section
variable {X:Cx} {E:XK} {pins:List (Addr × Obj)} {σ:St} {H:Hp} {s:Shared} {a:Addr}
theorem Un.ext {fs:List Addr} {H H':Hp} {h h':Heap} {a:Addr} {o:HO} (u:Un fs [] H H' h h') (ha:h.get? a=none) (hn:H' a=none):Un fs [] H (upd H' a o) h h' where
 keep:=u.keep
 slot:=u.slot
 free:=fun b ob e n hx=>by rw [aD (fun z=>by rw [z,ha] at e;cases e)];exact u.free b ob e n hx
 there:=u.there
 nU:=fun b xs e=>by have q:=u.nU b xs e;rw [aD (aK q hn)];exact q
 nQ:=fun b ob xs e=>by have q:=u.nQ b ob xs e;rw [aD (aK q hn)];exact q
 nV:=fun b ps e=>by obtain ⟨m,q⟩:=u.nV b ps e;exact ⟨m,by rw [aD (aK q hn)];exact q⟩
end
end L2
namespace L2
open PySem PySem.Spec PyProof.Rows
structure tI (K:PySem.W.Frag) (C:Addr):Prop where
 ga:PySem.W.findIn K (.ref C) "__getattribute__"=some (some (.builtin "BaseException.__getattribute__"))
 nga:PySem.W.findIn K (.ref C) "__getattr__"=some none
 at_:PySem.W.findIn K (.ref C) "__class__"=some (some (.builtin "object.__class__"))
 cls:(PySem.W.clsIn K C).isSome=true
 obj:PySem.W.mroIn K C (.type "object")=some true
 base:PySem.W.subIn K (.ref C) (.type "BaseException")=some true
section
variable {prog:Program} {w:World} {A:Around} {E:Value→Shared→Prop} {h:Heap} {g:Array GenState} {d:Drawn} {t:Nat} {os:OsState} {K:PySem.W.Frag} {a C:Addr}
theorem ExcAt.type {M:Model} (x:ExcAt a C h):PySem.W.Looks M h (typeOf (.ref a)) (.ref C):=by
 obtain ⟨oe,vs,he,hc,hd⟩:=x
 exact hc ▸ (PySem.W.Looks.ld he).andThen .now
end
end L2
namespace L2
open PySem PySem.Spec PyProof.Rows
abbrev TJ:=Str→St→Hp→VK→Prop
def PJ (X:Cx) (es:List Expr) (t:TJ):Prop :=
 ∀ (out:Str) (pins:List (Addr × Obj)) (s:Shared) (σ:St) (H:Hp) (Q:VK),Inv X pins σ H s→t out σ H Q→wpAny (model X.prog X.w) X.A (joinParts out (evalEach es X.env)) (EP X pins σ Q) X.xe s
section
variable {X:Cx} {e:Expr} {es:List Expr} {te:TE} {t:TJ} {pos:Pos}
def aAY:TJ:=fun out _ H Q=>out.length≤sizeLine∧Q (.str out) H
theorem nj:PJ X [] aAY:=fun out pins s σ H Q I h=>joinParts_nil (show EP X pins σ Q (.str out s.toks) { s with toks:=s.toks+1 } from ⟨.str out,H,I.tok _,⟨_,rfl⟩,h.2⟩) h.1
def Xc (te:TE) (t:TJ):TJ:=fun out σ H Q=>te σ H fun v H1=>∃ y,v=.str y∧(out ++ y).length≤sizeLine∧t (out ++ y) σ H1 Q
theorem bU (he:PE X e te) (hr:PJ X es t):PJ X (e :: es) (Xc te t):=by
 intro out pins s σ H Q I h
 refine joinParts_consE (joinParts_cons (bu (he pins s σ H _ I h) fun v s1 ⟨x,H1,I1,r1,y,ex,hz,q⟩=>?_))
 subst ex
 obtain ⟨tk,rfl⟩:=r1
 exact ⟨hz,hr _ pins s1 σ H1 Q I1 q⟩
theorem jz {e1 e2:Expr} {rest:List Expr} (h:PJ X (e1 :: e2 :: rest) t):PE X (.JoinedStr (e1 :: e2 :: rest) pos) (fun σ H Q=>t Str.empty σ H Q):=fun pins s σ H Q I hw=>JoinedStr_many (h Str.empty pins s σ H Q I hw)
def Xd (te:TE):TE:=fun σ H Q=>te σ H fun v H1=>∃ i,v=.int i∧i.natAbs.log2 < 1920∧Q (.str (toString i)) H1
theorem ff (he:PE X e te):PE X (.FormattedValue e (-1) none pos) (Xd te):=by
 intro pins s σ H Q I h
 refine FormattedValue_plain (bu (he pins s σ H _ I h) fun v s1 ⟨x,H1,I1,r1,i,ex,hi,q⟩=>?_)
 subst ex
 obtain ⟨tk,rfl⟩:=r1
 exact formatField_int_small hi ⟨.str _,H1,I1.tok _,⟨_,rfl⟩,q⟩
theorem dW {i:Int} {n:Nat} (h:i.natAbs < 2 ^ n) (hn:n≤1920) (h0:0 < n):i.natAbs.log2 < 1920:=by
 by_cases z:i.natAbs=0
 ·rw [z];decide
 ·have:=(Nat.log2_lt z).mpr h
  omega
end
end L2
namespace L2
open PySem PySem.Spec PyProof.Rows
theorem PS.uX {X:Cx} {st:Stmt} {t:TS} (h:PS X.uX st t):PS X st t:=fun pins s σ H D I hw =>
 wpAny_mono (h pins s σ H D (I.sy _) hw) (fun _ _ q=>q.jI) fun _ _ z=>False.elim z
theorem ar {X:Cx}:l4 (i9 X.prog X.w) X E0:=fun _ _ _ _ _ _ _ h=>by obtain ⟨_,_,_,_,_,_,_,q⟩:=h;exact q.elim
structure Def (P:Program) (w:World) (K:PySem.W.Frag) (mg:Str→Option Value) (base:Heap) (k:Nat) (x:Str) (ps:List Str) (sp:Sp):Prop where
 ex:∃ (f:Addr) (fd:FuncData),bZ P w K mg base (i9 P w) k f fd ps sp∧mg x=some (.ref f)∧PySem.W.keepIn K (.ref f)=true∧Binds K fd ps []
section
variable {P:Program} {w:World} {K:PySem.W.Frag} {mg:Str→Option Value} {base:Heap}
theorem Def.mono {j k:Nat} {x:Str} {ps:List Str} {sp:Sp} (D:Def P w K mg base j x ps sp) (h:j≤k):Def P w K mg base k x ps sp:=let ⟨f,fd,a,r⟩:=D.ex;⟨f,fd,a.mono h,r⟩
structure aP (K:PySem.W.Frag) (mg:Str→Option Value) (x:Str) (st:Stmt):Prop where
 ex:∃ (f:Addr) (fd:FuncData),kL K x x st f fd∧mg x=some (.ref f)
theorem aP.mk' {h:Heap} {x:Str} {st:Stmt} {f:Addr} {oc:Value} {od an:Option Addr} {K5:Array (Option Value)} {kV doc pm bo ct:Value} (KX:K.In h) (G:h.Ns mainGlobals mg)
  (a:PySem.W.nsIn K mainGlobals x=some (some (.ref f))) (l:K.lookup f=some ⟨oc,od,.func (PySem.W.fnOf x x (bT st) (bG st) (aH st) .none kV doc pm an bo ct),K5⟩)
  (c:PySem.W.codeIn K bo x=true) (k:PySem.W.keepIn K (.ref f)=true):aP K mg x st:=⟨f,_,eO l c k,PySem.W.mg_of KX G a⟩
abbrev Zo (P:Program) (w:World) (K:PySem.W.Frag) (mg:Str→Option Value) (base:Heap) (N:List Str) (x:Str) (st:Stmt) (f:Addr) (bo:Value) (A:Around) (outer:List Env) (s:Shared) (H:Hp) (E:XK):Cx :=
 JK (i9 P w) P w K mg base N x (aH st) f bo A outer s H E
theorem bC {N:List Str} {x:Str} {st:Stmt} {f:Addr} {bo:Value} {A:Around} {outer:List Env} {s:Shared} {H:Hp} {E:XK}:Body (Zo P w K mg base N x st f bo A outer s H E) E:=⟨rfl,rfl,rfl,rfl⟩
theorem aP.def {x:Str} {st:Stmt} {N ps:List Str} {k:Nat} {sp:Sp} (F:aP K mg x st) (S:aQ N ps (aH st))
  (hb:∀ (kV doc pm:Value) (an:Option Addr) (bo ct:Value) (us:List Value),us.length=ps.length→bindArgs (PySem.W.fnOf x x (bT st) (bG st) (aH st) .none kV doc pm an bo ct) ⟨us,[]⟩=pure (ps.zip us))
  (len:∀ vs H Q E,sp vs H Q E→vs.length=ps.length)
  (rT:∀ (f:Addr) (bo:Value) (A:Around) (outer:List Env) (s:Shared) (H:Hp) (vs:List V) (Q:VK) (E:XK),dv k (A.deeper (envOfC x (aH st) s.heap.objs.size f bo))→sp vs H Q E →
   ∃ t,Iu (Zo P w K mg base N x st f bo A outer s H E) (bG st) t∧t { nx:=fun _ H'=>Q .bJ H',rt:=Q } (start N vs) H):Def P w K mg base (k+1) x ps sp:=by
 obtain ⟨f,fd,F1,hm⟩:=F.ex
 have b:=F1.binds hb
 have kp:=F1.kp
 obtain ⟨oc,od,kV,doc,pm,an,bo,ct,K5,rfl,lk,yl⟩:=F1.ex
 exact ⟨f,_,K4 lk yl S len fun A outer s H vs Q E hr K6=>rT f bo A outer s H vs Q E hr K6,hm,kp,b⟩
end
section
variable {X:Cx} {k:Nat} {ps:List Str} {sp:Sp} {E:XK} {x:Str} {p pos:Pos} {e:Expr} {es:List Expr} {t:TA}
theorem aZ (D:Def X.prog X.w X.K X.mg X.base k x ps sp) (hr:dv k X.A) (hx:l4 (i9 X.prog X.w) X E) (ha:PA X (e :: es) t) (hg:Gl X x:=by rfl) (OA:(x == ("__debug__":Str))=false:=by decide)
  (he:starEach (e :: es) X.env=(false,eval e X.env) :: starEach es X.env:=by rfl) (kK:(backTo pos (starEach es X.env)).any (·.1)=false:=by rfl) :
  PE X (.Call (.Name x p) (e :: es) [] pos) (S7 sp [] E t):=by
 obtain ⟨f,fd,F,hm,hk,hb⟩:=D.ex
 exact Qj F hr hg hm hk hb .nil hx ha OA he kK
end
end L2
namespace L2
open PySem PySem.Spec PyProof.Rows
section
variable {X:Cx}
def TF (K:PySem.W.Frag):R2:=fun x y H Q=>∃ l b xs zs,x=.ref l∧y=.ref b∧aX K H l xs∧aX K H b zs∧xs.length+zs.length≤sizeLine∧∀ p,H p=none→Q (.ref p) (upd H p (.lst (xs ++ zs)))
theorem Qt:nR X (binaryOp .Add) (TF X.K):=by
 intro pins s σ H x y v u Q I rx ry h
 obtain ⟨l,b,xs,zs,rfl,rfl,hH,hB,hz,q⟩:=h
 cases rx
 cases ry
 obtain ⟨ai,r,pl,_⟩:=I.list hH
 obtain ⟨iP,r2,pl2,_⟩:=I.list hB
 obtain ⟨⟨cls,dd,data,sl⟩,ho,hc,n,hd⟩:=id pl.isList
 obtain ⟨⟨aFm,dd2,data2,Zn⟩,Zp,TH,n2,hd2⟩:=id pl2.isList
 simp only at hc hd TH hd2
 subst hc hd TH hd2
 have e:ai.toArray ++ iP.toArray=(ai ++ iP).toArray:=by simp
 have hsz:ai.toArray.size+iP.toArray.size≤sizeLine:=by
  rw [List.size_toArray,List.size_toArray,← r.length,← r2.length];exact hz
 refine concat_meets ⟨_,ho,rfl⟩ ⟨_,Zp,rfl⟩ noFill_list_add seq_list_add PySem.F.slot_list_add PySem.F.entry_list_add (PySem.F.args_list_add_2 _ _) (list_addW l b ai.toArray iP.toArray n n2 dd dd2 sl Zn hsz) ⟨ho,Zp,?_⟩
 rw [e]
 exact ⟨.ref _,_,I.XO (t':=s.toks) (r.append r2) (by rw [List.length_append];exact hz),rfl,q _ I.fresh⟩
inductive TyX (K:PySem.W.Frag) (H:Hp):V→Value→Prop where
 | of {x:V} {t:Value}:u9 K H x t→TyX K H x t
 | exc {a C:Addr}:H a=some (.ext (ExcAt a C))→tI K C→TyX K H (.ref a) (.ref C)
end
end L2
namespace L2
open PySem PySem.Spec PyProof.Rows
end L2
namespace L2
open PySem PySem.Spec PyProof.Rows
def yy (K:PySem.W.Frag):Sp:=fun vs H Q _=>∃ (a:Addr) (ns:List Int),vs=[.ref a]∧aX K H a (ns.map V.int)∧ns.length≤63∧∀ H',Q (.bl true) H'
section
variable {P:Program} {w:World} {K:PySem.W.Frag} {mg:Str→Option Value} {base:Heap}
theorem kL.ok1 {x:Str} {st:Stmt} {f:Addr} {fd:FuncData} {N ps:List Str} {k:Nat} {sp:Sp} (F:kL K x x st f fd) (S:aQ N ps (aH st)) (len:∀ vs H Q E,sp vs H Q E→vs.length=ps.length)
  (rT:∀ (f:Addr) (bo:Value) (A:Around) (outer:List Env) (s:Shared) (H:Hp) (vs:List V) (Q:VK) (E:XK),dv k (A.deeper (envOfC x (aH st) s.heap.objs.size f bo))→sp vs H Q E →
   ∃ t,Iu (Zo P w K mg base N x st f bo A outer s H E) (bG st) t∧t { nx:=fun _ H'=>Q .bJ H',rt:=Q } (start N vs) H):bZ P w K mg base (i9 P w) (k+1) f fd ps sp:=by
 obtain ⟨oc,od,kV,doc,pm,an,bo,ct,K5,rfl,lk,yl⟩:=F.ex
 exact K4 lk yl S len fun A outer s H vs Q E hr K6=>rT f bo A outer s H vs Q E hr K6
theorem ON {st:Stmt} {fa:Addr} {k:Nat} (S:aP K mg "law" st)
  (hb:∀ (kV doc pm:Value) (an:Option Addr) (bo ct:Value) (us:List Value),us.length=1→bindArgs (PySem.W.fnOf "law" "law" (bT st) (bG st) (aH st) .none kV doc pm an bo ct) ⟨us,[]⟩=pure ((["script"]:List Str).zip us))
  (UX:mg "law"=some (.ref fa)) (hF:∀ (f:Addr) (fd:FuncData) (base:Heap),kL K "law" "law" st f fd→bZ P w K mg base (i9 P w) k f fd ["script"] (yy K)) :
  ∃ fd:FuncData,(∀ (s:Shared) (u:Value),BindsTo s fd ⟨[u],[]⟩ [("script",u)])∧∀ base:Heap,K.In base→base.Ns mainGlobals mg→bZ P w K mg base (i9 P w) k fa fd ["script"] (yy K):=by
 obtain ⟨f,fd,F,hm⟩:=S.ex
 rw [UX] at hm
 cases hm
 refine ⟨fd,?_,fun base _ _=>hF fa fd base F⟩
 obtain ⟨oc,od,kV,doc,pm,an,bo,ct,K5,rfl,lk,yl⟩:=F.ex
 exact fun s u=>.of_eq (hb kV doc pm an bo ct [u] rfl)
end
theorem OO {l:PySem.W.OpenLaw} {k:Nat} {q:Program} {loose:List Str} {XP:(Str→Option Value)→Heap→Prop} {YP:World→Heap→Prop} {d:DefRec} {K:Params→PySem.W.Frag}
  (hr:dv k callerA) (hn:l.most=some 63) (XR:d.params.defaults=[])
  (hY:∀ (w:World) (h:Heap),YP w h→(K w.params).In h)
  (F:∀ (w:World) (mg:Str→Option Value) (fa:Addr) (h:Heap),(K w.params).In h→h.Ns mainGlobals mg→mg d.name=some (.ref fa) →
   ∃ fd:FuncData,(∀ (s:Shared) (u:Value),BindsTo s fd ⟨[u],[]⟩ [("script",u)]) ∧
    ∀ base:Heap,(K w.params).In base→base.Ns mainGlobals mg→bZ l.prog w (K w.params) mg base (i9 l.prog w) k fa fd ["script"] (yy (K w.params))) :
  PySem.W.WalkO q loose XP YP l.row.toRowW d [] (fun f vs=>PySem.call f vs) :=
 Qr (n:=63) (k:=k) (x:="script") (CX:=fun w=>i9 l.prog w) (sp:=fun w=>yy (K w.params)) hn (by decide) XR hr hY F (fun _ _ a ns hl _ hS=>⟨a,ns,rfl,hS,hl,fun _=>rfl⟩)
  fun _ _ _ _ _ h=>by obtain ⟨_,_,_,_,_,_,_,q⟩:=h;exact q.elim
theorem aS {X:Cx} {x:Str} {n:Int} {pos:Pos} (h:∃ tk,X.mg x=some (.int n tk)) (hg:Gl X x:=by rfl) (hd:(x == ("__debug__":Str))=false:=by decide):PE X (.Name x pos) (tC (.int n)):=by
 obtain ⟨tk,e⟩:=h
 exact Kt hg e ⟨tk,rfl⟩ hd
end L2
namespace L2
open PySem
theorem dX {p A B:Prop} [Decidable p] (hp:¬ p) (h:B):if decide p=true then A else B:=by rw [decide_eq_false hp];exact di h
theorem eP {p A B:Prop} [Decidable p] (hp:p) (h:A):if decide p=true then A else B:=by rw [decide_eq_true hp];exact fe h
theorem qC {p A B:Prop} [Decidable p] (hp:p) (h:B):if (!decide p)=true then A else B:=by rw [decide_eq_true hp];exact di h
theorem rY {p A B:Prop} [Decidable p] (hp:¬ p) (h:A):if (!decide p)=true then A else B:=by rw [decide_eq_false hp];exact fe h
theorem dw {n:Int} (h:-1000≤n) (h2:n≤1000):n.natAbs < 2 ^ 1000:=by
 have:n.natAbs≤1000:=by omega
 exact Nat.lt_of_le_of_lt this (by decide)
theorem aI.put {H H':Hp} {p:Addr} {o:HO} (s:aI H H') (hp:H p=none):aI H (upd H' p o):=fun b u e=>by rw [aD (aK e hp)];exact s b u e
theorem aI.new {H H':Hp} {p:Addr} {o:HO} (s:aI H H') (hp:H' p=none):aI H (upd H' p o):=s.put (s.free hp)
end L2
namespace L2
open PySem
end L2
namespace L2
open PySem PySem.Spec PyProof.Rows
theorem Uh {X:Cx} {E:XK} (Bd:Body X E):PassesOwn (model X.prog X.w) X.A X.env X.xe:=by
 rw [Bd.xe]
 exact PassesOwn.leaving
inductive Alike (K:PySem.W.Frag) (H:Hp):Nat→V→V→Prop where
 | int {n:Nat} (i:Int):Alike K H n (.int i) (.int i)
 | bl {n:Nat} (i:Bool):Alike K H n (.bl i) (.bl i)
 | str {n:Nat} (i:Str):Alike K H n (.str i) (.str i)
 | bJ {n:Nat}:Alike K H n .bJ .bJ
 | lst {n:Nat} {a b:Addr} {xs ys:List V} (ha:aX K H a xs) (hb:aX K H b ys) (hl:xs.length=ys.length) (h:∀ (j:Nat) (x y:V),xs[j]?=some x→ys[j]?=some y→Alike K H n x y):Alike K H (n+1) (.ref a) (.ref b)
theorem all_true (n:Nat):(List.range n).all (fun _=>true)=true:=by simp
section
variable {X:Cx} {pins:List (Addr × Obj)} {σ:St} {H:Hp} {s:Shared}
theorem iQ {xs:List V} {ai:List Value} (r:au xs ai) (j:Nat) (h:j < ai.toArray.size):∃ x,xs[j]?=some x∧RelV x ai.toArray[j]:=by
 have hj:j < ai.length:=by simpa using h
 have hl:=r.length
 have hx:xs[j]?=some xs[j]:=by simp [show j < xs.length by omega]
 obtain ⟨u,hu,ru⟩:=r.get hx
 refine ⟨_,hx,?_⟩
 have e:ai.toArray[j]=u:=by
  have:=hu
  rw [List.getElem?_eq_getElem hj] at this
  simpa using Option.some.inj this
 rw [e]
 exact ru
end
section
variable {X:Cx}
theorem MN {A:Around} {k:Nat} (hr:dv k A):A.units+16 < cLine:=by have:=hr.un;omega
end
end L2
namespace L2
open PySem PySem.Spec PyProof.Rows
section
variable {prog:Program} {w:World} {A:Around} {s:Shared} {R:Result→Shared→Prop} {I S:Addr} {fp wr:List Addr} {G:Array GenState→Array GenState→Prop} {n:Nat} {P:Nat→Value→Prop} {St:Nat→Shared→Prop} {T:String}
theorem OP (W:WalksS prog w A.in1 I fp wr G n P St) (hT:∀ i s,St i s→s.TypeIs (.ref I) T) (t1:(Value.type T == Value.type "list")=false) (t2:(Value.type T == Value.type "tuple")=false)
  (hh:∀ (s:Shared) (Q:Bool→Shared→Prop) (E:Value→Shared→Prop),St 0 s→Q false s→wpAny (model prog w) A.in1 (Builtin.List.listLengthHint (.ref I)) Q E s)
  (res:Value) (c0:Nat) (sj:St 0 s) (Zq:S ∉ fp) (hI:I ∈ fp) (hS:s.heap.get? S=some { cls:=.type "list",data:=.seq #[] c0 }) (hn:n≤sizeLine)
  (hR:∀ s' nS c',Moved (S :: wr) G s s'→s'.heap.get? S=some { cls:=.type "list",dict:=none,data:=.seq nS c',slots:=#[] }→ItemsOf P nS n→R (.ok (.ret res)) s') :
  wpAny (model prog w) A.in1 (Builtin.List.listExtendWith (.ref S) (.ref I) res)
   (fun fin s'=>match fin with | .done f=>R (.ok f) s' | .again c'=>c'.quiet=true∧codeAny (model prog w) A c' R s') (fun e s'=>R (.error e) s') s:=by
 have ne:S≠I:=fun e=>Zq (by rw [e];exact hI)
 have h1:Builtin.List.listSameRef (.ref S) (.ref I)=false:=by simp [Builtin.List.listSameRef,ne]
 unfold Builtin.List.listExtendWith
 refine wpAny_bind (wpAny_typeOf (hT 0 s sj) ?_)
 simp only [h1,t1,t2,Bool.or_false,Bool.false_eq_true,if_false]
 refine wpAny_bind (W.self 0 s _ _ sj (wpAny_bind (wpAny_holding (hh s _ _ sj ?_))))
 refine wpAny_ite_split (fun _=>?_) (fun _=>?_)
 ·refine wpAny_bind (wpAny_rule (wpAny_bind ?_))
  show wpAny _ A.in1 (updateSeq S (·.push .none) >>= fun _=>updateSeq S (·.pop)) _ _ s
  refine wpAny_bind (wpAny_updateSeq hS rfl ?_)
  have Zr:=Heap.get?_update_self (Obj.mapSeq (·.push Value.none)) hS rfl
  refine wpAny_updateSeq (hz:=by seq_fits) Zr rfl ?_
  have hS3:=Heap.get?_update_self (Obj.mapSeq (·.pop)) Zr rfl
  have kp:∀ b o,b≠S→s.heap.get? b=some o→((s.heap.update S (Obj.mapSeq (·.push Value.none))).update S (Obj.mapSeq (·.pop))).get? b=some o:=fun b o hb e=>by
   rw [Heap.get?_update_other _ _ (Ne.symm hb),Heap.get?_update_other _ _ (Ne.symm hb)];exact e
  exact wpAny_pure ⟨plainId_quiet F.plain_extend_loop _,codeAny_extend_loopS W hn S Zq res n 0 _ _ _ rfl (Nat.zero_le n) (W.frame 0 s _ s.toks sj (Nat.le_refl _) fun b hb o e=>kp b o (fun z=>Zq (by rw [← z];exact hb)) e) hS3 (ItemsOf.nil P)
   fun s' nS c' hm Ui JO=>hR s' nS c' (Moved.trans W.gtrans ((Moved.refl W.grefl).then_heap (Nat.le_refl _) fun b o hb e=>kp b o (fun z=>hb (by rw [z];exact List.mem_cons_self)) e) hm) Ui JO⟩
 ·exact wpAny_pure ⟨plainId_quiet F.plain_extend_loop _,codeAny_extend_loopS W hn S Zq res n 0 s #[] c0 rfl (Nat.zero_le n) sj hS (ItemsOf.nil P) fun s' nS c' hm Ui JO=>hR s' nS c' hm Ui JO⟩
theorem MO {E:Value→Shared→Prop} {Q:Value→Shared→Prop} (W:WalksS prog w A.in1.in1 I fp wr G n P St) (hT:∀ i s,St i s→s.TypeIs (.ref I) T) (t1:(Value.type T == Value.type "list")=false) (t2:(Value.type T == Value.type "tuple")=false)
  (hh:∀ (s:Shared) (Q:Bool→Shared→Prop) (E:Value→Shared→Prop),St 0 s→Q false s→wpAny (model prog w) A.in1.in1 (Builtin.List.listLengthHint (.ref I)) Q E s)
  (sj:St 0 s) (XW:∀ b ∈ fp,b < s.heap.objs.size) (hI:I ∈ fp) (hn:n≤sizeLine)
  (hQ:∀ s' nS c',Moved (s.heap.objs.size :: wr) G { s with heap:=s.heap.push { cls:=.type "list",data:=.seq #[] } } s' →
   s'.heap.get? s.heap.objs.size=some { cls:=.type "list",dict:=none,data:=.seq nS c',slots:=#[] }→ItemsOf P nS n→Q (.ref s.heap.objs.size) s') :
  wpAny (model prog w) A (call (.type "list") [.ref I]) Q E s:=by
 have nf:s.heap.objs.size ∉ fp:=fun z=>absurd (XW _ z) (Nat.lt_irrefl _)
 refine callType_codes (Q₁:=fun obj z=>obj=.ref s.heap.objs.size∧z={ s with heap:=s.heap.push { cls:=.type "list",data:=.seq #[] } }) F.called_list (F.typeCall_list_1 _) F.entry_list_init (code_list_new _ ⟨rfl,rfl⟩) fun obj z hz=>?_
 obtain ⟨rfl,rfl⟩:=hz
 have hS:(s.heap.push { cls:=.type "list",data:=.seq #[] }).get? s.heap.objs.size=some { cls:=.type "list",data:=.seq #[] }:=Heap.get?_push_size _ rfl
 refine ⟨⟨_,hS,rfl⟩,F.args_list_init_2 _ _,?_⟩
 have Uj:=W.frame 0 s (s.heap.push { cls:=.type "list",data:=.seq #[] }) s.toks sj (Nat.le_refl _) fun b _ o e=>Heap.get?_push_of_some _ e
 show wpAny _ A.in1.in1 (do let old ← Builtin.List.listItems (.ref s.heap.objs.size);Builtin.List.listUpdate (.ref s.heap.objs.size) (fun _=>#[]);letGo old.toList.reverse;Builtin.List.listExtendWith (.ref s.heap.objs.size) (.ref I) .none) _ _ _
 refine wpAny_bind ?_
 unfold Builtin.List.listItems
 refine wpAny_bind (wpAny_seqItems hS rfl (wpAny_pure (wpAny_bind (wpAny_updateSeq hS rfl ?_))))
 have Zr:=Heap.get?_update_self (Obj.mapSeq (fun _=>(#[]:Array Value))) hS rfl
 have kp:∀ b o,b≠s.heap.objs.size→(s.heap.push { cls:=.type "list",data:=.seq #[] }).get? b=some o→((s.heap.push { cls:=.type "list",data:=.seq #[] }).update s.heap.objs.size (Obj.mapSeq (fun _=>(#[]:Array Value)))).get? b=some o :=
  fun b o hb e=>(Heap.get?_update_other _ _ (Ne.symm hb)).trans e
 refine wpAny_bind (wpAny_letGo ?_)
 refine OP W hT t1 t2 hh .none _ (W.frame 0 _ _ s.toks Uj (Nat.le_refl _) fun b hb o e=>kp b o (fun z=>nf (by rw [← z];exact hb)) e) nf hI Zr hn fun s' nS c' hm Ui JO=>?_
 exact ⟨rfl,hQ s' nS c' (Moved.trans W.gtrans ((Moved.refl W.grefl).then_heap (Nat.le_refl _) fun b o hb e=>kp b o (fun z=>hb (by rw [z];exact List.mem_cons_self)) e) hm) Ui JO⟩
end
theorem MP:typeLookup (.type "list_reverseiterator") "__len__"=pure none:=by rw [typeLookup_type,builtinLookup_eq_fast];kernel_rfl
theorem OQ:typeLookup (.type "list_reverseiterator") "__length_hint__"=pure (some (.builtin "list_reverseiterator.__length_hint__")):=by rw [typeLookup_type,builtinLookup_eq_fast];kernel_rfl
theorem OR {prog:Program} {w:World} {A:Around} {s:Shared} {E:Value→Shared→Prop} {Q:Bool→Shared→Prop} {it l:Addr} {i:Int} (hit:s.heap.IsRevIter it l i) (h:Q false s) :
  wpAny (model prog w) A (Builtin.List.listLengthHint (.ref it)) Q E s:=by
 unfold Builtin.List.listLengthHint
 refine wpAny_bind (wpAny_specialOf hit.typeIs MP ?_)
 show wpAny _ A (specialOf (Value.ref it) (Str.ofString "__length_hint__") >>= _) _ _ _
 refine wpAny_bind (wpAny_specialOf hit.typeIs OQ ?_)
 generalize hid:("list_reverseiterator.__length_hint__":String)=id0
 wp_delta
 rw [show splitId id0=some ("list_reverseiterator","__length_hint__") from by subst hid;decide +kernel]
 subst hid
 refine wpAny_bind (wpAny_isInstance (T:="list_reverseiterator") (b:=true) hit.typeIs (by rw [isSubtype_type];kernel_rfl) ?_)
 refine wpAny_ite_split (fun z=>absurd z (by decide)) (fun _=>?_)
 refine wpAny_ite_split (fun _=>?_) (fun z=>absurd (by decide +kernel) z)
 exact wpAny_ite_split (fun z=>absurd z (by decide +kernel)) (fun _=>wpAny_pure h)
section
variable {X:Cx}
def Xe (K:PySem.W.Frag) (te:TE):TE:=fun σ H Q=>te σ H fun v H1=>∃ l xs,v=.ref l∧aX K H1 l xs∧∀ q,H1 q=none→Q (.ref q) (upd H1 q (.lst xs.reverse))
theorem tJ {e:Expr} {te:TE} {p p2 pos Qu:Pos} (hc:X.calm=true) (hml:X.mg "list"=none) (hmr:X.mg "reversed"=none) (he:PE X e te) (hgl:Gl X "list":=by rfl) (hgr:Gl X "reversed":=by rfl)
  (hs:starEach [e] X.env=[(false,eval e X.env)]:=by rfl) (L7:starEach [Expr.Call (.Name "reversed" p2) [e] [] Qu] X.env=[(false,eval (Expr.Call (.Name "reversed" p2) [e] [] Qu) X.env)]:=by rfl) :
  PE X (.Call (.Name "list" p) [.Call (.Name "reversed" p2) [e] [] Qu] [] pos) (Xe X.K te):=by
 intro pins s σ H Q I h
 refine wpAny_Call_Name_kw (lz I hgl hml boot_list ?_ (by decide) (by decide))
 refine PyProof.Rows.callWith_type1 ?_ L7 rfl
 rw [L7]
 show wpAny _ _ (spliced [(false,eval (Expr.Call (.Name "reversed" p2) [e] [] Qu) X.env)]) _ _ s
 refine Calls.spliced_cons (wpAny_Call_Name_kw (lz I hgr hmr boot_reversed ?_ (by decide) (by decide)))
 refine PyProof.Rows.callWith_type1 ?_ hs rfl
 rw [hs]
 show wpAny _ _ (spliced [(false,eval e X.env)]) _ _ s
 refine Calls.spliced_cons (bu (he pins s σ H _ I h) fun v s1 ⟨x,H1,I1,r1,q1⟩=>Calls.spliced_nil ?_)
 obtain ⟨l,xs,rfl,hq,q⟩:=q1
 cases r1
 obtain ⟨ai,rv,pl,hz⟩:=I1.list hq
 have hlen:=rv.length
 refine call_reversed_list pl.isList (Calls.spliced_nil ?_)
 have fE:l < s1.heap.objs.size:=by
  obtain ⟨o,n,ho,_⟩:=pl
  exact Heap.lt_size ho
 have aBa:l≠s1.heap.objs.size:=Nat.ne_of_lt fE
 have W:=(Walks.listRev (prog:=X.prog) (w:=X.w) (A:=X.A.in1.in1) (I.ok.hd hc) s1.heap.objs.size l aBa ai.toArray).toS
 have Zs:(s1.heap.push (revObj l ((ai.toArray.size:Int) - 1))).objs.size=s1.heap.objs.size+1:=Heap.size_push ..
 have pl2:(s1.heap.push (revObj l ((ai.toArray.size:Int) - 1))).IsList l ai.toArray:=pl.isList.at fun o e=>Heap.get?_push_of_some _ e
 refine MO W (T:="list_reverseiterator") (fun i s' st=>st.2.1.typeIs) (by decide) (by decide) (fun s' Q' E' st UM=>OR st.2.1 UM) ⟨Nat.zero_le _,⟨_,Heap.get?_push_size _ rfl,rfl,by unfold revObj;simp⟩,pl2⟩ (fun b hb=>?_) (by simp) (by simp;omega) fun s' nS c' hm Ui JO=>?_
 ·have Xf:b=s1.heap.objs.size∨b=l:=by simpa using hb
  show b < (s1.heap.push (revObj l ((ai.toArray.size:Int) - 1))).objs.size
  rw [Zs]
  rcases Xf with rfl | rfl
  ·exact Nat.lt_succ_self _
  ·exact Nat.lt_succ_of_lt fE
 ·have ea:nS=ai.reverse.toArray:=by
   obtain ⟨a1,a2⟩:=JO
   apply Array.ext'
   apply List.ext_getElem?
   intro j
   by_cases hj:j < ai.length
   ·have QN:j < nS.size:=by rw [a1];simpa using hj
    have g:=a2 j nS[j] (by simp [QN])
    have e1:nS.toList[j]?=some nS[j]:=by simp [QN]
    rw [e1]
    simp only [List.getElem?_toArray,List.size_toArray] at g
    show _=ai.reverse[j]?
    rw [List.getElem?_reverse hj,g]
   ·have:nS.toList[j]?=none:=by simp;rw [a1];simp;omega
    rw [this]
    simp
    omega
  subst ea
  rw [Moved.eq_with hm]
  have kp:∀ b o,s1.heap.get? b=some o→s'.heap.get? b=some o:=fun b o eb=>by
   have hbl:=Heap.lt_size eb
   refine hm.heap b o (fun z=>?_) (Heap.get?_push_of_some _ (Heap.get?_push_of_some _ eb))
   have z':b=(s1.heap.push (revObj l ((ai.toArray.size:Int) - 1))).objs.size∨b=s1.heap.objs.size:=by simpa using z
   rw [Zs] at z'
   rcases z' with z' | z'
   ·exact absurd hbl (by rw [z'];exact Nat.not_lt.mpr (Nat.le_succ _))
   ·exact absurd hbl (by rw [z'];exact Nat.lt_irrefl _)
  refine ⟨.ref _,_,I1.laid (t':=s'.toks) (o:=.lst xs.reverse) (a:=(s1.heap.push (revObj l ((ai.toArray.size:Int) - 1))).objs.size) kp (by rw [Zs];omega) ?_,rfl,q _ (I1.bz.fresh (by rw [Zs];omega))⟩
  exact ⟨by rw [List.length_reverse];exact hz,ai.reverse,c',rv.reverse,Ui⟩
end
end L2
namespace L2
open PySem PySem.Spec PyProof.Rows
def LF (Nc:List Str) (ix:List (Option Nat)) (scope sc:Scope) (N:List Str):Bool :=
 decide (scope.kind=.function) && decide Nc.Nodup && decide (ix.length=Nc.length) &&
 (scope.names.all fun x=>decide (x.2=.local→scope.names.lookup x.1=some .local)) &&
 (scope.names.all fun x=>decide (x.2=.free→sc.names.lookup x.1=some .cell∨sc.names.lookup x.1=some .free)) &&
 (scope.names.all fun x=>decide (x.2=.free→(x.1,NameKind.cell) ∉ scope.names)) &&
 ((ix.zip Nc).all fun p=>match p.1 with | none=>true | some j=>decide (N[j]?=some p.2∧scope.names.lookup p.2=some .free))
theorem dF {X:Cx} {Nc:List Str} {ix:List (Option Nat)} {scope:Scope} (sc:Scope) (N:List Str) (JP:X.env.scope=sc) (hN:X.N=N) (h:LF Nc ix scope sc N=true):fU X Nc ix scope:=by
 subst JP hN
 simp only [LF,Bool.and_eq_true,decide_eq_true_eq,List.all_eq_true] at h
 obtain ⟨⟨⟨⟨⟨⟨h1,h2⟩,h3⟩,h4⟩,h5⟩,h6⟩,h7⟩:=h
 refine ⟨h1,h2,h3,h4,h5,fun x hx=>h6 _ hx rfl,fun i j x e1 e2=>?_⟩
 have hm:(some j,x) ∈ ix.zip Nc:=by
  refine List.mem_iff_getElem?.mpr ⟨i,?_⟩
  rw [List.getElem?_zip_eq_some]
  exact ⟨e1,e2⟩
 have:=h7 _ hm
 simpa using this
end L2
namespace L2
open PySem PySem.Spec PyProof.Rows
section
variable {K:PySem.W.Frag} {g:TG} {tt:TT} {te:TE} {D:Addr} {σ:St} {H:Hp} {Q:VK}
theorem rZ {a:Addr} {xs:List V} (Pv:Nat→St→Hp→Prop) (h0:Pv 0 σ H) (hl:∀ i σ H,i≤xs.length→Pv i σ H→aX K H a xs)
  (hs:∀ (i:Nat) (x:V) (σ:St) (H:Hp) (N:St→Hp→Prop),(∀ σ H,Pv (i+1) σ H→N σ H)→xs[i]?=some x→Pv i σ H→g x σ H fun σ3 H3=>tt σ3 H3 fun b H4 =>
   if b=true then te σ3 H4 fun v H5=>∃ ys,H5 D=some (.lst ys)∧ys.length < sizeLine∧N σ3 (upd H5 D (.lst (ys ++ [v]))) else N σ3 H4)
  (hd:∀ σ H,Pv xs.length σ H→Q (.ref D) H) :
  ua (UB K a) g tt te D σ H Q:=by
 refine ⟨fun i m σ H=>m=xs.length - i∧i≤xs.length∧Pv i σ H,⟨xs.length,by simp,Nat.zero_le _,h0⟩,?_⟩
 rintro i m σ' H' ⟨rfl,hi,p⟩
 have q:=hl i σ' H' hi p
 by_cases fE:i < xs.length
 ·refine .inr ⟨⟨xs,xs[i],q,by simp [fE]⟩,fun x H2 y=>?_⟩
  obtain ⟨e,y⟩:=y
  subst e
  exact hs i x σ' _ (fun σ3 H3=>∃ m',m' < xs.length - i∧m'=xs.length - (i+1)∧i+1≤xs.length∧Pv (i+1) σ3 H3) (fun σ3 H3 z=>⟨xs.length - (i+1),by omega,rfl,fE,z⟩) (y xs q) p
 ·have e:i=xs.length:=by omega
  subst e
  exact .inl ⟨⟨xs,q,Nat.le_refl _⟩,hd σ' H' p⟩
theorem lH {lo:Int} {n:Nat} (Pv:Nat→St→Hp→Prop) (h0:Pv 0 σ H)
  (hs:∀ (i:Nat) (σ:St) (H:Hp) (N:St→Hp→Prop),(∀ σ H,Pv (i+1) σ H→N σ H)→i < n→Pv i σ H→g (.int (lo+i)) σ H fun σ3 H3=>tt σ3 H3 fun b H4 =>
   if b=true then te σ3 H4 fun v H5=>∃ ys,H5 D=some (.lst ys)∧ys.length < sizeLine∧N σ3 (upd H5 D (.lst (ys ++ [v]))) else N σ3 H4)
  (hd:∀ σ H,Pv n σ H→Q (.ref D) H) :
  ua (Qf lo n) g tt te D σ H Q:=by
 refine ⟨fun i m σ H=>m=n - i∧i≤n∧Pv i σ H,⟨n,by simp,Nat.zero_le _,h0⟩,?_⟩
 rintro i m σ' H' ⟨rfl,hi,p⟩
 by_cases fE:i < n
 ·refine .inr ⟨fE,fun x H2 y=>?_⟩
  obtain ⟨e,y⟩:=y
  subst e y
  exact hs i σ' _ (fun σ3 H3=>∃ m',m' < n - i∧m'=n - (i+1)∧i+1≤n∧Pv (i+1) σ3 H3) (fun σ3 H3 z=>⟨n - (i+1),by omega,rfl,fE,z⟩) fE p
 ·have e:i=n:=by omega
  subst e
  exact .inl ⟨Nat.le_refl _,hd σ' H' p⟩
end
theorem mB {ns:List Int} {i:Nat} {y:V} (h:(ns.map V.int)[i]?=some y):∃ z,ns[i]?=some z∧y=V.int z:=by
 rw [List.getElem?_map] at h
 cases e:ns[i]? with
 | none=>rw [e] at h;cases h
 | some z=>rw [e] at h;exact ⟨z,rfl,(Option.some.inj h).symm⟩
theorem take_succ {α:Type} {l:List α} {i:Nat} {x:α} (h:l[i]?=some x):l.take (i+1)=l.take i ++ [x]:=by
 rw [List.take_succ,h];rfl
end L2
namespace L2
open PySem
end L2
namespace L2
open PySem
theorem df {i:Nat} {x:V} {σ:St} {H:Hp} {A B:St→Hp→Prop} (h:A (σ.set i (some x)) H):jJ i x σ H fun σ3 H3=>Ub σ3 H3 fun b H4=>if b=true then A σ3 H4 else B σ3 H4:=by
 show if true=true then A (σ.set i (some x)) H else B (σ.set i (some x)) H
 exact fe h
end L2
namespace L2
open PySem PySem.Spec PyProof.Rows
section
variable {X:Cx} {pins:List (Addr × Obj)} {σ:St} {H:Hp} {s:Shared} {h':Heap}
theorem Inv.LG {ch:List Addr} {t':Nat} (I:Inv X pins σ H s) (k:∀ b o,b ∉ ch→s.heap.get? b=some o→h'.get? b=some o) (hf:∀ b ∈ ch,tD X pins H b):Inv X pins σ H { s with heap:=h',toks:=t' }:=by
 have Xg:∀ b u,H b=some u→b ∉ ch:=fun b u e z=>by rw [(hf b z).1] at e;cases e
 refine I.Nt (s':={ s with heap:=h',toks:=t' }) (ch:=ch) rfl ⟨fun b o e _ _ hx=>k b o hx e,fun b o e _ _ hx=>⟨o.slots,k b o hx e⟩,fun _ _ _ n _=>n,fun b o e hx=>⟨o,k b o hx e⟩,fun _ _ e=>e,fun _ _ _ e=>e,fun b ps e=>⟨#[],by rw [e];simp⟩⟩ ?_ I.bare fun b hb=>?_
 ·intro b o e
  refine (I.bz b o e).GX (fun c u hc q=>k c u ?_ q) (fun _ q=>q) fun _ _ q=>q
  rcases hc with z | z
  ·rw [z];exact Xg b o e
  ·exact Xg c _ z
 ·obtain ⟨_,q1,_,q3,q4,q5⟩:=hf b hb
  exact ⟨q3,q1,q4,q5⟩
theorem Inv.yz {ch:List Addr} {T:Addr} {o:HO} {t':Nat} (I:Inv X pins σ H s) (k:∀ b o,b ∉ ch→s.heap.get? b=some o→h'.get? b=some o) (hf:∀ b ∈ ch,tD X pins H b) (hT:s.heap.objs.size≤T)
  (new:cJ X.prog X.w (upd H T o) h' T o):Inv X pins σ (upd H T o) { s with heap:=h',toks:=t' }:=by
 have Xg:∀ b u,H b=some u→b ∉ ch:=fun b u e z=>by rw [(hf b z).1] at e;cases e
 have hn:=I.bz.fresh hT
 have old:∀ b u,s.heap.get? b=some u→b≠T:=fun b u e=>Nat.ne_of_lt (Nat.lt_of_lt_of_le (Heap.lt_size e) hT)
 refine I.Nt (s':={ s with heap:=h',toks:=t' }) (ch:=ch) rfl ⟨fun b o e _ _ hx=>k b o hx e,fun b o e _ _ hx=>⟨o.slots,k b o hx e⟩,fun b u e n _=>by rw [aD (old b u e)];exact n,fun b o e hx=>⟨o,k b o hx e⟩,
  fun b xs e=>by rw [aD (aK e hn)];exact e,fun b o u e=>by rw [aD (aK e hn)];exact e,fun b ps e=>⟨#[],by rw [aD (aK e hn),e];simp⟩⟩ ?_ I.bare fun b hb=>?_
 ·intro b u e
  by_cases hb:b=T
  ·subst hb
   rw [aB] at e
   cases e
   exact new
  ·rw [aD hb] at e
   refine (I.bz b u e).GX (fun c v hc q=>k c v ?_ q) (fun c q=>by rw [aD (aK q hn)];exact q) fun c xs q=>by rw [aD (aK q hn)];exact q
   rcases hc with z | z
   ·rw [z];exact Xg b u e
   ·exact Xg c _ z
 ·obtain ⟨_,q1,_,q3,q4,q5⟩:=hf b hb
  exact ⟨q3,q1,q4,q5⟩
end
def Uk (K:PySem.W.Frag) (a b:Addr):It :=
 ⟨fun i H=>∃ xs ys x y,aX K H a xs∧aX K H b ys∧xs[i]?=some x∧ys[i]?=some y,
  fun i H v H'=>∃ p x y,H p=none∧v=.ref p∧H'=upd H p (.tup [x,y])∧(∀ xs,aX K H a xs→xs[i]?=some x)∧∀ ys,aX K H b ys→ys[i]?=some y,
  fun i H=>∃ xs ys,aX K H a xs∧aX K H b ys∧(xs.length≤i∨ys.length≤i)⟩
theorem OS {P:Program} {w:World} {K:PySem.W.Frag} {elts:List Expr} {x1:Nat} {pos:Pos} {z TI TO i1 i2 l1 l2:Addr} (D:ZipApart z TI TO i1 i2 l1 l2) :
  Turn P w K (.Tuple elts x1 pos) (Uk K l1 l2) [z,TI,TO,i1,i2] z (fun i h=>IsZip h z TI TO .none∧IsPair h TI (.ref i1) (.ref i2)∧(∃ a b,IsPair h TO a b)∧h.IsListIter i1 l1 i∧h.IsListIter i2 l2 i) where
 mem:=by simp
 obj:=fun i h st b hb=>by
  obtain ⟨hz,qP,⟨a,b',sr⟩,⟨o1,e1,c1,d1⟩,⟨o2,e2,c2,d2⟩⟩:=st
  simp only [List.mem_cons,List.not_mem_nil,or_false] at hb
  rcases hb with rfl | rfl | rfl | rfl | rfl
  ·exact ⟨_,hz,fun v q=>by cases q⟩
  ·exact ⟨_,qP,fun v q=>by cases q⟩
  ·exact ⟨_,sr,fun v q=>by cases q⟩
  ·exact ⟨_,e1,fun v q=>by rw [d1] at q;cases q⟩
  ·exact ⟨_,e2,fun v q=>by rw [d2] at q;cases q⟩
 keep:=fun i h h' st k=>by
  obtain ⟨hz,qP,⟨a,b',sr⟩,h1,h2⟩:=st
  exact ⟨k z (by simp) _ hz,k TI (by simp) _ qP,⟨a,b',k TO (by simp) _ sr⟩,h1.at fun o e=>k i1 (by simp) o e,h2.at fun o e=>k i2 (by simp) o e⟩
 item:=by
  intro X hP hw hK hc i pins s σ H E I hf st hg
  subst hP hw hK
  obtain ⟨hz,qP,⟨a,b,sr⟩,h1,h2⟩:=st
  obtain ⟨xs,ys,x,y,hx,hy,ex,ey⟩:=hg
  obtain ⟨ai,rv,p,hzx⟩:=I.list hx
  obtain ⟨iP,Xh,p2,hzy⟩:=I.list hy
  obtain ⟨u,hu,ru⟩:=rv.get ex
  obtain ⟨u2,OT,ru2⟩:=Xh.get ey
  refine wpAny_pyNext_zip_item D hz qP sr h1 h2 p.isList p2.isList (x:=u) (y:=u2) (by simpa using hu) (by simpa using OT) fun h' a1 a2 a3 a4 a5 a6 kk=>⟨_,rfl,?_⟩
  refine wpAny_letOwnedTupleGo_zip a1 fun Xi hz' MQ=>?_
  have lt:∀ {c o},s.heap.get? c=some o→s.heap.objs.size≠c:=fun e=>Nat.ne_of_gt (Heap.lt_size e)
  have k2:∀ c o,c ∉ [z,TI,TO,i1,i2]→s.heap.get? c=some o→Xi.get? c=some o:=fun c o hc e=>by
   simp only [List.mem_cons,List.not_mem_nil,or_false,not_or] at hc
   exact MQ.extBut _ _ hc.1 (kk c o hc.1 hc.2.2.1 hc.2.2.2.1 hc.2.2.2.2 e)
  have tup:cJ X.prog X.w (upd H s.heap.objs.size (.tup [x,y])) Xi s.heap.objs.size (.tup [x,y]) :=
   ⟨by show 2≤sizeLine;decide,[u,u2],.cons ru (.cons ru2 .nil),⟨_,MQ.extBut _ _ (lt hz) a5,rfl,_,rfl⟩⟩
  have hn:=I.bz.fresh (Nat.le_refl s.heap.objs.size)
  refine ⟨.ref s.heap.objs.size,_,I.yz (t':=s.toks) k2 hf (Nat.le_refl _) tup,rfl,⟨_,x,y,hn,rfl,rfl,fun zs hq=>by rw [I.rP hq hx];exact ex,fun zs hq=>by rw [I.rP hq hy];exact ey⟩,
   ⟨hz',MQ.extBut _ _ D.TIz (kk _ _ D.TIz D.TITO D.TIi1 D.TIi2 qP),⟨_,_,MQ.extBut _ _ D.TOz a2⟩,a3.extBut MQ.extBut D.i1z,a4.extBut MQ.extBut D.i2z⟩,fun c hc=>?_⟩
  have WO:c≠s.heap.objs.size:=by
   simp only [List.mem_cons,List.not_mem_nil,or_false] at hc
   obtain ⟨o1,e1,_⟩:=h1
   obtain ⟨o2,e2,_⟩:=h2
   rcases hc with rfl | rfl | rfl | rfl | rfl
   ·exact (lt hz).symm
   ·exact (lt qP).symm
   ·exact (lt sr).symm
   ·exact (lt e1).symm
   ·exact (lt e2).symm
  rw [aD WO]
  exact (hf c hc).1
 done:=by
  intro X hP hw hK hc i pins s σ H E I hf st hg
  subst hP hw hK
  obtain ⟨hz,qP,⟨a,b,sr⟩,h1,h2⟩:=st
  obtain ⟨xs,ys,hx,hy,he⟩:=hg
  obtain ⟨ai,rv,p,hzx⟩:=I.list hx
  obtain ⟨iP,Xh,p2,hzy⟩:=I.list hy
  have l1':=rv.length
  have l2':=Xh.length
  refine wpAny_pyNext_zip_end (I.ok.hd hc) D hz qP sr h1 h2 p.isList p2.isList (by rcases he with h | h;exact .inl (by simp;omega);exact .inr (by simp;omega)) fun h' kk=>⟨rfl,?_⟩
  refine I.LG (t':=s.toks) (ch:=[z,TI,TO,i1,i2]) (fun c o hc e=>?_) hf
  simp only [List.mem_cons,List.not_mem_nil,or_false,not_or] at hc
  exact kk c o hc.1 hc.2.2.1 hc.2.2.2.1 hc.2.2.2.2 e
 self:=fun _ _ _ _ _ st h=>wpAny_pyIter_zip st.1 h
section
variable {X:Cx}
def Xj (K:PySem.W.Frag) (ta:TA):TI:=fun σ H R=>ta σ H fun vs H1=>∃ a b,vs=[.ref a,.ref b]∧(∃ xs,aX K H1 a xs)∧(∃ ys,aX K H1 b ys)∧R (Uk K a b) H1
theorem Ul {e1 e2:Expr} {ta:TA} {p pos ze:Pos} {elts:List Expr} {x1:Nat} (hg:Gl X "zip") (hm:X.mg "zip"=none) (ha:PA X [e1,e2] ta) (hs:starEach [e1,e2] X.env=(false,eval e1 X.env) :: starEach [e2] X.env:=by rfl) (kK:(backTo pos (starEach [e2] X.env)).any (·.1)=false:=by rfl) :
  PI X (.Tuple elts x1 ze) (.Call (.Name "zip" p) [e1,e2] [] pos) (Xj X.K ta):=by
 intro pins s σ H R I h
 refine wpAny_Call_Name_kw (lz I hg hm boot_zip ?_ (by decide) (by decide))
 refine PyProof.Rows.callWith_type1 (bu (ha pos pins s σ H _ I h) fun us s1 ⟨vs,H1,I1,r1,q1⟩=>?_) hs kK
 obtain ⟨a,b,rfl,⟨xs,hx⟩,⟨ys,hy⟩,q⟩:=q1
 obtain ⟨u,v,rfl,ru,rv⟩:=r1.two
 cases ru
 cases rv
 obtain ⟨ai,r1',p1,_⟩:=I1.list hx
 obtain ⟨iP,r2',p2,_⟩:=I1.list hy
 refine call_zip_2 p1.isList p2.isList fun h' hz qP sr h1 h2 hsz kk=>?_
 refine wpAny_pyIter_zip hz ?_
 have la:a < s1.heap.objs.size:=by obtain ⟨o,n,ho,_⟩:=p1;exact Heap.lt_size ho
 have lb:b < s1.heap.objs.size:=by obtain ⟨o,n,ho,_⟩:=p2;exact Heap.lt_size ho
 have I2:Inv X pins σ H1 { s1 with heap:=h' }:=I1.kept (t':=s1.toks) fun b o e=>kk b o e
 refine ⟨s1.heap.objs.size+4,[s1.heap.objs.size+4,s1.heap.objs.size+2,s1.heap.objs.size+3,s1.heap.objs.size,s1.heap.objs.size+1],_,_,H1,rfl,I2,OS (zipApart_new la lb),⟨hz,qP,⟨_,_,sr⟩,h1,h2⟩,fun c hc=>?_,q⟩
 have hle:s1.heap.objs.size≤c:=by
  simp only [List.mem_cons,List.not_mem_nil,or_false] at hc
  rcases hc with rfl | rfl | rfl | rfl | rfl
  ·exact Nat.le_add_right _ _
  ·exact Nat.le_add_right _ _
  ·exact Nat.le_add_right _ _
  ·exact Nat.le_refl _
  ·exact Nat.le_add_right _ _
 have f:=I1.zZ (H':=H1) hle (I1.bz.fresh hle)
 exact f
theorem Um {i j:Nat} {x y:Str} {px py pos:Pos} {k:Nat} (hc:X.calm=true) (hN:X.N.Nodup) (hi:X.N[i]?=some x) (hj:X.N[j]?=some y) (lx:Loc X.env.scope x) (ly:Loc X.env.scope y)
  (fx:X.fn x=true∨X.env.scope.names.lookup x=some .local:=by first | exact .inl rfl | exact .inr rfl) (fy:X.fn y=true∨X.env.scope.names.lookup y=some .local:=by first | exact .inl rfl | exact .inr rfl)
  (hs:(assignEach [.Name x px,.Name y py] X.env).map (·.2)=[assign (.Name x px) X.env,assign (.Name y py) X.env]:=by rfl) (L7:(assignEach [.Name y py] X.env).map (·.2)=[assign (.Name y py) X.env]:=by rfl) (hs0:(assignEach [] X.env).map (·.2)=[]:=by rfl)
  (hn:(assignEach [.Name x px,.Name y py] X.env).length=2:=by rfl) (sj:(assignEach [.Name x px,.Name y py] X.env).findIdx? (·.1)=none:=by rfl) :
  PG X (.Tuple [.Name x px,.Name y py] k pos) (Nz X.K 2 (rQ (jJ i) (rQ (jJ j) Ny))) :=
 T9 hc (Gb (az hN hi lx fx) (Gb (az hN hj ly fy) Qe (by rw [L7,hs0])) (by rw [hs,L7])) hn sj
end
end L2
namespace L2
open PySem PySem.Spec PyProof.Rows
section
variable {K:PySem.W.Frag} {g:TG} {tt:TT} {te:TE} {D:Addr} {σ:St} {H:Hp} {Q:VK}
theorem Uo {a b:Addr} {xs ys:List V} (hlen:xs.length=ys.length) (Pv:Nat→St→Hp→Prop) (h0:Pv 0 σ H) (hl:∀ i σ H,i≤xs.length→Pv i σ H→aX K H a xs∧aX K H b ys)
  (hs:∀ (i:Nat) (x y:V) (p:Addr) (σ:St) (H:Hp) (N:St→Hp→Prop),(∀ σ H,Pv (i+1) σ H→N σ H)→xs[i]?=some x→ys[i]?=some y→Pv i σ H→H p=none→g (.ref p) σ (upd H p (.tup [x,y])) fun σ3 H3=>tt σ3 H3 fun b H4 =>
   if b=true then te σ3 H4 fun v H5=>∃ ys,H5 D=some (.lst ys)∧ys.length < sizeLine∧N σ3 (upd H5 D (.lst (ys ++ [v]))) else N σ3 H4)
  (hd:∀ σ H,Pv xs.length σ H→Q (.ref D) H):ua (Uk K a b) g tt te D σ H Q:=by
 refine ⟨fun i m σ H=>m=xs.length - i∧i≤xs.length∧Pv i σ H,⟨xs.length,by simp,Nat.zero_le _,h0⟩,?_⟩
 rintro i m σ' H' ⟨rfl,hi,p⟩
 obtain ⟨q1,q2⟩:=hl i σ' H' hi p
 by_cases fE:i < xs.length
 ·refine .inr ⟨⟨xs,ys,xs[i],ys[i],q1,q2,by simp [fE],by simp [show i < ys.length by omega]⟩,fun v H2 z=>?_⟩
  obtain ⟨pt,x,y,hp,rfl,rfl,e1,e2⟩:=z
  exact hs i x y pt σ' H' (fun σ3 H3=>∃ m',m' < xs.length - i∧m'=xs.length - (i+1)∧i+1≤xs.length∧Pv (i+1) σ3 H3) (fun σ3 H3 z=>⟨xs.length - (i+1),by omega,rfl,fE,z⟩) (e1 xs q1) (e2 ys q2) p hp
 ·have e:i=xs.length:=by omega
  subst e
  exact .inl ⟨⟨xs,ys,q1,q2,.inl (Nat.le_refl _)⟩,hd σ' H' p⟩
theorem vm {i j:Nat} {x y:V} {p:Addr} {A B:St→Hp→Prop} (h:A ((σ.set i (some x)).set j (some y)) (upd H p (.tup [x,y]))) :
  Nz K 2 (rQ (jJ i) (rQ (jJ j) Ny)) (.ref p) σ (upd H p (.tup [x,y])) fun σ3 H3=>Ub σ3 H3 fun b H4=>if b=true then A σ3 H4 else B σ3 H4 :=
 ⟨p,[x,y],rfl,bw.of aB,rfl,x,_,rfl,y,_,rfl,rfl,(by
  show if true=true then A ((σ.set i (some x)).set j (some y)) (upd H p (.tup [x,y])) else B ((σ.set i (some x)).set j (some y)) (upd H p (.tup [x,y]))
  exact fe h)⟩
end
section
variable {X:Cx}
end
end L2
namespace L2
open PySem PySem.Spec PyProof.Rows
def cM (n:Nat) (f:Nat→V):List V:=(List.range n).map f
abbrev tabI (n:Nat) (f:Nat→Int):List V:=cM n fun j=>V.int (f j)
abbrev bK (n:Nat) (f:Nat→Addr):List V:=cM n fun j=>V.ref (f j)
theorem aL (n:Nat) (f:Nat→V):(cM n f).length=n:=by simp [cM]
theorem b9 {n i:Nat} {f:Nat→V} (h:i < n):(cM n f)[i]?=some (f i):=by simp [cM,h]
theorem tab_of {n i:Nat} {f:Nat→V} {x:V} (h:(cM n f)[i]?=some x):i < n∧x=f i:=by
 have hi:i < n:=by
  have:=(List.getElem?_eq_some_iff.mp h).1
  rwa [aL] at this
 rw [b9 hi] at h
 exact ⟨hi,(Option.some.inj h).symm⟩
theorem vn (n:Nat) (f:Nat→V):cM (n+1) f=cM n f ++ [f n]:=by simp [cM,List.range_succ]
theorem bW {n:Nat} {f g:Nat→V} (h:∀ i,i < n→f i=g i):cM n f=cM n g:=by
 unfold cM
 apply List.map_congr_left
 intro i hi
 exact h i (List.mem_range.mp hi)
theorem rf {n i:Nat} {f:Nat→V} {v:V} (h:i < n):(cM n f).set i v=cM n fun j=>if j=i then v else f j:=by
 apply List.ext_getElem?
 intro j
 by_cases hj:j < n
 ·rw [b9 hj]
  by_cases e:j=i
  ·subst e
   rw [List.getElem?_set_self (by rw [aL];exact hj)]
   simp
  ·rw [List.getElem?_set_ne (Ne.symm e),b9 hj]
   simp [e]
 ·rw [List.getElem?_eq_none (by rw [List.length_set,aL];omega),List.getElem?_eq_none (by rw [aL];omega)]
theorem vo {n:Nat} {i:Int} {f:Nat→V} (h0:0≤i) (h:i < n):MF (cM n f).length i=some i.toNat:=by
 rw [aL]
 unfold MF
 rw [if_pos h0,if_pos h]
theorem dG {n:Nat} {i:Int} {f:Nat→V} (h0:0≤i) (h:i < n):xc (cM n f) i=some (f i.toNat):=by
 unfold xc
 rw [vo h0 h]
 exact b9 (by omega)
theorem OU {n:Nat} {f:Nat→V}:xc (cM (n+1) f) (-1)=some (f n):=by
 have h:MF (cM (n+1) f).length (-1)=some n:=by
  rw [aL]
  unfold MF
  rw [if_neg (by omega),if_pos (by omega)]
  congr 1
  omega
 unfold xc
 rw [h]
 exact b9 (by omega)
theorem vO (n:Nat) (f:Nat→Int):((List.range n).map f).map V.int=tabI n f:=by unfold tabI cM;rw [List.map_map];rfl
def rg (K:PySem.W.Frag) (H:Hp) (l:Addr) (m n:Nat) (a:Nat→Nat→Int):Prop:=∃ as:Nat→Addr,aX K H l (bK m as)∧∀ i,i < m→aX K H (as i) (tabI n (a i))
theorem aI.aFx {K:PySem.W.Frag} {H H':Hp} {l:Addr} {m n:Nat} {a:Nat→Nat→Int} (s:aI H H') (g:rg K H l m n a):rg K H' l m n a:=let ⟨as,h1,h2⟩:=g;⟨as,s.seq h1,fun i hi=>s.seq (h2 i hi)⟩
theorem rg.congr {K:PySem.W.Frag} {H:Hp} {l:Addr} {m n:Nat} {a b:Nat→Nat→Int} (g:rg K H l m n a) (h:∀ i j,i < m→j < n→a i j=b i j):rg K H l m n b:=by
 obtain ⟨as,h1,h2⟩:=g
 refine ⟨as,h1,fun i hi=>?_⟩
 have e:tabI n (a i)=tabI n (b i):=bW fun j hj=>by rw [h i j hi hj]
 rw [← e]
 exact h2 i hi
end L2
namespace L2
open PySem PySem.Spec PyProof.Rows
section
variable {K:PySem.W.Frag} {g:TG} {tt:TT} {te:TE} {D:Addr} {σ:St} {H:Hp} {Q:VK}
theorem tK {a:Addr} {n:Nat} {F:Nat→V} (Pv:Nat→St→Hp→Prop) (h0:Pv 0 σ H) (hl:∀ i σ H,i≤n→Pv i σ H→aX K H a (cM n F))
  (hs:∀ (i:Nat) (σ:St) (H:Hp) (N:St→Hp→Prop),(∀ σ H,Pv (i+1) σ H→N σ H)→i < n→Pv i σ H→g (F i) σ H fun σ3 H3=>tt σ3 H3 fun b H4 =>
   if b=true then te σ3 H4 fun v H5=>∃ ys,H5 D=some (.lst ys)∧ys.length < sizeLine∧N σ3 (upd H5 D (.lst (ys ++ [v]))) else N σ3 H4)
  (hd:∀ σ H,Pv n σ H→Q (.ref D) H):ua (UB K a) g tt te D σ H Q:=by
 refine rZ (xs:=cM n F) Pv h0 (fun i σ H hi=>hl i σ H (by rwa [aL] at hi)) (fun i x σ H N hN hx hp=>?_) (fun σ H h=>hd σ H (by rwa [aL] at h))
 obtain ⟨hi,rfl⟩:=tab_of hx
 exact hs i σ H N hN hi hp
theorem LH {a b:Addr} {n:Nat} {F G:Nat→V} (Pv:Nat→St→Hp→Prop) (h0:Pv 0 σ H) (hl:∀ i σ H,i≤n→Pv i σ H→aX K H a (cM n F)∧aX K H b (cM n G))
  (hs:∀ (i:Nat) (p:Addr) (σ:St) (H:Hp) (N:St→Hp→Prop),(∀ σ H,Pv (i+1) σ H→N σ H)→i < n→Pv i σ H→H p=none→g (.ref p) σ (upd H p (.tup [F i,G i])) fun σ3 H3=>tt σ3 H3 fun b H4 =>
   if b=true then te σ3 H4 fun v H5=>∃ ys,H5 D=some (.lst ys)∧ys.length < sizeLine∧N σ3 (upd H5 D (.lst (ys ++ [v]))) else N σ3 H4)
  (hd:∀ σ H,Pv n σ H→Q (.ref D) H):ua (Uk K a b) g tt te D σ H Q:=by
 refine Uo (xs:=cM n F) (ys:=cM n G) (by rw [aL,aL]) Pv h0 (fun i σ H hi=>hl i σ H (by rwa [aL] at hi)) (fun i x y p σ H N hN hx hy hp hn=>?_) (fun σ H h=>hd σ H (by rwa [aL] at h))
 obtain ⟨hi,rfl⟩:=tab_of hx
 obtain ⟨_,rfl⟩:=tab_of hy
 exact hs i p σ H N hN hi hp hn
theorem j0 {H:Hp} {D:Addr} {i:Nat} {F:Nat→V} {v:V} (h:v=F i):(upd H D (.lst (cM i F ++ [v]))) D=some (.lst (cM (i+1) F)):=by
 rw [aB,vn,h]
end
end L2
namespace L2
open PySem
theorem Gx (i:Nat) (F:Nat→V) (x:V):cM i F ++ [x]=cM (i+1) fun k=>if k=i then x else F k:=by
 refine ((vn i _).trans ?_).symm
 rw [show cM i (fun k=>if k=i then x else F k)=cM i F from bW fun k hk=>by rw [if_neg (by omega)],if_pos rfl]
theorem dS (i:Nat) (ps:Nat→Addr) (p:Addr):bK i ps ++ [V.ref p]=bK (i+1) fun k=>if k=i then p else ps k:=by
 rw [Gx]
 refine bW fun k hk=>?_
 by_cases e:k=i <;> simp [e]
end L2
namespace L2
open PySem
theorem aI.both {B H:Hp} {p:Addr} {o:HO} (s:aI B H) (h:H p=some o):aI (upd B p o) H:=fun b u e=>by
 by_cases z:b=p
 ·subst z
  rw [aB] at e
  cases e
  exact h
 ·rw [aD z] at e
  exact s b u e
theorem aI.grow {B:Hp} {p:Addr} {o:HO} (h:B p=none):aI B (upd B p o):=(aI.refl B).new h
end L2
namespace L2
end L2
namespace L2
open PySem PySem.Spec PyProof.Rows
def Xk (t:TS):TS:=fun D σ H=>∃ R:St→Hp→Prop,t { D with nx:=R } σ H∧∀ σ' H',R σ' H'→D.nx σ' H'
theorem tL {X:Cx} {st:Stmt} {t:TS} (h:PS X st t):PS X st (Xk t):=by
 intro pins s σ H D I ⟨R,h1,h2⟩
 refine wpAny_mono (h pins s σ H { D with nx:=R } I h1) (fun f s' q=>?_) fun _ _ z=>z
 cases f with
 | next=>obtain ⟨σ',H',I',q⟩:=q;exact ⟨σ',H',I',h2 σ' H' q⟩
 | brk=>exact q
 | cont=>exact q
 | ret u=>exact q
end L2
namespace L2
open PySem PySem.Spec PyProof.Rows
section
variable {X:Cx} (K:PySem.W.Frag)
theorem aM (hK:X.K=K:=by rfl):Qm X (XH K):=by subst hK;exact Qn
theorem bj (hK:X.K=K:=by rfl):Qm X (XI K):=by subst hK;exact UQ
theorem iC (hK:X.K=K:=by rfl):UP X (XM K):=by subst hK;exact Qo
theorem bQ (hK:X.K=K:=by rfl):jx X (.builtin "len") (fun xs H Q=>∃ p ys,xs=[.ref p]∧(aX K H p ys∨bw K H p ys)∧Q (.int ys.length) H):=by subst hK;exact zm
theorem gQ (hK:X.K=K:=by rfl):jx X (.type "list") (fun xs H Q=>∃ p ys,xs=[.ref p]∧(aX K H p ys∨bw K H p ys)∧∀ l,H l=none→Q (.ref l) (upd H l (.lst ys))):=by subst hK;exact zo
theorem mC (hK:X.K=K:=by rfl):nR X (binaryOp .Add) (TF K):=by subst hK;exact Qt
theorem cN {tg l:Expr} {tl:TE} (hl:PE X l tl) (hK:X.K=K:=by rfl):PI X tg l (S5 K tl):=by subst hK;exact Ku hl
theorem zz {e1 e2:Expr} {ta:TA} {p pos ze:Pos} {elts:List Expr} {x1:Nat} (hg:Gl X "zip") (hm:X.mg "zip"=none) (ha:PA X [e1,e2] ta) (hK:X.K=K:=by rfl) (hs:starEach [e1,e2] X.env=(false,eval e1 X.env) :: starEach [e2] X.env:=by rfl) (kK:(backTo pos (starEach [e2] X.env)).any (·.1)=false:=by rfl) :
  PI X (.Tuple elts x1 ze) (.Call (.Name "zip" p) [e1,e2] [] pos) (Xj K ta):=by subst hK;exact Ul hg hm ha hs kK
theorem pP {i j:Nat} {x y:Str} {px py pos:Pos} {k:Nat} (hc:X.calm=true) (hN:X.N.Nodup) (hi:X.N[i]?=some x) (hj:X.N[j]?=some y) (lx:Loc X.env.scope x) (ly:Loc X.env.scope y) (hK:X.K=K:=by rfl)
  (fx:X.fn x=true∨X.env.scope.names.lookup x=some .local:=by first | exact .inl rfl | exact .inr rfl) (fy:X.fn y=true∨X.env.scope.names.lookup y=some .local:=by first | exact .inl rfl | exact .inr rfl)
  (hs:(assignEach [.Name x px,.Name y py] X.env).map (·.2)=[assign (.Name x px) X.env,assign (.Name y py) X.env]:=by rfl) (L7:(assignEach [.Name y py] X.env).map (·.2)=[assign (.Name y py) X.env]:=by rfl) (hs0:(assignEach [] X.env).map (·.2)=[]:=by rfl)
  (hn:(assignEach [.Name x px,.Name y py] X.env).length=2:=by rfl) (sj:(assignEach [.Name x px,.Name y py] X.env).findIdx? (·.1)=none:=by rfl) :
  PG X (.Tuple [.Name x px,.Name y py] k pos) (Nz K 2 (rQ (jJ i) (rQ (jJ j) Ny))):=by
 subst hK
 exact Um hc hN hi hj lx ly fx fy hs L7 hs0 hn sj
theorem jM {o e:Expr} {es:List Expr} {to:TE} {t:TA} {name:Str} {apos fF:Pos} {T id:String} {r:V→List V→Hp→VK→Prop} (pa:PlainAttrs T) (slot:Slot T name id) (hty:typeOf (.builtin id)=pure (.type "method_descriptor")) (hm:WJ X id r) (ho:PE X o to) (ha:PA X (e :: es) t) (hK:X.K=K:=by rfl)
  (OD:attributeBase o name X.env (eval o X.env)=eval o X.env:=by rfl)
  (UT:((backTo fF (starEach (e :: es) X.env)).all (fun x=>!x.1) && (backToKw fF (keywordEach [] X.env)).all (fun x=>x.1.isSome)
   && decide ((e :: es).length+([]:List Keyword).length+(if ([]:List Keyword).isEmpty then 0 else 1) < 30))=true:=by rfl)
  (OE:(apos.endLine == fF.line)=true:=by rfl) (hs:starEach (e :: es) X.env=(false,eval e X.env) :: starEach es X.env:=by rfl) (JM:(backTo fF (starEach es X.env)).any (·.1)=false:=by rfl) :
  PE X (.Call (.Attribute o name apos) (e :: es) [] fF) (tBM K T r to t):=by subst hK;exact S8 pa slot hty hm ho ha OD UT OE hs JM
end
end L2
namespace L2
open PySem PySem.Spec PyProof.Rows
section
variable {X:Cx}
def Xl (K:PySem.W.Frag) (neg:Bool):R2:=fun x y H Q=>∃ (a b:Addr) (ys zs:List Int),x=.ref a∧y=.ref b∧aX K H a (ys.map V.int)∧aX K H b (zs.map V.int)∧Q (.bl (if neg then !decide (ys=zs) else decide (ys=zs))) H
theorem OV {pins:List (Addr × Obj)} {σ:St} {H:Hp} {s:Shared} (I:Inv X pins σ H s) {ys zs:List Int} {ai iP:List Value} (r1:au (ys.map V.int) ai) (r2:au (zs.map V.int) iP) {A:Around} (j:Nat) (h1:j < ai.toArray.size) (h2:j < iP.toArray.size) :
  SeqAt.EqAt A s ai.toArray[j] iP.toArray[j] (ys.getD j 0 == zs.getD j 0):=by
 obtain ⟨x,hx,rx⟩:=iQ r1 j h1
 obtain ⟨y,hy,ry⟩:=iQ r2 j h2
 obtain ⟨u,hu',rfl⟩:=mB hx
 obtain ⟨v,W8,rfl⟩:=mB hy
 have:=zk (A:=A) (s:=s) rx ry rfl rfl
 have e1:ys.getD j 0=u:=by simp [List.getD,hu']
 have e2:zs.getD j 0=v:=by simp [List.getD,W8]
 rw [e1,e2]
 exact this
theorem Gy {ys zs:List Int} (hl:ys.length=zs.length) {n:Nat} (hn:n=ys.length):(List.range n).all (fun j=>ys.getD j 0 == zs.getD j 0)=decide (ys=zs):=by
 subst hn
 by_cases h:ys=zs
 ·subst h
  simp
 ·rw [decide_eq_false h,Bool.eq_false_iff]
  intro JN
  rw [List.all_eq_true] at JN
  apply h
  apply List.ext_getElem hl
  intro i g1 g2
  have:=JN i (List.mem_range.mpr g1)
  simpa [List.getD,g1,g2] using this
theorem Up (hu:X.A.units+16 < cLine):nR X (compareOp .Eq) (Xl X.K false):=by
 intro pins s σ H x y v u Q I rx ry h
 obtain ⟨a,b,ys,zs,rfl,rfl,ha,hb,q⟩:=h
 cases rx
 cases ry
 obtain ⟨ai,r1,p1,_⟩:=I.list ha
 obtain ⟨iP,r2,p2,_⟩:=I.list hb
 have l1:=r1.length
 have l2:=r2.length
 rw [List.length_map] at l1 l2
 by_cases hl:ys.length=zs.length
 ·refine SeqAt.eq_listAt (e:=fun j=>ys.getD j 0 == zs.getD j 0) p1.isList p2.isList (by simp;omega) (by omega) (fun j h1 h2=>OV I r1 r2 j h1 h2) ?_
  rw [Gy hl (by simp;omega)]
  exact ⟨.bl _,H,I,rfl,q⟩
 ·refine SeqAt.eq_list_lengthsAt p1.isList p2.isList (by simp;omega) (by omega) ?_
  have e:decide (ys=zs)=false:=decide_eq_false fun z=>hl (by rw [z])
  rw [e] at q
  exact ⟨.bl false,H,I,rfl,q⟩
theorem LI (K:PySem.W.Frag) (hu:X.A.units+16 < cLine) (hK:X.K=K:=by rfl):nR X (compareOp .Eq) (Xl K false):=by subst hK;exact Up hu
end
theorem turn_if {i:Nat} {x:V} {σ:St} {H:Hp} {tt:TT} {A B:St→Hp→Prop} (h:tt (σ.set i (some x)) H fun b H4=>if b=true then A (σ.set i (some x)) H4 else B (σ.set i (some x)) H4):jJ i x σ H fun σ3 H3=>tt σ3 H3 fun b H4=>if b=true then A σ3 H4 else B σ3 H4:=h
theorem OW (ns:List Int):ns.map V.int=tabI ns.length fun i=>ns.getD i 0:=by
 apply List.ext_getElem?
 intro j
 by_cases hj:j < ns.length
 ·rw [b9 hj,List.getElem?_map]
  simp [hj,List.getD]
 ·rw [List.getElem?_eq_none (by rw [List.length_map];omega),List.getElem?_eq_none (by rw [aL];omega)]
theorem vP {n:Nat} {f:Nat→V} {lo hi:Nat} (h1:lo≤hi) (h2:hi≤n):fc (cM n f) (some (lo:Int)) (some (hi:Int))=cM (hi - lo) fun i=>f (lo+i):=by
 unfold fc
 rw [HT.iu,HT.iu,aL,Nat.min_eq_left h2,Nat.min_eq_left (by omega)]
 apply List.ext_getElem?
 intro j
 by_cases hj:j < hi - lo
 ·rw [b9 hj,List.getElem?_take_of_lt hj,List.getElem?_drop,b9 (by omega)]
 ·rw [List.getElem?_eq_none (by rw [List.length_take,List.length_drop,aL];omega),List.getElem?_eq_none (by rw [aL];omega)]
theorem qQ {n:Nat} {f:Nat→V} {hi:Nat} (h2:hi≤n):fc (cM n f) none (some (hi:Int))=cM hi f:=by
 have:=vP (lo:=0) (f:=f) (Nat.zero_le hi) h2
 have e:fc (cM n f) none (some (hi:Int))=fc (cM n f) (some ((0:Nat):Int)) (some (hi:Int)):=by
  unfold fc
  rw [HT.iu _ _ hi,HT.vh,HT.iu _ _ 0,Nat.zero_min]
 rw [e,this]
 exact bW fun i _=>by rw [Nat.zero_add]
theorem JQ {n:Nat} {f:Nat→V} {lo:Nat} (h2:lo≤n):fc (cM n f) (some (lo:Int)) none=cM (n - lo) fun i=>f (lo+i):=by
 have:=vP (f:=f) h2 (Nat.le_refl n)
 have e:fc (cM n f) (some (lo:Int)) none=fc (cM n f) (some (lo:Int)) (some (n:Int)):=by
  unfold fc
  rw [HT.iu,HT.iu,HT.vh,aL,Nat.min_self]
 rw [e,this]
theorem Qv {n m:Nat} {f g:Nat→V}:cM n f ++ cM m g=cM (n+m) fun i=>if i < n then f i else g (i - n):=by
 apply List.ext_getElem?
 intro j
 by_cases hj:j < n+m
 ·rw [b9 hj]
  by_cases h:j < n
  ·rw [List.getElem?_append_left (by rw [aL];exact h),b9 h,if_pos h]
  ·rw [List.getElem?_append_right (by rw [aL];omega),aL,b9 (by omega),if_neg h]
 ·rw [List.getElem?_eq_none (by rw [List.length_append,aL,aL];omega),List.getElem?_eq_none (by rw [aL];omega)]
theorem MR (n:Nat) (f:Nat→Int) (i:Nat) (h:i < n):((List.range n).map f).getD i 0=f i:=by simp [h]
end L2
namespace L2
open PySem PySem.Spec PyProof.Rows
def Xm (K:PySem.W.Frag) (a:Addr) (xs:List V):It:=⟨fun i H=>aX K H a xs∧i < xs.length,fun i H x H'=>H'=H∧xs.reverse[i]?=some x,fun i _=>xs.length≤i⟩
theorem OX {P:Program} {w:World} {K:PySem.W.Frag} {tg:Expr} (a it:Addr) (xs:List V) :
  Turn P w K tg (Xm K a xs) [it] it (fun i h=>i≤xs.length∧h.IsRevIter it a ((xs.length:Int) - 1 - (i:Int))) where
 mem:=by simp
 obj:=fun i h st b hb=>by
  have e:b=it:=by simpa using hb
  subst e
  obtain ⟨_,o,e,c,d⟩:=st
  exact ⟨o,e,fun v z=>by rw [d] at z;cases z⟩
 keep:=fun i h h' st k=>⟨st.1,st.2.at fun o e=>k it (by simp) o e⟩
 item:=by
  intro X hP hw hK hc i pins s σ H E I hf ⟨st0,st⟩ ⟨hq,hi⟩
  subst hP hw hK
  obtain ⟨ai,rv,p,hz⟩:=I.list hq
  have hl:=rv.length
  have hx:xs.reverse[i]?=some xs[xs.length - 1 - i]:=by rw [List.getElem?_reverse hi];simp
  have Xn:xs[xs.length - 1 - i]?=some xs[xs.length - 1 - i]:=by simp
  obtain ⟨u,hu,ru⟩:=rv.get Xn
  obtain ⟨f0,f1,f2,f3,f4,f5⟩:=hf it (by simp)
  have e0:(xs.length:Int) - 1 - (i:Int)=((xs.length - 1 - i:Nat):Int):=by omega
  rw [e0] at st
  refine wpAny_pyNext_rev_item st p.isList (x:=u) (by simpa using hu) fun h' xf sb=>?_
  have I1:Inv X pins σ H { s with heap:=h' }:=I.turned (t':=s.toks) (fun b o hb e=>(sb.2 b hb).trans e) f0 f1 f3 f4 f5
  have e1:((xs.length - 1 - i:Nat):Int) - 1=(xs.length:Int) - 1 - ((i+1:Nat):Int):=by omega
  rw [e1] at xf
  obtain ⟨o,e,c,d⟩:=id xf
  exact ⟨u,rfl,Gd (s:={ s with heap:=h' }) e c d (by decide) ⟨_,H,I1,ru,⟨rfl,hx⟩,⟨hi,xf⟩,fun b hb=>(hf b hb).1⟩⟩
 done:=by
  intro X hP hw hK hc i pins s σ H E I hf ⟨st0,st⟩ hg
  subst hP hw hK
  have hg':xs.length≤i:=hg
  obtain ⟨f0,f1,f2,f3,f4,f5⟩:=hf it (by simp)
  have e0:(xs.length:Int) - 1 - (i:Int)=-1:=by omega
  rw [e0] at st
  exact wpAny_pyNext_rev_end (I.ok.hd hc) st fun h' eb=>⟨rfl,I.turned (t':=s.toks) (fun b o hb e=>eb b o hb e) f0 f1 f3 f4 f5⟩
 self:=fun _ _ _ _ _ st h=>wpAny_pyIter_revIter st.2 h
section
variable {X:Cx} {tg:Expr}
def aBh (K:PySem.W.Frag) (ta:TA):TI:=fun σ H R=>ta σ H fun vs H1=>∃ a xs,vs=[.ref a]∧aX K H1 a xs∧R (Xm K a xs) H1
theorem z4 (K:PySem.W.Frag) {e:Expr} {ta:TA} {p pos:Pos} (hg:Gl X "reversed") (hm:X.mg "reversed"=none) (ha:PA X [e] ta) (hK:X.K=K:=by rfl) (hs:starEach [e] X.env=[(false,eval e X.env)]:=by rfl) (kK:(backTo pos (starEach [] X.env)).any (·.1)=false:=by rfl) :
  PI X tg (.Call (.Name "reversed" p) [e] [] pos) (aBh K ta):=by
 subst hK
 intro pins s σ H R I h
 refine wpAny_Call_Name_kw (lz I hg hm boot_reversed ?_ (by decide) (by decide))
 refine PyProof.Rows.callWith_type1 (bu (ha pos pins s σ H _ I h) fun us s1 ⟨vs,H1,I1,r1,q1⟩=>?_) hs kK
 obtain ⟨a,xs,rfl,hx,q⟩:=q1
 obtain ⟨u,rfl,ru⟩:=r1.one
 cases ru
 obtain ⟨ai,rv,p1,_⟩:=I1.list hx
 have hl:=rv.length
 refine call_reversed_list p1.isList ?_
 have hit:(s1.heap.push (revObj a ((ai.toArray.size:Int) - 1))).IsRevIter s1.heap.objs.size a ((ai.toArray.size:Int) - 1):=⟨_,Heap.get?_push_size _ rfl,rfl,by unfold revObj;simp⟩
 refine wpAny_pyIter_revIter hit ?_
 have e0:(ai.toArray.size:Int) - 1=(xs.length:Int) - 1 - ((0:Nat):Int):=by simp;omega
 rw [e0] at hit ⊢
 refine ⟨s1.heap.objs.size,[s1.heap.objs.size],_,_,H1,rfl,I1.kept (t':=s1.toks) fun b o e=>Heap.get?_push_of_some _ e,OX a _ xs,⟨Nat.zero_le _,hit⟩,fun b hb=>?_,q⟩
 have e:b=s1.heap.objs.size:=by simpa using hb
 subst e
 exact I1.zZ (Nat.le_refl _) (I1.bz.fresh (Nat.le_refl _))
end
theorem Qw {K:PySem.W.Frag} {a:Addr} {xs:List V} {g:TG} {tb:TS} {D:Ends} {σ:St} {H:Hp} (Pv:Nat→St→Hp→Prop) (h0:Pv 0 σ H) (hl:∀ i σ H,i≤xs.length→Pv i σ H→aX K H a xs)
  (hs:∀ i x σ H,xs.reverse[i]?=some x→Pv i σ H→g x σ H fun σ2 H2=>tb { D with nx:=Pv (i+1),ct:=Pv (i+1),bk:=D.nx } σ2 H2) (hd:∀ σ H,Pv xs.length σ H→D.nx σ H) :
  ∃ W:Nat→Nat→St→Hp→Prop,(∃ m,W 0 m σ H)∧∀ i m σ H,W i m σ H →
   ((Xm K a xs).stop i H∧D.nx σ H)∨((Xm K a xs).go i H∧∃ N:St→Hp→Prop,(∀ σ' H',N σ' H'→∃ m',m' < m∧W (i+1) m' σ' H')∧∀ x H',(Xm K a xs).N3 i H x H'→g x σ H' fun σ2 H2=>tb { D with nx:=N,ct:=N,bk:=D.nx } σ2 H2):=by
 refine ⟨fun i m σ H=>m=xs.length - i∧i≤xs.length∧Pv i σ H,⟨xs.length,by simp,Nat.zero_le _,h0⟩,?_⟩
 rintro i m σ H ⟨rfl,hi,p⟩
 have q:=hl i σ H hi p
 by_cases fE:i < xs.length
 ·refine .inr ⟨⟨q,fE⟩,Pv (i+1),fun σ' H' p'=>⟨xs.length - (i+1),by omega,rfl,fE,p'⟩,fun x H' y=>?_⟩
  obtain ⟨e,y⟩:=y
  subst e
  exact hs i x σ _ y p
 ·have e:i=xs.length:=by omega
  subst e
  exact .inl ⟨Nat.le_refl _,hd σ H p⟩
section
variable {X:Cx}
end
end L2
namespace L2
open PySem PySem.Spec PyProof.Rows
section
variable {prog:Program} {w:World} {A:Around} {E:Value→Shared→Prop} {s:Shared}
theorem JR {it t:Addr} {i:Nat} {items:Array Value} {x:Value} {Q:Value→Shared→Prop} (hit:s.heap.IsTupleIter it t i) (ht:s.heap.IsTuple t items) (hx:items[i]?=some x)
  (hQ:∀ h',h'.IsTupleIter it t (i+1)→Heap.SameBut it s.heap h'→Q x { s with heap:=h' }):wpAny (model prog w) A (Builtin.SmallTypes.nextOf (.ref it)) Q E s:=by
 obtain ⟨o,ho,hc,hd⟩:=id hit
 obtain ⟨u,hu,_,m,du⟩:=ht
 unfold Builtin.SmallTypes.nextOf
 refine wpAny_bind (wpAny_callSpecial?_slot (name:=Str.ofString "__next__") hit.typeIs F.slot_tuple_iterator_next (wpAny_call_entry F.slot_tuple_iterator_next hit.typeIs F.entry_tuple_iterator_next ?_ (F.args_tuple_iterator_next_1 _)))
 refine (show wpAny _ _ (field (.ref it) 0 >>= _) _ _ s from wpAny_bind (wpAny_field ho hd (x:=.ref t) rfl ?_))
 refine (show wpAny _ _ (if (Value.ref t == Value.none)=true then _ else _) _ _ s from ?_)
 rw [if_neg (by exact Bool.false_ne_true)]
 refine (show wpAny _ _ (field (.ref it) 1 >>= _) _ _ s from wpAny_bind (wpAny_field ho hd (x:=.int i 0) rfl ?_))
 refine (show wpAny _ _ (seqItems? (.ref t) >>= _) _ _ s from wpAny_bind (wpAny_seqItems hu du ?_))
 simp only [hx,Int.toNat_natCast]
 refine wpAny_bind (wpAny_setField ho hd (by simp) (wpAny_pure ⟨x,rfl,wpAny_pure (hQ _ ⟨_,Heap.get?_update_self _ ho (Obj.isFreed_of_fields (Obj.data_mapFields hd _)),(Obj.cls_mapFields ..).trans hc,?_⟩ (Heap.SameBut.update ..))⟩))
 rw [Obj.data_mapFields hd]
 simp [rawInt]
theorem MS {z TI TO i1 i2 l t:Addr} {k:Nat} {xs ys:Array Value} {x y a b:Value} {Q:Value→Shared→Prop} (D:ZipApart z TI TO i1 i2 l t) (hz:IsZip s.heap z TI TO .none) (qP:IsPair s.heap TI (.ref i1) (.ref i2)) (sr:IsPair s.heap TO a b)
  (h1:s.heap.IsListIter i1 l k) (h2:s.heap.IsTupleIter i2 t k) (hl:s.heap.IsList l xs) (ht:s.heap.IsTuple t ys) (hx:xs[k]?=some x) (hy:ys[k]?=some y)
  (hQ:∀ h',IsZip h' z TI TO (rawInt s.heap.objs.size)→IsPair h' TO x y→h'.IsListIter i1 l (k+1)→h'.IsTupleIter i2 t (k+1)→IsPair h' s.heap.objs.size x y→h'.objs.size=s.heap.objs.size+1 →
   (∀ c o,c≠z→c≠TO→c≠i1→c≠i2→s.heap.get? c=some o→h'.get? c=some o)→Q (.ref s.heap.objs.size) { s with heap:=h' }) :
  wpAny (model prog w) A (Builtin.«zip.__next__» ⟨[.ref z],[]⟩) (fun fin s'=>∃ v,fin=.done (.ret v)∧Q v s') E s:=by
 refine (show wpAny _ _ (field (.ref z) 2 >>= _) _ _ _ from wpAny_bind (wpAny_field hz rfl (x:=.bool false) rfl ?_))
 refine (show wpAny _ _ (field (.ref z) 3 >>= _) _ _ _ from wpAny_bind (wpAny_field hz rfl (x:=.ref TI) rfl (wpAny_bind (wpAny_seqItems qP rfl ?_))))
 refine (show wpAny _ _ (Builtin.SmallTypes.ownedTupleIsFree (.ref z) >>= _) _ _ _ from wpAny_bind ?_)
 unfold Builtin.SmallTypes.ownedTupleIsFree
 refine wpAny_bind (wpAny_field hz rfl (x:=.none) rfl (wpAny_pure ?_))
 rw [if_pos (by rfl)]
 refine wpAny_bind (wpAny_rule (wpAny_bind (wpAny_field hz rfl (x:=.ref TO) rfl (wpAny_bind (wpAny_setField_rec hz (by simp) fun ha hza MM=>wpAny_bind ?_)))))
 have Uq:IsZip ha z TI TO .ellipsis:=hza
 simp only [List.forIn_cons,List.forIn_nil,List.zipIdx_cons,List.zipIdx_nil]
 refine wpAny_bind (wpAny_bind (wpAny_onRaise (show wpAny _ _ (Builtin.SmallTypes.nextOf (.ref i1) >>= _) _ _ _ from wpAny_bind (wpAny_nextOf_list_item (h1.extBut MM.extBut D.i1z) (hl.extBut MM.extBut D.l1z) hx fun hb h1b ML=>wpAny_pure ?_))))
 have to2:IsPair hb TO a b:=ML.extBut _ _ D.TOi1 (MM.extBut _ _ D.TOz sr)
 refine wpAny_bind (wpAny_seqItems to2 rfl (wpAny_bind (wpAny_updateSeq_pair to2 fun hc to3 JP=>wpAny_bind (wpAny_letGo (wpAny_pure ?_)))))
 have aBj:IsPair hc TO x b:=to3
 refine wpAny_bind (wpAny_bind (wpAny_onRaise (show wpAny _ _ (Builtin.SmallTypes.nextOf (.ref i2) >>= _) _ _ _ from wpAny_bind
  (JR (((h2.extBut MM.extBut D.i2z).extBut ML.extBut D.i12.symm).extBut JP.extBut D.TOi2.symm) (((ht.extBut MM.extBut D.l2z).extBut ML.extBut D.l2i1).extBut JP.extBut D.l2TO) hy fun hd h2d bR=>wpAny_pure ?_))))
 have to4:IsPair hd TO x b:=bR.extBut _ _ D.TOi2 aBj
 refine wpAny_bind (wpAny_seqItems to4 rfl (wpAny_bind (wpAny_updateSeq_pair to4 fun he to5 Xo=>wpAny_bind (wpAny_letGo (wpAny_pure (wpAny_pure ?_))))))
 have Xp:IsPair he TO x y:=to5
 refine wpAny_bind (wpAny_seqItems Xp rfl (wpAny_bind (wpAny_newTuple ?_)))
 have TK:he.objs.size=s.heap.objs.size:=by rw [Xo.1,bR.1,JP.1,ML.1,MM.1]
 have z5:IsZip he z TI TO .ellipsis:=Xo.extBut _ _ D.TOz.symm (bR.extBut _ _ D.i2z.symm (JP.extBut _ _ D.TOz.symm (ML.extBut _ _ D.i1z.symm Uq)))
 have Xq:∀ c o,c≠z→c≠TO→c≠i1→c≠i2→s.heap.get? c=some o→he.get? c=some o:=fun c o n1 n2 n3 n4 e=>Xo.extBut _ _ n2 (bR.extBut _ _ n4 (JP.extBut _ _ n2 (ML.extBut _ _ n3 (MM.extBut _ _ n1 e))))
 have it1:he.IsListIter i1 l (k+1):=((h1b.extBut JP.extBut D.TOi1.symm).extBut bR.extBut D.i12).extBut Xo.extBut D.TOi1.symm
 have it2:he.IsTupleIter i2 t (k+1):=h2d.extBut Xo.extBut D.TOi2.symm
 have ltz:z < he.objs.size:=Heap.lt_size z5
 refine (show wpAny _ _ (Builtin.SmallTypes.ownedTupleHandOut (.ref z) (.ref he.objs.size) >>= _) _ _ _ from wpAny_bind ?_)
 unfold Builtin.SmallTypes.ownedTupleHandOut
 have z6:IsZip (he.push { cls:=.type "tuple",data:=.seq #[x,y] }) z TI TO .ellipsis:=Heap.get?_push_of_some _ z5
 refine wpAny_bind (wpAny_setField_rec z6 (by simp) fun hf zf hsf=>?_)
 have zf':IsZip hf z TI TO (rawInt he.objs.size):=zf
 refine wpAny_setField_rec zf' (by simp) fun hg zg WQ=>?_
 have zg':IsZip hg z TI TO (rawInt he.objs.size):=zg
 have up:∀ c o,c≠z→he.get? c=some o→hg.get? c=some o:=fun c o n1 e=>WQ.extBut _ _ n1 (hsf.extBut _ _ n1 (Heap.get?_push_of_some _ e))
 have TL:IsPair hg he.objs.size x y:=WQ.extBut _ _ (Nat.ne_of_gt ltz) (hsf.extBut _ _ (Nat.ne_of_gt ltz) (Heap.get?_push_size _ rfl))
 have TM:hg.objs.size=he.objs.size+1:=by rw [WQ.1,hsf.1,Heap.size_push]
 rw [TK] at zg' TL TM
 refine wpAny_pure ⟨_,rfl,(show Q (.ref he.objs.size) _ from ?_)⟩
 rw [TK]
 exact hQ hg zg' (up _ _ D.TOz Xp) (it1.at fun o e=>up _ o D.i1z e) (it2.at fun o e=>up _ o D.i2z e) TL TM fun c o n1 n2 n3 n4 e=>up c o n1 (Xq c o n1 n2 n3 n4 e)
theorem OY {z TI TO i1 i2 l t:Addr} {k:Nat} {xs:Array Value} {a b:Value} {Q:Fin→Shared→Prop} (hh:A.handled=none) (D:ZipApart z TI TO i1 i2 l t) (hz:IsZip s.heap z TI TO .none) (qP:IsPair s.heap TI (.ref i1) (.ref i2)) (sr:IsPair s.heap TO a b)
  (h1:s.heap.IsListIter i1 l k) (hl:s.heap.IsList l xs) (hx:xs[k]?=none)
  (hE:∀ h' e,(∀ c o,c≠z→c≠TO→c≠i1→c≠i2→s.heap.get? c=some o→h'.get? c=some o)→(∃ o,h'.get? e=some o∧o.cls=.type "StopIteration")→E (.ref e) { s with heap:=h' }) :
  wpAny (model prog w) A (Builtin.«zip.__next__» ⟨[.ref z],[]⟩) Q E s:=by
 refine (show wpAny _ _ (field (.ref z) 2 >>= _) _ _ _ from wpAny_bind (wpAny_field hz rfl (x:=.bool false) rfl ?_))
 refine (show wpAny _ _ (field (.ref z) 3 >>= _) _ _ _ from wpAny_bind (wpAny_field hz rfl (x:=.ref TI) rfl (wpAny_bind (wpAny_seqItems qP rfl ?_))))
 refine (show wpAny _ _ (Builtin.SmallTypes.ownedTupleIsFree (.ref z) >>= _) _ _ _ from wpAny_bind ?_)
 unfold Builtin.SmallTypes.ownedTupleIsFree
 refine wpAny_bind (wpAny_field hz rfl (x:=.none) rfl (wpAny_pure ?_))
 rw [if_pos (by rfl)]
 refine wpAny_bind (wpAny_rule (wpAny_bind (wpAny_field hz rfl (x:=.ref TO) rfl (wpAny_bind (wpAny_setField_rec hz (by simp) fun ha hza MM=>wpAny_bind ?_)))))
 have Uq:IsZip ha z TI TO .ellipsis:=hza
 simp only [List.forIn_cons,List.forIn_nil,List.zipIdx_cons,List.zipIdx_nil]
 refine wpAny_bind (wpAny_bind (wpAny_onRaise (show wpAny _ _ (Builtin.SmallTypes.nextOf (.ref i1) >>= _) _ _ _ from wpAny_bind (wpAny_nextOf_list_end hh (h1.extBut MM.extBut D.i1z) (hl.extBut MM.extBut D.l1z) hx fun hb e ML he=>?_))))
 obtain ⟨oe,hoe,hce⟩:=he
 have z2:IsZip hb z TI TO .ellipsis:=ML _ _ D.i1z.symm Uq
 have hez:e≠z:=fun q=>by subst q;rw [z2] at hoe;cases hoe;simp at hce
 exact wpAny_setField_rec z2 (by simp) fun hc _ JP=>hE hc e (fun c o n1 _ n3 _ q=>JP.extBut _ _ n1 (ML _ _ n3 (MM.extBut _ _ n1 q))) ⟨oe,JP.extBut _ _ hez hoe,hce⟩
theorem tM {z TI TO i1 i2 l t:Addr} {k:Nat} {xs ys:Array Value} {x y a b:Value} {Q:Option Value→Shared→Prop} (D:ZipApart z TI TO i1 i2 l t) (hz:IsZip s.heap z TI TO .none) (qP:IsPair s.heap TI (.ref i1) (.ref i2)) (sr:IsPair s.heap TO a b)
  (h1:s.heap.IsListIter i1 l k) (h2:s.heap.IsTupleIter i2 t k) (hl:s.heap.IsList l xs) (ht:s.heap.IsTuple t ys) (hx:xs[k]?=some x) (hy:ys[k]?=some y)
  (hQ:∀ h',IsZip h' z TI TO (rawInt s.heap.objs.size)→IsPair h' TO x y→h'.IsListIter i1 l (k+1)→h'.IsTupleIter i2 t (k+1)→IsPair h' s.heap.objs.size x y→h'.objs.size=s.heap.objs.size+1 →
   (∀ c o,c≠z→c≠TO→c≠i1→c≠i2→s.heap.get? c=some o→h'.get? c=some o)→Q (some (.ref s.heap.objs.size)) { s with heap:=h' }) :
  wpAny (model prog w) A (pyNext (.ref z)) Q E s:=by
 have hT:s.TypeIs (.ref z) "zip":=⟨_,hz,rfl⟩
 unfold pyNext
 exact wpAny_bind (wpAny_attempt (wpAny_callSpecial?_slot (name:=Str.ofString "__next__") hT F.slot_zip_next (wpAny_call_entry F.slot_zip_next hT F.entry_zip_next
  (MS D hz qP sr h1 h2 hl ht hx hy fun h' a1 a2 a3 a4 a5 a6 a7=>wpAny_pure (hQ h' a1 a2 a3 a4 a5 a6 a7)) (F.args_zip_next_1 _))))
theorem vB {z TI TO i1 i2 l t:Addr} {k:Nat} {xs:Array Value} {a b:Value} {Q:Option Value→Shared→Prop} (hh:A.handled=none) (D:ZipApart z TI TO i1 i2 l t) (hz:IsZip s.heap z TI TO .none) (qP:IsPair s.heap TI (.ref i1) (.ref i2)) (sr:IsPair s.heap TO a b)
  (h1:s.heap.IsListIter i1 l k) (hl:s.heap.IsList l xs) (hx:xs[k]?=none)
  (hQ:∀ h',(∀ c o,c≠z→c≠TO→c≠i1→c≠i2→s.heap.get? c=some o→h'.get? c=some o)→Q none { s with heap:=h' }):wpAny (model prog w) A (pyNext (.ref z)) Q E s:=by
 have hT:s.TypeIs (.ref z) "zip":=⟨_,hz,rfl⟩
 unfold pyNext
 refine wpAny_bind (wpAny_attempt (wpAny_callSpecial?_slot (name:=Str.ofString "__next__") hT F.slot_zip_next (wpAny_call_entry F.slot_zip_next hT F.entry_zip_next (OY hh D hz qP sr h1 hl hx fun h' e hk he=>?_) (F.args_zip_next_1 _))))
 obtain ⟨o,ho,hc⟩:=he
 exact wpAny_bind (wpAny_isInstance (T:="StopIteration") (b:=true) ⟨o,ho,hc⟩ isSubtype_stop (wpAny_pure (hQ _ hk)))
end
abbrev zA (h:Heap) (l:Addr):Heap:=h.push { cls:=.type "list_iterator",data:=.fields #[.ref l,.int 0 0] }
abbrev zB (h:Heap) (l t:Addr):Heap:=(zA h l).push { cls:=.type "tuple_iterator",data:=.fields #[.ref t,.int 0 0] }
abbrev zC (h:Heap) (l t:Addr):Heap:=(zB h l t).push { cls:=.type "tuple",data:=.seq #[.ref h.objs.size,.ref (zA h l).objs.size] }
abbrev zD (h:Heap) (l t:Addr):Heap:=(zC h l t).push { cls:=.type "tuple",data:=.seq #[.none,.none] }
abbrev zE (h:Heap) (l t:Addr):Heap:=(zD h l t).push { cls:=.type "zip",data:=.fields #[.none,.bool false,.bool false,.ref (zB h l t).objs.size,.ref (zC h l t).objs.size] }
theorem JS (l t:Addr) (xs ys:Array Value):Meets (Builtin.«zip.__new__» ⟨[.type "zip",.ref l,.ref t],[]⟩) (fun _ R s=>s.heap.IsList l xs∧s.heap.IsTuple t ys∧R (.ok (.ret (.ref (zD s.heap l t).objs.size))) { s with heap:=zE s.heap l t }) :=
 .of_wp fun prog w A R s h=>by
  obtain ⟨hp,g,d,tk,os⟩:=s
  obtain ⟨hl,ht,h⟩:=h
  have aBm:=sub_zip
  have e1:Heap.IsList (Shared.heap ⟨hp,g,d,tk,os⟩) l xs:=hl
  have e2:Heap.IsTuple (Shared.heap ⟨hp.push { cls:=.type "list_iterator",data:=.fields #[.ref l,.int 0 0] },g,d,tk,os⟩) t ys:=Heap.IsTuple.push ht _
  wp_walk using wpAny_pyIter_list e1,wpAny_pyIter_tuple e2
  exact ⟨_,rfl,h⟩
section
variable {prog:Program} {w:World} {A:Around} {E:Value→Shared→Prop} {s:Shared}
theorem MT {l t:Addr} {xs ys:Array Value} {Q:Value→Shared→Prop} (hl:s.heap.IsList l xs) (ht:s.heap.IsTuple t ys)
  (h:∀ h',IsZip h' (s.heap.objs.size+4) (s.heap.objs.size+2) (s.heap.objs.size+3) .none→IsPair h' (s.heap.objs.size+2) (.ref s.heap.objs.size) (.ref (s.heap.objs.size+1))→IsPair h' (s.heap.objs.size+3) .none .none →
   h'.IsListIter s.heap.objs.size l 0→h'.IsTupleIter (s.heap.objs.size+1) t 0→(∀ c o,s.heap.get? c=some o→h'.get? c=some o)→Q (.ref (s.heap.objs.size+4)) { s with heap:=h' }) :
  wpAny (model prog w) A (call (.type "zip") [.ref l,.ref t]) Q E s:=by
 refine callType_new F.called_zip (by decide) (F.typeCall_zip_2 _ _) (F.newCall_zip_2 _ _) (fun obj=>F.args_object_init_3 obj _ _) F.entry_zip_new (JS l t xs ys) ⟨hl,ht,?_⟩
 have s1:(zA s.heap l).objs.size=s.heap.objs.size+1:=Heap.size_push ..
 have s2:(zB s.heap l t).objs.size=s.heap.objs.size+2:=by rw [Heap.size_push,s1]
 have s3:(zC s.heap l t).objs.size=s.heap.objs.size+3:=by rw [Heap.size_push,s2]
 have s4:(zD s.heap l t).objs.size=s.heap.objs.size+4:=by rw [Heap.size_push,s3]
 have up:∀ {g:Heap} {o p:Obj} {c:Addr},g.get? c=some o→(g.push p).get? c=some o:=fun e=>Heap.get?_push_of_some _ e
 have g5:(zE s.heap l t).get? (zD s.heap l t).objs.size=some _:=Heap.get?_push_size _ rfl
 have g4:(zE s.heap l t).get? (zC s.heap l t).objs.size=some _:=up (Heap.get?_push_size _ rfl)
 have g3:(zE s.heap l t).get? (zB s.heap l t).objs.size=some _:=up (up (Heap.get?_push_size _ rfl))
 have g2:(zE s.heap l t).get? (zA s.heap l).objs.size=some _:=up (up (up (Heap.get?_push_size _ rfl)))
 have g1:(zE s.heap l t).get? s.heap.objs.size=some _:=up (up (up (up (Heap.get?_push_size _ rfl))))
 show _∧_
 rw [s2,s3,s4] at g5
 rw [s1,s2] at g3
 rw [s3] at g4
 rw [s1] at g2
 rw [s4]
 exact ⟨⟨_,g5,rfl⟩,h _ g5 g3 g4 ⟨_,g1,rfl,rfl⟩ ⟨_,g2,rfl,rfl⟩ fun c o q=>up (up (up (up (up q))))⟩
end
def Ur (K:PySem.W.Frag) (a b:Addr):It :=
 ⟨fun i H=>∃ xs ys x y,aX K H a xs∧bw K H b ys∧xs[i]?=some x∧ys[i]?=some y,
  fun i H v H'=>∃ p x y,H p=none∧v=.ref p∧H'=upd H p (.tup [x,y])∧(∀ xs,aX K H a xs→xs[i]?=some x)∧∀ ys,bw K H b ys→ys[i]?=some y,
  fun i H=>∃ xs,aX K H a xs∧xs.length≤i⟩
theorem MU {P:Program} {w:World} {K:PySem.W.Frag} {elts:List Expr} {x1:Nat} {pos:Pos} {z TI TO i1 i2 l1 l2:Addr} (D:ZipApart z TI TO i1 i2 l1 l2) :
  Turn P w K (.Tuple elts x1 pos) (Ur K l1 l2) [z,TI,TO,i1,i2] z (fun i h=>IsZip h z TI TO .none∧IsPair h TI (.ref i1) (.ref i2)∧(∃ a b,IsPair h TO a b)∧h.IsListIter i1 l1 i∧h.IsTupleIter i2 l2 i) where
 mem:=by simp
 obj:=fun i h st b hb=>by
  obtain ⟨hz,qP,⟨a,b',sr⟩,⟨o1,e1,c1,d1⟩,⟨o2,e2,c2,d2⟩⟩:=st
  simp only [List.mem_cons,List.not_mem_nil,or_false] at hb
  rcases hb with rfl | rfl | rfl | rfl | rfl
  ·exact ⟨_,hz,fun v q=>by cases q⟩
  ·exact ⟨_,qP,fun v q=>by cases q⟩
  ·exact ⟨_,sr,fun v q=>by cases q⟩
  ·exact ⟨_,e1,fun v q=>by rw [d1] at q;cases q⟩
  ·exact ⟨_,e2,fun v q=>by rw [d2] at q;cases q⟩
 keep:=fun i h h' st k=>by
  obtain ⟨hz,qP,⟨a,b',sr⟩,h1,h2⟩:=st
  exact ⟨k z (by simp) _ hz,k TI (by simp) _ qP,⟨a,b',k TO (by simp) _ sr⟩,h1.at fun o e=>k i1 (by simp) o e,h2.at fun o e=>k i2 (by simp) o e⟩
 item:=by
  intro X hP hw hK hc i pins s σ H E I hf st hg
  subst hP hw hK
  obtain ⟨hz,qP,⟨a,b,sr⟩,h1,h2⟩:=st
  obtain ⟨xs,ys,x,y,hx,hy,ex,ey⟩:=hg
  obtain ⟨ai,rv,p,hzx⟩:=I.list hx
  obtain ⟨iP,Xh,p2,hzy⟩:=I.tuple hy
  obtain ⟨u,hu,ru⟩:=rv.get ex
  obtain ⟨u2,OT,ru2⟩:=Xh.get ey
  refine tM D hz qP sr h1 h2 p.isList (show s.heap.IsTuple l2 iP.toArray from p2) (x:=u) (y:=u2) (by simpa using hu) (by simpa using OT) fun h' a1 a2 a3 a4 a5 a6 kk=>⟨_,rfl,?_⟩
  refine wpAny_letOwnedTupleGo_zip a1 fun Xi hz' MQ=>?_
  have lt:∀ {c o},s.heap.get? c=some o→s.heap.objs.size≠c:=fun e=>Nat.ne_of_gt (Heap.lt_size e)
  have k2:∀ c o,c ∉ [z,TI,TO,i1,i2]→s.heap.get? c=some o→Xi.get? c=some o:=fun c o hc e=>by
   simp only [List.mem_cons,List.not_mem_nil,or_false,not_or] at hc
   exact MQ.extBut _ _ hc.1 (kk c o hc.1 hc.2.2.1 hc.2.2.2.1 hc.2.2.2.2 e)
  have tup:cJ X.prog X.w (upd H s.heap.objs.size (.tup [x,y])) Xi s.heap.objs.size (.tup [x,y]) :=
   ⟨by show 2≤sizeLine;decide,[u,u2],.cons ru (.cons ru2 .nil),⟨_,MQ.extBut _ _ (lt hz) a5,rfl,_,rfl⟩⟩
  have hn:=I.bz.fresh (Nat.le_refl s.heap.objs.size)
  refine ⟨.ref s.heap.objs.size,_,I.yz (t':=s.toks) k2 hf (Nat.le_refl _) tup,rfl,⟨_,x,y,hn,rfl,rfl,fun zs hq=>by rw [I.rP hq hx];exact ex,fun zs hq=>by rw [I.ym hq hy];exact ey⟩,
   ⟨hz',MQ.extBut _ _ D.TIz (kk _ _ D.TIz D.TITO D.TIi1 D.TIi2 qP),⟨_,_,MQ.extBut _ _ D.TOz a2⟩,a3.extBut MQ.extBut D.i1z,a4.extBut MQ.extBut D.i2z⟩,fun c hc=>?_⟩
  have WO:c≠s.heap.objs.size:=by
   simp only [List.mem_cons,List.not_mem_nil,or_false] at hc
   obtain ⟨o1,e1,_⟩:=h1
   obtain ⟨o2,e2,_⟩:=h2
   rcases hc with rfl | rfl | rfl | rfl | rfl
   ·exact (lt hz).symm
   ·exact (lt qP).symm
   ·exact (lt sr).symm
   ·exact (lt e1).symm
   ·exact (lt e2).symm
  rw [aD WO]
  exact (hf c hc).1
 done:=by
  intro X hP hw hK hc i pins s σ H E I hf st hg
  subst hP hw hK
  obtain ⟨hz,qP,⟨a,b,sr⟩,h1,h2⟩:=st
  obtain ⟨xs,hx,he⟩:=hg
  obtain ⟨ai,rv,p,hzx⟩:=I.list hx
  have l1':=rv.length
  refine vB (I.ok.hd hc) D hz qP sr h1 p.isList (by simp;omega) fun h' kk=>⟨rfl,?_⟩
  refine I.LG (t':=s.toks) (ch:=[z,TI,TO,i1,i2]) (fun c o hc e=>?_) hf
  simp only [List.mem_cons,List.not_mem_nil,or_false,not_or] at hc
  exact kk c o hc.1 hc.2.2.1 hc.2.2.2.1 hc.2.2.2.2 e
 self:=fun _ _ _ _ _ st h=>wpAny_pyIter_zip st.1 h
section
variable {X:Cx}
def Xr (K:PySem.W.Frag) (ta:TA):TI:=fun σ H R=>ta σ H fun vs H1=>∃ a b,vs=[.ref a,.ref b]∧(∃ xs,aX K H1 a xs)∧(∃ ys,bw K H1 b ys)∧R (Ur K a b) H1
theorem OZ (K:PySem.W.Frag) {e1 e2:Expr} {ta:TA} {p pos ze:Pos} {elts:List Expr} {x1:Nat} (hg:Gl X "zip") (hm:X.mg "zip"=none) (ha:PA X [e1,e2] ta) (hK:X.K=K:=by rfl) (hs:starEach [e1,e2] X.env=(false,eval e1 X.env) :: starEach [e2] X.env:=by rfl) (kK:(backTo pos (starEach [e2] X.env)).any (·.1)=false:=by rfl) :
  PI X (.Tuple elts x1 ze) (.Call (.Name "zip" p) [e1,e2] [] pos) (Xr K ta):=by
 subst hK
 intro pins s σ H R I h
 refine wpAny_Call_Name_kw (lz I hg hm boot_zip ?_ (by decide) (by decide))
 refine PyProof.Rows.callWith_type1 (bu (ha pos pins s σ H _ I h) fun us s1 ⟨vs,H1,I1,r1,q1⟩=>?_) hs kK
 obtain ⟨a,b,rfl,⟨xs,hx⟩,⟨ys,hy⟩,q⟩:=q1
 obtain ⟨u,v,rfl,ru,rv⟩:=r1.two
 cases ru
 cases rv
 obtain ⟨ai,r1',p1,_⟩:=I1.list hx
 obtain ⟨iP,r2',p2,_⟩:=I1.tuple hy
 have p2':s1.heap.IsTuple b iP.toArray:=p2
 refine MT p1.isList p2' fun h' hz qP sr h1 h2 kk=>?_
 refine wpAny_pyIter_zip hz ?_
 have la:a < s1.heap.objs.size:=by obtain ⟨o,n,ho,_⟩:=p1;exact Heap.lt_size ho
 have lb:b < s1.heap.objs.size:=by obtain ⟨o,ho,_⟩:=p2';exact Heap.lt_size ho
 have I2:Inv X pins σ H1 { s1 with heap:=h' }:=I1.kept (t':=s1.toks) fun b o e=>kk b o e
 refine ⟨s1.heap.objs.size+4,[s1.heap.objs.size+4,s1.heap.objs.size+2,s1.heap.objs.size+3,s1.heap.objs.size,s1.heap.objs.size+1],_,_,H1,rfl,I2,MU (zipApart_new la lb),⟨hz,qP,⟨_,_,sr⟩,h1,h2⟩,fun c hc=>?_,q⟩
 have hle:s1.heap.objs.size≤c:=by
  simp only [List.mem_cons,List.not_mem_nil,or_false] at hc
  rcases hc with rfl | rfl | rfl | rfl | rfl
  ·exact Nat.le_add_right _ _
  ·exact Nat.le_add_right _ _
  ·exact Nat.le_add_right _ _
  ·exact Nat.le_refl _
  ·exact Nat.le_add_right _ _
 exact I1.zZ (H':=H1) hle (I1.bz.fresh hle)
end
section
variable {K:PySem.W.Frag} {g:TG} {tt:TT} {te:TE} {D:Addr} {σ:St} {H:Hp} {Q:VK}
theorem Qx {a b:Addr} {xs ys:List V} (hlen:xs.length=ys.length) (Pv:Nat→St→Hp→Prop) (h0:Pv 0 σ H) (hl:∀ i σ H,i≤xs.length→Pv i σ H→aX K H a xs∧bw K H b ys)
  (hs:∀ (i:Nat) (x y:V) (p:Addr) (σ:St) (H:Hp) (N:St→Hp→Prop),(∀ σ H,Pv (i+1) σ H→N σ H)→xs[i]?=some x→ys[i]?=some y→Pv i σ H→H p=none→g (.ref p) σ (upd H p (.tup [x,y])) fun σ3 H3=>tt σ3 H3 fun b H4 =>
   if b=true then te σ3 H4 fun v H5=>∃ ys,H5 D=some (.lst ys)∧ys.length < sizeLine∧N σ3 (upd H5 D (.lst (ys ++ [v]))) else N σ3 H4)
  (hd:∀ σ H,Pv xs.length σ H→Q (.ref D) H):ua (Ur K a b) g tt te D σ H Q:=by
 refine ⟨fun i m σ H=>m=xs.length - i∧i≤xs.length∧Pv i σ H,⟨xs.length,by simp,Nat.zero_le _,h0⟩,?_⟩
 rintro i m σ' H' ⟨rfl,hi,p⟩
 obtain ⟨q1,q2⟩:=hl i σ' H' hi p
 by_cases fE:i < xs.length
 ·have Us:i < ys.length:=by omega
  refine .inr ⟨⟨xs,ys,xs[i],ys[i],q1,q2,by simp [fE],by simp [Us]⟩,fun x H2 y=>?_⟩
  obtain ⟨pp,x1,y1,hn,rfl,rfl,ex,ey⟩:=y
  exact hs i x1 y1 pp σ' _ (fun σ3 H3=>∃ m',m' < xs.length - i∧m'=xs.length - (i+1)∧i+1≤xs.length∧Pv (i+1) σ3 H3) (fun σ3 H3 z=>⟨xs.length - (i+1),by omega,rfl,fE,z⟩) (ex xs q1) (ey ys q2) p hn
 ·have e:i=xs.length:=by omega
  subst e
  exact .inl ⟨⟨xs,q1,Nat.le_refl _⟩,hd σ' H' p⟩
end
end L2
namespace L2
open PySem
structure Ut (K:PySem.W.Frag) (a:Addr) (xs:List V):Prop where
 ex:∃ (o:Obj) (ai:Array Value) (n:Nat),K.lookup a=some o∧o.cls=.type "tuple"∧o.data=.seq ai n∧ai.size≤sizeLine∧au xs ai.toList
theorem Ut.sq {K:PySem.W.Frag} {a:Addr} {xs:List V} (h:Ut K a xs) (H:Hp):bw K H a xs:=.inr h.ex
end L2
namespace L2
open PySem PySem.Spec PyProof.Rows
section
variable {X:Cx}
end
section
variable {K:PySem.W.Frag} {g:TG} {tt:TT} {te:TE} {D:Addr} {σ:St} {H:Hp} {Q:VK}
theorem vp {i j:Nat} {x y:V} {p:Addr} {A:St→Hp→Prop} (hp:bw K H p [x,y]) (h:A ((σ.set i (some x)).set j (some y)) H):Nz K 2 (rQ (jJ i) (rQ (jJ j) Ny)) (.ref p) σ H A :=
 ⟨p,[x,y],rfl,hp,rfl,x,_,rfl,y,_,rfl,rfl,h⟩
end
end L2
namespace L2
open PySem PySem.Spec PyProof.Rows
section
variable {K:PySem.W.Frag} {g:TG} {tt:TT} {te:TE} {D:Addr} {σ:St} {H:Hp} {Q:VK}
theorem Qy {a b:Addr} {xs ys:List V} {tb:TS} {D:Ends} (hlen:xs.length=ys.length) (Pv:Nat→St→Hp→Prop) (h0:Pv 0 σ H) (hl:∀ i σ H,i≤xs.length→Pv i σ H→aX K H a xs∧aX K H b ys)
  (hs:∀ i x y p σ H,xs[i]?=some x→ys[i]?=some y→Pv i σ H→H p=none→g (.ref p) σ (upd H p (.tup [x,y])) fun σ2 H2=>tb { D with nx:=Pv (i+1),ct:=Pv (i+1),bk:=D.nx } σ2 H2) (hd:∀ σ H,Pv xs.length σ H→D.nx σ H) :
  ∃ W:Nat→Nat→St→Hp→Prop,(∃ m,W 0 m σ H)∧∀ i m σ H,W i m σ H →
   ((Uk K a b).stop i H∧D.nx σ H)∨((Uk K a b).go i H∧∃ N:St→Hp→Prop,(∀ σ' H',N σ' H'→∃ m',m' < m∧W (i+1) m' σ' H')∧∀ x H',(Uk K a b).N3 i H x H'→g x σ H' fun σ2 H2=>tb { D with nx:=N,ct:=N,bk:=D.nx } σ2 H2):=by
 refine ⟨fun i m σ H=>m=xs.length - i∧i≤xs.length∧Pv i σ H,⟨xs.length,by simp,Nat.zero_le _,h0⟩,?_⟩
 rintro i m σ H ⟨rfl,hi,p⟩
 obtain ⟨q1,q2⟩:=hl i σ H hi p
 by_cases fE:i < xs.length
 ·have Us:i < ys.length:=by omega
  refine .inr ⟨⟨xs,ys,xs[i],ys[i],q1,q2,by simp [fE],by simp [Us]⟩,Pv (i+1),fun σ' H' p'=>⟨xs.length - (i+1),by omega,rfl,fE,p'⟩,fun x H' y=>?_⟩
  obtain ⟨pp,x1,y1,hn,rfl,rfl,ex,ey⟩:=y
  exact hs i x1 y1 pp σ _ (ex xs q1) (ey ys q2) p hn
 ·have e:i=xs.length:=by omega
  subst e
  exact .inl ⟨⟨xs,ys,q1,q2,.inl (Nat.le_refl _)⟩,hd σ H p⟩
theorem Qz {n:Nat} (hn:n≤1000) {H0:Hp} {σr:St} {b:Nat→Bool} (hD:H0 D=none)
  (ht:∀ (i:Nat) (H:Hp) (N:Bool→Hp→Prop),i < n→aI H0 H→(∀ H',aI H H'→N (b i) H')→tt (some (.int (0+(i:Int))) :: σr) H N)
  (he:∀ (i:Nat) (H:Hp) (N:V→Hp→Prop),i < n→N (.int (0+(i:Int))) H→te (some (.int (0+(i:Int))) :: σr) H N)
  (q:∀ H,aI H0 H→H D=some (.lst (((List.range n).filter b).map fun k=>V.int (k:Nat)))→Q (.ref D) H) :
  ua (Qf 0 n) (jJ 0) tt te D (none :: σr) (upd H0 D (.lst [])) Q:=by
 have hsz:(2000:Nat)≤sizeLine:=by decide
 refine lH (lo:=0) (n:=n) (fun i σ H'=>∃ v:Option V,σ=v :: σr∧aI H0 H'∧H' D=some (.lst (((List.range i).filter b).map fun k=>V.int (k:Nat)))) ⟨none,rfl,(aI.refl _).new hD,aB⟩ ?_ ?_
 ·rintro i σ H' N hN hi ⟨v,rfl,s1,h1⟩
  refine turn_if ?_
  refine ht i H' _ hi s1 fun H2 s2=>?_
  have ef:(List.range (i+1)).filter b=(List.range i).filter b ++ if b i=true then [i] else []:=by
   rw [List.range_succ,List.filter_append]
   congr 1
   by_cases e:b i=true <;> simp [e]
  by_cases e:b i=true
  ·rw [e]
   refine fe (he i H2 _ hi ⟨_,s2 _ _ h1,?_,?_⟩)
   ·rw [List.length_map]
    have:=List.length_filter_le b (List.range i)
    rw [List.length_range] at this
    omega
   ·refine hN _ _ ⟨_,rfl,(s1.trans s2).put hD,?_⟩
    rw [aB,ef,if_pos e,List.map_append]
    simp
  ·have e':b i=false:=by simpa using e
   rw [e']
   refine di (hN _ _ ⟨_,rfl,s1.trans s2,?_⟩)
   rw [ef,if_neg e,List.append_nil]
   exact s2 _ _ h1
 ·rintro σ H' ⟨v,rfl,s1,h1⟩
  exact q H' s1 h1
theorem Gz (ps:List Nat):(ps.map fun k=>V.int (k:Nat))=tabI ps.length fun q=>((ps.getD q 0:Nat):Int):=by
 apply List.ext_getElem?
 intro j
 by_cases hj:j < ps.length
 ·rw [b9 hj,List.getElem?_map]
  simp [hj,List.getD]
 ·rw [List.getElem?_eq_none (by rw [List.length_map];omega),List.getElem?_eq_none (by rw [aL];omega)]
end
section
variable {P:Program} {w:World} {K:PySem.W.Frag} {mg:Str→Option Value} {base:Heap}
def aBn:Sp:=fun _ _ _ _=>False
theorem aP.no {x:Str} {st:Stmt} {N ps:List Str} (F:aP K mg x st) (S:aQ N ps (aH st))
  (hb:∀ (kV doc pm:Value) (an:Option Addr) (bo ct:Value) (us:List Value),us.length=ps.length→bindArgs (PySem.W.fnOf x x (bT st) (bG st) (aH st) .none kV doc pm an bo ct) ⟨us,[]⟩=pure (ps.zip us)):Def P w K mg base 1 x ps aBn :=
 F.def S hb (fun _ _ _ _ h=>h.elim) fun _ _ _ _ _ _ _ _ _ _ h=>h.elim
end
end L2
namespace L2
open PySem PySem.Spec PyProof.Rows
theorem aI.tup {K:PySem.W.Frag} {H H':Hp} {a:Addr} {xs:List V} (e:aI H H') (h:bw K H a xs):bw K H' a xs:=by
 rcases h with (h | ⟨o,h⟩) | h
 ·exact .inl (.inl (e _ _ h))
 ·exact .inl (.inr ⟨o,e _ _ h⟩)
 ·exact .inr h
section
variable {prog:Program} {w:World} {A:Around} {E:Value→Shared→Prop} {s:Shared}
end
section
variable {X:Cx}
end
inductive xk (K:PySem.W.Frag) (H:Hp):Nat→V→V→Prop where
 | flat {n:Nat} (x:V):nh x=true→xk K H n x x
 | same {n:Nat} (a:Addr):xk K H n (.ref a) (.ref a)
 | lst {n:Nat} {a b:Addr} {xs ys:List V} (ha:aX K H a xs) (hb:aX K H b ys) (hl:xs.length=ys.length) (h:∀ (j:Nat) (x y:V),xs[j]?=some x→ys[j]?=some y→xk K H n x y):xk K H (n+1) (.ref a) (.ref b)
 | tup {n:Nat} {a b:Addr} {xs ys:List V} (ha:bw K H a xs) (hb:bw K H b ys) (hl:xs.length=ys.length) (h:∀ (j:Nat) (x y:V),xs[j]?=some x→ys[j]?=some y→xk K H n x y):xk K H (n+1) (.ref a) (.ref b)
theorem Oa:∀ (x:V),nh x=true→MG x x=true
 | .bJ,_=>rfl
 | .bl b,_=>by simp [MG]
 | .int i,_=>by simp [MG]
 | .str z,_=>by simp [MG]
 | .ref _,h=>absurd h (by intro z;cases z)
 | .ty _,h=>absurd h (by intro z;cases z)
section
variable {X:Cx} {pins:List (Addr × Obj)} {σ:St} {H:Hp} {s:Shared}
theorem LJ (I:Inv X pins σ H s) {n:Nat} {x y:V} (h:xk X.K H n x y):∀ {A:Around} {u v:Value},A.units+n < cLine→RelV x u→RelV y v→SeqAt.EqAt A s u v true:=by
 induction h with
 | flat x fx=>intro A u v _ ru rv;have:=zk (A:=A) (s:=s) ru rv fx fx;rwa [Oa x fx] at this
 | same a=>intro A u v _ ru rv;cases ru;cases rv;exact SeqAt.EqAt.same _
 | @lst n a b xs ys ha hb hl h ih =>
  intro A u v hu ru rv
  cases ru
  cases rv
  by_cases MV:a=b
  ·subst MV
   exact SeqAt.EqAt.same _
  ·obtain ⟨ai,r1,p1,_⟩:=I.list ha
   obtain ⟨iP,r2,p2,_⟩:=I.list hb
   have l1:=r1.length
   have l2:=r2.length
   refine SeqAt.EqAt.of_refs MV ?_
   have q:=SeqAt.RcAt.lists (A:=A) (s:=s) (e:=fun _=>true) p1.isList p2.isList (by simp;omega) (by omega) fun j h1 h2=>?_
   ·rw [all_true] at q
    exact q
   ·obtain ⟨x,hx,rx⟩:=iQ r1 j h1
    obtain ⟨y,hy,ry⟩:=iQ r2 j h2
    exact ih j x y hx hy (A:=A.in1) (by show A.units+1+n < cLine;omega) rx ry
 | @tup n a b xs ys ha hb hl h ih =>
  intro A u v hu ru rv
  cases ru
  cases rv
  by_cases MV:a=b
  ·subst MV
   exact SeqAt.EqAt.same _
  ·obtain ⟨ai,r1,p1,_⟩:=I.tuple ha
   obtain ⟨iP,r2,p2,_⟩:=I.tuple hb
   have l1:=r1.length
   have l2:=r2.length
   refine SeqAt.EqAt.of_refs MV ?_
   have q:=SeqAt.RcAt.tuples (A:=A) (s:=s) (e:=fun _=>true) (show s.heap.IsTuple a ai.toArray from p1) (show s.heap.IsTuple b iP.toArray from p2) (by omega) fun j h1 h2=>?_
   ·rw [all_true,Bool.true_and,show (ai.toArray.size == iP.toArray.size)=true by simp;omega] at q
    exact q
   ·obtain ⟨x,hx,rx⟩:=iQ r1 j h1
    obtain ⟨y,hy,ry⟩:=iQ r2 j h2
    exact ih j x y hx hy (A:=A.in1) (by show A.units+1+n < cLine;omega) rx ry
end
section
variable {X:Cx}
def aBo (K:PySem.W.Frag) (neg:Bool):R2:=fun x y H Q=>∃ a b xs ys,x=.ref a∧y=.ref b∧aX K H a xs∧aX K H b ys ∧
 ((xs.length=ys.length∧(∀ (j:Nat) (u v:V),xs[j]?=some u→ys[j]?=some v→xk K H 8 u v)∧Q (.bl (!neg)) H)∨(xs.length≠ys.length∧Q (.bl neg) H))
theorem Q0 (K:PySem.W.Frag) (hu:X.A.units+16 < cLine) (hK:X.K=K:=by rfl):nR X (compareOp .NotEq) (aBo K true):=by
 subst hK
 intro pins s σ H x y v u Q I rx ry h
 obtain ⟨a,b,xs,ys,rfl,rfl,ha,hb,h⟩:=h
 cases rx
 cases ry
 obtain ⟨ai,r1,p1,_⟩:=I.list ha
 obtain ⟨iP,r2,p2,_⟩:=I.list hb
 have l1:=r1.length
 have l2:=r2.length
 rcases h with ⟨hl,he,q⟩ | ⟨hl,q⟩
 ·refine PySem.EqBoolInt.of_rcne (SeqAt.RcNeAt.lists (e:=fun _=>true) p1.isList p2.isList (by simp;omega) (by omega) fun j h1 h2=>?_) ?_
  ·obtain ⟨x,hx,rx⟩:=iQ r1 j h1
   obtain ⟨y,hy,ry⟩:=iQ r2 j h2
   exact LJ I (he j x y hx hy) (A:=X.A.in1) (by show X.A.units+1+8 < cLine;omega) rx ry
  ·rw [all_true]
   exact ⟨.bl false,H,I,rfl,q⟩
 ·refine PySem.EqBoolInt.of_rcne (SeqAt.RcNeAt.lists_lengths p1.isList p2.isList (by simp;omega) (by omega)) ?_
  exact ⟨.bl true,H,I,rfl,q⟩
theorem LK (K:PySem.W.Frag) {tg l:Expr} {tl:TE} (hl:PE X l tl) (hK:X.K=K:=by rfl):PI X tg l (W2 K tl):=by subst hK;exact UC hl
theorem G5 (K:PySem.W.Frag) (hK:X.K=K:=by rfl):jx X (.type "tuple") (fun xs H Q=>∃ p ys,xs=[.ref p]∧((aX K H p ys∧∀ l,H l=none→Q (.ref l) (upd H l (.tup ys)))∨(bw K H p ys∧Q (.ref p) H))):=by subst hK;exact xj
end
section
variable {K:PySem.W.Frag} {g:TG} {tt:TT} {te:TE} {D:Addr} {σ:St} {H:Hp} {Q:VK}
end
end L2
namespace L2
open PySem PySem.Spec PyProof.Rows
end L2
namespace L2
open PySem PySem.Spec PyProof.Rows
section
variable (P:Program) (w:World)
end
section
variable {P:Program} {w:World} {H H':Hp} {h h':Heap} {a:Addr} {o:HO}
end
section
variable {P:Program} {w:World} {H:Hp} {h h':Heap} {x e:Addr} {o':HO}
end
section
variable {fs QI ex ex':List Addr} {H H1 H2:Hp} {h h1 h2 h':Heap} {a x e:Addr} {o:HO}
end
end L2
namespace L2
open PySem PySem.Spec PyProof.Rows
section
variable {X:Cx} {pins:List (Addr × Obj)} {σ:List (Option V)} {H H':Hp} {s:Shared} {h':Heap}
end
end L2
namespace L2
open PySem PySem.Spec PyProof.Rows
section
variable {X:Cx}
variable {a b:Expr} {ta tb:TE} {pos:Pos}
variable {tA Wu:TT} {rest:List Expr}
end
end L2
namespace L2
open PySem PySem.Spec PyProof.Rows
section
variable {X:Cx} {pins:List (Addr × Obj)} {σ:St} {H:Hp} {s:Shared} {a:Addr} {xs ys:List V}
end
section
variable {X:Cx} {pins:List (Addr × Obj)} {σ:St} {H:Hp} {s:Shared} {E:Value→Shared→Prop}
end
section
variable {X:Cx} {st:Stmt} {rest:List Stmt} {t u:TS} {e:Expr} {te:TE} {pos:Pos}
end
section
variable {X:Cx} {pos:Pos}
end
section
variable {X:Cx} {pos:Pos}
end
end L2
namespace L2
open PySem PySem.Spec PyProof.Rows
section
variable {X:Cx} {tg:Expr}
end
end L2
namespace L2
open PySem PySem.Spec PyProof.Rows
section
variable {X:Cx} {a b c:Expr} {ta tb tc:TE} {pos:Pos}
end
section
variable {X:Cx} {a b c:Expr} {ta tb tc:TE} {pos:Pos}
end
end L2
namespace L2
open PySem PySem.Spec PyProof.Rows
section
variable {prog:Program} {w:World} {A:Around} {E:Value→Shared→Prop} {s:Shared} {K:PySem.W.Frag} {x dx C f:Addr} {mA:Str→Option Value} {name:Str} {v:Value}
end
section
variable {P:Program} {w:World} {H H':Hp} {h h':Heap} {a C dx:Addr} {fs QI:List (Str × V)}
end
section
variable {X:Cx} {pins:List (Addr × Obj)} {σ:St} {H:Hp} {s:Shared} {a C dx:Addr} {fs:List (Str × V)} {f:Str} {v:V} {A:Around} {E:Value→Shared→Prop}
end
section
variable {X:Cx} {o e value:Expr} {f:Str} {pos pos' ze:Pos} {ta tv:TE}
end
section
variable {X:Cx} {pins:List (Addr × Obj)} {σ:St} {H:Hp} {s:Shared} {A:Around} {E:Value→Shared→Prop} {Q:Value→Shared→Prop} {c:Value} {b:Bool}
end
end L2
namespace L2
open PySem PySem.Spec PyProof.Rows
section
variable {X:Cx} {e:Expr} {es:List Expr} {te:TE} {t:TA} {pos:Pos}
end
section
variable {X:Cx} {pins:List (Addr × Obj)} {σ:St} {H:Hp} {s s':Shared}
end
section
variable {X:Cx} {CX:Gj} {k:Nat} {f C:Addr} {fd:FuncData} {ps:List Str} {sp:Sp} {xb:List V} {ds:List Value} {E:XK} {x m:Str} {p pos apos:Pos} {e o:Expr} {es:List Expr} {ta:TE} {t:TA}
end
section
variable {X:Cx} {CX:Gj} {k:Nat} {f C:Addr} {fd:FuncData} {ps ks:List Str} {sp:Sp} {E:XK} {x m:Str} {p pos apos aAD:Pos} {e o:Expr} {es:List Expr} {kws:List Keyword} {te ta:TE} {t tk:TA} {nm:Option Str}
variable {g:List Value→List Value→List Value} {gV:List V→List V→List V}
end
end L2
namespace L2
open PySem PySem.Spec PyProof.Rows
section
variable {X:Cx} {x:Str} {p pos:Pos} {e:Expr} {es:List Expr} {t:TA} {id T:String} {r:List V→Hp→VK→Prop}
end
end L2
namespace L2
open PySem PySem.Spec PyProof.Rows
section
variable {κ:Type} [DecidableEq κ]
def iy (aq:List (κ × V)) (k:κ):Option V:=(aq.find? fun kv=>decide (kv.1=k)).map (·.2)
def putK (aq:List (κ × V)) (k:κ) (v:V):List (κ × V) :=
 if (aq.any fun kv=>decide (kv.1=k))=true then aq.map (fun kv=>if kv.1=k then (kv.1,v) else kv) else aq ++ [(k,v)]
def TN (aq:List (κ × V)) (k:κ):List (κ × V):=aq.filter fun kv=>decide (kv.1≠k)
theorem rh {p:κ × V} {r:List (κ × V)} {k:κ} (e:p.1=k):iy (p :: r) k=some p.2:=by simp [iy,List.find?_cons,e]
theorem vq {p:κ × V} {r:List (κ × V)} {k:κ} (e:¬ p.1=k):iy (p :: r) k=iy r k:=by simp [iy,List.find?_cons,e]
theorem G6 (k:κ):∀ aq:List (κ × V),(aq.any fun kv=>decide (kv.1=k))=(iy aq k).isSome
 | []=>rfl
 | p :: r=>by
  rw [List.any_cons]
  by_cases e:p.1=k
  ·simp only [rh e,decide_eq_true e,Bool.true_or,Option.isSome_some]
  ·rw [vq e,decide_eq_false e,Bool.false_or];exact G6 k r
theorem uc (aq:List (κ × V)) (k:κ) (v:V):(putK aq k v).length≤aq.length+1:=by
 unfold putK
 split
 ·rw [List.length_map];omega
 ·rw [List.length_append,List.length_cons,List.length_nil];omega
theorem lB.jA {o:Option V} {u:Option Value} (r:lB o u):o.isSome=u.isSome:=by
 cases o with
 | none=>cases u with
  | none=>rfl
  | some _=>exact (show False from r).elim
 | some _=>cases u with
  | none=>exact (show False from r).elim
  | some _=>rfl
theorem lB.getD {o:Option V} {u:Option Value} {d:V} {d':Value} (r:lB o u) (rd:RelV d d'):RelV (o.getD d) (u.getD d'):=by
 cases o with
 | none=>cases u with
  | none=>exact rd
  | some _=>exact (show False from r).elim
 | some _=>cases u with
  | none=>exact (show False from r).elim
  | some _=>exact r
theorem KV.val {aq:List (κ × V)} {vs:List (κ × Value)} (r:KV aq vs) (k:κ):lB (iy aq k) (valueAt vs k):=by
 unfold KV at r
 induction r with
 | nil=>exact True.intro
 | @cons p q ps qs h t ih =>
  obtain ⟨h1,h2⟩:=h
  by_cases e:p.1=k
  ·have e':q.1=k:=h1.symm.trans e
   have b:valueAt (q :: qs) k=some q.2:=by simp [valueAt,List.find?_cons,e']
   rw [rh e,b];exact h2
  ·have e':¬ q.1=k:=fun z=>e (h1.trans z)
   have b:valueAt (q :: qs) k=valueAt qs k:=by simp [valueAt,List.find?_cons,e']
   rw [vq e,b];exact ih
theorem KV.any {aq:List (κ × V)} {vs:List (κ × Value)} (r:KV aq vs) (k:κ):(aq.any fun kv=>decide (kv.1=k))=vs.any fun kv=>decide (kv.1=k):=by
 unfold KV at r
 induction r with
 | nil=>rfl
 | cons h t ih=>rw [List.any_cons,List.any_cons,ih,h.1]
theorem KV.Ob {aq:List (κ × V)} {vs:List (κ × Value)} (r:KV aq vs) (k:κ) {y:V} {u:Value} (ry:RelV y u) :
  KV (aq.map fun kv=>if kv.1=k then (kv.1,y) else kv) (vs.map fun kv=>if kv.1=k then (kv.1,u) else kv):=by
 unfold KV at r ⊢
 induction r with
 | nil=>exact .nil
 | @cons p q ps qs h t ih =>
  rw [List.map_cons,List.map_cons]
  refine .cons ?_ ih
  obtain ⟨h1,h2⟩:=h
  by_cases e:p.1=k
  ·rw [if_pos e,if_pos (h1.symm.trans e)];exact ⟨h1,ry⟩
  ·rw [if_neg e,if_neg (fun z=>e (h1.trans z))];exact ⟨h1,h2⟩
theorem KV.put {aq:List (κ × V)} {vs:List (κ × Value)} (r:KV aq vs) (k:κ) {y:V} {u:Value} (ry:RelV y u):KV (putK aq k y) (stored vs k u):=by
 unfold putK stored
 rw [r.any k]
 by_cases e:(vs.any fun kv=>decide (kv.1=k))=true
 ·rw [if_pos e,if_pos e];exact r.Ob k ry
 ·rw [if_neg e,if_neg e];exact Paired.snoc r ⟨rfl,ry⟩
theorem KV.drop {aq:List (κ × V)} {vs:List (κ × Value)} (r:KV aq vs) (k:κ):KV (TN aq k) (without vs k):=by
 unfold KV at r ⊢
 unfold TN without
 induction r with
 | nil=>exact .nil
 | @cons p q ps qs h t ih =>
  obtain ⟨h1,h2⟩:=h
  rw [List.filter_cons,List.filter_cons]
  by_cases e:p.1=k
  ·have a:¬ decide (p.1≠k)=true:=by simp [e]
   have b:¬ decide (q.1≠k)=true:=by simp [h1.symm.trans e]
   rw [if_neg a,if_neg b];exact ih
  ·have e':¬ q.1=k:=fun z=>e (h1.trans z)
   have a:decide (p.1≠k)=true:=by simp [e]
   have b:decide (q.1≠k)=true:=by simp [e']
   rw [if_pos a,if_pos b];exact .cons ⟨h1,h2⟩ ih
theorem KV.keys {aq:List (κ × V)} {vs:List (κ × Value)} (r:KV aq vs):aq.map (·.1)=vs.map (·.1):=by
 unfold KV at r
 induction r with
 | nil=>rfl
 | cons h t ih=>rw [List.map_cons,List.map_cons,ih,h.1]
theorem KV.length {aq:List (κ × V)} {vs:List (κ × Value)} (r:KV aq vs):aq.length=vs.length:=Paired.length r
end
theorem y0 {P:Program} {w:World} {k:Key} {u:Value} (r:RelV (kV k) u):(be P w).is k u=true:=by
 cases k with
 | inl i=>obtain ⟨t,e⟩:=(show ∃ t,u=Value.int i t from r);subst e;exact GV P w i t
 | inr x=>obtain ⟨t,e⟩:=(show ∃ t,u=Value.str x t from r);subst e;exact GW P w x t
theorem y8 {P:Program} {w:World}:∀ {ks:List Key} {us:List Value},au (ks.map kV) us→ItemsAre (be P w) ks us
 | [],_,r=>by rw [List.map_nil] at r;cases r;exact .nil
 | k :: ks,_,r=>by
  rw [List.map_cons] at r
  cases r with
  | cons h t=>exact .cons (y0 h) (y8 t)
abbrev KT (H:Hp):List (List Key × V)→List (List Key × Addr × Value)→Prop:=Paired fun p q=>p.1=q.1∧H q.2.1=some (.tup (p.1.map kV))∧RelV p.2 q.2.2
theorem KT.val {H:Hp} {aq:List (List Key × V)} {xs:List (List Key × Addr × Value)} (r:KT H aq xs) (k:List Key):lB (iy aq k) ((atKey xs k).map (·.2)):=by
 induction r with
 | nil=>exact True.intro
 | @cons p q ps qs h t ih =>
  obtain ⟨h1,_,h2⟩:=h
  by_cases e:p.1=k
  ·have e':q.1=k:=h1.symm.trans e
   have b:atKey (q :: qs) k=some q.2:=by simp [atKey,List.find?_cons,e']
   rw [rh e,b];exact h2
  ·have e':¬ q.1=k:=fun z=>e (h1.trans z)
   have b:atKey (q :: qs) k=atKey qs k:=by simp [atKey,List.find?_cons,e']
   rw [vq e,b];exact ih
theorem KT.Ob {H:Hp} {aq:List (List Key × V)} {xs:List (List Key × Addr × Value)} (r:KT H aq xs) (k:List Key) {y:V} {u:Value} (ry:RelV y u) :
  KT H (aq.map fun kv=>if kv.1=k then (kv.1,y) else kv) (xs.map (putAt k u)):=by
 induction r with
 | nil=>exact .nil
 | @cons p q ps qs h t ih =>
  rw [List.map_cons,List.map_cons]
  refine .cons ?_ ih
  obtain ⟨h1,h2,h3⟩:=h
  unfold putAt
  by_cases e:p.1=k
  ·rw [if_pos e,if_pos (h1.symm.trans e)];exact ⟨h1,h2,ry⟩
  ·rw [if_neg e,if_neg (fun z=>e (h1.trans z))];exact ⟨h1,h2,h3⟩
theorem KT.put {H:Hp} {aq:List (List Key × V)} {xs:List (List Key × Addr × Value)} (r:KT H aq xs) (k:List Key) {b:Addr} {y:V} {u:Value} (hb:H b=some (.tup (k.map kV))) (ry:RelV y u) :
  KT H (putK aq k y) (storedH xs k b u):=by
 have e:(aq.any fun kv=>decide (kv.1=k))=(atKey xs k).isSome:=by
  rw [G6,(r.val k).jA,Option.isSome_map]
 unfold putK storedH
 rw [e]
 by_cases q:(atKey xs k).isSome=true
 ·rw [if_pos q,if_pos q];exact r.Ob k ry
 ·rw [if_neg q,if_neg q];exact Paired.snoc r ⟨rfl,hb,ry⟩
theorem KT.keeps {H H':Hp} {aq:List (List Key × V)} {xs:List (List Key × Addr × Value)} (r:KT H aq xs) (ht:∀ b ys,H b=some (.tup ys)→H' b=some (.tup ys)):KT H' aq xs :=
 Paired.Tz r fun _ _ z=>⟨z.1,ht _ _ z.2.1,z.2.2⟩
section
variable {P:Program} {w:World} {H:Hp} {h:Heap} {a:Addr}
theorem TQ {u:HO} (ok:pq P w H h) (e:Rd H a u):cJ P w H h a u:=e.ok ok
theorem vt {aq:List (Key × V)} (ok:pq P w H h) (e:Rd H a (.dK aq)):aq.length≤sizeLine∧(a == sysModules)=false∧∃ vs,KV aq vs∧h.DictOf (be P w) a vs :=
 show cJ P w H h a (.dK aq) from TQ ok e
theorem Xs {aq:List (Key × V)} (ok:pq P w H h) (e:H a=some (.dK aq)):aq.length≤sizeLine∧(a == sysModules)=false∧∃ vs,KV aq vs∧h.DictOf (be P w) a vs:=vt ok (.inl e)
theorem nk {ks:List Key} (ok:pq P w H h) (e:H a=some (.tup (ks.map kV))):(tupleKind (be P w)).is h ks a:=by
 obtain ⟨_,ai,r,o,h1,h2,n,h3⟩:=(show cJ P w H h a (.tup (ks.map kV)) from ok a _ e)
 exact ⟨o,ai.toArray,n,h1,h2,h3,by simpa using y8 r⟩
theorem vv {aq:List (List Key × V)} (ok:pq P w H h) (e:Rd H a (.dT aq)):aq.length≤sizeLine∧(a == sysModules)=false ∧
  ∃ xs,KT H aq xs∧h.DictOfH (tupleKind (be P w)) a xs:=by
 obtain ⟨z,y,xs,r,o,es,ep,h1,h2,h3,h4,h5⟩:=(show cJ P w H h a (.dT aq) from TQ ok e)
 refine ⟨z,y,xs,r,o,es,ep,h1,h2,h3,h4,fun x hx=>?_,h5⟩
 have all:∀ {l:List (List Key × V)} {m:List (List Key × Addr × Value)},KT H l m→∀ x ∈ m,(tupleKind (be P w)).is h x.1 x.2.1:=by
  intro l m q
  induction q with
  | nil=>intro x hx;exact nomatch hx
  | @cons p q ps qs hq t ih =>
   intro x hx
   rcases List.mem_cons.mp hx with e | hx
   ·subst e
    exact nk ok (by rw [← hq.1];exact hq.2.1)
   ·exact ih x hx
 exact all r x hx
theorem Xt {aq:List (List Key × V)} (ok:pq P w H h) (e:H a=some (.dT aq)):aq.length≤sizeLine∧(a == sysModules)=false ∧
  ∃ xs,KT H aq xs∧h.DictOfH (tupleKind (be P w)) a xs:=vv ok (.inl e)
end
def jw (H:Hp) (a:Addr) (y:V) (r:Option V):Prop :=
 (∃ aq k,Rd H a (.dK aq)∧y=kV k∧r=iy aq k)∨∃ aq k b,Rd H a (.dT aq)∧y=.ref b∧H b=some (.tup (k.map kV))∧r=iy aq k
def z7 (H:Hp) (a:Addr) (y v:V) (H':Hp):Prop :=
 (∃ aq k,H a=some (.dK aq)∧y=kV k∧aq.length < sizeLine∧H'=upd H a (.dK (putK aq k v))) ∨
 ∃ aq k b,H a=some (.dT aq)∧y=.ref b∧H b=some (.tup (k.map kV))∧aq.length < sizeLine∧H'=upd H a (.dT (putK aq k v))
theorem jw.k {H:Hp} {a:Addr} {aq:List (Key × V)} {k:Key} (e:H a=some (.dK aq)):jw H a (kV k) (iy aq k):=.inl ⟨aq,k,.inl e,rfl,rfl⟩
theorem jw.t {H:Hp} {a b:Addr} {aq:List (List Key × V)} {k:List Key} (e:H a=some (.dT aq)) (eb:H b=some (.tup (k.map kV))):jw H a (.ref b) (iy aq k):=.inr ⟨aq,k,b,.inl e,rfl,eb,rfl⟩
theorem z7.k {H:Hp} {a:Addr} {aq:List (Key × V)} {k:Key} {v:V} (e:H a=some (.dK aq)) (hl:aq.length < sizeLine):z7 H a (kV k) v (upd H a (.dK (putK aq k v))):=.inl ⟨aq,k,e,rfl,hl,rfl⟩
theorem z7.t {H:Hp} {a b:Addr} {aq:List (List Key × V)} {k:List Key} {v:V} (e:H a=some (.dT aq)) (eb:H b=some (.tup (k.map kV))) (hl:aq.length < sizeLine) :
  z7 H a (.ref b) v (upd H a (.dT (putK aq k v))):=.inr ⟨aq,k,b,e,rfl,eb,hl,rfl⟩
section
variable {X:Cx} {pins:List (Addr × Obj)} {σ:St} {H:Hp} {s:Shared} {a:Addr} {y v:V} {u r:Value} {o:Option V} {A:Around} {E:Value→Shared→Prop}
theorem Inv.big (I:Inv X pins σ H s):sysModules < s.heap.objs.size:=by
 have h:mainGlobals < s.heap.objs.size:=(I.mod.glob.keeps I.bk).lt
 exact Nat.lt_trans (by decide) h
theorem MW {Q:Value→Shared→Prop} (hu:A.units+1 < cLine) (I:Inv X pins σ H s) (g:jw H a y (some v)) (ry:RelV y u) (h:∀ w' s',Inv X pins σ H s'→RelV v w'→Q w' s') :
  wpAny (model X.prog X.w) A (getItem (.ref a) u) Q E s:=by
 rcases g with ⟨aq,k,e,ey,l⟩ | ⟨aq,k,b,e,ey,eb,l⟩
 ·subst ey
  obtain ⟨z,hd,vs,rel,dd⟩:=vt I.bz e
  obtain ⟨w',hw,rw'⟩:=lB.some_of (v:=v) (o:=valueAt vs k) (by rw [l];exact rel.val k)
  exact wpAny_getItem_of (y0 ry) dd.mapOf hw (h w' _ (I.tok _) rw')
 ·subst ey
  cases (show u=Value.ref b from ry)
  obtain ⟨z,hd,xs,rel,dd⟩:=vv I.bz e
  obtain ⟨w',hw,rw'⟩:=lB.some_of (v:=v) (o:=(atKey xs k).map (·.2)) (by rw [l];exact rel.val k)
  obtain ⟨p,hp,vw⟩:=Option.map_eq_some_iff.mp hw
  refine wpAny_getItem_heap (tupleKind_room_in1 hu) (nk I.bz eb) dd hp ?_
  rw [vw]
  exact h w' _ (I.tok _) rw'
theorem aBp {Q:Value→Shared→Prop} (hu:A.units+1 < cLine) (I:Inv X pins σ H s) (g:jw H a y o) (ry:RelV y u) (h:∀ s',Inv X pins σ H s'→Q (.bool o.isSome) s') :
  wpAny (model X.prog X.w) A (compareOp .In u (.ref a)) Q E s:=by
 rcases g with ⟨aq,k,e,ey,l⟩ | ⟨aq,k,b,e,ey,eb,l⟩
 ·subst ey
  obtain ⟨z,hd,vs,rel,dd⟩:=vt I.bz e
  refine wpAny_in_of (y0 ry) hd dd.mapOf ?_
  rw [← (rel.val k).jA,← l]
  exact h _ (I.tok _)
 ·subst ey
  cases (show u=Value.ref b from ry)
  obtain ⟨z,hd,xs,rel,dd⟩:=vv I.bz e
  refine wpAny_in_heap (tupleKind_room_in1 hu) (nk I.bz eb) hd dd ?_
  have q:=(rel.val k).jA
  rw [Option.isSome_map] at q
  rw [← q,← l]
  exact h _ (I.tok _)
theorem Q3 {Q:Value→Shared→Prop} (hu:A.units+1 < cLine) (I:Inv X pins σ H s) (g:jw H a y o) (ry:RelV y u) (h:∀ s',Inv X pins σ H s'→Q (.bool (!o.isSome)) s') :
  wpAny (model X.prog X.w) A (compareOp .NotIn u (.ref a)) Q E s:=by
 rcases g with ⟨aq,k,e,ey,l⟩ | ⟨aq,k,b,e,ey,eb,l⟩
 ·subst ey
  obtain ⟨z,hd,vs,rel,dd⟩:=vt I.bz e
  refine wpAny_notIn_of (y0 ry) hd dd.mapOf ?_
  rw [← (rel.val k).jA,← l]
  exact h _ (I.tok _)
 ·subst ey
  cases (show u=Value.ref b from ry)
  obtain ⟨z,hd,xs,rel,dd⟩:=vv I.bz e
  refine wpAny_notIn_heap (tupleKind_room_in1 hu) (nk I.bz eb) hd dd ?_
  have q:=(rel.val k).jA
  rw [Option.isSome_map] at q
  rw [← q,← l]
  exact h _ (I.tok _)
theorem LL {h':Heap} {t':Nat} {ob:HO} (I:Inv X pins σ H s) (mu:Wo (H a)) (hs:Heap.SameBut a s.heap h') (he:∃ q,h'.get? a=some q) (new:cJ X.prog X.w (upd H a ob) h' a ob) :
  Inv X pins σ (upd H a ob) { s with heap:=h',toks:=t' } :=
 I.write (x:=a) (e:=a) mu (.inl rfl) (fun b q hb z=>(hs.2 b hb).trans z) he new
theorem Uu {P:Program} {w:World} {H':Hp} {h':Heap} {aq:List (Key × V)} {vs:List (Key × Value)} (z:aq.length≤sizeLine) (hd:(a == sysModules)=false) (rel:KV aq vs) (dd:h'.DictOf (be P w) a vs) :
  cJ P w H' h' a (.dK aq):=⟨z,hd,vs,rel,dd⟩
theorem MX {H':Hp} {Q:Unit→Shared→Prop} (hu:A.units+1 < cLine) (I:Inv X pins σ H s) (g:z7 H a y v H') (ry:RelV y u) (rv:RelV v r) (h:∀ s',Inv X pins σ H' s'→Q () s') :
  wpAny (model X.prog X.w) A (setItem (.ref a) u r) Q E s:=by
 rcases g with ⟨aq,k,e,ey,l,eH⟩ | ⟨aq,k,b,e,ey,eb,l,eH⟩
 ·subst ey eH
  obtain ⟨z,hd,vs,rel,dd⟩:=Xs I.bz e
  have hz:vs.length≤sizeLine:=by rw [← rel.length];exact z
  have hl:(putK aq k v).length≤sizeLine:=by have:=uc aq k v;omega
  refine wpAny_setItem_pairs (hsz:=hz) (y0 ry) dd fun h' Zt hs=>h _ ?_
  have he:∃ q,h'.get? a=some q:=let ⟨q,_,_,hq,_⟩:=Zt;⟨q,hq⟩
  exact LL I (by rw [e];exact True.intro) hs he (Uu hl hd (rel.put k rv) Zt)
 ·subst ey eH
  cases (show u=Value.ref b from ry)
  obtain ⟨z,hd,xs,rel,dd⟩:=Xt I.bz e
  have hz:xs.length≤sizeLine:=by rw [← Paired.length rel];exact z
  have hl:(putK aq k v).length≤sizeLine:=by have:=uc aq k v;omega
  refine wpAny_setItem_heap (hsz:=hz) (tupleKind_room_in1 hu) (nk I.bz eb) dd fun h' Zt hs=>h _ ?_
  obtain ⟨q,es,ep,hq,h2,h3,h4,_,h5⟩:=Zt
  refine LL I (by rw [e];exact True.intro) hs ⟨q,hq⟩ ⟨hl,hd,_,(rel.put k eb rv).keeps fun c ys ec=>?_,q,es,ep,hq,h2,h3,h4,h5⟩
  rw [aD (Wn ec e (fun z=>nomatch z))]
  exact ec
end
section
variable {X:Cx} {pins:List (Addr × Obj)} {σ:St} {H:Hp} {s:Shared} {a:Addr} {aq:List (Key × V)} {k:Key} {u:Value} {A:Around} {E:Value→Shared→Prop}
end
def Uv (i:Expr):Prop:=∀ ov iv,subscripted i false ov iv=operate [ov,iv] (getItem ov iv)
theorem LM {prog:Program} {w:World} {A:Around} {E:Value→Shared→Prop} {s:Shared} {env:Env} {value slice:Expr} {pos:Pos} {T id:String} {Q:Value→Shared→Prop}
  (hl:typeLookup (.type T) "__getitem__"=pure (some (.builtin id))) (hs:Uv slice)
  (h:wpAny (model prog w) A (eval value env) (fun o s₁=>wpAny (model prog w) A (eval slice env) (fun i s₂=>s₂.TypeIs o T∧wpAny (model prog w) A (getItem o i) Q E s₂) E s₁) E s) :
  wpAny (model prog w) A (eval (.Subscript value slice pos) env) Q E s:=by
 refine Subscript_ (wpAny_mono h (fun o s₁ h₁=>wpAny_mono h₁ (fun i s₂ h₂=>?_) fun _ _ x=>x) fun _ _ x=>x)
 obtain ⟨hT,h₂⟩:=h₂
 unfold subscriptTail
 refine wpAny_bind ?_
 rw [getitemInPython_of_ne hT.not_modules]
 refine wpAny_bind (wpAny_specialOf hT hl ?_)
 have fin:wpAny (model prog w) A (subscripted slice false o i) (fun r s₃=>wpAny (model prog w) A (letTemporaryGo value o r >>= fun _=>pure r) Q E s₃) E s₂:=by
  rw [hs o i]
  exact wpAny_operating (wpAny_mono h₂ (fun r s₃ h₃=>wpAny_bind (wpAny_letTemporaryGo (wpAny_pure h₃))) fun _ _ x=>x)
 first
  | exact wpAny_pure (wpAny_bind fin)
  | exact wpAny_bind (wpAny_pure (wpAny_bind fin))
  | exact wpAny_bind fin
theorem G7 {X:Cx} {pins:List (Addr × Obj)} {σ:St} {H:Hp} {s:Shared} {a:Addr} {y:V} {o:Option V} (I:Inv X pins σ H s) (g:jw H a y o):s.TypeIs (.ref a) "dict":=by
 rcases g with ⟨aq,k,e,_,_⟩ | ⟨aq,k,b,e,_,_,_⟩
 ·obtain ⟨_,_,vs,_,dd⟩:=vt I.bz e
  exact dd.typeIs
 ·obtain ⟨_,_,xs,_,dd⟩:=vv I.bz e
  exact dd.typeIs
def Xu (td ty:TE):TE:=fun σ H Q=>td σ H fun x H1=>ty σ H1 fun y H2=>∃ a v,x=.ref a∧jw H2 a y (some v)∧Q v H2
def aBq (ty td:TE):TE:=fun σ H Q=>ty σ H fun y H1=>td σ H1 fun x H2=>∃ a o,x=.ref a∧jw H2 a y o∧Q (.bl o.isSome) H2
def Q4 (ty td:TE):TE:=fun σ H Q=>ty σ H fun y H1=>td σ H1 fun x H2=>∃ a o,x=.ref a∧jw H2 a y o∧Q (.bl (!o.isSome)) H2
def Xv (td ty tv:TE):TS:=fun D σ H=>tv σ H fun v H1=>td σ H1 fun x H2=>ty σ H2 fun y H3=>∃ a H4,x=.ref a∧z7 H3 a y v H4∧D.nx σ H4
section
variable {X:Cx} {o i e value:Expr} {pos pos' ze:Pos} {td ty tv:TE}
theorem LN (hu:X.A.units+1 < cLine) (ho:PE X o td) (hi:PE X i ty) (hs:Uv i):PE X (.Subscript o i pos) (Xu td ty):=by
 intro pins s σ H Q I h
 refine LM PySem.F.slot_dict_getitem.lookup hs (bu (ho pins s σ H _ I h) fun u s1 ⟨x,H1,I1,rx,q1⟩=>bu (hi pins s1 σ H1 _ I1 q1) fun iv s2 ⟨y,H2,I2,ry,a,v,ex,g,q2⟩=>?_)
 subst ex
 obtain rfl:u=Value.ref a:=rx
 exact ⟨G7 I2 g,MW hu I2 g ry fun w' s3 I3 rw'=>⟨v,H2,I3,rw',q2⟩⟩
theorem Uw (hu:X.A.units+1 < cLine) (hi:PE X i ty) (ho:PE X o td):PC X .In i o (aBq ty td):=by
 intro pins s σ H Q I h
 refine bu (hi pins s σ H _ I h) fun iv s1 ⟨y,H1,I1,ry,q1⟩=>bu (ho pins s1 σ H1 _ I1 q1) fun u s2 ⟨x,H2,I2,rx,a,ov,ex,g,q2⟩=>?_
 subst ex
 obtain rfl:u=Value.ref a:=rx
 exact aBp hu I2 g ry fun s3 I3=>⟨.bl ov.isSome,H2,I3,rfl,q2⟩
theorem MY (hu:X.A.units+1 < cLine) (hi:PE X i ty) (ho:PE X o td):PC X .NotIn i o (Q4 ty td):=by
 intro pins s σ H Q I h
 refine bu (hi pins s σ H _ I h) fun iv s1 ⟨y,H1,I1,ry,q1⟩=>bu (ho pins s1 σ H1 _ I1 q1) fun u s2 ⟨x,H2,I2,rx,a,ov,ex,g,q2⟩=>?_
 subst ex
 obtain rfl:u=Value.ref a:=rx
 exact Q3 hu I2 g ry fun s3 I3=>⟨.bl (!ov.isSome),H2,I3,rfl,q2⟩
theorem LO (hu:X.A.units+1 < cLine) (ho:PE X o td) (hi:PE X i ty) (hv:PE X value tv) (hs:swapsWith value (some (.Subscript o i pos')) pos.line X.env=pure false) :
  PS X (.Assign [.Subscript o i pos'] value pos) (Xv td ty tv):=by
 intro pins s σ H D I h
 refine wpAny_Assign_Subscript (bu (hv pins s σ H _ I h) fun r s1 ⟨v,H1,I1,rv,q1⟩=>bu (ho pins s1 σ H1 _ I1 q1) fun u s2 ⟨x,H2,I2,rx,q2⟩=>bu (hi pins s2 σ H2 _ I2 q2) fun iv s3 ⟨y,H3,I3,ry,a,H4,ex,g,q3⟩=>?_) hs
 subst ex
 obtain rfl:u=Value.ref a:=rx
 exact MX hu I3 g ry rv fun s4 I4=>⟨σ,H4,I4,q3⟩
end
theorem Oc {P:Program} {w:World} {H:Hp} (h:Heap) (hb:sysModules < h.objs.size):cJ P w H (h.push { cls:=.type "dict",data:=.dict #[] }) h.objs.size (.dT []) :=
 ⟨Nat.zero_le _,beq_eq_false_iff_ne.mpr (Ne.symm (Nat.ne_of_lt hb)),[],.nil,_,#[],0,Heap.get?_push_size _ rfl,⟨rfl,rfl,rfl⟩,rfl,rfl,List.nodup_nil⟩
def Ux:TE:=fun _ H Q=>∀ p,H p=none→Q (.ref p) (upd H p (.dT []))
section
variable {X:Cx} {pos:Pos}
theorem rk:PE X (.Dict [] [] pos) Ux:=fun pins s σ H Q I h =>
 wpAny_Dict_empty ⟨.ref s.heap.objs.size,_,I.laid (a:=s.heap.objs.size) (o:=.dT []) (t':=s.toks) (fun _ _ q=>Heap.get?_push_of_some _ q) (Nat.le_refl _) (Oc s.heap I.big),rfl,h _ (I.bz.fresh (Nat.le_refl _))⟩
end
structure M1 (X:Cx) (o:Expr) (m:Str) (apos:Pos) (e:Expr) (fF:Pos):Prop where
 base:attributeBase o m X.env (eval o X.env)=eval o X.env
 xm:((backTo fF (starEach [e] X.env)).all (fun x=>!x.1) && (backToKw fF (keywordEach [] X.env)).all (fun x=>x.1.isSome)
  && decide (([e]:List Expr).length+([]:List Keyword).length+(if ([]:List Keyword).isEmpty then 0 else 1) < 30))=true
 line:(apos.endLine == fF.line)=true
 trees:backTo fF (starEach [e] X.env)=[(false,eval e X.env)]
structure M2 (X:Cx) (o:Expr) (m:Str) (apos:Pos) (e f:Expr) (fF:Pos):Prop where
 base:attributeBase o m X.env (eval o X.env)=eval o X.env
 xm:((backTo fF (starEach [e,f] X.env)).all (fun x=>!x.1) && (backToKw fF (keywordEach [] X.env)).all (fun x=>x.1.isSome)
  && decide (([e,f]:List Expr).length+([]:List Keyword).length+(if ([]:List Keyword).isEmpty then 0 else 1) < 30))=true
 line:(apos.endLine == fF.line)=true
 trees:backTo fF (starEach [e,f] X.env)=[(false,eval e X.env),(false,eval f X.env)]
def IsD (H:Hp) (a:Addr):Prop:=(∃ aq,Rd H a (.dK aq))∨∃ aq,Rd H a (.dT aq)
theorem Uy {X:Cx} {pins:List (Addr × Obj)} {σ:St} {H:Hp} {s:Shared} {a:Addr} (I:Inv X pins σ H s) (d:IsD H a) :
  s.TypeIs (.ref a) "dict"∧(∀ b,Value.ref a=.ref b→∃ ob,s.heap.get? b=some ob∧ob.dict=none)∧(a == sysModules)=false:=by
 rcases d with ⟨aq,e⟩ | ⟨aq,e⟩
 ·obtain ⟨_,hd,vs,_,dd⟩:=vt I.bz e
  refine ⟨dd.typeIs,fun b q=>?_,hd⟩
  cases q
  obtain ⟨ob,_,_,h1,h2,_⟩:=dd
  exact ⟨ob,h1,h2.2.1⟩
 ·obtain ⟨_,hd,xs,_,dd⟩:=vv I.bz e
  refine ⟨dd.typeIs,fun b q=>?_,hd⟩
  cases q
  obtain ⟨ob,_,_,h1,h2,_⟩:=dd
  exact ⟨ob,h1,h2.2.1⟩
section
variable {X:Cx} {pins:List (Addr × Obj)} {σ:St} {H:Hp} {s:Shared} {a:Addr} {y d:V} {u r:Value} {o:Option V} {A:Around} {E:Value→Shared→Prop}
theorem Uz {Q:Value→Shared→Prop} (hu:A.units+1 < cLine) (I:Inv X pins σ H s) (g:jw H a y o) (ry:RelV y u) (rd:RelV d r) (h:∀ w' s',Inv X pins σ H s'→RelV (o.getD d) w'→Q w' s') :
  wpAny (model X.prog X.w) A (call (.builtin "dict.get") [.ref a,u,r]) Q E s:=by
 rcases g with ⟨aq,k,e,ey,l⟩ | ⟨aq,k,b,e,ey,eb,l⟩
 ·subst ey
  obtain ⟨z,hd,vs,rel,dd⟩:=vt I.bz e
  refine call_meetsIn PySem.F.slot_dict_get dd.typeIs PySem.F.entry_dict_get (PySem.F.args_dict_get_3 _ _ _) (meets_dict_get_default (be X.prog X.w) a (y0 ry) hd r) ⟨_,dd.mapOf,h _ _ (I.tok _) ?_⟩
  rw [l]
  exact (rel.val k).getD rd
 ·subst ey
  cases (show u=Value.ref b from ry)
  obtain ⟨z,hd,xs,rel,dd⟩:=vv I.bz e
  refine call_meetsIn PySem.F.slot_dict_get dd.typeIs PySem.F.entry_dict_get (PySem.F.args_dict_get_3 _ _ _) (meetsH_dict_get_default (tupleKind (be X.prog X.w)) a b hd r) ⟨tupleKind_room_in1 hu,k,xs,nk I.bz eb,dd,h _ _ (I.tok _) ?_⟩
  rw [l]
  exact (rel.val k).getD rd
end
def U0 (td ty tx:TE):TE:=fun σ H Q=>td σ H fun x H1=>∃ a,x=.ref a∧IsD H1 a∧ty σ H1 fun y H2=>tx σ H2 fun z H3=>∃ o,jw H3 a y o∧Q (o.getD z) H3
section
variable {X:Cx} {o e f:Expr} {apos fF:Pos} {td ty tx:TE}
theorem vx (hu:X.A.units+1 < cLine) (ho:PE X o td) (he:PE X e ty) (hf:PE X f tx) (m:M2 X o "get" apos e f fF):PE X (.Call (.Attribute o "get" apos) [e,f] [] fF) (U0 td ty tx):=by
 intro pins s σ H Q I h
 refine wpAny_Call_method m.base m.xm m.line PySem.F.plainAttrs_dict PySem.F.slot_dict_get PySem.F.type_dict_get (bu (ho pins s σ H _ I h) fun u s1 ⟨x,H1,I1,rx,a,ex,d,q1⟩=>?_)
 subst ex
 obtain rfl:u=Value.ref a:=rx
 obtain ⟨t1,t2,_⟩:=Uy I1 d
 refine ⟨t1,t2,?_⟩
 rw [m.trees]
 refine Calls.callWith_builtin rfl (Calls.evalArgs_plain (Calls.spliced_cons (bu (he pins s1 σ H1 _ I1 q1) fun iv s2 ⟨y,H2,I2,ry,q2⟩ =>
  Calls.spliced_cons (bu (hf pins s2 σ H2 _ I2 q2) fun fv s3 ⟨z,H3,I3,rz,ov,g,q3⟩=>Calls.spliced_nil ?_))))
 exact Uz hu I3 g ry rz fun w' s4 I4 rw'=>⟨_,H3,I4,rw',q3⟩
end
section
variable {X:Cx} {pins:List (Addr × Obj)} {σ:St} {H:Hp} {s:Shared} {a:Addr} {aq:List (Key × V)} {A:Around} {E:Value→Shared→Prop}
end
section
variable {X:Cx} {pins:List (Addr × Obj)} {σ:St} {H:Hp} {s:Shared} {a:Addr} {y:V} {u:Value} {A:Around} {E:Value→Shared→Prop}
end
end L2
namespace Att
open PySem PySem.W PySem.Calls PyProof.Rows
section
variable {prog:Program} {w:World} {A:Around} {E:Value→Shared→Prop} {s:Shared} {K:Frag}
end
end Att
namespace L2
open PySem PySem.Spec PyProof.Rows
end L2
namespace L2
open PySem PySem.Spec PyProof.Rows
end L2
namespace L2
open PySem PySem.Spec PyProof.Rows
section
variable {P:Program} {w:World} {K:PySem.W.Frag} {mg:Str→Option Value} {base:Heap}
end
section
variable {X:Cx}
end
section
variable {κ:Type} [DecidableEq κ]
end
end L2
namespace L2
open PySem PySem.Spec PyProof.Rows
section
variable {X:Cx}
end
section
variable {g:TG} {tt:TT} {te:TE} {D:Addr} {σ:St} {H:Hp} {Q:VK}
end
end L2
namespace L2
open PySem PySem.Spec PyProof.Rows
section
variable {X:Cx}
end
section
variable {g:TG} {tt:TT} {te:TE} {D:Addr} {σ:St} {H:Hp} {Q:VK}
end
section
variable {X:Cx} {o e value:Expr} {f:Str} {pos pos':Pos} {ta tv:TE}
theorem ao (K:PySem.W.Frag) (he:PE X e ta) (hb:attributeBase e f X.env (eval e X.env)=eval e X.env) (hK:X.K=K:=by rfl):PE X (.Attribute e f pos) (JG K ta f):=by subst hK;exact UK he hb
theorem cF (K:PySem.W.Frag) (ha:PE X o ta) (hv:PE X value tv) (hs:swapsWith value (some (.Attribute o f pos')) pos.line X.env=pure false) (hK:X.K=K:=by rfl):PS X (.Assign [.Attribute o f pos'] value pos) (N9 K ta tv f):=by subst hK;exact UL ha hv hs
end
end L2
namespace L2
open PySem PySem.Spec PyProof.Rows
section
variable {X:Cx}
end
structure PEx (X:Cx) (e:Expr) (t:TE):Prop where
 out:PE X e t
structure PAx (X:Cx) (es:List Expr) (t:TA):Prop where
 out:PA X es t
section
variable {X:Cx} {te:TE} {t:TA} {es es1:List Expr}
end
end L2
namespace L2
open PySem PySem.Spec PyProof.Rows
section
variable {prog:Program} {w:World} {A:Around} {E:Value→Shared→Prop} {s:Shared}
end
abbrev eA (h:Heap) (l:Addr):Heap:=h.push { cls:=.type "tuple_iterator",data:=.fields #[.ref l,.int 0 0] }
abbrev eB (h:Heap) (l:Addr):Heap:=(eA h l).push { cls:=.type "enumerate",data:=.fields #[.none,.bool false,.ref h.objs.size,rawInt 1,.none,.none] }
section
variable {prog:Program} {w:World} {A:Around} {E:Value→Shared→Prop} {s:Shared}
end
section
variable {X:Cx}
end
section
variable {K:PySem.W.Frag} {g:TG} {σ:St} {H:Hp}
end
section
variable {X:Cx}
inductive Xw (K:PySem.W.Frag) (H:Hp):V→Value→Prop where
 | bJ:Xw K H .bJ (.type "NoneType")
 | int (i:Int):Xw K H (.int i) (.type "int")
 | bl (b:Bool):Xw K H (.bl b) (.type "bool")
 | tup {a:Addr} {xs:List V}:bw K H a xs→Xw K H (.ref a) (.type "tuple")
 | lst {a:Addr} {xs:List V}:aX K H a xs→Xw K H (.ref a) (.type "list")
def Xx (K:PySem.W.Frag):R2:=fun x y H Q=>∃ a b xs ys,x=.ref a∧y=.ref b∧bw K H a xs∧bw K H b ys ∧
 (∀ (j:Nat) (u v:V),xs[j]?=some u→ys[j]?=some v→xk K H 8 u v)∧Q (.bl (!decide (xs.length=ys.length))) H
theorem Q5 (K:PySem.W.Frag) (hu:X.A.units+16 < cLine) (hK:X.K=K:=by rfl):nR X (compareOp .NotEq) (Xx K):=by
 subst hK
 intro pins s σ H x y v u Q I rx ry h
 obtain ⟨a,b,xs,ys,rfl,rfl,ha,hb,he,q⟩:=h
 cases rx
 cases ry
 obtain ⟨ai,r1,p1,_⟩:=I.tuple ha
 obtain ⟨iP,r2,p2,_⟩:=I.tuple hb
 have l1:=r1.length
 have l2:=r2.length
 refine PySem.EqBoolInt.of_rcne (SeqAt.RcNeAt.tuples (e:=fun _=>true) (show s.heap.IsTuple a ai.toArray from p1) (show s.heap.IsTuple b iP.toArray from p2) (by omega) fun j h1 h2=>?_) ?_
 ·obtain ⟨x,hx,rx⟩:=iQ r1 j h1
  obtain ⟨y,hy,ry⟩:=iQ r2 j h2
  exact LJ I (he j x y hx hy) (A:=X.A.in1) (by show X.A.units+1+8 < cLine;omega) rx ry
 ·rw [all_true,Bool.true_and]
  have e:(ai.toArray.size == iP.toArray.size)=decide (xs.length=ys.length):=by rw [l1,l2,List.size_toArray,List.size_toArray,Bool.eq_iff_iff];simp
  rw [e]
  exact ⟨.bl _,H,I,rfl,q⟩
end
end L2
namespace L2
open PySem PySem.Spec PyProof.Rows
def ent:Option Int→V
 | none=>.bJ
 | some n=>.int n
theorem G8 (e:Option Int):nh (ent e)=true:=by cases e <;> rfl
theorem Q6 (x y:Option Int):MG (ent x) (ent y)=decide (x=y):=by
 cases x <;> cases y
 ·rfl
 ·rfl
 ·rfl
 ·rename_i a b
  show (a == b)=_
  by_cases h:a=b <;> simp [h]
theorem Od:∀ (x y:List (Option Int)),((List.range (min x.length y.length)).all (fun j=>decide ((x[j]?).getD none=(y[j]?).getD none)) && (x.length == y.length))=decide (x=y)
 | x,y=>by
  by_cases h:x=y
  ·subst h;simp
  ·rw [decide_eq_false h]
   by_cases hl:x.length=y.length
   ·rw [Bool.and_eq_false_iff]
    left
    rw [List.all_eq_false]
    apply Classical.byContradiction
    intro hn
    apply h
    apply List.ext_getElem?
    intro j
    by_cases hj:j < x.length
    ·have QN:j < y.length:=by omega
     have:=Classical.byContradiction fun hz=>hn ⟨j,List.mem_range.mpr (by omega),hz⟩
     have e:=of_decide_eq_true this
     simp only [List.getElem?_eq_getElem hj,List.getElem?_eq_getElem QN,Option.getD_some] at e ⊢
     rw [e]
    ·rw [List.getElem?_eq_none (by omega),List.getElem?_eq_none (by omega)]
   ·simp [hl]
section
variable {X:Cx} {pins:List (Addr × Obj)} {σ:St} {H:Hp} {s:Shared}
end
section
variable {X:Cx}
end
end L2
namespace L2
open PySem PySem.Spec PyProof.Rows
structure Std where
 ah:Int
 rs:Int
 se:List (Option Int)
 to:List (Option Int)
deriving DecidableEq
structure il (K:PySem.W.Frag) (H:Hp) (a:Addr) (s:Std):Prop where
 ex:∃ b c,bw K H a [.int s.ah,.int s.rs,.ref b,.ref c]∧bw K H b (s.se.map ent)∧bw K H c (s.to.map ent)
theorem il.same {K:PySem.W.Frag} {H H':Hp} {a:Addr} {s:Std} (h:il K H a s) (e:aI H H'):il K H' a s:=by
 obtain ⟨b,c,h1,h2,h3⟩:=h.ex
 exact ⟨b,c,e.tup h1,e.tup h2,e.tup h3⟩
def gR (h:Heap) (x:List (Option Int)) (a:Addr):Prop:=∃ ai:List Value,au (x.map ent) ai∧h.IsTuple a ai.toArray
def iR (h:Heap) (s:Std) (a:Addr):Prop:=∃ (b c:Addr) (t t':Tok),h.IsTuple a #[.int s.ah t,.int s.rs t',.ref b,.ref c]∧gR h s.se b∧gR h s.to c
def rm:Int:=0xFCA86420
def vQ:Option Int→Int
 | some k=>hashInt k
 | none=>rm
def mD (x:List (Option Int)):Int:=reduceHash (Builtin.Tuple.tupleHashOf (x.map vQ))
def z8 (s:Std):Int:=reduceHash (Builtin.Tuple.tupleHashOf [hashInt s.ah,hashInt s.rs,mD s.se,mD s.to])
theorem LP {h:Heap} {a:Addr} {x y:Array Value} (hx:h.IsTuple a x) (hy:h.IsTuple a y):x=y:=by
 obtain ⟨o,ho,_,n,hd⟩:=hx
 obtain ⟨o',De,_,n',Df⟩:=hy
 rw [ho] at De
 obtain rfl:=Option.some.inj De
 rw [hd] at Df
 injection Df with h1 _
theorem G9:∀ {x y:List (Option Int)} {vs:List Value},au (x.map ent) vs→au (y.map ent) vs→x=y
 | [],[],_,_,_=>rfl
 | [],_ :: _,_,.nil,h=>by cases h
 | _ :: _,[],_,h,.nil=>by cases h
 | a :: x,b :: y,_,.cons r t,.cons r' t'=>by
  rw [G9 t t']
  congr 1
  cases a with
  | none =>
   cases b with
   | none=>rfl
   | some j=>cases (show _=Value.none from r);obtain ⟨_,e⟩:=(show ∃ t,Value.none=Value.int j t from r');cases e
  | some i =>
   obtain ⟨u,rfl⟩:=(show ∃ t,_=Value.int i t from r)
   cases b with
   | none=>have e:=(show Value.int i u=Value.none from r');cases e
   | some j=>obtain ⟨_,e⟩:=(show ∃ t,Value.int i u=Value.int j t from r');cases e;rfl
theorem gR.inj {h:Heap} {a:Addr} {x y:List (Option Int)} (hx:gR h x a) (hy:gR h y a):x=y:=by
 obtain ⟨ai,r,ht⟩:=hx
 obtain ⟨its',r',ht'⟩:=hy
 have e:=LP ht ht'
 have e':ai=its':=by simpa using congrArg Array.toList e
 subst e'
 exact G9 r r'
theorem iR.inj {h:Heap} {a:Addr} {x y:Std} (hx:iR h x a) (hy:iR h y a):x=y:=by
 obtain ⟨b,c,t,t',ht,h1,h2⟩:=hx
 obtain ⟨b',c',u,u',hu,k1,k2⟩:=hy
 have e:=congrArg Array.toList (LP ht hu)
 simp only [List.cons.injEq,and_true,Value.int.injEq,Value.ref.injEq] at e
 obtain ⟨⟨e1,_⟩,⟨e2,_⟩,rfl,rfl⟩:=e
 have e3:=h1.inj k1
 have e4:=h2.inj k2
 cases x;cases y
 simp only at e1 e2 e3 e4
 rw [e1,e2,e3,e4]
theorem vy {h h':Heap} {a d:Addr} {x:Array Value} {o:Obj} {es ep} (hx:h.IsTuple a x) (ho:h.get? d=some o) (hd:o.data=.dict es ep) (hs:Heap.SameBut d h h'):h'.IsTuple a x:=by
 obtain ⟨o',De,hc,n,Df⟩:=hx
 have QO:a≠d:=by
  rintro rfl
  rw [ho] at De
  obtain rfl:=Option.some.inj De
  rw [hd] at Df
  exact nomatch Df
 exact ⟨o',(hs.2 a QO).trans De,hc,n,Df⟩
section
variable {prog:Program} {w:World} {A:Around} {E:Value→Shared→Prop} {s:Shared}
theorem HA {Q:Int→Shared→Prop} (h:Q rm { s with toks:=s.toks+1 }):wpAny (model prog w) A (pyHash .none) Q E s:=by
 have hT:=typeIs_none s
 unfold pyHash
 unfold pyHashByItsType
 have hv:[Value.none].any Value.onHeap=false:=rfl
 refine wpAny_bind ?_
 rw [cRoomFor,if_neg (by rw [hv];exact Bool.false_ne_true)];refine wpAny_pure ?_
 refine wpAny_bind (wpAny_specialOf hT F.slot_NoneType_hash.lookup ?_)
 refine (show wpAny _ _ (if (some (Value.builtin "NoneType.__hash__") == some Value.none)=true then _ else _) Q E s from ?_)
 rw [if_neg (by rw [beq_builtin_none];exact Bool.false_ne_true)]
 refine wpAny_bind (wpAny_specialOf hT F.slot_NoneType_hash.lookup ?_)
 refine (show wpAny _ _ (callSpecialIfBoundUnlessNone? Value.none "__hash__" _ >>= _) Q E s from ?_)
 refine wpAny_bind (wpAny_callSpecialIfBoundUnlessNone?_slot hT F.slot_NoneType_hash (wpAny_call_entry F.slot_NoneType_hash hT F.entry_NoneType_hash ?_ (F.args_NoneType_hash_1 _)))
 refine (show wpAny _ _ (do ret (← mkInt 0xFCA86420)) _ _ s from wpAny_ret_mkInt ?_)
 exact wpAny_pure h
theorem rn {a:Addr} {all:List (Value × Int × Nat)} {Q:Int→Shared→Prop} (hu:A.units < cLine) (ht:s.heap.IsTuple a (all.map (·.1)).toArray)
  (hi:∀ x ∈ all,∀ (tk:Nat) (Q:Int→Shared→Prop),Q x.2.1 { s with toks:=tk+x.2.2 }→wpAny (model prog w) A.in1 (pyHash x.1) Q E { s with toks:=tk })
  (h:Q (reduceHash (Builtin.Tuple.tupleHashOf (all.map (·.2.1)))) { s with toks:=s.toks+((all.map (·.2.2)).sum+1) }):wpAny (model prog w) A (pyHash (.ref a)) Q E s:=by
 have hT:s.TypeIs (.ref a) "tuple":=let ⟨o,ho,hc,_⟩:=ht;⟨o,ho,hc⟩
 obtain ⟨o,ho,_,n,hd⟩:=ht
 unfold pyHash
 unfold pyHashByItsType
 refine wpAny_bind (wpAny_cRoomFor_or (.inr hu) ?_)
 refine wpAny_bind (wpAny_specialOf hT F.slot_tuple_hash.lookup ?_)
 refine (show wpAny _ _ (if (some (Value.builtin "tuple.__hash__") == some Value.none)=true then _ else _) Q E s from ?_)
 rw [if_neg (by rw [beq_builtin_none];exact Bool.false_ne_true)]
 refine wpAny_bind (wpAny_specialOf hT F.slot_tuple_hash.lookup ?_)
 refine (show wpAny _ _ (callSpecialIfBoundUnlessNone? (.ref a) "__hash__" _ >>= _) Q E s from ?_)
 refine wpAny_bind (wpAny_callSpecialIfBoundUnlessNone?_slot hT F.slot_tuple_hash (wpAny_call_entry F.slot_tuple_hash hT F.entry_tuple_hash ?_ (F.args_tuple_hash_1 _)))
 refine (show wpAny _ _ (Builtin.Tuple.tupleItemsOf (.ref a) >>= _) _ _ s from wpAny_bind (wpAny_tupleItemsOf ho hd (wpAny_bind ?_)))
 rw [← Array.forIn_toList]
 refine wpAny_forIn_list _
  (fun rest (b:Array Int) s'=>∃ done left,all=done ++ left∧rest=left.map (·.1)∧b.toList=done.map (·.2.1)∧s'={ s with toks:=s.toks+(done.map (·.2.2)).sum })
  _ ?_ ?_ _ _ ⟨[],all,rfl,by simp,rfl,rfl⟩
 ·rintro x rest b s' ⟨done,left,rfl,hl,hb,rfl⟩
  match left,hl with
  | y :: TR,hl =>
   rw [List.map_cons] at hl
   obtain ⟨rfl,rfl⟩:=List.cons.inj hl
   refine wpAny_bind (hi y (by simp) _ _ ?_)
   first
    | exact wpAny_pure ⟨done ++ [y],TR,by simp,rfl,by simp [hb],by simp [Nat.add_assoc]⟩
    | exact wpAny_bind (wpAny_pure (wpAny_pure ⟨done ++ [y],TR,by simp,rfl,by simp [hb],by simp [Nat.add_assoc]⟩))
 ·rintro b s' ⟨done,left,rfl,hl,hb,rfl⟩
  have:left=[]:=List.map_eq_nil_iff.mp hl.symm
  subst this
  rw [List.append_nil] at h
  refine (show wpAny _ _ (retInt (Builtin.Tuple.tupleHashOf b.toList)) _ _ _ from ?_)
  rw [hb]
  refine wpAny_ret_mkInt ?_
  refine (show wpAny _ _ (if (decide (-(2:Int) ^ 63≤Builtin.Tuple.tupleHashOf (done.map (·.2.1))) && decide (Builtin.Tuple.tupleHashOf (done.map (·.2.1)) < 2 ^ 63))=true then _ else _) Q E _ from ?_)
  unfold reduceHash at h
  by_cases hr:(decide (-(2:Int) ^ 63≤Builtin.Tuple.tupleHashOf (done.map (·.2.1))) && decide (Builtin.Tuple.tupleHashOf (done.map (·.2.1)) < 2 ^ 63))=true
  ·rw [if_pos hr]
   rw [if_pos hr] at h
   exact wpAny_pure (by simpa [Nat.add_assoc] using h)
  ·rw [if_neg hr]
   rw [if_neg hr] at h
   exact wpAny_bind (wpAny_rule (wpAny_pure (by simpa [Nat.add_assoc] using h)))
theorem vz {x:List (Option Int)} {a:Addr} {Q:Int→Shared→Prop} (hu:A.units < cLine) (hx:gR s.heap x a) (h:Q (mD x) { s with toks:=s.toks+(x.length+1) }):wpAny (model prog w) A (pyHash (.ref a)) Q E s:=by
 obtain ⟨ai,r,ht⟩:=hx
 have hl:=r.length
 rw [List.length_map] at hl
 have sums:∀ {x:List (Option Int)} {ai:List Value},au (x.map ent) ai→∃ all:List (Value × Int × Nat),all.map (·.1)=ai∧all.map (·.2.1)=x.map vQ∧(all.map (·.2.2)).sum=x.length∧∀ y ∈ all,y.2.2=1∧((y.1=.none∧y.2.1=rm)∨∃ i t,y.1=.int i t∧y.2.1=hashInt i):=by
  intro x
  induction x with
  | nil=>intro ai r;cases r;exact ⟨[],rfl,rfl,rfl,fun y hy=>by cases hy⟩
  | cons e x ih =>
   intro ai r
   cases r with
   | cons r t =>
    obtain ⟨all,a1,a2,a3,a4⟩:=ih t
    cases e with
    | none =>
     cases (show _=Value.none from r)
     refine ⟨(.none,rm,1) :: all,by simp [a1],by simp [a2,vQ],by simp [a3];omega,fun y hy=>?_⟩
     rcases List.mem_cons.mp hy with rfl | hy
     ·exact ⟨rfl,.inl ⟨rfl,rfl⟩⟩
     ·exact a4 y hy
    | some i =>
     obtain ⟨u,rfl⟩:=(show ∃ t,_=Value.int i t from r)
     refine ⟨(.int i u,hashInt i,1) :: all,by simp [a1],by simp [a2,vQ],by simp [a3];omega,fun y hy=>?_⟩
     rcases List.mem_cons.mp hy with rfl | hy
     ·exact ⟨rfl,.inr ⟨i,u,rfl,rfl⟩⟩
     ·exact a4 y hy
 obtain ⟨all,a1,a2,a3,a4⟩:=sums r
 refine rn (all:=all) hu (by rw [a1];exact ht) (fun y hy tk Q' hq=>?_) (by rw [a2,a3];exact h)
 obtain ⟨e1,e2⟩:=a4 y hy
 rw [e1] at hq
 rcases e2 with ⟨e3,e4⟩ | ⟨i,t,e3,e4⟩
 ·rw [e3];rw [e4] at hq;exact HA hq
 ·rw [e3];rw [e4] at hq;exact wpAny_pyHash_int hq
theorem JT {x:Std} {a:Addr} {Q:Int→Shared→Prop} (hu:A.units+1 < cLine) (hx:iR s.heap x a) (h:Q (z8 x) { s with toks:=s.toks+(x.se.length+x.to.length+5) }):wpAny (model prog w) A (pyHash (.ref a)) Q E s:=by
 obtain ⟨b,c,t,t',ht,h1,h2⟩:=hx
 refine rn (all:=[(.int x.ah t,hashInt x.ah,1),(.int x.rs t',hashInt x.rs,1),(.ref b,mD x.se,x.se.length+1),(.ref c,mD x.to,x.to.length+1)]) (by omega) ht (fun y hy tk Q' hq=>?_) ?_
 ·simp only [List.mem_cons,List.not_mem_nil,or_false] at hy
  rcases hy with rfl | rfl | rfl | rfl
  ·exact wpAny_pyHash_int hq
  ·exact wpAny_pyHash_int hq
  ·exact vz (by show A.units+1 < cLine;exact hu) h1 hq
  ·exact vz (by show A.units+1 < cLine;exact hu) h2 hq
 ·have e:(([(.int x.ah t,hashInt x.ah,1),(.int x.rs t',hashInt x.rs,1),(.ref b,mD x.se,x.se.length+1),(.ref c,mD x.to,x.to.length+1)]:List (Value × Int × Nat)).map (·.2.2)).sum+1=x.se.length+x.to.length+5:=by simp;omega
  rw [e]
  exact h
theorem rowAt {x y:List (Option Int)} {a b:Addr} (hu:A.units < cLine) (hx:gR s.heap x a) (hy:gR s.heap y b):SeqAt.EqAt A s (.ref a) (.ref b) (decide (x=y)):=by
 by_cases MV:a=b
 ·subst MV
  rw [decide_eq_true (hx.inj hy)]
  exact SeqAt.EqAt.same _
 ·obtain ⟨ai,r1,p1⟩:=hx
  obtain ⟨iP,r2,p2⟩:=hy
  have l1:=r1.length
  have l2:=r2.length
  rw [List.length_map] at l1 l2
  refine SeqAt.EqAt.of_refs MV ?_
  have q:=SeqAt.RcAt.tuples (A:=A) (s:=s) (e:=fun j=>decide ((x[j]?).getD none=(y[j]?).getD none)) p1 p2 hu fun j h1 h2=>?_
  ·rw [List.size_toArray,List.size_toArray,← l1,← l2,Od] at q
   exact q
  ·obtain ⟨u,hx,rx⟩:=iQ r1 j h1
   obtain ⟨v,hy,ry⟩:=iQ r2 j h2
   rw [List.getElem?_map] at hx hy
   cases ex:x[j]? with
   | none=>rw [ex] at hx;cases hx
   | some eu =>
    cases ey:y[j]? with
    | none=>rw [ey] at hy;cases hy
    | some ev =>
     rw [ex] at hx
     rw [ey] at hy
     obtain rfl:ent eu=u:=Option.some.inj hx
     obtain rfl:ent ev=v:=Option.some.inj hy
     have:=zk (A:=A.in1) (s:=s) rx ry (G8 eu) (G8 ev)
     rw [Q6] at this
     exact this
theorem Xy {x y:Std} {a b:Addr} (hu:A.units+1 < cLine) (hx:iR s.heap x a) (hy:iR s.heap y b):SeqAt.EqAt A s (.ref a) (.ref b) (decide (x=y)):=by
 by_cases MV:a=b
 ·subst MV
  rw [decide_eq_true (hx.inj hy)]
  exact SeqAt.EqAt.same _
 ·obtain ⟨b1,c1,t1,u1,p1,g1,g2⟩:=hx
  obtain ⟨b2,c2,t2,u2,p2,k1,k2⟩:=hy
  refine SeqAt.EqAt.of_refs MV ?_
  have q:=SeqAt.RcAt.tuples (A:=A) (s:=s) (e:=fun j=>if j=0 then (x.ah == y.ah) else if j=1 then (x.rs == y.rs) else if j=2 then decide (x.se=y.se) else decide (x.to=y.to)) p1 p2 (by omega) fun j h1 h2=>?_
  ·have e:((List.range (min 4 4)).all (fun j=>if j=0 then (x.ah == y.ah) else if j=1 then (x.rs == y.rs) else if j=2 then decide (x.se=y.se) else decide (x.to=y.to)) && ((4:Nat) == 4))=decide (x=y):=by
    have e4:List.range (min 4 4)=[0,1,2,3]:=rfl
    rw [e4]
    cases x;cases y
    rw [Bool.eq_iff_iff]
    simp
   exact e ▸ q
  ·match j,h1,h2 with
   | 0,_,_=>exact SeqAt.EqAt.int_int _ _ _ _
   | 1,_,_=>exact SeqAt.EqAt.int_int _ _ _ _
   | 2,_,_=>exact rowAt (by show A.units+1 < cLine;exact hu) g1 k1
   | 3,_,_=>exact rowAt (by show A.units+1 < cLine;exact hu) g2 k2
   | j+4,h1,_=>exact absurd h1 (by show ¬ (j+4 < 4);omega)
theorem ud (n:Nat) {a:Addr} {items:Array Value} {Q:Bool→Shared→Prop} (ht:s.heap.IsTuple a items) (hi:∀ v ∈ items.toList,∀ Q:Bool→Shared→Prop,Q true s→wpAny (model prog w) A (eqIsQuiet n v) Q E s) (h:Q true s):wpAny (model prog w) A (eqIsQuiet (n+1) (.ref a)) Q E s:=by
 have hT:s.TypeIs (.ref a) "tuple":=let ⟨o,ho,hc,_⟩:=ht;⟨o,ho,hc⟩
 obtain ⟨o,ho,_,m,hd⟩:=ht
 unfold eqIsQuiet
 refine wpAny_bind (wpAny_specialOf hT F.slot_tuple_eq.lookup ?_)
 refine (show wpAny _ _ (isInstance (.ref a) (.type "tuple") >>= _) _ _ s from wpAny_bind (wpAny_isInstance hT isSubtype_tuple_tuple ?_))
 simp only [Bool.not_true,Bool.false_eq_true,if_false]
 refine wpAny_bind (wpAny_seqItems ho hd (wpAny_bind ?_))
 refine (show wpAny _ _ (forIn items _ _) _ _ s from ?_)
 rw [← Array.forIn_toList]
 refine wpAny_forIn_list _ (fun rest r s'=>r.1=none∧s'=s∧∀ v ∈ rest,v ∈ items.toList) _ ?_ ?_ _ _ ⟨rfl,rfl,fun v hv=>hv⟩
 ·rintro v rest r s' ⟨hr,rfl,JN⟩
  refine wpAny_bind (hi v (JN v List.mem_cons_self) _ ?_)
  simp only [Bool.not_true,Bool.false_eq_true,if_false]
  exact wpAny_pure ⟨rfl,rfl,fun u hu'=>JN u (List.mem_cons_of_mem _ hu')⟩
 ·rintro ⟨r1,r2⟩ s' ⟨hr,rfl,_⟩
  simp only at hr
  subst hr
  exact wpAny_pure h
theorem y9 (n:Nat) {x:List (Option Int)} {a:Addr} {Q:Bool→Shared→Prop} (hx:gR s.heap x a) (h:Q true s):wpAny (model prog w) A (eqIsQuiet (n+1) (.ref a)) Q E s:=by
 obtain ⟨ai,r,ht⟩:=hx
 refine ud n ht (fun v hv Q' hq=>?_) h
 have hb:carriedByValue v=true:=by
  have W8:v ∈ ai:=by simpa using hv
  clear hv
  have all:∀ {x:List (Option Int)} {ai:List Value},au (x.map ent) ai→∀ v ∈ ai,carriedByValue v=true:=by
   intro x
   induction x with
   | nil=>intro ai r v hv;cases r;cases hv
   | cons e x ih =>
    intro ai r v hv
    cases r with
    | cons r t =>
     rcases List.mem_cons.mp hv with rfl | hv
     ·cases e with
      | none=>cases (show v=Value.none from r);rfl
      | some i=>obtain ⟨u,rfl⟩:=(show ∃ t,v=Value.int i t from r);rfl
     ·exact ih t v hv
  exact all r v W8
 rw [eqIsQuiet_byValue _ hb]
 exact wpAny_pure hq
theorem Ma {x:Std} {a:Addr} {Q:Bool→Shared→Prop} (hx:iR s.heap x a) (h:Q true s):wpAny (model prog w) A (eqIsQuiet 8 (.ref a)) Q E s:=by
 obtain ⟨b,c,t,t',ht,h1,h2⟩:=hx
 refine ud 7 ht (fun v hv Q' hq=>?_) h
 simp only [List.mem_cons,List.not_mem_nil,or_false] at hv
 rcases hv with rfl | rfl | rfl | rfl
 ·rw [eqIsQuiet_byValue _ rfl];exact wpAny_pure hq
 ·rw [eqIsQuiet_byValue _ rfl];exact wpAny_pure hq
 ·exact y9 6 h1 hq
 ·exact y9 6 h2 hq
end
def LQ (prog:Program) (w:World):HeapKind prog w Std where
 is:=iR
 hash:=z8
 draws:=fun x=>x.se.length+x.to.length+5
 room:=fun A=>A.units+1 < cLine
 inj:=fun hx hy=>hx.inj hy
 keeps:=fun {h h' k a d o es ep} hx ho hd hs=>by
  obtain ⟨b,c,t,t',ht,⟨i1,r1,p1⟩,⟨i2,r2,p2⟩⟩:=hx
  exact ⟨b,c,t,t',vy ht ho hd hs,⟨i1,r1,vy p1 ho hd hs⟩,⟨i2,r2,vy p2 ho hd hs⟩⟩
 pyHash:=fun hu hk h=>JT hu hk h
 eqBool:=fun hu hx hy h=>Xy hu hx hy _ _ _ _ h
 quiet:=fun hk h=>Ma hk h
end L2
namespace L2
open PySem PySem.Spec PyProof.Rows
abbrev SX:=List (Std × Addr × V)
def Oe (q:Std × Addr × Value):DictEntry:=⟨z8 q.1,.ref q.2.1,q.2.2⟩
abbrev P3:SX→List (Std × Addr × Value)→Prop:=Paired fun p q=>p.1=q.1∧p.2.1=q.2.1∧RelV p.2.2 q.2.2
def DSφ (a:Addr) (xs:SX) (h:Heap):Prop:=xs.length≤sizeLine∧(a == sysModules)=false∧(xs.map (·.1)).Nodup∧∃ vs:List (Std × Addr × Value),P3 xs vs∧∃ o es ep,h.get? a=some o∧o.ExactDict∧o.data=.dict es ep∧es.toList=vs.map Oe
def DS (a:Addr) (xs:SX):HO:=.ext (DSφ a xs)
def HB (xs:SX) (k:Std):Option V:=(xs.find? fun x=>decide (x.1=k)).map (·.2.2)
def Mb (xs:SX) (k:Std) (b:Addr) (v:V):SX:=if (HB xs k).isSome then xs.map (fun x=>if x.1=k then (x.1,x.2.1,v) else x) else xs ++ [(k,b,v)]
theorem P3.val {xs:SX} {vs:List (Std × Addr × Value)} (r:P3 xs vs) (k:Std):lB (HB xs k) ((atKey vs k).map (·.2)):=by
 induction r with
 | nil=>exact True.intro
 | @cons p q ps qs h t ih =>
  obtain ⟨h1,_,h2⟩:=h
  by_cases e:p.1=k
  ·have e':q.1=k:=h1.symm.trans e
   have b:atKey (q :: qs) k=some q.2:=by simp [atKey,List.find?_cons,e']
   have b':HB (p :: ps) k=some p.2.2:=by simp [HB,List.find?_cons,e]
   rw [b',b];exact h2
  ·have e':¬ q.1=k:=fun z=>e (h1.trans z)
   have b:atKey (q :: qs) k=atKey qs k:=by simp [atKey,List.find?_cons,e']
   have b':HB (p :: ps) k=HB ps k:=by simp [HB,List.find?_cons,e]
   rw [b',b];exact ih
theorem P3.Ob {xs:SX} {vs:List (Std × Addr × Value)} (r:P3 xs vs) (k:Std) {y:V} {u:Value} (ry:RelV y u) :
  P3 (xs.map fun x=>if x.1=k then (x.1,x.2.1,y) else x) (vs.map (putAt k u)):=by
 induction r with
 | nil=>exact .nil
 | @cons p q ps qs h t ih =>
  rw [List.map_cons,List.map_cons]
  refine .cons ?_ ih
  obtain ⟨h1,h2,h3⟩:=h
  unfold putAt
  by_cases e:p.1=k
  ·rw [if_pos e,if_pos (h1.symm.trans e)];exact ⟨h1,h2,ry⟩
  ·rw [if_neg e,if_neg (fun z=>e (h1.trans z))];exact ⟨h1,h2,h3⟩
theorem P3.put {xs:SX} {vs:List (Std × Addr × Value)} (r:P3 xs vs) (k:Std) (b:Addr) {y:V} {u:Value} (ry:RelV y u):P3 (Mb xs k b y) (storedH vs k b u):=by
 have e:(HB xs k).isSome=(atKey vs k).isSome:=by rw [(r.val k).jA,Option.isSome_map]
 unfold Mb storedH
 rw [e]
 by_cases q:(atKey vs k).isSome=true
 ·rw [if_pos q,if_pos q];exact r.Ob k ry
 ·rw [if_neg q,if_neg q];exact Paired.snoc r ⟨rfl,rfl,ry⟩
theorem P3.keys {xs:SX} {vs:List (Std × Addr × Value)} (r:P3 xs vs):xs.map (·.1)=vs.map (·.1):=by
 induction r with
 | nil=>rfl
 | cons h t ih=>rw [List.map_cons,List.map_cons,ih,h.1]
structure SD (K:PySem.W.Frag) (H:Hp) (a:Addr) (xs:SX):Prop where
 at_:H a=some (DS a xs)
 keys:∀ p ∈ xs,il K H p.2.1 p.1
section
variable {X:Cx} {pins:List (Addr × Obj)} {σ:St} {H:Hp} {s:Shared} {a:Addr} {xs:SX} {A:Around} {E:Value→Shared→Prop}
theorem TU (I:Inv X pins σ H s) {b:Addr} {x:List (Option Int)} (h:bw X.K H b (x.map ent)):gR s.heap x b:=by
 obtain ⟨ai,r,ht,_⟩:=I.tuple h
 exact ⟨ai,r,ht⟩
theorem Of (I:Inv X pins σ H s) {b:Addr} {k:Std} (h:il X.K H b k):iR s.heap k b:=by
 obtain ⟨p,q,h1,h2,h3⟩:=h.ex
 obtain ⟨ai,r,ht,_⟩:=I.tuple h1
 cases r with
 | cons r1 r =>
  cases r with
  | cons r2 r =>
   cases r with
   | cons r3 r =>
    cases r with
    | cons r4 r =>
     cases r
     obtain ⟨t,rfl⟩:=r1
     obtain ⟨t',rfl⟩:=r2
     cases r3
     cases r4
     exact ⟨p,q,t,t',ht,TU I h2,TU I h3⟩
theorem il.inj (I:Inv X pins σ H s) {b:Addr} {k k':Std} (h:il X.K H b k) (h':il X.K H b k'):k=k':=(Of I h).inj (Of I h')
theorem SD.raw (I:Inv X pins σ H s) (d:H a=some (DS a xs)):DSφ a xs s.heap:=(I.bz a _ d).1
theorem SD.dict (I:Inv X pins σ H s) (d:SD X.K H a xs):xs.length≤sizeLine∧(a == sysModules)=false∧(xs.map (·.1)).Nodup∧∃ vs,P3 xs vs∧s.heap.DictOfH (LQ X.prog X.w) a vs:=by
 obtain ⟨z,hd,hn,vs,r,o,es,ep,h1,h2,h3,h4⟩:=SD.raw I d.at_
 refine ⟨z,hd,hn,vs,r,o,es,ep,h1,h2,h3,h4,?_,by rw [← r.keys];exact hn⟩
 have all:∀ {l:SX} {m:List (Std × Addr × Value)},P3 l m→(∀ p ∈ l,il X.K H p.2.1 p.1)→∀ x ∈ m,(LQ X.prog X.w).is s.heap x.1 x.2.1:=by
  intro l m q
  induction q with
  | nil=>intro _ x hx;exact nomatch hx
  | @cons p q ps qs hq t ih =>
   intro hl x hx
   rcases List.mem_cons.mp hx with e | hx
   ·subst e
    rw [← hq.1,← hq.2.1]
    exact Of I (hl p List.mem_cons_self)
   ·exact ih (fun p hp=>hl p (List.mem_cons_of_mem _ hp)) x hx
 exact all r d.keys
end
section
variable {X:Cx}
variable {o i value:Expr} {pos pos':Pos} {td ty tv:TE}
end
end L2
namespace L2
open PySem PySem.Spec PyProof.Rows
def jN (d:Addr) (es:Array DictEntry) (ep:Nat) (h:Heap):Prop:=∃ o,h.get? d=some o∧o.ExactDict∧o.data=.dict es ep
theorem jN.typeIs {s:Shared} {d:Addr} {es:Array DictEntry} {ep:Nat} (x:jN d es ep s.heap):s.TypeIs (.ref d) "dict":=let ⟨o,ho,hc,_⟩:=x;⟨o,ho,hc.1⟩
theorem jN.lt {h:Heap} {d:Addr} {es:Array DictEntry} {ep:Nat} (x:jN d es ep h):d < h.objs.size:=let ⟨_,ho,_⟩:=x;Heap.lt_size ho
theorem jN.at_ {h h':Heap} {d:Addr} {es:Array DictEntry} {ep:Nat} (x:jN d es ep h) (e:∀ o,h.get? d=some o→h'.get? d=some o):jN d es ep h':=let ⟨o,ho,r⟩:=x;⟨o,e _ ho,r⟩
section
variable {prog:Program} {w:World} {A:Around} {E:Value→Shared→Prop} {s:Shared} {d:Addr} {es:Array DictEntry} {ep:Nat}
theorem Og {Q:Value→Shared→Prop} (hd:(d == sysModules)=false) (x:jN d es ep s.heap)
  (hQ:Q (.ref s.heap.objs.size) { s with heap:=s.heap.push { cls:=.type "dict_keyiterator",data:=.fields #[.ref d,.int 0 0,.int es.size 0,.int ep 0] } }) :
  wpAny (model prog w) A (pyIter (.ref d)) Q E s:=by
 have hT:=x.typeIs
 obtain ⟨o,ho,hc,Mc⟩:=x
 refine wpAny_pyIter_slot hT F.slot_dict_iter (wpAny_call_entry F.slot_dict_iter hT F.entry_dict_iter ?_ (F.args_dict_iter_1 _))
 unfold Builtin.«dict.__iter__»
 refine wpAny_bind ?_
 unfold Builtin.Dict.dictSlotNone
 refine wpAny_bind (wpAny_notOrdered_dict hT ?_)
 refine (show wpAny _ _ (pure (Value.ref d)) _ _ s from wpAny_pure ?_)
 refine (show wpAny _ _ (Builtin.Dict.showsAll d >>= _) _ _ s from ?_)
 unfold Builtin.Dict.showsAll
 rw [if_neg (by rw [hd];exact Bool.false_ne_true)]
 refine wpAny_bind (wpAny_pure (wpAny_bind (wpAny_dictEntries ho Mc (wpAny_bind (wpAny_dictEpoch ho Mc ?_)))))
 refine wpAny_bind (wpAny_newObj_type (wpAny_pure ⟨_,rfl,"dict_keyiterator",_,⟨_,Heap.get?_push_size _ rfl,rfl⟩,F.slot_dict_keyiterator_next.lookup,?_⟩))
 simpa [rawInt] using hQ
theorem Oh {it:Addr} {i:Nat} {Q:Option Value→Shared→Prop} (hit:s.heap.IsKeyIter it d i es.size ep) (x:jN d es ep s.heap) (fE:i < es.size)
  (hQ:∀ h',h'.IsKeyIter it d (i+1) es.size ep→Heap.SameBut it s.heap h'→Q (some es[i].key) { s with heap:=h' }):wpAny (model prog w) A (pyNext (.ref it)) Q E s:=by
 obtain ⟨o,ho,hc,hd⟩:=id hit
 obtain ⟨od,U1,yl,Xz⟩:=x
 unfold pyNext
 refine wpAny_bind (wpAny_attempt (wpAny_callSpecial?_slot (name:=Str.ofString "__next__") hit.typeIs F.slot_dict_keyiterator_next
  (wpAny_call_entry F.slot_dict_keyiterator_next hit.typeIs F.entry_dict_keyiterator_next ?_ (F.args_dict_keyiterator_next_1 _))))
 refine wpAny_bind (wpAny_pure ?_)
 refine wpAny_bind ?_
 refine wpAny_bind ?_
 first | refine wpAny_bind (wpAny_typeNameOfWhole_keyiter hit.typeIs (wpAny_pure ?_)) | refine wpAny_bind (wpAny_typeNameOf_keyiter hit.typeIs (wpAny_pure ?_))
 refine wpAny_bind (wpAny_fieldsOf ho hd ?_)
 have U2:Builtin.Dict_items.ownsTuple "dict_keyiterator"=false:=by decide
 simp only [U2,Bool.false_eq_true,if_false]
 refine (show wpAny _ _ (if (Value.ref d == Value.none)=true then _ else _) _ _ s from ?_)
 rw [if_neg (show ¬ ((Value.ref d == Value.none)=true) from Bool.false_ne_true)]
 refine wpAny_bind (wpAny_pure (wpAny_bind (wpAny_dictEntries U1 Xz ?_)))
 rw [if_neg (by simp)]
 refine wpAny_bind (wpAny_pure (wpAny_bind (wpAny_dictEpoch U1 Xz ?_)))
 rw [if_neg (by simp)]
 refine wpAny_pure ?_
 simp only [show ¬ ((i:Int) < 0) from by omega,if_false,Int.toNat_natCast,Array.getElem?_eq_getElem fE]
 refine wpAny_bind ?_
 first | refine wpAny_bind (wpAny_typeNameOfWhole_keyiter hit.typeIs (wpAny_pure ?_)) | refine wpAny_bind (wpAny_typeNameOf_keyiter hit.typeIs (wpAny_pure ?_))
 refine wpAny_bind (wpAny_isOneOf_keyiter hit.typeIs ?_)
 refine (show wpAny _ _ (setField (.ref it) 1 (rawInt ((i:Int)+1)) >>= _) _ _ s from ?_)
 refine wpAny_bind (wpAny_setField ho hd (by simp) ?_)
 have X0:(s.heap.update it (Obj.mapFields (·.setIfInBounds 1 (rawInt ((i:Int)+1))))).IsKeyIter it d (i+1) es.size ep :=
  ⟨_,Heap.get?_update_self _ ho (Obj.isFreed_of_fields (Obj.data_mapFields hd _)),(Obj.cls_mapFields ..).trans hc,by rw [Obj.data_mapFields hd];simp [rawInt]⟩
 refine wpAny_bind (wpAny_holding ?_)
 refine wpAny_bind (wpAny_isOneOf_keyiter (s:={ s with heap:=s.heap.update it (Obj.mapFields (·.setIfInBounds 1 (rawInt ((i:Int)+1)))) }) X0.typeIs ?_)
 refine (show wpAny _ _ (pure es[i].key) _ _ _ from ?_)
 exact wpAny_pure (wpAny_pure ⟨_,rfl,wpAny_pure (hQ _ X0 (Heap.SameBut.update ..))⟩)
end
section
variable {prog:Program} {w:World} {A:Around} {E:Value→Shared→Prop} {s:Shared} {d:Addr} {es:Array DictEntry} {ep:Nat}
theorem Q7 {it:Addr} {i:Nat} {Q:Option Value→Shared→Prop} (hh:A.handled=none) (hit:s.heap.IsKeyIter it d i es.size ep) (x:jN d es ep s.heap) (hge:es.size≤i)
  (hQ:∀ h',Heap.ExtBut it s.heap h'→Q none { s with heap:=h' }):wpAny (model prog w) A (pyNext (.ref it)) Q E s:=by
 obtain ⟨o,ho,hc,hd⟩:=id hit
 obtain ⟨od,U1,yl,Xz⟩:=x
 unfold pyNext
 refine wpAny_bind (wpAny_attempt (wpAny_callSpecial?_slot (name:=Str.ofString "__next__") hit.typeIs F.slot_dict_keyiterator_next
  (wpAny_call_entry F.slot_dict_keyiterator_next hit.typeIs F.entry_dict_keyiterator_next ?_ (F.args_dict_keyiterator_next_1 _))))
 refine wpAny_bind (wpAny_pure ?_)
 refine wpAny_bind ?_
 refine wpAny_bind ?_
 first | refine wpAny_bind (wpAny_typeNameOfWhole_keyiter hit.typeIs (wpAny_pure ?_)) | refine wpAny_bind (wpAny_typeNameOf_keyiter hit.typeIs (wpAny_pure ?_))
 refine wpAny_bind (wpAny_fieldsOf ho hd ?_)
 have U2:Builtin.Dict_items.ownsTuple "dict_keyiterator"=false:=by decide
 simp only [U2,Bool.false_eq_true,if_false]
 refine (show wpAny _ _ (if (Value.ref d == Value.none)=true then _ else _) _ _ s from ?_)
 rw [if_neg (show ¬ ((Value.ref d == Value.none)=true) from Bool.false_ne_true)]
 refine wpAny_bind (wpAny_pure (wpAny_bind (wpAny_dictEntries U1 Xz ?_)))
 rw [if_neg (by simp)]
 refine wpAny_bind (wpAny_pure (wpAny_bind (wpAny_dictEpoch U1 Xz ?_)))
 rw [if_neg (by simp)]
 refine wpAny_pure ?_
 simp only [show ¬ ((i:Int) < 0) from by omega,if_false,Int.toNat_natCast,Array.getElem?_eq_none hge]
 refine wpAny_bind ?_
 first | refine wpAny_bind (wpAny_typeNameOfWhole_keyiter hit.typeIs (wpAny_pure ?_)) | refine wpAny_bind (wpAny_typeNameOf_keyiter hit.typeIs (wpAny_pure ?_))
 refine (show wpAny _ _ (setField (.ref it) 0 .none >>= _) _ _ s from ?_)
 refine wpAny_bind (wpAny_setField ho hd (by simp) ?_)
 refine (show wpAny _ _ (newExc (.type "StopIteration") [] >>= _) _ _ _ from ?_)
 refine wpAny_bind ?_
 simp only [newExc,newTuple]
 refine wpAny_bind (wpAny_newObj_type ?_ (by size_fits))
 refine wpAny_bind (m:=firstArgMember _ _) (wpAny_of_eq (a:=Value.none) (by first | rfl | (simp only [firstArgMember];rfl)) ?_)
 refine wpAny_newObj_type ?_ (by size_fits)
 simp only [raiseNew]
 refine wpAny_bind (wpAny_handled ?_)
 rw [show A.in1.handled=none from hh]
 refine wpAny_bind (wpAny_pure (wpAny_throw ?_))
 refine wpAny_bind (wpAny_isInstance (T:="StopIteration") (b:=true) ⟨_,Heap.get?_push_size _ rfl,rfl⟩ isSubtype_stop ?_)
 exact wpAny_pure (hQ _ (((Heap.SameBut.update ..).extBut.push _).push _))
end
section
variable {X:Cx}
end
end L2
namespace L2
open PySem PySem.Spec PyProof.Rows
theorem gR.at_ {h h':Heap} {x:List (Option Int)} {a:Addr} (r:gR h x a) (k:∀ b o,h.get? b=some o→h'.get? b=some o):gR h' x a:=by
 obtain ⟨ai,r,o,ho,z⟩:=r
 exact ⟨ai,r,o,k _ _ ho,z⟩
theorem iR.at_ {h h':Heap} {x:Std} {a:Addr} (r:iR h x a) (k:∀ b o,h.get? b=some o→h'.get? b=some o):iR h' x a:=by
 obtain ⟨b,c,t,t',⟨o,ho,z⟩,h1,h2⟩:=r
 exact ⟨b,c,t,t',⟨o,k _ _ ho,z⟩,h1.at_ k,h2.at_ k⟩
abbrev RQ:=Addr × Std × Addr × Value
section
variable {prog:Program} {w:World} {A:Around} {h0:Heap} {d it l:Addr} {L:List RQ}
end
section
variable {X:Cx} {pins:List (Addr × Obj)} {σ:St} {H:Hp} {s:Shared}
end
end L2
namespace L2
open PySem PySem.Spec PyProof.Rows
theorem SD.same {K:PySem.W.Frag} {H H':Hp} {a:Addr} {xs:SX} (h:SD K H a xs) (e:aI H H'):SD K H' a xs:=⟨e _ _ h.at_,fun p hp=>(h.keys p hp).same e⟩
theorem z9 {K:PySem.W.Frag} {H:Hp} {l a:Addr} {o' o:HO} {xs:List V} (hl:H l=some o') (hn:∀ ys,o'≠.tup ys) (hf:∀ u ys,o'≠.Ir u (.tup ys)) (h:bw K H a xs):bw K (upd H l o) a xs:=by
 rcases h with (h | ⟨u,h⟩) | h
 ·exact .inl (.inl (by rw [aD (fun z=>by rw [z,hl] at h;exact hn _ (Option.some.inj h))];exact h))
 ·exact .inl (.inr ⟨u,by rw [aD (fun z=>by rw [z,hl] at h;exact hf _ _ (Option.some.inj h))];exact h⟩)
 ·exact .inr h
theorem il.aBr {K:PySem.W.Frag} {H:Hp} {l a:Addr} {ys:SX} {o:HO} {s:Std} (h:il K H a s) (hl:H l=some (DS l ys)):il K (upd H l o) a s:=by
 obtain ⟨b,c,h1,h2,h3⟩:=h.ex
 have n1:∀ zs,DS l ys≠.tup zs:=fun _ e=>nomatch e
 have n2:∀ u zs,DS l ys≠.Ir u (.tup zs):=fun _ _ e=>nomatch e
 exact ⟨b,c,z9 hl n1 n2 h1,z9 hl n1 n2 h2,z9 hl n1 n2 h3⟩
theorem xn {K:PySem.W.Frag} {H:Hp} {xs:SX} {k:Std} {b:Addr} {v:V} (h:∀ p ∈ xs,il K H p.2.1 p.1) (hb:il K H b k):∀ p ∈ Mb xs k b v,il K H p.2.1 p.1:=by
 intro p hp
 unfold Mb at hp
 split at hp
 ·rw [List.mem_map] at hp
  obtain ⟨q,hq,rfl⟩:=hp
  split
  ·exact h q hq
  ·exact h q hq
 ·rcases List.mem_append.mp hp with hp | hp
  ·exact h p hp
  ·rw [List.mem_singleton.mp hp];exact hb
theorem SD.put {K:PySem.W.Frag} {H:Hp} {a b:Addr} {xs:SX} {k:Std} {v:V} (h:SD K H a xs) (hb:il K H b k):SD K (upd H a (DS a (Mb xs k b v))) a (Mb xs k b v) :=
 ⟨aB,fun p hp=>(xn h.keys hb p hp).aBr h.at_⟩
section
variable {X:Cx} {pins:List (Addr × Obj)} {σ:St} {H:Hp} {s:Shared}
end
section
variable {X:Cx}
end
end L2
namespace L2
open PySem PySem.Spec PyProof.Rows
end L2
namespace L2
open PySem PySem.Spec PyProof.Rows
def X1 (K:PySem.W.Frag):R2:=fun x y H Q=>rNe x y H Q∨Xx K x y H Q
theorem JU {X:Cx} (K:PySem.W.Frag) (hu:X.A.units+16 < cLine) (hK:X.K=K:=by rfl):nR X (compareOp .NotEq) (X1 K):=by
 intro pins s σ H x y v u Q I rx ry h
 rcases h with h | h
 ·exact Gg pins s σ H x y v u Q I rx ry h
 ·exact Q5 K hu hK pins s σ H x y v u Q I rx ry h
end L2
namespace L2
open PySem PySem.Spec PyProof.Rows
abbrev XT:=List (List Key × Addr × Value)
structure HC (P:Program) (w:World) (H:Hp) (d:Addr) (aq:List (List Key × V)) (u:HO) (bs:Nat→Addr):Prop where
 z:aq.length≤sizeLine
 sm:(d == sysModules)=false
 ks:∀ i k v,aq[i]?=some (k,v)→H (bs i)=some (.tup (k.map kV))
 ex:∃ (xs:XT) (es:Array DictEntry) (ep:Nat),Paired (fun (p:List Key × V) (q:List Key × Addr × Value)=>p.1=q.1∧H q.2.1=some (.tup (p.1.map kV))∧RelV p.2 q.2.2) aq xs ∧
  es.toList=xs.map (entryOfKey (tupleKind (be P w)))∧(xs.map (·.1)).Nodup∧(∀ i x,xs[i]?=some x→bs i=x.2.1)∧u=.ext (jN d es ep)
def X2 (d:Addr) (u:HO) (n:Nat) (bs:Nat→Addr):It where
 go:=fun i H=>H d=some u∧i < n
 N3:=fun i H x H'=>H'=H∧x=.ref (bs i)
 stop:=fun i H=>H d=some u∧n≤i
theorem JV {P:Program} {w:World} {K:PySem.W.Frag} {tg:Expr} {d it:Addr} {aq:List (List Key × V)} {xs:XT} {es:Array DictEntry} {ep:Nat} {bs:Nat→Addr} (hl:xs.length=aq.length) (he:es.toList=xs.map (entryOfKey (tupleKind (be P w)))) (hb:∀ i x,xs[i]?=some x→bs i=x.2.1) :
  Turn P w K tg (X2 d (.ext (jN d es ep)) aq.length bs) [it] it (fun i h=>h.IsKeyIter it d i es.size ep) where
 mem:=by simp
 obj:=fun i h st b hb=>by
  have e:b=it:=by simpa using hb
  subst e
  obtain ⟨o,e,c,dd⟩:=st
  exact ⟨o,e,fun v z=>by rw [dd] at z;cases z⟩
 keep:=fun i h h' st k=>st.at fun o e=>k it (by simp) o e
 item:=by
  intro X hP hw hK hc i pins s σ H E I hf st hg
  subst hP hw hK
  obtain ⟨hd,hi⟩:=hg
  have hm:jN d es ep s.heap:=(show cJ X.prog X.w H s.heap d (.ext (jN d es ep)) from I.bz d _ hd).1
  have hsz:es.size=aq.length:=by
   have:=congrArg List.length he
   simp only [Array.length_toList,List.length_map] at this
   rw [this,hl]
  have fE:i < es.size:=by omega
  have hx:xs[i]?=some xs[i]:=by simp [show i < xs.length by omega]
  have ek:es[i].key=.ref (bs i):=by
   have h1:es.toList[i]?=some es[i]:=by simp [fE]
   rw [he,List.getElem?_map,hx] at h1
   have h1:entryOfKey (tupleKind (be X.prog X.w)) xs[i]=es[i]:=Option.some.inj h1
   rw [← h1,hb i _ hx]
   rfl
  obtain ⟨f0,f1,f2,f3,f4,f5⟩:=hf it (by simp)
  refine Oh st hm fE fun h' xf sb=>?_
  have I1:Inv X pins σ H { s with heap:=h' }:=I.turned (t':=s.toks) (fun b o hb e=>sb.extBut b o hb e) f0 f1 f3 f4 f5
  obtain ⟨o,e,c,dd⟩:=id xf
  exact ⟨_,rfl,Gd (s:={ s with heap:=h' }) e c dd (by decide) ⟨.ref (bs i),H,I1,ek.symm ▸ rfl,⟨rfl,rfl⟩,xf,fun b hb=>(hf b hb).1⟩⟩
 done:=by
  intro X hP hw hK hc i pins s σ H E I hf st hg
  subst hP hw hK
  obtain ⟨hd,hi⟩:=hg
  have hm:jN d es ep s.heap:=(show cJ X.prog X.w H s.heap d (.ext (jN d es ep)) from I.bz d _ hd).1
  have hsz:es.size=aq.length:=by
   have:=congrArg List.length he
   simp only [Array.length_toList,List.length_map] at this
   rw [this,hl]
  obtain ⟨f0,f1,f2,f3,f4,f5⟩:=hf it (by simp)
  exact Q7 (I.ok.hd hc) st hm (by omega) fun h' eb=>⟨rfl,I.turned (t':=s.toks) (fun b o hb e=>eb b o hb e) f0 f1 f3 f4 f5⟩
 self:=fun _ _ _ _ _ st h=>wpAny_pyIter_keyiter st h
section
variable {X:Cx}
theorem Inv.Q8 {pins:List (Addr × Obj)} {σ:St} {H:Hp} {s:Shared} {d:Addr} {aq:List (List Key × V)} (I:Inv X pins σ H s) (hd:H d=some (.dT aq)) :
  ∃ (bs:Nat→Addr) (xs:XT) (es:Array DictEntry) (ep:Nat),HC X.prog X.w H d aq (.ext (jN d es ep)) bs∧(d == sysModules)=false∧xs.length=aq.length∧es.toList=xs.map (entryOfKey (tupleKind (be X.prog X.w)))∧(∀ i x,xs[i]?=some x→bs i=x.2.1)∧jN d es ep s.heap∧Inv X pins σ (upd H d (.ext (jN d es ep))) s:=by
 obtain ⟨z,sm,xs,rel,o,es,ep,ho,hx,Mc,Q9,WR⟩:=(show cJ X.prog X.w H s.heap d (.dT aq) from I.bz d _ hd)
 have hm:jN d es ep s.heap:=⟨o,ho,hx,Mc⟩
 have hl:xs.length=aq.length:=(Paired.length rel).symm
 have LR:∀ (i:Nat) (x:List Key × Addr × Value),xs[i]?=some x→(fun i=>((xs[i]?).map (·.2.1)).getD 0) i=x.2.1:=fun i x e=>by show ((xs[i]?).map (·.2.1)).getD 0=_;rw [e];rfl
 have ks:∀ {l:List (List Key × V)} {m:XT},Paired (fun (p:List Key × V) (q:List Key × Addr × Value)=>p.1=q.1∧H q.2.1=some (.tup (p.1.map kV))∧RelV p.2 q.2.2) l m→∀ (i:Nat) k v,l[i]?=some (k,v)→∃ x,m[i]?=some x∧H x.2.1=some (.tup (k.map kV)):=by
  intro l m r
  induction r with
  | nil=>intro i k v h;simp at h
  | @cons p q ps qs hq t ih =>
   intro i k v h
   cases i with
   | zero=>simp at h;subst h;exact ⟨q,rfl,hq.2.1⟩
   | succ i=>simp at h;obtain ⟨x,h1,h2⟩:=ih i k v h;exact ⟨x,by simpa using h1,h2⟩
 refine ⟨fun i=>((xs[i]?).map (·.2.1)).getD 0,xs,es,ep,⟨z,sm,fun i k v h=>?_,xs,es,ep,rel,Q9,WR,LR,rfl⟩,sm,hl,Q9,LR,hm,?_⟩
 ·obtain ⟨x,h1,h2⟩:=ks rel i k v h
  show H (((xs[i]?).map (·.2.1)).getD 0)=_
  rw [h1];exact h2
 ·exact I.write (x:=d) (e:=d) (h':=s.heap) (t':=s.toks) (by rw [hd];exact True.intro) (.inl rfl) (fun _ _ _ q=>q) ⟨o,ho⟩ ⟨hm,⟨o,ho⟩,fun h1 h2 x k=>x.at_ k⟩
theorem HC.keep {P:Program} {w:World} {H H':Hp} {d:Addr} {aq:List (List Key × V)} {u:HO} {bs:Nat→Addr} (h:HC P w H d aq u bs) (k:∀ a xs,H a=some (.tup xs)→H' a=some (.tup xs)):HC P w H' d aq u bs:=by
 obtain ⟨xs,es,ep,r,q⟩:=h.ex
 refine ⟨h.z,h.sm,fun i a v e=>k _ _ (h.ks i a v e),xs,es,ep,?_,q⟩
 clear q h
 induction r with
 | nil=>exact .nil
 | @cons p q ps qs hq t ih=>exact .cons ⟨hq.1,k _ _ hq.2.1,hq.2.2⟩ ih
theorem Inv.X3 {pins:List (Addr × Obj)} {σ:St} {H:Hp} {s:Shared} {d:Addr} {aq:List (List Key × V)} {u:HO} {bs:Nat→Addr} (I:Inv X pins σ H s) (ok:HC X.prog X.w H d aq u bs) (hd:H d=some u):Inv X pins σ (upd H d (.dT aq)) s:=by
 obtain ⟨xs,es,ep,rel,Q9,WR,hb,rfl⟩:=ok.ex
 obtain ⟨o,ho,hx,Mc⟩:=(show cJ X.prog X.w H s.heap d (.ext (jN d es ep)) from I.bz d _ hd).1
 have okz:=ok.z
 have oks:=ok.sm
 have U3:Paired (fun (p:List Key × V) (q:List Key × Addr × Value)=>p.1=q.1∧(upd H d (.dT aq)) q.2.1=some (.tup (p.1.map kV))∧RelV p.2 q.2.2) aq xs:=by
  clear Q9 WR hb okz ok
  generalize (HO.dT aq)=oo
  induction rel with
  | nil=>exact .nil
  | @cons p q ps qs hq t ih=>exact .cons ⟨hq.1,by rw [aD (fun z=>by have:=hq.2.1;rw [z,hd] at this;cases this)];exact hq.2.1,hq.2.2⟩ ih
 exact I.write (x:=d) (e:=d) (h':=s.heap) (t':=s.toks) (by rw [hd];exact True.intro) (.inl rfl) (fun _ _ _ q=>q) ⟨o,ho⟩ ⟨okz,oks,xs,U3,o,es,ep,ho,hx,Mc,Q9,WR⟩
def U4 (P:Program) (w:World) (td:TE):TI:=fun σ H R=>td σ H fun x H1=>∃ d aq,x=.ref d∧H1 d=some (.dT aq)∧∀ u bs,HC P w H1 d aq u bs→R (X2 d u aq.length bs) (upd H1 d u)
theorem Md (P:Program) (w:World) {tg l:Expr} {td:TE} (hl:PE X l td) (hP:X.prog=P:=by rfl) (hw:X.w=w:=by rfl):PI X tg l (U4 P w td):=by
 subst hP hw
 intro pins s σ H R I h
 refine bu (hl pins s σ H _ I h) fun v s1 ⟨x,H1,I1,r1,q1⟩=>?_
 obtain ⟨d,aq,rfl,hd,q⟩:=q1
 cases r1
 obtain ⟨bs,xs,es,ep,ok,hs,Zu,Q9,hb,hm,I2⟩:=I1.Q8 hd
 refine Og hs hm ?_
 refine ⟨s1.heap.objs.size,[s1.heap.objs.size],_,_,_,rfl,I2.kept (t':=s1.toks) fun b o e=>Heap.get?_push_of_some _ e,JV Zu Q9 hb,⟨_,Heap.get?_push_size _ rfl,rfl,rfl⟩,fun b hb=>?_,q _ bs ok⟩
 have e:b=s1.heap.objs.size:=by simpa using hb
 subst e
 exact I2.zZ (Nat.le_refl _) (I2.bz.fresh (Nat.le_refl _))
def U5 (P:Program) (w:World) (td ty:TE):TE:=fun σ H Q=>td σ H fun x H1=>ty σ H1 fun y H2=>∃ a aq u bs b k v,x=.ref a∧H2 a=some u∧HC P w H2 a aq u bs∧y=.ref b∧H2 b=some (.tup (k.map kV))∧iy aq k=some v∧Q v H2
theorem HD (P:Program) (w:World) {o i:Expr} {pos:Pos} {td ty:TE} (hu:X.A.units+1 < cLine) (ho:PE X o td) (hi:PE X i ty) (hs:Uv i) (hP:X.prog=P:=by rfl) (hw:X.w=w:=by rfl):PE X (.Subscript o i pos) (U5 P w td ty):=by
 subst hP hw
 intro pins s σ H Q I h
 refine LM PySem.F.slot_dict_getitem.lookup hs (bu (ho pins s σ H _ I h) fun u s1 ⟨x,H1,I1,rx,q1⟩=>bu (hi pins s1 σ H1 _ I1 q1) fun iv s2 ⟨y,H2,I2,ry,a,aq,uo,bs,b,k,v,ex,OT,ok,ey,eb,hv,q2⟩=>?_)
 subst ex ey
 obtain rfl:u=Value.ref a:=rx
 cases (show iv=Value.ref b from ry)
 obtain ⟨xs,es,ep,rel,Q9,WR,hb,rfl⟩:=ok.ex
 have hm:jN a es ep s2.heap:=(show cJ X.prog X.w H2 s2.heap a (.ext (jN a es ep)) from I2.bz a _ OT).1
 obtain ⟨ob,h1,h2,h3⟩:=id hm
 have all:∀ {l:List (List Key × V)} {m:XT},Paired (fun (p:List Key × V) (q:List Key × Addr × Value)=>p.1=q.1∧H2 q.2.1=some (.tup (p.1.map kV))∧RelV p.2 q.2.2) l m→∀ x ∈ m,(tupleKind (be X.prog X.w)).is s2.heap x.1 x.2.1:=by
  intro l m q
  induction q with
  | nil=>intro x hx;exact nomatch hx
  | @cons p q ps qs hq t ih =>
   intro x hx
   rcases List.mem_cons.mp hx with e | hx
   ·subst e
    exact nk I2.bz (by rw [← hq.1];exact hq.2.1)
   ·exact ih x hx
 have dd:s2.heap.DictOfH (tupleKind (be X.prog X.w)) a xs:=⟨ob,es,ep,h1,h2,h3,Q9,all rel,WR⟩
 obtain ⟨w',hw',rw'⟩:=lB.some_of (v:=v) (o:=(atKey xs k).map (·.2)) (by rw [← hv];exact KT.val rel k)
 obtain ⟨p,hp,vw⟩:=Option.map_eq_some_iff.mp hw'
 refine ⟨dd.typeIs,wpAny_getItem_heap (tupleKind_room_in1 hu) (nk I2.bz eb) dd hp ?_⟩
 rw [vw]
 exact ⟨v,H2,I2.tok _,rw',q2⟩
end
section
variable {g:TG} {σ:St} {H:Hp}
theorem Me {d:Addr} {u:HO} {n:Nat} {bs:Nat→Addr} {tb:TS} {D:Ends} (Pv:Nat→St→Hp→Prop) (h0:Pv 0 σ H) (hl:∀ i σ H,i≤n→Pv i σ H→H d=some u)
  (hs:∀ (i:Nat) (σ:St) (H:Hp),i < n→Pv i σ H→g (.ref (bs i)) σ H fun σ2 H2=>tb { D with nx:=Pv (i+1),ct:=Pv (i+1),bk:=D.nx } σ2 H2) (hd:∀ σ H,Pv n σ H→D.nx σ H) :
  ∃ W:Nat→Nat→St→Hp→Prop,(∃ m,W 0 m σ H)∧∀ i m σ H,W i m σ H →
   ((X2 d u n bs).stop i H∧D.nx σ H)∨((X2 d u n bs).go i H∧∃ N:St→Hp→Prop,(∀ σ' H',N σ' H'→∃ m',m' < m∧W (i+1) m' σ' H')∧∀ x H',(X2 d u n bs).N3 i H x H'→g x σ H' fun σ2 H2=>tb { D with nx:=N,ct:=N,bk:=D.nx } σ2 H2):=by
 refine ⟨fun i m σ H=>m=n - i∧i≤n∧Pv i σ H,⟨n,by simp,Nat.zero_le _,h0⟩,?_⟩
 rintro i m σ' H' ⟨rfl,hi,p⟩
 have q1:=hl i σ' H' hi p
 by_cases fE:i < n
 ·refine .inr ⟨⟨q1,fE⟩,Pv (i+1),fun σ3 H3 z=>⟨n - (i+1),by omega,rfl,fE,z⟩,fun x H2 y=>?_⟩
  obtain ⟨rfl,rfl⟩:=y
  exact hs i σ' _ fE p
 ·have e:i=n:=by omega
  subst e
  exact .inl ⟨⟨q1,Nat.le_refl _⟩,hd σ' H' p⟩
end
section
variable {X:Cx}
def U6 (P:Program) (w:World) (t:TS):TS:=fun D σ H=>t { D with nx:=fun σ' H'=>∃ d aq u bs,HC P w H' d aq u bs∧H' d=some u∧D.nx σ' (upd H' d (.dT aq)) } σ H
theorem Oi (P:Program) (w:World) {st:Stmt} {t:TS} (h:PS X st t) (hP:X.prog=P:=by rfl) (hw:X.w=w:=by rfl):PS X st (U6 P w t):=by
 subst hP hw
 intro pins s σ H D I q
 refine wpAny_mono (h pins s σ H _ I q) (fun f s' q=>?_) fun _ _ z=>z
 cases f with
 | next=>obtain ⟨σ',H',I',d,aq,u,bs,ok,hd,q⟩:=q;exact ⟨σ',_,I'.X3 ok hd,q⟩
 | brk=>exact q
 | cont=>exact q
 | ret v=>exact q
end
end L2
namespace L2
open PySem PySem.Spec PyProof.Rows
section
variable {X:Cx} {pins:List (Addr × Obj)} {σ:St} {H:Hp} {s:Shared}
def v8 (a C:Addr) (h:Heap):Prop:=∃ t0:Addr,h.get? a=some { cls:=.ref C,data:=.fields #[.ref t0,.none,.none,.none,.bool false,.none] }
def rq (a C dx:Addr) (h:Heap):Prop:=∃ t0:Addr,h.get? a=some { cls:=.ref C,dict:=some dx,data:=.fields #[.ref t0,.none,.none,.none,.bool false,.none] }
theorem v8.mono {a C:Addr} (h1 h2:Heap) (x:v8 a C h1) (k:∀ o,h1.get? a=some o→h2.get? a=some o):v8 a C h2:=let ⟨t,e⟩:=x;⟨t,k _ e⟩
theorem rq.mono {a C dx:Addr} (h1 h2:Heap) (x:rq a C dx h1) (k:∀ o,h1.get? a=some o→h2.get? a=some o):rq a C dx h2:=let ⟨t,e⟩:=x;⟨t,k _ e⟩
theorem v8.at_ {a C:Addr} (h:Heap) (x:v8 a C h):ExcAt a C h:=let ⟨_,e⟩:=x;⟨_,_,e,rfl,rfl⟩
theorem rq.at_ {a C dx:Addr} (h:Heap) (x:rq a C dx h):ExcAt a C h:=let ⟨_,e⟩:=x;⟨_,_,e,rfl,rfl⟩
def Oj (H:Hp) (a C:Addr):Prop:=∃ φ:Heap→Prop,H a=some (.ext φ)∧∀ h,φ h→ExcAt a C h
theorem Oj.same {H H':Hp} {a C:Addr} (x:Oj H a C) (s:aI H H'):Oj H' a C:=let ⟨φ,e,f⟩:=x;⟨φ,s _ _ e,f⟩
end
end L2
namespace L2
open PySem PySem.Spec PyProof.Rows
abbrev RA:List Value:=[.type "ValueError",.type "Exception",.type "BaseException",.type "object"]
structure TV (K:PySem.W.Frag) (C B f:Addr):Prop where
 lk:∃ nm q N bs sn sub ab col dd k0 k1 k2 k3 k5,K.lookup C=some (excClassObj nm q C N bs (.ref B :: RA) true sn sub ab col dd k0 k1 k2 k3 k5 "ValueError.__new__")
 par:PySem.W.excIn K B RA "ValueError.__new__"=true
 init:PySem.W.findIn K (.ref C) "__init__"=some (some (.ref f))
 fn:PySem.W.typeIn K (.ref f)=some (.type "function")
 kp:PySem.W.keepIn K (.ref C)=true
 sa:PySem.W.findIn K (.ref C) "__setattr__"=some (some (.builtin "object.__setattr__"))
theorem TV.tail {K:PySem.W.Frag} {C B f:Addr} {h:Heap} (Z:TV K C B f) (KX:K.In h):OwnTail h RA (.ref B :: RA):=by
 obtain ⟨tl,N,nm,q0,bs,hdct,sn,sub,ab,col,dd,k0,k1,k2,k3,k5,mN,hC,hN,WM,T⟩:=(Gu (x:="") (mg:=fun _=>some (.ref B)) KX rfl Z.par).obj
 exact .own hC hN WM .base
section
variable {prog:Program} {w:World} {A:Around} {E:Value→Shared→Prop} {h:Heap} {g:Array GenState} {d:Drawn} {t:Nat} {os:OsState} {K:PySem.W.Frag} {C B f:Addr}
end
section
variable {X:Cx} {CX:Gj} {k:Nat} {f C B:Addr} {fd:FuncData} {ps:List Str} {sp:Sp} {E:XK} {x:Str} {p pos:Pos} {e:Expr} {es:List Expr} {t:TA}
end
end L2
namespace L2
open PySem PySem.Spec PyProof.Rows
structure XUp (K:PySem.W.Frag) (B:Addr):Prop where
 sp:PySem.W.specialIn K (.ref B) "__getattribute__"=some (some (.builtin "type.__getattribute__"))
 rd:PySem.W.readsIn K B (.type "type")=true
 fd:PySem.W.findCls K (.ref B) (.type "type") "__init__"=some (.val (.builtin "ValueError.__init__"))
section
variable {X:Cx} {pins:List (Addr × Obj)} {σ:St} {H:Hp} {s:Shared} {C B f a:Addr}
end
section
variable {prog:Program} {w:World} {A:Around} {E:Value→Shared→Prop} {h:Heap} {g:Array GenState} {d:Drawn} {t:Nat} {os:OsState} {K:PySem.W.Frag} {a C B f dx:Addr} {name:Str} {v:Value} {mA:Str→Option Value}
end
section
variable {X:Cx}
end
end L2
namespace L2
open PySem PySem.Spec PyProof.Rows
section
variable {P:Program} {w:World} {K:PySem.W.Frag} {mg:Str→Option Value} {base:Heap}
theorem kL.qR {x qual:Str} {st:Stmt} {f:Addr} {fd:FuncData} {N ps:List Str} {k:Nat} {sp:Sp} (F:kL K x qual st f fd) (S:aQ N ps (aH st)) (len:∀ vs H Q E,sp vs H Q E→vs.length=ps.length)
  (rT:∀ (f:Addr) (bo:Value) (A:Around) (outer:List Env) (s:Shared) (H:Hp) (vs:List V) (Q:VK) (E:XK),dv k (A.deeper (envOfC qual (aH st) s.heap.objs.size f bo))→sp vs H Q E →
   ∃ t,Iu (Zo P w K mg base N qual st f bo A outer s H E) (bG st) t∧t { nx:=fun _ H'=>Q .bJ H',rt:=Q } (start N vs) H):bZ P w K mg base (i9 P w) (k+1) f fd ps sp:=by
 obtain ⟨oc,od,kV,doc,pm,an,bo,ct,K5,rfl,lk,yl⟩:=F.ex
 exact K4 lk yl S len fun A outer s H vs Q E hr K6=>rT f bo A outer s H vs Q E hr K6
end
end L2
namespace My
def P (a k:Int):Int:=a ^ k.toNat % 97
theorem X4 (a k:Int):0≤P a k:=Int.emod_nonneg _ (by decide)
theorem U7 (a k:Int):P a k < 97:=Int.emod_lt_of_pos _ (by decide)
theorem X5:∀ n < 97,0 < n→n ^ 95 % 97 * n % 97=1∧0 < n ^ 95 % 97:=by decide
theorem TX {a:Int} (h0:0 < a) (h1:a < 97):P a 95 * a % 97=1:=by
 obtain ⟨n,rfl⟩:∃ n:Nat,a=n:=⟨a.toNat,by omega⟩
 have h:=(X5 n (by omega) (by omega)).1
 show ((n:Int) ^ 95 % 97) * n % 97=1
 have:(((n ^ 95 % 97 * n % 97:Nat)):Int)=1:=by rw [h];rfl
 rw [← this];norm_cast
theorem Mf {a:Int} (h0:0 < a) (h1:a < 97):0 < P a 95:=by
 obtain ⟨n,rfl⟩:∃ n:Nat,a=n:=⟨a.toNat,by omega⟩
 have h:=(X5 n (by omega) (by omega)).2
 show 0 < ((n:Int) ^ 95 % 97)
 have:(0:Int) < ((n ^ 95 % 97:Nat):Int):=by omega
 simpa using this
theorem HE (x:Int) (n:Nat):(x % 97) ^ n % 97=x ^ n % 97:=by
 induction n with
 | zero=>simp
 | succ n ih=>rw [Int.pow_succ,Int.pow_succ,Int.mul_emod,ih,Int.emod_emod_of_dvd _ (Int.dvd_refl _),← Int.mul_emod]
theorem sq (q:Int):q ^ 2=q * q:=by rw [Int.pow_succ,Int.pow_succ];simp
theorem Mg {p q a:Int} {l k:Int} (hl:0 < l) (ho:l % 2=1) (h:p * q ^ l.toNat % 97=P a k):(p * q % 97) * (q * q % 97) ^ (l / 2).toNat % 97=P a k:=by
 rw [← h]
 have e:l.toNat=2 * (l / 2).toNat+1:=by omega
 rw [e,Int.pow_succ,Int.pow_mul]
 rw [Int.mul_emod,Int.emod_emod_of_dvd _ (Int.dvd_refl _)]
 have e2:(q * q % 97) ^ (l / 2).toNat % 97=(q ^ 2) ^ (l / 2).toNat % 97:=by
  rw [sq]
  exact HE _ _
 rw [e2,← Int.mul_emod]
 congr 1
 rw [Int.mul_assoc,Int.mul_comm q]
theorem JW {p q a:Int} {l k:Int} (hl:0 < l) (ho:l % 2≠1) (h:p * q ^ l.toNat % 97=P a k):p * (q * q % 97) ^ (l / 2).toNat % 97=P a k:=by
 rw [← h]
 have e:l.toNat=2 * (l / 2).toNat:=by omega
 rw [e,Int.pow_mul,Int.mul_emod]
 have e2:(q * q % 97) ^ (l / 2).toNat % 97=(q ^ 2) ^ (l / 2).toNat % 97:=by
  rw [sq]
  exact HE _ _
 rw [e2,← Int.mul_emod]
theorem HF {a k:Int}:(1:Int) * a ^ k.toNat % 97=P a k:=by rw [Int.one_mul];rfl
theorem Mh {p q a k l:Int} (hl:l≤0) (p0:0≤p) (p1:p < 97) (h:p * q ^ l.toNat % 97=P a k):p=P a k:=by
 have e:l.toNat=0:=by omega
 rw [← h,e,Int.pow_zero,Int.mul_one];omega
end My
namespace My
def Mi (a:Nat):Nat:=((List.range 96).find? fun s=>5 ^ s % 97 == a).getD 0
theorem v9:∀ a < 97,0 < a→Mi a < 96∧5 ^ Mi a % 97=a:=by decide +kernel
theorem RB:∀ s < 96,Mi (5 ^ s % 97)=s:=by decide +kernel
theorem JX (a:Nat) (ha:a < 97) (h0:0 < a) (s:Nat) (hs:s < Mi a):5 ^ s % 97≠a:=by
 intro h
 have h1:=RB s (by have:=(v9 a ha h0).1;omega)
 rw [h] at h1;omega
def ex (a:Int):Int:=Mi a.toNat
theorem Ol (a:Int):0≤ex a:=Int.natCast_nonneg _
theorem X6 {a:Int} (h0:0 < a) (h1:a < 97):ex a≤95:=by
 have:=(v9 a.toNat (by omega) (by omega)).1
 unfold ex;omega
def up (k:Int):Int:=5 ^ k.toNat % 97
theorem X7 {a:Int} (h0:0 < a) (h1:a < 97):up (ex a)=a:=by
 have h:=(v9 a.toNat (by omega) (by omega)).2
 unfold up ex
 rw [Int.toNat_natCast]
 have:((5 ^ Mi a.toNat % 97:Nat):Int)=(a.toNat:Int):=by rw [h]
 rw [show a=(a.toNat:Int) by omega,Int.toNat_natCast,← this];norm_cast
theorem X8 {a s:Int} (h0:0 < a) (h1:a < 97) (hs:0≤s) (hl:s < ex a):up s≠a:=by
 intro h
 have:=JX a.toNat (by omega) (by omega) s.toNat (by unfold ex at hl;omega)
 apply this
 unfold up at h
 have h2:((5 ^ s.toNat % 97:Nat):Int)=a:=by rw [← h];norm_cast
 omega
theorem U8 {a b:Int} (h0:0 < a) (h1:a < 97) (g0:0 < b) (g1:b < 97):0 < a * b % 97:=by
 have h:∀ a < 97,0 < a→∀ b < 97,0 < b→0 < (a * b % 97:Nat):=by decide +kernel
 have q:=h a.toNat (by omega) (by omega) b.toNat (by omega) (by omega)
 have:a * b=((a.toNat * b.toNat:Nat):Int):=by
  rw [Int.natCast_mul,Int.toNat_of_nonneg (by omega),Int.toNat_of_nonneg (by omega)]
 rw [this];omega
theorem RC {s r:Int} (hs:0≤s) (h:r=up s):r * 5 % 97=up (s+1):=by
 subst h
 unfold up
 have e:(s+1).toNat=s.toNat+1:=by omega
 rw [e,Int.pow_succ,Int.mul_emod,Int.emod_emod_of_dvd _ (Int.dvd_refl _),← Int.mul_emod]
theorem RD:up 0=1:=by decide
end My
namespace My
def sumTo:Nat→(Nat→Int)→Int
 | 0,_=>0
 | n+1,f=>sumTo n f+f n
theorem bE {f g:Nat→Int}:∀ (n:Nat),(∀ j,j < n→f j=g j)→sumTo n f=sumTo n g
 | 0,_=>rfl
 | n+1,h=>by rw [sumTo,sumTo,bE n fun j hj=>h j (by omega),h n (by omega)]
theorem dU (c d:Int) (f g:Nat→Int):∀ (n:Nat),sumTo n (fun j=>c * f j+d * g j)=c * sumTo n f+d * sumTo n g
 | 0=>by simp [sumTo]
 | n+1=>by rw [sumTo,sumTo,sumTo,dU c d f g n];grind
theorem pQ (c:Int) (f:Nat→Int) (n:Nat):sumTo n (fun j=>c * f j)=c * sumTo n f:=by
 have h:=dU c 0 f f n
 have e:sumTo n (fun j=>c * f j)=sumTo n (fun j=>c * f j+0 * f j):=bE n fun j _=>by grind
 rw [e,h];grind
theorem gS (f:Nat→Int):∀ (n:Nat),sumTo (n+1) f=f 0+sumTo n (fun j=>f (j+1))
 | 0=>by simp [sumTo]
 | n+1=>by rw [sumTo,gS f n,sumTo];omega
theorem qS {f:Nat→Int}:∀ (n:Nat),(∀ j,j < n→f j=0)→sumTo n f=0
 | 0,_=>rfl
 | n+1,h=>by rw [sumTo,qS n fun j hj=>h j (by omega),h n (by omega)];rfl
theorem tN {f:Nat→Int} (p:Nat):∀ (n:Nat),p < n→(∀ j,j < n→j≠p→f j=0)→sumTo n f=f p
 | 0,h,_=>by omega
 | n+1,h,hz=>by
  rw [sumTo]
  by_cases e:p=n
  ·subst e;rw [qS p fun j hj=>hz j (by omega) (by omega)];omega
  ·rw [tN p n (by omega) fun j hj hn=>hz j (by omega) hn,hz n (by omega) (by omega)];omega
theorem tO {f:Nat→Int} (p q:Nat):∀ (n:Nat),p < q→q < n→(∀ j,j < n→j≠p→j≠q→f j=0)→sumTo n f=f p+f q
 | 0,_,h,_=>by omega
 | n+1,RE,h,hz=>by
  rw [sumTo]
  by_cases e:q=n
  ·subst e;rw [tN p q RE fun j hj hn=>hz j (by omega) hn (by omega)]
  ·rw [tO p q n RE (by omega) fun j hj hn hm=>hz j (by omega) hn hm,hz n (by omega) (by omega) (by omega)];omega
theorem gT {f:Nat→Int}:∀ (n:Nat),(∀ j,j < n→(97:Int) ∣ f j)→(97:Int) ∣ sumTo n f
 | 0,_=>⟨0,by simp [sumTo]⟩
 | n+1,h=>by rw [sumTo];exact Int.dvd_add (gT n fun j hj=>h j (by omega)) (h n (by omega))
def ip (n:Nat) (r z:Nat→Int):Int:=sumTo n fun j=>r j * z j
theorem JY (n:Nat) (c d:Int) (r s z:Nat→Int):ip n (fun j=>c * r j+d * s j) z=c * ip n r z+d * ip n s z:=by
 unfold ip
 rw [← dU]
 exact bE n fun j _=>by grind
theorem HG {n:Nat} {r s z:Nat→Int} (h:∀ j,j < n→(97:Int) ∣ r j - s j):(97:Int) ∣ ip n r z - ip n s z:=by
 have e:ip n r z - ip n s z=sumTo n fun j=>(r j - s j) * z j:=by
  have:=dU 1 (-1) (fun j=>r j * z j) (fun j=>s j * z j) n
  unfold ip
  rw [show sumTo n (fun j=>(r j - s j) * z j)=sumTo n (fun j=>1 * (r j * z j)+-1 * (s j * z j)) from bE n fun j _=>by grind,this];omega
 rw [e]
 exact gT n fun j hj=>Int.dvd_trans (h j hj) (Int.dvd_mul_right _ _)
abbrev nT:=Nat→Nat→Int
def pR (m n:Nat) (a:nT) (z:Nat→Int):Prop:=∀ i,i < m→(97:Int) ∣ ip n (a i) z
def vR (n:Nat) (a:nT):Prop:=∀ z,pR n n a z→∀ j,j < n→(97:Int) ∣ z j
theorem pR.congr {m n:Nat} {a b:nT} {z:Nat→Int} (h:∀ i j,i < m→j < n→(97:Int) ∣ a i j - b i j) (k:pR m n a z):pR m n b z:=fun i hi=>by
 have h1:=k i hi
 have h2:=HG (n:=n) (z:=z) fun j hj=>h i j hi hj
 have:=Int.dvd_sub h1 h2
 rwa [show ip n (a i) z - (ip n (a i) z - ip n (b i) z)=ip n (b i) z by omega] at this
theorem pR.JZ {m n:Nat} {a b:nT} {z:Nat→Int} (h:∀ i j,i < m→j < n→(97:Int) ∣ a i j - b i j):pR m n a z↔pR m n b z :=
 ⟨fun k=>k.congr h,fun k=>k.congr fun i j hi hj=>by have:=Int.dvd_neg.mpr (h i j hi hj);rwa [show -(a i j - b i j)=b i j - a i j by omega] at this⟩
theorem vR.congr {n:Nat} {a b:nT} (h:∀ i j,i < n→j < n→(97:Int) ∣ a i j - b i j):vR n a↔vR n b:=by
 unfold vR
 constructor
 ·intro r z k;exact r z ((pR.JZ h).mpr k)
 ·intro r z k;exact r z ((pR.JZ h).mp k)
theorem X9:∀ n < 97,0 < n→n ^ 95 % 97 * n % 97=1:=by decide
theorem Om {a:Int} (h:¬ (97:Int) ∣ a):∃ b:Int,(97:Int) ∣ a * b - 1:=by
 have h1:0 < a % 97:=by
  have:a % 97≠0:=fun e=>h (Int.dvd_of_emod_eq_zero e)
  omega
 have q:=X9 (a % 97).toNat (by omega) (by omega)
 refine ⟨(((a % 97).toNat ^ 95 % 97:Nat):Int),?_⟩
 generalize (a % 97).toNat ^ 95 % 97=b at q
 have e1:((b * (a % 97).toNat % 97:Nat):Int)=1:=by rw [q];rfl
 have e2:((b:Int) * (a % 97)) % 97=1:=by
  rw [← e1];rw [Int.natCast_emod,Int.natCast_mul,Int.toNat_of_nonneg (by omega)];rfl
 have e3:a * (b:Int) % 97=1:=by rw [Int.mul_comm,Int.mul_emod,← e2,Int.mul_emod (b:Int) (a % 97),Int.emod_emod_of_dvd _ (Int.dvd_refl _)]
 omega
theorem prime {a b:Int} (h:(97:Int) ∣ a * b) (ha:¬ (97:Int) ∣ a):(97:Int) ∣ b:=by
 obtain ⟨c,hc⟩:=Om ha
 have h1:(97:Int) ∣ c * (a * b):=Int.dvd_trans h (Int.dvd_mul_left _ _)
 have h2:(97:Int) ∣ (a * c - 1) * b:=Int.dvd_trans hc (Int.dvd_mul_right _ _)
 have:=Int.dvd_sub h1 h2
 rwa [show c * (a * b) - (a * c - 1) * b=b by grind] at this
def skip (p i:Nat):Nat:=if i < p then i else i+1
theorem vR.step {n p:Nat} {a:nT} (hp:p≤n) (h0:¬ (97:Int) ∣ a p 0) :
  vR (n+1) a↔vR n (fun i j=>a (skip p i) (j+1) * a p 0 - a p (j+1) * a (skip p i) 0):=by
 have sk:∀ i,i < n→skip p i < n+1:=fun i hi=>by unfold skip;split <;> omega
 have red:∀ (i:Nat) (z:Nat→Int),ip n (fun j=>a (skip p i) (j+1) * a p 0 - a p (j+1) * a (skip p i) 0) (fun j=>z (j+1)) =
   a p 0 * ip (n+1) (a (skip p i)) z - a (skip p i) 0 * ip (n+1) (a p) z:=fun i z=>by
  have e1:ip (n+1) (a (skip p i)) z=a (skip p i) 0 * z 0+ip n (fun j=>a (skip p i) (j+1)) (fun j=>z (j+1)):=by unfold ip;rw [gS]
  have e2:ip (n+1) (a p) z=a p 0 * z 0+ip n (fun j=>a p (j+1)) (fun j=>z (j+1)):=by unfold ip;rw [gS]
  have e3:=JY n (a p 0) (- a (skip p i) 0) (fun j=>a (skip p i) (j+1)) (fun j=>a p (j+1)) (fun j=>z (j+1))
  rw [e1,e2,show (fun j=>a (skip p i) (j+1) * a p 0 - a p (j+1) * a (skip p i) 0)=(fun j=>a p 0 * a (skip p i) (j+1)+-a (skip p i) 0 * a p (j+1)) from funext fun j=>by grind,e3]
  grind
 constructor
 ·intro r y k j hj
  obtain ⟨b,hb⟩:=Om h0
  let z:Nat→Int:=fun j=>match j with
   | 0=>-(b * ip n (fun j=>a p (j+1)) y)
   | j+1=>y j
  have zt:(fun j=>z (j+1))=y:=rfl
  have kp:(97:Int) ∣ ip (n+1) (a p) z:=by
   have e2:ip (n+1) (a p) z=a p 0 * z 0+ip n (fun j=>a p (j+1)) (fun j=>z (j+1)):=by unfold ip;rw [gS]
   rw [e2,zt,show z 0=-(b * ip n (fun j=>a p (j+1)) y) from rfl]
   have:(97:Int) ∣ (a p 0 * b - 1) * -(ip n (fun j=>a p (j+1)) y):=Int.dvd_trans hb (Int.dvd_mul_right _ _)
   rwa [show (a p 0 * b - 1) * -(ip n (fun j=>a p (j+1)) y)=a p 0 * -(b * ip n (fun j=>a p (j+1)) y)+ip n (fun j=>a p (j+1)) y by grind] at this
  have ks:∀ i,i < n→(97:Int) ∣ ip (n+1) (a (skip p i)) z:=fun i hi=>by
   have h1:=k i hi
   have e:=red i z
   rw [zt] at e
   rw [e] at h1
   have h2:(97:Int) ∣ a (skip p i) 0 * ip (n+1) (a p) z:=Int.dvd_trans kp (Int.dvd_mul_left _ _)
   have h3:=Int.dvd_add h1 h2
   rw [show a p 0 * ip (n+1) (a (skip p i)) z - a (skip p i) 0 * ip (n+1) (a p) z+a (skip p i) 0 * ip (n+1) (a p) z=a p 0 * ip (n+1) (a (skip p i)) z by omega] at h3
   exact prime h3 h0
  have kz:pR (n+1) (n+1) a z:=fun i hi=>by
   by_cases e:i=p
   ·subst e;exact kp
   ·by_cases l:i < p
    ·have:=ks i (by omega)
     rwa [show skip p i=i by unfold skip;rw [if_pos l]] at this
    ·have:=ks (i - 1) (by omega)
     rwa [show skip p (i - 1)=i by unfold skip;rw [if_neg (by omega)];omega] at this
  exact r z kz (j+1) (by omega)
 ·intro r z k
  have ky:pR n n (fun i j=>a (skip p i) (j+1) * a p 0 - a p (j+1) * a (skip p i) 0) (fun j=>z (j+1)):=fun i hi=>by
   show (97:Int) ∣ ip n _ _
   rw [red i z]
   exact Int.dvd_sub (Int.dvd_trans (k _ (sk i hi)) (Int.dvd_mul_left _ _)) (Int.dvd_trans (k p (by omega)) (Int.dvd_mul_left _ _))
  have ht:=r _ ky
  have hz:(97:Int) ∣ z 0:=by
   have kp:=k p (by omega)
   have e2:ip (n+1) (a p) z=a p 0 * z 0+ip n (fun j=>a p (j+1)) (fun j=>z (j+1)):=by unfold ip;rw [gS]
   have h3:(97:Int) ∣ ip n (fun j=>a p (j+1)) (fun j=>z (j+1)):=gT n fun j hj=>Int.dvd_trans (ht j hj) (Int.dvd_mul_left _ _)
   have h4:=Int.dvd_sub kp h3
   rw [e2,show a p 0 * z 0+ip n (fun j=>a p (j+1)) (fun j=>z (j+1)) - ip n (fun j=>a p (j+1)) (fun j=>z (j+1))=a p 0 * z 0 by omega] at h4
   exact prime h4 h0
  intro j hj
  cases j with
  | zero=>exact hz
  | succ j=>exact ht j (by omega)
theorem vR.none {n:Nat} {a:nT} (h:∀ i,i < n+1→(97:Int) ∣ a i 0):¬ vR (n+1) a:=fun r=>by
 have k:pR (n+1) (n+1) a (fun j=>if j=0 then 1 else 0):=fun i hi=>by
  have:ip (n+1) (a i) (fun j=>if j=0 then 1 else 0)=a i 0:=by
   unfold ip
   rw [tN 0 (n+1) (by omega) fun j _ hj=>by simp [hj]]
   simp
  rw [this];exact h i hi
 have:=r _ k 0 (by omega)
 simp at this
theorem vR.zero (a:nT):vR 0 a:=fun _ _ j hj=>by omega
structure Clear (n c:Nat) (t:nT):Prop where
 one:∀ i,i < c→t i i=1
 nq:∀ i j,i < n→j < c→i≠j→t i j=0
theorem Clear.start (n:Nat) (t:nT):Clear n 0 t:=⟨fun _ h=>by omega,fun _ _ _ h=>by omega⟩
def swap (t:nT) (p q:Nat):nT:=fun i=>if i=p then t q else if i=q then t p else t i
theorem pR.swap {m n p q:Nat} {t:nT} {z:Nat→Int} (hp:p < m) (hq:q < m):pR m n (swap t p q) z↔pR m n t z:=by
 constructor
 ·intro k i hi
  by_cases e1:i=p
  ·subst e1
   have:=k q hq
   unfold My.swap at this
   by_cases e:q=i
   ·subst e;simpa using this
   ·rw [if_neg e,if_pos rfl] at this;exact this
  ·by_cases e2:i=q
   ·subst e2
    have:=k p hp
    unfold My.swap at this
    rwa [if_pos rfl] at this
   ·have:=k i hi
    unfold My.swap at this
    rwa [if_neg e1,if_neg e2] at this
 ·intro k i hi
  unfold My.swap
  split
  ·exact k q hq
  ·split
   ·exact k p hp
   ·exact k i hi
def clear (t:nT) (c:Nat) (f:Int):nT:=fun i j=>if i=c then t c j * f % 97 else (t i j - t i c * (t c j * f % 97)) % 97
theorem fg (a:Int):(97:Int) ∣ a % 97 - a:=by omega
theorem pR.clear {m n c:Nat} {t:nT} {f:Int} {z:Nat→Int} (hc:c < m) (hf:(97:Int) ∣ f * t c c - 1):pR m n (clear t c f) z↔pR m n t z:=by
 have hf0:¬ (97:Int) ∣ f:=fun h=>by
  have:=Int.dvd_sub (Int.dvd_trans h (Int.dvd_mul_right f (t c c))) hf
  rw [show f * t c c - (f * t c c - 1)=1 by omega] at this
  omega
 have YA:pR m n (My.clear t c f) z↔pR m n (fun i j=>if i=c then f * t c j+0 * t c j else 1 * t i j+(- (t i c * f)) * t c j) z:=by
  refine pR.JZ fun i j _ _=>?_
  unfold My.clear
  by_cases e:i=c
  ·rw [if_pos e,if_pos e]
   have:=fg (t c j * f)
   rwa [show t c j * f % 97 - (f * t c j+0 * t c j)=t c j * f % 97 - t c j * f by grind]
  ·rw [if_neg e,if_neg e]
   have h1:=fg (t i j - t i c * (t c j * f % 97))
   have h2:(97:Int) ∣ t i c * (t c j * f % 97 - t c j * f):=Int.dvd_trans (fg (t c j * f)) (Int.dvd_mul_left _ _)
   have:=Int.dvd_sub h1 h2
   rwa [show (t i j - t i c * (t c j * f % 97)) % 97 - (t i j - t i c * (t c j * f % 97)) - t i c * (t c j * f % 97 - t c j * f)=(t i j - t i c * (t c j * f % 97)) % 97 - (1 * t i j+-(t i c * f) * t c j) by grind] at this
 rw [YA]
 have e1:ip n (fun j=>f * t c j+0 * t c j) z=f * ip n (t c) z:=by rw [JY];omega
 have e2:∀ i,ip n (fun j=>1 * t i j+(- (t i c * f)) * t c j) z=ip n (t i) z - t i c * f * ip n (t c) z:=fun i=>by rw [JY];grind
 constructor
 ·intro k
  have kc:(97:Int) ∣ ip n (t c) z:=by
   have:=k c hc
   simp only [if_true] at this
   rw [e1] at this
   exact prime this hf0
  intro i hi
  by_cases e:i=c
  ·subst e;exact kc
  ·have:=k i hi
   simp only [if_neg e] at this
   rw [e2] at this
   have h2:(97:Int) ∣ t i c * f * ip n (t c) z:=Int.dvd_trans kc (Int.dvd_mul_left _ _)
   have:=Int.dvd_add this h2
   rwa [show ip n (t i) z - t i c * f * ip n (t c) z+t i c * f * ip n (t c) z=ip n (t i) z by omega] at this
 ·intro k i hi
  by_cases e:i=c
  ·simp only [if_pos e]
   rw [e1];exact Int.dvd_trans (k c hc) (Int.dvd_mul_left _ _)
  ·simp only [if_neg e]
   rw [e2];exact Int.dvd_sub (k i hi) (Int.dvd_trans (k c hc) (Int.dvd_mul_left _ _))
theorem Clear.swap {n c q:Nat} {t:nT} (h:Clear n c t) (hq:c≤q) (hn:q < n):Clear n c (swap t c q):=by
 refine ⟨fun i hi=>?_,fun i j hi hj ne=>?_⟩
 ·unfold My.swap
  rw [if_neg (by omega),if_neg (by omega)];exact h.one i hi
 ·unfold My.swap
  split
  ·exact h.nq q j hn hj (by omega)
  ·split
   ·exact h.nq c j (by omega) hj (by omega)
   ·exact h.nq i j hi hj ne
theorem Clear.clear {n c:Nat} {t:nT} {f:Int} (h:Clear n c t) (hc:c < n) (hf:(97:Int) ∣ f * t c c - 1):Clear n (c+1) (clear t c f):=by
 have QL:t c c * f % 97=1:=by rw [Int.mul_comm];omega
 have hz:∀ j,j < c→t c j * f % 97=0:=fun j hj=>by rw [h.nq c j hc hj (by omega)];simp
 refine ⟨fun i hi=>?_,fun i j hi hj ne=>?_⟩
 ·unfold My.clear
  by_cases e:i=c
  ·subst e;rw [if_pos rfl,QL]
  ·rw [if_neg e,hz i (by omega),h.one i (by omega)];omega
 ·unfold My.clear
  by_cases e:i=c
  ·rw [if_pos e,hz j (by omega)]
  ·rw [if_neg e]
   by_cases e2:j=c
   ·subst e2;rw [QL];simp
   ·rw [hz j (by omega),h.nq i j hi (by omega) ne];simp
theorem Clear.full {n:Nat} {t:nT} (h:Clear n n t) (z:Nat→Int) (i:Nat) (hi:i < n):ip (n+1) (t i) z=z i+t i n * z n:=by
 unfold ip
 rw [tO i n (n+1) hi (by omega) fun j hj n1 n2=>by rw [h.nq i j hi (by omega) (Ne.symm n1)];omega,h.one i hi];omega
theorem Clear.stuck {n c:Nat} {t:nT} (h:Clear n c t) (hc:c < n) (hz:∀ i,c≤i→i < n→t i c=0) :
  ∃ z:Nat→Int,pR n (n+1) t z∧z c=1∧z n=0:=by
 refine ⟨fun j=>if j < c then - t j c else if j=c then 1 else 0,fun i hi=>?_,by simp,by simp;omega⟩
 have:ip (n+1) (t i) (fun j=>if j < c then - t j c else if j=c then 1 else 0)=0:=by
  unfold ip
  by_cases l:i < c
  ·rw [tO i c (n+1) l (by omega) fun j hj n1 n2=>?_]
   ·simp [l,h.one i l];omega
   ·by_cases l2:j < c
    ·rw [h.nq i j hi l2 (Ne.symm n1)];simp
    ·simp [l2,n2]
  ·refine qS _ fun j hj=>?_
   by_cases l2:j < c
   ·rw [h.nq i j hi l2 (by omega)];simp
   ·by_cases e:j=c
    ·subst e;rw [hz i (by omega) hi];simp
    ·simp [l2,e]
 rw [this];exact ⟨0,by simp⟩
theorem Ja:∀ (n:Nat) (al:Nat→Int) (x:Nat→Int),(∀ i,i < n→¬ (97:Int) ∣ al i)→(∀ i j,i < n→j < n→i≠j→¬ (97:Int) ∣ al i - al j) →
  (∀ j,j < n→(97:Int) ∣ sumTo n fun i=>al i ^ (j+1) * x i)→∀ i,i < n→(97:Int) ∣ x i
 | 0,_,_,_,_,_,i,hi=>by omega
 | n+1,al,x,h0,hd,hk,i,hi=>by
  have hy:∀ i,i < n→(97:Int) ∣ (al i - al n) * x i:=by
   refine Ja n al (fun i=>(al i - al n) * x i) (fun i hi=>h0 i (by omega)) (fun i j hi hj=>hd i j (by omega) (by omega)) fun j hj=>?_
   have h1:=hk (j+1) (by omega)
   have h2:(97:Int) ∣ al n * sumTo (n+1) fun i=>al i ^ (j+1) * x i:=Int.dvd_trans (hk j (by omega)) (Int.dvd_mul_left _ _)
   have h3:=Int.dvd_sub h1 h2
   have e:(sumTo (n+1) fun i=>al i ^ (j+1+1) * x i) - al n * (sumTo (n+1) fun i=>al i ^ (j+1) * x i)=sumTo n fun i=>al i ^ (j+1) * ((al i - al n) * x i):=by
    rw [sumTo,sumTo]
    have:=dU 1 (- al n) (fun i=>al i ^ (j+1+1) * x i) (fun i=>al i ^ (j+1) * x i) n
    rw [show (sumTo n fun i=>al i ^ (j+1) * ((al i - al n) * x i))=sumTo n (fun i=>1 * (al i ^ (j+1+1) * x i)+- al n * (al i ^ (j+1) * x i)) from bE n fun i _=>by rw [Int.pow_succ (al i) (j+1)];grind,this,Int.pow_succ (al n) (j+1)]
    grind
   rwa [e] at h3
  have hx:∀ i,i < n→(97:Int) ∣ x i:=fun i hi=>prime (hy i hi) (hd i n (by omega) (by omega) (by omega))
  by_cases e:i=n
  ·subst e
   have h1:=hk 0 (by omega)
   rw [sumTo] at h1
   have h2:(97:Int) ∣ sumTo i fun k=>al k ^ (0+1) * x k:=gT i fun k hk=>Int.dvd_trans (hx k hk) (Int.dvd_mul_left _ _)
   have h3:=Int.dvd_sub h1 h2
   rw [show (sumTo i fun k=>al k ^ (0+1) * x k)+al i ^ (0+1) * x i - (sumTo i fun k=>al k ^ (0+1) * x k)=al i * x i by rw [Int.pow_succ];grind] at h3
   exact prime h3 (h0 i (by omega))
  ·exact hx i (by omega)
end My
namespace My
def T (x:Int) (n:Nat) (f:Nat→Int):Int:=sumTo n (fun i=>f i * x ^ i) % 97
theorem aBs (x:Int) (n:Nat) (f:Nat→Int):0≤T x n f:=Int.emod_nonneg _ (by decide)
theorem aBt (x:Int) (n:Nat) (f:Nat→Int):T x n f < 97:=Int.emod_lt_of_pos _ (by decide)
theorem RF {x:Int} {n:Nat} {f g:Nat→Int} (h:∀ i,i < n→f i=g i):T x n f=T x n g:=by
 unfold T
 rw [bE n fun j hj=>by rw [h j hj]]
theorem tP {x:Int} {n:Nat} {f:Nat→Int}:T x n f=0↔(97:Int) ∣ sumTo n (fun i=>f i * x ^ i):=by
 unfold T
 omega
def St (j:Nat):Int:=([5,25,28,43,21,8]:List Int).getD j 0
theorem aBu:∀ j:Nat,j < 6→P 5 (1+(j:Int))=St j:=by decide
def hv (f:Nat→Int) (n:Nat) (x:Int):Nat→Int
 | 0=>0
 | i+1=>(hv f n x i * x+f (n - 1 - i)) % 97
theorem TY (f:Nat→Int) (n:Nat) (x:Int) (i:Nat):0≤hv f n x i:=by
 cases i with
 | zero=>exact Int.le_refl _
 | succ i=>exact Int.emod_nonneg _ (by decide)
theorem TZ (f:Nat→Int) (n:Nat) (x:Int) (i:Nat):hv f n x i < 97:=by
 cases i with
 | zero=>exact (by decide:(0:Int) < 97)
 | succ i=>exact Int.emod_lt_of_pos _ (by decide)
theorem Oo (f:Nat→Int) (n:Nat) (x:Int):∀ i,i≤n→(97:Int) ∣ hv f n x i - sumTo i (fun k=>f (n - i+k) * x ^ k)
 | 0,_=>by simp [hv,sumTo]
 | i+1,h=>by
  obtain ⟨a,ha⟩:=Oo f n x i (by omega)
  have e:sumTo (i+1) (fun k=>f (n - (i+1)+k) * x ^ k)=f (n - 1 - i)+x * sumTo i (fun k=>f (n - i+k) * x ^ k):=by
   rw [gS,← pQ]
   have e1:f (n - (i+1)+0) * x ^ 0=f (n - 1 - i):=by
    rw [show n - (i+1)+0=n - 1 - i by omega];simp
   rw [e1]
   congr 1
   refine bE i fun j hj=>?_
   rw [show n - (i+1)+(j+1)=n - i+j by omega,Int.pow_succ]
   grind
  rw [e,hv]
  generalize sumTo i (fun k=>f (n - i+k) * x ^ k)=S at ha
  have hq:hv f n x i=S+97 * a:=by omega
  rw [hq,Int.emod_def]
  exact ⟨a * x - ((S+97 * a) * x+f (n - 1 - i)) / 97,by grind⟩
theorem aBv (f:Nat→Int) (n:Nat) (x:Int):hv f n x n=T x n f:=by
 have h:=Oo f n x n (Nat.le_refl n)
 rw [bE n (g:=fun k=>f k * x ^ k) fun j hj=>by rw [show n - n+j=j by omega]] at h
 have h0:=TY f n x n
 have h1:=TZ f n x n
 unfold T
 omega
def Dv (k:Nat):Int:=([21,80,53,2,55,63]:List Int).getD k 0
def rs (f:Nat→Int):Nat→Nat→Int
 | 0,_=>0
 | m+1,k=>((if k < 5 then rs f m (k+1) else 0) - (rs f m 0+f m) * Dv k) % 97
theorem YB (f:Nat→Int) (m k:Nat):0≤rs f m k:=by
 cases m with
 | zero=>exact Int.le_refl _
 | succ m=>exact Int.emod_nonneg _ (by decide)
theorem YC (f:Nat→Int) (m k:Nat):rs f m k < 97:=by
 cases m with
 | zero=>exact (by decide:(0:Int) < 97)
 | succ m=>exact Int.emod_lt_of_pos _ (by decide)
def six (y:Int) (r:Nat→Int):Int:=r 0+r 1 * y+r 2 * (y * y)+r 3 * (y * y * y)+r 4 * (y * y * y * y)+r 5 * (y * y * y * y * y)
theorem Oq:∀ j < 6,(97:Int) ∣ 1+St j * six (St j) Dv:=by decide
theorem RG {y pm S fm a b:Int} {r:Nat→Int} (ha:pm * six y r - S=97 * a) (hb:1+y * six y Dv=97 * b) :
  (97:Int) ∣ pm * y * six y (fun k=>((if k < 5 then r (k+1) else 0) - (r 0+fm) * Dv k) % 97) - (S+fm * pm):=by
 simp only [six] at *
 simp only [show (0:Nat) < 5 by decide,show (1:Nat) < 5 by decide,show (2:Nat) < 5 by decide,show (3:Nat) < 5 by decide,show (4:Nat) < 5 by decide,show ¬ (5:Nat) < 5 by decide,if_true,if_false,Int.emod_def]
 generalize (r (0+1) - (r 0+fm) * Dv 0) / 97=q0
 generalize (r (1+1) - (r 0+fm) * Dv 1) / 97=q1
 generalize (r (2+1) - (r 0+fm) * Dv 2) / 97=q2
 generalize (r (3+1) - (r 0+fm) * Dv 3) / 97=q3
 generalize (r (4+1) - (r 0+fm) * Dv 4) / 97=q4
 generalize ((0:Int) - (r 0+fm) * Dv 5) / 97=q5
 generalize r 0=r0 at *
 generalize r (0+1)=r1 at *
 generalize r (1+1)=r2 at *
 generalize r (2+1)=r3 at *
 generalize r (3+1)=r4 at *
 generalize r (4+1)=r5 at *
 generalize Dv 0=d0 at *
 generalize Dv 1=d1 at *
 generalize Dv 2=d2 at *
 generalize Dv 3=d3 at *
 generalize Dv 4=d4 at *
 generalize Dv 5=d5 at *
 have e:pm * y * (r1 - (r0+fm) * d0 - 97 * q0+(r2 - (r0+fm) * d1 - 97 * q1) * y+(r3 - (r0+fm) * d2 - 97 * q2) * (y * y)+(r4 - (r0+fm) * d3 - 97 * q3) * (y * y * y)+(r5 - (r0+fm) * d4 - 97 * q4) * (y * y * y * y)+(0 - (r0+fm) * d5 - 97 * q5) * (y * y * y * y * y)) - (S+fm * pm)
   = (pm * (r0+r1 * y+r2 * (y * y)+r3 * (y * y * y)+r4 * (y * y * y * y)+r5 * (y * y * y * y * y)) - S) - pm * (r0+fm) * (1+y * (d0+d1 * y+d2 * (y * y)+d3 * (y * y * y)+d4 * (y * y * y * y)+d5 * (y * y * y * y * y))) - 97 * (pm * (q0 * y+q1 * (y * y)+q2 * (y * y * y)+q3 * (y * y * y * y)+q4 * (y * y * y * y * y)+q5 * (y * y * y * y * y * y))):=by grind
 rw [e,ha,hb]
 exact ⟨a - pm * (r0+fm) * b - pm * (q0 * y+q1 * (y * y)+q2 * (y * y * y)+q3 * (y * y * y * y)+q4 * (y * y * y * y * y)+q5 * (y * y * y * y * y * y)),by grind⟩
theorem Ot {y:Int} (hy:(97:Int) ∣ 1+y * six y Dv) (f:Nat→Int):∀ m,(97:Int) ∣ y ^ m * six y (rs f m) - sumTo m (fun i=>f i * y ^ i)
 | 0=>by simp [six,rs,sumTo]
 | m+1=>by
  obtain ⟨a,ha⟩:=Ot hy f m
  obtain ⟨b,hb⟩:=hy
  rw [sumTo,Int.pow_succ]
  exact RG ha hb
def lI (f:Nat→Int) (i:Nat):Int:=if i < 18 then f i else -(rs f 18 (i - 18)) % 97
theorem RH {f:Nat→Int} (h:∀ i,i < 18→0≤f i∧f i < 97) (i:Nat):0≤lI f i∧lI f i < 97:=by
 unfold lI
 split
 ·rename_i h1;exact h i h1
 ·exact ⟨Int.emod_nonneg _ (by decide),Int.emod_lt_of_pos _ (by decide)⟩
theorem zF (f:Nat→Int) (n:Nat):∀ m,sumTo (n+m) f=sumTo n f+sumTo m (fun i=>f (n+i))
 | 0=>by simp [sumTo]
 | m+1=>by rw [← Nat.add_assoc,sumTo,zF f n m,sumTo];omega
theorem RI (y:Int) (r:Nat→Int):sumTo 6 (fun k=>r k * y ^ k)=six y r:=by
 simp only [sumTo,six,Int.pow_succ,Int.pow_zero]
 grind
theorem RJ {y:Int} (hy:(97:Int) ∣ 1+y * six y Dv) (f:Nat→Int):T y 24 (lI f)=0:=by
 rw [tP,show (24:Nat)=18+6 from rfl,zF]
 have e1:sumTo 18 (fun i=>lI f i * y ^ i)=sumTo 18 (fun i=>f i * y ^ i):=bE 18 fun j hj=>by rw [lI,if_pos hj]
 have e2:sumTo 6 (fun i=>lI f (18+i) * y ^ (18+i))=y ^ 18 * six y (fun k=>-(rs f 18 k) % 97):=by
  rw [← RI,← pQ]
  refine bE 6 fun j hj=>?_
  rw [lI,if_neg (by omega),Int.pow_add,show 18+j - 18=j by omega]
  grind
 rw [e1,e2]
 obtain ⟨a,ha⟩:=Ot hy f 18
 generalize sumTo 18 (fun i=>f i * y ^ i)=S at *
 generalize y ^ 18=pm at *
 generalize rs f 18=r at *
 simp only [six,Int.emod_def] at *
 generalize (-(r 0)) / 97=q0
 generalize (-(r 1)) / 97=q1
 generalize (-(r 2)) / 97=q2
 generalize (-(r 3)) / 97=q3
 generalize (-(r 4)) / 97=q4
 generalize (-(r 5)) / 97=q5
 refine ⟨-a - pm * (q0+q1 * y+q2 * (y * y)+q3 * (y * y * y)+q4 * (y * y * y * y)+q5 * (y * y * y * y * y)),?_⟩
 grind
def bq (f:Nat→Int):Prop:=∀ j,j < 6→T (St j) 24 f=0
theorem AA (f:Nat→Int):bq (lI f):=fun j hj=>RJ (Oq j hj) f
theorem fh {y:Int} (h:¬ (97:Int) ∣ y):∀ n:Nat,¬ (97:Int) ∣ y ^ n
 | 0=>by rw [Int.pow_zero];decide
 | n+1=>fun z=>by
  rw [Int.pow_succ] at z
  exact h (prime z (fh h n))
end My
namespace My
def fG (n:Nat) (f g:Nat→Int):List Nat:=(List.range n).filter fun i=>!decide (f i=g i)
theorem Mj (n:Nat) (f g:Nat→Int):fG (n+1) f g=if f n=g n then fG n f g else fG n f g ++ [n]:=by
 unfold fG
 rw [List.range_succ,List.filter_append]
 by_cases h:f n=g n <;> simp [h]
theorem cE {n:Nat} {f g:Nat→Int} {i:Nat}:i ∈ fG n f g↔i < n∧f i≠g i:=by
 unfold fG
 simp
theorem gU (n:Nat) (f g:Nat→Int):(fG n f g).Nodup:=List.Pairwise.filter _ List.nodup_range
def lsum (l:List Nat) (h:Nat→Int):Int:=sumTo l.length fun k=>h (l.getD k 0)
theorem lsum_snoc (l:List Nat) (n:Nat) (h:Nat→Int):lsum (l ++ [n]) h=lsum l h+h n:=by
 unfold lsum
 rw [List.length_append,List.length_singleton,sumTo]
 congr 1
 ·refine bE _ fun j hj=>?_
  simp [List.getD,List.getElem?_append_left hj]
 ·simp [List.getD]
theorem Ou (n:Nat) (f g:Nat→Int) (h:Nat→Int) (hz:∀ i,i < n→f i=g i→h i=0):sumTo n h=lsum (fG n f g) h:=by
 induction n with
 | zero=>rfl
 | succ n ih =>
  rw [sumTo,ih fun i hi=>hz i (by omega),Mj]
  by_cases e:f n=g n
  ·rw [if_pos e,hz n (by omega) e];omega
  ·rw [if_neg e,lsum_snoc]
theorem U9:∀ j:Nat,j < 6→St j=5 ^ (j+1) % 97:=by decide
theorem jB:¬ (97:Int) ∣ 5:=by decide
theorem wA:∀ p:Nat,p < 24→∀ q:Nat,q < 24→p≠q→¬ (97:Int) ∣ 5 ^ p - 5 ^ q:=by decide +kernel
theorem LS {a b:Int} (h:(97:Int) ∣ a - b):∀ n:Nat,(97:Int) ∣ a ^ n - b ^ n
 | 0=>by simp
 | n+1=>by
  obtain ⟨c,hc⟩:=h
  obtain ⟨d,hd⟩:=LS ⟨c,hc⟩ n
  rw [Int.pow_succ,Int.pow_succ]
  exact ⟨d * a+b ^ n * c,by
   have e:a ^ n * a - b ^ n * b=(a ^ n - b ^ n) * a+b ^ n * (a - b):=by grind
   rw [e,hd,hc];grind⟩
theorem r8 {j p:Nat} (hj:j < 6):(97:Int) ∣ St j ^ p - (5 ^ p) ^ (j+1):=by
 have h:(97:Int) ∣ St j - 5 ^ (j+1):=by rw [U9 j hj];exact fg _
 have:=LS h p
 rwa [← Int.pow_mul,Nat.mul_comm,Int.pow_mul] at this
theorem Ov {l:List Nat} {z:Nat→Int} (hn:l.Nodup) (hb:∀ p ∈ l,p < 24) (hl:l.length≤6) (hs:∀ j,j < l.length→(97:Int) ∣ lsum l fun p=>z p * St j ^ p):∀ p ∈ l,(97:Int) ∣ z p:=by
 intro p hp
 obtain ⟨k,hk,rfl⟩:=List.getElem_of_mem hp
 have e:∀ k,(h:k < l.length)→l.getD k 0=l[k]:=fun k h=>by simp [List.getD,h]
 rw [← e k hk]
 refine Ja l.length (fun k=>5 ^ l.getD k 0) (fun k=>z (l.getD k 0)) (fun i _=>fh jB _) (fun i j hi hj hij=>?_) (fun j hj=>?_) k hk
 ·refine wA _ (hb _ (by rw [e i hi];exact List.getElem_mem _)) _ (hb _ (by rw [e j hj];exact List.getElem_mem _)) fun q=>hij ?_
  rw [e i hi,e j hj] at q
  exact (List.getElem_inj hn).mp q
 ·have h1:=hs j hj
  unfold lsum at h1
  have h2:(97:Int) ∣ (sumTo l.length fun k=>(5 ^ l.getD k 0) ^ (j+1) * z (l.getD k 0)) - sumTo l.length fun k=>z (l.getD k 0) * St j ^ l.getD k 0:=by
   have h3:=dU 1 (-1) (fun k=>(5 ^ l.getD k 0) ^ (j+1) * z (l.getD k 0)) (fun k=>z (l.getD k 0) * St j ^ l.getD k 0) l.length
   have h4:(97:Int) ∣ sumTo l.length fun k=>1 * ((5 ^ l.getD k 0) ^ (j+1) * z (l.getD k 0))+-1 * (z (l.getD k 0) * St j ^ l.getD k 0):=gT _ fun k _=>by
    obtain ⟨c,hc⟩:=r8 (p:=l.getD k 0) (show j < 6 by omega)
    refine ⟨-(c * z (l.getD k 0)),?_⟩
    generalize St j ^ l.getD k 0=A at *
    generalize ((5:Int) ^ l.getD k 0) ^ (j+1)=B at *
    have:B=A - 97 * c:=by omega
    rw [this];grind
   rw [h3] at h4
   have e5:∀ a b:Int,1 * a+-1 * b=a - b:=fun a b=>by omega
   rw [e5] at h4
   exact h4
  have h5:=Int.dvd_add h2 h1
  rwa [Int.sub_add_cancel] at h5
theorem HH {n:Nat} {f g:Nat→Int} (y:Int):sumTo n (fun i=>f i * y ^ i) - sumTo n (fun i=>g i * y ^ i)=lsum (fG n f g) fun i=>(f i - g i) * y ^ i:=by
 rw [← Ou n f g _ fun i _ e=>by rw [e];grind]
 have h1:=dU 1 (-1) (fun i=>f i * y ^ i) (fun i=>g i * y ^ i) n
 have h2:sumTo n (fun j=>1 * (f j * y ^ j)+-1 * (g j * y ^ j))=sumTo n fun i=>(f i - g i) * y ^ i:=bE n fun j _=>by grind
 rw [← h2,h1];omega
theorem Ta {f g:Nat→Int} (bf:∀ i,i < 24→0≤f i∧f i < 97) (bg:∀ i,i < 24→0≤g i∧g i < 97) (hf:bq f) (hg:bq g) (h:(fG 24 f g).length≤6):∀ i,i < 24→f i=g i:=by
 intro i hi
 apply Classical.byContradiction
 intro QO
 have hm:i ∈ fG 24 f g:=cE.mpr ⟨hi,QO⟩
 have:=Ov (z:=fun i=>f i - g i) (gU _ _ _) (fun p hp=>(cE.mp hp).1) h (fun j hj=>by
  have h1:=tP.mp (hf j (by omega))
  have h2:=tP.mp (hg j (by omega))
  rw [← HH]
  exact Int.dvd_sub h1 h2) i hm
 have b1:=bf i hi
 have b2:=bg i hi
 omega
theorem bq.congr {f g:Nat→Int} (h:∀ i,i < 24→f i=g i) (hf:bq f):bq g:=fun j hj=>by rw [← RF h];exact hf j hj
theorem bq.VA {f:Nat→Int} (h:∀ j,j < 6→(97:Int) ∣ sumTo 24 fun i=>f i * St j ^ i):bq fun i=>f i % 97:=fun j hj=>by
 rw [tP]
 have h1:=dU 1 (-1) (fun i=>f i * St j ^ i) (fun i=>f i % 97 * St j ^ i) 24
 have h2:(97:Int) ∣ sumTo 24 fun i=>1 * (f i * St j ^ i)+-1 * (f i % 97 * St j ^ i):=gT _ fun i _=>by
  rw [Int.emod_def]
  exact ⟨f i / 97 * St j ^ i,by grind⟩
 rw [h1] at h2
 have h3:=h j hj
 omega
theorem bq.times {f:Nat→Int} (hf:bq f) (c:Int):bq fun i=>f i * c % 97:=bq.VA fun j hj=>by
 have h:=tP.mp (hf j hj)
 have e:sumTo 24 (fun i=>f i * c * St j ^ i)=c * sumTo 24 (fun i=>f i * St j ^ i):=by rw [← pQ];exact bE _ fun i _=>by grind
 rw [e]
 exact Int.dvd_trans h (Int.dvd_mul_left _ _)
end My
namespace My
theorem gW:∀ (l L:List Nat),l.Nodup→(∀ x ∈ l,x ∈ L)→l.length≤L.length
 | [],_,_,_=>Nat.zero_le _
 | a :: l,L,hn,hs=>by
  have ha:=hs a List.mem_cons_self
  have WG:=List.nodup_cons.mp hn
  have:=gW l (L.erase a) WG.2 fun x hx=>(List.mem_erase_of_ne (fun e=>WG.1 (by rw [← e];exact hx))).mpr (hs x (List.mem_cons_of_mem _ hx))
  rw [List.length_erase_of_mem ha] at this
  have hp:0 < L.length:=List.length_pos_of_mem ha
  rw [List.length_cons]
  omega
theorem HI (n:Nat) (f g:Nat→Int):(fG n f g).Pairwise (· < ·):=List.Pairwise.filter _ List.pairwise_lt_range
theorem dj {p q:Nat} (hp:p < 24) (hq:q < 24) (h:p≠q):¬ (97:Int) ∣ 5 ^ p - 5 ^ q:=wA p hp q hq h
def M (s:Nat→Int):nT:=fun i j=>if j=0 then s (i+1) else -(s i) % 97
theorem YD (s z:Nat→Int) (i:Nat):(97:Int) ∣ ip 2 (M s i) z - (s (i+1) * z 0 - s i * z 1):=by
 have e:ip 2 (M s i) z=s (i+1) * z 0+-(s i) % 97 * z 1:=by simp [ip,sumTo,M]
 rw [e,Int.emod_def]
 exact ⟨-((-(s i)) / 97 * z 1),by grind⟩
theorem Jb {s:Nat→Int} (h:¬ (97:Int) ∣ s 0 * s 2 - s 1 * s 1):vR 2 (M s):=fun z hz j hj=>by
 have k0:=Int.dvd_sub (hz 0 (by decide)) (YD s z 0)
 have k1:=Int.dvd_sub (hz 1 (by decide)) (YD s z 1)
 rw [Int.sub_sub_self] at k0 k1
 obtain ⟨a,ha⟩:=k0
 obtain ⟨b,hb⟩:=k1
 match j,hj with
 | 0,_ =>
  refine prime (a:=s 0 * s 2 - s 1 * s 1) ⟨s 0 * b - s 1 * a,?_⟩ h
  have e:(s 0 * s 2 - s 1 * s 1) * z 0=s 0 * (s (1+1) * z 0 - s 1 * z 1) - s 1 * (s (0+1) * z 0 - s 0 * z 1):=by grind
  rw [e,ha,hb];grind
 | 1,_ =>
  refine prime (a:=s 0 * s 2 - s 1 * s 1) ⟨s 1 * b - s 2 * a,?_⟩ h
  have e:(s 0 * s 2 - s 1 * s 1) * z 1=s 1 * (s (1+1) * z 0 - s 1 * z 1) - s 2 * (s (0+1) * z 0 - s 0 * z 1):=by grind
  rw [e,ha,hb];grind
theorem RK {s:Nat→Int} {X:Int} (h0:(97:Int) ∣ s 1 - s 0 * X) (h1:(97:Int) ∣ s 2 - s 1 * X):¬ vR 2 (M s):=fun r=>by
 have:=r (fun j=>if j=0 then 1 else X) (fun i hi=>by
  have k:=YD s (fun j=>if j=0 then 1 else X) i
  have h:(97:Int) ∣ s (i+1) * (if (0:Nat)=0 then 1 else X) - s i * (if (1:Nat)=0 then 1 else X):=by
   match i,hi with
   | 0,_=>simpa using h0
   | 1,_=>simpa using h1
  have:=Int.dvd_add k h
  rwa [Int.sub_add_cancel] at this) 0 (by decide)
 have h1:(97:Int) ∣ 1:=this
 exact absurd h1 (by decide)
theorem RL {s:Nat→Int} {e d X Y:Int} (h:∀ j,j < 4→(97:Int) ∣ s j - (e * X ^ (j+1)+d * Y ^ (j+1))):(97:Int) ∣ (s 0 * s 2 - s 1 * s 1) - e * d * (X * Y) * ((X - Y) * (X - Y)):=by
 obtain ⟨a,ha⟩:=h 0 (by decide)
 obtain ⟨b,hb⟩:=h 1 (by decide)
 obtain ⟨c,hc⟩:=h 2 (by decide)
 simp only [Int.pow_succ,Int.pow_zero,Int.one_mul,Nat.zero_add] at ha hb hc
 have e0:s 0=e * X+d * Y+97 * a:=by omega
 have e1:s 1=e * (X * X)+d * (Y * Y)+97 * b:=by omega
 have e2:s 2=e * (X * X * X)+d * (Y * Y * Y)+97 * c:=by omega
 rw [e0,e1,e2]
 exact ⟨(e * X+d * Y) * c+a * (e * (X * X * X)+d * (Y * Y * Y))+97 * a * c - 2 * (e * (X * X)+d * (Y * Y)) * b - 97 * b * b,by grind⟩
theorem Ow {s x:Nat→Int} {e d X Y:Int} (r:vR 2 (M s)) (h:∀ j,j < 4→(97:Int) ∣ s j - (e * X ^ (j+1)+d * Y ^ (j+1))) (hx:∀ i,i < 2→(97:Int) ∣ ip 2 (M s i) x - s (i+2)) :
  (97:Int) ∣ x 0 - (X+Y)∧(97:Int) ∣ x 1 - X * Y:=by
 have k:pR 2 2 (M s) fun j=>if j=0 then x 0 - (X+Y) else x 1 - X * Y:=fun i hi=>by
  have k1:=YD s (fun j=>if j=0 then x 0 - (X+Y) else x 1 - X * Y) i
  have k2:=Int.dvd_sub (hx i hi) (YD s x i)
  have k3:(97:Int) ∣ s (i+2) - (s (i+1) * (X+Y) - s i * (X * Y)):=by
   obtain ⟨a,ha⟩:=h i (by omega)
   obtain ⟨b,hb⟩:=h (i+1) (by omega)
   obtain ⟨c,hc⟩:=h (i+2) (by omega)
   rw [Int.pow_succ X (i+2),Int.pow_succ X (i+1),Int.pow_succ Y (i+2),Int.pow_succ Y (i+1)] at hc
   rw [Int.pow_succ X (i+1),Int.pow_succ Y (i+1)] at hb
   generalize X ^ (i+1)=A at *
   generalize Y ^ (i+1)=B at *
   have e0:s i=e * A+d * B+97 * a:=by omega
   have e1:s (i+1)=e * (A * X)+d * (B * Y)+97 * b:=by omega
   have e2:s (i+2)=e * (A * X * X)+d * (B * Y * Y)+97 * c:=by omega
   rw [e0,e1,e2]
   exact ⟨c - b * (X+Y)+a * (X * Y),by grind⟩
  have e1:(if (0:Nat)=0 then x 0 - (X+Y) else x 1 - X * Y)=x 0 - (X+Y):=rfl
  have e2:(if (1:Nat)=0 then x 0 - (X+Y) else x 1 - X * Y)=x 1 - X * Y:=rfl
  rw [e1,e2] at k1
  generalize ip 2 (M s i) (fun j=>if j=0 then x 0 - (X+Y) else x 1 - X * Y)=I at *
  generalize ip 2 (M s i) x=J at *
  obtain ⟨a,ha⟩:=k1
  obtain ⟨b,hb⟩:=k2
  obtain ⟨c,hc⟩:=k3
  refine ⟨a+b+c,?_⟩
  have:I=97 * a+(s (i+1) * (x 0 - (X+Y)) - s i * (x 1 - X * Y)):=by omega
  have e3:s (i+1) * (x 0 - (X+Y)) - s i * (x 1 - X * Y)=(s (i+1) * x 0 - s i * x 1) - (s (i+1) * (X+Y) - s i * (X * Y)):=by grind
  omega
 exact ⟨r _ k 0 (by decide),r _ k 1 (by decide)⟩
def LU (t u:Int) (k:Nat):Bool:=decide ((P 5 k * P 5 k - t * P 5 k+u) % 97=0)
def roots (t u:Int):List Nat:=(List.range 24).filter (LU t u)
theorem P5 (k:Nat):(97:Int) ∣ P 5 k - 5 ^ k:=by
 unfold P
 rw [Int.toNat_natCast]
 exact fg _
theorem Ox {t u X Y:Int} {k:Nat} (ht:(97:Int) ∣ t - (X+Y)) (hu:(97:Int) ∣ u - X * Y):LU t u k=true↔(97:Int) ∣ (5 ^ k - X) * (5 ^ k - Y):=by
 obtain ⟨a,ha⟩:=ht
 obtain ⟨b,hb⟩:=hu
 obtain ⟨c,hc⟩:=P5 k
 unfold LU
 rw [decide_eq_true_iff]
 generalize (5:Int) ^ k=V at *
 have e0:t=X+Y+97 * a:=by omega
 have e1:u=X * Y+97 * b:=by omega
 have e2:P 5 k=V+97 * c:=by omega
 have e3:P 5 k * P 5 k - t * P 5 k+u=(V - X) * (V - Y)+97 * (2 * V * c+97 * c * c - (X+Y) * c - a * (V+97 * c)+b):=by rw [e0,e1,e2];grind
 rw [e3]
 generalize (V - X) * (V - Y)=W
 omega
theorem Ml (t u:Int):(roots t u).length≤2:=by
 apply Classical.byContradiction
 intro h
 have hl:2 < (roots t u).length:=by omega
 have nd:(roots t u).Nodup:=List.Pairwise.filter _ List.nodup_range
 have at_:∀ (i:Nat) (hi:i < (roots t u).length),(roots t u)[i] < 24∧(97:Int) ∣ 5 ^ (roots t u)[i] * 5 ^ (roots t u)[i] - t * 5 ^ (roots t u)[i]+u:=fun i hi=>by
  have hm:(roots t u)[i] ∈ roots t u:=List.getElem_mem _
  generalize (roots t u)[i]=k at hm
  unfold roots at hm
  rw [List.mem_filter,List.mem_range] at hm
  refine ⟨hm.1,?_⟩
  have h2:=of_decide_eq_true hm.2
  obtain ⟨c,hc⟩:=P5 k
  generalize (5:Int) ^ k=V at *
  have e2:P 5 k=V+97 * c:=by omega
  have e3:P 5 k * P 5 k - t * P 5 k+u=V * V - t * V+u+97 * (2 * V * c+97 * c * c - t * c):=by rw [e2];grind
  omega
 obtain ⟨a0,a1⟩:=at_ 0 (by omega)
 obtain ⟨b0,b1⟩:=at_ 1 (by omega)
 obtain ⟨c0,c1⟩:=at_ 2 (by omega)
 have n01:(roots t u)[0]≠(roots t u)[1]:=fun e=>absurd ((List.getElem_inj nd).mp e) (by decide)
 have n02:(roots t u)[0]≠(roots t u)[2]:=fun e=>absurd ((List.getElem_inj nd).mp e) (by decide)
 have n12:(roots t u)[1]≠(roots t u)[2]:=fun e=>absurd ((List.getElem_inj nd).mp e) (by decide)
 have f01:=dj a0 b0 n01
 have f02:=dj a0 c0 n02
 have f12:=dj b0 c0 n12
 generalize (5:Int) ^ (roots t u)[0]=A at *
 generalize (5:Int) ^ (roots t u)[1]=B at *
 generalize (5:Int) ^ (roots t u)[2]=C at *
 have k1:(97:Int) ∣ (A - B) * (A+B - t):=by
  have:=Int.dvd_sub a1 b1
  rwa [show A * A - t * A+u - (B * B - t * B+u)=(A - B) * (A+B - t) by grind] at this
 have k2:(97:Int) ∣ (A - C) * (A+C - t):=by
  have:=Int.dvd_sub a1 c1
  rwa [show A * A - t * A+u - (C * C - t * C+u)=(A - C) * (A+C - t) by grind] at this
 have k3:=prime k1 f01
 have k4:=prime k2 f02
 have:=Int.dvd_sub k3 k4
 rw [show A+B - t - (A+C - t)=B - C by omega] at this
 exact f12 this
theorem Jc:∀ p:Nat,p < 24→∀ q:Nat,q < 24→p < q→(List.range 24).filter (fun k=>decide (k=p∨k=q))=[p,q]:=by decide +kernel
structure Oy (s:Nat→Int) (ps:List Nat):Prop where
 nd:ps.Nodup
 b:∀ p ∈ ps,p < 24
 xm:ps.length≤2
 one:∀ (e:Int) (p:Nat),p < 24→¬ (97:Int) ∣ e→(∀ j,j < 4→(97:Int) ∣ s j - e * (5 ^ p) ^ (j+1))→ps=[p]
 two:∀ (e d:Int) (p q:Nat),p < q→q < 24→¬ (97:Int) ∣ e→¬ (97:Int) ∣ d→(∀ j,j < 4→(97:Int) ∣ s j - (e * (5 ^ p) ^ (j+1)+d * (5 ^ q) ^ (j+1)))→ps=[p,q]
theorem Jd {s:Nat→Int} {e X:Int} (h:∀ j,j < 4→(97:Int) ∣ s j - e * X ^ (j+1)) (j:Nat) (hj:j < 3):(97:Int) ∣ s (j+1) - s j * X:=by
 obtain ⟨a,ha⟩:=h j (by omega)
 obtain ⟨b,hb⟩:=h (j+1) (by omega)
 rw [Int.pow_succ X (j+1)] at hb
 generalize X ^ (j+1)=A at *
 have e0:s j=e * A+97 * a:=by omega
 have e1:s (j+1)=e * (A * X)+97 * b:=by omega
 rw [e0,e1]
 exact ⟨b - a * X,by grind⟩
theorem iD {a b:Int} (ha:¬ (97:Int) ∣ a) (hb:¬ (97:Int) ∣ b):¬ (97:Int) ∣ a * b:=fun z=>hb (prime z ha)
theorem RM {s:Nat→Int} {e d:Int} {p q:Nat} (RE:p < q) (hq:q < 24) (he:¬ (97:Int) ∣ e) (hd:¬ (97:Int) ∣ d) (h:∀ j,j < 4→(97:Int) ∣ s j - (e * (5 ^ p) ^ (j+1)+d * (5 ^ q) ^ (j+1))):vR 2 (M s):=by
 refine Jb fun z=>?_
 have k:=Int.dvd_sub z (RL h)
 rw [Int.sub_sub_self] at k
 have f:=dj (by omega:p < 24) hq (by omega)
 exact iD (iD (iD he hd) (iD (fh jB p) (fh jB q))) (iD f f) k
theorem Oz {s x:Nat→Int} (r:vR 2 (M s)) (hx:∀ i,i < 2→(97:Int) ∣ ip 2 (M s i) x - s (i+2)):Oy s (roots (x 0) (x 1)) where
 nd:=List.Pairwise.filter _ List.nodup_range
 b:=fun p hp=>List.mem_range.mp (List.mem_filter.mp hp).1
 xm:=Ml _ _
 one:=fun e p hp he h=>absurd r (RK (X:=5 ^ p) (Jd h 0 (by decide)) (Jd h 1 (by decide)))
 two:=fun e d p q RE hq he hd h=>by
  obtain ⟨ht,hu⟩:=Ow r h hx
  rw [← Jc p (by omega) q hq RE]
  unfold roots
  apply List.filter_congr
  intro k hk
  have hk':=List.mem_range.mp hk
  rw [Bool.eq_iff_iff,Ox ht hu,decide_eq_true_iff]
  constructor
  ·intro z
   apply Classical.byContradiction
   intro n
   exact iD (dj hk' (by omega) fun e=>n (.inl e)) (dj hk' hq fun e=>n (.inr e)) z
  ·rintro (e | e)
   ·rw [e,Int.sub_self,Int.zero_mul];exact Int.dvd_zero _
   ·rw [e,Int.sub_self,Int.mul_zero];exact Int.dvd_zero _
def nu (s:Nat→Int):List Nat:=if s 0=0∨s 1=0 then [] else if ex (s 1 * P (s 0) 95 % 97) < 24 then [(ex (s 1 * P (s 0) 95 % 97)).toNat] else []
theorem VB:∀ p:Nat,p < 24→ex ((5:Int) ^ p % 97)=p:=by decide +kernel
theorem RN {s:Nat→Int} (bs:∀ j,j < 4→0≤s j∧s j < 97) (r:¬ vR 2 (M s)):Oy s (nu s) where
 nd:=by
  unfold nu
  split
  ·exact List.nodup_nil
  ·split <;> simp
 b:=fun p hp=>by
  unfold nu at hp
  split at hp
  ·cases hp
  ·split at hp
   ·have:=List.mem_singleton.mp hp
    rename_i h
    have:=Ol (s 1 * P (s 0) 95 % 97)
    omega
   ·cases hp
 xm:=by
  unfold nu
  split
  ·exact Nat.zero_le _
  ·split <;> simp
 one:=fun e p hp he h=>by
  have b0:=bs 0 (by decide)
  have b1:=bs 1 (by decide)
  have u0:¬ (97:Int) ∣ s 0:=fun z=>by
   have:=Int.dvd_sub z (h 0 (by decide))
   rw [Int.sub_sub_self] at this
   exact iD he (fh (fh jB p) _) this
  have u1:¬ (97:Int) ∣ s 1:=fun z=>by
   have:=Int.dvd_sub z (h 1 (by decide))
   rw [Int.sub_sub_self] at this
   exact iD he (fh (fh jB p) _) this
  have n0:s 0≠0:=fun z=>u0 (by rw [z];exact Int.dvd_zero _)
  have n1:s 1≠0:=fun z=>u1 (by rw [z];exact Int.dvd_zero _)
  have hv:s 1 * P (s 0) 95 % 97=5 ^ p % 97:=by
   have k:=Jd h 0 (by decide)
   have i:=TX (a:=s 0) (by omega) b0.2
   obtain ⟨c,hc⟩:=k
   have e1:s 1=s 0 * 5 ^ p+97 * c:=by
    have:s (0+1)=s 1:=rfl
    omega
   have e2:P (s 0) 95 * s 0=1+97 * (P (s 0) 95 * s 0 / 97):=by omega
   generalize P (s 0) 95 * s 0 / 97=m at e2
   generalize (5:Int) ^ p=V at *
   have e3:s 1 * P (s 0) 95=V+97 * (m * V+c * P (s 0) 95):=by
    rw [e1]
    have:(s 0 * V+97 * c) * P (s 0) 95=(P (s 0) 95 * s 0) * V+97 * (c * P (s 0) 95):=by grind
    rw [this,e2];grind
   omega
  unfold nu
  rw [if_neg (by omega),hv,VB p hp,if_pos (by omega),Int.toNat_natCast]
 two:=fun e d p q RE hq he hd h=>absurd (RM RE hq he hd h) r
structure qT (f g:Nat→Int):Prop where
 b:∀ i,i < 24→0≤g i∧g i < 97
 sealed:bq g
 xm:(fG 24 f g).length≤2
theorem zG {f g:Nat→Int} (h:qT f g) {j:Nat} (hj:j < 6):(97:Int) ∣ T (St j) 24 f - lsum (fG 24 f g) fun i=>(f i - g i) * St j ^ i:=by
 rw [← HH]
 have h1:=tP.mp (h.sealed j hj)
 unfold T
 omega
theorem HJ {f g:Nat→Int} {ps:List Nat} (bf:∀ i,i < 24→0≤f i∧f i < 97) (h:qT f g) (hn:¬ bq f) (hp:Oy (fun j=>T (St j) 24 f) ps):ps=fG 24 f g:=by
 have hs:=fun (j:Nat) (hj:j < 4)=>zG h (show j < 6 by omega)
 have hm:∀ i,i ∈ fG 24 f g→i < 24∧¬ (97:Int) ∣ f i - g i:=fun i hi=>by
  obtain ⟨h1,h2⟩:=cE.mp hi
  have:=bf i h1
  have:=h.b i h1
  exact ⟨h1,by omega⟩
 have so:=HI 24 f g
 have xm:=h.xm
 match hl:fG 24 f g with
 | [] =>
  exfalso
  refine hn (h.sealed.congr fun i hi=>?_)
  apply Classical.byContradiction
  intro z
  have:=cE.mpr ⟨hi,fun e=>z e.symm⟩
  rw [hl] at this
  cases this
 | [p] =>
  rw [hl] at hs hm
  obtain ⟨p0,p1⟩:=hm p (by simp)
  refine hp.one (f p - g p) p p0 p1 fun j hj=>?_
  have k:=hs j hj
  have e:lsum [p] (fun i=>(f i - g i) * St j ^ i)=(f p - g p) * St j ^ p:=by simp [lsum,sumTo]
  rw [e] at k
  obtain ⟨c,hc⟩:=r8 (p:=p) (show j < 6 by omega)
  obtain ⟨a,ha⟩:=k
  generalize St j ^ p=A at *
  generalize ((5:Int) ^ p) ^ (j+1)=B at *
  have e2:A=B+97 * c:=by omega
  rw [e2] at ha
  exact ⟨a+(f p - g p) * c,by
   have:(f p - g p) * (B+97 * c)=(f p - g p) * B+97 * ((f p - g p) * c):=by grind
   omega⟩
 | [p,q] =>
  rw [hl] at hs hm so
  obtain ⟨p0,p1⟩:=hm p (by simp)
  obtain ⟨q0,q1⟩:=hm q (by simp)
  have RE:p < q:=by simpa using so
  refine hp.two (f p - g p) (f q - g q) p q RE q0 p1 q1 fun j hj=>?_
  have k:=hs j hj
  have e:lsum [p,q] (fun i=>(f i - g i) * St j ^ i)=(f p - g p) * St j ^ p+(f q - g q) * St j ^ q:=by simp [lsum,sumTo]
  rw [e] at k
  obtain ⟨c,hc⟩:=r8 (p:=p) (show j < 6 by omega)
  obtain ⟨d,hd⟩:=r8 (p:=q) (show j < 6 by omega)
  obtain ⟨a,ha⟩:=k
  generalize St j ^ p=A at *
  generalize ((5:Int) ^ p) ^ (j+1)=B at *
  generalize St j ^ q=C at *
  generalize ((5:Int) ^ q) ^ (j+1)=D at *
  have e2:A=B+97 * c:=by omega
  have e3:C=D+97 * d:=by omega
  rw [e2,e3] at ha
  exact ⟨a+(f p - g p) * c+(f q - g q) * d,by
   have:(f p - g p) * (B+97 * c)=(f p - g p) * B+97 * ((f p - g p) * c):=by grind
   have:(f q - g q) * (D+97 * d)=(f q - g q) * D+97 * ((f q - g q) * d):=by grind
   omega⟩
 | _ :: _ :: _ :: _=>rw [hl] at xm;simp at xm
def wB (f:Nat→Int) (ps:List Nat) (x:Nat→Int):Nat→Nat→Int
 | 0=>f
 | k+1=>fun j=>if j=ps.getD k 0 then (wB f ps x k (ps.getD k 0) - x k) % 97 else wB f ps x k j
theorem O0 {f:Nat→Int} (ps:List Nat) (x:Nat→Int) (bf:∀ i,i < 24→0≤f i∧f i < 97):∀ k i,i < 24→0≤wB f ps x k i∧wB f ps x k i < 97
 | 0,i,hi=>bf i hi
 | k+1,i,hi=>by
  unfold wB
  split
  ·exact ⟨Int.emod_nonneg _ (by decide),Int.emod_lt_of_pos _ (by decide)⟩
  ·exact O0 ps x bf k i hi
theorem AB (f:Nat→Int) (ps:List Nat) (x:Nat→Int):∀ k,k≤ps.length→∀ i,i ∉ ps→wB f ps x k i=f i
 | 0,_,i,_=>rfl
 | k+1,hk,i,hi=>by
  unfold wB
  rw [if_neg fun e=>hi (by rw [e];simp [List.getD,show k < ps.length by omega]),AB f ps x k (by omega) i hi]
theorem getD_get {ps:List Nat} {k:Nat} (h:k < ps.length):ps.getD k 0=ps[k]:=by simp [List.getD,h]
theorem O1 (f:Nat→Int) {ps:List Nat} (nd:ps.Nodup) (x:Nat→Int):∀ k,k≤ps.length→(∀ i,i < k→wB f ps x k (ps.getD i 0)=(f (ps.getD i 0) - x i) % 97)∧∀ i,k≤i→i < ps.length→wB f ps x k (ps.getD i 0)=f (ps.getD i 0)
 | 0,_=>⟨fun i hi=>by omega,fun i _ _=>rfl⟩
 | k+1,hk=>by
  obtain ⟨h1,h2⟩:=O1 f nd x k (by omega)
  have ne:∀ i,i < ps.length→i≠k→ps.getD i 0≠ps.getD k 0:=fun i hi hik e=>by
   rw [getD_get hi,getD_get (by omega)] at e
   exact hik ((List.getElem_inj nd).mp e)
  refine ⟨fun i hi=>?_,fun i hi hl=>?_⟩
  ·unfold wB
   by_cases e:i=k
   ·subst e
    rw [if_pos rfl,h2 i (Nat.le_refl _) (by omega)]
   ·rw [if_neg (ne i (by omega) e),h1 i (by omega)]
  ·unfold wB
   rw [if_neg (ne i hl (by omega)),h2 i (by omega) hl]
theorem LV {ps:List Nat} (nd:ps.Nodup) (hb:∀ p ∈ ps,p < 24):vR ps.length (fun i q=>P 5 ((ps.getD q 0:Nat) * (1+(i:Int)))):=by
 have hg:∀ q,q < ps.length→ps.getD q 0 < 24:=fun q hq=>by rw [getD_get hq];exact hb _ (List.getElem_mem _)
 refine (vR.congr (b:=fun i q=>((5:Int) ^ ps.getD q 0) ^ (i+1)) fun i q hi hq=>?_).mpr ?_
 ·have e:((ps.getD q 0:Nat) * (1+(i:Int))).toNat=ps.getD q 0 * (i+1):=by
   have:((ps.getD q 0:Nat):Int) * (1+(i:Int))=((ps.getD q 0 * (i+1):Nat):Int):=by rw [Int.natCast_mul,Int.natCast_add];congr 1;omega
   rw [this,Int.toNat_natCast]
  show (97:Int) ∣ (5:Int) ^ ((ps.getD q 0:Nat) * (1+(i:Int))).toNat % 97 - _
  rw [e,Int.pow_mul]
  exact fg _
 ·intro z hz i hi
  refine Ja ps.length (fun q=>(5:Int) ^ ps.getD q 0) z (fun i _=>fh jB _) (fun i j hi hj hij=>dj (hg i hi) (hg j hj) fun e=>?_) hz i hi
  rw [getD_get hi,getD_get hj] at e
  exact hij ((List.getElem_inj nd).mp e)
theorem YE {n:Nat} {a:nT} {b x y:Nat→Int} (hr:vR n a) (hx:∀ i,i < n→(97:Int) ∣ ip n (a i) x - b i) (hy:∀ i,i < n→(97:Int) ∣ ip n (a i) y - b i):∀ i,i < n→(97:Int) ∣ x i - y i:=by
 intro i hi
 refine hr (fun j=>x j - y j) (fun i hi=>?_) i hi
 have e:ip n (a i) (fun j=>x j - y j)=ip n (a i) x - ip n (a i) y:=by
  have:=dU 1 (-1) (fun j=>a i j * x j) (fun j=>a i j * y j) n
  unfold ip
  rw [show sumTo n (fun j=>a i j * (x j - y j))=sumTo n (fun j=>1 * (a i j * x j)+-1 * (a i j * y j)) from bE n fun j _=>by grind,this]
  omega
 rw [e]
 have:=Int.dvd_sub (hx i hi) (hy i hi)
 rwa [show ip n (a i) x - b i - (ip n (a i) y - b i)=ip n (a i) x - ip n (a i) y by omega] at this
theorem Je {f g x:Nat→Int} {ps:List Nat} (bf:∀ i,i < 24→0≤f i∧f i < 97) (h:qT f g) (hn:¬ bq f) (hp:Oy (fun j=>T (St j) 24 f) ps)
  (hx:∀ i,i < ps.length→(97:Int) ∣ ip ps.length (fun q=>P 5 ((ps.getD q 0:Nat) * (1+(i:Int)))) x - T (St i) 24 f):∀ i,i < 24→wB f ps x ps.length i=g i:=by
 have e:=HJ bf h hn hp
 have xm:=hp.xm
 have hy:∀ i,i < ps.length→(97:Int) ∣ ip ps.length (fun q=>P 5 ((ps.getD q 0:Nat) * (1+(i:Int)))) (fun q=>f (ps.getD q 0) - g (ps.getD q 0)) - T (St i) 24 f:=fun i hi=>by
  have k:=zG h (j:=i) (by omega)
  rw [← e] at k
  have k2:(97:Int) ∣ ip ps.length (fun q=>P 5 ((ps.getD q 0:Nat) * (1+(i:Int)))) (fun q=>f (ps.getD q 0) - g (ps.getD q 0)) - lsum ps fun i'=>(f i' - g i') * St i ^ i':=by
   have h1:=dU 1 (-1) (fun q=>P 5 ((ps.getD q 0:Nat) * (1+(i:Int))) * (f (ps.getD q 0) - g (ps.getD q 0))) (fun q=>(f (ps.getD q 0) - g (ps.getD q 0)) * St i ^ ps.getD q 0) ps.length
   have h2:(97:Int) ∣ sumTo ps.length fun q=>1 * (P 5 ((ps.getD q 0:Nat) * (1+(i:Int))) * (f (ps.getD q 0) - g (ps.getD q 0)))+-1 * ((f (ps.getD q 0) - g (ps.getD q 0)) * St i ^ ps.getD q 0):=gT _ fun q _=>by
    have ee:((ps.getD q 0:Nat) * (1+(i:Int))).toNat=ps.getD q 0 * (i+1):=by
     have:((ps.getD q 0:Nat):Int) * (1+(i:Int))=((ps.getD q 0 * (i+1):Nat):Int):=by rw [Int.natCast_mul,Int.natCast_add];congr 1;omega
     rw [this,Int.toNat_natCast]
    have h3:(97:Int) ∣ P 5 ((ps.getD q 0:Nat) * (1+(i:Int))) - (5 ^ ps.getD q 0) ^ (i+1):=by
     unfold P
     rw [ee,Int.pow_mul]
     exact fg _
    obtain ⟨a,ha⟩:=h3
    obtain ⟨c,hc⟩:=r8 (p:=ps.getD q 0) (show i < 6 by omega)
    generalize P 5 ((ps.getD q 0:Nat) * (1+(i:Int)))=A at *
    generalize ((5:Int) ^ ps.getD q 0) ^ (i+1)=B at *
    generalize St i ^ ps.getD q 0=C at *
    have e1:A=B+97 * a:=by omega
    have e2:C=B+97 * c:=by omega
    rw [e1,e2]
    exact ⟨(f (ps.getD q 0) - g (ps.getD q 0)) * (a - c),by grind⟩
   rw [h1] at h2
   have e5:∀ a b:Int,1 * a+-1 * b=a - b:=fun a b=>by omega
   rw [e5] at h2
   exact h2
  have:=Int.dvd_sub k2 k
  omega
 have hu:=YE (LV hp.nd hp.b) hx hy
 intro i hi
 by_cases hm:i ∈ ps
 ·obtain ⟨k,hk,rfl⟩:=List.getElem_of_mem hm
  have h1:=(O1 f hp.nd x ps.length (Nat.le_refl _)).1 k hk
  rw [getD_get hk] at h1
  rw [h1]
  have h2:=hu k hk
  rw [getD_get hk] at h2
  have h3:=h.b ps[k] hi
  omega
 ·rw [AB f ps x ps.length (Nat.le_refl _) i hm]
  apply Classical.byContradiction
  intro z
  exact hm (by rw [e];exact cE.mpr ⟨hi,z⟩)
theorem Jf {f x:Nat→Int} {ps:List Nat} (bf:∀ i,i < 24→0≤f i∧f i < 97) (nd:ps.Nodup) (xm:ps.length≤2) (hs:bq (wB f ps x ps.length)):qT f (wB f ps x ps.length) where
 b:=O0 ps x bf ps.length
 sealed:=hs
 xm:=Nat.le_trans (gW _ ps (gU _ _ _) fun i hi=>by
  apply Classical.byContradiction
  intro z
  exact (cE.mp hi).2 (AB f ps x ps.length (Nat.le_refl _) i z).symm) xm
theorem qT.self {f:Nat→Int} (bf:∀ i,i < 24→0≤f i∧f i < 97) (h:bq f):qT f f:=⟨bf,h,by
 have e:fG 24 f f=[]:=by simp [fG]
 rw [e];exact Nat.zero_le _⟩
end My
namespace K31
open PySem L2 PyProof.Rows
def top (i:Nat):Stmt:=PySem.Challenge.pw_stormpost_k31_pieces_once_in_order.main.body.getD i (.Pass ⟨0,0,0,0⟩)
abbrev pS:Stmt:=top 10
abbrev j3:Stmt:=top 11
abbrev j4:Stmt:=top 12
abbrev vS:Stmt:=top 13
abbrev pT:Stmt:=top 14
abbrev mE:Stmt:=top 15
abbrev jO:Stmt:=top 16
abbrev hZ:Stmt:=top 17
abbrev j5:Stmt:=top 18
abbrev jP:Stmt:=top 19
abbrev jC:Stmt:=top 20
abbrev lJ:Stmt:=top 21
abbrev iz:Stmt:=top 27
abbrev j6:Stmt:=top 28
abbrev mF:Stmt:=top 29
abbrev jQ:Stmt:=top 30
abbrev j7:Stmt:=top 31
abbrev lK:Stmt:=top 32
abbrev nv:Stmt:=top 33
abbrev j8:Stmt:=top 37
abbrev fj:Stmt:=top 38
abbrev mG:Stmt:=top 39
abbrev i0:Stmt:=top 41
abbrev pU:Stmt:=top 42
abbrev dO:Stmt:=top 43
abbrev jR:Stmt:=top 44
abbrev r9:Stmt:=top 45
abbrev fk:Stmt:=top 47
abbrev fo:Stmt:=top 48
abbrev i4:Stmt:=top 58
abbrev j9:Stmt:=top 61
abbrev fq:Stmt:=top 62
abbrev fu:Stmt:=top 63
abbrev fw:Stmt:=top 64
abbrev kA:Stmt:=top 65
abbrev h8:Stmt:=top 66
abbrev kB:Stmt:=top 67
abbrev kC:Stmt:=top 68
abbrev cv:Stmt:=top 69
abbrev jS:Stmt:=top 70
abbrev dH:Stmt:=top 71
abbrev wC:Stmt:=top 72
def dI:Stmt→List Stmt
 | .ClassDef _ _ _ b _ _ _ _ _ _ _=>b
 | _=>[]
abbrev tQ:Stmt:=(dI (top 59)).getD 0 (.Pass ⟨0,0,0,0⟩)
abbrev cQ:Stmt:=(dI (top 59)).getD 1 (.Pass ⟨0,0,0,0⟩)
abbrev ny:Stmt:=(dI (top 59)).getD 2 (.Pass ⟨0,0,0,0⟩)
abbrev dy:Stmt:=(dI (top 59)).getD 3 (.Pass ⟨0,0,0,0⟩)
abbrev tR:Stmt:=(dI (top 59)).getD 4 (.Pass ⟨0,0,0,0⟩)
abbrev tS:Stmt:=(dI (top 59)).getD 5 (.Pass ⟨0,0,0,0⟩)
abbrev jD:Stmt:=(dI (top 59)).getD 6 (.Pass ⟨0,0,0,0⟩)
abbrev lL:Stmt:=(dI (top 59)).getD 7 (.Pass ⟨0,0,0,0⟩)
abbrev d9:Stmt:=(dI (top 59)).getD 8 (.Pass ⟨0,0,0,0⟩)
abbrev eC:Stmt:=(dI (top 59)).getD 9 (.Pass ⟨0,0,0,0⟩)
abbrev eF:Stmt:=(dI (top 59)).getD 10 (.Pass ⟨0,0,0,0⟩)
abbrev zH:Stmt:=(dI (top 59)).getD 11 (.Pass ⟨0,0,0,0⟩)
abbrev Mm:Stmt:=(dI (top 59)).getD 12 (.Pass ⟨0,0,0,0⟩)
abbrev pV:Stmt:=(dI (top 59)).getD 13 (.Pass ⟨0,0,0,0⟩)
abbrev lM:Stmt:=(dI (top 59)).getD 14 (.Pass ⟨0,0,0,0⟩)
structure Ad where
 BadCell:Addr
 BadMeasure:Addr
 BadPiece:Addr
 BadSign:Addr
 DIVISOR:Addr
 LinkEnd:Addr
 NoLink:Addr
 init:Addr
 cR:Addr
 wD:Addr
 fz:Addr
 wF:Addr
 wG:Addr
 lN:Addr
 lO:Addr
 f6:Addr
 f7:Addr
 f9:Addr
 HK:Addr
 O2:Addr
 pW:Addr
 n6:Addr
structure Txt (K:PySem.W.Frag) (mg:Str→Option Value) (t:Ad):Prop where
 sD:∃ tk,mg "BIRTH_SIGNS"=some (.int 2 tk)
 Mn:∃ tk,mg "COUNT_AT"=some (.int 5 tk)
 sE:∃ tk,mg "FREE_PLACES"=some (.int 18 tk)
 zI:∃ tk,mg "KNOWN_AT"=some (.int 2 tk)
 Jg:∃ tk,mg "LENGTH_AT"=some (.int 6 tk)
 n8:∃ tk,mg "LONGEST_PIECE"=some (.int 10 tk)
 wH:∃ tk,mg "MOST_LATE"=some (.int 6 tk)
 wI:∃ tk,mg "MOST_LOST"=some (.int 4 tk)
 pX:∃ tk,mg "NO_BIRTH"=some (.int 0 tk)
 wJ:∃ tk,mg "NUMBER_AT"=some (.int 4 tk)
 zJ:∃ tk,mg "PIECE_AT"=some (.int 7 tk)
 AD:∃ tk,mg "PLACES"=some (.int 24 tk)
 LW:∃ tk,mg "ROOT"=some (.int 5 tk)
 cO:∃ tk,mg "SIGNS"=some (.int 97 tk)
 LX:∃ tk,mg "SUMS"=some (.int 6 tk)
 iE:mg "len"=none
 qU:mg "list"=none
 Tb:mg "max"=none
 YF:mg "min"=none
 dg:mg "range"=none
 wK:mg "reversed"=none
 RO:mg "tuple"=none
 LY:mg "zip"=none
 HL:mg "BadCell"=some (.ref t.BadCell)
 ue:mg "BadMeasure"=some (.ref t.BadMeasure)
 zK:mg "BadPiece"=some (.ref t.BadPiece)
 wL:mg "BadSign"=some (.ref t.BadSign)
 O3:mg "DIVISOR"=some (.ref t.DIVISOR)
 HM:mg "LinkEnd"=some (.ref t.LinkEnd)
 RP:mg "NoLink"=some (.ref t.NoLink)
 HN:PySem.W.excIn K t.BadCell [.type "ValueError",.type "Exception",.type "BaseException",.type "object"] "ValueError.__new__"=true
 YG:tI K t.BadCell
 uf:PySem.W.excIn K t.BadMeasure [.type "ValueError",.type "Exception",.type "BaseException",.type "object"] "ValueError.__new__"=true
 Tc:tI K t.BadMeasure
 zL:PySem.W.excIn K t.BadPiece [.type "ValueError",.type "Exception",.type "BaseException",.type "object"] "ValueError.__new__"=true
 WS:tI K t.BadPiece
 wM:PySem.W.excIn K t.BadSign [.type "ValueError",.type "Exception",.type "BaseException",.type "object"] "ValueError.__new__"=true
 YH:tI K t.BadSign
 RR:PySem.W.excIn K t.NoLink [.type "ValueError",.type "Exception",.type "BaseException",.type "object"] "ValueError.__new__"=true
 Zv:tI K t.NoLink
 HP:Ut K t.DIVISOR [V.int (21),V.int (80),V.int (53),V.int (2),V.int (55),V.int (63)]
 HQ:Mk K t.LinkEnd t.init
 fi:∃ fd,kL K "__init__" "LinkEnd.__init__" tQ t.init fd
 aJ:MC K t.LinkEnd
 wN:dE K t.LinkEnd "quiet"
 LZ:dE K t.LinkEnd "side"
 vT:dE K t.LinkEnd "done"
 mH:dE K t.LinkEnd "unheard"
 lP:dE K t.LinkEnd "birth"
 gB:dE K t.LinkEnd "known"
 gC:dE K t.LinkEnd "pair"
 mI:dE K t.LinkEnd "told"
 gX:dE K t.LinkEnd "pieces"
 mJ:dE K t.LinkEnd "offered"
 n9:dE K t.LinkEnd "taken"
 lQ:ng K t.LinkEnd "forget_pieces" t.cR
 vC:∃ fd,kL K "forget_pieces" "LinkEnd.forget_pieces" cQ t.cR fd
 RS:ng K t.LinkEnd "tick" t.wD
 VC:∃ fd,kL K "tick" "LinkEnd.tick" ny t.wD fd
 xo:ng K t.LinkEnd "cell_given" t.fz
 AE:∃ fd,kL K "cell_given" "LinkEnd.cell_given" dy t.fz fd
 RT:ng K t.LinkEnd "read" t.wF
 VD:∃ fd,kL K "read" "LinkEnd.read" tR t.wF fd
 RU:ng K t.LinkEnd "meet" t.wG
 VE:∃ fd,kL K "meet" "LinkEnd.meet" tS t.wG fd
 Jh:ng K t.LinkEnd "come_up" t.lN
 Mo:∃ fd,kL K "come_up" "LinkEnd.come_up" jD t.lN fd
 zM:ng K t.LinkEnd "end_up" t.lO
 O4:∃ fd,kL K "end_up" "LinkEnd.end_up" lL t.lO fd
 xq:ng K t.LinkEnd "start_over" t.f6
 AF:∃ fd,kL K "start_over" "LinkEnd.start_over" d9 t.f6 fd
 xr:ng K t.LinkEnd "hear_count" t.f7
 AG:∃ fd,kL K "hear_count" "LinkEnd.hear_count" eC t.f7 fd
 xu:ng K t.LinkEnd "take_piece" t.f9
 AH:∃ fd,kL K "take_piece" "LinkEnd.take_piece" eF t.f9 fd
 VF:ng K t.LinkEnd "put" t.HK
 YI:∃ fd,kL K "put" "LinkEnd.put" zH t.HK fd
 YJ:ng K t.LinkEnd "up" t.O2
 aBy:∃ fd,kL K "up" "LinkEnd.up" Mm t.O2 fd
 HR:ng K t.LinkEnd "waits" t.pW
 RV:∃ fd,kL K "waits" "LinkEnd.waits" pV t.pW fd
 Mp:ng K t.LinkEnd "events" t.n6
 O5:∃ fd,kL K "events" "LinkEnd.events" lM t.n6 fd
section
variable {P:Program} {w:World} {K:PySem.W.Frag} {mg:Str→Option Value} {base:Heap} {t:Ad}
def mK:Sp:=fun vs H Q _=>∃ n:Int,vs=[.int n]∧Q (.bl (decide (0≤n∧n < 97))) H
theorem Ji:aQ ["number"] ["number"] (aH pS):=⟨rfl,rfl,rfl,by decide +kernel,rfl,by decide +kernel,by decide +kernel⟩
theorem Jj (F:aP K mg "is_sign" pS) (T:Txt K mg t):Def P w K mg base 1 "is_sign" ["number"] mK:=by
 refine F.def Ji (fun _ _ _ _ _ _ us hl=>match us,hl with | [_],_=>rfl) (fun vs H Q E h=>?_) (fun f bo A outer s H vs Q E hr h=>?_)
 ·obtain ⟨n,rfl,_⟩:=h
  rfl
 ·obtain ⟨n,rfl,q⟩:=h
  refine ⟨_,aG (aV (Gi qB jy aF (pv 0) (aS T.cO))),?_⟩
  refine ⟨_,rfl,_,_,rfl,rfl,_,rfl,?_⟩
  by_cases h0:0≤n
  ·rw [decide_eq_true h0]
   refine fe ⟨_,_,rfl,rfl,?_⟩
   have e:decide (n < 97)=decide (0≤n∧n < 97):=by simp [h0]
   show Q (.bl (decide (n < 97))) H
   rw [e]
   exact q
  ·rw [decide_eq_false h0]
   refine di ?_
   have e:false=decide (0≤n∧n < 97):=by simp [h0]
   show Q (.bl false) H
   rw [e]
   exact q
def HS (m:Int) (ns:List Int):Prop:=(ns.length:Int)=m∧∀ n ∈ ns,0≤n∧n < 97
def kN (K:PySem.W.Frag) (C:Addr):Sp:=fun vs H Q E=>∃ (l:Addr) (ns:List Int) (m:Int),vs=[.ref l,.int m]∧aX K H l (ns.map V.int)∧(∀ n ∈ ns,n.natAbs < 2 ^ 1000)∧m.natAbs < 2 ^ 1000 ∧
 (HS m ns→Q .bJ H)∧(¬ HS m ns→E (.ref C) none H)
theorem gD {i:Int} (h:i.natAbs < 2 ^ 1000):(Str.ofString (toString i)).length≤1001:=by
 have hl:i.natAbs.log2 < 1000:=by
  by_cases z:i.natAbs=0
  ·rw [z];decide
  ·exact (Nat.log2_lt z).mpr h
 have e:=int_text_length_le (k:=1000) (by decide) hl
 rw [PySem.ofString_length];omega
theorem qD:aQ ["signs","many","sign"] ["signs","many"] (aH iz):=⟨rfl,rfl,rfl,by decide +kernel,rfl,by decide +kernel,by decide +kernel⟩
theorem xv (F:aP K mg "look_signs" iz) (T:Txt K mg t) (gY:Def P w K mg base 1 "is_sign" ["number"] mK):Def P w K mg base 2 "look_signs" ["signs","many"] (kN K t.BadCell):=by
 refine F.def qD (fun _ _ _ _ _ _ us hl=>match us,hl with | [_,_],_=>rfl) (fun vs H Q E h=>?_) (fun f bo A outer s H vs Q E hr h=>?_)
 ·obtain ⟨l,ns,m,rfl,_⟩:=h
  rfl
 ·obtain ⟨l,ns,m,rfl,hl,hb,hm,q1,q2⟩:=h
  refine ⟨_,aC (bD (aW Gg (bP (bQ K) (by rfl) T.iE boot_len (aA (pv 0) aE)) (pv 1) (aj _))
    (aG (eg bC rfl rfl T.HL T.HN PySem.F.excBase_ValueError (aA (jz (bU (ff (pv 1)) (bU cZ nj))) aE)))
    (af))
   (aG (dD (Uh bC) rfl (cN K (pv 0)) (az (i:=2) qD.nd rfl (Or.inl rfl))
    (aG (bD (kJ (jH (aZ (gY.mono (by decide)) hr ar (aA (pv 2) aE))))
     (aG (eg bC rfl rfl T.HL T.HN PySem.F.excBase_ValueError (aA (jz (bU (ff (pv 2)) (bU cZ nj))) aE)))
     (af))))),?_⟩
  have sl:(2000:Nat)≤sizeLine:=by decide
  refine ⟨_,rfl,l,_,rfl,.inl hl,_,rfl,rfl,_,rfl,?_⟩
  by_cases hlen:(ns.length:Int)=m
  ·refine qC (by rw [List.length_map,hlen]) ?_
   refine ⟨_,rfl,l,rfl,⟨_,hl⟩,lD (K:=K) (a:=l) (xs:=ns.map V.int) (fun i σ H'=>∃ x:Option V,σ=[some (.ref l),some (.int m),x]∧H'=H∧∀ n ∈ ns.take i,0≤n∧n < 97) ⟨none,rfl,rfl,fun n hn=>by simp at hn⟩ (fun i σ H' _ ⟨_,_,e,_⟩=>by rw [e];exact hl) ?_ ?_⟩
   ·rintro i y σ H' hi ⟨x,rfl,rfl,ha⟩
    obtain ⟨z,hz,rfl⟩:=mB hi
    have VG:z ∈ ns:=List.mem_of_getElem? hz
    refine ⟨_,rfl,z,rfl,_,rfl,?_⟩
    by_cases h0:0≤z∧z < 97
    ·rw [decide_eq_true h0]
     refine di ⟨some (.int z),rfl,rfl,?_⟩
     rw [take_succ hz]
     intro n hn
     rcases List.mem_append.mp hn with z1 | z1
     ·exact ha n z1
     ·rw [List.mem_singleton.mp z1];exact h0
    ·rw [decide_eq_false h0]
     refine fe ?_
     have hzl:=gD (hb z VG)
     have e0:(Str.empty ++ Str.ofString (toString z)).length≤1001:=by rw [strLen_append];show 0+_≤1001;omega
     have e1:((Str.empty ++ Str.ofString (toString z)) ++ (" is no sign":Str)).length≤2000:=by
      have:(" is no sign":Str).length=11:=by decide +kernel
      rw [strLen_append];omega
     refine ⟨_,rfl,z,rfl,dW (hb z VG) (by decide) (by decide),_,rfl,by omega,_,rfl,by omega,by omega,?_⟩
     exact ⟨by show 1≤sizeLine;decide,q2 fun r=>h0 (r.2 z VG)⟩
   ·rintro σ H' ⟨x,rfl,rfl,ha⟩
    rw [List.length_map,List.take_length] at ha
    exact q1 ⟨hlen,ha⟩
  ·refine rY (fun e=>hlen (by have:=V.int.inj e;rwa [List.length_map] at this)) ?_
   have hzl:=gD hm
   have e0:(Str.empty ++ Str.ofString (toString m)).length≤1001:=by rw [strLen_append];show 0+_≤1001;omega
   have e1:((Str.empty ++ Str.ofString (toString m)) ++ (" signs are asked for here":Str)).length≤2000:=by
    have:(" signs are asked for here":Str).length=25:=by decide +kernel
    rw [strLen_append];omega
   refine ⟨_,rfl,m,rfl,dW hm (by decide) (by decide),_,rfl,by omega,_,rfl,by omega,by omega,?_⟩
   exact ⟨by show 1≤sizeLine;decide,q2 fun r=>hlen r.1⟩
structure IsCell (n:Nat) (f:Nat→Int):Prop where
 b:∀ i,i < n→0≤f i∧f i < 97
theorem IsCell.row {n:Nat} {f:Nat→Int} (h:IsCell n f):HS n ((List.range n).map f):=by
 refine ⟨by simp,fun x hx=>?_⟩
 obtain ⟨i,hi,rfl⟩:=List.mem_map.mp hx
 exact h.b i (List.mem_range.mp hi)
theorem IsCell.far {n:Nat} {f:Nat→Int} (h:IsCell n f):∀ x ∈ (List.range n).map f,x.natAbs < 2 ^ 1000:=fun x hx=>by
 obtain ⟨i,hi,rfl⟩:=List.mem_map.mp hx
 have:=h.b i (List.mem_range.mp hi)
 exact dw (by omega) (by omega)
def sF (K:PySem.W.Frag) (C:Addr):Sp:=fun vs H Q E=>∃ (l:Addr) (ns:List Int),vs=[.ref l]∧aX K H l (ns.map V.int)∧(∀ n ∈ ns,n.natAbs < 2 ^ 1000) ∧
 (HS 24 ns→Q .bJ H)∧(¬ HS 24 ns→E (.ref C) none H)
theorem AI:aQ ["cell"] ["cell"] (aH j6):=⟨rfl,rfl,rfl,by decide +kernel,rfl,by decide +kernel,by decide +kernel⟩
theorem AJ (F:aP K mg "look_cell" j6) (T:Txt K mg t) (eG:Def P w K mg base 2 "look_signs" ["signs","many"] (kN K t.BadCell)):Def P w K mg base 3 "look_cell" ["cell"] (sF K t.BadCell):=by
 refine F.def AI (fun _ _ _ _ _ _ us hl=>match us,hl with | [_],_=>rfl) (fun vs H Q E h=>?_) (fun f bo A outer s H vs Q E hr h=>?_)
 ·obtain ⟨l,ns,rfl,_⟩:=h
  rfl
 ·obtain ⟨l,ns,rfl,hl,hb,q1,q2⟩:=h
  refine ⟨_,aG (ax (aZ (eG.mono (by decide)) hr (lG bC) (aA (pv 0) (aA (aS T.AD) aE)))),?_⟩
  exact ⟨_,rfl,l,ns,24,rfl,hl,hb,by decide,q1,q2⟩
end
end K31
namespace K31
open PySem L2 PyProof.Rows
section
variable {P:Program} {w:World} {K:PySem.W.Frag} {mg:Str→Option Value} {base:Heap} {t:Ad}
def i5 (C:Addr):Sp:=fun vs H Q E=>∃ n:Int,vs=[.int n]∧n.natAbs < 2 ^ 1000∧(0≤n∧n < 97→Q .bJ H)∧(¬ (0≤n∧n < 97)→E (.ref C) none H)
theorem AK:aQ ["number"] ["number"] (aH j3):=⟨rfl,rfl,rfl,by decide +kernel,rfl,by decide +kernel,by decide +kernel⟩
theorem AL (F:aP K mg "look_sign" j3) (T:Txt K mg t) (D1:Def P w K mg base 1 "is_sign" ["number"] mK):Def P w K mg base 2 "look_sign" ["number"] (i5 t.BadSign):=by
 refine F.def AK (fun _ _ _ _ _ _ us hl=>match us,hl with | [_],_=>rfl) (fun vs H Q E h=>?_) (fun f bo A outer s H vs Q E hr h=>?_)
 ·obtain ⟨n,rfl,_⟩:=h
  rfl
 ·obtain ⟨n,rfl,hb,q1,q2⟩:=h
  refine ⟨_,aG (bD (kJ (jH (aZ D1 hr ar (aA (pv 0) aE))))
   (aG (eg bC rfl rfl T.wL T.wM PySem.F.excBase_ValueError (aA (jz (bU (ff (pv 0)) (bU cZ nj))) aE))) af),?_⟩
  refine ⟨_,rfl,n,rfl,_,rfl,?_⟩
  by_cases h0:0≤n∧n < 97
  ·rw [decide_eq_true h0]
   exact di (q1 h0)
  ·rw [decide_eq_false h0]
   refine fe ?_
   have hz:=gD hb
   have e0:(Str.empty ++ Str.ofString (toString n)).length≤1001:=by rw [strLen_append];show 0+_≤1001;omega
   have e1:((Str.empty ++ Str.ofString (toString n)) ++ (" is no sign":Str)).length≤2000:=by
    have:(" is no sign":Str).length=11:=by decide +kernel
    rw [strLen_append];omega
   have sl:(2000:Nat)≤sizeLine:=by decide
   refine ⟨_,rfl,n,rfl,dW hb (by decide) (by decide),_,rfl,by omega,_,rfl,by omega,by omega,?_⟩
   exact ⟨by show 1≤sizeLine;decide,q2 h0⟩
def mL (C:Addr):Sp:=fun vs H Q E=>∃ n:Int,vs=[.int n]∧n.natAbs < 2 ^ 1000∧(0 < n∧n < 97→Q .bJ H)∧(¬ (0 < n∧n < 97)→E (.ref C) none H)
theorem AM:aQ ["number"] ["number"] (aH j4):=⟨rfl,rfl,rfl,by decide +kernel,rfl,by decide +kernel,by decide +kernel⟩
theorem AN (F:aP K mg "look_unit" j4) (T:Txt K mg t) (D2:Def P w K mg base 2 "look_sign" ["number"] (i5 t.BadSign)):Def P w K mg base 3 "look_unit" ["number"] (mL t.BadSign):=by
 refine F.def AM (fun _ _ _ _ _ _ us hl=>match us,hl with | [_],_=>rfl) (fun vs H Q E h=>?_) (fun f bo A outer s H vs Q E hr h=>?_)
 ·obtain ⟨n,rfl,_⟩:=h
  rfl
 ·obtain ⟨n,rfl,hb,q1,q2⟩:=h
  refine ⟨_,aC (ax (aZ D2 hr (lG bC) (aA (pv 0) aE)))
   (aG (bD (aW jL (pv 0) aF (aj _)) (aG (eg bC rfl rfl T.wL T.wM PySem.F.excBase_ValueError (aA cZ aE))) af)),?_⟩
  refine ⟨_,rfl,n,rfl,hb,fun h0=>?_,fun h0=>q2 (by omega)⟩
  refine ⟨_,rfl,rfl,_,rfl,?_⟩
  by_cases z:n=0
  ·subst z
   refine fe ?_
   exact ⟨by show 1≤sizeLine;decide,q2 (by omega)⟩
  ·have e:decide (V.int n=V.int 0)=false:=decide_eq_false fun q=>z (V.int.inj q)
   rw [e]
   exact di (q1 (by omega))
def oA (C:Addr):Sp:=fun vs H Q E=>∃ a k:Int,vs=[.int a,.int k]∧a.natAbs < 2 ^ 1000∧0≤k∧(0≤a∧a < 97→Q (.int (My.P a k)) H)∧(¬ (0≤a∧a < 97)→E (.ref C) none H)
def O6:L2.St→Hp→Nat:=fun σ _=>match σ with
 | [_,_,_,_,some (.int s)]=>s.toNat
 | _=>0
theorem jT:aQ ["a","k","product","square","left"] ["a","k"] (aH vS):=⟨rfl,rfl,rfl,by decide +kernel,rfl,by decide +kernel,by decide +kernel⟩
theorem O7 (F:aP K mg "power" vS) (T:Txt K mg t) (dk:Def P w K mg base 2 "look_sign" ["number"] (i5 t.BadSign)):Def P w K mg base 3 "power" ["a","k"] (oA t.BadSign):=by
 refine F.def jT (fun _ _ _ _ _ _ us hl=>match us,hl with | [_,_],_=>rfl) (fun vs H Q E h=>?_) (fun f bo A outer s H vs Q E hr h=>?_)
 ·obtain ⟨a,k,rfl,_⟩:=h
  rfl
 ·obtain ⟨a,k,rfl,hb,k0,q1,q2⟩:=h
  refine ⟨_,aC (ax (aZ (dk.mono (by decide)) hr (lG bC) (aA (pv 0) aE)))
   (aC (aT (i:=2) jT.nd rfl (Or.inl rfl) aF)
   (aC (aT (i:=3) jT.nd rfl (Or.inl rfl) (pv 0))
   (aC (aT (i:=4) jT.nd rfl (Or.inl rfl) (pv 1))
   (aC (PS.uX (Gc PassesOwn.never (aW N5 (pv 4) aF (aj _))
    (aC (bD (aW jL (aN aw (pv 4) aF) aF (aj _))
     (aG (aT (i:=2) jT.nd rfl (Or.inl rfl) (aN aw (aN eM (pv 2) (pv 3)) (aS T.cO))))
     (af))
    (aC (aT (i:=3) jT.nd rfl (Or.inl rfl) (aN aw (aN eM (pv 3) (pv 3)) (aS T.cO)))
    (aG (aT (i:=4) jT.nd rfl (Or.inl rfl) (aN cW (pv 4) aF)))))))
   (aG (aV (pv 2))))))),?_⟩
  refine ⟨_,rfl,a,rfl,hb,fun h0=>?_,fun h0=>q2 h0⟩
  refine ⟨_,rfl,?_⟩
  refine ⟨_,rfl,?_⟩
  refine Gf (fun σ H'=>∃ p q l:Int,σ=[some (.int a),some (.int k),some (.int p),some (.int q),some (.int l)]∧H'=H∧0≤p∧p < 97∧0≤q∧q < 97∧0≤l∧p * q ^ l.toNat % 97=My.P a k) O6 ⟨1,a,k,rfl,rfl,by decide,by decide,h0.1,h0.2,k0,My.HF⟩ ?_ ?_
  ·rintro σ H' ⟨p,q,l,rfl,rfl,p0,p1,q0,q1',l0,hh⟩
   refine ⟨_,rfl,_,_,rfl,rfl,_,rfl,?_⟩
   refine Ua (fun h=>?_) (fun h=>?_)
   ·have hl:0 < l:=of_decide_eq_true h
    have mlt:(l / 2).toNat < l.toNat:=by omega
    refine ⟨_,rfl,_,_,rfl,rfl,(by show (0:Int) < 2;decide),rfl,_,rfl,?_⟩
    refine Ua (fun h2=>?_) (fun h2=>?_)
    ·have ho:l % 2=1:=V.int.inj (of_decide_eq_true h2)
     refine ⟨_,rfl,_,rfl,_,_,rfl,rfl,.inl ⟨by omega,by omega⟩,_,_,rfl,rfl,(by show (0:Int) < 97;decide),?_⟩
     refine ⟨_,rfl,_,rfl,_,_,rfl,rfl,.inl ⟨by omega,by omega⟩,_,_,rfl,rfl,(by show (0:Int) < 97;decide),?_⟩
     refine ⟨_,rfl,_,_,rfl,rfl,⟨by decide,by decide⟩,?_⟩
     exact ⟨⟨_,_,_,rfl,rfl,Int.emod_nonneg _ (by decide),Int.emod_lt_of_pos _ (by decide),Int.emod_nonneg _ (by decide),Int.emod_lt_of_pos _ (by decide),by omega,My.Mg hl ho hh⟩,mlt⟩
    ·have ho:l % 2≠1:=fun z=>h2 (decide_eq_true (congrArg V.int z))
     refine ⟨_,rfl,_,rfl,_,_,rfl,rfl,.inl ⟨by omega,by omega⟩,_,_,rfl,rfl,(by show (0:Int) < 97;decide),?_⟩
     refine ⟨_,rfl,_,_,rfl,rfl,⟨by decide,by decide⟩,?_⟩
     exact ⟨⟨_,_,_,rfl,rfl,p0,p1,Int.emod_nonneg _ (by decide),Int.emod_lt_of_pos _ (by decide),by omega,My.JW hl ho hh⟩,mlt⟩
   ·have hl:¬ 0 < l:=fun z=>h (decide_eq_true z)
    refine ⟨_,rfl,?_⟩
    rw [My.Mh (by omega) p0 p1 hh]
    exact q1 h0
  ·rintro σ H' Q1 Q2 hm ⟨v,e,i,j,ei,ej,k,ek,q⟩
   exact ⟨v,e,i,j,ei,ej,k,ek,hm _ _ q⟩
def qV (C:Addr):Sp:=fun vs H Q E=>∃ a:Int,vs=[.int a]∧a.natAbs < 2 ^ 1000∧(0 < a∧a < 97→Q (.int (My.P a 95)) H)∧(¬ (0 < a∧a < 97)→E (.ref C) none H)
theorem Jk:aQ ["a"] ["a"] (aH pT):=⟨rfl,rfl,rfl,by decide +kernel,rfl,by decide +kernel,by decide +kernel⟩
theorem Jl (F:aP K mg "inverse" pT) (T:Txt K mg t) (kD:Def P w K mg base 3 "look_unit" ["number"] (mL t.BadSign)) (et:Def P w K mg base 3 "power" ["a","k"] (oA t.BadSign)):Def P w K mg base 4 "inverse" ["a"] (qV t.BadSign):=by
 refine F.def Jk (fun _ _ _ _ _ _ us hl=>match us,hl with | [_],_=>rfl) (fun vs H Q E h=>?_) (fun f bo A outer s H vs Q E hr h=>?_)
 ·obtain ⟨a,rfl,_⟩:=h
  rfl
 ·obtain ⟨a,rfl,hb,q1,q2⟩:=h
  refine ⟨_,aC (ax (aZ (kD.mono (by decide)) hr (lG bC) (aA (pv 0) aE)))
   (aG (aV (aZ (et.mono (by decide)) hr (lG bC) (aA (pv 0) (aA (aN jK (aS T.cO) aF) aE))))),?_⟩
  refine ⟨_,rfl,a,rfl,hb,fun h0=>?_,fun h0=>q2 h0⟩
  refine ⟨_,rfl,_,_,rfl,rfl,a,95,rfl,hb,by decide,fun _=>q1 h0,fun h1=>absurd ⟨by omega,h0.2⟩ h1⟩
def ug (C:Addr):Sp:=fun vs H Q E=>∃ n:Int,vs=[.int n]∧n.natAbs < 2 ^ 1000∧(0 < n∧n < 97→Q (.int (My.ex n)) H)∧(¬ (0 < n∧n < 97)→E (.ref C) none H)
theorem iF:aQ ["a","steps","reached"] ["a"] (aH mE):=⟨rfl,rfl,rfl,by decide +kernel,rfl,by decide +kernel,by decide +kernel⟩
def YK:L2.St→Hp→Nat:=fun σ _=>match σ with
 | [_,some (.int s),_]=>(100 - s).toNat
 | _=>0
theorem HU (F:aP K mg "exponent" mE) (T:Txt K mg t) (D3:Def P w K mg base 3 "look_unit" ["number"] (mL t.BadSign)):Def P w K mg base 4 "exponent" ["a"] (ug t.BadSign):=by
 refine F.def iF (fun _ _ _ _ _ _ us hl=>match us,hl with | [_],_=>rfl) (fun vs H Q E h=>?_) (fun f bo A outer s H vs Q E hr h=>?_)
 ·obtain ⟨n,rfl,_⟩:=h
  rfl
 ·obtain ⟨a,rfl,hb,q1,q2⟩:=h
  refine ⟨_,aC (ax (aZ D3 hr (lG bC) (aA (pv 0) aE)))
   (aC (aT (i:=1) iF.nd rfl (Or.inl rfl) aF)
   (aC (aT (i:=2) iF.nd rfl (Or.inl rfl) aF)
   (aC (PS.uX (Gc PassesOwn.never (aW Gg (pv 2) (pv 0) (aj _))
    (aC (aT (i:=2) iF.nd rfl (Or.inl rfl) (aN aw (aN eM (pv 2) (aS T.LW)) (aS T.cO)))
    (aG (aT (i:=1) iF.nd rfl (Or.inl rfl) (aN bA (pv 1) aF))))))
   (aG (aV (pv 1)))))),?_⟩
  refine ⟨_,rfl,a,rfl,hb,fun h0=>?_,fun h0=>q2 h0⟩
  refine Gf (fun σ H'=>∃ st:Int,σ=[some (.int a),some (.int st),some (.int (My.up st))]∧H'=H∧0≤st∧st≤My.ex a) YK ⟨0,by rw [My.RD];rfl,rfl,Int.le_refl _,My.Ol a⟩ ?_ ?_
  ·rintro σ H' ⟨st,rfl,rfl,s0,s1⟩
   refine ⟨_,rfl,_,rfl,rfl,_,rfl,?_⟩
   have he:=My.X6 h0.1 h0.2
   by_cases z:My.up st=a
   ·have e:decide (V.int (My.up st)=V.int a)=true:=decide_eq_true (by rw [z])
    rw [e]
    refine di ⟨_,rfl,?_⟩
    have es:st=My.ex a:=by
     by_cases l:st < My.ex a
     ·exact absurd z (My.X8 h0.1 h0.2 s0 l)
     ·omega
    rw [es]
    exact q1 h0
   ·have e:decide (V.int (My.up st)=V.int a)=false:=decide_eq_false fun q=>z (V.int.inj q)
    rw [e]
    refine fe ?_
    have u0:0≤My.up st:=Int.emod_nonneg _ (by decide)
    have u1:My.up st < 97:=Int.emod_lt_of_pos _ (by decide)
    refine ⟨_,rfl,_,_,rfl,rfl,.inl ⟨by omega,by omega⟩,_,_,rfl,rfl,(by show (0:Int) < 97;decide),_,rfl,_,_,rfl,rfl,?_⟩
    have QO:st≠My.ex a:=fun q=>z (by rw [q];exact My.X7 h0.1 h0.2)
    refine ⟨⟨st+1,by rw [← My.RC s0 rfl];rfl,rfl,by omega,by omega⟩,?_⟩
    show (100 - (st+1)).toNat < (100 - st).toNat
    omega
  ·rintro σ H' Q1 Q2 hm ⟨v,e,u,e2,hs,k,ek,q⟩
   exact ⟨v,e,u,e2,hs,k,ek,hm _ _ q⟩
def uh (K:PySem.W.Frag):Sp:=fun vs H Q _=>∃ (l:Addr) (n:Nat) (f:Nat→Int) (x:Int),vs=[.ref l,.int x]∧aX K H l (tabI n f)∧Q (.int (My.T x n f)) H
theorem RW {n:Nat} {f:Nat→V} {i:Nat} {x:V} (h:(cM n f).reverse[i]?=some x):i < n∧x=f (n - 1 - i):=by
 have hi:i < n:=by
  have:=(List.getElem?_eq_some_iff.mp h).1
  rwa [List.length_reverse,aL] at this
 rw [List.getElem?_reverse (by rw [aL];exact hi),aL,b9 (by omega)] at h
 exact ⟨hi,(Option.some.inj h).symm⟩
theorem kE:aQ ["signs","point","value","sign"] ["signs","point"] (aH mF):=⟨rfl,rfl,rfl,by decide +kernel,rfl,by decide +kernel,by decide +kernel⟩
theorem HV (F:aP K mg "value_at" mF) (T:Txt K mg t):Def P w K mg base 1 "value_at" ["signs","point"] (uh K):=by
 refine F.def kE (fun _ _ _ _ _ _ us hl=>match us,hl with | [_,_],_=>rfl) (fun vs H Q E h=>?_) (fun f bo A outer s H vs Q E hr h=>?_)
 ·obtain ⟨l,n,f,x,rfl,_⟩:=h
  rfl
 ·obtain ⟨l,n,f,x,rfl,hl,q⟩:=h
  refine ⟨_,aC (aT (i:=2) kE.nd rfl (Or.inl rfl) aF)
   (aC (PS.uX (dD PassesOwn.never rfl (z4 K (by rfl) T.wK (aA (pv 0) aE)) (az (i:=3) kE.nd rfl (Or.inl rfl))
    (aG (aT (i:=2) kE.nd rfl (Or.inl rfl) (aN aw (aN bA (aN eM (pv 2) (pv 1)) (pv 3)) (aS T.cO))))))
   (aG (aV (pv 2)))),?_⟩
  refine ⟨_,rfl,l,_,rfl,hl,Qw (K:=K) (a:=l) (xs:=tabI n f) (fun i σ H'=>∃ v:Option V,σ=[some (.ref l),some (.int x),some (.int (My.hv f n x i)),v]∧H'=H) ⟨none,rfl,rfl⟩ (fun i σ H' _ ⟨_,_,e⟩=>by rw [e];exact hl) ?_ ?_⟩
  ·rintro i y σ H' hi ⟨v,rfl,rfl⟩
   obtain ⟨hi2,rfl⟩:=RW hi
   have h0:=My.TY f n x i
   have h1:=My.TZ f n x i
   refine ⟨_,rfl,_,rfl,_,_,rfl,rfl,.inl ⟨by omega,by omega⟩,_,rfl,_,_,rfl,rfl,_,_,rfl,rfl,(by show (0:Int) < 97;decide),?_⟩
   exact ⟨_,rfl,rfl⟩
  ·rintro σ H' ⟨v,rfl,rfl⟩
   refine ⟨_,rfl,?_⟩
   rw [aL,My.aBv]
   exact q
def oB (K:PySem.W.Frag):Sp:=fun vs H Q _=>∃ (l:Addr) (f:Nat→Int),vs=[.ref l]∧aX K H l (tabI 24 f)∧IsCell 24 f ∧
 ∀ p H',H p=none→aI H H'→H' p=some (.lst (tabI 6 fun j=>My.T (My.St j) 24 f))→Q (.ref p) H'
theorem HW:aQ ["cell"] ["cell"] (aH jQ):=⟨rfl,rfl,rfl,by decide +kernel,rfl,by decide +kernel,by decide +kernel⟩
theorem HX (F:aP K mg "troubles" jQ) (T:Txt K mg t) (oC:Def P w K mg base 3 "look_cell" ["cell"] (sF K t.BadCell)) (qW:Def P w K mg base 1 "value_at" ["signs","point"] (uh K)) (et:Def P w K mg base 3 "power" ["a","k"] (oA t.BadSign)) :
  Def P w K mg base 4 "troubles" ["cell"] (oB K):=by
 refine F.def HW (fun _ _ _ _ _ _ us hl=>match us,hl with | [_],_=>rfl) (fun vs H Q E h=>?_) (fun f bo A outer s H vs Q E hr h=>?_)
 ·obtain ⟨l,f,rfl,_⟩:=h
  rfl
 ·obtain ⟨l,f,rfl,hl,cf,q⟩:=h
  refine ⟨_,aC (ax (aZ (oC.mono (by decide)) hr ar (aA (pv 0) aE)))
   (aG (aV (lE rfl (Nc:=["j","cell"]) (ix:=[none,some 0]) (dF (aH jQ) ["cell"] rfl rfl (by decide +kernel)) (tE (by rfl) T.dg (aA aF (aA (aN bA (aS T.LX) aF) aE))) (fun C fp s H=>⟨(az (i:=0) (show (["j","cell"]:List Str).Nodup by decide +kernel) rfl (Or.inl rfl)),cX,(aZ (qW.mono (by decide)) hr ar (aA (pv 1) (aA (aZ (et.mono (by decide)) hr ar (aA (aS T.LW) (aA (pv 0) aE))) aE)))⟩)))),?_⟩
  have hsz:(2000:Nat)≤sizeLine:=by decide
  refine ⟨_,rfl,l,(List.range 24).map f,rfl,by rw [vO];exact hl,cf.far,fun _=>?_,fun h=>absurd cf.row h⟩
  refine ⟨_,_,rfl,rfl,1,_,rfl,⟨by decide,by decide,by decide,by decide⟩,fun D hD=>?_⟩
  refine lH (lo:=1) (n:=6) (fun i σ H'=>∃ v:Option V,σ=[v,some (.ref l)]∧aI H H'∧H' D=some (.lst (tabI i fun j=>My.T (My.St j) 24 f))) ⟨none,rfl,(aI.refl _).new hD,aB⟩ ?_ ?_
  ·rintro i σ H' N hN hi ⟨v,rfl,s1,h1⟩
   refine df ?_
   refine ⟨_,rfl,_,rfl,5,_,rfl,by decide,by omega,fun _=>?_,fun h=>absurd (show (0:Int)≤5∧(5:Int) < 97 by decide) h⟩
   refine ⟨l,24,f,_,rfl,s1.seq hl,?_⟩
   rw [My.aBu i hi]
   refine ⟨_,h1,by rw [aL];omega,?_⟩
   exact hN _ _ ⟨_,rfl,s1.put hD,j0 rfl⟩
  ·rintro σ H' ⟨v,rfl,s1,h1⟩
   exact q D H' hD s1 h1
def pY (f:Nat→Int):Bool:=decide ((List.range 6).map (fun j=>My.T (My.St j) 24 f)=(List.range 6).map fun _=>(0:Int))
theorem kF {f:Nat→Int}:pY f=true↔My.bq f:=by
 unfold pY My.bq
 rw [decide_eq_true_iff]
 constructor
 ·intro h j hj
  have:=congrArg (fun l=>l.getD j 0) h
  simp only [MR 6 _ j hj] at this
  exact this
 ·intro h
  apply List.map_congr_left
  intro j hj
  exact h j (List.mem_range.mp hj)
theorem Jm {f:Nat→Int} (h:¬ My.bq f):pY f=false:=by
 rw [Bool.eq_false_iff]
 exact fun z=>h (kF.mp z)
def sG (K:PySem.W.Frag):Sp:=fun vs H Q _=>∃ (l:Addr) (f:Nat→Int),vs=[.ref l]∧aX K H l (tabI 24 f)∧IsCell 24 f∧∀ H',aI H H'→Q (.bl (pY f)) H'
theorem AO:aQ ["cell"] ["cell"] (aH j7):=⟨rfl,rfl,rfl,by decide +kernel,rfl,by decide +kernel,by decide +kernel⟩
theorem AQ (F:aP K mg "is_sealed" j7) (T:Txt K mg t) (gZ:Def P w K mg base 4 "troubles" ["cell"] (oB K)):Def P w K mg base 5 "is_sealed" ["cell"] (sG K):=by
 refine F.def AO (fun _ _ _ _ _ _ us hl=>match us,hl with | [_],_=>rfl) (fun vs H Q E h=>?_) (fun f bo A outer s H vs Q E hr h=>?_)
 ·obtain ⟨l,f,rfl,_⟩:=h
  rfl
 ·obtain ⟨l,f,rfl,hl,cf,q⟩:=h
  refine ⟨_,aG (aV (pM (LI K (MN hr)) (aZ (gZ.mono (by decide)) hr ar (aA (pv 0) aE)) (aN zu (bF (aA aF aE)) (aS T.LX)) (aj _))),?_⟩
  refine ⟨_,rfl,l,f,rfl,hl,cf,fun p H1 hp s1 h1=>?_⟩
  refine ⟨by show 1≤sizeLine;decide,fun a1 Di=>?_⟩
  refine ⟨a1,_,_,rfl,rfl,aB,by decide,by decide,by decide,fun a2 YL=>?_⟩
  have s2:=((aI.refl H1).new (o:=.lst [V.int 0]) Di).new (o:=.lst (List.replicate (6:Int).toNat [V.int 0]).flatten) YL
  refine ⟨p,a2,_,(List.range 6).map fun _=>0,rfl,rfl,aX.of (by rw [vO];exact s2 _ _ h1),aX.of (by rw [aB];rfl),?_⟩
  exact q _ (s1.trans s2)
def wO (K:PySem.W.Frag):Sp:=fun vs H Q _=>∃ (l:Addr) (r:Nat→Int) (s:Int),vs=[.ref l,.int s]∧aX K H l (tabI 6 r)∧(∀ k,k < 6→0≤r k∧r k < 97)∧0≤s∧s < 97 ∧
 ∀ p H',H p=none→aI H H'→H' p=some (.lst (tabI 6 fun k=>((if k < 5 then r (k+1) else 0) - (r 0+s) * My.Dv k) % 97))→Q (.ref p) H'
theorem RX:([V.int (21),V.int (80),V.int (53),V.int (2),V.int (55),V.int (63)]:List V)=tabI 6 My.Dv:=by rfl
theorem wQ:aQ ["rest","sign","times"] ["rest","sign"] (aH lK):=⟨rfl,rfl,rfl,by decide +kernel,rfl,by decide +kernel,by decide +kernel⟩
theorem Jn (F:aP K mg "carried" lK) (T:Txt K mg t):Def P w K mg base 1 "carried" ["rest","sign"] (wO K):=by
 refine F.def wQ (fun _ _ _ _ _ _ us hl=>match us,hl with | [_,_],_=>rfl) (fun vs H Q E h=>?_) (fun f bo A outer s H vs Q E hr h=>?_)
 ·obtain ⟨l,r,s,rfl,_⟩:=h
  rfl
 ·obtain ⟨l,r,sg,rfl,hl,br,s0,s1,q⟩:=h
  refine ⟨_,aC (aT (i:=2) wQ.nd rfl (Or.inr rfl) (aN bA (aR (aM K) (pv 0) aF (fun _ _=>rfl)) (pv 1)))
   (aG (aV (lE rfl (Nc:=["low","part","times"]) (ix:=[none,none,some 2]) (dF (aH lK) ["rest","sign","times"] rfl rfl (by decide +kernel)) (OZ K (by rfl) T.LY (aA (aN (mC K) (iB (iC K) (pv 0) (fb aF) rV) (bF (aA aF aE))) (aA (Kt (v:=.ref t.DIVISOR) (by rfl) T.O3 rfl) aE))) (fun C fp s H=>⟨(pP K (i:=0) (j:=1) rfl (show (["low","part","times"]:List Str).Nodup by decide +kernel) rfl rfl (Or.inl rfl) (Or.inl rfl)),cX,(aN aw (aN jK (pv 0) (aN eM (pv 2) (pv 1))) (aS T.cO))⟩)))),?_⟩
  have hsz:(2000:Nat)≤sizeLine:=by decide
  have b0:=br 0 (by decide)
  refine ⟨_,rfl,l,_,_,_,rfl,rfl,hl,dG (n:=6) (by decide) (by decide),_,rfl,_,_,rfl,rfl,?_⟩
  refine ⟨_,rfl,_,rfl,l,_,rfl,hl,fun p1 HY=>?_⟩
  rw [show fc (tabI 6 r) (some 1) none=tabI 5 fun k=>r (1+k) from JQ (lo:=1) (n:=6) (by decide)]
  have t1:=(aI.refl H).new (o:=.lst (tabI 5 fun k=>r (1+k))) HY
  refine ⟨by show 1≤sizeLine;decide,fun p2 vw=>?_⟩
  have n12:p1≠p2:=aK aB vw
  have t2:=t1.new (o:=.lst [V.int 0]) vw
  refine ⟨p1,p2,_,_,rfl,rfl,aX.of (by rw [aD n12];exact aB),aX.of aB,by rw [aL];decide,fun p3 Mq=>?_⟩
  have ec:(tabI 5 fun k=>r (1+k)) ++ [V.int 0]=tabI 6 fun k=>if k < 5 then r (k+1) else 0:=by
   rw [Gx]
   refine bW fun k hk=>?_
   by_cases e:k=5
   ·subst e;rfl
   ·rw [if_neg e];dsimp only;rw [if_pos (by omega),Nat.add_comm]
  rw [ec]
  have t3:=t2.new (o:=.lst (tabI 6 fun k=>if k < 5 then r (k+1) else 0)) Mq
  have h3:∀ H0:Hp,(upd H0 p3 (.lst (tabI 6 fun k=>if k < 5 then r (k+1) else 0))) p3=some (.lst (tabI 6 fun k=>if k < 5 then r (k+1) else 0)):=fun _=>aB
  refine ⟨p3,t.DIVISOR,rfl,⟨_,aX.of (h3 _)⟩,⟨_,T.HP.sq _⟩,fun D hD=>?_⟩
  have h3':=h3 (upd (upd H p1 (.lst (tabI 5 fun k=>r (1+k)))) p2 (.lst [V.int 0]))
  generalize upd (upd (upd H p1 (.lst (tabI 5 fun k=>r (1+k)))) p2 (.lst [V.int 0])) p3 (.lst (tabI 6 fun k=>if k < 5 then r (k+1) else 0))=H3 at *
  refine Qx (K:=K) (a:=p3) (b:=t.DIVISOR) (xs:=tabI 6 fun k=>if k < 5 then r (k+1) else 0) (ys:=tabI 6 My.Dv) (by rw [aL,aL]) (fun i σ H'=>∃ v1 v2:Option V,σ=[v1,v2,some (.int (r 0+sg))]∧aI H3 H'∧H' D=some (.lst (tabI i fun k=>((if k < 5 then r (k+1) else 0) - (r 0+sg) * My.Dv k) % 97)))
   ⟨none,none,rfl,(aI.refl _).new hD,aB⟩ (fun i σ H' _ ⟨_,_,_,s2,_⟩=>⟨aX.of (s2 _ _ h3'),by rw [← RX];exact T.HP.sq _⟩) ?_ ?_
  ·rintro i x y pp σ H' N hN hx hy ⟨v1,v2,rfl,s2,h2⟩ RY
   obtain ⟨hi,rfl⟩:=tab_of hx
   obtain ⟨_,rfl⟩:=tab_of hy
   refine vm ?_
   have nD:D≠pp:=aK h2 RY
   refine ⟨_,rfl,_,rfl,_,rfl,_,_,rfl,rfl,.inl ⟨by omega,by omega⟩,_,_,rfl,rfl,_,_,rfl,rfl,(by show (0:Int) < 97;decide),?_⟩
   refine ⟨_,by rw [aD nD];exact h2,by rw [aL];omega,?_⟩
   exact hN _ _ ⟨_,_,rfl,(s2.new RY).put hD,j0 rfl⟩
  ·rintro σ H' ⟨v1,v2,rfl,s2,h2⟩
   rw [aL] at h2
   exact q D H' (t3.free hD) (t3.trans s2) h2
def zN (K:PySem.W.Frag):Sp:=fun vs H Q _=>∃ (l:Addr) (f:Nat→Int),vs=[.ref l]∧aX K H l (tabI 18 f)∧IsCell 18 f∧∀ p H',H p=none→aI H H'→H' p=some (.lst (tabI 24 (My.lI f)))→Q (.ref p) H'
theorem pZ:aQ ["signs","rest","sign"] ["signs"] (aH nv):=⟨rfl,rfl,rfl,by decide +kernel,rfl,by decide +kernel,by decide +kernel⟩
theorem Mr (F:aP K mg "sealed" nv) (T:Txt K mg t) (eG:Def P w K mg base 2 "look_signs" ["signs","many"] (kN K t.BadCell)) (tT:Def P w K mg base 1 "carried" ["rest","sign"] (wO K)):Def P w K mg base 3 "sealed" ["signs"] (zN K):=by
 refine F.def pZ (fun _ _ _ _ _ _ us hl=>match us,hl with | [_],_=>rfl) (fun vs H Q E h=>?_) (fun f bo A outer s H vs Q E hr h=>?_)
 ·obtain ⟨l,f,rfl,_⟩:=h
  rfl
 ·obtain ⟨l,f,rfl,hl,cf,q⟩:=h
  refine ⟨_,aC (ax (aZ (eG.mono (by decide)) hr ar (aA (pv 0) (aA (aS T.sE) aE))))
   (aC (aT (i:=1) pZ.nd rfl (Or.inl rfl) (aN zu (bF (aA aF aE)) (aS T.LX)))
   (aC (PS.uX (dD PassesOwn.never rfl (cN K (pv 0)) (az (i:=2) pZ.nd rfl (Or.inl rfl))
    (aG (aT (i:=1) pZ.nd rfl (Or.inl rfl) (aZ (tT.mono (by decide)) hr ar (aA (pv 1) (aA (pv 2) aE)))))))
   (aG (aV (aN (mC K) (gP (gQ K) (by rfl) T.qU boot_list (aA (pv 0) aE)) (lE rfl (Nc:=["part"]) (ix:=[none]) (dF (aH nv) ["signs","rest","sign"] rfl rfl (by decide +kernel)) (cN K (pv 1)) (fun C fp s H=>⟨(az (i:=0) (show (["part"]:List Str).Nodup by decide +kernel) rfl (Or.inl rfl)),cX,(aN aw (Kw za (pv 0)) (aS T.cO))⟩))))))),?_⟩
  have hsz:(2000:Nat)≤sizeLine:=by decide
  refine ⟨_,rfl,l,(List.range 18).map f,18,rfl,by rw [vO];exact hl,cf.far,by decide,fun _=>?_,fun h=>absurd cf.row h⟩
  refine ⟨by show 1≤sizeLine;decide,fun a1 Di=>?_⟩
  refine ⟨a1,_,_,rfl,rfl,aB,by decide,by decide,by decide,fun a2 YL=>?_⟩
  have s1:=((aI.refl H).new (o:=.lst [V.int 0]) Di).new (o:=.lst (List.replicate (6:Int).toNat [V.int 0]).flatten) YL
  refine ⟨_,rfl,l,rfl,⟨_,s1.seq hl⟩,lD (K:=K) (a:=l) (xs:=tabI 18 f) (fun i σ H'=>∃ (v:Option V) (p:Addr),σ=[some (.ref l),some (.ref p),v]∧aI H H'∧H' p=some (.lst (tabI 6 (My.rs f i)))) ⟨none,a2,rfl,s1,by rw [aB];rfl⟩ (fun i σ H' _ ⟨_,_,_,s2,_⟩=>s2.seq hl) ?_ ?_⟩
  ·rintro i y σ H' hi ⟨v,p,rfl,s2,h2⟩
   obtain ⟨hi2,rfl⟩:=tab_of hi
   have bi:=cf.b i hi2
   refine ⟨_,rfl,_,rfl,p,My.rs f i,f i,rfl,aX.of h2,fun k _=>⟨My.YB f i k,My.YC f i k⟩,bi.1,bi.2,fun p2 H2 vw s3 h3=>?_⟩
   exact ⟨_,p2,rfl,s2.trans s3,h3⟩
  ·rintro σ H' ⟨v,p,rfl,s2,h2⟩
   rw [aL] at h2
   refine ⟨_,rfl,l,_,rfl,.inl (s2.seq hl),fun b1 WT=>?_⟩
   have s3:=(aI.refl H').new (o:=.lst (tabI 18 f)) WT
   refine ⟨_,rfl,p,rfl,⟨_,aX.of (s3 _ _ h2)⟩,fun D hD=>?_⟩
   have nD:b1≠D:=aK aB hD
   refine tK (K:=K) (a:=p) (n:=6) (F:=fun k=>V.int (My.rs f 18 k)) (fun i σ H4=>∃ v:Option V,σ=[v]∧aI (upd H' b1 (.lst (tabI 18 f))) H4∧H4 D=some (.lst (tabI i fun k=>-(My.rs f 18 k) % 97))) ⟨none,rfl,(aI.refl _).new hD,aB⟩ (fun i σ H4 _ ⟨_,_,s4,_⟩=>aX.of (s4 _ _ (s3 _ _ h2))) ?_ ?_
   ·rintro i σ H4 N hN hi ⟨v,rfl,s4,h4⟩
    refine df ?_
    refine ⟨_,rfl,_,rfl,_,_,rfl,rfl,(by show (0:Int) < 97;decide),?_⟩
    refine ⟨_,h4,by rw [aL];omega,?_⟩
    exact hN _ _ ⟨_,rfl,s4.put hD,j0 rfl⟩
   ·rintro σ H4 ⟨v,rfl,s4,h4⟩
    refine ⟨b1,D,_,_,rfl,rfl,aX.of (s4 _ _ aB),aX.of h4,by rw [aL,aL];decide,fun c1 hc1=>?_⟩
    have s5:=((s2.trans s3).trans s4)
    refine q c1 _ (s5.free hc1) (s5.new hc1) ?_
    rw [aB,Qv]
    refine congrArg (fun z=>some (HO.lst z)) (bW fun i hi=>?_)
    unfold My.lI
    split <;> rfl
end
end K31
namespace K31
open PySem L2 PyProof.Rows
section
variable {P:Program} {w:World} {K:PySem.W.Frag} {mg:Str→Option Value} {base:Heap} {t:Ad}
def sH (C:Addr):Sp:=fun vs H Q E=>∃ n:Int,vs=[.int n]∧n.natAbs < 2 ^ 1000∧(1≤n∧n≤6→Q .bJ H)∧(¬ (1≤n∧n≤6)→E (.ref C) none H)
theorem AR:aQ ["late"] ["late"] (aH j8):=⟨rfl,rfl,rfl,by decide +kernel,rfl,by decide +kernel,by decide +kernel⟩
theorem AS (F:aP K mg "look_late" j8) (T:Txt K mg t):Def P w K mg base 1 "look_late" ["late"] (sH t.BadMeasure):=by
 refine F.def AR (fun _ _ _ _ _ _ us hl=>match us,hl with | [_],_=>rfl) (fun vs H Q E h=>?_) (fun f bo A outer s H vs Q E hr h=>?_)
 ·obtain ⟨n,rfl,_⟩:=h
  rfl
 ·obtain ⟨n,rfl,hb,q1,q2⟩:=h
  refine ⟨_,aG (bD (kJ (rR qB qB aF (pv 0) (aS T.wH)))
    (aG (eg bC rfl rfl T.ue T.uf PySem.F.excBase_ValueError (aA (jz (bU cZ (bU (ff (aS T.wH)) (bU cZ (bU (ff (pv 0)) nj))))) aE)))
    (af)),?_⟩
  have sl:(3000:Nat)≤sizeLine:=by decide
  have bad:¬ (1≤n∧n≤6)→_:=fun z=>q2 z
  have l1:("late is from 1 to ":Str).length=18:=by decide +kernel
  have l2:(", not ":Str).length=6:=by decide +kernel
  have z6:=gD (i:=6) (by decide)
  have zn:=gD hb
  have e0:(Str.empty ++ ("late is from 1 to ":Str)).length≤18:=by rw [strLen_append,l1];show 0+18≤18;omega
  have e1:((Str.empty ++ ("late is from 1 to ":Str)) ++ Str.ofString (toString (6:Int))).length≤1019:=by rw [strLen_append];omega
  have e2:(((Str.empty ++ ("late is from 1 to ":Str)) ++ Str.ofString (toString (6:Int))) ++ (", not ":Str)).length≤1025:=by rw [strLen_append];omega
  have e3:((((Str.empty ++ ("late is from 1 to ":Str)) ++ Str.ofString (toString (6:Int))) ++ (", not ":Str)) ++ Str.ofString (toString n)).length≤2026:=by rw [strLen_append];omega
  refine ⟨_,rfl,_,_,rfl,rfl,_,rfl,?_⟩
  by_cases h1:1≤n
  ·refine eP h1 ?_
   refine ⟨_,_,rfl,rfl,_,rfl,?_⟩
   by_cases h2:n≤6
   ·rw [decide_eq_true h2]
    exact di (q1 ⟨h1,h2⟩)
   ·rw [decide_eq_false h2]
    refine fe ?_
    refine ⟨_,rfl,by omega,6,rfl,dW (n:=1000) (by decide) (by decide) (by decide),_,rfl,by omega,_,rfl,by omega,_,rfl,n,rfl,dW hb (by decide) (by decide),_,rfl,by omega,by omega,?_⟩
    exact ⟨by show 1≤sizeLine;decide,q2 (by omega)⟩
  ·refine dX h1 ⟨_,rfl,fe ?_⟩
   refine ⟨_,rfl,by omega,6,rfl,dW (n:=1000) (by decide) (by decide) (by decide),_,rfl,by omega,_,rfl,by omega,_,rfl,n,rfl,dW hb (by decide) (by decide),_,rfl,by omega,by omega,?_⟩
   exact ⟨by show 1≤sizeLine;decide,q2 (by omega)⟩
def nJ (K:PySem.W.Frag) (C:Addr):Sp:=fun vs H Q E=>∃ (a:Addr) (x y:Int),vs=[.ref a]∧bw K H a [.int x,.int y]∧x.natAbs < 2 ^ 1000∧y.natAbs < 2 ^ 1000∧((1≤x∧x≤6)∧0≤y∧y≤4→Q .bJ H)∧(¬ ((1≤x∧x≤6)∧0≤y∧y≤4)→E (.ref C) none H)
theorem nK:aQ ["measure","lost"] ["measure"] (aH fj):=⟨rfl,rfl,rfl,by decide +kernel,rfl,by decide +kernel,by decide +kernel⟩
theorem vD (F:aP K mg "look_measure" fj) (T:Txt K mg t) (oE:Def P w K mg base 1 "look_late" ["late"] (sH t.BadMeasure)):Def P w K mg base 2 "look_measure" ["measure"] (nJ K t.BadMeasure):=by
 refine F.def nK (fun _ _ _ _ _ _ us hl=>match us,hl with | [_],_=>rfl) (fun vs H Q E h=>?_) (fun f bo A outer s H vs Q E hr h=>?_)
 ·obtain ⟨a,x,y,rfl,_⟩:=h
  rfl
 ·obtain ⟨a,x,n,rfl,ha,hx,hb,q1,q2⟩:=h
  refine ⟨_,aC (ax (aZ (oE.mono (by decide)) hr (lG bC) (aA (aR (bj K) (pv 0) aF (fun _ _=>rfl)) aE)))
   (aC (aT (i:=1) nK.nd rfl (Or.inl rfl) (aR (bj K) (pv 0) aF (fun _ _=>rfl)))
   (aG (bD (kJ (rR qB qB aF (pv 1) (aS T.wI)))
    (aG (eg bC rfl rfl T.ue T.uf PySem.F.excBase_ValueError (aA (jz (bU cZ (bU (ff (aS T.wI)) (bU cZ (bU (ff (pv 1)) nj))))) aE)))
    (af)))),?_⟩
  have sl:(3000:Nat)≤sizeLine:=by decide
  have l1:("lost is from 0 to ":Str).length=18:=by decide +kernel
  have l2:(", not ":Str).length=6:=by decide +kernel
  have z6:=gD (i:=4) (by decide)
  have zn:=gD hb
  have e0:(Str.empty ++ ("lost is from 0 to ":Str)).length≤18:=by rw [strLen_append,l1];show 0+18≤18;omega
  have e1:((Str.empty ++ ("lost is from 0 to ":Str)) ++ Str.ofString (toString (4:Int))).length≤1019:=by rw [strLen_append];omega
  have e2:(((Str.empty ++ ("lost is from 0 to ":Str)) ++ Str.ofString (toString (4:Int))) ++ (", not ":Str)).length≤1025:=by rw [strLen_append];omega
  have e3:((((Str.empty ++ ("lost is from 0 to ":Str)) ++ Str.ofString (toString (4:Int))) ++ (", not ":Str)) ++ Str.ofString (toString n)).length≤2026:=by rw [strLen_append];omega
  refine ⟨_,rfl,a,_,_,_,rfl,rfl,ha,rfl,x,rfl,hx,fun h0=>?_,fun h0=>q2 fun z=>h0 z.1⟩
  refine ⟨_,rfl,a,_,_,_,rfl,rfl,ha,rfl,?_⟩
  refine ⟨_,rfl,_,_,rfl,rfl,_,rfl,?_⟩
  by_cases h1:0≤n
  ·refine eP h1 ?_
   refine ⟨_,_,rfl,rfl,_,rfl,?_⟩
   by_cases h2:n≤4
   ·rw [decide_eq_true h2]
    exact di (q1 ⟨h0,h1,h2⟩)
   ·rw [decide_eq_false h2]
    refine fe ?_
    refine ⟨_,rfl,by omega,4,rfl,dW (n:=1000) (by decide) (by decide) (by decide),_,rfl,by omega,_,rfl,by omega,_,rfl,n,rfl,dW hb (by decide) (by decide),_,rfl,by omega,by omega,?_⟩
    exact ⟨by show 1≤sizeLine;decide,q2 (by omega)⟩
  ·refine dX h1 ⟨_,rfl,fe ?_⟩
   refine ⟨_,rfl,by omega,4,rfl,dW (n:=1000) (by decide) (by decide) (by decide),_,rfl,by omega,_,rfl,by omega,_,rfl,n,rfl,dW hb (by decide) (by decide),_,rfl,by omega,by omega,?_⟩
   exact ⟨by show 1≤sizeLine;decide,q2 (by omega)⟩
def YM (x y:Int):Prop:=(1≤x∧x≤6)∧0≤y∧y≤4
def ui (K:PySem.W.Frag) (C:Addr):Sp:=fun vs H Q E=>∃ (a:Addr) (x y:Int),vs=[.ref a]∧bw K H a [.int x,.int y]∧x.natAbs < 2 ^ 1000∧y.natAbs < 2 ^ 1000∧(YM x y→Q (.int (x+y)) H)∧(¬ YM x y→E (.ref C) none H)
theorem HZ:aQ ["measure"] ["measure"] (aH mG):=⟨rfl,rfl,rfl,by decide +kernel,rfl,by decide +kernel,by decide +kernel⟩
theorem Hi (F:aP K mg "quiet_of" mG) (T:Txt K mg t) (jU:Def P w K mg base 2 "look_measure" ["measure"] (nJ K t.BadMeasure)):Def P w K mg base 3 "quiet_of" ["measure"] (ui K t.BadMeasure):=by
 refine F.def HZ (fun _ _ _ _ _ _ us hl=>match us,hl with | [_],_=>rfl) (fun vs H Q E h=>?_) (fun f bo A outer s H vs Q E hr h=>?_)
 ·obtain ⟨a,x,y,rfl,_⟩:=h
  rfl
 ·obtain ⟨a,x,y,rfl,ha,hx,hy,q1,q2⟩:=h
  refine ⟨_,aC (ax (aZ (jU.mono (by decide)) hr (lG bC) (aA (pv 0) aE)))
   (aG (aV (aN bA (aR (bj K) (pv 0) aF (fun _ _=>rfl)) (aR (bj K) (pv 0) aF (fun _ _=>rfl))))),?_⟩
  refine ⟨_,rfl,a,x,y,rfl,ha,hx,hy,fun h0=>?_,fun h0=>q2 h0⟩
  refine ⟨_,rfl,a,_,_,_,rfl,rfl,ha,rfl,?_⟩
  refine ⟨_,rfl,a,_,_,_,rfl,rfl,ha,rfl,_,_,rfl,rfl,?_⟩
  exact q1 h0
end
end K31
namespace K31
open PySem L2 PyProof.Rows
section
variable {P:Program} {w:World} {K:PySem.W.Frag} {mg:Str→Option Value} {base:Heap} {t:Ad}
def uj (K:PySem.W.Frag):Sp:=fun vs H Q _=>∃ (l:Addr) (n:Nat) (f:Nat→Int) (z:Int),vs=[.ref l,.int z]∧aX K H l (tabI n f)∧n≤1000 ∧
 ∀ p H',H p=none→aI H H'→H' p=some (.lst (tabI (n+1) fun j=>(if j < n then f j else z) % 97))→Q (.ref p) H'
theorem Hj:aQ ["row","side"] ["row","side"] (aH jO):=⟨rfl,rfl,rfl,by decide +kernel,rfl,by decide +kernel,by decide +kernel⟩
theorem Hk (F:aP K mg "equation" jO) (T:Txt K mg t):Def P w K mg base 1 "equation" ["row","side"] (uj K):=by
 refine F.def Hj (fun _ _ _ _ _ _ us hl=>match us,hl with | [_,_],_=>rfl) (fun vs H Q E h=>?_) (fun f bo A outer s H vs Q E hr h=>?_)
 ·obtain ⟨l,n,f,z,rfl,_⟩:=h
  rfl
 ·obtain ⟨l,n,f',z,rfl,hl,hn,q⟩:=h
  refine ⟨_,aG (aV (aN (mC K) (lE rfl (Nc:=["sign"]) (ix:=[none]) (dF (aH jO) ["row","side"] rfl rfl (by decide +kernel)) (cN K (pv 0)) (fun C fp s H=>⟨(az (i:=0) (show (["sign"]:List Str).Nodup by decide +kernel) rfl (Or.inl rfl)),cX,(aN aw (pv 0) (aS T.cO))⟩)) (bF (aA (aN aw (pv 1) (aS T.cO)) aE)))),?_⟩
  have hsz:(2000:Nat)≤sizeLine:=by decide
  refine ⟨_,rfl,l,rfl,⟨_,hl⟩,fun D hD=>?_⟩
  refine tK (K:=K) (a:=l) (n:=n) (F:=fun j=>V.int (f' j)) (fun i σ H'=>∃ v:Option V,σ=[v]∧aI H H'∧H' D=some (.lst (tabI i fun j=>f' j % 97))) ⟨none,rfl,(aI.refl _).new hD,aB⟩ (fun i σ H' _ ⟨_,_,s1,_⟩=>s1.seq hl) ?_ ?_
  ·rintro i σ H' N hN hi ⟨v,rfl,s1,h1⟩
   refine df ?_
   refine ⟨_,rfl,_,_,rfl,rfl,(by show (0:Int) < 97;decide),_,h1,by rw [aL];omega,?_⟩
   exact hN _ _ ⟨_,rfl,s1.put hD,j0 rfl⟩
  ·rintro σ H' ⟨v,rfl,s1,h1⟩
   refine ⟨_,rfl,_,_,rfl,rfl,(by show (0:Int) < 97;decide),by show 1≤sizeLine;decide,fun p2 vw=>?_⟩
   have n2:D≠p2:=aK h1 vw
   have s2:=s1.new (o:=.lst [V.int (z % 97)]) vw
   refine ⟨D,p2,_,_,rfl,rfl,aX.of (by rw [aD n2];exact h1),aX.of aB,by rw [aL];show n+1≤sizeLine;omega,fun p3 Mq=>?_⟩
   refine q p3 _ (s2.free Mq) (s2.new Mq) ?_
   have e3:tabI (n+1) (fun j=>(if j < n then f' j else z) % 97)=tabI n (fun j=>f' j % 97) ++ [V.int (z % 97)]:=by
    refine (vn n _).trans ?_
    rw [show cM n (fun j=>V.int ((if j < n then f' j else z) % 97))=tabI n fun j=>f' j % 97 from bW fun i hi=>by rw [if_pos hi]]
    show _ ++ [V.int ((if n < n then f' n else z) % 97)]=_
    rw [if_neg (Nat.lt_irrefl n)]
   rw [aB,e3]
def oF (K:PySem.W.Frag):Sp:=fun vs H Q _=>∃ (l:Addr) (m n c:Nat) (a:My.nT),vs=[.ref l,.int c]∧rg K H l m n a∧c < n∧c≤m∧m≤1000∧n≤1000 ∧
 (∀ i:Nat,c≤i→i < m→a i c≠0→(∀ k,c≤k→k < i→a k c=0)→Q (.int i) H)∧((∀ i,c≤i→i < m→a i c=0)→Q .bJ H)
theorem oG:aQ ["table","column","place"] ["table","column"] (aH hZ):=⟨rfl,rfl,rfl,by decide +kernel,rfl,by decide +kernel,by decide +kernel⟩
theorem wR (F:aP K mg "pivot_place" hZ) (T:Txt K mg t):Def P w K mg base 1 "pivot_place" ["table","column"] (oF K):=by
 refine F.def oG (fun _ _ _ _ _ _ us hl=>match us,hl with | [_,_],_=>rfl) (fun vs H Q E h=>?_) (fun f bo A outer s H vs Q E hr h=>?_)
 ·obtain ⟨l,m,n,c,a,rfl,_⟩:=h
  rfl
 ·obtain ⟨l,m,n,c,a,rfl,⟨as,g1,g2⟩,hc,VH,hm,hn,q1,q2⟩:=h
  refine ⟨_,aC (PS.uX (dD PassesOwn.never rfl (tE (by rfl) T.dg (aA (pv 1) (aA (bP (bQ K) (by rfl) T.iE boot_len (aA (pv 0) aE)) aE))) (az (i:=2) oG.nd rfl (Or.inl rfl))
    (aG (bD (aW Gg (aR (aM K) (aR (aM K) (pv 0) (pv 2) (fun _ _=>rfl)) (pv 1) (fun _ _=>rfl)) aF (aj _))
     (aG (aV (pv 2)))
     (af)))))
   (aG (aV cK)),?_⟩
  refine ⟨_,rfl,_,rfl,l,_,rfl,.inl g1,(c:Int),((bK m as).length:Nat),rfl,⟨by omega,by omega,by omega,by rw [aL];omega⟩,?_⟩
  have en:((((bK m as).length:Nat):Int) - (c:Int)).toNat=m - c:=by rw [aL];omega
  rw [en]
  refine fT (lo:=(c:Int)) (n:=m - c) (fun i σ H'=>∃ v:Option V,σ=[some (.ref l),some (.int c),v]∧H'=H∧∀ k,c≤k→k < c+i→a k c=0) ⟨none,rfl,rfl,fun k h1 h2=>by omega⟩ ?_ ?_
  ·rintro i σ H' hi ⟨v,rfl,rfl,hz⟩
   have ei:((c:Int)+(i:Nat)).toNat=c+i:=by omega
   refine ⟨_,rfl,_,rfl,l,_,_,_,rfl,rfl,g1,dG (by omega) (by omega),_,rfl,_,_,_,_,rfl,rfl,g2 _ (by omega),dG (by omega) (by omega),rfl,_,rfl,?_⟩
   by_cases z:a (c+i) c=0
   ·refine qC (by rw [ei,Int.toNat_natCast,z]) ?_
    refine ⟨_,rfl,rfl,fun k h1 h2=>?_⟩
    by_cases e:k=c+i
    ·rw [e];exact z
    ·exact hz k h1 (by omega)
   ·refine rY (fun e=>z (by have:=V.int.inj e;rwa [ei,Int.toNat_natCast] at this)) ?_
    refine ⟨_,rfl,?_⟩
    have:=q1 (c+i) (by omega) (by omega) z hz
    have e:((c+i:Nat):Int)=(c:Int)+(i:Nat):=by omega
    rw [e] at this
    exact this
  ·rintro σ H' ⟨v,rfl,rfl,hz⟩
   exact q2 fun i h1 h2=>hz i h1 (by omega)
def sI (K:PySem.W.Frag):Sp:=fun vs H Q _=>∃ (l:Addr) (m n c d:Nat) (a:My.nT),vs=[.ref l,.int c,.int d]∧rg K H l m n a∧c < m∧d < m∧m≤1000 ∧
 ∀ p H',H p=none→aI H H'→rg K H' p m n (My.swap a c d)→Q (.ref p) H'
theorem sJ:aQ ["table","one","other","rows"] ["table","one","other"] (aH j5):=⟨rfl,rfl,rfl,by decide +kernel,rfl,by decide +kernel,by decide +kernel⟩
theorem AU (F:aP K mg "exchanged" j5) (T:Txt K mg t):Def P w K mg base 1 "exchanged" ["table","one","other"] (sI K):=by
 refine F.def sJ (fun _ _ _ _ _ _ us hl=>match us,hl with | [_,_,_],_=>rfl) (fun vs H Q E h=>?_) (fun f bo A outer s H vs Q E hr h=>?_)
 ·obtain ⟨l,m,n,c,d,a,rfl,_⟩:=h
  rfl
 ·obtain ⟨l,m,n,c,d,a,rfl,⟨as,g1,g2⟩,hc,hd,hm,q⟩:=h
  refine ⟨_,aC (aT (i:=3) sJ.nd rfl (Or.inl rfl) (gP (gQ K) (by rfl) T.qU boot_list (aA (pv 0) aE)))
   (aC (nY (aR (aM K) (pv 0) (pv 2) (fun _ _=>rfl)) (nX (pv 3) (pv 1) set_list))
   (aC (nY (aR (aM K) (pv 0) (pv 1) (fun _ _=>rfl)) (nX (pv 3) (pv 2) set_list))
   (aG (aV (pv 3))))),?_⟩
  refine ⟨_,rfl,l,_,rfl,.inl g1,fun p hp=>?_⟩
  have s1:=(aI.refl H).new (o:=.lst (bK m as)) hp
  refine ⟨_,rfl,_,rfl,l,_,_,_,rfl,rfl,s1.seq g1,dG (by omega) (by omega),_,rfl,_,rfl,p,_,_,_,rfl,rfl,aB,vo (by omega) (by omega),?_⟩
  have s2:=s1.put (o:=.lst ((bK m as).set (c:Int).toNat (V.ref (as (d:Int).toNat)))) hp
  rw [rf (by omega)] at *
  refine ⟨_,rfl,_,rfl,l,_,_,_,rfl,rfl,s2.seq g1,dG (by omega) (by omega),_,rfl,_,rfl,p,_,_,_,rfl,rfl,aB,vo (by omega) (by omega),?_⟩
  rw [rf (by omega)]
  refine ⟨_,rfl,?_⟩
  refine q p _ hp (s2.put hp) ⟨fun i=>if i=d then as c else if i=c then as d else as i,aX.of ?_,fun i hi=>(s2.put hp).seq ?_⟩
  ·rw [aB]
   refine congrArg (fun l=>some (HO.lst l)) (bW fun i hi=>?_)
   rw [Int.toNat_natCast,Int.toNat_natCast]
   by_cases e:i=d
   ·simp [e]
   ·by_cases e2:i=c
    ·subst e2
     simp [e]
    ·simp [e,e2]
  ·unfold My.swap
   by_cases e:i=d
   ·subst e
    by_cases e2:i=c
    ·subst e2;simp;exact g2 i hi
    ·simp [e2];exact g2 c hc
   ·by_cases e2:i=c
    ·subst e2;simp [e];exact g2 d hd
    ·simp [e,e2];exact g2 i hi
def uk (K:PySem.W.Frag):Sp:=fun vs H Q _=>∃ (l b:Addr) (n:Nat) (f g:Nat→Int) (z:Int),vs=[.ref l,.ref b,.int z]∧aX K H l (tabI n f)∧aX K H b (tabI n g)∧n≤1000∧0≤z∧z < 97 ∧
 ∀ p H',H p=none→aI H H'→H' p=some (.lst (tabI n fun j=>(f j - z * g j) % 97))→Q (.ref p) H'
theorem Hl:aQ ["row","head","times"] ["row","head","times"] (aH jP):=⟨rfl,rfl,rfl,by decide +kernel,rfl,by decide +kernel,by decide +kernel⟩
theorem Hm (F:aP K mg "lessened" jP) (T:Txt K mg t):Def P w K mg base 1 "lessened" ["row","head","times"] (uk K):=by
 refine F.def Hl (fun _ _ _ _ _ _ us hl=>match us,hl with | [_,_,_],_=>rfl) (fun vs H Q E h=>?_) (fun f bo A outer s H vs Q E hr h=>?_)
 ·obtain ⟨l,b,n,f,g,z,rfl,_⟩:=h
  rfl
 ·obtain ⟨l,b,n,f',g',z,rfl,hl,hb,hn,z0,z1,q⟩:=h
  refine ⟨_,aG (aV (lE rfl (Nc:=["sign","top","times"]) (ix:=[none,none,some 2]) (dF (aH jP) ["row","head","times"] rfl rfl (by decide +kernel)) (zz K (by rfl) T.LY (aA (pv 0) (aA (pv 1) aE))) (fun C fp s H=>⟨(pP K (i:=0) (j:=1) rfl (show (["sign","top","times"]:List Str).Nodup by decide +kernel) rfl rfl (Or.inl rfl) (Or.inl rfl)),cX,(aN aw (aN jK (pv 0) (aN eM (pv 2) (pv 1))) (aS T.cO))⟩))),?_⟩
  have hsz:(2000:Nat)≤sizeLine:=by decide
  refine ⟨_,rfl,_,rfl,l,b,rfl,⟨_,hl⟩,⟨_,hb⟩,fun D hD=>?_⟩
  refine LH (K:=K) (a:=l) (b:=b) (n:=n) (F:=fun j=>V.int (f' j)) (G:=fun j=>V.int (g' j)) (fun i σ H'=>∃ v u:Option V,σ=[v,u,some (.int z)]∧aI H H'∧H' D=some (.lst (tabI i fun j=>(f' j - z * g' j) % 97))) ⟨none,none,rfl,(aI.refl _).new hD,aB⟩ (fun i σ H' _ ⟨_,_,_,s1,_⟩=>⟨s1.seq hl,s1.seq hb⟩) ?_ ?_
  ·rintro i p σ H' N hN hi ⟨v,u,rfl,s1,h1⟩ hp
   refine vm ?_
   have nD:D≠p:=aK h1 hp
   refine ⟨_,rfl,_,rfl,_,rfl,_,_,rfl,rfl,.inl ⟨by omega,by omega⟩,_,_,rfl,rfl,_,_,rfl,rfl,(by show (0:Int) < 97;decide),_,(by rw [aD nD];exact h1),by rw [aL];omega,?_⟩
   exact hN _ _ ⟨_,_,rfl,(s1.new hp).put hD,j0 rfl⟩
  ·rintro σ H' ⟨v,u,rfl,s1,h1⟩
   exact q D H' hD s1 h1
def wU (K:PySem.W.Frag):Sp:=fun vs H Q _=>∃ (l:Addr) (m n c:Nat) (a:My.nT),vs=[.ref l,.int c]∧rg K H l m n a∧c < m∧c < n∧m≤1000∧n≤1000∧(∀ i j,i < m→j < n→0≤a i j∧a i j < 97)∧a c c≠0 ∧
 ∀ p H',H p=none→aI H H'→rg K H' p m n (My.clear a c (My.P (a c c) 95))→Q (.ref p) H'
theorem mM:aQ ["table","column","factor","head","rows"] ["table","column"] (aH jC):=⟨rfl,rfl,rfl,by decide +kernel,rfl,by decide +kernel,by decide +kernel⟩
theorem Jo (F:aP K mg "cleared" jC) (T:Txt K mg t) (jE:Def P w K mg base 4 "inverse" ["a"] (qV t.BadSign)) (qX:Def P w K mg base 1 "lessened" ["row","head","times"] (uk K)):Def P w K mg base 5 "cleared" ["table","column"] (wU K):=by
 refine F.def mM (fun _ _ _ _ _ _ us hl=>match us,hl with | [_,_],_=>rfl) (fun vs H Q E h=>?_) (fun f bo A outer s H vs Q E hr h=>?_)
 ·obtain ⟨l,m,n,c,a,rfl,_⟩:=h
  rfl
 ·obtain ⟨l,m,n,c,a,rfl,⟨as,g1,g2⟩,VH,WO,hm,hn,ha,h0,q⟩:=h
  refine ⟨_,aC (aT (i:=2) mM.nd rfl (Or.inr rfl) (aZ (jE.mono (by decide)) hr (lG bC) (aA (aR (aM K) (aR (aM K) (pv 0) (pv 1) (fun _ _=>rfl)) (pv 1) (fun _ _=>rfl)) aE)))
   (aC (aT (i:=3) mM.nd rfl (Or.inr rfl) (lE rfl (Nc:=["sign","factor"]) (ix:=[none,some 2]) (dF (aH jC) ["table","column","factor","head","rows"] rfl rfl (by decide +kernel)) (cN K (aR (aM K) (pv 0) (pv 1) (fun _ _=>rfl))) (fun C fp s H=>⟨(az (i:=0) (show (["sign","factor"]:List Str).Nodup by decide +kernel) rfl (Or.inl rfl)),cX,(aN aw (aN eM (pv 0) (pv 1)) (aS T.cO))⟩)))
   (aC (lF (i:=4) mM.nd rfl (Or.inl rfl) rfl (Nc:=["row","head","column"]) (ix:=[none,some 3,some 1]) (dF (aH jC) ["table","column","factor","head","rows"] rfl rfl (by decide +kernel)) (cN K (pv 0)) (fun C fp s H=>⟨(az (i:=0) (show (["row","head","column"]:List Str).Nodup by decide +kernel) rfl (Or.inl rfl)),cX,(aZ (qX.mono (by decide)) hr ar (aA (pv 0) (aA (pv 1) (aA (aR (aM K) (pv 0) (pv 2) (fun _ _=>rfl)) aE))))⟩))
   (aC (nY (pv 3) (nX (pv 4) (pv 1) set_list))
   (aG (aV (pv 4)))))),?_⟩
  have hsz:(2000:Nat)≤sizeLine:=by decide
  have ec:((c:Nat):Int).toNat=c:=Int.toNat_natCast c
  have QL:=ha c c VH WO
  refine ⟨_,rfl,_,rfl,l,_,_,_,rfl,rfl,g1,dG (by omega) (by omega),_,rfl,_,_,_,_,rfl,rfl,g2 _ (by omega),dG (by omega) (by omega),_,rfl,?_,fun _=>?_,fun h=>absurd ?_ h⟩
  ·rw [ec];exact dw (by omega) (by omega)
  ·rw [ec]
   have f0:=My.X4 (a c c) 95
   have f1:=My.U7 (a c c) 95
   generalize My.P (a c c) 95=Td at *
   refine ⟨_,rfl,_,rfl,l,_,_,_,rfl,rfl,g1,dG (by omega) (by omega),_,rfl,⟨_,g2 _ (by omega)⟩,fun D hD=>?_⟩
   rw [ec]
   refine tK (K:=K) (a:=as c) (n:=n) (F:=fun j=>V.int (a c j)) (fun i σ H'=>∃ v:Option V,σ=[v,some (.int Td)]∧aI H H'∧H' D=some (.lst (tabI i fun j=>a c j * Td % 97))) ⟨none,rfl,(aI.refl _).new hD,aB⟩ (fun i σ H' _ ⟨_,_,s1,_⟩=>s1.seq (g2 c VH)) ?_ ?_
   ·rintro i σ H' N hN hi ⟨v,rfl,s1,h1⟩
    have hb:=ha c i VH hi
    refine df ?_
    refine ⟨_,rfl,_,rfl,_,_,rfl,rfl,.inl ⟨by omega,by omega⟩,_,_,rfl,rfl,(by show (0:Int) < 97;decide),_,h1,by rw [aL];omega,?_⟩
    exact hN _ _ ⟨_,rfl,s1.put hD,j0 rfl⟩
   ·rintro σ H1 ⟨v,rfl,s1,h1⟩
    refine ⟨_,rfl,l,rfl,⟨_,s1.seq g1⟩,fun D2 Ms=>?_⟩
    have nDD:D≠D2:=aK h1 Ms
    refine tK (K:=K) (a:=l) (n:=m) (F:=fun i=>V.ref (as i)) (fun i σ H'=>∃ (v:Option V) (ps:Nat→Addr),σ=[v,some (.ref D),some (.int c)]∧aI H1 H'∧H' D2=some (.lst (bK i ps))∧∀ k,k < i→aX K H' (ps k) (tabI n fun j=>(a k j - a k c * (a c j * Td % 97)) % 97)∧ps k≠D2)
     ⟨none,as,rfl,(aI.refl _).new Ms,aB,fun k hk=>by omega⟩ (fun i σ H' _ ⟨_,_,_,s2,_⟩=>s2.seq (s1.seq g1)) ?_ ?_
    ·rintro i σ H' N hN hi ⟨v,ps,rfl,s2,h2,hp⟩
     have hb:=ha i c hi WO
     refine df ?_
     refine ⟨_,rfl,_,rfl,_,rfl,_,rfl,as i,_,_,_,rfl,rfl,s2.seq (s1.seq (g2 i hi)),dG (by omega) (by omega),as i,D,n,a i,(fun j=>a c j * Td % 97),_,rfl,s2.seq (s1.seq (g2 i hi)),aX.of (s2 _ _ h1),hn,?_,?_,fun p H2 RZ s3 h3=>?_⟩
     ·rw [ec];exact hb.1
     ·rw [ec];exact hb.2
     ·have np:D2≠p:=aK h2 RZ
      refine ⟨_,s3 _ _ h2,by rw [aL];omega,?_⟩
      rw [dS]
      refine hN _ _ ⟨_,_,rfl,(s2.trans s3).put Ms,aB,fun k hk=>?_⟩
      by_cases e:k=i
      ·subst e
       simp only [if_true]
       refine ⟨aX.of ?_,Ne.symm np⟩
       rw [aD (Ne.symm np),h3,ec]
      ·simp only [e,if_false]
       obtain ⟨q1,q2⟩:=hp k (by omega)
       refine ⟨?_,q2⟩
       rcases s3.seq q1 with (z | ⟨o,z⟩) | z
       ·exact .inl (.inl (by rw [aD q2];exact z))
       ·exact .inl (.inr ⟨o,by rw [aD q2];exact z⟩)
       ·exact .inr z
    ·rintro σ H' ⟨v,ps,rfl,s2,h2,hp⟩
     refine ⟨_,rfl,_,rfl,_,rfl,D2,_,_,_,rfl,rfl,h2,vo (by omega) (by omega),?_⟩
     rw [rf (by omega),ec]
     refine ⟨_,rfl,?_⟩
     refine q D2 _ (s1.free Ms) ((s1.trans s2).put (s1.free Ms)) ⟨fun k=>if k=c then D else ps k,aX.of ?_,fun i hi=>?_⟩
     ·rw [aB]
      refine congrArg (fun l=>some (HO.lst l)) (bW fun k hk=>?_)
      by_cases e:k=c <;> simp [e]
     ·by_cases e:i=c
      ·subst e
       have e2:tabI n (My.clear a i Td i)=tabI n fun j=>a i j * Td % 97:=bW fun j hj=>by unfold My.clear;rw [if_pos rfl]
       simp only [if_true]
       rw [e2]
       exact aX.of (by rw [aD nDD];exact s2 _ _ h1)
      ·obtain ⟨q1,q2⟩:=hp i hi
       have e2:tabI n (My.clear a c Td i)=tabI n fun j=>(a i j - a i c * (a c j * Td % 97)) % 97:=bW fun j hj=>by unfold My.clear;rw [if_neg e]
       simp only [e,if_false]
       rw [e2]
       rcases q1 with (z | ⟨o,z⟩) | z
       ·exact .inl (.inl (by rw [aD q2];exact z))
       ·exact .inl (.inr ⟨o,by rw [aD q2];exact z⟩)
       ·exact .inr z
  ·rw [ec];exact ⟨by omega,QL.2⟩
def iS (n:Nat) (a:My.nT) (b:Nat→Int):My.nT:=fun i j=>(if j < n then a i j else b i) % 97
theorem La (n:Nat) (a:My.nT) (b:Nat→Int) (z:Nat→Int) (i:Nat):(97:Int) ∣ My.ip (n+1) (iS n a b i) z - (My.ip n (a i) z+b i * z n):=by
 have h1:My.ip (n+1) (iS n a b i) z=My.ip n (iS n a b i) z+iS n a b i n * z n:=by unfold My.ip;rw [My.sumTo]
 have h2:(97:Int) ∣ My.ip n (iS n a b i) z - My.ip n (a i) z:=My.HG fun j hj=>by unfold iS;rw [if_pos hj];exact My.fg _
 have h3:(97:Int) ∣ iS n a b i n * z n - b i * z n:=by
  have:(97:Int) ∣ (iS n a b i n - b i) * z n:=Int.dvd_trans (by unfold iS;rw [if_neg (Nat.lt_irrefl n)];exact My.fg _) (Int.dvd_mul_right _ _)
  rwa [Int.sub_mul] at this
 rw [h1]
 have:=Int.dvd_add h2 h3
 rwa [show My.ip n (iS n a b i) z - My.ip n (a i) z+(iS n a b i n * z n - b i * z n)=My.ip n (iS n a b i) z+iS n a b i n * z n - (My.ip n (a i) z+b i * z n) by omega] at this
theorem wV {n:Nat} {a:My.nT} {b:Nat→Int} {z:Nat→Int}:My.pR n (n+1) (iS n a b) z↔∀ i,i < n→(97:Int) ∣ My.ip n (a i) z+b i * z n:=by
 constructor
 ·intro k i hi
  have:=Int.dvd_sub (k i hi) (La n a b z i)
  rwa [show My.ip (n+1) (iS n a b i) z - (My.ip (n+1) (iS n a b i) z - (My.ip n (a i) z+b i * z n))=My.ip n (a i) z+b i * z n by omega] at this
 ·intro k i hi
  have:=Int.dvd_add (k i hi) (La n a b z i)
  rwa [show My.ip n (a i) z+b i * z n+(My.ip (n+1) (iS n a b i) z - (My.ip n (a i) z+b i * z n))=My.ip (n+1) (iS n a b i) z by omega] at this
theorem O8 (n:Nat) (r z:Nat→Int) (u:Int):My.ip n r (fun j=>if j < n then z j else u)=My.ip n r z:=My.bE n fun j hj=>by simp [hj]
theorem Ra {n c:Nat} {a:My.nT} {b:Nat→Int} {u:My.nT} (hk:∀ z,My.pR n (n+1) u z↔My.pR n (n+1) (iS n a b) z) (h:My.Clear n c u) (hc:c < n) (hz:∀ i,c≤i→i < n→u i c=0):¬ My.vR n a:=by
 obtain ⟨z,k,z1,z2⟩:=h.stuck hc hz
 intro r
 have k2:=wV.mp ((hk z).mp k)
 have:=r z (fun i hi=>by have:=k2 i hi;rw [z2] at this;simpa using this) c hc
 rw [z1] at this
 omega
theorem Jp {n:Nat} {a:My.nT} {b:Nat→Int} {u:My.nT} (hk:∀ z,My.pR n (n+1) u z↔My.pR n (n+1) (iS n a b) z) (h:My.Clear n n u):My.vR n a∧∀ i,i < n→(97:Int) ∣ My.ip n (a i) (fun j=>u j n) - b i:=by
 constructor
 ·intro z k j hj
  have k2:My.pR n (n+1) (iS n a b) (fun j=>if j < n then z j else 0):=wV.mpr fun i hi=>by
   rw [O8]
   simp only [Nat.lt_irrefl,if_false,Int.mul_zero,Int.add_zero]
   exact k i hi
  have k3:=(hk _).mpr k2 j hj
  rw [h.full _ j hj] at k3
  simpa [hj] using k3
 ·intro i hi
  have k1:My.pR n (n+1) u (fun j=>if j < n then - u j n else 1):=fun i hi=>by
   rw [h.full _ i hi]
   simp only [hi,if_true,Nat.lt_irrefl,if_false]
   exact ⟨0,by omega⟩
  have k2:=wV.mp ((hk _).mp k1) i hi
  rw [O8] at k2
  simp only [Nat.lt_irrefl,if_false,Int.mul_one] at k2
  have e:My.ip n (a i) (fun j=>- u j n)=- My.ip n (a i) (fun j=>u j n):=by
   have:=My.pQ (-1) (fun j=>a i j * u j n) n
   unfold My.ip
   rw [show My.sumTo n (fun j=>a i j * - u j n)=My.sumTo n (fun j=>-1 * (a i j * u j n)) from My.bE n fun j _=>by grind,this]
   show -1 * My.sumTo n (fun j=>a i j * u j n)=- My.sumTo n (fun j=>a i j * u j n)
   omega
  rw [e] at k2
  have:=Int.dvd_neg.mpr k2
  rwa [show -(-My.ip n (a i) (fun j=>u j n)+b i)=My.ip n (a i) (fun j=>u j n) - b i by omega] at this
theorem O9 {m n c:Nat} {a:My.nT} {f:Int}:∀ i j,i < m→j < n→0≤My.clear a c f i j∧My.clear a c f i j < 97:=fun i j _ _=>by
 unfold My.clear
 split <;> exact ⟨Int.emod_nonneg _ (by decide),Int.emod_lt_of_pos _ (by decide)⟩
theorem Rb {m n p q:Nat} {a:My.nT} (hp:p < m) (hq:q < m) (h:∀ i j,i < m→j < n→0≤a i j∧a i j < 97):∀ i j,i < m→j < n→0≤My.swap a p q i j∧My.swap a p q i j < 97:=fun i j hi hj=>by
 unfold My.swap
 split
 ·exact h q j hq hj
 ·split
  ·exact h p j hp hj
  ·exact h i j hi hj
def tU (K:PySem.W.Frag):Sp:=fun vs H Q _=>∃ (l r:Addr) (n:Nat) (a:My.nT) (b:Nat→Int),vs=[.ref l,.ref r]∧rg K H l n n a∧aX K H r (tabI n b)∧n≤100 ∧
 (My.vR n a→∀ p H' x,H p=none→aI H H'→H' p=some (.lst (tabI n x))→(∀ i,i < n→0≤x i∧x i < 97)→(∀ i,i < n→(97:Int) ∣ My.ip n (a i) x - b i)→Q (.ref p) H')∧(¬ My.vR n a→∀ H',aI H H'→Q .bJ H')
theorem lR:aQ ["rows","right","table","column","place"] ["rows","right"] (aH lJ):=⟨rfl,rfl,rfl,by decide +kernel,rfl,by decide +kernel,by decide +kernel⟩
theorem Mt (F:aP K mg "solved" lJ) (T:Txt K mg t) (qY:Def P w K mg base 1 "equation" ["row","side"] (uj K)) (kO:Def P w K mg base 1 "pivot_place" ["table","column"] (oF K))
  (oH:Def P w K mg base 1 "exchanged" ["table","one","other"] (sI K)) (tV:Def P w K mg base 5 "cleared" ["table","column"] (wU K)):Def P w K mg base 6 "solved" ["rows","right"] (tU K):=by
 refine F.def lR (fun _ _ _ _ _ _ us hl=>match us,hl with | [_,_],_=>rfl) (fun vs H Q E h=>?_) (fun f bo A outer s H vs Q E hr h=>?_)
 ·obtain ⟨l,r,n,a,b,rfl,_⟩:=h
  rfl
 ·obtain ⟨l,r,n,a,b,rfl,⟨as,g1,g2⟩,WU,hn,q1,q2⟩:=h
  refine ⟨_,aC (lF (i:=2) lR.nd rfl (Or.inl rfl) rfl (Nc:=["row","side"]) (ix:=[none,none]) (dF (aH lJ) ["rows","right","table","column","place"] rfl rfl (by decide +kernel)) (zz K (by rfl) T.LY (aA (pv 0) (aA (pv 1) aE))) (fun C fp s H=>⟨(pP K (i:=0) (j:=1) rfl (show (["row","side"]:List Str).Nodup by decide +kernel) rfl rfl (Or.inl rfl) (Or.inl rfl)),cX,(aZ (qY.mono (by decide)) hr ar (aA (pv 0) (aA (pv 1) aE)))⟩))
   (aC (PS.uX (dD PassesOwn.never rfl (cw (by rfl) T.dg (aA (bP (bQ K) (by rfl) T.iE boot_len (aA (pv 2) aE)) aE)) (az (i:=3) lR.nd rfl (Or.inl rfl))
    (aC (aT (i:=4) lR.nd rfl (Or.inl rfl) (aZ (kO.mono (by decide)) hr ar (aA (pv 2) (aA (pv 3) aE))))
    (aC (bD (aW tF (pv 4) cK (aj _))
     (aG (aV cK))
     (af))
    (aG (aT (i:=2) lR.nd rfl (Or.inl rfl) (aZ (tV.mono (by decide)) hr ar (aA (aZ (oH.mono (by decide)) hr ar (aA (pv 2) (aA (pv 3) (aA (pv 4) aE)))) (aA (pv 3) aE)))))))))
   (aG (aV (lE rfl (Nc:=["row"]) (ix:=[none]) (dF (aH lJ) ["rows","right","table","column","place"] rfl rfl (by decide +kernel)) (cN K (pv 2)) (fun C fp s H=>⟨(az (i:=0) (show (["row"]:List Str).Nodup by decide +kernel) rfl (Or.inl rfl)),cX,(aR (aM K) (pv 0) (Kw za aF) (fun _ _=>rfl))⟩))))),?_⟩
  have hsz:(2000:Nat)≤sizeLine:=by decide
  refine ⟨_,rfl,_,rfl,l,r,rfl,⟨_,g1⟩,⟨_,WU⟩,fun D hD=>?_⟩
  refine LH (K:=K) (a:=l) (b:=r) (n:=n) (F:=fun i=>V.ref (as i)) (G:=fun i=>V.int (b i)) (fun i σ H'=>∃ (v u:Option V) (ps:Nat→Addr),σ=[v,u]∧aI H H'∧H' D=some (.lst (bK i ps))∧∀ k,k < i→H' (ps k)=some (.lst (tabI (n+1) (iS n a b k)))∧ps k≠D)
   ⟨none,none,as,rfl,(aI.refl _).new hD,aB,fun k hk=>by omega⟩ (fun i σ H' _ ⟨_,_,_,_,s1,_⟩=>⟨s1.seq g1,s1.seq WU⟩) ?_ ?_
  ·rintro i pt σ H' N hN hi ⟨v,u,ps,rfl,s1,h1,hp⟩ hpt
   refine vm ?_
   have nD:D≠pt:=aK h1 hpt
   have st:=(aI.refl H').new (o:=.tup [V.ref (as i),V.int (b i)]) hpt
   refine ⟨_,rfl,_,rfl,as i,n,a i,b i,rfl,st.seq (s1.seq (g2 i hi)),by omega,fun p H2 RZ s2 h2=>?_⟩
   have s3:=st.trans s2
   have np:D≠p:=aK (st _ _ h1) RZ
   refine ⟨_,s3 _ _ h1,by rw [aL];omega,?_⟩
   rw [dS]
   refine hN _ _ ⟨_,_,_,rfl,(s1.trans s3).put hD,aB,fun k hk=>?_⟩
   by_cases e:k=i
   ·subst e
    simp only [if_true]
    exact ⟨by rw [aD (Ne.symm np),h2];rfl,Ne.symm np⟩
   ·simp only [e,if_false]
    obtain ⟨z1,z2⟩:=hp k (by omega)
    exact ⟨by rw [aD z2];exact s3 _ _ z1,z2⟩
  ·rintro σ H1 ⟨v,u,ps,rfl,s1,h1,hp⟩
   have G0:rg K H1 D n (n+1) (iS n a b):=⟨ps,aX.of h1,fun i hi=>aX.of (hp i hi).1⟩
   refine ⟨_,rfl,D,_,rfl,.inl (aX.of h1),_,rfl,by omega,by rw [aL];omega,?_⟩
   have en:(((bK n ps).length:Nat):Int).toNat=n:=by rw [aL,Int.toNat_natCast]
   rw [en]
   refine fT (lo:=0) (n:=n) (fun c σ H'=>∃ (v v':Option V) (l':Addr) (u:My.nT),σ=[some (.ref l),some (.ref r),some (.ref l'),v,v']∧aI H1 H'∧rg K H' l' n (n+1) u∧(∀ i j,i < n→j < n+1→0≤u i j∧u i j < 97)∧My.Clear n c u∧∀ z,My.pR n (n+1) u z↔My.pR n (n+1) (iS n a b) z)
    ⟨none,none,D,iS n a b,rfl,aI.refl _,G0,fun i j _ _=>⟨Int.emod_nonneg _ (by decide),Int.emod_lt_of_pos _ (by decide)⟩,My.Clear.start _ _,fun z=>Iff.rfl⟩ ?_ ?_
   ·rintro c σ H' hc ⟨v,v',l',u,rfl,s2,G,hu,QP,hk⟩
    have e0:(0:Int)+(c:Nat)=((c:Nat):Int):=by omega
    rw [e0]
    refine ⟨_,rfl,_,rfl,l',n,n+1,c,u,rfl,G,by omega,by omega,by omega,by omega,fun p HY vw Mq _=>?_,fun hz=>?_⟩
    ·refine ⟨_,rfl,rfl,_,rfl,dX (fun z=>nomatch z) ?_⟩
     refine ⟨_,rfl,_,rfl,_,rfl,l',n,n+1,c,p,u,rfl,G,hc,vw,by omega,fun x1 H2 xw s3 G2=>?_⟩
     have Zm:My.swap u c p c c=u p c:=by unfold My.swap;rw [if_pos rfl]
     have WN:=Rb (n:=n+1) hc vw hu
     have Zw:=WN c c hc (by omega)
     refine ⟨_,rfl,x1,n,n+1,c,My.swap u c p,rfl,G2,hc,by omega,by omega,by omega,WN,by rw [Zm];exact Mq,fun x2 H3 Xn s4 G3=>?_⟩
     have hinv:(97:Int) ∣ My.P (My.swap u c p c c) 95 * My.swap u c p c c - 1:=by
      have:=My.TX (a:=My.swap u c p c c) (by rw [Zm] at *;omega) Zw.2
      omega
     exact ⟨_,_,x2,_,rfl,s2.trans (s3.trans s4),G3,O9,(QP.swap HY vw).clear hc hinv,fun z=>(My.pR.clear hc hinv).trans ((My.pR.swap hc vw).trans (hk z))⟩
    ·refine ⟨_,rfl,rfl,_,rfl,eP rfl ?_⟩
     exact q2 (Ra hk QP hc hz) H' (s1.trans s2)
   ·rintro σ H' ⟨v,v',l',u,rfl,s2,⟨bs,G1,G2⟩,hu,QP,hk⟩
    obtain ⟨Rc,aBz⟩:=Jp hk QP
    refine ⟨_,rfl,l',rfl,⟨_,G1⟩,fun D2 Ms=>?_⟩
    refine tK (K:=K) (a:=l') (n:=n) (F:=fun i=>V.ref (bs i)) (fun i σ H2=>∃ v:Option V,σ=[v]∧aI H' H2∧H2 D2=some (.lst (tabI i fun k=>u k n))) ⟨none,rfl,(aI.refl _).new Ms,aB⟩ (fun i σ H' _ ⟨_,_,s1,_⟩=>s1.seq G1) ?_ ?_
    ·rintro i σ H2 N hN hi ⟨v,rfl,s3,h3⟩
     refine df ?_
     refine ⟨_,rfl,_,rfl,_,_,_,_,rfl,rfl,s3.seq (G2 i hi),OU,_,h3,by rw [aL];omega,?_⟩
     exact hN _ _ ⟨_,rfl,s3.put Ms,j0 rfl⟩
    ·rintro σ H2 ⟨v,rfl,s3,h3⟩
     have YN:=(s1.trans s2)
     exact q1 Rc D2 H2 _ (YN.free Ms) (YN.trans s3) h3 (fun i hi=>hu i n hi (by omega)) aBz
end
end K31
namespace K31
open PySem L2 PyProof.Rows
section
variable {P:Program} {w:World} {K:PySem.W.Frag} {mg:Str→Option Value} {base:Heap} {t:Ad}
def qE (K:PySem.W.Frag):Sp:=fun vs H Q _=>∃ (l:Addr) (s:Nat→Int),vs=[.ref l]∧aX K H l (tabI 6 s)∧(∀ j,j < 6→0≤s j∧s j < 97) ∧
 ∀ p H',H p=none→aI H H'→H' p=some (.lst ((My.nu s).map fun k=>V.int (k:Nat)))→Q (.ref p) H'
theorem qF:aQ ["sums","place"] ["sums"] (aH i0):=⟨rfl,rfl,rfl,by decide +kernel,rfl,by decide +kernel,by decide +kernel⟩
theorem xx (F:aP K mg "lone_place" i0) (T:Txt K mg t) (qZ:Def P w K mg base 4 "exponent" ["a"] (ug t.BadSign)) (jE:Def P w K mg base 4 "inverse" ["a"] (qV t.BadSign)):Def P w K mg base 5 "lone_place" ["sums"] (qE K):=by
 refine F.def qF (fun _ _ _ _ _ _ us hl=>match us,hl with | [_],_=>rfl) (fun vs H Q E h=>?_) (fun f bo A outer s H vs Q E hr h=>?_)
 ·obtain ⟨l,s,rfl,_⟩:=h
  rfl
 ·obtain ⟨l,s,rfl,hl,bs,q⟩:=h
  refine ⟨_,aC (bD (PW.pt (Ga (aW jL (aR (aM K) (pv 0) aF (fun _ _=>rfl)) aF (aj _)) (vY (aW jL (aR (aM K) (pv 0) aF (fun _ _=>rfl)) aF (aj _)))))
    (aG (aV (bF aE)))
    (af))
   (aC (aT (i:=1) qF.nd rfl (Or.inl rfl) (aZ (qZ.mono (by decide)) hr ar (aA (aN aw (aN eM (aR (aM K) (pv 0) aF (fun _ _=>rfl)) (aZ (jE.mono (by decide)) hr ar (aA (aR (aM K) (pv 0) aF (fun _ _=>rfl)) aE))) (aS T.cO)) aE)))
   (aG (aV (nW (aW jy (pv 1) (aS T.AD) (aj _)) (bF (aA (pv 1) aE)) (bF aE))))),?_⟩
  have b0:=bs 0 (by decide)
  have b1:=bs 1 (by decide)
  have a0:xc (tabI 6 s) 0=some (V.int (s 0)):=dG (n:=6) (by decide) (by decide)
  have a1:xc (tabI 6 s) 1=some (V.int (s 1)):=dG (n:=6) (by decide) (by decide)
  have q':∀ p,H p=none→Q (.ref p) (upd H p (.lst ((My.nu s).map fun k=>V.int (k:Nat)))):=fun p hp=>q p _ hp ((aI.refl _).new hp) aB
  refine ⟨_,rfl,l,_,_,_,rfl,rfl,hl,a0,rfl,_,rfl,?_⟩
  by_cases z0:s 0=0
  ·refine eP (by rw [z0]) (fe ?_)
   refine ⟨by show 0≤sizeLine;decide,fun p hp=>?_⟩
   have:=q' p hp
   rwa [My.nu,if_pos (.inl z0)] at this
  ·refine dX (fun e=>z0 (V.int.inj e)) ?_
   refine ⟨_,rfl,l,_,_,_,rfl,rfl,hl,a1,rfl,_,rfl,?_⟩
   by_cases z1:s 1=0
   ·refine eP (by rw [z1]) ?_
    refine ⟨by show 0≤sizeLine;decide,fun p hp=>?_⟩
    have:=q' p hp
    rwa [My.nu,if_pos (.inr z1)] at this
   ·refine dX (fun e=>z1 (V.int.inj e)) ?_
    have hinv:=My.Mf (a:=s 0) (by omega) b0.2
    have YO:=My.U7 (s 0) 95
    have hv:=My.U8 (a:=s 1) (b:=My.P (s 0) 95) (by omega) b1.2 hinv YO
    have Zx:s 1 * My.P (s 0) 95 % 97 < 97:=Int.emod_lt_of_pos _ (by decide)
    refine ⟨_,rfl,l,_,_,_,rfl,rfl,hl,a1,_,rfl,l,_,_,_,rfl,rfl,hl,a0,s 0,rfl,dw (by omega) (by omega),fun _=>?_,fun h=>absurd ⟨by omega,b0.2⟩ h⟩
    refine ⟨_,_,rfl,rfl,.inl ⟨by omega,by omega⟩,_,_,rfl,rfl,(by show (0:Int) < 97;decide),_,rfl,dw (by omega) (by omega),fun _=>?_,fun h=>absurd ⟨hv,Zx⟩ h⟩
    have e0:=My.Ol (s 1 * My.P (s 0) 95 % 97)
    refine ⟨_,rfl,_,_,rfl,rfl,_,rfl,?_⟩
    by_cases hp:My.ex (s 1 * My.P (s 0) 95 % 97) < 24
    ·refine eP hp ?_
     refine ⟨_,rfl,by show 1≤sizeLine;decide,fun p RZ=>?_⟩
     have:=q' p RZ
     rw [My.nu,if_neg (by omega),if_pos hp] at this
     have e1:[V.int (My.ex (s 1 * My.P (s 0) 95 % 97))]=([(My.ex (s 1 * My.P (s 0) 95 % 97)).toNat].map fun k=>V.int (k:Nat)):=by
      show _=[V.int (((My.ex (s 1 * My.P (s 0) 95 % 97)).toNat:Nat):Int)]
      rw [Int.toNat_of_nonneg e0]
     rw [e1]
     exact this
    ·refine dX hp ?_
     refine ⟨by show 0≤sizeLine;decide,fun p RZ=>?_⟩
     have:=q' p RZ
     rwa [My.nu,if_neg (by omega),if_neg hp] at this
def wW:Sp:=fun vs H Q _=>∃ x t u:Int,vs=[.int x,.int t,.int u]∧0≤x∧x < 97∧0≤t∧t < 97∧Q (.bl (decide ((x * x - t * x+u) % 97=0))) H
theorem Jq:aQ ["point","total","product"] ["point","total","product"] (aH pU):=⟨rfl,rfl,rfl,by decide +kernel,rfl,by decide +kernel,by decide +kernel⟩
theorem Jr (F:aP K mg "is_root" pU) (T:Txt K mg t):Def P w K mg base 1 "is_root" ["point","total","product"] wW:=by
 refine F.def Jq (fun _ _ _ _ _ _ us hl=>match us,hl with | [_,_,_],_=>rfl) (fun vs H Q E h=>?_) (fun f bo A outer s H vs Q E hr h=>?_)
 ·obtain ⟨x,t,u,rfl,_⟩:=h
  rfl
 ·obtain ⟨x,tt,u,rfl,x0,x1,t0,t1,q⟩:=h
  refine ⟨_,aG (aV (pM jL (aN aw (aN bA (aN jK (aN eM (pv 0) (pv 0)) (aN eM (pv 1) (pv 0))) (pv 2)) (aS T.cO)) aF (aj _))),?_⟩
  refine ⟨_,rfl,_,rfl,_,_,rfl,rfl,.inl ⟨by omega,by omega⟩,_,rfl,_,rfl,_,_,rfl,rfl,.inl ⟨by omega,by omega⟩,_,_,rfl,rfl,_,rfl,_,_,rfl,rfl,_,_,rfl,rfl,(by show (0:Int) < 97;decide),rfl,?_⟩
  have e:decide (V.int ((x * x - tt * x+u) % 97)=V.int 0)=decide ((x * x - tt * x+u) % 97=0):=decide_eq_decide.mpr ⟨fun h=>V.int.inj h,fun h=>by rw [h]⟩
  show Q (.bl (decide (V.int ((x * x - tt * x+u) % 97)=V.int 0))) H
  rw [e]
  exact q
def lS (K:PySem.W.Frag):Sp:=fun vs H Q _=>∃ (l:Addr) (s:Nat→Int),vs=[.ref l]∧aX K H l (tabI 6 s)∧(∀ j,j < 6→0≤s j∧s j < 97) ∧
 ∀ p H' ps,H p=none→aI H H'→H' p=some (.lst (ps.map fun k=>V.int (k:Nat)))→My.Oy s ps→Q (.ref p) H'
theorem gc:aQ ["sums","rows","pair"] ["sums"] (aH dO):=⟨rfl,rfl,rfl,by decide +kernel,rfl,by decide +kernel,by decide +kernel⟩
theorem tW (F:aP K mg "turned_places" dO) (T:Txt K mg t) (lT:Def P w K mg base 6 "solved" ["rows","right"] (tU K)) (mO:Def P w K mg base 5 "lone_place" ["sums"] (qE K)) (tX:Def P w K mg base 1 "is_root" ["point","total","product"] wW)
  (et:Def P w K mg base 3 "power" ["a","k"] (oA t.BadSign)):Def P w K mg base 7 "turned_places" ["sums"] (lS K):=by
 refine F.def gc (fun _ _ _ _ _ _ us hl=>match us,hl with | [_],_=>rfl) (fun vs H Q E h=>?_) (fun f bo A outer s H vs Q E hr h=>?_)
 ·obtain ⟨l,s,rfl,_⟩:=h
  rfl
 ·obtain ⟨l,s,rfl,hl,bs,q⟩:=h
  refine ⟨_,aC (aT (i:=1) gc.nd rfl (Or.inl rfl) (bF (aA (bF (aA (aR (aM K) (pv 0) aF (fun _ _=>rfl)) (aA (aN aw (Kw za (aR (aM K) (pv 0) aF (fun _ _=>rfl))) (aS T.cO)) aE))) (aA (bF (aA (aR (aM K) (pv 0) aF (fun _ _=>rfl)) (aA (aN aw (Kw za (aR (aM K) (pv 0) aF (fun _ _=>rfl))) (aS T.cO)) aE))) aE))))
   (aC (aT (i:=2) gc.nd rfl (Or.inr rfl) (aZ (lT.mono (by decide)) hr ar (aA (pv 1) (aA (bF (aA (aR (aM K) (pv 0) aF (fun _ _=>rfl)) (aA (aR (aM K) (pv 0) aF (fun _ _=>rfl)) aE))) aE))))
   (aC (bD (aW tF (pv 2) cK (aj _))
    (aG (aV (aZ (mO.mono (by decide)) hr ar (aA (pv 0) aE))))
    (af))
   (aG (aV (lE rfl (Nc:=["place","pair"]) (ix:=[none,some 2]) (dF (aH dO) ["sums","rows","pair"] rfl rfl (by decide +kernel)) (cw (by rfl) T.dg (aA (aS T.AD) aE)) (fun C fp s H=>⟨(az (i:=0) (show (["place","pair"]:List Str).Nodup by decide +kernel) rfl (Or.inl rfl)),(LC (jH (aZ (tX.mono (by decide)) hr ar (aA (aZ (et.mono (by decide)) hr ar (aA (aS T.LW) (aA (pv 0) aE))) (aA (aR (aM K) (pv 1) aF (fun _ _=>rfl)) (aA (aR (aM K) (pv 1) aF (fun _ _=>rfl)) aE)))))),(pv 0)⟩)))))),?_⟩
  have a0:xc (tabI 6 s) 0=some (V.int (s 0)):=dG (n:=6) (by decide) (by decide)
  have a1:xc (tabI 6 s) 1=some (V.int (s 1)):=dG (n:=6) (by decide) (by decide)
  have a2:xc (tabI 6 s) 2=some (V.int (s 2)):=dG (n:=6) (by decide) (by decide)
  have a3:xc (tabI 6 s) 3=some (V.int (s 3)):=dG (n:=6) (by decide) (by decide)
  have b4:∀ j,j < 4→0≤s j∧s j < 97:=fun j hj=>bs j (by omega)
  refine ⟨_,rfl,l,_,_,_,rfl,rfl,hl,a1,_,rfl,l,_,_,_,rfl,rfl,hl,a0,_,rfl,_,_,rfl,rfl,(by show (0:Int) < 97;decide),by show 2≤sizeLine;decide,fun r1 WU=>?_⟩
  have s1:=(aI.refl H).new (o:=.lst [V.int (s 1),V.int (-(s 0) % 97)]) WU
  refine ⟨_,rfl,l,_,_,_,rfl,rfl,s1.seq hl,a2,_,rfl,l,_,_,_,rfl,rfl,s1.seq hl,a1,_,rfl,_,_,rfl,rfl,(by show (0:Int) < 97;decide),by show 2≤sizeLine;decide,fun r2 QQ=>?_⟩
  have s2:=s1.new (o:=.lst [V.int (s 2),V.int (-(s 1) % 97)]) QQ
  refine ⟨by show 2≤sizeLine;decide,fun r3 hr3=>?_⟩
  have s3:=s2.new (o:=.lst [V.ref r1,V.ref r2]) hr3
  have e1:(upd (upd (upd H r1 (.lst [V.int (s 1),V.int (-(s 0) % 97)])) r2 (.lst [V.int (s 2),V.int (-(s 1) % 97)])) r3 (.lst [V.ref r1,V.ref r2])) r1=some (.lst [V.int (s 1),V.int (-(s 0) % 97)]):=by
   have z:r1≠r2:=aK aB QQ
   rw [aD (aK (by rw [aD z];exact aB) hr3),aD z];exact aB
  have e2:(upd (upd (upd H r1 (.lst [V.int (s 1),V.int (-(s 0) % 97)])) r2 (.lst [V.int (s 2),V.int (-(s 1) % 97)])) r3 (.lst [V.ref r1,V.ref r2])) r2=some (.lst [V.int (s 2),V.int (-(s 1) % 97)]):=by
   rw [aD (aK aB hr3)];exact aB
  have e3:(upd (upd (upd H r1 (.lst [V.int (s 1),V.int (-(s 0) % 97)])) r2 (.lst [V.int (s 2),V.int (-(s 1) % 97)])) r3 (.lst [V.ref r1,V.ref r2])) r3=some (.lst [V.ref r1,V.ref r2]):=aB
  generalize upd (upd (upd H r1 (.lst [V.int (s 1),V.int (-(s 0) % 97)])) r2 (.lst [V.int (s 2),V.int (-(s 1) % 97)])) r3 (.lst [V.ref r1,V.ref r2])=H3 at *
  refine ⟨_,rfl,_,rfl,l,_,_,_,rfl,rfl,s3.seq hl,a2,_,rfl,l,_,_,_,rfl,rfl,s3.seq hl,a3,by show 2≤sizeLine;decide,fun r4 hr4=>?_⟩
  have s4:=(aI.refl H3).new (o:=.lst [V.int (s 2),V.int (s 3)]) hr4
  have G:rg K (upd H3 r4 (.lst [V.int (s 2),V.int (s 3)])) r3 2 2 (My.M s):=by
   refine ⟨fun i=>if i=0 then r1 else r2,aX.of (s4 _ _ e3),fun i hi=>?_⟩
   match i,hi with
   | 0,_=>exact aX.of (s4 _ _ e1)
   | 1,_=>exact aX.of (s4 _ _ e2)
  refine ⟨r3,r4,2,My.M s,fun i=>s (i+2),rfl,G,aX.of aB,by decide,fun reg p5 H5 x Zy s5 h5 bx hx=>?_,fun reg H5 s5=>?_⟩
  ·refine ⟨_,rfl,rfl,_,rfl,dX (fun z=>nomatch z) ?_⟩
   have sA:=(s3.trans s4).trans s5
   refine ⟨24,rfl,by decide,by decide,fun D hD=>?_⟩
   refine Qz (n:=24) (by decide) (b:=My.LU (x 0) (x 1)) hD (fun i H6 N hi s6 hn=>?_) (fun i H6 N hi hn=>⟨_,rfl,hn⟩) fun H6 s6 h6=>?_
   ·have WV:=bx 0 (by decide)
    refine ⟨_,rfl,5,_,rfl,by decide,by omega,fun _=>?_,fun h=>absurd (show (0:Int)≤5∧(5:Int) < 97 by decide) h⟩
    refine ⟨_,rfl,p5,_,_,_,rfl,rfl,aX.of (s6 _ _ h5),dG (n:=2) (by decide) (by decide),_,rfl,p5,_,_,_,rfl,rfl,aX.of (s6 _ _ h5),dG (n:=2) (by decide) (by decide),_,_,_,rfl,My.X4 _ _,My.U7 _ _,WV.1,WV.2,_,rfl,?_⟩
    have e0:(0:Int)+(i:Nat)=(i:Nat):=by omega
    rw [e0]
    exact hn H6 (aI.refl _)
   ·exact q D H6 _ (sA.free hD) (sA.trans s6) h6 (My.Oz reg hx)
  ·refine ⟨_,rfl,rfl,_,rfl,eP rfl ?_⟩
   have sA:=(s3.trans s4).trans s5
   refine ⟨_,rfl,l,s,rfl,sA.seq hl,bs,fun p6 H6 WW s6 h6=>?_⟩
   exact q p6 H6 _ (sA.free WW) (sA.trans s6) h6 (My.RN b4 reg)
def uq (K:PySem.W.Frag):Sp:=fun vs H Q _=>∃ (l r:Addr) (ps:List Nat) (s:Nat→Int),vs=[.ref l,.ref r]∧H l=some (.lst (ps.map fun k=>V.int (k:Nat)))∧aX K H r (tabI 6 s)∧ps.Nodup∧(∀ p ∈ ps,p < 24)∧ps.length≤2 ∧
 ∀ p H' x,H p=none→aI H H'→H' p=some (.lst (tabI ps.length x))→(∀ i,i < ps.length→0≤x i∧x i < 97)→(∀ i,i < ps.length→(97:Int) ∣ My.ip ps.length (fun q=>My.P 5 ((ps.getD q 0:Nat) * (1+(i:Int)))) x - s i)→Q (.ref p) H'
theorem uu:aQ ["places","sums","rows"] ["places","sums"] (aH jR):=⟨rfl,rfl,rfl,by decide +kernel,rfl,by decide +kernel,by decide +kernel⟩
theorem Hn (F:aP K mg "turns_at" jR) (T:Txt K mg t) (lT:Def P w K mg base 6 "solved" ["rows","right"] (tU K)) (et:Def P w K mg base 3 "power" ["a","k"] (oA t.BadSign)):Def P w K mg base 7 "turns_at" ["places","sums"] (uq K):=by
 refine F.def uu (fun _ _ _ _ _ _ us hl=>match us,hl with | [_,_],_=>rfl) (fun vs H Q E h=>?_) (fun f bo A outer s H vs Q E hr h=>?_)
 ·obtain ⟨l,r,ps,s,rfl,_⟩:=h
  rfl
 ·obtain ⟨l,r,ps,s,rfl,hl,WU,nd,hb,xm,q⟩:=h
  refine ⟨_,aC (lF (i:=2) uu.nd rfl (Or.inl rfl) rfl (Nc:=["j","places"]) (ix:=[none,some 0]) (dF (aH jR) ["places","sums","rows"] rfl rfl (by decide +kernel)) (tE (by rfl) T.dg (aA aF (aA (aN bA (bP (bQ K) (by rfl) T.iE boot_len (aA (pv 0) aE)) aF) aE))) (fun C fp s H=>⟨(az (i:=0) (show (["j","places"]:List Str).Nodup by decide +kernel) rfl (Or.inr rfl)),cX,(lE rfl (Nc:=["place","j"]) (ix:=[none,some 0]) (dF _ ["j","places"] rfl rfl (by kernel_rfl)) (cN K (pv 1)) (fun C fp s H=>⟨(az (i:=0) (show (["place","j"]:List Str).Nodup by decide +kernel) rfl (Or.inl rfl)),cX,(aZ (et.mono (by decide)) hr ar (aA (aS T.LW) (aA (aN eM (pv 0) (pv 1)) aE)))⟩))⟩))
   (aG (aV (aZ (lT.mono (by decide)) hr ar (aA (pv 2) (aA (iB (iC K) (pv 1) rV (fb (bP (bQ K) (by rfl) T.iE boot_len (aA (pv 0) aE)))) aE))))),?_⟩
  have hsz:(2000:Nat)≤sizeLine:=by decide
  rw [Gz] at hl
  generalize hn:ps.length=n at *
  have hg:∀ q,q < n→((ps.getD q 0:Nat):Int) < 24:=fun q hq=>by
   have:=hb (ps.getD q 0) (by rw [My.getD_get (by omega)];exact List.getElem_mem _)
   omega
  refine ⟨_,rfl,l,_,rfl,.inl (aX.of hl),_,_,rfl,rfl,1,_,rfl,⟨by decide,by decide,by rw [aL];omega,by rw [aL];omega⟩,fun D3 Zz=>?_⟩
  rw [show ((((tabI n fun q=>((ps.getD q 0:Nat):Int)).length:Nat):Int)+1 - 1).toNat=n by rw [aL];omega]
  refine lH (lo:=1) (n:=n) (fun j σ Hf=>∃ (v:Option V) (rs:Nat→Addr),σ=[v,some (.ref l)]∧aI H Hf∧Hf D3=some (.lst (bK j rs))∧∀ y,y < j→Hf (rs y)=some (.lst (tabI n fun q=>My.P 5 ((ps.getD q 0:Nat) * (1+(y:Int)))))∧rs y≠D3)
   ⟨none,fun _=>0,rfl,(aI.refl _).new Zz,aB,fun y hy=>by omega⟩ ?_ ?_
  ·rintro j σ Hf N hN hj ⟨v,rs,rfl,sf,Rf,fH⟩
   refine df ?_
   refine ⟨_,rfl,l,rfl,⟨_,aX.of (sf _ _ hl)⟩,fun D4 YQ=>?_⟩
   have n34:D3≠D4:=aK Rf YQ
   refine tK (K:=K) (a:=l) (n:=n) (F:=fun q=>V.int ((ps.getD q 0:Nat):Int)) (fun y σ Hg=>∃ v:Option V,σ=[v,some (.int (1+(j:Int)))]∧aI Hf Hg∧Hg D4=some (.lst (tabI y fun q=>My.P 5 ((ps.getD q 0:Nat) * (1+(j:Int))))))
    ⟨none,rfl,(aI.refl _).new YQ,aB⟩ (fun y σ Hg _ ⟨_,_,sg,_⟩=>aX.of (sg _ _ (sf _ _ hl))) ?_ ?_
   ·rintro y σ Hg N2 hN2 hy ⟨v,rfl,sg,VI⟩
    refine df ?_
    have hb:=hg y hy
    refine ⟨_,rfl,_,rfl,_,_,rfl,rfl,.inl ⟨by omega,by omega⟩,5,_,rfl,by decide,Int.mul_nonneg (by omega) (by omega),fun _=>?_,fun h=>absurd (show (0:Int)≤5∧(5:Int) < 97 by decide) h⟩
    refine ⟨_,VI,by rw [aL];omega,?_⟩
    exact hN2 _ _ ⟨_,rfl,sg.put YQ,j0 rfl⟩
   ·rintro σ Hg ⟨v,rfl,sg,VI⟩
    refine ⟨_,sg _ _ Rf,by rw [aL];omega,?_⟩
    rw [dS]
    refine hN _ _ ⟨_,_,rfl,(sf.trans sg).put Zz,aB,fun y hy=>?_⟩
    by_cases e:y=j
    ·subst e
     rw [if_pos rfl,aD (Ne.symm n34)]
     exact ⟨VI,Ne.symm n34⟩
    ·rw [if_neg e]
     obtain ⟨w1,w2⟩:=fH y (by omega)
     rw [aD w2]
     exact ⟨sg _ _ w1,w2⟩
  ·rintro σ Hf ⟨v,rs,rfl,sf,Rf,fH⟩
   refine ⟨_,rfl,_,rfl,_,rfl,l,_,rfl,.inl (aX.of (sf _ _ hl)),_,rfl,r,_,rfl,sf.seq WU,fun D5 hD5=>?_⟩
   rw [aL,show fc (tabI 6 s) none (some (n:Int))=tabI n s from qQ (by omega)]
   have s5:=(aI.refl Hf).new (o:=.lst (tabI n s)) hD5
   have Rc:=My.LV nd hb
   rw [hn] at Rc
   refine ⟨D3,D5,n,(fun i q=>My.P 5 ((ps.getD q 0:Nat) * (1+(i:Int)))),s,rfl,⟨rs,aX.of (s5 _ _ Rf),fun i hi=>aX.of (s5 _ _ (fH i hi).1)⟩,aX.of aB,by omega,fun _ pa Hh x Lb sh hxa bx hxx=>?_,fun h=>absurd Rc h⟩
   have sA:=sf.trans s5
   exact q pa Hh x (sA.free Lb) (sA.trans sh) hxa bx hxx
def zO (K:PySem.W.Frag):Sp:=fun vs H Q _=>∃ (l:Addr) (f:Nat→Int),vs=[.ref l]∧aX K H l (tabI 24 f)∧IsCell 24 f ∧
 (∀ g p H',My.qT f g→H p=none→aI H H'→H' p=some (.lst (tabI 24 g))→Q (.ref p) H')∧((∀ g,¬ My.qT f g)→∀ H',aI H H'→Q .bJ H')
theorem Rg {f x:Nat→Int} {ps:List Nat} {k:Nat} (h:ps.getD k 0 < 24):(tabI 24 (My.wB f ps x k)).set (ps.getD k 0) (V.int ((My.wB f ps x k (ps.getD k 0) - x k) % 97))=tabI 24 (My.wB f ps x (k+1)):=by
 rw [rf h]
 refine bW fun j _=>?_
 show _=V.int (if j=ps.getD k 0 then (My.wB f ps x k (ps.getD k 0) - x k) % 97 else My.wB f ps x k j)
 split <;> rfl
theorem lU:aQ ["cell","sums","places","found","place","turn"] ["cell"] (aH r9):=⟨rfl,rfl,rfl,by decide +kernel,rfl,by decide +kernel,by decide +kernel⟩
theorem Mu (F:aP K mg "mended" r9) (T:Txt K mg t) (gZ:Def P w K mg base 4 "troubles" ["cell"] (oB K)) (oI:Def P w K mg base 5 "is_sealed" ["cell"] (sG K)) (iT:Def P w K mg base 7 "turned_places" ["sums"] (lS K))
  (qa:Def P w K mg base 7 "turns_at" ["places","sums"] (uq K)):Def P w K mg base 8 "mended" ["cell"] (zO K):=by
 refine F.def lU (fun _ _ _ _ _ _ us hl=>match us,hl with | [_],_=>rfl) (fun vs H Q E h=>?_) (fun f bo A outer s H vs Q E hr h=>?_)
 ·obtain ⟨l,f,rfl,_⟩:=h
  rfl
 ·obtain ⟨l,f,rfl,hl,cf,q1,q2⟩:=h
  refine ⟨_,aC (aT (i:=1) lU.nd rfl (Or.inl rfl) (aZ (gZ.mono (by decide)) hr ar (aA (pv 0) aE)))
   (aC (bD (aW (LI K (MN hr)) (pv 1) (aN zu (bF (aA aF aE)) (aS T.LX)) (aj _))
    (aG (aV (gP (gQ K) (by rfl) T.qU boot_list (aA (pv 0) aE))))
    (af))
   (aC (aT (i:=2) lU.nd rfl (Or.inl rfl) (aZ (iT.mono (by decide)) hr ar (aA (pv 1) aE)))
   (aC (aT (i:=3) lU.nd rfl (Or.inl rfl) (gP (gQ K) (by rfl) T.qU boot_list (aA (pv 0) aE)))
   (aC (PS.uX (dD PassesOwn.never rfl (zz K (by rfl) T.LY (aA (pv 2) (aA (aZ (qa.mono (by decide)) hr ar (aA (pv 2) (aA (pv 1) aE))) aE))) (pP K (i:=4) (j:=5) rfl lU.nd rfl rfl (Or.inl rfl) (Or.inl rfl))
    (aG (nY (aN aw (aN jK (aR (aM K) (pv 3) (pv 4) (fun _ _=>rfl)) (pv 5)) (aS T.cO)) (nX (pv 3) (pv 4) set_list)))))
   (aG (aV (nW (jH (aZ (oI.mono (by decide)) hr ar (aA (pv 3) aE))) (pv 3) cK))))))),?_⟩
  have mp:∀ n (g:Nat→Int),tabI n g=((List.range n).map g).map V.int:=fun n g=>(vO n g).symm
  refine ⟨_,rfl,l,f,rfl,hl,cf,fun p1 H1 HY s1 h1=>?_⟩
  have bs:∀ j,j < 6→0≤My.T (My.St j) 24 f∧My.T (My.St j) 24 f < 97:=fun j _=>⟨My.aBs _ _ _,My.aBt _ _ _⟩
  refine ⟨_,rfl,by show 1≤sizeLine;decide,fun a1 Di=>?_⟩
  refine ⟨a1,_,_,rfl,rfl,aB,by decide,by decide,by decide,fun a2 YL=>?_⟩
  have s2:=((aI.refl H1).new (o:=.lst [V.int 0]) Di).new (o:=.lst (List.replicate (6:Int).toNat [V.int 0]).flatten) YL
  have WX:=s2 _ _ h1
  refine ⟨p1,a2,(List.range 6).map fun j=>My.T (My.St j) 24 f,(List.range 6).map fun _=>0,rfl,rfl,aX.of (by rw [← mp];exact WX),aX.of (by rw [aB];rfl),_,rfl,?_⟩
  have sA:=s1.trans s2
  generalize upd (upd H1 a1 (.lst [V.int 0])) a2 (.lst (List.replicate (6:Int).toNat [V.int 0]).flatten)=H2 at *
  by_cases hz:(List.range 6).map (fun j=>My.T (My.St j) 24 f)=(List.range 6).map fun _=>(0:Int)
  ·refine eP hz ?_
   have sl:My.bq f:=kF.mp (by unfold pY;exact decide_eq_true hz)
   refine ⟨_,rfl,l,_,rfl,.inl (sA.seq hl),fun p hp=>?_⟩
   exact q1 f p _ (My.qT.self cf.b sl) (sA.free hp) (sA.new hp) aB
  ·refine dX hz ?_
   have sl:¬ My.bq f:=fun z=>hz (by have:=kF.mpr z;unfold pY at this;exact of_decide_eq_true this)
   refine ⟨_,rfl,p1,_,rfl,aX.of WX,bs,fun p3 H3 ps Mq s3 h3 pl=>?_⟩
   have sB:=sA.trans s3
   refine ⟨_,rfl,l,_,rfl,.inl (sB.seq hl),fun p4 Z0=>?_⟩
   have s4:=(aI.refl H3).new (o:=.lst (tabI 24 f)) Z0
   have h4:(upd H3 p4 (.lst (tabI 24 f))) p4=some (.lst (tabI 24 f)):=aB
   have YR:=s4 _ _ h3
   have h14:=s4 _ _ (s3 _ _ WX)
   generalize hH4:upd H3 p4 (.lst (tabI 24 f))=H4 at *
   refine ⟨_,rfl,_,rfl,_,rfl,p3,p1,ps,_,rfl,YR,aX.of h14,pl.nd,pl.b,pl.xm,fun p5 H5 x Zy s5 h5 bx hx=>?_⟩
   have h35:=s5 _ _ YR
   rw [Gz] at h35
   have n45:p4≠p5:=aK h4 Zy
   refine ⟨p3,p5,rfl,⟨_,aX.of h35⟩,⟨_,aX.of h5⟩,?_⟩
   have f3:H3 p4=none:=Z0
   have n43:p3≠p4:=aK h3 f3
   refine Qy (K:=K) (a:=p3) (b:=p5) (xs:=tabI ps.length fun q=>((ps.getD q 0:Nat):Int)) (ys:=tabI ps.length x) (by rw [aL,aL])
    (fun k σ H6=>∃ v1 v2:Option V,σ=[some (.ref l),some (.ref p1),some (.ref p3),some (.ref p4),v1,v2]∧aI H3 H6∧H6 p4=some (.lst (tabI 24 (My.wB f ps x k)))∧H6 p3=some (.lst (tabI ps.length fun q=>((ps.getD q 0:Nat):Int)))∧H6 p5=some (.lst (tabI ps.length x)))
    ⟨none,none,rfl,s4.trans s5,s5 _ _ h4,h35,h5⟩ (fun k σ H6 _ ⟨_,_,_,_,_,z3,z5⟩=>⟨aX.of z3,aX.of z5⟩) ?_ ?_
   ·rintro k u v pp σ H6 hu hv ⟨v1,v2,rfl,s6,h6,z3,z5⟩ RY
    obtain ⟨hk,rfl⟩:=tab_of hu
    obtain ⟨_,rfl⟩:=tab_of hv
    have hg:ps.getD k 0 < 24:=pl.b _ (by rw [My.getD_get hk];exact List.getElem_mem _)
    have np:p4≠pp:=aK h6 RY
    have n3:p3≠pp:=aK z3 RY
    have n5:p5≠pp:=aK z5 RY
    have h6':(upd H6 pp (.tup [V.int ((ps.getD k 0:Nat):Int),V.int (x k)])) p4=some (.lst (tabI 24 (My.wB f ps x k))):=by rw [aD np];exact h6
    refine vp (bw.of aB) ?_
    refine ⟨_,rfl,_,rfl,p4,_,_,_,rfl,rfl,aX.of h6',dG (by dsimp only;omega) (by dsimp only;omega),_,rfl,_,_,rfl,rfl,_,_,rfl,rfl,(by show (0:Int) < 97;decide),_,rfl,_,rfl,p4,_,_,_,rfl,rfl,h6',vo (by dsimp only;omega) (by dsimp only;omega),?_⟩
    dsimp only
    rw [Int.toNat_natCast,Rg hg]
    refine ⟨_,_,rfl,(s6.new RY).put f3,aB,?_,?_⟩
    ·rw [aD n43,aD n3];exact z3
    ·rw [aD (Ne.symm n45),aD n5];exact z5
   ·rintro σ H6 ⟨v1,v2,rfl,s6,h6,z3,z5⟩
    rw [aL] at h6
    have cfn:IsCell 24 (My.wB f ps x ps.length):=⟨My.O0 ps x cf.b ps.length⟩
    have sC:=sB.trans s6
    refine ⟨_,rfl,p4,_,rfl,aX.of h6,cfn,fun H7 s7=>⟨_,rfl,?_⟩⟩
    by_cases hs:My.bq (My.wB f ps x ps.length)
    ·rw [kF.mpr hs]
     refine fe ?_
     refine ⟨_,rfl,?_⟩
     exact q1 _ p4 H7 (My.Jf cf.b pl.nd pl.xm hs) (sB.free f3) (sC.trans s7) (s7 _ _ h6)
    ·rw [Jm hs]
     refine di ?_
     refine q2 (fun g hm=>hs ?_) H7 (sC.trans s7)
     exact hm.sealed.congr fun i hi=>(My.Je cf.b hm sl pl hx i hi).symm
end
end K31
namespace K31
open PySem L2 PyProof.Rows
section
variable {P:Program} {w:World} {K:PySem.W.Frag} {mg:Str→Option Value} {base:Heap} {t:Ad}
inductive Ev where
 | mk (w:Str) (p:Int × Int) (ns:List Int)
 | took (xs:List Int)
structure Lk where
 q:Int
 s:Int
 d:Int
 u:Int
 b:Int
 k:Int
 p:Option (Int × Int)
 ev:List Ev
 bS:List (List Int)
 of:Int
 tk:Int
def cu (q s d u b k:Int) (pv:V) (tA pA:Addr) (o tk:Int):List (Str × V):=[("quiet",.int q),("side",.int s),("done",.int d),("unheard",.int u),("birth",.int b),("known",.int k),("pair",pv),("told",.ref tA),("pieces",.ref pA),("offered",.int o),("taken",.int tk)]
section
variable {q s d u b k x o tk:Int} {pv v:V} {tA pA y:Addr}
theorem Lc:(cu q s d u b k pv tA pA o tk).lookup ("quiet":Str)=some (.int q):=rfl
theorem VJ:(cu q s d u b k pv tA pA o tk).lookup ("side":Str)=some (.int s):=rfl
theorem Js:(cu q s d u b k pv tA pA o tk).lookup ("done":Str)=some (.int d):=rfl
theorem zP:(cu q s d u b k pv tA pA o tk).lookup ("unheard":Str)=some (.int u):=rfl
theorem sM:(cu q s d u b k pv tA pA o tk).lookup ("birth":Str)=some (.int b):=rfl
theorem pb:(cu q s d u b k pv tA pA o tk).lookup ("known":Str)=some (.int k):=rfl
theorem oJ:(cu q s d u b k pv tA pA o tk).lookup ("pair":Str)=some pv:=rfl
theorem wX:(cu q s d u b k pv tA pA o tk).lookup ("told":Str)=some (.ref tA):=rfl
theorem lV:(cu q s d u b k pv tA pA o tk).lookup ("pieces":Str)=some (.ref pA):=rfl
theorem zQ:(cu q s d u b k pv tA pA o tk).lookup ("offered":Str)=some (.int o):=rfl
theorem AV:(cu q s d u b k pv tA pA o tk).lookup ("taken":Str)=some (.int tk):=rfl
theorem Rh:eN "done" (.int x) (cu q s d u b k pv tA pA o tk)=cu q s x u b k pv tA pA o tk:=rfl
theorem Jt:eN "unheard" (.int x) (cu q s d u b k pv tA pA o tk)=cu q s d x b k pv tA pA o tk:=rfl
theorem PB:eN "birth" (.int x) (cu q s d u b k pv tA pA o tk)=cu q s d u x k pv tA pA o tk:=rfl
theorem Ho:eN "known" (.int x) (cu q s d u b k pv tA pA o tk)=cu q s d u b x pv tA pA o tk:=rfl
theorem Ld:eN "pair" v (cu q s d u b k pv tA pA o tk)=cu q s d u b k v tA pA o tk:=rfl
theorem Ri:eN "told" (.ref y) (cu q s d u b k pv tA pA o tk)=cu q s d u b k pv y pA o tk:=rfl
theorem Mv:eN "pieces" (.ref y) (cu q s d u b k pv tA pA o tk)=cu q s d u b k pv tA y o tk:=rfl
theorem wY:eN "offered" (.int x) (cu q s d u b k pv tA pA o tk)=cu q s d u b k pv tA pA x tk:=rfl
theorem Hq:eN "taken" (.int x) (cu q s d u b k pv tA pA o tk)=cu q s d u b k pv tA pA o x:=rfl
end
abbrev Lk.fld (L:Lk) (pv:V) (tA pA:Addr):List (Str × V):=cu L.q L.s L.d L.u L.b L.k pv tA pA L.of L.tk
def fV (B:Hp) (pv:V):Option (Int × Int)→Prop
 | none=>pv=.bJ
 | some p=>∃ a,pv=.ref a∧B a=some (.tup [.int p.1,.int p.2])
def Hr (B:Hp) (a:Addr):Ev→Prop
 | .mk w p ns=>∃ pa,B a=some (.tup (.str w :: .ref pa :: ns.map V.int))∧B pa=some (.tup [.int p.1,.int p.2])
 | .took xs=>∃ l,B a=some (.tup [.str "took",.ref l])∧B l=some (.lst (xs.map V.int))
def PD (B H:Hp) (l:Addr) (es:List Ev):Prop:=∃ gO:Nat→Addr,H l=some (.lst (bK es.length gO))∧∀ y e,es[y]?=some e→Hr B (gO y) e
def wZ (B H:Hp) (l:Addr) (ps:List (List Int)):Prop:=∃ dt:Nat→Addr,H l=some (.lst (bK ps.length dt))∧∀ y xs,ps[y]?=some xs→B (dt y)=some (.lst (xs.map V.int))
theorem fV.mono {B B':Hp} {pv:V} {o:Option (Int × Int)} (h:fV B pv o) (s:aI B B'):fV B' pv o:=by
 cases o with
 | none=>exact h
 | some p=>obtain ⟨a,e,g⟩:=h;exact ⟨a,e,s _ _ g⟩
theorem Hr.mono {B B':Hp} {a:Addr} {e:Ev} (h:Hr B a e) (s:aI B B'):Hr B' a e:=by
 cases e with
 | mk w p ns=>obtain ⟨pa,g1,g2⟩:=h;exact ⟨pa,s _ _ g1,s _ _ g2⟩
 | took xs=>obtain ⟨l,g1,g2⟩:=h;exact ⟨l,s _ _ g1,s _ _ g2⟩
structure bO (C:Addr) (B H:Hp) (x tA pA:Addr) (L:Lk):Prop where
 sb:aI B H
 bx:B x=none
 bt:B tA=none
 bp:B pA=none
 at_:∃ dx pv,H x=some (.ins C dx (L.fld pv tA pA))∧fV B pv L.p
 told:PD B H tA L.ev
 bS:wZ B H pA L.bS
 ne:tA≠pA
def YS (a b c:Addr) (H H':Hp):Prop:=∀ x o,x≠a→x≠b→x≠c→H x=some o→H' x=some o
theorem dm {H:Hp} {x b:Addr} {o:HO} (h:(upd H x o) b=none) (hx:H x≠none):H b=none:=by
 by_cases z:b=x
 ·subst z;rw [aB] at h;cases h
 ·rw [aD z] at h;exact h
structure jV (B H B' H':Hp) (x tA pA tB pB:Addr):Prop where
 bb:aI B B'
 no:∀ a,H a≠none→B a=none→B' a=none
 k:YS x tA pA H H'
 g:∀ b,H' b=none→H b=none
 t:tB=tA∨H tB=none
 p:pB=pA∨H pB=none
theorem jV.refl {B H:Hp} {x tA pA:Addr}:jV B H B H x tA pA tA pA:=⟨aI.refl _,fun _ _ h=>h,fun _ _ _ _ _ h=>h,fun _ h=>h,.inl rfl,.inl rfl⟩
theorem jV.trans {B H B1 H1 B2 H2:Hp} {x tA pA tB pB tC pC:Addr} (a:jV B H B1 H1 x tA pA tB pB) (b:jV B1 H1 B2 H2 x tB pB tC pC):jV B H B2 H2 x tA pA tC pC:=by
 have ne:∀ {y z:Addr} {o:HO},H y=some o→y≠z→(∀ {w:Addr},(w=z∨H w=none)→y≠w):=fun {y z o} e n {w} h=>h.elim (fun q=>q ▸ n) (fun q=>aK e q)
 refine ⟨a.bb.trans b.bb,fun y h1 h2=>b.no y (fun z=>h1 (a.g y z)) (a.no y h1 h2),fun y o n1 n2 n3 e=>b.k y o n1 (ne e n2 a.t) (ne e n3 a.p) (a.k y o n1 n2 n3 e),fun y h=>a.g y (b.g y h),?_,?_⟩
 ·rcases b.t with z | z
  ·rw [z];exact a.t
  ·exact .inr (a.g _ z)
 ·rcases b.p with z | z
  ·rw [z];exact a.p
  ·exact .inr (a.g _ z)
theorem jV.of_same {B H H1:Hp} {x tA pA:Addr} (s:aI H H1):jV B H B H1 x tA pA tA pA:=⟨aI.refl _,fun _ _ h=>h,fun y o _ _ _ e=>s _ _ e,fun y h=>s.free h,.inl rfl,.inl rfl⟩
theorem jV.same {B H B1 H1 H2:Hp} {x tA pA tB pB:Addr} (a:jV B H B1 H1 x tA pA tB pB) (s:aI H1 H2):jV B H B1 H2 x tA pA tB pB:=a.trans (jV.of_same s)
section
variable {C:Addr} {B H H':Hp} {x tA pA:Addr} {L:Lk}
theorem bO.hx (h:bO C B H x tA pA L):H x≠none:=by obtain ⟨_,_,g,_⟩:=h.at_;rw [g];exact fun z=>by cases z
theorem bO.ht (h:bO C B H x tA pA L):H tA≠none:=by obtain ⟨_,g,_⟩:=h.told;rw [g];exact fun z=>by cases z
theorem bO.hp (h:bO C B H x tA pA L):H pA≠none:=by obtain ⟨_,g,_⟩:=h.bS;rw [g];exact fun z=>by cases z
theorem bO.xt (h:bO C B H x tA pA L):x≠tA:=fun z=>by obtain ⟨_,_,g,_⟩:=h.at_;obtain ⟨_,g2,_⟩:=h.told;rw [z,g2] at g;cases g
theorem bO.xp (h:bO C B H x tA pA L):x≠pA:=fun z=>by obtain ⟨_,_,g,_⟩:=h.at_;obtain ⟨_,g2,_⟩:=h.bS;rw [z,g2] at g;cases g
theorem bO.same (h:bO C B H x tA pA L) (s:aI H H'):bO C B H' x tA pA L:=by
 obtain ⟨dx,pv,g,gp⟩:=h.at_
 obtain ⟨gO,g2,Hs⟩:=h.told
 obtain ⟨dt,g3,vU⟩:=h.bS
 exact ⟨h.sb.trans s,h.bx,h.bt,h.bp,⟨dx,pv,s _ _ g,gp⟩,⟨gO,s _ _ g2,Hs⟩,⟨dt,s _ _ g3,vU⟩,h.ne⟩
theorem bO.grow {a:Addr} {o:HO} (h:bO C B H x tA pA L) (s:aI H H') (na:H a=none) (ea:H' a=some o):bO C (upd B a o) H' x tA pA L∧jV B H (upd B a o) H' x tA pA tA pA:=by
 have sB:aI B (upd B a o):=(aI.refl _).new (h.sb.free na)
 have no:∀ {b:Addr},H b≠none→B b=none→(upd B a o) b=none:=fun {b} hb e=>by rw [aD (fun z=>hb (by rw [z];exact na))];exact e
 have h1:=h.same s
 obtain ⟨dx,pv,g,gp⟩:=h1.at_
 obtain ⟨gO,g2,Hs⟩:=h1.told
 obtain ⟨dt,g3,vU⟩:=h1.bS
 refine ⟨⟨?_,no h.hx h.bx,no h.ht h.bt,no h.hp h.bp,⟨dx,pv,g,gp.mono sB⟩,⟨gO,g2,fun y e he=>(Hs y e he).mono sB⟩,⟨dt,g3,fun y xs hy=>sB _ _ (vU y xs hy)⟩,h.ne⟩,⟨sB,fun b=>no,fun y u _ _ _ e=>s _ _ e,fun y hy=>s.free hy,.inl rfl,.inl rfl⟩⟩
 intro b u e
 by_cases z:b=a
 ·rw [z] at e ⊢;rw [aB] at e;rw [ea];exact e
 ·rw [aD z] at e;exact h1.sb _ _ e
theorem bO.set {dx:Addr} {pv:V} {L':Lk} (h:bO C B H x tA pA L) (hp:fV B pv L'.p) (e:L'.ev=L.ev) (e2:L'.bS=L.bS) :
  bO C B (upd H x (.ins C dx (L'.fld pv tA pA))) x tA pA L'∧jV B H B (upd H x (.ins C dx (L'.fld pv tA pA))) x tA pA tA pA:=by
 obtain ⟨gO,g2,Hs⟩:=h.told
 obtain ⟨dt,g3,vU⟩:=h.bS
 exact ⟨⟨h.sb.put h.bx,h.bx,h.bt,h.bp,⟨dx,pv,aB,hp⟩,by rw [e];exact ⟨gO,by rw [aD (Ne.symm h.xt)];exact g2,Hs⟩,by rw [e2];exact ⟨dt,by rw [aD (Ne.symm h.xp)];exact g3,vU⟩,h.ne⟩,
  ⟨aI.refl _,fun _ _ z=>z,fun y o n1 _ _ e=>by rw [aD n1];exact e,fun b hb=>dm hb h.hx,.inl rfl,.inl rfl⟩⟩
theorem bO.tell {ea:Addr} {gO:Nat→Addr} {vs:List V} {e:Ev} (h:bO C B H x tA pA L) (g:H tA=some (.lst (bK L.ev.length gO))) (g':∀ y e,L.ev[y]?=some e→Hr B (gO y) e) (he:H ea=none) (PF:Hr (upd B ea (.tup vs)) ea e) :
  bO C (upd B ea (.tup vs)) (upd (upd H ea (.tup vs)) tA (.lst (bK L.ev.length gO ++ [.ref ea]))) x tA pA { L with ev:=L.ev ++ [e] } ∧
  jV B H (upd B ea (.tup vs)) (upd (upd H ea (.tup vs)) tA (.lst (bK L.ev.length gO ++ [.ref ea]))) x tA pA tA pA:=by
 have s1:aI H (upd H ea (.tup vs)):=(aI.refl _).new he
 obtain ⟨h1,m1⟩:=h.grow (o:=.tup vs) s1 he aB
 obtain ⟨dx,pv,gx,gp⟩:=h1.at_
 obtain ⟨dt,g3,vU⟩:=h1.bS
 have g1:=s1 _ _ g
 refine ⟨⟨h1.sb.put h1.bt,h1.bx,h1.bt,h1.bp,⟨dx,pv,by rw [aD h.xt];exact gx,gp⟩,?_,⟨dt,by rw [aD (Ne.symm h.ne)];exact g3,vU⟩,h.ne⟩,?_⟩
 ·refine ⟨fun y=>if y=L.ev.length then ea else gO y,by rw [dS];show _=some (HO.lst (bK (L.ev ++ [_]).length _));rw [List.length_append];exact aB,fun y e' hy=>?_⟩
  have hy:(L.ev ++ [e])[y]?=some e':=hy
  by_cases z:y=L.ev.length
  ·rw [z,List.getElem?_append_right (Nat.le_refl _),Nat.sub_self] at hy
   cases hy
   simp only [z,if_true]
   exact PF
  ·have YT:y < (L.ev ++ [e]).length:=(List.getElem?_eq_some_iff.mp hy).1
   rw [List.length_append] at YT
   have VL:y < L.ev.length:=by simp at YT;omega
   rw [List.getElem?_append_left VL] at hy
   simp only [z,if_false]
   exact (g' y e' hy).mono m1.bb
 ·exact m1.trans ⟨aI.refl _,fun _ _ z=>z,fun y o _ n2 _ e=>by rw [aD n2];exact e,fun b hb=>dm hb h1.ht,.inl rfl,.inl rfl⟩
theorem PH {ea pa:Addr} {w:Str} {p:Int × Int} {ns:List Int} (hb:B ea=none) (hp:B pa=some (.tup [.int p.1,.int p.2])):Hr (upd B ea (.tup (.str w :: .ref pa :: ns.map V.int))) ea (.mk w p ns) :=
 ⟨pa,aB,by rw [aD (aK hp hb)];exact hp⟩
theorem Rj {ea l:Addr} {xs:List Int} (hb:B ea=none) (hl:B l=some (.lst (xs.map V.int))):Hr (upd B ea (.tup [.str "took",.ref l])) ea (.took xs) :=
 ⟨l,aB,by rw [aD (aK hl hb)];exact hl⟩
end
def VM (L:Lk):Lk:={ L with p:=none,bS:=[],of:=0,tk:=0 }
def bL (L:Lk) (n:Int):Lk:=match L.p with
 | none=>{ L with k:=n }
 | some p=>if L.k < n then { L with p:=none,bS:=[],of:=0,tk:=0,k:=n,ev:=L.ev ++ [.mk "anew" p []] } else { L with k:=n }
def bY (L:Lk):Lk:=match L.p with
 | none=>{ L with p:=some (if L.s=0 then (L.b,L.k) else (L.k,L.b)),ev:=L.ev ++ [.mk "up" (if L.s=0 then (L.b,L.k) else (L.k,L.b)) []] }
 | some _=>L
def iG (L:Lk):Lk:=match L.p with
 | none=>{ L with b:=L.b+1,k:=0 }
 | some p=>{ L with p:=none,bS:=[],of:=0,tk:=0,b:=L.b+1,k:=0,ev:=L.ev ++ [.mk "silent" p [L.d - L.q+1,L.d]] }
def cB (L:Lk) (c:Int):Lk:=if L.bS≠[]∧c=(L.of+1) % 97 then { L with bS:=L.bS.tail,of:=(L.of+1) % 97 } else L
def dP (L:Lk) (n:Int) (xs:List Int):Lk:=if xs≠[]∧n=L.tk then { L with ev:=L.ev ++ [.took xs],tk:=(L.tk+1) % 97 } else L
structure Cl where
 b:Int
 k:Int
 n:Int
 c:Int
 xs:List Int
def cq (L:Lk) (a:Cl):Lk:=if a.b < L.k then L else if a.k=(bL L a.b).b then dP (cB (bY (bL L a.b)) a.c) a.n a.xs else bL L a.b
def el (L:Lk):Cl:=⟨L.b,L.k,L.of,L.tk,L.bS.headD []⟩
end
end K31
namespace K31
open PySem L2 PyProof.Rows
section
variable {P:Program} {w:World} {K:PySem.W.Frag} {mg:Str→Option Value} {base:Heap} {t:Ad}
def gd (C:Addr):Sp:=fun vs H Q _=>∃ (x dx:Addr) (fs:List (Str × V)),vs=[.ref x]∧H x=some (.ins C dx fs)∧fs.length < 900∧∀ pB,H pB=none→Q .bJ (upd (upd H pB (.lst [])) x (.ins C dx (eN "taken" (.int 0) (eN "offered" (.int 0) (eN "pieces" (.ref pB) fs)))))
theorem wa (f:Str) (v:V):∀ fs:List (Str × V),(eN f v fs).length≤fs.length+1
 | []=>Nat.le_refl _
 | (g,x) :: r=>by
  unfold eN
  split
  ·rw [List.length_cons,List.length_cons];omega
  ·rw [List.length_cons,List.length_cons];have:=wa f v r;omega
theorem tY:aQ ["self"] ["self"] (aH cQ):=⟨rfl,rfl,rfl,by decide +kernel,rfl,by decide +kernel,by decide +kernel⟩
theorem tZ {fd:FuncData} (T:Txt K mg t) (F:kL K "forget_pieces" "LinkEnd.forget_pieces" cQ t.cR fd) :
  bZ P w K mg base (i9 P w) 1 t.cR fd ["self"] (gd t.LinkEnd)∧Binds K fd ["self"] []:=by
 refine ⟨F.qR tY (fun vs H Q E h=>?_) (fun f bo A outer s H vs Q E hr h=>?_),F.binds fun _ _ _ _ _ _ us hl=>match us,hl with | [_],_=>rfl⟩
 ·obtain ⟨x,dx,fs,rfl,_⟩:=h
  rfl
 ·obtain ⟨x,dx,fs,rfl,hx,hl,q⟩:=h
  refine ⟨_,aC (cF K (pv 0) (bF aE) (by rfl))
   (aC (cF K (pv 0) aF (by rfl))
   (aG (cF K (pv 0) aF (by rfl)))),?_⟩
  refine ⟨by show 0≤sizeLine;decide,fun pB Te=>?_⟩
  have n1:x≠pB:=aK hx Te
  have l1:=wa "pieces" (.ref pB) fs
  have l2:=wa "offered" (.int 0) (eN "pieces" (.ref pB) fs)
  refine ⟨_,rfl,x,t.LinkEnd,dx,fs,rfl,by rw [aD n1];exact hx,T.aJ,T.gX,by omega,?_⟩
  refine ⟨_,rfl,x,t.LinkEnd,dx,_,rfl,aB,T.aJ,T.mJ,by omega,?_⟩
  rw [ir]
  refine ⟨_,rfl,x,t.LinkEnd,dx,_,rfl,aB,T.aJ,T.n9,by omega,?_⟩
  rw [ir]
  exact q pB Te
def tf (C:Addr):Sp:=fun vs H Q _=>∃ (B:Hp) (x tA pA:Addr) (L:Lk),vs=[.ref x]∧bO C B H x tA pA L∧∀ B' H' pB,jV B H B' H' x tA pA tA pB→bO C B' H' x tA pB (VM L)→Q .bJ H'
theorem Mw:aQ ["self"] ["self"] (aH lL):=⟨rfl,rfl,rfl,by decide +kernel,rfl,by decide +kernel,by decide +kernel⟩
theorem Mx {fd Ht:FuncData} (T:Txt K mg t) (F:kL K "end_up" "LinkEnd.end_up" lL t.lO fd) (cS:bZ P w K mg base (i9 P w) 1 t.cR Ht ["self"] (gd t.LinkEnd)) (cT:Binds K Ht ["self"] []) :
  bZ P w K mg base (i9 P w) 2 t.lO fd ["self"] (tf t.LinkEnd)∧Binds K fd ["self"] []:=by
 refine ⟨F.qR Mw (fun vs H Q E h=>?_) (fun f bo A outer s H vs Q E hr h=>?_),F.binds fun _ _ _ _ _ _ us hl=>match us,hl with | [_],_=>rfl⟩
 ·obtain ⟨B,x,tA,pA,L,rfl,_⟩:=h
  rfl
 ·obtain ⟨B,x,tA,pA,L,rfl,h,q⟩:=h
  refine ⟨_,aC (cF K (pv 0) cK (by rfl))
   (aG (ax (dh (pv 0) T.aJ T.lQ (cS.mono (by decide)) hr cT .nil ar))),?_⟩
  obtain ⟨dx,pv,hx,hp⟩:=h.at_
  refine ⟨_,rfl,x,t.LinkEnd,dx,_,rfl,hx,T.aJ,T.gC,by show 11 < 1000;decide,?_⟩
  rw [Ld]
  obtain ⟨h1,m1⟩:=h.set (dx:=dx) (pv:=.bJ) (L':={ L with p:=none }) rfl rfl rfl
  refine ⟨_,rfl,x,dx,_,rfl,aB,rfl,x,dx,_,rfl,aB,by show 11 < 900;decide,fun pB Te=>?_⟩
  rw [Mv,wY,Hq]
  have h1:bO t.LinkEnd B (upd H x (.ins t.LinkEnd dx (cu L.q L.s L.d L.u L.b L.k .bJ tA pA L.of L.tk))) x tA pA { L with p:=none }:=h1
  have m1:jV B H B (upd H x (.ins t.LinkEnd dx (cu L.q L.s L.d L.u L.b L.k .bJ tA pA L.of L.tk))) x tA pA tA pA:=m1
  generalize upd H x (.ins t.LinkEnd dx (cu L.q L.s L.d L.u L.b L.k .bJ tA pA L.of L.tk))=H1 at *
  have s2:aI H1 (upd H1 pB (.lst [])):=(aI.refl _).new Te
  have h2:=h1.same s2
  have YU:tA≠pB:=fun z=>h1.ht (z ▸ Te)
  have Rk:x≠pB:=fun z=>h1.hx (z ▸ Te)
  obtain ⟨gO,g,g'⟩:=h2.told
  refine q B _ pB (m1.trans ⟨aI.refl _,fun _ _ z=>z,fun y o n1 n2 n3 e=>by rw [aD n1];exact s2 _ _ e,fun b hb=>s2.free (dm hb h2.hx),.inl rfl,.inr Te⟩)
   ⟨h2.sb.put h2.bx,h.bx,h.bt,h1.sb.free Te,⟨dx,.bJ,aB,rfl⟩,⟨gO,by rw [aD (Ne.symm h2.xt)];exact g,g'⟩,⟨fun _=>0,by rw [aD (Ne.symm Rk)];exact aB,fun y xs hy=>by cases hy⟩,YU⟩
def Le (C:Addr):Sp:=fun vs H Q _=>∃ (B:Hp) (x tA pA:Addr) (L:Lk) (n:Int),vs=[.ref x,.int n]∧bO C B H x tA pA L∧L.ev.length < 1000000∧∀ B' H' pB,jV B H B' H' x tA pA tA pB→bO C B' H' x tA pB (bL L n)→Q .bJ H'
theorem Rl:aQ ["self","birth"] ["self","birth"] (aH tS):=⟨rfl,rfl,rfl,by decide +kernel,rfl,by decide +kernel,by decide +kernel⟩
theorem Rm {fd Ht:FuncData} (T:Txt K mg t) (F:kL K "meet" "LinkEnd.meet" tS t.wG fd) (lW:bZ P w K mg base (i9 P w) 2 t.lO Ht ["self"] (tf t.LinkEnd)) (lX:Binds K Ht ["self"] []) :
  bZ P w K mg base (i9 P w) 3 t.wG fd ["self","birth"] (Le t.LinkEnd)∧Binds K fd ["self","birth"] []:=by
 refine ⟨F.qR Rl (fun vs H Q E h=>?_) (fun f bo A outer s H vs Q E hr h=>?_),F.binds fun _ _ _ _ _ _ us hl=>match us,hl with | [_,_],_=>rfl⟩
 ·obtain ⟨B,x,tA,pA,L,n,rfl,_⟩:=h
  rfl
 ·obtain ⟨B,x,tA,pA,L,n,rfl,h,hlen,q⟩:=h
  refine ⟨_,aC (bD (PW.pt (sx (aW pL (ao K (pv 0) (by rfl)) cK (aj _)) (pK (aW N5 (pv 1) (ao K (pv 0) (by rfl)) (aj _)))))
    (aC (ax (jM K PySem.F.plainAttrs_list PySem.F.slot_list_append PySem.F.type_list_append cP (ao K (pv 0) (by rfl)) (aA (bB (aA cZ (aA (ao K (pv 0) (by rfl)) aE))) aE)))
    (aG (ax (dh (pv 0) T.aJ T.zM (lW.mono (by decide)) hr lX .nil ar))))
    (af))
   (aG (cF K (pv 0) (pv 1) (by rfl))),?_⟩
  have hsz:(1000001:Nat)≤sizeLine:=by decide
  obtain ⟨dx,pv,hx,hp⟩:=h.at_
  have last:∀ (B1 H1:Hp) (pB:Addr) (L1:Lk),jV B H B1 H1 x tA pA tA pB→bO t.LinkEnd B1 H1 x tA pB L1→{ L1 with k:=n }=bL L n→(N9 K (qM 0) (qM 1) "known") { nx:=fun _ H'=>Q .bJ H',rt:=Q } [some (.ref x),some (.int n)] H1:=fun B1 H1 pB L1 m1 h1 e1=>by
   obtain ⟨wb,Rn,xw,HY⟩:=h1.at_
   refine ⟨_,rfl,_,rfl,x,t.LinkEnd,wb,_,rfl,xw,T.aJ,T.gB,by show 11 < 1000;decide,?_⟩
   rw [Ho]
   obtain ⟨h2,m2⟩:=h1.set (dx:=wb) (pv:=Rn) (L':={ L1 with k:=n }) HY rfl rfl
   exact q B1 _ pB (m1.trans m2) (by rw [← e1];exact h2)
  refine ⟨_,rfl,x,t.LinkEnd,dx,_,_,rfl,hx,T.aJ,T.gC,oJ,rfl,_,rfl,?_⟩
  cases ep:L.p with
  | none =>
   rw [ep] at hp
   have hp:pv=.bJ:=hp
   subst hp
   refine qC rfl (di ?_)
   exact last B H pA L jV.refl h (by unfold bL;rw [ep])
  | some p =>
   rw [ep] at hp
   obtain ⟨pa,rfl,Lb⟩:=hp
   refine rY (fun z=>by cases z) ?_
   refine ⟨_,rfl,_,rfl,x,t.LinkEnd,dx,_,_,rfl,hx,T.aJ,T.gB,pb,_,_,rfl,rfl,_,rfl,?_⟩
   by_cases hk:L.k < n
   ·refine eP hk ?_
    obtain ⟨gO,g,g'⟩:=h.told
    refine ⟨_,rfl,x,t.LinkEnd,dx,_,_,rfl,hx,T.aJ,T.mI,wX,.inl ⟨rfl,_,aX.of g⟩,?_⟩
    refine ⟨_,rfl,x,t.LinkEnd,dx,_,_,rfl,hx,T.aJ,T.gC,oJ,by show 2≤sizeLine;decide,fun ea Ju=>?_⟩
    refine ⟨tA,_,_,rfl,rfl,by rw [aD (aK g Ju)];exact g,by rw [aL];omega,?_⟩
    obtain ⟨h1,m1⟩:=h.tell g g' Ju (PH (w:="anew") (ns:=[]) (h.sb.free Ju) Lb)
    obtain ⟨wb,Rn,xw,HY⟩:=h1.at_
    refine ⟨_,rfl,x,wb,_,rfl,xw,rfl,_,x,tA,pA,_,rfl,h1,fun B2 H2 pB m2 h2=>?_⟩
    exact last B2 H2 pB _ (m1.trans m2) h2 (by unfold bL VM;rw [ep];simp only [if_pos hk])
   ·refine dX hk ?_
    exact last B H pA L jV.refl h (by unfold bL;rw [ep];simp only [if_neg hk])
end
end K31
namespace My
def told (l:List Int):Int:=l.foldl (fun n s=>n * 97+s) 0
def low:Nat→Int→List Int
 | 0,_=>[]
 | m+1,n=>n % 97 :: low m (n / 97)
def rest:Nat→Int→Int
 | 0,n=>n
 | m+1,n=>rest m (n / 97)
theorem Lf:∀ (m:Nat) (n:Int),(low m n).length=m
 | 0,_=>rfl
 | m+1,n=>by rw [low,List.length_cons,Lf]
theorem Hu:∀ (m:Nat) (n:Int),low (m+1) n=low m n ++ [rest m n % 97]
 | 0,n=>rfl
 | m+1,n=>by rw [low,Hu m (n / 97),low,rest,List.cons_append]
theorem zR:∀ (m:Nat) (n:Int),rest (m+1) n=rest m n / 97
 | 0,n=>rfl
 | m+1,n=>by rw [rest,zR m (n / 97),rest]
theorem Mz (l:List Int) (s:Int):told (l ++ [s])=told l * 97+s:=by unfold told;rw [List.foldl_append];rfl
theorem uv:∀ (m:Nat) (n:Int),0≤n→0≤rest m n
 | 0,n,h=>by rw [rest];exact h
 | m+1,n,h=>by rw [rest];exact uv m _ (by omega)
end My
namespace K31
open PySem L2 PyProof.Rows
section
variable {P:Program} {w:World} {K:PySem.W.Frag} {mg:Str→Option Value} {base:Heap} {t:Ad}
def nL (C:Addr):Sp:=fun vs H Q E=>∃ n m:Int,vs=[.int n,.int m]∧n.natAbs < 2 ^ 1000∧0≤m∧m≤1000 ∧
 (0≤n→My.rest m.toNat n=0→∀ p H',H p=none→aI H H'→H' p=some (.lst ((My.low m.toNat n).reverse.map V.int))→Q (.ref p) H')∧(n < 0∨0 < My.rest m.toNat n→∀ H',aI H H'→E (.ref C) none H')
theorem dQ:aQ ["number","many","signs","left","place"] ["number","many"] (aH fk):=⟨rfl,rfl,rfl,by decide +kernel,rfl,by decide +kernel,by decide +kernel⟩
theorem vE (F:aP K mg "number_signs" fk) (T:Txt K mg t):Def P w K mg base 1 "number_signs" ["number","many"] (nL t.BadSign):=by
 refine F.def dQ (fun _ _ _ _ _ _ us hl=>match us,hl with | [_,_],_=>rfl) (fun vs H Q E h=>?_) (fun f bo A outer s H vs Q E hr h=>?_)
 ·obtain ⟨n,m,rfl,_⟩:=h
  rfl
 ·obtain ⟨n,m,rfl,hb,m0,m1,q1,q2⟩:=h
  refine ⟨_,aC (aT (i:=2) dQ.nd rfl (Or.inl rfl) (bF aE))
   (aC (aT (i:=3) dQ.nd rfl (Or.inl rfl) (pv 0))
   (aC (PS.uX (dD PassesOwn.never rfl (cw (by rfl) T.dg (aA (pv 1) aE)) (az (i:=4) dQ.nd rfl (Or.inl rfl))
    (aC (ax (S8 PySem.F.plainAttrs_list PySem.F.slot_list_append PySem.F.type_list_append cP (pv 2) (aA (aN aw (pv 3) (aS T.cO)) aE)))
    (aG (aT (i:=3) dQ.nd rfl (Or.inl rfl) (aN cW (pv 3) (aS T.cO)))))))
   (aC (bD (PW.pt (Ga (aW jy (pv 0) aF (aj _)) (vY (aW N5 (pv 3) aF (aj _)))))
    (aG (eg bC rfl rfl T.wL T.wM PySem.F.excBase_ValueError (aA (jz (bU (ff (pv 0)) (bU cZ (bU (ff (pv 1)) (bU cZ nj))))) aE)))
    (af))
   (aG (aV (tJ rfl T.qU T.wK (pv 2))))))),?_⟩
  refine ⟨by show 0≤sizeLine;decide,fun ps QR=>?_⟩
  refine ⟨_,rfl,?_⟩
  have hsz:(2000:Nat)≤sizeLine:=by decide
  refine ⟨_,rfl,m,rfl,by omega,by omega,fT (lo:=0) (n:=m.toNat) (fun i σ H'=>∃ x:Option V,σ=[some (.int n),some (.int m),some (.ref ps),some (.int (My.rest i n)),x]∧aI H H'∧H' ps=some (.lst ((My.low i n).map V.int))) ⟨none,rfl,(aI.refl _).new QR,aB⟩ ?_ ?_⟩
  ·rintro i σ H' hi ⟨x,rfl,s1,h1⟩
   refine ⟨_,rfl,.inl ⟨rfl,_,aX.of h1⟩,_,rfl,_,_,rfl,rfl,(by show (0:Int) < 97;decide),ps,_,_,rfl,rfl,h1,by rw [List.length_map,My.Lf];omega,?_⟩
   refine ⟨_,rfl,_,_,rfl,rfl,⟨by decide,by decide⟩,?_⟩
   refine ⟨_,by rw [My.zR];rfl,s1.put QR,?_⟩
   rw [aB,My.Hu,List.map_append]
   rfl
  ·rintro σ H' ⟨x,rfl,s1,h1⟩
   refine ⟨_,rfl,_,_,rfl,rfl,_,rfl,?_⟩
   have hz:=gD hb
   have hz2:=gD (i:=m) (dw (by omega) (by omega))
   have l1:(" is not told by ":Str).length=16:=by decide +kernel
   have l2:(" signs":Str).length=6:=by decide +kernel
   have sl:(3000:Nat)≤sizeLine:=by decide
   have e0:(Str.empty ++ Str.ofString (toString n)).length≤1001:=by rw [strLen_append];show 0+_≤1001;omega
   have e1:((Str.empty ++ Str.ofString (toString n)) ++ (" is not told by ":Str)).length≤1017:=by rw [strLen_append];omega
   have e2:(((Str.empty ++ Str.ofString (toString n)) ++ (" is not told by ":Str)) ++ Str.ofString (toString m)).length≤2018:=by rw [strLen_append];omega
   have e3:((((Str.empty ++ Str.ofString (toString n)) ++ (" is not told by ":Str)) ++ Str.ofString (toString m)) ++ (" signs":Str)).length≤2024:=by rw [strLen_append];omega
   have bad:n < 0∨0 < My.rest m.toNat n→E (.ref t.BadSign) none H':=fun z=>q2 z H' s1
   by_cases h0:n < 0
   ·refine eP h0 (fe ?_)
    refine ⟨_,rfl,n,rfl,dW hb (by decide) (by decide),_,rfl,by omega,_,rfl,by omega,_,rfl,m,rfl,dW (dw (by omega) (by omega)) (by decide) (by decide),_,rfl,by omega,_,rfl,by omega,by omega,?_⟩
    exact ⟨by show 1≤sizeLine;decide,bad (.inl h0)⟩
   ·refine dX h0 ?_
    refine ⟨_,rfl,_,_,rfl,rfl,_,rfl,?_⟩
    by_cases h2:0 < My.rest m.toNat n
    ·refine eP h2 ?_
     refine ⟨_,rfl,n,rfl,dW hb (by decide) (by decide),_,rfl,by omega,_,rfl,by omega,_,rfl,m,rfl,dW (dw (by omega) (by omega)) (by decide) (by decide),_,rfl,by omega,_,rfl,by omega,by omega,?_⟩
     exact ⟨by show 1≤sizeLine;decide,bad (.inr h2)⟩
    ·refine dX h2 ?_
     have r0:=My.uv m.toNat n (by omega)
     refine ⟨_,rfl,ps,_,rfl,aX.of h1,fun p hp=>?_⟩
     refine q1 (by omega) (by omega) p _ (s1.free hp) (s1.new hp) ?_
     rw [aB,← List.map_reverse]
def nM (K:PySem.W.Frag) (C:Addr):Sp:=fun vs H Q E=>∃ (l:Addr) (ns:List Int),vs=[.ref l]∧aX K H l (ns.map V.int)∧(∀ n ∈ ns,n.natAbs < 2 ^ 1000) ∧
 ((∀ n ∈ ns,0≤n∧n < 97)→Q (.int (My.told ns)) H)∧(∀ n ∈ ns,¬ (0≤n∧n < 97)→E (.ref C) none H)
theorem fD:aQ ["signs","number","sign"] ["signs"] (aH fo):=⟨rfl,rfl,rfl,by decide +kernel,rfl,by decide +kernel,by decide +kernel⟩
theorem vF (F:aP K mg "signs_number" fo) (T:Txt K mg t) (dk:Def P w K mg base 2 "look_sign" ["number"] (i5 t.BadSign)):Def P w K mg base 3 "signs_number" ["signs"] (nM K t.BadSign):=by
 refine F.def fD (fun _ _ _ _ _ _ us hl=>match us,hl with | [_],_=>rfl) (fun vs H Q E h=>?_) (fun f bo A outer s H vs Q E hr h=>?_)
 ·obtain ⟨l,ns,rfl,_⟩:=h
  rfl
 ·obtain ⟨l,ns,rfl,hl,hb,q1,q2⟩:=h
  refine ⟨_,aC (aT (i:=1) fD.nd rfl (Or.inl rfl) aF)
   (aC (dD (Uh bC) rfl (Ku (pv 0)) (az (i:=2) fD.nd rfl (Or.inl rfl))
    (aC (ax (aZ (dk.mono (by decide)) hr (lG bC) (aA (pv 2) aE)))
    (aG (aT (i:=1) fD.nd rfl (Or.inl rfl) (aN bA (aN eM (pv 1) (aS T.cO)) (pv 2))))))
   (aG (aV (pv 1)))),?_⟩
  refine ⟨_,rfl,l,rfl,⟨_,hl⟩,lD (K:=K) (a:=l) (xs:=ns.map V.int) (fun i σ H'=>∃ x:Option V,σ=[some (.ref l),some (.int (My.told (ns.take i))),x]∧H'=H∧∀ n ∈ ns.take i,0≤n∧n < 97) ⟨none,rfl,rfl,fun n hn=>by simp at hn⟩ (fun i σ H' _ ⟨_,_,e,_⟩=>by rw [e];exact hl) ?_ ?_⟩
  ·rintro i y σ H' hi ⟨x,rfl,rfl,ha⟩
   obtain ⟨z,hz,rfl⟩:=mB hi
   have hm:z ∈ ns:=List.mem_of_getElem? hz
   refine ⟨_,rfl,z,rfl,hb z hm,fun h0=>?_,fun h0=>q2 z hm h0⟩
   refine ⟨_,rfl,_,_,rfl,rfl,.inr ⟨by decide,by decide⟩,_,rfl,_,_,rfl,rfl,?_⟩
   refine ⟨some (.int z),?_,rfl,?_⟩
   ·rw [take_succ hz,My.Mz]
    rfl
   ·rw [take_succ hz]
    intro n hn
    rcases List.mem_append.mp hn with z1 | z1
    ·exact ha n z1
    ·rw [List.mem_singleton.mp z1];exact h0
  ·rintro σ H' ⟨x,rfl,rfl,ha⟩
   refine ⟨_,rfl,?_⟩
   rw [List.length_map,List.take_length] at *
   exact q1 ha
end
end K31
namespace K31
open PySem L2 PyProof.Rows
section
variable {P:Program} {w:World} {K:PySem.W.Frag} {mg:Str→Option Value} {base:Heap} {t:Ad}
def wc (C:Addr):Sp:=fun vs H Q _=>∃ (B:Hp) (x tA pA:Addr) (L:Lk),vs=[.ref x]∧bO C B H x tA pA L∧L.ev.length < 1000000∧∀ B' H',jV B H B' H' x tA pA tA pA→bO C B' H' x tA pA (bY L)→Q .bJ H'
theorem Jv:aQ ["self"] ["self"] (aH jD):=⟨rfl,rfl,rfl,by decide +kernel,rfl,by decide +kernel,by decide +kernel⟩
theorem Jw {fd:FuncData} (T:Txt K mg t) (F:kL K "come_up" "LinkEnd.come_up" jD t.lN fd) :
  bZ P w K mg base (i9 P w) 1 t.lN fd ["self"] (wc t.LinkEnd)∧Binds K fd ["self"] []:=by
 refine ⟨F.qR Jv (fun vs H Q E h=>?_) (fun f bo A outer s H vs Q E hr h=>?_),F.binds fun _ _ _ _ _ _ us hl=>match us,hl with | [_],_=>rfl⟩
 ·obtain ⟨B,x,tA,pA,L,rfl,_⟩:=h
  rfl
 ·obtain ⟨B,x,tA,pA,L,rfl,h,hlen,q⟩:=h
  refine ⟨_,aG (bD (aW tF (ao K (pv 0) (by rfl)) cK (aj _))
    (aC (cF K (pv 0) (nW (aW jL (ao K (pv 0) (by rfl)) aF (aj _)) (bB (aA (ao K (pv 0) (by rfl)) (aA (ao K (pv 0) (by rfl)) aE))) (bB (aA (ao K (pv 0) (by rfl)) (aA (ao K (pv 0) (by rfl)) aE)))) (by rfl))
    (aG (ax (jM K PySem.F.plainAttrs_list PySem.F.slot_list_append PySem.F.type_list_append cP (ao K (pv 0) (by rfl)) (aA (bB (aA cZ (aA (ao K (pv 0) (by rfl)) aE))) aE)))))
    (af)),?_⟩
  have hsz:(1000001:Nat)≤sizeLine:=by decide
  obtain ⟨dx,pv,hx,hp⟩:=h.at_
  refine ⟨_,rfl,x,t.LinkEnd,dx,_,_,rfl,hx,T.aJ,T.gC,oJ,rfl,_,rfl,?_⟩
  cases ep:L.p with
  | some p =>
   rw [ep] at hp
   obtain ⟨pa,rfl,Lb⟩:=hp
   refine dX (fun z=>by cases z) ?_
   exact q B H jV.refl (by unfold bY;rw [ep];exact h)
  | none =>
   rw [ep] at hp
   have hp:pv=.bJ:=hp
   subst hp
   refine eP rfl ?_
   have main:∀ (pa:Addr) (p:Int × Int),H pa=none→p=(if L.s=0 then (L.b,L.k) else (L.k,L.b))→(∃ a C dx fs,V.ref x=.ref a∧(upd H pa (.tup [.int p.1,.int p.2])) a=some (.ins C dx fs)∧MC K C∧dE K C "pair"∧fs.length < 1000∧(Nx (tBM K "list" K9 (JG K (qM 0) "told") (K1 (XB (K1 (tC (.str "up")) (K1 (JG K (qM 0) "pair") MD))) MD))) { nx:=fun _ H'=>Q .bJ H',rt:=Q } [some (.ref x)] (upd (upd H pa (.tup [.int p.1,.int p.2])) a (.ins C dx (eN "pair" (.ref pa) fs)))):=fun pa p Lb Z1=>by
    have s1:aI H (upd H pa (.tup [.int p.1,.int p.2])):=(aI.refl _).new Lb
    obtain ⟨h1,m1⟩:=h.grow (o:=.tup [.int p.1,.int p.2]) s1 Lb aB
    refine ⟨x,t.LinkEnd,dx,_,rfl,s1 _ _ hx,T.aJ,T.gC,by show 11 < 1000;decide,?_⟩
    rw [Ld]
    obtain ⟨h2,m2⟩:=h1.set (dx:=dx) (pv:=.ref pa) (L':={ L with p:=some p }) ⟨pa,rfl,aB⟩ rfl rfl
    have aB4:(upd B pa (.tup [.int p.1,.int p.2])) pa=some (.tup [.int p.1,.int p.2]):=aB
    have Xn:(upd (upd H pa (.tup [.int p.1,.int p.2])) x (.ins t.LinkEnd dx (cu L.q L.s L.d L.u L.b L.k (.ref pa) tA pA L.of L.tk))) x=some (.ins t.LinkEnd dx (cu L.q L.s L.d L.u L.b L.k (.ref pa) tA pA L.of L.tk)):=aB
    have h2:bO t.LinkEnd (upd B pa (.tup [.int p.1,.int p.2])) (upd (upd H pa (.tup [.int p.1,.int p.2])) x (.ins t.LinkEnd dx (cu L.q L.s L.d L.u L.b L.k (.ref pa) tA pA L.of L.tk))) x tA pA { L with p:=some p }:=h2
    have YV:jV B H (upd B pa (.tup [.int p.1,.int p.2])) (upd (upd H pa (.tup [.int p.1,.int p.2])) x (.ins t.LinkEnd dx (cu L.q L.s L.d L.u L.b L.k (.ref pa) tA pA L.of L.tk))) x tA pA tA pA:=m1.trans m2
    generalize upd (upd H pa (.tup [.int p.1,.int p.2])) x (.ins t.LinkEnd dx (cu L.q L.s L.d L.u L.b L.k (.ref pa) tA pA L.of L.tk))=H2 at *
    generalize upd B pa (.tup [.int p.1,.int p.2])=B2 at *
    obtain ⟨gO,g,g'⟩:=h2.told
    refine ⟨_,rfl,x,t.LinkEnd,dx,_,_,rfl,Xn,T.aJ,T.mI,wX,.inl ⟨rfl,_,aX.of g⟩,?_⟩
    refine ⟨_,rfl,x,t.LinkEnd,dx,_,_,rfl,Xn,T.aJ,T.gC,oJ,by show 2≤sizeLine;decide,fun ea Ju=>?_⟩
    refine ⟨tA,_,_,rfl,rfl,by rw [aD (aK g Ju)];exact g,by rw [aL];show L.ev.length < sizeLine;omega,?_⟩
    obtain ⟨h3,m3⟩:=h2.tell g g' Ju (PH (w:="up") (ns:=[]) (h2.sb.free Ju) aB4)
    refine q _ _ (YV.trans m3) ?_
    have e3:bY L={ L with p:=some p,ev:=L.ev ++ [.mk "up" p []] }:=by unfold bY;rw [ep,Z1]
    rw [e3]
    exact h3
   refine ⟨_,rfl,x,t.LinkEnd,dx,_,_,rfl,hx,T.aJ,T.LZ,VJ,rfl,_,rfl,?_⟩
   by_cases hs:L.s=0
   ·refine eP (by rw [hs]) ?_
    refine ⟨_,rfl,x,t.LinkEnd,dx,_,_,rfl,hx,T.aJ,T.lP,sM,_,rfl,x,t.LinkEnd,dx,_,_,rfl,hx,T.aJ,T.gB,pb,by show 2≤sizeLine;decide,fun pa Lb=>?_⟩
    exact ⟨_,rfl,main pa (L.b,L.k) Lb (by rw [if_pos hs])⟩
   ·refine dX (fun z=>hs (V.int.inj z)) ?_
    refine ⟨_,rfl,x,t.LinkEnd,dx,_,_,rfl,hx,T.aJ,T.gB,pb,_,rfl,x,t.LinkEnd,dx,_,_,rfl,hx,T.aJ,T.lP,sM,by show 2≤sizeLine;decide,fun pa Lb=>?_⟩
    exact ⟨_,rfl,main pa (L.k,L.b) Lb (by rw [if_neg hs])⟩
def kQ (C:Addr):Sp:=fun vs H Q _=>∃ (B:Hp) (x tA pA:Addr) (L:Lk),vs=[.ref x]∧bO C B H x tA pA L∧L.ev.length < 1000000∧∀ B' H' pB,jV B H B' H' x tA pA tA pB→bO C B' H' x tA pB (iG L)→Q .bJ H'
theorem xy:aQ ["self"] ["self"] (aH d9):=⟨rfl,rfl,rfl,by decide +kernel,rfl,by decide +kernel,by decide +kernel⟩
theorem x3 {fd Ht:FuncData} (T:Txt K mg t) (F:kL K "start_over" "LinkEnd.start_over" d9 t.f6 fd) (lW:bZ P w K mg base (i9 P w) 2 t.lO Ht ["self"] (tf t.LinkEnd)) (lX:Binds K Ht ["self"] []) :
  bZ P w K mg base (i9 P w) 3 t.f6 fd ["self"] (kQ t.LinkEnd)∧Binds K fd ["self"] []:=by
 refine ⟨F.qR xy (fun vs H Q E h=>?_) (fun f bo A outer s H vs Q E hr h=>?_),F.binds fun _ _ _ _ _ _ us hl=>match us,hl with | [_],_=>rfl⟩
 ·obtain ⟨B,x,tA,pA,L,rfl,_⟩:=h
  rfl
 ·obtain ⟨B,x,tA,pA,L,rfl,h,hlen,q⟩:=h
  refine ⟨_,aC (bD (aW pL (ao K (pv 0) (by rfl)) cK (aj _))
    (aC (ax (jM K PySem.F.plainAttrs_list PySem.F.slot_list_append PySem.F.type_list_append cP (ao K (pv 0) (by rfl)) (aA (bB (aA cZ (aA (ao K (pv 0) (by rfl)) (aA (aN bA (aN jK (ao K (pv 0) (by rfl)) (ao K (pv 0) (by rfl))) aF) (aA (ao K (pv 0) (by rfl)) aE))))) aE)))
    (aG (ax (dh (pv 0) T.aJ T.zM (lW.mono (by decide)) hr lX .nil ar))))
    (af))
   (aC (yo (pv 0) aF N0)
   (aG (cF K (pv 0) (aS T.pX) (by rfl)))),?_⟩
  have hsz:(1000001:Nat)≤sizeLine:=by decide
  obtain ⟨dx,pv,hx,hp⟩:=h.at_
  obtain ⟨tk,hNB⟩:=T.pX
  have last:∀ (B1 H1:Hp) (pB:Addr) (L1:Lk),jV B H B1 H1 x tA pA tA pB→bO t.LinkEnd B1 H1 x tA pB L1→{ L1 with b:=L1.b+1,k:=0 }=iG L→(Nw (zd K (qM 0) (tC (.int 1)) (QM fun i j=>.int (i+j)) "birth") (N9 K (qM 0) (tC (.int 0)) "known")) { nx:=fun _ H'=>Q .bJ H',rt:=Q } [some (.ref x)] H1:=fun B1 H1 pB L1 m1 h1 e1=>by
   obtain ⟨wb,Rn,xw,HY⟩:=h1.at_
   refine ⟨_,rfl,x,t.LinkEnd,wb,_,_,rfl,xw,T.aJ,T.lP,sM,_,_,rfl,rfl,wb,_,xw,by show 11 < 1000;decide,?_⟩
   rw [PB]
   refine ⟨_,rfl,x,t.LinkEnd,wb,_,rfl,aB,T.aJ,T.gB,by show 11 < 1000;decide,?_⟩
   rw [Ho,ir]
   obtain ⟨h2,m2⟩:=h1.set (dx:=wb) (pv:=Rn) (L':={ L1 with b:=L1.b+1,k:=0 }) HY rfl rfl
   exact q B1 _ pB (m1.trans m2) (by rw [← e1];exact h2)
  refine ⟨_,rfl,x,t.LinkEnd,dx,_,_,rfl,hx,T.aJ,T.gC,oJ,rfl,_,rfl,?_⟩
  cases ep:L.p with
  | none =>
   rw [ep] at hp
   have hp:pv=.bJ:=hp
   subst hp
   refine qC rfl ?_
   exact last B H pA L jV.refl h (by unfold iG;rw [ep])
  | some p =>
   rw [ep] at hp
   obtain ⟨pa,rfl,Lb⟩:=hp
   refine rY (fun z=>by cases z) ?_
   obtain ⟨gO,g,g'⟩:=h.told
   refine ⟨_,rfl,x,t.LinkEnd,dx,_,_,rfl,hx,T.aJ,T.mI,wX,.inl ⟨rfl,_,aX.of g⟩,?_⟩
   refine ⟨_,rfl,x,t.LinkEnd,dx,_,_,rfl,hx,T.aJ,T.gC,oJ,?_⟩
   refine ⟨_,rfl,x,t.LinkEnd,dx,_,_,rfl,hx,T.aJ,T.vT,Js,_,rfl,x,t.LinkEnd,dx,_,_,rfl,hx,T.aJ,T.wN,Lc,_,_,rfl,rfl,_,_,rfl,rfl,?_⟩
   refine ⟨_,rfl,x,t.LinkEnd,dx,_,_,rfl,hx,T.aJ,T.vT,Js,by show 4≤sizeLine;decide,fun ea Ju=>?_⟩
   refine ⟨tA,_,_,rfl,rfl,by rw [aD (aK g Ju)];exact g,by rw [aL];omega,?_⟩
   obtain ⟨h1,m1⟩:=h.tell g g' Ju (PH (w:="silent") (ns:=[L.d - L.q+1,L.d]) (h.sb.free Ju) Lb)
   obtain ⟨wb,Rn,xw,HY⟩:=h1.at_
   refine ⟨_,rfl,x,wb,_,rfl,xw,rfl,_,x,tA,pA,_,rfl,h1,fun B2 H2 pB m2 h2=>?_⟩
   exact last B2 H2 pB _ (m1.trans m2) h2 (by unfold iG VM;rw [ep])
end
end K31
namespace K31
open PySem L2 PyProof.Rows
section
variable {P:Program} {w:World} {K:PySem.W.Frag} {mg:Str→Option Value} {base:Heap} {t:Ad}
def qG (C:Addr):Sp:=fun vs H Q _=>∃ (B:Hp) (x tA pA:Addr) (L:Lk) (n:Int),vs=[.ref x,.int n]∧bO C B H x tA pA L∧∀ H',jV B H B H' x tA pA tA pA→bO C B H' x tA pA (cB L n)→Q .bJ H'
theorem M0 {n:Nat} {f:Nat→Addr}:(bK (n+1) f).eraseIdx 0=bK n (fun j=>f (j+1)):=by
 apply List.ext_getElem?
 intro j
 rw [List.getElem?_eraseIdx]
 by_cases hj:j < n
 ·rw [if_neg (by omega),b9 (f:=fun j=>V.ref (f j)) (show j+1 < n+1 by omega),b9 (f:=fun j=>V.ref (f (j+1))) hj]
 ·rw [if_neg (by omega),List.getElem?_eq_none (by rw [aL];omega),List.getElem?_eq_none (by rw [aL];omega)]
theorem qH:aQ ["self","count","following"] ["self","count"] (aH eC):=⟨rfl,rfl,rfl,by decide +kernel,rfl,by decide +kernel,by decide +kernel⟩
theorem x4 {fd:FuncData} (T:Txt K mg t) (F:kL K "hear_count" "LinkEnd.hear_count" eC t.f7 fd) :
  bZ P w K mg base (i9 P w) 1 t.f7 fd ["self","count"] (qG t.LinkEnd)∧Binds K fd ["self","count"] []:=by
 refine ⟨F.qR qH (fun vs H Q E h=>?_) (fun f bo A outer s H vs Q E hr h=>?_),F.binds fun _ _ _ _ _ _ us hl=>match us,hl with | [_,_],_=>rfl⟩
 ·obtain ⟨B,x,tA,pA,L,n,rfl,_⟩:=h
  rfl
 ·obtain ⟨B,x,tA,pA,L,n,rfl,h,q⟩:=h
  refine ⟨_,aC (aT (i:=2) qH.nd rfl (Or.inl rfl) (aN aw (aN bA (ao K (pv 0) (by rfl)) aF) (aS T.cO)))
   (aG (bD (PW.pt (sx (rS (ao K (pv 0) (by rfl)) (fun _=>rfl)) (pK (aW jL (pv 1) (pv 2) (aj _)))))
    (aC (ax (jM K PySem.F.plainAttrs_list PySem.F.slot_list_pop PySem.F.type_list_pop OG (ao K (pv 0) (by rfl)) (aA aF aE)))
    (aG (cF K (pv 0) (pv 2) (by rfl))))
    (af))),?_⟩
  obtain ⟨dx,pv,hx,hp⟩:=h.at_
  obtain ⟨dt,g3,vU⟩:=h.bS
  refine ⟨_,rfl,x,t.LinkEnd,dx,_,_,rfl,hx,T.aJ,T.mJ,zQ,_,_,rfl,rfl,_,_,rfl,rfl,(by show (0:Int) < 97;decide),?_⟩
  refine ⟨_,rfl,x,t.LinkEnd,dx,_,_,rfl,hx,T.aJ,T.gX,lV,_,.inl ⟨_,aX.of g3,rfl⟩,?_⟩
  cases ep:L.bS with
  | nil =>
   rw [ep] at g3
   refine di (di (q H jV.refl ?_))
   unfold cB
   rw [if_neg (fun z=>z.1 ep)];exact h
  | cons a r =>
   rw [ep] at g3 vU
   have QO:(!(bK (a :: r).length dt).isEmpty)=true:=by
    have hl:(bK (a :: r).length dt).length=r.length+1:=aL _ _
    cases e:bK (a :: r).length dt with
    | nil=>rw [e] at hl;cases hl
    | cons u v=>rfl
   rw [QO]
   refine fe ?_
   refine ⟨_,rfl,_,rfl,rfl,_,rfl,?_⟩
   by_cases hc:n=(L.of+1) % 97
   ·refine eP (by show V.int n=V.int ((L.of+1) % 97);rw [hc]) ?_
    refine ⟨_,rfl,x,t.LinkEnd,dx,_,_,rfl,hx,T.aJ,T.gX,lV,.inl ⟨rfl,_,aX.of g3⟩,pA,_,0,0,_,rfl,rfl,g3,by decide,by decide,by rw [aL,List.length_cons];unfold seqIndex?;simp,b9 (f:=fun j=>V.ref (dt j)) (Nat.succ_pos _),?_⟩
    have e0:(bK (a :: r).length dt).eraseIdx 0=bK r.length (fun j=>dt (j+1)):=M0
    rw [e0]
    have Rk:=h.xp
    refine ⟨_,rfl,_,rfl,x,t.LinkEnd,dx,_,rfl,by rw [aD Rk];exact hx,T.aJ,T.mJ,by show 11 < 1000;decide,?_⟩
    rw [wY]
    have e1:cB L n={ L with bS:=r,of:=(L.of+1) % 97 }:=by
     unfold cB
     rw [if_pos ⟨(by rw [ep];exact fun z=>by cases z),hc⟩,ep]
     rfl
    obtain ⟨gO,g2,Hs⟩:=h.told
    refine q _ ⟨aI.refl _,fun _ _ z=>z,fun y o n1 n2 n3 e=>by rw [aD n1,aD n3];exact e,fun b hb=>dm (dm hb (by rw [aD Rk];exact h.hx)) h.hp,.inl rfl,.inl rfl⟩ ?_
    rw [e1]
    exact ⟨(h.sb.put h.bp).put h.bx,h.bx,h.bt,h.bp,⟨dx,pv,aB,hp⟩,⟨gO,by rw [aD (Ne.symm h.xt),aD h.ne];exact g2,Hs⟩,⟨fun j=>dt (j+1),by rw [aD (Ne.symm Rk)];exact aB,fun y xs hy=>vU (y+1) xs hy⟩,h.ne⟩
   ·refine dX (fun z=>hc (V.int.inj z)) (q H jV.refl ?_)
    unfold cB
    rw [if_neg (fun z=>hc z.2)];exact h
def qI (C:Addr):Sp:=fun vs H Q _=>∃ (B:Hp) (x tA pA l:Addr) (L:Lk) (n:Int) (xs:List Int),vs=[.ref x,.int n,.ref l]∧bO C B H x tA pA L∧L.ev.length < 1000000∧B l=some (.lst (xs.map V.int))∧∀ B' H',jV B H B' H' x tA pA tA pA→bO C B' H' x tA pA (dP L n xs)→Q .bJ H'
theorem x5:aQ ["self","number","piece"] ["self","number","piece"] (aH eF):=⟨rfl,rfl,rfl,by decide +kernel,rfl,by decide +kernel,by decide +kernel⟩
theorem x6 {fd:FuncData} (T:Txt K mg t) (F:kL K "take_piece" "LinkEnd.take_piece" eF t.f9 fd) :
  bZ P w K mg base (i9 P w) 1 t.f9 fd ["self","number","piece"] (qI t.LinkEnd)∧Binds K fd ["self","number","piece"] []:=by
 refine ⟨F.qR x5 (fun vs H Q E h=>?_) (fun f bo A outer s H vs Q E hr h=>?_),F.binds fun _ _ _ _ _ _ us hl=>match us,hl with | [_,_,_],_=>rfl⟩
 ·obtain ⟨B,x,tA,pA,l,L,n,xs,rfl,_⟩:=h
  rfl
 ·obtain ⟨B,x,tA,pA,l,L,n,xs,rfl,h,hlen,hl,q⟩:=h
  refine ⟨_,aG (bD (PW.pt (sx (rS (pv 2) (fun _=>rfl)) (pK (aW jL (pv 1) (ao K (pv 0) (by rfl)) (aj _)))))
    (aC (ax (jM K PySem.F.plainAttrs_list PySem.F.slot_list_append PySem.F.type_list_append cP (ao K (pv 0) (by rfl)) (aA (bB (aA cZ (aA (pv 2) aE))) aE)))
    (aG (cF K (pv 0) (aN aw (aN bA (ao K (pv 0) (by rfl)) aF) (aS T.cO)) (by rfl))))
    (af)),?_⟩
  have hsz:(1000001:Nat)≤sizeLine:=by decide
  obtain ⟨dx,pv,hx,hp⟩:=h.at_
  obtain ⟨gO,g,g'⟩:=h.told
  refine ⟨_,rfl,_,.inl ⟨_,aX.of (h.sb _ _ hl),rfl⟩,?_⟩
  cases xs with
  | nil =>
   refine di (di (q B H jV.refl ?_))
   unfold dP
   rw [if_neg (fun z=>z.1 rfl)];exact h
  | cons a r =>
   have QO:(!((a :: r).map V.int).isEmpty)=true:=rfl
   rw [QO]
   refine fe ?_
   refine ⟨_,rfl,_,rfl,x,t.LinkEnd,dx,_,_,rfl,hx,T.aJ,T.n9,AV,rfl,_,rfl,?_⟩
   by_cases hc:n=L.tk
   ·refine eP (by rw [hc]) ?_
    refine ⟨_,rfl,x,t.LinkEnd,dx,_,_,rfl,hx,T.aJ,T.mI,wX,.inl ⟨rfl,_,aX.of g⟩,?_⟩
    refine ⟨_,rfl,by show 2≤sizeLine;decide,fun ea Ju=>?_⟩
    refine ⟨tA,_,_,rfl,rfl,by rw [aD (aK g Ju)];exact g,by rw [aL];omega,?_⟩
    obtain ⟨h1,m1⟩:=h.tell g g' Ju (Rj (h.sb.free Ju) hl)
    obtain ⟨wb,Rn,xw,HY⟩:=h1.at_
    refine ⟨_,rfl,x,t.LinkEnd,wb,_,_,rfl,xw,T.aJ,T.n9,AV,_,_,rfl,rfl,_,_,rfl,rfl,(by show (0:Int) < 97;decide),?_⟩
    refine ⟨_,rfl,x,t.LinkEnd,wb,_,rfl,xw,T.aJ,T.n9,by show 11 < 1000;decide,?_⟩
    rw [Hq]
    obtain ⟨h2,m2⟩:=h1.set (dx:=wb) (pv:=Rn) (L':={ L with ev:=L.ev ++ [.took (a :: r)],tk:=(L.tk+1) % 97 }) HY rfl rfl
    refine q _ _ (m1.trans m2) ?_
    unfold dP
    rw [if_pos ⟨(fun z=>by cases z),hc⟩]
    exact h2
   ·refine dX (fun z=>hc (V.int.inj z)) (q B H jV.refl ?_)
    unfold dP
    rw [if_neg (fun z=>hc z.2)];exact h
def Tf (C:Addr):Sp:=fun vs H Q _=>∃ (B:Hp) (x tA pA:Addr) (L:Lk),vs=[.ref x]∧bO C B H x tA pA L∧∀ pv,fV B pv L.p→Q pv H
theorem YW:aQ ["self"] ["self"] (aH Mm):=⟨rfl,rfl,rfl,by decide +kernel,rfl,by decide +kernel,by decide +kernel⟩
theorem YX {fd:FuncData} (T:Txt K mg t) (F:kL K "up" "LinkEnd.up" Mm t.O2 fd) :
  bZ P w K mg base (i9 P w) 1 t.O2 fd ["self"] (Tf t.LinkEnd)∧Binds K fd ["self"] []:=by
 refine ⟨F.qR YW (fun vs H Q E h=>?_) (fun f bo A outer s H vs Q E hr h=>?_),F.binds fun _ _ _ _ _ _ us hl=>match us,hl with | [_],_=>rfl⟩
 ·obtain ⟨B,x,tA,pA,L,rfl,_⟩:=h
  rfl
 ·obtain ⟨B,x,tA,pA,L,rfl,h,q⟩:=h
  refine ⟨_,aG (aV (ao K (pv 0) (by rfl))),?_⟩
  obtain ⟨dx,pv,hx,hp⟩:=h.at_
  exact ⟨_,rfl,x,t.LinkEnd,dx,_,_,rfl,hx,T.aJ,T.gC,oJ,q pv hp⟩
def wd (C:Addr):Sp:=fun vs H Q _=>∃ (B:Hp) (x tA pA:Addr) (L:Lk),vs=[.ref x]∧bO C B H x tA pA L∧Q (.int (L.bS.length:Nat)) H
theorem PK:aQ ["self"] ["self"] (aH pV):=⟨rfl,rfl,rfl,by decide +kernel,rfl,by decide +kernel,by decide +kernel⟩
theorem PL {fd:FuncData} (T:Txt K mg t) (F:kL K "waits" "LinkEnd.waits" pV t.pW fd) :
  bZ P w K mg base (i9 P w) 1 t.pW fd ["self"] (wd t.LinkEnd)∧Binds K fd ["self"] []:=by
 refine ⟨F.qR PK (fun vs H Q E h=>?_) (fun f bo A outer s H vs Q E hr h=>?_),F.binds fun _ _ _ _ _ _ us hl=>match us,hl with | [_],_=>rfl⟩
 ·obtain ⟨B,x,tA,pA,L,rfl,_⟩:=h
  rfl
 ·obtain ⟨B,x,tA,pA,L,rfl,h,q⟩:=h
  refine ⟨_,aG (aV (bP (bQ K) (by rfl) T.iE boot_len (aA (ao K (pv 0) (by rfl)) aE))),?_⟩
  obtain ⟨dx,pv,hx,hp⟩:=h.at_
  obtain ⟨dt,g3,vU⟩:=h.bS
  refine ⟨_,rfl,x,t.LinkEnd,dx,_,_,rfl,hx,T.aJ,T.gX,lV,pA,_,rfl,.inl (aX.of g3),?_⟩
  rw [aL]
  exact q
def zS (C:Addr):Sp:=fun vs H Q _=>∃ (B:Hp) (x tA pA:Addr) (L:Lk),vs=[.ref x]∧bO C B H x tA pA L∧∀ H' tB,jV B H B H' x tA pA tB pA→tB≠tA→bO C B H' x tB pA { L with ev:=[] }→PD B H' tA L.ev→Q (.ref tA) H'
theorem zT:aQ ["self","told"] ["self"] (aH lM):=⟨rfl,rfl,rfl,by decide +kernel,rfl,by decide +kernel,by decide +kernel⟩
theorem M3 {fd:FuncData} (T:Txt K mg t) (F:kL K "events" "LinkEnd.events" lM t.n6 fd) :
  bZ P w K mg base (i9 P w) 1 t.n6 fd ["self"] (zS t.LinkEnd)∧Binds K fd ["self"] []:=by
 refine ⟨F.qR zT (fun vs H Q E h=>?_) (fun f bo A outer s H vs Q E hr h=>?_),F.binds fun _ _ _ _ _ _ us hl=>match us,hl with | [_],_=>rfl⟩
 ·obtain ⟨B,x,tA,pA,L,rfl,_⟩:=h
  rfl
 ·obtain ⟨B,x,tA,pA,L,rfl,h,q⟩:=h
  refine ⟨_,aC (aT (i:=1) zT.nd rfl (Or.inl rfl) (ao K (pv 0) (by rfl)))
   (aC (cF K (pv 0) (bF aE) (by rfl))
   (aG (aV (pv 1)))),?_⟩
  obtain ⟨dx,pv,hx,hp⟩:=h.at_
  obtain ⟨dt,g3,vU⟩:=h.bS
  obtain ⟨gO,g2,Hs⟩:=h.told
  refine ⟨_,rfl,x,t.LinkEnd,dx,_,_,rfl,hx,T.aJ,T.mI,wX,?_⟩
  refine ⟨by show 0≤sizeLine;decide,fun tB WY=>?_⟩
  have s1:aI H (upd H tB (.lst [])):=(aI.refl _).new WY
  have h1:=h.same s1
  have VN:x≠tB:=fun z=>h.hx (by rw [z];exact WY)
  have npt:pA≠tB:=fun z=>h.hp (by rw [z];exact WY)
  have ntt:tA≠tB:=fun z=>h.ht (by rw [z];exact WY)
  refine ⟨_,rfl,x,t.LinkEnd,dx,_,rfl,s1 _ _ hx,T.aJ,T.mI,by show 11 < 1000;decide,?_⟩
  rw [Ri]
  exact ⟨_,rfl,q _ tB ⟨aI.refl _,fun _ _ z=>z,fun y o n1 n2 n3 e=>by rw [aD n1];exact s1 _ _ e,fun b hb=>s1.free (dm hb h1.hx),.inr WY,.inl rfl⟩ (Ne.symm ntt) ⟨h1.sb.put h.bx,h.bx,h.sb.free WY,h.bp,⟨dx,pv,aB,hp⟩,⟨fun _=>0,by rw [aD (Ne.symm VN)];exact aB,fun y e he=>by cases he⟩,⟨dt,by rw [aD (Ne.symm h.xp)];exact s1 _ _ g3,vU⟩,Ne.symm npt⟩ ⟨gO,by rw [aD (Ne.symm h.xt)];exact s1 _ _ g2,Hs⟩⟩
end
end K31
namespace K31
open PySem L2 PyProof.Rows
section
variable {P:Program} {w:World} {K:PySem.W.Frag} {mg:Str→Option Value} {base:Heap} {t:Ad}
def Dj (b:Int):Prop:=0≤b∧b < 9409
def Nn (n:Int):Prop:=0≤n∧n < 97
structure jW (a:Cl):Prop where
 b:Dj a.b
 k:Dj a.k
 n:Nn a.n
 c:Nn a.c
 l:a.xs.length≤10
 x:∀ v ∈ a.xs,Nn v
def x8 (a:Cl):List Int:=[a.b / 97,a.b % 97,a.k / 97,a.k % 97,a.n,a.c,(a.xs.length:Int)] ++ a.xs
def uw (a:Cl) (i:Nat):Int:=(x8 a).getD i 0
theorem Ro {a:Cl} (h:jW a):∀ v ∈ x8 a,Nn v:=by
 intro v hv
 obtain ⟨b0,b1⟩:=h.b
 obtain ⟨k0,k1⟩:=h.k
 have hl:=h.l
 unfold x8 at hv
 rcases List.mem_append.mp hv with z | z
 ·simp only [List.mem_cons,List.not_mem_nil,or_false] at z
  rcases z with rfl | rfl | rfl | rfl | rfl | rfl | rfl
  ·exact ⟨by omega,by omega⟩
  ·exact ⟨by omega,by omega⟩
  ·exact ⟨by omega,by omega⟩
  ·exact ⟨by omega,by omega⟩
  ·exact h.n
  ·exact h.c
  ·exact ⟨by omega,by omega⟩
 ·exact h.x v z
theorem Hv {a:Cl} (h:jW a):IsCell 18 (uw a):=by
 refine ⟨fun i _=>?_⟩
 unfold uw
 rw [List.getD_eq_getElem?_getD]
 cases e:(x8 a)[i]? with
 | none=>exact ⟨by decide,by decide⟩
 | some v=>exact Ro h v (List.mem_of_getElem? e)
theorem Rp (a:Cl) (i:Nat):uw a (7+i)=a.xs.getD i 0:=by
 unfold uw x8
 rw [Nat.add_comm]
 rfl
abbrev ay (a:Cl):Nat→Int:=My.lI (uw a)
theorem M4 {a:Cl} {i:Nat} (h:i < 18):ay a i=uw a i:=by unfold ay My.lI;rw [if_pos h]
theorem Hw {a:Cl} (h:jW a):IsCell 24 (ay a):=⟨fun i _=>My.RH (Hv h).b i⟩
theorem Rq (a:Cl):ay a 0 * 97+ay a 1=a.b:=by
 show a.b / 97 * 97+a.b % 97=a.b
 omega
theorem Rr (a:Cl):ay a 2 * 97+ay a 3=a.k:=by
 show a.k / 97 * 97+a.k % 97=a.k
 omega
theorem M5 {a:Cl} (h:jW a):fc (tabI 24 (ay a)) (some 7) (some (7+ay a 6))=a.xs.map V.int:=by
 have hl:=h.l
 have e6:ay a 6=(a.xs.length:Int):=rfl
 have:=vP (f:=fun j=>V.int (ay a j)) (n:=24) (lo:=7) (hi:=7+a.xs.length) (by omega) (by omega)
 rw [e6]
 rw [show ((7+a.xs.length:Nat):Int)=7+(a.xs.length:Int) by omega] at this
 refine this.trans ?_
 rw [OW,show 7+a.xs.length - 7=a.xs.length by omega]
 refine bW fun i hi=>?_
 rw [M4 (by omega),Rp]
theorem PM (ns:List Int) (h:ns.length≤18):ns.map V.int ++ (List.replicate (18 - ns.length) [V.int 0]).flatten=tabI 18 (fun i=>ns.getD i 0):=by
 rw [List.flatten_replicate_singleton]
 apply List.ext_getElem?
 intro j
 by_cases hj:j < 18
 ·rw [b9 (f:=fun i=>V.int (ns.getD i 0)) hj,List.getD_eq_getElem?_getD]
  by_cases hn:j < ns.length
  ·rw [List.getElem?_append_left (by rw [List.length_map];exact hn),List.getElem?_map]
   cases e:ns[j]? with
   | none=>rw [List.getElem?_eq_none_iff] at e;omega
   | some v=>rfl
  ·rw [List.getElem?_append_right (by rw [List.length_map];omega),List.length_map,List.getElem?_replicate,if_pos (by omega),List.getElem?_eq_none (by omega)]
   rfl
 ·rw [List.getElem?_eq_none (by rw [List.length_append,List.length_map,List.length_replicate];omega),List.getElem?_eq_none (by rw [aL];omega)]
theorem Lg {n:Int}:(My.low (2:Int).toNat n).reverse=[n / 97 % 97,n % 97]:=rfl
theorem Hx {n:Int} (h:Dj n):My.rest (2:Int).toNat n=0:=by
 show n / 97 / 97=0
 obtain ⟨h0,h1⟩:=h
 omega
theorem Hy (a b:Int):My.told [a,b]=a * 97+b:=by
 show (0 * 97+a) * 97+b=_
 omega
theorem tj {n:Int} (h:Dj n):n.natAbs < 2 ^ 1000:=by
 have:n.natAbs < 9409:=by obtain ⟨h0,h1⟩:=h;omega
 exact Nat.lt_of_lt_of_le this (by decide)
theorem wg {n:Int} (h:0≤n∧n < 97):n.natAbs < 2 ^ 1000:=tj ⟨h.1,by omega⟩
theorem Hz (L:Lk) (n:Int):(bL L n).ev.length≤L.ev.length+1:=by
 unfold bL
 cases L.p with
 | none=>exact Nat.le_succ _
 | some p =>
  simp only
  split
  ·show (L.ev ++ [_]).length≤_
   rw [List.length_append];exact Nat.le_refl _
  ·exact Nat.le_succ _
theorem IA (L:Lk):(bY L).ev.length≤L.ev.length+1:=by
 unfold bY
 cases L.p with
 | none=>show (L.ev ++ [_]).length≤_;rw [List.length_append];exact Nat.le_refl _
 | some p=>exact Nat.le_succ _
theorem Lh (L:Lk) (c:Int):(cB L c).ev=L.ev:=by unfold cB;split <;> rfl
def Li (C:Addr):Sp:=fun vs H Q _=>∃ (B:Hp) (x tA pA l:Addr) (L:Lk) (a:Cl),vs=[.ref x,.ref l]∧bO C B H x tA pA L∧L.ev.length < 900000∧H l=some (.lst (tabI 24 (ay a)))∧jW a∧l≠tA∧l≠pA ∧
 ∀ B' H' pB,jV B H B' H' x tA pA tA pB→bO C B' H' x tA pB (cq L a)→Q .bJ H'
theorem Lj:aQ ["self","cell","birth"] ["self","cell"] (aH tR):=⟨rfl,rfl,rfl,by decide +kernel,rfl,by decide +kernel,by decide +kernel⟩
theorem Rt {fd Ht YY YZ fd4:FuncData} (T:Txt K mg t) (F:kL K "read" "LinkEnd.read" tR t.wF fd) (gE:Def P w K mg base 3 "signs_number" ["signs"] (nM K t.BadSign))
  (Jx:bZ P w K mg base (i9 P w) 3 t.wG Ht ["self","birth"] (Le t.LinkEnd)) (Jy:Binds K Ht ["self","birth"] []) (tm:bZ P w K mg base (i9 P w) 1 t.lN YY ["self"] (wc t.LinkEnd)) (tu:Binds K YY ["self"] [])
  (mP:bZ P w K mg base (i9 P w) 1 t.f7 YZ ["self","count"] (qG t.LinkEnd)) (mQ:Binds K YZ ["self","count"] []) (mR:bZ P w K mg base (i9 P w) 1 t.f9 fd4 ["self","number","piece"] (qI t.LinkEnd)) (mS:Binds K fd4 ["self","number","piece"] []) :
  bZ P w K mg base (i9 P w) 4 t.wF fd ["self","cell"] (Li t.LinkEnd)∧Binds K fd ["self","cell"] []:=by
 refine ⟨F.qR Lj (fun vs H Q E h=>?_) (fun f bo A outer s H vs Q E hr h=>?_),F.binds fun _ _ _ _ _ _ us hl=>match us,hl with | [_,_],_=>rfl⟩
 ·obtain ⟨B,x,tA,pA,l,L,a,rfl,_⟩:=h
  rfl
 ·obtain ⟨B,x,tA,pA,l,L,a,rfl,h,hlen,hl,ga,n1,n2,q⟩:=h
  refine ⟨_,aC (aT (i:=2) Lj.nd rfl (Or.inl rfl) (aZ (gE.mono (by decide)) hr ar (aA (iB (iC K) (pv 1) rV (fb (aS T.zI))) aE)))
   (aC (bD (aW jy (pv 2) (ao K (pv 0) (by rfl)) (aj _))
    (aG (Qd))
    (af))
   (aC (ax (pN (pv 0) T.aJ T.RU (Jx.mono (by decide)) hr Jy .nil ar (aA (pv 2) aE)))
   (aG (bD (aW jL (aZ (gE.mono (by decide)) hr ar (aA (iB (iC K) (pv 1) (fb (aS T.zI)) (fb (aS T.wJ))) aE)) (ao K (pv 0) (by rfl)) (aj _))
    (aC (ax (dh (pv 0) T.aJ T.Jh (tm.mono (by decide)) hr tu .nil ar))
    (aC (ax (pN (pv 0) T.aJ T.xr (mP.mono (by decide)) hr mQ .nil ar (aA (aR (aM K) (pv 1) (aS T.Mn) (fun _ _=>rfl)) aE)))
    (aG (ax (pN (pv 0) T.aJ T.xu (mR.mono (by decide)) hr mS .nil ar (aA (aR (aM K) (pv 1) (aS T.wJ) (fun _ _=>rfl)) (aA (iB (iC K) (pv 1) (fb (aS T.zJ)) (fb (aN bA (aS T.zJ) (aR (aM K) (pv 1) (aS T.Jg) (fun _ _=>rfl))))) aE)))))))
    (af))))),?_⟩
  have sg:∀ i,i < 24→0≤ay a i∧ay a i < 97:=(Hw ga).b
  have two:∀ {a b:Int},(0≤a∧a < 97)→(0≤b∧b < 97)→∀ n ∈ [a,b],0≤n∧n < 97:=fun {a b} ha hb n hn=>by
   rcases List.mem_cons.mp hn with rfl | hn
   ·exact ha
   ·rw [List.mem_singleton.mp hn];exact hb
  have nxl:l≠x:=fun z=>by obtain ⟨_,_,gx,_⟩:=h.at_;rw [z,gx] at hl;cases hl
  refine ⟨_,rfl,_,rfl,l,_,rfl,aX.of hl,fun p1 HY=>?_⟩
  have ec:fc (tabI 24 (ay a)) none (some 2)=[ay a 0,ay a 1].map V.int:=qQ (f:=fun j=>V.int (ay a j)) (n:=24) (hi:=2) (by decide)
  rw [ec]
  have s1:aI H (upd H p1 (.lst ([ay a 0,ay a 1].map V.int))):=(aI.refl _).new HY
  have WX:=two (sg 0 (by decide)) (sg 1 (by decide))
  refine ⟨p1,[ay a 0,ay a 1],rfl,aX.of aB,fun n hn=>wg (WX n hn),fun _=>?_,fun n hn z=>absurd (WX n hn) z⟩
  generalize upd H p1 (.lst ([ay a 0,ay a 1].map V.int))=H1 at *
  rw [Hy,Rq]
  have h1:=h.same s1
  have m1:jV B H B H1 x tA pA tA pA:=jV.of_same s1
  obtain ⟨dx,pv,hx,hp⟩:=h1.at_
  refine ⟨_,rfl,_,rfl,x,t.LinkEnd,dx,_,_,rfl,hx,T.aJ,T.gB,pb,_,_,rfl,rfl,_,rfl,?_⟩
  unfold cq at q
  by_cases hk:a.b < L.k
  ·rw [if_pos hk] at q
   exact eP hk (q B H1 pA m1 h1)
  ·rw [if_neg hk] at q
   refine dX hk ?_
   refine ⟨_,rfl,x,dx,_,rfl,hx,rfl,_,rfl,B,x,tA,pA,L,_,rfl,h1,by omega,fun B2 H2 pB m2 h2=>?_⟩
   have YV:=m1.trans m2
   have Ya:H2 l=some (.lst (tabI 24 (ay a))):=YV.k l _ nxl n1 n2 hl
   have nlp:l≠pB:=by
    rcases YV.p with z | z
    ·rw [z];exact n2
    ·exact aK hl z
   have hml:=Hz L a.b
   generalize bL L a.b=L2 at *
   refine ⟨_,rfl,_,rfl,_,rfl,l,_,rfl,aX.of Ya,fun p3 Mq=>?_⟩
   have ec2:fc (tabI 24 (ay a)) (some 2) (some 4)=[ay a 2,ay a 3].map V.int:=vP (f:=fun j=>V.int (ay a j)) (n:=24) (lo:=2) (hi:=4) (by decide) (by decide)
   rw [ec2]
   have s3:aI H2 (upd H2 p3 (.lst ([ay a 2,ay a 3].map V.int))):=(aI.refl _).new Mq
   have YR:=two (sg 2 (by decide)) (sg 3 (by decide))
   refine ⟨p3,[ay a 2,ay a 3],rfl,aX.of aB,fun n hn=>wg (YR n hn),fun _=>?_,fun n hn z=>absurd (YR n hn) z⟩
   generalize upd H2 p3 (.lst ([ay a 2,ay a 3].map V.int))=H3 at *
   rw [Hy,Rr]
   have h3:=h2.same s3
   have Z2:=YV.same s3
   have hl3:=s3 _ _ Ya
   obtain ⟨Ru,WZ,VO,aFS⟩:=h3.at_
   refine ⟨_,rfl,x,t.LinkEnd,Ru,_,_,rfl,VO,T.aJ,T.lP,sM,rfl,_,rfl,?_⟩
   by_cases ho:a.k=L2.b
   ·rw [if_pos ho] at q
    refine eP (by rw [ho]) ?_
    refine ⟨_,rfl,x,Ru,_,rfl,VO,rfl,B2,x,tA,pB,L2,rfl,h3,by omega,fun B4 H4 m4 h4=>?_⟩
    have hl4:H4 l=some (.lst (tabI 24 (ay a))):=m4.k l _ nxl n1 nlp hl3
    obtain ⟨Wa,pv4,Wb,_⟩:=h4.at_
    have Yb:=Z2.trans m4
    refine ⟨_,rfl,x,Wa,_,rfl,Wb,rfl,_,rfl,l,_,_,_,rfl,rfl,aX.of hl4,rfl,B4,x,tA,pB,_,a.c,rfl,h4,fun H5 m5 h5=>?_⟩
    have hl5:H5 l=some (.lst (tabI 24 (ay a))):=m5.k l _ nxl n1 nlp hl4
    obtain ⟨QS,Wc,Wd,_⟩:=h5.at_
    have m05:=Yb.trans m5
    refine ⟨_,rfl,x,QS,_,rfl,Wd,rfl,_,rfl,l,_,_,_,rfl,rfl,aX.of hl5,rfl,?_⟩
    refine ⟨_,rfl,_,rfl,_,rfl,l,_,_,_,rfl,rfl,aX.of hl5,rfl,_,_,rfl,rfl,_,rfl,l,_,rfl,aX.of hl5,fun p6 WW=>?_⟩
    have ec3:fc (tabI 24 (ay a)) (some 7) (some (7+ay a 6))=a.xs.map V.int:=M5 ga
    have s6:aI H5 (upd H5 p6 (.lst (fc (tabI 24 (ay a)) (some 7) (some (7+ay a 6))))):=(aI.refl _).new WW
    obtain ⟨h6,m6⟩:=h5.grow (o:=.lst (fc (tabI 24 (ay a)) (some 7) (some (7+ay a 6)))) s6 WW aB
    have QP:=IA L2
    refine ⟨_,x,tA,pB,p6,_,a.n,a.xs,rfl,h6,by rw [Lh];omega,by rw [aB,ec3],fun B7 H7 m7 h7=>?_⟩
    exact q B7 H7 pB ((m05.trans m6).trans m7) h7
   ·rw [if_neg ho] at q
    refine dX (fun z=>ho (V.int.inj z)) ?_
    exact q B2 H3 pB Z2 h3
def PN (L:Lk):Prop:=jW (el L)
def kR (C:Addr):Sp:=fun vs H Q _=>∃ (B:Hp) (x tA pA:Addr) (L:Lk),vs=[.ref x]∧bO C B H x tA pA L∧PN L∧∀ p H',H p=none→aI H H'→H' p=some (.lst (tabI 24 (ay (el L))))→Q (.ref p) H'
theorem h9:aQ ["self","piece","births","signs"] ["self"] (aH dy):=⟨rfl,rfl,rfl,by decide +kernel,rfl,by decide +kernel,by decide +kernel⟩
set_option maxHeartbeats 1000000 in
theorem x9 {fd:FuncData} (T:Txt K mg t) (F:kL K "cell_given" "LinkEnd.cell_given" dy t.fz fd) (gF:Def P w K mg base 1 "number_signs" ["number","many"] (nL t.BadSign)) (wj:Def P w K mg base 3 "sealed" ["signs"] (zN K)) :
  bZ P w K mg base (i9 P w) 4 t.fz fd ["self"] (kR t.LinkEnd)∧Binds K fd ["self"] []:=by
 refine ⟨F.qR h9 (fun vs H Q E h=>?_) (fun f bo A outer s H vs Q E hr h=>?_),F.binds fun _ _ _ _ _ _ us hl=>match us,hl with | [_],_=>rfl⟩
 ·obtain ⟨B,x,tA,pA,L,rfl,_⟩:=h
  rfl
 ·obtain ⟨B,x,tA,pA,L,rfl,h,gl,q⟩:=h
  refine ⟨_,aC (tL (aT (i:=1) h9.nd rfl (Or.inl rfl) (nW (rS (ao K (pv 0) (by rfl)) (fun _=>rfl)) (aR (aM K) (ao K (pv 0) (by rfl)) aF (fun _ _=>rfl)) (bF aE))))
   (aC (aT (i:=2) h9.nd rfl (Or.inl rfl) (aN (mC K) (aZ (gF.mono (by decide)) hr ar (aA (ao K (pv 0) (by rfl)) (aA (aS T.sD) aE))) (aZ (gF.mono (by decide)) hr ar (aA (ao K (pv 0) (by rfl)) (aA (aS T.sD) aE)))))
   (aC (aT (i:=3) h9.nd rfl (Or.inl rfl) (aN (mC K) (aN (mC K) (pv 2) (bF (aA (ao K (pv 0) (by rfl)) (aA (ao K (pv 0) (by rfl)) (aA (bP (bQ K) (by rfl) T.iE boot_len (aA (pv 1) aE)) aE))))) (pv 1)))
   (aG (aV (aZ (wj.mono (by decide)) hr (lG bC) (aA (aN (mC K) (pv 3) (aN zu (bF (aA aF aE)) (aN jK (aS T.sE) (bP (bQ K) (by rfl) T.iE boot_len (aA (pv 3) aE))))) aE)))))),?_⟩
  have hsz:(1000001:Nat)≤sizeLine:=by decide
  obtain ⟨dx,pv,hx,_⟩:=h.at_
  obtain ⟨dt,g3,vU⟩:=h.bS
  refine ⟨fun σ H0=>∃ p0,σ=[some (.ref x),some (.ref p0),none,none]∧aI H H0∧H0 p0=some (.lst ((L.bS.headD []).map V.int)),?_,?_⟩
  ·refine ⟨_,rfl,x,t.LinkEnd,dx,_,_,rfl,hx,T.aJ,T.gX,lV,_,.inl ⟨_,aX.of g3,rfl⟩,?_⟩
   cases ep:L.bS with
   | nil =>
    rw [ep] at g3
    refine di ⟨by show 0≤sizeLine;decide,fun p0 VP=>⟨p0,rfl,(aI.refl _).new VP,aB⟩⟩
   | cons a r =>
    rw [ep] at g3 vU
    have QO:(!(bK (a :: r).length dt).isEmpty)=true:=by
     have hl:(bK (a :: r).length dt).length=r.length+1:=aL _ _
     cases e:bK (a :: r).length dt with
     | nil=>rw [e] at hl;cases hl
     | cons u v=>rfl
    rw [QO]
    refine fe ⟨_,rfl,x,t.LinkEnd,dx,_,_,rfl,hx,T.aJ,T.gX,lV,pA,_,_,_,rfl,rfl,aX.of g3,iw (b9 (f:=fun j=>V.ref (dt j)) (Nat.succ_pos _)),?_⟩
    exact ⟨dt 0,rfl,aI.refl _,h.sb _ _ (vU 0 a rfl)⟩
  rintro σ H0 ⟨p0,rfl,s0,e0⟩
  have gb:=gl.b
  have gk:=gl.k
  have aFW:(L.bS.headD []).length≤10:=gl.l
  have hb:Dj L.b:=gb
  have hk:Dj L.k:=gk
  have WQ:x8 (el L)=[L.b / 97,L.b % 97,L.k / 97,L.k % 97,L.of,L.tk,((L.bS.headD []).length:Int)] ++ L.bS.headD []:=rfl
  have hcp:∀ i,uw (el L) i=(x8 (el L)).getD i 0:=fun i=>rfl
  generalize L.bS.headD []=xs at *
  refine ⟨_,rfl,x,t.LinkEnd,dx,_,_,rfl,s0 _ _ hx,T.aJ,T.lP,sM,L.b,2,rfl,tj hb,by decide,by decide,fun _ _ p1 H1 HY s1 e1=>?_,fun z=>absurd z (by rw [Hx hb];have:=hb.1;omega)⟩
  rw [Lg] at e1
  have Rv:=s0.trans s1
  refine ⟨_,rfl,x,t.LinkEnd,dx,_,_,rfl,Rv _ _ hx,T.aJ,T.gB,pb,L.k,2,rfl,tj hk,by decide,by decide,fun _ _ p2 H2 vw s2 e2=>?_,fun z=>absurd z (by rw [Hx hk];have:=hk.1;omega)⟩
  rw [Lg] at e2
  have Z3:=Rv.trans s2
  refine ⟨p1,p2,_,_,rfl,rfl,aX.of (s2 _ _ e1),aX.of e2,by show 4≤sizeLine;decide,fun p3 Mq=>?_⟩
  have t3:=(aI.refl H2).new (o:=.lst ([L.b / 97 % 97,L.b % 97].map V.int ++ [L.k / 97 % 97,L.k % 97].map V.int)) Mq
  have e3:(upd H2 p3 (.lst ([L.b / 97 % 97,L.b % 97].map V.int ++ [L.k / 97 % 97,L.k % 97].map V.int))) p3=some (.lst ([L.b / 97 % 97,L.b % 97,L.k / 97 % 97,L.k % 97].map V.int)):=aB
  have s3:=Z3.trans t3
  have e03:=((s1.trans s2).trans t3) _ _ e0
  generalize upd H2 p3 (.lst ([L.b / 97 % 97,L.b % 97].map V.int ++ [L.k / 97 % 97,L.k % 97].map V.int))=H3 at *
  refine ⟨_,rfl,_,rfl,x,t.LinkEnd,dx,_,_,rfl,s3 _ _ hx,T.aJ,T.mJ,zQ,_,rfl,x,t.LinkEnd,dx,_,_,rfl,s3 _ _ hx,T.aJ,T.n9,AV,_,rfl,p0,_,rfl,.inl (aX.of e03),by show 3≤sizeLine;decide,fun p4 Z0=>?_⟩
  rw [List.length_map]
  have t4:=(aI.refl H3).new (o:=.lst [V.int L.of,V.int L.tk,V.int (xs.length:Nat)]) Z0
  refine ⟨p3,p4,_,_,rfl,rfl,aX.of (t4 _ _ e3),aX.of aB,by show 7≤sizeLine;decide,fun p5 Zy=>?_⟩
  have t5:=t4.new (o:=.lst ([L.b / 97 % 97,L.b % 97,L.k / 97 % 97,L.k % 97].map V.int ++ [V.int L.of,V.int L.tk,V.int (xs.length:Nat)])) Zy
  refine ⟨_,rfl,p5,p0,_,_,rfl,rfl,aX.of aB,aX.of (t5 _ _ e03),by rw [List.length_map];show 7+xs.length≤sizeLine;omega,fun p6 WW=>?_⟩
  have t6:=t5.new (o:=.lst (([L.b / 97 % 97,L.b % 97,L.k / 97 % 97,L.k % 97].map V.int ++ [V.int L.of,V.int L.tk,V.int (xs.length:Nat)]) ++ xs.map V.int)) WW
  have s6:=s3.trans t6
  have eb:L.b / 97 % 97=L.b / 97:=by obtain ⟨h0,h1⟩:=hb;omega
  have ek:L.k / 97 % 97=L.k / 97:=by obtain ⟨h0,h1⟩:=hk;omega
  have e6:(upd (upd (upd H3 p4 (.lst [V.int L.of,V.int L.tk,V.int (xs.length:Nat)])) p5 (.lst ([L.b / 97 % 97,L.b % 97,L.k / 97 % 97,L.k % 97].map V.int ++ [V.int L.of,V.int L.tk,V.int (xs.length:Nat)]))) p6 (.lst (([L.b / 97 % 97,L.b % 97,L.k / 97 % 97,L.k % 97].map V.int ++ [V.int L.of,V.int L.tk,V.int (xs.length:Nat)]) ++ xs.map V.int))) p6=some (.lst ((x8 (el L)).map V.int)):=by
   rw [aB,WQ,eb,ek,List.map_append]
   rfl
  generalize (upd (upd (upd H3 p4 (.lst [V.int L.of,V.int L.tk,V.int (xs.length:Nat)])) p5 (.lst ([L.b / 97 % 97,L.b % 97,L.k / 97 % 97,L.k % 97].map V.int ++ [V.int L.of,V.int L.tk,V.int (xs.length:Nat)]))) p6 (.lst (([L.b / 97 % 97,L.b % 97,L.k / 97 % 97,L.k % 97].map V.int ++ [V.int L.of,V.int L.tk,V.int (xs.length:Nat)]) ++ xs.map V.int)))=H6 at *
  have sl7:(x8 (el L)).length=7+xs.length:=by rw [WQ,List.length_append];rfl
  generalize x8 (el L)=ss at *
  refine ⟨_,rfl,by show 1≤sizeLine;decide,fun p7 hp7=>?_⟩
  have s7:=(aI.refl H6).new (o:=.lst [V.int 0]) hp7
  refine ⟨_,rfl,p6,_,rfl,.inl (aX.of (s7 _ _ e6)),_,_,rfl,rfl,?_⟩
  rw [List.length_map]
  refine ⟨p7,_,_,rfl,rfl,aB,by omega,by omega,by show 1 * _≤sizeLine;omega,fun p8 hp8=>?_⟩
  have en:((18:Int) - (ss.length:Nat)).toNat=18 - ss.length:=by omega
  rw [en]
  have s8:=s7.new (o:=.lst ((List.replicate (18 - ss.length) [V.int 0]).flatten)) hp8
  refine ⟨p6,p8,_,_,rfl,rfl,aX.of (s8 _ _ e6),aX.of aB,by rw [List.flatten_replicate_singleton,List.length_map,List.length_replicate];omega,fun p9 hp9=>?_⟩
  rw [PM ss (by omega)] at *
  have s9:=s8.new (o:=.lst (tabI 18 fun i=>ss.getD i 0)) hp9
  refine ⟨p9,uw (el L),rfl,aX.of ?_,Hv gl,fun p H' hp s' e'=>?_⟩
  ·rw [aB]
   exact congrArg (fun z=>some (HO.lst z)) (bW fun i _=>by rw [hcp i])
  ·have sA:=(s6.trans s9).trans s'
   exact q p H' ((s6.trans s9).free hp) sA e'
end
end K31
namespace K31
open PySem L2 PyProof.Rows
section
variable {P:Program} {w:World} {K:PySem.W.Frag} {mg:Str→Option Value} {base:Heap} {t:Ad}
theorem M6 {f g h:Nat→Int} (a:My.qT f g) (b:My.qT f h):tabI 24 g=tabI 24 h:=by
 refine bW fun i hi=>?_
 rw [My.Ta a.b b.b a.sealed b.sealed ?_ i hi]
 have:=My.gW (My.fG 24 g h) (My.fG 24 f g ++ My.fG 24 f h) (My.gU _ _ _) fun i hi=>by
  obtain ⟨h1,h2⟩:=My.cE.mp hi
  by_cases e:f i=g i
  ·exact List.mem_append_right _ (My.cE.mpr ⟨h1,fun z=>h2 (by rw [← e,z])⟩)
  ·exact List.mem_append_left _ (My.cE.mpr ⟨h1,e⟩)
 have a2:=a.xm
 have b2:=b.xm
 rw [List.length_append] at this
 omega
def PQ (f:Nat→Int):Option Cl→Prop
 | none=>∀ g,¬ My.qT f g
 | some a=>jW a∧My.qT f (ay a)
abbrev Cm:=(Nat→Int) × Option Cl
def InC (H:Hp) (cl:Addr) (Rx:Nat→Addr) (fs:List Cm):Prop:=H cl=some (.lst (bK fs.length Rx))∧∀ j c,fs[j]?=some c→H (Rx j)=some (.lst (tabI 24 c.1))∧IsCell 24 c.1∧PQ c.1 c.2
def PR (H0 H:Hp) (D:Addr) (v:V):Option Cl→Prop
 | none=>v=.bJ
 | some b=>∃ p,v=.ref p∧H0 p=none∧p≠D∧H p=some (.lst (tabI 24 (ay b)))
theorem PR.mono {H0 H H':Hp} {D:Addr} {v:V} {o:Option Cl} (h:PR H0 H D v o) (k:∀ p u,p≠D→H p=some u→H' p=some u):PR H0 H' D v o:=by
 cases o with
 | none=>exact h
 | some b=>obtain ⟨p,h1,h2,h3,h4⟩:=h;exact ⟨p,h1,h2,h3,k p _ h3 h4⟩
def ak (L:Lk) (bs:List Cl):Lk:=bs.foldl cq L
def iH (L:Lk) (bs:List Cl):Lk:={ L with u:=if bs=[] then L.u+1 else 0 }
def bH (L:Lk):Lk:=if L.k≠0∧L.q≤L.u then iG L else L
def dR (L:Lk) (bs:List Cl):Lk:={ bH (iH (ak L bs) bs) with d:=(bH (iH (ak L bs) bs)).d+1 }
theorem Jz (L:Lk) (bs:List Cl) (b:Cl):ak L (bs ++ [b])=cq (ak L bs) b:=by unfold ak;rw [List.foldl_append];rfl
structure ux (L:Lk):Prop where
 k:Dj L.k
 o:Nn L.of
 t:Nn L.tk
 p:∀ xs ∈ L.bS,xs.length≤10∧∀ v ∈ xs,Nn v
theorem VQ:Dj 0:=⟨by decide,by decide⟩
theorem M7:Nn 0:=⟨by decide,by decide⟩
theorem AW (n:Int):Nn (n % 97):=⟨Int.emod_nonneg _ (by decide),Int.emod_lt_of_pos _ (by decide)⟩
theorem ux.give {L:Lk} (h:ux L) (hb:Dj L.b):PN L:=by
 refine ⟨hb,h.k,h.o,h.t,?_,?_⟩
 ·show (L.bS.headD []).length≤10
  cases e:L.bS with
  | nil=>exact Nat.zero_le _
  | cons a r=>exact (h.p a (by rw [e];exact List.mem_cons_self)).1
 ·show ∀ v ∈ L.bS.headD [],Nn v
  cases e:L.bS with
  | nil=>intro v hv;cases hv
  | cons a r=>exact (h.p a (by rw [e];exact List.mem_cons_self)).2
theorem Ll {L:Lk} {n:Int} (h:ux L) (hn:Dj n):ux (bL L n):=by
 unfold bL
 cases L.p with
 | none=>exact ⟨hn,h.o,h.t,h.p⟩
 | some p =>
  simp only
  split
  ·exact ⟨hn,M7,M7,fun xs hx=>by cases hx⟩
  ·exact ⟨hn,h.o,h.t,h.p⟩
theorem Ry {L:Lk} (h:ux L):ux (bY L):=by
 unfold bY
 cases L.p with
 | none=>exact ⟨h.k,h.o,h.t,h.p⟩
 | some p=>exact h
theorem Rz {L:Lk} {c:Int} (h:ux L):ux (cB L c):=by
 unfold cB
 split
 ·exact ⟨h.k,AW _,h.t,fun xs hx=>h.p xs (List.mem_of_mem_tail hx)⟩
 ·exact h
theorem R0 {L:Lk} {n:Int} {xs:List Int} (h:ux L):ux (dP L n xs):=by
 unfold dP
 split
 ·exact ⟨h.k,h.o,AW _,h.p⟩
 ·exact h
theorem R1 {L:Lk} {a:Cl} (h:ux L) (ha:Dj a.b):ux (cq L a):=by
 unfold cq
 split
 ·exact h
 ·split
  ·exact R0 (Rz (Ry (Ll h ha)))
  ·exact Ll h ha
theorem R3 {L:Lk} (h:ux L):ux (iG L):=by
 unfold iG
 cases L.p with
 | none=>exact ⟨VQ,h.o,h.t,h.p⟩
 | some p=>exact ⟨VQ,M7,M7,fun xs hx=>by cases hx⟩
theorem IB {L:Lk} (h:ux L):ux (bH L):=by
 unfold bH
 split
 ·exact R3 h
 ·exact h
theorem sN:∀ (bs:List Cl) (L:Lk),ux L→(∀ b ∈ bs,Dj b.b)→ux (ak L bs)
 | [],_,h,_=>h
 | b :: r,L,h,hb=>sN r (cq L b) (R1 h (hb b List.mem_cons_self)) fun x hx=>hb x (List.mem_cons_of_mem _ hx)
theorem AX (L:Lk) (n:Int):(bL L n).b=L.b∧(bL L n).k=n:=by
 unfold bL
 cases L.p with
 | none=>exact ⟨rfl,rfl⟩
 | some p=>simp only;split <;> exact ⟨rfl,rfl⟩
theorem PU (L:Lk):(bY L).b=L.b∧(bY L).k=L.k:=by
 unfold bY
 cases L.p <;> exact ⟨rfl,rfl⟩
theorem VR (L:Lk) (c:Int):(cB L c).b=L.b∧(cB L c).k=L.k:=by unfold cB;split <;> exact ⟨rfl,rfl⟩
theorem VS (L:Lk) (n:Int) (xs:List Int):(dP L n xs).b=L.b∧(dP L n xs).k=L.k∧(dP L n xs).ev.length≤L.ev.length+1:=by
 unfold dP
 split
 ·exact ⟨rfl,rfl,by show (L.ev ++ [_]).length≤_;rw [List.length_append];exact Nat.le_refl _⟩
 ·exact ⟨rfl,rfl,Nat.le_succ _⟩
theorem VT (L:Lk) (a:Cl):(cq L a).b=L.b∧((cq L a).k=L.k∨(cq L a).k=a.b)∧(cq L a).ev.length≤L.ev.length+3:=by
 have m1:=AX L a.b
 have m2:=Hz L a.b
 have c1:=PU (bL L a.b)
 have c2:=IA (bL L a.b)
 have h1:=VR (bY (bL L a.b)) a.c
 have h2:=Lh (bY (bL L a.b)) a.c
 have t1:=VS (cB (bY (bL L a.b)) a.c) a.n a.xs
 unfold cq
 split
 ·exact ⟨rfl,.inl rfl,by omega⟩
 ·split
  ·refine ⟨t1.1.trans (h1.1.trans (c1.1.trans m1.1)),.inr (t1.2.1.trans (h1.2.trans (c1.2.trans m1.2))),?_⟩
   have:=t1.2.2
   rw [h2] at this
   omega
  ·exact ⟨m1.1,.inr m1.2,by omega⟩
theorem AY (L:Lk):∀ (bs:List Cl),(ak L bs).b=L.b∧(ak L bs).ev.length≤L.ev.length+3 * bs.length:=by
 intro bs
 induction bs generalizing L with
 | nil=>exact ⟨rfl,Nat.le_refl _⟩
 | cons b r ih =>
  have rb:=VT L b
  obtain ⟨i1,i3⟩:=ih (cq L b)
  show (ak (cq L b) r).b=_∧(ak (cq L b) r).ev.length≤_
  exact ⟨i1.trans rb.1,by rw [List.length_cons];omega⟩
theorem VU (L:Lk):(iG L).b=L.b+1∧(iG L).k=0:=by
 unfold iG
 cases L.p <;> exact ⟨rfl,rfl⟩
def cY (fs:List Cm):List Cl:=fs.filterMap (·.2)
theorem J0 {fs:List Cm} {i:Nat} {c:Cm} (h:fs[i]?=some c):cY (fs.take (i+1))=cY (fs.take i) ++ (match c.2 with | none=>[] | some b=>[b]):=by
 unfold cY
 rw [List.take_succ,h,List.filterMap_append]
 congr 1
 cases e:c.2 <;> simp [e]
def Lm (C:Addr):Sp:=fun vs H Q _=>∃ (B:Hp) (x tA pA cl:Addr) (Rx:Nat→Addr) (L:Lk) (fs:List Cm),vs=[.ref x,.ref cl]∧bO C B H x tA pA L∧InC H cl Rx fs∧fs.length≤1000∧L.ev.length≤1000∧0≤L.b∧L.b < 9000∧ux L ∧
 ∀ B' H' pB p,jV B H B' H' x tA pA tA pB→bO C B' H' x tA pB (dR L (cY fs))→H p=none→B' p=none→p≠pB→H' p=some (.lst (tabI 24 (ay (el (dR L (cY fs))))))→Q (.ref p) H'
theorem vV:aQ ["self","cells","tried","readable","cell"] ["self","cells"] (aH ny):=⟨rfl,rfl,rfl,by decide +kernel,rfl,by decide +kernel,by decide +kernel⟩
theorem R4 {fd Ht YY YZ:FuncData} (T:Txt K mg t) (F:kL K "tick" "LinkEnd.tick" ny t.wD fd) (wk:Def P w K mg base 8 "mended" ["cell"] (zO K)) (J1:bZ P w K mg base (i9 P w) 4 t.wF Ht ["self","cell"] (Li t.LinkEnd)) (J2:Binds K Ht ["self","cell"] [])
  (mT:bZ P w K mg base (i9 P w) 3 t.f6 YY ["self"] (kQ t.LinkEnd)) (mU:Binds K YY ["self"] []) (mV:bZ P w K mg base (i9 P w) 4 t.fz YZ ["self"] (kR t.LinkEnd)) (mW:Binds K YZ ["self"] []) :
  bZ P w K mg base (i9 P w) 9 t.wD fd ["self","cells"] (Lm t.LinkEnd)∧Binds K fd ["self","cells"] []:=by
 refine ⟨F.qR vV (fun vs H Q E h=>?_) (fun f bo A outer s H vs Q E hr h=>?_),F.binds fun _ _ _ _ _ _ us hl=>match us,hl with | [_,_],_=>rfl⟩
 ·obtain ⟨B,x,tA,pA,cl,Rx,L,fs,rfl,_⟩:=h
  rfl
 ·obtain ⟨B,x,tA,pA,cl,Rx,L,fs,rfl,h,⟨QP,hcs⟩,hfl,hel,b0,b1,hk,q⟩:=h
  refine ⟨_,aC (lF (i:=2) vV.nd rfl (Or.inl rfl) rfl (Nc:=["cell"]) (ix:=[none]) (dF (aH ny) ["self","cells","tried","readable","cell"] rfl rfl (by decide +kernel)) (cN K (pv 1)) (fun C fp s H=>⟨(az (i:=0) (show (["cell"]:List Str).Nodup by decide +kernel) rfl (Or.inl rfl)),cX,(aZ (wk.mono (by decide)) hr ar (aA (pv 0) aE))⟩))
   (aC (lF (i:=3) vV.nd rfl (Or.inl rfl) rfl (Nc:=["cell"]) (ix:=[none]) (dF (aH ny) ["self","cells","tried","readable","cell"] rfl rfl (by decide +kernel)) (cN K (pv 2)) (fun C fp s H=>⟨(az (i:=0) (show (["cell"]:List Str).Nodup by decide +kernel) rfl (Or.inl rfl)),(LC (aW pL (pv 0) cK (aj _))),(pv 0)⟩))
   (aC (PS.uX (dD PassesOwn.never rfl (cN K (pv 3)) (az (i:=4) vV.nd rfl (Or.inl rfl))
    (aG (ax (pN (pv 0) T.aJ T.RT (J1.mono (by decide)) hr J2 .nil ar (aA (pv 4) aE))))))
   (aC (cF K (pv 0) (nW (rS (pv 3) (fun _=>rfl)) aF (aN bA (ao K (pv 0) (by rfl)) aF)) (by rfl))
   (aC (tL (bD (PW.pt (sx (aW Gg (ao K (pv 0) (by rfl)) (aS T.pX) (aj _)) (pK (aW S6 (ao K (pv 0) (by rfl)) (ao K (pv 0) (by rfl)) (aj _)))))
    (aG (ax (dh (pv 0) T.aJ T.xq (mT.mono (by decide)) hr mU .nil ar)))
    (af)))
   (aC (yo (pv 0) aF N0)
   (aG (aV (dh (pv 0) T.aJ T.xo (mV.mono (by decide)) hr mW .nil ar)))))))),?_⟩
  have hsz:(1000001:Nat)≤sizeLine:=by decide
  have nz:∀ {a b:Addr},H a≠none→H b=none→b≠a:=fun {a b} h1 h2 z=>h1 (z ▸ h2)
  refine ⟨_,rfl,cl,rfl,⟨_,aX.of QP⟩,fun D hD=>?_⟩
  refine rZ (K:=K) (a:=cl) (xs:=bK fs.length Rx) (fun i σ H'=>(∃ v,σ=[v])∧aI H H'∧∃ vs:List V,H' D=some (.lst vs)∧vs.length=i∧∀ (j:Nat) (v:V) (c:Cm),vs[j]?=some v→fs[j]?=some c→PR H H' D v c.2)
   ⟨⟨none,rfl⟩,(aI.refl H).new hD,[],aB,rfl,fun j v c hv=>by cases hv⟩ (fun i σ H' _ p=>aX.of (p.2.1 _ _ QP)) ?_ ?_
  ·rintro i v σ H' N hN hi ⟨⟨v0,rfl⟩,s1,vs,hv,We,hvs⟩
   obtain ⟨VV,rfl⟩:=tab_of hi
   have e:fs[i]?=some fs[i]:=by simp [VV]
   generalize fs[i]=c at e
   obtain ⟨c1,c2,c3⟩:=hcs i c e
   refine df ?_
   have fin:∀ (v:V) (H2:Hp),aI H' H2→PR H H2 D v c.2→(∃ ys,H2 D=some (.lst ys)∧ys.length < sizeLine∧N [some (.ref (Rx i))] (upd H2 D (.lst (ys ++ [v])))):=fun v H2 s2 QQ=>by
    refine ⟨_,s2 _ _ hv,by omega,hN _ _ ⟨⟨_,rfl⟩,(s1.trans s2).put hD,vs ++ [v],aB,by rw [List.length_append,We];rfl,fun j v' c' h1 h2=>?_⟩⟩
    have up:∀ p u,p≠D→H2 p=some u→(upd H2 D (.lst (vs ++ [v]))) p=some u:=fun p u n e=>by rw [aD n];exact e
    by_cases hj:j < vs.length
    ·rw [List.getElem?_append_left hj] at h1
     exact ((hvs j v' c' h1 h2).mono fun p u _ e=>s2 _ _ e).mono up
    ·have Yc:j < (vs ++ [v]).length:=(List.getElem?_eq_some_iff.mp h1).1
     rw [List.length_append] at Yc
     have Yd:j=vs.length:=by simp at Yc;omega
     rw [Yd,List.getElem?_append_right (Nat.le_refl _),Nat.sub_self] at h1
     cases h1
     rw [Yd,We,e] at h2
     cases h2
     exact QQ.mono up
   refine ⟨_,rfl,Rx i,c.1,rfl,aX.of (s1 _ _ c1),c2,fun g p H2 hm hp s2 e2=>?_,fun hno H2 s2=>?_⟩
   ·refine fin _ H2 s2 ?_
    cases ec:c.2 with
    | none=>rw [ec] at c3;exact absurd hm (c3 g)
    | some b =>
     rw [ec] at c3
     exact ⟨p,rfl,s1.free hp,(fun z=>by rw [z,hv] at hp;cases hp),by rw [e2,M6 hm c3.2]⟩
   ·refine fin _ H2 s2 ?_
    cases ec:c.2 with
    | none=>exact rfl
    | some b=>rw [ec] at c3;exact absurd c3.2 (hno _)
  ·rintro σ H1 ⟨⟨v0,rfl⟩,s1,vs,hv,We,hvs⟩
   rw [aL] at We
   have hbr:∀ b ∈ cY fs,jW b:=fun b hb=>by
    obtain ⟨c,hc,ec⟩:=List.mem_filterMap.mp hb
    obtain ⟨j,hj⟩:=List.getElem?_of_mem hc
    have c3:=(hcs j c hj).2.2
    rw [ec] at c3
    exact c3.1
   have VW:(cY fs).length≤fs.length:=List.length_filterMap_le _ _
   obtain ⟨WT,hb3⟩:=AY L (cY fs)
   have Iv:=sN (cY fs) L hk fun b hb=>(hbr b hb).b
   refine ⟨_,rfl,D,rfl,⟨_,aX.of hv⟩,fun D2 Ms=>?_⟩
   refine rZ (K:=K) (a:=D) (xs:=vs) (fun i σ H'=>(∃ v,σ=[v])∧aI H1 H'∧∃ ps:List Addr,H' D2=some (.lst (ps.map V.ref))∧ps.length=(cY (fs.take i)).length∧∀ (j:Nat) (p:Addr) (b:Cl),ps[j]?=some p→(cY (fs.take i))[j]?=some b→H p=none∧H1 p=some (.lst (tabI 24 (ay b))))
    ⟨⟨none,rfl⟩,(aI.refl H1).new Ms,[],aB,rfl,fun j p b hp=>by cases hp⟩ (fun i σ H' _ p=>aX.of (p.2.1 _ _ hv)) ?_ ?_
   ·rintro i v σ H' N hN hi ⟨⟨v0,rfl⟩,s2,ps,vw,kK,QR⟩
    have VV:i < fs.length:=by rw [← We];exact (List.getElem?_eq_some_iff.mp hi).1
    have e:fs[i]?=some fs[i]:=by simp [VV]
    generalize fs[i]=c at e
    have M8:=hvs i v c hi e
    have Tg:=J0 e
    refine turn_if ?_
    cases ec:c.2 with
    | none =>
     rw [ec] at M8 Tg
     have M8:v=.bJ:=M8
     subst M8
     refine ⟨_,rfl,rfl,_,rfl,qC rfl ?_⟩
     refine hN _ _ ⟨⟨_,rfl⟩,s2,ps,vw,?_,?_⟩
     ·rw [Tg,List.append_nil];exact kK
     ·rw [Tg,List.append_nil];exact QR
    | some b =>
     rw [ec] at M8 Tg
     obtain ⟨p,rfl,VP,hpD,QT⟩:=M8
     have Tg:cY (fs.take (i+1))=cY (fs.take i) ++ [b]:=Tg
     have Ye:(cY (fs.take i)).length≤(fs.take i).length:=List.length_filterMap_le _ _
     rw [List.length_take] at Ye
     refine ⟨_,rfl,rfl,_,rfl,rY (fun z=>by cases z) ?_⟩
     refine ⟨_,rfl,_,vw,by rw [List.length_map];omega,hN _ _ ⟨⟨_,rfl⟩,s2.put Ms,ps ++ [p],?_,?_,?_⟩⟩
     ·rw [aB,List.map_append];rfl
     ·rw [Tg,List.length_append,List.length_append,kK];rfl
     ·intro j p' b' h1 h2
      rw [Tg] at h2
      by_cases hj:j < ps.length
      ·rw [List.getElem?_append_left hj] at h1
       rw [List.getElem?_append_left (by omega)] at h2
       exact QR j p' b' h1 h2
      ·have Yc:j < (ps ++ [p]).length:=(List.getElem?_eq_some_iff.mp h1).1
       rw [List.length_append] at Yc
       have Yd:j=ps.length:=by simp at Yc;omega
       rw [Yd,List.getElem?_append_right (Nat.le_refl _),Nat.sub_self] at h1
       cases h1
       rw [Yd,kK,List.getElem?_append_right (Nat.le_refl _),Nat.sub_self] at h2
       cases h2
       exact ⟨VP,QT⟩
   ·rintro σ H2 ⟨⟨v0,rfl⟩,s2,ps,vw,kK,QR⟩
    rw [We,List.take_length] at kK QR
    generalize LR:cY fs=bs at *
    have Z3:=s1.trans s2
    have h2:=h.same Z3
    have nD2:H D2=none:=s1.free Ms
    have PV:∀ {B3 H3:Hp} {pB:Addr} {a:Addr} {u:HO},jV B H2 B3 H3 x tA pA tA pB→H a=none→H2 a=some u→H3 a=some u:=fun {B3 H3 pB a u} m ha e=>m.k a u (nz h.hx ha) (nz h.ht ha) (nz h.hp ha) e
    refine ⟨_,rfl,D2,rfl,⟨_,aX.of vw⟩,lD (K:=K) (a:=D2) (xs:=ps.map V.ref) (fun i σ H3=>∃ (B3:Hp) (pB:Addr) (v4:Option V),σ=[some (.ref x),some (.ref cl),some (.ref D),some (.ref D2),v4]∧jV B H2 B3 H3 x tA pA tA pB∧bO t.LinkEnd B3 H3 x tA pB (ak L (bs.take i)))
     ⟨B,pA,none,rfl,jV.refl,h2⟩ (fun i σ H3 _ ⟨_,_,_,_,m3,_⟩=>aX.of (PV m3 nD2 vw)) ?_ ?_⟩
    ·rintro i v σ H3 hi ⟨B3,pB,v4,rfl,m3,h3⟩
     rw [List.getElem?_map] at hi
     cases ep:ps[i]? with
     | none=>rw [ep] at hi;cases hi
     | some p =>
      rw [ep] at hi
      cases hi
      have hib:i < bs.length:=by rw [← kK];exact (List.getElem?_eq_some_iff.mp ep).1
      have eb:bs[i]?=some bs[i]:=by simp [hib]
      generalize bs[i]=b at eb
      obtain ⟨VP,QT⟩:=QR i p b ep eb
      have Mq:=PV m3 VP (s2 _ _ QT)
      have bb:=hbr b (List.mem_of_getElem? eb)
      have npB:p≠pB:=by
       rcases m3.p with z | z
       ·rw [z];exact nz h.hp VP
       ·exact aK (s2 _ _ QT) z
      have PF:=(AY L (bs.take i)).2
      rw [List.length_take] at PF
      obtain ⟨Ru,WZ,VO,_⟩:=h3.at_
      refine ⟨_,rfl,x,Ru,_,rfl,VO,rfl,_,rfl,B3,x,tA,pB,p,_,b,rfl,h3,by omega,Mq,bb,nz h.ht VP,npB,fun B4 H4 pC m4 h4=>?_⟩
      rw [← Jz,← take_succ eb] at h4
      exact ⟨B4,pC,_,rfl,m3.trans m4,h4⟩
    ·rintro σ H3 ⟨B3,pB,v4,rfl,m3,h3⟩
     rw [List.length_map,kK,List.take_length] at h3
     have Z2:=(jV.of_same (B:=B) Z3).trans m3
     obtain ⟨Ru,WZ,VO,aBB⟩:=h3.at_
     have Zz:=PV m3 nD2 vw
     have tail:∀ (n:Int),(iH (ak L bs) bs).u=n→(Nw (N9 K (qM 0) (tC (.int n)) "unheard") (Nw (Xk (Wz (Wv (K0 (WI rNe (JG K (qM 0) "known") (tC (V.int 0)))) (K0 (WI (QM fun i j=>V.bl (decide (j≤i))) (JG K (qM 0) "unheard") (JG K (qM 0) "quiet"))))
       (Nx (K2 t.LinkEnd "start_over" (kQ t.LinkEnd) [] E0 (qM 0) MD)) S4)) (Nw (zd K (qM 0) (tC (V.int 1)) (ipI fun i j=>i+j) "done") (Wx (K2 t.LinkEnd "cell_given" (kR t.LinkEnd) [] E0 (qM 0) MD))))) { nx:=fun x H'=>Q V.bJ H',rt:=Q } [some (V.ref x),some (V.ref cl),some (V.ref D),some (V.ref D2),v4] H3:=fun n hn=>by
      refine ⟨_,rfl,x,t.LinkEnd,Ru,_,rfl,VO,T.aJ,T.mH,by show 11 < 1000;decide,?_⟩
      rw [Jt]
      obtain ⟨h4,m4⟩:=h3.set (dx:=Ru) (pv:=WZ) (L':=iH (ak L bs) bs) aBB rfl rfl
      have e4:cu (ak L bs).q (ak L bs).s (ak L bs).d n (ak L bs).b (ak L bs).k WZ tA pB (ak L bs).of (ak L bs).tk=(iH (ak L bs) bs).fld WZ tA pB:=by rw [← hn];rfl
      rw [e4]
      have Yb:=Z2.trans m4
      have l4b:(iH (ak L bs) bs).b=L.b:=WT
      have l4k:ux (iH (ak L bs) bs):=⟨Iv.k,Iv.o,Iv.t,Iv.p⟩
      have l4e:(iH (ak L bs) bs).ev.length≤L.ev.length+3 * bs.length:=hb3
      have tk:dR L bs={ bH (iH (ak L bs) bs) with d:=(bH (iH (ak L bs) bs)).d+1 }:=rfl
      generalize iH (ak L bs) bs=L4 at *
      generalize upd H3 x (.ins t.LinkEnd Ru (L4.fld WZ tA pB))=H4 at *
      obtain ⟨Wa,pv4,Wb,aGe⟩:=h4.at_
      refine ⟨fun σ H'=>∃ B5 pC,σ=[some (V.ref x),some (V.ref cl),some (V.ref D),some (V.ref D2),v4]∧jV B H B5 H' x tA pA tA pC∧bO t.LinkEnd B5 H' x tA pC (bH L4),?_,?_⟩
      ·refine ⟨_,rfl,x,t.LinkEnd,Wa,_,_,rfl,Wb,T.aJ,T.gB,pb,rfl,_,rfl,?_⟩
       by_cases Z4:L4.k=0
       ·refine qC (by rw [Z4]) (di ?_)
        exact ⟨B3,pB,rfl,Yb,by unfold bH;rw [if_neg (fun z=>z.1 Z4)];exact h4⟩
       ·refine rY (fun z=>Z4 (V.int.inj z)) ?_
        refine ⟨_,rfl,x,t.LinkEnd,Wa,_,_,rfl,Wb,T.aJ,T.mH,zP,_,rfl,x,t.LinkEnd,Wa,_,_,rfl,Wb,T.aJ,T.wN,Lc,_,_,rfl,rfl,_,rfl,?_⟩
        by_cases Z5:L4.q≤L4.u
        ·refine eP Z5 ?_
         refine ⟨_,rfl,x,Wa,_,rfl,Wb,rfl,B3,x,tA,pB,L4,rfl,h4,by omega,fun B5 H5 pC m5 h5=>?_⟩
         exact ⟨B5,pC,rfl,Yb.trans m5,by unfold bH;rw [if_pos ⟨Z4,Z5⟩];exact h5⟩
        ·refine dX Z5 ?_
         exact ⟨B3,pB,rfl,Yb,by unfold bH;rw [if_neg (fun z=>Z5 z.2)];exact h4⟩
      ·rintro σ H5 ⟨B5,pC,rfl,m5,h5⟩
       have l5:Dj (bH L4).b∧ux (bH L4):=by
        refine ⟨?_,IB l4k⟩
        unfold bH
        split
        ·rw [(VU L4).1,l4b]
         exact ⟨by omega,by omega⟩
        ·rw [l4b]
         exact ⟨by omega,by omega⟩
       generalize bH L4=L5 at *
       obtain ⟨QS,Wc,Wd,aBC⟩:=h5.at_
       refine ⟨_,rfl,x,t.LinkEnd,QS,_,_,rfl,Wd,T.aJ,T.vT,Js,_,_,rfl,rfl,QS,_,Wd,by show 11 < 1000;decide,?_⟩
       rw [Rh]
       obtain ⟨h6,m6⟩:=h5.set (dx:=QS) (pv:=Wc) (L':={ L5 with d:=L5.d+1 }) aBC rfl rfl
       have h6:bO t.LinkEnd B5 (upd H5 x (.ins t.LinkEnd QS (cu L5.q L5.s (L5.d+1) L5.u L5.b L5.k Wc tA pC L5.of L5.tk))) x tA pC { L5 with d:=L5.d+1 }:=h6
       have m6:jV B5 H5 B5 (upd H5 x (.ins t.LinkEnd QS (cu L5.q L5.s (L5.d+1) L5.u L5.b L5.k Wc tA pC L5.of L5.tk))) x tA pC tA pC:=m6
       generalize upd H5 x (.ins t.LinkEnd QS (cu L5.q L5.s (L5.d+1) L5.u L5.b L5.k Wc tA pC L5.of L5.tk))=H6 at *
       have m06:=m5.trans m6
       obtain ⟨dx6,pv6,hx6,_⟩:=h6.at_
       have gl6:PN { L5 with d:=L5.d+1 }:=(ux.give (L:=L5) l5.2 l5.1)
       refine ⟨_,rfl,x,dx6,_,rfl,hx6,rfl,B5,x,tA,pC,_,rfl,h6,gl6,fun p H7 hp s7 e7=>?_⟩
       rw [tk] at q
       exact q B5 H7 pC p (m06.same s7) (h6.same s7) (m06.g p hp) (h6.sb.free hp) (fun z=>h6.hp (by rw [← z];exact hp)) e7
     refine ⟨_,rfl,_,.inl ⟨_,aX.of Zz,rfl⟩,?_⟩
     by_cases Nl:bs=[]
     ·have hpe:ps=[]:=List.length_eq_zero_iff.mp (by rw [kK,Nl];rfl)
      rw [hpe]
      refine di ?_
      refine ⟨_,rfl,x,t.LinkEnd,Ru,_,_,rfl,VO,T.aJ,T.mH,zP,_,_,rfl,rfl,?_⟩
      exact tail _ (if_pos Nl)
     ·have hpe:(!(ps.map V.ref).isEmpty)=true:=by
       cases ps with
       | nil=>exact absurd (List.length_eq_zero_iff.mp kK.symm) Nl
       | cons a r=>rfl
      rw [hpe]
      refine fe ?_
      exact tail _ (if_neg Nl)
end
end K31
namespace K31
open PySem L2 PyProof.Rows
section
variable {P:Program} {w:World} {K:PySem.W.Frag} {mg:Str→Option Value} {base:Heap} {t:Ad}
def vG (q s:Int):Lk:=⟨q,s,0,0,1,0,none,[],[],0,0⟩
theorem R5:aQ ["self","measure","side"] ["self","measure","side"] (aH tQ):=⟨rfl,rfl,rfl,by decide +kernel,rfl,by decide +kernel,by decide +kernel⟩
def Ln (K:PySem.W.Frag) (C:Addr):Sp:=fun vs H Q _=>∃ (B:Hp) (x dx ma:Addr) (a b sd:Int),vs=[.ref x,.ref ma,.int sd]∧H x=some (.ins C dx [])∧bw K H ma [.int a,.int b]∧YM a b∧aI B H∧B x=none ∧
 ∀ (tA pA:Addr) (H':Hp),(∀ y o,y≠x→H y=some o→H' y=some o)→(∀ y,H' y=none→H y=none)→H tA=none→H pA=none→bO C B H' x tA pA (vG (a+b) sd)→Q .bJ H'
theorem R6 {fd Ht:FuncData} (T:Txt K mg t) (F:kL K "__init__" "LinkEnd.__init__" tQ t.init fd) (qb:Def P w K mg base 3 "quiet_of" ["measure"] (ui K t.BadMeasure)) (cS:bZ P w K mg base (i9 P w) 1 t.cR Ht ["self"] (gd t.LinkEnd)) (cT:Binds K Ht ["self"] []) :
  bZ P w K mg base (i9 P w) 4 t.init fd ["self","measure","side"] (Ln K t.LinkEnd)∧Binds K fd ["self","measure","side"] []:=by
 refine ⟨F.qR R5 (fun vs H Q E h=>?_) (fun f bo A outer s H vs Q E hr h=>?_),F.binds fun _ _ _ _ _ _ us hl=>match us,hl with | [_,_,_],_=>rfl⟩
 ·obtain ⟨B,x,dx,ma,a,b,sd,rfl,_⟩:=h
  rfl
 ·obtain ⟨B,x,dx,ma,a,b,sd,rfl,hx,hma,hm,sB,bx,q⟩:=h
  refine ⟨_,aC (cF K (pv 0) (aZ (qb.mono (by decide)) hr (lG bC) (aA (pv 1) aE)) (by rfl)) (aC (cF K (pv 0) (pv 2) (by rfl)) (aC (cF K (pv 0) aF (by rfl)) (aC (cF K (pv 0) aF (by rfl)) (aC (cF K (pv 0) aF (by rfl)) (aC (cF K (pv 0) (aS T.pX) (by rfl)) (aC (cF K (pv 0) cK (by rfl)) (aC (cF K (pv 0) (bF aE) (by rfl))
   (aG (ax (dh (pv 0) T.aJ T.lQ (cS.mono (by decide)) hr cT .nil ar)))))))))),?_⟩
  refine ⟨_,rfl,ma,a,b,rfl,hma,dw (by have:=hm.1;omega) (by have:=hm.1;omega),dw (by have:=hm.2;omega) (by have:=hm.2;omega),fun _=>?_,fun z=>absurd hm z⟩
  refine ⟨_,rfl,x,t.LinkEnd,dx,_,rfl,hx,T.aJ,T.wN,by show 0 < 1000;decide,?_⟩
  refine ⟨_,rfl,_,rfl,x,t.LinkEnd,dx,_,rfl,aB,T.aJ,T.LZ,by show 1 < 1000;decide,?_⟩
  rw [ir]
  refine ⟨_,rfl,x,t.LinkEnd,dx,_,rfl,aB,T.aJ,T.vT,by show 2 < 1000;decide,?_⟩
  rw [ir]
  refine ⟨_,rfl,x,t.LinkEnd,dx,_,rfl,aB,T.aJ,T.mH,by show 3 < 1000;decide,?_⟩
  rw [ir]
  refine ⟨_,rfl,x,t.LinkEnd,dx,_,rfl,aB,T.aJ,T.lP,by show 4 < 1000;decide,?_⟩
  rw [ir]
  refine ⟨_,rfl,x,t.LinkEnd,dx,_,rfl,aB,T.aJ,T.gB,by show 5 < 1000;decide,?_⟩
  rw [ir]
  refine ⟨_,rfl,x,t.LinkEnd,dx,_,rfl,aB,T.aJ,T.gC,by show 6 < 1000;decide,?_⟩
  rw [ir]
  refine ⟨by show 0≤sizeLine;decide,fun tA Z6=>?_⟩
  have VN:x≠tA:=fun z=>by rw [← z,aB] at Z6;cases Z6
  have Yf:H tA=none:=by rw [aD (Ne.symm VN)] at Z6;exact Z6
  refine ⟨_,rfl,x,t.LinkEnd,dx,_,rfl,by rw [aD VN];exact aB,T.aJ,T.mI,by show 7 < 1000;decide,?_⟩
  refine ⟨_,rfl,x,dx,_,rfl,aB,rfl,x,dx,_,rfl,aB,by show 8 < 900;decide,fun pA Wf=>?_⟩
  have Rk:x≠pA:=fun z=>by rw [← z,aB] at Wf;cases Wf
  have YU:tA≠pA:=fun z=>by rw [← z,aD (Ne.symm VN),aB] at Wf;cases Wf
  have QT:H pA=none:=by rw [aD (Ne.symm Rk),aD (Ne.symm YU),aD (Ne.symm Rk)] at Wf;exact Wf
  refine q tA pA _ (fun y o n e=>?_) (fun y hy=>?_) Yf QT ⟨?_,bx,sB.free Yf,sB.free QT,⟨dx,.bJ,aB,rfl⟩,⟨fun _=>0,?_,fun y e he=>by cases he⟩,⟨fun _=>0,?_,fun y e he=>by cases he⟩,YU⟩
  ·rw [aD n,aD (aK e QT),aD n,aD (aK e Yf),aD n];exact e
  ·by_cases z1:y=x
   ·rw [z1,aB] at hy;cases hy
   ·by_cases z2:y=pA
    ·rw [z2];exact QT
    ·by_cases z3:y=tA
     ·rw [z3];exact Yf
     ·rw [aD z1,aD z2,aD z1,aD z3,aD z1] at hy;exact hy
  ·intro y o e
   have n:y≠x:=fun z=>by rw [z,bx] at e;cases e
   have e:=sB _ _ e
   rw [aD n,aD (aK e QT),aD n,aD (aK e Yf),aD n];exact e
  ·rw [aD (Ne.symm VN),aD YU,aD (Ne.symm VN)];exact aB
  ·rw [aD (Ne.symm Rk)];exact aB
end
end K31
namespace K31
open PySem L2 PyProof.Rows
section
variable {P:Program} {w:World} {K:PySem.W.Frag} {mg:Str→Option Value} {base:Heap} {t:Ad}
def IC (ns:List Int):Prop:=(1≤ns.length∧ns.length≤10)∧∀ n ∈ ns,Nn n
def qJ (K:PySem.W.Frag) (C:Addr):Sp:=fun vs H Q E=>∃ (l:Addr) (ns:List Int),vs=[.ref l]∧aX K H l (ns.map V.int)∧(∀ n ∈ ns,n.natAbs < 2 ^ 1000)∧(IC ns→Q .bJ H)∧(¬ IC ns→E (.ref C) none H)
theorem qK:aQ ["piece","sign"] ["piece"] (aH i4):=⟨rfl,rfl,rfl,by decide +kernel,rfl,by decide +kernel,by decide +kernel⟩
theorem yA (F:aP K mg "look_piece" i4) (T:Txt K mg t) (gY:Def P w K mg base 1 "is_sign" ["number"] mK):Def P w K mg base 2 "look_piece" ["piece"] (qJ K t.BadPiece):=by
 refine F.def qK (fun _ _ _ _ _ _ us hl=>match us,hl with | [_],_=>rfl) (fun vs H Q E h=>?_) (fun f bo A outer s H vs Q E hr h=>?_)
 ·obtain ⟨l,ns,rfl,_⟩:=h
  rfl
 ·obtain ⟨l,ns,rfl,hl,hb,q1,q2⟩:=h
  refine ⟨_,aC (bD (kJ (rR qB qB aF (bP (bQ K) (by rfl) T.iE boot_len (aA (pv 0) aE)) (aS T.n8)))
    (aG (eg bC rfl rfl T.zK T.zL PySem.F.excBase_ValueError (aA (jz (bU cZ (bU (ff (aS T.n8)) (bU cZ nj)))) aE)))
    (af))
   (aG (dD (Uh bC) rfl (cN K (pv 0)) (az (i:=1) qK.nd rfl (Or.inl rfl))
    (aG (bD (kJ (jH (aZ (gY.mono (by decide)) hr ar (aA (pv 1) aE))))
     (aG (eg bC rfl rfl T.zK T.zL PySem.F.excBase_ValueError (aA (jz (bU (ff (pv 1)) (bU cZ nj))) aE)))
     (af))))),?_⟩
  have sl:(3000:Nat)≤sizeLine:=by decide
  have z10:=gD (i:=10) (by decide)
  have l1:("a piece has 1 to ":Str).length=17:=by decide +kernel
  have l2:(" signs":Str).length=6:=by decide +kernel
  have e0:(Str.empty ++ ("a piece has 1 to ":Str)).length≤17:=by rw [strLen_append,l1];show 0+17≤17;omega
  have e1:((Str.empty ++ ("a piece has 1 to ":Str)) ++ Str.ofString (toString (10:Int))).length≤1018:=by rw [strLen_append];omega
  have e2:(((Str.empty ++ ("a piece has 1 to ":Str)) ++ Str.ofString (toString (10:Int))) ++ (" signs":Str)).length≤1024:=by rw [strLen_append];omega
  refine ⟨_,rfl,l,_,rfl,.inl hl,_,_,rfl,rfl,_,rfl,?_⟩
  rw [List.length_map]
  by_cases h1:(1:Int)≤(ns.length:Nat)
  ·refine eP h1 ?_
   refine ⟨_,_,rfl,rfl,_,rfl,?_⟩
   by_cases h2:((ns.length:Nat):Int)≤10
   ·rw [decide_eq_true h2]
    refine di ?_
    refine ⟨_,rfl,l,rfl,⟨_,hl⟩,lD (K:=K) (a:=l) (xs:=ns.map V.int) (fun i σ H'=>∃ x:Option V,σ=[some (.ref l),x]∧H'=H∧∀ n ∈ ns.take i,Nn n) ⟨none,rfl,rfl,fun n hn=>by simp at hn⟩ (fun i σ H' _ ⟨_,_,e,_⟩=>by rw [e];exact hl) ?_ ?_⟩
    ·rintro i y σ H' hi ⟨x,rfl,rfl,ha⟩
     obtain ⟨z,hz,rfl⟩:=mB hi
     have VG:z ∈ ns:=List.mem_of_getElem? hz
     refine ⟨_,rfl,z,rfl,_,rfl,?_⟩
     by_cases h0:0≤z∧z < 97
     ·rw [decide_eq_true h0]
      refine di ⟨some (.int z),rfl,rfl,?_⟩
      rw [take_succ hz]
      intro n hn
      rcases List.mem_append.mp hn with z1 | z1
      ·exact ha n z1
      ·rw [List.mem_singleton.mp z1];exact h0
     ·rw [decide_eq_false h0]
      refine fe ?_
      have hzl:=gD (hb z VG)
      have f0:(Str.empty ++ Str.ofString (toString z)).length≤1001:=by rw [strLen_append];show 0+_≤1001;omega
      have f1:((Str.empty ++ Str.ofString (toString z)) ++ (" is no sign":Str)).length≤2000:=by
       have:(" is no sign":Str).length=11:=by decide +kernel
       rw [strLen_append];omega
      refine ⟨_,rfl,z,rfl,dW (hb z VG) (by decide) (by decide),_,rfl,by omega,_,rfl,by omega,by omega,?_⟩
      exact ⟨by show 1≤sizeLine;decide,q2 fun r=>h0 (r.2 z VG)⟩
    ·rintro σ H' ⟨x,rfl,rfl,ha⟩
     rw [List.length_map,List.take_length] at ha
     exact q1 ⟨⟨by omega,by omega⟩,ha⟩
   ·rw [decide_eq_false h2]
    refine fe ?_
    refine ⟨_,rfl,by omega,10,rfl,dW (n:=1000) (by decide) (by decide) (by decide),_,rfl,by omega,_,rfl,by omega,by omega,?_⟩
    exact ⟨by show 1≤sizeLine;decide,q2 fun r=>h2 (by have:=r.1.2;omega)⟩
  ·refine dX h1 ?_
   refine ⟨_,rfl,fe ?_⟩
   refine ⟨_,rfl,by omega,10,rfl,dW (n:=1000) (by decide) (by decide) (by decide),_,rfl,by omega,_,rfl,by omega,by omega,?_⟩
   exact ⟨by show 1≤sizeLine;decide,q2 fun r=>h1 (by have:=r.1.1;omega)⟩
def PX (K:PySem.W.Frag) (C N Bp:Addr):Sp:=fun vs H Q E=>∃ (B:Hp) (x tA pA l:Addr) (L:Lk) (ns:List Int),vs=[.ref x,.ref l]∧bO C B H x tA pA L∧L.bS.length < 1000000∧aX K H l (ns.map V.int)∧(∀ n ∈ ns,n.natAbs < 2 ^ 1000) ∧
 (L.p=none→E (.ref N) none H)∧(L.p≠none→¬ IC ns→E (.ref Bp) none H)∧(L.p≠none→IC ns→∀ B' H',jV B H B' H' x tA pA tA pA→bO C B' H' x tA pA { L with bS:=L.bS ++ [ns] }→Q .bJ H')
theorem VX:aQ ["self","piece"] ["self","piece"] (aH zH):=⟨rfl,rfl,rfl,by decide +kernel,rfl,by decide +kernel,by decide +kernel⟩
theorem VY {fd:FuncData} (T:Txt K mg t) (F:kL K "put" "LinkEnd.put" zH t.HK fd) (mX:Def P w K mg base 2 "look_piece" ["piece"] (qJ K t.BadPiece)) :
  bZ P w K mg base (i9 P w) 3 t.HK fd ["self","piece"] (PX K t.LinkEnd t.NoLink t.BadPiece)∧Binds K fd ["self","piece"] []:=by
 refine ⟨F.qR VX (fun vs H Q E h=>?_) (fun f bo A outer s H vs Q E hr h=>?_),F.binds fun _ _ _ _ _ _ us hl=>match us,hl with | [_,_],_=>rfl⟩
 ·obtain ⟨B,x,tA,pA,l,L,ns,rfl,_⟩:=h
  rfl
 ·obtain ⟨B,x,tA,pA,l,L,ns,rfl,h,hlen,hl,hb,q1,q2,q3⟩:=h
  refine ⟨_,aC (bD (aW tF (ao K (pv 0) (by rfl)) cK (aj _))
    (aG (eg bC rfl rfl T.RP T.RR PySem.F.excBase_ValueError (aA cZ aE)))
    (af))
   (aC (ax (aZ (mX.mono (by decide)) hr (lG bC) (aA (pv 1) aE)))
   (aG (ax (jM K PySem.F.plainAttrs_list PySem.F.slot_list_append PySem.F.type_list_append cP (ao K (pv 0) (by rfl)) (aA (gP (gQ K) (by rfl) T.qU boot_list (aA (pv 1) aE)) aE))))),?_⟩
  have hsz:(1000001:Nat)≤sizeLine:=by decide
  obtain ⟨dx,pv,hx,hp⟩:=h.at_
  obtain ⟨dt,g3,vU⟩:=h.bS
  refine ⟨_,rfl,x,t.LinkEnd,dx,_,_,rfl,hx,T.aJ,T.gC,oJ,rfl,_,rfl,?_⟩
  cases ep:L.p with
  | none =>
   rw [ep] at hp
   have hp:pv=.bJ:=hp
   subst hp
   refine eP rfl ?_
   exact ⟨by show 1≤sizeLine;decide,q1 ep⟩
  | some p =>
   have hn:L.p≠none:=by rw [ep];exact fun z=>by cases z
   rw [ep] at hp
   obtain ⟨pa,rfl,Lb⟩:=hp
   refine dX (fun z=>by cases z) ?_
   refine ⟨_,rfl,l,ns,rfl,hl,hb,fun Zw=>?_,fun z=>q2 hn z⟩
   refine ⟨_,rfl,x,t.LinkEnd,dx,_,_,rfl,hx,T.aJ,T.gX,lV,.inl ⟨rfl,_,aX.of g3⟩,?_⟩
   refine ⟨_,rfl,l,_,rfl,.inl hl,fun c hc=>?_⟩
   have s1:aI H (upd H c (.lst (ns.map V.int))):=(aI.refl _).new hc
   obtain ⟨h1,m1⟩:=h.grow (o:=.lst (ns.map V.int)) s1 hc aB
   refine ⟨pA,_,_,rfl,rfl,s1 _ _ g3,by rw [aL];omega,?_⟩
   have bc:(upd B c (.lst (ns.map V.int))) c=some (.lst (ns.map V.int)):=aB
   have g31:=s1 _ _ g3
   generalize upd H c (.lst (ns.map V.int))=H1 at *
   have sB:=m1.bb
   generalize upd B c (.lst (ns.map V.int))=B1 at *
   obtain ⟨wb,Rn,xw,HY⟩:=h1.at_
   obtain ⟨gO,g2,Hs⟩:=h1.told
   rw [dS]
   refine q3 hn Zw B1 _ (m1.trans ⟨aI.refl _,fun _ _ z=>z,fun y o _ _ n3 e=>by rw [aD n3];exact e,fun b hb=>dm hb h1.hp,.inl rfl,.inl rfl⟩) ⟨h1.sb.put h1.bp,h1.bx,h1.bt,h1.bp,⟨wb,Rn,by rw [aD h.xp];exact xw,HY⟩,⟨gO,by rw [aD h.ne];exact g2,Hs⟩,⟨fun k=>if k=L.bS.length then c else dt k,?_,fun y xs hy=>?_⟩,h.ne⟩
   ·rw [aB]
    show some (HO.lst (bK (L.bS.length+1) _))=some (HO.lst (bK (L.bS ++ [ns]).length _))
    rw [List.length_append];rfl
   ·have hy:(L.bS ++ [ns])[y]?=some xs:=hy
    by_cases z:y=L.bS.length
    ·rw [z,List.getElem?_append_right (Nat.le_refl _),Nat.sub_self] at hy
     cases hy
     simp only [z,if_true]
     exact bc
    ·have YT:y < (L.bS ++ [ns]).length:=(List.getElem?_eq_some_iff.mp hy).1
     rw [List.length_append] at YT
     have VL:y < L.bS.length:=by simp at YT;omega
     rw [List.getElem?_append_left VL] at hy
     simp only [z,if_false]
     exact sB _ _ (vU y xs hy)
end
end K31
namespace K31
open PySem L2 PyProof.Rows
section
variable {P:Program} {w:World} {K:PySem.W.Frag} {mg:Str→Option Value} {base:Heap} {t:Ad}
abbrev Pr:=Int × Int
def own (s:Nat) (P:Pr):Int:=if s=0 then P.1 else P.2
def zU (s:Nat) (P:Pr):Int:=if s=0 then P.2 else P.1
def pr (s:Nat) (b k:Int):Pr:=if s=0 then (b,k) else (k,b)
theorem oK (s:Nat) (b k:Int):own s (pr s b k)=b:=by unfold own pr;split <;> rfl
theorem tw (s:Nat) (b k:Int):zU s (pr s b k)=k:=by unfold zU pr;split <;> rfl
theorem R7 {s:Nat} (h:s < 2) (b k:Int):pr (1 - s) b k=pr s k b:=by
 match s,h with
 | 0,_=>rfl
 | 1,_=>rfl
 | s+2,h=>omega
structure Gh where
 W:Nat→Pr→List (List Int)
 O:Nat→Pr→Nat
 K:Nat→Pr→Nat
 U:Nat→Pr→Prop
def Unr (s:Nat) (L:Lk) (P:Pr):Prop:=L.b < own s P∨(own s P=L.b∧L.k < zU s P)
structure oM (G:Gh) (s:Nat) (P:Pr):Prop where
 w:G.W s P=[]
 o:G.O s P=0
 k:G.K s P=0
 u:¬ G.U s P
structure En (G:Gh) (s:Nat) (L:Lk):Prop where
 sd:L.s=(s:Int)
 o:L.of=(G.O s (pr s L.b L.k):Int) % 97
 t:L.tk=(G.K s (pr s L.b L.k):Int) % 97
 p:L.bS=(G.W s (pr s L.b L.k)).drop (G.O s (pr s L.b L.k))
 ow:G.O s (pr s L.b L.k)≤(G.W s (pr s L.b L.k)).length
 dn:L.p=none→oM G s (pr s L.b L.k)
 up:∀ x,L.p=some x→x=pr s L.b L.k∧G.U s (pr s L.b L.k)
 un:∀ P,Unr s L P→oM G s P
 um:∀ P,G.U s P→own s P≤L.b∧(own s P=L.b→zU s P≤L.k)
def Rel (G:Gh):Prop:=∀ s,s < 2→∀ P,G.O s P≤G.K (1 - s) P∧G.K (1 - s) P≤G.O s P+1∧G.K (1 - s) P≤(G.W s P).length
structure dY (G:Gh) (s:Nat) (a:Cl) (AZ:Nat):Prop where
 ex:∃ nc cc:Nat,a.n=(nc:Int) % 97∧a.c=(cc:Int) % 97∧nc≤G.O s (pr s a.b a.k)∧cc≤G.K s (pr s a.b a.k)∧G.O s (pr s a.b a.k)≤nc+AZ∧G.K s (pr s a.b a.k)≤cc+AZ∧(a.xs=[]∨(G.W s (pr s a.b a.k))[nc]?=some a.xs)
 m:∀ P,G.U (1 - s) P→own (1 - s) P < a.k→zU (1 - s) P≤a.b
def dZ {α:Type} (f:Nat→Pr→α) (s:Nat) (P:Pr) (v:α):Nat→Pr→α:=fun i Q=>if i=s∧Q=P then v else f i Q
theorem bM {α:Type} {f:Nat→Pr→α} {s:Nat} {P:Pr} {v:α}:dZ f s P v s P=v:=if_pos ⟨rfl,rfl⟩
theorem cC {α:Type} {f:Nat→Pr→α} {s i:Nat} {P Q:Pr} {v:α} (h:¬ (i=s∧Q=P)):dZ f s P v i Q=f i Q:=if_neg h
structure Wt where
 p:Option Pr
 k:Pr→Nat
 u:Pr→Prop
def wt (G:Gh) (s:Nat) (L:Lk):Wt:=⟨L.p,G.K s,G.U s⟩
inductive pw (W:Pr→List (List Int)):Wt→List Ev→Wt→Prop
 | nil (a):pw W a [] a
 | up {a b:Wt} {es:List Ev} {x:Pr} (h:pw W a es b) (hp:b.p=none) (hu:¬ b.u x) (hm:∀ P,b.u P→P.1≤x.1∧P.2≤x.2) (hz:b.k x=0):pw W a (es ++ [.mk "up" x []]) ⟨some x,b.k,fun P=>P=x∨b.u P⟩
 | anew {a b:Wt} {es:List Ev} {x:Pr} (h:pw W a es b) (hp:b.p=some x):pw W a (es ++ [.mk "anew" x []]) ⟨none,b.k,b.u⟩
 | sil {a b:Wt} {es:List Ev} {x:Pr} {f e:Int} (h:pw W a es b) (hp:b.p=some x):pw W a (es ++ [.mk "silent" x [f,e]]) ⟨none,b.k,b.u⟩
 | took {a b:Wt} {es:List Ev} {x:Pr} {xs:List Int} (h:pw W a es b) (hp:b.p=some x) (hw:(W x)[b.k x]?=some xs):pw W a (es ++ [.took xs]) ⟨b.p,fun P=>if P=x then b.k x+1 else b.k P,b.u⟩
structure kS (r:Nat) (b:Int) (G G':Gh):Prop where
 w:G'.W=G.W
 o:∀ i,i≠r→G'.O i=G.O i
 k:∀ i,i≠r→G'.K i=G.K i
 u:∀ i,i≠r→G'.U i=G.U i
 om:∀ P,G.O r P≤G'.O r P
 km:∀ P,G.K r P≤G'.K r P
 un:∀ P,G'.U r P→G.U r P∨own r P=b
theorem kS.refl {r:Nat} {b:Int} {G:Gh}:kS r b G G:=⟨rfl,fun _ _=>rfl,fun _ _=>rfl,fun _ _=>rfl,fun _=>Nat.le_refl _,fun _=>Nat.le_refl _,fun _ h=>.inl h⟩
theorem kS.trans {r:Nat} {β:Int} {G G1 G2:Gh} (a:kS r β G G1) (b:kS r β G1 G2):kS r β G G2 :=
 ⟨b.w.trans a.w,fun i h=>(b.o i h).trans (a.o i h),fun i h=>(b.k i h).trans (a.k i h),fun i h=>(b.u i h).trans (a.u i h),fun P=>Nat.le_trans (a.om P) (b.om P),fun P=>Nat.le_trans (a.km P) (b.km P),fun P h=>(b.un P h).elim (a.un P) .inr⟩
theorem dY.grow {r:Nat} {β:Int} {G G':Gh} (g:kS r β G G') {s:Nat} (hs:s≠r) (hr:r=1 - s) {a:Cl} {AZ:Nat} (hk:a.k≤β) (h:dY G s a AZ):dY G' s a AZ:=by
 obtain ⟨nc,cc,h1⟩:=h.ex
 refine ⟨⟨nc,cc,by rw [g.o s hs,g.k s hs,g.w];exact h1⟩,fun P hP ho=>?_⟩
 subst hr
 rcases g.un P hP with z | z
 ·exact h.m P z ho
 ·omega
theorem Yg {s:Nat} {P:Pr} {b k:Int} (h1:own s P≤b) (h2:zU s P≤k):P.1≤(pr s b k).1∧P.2≤(pr s b k).2:=by
 unfold own zU at *
 unfold pr
 split
 ·rename_i z;rw [if_pos z] at h1 h2;exact ⟨h1,h2⟩
 ·rename_i z;rw [if_neg z] at h1 h2;exact ⟨h2,h1⟩
theorem fW {G:Gh} {s:Nat} {L:Lk} (sd:L.s=(s:Int)) (fr:oM G s (pr s L.b L.k)) (h1:L.p=none) (h2:L.bS=[]) (h3:L.of=0) (h4:L.tk=0) (un:∀ P,Unr s L P→oM G s P) (um:∀ P,G.U s P→own s P≤L.b∧(own s P=L.b→zU s P≤L.k)):En G s L :=
 ⟨sd,by rw [fr.o,h3];rfl,by rw [fr.k,h4];rfl,by rw [fr.w,h2,List.drop_nil],by rw [fr.o];exact Nat.zero_le _,fun _=>fr,fun x hx=>(by rw [h1] at hx;cases hx),un,um⟩
theorem En.zero {G:Gh} {s:Nat} {L:Lk} (h:En G s L) (hp:L.p=none):L.bS=[]∧L.of=0∧L.tk=0:=by
 have fr:=h.dn hp
 refine ⟨by rw [h.p,fr.w,List.drop_nil],by rw [h.o,fr.o];rfl,by rw [h.t,fr.k];rfl⟩
section
variable {G:Gh} {s r AZ:Nat} {L:Lk} {a:Cl}
theorem En.meet {A:Wt} {es0:List Ev} {W:Pr→List (List Int)} (h:En G s L) {n:Int} (hn:L.k≤n) (ht:pw W A L.ev (wt G s L)):En G s (bL L n)∧pw W A (bL L n).ev (wt G s (bL L n))∧(bL L n).b=L.b∧(bL L n).k=n:=by
 have mb:=AX L n
 by_cases e:L.k=n
 ·have em:bL L n=L:=by
   unfold bL
   obtain ⟨q,s,d,u,b,k,p,ev,bS,of,tk⟩:=L
   simp only at e
   subst e
   cases p with
   | none=>rfl
   | some x=>simp only;rw [if_neg (by omega)]
  rw [em];exact ⟨h,ht,rfl,e⟩
 ·have fE:L.k < n:=by omega
  have ur:Unr s L (pr s L.b n):=.inr ⟨oK _ _ _,by rw [tw];exact fE⟩
  have Yh:∀ P,Unr s { L with k:=n } P→oM G s P:=fun P hP=>h.un P (by
   rcases hP with z | ⟨z1,z2⟩
   ·exact .inl z
   ·exact .inr ⟨z1,by have z2:n < zU s P:=z2;omega⟩)
  have Yi:∀ P,G.U s P→own s P≤L.b∧(own s P=L.b→zU s P≤n):=fun P hP=>⟨(h.um P hP).1,fun z=>by have:=(h.um P hP).2 z;omega⟩
  cases ep:L.p with
  | none =>
   obtain ⟨z1,z2,z3⟩:=h.zero ep
   have em:bL L n={ L with k:=n }:=by unfold bL;rw [ep]
   rw [em]
   exact ⟨fW h.sd (h.un _ ur) ep z1 z2 z3 Yh Yi,ht,rfl,rfl⟩
  | some x =>
   have em:bL L n={ L with p:=none,bS:=[],of:=0,tk:=0,k:=n,ev:=L.ev ++ [.mk "anew" x []] }:=by unfold bL;rw [ep];simp only;rw [if_pos fE]
   rw [em]
   refine ⟨fW h.sd (h.un _ ur) rfl rfl rfl rfl Yh Yi,?_,rfl,rfl⟩
   exact pw.anew (b:=wt G s L) ht ep
theorem En.aBG {A:Wt} {W:Pr→List (List Int)} (h:En G s L) (hm:∀ P,G.U s P→own s P < L.b→zU s P≤L.k) (ht:pw W A L.ev (wt G s L)):∃ G',En G' s (bY L)∧kS s L.b G G'∧G'.O=G.O∧G'.K=G.K∧pw W A (bY L).ev (wt G' s (bY L))∧(bY L).b=L.b∧(bY L).k=L.k∧(bY L).p≠none:=by
 cases ep:L.p with
 | some x =>
  have ec:bY L=L:=by unfold bY;rw [ep]
  rw [ec]
  exact ⟨G,h,kS.refl,rfl,rfl,ht,rfl,rfl,by rw [ep];exact fun z=>by cases z⟩
 | none =>
  have epr:(if L.s=0 then (L.b,L.k) else (L.k,L.b))=pr s L.b L.k:=by
   unfold pr
   rw [h.sd]
   by_cases z:s=0
   ·rw [if_pos z,if_pos (by omega)]
   ·rw [if_neg z,if_neg (by omega)]
  have ec:bY L={ L with p:=some (pr s L.b L.k),ev:=L.ev ++ [.mk "up" (pr s L.b L.k) []] }:=by unfold bY;rw [ep];simp only;rw [epr]
  rw [ec]
  have fr:=h.dn ep
  have pk:∀ P,Unr s L P→P≠pr s L.b L.k:=fun P hP z=>by
   rw [z] at hP
   rcases hP with y | ⟨_,y⟩
   ·rw [oK] at y;omega
   ·rw [tw] at y;omega
  refine ⟨⟨G.W,G.O,G.K,fun i P=>(i=s∧P=pr s L.b L.k)∨G.U i P⟩,⟨h.sd,h.o,h.t,h.p,h.ow,(fun z=>by cases z),fun x hx=>?_,fun P hP=>?_,fun P hP=>hP.elim (fun y=>by rw [y.2,oK,tw];exact ⟨Int.le_refl _,fun _=>Int.le_refl _⟩) (h.um P)⟩,⟨rfl,fun _ _=>rfl,fun _ _=>rfl,fun i hi=>?_,fun _=>Nat.le_refl _,fun _=>Nat.le_refl _,fun P hP=>hP.elim (fun y=>.inr (by rw [y.2,oK])) .inl⟩,rfl,rfl,?_,rfl,rfl,(fun z=>by cases z)⟩
  ·cases hx;exact ⟨rfl,.inl ⟨rfl,rfl⟩⟩
  ·have f:=h.un P hP
   exact ⟨f.w,f.o,f.k,fun z=>z.elim (fun y=>pk P hP y.2) f.u⟩
  ·funext P
   show ((i=s∧P=pr s L.b L.k)∨G.U i P)=G.U i P
   rw [eq_iff_iff]
   exact ⟨fun z=>z.elim (fun y=>absurd y.1 hi) id,.inr⟩
  ·have:=pw.up (x:=pr s L.b L.k) (b:=wt G s L) ht ep fr.u (fun P hP=>Yg (h.um P hP).1 (by
    have a1:=(h.um P hP).1
    by_cases z:own s P=L.b
    ·exact (h.um P hP).2 z
    ·exact hm P hP (by omega))) fr.k
   have e2:(wt ⟨G.W,G.O,G.K,fun i P=>(i=s∧P=pr s L.b L.k)∨G.U i P⟩ s { L with p:=some (pr s L.b L.k),ev:=L.ev ++ [.mk "up" (pr s L.b L.k) []] })=⟨some (pr s L.b L.k),(wt G s L).k,fun P=>P=pr s L.b L.k∨(wt G s L).u P⟩:=by
    unfold wt
    congr 1
    funext P
    show ((s=s∧P=pr s L.b L.k)∨G.U s P)=(P=pr s L.b L.k∨G.U s P)
    rw [eq_iff_iff]
    exact ⟨fun z=>z.elim (fun y=>.inl y.2) .inr,fun z=>z.elim (fun y=>.inl ⟨rfl,y⟩) .inr⟩
   rw [e2]
   exact this
theorem En.aBH {A:Wt} {W:Pr→List (List Int)} (hs:s < 2) (h:En G s L) (rel:Rel G) (hu:L.p≠none) (c:Int) (cc:Nat) (hc:c=(cc:Int) % 97) (h1:cc≤G.K (1 - s) (pr s L.b L.k)) (h2:G.K (1 - s) (pr s L.b L.k)≤cc+8) (ht:pw W A L.ev (wt G s L)) :
  ∃ G',En G' s (cB L c)∧Rel G'∧kS s L.b G G'∧pw W A (cB L c).ev (wt G' s (cB L c))∧(cB L c).b=L.b∧(cB L c).k=L.k∧(cB L c).p=L.p:=by
 by_cases z:L.bS≠[]∧c=(L.of+1) % 97
 ·obtain ⟨z1,z2⟩:=z
  have eh:cB L c={ L with bS:=L.bS.tail,of:=(L.of+1) % 97 }:=if_pos ⟨z1,z2⟩
  rw [eh]
  obtain ⟨r1,r2,r3⟩:=rel s hs (pr s L.b L.k)
  have ho:=h.o
  have e1:cc=G.O s (pr s L.b L.k)+1:=by rw [hc,ho] at z2;omega
  have e2:G.K (1 - s) (pr s L.b L.k)=G.O s (pr s L.b L.k)+1:=by omega
  have fE:G.O s (pr s L.b L.k) < (G.W s (pr s L.b L.k)).length:=by omega
  have pk:∀ P,Unr s L P→P≠pr s L.b L.k:=fun P hP y=>by
   rw [y] at hP
   rcases hP with w | ⟨_,w⟩
   ·rw [oK] at w;omega
   ·rw [tw] at w;omega
  refine ⟨⟨G.W,dZ G.O s (pr s L.b L.k) (G.O s (pr s L.b L.k)+1),G.K,G.U⟩,⟨h.sd,?_,h.t,?_,?_,fun y=>absurd y hu,h.up,fun P hP=>?_,h.um⟩,?_,⟨rfl,fun i hi=>?_,fun _ _=>rfl,fun _ _=>rfl,fun P=>?_,fun _=>Nat.le_refl _,fun _ h=>.inl h⟩,ht,rfl,rfl,rfl⟩
  ·show (L.of+1) % 97=((dZ G.O s (pr s L.b L.k) (G.O s (pr s L.b L.k)+1) s (pr s L.b L.k):Nat):Int) % 97
   rw [bM,ho];omega
  ·show L.bS.tail=(G.W s (pr s L.b L.k)).drop (dZ G.O s (pr s L.b L.k) (G.O s (pr s L.b L.k)+1) s (pr s L.b L.k))
   rw [bM,h.p,List.tail_drop]
  ·show dZ G.O s (pr s L.b L.k) (G.O s (pr s L.b L.k)+1) s (pr s L.b L.k)≤_
   rw [bM];exact fE
  ·have f:=h.un P hP
   exact ⟨f.w,by show dZ G.O s (pr s L.b L.k) _ s P=0;rw [cC (fun y=>pk P hP y.2)];exact f.o,f.k,f.u⟩
  ·intro i hi P
   show dZ G.O s (pr s L.b L.k) (G.O s (pr s L.b L.k)+1) i P≤G.K (1 - i) P∧G.K (1 - i) P≤dZ G.O s (pr s L.b L.k) (G.O s (pr s L.b L.k)+1) i P+1∧G.K (1 - i) P≤(G.W i P).length
   by_cases y:i=s∧P=pr s L.b L.k
   ·rw [y.1,y.2,bM]
    exact ⟨by omega,by omega,r3⟩
   ·rw [cC y];exact rel i hi P
  ·funext P
   exact cC fun y=>hi y.1
  ·show G.O s P≤dZ G.O s (pr s L.b L.k) (G.O s (pr s L.b L.k)+1) s P
   by_cases y:P=pr s L.b L.k
   ·rw [y,bM];omega
   ·rw [cC (fun w=>y w.2)];exact Nat.le_refl _
 ·have eh:cB L c=L:=if_neg z
  rw [eh]
  exact ⟨G,h,rel,kS.refl,ht,rfl,rfl,rfl⟩
theorem En.take {A:Wt} (hs:s < 2) (h:En G s L) (rel:Rel G) (hu:L.p≠none) (n:Int) (xs:List Int) (nc:Nat) (hn:n=(nc:Int) % 97) (h1:nc≤G.O (1 - s) (pr s L.b L.k)) (h2:G.O (1 - s) (pr s L.b L.k)≤nc+8) (hx:xs=[]∨(G.W (1 - s) (pr s L.b L.k))[nc]?=some xs) (ht:pw (G.W (1 - s)) A L.ev (wt G s L)) :
  ∃ G',En G' s (dP L n xs)∧Rel G'∧kS s L.b G G'∧pw (G.W (1 - s)) A (dP L n xs).ev (wt G' s (dP L n xs))∧(dP L n xs).b=L.b∧(dP L n xs).k=L.k∧(dP L n xs).p=L.p:=by
 by_cases z:xs≠[]∧n=L.tk
 ·obtain ⟨z1,z2⟩:=z
  have eh:dP L n xs={ L with ev:=L.ev ++ [.took xs],tk:=(L.tk+1) % 97 }:=if_pos ⟨z1,z2⟩
  rw [eh]
  have uy:1 - s < 2:=by omega
  have Dk:1 - (1 - s)=s:=by omega
  obtain ⟨r1,r2,r3⟩:=rel (1 - s) uy (pr s L.b L.k)
  rw [Dk] at r1 r2 r3
  have ho:=h.t
  have e1:nc=G.K s (pr s L.b L.k):=by rw [hn,ho] at z2;omega
  have hw:(G.W (1 - s) (pr s L.b L.k))[G.K s (pr s L.b L.k)]?=some xs:=by rw [← e1];exact hx.resolve_left z1
  have fE:G.K s (pr s L.b L.k) < (G.W (1 - s) (pr s L.b L.k)).length:=(List.getElem?_eq_some_iff.mp hw).1
  have pk:∀ P,Unr s L P→P≠pr s L.b L.k:=fun P hP y=>by
   rw [y] at hP
   rcases hP with w | ⟨_,w⟩
   ·rw [oK] at w;omega
   ·rw [tw] at w;omega
  obtain ⟨x,ex⟩:∃ x,L.p=some x:=by
   cases e:L.p with
   | none=>exact absurd e hu
   | some x=>exact ⟨x,rfl⟩
  have exP:=(h.up x ex).1
  refine ⟨⟨G.W,G.O,dZ G.K s (pr s L.b L.k) (G.K s (pr s L.b L.k)+1),G.U⟩,⟨h.sd,h.o,?_,h.p,h.ow,fun y=>absurd y hu,h.up,fun P hP=>?_,h.um⟩,?_,⟨rfl,fun _ _=>rfl,fun i hi=>?_,fun _ _=>rfl,fun _=>Nat.le_refl _,fun P=>?_,fun _ h=>.inl h⟩,?_,rfl,rfl,rfl⟩
  ·show (L.tk+1) % 97=((dZ G.K s (pr s L.b L.k) (G.K s (pr s L.b L.k)+1) s (pr s L.b L.k):Nat):Int) % 97
   rw [bM,ho];omega
  ·have f:=h.un P hP
   exact ⟨f.w,f.o,by show dZ G.K s (pr s L.b L.k) _ s P=0;rw [cC (fun y=>pk P hP y.2)];exact f.k,f.u⟩
  ·intro i hi P
   show G.O i P≤dZ G.K s (pr s L.b L.k) (G.K s (pr s L.b L.k)+1) (1 - i) P∧dZ G.K s (pr s L.b L.k) (G.K s (pr s L.b L.k)+1) (1 - i) P≤G.O i P+1∧dZ G.K s (pr s L.b L.k) (G.K s (pr s L.b L.k)+1) (1 - i) P≤(G.W i P).length
   by_cases y:1 - i=s∧P=pr s L.b L.k
   ·have ei:i=1 - s:=by omega
    rw [y.1,y.2,bM,ei]
    exact ⟨by omega,by omega,by omega⟩
   ·rw [cC y];exact rel i hi P
  ·funext P
   exact cC fun y=>hi y.1
  ·show G.K s P≤dZ G.K s (pr s L.b L.k) (G.K s (pr s L.b L.k)+1) s P
   by_cases y:P=pr s L.b L.k
   ·rw [y,bM];omega
   ·rw [cC (fun w=>y w.2)];exact Nat.le_refl _
  ·have:=pw.took (x:=pr s L.b L.k) (b:=wt G s L) ht (by show L.p=_;rw [ex,exP]) hw
   have e2:wt ⟨G.W,G.O,dZ G.K s (pr s L.b L.k) (G.K s (pr s L.b L.k)+1),G.U⟩ s { L with ev:=L.ev ++ [.took xs],tk:=(L.tk+1) % 97 }=⟨(wt G s L).p,fun P=>if P=pr s L.b L.k then (wt G s L).k (pr s L.b L.k)+1 else (wt G s L).k P,(wt G s L).u⟩:=by
    unfold wt
    congr 1
    funext P
    show dZ G.K s (pr s L.b L.k) (G.K s (pr s L.b L.k)+1) s P=if P=pr s L.b L.k then G.K s (pr s L.b L.k)+1 else G.K s P
    by_cases y:P=pr s L.b L.k
    ·rw [y,bM,if_pos rfl]
    ·rw [cC (fun w=>y w.2),if_neg y]
   rw [e2]
   exact this
 ·have eh:dP L n xs=L:=if_neg z
  rw [eh]
  exact ⟨G,h,rel,kS.refl,ht,rfl,rfl,rfl⟩
theorem En.read {A:Wt} (hs:s < 2) (h:En G s L) (rel:Rel G) (hc:dY G (1 - s) a 8) (VZ:a.k≤L.b) (ht:pw (G.W (1 - s)) A L.ev (wt G s L)) :
  ∃ G',En G' s (cq L a)∧Rel G'∧kS s L.b G G'∧pw (G.W (1 - s)) A (cq L a).ev (wt G' s (cq L a))∧(cq L a).b=L.b:=by
 unfold cq
 by_cases z:a.b < L.k
 ·rw [if_pos z];exact ⟨G,h,rel,kS.refl,ht,rfl⟩
 ·rw [if_neg z]
  obtain ⟨m1,m2,m3,m4⟩:=h.meet (es0:=[]) (n:=a.b) (by omega) ht
  by_cases y:a.k=(bL L a.b).b
  ·rw [if_pos y]
   generalize bL L a.b=L1 at *
   have VH:=hc.m
   rw [show 1 - (1 - s)=s by omega] at VH
   obtain ⟨G2,c1,c2,c3,c4,c5,c6,c7,c8⟩:=m1.aBG (fun P hP ho=>by rw [m4];exact VH P hP (by rw [y];exact ho)) m2
   rw [m3] at c2
   have ePr:pr (1 - s) a.b a.k=pr s (bY L1).b (bY L1).k:=by rw [R7 hs,c6,c7,m4,y]
   have U3:Rel G2:=fun i hi P=>by rw [c3,c4,c2.w];exact rel i hi P
   generalize bY L1=L2 at *
   obtain ⟨nc,cc,k1,k2,k3,k4,k5,k6,k7⟩:=(hc.grow c2 (show 1 - s≠s by omega) (by omega) VZ).ex
   rw [ePr] at k3 k4 k5 k6 k7
   obtain ⟨G3,d1,d2,d3,d4,d5,d6,d7⟩:=c1.aBH hs U3 c8 a.c cc k2 k4 k6 c5
   have Yj:pr s (cB L2 a.c).b (cB L2 a.c).k=pr s L2.b L2.k:=by rw [d5,d6]
   have k3':=k3;have k5':=k5;have k7':=k7
   rw [← d3.o (1 - s) (by omega),← Yj] at k3' k5'
   rw [← d3.w,← Yj] at k7'
   have w3:G3.W (1 - s)=G.W (1 - s):=by rw [d3.w,c2.w]
   rw [← w3] at d4
   obtain ⟨G4,e1,e2,e3,e4,e5,_,_⟩:=d1.take hs d2 (by rw [d7];exact c8) a.n a.xs nc k1 k3' k5' k7' d4
   have eb:(cB L2 a.c).b=L.b:=by rw [d5,c6,m3]
   rw [eb] at e3 e5
   rw [c6,m3] at d3
   exact ⟨G4,e1,e2,(c2.trans d3).trans e3,by rw [← w3];exact e4,e5⟩
  ·rw [if_neg y];exact ⟨G,m1,rel,kS.refl,m2,m3⟩
theorem En.Th {A:Wt} (hs:s < 2):∀ (bs:List Cl) (G:Gh) (L:Lk),En G s L→Rel G→(∀ a ∈ bs,dY G (1 - s) a 8)→(∀ a ∈ bs,a.k≤L.b)→pw (G.W (1 - s)) A L.ev (wt G s L) →
  ∃ G',En G' s (ak L bs)∧Rel G'∧kS s L.b G G'∧pw (G.W (1 - s)) A (ak L bs).ev (wt G' s (ak L bs))∧(ak L bs).b=L.b
 | [],G,L,h,rel,_,_,ht=>⟨G,h,rel,kS.refl,ht,rfl⟩
 | a :: r,G,L,h,rel,hc,VZ,ht=>by
  obtain ⟨G1,h1,r1,g1,t1,b1⟩:=h.read hs rel (hc a List.mem_cons_self) (VZ a List.mem_cons_self) ht
  have w1:G1.W (1 - s)=G.W (1 - s):=by rw [g1.w]
  rw [← w1] at t1
  obtain ⟨G2,h2,r2,g2,t2,b2⟩:=En.Th hs r G1 (cq L a) h1 r1 (fun x hx=>(hc x (List.mem_cons_of_mem _ hx)).grow g1 (by omega) (by omega) (VZ x (List.mem_cons_of_mem _ hx))) (fun x hx=>by rw [b1];exact VZ x (List.mem_cons_of_mem _ hx)) t1
  rw [b1] at g2
  exact ⟨G2,h2,r2,g1.trans g2,by rw [← w1];exact t2,b2.trans b1⟩
theorem En.quiet {A:Wt} {W:Pr→List (List Int)} (h:En G s L) (hk:0≤L.k) (ht:pw W A L.ev (wt G s L)):En G s (bH L)∧pw W A (bH L).ev (wt G s (bH L)):=by
 unfold bH
 split
 ·have ur:Unr s L (pr s (L.b+1) 0):=.inl (by rw [oK];omega)
  have Yh:∀ P,(L.b+1 < own s P∨(own s P=L.b+1∧0 < zU s P))→oM G s P:=fun P hP=>h.un P (.inl (by rcases hP with z | ⟨z,_⟩ <;> omega))
  have Yi:∀ P,G.U s P→own s P≤L.b+1∧(own s P=L.b+1→zU s P≤0):=fun P hP=>by have:=(h.um P hP).1;exact ⟨by omega,fun z=>by omega⟩
  cases ep:L.p with
  | none =>
   obtain ⟨z1,z2,z3⟩:=h.zero ep
   have em:iG L={ L with b:=L.b+1,k:=0 }:=by unfold iG;rw [ep]
   rw [em]
   exact ⟨fW h.sd (h.un _ ur) ep z1 z2 z3 Yh Yi,ht⟩
  | some x =>
   have em:iG L={ L with p:=none,bS:=[],of:=0,tk:=0,b:=L.b+1,k:=0,ev:=L.ev ++ [.mk "silent" x [L.d - L.q+1,L.d]] }:=by unfold iG;rw [ep]
   rw [em]
   exact ⟨fW h.sd (h.un _ ur) rfl rfl rfl rfl Yh Yi,pw.sil (b:=wt G s L) ht ep⟩
 ·exact ⟨h,ht⟩
theorem En.re {L':Lk} (h:En G s L) (h1:L'.s=L.s) (h2:L'.b=L.b) (h3:L'.k=L.k) (h4:L'.p=L.p) (h5:L'.bS=L.bS) (h6:L'.of=L.of) (h7:L'.tk=L.tk):En G s L':=by
 refine ⟨h1.trans h.sd,?_,?_,?_,?_,?_,?_,?_,by rw [h2,h3];exact h.um⟩
 ·rw [h6,h2,h3];exact h.o
 ·rw [h7,h2,h3];exact h.t
 ·rw [h5,h2,h3];exact h.p
 ·rw [h2,h3];exact h.ow
 ·rw [h2,h3,h4];exact h.dn
 ·rw [h2,h3,h4];exact h.up
 ·intro P hP
  refine h.un P ?_
  unfold Unr at hP ⊢
  rw [h2,h3] at hP
  exact hP
theorem En.tick {bs:List Cl} (hs:s < 2) (h:En G s L) (rel:Rel G) (hk:ux L) (LR:∀ a ∈ bs,Dj a.b) (hc:∀ a ∈ bs,dY G (1 - s) a 8) (VZ:∀ a ∈ bs,a.k≤L.b) (PF:L.ev=[]) :
  ∃ G',En G' s { dR L bs with ev:=[] }∧Rel G'∧kS s L.b G G'∧pw (G.W (1 - s)) (wt G s L) (dR L bs).ev (wt G' s (dR L bs))∧(ak L bs).b=L.b∧∀ P,G'.U s P→G.U s P∨zU s P≤(ak L bs).k:=by
 obtain ⟨G1,h1,r1,g1,t1,b1⟩:=En.Th (A:=wt G s L) hs bs G L h rel hc VZ (by rw [PF];exact .nil _)
 have k1:=(sN bs L hk LR).k.1
 have h2:En G1 s (iH (ak L bs) bs):=h1.re rfl rfl rfl rfl rfl rfl rfl
 obtain ⟨h3,t3⟩:=h2.quiet (W:=G.W (1 - s)) (A:=wt G s L) k1 t1
 exact ⟨G1,h3.re rfl rfl rfl rfl rfl rfl rfl,r1,g1,t3,b1,fun P hP=>(g1.un P hP).elim .inl fun z=>.inr ((h1.um P hP).2 (by rw [b1];exact z))⟩
end
end
end K31
namespace K31
open PySem L2 PyProof.Rows
section
variable {P:Program} {w:World} {K:PySem.W.Frag} {mg:Str→Option Value} {base:Heap} {t:Ad}
abbrev Ts:=List (Int × Int)
structure kT (ts:Ts):Prop where
 len:ts.length≤4
 at_:∀ q ∈ ts,(0≤q.1∧q.1 < 24)∧1≤q.2∧q.2≤96
 nd:(ts.map fun q=>q.1.toNat).Nodup
def oN (K:PySem.W.Frag) (H:Hp) (a:Addr) (ts:Ts):Prop:=∃ wm:Nat→Addr,bw K H a (bK ts.length wm)∧∀ y q,ts[y]?=some q→bw K H (wm y) [.int q.1,.int q.2]
theorem oN.same {K:PySem.W.Frag} {H H':Hp} {a:Addr} {ts:Ts} (h:oN K H a ts) (s:aI H H'):oN K H' a ts:=by
 obtain ⟨wm,h1,h2⟩:=h
 exact ⟨wm,s.tup h1,fun y q e=>s.tup (h2 y q e)⟩
def J3 (f:Nat→Int) (i:Nat) (v:Int):Nat→Int:=fun j=>if j=i then v else f j
def eK (f:Nat→Int) (ts:Ts):Nat→Int:=ts.foldl (fun f q=>J3 f q.1.toNat ((f q.1.toNat+q.2) % 97)) f
theorem M9 (f:Nat→Int) (ts:Ts) (q:Int × Int):eK f (ts ++ [q])=J3 (eK f ts) q.1.toNat ((eK f ts q.1.toNat+q.2) % 97):=by unfold eK;rw [List.foldl_append];rfl
theorem wo:∀ (ts:Ts) (f:Nat→Int) (i:Nat),i ∉ (ts.map fun q=>q.1.toNat)→eK f ts i=f i
 | [],_,_,_=>rfl
 | q :: r,f,i,h=>by
  rw [List.map_cons,List.mem_cons,not_or] at h
  show eK (J3 f q.1.toNat _) r i=f i
  rw [wo r _ i h.2]
  exact if_neg h.1
theorem Lo:∀ (ts:Ts) (f:Nat→Int),(ts.map fun q=>q.1.toNat).Nodup→∀ q ∈ ts,eK f ts q.1.toNat=(f q.1.toNat+q.2) % 97
 | p :: r,f,nd,q,hq=>by
  rw [List.map_cons,List.nodup_cons] at nd
  show eK (J3 f p.1.toNat _) r q.1.toNat=_
  rcases List.mem_cons.mp hq with rfl | hq
  ·rw [wo r _ _ nd.1]
   exact if_pos rfl
  ·rw [Lo r _ nd.2 q hq]
   have ne:q.1.toNat≠p.1.toNat:=fun z=>nd.1 (by rw [← z];exact List.mem_map.mpr ⟨q,hq,rfl⟩)
   unfold J3
   rw [if_neg ne]
theorem NA {f:Nat→Int} {ts:Ts} (h:IsCell 24 f):IsCell 24 (eK f ts):=by
 suffices ∀ (ts:Ts) (f:Nat→Int),(∀ i,i < 24→0≤f i∧f i < 97)→∀ i,i < 24→0≤eK f ts i∧eK f ts i < 97 from ⟨this ts f h.b⟩
 intro ts
 induction ts with
 | nil=>intro f h;exact h
 | cons q r ih =>
  intro f h
  refine ih _ fun i hi=>?_
  show 0≤(if i=q.1.toNat then (f q.1.toNat+q.2) % 97 else f i)∧(if i=q.1.toNat then (f q.1.toNat+q.2) % 97 else f i) < 97
  split
  ·exact ⟨Int.emod_nonneg _ (by decide),Int.emod_lt_of_pos _ (by decide)⟩
  ·exact h i hi
theorem R8 {f:Nat→Int} {ts:Ts} (g:kT ts) (h:IsCell 24 f) {q:Int × Int} (hq:q ∈ ts):q.1.toNat < 24∧eK f ts q.1.toNat≠f q.1.toNat:=by
 obtain ⟨⟨a0,a1⟩,b0,b1⟩:=g.at_ q hq
 have hi:q.1.toNat < 24:=by omega
 have hb:=h.b _ hi
 refine ⟨hi,?_⟩
 rw [Lo ts f g.nd q hq]
 generalize f q.1.toNat=v at *
 intro z
 have:(v+q.2) % 97=v:=z
 omega
theorem ID {f:Nat→Int} {ts:Ts} (g:kT ts) (h:IsCell 24 f):(My.fG 24 (eK f ts) f).length=ts.length:=by
 have e:ts.length=(ts.map fun q=>q.1.toNat).length:=by rw [List.length_map]
 apply Nat.le_antisymm
 ·rw [e]
  refine My.gW _ _ (My.gU _ _ _) fun i hi=>?_
  obtain ⟨h1,h2⟩:=My.cE.mp hi
  exact Classical.byContradiction fun z=>h2 (wo ts f i z)
 ·rw [e]
  refine My.gW _ _ g.nd fun i hi=>?_
  obtain ⟨q,hq,rfl⟩:=List.mem_map.mp hi
  obtain ⟨h1,h2⟩:=R8 g h hq
  exact My.cE.mpr ⟨h1,h2⟩
theorem NB {f g h:Nat→Int}:(My.fG 24 f h).length≤(My.fG 24 g f).length+(My.fG 24 g h).length:=by
 have:=My.gW (My.fG 24 f h) (My.fG 24 g f ++ My.fG 24 g h) (My.gU _ _ _) fun i hi=>by
  obtain ⟨h1,h2⟩:=My.cE.mp hi
  by_cases e:g i=f i
  ·exact List.mem_append_right _ (My.cE.mpr ⟨h1,fun z=>h2 (by rw [← e,z])⟩)
  ·exact List.mem_append_left _ (My.cE.mpr ⟨h1,e⟩)
 rwa [List.length_append] at this
theorem NC {f:Nat→Int} {ts:Ts} (g:kT ts) (h:IsCell 24 f) (hs:My.bq f) (h2:ts.length < 3):My.qT (eK f ts) f:=⟨h.b,hs,by rw [ID g h];omega⟩
theorem ND {f:Nat→Int} {ts:Ts} (g:kT ts) (h:IsCell 24 f) (hs:My.bq f) (h2:¬ ts.length < 3):∀ k,¬ My.qT (eK f ts) k:=by
 intro k m
 have d1:=ID g h
 have d2:=NB (f:=f) (g:=eK f ts) (h:=k)
 have d3:=m.xm
 have d4:=g.len
 have e:∀ i,i < 24→f i=k i:=My.Ta h.b m.b hs m.sealed (by omega)
 have d5:(My.fG 24 (eK f ts) f).length≤(My.fG 24 (eK f ts) k).length:=by
  refine My.gW _ _ (My.gU _ _ _) fun i hi=>?_
  obtain ⟨h1,h2⟩:=My.cE.mp hi
  exact My.cE.mpr ⟨h1,by rw [← e i h1];exact h2⟩
 omega
def nN:Sp:=fun vs H Q _=>∃ n:Int,vs=[.int n]∧0≤n∧∀ (a:Addr) (x y:Int),YM x y→H a=none→Q (.ref a) (upd H a (.tup [.int x,.int y]))
theorem vH:aQ ["number"] ["number"] (aH fu):=⟨rfl,rfl,rfl,by decide +kernel,rfl,by decide +kernel,by decide +kernel⟩
theorem vI (F:aP K mg "_law_measure" fu):Def P w K mg base 1 "_law_measure" ["number"] nN:=by
 refine F.def vH (fun _ _ _ _ _ _ us hl=>match us,hl with | [_],_=>rfl) (fun vs H Q E h=>?_) (fun f bo A outer s H vs Q E hr h=>?_)
 ·obtain ⟨n,rfl,_⟩:=h
  rfl
 ·obtain ⟨n,rfl,n0,q⟩:=h
  refine ⟨_,aC (bD (aW jL (aN aw (pv 0) aF) aF (aj _))
    (aG (aV (bB (aA (aN bA aF (aN aw (aN cW (pv 0) aF) aF)) (aA (aN aw (aN cW (pv 0) aF) aF) aE)))))
    (af))
   (aG (aV (bB (aA (aN bA aF (aN aw (aN cW (pv 0) aF) aF)) (aA (aN aw (aN cW (pv 0) aF) aF) aE))))),?_⟩
  have d8:0≤n / 8:=Int.ediv_nonneg n0 (by decide)
  have d48:0≤n / 48:=Int.ediv_nonneg n0 (by decide)
  have d24:0≤n / 24:=Int.ediv_nonneg n0 (by decide)
  refine ⟨_,rfl,_,_,rfl,rfl,(by show (0:Int) < 8;decide),rfl,_,rfl,?_⟩
  by_cases h7:n % 8=7
  ·refine eP (by show V.int (n % 8)=V.int 7;rw [h7]) ?_
   refine ⟨_,rfl,_,_,rfl,rfl,⟨by decide,by decide⟩,_,_,rfl,rfl,(by show (0:Int) < 6;decide),_,_,rfl,rfl,_,rfl,_,_,rfl,rfl,⟨by decide,by decide⟩,_,_,rfl,rfl,(by show (0:Int) < 5;decide),by show 2≤sizeLine;decide,fun a ha=>?_⟩
   exact q a _ _ ⟨by omega,by omega⟩ ha
  ·refine dX (fun z=>h7 (V.int.inj z)) ?_
   refine ⟨_,rfl,_,_,rfl,rfl,⟨by decide,by decide⟩,_,_,rfl,rfl,(by show (0:Int) < 3;decide),_,_,rfl,rfl,_,rfl,_,_,rfl,rfl,⟨by decide,by decide⟩,_,_,rfl,rfl,(by show (0:Int) < 3;decide),by show 2≤sizeLine;decide,fun a ha=>?_⟩
   exact q a _ _ ⟨by omega,by omega⟩ ha
def gG (n:Int) (m:Nat):Ts:=(List.range m).map fun (k:Nat)=>(n / 7 % 21+(k:Int),1+(n / 11+31 * (k:Int)) % 96)
theorem qc {n:Int} {m:Nat} (n0:0≤n) (hm:m≤4):kT (gG n m):=by
 have d7:0≤n / 7:=Int.ediv_nonneg n0 (by decide)
 refine ⟨by unfold gG;rw [List.length_map,List.length_range];exact hm,fun q hq=>?_,?_⟩
 ·obtain ⟨k,hk,rfl⟩:=List.mem_map.mp hq
  rw [List.mem_range] at hk
  refine ⟨⟨?_,?_⟩,?_,?_⟩
  ·show 0≤n / 7 % 21+(k:Int);omega
  ·show n / 7 % 21+(k:Int) < 24;omega
  ·show 1≤1+(n / 11+31 * (k:Int)) % 96;omega
  ·show 1+(n / 11+31 * (k:Int)) % 96≤96;omega
 ·unfold gG
  rw [List.map_map]
  refine List.Pairwise.map _ (fun a b MV z=>MV ?_) List.nodup_range
  have z:(n / 7 % 21+(a:Int)).toNat=(n / 7 % 21+(b:Int)).toNat:=z
  omega
theorem J4 (n:Int) (m:Nat):gG n (m+1)=gG n m ++ [(n / 7 % 21+(m:Int),1+(n / 11+31 * (m:Int)) % 96)]:=by unfold gG;rw [List.range_succ,List.map_append];rfl
theorem lY (n:Int) (m:Nat):(gG n m).length=m:=by unfold gG;rw [List.length_map,List.length_range]
def qL (K:PySem.W.Frag):Sp:=fun vs H Q _=>∃ (n:Int) (m:Nat),vs=[.int n,.int (m:Int)]∧0≤n∧m≤4∧∀ (a:Addr) (H':Hp),aI H H'→oN K H' a (gG n m)→Q (.ref a) H'
theorem yB:aQ ["number","many"] ["number","many"] (aH fw):=⟨rfl,rfl,rfl,by decide +kernel,rfl,by decide +kernel,by decide +kernel⟩
theorem yC (F:aP K mg "_law_turns" fw) (T:Txt K mg t):Def P w K mg base 1 "_law_turns" ["number","many"] (qL K):=by
 refine F.def yB (fun _ _ _ _ _ _ us hl=>match us,hl with | [_,_],_=>rfl) (fun vs H Q E h=>?_) (fun f bo A outer s H vs Q E hr h=>?_)
 ·obtain ⟨n,m,rfl,_⟩:=h
  rfl
 ·obtain ⟨n,m,rfl,n0,hm,q⟩:=h
  refine ⟨_,aG (aV (gP (G5 K) (by rfl) T.RO boot_tuple (aA (lE rfl (Nc:=["k","number"]) (ix:=[none,some 0]) (dF (aH fw) ["number","many"] rfl rfl (by decide +kernel)) (cw (by rfl) T.dg (aA (pv 1) aE)) (fun C fp s H=>⟨(az (i:=0) (show (["k","number"]:List Str).Nodup by decide +kernel) rfl (Or.inl rfl)),cX,(bB (aA (aN bA (aN aw (aN cW (pv 1) aF) aF) (pv 0)) (aA (aN bA aF (aN aw (aN bA (aN cW (pv 1) aF) (aN eM aF (pv 0))) aF)) aE)))⟩)) aE))),?_⟩
  have hsz:(2000:Nat)≤sizeLine:=by decide
  refine ⟨_,rfl,(m:Int),rfl,by omega,by omega,fun D hD=>?_⟩
  rw [Int.toNat_natCast]
  refine lH (lo:=0) (n:=m) (fun i σ H'=>(∃ v,σ=[v,some (.int n)])∧aI H H'∧∃ wm:Nat→Addr,H' D=some (.lst (bK i wm))∧∀ y q,(gG n i)[y]?=some q→H' (wm y)=some (.tup [.int q.1,.int q.2]))
   ⟨⟨none,rfl⟩,(aI.refl H).new hD,fun _=>0,aB,fun y q hq=>by cases hq⟩ ?_ ?_
  ·rintro i σ H' N hN hi ⟨⟨v,rfl⟩,s1,wm,e1,e2⟩
   rw [show (0:Int)+(i:Nat)=(i:Int) by omega]
   refine df ?_
   refine ⟨_,rfl,_,_,rfl,rfl,⟨by decide,by decide⟩,_,_,rfl,rfl,(by show (0:Int) < 21;decide),_,rfl,_,_,rfl,rfl,_,rfl,_,_,rfl,rfl,⟨by decide,by decide⟩,_,rfl,_,_,rfl,rfl,.inl ⟨by decide,by decide⟩,_,_,rfl,rfl,_,_,rfl,rfl,(by show (0:Int) < 96;decide),_,_,rfl,rfl,by show 2≤sizeLine;decide,fun p hp=>?_⟩
   have Ti:D≠p:=aK e1 hp
   refine ⟨_,by rw [aD Ti];exact e1,by rw [aL];omega,hN _ _ ⟨⟨_,rfl⟩,(s1.new hp).put hD,fun y=>if y=i then p else wm y,by rw [aB,dS],fun y q hq=>?_⟩⟩
   rw [J4] at hq
   by_cases z:y=i
   ·rw [z,List.getElem?_append_right (by rw [lY];exact Nat.le_refl _),lY,Nat.sub_self] at hq
    cases hq
    simp only [z,if_true]
    rw [aD (Ne.symm Ti)]
    exact aB
   ·have hy:y < (gG n i ++ [(n / 7 % 21+(i:Int),1+(n / 11+31 * (i:Int)) % 96)]).length:=(List.getElem?_eq_some_iff.mp hq).1
    rw [List.length_append,lY] at hy
    have VL:y < i:=by simp at hy;omega
    rw [List.getElem?_append_left (by rw [lY];exact VL)] at hq
    have:=e2 y q hq
    simp only [z,if_false]
    rw [aD (fun w=>by rw [w,e1] at this;cases this),aD (aK this hp)]
    exact this
  ·rintro σ H' ⟨⟨v,rfl⟩,s1,wm,e1,e2⟩
   refine ⟨D,_,rfl,.inl ⟨aX.of e1,fun a ha=>?_⟩⟩
   have s2:=s1.new (o:=.tup (bK m wm)) ha
   refine q a _ s2 ⟨wm,bw.of (by rw [lY];exact aB),fun y q hq=>bw.of ?_⟩
   have:=e2 y q hq
   rw [aD (aK this ha)]
   exact this
abbrev Ft:=List (Int × Ts)
structure zV (late:Int) (fs:Ft):Prop where
 len:fs.length≤3
 at_:∀ d ∈ fs,1≤d.1∧d.1≤late∧kT d.2
def yD (K:PySem.W.Frag) (H:Hp) (a:Addr) (fs:Ft):Prop:=∃ Wg wm:Nat→Addr,bw K H a (bK fs.length Wg)∧∀ y d,fs[y]?=some d→bw K H (Wg y) [.int d.1,.ref (wm y)]∧oN K H (wm y) d.2
theorem yD.same {K:PySem.W.Frag} {H H':Hp} {a:Addr} {fs:Ft} (h:yD K H a fs) (s:aI H H'):yD K H' a fs:=by
 obtain ⟨Wg,wm,h1,h2⟩:=h
 exact ⟨Wg,wm,s.tup h1,fun y d e=>⟨s.tup (h2 y d e).1,(h2 y d e).2.same s⟩⟩
theorem Va {K:PySem.W.Frag} {H:Hp} {a:Addr} (h:bw K H a []):oN K H a []:=⟨fun _=>0,h,fun y q e=>by cases e⟩
theorem dq:kT []:=⟨by decide,(fun q hq=>by cases hq),List.nodup_nil⟩
theorem PY {K:PySem.W.Frag} {H:Hp} {a:Addr} (h:bw K H a []):yD K H a []:=⟨fun _=>0,fun _=>0,h,fun y q e=>by cases e⟩
theorem Aa {K:PySem.W.Frag} {H:Hp} {a b c:Addr} {d:Int} {ts:Ts} (h:bw K H a [.ref b]) (hb:bw K H b [.int d,.ref c]) (hc:oN K H c ts):yD K H a [(d,ts)] :=
 ⟨fun _=>b,fun _=>c,h,fun y e he=>by
  cases y with
  | zero=>cases he;exact ⟨hb,hc⟩
  | succ y=>cases he⟩
theorem PZ {K:PySem.W.Frag} {H:Hp} {a b c b' c':Addr} {d d':Int} {ts Yk:Ts} (h:bw K H a [.ref b,.ref b']) (hb:bw K H b [.int d,.ref c]) (hc:oN K H c ts) (Xf:bw K H b' [.int d',.ref c']) (WH:oN K H c' Yk):yD K H a [(d,ts),(d',Yk)] :=
 ⟨fun y=>if y=0 then b else b',fun y=>if y=0 then c else c',h,fun y e he=>by
  match y,he with
  | 0,he=>cases he;exact ⟨hb,hc⟩
  | 1,he=>cases he;exact ⟨Xf,WH⟩
  | y+2,he=>cases he⟩
theorem Pa {K:PySem.W.Frag} {H:Hp} {a b c b' c' b'' c'':Addr} {d d' d'':Int} {ts Yk Yl:Ts} (h:bw K H a [.ref b,.ref b',.ref b'']) (hb:bw K H b [.int d,.ref c]) (hc:oN K H c ts) (Xf:bw K H b' [.int d',.ref c']) (WH:oN K H c' Yk) (aBK:bw K H b'' [.int d'',.ref c'']) (aBL:oN K H c'' Yl):yD K H a [(d,ts),(d',Yk),(d'',Yl)] :=
 ⟨fun y=>if y=0 then b else if y=1 then b' else b'',fun y=>if y=0 then c else if y=1 then c' else c'',h,fun y e he=>by
  match y,he with
  | 0,he=>cases he;exact ⟨hb,hc⟩
  | 1,he=>cases he;exact ⟨Xf,WH⟩
  | 2,he=>cases he;exact ⟨aBK,aBL⟩
  | y+3,he=>cases he⟩
theorem iI {K:PySem.W.Frag} {H:Hp} {b c:Addr} {d:Int} (hc:H c=none) (hb:(upd H c (.tup [])) b=none):aI H (upd (upd H c (.tup [])) b (.tup [.int d,.ref c]))∧bw K (upd (upd H c (.tup [])) b (.tup [.int d,.ref c])) b [.int d,.ref c]∧oN K (upd (upd H c (.tup [])) b (.tup [.int d,.ref c])) c []:=by
 have s1:aI H (upd H c (.tup [])):=(aI.refl _).new hc
 have s2:aI (upd H c (.tup [])) (upd (upd H c (.tup [])) b (.tup [.int d,.ref c])):=(aI.refl _).new hb
 exact ⟨s1.trans s2,bw.of aB,Va (bw.of (s2 _ _ aB))⟩
theorem Ab {K:PySem.W.Frag} {H:Hp} {b c:Addr} {d:Int} {ts:Ts} (hc:oN K H c ts) (hb:H b=none):aI H (upd H b (.tup [.int d,.ref c]))∧bw K (upd H b (.tup [.int d,.ref c])) b [.int d,.ref c]∧oN K (upd H b (.tup [.int d,.ref c])) c ts:=by
 have s1:aI H (upd H b (.tup [.int d,.ref c])):=(aI.refl _).new hb
 exact ⟨s1,bw.of aB,hc.same s1⟩
def sO (K:PySem.W.Frag):Sp:=fun vs H Q _=>∃ n late:Int,vs=[.int n,.int late]∧0≤n∧1≤late∧late≤6∧∀ (a:Addr) (H':Hp) (fs:Ft),aI H H'→yD K H' a fs→zV late fs→Q (.ref a) H'
theorem i6:aQ ["number","late","delay","other","kind"] ["number","late"] (aH kA):=⟨rfl,rfl,rfl,by decide +kernel,rfl,by decide +kernel,by decide +kernel⟩
theorem Ac (F:aP K mg "_law_fate" kA) (T:Txt K mg t) (gH:Def P w K mg base 1 "_law_turns" ["number","many"] (qL K)):Def P w K mg base 2 "_law_fate" ["number","late"] (sO K):=by
 refine F.def i6 (fun _ _ _ _ _ _ us hl=>match us,hl with | [_,_],_=>rfl) (fun vs H Q E h=>?_) (fun f bo A outer s H vs Q E hr h=>?_)
 ·obtain ⟨n,late,rfl,_⟩:=h
  rfl
 ·obtain ⟨n,late,rfl,n0,l0,l1,q⟩:=h
  refine ⟨_,aC (aT (i:=2) i6.nd rfl (Or.inl rfl) (aN bA aF (aN aw (aN cW (pv 0) aF) (pv 1))))
   (aC (aT (i:=3) i6.nd rfl (Or.inl rfl) (aN bA aF (aN aw (aN cW (pv 0) aF) (pv 1))))
   (aC (aT (i:=4) i6.nd rfl (Or.inl rfl) (aN aw (pv 0) aF))
   (aC (bD (aW jy (pv 4) aF (aj _))
    (aG (aV (bB (aA (bB (aA aF (aA (bB aE) aE))) aE))))
    (af))
   (aC (bD (aW jy (pv 4) aF (aj _))
    (aG (aV (bB aE)))
    (af))
   (aC (bD (aW jy (pv 4) aF (aj _))
    (aG (aV (bB (aA (bB (aA (pv 2) (aA (bB aE) aE))) aE))))
    (af))
   (aC (bD (aW jy (pv 4) aF (aj _))
    (aG (aV (bB (aA (bB (aA (pv 2) (aA (bB aE) aE))) (aA (bB (aA (pv 3) (aA (bB aE) aE))) aE)))))
    (af))
   (aC (bD (aW jL (pv 4) aF (aj _))
    (aG (aV (bB (aA (bB (aA (pv 2) (aA (aZ (gH.mono (by decide)) hr ar (aA (pv 0) (aA aF aE))) aE))) (aA (bB (aA (pv 3) (aA (bB aE) aE))) (aA (bB (aA (pv 2) (aA (bB aE) aE))) aE))))))
    (af))
   (aC (bD (aW jy (pv 4) aF (aj _))
    (aG (aV (bB (aA (bB (aA (pv 2) (aA (aZ (gH.mono (by decide)) hr ar (aA (pv 0) (aA (aN bA aF (aN aw (aN cW (pv 0) aF) aF)) aE))) aE))) aE))))
    (af))
   (aG (aV (bB (aA (bB (aA (pv 2) (aA (aZ (gH.mono (by decide)) hr ar (aA (pv 0) (aA (aN bA aF (aN aw (aN cW (pv 0) aF) aF)) aE))) aE))) aE)))))))))))),?_⟩
  have d16:0≤n / 16:=Int.ediv_nonneg n0 (by decide)
  have lp:0 < late:=by omega
  refine ⟨_,rfl,_,_,rfl,rfl,⟨by decide,by decide⟩,_,rfl,_,_,rfl,rfl,lp,_,_,rfl,rfl,?_⟩
  refine ⟨_,rfl,_,_,rfl,rfl,⟨by decide,by decide⟩,_,rfl,_,_,rfl,rfl,lp,_,_,rfl,rfl,?_⟩
  have b1:1≤(1+n / 16 % late)∧(1+n / 16 % late)≤late:=by
   have:=Int.emod_nonneg (n / 16) (show late≠0 by omega)
   have:=Int.emod_lt_of_pos (n / 16) lp
   omega
  have b2:1≤(1+n / 100 % late)∧(1+n / 100 % late)≤late:=by
   have:=Int.emod_nonneg (n / 100) (show late≠0 by omega)
   have:=Int.emod_lt_of_pos (n / 100) lp
   omega
  refine ⟨_,rfl,_,_,rfl,rfl,(by show (0:Int) < 16;decide),?_⟩
  have one:∀ {d:Int} {ts:Ts},(1≤d∧d≤late)→kT ts→zV late [(d,ts)]:=fun {d ts} hd g=>⟨by show 1≤3;decide,fun x hx=>by rw [List.mem_singleton.mp hx];exact ⟨hd.1,hd.2,g⟩⟩
  have m16:0≤n % 16∧n % 16 < 16:=⟨Int.emod_nonneg _ (by decide),Int.emod_lt_of_pos _ (by decide)⟩
  refine ⟨_,rfl,_,_,rfl,rfl,_,rfl,?_⟩
  by_cases w1:(n % 16) < 5
  ·refine eP w1 ?_
   refine ⟨by show 0≤sizeLine;decide,fun c hc=>⟨by show 2≤sizeLine;decide,fun b hb=>⟨by show 1≤sizeLine;decide,fun a ha=>?_⟩⟩⟩
   obtain ⟨s1,g1,g2⟩:=iI (K:=K) (d:=1) hc hb
   have s2:=(aI.refl _).new (o:=.tup [.ref b]) ha
   exact q a _ [(1,[])] (s1.trans s2) (Aa (bw.of aB) (s2.tup g1) (g2.same s2)) (one ⟨by decide,l0⟩ dq)
  refine dX w1 ?_
  refine ⟨_,rfl,_,_,rfl,rfl,_,rfl,?_⟩
  by_cases w2:(n % 16) < 8
  ·refine eP w2 ?_
   refine ⟨by show 0≤sizeLine;decide,fun a ha=>?_⟩
   exact q a _ [] ((aI.refl _).new ha) (PY (bw.of aB)) ⟨by decide,fun d hd=>by cases hd⟩
  refine dX w2 ?_
  refine ⟨_,rfl,_,_,rfl,rfl,_,rfl,?_⟩
  by_cases w3:(n % 16) < 10
  ·refine eP w3 ?_
   refine ⟨_,rfl,by show 0≤sizeLine;decide,fun c hc=>⟨by show 2≤sizeLine;decide,fun b hb=>⟨by show 1≤sizeLine;decide,fun a ha=>?_⟩⟩⟩
   obtain ⟨s1,g1,g2⟩:=iI (K:=K) (d:=(1+n / 16 % late)) hc hb
   have s2:=(aI.refl _).new (o:=.tup [.ref b]) ha
   exact q a _ [((1+n / 16 % late),[])] (s1.trans s2) (Aa (bw.of aB) (s2.tup g1) (g2.same s2)) (one b1 dq)
  refine dX w3 ?_
  refine ⟨_,rfl,_,_,rfl,rfl,_,rfl,?_⟩
  by_cases w4:(n % 16) < 12
  ·refine eP w4 ?_
   refine ⟨_,rfl,by show 0≤sizeLine;decide,fun c hc=>⟨by show 2≤sizeLine;decide,fun b hb=>?_⟩⟩
   obtain ⟨s1,g1,g2⟩:=iI (K:=K) (d:=(1+n / 16 % late)) hc hb
   refine ⟨_,rfl,by show 0≤sizeLine;decide,fun c2 TH=>⟨by show 2≤sizeLine;decide,fun b2' Iv=>?_⟩⟩
   obtain ⟨s2,k1,k2⟩:=iI (K:=K) (d:=(1+n / 100 % late)) TH Iv
   refine ⟨by show 2≤sizeLine;decide,fun a ha=>?_⟩
   have s3:=(aI.refl _).new (o:=.tup [.ref b,.ref b2']) ha
   have Vb:=s2.trans s3
   refine q a _ [((1+n / 16 % late),[]),((1+n / 100 % late),[])] (s1.trans Vb) (PZ (bw.of aB) (Vb.tup g1) (g2.same Vb) (s3.tup k1) (k2.same s3)) ⟨by show 2≤3;decide,fun d hd=>?_⟩
   rcases List.mem_cons.mp hd with rfl | hd
   ·exact ⟨b1.1,b1.2,dq⟩
   ·rw [List.mem_singleton.mp hd];exact ⟨b2.1,b2.2,dq⟩
  refine dX w4 ?_
  refine ⟨_,rfl,rfl,_,rfl,?_⟩
  by_cases w5:(n % 16)=12
  ·refine eP (by show V.int (n % 16)=V.int 12;rw [w5]) ?_
   refine ⟨_,rfl,_,rfl,n,3,rfl,n0,by decide,fun c H0 s0 hc=>⟨by show 2≤sizeLine;decide,fun b hb=>?_⟩⟩
   obtain ⟨s1,g1,g2⟩:=Ab (d:=(1+n / 16 % late)) hc hb
   refine ⟨_,rfl,by show 0≤sizeLine;decide,fun c2 TH=>⟨by show 2≤sizeLine;decide,fun b2' Iv=>?_⟩⟩
   obtain ⟨s2,k1,k2⟩:=iI (K:=K) (d:=(1+n / 100 % late)) TH Iv
   refine ⟨_,rfl,by show 0≤sizeLine;decide,fun c3 hc3=>⟨by show 2≤sizeLine;decide,fun b3 hb3=>?_⟩⟩
   obtain ⟨s3,j1,j2⟩:=iI (K:=K) (d:=(1+n / 16 % late)) hc3 hb3
   refine ⟨by show 3≤sizeLine;decide,fun a ha=>?_⟩
   have s4:=(aI.refl _).new (o:=.tup [.ref b,.ref b2',.ref b3]) ha
   have s34:=s3.trans s4
   have s24:=s2.trans s34
   refine q a _ [((1+n / 16 % late),gG n 3),((1+n / 100 % late),[]),((1+n / 16 % late),[])] ((s0.trans s1).trans s24) (Pa (bw.of aB) (s24.tup g1) (g2.same s24) (s34.tup k1) (k2.same s34) (s4.tup j1) (j2.same s4)) ⟨by show 3≤3;decide,fun d hd=>?_⟩
   rcases List.mem_cons.mp hd with rfl | hd
   ·exact ⟨b1.1,b1.2,qc n0 (by decide)⟩
   ·rcases List.mem_cons.mp hd with rfl | hd
    ·exact ⟨b2.1,b2.2,dq⟩
    ·rw [List.mem_singleton.mp hd];exact ⟨b1.1,b1.2,dq⟩
  refine dX (fun z=>w5 (V.int.inj z)) ?_
  have h2:0≤n / 16 % 2∧n / 16 % 2 < 2:=⟨Int.emod_nonneg _ (by decide),Int.emod_lt_of_pos _ (by decide)⟩
  refine ⟨_,rfl,_,_,rfl,rfl,_,rfl,?_⟩
  by_cases w6:(n % 16) < 15
  ·refine eP w6 ?_
   refine ⟨_,rfl,_,rfl,_,rfl,_,_,rfl,rfl,⟨by decide,by decide⟩,_,_,rfl,rfl,(by show (0:Int) < 2;decide),_,_,rfl,rfl,n,(1+n / 16 % 2).toNat,?_,n0,by omega,fun c H0 s0 hc=>⟨by show 2≤sizeLine;decide,fun b hb=>⟨by show 1≤sizeLine;decide,fun a ha=>?_⟩⟩⟩
   ·show [V.int n,V.int (1+n / 16 % 2)]=_
    rw [Int.toNat_of_nonneg (by omega)]
   obtain ⟨s1,g1,g2⟩:=Ab (d:=(1+n / 16 % late)) hc hb
   have s2:=(aI.refl _).new (o:=.tup [.ref b]) ha
   exact q a _ [((1+n / 16 % late),gG n (1+n / 16 % 2).toNat)] ((s0.trans s1).trans s2) (Aa (bw.of aB) (s2.tup g1) (g2.same s2)) (one b1 (qc n0 (by omega)))
  ·refine dX w6 ?_
   refine ⟨_,rfl,_,rfl,_,rfl,_,_,rfl,rfl,⟨by decide,by decide⟩,_,_,rfl,rfl,(by show (0:Int) < 2;decide),_,_,rfl,rfl,n,(3+n / 16 % 2).toNat,?_,n0,by omega,fun c H0 s0 hc=>⟨by show 2≤sizeLine;decide,fun b hb=>⟨by show 1≤sizeLine;decide,fun a ha=>?_⟩⟩⟩
   ·show [V.int n,V.int (3+n / 16 % 2)]=_
    rw [Int.toNat_of_nonneg (by omega)]
   obtain ⟨s1,g1,g2⟩:=Ab (d:=(1+n / 16 % late)) hc hb
   have s2:=(aI.refl _).new (o:=.tup [.ref b]) ha
   exact q a _ [((1+n / 16 % late),gG n (3+n / 16 % 2).toNat)] ((s0.trans s1).trans s2) (Aa (bw.of aB) (s2.tup g1) (g2.same s2)) (one b1 (qc n0 (by omega)))
end
end K31
namespace K31
open PySem L2 PyProof.Rows
section
variable {P:Program} {w:World} {K:PySem.W.Frag} {mg:Str→Option Value} {base:Heap} {t:Ad}
def oO (K:PySem.W.Frag):Sp:=fun vs H Q _=>∃ (l a:Addr) (f:Nat→Int) (ts:Ts),vs=[.ref l,.ref a]∧aX K H l (tabI 24 f)∧oN K H a ts∧kT ts∧∀ (p:Addr) (H':Hp),aI H H'→H p=none→H' p=some (.lst (tabI 24 (eK f ts)))→Q (.ref p) H'
theorem R9 {n:Nat} {f:Nat→Int} {i:Int} (h0:0≤i) (h1:i < n):xc (tabI n f) i=some (V.int (f i.toNat)):=dG (f:=fun j=>V.int (f j)) h0 h1
theorem SA {n:Nat} {f:Nat→Int} {i:Int} (h0:0≤i) (h1:i < n):MF (tabI n f).length i=some i.toNat:=by
 unfold MF
 rw [aL,if_pos h0,if_pos h1]
theorem Pb {n i:Nat} {f:Nat→Int} {v:Int} (h:i < n):(tabI n f).set i (V.int v)=tabI n (J3 f i v):=by
 refine (rf (f:=fun j=>V.int (f j)) h).trans (bW fun j _=>?_)
 unfold J3
 by_cases z:j=i
 ·rw [if_pos z,if_pos z]
 ·rw [if_neg z,if_neg z]
theorem jX:aQ ["cell","turns","made","place","add"] ["cell","turns"] (aH h8):=⟨rfl,rfl,rfl,by decide +kernel,rfl,by decide +kernel,by decide +kernel⟩
theorem wq (F:aP K mg "_law_turned" h8) (T:Txt K mg t):Def P w K mg base 1 "_law_turned" ["cell","turns"] (oO K):=by
 refine F.def jX (fun _ _ _ _ _ _ us hl=>match us,hl with | [_,_],_=>rfl) (fun vs H Q E h=>?_) (fun f bo A outer s H vs Q E hr h=>?_)
 ·obtain ⟨l,a,f,ts,rfl,_⟩:=h
  rfl
 ·obtain ⟨l,a,f,ts,rfl,hl,⟨wm,hA,ht⟩,g,q⟩:=h
  refine ⟨_,aC (aT (i:=2) jX.nd rfl (Or.inl rfl) (gP (gQ K) (by rfl) T.qU boot_list (aA (pv 0) aE)))
   (aC (PS.uX (dD PassesOwn.never rfl (LK K (pv 1)) (pP K (i:=3) (j:=4) rfl jX.nd rfl rfl (Or.inl rfl) (Or.inl rfl))
    (aG (nY (aN aw (aN bA (aR (aM K) (pv 2) (pv 3) (fun _ _=>rfl)) (pv 4)) aF) (nX (pv 2) (pv 3) set_list)))))
   (aG (aV (pv 2)))),?_⟩
  refine ⟨_,rfl,l,_,rfl,.inl hl,fun r hr=>?_⟩
  have s1:=(aI.refl H).new (o:=.lst (tabI 24 f)) hr
  refine ⟨_,rfl,a,rfl,⟨_,s1.tup hA⟩,?_⟩
  refine Kv (K:=K) (a:=a) (xs:=bK ts.length wm) (fun i σ H'=>∃ v3 v4:Option V,σ=[some (.ref l),some (.ref a),some (.ref r),v3,v4]∧aI H H'∧H' r=some (.lst (tabI 24 (eK f (ts.take i))))) ⟨none,none,rfl,s1,aB⟩ (fun i σ H' _ ⟨_,_,_,s2,_⟩=>s2.tup hA) ?_ ?_
  ·rintro i x σ H' hx ⟨v3,v4,rfl,s2,QQ⟩
   obtain ⟨hi,rfl⟩:=tab_of hx
   have e:ts[i]?=some ts[i]:=by simp [hi]
   generalize ts[i]=c at e
   obtain ⟨⟨p0,p1⟩,_⟩:=g.at_ c (List.mem_of_getElem? e)
   refine vp (s2.tup (ht i c e)) ?_
   refine ⟨_,rfl,_,rfl,r,_,_,_,rfl,rfl,aX.of QQ,R9 p0 (by omega),_,rfl,_,_,rfl,rfl,_,_,rfl,rfl,(by show (0:Int) < 97;decide),?_⟩
   refine ⟨_,rfl,_,rfl,r,_,_,_,rfl,rfl,QQ,SA p0 (by omega),?_⟩
   refine ⟨_,_,rfl,s2.put hr,?_⟩
   rw [aB,take_succ e,M9]
   exact congrArg (fun z=>some (HO.lst z)) (Pb (by omega))
  ·rintro σ H' ⟨v3,v4,rfl,s2,QQ⟩
   rw [aL,List.take_length] at QQ
   exact ⟨_,rfl,q r H' s2 hr QQ⟩
structure Rw where
 f:Nat→Int
 rd:Bool
 b:Cl
structure J5 (r:Rw):Prop where
 c:IsCell 24 r.f
 m:PQ r.f (if r.rd=true then some r.b else none)
 g:jW r.b
abbrev Dl:=Hp→V→Cl→Prop
def Pc (Bv:Dl) (B:Hp) (a:Addr) (r:Rw):Prop:=∃ (c:Addr) (v:V),B a=some (.tup [.ref c,.bl r.rd,v])∧B c=some (.lst (tabI 24 r.f))∧Bv B v r.b∧J5 r
def fX (Bv:Dl):Prop:=∀ B B' v b,aI B B'→Bv B v b→Bv B' v b
theorem Pc.same {Bv:Dl} (mb:fX Bv) {B B':Hp} {a:Addr} {r:Rw} (h:Pc Bv B a r) (s:aI B B'):Pc Bv B' a r:=by
 obtain ⟨c,v,h1,h2,h3,h4⟩:=h
 exact ⟨c,v,s _ _ h1,s _ _ h2,mb _ _ _ _ s h3,h4⟩
structure Slot (Bv:Dl) (B H:Hp) (a:Addr) (rs:List Rw):Prop where
 no:B a=none
 at_:∃ Lp:Nat→Addr,H a=some (.lst (bK rs.length Lp))∧∀ y r,rs[y]?=some r→Pc Bv B (Lp y) r
theorem Slot.keep {Bv:Dl} (mb:fX Bv) {B B' H H':Hp} {a:Addr} {rs:List Rw} (h:Slot Bv B H a rs) (s:aI B B') (n:B' a=none) (e:H' a=H a):Slot Bv B' H' a rs:=by
 obtain ⟨Lp,h1,h2⟩:=h.at_
 exact ⟨n,Lp,e.trans h1,fun y r hr=>(h2 y r hr).same mb s⟩
structure Cg (Bv:Dl) (B H:Hp) (d:Addr) (sl:Nat→Addr) (n:Nat) (rows:Nat→List Rw):Prop where
 dl:B d=some (.lst (bK n sl))
 inj:∀ i j,i < n→j < n→sl i=sl j→i=j
 at_:∀ j,j < n→Slot Bv B H (sl j) (rows j)
def iU (b:Cl) (ts:Ts):Rw:=⟨eK (ay b) ts,decide (ts.length < 3),b⟩
def IE (rows:Nat→List Rw) (k:Nat) (r:Rw):Nat→List Rw:=fun j=>if j=k then rows j ++ [r] else rows j
def oP (rows:Nat→List Rw) (tick:Nat) (b:Cl) (fs:Ft):Nat→List Rw:=fs.foldl (fun rs d=>IE rs (tick+d.1.toNat) (iU b d.2)) rows
theorem NF (rows:Nat→List Rw) (tick:Nat) (b:Cl) (fs:Ft) (d:Int × Ts):oP rows tick b (fs ++ [d])=IE (oP rows tick b fs) (tick+d.1.toNat) (iU b d.2):=by unfold oP;rw [List.foldl_append];rfl
theorem Pd {b:Cl} {ts:Ts} (h1:jW b) (g:kT ts) (hs:My.bq (ay b)):J5 (iU b ts):=by
 have c:=Hw h1
 refine ⟨NA c,?_,h1⟩
 show PQ (eK (ay b) ts) (if decide (ts.length < 3)=true then some b else none)
 by_cases z:ts.length < 3
 ·rw [decide_eq_true z,if_pos rfl]
  exact ⟨h1,NC g c hs z⟩
 ·rw [decide_eq_false z,if_neg (by decide)]
  exact ND g c hs z
structure Gv (B H B' H':Hp) (sl:Nat→Addr) (n:Nat):Prop where
 bb:aI B B'
 bh:aI B' H'
 no:∀ m,H m≠none→B m=none→B' m=none
 fr:∀ m o,(∀ j,j < n→m≠sl j)→H m=some o→H' m=some o
 g:∀ m,H' m=none→H m=none
theorem Gv.refl {B H:Hp} {sl:Nat→Addr} {n:Nat} (s:aI B H):Gv B H B H sl n:=⟨aI.refl _,s,fun _ _ h=>h,fun _ _ _ h=>h,fun _ h=>h⟩
theorem Gv.trans {B H B1 H1 B2 H2:Hp} {sl:Nat→Addr} {n:Nat} (a:Gv B H B1 H1 sl n) (b:Gv B1 H1 B2 H2 sl n):Gv B H B2 H2 sl n :=
 ⟨a.bb.trans b.bb,b.bh,fun m h1 h2=>b.no m (fun z=>h1 (a.g m z)) (a.no m h1 h2),fun m o h e=>b.fr m o h (a.fr m o h e),fun m h=>a.g m (b.g m h)⟩
end
end K31
namespace K31
open PySem L2 PyProof.Rows
section
variable {P:Program} {w:World} {K:PySem.W.Frag} {mg:Str→Option Value} {base:Heap} {t:Ad}
theorem Slot.val {Bv:Dl} {B H:Hp} {a:Addr} {rs:List Rw} (h:Slot Bv B H a rs):H a≠none:=by obtain ⟨_,g,_⟩:=h.at_;rw [g];exact fun z=>by cases z
theorem Cg.step {Bv:Dl} (mb:fX Bv) {B H H2:Hp} {d p r:Addr} {sl:Nat→Addr} {n k:Nat} {rows:Nat→List Rw} {v3:V} {rw':Rw} {Lp:Nat→Addr} (c:Cg Bv B H d sl n rows) (sb:aI B H) (hk:k < n) (s2:aI H H2) (np:H p=none) (ep:H2 p=some (.lst (tabI 24 rw'.f))) (nr:H2 r=none)
  (g:J5 rw') (hv:Bv B v3 rw'.b) (e1:H (sl k)=some (.lst (bK (rows k).length Lp))) (e2:∀ y x,(rows k)[y]?=some x→Pc Bv B (Lp y) x) :
  Gv B H (upd (upd B p (.lst (tabI 24 rw'.f))) r (.tup [.ref p,.bl rw'.rd,v3])) (upd (upd H2 r (.tup [.ref p,.bl rw'.rd,v3])) (sl k) (.lst (bK (rows k).length Lp ++ [.ref r]))) sl n ∧
  Cg Bv (upd (upd B p (.lst (tabI 24 rw'.f))) r (.tup [.ref p,.bl rw'.rd,v3])) (upd (upd H2 r (.tup [.ref p,.bl rw'.rd,v3])) (sl k) (.lst (bK (rows k).length Lp ++ [.ref r]))) d sl n (IE rows k rw'):=by
 have Ym:H r=none:=s2.free nr
 have npr:p≠r:=fun z=>by rw [z,nr] at ep;cases ep
 have bp:B p=none:=sb.free np
 have br:B r=none:=sb.free Ym
 have sB1:aI B (upd B p (.lst (tabI 24 rw'.f))):=(aI.refl _).new bp
 have sB:aI B (upd (upd B p (.lst (tabI 24 rw'.f))) r (.tup [.ref p,.bl rw'.rd,v3])):=sB1.new (by rw [aD (Ne.symm npr)];exact br)
 have slk:H (sl k)≠none:=(c.at_ k hk).val
 have nsr:∀ j,j < n→sl j≠r:=fun j hj z=>(c.at_ j hj).val (by rw [z];exact Ym)
 have nsp:∀ j,j < n→sl j≠p:=fun j hj z=>(c.at_ j hj).val (by rw [z];exact np)
 have bno:∀ j,j < n→(upd (upd B p (.lst (tabI 24 rw'.f))) r (.tup [.ref p,.bl rw'.rd,v3])) (sl j)=none:=fun j hj=>by rw [aD (nsr j hj),aD (nsp j hj)];exact (c.at_ j hj).no
 refine ⟨⟨sB,?_,?_,?_,?_⟩,⟨sB _ _ c.dl,c.inj,fun j hj=>?_⟩⟩
 ·intro m o e
  by_cases z1:m=r
  ·rw [z1] at e ⊢
   rw [aB] at e
   rw [aD (Ne.symm (nsr k hk)),aB];exact e
  ·rw [aD z1] at e
   by_cases z2:m=p
   ·rw [z2] at e ⊢
    rw [aB] at e
    rw [aD (Ne.symm (nsp k hk)),aD npr,ep];exact e
   ·rw [aD z2] at e
    rw [aD (fun z=>by rw [z,(c.at_ k hk).no] at e;cases e),aD z1]
    exact s2 _ _ (sb _ _ e)
 ·intro m h1 h2
  rw [aD (fun z=>h1 (by rw [z];exact Ym)),aD (fun z=>h1 (by rw [z];exact np))];exact h2
 ·intro m o h e
  rw [aD (h k hk),aD (fun z=>by rw [z,Ym] at e;cases e)]
  exact s2 _ _ e
 ·intro m h
  by_cases z1:m=sl k
  ·rw [z1,aB] at h;cases h
  ·rw [aD z1] at h
   by_cases z2:m=r
   ·rw [z2];exact Ym
   ·rw [aD z2] at h
    exact s2.free h
 ·by_cases z:j=k
  ·subst z
   refine ⟨bno j hj,fun y=>if y=(rows j).length then r else Lp y,?_,fun y x hx=>?_⟩
   ·rw [aB,dS]
    show _=some (HO.lst (bK (if j=j then rows j ++ [rw'] else rows j).length _))
    rw [if_pos rfl,List.length_append]
    rfl
   ·have hx:(if j=j then rows j ++ [rw'] else rows j)[y]?=some x:=hx
    rw [if_pos rfl] at hx
    by_cases zy:y=(rows j).length
    ·rw [zy,List.getElem?_append_right (Nat.le_refl _),Nat.sub_self] at hx
     cases hx
     simp only [zy,if_true]
     exact ⟨p,v3,aB,by rw [aD npr];exact aB,mb _ _ _ _ sB hv,g⟩
    ·have hy:y < (rows j ++ [rw']).length:=(List.getElem?_eq_some_iff.mp hx).1
     rw [List.length_append] at hy
     have VL:y < (rows j).length:=by simp at hy;omega
     rw [List.getElem?_append_left VL] at hx
     simp only [zy,if_false]
     exact (e2 y x hx).same mb sB
  ·show Slot Bv _ _ (sl j) (if j=k then _ else rows j)
   rw [if_neg z]
   have ne:sl j≠sl k:=fun w=>z (c.inj j k hj hk w)
   obtain ⟨rj,g1,g2⟩:=(c.at_ j hj).at_
   exact (c.at_ j hj).keep mb sB (bno j hj) (by rw [aD ne,aD (nsr j hj),s2 _ _ g1,g1])
def sP (K:PySem.W.Frag) (Bv:Dl):Sp:=fun vs H Q _=>∃ (B:Hp) (d l fA:Addr) (tick:Nat) (v3:V) (sl:Nat→Addr) (n:Nat) (rows:Nat→List Rw) (b:Cl) (fs:Ft) (late:Int),vs=[.ref d,.ref l,.ref fA,.int (tick:Int),v3]∧aI B H∧Cg Bv B H d sl n rows ∧
 H l=some (.lst (tabI 24 (ay b)))∧jW b∧Bv B v3 b∧yD K H fA fs∧zV late fs∧late≤6∧tick+6 < n∧(∀ j,j < n→(rows j).length≤100000)∧(∀ j,j < n→l≠sl j) ∧
 ∀ B' H',Gv B H B' H' sl n→Cg Bv B' H' d sl n (oP rows tick b fs)→Q .bJ H'
theorem Ae {K:PySem.W.Frag} {H H':Hp} {a:Addr} {xs:List V} {sl:Nat→Addr} {n:Nat} (fr:∀ m o,(∀ j,j < n→m≠sl j)→H m=some o→H' m=some o) (ls:∀ j,j < n→∃ ys,H (sl j)=some (.lst ys)) (h:bw K H a xs):bw K H' a xs:=by
 rcases h with (h | ⟨u,h⟩) | h
 ·exact .inl (.inl (fr a _ (fun j hj z=>by obtain ⟨ys,e⟩:=ls j hj;rw [z,e] at h;cases h) h))
 ·exact .inl (.inr ⟨u,fr a _ (fun j hj z=>by obtain ⟨ys,e⟩:=ls j hj;rw [z,e] at h;cases h) h⟩)
 ·exact .inr h
theorem IF {rows:Nat→List Rw} {tick:Nat} {b:Cl}:∀ (fs:Ft) (j:Nat),(oP rows tick b fs j).length≤(rows j).length+fs.length:=by
 intro fs
 induction fs generalizing rows with
 | nil=>intro j;exact Nat.le_refl _
 | cons d r ih =>
  intro j
  have:=ih (rows:=IE rows (tick+d.1.toNat) (iU b d.2)) j
  have h2:(IE rows (tick+d.1.toNat) (iU b d.2) j).length≤(rows j).length+1:=by
   unfold IE
   split
   ·rw [List.length_append];exact Nat.le_refl _
   ·exact Nat.le_succ _
  show (oP (IE rows (tick+d.1.toNat) (iU b d.2)) tick b r j).length≤_
  rw [List.length_cons]
  omega
theorem sQ:aQ ["coming","cell","fate","tick","births","delay","turns"] ["coming","cell","fate","tick","births"] (aH kB):=⟨rfl,rfl,rfl,by decide +kernel,rfl,by decide +kernel,by decide +kernel⟩
theorem Af {Bv:Dl} (mb:fX Bv) (F:aP K mg "_law_give" kB) (T:Txt K mg t) (kU:Def P w K mg base 1 "_law_turned" ["cell","turns"] (oO K)):Def P w K mg base 2 "_law_give" ["coming","cell","fate","tick","births"] (sP K Bv):=by
 refine F.def sQ (fun _ _ _ _ _ _ us hl=>match us,hl with | [_,_,_,_,_],_=>rfl) (fun vs H Q E h=>?_) (fun f bo A outer s H vs Q E hr h=>?_)
 ·obtain ⟨B,d,l,fA,tick,v3,sl,n,rows,b,fs,late,rfl,_⟩:=h
  rfl
 ·obtain ⟨B,d,l,fA,tick,v3,sl,n,rows,b,fs,late,rfl,sb,cg,hl,WT,hv,hf,gf,l6,ht,VW,nl,q⟩:=h
  refine ⟨_,aG (PS.uX (dD PassesOwn.never rfl (LK K (pv 2)) (pP K (i:=5) (j:=6) rfl sQ.nd rfl rfl (Or.inl rfl) (Or.inl rfl))
    (aG (ax (jM K PySem.F.plainAttrs_list PySem.F.slot_list_append PySem.F.type_list_append cP (aR (aM K) (pv 0) (aN bA (pv 3) (pv 5)) (fun _ _=>rfl)) (aA (bB (aA (aZ (kU.mono (by decide)) hr ar (aA (pv 1) (aA (pv 6) aE))) (aA (pM jy (bP (bQ K) (by rfl) T.iE boot_len (aA (pv 6) aE)) aF (aj _)) (aA (pv 4) aE)))) aE)))))),?_⟩
  have hsz:(1000001:Nat)≤sizeLine:=by decide
  obtain ⟨Wg,wm,h1,h2⟩:=hf
  have hs:My.bq (ay b):=My.AA _
  have ls:∀ j,j < n→∃ ys,H (sl j)=some (.lst ys):=fun j hj=>by obtain ⟨_,g,_⟩:=(cg.at_ j hj).at_;exact ⟨_,g⟩
  refine ⟨_,rfl,fA,rfl,⟨_,h1⟩,?_⟩
  refine Kv (K:=K) (a:=fA) (xs:=bK fs.length Wg) (fun i σ H'=>∃ (B':Hp) (v5 v6:Option V),σ=[some (.ref d),some (.ref l),some (.ref fA),some (.int (tick:Int)),some v3,v5,v6]∧Gv B H B' H' sl n∧Cg Bv B' H' d sl n (oP rows tick b (fs.take i)))
   ⟨B,none,none,rfl,Gv.refl sb,cg⟩ (fun i σ H' _ ⟨_,_,_,_,g,_⟩=>Ae g.fr ls h1) ?_ ?_
  ·rintro i x σ H1 hx ⟨B1,v5,v6,rfl,g1,c1⟩
   obtain ⟨hi,rfl⟩:=tab_of hx
   have e:fs[i]?=some fs[i]:=by simp [hi]
   generalize fs[i]=dd at e
   obtain ⟨d1,d2,d3⟩:=gf.at_ dd (List.mem_of_getElem? e)
   obtain ⟨k1,aBR,k2,k3⟩:=h2 i dd e
   have kts:oN K H1 (wm i) dd.2:=⟨aBR,Ae g1.fr ls k2,fun y q hq=>Ae g1.fr ls (k3 y q hq)⟩
   refine vp (Ae g1.fr ls k1) ?_
   have Z7:tick+dd.1.toNat < n:=by omega
   obtain ⟨Lp,r1,r2⟩:=(c1.at_ _ Z7).at_
   have hl1:H1 l=some (.lst (tabI 24 (ay b))):=g1.fr l _ nl hl
   have eix:xc (bK n sl) ((tick:Int)+dd.1)=some (.ref (sl (tick+dd.1.toNat))):=by
    rw [show (tick:Int)+dd.1=((tick+dd.1.toNat:Nat):Int) by omega]
    exact iw (b9 Z7)
   have hlen:=IF (rows:=rows) (tick:=tick) (b:=b) (fs.take i) (tick+dd.1.toNat)
   have hl3:=gf.len
   rw [List.length_take] at hlen
   have Ye:=VW _ Z7
   refine ⟨_,rfl,_,rfl,_,rfl,_,_,rfl,rfl,d,_,_,_,rfl,rfl,aX.of (g1.bh _ _ c1.dl),eix,.inl ⟨rfl,_,aX.of r1⟩,?_⟩
   refine ⟨_,rfl,_,rfl,l,wm i,_,dd.2,rfl,aX.of hl1,kts,d3,fun p H2 s2 np ep=>?_⟩
   refine ⟨_,rfl,wm i,_,rfl,.inr (s2.tup (kts.choose_spec.1)),_,_,rfl,rfl,?_⟩
   rw [aL]
   refine ⟨_,rfl,by show 3≤sizeLine;decide,fun r Wh=>?_⟩
   refine ⟨sl (tick+dd.1.toNat),_,_,rfl,rfl,by rw [aD (aK (s2 _ _ r1) Wh)];exact s2 _ _ r1,by rw [aL];omega,?_⟩
   have hrd:decide (((dd.2.length:Nat):Int) < 3)=decide (dd.2.length < 3):=by
    by_cases z:dd.2.length < 3
    ·rw [decide_eq_true z,decide_eq_true (by omega)]
    ·rw [decide_eq_false z,decide_eq_false (by omega)]
   obtain ⟨gA,cA⟩:=c1.step mb (rw':=iU b dd.2) (v3:=v3) g1.bh Z7 s2 np ep Wh (Pd WT d3 hs) (mb _ _ _ _ g1.bb hv) r1 r2
   refine ⟨upd (upd B1 p (.lst (tabI 24 (iU b dd.2).f))) r (.tup [.ref p,.bl (iU b dd.2).rd,v3]),_,_,rfl,g1.trans ?_,?_⟩
   ·show Gv B1 H1 _ (upd (upd H2 r (.tup [.ref p,.bl (decide (((dd.2.length:Nat):Int) < 3)),v3])) _ _) sl n
    rw [hrd]
    exact gA
   ·show Cg Bv _ (upd (upd H2 r (.tup [.ref p,.bl (decide (((dd.2.length:Nat):Int) < 3)),v3])) _ _) d sl n _
    rw [hrd,take_succ e,NF]
    exact cA
  ·rintro σ H1 ⟨B1,v5,v6,rfl,g1,c1⟩
   rw [aL,List.take_length] at c1
   exact q B1 H1 g1 c1
end
end K31
namespace K31
open PySem L2 PyProof.Rows
section
variable {P:Program} {w:World} {K:PySem.W.Frag} {mg:Str→Option Value} {base:Heap} {t:Ad}
theorem bO.mv {C:Addr} {B H B' H':Hp} {x tA pA:Addr} {L:Lk} (h:bO C B H x tA pA L) (sb:aI B' H') (bb:aI B B') (no:∀ a,H a≠none→B a=none→B' a=none) (kx:∀ o,H x=some o→H' x=some o) (kt:∀ o,H tA=some o→H' tA=some o) (kp:∀ o,H pA=some o→H' pA=some o):bO C B' H' x tA pA L:=by
 obtain ⟨dx,pv,g,gp⟩:=h.at_
 obtain ⟨gO,g2,Hs⟩:=h.told
 obtain ⟨dt,g3,vU⟩:=h.bS
 exact ⟨sb,no _ h.hx h.bx,no _ h.ht h.bt,no _ h.hp h.bp,⟨dx,pv,kx _ g,gp.mono bb⟩,⟨gO,kt _ g2,fun y e he=>(Hs y e he).mono bb⟩,⟨dt,kp _ g3,fun y xs hy=>bb _ _ (vU y xs hy)⟩,h.ne⟩
def at2 {α:Type} (f:Nat→α) (s:Nat) (v:α):Nat→α:=fun i=>if i=s then v else f i
theorem aO {α:Type} {f:Nat→α} {s:Nat} {v:α}:at2 f s v s=v:=if_pos rfl
theorem ae {α:Type} {f:Nat→α} {s i:Nat} {v:α} (h:i≠s):at2 f s v i=f i:=if_neg h
structure vJ (o:HO):Prop where
 t:∀ xs,o≠.tup xs
 f:∀ a u,o≠.Ir a u
theorem lZ (xs:List V):vJ (.lst xs):=⟨(fun _ z=>by cases z),(fun _ _ z=>by cases z)⟩
structure St (Bv:Dl) (C:Addr) (B H:Hp) (n:Nat) (x tA pA d:Nat→Addr) (sl:Nat→Nat→Addr) (L:Nat→Lk) (rows:Nat→Nat→List Rw) (ρ:Addr→Nat) (m:Nat) (ex:Nat→Addr) (eo:Nat→HO):Prop where
 sb:aI B H
 lk:∀ s,s < 2→bO C B H (x s) (tA s) (pA s) (L s)
 cg:∀ s,s < 2→Cg Bv B H (d s) (sl s) n (rows s)
 rx:∀ s,s < 2→ρ (x s)=10+s
 rt:∀ s,s < 2→ρ (tA s)=20+s
 rp:∀ s,s < 2→ρ (pA s)=30+s
 rs:∀ s,s < 2→∀ j,j < n→ρ (sl s j)=50+s
 ee:∀ i,i < m→H (ex i)=some (eo i)
 eb:∀ i,i < m→B (ex i)=none
 er:∀ i,i < m→ρ (ex i)=100+i
 en:∀ i,i < m→vJ (eo i)
section
variable {Bv:Dl} {C:Addr} {B H B' H':Hp} {n:Nat} {x tA pA d:Nat→Addr} {sl:Nat→Nat→Addr} {L:Nat→Lk} {rows:Nat→Nat→List Rw} {ρ:Addr→Nat} {s m:Nat} {ex:Nat→Addr} {eo Wj:Nat→HO}
theorem da {a b:Addr} {i j:Nat} (ha:ρ a=i) (hb:ρ b=j) (h:i≠j):a≠b:=fun z=>h (by rw [← ha,← hb,z])
theorem Cg.mv (mb:fX Bv) {a:Addr} {sa:Nat→Addr} {ra:Nat→List Rw} (h:Cg Bv B H a sa n ra) (bb:aI B B') (no:∀ a,H a≠none→B a=none→B' a=none) (e:∀ j,j < n→∀ o,H (sa j)=some o→H' (sa j)=some o):Cg Bv B' H' a sa n ra :=
 ⟨bb _ _ h.dl,h.inj,fun j hj=>(h.at_ j hj).keep mb bb (no _ (h.at_ j hj).val (h.at_ j hj).no) (by obtain ⟨_,g,_⟩:=(h.at_ j hj).at_;rw [e j hj _ g,g])⟩
theorem St.he (h:St Bv C B H n x tA pA d sl L rows ρ m ex eo) {i:Nat} (hi:i < m):H (ex i)≠none:=by rw [h.ee i hi];exact fun z=>by cases z
theorem St.same (mb:fX Bv) (h:St Bv C B H n x tA pA d sl L rows ρ m ex eo) (e:aI H H'):St Bv C B H' n x tA pA d sl L rows ρ m ex eo :=
 ⟨h.sb.trans e,fun s hs=>(h.lk s hs).same e,fun s hs=>(h.cg s hs).mv mb (aI.refl _) (fun _ _ z=>z) fun j _ o g=>e _ _ g,h.rx,h.rt,h.rp,h.rs,fun i hi=>e _ _ (h.ee i hi),h.eb,h.er,h.en⟩
theorem St.Z8 (mb:fX Bv) {tB pB:Addr} {L':Lk} (h:St Bv C B H n x tA pA d sl L rows ρ m ex eo) (hs:s < 2) (mv:jV B H B' H' (x s) (tA s) (pA s) tB pB) (hl:bO C B' H' (x s) tB pB L') :
  ∃ ρ',St Bv C B' H' n x (at2 tA s tB) (at2 pA s pB) d sl (at2 L s L') rows ρ' m ex eo∧∀ a,a≠tB→a≠pB→ρ' a=ρ a:=by
 have old:∀ {a:Addr} {i:Nat},ρ a=i→i≠10+s→i≠20+s→i≠30+s→∀ o,H a=some o→H' a=some o:=fun {a i} e n1 n2 n3 o g=>mv.k a o (da e (h.rx s hs) n1) (da e (h.rt s hs) n2) (da e (h.rp s hs) n3) g
 have nt:∀ {a:Addr} {i:Nat},ρ a=i→i≠20+s→H a≠none→a≠tB:=fun {a i} e n1 g z=>by
  rcases mv.t with y | y
  ·exact da e (h.rt s hs) n1 (z.trans y)
  ·exact g (by rw [z];exact y)
 have np:∀ {a:Addr} {i:Nat},ρ a=i→i≠30+s→H a≠none→a≠pB:=fun {a i} e n1 g z=>by
  rcases mv.p with y | y
  ·exact da e (h.rp s hs) n1 (z.trans y)
  ·exact g (by rw [z];exact y)
 have rr:∀ {a:Addr} {i:Nat},ρ a=i→i≠20+s→i≠30+s→H a≠none→(fun b=>if b=tB then 20+s else if b=pB then 30+s else ρ b) a=i:=fun {a i} e n1 n2 g=>by
  show (if a=tB then 20+s else if a=pB then 30+s else ρ a)=i
  rw [if_neg (nt e n1 g),if_neg (np e n2 g)];exact e
 refine ⟨fun b=>if b=tB then 20+s else if b=pB then 30+s else ρ b,⟨hl.sb,?_,?_,?_,?_,?_,?_,fun i hi=>old (h.er i hi) (by omega) (by omega) (by omega) _ (h.ee i hi),fun i hi=>mv.no _ (h.he hi) (h.eb i hi),fun i hi=>rr (h.er i hi) (by omega) (by omega) (h.he hi),h.en⟩,fun a h1 h2=>by show (if a=tB then 20+s else if a=pB then 30+s else ρ a)=ρ a;rw [if_neg h1,if_neg h2]⟩
 ·intro i hi
  by_cases z:i=s
  ·subst z;rw [aO,aO,aO];exact hl
  ·rw [ae z,ae z,ae z]
   exact (h.lk i hi).mv hl.sb mv.bb mv.no (old (h.rx i hi) (by omega) (by omega) (by omega)) (old (h.rt i hi) (by omega) (by omega) (by omega)) (old (h.rp i hi) (by omega) (by omega) (by omega))
 ·intro i hi
  exact (h.cg i hi).mv mb mv.bb mv.no fun j hj=>old (h.rs i hi j hj) (by omega) (by omega) (by omega)
 ·intro i hi
  exact rr (h.rx i hi) (by omega) (by omega) (h.lk i hi).hx
 ·intro i hi
  by_cases z:i=s
  ·subst z;rw [aO];exact if_pos rfl
  ·rw [ae z];exact rr (h.rt i hi) (by omega) (by omega) (h.lk i hi).ht
 ·intro i hi
  by_cases z:i=s
  ·subst z
   rw [aO]
   show (if pB=tB then 20+i else if pB=pB then 30+i else ρ pB)=_
   rw [if_neg (Ne.symm hl.ne),if_pos rfl]
  ·rw [ae z];exact rr (h.rp i hi) (by omega) (by omega) (h.lk i hi).hp
 ·intro i hi j hj
  exact rr (h.rs i hi j hj) (by omega) (by omega) ((h.cg i hi).at_ j hj).val
theorem St.gv (mb:fX Bv) {ra:Nat→List Rw} (h:St Bv C B H n x tA pA d sl L rows ρ m ex eo) (hs:s < 2) (g:Gv B H B' H' (sl s) n) (c:Cg Bv B' H' (d s) (sl s) n ra):St Bv C B' H' n x tA pA d sl L (at2 rows s ra) ρ m ex eo:=by
 have old:∀ {a:Addr} {i:Nat},ρ a=i→i≠50+s→∀ o,H a=some o→H' a=some o:=fun {a i} e n1 o q=>g.fr a o (fun j hj=>da e (h.rs s hs j hj) n1) q
 refine ⟨g.bh,?_,?_,h.rx,h.rt,h.rp,h.rs,fun i hi=>old (h.er i hi) (by omega) _ (h.ee i hi),fun i hi=>g.no _ (h.he hi) (h.eb i hi),h.er,h.en⟩
 ·intro i hi
  exact (h.lk i hi).mv g.bh g.bb g.no (old (h.rx i hi) (by omega)) (old (h.rt i hi) (by omega)) (old (h.rp i hi) (by omega))
 ·intro i hi
  by_cases z:i=s
  ·subst z;rw [aO];exact c
  ·rw [ae z]
   exact (h.cg i hi).mv mb g.bb g.no fun j hj=>old (h.rs i hi j hj) (by omega)
theorem St.grow (mb:fX Bv) {a:Addr} {o:HO} (h:St Bv C B H n x tA pA d sl L rows ρ m ex eo) (s:aI H H') (na:H a=none) (ea:H' a=some o) :
  St Bv C (upd B a o) H' n x tA pA d sl L rows ρ m ex eo∧aI B (upd B a o):=by
 have h1:=h.same mb s
 have sB:aI B (upd B a o):=(aI.refl _).new (h.sb.free na)
 have no:∀ b,H b≠none→B b=none→(upd B a o) b=none:=fun b hb e=>by rw [aD (fun z=>hb (by rw [z];exact na))];exact e
 have Lq:aI (upd B a o) H':=fun b u e=>by
  by_cases z:b=a
  ·rw [z] at e ⊢;rw [aB] at e;rw [ea];exact e
  ·rw [aD z] at e;exact h1.sb _ _ e
 exact ⟨⟨Lq,fun i hi=>(h.lk i hi).mv Lq sB no (fun o e=>s _ _ e) (fun o e=>s _ _ e) (fun o e=>s _ _ e),fun i hi=>(h.cg i hi).mv mb sB no fun j _ o e=>s _ _ e,h.rx,h.rt,h.rp,h.rs,h1.ee,fun i hi=>no _ (h.he hi) (h.eb i hi),h.er,h.en⟩,sB⟩
theorem St.chg (mb:fX Bv) (h:St Bv C B H n x tA pA d sl L rows ρ m ex eo) (fr:∀ a o,(∀ i,i < m→a≠ex i)→H a=some o→H' a=some o) (ee':∀ i,i < m→H' (ex i)=some (Wj i)) (en':∀ i,i < m→vJ (Wj i)):St Bv C B H' n x tA pA d sl L rows ρ m ex Wj:=by
 have old:∀ {b:Addr} {k:Nat},ρ b=k→k < 100→∀ u,H b=some u→H' b=some u:=fun {b k} q n1 u g=>fr b u (fun i hi=>da q (h.er i hi) (by omega)) g
 have Lq:aI B H':=fun a o e=>fr a o (fun i hi z=>by rw [z,h.eb i hi] at e;cases e) (h.sb _ _ e)
 exact ⟨Lq,fun i hi=>(h.lk i hi).mv Lq (aI.refl _) (fun _ _ z=>z) (old (h.rx i hi) (by omega)) (old (h.rt i hi) (by omega)) (old (h.rp i hi) (by omega)),fun i hi=>(h.cg i hi).mv mb (aI.refl _) (fun _ _ z=>z) fun j hj=>old (h.rs i hi j hj) (by omega),h.rx,h.rt,h.rp,h.rs,ee',h.eb,h.er,en'⟩
theorem St.put (mb:fX Bv) {i:Nat} {o:HO} (h:St Bv C B H n x tA pA d sl L rows ρ m ex eo) (hi:i < m) (no:vJ o):St Bv C B (upd H (ex i) o) n x tA pA d sl L rows ρ m ex (at2 eo i o):=by
 refine h.chg mb (fun a u hn e=>by rw [aD (hn i hi)];exact e) (fun k hk=>?_) (fun k hk=>?_)
 ·by_cases z:k=i
  ·rw [z,aO];exact aB
  ·rw [ae z,aD (da (h.er k hk) (h.er i hi) (by omega))];exact h.ee k hk
 ·by_cases z:k=i
  ·rw [z,aO];exact no
  ·rw [ae z];exact h.en k hk
theorem St.re (h:St Bv C B H n x tA pA d sl L rows ρ m ex eo) {L':Nat→Lk} {Wj:Nat→HO} (hL:∀ s,s < 2→L' s=L s) (hE:∀ i,i < m→Wj i=eo i):St Bv C B H n x tA pA d sl L' rows ρ m ex Wj :=
 ⟨h.sb,fun s hs=>by rw [hL s hs];exact h.lk s hs,h.cg,h.rx,h.rt,h.rp,h.rs,fun i hi=>by rw [hE i hi];exact h.ee i hi,h.eb,h.er,fun i hi=>by rw [hE i hi];exact h.en i hi⟩
end
section
end
open Classical in
noncomputable def cI (x t p:Nat→Addr) (sl:Nat→Nat→Addr) (n m:Nat) (ex:Nat→Addr) (a:Addr):Nat :=
 if a=x 0 then 10 else if a=x 1 then 11 else if a=t 0 then 20 else if a=t 1 then 21 else if a=p 0 then 30 else if a=p 1 then 31
 else if ∃ j,j < n∧a=sl 0 j then 50 else if ∃ j,j < n∧a=sl 1 j then 51 else if h:∃ i,i < m∧a=ex i then 100+Classical.choose h else 0
structure Apart (x t p:Nat→Addr) (sl:Nat→Nat→Addr) (n m:Nat) (ex:Nat→Addr):Prop where
 nd:[x 0,x 1,t 0,t 1,p 0,p 1].Nodup
 s0:∀ j,j < n→sl 0 j ∉ [x 0,x 1,t 0,t 1,p 0,p 1]
 s1:∀ j,j < n→sl 1 j ∉ [x 0,x 1,t 0,t 1,p 0,p 1]
 ss:∀ i j,i < n→j < n→sl 1 i≠sl 0 j
 ei:∀ i j,i < m→j < m→ex i=ex j→i=j
 ea:∀ i,i < m→ex i ∉ [x 0,x 1,t 0,t 1,p 0,p 1]
 e0:∀ i,i < m→∀ j,j < n→ex i≠sl 0 j
 e1:∀ i,i < m→∀ j,j < n→ex i≠sl 1 j
def av {α:Type} (a b:α):Nat→α:=fun s=>if s=0 then a else b
theorem bV {q:Nat→Prop} (h0:q 0) (h1:q 1):∀ s,s < 2→q s:=fun s hs=>by
 match s,hs with
 | 0,_=>exact h0
 | 1,_=>exact h1
 | s+2,hs=>omega
section
variable {x t p:Nat→Addr} {sl:Nat→Nat→Addr} {n m:Nat} {ex:Nat→Addr}
theorem sR {a:Addr} (h1:a ∉ [x 0,x 1,t 0,t 1,p 0,p 1]) (h2:∀ j,j < n→a≠sl 0 j) (h3:∀ j,j < n→a≠sl 1 j) (h4:∀ i,i < m→a≠ex i):cI x t p sl n m ex a=0:=by
 simp only [List.mem_cons,List.not_mem_nil,or_false,not_or] at h1
 obtain ⟨a1,a2,a3,a4,a5,a6⟩:=h1
 unfold cI
 rw [if_neg a1,if_neg a2,if_neg a3,if_neg a4,if_neg a5,if_neg a6,if_neg (fun ⟨j,hj,e⟩=>h2 j hj e),if_neg (fun ⟨j,hj,e⟩=>h3 j hj e),dif_neg (fun ⟨j,hj,e⟩=>h4 j hj e)]
theorem Lr (h:Apart x t p sl n m ex):(∀ s,s < 2→cI x t p sl n m ex (x s)=10+s)∧(∀ s,s < 2→cI x t p sl n m ex (t s)=20+s)∧(∀ s,s < 2→cI x t p sl n m ex (p s)=30+s)∧(∀ s,s < 2→∀ j,j < n→cI x t p sl n m ex (sl s j)=50+s)∧(∀ i,i < m→cI x t p sl n m ex (ex i)=100+i):=by
 have nd:=h.nd
 simp only [List.nodup_cons,List.mem_cons,List.not_mem_nil,or_false,not_or,List.nodup_nil,and_true,not_false_eq_true] at nd
 obtain ⟨⟨a1,a2,a3,a4,a5⟩,⟨b1,b2,b3,b4⟩,⟨c1,c2,c3⟩,⟨d1,d2⟩,e1⟩:=nd
 refine ⟨bV ?_ ?_,bV ?_ ?_,bV ?_ ?_,bV ?_ ?_,?_⟩
 ·unfold cI;rw [if_pos rfl]
 ·unfold cI;rw [if_neg (Ne.symm a1),if_pos rfl]
 ·unfold cI;rw [if_neg (Ne.symm a2),if_neg (Ne.symm b1),if_pos rfl]
 ·unfold cI;rw [if_neg (Ne.symm a3),if_neg (Ne.symm b2),if_neg (Ne.symm c1),if_pos rfl]
 ·unfold cI;rw [if_neg (Ne.symm a4),if_neg (Ne.symm b3),if_neg (Ne.symm c2),if_neg (Ne.symm d1),if_pos rfl]
 ·unfold cI;rw [if_neg (Ne.symm a5),if_neg (Ne.symm b4),if_neg (Ne.symm c3),if_neg (Ne.symm d2),if_neg (Ne.symm e1),if_pos rfl]
 ·intro j hj
  have h1:=h.s0 j hj
  simp only [List.mem_cons,List.not_mem_nil,or_false,not_or] at h1
  obtain ⟨u1,u2,u3,u4,u5,u6⟩:=h1
  unfold cI
  rw [if_neg u1,if_neg u2,if_neg u3,if_neg u4,if_neg u5,if_neg u6,if_pos ⟨j,hj,rfl⟩]
 ·intro j hj
  have h1:=h.s1 j hj
  simp only [List.mem_cons,List.not_mem_nil,or_false,not_or] at h1
  obtain ⟨u1,u2,u3,u4,u5,u6⟩:=h1
  unfold cI
  rw [if_neg u1,if_neg u2,if_neg u3,if_neg u4,if_neg u5,if_neg u6,if_neg (fun ⟨i,hi,e⟩=>h.ss j i hj hi e),if_pos ⟨j,hj,rfl⟩]
 ·intro i hi
  have h1:=h.ea i hi
  simp only [List.mem_cons,List.not_mem_nil,or_false,not_or] at h1
  obtain ⟨u1,u2,u3,u4,u5,u6⟩:=h1
  have hx:∃ k,k < m∧ex i=ex k:=⟨i,hi,rfl⟩
  unfold cI
  rw [if_neg u1,if_neg u2,if_neg u3,if_neg u4,if_neg u5,if_neg u6,if_neg (fun ⟨j,hj,e⟩=>h.e0 i hi j hj e),if_neg (fun ⟨j,hj,e⟩=>h.e1 i hi j hj e),dif_pos hx]
  have:=Classical.choose_spec hx
  rw [← h.ei i _ hi this.1 this.2]
end
theorem St.start {Bv:Dl} {C:Addr} {H:Hp} {n m:Nat} {ex:Nat→Addr} {eo:Nat→HO} {x t p d:Nat→Addr} {sl:Nat→Nat→Addr} {L:Nat→Lk} (ap:Apart x t p sl n m ex) (lk:∀ s,s < 2→∃ B0,bO C B0 H (x s) (t s) (p s) (L s)) (le:∀ s,s < 2→(L s).ev=[]∧(L s).bS=[]∧(L s).p=none)
  (dl:∀ s,s < 2→H (d s)=some (.lst (bK n (sl s)))) (dz:∀ s,s < 2→cI x t p sl n m ex (d s)=0) (inj:∀ s,s < 2→∀ i j,i < n→j < n→sl s i=sl s j→i=j) (emp:∀ s,s < 2→∀ j,j < n→H (sl s j)=some (.lst [])) (ee:∀ i,i < m→H (ex i)=some (eo i)) (en:∀ i,i < m→vJ (eo i)) :
  ∃ B,St Bv C B H n x t p d sl L (fun _ _=>[]) (cI x t p sl n m ex) m ex eo∧∀ a o,cI x t p sl n m ex a=0→H a=some o→B a=some o:=by
 obtain ⟨r1,r2,r3,r5,r6⟩:=Lr ap
 have no:∀ {a:Addr} {k:Nat},cI x t p sl n m ex a=k→k≠0→(fun a=>if cI x t p sl n m ex a=0 then H a else none) a=none:=fun {a k} e h=>by
  show (if cI x t p sl n m ex a=0 then H a else none)=none
  rw [if_neg (by rw [e];exact h)]
 have yes:∀ a o,cI x t p sl n m ex a=0→H a=some o→(fun a=>if cI x t p sl n m ex a=0 then H a else none) a=some o:=fun a o e h=>by
  show (if cI x t p sl n m ex a=0 then H a else none)=some o
  rw [if_pos e];exact h
 have sb:aI (fun a=>if cI x t p sl n m ex a=0 then H a else none) H:=fun a o e=>by
  by_cases z:cI x t p sl n m ex a=0
  ·have e:(if cI x t p sl n m ex a=0 then H a else none)=some o:=e
   rw [if_pos z] at e;exact e
  ·have e:(if cI x t p sl n m ex a=0 then H a else none)=some o:=e
   rw [if_neg z] at e;cases e
 refine ⟨fun a=>if cI x t p sl n m ex a=0 then H a else none,⟨sb,?_,?_,r1,r2,r3,r5,ee,fun i hi=>no (r6 i hi) (by omega),r6,en⟩,yes⟩
 ·intro s hs
  obtain ⟨B0,l⟩:=lk s hs
  obtain ⟨q1,q2,q3⟩:=le s hs
  obtain ⟨dx,pv,g,gp⟩:=l.at_
  obtain ⟨gO,g2,Hs⟩:=l.told
  obtain ⟨dt,g3,vU⟩:=l.bS
  refine ⟨sb,no (r1 s hs) (by omega),no (r2 s hs) (by omega),no (r3 s hs) (by omega),⟨dx,pv,g,?_⟩,⟨gO,g2,fun y e he=>by rw [q1] at he;cases he⟩,⟨dt,g3,fun y e he=>by rw [q2] at he;cases he⟩,l.ne⟩
  rw [q3] at gp ⊢;exact gp
 ·intro s hs
  exact ⟨yes _ _ (dz s hs) (dl s hs),inj s hs,fun j hj=>⟨no (r5 s hs j hj) (by omega),fun _=>0,emp s hs j hj,fun y r e=>by cases e⟩⟩
theorem cG {f:Nat→Addr} {s:Nat} (h:s < 2):xc [V.ref (f 0),V.ref (f 1)] (s:Int)=some (.ref (f s)):=by
 match s,h with
 | 0,_=>rfl
 | 1,_=>rfl
 | s+2,h=>omega
structure Vc (H0 H:Hp) (D:Addr) (sl:Nat→Addr) (n:Nat):Prop where
 sm:aI H0 H
 nD:H0 D=none
 at_:H D=some (.lst (bK n sl))
 em:∀ j,j < n→H (sl j)=some (.lst [])
 no:∀ j,j < n→H0 (sl j)=none
 nd:∀ j,j < n→sl j≠D
 inj:∀ i j,i < n→j < n→sl i=sl j→i=j
theorem Vc.step {H0 H:Hp} {D p:Addr} {sl:Nat→Addr} {n:Nat} (h:Vc H0 H D sl n) (hp:H p=none):Vc H0 (upd (upd H p (.lst [])) D (.lst (bK n sl ++ [.ref p]))) D (fun j=>if j=n then p else sl j) (n+1):=by
 have Ti:D≠p:=aK h.at_ hp
 refine ⟨(h.sm.new hp).put h.nD,h.nD,by rw [aB,dS],fun j hj=>?_,fun j hj=>?_,fun j hj=>?_,fun i j hi hj e=>?_⟩
 ·by_cases z:j=n
  ·simp only [z,if_true]
   rw [aD (Ne.symm Ti)];exact aB
  ·simp only [z,if_false]
   have QN:j < n:=by omega
   rw [aD (h.nd j QN),aD (aK (h.em j QN) hp)];exact h.em j QN
 ·by_cases z:j=n
  ·simp only [z,if_true];exact h.sm.free hp
  ·simp only [z,if_false];exact h.no j (by omega)
 ·by_cases z:j=n
  ·simp only [z,if_true];exact Ne.symm Ti
  ·simp only [z,if_false];exact h.nd j (by omega)
 ·by_cases zi:i=n
  ·by_cases zj:j=n
   ·omega
   ·simp only [zi,zj,if_true,if_false] at e
    have QN:j < n:=by omega
    exact absurd e.symm (aK (h.em j QN) hp)
  ·by_cases zj:j=n
   ·simp only [zi,zj,if_true,if_false] at e
    have hi':i < n:=by omega
    exact absurd e (aK (h.em i hi') hp)
   ·simp only [zi,zj,if_false] at e
    exact h.inj i j (by omega) (by omega) e
def IG:Dl:=fun _ v _=>v=.bJ
theorem dr:fX IG:=fun _ _ _ _ _ h=>h
end
end K31
namespace K31
open PySem L2 PyProof.Rows
section
variable {P:Program} {w:World} {K:PySem.W.Frag} {mg:Str→Option Value} {base:Heap} {t:Ad}
def bI (L:Lk) (bs:List Cl):Lk:={ dR L bs with ev:=[] }
def aU (rs:List Rw):List Cl:=rs.filterMap fun r=>if r.rd=true then some r.b else none
theorem qd {rs:List Rw} {x:Cl} (h:x ∈ aU rs):∃ row ∈ rs,row.rd=true∧row.b=x:=by
 obtain ⟨y,hy,e⟩:=List.mem_filterMap.mp h
 split at e
 ·rename_i z;cases e;exact ⟨y,hy,z,rfl⟩
 ·cases e
def Vd (r:Rw):Cm:=(r.f,if r.rd=true then some r.b else none)
theorem Pe (rs:List Rw):cY (rs.map Vd)=aU rs:=by
 unfold cY aU
 rw [List.filterMap_map]
 rfl
theorem sS {rows:Nat→List Rw} {tick:Nat} {b:Cl}:∀ (fs:Ft) (j:Nat) (r:Rw),r ∈ oP rows tick b fs j→r ∈ rows j∨∃ d ∈ fs,j=tick+d.1.toNat∧r=iU b d.2:=by
 intro fs
 induction fs generalizing rows with
 | nil=>intro j r h;exact .inl h
 | cons d rest ih =>
  intro j r h
  rcases ih (rows:=IE rows (tick+d.1.toNat) (iU b d.2)) j r h with z | ⟨x,hx,z⟩
  ·have z:r ∈ (if j=tick+d.1.toNat then rows j ++ [iU b d.2] else rows j):=z
   split at z
   ·rename_i e
    rcases List.mem_append.mp z with y | y
    ·exact .inl y
    ·exact .inr ⟨d,List.mem_cons_self,e,List.mem_singleton.mp y⟩
   ·exact .inl z
  ·exact .inr ⟨x,List.mem_cons_of_mem _ hx,z⟩
theorem dY.Yn {G:Gh} {s:Nat} {a:Cl} {m n:Nat} (h:dY G s a m) (hm:m≤n):dY G s a n:=by
 obtain ⟨nc,cc,h1,h2,h3,h4,h5,h6,h7⟩:=h.ex
 exact ⟨⟨nc,cc,h1,h2,h3,h4,by omega,by omega,h7⟩,h.m⟩
theorem En.grow {r s:Nat} {β:Int} {G G':Gh} {L:Lk} (g:kS r β G G') (hs:s≠r) (h:En G s L):En G' s L:=by
 have fr:∀ {P:Pr},oM G s P→oM G' s P:=fun {P} f=>⟨by rw [g.w];exact f.w,by rw [g.o s hs];exact f.o,by rw [g.k s hs];exact f.k,by rw [g.u s hs];exact f.u⟩
 exact ⟨h.sd,by rw [g.o s hs];exact h.o,by rw [g.k s hs];exact h.t,by rw [g.w,g.o s hs];exact h.p,by rw [g.w,g.o s hs];exact h.ow,fun z=>fr (h.dn z),by rw [g.u s hs];exact h.up,fun P hP=>fr (h.un P hP),by rw [g.u s hs];exact h.um⟩
structure vW (late:Int) (G:Gh) (L:Nat→Lk) (rows:Nat→Nat→List Rw):Prop where
 en:∀ s,s < 2→En G s (L s)
 rel:Rel G
 ag:∀ s,s < 2→∀ (j:Nat) (row:Rw),row ∈ rows (1 - s) j→∃ AZ:Nat,dY G s row.b AZ∧(AZ:Int)+j+1≤(L s).d+late
 bi:∀ s,s < 2→∀ (j:Nat) (row:Rw),row ∈ rows (1 - s) j→row.b.b≤(L s).b∧row.b.k≤(L (1 - s)).b
 kb:∀ s,s < 2→0≤(L (1 - s)).b∧(L s).k≤(L (1 - s)).b∧∀ P,G.U s P→zU s P≤(L (1 - s)).b
theorem Pf (L:Lk) (bs:List Cl):(dR L bs).d=L.d+1∧(dR L bs).s=L.s∧(dR L bs).q=L.q:=by
 have mt:∀ (L:Lk) (n:Int),(bL L n).d=L.d∧(bL L n).s=L.s∧(bL L n).q=L.q:=fun L n=>by
  unfold bL
  cases L.p with
  | none=>exact ⟨rfl,rfl,rfl⟩
  | some p=>simp only;split <;> exact ⟨rfl,rfl,rfl⟩
 have cm:∀ L:Lk,(bY L).d=L.d∧(bY L).s=L.s∧(bY L).q=L.q:=fun L=>by
  unfold bY
  cases L.p <;> exact ⟨rfl,rfl,rfl⟩
 have hr:∀ (L:Lk) (c:Int),(cB L c).d=L.d∧(cB L c).s=L.s∧(cB L c).q=L.q:=fun L c=>by unfold cB;split <;> exact ⟨rfl,rfl,rfl⟩
 have tk:∀ (L:Lk) (n:Int) (xs:List Int),(dP L n xs).d=L.d∧(dP L n xs).s=L.s∧(dP L n xs).q=L.q:=fun L n xs=>by unfold dP;split <;> exact ⟨rfl,rfl,rfl⟩
 have rd:∀ (L:Lk) (a:Cl),(cq L a).d=L.d∧(cq L a).s=L.s∧(cq L a).q=L.q:=fun L a=>by
  unfold cq
  split
  ·exact ⟨rfl,rfl,rfl⟩
  ·split
   ·obtain ⟨t1,t2,t3⟩:=tk (cB (bY (bL L a.b)) a.c) a.n a.xs
    obtain ⟨h1,h2,h3⟩:=hr (bY (bL L a.b)) a.c
    obtain ⟨c1,c2,c3⟩:=cm (bL L a.b)
    obtain ⟨m1,m2,m3⟩:=mt L a.b
    exact ⟨t1.trans (h1.trans (c1.trans m1)),t2.trans (h2.trans (c2.trans m2)),t3.trans (h3.trans (c3.trans m3))⟩
   ·exact mt L a.b
 have hd:∀ (bs:List Cl) (L:Lk),(ak L bs).d=L.d∧(ak L bs).s=L.s∧(ak L bs).q=L.q:=fun bs=>by
  induction bs with
  | nil=>intro L;exact ⟨rfl,rfl,rfl⟩
  | cons a r ih =>
   intro L
   obtain ⟨i1,i2,i3⟩:=ih (cq L a)
   obtain ⟨r1,r2,r3⟩:=rd L a
   exact ⟨i1.trans r1,i2.trans r2,i3.trans r3⟩
 have qt:∀ L:Lk,(bH L).d=L.d∧(bH L).s=L.s∧(bH L).q=L.q:=fun L=>by
  unfold bH
  split
  ·unfold iG
   cases L.p <;> exact ⟨rfl,rfl,rfl⟩
  ·exact ⟨rfl,rfl,rfl⟩
 obtain ⟨h1,h2,h3⟩:=hd bs L
 obtain ⟨q1,q2,q3⟩:=qt (iH (ak L bs) bs)
 refine ⟨?_,q2.trans h2,q3.trans h3⟩
 show (bH (iH (ak L bs) bs)).d+1=_
 rw [q1];show (ak L bs).d+1=_;rw [h1]
theorem IH {B:Int}:∀ (bs:List Cl) (L:Lk),L.k≤B→(∀ a ∈ bs,a.b≤B)→(ak L bs).k≤B
 | [],_,h,_=>h
 | a :: r,L,h,hb=>by
  refine IH r (cq L a) ?_ fun x hx=>hb x (List.mem_cons_of_mem _ hx)
  have h1:a.b≤B:=hb a List.mem_cons_self
  unfold cq
  split
  ·exact h
  ·split
   ·have t1:(dP (cB (bY (bL L a.b)) a.c) a.n a.xs).k=(cB (bY (bL L a.b)) a.c).k:=by unfold dP;split <;> rfl
    have t2:(cB (bY (bL L a.b)) a.c).k=(bY (bL L a.b)).k:=by unfold cB;split <;> rfl
    rw [t1,t2,(PU _).2,(AX _ _).2];exact h1
   ·rw [(AX _ _).2];exact h1
theorem II (L:Lk):((bH L).b=L.b∧(bH L).k=L.k)∨((bH L).b=L.b+1∧(bH L).k=0):=by
 unfold bH
 split
 ·right;unfold iG;cases L.p <;> exact ⟨rfl,rfl⟩
 ·exact .inl ⟨rfl,rfl⟩
theorem vW.step {late:Int} {G:Gh} {L:Nat→Lk} {rows:Nat→Nat→List Rw} {s T:Nat} {fs:Ft} (h:vW late G L rows) (hs:s < 2) (hd:(L s).d=(T:Int)) (ho:(L (1 - s)).d≤(T:Int)+1) (l6:late≤6) (hk:ux (L s)) (LR:∀ a ∈ aU (rows s T),Dj a.b) (PF:(L s).ev=[]) (gf:zV late fs) :
  ∃ G',vW late G' (at2 L s (bI (L s) (aU (rows s T)))) (at2 rows (1 - s) (oP (rows (1 - s)) T (el (bI (L s) (aU (rows s T)))) fs))∧kS s (L s).b G G'∧pw (G.W (1 - s)) (wt G s (L s)) (dR (L s) (aU (rows s T))).ev (wt G' s (bI (L s) (aU (rows s T)))):=by
 have ne:1 - s≠s:=by omega
 have uy:1 - s < 2:=by omega
 have Dk:1 - (1 - s)=s:=by omega
 have hc:∀ a ∈ aU (rows s T),dY G (1 - s) a 8:=fun a ha=>by
  obtain ⟨row,q1,_,rfl⟩:=qd ha
  have:=h.ag (1 - s) uy T row
  rw [Dk] at this
  obtain ⟨AZ,c1,c2⟩:=this q1
  exact c1.Yn (by omega)
 have hcb:∀ a ∈ aU (rows s T),a.b≤(L (1 - s)).b∧a.k≤(L s).b:=fun a ha=>by
  obtain ⟨row,q1,_,rfl⟩:=qd ha
  have:=h.bi (1 - s) uy T row
  rw [Dk] at this
  exact this q1
 obtain ⟨G',n1,r1,g1,t1,b1,u1⟩:=(h.en s hs).tick (bs:=aU (rows s T)) hs h.rel hk LR hc (fun a ha=>(hcb a ha).2) PF
 obtain ⟨kb1,kb2,kb3⟩:=h.kb s hs
 have hk1:=IH (aU (rows s T)) (L s) kb2 fun a ha=>(hcb a ha).1
 have kb':=h.kb (1 - s) uy
 rw [Dk] at kb'
 obtain ⟨kc1,kc2,kc3⟩:=kb'
 have lA:(L s).b≤(bI (L s) (aU (rows s T))).b∧(bI (L s) (aU (rows s T))).k≤(L (1 - s)).b:=by
  have hh:(iH (ak (L s) (aU (rows s T))) (aU (rows s T))).b=(L s).b:=b1
  have hh2:(iH (ak (L s) (aU (rows s T))) (aU (rows s T))).k≤(L (1 - s)).b:=hk1
  have e1:(bI (L s) (aU (rows s T))).b=(bH (iH (ak (L s) (aU (rows s T))) (aU (rows s T)))).b:=rfl
  have e2:(bI (L s) (aU (rows s T))).k=(bH (iH (ak (L s) (aU (rows s T))) (aU (rows s T)))).k:=rfl
  rw [e1,e2]
  rcases II (iH (ak (L s) (aU (rows s T))) (aU (rows s T))) with ⟨z1,z2⟩ | ⟨z1,z2⟩
  ·rw [z1,z2];exact ⟨by omega,hh2⟩
  ·rw [z1,z2];exact ⟨by omega,kb1⟩
 obtain ⟨td,ts,tq⟩:=Pf (L s) (aU (rows s T))
 have dA:(bI (L s) (aU (rows s T))).d=(T:Int)+1:=by show (dR (L s) (aU (rows s T))).d=_;rw [td,hd]
 have nA:En G' s (bI (L s) (aU (rows s T))):=n1
 refine ⟨G',⟨fun i hi=>?_,r1,fun i hi j row fH=>?_,fun i hi j row fH=>?_,fun i hi=>?_⟩,g1,t1⟩
 ·by_cases z:i=s
  ·rw [z,aO];exact nA
  ·rw [ae z];exact (h.en i hi).grow g1 z
 ·by_cases z:i=s
  ·subst z
   rw [aO] at fH
   rw [aO,dA]
   rcases sS fs j row fH with y | ⟨d,Df,rfl,rfl⟩
   ·obtain ⟨AZ,c1,c2⟩:=h.ag i hi j row y
    obtain ⟨nc,cc,k1,k2,k3,k4,k5,k6,k7⟩:=c1.ex
    refine ⟨AZ+1,⟨⟨nc,cc,k1,k2,Nat.le_trans k3 (g1.om _),Nat.le_trans k4 (g1.km _),?_,?_,by rw [g1.w];exact k7⟩,by rw [g1.u (1 - i) ne];exact c1.m⟩,by omega⟩
    ·have a1:=(r1 i hi (pr i row.b.b row.b.k)).1
     have a2:=(h.rel i hi (pr i row.b.b row.b.k)).2.1
     rw [g1.k (1 - i) ne] at a1
     omega
    ·have a1:=(r1 (1 - i) uy (pr i row.b.b row.b.k)).2.1
     have a2:=(h.rel (1 - i) uy (pr i row.b.b row.b.k)).1
     rw [Dk] at a1 a2
     rw [g1.o (1 - i) ne] at a1
     omega
   ·generalize bI (L i) (aU (rows i T))=LA at *
    have b1:=(gf.at_ d Df).1
    have b2:=(gf.at_ d Df).2.1
    refine ⟨0,⟨⟨G'.O i (pr i LA.b LA.k),G'.K i (pr i LA.b LA.k),nA.o,nA.t,Nat.le_refl _,Nat.le_refl _,Nat.le_refl _,Nat.le_refl _,?_⟩,fun P hP _=>by rw [g1.u (1 - i) ne] at hP;exact Int.le_trans (kc3 P hP) lA.1⟩,by omega⟩
    show LA.bS.headD []=[]∨(G'.W i (pr i LA.b LA.k))[G'.O i (pr i LA.b LA.k)]?=some (LA.bS.headD [])
    have hp:=nA.p
    cases e:LA.bS with
    | nil=>exact .inl rfl
    | cons x r =>
     right
     rw [e] at hp
     have:((G'.W i (pr i LA.b LA.k)).drop (G'.O i (pr i LA.b LA.k)))[0]?=some x:=by rw [← hp];rfl
     rw [List.getElem?_drop] at this
     exact this
  ·have ei:i=1 - s:=by omega
   subst ei
   rw [Dk] at fH
   rw [ae (by omega)] at fH
   rw [ae ne]
   have:=h.ag (1 - s) hi j row
   rw [Dk] at this
   obtain ⟨AZ,c1,c2⟩:=this fH
   have b2:=h.bi (1 - s) hi j row
   rw [Dk] at b2
   exact ⟨AZ,c1.grow g1 ne (by omega) (b2 fH).2,c2⟩
 ·by_cases z:i=s
  ·subst z
   rw [aO] at fH
   rw [aO,ae ne]
   rcases sS fs j row fH with y | ⟨d,Df,rfl,rfl⟩
   ·obtain ⟨y1,y2⟩:=h.bi i hi j row y
    exact ⟨Int.le_trans y1 lA.1,y2⟩
   ·exact ⟨Int.le_refl _,lA.2⟩
  ·have ei:i=1 - s:=by omega
   subst ei
   rw [Dk] at fH
   rw [ae (by omega)] at fH
   rw [ae ne,Dk,aO]
   have b2:=h.bi (1 - s) hi j row
   rw [Dk] at b2
   exact ⟨(b2 fH).1,Int.le_trans (b2 fH).2 lA.1⟩
 ·by_cases z:i=s
  ·subst z
   rw [aO,ae ne]
   exact ⟨kb1,lA.2,fun P hP=>(u1 P hP).elim (kb3 P) fun y=>Int.le_trans y hk1⟩
  ·have ei:i=1 - s:=by omega
   subst ei
   rw [ae ne,Dk,aO,g1.u (1 - s) ne]
   exact ⟨Int.le_trans kc1 lA.1,Int.le_trans kc2 lA.1,fun P hP=>Int.le_trans (kc3 P hP) lA.1⟩
theorem vW.put {late:Int} {G:Gh} {L:Nat→Lk} {rows:Nat→Nat→List Rw} {s:Nat} {xs:List Int} (h:vW late G L rows) (hs:s < 2) (hu:(L s).p≠none) :
  vW late ⟨dZ G.W s (pr s (L s).b (L s).k) (G.W s (pr s (L s).b (L s).k) ++ [xs]),G.O,G.K,G.U⟩ (at2 L s { L s with bS:=(L s).bS ++ [xs] }) rows:=by
 have n0:=h.en s hs
 have pk:∀ P,Unr s (L s) P→P≠pr s (L s).b (L s).k:=fun P hP y=>by
  rw [y] at hP
  rcases hP with w | ⟨_,w⟩
  ·rw [oK] at w;omega
  ·rw [tw] at w;omega
 have wl:∀ i P,(G.W i P).length≤(dZ G.W s (pr s (L s).b (L s).k) (G.W s (pr s (L s).b (L s).k) ++ [xs]) i P).length:=fun i P=>by
  by_cases y:i=s∧P=pr s (L s).b (L s).k
  ·rw [y.1,y.2,bM,List.length_append];omega
  ·rw [cC y];exact Nat.le_refl _
 have eb:∀ i,(at2 L s { L s with bS:=(L s).bS ++ [xs] } i).b=(L i).b∧(at2 L s { L s with bS:=(L s).bS ++ [xs] } i).k=(L i).k:=fun i=>by
  by_cases z:i=s
  ·rw [z,aO];exact ⟨rfl,rfl⟩
  ·rw [ae z];exact ⟨rfl,rfl⟩
 refine ⟨fun i hi=>?_,fun i hi P=>?_,fun i hi j row fH=>?_,fun i hi j row fH=>by rw [(eb _).1,(eb _).1];exact h.bi i hi j row fH,fun i hi=>by rw [(eb _).1,(eb _).2];exact h.kb i hi⟩
 ·by_cases z:i=s
  ·subst z
   rw [aO]
   refine ⟨n0.sd,n0.o,n0.t,?_,?_,fun y=>absurd y hu,n0.up,fun P hP=>?_,n0.um⟩
   ·show (L i).bS ++ [xs]=(dZ G.W i (pr i (L i).b (L i).k) (G.W i (pr i (L i).b (L i).k) ++ [xs]) i (pr i (L i).b (L i).k)).drop (G.O i (pr i (L i).b (L i).k))
    rw [bM,List.drop_append_of_le_length n0.ow,n0.p]
   ·exact Nat.le_trans n0.ow (wl i _)
   ·have f:=n0.un P hP
    exact ⟨by show dZ G.W i (pr i (L i).b (L i).k) _ i P=[];rw [cC (fun y=>pk P hP y.2)];exact f.w,f.o,f.k,f.u⟩
  ·rw [ae z]
   have n1:=h.en i hi
   have we:∀ P,dZ G.W s (pr s (L s).b (L s).k) (G.W s (pr s (L s).b (L s).k) ++ [xs]) i P=G.W i P:=fun P=>cC fun y=>z y.1
   have fr:∀ {P:Pr},oM G i P→oM ⟨dZ G.W s (pr s (L s).b (L s).k) (G.W s (pr s (L s).b (L s).k) ++ [xs]),G.O,G.K,G.U⟩ i P:=fun {P} f=>⟨(we P).trans f.w,f.o,f.k,f.u⟩
   exact ⟨n1.sd,n1.o,n1.t,by show _=(dZ G.W s _ _ i _).drop _;rw [we];exact n1.p,by show _≤(dZ G.W s _ _ i _).length;rw [we];exact n1.ow,fun y=>fr (n1.dn y),n1.up,fun P hP=>fr (n1.un P hP),n1.um⟩
 ·obtain ⟨r1,r2,r3⟩:=h.rel i hi P
  exact ⟨r1,r2,Nat.le_trans r3 (wl i P)⟩
 ·obtain ⟨AZ,c1,c2⟩:=h.ag i hi j row fH
  obtain ⟨nc,cc,k1,k2,k3,k4,k5,k6,k7⟩:=c1.ex
  refine ⟨AZ,⟨⟨nc,cc,k1,k2,k3,k4,k5,k6,k7.imp id fun y=>?_⟩,c1.m⟩,?_⟩
  ·show (dZ G.W s (pr s (L s).b (L s).k) (G.W s (pr s (L s).b (L s).k) ++ [xs]) i (pr i row.b.b row.b.k))[nc]?=some row.b.xs
   by_cases z:i=s∧pr i row.b.b row.b.k=pr s (L s).b (L s).k
   ·obtain ⟨z1,z2⟩:=z
    rw [z2,z1] at y ⊢
    rw [bM,List.getElem?_append_left (List.getElem?_eq_some_iff.mp y).1];exact y
   ·rw [cC z];exact y
  ·by_cases z:i=s
   ·subst z;rw [aO];exact c2
   ·rw [ae z];exact c2
theorem vW.start {late q:Int}:vW late ⟨fun _ _=>[],fun _ _=>0,fun _ _=>0,fun _ _=>False⟩ (av (vG q 0) (vG q 1)) (fun _ _=>[]):=by
 have fr:∀ s P,oM ⟨fun _ _=>[],fun _ _=>0,fun _ _=>0,fun _ _=>False⟩ s P:=fun s P=>⟨rfl,rfl,rfl,id⟩
 refine ⟨bV (fW rfl (fr _ _) rfl rfl rfl rfl (fun P _=>fr _ P) fun P h=>h.elim) (fW rfl (fr _ _) rfl rfl rfl rfl (fun P _=>fr _ P) fun P h=>h.elim),fun s hs P=>⟨Nat.le_refl _,Nat.zero_le _,Nat.le_refl _⟩,fun s hs j row h=>(by cases h),fun s hs j row h=>(by cases h),bV ⟨Int.zero_le_ofNat 1,Int.zero_le_ofNat 1,fun P h=>h.elim⟩ ⟨Int.zero_le_ofNat 1,Int.zero_le_ofNat 1,fun P h=>h.elim⟩⟩
end
end K31
namespace K31
open PySem L2 PyProof.Rows
section
variable {P:Program} {w:World} {K:PySem.W.Frag} {mg:Str→Option Value} {base:Heap} {t:Ad}
def nO:Sp:=fun vs H Q _=>∃ (c:Int) (m:Nat),vs=[.int c,.int (m:Int)]∧m≤100∧∀ (r:Addr) (H':Hp) (ns:List Int),aI H H'→H r=none→H' r=some (.lst (ns.map V.int))→ns.length=m→(∀ n ∈ ns,0≤n)→Q (.ref r) H'
theorem cU:aQ ["cell","many","told","left","k","stir"] ["cell","many"] (aH fq):=⟨rfl,rfl,rfl,by decide +kernel,rfl,by decide +kernel,by decide +kernel⟩
theorem vK (F:aP K mg "_law_numbers" fq) (T:Txt K mg t):Def P w K mg base 1 "_law_numbers" ["cell","many"] nO:=by
 refine F.def cU (fun _ _ _ _ _ _ us hl=>match us,hl with | [_,_],_=>rfl) (fun vs H Q E h=>?_) (fun f bo A outer s H vs Q E hr h=>?_)
 ·obtain ⟨c,m,rfl,_⟩:=h
  rfl
 ·obtain ⟨c,m,rfl,hm,q⟩:=h
  refine ⟨_,aC (aT (i:=2) cU.nd rfl (Or.inl rfl) (bF aE))
   (aC (aT (i:=3) cU.nd rfl (Or.inl rfl) (pv 0))
   (aC (PS.uX (dD PassesOwn.never rfl (cw (by rfl) T.dg (aA (pv 1) aE)) (az (i:=4) cU.nd rfl (Or.inl rfl))
    (aG (bD (aW S6 (pv 3) (aN UH aF aF) (aj _))
     (aC (ax (jM K PySem.F.plainAttrs_list PySem.F.slot_list_append PySem.F.type_list_append cP (pv 2) (aA (aN aw (pv 3) aF) aE)))
     (aG (aT (i:=3) cU.nd rfl (Or.inl rfl) (aN cW (pv 3) aF))))
     (aC (aT (i:=5) cU.nd rfl (Or.inl rfl) (aN aw (aN eM (aN bA (aN bA (aN aw (pv 0) aF) (aN eM aF (pv 4))) aF) aF) aF))
     (aG (ax (jM K PySem.F.plainAttrs_list PySem.F.slot_list_append PySem.F.type_list_append cP (pv 2) (aA (aN cW (aN aw (aN eM (pv 5) (pv 5)) aF) aF) aE)))))))))
   (aG (aV (pv 2))))),?_⟩
  have hsz:(2000:Nat)≤sizeLine:=by decide
  refine ⟨by show 0≤sizeLine;decide,fun L hL=>?_⟩
  refine ⟨_,rfl,?_⟩
  refine ⟨_,rfl,(m:Int),rfl,by omega,by omega,?_⟩
  rw [Int.toNat_natCast]
  refine fT (lo:=0) (n:=m) (fun i σ H2=>∃ (left:Int) (ns:List Int) (v4 v5:Option V),σ=[some (.int c),some (.int (m:Int)),some (.ref L),some (.int left),v4,v5]∧aI H H2∧H2 L=some (.lst (ns.map V.int))∧ns.length=i∧∀ n ∈ ns,0≤n)
   ⟨c,[],none,none,rfl,(aI.refl _).new hL,aB,rfl,fun n hn=>by cases hn⟩ ?_ ?_
  ·rintro i σ H2 hi ⟨left,ns,v4,v5,rfl,s2,h2,hl,hn⟩
   have push:∀ (x:Int),0≤x→(aI H (upd H2 L (.lst (ns.map V.int ++ [V.int x])))∧(upd H2 L (.lst (ns.map V.int ++ [V.int x]))) L=some (.lst ((ns ++ [x]).map V.int))∧(ns ++ [x]).length=i+1∧∀ n ∈ ns ++ [x],0≤n):=fun x hx=>⟨s2.put hL,by rw [aB,List.map_append];rfl,by rw [List.length_append,hl];rfl,fun n WG=>by
    rcases List.mem_append.mp WG with h | h
    ·exact hn n h
    ·rw [List.mem_singleton] at h;rw [h];exact hx⟩
   refine ⟨_,rfl,_,_,rfl,rfl,⟨by decide,by decide,by decide⟩,_,_,rfl,rfl,_,rfl,?_⟩
   refine Ua (fun h=>?_) (fun h=>?_)
   ·refine ⟨_,rfl,.inl ⟨rfl,_,aX.of h2⟩,_,rfl,_,_,rfl,rfl,(by show (0:Int) < 1000003;decide),L,_,_,rfl,rfl,h2,by rw [List.length_map];omega,?_⟩
    refine ⟨_,rfl,_,_,rfl,rfl,⟨by decide,by decide⟩,?_⟩
    exact ⟨_,_,_,_,rfl,push _ (Int.emod_nonneg _ (by decide))⟩
   ·refine ⟨_,rfl,_,_,rfl,rfl,(by show (0:Int) < 2147483647;decide),_,rfl,_,_,rfl,rfl,.inl ⟨by decide,by decide⟩,_,_,rfl,rfl,_,_,rfl,rfl,_,_,rfl,rfl,.inr ⟨by decide,by decide⟩,_,_,rfl,rfl,(by show (0:Int) < 2147483647;decide),?_⟩
    generalize hN:(c % 2147483647+7919 * (0+(i:Nat))+1) * 69621 % 2147483647=N
    have hN1:0≤N:=by rw [← hN];exact Int.emod_nonneg _ (by decide)
    have hN2:N < 2147483647:=by rw [← hN];exact Int.emod_lt_of_pos _ (by decide)
    refine ⟨_,rfl,.inl ⟨rfl,_,aX.of h2⟩,_,rfl,_,rfl,_,_,rfl,rfl,.inl ⟨by omega,by omega⟩,_,_,rfl,rfl,(by show (0:Int) < 998244353;decide),_,_,rfl,rfl,⟨by decide,by decide⟩,L,_,_,rfl,rfl,h2,by rw [List.length_map];omega,?_⟩
    exact ⟨_,_,_,_,rfl,push _ (Int.ediv_nonneg (Int.emod_nonneg _ (by decide)) (by decide))⟩
  ·rintro σ H2 ⟨left,ns,v4,v5,rfl,s2,h2,hl,hn⟩
   exact ⟨_,rfl,q L H2 ns s2 hL h2 hl hn⟩
def sU (K:PySem.W.Frag):Sp:=fun vs H Q _=>∃ (l:Addr) (ns:List Int) (k:Int),vs=[.ref l,.int k]∧aX K H l (ns.map V.int)∧0≤k∧∀ c:Int,Q (.int c) H
theorem Ag:aQ ["script","k"] ["script","k"] (aH j9):=⟨rfl,rfl,rfl,by decide +kernel,rfl,by decide +kernel,by decide +kernel⟩
theorem Ah (F:aP K mg "_law_cell" j9) (T:Txt K mg t):Def P w K mg base 1 "_law_cell" ["script","k"] (sU K):=by
 refine F.def Ag (fun _ _ _ _ _ _ us hl=>match us,hl with | [_,_],_=>rfl) (fun vs H Q E h=>?_) (fun f bo A outer s H vs Q E hr h=>?_)
 ·obtain ⟨l,ns,k,rfl,_⟩:=h
  rfl
 ·obtain ⟨l,ns,k,rfl,hl,k0,q⟩:=h
  refine ⟨_,aC (bD (aW jy (pv 1) (bP (bQ K) (by rfl) T.iE boot_len (aA (pv 0) aE)) (aj _))
    (aG (aV (aR (aM K) (pv 0) (pv 1) (fun _ _=>rfl))))
    (af))
   (aG (aV aF)),?_⟩
  refine ⟨_,rfl,_,rfl,l,_,rfl,.inl hl,_,_,rfl,rfl,_,rfl,?_⟩
  by_cases z:k < ((ns.map V.int).length:Nat)
  ·refine eP z ?_
   rw [List.length_map] at z
   obtain ⟨j,rfl⟩:∃ j:Nat,k=j:=⟨k.toNat,by omega⟩
   have hj:j < ns.length:=by omega
   exact ⟨_,rfl,_,rfl,l,_,_,V.int ns[j],rfl,rfl,hl,iw (by simp [hj]),q _⟩
  ·exact dX z (q 0)
end
end K31
namespace K31
open PySem L2 PyProof.Rows
section
variable {P:Program} {w:World} {K:PySem.W.Frag} {mg:Str→Option Value} {base:Heap} {t:Ad}
theorem vW.cell {late:Int} {G:Gh} {L:Nat→Lk} {rows:Nat→Nat→List Rw} {s:Nat} (h:vW late G L rows) (hs:s < 2):dY G s (el (L s)) 0:=by
 have nA:=h.en s hs
 have kb:=h.kb (1 - s) (by omega)
 rw [show 1 - (1 - s)=s by omega] at kb
 refine ⟨⟨G.O s (pr s (L s).b (L s).k),G.K s (pr s (L s).b (L s).k),nA.o,nA.t,Nat.le_refl _,Nat.le_refl _,Nat.le_refl _,Nat.le_refl _,?_⟩,fun P hP _=>kb.2.2 P hP⟩
 show (L s).bS.headD []=[]∨(G.W s (pr s (L s).b (L s).k))[G.O s (pr s (L s).b (L s).k)]?=some ((L s).bS.headD [])
 have hp:=nA.p
 cases e:(L s).bS with
 | nil=>exact .inl rfl
 | cons x r =>
  right
  rw [e] at hp
  have:((G.W s (pr s (L s).b (L s).k)).drop (G.O s (pr s (L s).b (L s).k)))[0]?=some x:=by rw [← hp];rfl
  rw [List.getElem?_drop] at this
  exact this
def qe (G:Gh) (s:Nat) (P:Pr) (gh:List (List Int)):Gh:=⟨dZ G.W s P (G.W s P ++ gh),G.O,G.K,G.U⟩
theorem dY.put {G:Gh} {s i AZ:Nat} {a:Cl} {P:Pr} {gh:List (List Int)} (c:dY G s a AZ):dY (qe G i P gh) s a AZ:=by
 obtain ⟨nc,cc,k1,k2,k3,k4,k5,k6,k7⟩:=c.ex
 refine ⟨⟨nc,cc,k1,k2,k3,k4,k5,k6,k7.imp id fun y=>?_⟩,c.m⟩
 show (dZ G.W i P (G.W i P ++ gh) s (pr s a.b a.k))[nc]?=some a.xs
 by_cases z:s=i∧pr s a.b a.k=P
 ·obtain ⟨z1,z2⟩:=z
  rw [z2,z1] at y ⊢
  rw [bM,List.getElem?_append_left (List.getElem?_eq_some_iff.mp y).1];exact y
 ·rw [cC z];exact y
theorem vW.give {late:Int} {G:Gh} {L:Nat→Lk} {rows:Nat→Nat→List Rw} {s T:Nat} {a:Cl} {fs:Ft} (h:vW late G L rows) (hs:s < 2) (hd:(L s).d=(T:Int)+1) (c:dY G s a 0) (hb:a.b≤(L s).b) (hk:a.k≤(L (1 - s)).b) (gf:zV late fs):vW late G L (at2 rows (1 - s) (oP (rows (1 - s)) T a fs)):=by
 refine ⟨h.en,h.rel,fun i hi j row fH=>?_,fun i hi j row fH=>?_,h.kb⟩
 ·by_cases z:i=s
  ·subst z
   rw [aO] at fH
   rcases sS fs j row fH with y | ⟨d,Df,rfl,rfl⟩
   ·exact h.ag i hi j row y
   ·have b1:=(gf.at_ d Df).1
    have b2:=(gf.at_ d Df).2.1
    exact ⟨0,c,by omega⟩
  ·rw [ae (by omega)] at fH;exact h.ag i hi j row fH
 ·by_cases z:i=s
  ·subst z
   rw [aO] at fH
   rcases sS fs j row fH with y | ⟨d,Df,rfl,rfl⟩
   ·exact h.bi i hi j row y
   ·exact ⟨hb,hk⟩
  ·rw [ae (by omega)] at fH;exact h.bi i hi j row fH
theorem lg {α:Type} {f:Nat→α} {s:Nat}:at2 f s (f s)=f:=funext fun i=>by
 by_cases z:i=s
 ·rw [z,aO]
 ·rw [ae z]
theorem vX {α:Type} {f:Nat→α} {s:Nat} {u v:α}:at2 (at2 f s u) s v=at2 f s v:=funext fun i=>by
 by_cases z:i=s
 ·rw [z,aO,aO]
 ·rw [ae z,ae z,ae z]
theorem Pg {α:Type} {f:Nat→Pr→α} {s:Nat} {P:Pr} {u v:α}:dZ (dZ f s P u) s P v=dZ f s P v:=funext fun i=>funext fun Q=>by
 by_cases z:i=s∧Q=P
 ·rw [z.1,z.2,bM,bM]
 ·rw [cC z,cC z,cC z]
theorem NG {α:Type} {f:Nat→Pr→α} {s:Nat} {P:Pr}:dZ f s P (f s P)=f:=funext fun i=>funext fun Q=>by
 by_cases z:i=s∧Q=P
 ·rw [z.1,z.2,bM]
 ·rw [cC z]
theorem vW.Yo {late:Int} {rows:Nat→Nat→List Rw} {s:Nat} (hs:s < 2):∀ (gh:List (List Int)) (G:Gh) (L:Nat→Lk),vW late G L rows→(L s).p≠none→vW late (qe G s (pr s (L s).b (L s).k) gh) (at2 L s { L s with bS:=(L s).bS ++ gh }) rows
 | [],G,L,h,_=>by
  have e1:qe G s (pr s (L s).b (L s).k) []=G:=by unfold qe;rw [List.append_nil,NG]
  have e2:({ L s with bS:=(L s).bS ++ [] }:Lk)=L s:=by rw [List.append_nil]
  rw [e1,e2,lg];exact h
 | xs :: r,G,L,h,hu=>by
  have h1:=vW.Yo hs r _ _ (h.put (xs:=xs) hs hu) (by rw [aO];exact hu)
  rw [aO,vX] at h1
  have e1:qe ⟨dZ G.W s (pr s (L s).b (L s).k) (G.W s (pr s (L s).b (L s).k) ++ [xs]),G.O,G.K,G.U⟩ s (pr s (L s).b (L s).k) r=qe G s (pr s (L s).b (L s).k) (xs :: r):=by
   unfold qe
   simp only [bM,Pg,List.append_assoc,List.singleton_append]
  have e2:({ L s with bS:=((L s).bS ++ [xs]) ++ r }:Lk)={ L s with bS:=(L s).bS ++ xs :: r }:=by rw [List.append_assoc];rfl
  have h2:vW late (qe ⟨dZ G.W s (pr s (L s).b (L s).k) (G.W s (pr s (L s).b (L s).k) ++ [xs]),G.O,G.K,G.U⟩ s (pr s (L s).b (L s).k) r) (at2 L s { L s with bS:=((L s).bS ++ [xs]) ++ r }) rows:=h1
  rw [e1,e2] at h2
  exact h2
def KU (A:Wt):Prop:=(∀ x,A.p=some x→A.u x)∧∀ P,¬ A.u P→A.k P=0
theorem pw.ku {W:Pr→List (List Int)} {A Z:Wt} {es:List Ev} (h:pw W A es Z) (k:KU A):KU Z:=by
 induction h with
 | nil=>exact k
 | up h hp hu hm hz ih=>exact ⟨fun y hy=>(by cases hy;exact .inl rfl),fun P hP=>ih.2 P fun z=>hP (.inr z)⟩
 | anew h hp ih=>exact ⟨fun y hy=>(by cases hy),ih.2⟩
 | sil h hp ih=>exact ⟨fun y hy=>(by cases hy),ih.2⟩
 | took h hp hw ih =>
  rename_i x xs
  refine ⟨ih.1,fun P hP=>?_⟩
  have:P≠x:=fun z=>hP (z ▸ ih.1 x hp)
  show (if P=x then _ else _)=0
  rw [if_neg this];exact ih.2 P hP
end
end K31
namespace K31
open PySem L2 PyProof.Rows
section
variable {P:Program} {w:World} {K:PySem.W.Frag} {mg:Str→Option Value} {base:Heap} {t:Ad}
def fY (b:Wt):Ev→Wt
 | .mk w x _=>if w=("up":Str) then ⟨some x,b.k,fun P=>P=x∨b.u P⟩ else ⟨none,b.k,b.u⟩
 | .took _=>match b.p with
  | none=>b
  | some x=>⟨b.p,fun P=>if P=x then b.k x+1 else b.k P,b.u⟩
def yE (A:Wt) (es:List Ev):Wt:=es.foldl fY A
theorem lh (A:Wt) (es:List Ev) (e:Ev):yE A (es ++ [e])=fY (yE A es) e:=by unfold yE;rw [List.foldl_append];rfl
def OkE (W:Pr→List (List Int)) (b:Wt):Ev→Prop
 | .mk w x _=>(w=("up":Str)∧b.p=none∧¬ b.u x∧(∀ P,b.u P→P.1≤x.1∧P.2≤x.2)∧b.k x=0)∨(w≠("up":Str)∧w≠("took":Str)∧b.p=some x)
 | .took xs=>∃ x,b.p=some x∧(W x)[b.k x]?=some xs
def Ph (W:Pr→List (List Int)) (A:Wt) (es:List Ev):Prop:=∀ (i:Nat) (e:Ev),es[i]?=some e→OkE W (yE A (es.take i)) e
theorem Ph.snoc {W:Pr→List (List Int)} {A:Wt} {es:List Ev} {e:Ev} (h:Ph W A es) (h1:OkE W (yE A es) e):Ph W A (es ++ [e]):=by
 intro i x hx
 by_cases z:i < es.length
 ·rw [List.getElem?_append_left z] at hx
  rw [List.take_append_of_le_length (by omega)]
  exact h i x hx
 ·have fE:i < (es ++ [e]).length:=(List.getElem?_eq_some_iff.mp hx).1
  rw [List.length_append] at fE
  have ei:i=es.length:=by simp at fE;omega
  rw [ei,List.getElem?_append_right (Nat.le_refl _),Nat.sub_self] at hx
  cases hx
  rw [ei,List.take_left']
  ·exact h1
  ·rfl
theorem pw.ok {W:Pr→List (List Int)} {A Z:Wt} {es:List Ev} (h:pw W A es Z):Ph W A es∧yE A es=Z:=by
 induction h with
 | nil=>exact ⟨fun i e he=>(by cases he),rfl⟩
 | up h hp hu hm hz ih =>
  obtain ⟨i1,i2⟩:=ih
  refine ⟨i1.snoc (by rw [i2];exact .inl ⟨rfl,hp,hu,hm,hz⟩),?_⟩
  rw [lh,i2];unfold fY;simp only;exact if_pos trivial
 | anew h hp ih =>
  obtain ⟨i1,i2⟩:=ih
  refine ⟨i1.snoc (by rw [i2];exact .inr ⟨by decide,by decide,hp⟩),?_⟩
  rw [lh,i2];unfold fY;simp only;rw [if_neg (by decide)]
 | sil h hp ih =>
  obtain ⟨i1,i2⟩:=ih
  refine ⟨i1.snoc (by rw [i2];exact .inr ⟨by decide,by decide,hp⟩),?_⟩
  rw [lh,i2];unfold fY;simp only;rw [if_neg (by decide)]
 | took h hp hw ih =>
  obtain ⟨i1,i2⟩:=ih
  refine ⟨i1.snoc (by rw [i2];exact ⟨_,hp,hw⟩),?_⟩
  rw [lh,i2];unfold fY;simp only;rw [hp]
theorem NH {W:List (List Int)} {n:Nat} {xs:List Int} (h:W[n]?=some xs):W.take n ++ [xs]=W.take (n+1):=by
 rw [List.take_add_one,h];rfl
def oQ (l:Option Pr) (es:List Ev):Option Pr:=es.foldl (fun l e=>match e with | .mk w x _=>if w=("up":Str) then some x else l | .took _=>l) l
theorem wu (l:Option Pr) (es:List Ev) (e:Ev):oQ l (es ++ [e])=(match e with | .mk w x _=>if w=("up":Str) then some x else oQ l es | .took _=>oQ l es):=by unfold oQ;rw [List.foldl_append];rfl
theorem SE {b:Wt} {e:Ev} {P:Pr} (h:b.u P):(fY b e).u P:=by
 cases e with
 | mk w x ns =>
  show (if w=("up":Str) then _ else _:Wt).u P
  split
  ·exact .inr h
  ·exact h
 | took xs =>
  unfold fY;simp only
  cases b.p <;> exact h
theorem Ls {A:Wt} {l:Option Pr} (h:∀ x,l=some x→A.u x) (es:List Ev):∀ x,oQ l es=some x→(yE A es).u x:=by
 have key:∀ (n:Nat),∀ es:List Ev,es.length=n→∀ x,oQ l es=some x→(yE A es).u x:=by
  intro n
  induction n with
  | zero=>intro es he x hx;cases List.length_eq_zero_iff.mp he;exact h x hx
  | succ n ih =>
   intro es he x hx
   rcases List.eq_nil_or_concat es with z | ⟨T3,e,z⟩
   ·rw [z] at he;cases he
   ·rw [List.concat_eq_append] at z
    subst z
    have hl:T3.length=n:=by rw [List.length_append] at he;simpa using he
    rw [wu] at hx
    rw [lh]
    cases e with
    | mk w y ns =>
     simp only at hx
     show (if w=("up":Str) then _ else _:Wt).u x
     split at hx
     ·rename_i z;cases hx;rw [if_pos z];exact .inl rfl
     ·rename_i z;rw [if_neg z];exact ih T3 hl x hx
    | took xs=>exact SE (ih T3 hl x hx)
 exact key es.length es rfl
end
end K31
namespace K31
open PySem L2 PyProof.Rows
section
variable {P:Program} {w:World} {K:PySem.W.Frag} {mg:Str→Option Value} {base:Heap} {t:Ad}
def kP (P:Pr):List Key:=[.inl P.1,.inl P.2]
theorem J6 {P Q:Pr} (h:kP P=kP Q):P=Q:=by
 unfold kP at h
 injection h with h1 h2
 injection h2 with h2 _
 exact Prod.ext (Sum.inl.inj h1) (Sum.inl.inj h2)
def i7 (ps:List Pr) (la:Pr→Addr):List (List Key × V):=ps.map fun P=>(kP P,.ref (la P))
theorem oR {la:Pr→Addr} {P:Pr}:∀ {ps:List Pr},P ∈ ps→iy (i7 ps la) (kP P)=some (.ref (la P))
 | Q :: r,h=>by
  by_cases z:Q=P
  ·subst z;exact rh rfl
  ·show iy ((kP Q,V.ref (la Q)) :: i7 r la) (kP P)=_
   have e:iy ((kP Q,V.ref (la Q)) :: i7 r la) (kP P)=iy (i7 r la) (kP P):=by
    unfold iy
    rw [List.find?_cons,decide_eq_false (fun y=>z (J6 y))]
   rw [e]
   exact oR ((List.mem_cons.mp h).resolve_left (Ne.symm z))
theorem wx {la:Pr→Addr} {P:Pr}:∀ {ps:List Pr},P ∉ ps→iy (i7 ps la) (kP P)=none
 | [],_=>rfl
 | Q :: r,h=>by
  have z:Q≠P:=fun y=>h (by rw [y];exact List.mem_cons_self)
  have e:iy ((kP Q,V.ref (la Q)) :: i7 r la) (kP P)=iy (i7 r la) (kP P):=by
   unfold iy
   rw [List.find?_cons,decide_eq_false (fun y=>z (J6 y))]
  show iy ((kP Q,V.ref (la Q)) :: i7 r la) (kP P)=_
  rw [e]
  exact wx fun y=>h (List.mem_cons_of_mem _ y)
theorem SF {ps:List Pr} {la:Pr→Addr} {P:Pr} {a:Addr} (h:P ∉ ps):putK (i7 ps la) (kP P) (.ref a)=i7 (ps ++ [P]) (fun Q=>if Q=P then a else la Q):=by
 have e:((i7 ps la).any fun kv=>decide (kv.1=kP P))=false:=by
  rw [List.any_eq_false]
  intro x hx
  obtain ⟨Q,hQ,rfl⟩:=List.mem_map.mp hx
  intro z
  exact h (J6 (of_decide_eq_true z) ▸ hQ)
 unfold putK
 rw [if_neg (by rw [e];exact fun z=>by cases z)]
 unfold i7
 rw [List.map_append]
 congr 1
 ·refine List.map_congr_left fun Q hQ=>?_
  show (kP Q,V.ref (la Q))=(kP Q,V.ref (if Q=P then a else la Q))
  rw [if_neg (show ¬ Q=P from fun z=>h (z ▸ hQ))]
 ·show [(kP P,V.ref a)]=[(kP P,V.ref (if P=P then a else la P))]
  rw [if_pos rfl]
structure cj (B H:Hp) (d:Addr) (ps:List Pr) (la:Pr→Addr) (c:Pr→List (List Int)):Prop where
 at_:H d=some (.dT (i7 ps la))
 pc:∀ P,P ∈ ps→wZ B H (la P) (c P)
 inj:∀ P,P ∈ ps→∀ Q,Q ∈ ps→la P=la Q→P=Q
 bd:B d=none
 bl:∀ P,P ∈ ps→B (la P)=none
theorem cj.keep {B H H':Hp} {d:Addr} {ps:List Pr} {la:Pr→Addr} {c:Pr→List (List Int)} (h:cj B H d ps la c) (hd:∀ o,H d=some o→H' d=some o) (hl:∀ P,P ∈ ps→∀ o,H (la P)=some o→H' (la P)=some o):cj B H' d ps la c :=
 ⟨hd _ h.at_,fun P hP=>by obtain ⟨dt,g1,g2⟩:=h.pc P hP;exact ⟨dt,hl P hP _ g1,g2⟩,h.inj,h.bd,h.bl⟩
theorem cj.mono {B B' H:Hp} {d:Addr} {ps:List Pr} {la:Pr→Addr} {c:Pr→List (List Int)} (h:cj B H d ps la c) (s:aI B B') (no:∀ a,H a≠none→B a=none→B' a=none):cj B' H d ps la c :=
 ⟨h.at_,fun P hP=>by obtain ⟨dt,g1,g2⟩:=h.pc P hP;exact ⟨dt,g1,fun y xs hy=>s _ _ (g2 y xs hy)⟩,h.inj,no d (by rw [h.at_];exact fun z=>by cases z) h.bd,fun P hP=>no _ (by obtain ⟨dt,g1,_⟩:=h.pc P hP;rw [g1];exact fun z=>by cases z) (h.bl P hP)⟩
theorem cj.new {B H:Hp} {d a:Addr} {ps:List Pr} {la:Pr→Addr} {c:Pr→List (List Int)} {P:Pr} (h:cj B H d ps la c) (sb:aI B H) (hP:P ∉ ps) (ha:H a=none) :
  cj B (upd (upd H a (.lst [])) d (.dT (putK (i7 ps la) (kP P) (.ref a)))) d (ps ++ [P]) (fun Q=>if Q=P then a else la Q) (fun Q=>if Q=P then [] else c Q):=by
 have nd:a≠d:=fun z=>by rw [z,h.at_] at ha;cases ha
 have nl:∀ Q,Q ∈ ps→la Q≠a:=fun Q hQ z=>by obtain ⟨dt,g1,_⟩:=h.pc Q hQ;rw [z,ha] at g1;cases g1
 have nld:∀ Q,Q ∈ ps→la Q≠d:=fun Q hQ z=>by obtain ⟨dt,g1,_⟩:=h.pc Q hQ;rw [z,h.at_] at g1;cases g1
 have nP:∀ Q,Q ∈ ps→Q≠P:=fun Q hQ z=>hP (z ▸ hQ)
 refine ⟨by rw [aB,SF hP],fun Q hQ=>?_,fun Q hQ R hR e=>?_,h.bd,fun Q hQ=>?_⟩
 ·rcases List.mem_append.mp hQ with z | z
  ·obtain ⟨dt,g1,g2⟩:=h.pc Q z
   rw [if_neg (nP Q z),if_neg (nP Q z)]
   exact ⟨dt,by rw [aD (nld Q z),aD (nl Q z)];exact g1,g2⟩
  ·rw [List.mem_singleton.mp z,if_pos rfl,if_pos rfl]
   exact ⟨fun _=>0,by rw [aD nd,aB];rfl,fun y xs hy=>by cases hy⟩
 ·rcases List.mem_append.mp hQ with z | z <;> rcases List.mem_append.mp hR with y | y
  ·rw [if_neg (nP Q z),if_neg (nP R y)] at e;exact h.inj Q z R y e
  ·rw [if_neg (nP Q z),if_pos (List.mem_singleton.mp y)] at e;exact absurd e (nl Q z)
  ·rw [if_neg (nP R y),if_pos (List.mem_singleton.mp z)] at e;exact absurd e.symm (nl R y)
  ·rw [List.mem_singleton.mp z,List.mem_singleton.mp y]
 ·rcases List.mem_append.mp hQ with z | z
  ·rw [if_neg (nP Q z)];exact h.bl Q z
  ·rw [if_pos (List.mem_singleton.mp z)];exact sb.free ha
theorem Pj {B H:Hp} {l a:Addr} {ps:List (List Int)} {xs:List Int} (h:wZ B H l ps) (ha:B a=some (.lst (xs.map V.int))):∃ dt:Nat→Addr,H l=some (.lst (bK ps.length dt))∧∀ H':Hp,H' l=some (.lst (bK ps.length dt ++ [.ref a]))→wZ B H' l (ps ++ [xs]):=by
 obtain ⟨dt,g1,g2⟩:=h
 refine ⟨dt,g1,fun H' e=>⟨fun i=>if i=ps.length then a else dt i,?_,fun y ys hy=>?_⟩⟩
 ·rw [e,dS,List.length_append];rfl
 ·show B (if y=ps.length then a else dt y)=_
  by_cases z:y < ps.length
  ·rw [if_neg (by omega)];rw [List.getElem?_append_left z] at hy;exact g2 y ys hy
  ·have fE:=(List.getElem?_eq_some_iff.mp hy).1
   rw [List.length_append] at fE
   have e:y=ps.length:=by simp at fE;omega
   rw [e,List.getElem?_append_right (Nat.le_refl _),Nat.sub_self] at hy
   cases hy
   rw [if_pos e];exact ha
theorem cj.push {B H:Hp} {d a:Addr} {ps:List Pr} {la:Pr→Addr} {c:Pr→List (List Int)} {P:Pr} {xs:List Int} (h:cj B H d ps la c) (hP:P ∈ ps) (ha:B a=some (.lst (xs.map V.int))) :
  ∃ dt:Nat→Addr,H (la P)=some (.lst (bK (c P).length dt))∧cj B (upd H (la P) (.lst (bK (c P).length dt ++ [.ref a]))) d ps la (fun Q=>if Q=P then c P ++ [xs] else c Q):=by
 obtain ⟨dt,g1,g2⟩:=Pj (h.pc P hP) ha
 have nld:d≠la P:=fun z=>by rw [← z,h.at_] at g1;cases g1
 refine ⟨dt,g1,by rw [aD nld];exact h.at_,fun Q hQ=>?_,h.inj,h.bd,h.bl⟩
 by_cases z:Q=P
 ·subst z;rw [if_pos rfl];exact g2 _ aB
 ·rw [if_neg z]
  obtain ⟨qs,k1,k2⟩:=h.pc Q hQ
  exact ⟨qs,by rw [aD (fun y=>z (h.inj Q hQ P hP y))];exact k1,k2⟩
end
end K31
namespace K31
open PySem L2 PyProof.Rows
section
variable {P:Program} {w:World} {K:PySem.W.Frag} {mg:Str→Option Value} {base:Heap} {t:Ad}
theorem mY (x:V) (l:List V):xc (x :: l) 0=some x:=by
 have h:(x :: l)[0]?=some x:=rfl
 exact iw h
theorem pz (x y:V) (l:List V):xc (x :: y :: l) 1=some y:=by
 have h:(x :: y :: l)[1]?=some y:=rfl
 exact iw h
theorem IJ {K:PySem.W.Frag} {H:Hp} {pv pv':V} {p:Option (Int × Int)} {Q:VK} (h:fV H pv p) (h':fV H pv' p) (q:Q (.bl false) H):X1 K pv pv' H Q:=by
 cases p with
 | none =>
  have h:pv=.bJ:=h
  have h':pv'=.bJ:=h'
  subst h h'
  exact .inl ⟨rfl,q⟩
 | some p =>
  obtain ⟨a,rfl,g⟩:=h
  obtain ⟨a',rfl,g'⟩:=h'
  refine .inr ⟨a,a',_,_,rfl,rfl,bw.of g,bw.of g',fun j u v hu hv=>?_,q⟩
  match j,hu,hv with
  | 0,hu,hv=>cases hu;cases hv;exact .flat _ rfl
  | 1,hu,hv=>cases hu;cases hv;exact .flat _ rfl
  | j+2,hu,hv=>cases hu
theorem Ve {x:Pr}:∀ (es:List Ev) (A:Wt),(∀ x,A.p=some x→A.u x)→(yE A es).p=some x→(yE A es).u x
 | [],_,h,e=>h x e
 | .mk w y ns :: r,A,h,e=>Ve r (fY A (.mk w y ns)) (fun z hz=>by
   unfold fY at hz ⊢
   simp only at hz ⊢
   split at hz
   ·rename_i q;rw [if_pos q];cases hz;exact .inl rfl
   ·cases hz) e
 | .took xs :: r,A,h,e=>Ve r (fY A (.took xs)) (fun z hz=>by
   unfold fY at hz ⊢
   simp only at hz ⊢
   cases ep:A.p with
   | none=>rw [ep] at hz;simp only at hz;rw [ep] at hz;cases hz
   | some y=>rw [ep] at hz;exact h z (by rw [ep];exact hz)) e
def iJ (_:PySem.W.Frag):Sp:=fun vs H Q _=>∃ (B:Hp) (Tj ck tl:Addr) (E:List Ev) (sv lv:V) (iA:Nat→Addr) (sd:Nat) (W:Pr→List (List Int)) (A:Wt) (ps:List Pr) (la:Pr→Addr) (l:Option Pr),
 vs=[.ref Tj,.ref ck,.int (sd:Int),.ref tl]∧sd < 2∧aI B H∧B ck=none∧PD B B Tj E∧H ck=some (.lst [sv,lv])∧fV B sv A.p∧fV B lv l∧(∀ x,l=some x→A.u x)∧(∀ x,A.p=some x→A.u x)∧B tl=some (.lst [.ref (iA 0),.ref (iA 1)]) ∧
 cj B H (iA sd) ps la (fun P=>(W P).take (A.k P))∧(∀ P,P ∈ ps↔A.u P)∧(∀ P,P ∈ ps→la P≠ck)∧Ph W A E∧ps.length+E.length < sizeLine∧(∀ P,(W P).length < sizeLine) ∧
 ∀ (H':Hp) (Lu IK:V) (kG:List Pr) (jF:Pr→Addr),aI B H'→(∀ a,H' a=none→H a=none)→(∀ a o,a≠ck→a≠iA sd→(∀ P,P ∈ ps→a≠la P)→H a=some o→H' a=some o)→H' ck=some (.lst [Lu,IK])→fV B Lu (yE A E).p→fV B IK (oQ l E)→cj B H' (iA sd) kG jF (fun P=>(W P).take ((yE A E).k P))→(∀ P,P ∈ kG↔(yE A E).u P)→(∀ P,P ∈ kG→jF P≠ck)→(∀ P,P ∈ kG→(P ∈ ps∧jF P=la P)∨H (jF P)=none)→(∀ P,P ∈ ps→P ∈ kG∧jF P=la P)→kG.length≤ps.length+E.length→Q (.bl true) H'
theorem iK:aQ ["events","state","side","took","event"] ["events","state","side","took"] (aH cv):=⟨rfl,rfl,rfl,by decide +kernel,rfl,by decide +kernel,by decide +kernel⟩
set_option maxHeartbeats 1000000 in
theorem oS (F:aP K mg "_law_events_right" cv) (T:Txt K mg t):Def P w K mg base 10 "_law_events_right" ["events","state","side","took"] (iJ K):=by
 refine F.def iK (fun _ _ _ _ _ _ us hl=>match us,hl with | [_,_,_,_],_=>rfl) (fun vs H Q E h=>?_) (fun f bo A outer s H vs Q E hr h=>?_)
 ·obtain ⟨B,Tj,ck,tl,E,sv,lv,iA,sd,W,A,ps,la,l,rfl,_⟩:=h
  rfl
 ·obtain ⟨B,Tj,ck,tl,E,sv,lv,iA,sd,W,A,ps,la,l,rfl,bR,sB,Vf,hE,sj,Wk,hlv,hl,hpu,Np,hD,QR,nst,hA,hlen,hWl,q⟩:=h
  refine ⟨_,aC (PS.uX (dD PassesOwn.never rfl (cN K (pv 0)) (az (i:=4) iK.nd rfl (Or.inl rfl))
    (aG (bD (aW jL (aR (bj K) (pv 4) aF (fun _ _=>rfl)) cZ (aj _))
     (aC (bD (PW.pt (Ga (aW pL (aR (aM K) (pv 1) aF (fun _ _=>rfl)) cK (aj _)) (vY (Nv (Uw (ni hr) (aR (bj K) (pv 4) aF (fun _ _=>rfl)) (aR (aM K) (pv 3) (pv 2) (fun _ _=>rfl))) (by rfl)))))
      (aG (aV lC))
      (af))
     (aC (bD (PW.pt (sx (aW pL (aR (aM K) (pv 1) aF (fun _ _=>rfl)) cK (aj _)) (pK (PW.pt (Ga (aW jy (aR (bj K) (aR (bj K) (pv 4) aF (fun _ _=>rfl)) aF (fun _ _=>rfl)) (aR (bj K) (aR (aM K) (pv 1) aF (fun _ _=>rfl)) aF (fun _ _=>rfl)) (aj _)) (vY (aW jy (aR (bj K) (aR (bj K) (pv 4) aF (fun _ _=>rfl)) aF (fun _ _=>rfl)) (aR (bj K) (aR (aM K) (pv 1) aF (fun _ _=>rfl)) aF (fun _ _=>rfl)) (aj _))))))))
      (aG (aV lC))
      (af))
     (aC (nY (aR (bj K) (pv 4) aF (fun _ _=>rfl)) (nX (pv 1) aF set_list))
     (aC (nY (aR (bj K) (pv 4) aF (fun _ _=>rfl)) (nX (pv 1) aF set_list))
     (aG (LO (ni hr) (aR (aM K) (pv 3) (pv 2) (fun _ _=>rfl)) (aR (bj K) (pv 4) aF (fun _ _=>rfl)) (bF aE) (by rfl)))))))
     (aG (bD (PW.pt (Ga (aW tF (aR (aM K) (pv 1) aF (fun _ _=>rfl)) cK (aj _)) (vY (PW.pt (sx (aW (JU K (MN hr)) (aR (bj K) (pv 4) aF (fun _ _=>rfl)) cZ (aj _)) (pK (aW (JU K (MN hr)) (aR (bj K) (pv 4) aF (fun _ _=>rfl)) (aR (aM K) (pv 1) aF (fun _ _=>rfl)) (aj _))))))))
      (aG (aV lC))
      (aG (bD (aW jL (aR (bj K) (pv 4) aF (fun _ _=>rfl)) cZ (aj _))
       (aG (ax (jM K PySem.F.plainAttrs_list PySem.F.slot_list_append PySem.F.type_list_append cP (LN (ni hr) (aR (aM K) (pv 3) (pv 2) (fun _ _=>rfl)) (aR (aM K) (pv 1) aF (fun _ _=>rfl)) (fun _ _=>rfl)) (aA (aR (bj K) (pv 4) aF (fun _ _=>rfl)) aE))))
       (aG (nY cK (nX (pv 1) aF set_list)))))))))))
   (aG (aV lC)),?_⟩
  obtain ⟨gO,g1,g2⟩:=hE
  refine ⟨_,rfl,Tj,rfl,⟨_,aX.of (sB _ _ g1)⟩,lD (K:=K) (a:=Tj) (xs:=bK E.length gO) (fun i σ H'=>∃ (v4:Option V) (Lu IK:V) (kG:List Pr) (jF:Pr→Addr),σ=[some (.ref Tj),some (.ref ck),some (.int (sd:Int)),some (.ref tl),v4]∧aI B H'∧(∀ a,H' a=none→H a=none)∧(∀ a o,a≠ck→a≠iA sd→(∀ P,P ∈ ps→a≠la P)→H a=some o→H' a=some o)∧H' ck=some (.lst [Lu,IK])∧fV B Lu (yE A (E.take i)).p∧fV B IK (oQ l (E.take i))∧cj B H' (iA sd) kG jF (fun P=>(W P).take ((yE A (E.take i)).k P))∧(∀ P,P ∈ kG↔(yE A (E.take i)).u P)∧(∀ P,P ∈ kG→jF P≠ck)∧(∀ P,P ∈ kG→(P ∈ ps∧jF P=la P)∨H (jF P)=none)∧(∀ P,P ∈ ps→P ∈ kG∧jF P=la P)∧kG.length≤ps.length+i)
   ⟨none,sv,lv,ps,la,rfl,sB,fun _ h=>h,fun _ _ _ _ _ h=>h,sj,Wk,hlv,hD,QR,nst,fun P hP=>.inl ⟨hP,rfl⟩,fun P hP=>⟨hP,rfl⟩,Nat.le_refl _⟩ (fun i σ H' _ ⟨_,_,_,_,_,_,s',_⟩=>aX.of (s' _ _ g1)) ?_ ?_⟩
  ·rintro i v σ H1 hi ⟨v4,Lu,IK,kG,jF,rfl,s1,n1,f1,S1,p1,p2,D1,u1,t1,o1,w1,c1⟩
   obtain ⟨VV,rfl⟩:=tab_of hi
   have e:E[i]?=some E[i]:=by simp [VV]
   generalize E[i]=ev at e
   have ok:=hA i ev e
   have PF:=g2 i ev e
   have WN:=Ls hl (E.take i)
   have aCa:=fun x=>Ve (x:=x) (E.take i) A hpu
   rw [take_succ e,lh,wu]
   generalize yE A (E.take i)=Wi at *
   generalize oQ l (E.take i)=li at *
   cases ev with
   | mk w x ns =>
    obtain ⟨pa,k1,k2⟩:=PF
    refine ⟨_,rfl,gO i,_,_,_,rfl,rfl,bw.of (s1 _ _ k1),mY _ _,rfl,_,rfl,?_⟩
    rcases ok with ⟨rfl,hp,hu,hm,hz⟩ | ⟨h1,h2,hp⟩
    ·refine eP rfl ?_
     rw [hp] at p1
     obtain rfl:Lu=.bJ:=p1
     have nx:x ∉ kG:=fun z=>hu ((u1 x).mp z)
     refine ⟨_,rfl,ck,_,_,_,rfl,rfl,aX.of S1,mY _ _,rfl,_,rfl,qC rfl ?_⟩
     refine ⟨_,rfl,gO i,_,_,_,rfl,rfl,bw.of (s1 _ _ k1),pz _ _ _,_,rfl,_,rfl,tl,_,_,_,rfl,rfl,aX.of (s1 _ _ Np),cG bR,iA sd,none,rfl,by rw [← wx (la:=jF) nx];exact jw.t D1.at_ (s1 _ _ k2),_,rfl,di ?_⟩
     refine ⟨_,rfl,ck,_,_,_,rfl,rfl,aX.of S1,pz _ _ _,rfl,_,rfl,?_⟩
     cases li with
     | none =>
      obtain rfl:IK=.bJ:=p2
      refine qC rfl ?_
      have s2:aI B (upd (upd H1 ck (.lst [.ref pa,.bJ])) ck (.lst [.ref pa,.ref pa])):=(s1.put Vf).put Vf
      have s3:aI B (upd H1 ck (.lst [.ref pa,.bJ])):=s1.put Vf
      refine ⟨_,rfl,gO i,_,_,_,rfl,rfl,bw.of (s1 _ _ k1),pz _ _ _,_,rfl,ck,_,_,_,rfl,rfl,S1,rfl,?_⟩
      refine ⟨_,rfl,gO i,_,_,_,rfl,rfl,bw.of (s3 _ _ k1),pz _ _ _,_,rfl,ck,_,_,_,rfl,rfl,aB,rfl,?_⟩
      refine ⟨by show 0≤sizeLine;exact Nat.zero_le _,fun a ha=>?_⟩
      have nd:ck≠iA sd:=fun z=>by rw [z,D1.at_] at S1;cases S1
      have S2:(upd (upd H1 ck (.lst [.ref pa,.bJ])) ck (.lst [.ref pa,.ref pa])) ck=some (.lst [.ref pa,.ref pa]):=aB
      have Vg:∀ b o,b≠ck→H1 b=some o→(upd (upd H1 ck (.lst [.ref pa,.bJ])) ck (.lst [.ref pa,.ref pa])) b=some o:=fun b o h e=>by rw [aD h,aD h];exact e
      have n2:∀ b,(upd (upd H1 ck (.lst [.ref pa,.bJ])) ck (.lst [.ref pa,.ref pa])) b=none→H1 b=none:=fun b h=>by
       by_cases z:b=ck
       ·rw [z,aB] at h;cases h
       ·rw [aD z,aD z] at h;exact h
      have IL:(upd (upd H1 ck (.lst [.ref pa,.bJ])) ck (.lst [.ref pa,.ref pa])) a=none:=ha
      have D2:cj B (upd (upd H1 ck (.lst [.ref pa,.bJ])) ck (.lst [.ref pa,.ref pa])) (iA sd) kG jF _:=D1.keep (fun o e=>Vg _ o (Ne.symm nd) e) (fun Q hQ o e=>Vg _ o (t1 Q hQ) e)
      have D3:=D2.new s2 nx IL
      have s4:aI B (upd (upd (upd H1 ck (.lst [.ref pa,.bJ])) ck (.lst [.ref pa,.ref pa])) a (.lst [])):=s2.new IL
      have na:a≠iA sd:=fun z=>by rw [z,D2.at_] at IL;cases IL
      refine ⟨_,rfl,_,rfl,tl,_,_,_,rfl,rfl,aX.of (s4 _ _ Np),cG bR,_,rfl,gO i,_,_,_,rfl,rfl,bw.of (s4 _ _ k1),pz _ _ _,iA sd,_,rfl,z7.t (k:=kP x) (by rw [aD (Ne.symm na)];exact D2.at_) (s4 _ _ k2) (by unfold i7;rw [List.length_map];omega),?_⟩
      have eW:fY Wi (Ev.mk "up" x ns)=⟨some x,Wi.k,fun P=>P=x∨Wi.u P⟩:=by unfold fY;simp only;exact if_pos trivial
      rw [eW]
      have ec:(fun Q=>if Q=x then [] else (W Q).take (Wi.k Q))=fun Q=>(W Q).take (Wi.k Q):=by
       funext Q
       by_cases z:Q=x
       ·rw [if_pos z,z,hz];rfl
       ·rw [if_neg z]
      rw [ec] at D3
      have Tn:a≠ck:=fun z=>by rw [z,S2] at IL;cases IL
      have Di:H1 a=none:=n2 a IL
      refine ⟨_,.ref pa,.ref pa,kG ++ [x],_,rfl,s4.put D1.bd,fun b h=>n1 b (n2 b ((aI.refl _).new IL |>.free (dm h (by rw [aD (Ne.symm na),D2.at_];exact fun z=>by cases z)))),fun b o h1 h2 h3 h4=>?_,by rw [aD nd,aD (Ne.symm Tn)];exact S2,⟨pa,rfl,k2⟩,⟨pa,rfl,k2⟩,D3,fun Q=>?_,fun Q hQ=>?_,fun Q hQ=>?_,fun Q hQ=>⟨List.mem_append.mpr (.inl (w1 Q hQ).1),(if_neg (fun z:Q=x=>nx (z ▸ (w1 Q hQ).1))).trans (w1 Q hQ).2⟩,by rw [List.length_append];show kG.length+1≤_;omega⟩
      ·have h5:=f1 b o h1 h2 h3 h4
       rw [aD h2,aD (fun z=>by rw [z,Di] at h5;cases h5)]
       exact Vg b o h1 h5
      ·rw [List.mem_append,List.mem_singleton,u1 Q];exact Or.comm
      ·show (if Q=x then a else jF Q)≠ck
       by_cases z:Q=x
       ·rw [if_pos z];exact Tn
       ·rw [if_neg z];exact t1 Q ((List.mem_append.mp hQ).resolve_right fun y=>z (List.mem_singleton.mp y))
      ·show (Q ∈ ps∧(if Q=x then a else jF Q)=la Q)∨H (if Q=x then a else jF Q)=none
       by_cases z:Q=x
       ·rw [if_pos z];exact .inr (n1 a Di)
       ·rw [if_neg z];exact o1 Q ((List.mem_append.mp hQ).resolve_right fun y=>z (List.mem_singleton.mp y))
     | some y =>
      obtain ⟨ya,rfl,ky⟩:=p2
      obtain ⟨m1,m2⟩:=hm y (WN y rfl)
      refine rY (fun z=>by cases z) ?_
      refine ⟨_,rfl,_,_,_,_,rfl,rfl,bw.of (s1 _ _ k1),pz _ _ _,pa,_,_,_,rfl,rfl,bw.of (s1 _ _ k2),mY _ _,_,rfl,ck,_,_,_,rfl,rfl,aX.of S1,pz _ _ _,ya,_,_,_,rfl,rfl,bw.of (s1 _ _ ky),mY _ _,_,_,rfl,rfl,_,rfl,dX (by omega) ?_⟩
      refine ⟨_,rfl,_,_,_,_,rfl,rfl,bw.of (s1 _ _ k1),pz _ _ _,pa,_,_,_,rfl,rfl,bw.of (s1 _ _ k2),pz _ _ _,_,rfl,ck,_,_,_,rfl,rfl,aX.of S1,pz _ _ _,ya,_,_,_,rfl,rfl,bw.of (s1 _ _ ky),pz _ _ _,_,_,rfl,rfl,_,rfl,dX (by omega) ?_⟩
      have s2:aI B (upd (upd H1 ck (.lst [.ref pa,.ref ya])) ck (.lst [.ref pa,.ref pa])):=(s1.put Vf).put Vf
      have s3:aI B (upd H1 ck (.lst [.ref pa,.ref ya])):=s1.put Vf
      refine ⟨_,rfl,gO i,_,_,_,rfl,rfl,bw.of (s1 _ _ k1),pz _ _ _,_,rfl,ck,_,_,_,rfl,rfl,S1,rfl,?_⟩
      refine ⟨_,rfl,gO i,_,_,_,rfl,rfl,bw.of (s3 _ _ k1),pz _ _ _,_,rfl,ck,_,_,_,rfl,rfl,aB,rfl,?_⟩
      refine ⟨by show 0≤sizeLine;exact Nat.zero_le _,fun a ha=>?_⟩
      have nd:ck≠iA sd:=fun z=>by rw [z,D1.at_] at S1;cases S1
      have S2:(upd (upd H1 ck (.lst [.ref pa,.ref ya])) ck (.lst [.ref pa,.ref pa])) ck=some (.lst [.ref pa,.ref pa]):=aB
      have Vg:∀ b o,b≠ck→H1 b=some o→(upd (upd H1 ck (.lst [.ref pa,.ref ya])) ck (.lst [.ref pa,.ref pa])) b=some o:=fun b o h e=>by rw [aD h,aD h];exact e
      have n2:∀ b,(upd (upd H1 ck (.lst [.ref pa,.ref ya])) ck (.lst [.ref pa,.ref pa])) b=none→H1 b=none:=fun b h=>by
       by_cases z:b=ck
       ·rw [z,aB] at h;cases h
       ·rw [aD z,aD z] at h;exact h
      have IL:(upd (upd H1 ck (.lst [.ref pa,.ref ya])) ck (.lst [.ref pa,.ref pa])) a=none:=ha
      have D2:cj B (upd (upd H1 ck (.lst [.ref pa,.ref ya])) ck (.lst [.ref pa,.ref pa])) (iA sd) kG jF _:=D1.keep (fun o e=>Vg _ o (Ne.symm nd) e) (fun Q hQ o e=>Vg _ o (t1 Q hQ) e)
      have D3:=D2.new s2 nx IL
      have s4:aI B (upd (upd (upd H1 ck (.lst [.ref pa,.ref ya])) ck (.lst [.ref pa,.ref pa])) a (.lst [])):=s2.new IL
      have na:a≠iA sd:=fun z=>by rw [z,D2.at_] at IL;cases IL
      refine ⟨_,rfl,_,rfl,tl,_,_,_,rfl,rfl,aX.of (s4 _ _ Np),cG bR,_,rfl,gO i,_,_,_,rfl,rfl,bw.of (s4 _ _ k1),pz _ _ _,iA sd,_,rfl,z7.t (k:=kP x) (by rw [aD (Ne.symm na)];exact D2.at_) (s4 _ _ k2) (by unfold i7;rw [List.length_map];omega),?_⟩
      have eW:fY Wi (Ev.mk "up" x ns)=⟨some x,Wi.k,fun P=>P=x∨Wi.u P⟩:=by unfold fY;simp only;exact if_pos trivial
      rw [eW]
      have ec:(fun Q=>if Q=x then [] else (W Q).take (Wi.k Q))=fun Q=>(W Q).take (Wi.k Q):=by
       funext Q
       by_cases z:Q=x
       ·rw [if_pos z,z,hz];rfl
       ·rw [if_neg z]
      rw [ec] at D3
      have Tn:a≠ck:=fun z=>by rw [z,S2] at IL;cases IL
      have Di:H1 a=none:=n2 a IL
      refine ⟨_,.ref pa,.ref pa,kG ++ [x],_,rfl,s4.put D1.bd,fun b h=>n1 b (n2 b ((aI.refl _).new IL |>.free (dm h (by rw [aD (Ne.symm na),D2.at_];exact fun z=>by cases z)))),fun b o h1 h2 h3 h4=>?_,by rw [aD nd,aD (Ne.symm Tn)];exact S2,⟨pa,rfl,k2⟩,⟨pa,rfl,k2⟩,D3,fun Q=>?_,fun Q hQ=>?_,fun Q hQ=>?_,fun Q hQ=>⟨List.mem_append.mpr (.inl (w1 Q hQ).1),(if_neg (fun z:Q=x=>nx (z ▸ (w1 Q hQ).1))).trans (w1 Q hQ).2⟩,by rw [List.length_append];show kG.length+1≤_;omega⟩
      ·have h5:=f1 b o h1 h2 h3 h4
       rw [aD h2,aD (fun z=>by rw [z,Di] at h5;cases h5)]
       exact Vg b o h1 h5
      ·rw [List.mem_append,List.mem_singleton,u1 Q];exact Or.comm
      ·show (if Q=x then a else jF Q)≠ck
       by_cases z:Q=x
       ·rw [if_pos z];exact Tn
       ·rw [if_neg z];exact t1 Q ((List.mem_append.mp hQ).resolve_right fun y=>z (List.mem_singleton.mp y))
      ·show (Q ∈ ps∧(if Q=x then a else jF Q)=la Q)∨H (if Q=x then a else jF Q)=none
       by_cases z:Q=x
       ·rw [if_pos z];exact .inr (n1 a Di)
       ·rw [if_neg z];exact o1 Q ((List.mem_append.mp hQ).resolve_right fun y=>z (List.mem_singleton.mp y))
    ·refine dX (fun z=>h1 (V.str.inj z)) ?_
     rw [hp] at p1
     obtain ⟨sa,rfl,ks⟩:=p1
     refine ⟨_,rfl,ck,_,_,_,rfl,rfl,aX.of S1,mY _ _,rfl,_,rfl,dX (fun z=>by cases z) ?_⟩
     refine ⟨_,rfl,gO i,_,_,_,rfl,rfl,bw.of (s1 _ _ k1),mY _ _,.inl ⟨rfl,_,rfl,rY (fun z=>h2 (V.str.inj z)) ?_⟩⟩
     refine ⟨_,rfl,gO i,_,_,_,rfl,rfl,bw.of (s1 _ _ k1),pz _ _ _,_,rfl,ck,_,_,_,rfl,rfl,aX.of S1,mY _ _,IJ (p:=some x) ⟨pa,rfl,s1 _ _ k2⟩ ⟨sa,rfl,s1 _ _ ks⟩ ⟨_,rfl,di ?_⟩⟩
     refine ⟨_,rfl,gO i,_,_,_,rfl,rfl,bw.of (s1 _ _ k1),mY _ _,rfl,_,rfl,dX (fun z=>h2 (V.str.inj z)) ?_⟩
     refine ⟨_,rfl,ck,_,_,_,rfl,rfl,S1,rfl,?_⟩
     have nd:ck≠iA sd:=fun z=>by rw [z,D1.at_] at S1;cases S1
     have eW:fY Wi (Ev.mk w x ns)=⟨none,Wi.k,Wi.u⟩:=by unfold fY;simp only;rw [if_neg h1]
     rw [eW]
     refine ⟨_,.bJ,IK,kG,jF,rfl,s1.put Vf,fun a h=>n1 a (dm h (by rw [S1];exact fun z=>by cases z)),fun a o h1 h2 h3 h4=>by rw [aD h1];exact f1 a o h1 h2 h3 h4,aB,rfl,?_,D1.keep (fun o e=>by rw [aD (Ne.symm nd)];exact e) (fun Q hQ o e=>by rw [aD (t1 Q hQ)];exact e),u1,t1,o1,w1,by omega⟩
     show fV B IK (if w=("up":Str) then some x else li)
     rw [if_neg h1];exact p2
   | took xs =>
    obtain ⟨la0,k1,k2⟩:=PF
    obtain ⟨x,hp,hw⟩:=ok
    refine ⟨_,rfl,gO i,_,_,_,rfl,rfl,bw.of (s1 _ _ k1),mY _ _,rfl,_,rfl,dX (fun z=>absurd (V.str.inj z) (show ¬ ("took":Str)="up" by decide)) ?_⟩
    rw [hp] at p1
    obtain ⟨sa,rfl,ks⟩:=p1
    refine ⟨_,rfl,ck,_,_,_,rfl,rfl,aX.of S1,mY _ _,rfl,_,rfl,dX (fun z=>by cases z) ?_⟩
    refine ⟨_,rfl,gO i,_,_,_,rfl,rfl,bw.of (s1 _ _ k1),mY _ _,.inl ⟨rfl,_,rfl,qC rfl ?_⟩⟩
    refine ⟨_,rfl,gO i,_,_,_,rfl,rfl,bw.of (s1 _ _ k1),mY _ _,rfl,_,rfl,eP rfl ?_⟩
    have hx:x ∈ kG:=(u1 x).mpr (aCa x hp)
    obtain ⟨dt,g3,D2⟩:=D1.push hx k2
    refine ⟨_,rfl,_,rfl,tl,_,_,_,rfl,rfl,aX.of (s1 _ _ Np),cG bR,_,rfl,ck,_,_,_,rfl,rfl,aX.of S1,mY _ _,iA sd,.ref (jF x),rfl,by rw [← oR hx];exact jw.t D1.at_ (s1 _ _ ks),?_⟩
    refine ⟨.inl ⟨rfl,_,aX.of g3⟩,_,rfl,gO i,_,_,_,rfl,rfl,bw.of (s1 _ _ k1),pz _ _ _,jF x,_,_,rfl,rfl,g3,?_,?_⟩
    ·rw [aL,List.length_take];exact Nat.lt_of_le_of_lt (Nat.min_le_right _ _) (hWl x)
    have eW:fY Wi (Ev.took xs)=⟨Wi.p,fun P=>if P=x then Wi.k x+1 else Wi.k P,Wi.u⟩:=by unfold fY;simp only;rw [hp]
    rw [eW]
    have hlb:B (jF x)=none:=D1.bl x hx
    refine ⟨_,.ref sa,IK,kG,jF,rfl,s1.put hlb,fun a h=>n1 a (dm h (by rw [g3];exact fun z=>by cases z)),fun a o h1 h2 h3 h4=>?_,by rw [aD (Ne.symm (t1 x hx))];exact S1,by rw [hp];exact ⟨sa,rfl,ks⟩,p2,?_,u1,t1,o1,w1,by omega⟩
    ·have:a≠jF x:=by
      rcases o1 x hx with ⟨y1,y2⟩ | y
      ·rw [y2];exact h3 x y1
      ·intro z;rw [z,y] at h4;cases h4
     rw [aD this];exact f1 a o h1 h2 h3 h4
    ·have ec:(fun P=>(W P).take (if P=x then Wi.k x+1 else Wi.k P))=fun Q=>if Q=x then (W x).take (Wi.k x) ++ [xs] else (W Q).take (Wi.k Q):=by
      funext Q
      by_cases z:Q=x
      ·rw [if_pos z,if_pos z,z,NH hw]
      ·rw [if_neg z,if_neg z]
     show cj B _ _ _ _ (fun P=>(W P).take (if P=x then Wi.k x+1 else Wi.k P))
     rw [ec];exact D2
  ·rintro σ H1 ⟨v4,Lu,IK,kG,jF,rfl,s1,n1,f1,S1,p1,p2,D1,u1,t1,o1,w1,c1⟩
   rw [aL,List.take_length] at p1 p2 D1 u1
   rw [aL] at c1
   exact q H1 Lu IK kG jF s1 n1 f1 S1 p1 p2 D1 u1 t1 o1 w1 c1
end
end K31
namespace K31
open PySem L2 PyProof.Rows
section
variable {P:Program} {w:World} {K:PySem.W.Frag} {mg:Str→Option Value} {base:Heap} {t:Ad}
structure Sx (Bv:Dl) (C:Addr) (B H E:Hp) (n:Nat) (x tA pA d:Nat→Addr) (sl:Nat→Nat→Addr) (L:Nat→Lk) (rows:Nat→Nat→List Rw) (ρ:Addr→Nat):Prop where
 sb:aI B H
 lk:∀ s,s < 2→bO C B H (x s) (tA s) (pA s) (L s)
 cg:∀ s,s < 2→Cg Bv B H (d s) (sl s) n (rows s)
 rx:∀ s,s < 2→ρ (x s)=10+s
 rt:∀ s,s < 2→ρ (tA s)=20+s
 rp:∀ s,s < 2→ρ (pA s)=30+s
 rs:∀ s,s < 2→∀ j,j < n→ρ (sl s j)=50+s
 ee:aI E H
 eb:∀ a,E a≠none→B a=none
 er:∀ a,E a≠none→ρ a=100
 en:∀ a o,E a=some o→vJ o
section
variable {Bv:Dl} {C:Addr} {B H B' H' E E':Hp} {n:Nat} {x tA pA d:Nat→Addr} {sl:Nat→Nat→Addr} {L:Nat→Lk} {rows:Nat→Nat→List Rw} {ρ:Addr→Nat} {s:Nat}
theorem Lv {α:Type} {o:Option α} (h:o≠none):∃ v,o=some v:=by
 cases o with
 | none=>exact absurd rfl h
 | some v=>exact ⟨v,rfl⟩
theorem Sx.he (h:Sx Bv C B H E n x tA pA d sl L rows ρ) {a:Addr} (hi:E a≠none):H a≠none:=fun z=>hi (h.ee.free z)
theorem Sx.same (mb:fX Bv) (h:Sx Bv C B H E n x tA pA d sl L rows ρ) (e:aI H H'):Sx Bv C B H' E n x tA pA d sl L rows ρ :=
 ⟨h.sb.trans e,fun s hs=>(h.lk s hs).same e,fun s hs=>(h.cg s hs).mv mb (aI.refl _) (fun _ _ z=>z) fun j _ o g=>e _ _ g,h.rx,h.rt,h.rp,h.rs,h.ee.trans e,h.eb,h.er,h.en⟩
theorem Sx.Z8 (mb:fX Bv) {tB pB:Addr} {L':Lk} (h:Sx Bv C B H E n x tA pA d sl L rows ρ) (hs:s < 2) (mv:jV B H B' H' (x s) (tA s) (pA s) tB pB) (hl:bO C B' H' (x s) tB pB L') :
  ∃ ρ',Sx Bv C B' H' E n x (at2 tA s tB) (at2 pA s pB) d sl (at2 L s L') rows ρ'∧∀ a,a≠tB→a≠pB→ρ' a=ρ a:=by
 have old:∀ {a:Addr} {i:Nat},ρ a=i→i≠10+s→i≠20+s→i≠30+s→∀ o,H a=some o→H' a=some o:=fun {a i} e n1 n2 n3 o g=>mv.k a o (da e (h.rx s hs) n1) (da e (h.rt s hs) n2) (da e (h.rp s hs) n3) g
 have nt:∀ {a:Addr} {i:Nat},ρ a=i→i≠20+s→H a≠none→a≠tB:=fun {a i} e n1 g z=>by
  rcases mv.t with y | y
  ·exact da e (h.rt s hs) n1 (z.trans y)
  ·exact g (by rw [z];exact y)
 have np:∀ {a:Addr} {i:Nat},ρ a=i→i≠30+s→H a≠none→a≠pB:=fun {a i} e n1 g z=>by
  rcases mv.p with y | y
  ·exact da e (h.rp s hs) n1 (z.trans y)
  ·exact g (by rw [z];exact y)
 have rr:∀ {a:Addr} {i:Nat},ρ a=i→i≠20+s→i≠30+s→H a≠none→(fun b=>if b=tB then 20+s else if b=pB then 30+s else ρ b) a=i:=fun {a i} e n1 n2 g=>by
  show (if a=tB then 20+s else if a=pB then 30+s else ρ a)=i
  rw [if_neg (nt e n1 g),if_neg (np e n2 g)];exact e
 refine ⟨fun b=>if b=tB then 20+s else if b=pB then 30+s else ρ b,⟨hl.sb,?_,?_,?_,?_,?_,?_,fun a o e=>old (h.er a (by rw [e];exact fun z=>by cases z)) (by omega) (by omega) (by omega) _ (h.ee _ _ e),fun a hi=>mv.no _ (h.he hi) (h.eb a hi),fun a hi=>rr (h.er a hi) (by omega) (by omega) (h.he hi),h.en⟩,fun a h1 h2=>by show (if a=tB then 20+s else if a=pB then 30+s else ρ a)=ρ a;rw [if_neg h1,if_neg h2]⟩
 ·intro i hi
  by_cases z:i=s
  ·subst z;rw [aO,aO,aO];exact hl
  ·rw [ae z,ae z,ae z]
   exact (h.lk i hi).mv hl.sb mv.bb mv.no (old (h.rx i hi) (by omega) (by omega) (by omega)) (old (h.rt i hi) (by omega) (by omega) (by omega)) (old (h.rp i hi) (by omega) (by omega) (by omega))
 ·intro i hi
  exact (h.cg i hi).mv mb mv.bb mv.no fun j hj=>old (h.rs i hi j hj) (by omega) (by omega) (by omega)
 ·intro i hi
  exact rr (h.rx i hi) (by omega) (by omega) (h.lk i hi).hx
 ·intro i hi
  by_cases z:i=s
  ·subst z;rw [aO];exact if_pos rfl
  ·rw [ae z];exact rr (h.rt i hi) (by omega) (by omega) (h.lk i hi).ht
 ·intro i hi
  by_cases z:i=s
  ·subst z
   rw [aO]
   show (if pB=tB then 20+i else if pB=pB then 30+i else ρ pB)=_
   rw [if_neg (Ne.symm hl.ne),if_pos rfl]
  ·rw [ae z];exact rr (h.rp i hi) (by omega) (by omega) (h.lk i hi).hp
 ·intro i hi j hj
  exact rr (h.rs i hi j hj) (by omega) (by omega) ((h.cg i hi).at_ j hj).val
theorem Sx.gv (mb:fX Bv) {ra:Nat→List Rw} (h:Sx Bv C B H E n x tA pA d sl L rows ρ) (hs:s < 2) (g:Gv B H B' H' (sl s) n) (c:Cg Bv B' H' (d s) (sl s) n ra):Sx Bv C B' H' E n x tA pA d sl L (at2 rows s ra) ρ:=by
 have old:∀ {a:Addr} {i:Nat},ρ a=i→i≠50+s→∀ o,H a=some o→H' a=some o:=fun {a i} e n1 o q=>g.fr a o (fun j hj=>da e (h.rs s hs j hj) n1) q
 refine ⟨g.bh,?_,?_,h.rx,h.rt,h.rp,h.rs,fun a o e=>old (h.er a (by rw [e];exact fun z=>by cases z)) (by omega) _ (h.ee _ _ e),fun a hi=>g.no _ (h.he hi) (h.eb a hi),h.er,h.en⟩
 ·intro i hi
  exact (h.lk i hi).mv g.bh g.bb g.no (old (h.rx i hi) (by omega)) (old (h.rt i hi) (by omega)) (old (h.rp i hi) (by omega))
 ·intro i hi
  by_cases z:i=s
  ·subst z;rw [aO];exact c
  ·rw [ae z]
   exact (h.cg i hi).mv mb g.bb g.no fun j hj=>old (h.rs i hi j hj) (by omega)
theorem Sx.grow (mb:fX Bv) {a:Addr} {o:HO} (h:Sx Bv C B H E n x tA pA d sl L rows ρ) (s:aI H H') (na:H a=none) (ea:H' a=some o) :
  Sx Bv C (upd B a o) H' E n x tA pA d sl L rows ρ∧aI B (upd B a o):=by
 have h1:=h.same mb s
 have sB:aI B (upd B a o):=(aI.refl _).new (h.sb.free na)
 have no:∀ b,H b≠none→B b=none→(upd B a o) b=none:=fun b hb e=>by rw [aD (fun z=>hb (by rw [z];exact na))];exact e
 have Lq:aI (upd B a o) H':=fun b u e=>by
  by_cases z:b=a
  ·rw [z] at e ⊢;rw [aB] at e;rw [ea];exact e
  ·rw [aD z] at e;exact h1.sb _ _ e
 exact ⟨⟨Lq,fun i hi=>(h.lk i hi).mv Lq sB no (fun o e=>s _ _ e) (fun o e=>s _ _ e) (fun o e=>s _ _ e),fun i hi=>(h.cg i hi).mv mb sB no fun j _ o e=>s _ _ e,h.rx,h.rt,h.rp,h.rs,h1.ee,fun a hi=>no _ (h.he hi) (h.eb a hi),h.er,h.en⟩,sB⟩
theorem Sx.chg (mb:fX Bv) (h:Sx Bv C B H E n x tA pA d sl L rows ρ) (fr:∀ a o,E a=none→H a=some o→H' a=some o) (ee':aI E' H') (nw:∀ a,E' a≠none→E a≠none∨H a=none) (en':∀ a o,E' a=some o→vJ o):∃ ρ',Sx Bv C B H' E' n x tA pA d sl L rows ρ':=by
 classical
 have ez:∀ {b:Addr} {k:Nat},ρ b=k→k < 100→E b=none:=fun {b k} q n1=>Classical.byContradiction fun z=>by have:=h.er b z;omega
 have old:∀ {b:Addr} {k:Nat},ρ b=k→k < 100→∀ u,H b=some u→H' b=some u:=fun {b k} q n1 u g=>fr b u (ez q n1) g
 have Lq:aI B H':=fun a o e=>fr a o (Classical.byContradiction fun z=>by rw [h.eb a z] at e;cases e) (h.sb _ _ e)
 have rr:∀ {b:Addr} {k:Nat},ρ b=k→k < 100→H b≠none→(if E' b≠none then 100 else ρ b)=k:=fun {b k} q n1 hb=>by
  rw [if_neg (fun z=>(nw b z).elim (fun y=>y (ez q n1)) hb)];exact q
 exact ⟨fun a=>if E' a≠none then 100 else ρ a,Lq,fun i hi=>(h.lk i hi).mv Lq (aI.refl _) (fun _ _ z=>z) (old (h.rx i hi) (by omega)) (old (h.rt i hi) (by omega)) (old (h.rp i hi) (by omega)),fun i hi=>(h.cg i hi).mv mb (aI.refl _) (fun _ _ z=>z) fun j hj=>old (h.rs i hi j hj) (by omega),
  fun i hi=>rr (h.rx i hi) (by omega) (h.lk i hi).hx,fun i hi=>rr (h.rt i hi) (by omega) (h.lk i hi).ht,fun i hi=>rr (h.rp i hi) (by omega) (h.lk i hi).hp,fun i hi j hj=>rr (h.rs i hi j hj) (by omega) ((h.cg i hi).at_ j hj).val,ee',fun a ha=>(nw a ha).elim (h.eb a) h.sb.free,fun a ha=>if_pos ha,en'⟩
theorem Sx.put (mb:fX Bv) {a:Addr} {o:HO} (h:Sx Bv C B H E n x tA pA d sl L rows ρ) (ha:E a≠none) (no:vJ o):∃ ρ',Sx Bv C B (upd H a o) (upd E a o) n x tA pA d sl L rows ρ':=by
 refine h.chg mb (fun b u hb e=>by rw [aD (fun z=>ha (by rw [← z];exact hb))];exact e) (fun b u e=>?_) (fun b hb=>?_) (fun b u e=>?_)
 ·by_cases z:b=a
  ·rw [z,aB] at e;rw [z,aB];exact e
  ·rw [aD z] at e ⊢;exact h.ee _ _ e
 ·by_cases z:b=a
  ·rw [z];exact .inl ha
  ·rw [aD z] at hb;exact .inl hb
 ·by_cases z:b=a
  ·rw [z,aB] at e;cases e;exact no
  ·rw [aD z] at e;exact h.en _ _ e
theorem Sx.new (mb:fX Bv) {a:Addr} {o:HO} (h:Sx Bv C B H E n x tA pA d sl L rows ρ) (ha:H a=none) (no:vJ o):∃ ρ',Sx Bv C B (upd H a o) (upd E a o) n x tA pA d sl L rows ρ':=by
 refine h.chg mb (fun b u hb e=>by rw [aD (fun z=>by rw [z,ha] at e;cases e)];exact e) (fun b u e=>?_) (fun b hb=>?_) (fun b u e=>?_)
 ·by_cases z:b=a
  ·rw [z,aB] at e;rw [z,aB];exact e
  ·rw [aD z] at e ⊢;exact h.ee _ _ e
 ·by_cases z:b=a
  ·rw [z];exact .inr ha
  ·rw [aD z] at hb;exact .inl hb
 ·by_cases z:b=a
  ·rw [z,aB] at e;cases e;exact no
  ·rw [aD z] at e;exact h.en _ _ e
theorem Sx.re (h:Sx Bv C B H E n x tA pA d sl L rows ρ) {L':Nat→Lk} (hL:∀ s,s < 2→L' s=L s):Sx Bv C B H E n x tA pA d sl L' rows ρ :=
 ⟨h.sb,fun s hs=>by rw [hL s hs];exact h.lk s hs,h.cg,h.rx,h.rt,h.rp,h.rs,h.ee,h.eb,h.er,h.en⟩
end
open Classical in
noncomputable def Vh (x t p:Nat→Addr) (sl:Nat→Nat→Addr) (n:Nat) (E:Hp) (a:Addr):Nat :=
 if E a≠none then 100 else cI x t p sl n 0 (fun _=>0) a
theorem Sx.start {Bv:Dl} {C:Addr} {H E:Hp} {n:Nat} {x t p d:Nat→Addr} {sl:Nat→Nat→Addr} {L:Nat→Lk} (ap:Apart x t p sl n 0 (fun _=>0)) (lk:∀ s,s < 2→∃ B0,bO C B0 H (x s) (t s) (p s) (L s)) (le:∀ s,s < 2→(L s).ev=[]∧(L s).bS=[]∧(L s).p=none)
  (dl:∀ s,s < 2→H (d s)=some (.lst (bK n (sl s)))) (dz:∀ s,s < 2→cI x t p sl n 0 (fun _=>0) (d s)=0) (inj:∀ s,s < 2→∀ i j,i < n→j < n→sl s i=sl s j→i=j) (emp:∀ s,s < 2→∀ j,j < n→H (sl s j)=some (.lst [])) (ee:aI E H) (en:∀ a o,E a=some o→vJ o) (ez:∀ a,E a≠none→cI x t p sl n 0 (fun _=>0) a=0∧a≠d 0∧a≠d 1) :
  ∃ B,Sx Bv C B H E n x t p d sl L (fun _ _=>[]) (Vh x t p sl n E)∧∀ a o,E a=none→cI x t p sl n 0 (fun _=>0) a=0→H a=some o→B a=some o:=by
 classical
 obtain ⟨r1,r2,r3,r5,_⟩:=Lr ap
 have rE:∀ {a:Addr} {k:Nat},cI x t p sl n 0 (fun _=>0) a=k→k≠0→Vh x t p sl n E a=k:=fun {a k} e h=>by
  unfold Vh
  rw [if_neg (fun z=>h (by rw [← e];exact (ez a z).1))];exact e
 have no:∀ {a:Addr} {k:Nat},cI x t p sl n 0 (fun _=>0) a=k→k≠0→(fun a=>if E a=none∧cI x t p sl n 0 (fun _=>0) a=0 then H a else none) a=none:=fun {a k} e h=>by
  show (if E a=none∧cI x t p sl n 0 (fun _=>0) a=0 then H a else none)=none
  rw [if_neg (by rw [e];exact fun z=>h z.2)]
 have yes:∀ a o,E a=none→cI x t p sl n 0 (fun _=>0) a=0→H a=some o→(fun a=>if E a=none∧cI x t p sl n 0 (fun _=>0) a=0 then H a else none) a=some o:=fun a o e1 e h=>by
  show (if E a=none∧cI x t p sl n 0 (fun _=>0) a=0 then H a else none)=some o
  rw [if_pos ⟨e1,e⟩];exact h
 have sb:aI (fun a=>if E a=none∧cI x t p sl n 0 (fun _=>0) a=0 then H a else none) H:=fun a o e=>by
  have e:(if E a=none∧cI x t p sl n 0 (fun _=>0) a=0 then H a else none)=some o:=e
  by_cases z:E a=none∧cI x t p sl n 0 (fun _=>0) a=0
  ·rw [if_pos z] at e;exact e
  ·rw [if_neg z] at e;cases e
 have dn:∀ s,s < 2→E (d s)=none:=fun s hs=>Classical.byContradiction fun z=>by
  have:=ez _ z
  match s,hs with
  | 0,_=>exact this.2.1 rfl
  | 1,_=>exact this.2.2 rfl
  | s+2,h=>omega
 refine ⟨fun a=>if E a=none∧cI x t p sl n 0 (fun _=>0) a=0 then H a else none,⟨sb,?_,?_,fun s hs=>rE (r1 s hs) (by omega),fun s hs=>rE (r2 s hs) (by omega),fun s hs=>rE (r3 s hs) (by omega),fun s hs j hj=>rE (r5 s hs j hj) (by omega),ee,fun a ha=>?_,fun a ha=>if_pos ha,en⟩,yes⟩
 ·intro s hs
  obtain ⟨B0,l⟩:=lk s hs
  obtain ⟨q1,q2,q3⟩:=le s hs
  obtain ⟨dx,pv,g,gp⟩:=l.at_
  obtain ⟨gO,g2,Hs⟩:=l.told
  obtain ⟨dt,g3,vU⟩:=l.bS
  refine ⟨sb,no (r1 s hs) (by omega),no (r2 s hs) (by omega),no (r3 s hs) (by omega),⟨dx,pv,g,?_⟩,⟨gO,g2,fun y e he=>by rw [q1] at he;cases he⟩,⟨dt,g3,fun y e he=>by rw [q2] at he;cases he⟩,l.ne⟩
  rw [q3] at gp ⊢;exact gp
 ·intro s hs
  exact ⟨yes _ _ (dn s hs) (dz s hs) (dl s hs),inj s hs,fun j hj=>⟨no (r5 s hs j hj) (by omega),fun _=>0,emp s hs j hj,fun y r e=>by cases e⟩⟩
 ·show (if E a=none∧cI x t p sl n 0 (fun _=>0) a=0 then H a else none)=none
  rw [if_neg fun z=>ha z.1]
end
end K31
namespace K31
open PySem L2 PyProof.Rows
section
variable {P:Program} {w:World} {K:PySem.W.Frag} {mg:Str→Option Value} {base:Heap} {t:Ad}
theorem pe (aq:List (List Key × V)):vJ (.dT aq):=⟨(fun _ z=>by cases z),(fun _ _ z=>by cases z)⟩
theorem cj.toE {B H E:Hp} {d:Addr} {ps:List Pr} {la:Pr→Addr} {c:Pr→List (List Int)} (h:cj B H d ps la c) (s:aI E H) (hd:E d≠none) (hl:∀ P,P ∈ ps→E (la P)≠none):cj B E d ps la c:=by
 have k:∀ a o,E a≠none→H a=some o→E a=some o:=fun a o n e=>by
  obtain ⟨u,hu⟩:=Lv n
  rw [hu,← e,s _ _ hu]
 exact h.keep (fun o e=>k _ _ hd e) (fun P hP o e=>k _ _ (hl P hP) e)
theorem cj.QU {B B' E:Hp} {d:Addr} {ps:List Pr} {la:Pr→Addr} {c:Pr→List (List Int)} (h:cj B E d ps la c) (bb:aI B B') (eb:∀ a,E a≠none→B' a=none):cj B' E d ps la c :=
 ⟨h.at_,fun P hP=>by obtain ⟨dt,g1,g2⟩:=h.pc P hP;exact ⟨dt,g1,fun y xs hy=>bb _ _ (g2 y xs hy)⟩,h.inj,eb d (by rw [h.at_];exact fun z=>by cases z),fun P hP=>eb _ (by obtain ⟨dt,g1,_⟩:=h.pc P hP;rw [g1];exact fun z=>by cases z)⟩
theorem cj.nd {B E:Hp} {d:Addr} {ps:List Pr} {la:Pr→Addr} {c:Pr→List (List Int)} (h:cj B E d ps la c):E d≠none:=by rw [h.at_];exact fun z=>by cases z
theorem cj.nl {B E:Hp} {d:Addr} {ps:List Pr} {la:Pr→Addr} {c:Pr→List (List Int)} (h:cj B E d ps la c) {P:Pr} (hP:P ∈ ps):E (la P)≠none:=by obtain ⟨dt,g1,_⟩:=h.pc P hP;rw [g1];exact fun z=>by cases z
theorem cj.up {B E H:Hp} {d:Addr} {ps:List Pr} {la:Pr→Addr} {c:Pr→List (List Int)} (h:cj B E d ps la c) (s:aI E H):cj B H d ps la c:=h.keep (fun o e=>s _ _ e) (fun P hP o e=>s _ _ e)
theorem cj.dl {B E:Hp} {d:Addr} {ps:List Pr} {la:Pr→Addr} {c:Pr→List (List Int)} (h:cj B E d ps la c) {P:Pr} (hP:P ∈ ps):la P≠d:=fun z=>by obtain ⟨dt,g1,_⟩:=h.pc P hP;rw [z,h.at_] at g1;cases g1
theorem SG {xs:List V} {lo hi:Nat} (h1:lo≤hi) (h2:hi≤xs.length):fc xs (some (lo:Int)) (some (hi:Int))=(xs.drop lo).take (hi - lo):=by
 unfold fc
 rw [HT.iu,HT.iu,Nat.min_eq_left h2,Nat.min_eq_left (by omega)]
def uz (K:PySem.W.Frag) (C:Addr):Sp:=fun vs H Q _=>∃ (B E:Hp) (n:Nat) (x tA pA d:Nat→Addr) (sl:Nat→Nat→Addr) (L:Nat→Lk) (rows:Nat→Nat→List Rw) (ρ:Addr→Nat) (sd:Nat) (ck pl nA:Addr) (sv lv:V) (kW:Nat→Addr) (qs:List Pr) (lb:Pr→Addr) (c:Pr→List (List Int)) (ns:List Int),
 vs=[.ref (x sd),.ref ck,.int (sd:Int),.ref pl,.ref nA]∧sd < 2∧Sx IG C B H E n x tA pA d sl L rows ρ∧E ck=some (.lst [sv,lv])∧fV B sv (L sd).p∧B pl=some (.lst [.ref (kW 0),.ref (kW 1)])∧cj B E (kW sd) qs lb c∧(∀ P,P ∉ qs→c P=[])∧(∀ P,P ∈ qs→lb P≠ck)∧B nA=some (.lst (ns.map V.int))∧15≤ns.length∧ns.length≤100∧(∀ v ∈ ns,0≤v)∧(L sd).bS.length < 900000∧qs.length < 900000∧(∀ P,(c P).length < 900000)∧((L sd).p=none→(L sd).bS=[]) ∧
 ((L sd).p=none→Q (.bl true) H) ∧
 ∀ P,(L sd).p=some P→∀ (B' H' E':Hp) (ρ':Addr→Nat) (gh:List (List Int)) (IM:List Pr) (J7:Pr→Addr),aI B B'→Sx IG C B' H' E' n x tA pA d sl (at2 L sd { L sd with bS:=(L sd).bS ++ gh }) rows ρ'→gh.length≤3→(∀ xs ∈ gh,IC xs)→cj B' E' (kW sd) IM J7 (fun Q=>if Q=P then c P ++ gh else c Q)→(∀ Q,Q ∈ IM↔Q ∈ qs∨Q=P)→(∀ Q,Q ∈ qs→J7 Q=lb Q)→(∀ Q,Q ∈ IM→Q ∉ qs→H (J7 Q)=none)→(∀ a o,a≠kW sd→(∀ Q,Q ∈ qs→a≠lb Q)→E a=some o→E' a=some o)→IM.length≤qs.length+1→Q (.bl true) H'
theorem oT:aQ ["end","state","side","put","numbers","k","piece"] ["end","state","side","put","numbers"] (aH jS):=⟨rfl,rfl,rfl,by decide +kernel,rfl,by decide +kernel,by decide +kernel⟩
set_option maxHeartbeats 1000000 in
theorem IP {Yp fdp:FuncData} (F:aP K mg "_law_put" jS) (T:Txt K mg t) (pf:bZ P w K mg base (i9 P w) 1 t.pW Yp ["self"] (wd t.LinkEnd)) (ph:Binds K Yp ["self"] []) (Pk:bZ P w K mg base (i9 P w) 3 t.HK fdp ["self","piece"] (PX K t.LinkEnd t.NoLink t.BadPiece)) (Pl:Binds K fdp ["self","piece"] []):Def P w K mg base 10 "_law_put" ["end","state","side","put","numbers"] (uz K t.LinkEnd):=by
 refine F.def oT (fun _ _ _ _ _ _ us hl=>match us,hl with | [_,_,_,_,_],_=>rfl) (fun vs H Q E h=>?_) (fun f bo A outer s H vs Q E hr h=>?_)
 ·obtain ⟨B,E,n,x,tA,pA,d,sl,L,rows,ρ,sd,ck,pl,nA,sv,lv,kW,qs,lb,c,ns,rfl,_⟩:=h
  rfl
 ·obtain ⟨B,E,n,x,tA,pA,d,sl,L,rows,ρ,sd,ck,pl,nA,sv,lv,kW,qs,lb,c,ns,rfl,bR,st,sj,Wk,kK,hD,hc0,nst,XS,hn1,W9,hnb,Zw,hql,QP,RZ,q1,q2⟩:=h
  refine ⟨_,aC (bD (aW tF (aR (aM K) (pv 1) aF (fun _ _=>rfl)) cK (aj _))
    (aG (aV (pM jL (dh (pv 0) T.aJ T.HR (pf.mono (by decide)) hr ph .nil ar) aF (aj _))))
    (af))
   (aC (tL (bD (Nv (MY (ni hr) (aR (aM K) (pv 1) aF (fun _ _=>rfl)) (aR (aM K) (pv 3) (pv 2) (fun _ _=>rfl))) (by rfl))
    (aG (LO (ni hr) (aR (aM K) (pv 3) (pv 2) (fun _ _=>rfl)) (aR (aM K) (pv 1) aF (fun _ _=>rfl)) (bF aE) (by rfl)))
    (af)))
   (aC (PS.uX (dD PassesOwn.never rfl (cw (by rfl) T.dg (aA (aN aw (aR (aM K) (pv 4) aF (fun _ _=>rfl)) aF) aE)) (az (i:=5) oT.nd rfl (Or.inl rfl))
    (aC (lF (i:=6) oT.nd rfl (Or.inl rfl) rfl (Nc:=["number"]) (ix:=[none]) (dF (aH jS) ["end","state","side","put","numbers","k","piece"] rfl rfl (by decide +kernel)) (cN K (iB (iC K) (pv 4) (fb (aN bA (pv 5) aF)) (fb (aN bA (aN bA (pv 5) aF) (aN aw (aR (aM K) (pv 4) (aN bA (pv 5) aF) (fun _ _=>rfl)) aF))))) (fun C fp s H=>⟨(az (i:=0) (show (["number"]:List Str).Nodup by decide +kernel) rfl (Or.inl rfl)),cX,(aN aw (aN cW (pv 0) aF) aF)⟩))
    (aC (ax (pN (pv 0) T.aJ T.VF (Pk.mono (by decide)) hr Pl .nil ar (aA (pv 6) aE)))
    (aG (ax (jM K PySem.F.plainAttrs_list PySem.F.slot_list_append PySem.F.type_list_append cP (LN (ni hr) (aR (aM K) (pv 3) (pv 2) (fun _ _=>rfl)) (aR (aM K) (pv 1) aF (fun _ _=>rfl)) (fun _ _=>rfl)) (aA (pv 6) aE))))))))
   (aG (aV lC)))),?_⟩
  have hsz:(1000001:Nat)≤sizeLine:=by decide
  refine ⟨_,rfl,ck,_,_,_,rfl,rfl,aX.of (st.ee _ _ sj),mY _ _,rfl,_,rfl,?_⟩
  cases ep:(L sd).p with
  | none =>
   rw [ep] at Wk
   obtain rfl:sv=.bJ:=Wk
   refine eP rfl ?_
   have lk:=st.lk sd bR
   obtain ⟨dx,pv,hx,_⟩:=lk.at_
   refine ⟨_,rfl,x sd,dx,_,rfl,hx,rfl,⟨B,x sd,tA sd,pA sd,L sd,rfl,lk,?_⟩⟩
   rw [RZ ep]
   exact ⟨rfl,q1 ep⟩
  | some P =>
   rw [ep] at Wk
   obtain ⟨sa,rfl,ks⟩:=Wk
   refine dX (fun z=>by cases z) ?_
   refine ⟨fun σ H'=>∃ (E':Hp) (ρ':Addr→Nat) (IM:List Pr) (J7:Pr→Addr),σ=[some (.ref (x sd)),some (.ref ck),some (.int (sd:Int)),some (.ref pl),some (.ref nA),none,none]∧Sx IG t.LinkEnd B H' E' n x tA pA d sl L rows ρ'∧E' ck=some (.lst [.ref sa,lv])∧cj B E' (kW sd) IM J7 c∧(∀ Q,Q ∈ IM↔Q ∈ qs∨Q=P)∧(∀ Q,Q ∈ qs→J7 Q=lb Q)∧(∀ Q,Q ∈ IM→Q ∉ qs→H (J7 Q)=none)∧(∀ a o,a≠kW sd→(∀ Q,Q ∈ qs→a≠lb Q)→E a=some o→E' a=some o)∧IM.length≤qs.length+1,?_,?_⟩
   ·by_cases hP:P ∈ qs
    ·refine ⟨_,rfl,ck,_,_,_,rfl,rfl,aX.of (st.ee _ _ sj),mY _ _,_,rfl,_,rfl,pl,_,_,_,rfl,rfl,aX.of (st.sb _ _ kK),cG bR,kW sd,some (.ref (lb P)),rfl,by rw [← oR hP];exact jw.t (st.ee _ _ hD.at_) (st.sb _ _ ks),_,rfl,di ?_⟩
     exact ⟨E,ρ,qs,lb,rfl,st,sj,hD,fun Q=>⟨.inl,fun z=>z.elim id fun y=>y ▸ hP⟩,fun _ _=>rfl,fun Q h1 h2=>absurd h1 h2,fun _ _ _ _ e=>e,Nat.le_succ _⟩
    ·refine ⟨_,rfl,ck,_,_,_,rfl,rfl,aX.of (st.ee _ _ sj),mY _ _,_,rfl,_,rfl,pl,_,_,_,rfl,rfl,aX.of (st.sb _ _ kK),cG bR,kW sd,none,rfl,by rw [← wx (la:=lb) hP];exact jw.t (st.ee _ _ hD.at_) (st.sb _ _ ks),_,rfl,fe ?_⟩
     refine ⟨by show 0≤sizeLine;exact Nat.zero_le _,fun a ha=>?_⟩
     obtain ⟨ρ1,Lw⟩:=st.new dr ha (lZ [])
     have Yq:E a=none:=st.ee.free ha
     have nd:a≠kW sd:=fun z=>hD.nd (by rw [← z];exact Yq)
     have Tn:a≠ck:=fun z=>by rw [z,sj] at Yq;cases Yq
     have nds:ck≠kW sd:=fun z=>by rw [z,hD.at_] at sj;cases sj
     obtain ⟨ρ2,Dg⟩:=Lw.put dr (a:=kW sd) (o:=.dT (putK (i7 qs lb) (kP P) (.ref a))) (by rw [aD (Ne.symm nd)];exact hD.nd) (pe _)
     have D3:=((hD.up st.ee).new st.sb hP ha).toE Dg.ee (by rw [aB];exact fun z=>by cases z) (fun Q hQ=>by
      show (upd (upd E a (.lst [])) (kW sd) _) (if Q=P then a else lb Q)≠none
      by_cases z:Q=P
      ·rw [if_pos z,aD nd,aB];exact fun z=>by cases z
      ·have hQ':Q ∈ qs:=(List.mem_append.mp hQ).resolve_right fun y=>z (List.mem_singleton.mp y)
       rw [if_neg z,aD (hD.dl hQ'),aD (fun y=>hD.nl hQ' (by rw [y];exact Yq))]
       exact hD.nl hQ')
     have ec:(fun Q=>if Q=P then [] else c Q)=c:=funext fun Q=>by
      by_cases z:Q=P
      ·rw [if_pos z,z,hc0 P hP]
      ·rw [if_neg z]
     rw [ec] at D3
     refine ⟨_,rfl,_,rfl,pl,_,_,_,rfl,rfl,aX.of (Lw.sb _ _ kK),cG bR,_,rfl,ck,_,_,_,rfl,rfl,aX.of (Lw.ee _ _ (by rw [aD (Ne.symm Tn)];exact sj)),mY _ _,kW sd,_,rfl,z7.t (k:=kP P) (by rw [aD (Ne.symm nd)];exact st.ee _ _ hD.at_) (Lw.sb _ _ ks) (by unfold i7;rw [List.length_map];omega),?_⟩
     refine ⟨_,ρ2,qs ++ [P],_,rfl,Dg,by rw [aD nds,aD (Ne.symm Tn)];exact sj,D3,fun Q=>by rw [List.mem_append,List.mem_singleton],fun Q hQ=>if_neg (fun z:Q=P=>hP (z ▸ hQ)),fun Q h1 h2=>?_,fun b o h1 h2 e=>?_,by rw [List.length_append];exact Nat.le_refl _⟩
     ·have z:Q=P:=List.mem_singleton.mp ((List.mem_append.mp h1).resolve_left h2)
      show H (if Q=P then a else lb Q)=none
      rw [if_pos z];exact ha
     ·rw [aD h1,aD (fun z=>by rw [z,Yq] at e;cases e)];exact e
   ·rintro σ H1 ⟨E1,ρ1,Yr,Vi,rfl,Lw,Uj,D1,u1,o1,n1,f1,l1⟩
    have Ys:P ∈ Yr:=(u1 P).mpr (.inr rfl)
    have aCc:∀ Q,Q ∈ Yr→Vi Q≠ck:=fun Q hQ z=>by
     by_cases y:Q ∈ qs
     ·exact nst Q y ((o1 Q y).symm.trans z)
     ·have:=n1 Q hQ y;rw [z,st.ee _ _ sj] at this;cases this
    obtain ⟨v0,hv0⟩:∃ v0,ns[0]?=some v0:=⟨ns[0],by simp⟩
    refine ⟨_,rfl,nA,_,_,_,rfl,rfl,aX.of (Lw.sb _ _ XS),iw (j:=0) (by rw [List.getElem?_map,hv0];rfl),_,_,rfl,rfl,(by show (0:Int) < 4;decide),v0 % 4,rfl,by omega,by omega,?_⟩
    have e0:({ L sd with bS:=(L sd).bS ++ [] }:Lk)=L sd:=by rw [List.append_nil]
    have e00:(fun Q=>if Q=P then c P ++ [] else c Q)=c:=funext fun Q=>by
     by_cases z:Q=P
     ·rw [if_pos z,z,List.append_nil]
     ·rw [if_neg z]
    refine fT (lo:=0) (n:=(v0 % 4).toNat) (fun i σ H'=>∃ (B' E':Hp) (ρ':Addr→Nat) (v5 v6:Option V) (gh:List (List Int)),σ=[some (.ref (x sd)),some (.ref ck),some (.int (sd:Int)),some (.ref pl),some (.ref nA),v5,v6]∧gh.length=i∧aI B B'∧Sx IG t.LinkEnd B' H' E' n x tA pA d sl (at2 L sd { L sd with bS:=(L sd).bS ++ gh }) rows ρ'∧(∀ xs ∈ gh,IC xs)∧E' ck=some (.lst [.ref sa,lv])∧cj B' E' (kW sd) Yr Vi (fun Q=>if Q=P then c P ++ gh else c Q)∧∀ a o,a≠kW sd→(∀ Q,Q ∈ Yr→a≠Vi Q)→E1 a=some o→E' a=some o)
     ⟨B,E1,ρ1,none,none,[],rfl,rfl,aI.refl _,by rw [e0,lg];exact Lw,fun xs hx=>(by cases hx),Uj,by rw [e00];exact D1,fun _ _ _ _ e=>e⟩ ?_ ?_
    ·rintro i σ H2 hi ⟨B2,E2,ρ2,v5,v6,gh,rfl,Zu,b2,Dg,ip2,Vj,D2,f2⟩
     rw [show (0:Int)+(i:Nat)=(i:Int) by omega]
     have hi3:i≤2:=by omega
     obtain ⟨v1,Zx⟩:∃ v1,ns[i+1]?=some v1:=⟨ns[i+1],by simp⟩
     have Yt:=b2 _ _ XS
     have eix:xc (ns.map V.int) ((i:Int)+1)=some (.int v1):=by
      rw [show (i:Int)+1=((i+1:Nat):Int) by omega]
      exact iw (by rw [List.getElem?_map,Zx];rfl)
     have aG0:0≤v1:=hnb v1 (List.mem_of_getElem? Zx)
     refine ⟨_,rfl,_,rfl,_,_,rfl,rfl,_,rfl,_,rfl,_,_,rfl,rfl,_,rfl,_,rfl,_,_,rfl,rfl,nA,_,_,_,rfl,rfl,aX.of (Dg.sb _ _ Yt),eix,_,_,rfl,rfl,(by show (0:Int) < 10;decide),_,_,rfl,rfl,_,rfl,nA,_,rfl,aX.of (Dg.sb _ _ Yt),fun sA hsA=>?_⟩
     obtain ⟨m,hm,hm9⟩:∃ m:Nat,v1 % 10=(m:Int)∧m≤9:=⟨(v1 % 10).toNat,by omega,by omega⟩
     have Pm:fc (ns.map V.int) (some ((i:Int)+1)) (some ((i:Int)+2+v1 % 10))=((ns.drop (i+1)).take (m+1)).map V.int:=by
      rw [hm,show (i:Int)+1=((i+1:Nat):Int) by omega,show (i:Int)+2+(m:Int)=((i+2+m:Nat):Int) by omega,SG (by omega) (by rw [List.length_map];omega),List.map_take,List.map_drop]
      congr 1;omega
     have hlen:((ns.drop (i+1)).take (m+1)).length=m+1:=by rw [List.length_take,List.length_drop];omega
     have aBm:∀ v ∈ (ns.drop (i+1)).take (m+1),0≤v:=fun v hv=>hnb v (List.mem_of_mem_drop (List.mem_of_mem_take hv))
     rw [Pm]
     generalize (ns.drop (i+1)).take (m+1)=cs at *
     have s3:aI H2 (upd H2 sA (.lst (cs.map V.int))):=(aI.refl _).new hsA
     have e3:(upd H2 sA (.lst (cs.map V.int))) sA=some (.lst (cs.map V.int)):=aB
     generalize upd H2 sA (.lst (cs.map V.int))=H3 at *
     refine ⟨sA,rfl,⟨_,aX.of e3⟩,fun D hD'=>?_⟩
     refine rZ (K:=K) (a:=sA) (xs:=cs.map V.int) (fun j σ H'=>(∃ v,σ=[v])∧aI H3 H'∧H' D=some (.lst (((cs.take j).map fun v=>v / 13 % 97).map V.int))) ⟨⟨none,rfl⟩,(aI.refl _).new hD',aB⟩ (fun j σ H' _ p=>aX.of (p.2.1 _ _ e3)) ?_ ?_
     ·rintro j v σ H' N hN hj ⟨⟨v0',rfl⟩,s4,e4⟩
      obtain ⟨z,hz,rfl⟩:=mB hj
      refine df ?_
      refine ⟨_,rfl,_,_,rfl,rfl,(by show (0:Int) < 13∧(13:Int) < 1073741824;decide),_,_,rfl,rfl,(by show (0:Int) < 97;decide),_,e4,by rw [List.length_map,List.length_map,List.length_take];omega,hN _ _ ⟨⟨_,rfl⟩,s4.put hD',?_⟩⟩
      rw [aB,take_succ hz,List.map_append,List.map_append];rfl
     rintro σ H4 ⟨⟨v0',rfl⟩,s4,e4⟩
     rw [List.length_map,List.take_length] at e4
     have hms:IC (cs.map fun v=>v / 13 % 97):=by
      refine ⟨by rw [List.length_map,hlen];omega,fun v hv=>?_⟩
      obtain ⟨u,hu,rfl⟩:=List.mem_map.mp hv
      exact AW _
     generalize (cs.map fun v=>v / 13 % 97)=ms at *
     obtain ⟨OJ,sB4⟩:=(Dg.same dr s3).grow dr s4 hD' e4
     have YQ:(upd B2 D (.lst (ms.map V.int))) D=some (.lst (ms.map V.int)):=aB
     generalize upd B2 D (.lst (ms.map V.int))=B4 at *
     have lk4:=OJ.lk sd bR
     rw [aO] at lk4
     obtain ⟨dx,pv,hx,_⟩:=lk4.at_
     have RY:({ L sd with bS:=(L sd).bS ++ gh }:Lk).p=some P:=ep
     refine ⟨_,rfl,x sd,dx,_,rfl,hx,rfl,_,rfl,B4,x sd,tA sd,pA sd,D,_,ms,rfl,lk4,?_,aX.of e4,fun v hv=>?_,fun z=>absurd (RY.symm.trans z) (fun z=>by cases z),fun _ z=>absurd hms z,fun _ _ B5 H5 mv Z9=>?_⟩
     ·show ((L sd).bS ++ gh).length < 1000000
      rw [List.length_append];omega
     ·obtain ⟨w1,w2⟩:=hms.2 v hv
      exact Nat.lt_of_lt_of_le (show v.natAbs < 97 by omega) (by decide)
     obtain ⟨ρ5,vb,_⟩:=OJ.Z8 dr bR mv Z9
     rw [lg,lg,vX] at vb
     have eL:({ ({ L sd with bS:=(L sd).bS ++ gh }:Lk) with bS:=((L sd).bS ++ gh) ++ [ms] }:Lk)={ L sd with bS:=(L sd).bS ++ (gh ++ [ms]) }:=by rw [List.append_assoc]
     have vb:Sx IG t.LinkEnd B5 H5 E2 n x tA pA d sl (at2 L sd { L sd with bS:=(L sd).bS ++ (gh ++ [ms]) }) rows ρ5:=by rw [← eL];exact vb
     have b25:aI B2 B5:=sB4.trans mv.bb
     have hD5:=mv.bb _ _ YQ
     obtain ⟨dt,g3,D6⟩:=(D2.QU b25 vb.eb).push Ys hD5
     rw [if_pos rfl] at g3
     obtain ⟨ρ6,st6⟩:=vb.put dr (a:=Vi P) (o:=.lst (bK (c P ++ gh).length dt ++ [.ref D])) (D2.nl Ys) (lZ _)
     refine ⟨_,rfl,_,rfl,pl,_,_,_,rfl,rfl,aX.of (vb.sb _ _ (b25 _ _ (b2 _ _ kK))),cG bR,_,rfl,ck,_,_,_,rfl,rfl,aX.of (vb.ee _ _ Vj),mY _ _,kW sd,.ref (Vi P),rfl,by rw [← oR Ys];exact jw.t (vb.ee _ _ D2.at_) (vb.sb _ _ (b25 _ _ (b2 _ _ ks))),?_⟩
     refine ⟨.inl ⟨rfl,_,aX.of (vb.ee _ _ g3)⟩,_,rfl,Vi P,_,_,rfl,rfl,vb.ee _ _ g3,?_,?_⟩
     ·have:=QP P
      rw [aL,List.length_append];omega
     refine ⟨B5,_,ρ6,_,_,gh ++ [ms],rfl,by rw [List.length_append];show gh.length+1=_;omega,b2.trans b25,st6,fun xs hxs=>(List.mem_append.mp hxs).elim (ip2 xs) fun y=>by rw [List.mem_singleton.mp y];exact hms,by rw [aD (Ne.symm (aCc P Ys))];exact Vj,?_,fun a o h1 h2 e=>by rw [aD (h2 P Ys)];exact f2 a o h1 h2 e⟩
     have ec:(fun Q=>if Q=P then (if P=P then c P ++ gh else c P) ++ [ms] else if Q=P then c P ++ gh else c Q)=fun Q=>if Q=P then c P ++ (gh ++ [ms]) else c Q:=funext fun Q=>by
      by_cases z:Q=P
      ·rw [if_pos z,if_pos z,if_pos rfl,List.append_assoc]
      ·rw [if_neg z,if_neg z,if_neg z]
     rw [ec] at D6
     simp only [if_true] at D6
     exact D6
    ·rintro σ H2 ⟨B2,E2,ρ2,v5,v6,gh,rfl,Zu,b2,Dg,ip2,Vj,D2,f2⟩
     refine q2 P ep B2 H2 E2 ρ2 gh Yr Vi b2 Dg (by omega) ip2 D2 u1 o1 n1 (fun a o h1 h2 e=>f2 a o h1 (fun Q hQ z=>?_) (f1 a o h1 h2 e)) l1
     by_cases y:Q ∈ qs
     ·exact h2 Q y (z.trans (o1 Q y))
     ·have:=n1 Q hQ y;rw [← z,st.ee _ _ e] at this;cases this
end
end K31
namespace K31
open PySem L2 PyProof.Rows
section
variable {P:Program} {w:World} {K:PySem.W.Frag} {mg:Str→Option Value} {base:Heap} {t:Ad}
def wy (H:Hp) (d:Addr):Hp:=fun a=>if a=d then none else H a
theorem lj {H:Hp} {d a:Addr} (h:a≠d):wy H d a=H a:=if_neg h
theorem wz {H:Hp} {d:Addr}:aI (wy H d) H:=fun a o e=>by
 have e:(if a=d then none else H a)=some o:=e
 split at e
 ·cases e
 ·exact e
theorem NI {H:Hp} {d:Addr} {o:HO}:aI (wy H d) (upd H d o):=fun a u e=>by
 have e:(if a=d then none else H a)=some u:=e
 split at e
 ·cases e
 ·rename_i z;rw [aD z];exact e
theorem J8 {H H':Hp} {d:Addr} {o:HO} (s:aI (wy H d) H') (h:H d=some o):aI H (upd H' d o):=fun a u e=>by
 by_cases z:a=d
 ·rw [z] at e ⊢;rw [aB,← e,h]
 ·rw [aD z];exact s _ _ (by rw [lj z];exact e)
theorem IQ {B H:Hp} {e:Addr} (h:H e=some (.lst [])):wZ B H e []:=⟨fun _=>0,h,fun y xs hy=>by cases hy⟩
theorem Pn {K:PySem.W.Frag} {B H:Hp} {W:List (List Int)} {n:Nat} {f g:Nat→Addr} (sb:aI B H) (hf:∀ y xs,(W.take n)[y]?=some xs→B (f y)=some (.lst (xs.map V.int))) (hg:∀ y xs,W[y]?=some xs→B (g y)=some (.lst (xs.map V.int))) (hn:(W.take n).length=m) :
  ∀ (j:Nat) (u v:V),(bK m f)[j]?=some u→(bK m g)[j]?=some v→xk K H 8 u v:=by
 intro j u v hu hv
 obtain ⟨hj,rfl⟩:=tab_of hu
 obtain ⟨_,rfl⟩:=tab_of hv
 obtain ⟨xs,e⟩:∃ xs,(W.take n)[j]?=some xs:=⟨_,List.getElem?_eq_getElem (by rw [hn];exact hj)⟩
 have e2:W[j]?=some xs:=by
  rw [List.getElem?_take] at e
  split at e
  ·exact e
  ·cases e
 exact .lst (n:=7) (aX.of (sb _ _ (hf j xs e))) (aX.of (sb _ _ (hg j xs e2))) rfl fun k a b ha hb=>by
  rw [ha] at hb
  cases hb
  obtain ⟨z,_,rfl⟩:=mB ha
  exact .flat _ rfl
theorem Po {B H:Hp} {d e b:Addr} {qs:List Pr} {lb:Pr→Addr} {c:Pr→List (List Int)} {P:Pr} (D:cj B H d qs lb c) (hc:P ∉ qs→c P=[]) (hb:H b=some (.tup [.int P.1,.int P.2])) (he:H e=some (.lst [])):∃ (o:Option V) (dA:Addr),jw H d (.ref b) o∧o.getD (.ref e)=.ref dA∧wZ B H dA (c P):=by
 by_cases z:P ∈ qs
 ·exact ⟨_,lb P,jw.t (k:=kP P) D.at_ hb,by rw [oR z];rfl,D.pc P z⟩
 ·exact ⟨_,e,jw.t (k:=kP P) D.at_ hb,by rw [wx z];rfl,by rw [hc z];exact IQ he⟩
structure Bk (B E:Hp) (L:Nat→Lk) (G:Gh) (sa kW iA:Nat→Addr) (sv lv:Nat→V) (ps qs:Nat→List Pr) (la lb:Nat→Pr→Addr):Prop where
 s:∀ s,s < 2→E (sa s)=some (.lst [sv s,lv s])
 v:∀ s,s < 2→fV B (sv s) (L s).p
 t:∀ s,s < 2→cj B E (iA s) (ps s) (la s) (fun P=>(G.W (1 - s) P).take (G.K s P))
 p:∀ s,s < 2→cj B E (kW s) (qs s) (lb s) (G.W s)
 w:∀ s,s < 2→∀ P,P ∉ qs s→G.W s P=[]
 u:∀ s,s < 2→∀ P,P ∈ ps s↔G.U s P
 k:∀ s,s < 2→∀ P,¬ G.U s P→G.K s P=0
def iq (K:PySem.W.Frag) (C:Addr):Sp:=fun vs H Q _=>∃ (B E:Hp) (n:Nat) (x tA pA d:Nat→Addr) (sl:Nat→Nat→Addr) (L:Nat→Lk) (rows:Nat→Nat→List Rw) (ρ:Addr→Nat) (eL sL pl tl:Addr) (sa kW iA:Nat→Addr) (sv lv:Nat→V) (ps qs:Nat→List Pr) (la lb:Nat→Pr→Addr) (G:Gh),
 vs=[.ref eL,.ref sL,.ref pl,.ref tl]∧Sx IG C B H E n x tA pA d sl L rows ρ∧B eL=some (.lst [.ref (x 0),.ref (x 1)])∧B sL=some (.lst [.ref (sa 0),.ref (sa 1)])∧B pl=some (.lst [.ref (kW 0),.ref (kW 1)])∧B tl=some (.lst [.ref (iA 0),.ref (iA 1)])∧Bk B E L G sa kW iA sv lv ps qs la lb∧Rel G∧(∀ s,s < 2→En G s (L s))∧(∀ i j,i < 2→j < 2→kW i≠iA j) ∧
 ∀ H',aI H H'→Q (.bl true) H'
theorem bX:aQ ["ends","states","put","took","side","pair","due","most"] ["ends","states","put","took"] (aH dH):=⟨rfl,rfl,rfl,by decide +kernel,rfl,by decide +kernel,by decide +kernel⟩
set_option maxHeartbeats 1000000 in
theorem qA {Yp fdu:FuncData} (F:aP K mg "_law_pairs_right" dH) (T:Txt K mg t) (pf:bZ P w K mg base (i9 P w) 1 t.pW Yp ["self"] (wd t.LinkEnd)) (ph:Binds K Yp ["self"] []) (Vk:bZ P w K mg base (i9 P w) 1 t.O2 fdu ["self"] (Tf t.LinkEnd)) (Vl:Binds K fdu ["self"] []):Def P w K mg base 10 "_law_pairs_right" ["ends","states","put","took"] (iq K t.LinkEnd):=by
 refine F.def bX (fun _ _ _ _ _ _ us hl=>match us,hl with | [_,_,_,_],_=>rfl) (fun vs H Q E h=>?_) (fun f bo A outer s H vs Q E hr h=>?_)
 ·obtain ⟨B,E,n,x,tA,pA,d,sl,L,rows,ρ,eL,sL,pl,tl,sa,kW,iA,sv,lv,ps,qs,la,lb,G,rfl,_⟩:=h
  rfl
 ·obtain ⟨B,E,n,x,tA,pA,d,sl,L,rows,ρ,eL,sL,pl,tl,sa,kW,iA,sv,lv,ps,qs,la,lb,G,rfl,st,Yu,hsL,kK,Np,bk,rel,en,npt,q⟩:=h
  refine ⟨_,aC (PS.uX (dD PassesOwn.never rfl (cw (by rfl) T.dg (aA aF aE)) (az (i:=4) bX.nd rfl (Or.inl rfl))
    (aC (Oi P w (dD PassesOwn.never rfl (Md P w (aR (aM K) (pv 3) (pv 4) (fun _ _=>rfl))) (az (i:=5) bX.nd rfl (Or.inl rfl))
     (aC (aT (i:=6) bX.nd rfl (Or.inl rfl) (vx (ni hr) (aR (aM K) (pv 2) (aN jK aF (pv 4)) (fun _ _=>rfl)) (pv 5) (bF aE) ⟨rfl,rfl,rfl,rfl⟩))
     (aG (bD (aW (Q0 K (MN hr)) (HD P w (ni hr) (aR (aM K) (pv 3) (pv 4) (fun _ _=>rfl)) (pv 5) (fun _ _=>rfl)) (iB (iC K) (pv 6) rV (fb (bP (bQ K) (by rfl) T.iE boot_len (aA (HD P w (ni hr) (aR (aM K) (pv 3) (pv 4) (fun _ _=>rfl)) (pv 5) (fun _ _=>rfl)) aE)))) (aj _))
      (aG (aV lC))
      (af)))))
    ) (aC (aT (i:=5) bX.nd rfl (Or.inl rfl) (aR (aM K) (aR (aM K) (pv 1) (pv 4) (fun _ _=>rfl)) aF (fun _ _=>rfl)))
    (aC (bD (aW (JU K (MN hr)) (dh (aR (aM K) (pv 0) (pv 4) (fun _ _=>rfl)) T.aJ T.YJ (Vk.mono (by decide)) hr Vl .nil ar) (pv 5) (aj _))
     (aG (aV lC))
     (af))
    (aG (bD (aW pL (pv 5) cK (aj _))
     (aC (aT (i:=7) bX.nd rfl (Or.inl rfl) (bP (bQ K) (by rfl) T.iE boot_len (aA (vx (ni hr) (aR (aM K) (pv 2) (pv 4) (fun _ _=>rfl)) (pv 5) (bF aE) ⟨rfl,rfl,rfl,rfl⟩) aE)))
     (aG (bD (kJ (rR qB qB (aN jK (pv 7) (bP (bQ K) (by rfl) T.iE boot_len (aA (vx (ni hr) (aR (aM K) (pv 3) (aN jK aF (pv 4)) (fun _ _=>rfl)) (pv 5) (bF aE) ⟨rfl,rfl,rfl,rfl⟩) aE))) (dh (aR (aM K) (pv 0) (pv 4) (fun _ _=>rfl)) T.aJ T.HR (pf.mono (by decide)) hr ph .nil ar) (pv 7)))
      (aG (aV lC))
      (af))))
     (af))))))))
   (aG (aV lC)),?_⟩
  have hsz:(1000001:Nat)≤sizeLine:=by decide
  refine ⟨2,rfl,by decide,by decide,?_⟩
  refine fT (lo:=0) (n:=2) (fun _ σ H'=>∃ v4 v5 v6 v7:Option V,σ=[some (.ref eL),some (.ref sL),some (.ref pl),some (.ref tl),v4,v5,v6,v7]∧aI H H') ⟨none,none,none,none,rfl,aI.refl _⟩ ?_ ?_
  ·rintro sd σ H1 bR ⟨v4,v5,v6,v7,rfl,s1⟩
   rw [show (0:Int)+(sd:Nat)=(sd:Int) by omega]
   have Lw:=st.same dr s1
   have uy:1 - sd < 2:=by omega
   have Dk:(1:Int) - (sd:Int)=((1 - sd:Nat):Int):=by omega
   have Dt:=bk.t sd bR
   have Dp:=bk.p (1 - sd) uy
   have hdt:=Lw.ee _ _ Dt.at_
   have hdp:=Lw.ee _ _ Dp.at_
   have Ti:kW (1 - sd)≠iA sd:=npt _ _ uy bR
   refine ⟨_,rfl,_,rfl,tl,_,_,_,rfl,rfl,aX.of (Lw.sb _ _ Np),cG bR,iA sd,_,rfl,hdt,fun u bs ok=>?_⟩
   have hbn:∀ {b:Addr} {o:HO},B b=some o→b≠iA sd:=fun {b o} e z=>by rw [z,Dt.bd] at e;cases e
   refine Me (n:=(i7 (ps sd) (la sd)).length) (fun _ σ H'=>∃ v5 v6:Option V,σ=[some (.ref eL),some (.ref sL),some (.ref pl),some (.ref tl),some (.int (sd:Int)),v5,v6,v7]∧aI (wy H1 (iA sd)) H'∧H' (iA sd)=some u) ⟨_,_,rfl,NI,aB⟩ (fun i σ H' _ ⟨_,_,_,_,e⟩=>e) ?_ ?_
   ·rintro i σ H2 hi ⟨v5,v6,rfl,s2,OT⟩
    obtain ⟨P,hP⟩:∃ P,(ps sd)[i]?=some P:=⟨_,List.getElem?_eq_getElem (by unfold i7 at hi;rw [List.length_map] at hi;exact hi)⟩
    have hPm:P ∈ ps sd:=List.mem_of_getElem? hP
    have hkv:(i7 (ps sd) (la sd))[i]?=some (kP P,V.ref (la sd P)):=by unfold i7;rw [List.getElem?_map,hP];rfl
    have kb2:∀ {b:Addr} {o:HO},B b=some o→H2 b=some o:=fun {b o} e=>s2 _ _ (by rw [lj (hbn e)];exact Lw.sb _ _ e)
    have kb1:∀ {b:Addr} {o:HO},b≠iA sd→E b=some o→H2 b=some o:=fun {b o} n e=>s2 _ _ (by rw [lj n];exact Lw.ee _ _ e)
    have Vm:∀ a xs,H1 a=some (.tup xs)→H2 a=some (.tup xs):=fun a xs e=>s2 _ _ (by rw [lj (fun z=>by rw [z,hdt] at e;cases e)];exact e)
    have ok2:=ok.keep Vm
    have LR:=ok2.ks i _ _ hkv
    have sB2:aI B H2:=fun b o e=>kb2 e
    refine ⟨_,rfl,_,rfl,_,_,rfl,rfl,pl,_,_,_,rfl,rfl,aX.of (kb2 kK),by rw [Dk];exact cG uy,kW (1 - sd),rfl,.inr ⟨_,.inl (kb1 Ti Dp.at_)⟩,_,rfl,by show 0≤sizeLine;exact Nat.zero_le _,fun e he=>?_⟩
    have s3:aI H2 (upd H2 e (.lst [])):=(aI.refl _).new he
    have e3:(upd H2 e (.lst [])) e=some (.lst []):=aB
    generalize upd H2 e (.lst [])=H3 at *
    obtain ⟨o,dA,ho,U1,hdA⟩:∃ (o:Option V) (dA:Addr),iy (i7 (qs (1 - sd)) (lb (1 - sd))) (kP P)=o∧o.getD (.ref e)=.ref dA∧wZ B H3 dA (G.W (1 - sd) P):=by
     by_cases z:P ∈ qs (1 - sd)
     ·refine ⟨_,lb (1 - sd) P,oR z,rfl,?_⟩
      obtain ⟨dt,g1,g2⟩:=Dp.pc P z
      exact ⟨dt,s3 _ _ (kb1 (fun y=>by rw [y,Dt.at_] at g1;cases g1) g1),g2⟩
     ·refine ⟨_,e,wx z,rfl,?_⟩
      rw [bk.w _ uy P z];exact IQ e3
    refine ⟨o,by rw [← ho];exact jw.t (s3 _ _ (kb1 Ti Dp.at_)) (s3 _ _ LR),?_⟩
    rw [U1]
    obtain ⟨NJ,d1,d2⟩:=hdA
    obtain ⟨aCi,t1,t2⟩:=Dt.pc P hPm
    have t13:H3 (la sd P)=some (.lst (bK ((G.W (1 - sd) P).take (G.K sd P)).length aCi)):=s3 _ _ (kb1 (Dt.dl hPm) t1)
    have ok3:=ok2.keep (fun a xs e=>s3 _ _ e)
    have sB3:=sB2.trans s3
    have hlen:((G.W (1 - sd) P).take (G.K sd P)).length≤(G.W (1 - sd) P).length:=by rw [List.length_take];exact Nat.min_le_right _ _
    refine ⟨_,rfl,_,rfl,tl,_,_,_,rfl,rfl,aX.of (sB3 _ _ Np),cG bR,_,rfl,iA sd,_,u,bs,bs i,kP P,.ref (la sd P),rfl,s3 _ _ OT,ok3,rfl,s3 _ _ LR,oR hPm,?_⟩
    refine ⟨_,rfl,_,rfl,_,rfl,tl,_,_,_,rfl,rfl,aX.of (sB3 _ _ Np),cG bR,_,rfl,iA sd,_,u,bs,bs i,kP P,.ref (la sd P),rfl,s3 _ _ OT,ok3,rfl,s3 _ _ LR,oR hPm,la sd P,_,rfl,.inl (aX.of t13),_,rfl,dA,_,rfl,aX.of d1,fun cA hcA=>?_⟩
    rw [aL]
    have Pm:fc (bK (G.W (1 - sd) P).length NJ) none (some (((((G.W (1 - sd) P).take (G.K sd P)).length:Nat):Int)))=bK ((G.W (1 - sd) P).take (G.K sd P)).length NJ:=qQ hlen
    rw [Pm]
    have s4:aI H3 (upd H3 cA (.lst (bK ((G.W (1 - sd) P).take (G.K sd P)).length NJ))):=(aI.refl _).new hcA
    have e4:(upd H3 cA (.lst (bK ((G.W (1 - sd) P).take (G.K sd P)).length NJ))) cA=some (.lst (bK ((G.W (1 - sd) P).take (G.K sd P)).length NJ)):=aB
    generalize upd H3 cA (.lst (bK ((G.W (1 - sd) P).take (G.K sd P)).length NJ))=H4 at *
    refine ⟨la sd P,cA,_,_,rfl,rfl,aX.of (s4 _ _ t13),aX.of e4,.inl ⟨by rw [aL,aL],Pn (sB3.trans s4) t2 d2 rfl,_,rfl,di ?_⟩⟩
    exact ⟨_,_,rfl,s2.trans (s3.trans s4),s4 _ _ (s3 _ _ OT)⟩
   ·rintro σ H2 ⟨v5,v6,rfl,s2,OT⟩
    have Vm:∀ a xs,H1 a=some (.tup xs)→H2 a=some (.tup xs):=fun a xs e=>s2 _ _ (by rw [lj (fun z=>by rw [z,hdt] at e;cases e)];exact e)
    refine ⟨iA sd,_,u,bs,ok.keep Vm,OT,?_⟩
    have s3:=J8 s2 hdt
    generalize upd H2 (iA sd) (.dT (i7 (ps sd) (la sd)))=H3 at *
    have Nm:=Lw.same dr s3
    have hs3:=Nm.ee _ _ (bk.s sd bR)
    have lk3:=Nm.lk sd bR
    obtain ⟨dx,pvx,hx,_⟩:=lk3.at_
    refine ⟨_,rfl,_,rfl,sL,_,_,_,rfl,rfl,aX.of (Nm.sb _ _ hsL),cG bR,sa sd,_,_,_,rfl,rfl,aX.of hs3,mY _ _,?_⟩
    refine ⟨_,rfl,_,rfl,eL,_,_,_,rfl,rfl,aX.of (Nm.sb _ _ Yu),cG bR,x sd,dx,_,rfl,hx,rfl,⟨B,x sd,tA sd,pA sd,L sd,rfl,lk3,fun pv hpv=>?_⟩⟩
    refine ⟨_,rfl,IJ (hpv.mono Nm.sb) ((bk.v sd bR).mono Nm.sb) ⟨_,rfl,di ?_⟩⟩
    refine ⟨_,rfl,rfl,_,rfl,?_⟩
    have hv:=bk.v sd bR
    cases ep:(L sd).p with
    | none =>
     rw [ep] at hv
     have hv:sv sd=.bJ:=hv
     rw [hv]
     refine qC rfl ?_
     exact ⟨_,_,_,_,rfl,s1.trans s3⟩
    | some P =>
     rw [ep] at hv
     obtain ⟨va,hva,kva⟩:=hv
     rw [hva]
     refine rY (fun z=>by cases z) ?_
     have Dq:=(bk.p sd bR).up Nm.ee
     refine ⟨_,rfl,_,rfl,pl,_,_,_,rfl,rfl,aX.of (Nm.sb _ _ kK),cG bR,kW sd,rfl,.inr ⟨_,.inl Dq.at_⟩,_,rfl,by show 0≤sizeLine;exact Nat.zero_le _,fun e he=>?_⟩
     have s4:aI H3 (upd H3 e (.lst [])):=(aI.refl _).new he
     have e4:(upd H3 e (.lst [])) e=some (.lst []):=aB
     generalize upd H3 e (.lst [])=H4 at *
     have OJ:=Nm.same dr s4
     obtain ⟨o,dA,g1,g2,dt,g3,_⟩:=Po ((bk.p sd bR).up OJ.ee) (bk.w sd bR P) (OJ.sb _ _ kva) e4
     refine ⟨o,g1,?_⟩
     rw [g2]
     refine ⟨dA,_,rfl,.inl (aX.of g3),?_⟩
     rw [aL]
     have Dr:=(bk.t (1 - sd) uy).up OJ.ee
     refine ⟨_,rfl,_,rfl,_,rfl,_,_,rfl,rfl,tl,_,_,_,rfl,rfl,aX.of (OJ.sb _ _ Np),by rw [Dk];exact cG uy,iA (1 - sd),rfl,.inr ⟨_,.inl Dr.at_⟩,_,rfl,by show 0≤sizeLine;exact Nat.zero_le _,fun e' he'=>?_⟩
     have s5:aI H4 (upd H4 e' (.lst [])):=(aI.refl _).new he'
     have e5:(upd H4 e' (.lst [])) e'=some (.lst []):=aB
     generalize upd H4 e' (.lst [])=H5 at *
     have vb:=OJ.same dr s5
     have e2s:1 - (1 - sd)=sd:=by omega
     obtain ⟨o',dB,k1,k2,aGF,k3,_⟩:=Po (P:=P) ((bk.t (1 - sd) uy).up vb.ee) (fun z=>by
      have:=bk.k (1 - sd) uy P (fun y=>z ((bk.u (1 - sd) uy P).mpr y))
      show (G.W (1 - (1 - sd)) P).take (G.K (1 - sd) P)=[]
      rw [this];rfl) (vb.sb _ _ kva) e5
     refine ⟨o',k1,?_⟩
     rw [k2]
     have Z9:=vb.lk sd bR
     obtain ⟨QS,Wc,Wd,_⟩:=Z9.at_
     refine ⟨dB,_,rfl,.inl (aX.of k3),_,_,rfl,rfl,_,rfl,_,rfl,eL,_,_,_,rfl,rfl,aX.of (vb.sb _ _ Yu),cG bR,x sd,QS,_,rfl,Wd,rfl,⟨B,x sd,tA sd,pA sd,L sd,rfl,Z9,?_⟩⟩
     rw [aL,e2s,List.length_take]
     obtain ⟨n1,n2⟩:=(en sd bR).up P ep
     have n3:=(en sd bR).p
     rw [← n1] at n3
     rw [n3,List.length_drop]
     obtain ⟨r1,r2,r3⟩:=rel sd bR P
     refine ⟨_,_,rfl,rfl,_,rfl,eP (by omega) ⟨_,rfl,_,_,rfl,rfl,_,rfl,?_⟩⟩
     rw [decide_eq_true (by omega)]
     refine di ?_
     exact ⟨_,_,_,_,rfl,s1.trans (s3.trans (s4.trans s5))⟩
  ·rintro σ H1 ⟨v4,v5,v6,v7,rfl,s1⟩
   exact q H1 s1
end
end K31
namespace K31
open PySem L2 PyProof.Rows
section
variable {P:Program} {w:World} {K:PySem.W.Frag} {mg:Str→Option Value} {base:Heap} {t:Ad}
theorem Sx.To {Bv:Dl} {C:Addr} {B H E:Hp} {n:Nat} {x tA pA d:Nat→Addr} {sl:Nat→Nat→Addr} {L:Nat→Lk} {rows:Nat→Nat→List Rw} {ρ:Addr→Nat} {p:Addr} {o:HO} (mb:fX Bv) (h:Sx Bv C B H E n x tA pA d sl L rows ρ) (hp:H p=some o) (hb:B p=none) (n1:∀ s,s < 2→p≠x s∧p≠tA s∧p≠pA s) (n2:∀ s,s < 2→∀ j,j < n→p≠sl s j) (n3:E p=none) :
  Sx Bv C (upd B p o) H E n x tA pA d sl L rows ρ∧aI B (upd B p o):=by
 have sB:aI B (upd B p o):=(aI.refl _).new hb
 have Lq:aI (upd B p o) H:=fun b u e=>by
  by_cases z:b=p
  ·rw [z] at e ⊢;rw [aB] at e;rw [hp];exact e
  ·rw [aD z] at e;exact h.sb _ _ e
 refine ⟨⟨Lq,fun i hi=>?_,fun i hi=>?_,h.rx,h.rt,h.rp,h.rs,h.ee,fun a ha=>by rw [aD (fun z=>ha (by rw [z];exact n3))];exact h.eb a ha,h.er,h.en⟩,sB⟩
 ·have l:=h.lk i hi
  obtain ⟨m1,m2,m3⟩:=n1 i hi
  obtain ⟨dx,pv,g,gp⟩:=l.at_
  obtain ⟨gO,g2,Hs⟩:=l.told
  obtain ⟨dt,g3,vU⟩:=l.bS
  exact ⟨Lq,by rw [aD (Ne.symm m1)];exact l.bx,by rw [aD (Ne.symm m2)];exact l.bt,by rw [aD (Ne.symm m3)];exact l.bp,⟨dx,pv,g,gp.mono sB⟩,⟨gO,g2,fun y e he=>(Hs y e he).mono sB⟩,⟨dt,g3,fun y xs hy=>sB _ _ (vU y xs hy)⟩,l.ne⟩
 ·have c:=h.cg i hi
  exact ⟨sB _ _ c.dl,c.inj,fun j hj=>(c.at_ j hj).keep mb sB (by rw [aD (Ne.symm (n2 i hi j hj))];exact (c.at_ j hj).no) rfl⟩
structure Bl (B E:Hp) (L:Nat→Lk) (G:Gh) (sa kW iA:Nat→Addr) (sv lv:Nat→V) (ps qs:Nat→List Pr) (la lb:Nat→Pr→Addr) (τ:Addr→Nat) (l:Nat→Option Pr):Prop where
 bk:Bk B E L G sa kW iA sv lv ps qs la lb
 vl:∀ s,s < 2→fV B (lv s) (l s)
 lu:∀ s,s < 2→∀ x,l s=some x→G.U s x
 ts:∀ s,s < 2→τ (sa s)=s
 td:∀ s,s < 2→τ (iA s)=2+s
 tp:∀ s,s < 2→τ (kW s)=4+s
 tl:∀ s,s < 2→∀ P,P ∈ ps s→τ (la s P)=6+s
 tb:∀ s,s < 2→∀ P,P ∈ qs s→τ (lb s P)=8+s
 zw:∀ s,s < 2→∀ P,((G.W s P).length:Int)≤3 * (L s).d
 zp:∀ s,s < 2→((ps s).length:Int)≤4000 * (L s).d
 zq:∀ s,s < 2→((qs s).length:Int)≤(L s).d
section
variable {C:Addr} {B B' H H' E:Hp} {n:Nat} {x tA pA d:Nat→Addr} {sl:Nat→Nat→Addr} {L L1:Nat→Lk} {rows:Nat→Nat→List Rw} {ρ:Addr→Nat} {G G':Gh} {sa kW iA:Nat→Addr} {sv lv:Nat→V} {ps qs:Nat→List Pr} {la lb:Nat→Pr→Addr} {τ:Addr→Nat} {l:Nat→Option Pr} {sd:Nat}
theorem Bl.QU (h:Bl B E L G sa kW iA sv lv ps qs la lb τ l) (bb:aI B B') (eb:∀ a,E a≠none→B' a=none):Bl B' E L G sa kW iA sv lv ps qs la lb τ l :=
 ⟨⟨h.bk.s,fun s hs=>(h.bk.v s hs).mono bb,fun s hs=>(h.bk.t s hs).QU bb eb,fun s hs=>(h.bk.p s hs).QU bb eb,h.bk.w,h.bk.u,h.bk.k⟩,fun s hs=>(h.vl s hs).mono bb,h.lu,h.ts,h.td,h.tp,h.tl,h.tb,h.zw,h.zp,h.zq⟩
theorem ba {a b:Addr} {i j:Nat} (ha:τ a=i) (hb:τ b=j) (h:i≠j):a≠b:=fun z=>h (by rw [← ha,← hb,z])
theorem Bl.ev {ev:List Ev} {Lu IK:V} {kG:List Pr} {jF:Pr→Addr} (bR:sd < 2) (h:Bl B E L G sa kW iA sv lv ps qs la lb τ l) (st:Sx IG C B H E n x tA pA d sl L1 rows ρ) (hL:∀ s,s < 2→s≠sd→L1 s=L s) (gw:G'.W=G.W) (gk:G'.K (1 - sd)=G.K (1 - sd)) (gu:G'.U (1 - sd)=G.U (1 - sd))
  (hw:yE (wt G sd (L sd)) ev=wt G' sd (L1 sd)) (ku:KU (wt G' sd (L1 sd))) (hd:(L1 sd).d=(L sd).d+1) (PF:ev.length≤4000)
  (p1:aI B H') (p2:∀ a,H' a=none→H a=none) (p3:∀ a o,a≠sa sd→a≠iA sd→(∀ P,P ∈ ps sd→a≠la sd P)→H a=some o→H' a=some o) (p4:H' (sa sd)=some (.lst [Lu,IK])) (p5:fV B Lu (yE (wt G sd (L sd)) ev).p) (p6:fV B IK (oQ (l sd) ev)) (p7:cj B H' (iA sd) kG jF (fun P=>(G.W (1 - sd) P).take ((yE (wt G sd (L sd)) ev).k P))) (p8:∀ P,P ∈ kG↔(yE (wt G sd (L sd)) ev).u P) (Yv:∀ P,P ∈ kG→(P ∈ ps sd∧jF P=la sd P)∨H (jF P)=none) (Yw:∀ P,P ∈ ps sd→P ∈ kG∧jF P=la sd P) (p12:kG.length≤(ps sd).length+ev.length) :
  ∃ E' ρ' τ',Sx IG C B H' E' n x tA pA d sl L1 rows ρ'∧Bl B E' L1 G' sa kW iA (at2 sv sd Lu) (at2 lv sd IK) (at2 ps sd kG) qs (at2 la sd jF) lb τ' (at2 l sd (oQ (l sd) ev)):=by
 classical
 have Dt:=h.bk.t sd bR
 have Ya:=Ls (A:=wt G sd (L sd)) (h.lu sd bR) ev
 rw [hw] at p5 p7 p8 Ya
 have Es:E (sa sd)≠none:=by rw [h.bk.s sd bR];exact fun z=>by cases z
 have get:∀ {a:Addr},(E a≠none∨∃ P,P ∈ kG∧a=jF P)→(fun a=>if E a≠none∨∃ P,P ∈ kG∧a=jF P then H' a else none) a=H' a:=fun {a} z=>if_pos z
 have see:aI (fun a=>if E a≠none∨∃ P,P ∈ kG∧a=jF P then H' a else none) H':=fun a o e=>by
  have e:(if E a≠none∨∃ P,P ∈ kG∧a=jF P then H' a else none)=some o:=e
  split at e
  ·exact e
  ·cases e
 have off:∀ {a:Addr} {o:HO},E a=some o→a≠sa sd→a≠iA sd→(∀ P,P ∈ ps sd→a≠la sd P)→(fun a=>if E a≠none∨∃ P,P ∈ kG∧a=jF P then H' a else none) a=some o:=fun {a o} e n1 n2 n3=>by
  rw [get (.inl (by rw [e];exact fun z=>by cases z))]
  exact p3 a o n1 n2 n3 (st.ee _ _ e)
 have hn:∀ {a:Addr},E a≠none→H a≠none:=fun {a} z=>st.he z
 have tg:∀ {a:Addr} {k:Nat},E a≠none→τ a=k→(fun a=>if H a=none then 6+sd else τ a) a=k:=fun {a k} z e=>by
  show (if H a=none then 6+sd else τ a)=k
  rw [if_neg (hn z)];exact e
 obtain ⟨ρ',xf⟩:=st.chg dr (H':=H') (E':=fun a=>if E a≠none∨∃ P,P ∈ kG∧a=jF P then H' a else none)
  (fun a o e1 e2=>p3 a o (fun z=>Es (by rw [← z];exact e1)) (fun z=>Dt.nd (by rw [← z];exact e1)) (fun P hP z=>Dt.nl hP (by rw [← z];exact e1)) e2) see
  (fun a ha=>by
   by_cases z:E a≠none
   ·exact .inl z
   ·have ha:(if E a≠none∨∃ P,P ∈ kG∧a=jF P then H' a else none)≠none:=ha
    by_cases y:∃ P,P ∈ kG∧a=jF P
    ·obtain ⟨P,hP,rfl⟩:=y
     rcases Yv P hP with ⟨y1,y2⟩ | y
     ·rw [y2];exact .inl (Dt.nl y1)
     ·exact .inr y
    ·rw [if_neg (fun w=>w.elim z y)] at ha;exact absurd rfl ha)
  (fun a o e=>by
   have e':=see _ _ e
   by_cases y:∃ P,P ∈ kG∧a=jF P
   ·obtain ⟨P,hP,rfl⟩:=y
    obtain ⟨dt,g1,_⟩:=p7.pc P hP
    rw [g1] at e';cases e';exact lZ _
   ·by_cases z1:a=sa sd
    ·rw [z1,p4] at e';cases e';exact lZ _
    ·by_cases z2:a=iA sd
     ·rw [z2,p7.at_] at e';cases e';exact pe _
     ·have e:(if E a≠none∨∃ P,P ∈ kG∧a=jF P then H' a else none)=some o:=e
      by_cases z3:E a≠none
      ·obtain ⟨u,hu⟩:=Lv z3
       have:=p3 a u z1 z2 (fun P hP w=>y ⟨P,(Yw P hP).1,w.trans (Yw P hP).2.symm⟩) (st.ee _ _ hu)
       rw [this] at e';cases e'
       exact st.en _ _ hu
      ·rw [if_neg (fun w=>w.elim z3 y)] at e;cases e)
 have uy:1 - sd < 2:=by omega
 have zU:∀ {s:Nat},s < 2→s≠sd→s=1 - sd:=fun {s} h1 h2=>by omega
 refine ⟨_,ρ',fun a=>if H a=none then 6+sd else τ a,xf,⟨⟨fun s hs=>?_,fun s hs=>?_,fun s hs=>?_,fun s hs=>?_,fun s hs P hP=>by rw [gw];exact h.bk.w s hs P hP,fun s hs P=>?_,fun s hs P hP=>?_⟩,fun s hs=>?_,fun s hs y hy=>?_,fun s hs=>tg (by rw [h.bk.s s hs];exact fun z=>by cases z) (h.ts s hs),fun s hs=>tg (h.bk.t s hs).nd (h.td s hs),fun s hs=>tg (h.bk.p s hs).nd (h.tp s hs),fun s hs P hP=>?_,fun s hs P hP=>tg ((h.bk.p s hs).nl hP) (h.tb s hs P hP),fun s hs P=>?_,fun s hs=>?_,fun s hs=>?_⟩⟩
 ·by_cases z:s=sd
  ·rw [z,aO,aO]
   exact (get (.inl Es)).trans p4
  ·rw [ae z,ae z]
   exact off (h.bk.s s hs) (ba (h.ts s hs) (h.ts sd bR) z) (ba (h.ts s hs) (h.td sd bR) (by omega)) (fun P hP=>ba (h.ts s hs) (h.tl sd bR P hP) (by omega))
 ·by_cases z:s=sd
  ·rw [z,aO];exact p5
  ·rw [ae z,hL s hs z];exact h.bk.v s hs
 ·by_cases z:s=sd
  ·rw [z,aO,aO,gw]
   exact p7.toE xf.ee (fun z=>p7.nd ((get (.inl Dt.nd)).symm.trans z)) (fun P hP z=>p7.nl hP ((get (.inr ⟨P,hP,rfl⟩)).symm.trans z))
  ·rw [ae z,ae z,gw]
   have ek:G'.K s=G.K s:=by rw [zU hs z];exact gk
   rw [ek]
   exact (h.bk.t s hs).keep (fun o e=>off e (ba (h.td s hs) (h.ts sd bR) (by omega)) (ba (h.td s hs) (h.td sd bR) (by omega)) (fun P hP=>ba (h.td s hs) (h.tl sd bR P hP) (by omega))) (fun Q hQ o e=>off e (ba (h.tl s hs Q hQ) (h.ts sd bR) (by omega)) (ba (h.tl s hs Q hQ) (h.td sd bR) (by omega)) (fun P hP=>ba (h.tl s hs Q hQ) (h.tl sd bR P hP) (by omega)))
 ·rw [gw]
  exact (h.bk.p s hs).keep (fun o e=>off e (ba (h.tp s hs) (h.ts sd bR) (by omega)) (ba (h.tp s hs) (h.td sd bR) (by omega)) (fun P hP=>ba (h.tp s hs) (h.tl sd bR P hP) (by omega))) (fun Q hQ o e=>off e (ba (h.tb s hs Q hQ) (h.ts sd bR) (by omega)) (ba (h.tb s hs Q hQ) (h.td sd bR) (by omega)) (fun P hP=>ba (h.tb s hs Q hQ) (h.tl sd bR P hP) (by omega)))
 ·by_cases z:s=sd
  ·rw [z,aO];exact p8 P
  ·rw [ae z,h.bk.u s hs P,zU hs z,gu]
 ·by_cases z:s=sd
  ·rw [z] at hP ⊢;exact ku.2 P hP
  ·rw [zU hs z] at hP ⊢
   rw [gu] at hP
   rw [gk];exact h.bk.k _ uy P hP
 ·by_cases z:s=sd
  ·rw [z,aO,aO];exact p6
  ·rw [ae z,ae z];exact h.vl s hs
 ·by_cases z:s=sd
  ·rw [z,aO] at hy
   rw [z];exact Ya y hy
  ·rw [ae z] at hy
   have:=h.lu s hs y hy
   rw [zU hs z] at this ⊢
   rw [gu];exact this
 ·by_cases z:s=sd
  ·rw [z,aO] at hP
   rw [z,aO]
   rcases Yv P hP with ⟨y1,y2⟩ | y
   ·rw [y2];exact tg (Dt.nl y1) (h.tl sd bR P y1)
   ·show (if H (jF P)=none then 6+sd else τ (jF P))=6+sd
    rw [if_pos y]
  ·rw [ae z] at hP ⊢
   exact tg ((h.bk.t s hs).nl hP) (h.tl s hs P hP)
 ·rw [gw]
  have:=h.zw s hs P
  by_cases z:s=sd
  ·rw [z] at this ⊢;omega
  ·rw [hL s hs z];exact this
 ·by_cases z:s=sd
  ·have:=h.zp sd bR
   rw [z,aO];omega
  ·rw [ae z,hL s hs z];exact h.zp s hs
 ·by_cases z:s=sd
  ·have:=h.zq sd bR
   rw [z];omega
  ·rw [hL s hs z];exact h.zq s hs
theorem Bl.put {E':Hp} {ρ':Addr→Nat} {P:Pr} {gh:List (List Int)} {IM:List Pr} {J7:Pr→Addr} (bR:sd < 2) (h:Bl B E L G sa kW iA sv lv ps qs la lb τ l) (rel:Rel G) (st:Sx IG C B H E n x tA pA d sl L rows ρ) (bb:aI B B') (xf:Sx IG C B' H' E' n x tA pA d sl (at2 L sd { L sd with bS:=(L sd).bS ++ gh }) rows ρ') (Zu:gh.length≤3)
  (hD:cj B' E' (kW sd) IM J7 (fun Q=>if Q=P then G.W sd P ++ gh else G.W sd Q)) (u1:∀ Q,Q ∈ IM↔Q ∈ qs sd∨Q=P) (o1:∀ Q,Q ∈ qs sd→J7 Q=lb sd Q) (n1:∀ Q,Q ∈ IM→Q ∉ qs sd→H (J7 Q)=none) (f1:∀ a o,a≠kW sd→(∀ Q,Q ∈ qs sd→a≠lb sd Q)→E a=some o→E' a=some o) (l1:IM.length≤(qs sd).length+1)
  (zw0:∀ Q,((G.W sd Q).length:Int)+3≤3 * (L sd).d) (zq0:((qs sd).length:Int)+1≤(L sd).d) :
  ∃ τ',Bl B' E' (at2 L sd { L sd with bS:=(L sd).bS ++ gh }) (qe G sd P gh) sa kW iA sv lv ps (at2 qs sd IM) la (at2 lb sd J7) τ' l:=by
 classical
 have tg:∀ {a:Addr} {k:Nat},E a≠none→τ a=k→(fun a=>if H a=none then 8+sd else τ a) a=k:=fun {a k} z e=>by
  show (if H a=none then 8+sd else τ a)=k
  rw [if_neg (st.he z)];exact e
 have eW:∀ {s:Nat},s≠sd→(qe G sd P gh).W s=G.W s:=fun {s} z=>funext fun Q=>cC fun y=>z y.1
 have eWs:(qe G sd P gh).W sd=fun Q=>if Q=P then G.W sd P ++ gh else G.W sd Q:=funext fun Q=>by
  show dZ G.W sd P (G.W sd P ++ gh) sd Q=_
  by_cases z:Q=P
  ·rw [if_pos z,z,bM]
  ·rw [if_neg z,cC (fun y=>z y.2)]
 have ep:∀ s,s < 2→(at2 L sd { L sd with bS:=(L sd).bS ++ gh } s).p=(L s).p∧(at2 L sd { L sd with bS:=(L sd).bS ++ gh } s).d=(L s).d:=fun s hs=>by
  by_cases z:s=sd
  ·rw [z,aO];exact ⟨rfl,rfl⟩
  ·rw [ae z];exact ⟨rfl,rfl⟩
 have hu:P ∈ IM:=(u1 P).mpr (.inr rfl)
 refine ⟨fun a=>if H a=none then 8+sd else τ a,⟨⟨fun s hs=>?_,fun s hs=>by rw [(ep s hs).1];exact (h.bk.v s hs).mono bb,fun s hs=>?_,fun s hs=>?_,fun s hs Q hQ=>?_,h.bk.u,h.bk.k⟩,fun s hs=>(h.vl s hs).mono bb,h.lu,fun s hs=>tg (by rw [h.bk.s s hs];exact fun z=>by cases z) (h.ts s hs),fun s hs=>tg (h.bk.t s hs).nd (h.td s hs),fun s hs=>tg (h.bk.p s hs).nd (h.tp s hs),fun s hs Q hQ=>tg ((h.bk.t s hs).nl hQ) (h.tl s hs Q hQ),fun s hs Q hQ=>?_,fun s hs Q=>?_,fun s hs=>by rw [(ep s hs).2];exact h.zp s hs,fun s hs=>?_⟩⟩
 ·exact f1 _ _ (ba (h.ts s hs) (h.tp sd bR) (by omega)) (fun Q hQ=>ba (h.ts s hs) (h.tb sd bR Q hQ) (by omega)) (h.bk.s s hs)
 ·have D:=((h.bk.t s hs).keep (H':=E') (fun o e=>f1 _ _ (ba (h.td s hs) (h.tp sd bR) (by omega)) (fun Q hQ=>ba (h.td s hs) (h.tb sd bR Q hQ) (by omega)) e) (fun R hR o e=>f1 _ _ (ba (h.tl s hs R hR) (h.tp sd bR) (by omega)) (fun Q hQ=>ba (h.tl s hs R hR) (h.tb sd bR Q hQ) (by omega)) e)).QU bb xf.eb
  have ec:(fun Q=>((qe G sd P gh).W (1 - s) Q).take ((qe G sd P gh).K s Q))=fun Q=>(G.W (1 - s) Q).take (G.K s Q):=funext fun Q=>by
   show ((qe G sd P gh).W (1 - s) Q).take (G.K s Q)=(G.W (1 - s) Q).take (G.K s Q)
   by_cases z:1 - s=sd
   ·have es:s=1 - sd:=by omega
    have r3:=(rel sd bR Q).2.2
    rw [← es] at r3
    rw [z,eWs]
    simp only
    by_cases y:Q=P
    ·rw [if_pos y,← y,List.take_append_of_le_length r3]
    ·rw [if_neg y]
   ·rw [eW z]
  rw [ec];exact D
 ·by_cases z:s=sd
  ·rw [z,aO,aO,eWs];exact hD
  ·rw [ae z,ae z,eW z]
   exact ((h.bk.p s hs).keep (H':=E') (fun o e=>f1 _ _ (ba (h.tp s hs) (h.tp sd bR) (by omega)) (fun Q hQ=>ba (h.tp s hs) (h.tb sd bR Q hQ) (by omega)) e) (fun R hR o e=>f1 _ _ (ba (h.tb s hs R hR) (h.tp sd bR) (by omega)) (fun Q hQ=>ba (h.tb s hs R hR) (h.tb sd bR Q hQ) (by omega)) e)).QU bb xf.eb
 ·by_cases z:s=sd
  ·rw [z,aO] at hQ
   rw [z,eWs]
   simp only
   rw [if_neg (fun y:Q=P=>hQ (by rw [y];exact hu))]
   exact h.bk.w sd bR Q fun y=>hQ ((u1 Q).mpr (.inl y))
  ·rw [ae z] at hQ
   rw [eW z];exact h.bk.w s hs Q hQ
 ·by_cases z:s=sd
  ·rw [z,aO] at hQ
   rw [z,aO]
   by_cases y:Q ∈ qs sd
   ·rw [o1 Q y];exact tg ((h.bk.p sd bR).nl y) (h.tb sd bR Q y)
   ·show (if H (J7 Q)=none then 8+sd else τ (J7 Q))=8+sd
    rw [if_pos (n1 Q hQ y)]
  ·rw [ae z] at hQ ⊢
   exact tg ((h.bk.p s hs).nl hQ) (h.tb s hs Q hQ)
 ·rw [(ep s hs).2]
  by_cases z:s=sd
  ·rw [z,eWs]
   simp only
   have h1:=zw0 Q
   have h2:=zw0 P
   by_cases y:Q=P
   ·rw [if_pos y,List.length_append];omega
   ·rw [if_neg y];omega
  ·rw [eW z];exact h.zw s hs Q
 ·rw [(ep s hs).2]
  by_cases z:s=sd
  ·rw [z,aO];omega
  ·rw [ae z];exact h.zq s hs
end
end
end K31
namespace K31
open PySem L2 PyProof.Rows
section
variable {P:Program} {w:World} {K:PySem.W.Frag} {mg:Str→Option Value} {base:Heap} {t:Ad}
def sV (K:PySem.W.Frag):Sp:=fun vs H Q _=>∃ (l:Addr) (n0 n1 n2 n3 side tick:Int),vs=[.ref l,.int side,.int tick]∧aX K H l [.int n0,.int n1,.int n2,.int n3]∧∀ (b:Bool) (H':Hp),aI H H'→Q (.bl b) H'
theorem sW:aQ ["numbers","side","tick","begin"] ["numbers","side","tick"] (aH kC):=⟨rfl,rfl,rfl,by decide +kernel,rfl,by decide +kernel,by decide +kernel⟩
theorem Ai (F:aP K mg "_law_dead" kC) (T:Txt K mg t):Def P w K mg base 1 "_law_dead" ["numbers","side","tick"] (sV K):=by
 refine F.def sW (fun _ _ _ _ _ _ us hl=>match us,hl with | [_,_,_],_=>rfl) (fun vs H Q E h=>?_) (fun f bo A outer s H vs Q E hr h=>?_)
 ·obtain ⟨l,n0,n1,n2,n3,side,tick,rfl,_⟩:=h
  rfl
 ·obtain ⟨l,n0,n1,n2,n3,side,tick,rfl,hl,q⟩:=h
  refine ⟨_,aC (aT (i:=3) sW.nd rfl (Or.inl rfl) (aN aw (aR (aM K) (pv 0) aF (fun _ _=>rfl)) aF))
   (aG (aV (T6 (pM MH (aN aw (aR (aM K) (pv 0) aF (fun _ _=>rfl)) aF) (bB (aA (aN bA (pv 1) aF) (aA aF aE))) (by rfl)) (T5 (Gi qB jy (pv 3) (pv 2) (aN bA (aN bA (pv 3) aF) (aN aw (aR (aM K) (pv 0) aF (fun _ _=>rfl)) aF))))))),?_⟩
  refine ⟨_,rfl,l,_,_,_,rfl,rfl,hl,rfl,_,_,rfl,rfl,(by show (0:Int) < 20;decide),?_⟩
  refine ⟨_,rfl,l,_,_,_,rfl,rfl,hl,rfl,_,_,rfl,rfl,(by show (0:Int) < 4;decide),_,rfl,_,_,rfl,rfl,by show 2≤sizeLine;decide,fun tp htp=>?_⟩
  have s1:=(aI.refl H).new (o:=.tup [V.int (side+1),V.int 3]) htp
  refine ⟨tp,_,rfl,.inr (bw.of aB),rfl,rfl,_,rfl,?_⟩
  rw [show (if (false:Bool)=true then !WK (V.int (n1 % 4)) [V.int (side+1),V.int 3] else WK (V.int (n1 % 4)) [V.int (side+1),V.int 3])=WK (V.int (n1 % 4)) [V.int (side+1),V.int 3] from if_neg (fun z=>by cases z)]
  generalize WK (V.int (n1 % 4)) [V.int (side+1),V.int 3]=bb
  cases bb with
  | false=>exact di (q false _ s1)
  | true =>
   refine fe ?_
   refine ⟨_,rfl,_,rfl,_,_,rfl,rfl,_,rfl,?_⟩
   by_cases b2:n2 % 20≤tick
   ·refine eP b2 ?_
    refine ⟨_,rfl,_,_,rfl,rfl,_,rfl,l,_,_,_,rfl,rfl,s1.seq hl,rfl,_,_,rfl,rfl,(by show (0:Int) < 18;decide),_,_,rfl,rfl,_,_,rfl,rfl,?_⟩
    exact q _ _ s1
   ·exact dX b2 (q false _ s1)
end
end K31
namespace K31
open PySem L2 PyProof.Rows
section
variable {P:Program} {w:World} {K:PySem.W.Frag} {mg:Str→Option Value} {base:Heap} {t:Ad}
structure yF (G F:Hp) (l:List Addr):Prop where
 nd:l.Nodup
 no:∀ b,b ∈ l→G b=none
 ne:∀ b,b ∈ l→F b≠none
 sm:aI G F
theorem yF.nil {F:Hp}:yF F F []:=⟨List.nodup_nil,fun b h=>(by cases h),fun b h=>(by cases h),aI.refl _⟩
theorem yF.cons {G G' F:Hp} {a:Addr} {l:List Addr} (s:aI G G') (h1:G a=none) (h2:G' a≠none) (c:yF G' F l):yF G F (a :: l) :=
 ⟨List.nodup_cons.mpr ⟨fun z=>h2 (c.no a z),c.nd⟩,fun b hb=>(List.mem_cons.mp hb).elim (fun z=>by rw [z];exact h1) (fun z=>s.free (c.no b z)),fun b hb=>(List.mem_cons.mp hb).elim (fun z=>by rw [z];exact fun y=>h2 (c.sm.free y)) (c.ne b),s.trans c.sm⟩
theorem yF.new {G F:Hp} {a:Addr} {o:HO} {l:List Addr} (h1:G a=none) (c:yF (upd G a o) F l):yF G F (a :: l):=c.cons ((aI.refl _).new h1) h1 (by rw [aB];exact fun z=>by cases z)
def G0:Gh:=⟨fun _ _=>[],fun _ _=>0,fun _ _=>0,fun _ _=>False⟩
theorem SH {C:Addr} {H3 H5 He OK MK:Hp} {x0 x1 t0 t1 p0 p1 eL iV iL sL iM i8 pl iN iO tl D0 D1 cL:Addr} {Iw J9:Nat→Addr} {n:Nat} {q:Int} (s35:aI H3 H5) (nd6:[x0,x1,t0,t1,p0,p1].Nodup) (Yx:∀ a,a ∈ [x0,x1,t0,t1,p0,p1]→H5 a≠none) (z3:∀ a,a ∈ [x0,x1,t0,t1,p0,p1]→H3 a=none)
  (lk:∀ s,s < 2→∃ B0,bO C B0 H5 (av x0 x1 s) (av t0 t1 s) (av p0 p1 s) (av (vG q 0) (vG q 1) s)) (c:yF H5 He [eL,iV,iL,sL,iM,i8,pl,iN,iO,tl])
  (e0:He iV=some (.lst [.bJ,.bJ])) (e1:He iL=some (.lst [.bJ,.bJ])) (e2:He iM=some (.dT [])) (e3:He i8=some (.dT [])) (e4:He iN=some (.dT [])) (e5:He iO=some (.dT []))
  (e6:He eL=some (.lst [.ref x0,.ref x1])) (e7:He sL=some (.lst [.ref iV,.ref iL])) (e8:He pl=some (.lst [.ref iM,.ref i8])) (e9:He tl=some (.lst [.ref iN,.ref iO]))
  (NK:Vc He OK D0 Iw n) (KA:Vc OK MK D1 J9 n) (Vn:MK cL=none) :
  ∃ (B E:Hp) (τ ρ:Addr→Nat),Sx IG C B (upd MK cL (.lst [.ref D0,.ref D1])) E n (av x0 x1) (av t0 t1) (av p0 p1) (av D0 D1) (av Iw J9) (av (vG q 0) (vG q 1)) (fun _ _=>[]) ρ ∧
   Bl B E (av (vG q 0) (vG q 1)) G0 (av iV iL) (av iM i8) (av iN iO) (fun _=>.bJ) (fun _=>.bJ) (fun _=>[]) (fun _=>[]) (fun _ _=>0) (fun _ _=>0) τ (fun _=>none)∧(∀ a o,H3 a=some o→B a=some o)∧B eL=some (.lst [.ref x0,.ref x1])∧B sL=some (.lst [.ref iV,.ref iL])∧B pl=some (.lst [.ref iM,.ref i8])∧B tl=some (.lst [.ref iN,.ref iO])∧B cL=some (.lst [.ref D0,.ref D1]):=by
 classical
 have ne:∀ {G:Hp} {a b:Addr},G a≠none→G b=none→a≠b:=fun {G a b} h1 h2 z=>h1 (by rw [z];exact h2)
 have up:∀ {G G':Hp} {a:Addr},aI G G'→G a≠none→G' a≠none:=fun {G G' a} s h z=>h (s.free z)
 have sm:∀ {G:Hp} {a:Addr} {o:HO},G a=some o→G a≠none:=fun {G a o} e z=>by rw [e] at z;cases z
 have sT:aI MK (upd MK cL (.lst [.ref D0,.ref D1])):=(aI.refl _).new Vn
 have cLT:(upd MK cL (.lst [.ref D0,.ref D1])) cL=some (.lst [.ref D0,.ref D1]):=aB
 generalize upd MK cL (.lst [.ref D0,.ref D1])=HT at *
 have Yy:=NK.sm
 have Rv:=KA.sm
 have alE:∀ a,a ∈ [x0,x1,t0,t1,p0,p1]→He a≠none:=fun a ha=>up c.sm (Yx a ha)
 have Vo:∀ a,a ∈ [x0,x1,t0,t1,p0,p1]→OK a≠none:=fun a ha=>up Yy (alE a ha)
 have aCm:∀ a,a ∈ [x0,x1,t0,t1,p0,p1]→MK a≠none:=fun a ha=>up Rv (Vo a ha)
 have off:∀ {G:Hp} {b:Addr},(∀ a,a ∈ [x0,x1,t0,t1,p0,p1]→G a≠none)→G b=none→b ∉ [x0,x1,t0,t1,p0,p1]:=fun {G b} h1 h2 hb=>h1 b hb h2
 have Vp:∀ j,j < n→OK (Iw j)≠none:=fun j hj=>sm (NK.em j hj)
 have ap:Apart (av x0 x1) (av t0 t1) (av p0 p1) (av Iw J9) n 0 (fun _=>0) :=
  ⟨nd6,fun j hj=>off alE (NK.no j hj),fun j hj=>off Vo (KA.no j hj),fun i j hi hj=>Ne.symm (ne (Vp j hj) (KA.no i hi)),fun i j hi=>absurd hi (Nat.not_lt_zero _),fun i hi=>absurd hi (Nat.not_lt_zero _),fun i hi=>absurd hi (Nat.not_lt_zero _),fun i hi=>absurd hi (Nat.not_lt_zero _)⟩
 have zr:∀ {b:Addr},b ∉ [x0,x1,t0,t1,p0,p1]→He b≠none→cI (av x0 x1) (av t0 t1) (av p0 p1) (av Iw J9) n 0 (fun _=>0) b=0:=fun {b} h1 h2=>sR h1 (fun j hj=>ne h2 (NK.no j hj)) (fun j hj=>ne (up Yy h2) (KA.no j hj)) (fun i hi=>absurd hi (Nat.not_lt_zero _))
 have zc:∀ {b:Addr},b ∈ [eL,iV,iL,sL,iM,i8,pl,iN,iO,tl]→cI (av x0 x1) (av t0 t1) (av p0 p1) (av Iw J9) n 0 (fun _=>0) b=0:=fun {b} hb=>zr (off Yx (c.no b hb)) (c.ne b hb)
 have aCn:OK D0≠none:=sm NK.at_
 have QV:aI He HT:=(Yy.trans Rv).trans sT
 have Vq:∀ {a:Addr},a ∈ [iV,iL,iM,i8,iN,iO]→(fun a=>if a ∈ [iV,iL,iM,i8,iN,iO] then HT a else none) a=HT a:=fun {a} h=>if_pos h
 have SI:∀ {a:Addr},a ∉ [iV,iL,iM,i8,iN,iO]→(fun a=>if a ∈ [iV,iL,iM,i8,iN,iO] then HT a else none) a=none:=fun {a} h=>if_neg h
 have inO:∀ {a:Addr},(fun a=>if a ∈ [iV,iL,iM,i8,iN,iO] then HT a else none) a≠none→a ∈ [iV,iL,iM,i8,iN,iO]:=fun {a} h=>Classical.byContradiction fun z=>h (SI z)
 have sub:∀ {a:Addr},a ∈ [iV,iL,iM,i8,iN,iO]→a ∈ [eL,iV,iL,sL,iM,i8,pl,iN,iO,tl]:=fun {a} h=>by
  simp only [List.mem_cons,List.not_mem_nil,or_false] at h ⊢
  rcases h with h | h | h | h | h | h <;> simp [h]
 have val:∀ {a:Addr},a ∈ [iV,iL,iM,i8,iN,iO]→∃ o,HT a=some o∧vJ o:=fun {a} h=>by
  simp only [List.mem_cons,List.not_mem_nil,or_false] at h
  rcases h with rfl | rfl | rfl | rfl | rfl | rfl
  ·exact ⟨_,QV _ _ e0,lZ _⟩
  ·exact ⟨_,QV _ _ e1,lZ _⟩
  ·exact ⟨_,QV _ _ e2,pe _⟩
  ·exact ⟨_,QV _ _ e3,pe _⟩
  ·exact ⟨_,QV _ _ e4,pe _⟩
  ·exact ⟨_,QV _ _ e5,pe _⟩
 obtain ⟨B,st,yes⟩:=Sx.start (Bv:=IG) (C:=C) (H:=HT) (E:=fun a=>if a ∈ [iV,iL,iM,i8,iN,iO] then HT a else none) (n:=n) (x:=av x0 x1) (t:=av t0 t1) (p:=av p0 p1) (d:=av D0 D1) (sl:=av Iw J9) (L:=av (vG q 0) (vG q 1)) ap
  (fun s hs=>by obtain ⟨B0,k⟩:=lk s hs;exact ⟨B0,k.same (c.sm.trans QV)⟩) (bV ⟨rfl,rfl,rfl⟩ ⟨rfl,rfl,rfl⟩)
  (bV ((Rv.trans sT) _ _ NK.at_) (sT _ _ KA.at_))
  (bV (sR (off alE NK.nD) (fun j hj=>Ne.symm (NK.nd j hj)) (fun j hj=>ne aCn (KA.no j hj)) (fun i hi=>absurd hi (Nat.not_lt_zero _))) (sR (off Vo KA.nD) (fun j hj=>Ne.symm (ne (Vp j hj) KA.nD)) (fun j hj=>Ne.symm (KA.nd j hj)) (fun i hi=>absurd hi (Nat.not_lt_zero _))))
  (bV NK.inj KA.inj) (bV (fun j hj=>(Rv.trans sT) _ _ (NK.em j hj)) (fun j hj=>sT _ _ (KA.em j hj)))
  (fun a o e=>by
   have h:=inO (a:=a) (fun z=>by cases e.symm.trans z)
   exact (Vq h).symm.trans e)
  (fun a o e=>by
   have h:=inO (a:=a) (fun z=>by cases e.symm.trans z)
   obtain ⟨u,h1,h2⟩:=val h
   have:HT a=some o:=(Vq h).symm.trans e
   rw [h1] at this;cases this;exact h2)
  (fun a ha=>by
   have h:=sub (inO ha)
   exact ⟨zc h,ne (G:=He) (c.ne a h) NK.nD,ne (G:=OK) (up Yy (c.ne a h)) KA.nD⟩)
 have cnd:=c.nd
 simp only [List.nodup_cons,List.mem_cons,List.not_mem_nil,or_false,not_or,List.nodup_nil,and_true,not_false_eq_true] at cnd
 obtain ⟨⟨a1,a2,a3,a4,a5,a6,a7,a8,a9⟩,⟨b1,b2,b3,b4,b5,b6,b7,b8⟩,⟨c1,c2,c3,c4,c5,c6,c7⟩,⟨d1,d2,d3,d4,d5,d6⟩,⟨f1,f2,f3,f4,f5⟩,⟨g1,g2,g3,g4⟩,⟨h1,h2,h3⟩,⟨i1,i2⟩,j1⟩:=cnd
 have SJ:∀ {a:Addr},a≠iV→a≠iL→a≠iM→a≠i8→a≠iN→a≠iO→a ∉ [iV,iL,iM,i8,iN,iO]:=fun {a} y1 y2 y3 y4 y5 y6 h=>by
  simp only [List.mem_cons,List.not_mem_nil,or_false] at h
  rcases h with h | h | h | h | h | h
  ·exact y1 h
  ·exact y2 h
  ·exact y3 h
  ·exact y4 h
  ·exact y5 h
  ·exact y6 h
 have keep:∀ {a:Addr} {o:HO},a ∈ [eL,iV,iL,sL,iM,i8,pl,iN,iO,tl]→a ∉ [iV,iL,iM,i8,iN,iO]→He a=some o→B a=some o:=fun {a o} h1 h2 e=>yes a o (SI h2) (zc h1) (QV _ _ e)
 have eE:∀ {a:Addr} {o:HO},a ∈ [iV,iL,iM,i8,iN,iO]→He a=some o→(fun a=>if a ∈ [iV,iL,iM,i8,iN,iO] then HT a else none) a=some o:=fun {a o} h e=>(Vq h).trans (QV _ _ e)
 have dp:∀ {a:Addr} {la:Pr→Addr} {cc:Pr→List (List Int)},a ∈ [iV,iL,iM,i8,iN,iO]→He a=some (.dT [])→cj B (fun a=>if a ∈ [iV,iL,iM,i8,iN,iO] then HT a else none) a [] la cc:=fun {a la cc} h e=>⟨eE h e,fun P hP=>(by cases hP),fun P hP=>(by cases hP),st.eb a (fun z=>by cases (eE h e).symm.trans z),fun P hP=>(by cases hP)⟩
 refine ⟨B,_,fun a=>if a=iV then 0 else if a=iL then 1 else if a=iN then 2 else if a=iO then 3 else if a=iM then 4 else 5,_,st,⟨⟨bV (eE (a:=iV) (by simp) e0) (eE (a:=iL) (by simp) e1),bV rfl rfl,bV (dp (a:=iN) (by simp) e4) (dp (a:=iO) (by simp) e5),bV (dp (a:=iM) (by simp) e2) (dp (a:=i8) (by simp) e3),fun _ _ _ _=>rfl,fun s hs P=>⟨fun h=>(by cases h),fun h=>h.elim⟩,fun _ _ _ _=>rfl⟩,fun _ _=>rfl,fun _ _ y hy=>(by cases hy),bV ?_ ?_,bV ?_ ?_,bV ?_ ?_,fun _ _ P hP=>(by cases hP),fun _ _ P hP=>(by cases hP),bV (fun P=>Int.le_refl _) (fun P=>Int.le_refl _),bV (Int.le_refl _) (Int.le_refl _),bV (Int.le_refl _) (Int.le_refl _)⟩,
  fun a o e=>?_,keep (by simp) (SJ a1 a2 a4 a5 a7 a8) e6,keep (by simp) (SJ (Ne.symm b2) (Ne.symm c1) d1 d2 d4 d5) e7,keep (by simp) (SJ (Ne.symm b5) (Ne.symm c4) (Ne.symm f2) (Ne.symm g1) h1 h2) e8,keep (by simp) (SJ (Ne.symm b8) (Ne.symm c7) (Ne.symm f5) (Ne.symm g4) (Ne.symm i2) (Ne.symm j1)) e9,?_⟩
 ·exact if_pos rfl
 ·show (if iL=iV then 0 else if iL=iL then 1 else _)=1
  rw [if_neg (Ne.symm b1),if_pos rfl]
 ·show (if iN=iV then 0 else if iN=iL then 1 else if iN=iN then 2 else _)=2
  rw [if_neg (Ne.symm b6),if_neg (Ne.symm c5),if_pos rfl]
 ·show (if iO=iV then 0 else if iO=iL then 1 else if iO=iN then 2 else if iO=iO then 3 else _)=3
  rw [if_neg (Ne.symm b7),if_neg (Ne.symm c6),if_neg (Ne.symm i1),if_pos rfl]
 ·show (if iM=iV then 0 else if iM=iL then 1 else if iM=iN then 2 else if iM=iO then 3 else if iM=iM then 4 else 5)=4
  rw [if_neg (Ne.symm b3),if_neg (Ne.symm c2),if_neg f3,if_neg f4,if_pos rfl]
 ·show (if i8=iV then 0 else if i8=iL then 1 else if i8=iN then 2 else if i8=iO then 3 else if i8=iM then 4 else 5)=5
  rw [if_neg (Ne.symm b4),if_neg (Ne.symm c3),if_neg g2,if_neg g3,if_neg (Ne.symm f1)]
 ·have h5:=s35 _ _ e
  have hE:=c.sm _ _ h5
  refine yes a o (SI fun h=>?_) (zr (fun h=>?_) (sm hE)) (QV _ _ hE)
  ·have:=c.no a (sub h);rw [h5] at this;cases this
  ·have:=z3 a h;rw [e] at this;cases this
 ·refine yes cL _ (SI fun h=>?_) ?_ cLT
  ·exact (up (Yy.trans Rv) (c.ne cL (sub h))) Vn
  ·exact sR (off aCm Vn) (fun j hj=>Ne.symm (ne (G:=MK) (up Rv (Vp j hj)) Vn)) (fun j hj=>Ne.symm (ne (G:=MK) (sm (KA.em j hj)) Vn)) (fun i hi=>absurd hi (Nat.not_lt_zero _))
end
end K31
namespace K31
open PySem L2 PyProof.Rows
section
variable {P:Program} {w:World} {K:PySem.W.Frag} {mg:Str→Option Value} {base:Heap} {t:Ad}
structure Sq (T:Int) (L:Lk):Prop where
 d:L.d=T
 ev:L.ev=[]
 ok:ux L
 b0:0≤L.b
 b1:L.b≤T+1
theorem Pp (L:Lk):(bH L).ev.length≤L.ev.length+1:=by
 unfold bH
 split
 ·unfold iG
  cases L.p with
  | none=>exact Nat.le_succ _
  | some p=>show (L.ev ++ [_]).length≤_;rw [List.length_append];exact Nat.le_refl _
 ·exact Nat.le_succ _
theorem Sq.tick {T:Int} {L:Lk} {bs:List Cl} (h:Sq T L) (hb:∀ a ∈ bs,Dj a.b):Sq (T+1) (bI L bs)∧(dR L bs).ev.length≤3 * bs.length+1:=by
 have h1:=sN bs L h.ok hb
 have h2:ux (iH (ak L bs) bs):=⟨h1.k,h1.o,h1.t,h1.p⟩
 have h3:=IB h2
 obtain ⟨b1,b2⟩:=AY L bs
 have b0':=h.b0
 have b1':=h.b1
 have eb:(iH (ak L bs) bs).b=L.b:=b1
 have q:=II (iH (ak L bs) bs)
 have bb:(bI L bs).b=(bH (iH (ak L bs) bs)).b:=rfl
 refine ⟨⟨?_,rfl,⟨h3.k,h3.o,h3.t,h3.p⟩,?_,?_⟩,?_⟩
 ·show (dR L bs).d=_
  rw [(Pf L bs).1,h.d]
 ·rw [bb];omega
 ·rw [bb];omega
 ·have:=Pp (iH (ak L bs) bs)
  have e:(iH (ak L bs) bs).ev=(ak L bs).ev:=rfl
  rw [e] at this
  rw [h.ev] at b2
  have e2:(dR L bs).ev=(bH (iH (ak L bs) bs)).ev:=rfl
  rw [e2]
  have:([]:List Ev).length=0:=rfl
  omega
theorem Sq.put {T:Int} {L:Lk} {gh:List (List Int)} (h:Sq T L) (hx:∀ xs ∈ gh,IC xs):Sq T { L with bS:=L.bS ++ gh } :=
 ⟨h.d,h.ev,⟨h.ok.k,h.ok.o,h.ok.t,fun xs hxs=>(List.mem_append.mp hxs).elim (h.ok.p xs) fun y=>⟨(hx xs y).1.2,(hx xs y).2⟩⟩,h.b0,h.b1⟩
structure w8 (K:PySem.W.Frag) (B:Hp) (sc nl ma eL sL pl tl cL:Addr) (ns:List Int) (n0 n1 n2 n3 a b:Int) (x D sa pd td:Nat→Addr):Prop where
 sc:aX K B sc (ns.map V.int)
 nl:B nl=some (.lst [.int n0,.int n1,.int n2,.int n3])
 ma:B ma=some (.tup [.int a,.int b])
 eL:B eL=some (.lst [.ref (x 0),.ref (x 1)])
 sL:B sL=some (.lst [.ref (sa 0),.ref (sa 1)])
 pl:B pl=some (.lst [.ref (pd 0),.ref (pd 1)])
 tl:B tl=some (.lst [.ref (td 0),.ref (td 1)])
 cL:B cL=some (.lst [.ref (D 0),.ref (D 1)])
theorem w8.same {K:PySem.W.Frag} {B B':Hp} {sc nl ma eL sL pl tl cL:Addr} {ns:List Int} {n0 n1 n2 n3 a b:Int} {x D sa pd td:Nat→Addr} (h:w8 K B sc nl ma eL sL pl tl cL ns n0 n1 n2 n3 a b x D sa pd td) (s:aI B B'):w8 K B' sc nl ma eL sL pl tl cL ns n0 n1 n2 n3 a b x D sa pd td :=
 ⟨s.seq h.sc,s _ _ h.nl,s _ _ h.ma,s _ _ h.eL,s _ _ h.sL,s _ _ h.pl,s _ _ h.tl,s _ _ h.cL⟩
theorem Pq {xs:List V} {lo:Nat} (h:lo≤xs.length):fc xs (some (lo:Int)) none=xs.drop lo:=by
 unfold fc
 rw [HT.iu,HT.vh,Nat.min_eq_left h,List.take_of_length_le (by rw [List.length_drop];exact Nat.le_refl _)]
end
end K31
namespace K31
open PySem L2 PyProof.Rows
section
variable {P:Program} {w:World} {K:PySem.W.Frag} {mg:Str→Option Value} {base:Heap} {t:Ad}
theorem dJ:aQ ["script","numbers","measure","ticks","doubled","ends","states","put","took","coming","tick","cell","drawn","side","given","fate"] ["script"] (aH wC):=⟨rfl,rfl,rfl,by decide +kernel,rfl,by decide +kernel,by decide +kernel⟩
set_option maxHeartbeats 0 in
theorem Vr {f:Addr} {fd fdi fdt fde:FuncData} (T:Txt K mg t) (F:kL K "law" "law" wC f fd) (kH:Def P w K mg base 1 "_law_cell" ["script","k"] (sU K)) (gI:Def P w K mg base 1 "_law_numbers" ["cell","many"] nO) (jY:Def P w K mg base 1 "_law_measure" ["number"] nN) (oU:Def P w K mg base 2 "_law_fate" ["number","late"] (sO K)) (oV:Def P w K mg base 1 "_law_dead" ["numbers","side","tick"] (sV K))
  (oW:Def P w K mg base 2 "_law_give" ["coming","cell","fate","tick","births"] (sP K IG)) (eQ:Def P w K mg base 10 "_law_events_right" ["events","state","side","took"] (iJ K)) (qf:Def P w K mg base 10 "_law_put" ["end","state","side","put","numbers"] (uz K t.LinkEnd)) (fI:Def P w K mg base 10 "_law_pairs_right" ["ends","states","put","took"] (iq K t.LinkEnd))
  (Aj:bZ P w K mg base (i9 P w) 4 t.init fdi ["self","measure","side"] (Ln K t.LinkEnd)) (Ak:Binds K fdi ["self","measure","side"] []) (KC:bZ P w K mg base (i9 P w) 9 t.wD fdt ["self","cells"] (Lm t.LinkEnd)) (KD:Binds K fdt ["self","cells"] []) (xA:bZ P w K mg base (i9 P w) 1 t.n6 fde ["self"] (zS t.LinkEnd)) (xB:Binds K fde ["self"] []):bZ P w K mg base (i9 P w) 13 f fd ["script"] (yy K):=by
 refine F.ok1 dJ (fun vs H Q E h=>?_) (fun f bo A outer s H vs Q E hr h=>?_)
 ·obtain ⟨a,ns,rfl,_⟩:=h
  rfl
 ·obtain ⟨sc,ns,rfl,hS,hlen,q⟩:=h
  refine ⟨_,aC (aT (i:=1) dJ.nd rfl (Or.inl rfl) (aZ (gI.mono (by decide)) hr ar (aA (aZ (kH.mono (by decide)) hr ar (aA (pv 0) (aA aF aE))) (aA aF aE))))
   (aC (aT (i:=2) dJ.nd rfl (Or.inl rfl) (aZ (jY.mono (by decide)) hr ar (aA (aR (aM K) (pv 1) aF (fun _ _=>rfl)) aE)))
   (aC (aT (i:=3) dJ.nd rfl (Or.inl rfl) (aN bA aF (bP (L9 rfl) (by rfl) T.YF boot_min (aA aF (aA (bP (bQ K) (by rfl) T.iE boot_len (aA (pv 0) aE)) aE)))))
   (aC (aT (i:=4) dJ.nd rfl (Or.inl rfl) (pM jL (aN aw (aN cW (aR (aM K) (pv 1) aF (fun _ _=>rfl)) aF) aF) aF (aj _)))
   (aC (tL (bD (jH (pv 4))
    (aG (aT (i:=2) dJ.nd rfl (Or.inl rfl) (bB (aA (aN bA aF (aN aw (aR (aM K) (pv 1) aF (fun _ _=>rfl)) aF)) (aA aF aE)))))
    (af)))
   (aC (aT (i:=5) dJ.nd rfl (Or.inl rfl) (bF (aA (K3 T.HQ (Aj.mono (by decide)) hr (by rfl) T.HM Ak .nil ar (aA (pv 2) (aA aF aE))) (aA (K3 T.HQ (Aj.mono (by decide)) hr (by rfl) T.HM Ak .nil ar (aA (pv 2) (aA aF aE))) aE))))
   (aC (aT (i:=6) dJ.nd rfl (Or.inl rfl) (bF (aA (bF (aA cK (aA cK aE))) (aA (bF (aA cK (aA cK aE))) aE))))
   (aC (aT (i:=7) dJ.nd rfl (Or.inl rfl) (bF (aA rk (aA rk aE))))
   (aC (aT (i:=8) dJ.nd rfl (Or.inl rfl) (bF (aA rk (aA rk aE))))
   (aC (aT (i:=9) dJ.nd rfl (Or.inl rfl) (bF (aA (lE rfl (Nc:=["k"]) (ix:=[none]) (dF (aH wC) ["script","numbers","measure","ticks","doubled","ends","states","put","took","coming","tick","cell","drawn","side","given","fate"] rfl rfl (by decide +kernel)) (cw (by rfl) T.dg (aA (aN bA (pv 3) aF) aE)) (fun C fp s H=>⟨(az (i:=0) (show (["k"]:List Str).Nodup by decide +kernel) rfl (Or.inl rfl)),cX,(bF aE)⟩)) (aA (lE rfl (Nc:=["k"]) (ix:=[none]) (dF (aH wC) ["script","numbers","measure","ticks","doubled","ends","states","put","took","coming","tick","cell","drawn","side","given","fate"] rfl rfl (by decide +kernel)) (cw (by rfl) T.dg (aA (aN bA (pv 3) aF) aE)) (fun C fp s H=>⟨(az (i:=0) (show (["k"]:List Str).Nodup by decide +kernel) rfl (Or.inl rfl)),cX,(bF aE)⟩)) aE))))
   (aC (PS.uX (dD PassesOwn.never rfl (cw (by rfl) T.dg (aA (pv 3) aE)) (az (i:=10) dJ.nd rfl (Or.inl rfl))
    (aC (aT (i:=11) dJ.nd rfl (Or.inl rfl) (aN bA (aZ (kH.mono (by decide)) hr ar (aA (pv 0) (aA (aN bA aF (aN aw (pv 10) (bP (yn rfl) (by rfl) T.Tb boot_max (aA aF (aA (bP (bQ K) (by rfl) T.iE boot_len (aA (pv 0) aE)) aE))))) aE))) (aN cW (pv 10) (bP (yn rfl) (by rfl) T.Tb boot_max (aA aF (aA (bP (bQ K) (by rfl) T.iE boot_len (aA (pv 0) aE)) aE))))))
    (aC (aT (i:=12) dJ.nd rfl (Or.inl rfl) (aZ (gI.mono (by decide)) hr ar (aA (pv 11) (aA aF aE))))
    (aC (dD PassesOwn.never rfl (cw (by rfl) T.dg (aA aF aE)) (az (i:=13) dJ.nd rfl (Or.inl rfl))
     (aC (aT (i:=14) dJ.nd rfl (Or.inl rfl) (pN (aR (aM K) (pv 5) (pv 13) (fun _ _=>rfl)) T.aJ T.RS (KC.mono (by decide)) hr KD .nil ar (aA (lE rfl (Nc:=["row"]) (ix:=[none]) (dF (aH wC) ["script","numbers","measure","ticks","doubled","ends","states","put","took","coming","tick","cell","drawn","side","given","fate"] rfl rfl (by decide +kernel)) (cN K (aR (aM K) (aR (aM K) (pv 9) (pv 13) (fun _ _=>rfl)) (pv 10) (fun _ _=>rfl))) (fun C fp s H=>⟨(az (i:=0) (show (["row"]:List Str).Nodup by decide +kernel) rfl (Or.inl rfl)),cX,(aR (bj K) (pv 0) aF (fun _ _=>rfl))⟩)) aE)))
     (aC (bD (kJ (jH (aZ (eQ.mono (by decide)) hr ar (aA (dh (aR (aM K) (pv 5) (pv 13) (fun _ _=>rfl)) T.aJ T.Mp (xA.mono (by decide)) hr xB .nil ar) (aA (aR (aM K) (pv 6) (pv 13) (fun _ _=>rfl)) (aA (pv 13) (aA (pv 8) aE)))))))
      (aG (aV lC))
      (af))
     (aC (tL (bD (kJ (jH (aZ (qf.mono (by decide)) hr ar (aA (aR (aM K) (pv 5) (pv 13) (fun _ _=>rfl)) (aA (aR (aM K) (pv 6) (pv 13) (fun _ _=>rfl)) (aA (pv 13) (aA (pv 7) (aA (iB (iC K) (pv 12) (fb (aN bA aF (pv 13))) rV) aE))))))))
      (aG (aV lC))
      (af)))
     (aC (aT (i:=15) dJ.nd rfl (Or.inl rfl) (aZ (oU.mono (by decide)) hr ar (aA (aR (aM K) (pv 12) (pv 13) (fun _ _=>rfl)) (aA (aR (bj K) (pv 2) aF (fun _ _=>rfl)) aE))))
     (aC (tL (bD (jH (pv 4))
      (aG (aT (i:=15) dJ.nd rfl (Or.inl rfl) (bB (aA (bB (aA aF (aA (bB aE) aE))) (aA (bB (aA (aR (bj K) (pv 2) aF (fun _ _=>rfl)) (aA (bB aE) aE))) aE)))))
      (aG (bD (jH (aZ (oV.mono (by decide)) hr ar (aA (pv 1) (aA (pv 13) (aA (pv 10) aE)))))
       (aG (aT (i:=15) dJ.nd rfl (Or.inl rfl) (bB aE)))
       (af)))))
     (aG (ax (aZ (oW.mono (by decide)) hr ar (aA (aR (aM K) (pv 9) (aN jK aF (pv 13)) (fun _ _=>rfl)) (aA (pv 14) (aA (pv 15) (aA (pv 10) (aA cK aE))))))))))))))
    (aG (bD (kJ (jH (aZ (fI.mono (by decide)) hr ar (aA (pv 5) (aA (pv 6) (aA (pv 7) (aA (pv 8) aE)))))))
     (aG (aV lC))
     (af))))))))
   (aG (aV lC)))))))))))),?_⟩
  have hsz:(1000001:Nat)≤sizeLine:=by decide
  refine ⟨_,rfl,sc,ns,0,rfl,hS,by decide,fun c=>?_⟩
  refine ⟨c,4,rfl,by decide,fun nl H1 ns1 s1 nn1 e1 hl1 hn1=>?_⟩
  obtain ⟨n0,n1,n2,n3,rfl⟩:∃ n0 n1 n2 n3,ns1=[n0,n1,n2,n3]:=by
   match ns1,hl1 with
   | [n0,n1,n2,n3],_=>exact ⟨n0,n1,n2,n3,rfl⟩
  have hn0:0≤n0:=hn1 n0 List.mem_cons_self
  refine ⟨_,rfl,nl,_,_,_,rfl,rfl,aX.of e1,rfl,n0,rfl,hn0,fun Yz a0 b0 hm0 aCp=>?_⟩
  have s2:aI H1 (upd H1 Yz (.tup [.int a0,.int b0])):=(aI.refl _).new aCp
  have e2:(upd H1 Yz (.tup [.int a0,.int b0])) Yz=some (.tup [.int a0,.int b0]):=aB
  generalize upd H1 Yz (.tup [.int a0,.int b0])=H2 at *
  refine ⟨_,rfl,sc,_,rfl,.inl ((s1.trans s2).seq hS),_,_,rfl,_,_,rfl,rfl,?_⟩
  obtain ⟨tk,htk,aGK⟩:∃ tk:Nat,(20:Int)+(if ((ns.map V.int).length:Int) < 24 then ((ns.map V.int).length:Int) else 24)=(tk:Int)∧tk≤62:=by
   by_cases z:((ns.map V.int).length:Int) < 24
   ·rw [if_pos z]
    exact ⟨20+(ns.map V.int).length,by omega,by omega⟩
   ·rw [if_neg z]
    exact ⟨44,rfl,by decide⟩
  dsimp only
  rw [htk]
  refine ⟨_,rfl,nl,_,_,_,rfl,rfl,aX.of (s2 _ _ e1),rfl,_,_,rfl,rfl,⟨by decide,by decide⟩,_,_,rfl,rfl,(by show (0:Int) < 8;decide),rfl,?_⟩
  generalize decide (V.int (n3 / 18 % 8)=V.int 5)=db
  refine ⟨fun σ H'=>∃ (ma:Addr) (a b:Int),σ=[some (.ref sc),some (.ref nl),some (.ref ma),some (.int (tk:Int)),some (.bl db),none,none,none,none,none,none,none,none,none,none,none]∧aI H2 H'∧YM a b∧H' ma=some (.tup [.int a,.int b]),?_,?_⟩
  ·refine ⟨_,rfl,_,rfl,?_⟩
   cases db with
   | false=>exact di ⟨Yz,a0,b0,rfl,aI.refl _,hm0,e2⟩
   | true =>
    refine fe ?_
    refine ⟨_,rfl,nl,_,_,_,rfl,rfl,aX.of (s2 _ _ e1),rfl,_,_,rfl,rfl,(by show (0:Int) < 4;decide),_,_,rfl,rfl,by show 2≤sizeLine;decide,fun ma hma=>?_⟩
    exact ⟨ma,3+n0 % 4,0,rfl,(aI.refl _).new hma,⟨by omega,by omega⟩,aB⟩
  rintro σ H3 ⟨ma,a,b,rfl,s3,hm,e3⟩
  have s03:=s1.trans (s2.trans s3)
  have en3:=(s2.trans s3) _ _ e1
  have Di:1≤a∧a≤6:=hm.1
  have WT:0≤b∧b≤4:=hm.2
  refine ⟨_,rfl,fun x0 Y0 WV aCq nx0=>?_⟩
  have sI0:aI H3 (upd (upd H3 Y0 (.own x0)) x0 (.ins t.LinkEnd Y0 [])):=((aI.refl _).new aCq).new (by rw [aD (Ne.symm nx0)];exact WV)
  refine ⟨wy (upd (upd H3 Y0 (.own x0)) x0 (.ins t.LinkEnd Y0 [])) x0,x0,Y0,ma,a,b,0,rfl,aB,bw.of (sI0 _ _ e3),hm,wz,if_pos rfl,fun t0 p0 H4 fr4 g4 nt0 np0 NL=>⟨rfl,?_⟩⟩
  have s4:aI H3 H4:=fun y o e=>fr4 y o (aK e WV) (sI0 _ _ e)
  have aCr:H3 t0=none:=sI0.free nt0
  have aCs:H3 p0=none:=sI0.free np0
  have e4:=s4 _ _ e3
  refine ⟨_,rfl,fun x1 wb xw aCt nx1=>?_⟩
  have sI1:aI H4 (upd (upd H4 wb (.own x1)) x1 (.ins t.LinkEnd wb [])):=((aI.refl _).new aCt).new (by rw [aD (Ne.symm nx1)];exact xw)
  refine ⟨wy (upd (upd H4 wb (.own x1)) x1 (.ins t.LinkEnd wb [])) x1,x1,wb,ma,a,b,1,rfl,aB,bw.of (sI1 _ _ e4),hm,wz,if_pos rfl,fun t1 p1 H5 UD g5 nt1 np1 Vs=>⟨rfl,?_⟩⟩
  have s5:aI H4 H5:=fun y o e=>UD y o (aK e xw) (sI1 _ _ e)
  have SK:H4 t1=none:=sI1.free nt1
  have SM:H4 p1=none:=sI1.free np1
  have SN:=NL.same s5
  have ne:∀ {G:Hp} {a b:Addr},G a≠none→G b=none→a≠b:=fun {G a b} h1 h2 z=>h1 (by rw [z];exact h2)
  have nd6:[x0,x1,t0,t1,p0,p1].Nodup:=by
   simp only [List.nodup_cons,List.mem_cons,List.not_mem_nil,or_false,not_or,List.nodup_nil,and_true,not_false_eq_true]
   exact ⟨⟨ne NL.hx xw,NL.xt,ne NL.hx SK,NL.xp,ne NL.hx SM⟩,⟨Ne.symm (ne NL.ht xw),Vs.xt,Ne.symm (ne NL.hp xw),Vs.xp⟩,⟨ne NL.ht SK,NL.ne,ne NL.ht SM⟩,⟨Ne.symm (ne NL.hp SK),Vs.ne⟩,ne NL.hp SM⟩
  have Yx:∀ a,a ∈ [x0,x1,t0,t1,p0,p1]→H5 a≠none:=by
   intro a ha
   simp only [List.mem_cons,List.not_mem_nil,or_false] at ha
   rcases ha with rfl | rfl | rfl | rfl | rfl | rfl
   ·exact SN.hx
   ·exact Vs.hx
   ·exact SN.ht
   ·exact Vs.ht
   ·exact SN.hp
   ·exact Vs.hp
  have z3:∀ a,a ∈ [x0,x1,t0,t1,p0,p1]→H3 a=none:=by
   intro a ha
   simp only [List.mem_cons,List.not_mem_nil,or_false] at ha
   rcases ha with rfl | rfl | rfl | rfl | rfl | rfl
   ·exact WV
   ·exact s4.free xw
   ·exact aCr
   ·exact s4.free SK
   ·exact aCs
   ·exact s4.free SM
  refine ⟨by show 2≤sizeLine;decide,fun eL Yu=>?_⟩
  have SeL:aI H5 (upd H5 eL (.lst [.ref x0,.ref x1])):=(aI.refl _).new Yu
  have EeL:(upd H5 eL (.lst [.ref x0,.ref x1])) eL=some (.lst [.ref x0,.ref x1]):=aB
  generalize upd H5 eL (.lst [.ref x0,.ref x1])=H6 at *
  refine ⟨by show 2≤sizeLine;decide,fun iV Y1=>?_⟩
  have Y2:aI H6 (upd H6 iV (.lst [.bJ,.bJ])):=(aI.refl _).new Y1
  have Y3:(upd H6 iV (.lst [.bJ,.bJ])) iV=some (.lst [.bJ,.bJ]):=aB
  generalize upd H6 iV (.lst [.bJ,.bJ])=H7 at *
  refine ⟨by show 2≤sizeLine;decide,fun iL Y4=>?_⟩
  have Vt:aI H7 (upd H7 iL (.lst [.bJ,.bJ])):=(aI.refl _).new Y4
  have Y5:(upd H7 iL (.lst [.bJ,.bJ])) iL=some (.lst [.bJ,.bJ]):=aB
  generalize upd H7 iL (.lst [.bJ,.bJ])=H8 at *
  refine ⟨by show 2≤sizeLine;decide,fun sL hsL=>?_⟩
  have SsL:aI H8 (upd H8 sL (.lst [.ref iV,.ref iL])):=(aI.refl _).new hsL
  have EsL:(upd H8 sL (.lst [.ref iV,.ref iL])) sL=some (.lst [.ref iV,.ref iL]):=aB
  generalize upd H8 sL (.lst [.ref iV,.ref iL])=H9 at *
  refine fun iM Y6=>?_
  have Pt:aI H9 (upd H9 iM (.dT [])):=(aI.refl _).new Y6
  have Y7:(upd H9 iM (.dT [])) iM=some (.dT []):=aB
  generalize upd H9 iM (.dT [])=Ha at *
  refine fun i8 Y8=>?_
  have NM:aI Ha (upd Ha i8 (.dT [])):=(aI.refl _).new Y8
  have Y9:(upd Ha i8 (.dT [])) i8=some (.dT []):=aB
  generalize upd Ha i8 (.dT [])=Hb at *
  refine ⟨by show 2≤sizeLine;decide,fun pl kK=>?_⟩
  have Vu:aI Hb (upd Hb pl (.lst [.ref iM,.ref i8])):=(aI.refl _).new kK
  have Epl:(upd Hb pl (.lst [.ref iM,.ref i8])) pl=some (.lst [.ref iM,.ref i8]):=aB
  generalize upd Hb pl (.lst [.ref iM,.ref i8])=Hc at *
  refine fun iN ZA=>?_
  have IS:aI Hc (upd Hc iN (.dT [])):=(aI.refl _).new ZA
  have ZC:(upd Hc iN (.dT [])) iN=some (.dT []):=aB
  generalize upd Hc iN (.dT [])=Hd at *
  refine fun iO ZD=>?_
  have Al:aI Hd (upd Hd iO (.dT [])):=(aI.refl _).new ZD
  have ZE:(upd Hd iO (.dT [])) iO=some (.dT []):=aB
  generalize upd Hd iO (.dT [])=Hf at *
  refine ⟨by show 2≤sizeLine;decide,fun tl Np=>?_⟩
  have QW:aI Hf (upd Hf tl (.lst [.ref iN,.ref iO])):=(aI.refl _).new Np
  have Etl:(upd Hf tl (.lst [.ref iN,.ref iO])) tl=some (.lst [.ref iN,.ref iO]):=aB
  generalize upd Hf tl (.lst [.ref iN,.ref iO])=He at *
  have sm:∀ {G:Hp} {a:Addr} {o:HO},G a=some o→G a≠none:=fun {G a o} e z=>by rw [e] at z;cases z
  have chn:yF H5 He [eL,iV,iL,sL,iM,i8,pl,iN,iO,tl]:=yF.cons SeL Yu (sm EeL) (yF.cons Y2 Y1 (sm Y3) (yF.cons Vt Y4 (sm Y5) (yF.cons SsL hsL (sm EsL) (yF.cons Pt Y6 (sm Y7) (yF.cons NM Y8 (sm Y9) (yF.cons Vu kK (sm Epl) (yF.cons IS ZA (sm ZC) (yF.cons Al ZD (sm ZE) (yF.cons QW Np (sm Etl) yF.nil)))))))))
  refine ⟨_,rfl,_,_,rfl,rfl,(tk:Int)+7,rfl,by omega,by omega,fun D0 hD0=>?_⟩
  rw [show ((tk:Int)+7).toNat=tk+7 by omega]
  refine lH (lo:=0) (n:=tk+7) (fun i σ H'=>(∃ v,σ=[v])∧∃ sl,Vc He H' D0 sl i) ⟨⟨none,rfl⟩,fun _=>0,(aI.refl _).new hD0,hD0,aB,fun j hj=>absurd hj (Nat.not_lt_zero _),fun j hj=>absurd hj (Nat.not_lt_zero _),fun j hj=>absurd hj (Nat.not_lt_zero _),fun i j hi=>absurd hi (Nat.not_lt_zero _)⟩ ?_ ?_
  ·rintro i σ H' N hN hi ⟨⟨v,rfl⟩,sl,he⟩
   refine df ?_
   refine ⟨by show 0≤sizeLine;decide,fun p hp=>⟨_,by rw [aD (aK he.at_ hp)];exact he.at_,by rw [aL];omega,hN _ _ ⟨⟨_,rfl⟩,_,he.step hp⟩⟩⟩
  rintro σ OK ⟨⟨v,rfl⟩,Iw,NK⟩
  refine ⟨_,rfl,_,_,rfl,rfl,(tk:Int)+7,rfl,by omega,by omega,fun D1 hD1=>?_⟩
  rw [show ((tk:Int)+7).toNat=tk+7 by omega]
  refine lH (lo:=0) (n:=tk+7) (fun i σ H'=>(∃ v,σ=[v])∧∃ sl,Vc OK H' D1 sl i) ⟨⟨none,rfl⟩,fun _=>0,(aI.refl _).new hD1,hD1,aB,fun j hj=>absurd hj (Nat.not_lt_zero _),fun j hj=>absurd hj (Nat.not_lt_zero _),fun j hj=>absurd hj (Nat.not_lt_zero _),fun i j hi=>absurd hi (Nat.not_lt_zero _)⟩ ?_ ?_
  ·rintro i σ H' N hN hi ⟨⟨v,rfl⟩,sl,he⟩
   refine df ?_
   refine ⟨by show 0≤sizeLine;decide,fun p hp=>⟨_,by rw [aD (aK he.at_ hp)];exact he.at_,by rw [aL];omega,hN _ _ ⟨⟨_,rfl⟩,_,he.step hp⟩⟩⟩
  rintro σ MK ⟨⟨v,rfl⟩,J9,KA⟩
  refine ⟨by show 2≤sizeLine;decide,fun cL Vn=>?_⟩
  obtain ⟨B,Eo,τ,ρ,st0,bl0,ZF,aCu,aCv,aCw,aCx,aCy⟩:=SH (C:=t.LinkEnd) (q:=a+b) (s4.trans s5) nd6 Yx z3 (bV ⟨_,SN⟩ ⟨_,Vs⟩) chn ((Vt.trans (SsL.trans (Pt.trans (NM.trans (Vu.trans (IS.trans (Al.trans (QW)))))))) _ _ Y3) ((SsL.trans (Pt.trans (NM.trans (Vu.trans (IS.trans (Al.trans (QW))))))) _ _ Y5) ((NM.trans (Vu.trans (IS.trans (Al.trans (QW))))) _ _ Y7) ((Vu.trans (IS.trans (Al.trans (QW)))) _ _ Y9) ((Al.trans (QW)) _ _ ZC) ((QW) _ _ ZE) ((Y2.trans (Vt.trans (SsL.trans (Pt.trans (NM.trans (Vu.trans (IS.trans (Al.trans (QW))))))))) _ _ EeL) ((Pt.trans (NM.trans (Vu.trans (IS.trans (Al.trans (QW)))))) _ _ EsL) ((IS.trans (Al.trans (QW))) _ _ Epl) (Etl) NK KA Vn
  have fx0:w8 K B sc nl ma eL sL pl tl cL ns n0 n1 n2 n3 a b (av x0 x1) (av D0 D1) (av iV iL) (av iM i8) (av iN iO):=by
   refine ⟨?_,ZF _ _ en3,ZF _ _ e3,aCu,aCv,aCw,aCx,aCy⟩
   have h3:=s03.seq hS
   rcases h3 with (h3 | ⟨u,h3⟩) | h3
   ·exact .inl (.inl (ZF _ _ h3))
   ·exact .inl (.inr ⟨u,ZF _ _ h3⟩)
   ·exact .inr h3
  generalize upd MK cL (.lst [.ref D0,.ref D1])=H12 at *
  clear chn ZF z3 Yx nd6
  have sq0:∀ q s:Int,Sq 0 (vG q s):=fun q s=>⟨rfl,rfl,⟨VQ,M7,M7,fun xs h=>(by cases h)⟩,(by show (0:Int)≤1;decide),(by show (1:Int)≤0+1;decide)⟩
  refine ⟨_,rfl,(tk:Int),rfl,by omega,by omega,?_⟩
  rw [Int.toNat_natCast]
  refine fT (lo:=0) (n:=tk) (fun T σ H'=>∃ (B E:Hp) (tA pA:Nat→Addr) (L:Nat→Lk) (rows:Nat→Nat→List Rw) (ρ τ:Addr→Nat) (G:Gh) (sv lv:Nat→V) (ps qs:Nat→List Pr) (la lb:Nat→Pr→Addr) (l:Nat→Option Pr) (v10 v11 v12 Tp Tq SO:Option V),σ=[some (.ref sc),some (.ref nl),some (.ref ma),some (.int (tk:Int)),some (.bl db),some (.ref eL),some (.ref sL),some (.ref pl),some (.ref tl),some (.ref cL),v10,v11,v12,Tp,Tq,SO]∧w8 K B sc nl ma eL sL pl tl cL ns n0 n1 n2 n3 a b (av x0 x1) (av D0 D1) (av iV iL) (av iM i8) (av iN iO)∧Sx IG t.LinkEnd B H' E (tk+7) (av x0 x1) tA pA (av D0 D1) (av Iw J9) L rows ρ∧Bl B E L G (av iV iL) (av iM i8) (av iN iO) sv lv ps qs la lb τ l∧vW a G L rows∧(∀ s,s < 2→Sq (T:Int) (L s))∧∀ s j,(rows s j).length≤3 * T)
   ⟨B,Eo,_,_,_,_,ρ,τ,G0,_,_,_,_,_,_,_,none,none,none,none,none,none,rfl,fx0,st0,bl0,vW.start,bV (sq0 _ _) (sq0 _ _),fun s j=>Nat.le_refl _⟩ ?_ ?_
  ·rintro T σ H13 hT ⟨B,E,tA,pA,L,rows,ρ,τ,G,sv,lv,ps,qs,la,lb,l,v10,v11,v12,Tp,Tq,SO,rfl,fx,st,bl,pc,sq,rl⟩
   rw [show (0:Int)+(T:Nat)=(T:Int) by omega]
   have JP:=st.sb.seq fx.sc
   have mx0:0 < (if ((ns.map V.int).length:Int) > 1 then ((ns.map V.int).length:Int) else 1):=by split <;> omega
   have mx1:(if ((ns.map V.int).length:Int) > 1 then ((ns.map V.int).length:Int) else 1) < 1073741824:=by rw [List.length_map];split <;> omega
   refine ⟨_,rfl,_,rfl,_,rfl,sc,_,rfl,.inl JP,_,_,rfl,_,_,rfl,rfl,mx0,_,_,rfl,rfl,sc,ns,_,rfl,JP,?_,fun c2=>?_⟩
   ·have:=Int.emod_nonneg (T:Int) (show (if ((ns.map V.int).length:Int) > 1 then ((ns.map V.int).length:Int) else 1)≠0 by omega)
    show 0≤1+(T:Int) % (if ((ns.map V.int).length:Int) > 1 then ((ns.map V.int).length:Int) else 1)
    omega
   refine ⟨_,rfl,_,rfl,sc,_,rfl,.inl JP,_,_,rfl,_,_,rfl,rfl,⟨mx0,mx1⟩,_,_,rfl,rfl,?_⟩
   refine ⟨_,rfl,_,18,rfl,by decide,fun dl H14 ds s14 aC0 e14 aHa ZG=>?_⟩
   obtain ⟨ZH,ZI⟩:=st.grow dr s14 aC0 e14
   refine ⟨2,rfl,by decide,by decide,?_⟩
   generalize some (V.int (c2+(T:Int) / (if ((ns.map V.int).length:Int) > 1 then ((ns.map V.int).length:Int) else 1)))=Vv
   refine fT (lo:=0) (n:=2) (fun sd σ H'=>∃ (B E:Hp) (tA pA:Nat→Addr) (L:Nat→Lk) (rows:Nat→Nat→List Rw) (ρ τ:Addr→Nat) (G:Gh) (sv lv:Nat→V) (ps qs:Nat→List Pr) (la lb:Nat→Pr→Addr) (l:Nat→Option Pr) (Tp Tq SO:Option V),σ=[some (.ref sc),some (.ref nl),some (.ref ma),some (.int (tk:Int)),some (.bl db),some (.ref eL),some (.ref sL),some (.ref pl),some (.ref tl),some (.ref cL),some (.int (T:Int)),Vv,some (.ref dl),Tp,Tq,SO]∧w8 K B sc nl ma eL sL pl tl cL ns n0 n1 n2 n3 a b (av x0 x1) (av D0 D1) (av iV iL) (av iM i8) (av iN iO)∧B dl=some (.lst (ds.map V.int))∧Sx IG t.LinkEnd B H' E (tk+7) (av x0 x1) tA pA (av D0 D1) (av Iw J9) L rows ρ∧Bl B E L G (av iV iL) (av iM i8) (av iN iO) sv lv ps qs la lb τ l∧vW a G L rows∧(∀ s,s < 2→Sq ((if s < sd then T+1 else T:Nat):Int) (L s))∧∀ s j,(rows s j).length≤3 * T+(if s=1∧0 < sd∨s=0∧1 < sd then 3 else 0))
    ?_ ?_ ?_
   ·refine ⟨_,E,tA,pA,L,rows,ρ,τ,G,sv,lv,ps,qs,la,lb,l,Tp,Tq,SO,rfl,fx.same ZI,aB,ZH,bl.QU ZI ZH.eb,pc,fun s hs=>?_,fun s j=>?_⟩
    ·rw [if_neg (by omega)];exact sq s hs
    ·have:=rl s j;omega
   ·rintro sd σ H15 bR ⟨B,E,tA,pA,L,rows,ρ,τ,G,sv,lv,ps,qs,la,lb,l,Tp,Tq,SO,rfl,fx,hdl,st,bl,pc,sq,rl⟩
    rw [show (0:Int)+(sd:Nat)=(sd:Int) by omega]
    have NN:=sq sd bR
    rw [if_neg (by omega)] at NN
    have hTn:T < tk+7:=by omega
    have uy:1 - sd < 2:=by omega
    have Dk:(1:Int) - (sd:Int)=((1 - sd:Nat):Int):=by omega
    have hdo:(L (1 - sd)).d≤(T:Int)+1:=by
     have:=(sq (1 - sd) uy).d
     rw [this];split <;> omega
    have cg:=st.cg sd bR
    obtain ⟨Lp,r1,r2⟩:=(cg.at_ T hTn).at_
    have VW:∀ s j,(rows s j).length≤200:=fun s j=>by have:=rl s j;split at this <;> omega
    obtain ⟨aC1,_,aC2,_⟩:=(st.lk sd bR).at_
    refine ⟨_,rfl,_,rfl,eL,_,_,_,rfl,rfl,aX.of (st.sb _ _ fx.eL),cG bR,av x0 x1 sd,aC1,_,rfl,aC2,rfl,_,rfl,_,rfl,cL,_,_,_,rfl,rfl,aX.of (st.sb _ _ fx.cL),cG bR,_,rfl,av D0 D1 sd,_,_,_,rfl,rfl,aX.of (st.sb _ _ cg.dl),iw (b9 hTn),av Iw J9 sd T,rfl,⟨_,aX.of r1⟩,fun Dh hDh=>?_⟩
    refine rZ (K:=K) (a:=av Iw J9 sd T) (xs:=bK (rows sd T).length Lp) (fun i σ H'=>(∃ v,σ=[v])∧aI H15 H'∧∃ Vw:Nat→Addr,H' Dh=some (.lst (bK i Vw))∧∀ (y:Nat) (r:Rw),y < i→(rows sd T)[y]?=some r→B (Vw y)=some (.lst (tabI 24 r.f)))
     ⟨⟨none,rfl⟩,(aI.refl _).new hDh,fun _=>0,aB,fun y r hy=>absurd hy (Nat.not_lt_zero _)⟩ (fun i σ H' _ p=>aX.of (p.2.1 _ _ r1)) ?_ ?_
    ·rintro i v σ H' N hN hi ⟨⟨v0,rfl⟩,s1,Vw,w1,w2⟩
     obtain ⟨VV,rfl⟩:=tab_of hi
     have e:(rows sd T)[i]?=some (rows sd T)[i]:=by simp [VV]
     have aHc:=VW sd T
     generalize (rows sd T)[i]=rr at e
     obtain ⟨c,v3,k1,k2,_⟩:=r2 i rr e
     refine df ?_
     refine ⟨_,rfl,Lp i,_,_,_,rfl,rfl,bw.of (s1 _ _ (st.sb _ _ k1)),rfl,_,w1,by rw [aL];omega,hN _ _ ⟨⟨_,rfl⟩,s1.put hDh,fun y=>if y=i then c else Vw y,by rw [aB,dS],fun y r hy Wh=>?_⟩⟩
     by_cases z:y=i
     ·rw [z,e] at Wh
      cases Wh
      simp only [z,if_true]
      exact k2
     ·simp only [z,if_false]
      exact w2 y r (by omega) Wh
    rintro σ H16 ⟨⟨v0,rfl⟩,s16,Vw,c1',c2'⟩
    rw [aL] at c1' c2'
    have IT:=st.same dr s16
    have aC4:=IT.lk sd bR
    have inc:InC H16 Dh Vw ((rows sd T).map Vd):=by
     refine ⟨by rw [List.length_map];exact c1',fun j cm hj=>?_⟩
     rw [List.getElem?_map] at hj
     cases e:(rows sd T)[j]? with
     | none=>rw [e] at hj;cases hj
     | some rr =>
      rw [e] at hj
      cases hj
      obtain ⟨_,_,_,_,_,gg⟩:=r2 j rr e
      exact ⟨IT.sb _ _ (c2' j rr (List.getElem?_eq_some_iff.mp e).1 e),gg.c,gg.m⟩
    have aHd:=NN.b1
    have aC5:=NN.b0
    have LR:∀ x ∈ aU (rows sd T),Dj x.b:=fun x hx=>by
     obtain ⟨row,q1,_,rfl⟩:=qd hx
     obtain ⟨j,hj⟩:=List.mem_iff_getElem?.mp q1
     obtain ⟨_,_,_,_,_,gg⟩:=r2 j row hj
     exact gg.g.b
    refine ⟨B,av x0 x1 sd,tA sd,pA sd,Dh,Vw,L sd,(rows sd T).map Vd,rfl,aC4,inc,by rw [List.length_map];have:=VW sd T;omega,by rw [NN.ev];exact Nat.zero_le _,aC5,by omega,NN.ok,fun B18 H18 pB p mv ZJ np bp npB ep=>?_⟩
    rw [Pe] at ZJ ep
    obtain ⟨Tr,Tj⟩:=NN.tick LR
    have aC6:(dR (L sd) (aU (rows sd T))).ev.length≤4000:=by
     have h1:(aU (rows sd T)).length≤(rows sd T).length:=List.length_filterMap_le _ _
     have h2:=VW sd T
     omega
    obtain ⟨ρ18,tz,_⟩:=IT.Z8 dr bR mv ZJ
    rw [lg] at tz
    obtain ⟨tz,aC7⟩:=tz.To dr ep bp (fun s hs=>⟨fun z=>(IT.lk s hs).hx (by rw [← z];exact np),fun z=>(IT.lk s hs).ht (by rw [← z];exact np),fun z=>by
     by_cases y:s=sd
     ·rw [y,aO] at z;exact npB z
     ·rw [ae y] at z;exact (IT.lk s hs).hp (by rw [← z];exact np)⟩) (fun s hs j hj z=>((IT.cg s hs).at_ j hj).val (by rw [← z];exact np)) (Classical.byContradiction fun z=>IT.he z np)
    have aC8:(upd B18 p (.lst (tabI 24 (ay (el (dR (L sd) (aU (rows sd T)))))))) p=some (.lst (tabI 24 (ay (el (dR (L sd) (aU (rows sd T))))))):=aB
    have ZK:=mv.bb.trans aC7
    generalize upd B18 p (.lst (tabI 24 (ay (el (dR (L sd) (aU (rows sd T)))))))=B19 at *
    have SQ:=tz.lk sd bR
    rw [aO,aO] at SQ
    obtain ⟨aCA,aHe,aCB,_⟩:=SQ.at_
    have ZL:=fx.same ZK
    refine ⟨_,rfl,_,rfl,eL,_,_,_,rfl,rfl,aX.of (tz.sb _ _ ZL.eL),cG bR,av x0 x1 sd,aCA,_,rfl,aCB,rfl,B19,av x0 x1 sd,tA sd,pB,_,rfl,SQ,fun H19 tB aCC ntB aCD aCE=>?_⟩
    obtain ⟨G1,Vx,gr1,tr1⟩:=pc.step (fs:=[]) bR NN.d hdo Di.2 NN.ok LR NN.ev ⟨by decide,fun d hd=>by cases hd⟩
    have Vx:vW a G1 (at2 L sd (bI (L sd) (aU (rows sd T)))) rows:=by
     have h:=Vx
     rw [show oP (rows (1 - sd)) T (el (bI (L sd) (aU (rows sd T)))) []=rows (1 - sd) from rfl,lg] at h
     exact h
    obtain ⟨tro,trw⟩:=tr1.ok
    obtain ⟨ρ19,ZM,hρ19⟩:=tz.Z8 dr bR (by rw [aO];exact aCC) aCD
    obtain ⟨gO,ev1,ev2⟩:=aCE
    rw [vX,vX] at ZM
    have r18:=tz.rt sd bR
    obtain ⟨IU,SR⟩:=ZM.To dr ev1 (tz.lk sd bR).bt (fun s hs=>⟨da r18 (tz.rx s hs) (by omega),fun z=>by
     by_cases y:s=sd
     ·rw [y,aO] at z;exact ntB z.symm
     ·rw [ae y] at z;exact da r18 (tz.rt s hs) (by omega) z,fun z=>by
     by_cases y:s=sd
     ·rw [y,aO] at z;exact SQ.ne z
     ·rw [ae y] at z
      have:=tz.rp s hs
      rw [ae y] at this
      exact da r18 this (by omega) z⟩) (fun s hs j hj=>da r18 (tz.rs s hs j hj) (by omega)) (Classical.byContradiction fun z=>by have:=tz.er _ z;omega)
    have aCF:(upd B19 (tA sd) (.lst (bK (dR (L sd) (aU (rows sd T))).ev.length gO))) (tA sd)=some (.lst (bK (dR (L sd) (aU (rows sd T))).ev.length gO)):=aB
    generalize upd B19 (tA sd) (.lst (bK (dR (L sd) (aU (rows sd T))).ev.length gO))=B20 at *
    have ZN:=ZK.trans SR
    have Pu:=ZL.same SR
    have IV:=bl.QU ZN IU.eb
    have aCH:=IV.bk.t sd bR
    have aCI:=bl.zp sd bR
    rw [NN.d] at aCI
    have hd1:(L (1 - sd)).d≤63:=by omega
    refine ⟨_,rfl,_,rfl,sL,_,_,_,rfl,rfl,aX.of (IU.sb _ _ Pu.sL),cG bR,_,rfl,_,rfl,?_⟩
    refine ⟨B20,tA sd,av iV iL sd,tl,(dR (L sd) (aU (rows sd T))).ev,sv sd,lv sd,av iN iO,sd,G.W (1 - sd),wt G sd (L sd),ps sd,la sd,l sd,rfl,bR,IU.sb,IU.eb _ (by rw [IV.bk.s sd bR];exact fun z=>by cases z),⟨gO,aCF,fun y e he=>(ev2 y e he).mono SR⟩,IU.ee _ _ (IV.bk.s sd bR),IV.bk.v sd bR,IV.vl sd bR,IV.lu sd bR,fun y hy=>by
     obtain ⟨y1,y2⟩:=(pc.en sd bR).up y hy
     rw [y1];exact y2,Pu.tl,aCH.up IU.ee,IV.bk.u sd bR,fun P hP=>ba (bl.tl sd bR P hP) (bl.ts sd bR) (by omega),tro,by omega,fun P=>by have:=bl.zw (1 - sd) uy P;omega,fun H21 Lu IK kG jF p1 p2 p3 p4 p5 p6 p7 p8 p9 Yv Yw p12=>⟨_,rfl,di ?_⟩⟩
    have ku0:KU (wt G sd (L sd)):=⟨fun y hy=>by
     obtain ⟨y1,y2⟩:=(pc.en sd bR).up y hy
     rw [y1];exact y2,bl.bk.k sd bR⟩
    have eA:({ dR (L sd) (aU (rows sd T)) with ev:=[] }:Lk)=bI (L sd) (aU (rows sd T)):=rfl
    rw [eA] at IU
    obtain ⟨E21,ρ21,τ21,SS,Vy⟩:=IV.ev (L1:=at2 L sd (bI (L sd) (aU (rows sd T)))) (G':=G1) (ev:=(dR (L sd) (aU (rows sd T))).ev) bR IU (fun s hs z=>ae z) gr1.w (gr1.k _ (by omega)) (gr1.u _ (by omega)) (by rw [aO];exact trw) (by rw [aO];exact tr1.ku ku0) (by rw [aO,Tr.d,NN.d]) aC6 p1 p2 p3 p4 p5 p6 p7 p8 Yv Yw p12
    have hw3:∀ Q,((G1.W sd Q).length:Int)+3≤3 * (T+1:Int):=fun Q=>by
     have:=bl.zw sd bR Q
     rw [gr1.w];rw [NN.d] at this;omega
    have hq3:((qs sd).length:Int)+1≤(T+1:Int):=by
     have:=bl.zq sd bR
     rw [NN.d] at this;omega
    have Pw:=ZN _ _ hdl
    have ZO:=SR _ _ aC8
    clear p1 p2 p3 p4 p5 p6 p7 p8 p9 Yv Yw p12
    have Tt:dY G1 sd (el (bI (L sd) (aU (rows sd T)))) 0:=by
     have:=Vx.cell bR
     rw [aO] at this;exact this
    refine ⟨fun σ H'=>∃ (B' E':Hp) (tA' pA':Nat→Addr) (L':Nat→Lk) (ρ' τ':Addr→Nat) (G':Gh) (sv lv:Nat→V) (ps qs:Nat→List Pr) (la lb:Nat→Pr→Addr) (l:Nat→Option Pr),σ=[some (.ref sc),some (.ref nl),some (.ref ma),some (.int (tk:Int)),some (.bl db),some (.ref eL),some (.ref sL),some (.ref pl),some (.ref tl),some (.ref cL),some (.int (T:Int)),Vv,some (.ref dl),some (.int (sd:Int)),some (.ref p),SO]∧w8 K B' sc nl ma eL sL pl tl cL ns n0 n1 n2 n3 a b (av x0 x1) (av D0 D1) (av iV iL) (av iM i8) (av iN iO)∧B' dl=some (.lst (ds.map V.int))∧B' p=some (.lst (tabI 24 (ay (el (bI (L sd) (aU (rows sd T)))))))∧Sx IG t.LinkEnd B' H' E' (tk+7) (av x0 x1) tA' pA' (av D0 D1) (av Iw J9) L' rows ρ'∧Bl B' E' L' G' (av iV iL) (av iM i8) (av iN iO) sv lv ps qs la lb τ' l∧vW a G' L' rows∧Sq ((T:Int)+1) (L' sd)∧(L' sd).b=(bI (L sd) (aU (rows sd T))).b∧(L' sd).k=(bI (L sd) (aU (rows sd T))).k∧L' (1 - sd)=L (1 - sd)∧dY G' sd (el (bI (L sd) (aU (rows sd T)))) 0,?_,?_⟩
    ·refine ⟨_,rfl,_,rfl,eL,_,_,_,rfl,rfl,aX.of (SS.sb _ _ Pu.eL),cG bR,_,rfl,_,rfl,sL,_,_,_,rfl,rfl,aX.of (SS.sb _ _ Pu.sL),cG bR,_,rfl,_,rfl,_,rfl,_,rfl,_,_,rfl,rfl,_,rfl,dl,_,rfl,aX.of (SS.sb _ _ Pw),fun nA hnA=>?_⟩
     have Pm:fc (ds.map V.int) (some (2+(sd:Int))) none=(ds.drop (2+sd)).map V.int:=by
      rw [show (2+(sd:Int))=((2+sd:Nat):Int) by omega,Pq (by rw [List.length_map];omega),List.map_drop]
     rw [Pm]
     have s22:aI H21 (upd H21 nA (.lst ((ds.drop (2+sd)).map V.int))):=(aI.refl _).new hnA
     have e22:(upd H21 nA (.lst ((ds.drop (2+sd)).map V.int))) nA=some (.lst ((ds.drop (2+sd)).map V.int)):=aB
     generalize upd H21 nA (.lst ((ds.drop (2+sd)).map V.int))=H22 at *
     obtain ⟨SU,NO⟩:=SS.grow dr s22 hnA e22
     have aCK:(upd B20 nA (.lst ((ds.drop (2+sd)).map V.int))) nA=some (.lst ((ds.drop (2+sd)).map V.int)):=aB
     generalize upd B20 nA (.lst ((ds.drop (2+sd)).map V.int))=B22 at *
     have NP:=Vy.QU NO SU.eb
     have Vz:=Pu.same NO
     have en1:=Vx.en sd bR
     have aCM:(at2 L sd (bI (L sd) (aU (rows sd T))) sd).bS.length < 900000:=by
      rw [en1.p,List.length_drop]
      have:=hw3 (pr sd (at2 L sd (bI (L sd) (aU (rows sd T))) sd).b (at2 L sd (bI (L sd) (aU (rows sd T))) sd).k)
      omega
     refine ⟨B22,E21,tk+7,av x0 x1,_,_,av D0 D1,av Iw J9,at2 L sd (bI (L sd) (aU (rows sd T))),rows,ρ21,sd,av iV iL sd,pl,nA,_,_,av iM i8,qs sd,lb sd,G1.W sd,ds.drop (2+sd),rfl,bR,SU,NP.bk.s sd bR,NP.bk.v sd bR,Vz.pl,NP.bk.p sd bR,NP.bk.w sd bR,fun P hP=>ba (Vy.tb sd bR P hP) (Vy.ts sd bR) (by omega),aCK,by rw [List.length_drop];omega,by rw [List.length_drop];omega,fun v hv=>ZG v (List.mem_of_mem_drop hv),aCM,by omega,fun P=>by have:=hw3 P;omega,fun z=>(en1.zero z).1,fun hn=>⟨_,rfl,di ?_⟩,fun P hP B23 H23 E23 ρ23 gh IM J7 b23 ZP xl xi D23 u23 o23 n23 f23 l23=>⟨_,rfl,di ?_⟩⟩
     ·exact ⟨B22,E21,_,_,at2 L sd (bI (L sd) (aU (rows sd T))),ρ21,τ21,G1,_,_,_,_,_,_,_,rfl,Vz,NO _ _ Pw,NO _ _ ZO,SU,NP,Vx,by rw [aO];exact Tr,by rw [aO],by rw [aO],ae (by omega),Tt⟩
     ·have hPp:=(en1.up P hP).1
      obtain ⟨τ23,aCN⟩:=NP.put bR Vx.rel SU b23 ZP xl D23 u23 o23 n23 f23 l23 (fun Q=>by rw [aO,Tr.d];exact hw3 Q) (by rw [aO,Tr.d];exact hq3)
      have ZQ:=vW.Yo bR gh G1 _ Vx (by rw [hP];exact fun z=>by cases z)
      rw [← hPp] at ZQ
      have eS:at2 (at2 L sd (bI (L sd) (aU (rows sd T)))) sd { at2 L sd (bI (L sd) (aU (rows sd T))) sd with bS:=(at2 L sd (bI (L sd) (aU (rows sd T))) sd).bS ++ gh } sd={ (bI (L sd) (aU (rows sd T))) with bS:=(bI (L sd) (aU (rows sd T))).bS ++ gh }:=by rw [aO,aO]
      exact ⟨B23,E23,_,_,_,ρ23,τ23,qe G1 sd P gh,_,_,_,_,_,_,_,rfl,Vz.same b23,b23 _ _ (NO _ _ Pw),b23 _ _ (NO _ _ ZO),ZP,aCN,ZQ,by rw [eS];exact Tr.put xi,by rw [eS],by rw [eS],by rw [ae (show 1 - sd≠sd by omega),ae (show 1 - sd≠sd by omega)],Tt.put⟩
    rintro σ H24 ⟨B2,E2,tA2,pA2,L2,ρ2,τ2,G2,sv2,lv2,ps2,qs2,la2,lb2,l2,rfl,ZR,ZS,Z1,Dg,bl2,ZQ,sq2,Iv,hk2,Zp,ZT⟩
    obtain ⟨g,hg⟩:∃ g,ds[sd]?=some g:=⟨ds[sd],by simp⟩
    have gn:0≤g:=ZG g (List.mem_of_getElem? hg)
    refine ⟨_,rfl,_,rfl,dl,_,_,_,rfl,rfl,aX.of (Dg.sb _ _ ZS),iw (by rw [List.getElem?_map,hg];rfl),_,rfl,ma,_,_,_,rfl,rfl,bw.of (Dg.sb _ _ ZR.ma),rfl,_,_,rfl,gn,Di.1,Di.2,fun ft H25 fs0 s25 hft gft=>?_⟩
    have V0:=Dg.same dr s25
    refine ⟨fun σ H'=>∃ (fB:Addr) (fs:Ft),σ=[some (.ref sc),some (.ref nl),some (.ref ma),some (.int (tk:Int)),some (.bl db),some (.ref eL),some (.ref sL),some (.ref pl),some (.ref tl),some (.ref cL),some (.int (T:Int)),Vv,some (.ref dl),some (.int (sd:Int)),some (.ref p),some (.ref fB)]∧aI H25 H'∧yD K H' fB fs∧zV a fs,?_,?_⟩
    ·refine ⟨_,rfl,_,rfl,?_⟩
     cases db with
     | true =>
      refine fe ?_
      refine ⟨by show 0≤sizeLine;decide,fun c hc=>⟨by show 2≤sizeLine;decide,fun b1 aCO=>?_⟩⟩
      obtain ⟨s1',g1,g2⟩:=iI (K:=K) (d:=1) hc aCO
      refine ⟨_,rfl,ma,_,_,_,rfl,rfl,bw.of (s1' _ _ (V0.sb _ _ ZR.ma)),rfl,by show 0≤sizeLine;decide,fun c2 TH=>⟨by show 2≤sizeLine;decide,fun b2 aCP=>?_⟩⟩
      obtain ⟨s2',k1,k2⟩:=iI (K:=K) (d:=a) TH aCP
      refine ⟨by show 2≤sizeLine;decide,fun aa haa=>?_⟩
      have s3':=(aI.refl _).new (o:=.tup [.ref b1,.ref b2]) haa
      have Vb:=s2'.trans s3'
      refine ⟨aa,[(1,[]),(a,[])],rfl,s1'.trans Vb,PZ (bw.of aB) (Vb.tup g1) (g2.same Vb) (s3'.tup k1) (k2.same s3'),⟨by show 2≤3;decide,fun d hd=>?_⟩⟩
      rcases List.mem_cons.mp hd with rfl | hd
      ·exact ⟨by decide,Di.1,dq⟩
      ·rw [List.mem_singleton.mp hd];exact ⟨Di.1,Int.le_refl _,dq⟩
     | false =>
      refine di ?_
      refine ⟨_,rfl,_,rfl,_,rfl,nl,n0,n1,n2,n3,(sd:Int),(T:Int),rfl,aX.of (V0.sb _ _ ZR.nl),fun bb H26 ZU=>⟨_,rfl,?_⟩⟩
      cases bb with
      | false=>exact di ⟨ft,fs0,rfl,ZU,hft.same ZU,gft⟩
      | true =>
       refine fe ⟨by show 0≤sizeLine;decide,fun e he=>?_⟩
       exact ⟨e,[],rfl,ZU.new he,PY (bw.of aB),⟨by decide,fun d hd=>by cases hd⟩⟩
    rintro σ H26 ⟨fB,fs,rfl,ZU,hfB,gfB⟩
    have NQ:=V0.same dr ZU
    have hBb:Dj (bI (L sd) (aU (rows sd T))).b:=⟨Tr.b0,by have:=Tr.b1;omega⟩
    refine ⟨_,rfl,_,rfl,_,_,rfl,rfl,cL,_,_,_,rfl,rfl,aX.of (NQ.sb _ _ ZR.cL),by rw [Dk];exact cG uy,_,rfl,_,rfl,_,rfl,?_⟩
    refine ⟨B2,av D0 D1 (1 - sd),p,fB,T,.bJ,av Iw J9 (1 - sd),tk+7,rows (1 - sd),el (bI (L sd) (aU (rows sd T))),fs,a,rfl,NQ.sb,NQ.cg (1 - sd) uy,NQ.sb _ _ Z1,Tr.ok.give hBb,rfl,hfB,gfB,Di.2,by omega,fun j hj=>?_,fun j hj z=>?_,fun B5 H27 gv cg2=>?_⟩
    ·have:=VW (1 - sd) j;omega
    ·have:=((NQ.cg (1 - sd) uy).at_ j hj).no
     rw [← z,Z1] at this;cases this
    have ZV:=NQ.gv dr uy gv cg2
    refine ⟨B5,E2,tA2,pA2,L2,_,ρ2,τ2,G2,sv2,lv2,ps2,qs2,la2,lb2,l2,_,_,_,rfl,ZR.same gv.bb,gv.bb _ _ ZS,ZV,bl2.QU gv.bb ZV.eb,ZQ.give bR sq2.d ZT (by rw [Iv];exact Int.le_refl _) (by have:=(ZQ.kb sd bR).2.1;rw [hk2] at this;exact this) gfB,fun s hs=>?_,fun s j=>?_⟩
    ·by_cases z:s=sd
     ·rw [z,if_pos (by omega)];exact sq2
     ·have es:s=1 - sd:=by omega
      have:=sq s hs
      rw [es,Zp]
      rw [es] at this
      by_cases y:1 - sd < sd
      ·rw [if_pos y] at this;rw [if_pos (by omega)];exact this
      ·rw [if_neg y] at this;rw [if_neg (by omega)];exact this
    ·by_cases z:s=1 - sd
     ·rw [z,aO]
      have h1:=IF (rows:=rows (1 - sd)) (tick:=T) (b:=el (bI (L sd) (aU (rows sd T)))) fs j
      have h2:=gfB.len
      have h3:=rl (1 - sd) j
      rw [if_neg (by omega)] at h3
      rw [if_pos (by omega)]
      omega
     ·rw [ae z]
      have h3:=rl s j
      split at h3 <;> split <;> omega
   ·rintro σ H15 ⟨B,E,tA,pA,L,rows,ρ,τ,G,sv,lv,ps,qs,la,lb,l,Tp,Tq,SO,rfl,fx,hdl,st,bl,pc,sq,rl⟩
    refine ⟨_,rfl,_,rfl,_,rfl,_,rfl,B,E,tk+7,av x0 x1,tA,pA,av D0 D1,av Iw J9,L,rows,ρ,eL,sL,pl,tl,av iV iL,av iM i8,av iN iO,sv,lv,ps,qs,la,lb,G,rfl,st,fx.eL,fx.sL,fx.pl,fx.tl,bl.bk,pc.rel,pc.en,fun i j hi hj=>ba (bl.tp i hi) (bl.td j hj) (by omega),fun H16 s16=>⟨_,rfl,di ?_⟩⟩
    refine ⟨B,E,tA,pA,L,rows,ρ,τ,G,sv,lv,ps,qs,la,lb,l,_,_,_,_,_,_,rfl,fx,st.same dr s16,bl,pc,fun s hs=>?_,fun s j=>?_⟩
    ·have:=sq s hs
     rw [if_pos hs] at this
     exact this
    ·have:=rl s j
     split at this <;> omega
  ·rintro σ H13 ⟨B,E,tA,pA,L,rows,ρ,τ,G,sv,lv,ps,qs,la,lb,l,v10,v11,v12,Tp,Tq,SO,rfl,fx,st,bl,pc,sq,rl⟩
   exact q _
end
end K31
namespace K31
open PySem L2 PyProof.Rows
section
variable {P:Program} {w:World} {K:PySem.W.Frag} {mg:Str→Option Value} {base:Heap} {t:Ad}
theorem SV {f:Addr} {fd:FuncData} (T:Txt K mg t) (F:kL K "law" "law" wC f fd) (t7:aP K mg "is_sign" pS) (oX:aP K mg "look_sign" j3) (oY:aP K mg "look_unit" j4) (Am:aP K mg "power" vS) (t8:aP K mg "inverse" pT) (qg:aP K mg "exponent" mE) (qh:aP K mg "equation" jO) (kX:aP K mg "pivot_place" hZ) (oZ:aP K mg "exchanged" j5) (qi:aP K mg "lessened" jP) (t9:aP K mg "cleared" jC) (xC:aP K mg "solved" lJ) (mZ:aP K mg "look_signs" iz) (oa:aP K mg "look_cell" j6) (qj:aP K mg "value_at" mF) (qk:aP K mg "troubles" jQ) (og:aP K mg "is_sealed" j7) (uA:aP K mg "carried" lK) (xD:aP K mg "sealed" nv) (oh:aP K mg "look_late" j8) (jZ:aP K mg "look_measure" fj) (ql:aP K mg "quiet_of" mG) (md:aP K mg "lone_place" i0) (uB:aP K mg "is_root" pU) (iW:aP K mg "turned_places" dO) (qm:aP K mg "turns_at" jR) (xE:aP K mg "mended" r9) (ja:aP K mg "number_signs" fk) (jb:aP K mg "signs_number" fo) (me:aP K mg "look_piece" i4) (oi:aP K mg "_law_cell" j9) (jc:aP K mg "_law_numbers" fq) (jd:aP K mg "_law_measure" fu) (mf:aP K mg "_law_turns" fw) (oj:aP K mg "_law_fate" kA) (kY:aP K mg "_law_turned" h8) (oq:aP K mg "_law_give" kB) (ot:aP K mg "_law_dead" kC) (eR:aP K mg "_law_events_right" cv) (qo:aP K mg "_law_put" jS) (fJ:aP K mg "_law_pairs_right" dH):bZ P w K mg base (i9 P w) 13 f fd ["script"] (yy K):=by
 obtain ⟨aAn,Px⟩:=T.fi
 obtain ⟨NR,sX⟩:=T.vC
 obtain ⟨aAo,Py⟩:=T.VC
 obtain ⟨QX,xF⟩:=T.AE
 obtain ⟨aAp,Pz⟩:=T.VD
 obtain ⟨aAq,P0⟩:=T.VE
 obtain ⟨V1,IW⟩:=T.Mo
 obtain ⟨Wl,KE⟩:=T.O4
 obtain ⟨QY,xG⟩:=T.AF
 obtain ⟨QZ,xH⟩:=T.AG
 obtain ⟨Qa,xI⟩:=T.AH
 obtain ⟨aCS,SW⟩:=T.YI
 obtain ⟨aEC,V2⟩:=T.aBy
 obtain ⟨ZW,NS⟩:=T.RV
 obtain ⟨Wm,KG⟩:=T.O5
 have gY:=Jj (P:=P) (w:=w) (base:=base) t7 T
 have eG:=xv mZ T gY
 have oC:=AJ oa T eG
 have dk:=AL oX T gY
 have kD:=AN oY T dk
 have et:=O7 Am T dk
 have jE:=Jl t8 T kD et
 have qZ:=HU qg T kD
 have qW:=HV (P:=P) (w:=w) (base:=base) qj T
 have gZ:=HX qk T oC qW et
 have oI:=AQ og T gZ
 have tT:=Jn (P:=P) (w:=w) (base:=base) uA T
 have wj:=Mr xD T eG tT
 have oE:=AS (P:=P) (w:=w) (base:=base) oh T
 have jU:=vD jZ T oE
 have qb:=Hi ql T jU
 have qY:=Hk (P:=P) (w:=w) (base:=base) qh T
 have kO:=wR (P:=P) (w:=w) (base:=base) kX T
 have oH:=AU (P:=P) (w:=w) (base:=base) oZ T
 have qX:=Hm (P:=P) (w:=w) (base:=base) qi T
 have tV:=Jo t9 T jE qX
 have lT:=Mt xC T qY kO oH tV
 have mO:=xx md T qZ jE
 have tX:=Jr (P:=P) (w:=w) (base:=base) uB T
 have iT:=tW iW T lT mO tX et
 have qa:=Hn qm T lT et
 have wk:=Mu xE T gZ oI iT qa
 obtain ⟨cS,cT⟩:=tZ (P:=P) (w:=w) (base:=base) T sX
 obtain ⟨lW,lX⟩:=Mx T KE cS cT
 obtain ⟨Jx,Jy⟩:=Rm T P0 lW lX
 have gF:=vE (P:=P) (w:=w) (base:=base) ja T
 have gE:=vF jb T dk
 obtain ⟨tm,tu⟩:=Jw (P:=P) (w:=w) (base:=base) T IW
 obtain ⟨mT,mU⟩:=x3 T xG lW lX
 obtain ⟨mP,mQ⟩:=x4 (P:=P) (w:=w) (base:=base) T xH
 obtain ⟨mR,mS⟩:=x6 (P:=P) (w:=w) (base:=base) T xI
 obtain ⟨Vk,Vl⟩:=YX (P:=P) (w:=w) (base:=base) T V2
 obtain ⟨pf,ph⟩:=PL (P:=P) (w:=w) (base:=base) T NS
 obtain ⟨xA,xB⟩:=M3 (P:=P) (w:=w) (base:=base) T KG
 obtain ⟨J1,J2⟩:=Rt T Pz gE Jx Jy tm tu mP mQ mR mS
 obtain ⟨mV,mW⟩:=x9 T xF gF wj
 obtain ⟨KC,KD⟩:=R4 T Py wk J1 J2 mT mU mV mW
 obtain ⟨Aj,Ak⟩:=R6 T Px qb cS cT
 have mX:=yA me T gY
 obtain ⟨Pk,Pl⟩:=VY T SW mX
 have jY:=vI (P:=P) (w:=w) (base:=base) jd
 have gH:=yC (P:=P) (w:=w) (base:=base) mf T
 have oU:=Ac oj T gH
 have kU:=wq (P:=P) (w:=w) (base:=base) kY T
 have oW:=Af dr oq T kU
 have gI:=vK (P:=P) (w:=w) (base:=base) jc T
 have kH:=Ah (P:=P) (w:=w) (base:=base) oi T
 have eQ:=oS (P:=P) (w:=w) (base:=base) eR T
 have qf:=IP qo T pf ph Pk Pl
 have fI:=qA fJ T pf ph Vk Vl
 have oV:=Ai (P:=P) (w:=w) (base:=base) ot T
 exact Vr T F kH gI jY oU oV oW eQ qf fI Aj Ak KC KD xA xB
end
end K31
namespace K31
open PySem L2 PyProof.Rows
theorem V3 {K:PySem.W.Frag} {h:Heap} {mg:Str→Option Value} {eI cH dM eJ uC aY gJ xJ cD ll cx lq lr fZ gi cy cz c9 pj uD jG gj:Addr} {vL An vM Ao yG sY yH yI Ap yJ Aq KH P1 NT P2:Tok} {KI:Option Addr} {KJ KL KN KO KP KQ:Tok} {NU:Nat} {KR:Array (Option Value)} {ioc:Value} {iod ian:Option Addr} {aCT:Array (Option Value)} {ikV aCU ipm ZX ict:Value} {uE:Value} {uF uG:Option Addr} {sZ:Array (Option Value)} {uH si uI kI uJ:Value} {SY:Value} {Sa Sb:Option Addr} {P4:Array (Option Value)} {Sd P6 Se IX Sf:Value} {yK:Value} {yL yM:Option Addr} {xK:Array (Option Value)} {yN xM yO ou yP:Value} {Sg:Value} {Sh Si:Option Addr} {P7:Array (Option Value)} {Sj P8 Sk IY Sl:Value} {Sm:Value} {Sn So:Option Addr} {P9:Array (Option Value)} {Sr QA Ss IZ Su:Value} {KS:Value} {KW KY:Option Addr} {Ia:Array (Option Value)} {KZ Ib Ka u7 Kb:Value} {NV:Value} {NW NX:Option Addr} {Kc:Array (Option Value)} {NY Kd NZ xN Na:Value} {yQ:Value} {yR yS:Option Addr} {xO:Array (Option Value)} {yT xP yU ox yV:Value} {yW:Value} {yX yY:Option Addr} {xQ:Array (Option Value)} {yZ xR yb oy yc:Value} {yd:Value} {ye yf:Option Addr} {xS:Array (Option Value)} {yg xT yh oz yi:Value} {V4:Value} {V5 V6:Option Addr} {Sv:Array (Option Value)} {V7 Sw V8 Lx V9:Value} {ZY:Value} {ZZ Za:Option Addr} {WA:Array (Option Value)} {Zb WB Zc QB Zd:Value} {QC:Value} {QD QE:Option Addr} {Nb:Array (Option Value)} {QF Nd QG zW QH:Value} {Nf:Value} {Ng Nh:Option Addr} {Ke:Array (Option Value)} {Ni Kf Nj xU Nk:Value} (KX:K.In h) (G:h.Ns mainGlobals mg)
  (qp:PySem.W.nsIn K mainGlobals "BadCell"=some (some (.ref eI)))
  (kZ:PySem.W.nsIn K mainGlobals "BadMeasure"=some (some (.ref cH)))
  (o3:PySem.W.nsIn K mainGlobals "BadPiece"=some (some (.ref dM)))
  (qq:PySem.W.nsIn K mainGlobals "BadSign"=some (some (.ref eJ)))
  (qr:PySem.W.nsIn K mainGlobals "DIVISOR"=some (some (.ref uC)))
  (qu:PySem.W.nsIn K mainGlobals "LinkEnd"=some (some (.ref aY)))
  (uK:PySem.W.nsIn K mainGlobals "NoLink"=some (some (.ref gJ)))
  (je:PySem.W.nsIn K mainGlobals "BIRTH_SIGNS"=some (some (.int 2 vL)))
  (o4:PySem.W.nsIn K mainGlobals "COUNT_AT"=some (some (.int 5 An)))
  (jf:PySem.W.nsIn K mainGlobals "FREE_PLACES"=some (some (.int 18 vM)))
  (o5:PySem.W.nsIn K mainGlobals "KNOWN_AT"=some (some (.int 2 Ao)))
  (mh:PySem.W.nsIn K mainGlobals "LENGTH_AT"=some (some (.int 6 yG)))
  (gm:PySem.W.nsIn K mainGlobals "LONGEST_PIECE"=some (some (.int 10 sY)))
  (mi:PySem.W.nsIn K mainGlobals "MOST_LATE"=some (some (.int 6 yH)))
  (mj:PySem.W.nsIn K mainGlobals "MOST_LOST"=some (some (.int 4 yI)))
  (o6:PySem.W.nsIn K mainGlobals "NO_BIRTH"=some (some (.int 0 Ap)))
  (ml:PySem.W.nsIn K mainGlobals "NUMBER_AT"=some (some (.int 4 yJ)))
  (o7:PySem.W.nsIn K mainGlobals "PIECE_AT"=some (some (.int 7 Aq)))
  (uL:PySem.W.nsIn K mainGlobals "PLACES"=some (some (.int 24 KH)))
  (Ar:PySem.W.nsIn K mainGlobals "ROOT"=some (some (.int 5 P1)))
  (xV:PySem.W.nsIn K mainGlobals "SIGNS"=some (some (.int 97 NT)))
  (As:PySem.W.nsIn K mainGlobals "SUMS"=some (some (.int 6 P2)))
  (Au:PySem.W.nsIn K mainGlobals "len"=some none)
  (xW:PySem.W.nsIn K mainGlobals "list"=some none)
  (Av:PySem.W.nsIn K mainGlobals "max"=some none)
  (Aw:PySem.W.nsIn K mainGlobals "min"=some none)
  (uM:PySem.W.nsIn K mainGlobals "range"=some none)
  (mm:PySem.W.nsIn K mainGlobals "reversed"=some none)
  (uN:PySem.W.nsIn K mainGlobals "tuple"=some none)
  (Ax:PySem.W.nsIn K mainGlobals "zip"=some none)
  (qv:PySem.W.excIn K eI [.type "ValueError",.type "Exception",.type "BaseException",.type "object"] "ValueError.__new__"=true)
  (ka:PySem.W.findIn K (.ref eI) "__getattribute__"=some (some (.builtin "BaseException.__getattribute__")))
  (jg:PySem.W.findIn K (.ref eI) "__getattr__"=some none)
  (jh:PySem.W.findIn K (.ref eI) "__class__"=some (some (.builtin "object.__class__")))
  (ji:PySem.W.isClsIn K eI=true)
  (jj:PySem.W.mroIn K eI (.type "object")=some true)
  (iX:PySem.W.subIn K (.ref eI) (.type "BaseException")=some true)
  (kd:PySem.W.excIn K cH [.type "ValueError",.type "Exception",.type "BaseException",.type "object"] "ValueError.__new__"=true)
  (gq:PySem.W.findIn K (.ref cH) "__getattribute__"=some (some (.builtin "BaseException.__getattribute__")))
  (gK:PySem.W.findIn K (.ref cH) "__getattr__"=some none)
  (gL:PySem.W.findIn K (.ref cH) "__class__"=some (some (.builtin "object.__class__")))
  (gM:PySem.W.isClsIn K cH=true)
  (gN:PySem.W.mroIn K cH (.type "object")=some true)
  (fK:PySem.W.subIn K (.ref cH) (.type "BaseException")=some true)
  (o8:PySem.W.excIn K dM [.type "ValueError",.type "Exception",.type "BaseException",.type "object"] "ValueError.__new__"=true)
  (jk:PySem.W.findIn K (.ref dM) "__getattribute__"=some (some (.builtin "BaseException.__getattribute__")))
  (iY:PySem.W.findIn K (.ref dM) "__getattr__"=some none)
  (iZ:PySem.W.findIn K (.ref dM) "__class__"=some (some (.builtin "object.__class__")))
  (ia:PySem.W.isClsIn K dM=true)
  (ib:PySem.W.mroIn K dM (.type "object")=some true)
  (gr:PySem.W.subIn K (.ref dM) (.type "BaseException")=some true)
  (qw:PySem.W.excIn K eJ [.type "ValueError",.type "Exception",.type "BaseException",.type "object"] "ValueError.__new__"=true)
  (ke:PySem.W.findIn K (.ref eJ) "__getattribute__"=some (some (.builtin "BaseException.__getattribute__")))
  (jl:PySem.W.findIn K (.ref eJ) "__getattr__"=some none)
  (jm:PySem.W.findIn K (.ref eJ) "__class__"=some (some (.builtin "object.__class__")))
  (jn:PySem.W.isClsIn K eJ=true)
  (jo:PySem.W.mroIn K eJ (.type "object")=some true)
  (ic:PySem.W.subIn K (.ref eJ) (.type "BaseException")=some true)
  (uO:PySem.W.excIn K gJ [.type "ValueError",.type "Exception",.type "BaseException",.type "object"] "ValueError.__new__"=true)
  (mn:PySem.W.findIn K (.ref gJ) "__getattribute__"=some (some (.builtin "BaseException.__getattribute__")))
  (kf:PySem.W.findIn K (.ref gJ) "__getattr__"=some none)
  (kg:PySem.W.findIn K (.ref gJ) "__class__"=some (some (.builtin "object.__class__")))
  (kh:PySem.W.isClsIn K gJ=true)
  (ki:PySem.W.mroIn K gJ (.type "object")=some true)
  (jq:PySem.W.subIn K (.ref gJ) (.type "BaseException")=some true)
  (qx:K.lookup uC=some ⟨.type "tuple",KI,.seq #[.int (21) KJ,.int (80) KL,.int (53) KN,.int (2) KO,.int (55) KP,.int (63) KQ] NU,KR⟩)
  (uP:PySem.W.makesIn K aY=true)
  (xX:PySem.W.findIn K (.ref aY) "__init__"=some (some (.ref xJ)))
  (Kg:PySem.W.isFn K (.ref xJ)=true)
  (Kh:PySem.W.keepIn K (.ref aY)=true)
  (Ki:K.lookup xJ=some ⟨ioc,iod,.func (PySem.W.fnOf "__init__" "LinkEnd.__init__" (bT tQ) (bG tQ) (aH tQ) .none ikV aCU ipm ian ZX ict),aCT⟩)
  (Kj:PySem.W.codeIn K ZX "LinkEnd.__init__"=true)
  (Kk:PySem.W.keepIn K (.ref xJ)=true)
  (Kl:PySem.W.plainGet K aY Str.empty=true)
  (Km:PySem.W.hasDictIn K aY=true)
  (Kn:PySem.W.plainOver K aY=true)
  (Ko:PySem.W.findIn K (.ref aY) "__setattr__"=some (some (.builtin "object.__setattr__")))
  (qy:PySem.W.findIn K (.ref aY) "quiet"=some none)
  (uQ:PySem.W.findIn K (.ref aY) "side"=some none)
  (uR:PySem.W.findIn K (.ref aY) "done"=some none)
  (mo:PySem.W.findIn K (.ref aY) "unheard"=some none)
  (qz:PySem.W.findIn K (.ref aY) "birth"=some none)
  (rA:PySem.W.findIn K (.ref aY) "known"=some none)
  (uS:PySem.W.findIn K (.ref aY) "pair"=some none)
  (uT:PySem.W.findIn K (.ref aY) "told"=some none)
  (o9:PySem.W.findIn K (.ref aY) "pieces"=some none)
  (mq:PySem.W.findIn K (.ref aY) "offered"=some none)
  (rB:PySem.W.findIn K (.ref aY) "taken"=some none)
  (dN:PySem.W.findIn K (.ref aY) "forget_pieces"=some (some (.ref cD)))
  (dc:PySem.W.isFn K (.ref cD)=true)
  (de:PySem.W.keepIn K (.ref cD)=true)
  (eT:K.lookup cD=some ⟨uE,uF,.func (PySem.W.fnOf "forget_pieces" "LinkEnd.forget_pieces" (bT cQ) (bG cQ) (aH cQ) .none uH si uI uG kI uJ),sZ⟩)
  (eU:PySem.W.codeIn K kI "LinkEnd.forget_pieces"=true)
  (eV:PySem.W.keepIn K (.ref cD)=true)
  (kj:PySem.W.findIn K (.ref aY) "tick"=some (some (.ref ll)))
  (mr:PySem.W.isFn K (.ref ll)=true)
  (mw:PySem.W.keepIn K (.ref ll)=true)
  (rC:K.lookup ll=some ⟨SY,Sa,.func (PySem.W.fnOf "tick" "LinkEnd.tick" (bT ny) (bG ny) (aH ny) .none Sd P6 Se Sb IX Sf),P4⟩)
  (rD:PySem.W.codeIn K IX "LinkEnd.tick"=true)
  (rF:PySem.W.keepIn K (.ref ll)=true)
  (eX:PySem.W.findIn K (.ref aY) "cell_given"=some (some (.ref cx)))
  (fL:PySem.W.isFn K (.ref cx)=true)
  (fM:PySem.W.keepIn K (.ref cx)=true)
  (gs:K.lookup cx=some ⟨yK,yL,.func (PySem.W.fnOf "cell_given" "LinkEnd.cell_given" (bT dy) (bG dy) (aH dy) .none yN xM yO yM ou yP),xK⟩)
  (gy:PySem.W.codeIn K ou "LinkEnd.cell_given"=true)
  (gz:PySem.W.keepIn K (.ref cx)=true)
  (kl:PySem.W.findIn K (.ref aY) "read"=some (some (.ref lq)))
  (mx:PySem.W.isFn K (.ref lq)=true)
  (my:PySem.W.keepIn K (.ref lq)=true)
  (rG:K.lookup lq=some ⟨Sg,Sh,.func (PySem.W.fnOf "read" "LinkEnd.read" (bT tR) (bG tR) (aH tR) .none Sj P8 Sk Si IY Sl),P7⟩)
  (rH:PySem.W.codeIn K IY "LinkEnd.read"=true)
  (rJ:PySem.W.keepIn K (.ref lq)=true)
  (kn:PySem.W.findIn K (.ref aY) "meet"=some (some (.ref lr)))
  (mz:PySem.W.isFn K (.ref lr)=true)
  (m8:PySem.W.keepIn K (.ref lr)=true)
  (rK:K.lookup lr=some ⟨Sm,Sn,.func (PySem.W.fnOf "meet" "LinkEnd.meet" (bT tS) (bG tS) (aH tS) .none Sr QA Ss So IZ Su),P9⟩)
  (rL:PySem.W.codeIn K IZ "LinkEnd.meet"=true)
  (rM:PySem.W.keepIn K (.ref lr)=true)
  (g6:PySem.W.findIn K (.ref aY) "come_up"=some (some (.ref fZ)))
  (ie:PySem.W.isFn K (.ref fZ)=true)
  (ig:PySem.W.keepIn K (.ref fZ)=true)
  (ko:K.lookup fZ=some ⟨KS,KW,.func (PySem.W.fnOf "come_up" "LinkEnd.come_up" (bT jD) (bG jD) (aH jD) .none KZ Ib Ka KY u7 Kb),Ia⟩)
  (kq:PySem.W.codeIn K u7 "LinkEnd.come_up"=true)
  (kr:PySem.W.keepIn K (.ref fZ)=true)
  (ij:PySem.W.findIn K (.ref aY) "end_up"=some (some (.ref gi)))
  (jr:PySem.W.isFn K (.ref gi)=true)
  (js:PySem.W.keepIn K (.ref gi)=true)
  (m9:K.lookup gi=some ⟨NV,NW,.func (PySem.W.fnOf "end_up" "LinkEnd.end_up" (bT lL) (bG lL) (aH lL) .none NY Kd NZ NX xN Na),Kc⟩)
  (nB:PySem.W.codeIn K xN "LinkEnd.end_up"=true)
  (nC:PySem.W.keepIn K (.ref gi)=true)
  (eY:PySem.W.findIn K (.ref aY) "start_over"=some (some (.ref cy)))
  (fN:PySem.W.isFn K (.ref cy)=true)
  (fO:PySem.W.keepIn K (.ref cy)=true)
  (g7:K.lookup cy=some ⟨yQ,yR,.func (PySem.W.fnOf "start_over" "LinkEnd.start_over" (bT d9) (bG d9) (aH d9) .none yT xP yU yS ox yV),xO⟩)
  (g8:PySem.W.codeIn K ox "LinkEnd.start_over"=true)
  (g9:PySem.W.keepIn K (.ref cy)=true)
  (eZ:PySem.W.findIn K (.ref aY) "hear_count"=some (some (.ref cz)))
  (fP:PySem.W.isFn K (.ref cz)=true)
  (fQ:PySem.W.keepIn K (.ref cz)=true)
  (hG:K.lookup cz=some ⟨yW,yX,.func (PySem.W.fnOf "hear_count" "LinkEnd.hear_count" (bT eC) (bG eC) (aH eC) .none yZ xR yb yY oy yc),xQ⟩)
  (hJ:PySem.W.codeIn K oy "LinkEnd.hear_count"=true)
  (hU:PySem.W.keepIn K (.ref cz)=true)
  (ed:PySem.W.findIn K (.ref aY) "take_piece"=some (some (.ref c9)))
  (fR:PySem.W.isFn K (.ref c9)=true)
  (fS:PySem.W.keepIn K (.ref c9)=true)
  (hV:K.lookup c9=some ⟨yd,ye,.func (PySem.W.fnOf "take_piece" "LinkEnd.take_piece" (bT eF) (bG eF) (aH eF) .none yg xT yh yf oz yi),xS⟩)
  (hW:PySem.W.codeIn K oz "LinkEnd.take_piece"=true)
  (hX:PySem.W.keepIn K (.ref c9)=true)
  (nE:PySem.W.findIn K (.ref aY) "put"=some (some (.ref pj)))
  (pD:PySem.W.isFn K (.ref pj)=true)
  (pE:PySem.W.keepIn K (.ref pj)=true)
  (uU:K.lookup pj=some ⟨V4,V5,.func (PySem.W.fnOf "put" "LinkEnd.put" (bT zH) (bG zH) (aH zH) .none V7 Sw V8 V6 Lx V9),Sv⟩)
  (uV:PySem.W.codeIn K Lx "LinkEnd.put"=true)
  (uW:PySem.W.keepIn K (.ref pj)=true)
  (pF:PySem.W.findIn K (.ref aY) "up"=some (some (.ref uD)))
  (rN:PySem.W.isFn K (.ref uD)=true)
  (rO:PySem.W.keepIn K (.ref uD)=true)
  (xY:K.lookup uD=some ⟨ZY,ZZ,.func (PySem.W.fnOf "up" "LinkEnd.up" (bT Mm) (bG Mm) (aH Mm) .none Zb WB Zc Za QB Zd),WA⟩)
  (xZ:PySem.W.codeIn K QB "LinkEnd.up"=true)
  (xa:PySem.W.keepIn K (.ref uD)=true)
  (jt:PySem.W.findIn K (.ref aY) "waits"=some (some (.ref jG)))
  (k8:PySem.W.isFn K (.ref jG)=true)
  (k9:PySem.W.keepIn K (.ref jG)=true)
  (pG:K.lookup jG=some ⟨QC,QD,.func (PySem.W.fnOf "waits" "LinkEnd.waits" (bT pV) (bG pV) (aH pV) .none QF Nd QG QE zW QH),Nb⟩)
  (pH:PySem.W.codeIn K zW "LinkEnd.waits"=true)
  (pI:PySem.W.keepIn K (.ref jG)=true)
  (ik:PySem.W.findIn K (.ref aY) "events"=some (some (.ref gj)))
  (ju:PySem.W.isFn K (.ref gj)=true)
  (jv:PySem.W.keepIn K (.ref gj)=true)
  (nF:K.lookup gj=some ⟨Nf,Ng,.func (PySem.W.fnOf "events" "LinkEnd.events" (bT lM) (bG lM) (aH lM) .none Ni Kf Nj Nh xU Nk),Ke⟩)
  (nG:PySem.W.codeIn K xU "LinkEnd.events"=true)
  (nH:PySem.W.keepIn K (.ref gj)=true)
  : ∃ t,Txt K mg t:=⟨⟨eI,cH,dM,eJ,uC,aY,gJ,xJ,cD,ll,cx,lq,lr,fZ,gi,cy,cz,c9,pj,uD,jG,gj⟩,⟨⟨_,PySem.W.mg_of KX G je⟩,⟨_,PySem.W.mg_of KX G o4⟩,⟨_,PySem.W.mg_of KX G jf⟩,⟨_,PySem.W.mg_of KX G o5⟩,⟨_,PySem.W.mg_of KX G mh⟩,⟨_,PySem.W.mg_of KX G gm⟩,⟨_,PySem.W.mg_of KX G mi⟩,⟨_,PySem.W.mg_of KX G mj⟩,⟨_,PySem.W.mg_of KX G o6⟩,⟨_,PySem.W.mg_of KX G ml⟩,⟨_,PySem.W.mg_of KX G o7⟩,⟨_,PySem.W.mg_of KX G uL⟩,⟨_,PySem.W.mg_of KX G Ar⟩,⟨_,PySem.W.mg_of KX G xV⟩,⟨_,PySem.W.mg_of KX G As⟩,PySem.W.mg_none_of KX G Au,PySem.W.mg_none_of KX G xW,PySem.W.mg_none_of KX G Av,PySem.W.mg_none_of KX G Aw,PySem.W.mg_none_of KX G uM,PySem.W.mg_none_of KX G mm,PySem.W.mg_none_of KX G uN,PySem.W.mg_none_of KX G Ax,PySem.W.mg_of KX G qp,PySem.W.mg_of KX G kZ,PySem.W.mg_of KX G o3,PySem.W.mg_of KX G qq,PySem.W.mg_of KX G qr,PySem.W.mg_of KX G qu,PySem.W.mg_of KX G uK,qv,⟨ka,jg,jh,ji,jj,iX⟩,kd,⟨gq,gK,gL,gM,gN,fK⟩,o8,⟨jk,iY,iZ,ia,ib,gr⟩,qw,⟨ke,jl,jm,jn,jo,ic⟩,uO,⟨mn,kf,kg,kh,ki,jq⟩,⟨⟨_,_,_,qx,rfl,rfl,(by show 6≤sizeLine;decide),(.cons ⟨_,rfl⟩ (.cons ⟨_,rfl⟩ (.cons ⟨_,rfl⟩ (.cons ⟨_,rfl⟩ (.cons ⟨_,rfl⟩ (.cons ⟨_,rfl⟩ .nil))))))⟩⟩,⟨uP,xX,Kg,Kh⟩,⟨_,eO Ki Kj Kk⟩,⟨Kl,Km,Kn,Ko⟩,qy,uQ,uR,mo,qz,rA,uS,uT,o9,mq,rB,⟨dN,dc,de⟩,⟨_,eO eT eU eV⟩,⟨kj,mr,mw⟩,⟨_,eO rC rD rF⟩,⟨eX,fL,fM⟩,⟨_,eO gs gy gz⟩,⟨kl,mx,my⟩,⟨_,eO rG rH rJ⟩,⟨kn,mz,m8⟩,⟨_,eO rK rL rM⟩,⟨g6,ie,ig⟩,⟨_,eO ko kq kr⟩,⟨ij,jr,js⟩,⟨_,eO m9 nB nC⟩,⟨eY,fN,fO⟩,⟨_,eO g7 g8 g9⟩,⟨eZ,fP,fQ⟩,⟨_,eO hG hJ hU⟩,⟨ed,fR,fS⟩,⟨_,eO hV hW hX⟩,⟨nE,pD,pE⟩,⟨_,eO uU uV uW⟩,⟨pF,rN,rO⟩,⟨_,eO xY xZ xa⟩,⟨jt,k8,k9⟩,⟨_,eO pG pH pI⟩,⟨ik,ju,jv⟩,⟨_,eO nF nG nH⟩⟩⟩
end K31
open PySem PySem.W PyProof.Rows
def PySem.W.Fast.Dm:Nat:=0
def PySem.W.Fast.Ay:Nat:=0
def PySem.W.Fast.Az:Nat:=0
def PySem.W.Fast.Dn:Nat:=0
def PySem.W.Fast.Ds:Nat:=0
def PySem.W.Fast.Du:Nat:=0
def PySem.W.Fast.Dw:Nat:=0
def PySem.W.Fast.Dx:Nat:=0
def PySem.W.Fast.Iy:Nat:=0
def PySem.W.Fast.Dy:Nat:=0
def PySem.W.Fast.A0:Nat:=0
def PySem.W.Fast.A1:Nat:=0
def PySem.W.Fast.Dz:Nat:=0
def PySem.W.Fast.A2:Nat:=0
def PySem.W.Fast.D7:Nat:=0
def PySem.W.Fast.D8:Nat:=0
def PySem.W.Fast.A3:Nat:=0
def PySem.W.Fast.D9:Nat:=0
def PySem.W.Fast.EA:Nat:=0
def PySem.W.Fast.EB:Nat:=0
def PySem.W.Fast.A4:Nat:=0
def PySem.W.Fast.EC:Nat:=0
def PySem.W.Fast.ED:Nat:=0
def PySem.W.Fast.A5:Nat:=0
def PySem.W.Fast.A6:Nat:=0
def PySem.W.Fast.Ic:Nat:=0
def PySem.W.Fast.EE:Nat:=0
def PySem.W.Fast.A7:Nat:=0
def PySem.W.Fast.A8:Nat:=0
def PySem.W.Fast.EF:Nat:=0
def PySem.W.Fast.EG:Nat:=0
def PySem.W.Fast.A9:Nat:=0
def PySem.W.Fast.EH:Nat:=0
def PySem.W.Fast.EI:Nat:=0
def PySem.W.Fast.BA:Nat:=0
def PySem.W.Fast.BB:Nat:=0
def PySem.W.Fast.EJ:Nat:=0
def PySem.W.Fast.EK:Nat:=0
def PySem.W.Fast.EL:Nat:=0
def PySem.W.Fast.BC:Nat:=0
def PySem.W.Fast.EM:Nat:=0
def PySem.W.Fast.EN:Nat:=0
def PySem.W.Fast.EO:Nat:=0
def PySem.W.Fast.ER:Nat:=0
def PySem.W.Fast.BD:Nat:=0
def PySem.W.Fast.BE:Nat:=0
def PySem.W.Fast.ES:Nat:=0
def PySem.W.Fast.ET:Nat:=0
def PySem.W.Fast.EU:Nat:=0
def PySem.W.Fast.EV:Nat:=0
def PySem.W.Fast.BF:Nat:=0
def PySem.W.Fast.Ie:Nat:=0
def PySem.W.Fast.EW:Nat:=0
def PySem.W.Fast.BG:Nat:=0
def PySem.W.Fast.Ig:Nat:=0
def PySem.W.Fast.BH:Nat:=0
def PySem.W.Fast.BI:Nat:=0
def PySem.W.Fast.BJ:Nat:=0
def PySem.W.Fast.EX:Nat:=0
def PySem.W.Fast.BK:Nat:=0
def PySem.W.Fast.EY:Nat:=0
def PySem.W.Fast.BL:Nat:=0
def PySem.W.Fast.EZ:Nat:=0
def PySem.W.Fast.Ea:Nat:=0
def PySem.W.Fast.Eb:Nat:=0
def PySem.W.Fast.Ec:Nat:=0
def PySem.W.Fast.Ed:Nat:=0
def PySem.W.Fast.BM:Nat:=0
def PySem.W.Fast.BN:Nat:=0
def PySem.W.Fast.BO:Nat:=0
def PySem.W.Fast.BP:Nat:=0
def PySem.W.Fast.BQ:Nat:=0
def PySem.W.Fast.Ee:Nat:=0
def PySem.W.Fast.Ef:Nat:=0
def PySem.W.Fast.Eg:Nat:=0
def PySem.W.Fast.BR:Nat:=0
def PySem.W.Fast.BS:Nat:=0
def PySem.W.Fast.Eh:Nat:=0
def PySem.W.Fast.Ih:Nat:=0
def PySem.W.Fast.Ei:Nat:=0
def PySem.W.Fast.BU:Nat:=0
def PySem.W.Fast.Ej:Nat:=0
def PySem.W.Fast.Ek:Nat:=0
def PySem.W.Fast.El:Nat:=0
def PySem.W.Fast.Em:Nat:=0
def PySem.W.Fast.BV:Nat:=0
def PySem.W.Fast.BW:Nat:=0
def PySem.W.Fast.BX:Nat:=0
def PySem.W.Fast.BY:Nat:=0
def PySem.W.Fast.BZ:Nat:=0
def PySem.W.Fast.Ba:Nat:=0
def PySem.W.Fast.Bb:Nat:=0
def PySem.W.Fast.Ii:Nat:=0
def PySem.W.Fast.Ep:Nat:=0
def PySem.W.Fast.Bc:Nat:=0
def PySem.W.Fast.Be:Nat:=0
def PySem.W.Fast.Bf:Nat:=0
def PySem.W.Fast.Bg:Nat:=0
def PySem.W.Fast.Bh:Nat:=0
def PySem.W.Fast.Er:Nat:=0
def PySem.W.Fast.Bi:Nat:=0
def PySem.W.Fast.Bj:Nat:=0
def PySem.W.Fast.Et:Nat:=0
def PySem.W.Fast.Bm:Nat:=0
def PySem.W.Fast.Eu:Nat:=0
def PySem.W.Fast.Bn:Nat:=0
def PySem.W.Fast.Bo:Nat:=0
def PySem.W.Fast.Ew:Nat:=0
def PySem.W.Fast.Ex:Nat:=0
def PySem.W.Fast.Bq:Nat:=0
def PySem.W.Fast.Ey:Nat:=0
def PySem.W.Fast.Ez:Nat:=0
def PySem.W.Fast.Br:Nat:=0
def PySem.W.Fast.E3:Nat:=0
def PySem.W.Fast.E4:Nat:=0
def PySem.W.Fast.E5:Nat:=0
def PySem.W.Fast.Bs:Nat:=0
def PySem.W.Fast.E6:Nat:=0
def PySem.W.Fast.Bt:Nat:=0
def PySem.W.Fast.Bu:Nat:=0
def PySem.W.Fast.Bw:Nat:=0
def PySem.W.Fast.Bx:Nat:=0
def PySem.W.Fast.By:Nat:=0
def PySem.W.Fast.Bz:Nat:=0
def PySem.W.Fast.B6:Nat:=0
def PySem.W.Fast.E7:Nat:=0
def PySem.W.Fast.E8:Nat:=0
def PySem.W.Fast.E9:Nat:=0
def PySem.W.Fast.B8:Nat:=0
def PySem.W.Fast.FA:Nat:=0
def PySem.W.Fast.B9:Nat:=0
def PySem.W.Fast.FC:Nat:=0
def PySem.W.Fast.FD:Nat:=0
def PySem.W.Fast.CA:Nat:=0
def PySem.W.Fast.FE:Nat:=0
def PySem.W.Fast.FF:Nat:=0
def PySem.W.Fast.CB:Nat:=0
def PySem.W.Fast.FG:Nat:=0
def PySem.W.Fast.FH:Nat:=0
def PySem.W.Fast.CC:Nat:=0
def PySem.W.Fast.CD:Nat:=0
def PySem.W.Fast.CF:Nat:=0
def PySem.W.Fast.FI:Nat:=0
def PySem.W.Fast.FJ:Nat:=0
def PySem.W.Fast.FK:Nat:=0
def PySem.W.Fast.FL:Nat:=0
def PySem.W.Fast.CG:Nat:=0
def PySem.W.Fast.FN:Nat:=0
def PySem.W.Fast.FO:Nat:=0
def PySem.W.Fast.CH:Nat:=0
def PySem.W.Fast.CI:Nat:=0
def PySem.W.Fast.CJ:Nat:=0
def PySem.W.Fast.CK:Nat:=0
def PySem.W.Fast.Ij:Nat:=0
def PySem.W.Fast.CL:Nat:=0
def PySem.W.Fast.CM:Nat:=0
def PySem.W.Fast.FP:Nat:=0
def PySem.W.Fast.FQ:Nat:=0
def PySem.W.Fast.FR:Nat:=0
def PySem.W.Fast.FT:Nat:=0
def PySem.W.Fast.FU:Nat:=0
def PySem.W.Fast.FV:Nat:=0
def PySem.W.Fast.CN:Nat:=0
def PySem.W.Fast.CO:Nat:=0
def PySem.W.Fast.CP:Nat:=0
def PySem.W.Fast.CQ:Nat:=0
def PySem.W.Fast.CS:Nat:=0
def PySem.W.Fast.FW:Nat:=0
def PySem.W.Fast.FX:Nat:=0
def PySem.W.Fast.FY:Nat:=0
def PySem.W.Fast.FZ:Nat:=0
def PySem.W.Fast.Fb:Nat:=0
def PySem.W.Fast.CT:Nat:=0
def PySem.W.Fast.Ik:Nat:=0
def PySem.W.Fast.CU:Nat:=0
def PySem.W.Fast.CV:Nat:=0
def PySem.W.Fast.Fc:Nat:=0
def PySem.W.Fast.CW:Nat:=0
def PySem.W.Fast.CY:Nat:=0
def PySem.W.Fast.CZ:Nat:=0
def PySem.W.Fast.Fd:Nat:=0
def PySem.W.Fast.Ca:Nat:=0
def PySem.W.Fast.Cb:Nat:=0
def PySem.W.Fast.Cc:Nat:=0
def PySem.W.Fast.Cd:Nat:=0
def PySem.W.Fast.Fe:Nat:=0
def PySem.W.Fast.Ff:Nat:=0
def PySem.W.Fast.Ce:Nat:=0
def PySem.W.Fast.Cf:Nat:=0
def PySem.W.Fast.Fg:Nat:=0
def PySem.W.Fast.Fh:Nat:=0
def PySem.W.Fast.Ci:Nat:=0
def PySem.W.Fast.Fi:Nat:=0
def PySem.W.Fast.Cj:Nat:=0
def PySem.W.Fast.Ck:Nat:=0
def PySem.W.Fast.Cn:Nat:=0
def PySem.W.Fast.Co:Nat:=0
def PySem.W.Fast.Fj:Nat:=0
def PySem.W.Fast.Cp:Nat:=0
def PySem.W.Fast.Cq:Nat:=0
def PySem.W.Fast.Fk:Nat:=0
def PySem.W.Fast.Cr:Nat:=0
def PySem.W.Fast.Fl:Nat:=0
def PySem.W.Fast.Cs:Nat:=0
def PySem.W.Fast.Ct:Nat:=0
def PySem.W.Fast.Cu:Nat:=0
def PySem.W.Fast.Fm:Nat:=0
def PySem.W.Fast.Cv:Nat:=0
def PySem.W.Fast.Cw:Nat:=0
def PySem.W.Fast.Cy:Nat:=0
def PySem.W.Fast.Cz:Nat:=0
def PySem.W.Fast.C0:Nat:=0
def PySem.W.Fast.C1:Nat:=0
def PySem.W.Fast.Fn:Nat:=0
def PySem.W.Fast.C2:Nat:=0
def PySem.W.Fast.C3:Nat:=0
def PySem.W.Fast.Fo:Nat:=0
def PySem.W.Fast.C4:Nat:=0
def PySem.W.Fast.C5:Nat:=0
def PySem.W.Fast.Fp:Nat:=0
def PySem.W.Fast.Fq:Nat:=0
def PySem.W.Fast.Fs:Nat:=0
def PySem.W.Fast.Fu:Nat:=0
def PySem.W.Fast.Fv:Nat:=0
def PySem.W.Fast.Fw:Nat:=0
def PySem.W.Fast.Il:Nat:=0
def PySem.W.Fast.Fx:Nat:=0
def PySem.W.Fast.Fy:Nat:=0
def PySem.W.Fast.Fz:Nat:=0
def PySem.W.Fast.C6:Nat:=0
def PySem.W.Fast.C7:Nat:=0
def PySem.W.Fast.F3:Nat:=0
def PySem.W.Fast.C8:Nat:=0
def PySem.W.Fast.F4:Nat:=0
def PySem.W.Fast.F5:Nat:=0
def PySem.W.Fast.F6:Nat:=0
def PySem.W.Fast.Im:Nat:=0
def PySem.W.Fast.F7:Nat:=0
def PySem.W.Fast.Io:Nat:=0
def PySem.W.Fast.F8:Nat:=0
def PySem.W.Fast.F9:Nat:=0
def PySem.W.Fast.C9:Nat:=0
def PySem.W.Fast.GA:Nat:=0
def PySem.W.Fast.GB:Nat:=0
def PySem.W.Fast.DA:Nat:=0
def PySem.W.Fast.GC:Nat:=0
def PySem.W.Fast.DB:Nat:=0
def PySem.W.Fast.DC:Nat:=0
def PySem.W.Fast.DD:Nat:=0
def PySem.W.Fast.DE:Nat:=0
def PySem.W.Fast.DF:Nat:=0
def PySem.W.Fast.GD:Nat:=0
def PySem.W.Fast.GF:Nat:=0
def PySem.W.Fast.DG:Nat:=0
def PySem.W.Fast.DH:Nat:=0
def PySem.W.Fast.Ip:Nat:=0
def PySem.W.Fast.DI:Nat:=0
def PySem.W.Fast.DJ:Nat:=0
def PySem.W.Fast.DK:Nat:=0
def PySem.W.Fast.GG:Nat:=0
def PySem.W.Fast.GH:Nat:=0
def PySem.W.Fast.GI:Nat:=0
def PySem.W.Fast.DL:Nat:=0
def PySem.W.Fast.DM:Nat:=0
def PySem.W.Fast.DN:Nat:=0
def PySem.W.Fast.DO:Nat:=0
def PySem.W.Fast.GJ:Nat:=0
def PySem.W.Fast.DP:Nat:=0
def PySem.W.Fast.DQ:Nat:=0
def PySem.W.Fast.DR:Nat:=0
def PySem.W.Fast.DT:Nat:=0
def PySem.W.Fast.GK:Nat:=0
def PySem.W.Fast.DU:Nat:=0
def PySem.W.Fast.Iq:Nat:=0
def PySem.W.Fast.GL:Nat:=0
def PySem.W.Fast.GN:Nat:=0
def PySem.W.Fast.GO:Nat:=0
def PySem.W.Fast.DV:Nat:=0
def PySem.W.Fast.GP:Nat:=0
def PySem.W.Fast.DW:Nat:=0
def PySem.W.Fast.DX:Nat:=0
def PySem.W.Fast.GQ:Nat:=0
def PySem.W.Fast.DY:Nat:=0
def PySem.W.Fast.DZ:Nat:=0
def PySem.W.Fast.Dc:Nat:=0
def PySem.W.Fast.GR:Nat:=0
def PySem.W.Fast.GS:Nat:=0
def PySem.W.Fast.Dd:Nat:=0
def PySem.W.Fast.GU:Nat:=0
set_option maxRecDepth 100000 in
set_option maxHeartbeats 0 in
theorem PySem.Challenge.cw_stormpost_k31_pieces_once_in_order_holds : PySem.Challenge.rw_stormpost_k31_pieces_once_in_order.Holds := by
 w_on;o_law;k_head;(case hw=>w_witness2)
 k_fill
 refine L2.OO (l:=PySem.Challenge.rw_stormpost_k31_pieces_once_in_order) (k:=13) ⟨rfl,by decide,by decide⟩ rfl rfl (fun w h Y=>PySem.W.kIn_of Y) ?F
 case F =>
  intro w mg fa h KX G UX
  have t7:L2.aP (L2.cn KX) mg "is_sign" K31.pS:=by
   dsimp only [L2.cn]
   refine' L2.aP.mk' KX G ?a ?l ?c ?k
   (case a=>k_is);(case l=>k_is);(case c=>k_is);(case k=>k_is)
  have oX:L2.aP (L2.cn KX) mg "look_sign" K31.j3:=by
   dsimp only [L2.cn]
   refine' L2.aP.mk' KX G ?a ?l ?c ?k
   (case a=>k_is);(case l=>k_is);(case c=>k_is);(case k=>k_is)
  have oY:L2.aP (L2.cn KX) mg "look_unit" K31.j4:=by
   dsimp only [L2.cn]
   refine' L2.aP.mk' KX G ?a ?l ?c ?k
   (case a=>k_is);(case l=>k_is);(case c=>k_is);(case k=>k_is)
  have Am:L2.aP (L2.cn KX) mg "power" K31.vS:=by
   dsimp only [L2.cn]
   refine' L2.aP.mk' KX G ?a ?l ?c ?k
   (case a=>k_is);(case l=>k_is);(case c=>k_is);(case k=>k_is)
  have t8:L2.aP (L2.cn KX) mg "inverse" K31.pT:=by
   dsimp only [L2.cn]
   refine' L2.aP.mk' KX G ?a ?l ?c ?k
   (case a=>k_is);(case l=>k_is);(case c=>k_is);(case k=>k_is)
  have qg:L2.aP (L2.cn KX) mg "exponent" K31.mE:=by
   dsimp only [L2.cn]
   refine' L2.aP.mk' KX G ?a ?l ?c ?k
   (case a=>k_is);(case l=>k_is);(case c=>k_is);(case k=>k_is)
  have qh:L2.aP (L2.cn KX) mg "equation" K31.jO:=by
   dsimp only [L2.cn]
   refine' L2.aP.mk' KX G ?a ?l ?c ?k
   (case a=>k_is);(case l=>k_is);(case c=>k_is);(case k=>k_is)
  have kX:L2.aP (L2.cn KX) mg "pivot_place" K31.hZ:=by
   dsimp only [L2.cn]
   refine' L2.aP.mk' KX G ?a ?l ?c ?k
   (case a=>k_is);(case l=>k_is);(case c=>k_is);(case k=>k_is)
  have oZ:L2.aP (L2.cn KX) mg "exchanged" K31.j5:=by
   dsimp only [L2.cn]
   refine' L2.aP.mk' KX G ?a ?l ?c ?k
   (case a=>k_is);(case l=>k_is);(case c=>k_is);(case k=>k_is)
  have qi:L2.aP (L2.cn KX) mg "lessened" K31.jP:=by
   dsimp only [L2.cn]
   refine' L2.aP.mk' KX G ?a ?l ?c ?k
   (case a=>k_is);(case l=>k_is);(case c=>k_is);(case k=>k_is)
  have t9:L2.aP (L2.cn KX) mg "cleared" K31.jC:=by
   dsimp only [L2.cn]
   refine' L2.aP.mk' KX G ?a ?l ?c ?k
   (case a=>k_is);(case l=>k_is);(case c=>k_is);(case k=>k_is)
  have xC:L2.aP (L2.cn KX) mg "solved" K31.lJ:=by
   dsimp only [L2.cn]
   refine' L2.aP.mk' KX G ?a ?l ?c ?k
   (case a=>k_is);(case l=>k_is);(case c=>k_is);(case k=>k_is)
  have mZ:L2.aP (L2.cn KX) mg "look_signs" K31.iz:=by
   dsimp only [L2.cn]
   refine' L2.aP.mk' KX G ?a ?l ?c ?k
   (case a=>k_is);(case l=>k_is);(case c=>k_is);(case k=>k_is)
  have oa:L2.aP (L2.cn KX) mg "look_cell" K31.j6:=by
   dsimp only [L2.cn]
   refine' L2.aP.mk' KX G ?a ?l ?c ?k
   (case a=>k_is);(case l=>k_is);(case c=>k_is);(case k=>k_is)
  have qj:L2.aP (L2.cn KX) mg "value_at" K31.mF:=by
   dsimp only [L2.cn]
   refine' L2.aP.mk' KX G ?a ?l ?c ?k
   (case a=>k_is);(case l=>k_is);(case c=>k_is);(case k=>k_is)
  have qk:L2.aP (L2.cn KX) mg "troubles" K31.jQ:=by
   dsimp only [L2.cn]
   refine' L2.aP.mk' KX G ?a ?l ?c ?k
   (case a=>k_is);(case l=>k_is);(case c=>k_is);(case k=>k_is)
  have og:L2.aP (L2.cn KX) mg "is_sealed" K31.j7:=by
   dsimp only [L2.cn]
   refine' L2.aP.mk' KX G ?a ?l ?c ?k
   (case a=>k_is);(case l=>k_is);(case c=>k_is);(case k=>k_is)
  have uA:L2.aP (L2.cn KX) mg "carried" K31.lK:=by
   dsimp only [L2.cn]
   refine' L2.aP.mk' KX G ?a ?l ?c ?k
   (case a=>k_is);(case l=>k_is);(case c=>k_is);(case k=>k_is)
  have xD:L2.aP (L2.cn KX) mg "sealed" K31.nv:=by
   dsimp only [L2.cn]
   refine' L2.aP.mk' KX G ?a ?l ?c ?k
   (case a=>k_is);(case l=>k_is);(case c=>k_is);(case k=>k_is)
  have oh:L2.aP (L2.cn KX) mg "look_late" K31.j8:=by
   dsimp only [L2.cn]
   refine' L2.aP.mk' KX G ?a ?l ?c ?k
   (case a=>k_is);(case l=>k_is);(case c=>k_is);(case k=>k_is)
  have jZ:L2.aP (L2.cn KX) mg "look_measure" K31.fj:=by
   dsimp only [L2.cn]
   refine' L2.aP.mk' KX G ?a ?l ?c ?k
   (case a=>k_is);(case l=>k_is);(case c=>k_is);(case k=>k_is)
  have ql:L2.aP (L2.cn KX) mg "quiet_of" K31.mG:=by
   dsimp only [L2.cn]
   refine' L2.aP.mk' KX G ?a ?l ?c ?k
   (case a=>k_is);(case l=>k_is);(case c=>k_is);(case k=>k_is)
  have md:L2.aP (L2.cn KX) mg "lone_place" K31.i0:=by
   dsimp only [L2.cn]
   refine' L2.aP.mk' KX G ?a ?l ?c ?k
   (case a=>k_is);(case l=>k_is);(case c=>k_is);(case k=>k_is)
  have uB:L2.aP (L2.cn KX) mg "is_root" K31.pU:=by
   dsimp only [L2.cn]
   refine' L2.aP.mk' KX G ?a ?l ?c ?k
   (case a=>k_is);(case l=>k_is);(case c=>k_is);(case k=>k_is)
  have iW:L2.aP (L2.cn KX) mg "turned_places" K31.dO:=by
   dsimp only [L2.cn]
   refine' L2.aP.mk' KX G ?a ?l ?c ?k
   (case a=>k_is);(case l=>k_is);(case c=>k_is);(case k=>k_is)
  have qm:L2.aP (L2.cn KX) mg "turns_at" K31.jR:=by
   dsimp only [L2.cn]
   refine' L2.aP.mk' KX G ?a ?l ?c ?k
   (case a=>k_is);(case l=>k_is);(case c=>k_is);(case k=>k_is)
  have xE:L2.aP (L2.cn KX) mg "mended" K31.r9:=by
   dsimp only [L2.cn]
   refine' L2.aP.mk' KX G ?a ?l ?c ?k
   (case a=>k_is);(case l=>k_is);(case c=>k_is);(case k=>k_is)
  have ja:L2.aP (L2.cn KX) mg "number_signs" K31.fk:=by
   dsimp only [L2.cn]
   refine' L2.aP.mk' KX G ?a ?l ?c ?k
   (case a=>k_is);(case l=>k_is);(case c=>k_is);(case k=>k_is)
  have jb:L2.aP (L2.cn KX) mg "signs_number" K31.fo:=by
   dsimp only [L2.cn]
   refine' L2.aP.mk' KX G ?a ?l ?c ?k
   (case a=>k_is);(case l=>k_is);(case c=>k_is);(case k=>k_is)
  have me:L2.aP (L2.cn KX) mg "look_piece" K31.i4:=by
   dsimp only [L2.cn]
   refine' L2.aP.mk' KX G ?a ?l ?c ?k
   (case a=>k_is);(case l=>k_is);(case c=>k_is);(case k=>k_is)
  have oi:L2.aP (L2.cn KX) mg "_law_cell" K31.j9:=by
   dsimp only [L2.cn]
   refine' L2.aP.mk' KX G ?a ?l ?c ?k
   (case a=>k_is);(case l=>k_is);(case c=>k_is);(case k=>k_is)
  have jc:L2.aP (L2.cn KX) mg "_law_numbers" K31.fq:=by
   dsimp only [L2.cn]
   refine' L2.aP.mk' KX G ?a ?l ?c ?k
   (case a=>k_is);(case l=>k_is);(case c=>k_is);(case k=>k_is)
  have jd:L2.aP (L2.cn KX) mg "_law_measure" K31.fu:=by
   dsimp only [L2.cn]
   refine' L2.aP.mk' KX G ?a ?l ?c ?k
   (case a=>k_is);(case l=>k_is);(case c=>k_is);(case k=>k_is)
  have mf:L2.aP (L2.cn KX) mg "_law_turns" K31.fw:=by
   dsimp only [L2.cn]
   refine' L2.aP.mk' KX G ?a ?l ?c ?k
   (case a=>k_is);(case l=>k_is);(case c=>k_is);(case k=>k_is)
  have oj:L2.aP (L2.cn KX) mg "_law_fate" K31.kA:=by
   dsimp only [L2.cn]
   refine' L2.aP.mk' KX G ?a ?l ?c ?k
   (case a=>k_is);(case l=>k_is);(case c=>k_is);(case k=>k_is)
  have kY:L2.aP (L2.cn KX) mg "_law_turned" K31.h8:=by
   dsimp only [L2.cn]
   refine' L2.aP.mk' KX G ?a ?l ?c ?k
   (case a=>k_is);(case l=>k_is);(case c=>k_is);(case k=>k_is)
  have oq:L2.aP (L2.cn KX) mg "_law_give" K31.kB:=by
   dsimp only [L2.cn]
   refine' L2.aP.mk' KX G ?a ?l ?c ?k
   (case a=>k_is);(case l=>k_is);(case c=>k_is);(case k=>k_is)
  have ot:L2.aP (L2.cn KX) mg "_law_dead" K31.kC:=by
   dsimp only [L2.cn]
   refine' L2.aP.mk' KX G ?a ?l ?c ?k
   (case a=>k_is);(case l=>k_is);(case c=>k_is);(case k=>k_is)
  have eR:L2.aP (L2.cn KX) mg "_law_events_right" K31.cv:=by
   dsimp only [L2.cn]
   refine' L2.aP.mk' KX G ?a ?l ?c ?k
   (case a=>k_is);(case l=>k_is);(case c=>k_is);(case k=>k_is)
  have qo:L2.aP (L2.cn KX) mg "_law_put" K31.jS:=by
   dsimp only [L2.cn]
   refine' L2.aP.mk' KX G ?a ?l ?c ?k
   (case a=>k_is);(case l=>k_is);(case c=>k_is);(case k=>k_is)
  have fJ:L2.aP (L2.cn KX) mg "_law_pairs_right" K31.dH:=by
   dsimp only [L2.cn]
   refine' L2.aP.mk' KX G ?a ?l ?c ?k
   (case a=>k_is);(case l=>k_is);(case c=>k_is);(case k=>k_is)
  have Ze:L2.aP (L2.cn KX) mg "law" K31.wC:=by
   dsimp only [L2.cn]
   refine' L2.aP.mk' KX G ?a ?l ?c ?k
   (case a=>k_is);(case l=>k_is);(case c=>k_is);(case k=>k_is)
  have T:∃ t,K31.Txt (L2.cn KX) mg t:=by
   dsimp only [L2.cn]
   refine' K31.V3 KX G ?qp ?kZ ?o3 ?qq ?qr ?qu ?uK ?je ?o4 ?jf ?o5 ?mh ?gm ?mi ?mj ?o6 ?ml ?o7 ?uL ?Ar ?xV ?As ?Au ?xW ?Av ?Aw ?uM ?mm ?uN ?Ax ?qv ?ka ?jg ?jh ?ji ?jj ?iX ?kd ?gq ?gK ?gL ?gM ?gN ?fK ?o8 ?jk ?iY ?iZ ?ia ?ib ?gr ?qw ?ke ?jl ?jm ?jn ?jo ?ic ?uO ?mn ?kf ?kg ?kh ?ki ?jq ?qx ?uP ?xX ?Kg ?Kh ?Ki ?Kj ?Kk ?Kl ?Km ?Kn ?Ko ?qy ?uQ ?uR ?mo ?qz ?rA ?uS ?uT ?o9 ?mq ?rB ?dN ?dc ?de ?eT ?eU ?eV ?kj ?mr ?mw ?rC ?rD ?rF ?eX ?fL ?fM ?gs ?gy ?gz ?kl ?mx ?my ?rG ?rH ?rJ ?kn ?mz ?m8 ?rK ?rL ?rM ?g6 ?ie ?ig ?ko ?kq ?kr ?ij ?jr ?js ?m9 ?nB ?nC ?eY ?fN ?fO ?g7 ?g8 ?g9 ?eZ ?fP ?fQ ?hG ?hJ ?hU ?ed ?fR ?fS ?hV ?hW ?hX ?nE ?pD ?pE ?uU ?uV ?uW ?pF ?rN ?rO ?xY ?xZ ?xa ?jt ?k8 ?k9 ?pG ?pH ?pI ?ik ?ju ?jv ?nF ?nG ?nH
   (case qp=>k_is)
   (case kZ=>k_is)
   (case o3=>k_is)
   (case qq=>k_is)
   (case qr=>k_is)
   (case qu=>k_is)
   (case uK=>k_is)
   (case je=>k_is)
   (case o4=>k_is)
   (case jf=>k_is)
   (case o5=>k_is)
   (case mh=>k_is)
   (case gm=>k_is)
   (case mi=>k_is)
   (case mj=>k_is)
   (case o6=>k_is)
   (case ml=>k_is)
   (case o7=>k_is)
   (case uL=>k_is)
   (case Ar=>k_is)
   (case xV=>k_is)
   (case As=>k_is)
   (case Au=>k_is)
   (case xW=>k_is)
   (case Av=>k_is)
   (case Aw=>k_is)
   (case uM=>k_is)
   (case mm=>k_is)
   (case uN=>k_is)
   (case Ax=>k_is)
   (case qv=>k_exc)
   (case ka=>k_is)
   (case jg=>k_is)
   (case jh=>k_is)
   (case ji=>k_is)
   (case jj=>k_is)
   (case iX=>k_is)
   (case kd=>k_exc)
   (case gq=>k_is)
   (case gK=>k_is)
   (case gL=>k_is)
   (case gM=>k_is)
   (case gN=>k_is)
   (case fK=>k_is)
   (case o8=>k_exc)
   (case jk=>k_is)
   (case iY=>k_is)
   (case iZ=>k_is)
   (case ia=>k_is)
   (case ib=>k_is)
   (case gr=>k_is)
   (case qw=>k_exc)
   (case ke=>k_is)
   (case jl=>k_is)
   (case jm=>k_is)
   (case jn=>k_is)
   (case jo=>k_is)
   (case ic=>k_is)
   (case uO=>k_exc)
   (case mn=>k_is)
   (case kf=>k_is)
   (case kg=>k_is)
   (case kh=>k_is)
   (case ki=>k_is)
   (case jq=>k_is)
   (case qx=>k_is)
   (case uP=>k_is)
   (case xX=>k_is)
   (case Kg=>k_is)
   (case Kh=>k_is)
   (case Ki=>k_is)
   (case Kj=>k_is)
   (case Kk=>k_is)
   (case Kl=>k_is)
   (case Km=>k_is)
   (case Kn=>k_is)
   (case Ko=>k_is)
   (case qy=>k_is)
   (case uQ=>k_is)
   (case uR=>k_is)
   (case mo=>k_is)
   (case qz=>k_is)
   (case rA=>k_is)
   (case uS=>k_is)
   (case uT=>k_is)
   (case o9=>k_is)
   (case mq=>k_is)
   (case rB=>k_is)
   (case dN=>k_is)
   (case dc=>k_is)
   (case de=>k_is)
   (case eT=>k_is)
   (case eU=>k_is)
   (case eV=>k_is)
   (case kj=>k_is)
   (case mr=>k_is)
   (case mw=>k_is)
   (case rC=>k_is)
   (case rD=>k_is)
   (case rF=>k_is)
   (case eX=>k_is)
   (case fL=>k_is)
   (case fM=>k_is)
   (case gs=>k_is)
   (case gy=>k_is)
   (case gz=>k_is)
   (case kl=>k_is)
   (case mx=>k_is)
   (case my=>k_is)
   (case rG=>k_is)
   (case rH=>k_is)
   (case rJ=>k_is)
   (case kn=>k_is)
   (case mz=>k_is)
   (case m8=>k_is)
   (case rK=>k_is)
   (case rL=>k_is)
   (case rM=>k_is)
   (case g6=>k_is)
   (case ie=>k_is)
   (case ig=>k_is)
   (case ko=>k_is)
   (case kq=>k_is)
   (case kr=>k_is)
   (case ij=>k_is)
   (case jr=>k_is)
   (case js=>k_is)
   (case m9=>k_is)
   (case nB=>k_is)
   (case nC=>k_is)
   (case eY=>k_is)
   (case fN=>k_is)
   (case fO=>k_is)
   (case g7=>k_is)
   (case g8=>k_is)
   (case g9=>k_is)
   (case eZ=>k_is)
   (case fP=>k_is)
   (case fQ=>k_is)
   (case hG=>k_is)
   (case hJ=>k_is)
   (case hU=>k_is)
   (case ed=>k_is)
   (case fR=>k_is)
   (case fS=>k_is)
   (case hV=>k_is)
   (case hW=>k_is)
   (case hX=>k_is)
   (case nE=>k_is)
   (case pD=>k_is)
   (case pE=>k_is)
   (case uU=>k_is)
   (case uV=>k_is)
   (case uW=>k_is)
   (case pF=>k_is)
   (case rN=>k_is)
   (case rO=>k_is)
   (case xY=>k_is)
   (case xZ=>k_is)
   (case xa=>k_is)
   (case jt=>k_is)
   (case k8=>k_is)
   (case k9=>k_is)
   (case pG=>k_is)
   (case pH=>k_is)
   (case pI=>k_is)
   (case ik=>k_is)
   (case ju=>k_is)
   (case jv=>k_is)
   (case nF=>k_is)
   (case nG=>k_is)
   (case nH=>k_is)
  obtain ⟨t,T⟩:=T
  exact L2.ON Ze (fun _ _ _ _ _ _ us hl=>match us,hl with | [_],_=>rfl) UX fun f fd base F=>K31.SV T F t7 oX oY Am t8 qg qh kX oZ qi t9 xC mZ oa qj qk og uA xD oh jZ ql md uB iW qm xE ja jb me oi jc jd mf oj kY oq ot eR qo fJ
#print axioms PySem.Challenge.cw_stormpost_k31_pieces_once_in_order_holds
