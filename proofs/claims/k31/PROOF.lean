import PyProof.Rows.All
import Wide.All
import OpenK.AllK
import Wide.FinOn
import Lean
import PyProof.EqAt
import PyProof.EqKinds
import PyProof.TupleCall
import PySem.Challenge.RW_stormpost_k31_pieces_once_in_order
set_option genSizeOf false
set_option Elab.async false
set_option linter.all false
set_option maxRecDepth 100000
namespace L2
open PySem PySem.Spec PyProof.Rows
abbrev Key:=Sum Int Str
def yl:Key→Value→Bool
 | .inl k,v=>Value.isInt k v
 | .inr x,v=>Value.isStrOf x v
def Vc (w:World):Key→Int
 | .inl k=>hashInt k
 | .inr x=>hashStr w x
theorem cV:∀ {k:Key} {v:Value},yl k v=true→(∃ i t,k=Sum.inl i∧v=Value.int i t)∨(∃ x t,k=Sum.inr x∧v=Value.str x t)
 | .inl i,v,h=>by
  obtain ⟨t,e⟩:=Value.isInt_shape (k:=i) (v:=v) h
  exact .inl ⟨i,t,rfl,e⟩
 | .inr x,v,h=>by
  obtain ⟨t,e⟩:=Value.isStrOf_shape (x:=x) (v:=v) h
  exact .inr ⟨x,t,rfl,e⟩
theorem GH (i:Int) (t:Tok):yl (.inl i) (.int i t)=true:=by simp [yl,Value.isInt]
theorem GI (x:Str) (t:Tok):yl (.inr x) (.str x t)=true:=by simp [yl,Value.isStrOf]
theorem OI (a b:Int):decide ((Sum.inl a:Key)=Sum.inl b)=(a == b):=by
 by_cases e:a=b
 ·subst e;simp
 ·have h:¬ (Sum.inl a:Key)=Sum.inl b:=fun q=>e (Sum.inl.inj q)
  rw [decide_eq_false h]
  exact (beq_eq_false_iff_ne.mpr e).symm
theorem OJ (a b:Str):decide ((Sum.inr a:Key)=Sum.inr b)=decide (a=b):=by
 by_cases e:a=b
 ·subst e;simp
 ·have h:¬ (Sum.inr a:Key)=Sum.inr b:=fun q=>e (Sum.inr.inj q)
  rw [decide_eq_false h,decide_eq_false e]
theorem OK (a:Int) (b:Str):decide ((Sum.inl a:Key)=Sum.inr b)=false:=decide_eq_false (fun q=>nomatch q)
theorem OL (a:Str) (b:Int):decide ((Sum.inr a:Key)=Sum.inl b)=false:=decide_eq_false (fun q=>nomatch q)
def be (prog:Program) (w:World):PySem.KeyKind prog w Key where
 is:=yl
 hash:=Vc w
 inj:=fun v a b ha hb=>by
  rcases cV ha with ⟨i,t,rfl,rfl⟩ | ⟨x,t,rfl,rfl⟩
  ·rcases cV hb with ⟨j,u,rfl,e⟩ | ⟨y,u,rfl,e⟩
   ·injection e with e1 _;rw [e1]
   ·exact nomatch e
  ·rcases cV hb with ⟨j,u,rfl,e⟩ | ⟨y,u,rfl,e⟩
   ·exact nomatch e
   ·injection e with e1 _;rw [e1]
 byValue:=fun k v h=>by
  rcases cV h with ⟨i,t,rfl,rfl⟩ | ⟨x,t,rfl,rfl⟩ <;> rfl
 pyHash:=fun hv h=>by
  rcases cV hv with ⟨i,t,rfl,rfl⟩ | ⟨x,t,rfl,rfl⟩
  ·exact wpAny_pyHash_int h
  ·exact wpAny_pyHash_str h
 eqBool:=fun hu hv h=>by
  rcases cV hu with ⟨i,t,rfl,rfl⟩ | ⟨x,t,rfl,rfl⟩
  ·rcases cV hv with ⟨j,u,rfl,rfl⟩ | ⟨y,u,rfl,rfl⟩
   ·rw [OI] at h;exact wpAny_eqBool_int h
   ·rw [OK] at h;exact SeqAt.EqAt.int_str i t y u _ _ _ _ h
  ·rcases cV hv with ⟨j,u,rfl,rfl⟩ | ⟨y,u,rfl,rfl⟩
   ·rw [OL] at h;exact SeqAt.EqAt.str_int x t j u _ _ _ _ h
   ·rw [OJ] at h;exact wpAny_eqBool_str h
 «strs»:=fun k x t v h=>by
  rcases cV h with ⟨i,u,rfl,e⟩ | ⟨y,u,rfl,e⟩
  ·exact nomatch e
  ·injection e with e1 _
   subst e1
   cases v <;> rfl
theorem A5 (prog:Program) (w:World) (i:Int) (t:Tok):(be prog w).is (.inl i) (.int i t)=true:=GH i t
theorem A6 (prog:Program) (w:World) (x:Str) (t:Tok):(be prog w).is (.inr x) (.str x t)=true:=GI x t
end L2
namespace L2
open PySem PySem.Spec PyProof.Rows
inductive V where
 | bN | bl (b:Bool) | int (i:Int) | str (x:Str) | E3 (b:Array UInt8) | Qn (b:UInt64) | ref (a:Addr) | ty (n:String)
 deriving DecidableEq
def RelV:V→Value→Prop
 | .bN,u=>u=Value.none
 | .bl b,u=>u=Value.bool b
 | .int i,u=>∃ t,u=Value.int i t
 | .str x,u=>∃ t,u=Value.str x t
 | .E3 b,u=>∃ t,u=Value.bytes b t
 | .Qn b,u=>∃ t,u=Value.float b t
 | .ref a,u=>u=Value.ref a
 | .ty n,u=>u=Value.type n
abbrev au:List V→List Value→Prop:=Paired RelV
theorem au.length {xs:List V} {us:List Value} (r:au xs us):xs.length=us.length:=Paired.length r
theorem au.get:∀ {xs:List V} {us:List Value} {i:Nat} {x:V},au xs us→xs[i]?=some x→∃ u,us[i]?=some u∧RelV x u
 | _,_,_,_,.nil,e=>by simp at e
 | _,_,0,_,.cons r _,e=>by simp at e;subst e;exact ⟨_,rfl,r⟩
 | _,_,i+1,x,.cons _ t,e=>by
  obtain ⟨u,h1,h2⟩:=au.get (i:=i) (x:=x) t (by simpa using e)
  exact ⟨u,by simpa using h1,h2⟩
theorem au.set {x:V} {u:Value} (r:RelV x u):∀ {xs:List V} {us:List Value} (i:Nat),au xs us→au (xs.set i x) (us.set i u)
 | _,_,_,.nil=>.nil
 | _,_,0,.cons _ t=>.cons r t
 | _,_,i+1,.cons q t=>.cons q (au.set r i t)
theorem au.append:∀ {xs ys:List V} {us ws:List Value},au xs us→au ys ws→au (xs ++ ys) (us ++ ws)
 | _,_,_,_,.nil,s=>s
 | _,_,_,_,.cons r t,s=>.cons r (au.append t s)
theorem au.take:∀ {xs:List V} {us:List Value} (n:Nat),au xs us→au (xs.take n) (us.take n)
 | _,_,0,_=>.nil
 | _,_,_+1,.nil=>.nil
 | _,_,n+1,.cons r t=>.cons r (au.take n t)
theorem au.drop:∀ {xs:List V} {us:List Value} (n:Nat),au xs us→au (xs.drop n) (us.drop n)
 | _,_,0,r=>r
 | _,_,_+1,.nil=>.nil
 | _,_,n+1,.cons _ t=>au.drop n t
theorem au.none_of:∀ {xs:List V} {us:List Value} {i:Nat},au xs us→xs[i]?=none→us[i]?=none:=fun {xs us i} r e=>by
 have h1:=r.length
 have h2:xs.length≤i:=List.getElem?_eq_none_iff.mp e
 exact List.getElem?_eq_none_iff.mpr (by omega)
def lB:Option V→Option Value→Prop
 | some v,some u=>RelV v u
 | none,none=>True
 | _,_=>False
def KV {κ:Type}:List (κ × V)→List (κ × Value)→Prop:=Paired fun (p:κ × V) (q:κ × Value)=>p.1=q.1∧RelV p.2 q.2
def kV:Key→V
 | .inl i=>.int i
 | .inr x=>.str x
inductive HO where
 | lst (xs:List V)
 | tup (xs:List V)
 | dK (aq:List (Key × V)) | dT (aq:List (List Key × V))
 | set (S:Int→Bool) (n:Nat)
 | ins (C dx:Addr) (fs:List (Str × V))
 | own (x:Addr)
 | xd (fs:List (Str × V))
 | met (f x:Addr)
 | Uo (lo hi:Int)
 | Cy (o:Obj) (u:HO)
 | NY (ps:Array Value)
 | ext (φ:Heap→Prop)
abbrev Hp:=Addr→Option HO
def upd (H:Hp) (a:Addr) (o:HO):Hp:=fun b=>if b=a then some o else H b
theorem aB {H:Hp} {a:Addr} {o:HO}:upd H a o a=some o:=by unfold upd;rw [if_pos rfl]
theorem aE {H:Hp} {a b:Addr} {o:HO} (h:b≠a):upd H a o b=H b:=by unfold upd;rw [if_neg h]
theorem iu {H:Hp} {a:Addr} {o u:HO}:upd (upd H a o) a u=upd H a u:=by
 funext b;unfold upd;split <;> rfl
theorem RN {H:Hp} {a b:Addr} {o u:HO} (h:H a=some o) (h':H b=some u) (d:o≠u):a≠b:=by
 intro e;subst e;rw [h] at h';exact d (Option.some.inj h')
theorem aK {H:Hp} {a b:Addr} {o:HO} (h:H a=some o) (h':H b=none):a≠b:=by
 intro e;subst e;rw [h] at h';cases h'
section
variable (P:Program) (w:World)
def cI (H:Hp) (h:Heap) (a:Addr):HO→Prop
 | .lst xs=>xs.length≤sizeLine∧∃ (ai:List Value) (n:Nat),au xs ai∧h.get? a=some { cls:=.type "list",data:=.seq ai.toArray n }
 | .tup xs=>xs.length≤sizeLine∧∃ ai:List Value,au xs ai∧IsTup h a ai.toArray
 | .dK aq=>aq.length≤sizeLine∧(a == sysModules)=false∧∃ vs,KV aq vs∧h.DictOf (be P w) a vs
 | .dT aq=>aq.length≤sizeLine∧(a == sysModules)=false∧∃ xs:List (List Key × Addr × Value),
   Paired (fun (p:List Key × V) (q:List Key × Addr × Value)=>p.1=q.1∧H q.2.1=some (.tup (p.1.map kV))∧RelV p.2 q.2.2) aq xs ∧
   ∃ o es ep,h.get? a=some o∧o.ExactDict∧o.data=.dict es ep∧es.toList=xs.map (entryOfKey (tupleKind (be P w)))∧(xs.map (·.1)).Nodup
 | .set S n=>h.SetOf (intKind P w) a S n
 | .ins C dx fs=>H dx=some (.own a)∧fs.length≤1000∧dx≠a∧h.get? a=some (PySem.W.instObj C dx) ∧
   ∃ mA,h.Ns1 dx mA∧(∀ f,lB (fs.lookup f) (mA f))∧PySem.Within mA (fs.map (·.1))
 | .own _=>∃ o,h.get? a=some o
 | .xd fs=>∃ mA,h.Ns1 a mA∧∀ f,lB (fs.lookup f) (mA f)
 | .Uo lo hi=>∃ t u v,h.get? a=some { cls:=.type "range",data:=.fields #[.int lo t,.int hi u,.int 1 v] }
 | .Cy o u=>h.get? a=some o∧cI H h a u
 | .NY ps=>h.get? a=some { cls:=.none,data:=.fields ps }
 | .met f x=>h.get? a=some (PySem.W.methodObj (.ref f) (.ref x))
 | .ext φ=>φ h∧(∃ o,h.get? a=some o)∧∀ h1 h2:Heap,φ h1→(∀ o,h1.get? a=some o→h2.get? a=some o)→φ h2
def pw (H:Hp) (h:Heap):Prop:=∀ a o,H a=some o→cI P w H h a o
end
section
variable {P:Program} {w:World} {H H':Hp} {h h':Heap} {a:Addr} {o:HO}
theorem cI.lt (x:cI P w H h a o):a < h.objs.size:=by
 cases o with
 | lst xs=>obtain ⟨_,_,_,_,e⟩:=x;exact Heap.lt_size e
 | tup xs=>obtain ⟨_,_,_,p⟩:=x;exact p.lt
 | dK aq=>obtain ⟨_,_,_,_,o,_,_,e,_⟩:=x;exact Heap.lt_size e
 | dT aq=>obtain ⟨_,_,_,_,o,_,_,e,_⟩:=x;exact Heap.lt_size e
 | set S n=>obtain ⟨o,_,_,_,e,_⟩:=x;exact Heap.lt_size e
 | ins C dx fs=>obtain ⟨_,_,_,e,_⟩:=x;exact Heap.lt_size e
 | own y=>obtain ⟨_,e⟩:=x;exact Heap.lt_size e
 | xd fs=>obtain ⟨_,⟨_,_,_,e,_⟩,_⟩:=x;exact Heap.lt_size e
 | Uo lo hi=>obtain ⟨_,_,_,e⟩:=x;exact Heap.lt_size e
 | Cy ob u=>obtain ⟨e,_⟩:=x;exact Heap.lt_size e
 | NY ps=>exact Heap.lt_size (show h.get? a=some _ from x)
 | met f y=>exact Heap.lt_size (show h.get? a=some _ from x)
 | ext φ=>obtain ⟨_,⟨_,e⟩,_⟩:=x;exact Heap.lt_size e
theorem Paired.OM {α β:Type} {F G:α→β→Prop}:∀ {l₁:List α} {l₂:List β},Paired F l₁ l₂→(∀ a b,F a b→G a b)→Paired G l₁ l₂
 | _,_,.nil,_=>.nil
 | _,_,.cons r t,f=>.cons (f _ _ r) (Paired.OM t f)
theorem cI.A7 (x:cI P w H h a o) (k:∀ b u,(b=a∨H b=some (.own a))→h.get? b=some u→h'.get? b=some u)
  (ho:∀ b,H b=some (.own a)→H' b=some (.own a)) (ht:∀ b xs,H b=some (.tup xs)→H' b=some (.tup xs)):cI P w H' h' a o:=by
 induction o with
 | lst xs=>obtain ⟨z,ai,n,r,e⟩:=x;exact ⟨z,ai,n,r,k _ _ (.inl rfl) e⟩
 | tup xs=>obtain ⟨z,ai,r,ob,e,c⟩:=x;exact ⟨z,ai,r,ob,k _ _ (.inl rfl) e,c⟩
 | dK aq=>obtain ⟨z,y,vs,r,ob,es,ep,e,c⟩:=x;exact ⟨z,y,vs,r,ob,es,ep,k _ _ (.inl rfl) e,c⟩
 | dT aq =>
  obtain ⟨z,y,xs,r,ob,es,ep,e,c⟩:=x
  exact ⟨z,y,xs,Paired.OM r fun p q z=>⟨z.1,ht _ _ z.2.1,z.2.2⟩,ob,es,ep,k _ _ (.inl rfl) e,c⟩
 | set S n=>obtain ⟨ob,es,ep,t,e,c⟩:=x;exact ⟨ob,es,ep,t,k _ _ (.inl rfl) e,c⟩
 | ins C dx fs =>
  obtain ⟨d,z,ne,e,mA,⟨od,es,ep,e2,c⟩,r⟩:=x
  exact ⟨ho _ d,z,ne,k _ _ (.inl rfl) e,mA,⟨od,es,ep,k _ _ (.inr d) e2,c⟩,r⟩
 | own y=>obtain ⟨ob,e⟩:=x;exact ⟨ob,k _ _ (.inl rfl) e⟩
 | xd fs=>obtain ⟨mA,⟨od,es,ep,e,c⟩,r⟩:=x;exact ⟨mA,⟨od,es,ep,k _ _ (.inl rfl) e,c⟩,r⟩
 | Uo lo hi=>obtain ⟨t,u,v,e⟩:=x;exact ⟨t,u,v,k _ _ (.inl rfl) e⟩
 | Cy ob u ih=>obtain ⟨e,q⟩:=x;exact ⟨k _ _ (.inl rfl) e,ih q⟩
 | NY ps =>
  have e:h.get? a=some { cls:=.none,data:=.fields ps }:=x
  show h'.get? a=some { cls:=.none,data:=.fields ps }
  exact k a _ (.inl rfl) e
 | met f y =>
  have e:h.get? a=some (PySem.W.methodObj (.ref f) (.ref y)):=x
  show h'.get? a=some (PySem.W.methodObj (.ref f) (.ref y))
  exact k a _ (.inl rfl) e
 | ext φ=>obtain ⟨p,⟨o,e⟩,st⟩:=x;exact ⟨st _ _ p fun o q=>k _ _ (.inl rfl) q,⟨o,k _ _ (.inl rfl) e⟩,st⟩
theorem pw.lt (x:pw P w H h) (e:H a=some o):a < h.objs.size:=(x a o e).lt
theorem pw.fresh (x:pw P w H h) (e:h.objs.size≤a):H a=none:=by
 cases q:H a with
 | none=>rfl
 | some u=>exact absurd (Nat.lt_of_lt_of_le (x.lt q) e) (Nat.lt_irrefl _)
theorem pw.kept (x:pw P w H h) (k:∀ b u,h.get? b=some u→h'.get? b=some u):pw P w H h':=fun a o e =>
 (x a o e).A7 (fun b u _ q=>k b u q) (fun _ q=>q) fun _ _ q=>q
theorem pw.laid (x:pw P w H h) (k:∀ b u,h.get? b=some u→h'.get? b=some u) (hp:h.objs.size≤a) (new:cI P w (upd H a o) h' a o):pw P w (upd H a o) h':=fun b u e=>by
 have hn:=x.fresh hp
 by_cases hb:b=a
 ·subst hb;rw [aB] at e;cases e;exact new
 ·rw [aE hb] at e
  exact (x b u e).A7 (fun c v _ q=>k c v q) (fun c q=>by rw [aE (aK q hn)];exact q) fun c xs q=>by rw [aE (aK q hn)];exact q
end
def Rd (H:Hp) (a:Addr) (u:HO):Prop:=H a=some u∨∃ o,H a=some (.Cy o u)
theorem Rd.of {H:Hp} {a:Addr} {u:HO} (h:H a=some u):Rd H a u:=.inl h
theorem Rd.ok {P:Program} {w:World} {H:Hp} {h:Heap} {a:Addr} {u:HO} (r:Rd H a u) (x:pw P w H h):cI P w H h a u:=by
 rcases r with r | ⟨o,r⟩
 ·exact x a u r
 ·obtain ⟨_,q⟩:=x a _ r
  exact q
def RO:Option HO→Prop
 | some (.lst _)=>True
 | some (.dK _)=>True
 | some (.dT _)=>True
 | some (.set _ _)=>True
 | some (.ins _ _ _)=>True
 | some (.ext _)=>True
 | _=>False
section
variable {P:Program} {w:World} {H:Hp} {h h':Heap} {x e:Addr} {o':HO}
theorem pw.write (ok:pw P w H h) (mu:RO (H x)) (he:e=x∨H e=some (.own x)) (k:∀ b u,b≠e→h.get? b=some u→h'.get? b=some u) (Qo:∃ u,h'.get? e=some u)
  (new:cI P w (upd H x o') h' x o'):pw P w (upd H x o') h':=fun b u q=>by
 have RP:∀ c y,H c=some (.own y)→c≠x:=fun c y r z=>by subst z;rw [r] at mu;exact mu
 have Vd:∀ c xs,H c=some (.tup xs)→c≠x:=fun c xs r z=>by subst z;rw [r] at mu;exact mu
 by_cases hb:b=x
 ·subst hb;rw [aB] at q;cases q;exact new
 ·rw [aE hb] at q
  by_cases IT:b=e
  ·have q':H b=some (.own x):=by
    rcases he with z | z
    ·exact absurd (IT.trans z) hb
    ·rw [IT];exact z
   rw [q] at q';cases q'
   obtain ⟨v,hv⟩:=Qo
   exact ⟨v,by rw [IT];exact hv⟩
  ·refine (ok b u q).A7 (fun c v hc r=>k c v ?_ r) (fun c r=>by rw [aE (RP c b r)];exact r) fun c xs r=>by rw [aE (Vd c xs r)];exact r
   rcases hc with rfl | hc
   ·exact IT
   ·rintro rfl
    rcases he with z | z
    ·exact RP c b hc z
    ·rw [hc] at z;cases z;exact hb rfl
end
structure Un (fs ex:List Addr) (H H':Hp) (h h':Heap):Prop where
 keep:∀ b o,h.get? b=some o→H b=none→b ∉ fs→b ∉ ex→h'.get? b=some o
 slot:∀ b o,h.get? b=some o→H b=none→b ∈ fs→b ∉ ex→∃ sl,h'.get? b=some { o with slots:=sl }
 free:∀ b o,h.get? b=some o→H b=none→b ∉ ex→H' b=none
 there:∀ b o,h.get? b=some o→b ∉ ex→∃ o',h'.get? b=some o'
 nV:∀ b xs,H b=some (.tup xs)→H' b=some (.tup xs)
 nR:∀ b o u,H b=some (.Cy o u)→H' b=some (.Cy o u)
 nW:∀ b ps,H b=some (.NY ps)→∃ more,H' b=some (.NY (ps ++ more))
section
variable {fs Ky ex Ve:List Addr} {H H1 H2:Hp} {h h1 h2 h':Heap} {a x e:Addr} {o:HO}
theorem Un.any (u:Un fs ex H H1 h h1) {b:Addr} {ob:Obj} (q:h.get? b=some ob) (n:H b=none) (hx:b ∉ ex):∃ sl,h1.get? b=some { ob with slots:=sl }:=by
 by_cases hb:b ∈ fs
 ·exact u.slot b ob q n hb hx
 ·exact ⟨ob.slots,u.keep b ob q n hb hx⟩
theorem Un.trans (a:Un fs ex H H1 h h1) (b:Un fs ex H1 H2 h1 h2):Un fs ex H H2 h h2 where
 keep:=fun c ob q n hc hx=>b.keep c ob (a.keep c ob q n hc hx) (a.free c ob q n hx) hc hx
 slot:=fun c ob q n hc hx=>by
  obtain ⟨sl,e1⟩:=a.slot c ob q n hc hx
  obtain ⟨RR,e2⟩:=b.slot c _ e1 (a.free c ob q n hx) hc hx
  exact ⟨RR,e2⟩
 free:=fun c ob q n hx=>by
  obtain ⟨o',e1⟩:=a.there c ob q hx
  exact b.free c o' e1 (a.free c ob q n hx) hx
 there:=fun c ob q hx=>by
  obtain ⟨o',e1⟩:=a.there c ob q hx
  exact b.there c o' e1 hx
 nV:=fun c xs q=>b.nV c xs (a.nV c xs q)
 nR:=fun c ob xs q=>b.nR c ob xs (a.nR c ob xs q)
 nW:=fun c ps q=>by
  obtain ⟨m1,e1⟩:=a.nW c ps q
  obtain ⟨m2,e2⟩:=b.nW c _ e1
  exact ⟨m1 ++ m2,by rw [e2,Array.append_assoc]⟩
theorem Un.kept (k:∀ b u,h.get? b=some u→h'.get? b=some u):Un fs ex H H h h' :=
 ⟨fun b ob q _ _ _=>k b ob q,fun b ob q _ _ _=>⟨ob.slots,k b ob q⟩,fun _ _ _ n _=>n,fun b ob q _=>⟨ob,k b ob q⟩,fun _ _ q=>q,fun _ _ _ q=>q,fun _ ps q=>⟨#[],by rw [q];simp⟩⟩
theorem Un.refl:Un fs ex H H h h:=Un.kept fun _ _ q=>q
theorem Un.laid (k:∀ b u,h.get? b=some u→h'.get? b=some u) (hp:h.objs.size≤a) (hn:H a=none):Un fs ex H (upd H a o) h h' where
 keep:=fun b u q _ _ _=>k b u q
 slot:=fun b u q _ _ _=>⟨u.slots,k b u q⟩
 free:=fun b u q n _=>by rw [aE (Nat.ne_of_lt (Nat.lt_of_lt_of_le (Heap.lt_size q) hp))];exact n
 there:=fun b u q _=>⟨u,k b u q⟩
 nV:=fun b xs q=>by rw [aE (aK q hn)];exact q
 nR:=fun b u xs q=>by rw [aE (aK q hn)];exact q
 nW:=fun b ps q=>⟨#[],by rw [aE (aK q hn),q];simp⟩
theorem Un.write (mu:RO (H x)) (he:e=x∨H e=some (.own x)) (k:∀ b u,b≠e→h.get? b=some u→h'.get? b=some u) (Qo:∃ u,h'.get? e=some u):Un fs ex H (upd H x o) h h':=by
 have hx:∀ b,H b=none→b≠x:=fun b n z=>by subst z;rw [n] at mu;exact mu
 have hb:∀ b,H b=none→b≠e:=fun b n z=>by
  subst z
  rcases he with r | r
  ·exact hx b n r
  ·rw [n] at r;cases r
 have hm:∀ b u,H b=some u→¬ RO (some u)→b≠x:=fun b u q nm z=>by subst z;rw [q] at mu;exact nm mu
 refine ⟨fun b u q n _ _=>k b u (hb b n) q,fun b u q n _ _=>⟨u.slots,k b u (hb b n) q⟩,fun b u q n _=>by rw [aE (hx b n)];exact n,fun b u q _=>?_,
  fun b xs q=>by rw [aE (hm b _ q fun z=>z)];exact q,fun b u xs q=>by rw [aE (hm b _ q fun z=>z)];exact q,fun b ps q=>⟨#[],by rw [aE (hm b _ q fun z=>z),q];simp⟩⟩
 by_cases IT:b=e
 ·subst IT;exact Qo
 ·exact ⟨u,k b u IT q⟩
theorem Un.mono (u:Un fs ex H H1 h h1) (hs:∀ b ∈ fs,b ∈ Ky) (hx:∀ b ∈ ex,b ∈ Ve):Un Ky Ve H H1 h h1 :=
 ⟨fun b ob q n hb he=>u.keep b ob q n (fun z=>hb (hs b z)) fun z=>he (hx b z),fun _ _ q n _ he=>u.any q n fun z=>he (hx _ z),fun b ob q n he=>u.free b ob q n fun z=>he (hx b z),fun b ob q he=>u.there b ob q fun z=>he (hx b z),u.nV,u.nR,u.nW⟩
end
def GJ (h:Heap) (H:Hp):List Addr:=(List.range h.objs.size).filter fun a=>(H a).isSome
def zZ (h:Heap) (H:Hp):Heap:=PySem.W.hideAll h (GJ h H)
theorem GK (h:Heap) (H:Hp):(zZ h H).objs.size=h.objs.size:=PySem.W.hideAll_size _ _
theorem IW {h:Heap} {H:Hp} {b:Addr} {o:Obj} (e:h.get? b=some o) (n:H b=none):(zZ h H).get? b=some o :=
 PySem.W.hideAll_get _ e fun hm=>by
  have q:(H b).isSome=true:=(List.mem_filter.mp hm).2
  rw [n] at q;simp at q
theorem LJ {h:Heap} {H:Hp} {b:Addr} {o:Obj} (e:(zZ h H).get? b=some o):h.get? b=some o∧H b=none:=by
 have e':h.get? b=some o:=PySem.W.of_hideAll (GJ h H) e
 refine ⟨e',?_⟩
 cases q:H b with
 | none=>rfl
 | some x =>
  have hm:b ∈ GJ h H:=List.mem_filter.mpr ⟨List.mem_range.mpr (Heap.lt_size e'),by simp [q]⟩
  have z:(zZ h H).get? b=none:=PySem.W.hideAll_none (GJ h H) hm
  rw [z] at e;cases e
def LK (g h:Heap) (L:Addr):List (Addr × Obj):=(List.range h.objs.size).filterMap fun a=>if a=L∨(g.get? a).isSome=true then none else (h.get? a).map fun o=>(a,o)
def rest (g h:Heap) (L d:Addr):List (Addr × Obj):=(LK g h L).filter fun p=>decide (p.1≠d)
end L2
namespace L2
open PySem PySem.Spec PyProof.Rows
structure Mod (K:PySem.W.Frag) (mg:Str→Option Value) (base:Heap):Prop where
 Qp:K.In base
 glob:base.Ns mainGlobals mg
 blt:∃ mb,base.Ns builtinsNs mb∧∀ x:Str,x≠"__name__"→mb x=bootBuiltins x
 nolimit:base.NoLimit
structure Cx where
 prog:Program
 w:World
 K:PySem.W.Frag
 mg:Str→Option Value
 base:Heap
 A:Around
 N:List Str
 s₀:Shared
 H₀:Hp
 env:Env
 outer:List Env
 stack:List Env
 ex:List Addr
 fn:Str→Bool
 calm:Bool
 pn:List (Addr × Obj)
 xe:Value→Shared→Prop
def pK (l:List Env):List Addr:=l.filterMap (·.frame)
abbrev Cx.fs (X:Cx):List Addr:=pK X.outer
def Up (sc:Scope) (x:Str):Prop:=sc.names.lookup x=some .local∨sc.names.lookup x=some .cell∨sc.names.lookup x=some .free
def Loc (sc:Scope) (x:Str):Prop:=sc.names.lookup x=some .local∨sc.names.lookup x=some .cell
def Look (env:Env) (h:Heap) (m:Str→Option Value) (x:Str) (u:Value):Prop :=
 (env.kindOf x=some .local∧m x=some u)∨((env.kindOf x=some .cell∨env.kindOf x=some .free)∧∃ c,env.cells.lookup x=some c∧h.IsCell c (some u))
structure Cx.Ok (X:Cx):Prop where
 mod:Mod X.K X.mg X.base
 kind:X.env.scope.kind=.function
 glob:X.env.globals=mainGlobals
 blt:X.env.builtins=builtinsNs
 above:X.s₀.heap.objs.size≤X.env.locals
 inj:∀ x y c,X.env.cells.lookup x=some c→X.env.cells.lookup y=some c→x=y
 has:∀ x,(X.env.kindOf x=some .cell∨X.env.kindOf x=some .free)→∃ c,X.env.cells.lookup x=some c
 ON:∀ x c,X.fn x=true→X.env.cells.lookup x=some c→X.s₀.heap.objs.size≤c
 hd:X.calm=true→X.A.handled=none
 frames:X.A.frames=some X.stack
 Kz:X.stack=X.outer∨(X.stack=X.env :: X.outer∧X.env.frame=some X.env.locals)
 RS:∀ b ∈ X.ex,b≠X.env.locals∧∀ x c,X.env.cells.lookup x=some c→c≠b
 bs:∀ b o,X.base.get? b=some o→X.s₀.heap.get? b=some o∧X.H₀ b=none
 IX:X.base.objs.size≤X.s₀.heap.objs.size
 C2:∀ b o,X.base.get? b=some o→b ∉ X.ex
 C3:∀ b ∈ X.ex,b ∉ X.fs
 sr:X.s₀.heap.FunFrames X.base X.outer
 NZ:∀ b ∈ X.fs,X.H₀ b=none
structure Inv (X:Cx) (pins:List (Addr × Obj)) (σ:List (Option V)) (H:Hp) (s:Shared):Prop where
 ok:X.Ok
 os:s.os=X.s₀.os
 bare:AllBare s.gens
 base:Un X.fs X.ex X.H₀ H X.s₀.heap s.heap
 loc:∃ m,s.heap.Ns X.env.locals m∧∀ (i:Nat) (x:Str) (v:V),X.N[i]?=some x→σ[i]?=some (some v)→Up X.env.scope x→∃ u,RelV v u∧Look X.env s.heap m x u
 cell:∀ x c,X.env.cells.lookup x=some c→∃ v,s.heap.IsCell c v
 free:H X.env.locals=none
 nJ:∀ x c,X.env.cells.lookup x=some c→H c=none
 pin:∀ p ∈ X.pn ++ pins,s.heap.get? p.1=some p.2∧H p.1=none∧p.1≠X.env.locals∧p.1 ∉ X.fs∧∀ v,p.2.data≠.cell v
 bw:pw X.prog X.w H s.heap
 len:σ.length=X.N.length
section
variable {X:Cx} {pins:List (Addr × Obj)} {σ:List (Option V)} {H H':Hp} {s:Shared} {h':Heap}
theorem Cx.Ok.Vf (ok:X.Ok) {b:Addr} {o:Obj} (e:X.base.get? b=some o):b ∉ X.fs:=fun hb=>by
 have:=(ok.sr.mem hb).1
 rw [e] at this;cases this
theorem Inv.bs (I:Inv X pins σ H s):∀ b o,X.base.get? b=some o→s.heap.get? b=some o∧H b=none:=fun b o e =>
 ⟨I.base.keep b o (I.ok.bs b o e).1 (I.ok.bs b o e).2 (I.ok.Vf e) (I.ok.C2 b o e),I.base.free b o (I.ok.bs b o e).1 (I.ok.bs b o e).2 (I.ok.C2 b o e)⟩
theorem Inv.bk (I:Inv X pins σ H s):∀ b o,X.base.get? b=some o→s.heap.get? b=some o:=fun b o e=>(I.bs b o e).1
theorem Inv.mod (I:Inv X pins σ H s):Mod X.K X.mg X.base:=I.ok.mod
theorem Inv.E4 (I:Inv X pins σ H s):X.K.In s.heap:=I.ok.mod.Qp.keeps I.bk
theorem Inv.nolimit (I:Inv X pins σ H s):s.heap.NoLimit:=I.ok.mod.nolimit.keeps I.bk
theorem Inv.fr (I:Inv X pins σ H s):∃ m,Fr X.base X.env.locals s.heap m :=
 let ⟨m,hn,_⟩:=I.loc
 ⟨m,hn,I.bk,Nat.le_trans I.ok.IX I.ok.above⟩
theorem Inv.lt (I:Inv X pins σ H s):X.env.locals < s.heap.objs.size:=let ⟨_,hn,_⟩:=I.loc;hn.lt
theorem Inv.sz (I:Inv X pins σ H s):X.s₀.heap.objs.size≤s.heap.objs.size:=Nat.le_trans I.ok.above (Nat.le_of_lt I.lt)
theorem Inv.Vg (I:Inv X pins σ H s) {a:Addr} (h:s.heap.objs.size≤a):a ∉ X.fs:=fun hb=>by
 obtain ⟨_,o,ho,_⟩:=I.ok.sr.mem hb
 exact absurd (Nat.lt_of_lt_of_le (Heap.lt_size ho) (Nat.le_trans I.sz h)) (Nat.lt_irrefl _)
theorem Inv.OO (I:Inv X pins σ H s):∀ x c,X.env.cells.lookup x=some c→c≠X.env.locals:=fun x c e z=>by
 obtain ⟨v,o,ho,hd⟩:=I.cell x c e
 obtain ⟨m,⟨o',es,ep,Az,A0,_⟩,_⟩:=I.loc
 rw [z,Az] at ho;cases ho;rw [A0] at hd;cases hd
theorem Inv.sr (I:Inv X pins σ H s):s.heap.FunFrames X.base X.outer:=by
 have all:∀ (l:List Env),(∀ b ∈ pK l,b ∈ X.fs)→X.s₀.heap.FunFrames X.base l→s.heap.FunFrames X.base l:=by
  intro l
  induction l with
  | nil=>intro _ _;trivial
  | cons env r ih =>
   intro hs hl
   obtain ⟨hk,⟨L,o,hf,hn,ho,hd⟩,hr⟩:=hl
   have hL:L ∈ X.fs:=hs L (by unfold pK;rw [List.filterMap_cons,hf];exact List.mem_cons_self)
   obtain ⟨sl,e⟩:=I.base.slot L o ho (I.ok.NZ L hL) hL fun z=>I.ok.C3 L z hL
   exact ⟨hk,⟨L,_,hf,hn,e,hd⟩,ih (fun b hb=>hs b (by unfold pK;rw [List.filterMap_cons,hf];exact List.mem_cons_of_mem _ hb)) hr⟩
 exact all X.outer (fun _ hb=>hb) I.ok.sr
theorem Inv.stack (I:Inv X pins σ H s):s.heap.FunFrames X.base X.stack:=by
 rcases I.ok.Kz with e | ⟨e,hf⟩
 ·rw [e];exact I.sr
 ·rw [e]
  obtain ⟨m,hn,_⟩:=I.loc
  refine .cons (by rw [I.ok.kind];decide) hf hn ?_ I.sr
  exact Heap.get?_none_of_le (Nat.le_trans I.ok.IX I.ok.above)
theorem Inv.C4 (I:Inv X pins σ H s):∀ b ∈ pK X.stack,b ∈ X.env.locals :: X.fs:=fun b hb=>by
 rcases I.ok.Kz with e | ⟨e,hf⟩
 ·rw [e] at hb;exact List.mem_cons_of_mem _ hb
 ·rw [e] at hb
  unfold pK at hb
  rw [List.filterMap_cons,hf] at hb
  exact hb
theorem Inv.za (I:Inv X pins σ H s):∀ b ∈ pK X.stack,H b=none:=fun b hb=>by
 rcases List.mem_cons.mp (I.C4 b hb) with e | hb
 ·rw [e];exact I.free
 ·obtain ⟨_,o,ho,_⟩:=I.ok.sr.mem hb
  exact I.base.free b o ho (I.ok.NZ b hb) fun z=>I.ok.C3 b z hb
theorem Inv.step {g':Array GenState} {t':Nat} {d':Drawn} {ch:List Addr} (I:Inv X pins σ H s)
  (K0:∀ b ∈ ch,(b ∈ X.ex∨X.s₀.heap.objs.size≤b)∧b≠X.env.locals∧(∀ x c,X.env.cells.lookup x=some c→c≠b)∧∀ p ∈ X.pn ++ pins,p.1≠b)
  (keep:∀ b o,b≠X.env.locals→b ∉ X.fs→b ∉ ch→s.heap.get? b=some o→H b=none→h'.get? b=some o)
  (slot:∀ b o,b≠X.env.locals→b ∈ X.fs→b ∉ ch→s.heap.get? b=some o→H b=none→∃ sl,h'.get? b=some { o with slots:=sl }) (free:∀ b o,b ∉ ch→s.heap.get? b=some o→H b=none→H' b=none)
  (there:∀ b o,b ∉ ch→s.heap.get? b=some o→∃ o',h'.get? b=some o')
  (nV:∀ b xs,H b=some (.tup xs)→H' b=some (.tup xs)) (nR:∀ b o u,H b=some (.Cy o u)→H' b=some (.Cy o u)) (nW:∀ b ps,H b=some (.NY ps)→∃ more,H' b=some (.NY (ps ++ more)))
  (ns:∀ m,s.heap.Ns X.env.locals m→h'.Ns X.env.locals m) (bw:pw X.prog X.w H' h') (hg:AllBare g') :
  Inv X pins σ H' { s with heap:=h',gens:=g',drawn:=d',toks:=t' }:=by
 have YR:∀ b o,X.s₀.heap.get? b=some o→b≠X.env.locals:=fun b o e=>Nat.ne_of_lt (Nat.lt_of_lt_of_le (Heap.lt_size e) I.ok.above)
 have Uq:∀ b o,X.s₀.heap.get? b=some o→b ∉ X.ex→b ∉ ch:=fun b o e hx hb=>by
  rcases (K0 b hb).1 with z | z
  ·exact hx z
  ·exact absurd (Nat.lt_of_lt_of_le (Heap.lt_size e) z) (Nat.lt_irrefl _)
 have cellK:∀ x c,X.env.cells.lookup x=some c→∀ v,s.heap.IsCell c v→h'.IsCell c v:=fun x c e v ⟨o,ho,hd⟩=>by
  have RT:c ∉ ch:=fun z=>(K0 c z).2.2.1 x c e rfl
  by_cases hc:c ∈ X.fs
  ·obtain ⟨sl,q⟩:=slot c o (I.OO x c e) hc RT ho (I.nJ x c e)
   exact ⟨_,q,hd⟩
  ·exact ⟨o,keep c o (I.OO x c e) hc RT ho (I.nJ x c e),hd⟩
 refine ⟨I.ok,I.os,hg,⟨fun b o e n hb hx=>?_,fun b o e n hb hx=>?_,fun b o e n hx=>?_,fun b o e hx=>?_,fun b xs e=>nV b xs (I.base.nV b xs e),fun b o xs e=>nR b o xs (I.base.nR b o xs e),fun b ps e=>?_⟩,?_,fun x c e=>?_,?_,fun x c e=>?_,fun p hp=>?_,bw,I.len⟩
 ·exact keep b o (YR b o e) hb (Uq b o e hx) (I.base.keep b o e n hb hx) (I.base.free b o e n hx)
 ·obtain ⟨sl,e1⟩:=I.base.slot b o e n hb hx
  obtain ⟨RR,e2⟩:=slot b _ (YR b o e) hb (Uq b o e hx) e1 (I.base.free b o e n hx)
  exact ⟨RR,e2⟩
 ·obtain ⟨o',e1⟩:=I.base.there b o e hx
  exact free b o' (Uq b o e hx) e1 (I.base.free b o e n hx)
 ·obtain ⟨o',e1⟩:=I.base.there b o e hx
  exact there b o' (Uq b o e hx) e1
 ·obtain ⟨m1,e1⟩:=I.base.nW b ps e
  obtain ⟨m2,e2⟩:=nW b _ e1
  exact ⟨m1 ++ m2,by rw [e2,Array.append_assoc]⟩
 ·obtain ⟨m,hn,hl⟩:=I.loc
  refine ⟨m,ns m hn,fun i x v e1 e2 e3=>?_⟩
  obtain ⟨u,r,l⟩:=hl i x v e1 e2 e3
  refine ⟨u,r,?_⟩
  rcases l with l | ⟨k,c,e,z⟩
  ·exact .inl l
  ·exact .inr ⟨k,c,e,cellK x c e _ z⟩
 ·obtain ⟨v,z⟩:=I.cell x c e
  exact ⟨v,cellK x c e v z⟩
 ·obtain ⟨m,⟨o,_,_,ho,_⟩,_⟩:=I.loc
  exact free _ o (fun z=>(K0 _ z).2.1 rfl) ho I.free
 ·obtain ⟨v,o,ho,hd⟩:=I.cell x c e
  exact free c o (fun z=>(K0 c z).2.2.1 x c e rfl) ho (I.nJ x c e)
 ·obtain ⟨e,n,ne,nf,d⟩:=I.pin p hp
  have RT:p.1 ∉ ch:=fun z=>(K0 p.1 z).2.2.2 p hp rfl
  exact ⟨keep p.1 p.2 ne nf RT e n,free p.1 p.2 RT e n,ne,nf,d⟩
theorem Inv.un {t':Nat} (I:Inv X pins σ H s) (u:Un X.fs [] H H' s.heap h') (bw:pw X.prog X.w H' h'):Inv X pins σ H' { s with heap:=h',toks:=t' }:=by
 obtain ⟨m,⟨o,es,ep,ho,r⟩,_⟩:=id I.loc
 obtain ⟨sl,hL⟩:=u.any ho I.free (by simp)
 exact I.step (g':=s.gens) (d':=s.drawn) (ch:=[]) (fun _ z=>nomatch z) (fun b o _ hb _ e n=>u.keep b o e n hb (by simp)) (fun b o _ hb _ e n=>u.slot b o e n hb (by simp)) (fun b o _ e n=>u.free b o e n (by simp)) (fun b o _ e=>u.there b o e (by simp)) u.nV u.nR u.nW (fun m' hm=>by
  obtain ⟨o',OP,Vh,Az,r'⟩:=hm
  rw [ho] at Az;cases Az
  exact ⟨_,OP,Vh,hL,r'⟩) bw I.bare
theorem Inv.call {g':Array GenState} {t':Nat} {d':Drawn} {ch:List Addr} (I:Inv X pins σ H s) (u:Un (pK X.stack) ch H H' s.heap h') (bw:pw X.prog X.w H' h') (hg:AllBare g')
  (K0:∀ b ∈ ch,(b ∈ X.ex∨X.s₀.heap.objs.size≤b)∧b≠X.env.locals∧(∀ x c,X.env.cells.lookup x=some c→c≠b)∧∀ p ∈ X.pn ++ pins,p.1≠b) :
  Inv X pins σ H' { s with heap:=h',gens:=g',drawn:=d',toks:=t' }:=by
 obtain ⟨m,⟨o,es,ep,ho,r⟩,_⟩:=id I.loc
 obtain ⟨sl,hL⟩:=u.any ho I.free fun z=>(K0 _ z).2.1 rfl
 exact I.step (ch:=ch) K0 (fun b o hL hb hc e n=>u.keep b o e n (fun z=>(List.mem_cons.mp (I.C4 b z)).elim hL hb) hc) (fun b o _ _ hc e n=>u.any e n hc) (fun b o hc e n=>u.free b o e n hc) (fun b o hc e=>u.there b o e hc) u.nV u.nR u.nW (fun m' hm=>by
  obtain ⟨o',OP,Vh,Az,r'⟩:=hm
  rw [ho] at Az;cases Az
  exact ⟨_,OP,Vh,hL,r'⟩) bw hg
theorem Inv.turned {t':Nat} {it:Addr} (I:Inv X pins σ H s) (k:∀ b o,b≠it→s.heap.get? b=some o→h'.get? b=some o) (hn:H it=none) (hL:it≠X.env.locals)
  (h1:it ∈ X.ex∨X.s₀.heap.objs.size≤it) (h2:∀ x c,X.env.cells.lookup x=some c→c≠it) (h3:∀ p ∈ X.pn ++ pins,p.1≠it):Inv X pins σ H { s with heap:=h',toks:=t' }:=by
 have YS:∀ b u,H b=some u→b≠it:=fun b u e z=>by rw [z,hn] at e;cases e
 refine I.step (g':=s.gens) (d':=s.drawn) (ch:=[it]) (fun b hb=>?_) (fun b o _ _ hc e _=>k b o (fun z=>hc (by simp [z])) e) (fun b o _ _ hc e _=>⟨o.slots,k b o (fun z=>hc (by simp [z])) e⟩) (fun _ _ _ _ n=>n)
  (fun b o hc e=>⟨o,k b o (fun z=>hc (by simp [z])) e⟩) (fun _ _ e=>e) (fun _ _ _ e=>e) (fun b ps e=>⟨#[],by rw [e];simp⟩) (fun m hm=>?_) (fun b u e=>?_) I.bare
 ·have e:b=it:=by simpa using hb
  subst e
  exact ⟨h1,hL,h2,h3⟩
 ·obtain ⟨o,es,ep,ho,r⟩:=hm
  exact ⟨o,es,ep,k _ o (Ne.symm hL) ho,r⟩
 ·refine (I.bw b u e).A7 (fun c v hc q=>k c v ?_ q) (fun _ q=>q) fun _ _ q=>q
  rcases hc with z | z
  ·rw [z];exact YS b u e
  ·exact YS c _ z
theorem Inv.tok (I:Inv X pins σ H s) (t:Nat):Inv X pins σ H { s with toks:=t }:=I.un (h':=s.heap) (t':=t) Un.refl I.bw
theorem Inv.kept {t':Nat} (I:Inv X pins σ H s) (k:∀ b u,s.heap.get? b=some u→h'.get? b=some u):Inv X pins σ H { s with heap:=h',toks:=t' }:=I.un (Un.kept k) (I.bw.kept k)
theorem Inv.laid {a:Addr} {o:HO} {t':Nat} (I:Inv X pins σ H s) (k:∀ b u,s.heap.get? b=some u→h'.get? b=some u) (hp:s.heap.objs.size≤a) (new:cI X.prog X.w (upd H a o) h' a o) :
  Inv X pins σ (upd H a o) { s with heap:=h',toks:=t' }:=I.un (Un.laid k hp (I.bw.fresh hp)) (I.bw.laid k hp new)
theorem Inv.write {x e:Addr} {o:HO} {t':Nat} (I:Inv X pins σ H s) (mu:RO (H x)) (he:e=x∨H e=some (.own x)) (k:∀ b u,b≠e→s.heap.get? b=some u→h'.get? b=some u) (Qo:∃ u,h'.get? e=some u)
  (new:cI X.prog X.w (upd H x o) h' x o):Inv X pins σ (upd H x o) { s with heap:=h',toks:=t' }:=I.un (Un.write mu he k Qo) (I.bw.write mu he k Qo new)
theorem Inv.E5 {Na:List (Addr × Obj)} (I:Inv X pins σ H s) (h:∀ p ∈ Na,s.heap.get? p.1=some p.2∧H p.1=none∧p.1≠X.env.locals∧p.1 ∉ X.fs∧∀ v,p.2.data≠.cell v):Inv X Na σ H s :=
 ⟨I.ok,I.os,I.bare,I.base,I.loc,I.cell,I.free,I.nJ,fun p hp=>(List.mem_append.mp hp).elim (fun z=>I.pin p (List.mem_append_left _ z)) (h p),I.bw,I.len⟩
theorem A8 {N:List Str} (hN:N.Nodup) {i j:Nat} {x:Str} (a:N[i]?=some x) (b:N[j]?=some x):i=j:=by
 obtain ⟨h1,e1⟩:=List.getElem?_eq_some_iff.mp a
 obtain ⟨h2,e2⟩:=List.getElem?_eq_some_iff.mp b
 exact (List.getElem_inj hN).mp (e1.trans e2.symm)
theorem ym {M:Model} {A:Around} {E:Value→Shared→Prop} {i:Nat} {x:Str} {v:V} {u:Value} {Q:Unit→Shared→Prop} (I:Inv X pins σ H s) (hN:X.N.Nodup) (hi:X.N[i]?=some x) (hx:Loc X.env.scope x) (r:RelV v u)
  (h:∀ s',Inv X pins (σ.set i (some v)) H s'→(∃ a,Heap.SameBut a s.heap s'.heap∧(a=X.env.locals∨X.env.cells.lookup x=some a))→Q () s') (hf:X.fn x=true∨X.env.scope.names.lookup x=some .local:=by first | exact .inl rfl | exact .inr rfl | assumption):wpAny M A (storeName X.env x u) Q E s:=by
 obtain ⟨m,hn,hl⟩:=id I.loc
 have Vi:(X.env.scope.kind == .class || (X.env.scope.kind == .module && X.env.locals != X.env.globals))=false:=by rw [I.ok.kind];rfl
 have hiσ:i < σ.length:=by rw [I.len];exact (List.getElem?_eq_some_iff.mp hi).1
 have OO:=I.OO
 have tracked:∀ {a:Addr} {h':Heap},(∃ o,s.heap.get? a=some o∧H a=none)→Heap.SameBut a s.heap h'→pw X.prog X.w H h':=fun {a h'} ha hs b ob e=>by
  obtain ⟨_,_,Nb⟩:=ha
  refine (I.bw b ob e).A7 (fun c w' hc q=>(hs.2 c ?_).trans q) (fun _ q=>q) fun _ _ q=>q
  rintro rfl
  rcases hc with rfl | hc
  ·rw [Nb] at e;cases e
  ·rw [Nb] at hc;cases hc
 rcases hx with hk | hk
 ·refine wpAny_storeName_local hk hn (fun h' Qq hs=>?_) Vi
  obtain ⟨oL,_,_,Z9,_⟩:=id hn
  refine h _ ⟨I.ok,I.os,I.bare,⟨fun b o e n hb hx=>?_,fun b o e n hb hx=>?_,I.base.free,fun b o e hx=>?_,I.base.nV,I.base.nR,I.base.nW⟩,⟨_,Qq,fun j y v' e1 e2 e3=>?_⟩,fun y c e=>?_,I.free,I.nJ,fun p hp=>?_,tracked ⟨oL,Z9,I.free⟩ hs,by simpa using I.len⟩ ⟨_,hs,.inl rfl⟩
  ·exact (hs.2 b (Nat.ne_of_lt (Nat.lt_of_lt_of_le (Heap.lt_size e) I.ok.above))).trans (I.base.keep b o e n hb hx)
  ·obtain ⟨sl,e1⟩:=I.base.slot b o e n hb hx
   exact ⟨sl,(hs.2 b (Nat.ne_of_lt (Nat.lt_of_lt_of_le (Heap.lt_size e) I.ok.above))).trans e1⟩
  ·obtain ⟨o',e1⟩:=I.base.there b o e hx
   exact ⟨o',(hs.2 b (Nat.ne_of_lt (Nat.lt_of_lt_of_le (Heap.lt_size e) I.ok.above))).trans e1⟩
  ·by_cases hj:j=i
   ·subst hj
    rw [hi] at e1;cases e1
    rw [List.getElem?_set_self hiσ] at e2
    cases e2
    exact ⟨u,r,.inl ⟨hk,by simp⟩⟩
   ·rw [List.getElem?_set_ne (Ne.symm hj)] at e2
    obtain ⟨u',r',q⟩:=hl j y v' e1 e2 e3
    refine ⟨u',r',?_⟩
    rcases q with ⟨k,e⟩ | ⟨k,c,e,z⟩
    ·refine .inl ⟨k,?_⟩
     have:y≠x:=fun e=>hj (A8 hN e1 (e ▸ hi))
     simp [this,e]
    ·exact .inr ⟨k,c,e,z.sameBut hs (OO y c e)⟩
  ·obtain ⟨w',z⟩:=I.cell y c e
   exact ⟨w',z.sameBut hs (OO y c e)⟩
  ·obtain ⟨e,n,ne,nf,d⟩:=I.pin p hp
   exact ⟨(hs.2 p.1 ne).trans e,n,ne,nf,d⟩
 ·have Vj:X.fn x=true:=by
   rcases hf with z | z
   ·exact z
   ·rw [z] at hk;cases hk
  obtain ⟨c,hc⟩:=I.ok.has x (.inl hk)
  obtain ⟨w',z⟩:=I.cell x c hc
  refine wpAny_storeName_cell I.ok.kind hk hc z (fun h' Qr hs=>?_)
  obtain ⟨oc,YT,Vk⟩:=id z
  refine h { s with heap:=h' } ⟨I.ok,I.os,I.bare,⟨fun b o e n hb hx=>?_,fun b o e n hb hx=>?_,I.base.free,fun b o e hx=>?_,I.base.nV,I.base.nR,I.base.nW⟩,⟨m,hn.sameBut hs (Ne.symm (OO x c hc)),fun j y v' e1 e2 e3=>?_⟩,fun y c' e=>?_,I.free,I.nJ,fun p hp=>?_,tracked ⟨oc,YT,I.nJ x c hc⟩ hs,by simpa using I.len⟩ ⟨c,hs,.inr hc⟩
  ·exact (hs.2 b (Nat.ne_of_lt (Nat.lt_of_lt_of_le (Heap.lt_size e) (I.ok.ON x c Vj hc)))).trans (I.base.keep b o e n hb hx)
  ·obtain ⟨sl,e1⟩:=I.base.slot b o e n hb hx
   exact ⟨sl,(hs.2 b (Nat.ne_of_lt (Nat.lt_of_lt_of_le (Heap.lt_size e) (I.ok.ON x c Vj hc)))).trans e1⟩
  ·obtain ⟨o',e1⟩:=I.base.there b o e hx
   exact ⟨o',(hs.2 b (Nat.ne_of_lt (Nat.lt_of_lt_of_le (Heap.lt_size e) (I.ok.ON x c Vj hc)))).trans e1⟩
  ·by_cases hj:j=i
   ·subst hj
    rw [hi] at e1;cases e1
    rw [List.getElem?_set_self hiσ] at e2
    cases e2
    exact ⟨u,r,.inr ⟨.inl hk,c,hc,Qr⟩⟩
   ·rw [List.getElem?_set_ne (Ne.symm hj)] at e2
    obtain ⟨u',r',q⟩:=hl j y v' e1 e2 e3
    refine ⟨u',r',?_⟩
    rcases q with q | ⟨k,c',e,z'⟩
    ·exact .inl q
    ·refine .inr ⟨k,c',e,z'.sameBut hs ?_⟩
     rintro rfl
     exact hj (A8 hN e1 (I.ok.inj _ _ _ e hc ▸ hi))
  ·by_cases K1:c'=c
   ·subst K1;exact ⟨_,Qr⟩
   ·obtain ⟨w2,z2⟩:=I.cell y c' e
    exact ⟨w2,z2.sameBut hs K1⟩
  ·obtain ⟨e,n,ne,nf,d⟩:=I.pin p hp
   refine ⟨(hs.2 p.1 ?_).trans e,n,ne,nf,d⟩
   intro q
   rw [q,YT] at e
   have q':oc=p.2:=Option.some.inj e
   exact d w' (by rw [← q'];exact Vk)
theorem A9 {M:Model} {A:Around} {E:Value→Shared→Prop} {i:Nat} {x:Str} {v:V} {u:Value} {Q:Unit→Shared→Prop} (I:Inv X pins σ H s) (hN:X.N.Nodup) (hi:X.N[i]?=some x) (hx:Loc X.env.scope x) (r:RelV v u)
  (h:∀ s',Inv X pins (σ.set i (some v)) H s'→Q () s') (hf:X.fn x=true∨X.env.scope.names.lookup x=some .local:=by first | exact .inl rfl | exact .inr rfl | assumption):wpAny M A (storeName X.env x u) Q E s :=
 ym I hN hi hx r (fun s' I' _=>h s' I') hf
theorem Inv.IY {s':Shared} {ch:List Addr} (I:Inv X pins σ H s) (ho:s'.os=s.os) (u:Un (pK X.stack) ch H H' s.heap s'.heap) (bw:pw X.prog X.w H' s'.heap) (hg:AllBare s'.gens)
  (K0:∀ b ∈ ch,(b ∈ X.ex∨X.s₀.heap.objs.size≤b)∧b≠X.env.locals∧(∀ x c,X.env.cells.lookup x=some c→c≠b)∧∀ p ∈ X.pn ++ pins,p.1≠b):Inv X pins σ H' s':=by
 obtain ⟨h',g',d',t',o'⟩:=s'
 have e:o'=s.os:=ho
 subst e
 exact I.call (g':=g') (t':=t') (d':=d') u bw hg K0
end
abbrev XK:=Value→Option Addr→Hp→Prop
abbrev St:=List (Option V)
abbrev VK:=V→Hp→Prop
abbrev TE:=St→Hp→VK→Prop
abbrev TT:=St→Hp→(Bool→Hp→Prop)→Prop
abbrev TA:=St→Hp→(List V→Hp→Prop)→Prop
structure Ends where
 nx:St→Hp→Prop
 rt:VK
 bk:St→Hp→Prop:=fun _ _=>False
 ct:St→Hp→Prop:=fun _ _=>False
abbrev TS:=Ends→St→Hp→Prop
def EP (X:Cx) (pins:List (Addr × Obj)) (σ:St) (Q:VK) (u:Value) (s':Shared):Prop:=∃ v H',Inv X pins σ H' s'∧RelV v u∧Q v H'
def TP (X:Cx) (pins:List (Addr × Obj)) (σ:St) (Q:Bool→Hp→Prop) (b:Bool) (s':Shared):Prop:=∃ H',Inv X pins σ H' s'∧Q b H'
def AP (X:Cx) (pins:List (Addr × Obj)) (σ:St) (Q:List V→Hp→Prop) (us:List Value) (s':Shared):Prop:=∃ vs H',Inv X pins σ H' s'∧au vs us∧Q vs H'
def SP (X:Cx) (pins:List (Addr × Obj)) (D:Ends) (f:Flow) (s':Shared):Prop :=
 match f with
 | .next=>∃ σ' H',Inv X pins σ' H' s'∧D.nx σ' H'
 | .brk=>∃ σ' H',Inv X pins σ' H' s'∧D.bk σ' H'
 | .cont=>∃ σ' H',Inv X pins σ' H' s'∧D.ct σ' H'
 | .ret u=>∃ v σ' H',Inv X pins σ' H' s'∧RelV v u∧D.rt v H'
def PE (X:Cx) (e:Expr) (t:TE):Prop :=
 ∀ (pins:List (Addr × Obj)) (s:Shared) (σ:St) (H:Hp) (Q:VK),Inv X pins σ H s→t σ H Q→wpAny (model X.prog X.w) X.A (eval e X.env) (EP X pins σ Q) X.xe s
def PT (X:Cx) (e:Expr) (t:TT):Prop :=
 ∀ (pins:List (Addr × Obj)) (s:Shared) (σ:St) (H:Hp) (Q:Bool→Hp→Prop),Inv X pins σ H s→t σ H Q→wpAny (model X.prog X.w) X.A (isTrue e X.env (eval e X.env)) (TP X pins σ Q) X.xe s
def PW (X:Cx) (e:Expr) (t:TT):Prop :=
 ∀ (whole:Sem Value) (pins:List (Addr × Obj)) (s:Shared) (σ:St) (H:Hp) (Q:Bool→Hp→Prop),Inv X pins σ H s→t σ H Q→wpAny (model X.prog X.w) X.A (isTrue e X.env whole) (TP X pins σ Q) X.xe s
theorem PW.pt {X:Cx} {e:Expr} {t:TT} (h:PW X e t):PT X e t:=h _
def PA (X:Cx) (es:List Expr) (t:TA):Prop :=
 ∀ (pos:Pos) (pins:List (Addr × Obj)) (s:Shared) (σ:St) (H:Hp) (Q:List V→Hp→Prop),Inv X pins σ H s→t σ H Q→wpAny (model X.prog X.w) X.A (spliced (backTo pos (starEach es X.env))) (AP X pins σ Q) X.xe s
def PS (X:Cx) (st:Stmt) (t:TS):Prop :=
 ∀ (pins:List (Addr × Obj)) (s:Shared) (σ:St) (H:Hp) (D:Ends),Inv X pins σ H s→t D σ H→wpAny (model X.prog X.w) X.A (exec st X.env) (SP X pins D) X.xe s
def Cz (X:Cx) (st:List Stmt) (t:TS):Prop :=
 ∀ (pins:List (Addr × Obj)) (s:Shared) (σ:St) (H:Hp) (D:Ends),Inv X pins σ H s→t D σ H→wpAny (model X.prog X.w) X.A (execs st X.env) (SP X pins D) X.xe s
theorem bu {α:Type} {t:Sem α} {Q Q':α→Shared→Prop} {M:Model} {A:Around} {E:Value→Shared→Prop} {s:Shared} (h:wpAny M A t Q E s) (hQ:∀ a s,Q a s→Q' a s):wpAny M A t Q' E s:=wpAny_mono h hQ fun _ _ x=>x
end L2
namespace L2
open PySem PySem.Spec PyProof.Rows
section
variable {X:Cx}
def qL (i:Nat):TE:=fun σ H Q=>∃ v,σ[i]?=some (some v)∧Q v H
def tC (v:V):TE:=fun _ H Q=>Q v H
theorem OQ {i:Nat} {x:Str} {pos:Pos} (hN:X.N[i]?=some x) (hv:Up X.env.scope x) (hd:(x == ("__debug__":Str))=false:=by decide) (yn:(x == ("__classdict__":Str))=false:=by decide):PE X (.Name x pos) (qL i):=by
 intro pins s σ H Q I h
 obtain ⟨v,e,h⟩:=h
 obtain ⟨m,hn,hl⟩:=I.loc
 obtain ⟨u,r,l⟩:=hl i x v hN e hv
 have fin:EP X pins σ Q u s:=⟨v,H,I,r,h⟩
 rcases l with ⟨hk,hm⟩ | ⟨hk,c,hc,E6⟩
 ·exact wpAny_Name (wpAny_loadName_local I.ok.kind hk hn hm fin) hd
 ·rcases hk with hk | hk
  ·exact wpAny_Name (wpAny_loadName_cell I.ok.kind hk hc E6 fin) hd
  ·exact wpAny_Name (wpAny_loadName_free I.ok.kind hk hc E6 fin yn) hd
theorem aF {i j pos}:PE X (.Constant (.int i) j pos) (tC (.int i)):=fun _ _ _ H _ I h=>wpAny_Constant_int ⟨.int i,H,I.tok _,⟨_,rfl⟩,h⟩
theorem lC {b j pos}:PE X (.Constant (.bool b) j pos) (tC (.bl b)):=fun _ _ _ H _ I h=>Constant_bool ⟨.bl b,H,I,rfl,h⟩
theorem cJ {j pos}:PE X (.Constant .none j pos) (tC .bN):=fun _ _ _ H _ I h=>Constant_none ⟨.bN,H,I,rfl,h⟩
theorem cZ {x j pos}:PE X (.Constant (.str x) j pos) (tC (.str x)):=fun _ _ _ H _ I h=>Calls.Constant_str ⟨.str x,H,I.tok _,⟨_,rfl⟩,h⟩
def Gl (X:Cx) (x:Str):Prop:=X.env.kindOf x=some .globalImplicit
theorem vP {E:Value→Shared→Prop} {pins:List (Addr × Obj)} {s:Shared} {σ:St} {H:Hp} {x:Str} {u:Value} {pos:Pos} {Q:Value→Shared→Prop} (I:Inv X pins σ H s) (hg:Gl X x) (hm:X.mg x=some u) (h:Q u s)
  (hd:(x == ("__debug__":Str))=false:=by decide):wpAny (model X.prog X.w) X.A (eval (.Name x pos) X.env) Q E s :=
 Calls.Name_function_global I.ok.kind hg (Calls.loadGlobal_global (by rw [I.ok.glob];exact I.mod.glob.keeps I.bk) hm h) hd
theorem l3 {E:Value→Shared→Prop} {pins:List (Addr × Obj)} {s:Shared} {σ:St} {H:Hp} {x:Str} {u:Value} {pos:Pos} {Q:Value→Shared→Prop} (I:Inv X pins σ H s) (hg:Gl X x) (hm:X.mg x=none) (hv:bootBuiltins x=some u) (h:Q u s)
  (hn:x≠"__name__":=by decide) (hd:(x == ("__debug__":Str))=false:=by decide):wpAny (model X.prog X.w) X.A (eval (.Name x pos) X.env) Q E s:=by
 obtain ⟨mb,h1,h2⟩:=I.mod.blt
 exact Calls.Name_function_global I.ok.kind hg (Calls.loadGlobal_builtin (by rw [I.ok.glob];exact I.mod.glob.keeps I.bk) hm (by rw [I.ok.blt];exact h1.keeps I.bk) ((h2 x hn).trans hv) h) hd
theorem E7 {x:Str} {v:V} {u:Value} {pos:Pos} (hg:Gl X x) (hm:X.mg x=some u) (r:RelV v u) (hd:(x == ("__debug__":Str))=false:=by decide):PE X (.Name x pos) (tC v) :=
 fun _ _ _ H _ I h=>vP I hg hm ⟨v,H,I,r,h⟩ hd
variable {a b:Expr} {ta tb:TE} {pos:Pos}
def PC (X:Cx) (op:CmpOp) (a b:Expr) (t:TE):Prop :=
 ∀ (pins:List (Addr × Obj)) (s:Shared) (σ:St) (H:Hp) (Q:VK),Inv X pins σ H s→t σ H Q →
  wpAny (model X.prog X.w) X.A (eval a X.env) (fun v s₁=>wpAny (model X.prog X.w) X.A (eval b X.env) (fun u s₂=>wpAny (model X.prog X.w) X.A (compareOp op v u) (EP X pins σ Q) X.xe s₂) X.xe s₁) X.xe s
theorem IZ (b:Expr) {op:CmpOp} (h:op≠.In) (h2:op≠.NotIn):behindInMarks op b=false:=by
 have e1:(op == CmpOp.In)=false:=by cases op <;> first | rfl | exact absurd rfl h
 have e2:(op == CmpOp.NotIn)=false:=by cases op <;> first | rfl | exact absurd rfl h2
 cases b <;> simp [behindInMarks,e1,e2]
def tB (t:TE):TT:=fun σ H Q=>t σ H fun x H1=>∃ c,x=.bl c∧Q c H1
theorem Ia {op:CmpOp} {t:TE} (h:PC X op a b t) (h1:behindInMarks op b=false:=by first | exact IZ _ (by decide) (by decide) | rfl):PT X (.Compare a [op] [b] pos) (tB t):=by
 intro pins s σ H Q I hw
 refine wpAny_isTrue_Compare1 (bu (h pins s σ H _ I hw) fun v s1 h1=>bu h1 fun u s2 h2=>bu h2 fun c s3 ⟨x,H1,I1,r1,q1⟩=>?_) h1
 obtain ⟨d,rfl,q⟩:=q1
 cases r1
 exact wpAny_truthy_bool ⟨H1,I1,q⟩
theorem jG {e:Expr} {t:TE} (h:PE X e t) (he:∀ whole,isTrue e X.env whole=(do let v ← whole;standAt e.pos;holding [v] (truthy v)):=by intro _;rfl):PT X e (tB t):=by
 intro pins s σ H Q I hw
 refine isTrue_plain (bu (h pins s σ H _ I hw) fun v s1 ⟨x,H1,I1,r1,q1⟩=>?_) (he _)
 obtain ⟨d,rfl,q⟩:=q1
 cases r1
 exact wpAny_truthy_bool ⟨H1,I1,q⟩
variable {tA RU:TT} {rest:List Expr}
def RV (t u:TT):TT:=fun σ H Q=>t σ H fun c H1=>if c=true then u σ H1 Q else Q false H1
def tOr (t u:TT):TT:=fun σ H Q=>t σ H fun c H1=>if c=true then Q true H1 else u σ H1 Q
def Vl (t:TT):TT:=fun σ H Q=>t σ H fun c H1=>Q (!c) H1
theorem pL (ha:PT X a tA):PW X (.BoolOp .And [a] pos) tA:=by
 intro wh pins s σ H Q I h
 refine isTrue_and (bu (ha pins s σ H Q I h) fun c s1 e=>?_)
 cases c with
 | true=>exact isTrue_and_nil e
 | false=>exact e
theorem vb (ha:PT X a tA):PW X (.BoolOp .Or [a] pos) tA:=by
 intro wh pins s σ H Q I h
 refine isTrue_or (bu (ha pins s σ H Q I h) fun c s1 e=>?_)
 cases c with
 | false=>exact isTrue_or_nil e
 | true=>exact e
theorem su (ha:PT X a tA) (hb:PW X (.BoolOp .And (b :: rest) pos) RU):PW X (.BoolOp .And (a :: b :: rest) pos) (RV tA RU):=by
 intro wh pins s σ H Q I h
 refine isTrue_and (bu (ha pins s σ H _ I h) fun c s1 ⟨H1,I1,q1⟩=>?_)
 cases c with
 | true=>exact hb wh pins s1 σ H1 Q I1 q1
 | false=>exact ⟨H1,I1,q1⟩
theorem BA (ha:PT X a tA) (hb:PW X (.BoolOp .Or (b :: rest) pos) RU):PW X (.BoolOp .Or (a :: b :: rest) pos) (tOr tA RU):=by
 intro wh pins s σ H Q I h
 refine isTrue_or (bu (ha pins s σ H _ I h) fun c s1 ⟨H1,I1,q1⟩=>?_)
 cases c with
 | true=>exact ⟨H1,I1,q1⟩
 | false=>exact hb wh pins s1 σ H1 Q I1 q1
theorem kJ (ha:PT X a tA):PT X (.UnaryOp .Not a pos) (Vl tA):=by
 intro pins s σ H Q I h
 exact isTrue_not (ha pins s σ H (fun c H1=>Q (!c) H1) I h)
def RW (ta tb:TE):TE:=fun σ H Q=>ta σ H fun x H1=>∃ c,x=.bl c∧if c=true then tb σ H1 Q else Q (.bl false) H1
theorem OR {op} {t:TE} (h:PE X a t):PE X (.BoolOp op [a] pos) t:=fun pins s σ H Q I hw=>BoolOp_one (h pins s σ H Q I hw)
theorem OS (ha:PE X a ta) (hb:PE X (.BoolOp .And (b :: rest) pos) tb):PE X (.BoolOp .And (a :: b :: rest) pos) (RW ta tb):=by
 intro pins s σ H Q I h
 refine BoolOp_and (bu (ha pins s σ H _ I h) fun v s1 ⟨x,H1,I1,r1,q1⟩=>?_)
 obtain ⟨c,rfl,q1⟩:=q1
 cases r1
 refine wpAny_truthy_bool ?_
 cases c with
 | true=>exact hb pins s1 σ H1 Q I1 q1
 | false=>exact ⟨.bl false,H1,I1,rfl,q1⟩
def tIf (t:TT) (ta tb:TE):TE:=fun σ H Q=>t σ H fun c H1=>if c=true then ta σ H1 Q else tb σ H1 Q
theorem nX {c:Expr} (hc:PT X c tA) (ha:PE X a ta) (hb:PE X b tb):PE X (.IfExp c a b pos) (tIf tA ta tb):=by
 intro pins s σ H Q I h
 refine wpAny_IfExp (bu (hc pins s σ H _ I h) fun d s1 ⟨H1,I1,q1⟩=>?_)
 cases d with
 | true=>exact ha pins s1 σ H1 Q I1 q1
 | false=>exact hb pins s1 σ H1 Q I1 q1
end
end L2
namespace L2
open PySem PySem.Spec PyProof.Rows
def aX (K:PySem.W.Frag) (H:Hp) (a:Addr) (xs:List V):Prop :=
 Rd H a (.lst xs) ∨
  ∃ (o:Obj) (ai:Array Value) (n:Nat),K.lookup a=some o∧o.cls=.type "list"∧o.dict=none∧o.data=.seq ai n∧ai.size≤sizeLine∧au xs ai.toList
def bz (K:PySem.W.Frag) (H:Hp) (a:Addr) (xs:List V):Prop :=
 Rd H a (.tup xs) ∨
  ∃ (o:Obj) (ai:Array Value) (n:Nat),K.lookup a=some o∧o.cls=.type "tuple"∧o.data=.seq ai n∧ai.size≤sizeLine∧au xs ai.toList
def Vm:Value→Option V
 | .none=>some .bN
 | .bool b=>some (.bl b)
 | .int i _=>some (.int i)
 | .str x _=>some (.str x)
 | .bytes b _=>some (.E3 b)
 | .float b _=>some (.Qn b)
 | .ref a=>some (.ref a)
 | .type n=>some (.ty n)
 | _=>none
theorem RelV.abs {x:V} {u:Value} (r:RelV x u):Vm u=some x:=by
 cases x with
 | bN=>cases r;rfl
 | bl _=>cases r;rfl
 | int _=>obtain ⟨t,rfl⟩:=r;rfl
 | str _=>obtain ⟨t,rfl⟩:=r;rfl
 | E3 _=>obtain ⟨t,rfl⟩:=r;rfl
 | Qn _=>obtain ⟨t,rfl⟩:=r;rfl
 | ref _=>cases r;rfl
 | ty _=>cases r;rfl
theorem RelV.inj {x y:V} {u:Value} (r:RelV x u) (q:RelV y u):x=y:=Option.some.inj (r.abs.symm.trans q.abs)
theorem au.inj:∀ {xs ys:List V} {us:List Value},au xs us→au ys us→xs=ys
 | _,_,_,.nil,.nil=>rfl
 | _,_,_,.cons r t,.cons r' t'=>by rw [r.inj r',au.inj t t']
section
variable {X:Cx} {pins:List (Addr × Obj)} {σ:St} {H:Hp} {s:Shared} {a:Addr} {xs ys:List V}
theorem aX.of {K:PySem.W.Frag} (h:H a=some (.lst xs)):aX K H a xs:=.inl (.inl h)
theorem bz.of {K:PySem.W.Frag} (h:H a=some (.tup xs)):bz K H a xs:=.inl (.inl h)
theorem Inv.list (I:Inv X pins σ H s) (h:aX X.K H a xs):∃ ai:List Value,au xs ai∧PlainL s.heap a ai.toArray∧xs.length≤sizeLine:=by
 rcases h with h | ⟨o,ai,n,hk,hc,hd,hs,hz,r⟩
 ·obtain ⟨z,ai,n,r,e⟩:=h.ok I.bw
  exact ⟨ai,r,⟨_,n,e,rfl,rfl,rfl⟩,z⟩
 ·refine ⟨ai.toList,r,⟨o,n,I.E4 a o hk,hc,hd,by simpa using hs⟩,?_⟩
  have e:=r.length
  simp only [Array.length_toList] at e
  omega
theorem Inv.tuple (I:Inv X pins σ H s) (h:bz X.K H a xs):∃ ai:List Value,au xs ai∧IsTup s.heap a ai.toArray∧xs.length≤sizeLine:=by
 rcases h with h | ⟨o,ai,n,hk,hc,hs,hz,r⟩
 ·obtain ⟨z,ai,r,p⟩:=h.ok I.bw
  exact ⟨ai,r,p,z⟩
 ·refine ⟨ai.toList,r,⟨o,I.E4 a o hk,hc,n,by simpa using hs⟩,?_⟩
  have e:=r.length
  simp only [Array.length_toList] at e
  omega
theorem Inv.rO (I:Inv X pins σ H s) (h:aX X.K H a xs) (h':aX X.K H a ys):xs=ys:=by
 obtain ⟨ai,r,⟨o,n,e,_,_,d⟩,_⟩:=I.list h
 obtain ⟨its',r',⟨o',n',e',_,_,d'⟩,_⟩:=I.list h'
 rw [e] at e';cases e'
 rw [d] at d'
 injection d' with d1 _
 have:ai=its':=by simpa using congrArg Array.toList d1
 subst this
 exact r.inj r'
theorem Inv.yo (I:Inv X pins σ H s) (h:bz X.K H a xs) (h':bz X.K H a ys):xs=ys:=by
 obtain ⟨ai,r,⟨o,e,_,n,d⟩,_⟩:=I.tuple h
 obtain ⟨its',r',⟨o',e',_,n',d'⟩,_⟩:=I.tuple h'
 rw [e] at e';cases e'
 rw [d] at d'
 injection d' with d1 _
 have:ai=its':=by simpa using congrArg Array.toList d1
 subst this
 exact r.inj r'
end
abbrev Cx.sx (X:Cx) (E:Value→Shared→Prop):Cx:={ X with xe:=E }
abbrev Cx.uX (X:Cx):Cx:=X.sx fun _ _=>False
theorem Cx.Ok.sx {X:Cx} (ok:X.Ok) (E:Value→Shared→Prop):(X.sx E).Ok :=
 ⟨ok.mod,ok.kind,ok.glob,ok.blt,ok.above,ok.inj,ok.has,ok.ON,ok.hd,ok.frames,ok.Kz,ok.RS,ok.bs,ok.IX,ok.C2,ok.C3,ok.sr,ok.NZ⟩
theorem Cx.Ok.jH {X:Cx} {E:Value→Shared→Prop} (ok:(X.sx E).Ok):X.Ok :=
 ⟨ok.mod,ok.kind,ok.glob,ok.blt,ok.above,ok.inj,ok.has,ok.ON,ok.hd,ok.frames,ok.Kz,ok.RS,ok.bs,ok.IX,ok.C2,ok.C3,ok.sr,ok.NZ⟩
section
variable {X:Cx} {pins:List (Addr × Obj)} {σ:St} {H:Hp} {s:Shared} {E:Value→Shared→Prop}
theorem Inv.sx (I:Inv X pins σ H s) (E:Value→Shared→Prop):Inv (X.sx E) pins σ H s:=⟨I.ok.sx E,I.os,I.bare,I.base,I.loc,I.cell,I.free,I.nJ,I.pin,I.bw,I.len⟩
theorem Inv.jH (I:Inv (X.sx E) pins σ H s):Inv X pins σ H s:=⟨I.ok.jH,I.os,I.bare,I.base,I.loc,I.cell,I.free,I.nJ,I.pin,I.bw,I.len⟩
theorem SP.jH {D:Ends} {f:Flow} {s':Shared} (h:SP (X.sx E) pins D f s'):SP X pins D f s':=by
 cases f with
 | next=>obtain ⟨σ',H',I,q⟩:=h;exact ⟨σ',H',I.jH,q⟩
 | brk=>obtain ⟨σ',H',I,q⟩:=h;exact ⟨σ',H',I.jH,q⟩
 | cont=>obtain ⟨σ',H',I,q⟩:=h;exact ⟨σ',H',I.jH,q⟩
 | ret u=>obtain ⟨v,σ',H',I,r,q⟩:=h;exact ⟨v,σ',H',I.jH,r,q⟩
theorem PE.uX {e:Expr} {t:TE} (h:PE X.uX e t):PE X e t:=fun pins s σ H Q I hw =>
 wpAny_mono (h pins s σ H Q (I.sx _) hw) (fun _ _ ⟨v,H',I',r,q⟩=>⟨v,H',I'.jH,r,q⟩) fun _ _ z=>False.elim z
theorem PT.uX {e:Expr} {t:TT} (h:PT X.uX e t):PT X e t:=fun pins s σ H Q I hw =>
 wpAny_mono (h pins s σ H Q (I.sx _) hw) (fun _ _ ⟨H',I',q⟩=>⟨H',I'.jH,q⟩) fun _ _ z=>False.elim z
theorem Cz.uX {st:List Stmt} {t:TS} (h:Cz X.uX st t):Cz X st t:=fun pins s σ H D I hw =>
 wpAny_mono (h pins s σ H D (I.sx _) hw) (fun _ _ q=>q.jH) fun _ _ z=>False.elim z
end
section
variable {X:Cx} {st:Stmt} {rest:List Stmt} {t u:TS} {e:Expr} {te:TE} {pos:Pos}
def Nd:TS:=fun D σ H=>D.nx σ H
def Ib (t u:TS):TS:=fun D σ H=>t { D with nx:=u D } σ H
theorem af:Cz X [] Nd:=fun _ _ σ H _ I h=>wpAny_execs_nil ⟨σ,H,I,h⟩
theorem aC (h1:PS X st t) (h2:Cz X rest u):Cz X (st :: rest) (Ib t u):=by
 intro pins s σ H D I h
 refine wpAny_execs_cons (bu (h1 pins s σ H { D with nx:=u D } I h) fun f s1 q=>?_)
 cases f with
 | next =>
  obtain ⟨σ',H',I',q⟩:=q
  exact h2 pins s1 σ' H' D I' q
 | ret v=>exact q
 | brk=>exact q
 | cont=>exact q
theorem aG (h1:PS X st t):Cz X [st] t:=by
 intro pins s σ H D I h
 refine wpAny_execs_cons (bu (h1 pins s σ H D I h) fun f s1 q=>?_)
 cases f with
 | next=>exact wpAny_execs_nil q
 | ret v=>exact q
 | brk=>exact q
 | cont=>exact q
theorem Inv.quiet {pins:List (Addr × Obj)} {σ:St} {H:Hp} {s:Shared} (I:Inv X pins σ H s):interactive X.env=false:=by simp [interactive,I.ok.kind]
def Ic (te:TE):TS:=fun D σ H=>te σ H fun _ H1=>D.nx σ H1
theorem ax (he:PE X e te) (hs:swapsWith e none pos.line X.env=pure false:=by rfl):PS X (.Expr e pos) (Ic te):=by
 intro pins s σ H D I h
 exact wpAny_Expr_any (bu (he pins s σ H _ I h) fun v s1 ⟨x,H1,I1,r1,q1⟩=>⟨σ,H1,I1,q1⟩) I.quiet hs
def RX (te:TE):TS:=fun D σ H=>te σ H D.rt
theorem aV (he:PE X e te):PS X (.Return (some e) pos) (RX te):=by
 intro pins s σ H D I h
 exact wpAny_Return_some (bu (he pins s σ H _ I h) fun v s1 ⟨x,H1,I1,r1,q1⟩=>⟨x,σ,H1,I1,r1,q1⟩)
def RY:TS:=fun D _ H=>D.rt .bN H
theorem LL:PS X (.Return none pos) RY:=fun _ _ σ H _ I h=>wpAny_Return_none ⟨.bN,σ,H,I,rfl,h⟩
def RZ (c:TT) (t u:TS):TS:=fun D σ H=>c σ H fun b H1=>if b=true then t D σ H1 else u D σ H1
theorem bD {c:Expr} {a b:List Stmt} {tc:TT} (hc:PT X c tc) (ha:Cz X a t) (hb:Cz X b u):PS X (.If c a b pos) (RZ tc t u):=by
 intro pins s σ H D I h
 refine wpAny_If (bu (hc pins s σ H _ I h) fun d s1 ⟨H1,I1,q1⟩=>?_)
 cases d with
 | true=>exact ha pins s1 σ H1 D I1 q1
 | false=>exact hb pins s1 σ H1 D I1 q1
end
abbrev TG:=V→St→Hp→(St→Hp→Prop)→Prop
abbrev OT:=List V→St→Hp→(St→Hp→Prop)→Prop
def PG (X:Cx) (target:Expr) (t:TG):Prop :=
 ∀ (pins:List (Addr × Obj)) (s:Shared) (σ:St) (H:Hp) (v:V) (u:Value) (Q:St→Hp→Prop),Inv X pins σ H s→RelV v u→t v σ H Q →
  wpAny (model X.prog X.w) X.A (assign target X.env u) (fun _ s'=>∃ σ' H',Inv X pins σ' H' s'∧Q σ' H') X.xe s
def Ur (X:Cx) (ts:List Expr) (t:OT):Prop :=
 ∀ (pins:List (Addr × Obj)) (s:Shared) (σ:St) (H:Hp) (vs:List V) (us:List Value) (Q:St→Hp→Prop),Inv X pins σ H s→au vs us→t vs σ H Q →
  wpAny (model X.prog X.w) X.A (assignInOrder ((assignEach ts X.env).map (·.2)) us) (fun _ s'=>∃ σ' H',Inv X pins σ' H' s'∧Q σ' H') X.xe s
abbrev OU:=V→V→V→Hp→(Hp→Prop)→Prop
def Ra (X:Cx) (t:OU):Prop :=
 ∀ (pins:List (Addr × Obj)) (s:Shared) (σ:St) (H:Hp) (o i v:V) (ov iv u:Value) (Q:Hp→Prop),Inv X pins σ H s→RelV o ov→RelV i iv→RelV v u→t o i v H Q →
  wpAny (model X.prog X.w) X.A (setItem ov iv u) (fun _ s'=>∃ H',Inv X pins σ H' s'∧Q H') X.xe s
abbrev YU:=V→V→Hp→VK→Prop
def PIp (X:Cx) (op:Operator) (t:YU):Prop :=
 ∀ (pins:List (Addr × Obj)) (s:Shared) (σ:St) (H:Hp) (x y:V) (v u:Value) (Q:VK),Inv X pins σ H s→RelV x v→RelV y u→t x y H Q →
  wpAny (model X.prog X.w) X.A (inplaceOp op v u) (EP X pins σ Q) X.xe s
section
variable {X:Cx} {pos:Pos}
def jI (i:Nat):TG:=fun v σ H Q=>Q (σ.set i (some v)) H
theorem az {i:Nat} {x:Str} (hN:X.N.Nodup) (hi:X.N[i]?=some x) (hx:Loc X.env.scope x) (hf:X.fn x=true∨X.env.scope.names.lookup x=some .local:=by first | exact .inl rfl | exact .inr rfl | assumption):PG X (.Name x pos) (jI i):=by
 intro pins s σ H v u Q I r h
 exact wpAny_assign_Name (A9 I hN hi hx r (fun s' I'=>⟨_,H,I',h⟩) hf)
def Ie:OT:=fun vs σ H Q=>vs=[]∧Q σ H
def rP (t:TG) (u:OT):OT:=fun vs σ H Q=>∃ v r,vs=v :: r∧t v σ H fun σ' H'=>u r σ' H' Q
theorem LM:Ur X [] Ie:=by
 intro pins s σ H vs us Q I r h
 obtain ⟨e,h⟩:=h
 subst e
 cases r
 exact assignInOrder_nil ⟨σ,H,I,h⟩
theorem BB {e:Expr} {es:List Expr} {t:TG} {u:OT} (h1:PG X e t) (h2:Ur X es u)
  (hs:(assignEach (e :: es) X.env).map (·.2)=assign e X.env :: (assignEach es X.env).map (·.2):=by rfl):Ur X (e :: es) (rP t u):=by
 intro pins s σ H vs us Q I r h
 obtain ⟨v,vr,e1,h⟩:=h
 subst e1
 cases r with
 | cons r rr =>
  rw [hs]
  refine assignInOrder_cons (bu (h1 pins s σ H _ _ _ I r h) fun _ s1 ⟨σ1,H1,I1,q1⟩=>?_)
  exact h2 pins s1 σ1 H1 _ _ Q I1 rr q1
def Ig (K:PySem.W.Frag) (n:Nat) (t:OT):TG:=fun v σ H Q=>∃ a xs,v=.ref a∧bz K H a xs∧xs.length=n∧t xs σ H Q
theorem OV {es:List Expr} {k:Nat} {t:OT} {n:Nat} (hc:X.calm=true) (h:Ur X es t)
  (hn:(assignEach es X.env).length=n:=by rfl) (si:(assignEach es X.env).findIdx? (·.1)=none:=by rfl):PG X (.Tuple es k pos) (Ig X.K n t):=by
 intro pins s σ H v u Q I r hw
 obtain ⟨a,xs,e1,hq,hl,hw⟩:=hw
 subst e1
 cases r
 obtain ⟨ai,rv,ht,hz⟩:=I.tuple hq
 refine assign_Tuple_tuple (I.ok.hd hc) ht (by simp [hn,← hl,rv.length]) si fun h' hx=>?_
 have I1:Inv X pins σ H { s with heap:=h' }:=I.kept (t':=s.toks) fun b o e=>hx b o (Nat.ne_of_lt (Heap.lt_size e)) e
 exact h pins _ σ H xs _ Q I1 (by simpa using rv) hw
def Vn (to ti:TE) (t:OU):TG:=fun v σ H Q=>to σ H fun o H1=>ti σ H1 fun i H2=>t o i v H2 fun H3=>Q σ H3
theorem nY {o i:Expr} {to ti:TE} {t:OU} (ho:PE X o to) (hi:PE X i ti) (hs:Ra X t)
  (ha:∀ v,assign (.Subscript o i pos) X.env v=(do
   let ov ← holding [v] (eval o X.env)
   let iv ← holding [v,ov] (eval i X.env)
   standAt pos
   holding [v,ov,iv] (setItem ov iv v)
   release [v,ov,iv] []):=by intro _;rfl):PG X (.Subscript o i pos) (Vn to ti t):=by
 intro pins s σ H v u Q I r h
 rw [ha]
 refine wpAny_bind (wpAny_holding (bu (ho pins s σ H _ I h) fun ov s1 ⟨x,H1,I1,r1,q1⟩=>?_))
 refine wpAny_bind (wpAny_holding (bu (hi pins s1 σ H1 _ I1 q1) fun iv s2 ⟨y,H2,I2,r2,q2⟩=>?_))
 refine wpAny_bind (wpAny_standAt (wpAny_bind (wpAny_holding (bu (hs pins s2 σ H2 x y v ov iv u _ I2 r1 r2 r q2) fun _ s3 ⟨H3,I3,q3⟩=>?_))))
 exact wpAny_release ⟨σ,H3,I3,q3⟩
def OW (te:TE) (g:TG):TS:=fun D σ H=>te σ H fun x H1=>g x σ H1 D.nx
theorem nZ {tg e:Expr} {te:TE} {g:TG} (he:PE X e te) (hg:PG X tg g) (hs:swapsWithSole [tg] e pos.line X.env=pure false:=by rfl) (hw:swappedStores [tg] e X.env=pure none:=by rfl)
  (h1:(assignEach [tg] X.env).map (·.2)=[assign tg X.env]:=by rfl):PS X (.Assign [tg] e pos) (OW te g):=by
 intro pins s σ H D I h
 refine wpAny_Assign_stores (bu (he pins s σ H _ I h) fun v s1 ⟨x,H1,I1,r1,q1⟩=>?_) hs hw
 rw [h1]
 exact bu (hg pins s1 σ H1 x v _ I1 r1 q1) fun _ s2 q=>q
theorem aT {i:Nat} {x:Str} {e:Expr} {te:TE} {pos':Pos} (hN:X.N.Nodup) (hi:X.N[i]?=some x) (hx:Loc X.env.scope x) (he:PE X e te) (hs:swapsWith e (some (.Name x pos')) pos.line X.env=pure false:=by rfl) (hf:X.fn x=true∨X.env.scope.names.lookup x=some .local:=by first | exact .inl rfl | exact .inr rfl | assumption) :
  PS X (.Assign [.Name x pos'] e pos) (OW te (jI i)):=by
 intro pins s σ H D I h
 refine wpAny_Assign_Name (bu (he pins s σ H _ I h) fun v s1 ⟨y,H1,I1,r1,q1⟩=>?_) hs
 exact A9 I1 hN hi hx r1 (fun s2 I2=>⟨_,H1,I2,q1⟩) hf
def YV (f:Int→Int→Int):YU:=fun x y H Q=>∃ i j,x=.int i∧y=.int j∧Q (.int (f i j)) H
theorem Ih:PIp X .Add (YV fun i j=>i+j):=by
 intro pins s σ H x y v u Q I r1 r2 h
 obtain ⟨i,j,e1,e2,q⟩:=h
 subst e1;subst e2
 obtain ⟨t,rfl⟩:=r1
 obtain ⟨t',rfl⟩:=r2
 exact iadd_int ⟨.int _,H,I.tok _,⟨_,rfl⟩,q⟩
end
section
variable {X:Cx} {pos:Pos}
def Ii (c:TT) (tb:TS):TS:=fun D σ H=>∃ W:Nat→St→Hp→Prop,(∃ m,W m σ H)∧∀ m σ H,W m σ H →
 c σ H fun b H1=>if b=true then ∃ N:St→Hp→Prop,(∀ σ' H',N σ' H'→∃ m',m' < m∧W m' σ' H')∧tb { D with nx:=N,ct:=N,bk:=D.nx } σ H1 else D.nx σ H1
theorem BC {c:Expr} {body:List Stmt} {tc:TT} {tb:TS} (hp:PassesOwn (model X.prog X.w) X.A X.env X.xe) (hc:PT X c tc) (hb:Cz X body tb):PS X (.While c body [] pos) (Ii tc tb):=by
 intro pins s σ H D I h
 obtain ⟨W,⟨m0,w0⟩,turn⟩:=h
 refine wpAny_While (codeAny_whileLoop (fun n s'=>∃ σ' H',Inv X pins σ' H' s'∧W n σ' H') ?_ m0 ⟨σ,H,I,w0⟩)
 rintro n s1 ⟨σ1,H1,I1,w1⟩
 refine wpAny_passesOwn hp (bu (hc pins s1 σ1 H1 _ I1 (turn n σ1 H1 w1)) fun b s2 ⟨H2,I2,q2⟩=>?_)
 cases b with
 | true =>
  obtain ⟨N,hN,q2⟩:=q2
  rw [if_pos rfl]
  refine wpAny_passesOwn hp (bu (hb pins s2 σ1 H2 _ I2 q2) fun f s3 q3=>?_)
  cases f with
  | next =>
   obtain ⟨σ3,H3,I3,n3⟩:=q3
   obtain ⟨m',hm,w3⟩:=hN σ3 H3 n3
   exact ⟨m',hm,σ3,H3,I3,w3⟩
  | cont =>
   obtain ⟨σ3,H3,I3,n3⟩:=q3
   obtain ⟨m',hm,w3⟩:=hN σ3 H3 n3
   exact ⟨m',hm,σ3,H3,I3,w3⟩
  | brk=>exact q3
  | ret v=>exact q3
 | false =>
  rw [if_neg Bool.false_ne_true]
  exact wpAny_execs_nil ⟨σ1,H2,I2,q2⟩
end
structure It where
 go:Nat→Hp→Prop
 Ij:Nat→Hp→V→Hp→Prop
 stop:Nat→Hp→Prop
def sy (X:Cx) (pins:List (Addr × Obj)) (H:Hp) (b:Addr):Prop :=
 H b=none∧b≠X.env.locals∧b ∉ X.fs∧(b ∈ X.ex∨X.s₀.heap.objs.size≤b)∧(∀ x c,X.env.cells.lookup x=some c→c≠b)∧∀ p ∈ X.pn ++ pins,p.1≠b
theorem Inv.zb {X:Cx} {pins:List (Addr × Obj)} {σ:St} {H H':Hp} {s:Shared} {b:Addr} (I:Inv X pins σ H s) (hb:s.heap.objs.size≤b) (hn:H' b=none):sy X pins H' b:=by
 refine ⟨hn,Nat.ne_of_gt (Nat.lt_of_lt_of_le I.lt hb),I.Vg hb,.inr (Nat.le_trans I.sz hb),fun x c e z=>?_,fun p hp z=>?_⟩
 ·obtain ⟨v,q⟩:=I.cell x c e
  exact absurd (Nat.lt_of_lt_of_le q.lt (by rw [z];exact hb)) (Nat.lt_irrefl _)
 ·exact absurd (Nat.lt_of_lt_of_le (Heap.lt_size (I.pin p hp).1) (by rw [z];exact hb)) (Nat.lt_irrefl _)
structure Turn (P:Program) (w:World) (K:PySem.W.Frag) (tg:Expr) (J:It) (fp:List Addr) (it:Addr) (tn:Nat→Heap→Prop):Prop where
 mem:it ∈ fp
 obj:∀ i h,tn i h→∀ b ∈ fp,∃ o,h.get? b=some o∧∀ v,o.data≠.cell v
 keep:∀ i h h',tn i h→(∀ b ∈ fp,∀ o,h.get? b=some o→h'.get? b=some o)→tn i h'
 item:∀ (X:Cx),X.prog=P→X.w=w→X.K=K→X.calm=true→∀ (i:Nat) (pins:List (Addr × Obj)) (s:Shared) (σ:St) (H:Hp) (E:Value→Shared→Prop),Inv X pins σ H s→(∀ b ∈ fp,sy X pins H b)→tn i s.heap→J.go i H →
  wpAny (model P w) X.A (pyNext (.ref it)) (fun r s1=>∃ u,r=some u ∧
   wpAny (model P w) X.A (letOwnedTupleGo tg (.ref it) u) (fun _ s2=>∃ x H',Inv X pins σ H' s2∧RelV x u∧J.Ij i H x H'∧tn (i+1) s2.heap∧∀ b ∈ fp,H' b=none) E s1) E s
 done:∀ (X:Cx),X.prog=P→X.w=w→X.K=K→X.calm=true→∀ (i:Nat) (pins:List (Addr × Obj)) (s:Shared) (σ:St) (H:Hp) (E:Value→Shared→Prop),Inv X pins σ H s→(∀ b ∈ fp,sy X pins H b)→tn i s.heap→J.stop i H →
  wpAny (model P w) X.A (pyNext (.ref it)) (fun r s1=>r=none∧Inv X pins σ H s1) E s
 self:∀ (A:Around) (i:Nat) (s:Shared) (Q:Value→Shared→Prop) (E:Value→Shared→Prop),tn i s.heap→Q (.ref it) s→wpAny (model P w) A (pyIter (.ref it)) Q E s
abbrev TI:=St→Hp→(It→Hp→Prop)→Prop
def YW (X:Cx) (pins:List (Addr × Obj)) (σ:St) (tg:Expr) (R:It→Hp→Prop) (Us:Value) (s2:Shared):Prop :=
 ∃ (it:Addr) (fp:List Addr) (tn:Nat→Heap→Prop) (J:It) (H':Hp),Us=.ref it∧Inv X pins σ H' s2∧Turn X.prog X.w X.K tg J fp it tn∧tn 0 s2.heap∧(∀ b ∈ fp,sy X pins H' b)∧R J H'
def PI (X:Cx) (tg iter:Expr) (wi:TI):Prop :=
 ∀ (pins:List (Addr × Obj)) (s:Shared) (σ:St) (H:Hp) (R:It→Hp→Prop),Inv X pins σ H s→wi σ H R →
  wpAny (model X.prog X.w) X.A (eval iter X.env) (fun v s1=>wpAny (model X.prog X.w) X.A (pyIter v) (YW X pins σ tg R) X.xe s1) X.xe s
theorem BD {M:Model} {A:Around} {E:Value→Shared→Prop} {s:Shared} {tg:Expr} {it:Addr} {u:Value} {o:Obj} {n:String} {vs:Array Value} {Q:Unit→Shared→Prop} (ho:s.heap.get? it=some o) (hc:o.cls=.type n) (hd:o.data=.fields vs)
  (hn:["enumerate","zip","dict_itemiterator","dict_reverseitemiterator","odict_iterator","itertools.zip_longest","itertools.pairwise"].contains n=false) (hQ:Q () s):wpAny M A (letOwnedTupleGo tg (.ref it) u) Q E s:=by
 unfold letOwnedTupleGo
 cases tg <;> first
  | exact wpAny_pure hQ
  | (cases u <;> first
    | exact wpAny_pure hQ
    | (refine wpAny_bind (wpAny_load ho ?_)
       rw [hc,hd]
       show wpAny M A (if (["enumerate","zip","dict_itemiterator","dict_reverseitemiterator","odict_iterator","itertools.zip_longest","itertools.pairwise"].contains n && vs[0]? == some (rawInt _))=true then _ else _) Q E s
       rw [if_neg (by intro h;rw [hn,Bool.false_and] at h;cases h)]
       exact wpAny_pure hQ))
def OX (K:PySem.W.Frag) (a:Addr):It :=
 ⟨fun i H=>∃ xs x,aX K H a xs∧xs[i]?=some x,fun i H x H'=>H'=H∧∀ xs,aX K H a xs→xs[i]?=some x,fun i H=>∃ xs,aX K H a xs∧xs.length≤i⟩
def Rb (K:PySem.W.Frag) (a:Addr):It :=
 ⟨fun i H=>∃ xs x,bz K H a xs∧xs[i]?=some x,fun i H x H'=>H'=H∧∀ xs,bz K H a xs→xs[i]?=some x,fun i H=>∃ xs,bz K H a xs∧xs.length≤i⟩
def LN (lo:Int) (n:Nat):It:=⟨fun i _=>i < n,fun i H x H'=>H'=H∧x=.int (lo+i),fun i _=>n≤i⟩
theorem GL {P:Program} {w:World} {K:PySem.W.Frag} {tg:Expr} (a it:Addr):Turn P w K tg (OX K a) [it] it (fun i h=>h.IsListIter it a i) where
 mem:=by simp
 obj:=fun i h st b hb=>by
  have e:b=it:=by simpa using hb
  subst e
  obtain ⟨o,e,c,d⟩:=st
  exact ⟨o,e,fun v z=>by rw [d] at z;cases z⟩
 keep:=fun i h h' st k=>st.at fun o e=>k it (by simp) o e
 item:=by
  intro X hP hw hK hc i pins s σ H E I hf st hg
  subst hP hw hK
  obtain ⟨xs,x,hq,hx⟩:=hg
  obtain ⟨ai,rv,p,hz⟩:=I.list hq
  obtain ⟨u,hu,ru⟩:=rv.get hx
  obtain ⟨f0,f1,f2,f3,f4,f5⟩:=hf it (by simp)
  refine wpAny_pyNext_list_item st p.isList (x:=u) (by simpa using hu) fun h' xh sb=>?_
  have I1:Inv X pins σ H { s with heap:=h' }:=I.turned (t':=s.toks) (fun b o hb e=>(sb.2 b hb).trans e) f0 f1 f3 f4 f5
  obtain ⟨o,e,c,d⟩:=id xh
  exact ⟨u,rfl,BD (s:={ s with heap:=h' }) e c d (by decide) ⟨x,H,I1,ru,⟨rfl,fun ys hy=>by rw [I.rO hy hq];exact hx⟩,xh,fun b hb=>(hf b hb).1⟩⟩
 done:=by
  intro X hP hw hK hc i pins s σ H E I hf st hg
  subst hP hw hK
  obtain ⟨xs,hq,hx⟩:=hg
  obtain ⟨ai,rv,p,hz⟩:=I.list hq
  obtain ⟨f0,f1,f2,f3,f4,f5⟩:=hf it (by simp)
  have hl:=rv.length
  exact wpAny_pyNext_list_end (I.ok.hd hc) st p.isList (by simp;omega) fun h' eb=>⟨rfl,I.turned (t':=s.toks) (fun b o hb e=>eb b o hb e) f0 f1 f3 f4 f5⟩
 self:=fun _ _ _ _ _ st h=>wpAny_pyIter_listiter st h
theorem C5 {P:Program} {w:World} {K:PySem.W.Frag} {tg:Expr} (a it:Addr):Turn P w K tg (Rb K a) [it] it (fun i h=>h.IsTupleIter it a i) where
 mem:=by simp
 obj:=fun i h st b hb=>by
  have e:b=it:=by simpa using hb
  subst e
  obtain ⟨o,e,c,d⟩:=st
  exact ⟨o,e,fun v z=>by rw [d] at z;cases z⟩
 keep:=fun i h h' st k=>st.at fun o e=>k it (by simp) o e
 item:=by
  intro X hP hw hK hc i pins s σ H E I hf st hg
  subst hP hw hK
  obtain ⟨xs,x,hq,hx⟩:=hg
  obtain ⟨ai,rv,p,hz⟩:=I.tuple hq
  obtain ⟨u,hu,ru⟩:=rv.get hx
  obtain ⟨f0,f1,f2,f3,f4,f5⟩:=hf it (by simp)
  refine wpAny_pyNext_tuple_item st (show s.heap.IsTuple a ai.toArray from p) (x:=u) (by simpa using hu) fun h' xh sb=>?_
  have I1:Inv X pins σ H { s with heap:=h' }:=I.turned (t':=s.toks) (fun b o hb e=>(sb.2 b hb).trans e) f0 f1 f3 f4 f5
  obtain ⟨o,e,c,d⟩:=id xh
  exact ⟨u,rfl,BD (s:={ s with heap:=h' }) e c d (by decide) ⟨x,H,I1,ru,⟨rfl,fun ys hy=>by rw [I.yo hy hq];exact hx⟩,xh,fun b hb=>(hf b hb).1⟩⟩
 done:=by
  intro X hP hw hK hc i pins s σ H E I hf st hg
  subst hP hw hK
  obtain ⟨xs,hq,hx⟩:=hg
  obtain ⟨ai,rv,p,hz⟩:=I.tuple hq
  obtain ⟨f0,f1,f2,f3,f4,f5⟩:=hf it (by simp)
  have hl:=rv.length
  exact wpAny_pyNext_tuple_end (I.ok.hd hc) st (show s.heap.IsTuple a ai.toArray from p) (by simp;omega) fun h' eb=>⟨rfl,I.turned (t':=s.toks) (fun b o hb e=>eb b o hb e) f0 f1 f3 f4 f5⟩
 self:=fun _ _ _ _ _ st h=>wpAny_pyIter_tupleiter st h
theorem C6 {P:Program} {w:World} {K:PySem.W.Frag} {tg:Expr} (it:Addr) (lo:Int) (n:Nat):Turn P w K tg (LN lo n) [it] it (fun i h=>IsRangeIter h it (lo+(i:Nat) * 1) ((n:Int) - (i:Nat)) 1) where
 mem:=by simp
 obj:=fun i h st b hb=>by
  have e:b=it:=by simpa using hb
  subst e
  exact ⟨_,st,fun v z=>by
   have z':Data.fields _=Data.cell v:=z
   cases z'⟩
 keep:=fun i h h' st k=>k it (by simp) _ st
 item:=by
  intro X hP hw hK hc i pins s σ H E I hf st hg
  subst hP hw hK
  obtain ⟨f0,f1,f2,f3,f4,f5⟩:=hf it (by simp)
  have W:=Walks.range (prog:=X.prog) (w:=X.w) (I.ok.hd hc) it lo 1 n
  refine W.item i s _ _ hg st fun v h' tk hv xh kk=>?_
  obtain ⟨t,rfl⟩:=hv
  have I1:Inv X pins σ H { s with heap:=h',toks:=tk }:=I.turned (fun b o hb e=>kk b o (by simpa using hb) e) f0 f1 f3 f4 f5
  refine ⟨_,rfl,BD (s:={ s with heap:=h',toks:=tk }) (n:="range_iterator") xh rfl rfl (by decide) ⟨.int (lo+i),H,I1,⟨t,?_⟩,⟨rfl,rfl⟩,xh,fun b hb=>(hf b hb).1⟩⟩
  rw [Int.mul_one]
 done:=by
  intro X hP hw hK hc i pins s σ H E I hf st hg
  subst hP hw hK
  obtain ⟨f0,f1,f2,f3,f4,f5⟩:=hf it (by simp)
  exact wpAny_pyNext_range_end (I.ok.hd hc) st (by have:n≤i:=hg;omega) fun h' eb=>⟨rfl,I.turned (t':=s.toks) (fun b o hb e=>eb b o hb e) f0 f1 f3 f4 f5⟩
 self:=fun _ _ _ _ _ st h=>wpAny_pyIter_rangeiter st h
end L2
namespace L2
open PySem PySem.Spec PyProof.Rows
section
variable {X:Cx} {tg:Expr}
def Nf (K:PySem.W.Frag) (tl:TE):TI:=fun σ H R=>tl σ H fun x H1=>∃ a,x=.ref a∧(∃ xs,aX K H1 a xs)∧R (OX K a) H1
def Rc (K:PySem.W.Frag) (tl:TE):TI:=fun σ H R=>tl σ H fun x H1=>∃ a,x=.ref a∧(∃ xs,bz K H1 a xs)∧R (Rb K a) H1
theorem E8 {l:Expr} {tl:TE} (hl:PE X l tl):PI X tg l (Nf X.K tl):=by
 intro pins s σ H R I h
 refine bu (hl pins s σ H _ I h) fun v s1 ⟨x,H1,I1,r1,q1⟩=>?_
 obtain ⟨a,e,⟨xs,hq⟩,q⟩:=q1
 subst e
 cases r1
 obtain ⟨ai,rv,p,hz⟩:=I1.list hq
 refine wpAny_pyIter_list p.isList ?_
 refine ⟨s1.heap.objs.size,[s1.heap.objs.size],_,_,H1,rfl,I1.kept (t':=s1.toks) fun b o e=>Heap.get?_push_of_some _ e,GL a _,⟨_,Heap.get?_push_size _ rfl,rfl,rfl⟩,fun b hb=>?_,q⟩
 have e:b=s1.heap.objs.size:=by simpa using hb
 subst e
 exact I1.zb (Nat.le_refl _) (I1.bw.fresh (Nat.le_refl _))
theorem OY {l:Expr} {tl:TE} (hl:PE X l tl):PI X tg l (Rc X.K tl):=by
 intro pins s σ H R I h
 refine bu (hl pins s σ H _ I h) fun v s1 ⟨x,H1,I1,r1,q1⟩=>?_
 obtain ⟨a,e,⟨xs,hq⟩,q⟩:=q1
 subst e
 cases r1
 obtain ⟨ai,rv,p,hz⟩:=I1.tuple hq
 refine wpAny_pyIter_tuple (show s1.heap.IsTuple a ai.toArray from p) ?_
 refine ⟨s1.heap.objs.size,[s1.heap.objs.size],_,_,H1,rfl,I1.kept (t':=s1.toks) fun b o e=>Heap.get?_push_of_some _ e,C5 a _,⟨_,Heap.get?_push_size _ rfl,rfl,rfl⟩,fun b hb=>?_,q⟩
 have e:b=s1.heap.objs.size:=by simpa using hb
 subst e
 exact I1.zb (Nat.le_refl _) (I1.bw.fresh (Nat.le_refl _))
theorem BE {pins:List (Addr × Obj)} {σ:St} {H:Hp} {s:Shared} {R:It→Hp→Prop} {E:Value→Shared→Prop} {lo hi:Int} {t u v:Tok} {tk:Nat} (I:Inv X pins σ H s) (h1:-(2 ^ 62)≤lo) (h2:lo < 2 ^ 62) (h3:-(2 ^ 62)≤hi) (h4:hi < 2 ^ 62)
  (q:R (LN lo (hi - lo).toNat) H):wpAny (model X.prog X.w) X.A (pyIter (.ref s.heap.objs.size)) (YW X pins σ tg R) E { s with heap:=s.heap.push { cls:=.type "range",data:=.fields #[.int lo t,.int hi u,.int 1 v] },toks:=tk }:=by
 refine wpAny_pyIter_range (IsRange.new ..) (small_one h1 h2 h3 h4) ?_
 have I1:Inv X pins σ H { s with heap:=s.heap.push { cls:=.type "range",data:=.fields #[.int lo t,.int hi u,.int 1 v] },toks:=tk }:=I.kept fun b o e=>Heap.get?_push_of_some _ e
 refine ⟨(s.heap.push { cls:=.type "range",data:=.fields #[.int lo t,.int hi u,.int 1 v] }).objs.size,[(s.heap.push { cls:=.type "range",data:=.fields #[.int lo t,.int hi u,.int 1 v] }).objs.size],_,_,H,rfl,
  I1.kept (t':=tk) fun b o e=>Heap.get?_push_of_some _ e,C6 _ lo (hi - lo).toNat,?_,fun b hb=>?_,q⟩
 ·have e1:lo+((0:Nat):Int) * 1=lo:=by simp
  have e2:(((hi - lo).toNat:Nat):Int) - ((0:Nat):Int)=Builtin.Range.rangeSize lo hi 1:=by rw [rangeSize_one];split <;> omega
  show IsRangeIter _ _ (lo+((0:Nat):Int) * 1) ((((hi - lo).toNat:Nat):Int) - ((0:Nat):Int)) 1
  rw [e1,e2]
  exact Heap.get?_push_size _ rfl
 ·have e:b=(s.heap.push { cls:=.type "range",data:=.fields #[.int lo t,.int hi u,.int 1 v] }).objs.size:=by simpa using hb
  subst e
  exact I1.zb (Nat.le_refl _) (I1.bw.fresh (Nat.le_refl _))
def Rf (ta:TA):TI:=fun σ H R=>ta σ H fun vs H1=>∃ j:Int,vs=[.int j]∧-(2 ^ 62)≤j∧j < 2 ^ 62∧R (LN 0 j.toNat) H1
def Rg (ta:TA):TI:=fun σ H R=>ta σ H fun vs H1=>∃ i j:Int,vs=[.int i,.int j]∧(-(2 ^ 62)≤i∧i < 2 ^ 62∧-(2 ^ 62)≤j∧j < 2 ^ 62)∧R (LN i (j - i).toNat) H1
theorem cv {a:Expr} {ta:TA} {p pos:Pos} (hg:Gl X "range") (hm:X.mg "range"=none) (ha:PA X [a] ta) (hs:starEach [a] X.env=[(false,eval a X.env)]:=by rfl):PI X tg (.Call (.Name "range" p) [a] [] pos) (Rf ta):=by
 intro pins s σ H R I h
 refine Call_ (l3 I hg hm boot_range (PyProof.Rows.callWith_type1 (bu (ha pos pins s σ H _ I h) fun us s1 ⟨vs,H1,I1,r1,q1⟩=>?_) hs rfl))
 obtain ⟨j,e,q1,q2,q⟩:=q1
 subst e
 cases r1 with
 | cons r rr =>
  cases rr
  obtain ⟨t,rfl⟩:=r
  exact call_range_1 (BE I1 (by omega) (by omega) q1 q2 (by simpa using q))
theorem tD {a b:Expr} {ta:TA} {p pos:Pos} (hg:Gl X "range") (hm:X.mg "range"=none) (ha:PA X [a,b] ta) (hs:starEach [a,b] X.env=[(false,eval a X.env),(false,eval b X.env)]:=by rfl) (GN:starEach [b] X.env=[(false,eval b X.env)]:=by rfl) :
  PI X tg (.Call (.Name "range" p) [a,b] [] pos) (Rg ta):=by
 intro pins s σ H R I h
 refine Call_ (l3 I hg hm boot_range (PyProof.Rows.callWith_type1 (bu (ha pos pins s σ H _ I h) fun us s1 ⟨vs,H1,I1,r1,q1⟩=>?_) (by rw [hs,GN]) (by rw [GN];rfl)))
 obtain ⟨i,j,e,⟨q1,q2,q3,q4⟩,q⟩:=q1
 subst e
 cases r1 with
 | cons r rr =>
  cases rr with
  | cons r' rr =>
   cases rr
   obtain ⟨t,rfl⟩:=r
   obtain ⟨t',rfl⟩:=r'
   exact call_range_2 (BE I1 q1 q2 q3 q4 q)
def Vo (wi:TI) (g:TG) (tb:TS):TS:=fun D σ H=>wi σ H fun J H1=>∃ W:Nat→Nat→St→Hp→Prop,(∃ m,W 0 m σ H1)∧∀ i m σ H,W i m σ H →
 (J.stop i H∧D.nx σ H)∨(J.go i H∧∃ N:St→Hp→Prop,(∀ σ' H',N σ' H'→∃ m',m' < m∧W (i+1) m' σ' H')∧∀ x H',J.Ij i H x H'→g x σ H' fun σ2 H2=>tb { D with nx:=N,ct:=N,bk:=D.nx } σ2 H2)
def vc (fp:List Addr) (h:Heap):List (Addr × Obj):=fp.filterMap fun b=>(h.get? b).map fun o=>(b,o)
theorem l4 {fp:List Addr} {h:Heap} {b:Addr} {o:Obj} (hb:b ∈ fp) (e:h.get? b=some o):(b,o) ∈ vc fp h:=List.mem_filterMap.mpr ⟨b,hb,by rw [e];rfl⟩
theorem GO {fp:List Addr} {h:Heap} {p:Addr × Obj} (hp:p ∈ vc fp h):p.1 ∈ fp∧h.get? p.1=some p.2:=by
 obtain ⟨b,hb,e⟩:=List.mem_filterMap.mp hp
 cases q:h.get? b with
 | none=>rw [q] at e;cases e
 | some o =>
  rw [q] at e
  have e':(b,o)=p:=Option.some.inj e
  subst e'
  exact ⟨hb,q⟩
theorem Inv.pinned {pins:List (Addr × Obj)} {σ:St} {H:Hp} {s:Shared} {fp:List Addr} (I:Inv X pins σ H s) (hf:∀ b ∈ fp,sy X pins H b) (ho:∀ b ∈ fp,∃ o,s.heap.get? b=some o∧∀ v,o.data≠.cell v):Inv X (pins ++ vc fp s.heap) σ H s :=
 I.E5 fun p hp=>(List.mem_append.mp hp).elim (fun z=>I.pin p (List.mem_append_right _ z)) fun z=>by
  obtain ⟨hb,e⟩:=GO z
  obtain ⟨f0,f1,f2,_⟩:=hf p.1 hb
  obtain ⟨o,e',d⟩:=ho p.1 hb
  rw [e] at e';cases e'
  exact ⟨e,f0,f1,f2,d⟩
theorem Inv.ng {pins pl:List (Addr × Obj)} {σ:St} {H:Hp} {s:Shared} (I:Inv X (pins ++ pl) σ H s):Inv X pins σ H s:=I.E5 fun p hp=>I.pin p (List.mem_append_right _ (List.mem_append_left _ hp))
theorem dC {iter:Expr} {body:List Stmt} {wi:TI} {g:TG} {tb:TS} {pos:Pos} (hp:PassesOwn (model X.prog X.w) X.A X.env X.xe) (hc:X.calm=true) (hi:PI X tg iter wi) (hg:PG X tg g) (hb:Cz X body tb)
  (hs:∀ x,foldedSetIterable iter X.env x=pure x:=by intro _;rfl):PS X (.For tg iter body [] pos) (Vo wi g tb):=by
 intro pins s σ H D I h
 refine wpAny_For (bu (hi pins s σ H _ I h) fun v s1 h1=>bu h1 fun Us s2 h2=>?_) hs
 obtain ⟨it,fp,tn,J,H2,e,I2,T,A1,f2,W,⟨m0,w0⟩,turn⟩:=h2
 subst e
 have C7:∀ {H':Hp},(∀ b ∈ fp,H' b=none)→∀ b ∈ fp,sy X pins H' b:=fun hn b hb=>⟨hn b hb,(f2 b hb).2⟩
 refine codeAny_forLoop_any (fun n s'=>∃ i σ' H',Inv X pins σ' H' s'∧tn i s'.heap∧(∀ b ∈ fp,H' b=none)∧W i n σ' H') ?_ m0 ⟨0,σ,H2,I2,A1,fun b hb=>(f2 b hb).1,w0⟩
 rintro n s3 ⟨i,σ3,H3,I3,IU,YX,w3⟩
 rcases turn i n σ3 H3 w3 with ⟨stop,qn⟩ | ⟨go,N,hN,step⟩
 ·refine wpAny_passesOwn hp (bu (T.done X rfl rfl rfl hc i pins s3 σ3 H3 X.xe I3 (C7 YX) IU stop) fun r s4 ⟨hr,I4⟩=>?_)
  subst hr
  exact wpAny_execs_nil ⟨σ3,H3,I4,qn⟩
 ·refine wpAny_passesOwn hp (bu (T.item X rfl rfl rfl hc i pins s3 σ3 H3 X.xe I3 (C7 YX) IU go) fun r s4 ⟨u,hr,h4⟩=>?_)
  subst hr
  refine wpAny_passesOwn hp (bu h4 fun _ s5 ⟨x,H5,I5,r5,y5,vd,OZ⟩=>?_)
  have I5':=I5.pinned (C7 OZ) (T.obj _ _ vd)
  refine wpAny_passesOwn hp (bu (hg _ s5 σ3 H5 x u _ I5' r5 (step x H5 y5)) fun _ s6 ⟨σ6,H6,I6,q6⟩=>?_)
  refine wpAny_passesOwn hp (bu (hb _ s6 σ6 H6 _ I6 q6) fun f s7 q7=>?_)
  have again:∀ {σ7:St} {H7:Hp},Inv X (pins ++ vc fp s5.heap) σ7 H7 s7→N σ7 H7→∃ m,m < n∧∃ i σ' H',Inv X pins σ' H' s7∧tn i s7.heap∧(∀ b ∈ fp,H' b=none)∧W i m σ' H':=fun {σ7 H7} I7 n7=>by
   obtain ⟨m',hm,w7⟩:=hN σ7 H7 n7
   refine ⟨m',hm,i+1,σ7,H7,I7.ng,T.keep _ _ _ vd fun b hb o e=>(I7.pin (b,o) (List.mem_append_right _ (List.mem_append_right _ (l4 hb e)))).1,fun b hb=>?_,w7⟩
   obtain ⟨o,e,d⟩:=T.obj _ _ vd b hb
   exact (I7.pin (b,o) (List.mem_append_right _ (List.mem_append_right _ (l4 hb e)))).2.1
  cases f with
  | next=>obtain ⟨σ7,H7,I7,n7⟩:=q7;exact again I7 n7
  | cont=>obtain ⟨σ7,H7,I7,n7⟩:=q7;exact again I7 n7
  | brk=>obtain ⟨σ7,H7,I7,q7⟩:=q7;exact ⟨σ7,H7,I7.ng,q7⟩
  | ret v=>obtain ⟨x7,σ7,H7,I7,r7,q7⟩:=q7;exact ⟨x7,σ7,H7,I7.ng,r7,q7⟩
end
theorem lD {K:PySem.W.Frag} {a:Addr} {xs:List V} {g:TG} {tb:TS} {D:Ends} {σ:St} {H:Hp} (Pv:Nat→St→Hp→Prop) (h0:Pv 0 σ H) (hl:∀ i σ H,i≤xs.length→Pv i σ H→aX K H a xs)
  (hs:∀ i x σ H,xs[i]?=some x→Pv i σ H→g x σ H fun σ2 H2=>tb { D with nx:=Pv (i+1),ct:=Pv (i+1),bk:=D.nx } σ2 H2) (hd:∀ σ H,Pv xs.length σ H→D.nx σ H) :
  ∃ W:Nat→Nat→St→Hp→Prop,(∃ m,W 0 m σ H)∧∀ i m σ H,W i m σ H →
   ((OX K a).stop i H∧D.nx σ H)∨((OX K a).go i H∧∃ N:St→Hp→Prop,(∀ σ' H',N σ' H'→∃ m',m' < m∧W (i+1) m' σ' H')∧∀ x H',(OX K a).Ij i H x H'→g x σ H' fun σ2 H2=>tb { D with nx:=N,ct:=N,bk:=D.nx } σ2 H2):=by
 refine ⟨fun i m σ H=>m=xs.length - i∧i≤xs.length∧Pv i σ H,⟨xs.length,by simp,Nat.zero_le _,h0⟩,?_⟩
 rintro i m σ H ⟨rfl,hi,p⟩
 have q:=hl i σ H hi p
 by_cases fE:i < xs.length
 ·refine .inr ⟨⟨xs,xs[i],q,by simp [fE]⟩,Pv (i+1),fun σ' H' p'=>⟨xs.length - (i+1),by omega,rfl,fE,p'⟩,fun x H' y=>?_⟩
  obtain ⟨e,y⟩:=y
  subst e
  exact hs i x σ _ (y xs q) p
 ·have e:i=xs.length:=by omega
  subst e
  exact .inl ⟨⟨xs,q,Nat.le_refl _⟩,hd σ H p⟩
theorem E9 {K:PySem.W.Frag} {a:Addr} {xs:List V} {g:TG} {tb:TS} {D:Ends} {σ:St} {H:Hp} (Pv:Nat→St→Hp→Prop) (h0:Pv 0 σ H) (hl:∀ i σ H,i≤xs.length→Pv i σ H→bz K H a xs)
  (hs:∀ i x σ H,xs[i]?=some x→Pv i σ H→g x σ H fun σ2 H2=>tb { D with nx:=Pv (i+1),ct:=Pv (i+1),bk:=D.nx } σ2 H2) (hd:∀ σ H,Pv xs.length σ H→D.nx σ H) :
  ∃ W:Nat→Nat→St→Hp→Prop,(∃ m,W 0 m σ H)∧∀ i m σ H,W i m σ H →
   ((Rb K a).stop i H∧D.nx σ H)∨((Rb K a).go i H∧∃ N:St→Hp→Prop,(∀ σ' H',N σ' H'→∃ m',m' < m∧W (i+1) m' σ' H')∧∀ x H',(Rb K a).Ij i H x H'→g x σ H' fun σ2 H2=>tb { D with nx:=N,ct:=N,bk:=D.nx } σ2 H2):=by
 refine ⟨fun i m σ H=>m=xs.length - i∧i≤xs.length∧Pv i σ H,⟨xs.length,by simp,Nat.zero_le _,h0⟩,?_⟩
 rintro i m σ H ⟨rfl,hi,p⟩
 have q:=hl i σ H hi p
 by_cases fE:i < xs.length
 ·refine .inr ⟨⟨xs,xs[i],q,by simp [fE]⟩,Pv (i+1),fun σ' H' p'=>⟨xs.length - (i+1),by omega,rfl,fE,p'⟩,fun x H' y=>?_⟩
  obtain ⟨e,y⟩:=y
  subst e
  exact hs i x σ _ (y xs q) p
 ·have e:i=xs.length:=by omega
  subst e
  exact .inl ⟨⟨xs,q,Nat.le_refl _⟩,hd σ H p⟩
theorem fT {lo:Int} {n:Nat} {g:TG} {tb:TS} {D:Ends} {σ:St} {H:Hp} (Pv:Nat→St→Hp→Prop) (h0:Pv 0 σ H)
  (hs:∀ i σ H,i < n→Pv i σ H→g (.int (lo+i)) σ H fun σ2 H2=>tb { D with nx:=Pv (i+1),ct:=Pv (i+1),bk:=D.nx } σ2 H2) (hd:∀ σ H,Pv n σ H→D.nx σ H) :
  ∃ W:Nat→Nat→St→Hp→Prop,(∃ m,W 0 m σ H)∧∀ i m σ H,W i m σ H →
   ((LN lo n).stop i H∧D.nx σ H)∨((LN lo n).go i H∧∃ N:St→Hp→Prop,(∀ σ' H',N σ' H'→∃ m',m' < m∧W (i+1) m' σ' H')∧∀ x H',(LN lo n).Ij i H x H'→g x σ H' fun σ2 H2=>tb { D with nx:=N,ct:=N,bk:=D.nx } σ2 H2):=by
 refine ⟨fun i m σ H=>m=n - i∧i≤n∧Pv i σ H,⟨n,by simp,Nat.zero_le _,h0⟩,?_⟩
 rintro i m σ H ⟨rfl,hi,p⟩
 by_cases fE:i < n
 ·refine .inr ⟨fE,Pv (i+1),fun σ' H' p'=>⟨n - (i+1),by omega,rfl,fE,p'⟩,fun x H' y=>?_⟩
  obtain ⟨e,y⟩:=y
  subst e y
  exact hs i σ _ fE p
 ·have e:i=n:=by omega
  subst e
  exact .inl ⟨Nat.le_refl _,hd σ H p⟩
theorem BF {c:TT} {tb:TS} {D:Ends} {σ:St} {H:Hp} (Pv:St→Hp→Prop) (μ:St→Hp→Nat) (h0:Pv σ H)
  (hs:∀ σ H,Pv σ H→c σ H fun b H1=>if b=true then tb { D with nx:=fun σ' H'=>Pv σ' H'∧μ σ' H' < μ σ H,ct:=fun σ' H'=>Pv σ' H'∧μ σ' H' < μ σ H,bk:=D.nx } σ H1 else D.nx σ H1)
  (mono:∀ σ H Q Q',(∀ b H1,Q b H1→Q' b H1)→c σ H Q→c σ H Q'):Ii c tb D σ H:=by
 refine ⟨fun m σ H=>m=μ σ H∧Pv σ H,⟨_,rfl,h0⟩,?_⟩
 rintro m σ H ⟨rfl,p⟩
 refine mono σ H _ _ (fun b H1 q=>?_) (hs σ H p)
 cases b with
 | true=>exact ⟨_,fun σ' H' ⟨p',l⟩=>⟨_,l,rfl,p'⟩,q⟩
 | false=>exact q
end L2
namespace L2
open PySem PySem.Spec PyProof.Rows
abbrev R2:=V→V→Hp→VK→Prop
def nS (X:Cx) (f:Value→Value→Sem Value) (r:R2):Prop :=
 ∀ (pins:List (Addr × Obj)) (s:Shared) (σ:St) (H:Hp) (x y:V) (v u:Value) (Q:VK),Inv X pins σ H s→RelV x v→RelV y u→r x y H Q →
  wpAny (model X.prog X.w) X.A (f v u) (EP X pins σ Q) X.xe s
def Vp (X:Cx) (f:Value→Sem Value) (r:V→Hp→VK→Prop):Prop :=
 ∀ (pins:List (Addr × Obj)) (s:Shared) (σ:St) (H:Hp) (x:V) (v:Value) (Q:VK),Inv X pins σ H s→RelV x v→r x H Q →
  wpAny (model X.prog X.w) X.A (f v) (EP X pins σ Q) X.xe s
def jx (X:Cx) (f:Value) (r:List V→Hp→VK→Prop):Prop :=
 ∀ (pins:List (Addr × Obj)) (s:Shared) (σ:St) (H:Hp) (xs:List V) (us:List Value) (Q:VK),Inv X pins σ H s→au xs us→r xs H Q →
  wpAny (model X.prog X.w) X.A (call f us) (EP X pins σ Q) X.xe s
def Vq (X:Cx) (r:V→Hp→(Bool→Hp→Prop)→Prop):Prop :=
 ∀ (pins:List (Addr × Obj)) (s:Shared) (σ:St) (H:Hp) (x:V) (v:Value) (Q:Bool→Hp→Prop),Inv X pins σ H s→RelV x v→r x H Q →
  wpAny (model X.prog X.w) X.A (truthy v) (TP X pins σ Q) X.xe s
def Qs (r:R2) (ta tb:TE):TE:=fun σ H Q=>ta σ H fun x H1=>tb σ H1 fun y H2=>r x y H2 Q
def tUn (r:V→Hp→VK→Prop) (ta:TE):TE:=fun σ H Q=>ta σ H fun x H1=>r x H1 Q
def rI (C:Int→Int→Prop) (g:Int→Int→V):R2:=fun x y H Q=>∃ i j,x=.int i∧y=.int j∧C i j∧Q (g i j) H
def K2 (g:Int→Int→V):R2:=fun x y H Q=>∃ i j,x=.int i∧y=.int j∧Q (g i j) H
def rU (g:Int→V):V→Hp→VK→Prop:=fun x H Q=>∃ i,x=.int i∧Q (g i) H
section
variable {X:Cx} {a b c:Expr} {ta tb tc:TE} {pos:Pos}
theorem Oa (ha:PE X a ta) (hb:PE X b tb) {pins:List (Addr × Obj)} {s:Shared} {σ:St} {H:Hp} {R:V→V→Hp→Prop} (I:Inv X pins σ H s)
  (h:ta σ H fun x H1=>tb σ H1 fun y H2=>R x y H2) {Q:Value→Shared→Prop} {f:Value→Value→Sem Value}
  (hf:∀ v u s2 x y H2,Inv X pins σ H2 s2→RelV x v→RelV y u→R x y H2→wpAny (model X.prog X.w) X.A (f v u) Q X.xe s2) :
  wpAny (model X.prog X.w) X.A (eval a X.env) (fun v s₁=>wpAny (model X.prog X.w) X.A (eval b X.env) (fun u s₂=>wpAny (model X.prog X.w) X.A (f v u) Q X.xe s₂) X.xe s₁) X.xe s:=by
 refine bu (ha pins s σ H _ I h) fun v s1 ⟨x,H1,I1,r1,q1⟩=>?_
 refine bu (hb pins s1 σ H1 _ I1 q1) fun u s2 ⟨y,H2,I2,r2,q2⟩=>?_
 exact hf v u s2 x y H2 I2 r1 r2 q2
theorem aN {op:Operator} {r:R2} (ho:nS X (binaryOp op) r) (ha:PE X a ta) (hb:PE X b tb):PE X (.BinOp a op b pos) (Qs r ta tb):=by
 intro pins s σ H Q I h
 exact wpAny_BinOp (Oa ha hb I h fun v u s2 x y H2 I2 rx ry q=>ho pins s2 σ H2 x y v u Q I2 rx ry q)
theorem FA {op:UnaryOp} {r:V→Hp→VK→Prop} (ho:Vp X (unaryOp op) r) (ha:PE X a ta):PE X (.UnaryOp op a pos) (tUn r ta):=by
 intro pins s σ H Q I h
 exact UnaryOp_ (bu (ha pins s σ H _ I h) fun v s1 ⟨x,H1,I1,r1,q1⟩=>ho pins s1 σ H1 x v Q I1 r1 q1)
theorem Ut {f:Value→Value→Sem Value} {C:Int→Int→Prop} {g:Int→Int→Int}
  (rule:∀ (i j:Int) (t u:Tok) (s:Shared) (Q:Value→Shared→Prop) (E:Value→Shared→Prop),C i j→Q (.int (g i j) s.toks) { s with toks:=s.toks+1 }→wpAny (model X.prog X.w) X.A (f (.int i t) (.int j u)) Q E s) :
  nS X f (rI C fun i j=>.int (g i j)):=by
 intro pins s σ H x y v u Q I rx ry h
 obtain ⟨i,j,rfl,rfl,hc,q⟩:=h
 obtain ⟨t,rfl⟩:=rx
 obtain ⟨t',rfl⟩:=ry
 exact rule i j t t' s _ _ hc ⟨.int (g i j),H,I.tok _,⟨_,rfl⟩,q⟩
theorem Rh {f:Value→Value→Sem Value} {g:Int→Int→Int}
  (rule:∀ (i j:Int) (t u:Tok) (s:Shared) (Q:Value→Shared→Prop) (E:Value→Shared→Prop),Q (.int (g i j) s.toks) { s with toks:=s.toks+1 }→wpAny (model X.prog X.w) X.A (f (.int i t) (.int j u)) Q E s) :
  nS X f (K2 fun i j=>.int (g i j)):=by
 intro pins s σ H x y v u Q I rx ry h
 obtain ⟨i,j,rfl,rfl,q⟩:=h
 obtain ⟨t,rfl⟩:=rx
 obtain ⟨t',rfl⟩:=ry
 exact rule i j t t' s _ _ ⟨.int (g i j),H,I.tok _,⟨_,rfl⟩,q⟩
theorem LO {f:Value→Value→Sem Value} {g:Int→Int→Bool}
  (rule:∀ (i j:Int) (t u:Tok) (s:Shared) (Q:Value→Shared→Prop) (E:Value→Shared→Prop),Q (.bool (g i j)) s→wpAny (model X.prog X.w) X.A (f (.int i t) (.int j u)) Q E s) :
  nS X f (K2 fun i j=>.bl (g i j)):=by
 intro pins s σ H x y v u Q I rx ry h
 obtain ⟨i,j,rfl,rfl,q⟩:=h
 obtain ⟨t,rfl⟩:=rx
 obtain ⟨t',rfl⟩:=ry
 exact rule i j t t' s _ _ ⟨.bl (g i j),H,I,rfl,q⟩
def Vr (i j:Int):Prop:=0 < j∧j < 1073741824
def Vs (i j:Int):Prop:=0≤j∧j≤1000000∧i.natAbs < 2 ^ 64
def Ob (i j:Int):Prop:=(-(2 ^ 64) < i∧i < 2 ^ 64)∨(-(2 ^ 64) < j∧j < 2 ^ 64)
theorem Ob.ok {i j:Int} (h:Ob i j):IntMulOk i j:=by
 rcases h with ⟨h1,h2⟩ | ⟨h1,h2⟩
 ·exact .of_left (intBits_le_64 h1 h2)
 ·exact .of_right (intBits_le_64 h1 h2)
theorem bA:nS X (binaryOp .Add) (K2 fun i j=>.int (i+j)):=Rh fun _ _ _ _ _ _ _ q=>add_int q
theorem jJ:nS X (binaryOp .Sub) (K2 fun i j=>.int (i - j)):=Rh fun _ _ _ _ _ _ _ q=>sub_int q
theorem eJ:nS X (binaryOp .Mult) (rI Ob fun i j=>.int (i * j)):=Ut fun _ _ _ _ _ _ _ hc q=>mul_int q hc.ok
theorem cW:nS X (binaryOp .FloorDiv) (rI Vr fun i j=>.int (i / j)):=Ut fun i j _ _ _ _ _ hc q=>by
 have h1:(0:Int) < j:=hc.1
 have h2:j < 1073741824:=hc.2
 exact floordiv_int (by omega) (by rw [Int.fdiv_eq_ediv_of_nonneg i (by omega)];exact q) (.inl (PyProof.noPylong_small (by omega)))
theorem aw:nS X (binaryOp .Mod) (rI (fun _ j=>0 < j) fun i j=>.int (i % j)):=Ut fun i j _ _ _ _ _ hc q=>by
 have h1:(0:Int) < j:=hc
 exact mod_int' (by omega) (by rw [Int.fmod_eq_emod_of_nonneg i (by omega)];exact q)
theorem Oc:nS X (binaryOp .Pow) (rI Vs fun i j=>.int (i ^ j.toNat)):=Ut fun _ _ _ _ _ _ _ hc q=>pow_int_small hc.1 hc.2.1 hc.2.2 q
theorem unI {f:Value→Sem Value} {g:Int→Int}
  (rule:∀ (i:Int) (t:Tok) (s:Shared) (Q:Value→Shared→Prop) (E:Value→Shared→Prop),Q (.int (g i) s.toks) { s with toks:=s.toks+1 }→wpAny (model X.prog X.w) X.A (f (.int i t)) Q E s) :
  Vp X f (rU fun i=>.int (g i)):=by
 intro pins s σ H x v Q I rx h
 obtain ⟨i,rfl,q⟩:=h
 obtain ⟨t,rfl⟩:=rx
 exact rule i t s _ _ ⟨.int (g i),H,I.tok _,⟨_,rfl⟩,q⟩
theorem zd:Vp X (unaryOp .USub) (rU fun i=>.int (-i)):=unI fun _ _ _ _ _ q=>neg_int q
end
def Ri:V→V→Bool
 | .bN,.bN=>true | .bN,.int _=>true | .int _,.bN=>true | .bN,.bl _=>true | .bl _,.bN=>true | .bN,.str _=>true | .str _,.bN=>true
 | .int _,.int _=>true | .bl _,.bl _=>true | .str _,.str _=>true | .E3 _,.E3 _=>true
 | .int _,.str _=>true | .str _,.int _=>true | .bl _,.str _=>true | .str _,.bl _=>true
 | _,_=>false
def rEq:R2:=fun x y H Q=>Ri x y=true∧Q (.bl (decide (x=y))) H
def Vt:R2:=fun x y H Q=>Ri x y=true∧Q (.bl (!decide (x=y))) H
theorem FC {i j:Int}:decide (V.int i=V.int j)=(i == j):=by
 rw [Bool.eq_iff_iff]
 simp
theorem Ik {i j:Bool}:decide (V.bl i=V.bl j)=(i == j):=by
 rw [Bool.eq_iff_iff]
 simp
theorem FD {i j:Str}:decide (V.str i=V.str j)=(i == j):=by
 rw [Bool.eq_iff_iff]
 simp
theorem FE {i j:Array UInt8}:decide (V.E3 i=V.E3 j)=(i.toList == j.toList):=by
 rw [Bool.eq_iff_iff]
 cases i
 cases j
 simp
section
variable {X:Cx} {a b c:Expr} {ta tb tc:TE} {pos:Pos}
theorem bM {pins:List (Addr × Obj)} {σ:St} {H:Hp} {s:Shared} {Q:VK} {k k':Bool} (I:Inv X pins σ H s) (q:Q (.bl k) H) (e:k=k'):EP X pins σ Q (.bool k') s:=by
 subst e
 exact ⟨.bl k,H,I,rfl,q⟩
theorem jK:nS X (compareOp .Eq) rEq:=by
 intro pins s σ H x y v u Q I rx ry h
 obtain ⟨hs,q⟩:=h
 cases x with
 | bN =>
  cases rx
  cases y with
  | bN=>cases ry;exact PySem.EqNone.eq_none_none (bM I q (by simp))
  | bl j=>cases ry;exact PySem.EqNone.eq_none_bool (bM I q (by simp))
  | int j=>obtain ⟨t',rfl⟩:=ry;exact PySem.EqNone.eq_none_int (bM I q (by simp))
  | str j=>obtain ⟨t',rfl⟩:=ry;exact PySem.EqNone.eq_none_str (bM I q (by simp))
  | _=>exact absurd (show false=true from hs) Bool.false_ne_true
 | bl i =>
  cases rx
  cases y with
  | bN=>cases ry;exact PySem.EqNone.eq_bool_none (bM I q (by simp))
  | bl j=>cases ry;exact eq_bool (bM I q Ik)
  | str j=>obtain ⟨t',rfl⟩:=ry;exact PySem.EqMixed.eq_bool_str (bM I q (by simp))
  | _=>exact absurd (show false=true from hs) Bool.false_ne_true
 | int i =>
  obtain ⟨t,rfl⟩:=rx
  cases y with
  | bN=>cases ry;exact PySem.EqNone.eq_int_none (bM I q (by simp))
  | int j=>obtain ⟨t',rfl⟩:=ry;exact eq_int (bM I q FC)
  | str j=>obtain ⟨t',rfl⟩:=ry;exact PySem.EqMixed.eq_int_str (bM I q (by simp))
  | _=>exact absurd (show false=true from hs) Bool.false_ne_true
 | str i =>
  obtain ⟨t,rfl⟩:=rx
  cases y with
  | bN=>cases ry;exact PySem.EqNone.eq_str_none (bM I q (by simp))
  | bl j=>cases ry;exact PySem.EqMixed.eq_str_bool (bM I q (by simp))
  | int j=>obtain ⟨t',rfl⟩:=ry;exact PySem.EqMixed.eq_str_int (bM I q (by simp))
  | str j=>obtain ⟨t',rfl⟩:=ry;exact eq_str (bM I q FD)
  | _=>exact absurd (show false=true from hs) Bool.false_ne_true
 | E3 i =>
  obtain ⟨t,rfl⟩:=rx
  cases y with
  | E3 j=>obtain ⟨t',rfl⟩:=ry;exact PySem.W.eq_bytes (bM I q FE)
  | _=>exact absurd (show false=true from hs) Bool.false_ne_true
 | _=>cases y <;> exact absurd (show false=true from hs) Bool.false_ne_true
theorem BG:nS X (compareOp .NotEq) Vt:=by
 intro pins s σ H x y v u Q I rx ry h
 obtain ⟨hs,q⟩:=h
 cases x with
 | bN =>
  cases rx
  cases y with
  | bN=>cases ry;exact PySem.EqNone.ne_none_none (bM I q (by simp))
  | bl j=>cases ry;exact PySem.EqNone.ne_none_bool (bM I q (by simp))
  | int j=>obtain ⟨t',rfl⟩:=ry;exact PySem.EqNone.ne_none_int (bM I q (by simp))
  | str j=>obtain ⟨t',rfl⟩:=ry;exact PySem.EqNone.ne_none_str (bM I q (by simp))
  | _=>exact absurd (show false=true from hs) Bool.false_ne_true
 | bl i =>
  cases rx
  cases y with
  | bN=>cases ry;exact PySem.EqNone.ne_bool_none (bM I q (by simp))
  | bl j=>cases ry;exact ne_bool (bM I q (congrArg not Ik))
  | str j=>obtain ⟨t',rfl⟩:=ry;exact PySem.EqMixed.ne_bool_str (bM I q (by simp))
  | _=>exact absurd (show false=true from hs) Bool.false_ne_true
 | int i =>
  obtain ⟨t,rfl⟩:=rx
  cases y with
  | bN=>cases ry;exact PySem.EqNone.ne_int_none (bM I q (by simp))
  | int j=>obtain ⟨t',rfl⟩:=ry;exact ne_int (bM I q (congrArg not FC))
  | str j=>obtain ⟨t',rfl⟩:=ry;exact PySem.EqMixed.ne_int_str (bM I q (by simp))
  | _=>exact absurd (show false=true from hs) Bool.false_ne_true
 | str i =>
  obtain ⟨t,rfl⟩:=rx
  cases y with
  | bN=>cases ry;exact PySem.EqNone.ne_str_none (bM I q (by simp))
  | bl j=>cases ry;exact PySem.EqMixed.ne_str_bool (bM I q (by simp))
  | int j=>obtain ⟨t',rfl⟩:=ry;exact PySem.EqMixed.ne_str_int (bM I q (by simp))
  | str j=>obtain ⟨t',rfl⟩:=ry;exact ne_str (bM I q (congrArg not FD))
  | _=>exact absurd (show false=true from hs) Bool.false_ne_true
 | E3 i =>
  obtain ⟨t,rfl⟩:=rx
  cases y with
  | E3 j=>obtain ⟨t',rfl⟩:=ry;exact PySem.W.ne_bytes (bM I q (congrArg not FE))
  | _=>exact absurd (show false=true from hs) Bool.false_ne_true
 | _=>cases y <;> exact absurd (show false=true from hs) Bool.false_ne_true
theorem jy:nS X (compareOp .Lt) (K2 fun i j=>.bl (decide (i < j))):=LO fun _ _ _ _ _ _ _ q=>lt_int q
theorem qB:nS X (compareOp .LtE) (K2 fun i j=>.bl (decide (i≤j))):=LO fun _ _ _ _ _ _ _ q=>le_int q
theorem Il:nS X (compareOp .Gt) (K2 fun i j=>.bl (decide (j < i))):=LO fun _ _ _ _ _ _ _ q=>gt_int q
theorem Ng:nS X (compareOp .GtE) (K2 fun i j=>.bl (decide (j≤i))):=LO fun _ _ _ _ _ _ _ q=>ge_int q
theorem tE:nS X (compareOp .Is) (fun x y H Q=>y=.bN∧Q (.bl (decide (x=.bN))) H):=by
 intro pins s σ H x y v u Q I rx ry h
 obtain ⟨rfl,q⟩:=h
 cases ry
 refine is_none_gen (bM I q ?_)
 cases x <;> first
  | (cases rx;rfl)
  | (obtain ⟨t,rfl⟩:=rx;rfl)
theorem pM:nS X (compareOp .IsNot) (fun x y H Q=>y=.bN∧Q (.bl (!decide (x=.bN))) H):=by
 intro pins s σ H x y v u Q I rx ry h
 obtain ⟨rfl,q⟩:=h
 cases ry
 refine isnot_none_gen (bM I q ?_)
 cases x <;> first
  | (cases rx;rfl)
  | (obtain ⟨t,rfl⟩:=rx;rfl)
theorem nS.or {f:Value→Value→Sem Value} {r r':R2} (h:nS X f r) (h':nS X f r'):nS X f (fun x y H Q=>r x y H Q∨r' x y H Q):=by
 intro pins s σ H x y v u Q I rx ry q
 rcases q with q | q
 ·exact h pins s σ H x y v u Q I rx ry q
 ·exact h' pins s σ H x y v u Q I rx ry q
theorem aj (b:Expr) {op:CmpOp} (h:op≠.In:=by decide) (h2:op≠.NotIn:=by decide):behindInMarks op b=false:=by
 have e1:(op == CmpOp.In)=false:=by cases op <;> first | rfl | exact absurd rfl h
 have e2:(op == CmpOp.NotIn)=false:=by cases op <;> first | rfl | exact absurd rfl h2
 cases b <;> simp [behindInMarks,e1,e2]
theorem pN {op:CmpOp} {r:R2} (ho:nS X (compareOp op) r) (ha:PE X a ta) (hb:PE X b tb) (hm:behindInMarks op b=false):PE X (.Compare a [op] [b] pos) (Qs r ta tb):=by
 intro pins s σ H Q I h
 exact wpAny_Compare1 (Oa ha hb I h fun v u s2 x y H2 I2 rx ry q=>ho pins s2 σ H2 x y v u Q I2 rx ry q) hm
def FF (t:TE):TT:=fun σ H Q=>t σ H fun x H'=>∃ k,x=.bl k∧Q k H'
theorem aW {op:CmpOp} {r:R2} (ho:nS X (compareOp op) r) (ha:PE X a ta) (hb:PE X b tb) (hm:behindInMarks op b=false):PT X (.Compare a [op] [b] pos) (FF (Qs r ta tb)):=by
 intro pins s σ H Q I h
 refine wpAny_isTrue_Compare1 (bu (ha pins s σ H _ I h) fun v s1 ⟨x,H1,I1,r1,q1⟩=>bu (hb pins s1 σ H1 _ I1 q1) fun u s2 ⟨y,H2,I2,r2,q2⟩ =>
  bu (ho pins s2 σ H2 x y v u _ I2 r1 r2 q2) fun c s3 ⟨z,H3,I3,r3,k,e,q3⟩=>?_) hm
 subst e
 cases r3
 exact wpAny_truthy_bool ⟨H3,I3,q3⟩
def Im (r r':R2) (ta tb tc:TE):TE:=fun σ H Q=>ta σ H fun x H1=>tb σ H1 fun y H2=>r x y H2 fun z H3=>∃ k,z=.bl k ∧
 (if k=true then tc σ H3 fun w' H4=>r' y w' H4 Q else Q (.bl false) H3)
theorem BH {op Od:CmpOp} {r r':R2} (ho:nS X (compareOp op) r) (Az:nS X (compareOp Od) r') (ha:PE X a ta) (hb:PE X b tb) (hc:PE X c tc)
  (hm:lastMarks [op,Od] [b,c]=false:=by with_unfolding_all rfl):PE X (.Compare a [op,Od] [b,c] pos) (Im r r' ta tb tc):=by
 intro pins s σ H Q I h
 refine Compare_chain (bu (ha pins s σ H _ I h) fun v s1 ⟨x,H1,I1,r1,q1⟩=>chain_link (bu (hb pins s1 σ H1 _ I1 q1) fun u s2 ⟨y,H2,I2,r2,q2⟩ =>
  bu (ho pins s2 σ H2 x y v u _ I2 r1 r2 q2) fun d s3 ⟨z,H3,I3,r3,k,e,q3⟩=>?_)) hm
 subst e
 cases r3
 refine wpAny_truthy_bool ?_
 cases k with
 | false=>exact ite_ff ⟨.bl false,H3,I3,rfl,q3⟩
 | true=>exact ite_tt (chain_last (bu (hc pins s3 σ H3 _ I3 q3) fun w' s4 ⟨z',H4,I4,r4,q4⟩=>Az pins s4 σ H4 y z' u w' Q I4 r2 r4 q4))
theorem rQ {op Od:CmpOp} {r r':R2} (ho:nS X (compareOp op) r) (Az:nS X (compareOp Od) r') (ha:PE X a ta) (hb:PE X b tb) (hc:PE X c tc)
  (hm:lastMarks [op,Od] [b,c]=false:=by with_unfolding_all rfl):PT X (.Compare a [op,Od] [b,c] pos) (FF (Im r r' ta tb tc)):=by
 intro pins s σ H Q I h
 refine isTrue_chain (bu (ha pins s σ H _ I h) fun v s1 ⟨x,H1,I1,r1,q1⟩=>test_link (bu (hb pins s1 σ H1 _ I1 q1) fun u s2 ⟨y,H2,I2,r2,q2⟩ =>
  bu (ho pins s2 σ H2 x y v u _ I2 r1 r2 q2) fun d s3 ⟨z,H3,I3,r3,k,e,q3⟩=>?_)) hm
 subst e
 cases r3
 refine wpAny_truthy_bool ?_
 cases k with
 | false =>
  obtain ⟨k',e',q'⟩:=q3
  cases e'
  exact ite_ff ⟨H3,I3,q'⟩
 | true =>
  refine ite_tt (test_last (bu (hc pins s3 σ H3 _ I3 q3) fun w' s4 ⟨z',H4,I4,r4,q4⟩=>bu (Az pins s4 σ H4 y z' u w' _ I4 r2 r4 q4) fun d' s5 ⟨z2,H5,I5,r5,k2,e2,q5⟩=>?_))
  subst e2
  cases r5
  exact wpAny_truthy_bool ⟨H5,I5,q5⟩
def Rj (K:PySem.W.Frag) (x:V) (H:Hp) (k:Bool):Prop :=
 match x with
 | .bN=>k=false
 | .bl b=>k=b
 | .int i=>k=(i != 0)
 | .str y=>y.length≤sizeLine∧k=((y.length:Int) != 0)
 | .E3 y=>y.size≤sizeLine∧k=((y.size:Int) != 0)
 | .ref p=>(∃ xs,aX K H p xs∧k=!xs.isEmpty)∨(∃ xs,bz K H p xs∧k=!xs.isEmpty)∨∃ aq,H p=some (.dK aq)∧k=!aq.isEmpty
 | _=>False
theorem C8 {κ:Type} {aq:List (κ × V)} {vs:List (κ × Value)} (r:KV aq vs):(!vs.isEmpty)=!aq.isEmpty:=by
 cases r <;> rfl
theorem ve {xs:List V} {ai:List Value} (r:au xs ai):(!ai.toArray.isEmpty)=!xs.isEmpty:=by
 cases r <;> simp
theorem vf:(sizeLine:Nat) < 2 ^ 63:=by rw [sizeLine_eq];decide
theorem Oe:Vq X (fun x H Q=>∃ k,Rj X.K x H k∧Q k H):=by
 intro pins s σ H x v Q I rx h
 obtain ⟨k,e,q⟩:=h
 have hl:=vf
 have hs:sizeLine=16777216:=sizeLine_eq
 cases x with
 | bN =>
  cases rx
  have e':k=false:=e
  subst e'
  exact truthy_none ⟨H,I,q⟩
 | bl b =>
  cases rx
  have e':k=b:=e
  subst e'
  exact wpAny_truthy_bool ⟨H,I,q⟩
 | int i =>
  obtain ⟨t,rfl⟩:=rx
  have e':k=(i != 0):=e
  subst e'
  exact PySem.P.truthy_int ⟨H,I,q⟩
 | str y =>
  obtain ⟨t,rfl⟩:=rx
  obtain ⟨hy,e'⟩:y.length≤sizeLine∧k=((y.length:Int) != 0):=e
  subst e'
  exact PySem.P.truthy_str (by omega) ⟨H,I.tok _,q⟩
 | E3 y =>
  obtain ⟨t,rfl⟩:=rx
  obtain ⟨hy,e'⟩:y.size≤sizeLine∧k=((y.size:Int) != 0):=e
  subst e'
  exact PySem.W.truthy_bytes (by omega) ⟨H,I.tok _,q⟩
 | ref p =>
  cases rx
  have e':(∃ xs,aX X.K H p xs∧k=!xs.isEmpty)∨(∃ xs,bz X.K H p xs∧k=!xs.isEmpty)∨∃ aq,H p=some (.dK aq)∧k=!aq.isEmpty:=e
  rcases e' with ⟨xs,hx,e'⟩ | ⟨xs,hx,e'⟩ | ⟨aq,hx,e'⟩
  ·subst e'
   obtain ⟨ai,r,pl,hz⟩:=I.list hx
   have hlen:=r.length
   exact wpAny_truthy_list pl.isList (by simp only [List.size_toArray];omega) ⟨H,I.tok _,by rw [ve r];exact q⟩
  ·subst e'
   obtain ⟨ai,r,pl,hz⟩:=I.tuple hx
   have hlen:=r.length
   exact truthy_tuple pl (by simp only [List.size_toArray];omega) ⟨H,I.tok _,by rw [ve r];exact q⟩
  ·subst e'
   obtain ⟨hz,hS,vs,r,m⟩:aq.length≤sizeLine∧(p == sysModules)=false∧∃ vs,KV aq vs∧s.heap.DictOf (be X.prog X.w) p vs:=I.bw p _ hx
   have hlen:aq.length=vs.length:=Paired.length r
   exact wpAny_truthy_dict hS m (by omega) ⟨H,I.tok _,by rw [C8 r];exact q⟩
 | _=>exact (show False from e).elim
theorem rR (ha:PE X a ta) (he:∀ whole,isTrue a X.env whole=(do let v ← whole;standAt a.pos;holding [v] (truthy v))) :
  PT X a (fun σ H Q=>ta σ H fun x H'=>∃ k,Rj X.K x H' k∧Q k H'):=by
 intro pins s σ H Q I h
 exact isTrue_plain (bu (ha pins s σ H _ I h) fun v s1 ⟨x,H1,I1,r1,q1⟩=>Oe pins s1 σ H1 x v Q I1 r1 q1) (he _)
theorem vals1 {x:V} {us:List Value} (r:au [x] us):∃ u,us=[u]∧RelV x u:=by
 cases r with
 | cons r1 r2=>cases r2;exact ⟨_,rfl,r1⟩
theorem vals2 {x y:V} {us:List Value} (r:au [x,y] us):∃ u w',us=[u,w']∧RelV x u∧RelV y w':=by
 cases r with
 | cons r1 r2 =>
  cases r2 with
  | cons r3 r4=>cases r4;exact ⟨_,_,rfl,r1,r3⟩
theorem yp (hc:X.calm=true):jx X (.builtin "max") (fun xs H Q=>∃ i j,xs=[.int i,.int j]∧Q (.int (if j > i then j else i)) H):=by
 intro pins s σ H xs us Q I r h
 obtain ⟨i,j,rfl,q⟩:=h
 obtain ⟨u,w',rfl,⟨t,rfl⟩,⟨t',rfl⟩⟩:=vals2 r
 refine max_two_ints (I.ok.hd hc) fun h' tk k=>⟨_,H,I.kept k,?_,q⟩
 by_cases hj:j > i
 ·rw [if_pos hj,if_pos hj];exact ⟨_,rfl⟩
 ·rw [if_neg hj,if_neg hj];exact ⟨_,rfl⟩
theorem GP (hc:X.calm=true):jx X (.builtin "min") (fun xs H Q=>∃ i j,xs=[.int i,.int j]∧Q (.int (if j < i then j else i)) H):=by
 intro pins s σ H xs us Q I r h
 obtain ⟨i,j,rfl,q⟩:=h
 obtain ⟨u,w',rfl,⟨t,rfl⟩,⟨t',rfl⟩⟩:=vals2 r
 refine min_two_ints (I.ok.hd hc) fun h' tk k=>⟨_,H,I.kept k,?_,q⟩
 by_cases hj:j < i
 ·rw [if_pos hj,if_pos hj];exact ⟨_,rfl⟩
 ·rw [if_neg hj,if_neg hj];exact ⟨_,rfl⟩
end
end L2
namespace L2
open PySem PySem.Spec PyProof.Rows
structure C9 (h:Heap) (x dx C:Addr) (mA:Str→Option Value):Prop where
 obj:h.get? x=some (PySem.W.instObj C dx)
 ns:h.Ns1 dx mA
 ne:dx≠x
theorem GQ {h:Heap} {dx:Addr} {mA:Str→Option Value} (n:h.Ns1 dx mA):∃ od,h.get? dx=some od∧∀ name,PySem.W.lookIn name od=some (mA name):=by
 obtain ⟨o,es,ep,ho,hd,hk,_,hm⟩:=n
 refine ⟨o,ho,fun name=>?_⟩
 have e:=hm name
 unfold nsFind findBy at e
 rw [← Array.find?_toList] at e
 unfold PySem.W.lookIn
 rw [hd]
 dsimp only
 split
 ·rename_i y q
  rw [q] at e
  exact congrArg some e
 ·rename_i q
  rw [q] at e
  have a:es.toList.any (·.refKey)=false:=by
   rw [List.any_eq_false]
   intro y hy
   obtain ⟨z,t,Vu⟩:=hk y (Array.mem_toList_iff.mp hy)
   simp [DictEntry.refKey,Vu]
  have a':¬ es.toList.any (·.refKey)=true:=by rw [a];exact Bool.false_ne_true
  rw [if_neg a']
  exact congrArg some e
theorem C9.look {h:Heap} {x dx C:Addr} {mA:Str→Option Value} (I:C9 h x dx C mA):∃ od,PySem.W.InstAt h x (PySem.W.instObj C dx) C (some od)∧∀ name,PySem.W.lookIn name od=some (mA name) :=
 let ⟨od,ho,hl⟩:=GQ I.ns
 ⟨od,⟨I.obj,rfl,rfl,ho⟩,hl⟩
section
variable {prog:Program} {w:World} {A:Around} {E:Value→Shared→Prop} {s:Shared} {K:PySem.W.Frag} {x dx C f:Addr} {mA:Str→Option Value} {name:Str} {v:Value}
theorem get_map {expr:Bool} {Q:Value→Shared→Prop} (X:K.In s.heap) (I:C9 s.heap x dx C mA) (hg:PySem.W.plainGet K C name=true) (hh:PySem.W.hasDictIn K C=true)
  (ha:PySem.W.findIn K (.ref C) name=some none) (hv:mA name=some v) (Rk:PySem.W.handedIn v=true) (h:Q v { s with toks:=s.toks+1 }) :
  wpAny (model prog w) A (getAttr (.ref x) name expr) Q E s:=by
 obtain ⟨od,J,hl⟩:=I.look
 exact PySem.W.get_value X J (PySem.W.plainGet_of hg).1 (PySem.W.findObj_own hh ha rfl (by rw [hl,hv])) Rk h
theorem Io {pl:Sem Bool} {Q:Value × List Value→Shared→Prop} (X:K.In s.heap) (I:C9 s.heap x dx C mA) (hg:PySem.W.plainGet K C name=true)
  (hf:PySem.W.findIn K (.ref C) name=some (some (.ref f))) (ht:PySem.W.isFn K (.ref f)=true) (hv:mA name=none) (h:Q (.ref f,[.ref x]) s) :
  wpAny (model prog w) A (getMethod (.ref x) name pl) Q E s:=by
 obtain ⟨od,J,hl⟩:=I.look
 exact PySem.W.method_fn X J (PySem.W.plainGet_of hg).1 (PySem.W.plainGet_of hg).2 hf (beq_iff_eq.mp ht) (by show (PySem.W.lookIn name od).map (·.isSome)=some false;rw [hl,hv];rfl) h
theorem LP {ns:List Str} {Q:Unit→Shared→Prop} (X:K.In s.heap) (I:C9 s.heap x dx C mA)
  (hs:PySem.W.findIn K (.ref C) "__setattr__"=some (some (.builtin "object.__setattr__"))) (hp:PySem.W.plainOver K C=true) (ht:PySem.W.takerIn K C name=some none) (hh:PySem.W.hasDictIn K C=true)
  (hw:PySem.Within mA ns) (hsz:ns.length≤sizeLine)
  (h:∀ h',C9 h' x dx C (fun y=>if y=name then some v else mA y)→Heap.SameBut dx s.heap h'→Q () { s with heap:=h',toks:=s.toks+2 }) :
  wpAny (model prog w) A (setAttr (.ref x) name v) Q E s:=by
 obtain ⟨od,J,hl⟩:=I.look
 refine PySem.W.set_plain X J hs (PySem.W.osa_open (s:={ s with toks:=s.toks+1 }) (r:=none) X J hp ht fun b=>?_)
 obtain ⟨cd,hc,A0⟩:=PySem.W.any_some hh
 have hx:s.heap.get? x=some ⟨.ref C,some dx,.plain,#[]⟩:=I.obj
 refine wpAny_bind (wpAny_pure (wpAny_bind (wpAny_bind (wpAny_loadPart hx (wpAny_bind (PySem.W.Looks.here (s:={ s with toks:=s.toks+1 }) (PySem.W.looks_clsIn X hc) ?_))))))
 rw [A0]
 refine wpAny_pure (a:=some dx) (wpAny_bind (wpAny_pure (wpAny_bind ?_)))
 refine wpAny_nsSet1 (s:={ s with toks:=s.toks+1 }) I.ns fun h' Rl GN=>?_
 obtain ⟨oD,esD,epD,hoD,hdD,hcD⟩:=Rl.count (PySem.Within.cons name v hw)
 refine wpAny_bind (wpAny_lookBehind hoD (by rw [hdD];exact pastItsLine_dict (Nat.le_trans hcD (by rw [List.length_cons];omega))) ?_)
 exact wpAny_pure (h _ ⟨(GN.2 _ (Ne.symm I.ne)).trans I.obj,Rl,I.ne⟩ GN)
theorem Ip {R:Result→Shared→Prop} {vs:List Value} {kw:List (Str × Value)} (X:K.In s.heap) (hm:PySem.W.makesIn K C=true)
  (hi:PySem.W.findIn K (.ref C) "__init__"=some (some (.ref f))) (hf:PySem.W.typeIn K (.ref f)=some (.type "function"))
  (h:codeAny (model prog w) (A.under (.builtin "type.__call__" ⟨.ref C :: vs,kw⟩)) (.call (.ref f) ⟨.ref (s.heap.objs.size+1) :: vs,kw⟩) (PySem.W.InitBack (s.heap.objs.size+1) R)
   { s with heap:=(s.heap.push PySem.W.emptyDict).push (PySem.W.instObj C s.heap.objs.size) }) :
  codeAny (model prog w) A (.call (.ref C) ⟨vs,kw⟩) R s:=by
 obtain ⟨hh,g,d,t,os⟩:=s
 exact PySem.W.make_core (PySem.W.makes_of X hm) (PySem.W.looks_findIn X hi) (fun self=>PySem.W.bind_fn X self hf) (.inl rfl) h
end
def eK (f:Str) (v:V):List (Str × V)→List (Str × V)
 | []=>[(f,v)]
 | (g,x) :: r=>if g=f then (g,v) :: r else (g,x) :: eK f v r
theorem uY (f g:Str) (v:V):∀ fs:List (Str × V),(eK f v fs).lookup g=if g=f then some v else fs.lookup g
 | []=>by
  show List.lookup g [(f,v)]=_
  by_cases h:g=f
  ·have hb:(g == f)=true:=beq_iff_eq.mpr h
   simp only [List.lookup,hb,if_pos h]
  ·have hb:(g == f)=false:=beq_eq_false_iff_ne.mpr h
   simp only [List.lookup,hb,if_neg h]
 | (k,x) :: r=>by
  have ih:=uY f g v r
  rw [show eK f v ((k,x) :: r)=(if k=f then (k,v) :: r else (k,x) :: eK f v r) from rfl]
  by_cases hk:k=f
  ·rw [if_pos hk]
   by_cases h:g=k
   ·have hb:(g == k)=true:=beq_iff_eq.mpr h
    simp only [List.lookup,hb,if_pos (h.trans hk)]
   ·have hb:(g == k)=false:=beq_eq_false_iff_ne.mpr h
    simp only [List.lookup,hb,if_neg (fun e:g=f=>h (e.trans hk.symm))]
  ·rw [if_neg hk]
   by_cases h:g=k
   ·have hb:(g == k)=true:=beq_iff_eq.mpr h
    simp only [List.lookup,hb,if_neg (fun e:g=f=>hk (h.symm.trans e))]
   ·have hb:(g == k)=false:=beq_eq_false_iff_ne.mpr h
    simp only [List.lookup,hb]
    exact ih
theorem tF (f:Str) (v:V):∀ fs:List (Str × V),f ∈ (eK f v fs).map (·.1)∧∀ g,g ∈ fs.map (·.1)→g ∈ (eK f v fs).map (·.1)
 | []=>⟨by simp [eK],fun g h=>by simp at h⟩
 | (k,x) :: r=>by
  obtain ⟨i1,i2⟩:=tF f v r
  rw [show eK f v ((k,x) :: r)=(if k=f then (k,v) :: r else (k,x) :: eK f v r) from rfl]
  by_cases hk:k=f
  ·rw [if_pos hk]
   subst hk
   exact ⟨by simp,fun g h=>by simpa using h⟩
  ·rw [if_neg hk]
   refine ⟨?_,fun g h=>?_⟩
   ·rw [List.map_cons]
    exact List.mem_cons_of_mem _ i1
   ·rw [List.map_cons] at h ⊢
    rcases List.mem_cons.mp h with e | e
    ·exact List.mem_cons.mpr (.inl e)
    ·exact List.mem_cons_of_mem _ (i2 g e)
theorem uZ (f:Str) (v:V):∀ fs:List (Str × V),(eK f v fs).length≤fs.length+1
 | []=>by simp [eK]
 | (k,x) :: r=>by
  have ih:=uZ f v r
  rw [show eK f v ((k,x) :: r)=(if k=f then (k,v) :: r else (k,x) :: eK f v r) from rfl]
  by_cases hk:k=f
  ·rw [if_pos hk,List.length_cons,List.length_cons];omega
  ·rw [if_neg hk,List.length_cons,List.length_cons];omega
theorem lB.some_of {v:V} {o:Option Value} (r:lB (some v) o):∃ u,o=some u∧RelV v u:=by
 cases o with
 | none=>exact (show False from r).elim
 | some u=>exact ⟨u,rfl,r⟩
theorem lB.none_of {o:Option Value} (r:lB none o):o=none:=by
 cases o with
 | none=>rfl
 | some u=>exact (show False from r).elim
theorem GR {v:V} {u:Value} (r:RelV v u):PySem.W.handedIn u=true:=by
 cases v with
 | bN=>cases (show u=Value.none from r);rfl
 | bl b=>cases (show u=Value.bool b from r);rfl
 | int i=>obtain ⟨t,e⟩:=(show ∃ t,u=Value.int i t from r);cases e;rfl
 | str x=>obtain ⟨t,e⟩:=(show ∃ t,u=Value.str x t from r);cases e;rfl
 | E3 b=>obtain ⟨t,e⟩:=(show ∃ t,u=Value.bytes b t from r);cases e;rfl
 | Qn b=>obtain ⟨t,e⟩:=(show ∃ t,u=Value.float b t from r);cases e;rfl
 | ref a=>cases (show u=Value.ref a from r);rfl
 | ty n=>cases (show u=Value.type n from r);rfl
section
variable {P:Program} {w:World} {H H':Hp} {h h':Heap} {a C dx:Addr} {fs Ky:List (Str × V)}
theorem ze (bw:pw P w H h) (e:H a=some (.ins C dx fs)):∃ mA,C9 h a dx C mA∧(∀ f,lB (fs.lookup f) (mA f))∧PySem.Within mA (fs.map (·.1))∧fs.length≤1000∧H dx=some (.own a):=by
 obtain ⟨d,z,ne,ob,mA,n,r,q⟩:=(show cI P w H h a (.ins C dx fs) from bw a _ e)
 exact ⟨mA,⟨ob,n,ne⟩,r,q,z,d⟩
end
structure GS (K:PySem.W.Frag) (C:Addr):Prop where
 pg:PySem.W.plainGet K C Str.empty=true
 hd:PySem.W.hasDictIn K C=true
 po:PySem.W.plainOver K C=true
 sa:PySem.W.findIn K (.ref C) "__setattr__"=some (some (.builtin "object.__setattr__"))
theorem GS.get {K:PySem.W.Frag} {C:Addr} (c:GS K C) (f:Str):PySem.W.plainGet K C f=true:=c.pg
def dD (K:PySem.W.Frag) (C:Addr) (f:Str):Prop:=PySem.W.findIn K (.ref C) f=some none
theorem dD.Rm {K:PySem.W.Frag} {C:Addr} {f:Str} (n:dD K C f):PySem.W.takerIn K C f=some none:=by
 unfold PySem.W.takerIn
 rw [show PySem.W.findIn K (.ref C) f=some none from n]
 rfl
structure Con (K:PySem.W.Frag) (C:Addr) (f:Str) (v:V) (u:Value):Prop where
 at_:PySem.W.findIn K (.ref C) f=some (some u)
 rel:RelV v u
 get:PySem.W.specialIn K u "__get__"=some none
 cp:PySem.W.copiedNames.contains f=false
structure nh (K:PySem.W.Frag) (C:Addr) (m:Str) (f:Addr):Prop where
 at_:PySem.W.findIn K (.ref C) m=some (some (.ref f))
 fn:PySem.W.isFn K (.ref f)=true
 kp:PySem.W.keepIn K (.ref f)=true
section
variable {X:Cx} {pins:List (Addr × Obj)} {σ:St} {H:Hp} {s:Shared} {a C dx:Addr} {fs:List (Str × V)} {f:Str} {v:V} {A:Around} {E:Value→Shared→Prop}
theorem vg {b:Bool} {Q:Value→Shared→Prop} (I:Inv X pins σ H s) (e:H a=some (.ins C dx fs)) (c:GS X.K C) (n:dD X.K C f) (l:fs.lookup f=some v)
  (h:∀ u s',Inv X pins σ H s'→RelV v u→Q u s'):wpAny (model X.prog X.w) A (getAttr (.ref a) f b) Q E s:=by
 obtain ⟨mA,O,r,_,_,_⟩:=ze I.bw e
 obtain ⟨u,hu,ru⟩:=lB.some_of (v:=v) (o:=mA f) (by rw [← l];exact r f)
 exact get_map I.E4 O (c.get f) c.hd n hu (GR ru) (h u _ (I.tok _) ru)
theorem vh {m:Str} {g:Addr} {pl:Sem Bool} {Q:Value × List Value→Shared→Prop} (I:Inv X pins σ H s) (e:H a=some (.ins C dx fs)) (c:GS X.K C) (k:nh X.K C m g) (l:fs.lookup m=none)
  (h:Q (.ref g,[.ref a]) s):wpAny (model X.prog X.w) A (getMethod (.ref a) m pl) Q E s:=by
 obtain ⟨mA,O,r,_,_,_⟩:=ze I.bw e
 have hn:mA m=none:=lB.none_of (by rw [← l];exact r m)
 exact Io I.E4 O (c.get m) k.at_ k.fn hn h
theorem vi {y:V} {u:Value} {Q:Unit→Shared→Prop} (I:Inv X pins σ H s) (e:H a=some (.ins C dx fs)) (c:GS X.K C) (n:dD X.K C f) (hl:fs.length < 1000) (ry:RelV y u)
  (h:∀ s',Inv X pins σ (upd H a (.ins C dx (eK f y fs))) s'→Q () s'):wpAny (model X.prog X.w) A (setAttr (.ref a) f u) Q E s:=by
 obtain ⟨mA,O,r,wi,_,ho⟩:=ze I.bw e
 have hz:(fs.map (·.1)).length≤sizeLine:=by rw [List.length_map,sizeLine_eq];omega
 refine LP I.E4 O c.sa c.po n.Rm c.hd wi hz fun h' O' sb=>h _ ?_
 have hd:∃ o,h'.get? dx=some o:=let ⟨o,_,_,e',_⟩:=O'.ns;⟨o,e'⟩
 refine I.write (x:=a) (e:=dx) (by rw [e];exact True.intro) (.inr ho) (fun b q hb z=>(sb.2 b hb).trans z) hd ?_
 refine ⟨by rw [aE O.ne];exact ho,?_,O.ne,O'.obj,_,O'.ns,fun g=>?_,fun g hg=>?_⟩
 ·have:=uZ f y fs;omega
 ·show lB ((eK f y fs).lookup g) (if g=f then some u else mA g)
  rw [uY]
  by_cases q:g=f
  ·rw [if_pos q,if_pos q];exact ry
  ·rw [if_neg q,if_neg q];exact r g
 ·by_cases q:g=f
  ·rw [q];exact (tF f y fs).1
  ·refine (tF f y fs).2 g (wi g fun z=>hg ?_)
   show (if g=f then some u else mA g)=none
   rw [if_neg q];exact z
theorem Inv.made (I:Inv X pins σ H s):Inv X pins σ (upd (upd H s.heap.objs.size (.own (s.heap.objs.size+1))) (s.heap.objs.size+1) (.ins C s.heap.objs.size []))
  { s with heap:=(s.heap.push PySem.W.emptyDict).push (PySem.W.instObj C s.heap.objs.size) }:=by
 have e1:(s.heap.push PySem.W.emptyDict).get? s.heap.objs.size=some PySem.W.emptyDict:=Heap.get?_push_size s.heap rfl
 have e2:((s.heap.push PySem.W.emptyDict).push (PySem.W.instObj C s.heap.objs.size)).get? (s.heap.objs.size+1)=some (PySem.W.instObj C s.heap.objs.size):=by
  have:=Heap.get?_push_size (s.heap.push PySem.W.emptyDict) (o:=PySem.W.instObj C s.heap.objs.size) rfl
  rwa [Heap.size_push] at this
 have e3:(s.heap.push PySem.W.emptyDict).Ns s.heap.objs.size (fun _=>none):=⟨PySem.W.emptyDict,#[],_,e1,rfl,(fun e he=>absurd he (by simp)),fun _=>rfl⟩
 have I1:=I.laid (a:=s.heap.objs.size) (o:=.own (s.heap.objs.size+1)) (h':=s.heap.push PySem.W.emptyDict) (t':=s.toks) (fun b u q=>Heap.get?_push_of_some _ q) (Nat.le_refl _) ⟨_,e1⟩
 refine I1.laid (a:=s.heap.objs.size+1) (o:=.ins C s.heap.objs.size []) (t':=s.toks) (fun b u q=>Heap.get?_push_of_some _ q) (Nat.le_of_eq (Heap.size_push _ _)) ?_
 have ne:s.heap.objs.size≠s.heap.objs.size+1:=Nat.ne_of_lt (Nat.lt_succ_self _)
 refine ⟨by rw [aE ne,aB],Nat.zero_le _,ne,e2,fun _=>none,(Heap.Ns1.of_empty e3).at fun o q=>Heap.get?_push_of_some _ q,fun _=>True.intro,fun y hy=>absurd rfl hy⟩
theorem LQ {prog:Program} {w:World} {env:Env} {e:Expr} {f:Str} {pos:Pos} {s:Shared} {Q:Value→Shared→Prop} (hb:attributeBase e f env (eval e env)=eval e env)
  (h:wpAny (model prog w) A (eval e env) (fun o s₁=>wpAny (model prog w) A (getAttr o f true) Q E s₁) E s):wpAny (model prog w) A (eval (.Attribute e f pos) env) Q E s :=
 Attribute_any_ h (by rw [arm_eval_Attribute,hb])
end
def DA (K:PySem.W.Frag) (ta:TE) (f:Str):TE:=fun σ H Q=>ta σ H fun x H1=>∃ a C dx fs v,x=.ref a∧H1 a=some (.ins C dx fs)∧GS K C∧dD K C f∧fs.lookup f=some v∧Q v H1
def Iq (K:PySem.W.Frag) (ta tv:TE) (f:Str):TS:=fun D σ H=>tv σ H fun y H1=>ta σ H1 fun x H2=>∃ a C dx fs,x=.ref a∧H2 a=some (.ins C dx fs)∧GS K C∧dD K C f∧fs.length < 1000 ∧
 D.nx σ (upd H2 a (.ins C dx (eK f y fs)))
def Vv (X:Cx) (op:Operator) (rd:V→V→Hp→VK→Prop):Prop :=
 ∀ (pins:List (Addr × Obj)) (s:Shared) (σ:St) (H:Hp) (x y:V) (u v:Value) (Q:VK),Inv X pins σ H s→RelV x u→RelV y v→rd x y H Q→wpAny (model X.prog X.w) X.A (inplaceOp op u v) (EP X pins σ Q) X.xe s
def zh (K:PySem.W.Frag) (ta tv:TE) (rd:V→V→Hp→VK→Prop) (f:Str):TS:=fun D σ H=>ta σ H fun x H1=>∃ a C dx fs v,x=.ref a∧H1 a=some (.ins C dx fs)∧GS K C∧dD K C f∧fs.lookup f=some v ∧
 tv σ H1 fun y H2=>rd v y H2 fun z H3=>∃ Vw Ky,H3 a=some (.ins C Vw Ky)∧Ky.length < 1000∧D.nx σ (upd H3 a (.ins C Vw (eK f z Ky)))
section
variable {X:Cx} {o e value:Expr} {f:Str} {pos pos' zk:Pos} {ta tv:TE}
theorem Of (he:PE X e ta) (hb:attributeBase e f X.env (eval e X.env)=eval e X.env):PE X (.Attribute e f pos) (DA X.K ta f):=by
 intro pins s σ H Q I h
 refine LQ hb (bu (he pins s σ H _ I h) fun u s1 ⟨x,H1,I1,rx,a,C,dx,fs,v,ex,ea,c,n,l,q⟩=>?_)
 subst ex
 obtain rfl:u=Value.ref a:=rx
 exact vg I1 ea c n l fun u' s2 I2 ru=>⟨v,H1,I2,ru,q⟩
theorem Og (ha:PE X o ta) (hv:PE X value tv) (hs:swapsWith value (some (.Attribute o f pos')) pos.line X.env=pure false):PS X (.Assign [.Attribute o f pos'] value pos) (Iq X.K ta tv f):=by
 intro pins s σ H D I h
 refine plainObj_wpAny_Assign_Attribute (bu (hv pins s σ H _ I h) fun u s1 ⟨y,H1,I1,ry,q⟩=>bu (ha pins s1 σ H1 _ I1 q) fun ov s2 ⟨x,H2,I2,rx,a,C,dx,fs,ex,ea,c,n,l,q2⟩=>?_) hs
 subst ex
 obtain rfl:ov=Value.ref a:=rx
 exact vi I2 ea c n l ry fun s3 I3=>⟨σ,_,I3,q2⟩
theorem yq {op:Operator} {rd:V→V→Hp→VK→Prop} (ha:PE X o ta) (hv:PE X value tv) (hop:Vv X op rd):PS X (.AugAssign (.Attribute o f zk) op value pos) (zh X.K ta tv rd f):=by
 intro pins s σ H D I h
 refine wpAny_AugAssign_AttributeAny (bu (ha pins s σ H _ I h) fun ov s1 ⟨x,H1,I1,rx,a,C,dx,fs,v,ex,ea,c,n,l,q⟩=>?_)
 subst ex
 obtain rfl:ov=Value.ref a:=rx
 refine vg I1 ea c n l fun u s2 I2 ru=>bu (hv pins s2 σ H1 _ I2 q) fun w3 s3 ⟨y,H2,I3,ry,q3⟩=>bu (hop pins s3 σ H2 v y u w3 _ I3 ru ry q3) fun w4 s4 ⟨z,H3,I4,rz,Vw,Ky,ea',l',q4⟩=>?_
 exact vi I4 ea' c n l' rz fun s5 I5=>⟨σ,_,I5,q4⟩
end
section
variable {X:Cx} {pins:List (Addr × Obj)} {σ:St} {H:Hp} {s:Shared} {A:Around} {E:Value→Shared→Prop} {Q:Value→Shared→Prop} {c:Value} {b:Bool}
inductive vA (K:PySem.W.Frag) (H:Hp):V→Value→Prop where
 | bN:vA K H .bN (.type "NoneType")
 | bl (x:Bool):vA K H (.bl x) (.type "bool")
 | int (i:Int):vA K H (.int i) (.type "int")
 | str (x:Str):vA K H (.str x) (.type "str")
 | Qn (x:UInt64):vA K H (.Qn x) (.type "float")
 | lst {a:Addr} {xs:List V} (e:H a=some (.lst xs)):vA K H (.ref a) (.type "list")
 | Cy {a:Addr} {o:Obj} {xs:List V} (e:H a=some (.Cy o (.lst xs))):vA K H (.ref a) (.type "list")
 | tup {a:Addr} {xs:List V} (e:H a=some (.tup xs)):vA K H (.ref a) (.type "tuple")
 | dK {a:Addr} {aq:List (Key × V)} (e:H a=some (.dK aq)):vA K H (.ref a) (.type "dict")
 | dT {a:Addr} {aq:List (List Key × V)} (e:H a=some (.dT aq)):vA K H (.ref a) (.type "dict")
 | ins {a C dx:Addr} {fs:List (Str × V)} (e:H a=some (.ins C dx fs)) (cl:GS K C) (ha:PySem.W.findIn K (.ref C) "__class__"=some (some (.builtin "object.__class__")))
   (hn:PySem.W.specialIn K (.builtin "object.__class__") "__get__"=some (some (.builtin "getset_descriptor.__get__"))) (YY:PySem.W.takesIn K (.builtin "object.__class__")=some true)
   (hm:PySem.W.mroIn K C (.type "object")=some true):vA K H (.ref a) (.ref C)
end
end L2
namespace L2
open PySem PySem.Spec PyProof.Rows
structure dr (k:Nat) (A:Around):Prop where
 hd:A.handled=none
 dp:A.depth+3 * k+5 < recursionLimit
 un:A.units+16 * k+200 < cLine
theorem dr.mono {j k:Nat} {A:Around} (r:dr k A) (h:j≤k):dr j A:=⟨r.hd,by have:=r.dp;omega,by have:=r.un;omega⟩
theorem dr.deeper {k:Nat} {A:Around} (r:dr (k+1) A) (env:Env):dr k (A.deeper env) :=
 ⟨r.hd,by have:=r.dp;show A.depth+1+3 * k+5 < _;omega,by have:=r.un;show A.units+3+16 * k+200 < _;omega⟩
theorem dr.in1 {k:Nat} {A:Around} (r:dr (k+1) A):dr k A.in1 :=
 ⟨r.hd,by have:=r.dp;show A.depth+3 * k+5 < _;omega,by have:=r.un;show A.units+1+16 * k+200 < _;omega⟩
theorem DB {A:Around} {C:Addr} {us:List Value} {kw:List (Str × Value)}:(A.under (.builtin "type.__call__" ⟨.ref C :: us,kw⟩)).depth=A.depth+1:=by
 first | rfl | simp [Around.under,Code.weight,Code.isCreation,Code.isGuard,Code.isCaller,Code.frames,Code.isFrame,guardIds]
theorem DC {A:Around} {C:Addr} {us:List Value} {kw:List (Str × Value)}:(A.under (.builtin "type.__call__" ⟨.ref C :: us,kw⟩)).units=A.units+1:=by
 first | rfl | simp [Around.under,Code.cUnits,Code.frames,Code.isFrame]
theorem dr.make {k:Nat} {A:Around} (r:dr (k+1) A) (C:Addr) (us:List Value) (kw:List (Str × Value)):dr k (A.under (.builtin "type.__call__" ⟨.ref C :: us,kw⟩)) :=
 ⟨r.hd,by have:=r.dp;rw [DB];omega,by have:=r.un;rw [DC];omega⟩
theorem dr.depth {k:Nat} {A:Around} (r:dr k A):A.depth < recursionLimit:=by have:=r.dp;omega
theorem dr.units {k:Nat} {A:Around} (r:dr k A):A.units+64 < cLine:=by have:=r.un;omega
def GU:TA:=fun _ H Q=>Q [] H
def FG (ta:TE) (tr:TA):TA:=fun σ H Q=>ta σ H fun x H1=>tr σ H1 fun xs H2=>Q (x :: xs) H2
section
variable {X:Cx} {e:Expr} {es:List Expr} {te:TE} {t:TA} {pos:Pos}
theorem aD:PA X [] GU:=fun _ _ _ _ H Q I h=>Calls.spliced_nil ⟨[],H,I,.nil,h⟩
theorem aA (ha:PE X e te) (hr:PA X es t) (hs:starEach (e :: es) X.env=(false,eval e X.env) :: starEach es X.env:=by rfl):PA X (e :: es) (FG te t):=by
 intro pos pins s σ H Q I h
 rw [hs]
 show wpAny _ _ (spliced ((false,eval e X.env) :: backTo pos (starEach es X.env))) _ _ s
 refine Calls.spliced_cons (bu (ha pins s σ H _ I h) fun u s1 ⟨x,H1,I1,r1,q1⟩=>?_)
 exact bu (hr pos pins s1 σ H1 _ I1 q1) fun us s2 ⟨xs,H2,I2,r2,q2⟩=>⟨x :: xs,H2,I2,.cons r1 r2,q2⟩
def Rn (t:TA):TE:=fun σ H Q=>t σ H fun xs H1=>xs.length≤sizeLine∧∀ p,H1 p=none→Q (.ref p) (upd H1 p (.tup xs))
def Vx (t:TA):TE:=fun σ H Q=>t σ H fun xs H1=>xs.length≤sizeLine∧∀ p,H1 p=none→Q (.ref p) (upd H1 p (.lst xs))
theorem bB {x1} (h:PA X es t):PE X (.Tuple es x1 pos) (Rn t):=by
 intro pins s σ H Q I hq
 refine wpAny_Tuple_spliced (bu (h pos pins s σ H _ I hq) fun us s1 ⟨xs,H1,I1,r,z,q⟩=>⟨by rw [← r.length];exact z,?_⟩)
 have hf:H1 s1.heap.objs.size=none:=I1.bw.fresh (Nat.le_refl _)
 refine ⟨.ref s1.heap.objs.size,upd H1 s1.heap.objs.size (.tup xs),I1.laid (t':=s1.toks) (fun b u e=>Heap.get?_push_of_some _ e) (Nat.le_refl _) ?_,rfl,q _ hf⟩
 exact ⟨z,us,r,⟨_,Heap.get?_push_size _ rfl,rfl,_,rfl⟩⟩
theorem bF (h:PA X es t):PE X (.List es pos) (Vx t):=by
 intro pins s σ H Q I hq
 refine wpAny_List_spliced (bu (h pos pins s σ H _ I hq) fun us s1 ⟨xs,H1,I1,r,z,q⟩=>⟨by rw [← r.length];exact z,?_⟩)
 have hf:H1 s1.heap.objs.size=none:=I1.bw.fresh (Nat.le_refl _)
 refine ⟨.ref s1.heap.objs.size,upd H1 s1.heap.objs.size (.lst xs),I1.laid (t':=s1.toks) (fun b u e=>Heap.get?_push_of_some _ e) (Nat.le_refl _) ?_,rfl,q _ hf⟩
 exact ⟨z,us,0,r,Heap.get?_push_size _ rfl⟩
end
abbrev Sp:=List V→Hp→VK→XK→Prop
abbrev BI:=List Env→Hp→Shared→XK→Value→Shared→Prop
structure xj (P:Program) (w:World) (K:PySem.W.Frag) (mg:Str→Option Value) (base:Heap) (A:Around) (outer:List Env) (s:Shared) (H:Hp):Prop where
 frames:A.frames=some outer
 mod:Mod K mg base
 bs:∀ b o,base.get? b=some o→s.heap.get? b=some o∧H b=none
 IX:base.objs.size≤s.heap.objs.size
 sr:s.heap.FunFrames base outer
 NZ:∀ b ∈ pK outer,H b=none
 bw:pw P w H s.heap
 bare:AllBare s.gens
def CE (outer:List Env) (P:Program) (w:World) (H:Hp) (s:Shared) (Q:VK) (u:Value) (s':Shared):Prop :=
 ∃ v H',s'.os=s.os∧AllBare s'.gens∧Un (pK outer) [] H H' s.heap s'.heap∧pw P w H' s'.heap∧RelV v u∧Q v H'
def CR (CX:BI) (outer:List Env) (P:Program) (w:World) (H:Hp) (s:Shared) (Q:VK) (E:XK) (r:Result) (s':Shared):Prop :=
 match r with
 | .ok (.ret u)=>CE outer P w H s Q u s'
 | .ok _=>False
 | .error e=>CX outer H s E e s'
structure bZ (P:Program) (w:World) (K:PySem.W.Frag) (mg:Str→Option Value) (base:Heap) (CX:BI) (k:Nat) (f:Addr) (fd:FuncData) (ps:List Str) (sp:Sp):Prop where
 len:∀ vs H Q E,sp vs H Q E→vs.length=ps.length
 run:∀ (A:Around) (outer:List Env) (s:Shared) (H:Hp) (args:Args) (us:List Value) (vs:List V) (Q:VK) (E:XK),dr k A→xj P w K mg base A outer s H→BindsTo s fd args (ps.zip us)→au vs us→sp vs H Q E →
  codeAny (model P w) A (.call (.ref f) args) (CR CX outer P w H s Q E) s
theorem bZ.mono {P:Program} {w:World} {K:PySem.W.Frag} {mg:Str→Option Value} {base:Heap} {CX:BI} {j k:Nat} {f:Addr} {fd:FuncData} {ps:List Str} {sp:Sp} (F:bZ P w K mg base CX j f fd ps sp) (h:j≤k) :
  bZ P w K mg base CX k f fd ps sp:=⟨F.len,fun A outer s H args us vs Q E hr=>F.run A outer s H args us vs Q E (hr.mono h)⟩
theorem bZ.imp {P:Program} {w:World} {K:PySem.W.Frag} {mg:Str→Option Value} {base:Heap} {CX:BI} {k:Nat} {f:Addr} {fd:FuncData} {ps:List Str} {sp YZ:Sp} (F:bZ P w K mg base CX k f fd ps sp)
  (h:∀ vs H Q E,YZ vs H Q E→sp vs H Q E):bZ P w K mg base CX k f fd ps YZ :=
 ⟨fun vs H Q E q=>F.len vs H Q E (h _ _ _ _ q),fun A outer s H args us vs Q E hr he hb hv hs=>F.run A outer s H args us vs Q E hr he hb hv (h _ _ _ _ hs)⟩
theorem xj.make {P:Program} {w:World} {K:PySem.W.Frag} {mg:Str→Option Value} {base:Heap} {A:Around} {outer:List Env} {s:Shared} {H:Hp} (e:xj P w K mg base A outer s H) (C:Addr) (us:List Value) (kw:List (Str × Value)) :
  xj P w K mg base (A.under (.builtin "type.__call__" ⟨.ref C :: us,kw⟩)) outer s H:=⟨by first | exact e.frames | (simpa [Around.under,Code.envs,Code.isFrame,pushEnvs] using e.frames),e.mod,e.bs,e.IX,e.sr,e.NZ,e.bw,e.bare⟩
theorem xj.in1 {P:Program} {w:World} {K:PySem.W.Frag} {mg:Str→Option Value} {base:Heap} {A:Around} {outer:List Env} {s:Shared} {H:Hp} (e:xj P w K mg base A outer s H) :
  xj P w K mg base A.in1 outer s H:=⟨e.frames,e.mod,e.bs,e.IX,e.sr,e.NZ,e.bw,e.bare⟩
section
variable {X:Cx} {pins:List (Addr × Obj)} {σ:St} {H:Hp} {s s':Shared}
theorem Inv.Ro (I:Inv X pins σ H s):xj X.prog X.w X.K X.mg X.base X.A X.stack s H :=
 ⟨I.ok.frames,I.ok.mod,I.bs,Nat.le_trans I.ok.IX I.sz,I.stack,I.za,I.bw,I.bare⟩
theorem Inv.after {Q:VK} {u:Value} (I:Inv X pins σ H s) (h:CE X.stack X.prog X.w H s Q u s'):EP X pins σ Q u s':=by
 obtain ⟨v,H',os,bare,un,bw,r,q⟩:=h
 obtain ⟨hh,g,d,t,os'⟩:=s'
 obtain rfl:os'=s.os:=os
 exact ⟨v,H',I.call (h':=hh) (g':=g) (d':=d) (t':=t) (ch:=[]) un bw bare (fun b z=>absurd z (by simp)),r,q⟩
end
def Nh (sp:Sp) (xf:List V) (E:XK) (t:TA):TE:=fun σ H Q=>t σ H fun vs H1=>sp (vs ++ xf) H1 Q E
def FH (C:Addr) (m:Str) (sp:Sp) (xf:List V) (E:XK) (ta:TE) (t:TA):TE:=fun σ H Q=>ta σ H fun x H1=>∃ a dx fs,x=.ref a∧H1 a=some (.ins C dx fs)∧fs.lookup m=none ∧
 t σ H1 fun vs H2=>sp (x :: (vs ++ xf)) H2 Q E
def Rp (C:Addr) (sp:Sp) (xf:List V) (E:XK) (t:TA):TE:=fun σ H Q=>t σ H fun vs H1=>∀ x dx,H1 x=none→H1 dx=none→dx≠x →
 sp (.ref x :: (vs ++ xf)) (upd (upd H1 dx (.own x)) x (.ins C dx [])) (fun v H2=>v=.bN∧Q (.ref x) H2) E
def Binds (K:PySem.W.Frag) (fd:FuncData) (ps:List Str) (ds:List Value):Prop :=
 ∀ (s:Shared) (us:List Value),K.In s.heap→(us ++ ds).length=ps.length→BindsTo s fd ⟨us,[]⟩ (ps.zip (us ++ ds))
theorem Binds.all {K:PySem.W.Frag} {fd:FuncData} {ps:List Str} (h:∀ us:List Value,us.length=ps.length→bindArgs fd ⟨us,[]⟩=pure (ps.zip us)):Binds K fd ps []:=fun s us _ hl=>by
 rw [List.append_nil] at hl ⊢
 exact .of_eq (h us hl)
def l7 (CX:BI) (X:Cx) (E:XK):Prop:=∀ (pins:List (Addr × Obj)) (σ:St) (H:Hp) (s:Shared) (e:Value) (s':Shared),Inv X pins σ H s→CX X.stack H s E e s'→X.xe e s'
section
variable {X:Cx} {CX:BI} {k:Nat} {f C:Addr} {fd:FuncData} {ps:List Str} {sp:Sp} {xf:List V} {ds:List Value} {E:XK} {x m:Str} {p pos apos:Pos} {e o:Expr} {es:List Expr} {ta:TE} {t:TA}
theorem DD {pins:List (Addr × Obj)} {σ:St} {H:Hp} {s:Shared} {Q:VK} {us:List Value} {vs:List V} (F:bZ X.prog X.w X.K X.mg X.base CX k f fd ps sp) (hr:dr k X.A) (hb:Binds X.K fd ps ds) (hd:au xf ds) (hx:l7 CX X E)
  (I:Inv X pins σ H s) (r:au vs us) (h:sp (vs ++ xf) H Q E):wpAny (model X.prog X.w) X.A (call (.ref f) us) (EP X pins σ Q) X.xe s:=by
 have r2:au (vs ++ xf) (us ++ ds):=r.append hd
 have hl:(us ++ ds).length=ps.length:=by rw [← r2.length];exact F.len _ _ _ _ h
 refine wpAny_call (codeAny_mono (F.run X.A X.stack s H ⟨us,[]⟩ (us ++ ds) (vs ++ xf) Q E hr I.Ro (hb s us I.E4 hl) r2 h) fun r s' hq=>?_)
 cases r with
 | error e=>exact hx pins σ H s e s' I hq
 | ok fl =>
  cases fl with
  | ret u=>exact I.after hq
  | next=>exact False.elim hq
  | brk=>exact False.elim hq
  | cont=>exact False.elim hq
theorem LR (F:bZ X.prog X.w X.K X.mg X.base CX k f fd ps sp) (hr:dr k X.A) (hg:Gl X x) (hm:X.mg x=some (.ref f)) (hk:PySem.W.keepIn X.K (.ref f)=true) (hb:Binds X.K fd ps ds) (hd:au xf ds) (hx:l7 CX X E)
  (ha:PA X (e :: es) t) (Ir:(x == ("__debug__":Str))=false:=by decide) (he:starEach (e :: es) X.env=(false,eval e X.env) :: starEach es X.env:=by rfl) (kK:(backTo pos (starEach es X.env)).any (·.1)=false:=by rfl) :
  PE X (.Call (.Name x p) (e :: es) [] pos) (Nh sp xf E t):=by
 intro pins s σ H Q I h
 refine wpAny_Call_Name_kw (vP I hg hm ?_ Ir)
 refine PySem.W.callWith_K (h₀:=X.base) I.ok.mod.Qp hk (bu (ha pos pins s σ H _ I h) fun us s1 ⟨vs,H1,I1,r,q⟩=>⟨I1.E4,?_⟩) he kK
 exact DD F hr hb hd hx I1 r q
theorem pO {pl:Sem Bool} (he:PE X o ta) (c:GS X.K C) (hm:nh X.K C m f) (F:bZ X.prog X.w X.K X.mg X.base CX k f fd ps sp) (hr:dr k X.A) (hb:Binds X.K fd ps ds) (hd:au xf ds) (hx:l7 CX X E) (ha:PA X (e :: es) t)
  (si:starEach (e :: es) X.env=(false,eval e X.env) :: starEach es X.env:=by rfl) (kK:(backTo pos (starEach es X.env)).any (·.1)=false:=by rfl)
  (ht:eval (.Call (.Attribute o m apos) (e :: es) [] pos) X.env=(do
   let ov ← eval o X.env
   standAt apos.atName
   let (f,first) ← holding [ov] (getMethod ov m pl)
   callWith pos f first (backTo pos (starEach (e :: es) X.env)) (backToKw pos (keywordEach [] X.env))):=by rfl) :
  PE X (.Call (.Attribute o m apos) (e :: es) [] pos) (FH C m sp xf E ta t):=by
 intro pins s σ H Q I h
 refine PySem.W.methodCall_KW (pl:=pl) (bu (he pins s σ H _ I h) fun u s1 ⟨x,H1,I1,rx,a,dx,fs,ex,ea,l,q⟩=>?_) ht
 subst ex
 obtain rfl:u=Value.ref a:=rx
 refine vh I1 ea c hm l ?_
 refine PySem.W.callWith_K (first:=[.ref a]) (h₀:=X.base) I.ok.mod.Qp hm.kp (bu (ha pos pins s1 σ H1 _ I1 q) fun us s2 ⟨vs,H2,I2,r,q2⟩=>⟨I2.E4,?_⟩) si kK
 exact DD (us:=.ref a :: us) (vs:=.ref a :: vs) F hr hb hd hx I2 (.cons rfl r) q2
theorem dg {pl:Sem Bool} (he:PE X o ta) (c:GS X.K C) (hm:nh X.K C m f) (F:bZ X.prog X.w X.K X.mg X.base CX k f fd ps sp) (hr:dr k X.A) (hb:Binds X.K fd ps ds) (hd:au xf ds) (hx:l7 CX X E)
  (ht:eval (.Call (.Attribute o m apos) [] [] pos) X.env=(do
   let ov ← eval o X.env
   standAt apos.atName
   let (f,first) ← holding [ov] (getMethod ov m pl)
   callWith pos f first (backTo pos (starEach [] X.env)) (backToKw pos (keywordEach [] X.env))):=by rfl) :
  PE X (.Call (.Attribute o m apos) [] [] pos) (FH C m sp xf E ta GU):=by
 intro pins s σ H Q I h
 refine PySem.W.methodCall_KW (pl:=pl) (bu (he pins s σ H _ I h) fun u s1 ⟨x,H1,I1,rx,a,dx,fs,ex,ea,l,q⟩=>?_) ht
 subst ex
 obtain rfl:u=Value.ref a:=rx
 refine vh I1 ea c hm l ?_
 exact PySem.W.callWith_K0 (first:=[.ref a]) I1.E4 hm.kp (DD (us:=[.ref a]) (vs:=[.ref a]) F hr hb hd hx I1 (.cons rfl .nil) q)
structure Mk (K:PySem.W.Frag) (C f:Addr):Prop where
 makes:PySem.W.makesIn K C=true
 init:PySem.W.findIn K (.ref C) "__init__"=some (some (.ref f))
 fn:PySem.W.isFn K (.ref f)=true
 kp:PySem.W.keepIn K (.ref C)=true
theorem Iu {pins:List (Addr × Obj)} {σ:St} {H:Hp} {s:Shared} {Q:VK} {us:List Value} {vs:List V} (M:Mk X.K C f) (F:bZ X.prog X.w X.K X.mg X.base CX k f fd ps sp) (hr:dr (k+1) X.A) (hb:Binds X.K fd ps ds) (hd:au xf ds)
  (hx:l7 CX X E) (I:Inv X pins σ H s) (r:au vs us)
  (h:∀ x dx,H x=none→H dx=none→dx≠x→sp (.ref x :: (vs ++ xf)) (upd (upd H dx (.own x)) x (.ins C dx [])) (fun v H2=>v=.bN∧Q (.ref x) H2) E) :
  wpAny (model X.prog X.w) X.A (call (.ref C) us) (EP X pins σ Q) X.xe s:=by
 have hq:=h (s.heap.objs.size+1) s.heap.objs.size (I.bw.fresh (Nat.le_succ _)) (I.bw.fresh (Nat.le_refl _)) (Nat.ne_of_lt (Nat.lt_succ_self _))
 have I2:=Inv.made (C:=C) I
 have r2:au (V.ref (s.heap.objs.size+1) :: (vs ++ xf)) (Value.ref (s.heap.objs.size+1) :: (us ++ ds)):=.cons rfl (r.append hd)
 have hl:(Value.ref (s.heap.objs.size+1) :: us ++ ds).length=ps.length:=by
  have e:=r2.length
  rw [F.len _ _ _ _ hq] at e
  exact e.symm
 refine wpAny_call (Ip (f:=f) I.E4 M.makes M.init (beq_iff_eq.mp M.fn) (codeAny_mono (F.run _ X.stack _ _ ⟨Value.ref (s.heap.objs.size+1) :: us,[]⟩ (Value.ref (s.heap.objs.size+1) :: (us ++ ds)) _ _ E (hr.make C us [])
  (I2.Ro.make C us []) (hb _ (Value.ref (s.heap.objs.size+1) :: us) I2.E4 hl) r2 hq) fun r s' Oh=>?_))
 cases r with
 | error e=>exact hx pins σ _ _ e s' I2 Oh
 | ok fl =>
  cases fl with
  | ret u =>
   obtain ⟨v,H',I3,rv,ev,q3⟩:=I2.after Oh
   subst ev
   exact ⟨rv,⟨V.ref (s.heap.objs.size+1),H',I3,rfl,q3⟩⟩
  | next=>exact False.elim Oh
  | brk=>exact False.elim Oh
  | cont=>exact False.elim Oh
theorem FI (M:Mk X.K C f) (F:bZ X.prog X.w X.K X.mg X.base CX k f fd ps sp) (hr:dr (k+1) X.A) (hg:Gl X x) (hm:X.mg x=some (.ref C)) (hb:Binds X.K fd ps ds) (hd:au xf ds) (hx:l7 CX X E)
  (ha:PA X (e :: es) t) (Ir:(x == ("__debug__":Str))=false:=by decide) (he:starEach (e :: es) X.env=(false,eval e X.env) :: starEach es X.env:=by rfl) (kK:(backTo pos (starEach es X.env)).any (·.1)=false:=by rfl) :
  PE X (.Call (.Name x p) (e :: es) [] pos) (Rp C sp xf E t):=by
 intro pins s σ H Q I h
 refine wpAny_Call_Name_kw (vP I hg hm ?_ Ir)
 refine PySem.W.callWith_K (h₀:=X.base) I.ok.mod.Qp M.kp (bu (ha pos pins s σ H _ I h) fun us s1 ⟨vs,H1,I1,r,q⟩=>⟨I1.E4,?_⟩) he kK
 exact Iu M F hr hb hd hx I1 r q
end
section
variable {X:Cx} {CX:BI} {k:Nat} {f C:Addr} {fd:FuncData} {ps ks:List Str} {sp:Sp} {E:XK} {x m:Str} {p pos apos Vy:Pos} {e o:Expr} {es:List Expr} {kws:List Keyword} {te ta:TE} {t tk:TA} {nm:Option Str}
structure Vz (K:PySem.W.Frag) (fd:FuncData) (ps ks:List Str) (g:List Value→List Value→List Value) (gV:List V→List V→List V):Prop where
 to:∀ (s:Shared) (us ws:List Value),K.In s.heap→(g us ws).length=ps.length→BindsTo s fd ⟨us,ks.zip ws⟩ (ps.zip (g us ws))
 rel:∀ {vs:List V} {us:List Value} {zs:List V} {ws:List Value},au vs us→au zs ws→au (gV vs zs) (g us ws)
variable {g:List Value→List Value→List Value} {gV:List V→List V→List V}
end
structure aQ (N P:List Str) (sc:Scope):Prop where
 kind:sc.kind=.function
 co:sc.isCoroutine=false
 gen:sc.isGenerator=false
 nd:N.Nodup
 pre:N.take P.length=P
 par:∀ x ∈ P,sc.names.lookup x=some .local∨sc.names.lookup x=some .cell
 Oi:∀ y ∈ sc.names,y.2≠.free
theorem yr {kindOf:Str→Option NameKind} {x:Str}:∀ {binds:List (Str × Value)} {m:Str→Option Value},(∀ v,(x,v) ∉ binds)→bindL kindOf binds m x=m x
 | [],_,_=>rfl
 | (n,v) :: r,m,h=>by
  unfold bindL
  rw [yr fun w hw=>h w (List.mem_cons_of_mem _ hw)]
  split
  ·have:x≠n:=by rintro rfl;exact h v List.mem_cons_self
   simp [this]
  ·rfl
theorem yt {kindOf:Str→Option NameKind} {x:Str}:∀ {binds:List (Str × Value)} {m:Str→Option Value},(∀ v,(x,v) ∉ binds)→bindC kindOf binds m x=m x
 | [],_,_=>rfl
 | (n,v) :: r,m,h=>by
  unfold bindC
  rw [yt fun w hw=>h w (List.mem_cons_of_mem _ hw)]
  split
  ·rfl
  ·have:x≠n:=by rintro rfl;exact h v List.mem_cons_self
   simp [this]
theorem yu {kindOf:Str→Option NameKind} {x:Str} {v:Value}:∀ {P:List Str} {vs:List Value} {i:Nat} {m:Str→Option Value},P.Nodup→P[i]?=some x→vs[i]?=some v→kindOf x=some .local →
  bindL kindOf (P.zip vs) m x=some v
 | [],_,_,_,_,h,_,_=>by simp at h
 | _ :: _,[],_,_,_,_,h,_=>by simp at h
 | p :: P,w :: vs,0,m,nd,h1,h2,hk=>by
  simp at h1 h2;subst h1;subst h2
  show bindL kindOf ((p,w) :: P.zip vs) m p=_
  unfold bindL
  rw [yr fun v hv=>(List.nodup_cons.mp nd).1 (List.of_mem_zip hv).1,if_pos hk]
  simp
 | p :: P,w :: vs,i+1,m,nd,h1,h2,hk=>by
  show bindL kindOf ((p,w) :: P.zip vs) m x=_
  unfold bindL
  exact yu (i:=i) (List.nodup_cons.mp nd).2 (by simpa using h1) (by simpa using h2) hk
theorem yv {kindOf:Str→Option NameKind} {x:Str} {v:Value}:∀ {P:List Str} {vs:List Value} {i:Nat} {m:Str→Option Value},P.Nodup→P[i]?=some x→vs[i]?=some v→kindOf x≠some .local →
  bindC kindOf (P.zip vs) m x=some v
 | [],_,_,_,_,h,_,_=>by simp at h
 | _ :: _,[],_,_,_,_,h,_=>by simp at h
 | p :: P,w :: vs,0,m,nd,h1,h2,hk=>by
  simp at h1 h2;subst h1;subst h2
  show bindC kindOf ((p,w) :: P.zip vs) m p=_
  unfold bindC
  rw [yt fun v hv=>(List.nodup_cons.mp nd).1 (List.of_mem_zip hv).1,if_neg hk]
  simp
 | p :: P,w :: vs,i+1,m,nd,h1,h2,hk=>by
  show bindC kindOf ((p,w) :: P.zip vs) m x=_
  unfold bindC
  exact yv (i:=i) (List.nodup_cons.mp nd).2 (by simpa using h1) (by simpa using h2) hk
def start (N:List Str) (vs:List V):St:=vs.map some ++ List.replicate (N.length - vs.length) none
def DE (CX:BI) (P:Program) (w:World) (K:PySem.W.Frag) (mg:Str→Option Value) (base:Heap) (N:List Str) (qual:Str) (scope:Scope) (f:Addr) (cd:Value) (A:Around) (outer:List Env) (s:Shared) (H:Hp) (E:XK):Cx where
 prog:=P
 w:=w
 K:=K
 mg:=mg
 base:=base
 A:=A.deeper (envOfC qual scope s.heap.objs.size f cd)
 N:=N
 s₀:=s
 H₀:=H
 env:=envOfC qual scope s.heap.objs.size f cd
 outer:=outer
 stack:=envOfC qual scope s.heap.objs.size f cd :: outer
 ex:=[]
 calm:=true
 fn:=fun _=>true
 pn:=[]
 xe:=fun e s'=>wpAny (model P w) (A.deeper (envOfC qual scope s.heap.objs.size f cd)) (leaving (envOfC qual scope s.heap.objs.size f cd) e) (fun _ Oj=>CX outer H s E e Oj) (fun e' Oj=>CX outer H s E e' Oj) s'
theorem BJ {sc:Scope} {n:Nat} {x:Str} (h:sc.names.lookup x=some .cell):∃ c,(cellsFrom n sc.names []).lookup x=some c:=by
 have q:=PySem.W.cellsFrom_some sc.names n [] (.inl h)
 exact Option.isSome_iff_exists.mp q
theorem GV {CX:BI} {P:Program} {w:World} {K:PySem.W.Frag} {mg:Str→Option Value} {base:Heap} {N ps:List Str} {qual:Str} {scope:Scope} {f:Addr} {cd:Value} {A:Around} {outer:List Env} {s s1:Shared} {H:Hp} {E:XK} {us:List Value} {vs:List V}
  (S:aQ N ps scope) (hd:A.handled=none) (e0:xj P w K mg base A outer s H) (hl:vs.length=ps.length) (r:au vs us)
  (x:InCallC s s.heap.objs.size (bindL (envOfC qual scope s.heap.objs.size f cd).kindOf (ps.zip us) fun _=>none) (cellsFrom (s.heap.objs.size+1) scope.names []) (bindC (envOfC qual scope s.heap.objs.size f cd).kindOf (ps.zip us) fun _=>none) s1) :
  Inv (DE CX P w K mg base N qual scope f cd A outer s H E) [] (start N vs) H s1:=by
 have kK:ps.length≤N.length:=by have:=congrArg List.length S.pre;rw [List.length_take] at this;omega
 obtain ⟨h1,tk,rfl,hk⟩:=x.done
 have Rq:∀ b:Addr,b ∉ (DE CX P w K mg base N qual scope f cd A outer s H E).ex:=fun b z=>absurd (show b ∈ ([]:List Addr) from z) (by simp)
 refine ⟨⟨e0.mod,S.kind,rfl,rfl,Nat.le_refl _,fun y z c h1 h2=>?_,fun y hy=>?_,fun y c _ h=>?_,fun _=>hd,Around.frames_deeper e0.frames,.inr ⟨rfl,rfl⟩,fun b z=>absurd z (Rq b),e0.bs,e0.IX,fun b _ _=>Rq b,fun b z=>absurd z (Rq b),e0.sr,e0.NZ⟩,
  rfl,e0.bare,Un.kept hk,⟨_,x.toInCall.ns,fun i y v h1 h2 h3=>?_⟩,fun y c h=>⟨_,x.cell y c h⟩,e0.bw.fresh (Nat.le_refl _),fun y c h=>?_,fun p hp=>absurd (show p ∈ ([]:List (Addr × Obj)) from hp) (by simp),e0.bw.kept hk,?_⟩
 ·exact name_of_addr x.apart (PySem.mem_of_lookup h1) (PySem.mem_of_lookup h2)
 ·have hy:scope.names.lookup y=some .cell∨scope.names.lookup y=some .free:=hy
  rcases hy with hy | hy
  ·exact BJ hy
  ·exact absurd rfl (S.Oi _ (PySem.mem_of_lookup hy))
 ·exact Nat.le_of_lt (x.above y c (PySem.mem_of_lookup h))
 ·have hi:i < vs.length:=by
   unfold start at h2
   by_cases hi:i < vs.length
   ·exact hi
   ·rw [List.getElem?_append_right (by simpa using hi)] at h2
    rw [List.getElem?_replicate] at h2
    split at h2 <;> cases h2
  have ha:vs[i]?=some v:=by
   unfold start at h2
   rw [List.getElem?_append_left (by simpa using hi),List.getElem?_map] at h2
   cases e:vs[i]? with
   | none=>rw [e] at h2;cases h2
   | some a=>rw [e] at h2;cases h2;rfl
  obtain ⟨u,hu,rv⟩:=r.get ha
  have hp:ps[i]?=some y:=by
   rw [← S.pre,List.getElem?_take_of_lt (by omega)];exact h1
  have Ya:ps.Nodup:=by rw [← S.pre];exact S.nd.sublist (List.take_sublist _ _)
  refine ⟨u,rv,?_⟩
  rcases S.par y (List.mem_of_getElem? hp) with k | k
  ·exact .inl ⟨k,yu Ya hp hu k⟩
  ·obtain ⟨c,e⟩:=BJ (n:=s.heap.objs.size+1) k
   refine .inr ⟨.inl k,c,e,?_⟩
   have q:=x.cell y c e
   rw [yv Ya hp hu (by show scope.names.lookup y≠_;rw [k];decide)] at q
   exact q
 ·exact e0.bw.fresh (Nat.le_of_lt (x.above y c (PySem.mem_of_lookup h)))
 ·unfold start
  show _=N.length
  rw [List.length_append,List.length_map,List.length_replicate]
  omega
theorem FJ {CX:BI} {P:Program} {w:World} {K:PySem.W.Frag} {mg:Str→Option Value} {base:Heap} {k:Nat} {f:Addr} {name qual:Str} {params:Arguments} {body:List Stmt} {scope:Scope} {dV kV doc pm bo ct oc:Value} {an od:Option Addr}
  {FK:Array (Option Value)} {N ps:List Str} {sp:Sp} (lk:K.lookup f=some ⟨oc,od,.func (PySem.W.fnOf name qual params body scope dV kV doc pm an bo ct),FK⟩) (yn:PySem.W.codeIn K bo qual=true) (S:aQ N ps scope)
  (len:∀ vs H Q E,sp vs H Q E→vs.length=ps.length)
  (rS:∀ (A:Around) (outer:List Env) (s:Shared) (H:Hp) (vs:List V) (Q:VK) (E:XK),dr k (A.deeper (envOfC qual scope s.heap.objs.size f bo))→sp vs H Q E →
   ∃ t,Cz (DE CX P w K mg base N qual scope f bo A outer s H E) body t∧t { nx:=fun _ H'=>Q .bN H',rt:=Q } (start N vs) H) :
  bZ P w K mg base CX (k+1) f (PySem.W.fnOf name qual params body scope dV kV doc pm an bo ct) ps sp:=by
 refine ⟨len,fun A outer s H args us vs Q E hr e0 hb r FL=>?_⟩
 have hl:=len _ _ _ _ FL
 have KX:K.In s.heap:=e0.mod.Qp.keeps fun b o e=>(e0.bs b o e).1
 have lim:s.heap.NoLimit:=e0.mod.nolimit.keeps fun b o e=>(e0.bs b o e).1
 have Rr:∀ y ∈ ps.zip us,scope.names.lookup y.1=some .local∨(scope.names.lookup y.1=some .cell∧((cellsFrom (s.heap.objs.size+1) scope.names []).lookup y.1).isSome=true):=fun ⟨n,v⟩ hy=>by
  rcases S.par n (List.of_mem_zip hy).1 with q | q
  ·exact .inl q
  ·exact .inr ⟨q,PySem.W.cellsFrom_some _ _ _ (.inl q)⟩
 refine codeAny_call_function hr.depth (KX _ _ lk) rfl S.co S.gen rfl (PySem.W.codeRec_of KX yn) (hb _ _ _ _ ?_)
 refine wpAny_newFunctionEnv_cells S.kind Rr fun env he s1 x=>?_
 subst he
 refine ⟨lim.keeps x.toInCall.keep,codeAny_func ?_⟩
 obtain ⟨t,ht,hq⟩:=rS A outer s H vs Q E (hr.deeper _) FL
 have I:Inv (DE CX P w K mg base N qual scope f bo A outer s H E) [] (start N vs) H s1:=GV S hr.hd e0 hl r x
 refine wpAny_mono (ht [] s1 (start N vs) H _ I hq) (fun fl s' hs=>?_) fun e s' hs=>hs
 have fin:∀ {σ':St} {H':Hp} {v:V} {u:Value},Inv (DE CX P w K mg base N qual scope f bo A outer s H E) [] σ' H' s'→RelV v u→Q v H'→CE outer P w H s Q u s' :=
  fun {σ' H' v u} J rv q=>⟨v,H',J.os,J.bare,J.base,J.bw,rv,q⟩
 cases fl with
 | ret u =>
  obtain ⟨v,σ',H',J,rv,q⟩:=hs
  exact fin J rv q
 | next =>
  obtain ⟨σ',H',J,q⟩:=hs
  exact fin (v:=V.bN) (u:=Value.none) J rfl q
 | brk =>
  obtain ⟨_,_,_,q⟩:=hs
  exact False.elim q
 | cont =>
  obtain ⟨_,_,_,q⟩:=hs
  exact False.elim q
end L2
namespace L2
open PySem PySem.Spec PyProof.Rows
section
variable {X:Cx} {x:Str} {p pos:Pos} {e:Expr} {es:List Expr} {t:TA} {id T:String} {r:List V→Hp→VK→Prop}
def Yb (r:List V→Hp→VK→Prop) (t:TA):TE:=fun σ H Q=>t σ H fun vs H1=>r vs H1 Q
theorem bP (hc:jx X (.builtin id) r) (hg:Gl X x) (hm:X.mg x=none) (hv:bootBuiltins x=some (.builtin id)) (ha:PA X (e :: es) t) (hn:x≠"__name__":=by decide) (Ir:(x == ("__debug__":Str))=false:=by decide)
  (he:starEach (e :: es) X.env=(false,eval e X.env) :: starEach es X.env:=by rfl) (kK:(backTo pos (starEach es X.env)).any (·.1)=false:=by rfl):PE X (.Call (.Name x p) (e :: es) [] pos) (Yb r t):=by
 intro pins s σ H Q I h
 refine wpAny_Call_Name_kw (l3 I hg hm hv ?_ hn Ir)
 exact PyProof.Rows.callWith_builtin1 (bu (ha pos pins s σ H _ I h) fun us s1 ⟨vs,H1,I1,r1,q1⟩=>hc pins s1 σ H1 vs us Q I1 r1 q1) he kK
theorem gO (hc:jx X (.type T) r) (hg:Gl X x) (hm:X.mg x=none) (hv:bootBuiltins x=some (.type T)) (ha:PA X (e :: es) t) (hn:x≠"__name__":=by decide) (Ir:(x == ("__debug__":Str))=false:=by decide)
  (he:starEach (e :: es) X.env=(false,eval e X.env) :: starEach es X.env:=by rfl) (kK:(backTo pos (starEach es X.env)).any (·.1)=false:=by rfl):PE X (.Call (.Name x p) (e :: es) [] pos) (Yb r t):=by
 intro pins s σ H Q I h
 refine wpAny_Call_Name_kw (l3 I hg hm hv ?_ hn Ir)
 exact PyProof.Rows.callWith_type1 (bu (ha pos pins s σ H _ I h) fun us s1 ⟨vs,H1,I1,r1,q1⟩=>hc pins s1 σ H1 vs us Q I1 r1 q1) he kK
end
end L2
namespace HT
open PySem PyProof.Rows
section
open PySem.SeqAt
open PySem.AutoSeq1 (wpAny_loadPart')
open PySem.MeetsSeq PySem.MeetsSeq2 PySem.MeetsSeq3
end
section
variable {prog:Program} {w:World} {A:Around} {E:Value→Shared→Prop} {s:Shared}
def BK (n d:Nat):Option Int→Nat
 | none=>d
 | some v=>if v < 0 then (v+(n:Int)).toNat else min v.toNat n
theorem vj (n d:Nat):BK n d none=d:=rfl
theorem iw (n d k:Nat):BK n d (some (k:Int))=min k n:=by
 show (if (k:Int) < 0 then ((k:Int)+(n:Int)).toNat else min (k:Int).toNat n)=min k n
 rw [if_neg (by omega),Int.toNat_natCast]
end
end HT
namespace L2
open PySem PySem.Spec PyProof.Rows
abbrev TO:=St→Hp→(Option Int→Hp→Prop)→Prop
def PO (X:Cx) (e:Option Expr) (t:TO):Prop :=
 ∀ (pins:List (Addr × Obj)) (s:Shared) (σ:St) (H:Hp) (Q:Option Int→Hp→Prop),Inv X pins σ H s→t σ H Q →
  wpAny (model X.prog X.w) X.A (evalPart e X.env) (fun u s'=>∃ o H',Inv X pins σ H' s'∧IsPart u o∧Q o H') X.xe s
def LS:TO:=fun _ H Q=>Q none H
def Rt (t:TE):TO:=fun σ H Q=>t σ H fun x H1=>∃ i,x=.int i∧Q (some i) H1
section
variable {X:Cx} {e:Expr} {te:TE} {lo hi:Option Expr} {tl th:TO} {pos p2:Pos}
theorem rT:PO X none LS:=by
 intro pins s σ H Q I h
 rw [evalPart_none]
 exact wpAny_pure ⟨none,H,I,.none,h⟩
theorem fZ (h:PE X e te):PO X (some e) (Rt te):=by
 intro pins s σ H Q I hw
 rw [evalPart_some]
 refine bu (h pins s σ H _ I hw) fun u s1 ⟨x,H1,I1,r1,q1⟩=>?_
 obtain ⟨i,rfl,q⟩:=q1
 obtain ⟨t,rfl⟩:=r1
 exact ⟨some i,H1,I1,.int i t,q⟩
def Ol (X:Cx) (r:V→Option Int→Option Int→Hp→VK→Prop):Prop :=
 ∀ (pins:List (Addr × Obj)) (s:Shared) (σ:St) (H:Hp) (x:V) (v vl vu:Value) (lo hi:Option Int) (sl:Addr) (Q:VK),Inv X pins σ H s→RelV x v→s.heap.IsSliceOf sl vl vu .none→IsPart vl lo→IsPart vu hi→r x lo hi H Q →
  ∃ T id,typeLookup (.type T) "__getitem__"=pure (some (.builtin id))∧s.TypeIs v T∧wpAny (model X.prog X.w) X.A (getItem v (.ref sl)) (EP X pins σ Q) X.xe s
theorem Ol.or {r r':V→Option Int→Option Int→Hp→VK→Prop} (h:Ol X r) (h':Ol X r'):Ol X (fun x lo hi H Q=>r x lo hi H Q∨r' x lo hi H Q):=by
 intro pins s σ H x v vl vu lo hi sl Q I rx hs pl pu q
 rcases q with q | q
 ·exact h pins s σ H x v vl vu lo hi sl Q I rx hs pl pu q
 ·exact h' pins s σ H x v vl vu lo hi sl Q I rx hs pl pu q
def tSl (r:V→Option Int→Option Int→Hp→VK→Prop) (te:TE) (tl th:TO):TE:=fun σ H Q=>te σ H fun x H1=>tl σ H1 fun l H2=>th σ H2 fun u H3=>r x l u H3 Q
theorem iA {r:V→Option Int→Option Int→Hp→VK→Prop} (hr:Ol X r) (he:PE X e te) (hl:PO X lo tl) (hu:PO X hi th):PE X (.Subscript e (.Slice lo hi none p2) pos) (tSl r te tl th):=by
 intro pins s σ H Q I h
 refine Subscript_ (bu (he pins s σ H _ I h) fun v s1 ⟨x,H1,I1,r1,q1⟩=>?_)
 refine wpAny_Slice (bu (hl pins s1 σ H1 _ I1 q1) fun vl s2 ⟨l,H2,I2,pl,q2⟩=>bu (hu pins s2 σ H2 _ I2 q2) fun vu s3 ⟨u,H3,I3,pu,q3⟩=>?_)
 rw [evalPart_none]
 refine wpAny_pure ?_
 have I4:Inv X pins σ H3 { s3 with heap:=s3.heap.push { cls:=.type "slice",data:=.fields #[vl,vu,.none] } }:=I3.kept (t':=s3.toks) fun b ob q=>Heap.get?_push_of_some _ q
 obtain ⟨T,id,hT,ht,hg⟩:=hr pins { s3 with heap:=s3.heap.push { cls:=.type "slice",data:=.fields #[vl,vu,.none] } } σ H3 x v vl vu l u s3.heap.objs.size Q I4 r1 (Heap.IsSliceOf.new ..) pl pu q3
 show wpAny (model X.prog X.w) X.A (subscriptTail e (.Slice lo hi none p2) v (.ref s3.heap.objs.size)) (EP X pins σ Q) X.xe { s3 with heap:=s3.heap.push { cls:=.type "slice",data:=.fields #[vl,vu,.none] } }
 exact tail_any (ops:=[.ref s3.heap.objs.size,v]) ht hT hg (by with_unfolding_all rfl)
def fb (xs:List V) (lo hi:Option Int):List V:=(xs.drop (HT.BK xs.length 0 lo)).take (HT.BK xs.length xs.length hi - HT.BK xs.length 0 lo)
theorem BL (xs:List V) (lo hi:Option Int):(fb xs lo hi).length≤xs.length:=by
 unfold fb
 rw [List.length_take,List.length_drop]
 omega
end
end L2
namespace L2
open PySem PySem.Spec PyProof.Rows
def GW (n:Nat) (i:Int):Option Nat:=if 0≤i then (if i < n then some i.toNat else none) else if -(n:Int)≤i then some (i+n).toNat else none
def xg {α:Type} (xs:List α) (i:Int):Option α:=(GW xs.length i).bind fun j=>xs[j]?
theorem FN {n:Nat} {i:Int} {j:Nat} (h:GW n i=some j):seqIndex? i n=some j∧j < n∧-(n:Int)≤i∧i < n:=by
 unfold GW at h
 by_cases h0:0≤i
 ·rw [if_pos h0] at h
  by_cases h1:i < n
  ·rw [if_pos h1] at h
   have e:i.toNat=j:=Option.some.inj h
   exact ⟨by rw [seqIndex_of h0 h1,e],by omega,by omega,h1⟩
  ·rw [if_neg h1] at h;cases h
 ·rw [if_neg h0] at h
  by_cases h1:-(n:Int)≤i
  ·rw [if_pos h1] at h
   have e:(i+n).toNat=j:=Option.some.inj h
   exact ⟨by rw [seqIndex_neg (by omega) h1,e],by omega,h1,by omega⟩
  ·rw [if_neg h1] at h;cases h
theorem FO {α:Type} {xs:List α} {i:Int} {v:α} (h:xg xs i=some v):∃ j,seqIndex? i xs.length=some j∧xs[j]?=some v∧j < xs.length∧-(xs.length:Int)≤i∧i < xs.length:=by
 unfold xg at h
 cases e:GW xs.length i with
 | none=>rw [e] at h;cases h
 | some j =>
  rw [e] at h
  obtain ⟨h1,h2,h3,h4⟩:=FN e
  exact ⟨j,h1,h,h2,h3,h4⟩
theorem iy {α:Type} {xs:List α} {j:Nat} {v:α} (h:xs[j]?=some v):xg xs (j:Int)=some v:=by
 have hj:j < xs.length:=(List.getElem?_eq_some_iff.mp h).1
 have e:GW xs.length (j:Int)=some j:=by
  unfold GW
  rw [if_pos (by omega),if_pos (by omega)];simp
 unfold xg;rw [e];exact h
def LU (b:Expr):Prop:=∀ o i,subscripted b false o i=operate [o,i] (getItem o i)
def LV (X:Cx) (r:R2):Prop :=
 ∀ (value slice:Expr) (pins:List (Addr × Obj)) (s:Shared) (σ:St) (H:Hp) (x y:V) (v u:Value) (Q:VK),Inv X pins σ H s→RelV x v→RelV y u→r x y H Q →
  subscripted slice false v u=operate [v,u] (getItem v u)→wpAny (model X.prog X.w) X.A (subscriptTail value slice v u) (EP X pins σ Q) X.xe s
def Qt (X:Cx) (id:String) (r:V→List V→Hp→VK→Prop):Prop :=
 ∀ (pins:List (Addr × Obj)) (s:Shared) (σ:St) (H:Hp) (x:V) (xs:List V) (v:Value) (us:List Value) (Q:VK),Inv X pins σ H s→RelV x v→au xs us→r x xs H Q →
  wpAny (model X.prog X.w) X.A (call (.builtin id) (v :: us)) (EP X pins σ Q) X.xe s
section
variable {X:Cx} {a b:Expr} {ta tb:TE} {pos:Pos}
theorem LV.or {r r':R2} (h:LV X r) (h':LV X r'):LV X (fun x y H Q=>r x y H Q∨r' x y H Q):=by
 intro value slice pins s σ H x y v u Q I rx ry q hs
 rcases q with q | q
 ·exact h value slice pins s σ H x y v u Q I rx ry q hs
 ·exact h' value slice pins s σ H x y v u Q I rx ry q hs
theorem Qt.or {id:String} {r r':V→List V→Hp→VK→Prop} (h:Qt X id r) (h':Qt X id r'):Qt X id (fun x xs H Q=>r x xs H Q∨r' x xs H Q):=by
 intro pins s σ H x xs v us Q I rx rs q
 rcases q with q | q
 ·exact h pins s σ H x xs v us Q I rx rs q
 ·exact h' pins s σ H x xs v us Q I rx rs q
theorem aR {r:R2} (hr:LV X r) (ha:PE X a ta) (hb:PE X b tb) (hs:LU b):PE X (.Subscript a b pos) (Qs r ta tb):=by
 intro pins s σ H Q I h
 exact Subscript_ (Oa ha hb I h fun v u s2 x y H2 I2 rx ry q=>hr a b pins s2 σ H2 x y v u Q I2 rx ry q (hs _ _))
def Ru (K:PySem.W.Frag):R2:=fun x y H Q=>∃ p xs i v,x=.ref p∧y=.int i∧aX K H p xs∧xg xs i=some v∧Q v H
def Rv (K:PySem.W.Frag):R2:=fun x y H Q=>∃ p xs i v,x=.ref p∧y=.int i∧bz K H p xs∧xg xs i=some v∧Q v H
theorem LW:LV X (Ru X.K):=by
 intro value slice pins s σ H x y v u Q I rx ry h hs
 obtain ⟨p,xs,i,z,rfl,rfl,hq,he,q⟩:=h
 cases rx
 obtain ⟨t,rfl⟩:=ry
 obtain ⟨ai,r,pl,hz⟩:=I.list hq
 obtain ⟨j,h1,h2,h3,h4,h5⟩:=FO he
 obtain ⟨w,ew,rw'⟩:=r.get h2
 have hl:=r.length
 have hn:=vf
 have fin:EP X pins σ Q w s:=⟨z,H,I,rw',q⟩
 by_cases h0:0≤i
 ·have hj:i.toNat=j:=by
   rw [seqIndex_of h0 h5] at h1
   exact Option.some.inj h1
  exact item_listR pl.isList h0 (by omega) (by rw [hj];simpa using ew) fin hs
 ·have hj:(i+(ai.toArray.size:Int)).toNat=j:=by
   rw [seqIndex_neg (by omega) h4] at h1
   rw [List.size_toArray,← hl]
   exact Option.some.inj h1
  exact subscriptTail_builtinR (x:=w) pl.isList.typeIs slot_list_getitem.lookup
   (wpAny_getItem_list_neg (Q:=fun r s'=>r=w∧EP X pins σ Q r s') pl.isList (by omega) (by rw [List.size_toArray] <;> omega) (by omega) (by rw [hj];simpa using ew) ⟨rfl,fin⟩) hs
theorem Om:LV X (Rv X.K):=by
 intro value slice pins s σ H x y v u Q I rx ry h hs
 obtain ⟨p,xs,i,z,rfl,rfl,hq,he,q⟩:=h
 cases rx
 obtain ⟨t,rfl⟩:=ry
 obtain ⟨ai,r,pl,hz⟩:=I.tuple hq
 obtain ⟨j,h1,h2,h3,h4,h5⟩:=FO he
 obtain ⟨w,ew,rw'⟩:=r.get h2
 have hl:=r.length
 have hn:=vf
 have fin:EP X pins σ Q w s:=⟨z,H,I,rw',q⟩
 exact subscriptTail_builtinR (x:=w) pl.typeIs slot_tuple_getitem.lookup
  (getItem_tuple (j:=j) (Q:=fun r s'=>r=w∧EP X pins σ Q r s') pl (by omega) (by omega) (by rw [List.size_toArray,← hl];exact h1) (by simpa using ew) ⟨rfl,fin⟩) hs
theorem DF (ai:List Value) (n j:Nat) (u:Value):Obj.mapSeq (·.setIfInBounds j u) { cls:=.type "list",data:=.seq ai.toArray n }={ cls:=.type "list",data:=.seq (ai.set j u).toArray n }:=by
 simp [Obj.mapSeq]
theorem Inv.lst {pins:List (Addr × Obj)} {σ:St} {H:Hp} {s:Shared} {p:Addr} {xs:List V} (I:Inv X pins σ H s) (h:H p=some (.lst xs)) :
  ∃ (ai:List Value) (n:Nat),au xs ai∧s.heap.get? p=some { cls:=.type "list",data:=.seq ai.toArray n }∧xs.length≤sizeLine:=by
 obtain ⟨z,ai,n,r,e⟩:=I.bw p _ h
 exact ⟨ai,n,r,e,z⟩
theorem Inv.Oo {pins:List (Addr × Obj)} {σ:St} {H:Hp} {s:Shared} {p:Addr} {xs ys:List V} {ai its':List Value} {n n':Nat} {f:Obj→Obj} (I:Inv X pins σ H s) (h:H p=some (.lst xs))
  (ho:s.heap.get? p=some { cls:=.type "list",data:=.seq ai.toArray n }) (hf:f { cls:=.type "list",data:=.seq ai.toArray n }={ cls:=.type "list",data:=.seq its'.toArray n' }) (r:au ys its') (hz:ys.length≤sizeLine) (t:Nat) :
  Inv X pins σ (upd H p (.lst ys)) { s with heap:=s.heap.update p f,toks:=t }:=by
 have e:(s.heap.update p f).get? p=some { cls:=.type "list",data:=.seq its'.toArray n' }:=by
  rw [Heap.get?_update_self f ho (by rw [hf] <;> rfl),hf]
 refine I.write (x:=p) (e:=p) (by rw [h];trivial) (.inl rfl) (fun b u hb q=>(Heap.get?_update_other _ _ (Ne.symm hb)).trans q) ⟨_,e⟩ ?_
 exact ⟨hz,its',n',r,e⟩
def Rx:V→V→V→Hp→(Hp→Prop)→Prop:=fun o i v H Q=>∃ p xs k j,o=.ref p∧i=.int k∧H p=some (.lst xs)∧GW xs.length k=some j∧Q (upd H p (.lst (xs.set j v)))
theorem set_list:Ra X Rx:=by
 intro pins s σ H o i v ov iv u Q I ro ri rv h
 obtain ⟨p,xs,k,j,rfl,rfl,hp,hj,q⟩:=h
 cases ro
 obtain ⟨t,rfl⟩:=ri
 obtain ⟨ai,n,r,ho,hz⟩:=I.lst hp
 obtain ⟨h1,h2,h3,h4⟩:=FN hj
 have hl:=r.length
 have hn:=vf
 have I':Inv X pins σ (upd H p (.lst (xs.set j v))) { s with heap:=s.heap.update p (Obj.mapSeq (·.setIfInBounds j u)) } :=
  I.Oo hp ho (DF ai n j u) (r.set rv j) (by rw [List.length_set];exact hz) s.toks
 by_cases h0:0≤k
 ·have hk:k.toNat=j:=by
   rw [seqIndex_of h0 h4] at h1
   exact Option.some.inj h1
  exact PySem.W.ki_setAt ho h0 (by omega) (by rw [List.size_toArray,← hl];exact h4) (by rw [hk];exact ⟨_,I',q⟩)
 ·have hk:(k+(ai.toArray.size:Int)).toNat=j:=by
   rw [seqIndex_neg (by omega) h3] at h1
   rw [List.size_toArray,← hl]
   exact Option.some.inj h1
  exact PySem.W.ki_setBack ho (by omega) (by rw [List.size_toArray,← hl];exact h3) (by omega) (by rw [hk];exact ⟨_,I',q⟩)
theorem zl (lo hi:Option Int) (n:Nat):(sliceBounds lo hi none n).1=((HT.BK n 0 lo:Nat):Int)∧(sliceBounds lo hi none n).2.1=((HT.BK n n hi:Nat):Int)∧(sliceBounds lo hi none n).2.2=1:=by
 refine ⟨?_,?_,rfl⟩
 ·cases lo with
  | none=>simp [sliceBounds,HT.BK]
  | some i =>
   simp only [sliceBounds,HT.BK,Option.getD_none,show (1:Int) > 0 by decide,if_true]
   by_cases h:i < 0
   ·simp only [h,if_true] <;> omega
   ·simp only [h,if_false] <;> omega
 ·cases hi with
  | none=>simp [sliceBounds,HT.BK]
  | some i =>
   simp only [sliceBounds,HT.BK,Option.getD_none,show (1:Int) > 0 by decide,if_true]
   by_cases h:i < 0
   ·simp only [h,if_true] <;> omega
   ·simp only [h,if_false] <;> omega
theorem xk (ai:List Value) (lo hi:Option Int):slicePick ai.toArray lo hi none=((ai.drop (HT.BK ai.length 0 lo)).take (HT.BK ai.length ai.length hi - HT.BK ai.length 0 lo)).toArray:=by
 obtain ⟨h1,h2,h3⟩:=zl lo hi ai.toArray.size
 unfold slicePick
 rw [h1,h2,h3]
 simp only [sliceRange_one,pick_run,List.size_toArray] <;> rfl
def Ry (K:PySem.W.Frag):V→Option Int→Option Int→Hp→VK→Prop:=fun x lo hi H Q=>∃ a xs,x=.ref a∧aX K H a xs∧∀ p,H p=none→Q (.ref p) (upd H p (.lst (fb xs lo hi)))
theorem LX:Ol X (Ry X.K):=by
 intro pins s σ H x v vl vu lo hi sl Q I rx hs pl pu h
 obtain ⟨a,xs,rfl,hx,q⟩:=h
 cases rx
 obtain ⟨ai,r,ht,hz⟩:=I.list hx
 have hlen:=r.length
 refine ⟨"list",_,slot_list_getitem.lookup,ht.isList.typeIs,?_⟩
 refine wpAny_getItem_list_slice ht.isList hs pl pu .none (by simp) ?_ (by rw [List.size_toArray] <;> omega)
 rw [xk,← hlen]
 refine ⟨.ref s.heap.objs.size,_,I.laid (t':=s.toks) (o:=.lst (fb xs lo hi)) (fun b ob q=>Heap.get?_push_of_some _ q) (Nat.le_refl _) ?_,rfl,q _ (I.bw.fresh (Nat.le_refl _))⟩
 exact ⟨Nat.le_trans (BL xs lo hi) hz,_,0,(r.drop (HT.BK xs.length 0 lo)).take (HT.BK xs.length xs.length hi - HT.BK xs.length 0 lo),Heap.get?_push_size _ rfl⟩
def ni:V→Bool
 | .bN=>true
 | .bl _=>true
 | .int _=>true
 | .str _=>true
 | _=>false
def GX:V→V→Bool
 | .bN,.bN=>true
 | .bl a,.bl b=>a == b
 | .bl a,.int b=>(if a then 1 else 0) == b
 | .int a,.bl b=>a == (if b then 1 else 0)
 | .int a,.int b=>a == b
 | .str a,.str b=>a == b
 | _,_=>false
theorem zm {A:Around} {s:Shared} {y x:V} {u v:Value} (ry:RelV y u) (rx:RelV x v) (fy:ni y=true) (fx:ni x=true):SeqAt.EqAt A s u v (GX y x):=by
 cases y with
 | bN =>
  cases ry
  cases x with
  | bN=>cases rx;exact SeqAt.EqAt.same _
  | bl b=>cases rx;exact SeqAt.EqAt.none_bool b
  | int b=>obtain ⟨t,rfl⟩:=rx;exact SeqAt.EqAt.none_int b t
  | str b=>obtain ⟨t,rfl⟩:=rx;exact SeqAt.EqAt.none_str b t
  | _=>exact absurd (show false=true from fx) Bool.false_ne_true
 | bl a =>
  cases ry
  cases x with
  | bN=>cases rx;exact SeqAt.EqAt.bool_none a
  | bl b=>cases rx;exact SeqAt.EqAt.bool_bool a b
  | int b=>obtain ⟨t,rfl⟩:=rx;exact SeqAt.EqAt.bool_int a b t
  | str b=>obtain ⟨t,rfl⟩:=rx;exact SeqAt.EqAt.bool_str a b t
  | _=>exact absurd (show false=true from fx) Bool.false_ne_true
 | int a =>
  obtain ⟨t',rfl⟩:=ry
  cases x with
  | bN=>cases rx;exact SeqAt.EqAt.int_none a t'
  | bl b=>cases rx;exact SeqAt.EqAt.int_bool a t' b
  | int b=>obtain ⟨t,rfl⟩:=rx;exact SeqAt.EqAt.int_int a t' b t
  | str b=>obtain ⟨t,rfl⟩:=rx;exact SeqAt.EqAt.int_str a t' b t
  | _=>exact absurd (show false=true from fx) Bool.false_ne_true
 | str a =>
  obtain ⟨t',rfl⟩:=ry
  cases x with
  | bN=>cases rx;exact SeqAt.EqAt.str_none a t'
  | bl b=>cases rx;exact SeqAt.EqAt.str_bool a t' b
  | int b=>obtain ⟨t,rfl⟩:=rx;exact SeqAt.EqAt.str_int a t' b t
  | str b=>obtain ⟨t,rfl⟩:=rx;exact SeqAt.EqAt.str_str a t' b t
  | _=>exact absurd (show false=true from fx) Bool.false_ne_true
 | _=>exact absurd (show false=true from fy) Bool.false_ne_true
def LY (x:V) (u:Value):Bool:=match u with
 | .none=>GX .bN x
 | .bool b=>GX (.bl b) x
 | .int i _=>GX (.int i) x
 | .str z _=>GX (.str z) x
 | _=>false
theorem Iv {x y:V} {u:Value} (r:RelV y u) (f:ni y=true):LY x u=GX y x:=by
 cases y with
 | bN=>cases r;rfl
 | bl b=>cases r;rfl
 | int i=>obtain ⟨t,rfl⟩:=r;rfl
 | str z=>obtain ⟨t,rfl⟩:=r;rfl
 | _=>exact absurd (show false=true from f) Bool.false_ne_true
theorem zo {x:V}:∀ {xs:List V} {us:List Value},au xs us→xs.all ni=true→us.any (LY x)=xs.any fun y=>GX y x
 | _,_,.nil,_=>rfl
 | y :: xs,u :: us,.cons r t,f=>by
  rw [List.all_cons,Bool.and_eq_true] at f
  rw [List.any_cons,List.any_cons,Iv r f.1,zo t f.2]
theorem vk {A:Around} {s:Shared} {x:V} {v:Value} (rx:RelV x v) (fx:ni x=true):∀ {xs:List V} {us:List Value},au xs us→xs.all ni=true→∀ u ∈ us,SeqAt.EqAt A s u v (LY x u)
 | _,_,.nil,_=>fun u hu=>by cases hu
 | y :: xs,u :: us,.cons r t,f=>fun u' hu=>by
  rw [List.all_cons,Bool.and_eq_true] at f
  rcases List.mem_cons.mp hu with rfl | hu
  ·rw [Iv r f.1];exact zm r rx f.1 fx
  ·exact vk rx fx t f.2 u' hu
def Qu (x:V) (xs:List V):Bool:=xs.any fun y=>GX y x
def rIn (K:PySem.W.Frag) (neg:Bool):R2:=fun x y H Q=>∃ p xs,y=.ref p∧(aX K H p xs∨bz K H p xs)∧ni x=true∧xs.all ni=true∧Q (.bl (if neg then !Qu x xs else Qu x xs)) H
theorem GY:nS X (compareOp .In) (rIn X.K false):=by
 intro pins s σ H x y v u Q I rx ry h
 obtain ⟨p,xs,rfl,hq,fx,fs,q⟩:=h
 cases ry
 rcases hq with hq | hq
 ·obtain ⟨ai,r,pl,hz⟩:=I.list hq
  refine SeqAt.in_listAt (LY x) pl.isList (fun w hw=>vk rx fx r fs w (by simpa using hw)) ⟨.bl _,H,I,rfl,?_⟩
  rw [show ai.toArray.any (LY x)=ai.any (LY x) by simp,zo r fs]
  exact q
 ·obtain ⟨ai,r,pl,hz⟩:=I.tuple hq
  refine SeqAt.in_tupleAt (LY x) pl (fun w hw=>vk rx fx r fs w (by simpa using hw)) ⟨.bl _,H,I,rfl,?_⟩
  rw [show ai.toArray.any (LY x)=ai.any (LY x) by simp,zo r fs]
  exact q
theorem zu:jx X (.builtin "len") (fun xs H Q=>∃ p ys,xs=[.ref p]∧(aX X.K H p ys∨bz X.K H p ys)∧Q (.int ys.length) H):=by
 intro pins s σ H xs us Q I r h
 obtain ⟨p,ys,rfl,hq,q⟩:=h
 obtain ⟨u,rfl,rx⟩:=vals1 r
 cases rx
 have hn:=vf
 rcases hq with hq | hq
 ·obtain ⟨ai,r',pl,hz⟩:=I.list hq
  have hlen:=r'.length
  exact Calls.call_len_list pl.isList (by simp only [List.size_toArray] <;> omega) ⟨.int ys.length,H,I.tok _,⟨s.toks+1,by rw [List.size_toArray,hlen]⟩,q⟩
 ·obtain ⟨ai,r',pl,hz⟩:=I.tuple hq
  have hlen:=r'.length
  exact len_tuple pl (by simp only [List.size_toArray] <;> omega) ⟨.int ys.length,H,I.tok _,⟨s.toks+1,by rw [List.size_toArray,hlen]⟩,q⟩
theorem jx.or {f:Value} {r r':List V→Hp→VK→Prop} (h:jx X f r) (h':jx X f r'):jx X f (fun xs H Q=>r xs H Q∨r' xs H Q):=by
 intro pins s σ H xs us Q I rs q
 rcases q with q | q
 ·exact h pins s σ H xs us Q I rs q
 ·exact h' pins s σ H xs us Q I rs q
theorem zv:jx X (.type "list") (fun xs H Q=>∃ p ys,xs=[.ref p]∧(aX X.K H p ys∨bz X.K H p ys)∧∀ l,H l=none→Q (.ref l) (upd H l (.lst ys))):=by
 intro pins s σ H xs us Q I r h
 obtain ⟨p,ys,rfl,hq,q⟩:=h
 obtain ⟨u,rfl,rx⟩:=vals1 r
 cases rx
 have fin:∀ (ai:List Value),au ys ai→ys.length≤sizeLine→∀ (h':Heap) (c':Nat),(∀ b o',s.heap.get? b=some o'→h'.get? b=some o') →
   h'.get? s.heap.objs.size=some { cls:=.type "list",dict:=none,data:=.seq ai.toArray c',slots:=#[] }→EP X pins σ Q (.ref s.heap.objs.size) { s with heap:=h' }:=fun ai r' hz h' c' kp e =>
  ⟨.ref s.heap.objs.size,_,I.laid (t':=s.toks) kp (Nat.le_refl _) (show cI X.prog X.w _ h' _ (.lst ys) from ⟨hz,ai,c',r',e⟩),rfl,q _ (I.bw.fresh (Nat.le_refl _))⟩
 rcases hq with hq | hq
 ·obtain ⟨ai,r',pl,hz⟩:=I.list hq
  have hlen:=r'.length
  obtain ⟨o,ho,hc,n,hd⟩:=pl.isList
  exact call_list_seq p (.inl rfl) ho hc hd (fun h' c' kp e=>fin ai r' hz h' c' kp e) (by simp only [List.size_toArray] <;> omega)
 ·obtain ⟨ai,r',pl,hz⟩:=I.tuple hq
  have hlen:=r'.length
  obtain ⟨o,ho,hc,n,hd⟩:=pl
  exact call_list_seq p (.inr rfl) ho hc hd (fun h' c' kp e=>fin ai r' hz h' c' kp e) (by simp only [List.size_toArray] <;> omega)
theorem xm:jx X (.type "tuple") (fun xs H Q=>∃ p ys,xs=[.ref p]∧((aX X.K H p ys∧∀ l,H l=none→Q (.ref l) (upd H l (.tup ys)))∨(bz X.K H p ys∧Q (.ref p) H))):=by
 intro pins s σ H xs us Q I r h
 obtain ⟨p,ys,rfl,h⟩:=h
 obtain ⟨u,rfl,rx⟩:=vals1 r
 cases rx
 rcases h with ⟨hq,q⟩ | ⟨hq,q⟩
 ·obtain ⟨ai,r',pl,hz⟩:=I.list hq
  have hlen:=r'.length
  refine call_tuple_list pl.isList (fun h' kp=>?_) (by simp only [List.size_toArray] <;> omega)
  have I1:Inv X pins σ H { s with heap:=h' }:=I.kept (t':=s.toks) kp
  have I2:Inv X pins σ (upd H h'.objs.size (.tup ys)) { s with heap:=h'.push { cls:=.type "tuple",data:=.seq ai.toArray } } :=
   I1.laid (t':=s.toks) (fun b o e=>Heap.get?_push_of_some _ e) (Nat.le_refl _) (show cI X.prog X.w _ _ _ (.tup ys) from ⟨hz,ai,r',IsTup.new _ _⟩)
  exact ⟨.ref h'.objs.size,_,I2,rfl,q _ (I1.bw.fresh (Nat.le_refl _))⟩
 ·obtain ⟨ai,r',pl,hz⟩:=I.tuple hq
  exact call_tuple_same pl ⟨.ref p,H,I,rfl,q⟩
def Yc (K:PySem.W.Frag) (T:String) (x:V) (H:Hp):Prop:=match x with
 | .str _=>T="str"
 | .int _=>T="int"
 | .ref p=>(T="list"∧∃ xs,aX K H p xs)∨(T="tuple"∧∃ o,K.lookup p=some o∧o.cls=.type "tuple"∧o.dict=none) ∨
   (T="dict"∧((∃ aq,H p=some (.dK aq))∨∃ aq,H p=some (.dT aq)))∨(T="set"∧∃ S n,H p=some (.set S n))
 | _=>False
theorem Oq {pins:List (Addr × Obj)} {σ:St} {H:Hp} {s:Shared} {T:String} {x:V} {v:Value} (I:Inv X pins σ H s) (r:RelV x v) (ty:Yc X.K T x H) :
  s.TypeIs v T∧∀ a,v=.ref a→∃ ob,s.heap.get? a=some ob∧ob.dict=none:=by
 cases x with
 | str z =>
  obtain ⟨t,rfl⟩:=r
  cases (show T="str" from ty)
  exact ⟨typeIs_str s z t,fun _ e=>nomatch e⟩
 | int i =>
  obtain ⟨t,rfl⟩:=r
  cases (show T="int" from ty)
  exact ⟨typeIs_int s i t,fun _ e=>nomatch e⟩
 | ref p =>
  cases r
  rcases ty with ⟨rfl,xs,hq⟩ | ⟨rfl,o,hk,hc,hd⟩ | ⟨rfl,hk⟩ | ⟨rfl,S,n,hk⟩
  ·obtain ⟨ai,_,pl,_⟩:=I.list hq
   refine ⟨pl.isList.typeIs,fun a e=>?_⟩
   cases e
   obtain ⟨o,n,e,c,hd,_⟩:=pl
   exact ⟨o,e,hd⟩
  ·refine ⟨⟨o,I.E4 p o hk,hc⟩,fun a e=>?_⟩
   cases e
   exact ⟨o,I.E4 _ o hk,hd⟩
  ·have z:∃ o,s.heap.get? p=some o∧o.ExactDict:=by
    rcases hk with ⟨aq,hk⟩ | ⟨aq,hk⟩
    ·obtain ⟨_,_,_,_,o,_,_,e,ex,_⟩:=I.bw p _ hk
     exact ⟨o,e,ex⟩
    ·obtain ⟨_,_,_,_,o,_,_,e,ex,_⟩:=I.bw p _ hk
     exact ⟨o,e,ex⟩
   obtain ⟨o,e,ex⟩:=z
   refine ⟨⟨o,e,ex.1⟩,fun a e2=>?_⟩
   cases e2
   exact ⟨o,e,ex.2.1⟩
  ·obtain ⟨o,_,_,_,e,ex,_⟩:=I.bw p _ hk
   refine ⟨⟨o,e,ex.1⟩,fun a e2=>?_⟩
   cases e2
   exact ⟨o,e,ex.2.1⟩
 | _=>exact False.elim ty
def V0 (K:PySem.W.Frag) (T:String) (r:V→List V→Hp→VK→Prop) (to:TE) (t:TA):TE:=fun σ H Q=>to σ H fun x H1=>Yc K T x H1∧t σ H1 fun xs H2=>r x xs H2 Q
variable {o e:Expr} {es:List Expr} {to:TE} {t:TA} {name:Str} {apos fF:Pos} {T id:String} {r:V→List V→Hp→VK→Prop}
theorem Ni (pa:PlainAttrs T) (slot:Slot T name id) (V1:typeOf (.builtin id)=pure (.type "method_descriptor")) (hm:Qt X id r) (ho:PE X o to) (ha:PA X (e :: es) t)
  (Iw:attributeBase o name X.env (eval o X.env)=eval o X.env:=by rfl)
  (Ot:((backTo fF (starEach (e :: es) X.env)).all (fun x=>!x.1) && (backToKw fF (keywordEach [] X.env)).all (fun x=>x.1.isSome)
   && decide ((e :: es).length+([]:List Keyword).length+(if ([]:List Keyword).isEmpty then 0 else 1) < 30))=true:=by rfl)
  (Iy:(apos.endLine == fF.line)=true:=by rfl) (hs:starEach (e :: es) X.env=(false,eval e X.env) :: starEach es X.env:=by rfl) (DG:(backTo fF (starEach es X.env)).any (·.1)=false:=by rfl) :
  PE X (.Call (.Attribute o name apos) (e :: es) [] fF) (V0 X.K T r to t):=by
 intro pins s σ H Q I h
 refine wpAny_Call_method_late Iw Ot Iy rfl (bu (ho pins s σ H _ I h) fun v s1 ⟨x,H1,I1,r1,ty,q1⟩=>?_)
 obtain ⟨h1,h2⟩:=Oq I1 r1 ty
 refine ⟨T,id,pa,slot,V1,h1,h2,?_⟩
 have hA:=ha fF pins s1 σ H1 _ I1 q1
 rw [hs] at hA ⊢
 refine Calls.callWith_builtin (by show (false || (backTo fF (starEach es X.env)).any (·.1))=false;rw [DG] <;> rfl) (Calls.evalArgs_plain ?_)
 exact bu hA fun us s2 ⟨vs,H2,I2,r2,q2⟩=>hm pins s2 σ H2 x vs v us Q I2 r1 r2 q2
end
end L2
namespace L2
open PySem PySem.Spec PyProof.Rows
def Yd (X:Cx) (id:String) (r:V→List V→Hp→VK→Prop):Prop :=
 ∀ (pins:List (Addr × Obj)) (s:Shared) (σ:St) (H:Hp) (x:V) (xs:List V) (v:Value) (us:List Value) (Q:VK),Inv X pins σ H s→RelV x v→au xs us→r x xs H Q →
  wpAny (model X.prog X.w) X.A (call (.builtin id) (v :: us)) (EP X pins σ Q) X.xe s
theorem au.one:∀ {x:V} {us:List Value},au [x] us→∃ u,us=[u]∧RelV x u
 | _,_,.cons r .nil=>⟨_,rfl,r⟩
theorem au.two:∀ {x y:V} {us:List Value},au [x,y] us→∃ u v,us=[u,v]∧RelV x u∧RelV y v
 | _,_,_,.cons r (.cons q .nil)=>⟨_,_,rfl,r,q⟩
theorem au.zero:∀ {us:List Value},au [] us→us=[]
 | _,.nil=>rfl
theorem au.eraseIdx:∀ {xs:List V} {us:List Value} (i:Nat),au xs us→au (xs.eraseIdx i) (us.eraseIdx i)
 | _,_,_,.nil=>.nil
 | _,_,0,.cons _ t=>t
 | _,_,i+1,.cons r t=>.cons r (au.eraseIdx i t)
theorem au.reverse {xs:List V} {us:List Value} (h:au xs us):au xs.reverse us.reverse:=by
 induction h with
 | nil=>exact .nil
 | cons r t ih=>rw [List.reverse_cons,List.reverse_cons];exact au.append ih (.cons r .nil)
theorem au.rep {xs:List V} {us:List Value} (h:au xs us):∀ k:Nat,au (List.replicate k xs).flatten (List.replicate k us).flatten
 | 0=>.nil
 | k+1=>by
  rw [List.replicate_succ,List.replicate_succ,List.flatten_cons,List.flatten_cons]
  exact au.append h (au.rep h k)
theorem yw {α:Type}:∀ (l:List α) (i:Nat),(l.eraseIdx i).length≤l.length
 | [],_=>Nat.le_refl _
 | _ :: _,0=>Nat.le_succ _
 | _ :: r,i+1=>Nat.succ_le_succ (yw r i)
theorem foldl_rep (ai:List Value):∀ (k:Nat) (acc:List Value),
  List.foldl (fun x1 x2=>x1 ++ x2) acc.toArray (List.replicate k ai.toArray)=(acc ++ (List.replicate k ai).flatten).toArray
 | 0,acc=>by simp
 | k+1,acc=>by
  have e:acc.toArray ++ ai.toArray=(acc ++ ai).toArray:=by simp
  have e2:(acc ++ ai) ++ (List.replicate k ai).flatten=acc ++ (List.replicate (k+1) ai).flatten:=by
   rw [List.replicate_succ,List.flatten_cons,List.append_assoc]
  rw [← e2,← foldl_rep ai k (acc ++ ai),← e,List.replicate_succ,List.foldl_cons]
section
variable {X:Cx} {pins:List (Addr × Obj)} {σ:St} {H:Hp} {s:Shared} {l b:Addr} {xs ys zs:List V}
theorem Inv.Rz {ai its':List Value} {n:Nat} {f:Array Value→Array Value} {t':Nat} (I:Inv X pins σ H s) (hH:H l=some (.lst xs))
  (e:s.heap.get? l=some { cls:=.type "list",data:=.seq ai.toArray n }) (hf:f ai.toArray=its'.toArray) (hv:au ys its') (hz:ys.length≤sizeLine) :
  Inv X pins σ (upd H l (.lst ys)) { s with heap:=s.heap.update l (Obj.mapSeq f),toks:=t' }:=by
 have q:=PySem.IsL.update e f
 rw [hf] at q
 refine I.write (x:=l) (e:=l) (by rw [hH];exact trivial) (.inl rfl) (fun b' u hb hu=>(Heap.get?_update_other s.heap (Obj.mapSeq f) (Ne.symm hb)).trans hu) ⟨_,q⟩ ?_
 exact ⟨hz,its',_,hv,q⟩
theorem Inv.R0 {ai:List Value} {t':Nat} (I:Inv X pins σ H s) (hv:au ys ai) (hz:ys.length≤sizeLine) :
  Inv X pins σ (upd H s.heap.objs.size (.lst ys)) { s with heap:=s.heap.push { cls:=.type "list",data:=.seq ai.toArray },toks:=t' } :=
 I.laid (fun _ _ q=>Heap.get?_push_of_some _ q) (Nat.le_refl _) ⟨hz,ai,0,hv,Heap.get?_push_size _ rfl⟩
theorem Inv.fresh (I:Inv X pins σ H s):H s.heap.objs.size=none:=I.bw.fresh (Nat.le_refl _)
theorem Inv.Ou (I:Inv X pins σ H s) (hH:H l=some (.lst xs)):xs.length≤sizeLine∧∃ (ai:List Value) (n:Nat),au xs ai∧xs.length=ai.length∧s.heap.get? l=some { cls:=.type "list",data:=.seq ai.toArray n }:=by
 obtain ⟨z,ai,n,r,e⟩:=I.bw l _ hH
 exact ⟨z,ai,n,r,r.length,e⟩
theorem Iz {n:Nat} (h:n≤sizeLine):Builtin.List.listTooLong n=false:=by
 unfold Builtin.List.listTooLong
 exact decide_eq_false (by omega)
end
section
variable {X:Cx}
def FP:V→List V→Hp→VK→Prop:=fun x vs H Q=>∃ l xs y,x=.ref l∧vs=[y]∧H l=some (.lst xs)∧xs.length < sizeLine∧Q .bN (upd H l (.lst (xs ++ [y])))
theorem cP:Yd X "list.append" FP:=by
 intro pins s σ H x vs v us Q I rx rv h
 obtain ⟨l,xs,y,rfl,rfl,hH,hz,q⟩:=h
 cases rx
 obtain ⟨u,rfl,ru⟩:=rv.one
 obtain ⟨z,ai,n,r,hl,e⟩:=I.Ou hH
 refine call_meets F.slot_list_append ⟨_,e,rfl⟩ F.entry_list_append (F.args_list_append_2 _ _) (PySem.list_append l ai.toArray n u (by rw [List.size_toArray];omega)) ⟨e,?_⟩
 refine ⟨.bN,_,I.Rz (its':=ai ++ [u]) hH e (by simp) (r.append (.cons ru .nil)) ?_,rfl,q⟩
 rw [List.length_append,List.length_singleton]
 omega
def Ov:V→List V→Hp→VK→Prop:=fun x vs H Q=>∃ l xs i k y,x=.ref l∧vs=[.int i]∧H l=some (.lst xs)∧-(2 ^ 63)≤i∧i < 2 ^ 63∧seqIndex? i xs.length=some k∧xs[k]?=some y∧Q y (upd H l (.lst (xs.eraseIdx k)))
theorem I0:Yd X "list.pop" Ov:=by
 intro pins s σ H x vs v us Q I rx rv h
 obtain ⟨l,xs,i,k,y,rfl,rfl,hH,h1,h2,hk,hy,q⟩:=h
 cases rx
 obtain ⟨u,rfl,ru⟩:=rv.one
 obtain ⟨t,rfl⟩:=ru
 obtain ⟨z,ai,n,r,hl,e⟩:=I.Ou hH
 obtain ⟨w,hw,rw'⟩:=r.get hy
 refine call_meets F.slot_list_pop ⟨_,e,rfl⟩ F.entry_list_pop (F.args_list_pop_2 _ _)
  (MeetsSeq.list_pop_at l ai.toArray n i t k w (fitsIndex_both h1 h2) (by rw [List.size_toArray,← hl];exact hk) (by rw [← Array.getElem?_toList];exact hw) (by rw [List.size_toArray];omega)) ⟨e,?_⟩
 refine ⟨y,_,I.Rz (its':=ai.eraseIdx k) hH e ?_ (r.eraseIdx k) ?_,rw',q⟩
 ·show ai.toArray.eraseIdxIfInBounds k=(ai.eraseIdx k).toArray
  rw [List.eraseIdxIfInBounds_toArray]
 ·have:=yw xs k
  omega
def V2:R2:=fun x y H Q=>∃ l k xs,x=.ref l∧y=.int k∧H l=some (.lst xs)∧-(2 ^ 63)≤k∧k < 2 ^ 63∧xs.length * k.toNat≤sizeLine ∧
 ∀ p,H p=none→Q (.ref p) (upd H p (.lst (List.replicate k.toNat xs).flatten))
theorem len_rep {α:Type} (xs:List α) (k:Nat):(List.replicate k xs).flatten.length=k * xs.length:=by
 induction k with
 | zero=>simp
 | succ k ih=>rw [List.replicate_succ,List.flatten_cons,List.length_append,ih,Nat.succ_mul,Nat.add_comm]
theorem zx:nS X (binaryOp .Mult) V2:=by
 intro pins s σ H x y v u Q I rx ry h
 obtain ⟨l,k,xs,rfl,rfl,hH,h1,h2,hz,q⟩:=h
 cases rx
 obtain ⟨t,rfl⟩:=ry
 obtain ⟨z,ai,n,r,hl,e⟩:=I.Ou hH
 have hlen:ai.toArray.size * k.toNat≤sizeLine:=by rw [List.size_toArray,← hl];exact hz
 have V3:¬ ai.toArray.size * k.toNat > (2 ^ 63 - 1) / 8:=by
  have:(sizeLine:Nat)≤(2 ^ 63 - 1) / 8:=by decide
  omega
 have V4:¬ (!Builtin.List.listFitsIndex k)=true:=by
  rw [fitsIndex_both h1 h2]
  exact Bool.false_ne_true
 have R1:¬ Builtin.List.listTooLong (ai.toArray.size * k.toNat)=true:=by
  rw [Iz hlen]
  exact Bool.false_ne_true
 have V5:List.foldl (fun x1 x2=>x1 ++ x2) #[] (List.replicate (if ai.toArray.isEmpty=true then 0 else k.toNat) ai.toArray)=(List.replicate k.toNat ai).flatten.toArray:=by
  have f0:∀ m:Nat,List.foldl (fun x1 x2=>x1 ++ x2) #[] (List.replicate m ai.toArray)=(List.replicate m ai).flatten.toArray:=fun m=>by
   have:=foldl_rep ai m []
   rw [List.nil_append] at this
   exact this
  rw [f0]
  cases ai with
  | nil=>simp
  | cons a r'=>rw [if_neg (by simp)]
 refine wpAny_binaryOp_repeat_ref (T:="list") (U:="int") (by decide) ⟨_,e,rfl⟩ (fun s'=>typeIs_int s' k t) noFill_list_mul F.fills_int_mul F.slot_int_rmul repeat_list F.slot_int_index.lookup
  (call_meets F.slot_int_rmul (typeIs_int s k t) F.entry_int_rmul (F.args_int_rmul_2 _ _) (int___rmul___int_list k t l ai.toArray n)
   ⟨e,rfl,⟨_,e,rfl⟩,call_meets F.slot_list_mul ⟨_,e,rfl⟩ F.entry_list_mul (F.args_list_mul_2 _ _) (AutoListH.list___mul___list_int_3 l ai.toArray n k t V4 V3 R1) ⟨e,?_⟩⟩)
 rw [V5]
 exact ⟨.ref _,_,I.R0 (t':=s.toks) (r.rep k.toNat) (by rw [len_rep,Nat.mul_comm];exact hz),rfl,q _ I.fresh⟩
end
section
variable {prog:Program} {w:World} {A:Around} {E:Value→Shared→Prop} {s:Shared}
end
section
variable {X:Cx}
end
end L2
namespace Att
open PySem PySem.W PySem.Calls PyProof.Rows
theorem vB {P:Params} {h:Heap}:∀ (ns:List Int) (vs:List Value),WellAll P h vs (ns.map WData.int)→IntsAre vs ns:=by
 intro ns
 induction ns with
 | nil =>
  intro vs w
  rw [List.map_nil] at w
  cases w
  exact .nil
 | cons n ns ih =>
  intro vs w
  rw [List.map_cons] at w
  cases w with
  | cons a b =>
   cases a
   exact .cons _ _ (ih _ b)
theorem GZ {l:OpenLaw} {n:Nat} (hn:l.most=some n) {P:Params} {h:Heap} {args:List WData} {vals:List Value}
  (LZ:l.row.toRowW.claim.pre args=true) (V6:WellAll P h vals args) :
  ∃ a vs ns,vals=[Value.ref a]∧args=[WData.list (ns.map WData.int)]∧h.get? a=some { cls:=.type "list",data:=.seq vs.toArray }∧IntsAre vs ns∧ns.length≤n:=by
 have hsh:WShape.hasAll [] args [.list .int]=true:=(pre_splitW LZ).1
 have hc:l.pre.holds [] { args:=args }=true:=(pre_splitW LZ).2
 obtain ⟨d,r,rfl,h1,h2⟩:=hasAllW_cons hsh
 obtain rfl:=hasAllW_nil h2
 obtain ⟨xs,rfl,h3⟩:=hasW_list h1
 obtain ⟨ns,rfl⟩:=items_int h3
 have hlen:ns.length≤n:=by
  unfold OpenLaw.pre at hc
  have h4:(WTm.not (.lt (.lit (.int (n:Int))) (.len (.arg 0)))).holds [] { args:=[.list (ns.map .int)] }=true:=by
   have h4:=(holds_andW hc).1
   rw [hn] at h4
   exact h4
  have h5:=condW_of h4 (w_not (w_lt w_lit (w_len_list (w_arg rfl))))
  rw [List.length_map] at h5
  refine Nat.le_of_not_lt fun q=>?_
  have q':(n:Int) < ((ns.length:Nat):Int):=by omega
  first
   | (rw [decide_eq_true q'] at h5;exact absurd h5 (by decide))
   | (simp at h5;omega)
 cases V6 with
 | cons w1 w2 =>
  cases w2
  cases w1 with
  | list ho DH=>exact ⟨_,_,ns,rfl,rfl,ho,vB ns _ DH,hlen⟩
theorem Ga (l:OpenLaw) (args:List WData):l.row.toRowW.claim.post args (.bool true) args=true :=
 postW_of (r:=l.row.toRowW) (X:=(true == true))
  (show WShape.has [] (.bool true) .bool=true by first | rfl | decide | simp [WShape.has,WShape.arms,WShape.armsAll])
  (show (WTm.eq .res (.lit (.bool true))).value [] { args:=args,res:=some (.bool true),after:=args }=some (.bool (true == true)) from w_eq_bool (w_res rfl) w_lit) rfl
theorem BM {l:OpenLaw} {n:Nat} {q:Program} {loose:List Str} {XP:(Str→Option Value)→Heap→Prop} {YP:World→Heap→Prop} {d:DefRec}
  (hn:l.most=some n) (R3:d.params.defaults=[])
  (call:∀ (w:World) (s₀ s₁:Shared) (mg mb:Str→Option Value) (fa:Addr) (o:Obj) (pm cd doc:Value) (a:Addr) (vs:List Value) (ns:List Int),
   Ground q loose [] XP w s₀ mg mb s₁.heap→YP w s₁.heap →
   s₁.heap.get? fa=some o→o.data=.func (docDef d.name d.params d.body d.scope pm cd doc)→s₁.heap.CodeRec cd d.name→mg d.name=some (.ref fa) →
   s₁.heap.get? a=some { cls:=.type "list",data:=.seq vs.toArray }→IntsAre vs ns→ns.length≤n→s₁.gens=#[] →
   codeAny (model l.prog w) callerA (.call (.ref fa) ⟨[.ref a],[]⟩) (fun r s'=>r=.ok (.ret (.bool true))∧OldK s₁.heap s'.heap∧s'.os=s₁.os∧AllBare s'.gens) s₁) :
  WalkO q loose XP YP l.row.toRowW d [] (fun f vs=>PySem.call f vs):=by
 intro w s₀ s₁ mg mb G Y fa o pm cd doc dV kV ho hd yn hD Ow hg args vals as LZ aAr V7 V6 hlo
 obtain rfl:dV=.none:=Dflts.none hD R3
 obtain rfl:kV=.none:=Dflts.noKw hD
 obtain ⟨a,vs,ns,rfl,rfl,Ox,hints,hlen⟩:=GZ hn LZ V6
 refine enter_call (codeAny_mono (call w s₀ s₁ mg mb fa o pm cd doc a vs ns G Y ho (fd_plain hd) yn Ow Ox hints hlen hg) fun r s' hq=>?_)
 obtain ⟨rfl,h2,h3,h4⟩:=hq
 exact ⟨.inl ⟨.bool true,.bool true,[],rfl,fun _=>rfl,.bool true,Ga l _,fun _=>⟨List.Pairwise.nil,fun _ hm=>(nomatch hm)⟩⟩,h2,h3,h4⟩
section
variable {prog:Program} {w:World} {A:Around} {E:Value→Shared→Prop} {s:Shared} {K:Frag}
end
end Att
namespace L2
open PySem PySem.Spec PyProof.Rows
theorem yx:∀ {vs:List Value} {ns:List Int},IntsAre vs ns→au (ns.map V.int) vs
 | _,_,.nil=>.nil
 | _,_,.cons n t h=>.cons ⟨t,rfl⟩ (yx h)
def Oy (H:Hp):Prop:=∀ b,H b=none∨∃ o xs,H b=some (.Cy o (.lst xs))
theorem JA {P:Program} {w:World} {K:PySem.W.Frag} {mg mb:Str→Option Value} {CX:BI} {k:Nat} {fa a:Addr} {fd:FuncData} {x:Str} {sp:Sp} {s₁:Shared} {vs:List Value} {ns:List Int}
  (KX:K.In s₁.heap) (R4:s₁.heap.Ns mainGlobals mg) (hb:s₁.heap.Ns builtinsNs mb) (hbb:∀ x:Str,x≠"__name__"→mb x=bootBuiltins x) (V8:s₁.heap.NoLimit) (hg:s₁.gens=#[])
  (ha:s₁.heap.get? a=some { cls:=.type "list",data:=.seq vs.toArray }) (hi:IntsAre vs ns) (hl:ns.length≤sizeLine) (hr:dr k callerA)
  (F:∀ base:Heap,K.In base→base.Ns mainGlobals mg→bZ P w K mg base CX k fa fd [x] sp) (R5:∀ (s:Shared) (u:Value),BindsTo s fd ⟨[u],[]⟩ [(x,u)])
  (FL:∀ H:Hp,Oy H→aX K H a (ns.map V.int)→sp [.ref a] H (fun v _=>v=.bl true) fun _ _ _=>False)
  (V9:∀ H e s',CX [] H s₁ (fun _ _ _=>False) e s'→False) :
  codeAny (model P w) callerA (.call (.ref fa) ⟨[.ref a],[]⟩) (fun r s'=>r=.ok (.ret (.bool true))∧OldK s₁.heap s'.heap∧s'.os=s₁.os∧AllBare s'.gens) s₁:=by
 have rv:=yx hi
 have WA:=hi.length
 have core:∀ H:Hp,Oy H→aX K H a (ns.map V.int)→pw P w H s₁.heap→(∀ b,H b≠none→b=a)→(H a≠none→K.lookup a=none) →
   codeAny (model P w) callerA (.call (.ref fa) ⟨[.ref a],[]⟩) (fun r s'=>r=.ok (.ret (.bool true))∧OldK s₁.heap s'.heap∧s'.os=s₁.os∧AllBare s'.gens) s₁:=by
  intro H hO hS bw hA hK
  have FQ:∀ {b:Addr} {o:Obj},s₁.heap.get? b=some o→H b=none→(zZ s₁.heap H).get? b=some o:=fun e n=>IW e n
  have Rq:∀ {b:Addr} {o:Obj} {es:Array DictEntry} {ep:Nat},s₁.heap.get? b=some o→o.data=.dict es ep→H b=none:=fun {b o es ep} e d=>by
   cases q:H b with
   | none=>rfl
   | some u =>
    have e':b=a:=hA b (by rw [q];simp)
    subst e'
    rw [ha] at e;cases e
    have d':Data.seq vs.toArray _=Data.dict es ep:=d
    cases d'
  have Uu:∀ {b:Addr} {m:Str→Option Value},s₁.heap.Ns b m→(zZ s₁.heap H).Ns b m:=fun {b m} ⟨o,es,ep,e,d,r⟩=>⟨o,es,ep,FQ e (Rq e d),d,r⟩
  have Ye:K.In (zZ s₁.heap H):=fun b o e=>FQ (KX b o e) (by
   cases q:H b with
   | none=>rfl
   | some u =>
    have e':b=a:=hA b (by rw [q];simp)
    subst e'
    rw [hK (by rw [q];simp)] at e;cases e)
  have hM:Mod K mg (zZ s₁.heap H):=⟨Ye,Uu R4,⟨mb,Uu hb,hbb⟩,let ⟨mc,h1,h2⟩:=V8;⟨mc,Uu h1,h2⟩⟩
  have e0:xj P w K mg (zZ s₁.heap H) callerA [] s₁ H:=⟨rfl,hM,fun b o e=>LJ e,Nat.le_of_eq (GK _ _),trivial,fun b hb=>absurd (show b ∈ ([]:List Addr) from hb) (by simp),bw,.of_eq hg⟩
  refine codeAny_mono ((F _ Ye (Uu R4)).run callerA [] s₁ H ⟨[.ref a],[]⟩ [.ref a] [.ref a] _ _ hr e0 (R5 s₁ (.ref a)) (.cons rfl .nil) (FL H hO hS)) fun r s' h=>?_
  cases r with
  | error e=>exact (V9 H e s' h).elim
  | ok fl =>
   cases fl with
   | next=>exact False.elim h
   | brk=>exact False.elim h
   | cont=>exact False.elim h
   | ret u =>
    obtain ⟨v,H',os,bare,un,WB,r',q⟩:=h
    have q':v=.bl true:=q
    subst q'
    obtain rfl:u=Value.bool true:=r'
    refine ⟨rfl,OldK.of_keep fun b o e=>?_,os,bare⟩
    cases q:H b with
    | none=>exact un.keep b o e q (by intro z;exact absurd (show b ∈ ([]:List Addr) from z) (by simp)) (by simp)
    | some u =>
     rcases hO b with z | ⟨ob,xs,z⟩
     ·rw [q] at z;cases z
     ·have z2:=un.nR b ob _ z
      obtain ⟨e1,_⟩:=bw b _ z
      obtain ⟨e2,_⟩:=WB b _ z2
      rw [e] at e1;cases e1
      exact e2
 cases hk:K.lookup a with
 | some o =>
  have e:=KX a o hk
  rw [ha] at e
  cases e
  refine core (fun _=>none) (fun _=>.inl rfl) (.inr ⟨_,vs.toArray,_,hk,rfl,rfl,rfl,by rw [List.size_toArray,WA];exact hl,by simpa using rv⟩) (fun b u z=>by have z':(none:Option HO)=some u:=z;cases z') (fun b z=>absurd rfl z) fun z=>absurd rfl z
 | none =>
  refine core (fun b=>if b=a then some (.Cy { cls:=.type "list",data:=.seq vs.toArray } (.lst (ns.map V.int))) else none) (fun b=>?_) (.inl (.inr ⟨{ cls:=.type "list",data:=.seq vs.toArray },if_pos rfl⟩)) (fun b u z=>?_) (fun b z=>?_) fun _=>hk
  ·by_cases hb:b=a
   ·exact .inr ⟨_,_,if_pos hb⟩
   ·exact .inl (if_neg hb)
  ·by_cases hb:b=a
   ·have z':=(if_pos hb).symm.trans z
    cases z'
    subst hb
    exact ⟨ha,by rw [List.length_map];exact hl,vs,_,rv,ha⟩
   ·have z':=(if_neg hb).symm.trans z
    cases z'
  ·by_cases hb:b=a
   ·exact hb
   ·exact absurd (if_neg hb) z
end L2
namespace L2
open PySem PySem.Spec PyProof.Rows
abbrev cj {K:PySem.W.Frag} {h:Heap} (_:K.In h):PySem.W.Frag:=K
theorem La {l:PySem.W.OpenLaw} {n k:Nat} {q:Program} {loose:List Str} {XP:(Str→Option Value)→Heap→Prop} {YP:World→Heap→Prop} {d:DefRec} {K:Params→PySem.W.Frag} {CX:World→BI} {sp:World→Sp} {x:Str}
  (hn:l.most=some n) (Rl:n≤sizeLine) (R3:d.params.defaults=[]) (hr:dr k callerA)
  (hY:∀ (w:World) (h:Heap),YP w h→(K w.params).In h)
  (F:∀ (w:World) (mg:Str→Option Value) (fa:Addr) (h:Heap),(K w.params).In h→h.Ns mainGlobals mg→mg d.name=some (.ref fa) →
   ∃ fd:FuncData,(∀ (s:Shared) (u:Value),BindsTo s fd ⟨[u],[]⟩ [(x,u)]) ∧
    ∀ base:Heap,(K w.params).In base→base.Ns mainGlobals mg→bZ l.prog w (K w.params) mg base (CX w) k fa fd [x] (sp w))
  (FL:∀ (w:World) (H:Hp) (a:Addr) (ns:List Int),ns.length≤n→Oy H→aX (K w.params) H a (ns.map V.int)→sp w [.ref a] H (fun v _=>v=.bl true) fun _ _ _=>False)
  (V9:∀ (w:World) (H:Hp) (s:Shared) (e:Value) (s':Shared),CX w [] H s (fun _ _ _=>False) e s'→False) :
  PySem.W.WalkO q loose XP YP l.row.toRowW d [] (fun f vs=>PySem.call f vs):=by
 refine Att.BM hn R3 fun w s₀ s₁ mg mb fa o pm cd doc a vs ns G Y ho hd yn Ow Ox hints hlen hg=>?_
 have KX:=hY w _ Y
 obtain ⟨fd,hb,hF⟩:=F w mg fa _ KX G.T.g Ow
 exact JA KX G.T.g G.T.b G.T.builtins G.T.nolimit hg Ox hints (Nat.le_trans hlen Rl) hr hF hb (fun H hO hS=>FL w H a ns hlen hO hS) fun H e s'=>V9 w H s₁ e s'
end L2
namespace L2
open PySem PySem.Spec PyProof.Rows
def bT (s:Stmt):Arguments:=match s with
 | .FunctionDef _ a _ _ _ _ _ _ _ _=>a
 | _=>{ posonlyargs:=[],args:=[],vararg:=none,kwonlyargs:=[],kw_defaults:=[],kwarg:=none,defaults:=[] }
def bG (s:Stmt):List Stmt:=match s with
 | .FunctionDef _ _ b _ _ _ _ _ _ _=>b
 | _=>[]
def aH (s:Stmt):Scope:=match s with
 | .FunctionDef _ _ _ _ _ _ sc _ _ _=>sc
 | _=>{ kind:=.function,names:=[],isGenerator:=false,isCoroutine:=false }
abbrev Yf:BI:=fun _ _ _ _ _ _=>False
abbrev E0:XK:=fun _ _ _=>False
structure kL (K:PySem.W.Frag) (x qual:Str) (st:Stmt) (f:Addr) (fd:FuncData):Prop where
 ex:∃ (oc:Value) (od:Option Addr) (kV doc pm:Value) (an:Option Addr) (bo ct:Value) (FK:Array (Option Value)),
  fd=PySem.W.fnOf x qual (bT st) (bG st) (aH st) .none kV doc pm an bo ct∧K.lookup f=some ⟨oc,od,.func fd,FK⟩∧PySem.W.codeIn K bo qual=true
 kp:PySem.W.keepIn K (.ref f)=true
section
variable {P:Program} {w:World} {K:PySem.W.Frag} {mg:Str→Option Value} {base:Heap}
theorem kL.ok {x qual:Str} {st:Stmt} {f:Addr} {fd:FuncData} {N ps:List Str} {k:Nat} {sp:Sp} (F:kL K x qual st f fd) (S:aQ N ps (aH st)) (len:∀ vs H Q E,sp vs H Q E→vs.length=ps.length)
  (rS:∀ (bo:Value) (A:Around) (outer:List Env) (s:Shared) (H:Hp) (vs:List V) (Q:VK) (E:XK),dr k (A.deeper (envOfC qual (aH st) s.heap.objs.size f bo))→sp vs H Q E →
   ∃ t,Cz (DE Yf P w K mg base N qual (aH st) f bo A outer s H E).uX (bG st) t∧t { nx:=fun _ H'=>Q .bN H',rt:=Q } (start N vs) H):bZ P w K mg base Yf (k+1) f fd ps sp:=by
 obtain ⟨oc,od,kV,doc,pm,an,bo,ct,FK,rfl,lk,yn⟩:=F.ex
 refine FJ lk yn S len fun A outer s H vs Q E hr FL=>?_
 obtain ⟨t,h,q⟩:=rS bo A outer s H vs Q E hr FL
 exact ⟨t,h.uX,q⟩
theorem kL.binds {x qual:Str} {st:Stmt} {f:Addr} {fd:FuncData} {ps:List Str} (F:kL K x qual st f fd)
  (h:∀ (kV doc pm:Value) (an:Option Addr) (bo ct:Value) (us:List Value),us.length=ps.length→bindArgs (PySem.W.fnOf x qual (bT st) (bG st) (aH st) .none kV doc pm an bo ct) ⟨us,[]⟩=pure (ps.zip us)):Binds K fd ps []:=by
 obtain ⟨oc,od,kV,doc,pm,an,bo,ct,FK,rfl,lk,yn⟩:=F.ex
 exact .all (h kV doc pm an bo ct)
theorem eM {x qual:Str} {st:Stmt} {f:Addr} {oc:Value} {od an:Option Addr} {FK:Array (Option Value)} {kV doc pm bo ct:Value} (l:K.lookup f=some ⟨oc,od,.func (PySem.W.fnOf x qual (bT st) (bG st) (aH st) .none kV doc pm an bo ct),FK⟩)
  (c:PySem.W.codeIn K bo qual=true) (k:PySem.W.keepIn K (.ref f)=true):kL K x qual st f (PySem.W.fnOf x qual (bT st) (bG st) (aH st) .none kV doc pm an bo ct):=⟨⟨oc,od,kV,doc,pm,an,bo,ct,FK,rfl,l,c⟩,k⟩
end
theorem nj {A:Around} {k:Nat} (hr:dr k A):A.units+1 < cLine:=Nat.lt_of_le_of_lt (Nat.add_le_add_left (by decide:1≤64) _) hr.units
section
variable {X:Cx}
theorem pv (i:Nat) {x:Str} {pos:Pos} (hN:X.N[i]?=some x:=by rfl) (hv:Up X.env.scope x:=by first | exact Or.inl rfl | exact Or.inr (Or.inl rfl) | exact Or.inr (Or.inr rfl)) (hd:(x == ("__debug__":Str))=false:=by decide)
  (yn:(x == ("__classdict__":Str))=false:=by decide):PE X (.Name x pos) (qL i):=OQ hN hv hd yn
end
theorem dh {A B:Prop} (h:B):if false=true then A else B:=by
 rw [if_neg Bool.false_ne_true]
 exact h
theorem fc {A B:Prop} (h:A):if true=true then A else B:=by
 rw [if_pos rfl]
 exact h
theorem Oz {c A B:Prop} [Decidable c] (h1:c→A) (h2:¬ c→B):if c then A else B:=by
 by_cases h:c
 ·rw [if_pos h]
  exact h1 h
 ·rw [if_neg h]
  exact h2 h
def aI (H H':Hp):Prop:=∀ b o,H b=some o→H' b=some o
theorem aI.refl (H:Hp):aI H H:=fun _ _ h=>h
theorem aI.trans {H H1 H2:Hp} (a:aI H H1) (b:aI H1 H2):aI H H2:=fun c o h=>b c o (a c o h)
theorem aI.free {H H':Hp} (e:aI H H') {l:Addr} (h:H' l=Option.none):H l=Option.none:=by
 cases q:H l with
 | none=>rfl
 | some o =>
  rw [e l o q] at h
  cases h
theorem aI.seq {K:PySem.W.Frag} {H H':Hp} {a:Addr} {xs:List V} (e:aI H H') (h:aX K H a xs):aX K H' a xs:=by
 rcases h with (h | ⟨o,h⟩) | h
 ·exact .inl (.inl (e _ _ h))
 ·exact .inl (.inr ⟨o,e _ _ h⟩)
 ·exact .inr h
end L2
namespace L2
open PySem PySem.Spec PyProof.Rows
def cb (env:Env):List (Str × NameKind)→List (Str × Addr)→List (Str × Addr)
 | [],acc=>acc
 | (n,k) :: r,acc=>if k == .free then cb env r ((n,(env.cells.lookup n).getD 0) :: acc) else cb env r acc
theorem qM {env:Env}:∀ (names:List (Str × NameKind)) (acc:List (Str × Addr)) (f:Str × NameKind→List (Str × Addr)→Sem (ForInStep (List (Str × Addr)))),
  (∀ n k cs,f (n,k) cs=if k == .free then (do let c ← cellOf env n;pure (.yield ((n,c) :: cs))) else pure (.yield cs)) →
  (∀ x ∈ names,x.2=.free→∃ c,env.cells.lookup x.1=some c)→(forIn names acc f:Sem _)=pure (cb env names acc)
 | [],acc,f,_,_=>rfl
 | (n,k) :: r,acc,f,hf,h=>by
  rw [List.forIn_cons,hf]
  unfold cb
  by_cases hk:(k == .free)=true
  ·rw [if_pos hk,if_pos hk]
   obtain ⟨c,e⟩:=h (n,k) List.mem_cons_self (beq_iff_eq.mp hk)
   have e':env.cells.lookup n=some c:=e
   unfold cellOf
   rw [e']
   show (forIn r ((n,c) :: acc) f:Sem _)=_
   exact qM r _ f hf fun x hx=>h x (List.mem_cons_of_mem _ hx)
  ·rw [if_neg hk,if_neg hk]
   show (forIn r acc f:Sem _)=_
   exact qM r _ f hf fun x hx=>h x (List.mem_cons_of_mem _ hx)
theorem vm {env:Env} {scope:Scope} (h:∀ x ∈ scope.names,x.2=.free→∃ c,env.cells.lookup x.1=some c):closureFor scope env=pure (cb env scope.names []):=by
 unfold closureFor
 have e:=qM scope.names [] (fun x cs=>if x.2 == .free then (do let c ← cellOf env x.1;pure (.yield ((x.1,c) :: cs))) else pure (.yield cs)) (fun _ _ _=>rfl) h
 show (forIn scope.names [] _ >>= fun cs=>pure cs)=_
 exact (rV e)
where
 rV {α:Type} {a:α} {t:Sem α} (e:t=pure a):(t >>= fun x=>pure x)=pure a:=by rw [e];rfl
theorem c9 {env:Env} {x:Str} {c:Addr}:∀ (names:List (Str × NameKind)) (acc:List (Str × Addr)),(∀ y ∈ names,y.2=.free→∃ c,env.cells.lookup y.1=some c) →
  (∀ c,acc.lookup x=some c→env.cells.lookup x=some c)→(cb env names acc).lookup x=some c→env.cells.lookup x=some c
 | [],acc,_,ha,h=>ha c h
 | (n,k) :: r,acc,hn,ha,h=>by
  unfold cb at h
  have hr:∀ y ∈ r,y.2=.free→∃ c,env.cells.lookup y.1=some c:=fun y hy=>hn y (List.mem_cons_of_mem _ hy)
  by_cases hk:(k == .free)=true
  ·rw [if_pos hk] at h
   obtain ⟨c',e⟩:=hn (n,k) List.mem_cons_self (beq_iff_eq.mp hk)
   have e':env.cells.lookup n=some c':=e
   rw [e'] at h
   refine c9 r _ hr (fun c2 q=>?_) h
   rw [List.lookup_cons] at q
   cases hb:x == n with
   | true=>rw [hb] at q;cases q;rw [beq_iff_eq.mp hb];exact e'
   | false=>rw [hb] at q;exact ha c2 q
  ·rw [if_neg hk] at h
   exact c9 r _ hr ha h
theorem l8 {env:Env} {x:Str}:∀ (names:List (Str × NameKind)) (acc:List (Str × Addr)),((x,NameKind.free) ∈ names∨∃ c,acc.lookup x=some c)→∃ c,(cb env names acc).lookup x=some c
 | [],acc,h=>h.elim (fun z=>by cases z) id
 | (n,k) :: r,acc,h=>by
  unfold cb
  by_cases hk:(k == .free)=true
  ·rw [if_pos hk]
   refine l8 r _ ?_
   cases hb:x == n with
   | true=>exact .inr ⟨_,by rw [List.lookup_cons,hb]⟩
   | false =>
    rcases h with h | ⟨c,h⟩
    ·rcases List.mem_cons.mp h with e | e
     ·injection e with e1 _
      rw [e1] at hb;simp at hb
     ·exact .inl e
    ·exact .inr ⟨c,by rw [List.lookup_cons,hb];exact h⟩
  ·rw [if_neg hk]
   refine l8 r _ ?_
   rcases h with h | h
   ·rcases List.mem_cons.mp h with e | e
    ·injection e with _ e2
     rw [← e2] at hk;exact absurd rfl hk
    ·exact .inl e
   ·exact .inr h
theorem qN {x:Str} {c:Addr}:∀ (names:List (Str × NameKind)) (n:Nat) (acc:List (Str × Addr)),(cellsFrom n names acc).lookup x=some c→acc.lookup x=some c∨(n≤c∧(x,NameKind.cell) ∈ names)
 | [],_,_,h=>.inl h
 | (y,k) :: r,n,acc,h=>by
  unfold cellsFrom at h
  by_cases hk:(k == .cell)=true
  ·rw [if_pos hk] at h
   rcases qN r _ _ h with q | ⟨q1,q2⟩
   ·rw [List.lookup_cons] at q
    cases hb:x == y with
    | true=>rw [hb] at q;cases q;exact .inr ⟨Nat.le_refl _,by rw [beq_iff_eq.mp hb,beq_iff_eq.mp hk];exact List.mem_cons_self⟩
    | false=>rw [hb] at q;exact .inl q
   ·exact .inr ⟨by omega,List.mem_cons_of_mem _ q2⟩
  ·rw [if_neg hk] at h
   rcases qN r _ _ h with q | ⟨q1,q2⟩
   ·exact .inl q
   ·exact .inr ⟨q1,List.mem_cons_of_mem _ q2⟩
theorem pP {x:Str} {lo:Nat}:∀ (names:List (Str × NameKind)) (n:Nat) (acc:List (Str × Addr)),lo≤n→((x,NameKind.cell) ∈ names∨∃ c,acc.lookup x=some c∧lo≤c)→∃ c,(cellsFrom n names acc).lookup x=some c∧lo≤c
 | [],_,_,_,h=>h.elim (fun z=>by cases z) id
 | (y,k) :: r,n,acc,hn,h=>by
  unfold cellsFrom
  by_cases hk:(k == .cell)=true
  ·rw [if_pos hk]
   refine pP r _ _ (by omega) ?_
   cases hb:x == y with
   | true=>exact .inr ⟨n,by rw [List.lookup_cons,hb],hn⟩
   | false =>
    rcases h with h | ⟨c,h,hc⟩
    ·rcases List.mem_cons.mp h with e | e
     ·injection e with e1 _
      rw [e1] at hb;simp at hb
     ·exact .inl e
    ·exact .inr ⟨c,by rw [List.lookup_cons,hb];exact h,hc⟩
  ·rw [if_neg hk]
   refine pP r _ _ hn ?_
   rcases h with h | h
   ·rcases List.mem_cons.mp h with e | e
    ·injection e with _ e2
     rw [← e2] at hk;exact absurd rfl hk
    ·exact .inl e
   ·exact .inr h
theorem l9 {x:Str}:∀ (names:List (Str × NameKind)) (n:Nat) (acc:List (Str × Addr)),(x,NameKind.cell) ∉ names→(cellsFrom n names acc).lookup x=acc.lookup x
 | [],_,_,_=>rfl
 | (y,k) :: r,n,acc,h=>by
  unfold cellsFrom
  have hr:(x,NameKind.cell) ∉ r:=fun z=>h (List.mem_cons_of_mem _ z)
  by_cases hk:(k == .cell)=true
  ·rw [if_pos hk,l9 r _ _ hr,List.lookup_cons]
   cases hb:x == y with
   | true=>exact absurd (by rw [beq_iff_eq.mp hb,beq_iff_eq.mp hk];exact List.mem_cons_self) h
   | false=>rfl
  ·rw [if_neg hk];exact l9 r _ _ hr
theorem tG:∀ (names:List (Str × NameKind)) (n:Nat) (acc:List (Str × Addr)),(∀ x c,acc.lookup x=some c→c < n)→(∀ x y c,acc.lookup x=some c→acc.lookup y=some c→x=y) →
  ∀ x y c,(cellsFrom n names acc).lookup x=some c→(cellsFrom n names acc).lookup y=some c→x=y
 | [],_,_,_,h=>h
 | (z,k) :: r,n,acc,fE,h=>by
  unfold cellsFrom
  by_cases hk:(k == .cell)=true
  ·rw [if_pos hk]
   refine tG r (n+1) _ (fun x c e=>?_) fun x y c e1 e2=>?_
   ·rw [List.lookup_cons] at e
    cases hb:x == z with
    | true=>rw [hb] at e;cases e;exact Nat.lt_succ_self _
    | false=>rw [hb] at e;exact Nat.lt_succ_of_lt (fE x c e)
   ·rw [List.lookup_cons] at e1 e2
    cases hb:x == z with
    | true =>
     rw [hb] at e1;cases e1
     cases C0:y == z with
     | true=>rw [beq_iff_eq.mp hb,beq_iff_eq.mp C0]
     | false=>rw [C0] at e2;exact absurd (fE y _ e2) (Nat.lt_irrefl _)
    | false =>
     rw [hb] at e1
     cases C0:y == z with
     | true=>rw [C0] at e2;cases e2;exact absurd (fE x _ e1) (Nat.lt_irrefl _)
     | false=>rw [C0] at e2;exact h x y c e1 e2
  ·rw [if_neg hk];exact tG r n _ fE h
theorem kM {x:Str} {c:Addr}:∀ (names:List (Str × NameKind)) (h:Heap) (acc:List (Str × Addr)),(∀ y c,acc.lookup y=some c→∃ v,h.IsCell c v) →
  (cellsFrom h.objs.size names acc).lookup x=some c→∃ v,(pushCells h names).IsCell c v
 | [],h,acc,ha,e=>ha x c e
 | (y,k) :: r,h,acc,ha,e=>by
  unfold cellsFrom at e
  unfold pushCells
  by_cases hk:(k == .cell)=true
  ·rw [if_pos hk] at e ⊢
   rw [show h.objs.size+1=(h.push { cls:=.type "cell",data:=.cell none }).objs.size from (Heap.size_push ..).symm] at e
   refine kM r _ _ (fun z c' q=>?_) e
   rw [List.lookup_cons] at q
   cases hb:z == y with
   | true=>rw [hb] at q;cases q;exact ⟨none,_,Heap.get?_push_size _ rfl,rfl⟩
   | false =>
    rw [hb] at q
    obtain ⟨v,w⟩:=ha z c' q
    exact ⟨v,w.keeps fun b o e=>Heap.get?_push_of_some _ e⟩
  ·rw [if_neg hk] at e ⊢
   exact kM r _ _ ha e
section
variable {M:Model} {A:Around} {E:Value→Shared→Prop} {s:Shared}
theorem BN {scope:Scope} {globals:Addr} {cl:List (Str × Addr)} {qual:Str} {env:Env} {Q:Env→Shared→Prop}
  (h:Q { scope,locals:=s.heap.objs.size,globals,cells:=cellsFrom (s.heap.objs.size+1) scope.names cl,qual,func:=none,code:=env.code,frame:=env.frame,builtins:=env.builtins }
   { s with heap:=pushCells (s.heap.push { cls:=.type "dict",data:=.dict #[] }) scope.names }) :
  wpAny M A (newFunctionEnv scope globals cl [] qual none .none (some env)) Q E s:=by
 simp only [newFunctionEnv,Option.isSome_some,if_true]
 refine wpAny_bind (wpAny_alloc ?_)
 refine wpAny_bind (wpAny_layCells _ (fun name kind cells=>by cases hkc:kind == NameKind.cell <;> simp [hkc]) _ _ _ _ ?_)
 rw [show ({ s with heap:=s.heap.push { cls:=.type "dict",data:=.dict #[] } }:Shared).heap.objs.size=s.heap.objs.size+1 from Heap.size_push ..]
 refine wpAny_bind ?_
 rw [List.forIn_nil]
 exact wpAny_pure (wpAny_pure h)
end
section
variable {prog:Program} {w:World} {A:Around} {R:Result→Shared→Prop} {s:Shared}
theorem zz {elt target iter:Expr} {ifs:List Expr} {scope:Scope} {pos:Pos} {it acc:Value} {env:Env} (I:Nat→Shared→Prop)
  (turn:∀ n s,I n s→wpAny (model prog w) A (pyNext it) (fun r s₁=>match r with
   | none=>R (.ok .next) s₁
   | some v=>wpAny (model prog w) A (letOwnedTupleGo target it v) (fun _ s₁'=>wpAny (model prog w) A (assign target env v) (fun _ s₂ =>
     wpAny (model prog w) A (forIn ifs true fun c r=>if r=true then do let ok ← isTrue c env (eval c env);pure (ForInStep.yield ok) else pure (ForInStep.yield r)) (fun ok s₃ =>
      if ok=true then wpAny (model prog w) A (eval elt env) (fun x s₄ =>
       wpAny (model prog w) A (call (.builtin "list.append") [acc,x]) (fun _ s₅=>∃ m,m < n∧I m s₅) (fun _ _=>False) s₄) (fun _ _=>False) s₃
      else ∃ m,m < n∧I m s₃) (fun _ _=>False) s₂) (fun _ _=>False) s₁') (fun _ _=>False) s₁) (fun _ _=>False) s)
  (n:Nat) (h:I n s) :
  codeAny (model prog w) A (.compLoop (.ListComp elt [⟨target,iter,ifs,0⟩] scope pos) 0 it acc env) R s:=by
 refine codeAny_loop rfl I (fun n s hI=>?_) n h
 show wpAny _ A ((compTurn (.ListComp elt [⟨target,iter,ifs,0⟩] scope pos) 0 it acc env).onRaise (fun x=>do noteFrame x env;theTreesLotGoes x)) _ _ s
 refine wpAny_noted ?_
 rw [compTurn_list]
 refine wpAny_bind (wpAny_standAt (wpAny_bind (wpAny_mono (turn n s hI) (fun r s₁ h₁=>?_) fun _ _ h'=>h'.elim)))
 cases r with
 | none=>exact wpAny_pure h₁
 | some v =>
  refine wpAny_bind (wpAny_mono h₁ (fun _ s₁' h₁'=>?_) fun _ _ h'=>h'.elim)
  refine wpAny_bind (wpAny_mono h₁' (fun _ s₂ h₂=>wpAny_bind (wpAny_mono h₂ (fun ok s₃ h₃=>?_) fun _ _ h'=>h'.elim)) fun _ _ h'=>h'.elim)
  cases ok with
  | false=>exact wpAny_pure ⟨rfl,h₃⟩
  | true =>
   exact wpAny_bind (wpAny_bind (wpAny_mono h₃ (fun x s₄ h₄=>wpAny_bind (wpAny_mono h₄ (fun _ s₅ h₅=>wpAny_pure (wpAny_pure ⟨rfl,h₅⟩)) fun _ _ h'=>h'.elim)) fun _ _ h'=>h'.elim))
end
end L2
namespace L2
open PySem PySem.Spec PyProof.Rows
def z4 (X:Cx) (Nc:List Str) (scope:Scope) (C:Addr) (fp:List Addr) (s:Shared) (H:Hp):Cx where
 prog:=X.prog
 w:=X.w
 K:=X.K
 mg:=X.mg
 base:=X.base
 A:=X.A
 N:=Nc
 s₀:=s
 H₀:=H
 env:=compEnvC scope (cellsFrom (C+1) scope.names (cb X.env scope.names [])) C X.env
 outer:=X.stack
 stack:=X.stack
 ex:=fp
 fn:=fun x=>scope.names.contains (x,NameKind.cell)
 calm:=X.calm
 pn:=[]
 xe:=fun _ _=>False
structure fU (X:Cx) (Nc:List Str) (ix:List (Option Nat)) (scope:Scope):Prop where
 kind:scope.kind=.function
 nd:Nc.Nodup
 len:ix.length=Nc.length
 loc:∀ x ∈ scope.names,x.2=.local→scope.names.lookup x.1=some .local
 free:∀ x ∈ scope.names,x.2=.free→X.env.kindOf x.1=some .cell∨X.env.kindOf x.1=some .free
 once:∀ x,(x,NameKind.free) ∈ scope.names→(x,NameKind.cell) ∉ scope.names
 out:∀ (i j:Nat) (x:Str),ix[i]?=some (some j)→Nc[i]?=some x→X.N[j]?=some x∧scope.names.lookup x=some .free
def vn (ix:List (Option Nat)) (σ:St):St:=ix.map fun o=>o.bind fun j=>(σ[j]?).bind id
theorem mB {env:Env} {x:Str}:∀ {names:List (Str × NameKind)} {k:NameKind},names.lookup x=some k →
  (names.map fun (n,k)=>if (k == NameKind.free && env.scope.kind == .function && env.kindOf n == some .cell) then (n,NameKind.cell) else (n,k)).lookup x =
   some (if (k == NameKind.free && env.scope.kind == .function && env.kindOf x == some .cell) then NameKind.cell else k)
 | [],_,h=>by simp at h
 | (n,k') :: r,k,h=>by
  show List.lookup x ((if (k' == NameKind.free && env.scope.kind == .function && env.kindOf n == some .cell)=true then (n,NameKind.cell) else (n,k')) :: _)=_
  cases hx:x == n with
  | true =>
   simp only [List.lookup_cons,hx] at h
   cases h
   have e:=beq_iff_eq.mp hx
   subst e
   split <;> simp [List.lookup_cons]
  | false =>
   simp only [List.lookup_cons,hx] at h
   have ih:=mB (env:=env) (names:=r) h
   split <;> (simp only [List.lookup_cons,hx];exact ih)
theorem rW {env:Env} {x:Str}:∀ {names:List (Str × NameKind)},names.lookup x=none →
  (names.map fun (n,k)=>if (k == NameKind.free && env.scope.kind == .function && env.kindOf n == some .cell) then (n,NameKind.cell) else (n,k)).lookup x=none
 | [],_=>rfl
 | (n,k') :: r,h=>by
  show List.lookup x ((if (k' == NameKind.free && env.scope.kind == .function && env.kindOf n == some .cell)=true then (n,NameKind.cell) else (n,k')) :: _)=_
  cases hx:x == n with
  | true=>simp only [List.lookup_cons,hx] at h;cases h
  | false =>
   simp only [List.lookup_cons,hx] at h
   have ih:=rW (env:=env) (names:=r) h
   split <;> (simp only [List.lookup_cons,hx];exact ih)
section
variable {X:Cx} {pins:List (Addr × Obj)} {σ:St} {H:Hp} {s:Shared} {Nc:List Str} {ix:List (Option Nat)} {scope:Scope} {fp:List Addr}
theorem fU.cells (S:fU X Nc ix scope) (I:Inv X pins σ H s):∀ x ∈ scope.names,x.2=.free→∃ c,X.env.cells.lookup x.1=some c:=fun x hx hf=>I.ok.has x.1 (S.free x hx hf)
theorem yy (S:fU X Nc ix scope) (I:Inv X pins σ H s) {C:Addr} {x:Str} {c:Addr} (e:(cellsFrom (C+1) scope.names (cb X.env scope.names [])).lookup x=some c) :
  X.env.cells.lookup x=some c∨(C+1≤c∧(x,NameKind.cell) ∈ scope.names):=by
 rcases qN _ _ _ e with q | q
 ·exact .inl (c9 _ _ (S.cells I) (fun _ z=>by simp at z) q)
 ·exact .inr q
theorem JB (S:fU X Nc ix scope) (I:Inv X pins σ H s) (R6:∀ b ∈ fp,sy X pins H b) (ho:∀ b ∈ fp,∃ o,s.heap.get? b=some o) {t':Nat} :
  Inv (z4 X Nc scope (s.heap.objs.size+1) fp s H) [] (vn ix σ) (upd H s.heap.objs.size (.lst []))
   { s with heap:=pushCells ((s.heap.push { cls:=.type "list",dict:=none,data:=.seq ([]:List Value).toArray }).push { cls:=.type "dict",data:=.dict #[] }) scope.names,toks:=t' }:=by
 have keep:∀ b o,s.heap.get? b=some o→(pushCells ((s.heap.push { cls:=.type "list",dict:=none,data:=.seq ([]:List Value).toArray }).push { cls:=.type "dict",data:=.dict #[] }) scope.names).get? b=some o :=
  fun b o e=>pushCells_keeps _ _ b o (Heap.get?_push_of_some _ (Heap.get?_push_of_some _ e))
 have hD:(pushCells ((s.heap.push { cls:=.type "list",dict:=none,data:=.seq ([]:List Value).toArray }).push { cls:=.type "dict",data:=.dict #[] }) scope.names).get? s.heap.objs.size =
   some { cls:=.type "list",dict:=none,data:=.seq ([]:List Value).toArray }:=pushCells_keeps _ _ _ _ (Heap.get?_push_of_some _ (Heap.get?_push_size _ rfl))
 have hsz:(s.heap.push { cls:=.type "list",dict:=none,data:=.seq ([]:List Value).toArray }).objs.size=s.heap.objs.size+1:=Heap.size_push ..
 have fresh:∀ a:Addr,s.heap.objs.size≤a→H a=none:=fun a h=>I.bw.fresh h
 have K1:∀ x c,X.env.cells.lookup x=some c→c < s.heap.objs.size:=fun x c e=>let ⟨_,q⟩:=I.cell x c e;q.lt
 have clt:∀ x c,(cb X.env scope.names []).lookup x=some c→c < s.heap.objs.size+1+1:=fun x c e =>
  Nat.lt_succ_of_lt (Nat.lt_succ_of_lt (K1 x c (c9 _ _ (S.cells I) (fun _ z=>by simp at z) e)))
 have WC:∀ x y c,(cb X.env scope.names []).lookup x=some c→(cb X.env scope.names []).lookup y=some c→x=y:=fun x y c e1 e2 =>
  I.ok.inj x y c (c9 _ _ (S.cells I) (fun _ z=>by simp at z) e1) (c9 _ _ (S.cells I) (fun _ z=>by simp at z) e2)
 refine ⟨⟨I.ok.mod,S.kind,I.ok.glob,I.ok.blt,Nat.le_succ _,tG _ _ _ clt WC,fun x hx=>?has,fun x c hf e=>?ON,I.ok.hd,I.ok.frames,.inl rfl,fun b hb=>?RS,I.bs,Nat.le_trans I.ok.IX I.sz,fun b o e hb=>?C2,fun b hb hs=>?C3,I.stack,I.za⟩,
  rfl,I.bare,Un.laid keep (Nat.le_refl _) (fresh _ (Nat.le_refl _)),⟨fun _=>none,?ns,fun i x v e1 e2 e3=>?loc⟩,fun x c e=>?cell,?free,fun x c e=>?nJ,fun p hp=>absurd (show p ∈ ([]:List (Addr × Obj)) from hp) (by simp),I.bw.laid keep (Nat.le_refl _) ?obj,?len⟩
 case has =>
  have hx:(relabel scope X.env).names.lookup x=some .cell∨(relabel scope X.env).names.lookup x=some .free:=hx
  show ∃ c,(cellsFrom (s.heap.objs.size+1+1) scope.names (cb X.env scope.names [])).lookup x=some c
  cases hk:scope.names.lookup x with
  | none =>
   rw [show (relabel scope X.env).names.lookup x=none from rW hk] at hx
   rcases hx with z | z <;> cases z
  | some k =>
   have hm:=PySem.mem_of_lookup hk
   rw [show (relabel scope X.env).names.lookup x=_ from mB hk] at hx
   cases k with
   | cell=>obtain ⟨c,e,_⟩:=pP (x:=x) (lo:=0) scope.names (s.heap.objs.size+1+1) (cb X.env scope.names []) (Nat.zero_le _) (.inl hm);exact ⟨c,e⟩
   | free =>
    obtain ⟨c,e⟩:=l8 (env:=X.env) (x:=x) scope.names [] (.inl hm)
    exact ⟨c,by rw [l9 _ _ _ (S.once x hm)];exact e⟩
   | _=>rcases hx with z | z <;> simp at z
 case ON =>
  have hm:(x,NameKind.cell) ∈ scope.names:=List.contains_iff_mem.mp hf
  obtain ⟨c',e',hc⟩:=pP (x:=x) (lo:=s.heap.objs.size+1+1) scope.names (s.heap.objs.size+1+1) (cb X.env scope.names []) (Nat.le_refl _) (.inl hm)
  have e2:(cellsFrom (s.heap.objs.size+1+1) scope.names (cb X.env scope.names [])).lookup x=some c:=e
  rw [e'] at e2;cases e2
  exact Nat.le_trans (Nat.le_trans (Nat.le_succ _) (Nat.le_succ _)) hc
 case RS =>
  obtain ⟨o,eo⟩:=ho b hb
  have fE:=Heap.lt_size eo
  refine ⟨Nat.ne_of_lt (Nat.lt_succ_of_lt fE),fun x c e=>?_⟩
  rcases yy S I e with q | ⟨q,_⟩
  ·exact (R6 b hb).2.2.2.2.1 x c q
  ·exact Nat.ne_of_gt (Nat.lt_of_lt_of_le (Nat.lt_succ_of_lt (Nat.lt_succ_of_lt fE)) q)
 case C2 =>
  obtain ⟨_,_,_,q,_⟩:=R6 b hb
  rcases q with q | q
  ·exact I.ok.C2 b o e q
  ·exact absurd (Nat.lt_of_lt_of_le (Nat.lt_of_lt_of_le (Heap.lt_size e) I.ok.IX) q) (Nat.lt_irrefl _)
 case C3 =>
  obtain ⟨_,q1,q2,_⟩:=R6 b hb
  rcases List.mem_cons.mp (I.C4 b hs) with z | z
  ·exact q1 z
  ·exact q2 z
 case ns =>
  refine Heap.Ns.keeps (h:=(s.heap.push { cls:=.type "list",dict:=none,data:=.seq ([]:List Value).toArray }).push { cls:=.type "dict",data:=.dict #[] }) ?_ (pushCells_keeps _ _)
  have q:=Heap.Ns.new (s.heap.push { cls:=.type "list",dict:=none,data:=.seq ([]:List Value).toArray }) (.type "dict")
  rw [hsz] at q
  exact q
 case loc =>
  have Nj:(ix.map fun o=>o.bind fun j=>(σ[j]?).bind id)[i]?=some (some v):=e2
  rw [List.getElem?_map] at Nj
  cases ei:ix[i]? with
  | none=>rw [ei] at Nj;cases Nj
  | some o =>
   rw [ei] at Nj
   cases o with
   | none=>simp at Nj
   | some j =>
    obtain ⟨hN,Qv⟩:=S.out i j x ei e1
    have ej:σ[j]?=some (some v):=by
     cases q:σ[j]? with
     | none=>simp [q] at Nj
     | some y=>simp [q] at Nj;rw [Nj]
    have hm:=PySem.mem_of_lookup Qv
    have WD:Up X.env.scope x:=by
     rcases S.free (x,.free) hm rfl with z | z
     ·exact .inr (.inl z)
     ·exact .inr (.inr z)
    obtain ⟨m0,Yg,hl0⟩:=I.loc
    obtain ⟨u,r,l⟩:=hl0 j x v hN ej WD
    refine ⟨u,r,?_⟩
    have hk:X.env.kindOf x=some .cell∨X.env.kindOf x=some .free:=S.free (x,.free) hm rfl
    rcases l with ⟨z,_⟩ | ⟨_,c,ec,E6⟩
    ·rcases hk with y | y <;> (rw [z] at y;cases y)
    ·refine .inr ⟨?_,c,?_,E6.keeps keep⟩
     ·show (relabel scope X.env).names.lookup x=_∨(relabel scope X.env).names.lookup x=_
      rw [show (relabel scope X.env).names.lookup x=_ from mB Qv]
      split
      ·exact .inl rfl
      ·exact .inr rfl
     ·show (cellsFrom (s.heap.objs.size+1+1) scope.names (cb X.env scope.names [])).lookup x=some c
      rw [l9 _ _ _ (S.once x hm)]
      obtain ⟨c',e'⟩:=l8 (env:=X.env) (x:=x) scope.names [] (.inl hm)
      have q:=c9 _ _ (S.cells I) (fun _ z=>by simp at z) e'
      rw [ec] at q;cases q
      exact e'
 case cell =>
  have q:=kM (x:=x) (c:=c) scope.names ((s.heap.push { cls:=.type "list",dict:=none,data:=.seq ([]:List Value).toArray }).push { cls:=.type "dict",data:=.dict #[] }) (cb X.env scope.names [])
   (fun y c' e'=>by
    obtain ⟨v,z⟩:=I.cell y c' (c9 _ _ (S.cells I) (fun _ z=>by simp at z) e')
    exact ⟨v,z.keeps fun b o e=>Heap.get?_push_of_some _ (Heap.get?_push_of_some _ e)⟩)
  rw [Heap.size_push,hsz] at q
  exact q e
 case free =>
  show upd H s.heap.objs.size (.lst []) (s.heap.objs.size+1)=none
  rw [aE (Nat.succ_ne_self _)]
  exact fresh _ (Nat.le_succ _)
 case nJ =>
  rcases yy S I e with q | ⟨q,_⟩
  ·rw [aE (Nat.ne_of_lt (K1 x c q))]
   exact I.nJ x c q
  ·have h1:s.heap.objs.size < c:=Nat.lt_of_lt_of_le (Nat.lt_succ_of_lt (Nat.lt_succ_self _)) q
   rw [aE (Nat.ne_of_gt h1)]
   exact fresh c (Nat.le_of_lt h1)
 case obj=>exact ⟨Nat.zero_le _,[],0,.nil,hD⟩
 case len =>
  show (vn ix σ).length=Nc.length
  unfold vn
  rw [List.length_map,S.len]
end
def R7 (X:Cx) (ifs:List Expr) (t:TT):Prop :=
 ∀ (pins:List (Addr × Obj)) (s:Shared) (σ:St) (H:Hp) (Q:Bool→Hp→Prop),Inv X pins σ H s→t σ H Q →
  wpAny (model X.prog X.w) X.A (forIn ifs true fun c r=>if r=true then do let ok ← isTrue c X.env (eval c X.env);pure (ForInStep.yield ok) else pure (ForInStep.yield r)) (TP X pins σ Q) X.xe s
def O0:TT:=fun _ H Q=>Q true H
theorem cX {X:Cx}:R7 X [] O0:=fun _ _ _ H _ I h=>wpAny_tests_nil ⟨H,I,h⟩
theorem FR {X:Cx} {c:Expr} {t:TT} (h:PT X c t):R7 X [c] t:=fun pins s σ H Q I hw=>wpAny_tests_one (h pins s σ H Q I hw)
def ua (J:It) (g:TG) (tt:TT) (te:TE) (D:Addr) (σ:St) (H:Hp) (Q:VK):Prop:=∃ W:Nat→Nat→St→Hp→Prop,(∃ m,W 0 m σ H)∧∀ i m σ' H',W i m σ' H' →
 (J.stop i H'∧Q (.ref D) H')∨(J.go i H'∧∀ x H2,J.Ij i H' x H2→g x σ' H2 fun σ3 H3=>tt σ3 H3 fun b H4 =>
  if b=true then te σ3 H4 fun v H5=>∃ xs,H5 D=some (.lst xs)∧xs.length < sizeLine∧∃ m',m' < m∧W (i+1) m' σ3 (upd H5 D (.lst (xs ++ [v])))
  else ∃ m',m' < m∧W (i+1) m' σ3 H4)
def Yh (wi:TI) (ix:List (Option Nat)) (g:TG) (tt:TT) (te:TE):TE:=fun σ H Q=>wi σ H fun J H1=>∀ D,H1 D=none→ua J g tt te D (vn ix σ) (upd H1 D (.lst [])) Q
section
variable {X:Cx} {tg elt iter:Expr} {ifs:List Expr} {scope:Scope} {pos:Pos} {wi:TI} {g:TG} {tt:TT} {te:TE} {Nc:List Str} {ix:List (Option Nat)}
theorem BO {pins:List (Addr × Obj)} {σ:St} {H:Hp} {s:Shared} {it:Addr} {fp:List Addr} {tn:Nat→Heap→Prop} {J:It} {Q:VK} {R:Value→Addr→Result→Shared→Prop}
  (hc:X.calm=true) (S:fU X Nc ix scope) (I:Inv X pins σ H s) (T:Turn X.prog X.w X.K tg J fp it tn) (st:tn 0 s.heap) (f:∀ b ∈ fp,sy X pins H b)
  (hg:PG (z4 X Nc scope (s.heap.objs.size+1) fp s H) tg g) (ht:R7 (z4 X Nc scope (s.heap.objs.size+1) fp s H) ifs tt) (he:PE (z4 X Nc scope (s.heap.objs.size+1) fp s H) elt te)
  (h:∀ D,H D=none→∃ W:Nat→Nat→St→Hp→Prop,(∃ m,W 0 m (vn ix σ) (upd H D (.lst [])))∧∀ i m σ' H',W i m σ' H' →
   (J.stop i H'∧Q (.ref D) H')∨(J.go i H'∧∀ x H2,J.Ij i H' x H2→g x σ' H2 fun σ3 H3=>tt σ3 H3 fun b H4 =>
    if b=true then te σ3 H4 fun v H5=>∃ xs,H5 D=some (.lst xs)∧xs.length < sizeLine∧∃ m',m' < m∧W (i+1) m' σ3 (upd H5 D (.lst (xs ++ [v])))
    else ∃ m',m' < m∧W (i+1) m' σ3 H4))
  (hR:∀ σ' H' s',Inv (z4 X Nc scope (s.heap.objs.size+1) fp s H) [] σ' H' s'→(∀ b ∈ fp,H' b=none)→Q (.ref s.heap.objs.size) H'→R (.ref s.heap.objs.size) (s.heap.objs.size+1) (.ok .next) s') :
  wpAny (model X.prog X.w) X.A (newList []) (fun acc s₃=>wpAny (model X.prog X.w) X.A (newFunctionEnv scope X.env.globals (cb X.env scope.names []) [] X.env.qual none .none (some X.env)) (fun R8 s₄ =>
   codeAny (model X.prog X.w) X.A (.compStart (.ListComp elt [⟨tg,iter,ifs,0⟩] scope pos) 0 (.ref it) acc { R8 with scope:=relabel scope X.env }) (R acc R8.locals) s₄) X.xe s₃) X.xe s:=by
 obtain ⟨W,⟨m0,w0⟩,turn⟩:=h s.heap.objs.size (I.bw.fresh (Nat.le_refl _))
 refine wpAny_newObj_type (BN ?_)
 have I4:=JB (t':=s.toks) S I f (fun b hb=>let ⟨o,e,_⟩:=T.obj _ _ st b hb;⟨o,e⟩)
 have hsz:(s.heap.push { cls:=.type "list",dict:=none,data:=.seq ([]:List Value).toArray }).objs.size=s.heap.objs.size+1:=Heap.size_push ..
 dsimp only
 rw [hsz]
 have JC:tn 0 (pushCells ((s.heap.push { cls:=.type "list",dict:=none,data:=.seq ([]:List Value).toArray }).push { cls:=.type "dict",data:=.dict #[] }) scope.names) :=
  T.keep _ _ _ st fun b _ o e=>pushCells_keeps _ _ b o (Heap.get?_push_of_some _ (Heap.get?_push_of_some _ e))
 have WE:∀ b ∈ fp,upd H s.heap.objs.size (.lst []) b=none:=fun b hb=>by
  obtain ⟨o,e,_⟩:=T.obj _ _ st b hb
  rw [aE (Nat.ne_of_lt (Heap.lt_size e))]
  exact (f b hb).1
 have C7:∀ {H':Hp},(∀ b ∈ fp,H' b=none)→∀ b ∈ fp,sy (z4 X Nc scope (s.heap.objs.size+1) fp s H) [] H' b:=fun {H'} hn b hb=>by
  obtain ⟨q1,q2⟩:=I4.ok.RS b hb
  exact ⟨hn b hb,q1,I4.ok.C3 b hb,.inl hb,q2,fun p hp=>absurd (show p ∈ ([]:List (Addr × Obj)) from hp) (by simp)⟩
 have loop:codeAny (model X.prog X.w) X.A (.compLoop (.ListComp elt [⟨tg,iter,ifs,0⟩] scope pos) 0 (.ref it) (.ref s.heap.objs.size) (z4 X Nc scope (s.heap.objs.size+1) fp s H).env)
   (R (.ref s.heap.objs.size) (s.heap.objs.size+1))
   { s with heap:=pushCells ((s.heap.push { cls:=.type "list",dict:=none,data:=.seq ([]:List Value).toArray }).push { cls:=.type "dict",data:=.dict #[] }) scope.names }:=by
  refine zz (fun n s'=>∃ i σ' H',Inv (z4 X Nc scope (s.heap.objs.size+1) fp s H) [] σ' H' s'∧tn i s'.heap∧(∀ b ∈ fp,H' b=none)∧W i n σ' H') ?_ m0 ⟨0,_,_,I4,JC,WE,w0⟩
  rintro n s5 ⟨i,σ5,H5,I5,vd,OZ,w5⟩
  rcases turn i n σ5 H5 w5 with ⟨stop,qn⟩ | ⟨go,step⟩
  ·refine bu (T.done (z4 X Nc scope (s.heap.objs.size+1) fp s H) rfl rfl rfl hc i [] s5 σ5 H5 _ I5 (C7 OZ) vd stop) fun r s6 ⟨hr,I6⟩=>?_
   subst hr
   exact hR σ5 H5 s6 I6 OZ qn
  ·refine bu (T.item (z4 X Nc scope (s.heap.objs.size+1) fp s H) rfl rfl rfl hc i [] s5 σ5 H5 _ I5 (C7 OZ) vd go) fun r s6 ⟨u,hr,h6⟩=>?_
   subst hr
   refine bu h6 fun _ s7 ⟨x,H7,I7,r7,y7,WG,fr7⟩=>?_
   have I7':=I7.pinned (C7 fr7) (T.obj _ _ WG)
   refine bu (hg _ s7 σ5 H7 x u _ I7' r7 (step x H7 y7)) fun _ s8 ⟨σ8,H8,I8,q8⟩=>?_
   refine bu (ht _ s8 σ8 H8 _ I8 q8) fun b s9 ⟨H9,I9,q9⟩=>?_
   have again:∀ {s':Shared} {σ':St} {H':Hp},Inv (z4 X Nc scope (s.heap.objs.size+1) fp s H) ([] ++ vc fp s7.heap) σ' H' s'→tn (i+1) s'.heap∧∀ b ∈ fp,H' b=none:=fun {s' σ' H'} I'=>by
    refine ⟨T.keep _ _ _ WG fun b hb o e=>(I'.pin (b,o) (List.mem_append_right _ (List.mem_append_right _ (l4 hb e)))).1,fun b hb=>?_⟩
    obtain ⟨o,e,d⟩:=T.obj _ _ WG b hb
    exact (I'.pin (b,o) (List.mem_append_right _ (List.mem_append_right _ (l4 hb e)))).2.1
   cases b with
   | false =>
    rw [if_neg Bool.false_ne_true] at q9 ⊢
    obtain ⟨m',hm,w9⟩:=q9
    obtain ⟨a1,a2⟩:=again I9
    exact ⟨m',hm,i+1,σ8,H9,I9.ng,a1,a2,w9⟩
   | true =>
    rw [if_pos rfl] at q9 ⊢
    refine bu (he _ s9 σ8 H9 _ I9 q9) fun v s10 ⟨x',JD,I10,r10,xs,eD,fE,m',hm,w10⟩=>?_
    refine bu (cP (X:=z4 X Nc scope (s.heap.objs.size+1) fp s H) _ s10 σ8 JD (.ref s.heap.objs.size) [x'] (.ref s.heap.objs.size) [v] (fun _ H'=>H'=upd JD s.heap.objs.size (.lst (xs ++ [x']))) I10 rfl (.cons r10 .nil)
     ⟨_,xs,x',rfl,rfl,eD,fE,rfl⟩) fun _ s11 ⟨_,Gb,Yi,_,e11⟩=>?_
    subst e11
    obtain ⟨a1,a2⟩:=again Yi
    exact ⟨m',hm,i+1,σ8,_,Yi.ng,a1,a2,w10⟩
 exact codeAny_compStart_list loop (T.self X.A 0 _ _ _ JC loop)
theorem comp_back {pins:List (Addr × Obj)} {σ σ':St} {H H':Hp} {s s':Shared} {fp:List Addr} (I:Inv X pins σ H s) (f:∀ b ∈ fp,sy X pins H b) (J:Inv (z4 X Nc scope (s.heap.objs.size+1) fp s H) [] σ' H' s'):Inv X pins σ H' s' :=
 I.IY (ch:=fp) J.os J.base J.bw J.bare fun b hb=>let ⟨_,q1,_,q3,q4,q5⟩:=f b hb;⟨q3,q1,q4,q5⟩
theorem Inv.Nk {pins:List (Addr × Obj)} {σ:St} {H:Hp} {s:Shared} {C:Addr} {h':Heap} (I:Inv X pins σ H s) (f:sy X pins H C) (hs:Heap.SameBut C s.heap h'):Inv X pins σ H { s with heap:=h' } :=
 I.turned (t':=s.toks) (it:=C) (fun b o hb e=>(hs.2 b hb).trans e) f.1 f.2.1 f.2.2.2.1 f.2.2.2.2.1 f.2.2.2.2.2
theorem lE (hc:X.calm=true) (S:fU X Nc ix scope) (hi:PI X tg iter wi)
  (hb:∀ (C:Addr) (fp:List Addr) (s:Shared) (H:Hp),PG (z4 X Nc scope C fp s H) tg g∧R7 (z4 X Nc scope C fp s H) ifs tt∧PE (z4 X Nc scope C fp s H) elt te)
  (hs:∀ x,foldedSetIterable iter X.env x=pure x:=by intro _;rfl):PE X (.ListComp elt [⟨tg,iter,ifs,0⟩] scope pos) (Yh wi ix g tt te):=by
 intro pins s σ H Q I h
 rw [eval_ListComp]
 refine wpAny_comprehension_free (use:=none) rfl hs (vm (S.cells I)) S.kind S.loc (bu (hi pins s σ H _ I h) fun v s1 h1=>bu h1 fun Us s2 h2=>?_)
 obtain ⟨it,fp,tn,J,H2,e,I2,T,A1,f2,q2⟩:=h2
 subst e
 obtain ⟨hg,ht,he⟩:=hb (s2.heap.objs.size+1) fp s2 H2
 refine BO (R:=fun acc C=>compPost (model X.prog X.w) X.A X.xe none (EP X pins σ Q) acc C) hc S I2 T A1 f2 hg ht he q2 fun σ' H' s' J' fr' q'=>?_
 obtain ⟨m,hn,_⟩:=J'.loc
 refine ⟨m,hn,fun h' Gc=>⟨.ref _,H',?_,rfl,q'⟩⟩
 exact (comp_back I2 f2 J').Nk (I2.zb (Nat.le_succ _) J'.free) Gc
theorem lF {i:Nat} {y:Str} {py R9:Pos} (hN:X.N.Nodup) (hy:X.N[i]?=some y) (hl:Loc X.env.scope y) (hc:X.calm=true) (S:fU X Nc ix scope) (hi:PI X tg iter wi)
  (hb:∀ (C:Addr) (fp:List Addr) (s:Shared) (H:Hp),PG (z4 X Nc scope C fp s H) tg g∧R7 (z4 X Nc scope C fp s H) ifs tt∧PE (z4 X Nc scope C fp s H) elt te)
  (Uv:swapsWith (.ListComp elt [⟨tg,iter,ifs,0⟩] scope pos) (some (.Name y py)) R9.line X.env=pure true:=by rfl)
  (hs:∀ x,foldedSetIterable iter X.env x=pure x:=by intro _;rfl)
  (hf:X.fn y=true∨X.env.scope.names.lookup y=some .local:=by first | exact .inl rfl | exact .inr rfl | assumption) :
  PS X (.Assign [.Name y py] (.ListComp elt [⟨tg,iter,ifs,0⟩] scope pos) R9) (OW (Yh wi ix g tt te) (jI i)):=by
 intro pins s σ H D I h
 rw [exec_Assign_Name_used _ _ _ _ Uv]
 refine wpAny_bind (wpAny_standAt (wpAny_bind ?_))
 show wpAny _ X.A (do let _ ← comprehension (.ListComp elt [⟨tg,iter,ifs,0⟩] scope pos) scope X.env _ (newList []) false (eval iter X.env) (some (assign (.Name y py) X.env))) _ _ s
 refine wpAny_bind (wpAny_mono (wpAny_comprehension_free (use:=some (assign (.Name y py) X.env)) (Q:=fun _ s'=>SP X pins D .next s') rfl hs (vm (S.cells I)) S.kind S.loc
  (bu (hi pins s σ H _ I h) fun v s1 h1=>bu h1 fun Us s2 h2=>?_)) (fun _ s' hq=>wpAny_pure (wpAny_pure hq)) fun _ _ e=>e)
 obtain ⟨it,fp,tn,J,H2,e,I2,T,A1,f2,q2⟩:=h2
 subst e
 obtain ⟨hg,ht,he⟩:=hb (s2.heap.objs.size+1) fp s2 H2
 refine BO (Q:=fun x H1=>jI i x σ H1 D.nx) (R:=fun acc C=>compPost (model X.prog X.w) X.A X.xe (some (assign (.Name y py) X.env)) (fun _ s'=>SP X pins D .next s') acc C) hc S I2 T A1 f2 hg ht he q2 fun σ' H' s' J' fr' q'=>?_
 obtain ⟨m,hn,_⟩:=J'.loc
 have I3:=comp_back I2 f2 J'
 have fC:=I2.zb (Nat.le_succ _) J'.free
 show wpAny _ X.A (assign (.Name y py) X.env (.ref s2.heap.objs.size)) _ _ s'
 refine wpAny_assign_Name (ym (v:=.ref s2.heap.objs.size) I3 hN hy hl rfl (fun s4 I4 ⟨a,Gd,ha⟩=>?_) hf)
 have haC:s2.heap.objs.size+1≠a:=by
  rcases ha with z | z
  ·rw [z];exact fC.2.1
  ·exact Ne.symm (fC.2.2.2.2.1 y a z)
 refine ⟨m,hn.sameBut Gd haC,fun h' Gc=>⟨_,H',I4.Nk fC Gc,q'⟩⟩
end
end L2
namespace L2
open PySem PySem.Spec PyProof.Rows
structure O1 (P:Program) (w:World) (outer:List Env) (H:Hp) (s:Shared) (a C:Addr) (a0:Value) (B:Heap) (H':Hp) (s':Shared):Prop where
 os:s'.os=s.os
 bare:AllBare s'.gens
 un:Un (pK outer) [] H H' s.heap s'.heap
 bw:pw P w H' s'.heap
 JE:Heap.FlyingW B outer a (.ref C) a0 s'.heap
 Lb:∀ b o,s.heap.get? b=some o→b ∉ pK outer→∃ o',B.get? b=some o'
 GJ:∀ b u,H' b=some u→∃ o',B.get? b=some o'
def i9 (P:Program) (w:World):BI:=fun outer H s E e s'=>∃ (a C:Addr) (a0:Value) (B:Heap) (H':Hp),e=.ref a∧O1 P w outer H s a C a0 B H' s'∧E (.ref C) none H'
theorem FT {l:List Env} {b:Addr} {base h:Heap} (F:h.FunFrames base l) (hb:b ∈ pK l):base.get? b=none∧∃ o,h.get? b=some o∧∀ vs,o.data≠.fields vs:=F.mem hb
theorem BP {outer:List Env} {H H':Hp} {h h1 h2 B:Heap} (u:Un (pK outer) [] H H' h h1) (F:h1.FunFrames B outer) (WH:B.StaysIn h1) (WI:B.StaysIn h2) (up:h1.UpToSlots h2)
  (Lb:∀ b o,h.get? b=some o→b ∉ pK outer→∃ o',B.get? b=some o'):Un (pK outer) [] H H' h h2:=by
 have at2:∀ b o,h.get? b=some o→b ∉ pK outer→∀ o1,h1.get? b=some o1→h2.get? b=some o1:=fun b o e hb o1 e1=>by
  obtain ⟨o',eB⟩:=Lb b o e hb
  have q:=WH b o' eB
  rw [e1] at q;cases q
  exact WI b _ eB
 refine ⟨fun b o e n hb hx=>at2 b o e hb o (u.keep b o e n hb hx),fun b o e n hb hx=>?_,u.free,fun b o e hx=>?_,u.nV,u.nR,u.nW⟩
 ·obtain ⟨sl,e1⟩:=u.slot b o e n hb hx
  obtain ⟨_,o1,q1,q2⟩:=FT F hb
  rw [e1] at q1;cases q1
  obtain ⟨Uw,e2⟩:=up b _ e1 q2
  exact ⟨Uw,e2⟩
 ·obtain ⟨o1,e1⟩:=u.there b o e hx
  by_cases hb:b ∈ pK outer
  ·obtain ⟨_,o2,q1,q2⟩:=FT F hb
   obtain ⟨Uw,e2⟩:=up b _ q1 q2
   exact ⟨_,e2⟩
  ·exact ⟨o1,at2 b o e hb o1 e1⟩
theorem yz {P:Program} {w:World} {H:Hp} {h1 h2 B:Heap} (x:pw P w H h1) (WH:B.StaysIn h1) (WI:B.StaysIn h2) (GJ:∀ b u,H b=some u→∃ o',B.get? b=some o'):pw P w H h2:=fun b o e=>by
 refine (x b o e).A7 (fun c u hc q=>?_) (fun _ q=>q) fun _ _ q=>q
 have ht:∃ o',B.get? c=some o':=by
  rcases hc with z | z
  ·rw [z];exact GJ b o e
  ·exact GJ c _ z
 obtain ⟨o',eB⟩:=ht
 have q1:=WH c o' eB
 rw [q] at q1;cases q1
 exact WI c _ eB
structure Body (X:Cx) (E:XK):Prop where
 xe:X.xe=fun e s'=>wpAny (model X.prog X.w) X.A (leaving X.env e) (fun _ Oj=>i9 X.prog X.w X.outer X.H₀ X.s₀ E e Oj) (fun e' Oj=>i9 X.prog X.w X.outer X.H₀ X.s₀ E e' Oj) s'
 Kz:X.stack=X.env :: X.outer
 fr:X.env.frame=some X.env.locals
 ex:X.ex=[]
section
variable {X:Cx} {E:XK} {pins:List (Addr × Obj)} {σ:St} {H:Hp} {s:Shared}
theorem Inv.old (I:Inv X pins σ H s) {b:Addr} {o:Obj} (e:X.s₀.heap.get? b=some o):b≠X.env.locals:=Nat.ne_of_lt (Nat.lt_of_lt_of_le (Heap.lt_size e) I.ok.above)
theorem Body.base (Bd:Body X E) (I:Inv X pins σ H s):Un X.fs [] X.H₀ H X.s₀.heap s.heap:=by
 have q:=I.base
 rw [Bd.ex] at q
 exact q
theorem Body.JF (Bd:Body X E) {b:Addr} (h1:b≠X.env.locals) (h2:b ∉ pK X.outer):b ∉ pK X.stack:=by
 rw [Bd.Kz]
 intro z
 obtain ⟨env,he,hf⟩:=List.mem_filterMap.mp z
 rcases List.mem_cons.mp he with rfl | he
 ·rw [Bd.fr] at hf;exact h1 (Option.some.inj hf).symm
 ·exact h2 (List.mem_filterMap.mpr ⟨env,he,hf⟩)
theorem lG (Bd:Body X E):l7 (i9 X.prog X.w) X E:=by
 intro pins σ H s e s' I h
 obtain ⟨a,C,a0,B,H',rfl,T,q⟩:=h
 rw [Bd.xe]
 have Qv:X.A.frames=some (X.env :: X.outer):=by rw [← Bd.Kz];exact I.ok.frames
 have JE:=T.JE
 rw [Bd.Kz] at JE
 refine wpAny_leaves_onW Qv Bd.fr JE fun h' O2 up=>?_
 have Lb:∀ b o,X.s₀.heap.get? b=some o→b ∉ pK X.outer→∃ o',B.get? b=some o':=fun b o e hb=>by
  obtain ⟨o1,e1⟩:=(Bd.base I).there b o e (by simp)
  exact T.Lb b o1 e1 (Bd.JF (I.old e) hb)
 have u1:Un (pK X.outer) [] X.H₀ H' X.s₀.heap s'.heap:=by
  have ub:=Bd.base I
  refine ⟨fun b o e n hb hx=>T.un.keep b o (ub.keep b o e n hb hx) (ub.free b o e n hx) (Bd.JF (I.old e) hb) (by simp),fun b o e n hb hx=>?_,fun b o e n hx=>?_,fun b o e hx=>?_,fun b xs e=>T.un.nV b xs (ub.nV b xs e),
   fun b o xs e=>T.un.nR b o xs (ub.nR b o xs e),fun b ps e=>?_⟩
  ·obtain ⟨sl,e1⟩:=ub.slot b o e n hb hx
   obtain ⟨RR,e2⟩:=T.un.any e1 (ub.free b o e n hx) (by simp)
   exact ⟨RR,e2⟩
  ·obtain ⟨o1,e1⟩:=ub.there b o e hx
   exact T.un.free b o1 e1 (ub.free b o e n hx) (by simp)
  ·obtain ⟨o1,e1⟩:=ub.there b o e hx
   exact T.un.there b o1 e1 (by simp)
  ·obtain ⟨m1,e1⟩:=ub.nW b ps e
   obtain ⟨m2,e2⟩:=T.un.nW b _ e1
   exact ⟨m1 ++ m2,by rw [e2,Array.append_assoc]⟩
 have F':s'.heap.FunFrames B X.outer:=by obtain ⟨_,_,⟨_,_,k⟩,_⟩:=JE;exact k
 exact ⟨a,C,a0,B,H',rfl,⟨T.os.trans I.os,T.bare,BP u1 F' JE.1 O2.1 up Lb,yz T.bw JE.1 O2.1 T.GJ,O2,Lb,T.GJ⟩,q⟩
theorem BQ {K:PySem.W.Frag} {h:Heap} {mg:Str→Option Value} {x:Str} {C:Addr} {SA:List Value} {newId:String} (KX:K.In h) (hm:mg x=some (.ref C)) (q:PySem.W.excIn K C SA newId=true):OwnCls x C SA newId mg h:=by
 refine ⟨hm,?_⟩
 unfold PySem.W.excIn at q
 split at q
 ·rename_i dd cd sl ho
  split at q
  ·rename_i C' bm k0 k1 k2 k3 n k5 Yj hs
   simp only [Bool.and_eq_true,beq_iff_eq,Bool.not_eq_true'] at q
   obtain ⟨⟨⟨⟨⟨rfl,rfl⟩,SE⟩,ht⟩,bw⟩,Qw⟩:=q
   obtain ⟨nm,bs,mro,ns,qn,hd,sn,sub,ab,col,del⟩:=cd
   dsimp only at Yj SE bw Qw
   subst Yj SE
   have hsl:sl=#[k0,k1,k2,k3,some (.builtin n),k5]:=by
    obtain ⟨l⟩:=sl
    simp only at hs
    rw [hs]
   subst hsl
   exact ⟨bm,ns,nm,qn,bs,hd,sn,sub,ab,col,dd,k0,k1,k2,k3,k5,_,KX _ _ ho,.of_isNs (PySem.W.isNs_of_in KX bw),PySem.W.nsMap_none_of_in KX bw Qw,PySem.W.tail_of_in KX ht⟩
  ·cases q
 ·cases q
def O3 (C:Addr) (E:XK) (t:TA):TS:=fun _ σ H=>t σ H fun vs H1=>vs.length≤sizeLine∧E (.ref C) none H1
theorem eZ {x:Str} {np fF pos:Pos} {e:Expr} {es:List Expr} {t:TA} {C:Addr} {SA:List Value} {B newId O4:String} (Bd:Body X E) (hc:X.calm=true) (hg:Gl X x) (hm:X.mg x=some (.ref C))
  (hk:PySem.W.excIn X.K C SA newId=true) (FB:ExcBaseFacts B newId O4 SA) (ha:PA X (e :: es) t)
  (he:starEach (e :: es) X.env=(false,eval e X.env) :: starEach es X.env:=by rfl) (kK:(backTo fF (starEach es X.env)).any (·.1)=false:=by rfl) (Ir:(x == ("__debug__":Str))=false:=by decide) :
  PS X (.Raise (some (.Call (.Name x np) (e :: es) [] fF)) none pos) (O3 C E t):=by
 intro pins s σ H D I h
 have O:=BQ (I.mod.Qp) hm hk
 obtain ⟨tl,N,nm,q,bs,hdct,sn,sub,ab,col,dd,k0,k1,k2,k3,k5,mN,hC,hN,Qw,T⟩:=O.obj
 refine wpAny_Raise_call_subT (C:=C) (nm:=nm) (q:=q) (N:=N) (bs:=bs) (bm:=tl) (hdct:=hdct) (sn:=sn) (sub:=sub) (ab:=ab) (col:=col) (dd:=dd) (k0:=k0) (k1:=k1) (k2:=k2) (k3:=k3) (k5:=k5)
  FB (mN:=mN) (T.hasType FB.hasBase) (I.ok.hd hc) (by rw [he];show (false || (backTo fF (starEach es X.env)).any (·.1))=false;rw [kK];rfl) Qw (vP I hg hm ⟨rfl,?_⟩ Ir)
 have hA:=ha fF pins s σ H _ I h
 rw [he] at hA ⊢
 refine Calls.evalArgs_plain (bu hA fun us s2 ⟨vs,H2,I2,r,hz,q2⟩=>?_)
 refine ⟨rfl,by rw [← r.length];exact hz,I2.bk _ _ hC,hN.keeps I2.bk,T.keeps I2.bk,fun h' a hx=>?_⟩
 rw [Bd.xe]
 have Qv:X.A.frames=some (X.env :: X.outer):=by rw [← Bd.Kz];exact I.ok.frames
 have Qx:∀ env ∈ X.stack,∀ b,env.frame=some b→b ∈ pK X.stack:=fun env he b hb=>List.mem_filterMap.mpr ⟨env,he,hb⟩
 have F0:s2.heap.FunFrames (PySem.W.hideAll s2.heap (pK X.stack)) X.stack:=PySem.W.funFrames_hide I2.stack Qx
 have F1:s2.heap.FunFrames (PySem.W.hideAll s2.heap (pK X.stack)) (X.env :: X.outer):=by rw [← Bd.Kz];exact F0
 have WJ:(PySem.W.hideAll s2.heap (pK X.stack)).StaysIn s2.heap:=fun b o q=>PySem.W.of_hideAll _ q
 have Nl:∀ b o,s2.heap.get? b=some o→b ∉ pK X.stack→(PySem.W.hideAll s2.heap (pK X.stack)).get? b=some o:=fun b o e hb=>PySem.W.hideAll_get _ e hb
 refine wpAny_leaves_madeW Qv Bd.fr WJ F1 hx fun h'' t JE tup tn up=>?_
 have Lb:∀ b o,X.s₀.heap.get? b=some o→b ∉ pK X.outer→∃ o',(PySem.W.hideAll s2.heap (pK X.stack)).get? b=some o':=fun b o e hb=>by
  obtain ⟨o1,e1⟩:=(Bd.base I2).there b o e (by simp)
  exact ⟨o1,Nl b o1 e1 (Bd.JF (I2.old e) hb)⟩
 have GJ:∀ b u,H2 b=some u→∃ o',(PySem.W.hideAll s2.heap (pK X.stack)).get? b=some o':=fun b u e=>by
  have hb:b ∉ pK X.stack:=fun z=>by rw [I2.za b z] at e;cases e
  have fE:=I2.bw.lt e
  obtain ⟨o1,e1⟩:∃ o1,s2.heap.get? b=some o1:=by
   cases hq:s2.heap.get? b with
   | some o1=>exact ⟨o1,rfl⟩
   | none=>exact absurd hq (BR (I2.bw b u e))
  exact ⟨o1,Nl b o1 e1 hb⟩
 have F2:s2.heap.FunFrames (PySem.W.hideAll s2.heap (pK X.stack)) X.outer:=by obtain ⟨_,_,k⟩:=F1;exact k
 have up2:s2.heap.UpToSlots h'':=(Heap.UpToSlots.of_keeps hx.keeps).trans up
 exact ⟨a,C,.ref t,_,H2,rfl,⟨I2.os,I2.bare,BP (Bd.base I2) F2 WJ JE.1 up2 Lb,yz I2.bw WJ JE.1 GJ,JE,Lb,GJ⟩,q2⟩
where
 BR {P:Program} {w:World} {H:Hp} {h:Heap} {a:Addr} {o:HO} (x:cI P w H h a o):h.get? a≠none:=by
  cases o with
  | lst xs=>obtain ⟨_,_,_,_,e⟩:=x;rw [e];simp
  | tup xs=>obtain ⟨_,_,_,ob,e,_⟩:=x;rw [e];simp
  | dK aq=>obtain ⟨_,_,_,_,o,_,_,e,_⟩:=x;rw [e];simp
  | dT aq=>obtain ⟨_,_,_,_,o,_,_,e,_⟩:=x;rw [e];simp
  | set S n=>obtain ⟨o,_,_,_,e,_⟩:=x;rw [e];simp
  | ins C dx fs=>obtain ⟨_,_,_,e,_⟩:=x;rw [e];simp
  | own y=>obtain ⟨_,e⟩:=x;rw [e];simp
  | xd fs=>obtain ⟨_,⟨_,_,_,e,_⟩,_⟩:=x;rw [e];simp
  | Uo lo hi=>obtain ⟨_,_,_,e⟩:=x;rw [e];simp
  | Cy ob u=>obtain ⟨e,_⟩:=x;rw [e];simp
  | NY ps=>have e:h.get? a=some _:=x;rw [e];simp
  | met f y=>have e:h.get? a=some _:=x;rw [e];simp
  | ext φ=>obtain ⟨_,⟨_,e⟩,_⟩:=x;rw [e];simp
end
end L2
namespace L2
open PySem PySem.Spec PyProof.Rows
def ExcAt (a C:Addr) (h:Heap):Prop:=∃ oe vs,h.get? a=some oe∧oe.cls=.ref C∧oe.data=.fields vs
theorem ExcAt.mono {a C:Addr} {h1 h2:Heap} (x:ExcAt a C h1) (k:∀ o,h1.get? a=some o→h2.get? a=some o):ExcAt a C h2:=let ⟨oe,vs,e,c,d⟩:=x;⟨oe,vs,k _ e,c,d⟩
structure Catch (K:PySem.W.Frag) (C:Addr):Prop where
 ty:PySem.W.typeIn K (.ref C)=some (.type "type")
 cls:(PySem.W.clsIn K C).isSome=true
 base:PySem.W.subIn K (.ref C) (.type "BaseException")=some true
section
variable {X:Cx} {E:XK} {pins:List (Addr × Obj)} {σ:St} {H:Hp} {s:Shared} {a:Addr}
theorem Un.ext {fs:List Addr} {H H':Hp} {h h':Heap} {a:Addr} {o:HO} (u:Un fs [] H H' h h') (ha:h.get? a=none) (hn:H' a=none):Un fs [] H (upd H' a o) h h' where
 keep:=u.keep
 slot:=u.slot
 free:=fun b ob e n hx=>by rw [aE (fun z=>by rw [z,ha] at e;cases e)];exact u.free b ob e n hx
 there:=u.there
 nV:=fun b xs e=>by have q:=u.nV b xs e;rw [aE (aK q hn)];exact q
 nR:=fun b ob xs e=>by have q:=u.nR b ob xs e;rw [aE (aK q hn)];exact q
 nW:=fun b ps e=>by obtain ⟨m,q⟩:=u.nW b ps e;exact ⟨m,by rw [aE (aK q hn)];exact q⟩
end
end L2
namespace L2
open PySem PySem.Spec PyProof.Rows
structure tH (K:PySem.W.Frag) (C:Addr):Prop where
 ga:PySem.W.findIn K (.ref C) "__getattribute__"=some (some (.builtin "BaseException.__getattribute__"))
 nga:PySem.W.findIn K (.ref C) "__getattr__"=some none
 at_:PySem.W.findIn K (.ref C) "__class__"=some (some (.builtin "object.__class__"))
 cls:(PySem.W.clsIn K C).isSome=true
 obj:PySem.W.mroIn K C (.type "object")=some true
 base:PySem.W.subIn K (.ref C) (.type "BaseException")=some true
section
variable {prog:Program} {w:World} {A:Around} {E:Value→Shared→Prop} {h:Heap} {g:Array GenState} {d:Drawn} {t:Nat} {os:OsState} {K:PySem.W.Frag} {a C:Addr}
theorem ExcAt.type {M:Model} (x:ExcAt a C h):PySem.W.Looks M h (typeOf (.ref a)) (.ref C):=by
 obtain ⟨oe,vs,he,hc,hd⟩:=x
 exact hc ▸ (PySem.W.Looks.ld he).andThen .now
end
end L2
namespace L2
open PySem PySem.Spec PyProof.Rows
abbrev TJ:=Str→St→Hp→VK→Prop
def PJ (X:Cx) (es:List Expr) (t:TJ):Prop :=
 ∀ (out:Str) (pins:List (Addr × Obj)) (s:Shared) (σ:St) (H:Hp) (Q:VK),Inv X pins σ H s→t out σ H Q→wpAny (model X.prog X.w) X.A (joinParts out (evalEach es X.env)) (EP X pins σ Q) X.xe s
section
variable {X:Cx} {e:Expr} {es:List Expr} {te:TE} {t:TJ} {pos:Pos}
def WK:TJ:=fun out _ H Q=>out.length≤sizeLine∧Q (.str out) H
theorem nk:PJ X [] WK:=fun out pins s σ H Q I h=>joinParts_nil (show EP X pins σ Q (.str out s.toks) { s with toks:=s.toks+1 } from ⟨.str out,H,I.tok _,⟨_,rfl⟩,h.2⟩) h.1
def SF (te:TE) (t:TJ):TJ:=fun out σ H Q=>te σ H fun v H1=>∃ y,v=.str y∧(out ++ y).length≤sizeLine∧t (out ++ y) σ H1 Q
theorem bU (he:PE X e te) (hr:PJ X es t):PJ X (e :: es) (SF te t):=by
 intro out pins s σ H Q I h
 refine joinParts_consE (joinParts_cons (bu (he pins s σ H _ I h) fun v s1 ⟨x,H1,I1,r1,y,ex,hz,q⟩=>?_))
 subst ex
 obtain ⟨tk,rfl⟩:=r1
 exact ⟨hz,hr _ pins s1 σ H1 Q I1 q⟩
theorem jz {e1 e2:Expr} {rest:List Expr} (h:PJ X (e1 :: e2 :: rest) t):PE X (.JoinedStr (e1 :: e2 :: rest) pos) (fun σ H Q=>t Str.empty σ H Q):=fun pins s σ H Q I hw=>JoinedStr_many (h Str.empty pins s σ H Q I hw)
def SG (te:TE):TE:=fun σ H Q=>te σ H fun v H1=>∃ i,v=.int i∧i.natAbs.log2 < 1920∧Q (.str (toString i)) H1
theorem fe (he:PE X e te):PE X (.FormattedValue e (-1) none pos) (SG te):=by
 intro pins s σ H Q I h
 refine FormattedValue_plain (bu (he pins s σ H _ I h) fun v s1 ⟨x,H1,I1,r1,i,ex,hi,q⟩=>?_)
 subst ex
 obtain ⟨tk,rfl⟩:=r1
 exact formatField_int_small hi ⟨.str _,H1,I1.tok _,⟨_,rfl⟩,q⟩
theorem dU {i:Int} {n:Nat} (h:i.natAbs < 2 ^ n) (hn:n≤1920) (h0:0 < n):i.natAbs.log2 < 1920:=by
 by_cases z:i.natAbs=0
 ·rw [z];decide
 ·have:=(Nat.log2_lt z).mpr h
  omega
end
end L2
namespace L2
open PySem PySem.Spec PyProof.Rows
theorem PS.uX {X:Cx} {st:Stmt} {t:TS} (h:PS X.uX st t):PS X st t:=fun pins s σ H D I hw =>
 wpAny_mono (h pins s σ H D (I.sx _) hw) (fun _ _ q=>q.jH) fun _ _ z=>False.elim z
theorem ar {X:Cx}:l7 (i9 X.prog X.w) X E0:=fun _ _ _ _ _ _ _ h=>by obtain ⟨_,_,_,_,_,_,_,q⟩:=h;exact q.elim
structure Def (P:Program) (w:World) (K:PySem.W.Frag) (mg:Str→Option Value) (base:Heap) (k:Nat) (x:Str) (ps:List Str) (sp:Sp):Prop where
 ex:∃ (f:Addr) (fd:FuncData),bZ P w K mg base (i9 P w) k f fd ps sp∧mg x=some (.ref f)∧PySem.W.keepIn K (.ref f)=true∧Binds K fd ps []
section
variable {P:Program} {w:World} {K:PySem.W.Frag} {mg:Str→Option Value} {base:Heap}
theorem Def.mono {j k:Nat} {x:Str} {ps:List Str} {sp:Sp} (D:Def P w K mg base j x ps sp) (h:j≤k):Def P w K mg base k x ps sp:=let ⟨f,fd,a,r⟩:=D.ex;⟨f,fd,a.mono h,r⟩
structure aP (K:PySem.W.Frag) (mg:Str→Option Value) (x:Str) (st:Stmt):Prop where
 ex:∃ (f:Addr) (fd:FuncData),kL K x x st f fd∧mg x=some (.ref f)
theorem aP.mk' {h:Heap} {x:Str} {st:Stmt} {f:Addr} {oc:Value} {od an:Option Addr} {FK:Array (Option Value)} {kV doc pm bo ct:Value} (KX:K.In h) (G:h.Ns mainGlobals mg)
  (a:PySem.W.nsIn K mainGlobals x=some (some (.ref f))) (l:K.lookup f=some ⟨oc,od,.func (PySem.W.fnOf x x (bT st) (bG st) (aH st) .none kV doc pm an bo ct),FK⟩)
  (c:PySem.W.codeIn K bo x=true) (k:PySem.W.keepIn K (.ref f)=true):aP K mg x st:=⟨f,_,eM l c k,PySem.W.mg_of KX G a⟩
abbrev Ux (P:Program) (w:World) (K:PySem.W.Frag) (mg:Str→Option Value) (base:Heap) (N:List Str) (x:Str) (st:Stmt) (f:Addr) (bo:Value) (A:Around) (outer:List Env) (s:Shared) (H:Hp) (E:XK):Cx :=
 DE (i9 P w) P w K mg base N x (aH st) f bo A outer s H E
theorem bC {N:List Str} {x:Str} {st:Stmt} {f:Addr} {bo:Value} {A:Around} {outer:List Env} {s:Shared} {H:Hp} {E:XK}:Body (Ux P w K mg base N x st f bo A outer s H E) E:=⟨rfl,rfl,rfl,rfl⟩
theorem aP.def {x:Str} {st:Stmt} {N ps:List Str} {k:Nat} {sp:Sp} (F:aP K mg x st) (S:aQ N ps (aH st))
  (hb:∀ (kV doc pm:Value) (an:Option Addr) (bo ct:Value) (us:List Value),us.length=ps.length→bindArgs (PySem.W.fnOf x x (bT st) (bG st) (aH st) .none kV doc pm an bo ct) ⟨us,[]⟩=pure (ps.zip us))
  (len:∀ vs H Q E,sp vs H Q E→vs.length=ps.length)
  (rS:∀ (f:Addr) (bo:Value) (A:Around) (outer:List Env) (s:Shared) (H:Hp) (vs:List V) (Q:VK) (E:XK),dr k (A.deeper (envOfC x (aH st) s.heap.objs.size f bo))→sp vs H Q E →
   ∃ t,Cz (Ux P w K mg base N x st f bo A outer s H E) (bG st) t∧t { nx:=fun _ H'=>Q .bN H',rt:=Q } (start N vs) H):Def P w K mg base (k+1) x ps sp:=by
 obtain ⟨f,fd,F1,hm⟩:=F.ex
 have b:=F1.binds hb
 have kp:=F1.kp
 obtain ⟨oc,od,kV,doc,pm,an,bo,ct,FK,rfl,lk,yn⟩:=F1.ex
 exact ⟨f,_,FJ lk yn S len fun A outer s H vs Q E hr FL=>rS f bo A outer s H vs Q E hr FL,hm,kp,b⟩
end
section
variable {X:Cx} {k:Nat} {ps:List Str} {sp:Sp} {E:XK} {x:Str} {p pos:Pos} {e:Expr} {es:List Expr} {t:TA}
theorem aZ (D:Def X.prog X.w X.K X.mg X.base k x ps sp) (hr:dr k X.A) (hx:l7 (i9 X.prog X.w) X E) (ha:PA X (e :: es) t) (hg:Gl X x:=by rfl) (Ir:(x == ("__debug__":Str))=false:=by decide)
  (he:starEach (e :: es) X.env=(false,eval e X.env) :: starEach es X.env:=by rfl) (kK:(backTo pos (starEach es X.env)).any (·.1)=false:=by rfl) :
  PE X (.Call (.Name x p) (e :: es) [] pos) (Nh sp [] E t):=by
 obtain ⟨f,fd,F,hm,hk,hb⟩:=D.ex
 exact LR F hr hg hm hk hb .nil hx ha Ir he kK
end
end L2
namespace L2
open PySem PySem.Spec PyProof.Rows
section
variable {X:Cx}
def Nm (K:PySem.W.Frag):R2:=fun x y H Q=>∃ l b xs zs,x=.ref l∧y=.ref b∧aX K H l xs∧aX K H b zs∧xs.length+zs.length≤sizeLine∧∀ p,H p=none→Q (.ref p) (upd H p (.lst (xs ++ zs)))
theorem Lc:nS X (binaryOp .Add) (Nm X.K):=by
 intro pins s σ H x y v u Q I rx ry h
 obtain ⟨l,b,xs,zs,rfl,rfl,hH,hB,hz,q⟩:=h
 cases rx
 cases ry
 obtain ⟨ai,r,pl,_⟩:=I.list hH
 obtain ⟨iP,r2,WL,_⟩:=I.list hB
 obtain ⟨⟨cls,dd,data,sl⟩,ho,hc,n,hd⟩:=id pl.isList
 obtain ⟨⟨aA8,dd2,data2,Uw⟩,Uy,Nn,n2,hd2⟩:=id WL.isList
 simp only at hc hd Nn hd2
 subst hc hd Nn hd2
 have e:ai.toArray ++ iP.toArray=(ai ++ iP).toArray:=by simp
 have hsz:ai.toArray.size+iP.toArray.size≤sizeLine:=by
  rw [List.size_toArray,List.size_toArray,← r.length,← r2.length];exact hz
 refine concat_meets ⟨_,ho,rfl⟩ ⟨_,Uy,rfl⟩ noFill_list_add seq_list_add PySem.F.slot_list_add PySem.F.entry_list_add (PySem.F.args_list_add_2 _ _) (list_addW l b ai.toArray iP.toArray n n2 dd dd2 sl Uw hsz) ⟨ho,Uy,?_⟩
 rw [e]
 exact ⟨.ref _,_,I.R0 (t':=s.toks) (r.append r2) (by rw [List.length_append];exact hz),rfl,q _ I.fresh⟩
inductive Yk (K:PySem.W.Frag) (H:Hp):V→Value→Prop where
 | of {x:V} {t:Value}:vA K H x t→Yk K H x t
 | exc {a C:Addr}:H a=some (.ext (ExcAt a C))→tH K C→Yk K H (.ref a) (.ref C)
end
end L2
namespace L2
open PySem PySem.Spec PyProof.Rows
end L2
namespace L2
open PySem PySem.Spec PyProof.Rows
def y0 (K:PySem.W.Frag):Sp:=fun vs H Q _=>∃ (a:Addr) (ns:List Int),vs=[.ref a]∧aX K H a (ns.map V.int)∧ns.length≤63∧∀ H',Q (.bl true) H'
section
variable {P:Program} {w:World} {K:PySem.W.Frag} {mg:Str→Option Value} {base:Heap}
theorem kL.ok1 {x:Str} {st:Stmt} {f:Addr} {fd:FuncData} {N ps:List Str} {k:Nat} {sp:Sp} (F:kL K x x st f fd) (S:aQ N ps (aH st)) (len:∀ vs H Q E,sp vs H Q E→vs.length=ps.length)
  (rS:∀ (f:Addr) (bo:Value) (A:Around) (outer:List Env) (s:Shared) (H:Hp) (vs:List V) (Q:VK) (E:XK),dr k (A.deeper (envOfC x (aH st) s.heap.objs.size f bo))→sp vs H Q E →
   ∃ t,Cz (Ux P w K mg base N x st f bo A outer s H E) (bG st) t∧t { nx:=fun _ H'=>Q .bN H',rt:=Q } (start N vs) H):bZ P w K mg base (i9 P w) (k+1) f fd ps sp:=by
 obtain ⟨oc,od,kV,doc,pm,an,bo,ct,FK,rfl,lk,yn⟩:=F.ex
 exact FJ lk yn S len fun A outer s H vs Q E hr FL=>rS f bo A outer s H vs Q E hr FL
theorem JG {st:Stmt} {fa:Addr} {k:Nat} (S:aP K mg "law" st)
  (hb:∀ (kV doc pm:Value) (an:Option Addr) (bo ct:Value) (us:List Value),us.length=1→bindArgs (PySem.W.fnOf "law" "law" (bT st) (bG st) (aH st) .none kV doc pm an bo ct) ⟨us,[]⟩=pure ((["script"]:List Str).zip us))
  (Ow:mg "law"=some (.ref fa)) (hF:∀ (f:Addr) (fd:FuncData) (base:Heap),kL K "law" "law" st f fd→bZ P w K mg base (i9 P w) k f fd ["script"] (y0 K)) :
  ∃ fd:FuncData,(∀ (s:Shared) (u:Value),BindsTo s fd ⟨[u],[]⟩ [("script",u)])∧∀ base:Heap,K.In base→base.Ns mainGlobals mg→bZ P w K mg base (i9 P w) k fa fd ["script"] (y0 K):=by
 obtain ⟨f,fd,F,hm⟩:=S.ex
 rw [Ow] at hm
 cases hm
 refine ⟨fd,?_,fun base _ _=>hF fa fd base F⟩
 obtain ⟨oc,od,kV,doc,pm,an,bo,ct,FK,rfl,lk,yn⟩:=F.ex
 exact fun s u=>.of_eq (hb kV doc pm an bo ct [u] rfl)
end
theorem JH {l:PySem.W.OpenLaw} {k:Nat} {q:Program} {loose:List Str} {XP:(Str→Option Value)→Heap→Prop} {YP:World→Heap→Prop} {d:DefRec} {K:Params→PySem.W.Frag}
  (hr:dr k callerA) (hn:l.most=some 63) (R3:d.params.defaults=[])
  (hY:∀ (w:World) (h:Heap),YP w h→(K w.params).In h)
  (F:∀ (w:World) (mg:Str→Option Value) (fa:Addr) (h:Heap),(K w.params).In h→h.Ns mainGlobals mg→mg d.name=some (.ref fa) →
   ∃ fd:FuncData,(∀ (s:Shared) (u:Value),BindsTo s fd ⟨[u],[]⟩ [("script",u)]) ∧
    ∀ base:Heap,(K w.params).In base→base.Ns mainGlobals mg→bZ l.prog w (K w.params) mg base (i9 l.prog w) k fa fd ["script"] (y0 (K w.params))) :
  PySem.W.WalkO q loose XP YP l.row.toRowW d [] (fun f vs=>PySem.call f vs) :=
 La (n:=63) (k:=k) (x:="script") (CX:=fun w=>i9 l.prog w) (sp:=fun w=>y0 (K w.params)) hn (by decide) R3 hr hY F (fun _ _ a ns hl _ hS=>⟨a,ns,rfl,hS,hl,fun _=>rfl⟩)
  fun _ _ _ _ _ h=>by obtain ⟨_,_,_,_,_,_,_,q⟩:=h;exact q.elim
theorem aS {X:Cx} {x:Str} {n:Int} {pos:Pos} (h:∃ tk,X.mg x=some (.int n tk)) (hg:Gl X x:=by rfl) (hd:(x == ("__debug__":Str))=false:=by decide):PE X (.Name x pos) (tC (.int n)):=by
 obtain ⟨tk,e⟩:=h
 exact E7 hg e ⟨tk,rfl⟩ hd
end L2
namespace L2
open PySem
theorem dW {p A B:Prop} [Decidable p] (hp:¬ p) (h:B):if decide p=true then A else B:=by rw [decide_eq_false hp];exact dh h
theorem eN {p A B:Prop} [Decidable p] (hp:p) (h:A):if decide p=true then A else B:=by rw [decide_eq_true hp];exact fc h
theorem rX {p A B:Prop} [Decidable p] (hp:p) (h:B):if (!decide p)=true then A else B:=by rw [decide_eq_true hp];exact dh h
theorem uc {p A B:Prop} [Decidable p] (hp:¬ p) (h:A):if (!decide p)=true then A else B:=by rw [decide_eq_false hp];exact fc h
theorem dt {n:Int} (h:-1000≤n) (h2:n≤1000):n.natAbs < 2 ^ 1000:=by
 have:n.natAbs≤1000:=by omega
 exact Nat.lt_of_le_of_lt this (by decide)
theorem aI.put {H H':Hp} {p:Addr} {o:HO} (s:aI H H') (hp:H p=none):aI H (upd H' p o):=fun b u e=>by rw [aE (aK e hp)];exact s b u e
theorem aI.new {H H':Hp} {p:Addr} {o:HO} (s:aI H H') (hp:H' p=none):aI H (upd H' p o):=s.put (s.free hp)
end L2
namespace L2
open PySem
end L2
namespace L2
open PySem PySem.Spec PyProof.Rows
theorem O5 {X:Cx} {E:XK} (Bd:Body X E):PassesOwn (model X.prog X.w) X.A X.env X.xe:=by
 rw [Bd.xe]
 exact PassesOwn.leaving
inductive Alike (K:PySem.W.Frag) (H:Hp):Nat→V→V→Prop where
 | int {n:Nat} (i:Int):Alike K H n (.int i) (.int i)
 | bl {n:Nat} (i:Bool):Alike K H n (.bl i) (.bl i)
 | str {n:Nat} (i:Str):Alike K H n (.str i) (.str i)
 | bN {n:Nat}:Alike K H n .bN .bN
 | lst {n:Nat} {a b:Addr} {xs ys:List V} (ha:aX K H a xs) (hb:aX K H b ys) (hl:xs.length=ys.length) (h:∀ (j:Nat) (x y:V),xs[j]?=some x→ys[j]?=some y→Alike K H n x y):Alike K H (n+1) (.ref a) (.ref b)
theorem all_true (n:Nat):(List.range n).all (fun _=>true)=true:=by simp
section
variable {X:Cx} {pins:List (Addr × Obj)} {σ:St} {H:Hp} {s:Shared}
theorem iQ {xs:List V} {ai:List Value} (r:au xs ai) (j:Nat) (h:j < ai.toArray.size):∃ x,xs[j]?=some x∧RelV x ai.toArray[j]:=by
 have hj:j < ai.length:=by simpa using h
 have hl:=r.length
 have hx:xs[j]?=some xs[j]:=by simp [show j < xs.length by omega]
 obtain ⟨u,hu,ru⟩:=r.get hx
 refine ⟨_,hx,?_⟩
 have e:ai.toArray[j]=u:=by
  have:=hu
  rw [List.getElem?_eq_getElem hj] at this
  simpa using Option.some.inj this
 rw [e]
 exact ru
end
section
variable {X:Cx}
theorem Ge {A:Around} {k:Nat} (hr:dr k A):A.units+16 < cLine:=by have:=hr.un;omega
end
end L2
namespace L2
open PySem PySem.Spec PyProof.Rows
section
variable {prog:Program} {w:World} {A:Around} {s:Shared} {R:Result→Shared→Prop} {I S:Addr} {fp wr:List Addr} {G:Array GenState→Array GenState→Prop} {n:Nat} {P:Nat→Value→Prop} {St:Nat→Shared→Prop} {T:String}
theorem JI (W:WalksS prog w A.in1 I fp wr G n P St) (hT:∀ i s,St i s→s.TypeIs (.ref I) T) (t1:(Value.type T == Value.type "list")=false) (t2:(Value.type T == Value.type "tuple")=false)
  (hh:∀ (s:Shared) (Q:Bool→Shared→Prop) (E:Value→Shared→Prop),St 0 s→Q false s→wpAny (model prog w) A.in1 (Builtin.List.listLengthHint (.ref I)) Q E s)
  (res:Value) (c0:Nat) (si:St 0 s) (Uz:S ∉ fp) (hI:I ∈ fp) (hS:s.heap.get? S=some { cls:=.type "list",data:=.seq #[] c0 }) (hn:n≤sizeLine)
  (hR:∀ s' nT c',Moved (S :: wr) G s s'→s'.heap.get? S=some { cls:=.type "list",dict:=none,data:=.seq nT c',slots:=#[] }→ItemsOf P nT n→R (.ok (.ret res)) s') :
  wpAny (model prog w) A.in1 (Builtin.List.listExtendWith (.ref S) (.ref I) res)
   (fun fin s'=>match fin with | .done f=>R (.ok f) s' | .again c'=>c'.quiet=true∧codeAny (model prog w) A c' R s') (fun e s'=>R (.error e) s') s:=by
 have ne:S≠I:=fun e=>Uz (by rw [e];exact hI)
 have h1:Builtin.List.listSameRef (.ref S) (.ref I)=false:=by simp [Builtin.List.listSameRef,ne]
 unfold Builtin.List.listExtendWith
 refine wpAny_bind (wpAny_typeOf (hT 0 s si) ?_)
 simp only [h1,t1,t2,Bool.or_false,Bool.false_eq_true,if_false]
 refine wpAny_bind (W.self 0 s _ _ si (wpAny_bind (wpAny_holding (hh s _ _ si ?_))))
 refine wpAny_ite_split (fun _=>?_) (fun _=>?_)
 ·refine wpAny_bind (wpAny_rule (wpAny_bind ?_))
  show wpAny _ A.in1 (updateSeq S (·.push .none) >>= fun _=>updateSeq S (·.pop)) _ _ s
  refine wpAny_bind (wpAny_updateSeq hS rfl ?_)
  have U0:=Heap.get?_update_self (Obj.mapSeq (·.push Value.none)) hS rfl
  refine wpAny_updateSeq (hz:=by seq_fits) U0 rfl ?_
  have hS3:=Heap.get?_update_self (Obj.mapSeq (·.pop)) U0 rfl
  have kp:∀ b o,b≠S→s.heap.get? b=some o→((s.heap.update S (Obj.mapSeq (·.push Value.none))).update S (Obj.mapSeq (·.pop))).get? b=some o:=fun b o hb e=>by
   rw [Heap.get?_update_other _ _ (Ne.symm hb),Heap.get?_update_other _ _ (Ne.symm hb)];exact e
  exact wpAny_pure ⟨plainId_quiet F.plain_extend_loop _,codeAny_extend_loopS W hn S Uz res n 0 _ _ _ rfl (Nat.zero_le n) (W.frame 0 s _ s.toks si (Nat.le_refl _) fun b hb o e=>kp b o (fun z=>Uz (by rw [← z];exact hb)) e) hS3 (ItemsOf.nil P)
   fun s' nT c' hm O6 DI=>hR s' nT c' (Moved.trans W.gtrans ((Moved.refl W.grefl).then_heap (Nat.le_refl _) fun b o hb e=>kp b o (fun z=>hb (by rw [z];exact List.mem_cons_self)) e) hm) O6 DI⟩
 ·exact wpAny_pure ⟨plainId_quiet F.plain_extend_loop _,codeAny_extend_loopS W hn S Uz res n 0 s #[] c0 rfl (Nat.zero_le n) si hS (ItemsOf.nil P) fun s' nT c' hm O6 DI=>hR s' nT c' hm O6 DI⟩
theorem Gf {E:Value→Shared→Prop} {Q:Value→Shared→Prop} (W:WalksS prog w A.in1.in1 I fp wr G n P St) (hT:∀ i s,St i s→s.TypeIs (.ref I) T) (t1:(Value.type T == Value.type "list")=false) (t2:(Value.type T == Value.type "tuple")=false)
  (hh:∀ (s:Shared) (Q:Bool→Shared→Prop) (E:Value→Shared→Prop),St 0 s→Q false s→wpAny (model prog w) A.in1.in1 (Builtin.List.listLengthHint (.ref I)) Q E s)
  (si:St 0 s) (R6:∀ b ∈ fp,b < s.heap.objs.size) (hI:I ∈ fp) (hn:n≤sizeLine)
  (hQ:∀ s' nT c',Moved (s.heap.objs.size :: wr) G { s with heap:=s.heap.push { cls:=.type "list",data:=.seq #[] } } s' →
   s'.heap.get? s.heap.objs.size=some { cls:=.type "list",dict:=none,data:=.seq nT c',slots:=#[] }→ItemsOf P nT n→Q (.ref s.heap.objs.size) s') :
  wpAny (model prog w) A (call (.type "list") [.ref I]) Q E s:=by
 have nf:s.heap.objs.size ∉ fp:=fun z=>absurd (R6 _ z) (Nat.lt_irrefl _)
 refine callType_codes (Q₁:=fun obj z=>obj=.ref s.heap.objs.size∧z={ s with heap:=s.heap.push { cls:=.type "list",data:=.seq #[] } }) F.called_list (F.typeCall_list_1 _) F.entry_list_init (code_list_new _ ⟨rfl,rfl⟩) fun obj z hz=>?_
 obtain ⟨rfl,rfl⟩:=hz
 have hS:(s.heap.push { cls:=.type "list",data:=.seq #[] }).get? s.heap.objs.size=some { cls:=.type "list",data:=.seq #[] }:=Heap.get?_push_size _ rfl
 refine ⟨⟨_,hS,rfl⟩,F.args_list_init_2 _ _,?_⟩
 have O7:=W.frame 0 s (s.heap.push { cls:=.type "list",data:=.seq #[] }) s.toks si (Nat.le_refl _) fun b _ o e=>Heap.get?_push_of_some _ e
 show wpAny _ A.in1.in1 (do let old ← Builtin.List.listItems (.ref s.heap.objs.size);Builtin.List.listUpdate (.ref s.heap.objs.size) (fun _=>#[]);letGo old.toList.reverse;Builtin.List.listExtendWith (.ref s.heap.objs.size) (.ref I) .none) _ _ _
 refine wpAny_bind ?_
 unfold Builtin.List.listItems
 refine wpAny_bind (wpAny_seqItems hS rfl (wpAny_pure (wpAny_bind (wpAny_updateSeq hS rfl ?_))))
 have U0:=Heap.get?_update_self (Obj.mapSeq (fun _=>(#[]:Array Value))) hS rfl
 have kp:∀ b o,b≠s.heap.objs.size→(s.heap.push { cls:=.type "list",data:=.seq #[] }).get? b=some o→((s.heap.push { cls:=.type "list",data:=.seq #[] }).update s.heap.objs.size (Obj.mapSeq (fun _=>(#[]:Array Value)))).get? b=some o :=
  fun b o hb e=>(Heap.get?_update_other _ _ (Ne.symm hb)).trans e
 refine wpAny_bind (wpAny_letGo ?_)
 refine JI W hT t1 t2 hh .none _ (W.frame 0 _ _ s.toks O7 (Nat.le_refl _) fun b hb o e=>kp b o (fun z=>nf (by rw [← z];exact hb)) e) nf hI U0 hn fun s' nT c' hm O6 DI=>?_
 exact ⟨rfl,hQ s' nT c' (Moved.trans W.gtrans ((Moved.refl W.grefl).then_heap (Nat.le_refl _) fun b o hb e=>kp b o (fun z=>hb (by rw [z];exact List.mem_cons_self)) e) hm) O6 DI⟩
end
theorem Gg:typeLookup (.type "list_reverseiterator") "__len__"=pure none:=by rw [typeLookup_type,builtinLookup_eq_fast];kernel_rfl
theorem JJ:typeLookup (.type "list_reverseiterator") "__length_hint__"=pure (some (.builtin "list_reverseiterator.__length_hint__")):=by rw [typeLookup_type,builtinLookup_eq_fast];kernel_rfl
theorem JK {prog:Program} {w:World} {A:Around} {s:Shared} {E:Value→Shared→Prop} {Q:Bool→Shared→Prop} {it l:Addr} {i:Int} (hit:s.heap.IsRevIter it l i) (h:Q false s) :
  wpAny (model prog w) A (Builtin.List.listLengthHint (.ref it)) Q E s:=by
 unfold Builtin.List.listLengthHint
 refine wpAny_bind (wpAny_specialOf hit.typeIs Gg ?_)
 show wpAny _ A (specialOf (Value.ref it) (Str.ofString "__length_hint__") >>= _) _ _ _
 refine wpAny_bind (wpAny_specialOf hit.typeIs JJ ?_)
 generalize Yl:("list_reverseiterator.__length_hint__":String)=id0
 wp_delta
 rw [show splitId id0=some ("list_reverseiterator","__length_hint__") from by subst Yl;decide +kernel]
 subst Yl
 refine wpAny_bind (wpAny_isInstance (T:="list_reverseiterator") (b:=true) hit.typeIs (by rw [isSubtype_type];kernel_rfl) ?_)
 refine wpAny_ite_split (fun z=>absurd z (by decide)) (fun _=>?_)
 refine wpAny_ite_split (fun _=>?_) (fun z=>absurd (by decide +kernel) z)
 exact wpAny_ite_split (fun z=>absurd z (by decide +kernel)) (fun _=>wpAny_pure h)
section
variable {X:Cx}
def SH (K:PySem.W.Frag) (te:TE):TE:=fun σ H Q=>te σ H fun v H1=>∃ l xs,v=.ref l∧aX K H1 l xs∧∀ q,H1 q=none→Q (.ref q) (upd H1 q (.lst xs.reverse))
theorem tI {e:Expr} {te:TE} {p p2 pos Ld:Pos} (hc:X.calm=true) (Ym:X.mg "list"=none) (hmr:X.mg "reversed"=none) (he:PE X e te) (hgl:Gl X "list":=by rfl) (hgr:Gl X "reversed":=by rfl)
  (hs:starEach [e] X.env=[(false,eval e X.env)]:=by rfl) (GN:starEach [Expr.Call (.Name "reversed" p2) [e] [] Ld] X.env=[(false,eval (Expr.Call (.Name "reversed" p2) [e] [] Ld) X.env)]:=by rfl) :
  PE X (.Call (.Name "list" p) [.Call (.Name "reversed" p2) [e] [] Ld] [] pos) (SH X.K te):=by
 intro pins s σ H Q I h
 refine wpAny_Call_Name_kw (l3 I hgl Ym boot_list ?_ (by decide) (by decide))
 refine PyProof.Rows.callWith_type1 ?_ GN rfl
 rw [GN]
 show wpAny _ _ (spliced [(false,eval (Expr.Call (.Name "reversed" p2) [e] [] Ld) X.env)]) _ _ s
 refine Calls.spliced_cons (wpAny_Call_Name_kw (l3 I hgr hmr boot_reversed ?_ (by decide) (by decide)))
 refine PyProof.Rows.callWith_type1 ?_ hs rfl
 rw [hs]
 show wpAny _ _ (spliced [(false,eval e X.env)]) _ _ s
 refine Calls.spliced_cons (bu (he pins s σ H _ I h) fun v s1 ⟨x,H1,I1,r1,q1⟩=>Calls.spliced_nil ?_)
 obtain ⟨l,xs,rfl,hq,q⟩:=q1
 cases r1
 obtain ⟨ai,rv,pl,hz⟩:=I1.list hq
 have hlen:=rv.length
 refine call_reversed_list pl.isList (Calls.spliced_nil ?_)
 have fE:l < s1.heap.objs.size:=by
  obtain ⟨o,n,ho,_⟩:=pl
  exact Heap.lt_size ho
 have WM:l≠s1.heap.objs.size:=Nat.ne_of_lt fE
 have W:=(Walks.listRev (prog:=X.prog) (w:=X.w) (A:=X.A.in1.in1) (I.ok.hd hc) s1.heap.objs.size l WM ai.toArray).toS
 have U1:(s1.heap.push (revObj l ((ai.toArray.size:Int) - 1))).objs.size=s1.heap.objs.size+1:=Heap.size_push ..
 have WL:(s1.heap.push (revObj l ((ai.toArray.size:Int) - 1))).IsList l ai.toArray:=pl.isList.at fun o e=>Heap.get?_push_of_some _ e
 refine Gf W (T:="list_reverseiterator") (fun i s' st=>st.2.1.typeIs) (by decide) (by decide) (fun s' Q' E' st Oh=>JK st.2.1 Oh) ⟨Nat.zero_le _,⟨_,Heap.get?_push_size _ rfl,rfl,by unfold revObj;simp⟩,WL⟩ (fun b hb=>?_) (by simp) (by simp;omega) fun s' nT c' hm O6 DI=>?_
 ·have SI:b=s1.heap.objs.size∨b=l:=by simpa using hb
  show b < (s1.heap.push (revObj l ((ai.toArray.size:Int) - 1))).objs.size
  rw [U1]
  rcases SI with rfl | rfl
  ·exact Nat.lt_succ_self _
  ·exact Nat.lt_succ_of_lt fE
 ·have ea:nT=ai.reverse.toArray:=by
   obtain ⟨a1,a2⟩:=DI
   apply Array.ext'
   apply List.ext_getElem?
   intro j
   by_cases hj:j < ai.length
   ·have K3:j < nT.size:=by rw [a1];simpa using hj
    have g:=a2 j nT[j] (by simp [K3])
    have e1:nT.toList[j]?=some nT[j]:=by simp [K3]
    rw [e1]
    simp only [List.getElem?_toArray,List.size_toArray] at g
    show _=ai.reverse[j]?
    rw [List.getElem?_reverse hj,g]
   ·have:nT.toList[j]?=none:=by simp;rw [a1];simp;omega
    rw [this]
    simp
    omega
  subst ea
  rw [Moved.eq_with hm]
  have kp:∀ b o,s1.heap.get? b=some o→s'.heap.get? b=some o:=fun b o eb=>by
   have Yn:=Heap.lt_size eb
   refine hm.heap b o (fun z=>?_) (Heap.get?_push_of_some _ (Heap.get?_push_of_some _ eb))
   have z':b=(s1.heap.push (revObj l ((ai.toArray.size:Int) - 1))).objs.size∨b=s1.heap.objs.size:=by simpa using z
   rw [U1] at z'
   rcases z' with z' | z'
   ·exact absurd Yn (by rw [z'];exact Nat.not_lt.mpr (Nat.le_succ _))
   ·exact absurd Yn (by rw [z'];exact Nat.lt_irrefl _)
  refine ⟨.ref _,_,I1.laid (t':=s'.toks) (o:=.lst xs.reverse) (a:=(s1.heap.push (revObj l ((ai.toArray.size:Int) - 1))).objs.size) kp (by rw [U1];omega) ?_,rfl,q _ (I1.bw.fresh (by rw [U1];omega))⟩
  exact ⟨by rw [List.length_reverse];exact hz,ai.reverse,c',rv.reverse,O6⟩
end
end L2
namespace L2
open PySem PySem.Spec PyProof.Rows
def FU (Nc:List Str) (ix:List (Option Nat)) (scope sc:Scope) (N:List Str):Bool :=
 decide (scope.kind=.function) && decide Nc.Nodup && decide (ix.length=Nc.length) &&
 (scope.names.all fun x=>decide (x.2=.local→scope.names.lookup x.1=some .local)) &&
 (scope.names.all fun x=>decide (x.2=.free→sc.names.lookup x.1=some .cell∨sc.names.lookup x.1=some .free)) &&
 (scope.names.all fun x=>decide (x.2=.free→(x.1,NameKind.cell) ∉ scope.names)) &&
 ((ix.zip Nc).all fun p=>match p.1 with | none=>true | some j=>decide (N[j]?=some p.2∧scope.names.lookup p.2=some .free))
theorem dE {X:Cx} {Nc:List Str} {ix:List (Option Nat)} {scope:Scope} (sc:Scope) (N:List Str) (DJ:X.env.scope=sc) (hN:X.N=N) (h:FU Nc ix scope sc N=true):fU X Nc ix scope:=by
 subst DJ hN
 simp only [FU,Bool.and_eq_true,decide_eq_true_eq,List.all_eq_true] at h
 obtain ⟨⟨⟨⟨⟨⟨h1,h2⟩,h3⟩,h4⟩,h5⟩,h6⟩,h7⟩:=h
 refine ⟨h1,h2,h3,h4,h5,fun x hx=>h6 _ hx rfl,fun i j x e1 e2=>?_⟩
 have hm:(some j,x) ∈ ix.zip Nc:=by
  refine List.mem_iff_getElem?.mpr ⟨i,?_⟩
  rw [List.getElem?_zip_eq_some]
  exact ⟨e1,e2⟩
 have:=h7 _ hm
 simpa using this
end L2
namespace L2
open PySem PySem.Spec PyProof.Rows
section
variable {K:PySem.W.Frag} {g:TG} {tt:TT} {te:TE} {D:Addr} {σ:St} {H:Hp} {Q:VK}
theorem rY {a:Addr} {xs:List V} (Pv:Nat→St→Hp→Prop) (h0:Pv 0 σ H) (hl:∀ i σ H,i≤xs.length→Pv i σ H→aX K H a xs)
  (hs:∀ (i:Nat) (x:V) (σ:St) (H:Hp) (N:St→Hp→Prop),(∀ σ H,Pv (i+1) σ H→N σ H)→xs[i]?=some x→Pv i σ H→g x σ H fun σ3 H3=>tt σ3 H3 fun b H4 =>
   if b=true then te σ3 H4 fun v H5=>∃ ys,H5 D=some (.lst ys)∧ys.length < sizeLine∧N σ3 (upd H5 D (.lst (ys ++ [v]))) else N σ3 H4)
  (hd:∀ σ H,Pv xs.length σ H→Q (.ref D) H) :
  ua (OX K a) g tt te D σ H Q:=by
 refine ⟨fun i m σ H=>m=xs.length - i∧i≤xs.length∧Pv i σ H,⟨xs.length,by simp,Nat.zero_le _,h0⟩,?_⟩
 rintro i m σ' H' ⟨rfl,hi,p⟩
 have q:=hl i σ' H' hi p
 by_cases fE:i < xs.length
 ·refine .inr ⟨⟨xs,xs[i],q,by simp [fE]⟩,fun x H2 y=>?_⟩
  obtain ⟨e,y⟩:=y
  subst e
  exact hs i x σ' _ (fun σ3 H3=>∃ m',m' < xs.length - i∧m'=xs.length - (i+1)∧i+1≤xs.length∧Pv (i+1) σ3 H3) (fun σ3 H3 z=>⟨xs.length - (i+1),by omega,rfl,fE,z⟩) (y xs q) p
 ·have e:i=xs.length:=by omega
  subst e
  exact .inl ⟨⟨xs,q,Nat.le_refl _⟩,hd σ' H' p⟩
theorem lH {lo:Int} {n:Nat} (Pv:Nat→St→Hp→Prop) (h0:Pv 0 σ H)
  (hs:∀ (i:Nat) (σ:St) (H:Hp) (N:St→Hp→Prop),(∀ σ H,Pv (i+1) σ H→N σ H)→i < n→Pv i σ H→g (.int (lo+i)) σ H fun σ3 H3=>tt σ3 H3 fun b H4 =>
   if b=true then te σ3 H4 fun v H5=>∃ ys,H5 D=some (.lst ys)∧ys.length < sizeLine∧N σ3 (upd H5 D (.lst (ys ++ [v]))) else N σ3 H4)
  (hd:∀ σ H,Pv n σ H→Q (.ref D) H) :
  ua (LN lo n) g tt te D σ H Q:=by
 refine ⟨fun i m σ H=>m=n - i∧i≤n∧Pv i σ H,⟨n,by simp,Nat.zero_le _,h0⟩,?_⟩
 rintro i m σ' H' ⟨rfl,hi,p⟩
 by_cases fE:i < n
 ·refine .inr ⟨fE,fun x H2 y=>?_⟩
  obtain ⟨e,y⟩:=y
  subst e y
  exact hs i σ' _ (fun σ3 H3=>∃ m',m' < n - i∧m'=n - (i+1)∧i+1≤n∧Pv (i+1) σ3 H3) (fun σ3 H3 z=>⟨n - (i+1),by omega,rfl,fE,z⟩) fE p
 ·have e:i=n:=by omega
  subst e
  exact .inl ⟨Nat.le_refl _,hd σ' H' p⟩
end
theorem mC {ns:List Int} {i:Nat} {y:V} (h:(ns.map V.int)[i]?=some y):∃ z,ns[i]?=some z∧y=V.int z:=by
 rw [List.getElem?_map] at h
 cases e:ns[i]? with
 | none=>rw [e] at h;cases h
 | some z=>rw [e] at h;exact ⟨z,rfl,(Option.some.inj h).symm⟩
theorem take_succ {α:Type} {l:List α} {i:Nat} {x:α} (h:l[i]?=some x):l.take (i+1)=l.take i ++ [x]:=by
 rw [List.take_succ,h];rfl
end L2
namespace L2
open PySem
end L2
namespace L2
open PySem
theorem de {i:Nat} {x:V} {σ:St} {H:Hp} {A B:St→Hp→Prop} (h:A (σ.set i (some x)) H):jI i x σ H fun σ3 H3=>O0 σ3 H3 fun b H4=>if b=true then A σ3 H4 else B σ3 H4:=by
 show if true=true then A (σ.set i (some x)) H else B (σ.set i (some x)) H
 exact fc h
end L2
namespace L2
open PySem PySem.Spec PyProof.Rows
section
variable {X:Cx} {pins:List (Addr × Obj)} {σ:St} {H:Hp} {s:Shared} {h':Heap}
theorem Inv.FV {ch:List Addr} {t':Nat} (I:Inv X pins σ H s) (k:∀ b o,b ∉ ch→s.heap.get? b=some o→h'.get? b=some o) (hf:∀ b ∈ ch,sy X pins H b):Inv X pins σ H { s with heap:=h',toks:=t' }:=by
 have SJ:∀ b u,H b=some u→b ∉ ch:=fun b u e z=>by rw [(hf b z).1] at e;cases e
 refine I.IY (s':={ s with heap:=h',toks:=t' }) (ch:=ch) rfl ⟨fun b o e _ _ hx=>k b o hx e,fun b o e _ _ hx=>⟨o.slots,k b o hx e⟩,fun _ _ _ n _=>n,fun b o e hx=>⟨o,k b o hx e⟩,fun _ _ e=>e,fun _ _ _ e=>e,fun b ps e=>⟨#[],by rw [e];simp⟩⟩ ?_ I.bare fun b hb=>?_
 ·intro b o e
  refine (I.bw b o e).A7 (fun c u hc q=>k c u ?_ q) (fun _ q=>q) fun _ _ q=>q
  rcases hc with z | z
  ·rw [z];exact SJ b o e
  ·exact SJ c _ z
 ·obtain ⟨_,q1,_,q3,q4,q5⟩:=hf b hb
  exact ⟨q3,q1,q4,q5⟩
theorem Inv.y8 {ch:List Addr} {T:Addr} {o:HO} {t':Nat} (I:Inv X pins σ H s) (k:∀ b o,b ∉ ch→s.heap.get? b=some o→h'.get? b=some o) (hf:∀ b ∈ ch,sy X pins H b) (hT:s.heap.objs.size≤T)
  (new:cI X.prog X.w (upd H T o) h' T o):Inv X pins σ (upd H T o) { s with heap:=h',toks:=t' }:=by
 have SJ:∀ b u,H b=some u→b ∉ ch:=fun b u e z=>by rw [(hf b z).1] at e;cases e
 have hn:=I.bw.fresh hT
 have old:∀ b u,s.heap.get? b=some u→b≠T:=fun b u e=>Nat.ne_of_lt (Nat.lt_of_lt_of_le (Heap.lt_size e) hT)
 refine I.IY (s':={ s with heap:=h',toks:=t' }) (ch:=ch) rfl ⟨fun b o e _ _ hx=>k b o hx e,fun b o e _ _ hx=>⟨o.slots,k b o hx e⟩,fun b u e n _=>by rw [aE (old b u e)];exact n,fun b o e hx=>⟨o,k b o hx e⟩,
  fun b xs e=>by rw [aE (aK e hn)];exact e,fun b o u e=>by rw [aE (aK e hn)];exact e,fun b ps e=>⟨#[],by rw [aE (aK e hn),e];simp⟩⟩ ?_ I.bare fun b hb=>?_
 ·intro b u e
  by_cases hb:b=T
  ·subst hb
   rw [aB] at e
   cases e
   exact new
  ·rw [aE hb] at e
   refine (I.bw b u e).A7 (fun c v hc q=>k c v ?_ q) (fun c q=>by rw [aE (aK q hn)];exact q) fun c xs q=>by rw [aE (aK q hn)];exact q
   rcases hc with z | z
   ·rw [z];exact SJ b u e
   ·exact SJ c _ z
 ·obtain ⟨_,q1,_,q3,q4,q5⟩:=hf b hb
  exact ⟨q3,q1,q4,q5⟩
end
def O8 (K:PySem.W.Frag) (a b:Addr):It :=
 ⟨fun i H=>∃ xs ys x y,aX K H a xs∧aX K H b ys∧xs[i]?=some x∧ys[i]?=some y,
  fun i H v H'=>∃ p x y,H p=none∧v=.ref p∧H'=upd H p (.tup [x,y])∧(∀ xs,aX K H a xs→xs[i]?=some x)∧∀ ys,aX K H b ys→ys[i]?=some y,
  fun i H=>∃ xs ys,aX K H a xs∧aX K H b ys∧(xs.length≤i∨ys.length≤i)⟩
theorem JL {P:Program} {w:World} {K:PySem.W.Frag} {elts:List Expr} {x1:Nat} {pos:Pos} {z TI TO i1 i2 l1 l2:Addr} (D:ZipApart z TI TO i1 i2 l1 l2) :
  Turn P w K (.Tuple elts x1 pos) (O8 K l1 l2) [z,TI,TO,i1,i2] z (fun i h=>IsZip h z TI TO .none∧IsPair h TI (.ref i1) (.ref i2)∧(∃ a b,IsPair h TO a b)∧h.IsListIter i1 l1 i∧h.IsListIter i2 l2 i) where
 mem:=by simp
 obj:=fun i h st b hb=>by
  obtain ⟨hz,qO,⟨a,b',sj⟩,⟨o1,e1,c1,d1⟩,⟨o2,e2,c2,d2⟩⟩:=st
  simp only [List.mem_cons,List.not_mem_nil,or_false] at hb
  rcases hb with rfl | rfl | rfl | rfl | rfl
  ·exact ⟨_,hz,fun v q=>by cases q⟩
  ·exact ⟨_,qO,fun v q=>by cases q⟩
  ·exact ⟨_,sj,fun v q=>by cases q⟩
  ·exact ⟨_,e1,fun v q=>by rw [d1] at q;cases q⟩
  ·exact ⟨_,e2,fun v q=>by rw [d2] at q;cases q⟩
 keep:=fun i h h' st k=>by
  obtain ⟨hz,qO,⟨a,b',sj⟩,h1,h2⟩:=st
  exact ⟨k z (by simp) _ hz,k TI (by simp) _ qO,⟨a,b',k TO (by simp) _ sj⟩,h1.at fun o e=>k i1 (by simp) o e,h2.at fun o e=>k i2 (by simp) o e⟩
 item:=by
  intro X hP hw hK hc i pins s σ H E I hf st hg
  subst hP hw hK
  obtain ⟨hz,qO,⟨a,b,sj⟩,h1,h2⟩:=st
  obtain ⟨xs,ys,x,y,hx,hy,ex,ey⟩:=hg
  obtain ⟨ai,rv,p,WN⟩:=I.list hx
  obtain ⟨iP,SK,p2,Yo⟩:=I.list hy
  obtain ⟨u,hu,ru⟩:=rv.get ex
  obtain ⟨u2,JM,WO⟩:=SK.get ey
  refine wpAny_pyNext_zip_item D hz qO sj h1 h2 p.isList p2.isList (x:=u) (y:=u2) (by simpa using hu) (by simpa using JM) fun h' a1 a2 a3 a4 a5 a6 kk=>⟨_,rfl,?_⟩
  refine wpAny_letOwnedTupleGo_zip a1 fun SM WQ Gi=>?_
  have lt:∀ {c o},s.heap.get? c=some o→s.heap.objs.size≠c:=fun e=>Nat.ne_of_gt (Heap.lt_size e)
  have k2:∀ c o,c ∉ [z,TI,TO,i1,i2]→s.heap.get? c=some o→SM.get? c=some o:=fun c o hc e=>by
   simp only [List.mem_cons,List.not_mem_nil,or_false,not_or] at hc
   exact Gi.extBut _ _ hc.1 (kk c o hc.1 hc.2.2.1 hc.2.2.2.1 hc.2.2.2.2 e)
  have tup:cI X.prog X.w (upd H s.heap.objs.size (.tup [x,y])) SM s.heap.objs.size (.tup [x,y]) :=
   ⟨by show 2≤sizeLine;decide,[u,u2],.cons ru (.cons WO .nil),⟨_,Gi.extBut _ _ (lt hz) a5,rfl,_,rfl⟩⟩
  have hn:=I.bw.fresh (Nat.le_refl s.heap.objs.size)
  refine ⟨.ref s.heap.objs.size,_,I.y8 (t':=s.toks) k2 hf (Nat.le_refl _) tup,rfl,⟨_,x,y,hn,rfl,rfl,fun zs hq=>by rw [I.rO hq hx];exact ex,fun zs hq=>by rw [I.rO hq hy];exact ey⟩,
   ⟨WQ,Gi.extBut _ _ D.TIz (kk _ _ D.TIz D.TITO D.TIi1 D.TIi2 qO),⟨_,_,Gi.extBut _ _ D.TOz a2⟩,a3.extBut Gi.extBut D.i1z,a4.extBut Gi.extBut D.i2z⟩,fun c hc=>?_⟩
  have Qy:c≠s.heap.objs.size:=by
   simp only [List.mem_cons,List.not_mem_nil,or_false] at hc
   obtain ⟨o1,e1,_⟩:=h1
   obtain ⟨o2,e2,_⟩:=h2
   rcases hc with rfl | rfl | rfl | rfl | rfl
   ·exact (lt hz).symm
   ·exact (lt qO).symm
   ·exact (lt sj).symm
   ·exact (lt e1).symm
   ·exact (lt e2).symm
  rw [aE Qy]
  exact (hf c hc).1
 done:=by
  intro X hP hw hK hc i pins s σ H E I hf st hg
  subst hP hw hK
  obtain ⟨hz,qO,⟨a,b,sj⟩,h1,h2⟩:=st
  obtain ⟨xs,ys,hx,hy,he⟩:=hg
  obtain ⟨ai,rv,p,WN⟩:=I.list hx
  obtain ⟨iP,SK,p2,Yo⟩:=I.list hy
  have l1':=rv.length
  have l2':=SK.length
  refine wpAny_pyNext_zip_end (I.ok.hd hc) D hz qO sj h1 h2 p.isList p2.isList (by rcases he with h | h;exact .inl (by simp;omega);exact .inr (by simp;omega)) fun h' kk=>⟨rfl,?_⟩
  refine I.FV (t':=s.toks) (ch:=[z,TI,TO,i1,i2]) (fun c o hc e=>?_) hf
  simp only [List.mem_cons,List.not_mem_nil,or_false,not_or] at hc
  exact kk c o hc.1 hc.2.2.1 hc.2.2.2.1 hc.2.2.2.2 e
 self:=fun _ _ _ _ _ st h=>wpAny_pyIter_zip st.1 h
section
variable {X:Cx}
def SN (K:PySem.W.Frag) (ta:TA):TI:=fun σ H R=>ta σ H fun vs H1=>∃ a b,vs=[.ref a,.ref b]∧(∃ xs,aX K H1 a xs)∧(∃ ys,aX K H1 b ys)∧R (O8 K a b) H1
theorem O9 {e1 e2:Expr} {ta:TA} {p pos zk:Pos} {elts:List Expr} {x1:Nat} (hg:Gl X "zip") (hm:X.mg "zip"=none) (ha:PA X [e1,e2] ta) (hs:starEach [e1,e2] X.env=(false,eval e1 X.env) :: starEach [e2] X.env:=by rfl) (kK:(backTo pos (starEach [e2] X.env)).any (·.1)=false:=by rfl) :
  PI X (.Tuple elts x1 zk) (.Call (.Name "zip" p) [e1,e2] [] pos) (SN X.K ta):=by
 intro pins s σ H R I h
 refine wpAny_Call_Name_kw (l3 I hg hm boot_zip ?_ (by decide) (by decide))
 refine PyProof.Rows.callWith_type1 (bu (ha pos pins s σ H _ I h) fun us s1 ⟨vs,H1,I1,r1,q1⟩=>?_) hs kK
 obtain ⟨a,b,rfl,⟨xs,hx⟩,⟨ys,hy⟩,q⟩:=q1
 obtain ⟨u,v,rfl,ru,rv⟩:=r1.two
 cases ru
 cases rv
 obtain ⟨ai,r1',p1,_⟩:=I1.list hx
 obtain ⟨iP,r2',p2,_⟩:=I1.list hy
 refine call_zip_2 p1.isList p2.isList fun h' hz qO sj h1 h2 hsz kk=>?_
 refine wpAny_pyIter_zip hz ?_
 have la:a < s1.heap.objs.size:=by obtain ⟨o,n,ho,_⟩:=p1;exact Heap.lt_size ho
 have lb:b < s1.heap.objs.size:=by obtain ⟨o,n,ho,_⟩:=p2;exact Heap.lt_size ho
 have I2:Inv X pins σ H1 { s1 with heap:=h' }:=I1.kept (t':=s1.toks) fun b o e=>kk b o e
 refine ⟨s1.heap.objs.size+4,[s1.heap.objs.size+4,s1.heap.objs.size+2,s1.heap.objs.size+3,s1.heap.objs.size,s1.heap.objs.size+1],_,_,H1,rfl,I2,JL (zipApart_new la lb),⟨hz,qO,⟨_,_,sj⟩,h1,h2⟩,fun c hc=>?_,q⟩
 have hle:s1.heap.objs.size≤c:=by
  simp only [List.mem_cons,List.not_mem_nil,or_false] at hc
  rcases hc with rfl | rfl | rfl | rfl | rfl
  ·exact Nat.le_add_right _ _
  ·exact Nat.le_add_right _ _
  ·exact Nat.le_add_right _ _
  ·exact Nat.le_refl _
  ·exact Nat.le_add_right _ _
 have f:=I1.zb (H':=H1) hle (I1.bw.fresh hle)
 exact f
theorem PB {i j:Nat} {x y:Str} {px py pos:Pos} {k:Nat} (hc:X.calm=true) (hN:X.N.Nodup) (hi:X.N[i]?=some x) (hj:X.N[j]?=some y) (lx:Loc X.env.scope x) (ly:Loc X.env.scope y)
  (fx:X.fn x=true∨X.env.scope.names.lookup x=some .local:=by first | exact .inl rfl | exact .inr rfl) (fy:X.fn y=true∨X.env.scope.names.lookup y=some .local:=by first | exact .inl rfl | exact .inr rfl)
  (hs:(assignEach [.Name x px,.Name y py] X.env).map (·.2)=[assign (.Name x px) X.env,assign (.Name y py) X.env]:=by rfl) (GN:(assignEach [.Name y py] X.env).map (·.2)=[assign (.Name y py) X.env]:=by rfl) (WR:(assignEach [] X.env).map (·.2)=[]:=by rfl)
  (hn:(assignEach [.Name x px,.Name y py] X.env).length=2:=by rfl) (si:(assignEach [.Name x px,.Name y py] X.env).findIdx? (·.1)=none:=by rfl) :
  PG X (.Tuple [.Name x px,.Name y py] k pos) (Ig X.K 2 (rP (jI i) (rP (jI j) Ie))) :=
 OV hc (BB (az hN hi lx fx) (BB (az hN hj ly fy) LM (by rw [GN,WR])) (by rw [hs,GN])) hn si
end
end L2
namespace L2
open PySem PySem.Spec PyProof.Rows
section
variable {K:PySem.W.Frag} {g:TG} {tt:TT} {te:TE} {D:Addr} {σ:St} {H:Hp} {Q:VK}
theorem PD {a b:Addr} {xs ys:List V} (hlen:xs.length=ys.length) (Pv:Nat→St→Hp→Prop) (h0:Pv 0 σ H) (hl:∀ i σ H,i≤xs.length→Pv i σ H→aX K H a xs∧aX K H b ys)
  (hs:∀ (i:Nat) (x y:V) (p:Addr) (σ:St) (H:Hp) (N:St→Hp→Prop),(∀ σ H,Pv (i+1) σ H→N σ H)→xs[i]?=some x→ys[i]?=some y→Pv i σ H→H p=none→g (.ref p) σ (upd H p (.tup [x,y])) fun σ3 H3=>tt σ3 H3 fun b H4 =>
   if b=true then te σ3 H4 fun v H5=>∃ ys,H5 D=some (.lst ys)∧ys.length < sizeLine∧N σ3 (upd H5 D (.lst (ys ++ [v]))) else N σ3 H4)
  (hd:∀ σ H,Pv xs.length σ H→Q (.ref D) H):ua (O8 K a b) g tt te D σ H Q:=by
 refine ⟨fun i m σ H=>m=xs.length - i∧i≤xs.length∧Pv i σ H,⟨xs.length,by simp,Nat.zero_le _,h0⟩,?_⟩
 rintro i m σ' H' ⟨rfl,hi,p⟩
 obtain ⟨q1,q2⟩:=hl i σ' H' hi p
 by_cases fE:i < xs.length
 ·refine .inr ⟨⟨xs,ys,xs[i],ys[i],q1,q2,by simp [fE],by simp [show i < ys.length by omega]⟩,fun v H2 z=>?_⟩
  obtain ⟨pt,x,y,hp,rfl,rfl,e1,e2⟩:=z
  exact hs i x y pt σ' H' (fun σ3 H3=>∃ m',m' < xs.length - i∧m'=xs.length - (i+1)∧i+1≤xs.length∧Pv (i+1) σ3 H3) (fun σ3 H3 z=>⟨xs.length - (i+1),by omega,rfl,fE,z⟩) (e1 xs q1) (e2 ys q2) p hp
 ·have e:i=xs.length:=by omega
  subst e
  exact .inl ⟨⟨xs,ys,q1,q2,.inl (Nat.le_refl _)⟩,hd σ' H' p⟩
theorem vo {i j:Nat} {x y:V} {p:Addr} {A B:St→Hp→Prop} (h:A ((σ.set i (some x)).set j (some y)) (upd H p (.tup [x,y]))) :
  Ig K 2 (rP (jI i) (rP (jI j) Ie)) (.ref p) σ (upd H p (.tup [x,y])) fun σ3 H3=>O0 σ3 H3 fun b H4=>if b=true then A σ3 H4 else B σ3 H4 :=
 ⟨p,[x,y],rfl,bz.of aB,rfl,x,_,rfl,y,_,rfl,rfl,(by
  show if true=true then A ((σ.set i (some x)).set j (some y)) (upd H p (.tup [x,y])) else B ((σ.set i (some x)).set j (some y)) (upd H p (.tup [x,y]))
  exact fc h)⟩
end
section
variable {X:Cx}
end
end L2
namespace L2
open PySem PySem.Spec PyProof.Rows
def cK (n:Nat) (f:Nat→V):List V:=(List.range n).map f
abbrev tabI (n:Nat) (f:Nat→Int):List V:=cK n fun j=>V.int (f j)
abbrev bJ (n:Nat) (f:Nat→Addr):List V:=cK n fun j=>V.ref (f j)
theorem aL (n:Nat) (f:Nat→V):(cK n f).length=n:=by simp [cK]
theorem b9 {n i:Nat} {f:Nat→V} (h:i < n):(cK n f)[i]?=some (f i):=by simp [cK,h]
theorem tab_of {n i:Nat} {f:Nat→V} {x:V} (h:(cK n f)[i]?=some x):i < n∧x=f i:=by
 have hi:i < n:=by
  have:=(List.getElem?_eq_some_iff.mp h).1
  rwa [aL] at this
 rw [b9 hi] at h
 exact ⟨hi,(Option.some.inj h).symm⟩
theorem vp (n:Nat) (f:Nat→V):cK (n+1) f=cK n f ++ [f n]:=by simp [cK,List.range_succ]
theorem bW {n:Nat} {f g:Nat→V} (h:∀ i,i < n→f i=g i):cK n f=cK n g:=by
 unfold cK
 apply List.map_congr_left
 intro i hi
 exact h i (List.mem_range.mp hi)
theorem rZ {n i:Nat} {f:Nat→V} {v:V} (h:i < n):(cK n f).set i v=cK n fun j=>if j=i then v else f j:=by
 apply List.ext_getElem?
 intro j
 by_cases hj:j < n
 ·rw [b9 hj]
  by_cases e:j=i
  ·subst e
   rw [List.getElem?_set_self (by rw [aL];exact hj)]
   simp
  ·rw [List.getElem?_set_ne (Ne.symm e),b9 hj]
   simp [e]
 ·rw [List.getElem?_eq_none (by rw [List.length_set,aL];omega),List.getElem?_eq_none (by rw [aL];omega)]
theorem vq {n:Nat} {i:Int} {f:Nat→V} (h0:0≤i) (h:i < n):GW (cK n f).length i=some i.toNat:=by
 rw [aL]
 unfold GW
 rw [if_pos h0,if_pos h]
theorem dF {n:Nat} {i:Int} {f:Nat→V} (h0:0≤i) (h:i < n):xg (cK n f) i=some (f i.toNat):=by
 unfold xg
 rw [vq h0 h]
 exact b9 (by omega)
theorem JN {n:Nat} {f:Nat→V}:xg (cK (n+1) f) (-1)=some (f n):=by
 have h:GW (cK (n+1) f).length (-1)=some n:=by
  rw [aL]
  unfold GW
  rw [if_neg (by omega),if_pos (by omega)]
  congr 1
  omega
 unfold xg
 rw [h]
 exact b9 (by omega)
theorem vQ (n:Nat) (f:Nat→Int):((List.range n).map f).map V.int=tabI n f:=by unfold tabI cK;rw [List.map_map];rfl
def rf (K:PySem.W.Frag) (H:Hp) (l:Addr) (m n:Nat) (a:Nat→Nat→Int):Prop:=∃ as:Nat→Addr,aX K H l (bJ m as)∧∀ i,i < m→aX K H (as i) (tabI n (a i))
theorem aI.aAJ {K:PySem.W.Frag} {H H':Hp} {l:Addr} {m n:Nat} {a:Nat→Nat→Int} (s:aI H H') (g:rf K H l m n a):rf K H' l m n a:=let ⟨as,h1,h2⟩:=g;⟨as,s.seq h1,fun i hi=>s.seq (h2 i hi)⟩
theorem rf.congr {K:PySem.W.Frag} {H:Hp} {l:Addr} {m n:Nat} {a b:Nat→Nat→Int} (g:rf K H l m n a) (h:∀ i j,i < m→j < n→a i j=b i j):rf K H l m n b:=by
 obtain ⟨as,h1,h2⟩:=g
 refine ⟨as,h1,fun i hi=>?_⟩
 have e:tabI n (a i)=tabI n (b i):=bW fun j hj=>by rw [h i j hi hj]
 rw [← e]
 exact h2 i hi
end L2
namespace L2
open PySem PySem.Spec PyProof.Rows
section
variable {K:PySem.W.Frag} {g:TG} {tt:TT} {te:TE} {D:Addr} {σ:St} {H:Hp} {Q:VK}
theorem tJ {a:Addr} {n:Nat} {F:Nat→V} (Pv:Nat→St→Hp→Prop) (h0:Pv 0 σ H) (hl:∀ i σ H,i≤n→Pv i σ H→aX K H a (cK n F))
  (hs:∀ (i:Nat) (σ:St) (H:Hp) (N:St→Hp→Prop),(∀ σ H,Pv (i+1) σ H→N σ H)→i < n→Pv i σ H→g (F i) σ H fun σ3 H3=>tt σ3 H3 fun b H4 =>
   if b=true then te σ3 H4 fun v H5=>∃ ys,H5 D=some (.lst ys)∧ys.length < sizeLine∧N σ3 (upd H5 D (.lst (ys ++ [v]))) else N σ3 H4)
  (hd:∀ σ H,Pv n σ H→Q (.ref D) H):ua (OX K a) g tt te D σ H Q:=by
 refine rY (xs:=cK n F) Pv h0 (fun i σ H hi=>hl i σ H (by rwa [aL] at hi)) (fun i x σ H N hN hx hp=>?_) (fun σ H h=>hd σ H (by rwa [aL] at h))
 obtain ⟨hi,rfl⟩:=tab_of hx
 exact hs i σ H N hN hi hp
theorem FW {a b:Addr} {n:Nat} {F G:Nat→V} (Pv:Nat→St→Hp→Prop) (h0:Pv 0 σ H) (hl:∀ i σ H,i≤n→Pv i σ H→aX K H a (cK n F)∧aX K H b (cK n G))
  (hs:∀ (i:Nat) (p:Addr) (σ:St) (H:Hp) (N:St→Hp→Prop),(∀ σ H,Pv (i+1) σ H→N σ H)→i < n→Pv i σ H→H p=none→g (.ref p) σ (upd H p (.tup [F i,G i])) fun σ3 H3=>tt σ3 H3 fun b H4 =>
   if b=true then te σ3 H4 fun v H5=>∃ ys,H5 D=some (.lst ys)∧ys.length < sizeLine∧N σ3 (upd H5 D (.lst (ys ++ [v]))) else N σ3 H4)
  (hd:∀ σ H,Pv n σ H→Q (.ref D) H):ua (O8 K a b) g tt te D σ H Q:=by
 refine PD (xs:=cK n F) (ys:=cK n G) (by rw [aL,aL]) Pv h0 (fun i σ H hi=>hl i σ H (by rwa [aL] at hi)) (fun i x y p σ H N hN hx hy hp hn=>?_) (fun σ H h=>hd σ H (by rwa [aL] at h))
 obtain ⟨hi,rfl⟩:=tab_of hx
 obtain ⟨_,rfl⟩:=tab_of hy
 exact hs i p σ H N hN hi hp hn
theorem j0 {H:Hp} {D:Addr} {i:Nat} {F:Nat→V} {v:V} (h:v=F i):(upd H D (.lst (cK i F ++ [v]))) D=some (.lst (cK (i+1) F)):=by
 rw [aB,vp,h]
end
end L2
namespace L2
open PySem
theorem BS (i:Nat) (F:Nat→V) (x:V):cK i F ++ [x]=cK (i+1) fun k=>if k=i then x else F k:=by
 refine ((vp i _).trans ?_).symm
 rw [show cK i (fun k=>if k=i then x else F k)=cK i F from bW fun k hk=>by rw [if_neg (by omega)],if_pos rfl]
theorem dR (i:Nat) (ps:Nat→Addr) (p:Addr):bJ i ps ++ [V.ref p]=bJ (i+1) fun k=>if k=i then p else ps k:=by
 rw [BS]
 refine bW fun k hk=>?_
 by_cases e:k=i <;> simp [e]
end L2
namespace L2
open PySem
theorem aI.both {B H:Hp} {p:Addr} {o:HO} (s:aI B H) (h:H p=some o):aI (upd B p o) H:=fun b u e=>by
 by_cases z:b=p
 ·subst z
  rw [aB] at e
  cases e
  exact h
 ·rw [aE z] at e
  exact s b u e
theorem aI.grow {B:Hp} {p:Addr} {o:HO} (h:B p=none):aI B (upd B p o):=(aI.refl B).new h
end L2
namespace L2
end L2
namespace L2
open PySem PySem.Spec PyProof.Rows
def SO (t:TS):TS:=fun D σ H=>∃ R:St→Hp→Prop,t { D with nx:=R } σ H∧∀ σ' H',R σ' H'→D.nx σ' H'
theorem tK {X:Cx} {st:Stmt} {t:TS} (h:PS X st t):PS X st (SO t):=by
 intro pins s σ H D I ⟨R,h1,h2⟩
 refine wpAny_mono (h pins s σ H { D with nx:=R } I h1) (fun f s' q=>?_) fun _ _ z=>z
 cases f with
 | next=>obtain ⟨σ',H',I',q⟩:=q;exact ⟨σ',H',I',h2 σ' H' q⟩
 | brk=>exact q
 | cont=>exact q
 | ret u=>exact q
end L2
namespace L2
open PySem PySem.Spec PyProof.Rows
section
variable {X:Cx} (K:PySem.W.Frag)
theorem aM (hK:X.K=K:=by rfl):LV X (Ru K):=by subst hK;exact LW
theorem bj (hK:X.K=K:=by rfl):LV X (Rv K):=by subst hK;exact Om
theorem iB (hK:X.K=K:=by rfl):Ol X (Ry K):=by subst hK;exact LX
theorem bQ (hK:X.K=K:=by rfl):jx X (.builtin "len") (fun xs H Q=>∃ p ys,xs=[.ref p]∧(aX K H p ys∨bz K H p ys)∧Q (.int ys.length) H):=by subst hK;exact zu
theorem gP (hK:X.K=K:=by rfl):jx X (.type "list") (fun xs H Q=>∃ p ys,xs=[.ref p]∧(aX K H p ys∨bz K H p ys)∧∀ l,H l=none→Q (.ref l) (upd H l (.lst ys))):=by subst hK;exact zv
theorem mD (hK:X.K=K:=by rfl):nS X (binaryOp .Add) (Nm K):=by subst hK;exact Lc
theorem cM {tg l:Expr} {tl:TE} (hl:PE X l tl) (hK:X.K=K:=by rfl):PI X tg l (Nf K tl):=by subst hK;exact E8 hl
theorem z7 {e1 e2:Expr} {ta:TA} {p pos zk:Pos} {elts:List Expr} {x1:Nat} (hg:Gl X "zip") (hm:X.mg "zip"=none) (ha:PA X [e1,e2] ta) (hK:X.K=K:=by rfl) (hs:starEach [e1,e2] X.env=(false,eval e1 X.env) :: starEach [e2] X.env:=by rfl) (kK:(backTo pos (starEach [e2] X.env)).any (·.1)=false:=by rfl) :
  PI X (.Tuple elts x1 zk) (.Call (.Name "zip" p) [e1,e2] [] pos) (SN K ta):=by subst hK;exact O9 hg hm ha hs kK
theorem pQ {i j:Nat} {x y:Str} {px py pos:Pos} {k:Nat} (hc:X.calm=true) (hN:X.N.Nodup) (hi:X.N[i]?=some x) (hj:X.N[j]?=some y) (lx:Loc X.env.scope x) (ly:Loc X.env.scope y) (hK:X.K=K:=by rfl)
  (fx:X.fn x=true∨X.env.scope.names.lookup x=some .local:=by first | exact .inl rfl | exact .inr rfl) (fy:X.fn y=true∨X.env.scope.names.lookup y=some .local:=by first | exact .inl rfl | exact .inr rfl)
  (hs:(assignEach [.Name x px,.Name y py] X.env).map (·.2)=[assign (.Name x px) X.env,assign (.Name y py) X.env]:=by rfl) (GN:(assignEach [.Name y py] X.env).map (·.2)=[assign (.Name y py) X.env]:=by rfl) (WR:(assignEach [] X.env).map (·.2)=[]:=by rfl)
  (hn:(assignEach [.Name x px,.Name y py] X.env).length=2:=by rfl) (si:(assignEach [.Name x px,.Name y py] X.env).findIdx? (·.1)=none:=by rfl) :
  PG X (.Tuple [.Name x px,.Name y py] k pos) (Ig K 2 (rP (jI i) (rP (jI j) Ie))):=by
 subst hK
 exact PB hc hN hi hj lx ly fx fy hs GN WR hn si
theorem jL {o e:Expr} {es:List Expr} {to:TE} {t:TA} {name:Str} {apos fF:Pos} {T id:String} {r:V→List V→Hp→VK→Prop} (pa:PlainAttrs T) (slot:Slot T name id) (V1:typeOf (.builtin id)=pure (.type "method_descriptor")) (hm:Qt X id r) (ho:PE X o to) (ha:PA X (e :: es) t) (hK:X.K=K:=by rfl)
  (Iw:attributeBase o name X.env (eval o X.env)=eval o X.env:=by rfl)
  (Ot:((backTo fF (starEach (e :: es) X.env)).all (fun x=>!x.1) && (backToKw fF (keywordEach [] X.env)).all (fun x=>x.1.isSome)
   && decide ((e :: es).length+([]:List Keyword).length+(if ([]:List Keyword).isEmpty then 0 else 1) < 30))=true:=by rfl)
  (Iy:(apos.endLine == fF.line)=true:=by rfl) (hs:starEach (e :: es) X.env=(false,eval e X.env) :: starEach es X.env:=by rfl) (DG:(backTo fF (starEach es X.env)).any (·.1)=false:=by rfl) :
  PE X (.Call (.Attribute o name apos) (e :: es) [] fF) (V0 K T r to t):=by subst hK;exact Ni pa slot V1 hm ho ha Iw Ot Iy hs DG
end
end L2
namespace L2
open PySem PySem.Spec PyProof.Rows
section
variable {X:Cx}
def SQ (K:PySem.W.Frag) (neg:Bool):R2:=fun x y H Q=>∃ (a b:Addr) (ys zs:List Int),x=.ref a∧y=.ref b∧aX K H a (ys.map V.int)∧aX K H b (zs.map V.int)∧Q (.bl (if neg then !decide (ys=zs) else decide (ys=zs))) H
theorem JO {pins:List (Addr × Obj)} {σ:St} {H:Hp} {s:Shared} (I:Inv X pins σ H s) {ys zs:List Int} {ai iP:List Value} (r1:au (ys.map V.int) ai) (r2:au (zs.map V.int) iP) {A:Around} (j:Nat) (h1:j < ai.toArray.size) (h2:j < iP.toArray.size) :
  SeqAt.EqAt A s ai.toArray[j] iP.toArray[j] (ys.getD j 0 == zs.getD j 0):=by
 obtain ⟨x,hx,rx⟩:=iQ r1 j h1
 obtain ⟨y,hy,ry⟩:=iQ r2 j h2
 obtain ⟨u,WS,rfl⟩:=mC hx
 obtain ⟨v,Rk,rfl⟩:=mC hy
 have:=zm (A:=A) (s:=s) rx ry rfl rfl
 have e1:ys.getD j 0=u:=by simp [List.getD,WS]
 have e2:zs.getD j 0=v:=by simp [List.getD,Rk]
 rw [e1,e2]
 exact this
theorem BU {ys zs:List Int} (hl:ys.length=zs.length) {n:Nat} (hn:n=ys.length):(List.range n).all (fun j=>ys.getD j 0 == zs.getD j 0)=decide (ys=zs):=by
 subst hn
 by_cases h:ys=zs
 ·subst h
  simp
 ·rw [decide_eq_false h,Bool.eq_false_iff]
  intro DH
  rw [List.all_eq_true] at DH
  apply h
  apply List.ext_getElem hl
  intro i g1 g2
  have:=DH i (List.mem_range.mpr g1)
  simpa [List.getD,g1,g2] using this
theorem PF (hu:X.A.units+16 < cLine):nS X (compareOp .Eq) (SQ X.K false):=by
 intro pins s σ H x y v u Q I rx ry h
 obtain ⟨a,b,ys,zs,rfl,rfl,ha,hb,q⟩:=h
 cases rx
 cases ry
 obtain ⟨ai,r1,p1,_⟩:=I.list ha
 obtain ⟨iP,r2,p2,_⟩:=I.list hb
 have l1:=r1.length
 have l2:=r2.length
 rw [List.length_map] at l1 l2
 by_cases hl:ys.length=zs.length
 ·refine SeqAt.eq_listAt (e:=fun j=>ys.getD j 0 == zs.getD j 0) p1.isList p2.isList (by simp;omega) (by omega) (fun j h1 h2=>JO I r1 r2 j h1 h2) ?_
  rw [BU hl (by simp;omega)]
  exact ⟨.bl _,H,I,rfl,q⟩
 ·refine SeqAt.eq_list_lengthsAt p1.isList p2.isList (by simp;omega) (by omega) ?_
  have e:decide (ys=zs)=false:=decide_eq_false fun z=>hl (by rw [z])
  rw [e] at q
  exact ⟨.bl false,H,I,rfl,q⟩
theorem FX (K:PySem.W.Frag) (hu:X.A.units+16 < cLine) (hK:X.K=K:=by rfl):nS X (compareOp .Eq) (SQ K false):=by subst hK;exact PF hu
end
theorem turn_if {i:Nat} {x:V} {σ:St} {H:Hp} {tt:TT} {A B:St→Hp→Prop} (h:tt (σ.set i (some x)) H fun b H4=>if b=true then A (σ.set i (some x)) H4 else B (σ.set i (some x)) H4):jI i x σ H fun σ3 H3=>tt σ3 H3 fun b H4=>if b=true then A σ3 H4 else B σ3 H4:=h
theorem JP (ns:List Int):ns.map V.int=tabI ns.length fun i=>ns.getD i 0:=by
 apply List.ext_getElem?
 intro j
 by_cases hj:j < ns.length
 ·rw [b9 hj,List.getElem?_map]
  simp [hj,List.getD]
 ·rw [List.getElem?_eq_none (by rw [List.length_map];omega),List.getElem?_eq_none (by rw [aL];omega)]
theorem vR {n:Nat} {f:Nat→V} {lo hi:Nat} (h1:lo≤hi) (h2:hi≤n):fb (cK n f) (some (lo:Int)) (some (hi:Int))=cK (hi - lo) fun i=>f (lo+i):=by
 unfold fb
 rw [HT.iw,HT.iw,aL,Nat.min_eq_left h2,Nat.min_eq_left (by omega)]
 apply List.ext_getElem?
 intro j
 by_cases hj:j < hi - lo
 ·rw [b9 hj,List.getElem?_take_of_lt hj,List.getElem?_drop,b9 (by omega)]
 ·rw [List.getElem?_eq_none (by rw [List.length_take,List.length_drop,aL];omega),List.getElem?_eq_none (by rw [aL];omega)]
theorem qP {n:Nat} {f:Nat→V} {hi:Nat} (h2:hi≤n):fb (cK n f) none (some (hi:Int))=cK hi f:=by
 have:=vR (lo:=0) (f:=f) (Nat.zero_le hi) h2
 have e:fb (cK n f) none (some (hi:Int))=fb (cK n f) (some ((0:Nat):Int)) (some (hi:Int)):=by
  unfold fb
  rw [HT.iw _ _ hi,HT.vj,HT.iw _ _ 0,Nat.zero_min]
 rw [e,this]
 exact bW fun i _=>by rw [Nat.zero_add]
theorem DK {n:Nat} {f:Nat→V} {lo:Nat} (h2:lo≤n):fb (cK n f) (some (lo:Int)) none=cK (n - lo) fun i=>f (lo+i):=by
 have:=vR (f:=f) h2 (Nat.le_refl n)
 have e:fb (cK n f) (some (lo:Int)) none=fb (cK n f) (some (lo:Int)) (some (n:Int)):=by
  unfold fb
  rw [HT.iw,HT.iw,HT.vj,aL,Nat.min_self]
 rw [e,this]
theorem Le {n m:Nat} {f g:Nat→V}:cK n f ++ cK m g=cK (n+m) fun i=>if i < n then f i else g (i - n):=by
 apply List.ext_getElem?
 intro j
 by_cases hj:j < n+m
 ·rw [b9 hj]
  by_cases h:j < n
  ·rw [List.getElem?_append_left (by rw [aL];exact h),b9 h,if_pos h]
  ·rw [List.getElem?_append_right (by rw [aL];omega),aL,b9 (by omega),if_neg h]
 ·rw [List.getElem?_eq_none (by rw [List.length_append,aL,aL];omega),List.getElem?_eq_none (by rw [aL];omega)]
theorem Gj (n:Nat) (f:Nat→Int) (i:Nat) (h:i < n):((List.range n).map f).getD i 0=f i:=by simp [h]
end L2
namespace L2
open PySem PySem.Spec PyProof.Rows
def SR (K:PySem.W.Frag) (a:Addr) (xs:List V):It:=⟨fun i H=>aX K H a xs∧i < xs.length,fun i H x H'=>H'=H∧xs.reverse[i]?=some x,fun i _=>xs.length≤i⟩
theorem JQ {P:Program} {w:World} {K:PySem.W.Frag} {tg:Expr} (a it:Addr) (xs:List V) :
  Turn P w K tg (SR K a xs) [it] it (fun i h=>i≤xs.length∧h.IsRevIter it a ((xs.length:Int) - 1 - (i:Int))) where
 mem:=by simp
 obj:=fun i h st b hb=>by
  have e:b=it:=by simpa using hb
  subst e
  obtain ⟨_,o,e,c,d⟩:=st
  exact ⟨o,e,fun v z=>by rw [d] at z;cases z⟩
 keep:=fun i h h' st k=>⟨st.1,st.2.at fun o e=>k it (by simp) o e⟩
 item:=by
  intro X hP hw hK hc i pins s σ H E I hf ⟨WT,st⟩ ⟨hq,hi⟩
  subst hP hw hK
  obtain ⟨ai,rv,p,hz⟩:=I.list hq
  have hl:=rv.length
  have hx:xs.reverse[i]?=some xs[xs.length - 1 - i]:=by rw [List.getElem?_reverse hi];simp
  have SS:xs[xs.length - 1 - i]?=some xs[xs.length - 1 - i]:=by simp
  obtain ⟨u,hu,ru⟩:=rv.get SS
  obtain ⟨f0,f1,f2,f3,f4,f5⟩:=hf it (by simp)
  have e0:(xs.length:Int) - 1 - (i:Int)=((xs.length - 1 - i:Nat):Int):=by omega
  rw [e0] at st
  refine wpAny_pyNext_rev_item st p.isList (x:=u) (by simpa using hu) fun h' xh sb=>?_
  have I1:Inv X pins σ H { s with heap:=h' }:=I.turned (t':=s.toks) (fun b o hb e=>(sb.2 b hb).trans e) f0 f1 f3 f4 f5
  have e1:((xs.length - 1 - i:Nat):Int) - 1=(xs.length:Int) - 1 - ((i+1:Nat):Int):=by omega
  rw [e1] at xh
  obtain ⟨o,e,c,d⟩:=id xh
  exact ⟨u,rfl,BD (s:={ s with heap:=h' }) e c d (by decide) ⟨_,H,I1,ru,⟨rfl,hx⟩,⟨hi,xh⟩,fun b hb=>(hf b hb).1⟩⟩
 done:=by
  intro X hP hw hK hc i pins s σ H E I hf ⟨WT,st⟩ hg
  subst hP hw hK
  have hg':xs.length≤i:=hg
  obtain ⟨f0,f1,f2,f3,f4,f5⟩:=hf it (by simp)
  have e0:(xs.length:Int) - 1 - (i:Int)=-1:=by omega
  rw [e0] at st
  exact wpAny_pyNext_rev_end (I.ok.hd hc) st fun h' eb=>⟨rfl,I.turned (t':=s.toks) (fun b o hb e=>eb b o hb e) f0 f1 f3 f4 f5⟩
 self:=fun _ _ _ _ _ st h=>wpAny_pyIter_revIter st.2 h
section
variable {X:Cx} {tg:Expr}
def WU (K:PySem.W.Frag) (ta:TA):TI:=fun σ H R=>ta σ H fun vs H1=>∃ a xs,vs=[.ref a]∧aX K H1 a xs∧R (SR K a xs) H1
theorem z8 (K:PySem.W.Frag) {e:Expr} {ta:TA} {p pos:Pos} (hg:Gl X "reversed") (hm:X.mg "reversed"=none) (ha:PA X [e] ta) (hK:X.K=K:=by rfl) (hs:starEach [e] X.env=[(false,eval e X.env)]:=by rfl) (kK:(backTo pos (starEach [] X.env)).any (·.1)=false:=by rfl) :
  PI X tg (.Call (.Name "reversed" p) [e] [] pos) (WU K ta):=by
 subst hK
 intro pins s σ H R I h
 refine wpAny_Call_Name_kw (l3 I hg hm boot_reversed ?_ (by decide) (by decide))
 refine PyProof.Rows.callWith_type1 (bu (ha pos pins s σ H _ I h) fun us s1 ⟨vs,H1,I1,r1,q1⟩=>?_) hs kK
 obtain ⟨a,xs,rfl,hx,q⟩:=q1
 obtain ⟨u,rfl,ru⟩:=r1.one
 cases ru
 obtain ⟨ai,rv,p1,_⟩:=I1.list hx
 have hl:=rv.length
 refine call_reversed_list p1.isList ?_
 have hit:(s1.heap.push (revObj a ((ai.toArray.size:Int) - 1))).IsRevIter s1.heap.objs.size a ((ai.toArray.size:Int) - 1):=⟨_,Heap.get?_push_size _ rfl,rfl,by unfold revObj;simp⟩
 refine wpAny_pyIter_revIter hit ?_
 have e0:(ai.toArray.size:Int) - 1=(xs.length:Int) - 1 - ((0:Nat):Int):=by simp;omega
 rw [e0] at hit ⊢
 refine ⟨s1.heap.objs.size,[s1.heap.objs.size],_,_,H1,rfl,I1.kept (t':=s1.toks) fun b o e=>Heap.get?_push_of_some _ e,JQ a _ xs,⟨Nat.zero_le _,hit⟩,fun b hb=>?_,q⟩
 have e:b=s1.heap.objs.size:=by simpa using hb
 subst e
 exact I1.zb (Nat.le_refl _) (I1.bw.fresh (Nat.le_refl _))
end
theorem Lf {K:PySem.W.Frag} {a:Addr} {xs:List V} {g:TG} {tb:TS} {D:Ends} {σ:St} {H:Hp} (Pv:Nat→St→Hp→Prop) (h0:Pv 0 σ H) (hl:∀ i σ H,i≤xs.length→Pv i σ H→aX K H a xs)
  (hs:∀ i x σ H,xs.reverse[i]?=some x→Pv i σ H→g x σ H fun σ2 H2=>tb { D with nx:=Pv (i+1),ct:=Pv (i+1),bk:=D.nx } σ2 H2) (hd:∀ σ H,Pv xs.length σ H→D.nx σ H) :
  ∃ W:Nat→Nat→St→Hp→Prop,(∃ m,W 0 m σ H)∧∀ i m σ H,W i m σ H →
   ((SR K a xs).stop i H∧D.nx σ H)∨((SR K a xs).go i H∧∃ N:St→Hp→Prop,(∀ σ' H',N σ' H'→∃ m',m' < m∧W (i+1) m' σ' H')∧∀ x H',(SR K a xs).Ij i H x H'→g x σ H' fun σ2 H2=>tb { D with nx:=N,ct:=N,bk:=D.nx } σ2 H2):=by
 refine ⟨fun i m σ H=>m=xs.length - i∧i≤xs.length∧Pv i σ H,⟨xs.length,by simp,Nat.zero_le _,h0⟩,?_⟩
 rintro i m σ H ⟨rfl,hi,p⟩
 have q:=hl i σ H hi p
 by_cases fE:i < xs.length
 ·refine .inr ⟨⟨q,fE⟩,Pv (i+1),fun σ' H' p'=>⟨xs.length - (i+1),by omega,rfl,fE,p'⟩,fun x H' y=>?_⟩
  obtain ⟨e,y⟩:=y
  subst e
  exact hs i x σ _ y p
 ·have e:i=xs.length:=by omega
  subst e
  exact .inl ⟨Nat.le_refl _,hd σ H p⟩
section
variable {X:Cx}
end
end L2
namespace L2
open PySem PySem.Spec PyProof.Rows
section
variable {prog:Program} {w:World} {A:Around} {E:Value→Shared→Prop} {s:Shared}
theorem DL {it t:Addr} {i:Nat} {items:Array Value} {x:Value} {Q:Value→Shared→Prop} (hit:s.heap.IsTupleIter it t i) (ht:s.heap.IsTuple t items) (hx:items[i]?=some x)
  (hQ:∀ h',h'.IsTupleIter it t (i+1)→Heap.SameBut it s.heap h'→Q x { s with heap:=h' }):wpAny (model prog w) A (Builtin.SmallTypes.nextOf (.ref it)) Q E s:=by
 obtain ⟨o,ho,hc,hd⟩:=id hit
 obtain ⟨u,hu,_,m,du⟩:=ht
 unfold Builtin.SmallTypes.nextOf
 refine wpAny_bind (wpAny_callSpecial?_slot (name:=Str.ofString "__next__") hit.typeIs F.slot_tuple_iterator_next (wpAny_call_entry F.slot_tuple_iterator_next hit.typeIs F.entry_tuple_iterator_next ?_ (F.args_tuple_iterator_next_1 _)))
 refine (show wpAny _ _ (field (.ref it) 0 >>= _) _ _ s from wpAny_bind (wpAny_field ho hd (x:=.ref t) rfl ?_))
 refine (show wpAny _ _ (if (Value.ref t == Value.none)=true then _ else _) _ _ s from ?_)
 rw [if_neg (by exact Bool.false_ne_true)]
 refine (show wpAny _ _ (field (.ref it) 1 >>= _) _ _ s from wpAny_bind (wpAny_field ho hd (x:=.int i 0) rfl ?_))
 refine (show wpAny _ _ (seqItems? (.ref t) >>= _) _ _ s from wpAny_bind (wpAny_seqItems hu du ?_))
 simp only [hx,Int.toNat_natCast]
 refine wpAny_bind (wpAny_setField ho hd (by simp) (wpAny_pure ⟨x,rfl,wpAny_pure (hQ _ ⟨_,Heap.get?_update_self _ ho (Obj.isFreed_of_fields (Obj.data_mapFields hd _)),(Obj.cls_mapFields ..).trans hc,?_⟩ (Heap.SameBut.update ..))⟩))
 rw [Obj.data_mapFields hd]
 simp [rawInt]
theorem Gk {z TI TO i1 i2 l t:Addr} {k:Nat} {xs ys:Array Value} {x y a b:Value} {Q:Value→Shared→Prop} (D:ZipApart z TI TO i1 i2 l t) (hz:IsZip s.heap z TI TO .none) (qO:IsPair s.heap TI (.ref i1) (.ref i2)) (sj:IsPair s.heap TO a b)
  (h1:s.heap.IsListIter i1 l k) (h2:s.heap.IsTupleIter i2 t k) (hl:s.heap.IsList l xs) (ht:s.heap.IsTuple t ys) (hx:xs[k]?=some x) (hy:ys[k]?=some y)
  (hQ:∀ h',IsZip h' z TI TO (rawInt s.heap.objs.size)→IsPair h' TO x y→h'.IsListIter i1 l (k+1)→h'.IsTupleIter i2 t (k+1)→IsPair h' s.heap.objs.size x y→h'.objs.size=s.heap.objs.size+1 →
   (∀ c o,c≠z→c≠TO→c≠i1→c≠i2→s.heap.get? c=some o→h'.get? c=some o)→Q (.ref s.heap.objs.size) { s with heap:=h' }) :
  wpAny (model prog w) A (Builtin.«zip.__next__» ⟨[.ref z],[]⟩) (fun fin s'=>∃ v,fin=.done (.ret v)∧Q v s') E s:=by
 refine (show wpAny _ _ (field (.ref z) 2 >>= _) _ _ _ from wpAny_bind (wpAny_field hz rfl (x:=.bool false) rfl ?_))
 refine (show wpAny _ _ (field (.ref z) 3 >>= _) _ _ _ from wpAny_bind (wpAny_field hz rfl (x:=.ref TI) rfl (wpAny_bind (wpAny_seqItems qO rfl ?_))))
 refine (show wpAny _ _ (Builtin.SmallTypes.ownedTupleIsFree (.ref z) >>= _) _ _ _ from wpAny_bind ?_)
 unfold Builtin.SmallTypes.ownedTupleIsFree
 refine wpAny_bind (wpAny_field hz rfl (x:=.none) rfl (wpAny_pure ?_))
 rw [if_pos (by rfl)]
 refine wpAny_bind (wpAny_rule (wpAny_bind (wpAny_field hz rfl (x:=.ref TO) rfl (wpAny_bind (wpAny_setField_rec hz (by simp) fun ha WV Gd=>wpAny_bind ?_)))))
 have PH:IsZip ha z TI TO .ellipsis:=WV
 simp only [List.forIn_cons,List.forIn_nil,List.zipIdx_cons,List.zipIdx_nil]
 refine wpAny_bind (wpAny_bind (wpAny_onRaise (show wpAny _ _ (Builtin.SmallTypes.nextOf (.ref i1) >>= _) _ _ _ from wpAny_bind (wpAny_nextOf_list_item (h1.extBut Gd.extBut D.i1z) (hl.extBut Gd.extBut D.l1z) hx fun hb h1b Gc=>wpAny_pure ?_))))
 have to2:IsPair hb TO a b:=Gc.extBut _ _ D.TOi1 (Gd.extBut _ _ D.TOz sj)
 refine wpAny_bind (wpAny_seqItems to2 rfl (wpAny_bind (wpAny_updateSeq_pair to2 fun hc to3 DJ=>wpAny_bind (wpAny_letGo (wpAny_pure ?_)))))
 have WW:IsPair hc TO x b:=to3
 refine wpAny_bind (wpAny_bind (wpAny_onRaise (show wpAny _ _ (Builtin.SmallTypes.nextOf (.ref i2) >>= _) _ _ _ from wpAny_bind
  (DL (((h2.extBut Gd.extBut D.i2z).extBut Gc.extBut D.i12.symm).extBut DJ.extBut D.TOi2.symm) (((ht.extBut Gd.extBut D.l2z).extBut Gc.extBut D.l2i1).extBut DJ.extBut D.l2TO) hy fun hd h2d bR=>wpAny_pure ?_))))
 have Yp:IsPair hd TO x b:=bR.extBut _ _ D.TOi2 WW
 refine wpAny_bind (wpAny_seqItems Yp rfl (wpAny_bind (wpAny_updateSeq_pair Yp fun he to5 SU=>wpAny_bind (wpAny_letGo (wpAny_pure (wpAny_pure ?_))))))
 have SV:IsPair he TO x y:=to5
 refine wpAny_bind (wpAny_seqItems SV rfl (wpAny_bind (wpAny_newTuple ?_)))
 have Np:he.objs.size=s.heap.objs.size:=by rw [SU.1,bR.1,DJ.1,Gc.1,Gd.1]
 have z5:IsZip he z TI TO .ellipsis:=SU.extBut _ _ D.TOz.symm (bR.extBut _ _ D.i2z.symm (DJ.extBut _ _ D.TOz.symm (Gc.extBut _ _ D.i1z.symm PH)))
 have SW:∀ c o,c≠z→c≠TO→c≠i1→c≠i2→s.heap.get? c=some o→he.get? c=some o:=fun c o n1 n2 n3 n4 e=>SU.extBut _ _ n2 (bR.extBut _ _ n4 (DJ.extBut _ _ n2 (Gc.extBut _ _ n3 (Gd.extBut _ _ n1 e))))
 have it1:he.IsListIter i1 l (k+1):=((h1b.extBut DJ.extBut D.TOi1.symm).extBut bR.extBut D.i12).extBut SU.extBut D.TOi1.symm
 have it2:he.IsTupleIter i2 t (k+1):=h2d.extBut SU.extBut D.TOi2.symm
 have Yq:z < he.objs.size:=Heap.lt_size z5
 refine (show wpAny _ _ (Builtin.SmallTypes.ownedTupleHandOut (.ref z) (.ref he.objs.size) >>= _) _ _ _ from wpAny_bind ?_)
 unfold Builtin.SmallTypes.ownedTupleHandOut
 have z6:IsZip (he.push { cls:=.type "tuple",data:=.seq #[x,y] }) z TI TO .ellipsis:=Heap.get?_push_of_some _ z5
 refine wpAny_bind (wpAny_setField_rec z6 (by simp) fun hf zf WX=>?_)
 have zf':IsZip hf z TI TO (rawInt he.objs.size):=zf
 refine wpAny_setField_rec zf' (by simp) fun hg zg Qz=>?_
 have Yr:IsZip hg z TI TO (rawInt he.objs.size):=zg
 have up:∀ c o,c≠z→he.get? c=some o→hg.get? c=some o:=fun c o n1 e=>Qz.extBut _ _ n1 (WX.extBut _ _ n1 (Heap.get?_push_of_some _ e))
 have Nq:IsPair hg he.objs.size x y:=Qz.extBut _ _ (Nat.ne_of_gt Yq) (WX.extBut _ _ (Nat.ne_of_gt Yq) (Heap.get?_push_size _ rfl))
 have Nr:hg.objs.size=he.objs.size+1:=by rw [Qz.1,WX.1,Heap.size_push]
 rw [Np] at Yr Nq Nr
 refine wpAny_pure ⟨_,rfl,(show Q (.ref he.objs.size) _ from ?_)⟩
 rw [Np]
 exact hQ hg Yr (up _ _ D.TOz SV) (it1.at fun o e=>up _ o D.i1z e) (it2.at fun o e=>up _ o D.i2z e) Nq Nr fun c o n1 n2 n3 n4 e=>up c o n1 (SW c o n1 n2 n3 n4 e)
theorem JR {z TI TO i1 i2 l t:Addr} {k:Nat} {xs:Array Value} {a b:Value} {Q:Fin→Shared→Prop} (hh:A.handled=none) (D:ZipApart z TI TO i1 i2 l t) (hz:IsZip s.heap z TI TO .none) (qO:IsPair s.heap TI (.ref i1) (.ref i2)) (sj:IsPair s.heap TO a b)
  (h1:s.heap.IsListIter i1 l k) (hl:s.heap.IsList l xs) (hx:xs[k]?=none)
  (hE:∀ h' e,(∀ c o,c≠z→c≠TO→c≠i1→c≠i2→s.heap.get? c=some o→h'.get? c=some o)→(∃ o,h'.get? e=some o∧o.cls=.type "StopIteration")→E (.ref e) { s with heap:=h' }) :
  wpAny (model prog w) A (Builtin.«zip.__next__» ⟨[.ref z],[]⟩) Q E s:=by
 refine (show wpAny _ _ (field (.ref z) 2 >>= _) _ _ _ from wpAny_bind (wpAny_field hz rfl (x:=.bool false) rfl ?_))
 refine (show wpAny _ _ (field (.ref z) 3 >>= _) _ _ _ from wpAny_bind (wpAny_field hz rfl (x:=.ref TI) rfl (wpAny_bind (wpAny_seqItems qO rfl ?_))))
 refine (show wpAny _ _ (Builtin.SmallTypes.ownedTupleIsFree (.ref z) >>= _) _ _ _ from wpAny_bind ?_)
 unfold Builtin.SmallTypes.ownedTupleIsFree
 refine wpAny_bind (wpAny_field hz rfl (x:=.none) rfl (wpAny_pure ?_))
 rw [if_pos (by rfl)]
 refine wpAny_bind (wpAny_rule (wpAny_bind (wpAny_field hz rfl (x:=.ref TO) rfl (wpAny_bind (wpAny_setField_rec hz (by simp) fun ha WV Gd=>wpAny_bind ?_)))))
 have PH:IsZip ha z TI TO .ellipsis:=WV
 simp only [List.forIn_cons,List.forIn_nil,List.zipIdx_cons,List.zipIdx_nil]
 refine wpAny_bind (wpAny_bind (wpAny_onRaise (show wpAny _ _ (Builtin.SmallTypes.nextOf (.ref i1) >>= _) _ _ _ from wpAny_bind (wpAny_nextOf_list_end hh (h1.extBut Gd.extBut D.i1z) (hl.extBut Gd.extBut D.l1z) hx fun hb e Gc he=>?_))))
 obtain ⟨oe,WY,Ys⟩:=he
 have z2:IsZip hb z TI TO .ellipsis:=Gc _ _ D.i1z.symm PH
 have hez:e≠z:=fun q=>by subst q;rw [z2] at WY;cases WY;simp at Ys
 exact wpAny_setField_rec z2 (by simp) fun hc _ DJ=>hE hc e (fun c o n1 _ n3 _ q=>DJ.extBut _ _ n1 (Gc _ _ n3 (Gd.extBut _ _ n1 q))) ⟨oe,DJ.extBut _ _ hez WY,Ys⟩
theorem tL {z TI TO i1 i2 l t:Addr} {k:Nat} {xs ys:Array Value} {x y a b:Value} {Q:Option Value→Shared→Prop} (D:ZipApart z TI TO i1 i2 l t) (hz:IsZip s.heap z TI TO .none) (qO:IsPair s.heap TI (.ref i1) (.ref i2)) (sj:IsPair s.heap TO a b)
  (h1:s.heap.IsListIter i1 l k) (h2:s.heap.IsTupleIter i2 t k) (hl:s.heap.IsList l xs) (ht:s.heap.IsTuple t ys) (hx:xs[k]?=some x) (hy:ys[k]?=some y)
  (hQ:∀ h',IsZip h' z TI TO (rawInt s.heap.objs.size)→IsPair h' TO x y→h'.IsListIter i1 l (k+1)→h'.IsTupleIter i2 t (k+1)→IsPair h' s.heap.objs.size x y→h'.objs.size=s.heap.objs.size+1 →
   (∀ c o,c≠z→c≠TO→c≠i1→c≠i2→s.heap.get? c=some o→h'.get? c=some o)→Q (some (.ref s.heap.objs.size)) { s with heap:=h' }) :
  wpAny (model prog w) A (pyNext (.ref z)) Q E s:=by
 have hT:s.TypeIs (.ref z) "zip":=⟨_,hz,rfl⟩
 unfold pyNext
 exact wpAny_bind (wpAny_attempt (wpAny_callSpecial?_slot (name:=Str.ofString "__next__") hT F.slot_zip_next (wpAny_call_entry F.slot_zip_next hT F.entry_zip_next
  (Gk D hz qO sj h1 h2 hl ht hx hy fun h' a1 a2 a3 a4 a5 a6 a7=>wpAny_pure (hQ h' a1 a2 a3 a4 a5 a6 a7)) (F.args_zip_next_1 _))))
theorem vC {z TI TO i1 i2 l t:Addr} {k:Nat} {xs:Array Value} {a b:Value} {Q:Option Value→Shared→Prop} (hh:A.handled=none) (D:ZipApart z TI TO i1 i2 l t) (hz:IsZip s.heap z TI TO .none) (qO:IsPair s.heap TI (.ref i1) (.ref i2)) (sj:IsPair s.heap TO a b)
  (h1:s.heap.IsListIter i1 l k) (hl:s.heap.IsList l xs) (hx:xs[k]?=none)
  (hQ:∀ h',(∀ c o,c≠z→c≠TO→c≠i1→c≠i2→s.heap.get? c=some o→h'.get? c=some o)→Q none { s with heap:=h' }):wpAny (model prog w) A (pyNext (.ref z)) Q E s:=by
 have hT:s.TypeIs (.ref z) "zip":=⟨_,hz,rfl⟩
 unfold pyNext
 refine wpAny_bind (wpAny_attempt (wpAny_callSpecial?_slot (name:=Str.ofString "__next__") hT F.slot_zip_next (wpAny_call_entry F.slot_zip_next hT F.entry_zip_next (JR hh D hz qO sj h1 hl hx fun h' e hk he=>?_) (F.args_zip_next_1 _))))
 obtain ⟨o,ho,hc⟩:=he
 exact wpAny_bind (wpAny_isInstance (T:="StopIteration") (b:=true) ⟨o,ho,hc⟩ isSubtype_stop (wpAny_pure (hQ _ hk)))
end
abbrev zA (h:Heap) (l:Addr):Heap:=h.push { cls:=.type "list_iterator",data:=.fields #[.ref l,.int 0 0] }
abbrev zB (h:Heap) (l t:Addr):Heap:=(zA h l).push { cls:=.type "tuple_iterator",data:=.fields #[.ref t,.int 0 0] }
abbrev zC (h:Heap) (l t:Addr):Heap:=(zB h l t).push { cls:=.type "tuple",data:=.seq #[.ref h.objs.size,.ref (zA h l).objs.size] }
abbrev zD (h:Heap) (l t:Addr):Heap:=(zC h l t).push { cls:=.type "tuple",data:=.seq #[.none,.none] }
abbrev zE (h:Heap) (l t:Addr):Heap:=(zD h l t).push { cls:=.type "zip",data:=.fields #[.none,.bool false,.bool false,.ref (zB h l t).objs.size,.ref (zC h l t).objs.size] }
theorem DM (l t:Addr) (xs ys:Array Value):Meets (Builtin.«zip.__new__» ⟨[.type "zip",.ref l,.ref t],[]⟩) (fun _ R s=>s.heap.IsList l xs∧s.heap.IsTuple t ys∧R (.ok (.ret (.ref (zD s.heap l t).objs.size))) { s with heap:=zE s.heap l t }) :=
 .of_wp fun prog w A R s h=>by
  obtain ⟨hp,g,d,tk,os⟩:=s
  obtain ⟨hl,ht,h⟩:=h
  have WZ:=sub_zip
  have e1:Heap.IsList (Shared.heap ⟨hp,g,d,tk,os⟩) l xs:=hl
  have e2:Heap.IsTuple (Shared.heap ⟨hp.push { cls:=.type "list_iterator",data:=.fields #[.ref l,.int 0 0] },g,d,tk,os⟩) t ys:=Heap.IsTuple.push ht _
  wp_walk using wpAny_pyIter_list e1,wpAny_pyIter_tuple e2
  exact ⟨_,rfl,h⟩
section
variable {prog:Program} {w:World} {A:Around} {E:Value→Shared→Prop} {s:Shared}
theorem Gm {l t:Addr} {xs ys:Array Value} {Q:Value→Shared→Prop} (hl:s.heap.IsList l xs) (ht:s.heap.IsTuple t ys)
  (h:∀ h',IsZip h' (s.heap.objs.size+4) (s.heap.objs.size+2) (s.heap.objs.size+3) .none→IsPair h' (s.heap.objs.size+2) (.ref s.heap.objs.size) (.ref (s.heap.objs.size+1))→IsPair h' (s.heap.objs.size+3) .none .none →
   h'.IsListIter s.heap.objs.size l 0→h'.IsTupleIter (s.heap.objs.size+1) t 0→(∀ c o,s.heap.get? c=some o→h'.get? c=some o)→Q (.ref (s.heap.objs.size+4)) { s with heap:=h' }) :
  wpAny (model prog w) A (call (.type "zip") [.ref l,.ref t]) Q E s:=by
 refine callType_new F.called_zip (by decide) (F.typeCall_zip_2 _ _) (F.newCall_zip_2 _ _) (fun obj=>F.args_object_init_3 obj _ _) F.entry_zip_new (DM l t xs ys) ⟨hl,ht,?_⟩
 have s1:(zA s.heap l).objs.size=s.heap.objs.size+1:=Heap.size_push ..
 have s2:(zB s.heap l t).objs.size=s.heap.objs.size+2:=by rw [Heap.size_push,s1]
 have s3:(zC s.heap l t).objs.size=s.heap.objs.size+3:=by rw [Heap.size_push,s2]
 have s4:(zD s.heap l t).objs.size=s.heap.objs.size+4:=by rw [Heap.size_push,s3]
 have up:∀ {g:Heap} {o p:Obj} {c:Addr},g.get? c=some o→(g.push p).get? c=some o:=fun e=>Heap.get?_push_of_some _ e
 have g5:(zE s.heap l t).get? (zD s.heap l t).objs.size=some _:=Heap.get?_push_size _ rfl
 have g4:(zE s.heap l t).get? (zC s.heap l t).objs.size=some _:=up (Heap.get?_push_size _ rfl)
 have g3:(zE s.heap l t).get? (zB s.heap l t).objs.size=some _:=up (up (Heap.get?_push_size _ rfl))
 have g2:(zE s.heap l t).get? (zA s.heap l).objs.size=some _:=up (up (up (Heap.get?_push_size _ rfl)))
 have g1:(zE s.heap l t).get? s.heap.objs.size=some _:=up (up (up (up (Heap.get?_push_size _ rfl))))
 show _∧_
 rw [s2,s3,s4] at g5
 rw [s1,s2] at g3
 rw [s3] at g4
 rw [s1] at g2
 rw [s4]
 exact ⟨⟨_,g5,rfl⟩,h _ g5 g3 g4 ⟨_,g1,rfl,rfl⟩ ⟨_,g2,rfl,rfl⟩ fun c o q=>up (up (up (up (up q))))⟩
end
def PK (K:PySem.W.Frag) (a b:Addr):It :=
 ⟨fun i H=>∃ xs ys x y,aX K H a xs∧bz K H b ys∧xs[i]?=some x∧ys[i]?=some y,
  fun i H v H'=>∃ p x y,H p=none∧v=.ref p∧H'=upd H p (.tup [x,y])∧(∀ xs,aX K H a xs→xs[i]?=some x)∧∀ ys,bz K H b ys→ys[i]?=some y,
  fun i H=>∃ xs,aX K H a xs∧xs.length≤i⟩
theorem Gn {P:Program} {w:World} {K:PySem.W.Frag} {elts:List Expr} {x1:Nat} {pos:Pos} {z TI TO i1 i2 l1 l2:Addr} (D:ZipApart z TI TO i1 i2 l1 l2) :
  Turn P w K (.Tuple elts x1 pos) (PK K l1 l2) [z,TI,TO,i1,i2] z (fun i h=>IsZip h z TI TO .none∧IsPair h TI (.ref i1) (.ref i2)∧(∃ a b,IsPair h TO a b)∧h.IsListIter i1 l1 i∧h.IsTupleIter i2 l2 i) where
 mem:=by simp
 obj:=fun i h st b hb=>by
  obtain ⟨hz,qO,⟨a,b',sj⟩,⟨o1,e1,c1,d1⟩,⟨o2,e2,c2,d2⟩⟩:=st
  simp only [List.mem_cons,List.not_mem_nil,or_false] at hb
  rcases hb with rfl | rfl | rfl | rfl | rfl
  ·exact ⟨_,hz,fun v q=>by cases q⟩
  ·exact ⟨_,qO,fun v q=>by cases q⟩
  ·exact ⟨_,sj,fun v q=>by cases q⟩
  ·exact ⟨_,e1,fun v q=>by rw [d1] at q;cases q⟩
  ·exact ⟨_,e2,fun v q=>by rw [d2] at q;cases q⟩
 keep:=fun i h h' st k=>by
  obtain ⟨hz,qO,⟨a,b',sj⟩,h1,h2⟩:=st
  exact ⟨k z (by simp) _ hz,k TI (by simp) _ qO,⟨a,b',k TO (by simp) _ sj⟩,h1.at fun o e=>k i1 (by simp) o e,h2.at fun o e=>k i2 (by simp) o e⟩
 item:=by
  intro X hP hw hK hc i pins s σ H E I hf st hg
  subst hP hw hK
  obtain ⟨hz,qO,⟨a,b,sj⟩,h1,h2⟩:=st
  obtain ⟨xs,ys,x,y,hx,hy,ex,ey⟩:=hg
  obtain ⟨ai,rv,p,WN⟩:=I.list hx
  obtain ⟨iP,SK,p2,Yo⟩:=I.tuple hy
  obtain ⟨u,hu,ru⟩:=rv.get ex
  obtain ⟨u2,JM,WO⟩:=SK.get ey
  refine tL D hz qO sj h1 h2 p.isList (show s.heap.IsTuple l2 iP.toArray from p2) (x:=u) (y:=u2) (by simpa using hu) (by simpa using JM) fun h' a1 a2 a3 a4 a5 a6 kk=>⟨_,rfl,?_⟩
  refine wpAny_letOwnedTupleGo_zip a1 fun SM WQ Gi=>?_
  have lt:∀ {c o},s.heap.get? c=some o→s.heap.objs.size≠c:=fun e=>Nat.ne_of_gt (Heap.lt_size e)
  have k2:∀ c o,c ∉ [z,TI,TO,i1,i2]→s.heap.get? c=some o→SM.get? c=some o:=fun c o hc e=>by
   simp only [List.mem_cons,List.not_mem_nil,or_false,not_or] at hc
   exact Gi.extBut _ _ hc.1 (kk c o hc.1 hc.2.2.1 hc.2.2.2.1 hc.2.2.2.2 e)
  have tup:cI X.prog X.w (upd H s.heap.objs.size (.tup [x,y])) SM s.heap.objs.size (.tup [x,y]) :=
   ⟨by show 2≤sizeLine;decide,[u,u2],.cons ru (.cons WO .nil),⟨_,Gi.extBut _ _ (lt hz) a5,rfl,_,rfl⟩⟩
  have hn:=I.bw.fresh (Nat.le_refl s.heap.objs.size)
  refine ⟨.ref s.heap.objs.size,_,I.y8 (t':=s.toks) k2 hf (Nat.le_refl _) tup,rfl,⟨_,x,y,hn,rfl,rfl,fun zs hq=>by rw [I.rO hq hx];exact ex,fun zs hq=>by rw [I.yo hq hy];exact ey⟩,
   ⟨WQ,Gi.extBut _ _ D.TIz (kk _ _ D.TIz D.TITO D.TIi1 D.TIi2 qO),⟨_,_,Gi.extBut _ _ D.TOz a2⟩,a3.extBut Gi.extBut D.i1z,a4.extBut Gi.extBut D.i2z⟩,fun c hc=>?_⟩
  have Qy:c≠s.heap.objs.size:=by
   simp only [List.mem_cons,List.not_mem_nil,or_false] at hc
   obtain ⟨o1,e1,_⟩:=h1
   obtain ⟨o2,e2,_⟩:=h2
   rcases hc with rfl | rfl | rfl | rfl | rfl
   ·exact (lt hz).symm
   ·exact (lt qO).symm
   ·exact (lt sj).symm
   ·exact (lt e1).symm
   ·exact (lt e2).symm
  rw [aE Qy]
  exact (hf c hc).1
 done:=by
  intro X hP hw hK hc i pins s σ H E I hf st hg
  subst hP hw hK
  obtain ⟨hz,qO,⟨a,b,sj⟩,h1,h2⟩:=st
  obtain ⟨xs,hx,he⟩:=hg
  obtain ⟨ai,rv,p,WN⟩:=I.list hx
  have l1':=rv.length
  refine vC (I.ok.hd hc) D hz qO sj h1 p.isList (by simp;omega) fun h' kk=>⟨rfl,?_⟩
  refine I.FV (t':=s.toks) (ch:=[z,TI,TO,i1,i2]) (fun c o hc e=>?_) hf
  simp only [List.mem_cons,List.not_mem_nil,or_false,not_or] at hc
  exact kk c o hc.1 hc.2.2.1 hc.2.2.2.1 hc.2.2.2.2 e
 self:=fun _ _ _ _ _ st h=>wpAny_pyIter_zip st.1 h
section
variable {X:Cx}
def SY (K:PySem.W.Frag) (ta:TA):TI:=fun σ H R=>ta σ H fun vs H1=>∃ a b,vs=[.ref a,.ref b]∧(∃ xs,aX K H1 a xs)∧(∃ ys,bz K H1 b ys)∧R (PK K a b) H1
theorem JS (K:PySem.W.Frag) {e1 e2:Expr} {ta:TA} {p pos zk:Pos} {elts:List Expr} {x1:Nat} (hg:Gl X "zip") (hm:X.mg "zip"=none) (ha:PA X [e1,e2] ta) (hK:X.K=K:=by rfl) (hs:starEach [e1,e2] X.env=(false,eval e1 X.env) :: starEach [e2] X.env:=by rfl) (kK:(backTo pos (starEach [e2] X.env)).any (·.1)=false:=by rfl) :
  PI X (.Tuple elts x1 zk) (.Call (.Name "zip" p) [e1,e2] [] pos) (SY K ta):=by
 subst hK
 intro pins s σ H R I h
 refine wpAny_Call_Name_kw (l3 I hg hm boot_zip ?_ (by decide) (by decide))
 refine PyProof.Rows.callWith_type1 (bu (ha pos pins s σ H _ I h) fun us s1 ⟨vs,H1,I1,r1,q1⟩=>?_) hs kK
 obtain ⟨a,b,rfl,⟨xs,hx⟩,⟨ys,hy⟩,q⟩:=q1
 obtain ⟨u,v,rfl,ru,rv⟩:=r1.two
 cases ru
 cases rv
 obtain ⟨ai,r1',p1,_⟩:=I1.list hx
 obtain ⟨iP,r2',p2,_⟩:=I1.tuple hy
 have Yt:s1.heap.IsTuple b iP.toArray:=p2
 refine Gm p1.isList Yt fun h' hz qO sj h1 h2 kk=>?_
 refine wpAny_pyIter_zip hz ?_
 have la:a < s1.heap.objs.size:=by obtain ⟨o,n,ho,_⟩:=p1;exact Heap.lt_size ho
 have lb:b < s1.heap.objs.size:=by obtain ⟨o,ho,_⟩:=Yt;exact Heap.lt_size ho
 have I2:Inv X pins σ H1 { s1 with heap:=h' }:=I1.kept (t':=s1.toks) fun b o e=>kk b o e
 refine ⟨s1.heap.objs.size+4,[s1.heap.objs.size+4,s1.heap.objs.size+2,s1.heap.objs.size+3,s1.heap.objs.size,s1.heap.objs.size+1],_,_,H1,rfl,I2,Gn (zipApart_new la lb),⟨hz,qO,⟨_,_,sj⟩,h1,h2⟩,fun c hc=>?_,q⟩
 have hle:s1.heap.objs.size≤c:=by
  simp only [List.mem_cons,List.not_mem_nil,or_false] at hc
  rcases hc with rfl | rfl | rfl | rfl | rfl
  ·exact Nat.le_add_right _ _
  ·exact Nat.le_add_right _ _
  ·exact Nat.le_add_right _ _
  ·exact Nat.le_refl _
  ·exact Nat.le_add_right _ _
 exact I1.zb (H':=H1) hle (I1.bw.fresh hle)
end
section
variable {K:PySem.W.Frag} {g:TG} {tt:TT} {te:TE} {D:Addr} {σ:St} {H:Hp} {Q:VK}
theorem Lg {a b:Addr} {xs ys:List V} (hlen:xs.length=ys.length) (Pv:Nat→St→Hp→Prop) (h0:Pv 0 σ H) (hl:∀ i σ H,i≤xs.length→Pv i σ H→aX K H a xs∧bz K H b ys)
  (hs:∀ (i:Nat) (x y:V) (p:Addr) (σ:St) (H:Hp) (N:St→Hp→Prop),(∀ σ H,Pv (i+1) σ H→N σ H)→xs[i]?=some x→ys[i]?=some y→Pv i σ H→H p=none→g (.ref p) σ (upd H p (.tup [x,y])) fun σ3 H3=>tt σ3 H3 fun b H4 =>
   if b=true then te σ3 H4 fun v H5=>∃ ys,H5 D=some (.lst ys)∧ys.length < sizeLine∧N σ3 (upd H5 D (.lst (ys ++ [v]))) else N σ3 H4)
  (hd:∀ σ H,Pv xs.length σ H→Q (.ref D) H):ua (PK K a b) g tt te D σ H Q:=by
 refine ⟨fun i m σ H=>m=xs.length - i∧i≤xs.length∧Pv i σ H,⟨xs.length,by simp,Nat.zero_le _,h0⟩,?_⟩
 rintro i m σ' H' ⟨rfl,hi,p⟩
 obtain ⟨q1,q2⟩:=hl i σ' H' hi p
 by_cases fE:i < xs.length
 ·have PL:i < ys.length:=by omega
  refine .inr ⟨⟨xs,ys,xs[i],ys[i],q1,q2,by simp [fE],by simp [PL]⟩,fun x H2 y=>?_⟩
  obtain ⟨pp,x1,y1,hn,rfl,rfl,ex,ey⟩:=y
  exact hs i x1 y1 pp σ' _ (fun σ3 H3=>∃ m',m' < xs.length - i∧m'=xs.length - (i+1)∧i+1≤xs.length∧Pv (i+1) σ3 H3) (fun σ3 H3 z=>⟨xs.length - (i+1),by omega,rfl,fE,z⟩) (ex xs q1) (ey ys q2) p hn
 ·have e:i=xs.length:=by omega
  subst e
  exact .inl ⟨⟨xs,q1,Nat.le_refl _⟩,hd σ' H' p⟩
end
end L2
namespace L2
open PySem
structure PM (K:PySem.W.Frag) (a:Addr) (xs:List V):Prop where
 ex:∃ (o:Obj) (ai:Array Value) (n:Nat),K.lookup a=some o∧o.cls=.type "tuple"∧o.data=.seq ai n∧ai.size≤sizeLine∧au xs ai.toList
theorem PM.sq {K:PySem.W.Frag} {a:Addr} {xs:List V} (h:PM K a xs) (H:Hp):bz K H a xs:=.inr h.ex
end L2
namespace L2
open PySem PySem.Spec PyProof.Rows
section
variable {X:Cx}
end
section
variable {K:PySem.W.Frag} {g:TG} {tt:TT} {te:TE} {D:Addr} {σ:St} {H:Hp} {Q:VK}
theorem vt {i j:Nat} {x y:V} {p:Addr} {A:St→Hp→Prop} (hp:bz K H p [x,y]) (h:A ((σ.set i (some x)).set j (some y)) H):Ig K 2 (rP (jI i) (rP (jI j) Ie)) (.ref p) σ H A :=
 ⟨p,[x,y],rfl,hp,rfl,x,_,rfl,y,_,rfl,rfl,h⟩
end
end L2
namespace L2
open PySem PySem.Spec PyProof.Rows
section
variable {K:PySem.W.Frag} {g:TG} {tt:TT} {te:TE} {D:Addr} {σ:St} {H:Hp} {Q:VK}
theorem Lh {a b:Addr} {xs ys:List V} {tb:TS} {D:Ends} (hlen:xs.length=ys.length) (Pv:Nat→St→Hp→Prop) (h0:Pv 0 σ H) (hl:∀ i σ H,i≤xs.length→Pv i σ H→aX K H a xs∧aX K H b ys)
  (hs:∀ i x y p σ H,xs[i]?=some x→ys[i]?=some y→Pv i σ H→H p=none→g (.ref p) σ (upd H p (.tup [x,y])) fun σ2 H2=>tb { D with nx:=Pv (i+1),ct:=Pv (i+1),bk:=D.nx } σ2 H2) (hd:∀ σ H,Pv xs.length σ H→D.nx σ H) :
  ∃ W:Nat→Nat→St→Hp→Prop,(∃ m,W 0 m σ H)∧∀ i m σ H,W i m σ H →
   ((O8 K a b).stop i H∧D.nx σ H)∨((O8 K a b).go i H∧∃ N:St→Hp→Prop,(∀ σ' H',N σ' H'→∃ m',m' < m∧W (i+1) m' σ' H')∧∀ x H',(O8 K a b).Ij i H x H'→g x σ H' fun σ2 H2=>tb { D with nx:=N,ct:=N,bk:=D.nx } σ2 H2):=by
 refine ⟨fun i m σ H=>m=xs.length - i∧i≤xs.length∧Pv i σ H,⟨xs.length,by simp,Nat.zero_le _,h0⟩,?_⟩
 rintro i m σ H ⟨rfl,hi,p⟩
 obtain ⟨q1,q2⟩:=hl i σ H hi p
 by_cases fE:i < xs.length
 ·have PL:i < ys.length:=by omega
  refine .inr ⟨⟨xs,ys,xs[i],ys[i],q1,q2,by simp [fE],by simp [PL]⟩,Pv (i+1),fun σ' H' p'=>⟨xs.length - (i+1),by omega,rfl,fE,p'⟩,fun x H' y=>?_⟩
  obtain ⟨pp,x1,y1,hn,rfl,rfl,ex,ey⟩:=y
  exact hs i x1 y1 pp σ _ (ex xs q1) (ey ys q2) p hn
 ·have e:i=xs.length:=by omega
  subst e
  exact .inl ⟨⟨xs,ys,q1,q2,.inl (Nat.le_refl _)⟩,hd σ H p⟩
theorem Li {n:Nat} (hn:n≤1000) {H0:Hp} {σr:St} {b:Nat→Bool} (hD:H0 D=none)
  (ht:∀ (i:Nat) (H:Hp) (N:Bool→Hp→Prop),i < n→aI H0 H→(∀ H',aI H H'→N (b i) H')→tt (some (.int (0+(i:Int))) :: σr) H N)
  (he:∀ (i:Nat) (H:Hp) (N:V→Hp→Prop),i < n→N (.int (0+(i:Int))) H→te (some (.int (0+(i:Int))) :: σr) H N)
  (q:∀ H,aI H0 H→H D=some (.lst (((List.range n).filter b).map fun k=>V.int (k:Nat)))→Q (.ref D) H) :
  ua (LN 0 n) (jI 0) tt te D (none :: σr) (upd H0 D (.lst [])) Q:=by
 have hsz:(2000:Nat)≤sizeLine:=by decide
 refine lH (lo:=0) (n:=n) (fun i σ H'=>∃ v:Option V,σ=v :: σr∧aI H0 H'∧H' D=some (.lst (((List.range i).filter b).map fun k=>V.int (k:Nat)))) ⟨none,rfl,(aI.refl _).new hD,aB⟩ ?_ ?_
 ·rintro i σ H' N hN hi ⟨v,rfl,s1,h1⟩
  refine turn_if ?_
  refine ht i H' _ hi s1 fun H2 s2=>?_
  have ef:(List.range (i+1)).filter b=(List.range i).filter b ++ if b i=true then [i] else []:=by
   rw [List.range_succ,List.filter_append]
   congr 1
   by_cases e:b i=true <;> simp [e]
  by_cases e:b i=true
  ·rw [e]
   refine fc (he i H2 _ hi ⟨_,s2 _ _ h1,?_,?_⟩)
   ·rw [List.length_map]
    have:=List.length_filter_le b (List.range i)
    rw [List.length_range] at this
    omega
   ·refine hN _ _ ⟨_,rfl,(s1.trans s2).put hD,?_⟩
    rw [aB,ef,if_pos e,List.map_append]
    simp
  ·have e':b i=false:=by simpa using e
   rw [e']
   refine dh (hN _ _ ⟨_,rfl,s1.trans s2,?_⟩)
   rw [ef,if_neg e,List.append_nil]
   exact s2 _ _ h1
 ·rintro σ H' ⟨v,rfl,s1,h1⟩
  exact q H' s1 h1
theorem BV (ps:List Nat):(ps.map fun k=>V.int (k:Nat))=tabI ps.length fun q=>((ps.getD q 0:Nat):Int):=by
 apply List.ext_getElem?
 intro j
 by_cases hj:j < ps.length
 ·rw [b9 hj,List.getElem?_map]
  simp [hj,List.getD]
 ·rw [List.getElem?_eq_none (by rw [List.length_map];omega),List.getElem?_eq_none (by rw [aL];omega)]
end
section
variable {P:Program} {w:World} {K:PySem.W.Frag} {mg:Str→Option Value} {base:Heap}
def Wa:Sp:=fun _ _ _ _=>False
theorem aP.no {x:Str} {st:Stmt} {N ps:List Str} (F:aP K mg x st) (S:aQ N ps (aH st))
  (hb:∀ (kV doc pm:Value) (an:Option Addr) (bo ct:Value) (us:List Value),us.length=ps.length→bindArgs (PySem.W.fnOf x x (bT st) (bG st) (aH st) .none kV doc pm an bo ct) ⟨us,[]⟩=pure (ps.zip us)):Def P w K mg base 1 x ps Wa :=
 F.def S hb (fun _ _ _ _ h=>h.elim) fun _ _ _ _ _ _ _ _ _ _ h=>h.elim
end
end L2
namespace L2
open PySem PySem.Spec PyProof.Rows
theorem aI.tup {K:PySem.W.Frag} {H H':Hp} {a:Addr} {xs:List V} (e:aI H H') (h:bz K H a xs):bz K H' a xs:=by
 rcases h with (h | ⟨o,h⟩) | h
 ·exact .inl (.inl (e _ _ h))
 ·exact .inl (.inr ⟨o,e _ _ h⟩)
 ·exact .inr h
section
variable {prog:Program} {w:World} {A:Around} {E:Value→Shared→Prop} {s:Shared}
end
section
variable {X:Cx}
end
inductive xn (K:PySem.W.Frag) (H:Hp):Nat→V→V→Prop where
 | flat {n:Nat} (x:V):ni x=true→xn K H n x x
 | same {n:Nat} (a:Addr):xn K H n (.ref a) (.ref a)
 | lst {n:Nat} {a b:Addr} {xs ys:List V} (ha:aX K H a xs) (hb:aX K H b ys) (hl:xs.length=ys.length) (h:∀ (j:Nat) (x y:V),xs[j]?=some x→ys[j]?=some y→xn K H n x y):xn K H (n+1) (.ref a) (.ref b)
 | tup {n:Nat} {a b:Addr} {xs ys:List V} (ha:bz K H a xs) (hb:bz K H b ys) (hl:xs.length=ys.length) (h:∀ (j:Nat) (x y:V),xs[j]?=some x→ys[j]?=some y→xn K H n x y):xn K H (n+1) (.ref a) (.ref b)
theorem JT:∀ (x:V),ni x=true→GX x x=true
 | .bN,_=>rfl
 | .bl b,_=>by simp [GX]
 | .int i,_=>by simp [GX]
 | .str z,_=>by simp [GX]
 | .ref _,h=>absurd h (by intro z;cases z)
 | .ty _,h=>absurd h (by intro z;cases z)
section
variable {X:Cx} {pins:List (Addr × Obj)} {σ:St} {H:Hp} {s:Shared}
theorem FY (I:Inv X pins σ H s) {n:Nat} {x y:V} (h:xn X.K H n x y):∀ {A:Around} {u v:Value},A.units+n < cLine→RelV x u→RelV y v→SeqAt.EqAt A s u v true:=by
 induction h with
 | flat x fx=>intro A u v _ ru rv;have:=zm (A:=A) (s:=s) ru rv fx fx;rwa [JT x fx] at this
 | same a=>intro A u v _ ru rv;cases ru;cases rv;exact SeqAt.EqAt.same _
 | @lst n a b xs ys ha hb hl h ih =>
  intro A u v hu ru rv
  cases ru
  cases rv
  by_cases Gp:a=b
  ·subst Gp
   exact SeqAt.EqAt.same _
  ·obtain ⟨ai,r1,p1,_⟩:=I.list ha
   obtain ⟨iP,r2,p2,_⟩:=I.list hb
   have l1:=r1.length
   have l2:=r2.length
   refine SeqAt.EqAt.of_refs Gp ?_
   have q:=SeqAt.RcAt.lists (A:=A) (s:=s) (e:=fun _=>true) p1.isList p2.isList (by simp;omega) (by omega) fun j h1 h2=>?_
   ·rw [all_true] at q
    exact q
   ·obtain ⟨x,hx,rx⟩:=iQ r1 j h1
    obtain ⟨y,hy,ry⟩:=iQ r2 j h2
    exact ih j x y hx hy (A:=A.in1) (by show A.units+1+n < cLine;omega) rx ry
 | @tup n a b xs ys ha hb hl h ih =>
  intro A u v hu ru rv
  cases ru
  cases rv
  by_cases Gp:a=b
  ·subst Gp
   exact SeqAt.EqAt.same _
  ·obtain ⟨ai,r1,p1,_⟩:=I.tuple ha
   obtain ⟨iP,r2,p2,_⟩:=I.tuple hb
   have l1:=r1.length
   have l2:=r2.length
   refine SeqAt.EqAt.of_refs Gp ?_
   have q:=SeqAt.RcAt.tuples (A:=A) (s:=s) (e:=fun _=>true) (show s.heap.IsTuple a ai.toArray from p1) (show s.heap.IsTuple b iP.toArray from p2) (by omega) fun j h1 h2=>?_
   ·rw [all_true,Bool.true_and,show (ai.toArray.size == iP.toArray.size)=true by simp;omega] at q
    exact q
   ·obtain ⟨x,hx,rx⟩:=iQ r1 j h1
    obtain ⟨y,hy,ry⟩:=iQ r2 j h2
    exact ih j x y hx hy (A:=A.in1) (by show A.units+1+n < cLine;omega) rx ry
end
section
variable {X:Cx}
def Wb (K:PySem.W.Frag) (neg:Bool):R2:=fun x y H Q=>∃ a b xs ys,x=.ref a∧y=.ref b∧aX K H a xs∧aX K H b ys ∧
 ((xs.length=ys.length∧(∀ (j:Nat) (u v:V),xs[j]?=some u→ys[j]?=some v→xn K H 8 u v)∧Q (.bl (!neg)) H)∨(xs.length≠ys.length∧Q (.bl neg) H))
theorem Lj (K:PySem.W.Frag) (hu:X.A.units+16 < cLine) (hK:X.K=K:=by rfl):nS X (compareOp .NotEq) (Wb K true):=by
 subst hK
 intro pins s σ H x y v u Q I rx ry h
 obtain ⟨a,b,xs,ys,rfl,rfl,ha,hb,h⟩:=h
 cases rx
 cases ry
 obtain ⟨ai,r1,p1,_⟩:=I.list ha
 obtain ⟨iP,r2,p2,_⟩:=I.list hb
 have l1:=r1.length
 have l2:=r2.length
 rcases h with ⟨hl,he,q⟩ | ⟨hl,q⟩
 ·refine PySem.EqBoolInt.of_rcne (SeqAt.RcNeAt.lists (e:=fun _=>true) p1.isList p2.isList (by simp;omega) (by omega) fun j h1 h2=>?_) ?_
  ·obtain ⟨x,hx,rx⟩:=iQ r1 j h1
   obtain ⟨y,hy,ry⟩:=iQ r2 j h2
   exact FY I (he j x y hx hy) (A:=X.A.in1) (by show X.A.units+1+8 < cLine;omega) rx ry
  ·rw [all_true]
   exact ⟨.bl false,H,I,rfl,q⟩
 ·refine PySem.EqBoolInt.of_rcne (SeqAt.RcNeAt.lists_lengths p1.isList p2.isList (by simp;omega) (by omega)) ?_
  exact ⟨.bl true,H,I,rfl,q⟩
theorem FZ (K:PySem.W.Frag) {tg l:Expr} {tl:TE} (hl:PE X l tl) (hK:X.K=K:=by rfl):PI X tg l (Rc K tl):=by subst hK;exact OY hl
theorem BW (K:PySem.W.Frag) (hK:X.K=K:=by rfl):jx X (.type "tuple") (fun xs H Q=>∃ p ys,xs=[.ref p]∧((aX K H p ys∧∀ l,H l=none→Q (.ref l) (upd H l (.tup ys)))∨(bz K H p ys∧Q (.ref p) H))):=by subst hK;exact xm
end
section
variable {K:PySem.W.Frag} {g:TG} {tt:TT} {te:TE} {D:Addr} {σ:St} {H:Hp} {Q:VK}
end
end L2
namespace L2
open PySem PySem.Spec PyProof.Rows
end L2
namespace L2
open PySem PySem.Spec PyProof.Rows
section
variable (P:Program) (w:World)
end
section
variable {P:Program} {w:World} {H H':Hp} {h h':Heap} {a:Addr} {o:HO}
end
section
variable {P:Program} {w:World} {H:Hp} {h h':Heap} {x e:Addr} {o':HO}
end
section
variable {fs Ky ex Ve:List Addr} {H H1 H2:Hp} {h h1 h2 h':Heap} {a x e:Addr} {o:HO}
end
end L2
namespace L2
open PySem PySem.Spec PyProof.Rows
section
variable {X:Cx} {pins:List (Addr × Obj)} {σ:List (Option V)} {H H':Hp} {s:Shared} {h':Heap}
end
end L2
namespace L2
open PySem PySem.Spec PyProof.Rows
section
variable {X:Cx}
variable {a b:Expr} {ta tb:TE} {pos:Pos}
variable {tA RU:TT} {rest:List Expr}
end
end L2
namespace L2
open PySem PySem.Spec PyProof.Rows
section
variable {X:Cx} {pins:List (Addr × Obj)} {σ:St} {H:Hp} {s:Shared} {a:Addr} {xs ys:List V}
end
section
variable {X:Cx} {pins:List (Addr × Obj)} {σ:St} {H:Hp} {s:Shared} {E:Value→Shared→Prop}
end
section
variable {X:Cx} {st:Stmt} {rest:List Stmt} {t u:TS} {e:Expr} {te:TE} {pos:Pos}
end
section
variable {X:Cx} {pos:Pos}
end
section
variable {X:Cx} {pos:Pos}
end
end L2
namespace L2
open PySem PySem.Spec PyProof.Rows
section
variable {X:Cx} {tg:Expr}
end
end L2
namespace L2
open PySem PySem.Spec PyProof.Rows
section
variable {X:Cx} {a b c:Expr} {ta tb tc:TE} {pos:Pos}
end
section
variable {X:Cx} {a b c:Expr} {ta tb tc:TE} {pos:Pos}
end
end L2
namespace L2
open PySem PySem.Spec PyProof.Rows
section
variable {prog:Program} {w:World} {A:Around} {E:Value→Shared→Prop} {s:Shared} {K:PySem.W.Frag} {x dx C f:Addr} {mA:Str→Option Value} {name:Str} {v:Value}
end
section
variable {P:Program} {w:World} {H H':Hp} {h h':Heap} {a C dx:Addr} {fs Ky:List (Str × V)}
end
section
variable {X:Cx} {pins:List (Addr × Obj)} {σ:St} {H:Hp} {s:Shared} {a C dx:Addr} {fs:List (Str × V)} {f:Str} {v:V} {A:Around} {E:Value→Shared→Prop}
end
section
variable {X:Cx} {o e value:Expr} {f:Str} {pos pos' zk:Pos} {ta tv:TE}
end
section
variable {X:Cx} {pins:List (Addr × Obj)} {σ:St} {H:Hp} {s:Shared} {A:Around} {E:Value→Shared→Prop} {Q:Value→Shared→Prop} {c:Value} {b:Bool}
end
end L2
namespace L2
open PySem PySem.Spec PyProof.Rows
section
variable {X:Cx} {e:Expr} {es:List Expr} {te:TE} {t:TA} {pos:Pos}
end
section
variable {X:Cx} {pins:List (Addr × Obj)} {σ:St} {H:Hp} {s s':Shared}
end
section
variable {X:Cx} {CX:BI} {k:Nat} {f C:Addr} {fd:FuncData} {ps:List Str} {sp:Sp} {xf:List V} {ds:List Value} {E:XK} {x m:Str} {p pos apos:Pos} {e o:Expr} {es:List Expr} {ta:TE} {t:TA}
end
section
variable {X:Cx} {CX:BI} {k:Nat} {f C:Addr} {fd:FuncData} {ps ks:List Str} {sp:Sp} {E:XK} {x m:Str} {p pos apos Vy:Pos} {e o:Expr} {es:List Expr} {kws:List Keyword} {te ta:TE} {t tk:TA} {nm:Option Str}
variable {g:List Value→List Value→List Value} {gV:List V→List V→List V}
end
end L2
namespace L2
open PySem PySem.Spec PyProof.Rows
section
variable {X:Cx} {x:Str} {p pos:Pos} {e:Expr} {es:List Expr} {t:TA} {id T:String} {r:List V→Hp→VK→Prop}
end
end L2
namespace L2
open PySem PySem.Spec PyProof.Rows
section
variable {κ:Type} [DecidableEq κ]
def iz (aq:List (κ × V)) (k:κ):Option V:=(aq.find? fun kv=>decide (kv.1=k)).map (·.2)
def putK (aq:List (κ × V)) (k:κ) (v:V):List (κ × V) :=
 if (aq.any fun kv=>decide (kv.1=k))=true then aq.map (fun kv=>if kv.1=k then (kv.1,v) else kv) else aq ++ [(k,v)]
def Nt (aq:List (κ × V)) (k:κ):List (κ × V):=aq.filter fun kv=>decide (kv.1≠k)
theorem rg {p:κ × V} {r:List (κ × V)} {k:κ} (e:p.1=k):iz (p :: r) k=some p.2:=by simp [iz,List.find?_cons,e]
theorem vv {p:κ × V} {r:List (κ × V)} {k:κ} (e:¬ p.1=k):iz (p :: r) k=iz r k:=by simp [iz,List.find?_cons,e]
theorem BX (k:κ):∀ aq:List (κ × V),(aq.any fun kv=>decide (kv.1=k))=(iz aq k).isSome
 | []=>rfl
 | p :: r=>by
  rw [List.any_cons]
  by_cases e:p.1=k
  ·simp only [rg e,decide_eq_true e,Bool.true_or,Option.isSome_some]
  ·rw [vv e,decide_eq_false e,Bool.false_or];exact BX k r
theorem ud (aq:List (κ × V)) (k:κ) (v:V):(putK aq k v).length≤aq.length+1:=by
 unfold putK
 split
 ·rw [List.length_map];omega
 ·rw [List.length_append,List.length_cons,List.length_nil];omega
theorem lB.jA {o:Option V} {u:Option Value} (r:lB o u):o.isSome=u.isSome:=by
 cases o with
 | none=>cases u with
  | none=>rfl
  | some _=>exact (show False from r).elim
 | some _=>cases u with
  | none=>exact (show False from r).elim
  | some _=>rfl
theorem lB.getD {o:Option V} {u:Option Value} {d:V} {d':Value} (r:lB o u) (rd:RelV d d'):RelV (o.getD d) (u.getD d'):=by
 cases o with
 | none=>cases u with
  | none=>exact rd
  | some _=>exact (show False from r).elim
 | some _=>cases u with
  | none=>exact (show False from r).elim
  | some _=>exact r
theorem KV.val {aq:List (κ × V)} {vs:List (κ × Value)} (r:KV aq vs) (k:κ):lB (iz aq k) (valueAt vs k):=by
 unfold KV at r
 induction r with
 | nil=>exact True.intro
 | @cons p q ps qs h t ih =>
  obtain ⟨h1,h2⟩:=h
  by_cases e:p.1=k
  ·have e':q.1=k:=h1.symm.trans e
   have b:valueAt (q :: qs) k=some q.2:=by simp [valueAt,List.find?_cons,e']
   rw [rg e,b];exact h2
  ·have e':¬ q.1=k:=fun z=>e (h1.trans z)
   have b:valueAt (q :: qs) k=valueAt qs k:=by simp [valueAt,List.find?_cons,e']
   rw [vv e,b];exact ih
theorem KV.any {aq:List (κ × V)} {vs:List (κ × Value)} (r:KV aq vs) (k:κ):(aq.any fun kv=>decide (kv.1=k))=vs.any fun kv=>decide (kv.1=k):=by
 unfold KV at r
 induction r with
 | nil=>rfl
 | cons h t ih=>rw [List.any_cons,List.any_cons,ih,h.1]
theorem KV.JU {aq:List (κ × V)} {vs:List (κ × Value)} (r:KV aq vs) (k:κ) {y:V} {u:Value} (ry:RelV y u) :
  KV (aq.map fun kv=>if kv.1=k then (kv.1,y) else kv) (vs.map fun kv=>if kv.1=k then (kv.1,u) else kv):=by
 unfold KV at r ⊢
 induction r with
 | nil=>exact .nil
 | @cons p q ps qs h t ih =>
  rw [List.map_cons,List.map_cons]
  refine .cons ?_ ih
  obtain ⟨h1,h2⟩:=h
  by_cases e:p.1=k
  ·rw [if_pos e,if_pos (h1.symm.trans e)];exact ⟨h1,ry⟩
  ·rw [if_neg e,if_neg (fun z=>e (h1.trans z))];exact ⟨h1,h2⟩
theorem KV.put {aq:List (κ × V)} {vs:List (κ × Value)} (r:KV aq vs) (k:κ) {y:V} {u:Value} (ry:RelV y u):KV (putK aq k y) (stored vs k u):=by
 unfold putK stored
 rw [r.any k]
 by_cases e:(vs.any fun kv=>decide (kv.1=k))=true
 ·rw [if_pos e,if_pos e];exact r.JU k ry
 ·rw [if_neg e,if_neg e];exact Paired.snoc r ⟨rfl,ry⟩
theorem KV.drop {aq:List (κ × V)} {vs:List (κ × Value)} (r:KV aq vs) (k:κ):KV (Nt aq k) (without vs k):=by
 unfold KV at r ⊢
 unfold Nt without
 induction r with
 | nil=>exact .nil
 | @cons p q ps qs h t ih =>
  obtain ⟨h1,h2⟩:=h
  rw [List.filter_cons,List.filter_cons]
  by_cases e:p.1=k
  ·have a:¬ decide (p.1≠k)=true:=by simp [e]
   have b:¬ decide (q.1≠k)=true:=by simp [h1.symm.trans e]
   rw [if_neg a,if_neg b];exact ih
  ·have e':¬ q.1=k:=fun z=>e (h1.trans z)
   have a:decide (p.1≠k)=true:=by simp [e]
   have b:decide (q.1≠k)=true:=by simp [e']
   rw [if_pos a,if_pos b];exact .cons ⟨h1,h2⟩ ih
theorem KV.keys {aq:List (κ × V)} {vs:List (κ × Value)} (r:KV aq vs):aq.map (·.1)=vs.map (·.1):=by
 unfold KV at r
 induction r with
 | nil=>rfl
 | cons h t ih=>rw [List.map_cons,List.map_cons,ih,h.1]
theorem KV.length {aq:List (κ × V)} {vs:List (κ × Value)} (r:KV aq vs):aq.length=vs.length:=Paired.length r
end
theorem y9 {P:Program} {w:World} {k:Key} {u:Value} (r:RelV (kV k) u):(be P w).is k u=true:=by
 cases k with
 | inl i=>obtain ⟨t,e⟩:=(show ∃ t,u=Value.int i t from r);subst e;exact A5 P w i t
 | inr x=>obtain ⟨t,e⟩:=(show ∃ t,u=Value.str x t from r);subst e;exact A6 P w x t
theorem zF {P:Program} {w:World}:∀ {ks:List Key} {us:List Value},au (ks.map kV) us→ItemsAre (be P w) ks us
 | [],_,r=>by rw [List.map_nil] at r;cases r;exact .nil
 | k :: ks,_,r=>by
  rw [List.map_cons] at r
  cases r with
  | cons h t=>exact .cons (y9 h) (zF t)
abbrev KT (H:Hp):List (List Key × V)→List (List Key × Addr × Value)→Prop:=Paired fun p q=>p.1=q.1∧H q.2.1=some (.tup (p.1.map kV))∧RelV p.2 q.2.2
theorem KT.val {H:Hp} {aq:List (List Key × V)} {xs:List (List Key × Addr × Value)} (r:KT H aq xs) (k:List Key):lB (iz aq k) ((atKey xs k).map (·.2)):=by
 induction r with
 | nil=>exact True.intro
 | @cons p q ps qs h t ih =>
  obtain ⟨h1,_,h2⟩:=h
  by_cases e:p.1=k
  ·have e':q.1=k:=h1.symm.trans e
   have b:atKey (q :: qs) k=some q.2:=by simp [atKey,List.find?_cons,e']
   rw [rg e,b];exact h2
  ·have e':¬ q.1=k:=fun z=>e (h1.trans z)
   have b:atKey (q :: qs) k=atKey qs k:=by simp [atKey,List.find?_cons,e']
   rw [vv e,b];exact ih
theorem KT.JU {H:Hp} {aq:List (List Key × V)} {xs:List (List Key × Addr × Value)} (r:KT H aq xs) (k:List Key) {y:V} {u:Value} (ry:RelV y u) :
  KT H (aq.map fun kv=>if kv.1=k then (kv.1,y) else kv) (xs.map (putAt k u)):=by
 induction r with
 | nil=>exact .nil
 | @cons p q ps qs h t ih =>
  rw [List.map_cons,List.map_cons]
  refine .cons ?_ ih
  obtain ⟨h1,h2,h3⟩:=h
  unfold putAt
  by_cases e:p.1=k
  ·rw [if_pos e,if_pos (h1.symm.trans e)];exact ⟨h1,h2,ry⟩
  ·rw [if_neg e,if_neg (fun z=>e (h1.trans z))];exact ⟨h1,h2,h3⟩
theorem KT.put {H:Hp} {aq:List (List Key × V)} {xs:List (List Key × Addr × Value)} (r:KT H aq xs) (k:List Key) {b:Addr} {y:V} {u:Value} (hb:H b=some (.tup (k.map kV))) (ry:RelV y u) :
  KT H (putK aq k y) (storedH xs k b u):=by
 have e:(aq.any fun kv=>decide (kv.1=k))=(atKey xs k).isSome:=by
  rw [BX,(r.val k).jA,Option.isSome_map]
 unfold putK storedH
 rw [e]
 by_cases q:(atKey xs k).isSome=true
 ·rw [if_pos q,if_pos q];exact r.JU k ry
 ·rw [if_neg q,if_neg q];exact Paired.snoc r ⟨rfl,hb,ry⟩
theorem KT.keeps {H H':Hp} {aq:List (List Key × V)} {xs:List (List Key × Addr × Value)} (r:KT H aq xs) (ht:∀ b ys,H b=some (.tup ys)→H' b=some (.tup ys)):KT H' aq xs :=
 Paired.OM r fun _ _ z=>⟨z.1,ht _ _ z.2.1,z.2.2⟩
section
variable {P:Program} {w:World} {H:Hp} {h:Heap} {a:Addr}
theorem Nu {u:HO} (ok:pw P w H h) (e:Rd H a u):cI P w H h a u:=e.ok ok
theorem vw {aq:List (Key × V)} (ok:pw P w H h) (e:Rd H a (.dK aq)):aq.length≤sizeLine∧(a == sysModules)=false∧∃ vs,KV aq vs∧h.DictOf (be P w) a vs :=
 show cI P w H h a (.dK aq) from Nu ok e
theorem Sa {aq:List (Key × V)} (ok:pw P w H h) (e:H a=some (.dK aq)):aq.length≤sizeLine∧(a == sysModules)=false∧∃ vs,KV aq vs∧h.DictOf (be P w) a vs:=vw ok (.inl e)
theorem nq {ks:List Key} (ok:pw P w H h) (e:H a=some (.tup (ks.map kV))):(tupleKind (be P w)).is h ks a:=by
 obtain ⟨_,ai,r,o,h1,h2,n,h3⟩:=(show cI P w H h a (.tup (ks.map kV)) from ok a _ e)
 exact ⟨o,ai.toArray,n,h1,h2,h3,by simpa using zF r⟩
theorem vx {aq:List (List Key × V)} (ok:pw P w H h) (e:Rd H a (.dT aq)):aq.length≤sizeLine∧(a == sysModules)=false ∧
  ∃ xs,KT H aq xs∧h.DictOfH (tupleKind (be P w)) a xs:=by
 obtain ⟨z,y,xs,r,o,es,ep,h1,h2,h3,h4,h5⟩:=(show cI P w H h a (.dT aq) from Nu ok e)
 refine ⟨z,y,xs,r,o,es,ep,h1,h2,h3,h4,fun x hx=>?_,h5⟩
 have all:∀ {l:List (List Key × V)} {m:List (List Key × Addr × Value)},KT H l m→∀ x ∈ m,(tupleKind (be P w)).is h x.1 x.2.1:=by
  intro l m q
  induction q with
  | nil=>intro x hx;exact nomatch hx
  | @cons p q ps qs hq t ih =>
   intro x hx
   rcases List.mem_cons.mp hx with e | hx
   ·subst e
    exact nq ok (by rw [← hq.1];exact hq.2.1)
   ·exact ih x hx
 exact all r x hx
theorem Sb {aq:List (List Key × V)} (ok:pw P w H h) (e:H a=some (.dT aq)):aq.length≤sizeLine∧(a == sysModules)=false ∧
  ∃ xs,KT H aq xs∧h.DictOfH (tupleKind (be P w)) a xs:=vx ok (.inl e)
end
def jw (H:Hp) (a:Addr) (y:V) (r:Option V):Prop :=
 (∃ aq k,Rd H a (.dK aq)∧y=kV k∧r=iz aq k)∨∃ aq k b,Rd H a (.dT aq)∧y=.ref b∧H b=some (.tup (k.map kV))∧r=iz aq k
def BY (H:Hp) (a:Addr) (y v:V) (H':Hp):Prop :=
 (∃ aq k,H a=some (.dK aq)∧y=kV k∧aq.length < sizeLine∧H'=upd H a (.dK (putK aq k v))) ∨
 ∃ aq k b,H a=some (.dT aq)∧y=.ref b∧H b=some (.tup (k.map kV))∧aq.length < sizeLine∧H'=upd H a (.dT (putK aq k v))
theorem jw.k {H:Hp} {a:Addr} {aq:List (Key × V)} {k:Key} (e:H a=some (.dK aq)):jw H a (kV k) (iz aq k):=.inl ⟨aq,k,.inl e,rfl,rfl⟩
theorem jw.t {H:Hp} {a b:Addr} {aq:List (List Key × V)} {k:List Key} (e:H a=some (.dT aq)) (eb:H b=some (.tup (k.map kV))):jw H a (.ref b) (iz aq k):=.inr ⟨aq,k,b,.inl e,rfl,eb,rfl⟩
theorem BY.k {H:Hp} {a:Addr} {aq:List (Key × V)} {k:Key} {v:V} (e:H a=some (.dK aq)) (hl:aq.length < sizeLine):BY H a (kV k) v (upd H a (.dK (putK aq k v))):=.inl ⟨aq,k,e,rfl,hl,rfl⟩
theorem BY.t {H:Hp} {a b:Addr} {aq:List (List Key × V)} {k:List Key} {v:V} (e:H a=some (.dT aq)) (eb:H b=some (.tup (k.map kV))) (hl:aq.length < sizeLine) :
  BY H a (.ref b) v (upd H a (.dT (putK aq k v))):=.inr ⟨aq,k,b,e,rfl,eb,hl,rfl⟩
section
variable {X:Cx} {pins:List (Addr × Obj)} {σ:St} {H:Hp} {s:Shared} {a:Addr} {y v:V} {u r:Value} {o:Option V} {A:Around} {E:Value→Shared→Prop}
theorem Inv.big (I:Inv X pins σ H s):sysModules < s.heap.objs.size:=by
 have h:mainGlobals < s.heap.objs.size:=(I.mod.glob.keeps I.bk).lt
 exact Nat.lt_trans (by decide) h
theorem Gq {Q:Value→Shared→Prop} (hu:A.units+1 < cLine) (I:Inv X pins σ H s) (g:jw H a y (some v)) (ry:RelV y u) (h:∀ w' s',Inv X pins σ H s'→RelV v w'→Q w' s') :
  wpAny (model X.prog X.w) A (getItem (.ref a) u) Q E s:=by
 rcases g with ⟨aq,k,e,ey,l⟩ | ⟨aq,k,b,e,ey,eb,l⟩
 ·subst ey
  obtain ⟨z,hd,vs,rel,dd⟩:=vw I.bw e
  obtain ⟨w',hw,rw'⟩:=lB.some_of (v:=v) (o:=valueAt vs k) (by rw [l];exact rel.val k)
  exact wpAny_getItem_of (y9 ry) dd.mapOf hw (h w' _ (I.tok _) rw')
 ·subst ey
  cases (show u=Value.ref b from ry)
  obtain ⟨z,hd,xs,rel,dd⟩:=vx I.bw e
  obtain ⟨w',hw,rw'⟩:=lB.some_of (v:=v) (o:=(atKey xs k).map (·.2)) (by rw [l];exact rel.val k)
  obtain ⟨p,hp,vy⟩:=Option.map_eq_some_iff.mp hw
  refine wpAny_getItem_heap (tupleKind_room_in1 hu) (nq I.bw eb) dd hp ?_
  rw [vy]
  exact h w' _ (I.tok _) rw'
theorem Wc {Q:Value→Shared→Prop} (hu:A.units+1 < cLine) (I:Inv X pins σ H s) (g:jw H a y o) (ry:RelV y u) (h:∀ s',Inv X pins σ H s'→Q (.bool o.isSome) s') :
  wpAny (model X.prog X.w) A (compareOp .In u (.ref a)) Q E s:=by
 rcases g with ⟨aq,k,e,ey,l⟩ | ⟨aq,k,b,e,ey,eb,l⟩
 ·subst ey
  obtain ⟨z,hd,vs,rel,dd⟩:=vw I.bw e
  refine wpAny_in_of (y9 ry) hd dd.mapOf ?_
  rw [← (rel.val k).jA,← l]
  exact h _ (I.tok _)
 ·subst ey
  cases (show u=Value.ref b from ry)
  obtain ⟨z,hd,xs,rel,dd⟩:=vx I.bw e
  refine wpAny_in_heap (tupleKind_room_in1 hu) (nq I.bw eb) hd dd ?_
  have q:=(rel.val k).jA
  rw [Option.isSome_map] at q
  rw [← q,← l]
  exact h _ (I.tok _)
theorem Ll {Q:Value→Shared→Prop} (hu:A.units+1 < cLine) (I:Inv X pins σ H s) (g:jw H a y o) (ry:RelV y u) (h:∀ s',Inv X pins σ H s'→Q (.bool (!o.isSome)) s') :
  wpAny (model X.prog X.w) A (compareOp .NotIn u (.ref a)) Q E s:=by
 rcases g with ⟨aq,k,e,ey,l⟩ | ⟨aq,k,b,e,ey,eb,l⟩
 ·subst ey
  obtain ⟨z,hd,vs,rel,dd⟩:=vw I.bw e
  refine wpAny_notIn_of (y9 ry) hd dd.mapOf ?_
  rw [← (rel.val k).jA,← l]
  exact h _ (I.tok _)
 ·subst ey
  cases (show u=Value.ref b from ry)
  obtain ⟨z,hd,xs,rel,dd⟩:=vx I.bw e
  refine wpAny_notIn_heap (tupleKind_room_in1 hu) (nq I.bw eb) hd dd ?_
  have q:=(rel.val k).jA
  rw [Option.isSome_map] at q
  rw [← q,← l]
  exact h _ (I.tok _)
theorem Fb {h':Heap} {t':Nat} {ob:HO} (I:Inv X pins σ H s) (mu:RO (H a)) (hs:Heap.SameBut a s.heap h') (he:∃ q,h'.get? a=some q) (new:cI X.prog X.w (upd H a ob) h' a ob) :
  Inv X pins σ (upd H a ob) { s with heap:=h',toks:=t' } :=
 I.write (x:=a) (e:=a) mu (.inl rfl) (fun b q hb z=>(hs.2 b hb).trans z) he new
theorem PN {P:Program} {w:World} {H':Hp} {h':Heap} {aq:List (Key × V)} {vs:List (Key × Value)} (z:aq.length≤sizeLine) (hd:(a == sysModules)=false) (rel:KV aq vs) (dd:h'.DictOf (be P w) a vs) :
  cI P w H' h' a (.dK aq):=⟨z,hd,vs,rel,dd⟩
theorem Gr {H':Hp} {Q:Unit→Shared→Prop} (hu:A.units+1 < cLine) (I:Inv X pins σ H s) (g:BY H a y v H') (ry:RelV y u) (rv:RelV v r) (h:∀ s',Inv X pins σ H' s'→Q () s') :
  wpAny (model X.prog X.w) A (setItem (.ref a) u r) Q E s:=by
 rcases g with ⟨aq,k,e,ey,l,eH⟩ | ⟨aq,k,b,e,ey,eb,l,eH⟩
 ·subst ey eH
  obtain ⟨z,hd,vs,rel,dd⟩:=Sa I.bw e
  have hz:vs.length≤sizeLine:=by rw [← rel.length];exact z
  have hl:(putK aq k v).length≤sizeLine:=by have:=ud aq k v;omega
  refine wpAny_setItem_pairs (hsz:=hz) (y9 ry) dd fun h' U2 hs=>h _ ?_
  have he:∃ q,h'.get? a=some q:=let ⟨q,_,_,hq,_⟩:=U2;⟨q,hq⟩
  exact Fb I (by rw [e];exact True.intro) hs he (PN hl hd (rel.put k rv) U2)
 ·subst ey eH
  cases (show u=Value.ref b from ry)
  obtain ⟨z,hd,xs,rel,dd⟩:=Sb I.bw e
  have hz:xs.length≤sizeLine:=by rw [← Paired.length rel];exact z
  have hl:(putK aq k v).length≤sizeLine:=by have:=ud aq k v;omega
  refine wpAny_setItem_heap (hsz:=hz) (tupleKind_room_in1 hu) (nq I.bw eb) dd fun h' U2 hs=>h _ ?_
  obtain ⟨q,es,ep,hq,h2,h3,h4,_,h5⟩:=U2
  refine Fb I (by rw [e];exact True.intro) hs ⟨q,hq⟩ ⟨hl,hd,_,(rel.put k eb rv).keeps fun c ys ec=>?_,q,es,ep,hq,h2,h3,h4,h5⟩
  rw [aE (RN ec e (fun z=>nomatch z))]
  exact ec
end
section
variable {X:Cx} {pins:List (Addr × Obj)} {σ:St} {H:Hp} {s:Shared} {a:Addr} {aq:List (Key × V)} {k:Key} {u:Value} {A:Around} {E:Value→Shared→Prop}
end
def PQ (i:Expr):Prop:=∀ ov iv,subscripted i false ov iv=operate [ov,iv] (getItem ov iv)
theorem Fc {prog:Program} {w:World} {A:Around} {E:Value→Shared→Prop} {s:Shared} {env:Env} {value slice:Expr} {pos:Pos} {T id:String} {Q:Value→Shared→Prop}
  (hl:typeLookup (.type T) "__getitem__"=pure (some (.builtin id))) (hs:PQ slice)
  (h:wpAny (model prog w) A (eval value env) (fun o s₁=>wpAny (model prog w) A (eval slice env) (fun i s₂=>s₂.TypeIs o T∧wpAny (model prog w) A (getItem o i) Q E s₂) E s₁) E s) :
  wpAny (model prog w) A (eval (.Subscript value slice pos) env) Q E s:=by
 refine Subscript_ (wpAny_mono h (fun o s₁ h₁=>wpAny_mono h₁ (fun i s₂ h₂=>?_) fun _ _ x=>x) fun _ _ x=>x)
 obtain ⟨hT,h₂⟩:=h₂
 unfold subscriptTail
 refine wpAny_bind ?_
 rw [getitemInPython_of_ne hT.not_modules]
 refine wpAny_bind (wpAny_specialOf hT hl ?_)
 have fin:wpAny (model prog w) A (subscripted slice false o i) (fun r s₃=>wpAny (model prog w) A (letTemporaryGo value o r >>= fun _=>pure r) Q E s₃) E s₂:=by
  rw [hs o i]
  exact wpAny_operating (wpAny_mono h₂ (fun r s₃ h₃=>wpAny_bind (wpAny_letTemporaryGo (wpAny_pure h₃))) fun _ _ x=>x)
 first
  | exact wpAny_pure (wpAny_bind fin)
  | exact wpAny_bind (wpAny_pure (wpAny_bind fin))
  | exact wpAny_bind fin
theorem BZ {X:Cx} {pins:List (Addr × Obj)} {σ:St} {H:Hp} {s:Shared} {a:Addr} {y:V} {o:Option V} (I:Inv X pins σ H s) (g:jw H a y o):s.TypeIs (.ref a) "dict":=by
 rcases g with ⟨aq,k,e,_,_⟩ | ⟨aq,k,b,e,_,_,_⟩
 ·obtain ⟨_,_,vs,_,dd⟩:=vw I.bw e
  exact dd.typeIs
 ·obtain ⟨_,_,xs,_,dd⟩:=vx I.bw e
  exact dd.typeIs
def Sd (td ty:TE):TE:=fun σ H Q=>td σ H fun x H1=>ty σ H1 fun y H2=>∃ a v,x=.ref a∧jw H2 a y (some v)∧Q v H2
def Wd (ty td:TE):TE:=fun σ H Q=>ty σ H fun y H1=>td σ H1 fun x H2=>∃ a o,x=.ref a∧jw H2 a y o∧Q (.bl o.isSome) H2
def Lm (ty td:TE):TE:=fun σ H Q=>ty σ H fun y H1=>td σ H1 fun x H2=>∃ a o,x=.ref a∧jw H2 a y o∧Q (.bl (!o.isSome)) H2
def Se (td ty tv:TE):TS:=fun D σ H=>tv σ H fun v H1=>td σ H1 fun x H2=>ty σ H2 fun y H3=>∃ a H4,x=.ref a∧BY H3 a y v H4∧D.nx σ H4
section
variable {X:Cx} {o i e value:Expr} {pos pos' zk:Pos} {td ty tv:TE}
theorem Fd (hu:X.A.units+1 < cLine) (ho:PE X o td) (hi:PE X i ty) (hs:PQ i):PE X (.Subscript o i pos) (Sd td ty):=by
 intro pins s σ H Q I h
 refine Fc PySem.F.slot_dict_getitem.lookup hs (bu (ho pins s σ H _ I h) fun u s1 ⟨x,H1,I1,rx,q1⟩=>bu (hi pins s1 σ H1 _ I1 q1) fun iv s2 ⟨y,H2,I2,ry,a,v,ex,g,q2⟩=>?_)
 subst ex
 obtain rfl:u=Value.ref a:=rx
 exact ⟨BZ I2 g,Gq hu I2 g ry fun w' s3 I3 rw'=>⟨v,H2,I3,rw',q2⟩⟩
theorem PR (hu:X.A.units+1 < cLine) (hi:PE X i ty) (ho:PE X o td):PC X .In i o (Wd ty td):=by
 intro pins s σ H Q I h
 refine bu (hi pins s σ H _ I h) fun iv s1 ⟨y,H1,I1,ry,q1⟩=>bu (ho pins s1 σ H1 _ I1 q1) fun u s2 ⟨x,H2,I2,rx,a,ov,ex,g,q2⟩=>?_
 subst ex
 obtain rfl:u=Value.ref a:=rx
 exact Wc hu I2 g ry fun s3 I3=>⟨.bl ov.isSome,H2,I3,rfl,q2⟩
theorem Gs (hu:X.A.units+1 < cLine) (hi:PE X i ty) (ho:PE X o td):PC X .NotIn i o (Lm ty td):=by
 intro pins s σ H Q I h
 refine bu (hi pins s σ H _ I h) fun iv s1 ⟨y,H1,I1,ry,q1⟩=>bu (ho pins s1 σ H1 _ I1 q1) fun u s2 ⟨x,H2,I2,rx,a,ov,ex,g,q2⟩=>?_
 subst ex
 obtain rfl:u=Value.ref a:=rx
 exact Ll hu I2 g ry fun s3 I3=>⟨.bl (!ov.isSome),H2,I3,rfl,q2⟩
theorem Fe (hu:X.A.units+1 < cLine) (ho:PE X o td) (hi:PE X i ty) (hv:PE X value tv) (hs:swapsWith value (some (.Subscript o i pos')) pos.line X.env=pure false) :
  PS X (.Assign [.Subscript o i pos'] value pos) (Se td ty tv):=by
 intro pins s σ H D I h
 refine wpAny_Assign_Subscript (bu (hv pins s σ H _ I h) fun r s1 ⟨v,H1,I1,rv,q1⟩=>bu (ho pins s1 σ H1 _ I1 q1) fun u s2 ⟨x,H2,I2,rx,q2⟩=>bu (hi pins s2 σ H2 _ I2 q2) fun iv s3 ⟨y,H3,I3,ry,a,H4,ex,g,q3⟩=>?_) hs
 subst ex
 obtain rfl:u=Value.ref a:=rx
 exact Gr hu I3 g ry rv fun s4 I4=>⟨σ,H4,I4,q3⟩
end
theorem JV {P:Program} {w:World} {H:Hp} (h:Heap) (hb:sysModules < h.objs.size):cI P w H (h.push { cls:=.type "dict",data:=.dict #[] }) h.objs.size (.dT []) :=
 ⟨Nat.zero_le _,beq_eq_false_iff_ne.mpr (Ne.symm (Nat.ne_of_lt hb)),[],.nil,_,#[],0,Heap.get?_push_size _ rfl,⟨rfl,rfl,rfl⟩,rfl,rfl,List.nodup_nil⟩
def PU:TE:=fun _ H Q=>∀ p,H p=none→Q (.ref p) (upd H p (.dT []))
section
variable {X:Cx} {pos:Pos}
theorem rh:PE X (.Dict [] [] pos) PU:=fun pins s σ H Q I h =>
 wpAny_Dict_empty ⟨.ref s.heap.objs.size,_,I.laid (a:=s.heap.objs.size) (o:=.dT []) (t':=s.toks) (fun _ _ q=>Heap.get?_push_of_some _ q) (Nat.le_refl _) (JV s.heap I.big),rfl,h _ (I.bw.fresh (Nat.le_refl _))⟩
end
structure M1 (X:Cx) (o:Expr) (m:Str) (apos:Pos) (e:Expr) (fF:Pos):Prop where
 base:attributeBase o m X.env (eval o X.env)=eval o X.env
 xo:((backTo fF (starEach [e] X.env)).all (fun x=>!x.1) && (backToKw fF (keywordEach [] X.env)).all (fun x=>x.1.isSome)
  && decide (([e]:List Expr).length+([]:List Keyword).length+(if ([]:List Keyword).isEmpty then 0 else 1) < 30))=true
 line:(apos.endLine == fF.line)=true
 trees:backTo fF (starEach [e] X.env)=[(false,eval e X.env)]
structure M2 (X:Cx) (o:Expr) (m:Str) (apos:Pos) (e f:Expr) (fF:Pos):Prop where
 base:attributeBase o m X.env (eval o X.env)=eval o X.env
 xo:((backTo fF (starEach [e,f] X.env)).all (fun x=>!x.1) && (backToKw fF (keywordEach [] X.env)).all (fun x=>x.1.isSome)
  && decide (([e,f]:List Expr).length+([]:List Keyword).length+(if ([]:List Keyword).isEmpty then 0 else 1) < 30))=true
 line:(apos.endLine == fF.line)=true
 trees:backTo fF (starEach [e,f] X.env)=[(false,eval e X.env),(false,eval f X.env)]
def Yu (H:Hp) (a:Addr):Prop:=(∃ aq,Rd H a (.dK aq))∨∃ aq,Rd H a (.dT aq)
theorem PV {X:Cx} {pins:List (Addr × Obj)} {σ:St} {H:Hp} {s:Shared} {a:Addr} (I:Inv X pins σ H s) (d:Yu H a) :
  s.TypeIs (.ref a) "dict"∧(∀ b,Value.ref a=.ref b→∃ ob,s.heap.get? b=some ob∧ob.dict=none)∧(a == sysModules)=false:=by
 rcases d with ⟨aq,e⟩ | ⟨aq,e⟩
 ·obtain ⟨_,hd,vs,_,dd⟩:=vw I.bw e
  refine ⟨dd.typeIs,fun b q=>?_,hd⟩
  cases q
  obtain ⟨ob,_,_,h1,h2,_⟩:=dd
  exact ⟨ob,h1,h2.2.1⟩
 ·obtain ⟨_,hd,xs,_,dd⟩:=vx I.bw e
  refine ⟨dd.typeIs,fun b q=>?_,hd⟩
  cases q
  obtain ⟨ob,_,_,h1,h2,_⟩:=dd
  exact ⟨ob,h1,h2.2.1⟩
section
variable {X:Cx} {pins:List (Addr × Obj)} {σ:St} {H:Hp} {s:Shared} {a:Addr} {y d:V} {u r:Value} {o:Option V} {A:Around} {E:Value→Shared→Prop}
theorem PX {Q:Value→Shared→Prop} (hu:A.units+1 < cLine) (I:Inv X pins σ H s) (g:jw H a y o) (ry:RelV y u) (rd:RelV d r) (h:∀ w' s',Inv X pins σ H s'→RelV (o.getD d) w'→Q w' s') :
  wpAny (model X.prog X.w) A (call (.builtin "dict.get") [.ref a,u,r]) Q E s:=by
 rcases g with ⟨aq,k,e,ey,l⟩ | ⟨aq,k,b,e,ey,eb,l⟩
 ·subst ey
  obtain ⟨z,hd,vs,rel,dd⟩:=vw I.bw e
  refine call_meetsIn PySem.F.slot_dict_get dd.typeIs PySem.F.entry_dict_get (PySem.F.args_dict_get_3 _ _ _) (meets_dict_get_default (be X.prog X.w) a (y9 ry) hd r) ⟨_,dd.mapOf,h _ _ (I.tok _) ?_⟩
  rw [l]
  exact (rel.val k).getD rd
 ·subst ey
  cases (show u=Value.ref b from ry)
  obtain ⟨z,hd,xs,rel,dd⟩:=vx I.bw e
  refine call_meetsIn PySem.F.slot_dict_get dd.typeIs PySem.F.entry_dict_get (PySem.F.args_dict_get_3 _ _ _) (meetsH_dict_get_default (tupleKind (be X.prog X.w)) a b hd r) ⟨tupleKind_room_in1 hu,k,xs,nq I.bw eb,dd,h _ _ (I.tok _) ?_⟩
  rw [l]
  exact (rel.val k).getD rd
end
def PY (td ty tx:TE):TE:=fun σ H Q=>td σ H fun x H1=>∃ a,x=.ref a∧Yu H1 a∧ty σ H1 fun y H2=>tx σ H2 fun z H3=>∃ o,jw H3 a y o∧Q (o.getD z) H3
section
variable {X:Cx} {o e f:Expr} {apos fF:Pos} {td ty tx:TE}
theorem vz (hu:X.A.units+1 < cLine) (ho:PE X o td) (he:PE X e ty) (hf:PE X f tx) (m:M2 X o "get" apos e f fF):PE X (.Call (.Attribute o "get" apos) [e,f] [] fF) (PY td ty tx):=by
 intro pins s σ H Q I h
 refine wpAny_Call_method m.base m.xo m.line PySem.F.plainAttrs_dict PySem.F.slot_dict_get PySem.F.type_dict_get (bu (ho pins s σ H _ I h) fun u s1 ⟨x,H1,I1,rx,a,ex,d,q1⟩=>?_)
 subst ex
 obtain rfl:u=Value.ref a:=rx
 obtain ⟨t1,t2,_⟩:=PV I1 d
 refine ⟨t1,t2,?_⟩
 rw [m.trees]
 refine Calls.callWith_builtin rfl (Calls.evalArgs_plain (Calls.spliced_cons (bu (he pins s1 σ H1 _ I1 q1) fun iv s2 ⟨y,H2,I2,ry,q2⟩ =>
  Calls.spliced_cons (bu (hf pins s2 σ H2 _ I2 q2) fun fv s3 ⟨z,H3,I3,rz,ov,g,q3⟩=>Calls.spliced_nil ?_))))
 exact PX hu I3 g ry rz fun w' s4 I4 rw'=>⟨_,H3,I4,rw',q3⟩
end
section
variable {X:Cx} {pins:List (Addr × Obj)} {σ:St} {H:Hp} {s:Shared} {a:Addr} {aq:List (Key × V)} {A:Around} {E:Value→Shared→Prop}
end
section
variable {X:Cx} {pins:List (Addr × Obj)} {σ:St} {H:Hp} {s:Shared} {a:Addr} {y:V} {u:Value} {A:Around} {E:Value→Shared→Prop}
end
end L2
namespace Att
open PySem PySem.W PySem.Calls PyProof.Rows
section
variable {prog:Program} {w:World} {A:Around} {E:Value→Shared→Prop} {s:Shared} {K:Frag}
end
end Att
namespace L2
open PySem PySem.Spec PyProof.Rows
end L2
namespace L2
open PySem PySem.Spec PyProof.Rows
end L2
namespace L2
open PySem PySem.Spec PyProof.Rows
section
variable {P:Program} {w:World} {K:PySem.W.Frag} {mg:Str→Option Value} {base:Heap}
end
section
variable {X:Cx}
end
section
variable {κ:Type} [DecidableEq κ]
end
end L2
namespace L2
open PySem PySem.Spec PyProof.Rows
section
variable {X:Cx}
end
section
variable {g:TG} {tt:TT} {te:TE} {D:Addr} {σ:St} {H:Hp} {Q:VK}
end
end L2
namespace L2
open PySem PySem.Spec PyProof.Rows
section
variable {X:Cx}
end
section
variable {g:TG} {tt:TT} {te:TE} {D:Addr} {σ:St} {H:Hp} {Q:VK}
end
section
variable {X:Cx} {o e value:Expr} {f:Str} {pos pos':Pos} {ta tv:TE}
theorem ao (K:PySem.W.Frag) (he:PE X e ta) (hb:attributeBase e f X.env (eval e X.env)=eval e X.env) (hK:X.K=K:=by rfl):PE X (.Attribute e f pos) (DA K ta f):=by subst hK;exact Of he hb
theorem cF (K:PySem.W.Frag) (ha:PE X o ta) (hv:PE X value tv) (hs:swapsWith value (some (.Attribute o f pos')) pos.line X.env=pure false) (hK:X.K=K:=by rfl):PS X (.Assign [.Attribute o f pos'] value pos) (Iq K ta tv f):=by subst hK;exact Og ha hv hs
end
end L2
namespace L2
open PySem PySem.Spec PyProof.Rows
section
variable {X:Cx}
end
structure PEx (X:Cx) (e:Expr) (t:TE):Prop where
 out:PE X e t
structure PAx (X:Cx) (es:List Expr) (t:TA):Prop where
 out:PA X es t
section
variable {X:Cx} {te:TE} {t:TA} {es es1:List Expr}
end
end L2
namespace L2
open PySem PySem.Spec PyProof.Rows
section
variable {prog:Program} {w:World} {A:Around} {E:Value→Shared→Prop} {s:Shared}
end
abbrev eA (h:Heap) (l:Addr):Heap:=h.push { cls:=.type "tuple_iterator",data:=.fields #[.ref l,.int 0 0] }
abbrev eB (h:Heap) (l:Addr):Heap:=(eA h l).push { cls:=.type "enumerate",data:=.fields #[.none,.bool false,.ref h.objs.size,rawInt 1,.none,.none] }
section
variable {prog:Program} {w:World} {A:Around} {E:Value→Shared→Prop} {s:Shared}
end
section
variable {X:Cx}
end
section
variable {K:PySem.W.Frag} {g:TG} {σ:St} {H:Hp}
end
section
variable {X:Cx}
inductive Sf (K:PySem.W.Frag) (H:Hp):V→Value→Prop where
 | bN:Sf K H .bN (.type "NoneType")
 | int (i:Int):Sf K H (.int i) (.type "int")
 | bl (b:Bool):Sf K H (.bl b) (.type "bool")
 | tup {a:Addr} {xs:List V}:bz K H a xs→Sf K H (.ref a) (.type "tuple")
 | lst {a:Addr} {xs:List V}:aX K H a xs→Sf K H (.ref a) (.type "list")
def Sg (K:PySem.W.Frag):R2:=fun x y H Q=>∃ a b xs ys,x=.ref a∧y=.ref b∧bz K H a xs∧bz K H b ys ∧
 (∀ (j:Nat) (u v:V),xs[j]?=some u→ys[j]?=some v→xn K H 8 u v)∧Q (.bl (!decide (xs.length=ys.length))) H
theorem Ln (K:PySem.W.Frag) (hu:X.A.units+16 < cLine) (hK:X.K=K:=by rfl):nS X (compareOp .NotEq) (Sg K):=by
 subst hK
 intro pins s σ H x y v u Q I rx ry h
 obtain ⟨a,b,xs,ys,rfl,rfl,ha,hb,he,q⟩:=h
 cases rx
 cases ry
 obtain ⟨ai,r1,p1,_⟩:=I.tuple ha
 obtain ⟨iP,r2,p2,_⟩:=I.tuple hb
 have l1:=r1.length
 have l2:=r2.length
 refine PySem.EqBoolInt.of_rcne (SeqAt.RcNeAt.tuples (e:=fun _=>true) (show s.heap.IsTuple a ai.toArray from p1) (show s.heap.IsTuple b iP.toArray from p2) (by omega) fun j h1 h2=>?_) ?_
 ·obtain ⟨x,hx,rx⟩:=iQ r1 j h1
  obtain ⟨y,hy,ry⟩:=iQ r2 j h2
  exact FY I (he j x y hx hy) (A:=X.A.in1) (by show X.A.units+1+8 < cLine;omega) rx ry
 ·rw [all_true,Bool.true_and]
  have e:(ai.toArray.size == iP.toArray.size)=decide (xs.length=ys.length):=by rw [l1,l2,List.size_toArray,List.size_toArray,Bool.eq_iff_iff];simp
  rw [e]
  exact ⟨.bl _,H,I,rfl,q⟩
end
end L2
namespace L2
open PySem PySem.Spec PyProof.Rows
def ent:Option Int→V
 | none=>.bN
 | some n=>.int n
theorem Ba (e:Option Int):ni (ent e)=true:=by cases e <;> rfl
theorem Lo (x y:Option Int):GX (ent x) (ent y)=decide (x=y):=by
 cases x <;> cases y
 ·rfl
 ·rfl
 ·rfl
 ·rename_i a b
  show (a == b)=_
  by_cases h:a=b <;> simp [h]
theorem JW:∀ (x y:List (Option Int)),((List.range (min x.length y.length)).all (fun j=>decide ((x[j]?).getD none=(y[j]?).getD none)) && (x.length == y.length))=decide (x=y)
 | x,y=>by
  by_cases h:x=y
  ·subst h;simp
  ·rw [decide_eq_false h]
   by_cases hl:x.length=y.length
   ·rw [Bool.and_eq_false_iff]
    left
    rw [List.all_eq_false]
    apply Classical.byContradiction
    intro hn
    apply h
    apply List.ext_getElem?
    intro j
    by_cases hj:j < x.length
    ·have K3:j < y.length:=by omega
     have:=Classical.byContradiction fun hz=>hn ⟨j,List.mem_range.mpr (by omega),hz⟩
     have e:=of_decide_eq_true this
     simp only [List.getElem?_eq_getElem hj,List.getElem?_eq_getElem K3,Option.getD_some] at e ⊢
     rw [e]
    ·rw [List.getElem?_eq_none (by omega),List.getElem?_eq_none (by omega)]
   ·simp [hl]
section
variable {X:Cx} {pins:List (Addr × Obj)} {σ:St} {H:Hp} {s:Shared}
end
section
variable {X:Cx}
end
end L2
namespace L2
open PySem PySem.Spec PyProof.Rows
structure Std where
 ah:Int
 rs:Int
 se:List (Option Int)
 to:List (Option Int)
deriving DecidableEq
structure il (K:PySem.W.Frag) (H:Hp) (a:Addr) (s:Std):Prop where
 ex:∃ b c,bz K H a [.int s.ah,.int s.rs,.ref b,.ref c]∧bz K H b (s.se.map ent)∧bz K H c (s.to.map ent)
theorem il.same {K:PySem.W.Frag} {H H':Hp} {a:Addr} {s:Std} (h:il K H a s) (e:aI H H'):il K H' a s:=by
 obtain ⟨b,c,h1,h2,h3⟩:=h.ex
 exact ⟨b,c,e.tup h1,e.tup h2,e.tup h3⟩
def gQ (h:Heap) (x:List (Option Int)) (a:Addr):Prop:=∃ ai:List Value,au (x.map ent) ai∧h.IsTuple a ai.toArray
def iR (h:Heap) (s:Std) (a:Addr):Prop:=∃ (b c:Addr) (t t':Tok),h.IsTuple a #[.int s.ah t,.int s.rs t',.ref b,.ref c]∧gQ h s.se b∧gQ h s.to c
def rk:Int:=0xFCA86420
def vS:Option Int→Int
 | some k=>hashInt k
 | none=>rk
def mE (x:List (Option Int)):Int:=reduceHash (Builtin.Tuple.tupleHashOf (x.map vS))
def z9 (s:Std):Int:=reduceHash (Builtin.Tuple.tupleHashOf [hashInt s.ah,hashInt s.rs,mE s.se,mE s.to])
theorem Ff {h:Heap} {a:Addr} {x y:Array Value} (hx:h.IsTuple a x) (hy:h.IsTuple a y):x=y:=by
 obtain ⟨o,ho,_,n,hd⟩:=hx
 obtain ⟨o',Az,_,n',A0⟩:=hy
 rw [ho] at Az
 obtain rfl:=Option.some.inj Az
 rw [hd] at A0
 injection A0 with h1 _
theorem Bb:∀ {x y:List (Option Int)} {vs:List Value},au (x.map ent) vs→au (y.map ent) vs→x=y
 | [],[],_,_,_=>rfl
 | [],_ :: _,_,.nil,h=>by cases h
 | _ :: _,[],_,h,.nil=>by cases h
 | a :: x,b :: y,_,.cons r t,.cons r' t'=>by
  rw [Bb t t']
  congr 1
  cases a with
  | none =>
   cases b with
   | none=>rfl
   | some j=>cases (show _=Value.none from r);obtain ⟨_,e⟩:=(show ∃ t,Value.none=Value.int j t from r');cases e
  | some i =>
   obtain ⟨u,rfl⟩:=(show ∃ t,_=Value.int i t from r)
   cases b with
   | none=>have e:=(show Value.int i u=Value.none from r');cases e
   | some j=>obtain ⟨_,e⟩:=(show ∃ t,Value.int i u=Value.int j t from r');cases e;rfl
theorem gQ.inj {h:Heap} {a:Addr} {x y:List (Option Int)} (hx:gQ h x a) (hy:gQ h y a):x=y:=by
 obtain ⟨ai,r,ht⟩:=hx
 obtain ⟨its',r',ht'⟩:=hy
 have e:=Ff ht ht'
 have e':ai=its':=by simpa using congrArg Array.toList e
 subst e'
 exact Bb r r'
theorem iR.inj {h:Heap} {a:Addr} {x y:Std} (hx:iR h x a) (hy:iR h y a):x=y:=by
 obtain ⟨b,c,t,t',ht,h1,h2⟩:=hx
 obtain ⟨b',c',u,u',hu,k1,k2⟩:=hy
 have e:=congrArg Array.toList (Ff ht hu)
 simp only [List.cons.injEq,and_true,Value.int.injEq,Value.ref.injEq] at e
 obtain ⟨⟨e1,_⟩,⟨e2,_⟩,rfl,rfl⟩:=e
 have e3:=h1.inj k1
 have e4:=h2.inj k2
 cases x;cases y
 simp only at e1 e2 e3 e4
 rw [e1,e2,e3,e4]
theorem v8 {h h':Heap} {a d:Addr} {x:Array Value} {o:Obj} {es ep} (hx:h.IsTuple a x) (ho:h.get? d=some o) (hd:o.data=.dict es ep) (hs:Heap.SameBut d h h'):h'.IsTuple a x:=by
 obtain ⟨o',Az,hc,n,A0⟩:=hx
 have K4:a≠d:=by
  rintro rfl
  rw [ho] at Az
  obtain rfl:=Option.some.inj Az
  rw [hd] at A0
  exact nomatch A0
 exact ⟨o',(hs.2 a K4).trans Az,hc,n,A0⟩
section
variable {prog:Program} {w:World} {A:Around} {E:Value→Shared→Prop} {s:Shared}
theorem Bc {Q:Int→Shared→Prop} (h:Q rk { s with toks:=s.toks+1 }):wpAny (model prog w) A (pyHash .none) Q E s:=by
 have hT:=typeIs_none s
 unfold pyHash
 unfold pyHashByItsType
 have hv:[Value.none].any Value.onHeap=false:=rfl
 refine wpAny_bind ?_
 rw [cRoomFor,if_neg (by rw [hv];exact Bool.false_ne_true)];refine wpAny_pure ?_
 refine wpAny_bind (wpAny_specialOf hT F.slot_NoneType_hash.lookup ?_)
 refine (show wpAny _ _ (if (some (Value.builtin "NoneType.__hash__") == some Value.none)=true then _ else _) Q E s from ?_)
 rw [if_neg (by rw [beq_builtin_none];exact Bool.false_ne_true)]
 refine wpAny_bind (wpAny_specialOf hT F.slot_NoneType_hash.lookup ?_)
 refine (show wpAny _ _ (callSpecialIfBoundUnlessNone? Value.none "__hash__" _ >>= _) Q E s from ?_)
 refine wpAny_bind (wpAny_callSpecialIfBoundUnlessNone?_slot hT F.slot_NoneType_hash (wpAny_call_entry F.slot_NoneType_hash hT F.entry_NoneType_hash ?_ (F.args_NoneType_hash_1 _)))
 refine (show wpAny _ _ (do ret (← mkInt 0xFCA86420)) _ _ s from wpAny_ret_mkInt ?_)
 exact wpAny_pure h
theorem rm {a:Addr} {all:List (Value × Int × Nat)} {Q:Int→Shared→Prop} (hu:A.units < cLine) (ht:s.heap.IsTuple a (all.map (·.1)).toArray)
  (hi:∀ x ∈ all,∀ (tk:Nat) (Q:Int→Shared→Prop),Q x.2.1 { s with toks:=tk+x.2.2 }→wpAny (model prog w) A.in1 (pyHash x.1) Q E { s with toks:=tk })
  (h:Q (reduceHash (Builtin.Tuple.tupleHashOf (all.map (·.2.1)))) { s with toks:=s.toks+((all.map (·.2.2)).sum+1) }):wpAny (model prog w) A (pyHash (.ref a)) Q E s:=by
 have hT:s.TypeIs (.ref a) "tuple":=let ⟨o,ho,hc,_⟩:=ht;⟨o,ho,hc⟩
 obtain ⟨o,ho,_,n,hd⟩:=ht
 unfold pyHash
 unfold pyHashByItsType
 refine wpAny_bind (wpAny_cRoomFor_or (.inr hu) ?_)
 refine wpAny_bind (wpAny_specialOf hT F.slot_tuple_hash.lookup ?_)
 refine (show wpAny _ _ (if (some (Value.builtin "tuple.__hash__") == some Value.none)=true then _ else _) Q E s from ?_)
 rw [if_neg (by rw [beq_builtin_none];exact Bool.false_ne_true)]
 refine wpAny_bind (wpAny_specialOf hT F.slot_tuple_hash.lookup ?_)
 refine (show wpAny _ _ (callSpecialIfBoundUnlessNone? (.ref a) "__hash__" _ >>= _) Q E s from ?_)
 refine wpAny_bind (wpAny_callSpecialIfBoundUnlessNone?_slot hT F.slot_tuple_hash (wpAny_call_entry F.slot_tuple_hash hT F.entry_tuple_hash ?_ (F.args_tuple_hash_1 _)))
 refine (show wpAny _ _ (Builtin.Tuple.tupleItemsOf (.ref a) >>= _) _ _ s from wpAny_bind (wpAny_tupleItemsOf ho hd (wpAny_bind ?_)))
 rw [← Array.forIn_toList]
 refine wpAny_forIn_list _
  (fun rest (b:Array Int) s'=>∃ done left,all=done ++ left∧rest=left.map (·.1)∧b.toList=done.map (·.2.1)∧s'={ s with toks:=s.toks+(done.map (·.2.2)).sum })
  _ ?_ ?_ _ _ ⟨[],all,rfl,by simp,rfl,rfl⟩
 ·rintro x rest b s' ⟨done,left,rfl,hl,hb,rfl⟩
  match left,hl with
  | y :: Nv,hl =>
   rw [List.map_cons] at hl
   obtain ⟨rfl,rfl⟩:=List.cons.inj hl
   refine wpAny_bind (hi y (by simp) _ _ ?_)
   first
    | exact wpAny_pure ⟨done ++ [y],Nv,by simp,rfl,by simp [hb],by simp [Nat.add_assoc]⟩
    | exact wpAny_bind (wpAny_pure (wpAny_pure ⟨done ++ [y],Nv,by simp,rfl,by simp [hb],by simp [Nat.add_assoc]⟩))
 ·rintro b s' ⟨done,left,rfl,hl,hb,rfl⟩
  have:left=[]:=List.map_eq_nil_iff.mp hl.symm
  subst this
  rw [List.append_nil] at h
  refine (show wpAny _ _ (retInt (Builtin.Tuple.tupleHashOf b.toList)) _ _ _ from ?_)
  rw [hb]
  refine wpAny_ret_mkInt ?_
  refine (show wpAny _ _ (if (decide (-(2:Int) ^ 63≤Builtin.Tuple.tupleHashOf (done.map (·.2.1))) && decide (Builtin.Tuple.tupleHashOf (done.map (·.2.1)) < 2 ^ 63))=true then _ else _) Q E _ from ?_)
  unfold reduceHash at h
  by_cases hr:(decide (-(2:Int) ^ 63≤Builtin.Tuple.tupleHashOf (done.map (·.2.1))) && decide (Builtin.Tuple.tupleHashOf (done.map (·.2.1)) < 2 ^ 63))=true
  ·rw [if_pos hr]
   rw [if_pos hr] at h
   exact wpAny_pure (by simpa [Nat.add_assoc] using h)
  ·rw [if_neg hr]
   rw [if_neg hr] at h
   exact wpAny_bind (wpAny_rule (wpAny_pure (by simpa [Nat.add_assoc] using h)))
theorem v9 {x:List (Option Int)} {a:Addr} {Q:Int→Shared→Prop} (hu:A.units < cLine) (hx:gQ s.heap x a) (h:Q (mE x) { s with toks:=s.toks+(x.length+1) }):wpAny (model prog w) A (pyHash (.ref a)) Q E s:=by
 obtain ⟨ai,r,ht⟩:=hx
 have hl:=r.length
 rw [List.length_map] at hl
 have sums:∀ {x:List (Option Int)} {ai:List Value},au (x.map ent) ai→∃ all:List (Value × Int × Nat),all.map (·.1)=ai∧all.map (·.2.1)=x.map vS∧(all.map (·.2.2)).sum=x.length∧∀ y ∈ all,y.2.2=1∧((y.1=.none∧y.2.1=rk)∨∃ i t,y.1=.int i t∧y.2.1=hashInt i):=by
  intro x
  induction x with
  | nil=>intro ai r;cases r;exact ⟨[],rfl,rfl,rfl,fun y hy=>by cases hy⟩
  | cons e x ih =>
   intro ai r
   cases r with
   | cons r t =>
    obtain ⟨all,a1,a2,a3,a4⟩:=ih t
    cases e with
    | none =>
     cases (show _=Value.none from r)
     refine ⟨(.none,rk,1) :: all,by simp [a1],by simp [a2,vS],by simp [a3];omega,fun y hy=>?_⟩
     rcases List.mem_cons.mp hy with rfl | hy
     ·exact ⟨rfl,.inl ⟨rfl,rfl⟩⟩
     ·exact a4 y hy
    | some i =>
     obtain ⟨u,rfl⟩:=(show ∃ t,_=Value.int i t from r)
     refine ⟨(.int i u,hashInt i,1) :: all,by simp [a1],by simp [a2,vS],by simp [a3];omega,fun y hy=>?_⟩
     rcases List.mem_cons.mp hy with rfl | hy
     ·exact ⟨rfl,.inr ⟨i,u,rfl,rfl⟩⟩
     ·exact a4 y hy
 obtain ⟨all,a1,a2,a3,a4⟩:=sums r
 refine rm (all:=all) hu (by rw [a1];exact ht) (fun y hy tk Q' hq=>?_) (by rw [a2,a3];exact h)
 obtain ⟨e1,e2⟩:=a4 y hy
 rw [e1] at hq
 rcases e2 with ⟨e3,e4⟩ | ⟨i,t,e3,e4⟩
 ·rw [e3];rw [e4] at hq;exact Bc hq
 ·rw [e3];rw [e4] at hq;exact wpAny_pyHash_int hq
theorem DN {x:Std} {a:Addr} {Q:Int→Shared→Prop} (hu:A.units+1 < cLine) (hx:iR s.heap x a) (h:Q (z9 x) { s with toks:=s.toks+(x.se.length+x.to.length+5) }):wpAny (model prog w) A (pyHash (.ref a)) Q E s:=by
 obtain ⟨b,c,t,t',ht,h1,h2⟩:=hx
 refine rm (all:=[(.int x.ah t,hashInt x.ah,1),(.int x.rs t',hashInt x.rs,1),(.ref b,mE x.se,x.se.length+1),(.ref c,mE x.to,x.to.length+1)]) (by omega) ht (fun y hy tk Q' hq=>?_) ?_
 ·simp only [List.mem_cons,List.not_mem_nil,or_false] at hy
  rcases hy with rfl | rfl | rfl | rfl
  ·exact wpAny_pyHash_int hq
  ·exact wpAny_pyHash_int hq
  ·exact v9 (by show A.units+1 < cLine;exact hu) h1 hq
  ·exact v9 (by show A.units+1 < cLine;exact hu) h2 hq
 ·have e:(([(.int x.ah t,hashInt x.ah,1),(.int x.rs t',hashInt x.rs,1),(.ref b,mE x.se,x.se.length+1),(.ref c,mE x.to,x.to.length+1)]:List (Value × Int × Nat)).map (·.2.2)).sum+1=x.se.length+x.to.length+5:=by simp;omega
  rw [e]
  exact h
theorem rowAt {x y:List (Option Int)} {a b:Addr} (hu:A.units < cLine) (hx:gQ s.heap x a) (hy:gQ s.heap y b):SeqAt.EqAt A s (.ref a) (.ref b) (decide (x=y)):=by
 by_cases Gp:a=b
 ·subst Gp
  rw [decide_eq_true (hx.inj hy)]
  exact SeqAt.EqAt.same _
 ·obtain ⟨ai,r1,p1⟩:=hx
  obtain ⟨iP,r2,p2⟩:=hy
  have l1:=r1.length
  have l2:=r2.length
  rw [List.length_map] at l1 l2
  refine SeqAt.EqAt.of_refs Gp ?_
  have q:=SeqAt.RcAt.tuples (A:=A) (s:=s) (e:=fun j=>decide ((x[j]?).getD none=(y[j]?).getD none)) p1 p2 hu fun j h1 h2=>?_
  ·rw [List.size_toArray,List.size_toArray,← l1,← l2,JW] at q
   exact q
  ·obtain ⟨u,hx,rx⟩:=iQ r1 j h1
   obtain ⟨v,hy,ry⟩:=iQ r2 j h2
   rw [List.getElem?_map] at hx hy
   cases ex:x[j]? with
   | none=>rw [ex] at hx;cases hx
   | some eu =>
    cases ey:y[j]? with
    | none=>rw [ey] at hy;cases hy
    | some ev =>
     rw [ex] at hx
     rw [ey] at hy
     obtain rfl:ent eu=u:=Option.some.inj hx
     obtain rfl:ent ev=v:=Option.some.inj hy
     have:=zm (A:=A.in1) (s:=s) rx ry (Ba eu) (Ba ev)
     rw [Lo] at this
     exact this
theorem Sh {x y:Std} {a b:Addr} (hu:A.units+1 < cLine) (hx:iR s.heap x a) (hy:iR s.heap y b):SeqAt.EqAt A s (.ref a) (.ref b) (decide (x=y)):=by
 by_cases Gp:a=b
 ·subst Gp
  rw [decide_eq_true (hx.inj hy)]
  exact SeqAt.EqAt.same _
 ·obtain ⟨b1,c1,t1,u1,p1,g1,g2⟩:=hx
  obtain ⟨b2,c2,t2,u2,p2,k1,k2⟩:=hy
  refine SeqAt.EqAt.of_refs Gp ?_
  have q:=SeqAt.RcAt.tuples (A:=A) (s:=s) (e:=fun j=>if j=0 then (x.ah == y.ah) else if j=1 then (x.rs == y.rs) else if j=2 then decide (x.se=y.se) else decide (x.to=y.to)) p1 p2 (by omega) fun j h1 h2=>?_
  ·have e:((List.range (min 4 4)).all (fun j=>if j=0 then (x.ah == y.ah) else if j=1 then (x.rs == y.rs) else if j=2 then decide (x.se=y.se) else decide (x.to=y.to)) && ((4:Nat) == 4))=decide (x=y):=by
    have e4:List.range (min 4 4)=[0,1,2,3]:=rfl
    rw [e4]
    cases x;cases y
    rw [Bool.eq_iff_iff]
    simp
   exact e ▸ q
  ·match j,h1,h2 with
   | 0,_,_=>exact SeqAt.EqAt.int_int _ _ _ _
   | 1,_,_=>exact SeqAt.EqAt.int_int _ _ _ _
   | 2,_,_=>exact rowAt (by show A.units+1 < cLine;exact hu) g1 k1
   | 3,_,_=>exact rowAt (by show A.units+1 < cLine;exact hu) g2 k2
   | j+4,h1,_=>exact absurd h1 (by show ¬ (j+4 < 4);omega)
theorem ue (n:Nat) {a:Addr} {items:Array Value} {Q:Bool→Shared→Prop} (ht:s.heap.IsTuple a items) (hi:∀ v ∈ items.toList,∀ Q:Bool→Shared→Prop,Q true s→wpAny (model prog w) A (eqIsQuiet n v) Q E s) (h:Q true s):wpAny (model prog w) A (eqIsQuiet (n+1) (.ref a)) Q E s:=by
 have hT:s.TypeIs (.ref a) "tuple":=let ⟨o,ho,hc,_⟩:=ht;⟨o,ho,hc⟩
 obtain ⟨o,ho,_,m,hd⟩:=ht
 unfold eqIsQuiet
 refine wpAny_bind (wpAny_specialOf hT F.slot_tuple_eq.lookup ?_)
 refine (show wpAny _ _ (isInstance (.ref a) (.type "tuple") >>= _) _ _ s from wpAny_bind (wpAny_isInstance hT isSubtype_tuple_tuple ?_))
 simp only [Bool.not_true,Bool.false_eq_true,if_false]
 refine wpAny_bind (wpAny_seqItems ho hd (wpAny_bind ?_))
 refine (show wpAny _ _ (forIn items _ _) _ _ s from ?_)
 rw [← Array.forIn_toList]
 refine wpAny_forIn_list _ (fun rest r s'=>r.1=none∧s'=s∧∀ v ∈ rest,v ∈ items.toList) _ ?_ ?_ _ _ ⟨rfl,rfl,fun v hv=>hv⟩
 ·rintro v rest r s' ⟨hr,rfl,DH⟩
  refine wpAny_bind (hi v (DH v List.mem_cons_self) _ ?_)
  simp only [Bool.not_true,Bool.false_eq_true,if_false]
  exact wpAny_pure ⟨rfl,rfl,fun u WS=>DH u (List.mem_cons_of_mem _ WS)⟩
 ·rintro ⟨r1,r2⟩ s' ⟨hr,rfl,_⟩
  simp only at hr
  subst hr
  exact wpAny_pure h
theorem zG (n:Nat) {x:List (Option Int)} {a:Addr} {Q:Bool→Shared→Prop} (hx:gQ s.heap x a) (h:Q true s):wpAny (model prog w) A (eqIsQuiet (n+1) (.ref a)) Q E s:=by
 obtain ⟨ai,r,ht⟩:=hx
 refine ue n ht (fun v hv Q' hq=>?_) h
 have hb:carriedByValue v=true:=by
  have Rk:v ∈ ai:=by simpa using hv
  clear hv
  have all:∀ {x:List (Option Int)} {ai:List Value},au (x.map ent) ai→∀ v ∈ ai,carriedByValue v=true:=by
   intro x
   induction x with
   | nil=>intro ai r v hv;cases r;cases hv
   | cons e x ih =>
    intro ai r v hv
    cases r with
    | cons r t =>
     rcases List.mem_cons.mp hv with rfl | hv
     ·cases e with
      | none=>cases (show v=Value.none from r);rfl
      | some i=>obtain ⟨u,rfl⟩:=(show ∃ t,v=Value.int i t from r);rfl
     ·exact ih t v hv
  exact all r v Rk
 rw [eqIsQuiet_byValue _ hb]
 exact wpAny_pure hq
theorem Gw {x:Std} {a:Addr} {Q:Bool→Shared→Prop} (hx:iR s.heap x a) (h:Q true s):wpAny (model prog w) A (eqIsQuiet 8 (.ref a)) Q E s:=by
 obtain ⟨b,c,t,t',ht,h1,h2⟩:=hx
 refine ue 7 ht (fun v hv Q' hq=>?_) h
 simp only [List.mem_cons,List.not_mem_nil,or_false] at hv
 rcases hv with rfl | rfl | rfl | rfl
 ·rw [eqIsQuiet_byValue _ rfl];exact wpAny_pure hq
 ·rw [eqIsQuiet_byValue _ rfl];exact wpAny_pure hq
 ·exact zG 6 h1 hq
 ·exact zG 6 h2 hq
end
def Fg (prog:Program) (w:World):HeapKind prog w Std where
 is:=iR
 hash:=z9
 draws:=fun x=>x.se.length+x.to.length+5
 room:=fun A=>A.units+1 < cLine
 inj:=fun hx hy=>hx.inj hy
 keeps:=fun {h h' k a d o es ep} hx ho hd hs=>by
  obtain ⟨b,c,t,t',ht,⟨i1,r1,p1⟩,⟨i2,r2,p2⟩⟩:=hx
  exact ⟨b,c,t,t',v8 ht ho hd hs,⟨i1,r1,v8 p1 ho hd hs⟩,⟨i2,r2,v8 p2 ho hd hs⟩⟩
 pyHash:=fun hu hk h=>DN hu hk h
 eqBool:=fun hu hx hy h=>Sh hu hx hy _ _ _ _ h
 quiet:=fun hk h=>Gw hk h
end L2
namespace L2
open PySem PySem.Spec PyProof.Rows
abbrev SX:=List (Std × Addr × V)
def JX (q:Std × Addr × Value):DictEntry:=⟨z9 q.1,.ref q.2.1,q.2.2⟩
abbrev P3:SX→List (Std × Addr × Value)→Prop:=Paired fun p q=>p.1=q.1∧p.2.1=q.2.1∧RelV p.2.2 q.2.2
def DSφ (a:Addr) (xs:SX) (h:Heap):Prop:=xs.length≤sizeLine∧(a == sysModules)=false∧(xs.map (·.1)).Nodup∧∃ vs:List (Std × Addr × Value),P3 xs vs∧∃ o es ep,h.get? a=some o∧o.ExactDict∧o.data=.dict es ep∧es.toList=vs.map JX
def DS (a:Addr) (xs:SX):HO:=.ext (DSφ a xs)
def Be (xs:SX) (k:Std):Option V:=(xs.find? fun x=>decide (x.1=k)).map (·.2.2)
def Gx (xs:SX) (k:Std) (b:Addr) (v:V):SX:=if (Be xs k).isSome then xs.map (fun x=>if x.1=k then (x.1,x.2.1,v) else x) else xs ++ [(k,b,v)]
theorem P3.val {xs:SX} {vs:List (Std × Addr × Value)} (r:P3 xs vs) (k:Std):lB (Be xs k) ((atKey vs k).map (·.2)):=by
 induction r with
 | nil=>exact True.intro
 | @cons p q ps qs h t ih =>
  obtain ⟨h1,_,h2⟩:=h
  by_cases e:p.1=k
  ·have e':q.1=k:=h1.symm.trans e
   have b:atKey (q :: qs) k=some q.2:=by simp [atKey,List.find?_cons,e']
   have b':Be (p :: ps) k=some p.2.2:=by simp [Be,List.find?_cons,e]
   rw [b',b];exact h2
  ·have e':¬ q.1=k:=fun z=>e (h1.trans z)
   have b:atKey (q :: qs) k=atKey qs k:=by simp [atKey,List.find?_cons,e']
   have b':Be (p :: ps) k=Be ps k:=by simp [Be,List.find?_cons,e]
   rw [b',b];exact ih
theorem P3.JU {xs:SX} {vs:List (Std × Addr × Value)} (r:P3 xs vs) (k:Std) {y:V} {u:Value} (ry:RelV y u) :
  P3 (xs.map fun x=>if x.1=k then (x.1,x.2.1,y) else x) (vs.map (putAt k u)):=by
 induction r with
 | nil=>exact .nil
 | @cons p q ps qs h t ih =>
  rw [List.map_cons,List.map_cons]
  refine .cons ?_ ih
  obtain ⟨h1,h2,h3⟩:=h
  unfold putAt
  by_cases e:p.1=k
  ·rw [if_pos e,if_pos (h1.symm.trans e)];exact ⟨h1,h2,ry⟩
  ·rw [if_neg e,if_neg (fun z=>e (h1.trans z))];exact ⟨h1,h2,h3⟩
theorem P3.put {xs:SX} {vs:List (Std × Addr × Value)} (r:P3 xs vs) (k:Std) (b:Addr) {y:V} {u:Value} (ry:RelV y u):P3 (Gx xs k b y) (storedH vs k b u):=by
 have e:(Be xs k).isSome=(atKey vs k).isSome:=by rw [(r.val k).jA,Option.isSome_map]
 unfold Gx storedH
 rw [e]
 by_cases q:(atKey vs k).isSome=true
 ·rw [if_pos q,if_pos q];exact r.JU k ry
 ·rw [if_neg q,if_neg q];exact Paired.snoc r ⟨rfl,rfl,ry⟩
theorem P3.keys {xs:SX} {vs:List (Std × Addr × Value)} (r:P3 xs vs):xs.map (·.1)=vs.map (·.1):=by
 induction r with
 | nil=>rfl
 | cons h t ih=>rw [List.map_cons,List.map_cons,ih,h.1]
structure SD (K:PySem.W.Frag) (H:Hp) (a:Addr) (xs:SX):Prop where
 at_:H a=some (DS a xs)
 keys:∀ p ∈ xs,il K H p.2.1 p.1
section
variable {X:Cx} {pins:List (Addr × Obj)} {σ:St} {H:Hp} {s:Shared} {a:Addr} {xs:SX} {A:Around} {E:Value→Shared→Prop}
theorem Nw (I:Inv X pins σ H s) {b:Addr} {x:List (Option Int)} (h:bz X.K H b (x.map ent)):gQ s.heap x b:=by
 obtain ⟨ai,r,ht,_⟩:=I.tuple h
 exact ⟨ai,r,ht⟩
theorem JY (I:Inv X pins σ H s) {b:Addr} {k:Std} (h:il X.K H b k):iR s.heap k b:=by
 obtain ⟨p,q,h1,h2,h3⟩:=h.ex
 obtain ⟨ai,r,ht,_⟩:=I.tuple h1
 cases r with
 | cons r1 r =>
  cases r with
  | cons r2 r =>
   cases r with
   | cons r3 r =>
    cases r with
    | cons r4 r =>
     cases r
     obtain ⟨t,rfl⟩:=r1
     obtain ⟨t',rfl⟩:=r2
     cases r3
     cases r4
     exact ⟨p,q,t,t',ht,Nw I h2,Nw I h3⟩
theorem il.inj (I:Inv X pins σ H s) {b:Addr} {k k':Std} (h:il X.K H b k) (h':il X.K H b k'):k=k':=(JY I h).inj (JY I h')
theorem SD.raw (I:Inv X pins σ H s) (d:H a=some (DS a xs)):DSφ a xs s.heap:=(I.bw a _ d).1
theorem SD.dict (I:Inv X pins σ H s) (d:SD X.K H a xs):xs.length≤sizeLine∧(a == sysModules)=false∧(xs.map (·.1)).Nodup∧∃ vs,P3 xs vs∧s.heap.DictOfH (Fg X.prog X.w) a vs:=by
 obtain ⟨z,hd,hn,vs,r,o,es,ep,h1,h2,h3,h4⟩:=SD.raw I d.at_
 refine ⟨z,hd,hn,vs,r,o,es,ep,h1,h2,h3,h4,?_,by rw [← r.keys];exact hn⟩
 have all:∀ {l:SX} {m:List (Std × Addr × Value)},P3 l m→(∀ p ∈ l,il X.K H p.2.1 p.1)→∀ x ∈ m,(Fg X.prog X.w).is s.heap x.1 x.2.1:=by
  intro l m q
  induction q with
  | nil=>intro _ x hx;exact nomatch hx
  | @cons p q ps qs hq t ih =>
   intro hl x hx
   rcases List.mem_cons.mp hx with e | hx
   ·subst e
    rw [← hq.1,← hq.2.1]
    exact JY I (hl p List.mem_cons_self)
   ·exact ih (fun p hp=>hl p (List.mem_cons_of_mem _ hp)) x hx
 exact all r d.keys
end
section
variable {X:Cx}
variable {o i value:Expr} {pos pos':Pos} {td ty tv:TE}
end
end L2
namespace L2
open PySem PySem.Spec PyProof.Rows
def jM (d:Addr) (es:Array DictEntry) (ep:Nat) (h:Heap):Prop:=∃ o,h.get? d=some o∧o.ExactDict∧o.data=.dict es ep
theorem jM.typeIs {s:Shared} {d:Addr} {es:Array DictEntry} {ep:Nat} (x:jM d es ep s.heap):s.TypeIs (.ref d) "dict":=let ⟨o,ho,hc,_⟩:=x;⟨o,ho,hc.1⟩
theorem jM.lt {h:Heap} {d:Addr} {es:Array DictEntry} {ep:Nat} (x:jM d es ep h):d < h.objs.size:=let ⟨_,ho,_⟩:=x;Heap.lt_size ho
theorem jM.at_ {h h':Heap} {d:Addr} {es:Array DictEntry} {ep:Nat} (x:jM d es ep h) (e:∀ o,h.get? d=some o→h'.get? d=some o):jM d es ep h':=let ⟨o,ho,r⟩:=x;⟨o,e _ ho,r⟩
section
variable {prog:Program} {w:World} {A:Around} {E:Value→Shared→Prop} {s:Shared} {d:Addr} {es:Array DictEntry} {ep:Nat}
theorem JZ {Q:Value→Shared→Prop} (hd:(d == sysModules)=false) (x:jM d es ep s.heap)
  (hQ:Q (.ref s.heap.objs.size) { s with heap:=s.heap.push { cls:=.type "dict_keyiterator",data:=.fields #[.ref d,.int 0 0,.int es.size 0,.int ep 0] } }) :
  wpAny (model prog w) A (pyIter (.ref d)) Q E s:=by
 have hT:=x.typeIs
 obtain ⟨o,ho,hc,Gy⟩:=x
 refine wpAny_pyIter_slot hT F.slot_dict_iter (wpAny_call_entry F.slot_dict_iter hT F.entry_dict_iter ?_ (F.args_dict_iter_1 _))
 unfold Builtin.«dict.__iter__»
 refine wpAny_bind ?_
 unfold Builtin.Dict.dictSlotNone
 refine wpAny_bind (wpAny_notOrdered_dict hT ?_)
 refine (show wpAny _ _ (pure (Value.ref d)) _ _ s from wpAny_pure ?_)
 refine (show wpAny _ _ (Builtin.Dict.showsAll d >>= _) _ _ s from ?_)
 unfold Builtin.Dict.showsAll
 rw [if_neg (by rw [hd];exact Bool.false_ne_true)]
 refine wpAny_bind (wpAny_pure (wpAny_bind (wpAny_dictEntries ho Gy (wpAny_bind (wpAny_dictEpoch ho Gy ?_)))))
 refine wpAny_bind (wpAny_newObj_type (wpAny_pure ⟨_,rfl,"dict_keyiterator",_,⟨_,Heap.get?_push_size _ rfl,rfl⟩,F.slot_dict_keyiterator_next.lookup,?_⟩))
 simpa [rawInt] using hQ
theorem Ja {it:Addr} {i:Nat} {Q:Option Value→Shared→Prop} (hit:s.heap.IsKeyIter it d i es.size ep) (x:jM d es ep s.heap) (fE:i < es.size)
  (hQ:∀ h',h'.IsKeyIter it d (i+1) es.size ep→Heap.SameBut it s.heap h'→Q (some es[i].key) { s with heap:=h' }):wpAny (model prog w) A (pyNext (.ref it)) Q E s:=by
 obtain ⟨o,ho,hc,hd⟩:=id hit
 obtain ⟨od,PZ,yn,Si⟩:=x
 unfold pyNext
 refine wpAny_bind (wpAny_attempt (wpAny_callSpecial?_slot (name:=Str.ofString "__next__") hit.typeIs F.slot_dict_keyiterator_next
  (wpAny_call_entry F.slot_dict_keyiterator_next hit.typeIs F.entry_dict_keyiterator_next ?_ (F.args_dict_keyiterator_next_1 _))))
 refine wpAny_bind (wpAny_pure ?_)
 refine wpAny_bind ?_
 refine wpAny_bind ?_
 first | refine wpAny_bind (wpAny_typeNameOfWhole_keyiter hit.typeIs (wpAny_pure ?_)) | refine wpAny_bind (wpAny_typeNameOf_keyiter hit.typeIs (wpAny_pure ?_))
 refine wpAny_bind (wpAny_fieldsOf ho hd ?_)
 have Pa:Builtin.Dict_items.ownsTuple "dict_keyiterator"=false:=by decide
 simp only [Pa,Bool.false_eq_true,if_false]
 refine (show wpAny _ _ (if (Value.ref d == Value.none)=true then _ else _) _ _ s from ?_)
 rw [if_neg (show ¬ ((Value.ref d == Value.none)=true) from Bool.false_ne_true)]
 refine wpAny_bind (wpAny_pure (wpAny_bind (wpAny_dictEntries PZ Si ?_)))
 rw [if_neg (by simp)]
 refine wpAny_bind (wpAny_pure (wpAny_bind (wpAny_dictEpoch PZ Si ?_)))
 rw [if_neg (by simp)]
 refine wpAny_pure ?_
 simp only [show ¬ ((i:Int) < 0) from by omega,if_false,Int.toNat_natCast,Array.getElem?_eq_getElem fE]
 refine wpAny_bind ?_
 first | refine wpAny_bind (wpAny_typeNameOfWhole_keyiter hit.typeIs (wpAny_pure ?_)) | refine wpAny_bind (wpAny_typeNameOf_keyiter hit.typeIs (wpAny_pure ?_))
 refine wpAny_bind (wpAny_isOneOf_keyiter hit.typeIs ?_)
 refine (show wpAny _ _ (setField (.ref it) 1 (rawInt ((i:Int)+1)) >>= _) _ _ s from ?_)
 refine wpAny_bind (wpAny_setField ho hd (by simp) ?_)
 have Sj:(s.heap.update it (Obj.mapFields (·.setIfInBounds 1 (rawInt ((i:Int)+1))))).IsKeyIter it d (i+1) es.size ep :=
  ⟨_,Heap.get?_update_self _ ho (Obj.isFreed_of_fields (Obj.data_mapFields hd _)),(Obj.cls_mapFields ..).trans hc,by rw [Obj.data_mapFields hd];simp [rawInt]⟩
 refine wpAny_bind (wpAny_holding ?_)
 refine wpAny_bind (wpAny_isOneOf_keyiter (s:={ s with heap:=s.heap.update it (Obj.mapFields (·.setIfInBounds 1 (rawInt ((i:Int)+1)))) }) Sj.typeIs ?_)
 refine (show wpAny _ _ (pure es[i].key) _ _ _ from ?_)
 exact wpAny_pure (wpAny_pure ⟨_,rfl,wpAny_pure (hQ _ Sj (Heap.SameBut.update ..))⟩)
end
section
variable {prog:Program} {w:World} {A:Around} {E:Value→Shared→Prop} {s:Shared} {d:Addr} {es:Array DictEntry} {ep:Nat}
theorem Lp {it:Addr} {i:Nat} {Q:Option Value→Shared→Prop} (hh:A.handled=none) (hit:s.heap.IsKeyIter it d i es.size ep) (x:jM d es ep s.heap) (hge:es.size≤i)
  (hQ:∀ h',Heap.ExtBut it s.heap h'→Q none { s with heap:=h' }):wpAny (model prog w) A (pyNext (.ref it)) Q E s:=by
 obtain ⟨o,ho,hc,hd⟩:=id hit
 obtain ⟨od,PZ,yn,Si⟩:=x
 unfold pyNext
 refine wpAny_bind (wpAny_attempt (wpAny_callSpecial?_slot (name:=Str.ofString "__next__") hit.typeIs F.slot_dict_keyiterator_next
  (wpAny_call_entry F.slot_dict_keyiterator_next hit.typeIs F.entry_dict_keyiterator_next ?_ (F.args_dict_keyiterator_next_1 _))))
 refine wpAny_bind (wpAny_pure ?_)
 refine wpAny_bind ?_
 refine wpAny_bind ?_
 first | refine wpAny_bind (wpAny_typeNameOfWhole_keyiter hit.typeIs (wpAny_pure ?_)) | refine wpAny_bind (wpAny_typeNameOf_keyiter hit.typeIs (wpAny_pure ?_))
 refine wpAny_bind (wpAny_fieldsOf ho hd ?_)
 have Pa:Builtin.Dict_items.ownsTuple "dict_keyiterator"=false:=by decide
 simp only [Pa,Bool.false_eq_true,if_false]
 refine (show wpAny _ _ (if (Value.ref d == Value.none)=true then _ else _) _ _ s from ?_)
 rw [if_neg (show ¬ ((Value.ref d == Value.none)=true) from Bool.false_ne_true)]
 refine wpAny_bind (wpAny_pure (wpAny_bind (wpAny_dictEntries PZ Si ?_)))
 rw [if_neg (by simp)]
 refine wpAny_bind (wpAny_pure (wpAny_bind (wpAny_dictEpoch PZ Si ?_)))
 rw [if_neg (by simp)]
 refine wpAny_pure ?_
 simp only [show ¬ ((i:Int) < 0) from by omega,if_false,Int.toNat_natCast,Array.getElem?_eq_none hge]
 refine wpAny_bind ?_
 first | refine wpAny_bind (wpAny_typeNameOfWhole_keyiter hit.typeIs (wpAny_pure ?_)) | refine wpAny_bind (wpAny_typeNameOf_keyiter hit.typeIs (wpAny_pure ?_))
 refine (show wpAny _ _ (setField (.ref it) 0 .none >>= _) _ _ s from ?_)
 refine wpAny_bind (wpAny_setField ho hd (by simp) ?_)
 refine (show wpAny _ _ (newExc (.type "StopIteration") [] >>= _) _ _ _ from ?_)
 refine wpAny_bind ?_
 simp only [newExc,newTuple]
 refine wpAny_bind (wpAny_newObj_type ?_ (by size_fits))
 refine wpAny_bind (m:=firstArgMember _ _) (wpAny_of_eq (a:=Value.none) (by first | rfl | (simp only [firstArgMember];rfl)) ?_)
 refine wpAny_newObj_type ?_ (by size_fits)
 simp only [raiseNew]
 refine wpAny_bind (wpAny_handled ?_)
 rw [show A.in1.handled=none from hh]
 refine wpAny_bind (wpAny_pure (wpAny_throw ?_))
 refine wpAny_bind (wpAny_isInstance (T:="StopIteration") (b:=true) ⟨_,Heap.get?_push_size _ rfl,rfl⟩ isSubtype_stop ?_)
 exact wpAny_pure (hQ _ (((Heap.SameBut.update ..).extBut.push _).push _))
end
section
variable {X:Cx}
end
end L2
namespace L2
open PySem PySem.Spec PyProof.Rows
theorem gQ.at_ {h h':Heap} {x:List (Option Int)} {a:Addr} (r:gQ h x a) (k:∀ b o,h.get? b=some o→h'.get? b=some o):gQ h' x a:=by
 obtain ⟨ai,r,o,ho,z⟩:=r
 exact ⟨ai,r,o,k _ _ ho,z⟩
theorem iR.at_ {h h':Heap} {x:Std} {a:Addr} (r:iR h x a) (k:∀ b o,h.get? b=some o→h'.get? b=some o):iR h' x a:=by
 obtain ⟨b,c,t,t',⟨o,ho,z⟩,h1,h2⟩:=r
 exact ⟨b,c,t,t',⟨o,k _ _ ho,z⟩,h1.at_ k,h2.at_ k⟩
abbrev RQ:=Addr × Std × Addr × Value
section
variable {prog:Program} {w:World} {A:Around} {h0:Heap} {d it l:Addr} {L:List RQ}
end
section
variable {X:Cx} {pins:List (Addr × Obj)} {σ:St} {H:Hp} {s:Shared}
end
end L2
namespace L2
open PySem PySem.Spec PyProof.Rows
theorem SD.same {K:PySem.W.Frag} {H H':Hp} {a:Addr} {xs:SX} (h:SD K H a xs) (e:aI H H'):SD K H' a xs:=⟨e _ _ h.at_,fun p hp=>(h.keys p hp).same e⟩
theorem AA {K:PySem.W.Frag} {H:Hp} {l a:Addr} {o' o:HO} {xs:List V} (hl:H l=some o') (hn:∀ ys,o'≠.tup ys) (hf:∀ u ys,o'≠.Cy u (.tup ys)) (h:bz K H a xs):bz K (upd H l o) a xs:=by
 rcases h with (h | ⟨u,h⟩) | h
 ·exact .inl (.inl (by rw [aE (fun z=>by rw [z,hl] at h;exact hn _ (Option.some.inj h))];exact h))
 ·exact .inl (.inr ⟨u,by rw [aE (fun z=>by rw [z,hl] at h;exact hf _ _ (Option.some.inj h))];exact h⟩)
 ·exact .inr h
theorem il.We {K:PySem.W.Frag} {H:Hp} {l a:Addr} {ys:SX} {o:HO} {s:Std} (h:il K H a s) (hl:H l=some (DS l ys)):il K (upd H l o) a s:=by
 obtain ⟨b,c,h1,h2,h3⟩:=h.ex
 have n1:∀ zs,DS l ys≠.tup zs:=fun _ e=>nomatch e
 have n2:∀ u zs,DS l ys≠.Cy u (.tup zs):=fun _ _ e=>nomatch e
 exact ⟨b,c,AA hl n1 n2 h1,AA hl n1 n2 h2,AA hl n1 n2 h3⟩
theorem xq {K:PySem.W.Frag} {H:Hp} {xs:SX} {k:Std} {b:Addr} {v:V} (h:∀ p ∈ xs,il K H p.2.1 p.1) (hb:il K H b k):∀ p ∈ Gx xs k b v,il K H p.2.1 p.1:=by
 intro p hp
 unfold Gx at hp
 split at hp
 ·rw [List.mem_map] at hp
  obtain ⟨q,hq,rfl⟩:=hp
  split
  ·exact h q hq
  ·exact h q hq
 ·rcases List.mem_append.mp hp with hp | hp
  ·exact h p hp
  ·rw [List.mem_singleton.mp hp];exact hb
theorem SD.put {K:PySem.W.Frag} {H:Hp} {a b:Addr} {xs:SX} {k:Std} {v:V} (h:SD K H a xs) (hb:il K H b k):SD K (upd H a (DS a (Gx xs k b v))) a (Gx xs k b v) :=
 ⟨aB,fun p hp=>(xq h.keys hb p hp).We h.at_⟩
section
variable {X:Cx} {pins:List (Addr × Obj)} {σ:St} {H:Hp} {s:Shared}
end
section
variable {X:Cx}
end
end L2
namespace L2
open PySem PySem.Spec PyProof.Rows
end L2
namespace L2
open PySem PySem.Spec PyProof.Rows
def Sk (K:PySem.W.Frag):R2:=fun x y H Q=>Vt x y H Q∨Sg K x y H Q
theorem DO {X:Cx} (K:PySem.W.Frag) (hu:X.A.units+16 < cLine) (hK:X.K=K:=by rfl):nS X (compareOp .NotEq) (Sk K):=by
 intro pins s σ H x y v u Q I rx ry h
 rcases h with h | h
 ·exact BG pins s σ H x y v u Q I rx ry h
 ·exact Ln K hu hK pins s σ H x y v u Q I rx ry h
end L2
namespace L2
open PySem PySem.Spec PyProof.Rows
abbrev XT:=List (List Key × Addr × Value)
structure Bf (P:Program) (w:World) (H:Hp) (d:Addr) (aq:List (List Key × V)) (u:HO) (bs:Nat→Addr):Prop where
 z:aq.length≤sizeLine
 sm:(d == sysModules)=false
 ks:∀ i k v,aq[i]?=some (k,v)→H (bs i)=some (.tup (k.map kV))
 ex:∃ (xs:XT) (es:Array DictEntry) (ep:Nat),Paired (fun (p:List Key × V) (q:List Key × Addr × Value)=>p.1=q.1∧H q.2.1=some (.tup (p.1.map kV))∧RelV p.2 q.2.2) aq xs ∧
  es.toList=xs.map (entryOfKey (tupleKind (be P w)))∧(xs.map (·.1)).Nodup∧(∀ i x,xs[i]?=some x→bs i=x.2.1)∧u=.ext (jM d es ep)
def Sl (d:Addr) (u:HO) (n:Nat) (bs:Nat→Addr):It where
 go:=fun i H=>H d=some u∧i < n
 Ij:=fun i H x H'=>H'=H∧x=.ref (bs i)
 stop:=fun i H=>H d=some u∧n≤i
theorem DP {P:Program} {w:World} {K:PySem.W.Frag} {tg:Expr} {d it:Addr} {aq:List (List Key × V)} {xs:XT} {es:Array DictEntry} {ep:Nat} {bs:Nat→Addr} (hl:xs.length=aq.length) (he:es.toList=xs.map (entryOfKey (tupleKind (be P w)))) (hb:∀ i x,xs[i]?=some x→bs i=x.2.1) :
  Turn P w K tg (Sl d (.ext (jM d es ep)) aq.length bs) [it] it (fun i h=>h.IsKeyIter it d i es.size ep) where
 mem:=by simp
 obj:=fun i h st b hb=>by
  have e:b=it:=by simpa using hb
  subst e
  obtain ⟨o,e,c,dd⟩:=st
  exact ⟨o,e,fun v z=>by rw [dd] at z;cases z⟩
 keep:=fun i h h' st k=>st.at fun o e=>k it (by simp) o e
 item:=by
  intro X hP hw hK hc i pins s σ H E I hf st hg
  subst hP hw hK
  obtain ⟨hd,hi⟩:=hg
  have hm:jM d es ep s.heap:=(show cI X.prog X.w H s.heap d (.ext (jM d es ep)) from I.bw d _ hd).1
  have hsz:es.size=aq.length:=by
   have:=congrArg List.length he
   simp only [Array.length_toList,List.length_map] at this
   rw [this,hl]
  have fE:i < es.size:=by omega
  have hx:xs[i]?=some xs[i]:=by simp [show i < xs.length by omega]
  have ek:es[i].key=.ref (bs i):=by
   have h1:es.toList[i]?=some es[i]:=by simp [fE]
   rw [he,List.getElem?_map,hx] at h1
   have h1:entryOfKey (tupleKind (be X.prog X.w)) xs[i]=es[i]:=Option.some.inj h1
   rw [← h1,hb i _ hx]
   rfl
  obtain ⟨f0,f1,f2,f3,f4,f5⟩:=hf it (by simp)
  refine Ja st hm fE fun h' xh sb=>?_
  have I1:Inv X pins σ H { s with heap:=h' }:=I.turned (t':=s.toks) (fun b o hb e=>sb.extBut b o hb e) f0 f1 f3 f4 f5
  obtain ⟨o,e,c,dd⟩:=id xh
  exact ⟨_,rfl,BD (s:={ s with heap:=h' }) e c dd (by decide) ⟨.ref (bs i),H,I1,ek.symm ▸ rfl,⟨rfl,rfl⟩,xh,fun b hb=>(hf b hb).1⟩⟩
 done:=by
  intro X hP hw hK hc i pins s σ H E I hf st hg
  subst hP hw hK
  obtain ⟨hd,hi⟩:=hg
  have hm:jM d es ep s.heap:=(show cI X.prog X.w H s.heap d (.ext (jM d es ep)) from I.bw d _ hd).1
  have hsz:es.size=aq.length:=by
   have:=congrArg List.length he
   simp only [Array.length_toList,List.length_map] at this
   rw [this,hl]
  obtain ⟨f0,f1,f2,f3,f4,f5⟩:=hf it (by simp)
  exact Lp (I.ok.hd hc) st hm (by omega) fun h' eb=>⟨rfl,I.turned (t':=s.toks) (fun b o hb e=>eb b o hb e) f0 f1 f3 f4 f5⟩
 self:=fun _ _ _ _ _ st h=>wpAny_pyIter_keyiter st h
section
variable {X:Cx}
theorem Inv.Lq {pins:List (Addr × Obj)} {σ:St} {H:Hp} {s:Shared} {d:Addr} {aq:List (List Key × V)} (I:Inv X pins σ H s) (hd:H d=some (.dT aq)) :
  ∃ (bs:Nat→Addr) (xs:XT) (es:Array DictEntry) (ep:Nat),Bf X.prog X.w H d aq (.ext (jM d es ep)) bs∧(d == sysModules)=false∧xs.length=aq.length∧es.toList=xs.map (entryOfKey (tupleKind (be X.prog X.w)))∧(∀ i x,xs[i]?=some x→bs i=x.2.1)∧jM d es ep s.heap∧Inv X pins σ (upd H d (.ext (jM d es ep))) s:=by
 obtain ⟨z,sm,xs,rel,o,es,ep,ho,hx,Gy,Lr,Q0⟩:=(show cI X.prog X.w H s.heap d (.dT aq) from I.bw d _ hd)
 have hm:jM d es ep s.heap:=⟨o,ho,hx,Gy⟩
 have hl:xs.length=aq.length:=(Paired.length rel).symm
 have Fh:∀ (i:Nat) (x:List Key × Addr × Value),xs[i]?=some x→(fun i=>((xs[i]?).map (·.2.1)).getD 0) i=x.2.1:=fun i x e=>by show ((xs[i]?).map (·.2.1)).getD 0=_;rw [e];rfl
 have ks:∀ {l:List (List Key × V)} {m:XT},Paired (fun (p:List Key × V) (q:List Key × Addr × Value)=>p.1=q.1∧H q.2.1=some (.tup (p.1.map kV))∧RelV p.2 q.2.2) l m→∀ (i:Nat) k v,l[i]?=some (k,v)→∃ x,m[i]?=some x∧H x.2.1=some (.tup (k.map kV)):=by
  intro l m r
  induction r with
  | nil=>intro i k v h;simp at h
  | @cons p q ps qs hq t ih =>
   intro i k v h
   cases i with
   | zero=>simp at h;subst h;exact ⟨q,rfl,hq.2.1⟩
   | succ i=>simp at h;obtain ⟨x,h1,h2⟩:=ih i k v h;exact ⟨x,by simpa using h1,h2⟩
 refine ⟨fun i=>((xs[i]?).map (·.2.1)).getD 0,xs,es,ep,⟨z,sm,fun i k v h=>?_,xs,es,ep,rel,Lr,Q0,Fh,rfl⟩,sm,hl,Lr,Fh,hm,?_⟩
 ·obtain ⟨x,h1,h2⟩:=ks rel i k v h
  show H (((xs[i]?).map (·.2.1)).getD 0)=_
  rw [h1];exact h2
 ·exact I.write (x:=d) (e:=d) (h':=s.heap) (t':=s.toks) (by rw [hd];exact True.intro) (.inl rfl) (fun _ _ _ q=>q) ⟨o,ho⟩ ⟨hm,⟨o,ho⟩,fun h1 h2 x k=>x.at_ k⟩
theorem Bf.keep {P:Program} {w:World} {H H':Hp} {d:Addr} {aq:List (List Key × V)} {u:HO} {bs:Nat→Addr} (h:Bf P w H d aq u bs) (k:∀ a xs,H a=some (.tup xs)→H' a=some (.tup xs)):Bf P w H' d aq u bs:=by
 obtain ⟨xs,es,ep,r,q⟩:=h.ex
 refine ⟨h.z,h.sm,fun i a v e=>k _ _ (h.ks i a v e),xs,es,ep,?_,q⟩
 clear q h
 induction r with
 | nil=>exact .nil
 | @cons p q ps qs hq t ih=>exact .cons ⟨hq.1,k _ _ hq.2.1,hq.2.2⟩ ih
theorem Inv.Sm {pins:List (Addr × Obj)} {σ:St} {H:Hp} {s:Shared} {d:Addr} {aq:List (List Key × V)} {u:HO} {bs:Nat→Addr} (I:Inv X pins σ H s) (ok:Bf X.prog X.w H d aq u bs) (hd:H d=some u):Inv X pins σ (upd H d (.dT aq)) s:=by
 obtain ⟨xs,es,ep,rel,Lr,Q0,hb,rfl⟩:=ok.ex
 obtain ⟨o,ho,hx,Gy⟩:=(show cI X.prog X.w H s.heap d (.ext (jM d es ep)) from I.bw d _ hd).1
 have Yv:=ok.z
 have oks:=ok.sm
 have Pb:Paired (fun (p:List Key × V) (q:List Key × Addr × Value)=>p.1=q.1∧(upd H d (.dT aq)) q.2.1=some (.tup (p.1.map kV))∧RelV p.2 q.2.2) aq xs:=by
  clear Lr Q0 hb Yv ok
  generalize (HO.dT aq)=oo
  induction rel with
  | nil=>exact .nil
  | @cons p q ps qs hq t ih=>exact .cons ⟨hq.1,by rw [aE (fun z=>by have:=hq.2.1;rw [z,hd] at this;cases this)];exact hq.2.1,hq.2.2⟩ ih
 exact I.write (x:=d) (e:=d) (h':=s.heap) (t':=s.toks) (by rw [hd];exact True.intro) (.inl rfl) (fun _ _ _ q=>q) ⟨o,ho⟩ ⟨Yv,oks,xs,Pb,o,es,ep,ho,hx,Gy,Lr,Q0⟩
def Pc (P:Program) (w:World) (td:TE):TI:=fun σ H R=>td σ H fun x H1=>∃ d aq,x=.ref d∧H1 d=some (.dT aq)∧∀ u bs,Bf P w H1 d aq u bs→R (Sl d u aq.length bs) (upd H1 d u)
theorem Gz (P:Program) (w:World) {tg l:Expr} {td:TE} (hl:PE X l td) (hP:X.prog=P:=by rfl) (hw:X.w=w:=by rfl):PI X tg l (Pc P w td):=by
 subst hP hw
 intro pins s σ H R I h
 refine bu (hl pins s σ H _ I h) fun v s1 ⟨x,H1,I1,r1,q1⟩=>?_
 obtain ⟨d,aq,rfl,hd,q⟩:=q1
 cases r1
 obtain ⟨bs,xs,es,ep,ok,hs,U3,Lr,hb,hm,I2⟩:=I1.Lq hd
 refine JZ hs hm ?_
 refine ⟨s1.heap.objs.size,[s1.heap.objs.size],_,_,_,rfl,I2.kept (t':=s1.toks) fun b o e=>Heap.get?_push_of_some _ e,DP U3 Lr hb,⟨_,Heap.get?_push_size _ rfl,rfl,rfl⟩,fun b hb=>?_,q _ bs ok⟩
 have e:b=s1.heap.objs.size:=by simpa using hb
 subst e
 exact I2.zb (Nat.le_refl _) (I2.bw.fresh (Nat.le_refl _))
def Pd (P:Program) (w:World) (td ty:TE):TE:=fun σ H Q=>td σ H fun x H1=>ty σ H1 fun y H2=>∃ a aq u bs b k v,x=.ref a∧H2 a=some u∧Bf P w H2 a aq u bs∧y=.ref b∧H2 b=some (.tup (k.map kV))∧iz aq k=some v∧Q v H2
theorem Bg (P:Program) (w:World) {o i:Expr} {pos:Pos} {td ty:TE} (hu:X.A.units+1 < cLine) (ho:PE X o td) (hi:PE X i ty) (hs:PQ i) (hP:X.prog=P:=by rfl) (hw:X.w=w:=by rfl):PE X (.Subscript o i pos) (Pd P w td ty):=by
 subst hP hw
 intro pins s σ H Q I h
 refine Fc PySem.F.slot_dict_getitem.lookup hs (bu (ho pins s σ H _ I h) fun u s1 ⟨x,H1,I1,rx,q1⟩=>bu (hi pins s1 σ H1 _ I1 q1) fun iv s2 ⟨y,H2,I2,ry,a,aq,uo,bs,b,k,v,ex,JM,ok,ey,eb,hv,q2⟩=>?_)
 subst ex ey
 obtain rfl:u=Value.ref a:=rx
 cases (show iv=Value.ref b from ry)
 obtain ⟨xs,es,ep,rel,Lr,Q0,hb,rfl⟩:=ok.ex
 have hm:jM a es ep s2.heap:=(show cI X.prog X.w H2 s2.heap a (.ext (jM a es ep)) from I2.bw a _ JM).1
 obtain ⟨ob,h1,h2,h3⟩:=id hm
 have all:∀ {l:List (List Key × V)} {m:XT},Paired (fun (p:List Key × V) (q:List Key × Addr × Value)=>p.1=q.1∧H2 q.2.1=some (.tup (p.1.map kV))∧RelV p.2 q.2.2) l m→∀ x ∈ m,(tupleKind (be X.prog X.w)).is s2.heap x.1 x.2.1:=by
  intro l m q
  induction q with
  | nil=>intro x hx;exact nomatch hx
  | @cons p q ps qs hq t ih =>
   intro x hx
   rcases List.mem_cons.mp hx with e | hx
   ·subst e
    exact nq I2.bw (by rw [← hq.1];exact hq.2.1)
   ·exact ih x hx
 have dd:s2.heap.DictOfH (tupleKind (be X.prog X.w)) a xs:=⟨ob,es,ep,h1,h2,h3,Lr,all rel,Q0⟩
 obtain ⟨w',hw',rw'⟩:=lB.some_of (v:=v) (o:=(atKey xs k).map (·.2)) (by rw [← hv];exact KT.val rel k)
 obtain ⟨p,hp,vy⟩:=Option.map_eq_some_iff.mp hw'
 refine ⟨dd.typeIs,wpAny_getItem_heap (tupleKind_room_in1 hu) (nq I2.bw eb) dd hp ?_⟩
 rw [vy]
 exact ⟨v,H2,I2.tok _,rw',q2⟩
end
section
variable {g:TG} {σ:St} {H:Hp}
theorem G5 {d:Addr} {u:HO} {n:Nat} {bs:Nat→Addr} {tb:TS} {D:Ends} (Pv:Nat→St→Hp→Prop) (h0:Pv 0 σ H) (hl:∀ i σ H,i≤n→Pv i σ H→H d=some u)
  (hs:∀ (i:Nat) (σ:St) (H:Hp),i < n→Pv i σ H→g (.ref (bs i)) σ H fun σ2 H2=>tb { D with nx:=Pv (i+1),ct:=Pv (i+1),bk:=D.nx } σ2 H2) (hd:∀ σ H,Pv n σ H→D.nx σ H) :
  ∃ W:Nat→Nat→St→Hp→Prop,(∃ m,W 0 m σ H)∧∀ i m σ H,W i m σ H →
   ((Sl d u n bs).stop i H∧D.nx σ H)∨((Sl d u n bs).go i H∧∃ N:St→Hp→Prop,(∀ σ' H',N σ' H'→∃ m',m' < m∧W (i+1) m' σ' H')∧∀ x H',(Sl d u n bs).Ij i H x H'→g x σ H' fun σ2 H2=>tb { D with nx:=N,ct:=N,bk:=D.nx } σ2 H2):=by
 refine ⟨fun i m σ H=>m=n - i∧i≤n∧Pv i σ H,⟨n,by simp,Nat.zero_le _,h0⟩,?_⟩
 rintro i m σ' H' ⟨rfl,hi,p⟩
 have q1:=hl i σ' H' hi p
 by_cases fE:i < n
 ·refine .inr ⟨⟨q1,fE⟩,Pv (i+1),fun σ3 H3 z=>⟨n - (i+1),by omega,rfl,fE,z⟩,fun x H2 y=>?_⟩
  obtain ⟨rfl,rfl⟩:=y
  exact hs i σ' _ fE p
 ·have e:i=n:=by omega
  subst e
  exact .inl ⟨⟨q1,Nat.le_refl _⟩,hd σ' H' p⟩
end
section
variable {X:Cx}
def Pe (P:Program) (w:World) (t:TS):TS:=fun D σ H=>t { D with nx:=fun σ' H'=>∃ d aq u bs,Bf P w H' d aq u bs∧H' d=some u∧D.nx σ' (upd H' d (.dT aq)) } σ H
theorem Jb (P:Program) (w:World) {st:Stmt} {t:TS} (h:PS X st t) (hP:X.prog=P:=by rfl) (hw:X.w=w:=by rfl):PS X st (Pe P w t):=by
 subst hP hw
 intro pins s σ H D I q
 refine wpAny_mono (h pins s σ H _ I q) (fun f s' q=>?_) fun _ _ z=>z
 cases f with
 | next=>obtain ⟨σ',H',I',d,aq,u,bs,ok,hd,q⟩:=q;exact ⟨σ',_,I'.Sm ok hd,q⟩
 | brk=>exact q
 | cont=>exact q
 | ret v=>exact q
end
end L2
namespace L2
open PySem PySem.Spec PyProof.Rows
section
variable {X:Cx} {pins:List (Addr × Obj)} {σ:St} {H:Hp} {s:Shared}
def wA (a C:Addr) (h:Heap):Prop:=∃ t0:Addr,h.get? a=some { cls:=.ref C,data:=.fields #[.ref t0,.none,.none,.none,.bool false,.none] }
def rn (a C dx:Addr) (h:Heap):Prop:=∃ t0:Addr,h.get? a=some { cls:=.ref C,dict:=some dx,data:=.fields #[.ref t0,.none,.none,.none,.bool false,.none] }
theorem wA.mono {a C:Addr} (h1 h2:Heap) (x:wA a C h1) (k:∀ o,h1.get? a=some o→h2.get? a=some o):wA a C h2:=let ⟨t,e⟩:=x;⟨t,k _ e⟩
theorem rn.mono {a C dx:Addr} (h1 h2:Heap) (x:rn a C dx h1) (k:∀ o,h1.get? a=some o→h2.get? a=some o):rn a C dx h2:=let ⟨t,e⟩:=x;⟨t,k _ e⟩
theorem wA.at_ {a C:Addr} (h:Heap) (x:wA a C h):ExcAt a C h:=let ⟨_,e⟩:=x;⟨_,_,e,rfl,rfl⟩
theorem rn.at_ {a C dx:Addr} (h:Heap) (x:rn a C dx h):ExcAt a C h:=let ⟨_,e⟩:=x;⟨_,_,e,rfl,rfl⟩
def Jc (H:Hp) (a C:Addr):Prop:=∃ φ:Heap→Prop,H a=some (.ext φ)∧∀ h,φ h→ExcAt a C h
theorem Jc.same {H H':Hp} {a C:Addr} (x:Jc H a C) (s:aI H H'):Jc H' a C:=let ⟨φ,e,f⟩:=x;⟨φ,s _ _ e,f⟩
end
end L2
namespace L2
open PySem PySem.Spec PyProof.Rows
abbrev Ls:List Value:=[.type "ValueError",.type "Exception",.type "BaseException",.type "object"]
structure Nx (K:PySem.W.Frag) (C B f:Addr):Prop where
 lk:∃ nm q N bs sn sub ab col dd k0 k1 k2 k3 k5,K.lookup C=some (excClassObj nm q C N bs (.ref B :: Ls) true sn sub ab col dd k0 k1 k2 k3 k5 "ValueError.__new__")
 par:PySem.W.excIn K B Ls "ValueError.__new__"=true
 init:PySem.W.findIn K (.ref C) "__init__"=some (some (.ref f))
 fn:PySem.W.typeIn K (.ref f)=some (.type "function")
 kp:PySem.W.keepIn K (.ref C)=true
 sa:PySem.W.findIn K (.ref C) "__setattr__"=some (some (.builtin "object.__setattr__"))
theorem Nx.tail {K:PySem.W.Frag} {C B f:Addr} {h:Heap} (Z:Nx K C B f) (KX:K.In h):OwnTail h Ls (.ref B :: Ls):=by
 obtain ⟨tl,N,nm,q0,bs,hdct,sn,sub,ab,col,dd,k0,k1,k2,k3,k5,mN,hC,hN,Qw,T⟩:=(BQ (x:="") (mg:=fun _=>some (.ref B)) KX rfl Z.par).obj
 exact .own hC hN Qw .base
section
variable {prog:Program} {w:World} {A:Around} {E:Value→Shared→Prop} {h:Heap} {g:Array GenState} {d:Drawn} {t:Nat} {os:OsState} {K:PySem.W.Frag} {C B f:Addr}
end
section
variable {X:Cx} {CX:BI} {k:Nat} {f C B:Addr} {fd:FuncData} {ps:List Str} {sp:Sp} {E:XK} {x:Str} {p pos:Pos} {e:Expr} {es:List Expr} {t:TA}
end
end L2
namespace L2
open PySem PySem.Spec PyProof.Rows
structure XUp (K:PySem.W.Frag) (B:Addr):Prop where
 sp:PySem.W.specialIn K (.ref B) "__getattribute__"=some (some (.builtin "type.__getattribute__"))
 rd:PySem.W.readsIn K B (.type "type")=true
 fd:PySem.W.findCls K (.ref B) (.type "type") "__init__"=some (.val (.builtin "ValueError.__init__"))
section
variable {X:Cx} {pins:List (Addr × Obj)} {σ:St} {H:Hp} {s:Shared} {C B f a:Addr}
end
section
variable {prog:Program} {w:World} {A:Around} {E:Value→Shared→Prop} {h:Heap} {g:Array GenState} {d:Drawn} {t:Nat} {os:OsState} {K:PySem.W.Frag} {a C B f dx:Addr} {name:Str} {v:Value} {mA:Str→Option Value}
end
section
variable {X:Cx}
end
end L2
namespace L2
open PySem PySem.Spec PyProof.Rows
section
variable {P:Program} {w:World} {K:PySem.W.Frag} {mg:Str→Option Value} {base:Heap}
theorem kL.qQ {x qual:Str} {st:Stmt} {f:Addr} {fd:FuncData} {N ps:List Str} {k:Nat} {sp:Sp} (F:kL K x qual st f fd) (S:aQ N ps (aH st)) (len:∀ vs H Q E,sp vs H Q E→vs.length=ps.length)
  (rS:∀ (f:Addr) (bo:Value) (A:Around) (outer:List Env) (s:Shared) (H:Hp) (vs:List V) (Q:VK) (E:XK),dr k (A.deeper (envOfC qual (aH st) s.heap.objs.size f bo))→sp vs H Q E →
   ∃ t,Cz (Ux P w K mg base N qual st f bo A outer s H E) (bG st) t∧t { nx:=fun _ H'=>Q .bN H',rt:=Q } (start N vs) H):bZ P w K mg base (i9 P w) (k+1) f fd ps sp:=by
 obtain ⟨oc,od,kV,doc,pm,an,bo,ct,FK,rfl,lk,yn⟩:=F.ex
 exact FJ lk yn S len fun A outer s H vs Q E hr FL=>rS f bo A outer s H vs Q E hr FL
end
end L2
namespace My
def P (a k:Int):Int:=a ^ k.toNat % 97
theorem Sn (a k:Int):0≤P a k:=Int.emod_nonneg _ (by decide)
theorem Pf (a k:Int):P a k < 97:=Int.emod_lt_of_pos _ (by decide)
theorem So:∀ n < 97,0 < n→n ^ 95 % 97 * n % 97=1∧0 < n ^ 95 % 97:=by decide
theorem Ny {a:Int} (h0:0 < a) (h1:a < 97):P a 95 * a % 97=1:=by
 obtain ⟨n,rfl⟩:∃ n:Nat,a=n:=⟨a.toNat,by omega⟩
 have h:=(So n (by omega) (by omega)).1
 show ((n:Int) ^ 95 % 97) * n % 97=1
 have:(((n ^ 95 % 97 * n % 97:Nat)):Int)=1:=by rw [h];rfl
 rw [← this];norm_cast
theorem G6 {a:Int} (h0:0 < a) (h1:a < 97):0 < P a 95:=by
 obtain ⟨n,rfl⟩:∃ n:Nat,a=n:=⟨a.toNat,by omega⟩
 have h:=(So n (by omega) (by omega)).2
 show 0 < ((n:Int) ^ 95 % 97)
 have:(0:Int) < ((n ^ 95 % 97:Nat):Int):=by omega
 simpa using this
theorem Bh (x:Int) (n:Nat):(x % 97) ^ n % 97=x ^ n % 97:=by
 induction n with
 | zero=>simp
 | succ n ih=>rw [Int.pow_succ,Int.pow_succ,Int.mul_emod,ih,Int.emod_emod_of_dvd _ (Int.dvd_refl _),← Int.mul_emod]
theorem sq (q:Int):q ^ 2=q * q:=by rw [Int.pow_succ,Int.pow_succ];simp
theorem G7 {p q a:Int} {l k:Int} (hl:0 < l) (ho:l % 2=1) (h:p * q ^ l.toNat % 97=P a k):(p * q % 97) * (q * q % 97) ^ (l / 2).toNat % 97=P a k:=by
 rw [← h]
 have e:l.toNat=2 * (l / 2).toNat+1:=by omega
 rw [e,Int.pow_succ,Int.pow_mul]
 rw [Int.mul_emod,Int.emod_emod_of_dvd _ (Int.dvd_refl _)]
 have e2:(q * q % 97) ^ (l / 2).toNat % 97=(q ^ 2) ^ (l / 2).toNat % 97:=by
  rw [sq]
  exact Bh _ _
 rw [e2,← Int.mul_emod]
 congr 1
 rw [Int.mul_assoc,Int.mul_comm q]
theorem DQ {p q a:Int} {l k:Int} (hl:0 < l) (ho:l % 2≠1) (h:p * q ^ l.toNat % 97=P a k):p * (q * q % 97) ^ (l / 2).toNat % 97=P a k:=by
 rw [← h]
 have e:l.toNat=2 * (l / 2).toNat:=by omega
 rw [e,Int.pow_mul,Int.mul_emod]
 have e2:(q * q % 97) ^ (l / 2).toNat % 97=(q ^ 2) ^ (l / 2).toNat % 97:=by
  rw [sq]
  exact Bh _ _
 rw [e2,← Int.mul_emod]
theorem Bi {a k:Int}:(1:Int) * a ^ k.toNat % 97=P a k:=by rw [Int.one_mul];rfl
theorem G8 {p q a k l:Int} (hl:l≤0) (p0:0≤p) (p1:p < 97) (h:p * q ^ l.toNat % 97=P a k):p=P a k:=by
 have e:l.toNat=0:=by omega
 rw [← h,e,Int.pow_zero,Int.mul_one];omega
end My
namespace My
def G9 (a:Nat):Nat:=((List.range 96).find? fun s=>5 ^ s % 97 == a).getD 0
theorem wB:∀ a < 97,0 < a→G9 a < 96∧5 ^ G9 a % 97=a:=by decide +kernel
theorem Lu:∀ s < 96,G9 (5 ^ s % 97)=s:=by decide +kernel
theorem DR (a:Nat) (ha:a < 97) (h0:0 < a) (s:Nat) (hs:s < G9 a):5 ^ s % 97≠a:=by
 intro h
 have h1:=Lu s (by have:=(wB a ha h0).1;omega)
 rw [h] at h1;omega
def ex (a:Int):Int:=G9 a.toNat
theorem Jd (a:Int):0≤ex a:=Int.natCast_nonneg _
theorem Sr {a:Int} (h0:0 < a) (h1:a < 97):ex a≤95:=by
 have:=(wB a.toNat (by omega) (by omega)).1
 unfold ex;omega
def up (k:Int):Int:=5 ^ k.toNat % 97
theorem Ss {a:Int} (h0:0 < a) (h1:a < 97):up (ex a)=a:=by
 have h:=(wB a.toNat (by omega) (by omega)).2
 unfold up ex
 rw [Int.toNat_natCast]
 have:((5 ^ G9 a.toNat % 97:Nat):Int)=(a.toNat:Int):=by rw [h]
 rw [show a=(a.toNat:Int) by omega,Int.toNat_natCast,← this];norm_cast
theorem Su {a s:Int} (h0:0 < a) (h1:a < 97) (hs:0≤s) (hl:s < ex a):up s≠a:=by
 intro h
 have:=DR a.toNat (by omega) (by omega) s.toNat (by unfold ex at hl;omega)
 apply this
 unfold up at h
 have h2:((5 ^ s.toNat % 97:Nat):Int)=a:=by rw [← h];norm_cast
 omega
theorem Pg {a b:Int} (h0:0 < a) (h1:a < 97) (g0:0 < b) (g1:b < 97):0 < a * b % 97:=by
 have h:∀ a < 97,0 < a→∀ b < 97,0 < b→0 < (a * b % 97:Nat):=by decide +kernel
 have q:=h a.toNat (by omega) (by omega) b.toNat (by omega) (by omega)
 have:a * b=((a.toNat * b.toNat:Nat):Int):=by
  rw [Int.natCast_mul,Int.toNat_of_nonneg (by omega),Int.toNat_of_nonneg (by omega)]
 rw [this];omega
theorem Lv {s r:Int} (hs:0≤s) (h:r=up s):r * 5 % 97=up (s+1):=by
 subst h
 unfold up
 have e:(s+1).toNat=s.toNat+1:=by omega
 rw [e,Int.pow_succ,Int.mul_emod,Int.emod_emod_of_dvd _ (Int.dvd_refl _),← Int.mul_emod]
theorem Lw:up 0=1:=by decide
end My
namespace My
def sumTo:Nat→(Nat→Int)→Int
 | 0,_=>0
 | n+1,f=>sumTo n f+f n
theorem bE {f g:Nat→Int}:∀ (n:Nat),(∀ j,j < n→f j=g j)→sumTo n f=sumTo n g
 | 0,_=>rfl
 | n+1,h=>by rw [sumTo,sumTo,bE n fun j hj=>h j (by omega),h n (by omega)]
theorem dS (c d:Int) (f g:Nat→Int):∀ (n:Nat),sumTo n (fun j=>c * f j+d * g j)=c * sumTo n f+d * sumTo n g
 | 0=>by simp [sumTo]
 | n+1=>by rw [sumTo,sumTo,sumTo,dS c d f g n];grind
theorem pR (c:Int) (f:Nat→Int) (n:Nat):sumTo n (fun j=>c * f j)=c * sumTo n f:=by
 have h:=dS c 0 f f n
 have e:sumTo n (fun j=>c * f j)=sumTo n (fun j=>c * f j+0 * f j):=bE n fun j _=>by grind
 rw [e,h];grind
theorem gR (f:Nat→Int):∀ (n:Nat),sumTo (n+1) f=f 0+sumTo n (fun j=>f (j+1))
 | 0=>by simp [sumTo]
 | n+1=>by rw [sumTo,gR f n,sumTo];omega
theorem qR {f:Nat→Int}:∀ (n:Nat),(∀ j,j < n→f j=0)→sumTo n f=0
 | 0,_=>rfl
 | n+1,h=>by rw [sumTo,qR n fun j hj=>h j (by omega),h n (by omega)];rfl
theorem tM {f:Nat→Int} (p:Nat):∀ (n:Nat),p < n→(∀ j,j < n→j≠p→f j=0)→sumTo n f=f p
 | 0,h,_=>by omega
 | n+1,h,hz=>by
  rw [sumTo]
  by_cases e:p=n
  ·subst e;rw [qR p fun j hj=>hz j (by omega) (by omega)];omega
  ·rw [tM p n (by omega) fun j hj hn=>hz j (by omega) hn,hz n (by omega) (by omega)];omega
theorem tN {f:Nat→Int} (p q:Nat):∀ (n:Nat),p < q→q < n→(∀ j,j < n→j≠p→j≠q→f j=0)→sumTo n f=f p+f q
 | 0,_,h,_=>by omega
 | n+1,Lx,h,hz=>by
  rw [sumTo]
  by_cases e:q=n
  ·subst e;rw [tM p q Lx fun j hj hn=>hz j (by omega) hn (by omega)]
  ·rw [tN p q n Lx (by omega) fun j hj hn hm=>hz j (by omega) hn hm,hz n (by omega) (by omega) (by omega)];omega
theorem gS {f:Nat→Int}:∀ (n:Nat),(∀ j,j < n→(97:Int) ∣ f j)→(97:Int) ∣ sumTo n f
 | 0,_=>⟨0,by simp [sumTo]⟩
 | n+1,h=>by rw [sumTo];exact Int.dvd_add (gS n fun j hj=>h j (by omega)) (h n (by omega))
def ip (n:Nat) (r z:Nat→Int):Int:=sumTo n fun j=>r j * z j
theorem DT (n:Nat) (c d:Int) (r s z:Nat→Int):ip n (fun j=>c * r j+d * s j) z=c * ip n r z+d * ip n s z:=by
 unfold ip
 rw [← dS]
 exact bE n fun j _=>by grind
theorem Bj {n:Nat} {r s z:Nat→Int} (h:∀ j,j < n→(97:Int) ∣ r j - s j):(97:Int) ∣ ip n r z - ip n s z:=by
 have e:ip n r z - ip n s z=sumTo n fun j=>(r j - s j) * z j:=by
  have:=dS 1 (-1) (fun j=>r j * z j) (fun j=>s j * z j) n
  unfold ip
  rw [show sumTo n (fun j=>(r j - s j) * z j)=sumTo n (fun j=>1 * (r j * z j)+-1 * (s j * z j)) from bE n fun j _=>by grind,this];omega
 rw [e]
 exact gS n fun j hj=>Int.dvd_trans (h j hj) (Int.dvd_mul_right _ _)
abbrev nU:=Nat→Nat→Int
def pS (m n:Nat) (a:nU) (z:Nat→Int):Prop:=∀ i,i < m→(97:Int) ∣ ip n (a i) z
def vT (n:Nat) (a:nU):Prop:=∀ z,pS n n a z→∀ j,j < n→(97:Int) ∣ z j
theorem pS.congr {m n:Nat} {a b:nU} {z:Nat→Int} (h:∀ i j,i < m→j < n→(97:Int) ∣ a i j - b i j) (k:pS m n a z):pS m n b z:=fun i hi=>by
 have h1:=k i hi
 have h2:=Bj (n:=n) (z:=z) fun j hj=>h i j hi hj
 have:=Int.dvd_sub h1 h2
 rwa [show ip n (a i) z - (ip n (a i) z - ip n (b i) z)=ip n (b i) z by omega] at this
theorem pS.DU {m n:Nat} {a b:nU} {z:Nat→Int} (h:∀ i j,i < m→j < n→(97:Int) ∣ a i j - b i j):pS m n a z↔pS m n b z :=
 ⟨fun k=>k.congr h,fun k=>k.congr fun i j hi hj=>by have:=Int.dvd_neg.mpr (h i j hi hj);rwa [show -(a i j - b i j)=b i j - a i j by omega] at this⟩
theorem vT.congr {n:Nat} {a b:nU} (h:∀ i j,i < n→j < n→(97:Int) ∣ a i j - b i j):vT n a↔vT n b:=by
 unfold vT
 constructor
 ·intro r z k;exact r z ((pS.DU h).mpr k)
 ·intro r z k;exact r z ((pS.DU h).mp k)
theorem Sv:∀ n < 97,0 < n→n ^ 95 % 97 * n % 97=1:=by decide
theorem Je {a:Int} (h:¬ (97:Int) ∣ a):∃ b:Int,(97:Int) ∣ a * b - 1:=by
 have h1:0 < a % 97:=by
  have:a % 97≠0:=fun e=>h (Int.dvd_of_emod_eq_zero e)
  omega
 have q:=Sv (a % 97).toNat (by omega) (by omega)
 refine ⟨(((a % 97).toNat ^ 95 % 97:Nat):Int),?_⟩
 generalize (a % 97).toNat ^ 95 % 97=b at q
 have e1:((b * (a % 97).toNat % 97:Nat):Int)=1:=by rw [q];rfl
 have e2:((b:Int) * (a % 97)) % 97=1:=by
  rw [← e1];rw [Int.natCast_emod,Int.natCast_mul,Int.toNat_of_nonneg (by omega)];rfl
 have e3:a * (b:Int) % 97=1:=by rw [Int.mul_comm,Int.mul_emod,← e2,Int.mul_emod (b:Int) (a % 97),Int.emod_emod_of_dvd _ (Int.dvd_refl _)]
 omega
theorem prime {a b:Int} (h:(97:Int) ∣ a * b) (ha:¬ (97:Int) ∣ a):(97:Int) ∣ b:=by
 obtain ⟨c,hc⟩:=Je ha
 have h1:(97:Int) ∣ c * (a * b):=Int.dvd_trans h (Int.dvd_mul_left _ _)
 have h2:(97:Int) ∣ (a * c - 1) * b:=Int.dvd_trans hc (Int.dvd_mul_right _ _)
 have:=Int.dvd_sub h1 h2
 rwa [show c * (a * b) - (a * c - 1) * b=b by grind] at this
def skip (p i:Nat):Nat:=if i < p then i else i+1
theorem vT.step {n p:Nat} {a:nU} (hp:p≤n) (h0:¬ (97:Int) ∣ a p 0) :
  vT (n+1) a↔vT n (fun i j=>a (skip p i) (j+1) * a p 0 - a p (j+1) * a (skip p i) 0):=by
 have sk:∀ i,i < n→skip p i < n+1:=fun i hi=>by unfold skip;split <;> omega
 have red:∀ (i:Nat) (z:Nat→Int),ip n (fun j=>a (skip p i) (j+1) * a p 0 - a p (j+1) * a (skip p i) 0) (fun j=>z (j+1)) =
   a p 0 * ip (n+1) (a (skip p i)) z - a (skip p i) 0 * ip (n+1) (a p) z:=fun i z=>by
  have e1:ip (n+1) (a (skip p i)) z=a (skip p i) 0 * z 0+ip n (fun j=>a (skip p i) (j+1)) (fun j=>z (j+1)):=by unfold ip;rw [gR]
  have e2:ip (n+1) (a p) z=a p 0 * z 0+ip n (fun j=>a p (j+1)) (fun j=>z (j+1)):=by unfold ip;rw [gR]
  have e3:=DT n (a p 0) (- a (skip p i) 0) (fun j=>a (skip p i) (j+1)) (fun j=>a p (j+1)) (fun j=>z (j+1))
  rw [e1,e2,show (fun j=>a (skip p i) (j+1) * a p 0 - a p (j+1) * a (skip p i) 0)=(fun j=>a p 0 * a (skip p i) (j+1)+-a (skip p i) 0 * a p (j+1)) from funext fun j=>by grind,e3]
  grind
 constructor
 ·intro r y k j hj
  obtain ⟨b,hb⟩:=Je h0
  let z:Nat→Int:=fun j=>match j with
   | 0=>-(b * ip n (fun j=>a p (j+1)) y)
   | j+1=>y j
  have zt:(fun j=>z (j+1))=y:=rfl
  have kp:(97:Int) ∣ ip (n+1) (a p) z:=by
   have e2:ip (n+1) (a p) z=a p 0 * z 0+ip n (fun j=>a p (j+1)) (fun j=>z (j+1)):=by unfold ip;rw [gR]
   rw [e2,zt,show z 0=-(b * ip n (fun j=>a p (j+1)) y) from rfl]
   have:(97:Int) ∣ (a p 0 * b - 1) * -(ip n (fun j=>a p (j+1)) y):=Int.dvd_trans hb (Int.dvd_mul_right _ _)
   rwa [show (a p 0 * b - 1) * -(ip n (fun j=>a p (j+1)) y)=a p 0 * -(b * ip n (fun j=>a p (j+1)) y)+ip n (fun j=>a p (j+1)) y by grind] at this
  have ks:∀ i,i < n→(97:Int) ∣ ip (n+1) (a (skip p i)) z:=fun i hi=>by
   have h1:=k i hi
   have e:=red i z
   rw [zt] at e
   rw [e] at h1
   have h2:(97:Int) ∣ a (skip p i) 0 * ip (n+1) (a p) z:=Int.dvd_trans kp (Int.dvd_mul_left _ _)
   have h3:=Int.dvd_add h1 h2
   rw [show a p 0 * ip (n+1) (a (skip p i)) z - a (skip p i) 0 * ip (n+1) (a p) z+a (skip p i) 0 * ip (n+1) (a p) z=a p 0 * ip (n+1) (a (skip p i)) z by omega] at h3
   exact prime h3 h0
  have kz:pS (n+1) (n+1) a z:=fun i hi=>by
   by_cases e:i=p
   ·subst e;exact kp
   ·by_cases l:i < p
    ·have:=ks i (by omega)
     rwa [show skip p i=i by unfold skip;rw [if_pos l]] at this
    ·have:=ks (i - 1) (by omega)
     rwa [show skip p (i - 1)=i by unfold skip;rw [if_neg (by omega)];omega] at this
  exact r z kz (j+1) (by omega)
 ·intro r z k
  have ky:pS n n (fun i j=>a (skip p i) (j+1) * a p 0 - a p (j+1) * a (skip p i) 0) (fun j=>z (j+1)):=fun i hi=>by
   show (97:Int) ∣ ip n _ _
   rw [red i z]
   exact Int.dvd_sub (Int.dvd_trans (k _ (sk i hi)) (Int.dvd_mul_left _ _)) (Int.dvd_trans (k p (by omega)) (Int.dvd_mul_left _ _))
  have ht:=r _ ky
  have hz:(97:Int) ∣ z 0:=by
   have kp:=k p (by omega)
   have e2:ip (n+1) (a p) z=a p 0 * z 0+ip n (fun j=>a p (j+1)) (fun j=>z (j+1)):=by unfold ip;rw [gR]
   have h3:(97:Int) ∣ ip n (fun j=>a p (j+1)) (fun j=>z (j+1)):=gS n fun j hj=>Int.dvd_trans (ht j hj) (Int.dvd_mul_left _ _)
   have h4:=Int.dvd_sub kp h3
   rw [e2,show a p 0 * z 0+ip n (fun j=>a p (j+1)) (fun j=>z (j+1)) - ip n (fun j=>a p (j+1)) (fun j=>z (j+1))=a p 0 * z 0 by omega] at h4
   exact prime h4 h0
  intro j hj
  cases j with
  | zero=>exact hz
  | succ j=>exact ht j (by omega)
theorem vT.none {n:Nat} {a:nU} (h:∀ i,i < n+1→(97:Int) ∣ a i 0):¬ vT (n+1) a:=fun r=>by
 have k:pS (n+1) (n+1) a (fun j=>if j=0 then 1 else 0):=fun i hi=>by
  have:ip (n+1) (a i) (fun j=>if j=0 then 1 else 0)=a i 0:=by
   unfold ip
   rw [tM 0 (n+1) (by omega) fun j _ hj=>by simp [hj]]
   simp
  rw [this];exact h i hi
 have:=r _ k 0 (by omega)
 simp at this
theorem vT.zero (a:nU):vT 0 a:=fun _ _ j hj=>by omega
structure Clear (n c:Nat) (t:nU):Prop where
 one:∀ i,i < c→t i i=1
 nu:∀ i j,i < n→j < c→i≠j→t i j=0
theorem Clear.start (n:Nat) (t:nU):Clear n 0 t:=⟨fun _ h=>by omega,fun _ _ _ h=>by omega⟩
def swap (t:nU) (p q:Nat):nU:=fun i=>if i=p then t q else if i=q then t p else t i
theorem pS.swap {m n p q:Nat} {t:nU} {z:Nat→Int} (hp:p < m) (hq:q < m):pS m n (swap t p q) z↔pS m n t z:=by
 constructor
 ·intro k i hi
  by_cases e1:i=p
  ·subst e1
   have:=k q hq
   unfold My.swap at this
   by_cases e:q=i
   ·subst e;simpa using this
   ·rw [if_neg e,if_pos rfl] at this;exact this
  ·by_cases e2:i=q
   ·subst e2
    have:=k p hp
    unfold My.swap at this
    rwa [if_pos rfl] at this
   ·have:=k i hi
    unfold My.swap at this
    rwa [if_neg e1,if_neg e2] at this
 ·intro k i hi
  unfold My.swap
  split
  ·exact k q hq
  ·split
   ·exact k p hp
   ·exact k i hi
def clear (t:nU) (c:Nat) (f:Int):nU:=fun i j=>if i=c then t c j * f % 97 else (t i j - t i c * (t c j * f % 97)) % 97
theorem ff (a:Int):(97:Int) ∣ a % 97 - a:=by omega
theorem pS.clear {m n c:Nat} {t:nU} {f:Int} {z:Nat→Int} (hc:c < m) (hf:(97:Int) ∣ f * t c c - 1):pS m n (clear t c f) z↔pS m n t z:=by
 have hf0:¬ (97:Int) ∣ f:=fun h=>by
  have:=Int.dvd_sub (Int.dvd_trans h (Int.dvd_mul_right f (t c c))) hf
  rw [show f * t c c - (f * t c c - 1)=1 by omega] at this
  omega
 have Sw:pS m n (My.clear t c f) z↔pS m n (fun i j=>if i=c then f * t c j+0 * t c j else 1 * t i j+(- (t i c * f)) * t c j) z:=by
  refine pS.DU fun i j _ _=>?_
  unfold My.clear
  by_cases e:i=c
  ·rw [if_pos e,if_pos e]
   have:=ff (t c j * f)
   rwa [show t c j * f % 97 - (f * t c j+0 * t c j)=t c j * f % 97 - t c j * f by grind]
  ·rw [if_neg e,if_neg e]
   have h1:=ff (t i j - t i c * (t c j * f % 97))
   have h2:(97:Int) ∣ t i c * (t c j * f % 97 - t c j * f):=Int.dvd_trans (ff (t c j * f)) (Int.dvd_mul_left _ _)
   have:=Int.dvd_sub h1 h2
   rwa [show (t i j - t i c * (t c j * f % 97)) % 97 - (t i j - t i c * (t c j * f % 97)) - t i c * (t c j * f % 97 - t c j * f)=(t i j - t i c * (t c j * f % 97)) % 97 - (1 * t i j+-(t i c * f) * t c j) by grind] at this
 rw [Sw]
 have e1:ip n (fun j=>f * t c j+0 * t c j) z=f * ip n (t c) z:=by rw [DT];omega
 have e2:∀ i,ip n (fun j=>1 * t i j+(- (t i c * f)) * t c j) z=ip n (t i) z - t i c * f * ip n (t c) z:=fun i=>by rw [DT];grind
 constructor
 ·intro k
  have kc:(97:Int) ∣ ip n (t c) z:=by
   have:=k c hc
   simp only [if_true] at this
   rw [e1] at this
   exact prime this hf0
  intro i hi
  by_cases e:i=c
  ·subst e;exact kc
  ·have:=k i hi
   simp only [if_neg e] at this
   rw [e2] at this
   have h2:(97:Int) ∣ t i c * f * ip n (t c) z:=Int.dvd_trans kc (Int.dvd_mul_left _ _)
   have:=Int.dvd_add this h2
   rwa [show ip n (t i) z - t i c * f * ip n (t c) z+t i c * f * ip n (t c) z=ip n (t i) z by omega] at this
 ·intro k i hi
  by_cases e:i=c
  ·simp only [if_pos e]
   rw [e1];exact Int.dvd_trans (k c hc) (Int.dvd_mul_left _ _)
  ·simp only [if_neg e]
   rw [e2];exact Int.dvd_sub (k i hi) (Int.dvd_trans (k c hc) (Int.dvd_mul_left _ _))
theorem Clear.swap {n c q:Nat} {t:nU} (h:Clear n c t) (hq:c≤q) (hn:q < n):Clear n c (swap t c q):=by
 refine ⟨fun i hi=>?_,fun i j hi hj ne=>?_⟩
 ·unfold My.swap
  rw [if_neg (by omega),if_neg (by omega)];exact h.one i hi
 ·unfold My.swap
  split
  ·exact h.nu q j hn hj (by omega)
  ·split
   ·exact h.nu c j (by omega) hj (by omega)
   ·exact h.nu i j hi hj ne
theorem Clear.clear {n c:Nat} {t:nU} {f:Int} (h:Clear n c t) (hc:c < n) (hf:(97:Int) ∣ f * t c c - 1):Clear n (c+1) (clear t c f):=by
 have K1:t c c * f % 97=1:=by rw [Int.mul_comm];omega
 have hz:∀ j,j < c→t c j * f % 97=0:=fun j hj=>by rw [h.nu c j hc hj (by omega)];simp
 refine ⟨fun i hi=>?_,fun i j hi hj ne=>?_⟩
 ·unfold My.clear
  by_cases e:i=c
  ·subst e;rw [if_pos rfl,K1]
  ·rw [if_neg e,hz i (by omega),h.one i (by omega)];omega
 ·unfold My.clear
  by_cases e:i=c
  ·rw [if_pos e,hz j (by omega)]
  ·rw [if_neg e]
   by_cases e2:j=c
   ·subst e2;rw [K1];simp
   ·rw [hz j (by omega),h.nu i j hi (by omega) ne];simp
theorem Clear.full {n:Nat} {t:nU} (h:Clear n n t) (z:Nat→Int) (i:Nat) (hi:i < n):ip (n+1) (t i) z=z i+t i n * z n:=by
 unfold ip
 rw [tN i n (n+1) hi (by omega) fun j hj n1 n2=>by rw [h.nu i j hi (by omega) (Ne.symm n1)];omega,h.one i hi];omega
theorem Clear.stuck {n c:Nat} {t:nU} (h:Clear n c t) (hc:c < n) (hz:∀ i,c≤i→i < n→t i c=0) :
  ∃ z:Nat→Int,pS n (n+1) t z∧z c=1∧z n=0:=by
 refine ⟨fun j=>if j < c then - t j c else if j=c then 1 else 0,fun i hi=>?_,by simp,by simp;omega⟩
 have:ip (n+1) (t i) (fun j=>if j < c then - t j c else if j=c then 1 else 0)=0:=by
  unfold ip
  by_cases l:i < c
  ·rw [tN i c (n+1) l (by omega) fun j hj n1 n2=>?_]
   ·simp [l,h.one i l];omega
   ·by_cases l2:j < c
    ·rw [h.nu i j hi l2 (Ne.symm n1)];simp
    ·simp [l2,n2]
  ·refine qR _ fun j hj=>?_
   by_cases l2:j < c
   ·rw [h.nu i j hi l2 (by omega)];simp
   ·by_cases e:j=c
    ·subst e;rw [hz i (by omega) hi];simp
    ·simp [l2,e]
 rw [this];exact ⟨0,by simp⟩
theorem DV:∀ (n:Nat) (al:Nat→Int) (x:Nat→Int),(∀ i,i < n→¬ (97:Int) ∣ al i)→(∀ i j,i < n→j < n→i≠j→¬ (97:Int) ∣ al i - al j) →
  (∀ j,j < n→(97:Int) ∣ sumTo n fun i=>al i ^ (j+1) * x i)→∀ i,i < n→(97:Int) ∣ x i
 | 0,_,_,_,_,_,i,hi=>by omega
 | n+1,al,x,h0,hd,hk,i,hi=>by
  have hy:∀ i,i < n→(97:Int) ∣ (al i - al n) * x i:=by
   refine DV n al (fun i=>(al i - al n) * x i) (fun i hi=>h0 i (by omega)) (fun i j hi hj=>hd i j (by omega) (by omega)) fun j hj=>?_
   have h1:=hk (j+1) (by omega)
   have h2:(97:Int) ∣ al n * sumTo (n+1) fun i=>al i ^ (j+1) * x i:=Int.dvd_trans (hk j (by omega)) (Int.dvd_mul_left _ _)
   have h3:=Int.dvd_sub h1 h2
   have e:(sumTo (n+1) fun i=>al i ^ (j+1+1) * x i) - al n * (sumTo (n+1) fun i=>al i ^ (j+1) * x i)=sumTo n fun i=>al i ^ (j+1) * ((al i - al n) * x i):=by
    rw [sumTo,sumTo]
    have:=dS 1 (- al n) (fun i=>al i ^ (j+1+1) * x i) (fun i=>al i ^ (j+1) * x i) n
    rw [show (sumTo n fun i=>al i ^ (j+1) * ((al i - al n) * x i))=sumTo n (fun i=>1 * (al i ^ (j+1+1) * x i)+- al n * (al i ^ (j+1) * x i)) from bE n fun i _=>by rw [Int.pow_succ (al i) (j+1)];grind,this,Int.pow_succ (al n) (j+1)]
    grind
   rwa [e] at h3
  have hx:∀ i,i < n→(97:Int) ∣ x i:=fun i hi=>prime (hy i hi) (hd i n (by omega) (by omega) (by omega))
  by_cases e:i=n
  ·subst e
   have h1:=hk 0 (by omega)
   rw [sumTo] at h1
   have h2:(97:Int) ∣ sumTo i fun k=>al k ^ (0+1) * x k:=gS i fun k hk=>Int.dvd_trans (hx k hk) (Int.dvd_mul_left _ _)
   have h3:=Int.dvd_sub h1 h2
   rw [show (sumTo i fun k=>al k ^ (0+1) * x k)+al i ^ (0+1) * x i - (sumTo i fun k=>al k ^ (0+1) * x k)=al i * x i by rw [Int.pow_succ];grind] at h3
   exact prime h3 (h0 i (by omega))
  ·exact hx i (by omega)
end My
namespace My
def T (x:Int) (n:Nat) (f:Nat→Int):Int:=sumTo n (fun i=>f i * x ^ i) % 97
theorem Wf (x:Int) (n:Nat) (f:Nat→Int):0≤T x n f:=Int.emod_nonneg _ (by decide)
theorem Wg (x:Int) (n:Nat) (f:Nat→Int):T x n f < 97:=Int.emod_lt_of_pos _ (by decide)
theorem Ly {x:Int} {n:Nat} {f g:Nat→Int} (h:∀ i,i < n→f i=g i):T x n f=T x n g:=by
 unfold T
 rw [bE n fun j hj=>by rw [h j hj]]
theorem tO {x:Int} {n:Nat} {f:Nat→Int}:T x n f=0↔(97:Int) ∣ sumTo n (fun i=>f i * x ^ i):=by
 unfold T
 omega
def St (j:Nat):Int:=([5,25,28,43,21,8]:List Int).getD j 0
theorem Wh:∀ j:Nat,j < 6→P 5 (1+(j:Int))=St j:=by decide
def hv (f:Nat→Int) (n:Nat) (x:Int):Nat→Int
 | 0=>0
 | i+1=>(hv f n x i * x+f (n - 1 - i)) % 97
theorem Nz (f:Nat→Int) (n:Nat) (x:Int) (i:Nat):0≤hv f n x i:=by
 cases i with
 | zero=>exact Int.le_refl _
 | succ i=>exact Int.emod_nonneg _ (by decide)
theorem N0 (f:Nat→Int) (n:Nat) (x:Int) (i:Nat):hv f n x i < 97:=by
 cases i with
 | zero=>exact (by decide:(0:Int) < 97)
 | succ i=>exact Int.emod_lt_of_pos _ (by decide)
theorem Jf (f:Nat→Int) (n:Nat) (x:Int):∀ i,i≤n→(97:Int) ∣ hv f n x i - sumTo i (fun k=>f (n - i+k) * x ^ k)
 | 0,_=>by simp [hv,sumTo]
 | i+1,h=>by
  obtain ⟨a,ha⟩:=Jf f n x i (by omega)
  have e:sumTo (i+1) (fun k=>f (n - (i+1)+k) * x ^ k)=f (n - 1 - i)+x * sumTo i (fun k=>f (n - i+k) * x ^ k):=by
   rw [gR,← pR]
   have e1:f (n - (i+1)+0) * x ^ 0=f (n - 1 - i):=by
    rw [show n - (i+1)+0=n - 1 - i by omega];simp
   rw [e1]
   congr 1
   refine bE i fun j hj=>?_
   rw [show n - (i+1)+(j+1)=n - i+j by omega,Int.pow_succ]
   grind
  rw [e,hv]
  generalize sumTo i (fun k=>f (n - i+k) * x ^ k)=S at ha
  have hq:hv f n x i=S+97 * a:=by omega
  rw [hq,Int.emod_def]
  exact ⟨a * x - ((S+97 * a) * x+f (n - 1 - i)) / 97,by grind⟩
theorem Wj (f:Nat→Int) (n:Nat) (x:Int):hv f n x n=T x n f:=by
 have h:=Jf f n x n (Nat.le_refl n)
 rw [bE n (g:=fun k=>f k * x ^ k) fun j hj=>by rw [show n - n+j=j by omega]] at h
 have h0:=Nz f n x n
 have h1:=N0 f n x n
 unfold T
 omega
def Dv (k:Nat):Int:=([21,80,53,2,55,63]:List Int).getD k 0
def rs (f:Nat→Int):Nat→Nat→Int
 | 0,_=>0
 | m+1,k=>((if k < 5 then rs f m (k+1) else 0) - (rs f m 0+f m) * Dv k) % 97
theorem Sy (f:Nat→Int) (m k:Nat):0≤rs f m k:=by
 cases m with
 | zero=>exact Int.le_refl _
 | succ m=>exact Int.emod_nonneg _ (by decide)
theorem Sz (f:Nat→Int) (m k:Nat):rs f m k < 97:=by
 cases m with
 | zero=>exact (by decide:(0:Int) < 97)
 | succ m=>exact Int.emod_lt_of_pos _ (by decide)
def six (y:Int) (r:Nat→Int):Int:=r 0+r 1 * y+r 2 * (y * y)+r 3 * (y * y * y)+r 4 * (y * y * y * y)+r 5 * (y * y * y * y * y)
theorem Jg:∀ j < 6,(97:Int) ∣ 1+St j * six (St j) Dv:=by decide
theorem Lz {y pm S fm a b:Int} {r:Nat→Int} (ha:pm * six y r - S=97 * a) (hb:1+y * six y Dv=97 * b) :
  (97:Int) ∣ pm * y * six y (fun k=>((if k < 5 then r (k+1) else 0) - (r 0+fm) * Dv k) % 97) - (S+fm * pm):=by
 simp only [six] at *
 simp only [show (0:Nat) < 5 by decide,show (1:Nat) < 5 by decide,show (2:Nat) < 5 by decide,show (3:Nat) < 5 by decide,show (4:Nat) < 5 by decide,show ¬ (5:Nat) < 5 by decide,if_true,if_false,Int.emod_def]
 generalize (r (0+1) - (r 0+fm) * Dv 0) / 97=q0
 generalize (r (1+1) - (r 0+fm) * Dv 1) / 97=q1
 generalize (r (2+1) - (r 0+fm) * Dv 2) / 97=q2
 generalize (r (3+1) - (r 0+fm) * Dv 3) / 97=q3
 generalize (r (4+1) - (r 0+fm) * Dv 4) / 97=q4
 generalize ((0:Int) - (r 0+fm) * Dv 5) / 97=q5
 generalize r 0=r0 at *
 generalize r (0+1)=r1 at *
 generalize r (1+1)=r2 at *
 generalize r (2+1)=r3 at *
 generalize r (3+1)=r4 at *
 generalize r (4+1)=r5 at *
 generalize Dv 0=d0 at *
 generalize Dv 1=d1 at *
 generalize Dv 2=d2 at *
 generalize Dv 3=d3 at *
 generalize Dv 4=d4 at *
 generalize Dv 5=d5 at *
 have e:pm * y * (r1 - (r0+fm) * d0 - 97 * q0+(r2 - (r0+fm) * d1 - 97 * q1) * y+(r3 - (r0+fm) * d2 - 97 * q2) * (y * y)+(r4 - (r0+fm) * d3 - 97 * q3) * (y * y * y)+(r5 - (r0+fm) * d4 - 97 * q4) * (y * y * y * y)+(0 - (r0+fm) * d5 - 97 * q5) * (y * y * y * y * y)) - (S+fm * pm)
   = (pm * (r0+r1 * y+r2 * (y * y)+r3 * (y * y * y)+r4 * (y * y * y * y)+r5 * (y * y * y * y * y)) - S) - pm * (r0+fm) * (1+y * (d0+d1 * y+d2 * (y * y)+d3 * (y * y * y)+d4 * (y * y * y * y)+d5 * (y * y * y * y * y))) - 97 * (pm * (q0 * y+q1 * (y * y)+q2 * (y * y * y)+q3 * (y * y * y * y)+q4 * (y * y * y * y * y)+q5 * (y * y * y * y * y * y))):=by grind
 rw [e,ha,hb]
 exact ⟨a - pm * (r0+fm) * b - pm * (q0 * y+q1 * (y * y)+q2 * (y * y * y)+q3 * (y * y * y * y)+q4 * (y * y * y * y * y)+q5 * (y * y * y * y * y * y)),by grind⟩
theorem Jh {y:Int} (hy:(97:Int) ∣ 1+y * six y Dv) (f:Nat→Int):∀ m,(97:Int) ∣ y ^ m * six y (rs f m) - sumTo m (fun i=>f i * y ^ i)
 | 0=>by simp [six,rs,sumTo]
 | m+1=>by
  obtain ⟨a,ha⟩:=Jh hy f m
  obtain ⟨b,hb⟩:=hy
  rw [sumTo,Int.pow_succ]
  exact Lz ha hb
def lI (f:Nat→Int) (i:Nat):Int:=if i < 18 then f i else -(rs f 18 (i - 18)) % 97
theorem L0 {f:Nat→Int} (h:∀ i,i < 18→0≤f i∧f i < 97) (i:Nat):0≤lI f i∧lI f i < 97:=by
 unfold lI
 split
 ·rename_i h1;exact h i h1
 ·exact ⟨Int.emod_nonneg _ (by decide),Int.emod_lt_of_pos _ (by decide)⟩
theorem zH (f:Nat→Int) (n:Nat):∀ m,sumTo (n+m) f=sumTo n f+sumTo m (fun i=>f (n+i))
 | 0=>by simp [sumTo]
 | m+1=>by rw [← Nat.add_assoc,sumTo,zH f n m,sumTo];omega
theorem L3 (y:Int) (r:Nat→Int):sumTo 6 (fun k=>r k * y ^ k)=six y r:=by
 simp only [sumTo,six,Int.pow_succ,Int.pow_zero]
 grind
theorem L6 {y:Int} (hy:(97:Int) ∣ 1+y * six y Dv) (f:Nat→Int):T y 24 (lI f)=0:=by
 rw [tO,show (24:Nat)=18+6 from rfl,zH]
 have e1:sumTo 18 (fun i=>lI f i * y ^ i)=sumTo 18 (fun i=>f i * y ^ i):=bE 18 fun j hj=>by rw [lI,if_pos hj]
 have e2:sumTo 6 (fun i=>lI f (18+i) * y ^ (18+i))=y ^ 18 * six y (fun k=>-(rs f 18 k) % 97):=by
  rw [← L3,← pR]
  refine bE 6 fun j hj=>?_
  rw [lI,if_neg (by omega),Int.pow_add,show 18+j - 18=j by omega]
  grind
 rw [e1,e2]
 obtain ⟨a,ha⟩:=Jh hy f 18
 generalize sumTo 18 (fun i=>f i * y ^ i)=S at *
 generalize y ^ 18=pm at *
 generalize rs f 18=r at *
 simp only [six,Int.emod_def] at *
 generalize (-(r 0)) / 97=q0
 generalize (-(r 1)) / 97=q1
 generalize (-(r 2)) / 97=q2
 generalize (-(r 3)) / 97=q3
 generalize (-(r 4)) / 97=q4
 generalize (-(r 5)) / 97=q5
 refine ⟨-a - pm * (q0+q1 * y+q2 * (y * y)+q3 * (y * y * y)+q4 * (y * y * y * y)+q5 * (y * y * y * y * y)),?_⟩
 grind
def bq (f:Nat→Int):Prop:=∀ j,j < 6→T (St j) 24 f=0
theorem AB (f:Nat→Int):bq (lI f):=fun j hj=>L6 (Jg j hj) f
theorem fg {y:Int} (h:¬ (97:Int) ∣ y):∀ n:Nat,¬ (97:Int) ∣ y ^ n
 | 0=>by rw [Int.pow_zero];decide
 | n+1=>fun z=>by
  rw [Int.pow_succ] at z
  exact h (prime z (fg h n))
end My
namespace My
def fG (n:Nat) (f g:Nat→Int):List Nat:=(List.range n).filter fun i=>!decide (f i=g i)
theorem HA (n:Nat) (f g:Nat→Int):fG (n+1) f g=if f n=g n then fG n f g else fG n f g ++ [n]:=by
 unfold fG
 rw [List.range_succ,List.filter_append]
 by_cases h:f n=g n <;> simp [h]
theorem cE {n:Nat} {f g:Nat→Int} {i:Nat}:i ∈ fG n f g↔i < n∧f i≠g i:=by
 unfold fG
 simp
theorem gT (n:Nat) (f g:Nat→Int):(fG n f g).Nodup:=List.Pairwise.filter _ List.nodup_range
def lsum (l:List Nat) (h:Nat→Int):Int:=sumTo l.length fun k=>h (l.getD k 0)
theorem lsum_snoc (l:List Nat) (n:Nat) (h:Nat→Int):lsum (l ++ [n]) h=lsum l h+h n:=by
 unfold lsum
 rw [List.length_append,List.length_singleton,sumTo]
 congr 1
 ·refine bE _ fun j hj=>?_
  simp [List.getD,List.getElem?_append_left hj]
 ·simp [List.getD]
theorem Ji (n:Nat) (f g:Nat→Int) (h:Nat→Int) (hz:∀ i,i < n→f i=g i→h i=0):sumTo n h=lsum (fG n f g) h:=by
 induction n with
 | zero=>rfl
 | succ n ih =>
  rw [sumTo,ih fun i hi=>hz i (by omega),HA]
  by_cases e:f n=g n
  ·rw [if_pos e,hz n (by omega) e];omega
  ·rw [if_neg e,lsum_snoc]
theorem Ph:∀ j:Nat,j < 6→St j=5 ^ (j+1) % 97:=by decide
theorem jB:¬ (97:Int) ∣ 5:=by decide
theorem wC:∀ p:Nat,p < 24→∀ q:Nat,q < 24→p≠q→¬ (97:Int) ∣ 5 ^ p - 5 ^ q:=by decide +kernel
theorem Fi {a b:Int} (h:(97:Int) ∣ a - b):∀ n:Nat,(97:Int) ∣ a ^ n - b ^ n
 | 0=>by simp
 | n+1=>by
  obtain ⟨c,hc⟩:=h
  obtain ⟨d,hd⟩:=Fi ⟨c,hc⟩ n
  rw [Int.pow_succ,Int.pow_succ]
  exact ⟨d * a+b ^ n * c,by
   have e:a ^ n * a - b ^ n * b=(a ^ n - b ^ n) * a+b ^ n * (a - b):=by grind
   rw [e,hd,hc];grind⟩
theorem rq {j p:Nat} (hj:j < 6):(97:Int) ∣ St j ^ p - (5 ^ p) ^ (j+1):=by
 have h:(97:Int) ∣ St j - 5 ^ (j+1):=by rw [Ph j hj];exact ff _
 have:=Fi h p
 rwa [← Int.pow_mul,Nat.mul_comm,Int.pow_mul] at this
theorem Jj {l:List Nat} {z:Nat→Int} (hn:l.Nodup) (hb:∀ p ∈ l,p < 24) (hl:l.length≤6) (hs:∀ j,j < l.length→(97:Int) ∣ lsum l fun p=>z p * St j ^ p):∀ p ∈ l,(97:Int) ∣ z p:=by
 intro p hp
 obtain ⟨k,hk,rfl⟩:=List.getElem_of_mem hp
 have e:∀ k,(h:k < l.length)→l.getD k 0=l[k]:=fun k h=>by simp [List.getD,h]
 rw [← e k hk]
 refine DV l.length (fun k=>5 ^ l.getD k 0) (fun k=>z (l.getD k 0)) (fun i _=>fg jB _) (fun i j hi hj Wk=>?_) (fun j hj=>?_) k hk
 ·refine wC _ (hb _ (by rw [e i hi];exact List.getElem_mem _)) _ (hb _ (by rw [e j hj];exact List.getElem_mem _)) fun q=>Wk ?_
  rw [e i hi,e j hj] at q
  exact (List.getElem_inj hn).mp q
 ·have h1:=hs j hj
  unfold lsum at h1
  have h2:(97:Int) ∣ (sumTo l.length fun k=>(5 ^ l.getD k 0) ^ (j+1) * z (l.getD k 0)) - sumTo l.length fun k=>z (l.getD k 0) * St j ^ l.getD k 0:=by
   have h3:=dS 1 (-1) (fun k=>(5 ^ l.getD k 0) ^ (j+1) * z (l.getD k 0)) (fun k=>z (l.getD k 0) * St j ^ l.getD k 0) l.length
   have h4:(97:Int) ∣ sumTo l.length fun k=>1 * ((5 ^ l.getD k 0) ^ (j+1) * z (l.getD k 0))+-1 * (z (l.getD k 0) * St j ^ l.getD k 0):=gS _ fun k _=>by
    obtain ⟨c,hc⟩:=rq (p:=l.getD k 0) (show j < 6 by omega)
    refine ⟨-(c * z (l.getD k 0)),?_⟩
    generalize St j ^ l.getD k 0=A at *
    generalize ((5:Int) ^ l.getD k 0) ^ (j+1)=B at *
    have:B=A - 97 * c:=by omega
    rw [this];grind
   rw [h3] at h4
   have e5:∀ a b:Int,1 * a+-1 * b=a - b:=fun a b=>by omega
   rw [e5] at h4
   exact h4
  have h5:=Int.dvd_add h2 h1
  rwa [Int.sub_add_cancel] at h5
theorem Bm {n:Nat} {f g:Nat→Int} (y:Int):sumTo n (fun i=>f i * y ^ i) - sumTo n (fun i=>g i * y ^ i)=lsum (fG n f g) fun i=>(f i - g i) * y ^ i:=by
 rw [← Ji n f g _ fun i _ e=>by rw [e];grind]
 have h1:=dS 1 (-1) (fun i=>f i * y ^ i) (fun i=>g i * y ^ i) n
 have h2:sumTo n (fun j=>1 * (f j * y ^ j)+-1 * (g j * y ^ j))=sumTo n fun i=>(f i - g i) * y ^ i:=bE n fun j _=>by grind
 rw [← h2,h1];omega
theorem N1 {f g:Nat→Int} (bf:∀ i,i < 24→0≤f i∧f i < 97) (bg:∀ i,i < 24→0≤g i∧g i < 97) (hf:bq f) (hg:bq g) (h:(fG 24 f g).length≤6):∀ i,i < 24→f i=g i:=by
 intro i hi
 apply Classical.byContradiction
 intro K4
 have hm:i ∈ fG 24 f g:=cE.mpr ⟨hi,K4⟩
 have:=Jj (z:=fun i=>f i - g i) (gT _ _ _) (fun p hp=>(cE.mp hp).1) h (fun j hj=>by
  have h1:=tO.mp (hf j (by omega))
  have h2:=tO.mp (hg j (by omega))
  rw [← Bm]
  exact Int.dvd_sub h1 h2) i hm
 have b1:=bf i hi
 have b2:=bg i hi
 omega
theorem bq.congr {f g:Nat→Int} (h:∀ i,i < 24→f i=g i) (hf:bq f):bq g:=fun j hj=>by rw [← Ly h];exact hf j hj
theorem bq.Pj {f:Nat→Int} (h:∀ j,j < 6→(97:Int) ∣ sumTo 24 fun i=>f i * St j ^ i):bq fun i=>f i % 97:=fun j hj=>by
 rw [tO]
 have h1:=dS 1 (-1) (fun i=>f i * St j ^ i) (fun i=>f i % 97 * St j ^ i) 24
 have h2:(97:Int) ∣ sumTo 24 fun i=>1 * (f i * St j ^ i)+-1 * (f i % 97 * St j ^ i):=gS _ fun i _=>by
  rw [Int.emod_def]
  exact ⟨f i / 97 * St j ^ i,by grind⟩
 rw [h1] at h2
 have h3:=h j hj
 omega
theorem bq.times {f:Nat→Int} (hf:bq f) (c:Int):bq fun i=>f i * c % 97:=bq.Pj fun j hj=>by
 have h:=tO.mp (hf j hj)
 have e:sumTo 24 (fun i=>f i * c * St j ^ i)=c * sumTo 24 (fun i=>f i * St j ^ i):=by rw [← pR];exact bE _ fun i _=>by grind
 rw [e]
 exact Int.dvd_trans h (Int.dvd_mul_left _ _)
end My
namespace My
theorem gU:∀ (l L:List Nat),l.Nodup→(∀ x ∈ l,x ∈ L)→l.length≤L.length
 | [],_,_,_=>Nat.zero_le _
 | a :: l,L,hn,hs=>by
  have ha:=hs a List.mem_cons_self
  have Qq:=List.nodup_cons.mp hn
  have:=gU l (L.erase a) Qq.2 fun x hx=>(List.mem_erase_of_ne (fun e=>Qq.1 (by rw [← e];exact hx))).mpr (hs x (List.mem_cons_of_mem _ hx))
  rw [List.length_erase_of_mem ha] at this
  have hp:0 < L.length:=List.length_pos_of_mem ha
  rw [List.length_cons]
  omega
theorem Bn (n:Nat) (f g:Nat→Int):(fG n f g).Pairwise (· < ·):=List.Pairwise.filter _ List.pairwise_lt_range
theorem di {p q:Nat} (hp:p < 24) (hq:q < 24) (h:p≠q):¬ (97:Int) ∣ 5 ^ p - 5 ^ q:=wC p hp q hq h
def M (s:Nat→Int):nU:=fun i j=>if j=0 then s (i+1) else -(s i) % 97
theorem S0 (s z:Nat→Int) (i:Nat):(97:Int) ∣ ip 2 (M s i) z - (s (i+1) * z 0 - s i * z 1):=by
 have e:ip 2 (M s i) z=s (i+1) * z 0+-(s i) % 97 * z 1:=by simp [ip,sumTo,M]
 rw [e,Int.emod_def]
 exact ⟨-((-(s i)) / 97 * z 1),by grind⟩
theorem DW {s:Nat→Int} (h:¬ (97:Int) ∣ s 0 * s 2 - s 1 * s 1):vT 2 (M s):=fun z hz j hj=>by
 have k0:=Int.dvd_sub (hz 0 (by decide)) (S0 s z 0)
 have k1:=Int.dvd_sub (hz 1 (by decide)) (S0 s z 1)
 rw [Int.sub_sub_self] at k0 k1
 obtain ⟨a,ha⟩:=k0
 obtain ⟨b,hb⟩:=k1
 match j,hj with
 | 0,_ =>
  refine prime (a:=s 0 * s 2 - s 1 * s 1) ⟨s 0 * b - s 1 * a,?_⟩ h
  have e:(s 0 * s 2 - s 1 * s 1) * z 0=s 0 * (s (1+1) * z 0 - s 1 * z 1) - s 1 * (s (0+1) * z 0 - s 0 * z 1):=by grind
  rw [e,ha,hb];grind
 | 1,_ =>
  refine prime (a:=s 0 * s 2 - s 1 * s 1) ⟨s 1 * b - s 2 * a,?_⟩ h
  have e:(s 0 * s 2 - s 1 * s 1) * z 1=s 1 * (s (1+1) * z 0 - s 1 * z 1) - s 2 * (s (0+1) * z 0 - s 0 * z 1):=by grind
  rw [e,ha,hb];grind
theorem L7 {s:Nat→Int} {X:Int} (h0:(97:Int) ∣ s 1 - s 0 * X) (h1:(97:Int) ∣ s 2 - s 1 * X):¬ vT 2 (M s):=fun r=>by
 have:=r (fun j=>if j=0 then 1 else X) (fun i hi=>by
  have k:=S0 s (fun j=>if j=0 then 1 else X) i
  have h:(97:Int) ∣ s (i+1) * (if (0:Nat)=0 then 1 else X) - s i * (if (1:Nat)=0 then 1 else X):=by
   match i,hi with
   | 0,_=>simpa using h0
   | 1,_=>simpa using h1
  have:=Int.dvd_add k h
  rwa [Int.sub_add_cancel] at this) 0 (by decide)
 have h1:(97:Int) ∣ 1:=this
 exact absurd h1 (by decide)
theorem L8 {s:Nat→Int} {e d X Y:Int} (h:∀ j,j < 4→(97:Int) ∣ s j - (e * X ^ (j+1)+d * Y ^ (j+1))):(97:Int) ∣ (s 0 * s 2 - s 1 * s 1) - e * d * (X * Y) * ((X - Y) * (X - Y)):=by
 obtain ⟨a,ha⟩:=h 0 (by decide)
 obtain ⟨b,hb⟩:=h 1 (by decide)
 obtain ⟨c,hc⟩:=h 2 (by decide)
 simp only [Int.pow_succ,Int.pow_zero,Int.one_mul,Nat.zero_add] at ha hb hc
 have e0:s 0=e * X+d * Y+97 * a:=by omega
 have e1:s 1=e * (X * X)+d * (Y * Y)+97 * b:=by omega
 have e2:s 2=e * (X * X * X)+d * (Y * Y * Y)+97 * c:=by omega
 rw [e0,e1,e2]
 exact ⟨(e * X+d * Y) * c+a * (e * (X * X * X)+d * (Y * Y * Y))+97 * a * c - 2 * (e * (X * X)+d * (Y * Y)) * b - 97 * b * b,by grind⟩
theorem Jk {s x:Nat→Int} {e d X Y:Int} (r:vT 2 (M s)) (h:∀ j,j < 4→(97:Int) ∣ s j - (e * X ^ (j+1)+d * Y ^ (j+1))) (hx:∀ i,i < 2→(97:Int) ∣ ip 2 (M s i) x - s (i+2)) :
  (97:Int) ∣ x 0 - (X+Y)∧(97:Int) ∣ x 1 - X * Y:=by
 have k:pS 2 2 (M s) fun j=>if j=0 then x 0 - (X+Y) else x 1 - X * Y:=fun i hi=>by
  have k1:=S0 s (fun j=>if j=0 then x 0 - (X+Y) else x 1 - X * Y) i
  have k2:=Int.dvd_sub (hx i hi) (S0 s x i)
  have k3:(97:Int) ∣ s (i+2) - (s (i+1) * (X+Y) - s i * (X * Y)):=by
   obtain ⟨a,ha⟩:=h i (by omega)
   obtain ⟨b,hb⟩:=h (i+1) (by omega)
   obtain ⟨c,hc⟩:=h (i+2) (by omega)
   rw [Int.pow_succ X (i+2),Int.pow_succ X (i+1),Int.pow_succ Y (i+2),Int.pow_succ Y (i+1)] at hc
   rw [Int.pow_succ X (i+1),Int.pow_succ Y (i+1)] at hb
   generalize X ^ (i+1)=A at *
   generalize Y ^ (i+1)=B at *
   have e0:s i=e * A+d * B+97 * a:=by omega
   have e1:s (i+1)=e * (A * X)+d * (B * Y)+97 * b:=by omega
   have e2:s (i+2)=e * (A * X * X)+d * (B * Y * Y)+97 * c:=by omega
   rw [e0,e1,e2]
   exact ⟨c - b * (X+Y)+a * (X * Y),by grind⟩
  have e1:(if (0:Nat)=0 then x 0 - (X+Y) else x 1 - X * Y)=x 0 - (X+Y):=rfl
  have e2:(if (1:Nat)=0 then x 0 - (X+Y) else x 1 - X * Y)=x 1 - X * Y:=rfl
  rw [e1,e2] at k1
  generalize ip 2 (M s i) (fun j=>if j=0 then x 0 - (X+Y) else x 1 - X * Y)=I at *
  generalize ip 2 (M s i) x=J at *
  obtain ⟨a,ha⟩:=k1
  obtain ⟨b,hb⟩:=k2
  obtain ⟨c,hc⟩:=k3
  refine ⟨a+b+c,?_⟩
  have:I=97 * a+(s (i+1) * (x 0 - (X+Y)) - s i * (x 1 - X * Y)):=by omega
  have e3:s (i+1) * (x 0 - (X+Y)) - s i * (x 1 - X * Y)=(s (i+1) * x 0 - s i * x 1) - (s (i+1) * (X+Y) - s i * (X * Y)):=by grind
  omega
 exact ⟨r _ k 0 (by decide),r _ k 1 (by decide)⟩
def Fj (t u:Int) (k:Nat):Bool:=decide ((P 5 k * P 5 k - t * P 5 k+u) % 97=0)
def roots (t u:Int):List Nat:=(List.range 24).filter (Fj t u)
theorem P5 (k:Nat):(97:Int) ∣ P 5 k - 5 ^ k:=by
 unfold P
 rw [Int.toNat_natCast]
 exact ff _
theorem Jl {t u X Y:Int} {k:Nat} (ht:(97:Int) ∣ t - (X+Y)) (hu:(97:Int) ∣ u - X * Y):Fj t u k=true↔(97:Int) ∣ (5 ^ k - X) * (5 ^ k - Y):=by
 obtain ⟨a,ha⟩:=ht
 obtain ⟨b,hb⟩:=hu
 obtain ⟨c,hc⟩:=P5 k
 unfold Fj
 rw [decide_eq_true_iff]
 generalize (5:Int) ^ k=V at *
 have e0:t=X+Y+97 * a:=by omega
 have e1:u=X * Y+97 * b:=by omega
 have e2:P 5 k=V+97 * c:=by omega
 have e3:P 5 k * P 5 k - t * P 5 k+u=(V - X) * (V - Y)+97 * (2 * V * c+97 * c * c - (X+Y) * c - a * (V+97 * c)+b):=by rw [e0,e1,e2];grind
 rw [e3]
 generalize (V - X) * (V - Y)=W
 omega
theorem HB (t u:Int):(roots t u).length≤2:=by
 apply Classical.byContradiction
 intro h
 have hl:2 < (roots t u).length:=by omega
 have nd:(roots t u).Nodup:=List.Pairwise.filter _ List.nodup_range
 have at_:∀ (i:Nat) (hi:i < (roots t u).length),(roots t u)[i] < 24∧(97:Int) ∣ 5 ^ (roots t u)[i] * 5 ^ (roots t u)[i] - t * 5 ^ (roots t u)[i]+u:=fun i hi=>by
  have hm:(roots t u)[i] ∈ roots t u:=List.getElem_mem _
  generalize (roots t u)[i]=k at hm
  unfold roots at hm
  rw [List.mem_filter,List.mem_range] at hm
  refine ⟨hm.1,?_⟩
  have h2:=of_decide_eq_true hm.2
  obtain ⟨c,hc⟩:=P5 k
  generalize (5:Int) ^ k=V at *
  have e2:P 5 k=V+97 * c:=by omega
  have e3:P 5 k * P 5 k - t * P 5 k+u=V * V - t * V+u+97 * (2 * V * c+97 * c * c - t * c):=by rw [e2];grind
  omega
 obtain ⟨a0,a1⟩:=at_ 0 (by omega)
 obtain ⟨b0,b1⟩:=at_ 1 (by omega)
 obtain ⟨c0,c1⟩:=at_ 2 (by omega)
 have n01:(roots t u)[0]≠(roots t u)[1]:=fun e=>absurd ((List.getElem_inj nd).mp e) (by decide)
 have n02:(roots t u)[0]≠(roots t u)[2]:=fun e=>absurd ((List.getElem_inj nd).mp e) (by decide)
 have Wl:(roots t u)[1]≠(roots t u)[2]:=fun e=>absurd ((List.getElem_inj nd).mp e) (by decide)
 have f01:=di a0 b0 n01
 have f02:=di a0 c0 n02
 have f12:=di b0 c0 Wl
 generalize (5:Int) ^ (roots t u)[0]=A at *
 generalize (5:Int) ^ (roots t u)[1]=B at *
 generalize (5:Int) ^ (roots t u)[2]=C at *
 have k1:(97:Int) ∣ (A - B) * (A+B - t):=by
  have:=Int.dvd_sub a1 b1
  rwa [show A * A - t * A+u - (B * B - t * B+u)=(A - B) * (A+B - t) by grind] at this
 have k2:(97:Int) ∣ (A - C) * (A+C - t):=by
  have:=Int.dvd_sub a1 c1
  rwa [show A * A - t * A+u - (C * C - t * C+u)=(A - C) * (A+C - t) by grind] at this
 have k3:=prime k1 f01
 have k4:=prime k2 f02
 have:=Int.dvd_sub k3 k4
 rw [show A+B - t - (A+C - t)=B - C by omega] at this
 exact f12 this
theorem DX:∀ p:Nat,p < 24→∀ q:Nat,q < 24→p < q→(List.range 24).filter (fun k=>decide (k=p∨k=q))=[p,q]:=by decide +kernel
structure Jm (s:Nat→Int) (ps:List Nat):Prop where
 nd:ps.Nodup
 b:∀ p ∈ ps,p < 24
 xo:ps.length≤2
 one:∀ (e:Int) (p:Nat),p < 24→¬ (97:Int) ∣ e→(∀ j,j < 4→(97:Int) ∣ s j - e * (5 ^ p) ^ (j+1))→ps=[p]
 two:∀ (e d:Int) (p q:Nat),p < q→q < 24→¬ (97:Int) ∣ e→¬ (97:Int) ∣ d→(∀ j,j < 4→(97:Int) ∣ s j - (e * (5 ^ p) ^ (j+1)+d * (5 ^ q) ^ (j+1)))→ps=[p,q]
theorem DY {s:Nat→Int} {e X:Int} (h:∀ j,j < 4→(97:Int) ∣ s j - e * X ^ (j+1)) (j:Nat) (hj:j < 3):(97:Int) ∣ s (j+1) - s j * X:=by
 obtain ⟨a,ha⟩:=h j (by omega)
 obtain ⟨b,hb⟩:=h (j+1) (by omega)
 rw [Int.pow_succ X (j+1)] at hb
 generalize X ^ (j+1)=A at *
 have e0:s j=e * A+97 * a:=by omega
 have e1:s (j+1)=e * (A * X)+97 * b:=by omega
 rw [e0,e1]
 exact ⟨b - a * X,by grind⟩
theorem iC {a b:Int} (ha:¬ (97:Int) ∣ a) (hb:¬ (97:Int) ∣ b):¬ (97:Int) ∣ a * b:=fun z=>hb (prime z ha)
theorem L9 {s:Nat→Int} {e d:Int} {p q:Nat} (Lx:p < q) (hq:q < 24) (he:¬ (97:Int) ∣ e) (hd:¬ (97:Int) ∣ d) (h:∀ j,j < 4→(97:Int) ∣ s j - (e * (5 ^ p) ^ (j+1)+d * (5 ^ q) ^ (j+1))):vT 2 (M s):=by
 refine DW fun z=>?_
 have k:=Int.dvd_sub z (L8 h)
 rw [Int.sub_sub_self] at k
 have f:=di (by omega:p < 24) hq (by omega)
 exact iC (iC (iC he hd) (iC (fg jB p) (fg jB q))) (iC f f) k
theorem Jn {s x:Nat→Int} (r:vT 2 (M s)) (hx:∀ i,i < 2→(97:Int) ∣ ip 2 (M s i) x - s (i+2)):Jm s (roots (x 0) (x 1)) where
 nd:=List.Pairwise.filter _ List.nodup_range
 b:=fun p hp=>List.mem_range.mp (List.mem_filter.mp hp).1
 xo:=HB _ _
 one:=fun e p hp he h=>absurd r (L7 (X:=5 ^ p) (DY h 0 (by decide)) (DY h 1 (by decide)))
 two:=fun e d p q Lx hq he hd h=>by
  obtain ⟨ht,hu⟩:=Jk r h hx
  rw [← DX p (by omega) q hq Lx]
  unfold roots
  apply List.filter_congr
  intro k hk
  have Yw:=List.mem_range.mp hk
  rw [Bool.eq_iff_iff,Jl ht hu,decide_eq_true_iff]
  constructor
  ·intro z
   apply Classical.byContradiction
   intro n
   exact iC (di Yw (by omega) fun e=>n (.inl e)) (di Yw hq fun e=>n (.inr e)) z
  ·rintro (e | e)
   ·rw [e,Int.sub_self,Int.zero_mul];exact Int.dvd_zero _
   ·rw [e,Int.sub_self,Int.mul_zero];exact Int.dvd_zero _
def nv (s:Nat→Int):List Nat:=if s 0=0∨s 1=0 then [] else if ex (s 1 * P (s 0) 95 % 97) < 24 then [(ex (s 1 * P (s 0) 95 % 97)).toNat] else []
theorem Pk:∀ p:Nat,p < 24→ex ((5:Int) ^ p % 97)=p:=by decide +kernel
theorem MA {s:Nat→Int} (bs:∀ j,j < 4→0≤s j∧s j < 97) (r:¬ vT 2 (M s)):Jm s (nv s) where
 nd:=by
  unfold nv
  split
  ·exact List.nodup_nil
  ·split <;> simp
 b:=fun p hp=>by
  unfold nv at hp
  split at hp
  ·cases hp
  ·split at hp
   ·have:=List.mem_singleton.mp hp
    rename_i h
    have:=Jd (s 1 * P (s 0) 95 % 97)
    omega
   ·cases hp
 xo:=by
  unfold nv
  split
  ·exact Nat.zero_le _
  ·split <;> simp
 one:=fun e p hp he h=>by
  have b0:=bs 0 (by decide)
  have b1:=bs 1 (by decide)
  have u0:¬ (97:Int) ∣ s 0:=fun z=>by
   have:=Int.dvd_sub z (h 0 (by decide))
   rw [Int.sub_sub_self] at this
   exact iC he (fg (fg jB p) _) this
  have u1:¬ (97:Int) ∣ s 1:=fun z=>by
   have:=Int.dvd_sub z (h 1 (by decide))
   rw [Int.sub_sub_self] at this
   exact iC he (fg (fg jB p) _) this
  have n0:s 0≠0:=fun z=>u0 (by rw [z];exact Int.dvd_zero _)
  have n1:s 1≠0:=fun z=>u1 (by rw [z];exact Int.dvd_zero _)
  have hv:s 1 * P (s 0) 95 % 97=5 ^ p % 97:=by
   have k:=DY h 0 (by decide)
   have i:=Ny (a:=s 0) (by omega) b0.2
   obtain ⟨c,hc⟩:=k
   have e1:s 1=s 0 * 5 ^ p+97 * c:=by
    have:s (0+1)=s 1:=rfl
    omega
   have e2:P (s 0) 95 * s 0=1+97 * (P (s 0) 95 * s 0 / 97):=by omega
   generalize P (s 0) 95 * s 0 / 97=m at e2
   generalize (5:Int) ^ p=V at *
   have e3:s 1 * P (s 0) 95=V+97 * (m * V+c * P (s 0) 95):=by
    rw [e1]
    have:(s 0 * V+97 * c) * P (s 0) 95=(P (s 0) 95 * s 0) * V+97 * (c * P (s 0) 95):=by grind
    rw [this,e2];grind
   omega
  unfold nv
  rw [if_neg (by omega),hv,Pk p hp,if_pos (by omega),Int.toNat_natCast]
 two:=fun e d p q Lx hq he hd h=>absurd (L9 Lx hq he hd h) r
structure qS (f g:Nat→Int):Prop where
 b:∀ i,i < 24→0≤g i∧g i < 97
 sealed:bq g
 xo:(fG 24 f g).length≤2
theorem zI {f g:Nat→Int} (h:qS f g) {j:Nat} (hj:j < 6):(97:Int) ∣ T (St j) 24 f - lsum (fG 24 f g) fun i=>(f i - g i) * St j ^ i:=by
 rw [← Bm]
 have h1:=tO.mp (h.sealed j hj)
 unfold T
 omega
theorem Bo {f g:Nat→Int} {ps:List Nat} (bf:∀ i,i < 24→0≤f i∧f i < 97) (h:qS f g) (hn:¬ bq f) (hp:Jm (fun j=>T (St j) 24 f) ps):ps=fG 24 f g:=by
 have hs:=fun (j:Nat) (hj:j < 4)=>zI h (show j < 6 by omega)
 have hm:∀ i,i ∈ fG 24 f g→i < 24∧¬ (97:Int) ∣ f i - g i:=fun i hi=>by
  obtain ⟨h1,h2⟩:=cE.mp hi
  have:=bf i h1
  have:=h.b i h1
  exact ⟨h1,by omega⟩
 have so:=Bn 24 f g
 have xo:=h.xo
 match hl:fG 24 f g with
 | [] =>
  exfalso
  refine hn (h.sealed.congr fun i hi=>?_)
  apply Classical.byContradiction
  intro z
  have:=cE.mpr ⟨hi,fun e=>z e.symm⟩
  rw [hl] at this
  cases this
 | [p] =>
  rw [hl] at hs hm
  obtain ⟨p0,p1⟩:=hm p (by simp)
  refine hp.one (f p - g p) p p0 p1 fun j hj=>?_
  have k:=hs j hj
  have e:lsum [p] (fun i=>(f i - g i) * St j ^ i)=(f p - g p) * St j ^ p:=by simp [lsum,sumTo]
  rw [e] at k
  obtain ⟨c,hc⟩:=rq (p:=p) (show j < 6 by omega)
  obtain ⟨a,ha⟩:=k
  generalize St j ^ p=A at *
  generalize ((5:Int) ^ p) ^ (j+1)=B at *
  have e2:A=B+97 * c:=by omega
  rw [e2] at ha
  exact ⟨a+(f p - g p) * c,by
   have:(f p - g p) * (B+97 * c)=(f p - g p) * B+97 * ((f p - g p) * c):=by grind
   omega⟩
 | [p,q] =>
  rw [hl] at hs hm so
  obtain ⟨p0,p1⟩:=hm p (by simp)
  obtain ⟨q0,q1⟩:=hm q (by simp)
  have Lx:p < q:=by simpa using so
  refine hp.two (f p - g p) (f q - g q) p q Lx q0 p1 q1 fun j hj=>?_
  have k:=hs j hj
  have e:lsum [p,q] (fun i=>(f i - g i) * St j ^ i)=(f p - g p) * St j ^ p+(f q - g q) * St j ^ q:=by simp [lsum,sumTo]
  rw [e] at k
  obtain ⟨c,hc⟩:=rq (p:=p) (show j < 6 by omega)
  obtain ⟨d,hd⟩:=rq (p:=q) (show j < 6 by omega)
  obtain ⟨a,ha⟩:=k
  generalize St j ^ p=A at *
  generalize ((5:Int) ^ p) ^ (j+1)=B at *
  generalize St j ^ q=C at *
  generalize ((5:Int) ^ q) ^ (j+1)=D at *
  have e2:A=B+97 * c:=by omega
  have e3:C=D+97 * d:=by omega
  rw [e2,e3] at ha
  exact ⟨a+(f p - g p) * c+(f q - g q) * d,by
   have:(f p - g p) * (B+97 * c)=(f p - g p) * B+97 * ((f p - g p) * c):=by grind
   have:(f q - g q) * (D+97 * d)=(f q - g q) * D+97 * ((f q - g q) * d):=by grind
   omega⟩
 | _ :: _ :: _ :: _=>rw [hl] at xo;simp at xo
def wD (f:Nat→Int) (ps:List Nat) (x:Nat→Int):Nat→Nat→Int
 | 0=>f
 | k+1=>fun j=>if j=ps.getD k 0 then (wD f ps x k (ps.getD k 0) - x k) % 97 else wD f ps x k j
theorem Jo {f:Nat→Int} (ps:List Nat) (x:Nat→Int) (bf:∀ i,i < 24→0≤f i∧f i < 97):∀ k i,i < 24→0≤wD f ps x k i∧wD f ps x k i < 97
 | 0,i,hi=>bf i hi
 | k+1,i,hi=>by
  unfold wD
  split
  ·exact ⟨Int.emod_nonneg _ (by decide),Int.emod_lt_of_pos _ (by decide)⟩
  ·exact Jo ps x bf k i hi
theorem AD (f:Nat→Int) (ps:List Nat) (x:Nat→Int):∀ k,k≤ps.length→∀ i,i ∉ ps→wD f ps x k i=f i
 | 0,_,i,_=>rfl
 | k+1,hk,i,hi=>by
  unfold wD
  rw [if_neg fun e=>hi (by rw [e];simp [List.getD,show k < ps.length by omega]),AD f ps x k (by omega) i hi]
theorem getD_get {ps:List Nat} {k:Nat} (h:k < ps.length):ps.getD k 0=ps[k]:=by simp [List.getD,h]
theorem Jp (f:Nat→Int) {ps:List Nat} (nd:ps.Nodup) (x:Nat→Int):∀ k,k≤ps.length→(∀ i,i < k→wD f ps x k (ps.getD i 0)=(f (ps.getD i 0) - x i) % 97)∧∀ i,k≤i→i < ps.length→wD f ps x k (ps.getD i 0)=f (ps.getD i 0)
 | 0,_=>⟨fun i hi=>by omega,fun i _ _=>rfl⟩
 | k+1,hk=>by
  obtain ⟨h1,h2⟩:=Jp f nd x k (by omega)
  have ne:∀ i,i < ps.length→i≠k→ps.getD i 0≠ps.getD k 0:=fun i hi hik e=>by
   rw [getD_get hi,getD_get (by omega)] at e
   exact hik ((List.getElem_inj nd).mp e)
  refine ⟨fun i hi=>?_,fun i hi hl=>?_⟩
  ·unfold wD
   by_cases e:i=k
   ·subst e
    rw [if_pos rfl,h2 i (Nat.le_refl _) (by omega)]
   ·rw [if_neg (ne i (by omega) e),h1 i (by omega)]
  ·unfold wD
   rw [if_neg (ne i hl (by omega)),h2 i (by omega) hl]
theorem Fk {ps:List Nat} (nd:ps.Nodup) (hb:∀ p ∈ ps,p < 24):vT ps.length (fun i q=>P 5 ((ps.getD q 0:Nat) * (1+(i:Int)))):=by
 have hg:∀ q,q < ps.length→ps.getD q 0 < 24:=fun q hq=>by rw [getD_get hq];exact hb _ (List.getElem_mem _)
 refine (vT.congr (b:=fun i q=>((5:Int) ^ ps.getD q 0) ^ (i+1)) fun i q hi hq=>?_).mpr ?_
 ·have e:((ps.getD q 0:Nat) * (1+(i:Int))).toNat=ps.getD q 0 * (i+1):=by
   have:((ps.getD q 0:Nat):Int) * (1+(i:Int))=((ps.getD q 0 * (i+1):Nat):Int):=by rw [Int.natCast_mul,Int.natCast_add];congr 1;omega
   rw [this,Int.toNat_natCast]
  show (97:Int) ∣ (5:Int) ^ ((ps.getD q 0:Nat) * (1+(i:Int))).toNat % 97 - _
  rw [e,Int.pow_mul]
  exact ff _
 ·intro z hz i hi
  refine DV ps.length (fun q=>(5:Int) ^ ps.getD q 0) z (fun i _=>fg jB _) (fun i j hi hj Wk=>di (hg i hi) (hg j hj) fun e=>?_) hz i hi
  rw [getD_get hi,getD_get hj] at e
  exact Wk ((List.getElem_inj nd).mp e)
theorem S3 {n:Nat} {a:nU} {b x y:Nat→Int} (hr:vT n a) (hx:∀ i,i < n→(97:Int) ∣ ip n (a i) x - b i) (hy:∀ i,i < n→(97:Int) ∣ ip n (a i) y - b i):∀ i,i < n→(97:Int) ∣ x i - y i:=by
 intro i hi
 refine hr (fun j=>x j - y j) (fun i hi=>?_) i hi
 have e:ip n (a i) (fun j=>x j - y j)=ip n (a i) x - ip n (a i) y:=by
  have:=dS 1 (-1) (fun j=>a i j * x j) (fun j=>a i j * y j) n
  unfold ip
  rw [show sumTo n (fun j=>a i j * (x j - y j))=sumTo n (fun j=>1 * (a i j * x j)+-1 * (a i j * y j)) from bE n fun j _=>by grind,this]
  omega
 rw [e]
 have:=Int.dvd_sub (hx i hi) (hy i hi)
 rwa [show ip n (a i) x - b i - (ip n (a i) y - b i)=ip n (a i) x - ip n (a i) y by omega] at this
theorem DZ {f g x:Nat→Int} {ps:List Nat} (bf:∀ i,i < 24→0≤f i∧f i < 97) (h:qS f g) (hn:¬ bq f) (hp:Jm (fun j=>T (St j) 24 f) ps)
  (hx:∀ i,i < ps.length→(97:Int) ∣ ip ps.length (fun q=>P 5 ((ps.getD q 0:Nat) * (1+(i:Int)))) x - T (St i) 24 f):∀ i,i < 24→wD f ps x ps.length i=g i:=by
 have e:=Bo bf h hn hp
 have xo:=hp.xo
 have hy:∀ i,i < ps.length→(97:Int) ∣ ip ps.length (fun q=>P 5 ((ps.getD q 0:Nat) * (1+(i:Int)))) (fun q=>f (ps.getD q 0) - g (ps.getD q 0)) - T (St i) 24 f:=fun i hi=>by
  have k:=zI h (j:=i) (by omega)
  rw [← e] at k
  have k2:(97:Int) ∣ ip ps.length (fun q=>P 5 ((ps.getD q 0:Nat) * (1+(i:Int)))) (fun q=>f (ps.getD q 0) - g (ps.getD q 0)) - lsum ps fun i'=>(f i' - g i') * St i ^ i':=by
   have h1:=dS 1 (-1) (fun q=>P 5 ((ps.getD q 0:Nat) * (1+(i:Int))) * (f (ps.getD q 0) - g (ps.getD q 0))) (fun q=>(f (ps.getD q 0) - g (ps.getD q 0)) * St i ^ ps.getD q 0) ps.length
   have h2:(97:Int) ∣ sumTo ps.length fun q=>1 * (P 5 ((ps.getD q 0:Nat) * (1+(i:Int))) * (f (ps.getD q 0) - g (ps.getD q 0)))+-1 * ((f (ps.getD q 0) - g (ps.getD q 0)) * St i ^ ps.getD q 0):=gS _ fun q _=>by
    have ee:((ps.getD q 0:Nat) * (1+(i:Int))).toNat=ps.getD q 0 * (i+1):=by
     have:((ps.getD q 0:Nat):Int) * (1+(i:Int))=((ps.getD q 0 * (i+1):Nat):Int):=by rw [Int.natCast_mul,Int.natCast_add];congr 1;omega
     rw [this,Int.toNat_natCast]
    have h3:(97:Int) ∣ P 5 ((ps.getD q 0:Nat) * (1+(i:Int))) - (5 ^ ps.getD q 0) ^ (i+1):=by
     unfold P
     rw [ee,Int.pow_mul]
     exact ff _
    obtain ⟨a,ha⟩:=h3
    obtain ⟨c,hc⟩:=rq (p:=ps.getD q 0) (show i < 6 by omega)
    generalize P 5 ((ps.getD q 0:Nat) * (1+(i:Int)))=A at *
    generalize ((5:Int) ^ ps.getD q 0) ^ (i+1)=B at *
    generalize St i ^ ps.getD q 0=C at *
    have e1:A=B+97 * a:=by omega
    have e2:C=B+97 * c:=by omega
    rw [e1,e2]
    exact ⟨(f (ps.getD q 0) - g (ps.getD q 0)) * (a - c),by grind⟩
   rw [h1] at h2
   have e5:∀ a b:Int,1 * a+-1 * b=a - b:=fun a b=>by omega
   rw [e5] at h2
   exact h2
  have:=Int.dvd_sub k2 k
  omega
 have hu:=S3 (Fk hp.nd hp.b) hx hy
 intro i hi
 by_cases hm:i ∈ ps
 ·obtain ⟨k,hk,rfl⟩:=List.getElem_of_mem hm
  have h1:=(Jp f hp.nd x ps.length (Nat.le_refl _)).1 k hk
  rw [getD_get hk] at h1
  rw [h1]
  have h2:=hu k hk
  rw [getD_get hk] at h2
  have h3:=h.b ps[k] hi
  omega
 ·rw [AD f ps x ps.length (Nat.le_refl _) i hm]
  apply Classical.byContradiction
  intro z
  exact hm (by rw [e];exact cE.mpr ⟨hi,z⟩)
theorem Dc {f x:Nat→Int} {ps:List Nat} (bf:∀ i,i < 24→0≤f i∧f i < 97) (nd:ps.Nodup) (xo:ps.length≤2) (hs:bq (wD f ps x ps.length)):qS f (wD f ps x ps.length) where
 b:=Jo ps x bf ps.length
 sealed:=hs
 xo:=Nat.le_trans (gU _ ps (gT _ _ _) fun i hi=>by
  apply Classical.byContradiction
  intro z
  exact (cE.mp hi).2 (AD f ps x ps.length (Nat.le_refl _) i z).symm) xo
theorem qS.self {f:Nat→Int} (bf:∀ i,i < 24→0≤f i∧f i < 97) (h:bq f):qS f f:=⟨bf,h,by
 have e:fG 24 f f=[]:=by simp [fG]
 rw [e];exact Nat.zero_le _⟩
end My
set_option genInjectivity false
namespace K31
open PySem L2 PyProof.Rows
def top (i:Nat):Stmt:=PySem.Challenge.pw_stormpost_k31_pieces_once_in_order.main.body.getD i (.Pass ⟨0,0,0,0⟩)
abbrev pT:Stmt:=top 10
abbrev j3:Stmt:=top 11
abbrev j4:Stmt:=top 12
abbrev vU:Stmt:=top 13
abbrev pU:Stmt:=top 14
abbrev mF:Stmt:=top 15
abbrev jN:Stmt:=top 16
abbrev hZ:Stmt:=top 17
abbrev j5:Stmt:=top 18
abbrev jO:Stmt:=top 19
abbrev jC:Stmt:=top 20
abbrev lJ:Stmt:=top 21
abbrev i0:Stmt:=top 27
abbrev j6:Stmt:=top 28
abbrev mG:Stmt:=top 29
abbrev jP:Stmt:=top 30
abbrev j7:Stmt:=top 31
abbrev lK:Stmt:=top 32
abbrev ny:Stmt:=top 33
abbrev j8:Stmt:=top 37
abbrev fh:Stmt:=top 38
abbrev mH:Stmt:=top 39
abbrev i4:Stmt:=top 41
abbrev pV:Stmt:=top 42
abbrev dN:Stmt:=top 43
abbrev jQ:Stmt:=top 44
abbrev r8:Stmt:=top 45
abbrev fj:Stmt:=top 47
abbrev fk:Stmt:=top 48
abbrev i5:Stmt:=top 58
abbrev j9:Stmt:=top 61
abbrev fo:Stmt:=top 62
abbrev fq:Stmt:=top 63
abbrev fu:Stmt:=top 64
abbrev kA:Stmt:=top 65
abbrev h8:Stmt:=top 66
abbrev kB:Stmt:=top 67
abbrev kC:Stmt:=top 68
abbrev cu:Stmt:=top 69
abbrev jR:Stmt:=top 70
abbrev dG:Stmt:=top 71
abbrev wF:Stmt:=top 72
def dH:Stmt→List Stmt
 | .ClassDef _ _ _ b _ _ _ _ _ _ _=>b
 | _=>[]
abbrev tP:Stmt:=(dH (top 59)).getD 0 (.Pass ⟨0,0,0,0⟩)
abbrev cQ:Stmt:=(dH (top 59)).getD 1 (.Pass ⟨0,0,0,0⟩)
abbrev n6:Stmt:=(dH (top 59)).getD 2 (.Pass ⟨0,0,0,0⟩)
abbrev dv:Stmt:=(dH (top 59)).getD 3 (.Pass ⟨0,0,0,0⟩)
abbrev tQ:Stmt:=(dH (top 59)).getD 4 (.Pass ⟨0,0,0,0⟩)
abbrev tR:Stmt:=(dH (top 59)).getD 5 (.Pass ⟨0,0,0,0⟩)
abbrev jD:Stmt:=(dH (top 59)).getD 6 (.Pass ⟨0,0,0,0⟩)
abbrev lL:Stmt:=(dH (top 59)).getD 7 (.Pass ⟨0,0,0,0⟩)
abbrev dw:Stmt:=(dH (top 59)).getD 8 (.Pass ⟨0,0,0,0⟩)
abbrev dy:Stmt:=(dH (top 59)).getD 9 (.Pass ⟨0,0,0,0⟩)
abbrev d9:Stmt:=(dH (top 59)).getD 10 (.Pass ⟨0,0,0,0⟩)
abbrev zJ:Stmt:=(dH (top 59)).getD 11 (.Pass ⟨0,0,0,0⟩)
abbrev HC:Stmt:=(dH (top 59)).getD 12 (.Pass ⟨0,0,0,0⟩)
abbrev pW:Stmt:=(dH (top 59)).getD 13 (.Pass ⟨0,0,0,0⟩)
abbrev lM:Stmt:=(dH (top 59)).getD 14 (.Pass ⟨0,0,0,0⟩)
structure Ad where
 BadCell:Addr
 BadMeasure:Addr
 BadPiece:Addr
 BadSign:Addr
 DIVISOR:Addr
 LinkEnd:Addr
 NoLink:Addr
 init:Addr
 cR:Addr
 wG:Addr
 fw:Addr
 wH:Addr
 wI:Addr
 lN:Addr
 lO:Addr
 fz:Addr
 f6:Addr
 f7:Addr
 Bq:Addr
 Jq:Addr
 pX:Addr
 n8:Addr
structure Txt (K:PySem.W.Frag) (mg:Str→Option Value) (t:Ad):Prop where
 r9:∃ tk,mg "BIRTH_SIGNS"=some (.int 2 tk)
 HD:∃ tk,mg "COUNT_AT"=some (.int 5 tk)
 sD:∃ tk,mg "FREE_PLACES"=some (.int 18 tk)
 zK:∃ tk,mg "KNOWN_AT"=some (.int 2 tk)
 Dd:∃ tk,mg "LENGTH_AT"=some (.int 6 tk)
 n9:∃ tk,mg "LONGEST_PIECE"=some (.int 10 tk)
 wJ:∃ tk,mg "MOST_LATE"=some (.int 6 tk)
 wK:∃ tk,mg "MOST_LOST"=some (.int 4 tk)
 pY:∃ tk,mg "NO_BIRTH"=some (.int 0 tk)
 wL:∃ tk,mg "NUMBER_AT"=some (.int 4 tk)
 zL:∃ tk,mg "PIECE_AT"=some (.int 7 tk)
 AE:∃ tk,mg "PLACES"=some (.int 24 tk)
 Fl:∃ tk,mg "ROOT"=some (.int 5 tk)
 cO:∃ tk,mg "SIGNS"=some (.int 97 tk)
 Fm:∃ tk,mg "SUMS"=some (.int 6 tk)
 iD:mg "len"=none
 qT:mg "list"=none
 N3:mg "max"=none
 S4:mg "min"=none
 df:mg "range"=none
 wM:mg "reversed"=none
 MB:mg "tuple"=none
 Fn:mg "zip"=none
 Br:mg "BadCell"=some (.ref t.BadCell)
 uf:mg "BadMeasure"=some (.ref t.BadMeasure)
 zM:mg "BadPiece"=some (.ref t.BadPiece)
 wN:mg "BadSign"=some (.ref t.BadSign)
 Jr:mg "DIVISOR"=some (.ref t.DIVISOR)
 Bs:mg "LinkEnd"=some (.ref t.LinkEnd)
 MC:mg "NoLink"=some (.ref t.NoLink)
 Bt:PySem.W.excIn K t.BadCell [.type "ValueError",.type "Exception",.type "BaseException",.type "object"] "ValueError.__new__"=true
 S5:tH K t.BadCell
 ug:PySem.W.excIn K t.BadMeasure [.type "ValueError",.type "Exception",.type "BaseException",.type "object"] "ValueError.__new__"=true
 N4:tH K t.BadMeasure
 zN:PySem.W.excIn K t.BadPiece [.type "ValueError",.type "Exception",.type "BaseException",.type "object"] "ValueError.__new__"=true
 Q3:tH K t.BadPiece
 wO:PySem.W.excIn K t.BadSign [.type "ValueError",.type "Exception",.type "BaseException",.type "object"] "ValueError.__new__"=true
 S6:tH K t.BadSign
 MD:PySem.W.excIn K t.NoLink [.type "ValueError",.type "Exception",.type "BaseException",.type "object"] "ValueError.__new__"=true
 U4:tH K t.NoLink
 Bu:PM K t.DIVISOR [V.int (21),V.int (80),V.int (53),V.int (2),V.int (55),V.int (63)]
 Bw:Mk K t.LinkEnd t.init
 fi:∃ fd,kL K "__init__" "LinkEnd.__init__" tP t.init fd
 aJ:GS K t.LinkEnd
 wQ:dD K t.LinkEnd "quiet"
 Fo:dD K t.LinkEnd "side"
 vV:dD K t.LinkEnd "done"
 mI:dD K t.LinkEnd "unheard"
 lP:dD K t.LinkEnd "birth"
 f9:dD K t.LinkEnd "known"
 gB:dD K t.LinkEnd "pair"
 mJ:dD K t.LinkEnd "told"
 gW:dD K t.LinkEnd "pieces"
 mK:dD K t.LinkEnd "offered"
 oA:dD K t.LinkEnd "taken"
 lQ:nh K t.LinkEnd "forget_pieces" t.cR
 vD:∃ fd,kL K "forget_pieces" "LinkEnd.forget_pieces" cQ t.cR fd
 ME:nh K t.LinkEnd "tick" t.wG
 Pl:∃ fd,kL K "tick" "LinkEnd.tick" n6 t.wG fd
 xr:nh K t.LinkEnd "cell_given" t.fw
 AF:∃ fd,kL K "cell_given" "LinkEnd.cell_given" dv t.fw fd
 MF:nh K t.LinkEnd "read" t.wH
 Pm:∃ fd,kL K "read" "LinkEnd.read" tQ t.wH fd
 MG:nh K t.LinkEnd "meet" t.wI
 Pn:∃ fd,kL K "meet" "LinkEnd.meet" tR t.wI fd
 De:nh K t.LinkEnd "come_up" t.lN
 HE:∃ fd,kL K "come_up" "LinkEnd.come_up" jD t.lN fd
 zO:nh K t.LinkEnd "end_up" t.lO
 Js:∃ fd,kL K "end_up" "LinkEnd.end_up" lL t.lO fd
 xu:nh K t.LinkEnd "start_over" t.fz
 AG:∃ fd,kL K "start_over" "LinkEnd.start_over" dw t.fz fd
 xv:nh K t.LinkEnd "hear_count" t.f6
 AH:∃ fd,kL K "hear_count" "LinkEnd.hear_count" dy t.f6 fd
 xw:nh K t.LinkEnd "take_piece" t.f7
 AI:∃ fd,kL K "take_piece" "LinkEnd.take_piece" d9 t.f7 fd
 Po:nh K t.LinkEnd "put" t.Bq
 S7:∃ fd,kL K "put" "LinkEnd.put" zJ t.Bq fd
 S8:nh K t.LinkEnd "up" t.Jq
 Wm:∃ fd,kL K "up" "LinkEnd.up" HC t.Jq fd
 Bx:nh K t.LinkEnd "waits" t.pX
 MH:∃ fd,kL K "waits" "LinkEnd.waits" pW t.pX fd
 HF:nh K t.LinkEnd "events" t.n8
 Jt:∃ fd,kL K "events" "LinkEnd.events" lM t.n8 fd
section
variable {P:Program} {w:World} {K:PySem.W.Frag} {mg:Str→Option Value} {base:Heap} {t:Ad}
def mL:Sp:=fun vs H Q _=>∃ n:Int,vs=[.int n]∧Q (.bl (decide (0≤n∧n < 97))) H
theorem Df:aQ ["number"] ["number"] (aH pT):=⟨rfl,rfl,rfl,by decide +kernel,rfl,by decide +kernel,by decide +kernel⟩
theorem Dg (F:aP K mg "is_sign" pT) (T:Txt K mg t):Def P w K mg base 1 "is_sign" ["number"] mL:=by
 refine F.def Df (fun _ _ _ _ _ _ us hl=>match us,hl with | [_],_=>rfl) (fun vs H Q E h=>?_) (fun f bo A outer s H vs Q E hr h=>?_)
 ·obtain ⟨n,rfl,_⟩:=h
  rfl
 ·obtain ⟨n,rfl,q⟩:=h
  refine ⟨_,aG (aV (BH qB jy aF (pv 0) (aS T.cO))),?_⟩
  refine ⟨_,rfl,_,_,rfl,rfl,_,rfl,?_⟩
  by_cases h0:0≤n
  ·rw [decide_eq_true h0]
   refine fc ⟨_,_,rfl,rfl,?_⟩
   have e:decide (n < 97)=decide (0≤n∧n < 97):=by simp [h0]
   show Q (.bl (decide (n < 97))) H
   rw [e]
   exact q
  ·rw [decide_eq_false h0]
   refine dh ?_
   have e:false=decide (0≤n∧n < 97):=by simp [h0]
   show Q (.bl false) H
   rw [e]
   exact q
def By (m:Int) (ns:List Int):Prop:=(ns.length:Int)=m∧∀ n ∈ ns,0≤n∧n < 97
def kN (K:PySem.W.Frag) (C:Addr):Sp:=fun vs H Q E=>∃ (l:Addr) (ns:List Int) (m:Int),vs=[.ref l,.int m]∧aX K H l (ns.map V.int)∧(∀ n ∈ ns,n.natAbs < 2 ^ 1000)∧m.natAbs < 2 ^ 1000 ∧
 (By m ns→Q .bN H)∧(¬ By m ns→E (.ref C) none H)
theorem gC {i:Int} (h:i.natAbs < 2 ^ 1000):(Str.ofString (toString i)).length≤1001:=by
 have hl:i.natAbs.log2 < 1000:=by
  by_cases z:i.natAbs=0
  ·rw [z];decide
  ·exact (Nat.log2_lt z).mpr h
 have e:=int_text_length_le (k:=1000) (by decide) hl
 rw [PySem.ofString_length];omega
theorem qC:aQ ["signs","many","sign"] ["signs","many"] (aH i0):=⟨rfl,rfl,rfl,by decide +kernel,rfl,by decide +kernel,by decide +kernel⟩
theorem xx (F:aP K mg "look_signs" i0) (T:Txt K mg t) (gX:Def P w K mg base 1 "is_sign" ["number"] mL):Def P w K mg base 2 "look_signs" ["signs","many"] (kN K t.BadCell):=by
 refine F.def qC (fun _ _ _ _ _ _ us hl=>match us,hl with | [_,_],_=>rfl) (fun vs H Q E h=>?_) (fun f bo A outer s H vs Q E hr h=>?_)
 ·obtain ⟨l,ns,m,rfl,_⟩:=h
  rfl
 ·obtain ⟨l,ns,m,rfl,hl,hb,hm,q1,q2⟩:=h
  refine ⟨_,aC (bD (aW BG (bP (bQ K) (by rfl) T.iD boot_len (aA (pv 0) aD)) (pv 1) (aj _))
    (aG (eZ bC rfl rfl T.Br T.Bt PySem.F.excBase_ValueError (aA (jz (bU (fe (pv 1)) (bU cZ nk))) aD)))
    (af))
   (aG (dC (O5 bC) rfl (cM K (pv 0)) (az (i:=2) qC.nd rfl (Or.inl rfl))
    (aG (bD (kJ (jG (aZ (gX.mono (by decide)) hr ar (aA (pv 2) aD))))
     (aG (eZ bC rfl rfl T.Br T.Bt PySem.F.excBase_ValueError (aA (jz (bU (fe (pv 2)) (bU cZ nk))) aD)))
     (af))))),?_⟩
  have sl:(2000:Nat)≤sizeLine:=by decide
  refine ⟨_,rfl,l,_,rfl,.inl hl,_,rfl,rfl,_,rfl,?_⟩
  by_cases hlen:(ns.length:Int)=m
  ·refine rX (by rw [List.length_map,hlen]) ?_
   refine ⟨_,rfl,l,rfl,⟨_,hl⟩,lD (K:=K) (a:=l) (xs:=ns.map V.int) (fun i σ H'=>∃ x:Option V,σ=[some (.ref l),some (.int m),x]∧H'=H∧∀ n ∈ ns.take i,0≤n∧n < 97) ⟨none,rfl,rfl,fun n hn=>by simp at hn⟩ (fun i σ H' _ ⟨_,_,e,_⟩=>by rw [e];exact hl) ?_ ?_⟩
   ·rintro i y σ H' hi ⟨x,rfl,rfl,ha⟩
    obtain ⟨z,hz,rfl⟩:=mC hi
    have Pp:z ∈ ns:=List.mem_of_getElem? hz
    refine ⟨_,rfl,z,rfl,_,rfl,?_⟩
    by_cases h0:0≤z∧z < 97
    ·rw [decide_eq_true h0]
     refine dh ⟨some (.int z),rfl,rfl,?_⟩
     rw [take_succ hz]
     intro n hn
     rcases List.mem_append.mp hn with z1 | z1
     ·exact ha n z1
     ·rw [List.mem_singleton.mp z1];exact h0
    ·rw [decide_eq_false h0]
     refine fc ?_
     have Yx:=gC (hb z Pp)
     have e0:(Str.empty ++ Str.ofString (toString z)).length≤1001:=by rw [strLen_append];show 0+_≤1001;omega
     have e1:((Str.empty ++ Str.ofString (toString z)) ++ (" is no sign":Str)).length≤2000:=by
      have:(" is no sign":Str).length=11:=by decide +kernel
      rw [strLen_append];omega
     refine ⟨_,rfl,z,rfl,dU (hb z Pp) (by decide) (by decide),_,rfl,by omega,_,rfl,by omega,by omega,?_⟩
     exact ⟨by show 1≤sizeLine;decide,q2 fun r=>h0 (r.2 z Pp)⟩
   ·rintro σ H' ⟨x,rfl,rfl,ha⟩
    rw [List.length_map,List.take_length] at ha
    exact q1 ⟨hlen,ha⟩
  ·refine uc (fun e=>hlen (by have:=V.int.inj e;rwa [List.length_map] at this)) ?_
   have Yx:=gC hm
   have e0:(Str.empty ++ Str.ofString (toString m)).length≤1001:=by rw [strLen_append];show 0+_≤1001;omega
   have e1:((Str.empty ++ Str.ofString (toString m)) ++ (" signs are asked for here":Str)).length≤2000:=by
    have:(" signs are asked for here":Str).length=25:=by decide +kernel
    rw [strLen_append];omega
   refine ⟨_,rfl,m,rfl,dU hm (by decide) (by decide),_,rfl,by omega,_,rfl,by omega,by omega,?_⟩
   exact ⟨by show 1≤sizeLine;decide,q2 fun r=>hlen r.1⟩
structure IsCell (n:Nat) (f:Nat→Int):Prop where
 b:∀ i,i < n→0≤f i∧f i < 97
theorem IsCell.row {n:Nat} {f:Nat→Int} (h:IsCell n f):By n ((List.range n).map f):=by
 refine ⟨by simp,fun x hx=>?_⟩
 obtain ⟨i,hi,rfl⟩:=List.mem_map.mp hx
 exact h.b i (List.mem_range.mp hi)
theorem IsCell.Yy {n:Nat} {f:Nat→Int} (h:IsCell n f):∀ x ∈ (List.range n).map f,x.natAbs < 2 ^ 1000:=fun x hx=>by
 obtain ⟨i,hi,rfl⟩:=List.mem_map.mp hx
 have:=h.b i (List.mem_range.mp hi)
 exact dt (by omega) (by omega)
def sE (K:PySem.W.Frag) (C:Addr):Sp:=fun vs H Q E=>∃ (l:Addr) (ns:List Int),vs=[.ref l]∧aX K H l (ns.map V.int)∧(∀ n ∈ ns,n.natAbs < 2 ^ 1000) ∧
 (By 24 ns→Q .bN H)∧(¬ By 24 ns→E (.ref C) none H)
theorem AJ:aQ ["cell"] ["cell"] (aH j6):=⟨rfl,rfl,rfl,by decide +kernel,rfl,by decide +kernel,by decide +kernel⟩
theorem AK (F:aP K mg "look_cell" j6) (T:Txt K mg t) (eC:Def P w K mg base 2 "look_signs" ["signs","many"] (kN K t.BadCell)):Def P w K mg base 3 "look_cell" ["cell"] (sE K t.BadCell):=by
 refine F.def AJ (fun _ _ _ _ _ _ us hl=>match us,hl with | [_],_=>rfl) (fun vs H Q E h=>?_) (fun f bo A outer s H vs Q E hr h=>?_)
 ·obtain ⟨l,ns,rfl,_⟩:=h
  rfl
 ·obtain ⟨l,ns,rfl,hl,hb,q1,q2⟩:=h
  refine ⟨_,aG (ax (aZ (eC.mono (by decide)) hr (lG bC) (aA (pv 0) (aA (aS T.AE) aD)))),?_⟩
  exact ⟨_,rfl,l,ns,24,rfl,hl,hb,by decide,q1,q2⟩
end
end K31
namespace K31
open PySem L2 PyProof.Rows
section
variable {P:Program} {w:World} {K:PySem.W.Frag} {mg:Str→Option Value} {base:Heap} {t:Ad}
def i6 (C:Addr):Sp:=fun vs H Q E=>∃ n:Int,vs=[.int n]∧n.natAbs < 2 ^ 1000∧(0≤n∧n < 97→Q .bN H)∧(¬ (0≤n∧n < 97)→E (.ref C) none H)
theorem AL:aQ ["number"] ["number"] (aH j3):=⟨rfl,rfl,rfl,by decide +kernel,rfl,by decide +kernel,by decide +kernel⟩
theorem AM (F:aP K mg "look_sign" j3) (T:Txt K mg t) (D1:Def P w K mg base 1 "is_sign" ["number"] mL):Def P w K mg base 2 "look_sign" ["number"] (i6 t.BadSign):=by
 refine F.def AL (fun _ _ _ _ _ _ us hl=>match us,hl with | [_],_=>rfl) (fun vs H Q E h=>?_) (fun f bo A outer s H vs Q E hr h=>?_)
 ·obtain ⟨n,rfl,_⟩:=h
  rfl
 ·obtain ⟨n,rfl,hb,q1,q2⟩:=h
  refine ⟨_,aG (bD (kJ (jG (aZ D1 hr ar (aA (pv 0) aD))))
   (aG (eZ bC rfl rfl T.wN T.wO PySem.F.excBase_ValueError (aA (jz (bU (fe (pv 0)) (bU cZ nk))) aD))) af),?_⟩
  refine ⟨_,rfl,n,rfl,_,rfl,?_⟩
  by_cases h0:0≤n∧n < 97
  ·rw [decide_eq_true h0]
   exact dh (q1 h0)
  ·rw [decide_eq_false h0]
   refine fc ?_
   have hz:=gC hb
   have e0:(Str.empty ++ Str.ofString (toString n)).length≤1001:=by rw [strLen_append];show 0+_≤1001;omega
   have e1:((Str.empty ++ Str.ofString (toString n)) ++ (" is no sign":Str)).length≤2000:=by
    have:(" is no sign":Str).length=11:=by decide +kernel
    rw [strLen_append];omega
   have sl:(2000:Nat)≤sizeLine:=by decide
   refine ⟨_,rfl,n,rfl,dU hb (by decide) (by decide),_,rfl,by omega,_,rfl,by omega,by omega,?_⟩
   exact ⟨by show 1≤sizeLine;decide,q2 h0⟩
def mM (C:Addr):Sp:=fun vs H Q E=>∃ n:Int,vs=[.int n]∧n.natAbs < 2 ^ 1000∧(0 < n∧n < 97→Q .bN H)∧(¬ (0 < n∧n < 97)→E (.ref C) none H)
theorem AN:aQ ["number"] ["number"] (aH j4):=⟨rfl,rfl,rfl,by decide +kernel,rfl,by decide +kernel,by decide +kernel⟩
theorem AO (F:aP K mg "look_unit" j4) (T:Txt K mg t) (D2:Def P w K mg base 2 "look_sign" ["number"] (i6 t.BadSign)):Def P w K mg base 3 "look_unit" ["number"] (mM t.BadSign):=by
 refine F.def AN (fun _ _ _ _ _ _ us hl=>match us,hl with | [_],_=>rfl) (fun vs H Q E h=>?_) (fun f bo A outer s H vs Q E hr h=>?_)
 ·obtain ⟨n,rfl,_⟩:=h
  rfl
 ·obtain ⟨n,rfl,hb,q1,q2⟩:=h
  refine ⟨_,aC (ax (aZ D2 hr (lG bC) (aA (pv 0) aD)))
   (aG (bD (aW jK (pv 0) aF (aj _)) (aG (eZ bC rfl rfl T.wN T.wO PySem.F.excBase_ValueError (aA cZ aD))) af)),?_⟩
  refine ⟨_,rfl,n,rfl,hb,fun h0=>?_,fun h0=>q2 (by omega)⟩
  refine ⟨_,rfl,rfl,_,rfl,?_⟩
  by_cases z:n=0
  ·subst z
   refine fc ?_
   exact ⟨by show 1≤sizeLine;decide,q2 (by omega)⟩
  ·have e:decide (V.int n=V.int 0)=false:=decide_eq_false fun q=>z (V.int.inj q)
   rw [e]
   exact dh (q1 (by omega))
def oB (C:Addr):Sp:=fun vs H Q E=>∃ a k:Int,vs=[.int a,.int k]∧a.natAbs < 2 ^ 1000∧0≤k∧(0≤a∧a < 97→Q (.int (My.P a k)) H)∧(¬ (0≤a∧a < 97)→E (.ref C) none H)
def Ju:L2.St→Hp→Nat:=fun σ _=>match σ with
 | [_,_,_,_,some (.int s)]=>s.toNat
 | _=>0
theorem jS:aQ ["a","k","product","square","left"] ["a","k"] (aH vU):=⟨rfl,rfl,rfl,by decide +kernel,rfl,by decide +kernel,by decide +kernel⟩
theorem Jv (F:aP K mg "power" vU) (T:Txt K mg t) (dj:Def P w K mg base 2 "look_sign" ["number"] (i6 t.BadSign)):Def P w K mg base 3 "power" ["a","k"] (oB t.BadSign):=by
 refine F.def jS (fun _ _ _ _ _ _ us hl=>match us,hl with | [_,_],_=>rfl) (fun vs H Q E h=>?_) (fun f bo A outer s H vs Q E hr h=>?_)
 ·obtain ⟨a,k,rfl,_⟩:=h
  rfl
 ·obtain ⟨a,k,rfl,hb,k0,q1,q2⟩:=h
  refine ⟨_,aC (ax (aZ (dj.mono (by decide)) hr (lG bC) (aA (pv 0) aD)))
   (aC (aT (i:=2) jS.nd rfl (Or.inl rfl) aF)
   (aC (aT (i:=3) jS.nd rfl (Or.inl rfl) (pv 0))
   (aC (aT (i:=4) jS.nd rfl (Or.inl rfl) (pv 1))
   (aC (PS.uX (BC PassesOwn.never (aW Il (pv 4) aF (aj _))
    (aC (bD (aW jK (aN aw (pv 4) aF) aF (aj _))
     (aG (aT (i:=2) jS.nd rfl (Or.inl rfl) (aN aw (aN eJ (pv 2) (pv 3)) (aS T.cO))))
     (af))
    (aC (aT (i:=3) jS.nd rfl (Or.inl rfl) (aN aw (aN eJ (pv 3) (pv 3)) (aS T.cO)))
    (aG (aT (i:=4) jS.nd rfl (Or.inl rfl) (aN cW (pv 4) aF)))))))
   (aG (aV (pv 2))))))),?_⟩
  refine ⟨_,rfl,a,rfl,hb,fun h0=>?_,fun h0=>q2 h0⟩
  refine ⟨_,rfl,?_⟩
  refine ⟨_,rfl,?_⟩
  refine BF (fun σ H'=>∃ p q l:Int,σ=[some (.int a),some (.int k),some (.int p),some (.int q),some (.int l)]∧H'=H∧0≤p∧p < 97∧0≤q∧q < 97∧0≤l∧p * q ^ l.toNat % 97=My.P a k) Ju ⟨1,a,k,rfl,rfl,by decide,by decide,h0.1,h0.2,k0,My.Bi⟩ ?_ ?_
  ·rintro σ H' ⟨p,q,l,rfl,rfl,p0,p1,q0,q1',l0,hh⟩
   refine ⟨_,rfl,_,_,rfl,rfl,_,rfl,?_⟩
   refine Oz (fun h=>?_) (fun h=>?_)
   ·have hl:0 < l:=of_decide_eq_true h
    have Yz:(l / 2).toNat < l.toNat:=by omega
    refine ⟨_,rfl,_,_,rfl,rfl,(by show (0:Int) < 2;decide),rfl,_,rfl,?_⟩
    refine Oz (fun h2=>?_) (fun h2=>?_)
    ·have ho:l % 2=1:=V.int.inj (of_decide_eq_true h2)
     refine ⟨_,rfl,_,rfl,_,_,rfl,rfl,.inl ⟨by omega,by omega⟩,_,_,rfl,rfl,(by show (0:Int) < 97;decide),?_⟩
     refine ⟨_,rfl,_,rfl,_,_,rfl,rfl,.inl ⟨by omega,by omega⟩,_,_,rfl,rfl,(by show (0:Int) < 97;decide),?_⟩
     refine ⟨_,rfl,_,_,rfl,rfl,⟨by decide,by decide⟩,?_⟩
     exact ⟨⟨_,_,_,rfl,rfl,Int.emod_nonneg _ (by decide),Int.emod_lt_of_pos _ (by decide),Int.emod_nonneg _ (by decide),Int.emod_lt_of_pos _ (by decide),by omega,My.G7 hl ho hh⟩,Yz⟩
    ·have ho:l % 2≠1:=fun z=>h2 (decide_eq_true (congrArg V.int z))
     refine ⟨_,rfl,_,rfl,_,_,rfl,rfl,.inl ⟨by omega,by omega⟩,_,_,rfl,rfl,(by show (0:Int) < 97;decide),?_⟩
     refine ⟨_,rfl,_,_,rfl,rfl,⟨by decide,by decide⟩,?_⟩
     exact ⟨⟨_,_,_,rfl,rfl,p0,p1,Int.emod_nonneg _ (by decide),Int.emod_lt_of_pos _ (by decide),by omega,My.DQ hl ho hh⟩,Yz⟩
   ·have hl:¬ 0 < l:=fun z=>h (decide_eq_true z)
    refine ⟨_,rfl,?_⟩
    rw [My.G8 (by omega) p0 p1 hh]
    exact q1 h0
  ·rintro σ H' Q1 Q2 hm ⟨v,e,i,j,ei,ej,k,ek,q⟩
   exact ⟨v,e,i,j,ei,ej,k,ek,hm _ _ q⟩
def qU (C:Addr):Sp:=fun vs H Q E=>∃ a:Int,vs=[.int a]∧a.natAbs < 2 ^ 1000∧(0 < a∧a < 97→Q (.int (My.P a 95)) H)∧(¬ (0 < a∧a < 97)→E (.ref C) none H)
theorem Di:aQ ["a"] ["a"] (aH pU):=⟨rfl,rfl,rfl,by decide +kernel,rfl,by decide +kernel,by decide +kernel⟩
theorem Dj (F:aP K mg "inverse" pU) (T:Txt K mg t) (kD:Def P w K mg base 3 "look_unit" ["number"] (mM t.BadSign)) (el:Def P w K mg base 3 "power" ["a","k"] (oB t.BadSign)):Def P w K mg base 4 "inverse" ["a"] (qU t.BadSign):=by
 refine F.def Di (fun _ _ _ _ _ _ us hl=>match us,hl with | [_],_=>rfl) (fun vs H Q E h=>?_) (fun f bo A outer s H vs Q E hr h=>?_)
 ·obtain ⟨a,rfl,_⟩:=h
  rfl
 ·obtain ⟨a,rfl,hb,q1,q2⟩:=h
  refine ⟨_,aC (ax (aZ (kD.mono (by decide)) hr (lG bC) (aA (pv 0) aD)))
   (aG (aV (aZ (el.mono (by decide)) hr (lG bC) (aA (pv 0) (aA (aN jJ (aS T.cO) aF) aD))))),?_⟩
  refine ⟨_,rfl,a,rfl,hb,fun h0=>?_,fun h0=>q2 h0⟩
  refine ⟨_,rfl,_,_,rfl,rfl,a,95,rfl,hb,by decide,fun _=>q1 h0,fun h1=>absurd ⟨by omega,h0.2⟩ h1⟩
def uh (C:Addr):Sp:=fun vs H Q E=>∃ n:Int,vs=[.int n]∧n.natAbs < 2 ^ 1000∧(0 < n∧n < 97→Q (.int (My.ex n)) H)∧(¬ (0 < n∧n < 97)→E (.ref C) none H)
theorem iE:aQ ["a","steps","reached"] ["a"] (aH mF):=⟨rfl,rfl,rfl,by decide +kernel,rfl,by decide +kernel,by decide +kernel⟩
def S9:L2.St→Hp→Nat:=fun σ _=>match σ with
 | [_,some (.int s),_]=>(100 - s).toNat
 | _=>0
theorem Bz (F:aP K mg "exponent" mF) (T:Txt K mg t) (D3:Def P w K mg base 3 "look_unit" ["number"] (mM t.BadSign)):Def P w K mg base 4 "exponent" ["a"] (uh t.BadSign):=by
 refine F.def iE (fun _ _ _ _ _ _ us hl=>match us,hl with | [_],_=>rfl) (fun vs H Q E h=>?_) (fun f bo A outer s H vs Q E hr h=>?_)
 ·obtain ⟨n,rfl,_⟩:=h
  rfl
 ·obtain ⟨a,rfl,hb,q1,q2⟩:=h
  refine ⟨_,aC (ax (aZ D3 hr (lG bC) (aA (pv 0) aD)))
   (aC (aT (i:=1) iE.nd rfl (Or.inl rfl) aF)
   (aC (aT (i:=2) iE.nd rfl (Or.inl rfl) aF)
   (aC (PS.uX (BC PassesOwn.never (aW BG (pv 2) (pv 0) (aj _))
    (aC (aT (i:=2) iE.nd rfl (Or.inl rfl) (aN aw (aN eJ (pv 2) (aS T.Fl)) (aS T.cO)))
    (aG (aT (i:=1) iE.nd rfl (Or.inl rfl) (aN bA (pv 1) aF))))))
   (aG (aV (pv 1)))))),?_⟩
  refine ⟨_,rfl,a,rfl,hb,fun h0=>?_,fun h0=>q2 h0⟩
  refine BF (fun σ H'=>∃ st:Int,σ=[some (.int a),some (.int st),some (.int (My.up st))]∧H'=H∧0≤st∧st≤My.ex a) S9 ⟨0,by rw [My.Lw];rfl,rfl,Int.le_refl _,My.Jd a⟩ ?_ ?_
  ·rintro σ H' ⟨st,rfl,rfl,s0,s1⟩
   refine ⟨_,rfl,_,rfl,rfl,_,rfl,?_⟩
   have he:=My.Sr h0.1 h0.2
   by_cases z:My.up st=a
   ·have e:decide (V.int (My.up st)=V.int a)=true:=decide_eq_true (by rw [z])
    rw [e]
    refine dh ⟨_,rfl,?_⟩
    have es:st=My.ex a:=by
     by_cases l:st < My.ex a
     ·exact absurd z (My.Su h0.1 h0.2 s0 l)
     ·omega
    rw [es]
    exact q1 h0
   ·have e:decide (V.int (My.up st)=V.int a)=false:=decide_eq_false fun q=>z (V.int.inj q)
    rw [e]
    refine fc ?_
    have u0:0≤My.up st:=Int.emod_nonneg _ (by decide)
    have u1:My.up st < 97:=Int.emod_lt_of_pos _ (by decide)
    refine ⟨_,rfl,_,_,rfl,rfl,.inl ⟨by omega,by omega⟩,_,_,rfl,rfl,(by show (0:Int) < 97;decide),_,rfl,_,_,rfl,rfl,?_⟩
    have K4:st≠My.ex a:=fun q=>z (by rw [q];exact My.Ss h0.1 h0.2)
    refine ⟨⟨st+1,by rw [← My.Lv s0 rfl];rfl,rfl,by omega,by omega⟩,?_⟩
    show (100 - (st+1)).toNat < (100 - st).toNat
    omega
  ·rintro σ H' Q1 Q2 hm ⟨v,e,u,e2,hs,k,ek,q⟩
   exact ⟨v,e,u,e2,hs,k,ek,hm _ _ q⟩
def ui (K:PySem.W.Frag):Sp:=fun vs H Q _=>∃ (l:Addr) (n:Nat) (f:Nat→Int) (x:Int),vs=[.ref l,.int x]∧aX K H l (tabI n f)∧Q (.int (My.T x n f)) H
theorem MI {n:Nat} {f:Nat→V} {i:Nat} {x:V} (h:(cK n f).reverse[i]?=some x):i < n∧x=f (n - 1 - i):=by
 have hi:i < n:=by
  have:=(List.getElem?_eq_some_iff.mp h).1
  rwa [List.length_reverse,aL] at this
 rw [List.getElem?_reverse (by rw [aL];exact hi),aL,b9 (by omega)] at h
 exact ⟨hi,(Option.some.inj h).symm⟩
theorem kE:aQ ["signs","point","value","sign"] ["signs","point"] (aH mG):=⟨rfl,rfl,rfl,by decide +kernel,rfl,by decide +kernel,by decide +kernel⟩
theorem B6 (F:aP K mg "value_at" mG) (T:Txt K mg t):Def P w K mg base 1 "value_at" ["signs","point"] (ui K):=by
 refine F.def kE (fun _ _ _ _ _ _ us hl=>match us,hl with | [_,_],_=>rfl) (fun vs H Q E h=>?_) (fun f bo A outer s H vs Q E hr h=>?_)
 ·obtain ⟨l,n,f,x,rfl,_⟩:=h
  rfl
 ·obtain ⟨l,n,f,x,rfl,hl,q⟩:=h
  refine ⟨_,aC (aT (i:=2) kE.nd rfl (Or.inl rfl) aF)
   (aC (PS.uX (dC PassesOwn.never rfl (z8 K (by rfl) T.wM (aA (pv 0) aD)) (az (i:=3) kE.nd rfl (Or.inl rfl))
    (aG (aT (i:=2) kE.nd rfl (Or.inl rfl) (aN aw (aN bA (aN eJ (pv 2) (pv 1)) (pv 3)) (aS T.cO))))))
   (aG (aV (pv 2)))),?_⟩
  refine ⟨_,rfl,l,_,rfl,hl,Lf (K:=K) (a:=l) (xs:=tabI n f) (fun i σ H'=>∃ v:Option V,σ=[some (.ref l),some (.int x),some (.int (My.hv f n x i)),v]∧H'=H) ⟨none,rfl,rfl⟩ (fun i σ H' _ ⟨_,_,e⟩=>by rw [e];exact hl) ?_ ?_⟩
  ·rintro i y σ H' hi ⟨v,rfl,rfl⟩
   obtain ⟨Y0,rfl⟩:=MI hi
   have h0:=My.Nz f n x i
   have h1:=My.N0 f n x i
   refine ⟨_,rfl,_,rfl,_,_,rfl,rfl,.inl ⟨by omega,by omega⟩,_,rfl,_,_,rfl,rfl,_,_,rfl,rfl,(by show (0:Int) < 97;decide),?_⟩
   exact ⟨_,rfl,rfl⟩
  ·rintro σ H' ⟨v,rfl,rfl⟩
   refine ⟨_,rfl,?_⟩
   rw [aL,My.Wj]
   exact q
def oC (K:PySem.W.Frag):Sp:=fun vs H Q _=>∃ (l:Addr) (f:Nat→Int),vs=[.ref l]∧aX K H l (tabI 24 f)∧IsCell 24 f ∧
 ∀ p H',H p=none→aI H H'→H' p=some (.lst (tabI 6 fun j=>My.T (My.St j) 24 f))→Q (.ref p) H'
theorem B8:aQ ["cell"] ["cell"] (aH jP):=⟨rfl,rfl,rfl,by decide +kernel,rfl,by decide +kernel,by decide +kernel⟩
theorem B9 (F:aP K mg "troubles" jP) (T:Txt K mg t) (oE:Def P w K mg base 3 "look_cell" ["cell"] (sE K t.BadCell)) (qV:Def P w K mg base 1 "value_at" ["signs","point"] (ui K)) (el:Def P w K mg base 3 "power" ["a","k"] (oB t.BadSign)) :
  Def P w K mg base 4 "troubles" ["cell"] (oC K):=by
 refine F.def B8 (fun _ _ _ _ _ _ us hl=>match us,hl with | [_],_=>rfl) (fun vs H Q E h=>?_) (fun f bo A outer s H vs Q E hr h=>?_)
 ·obtain ⟨l,f,rfl,_⟩:=h
  rfl
 ·obtain ⟨l,f,rfl,hl,cf,q⟩:=h
  refine ⟨_,aC (ax (aZ (oE.mono (by decide)) hr ar (aA (pv 0) aD)))
   (aG (aV (lE rfl (Nc:=["j","cell"]) (ix:=[none,some 0]) (dE (aH jP) ["cell"] rfl rfl (by decide +kernel)) (tD (by rfl) T.df (aA aF (aA (aN bA (aS T.Fm) aF) aD))) (fun C fp s H=>⟨(az (i:=0) (show (["j","cell"]:List Str).Nodup by decide +kernel) rfl (Or.inl rfl)),cX,(aZ (qV.mono (by decide)) hr ar (aA (pv 1) (aA (aZ (el.mono (by decide)) hr ar (aA (aS T.Fl) (aA (pv 0) aD))) aD)))⟩)))),?_⟩
  have hsz:(2000:Nat)≤sizeLine:=by decide
  refine ⟨_,rfl,l,(List.range 24).map f,rfl,by rw [vQ];exact hl,cf.Yy,fun _=>?_,fun h=>absurd cf.row h⟩
  refine ⟨_,_,rfl,rfl,1,_,rfl,⟨by decide,by decide,by decide,by decide⟩,fun D hD=>?_⟩
  refine lH (lo:=1) (n:=6) (fun i σ H'=>∃ v:Option V,σ=[v,some (.ref l)]∧aI H H'∧H' D=some (.lst (tabI i fun j=>My.T (My.St j) 24 f))) ⟨none,rfl,(aI.refl _).new hD,aB⟩ ?_ ?_
  ·rintro i σ H' N hN hi ⟨v,rfl,s1,h1⟩
   refine de ?_
   refine ⟨_,rfl,_,rfl,5,_,rfl,by decide,by omega,fun _=>?_,fun h=>absurd (show (0:Int)≤5∧(5:Int) < 97 by decide) h⟩
   refine ⟨l,24,f,_,rfl,s1.seq hl,?_⟩
   rw [My.Wh i hi]
   refine ⟨_,h1,by rw [aL];omega,?_⟩
   exact hN _ _ ⟨_,rfl,s1.put hD,j0 rfl⟩
  ·rintro σ H' ⟨v,rfl,s1,h1⟩
   exact q D H' hD s1 h1
def pZ (f:Nat→Int):Bool:=decide ((List.range 6).map (fun j=>My.T (My.St j) 24 f)=(List.range 6).map fun _=>(0:Int))
theorem kF {f:Nat→Int}:pZ f=true↔My.bq f:=by
 unfold pZ My.bq
 rw [decide_eq_true_iff]
 constructor
 ·intro h j hj
  have:=congrArg (fun l=>l.getD j 0) h
  simp only [Gj 6 _ j hj] at this
  exact this
 ·intro h
  apply List.map_congr_left
  intro j hj
  exact h j (List.mem_range.mp hj)
theorem Dk {f:Nat→Int} (h:¬ My.bq f):pZ f=false:=by
 rw [Bool.eq_false_iff]
 exact fun z=>h (kF.mp z)
def sF (K:PySem.W.Frag):Sp:=fun vs H Q _=>∃ (l:Addr) (f:Nat→Int),vs=[.ref l]∧aX K H l (tabI 24 f)∧IsCell 24 f∧∀ H',aI H H'→Q (.bl (pZ f)) H'
theorem AQ:aQ ["cell"] ["cell"] (aH j7):=⟨rfl,rfl,rfl,by decide +kernel,rfl,by decide +kernel,by decide +kernel⟩
theorem AR (F:aP K mg "is_sealed" j7) (T:Txt K mg t) (gY:Def P w K mg base 4 "troubles" ["cell"] (oC K)):Def P w K mg base 5 "is_sealed" ["cell"] (sF K):=by
 refine F.def AQ (fun _ _ _ _ _ _ us hl=>match us,hl with | [_],_=>rfl) (fun vs H Q E h=>?_) (fun f bo A outer s H vs Q E hr h=>?_)
 ·obtain ⟨l,f,rfl,_⟩:=h
  rfl
 ·obtain ⟨l,f,rfl,hl,cf,q⟩:=h
  refine ⟨_,aG (aV (pN (FX K (Ge hr)) (aZ (gY.mono (by decide)) hr ar (aA (pv 0) aD)) (aN zx (bF (aA aF aD)) (aS T.Fm)) (aj _))),?_⟩
  refine ⟨_,rfl,l,f,rfl,hl,cf,fun p H1 hp s1 h1=>?_⟩
  refine ⟨by show 1≤sizeLine;decide,fun a1 Dl=>?_⟩
  refine ⟨a1,_,_,rfl,rfl,aB,by decide,by decide,by decide,fun a2 TB=>?_⟩
  have s2:=((aI.refl H1).new (o:=.lst [V.int 0]) Dl).new (o:=.lst (List.replicate (6:Int).toNat [V.int 0]).flatten) TB
  refine ⟨p,a2,_,(List.range 6).map fun _=>0,rfl,rfl,aX.of (by rw [vQ];exact s2 _ _ h1),aX.of (by rw [aB];rfl),?_⟩
  exact q _ (s1.trans s2)
def wR (K:PySem.W.Frag):Sp:=fun vs H Q _=>∃ (l:Addr) (r:Nat→Int) (s:Int),vs=[.ref l,.int s]∧aX K H l (tabI 6 r)∧(∀ k,k < 6→0≤r k∧r k < 97)∧0≤s∧s < 97 ∧
 ∀ p H',H p=none→aI H H'→H' p=some (.lst (tabI 6 fun k=>((if k < 5 then r (k+1) else 0) - (r 0+s) * My.Dv k) % 97))→Q (.ref p) H'
theorem MJ:([V.int (21),V.int (80),V.int (53),V.int (2),V.int (55),V.int (63)]:List V)=tabI 6 My.Dv:=by rfl
theorem wU:aQ ["rest","sign","times"] ["rest","sign"] (aH lK):=⟨rfl,rfl,rfl,by decide +kernel,rfl,by decide +kernel,by decide +kernel⟩
theorem Dm (F:aP K mg "carried" lK) (T:Txt K mg t):Def P w K mg base 1 "carried" ["rest","sign"] (wR K):=by
 refine F.def wU (fun _ _ _ _ _ _ us hl=>match us,hl with | [_,_],_=>rfl) (fun vs H Q E h=>?_) (fun f bo A outer s H vs Q E hr h=>?_)
 ·obtain ⟨l,r,s,rfl,_⟩:=h
  rfl
 ·obtain ⟨l,r,sg,rfl,hl,br,s0,s1,q⟩:=h
  refine ⟨_,aC (aT (i:=2) wU.nd rfl (Or.inr rfl) (aN bA (aR (aM K) (pv 0) aF (fun _ _=>rfl)) (pv 1)))
   (aG (aV (lE rfl (Nc:=["low","part","times"]) (ix:=[none,none,some 2]) (dE (aH lK) ["rest","sign","times"] rfl rfl (by decide +kernel)) (JS K (by rfl) T.Fn (aA (aN (mD K) (iA (iB K) (pv 0) (fZ aF) rT) (bF (aA aF aD))) (aA (E7 (v:=.ref t.DIVISOR) (by rfl) T.Jr rfl) aD))) (fun C fp s H=>⟨(pQ K (i:=0) (j:=1) rfl (show (["low","part","times"]:List Str).Nodup by decide +kernel) rfl rfl (Or.inl rfl) (Or.inl rfl)),cX,(aN aw (aN jJ (pv 0) (aN eJ (pv 2) (pv 1))) (aS T.cO))⟩)))),?_⟩
  have hsz:(2000:Nat)≤sizeLine:=by decide
  have b0:=br 0 (by decide)
  refine ⟨_,rfl,l,_,_,_,rfl,rfl,hl,dF (n:=6) (by decide) (by decide),_,rfl,_,_,rfl,rfl,?_⟩
  refine ⟨_,rfl,_,rfl,l,_,rfl,hl,fun p1 CA=>?_⟩
  rw [show fb (tabI 6 r) (some 1) none=tabI 5 fun k=>r (1+k) from DK (lo:=1) (n:=6) (by decide)]
  have t1:=(aI.refl H).new (o:=.lst (tabI 5 fun k=>r (1+k))) CA
  refine ⟨by show 1≤sizeLine;decide,fun p2 vy=>?_⟩
  have Wl:p1≠p2:=aK aB vy
  have t2:=t1.new (o:=.lst [V.int 0]) vy
  refine ⟨p1,p2,_,_,rfl,rfl,aX.of (by rw [aE Wl];exact aB),aX.of aB,by rw [aL];decide,fun p3 HG=>?_⟩
  have ec:(tabI 5 fun k=>r (1+k)) ++ [V.int 0]=tabI 6 fun k=>if k < 5 then r (k+1) else 0:=by
   rw [BS]
   refine bW fun k hk=>?_
   by_cases e:k=5
   ·subst e;rfl
   ·rw [if_neg e];dsimp only;rw [if_pos (by omega),Nat.add_comm]
  rw [ec]
  have t3:=t2.new (o:=.lst (tabI 6 fun k=>if k < 5 then r (k+1) else 0)) HG
  have h3:∀ H0:Hp,(upd H0 p3 (.lst (tabI 6 fun k=>if k < 5 then r (k+1) else 0))) p3=some (.lst (tabI 6 fun k=>if k < 5 then r (k+1) else 0)):=fun _=>aB
  refine ⟨p3,t.DIVISOR,rfl,⟨_,aX.of (h3 _)⟩,⟨_,T.Bu.sq _⟩,fun D hD=>?_⟩
  have h3':=h3 (upd (upd H p1 (.lst (tabI 5 fun k=>r (1+k)))) p2 (.lst [V.int 0]))
  generalize upd (upd (upd H p1 (.lst (tabI 5 fun k=>r (1+k)))) p2 (.lst [V.int 0])) p3 (.lst (tabI 6 fun k=>if k < 5 then r (k+1) else 0))=H3 at *
  refine Lg (K:=K) (a:=p3) (b:=t.DIVISOR) (xs:=tabI 6 fun k=>if k < 5 then r (k+1) else 0) (ys:=tabI 6 My.Dv) (by rw [aL,aL]) (fun i σ H'=>∃ v1 v2:Option V,σ=[v1,v2,some (.int (r 0+sg))]∧aI H3 H'∧H' D=some (.lst (tabI i fun k=>((if k < 5 then r (k+1) else 0) - (r 0+sg) * My.Dv k) % 97)))
   ⟨none,none,rfl,(aI.refl _).new hD,aB⟩ (fun i σ H' _ ⟨_,_,_,s2,_⟩=>⟨aX.of (s2 _ _ h3'),by rw [← MJ];exact T.Bu.sq _⟩) ?_ ?_
  ·rintro i x y pp σ H' N hN hx hy ⟨v1,v2,rfl,s2,h2⟩ MK
   obtain ⟨hi,rfl⟩:=tab_of hx
   obtain ⟨_,rfl⟩:=tab_of hy
   refine vo ?_
   have nD:D≠pp:=aK h2 MK
   refine ⟨_,rfl,_,rfl,_,rfl,_,_,rfl,rfl,.inl ⟨by omega,by omega⟩,_,_,rfl,rfl,_,_,rfl,rfl,(by show (0:Int) < 97;decide),?_⟩
   refine ⟨_,by rw [aE nD];exact h2,by rw [aL];omega,?_⟩
   exact hN _ _ ⟨_,_,rfl,(s2.new MK).put hD,j0 rfl⟩
  ·rintro σ H' ⟨v1,v2,rfl,s2,h2⟩
   rw [aL] at h2
   exact q D H' (t3.free hD) (t3.trans s2) h2
def zP (K:PySem.W.Frag):Sp:=fun vs H Q _=>∃ (l:Addr) (f:Nat→Int),vs=[.ref l]∧aX K H l (tabI 18 f)∧IsCell 18 f∧∀ p H',H p=none→aI H H'→H' p=some (.lst (tabI 24 (My.lI f)))→Q (.ref p) H'
theorem pb:aQ ["signs","rest","sign"] ["signs"] (aH ny):=⟨rfl,rfl,rfl,by decide +kernel,rfl,by decide +kernel,by decide +kernel⟩
theorem HH (F:aP K mg "sealed" ny) (T:Txt K mg t) (eC:Def P w K mg base 2 "look_signs" ["signs","many"] (kN K t.BadCell)) (tS:Def P w K mg base 1 "carried" ["rest","sign"] (wR K)):Def P w K mg base 3 "sealed" ["signs"] (zP K):=by
 refine F.def pb (fun _ _ _ _ _ _ us hl=>match us,hl with | [_],_=>rfl) (fun vs H Q E h=>?_) (fun f bo A outer s H vs Q E hr h=>?_)
 ·obtain ⟨l,f,rfl,_⟩:=h
  rfl
 ·obtain ⟨l,f,rfl,hl,cf,q⟩:=h
  refine ⟨_,aC (ax (aZ (eC.mono (by decide)) hr ar (aA (pv 0) (aA (aS T.sD) aD))))
   (aC (aT (i:=1) pb.nd rfl (Or.inl rfl) (aN zx (bF (aA aF aD)) (aS T.Fm)))
   (aC (PS.uX (dC PassesOwn.never rfl (cM K (pv 0)) (az (i:=2) pb.nd rfl (Or.inl rfl))
    (aG (aT (i:=1) pb.nd rfl (Or.inl rfl) (aZ (tS.mono (by decide)) hr ar (aA (pv 1) (aA (pv 2) aD)))))))
   (aG (aV (aN (mD K) (gO (gP K) (by rfl) T.qT boot_list (aA (pv 0) aD)) (lE rfl (Nc:=["part"]) (ix:=[none]) (dE (aH ny) ["signs","rest","sign"] rfl rfl (by decide +kernel)) (cM K (pv 1)) (fun C fp s H=>⟨(az (i:=0) (show (["part"]:List Str).Nodup by decide +kernel) rfl (Or.inl rfl)),cX,(aN aw (FA zd (pv 0)) (aS T.cO))⟩))))))),?_⟩
  have hsz:(2000:Nat)≤sizeLine:=by decide
  refine ⟨_,rfl,l,(List.range 18).map f,18,rfl,by rw [vQ];exact hl,cf.Yy,by decide,fun _=>?_,fun h=>absurd cf.row h⟩
  refine ⟨by show 1≤sizeLine;decide,fun a1 Dl=>?_⟩
  refine ⟨a1,_,_,rfl,rfl,aB,by decide,by decide,by decide,fun a2 TB=>?_⟩
  have s1:=((aI.refl H).new (o:=.lst [V.int 0]) Dl).new (o:=.lst (List.replicate (6:Int).toNat [V.int 0]).flatten) TB
  refine ⟨_,rfl,l,rfl,⟨_,s1.seq hl⟩,lD (K:=K) (a:=l) (xs:=tabI 18 f) (fun i σ H'=>∃ (v:Option V) (p:Addr),σ=[some (.ref l),some (.ref p),v]∧aI H H'∧H' p=some (.lst (tabI 6 (My.rs f i)))) ⟨none,a2,rfl,s1,by rw [aB];rfl⟩ (fun i σ H' _ ⟨_,_,_,s2,_⟩=>s2.seq hl) ?_ ?_⟩
  ·rintro i y σ H' hi ⟨v,p,rfl,s2,h2⟩
   obtain ⟨Y0,rfl⟩:=tab_of hi
   have bi:=cf.b i Y0
   refine ⟨_,rfl,_,rfl,p,My.rs f i,f i,rfl,aX.of h2,fun k _=>⟨My.Sy f i k,My.Sz f i k⟩,bi.1,bi.2,fun p2 H2 vy s3 h3=>?_⟩
   exact ⟨_,p2,rfl,s2.trans s3,h3⟩
  ·rintro σ H' ⟨v,p,rfl,s2,h2⟩
   rw [aL] at h2
   refine ⟨_,rfl,l,_,rfl,.inl (s2.seq hl),fun b1 Q4=>?_⟩
   have s3:=(aI.refl H').new (o:=.lst (tabI 18 f)) Q4
   refine ⟨_,rfl,p,rfl,⟨_,aX.of (s3 _ _ h2)⟩,fun D hD=>?_⟩
   have nD:b1≠D:=aK aB hD
   refine tJ (K:=K) (a:=p) (n:=6) (F:=fun k=>V.int (My.rs f 18 k)) (fun i σ H4=>∃ v:Option V,σ=[v]∧aI (upd H' b1 (.lst (tabI 18 f))) H4∧H4 D=some (.lst (tabI i fun k=>-(My.rs f 18 k) % 97))) ⟨none,rfl,(aI.refl _).new hD,aB⟩ (fun i σ H4 _ ⟨_,_,s4,_⟩=>aX.of (s4 _ _ (s3 _ _ h2))) ?_ ?_
   ·rintro i σ H4 N hN hi ⟨v,rfl,s4,h4⟩
    refine de ?_
    refine ⟨_,rfl,_,rfl,_,_,rfl,rfl,(by show (0:Int) < 97;decide),?_⟩
    refine ⟨_,h4,by rw [aL];omega,?_⟩
    exact hN _ _ ⟨_,rfl,s4.put hD,j0 rfl⟩
   ·rintro σ H4 ⟨v,rfl,s4,h4⟩
    refine ⟨b1,D,_,_,rfl,rfl,aX.of (s4 _ _ aB),aX.of h4,by rw [aL,aL];decide,fun c1 Y1=>?_⟩
    have s5:=((s2.trans s3).trans s4)
    refine q c1 _ (s5.free Y1) (s5.new Y1) ?_
    rw [aB,Le]
    refine congrArg (fun z=>some (HO.lst z)) (bW fun i hi=>?_)
    unfold My.lI
    split <;> rfl
end
end K31
namespace K31
open PySem L2 PyProof.Rows
section
variable {P:Program} {w:World} {K:PySem.W.Frag} {mg:Str→Option Value} {base:Heap} {t:Ad}
def sG (C:Addr):Sp:=fun vs H Q E=>∃ n:Int,vs=[.int n]∧n.natAbs < 2 ^ 1000∧(1≤n∧n≤6→Q .bN H)∧(¬ (1≤n∧n≤6)→E (.ref C) none H)
theorem AS:aQ ["late"] ["late"] (aH j8):=⟨rfl,rfl,rfl,by decide +kernel,rfl,by decide +kernel,by decide +kernel⟩
theorem AU (F:aP K mg "look_late" j8) (T:Txt K mg t):Def P w K mg base 1 "look_late" ["late"] (sG t.BadMeasure):=by
 refine F.def AS (fun _ _ _ _ _ _ us hl=>match us,hl with | [_],_=>rfl) (fun vs H Q E h=>?_) (fun f bo A outer s H vs Q E hr h=>?_)
 ·obtain ⟨n,rfl,_⟩:=h
  rfl
 ·obtain ⟨n,rfl,hb,q1,q2⟩:=h
  refine ⟨_,aG (bD (kJ (rQ qB qB aF (pv 0) (aS T.wJ)))
    (aG (eZ bC rfl rfl T.uf T.ug PySem.F.excBase_ValueError (aA (jz (bU cZ (bU (fe (aS T.wJ)) (bU cZ (bU (fe (pv 0)) nk))))) aD)))
    (af)),?_⟩
  have sl:(3000:Nat)≤sizeLine:=by decide
  have bad:¬ (1≤n∧n≤6)→_:=fun z=>q2 z
  have l1:("late is from 1 to ":Str).length=18:=by decide +kernel
  have l2:(", not ":Str).length=6:=by decide +kernel
  have z6:=gC (i:=6) (by decide)
  have zn:=gC hb
  have e0:(Str.empty ++ ("late is from 1 to ":Str)).length≤18:=by rw [strLen_append,l1];show 0+18≤18;omega
  have e1:((Str.empty ++ ("late is from 1 to ":Str)) ++ Str.ofString (toString (6:Int))).length≤1019:=by rw [strLen_append];omega
  have e2:(((Str.empty ++ ("late is from 1 to ":Str)) ++ Str.ofString (toString (6:Int))) ++ (", not ":Str)).length≤1025:=by rw [strLen_append];omega
  have e3:((((Str.empty ++ ("late is from 1 to ":Str)) ++ Str.ofString (toString (6:Int))) ++ (", not ":Str)) ++ Str.ofString (toString n)).length≤2026:=by rw [strLen_append];omega
  refine ⟨_,rfl,_,_,rfl,rfl,_,rfl,?_⟩
  by_cases h1:1≤n
  ·refine eN h1 ?_
   refine ⟨_,_,rfl,rfl,_,rfl,?_⟩
   by_cases h2:n≤6
   ·rw [decide_eq_true h2]
    exact dh (q1 ⟨h1,h2⟩)
   ·rw [decide_eq_false h2]
    refine fc ?_
    refine ⟨_,rfl,by omega,6,rfl,dU (n:=1000) (by decide) (by decide) (by decide),_,rfl,by omega,_,rfl,by omega,_,rfl,n,rfl,dU hb (by decide) (by decide),_,rfl,by omega,by omega,?_⟩
    exact ⟨by show 1≤sizeLine;decide,q2 (by omega)⟩
  ·refine dW h1 ⟨_,rfl,fc ?_⟩
   refine ⟨_,rfl,by omega,6,rfl,dU (n:=1000) (by decide) (by decide) (by decide),_,rfl,by omega,_,rfl,by omega,_,rfl,n,rfl,dU hb (by decide) (by decide),_,rfl,by omega,by omega,?_⟩
   exact ⟨by show 1≤sizeLine;decide,q2 (by omega)⟩
def nK (K:PySem.W.Frag) (C:Addr):Sp:=fun vs H Q E=>∃ (a:Addr) (x y:Int),vs=[.ref a]∧bz K H a [.int x,.int y]∧x.natAbs < 2 ^ 1000∧y.natAbs < 2 ^ 1000∧((1≤x∧x≤6)∧0≤y∧y≤4→Q .bN H)∧(¬ ((1≤x∧x≤6)∧0≤y∧y≤4)→E (.ref C) none H)
theorem nL:aQ ["measure","lost"] ["measure"] (aH fh):=⟨rfl,rfl,rfl,by decide +kernel,rfl,by decide +kernel,by decide +kernel⟩
theorem vE (F:aP K mg "look_measure" fh) (T:Txt K mg t) (oF:Def P w K mg base 1 "look_late" ["late"] (sG t.BadMeasure)):Def P w K mg base 2 "look_measure" ["measure"] (nK K t.BadMeasure):=by
 refine F.def nL (fun _ _ _ _ _ _ us hl=>match us,hl with | [_],_=>rfl) (fun vs H Q E h=>?_) (fun f bo A outer s H vs Q E hr h=>?_)
 ·obtain ⟨a,x,y,rfl,_⟩:=h
  rfl
 ·obtain ⟨a,x,n,rfl,ha,hx,hb,q1,q2⟩:=h
  refine ⟨_,aC (ax (aZ (oF.mono (by decide)) hr (lG bC) (aA (aR (bj K) (pv 0) aF (fun _ _=>rfl)) aD)))
   (aC (aT (i:=1) nL.nd rfl (Or.inl rfl) (aR (bj K) (pv 0) aF (fun _ _=>rfl)))
   (aG (bD (kJ (rQ qB qB aF (pv 1) (aS T.wK)))
    (aG (eZ bC rfl rfl T.uf T.ug PySem.F.excBase_ValueError (aA (jz (bU cZ (bU (fe (aS T.wK)) (bU cZ (bU (fe (pv 1)) nk))))) aD)))
    (af)))),?_⟩
  have sl:(3000:Nat)≤sizeLine:=by decide
  have l1:("lost is from 0 to ":Str).length=18:=by decide +kernel
  have l2:(", not ":Str).length=6:=by decide +kernel
  have z6:=gC (i:=4) (by decide)
  have zn:=gC hb
  have e0:(Str.empty ++ ("lost is from 0 to ":Str)).length≤18:=by rw [strLen_append,l1];show 0+18≤18;omega
  have e1:((Str.empty ++ ("lost is from 0 to ":Str)) ++ Str.ofString (toString (4:Int))).length≤1019:=by rw [strLen_append];omega
  have e2:(((Str.empty ++ ("lost is from 0 to ":Str)) ++ Str.ofString (toString (4:Int))) ++ (", not ":Str)).length≤1025:=by rw [strLen_append];omega
  have e3:((((Str.empty ++ ("lost is from 0 to ":Str)) ++ Str.ofString (toString (4:Int))) ++ (", not ":Str)) ++ Str.ofString (toString n)).length≤2026:=by rw [strLen_append];omega
  refine ⟨_,rfl,a,_,_,_,rfl,rfl,ha,rfl,x,rfl,hx,fun h0=>?_,fun h0=>q2 fun z=>h0 z.1⟩
  refine ⟨_,rfl,a,_,_,_,rfl,rfl,ha,rfl,?_⟩
  refine ⟨_,rfl,_,_,rfl,rfl,_,rfl,?_⟩
  by_cases h1:0≤n
  ·refine eN h1 ?_
   refine ⟨_,_,rfl,rfl,_,rfl,?_⟩
   by_cases h2:n≤4
   ·rw [decide_eq_true h2]
    exact dh (q1 ⟨h0,h1,h2⟩)
   ·rw [decide_eq_false h2]
    refine fc ?_
    refine ⟨_,rfl,by omega,4,rfl,dU (n:=1000) (by decide) (by decide) (by decide),_,rfl,by omega,_,rfl,by omega,_,rfl,n,rfl,dU hb (by decide) (by decide),_,rfl,by omega,by omega,?_⟩
    exact ⟨by show 1≤sizeLine;decide,q2 (by omega)⟩
  ·refine dW h1 ⟨_,rfl,fc ?_⟩
   refine ⟨_,rfl,by omega,4,rfl,dU (n:=1000) (by decide) (by decide) (by decide),_,rfl,by omega,_,rfl,by omega,_,rfl,n,rfl,dU hb (by decide) (by decide),_,rfl,by omega,by omega,?_⟩
   exact ⟨by show 1≤sizeLine;decide,q2 (by omega)⟩
def TC (x y:Int):Prop:=(1≤x∧x≤6)∧0≤y∧y≤4
def uj (K:PySem.W.Frag) (C:Addr):Sp:=fun vs H Q E=>∃ (a:Addr) (x y:Int),vs=[.ref a]∧bz K H a [.int x,.int y]∧x.natAbs < 2 ^ 1000∧y.natAbs < 2 ^ 1000∧(TC x y→Q (.int (x+y)) H)∧(¬ TC x y→E (.ref C) none H)
theorem CB:aQ ["measure"] ["measure"] (aH mH):=⟨rfl,rfl,rfl,by decide +kernel,rfl,by decide +kernel,by decide +kernel⟩
theorem CC (F:aP K mg "quiet_of" mH) (T:Txt K mg t) (jT:Def P w K mg base 2 "look_measure" ["measure"] (nK K t.BadMeasure)):Def P w K mg base 3 "quiet_of" ["measure"] (uj K t.BadMeasure):=by
 refine F.def CB (fun _ _ _ _ _ _ us hl=>match us,hl with | [_],_=>rfl) (fun vs H Q E h=>?_) (fun f bo A outer s H vs Q E hr h=>?_)
 ·obtain ⟨a,x,y,rfl,_⟩:=h
  rfl
 ·obtain ⟨a,x,y,rfl,ha,hx,hy,q1,q2⟩:=h
  refine ⟨_,aC (ax (aZ (jT.mono (by decide)) hr (lG bC) (aA (pv 0) aD)))
   (aG (aV (aN bA (aR (bj K) (pv 0) aF (fun _ _=>rfl)) (aR (bj K) (pv 0) aF (fun _ _=>rfl))))),?_⟩
  refine ⟨_,rfl,a,x,y,rfl,ha,hx,hy,fun h0=>?_,fun h0=>q2 h0⟩
  refine ⟨_,rfl,a,_,_,_,rfl,rfl,ha,rfl,?_⟩
  refine ⟨_,rfl,a,_,_,_,rfl,rfl,ha,rfl,_,_,rfl,rfl,?_⟩
  exact q1 h0
end
end K31
namespace K31
open PySem L2 PyProof.Rows
section
variable {P:Program} {w:World} {K:PySem.W.Frag} {mg:Str→Option Value} {base:Heap} {t:Ad}
def uk (K:PySem.W.Frag):Sp:=fun vs H Q _=>∃ (l:Addr) (n:Nat) (f:Nat→Int) (z:Int),vs=[.ref l,.int z]∧aX K H l (tabI n f)∧n≤1000 ∧
 ∀ p H',H p=none→aI H H'→H' p=some (.lst (tabI (n+1) fun j=>(if j < n then f j else z) % 97))→Q (.ref p) H'
theorem CD:aQ ["row","side"] ["row","side"] (aH jN):=⟨rfl,rfl,rfl,by decide +kernel,rfl,by decide +kernel,by decide +kernel⟩
theorem CF (F:aP K mg "equation" jN) (T:Txt K mg t):Def P w K mg base 1 "equation" ["row","side"] (uk K):=by
 refine F.def CD (fun _ _ _ _ _ _ us hl=>match us,hl with | [_,_],_=>rfl) (fun vs H Q E h=>?_) (fun f bo A outer s H vs Q E hr h=>?_)
 ·obtain ⟨l,n,f,z,rfl,_⟩:=h
  rfl
 ·obtain ⟨l,n,f',z,rfl,hl,hn,q⟩:=h
  refine ⟨_,aG (aV (aN (mD K) (lE rfl (Nc:=["sign"]) (ix:=[none]) (dE (aH jN) ["row","side"] rfl rfl (by decide +kernel)) (cM K (pv 0)) (fun C fp s H=>⟨(az (i:=0) (show (["sign"]:List Str).Nodup by decide +kernel) rfl (Or.inl rfl)),cX,(aN aw (pv 0) (aS T.cO))⟩)) (bF (aA (aN aw (pv 1) (aS T.cO)) aD)))),?_⟩
  have hsz:(2000:Nat)≤sizeLine:=by decide
  refine ⟨_,rfl,l,rfl,⟨_,hl⟩,fun D hD=>?_⟩
  refine tJ (K:=K) (a:=l) (n:=n) (F:=fun j=>V.int (f' j)) (fun i σ H'=>∃ v:Option V,σ=[v]∧aI H H'∧H' D=some (.lst (tabI i fun j=>f' j % 97))) ⟨none,rfl,(aI.refl _).new hD,aB⟩ (fun i σ H' _ ⟨_,_,s1,_⟩=>s1.seq hl) ?_ ?_
  ·rintro i σ H' N hN hi ⟨v,rfl,s1,h1⟩
   refine de ?_
   refine ⟨_,rfl,_,_,rfl,rfl,(by show (0:Int) < 97;decide),_,h1,by rw [aL];omega,?_⟩
   exact hN _ _ ⟨_,rfl,s1.put hD,j0 rfl⟩
  ·rintro σ H' ⟨v,rfl,s1,h1⟩
   refine ⟨_,rfl,_,_,rfl,rfl,(by show (0:Int) < 97;decide),by show 1≤sizeLine;decide,fun p2 vy=>?_⟩
   have n2:D≠p2:=aK h1 vy
   have s2:=s1.new (o:=.lst [V.int (z % 97)]) vy
   refine ⟨D,p2,_,_,rfl,rfl,aX.of (by rw [aE n2];exact h1),aX.of aB,by rw [aL];show n+1≤sizeLine;omega,fun p3 HG=>?_⟩
   refine q p3 _ (s2.free HG) (s2.new HG) ?_
   have e3:tabI (n+1) (fun j=>(if j < n then f' j else z) % 97)=tabI n (fun j=>f' j % 97) ++ [V.int (z % 97)]:=by
    refine (vp n _).trans ?_
    rw [show cK n (fun j=>V.int ((if j < n then f' j else z) % 97))=tabI n fun j=>f' j % 97 from bW fun i hi=>by rw [if_pos hi]]
    show _ ++ [V.int ((if n < n then f' n else z) % 97)]=_
    rw [if_neg (Nat.lt_irrefl n)]
   rw [aB,e3]
def oG (K:PySem.W.Frag):Sp:=fun vs H Q _=>∃ (l:Addr) (m n c:Nat) (a:My.nU),vs=[.ref l,.int c]∧rf K H l m n a∧c < n∧c≤m∧m≤1000∧n≤1000 ∧
 (∀ i:Nat,c≤i→i < m→a i c≠0→(∀ k,c≤k→k < i→a k c=0)→Q (.int i) H)∧((∀ i,c≤i→i < m→a i c=0)→Q .bN H)
theorem oH:aQ ["table","column","place"] ["table","column"] (aH hZ):=⟨rfl,rfl,rfl,by decide +kernel,rfl,by decide +kernel,by decide +kernel⟩
theorem wV (F:aP K mg "pivot_place" hZ) (T:Txt K mg t):Def P w K mg base 1 "pivot_place" ["table","column"] (oG K):=by
 refine F.def oH (fun _ _ _ _ _ _ us hl=>match us,hl with | [_,_],_=>rfl) (fun vs H Q E h=>?_) (fun f bo A outer s H vs Q E hr h=>?_)
 ·obtain ⟨l,m,n,c,a,rfl,_⟩:=h
  rfl
 ·obtain ⟨l,m,n,c,a,rfl,⟨as,g1,g2⟩,hc,Pq,hm,hn,q1,q2⟩:=h
  refine ⟨_,aC (PS.uX (dC PassesOwn.never rfl (tD (by rfl) T.df (aA (pv 1) (aA (bP (bQ K) (by rfl) T.iD boot_len (aA (pv 0) aD)) aD))) (az (i:=2) oH.nd rfl (Or.inl rfl))
    (aG (bD (aW BG (aR (aM K) (aR (aM K) (pv 0) (pv 2) (fun _ _=>rfl)) (pv 1) (fun _ _=>rfl)) aF (aj _))
     (aG (aV (pv 2)))
     (af)))))
   (aG (aV cJ)),?_⟩
  refine ⟨_,rfl,_,rfl,l,_,rfl,.inl g1,(c:Int),((bJ m as).length:Nat),rfl,⟨by omega,by omega,by omega,by rw [aL];omega⟩,?_⟩
  have en:((((bJ m as).length:Nat):Int) - (c:Int)).toNat=m - c:=by rw [aL];omega
  rw [en]
  refine fT (lo:=(c:Int)) (n:=m - c) (fun i σ H'=>∃ v:Option V,σ=[some (.ref l),some (.int c),v]∧H'=H∧∀ k,c≤k→k < c+i→a k c=0) ⟨none,rfl,rfl,fun k h1 h2=>by omega⟩ ?_ ?_
  ·rintro i σ H' hi ⟨v,rfl,rfl,hz⟩
   have ei:((c:Int)+(i:Nat)).toNat=c+i:=by omega
   refine ⟨_,rfl,_,rfl,l,_,_,_,rfl,rfl,g1,dF (by omega) (by omega),_,rfl,_,_,_,_,rfl,rfl,g2 _ (by omega),dF (by omega) (by omega),rfl,_,rfl,?_⟩
   by_cases z:a (c+i) c=0
   ·refine rX (by rw [ei,Int.toNat_natCast,z]) ?_
    refine ⟨_,rfl,rfl,fun k h1 h2=>?_⟩
    by_cases e:k=c+i
    ·rw [e];exact z
    ·exact hz k h1 (by omega)
   ·refine uc (fun e=>z (by have:=V.int.inj e;rwa [ei,Int.toNat_natCast] at this)) ?_
    refine ⟨_,rfl,?_⟩
    have:=q1 (c+i) (by omega) (by omega) z hz
    have e:((c+i:Nat):Int)=(c:Int)+(i:Nat):=by omega
    rw [e] at this
    exact this
  ·rintro σ H' ⟨v,rfl,rfl,hz⟩
   exact q2 fun i h1 h2=>hz i h1 (by omega)
def sH (K:PySem.W.Frag):Sp:=fun vs H Q _=>∃ (l:Addr) (m n c d:Nat) (a:My.nU),vs=[.ref l,.int c,.int d]∧rf K H l m n a∧c < m∧d < m∧m≤1000 ∧
 ∀ p H',H p=none→aI H H'→rf K H' p m n (My.swap a c d)→Q (.ref p) H'
theorem sI:aQ ["table","one","other","rows"] ["table","one","other"] (aH j5):=⟨rfl,rfl,rfl,by decide +kernel,rfl,by decide +kernel,by decide +kernel⟩
theorem AV (F:aP K mg "exchanged" j5) (T:Txt K mg t):Def P w K mg base 1 "exchanged" ["table","one","other"] (sH K):=by
 refine F.def sI (fun _ _ _ _ _ _ us hl=>match us,hl with | [_,_,_],_=>rfl) (fun vs H Q E h=>?_) (fun f bo A outer s H vs Q E hr h=>?_)
 ·obtain ⟨l,m,n,c,d,a,rfl,_⟩:=h
  rfl
 ·obtain ⟨l,m,n,c,d,a,rfl,⟨as,g1,g2⟩,hc,hd,hm,q⟩:=h
  refine ⟨_,aC (aT (i:=3) sI.nd rfl (Or.inl rfl) (gO (gP K) (by rfl) T.qT boot_list (aA (pv 0) aD)))
   (aC (nZ (aR (aM K) (pv 0) (pv 2) (fun _ _=>rfl)) (nY (pv 3) (pv 1) set_list))
   (aC (nZ (aR (aM K) (pv 0) (pv 1) (fun _ _=>rfl)) (nY (pv 3) (pv 2) set_list))
   (aG (aV (pv 3))))),?_⟩
  refine ⟨_,rfl,l,_,rfl,.inl g1,fun p hp=>?_⟩
  have s1:=(aI.refl H).new (o:=.lst (bJ m as)) hp
  refine ⟨_,rfl,_,rfl,l,_,_,_,rfl,rfl,s1.seq g1,dF (by omega) (by omega),_,rfl,_,rfl,p,_,_,_,rfl,rfl,aB,vq (by omega) (by omega),?_⟩
  have s2:=s1.put (o:=.lst ((bJ m as).set (c:Int).toNat (V.ref (as (d:Int).toNat)))) hp
  rw [rZ (by omega)] at *
  refine ⟨_,rfl,_,rfl,l,_,_,_,rfl,rfl,s2.seq g1,dF (by omega) (by omega),_,rfl,_,rfl,p,_,_,_,rfl,rfl,aB,vq (by omega) (by omega),?_⟩
  rw [rZ (by omega)]
  refine ⟨_,rfl,?_⟩
  refine q p _ hp (s2.put hp) ⟨fun i=>if i=d then as c else if i=c then as d else as i,aX.of ?_,fun i hi=>(s2.put hp).seq ?_⟩
  ·rw [aB]
   refine congrArg (fun l=>some (HO.lst l)) (bW fun i hi=>?_)
   rw [Int.toNat_natCast,Int.toNat_natCast]
   by_cases e:i=d
   ·simp [e]
   ·by_cases e2:i=c
    ·subst e2
     simp [e]
    ·simp [e,e2]
  ·unfold My.swap
   by_cases e:i=d
   ·subst e
    by_cases e2:i=c
    ·subst e2;simp;exact g2 i hi
    ·simp [e2];exact g2 c hc
   ·by_cases e2:i=c
    ·subst e2;simp [e];exact g2 d hd
    ·simp [e,e2];exact g2 i hi
def uq (K:PySem.W.Frag):Sp:=fun vs H Q _=>∃ (l b:Addr) (n:Nat) (f g:Nat→Int) (z:Int),vs=[.ref l,.ref b,.int z]∧aX K H l (tabI n f)∧aX K H b (tabI n g)∧n≤1000∧0≤z∧z < 97 ∧
 ∀ p H',H p=none→aI H H'→H' p=some (.lst (tabI n fun j=>(f j - z * g j) % 97))→Q (.ref p) H'
theorem CG:aQ ["row","head","times"] ["row","head","times"] (aH jO):=⟨rfl,rfl,rfl,by decide +kernel,rfl,by decide +kernel,by decide +kernel⟩
theorem CH (F:aP K mg "lessened" jO) (T:Txt K mg t):Def P w K mg base 1 "lessened" ["row","head","times"] (uq K):=by
 refine F.def CG (fun _ _ _ _ _ _ us hl=>match us,hl with | [_,_,_],_=>rfl) (fun vs H Q E h=>?_) (fun f bo A outer s H vs Q E hr h=>?_)
 ·obtain ⟨l,b,n,f,g,z,rfl,_⟩:=h
  rfl
 ·obtain ⟨l,b,n,f',g',z,rfl,hl,hb,hn,z0,z1,q⟩:=h
  refine ⟨_,aG (aV (lE rfl (Nc:=["sign","top","times"]) (ix:=[none,none,some 2]) (dE (aH jO) ["row","head","times"] rfl rfl (by decide +kernel)) (z7 K (by rfl) T.Fn (aA (pv 0) (aA (pv 1) aD))) (fun C fp s H=>⟨(pQ K (i:=0) (j:=1) rfl (show (["sign","top","times"]:List Str).Nodup by decide +kernel) rfl rfl (Or.inl rfl) (Or.inl rfl)),cX,(aN aw (aN jJ (pv 0) (aN eJ (pv 2) (pv 1))) (aS T.cO))⟩))),?_⟩
  have hsz:(2000:Nat)≤sizeLine:=by decide
  refine ⟨_,rfl,_,rfl,l,b,rfl,⟨_,hl⟩,⟨_,hb⟩,fun D hD=>?_⟩
  refine FW (K:=K) (a:=l) (b:=b) (n:=n) (F:=fun j=>V.int (f' j)) (G:=fun j=>V.int (g' j)) (fun i σ H'=>∃ v u:Option V,σ=[v,u,some (.int z)]∧aI H H'∧H' D=some (.lst (tabI i fun j=>(f' j - z * g' j) % 97))) ⟨none,none,rfl,(aI.refl _).new hD,aB⟩ (fun i σ H' _ ⟨_,_,_,s1,_⟩=>⟨s1.seq hl,s1.seq hb⟩) ?_ ?_
  ·rintro i p σ H' N hN hi ⟨v,u,rfl,s1,h1⟩ hp
   refine vo ?_
   have nD:D≠p:=aK h1 hp
   refine ⟨_,rfl,_,rfl,_,rfl,_,_,rfl,rfl,.inl ⟨by omega,by omega⟩,_,_,rfl,rfl,_,_,rfl,rfl,(by show (0:Int) < 97;decide),_,(by rw [aE nD];exact h1),by rw [aL];omega,?_⟩
   exact hN _ _ ⟨_,_,rfl,(s1.new hp).put hD,j0 rfl⟩
  ·rintro σ H' ⟨v,u,rfl,s1,h1⟩
   exact q D H' hD s1 h1
def wW (K:PySem.W.Frag):Sp:=fun vs H Q _=>∃ (l:Addr) (m n c:Nat) (a:My.nU),vs=[.ref l,.int c]∧rf K H l m n a∧c < m∧c < n∧m≤1000∧n≤1000∧(∀ i j,i < m→j < n→0≤a i j∧a i j < 97)∧a c c≠0 ∧
 ∀ p H',H p=none→aI H H'→rf K H' p m n (My.clear a c (My.P (a c c) 95))→Q (.ref p) H'
theorem mO:aQ ["table","column","factor","head","rows"] ["table","column"] (aH jC):=⟨rfl,rfl,rfl,by decide +kernel,rfl,by decide +kernel,by decide +kernel⟩
theorem Dn (F:aP K mg "cleared" jC) (T:Txt K mg t) (jE:Def P w K mg base 4 "inverse" ["a"] (qU t.BadSign)) (qW:Def P w K mg base 1 "lessened" ["row","head","times"] (uq K)):Def P w K mg base 5 "cleared" ["table","column"] (wW K):=by
 refine F.def mO (fun _ _ _ _ _ _ us hl=>match us,hl with | [_,_],_=>rfl) (fun vs H Q E h=>?_) (fun f bo A outer s H vs Q E hr h=>?_)
 ·obtain ⟨l,m,n,c,a,rfl,_⟩:=h
  rfl
 ·obtain ⟨l,m,n,c,a,rfl,⟨as,g1,g2⟩,Pq,Qy,hm,hn,ha,h0,q⟩:=h
  refine ⟨_,aC (aT (i:=2) mO.nd rfl (Or.inr rfl) (aZ (jE.mono (by decide)) hr (lG bC) (aA (aR (aM K) (aR (aM K) (pv 0) (pv 1) (fun _ _=>rfl)) (pv 1) (fun _ _=>rfl)) aD)))
   (aC (aT (i:=3) mO.nd rfl (Or.inr rfl) (lE rfl (Nc:=["sign","factor"]) (ix:=[none,some 2]) (dE (aH jC) ["table","column","factor","head","rows"] rfl rfl (by decide +kernel)) (cM K (aR (aM K) (pv 0) (pv 1) (fun _ _=>rfl))) (fun C fp s H=>⟨(az (i:=0) (show (["sign","factor"]:List Str).Nodup by decide +kernel) rfl (Or.inl rfl)),cX,(aN aw (aN eJ (pv 0) (pv 1)) (aS T.cO))⟩)))
   (aC (lF (i:=4) mO.nd rfl (Or.inl rfl) rfl (Nc:=["row","head","column"]) (ix:=[none,some 3,some 1]) (dE (aH jC) ["table","column","factor","head","rows"] rfl rfl (by decide +kernel)) (cM K (pv 0)) (fun C fp s H=>⟨(az (i:=0) (show (["row","head","column"]:List Str).Nodup by decide +kernel) rfl (Or.inl rfl)),cX,(aZ (qW.mono (by decide)) hr ar (aA (pv 0) (aA (pv 1) (aA (aR (aM K) (pv 0) (pv 2) (fun _ _=>rfl)) aD))))⟩))
   (aC (nZ (pv 3) (nY (pv 4) (pv 1) set_list))
   (aG (aV (pv 4)))))),?_⟩
  have hsz:(2000:Nat)≤sizeLine:=by decide
  have ec:((c:Nat):Int).toNat=c:=Int.toNat_natCast c
  have K1:=ha c c Pq Qy
  refine ⟨_,rfl,_,rfl,l,_,_,_,rfl,rfl,g1,dF (by omega) (by omega),_,rfl,_,_,_,_,rfl,rfl,g2 _ (by omega),dF (by omega) (by omega),_,rfl,?_,fun _=>?_,fun h=>absurd ?_ h⟩
  ·rw [ec];exact dt (by omega) (by omega)
  ·rw [ec]
   have f0:=My.Sn (a c c) 95
   have f1:=My.Pf (a c c) 95
   generalize My.P (a c c) 95=N5 at *
   refine ⟨_,rfl,_,rfl,l,_,_,_,rfl,rfl,g1,dF (by omega) (by omega),_,rfl,⟨_,g2 _ (by omega)⟩,fun D hD=>?_⟩
   rw [ec]
   refine tJ (K:=K) (a:=as c) (n:=n) (F:=fun j=>V.int (a c j)) (fun i σ H'=>∃ v:Option V,σ=[v,some (.int N5)]∧aI H H'∧H' D=some (.lst (tabI i fun j=>a c j * N5 % 97))) ⟨none,rfl,(aI.refl _).new hD,aB⟩ (fun i σ H' _ ⟨_,_,s1,_⟩=>s1.seq (g2 c Pq)) ?_ ?_
   ·rintro i σ H' N hN hi ⟨v,rfl,s1,h1⟩
    have hb:=ha c i Pq hi
    refine de ?_
    refine ⟨_,rfl,_,rfl,_,_,rfl,rfl,.inl ⟨by omega,by omega⟩,_,_,rfl,rfl,(by show (0:Int) < 97;decide),_,h1,by rw [aL];omega,?_⟩
    exact hN _ _ ⟨_,rfl,s1.put hD,j0 rfl⟩
   ·rintro σ H1 ⟨v,rfl,s1,h1⟩
    refine ⟨_,rfl,l,rfl,⟨_,s1.seq g1⟩,fun D2 HI=>?_⟩
    have nDD:D≠D2:=aK h1 HI
    refine tJ (K:=K) (a:=l) (n:=m) (F:=fun i=>V.ref (as i)) (fun i σ H'=>∃ (v:Option V) (ps:Nat→Addr),σ=[v,some (.ref D),some (.int c)]∧aI H1 H'∧H' D2=some (.lst (bJ i ps))∧∀ k,k < i→aX K H' (ps k) (tabI n fun j=>(a k j - a k c * (a c j * N5 % 97)) % 97)∧ps k≠D2)
     ⟨none,as,rfl,(aI.refl _).new HI,aB,fun k hk=>by omega⟩ (fun i σ H' _ ⟨_,_,_,s2,_⟩=>s2.seq (s1.seq g1)) ?_ ?_
    ·rintro i σ H' N hN hi ⟨v,ps,rfl,s2,h2,hp⟩
     have hb:=ha i c hi Qy
     refine de ?_
     refine ⟨_,rfl,_,rfl,_,rfl,_,rfl,as i,_,_,_,rfl,rfl,s2.seq (s1.seq (g2 i hi)),dF (by omega) (by omega),as i,D,n,a i,(fun j=>a c j * N5 % 97),_,rfl,s2.seq (s1.seq (g2 i hi)),aX.of (s2 _ _ h1),hn,?_,?_,fun p H2 ML s3 h3=>?_⟩
     ·rw [ec];exact hb.1
     ·rw [ec];exact hb.2
     ·have np:D2≠p:=aK h2 ML
      refine ⟨_,s3 _ _ h2,by rw [aL];omega,?_⟩
      rw [dR]
      refine hN _ _ ⟨_,_,rfl,(s2.trans s3).put HI,aB,fun k hk=>?_⟩
      by_cases e:k=i
      ·subst e
       simp only [if_true]
       refine ⟨aX.of ?_,Ne.symm np⟩
       rw [aE (Ne.symm np),h3,ec]
      ·simp only [e,if_false]
       obtain ⟨q1,q2⟩:=hp k (by omega)
       refine ⟨?_,q2⟩
       rcases s3.seq q1 with (z | ⟨o,z⟩) | z
       ·exact .inl (.inl (by rw [aE q2];exact z))
       ·exact .inl (.inr ⟨o,by rw [aE q2];exact z⟩)
       ·exact .inr z
    ·rintro σ H' ⟨v,ps,rfl,s2,h2,hp⟩
     refine ⟨_,rfl,_,rfl,_,rfl,D2,_,_,_,rfl,rfl,h2,vq (by omega) (by omega),?_⟩
     rw [rZ (by omega),ec]
     refine ⟨_,rfl,?_⟩
     refine q D2 _ (s1.free HI) ((s1.trans s2).put (s1.free HI)) ⟨fun k=>if k=c then D else ps k,aX.of ?_,fun i hi=>?_⟩
     ·rw [aB]
      refine congrArg (fun l=>some (HO.lst l)) (bW fun k hk=>?_)
      by_cases e:k=c <;> simp [e]
     ·by_cases e:i=c
      ·subst e
       have e2:tabI n (My.clear a i N5 i)=tabI n fun j=>a i j * N5 % 97:=bW fun j hj=>by unfold My.clear;rw [if_pos rfl]
       simp only [if_true]
       rw [e2]
       exact aX.of (by rw [aE nDD];exact s2 _ _ h1)
      ·obtain ⟨q1,q2⟩:=hp i hi
       have e2:tabI n (My.clear a c N5 i)=tabI n fun j=>(a i j - a i c * (a c j * N5 % 97)) % 97:=bW fun j hj=>by unfold My.clear;rw [if_neg e]
       simp only [e,if_false]
       rw [e2]
       rcases q1 with (z | ⟨o,z⟩) | z
       ·exact .inl (.inl (by rw [aE q2];exact z))
       ·exact .inl (.inr ⟨o,by rw [aE q2];exact z⟩)
       ·exact .inr z
  ·rw [ec];exact ⟨by omega,K1.2⟩
def iS (n:Nat) (a:My.nU) (b:Nat→Int):My.nU:=fun i j=>(if j < n then a i j else b i) % 97
theorem Fp (n:Nat) (a:My.nU) (b:Nat→Int) (z:Nat→Int) (i:Nat):(97:Int) ∣ My.ip (n+1) (iS n a b i) z - (My.ip n (a i) z+b i * z n):=by
 have h1:My.ip (n+1) (iS n a b i) z=My.ip n (iS n a b i) z+iS n a b i n * z n:=by unfold My.ip;rw [My.sumTo]
 have h2:(97:Int) ∣ My.ip n (iS n a b i) z - My.ip n (a i) z:=My.Bj fun j hj=>by unfold iS;rw [if_pos hj];exact My.ff _
 have h3:(97:Int) ∣ iS n a b i n * z n - b i * z n:=by
  have:(97:Int) ∣ (iS n a b i n - b i) * z n:=Int.dvd_trans (by unfold iS;rw [if_neg (Nat.lt_irrefl n)];exact My.ff _) (Int.dvd_mul_right _ _)
  rwa [Int.sub_mul] at this
 rw [h1]
 have:=Int.dvd_add h2 h3
 rwa [show My.ip n (iS n a b i) z - My.ip n (a i) z+(iS n a b i n * z n - b i * z n)=My.ip n (iS n a b i) z+iS n a b i n * z n - (My.ip n (a i) z+b i * z n) by omega] at this
theorem wX {n:Nat} {a:My.nU} {b:Nat→Int} {z:Nat→Int}:My.pS n (n+1) (iS n a b) z↔∀ i,i < n→(97:Int) ∣ My.ip n (a i) z+b i * z n:=by
 constructor
 ·intro k i hi
  have:=Int.dvd_sub (k i hi) (Fp n a b z i)
  rwa [show My.ip (n+1) (iS n a b i) z - (My.ip (n+1) (iS n a b i) z - (My.ip n (a i) z+b i * z n))=My.ip n (a i) z+b i * z n by omega] at this
 ·intro k i hi
  have:=Int.dvd_add (k i hi) (Fp n a b z i)
  rwa [show My.ip n (a i) z+b i * z n+(My.ip (n+1) (iS n a b i) z - (My.ip n (a i) z+b i * z n))=My.ip (n+1) (iS n a b i) z by omega] at this
theorem Jw (n:Nat) (r z:Nat→Int) (u:Int):My.ip n r (fun j=>if j < n then z j else u)=My.ip n r z:=My.bE n fun j hj=>by simp [hj]
theorem MM {n c:Nat} {a:My.nU} {b:Nat→Int} {u:My.nU} (hk:∀ z,My.pS n (n+1) u z↔My.pS n (n+1) (iS n a b) z) (h:My.Clear n c u) (hc:c < n) (hz:∀ i,c≤i→i < n→u i c=0):¬ My.vT n a:=by
 obtain ⟨z,k,z1,z2⟩:=h.stuck hc hz
 intro r
 have k2:=wX.mp ((hk z).mp k)
 have:=r z (fun i hi=>by have:=k2 i hi;rw [z2] at this;simpa using this) c hc
 rw [z1] at this
 omega
theorem Ds {n:Nat} {a:My.nU} {b:Nat→Int} {u:My.nU} (hk:∀ z,My.pS n (n+1) u z↔My.pS n (n+1) (iS n a b) z) (h:My.Clear n n u):My.vT n a∧∀ i,i < n→(97:Int) ∣ My.ip n (a i) (fun j=>u j n) - b i:=by
 constructor
 ·intro z k j hj
  have k2:My.pS n (n+1) (iS n a b) (fun j=>if j < n then z j else 0):=wX.mpr fun i hi=>by
   rw [Jw]
   simp only [Nat.lt_irrefl,if_false,Int.mul_zero,Int.add_zero]
   exact k i hi
  have k3:=(hk _).mpr k2 j hj
  rw [h.full _ j hj] at k3
  simpa [hj] using k3
 ·intro i hi
  have k1:My.pS n (n+1) u (fun j=>if j < n then - u j n else 1):=fun i hi=>by
   rw [h.full _ i hi]
   simp only [hi,if_true,Nat.lt_irrefl,if_false]
   exact ⟨0,by omega⟩
  have k2:=wX.mp ((hk _).mp k1) i hi
  rw [Jw] at k2
  simp only [Nat.lt_irrefl,if_false,Int.mul_one] at k2
  have e:My.ip n (a i) (fun j=>- u j n)=- My.ip n (a i) (fun j=>u j n):=by
   have:=My.pR (-1) (fun j=>a i j * u j n) n
   unfold My.ip
   rw [show My.sumTo n (fun j=>a i j * - u j n)=My.sumTo n (fun j=>-1 * (a i j * u j n)) from My.bE n fun j _=>by grind,this]
   show -1 * My.sumTo n (fun j=>a i j * u j n)=- My.sumTo n (fun j=>a i j * u j n)
   omega
  rw [e] at k2
  have:=Int.dvd_neg.mpr k2
  rwa [show -(-My.ip n (a i) (fun j=>u j n)+b i)=My.ip n (a i) (fun j=>u j n) - b i by omega] at this
theorem Jx {m n c:Nat} {a:My.nU} {f:Int}:∀ i j,i < m→j < n→0≤My.clear a c f i j∧My.clear a c f i j < 97:=fun i j _ _=>by
 unfold My.clear
 split <;> exact ⟨Int.emod_nonneg _ (by decide),Int.emod_lt_of_pos _ (by decide)⟩
theorem MN {m n p q:Nat} {a:My.nU} (hp:p < m) (hq:q < m) (h:∀ i j,i < m→j < n→0≤a i j∧a i j < 97):∀ i j,i < m→j < n→0≤My.swap a p q i j∧My.swap a p q i j < 97:=fun i j hi hj=>by
 unfold My.swap
 split
 ·exact h q j hq hj
 ·split
  ·exact h p j hp hj
  ·exact h i j hi hj
def tT (K:PySem.W.Frag):Sp:=fun vs H Q _=>∃ (l r:Addr) (n:Nat) (a:My.nU) (b:Nat→Int),vs=[.ref l,.ref r]∧rf K H l n n a∧aX K H r (tabI n b)∧n≤100 ∧
 (My.vT n a→∀ p H' x,H p=none→aI H H'→H' p=some (.lst (tabI n x))→(∀ i,i < n→0≤x i∧x i < 97)→(∀ i,i < n→(97:Int) ∣ My.ip n (a i) x - b i)→Q (.ref p) H')∧(¬ My.vT n a→∀ H',aI H H'→Q .bN H')
theorem lR:aQ ["rows","right","table","column","place"] ["rows","right"] (aH lJ):=⟨rfl,rfl,rfl,by decide +kernel,rfl,by decide +kernel,by decide +kernel⟩
theorem HJ (F:aP K mg "solved" lJ) (T:Txt K mg t) (qX:Def P w K mg base 1 "equation" ["row","side"] (uk K)) (kO:Def P w K mg base 1 "pivot_place" ["table","column"] (oG K))
  (oI:Def P w K mg base 1 "exchanged" ["table","one","other"] (sH K)) (tU:Def P w K mg base 5 "cleared" ["table","column"] (wW K)):Def P w K mg base 6 "solved" ["rows","right"] (tT K):=by
 refine F.def lR (fun _ _ _ _ _ _ us hl=>match us,hl with | [_,_],_=>rfl) (fun vs H Q E h=>?_) (fun f bo A outer s H vs Q E hr h=>?_)
 ·obtain ⟨l,r,n,a,b,rfl,_⟩:=h
  rfl
 ·obtain ⟨l,r,n,a,b,rfl,⟨as,g1,g2⟩,Q5,hn,q1,q2⟩:=h
  refine ⟨_,aC (lF (i:=2) lR.nd rfl (Or.inl rfl) rfl (Nc:=["row","side"]) (ix:=[none,none]) (dE (aH lJ) ["rows","right","table","column","place"] rfl rfl (by decide +kernel)) (z7 K (by rfl) T.Fn (aA (pv 0) (aA (pv 1) aD))) (fun C fp s H=>⟨(pQ K (i:=0) (j:=1) rfl (show (["row","side"]:List Str).Nodup by decide +kernel) rfl rfl (Or.inl rfl) (Or.inl rfl)),cX,(aZ (qX.mono (by decide)) hr ar (aA (pv 0) (aA (pv 1) aD)))⟩))
   (aC (PS.uX (dC PassesOwn.never rfl (cv (by rfl) T.df (aA (bP (bQ K) (by rfl) T.iD boot_len (aA (pv 2) aD)) aD)) (az (i:=3) lR.nd rfl (Or.inl rfl))
    (aC (aT (i:=4) lR.nd rfl (Or.inl rfl) (aZ (kO.mono (by decide)) hr ar (aA (pv 2) (aA (pv 3) aD))))
    (aC (bD (aW tE (pv 4) cJ (aj _))
     (aG (aV cJ))
     (af))
    (aG (aT (i:=2) lR.nd rfl (Or.inl rfl) (aZ (tU.mono (by decide)) hr ar (aA (aZ (oI.mono (by decide)) hr ar (aA (pv 2) (aA (pv 3) (aA (pv 4) aD)))) (aA (pv 3) aD)))))))))
   (aG (aV (lE rfl (Nc:=["row"]) (ix:=[none]) (dE (aH lJ) ["rows","right","table","column","place"] rfl rfl (by decide +kernel)) (cM K (pv 2)) (fun C fp s H=>⟨(az (i:=0) (show (["row"]:List Str).Nodup by decide +kernel) rfl (Or.inl rfl)),cX,(aR (aM K) (pv 0) (FA zd aF) (fun _ _=>rfl))⟩))))),?_⟩
  have hsz:(2000:Nat)≤sizeLine:=by decide
  refine ⟨_,rfl,_,rfl,l,r,rfl,⟨_,g1⟩,⟨_,Q5⟩,fun D hD=>?_⟩
  refine FW (K:=K) (a:=l) (b:=r) (n:=n) (F:=fun i=>V.ref (as i)) (G:=fun i=>V.int (b i)) (fun i σ H'=>∃ (v u:Option V) (ps:Nat→Addr),σ=[v,u]∧aI H H'∧H' D=some (.lst (bJ i ps))∧∀ k,k < i→H' (ps k)=some (.lst (tabI (n+1) (iS n a b k)))∧ps k≠D)
   ⟨none,none,as,rfl,(aI.refl _).new hD,aB,fun k hk=>by omega⟩ (fun i σ H' _ ⟨_,_,_,_,s1,_⟩=>⟨s1.seq g1,s1.seq Q5⟩) ?_ ?_
  ·rintro i pt σ H' N hN hi ⟨v,u,ps,rfl,s1,h1,hp⟩ Y2
   refine vo ?_
   have nD:D≠pt:=aK h1 Y2
   have st:=(aI.refl H').new (o:=.tup [V.ref (as i),V.int (b i)]) Y2
   refine ⟨_,rfl,_,rfl,as i,n,a i,b i,rfl,st.seq (s1.seq (g2 i hi)),by omega,fun p H2 ML s2 h2=>?_⟩
   have s3:=st.trans s2
   have np:D≠p:=aK (st _ _ h1) ML
   refine ⟨_,s3 _ _ h1,by rw [aL];omega,?_⟩
   rw [dR]
   refine hN _ _ ⟨_,_,_,rfl,(s1.trans s3).put hD,aB,fun k hk=>?_⟩
   by_cases e:k=i
   ·subst e
    simp only [if_true]
    exact ⟨by rw [aE (Ne.symm np),h2];rfl,Ne.symm np⟩
   ·simp only [e,if_false]
    obtain ⟨z1,z2⟩:=hp k (by omega)
    exact ⟨by rw [aE z2];exact s3 _ _ z1,z2⟩
  ·rintro σ H1 ⟨v,u,ps,rfl,s1,h1,hp⟩
   have G0:rf K H1 D n (n+1) (iS n a b):=⟨ps,aX.of h1,fun i hi=>aX.of (hp i hi).1⟩
   refine ⟨_,rfl,D,_,rfl,.inl (aX.of h1),_,rfl,by omega,by rw [aL];omega,?_⟩
   have en:(((bJ n ps).length:Nat):Int).toNat=n:=by rw [aL,Int.toNat_natCast]
   rw [en]
   refine fT (lo:=0) (n:=n) (fun c σ H'=>∃ (v v':Option V) (l':Addr) (u:My.nU),σ=[some (.ref l),some (.ref r),some (.ref l'),v,v']∧aI H1 H'∧rf K H' l' n (n+1) u∧(∀ i j,i < n→j < n+1→0≤u i j∧u i j < 97)∧My.Clear n c u∧∀ z,My.pS n (n+1) u z↔My.pS n (n+1) (iS n a b) z)
    ⟨none,none,D,iS n a b,rfl,aI.refl _,G0,fun i j _ _=>⟨Int.emod_nonneg _ (by decide),Int.emod_lt_of_pos _ (by decide)⟩,My.Clear.start _ _,fun z=>Iff.rfl⟩ ?_ ?_
   ·rintro c σ H' hc ⟨v,v',l',u,rfl,s2,G,hu,K5,hk⟩
    have e0:(0:Int)+(c:Nat)=((c:Nat):Int):=by omega
    rw [e0]
    refine ⟨_,rfl,_,rfl,l',n,n+1,c,u,rfl,G,by omega,by omega,by omega,by omega,fun p CA vy HG _=>?_,fun hz=>?_⟩
    ·refine ⟨_,rfl,rfl,_,rfl,dW (fun z=>nomatch z) ?_⟩
     refine ⟨_,rfl,_,rfl,_,rfl,l',n,n+1,c,p,u,rfl,G,hc,vy,by omega,fun x1 H2 xy s3 G2=>?_⟩
     have Uv:My.swap u c p c c=u p c:=by unfold My.swap;rw [if_pos rfl]
     have Qx:=MN (n:=n+1) hc vy hu
     have U5:=Qx c c hc (by omega)
     refine ⟨_,rfl,x1,n,n+1,c,My.swap u c p,rfl,G2,hc,by omega,by omega,by omega,Qx,by rw [Uv];exact HG,fun x2 H3 SS s4 G3=>?_⟩
     have hinv:(97:Int) ∣ My.P (My.swap u c p c c) 95 * My.swap u c p c c - 1:=by
      have:=My.Ny (a:=My.swap u c p c c) (by rw [Uv] at *;omega) U5.2
      omega
     exact ⟨_,_,x2,_,rfl,s2.trans (s3.trans s4),G3,Jx,(K5.swap CA vy).clear hc hinv,fun z=>(My.pS.clear hc hinv).trans ((My.pS.swap hc vy).trans (hk z))⟩
    ·refine ⟨_,rfl,rfl,_,rfl,eN rfl ?_⟩
     exact q2 (MM hk K5 hc hz) H' (s1.trans s2)
   ·rintro σ H' ⟨v,v',l',u,rfl,s2,⟨bs,G1,G2⟩,hu,K5,hk⟩
    obtain ⟨MO,Wn⟩:=Ds hk K5
    refine ⟨_,rfl,l',rfl,⟨_,G1⟩,fun D2 HI=>?_⟩
    refine tJ (K:=K) (a:=l') (n:=n) (F:=fun i=>V.ref (bs i)) (fun i σ H2=>∃ v:Option V,σ=[v]∧aI H' H2∧H2 D2=some (.lst (tabI i fun k=>u k n))) ⟨none,rfl,(aI.refl _).new HI,aB⟩ (fun i σ H' _ ⟨_,_,s1,_⟩=>s1.seq G1) ?_ ?_
    ·rintro i σ H2 N hN hi ⟨v,rfl,s3,h3⟩
     refine de ?_
     refine ⟨_,rfl,_,rfl,_,_,_,_,rfl,rfl,s3.seq (G2 i hi),JN,_,h3,by rw [aL];omega,?_⟩
     exact hN _ _ ⟨_,rfl,s3.put HI,j0 rfl⟩
    ·rintro σ H2 ⟨v,rfl,s3,h3⟩
     have TF:=(s1.trans s2)
     exact q1 MO D2 H2 _ (TF.free HI) (TF.trans s3) h3 (fun i hi=>hu i n hi (by omega)) Wn
end
end K31
namespace K31
open PySem L2 PyProof.Rows
section
variable {P:Program} {w:World} {K:PySem.W.Frag} {mg:Str→Option Value} {base:Heap} {t:Ad}
def qD (K:PySem.W.Frag):Sp:=fun vs H Q _=>∃ (l:Addr) (s:Nat→Int),vs=[.ref l]∧aX K H l (tabI 6 s)∧(∀ j,j < 6→0≤s j∧s j < 97) ∧
 ∀ p H',H p=none→aI H H'→H' p=some (.lst ((My.nv s).map fun k=>V.int (k:Nat)))→Q (.ref p) H'
theorem qE:aQ ["sums","place"] ["sums"] (aH i4):=⟨rfl,rfl,rfl,by decide +kernel,rfl,by decide +kernel,by decide +kernel⟩
theorem x3 (F:aP K mg "lone_place" i4) (T:Txt K mg t) (qY:Def P w K mg base 4 "exponent" ["a"] (uh t.BadSign)) (jE:Def P w K mg base 4 "inverse" ["a"] (qU t.BadSign)):Def P w K mg base 5 "lone_place" ["sums"] (qD K):=by
 refine F.def qE (fun _ _ _ _ _ _ us hl=>match us,hl with | [_],_=>rfl) (fun vs H Q E h=>?_) (fun f bo A outer s H vs Q E hr h=>?_)
 ·obtain ⟨l,s,rfl,_⟩:=h
  rfl
 ·obtain ⟨l,s,rfl,hl,bs,q⟩:=h
  refine ⟨_,aC (bD (PW.pt (BA (aW jK (aR (aM K) (pv 0) aF (fun _ _=>rfl)) aF (aj _)) (vb (aW jK (aR (aM K) (pv 0) aF (fun _ _=>rfl)) aF (aj _)))))
    (aG (aV (bF aD)))
    (af))
   (aC (aT (i:=1) qE.nd rfl (Or.inl rfl) (aZ (qY.mono (by decide)) hr ar (aA (aN aw (aN eJ (aR (aM K) (pv 0) aF (fun _ _=>rfl)) (aZ (jE.mono (by decide)) hr ar (aA (aR (aM K) (pv 0) aF (fun _ _=>rfl)) aD))) (aS T.cO)) aD)))
   (aG (aV (nX (aW jy (pv 1) (aS T.AE) (aj _)) (bF (aA (pv 1) aD)) (bF aD))))),?_⟩
  have b0:=bs 0 (by decide)
  have b1:=bs 1 (by decide)
  have a0:xg (tabI 6 s) 0=some (V.int (s 0)):=dF (n:=6) (by decide) (by decide)
  have a1:xg (tabI 6 s) 1=some (V.int (s 1)):=dF (n:=6) (by decide) (by decide)
  have q':∀ p,H p=none→Q (.ref p) (upd H p (.lst ((My.nv s).map fun k=>V.int (k:Nat)))):=fun p hp=>q p _ hp ((aI.refl _).new hp) aB
  refine ⟨_,rfl,l,_,_,_,rfl,rfl,hl,a0,rfl,_,rfl,?_⟩
  by_cases z0:s 0=0
  ·refine eN (by rw [z0]) (fc ?_)
   refine ⟨by show 0≤sizeLine;decide,fun p hp=>?_⟩
   have:=q' p hp
   rwa [My.nv,if_pos (.inl z0)] at this
  ·refine dW (fun e=>z0 (V.int.inj e)) ?_
   refine ⟨_,rfl,l,_,_,_,rfl,rfl,hl,a1,rfl,_,rfl,?_⟩
   by_cases z1:s 1=0
   ·refine eN (by rw [z1]) ?_
    refine ⟨by show 0≤sizeLine;decide,fun p hp=>?_⟩
    have:=q' p hp
    rwa [My.nv,if_pos (.inr z1)] at this
   ·refine dW (fun e=>z1 (V.int.inj e)) ?_
    have hinv:=My.G6 (a:=s 0) (by omega) b0.2
    have TH:=My.Pf (s 0) 95
    have hv:=My.Pg (a:=s 1) (b:=My.P (s 0) 95) (by omega) b1.2 hinv TH
    have U6:s 1 * My.P (s 0) 95 % 97 < 97:=Int.emod_lt_of_pos _ (by decide)
    refine ⟨_,rfl,l,_,_,_,rfl,rfl,hl,a1,_,rfl,l,_,_,_,rfl,rfl,hl,a0,s 0,rfl,dt (by omega) (by omega),fun _=>?_,fun h=>absurd ⟨by omega,b0.2⟩ h⟩
    refine ⟨_,_,rfl,rfl,.inl ⟨by omega,by omega⟩,_,_,rfl,rfl,(by show (0:Int) < 97;decide),_,rfl,dt (by omega) (by omega),fun _=>?_,fun h=>absurd ⟨hv,U6⟩ h⟩
    have e0:=My.Jd (s 1 * My.P (s 0) 95 % 97)
    refine ⟨_,rfl,_,_,rfl,rfl,_,rfl,?_⟩
    by_cases hp:My.ex (s 1 * My.P (s 0) 95 % 97) < 24
    ·refine eN hp ?_
     refine ⟨_,rfl,by show 1≤sizeLine;decide,fun p ML=>?_⟩
     have:=q' p ML
     rw [My.nv,if_neg (by omega),if_pos hp] at this
     have e1:[V.int (My.ex (s 1 * My.P (s 0) 95 % 97))]=([(My.ex (s 1 * My.P (s 0) 95 % 97)).toNat].map fun k=>V.int (k:Nat)):=by
      show _=[V.int (((My.ex (s 1 * My.P (s 0) 95 % 97)).toNat:Nat):Int)]
      rw [Int.toNat_of_nonneg e0]
     rw [e1]
     exact this
    ·refine dW hp ?_
     refine ⟨by show 0≤sizeLine;decide,fun p ML=>?_⟩
     have:=q' p ML
     rwa [My.nv,if_neg (by omega),if_neg hp] at this
def wY:Sp:=fun vs H Q _=>∃ x t u:Int,vs=[.int x,.int t,.int u]∧0≤x∧x < 97∧0≤t∧t < 97∧Q (.bl (decide ((x * x - t * x+u) % 97=0))) H
theorem Du:aQ ["point","total","product"] ["point","total","product"] (aH pV):=⟨rfl,rfl,rfl,by decide +kernel,rfl,by decide +kernel,by decide +kernel⟩
theorem Dw (F:aP K mg "is_root" pV) (T:Txt K mg t):Def P w K mg base 1 "is_root" ["point","total","product"] wY:=by
 refine F.def Du (fun _ _ _ _ _ _ us hl=>match us,hl with | [_,_,_],_=>rfl) (fun vs H Q E h=>?_) (fun f bo A outer s H vs Q E hr h=>?_)
 ·obtain ⟨x,t,u,rfl,_⟩:=h
  rfl
 ·obtain ⟨x,tt,u,rfl,x0,x1,t0,t1,q⟩:=h
  refine ⟨_,aG (aV (pN jK (aN aw (aN bA (aN jJ (aN eJ (pv 0) (pv 0)) (aN eJ (pv 1) (pv 0))) (pv 2)) (aS T.cO)) aF (aj _))),?_⟩
  refine ⟨_,rfl,_,rfl,_,_,rfl,rfl,.inl ⟨by omega,by omega⟩,_,rfl,_,rfl,_,_,rfl,rfl,.inl ⟨by omega,by omega⟩,_,_,rfl,rfl,_,rfl,_,_,rfl,rfl,_,_,rfl,rfl,(by show (0:Int) < 97;decide),rfl,?_⟩
  have e:decide (V.int ((x * x - tt * x+u) % 97)=V.int 0)=decide ((x * x - tt * x+u) % 97=0):=decide_eq_decide.mpr ⟨fun h=>V.int.inj h,fun h=>by rw [h]⟩
  show Q (.bl (decide (V.int ((x * x - tt * x+u) % 97)=V.int 0))) H
  rw [e]
  exact q
def lS (K:PySem.W.Frag):Sp:=fun vs H Q _=>∃ (l:Addr) (s:Nat→Int),vs=[.ref l]∧aX K H l (tabI 6 s)∧(∀ j,j < 6→0≤s j∧s j < 97) ∧
 ∀ p H' ps,H p=none→aI H H'→H' p=some (.lst (ps.map fun k=>V.int (k:Nat)))→My.Jm s ps→Q (.ref p) H'
theorem gZ:aQ ["sums","rows","pair"] ["sums"] (aH dN):=⟨rfl,rfl,rfl,by decide +kernel,rfl,by decide +kernel,by decide +kernel⟩
theorem tV (F:aP K mg "turned_places" dN) (T:Txt K mg t) (lT:Def P w K mg base 6 "solved" ["rows","right"] (tT K)) (mP:Def P w K mg base 5 "lone_place" ["sums"] (qD K)) (tW:Def P w K mg base 1 "is_root" ["point","total","product"] wY)
  (el:Def P w K mg base 3 "power" ["a","k"] (oB t.BadSign)):Def P w K mg base 7 "turned_places" ["sums"] (lS K):=by
 refine F.def gZ (fun _ _ _ _ _ _ us hl=>match us,hl with | [_],_=>rfl) (fun vs H Q E h=>?_) (fun f bo A outer s H vs Q E hr h=>?_)
 ·obtain ⟨l,s,rfl,_⟩:=h
  rfl
 ·obtain ⟨l,s,rfl,hl,bs,q⟩:=h
  refine ⟨_,aC (aT (i:=1) gZ.nd rfl (Or.inl rfl) (bF (aA (bF (aA (aR (aM K) (pv 0) aF (fun _ _=>rfl)) (aA (aN aw (FA zd (aR (aM K) (pv 0) aF (fun _ _=>rfl))) (aS T.cO)) aD))) (aA (bF (aA (aR (aM K) (pv 0) aF (fun _ _=>rfl)) (aA (aN aw (FA zd (aR (aM K) (pv 0) aF (fun _ _=>rfl))) (aS T.cO)) aD))) aD))))
   (aC (aT (i:=2) gZ.nd rfl (Or.inr rfl) (aZ (lT.mono (by decide)) hr ar (aA (pv 1) (aA (bF (aA (aR (aM K) (pv 0) aF (fun _ _=>rfl)) (aA (aR (aM K) (pv 0) aF (fun _ _=>rfl)) aD))) aD))))
   (aC (bD (aW tE (pv 2) cJ (aj _))
    (aG (aV (aZ (mP.mono (by decide)) hr ar (aA (pv 0) aD))))
    (af))
   (aG (aV (lE rfl (Nc:=["place","pair"]) (ix:=[none,some 2]) (dE (aH dN) ["sums","rows","pair"] rfl rfl (by decide +kernel)) (cv (by rfl) T.df (aA (aS T.AE) aD)) (fun C fp s H=>⟨(az (i:=0) (show (["place","pair"]:List Str).Nodup by decide +kernel) rfl (Or.inl rfl)),(FR (jG (aZ (tW.mono (by decide)) hr ar (aA (aZ (el.mono (by decide)) hr ar (aA (aS T.Fl) (aA (pv 0) aD))) (aA (aR (aM K) (pv 1) aF (fun _ _=>rfl)) (aA (aR (aM K) (pv 1) aF (fun _ _=>rfl)) aD)))))),(pv 0)⟩)))))),?_⟩
  have a0:xg (tabI 6 s) 0=some (V.int (s 0)):=dF (n:=6) (by decide) (by decide)
  have a1:xg (tabI 6 s) 1=some (V.int (s 1)):=dF (n:=6) (by decide) (by decide)
  have a2:xg (tabI 6 s) 2=some (V.int (s 2)):=dF (n:=6) (by decide) (by decide)
  have a3:xg (tabI 6 s) 3=some (V.int (s 3)):=dF (n:=6) (by decide) (by decide)
  have b4:∀ j,j < 4→0≤s j∧s j < 97:=fun j hj=>bs j (by omega)
  refine ⟨_,rfl,l,_,_,_,rfl,rfl,hl,a1,_,rfl,l,_,_,_,rfl,rfl,hl,a0,_,rfl,_,_,rfl,rfl,(by show (0:Int) < 97;decide),by show 2≤sizeLine;decide,fun r1 Q5=>?_⟩
  have s1:=(aI.refl H).new (o:=.lst [V.int (s 1),V.int (-(s 0) % 97)]) Q5
  refine ⟨_,rfl,l,_,_,_,rfl,rfl,s1.seq hl,a2,_,rfl,l,_,_,_,rfl,rfl,s1.seq hl,a1,_,rfl,_,_,rfl,rfl,(by show (0:Int) < 97;decide),by show 2≤sizeLine;decide,fun r2 K6=>?_⟩
  have s2:=s1.new (o:=.lst [V.int (s 2),V.int (-(s 1) % 97)]) K6
  refine ⟨by show 2≤sizeLine;decide,fun r3 Wo=>?_⟩
  have s3:=s2.new (o:=.lst [V.ref r1,V.ref r2]) Wo
  have e1:(upd (upd (upd H r1 (.lst [V.int (s 1),V.int (-(s 0) % 97)])) r2 (.lst [V.int (s 2),V.int (-(s 1) % 97)])) r3 (.lst [V.ref r1,V.ref r2])) r1=some (.lst [V.int (s 1),V.int (-(s 0) % 97)]):=by
   have z:r1≠r2:=aK aB K6
   rw [aE (aK (by rw [aE z];exact aB) Wo),aE z];exact aB
  have e2:(upd (upd (upd H r1 (.lst [V.int (s 1),V.int (-(s 0) % 97)])) r2 (.lst [V.int (s 2),V.int (-(s 1) % 97)])) r3 (.lst [V.ref r1,V.ref r2])) r2=some (.lst [V.int (s 2),V.int (-(s 1) % 97)]):=by
   rw [aE (aK aB Wo)];exact aB
  have e3:(upd (upd (upd H r1 (.lst [V.int (s 1),V.int (-(s 0) % 97)])) r2 (.lst [V.int (s 2),V.int (-(s 1) % 97)])) r3 (.lst [V.ref r1,V.ref r2])) r3=some (.lst [V.ref r1,V.ref r2]):=aB
  generalize upd (upd (upd H r1 (.lst [V.int (s 1),V.int (-(s 0) % 97)])) r2 (.lst [V.int (s 2),V.int (-(s 1) % 97)])) r3 (.lst [V.ref r1,V.ref r2])=H3 at *
  refine ⟨_,rfl,_,rfl,l,_,_,_,rfl,rfl,s3.seq hl,a2,_,rfl,l,_,_,_,rfl,rfl,s3.seq hl,a3,by show 2≤sizeLine;decide,fun r4 hr4=>?_⟩
  have s4:=(aI.refl H3).new (o:=.lst [V.int (s 2),V.int (s 3)]) hr4
  have G:rf K (upd H3 r4 (.lst [V.int (s 2),V.int (s 3)])) r3 2 2 (My.M s):=by
   refine ⟨fun i=>if i=0 then r1 else r2,aX.of (s4 _ _ e3),fun i hi=>?_⟩
   match i,hi with
   | 0,_=>exact aX.of (s4 _ _ e1)
   | 1,_=>exact aX.of (s4 _ _ e2)
  refine ⟨r3,r4,2,My.M s,fun i=>s (i+2),rfl,G,aX.of aB,by decide,fun Wp p5 H5 x U7 s5 h5 bx hx=>?_,fun Wp H5 s5=>?_⟩
  ·refine ⟨_,rfl,rfl,_,rfl,dW (fun z=>nomatch z) ?_⟩
   have sA:=(s3.trans s4).trans s5
   refine ⟨24,rfl,by decide,by decide,fun D hD=>?_⟩
   refine Li (n:=24) (by decide) (b:=My.Fj (x 0) (x 1)) hD (fun i H6 N hi s6 hn=>?_) (fun i H6 N hi hn=>⟨_,rfl,hn⟩) fun H6 s6 h6=>?_
   ·have Q6:=bx 0 (by decide)
    refine ⟨_,rfl,5,_,rfl,by decide,by omega,fun _=>?_,fun h=>absurd (show (0:Int)≤5∧(5:Int) < 97 by decide) h⟩
    refine ⟨_,rfl,p5,_,_,_,rfl,rfl,aX.of (s6 _ _ h5),dF (n:=2) (by decide) (by decide),_,rfl,p5,_,_,_,rfl,rfl,aX.of (s6 _ _ h5),dF (n:=2) (by decide) (by decide),_,_,_,rfl,My.Sn _ _,My.Pf _ _,Q6.1,Q6.2,_,rfl,?_⟩
    have e0:(0:Int)+(i:Nat)=(i:Nat):=by omega
    rw [e0]
    exact hn H6 (aI.refl _)
   ·exact q D H6 _ (sA.free hD) (sA.trans s6) h6 (My.Jn Wp hx)
  ·refine ⟨_,rfl,rfl,_,rfl,eN rfl ?_⟩
   have sA:=(s3.trans s4).trans s5
   refine ⟨_,rfl,l,s,rfl,sA.seq hl,bs,fun p6 H6 Q7 s6 h6=>?_⟩
   exact q p6 H6 _ (sA.free Q7) (sA.trans s6) h6 (My.MA b4 Wp)
def uu (K:PySem.W.Frag):Sp:=fun vs H Q _=>∃ (l r:Addr) (ps:List Nat) (s:Nat→Int),vs=[.ref l,.ref r]∧H l=some (.lst (ps.map fun k=>V.int (k:Nat)))∧aX K H r (tabI 6 s)∧ps.Nodup∧(∀ p ∈ ps,p < 24)∧ps.length≤2 ∧
 ∀ p H' x,H p=none→aI H H'→H' p=some (.lst (tabI ps.length x))→(∀ i,i < ps.length→0≤x i∧x i < 97)→(∀ i,i < ps.length→(97:Int) ∣ My.ip ps.length (fun q=>My.P 5 ((ps.getD q 0:Nat) * (1+(i:Int)))) x - s i)→Q (.ref p) H'
theorem uv:aQ ["places","sums","rows"] ["places","sums"] (aH jQ):=⟨rfl,rfl,rfl,by decide +kernel,rfl,by decide +kernel,by decide +kernel⟩
theorem CI (F:aP K mg "turns_at" jQ) (T:Txt K mg t) (lT:Def P w K mg base 6 "solved" ["rows","right"] (tT K)) (el:Def P w K mg base 3 "power" ["a","k"] (oB t.BadSign)):Def P w K mg base 7 "turns_at" ["places","sums"] (uu K):=by
 refine F.def uv (fun _ _ _ _ _ _ us hl=>match us,hl with | [_,_],_=>rfl) (fun vs H Q E h=>?_) (fun f bo A outer s H vs Q E hr h=>?_)
 ·obtain ⟨l,r,ps,s,rfl,_⟩:=h
  rfl
 ·obtain ⟨l,r,ps,s,rfl,hl,Q5,nd,hb,xo,q⟩:=h
  refine ⟨_,aC (lF (i:=2) uv.nd rfl (Or.inl rfl) rfl (Nc:=["j","places"]) (ix:=[none,some 0]) (dE (aH jQ) ["places","sums","rows"] rfl rfl (by decide +kernel)) (tD (by rfl) T.df (aA aF (aA (aN bA (bP (bQ K) (by rfl) T.iD boot_len (aA (pv 0) aD)) aF) aD))) (fun C fp s H=>⟨(az (i:=0) (show (["j","places"]:List Str).Nodup by decide +kernel) rfl (Or.inr rfl)),cX,(lE rfl (Nc:=["place","j"]) (ix:=[none,some 0]) (dE _ ["j","places"] rfl rfl (by kernel_rfl)) (cM K (pv 1)) (fun C fp s H=>⟨(az (i:=0) (show (["place","j"]:List Str).Nodup by decide +kernel) rfl (Or.inl rfl)),cX,(aZ (el.mono (by decide)) hr ar (aA (aS T.Fl) (aA (aN eJ (pv 0) (pv 1)) aD)))⟩))⟩))
   (aG (aV (aZ (lT.mono (by decide)) hr ar (aA (pv 2) (aA (iA (iB K) (pv 1) rT (fZ (bP (bQ K) (by rfl) T.iD boot_len (aA (pv 0) aD)))) aD))))),?_⟩
  have hsz:(2000:Nat)≤sizeLine:=by decide
  rw [BV] at hl
  generalize hn:ps.length=n at *
  have hg:∀ q,q < n→((ps.getD q 0:Nat):Int) < 24:=fun q hq=>by
   have:=hb (ps.getD q 0) (by rw [My.getD_get (by omega)];exact List.getElem_mem _)
   omega
  refine ⟨_,rfl,l,_,rfl,.inl (aX.of hl),_,_,rfl,rfl,1,_,rfl,⟨by decide,by decide,by rw [aL];omega,by rw [aL];omega⟩,fun D3 U8=>?_⟩
  rw [show ((((tabI n fun q=>((ps.getD q 0:Nat):Int)).length:Nat):Int)+1 - 1).toNat=n by rw [aL];omega]
  refine lH (lo:=1) (n:=n) (fun j σ Hf=>∃ (v:Option V) (rs:Nat→Addr),σ=[v,some (.ref l)]∧aI H Hf∧Hf D3=some (.lst (bJ j rs))∧∀ y,y < j→Hf (rs y)=some (.lst (tabI n fun q=>My.P 5 ((ps.getD q 0:Nat) * (1+(y:Int)))))∧rs y≠D3)
   ⟨none,fun _=>0,rfl,(aI.refl _).new U8,aB,fun y hy=>by omega⟩ ?_ ?_
  ·rintro j σ Hf N hN hj ⟨v,rs,rfl,sf,MP,fH⟩
   refine de ?_
   refine ⟨_,rfl,l,rfl,⟨_,aX.of (sf _ _ hl)⟩,fun D4 TK=>?_⟩
   have Y3:D3≠D4:=aK MP TK
   refine tJ (K:=K) (a:=l) (n:=n) (F:=fun q=>V.int ((ps.getD q 0:Nat):Int)) (fun y σ Hg=>∃ v:Option V,σ=[v,some (.int (1+(j:Int)))]∧aI Hf Hg∧Hg D4=some (.lst (tabI y fun q=>My.P 5 ((ps.getD q 0:Nat) * (1+(j:Int))))))
    ⟨none,rfl,(aI.refl _).new TK,aB⟩ (fun y σ Hg _ ⟨_,_,sg,_⟩=>aX.of (sg _ _ (sf _ _ hl))) ?_ ?_
   ·rintro y σ Hg N2 Y4 hy ⟨v,rfl,sg,Pt⟩
    refine de ?_
    have hb:=hg y hy
    refine ⟨_,rfl,_,rfl,_,_,rfl,rfl,.inl ⟨by omega,by omega⟩,5,_,rfl,by decide,Int.mul_nonneg (by omega) (by omega),fun _=>?_,fun h=>absurd (show (0:Int)≤5∧(5:Int) < 97 by decide) h⟩
    refine ⟨_,Pt,by rw [aL];omega,?_⟩
    exact Y4 _ _ ⟨_,rfl,sg.put TK,j0 rfl⟩
   ·rintro σ Hg ⟨v,rfl,sg,Pt⟩
    refine ⟨_,sg _ _ MP,by rw [aL];omega,?_⟩
    rw [dR]
    refine hN _ _ ⟨_,_,rfl,(sf.trans sg).put U8,aB,fun y hy=>?_⟩
    by_cases e:y=j
    ·subst e
     rw [if_pos rfl,aE (Ne.symm Y3)]
     exact ⟨Pt,Ne.symm Y3⟩
    ·rw [if_neg e]
     obtain ⟨w1,w2⟩:=fH y (by omega)
     rw [aE w2]
     exact ⟨sg _ _ w1,w2⟩
  ·rintro σ Hf ⟨v,rs,rfl,sf,MP,fH⟩
   refine ⟨_,rfl,_,rfl,_,rfl,l,_,rfl,.inl (aX.of (sf _ _ hl)),_,rfl,r,_,rfl,sf.seq Q5,fun D5 Wq=>?_⟩
   rw [aL,show fb (tabI 6 s) none (some (n:Int))=tabI n s from qP (by omega)]
   have s5:=(aI.refl Hf).new (o:=.lst (tabI n s)) Wq
   have MO:=My.Fk nd hb
   rw [hn] at MO
   refine ⟨D3,D5,n,(fun i q=>My.P 5 ((ps.getD q 0:Nat) * (1+(i:Int)))),s,rfl,⟨rs,aX.of (s5 _ _ MP),fun i hi=>aX.of (s5 _ _ (fH i hi).1)⟩,aX.of aB,by omega,fun _ pa Hh x Fq sh hxa bx hxx=>?_,fun h=>absurd MO h⟩
   have sA:=sf.trans s5
   exact q pa Hh x (sA.free Fq) (sA.trans sh) hxa bx hxx
def zQ (K:PySem.W.Frag):Sp:=fun vs H Q _=>∃ (l:Addr) (f:Nat→Int),vs=[.ref l]∧aX K H l (tabI 24 f)∧IsCell 24 f ∧
 (∀ g p H',My.qS f g→H p=none→aI H H'→H' p=some (.lst (tabI 24 g))→Q (.ref p) H')∧((∀ g,¬ My.qS f g)→∀ H',aI H H'→Q .bN H')
theorem MQ {f x:Nat→Int} {ps:List Nat} {k:Nat} (h:ps.getD k 0 < 24):(tabI 24 (My.wD f ps x k)).set (ps.getD k 0) (V.int ((My.wD f ps x k (ps.getD k 0) - x k) % 97))=tabI 24 (My.wD f ps x (k+1)):=by
 rw [rZ h]
 refine bW fun j _=>?_
 show _=V.int (if j=ps.getD k 0 then (My.wD f ps x k (ps.getD k 0) - x k) % 97 else My.wD f ps x k j)
 split <;> rfl
theorem lU:aQ ["cell","sums","places","found","place","turn"] ["cell"] (aH r8):=⟨rfl,rfl,rfl,by decide +kernel,rfl,by decide +kernel,by decide +kernel⟩
theorem HK (F:aP K mg "mended" r8) (T:Txt K mg t) (gY:Def P w K mg base 4 "troubles" ["cell"] (oC K)) (oJ:Def P w K mg base 5 "is_sealed" ["cell"] (sF K)) (iT:Def P w K mg base 7 "turned_places" ["sums"] (lS K))
  (qZ:Def P w K mg base 7 "turns_at" ["places","sums"] (uu K)):Def P w K mg base 8 "mended" ["cell"] (zQ K):=by
 refine F.def lU (fun _ _ _ _ _ _ us hl=>match us,hl with | [_],_=>rfl) (fun vs H Q E h=>?_) (fun f bo A outer s H vs Q E hr h=>?_)
 ·obtain ⟨l,f,rfl,_⟩:=h
  rfl
 ·obtain ⟨l,f,rfl,hl,cf,q1,q2⟩:=h
  refine ⟨_,aC (aT (i:=1) lU.nd rfl (Or.inl rfl) (aZ (gY.mono (by decide)) hr ar (aA (pv 0) aD)))
   (aC (bD (aW (FX K (Ge hr)) (pv 1) (aN zx (bF (aA aF aD)) (aS T.Fm)) (aj _))
    (aG (aV (gO (gP K) (by rfl) T.qT boot_list (aA (pv 0) aD))))
    (af))
   (aC (aT (i:=2) lU.nd rfl (Or.inl rfl) (aZ (iT.mono (by decide)) hr ar (aA (pv 1) aD)))
   (aC (aT (i:=3) lU.nd rfl (Or.inl rfl) (gO (gP K) (by rfl) T.qT boot_list (aA (pv 0) aD)))
   (aC (PS.uX (dC PassesOwn.never rfl (z7 K (by rfl) T.Fn (aA (pv 2) (aA (aZ (qZ.mono (by decide)) hr ar (aA (pv 2) (aA (pv 1) aD))) aD))) (pQ K (i:=4) (j:=5) rfl lU.nd rfl rfl (Or.inl rfl) (Or.inl rfl))
    (aG (nZ (aN aw (aN jJ (aR (aM K) (pv 3) (pv 4) (fun _ _=>rfl)) (pv 5)) (aS T.cO)) (nY (pv 3) (pv 4) set_list)))))
   (aG (aV (nX (jG (aZ (oJ.mono (by decide)) hr ar (aA (pv 3) aD))) (pv 3) cJ))))))),?_⟩
  have mp:∀ n (g:Nat→Int),tabI n g=((List.range n).map g).map V.int:=fun n g=>(vQ n g).symm
  refine ⟨_,rfl,l,f,rfl,hl,cf,fun p1 H1 CA s1 h1=>?_⟩
  have bs:∀ j,j < 6→0≤My.T (My.St j) 24 f∧My.T (My.St j) 24 f < 97:=fun j _=>⟨My.Wf _ _ _,My.Wg _ _ _⟩
  refine ⟨_,rfl,by show 1≤sizeLine;decide,fun a1 Dl=>?_⟩
  refine ⟨a1,_,_,rfl,rfl,aB,by decide,by decide,by decide,fun a2 TB=>?_⟩
  have s2:=((aI.refl H1).new (o:=.lst [V.int 0]) Dl).new (o:=.lst (List.replicate (6:Int).toNat [V.int 0]).flatten) TB
  have Q8:=s2 _ _ h1
  refine ⟨p1,a2,(List.range 6).map fun j=>My.T (My.St j) 24 f,(List.range 6).map fun _=>0,rfl,rfl,aX.of (by rw [← mp];exact Q8),aX.of (by rw [aB];rfl),_,rfl,?_⟩
  have sA:=s1.trans s2
  generalize upd (upd H1 a1 (.lst [V.int 0])) a2 (.lst (List.replicate (6:Int).toNat [V.int 0]).flatten)=H2 at *
  by_cases hz:(List.range 6).map (fun j=>My.T (My.St j) 24 f)=(List.range 6).map fun _=>(0:Int)
  ·refine eN hz ?_
   have sl:My.bq f:=kF.mp (by unfold pZ;exact decide_eq_true hz)
   refine ⟨_,rfl,l,_,rfl,.inl (sA.seq hl),fun p hp=>?_⟩
   exact q1 f p _ (My.qS.self cf.b sl) (sA.free hp) (sA.new hp) aB
  ·refine dW hz ?_
   have sl:¬ My.bq f:=fun z=>hz (by have:=kF.mpr z;unfold pZ at this;exact of_decide_eq_true this)
   refine ⟨_,rfl,p1,_,rfl,aX.of Q8,bs,fun p3 H3 ps HG s3 h3 pl=>?_⟩
   have sB:=sA.trans s3
   refine ⟨_,rfl,l,_,rfl,.inl (sB.seq hl),fun p4 U9=>?_⟩
   have s4:=(aI.refl H3).new (o:=.lst (tabI 24 f)) U9
   have h4:(upd H3 p4 (.lst (tabI 24 f))) p4=some (.lst (tabI 24 f)):=aB
   have TL:=s4 _ _ h3
   have h14:=s4 _ _ (s3 _ _ Q8)
   generalize hH4:upd H3 p4 (.lst (tabI 24 f))=H4 at *
   refine ⟨_,rfl,_,rfl,_,rfl,p3,p1,ps,_,rfl,TL,aX.of h14,pl.nd,pl.b,pl.xo,fun p5 H5 x U7 s5 h5 bx hx=>?_⟩
   have Wr:=s5 _ _ TL
   rw [BV] at Wr
   have n45:p4≠p5:=aK h4 U7
   refine ⟨p3,p5,rfl,⟨_,aX.of Wr⟩,⟨_,aX.of h5⟩,?_⟩
   have f3:H3 p4=none:=U9
   have n43:p3≠p4:=aK h3 f3
   refine Lh (K:=K) (a:=p3) (b:=p5) (xs:=tabI ps.length fun q=>((ps.getD q 0:Nat):Int)) (ys:=tabI ps.length x) (by rw [aL,aL])
    (fun k σ H6=>∃ v1 v2:Option V,σ=[some (.ref l),some (.ref p1),some (.ref p3),some (.ref p4),v1,v2]∧aI H3 H6∧H6 p4=some (.lst (tabI 24 (My.wD f ps x k)))∧H6 p3=some (.lst (tabI ps.length fun q=>((ps.getD q 0:Nat):Int)))∧H6 p5=some (.lst (tabI ps.length x)))
    ⟨none,none,rfl,s4.trans s5,s5 _ _ h4,Wr,h5⟩ (fun k σ H6 _ ⟨_,_,_,_,_,z3,z5⟩=>⟨aX.of z3,aX.of z5⟩) ?_ ?_
   ·rintro k u v pp σ H6 hu hv ⟨v1,v2,rfl,s6,h6,z3,z5⟩ MK
    obtain ⟨hk,rfl⟩:=tab_of hu
    obtain ⟨_,rfl⟩:=tab_of hv
    have hg:ps.getD k 0 < 24:=pl.b _ (by rw [My.getD_get hk];exact List.getElem_mem _)
    have np:p4≠pp:=aK h6 MK
    have n3:p3≠pp:=aK z3 MK
    have n5:p5≠pp:=aK z5 MK
    have Y5:(upd H6 pp (.tup [V.int ((ps.getD k 0:Nat):Int),V.int (x k)])) p4=some (.lst (tabI 24 (My.wD f ps x k))):=by rw [aE np];exact h6
    refine vt (bz.of aB) ?_
    refine ⟨_,rfl,_,rfl,p4,_,_,_,rfl,rfl,aX.of Y5,dF (by dsimp only;omega) (by dsimp only;omega),_,rfl,_,_,rfl,rfl,_,_,rfl,rfl,(by show (0:Int) < 97;decide),_,rfl,_,rfl,p4,_,_,_,rfl,rfl,Y5,vq (by dsimp only;omega) (by dsimp only;omega),?_⟩
    dsimp only
    rw [Int.toNat_natCast,MQ hg]
    refine ⟨_,_,rfl,(s6.new MK).put f3,aB,?_,?_⟩
    ·rw [aE n43,aE n3];exact z3
    ·rw [aE (Ne.symm n45),aE n5];exact z5
   ·rintro σ H6 ⟨v1,v2,rfl,s6,h6,z3,z5⟩
    rw [aL] at h6
    have cfn:IsCell 24 (My.wD f ps x ps.length):=⟨My.Jo ps x cf.b ps.length⟩
    have sC:=sB.trans s6
    refine ⟨_,rfl,p4,_,rfl,aX.of h6,cfn,fun H7 s7=>⟨_,rfl,?_⟩⟩
    by_cases hs:My.bq (My.wD f ps x ps.length)
    ·rw [kF.mpr hs]
     refine fc ?_
     refine ⟨_,rfl,?_⟩
     exact q1 _ p4 H7 (My.Dc cf.b pl.nd pl.xo hs) (sB.free f3) (sC.trans s7) (s7 _ _ h6)
    ·rw [Dk hs]
     refine dh ?_
     refine q2 (fun g hm=>hs ?_) H7 (sC.trans s7)
     exact hm.sealed.congr fun i hi=>(My.DZ cf.b hm sl pl hx i hi).symm
end
end K31
namespace K31
open PySem L2 PyProof.Rows
section
variable {P:Program} {w:World} {K:PySem.W.Frag} {mg:Str→Option Value} {base:Heap} {t:Ad}
inductive Ev where
 | mk (w:Str) (p:Int × Int) (ns:List Int)
 | took (xs:List Int)
structure Lk where
 q:Int
 s:Int
 d:Int
 u:Int
 b:Int
 k:Int
 p:Option (Int × Int)
 ev:List Ev
 bS:List (List Int)
 of:Int
 tk:Int
def cn (q s d u b k:Int) (pv:V) (tA pA:Addr) (o tk:Int):List (Str × V):=[("quiet",.int q),("side",.int s),("done",.int d),("unheard",.int u),("birth",.int b),("known",.int k),("pair",pv),("told",.ref tA),("pieces",.ref pA),("offered",.int o),("taken",.int tk)]
section
variable {q s d u b k x o tk:Int} {pv v:V} {tA pA y:Addr}
theorem Fs:(cn q s d u b k pv tA pA o tk).lookup ("quiet":Str)=some (.int q):=rfl
theorem Pu:(cn q s d u b k pv tA pA o tk).lookup ("side":Str)=some (.int s):=rfl
theorem Dx:(cn q s d u b k pv tA pA o tk).lookup ("done":Str)=some (.int d):=rfl
theorem zR:(cn q s d u b k pv tA pA o tk).lookup ("unheard":Str)=some (.int u):=rfl
theorem sJ:(cn q s d u b k pv tA pA o tk).lookup ("birth":Str)=some (.int b):=rfl
theorem pe:(cn q s d u b k pv tA pA o tk).lookup ("known":Str)=some (.int k):=rfl
theorem oK:(cn q s d u b k pv tA pA o tk).lookup ("pair":Str)=some pv:=rfl
theorem wZ:(cn q s d u b k pv tA pA o tk).lookup ("told":Str)=some (.ref tA):=rfl
theorem lV:(cn q s d u b k pv tA pA o tk).lookup ("pieces":Str)=some (.ref pA):=rfl
theorem zS:(cn q s d u b k pv tA pA o tk).lookup ("offered":Str)=some (.int o):=rfl
theorem AW:(cn q s d u b k pv tA pA o tk).lookup ("taken":Str)=some (.int tk):=rfl
theorem MR:eK "done" (.int x) (cn q s d u b k pv tA pA o tk)=cn q s x u b k pv tA pA o tk:=rfl
theorem Dy:eK "unheard" (.int x) (cn q s d u b k pv tA pA o tk)=cn q s d x b k pv tA pA o tk:=rfl
theorem Jy:eK "birth" (.int x) (cn q s d u b k pv tA pA o tk)=cn q s d u x k pv tA pA o tk:=rfl
theorem CJ:eK "known" (.int x) (cn q s d u b k pv tA pA o tk)=cn q s d u b x pv tA pA o tk:=rfl
theorem Fu:eK "pair" v (cn q s d u b k pv tA pA o tk)=cn q s d u b k v tA pA o tk:=rfl
theorem MS:eK "told" (.ref y) (cn q s d u b k pv tA pA o tk)=cn q s d u b k pv y pA o tk:=rfl
theorem HL:eK "pieces" (.ref y) (cn q s d u b k pv tA pA o tk)=cn q s d u b k pv tA y o tk:=rfl
theorem wa:eK "offered" (.int x) (cn q s d u b k pv tA pA o tk)=cn q s d u b k pv tA pA x tk:=rfl
theorem CK:eK "taken" (.int x) (cn q s d u b k pv tA pA o tk)=cn q s d u b k pv tA pA o x:=rfl
end
abbrev Lk.fld (L:Lk) (pv:V) (tA pA:Addr):List (Str × V):=cn L.q L.s L.d L.u L.b L.k pv tA pA L.of L.tk
def fV (B:Hp) (pv:V):Option (Int × Int)→Prop
 | none=>pv=.bN
 | some p=>∃ a,pv=.ref a∧B a=some (.tup [.int p.1,.int p.2])
def CL (B:Hp) (a:Addr):Ev→Prop
 | .mk w p ns=>∃ pa,B a=some (.tup (.str w :: .ref pa :: ns.map V.int))∧B pa=some (.tup [.int p.1,.int p.2])
 | .took xs=>∃ l,B a=some (.tup [.str "took",.ref l])∧B l=some (.lst (xs.map V.int))
def Jz (B H:Hp) (l:Addr) (es:List Ev):Prop:=∃ iF:Nat→Addr,H l=some (.lst (bJ es.length iF))∧∀ y e,es[y]?=some e→CL B (iF y) e
def wb (B H:Hp) (l:Addr) (ps:List (List Int)):Prop:=∃ dq:Nat→Addr,H l=some (.lst (bJ ps.length dq))∧∀ y xs,ps[y]?=some xs→B (dq y)=some (.lst (xs.map V.int))
theorem fV.mono {B B':Hp} {pv:V} {o:Option (Int × Int)} (h:fV B pv o) (s:aI B B'):fV B' pv o:=by
 cases o with
 | none=>exact h
 | some p=>obtain ⟨a,e,g⟩:=h;exact ⟨a,e,s _ _ g⟩
theorem CL.mono {B B':Hp} {a:Addr} {e:Ev} (h:CL B a e) (s:aI B B'):CL B' a e:=by
 cases e with
 | mk w p ns=>obtain ⟨pa,g1,g2⟩:=h;exact ⟨pa,s _ _ g1,s _ _ g2⟩
 | took xs=>obtain ⟨l,g1,g2⟩:=h;exact ⟨l,s _ _ g1,s _ _ g2⟩
structure bO (C:Addr) (B H:Hp) (x tA pA:Addr) (L:Lk):Prop where
 sb:aI B H
 bx:B x=none
 bt:B tA=none
 bp:B pA=none
 at_:∃ dx pv,H x=some (.ins C dx (L.fld pv tA pA))∧fV B pv L.p
 told:Jz B H tA L.ev
 bS:wb B H pA L.bS
 ne:tA≠pA
def TM (a b c:Addr) (H H':Hp):Prop:=∀ x o,x≠a→x≠b→x≠c→H x=some o→H' x=some o
theorem ed {H:Hp} {x b:Addr} {o:HO} (h:(upd H x o) b=none) (hx:H x≠none):H b=none:=by
 by_cases z:b=x
 ·subst z;rw [aB] at h;cases h
 ·rw [aE z] at h;exact h
structure jU (B H B' H':Hp) (x tA pA tB pB:Addr):Prop where
 bb:aI B B'
 no:∀ a,H a≠none→B a=none→B' a=none
 k:TM x tA pA H H'
 g:∀ b,H' b=none→H b=none
 t:tB=tA∨H tB=none
 p:pB=pA∨H pB=none
theorem jU.refl {B H:Hp} {x tA pA:Addr}:jU B H B H x tA pA tA pA:=⟨aI.refl _,fun _ _ h=>h,fun _ _ _ _ _ h=>h,fun _ h=>h,.inl rfl,.inl rfl⟩
theorem jU.trans {B H B1 H1 B2 H2:Hp} {x tA pA tB pB tC pC:Addr} (a:jU B H B1 H1 x tA pA tB pB) (b:jU B1 H1 B2 H2 x tB pB tC pC):jU B H B2 H2 x tA pA tC pC:=by
 have ne:∀ {y z:Addr} {o:HO},H y=some o→y≠z→(∀ {w:Addr},(w=z∨H w=none)→y≠w):=fun {y z o} e n {w} h=>h.elim (fun q=>q ▸ n) (fun q=>aK e q)
 refine ⟨a.bb.trans b.bb,fun y h1 h2=>b.no y (fun z=>h1 (a.g y z)) (a.no y h1 h2),fun y o n1 n2 n3 e=>b.k y o n1 (ne e n2 a.t) (ne e n3 a.p) (a.k y o n1 n2 n3 e),fun y h=>a.g y (b.g y h),?_,?_⟩
 ·rcases b.t with z | z
  ·rw [z];exact a.t
  ·exact .inr (a.g _ z)
 ·rcases b.p with z | z
  ·rw [z];exact a.p
  ·exact .inr (a.g _ z)
theorem jU.of_same {B H H1:Hp} {x tA pA:Addr} (s:aI H H1):jU B H B H1 x tA pA tA pA:=⟨aI.refl _,fun _ _ h=>h,fun y o _ _ _ e=>s _ _ e,fun y h=>s.free h,.inl rfl,.inl rfl⟩
theorem jU.same {B H B1 H1 H2:Hp} {x tA pA tB pB:Addr} (a:jU B H B1 H1 x tA pA tB pB) (s:aI H1 H2):jU B H B1 H2 x tA pA tB pB:=a.trans (jU.of_same s)
section
variable {C:Addr} {B H H':Hp} {x tA pA:Addr} {L:Lk}
theorem bO.hx (h:bO C B H x tA pA L):H x≠none:=by obtain ⟨_,_,g,_⟩:=h.at_;rw [g];exact fun z=>by cases z
theorem bO.ht (h:bO C B H x tA pA L):H tA≠none:=by obtain ⟨_,g,_⟩:=h.told;rw [g];exact fun z=>by cases z
theorem bO.hp (h:bO C B H x tA pA L):H pA≠none:=by obtain ⟨_,g,_⟩:=h.bS;rw [g];exact fun z=>by cases z
theorem bO.xt (h:bO C B H x tA pA L):x≠tA:=fun z=>by obtain ⟨_,_,g,_⟩:=h.at_;obtain ⟨_,g2,_⟩:=h.told;rw [z,g2] at g;cases g
theorem bO.xp (h:bO C B H x tA pA L):x≠pA:=fun z=>by obtain ⟨_,_,g,_⟩:=h.at_;obtain ⟨_,g2,_⟩:=h.bS;rw [z,g2] at g;cases g
theorem bO.same (h:bO C B H x tA pA L) (s:aI H H'):bO C B H' x tA pA L:=by
 obtain ⟨dx,pv,g,gp⟩:=h.at_
 obtain ⟨iF,g2,CM⟩:=h.told
 obtain ⟨dq,g3,vW⟩:=h.bS
 exact ⟨h.sb.trans s,h.bx,h.bt,h.bp,⟨dx,pv,s _ _ g,gp⟩,⟨iF,s _ _ g2,CM⟩,⟨dq,s _ _ g3,vW⟩,h.ne⟩
theorem bO.grow {a:Addr} {o:HO} (h:bO C B H x tA pA L) (s:aI H H') (na:H a=none) (ea:H' a=some o):bO C (upd B a o) H' x tA pA L∧jU B H (upd B a o) H' x tA pA tA pA:=by
 have sB:aI B (upd B a o):=(aI.refl _).new (h.sb.free na)
 have no:∀ {b:Addr},H b≠none→B b=none→(upd B a o) b=none:=fun {b} hb e=>by rw [aE (fun z=>hb (by rw [z];exact na))];exact e
 have h1:=h.same s
 obtain ⟨dx,pv,g,gp⟩:=h1.at_
 obtain ⟨iF,g2,CM⟩:=h1.told
 obtain ⟨dq,g3,vW⟩:=h1.bS
 refine ⟨⟨?_,no h.hx h.bx,no h.ht h.bt,no h.hp h.bp,⟨dx,pv,g,gp.mono sB⟩,⟨iF,g2,fun y e he=>(CM y e he).mono sB⟩,⟨dq,g3,fun y xs hy=>sB _ _ (vW y xs hy)⟩,h.ne⟩,⟨sB,fun b=>no,fun y u _ _ _ e=>s _ _ e,fun y hy=>s.free hy,.inl rfl,.inl rfl⟩⟩
 intro b u e
 by_cases z:b=a
 ·rw [z] at e ⊢;rw [aB] at e;rw [ea];exact e
 ·rw [aE z] at e;exact h1.sb _ _ e
theorem bO.set {dx:Addr} {pv:V} {L':Lk} (h:bO C B H x tA pA L) (hp:fV B pv L'.p) (e:L'.ev=L.ev) (e2:L'.bS=L.bS) :
  bO C B (upd H x (.ins C dx (L'.fld pv tA pA))) x tA pA L'∧jU B H B (upd H x (.ins C dx (L'.fld pv tA pA))) x tA pA tA pA:=by
 obtain ⟨iF,g2,CM⟩:=h.told
 obtain ⟨dq,g3,vW⟩:=h.bS
 exact ⟨⟨h.sb.put h.bx,h.bx,h.bt,h.bp,⟨dx,pv,aB,hp⟩,by rw [e];exact ⟨iF,by rw [aE (Ne.symm h.xt)];exact g2,CM⟩,by rw [e2];exact ⟨dq,by rw [aE (Ne.symm h.xp)];exact g3,vW⟩,h.ne⟩,
  ⟨aI.refl _,fun _ _ z=>z,fun y o n1 _ _ e=>by rw [aE n1];exact e,fun b hb=>ed hb h.hx,.inl rfl,.inl rfl⟩⟩
theorem bO.tell {ea:Addr} {iF:Nat→Addr} {vs:List V} {e:Ev} (h:bO C B H x tA pA L) (g:H tA=some (.lst (bJ L.ev.length iF))) (g':∀ y e,L.ev[y]?=some e→CL B (iF y) e) (he:H ea=none) (J0:CL (upd B ea (.tup vs)) ea e) :
  bO C (upd B ea (.tup vs)) (upd (upd H ea (.tup vs)) tA (.lst (bJ L.ev.length iF ++ [.ref ea]))) x tA pA { L with ev:=L.ev ++ [e] } ∧
  jU B H (upd B ea (.tup vs)) (upd (upd H ea (.tup vs)) tA (.lst (bJ L.ev.length iF ++ [.ref ea]))) x tA pA tA pA:=by
 have s1:aI H (upd H ea (.tup vs)):=(aI.refl _).new he
 obtain ⟨h1,m1⟩:=h.grow (o:=.tup vs) s1 he aB
 obtain ⟨dx,pv,gx,gp⟩:=h1.at_
 obtain ⟨dq,g3,vW⟩:=h1.bS
 have g1:=s1 _ _ g
 refine ⟨⟨h1.sb.put h1.bt,h1.bx,h1.bt,h1.bp,⟨dx,pv,by rw [aE h.xt];exact gx,gp⟩,?_,⟨dq,by rw [aE (Ne.symm h.ne)];exact g3,vW⟩,h.ne⟩,?_⟩
 ·refine ⟨fun y=>if y=L.ev.length then ea else iF y,by rw [dR];show _=some (HO.lst (bJ (L.ev ++ [_]).length _));rw [List.length_append];exact aB,fun y e' hy=>?_⟩
  have hy:(L.ev ++ [e])[y]?=some e':=hy
  by_cases z:y=L.ev.length
  ·rw [z,List.getElem?_append_right (Nat.le_refl _),Nat.sub_self] at hy
   cases hy
   simp only [z,if_true]
   exact J0
  ·have TN:y < (L.ev ++ [e]).length:=(List.getElem?_eq_some_iff.mp hy).1
   rw [List.length_append] at TN
   have Pw:y < L.ev.length:=by simp at TN;omega
   rw [List.getElem?_append_left Pw] at hy
   simp only [z,if_false]
   exact (g' y e' hy).mono m1.bb
 ·exact m1.trans ⟨aI.refl _,fun _ _ z=>z,fun y o _ n2 _ e=>by rw [aE n2];exact e,fun b hb=>ed hb h1.ht,.inl rfl,.inl rfl⟩
theorem J1 {ea pa:Addr} {w:Str} {p:Int × Int} {ns:List Int} (hb:B ea=none) (hp:B pa=some (.tup [.int p.1,.int p.2])):CL (upd B ea (.tup (.str w :: .ref pa :: ns.map V.int))) ea (.mk w p ns) :=
 ⟨pa,aB,by rw [aE (aK hp hb)];exact hp⟩
theorem MT {ea l:Addr} {xs:List Int} (hb:B ea=none) (hl:B l=some (.lst (xs.map V.int))):CL (upd B ea (.tup [.str "took",.ref l])) ea (.took xs) :=
 ⟨l,aB,by rw [aE (aK hl hb)];exact hl⟩
end
def Px (L:Lk):Lk:={ L with p:=none,bS:=[],of:=0,tk:=0 }
def bK (L:Lk) (n:Int):Lk:=match L.p with
 | none=>{ L with k:=n }
 | some p=>if L.k < n then { L with p:=none,bS:=[],of:=0,tk:=0,k:=n,ev:=L.ev ++ [.mk "anew" p []] } else { L with k:=n }
def bY (L:Lk):Lk:=match L.p with
 | none=>{ L with p:=some (if L.s=0 then (L.b,L.k) else (L.k,L.b)),ev:=L.ev ++ [.mk "up" (if L.s=0 then (L.b,L.k) else (L.k,L.b)) []] }
 | some _=>L
def iG (L:Lk):Lk:=match L.p with
 | none=>{ L with b:=L.b+1,k:=0 }
 | some p=>{ L with p:=none,bS:=[],of:=0,tk:=0,b:=L.b+1,k:=0,ev:=L.ev ++ [.mk "silent" p [L.d - L.q+1,L.d]] }
def cB (L:Lk) (c:Int):Lk:=if L.bS≠[]∧c=(L.of+1) % 97 then { L with bS:=L.bS.tail,of:=(L.of+1) % 97 } else L
def dO (L:Lk) (n:Int) (xs:List Int):Lk:=if xs≠[]∧n=L.tk then { L with ev:=L.ev ++ [.took xs],tk:=(L.tk+1) % 97 } else L
structure Cl where
 b:Int
 k:Int
 n:Int
 c:Int
 xs:List Int
def ck (L:Lk) (a:Cl):Lk:=if a.b < L.k then L else if a.k=(bK L a.b).b then dO (cB (bY (bK L a.b)) a.c) a.n a.xs else bK L a.b
def eg (L:Lk):Cl:=⟨L.b,L.k,L.of,L.tk,L.bS.headD []⟩
end
end K31
namespace K31
open PySem L2 PyProof.Rows
section
variable {P:Program} {w:World} {K:PySem.W.Frag} {mg:Str→Option Value} {base:Heap} {t:Ad}
def gc (C:Addr):Sp:=fun vs H Q _=>∃ (x dx:Addr) (fs:List (Str × V)),vs=[.ref x]∧H x=some (.ins C dx fs)∧fs.length < 900∧∀ pB,H pB=none→Q .bN (upd (upd H pB (.lst [])) x (.ins C dx (eK "taken" (.int 0) (eK "offered" (.int 0) (eK "pieces" (.ref pB) fs)))))
theorem wc (f:Str) (v:V):∀ fs:List (Str × V),(eK f v fs).length≤fs.length+1
 | []=>Nat.le_refl _
 | (g,x) :: r=>by
  unfold eK
  split
  ·rw [List.length_cons,List.length_cons];omega
  ·rw [List.length_cons,List.length_cons];have:=wc f v r;omega
theorem tX:aQ ["self"] ["self"] (aH cQ):=⟨rfl,rfl,rfl,by decide +kernel,rfl,by decide +kernel,by decide +kernel⟩
theorem tY {fd:FuncData} (T:Txt K mg t) (F:kL K "forget_pieces" "LinkEnd.forget_pieces" cQ t.cR fd) :
  bZ P w K mg base (i9 P w) 1 t.cR fd ["self"] (gc t.LinkEnd)∧Binds K fd ["self"] []:=by
 refine ⟨F.qQ tX (fun vs H Q E h=>?_) (fun f bo A outer s H vs Q E hr h=>?_),F.binds fun _ _ _ _ _ _ us hl=>match us,hl with | [_],_=>rfl⟩
 ·obtain ⟨x,dx,fs,rfl,_⟩:=h
  rfl
 ·obtain ⟨x,dx,fs,rfl,hx,hl,q⟩:=h
  refine ⟨_,aC (cF K (pv 0) (bF aD) (by rfl))
   (aC (cF K (pv 0) aF (by rfl))
   (aG (cF K (pv 0) aF (by rfl)))),?_⟩
  refine ⟨by show 0≤sizeLine;decide,fun pB N6=>?_⟩
  have n1:x≠pB:=aK hx N6
  have l1:=wc "pieces" (.ref pB) fs
  have l2:=wc "offered" (.int 0) (eK "pieces" (.ref pB) fs)
  refine ⟨_,rfl,x,t.LinkEnd,dx,fs,rfl,by rw [aE n1];exact hx,T.aJ,T.gW,by omega,?_⟩
  refine ⟨_,rfl,x,t.LinkEnd,dx,_,rfl,aB,T.aJ,T.mK,by omega,?_⟩
  rw [iu]
  refine ⟨_,rfl,x,t.LinkEnd,dx,_,rfl,aB,T.aJ,T.oA,by omega,?_⟩
  rw [iu]
  exact q pB N6
def tZ (C:Addr):Sp:=fun vs H Q _=>∃ (B:Hp) (x tA pA:Addr) (L:Lk),vs=[.ref x]∧bO C B H x tA pA L∧∀ B' H' pB,jU B H B' H' x tA pA tA pB→bO C B' H' x tA pB (Px L)→Q .bN H'
theorem HM:aQ ["self"] ["self"] (aH lL):=⟨rfl,rfl,rfl,by decide +kernel,rfl,by decide +kernel,by decide +kernel⟩
theorem HN {fd CN:FuncData} (T:Txt K mg t) (F:kL K "end_up" "LinkEnd.end_up" lL t.lO fd) (cS:bZ P w K mg base (i9 P w) 1 t.cR CN ["self"] (gc t.LinkEnd)) (cT:Binds K CN ["self"] []) :
  bZ P w K mg base (i9 P w) 2 t.lO fd ["self"] (tZ t.LinkEnd)∧Binds K fd ["self"] []:=by
 refine ⟨F.qQ HM (fun vs H Q E h=>?_) (fun f bo A outer s H vs Q E hr h=>?_),F.binds fun _ _ _ _ _ _ us hl=>match us,hl with | [_],_=>rfl⟩
 ·obtain ⟨B,x,tA,pA,L,rfl,_⟩:=h
  rfl
 ·obtain ⟨B,x,tA,pA,L,rfl,h,q⟩:=h
  refine ⟨_,aC (cF K (pv 0) cJ (by rfl))
   (aG (ax (dg (pv 0) T.aJ T.lQ (cS.mono (by decide)) hr cT .nil ar))),?_⟩
  obtain ⟨dx,pv,hx,hp⟩:=h.at_
  refine ⟨_,rfl,x,t.LinkEnd,dx,_,rfl,hx,T.aJ,T.gB,by show 11 < 1000;decide,?_⟩
  rw [Fu]
  obtain ⟨h1,m1⟩:=h.set (dx:=dx) (pv:=.bN) (L':={ L with p:=none }) rfl rfl rfl
  refine ⟨_,rfl,x,dx,_,rfl,aB,rfl,x,dx,_,rfl,aB,by show 11 < 900;decide,fun pB N6=>?_⟩
  rw [HL,wa,CK]
  have h1:bO t.LinkEnd B (upd H x (.ins t.LinkEnd dx (cn L.q L.s L.d L.u L.b L.k .bN tA pA L.of L.tk))) x tA pA { L with p:=none }:=h1
  have m1:jU B H B (upd H x (.ins t.LinkEnd dx (cn L.q L.s L.d L.u L.b L.k .bN tA pA L.of L.tk))) x tA pA tA pA:=m1
  generalize upd H x (.ins t.LinkEnd dx (cn L.q L.s L.d L.u L.b L.k .bN tA pA L.of L.tk))=H1 at *
  have s2:aI H1 (upd H1 pB (.lst [])):=(aI.refl _).new N6
  have h2:=h1.same s2
  have TQ:tA≠pB:=fun z=>h1.ht (z ▸ N6)
  have MU:x≠pB:=fun z=>h1.hx (z ▸ N6)
  obtain ⟨iF,g,g'⟩:=h2.told
  refine q B _ pB (m1.trans ⟨aI.refl _,fun _ _ z=>z,fun y o n1 n2 n3 e=>by rw [aE n1];exact s2 _ _ e,fun b hb=>s2.free (ed hb h2.hx),.inl rfl,.inr N6⟩)
   ⟨h2.sb.put h2.bx,h.bx,h.bt,h1.sb.free N6,⟨dx,.bN,aB,rfl⟩,⟨iF,by rw [aE (Ne.symm h2.xt)];exact g,g'⟩,⟨fun _=>0,by rw [aE (Ne.symm MU)];exact aB,fun y xs hy=>by cases hy⟩,TQ⟩
def Fv (C:Addr):Sp:=fun vs H Q _=>∃ (B:Hp) (x tA pA:Addr) (L:Lk) (n:Int),vs=[.ref x,.int n]∧bO C B H x tA pA L∧L.ev.length < 1000000∧∀ B' H' pB,jU B H B' H' x tA pA tA pB→bO C B' H' x tA pB (bK L n)→Q .bN H'
theorem MV:aQ ["self","birth"] ["self","birth"] (aH tR):=⟨rfl,rfl,rfl,by decide +kernel,rfl,by decide +kernel,by decide +kernel⟩
theorem MW {fd CN:FuncData} (T:Txt K mg t) (F:kL K "meet" "LinkEnd.meet" tR t.wI fd) (lW:bZ P w K mg base (i9 P w) 2 t.lO CN ["self"] (tZ t.LinkEnd)) (lX:Binds K CN ["self"] []) :
  bZ P w K mg base (i9 P w) 3 t.wI fd ["self","birth"] (Fv t.LinkEnd)∧Binds K fd ["self","birth"] []:=by
 refine ⟨F.qQ MV (fun vs H Q E h=>?_) (fun f bo A outer s H vs Q E hr h=>?_),F.binds fun _ _ _ _ _ _ us hl=>match us,hl with | [_,_],_=>rfl⟩
 ·obtain ⟨B,x,tA,pA,L,n,rfl,_⟩:=h
  rfl
 ·obtain ⟨B,x,tA,pA,L,n,rfl,h,hlen,q⟩:=h
  refine ⟨_,aC (bD (PW.pt (su (aW pM (ao K (pv 0) (by rfl)) cJ (aj _)) (pL (aW Il (pv 1) (ao K (pv 0) (by rfl)) (aj _)))))
    (aC (ax (jL K PySem.F.plainAttrs_list PySem.F.slot_list_append PySem.F.type_list_append cP (ao K (pv 0) (by rfl)) (aA (bB (aA cZ (aA (ao K (pv 0) (by rfl)) aD))) aD)))
    (aG (ax (dg (pv 0) T.aJ T.zO (lW.mono (by decide)) hr lX .nil ar))))
    (af))
   (aG (cF K (pv 0) (pv 1) (by rfl))),?_⟩
  have hsz:(1000001:Nat)≤sizeLine:=by decide
  obtain ⟨dx,pv,hx,hp⟩:=h.at_
  have last:∀ (B1 H1:Hp) (pB:Addr) (L1:Lk),jU B H B1 H1 x tA pA tA pB→bO t.LinkEnd B1 H1 x tA pB L1→{ L1 with k:=n }=bK L n→(Iq K (qL 0) (qL 1) "known") { nx:=fun _ H'=>Q .bN H',rt:=Q } [some (.ref x),some (.int n)] H1:=fun B1 H1 pB L1 m1 h1 e1=>by
   obtain ⟨wd,MX,xy,CA⟩:=h1.at_
   refine ⟨_,rfl,_,rfl,x,t.LinkEnd,wd,_,rfl,xy,T.aJ,T.f9,by show 11 < 1000;decide,?_⟩
   rw [CJ]
   obtain ⟨h2,m2⟩:=h1.set (dx:=wd) (pv:=MX) (L':={ L1 with k:=n }) CA rfl rfl
   exact q B1 _ pB (m1.trans m2) (by rw [← e1];exact h2)
  refine ⟨_,rfl,x,t.LinkEnd,dx,_,_,rfl,hx,T.aJ,T.gB,oK,rfl,_,rfl,?_⟩
  cases ep:L.p with
  | none =>
   rw [ep] at hp
   have hp:pv=.bN:=hp
   subst hp
   refine rX rfl (dh ?_)
   exact last B H pA L jU.refl h (by unfold bK;rw [ep])
  | some p =>
   rw [ep] at hp
   obtain ⟨pa,rfl,Fq⟩:=hp
   refine uc (fun z=>by cases z) ?_
   refine ⟨_,rfl,_,rfl,x,t.LinkEnd,dx,_,_,rfl,hx,T.aJ,T.f9,pe,_,_,rfl,rfl,_,rfl,?_⟩
   by_cases hk:L.k < n
   ·refine eN hk ?_
    obtain ⟨iF,g,g'⟩:=h.told
    refine ⟨_,rfl,x,t.LinkEnd,dx,_,_,rfl,hx,T.aJ,T.mJ,wZ,.inl ⟨rfl,_,aX.of g⟩,?_⟩
    refine ⟨_,rfl,x,t.LinkEnd,dx,_,_,rfl,hx,T.aJ,T.gB,oK,by show 2≤sizeLine;decide,fun ea Dz=>?_⟩
    refine ⟨tA,_,_,rfl,rfl,by rw [aE (aK g Dz)];exact g,by rw [aL];omega,?_⟩
    obtain ⟨h1,m1⟩:=h.tell g g' Dz (J1 (w:="anew") (ns:=[]) (h.sb.free Dz) Fq)
    obtain ⟨wd,MX,xy,CA⟩:=h1.at_
    refine ⟨_,rfl,x,wd,_,rfl,xy,rfl,_,x,tA,pA,_,rfl,h1,fun B2 H2 pB m2 h2=>?_⟩
    exact last B2 H2 pB _ (m1.trans m2) h2 (by unfold bK Px;rw [ep];simp only [if_pos hk])
   ·refine dW hk ?_
    exact last B H pA L jU.refl h (by unfold bK;rw [ep];simp only [if_neg hk])
end
end K31
namespace My
def told (l:List Int):Int:=l.foldl (fun n s=>n * 97+s) 0
def low:Nat→Int→List Int
 | 0,_=>[]
 | m+1,n=>n % 97 :: low m (n / 97)
def rest:Nat→Int→Int
 | 0,n=>n
 | m+1,n=>rest m (n / 97)
theorem Fw:∀ (m:Nat) (n:Int),(low m n).length=m
 | 0,_=>rfl
 | m+1,n=>by rw [low,List.length_cons,Fw]
theorem CO:∀ (m:Nat) (n:Int),low (m+1) n=low m n ++ [rest m n % 97]
 | 0,n=>rfl
 | m+1,n=>by rw [low,CO m (n / 97),low,rest,List.cons_append]
theorem zT:∀ (m:Nat) (n:Int),rest (m+1) n=rest m n / 97
 | 0,n=>rfl
 | m+1,n=>by rw [rest,zT m (n / 97),rest]
theorem HP (l:List Int) (s:Int):told (l ++ [s])=told l * 97+s:=by unfold told;rw [List.foldl_append];rfl
theorem uw:∀ (m:Nat) (n:Int),0≤n→0≤rest m n
 | 0,n,h=>by rw [rest];exact h
 | m+1,n,h=>by rw [rest];exact uw m _ (by omega)
end My
namespace K31
open PySem L2 PyProof.Rows
section
variable {P:Program} {w:World} {K:PySem.W.Frag} {mg:Str→Option Value} {base:Heap} {t:Ad}
def nM (C:Addr):Sp:=fun vs H Q E=>∃ n m:Int,vs=[.int n,.int m]∧n.natAbs < 2 ^ 1000∧0≤m∧m≤1000 ∧
 (0≤n→My.rest m.toNat n=0→∀ p H',H p=none→aI H H'→H' p=some (.lst ((My.low m.toNat n).reverse.map V.int))→Q (.ref p) H')∧(n < 0∨0 < My.rest m.toNat n→∀ H',aI H H'→E (.ref C) none H')
theorem dP:aQ ["number","many","signs","left","place"] ["number","many"] (aH fj):=⟨rfl,rfl,rfl,by decide +kernel,rfl,by decide +kernel,by decide +kernel⟩
theorem vF (F:aP K mg "number_signs" fj) (T:Txt K mg t):Def P w K mg base 1 "number_signs" ["number","many"] (nM t.BadSign):=by
 refine F.def dP (fun _ _ _ _ _ _ us hl=>match us,hl with | [_,_],_=>rfl) (fun vs H Q E h=>?_) (fun f bo A outer s H vs Q E hr h=>?_)
 ·obtain ⟨n,m,rfl,_⟩:=h
  rfl
 ·obtain ⟨n,m,rfl,hb,m0,m1,q1,q2⟩:=h
  refine ⟨_,aC (aT (i:=2) dP.nd rfl (Or.inl rfl) (bF aD))
   (aC (aT (i:=3) dP.nd rfl (Or.inl rfl) (pv 0))
   (aC (PS.uX (dC PassesOwn.never rfl (cv (by rfl) T.df (aA (pv 1) aD)) (az (i:=4) dP.nd rfl (Or.inl rfl))
    (aC (ax (Ni PySem.F.plainAttrs_list PySem.F.slot_list_append PySem.F.type_list_append cP (pv 2) (aA (aN aw (pv 3) (aS T.cO)) aD)))
    (aG (aT (i:=3) dP.nd rfl (Or.inl rfl) (aN cW (pv 3) (aS T.cO)))))))
   (aC (bD (PW.pt (BA (aW jy (pv 0) aF (aj _)) (vb (aW Il (pv 3) aF (aj _)))))
    (aG (eZ bC rfl rfl T.wN T.wO PySem.F.excBase_ValueError (aA (jz (bU (fe (pv 0)) (bU cZ (bU (fe (pv 1)) (bU cZ nk))))) aD)))
    (af))
   (aG (aV (tI rfl T.qT T.wM (pv 2))))))),?_⟩
  refine ⟨by show 0≤sizeLine;decide,fun ps K7=>?_⟩
  refine ⟨_,rfl,?_⟩
  have hsz:(2000:Nat)≤sizeLine:=by decide
  refine ⟨_,rfl,m,rfl,by omega,by omega,fT (lo:=0) (n:=m.toNat) (fun i σ H'=>∃ x:Option V,σ=[some (.int n),some (.int m),some (.ref ps),some (.int (My.rest i n)),x]∧aI H H'∧H' ps=some (.lst ((My.low i n).map V.int))) ⟨none,rfl,(aI.refl _).new K7,aB⟩ ?_ ?_⟩
  ·rintro i σ H' hi ⟨x,rfl,s1,h1⟩
   refine ⟨_,rfl,.inl ⟨rfl,_,aX.of h1⟩,_,rfl,_,_,rfl,rfl,(by show (0:Int) < 97;decide),ps,_,_,rfl,rfl,h1,by rw [List.length_map,My.Fw];omega,?_⟩
   refine ⟨_,rfl,_,_,rfl,rfl,⟨by decide,by decide⟩,?_⟩
   refine ⟨_,by rw [My.zT];rfl,s1.put K7,?_⟩
   rw [aB,My.CO,List.map_append]
   rfl
  ·rintro σ H' ⟨x,rfl,s1,h1⟩
   refine ⟨_,rfl,_,_,rfl,rfl,_,rfl,?_⟩
   have hz:=gC hb
   have hz2:=gC (i:=m) (dt (by omega) (by omega))
   have l1:(" is not told by ":Str).length=16:=by decide +kernel
   have l2:(" signs":Str).length=6:=by decide +kernel
   have sl:(3000:Nat)≤sizeLine:=by decide
   have e0:(Str.empty ++ Str.ofString (toString n)).length≤1001:=by rw [strLen_append];show 0+_≤1001;omega
   have e1:((Str.empty ++ Str.ofString (toString n)) ++ (" is not told by ":Str)).length≤1017:=by rw [strLen_append];omega
   have e2:(((Str.empty ++ Str.ofString (toString n)) ++ (" is not told by ":Str)) ++ Str.ofString (toString m)).length≤2018:=by rw [strLen_append];omega
   have e3:((((Str.empty ++ Str.ofString (toString n)) ++ (" is not told by ":Str)) ++ Str.ofString (toString m)) ++ (" signs":Str)).length≤2024:=by rw [strLen_append];omega
   have bad:n < 0∨0 < My.rest m.toNat n→E (.ref t.BadSign) none H':=fun z=>q2 z H' s1
   by_cases h0:n < 0
   ·refine eN h0 (fc ?_)
    refine ⟨_,rfl,n,rfl,dU hb (by decide) (by decide),_,rfl,by omega,_,rfl,by omega,_,rfl,m,rfl,dU (dt (by omega) (by omega)) (by decide) (by decide),_,rfl,by omega,_,rfl,by omega,by omega,?_⟩
    exact ⟨by show 1≤sizeLine;decide,bad (.inl h0)⟩
   ·refine dW h0 ?_
    refine ⟨_,rfl,_,_,rfl,rfl,_,rfl,?_⟩
    by_cases h2:0 < My.rest m.toNat n
    ·refine eN h2 ?_
     refine ⟨_,rfl,n,rfl,dU hb (by decide) (by decide),_,rfl,by omega,_,rfl,by omega,_,rfl,m,rfl,dU (dt (by omega) (by omega)) (by decide) (by decide),_,rfl,by omega,_,rfl,by omega,by omega,?_⟩
     exact ⟨by show 1≤sizeLine;decide,bad (.inr h2)⟩
    ·refine dW h2 ?_
     have r0:=My.uw m.toNat n (by omega)
     refine ⟨_,rfl,ps,_,rfl,aX.of h1,fun p hp=>?_⟩
     refine q1 (by omega) (by omega) p _ (s1.free hp) (s1.new hp) ?_
     rw [aB,← List.map_reverse]
def nN (K:PySem.W.Frag) (C:Addr):Sp:=fun vs H Q E=>∃ (l:Addr) (ns:List Int),vs=[.ref l]∧aX K H l (ns.map V.int)∧(∀ n ∈ ns,n.natAbs < 2 ^ 1000) ∧
 ((∀ n ∈ ns,0≤n∧n < 97)→Q (.int (My.told ns)) H)∧(∀ n ∈ ns,¬ (0≤n∧n < 97)→E (.ref C) none H)
theorem et:aQ ["signs","number","sign"] ["signs"] (aH fk):=⟨rfl,rfl,rfl,by decide +kernel,rfl,by decide +kernel,by decide +kernel⟩
theorem vG (F:aP K mg "signs_number" fk) (T:Txt K mg t) (dj:Def P w K mg base 2 "look_sign" ["number"] (i6 t.BadSign)):Def P w K mg base 3 "signs_number" ["signs"] (nN K t.BadSign):=by
 refine F.def et (fun _ _ _ _ _ _ us hl=>match us,hl with | [_],_=>rfl) (fun vs H Q E h=>?_) (fun f bo A outer s H vs Q E hr h=>?_)
 ·obtain ⟨l,ns,rfl,_⟩:=h
  rfl
 ·obtain ⟨l,ns,rfl,hl,hb,q1,q2⟩:=h
  refine ⟨_,aC (aT (i:=1) et.nd rfl (Or.inl rfl) aF)
   (aC (dC (O5 bC) rfl (E8 (pv 0)) (az (i:=2) et.nd rfl (Or.inl rfl))
    (aC (ax (aZ (dj.mono (by decide)) hr (lG bC) (aA (pv 2) aD)))
    (aG (aT (i:=1) et.nd rfl (Or.inl rfl) (aN bA (aN eJ (pv 1) (aS T.cO)) (pv 2))))))
   (aG (aV (pv 1)))),?_⟩
  refine ⟨_,rfl,l,rfl,⟨_,hl⟩,lD (K:=K) (a:=l) (xs:=ns.map V.int) (fun i σ H'=>∃ x:Option V,σ=[some (.ref l),some (.int (My.told (ns.take i))),x]∧H'=H∧∀ n ∈ ns.take i,0≤n∧n < 97) ⟨none,rfl,rfl,fun n hn=>by simp at hn⟩ (fun i σ H' _ ⟨_,_,e,_⟩=>by rw [e];exact hl) ?_ ?_⟩
  ·rintro i y σ H' hi ⟨x,rfl,rfl,ha⟩
   obtain ⟨z,hz,rfl⟩:=mC hi
   have hm:z ∈ ns:=List.mem_of_getElem? hz
   refine ⟨_,rfl,z,rfl,hb z hm,fun h0=>?_,fun h0=>q2 z hm h0⟩
   refine ⟨_,rfl,_,_,rfl,rfl,.inr ⟨by decide,by decide⟩,_,rfl,_,_,rfl,rfl,?_⟩
   refine ⟨some (.int z),?_,rfl,?_⟩
   ·rw [take_succ hz,My.HP]
    rfl
   ·rw [take_succ hz]
    intro n hn
    rcases List.mem_append.mp hn with z1 | z1
    ·exact ha n z1
    ·rw [List.mem_singleton.mp z1];exact h0
  ·rintro σ H' ⟨x,rfl,rfl,ha⟩
   refine ⟨_,rfl,?_⟩
   rw [List.length_map,List.take_length] at *
   exact q1 ha
end
end K31
namespace K31
open PySem L2 PyProof.Rows
section
variable {P:Program} {w:World} {K:PySem.W.Frag} {mg:Str→Option Value} {base:Heap} {t:Ad}
def wg (C:Addr):Sp:=fun vs H Q _=>∃ (B:Hp) (x tA pA:Addr) (L:Lk),vs=[.ref x]∧bO C B H x tA pA L∧L.ev.length < 1000000∧∀ B' H',jU B H B' H' x tA pA tA pA→bO C B' H' x tA pA (bY L)→Q .bN H'
theorem D7:aQ ["self"] ["self"] (aH jD):=⟨rfl,rfl,rfl,by decide +kernel,rfl,by decide +kernel,by decide +kernel⟩
theorem D8 {fd:FuncData} (T:Txt K mg t) (F:kL K "come_up" "LinkEnd.come_up" jD t.lN fd) :
  bZ P w K mg base (i9 P w) 1 t.lN fd ["self"] (wg t.LinkEnd)∧Binds K fd ["self"] []:=by
 refine ⟨F.qQ D7 (fun vs H Q E h=>?_) (fun f bo A outer s H vs Q E hr h=>?_),F.binds fun _ _ _ _ _ _ us hl=>match us,hl with | [_],_=>rfl⟩
 ·obtain ⟨B,x,tA,pA,L,rfl,_⟩:=h
  rfl
 ·obtain ⟨B,x,tA,pA,L,rfl,h,hlen,q⟩:=h
  refine ⟨_,aG (bD (aW tE (ao K (pv 0) (by rfl)) cJ (aj _))
    (aC (cF K (pv 0) (nX (aW jK (ao K (pv 0) (by rfl)) aF (aj _)) (bB (aA (ao K (pv 0) (by rfl)) (aA (ao K (pv 0) (by rfl)) aD))) (bB (aA (ao K (pv 0) (by rfl)) (aA (ao K (pv 0) (by rfl)) aD)))) (by rfl))
    (aG (ax (jL K PySem.F.plainAttrs_list PySem.F.slot_list_append PySem.F.type_list_append cP (ao K (pv 0) (by rfl)) (aA (bB (aA cZ (aA (ao K (pv 0) (by rfl)) aD))) aD)))))
    (af)),?_⟩
  have hsz:(1000001:Nat)≤sizeLine:=by decide
  obtain ⟨dx,pv,hx,hp⟩:=h.at_
  refine ⟨_,rfl,x,t.LinkEnd,dx,_,_,rfl,hx,T.aJ,T.gB,oK,rfl,_,rfl,?_⟩
  cases ep:L.p with
  | some p =>
   rw [ep] at hp
   obtain ⟨pa,rfl,Fq⟩:=hp
   refine dW (fun z=>by cases z) ?_
   exact q B H jU.refl (by unfold bY;rw [ep];exact h)
  | none =>
   rw [ep] at hp
   have hp:pv=.bN:=hp
   subst hp
   refine eN rfl ?_
   have main:∀ (pa:Addr) (p:Int × Int),H pa=none→p=(if L.s=0 then (L.b,L.k) else (L.k,L.b))→(∃ a C dx fs,V.ref x=.ref a∧(upd H pa (.tup [.int p.1,.int p.2])) a=some (.ins C dx fs)∧GS K C∧dD K C "pair"∧fs.length < 1000∧(Ic (V0 K "list" FP (DA K (qL 0) "told") (FG (Rn (FG (tC (.str "up")) (FG (DA K (qL 0) "pair") GU))) GU))) { nx:=fun _ H'=>Q .bN H',rt:=Q } [some (.ref x)] (upd (upd H pa (.tup [.int p.1,.int p.2])) a (.ins C dx (eK "pair" (.ref pa) fs)))):=fun pa p Fq VA=>by
    have s1:aI H (upd H pa (.tup [.int p.1,.int p.2])):=(aI.refl _).new Fq
    obtain ⟨h1,m1⟩:=h.grow (o:=.tup [.int p.1,.int p.2]) s1 Fq aB
    refine ⟨x,t.LinkEnd,dx,_,rfl,s1 _ _ hx,T.aJ,T.gB,by show 11 < 1000;decide,?_⟩
    rw [Fu]
    obtain ⟨h2,m2⟩:=h1.set (dx:=dx) (pv:=.ref pa) (L':={ L with p:=some p }) ⟨pa,rfl,aB⟩ rfl rfl
    have Ws:(upd B pa (.tup [.int p.1,.int p.2])) pa=some (.tup [.int p.1,.int p.2]):=aB
    have SS:(upd (upd H pa (.tup [.int p.1,.int p.2])) x (.ins t.LinkEnd dx (cn L.q L.s L.d L.u L.b L.k (.ref pa) tA pA L.of L.tk))) x=some (.ins t.LinkEnd dx (cn L.q L.s L.d L.u L.b L.k (.ref pa) tA pA L.of L.tk)):=aB
    have h2:bO t.LinkEnd (upd B pa (.tup [.int p.1,.int p.2])) (upd (upd H pa (.tup [.int p.1,.int p.2])) x (.ins t.LinkEnd dx (cn L.q L.s L.d L.u L.b L.k (.ref pa) tA pA L.of L.tk))) x tA pA { L with p:=some p }:=h2
    have TR:jU B H (upd B pa (.tup [.int p.1,.int p.2])) (upd (upd H pa (.tup [.int p.1,.int p.2])) x (.ins t.LinkEnd dx (cn L.q L.s L.d L.u L.b L.k (.ref pa) tA pA L.of L.tk))) x tA pA tA pA:=m1.trans m2
    generalize upd (upd H pa (.tup [.int p.1,.int p.2])) x (.ins t.LinkEnd dx (cn L.q L.s L.d L.u L.b L.k (.ref pa) tA pA L.of L.tk))=H2 at *
    generalize upd B pa (.tup [.int p.1,.int p.2])=B2 at *
    obtain ⟨iF,g,g'⟩:=h2.told
    refine ⟨_,rfl,x,t.LinkEnd,dx,_,_,rfl,SS,T.aJ,T.mJ,wZ,.inl ⟨rfl,_,aX.of g⟩,?_⟩
    refine ⟨_,rfl,x,t.LinkEnd,dx,_,_,rfl,SS,T.aJ,T.gB,oK,by show 2≤sizeLine;decide,fun ea Dz=>?_⟩
    refine ⟨tA,_,_,rfl,rfl,by rw [aE (aK g Dz)];exact g,by rw [aL];show L.ev.length < sizeLine;omega,?_⟩
    obtain ⟨h3,m3⟩:=h2.tell g g' Dz (J1 (w:="up") (ns:=[]) (h2.sb.free Dz) Ws)
    refine q _ _ (TR.trans m3) ?_
    have e3:bY L={ L with p:=some p,ev:=L.ev ++ [.mk "up" p []] }:=by unfold bY;rw [ep,VA]
    rw [e3]
    exact h3
   refine ⟨_,rfl,x,t.LinkEnd,dx,_,_,rfl,hx,T.aJ,T.Fo,Pu,rfl,_,rfl,?_⟩
   by_cases hs:L.s=0
   ·refine eN (by rw [hs]) ?_
    refine ⟨_,rfl,x,t.LinkEnd,dx,_,_,rfl,hx,T.aJ,T.lP,sJ,_,rfl,x,t.LinkEnd,dx,_,_,rfl,hx,T.aJ,T.f9,pe,by show 2≤sizeLine;decide,fun pa Fq=>?_⟩
    exact ⟨_,rfl,main pa (L.b,L.k) Fq (by rw [if_pos hs])⟩
   ·refine dW (fun z=>hs (V.int.inj z)) ?_
    refine ⟨_,rfl,x,t.LinkEnd,dx,_,_,rfl,hx,T.aJ,T.f9,pe,_,rfl,x,t.LinkEnd,dx,_,_,rfl,hx,T.aJ,T.lP,sJ,by show 2≤sizeLine;decide,fun pa Fq=>?_⟩
    exact ⟨_,rfl,main pa (L.k,L.b) Fq (by rw [if_neg hs])⟩
def kQ (C:Addr):Sp:=fun vs H Q _=>∃ (B:Hp) (x tA pA:Addr) (L:Lk),vs=[.ref x]∧bO C B H x tA pA L∧L.ev.length < 1000000∧∀ B' H' pB,jU B H B' H' x tA pA tA pB→bO C B' H' x tA pB (iG L)→Q .bN H'
theorem x4:aQ ["self"] ["self"] (aH dw):=⟨rfl,rfl,rfl,by decide +kernel,rfl,by decide +kernel,by decide +kernel⟩
theorem x5 {fd CN:FuncData} (T:Txt K mg t) (F:kL K "start_over" "LinkEnd.start_over" dw t.fz fd) (lW:bZ P w K mg base (i9 P w) 2 t.lO CN ["self"] (tZ t.LinkEnd)) (lX:Binds K CN ["self"] []) :
  bZ P w K mg base (i9 P w) 3 t.fz fd ["self"] (kQ t.LinkEnd)∧Binds K fd ["self"] []:=by
 refine ⟨F.qQ x4 (fun vs H Q E h=>?_) (fun f bo A outer s H vs Q E hr h=>?_),F.binds fun _ _ _ _ _ _ us hl=>match us,hl with | [_],_=>rfl⟩
 ·obtain ⟨B,x,tA,pA,L,rfl,_⟩:=h
  rfl
 ·obtain ⟨B,x,tA,pA,L,rfl,h,hlen,q⟩:=h
  refine ⟨_,aC (bD (aW pM (ao K (pv 0) (by rfl)) cJ (aj _))
    (aC (ax (jL K PySem.F.plainAttrs_list PySem.F.slot_list_append PySem.F.type_list_append cP (ao K (pv 0) (by rfl)) (aA (bB (aA cZ (aA (ao K (pv 0) (by rfl)) (aA (aN bA (aN jJ (ao K (pv 0) (by rfl)) (ao K (pv 0) (by rfl))) aF) (aA (ao K (pv 0) (by rfl)) aD))))) aD)))
    (aG (ax (dg (pv 0) T.aJ T.zO (lW.mono (by decide)) hr lX .nil ar))))
    (af))
   (aC (yq (pv 0) aF Ih)
   (aG (cF K (pv 0) (aS T.pY) (by rfl)))),?_⟩
  have hsz:(1000001:Nat)≤sizeLine:=by decide
  obtain ⟨dx,pv,hx,hp⟩:=h.at_
  obtain ⟨tk,hNB⟩:=T.pY
  have last:∀ (B1 H1:Hp) (pB:Addr) (L1:Lk),jU B H B1 H1 x tA pA tA pB→bO t.LinkEnd B1 H1 x tA pB L1→{ L1 with b:=L1.b+1,k:=0 }=iG L→(Ib (zh K (qL 0) (tC (.int 1)) (K2 fun i j=>.int (i+j)) "birth") (Iq K (qL 0) (tC (.int 0)) "known")) { nx:=fun _ H'=>Q .bN H',rt:=Q } [some (.ref x)] H1:=fun B1 H1 pB L1 m1 h1 e1=>by
   obtain ⟨wd,MX,xy,CA⟩:=h1.at_
   refine ⟨_,rfl,x,t.LinkEnd,wd,_,_,rfl,xy,T.aJ,T.lP,sJ,_,_,rfl,rfl,wd,_,xy,by show 11 < 1000;decide,?_⟩
   rw [Jy]
   refine ⟨_,rfl,x,t.LinkEnd,wd,_,rfl,aB,T.aJ,T.f9,by show 11 < 1000;decide,?_⟩
   rw [CJ,iu]
   obtain ⟨h2,m2⟩:=h1.set (dx:=wd) (pv:=MX) (L':={ L1 with b:=L1.b+1,k:=0 }) CA rfl rfl
   exact q B1 _ pB (m1.trans m2) (by rw [← e1];exact h2)
  refine ⟨_,rfl,x,t.LinkEnd,dx,_,_,rfl,hx,T.aJ,T.gB,oK,rfl,_,rfl,?_⟩
  cases ep:L.p with
  | none =>
   rw [ep] at hp
   have hp:pv=.bN:=hp
   subst hp
   refine rX rfl ?_
   exact last B H pA L jU.refl h (by unfold iG;rw [ep])
  | some p =>
   rw [ep] at hp
   obtain ⟨pa,rfl,Fq⟩:=hp
   refine uc (fun z=>by cases z) ?_
   obtain ⟨iF,g,g'⟩:=h.told
   refine ⟨_,rfl,x,t.LinkEnd,dx,_,_,rfl,hx,T.aJ,T.mJ,wZ,.inl ⟨rfl,_,aX.of g⟩,?_⟩
   refine ⟨_,rfl,x,t.LinkEnd,dx,_,_,rfl,hx,T.aJ,T.gB,oK,?_⟩
   refine ⟨_,rfl,x,t.LinkEnd,dx,_,_,rfl,hx,T.aJ,T.vV,Dx,_,rfl,x,t.LinkEnd,dx,_,_,rfl,hx,T.aJ,T.wQ,Fs,_,_,rfl,rfl,_,_,rfl,rfl,?_⟩
   refine ⟨_,rfl,x,t.LinkEnd,dx,_,_,rfl,hx,T.aJ,T.vV,Dx,by show 4≤sizeLine;decide,fun ea Dz=>?_⟩
   refine ⟨tA,_,_,rfl,rfl,by rw [aE (aK g Dz)];exact g,by rw [aL];omega,?_⟩
   obtain ⟨h1,m1⟩:=h.tell g g' Dz (J1 (w:="silent") (ns:=[L.d - L.q+1,L.d]) (h.sb.free Dz) Fq)
   obtain ⟨wd,MX,xy,CA⟩:=h1.at_
   refine ⟨_,rfl,x,wd,_,rfl,xy,rfl,_,x,tA,pA,_,rfl,h1,fun B2 H2 pB m2 h2=>?_⟩
   exact last B2 H2 pB _ (m1.trans m2) h2 (by unfold iG Px;rw [ep])
end
end K31
namespace K31
open PySem L2 PyProof.Rows
section
variable {P:Program} {w:World} {K:PySem.W.Frag} {mg:Str→Option Value} {base:Heap} {t:Ad}
def qF (C:Addr):Sp:=fun vs H Q _=>∃ (B:Hp) (x tA pA:Addr) (L:Lk) (n:Int),vs=[.ref x,.int n]∧bO C B H x tA pA L∧∀ H',jU B H B H' x tA pA tA pA→bO C B H' x tA pA (cB L n)→Q .bN H'
theorem HQ {n:Nat} {f:Nat→Addr}:(bJ (n+1) f).eraseIdx 0=bJ n (fun j=>f (j+1)):=by
 apply List.ext_getElem?
 intro j
 rw [List.getElem?_eraseIdx]
 by_cases hj:j < n
 ·rw [if_neg (by omega),b9 (f:=fun j=>V.ref (f j)) (show j+1 < n+1 by omega),b9 (f:=fun j=>V.ref (f (j+1))) hj]
 ·rw [if_neg (by omega),List.getElem?_eq_none (by rw [aL];omega),List.getElem?_eq_none (by rw [aL];omega)]
theorem qG:aQ ["self","count","following"] ["self","count"] (aH dy):=⟨rfl,rfl,rfl,by decide +kernel,rfl,by decide +kernel,by decide +kernel⟩
theorem x6 {fd:FuncData} (T:Txt K mg t) (F:kL K "hear_count" "LinkEnd.hear_count" dy t.f6 fd) :
  bZ P w K mg base (i9 P w) 1 t.f6 fd ["self","count"] (qF t.LinkEnd)∧Binds K fd ["self","count"] []:=by
 refine ⟨F.qQ qG (fun vs H Q E h=>?_) (fun f bo A outer s H vs Q E hr h=>?_),F.binds fun _ _ _ _ _ _ us hl=>match us,hl with | [_,_],_=>rfl⟩
 ·obtain ⟨B,x,tA,pA,L,n,rfl,_⟩:=h
  rfl
 ·obtain ⟨B,x,tA,pA,L,n,rfl,h,q⟩:=h
  refine ⟨_,aC (aT (i:=2) qG.nd rfl (Or.inl rfl) (aN aw (aN bA (ao K (pv 0) (by rfl)) aF) (aS T.cO)))
   (aG (bD (PW.pt (su (rR (ao K (pv 0) (by rfl)) (fun _=>rfl)) (pL (aW jK (pv 1) (pv 2) (aj _)))))
    (aC (ax (jL K PySem.F.plainAttrs_list PySem.F.slot_list_pop PySem.F.type_list_pop I0 (ao K (pv 0) (by rfl)) (aA aF aD)))
    (aG (cF K (pv 0) (pv 2) (by rfl))))
    (af))),?_⟩
  obtain ⟨dx,pv,hx,hp⟩:=h.at_
  obtain ⟨dq,g3,vW⟩:=h.bS
  refine ⟨_,rfl,x,t.LinkEnd,dx,_,_,rfl,hx,T.aJ,T.mK,zS,_,_,rfl,rfl,_,_,rfl,rfl,(by show (0:Int) < 97;decide),?_⟩
  refine ⟨_,rfl,x,t.LinkEnd,dx,_,_,rfl,hx,T.aJ,T.gW,lV,_,.inl ⟨_,aX.of g3,rfl⟩,?_⟩
  cases ep:L.bS with
  | nil =>
   rw [ep] at g3
   refine dh (dh (q H jU.refl ?_))
   unfold cB
   rw [if_neg (fun z=>z.1 ep)];exact h
  | cons a r =>
   rw [ep] at g3 vW
   have K4:(!(bJ (a :: r).length dq).isEmpty)=true:=by
    have hl:(bJ (a :: r).length dq).length=r.length+1:=aL _ _
    cases e:bJ (a :: r).length dq with
    | nil=>rw [e] at hl;cases hl
    | cons u v=>rfl
   rw [K4]
   refine fc ?_
   refine ⟨_,rfl,_,rfl,rfl,_,rfl,?_⟩
   by_cases hc:n=(L.of+1) % 97
   ·refine eN (by show V.int n=V.int ((L.of+1) % 97);rw [hc]) ?_
    refine ⟨_,rfl,x,t.LinkEnd,dx,_,_,rfl,hx,T.aJ,T.gW,lV,.inl ⟨rfl,_,aX.of g3⟩,pA,_,0,0,_,rfl,rfl,g3,by decide,by decide,by rw [aL,List.length_cons];unfold seqIndex?;simp,b9 (f:=fun j=>V.ref (dq j)) (Nat.succ_pos _),?_⟩
    have e0:(bJ (a :: r).length dq).eraseIdx 0=bJ r.length (fun j=>dq (j+1)):=HQ
    rw [e0]
    have MU:=h.xp
    refine ⟨_,rfl,_,rfl,x,t.LinkEnd,dx,_,rfl,by rw [aE MU];exact hx,T.aJ,T.mK,by show 11 < 1000;decide,?_⟩
    rw [wa]
    have e1:cB L n={ L with bS:=r,of:=(L.of+1) % 97 }:=by
     unfold cB
     rw [if_pos ⟨(by rw [ep];exact fun z=>by cases z),hc⟩,ep]
     rfl
    obtain ⟨iF,g2,CM⟩:=h.told
    refine q _ ⟨aI.refl _,fun _ _ z=>z,fun y o n1 n2 n3 e=>by rw [aE n1,aE n3];exact e,fun b hb=>ed (ed hb (by rw [aE MU];exact h.hx)) h.hp,.inl rfl,.inl rfl⟩ ?_
    rw [e1]
    exact ⟨(h.sb.put h.bp).put h.bx,h.bx,h.bt,h.bp,⟨dx,pv,aB,hp⟩,⟨iF,by rw [aE (Ne.symm h.xt),aE h.ne];exact g2,CM⟩,⟨fun j=>dq (j+1),by rw [aE (Ne.symm MU)];exact aB,fun y xs hy=>vW (y+1) xs hy⟩,h.ne⟩
   ·refine dW (fun z=>hc (V.int.inj z)) (q H jU.refl ?_)
    unfold cB
    rw [if_neg (fun z=>hc z.2)];exact h
def qH (C:Addr):Sp:=fun vs H Q _=>∃ (B:Hp) (x tA pA l:Addr) (L:Lk) (n:Int) (xs:List Int),vs=[.ref x,.int n,.ref l]∧bO C B H x tA pA L∧L.ev.length < 1000000∧B l=some (.lst (xs.map V.int))∧∀ B' H',jU B H B' H' x tA pA tA pA→bO C B' H' x tA pA (dO L n xs)→Q .bN H'
theorem x8:aQ ["self","number","piece"] ["self","number","piece"] (aH d9):=⟨rfl,rfl,rfl,by decide +kernel,rfl,by decide +kernel,by decide +kernel⟩
theorem x9 {fd:FuncData} (T:Txt K mg t) (F:kL K "take_piece" "LinkEnd.take_piece" d9 t.f7 fd) :
  bZ P w K mg base (i9 P w) 1 t.f7 fd ["self","number","piece"] (qH t.LinkEnd)∧Binds K fd ["self","number","piece"] []:=by
 refine ⟨F.qQ x8 (fun vs H Q E h=>?_) (fun f bo A outer s H vs Q E hr h=>?_),F.binds fun _ _ _ _ _ _ us hl=>match us,hl with | [_,_,_],_=>rfl⟩
 ·obtain ⟨B,x,tA,pA,l,L,n,xs,rfl,_⟩:=h
  rfl
 ·obtain ⟨B,x,tA,pA,l,L,n,xs,rfl,h,hlen,hl,q⟩:=h
  refine ⟨_,aG (bD (PW.pt (su (rR (pv 2) (fun _=>rfl)) (pL (aW jK (pv 1) (ao K (pv 0) (by rfl)) (aj _)))))
    (aC (ax (jL K PySem.F.plainAttrs_list PySem.F.slot_list_append PySem.F.type_list_append cP (ao K (pv 0) (by rfl)) (aA (bB (aA cZ (aA (pv 2) aD))) aD)))
    (aG (cF K (pv 0) (aN aw (aN bA (ao K (pv 0) (by rfl)) aF) (aS T.cO)) (by rfl))))
    (af)),?_⟩
  have hsz:(1000001:Nat)≤sizeLine:=by decide
  obtain ⟨dx,pv,hx,hp⟩:=h.at_
  obtain ⟨iF,g,g'⟩:=h.told
  refine ⟨_,rfl,_,.inl ⟨_,aX.of (h.sb _ _ hl),rfl⟩,?_⟩
  cases xs with
  | nil =>
   refine dh (dh (q B H jU.refl ?_))
   unfold dO
   rw [if_neg (fun z=>z.1 rfl)];exact h
  | cons a r =>
   have K4:(!((a :: r).map V.int).isEmpty)=true:=rfl
   rw [K4]
   refine fc ?_
   refine ⟨_,rfl,_,rfl,x,t.LinkEnd,dx,_,_,rfl,hx,T.aJ,T.oA,AW,rfl,_,rfl,?_⟩
   by_cases hc:n=L.tk
   ·refine eN (by rw [hc]) ?_
    refine ⟨_,rfl,x,t.LinkEnd,dx,_,_,rfl,hx,T.aJ,T.mJ,wZ,.inl ⟨rfl,_,aX.of g⟩,?_⟩
    refine ⟨_,rfl,by show 2≤sizeLine;decide,fun ea Dz=>?_⟩
    refine ⟨tA,_,_,rfl,rfl,by rw [aE (aK g Dz)];exact g,by rw [aL];omega,?_⟩
    obtain ⟨h1,m1⟩:=h.tell g g' Dz (MT (h.sb.free Dz) hl)
    obtain ⟨wd,MX,xy,CA⟩:=h1.at_
    refine ⟨_,rfl,x,t.LinkEnd,wd,_,_,rfl,xy,T.aJ,T.oA,AW,_,_,rfl,rfl,_,_,rfl,rfl,(by show (0:Int) < 97;decide),?_⟩
    refine ⟨_,rfl,x,t.LinkEnd,wd,_,rfl,xy,T.aJ,T.oA,by show 11 < 1000;decide,?_⟩
    rw [CK]
    obtain ⟨h2,m2⟩:=h1.set (dx:=wd) (pv:=MX) (L':={ L with ev:=L.ev ++ [.took (a :: r)],tk:=(L.tk+1) % 97 }) CA rfl rfl
    refine q _ _ (m1.trans m2) ?_
    unfold dO
    rw [if_pos ⟨(fun z=>by cases z),hc⟩]
    exact h2
   ·refine dW (fun z=>hc (V.int.inj z)) (q B H jU.refl ?_)
    unfold dO
    rw [if_neg (fun z=>hc z.2)];exact h
def N7 (C:Addr):Sp:=fun vs H Q _=>∃ (B:Hp) (x tA pA:Addr) (L:Lk),vs=[.ref x]∧bO C B H x tA pA L∧∀ pv,fV B pv L.p→Q pv H
theorem TU:aQ ["self"] ["self"] (aH HC):=⟨rfl,rfl,rfl,by decide +kernel,rfl,by decide +kernel,by decide +kernel⟩
theorem TV {fd:FuncData} (T:Txt K mg t) (F:kL K "up" "LinkEnd.up" HC t.Jq fd) :
  bZ P w K mg base (i9 P w) 1 t.Jq fd ["self"] (N7 t.LinkEnd)∧Binds K fd ["self"] []:=by
 refine ⟨F.qQ TU (fun vs H Q E h=>?_) (fun f bo A outer s H vs Q E hr h=>?_),F.binds fun _ _ _ _ _ _ us hl=>match us,hl with | [_],_=>rfl⟩
 ·obtain ⟨B,x,tA,pA,L,rfl,_⟩:=h
  rfl
 ·obtain ⟨B,x,tA,pA,L,rfl,h,q⟩:=h
  refine ⟨_,aG (aV (ao K (pv 0) (by rfl))),?_⟩
  obtain ⟨dx,pv,hx,hp⟩:=h.at_
  exact ⟨_,rfl,x,t.LinkEnd,dx,_,_,rfl,hx,T.aJ,T.gB,oK,q pv hp⟩
def wj (C:Addr):Sp:=fun vs H Q _=>∃ (B:Hp) (x tA pA:Addr) (L:Lk),vs=[.ref x]∧bO C B H x tA pA L∧Q (.int (L.bS.length:Nat)) H
theorem J2:aQ ["self"] ["self"] (aH pW):=⟨rfl,rfl,rfl,by decide +kernel,rfl,by decide +kernel,by decide +kernel⟩
theorem J3 {fd:FuncData} (T:Txt K mg t) (F:kL K "waits" "LinkEnd.waits" pW t.pX fd) :
  bZ P w K mg base (i9 P w) 1 t.pX fd ["self"] (wj t.LinkEnd)∧Binds K fd ["self"] []:=by
 refine ⟨F.qQ J2 (fun vs H Q E h=>?_) (fun f bo A outer s H vs Q E hr h=>?_),F.binds fun _ _ _ _ _ _ us hl=>match us,hl with | [_],_=>rfl⟩
 ·obtain ⟨B,x,tA,pA,L,rfl,_⟩:=h
  rfl
 ·obtain ⟨B,x,tA,pA,L,rfl,h,q⟩:=h
  refine ⟨_,aG (aV (bP (bQ K) (by rfl) T.iD boot_len (aA (ao K (pv 0) (by rfl)) aD))),?_⟩
  obtain ⟨dx,pv,hx,hp⟩:=h.at_
  obtain ⟨dq,g3,vW⟩:=h.bS
  refine ⟨_,rfl,x,t.LinkEnd,dx,_,_,rfl,hx,T.aJ,T.gW,lV,pA,_,rfl,.inl (aX.of g3),?_⟩
  rw [aL]
  exact q
def zU (C:Addr):Sp:=fun vs H Q _=>∃ (B:Hp) (x tA pA:Addr) (L:Lk),vs=[.ref x]∧bO C B H x tA pA L∧∀ H' tB,jU B H B H' x tA pA tB pA→tB≠tA→bO C B H' x tB pA { L with ev:=[] }→Jz B H' tA L.ev→Q (.ref tA) H'
theorem zV:aQ ["self","told"] ["self"] (aH lM):=⟨rfl,rfl,rfl,by decide +kernel,rfl,by decide +kernel,by decide +kernel⟩
theorem HR {fd:FuncData} (T:Txt K mg t) (F:kL K "events" "LinkEnd.events" lM t.n8 fd) :
  bZ P w K mg base (i9 P w) 1 t.n8 fd ["self"] (zU t.LinkEnd)∧Binds K fd ["self"] []:=by
 refine ⟨F.qQ zV (fun vs H Q E h=>?_) (fun f bo A outer s H vs Q E hr h=>?_),F.binds fun _ _ _ _ _ _ us hl=>match us,hl with | [_],_=>rfl⟩
 ·obtain ⟨B,x,tA,pA,L,rfl,_⟩:=h
  rfl
 ·obtain ⟨B,x,tA,pA,L,rfl,h,q⟩:=h
  refine ⟨_,aC (aT (i:=1) zV.nd rfl (Or.inl rfl) (ao K (pv 0) (by rfl)))
   (aC (cF K (pv 0) (bF aD) (by rfl))
   (aG (aV (pv 1)))),?_⟩
  obtain ⟨dx,pv,hx,hp⟩:=h.at_
  obtain ⟨dq,g3,vW⟩:=h.bS
  obtain ⟨iF,g2,CM⟩:=h.told
  refine ⟨_,rfl,x,t.LinkEnd,dx,_,_,rfl,hx,T.aJ,T.mJ,wZ,?_⟩
  refine ⟨by show 0≤sizeLine;decide,fun tB Q9=>?_⟩
  have s1:aI H (upd H tB (.lst [])):=(aI.refl _).new Q9
  have h1:=h.same s1
  have Py:x≠tB:=fun z=>h.hx (by rw [z];exact Q9)
  have Wu:pA≠tB:=fun z=>h.hp (by rw [z];exact Q9)
  have ntt:tA≠tB:=fun z=>h.ht (by rw [z];exact Q9)
  refine ⟨_,rfl,x,t.LinkEnd,dx,_,rfl,s1 _ _ hx,T.aJ,T.mJ,by show 11 < 1000;decide,?_⟩
  rw [MS]
  exact ⟨_,rfl,q _ tB ⟨aI.refl _,fun _ _ z=>z,fun y o n1 n2 n3 e=>by rw [aE n1];exact s1 _ _ e,fun b hb=>s1.free (ed hb h1.hx),.inr Q9,.inl rfl⟩ (Ne.symm ntt) ⟨h1.sb.put h.bx,h.bx,h.sb.free Q9,h.bp,⟨dx,pv,aB,hp⟩,⟨fun _=>0,by rw [aE (Ne.symm Py)];exact aB,fun y e he=>by cases he⟩,⟨dq,by rw [aE (Ne.symm h.xp)];exact s1 _ _ g3,vW⟩,Ne.symm Wu⟩ ⟨iF,by rw [aE (Ne.symm h.xt)];exact s1 _ _ g2,CM⟩⟩
end
end K31
namespace K31
open PySem L2 PyProof.Rows
section
variable {P:Program} {w:World} {K:PySem.W.Frag} {mg:Str→Option Value} {base:Heap} {t:Ad}
def A2 (b:Int):Prop:=0≤b∧b < 9409
def IV (n:Int):Prop:=0≤n∧n < 97
structure jV (a:Cl):Prop where
 b:A2 a.b
 k:A2 a.k
 n:IV a.n
 c:IV a.c
 l:a.xs.length≤10
 x:∀ v ∈ a.xs,IV v
def yA (a:Cl):List Int:=[a.b / 97,a.b % 97,a.k / 97,a.k % 97,a.n,a.c,(a.xs.length:Int)] ++ a.xs
def ux (a:Cl) (i:Nat):Int:=(yA a).getD i 0
theorem MY {a:Cl} (h:jV a):∀ v ∈ yA a,IV v:=by
 intro v hv
 obtain ⟨b0,b1⟩:=h.b
 obtain ⟨k0,k1⟩:=h.k
 have hl:=h.l
 unfold yA at hv
 rcases List.mem_append.mp hv with z | z
 ·simp only [List.mem_cons,List.not_mem_nil,or_false] at z
  rcases z with rfl | rfl | rfl | rfl | rfl | rfl | rfl
  ·exact ⟨by omega,by omega⟩
  ·exact ⟨by omega,by omega⟩
  ·exact ⟨by omega,by omega⟩
  ·exact ⟨by omega,by omega⟩
  ·exact h.n
  ·exact h.c
  ·exact ⟨by omega,by omega⟩
 ·exact h.x v z
theorem CP {a:Cl} (h:jV a):IsCell 18 (ux a):=by
 refine ⟨fun i _=>?_⟩
 unfold ux
 rw [List.getD_eq_getElem?_getD]
 cases e:(yA a)[i]? with
 | none=>exact ⟨by decide,by decide⟩
 | some v=>exact MY h v (List.mem_of_getElem? e)
theorem MZ (a:Cl) (i:Nat):ux a (7+i)=a.xs.getD i 0:=by
 unfold ux yA
 rw [Nat.add_comm]
 rfl
abbrev ay (a:Cl):Nat→Int:=My.lI (ux a)
theorem HS {a:Cl} {i:Nat} (h:i < 18):ay a i=ux a i:=by unfold ay My.lI;rw [if_pos h]
theorem CQ {a:Cl} (h:jV a):IsCell 24 (ay a):=⟨fun i _=>My.L0 (CP h).b i⟩
theorem Ma (a:Cl):ay a 0 * 97+ay a 1=a.b:=by
 show a.b / 97 * 97+a.b % 97=a.b
 omega
theorem Mb (a:Cl):ay a 2 * 97+ay a 3=a.k:=by
 show a.k / 97 * 97+a.k % 97=a.k
 omega
theorem HU {a:Cl} (h:jV a):fb (tabI 24 (ay a)) (some 7) (some (7+ay a 6))=a.xs.map V.int:=by
 have hl:=h.l
 have e6:ay a 6=(a.xs.length:Int):=rfl
 have:=vR (f:=fun j=>V.int (ay a j)) (n:=24) (lo:=7) (hi:=7+a.xs.length) (by omega) (by omega)
 rw [e6]
 rw [show ((7+a.xs.length:Nat):Int)=7+(a.xs.length:Int) by omega] at this
 refine this.trans ?_
 rw [JP,show 7+a.xs.length - 7=a.xs.length by omega]
 refine bW fun i hi=>?_
 rw [HS (by omega),MZ]
theorem J4 (ns:List Int) (h:ns.length≤18):ns.map V.int ++ (List.replicate (18 - ns.length) [V.int 0]).flatten=tabI 18 (fun i=>ns.getD i 0):=by
 rw [List.flatten_replicate_singleton]
 apply List.ext_getElem?
 intro j
 by_cases hj:j < 18
 ·rw [b9 (f:=fun i=>V.int (ns.getD i 0)) hj,List.getD_eq_getElem?_getD]
  by_cases hn:j < ns.length
  ·rw [List.getElem?_append_left (by rw [List.length_map];exact hn),List.getElem?_map]
   cases e:ns[j]? with
   | none=>rw [List.getElem?_eq_none_iff] at e;omega
   | some v=>rfl
  ·rw [List.getElem?_append_right (by rw [List.length_map];omega),List.length_map,List.getElem?_replicate,if_pos (by omega),List.getElem?_eq_none (by omega)]
   rfl
 ·rw [List.getElem?_eq_none (by rw [List.length_append,List.length_map,List.length_replicate];omega),List.getElem?_eq_none (by rw [aL];omega)]
theorem Fx {n:Int}:(My.low (2:Int).toNat n).reverse=[n / 97 % 97,n % 97]:=rfl
theorem CS {n:Int} (h:A2 n):My.rest (2:Int).toNat n=0:=by
 show n / 97 / 97=0
 obtain ⟨h0,h1⟩:=h
 omega
theorem CT (a b:Int):My.told [a,b]=a * 97+b:=by
 show (0 * 97+a) * 97+b=_
 omega
theorem tf {n:Int} (h:A2 n):n.natAbs < 2 ^ 1000:=by
 have:n.natAbs < 9409:=by obtain ⟨h0,h1⟩:=h;omega
 exact Nat.lt_of_lt_of_le this (by decide)
theorem wk {n:Int} (h:0≤n∧n < 97):n.natAbs < 2 ^ 1000:=tf ⟨h.1,by omega⟩
theorem CU (L:Lk) (n:Int):(bK L n).ev.length≤L.ev.length+1:=by
 unfold bK
 cases L.p with
 | none=>exact Nat.le_succ _
 | some p =>
  simp only
  split
  ·show (L.ev ++ [_]).length≤_
   rw [List.length_append];exact Nat.le_refl _
  ·exact Nat.le_succ _
theorem CV (L:Lk):(bY L).ev.length≤L.ev.length+1:=by
 unfold bY
 cases L.p with
 | none=>show (L.ev ++ [_]).length≤_;rw [List.length_append];exact Nat.le_refl _
 | some p=>exact Nat.le_succ _
theorem Fy (L:Lk) (c:Int):(cB L c).ev=L.ev:=by unfold cB;split <;> rfl
def Fz (C:Addr):Sp:=fun vs H Q _=>∃ (B:Hp) (x tA pA l:Addr) (L:Lk) (a:Cl),vs=[.ref x,.ref l]∧bO C B H x tA pA L∧L.ev.length < 900000∧H l=some (.lst (tabI 24 (ay a)))∧jV a∧l≠tA∧l≠pA ∧
 ∀ B' H' pB,jU B H B' H' x tA pA tA pB→bO C B' H' x tA pB (ck L a)→Q .bN H'
theorem F3:aQ ["self","cell","birth"] ["self","cell"] (aH tQ):=⟨rfl,rfl,rfl,by decide +kernel,rfl,by decide +kernel,by decide +kernel⟩
theorem Mc {fd CN TX TY Y6:FuncData} (T:Txt K mg t) (F:kL K "read" "LinkEnd.read" tQ t.wH fd) (gD:Def P w K mg base 3 "signs_number" ["signs"] (nN K t.BadSign))
  (D9:bZ P w K mg base (i9 P w) 3 t.wI CN ["self","birth"] (Fv t.LinkEnd)) (EA:Binds K CN ["self","birth"] []) (tj:bZ P w K mg base (i9 P w) 1 t.lN TX ["self"] (wg t.LinkEnd)) (tm:Binds K TX ["self"] [])
  (mQ:bZ P w K mg base (i9 P w) 1 t.f6 TY ["self","count"] (qF t.LinkEnd)) (mR:Binds K TY ["self","count"] []) (mS:bZ P w K mg base (i9 P w) 1 t.f7 Y6 ["self","number","piece"] (qH t.LinkEnd)) (mT:Binds K Y6 ["self","number","piece"] []) :
  bZ P w K mg base (i9 P w) 4 t.wH fd ["self","cell"] (Fz t.LinkEnd)∧Binds K fd ["self","cell"] []:=by
 refine ⟨F.qQ F3 (fun vs H Q E h=>?_) (fun f bo A outer s H vs Q E hr h=>?_),F.binds fun _ _ _ _ _ _ us hl=>match us,hl with | [_,_],_=>rfl⟩
 ·obtain ⟨B,x,tA,pA,l,L,a,rfl,_⟩:=h
  rfl
 ·obtain ⟨B,x,tA,pA,l,L,a,rfl,h,hlen,hl,ga,n1,n2,q⟩:=h
  refine ⟨_,aC (aT (i:=2) F3.nd rfl (Or.inl rfl) (aZ (gD.mono (by decide)) hr ar (aA (iA (iB K) (pv 1) rT (fZ (aS T.zK))) aD)))
   (aC (bD (aW jy (pv 2) (ao K (pv 0) (by rfl)) (aj _))
    (aG (LL))
    (af))
   (aC (ax (pO (pv 0) T.aJ T.MG (D9.mono (by decide)) hr EA .nil ar (aA (pv 2) aD)))
   (aG (bD (aW jK (aZ (gD.mono (by decide)) hr ar (aA (iA (iB K) (pv 1) (fZ (aS T.zK)) (fZ (aS T.wL))) aD)) (ao K (pv 0) (by rfl)) (aj _))
    (aC (ax (dg (pv 0) T.aJ T.De (tj.mono (by decide)) hr tm .nil ar))
    (aC (ax (pO (pv 0) T.aJ T.xv (mQ.mono (by decide)) hr mR .nil ar (aA (aR (aM K) (pv 1) (aS T.HD) (fun _ _=>rfl)) aD)))
    (aG (ax (pO (pv 0) T.aJ T.xw (mS.mono (by decide)) hr mT .nil ar (aA (aR (aM K) (pv 1) (aS T.wL) (fun _ _=>rfl)) (aA (iA (iB K) (pv 1) (fZ (aS T.zL)) (fZ (aN bA (aS T.zL) (aR (aM K) (pv 1) (aS T.Dd) (fun _ _=>rfl))))) aD)))))))
    (af))))),?_⟩
  have sg:∀ i,i < 24→0≤ay a i∧ay a i < 97:=(CQ ga).b
  have two:∀ {a b:Int},(0≤a∧a < 97)→(0≤b∧b < 97)→∀ n ∈ [a,b],0≤n∧n < 97:=fun {a b} ha hb n hn=>by
   rcases List.mem_cons.mp hn with rfl | hn
   ·exact ha
   ·rw [List.mem_singleton.mp hn];exact hb
  have Wv:l≠x:=fun z=>by obtain ⟨_,_,gx,_⟩:=h.at_;rw [z,gx] at hl;cases hl
  refine ⟨_,rfl,_,rfl,l,_,rfl,aX.of hl,fun p1 CA=>?_⟩
  have ec:fb (tabI 24 (ay a)) none (some 2)=[ay a 0,ay a 1].map V.int:=qP (f:=fun j=>V.int (ay a j)) (n:=24) (hi:=2) (by decide)
  rw [ec]
  have s1:aI H (upd H p1 (.lst ([ay a 0,ay a 1].map V.int))):=(aI.refl _).new CA
  have Q8:=two (sg 0 (by decide)) (sg 1 (by decide))
  refine ⟨p1,[ay a 0,ay a 1],rfl,aX.of aB,fun n hn=>wk (Q8 n hn),fun _=>?_,fun n hn z=>absurd (Q8 n hn) z⟩
  generalize upd H p1 (.lst ([ay a 0,ay a 1].map V.int))=H1 at *
  rw [CT,Ma]
  have h1:=h.same s1
  have m1:jU B H B H1 x tA pA tA pA:=jU.of_same s1
  obtain ⟨dx,pv,hx,hp⟩:=h1.at_
  refine ⟨_,rfl,_,rfl,x,t.LinkEnd,dx,_,_,rfl,hx,T.aJ,T.f9,pe,_,_,rfl,rfl,_,rfl,?_⟩
  unfold ck at q
  by_cases hk:a.b < L.k
  ·rw [if_pos hk] at q
   exact eN hk (q B H1 pA m1 h1)
  ·rw [if_neg hk] at q
   refine dW hk ?_
   refine ⟨_,rfl,x,dx,_,rfl,hx,rfl,_,rfl,B,x,tA,pA,L,_,rfl,h1,by omega,fun B2 H2 pB m2 h2=>?_⟩
   have TR:=m1.trans m2
   have TZ:H2 l=some (.lst (tabI 24 (ay a))):=TR.k l _ Wv n1 n2 hl
   have Y7:l≠pB:=by
    rcases TR.p with z | z
    ·rw [z];exact n2
    ·exact aK hl z
   have Ym:=CU L a.b
   generalize bK L a.b=L2 at *
   refine ⟨_,rfl,_,rfl,_,rfl,l,_,rfl,aX.of TZ,fun p3 HG=>?_⟩
   have ec2:fb (tabI 24 (ay a)) (some 2) (some 4)=[ay a 2,ay a 3].map V.int:=vR (f:=fun j=>V.int (ay a j)) (n:=24) (lo:=2) (hi:=4) (by decide) (by decide)
   rw [ec2]
   have s3:aI H2 (upd H2 p3 (.lst ([ay a 2,ay a 3].map V.int))):=(aI.refl _).new HG
   have TL:=two (sg 2 (by decide)) (sg 3 (by decide))
   refine ⟨p3,[ay a 2,ay a 3],rfl,aX.of aB,fun n hn=>wk (TL n hn),fun _=>?_,fun n hn z=>absurd (TL n hn) z⟩
   generalize upd H2 p3 (.lst ([ay a 2,ay a 3].map V.int))=H3 at *
   rw [CT,Mb]
   have h3:=h2.same s3
   have VB:=TR.same s3
   have Y8:=s3 _ _ TZ
   obtain ⟨Md,RA,Pz,aBo⟩:=h3.at_
   refine ⟨_,rfl,x,t.LinkEnd,Md,_,_,rfl,Pz,T.aJ,T.lP,sJ,rfl,_,rfl,?_⟩
   by_cases ho:a.k=L2.b
   ·rw [if_pos ho] at q
    refine eN (by rw [ho]) ?_
    refine ⟨_,rfl,x,Md,_,rfl,Pz,rfl,B2,x,tA,pB,L2,rfl,h3,by omega,fun B4 H4 m4 h4=>?_⟩
    have Y9:H4 l=some (.lst (tabI 24 (ay a))):=m4.k l _ Wv n1 Y7 Y8
    obtain ⟨RB,pv4,RC,_⟩:=h4.at_
    have Ta:=VB.trans m4
    refine ⟨_,rfl,x,RB,_,rfl,RC,rfl,_,rfl,l,_,_,_,rfl,rfl,aX.of Y9,rfl,B4,x,tA,pB,_,a.c,rfl,h4,fun H5 m5 h5=>?_⟩
    have Ww:H5 l=some (.lst (tabI 24 (ay a))):=m5.k l _ Wv n1 Y7 Y9
    obtain ⟨K8,RD,RE,_⟩:=h5.at_
    have m05:=Ta.trans m5
    refine ⟨_,rfl,x,K8,_,rfl,RE,rfl,_,rfl,l,_,_,_,rfl,rfl,aX.of Ww,rfl,?_⟩
    refine ⟨_,rfl,_,rfl,_,rfl,l,_,_,_,rfl,rfl,aX.of Ww,rfl,_,_,rfl,rfl,_,rfl,l,_,rfl,aX.of Ww,fun p6 Q7=>?_⟩
    have ec3:fb (tabI 24 (ay a)) (some 7) (some (7+ay a 6))=a.xs.map V.int:=HU ga
    have s6:aI H5 (upd H5 p6 (.lst (fb (tabI 24 (ay a)) (some 7) (some (7+ay a 6))))):=(aI.refl _).new Q7
    obtain ⟨h6,m6⟩:=h5.grow (o:=.lst (fb (tabI 24 (ay a)) (some 7) (some (7+ay a 6)))) s6 Q7 aB
    have K5:=CV L2
    refine ⟨_,x,tA,pB,p6,_,a.n,a.xs,rfl,h6,by rw [Fy];omega,by rw [aB,ec3],fun B7 H7 m7 h7=>?_⟩
    exact q B7 H7 pB ((m05.trans m6).trans m7) h7
   ·rw [if_neg ho] at q
    refine dW (fun z=>ho (V.int.inj z)) ?_
    exact q B2 H3 pB VB h3
def J5 (L:Lk):Prop:=jV (eg L)
def kR (C:Addr):Sp:=fun vs H Q _=>∃ (B:Hp) (x tA pA:Addr) (L:Lk),vs=[.ref x]∧bO C B H x tA pA L∧J5 L∧∀ p H',H p=none→aI H H'→H' p=some (.lst (tabI 24 (ay (eg L))))→Q (.ref p) H'
theorem h9:aQ ["self","piece","births","signs"] ["self"] (aH dv):=⟨rfl,rfl,rfl,by decide +kernel,rfl,by decide +kernel,by decide +kernel⟩
set_option maxHeartbeats 1000000 in
theorem yB {fd:FuncData} (T:Txt K mg t) (F:kL K "cell_given" "LinkEnd.cell_given" dv t.fw fd) (gE:Def P w K mg base 1 "number_signs" ["number","many"] (nM t.BadSign)) (wm:Def P w K mg base 3 "sealed" ["signs"] (zP K)) :
  bZ P w K mg base (i9 P w) 4 t.fw fd ["self"] (kR t.LinkEnd)∧Binds K fd ["self"] []:=by
 refine ⟨F.qQ h9 (fun vs H Q E h=>?_) (fun f bo A outer s H vs Q E hr h=>?_),F.binds fun _ _ _ _ _ _ us hl=>match us,hl with | [_],_=>rfl⟩
 ·obtain ⟨B,x,tA,pA,L,rfl,_⟩:=h
  rfl
 ·obtain ⟨B,x,tA,pA,L,rfl,h,gl,q⟩:=h
  refine ⟨_,aC (tK (aT (i:=1) h9.nd rfl (Or.inl rfl) (nX (rR (ao K (pv 0) (by rfl)) (fun _=>rfl)) (aR (aM K) (ao K (pv 0) (by rfl)) aF (fun _ _=>rfl)) (bF aD))))
   (aC (aT (i:=2) h9.nd rfl (Or.inl rfl) (aN (mD K) (aZ (gE.mono (by decide)) hr ar (aA (ao K (pv 0) (by rfl)) (aA (aS T.r9) aD))) (aZ (gE.mono (by decide)) hr ar (aA (ao K (pv 0) (by rfl)) (aA (aS T.r9) aD)))))
   (aC (aT (i:=3) h9.nd rfl (Or.inl rfl) (aN (mD K) (aN (mD K) (pv 2) (bF (aA (ao K (pv 0) (by rfl)) (aA (ao K (pv 0) (by rfl)) (aA (bP (bQ K) (by rfl) T.iD boot_len (aA (pv 1) aD)) aD))))) (pv 1)))
   (aG (aV (aZ (wm.mono (by decide)) hr (lG bC) (aA (aN (mD K) (pv 3) (aN zx (bF (aA aF aD)) (aN jJ (aS T.sD) (bP (bQ K) (by rfl) T.iD boot_len (aA (pv 3) aD))))) aD)))))),?_⟩
  have hsz:(1000001:Nat)≤sizeLine:=by decide
  obtain ⟨dx,pv,hx,_⟩:=h.at_
  obtain ⟨dq,g3,vW⟩:=h.bS
  refine ⟨fun σ H0=>∃ p0,σ=[some (.ref x),some (.ref p0),none,none]∧aI H H0∧H0 p0=some (.lst ((L.bS.headD []).map V.int)),?_,?_⟩
  ·refine ⟨_,rfl,x,t.LinkEnd,dx,_,_,rfl,hx,T.aJ,T.gW,lV,_,.inl ⟨_,aX.of g3,rfl⟩,?_⟩
   cases ep:L.bS with
   | nil =>
    rw [ep] at g3
    refine dh ⟨by show 0≤sizeLine;decide,fun p0 P0=>⟨p0,rfl,(aI.refl _).new P0,aB⟩⟩
   | cons a r =>
    rw [ep] at g3 vW
    have K4:(!(bJ (a :: r).length dq).isEmpty)=true:=by
     have hl:(bJ (a :: r).length dq).length=r.length+1:=aL _ _
     cases e:bJ (a :: r).length dq with
     | nil=>rw [e] at hl;cases hl
     | cons u v=>rfl
    rw [K4]
    refine fc ⟨_,rfl,x,t.LinkEnd,dx,_,_,rfl,hx,T.aJ,T.gW,lV,pA,_,_,_,rfl,rfl,aX.of g3,iy (b9 (f:=fun j=>V.ref (dq j)) (Nat.succ_pos _)),?_⟩
    exact ⟨dq 0,rfl,aI.refl _,h.sb _ _ (vW 0 a rfl)⟩
  rintro σ H0 ⟨p0,rfl,s0,e0⟩
  have gb:=gl.b
  have gk:=gl.k
  have aBs:(L.bS.headD []).length≤10:=gl.l
  have hb:A2 L.b:=gb
  have hk:A2 L.k:=gk
  have Qz:yA (eg L)=[L.b / 97,L.b % 97,L.k / 97,L.k % 97,L.of,L.tk,((L.bS.headD []).length:Int)] ++ L.bS.headD []:=rfl
  have hcp:∀ i,ux (eg L) i=(yA (eg L)).getD i 0:=fun i=>rfl
  generalize L.bS.headD []=xs at *
  refine ⟨_,rfl,x,t.LinkEnd,dx,_,_,rfl,s0 _ _ hx,T.aJ,T.lP,sJ,L.b,2,rfl,tf hb,by decide,by decide,fun _ _ p1 H1 CA s1 e1=>?_,fun z=>absurd z (by rw [CS hb];have:=hb.1;omega)⟩
  rw [Fx] at e1
  have Me:=s0.trans s1
  refine ⟨_,rfl,x,t.LinkEnd,dx,_,_,rfl,Me _ _ hx,T.aJ,T.f9,pe,L.k,2,rfl,tf hk,by decide,by decide,fun _ _ p2 H2 vy s2 e2=>?_,fun z=>absurd z (by rw [CS hk];have:=hk.1;omega)⟩
  rw [Fx] at e2
  have VC:=Me.trans s2
  refine ⟨p1,p2,_,_,rfl,rfl,aX.of (s2 _ _ e1),aX.of e2,by show 4≤sizeLine;decide,fun p3 HG=>?_⟩
  have t3:=(aI.refl H2).new (o:=.lst ([L.b / 97 % 97,L.b % 97].map V.int ++ [L.k / 97 % 97,L.k % 97].map V.int)) HG
  have e3:(upd H2 p3 (.lst ([L.b / 97 % 97,L.b % 97].map V.int ++ [L.k / 97 % 97,L.k % 97].map V.int))) p3=some (.lst ([L.b / 97 % 97,L.b % 97,L.k / 97 % 97,L.k % 97].map V.int)):=aB
  have s3:=VC.trans t3
  have ZA:=((s1.trans s2).trans t3) _ _ e0
  generalize upd H2 p3 (.lst ([L.b / 97 % 97,L.b % 97].map V.int ++ [L.k / 97 % 97,L.k % 97].map V.int))=H3 at *
  refine ⟨_,rfl,_,rfl,x,t.LinkEnd,dx,_,_,rfl,s3 _ _ hx,T.aJ,T.mK,zS,_,rfl,x,t.LinkEnd,dx,_,_,rfl,s3 _ _ hx,T.aJ,T.oA,AW,_,rfl,p0,_,rfl,.inl (aX.of ZA),by show 3≤sizeLine;decide,fun p4 U9=>?_⟩
  rw [List.length_map]
  have t4:=(aI.refl H3).new (o:=.lst [V.int L.of,V.int L.tk,V.int (xs.length:Nat)]) U9
  refine ⟨p3,p4,_,_,rfl,rfl,aX.of (t4 _ _ e3),aX.of aB,by show 7≤sizeLine;decide,fun p5 U7=>?_⟩
  have t5:=t4.new (o:=.lst ([L.b / 97 % 97,L.b % 97,L.k / 97 % 97,L.k % 97].map V.int ++ [V.int L.of,V.int L.tk,V.int (xs.length:Nat)])) U7
  refine ⟨_,rfl,p5,p0,_,_,rfl,rfl,aX.of aB,aX.of (t5 _ _ ZA),by rw [List.length_map];show 7+xs.length≤sizeLine;omega,fun p6 Q7=>?_⟩
  have t6:=t5.new (o:=.lst (([L.b / 97 % 97,L.b % 97,L.k / 97 % 97,L.k % 97].map V.int ++ [V.int L.of,V.int L.tk,V.int (xs.length:Nat)]) ++ xs.map V.int)) Q7
  have s6:=s3.trans t6
  have eb:L.b / 97 % 97=L.b / 97:=by obtain ⟨h0,h1⟩:=hb;omega
  have ek:L.k / 97 % 97=L.k / 97:=by obtain ⟨h0,h1⟩:=hk;omega
  have e6:(upd (upd (upd H3 p4 (.lst [V.int L.of,V.int L.tk,V.int (xs.length:Nat)])) p5 (.lst ([L.b / 97 % 97,L.b % 97,L.k / 97 % 97,L.k % 97].map V.int ++ [V.int L.of,V.int L.tk,V.int (xs.length:Nat)]))) p6 (.lst (([L.b / 97 % 97,L.b % 97,L.k / 97 % 97,L.k % 97].map V.int ++ [V.int L.of,V.int L.tk,V.int (xs.length:Nat)]) ++ xs.map V.int))) p6=some (.lst ((yA (eg L)).map V.int)):=by
   rw [aB,Qz,eb,ek,List.map_append]
   rfl
  generalize (upd (upd (upd H3 p4 (.lst [V.int L.of,V.int L.tk,V.int (xs.length:Nat)])) p5 (.lst ([L.b / 97 % 97,L.b % 97,L.k / 97 % 97,L.k % 97].map V.int ++ [V.int L.of,V.int L.tk,V.int (xs.length:Nat)]))) p6 (.lst (([L.b / 97 % 97,L.b % 97,L.k / 97 % 97,L.k % 97].map V.int ++ [V.int L.of,V.int L.tk,V.int (xs.length:Nat)]) ++ xs.map V.int)))=H6 at *
  have sl7:(yA (eg L)).length=7+xs.length:=by rw [Qz,List.length_append];rfl
  generalize yA (eg L)=ss at *
  refine ⟨_,rfl,by show 1≤sizeLine;decide,fun p7 hp7=>?_⟩
  have s7:=(aI.refl H6).new (o:=.lst [V.int 0]) hp7
  refine ⟨_,rfl,p6,_,rfl,.inl (aX.of (s7 _ _ e6)),_,_,rfl,rfl,?_⟩
  rw [List.length_map]
  refine ⟨p7,_,_,rfl,rfl,aB,by omega,by omega,by show 1 * _≤sizeLine;omega,fun p8 hp8=>?_⟩
  have en:((18:Int) - (ss.length:Nat)).toNat=18 - ss.length:=by omega
  rw [en]
  have s8:=s7.new (o:=.lst ((List.replicate (18 - ss.length) [V.int 0]).flatten)) hp8
  refine ⟨p6,p8,_,_,rfl,rfl,aX.of (s8 _ _ e6),aX.of aB,by rw [List.flatten_replicate_singleton,List.length_map,List.length_replicate];omega,fun p9 hp9=>?_⟩
  rw [J4 ss (by omega)] at *
  have s9:=s8.new (o:=.lst (tabI 18 fun i=>ss.getD i 0)) hp9
  refine ⟨p9,ux (eg L),rfl,aX.of ?_,CP gl,fun p H' hp s' e'=>?_⟩
  ·rw [aB]
   exact congrArg (fun z=>some (HO.lst z)) (bW fun i _=>by rw [hcp i])
  ·have sA:=(s6.trans s9).trans s'
   exact q p H' ((s6.trans s9).free hp) sA e'
end
end K31
namespace K31
open PySem L2 PyProof.Rows
section
variable {P:Program} {w:World} {K:PySem.W.Frag} {mg:Str→Option Value} {base:Heap} {t:Ad}
theorem HV {f g h:Nat→Int} (a:My.qS f g) (b:My.qS f h):tabI 24 g=tabI 24 h:=by
 refine bW fun i hi=>?_
 rw [My.N1 a.b b.b a.sealed b.sealed ?_ i hi]
 have:=My.gU (My.fG 24 g h) (My.fG 24 f g ++ My.fG 24 f h) (My.gT _ _ _) fun i hi=>by
  obtain ⟨h1,h2⟩:=My.cE.mp hi
  by_cases e:f i=g i
  ·exact List.mem_append_right _ (My.cE.mpr ⟨h1,fun z=>h2 (by rw [← e,z])⟩)
  ·exact List.mem_append_left _ (My.cE.mpr ⟨h1,e⟩)
 have a2:=a.xo
 have b2:=b.xo
 rw [List.length_append] at this
 omega
def J6 (f:Nat→Int):Option Cl→Prop
 | none=>∀ g,¬ My.qS f g
 | some a=>jV a∧My.qS f (ay a)
abbrev Cm:=(Nat→Int) × Option Cl
def ZC (H:Hp) (cl:Addr) (Mf:Nat→Addr) (fs:List Cm):Prop:=H cl=some (.lst (bJ fs.length Mf))∧∀ j c,fs[j]?=some c→H (Mf j)=some (.lst (tabI 24 c.1))∧IsCell 24 c.1∧J6 c.1 c.2
def J7 (H0 H:Hp) (D:Addr) (v:V):Option Cl→Prop
 | none=>v=.bN
 | some b=>∃ p,v=.ref p∧H0 p=none∧p≠D∧H p=some (.lst (tabI 24 (ay b)))
theorem J7.mono {H0 H H':Hp} {D:Addr} {v:V} {o:Option Cl} (h:J7 H0 H D v o) (k:∀ p u,p≠D→H p=some u→H' p=some u):J7 H0 H' D v o:=by
 cases o with
 | none=>exact h
 | some b=>obtain ⟨p,h1,h2,h3,h4⟩:=h;exact ⟨p,h1,h2,h3,k p _ h3 h4⟩
def ak (L:Lk) (bs:List Cl):Lk:=bs.foldl ck L
def iH (L:Lk) (bs:List Cl):Lk:={ L with u:=if bs=[] then L.u+1 else 0 }
def bH (L:Lk):Lk:=if L.k≠0∧L.q≤L.u then iG L else L
def dQ (L:Lk) (bs:List Cl):Lk:={ bH (iH (ak L bs) bs) with d:=(bH (iH (ak L bs) bs)).d+1 }
theorem EB (L:Lk) (bs:List Cl) (b:Cl):ak L (bs ++ [b])=ck (ak L bs) b:=by unfold ak;rw [List.foldl_append];rfl
structure uy (L:Lk):Prop where
 k:A2 L.k
 o:IV L.of
 t:IV L.tk
 p:∀ xs ∈ L.bS,xs.length≤10∧∀ v ∈ xs,IV v
theorem P1:A2 0:=⟨by decide,by decide⟩
theorem HW:IV 0:=⟨by decide,by decide⟩
theorem AX (n:Int):IV (n % 97):=⟨Int.emod_nonneg _ (by decide),Int.emod_lt_of_pos _ (by decide)⟩
theorem uy.give {L:Lk} (h:uy L) (hb:A2 L.b):J5 L:=by
 refine ⟨hb,h.k,h.o,h.t,?_,?_⟩
 ·show (L.bS.headD []).length≤10
  cases e:L.bS with
  | nil=>exact Nat.zero_le _
  | cons a r=>exact (h.p a (by rw [e];exact List.mem_cons_self)).1
 ·show ∀ v ∈ L.bS.headD [],IV v
  cases e:L.bS with
  | nil=>intro v hv;cases hv
  | cons a r=>exact (h.p a (by rw [e];exact List.mem_cons_self)).2
theorem F4 {L:Lk} {n:Int} (h:uy L) (hn:A2 n):uy (bK L n):=by
 unfold bK
 cases L.p with
 | none=>exact ⟨hn,h.o,h.t,h.p⟩
 | some p =>
  simp only
  split
  ·exact ⟨hn,HW,HW,fun xs hx=>by cases hx⟩
  ·exact ⟨hn,h.o,h.t,h.p⟩
theorem Mg {L:Lk} (h:uy L):uy (bY L):=by
 unfold bY
 cases L.p with
 | none=>exact ⟨h.k,h.o,h.t,h.p⟩
 | some p=>exact h
theorem Mh {L:Lk} {c:Int} (h:uy L):uy (cB L c):=by
 unfold cB
 split
 ·exact ⟨h.k,AX _,h.t,fun xs hx=>h.p xs (List.mem_of_mem_tail hx)⟩
 ·exact h
theorem Mi {L:Lk} {n:Int} {xs:List Int} (h:uy L):uy (dO L n xs):=by
 unfold dO
 split
 ·exact ⟨h.k,h.o,AX _,h.p⟩
 ·exact h
theorem Mj {L:Lk} {a:Cl} (h:uy L) (ha:A2 a.b):uy (ck L a):=by
 unfold ck
 split
 ·exact h
 ·split
  ·exact Mi (Mh (Mg (F4 h ha)))
  ·exact F4 h ha
theorem Ml {L:Lk} (h:uy L):uy (iG L):=by
 unfold iG
 cases L.p with
 | none=>exact ⟨P1,h.o,h.t,h.p⟩
 | some p=>exact ⟨P1,HW,HW,fun xs hx=>by cases hx⟩
theorem CW {L:Lk} (h:uy L):uy (bH L):=by
 unfold bH
 split
 ·exact Ml h
 ·exact h
theorem sM:∀ (bs:List Cl) (L:Lk),uy L→(∀ b ∈ bs,A2 b.b)→uy (ak L bs)
 | [],_,h,_=>h
 | b :: r,L,h,hb=>sM r (ck L b) (Mj h (hb b List.mem_cons_self)) fun x hx=>hb x (List.mem_cons_of_mem _ hx)
theorem AY (L:Lk) (n:Int):(bK L n).b=L.b∧(bK L n).k=n:=by
 unfold bK
 cases L.p with
 | none=>exact ⟨rfl,rfl⟩
 | some p=>simp only;split <;> exact ⟨rfl,rfl⟩
theorem J8 (L:Lk):(bY L).b=L.b∧(bY L).k=L.k:=by
 unfold bY
 cases L.p <;> exact ⟨rfl,rfl⟩
theorem P2 (L:Lk) (c:Int):(cB L c).b=L.b∧(cB L c).k=L.k:=by unfold cB;split <;> exact ⟨rfl,rfl⟩
theorem P4 (L:Lk) (n:Int) (xs:List Int):(dO L n xs).b=L.b∧(dO L n xs).k=L.k∧(dO L n xs).ev.length≤L.ev.length+1:=by
 unfold dO
 split
 ·exact ⟨rfl,rfl,by show (L.ev ++ [_]).length≤_;rw [List.length_append];exact Nat.le_refl _⟩
 ·exact ⟨rfl,rfl,Nat.le_succ _⟩
theorem P6 (L:Lk) (a:Cl):(ck L a).b=L.b∧((ck L a).k=L.k∨(ck L a).k=a.b)∧(ck L a).ev.length≤L.ev.length+3:=by
 have m1:=AY L a.b
 have m2:=CU L a.b
 have c1:=J8 (bK L a.b)
 have c2:=CV (bK L a.b)
 have h1:=P2 (bY (bK L a.b)) a.c
 have h2:=Fy (bY (bK L a.b)) a.c
 have t1:=P4 (cB (bY (bK L a.b)) a.c) a.n a.xs
 unfold ck
 split
 ·exact ⟨rfl,.inl rfl,by omega⟩
 ·split
  ·refine ⟨t1.1.trans (h1.1.trans (c1.1.trans m1.1)),.inr (t1.2.1.trans (h1.2.trans (c1.2.trans m1.2))),?_⟩
   have:=t1.2.2
   rw [h2] at this
   omega
  ·exact ⟨m1.1,.inr m1.2,by omega⟩
theorem AZ (L:Lk):∀ (bs:List Cl),(ak L bs).b=L.b∧(ak L bs).ev.length≤L.ev.length+3 * bs.length:=by
 intro bs
 induction bs generalizing L with
 | nil=>exact ⟨rfl,Nat.le_refl _⟩
 | cons b r ih =>
  have rb:=P6 L b
  obtain ⟨i1,i3⟩:=ih (ck L b)
  show (ak (ck L b) r).b=_∧(ak (ck L b) r).ev.length≤_
  exact ⟨i1.trans rb.1,by rw [List.length_cons];omega⟩
theorem P7 (L:Lk):(iG L).b=L.b+1∧(iG L).k=0:=by
 unfold iG
 cases L.p <;> exact ⟨rfl,rfl⟩
def cY (fs:List Cm):List Cl:=fs.filterMap (·.2)
theorem EC {fs:List Cm} {i:Nat} {c:Cm} (h:fs[i]?=some c):cY (fs.take (i+1))=cY (fs.take i) ++ (match c.2 with | none=>[] | some b=>[b]):=by
 unfold cY
 rw [List.take_succ,h,List.filterMap_append]
 congr 1
 cases e:c.2 <;> simp [e]
def F5 (C:Addr):Sp:=fun vs H Q _=>∃ (B:Hp) (x tA pA cl:Addr) (Mf:Nat→Addr) (L:Lk) (fs:List Cm),vs=[.ref x,.ref cl]∧bO C B H x tA pA L∧ZC H cl Mf fs∧fs.length≤1000∧L.ev.length≤1000∧0≤L.b∧L.b < 9000∧uy L ∧
 ∀ B' H' pB p,jU B H B' H' x tA pA tA pB→bO C B' H' x tA pB (dQ L (cY fs))→H p=none→B' p=none→p≠pB→H' p=some (.lst (tabI 24 (ay (eg (dQ L (cY fs))))))→Q (.ref p) H'
theorem vX:aQ ["self","cells","tried","readable","cell"] ["self","cells"] (aH n6):=⟨rfl,rfl,rfl,by decide +kernel,rfl,by decide +kernel,by decide +kernel⟩
theorem Mm {fd CN TX TY:FuncData} (T:Txt K mg t) (F:kL K "tick" "LinkEnd.tick" n6 t.wG fd) (wo:Def P w K mg base 8 "mended" ["cell"] (zQ K)) (ED:bZ P w K mg base (i9 P w) 4 t.wH CN ["self","cell"] (Fz t.LinkEnd)) (EE:Binds K CN ["self","cell"] [])
  (mU:bZ P w K mg base (i9 P w) 3 t.fz TX ["self"] (kQ t.LinkEnd)) (mV:Binds K TX ["self"] []) (mW:bZ P w K mg base (i9 P w) 4 t.fw TY ["self"] (kR t.LinkEnd)) (mX:Binds K TY ["self"] []) :
  bZ P w K mg base (i9 P w) 9 t.wG fd ["self","cells"] (F5 t.LinkEnd)∧Binds K fd ["self","cells"] []:=by
 refine ⟨F.qQ vX (fun vs H Q E h=>?_) (fun f bo A outer s H vs Q E hr h=>?_),F.binds fun _ _ _ _ _ _ us hl=>match us,hl with | [_,_],_=>rfl⟩
 ·obtain ⟨B,x,tA,pA,cl,Mf,L,fs,rfl,_⟩:=h
  rfl
 ·obtain ⟨B,x,tA,pA,cl,Mf,L,fs,rfl,h,⟨K5,ZD⟩,hfl,hel,b0,b1,hk,q⟩:=h
  refine ⟨_,aC (lF (i:=2) vX.nd rfl (Or.inl rfl) rfl (Nc:=["cell"]) (ix:=[none]) (dE (aH n6) ["self","cells","tried","readable","cell"] rfl rfl (by decide +kernel)) (cM K (pv 1)) (fun C fp s H=>⟨(az (i:=0) (show (["cell"]:List Str).Nodup by decide +kernel) rfl (Or.inl rfl)),cX,(aZ (wo.mono (by decide)) hr ar (aA (pv 0) aD))⟩))
   (aC (lF (i:=3) vX.nd rfl (Or.inl rfl) rfl (Nc:=["cell"]) (ix:=[none]) (dE (aH n6) ["self","cells","tried","readable","cell"] rfl rfl (by decide +kernel)) (cM K (pv 2)) (fun C fp s H=>⟨(az (i:=0) (show (["cell"]:List Str).Nodup by decide +kernel) rfl (Or.inl rfl)),(FR (aW pM (pv 0) cJ (aj _))),(pv 0)⟩))
   (aC (PS.uX (dC PassesOwn.never rfl (cM K (pv 3)) (az (i:=4) vX.nd rfl (Or.inl rfl))
    (aG (ax (pO (pv 0) T.aJ T.MF (ED.mono (by decide)) hr EE .nil ar (aA (pv 4) aD))))))
   (aC (cF K (pv 0) (nX (rR (pv 3) (fun _=>rfl)) aF (aN bA (ao K (pv 0) (by rfl)) aF)) (by rfl))
   (aC (tK (bD (PW.pt (su (aW BG (ao K (pv 0) (by rfl)) (aS T.pY) (aj _)) (pL (aW Ng (ao K (pv 0) (by rfl)) (ao K (pv 0) (by rfl)) (aj _)))))
    (aG (ax (dg (pv 0) T.aJ T.xu (mU.mono (by decide)) hr mV .nil ar)))
    (af)))
   (aC (yq (pv 0) aF Ih)
   (aG (aV (dg (pv 0) T.aJ T.xr (mW.mono (by decide)) hr mX .nil ar)))))))),?_⟩
  have hsz:(1000001:Nat)≤sizeLine:=by decide
  have nz:∀ {a b:Addr},H a≠none→H b=none→b≠a:=fun {a b} h1 h2 z=>h1 (z ▸ h2)
  refine ⟨_,rfl,cl,rfl,⟨_,aX.of K5⟩,fun D hD=>?_⟩
  refine rY (K:=K) (a:=cl) (xs:=bJ fs.length Mf) (fun i σ H'=>(∃ v,σ=[v])∧aI H H'∧∃ vs:List V,H' D=some (.lst vs)∧vs.length=i∧∀ (j:Nat) (v:V) (c:Cm),vs[j]?=some v→fs[j]?=some c→J7 H H' D v c.2)
   ⟨⟨none,rfl⟩,(aI.refl H).new hD,[],aB,rfl,fun j v c hv=>by cases hv⟩ (fun i σ H' _ p=>aX.of (p.2.1 _ _ K5)) ?_ ?_
  ·rintro i v σ H' N hN hi ⟨⟨v0,rfl⟩,s1,vs,hv,RF,Wx⟩
   obtain ⟨P8,rfl⟩:=tab_of hi
   have e:fs[i]?=some fs[i]:=by simp [P8]
   generalize fs[i]=c at e
   obtain ⟨c1,c2,c3⟩:=ZD i c e
   refine de ?_
   have fin:∀ (v:V) (H2:Hp),aI H' H2→J7 H H2 D v c.2→(∃ ys,H2 D=some (.lst ys)∧ys.length < sizeLine∧N [some (.ref (Mf i))] (upd H2 D (.lst (ys ++ [v])))):=fun v H2 s2 K6=>by
    refine ⟨_,s2 _ _ hv,by omega,hN _ _ ⟨⟨_,rfl⟩,(s1.trans s2).put hD,vs ++ [v],aB,by rw [List.length_append,RF];rfl,fun j v' c' h1 h2=>?_⟩⟩
    have up:∀ p u,p≠D→H2 p=some u→(upd H2 D (.lst (vs ++ [v]))) p=some u:=fun p u n e=>by rw [aE n];exact e
    by_cases hj:j < vs.length
    ·rw [List.getElem?_append_left hj] at h1
     exact ((Wx j v' c' h1 h2).mono fun p u _ e=>s2 _ _ e).mono up
    ·have Tb:j < (vs ++ [v]).length:=(List.getElem?_eq_some_iff.mp h1).1
     rw [List.length_append] at Tb
     have Tc:j=vs.length:=by simp at Tb;omega
     rw [Tc,List.getElem?_append_right (Nat.le_refl _),Nat.sub_self] at h1
     cases h1
     rw [Tc,RF,e] at h2
     cases h2
     exact K6.mono up
   refine ⟨_,rfl,Mf i,c.1,rfl,aX.of (s1 _ _ c1),c2,fun g p H2 hm hp s2 e2=>?_,fun hno H2 s2=>?_⟩
   ·refine fin _ H2 s2 ?_
    cases ec:c.2 with
    | none=>rw [ec] at c3;exact absurd hm (c3 g)
    | some b =>
     rw [ec] at c3
     exact ⟨p,rfl,s1.free hp,(fun z=>by rw [z,hv] at hp;cases hp),by rw [e2,HV hm c3.2]⟩
   ·refine fin _ H2 s2 ?_
    cases ec:c.2 with
    | none=>exact rfl
    | some b=>rw [ec] at c3;exact absurd c3.2 (hno _)
  ·rintro σ H1 ⟨⟨v0,rfl⟩,s1,vs,hv,RF,Wx⟩
   rw [aL] at RF
   have ZE:∀ b ∈ cY fs,jV b:=fun b hb=>by
    obtain ⟨c,hc,ec⟩:=List.mem_filterMap.mp hb
    obtain ⟨j,hj⟩:=List.getElem?_of_mem hc
    have c3:=(ZD j c hj).2.2
    rw [ec] at c3
    exact c3.1
   have P9:(cY fs).length≤fs.length:=List.length_filterMap_le _ _
   obtain ⟨Q4,Wy⟩:=AZ L (cY fs)
   have C0:=sM (cY fs) L hk fun b hb=>(ZE b hb).b
   refine ⟨_,rfl,D,rfl,⟨_,aX.of hv⟩,fun D2 HI=>?_⟩
   refine rY (K:=K) (a:=D) (xs:=vs) (fun i σ H'=>(∃ v,σ=[v])∧aI H1 H'∧∃ ps:List Addr,H' D2=some (.lst (ps.map V.ref))∧ps.length=(cY (fs.take i)).length∧∀ (j:Nat) (p:Addr) (b:Cl),ps[j]?=some p→(cY (fs.take i))[j]?=some b→H p=none∧H1 p=some (.lst (tabI 24 (ay b))))
    ⟨⟨none,rfl⟩,(aI.refl H1).new HI,[],aB,rfl,fun j p b hp=>by cases hp⟩ (fun i σ H' _ p=>aX.of (p.2.1 _ _ hv)) ?_ ?_
   ·rintro i v σ H' N hN hi ⟨⟨v0,rfl⟩,s2,ps,vy,kK,K7⟩
    have P8:i < fs.length:=by rw [← RF];exact (List.getElem?_eq_some_iff.mp hi).1
    have e:fs[i]?=some fs[i]:=by simp [P8]
    generalize fs[i]=c at e
    have HX:=Wx i v c hi e
    have N8:=EC e
    refine turn_if ?_
    cases ec:c.2 with
    | none =>
     rw [ec] at HX N8
     have HX:v=.bN:=HX
     subst HX
     refine ⟨_,rfl,rfl,_,rfl,rX rfl ?_⟩
     refine hN _ _ ⟨⟨_,rfl⟩,s2,ps,vy,?_,?_⟩
     ·rw [N8,List.append_nil];exact kK
     ·rw [N8,List.append_nil];exact K7
    | some b =>
     rw [ec] at HX N8
     obtain ⟨p,rfl,P0,hpD,K9⟩:=HX
     have N8:cY (fs.take (i+1))=cY (fs.take i) ++ [b]:=N8
     have Td:(cY (fs.take i)).length≤(fs.take i).length:=List.length_filterMap_le _ _
     rw [List.length_take] at Td
     refine ⟨_,rfl,rfl,_,rfl,uc (fun z=>by cases z) ?_⟩
     refine ⟨_,rfl,_,vy,by rw [List.length_map];omega,hN _ _ ⟨⟨_,rfl⟩,s2.put HI,ps ++ [p],?_,?_,?_⟩⟩
     ·rw [aB,List.map_append];rfl
     ·rw [N8,List.length_append,List.length_append,kK];rfl
     ·intro j p' b' h1 h2
      rw [N8] at h2
      by_cases hj:j < ps.length
      ·rw [List.getElem?_append_left hj] at h1
       rw [List.getElem?_append_left (by omega)] at h2
       exact K7 j p' b' h1 h2
      ·have Tb:j < (ps ++ [p]).length:=(List.getElem?_eq_some_iff.mp h1).1
       rw [List.length_append] at Tb
       have Tc:j=ps.length:=by simp at Tb;omega
       rw [Tc,List.getElem?_append_right (Nat.le_refl _),Nat.sub_self] at h1
       cases h1
       rw [Tc,kK,List.getElem?_append_right (Nat.le_refl _),Nat.sub_self] at h2
       cases h2
       exact ⟨P0,K9⟩
   ·rintro σ H2 ⟨⟨v0,rfl⟩,s2,ps,vy,kK,K7⟩
    rw [RF,List.take_length] at kK K7
    generalize Fh:cY fs=bs at *
    have VC:=s1.trans s2
    have h2:=h.same VC
    have ZF:H D2=none:=s1.free HI
    have J9:∀ {B3 H3:Hp} {pB:Addr} {a:Addr} {u:HO},jU B H2 B3 H3 x tA pA tA pB→H a=none→H2 a=some u→H3 a=some u:=fun {B3 H3 pB a u} m ha e=>m.k a u (nz h.hx ha) (nz h.ht ha) (nz h.hp ha) e
    refine ⟨_,rfl,D2,rfl,⟨_,aX.of vy⟩,lD (K:=K) (a:=D2) (xs:=ps.map V.ref) (fun i σ H3=>∃ (B3:Hp) (pB:Addr) (v4:Option V),σ=[some (.ref x),some (.ref cl),some (.ref D),some (.ref D2),v4]∧jU B H2 B3 H3 x tA pA tA pB∧bO t.LinkEnd B3 H3 x tA pB (ak L (bs.take i)))
     ⟨B,pA,none,rfl,jU.refl,h2⟩ (fun i σ H3 _ ⟨_,_,_,_,m3,_⟩=>aX.of (J9 m3 ZF vy)) ?_ ?_⟩
    ·rintro i v σ H3 hi ⟨B3,pB,v4,rfl,m3,h3⟩
     rw [List.getElem?_map] at hi
     cases ep:ps[i]? with
     | none=>rw [ep] at hi;cases hi
     | some p =>
      rw [ep] at hi
      cases hi
      have hib:i < bs.length:=by rw [← kK];exact (List.getElem?_eq_some_iff.mp ep).1
      have eb:bs[i]?=some bs[i]:=by simp [hib]
      generalize bs[i]=b at eb
      obtain ⟨P0,K9⟩:=K7 i p b ep eb
      have HG:=J9 m3 P0 (s2 _ _ K9)
      have bb:=ZE b (List.mem_of_getElem? eb)
      have Wz:p≠pB:=by
       rcases m3.p with z | z
       ·rw [z];exact nz h.hp P0
       ·exact aK (s2 _ _ K9) z
      have J0:=(AZ L (bs.take i)).2
      rw [List.length_take] at J0
      obtain ⟨Md,RA,Pz,_⟩:=h3.at_
      refine ⟨_,rfl,x,Md,_,rfl,Pz,rfl,_,rfl,B3,x,tA,pB,p,_,b,rfl,h3,by omega,HG,bb,nz h.ht P0,Wz,fun B4 H4 pC m4 h4=>?_⟩
      rw [← EB,← take_succ eb] at h4
      exact ⟨B4,pC,_,rfl,m3.trans m4,h4⟩
    ·rintro σ H3 ⟨B3,pB,v4,rfl,m3,h3⟩
     rw [List.length_map,kK,List.take_length] at h3
     have VB:=(jU.of_same (B:=B) VC).trans m3
     obtain ⟨Md,RA,Pz,W0⟩:=h3.at_
     have U8:=J9 m3 ZF vy
     have tail:∀ (n:Int),(iH (ak L bs) bs).u=n→(Ib (Iq K (qL 0) (tC (.int n)) "unheard") (Ib (SO (RZ (RV (FF (Qs Vt (DA K (qL 0) "known") (tC (V.int 0)))) (FF (Qs (K2 fun i j=>V.bl (decide (j≤i))) (DA K (qL 0) "unheard") (DA K (qL 0) "quiet"))))
       (Ic (FH t.LinkEnd "start_over" (kQ t.LinkEnd) [] E0 (qL 0) GU)) Nd)) (Ib (zh K (qL 0) (tC (V.int 1)) (YV fun i j=>i+j) "done") (RX (FH t.LinkEnd "cell_given" (kR t.LinkEnd) [] E0 (qL 0) GU))))) { nx:=fun x H'=>Q V.bN H',rt:=Q } [some (V.ref x),some (V.ref cl),some (V.ref D),some (V.ref D2),v4] H3:=fun n hn=>by
      refine ⟨_,rfl,x,t.LinkEnd,Md,_,rfl,Pz,T.aJ,T.mI,by show 11 < 1000;decide,?_⟩
      rw [Dy]
      obtain ⟨h4,m4⟩:=h3.set (dx:=Md) (pv:=RA) (L':=iH (ak L bs) bs) W0 rfl rfl
      have e4:cn (ak L bs).q (ak L bs).s (ak L bs).d n (ak L bs).b (ak L bs).k RA tA pB (ak L bs).of (ak L bs).tk=(iH (ak L bs) bs).fld RA tA pB:=by rw [← hn];rfl
      rw [e4]
      have Ta:=VB.trans m4
      have ZG:(iH (ak L bs) bs).b=L.b:=Q4
      have l4k:uy (iH (ak L bs) bs):=⟨C0.k,C0.o,C0.t,C0.p⟩
      have l4e:(iH (ak L bs) bs).ev.length≤L.ev.length+3 * bs.length:=Wy
      have tk:dQ L bs={ bH (iH (ak L bs) bs) with d:=(bH (iH (ak L bs) bs)).d+1 }:=rfl
      generalize iH (ak L bs) bs=L4 at *
      generalize upd H3 x (.ins t.LinkEnd Md (L4.fld RA tA pB))=H4 at *
      obtain ⟨RB,pv4,RC,aB0⟩:=h4.at_
      refine ⟨fun σ H'=>∃ B5 pC,σ=[some (V.ref x),some (V.ref cl),some (V.ref D),some (V.ref D2),v4]∧jU B H B5 H' x tA pA tA pC∧bO t.LinkEnd B5 H' x tA pC (bH L4),?_,?_⟩
      ·refine ⟨_,rfl,x,t.LinkEnd,RB,_,_,rfl,RC,T.aJ,T.f9,pe,rfl,_,rfl,?_⟩
       by_cases VD:L4.k=0
       ·refine rX (by rw [VD]) (dh ?_)
        exact ⟨B3,pB,rfl,Ta,by unfold bH;rw [if_neg (fun z=>z.1 VD)];exact h4⟩
       ·refine uc (fun z=>VD (V.int.inj z)) ?_
        refine ⟨_,rfl,x,t.LinkEnd,RB,_,_,rfl,RC,T.aJ,T.mI,zR,_,rfl,x,t.LinkEnd,RB,_,_,rfl,RC,T.aJ,T.wQ,Fs,_,_,rfl,rfl,_,rfl,?_⟩
        by_cases VE:L4.q≤L4.u
        ·refine eN VE ?_
         refine ⟨_,rfl,x,RB,_,rfl,RC,rfl,B3,x,tA,pB,L4,rfl,h4,by omega,fun B5 H5 pC m5 h5=>?_⟩
         exact ⟨B5,pC,rfl,Ta.trans m5,by unfold bH;rw [if_pos ⟨VD,VE⟩];exact h5⟩
        ·refine dW VE ?_
         exact ⟨B3,pB,rfl,Ta,by unfold bH;rw [if_neg (fun z=>VE z.2)];exact h4⟩
      ·rintro σ H5 ⟨B5,pC,rfl,m5,h5⟩
       have l5:A2 (bH L4).b∧uy (bH L4):=by
        refine ⟨?_,CW l4k⟩
        unfold bH
        split
        ·rw [(P7 L4).1,ZG]
         exact ⟨by omega,by omega⟩
        ·rw [ZG]
         exact ⟨by omega,by omega⟩
       generalize bH L4=L5 at *
       obtain ⟨K8,RD,RE,W1⟩:=h5.at_
       refine ⟨_,rfl,x,t.LinkEnd,K8,_,_,rfl,RE,T.aJ,T.vV,Dx,_,_,rfl,rfl,K8,_,RE,by show 11 < 1000;decide,?_⟩
       rw [MR]
       obtain ⟨h6,m6⟩:=h5.set (dx:=K8) (pv:=RD) (L':={ L5 with d:=L5.d+1 }) W1 rfl rfl
       have h6:bO t.LinkEnd B5 (upd H5 x (.ins t.LinkEnd K8 (cn L5.q L5.s (L5.d+1) L5.u L5.b L5.k RD tA pC L5.of L5.tk))) x tA pC { L5 with d:=L5.d+1 }:=h6
       have m6:jU B5 H5 B5 (upd H5 x (.ins t.LinkEnd K8 (cn L5.q L5.s (L5.d+1) L5.u L5.b L5.k RD tA pC L5.of L5.tk))) x tA pC tA pC:=m6
       generalize upd H5 x (.ins t.LinkEnd K8 (cn L5.q L5.s (L5.d+1) L5.u L5.b L5.k RD tA pC L5.of L5.tk))=H6 at *
       have ZH:=m5.trans m6
       obtain ⟨dx6,pv6,hx6,_⟩:=h6.at_
       have gl6:J5 { L5 with d:=L5.d+1 }:=(uy.give (L:=L5) l5.2 l5.1)
       refine ⟨_,rfl,x,dx6,_,rfl,hx6,rfl,B5,x,tA,pC,_,rfl,h6,gl6,fun p H7 hp s7 e7=>?_⟩
       rw [tk] at q
       exact q B5 H7 pC p (ZH.same s7) (h6.same s7) (ZH.g p hp) (h6.sb.free hp) (fun z=>h6.hp (by rw [← z];exact hp)) e7
     refine ⟨_,rfl,_,.inl ⟨_,aX.of U8,rfl⟩,?_⟩
     by_cases IT:bs=[]
     ·have W2:ps=[]:=List.length_eq_zero_iff.mp (by rw [kK,IT];rfl)
      rw [W2]
      refine dh ?_
      refine ⟨_,rfl,x,t.LinkEnd,Md,_,_,rfl,Pz,T.aJ,T.mI,zR,_,_,rfl,rfl,?_⟩
      exact tail _ (if_pos IT)
     ·have W2:(!(ps.map V.ref).isEmpty)=true:=by
       cases ps with
       | nil=>exact absurd (List.length_eq_zero_iff.mp kK.symm) IT
       | cons a r=>rfl
      rw [W2]
      refine fc ?_
      exact tail _ (if_neg IT)
end
end K31
namespace K31
open PySem L2 PyProof.Rows
section
variable {P:Program} {w:World} {K:PySem.W.Frag} {mg:Str→Option Value} {base:Heap} {t:Ad}
def vH (q s:Int):Lk:=⟨q,s,0,0,1,0,none,[],[],0,0⟩
theorem Mn:aQ ["self","measure","side"] ["self","measure","side"] (aH tP):=⟨rfl,rfl,rfl,by decide +kernel,rfl,by decide +kernel,by decide +kernel⟩
def F6 (K:PySem.W.Frag) (C:Addr):Sp:=fun vs H Q _=>∃ (B:Hp) (x dx ma:Addr) (a b sd:Int),vs=[.ref x,.ref ma,.int sd]∧H x=some (.ins C dx [])∧bz K H ma [.int a,.int b]∧TC a b∧aI B H∧B x=none ∧
 ∀ (tA pA:Addr) (H':Hp),(∀ y o,y≠x→H y=some o→H' y=some o)→(∀ y,H' y=none→H y=none)→H tA=none→H pA=none→bO C B H' x tA pA (vH (a+b) sd)→Q .bN H'
theorem Mo {fd CN:FuncData} (T:Txt K mg t) (F:kL K "__init__" "LinkEnd.__init__" tP t.init fd) (qa:Def P w K mg base 3 "quiet_of" ["measure"] (uj K t.BadMeasure)) (cS:bZ P w K mg base (i9 P w) 1 t.cR CN ["self"] (gc t.LinkEnd)) (cT:Binds K CN ["self"] []) :
  bZ P w K mg base (i9 P w) 4 t.init fd ["self","measure","side"] (F6 K t.LinkEnd)∧Binds K fd ["self","measure","side"] []:=by
 refine ⟨F.qQ Mn (fun vs H Q E h=>?_) (fun f bo A outer s H vs Q E hr h=>?_),F.binds fun _ _ _ _ _ _ us hl=>match us,hl with | [_,_,_],_=>rfl⟩
 ·obtain ⟨B,x,dx,ma,a,b,sd,rfl,_⟩:=h
  rfl
 ·obtain ⟨B,x,dx,ma,a,b,sd,rfl,hx,W3,hm,sB,bx,q⟩:=h
  refine ⟨_,aC (cF K (pv 0) (aZ (qa.mono (by decide)) hr (lG bC) (aA (pv 1) aD)) (by rfl)) (aC (cF K (pv 0) (pv 2) (by rfl)) (aC (cF K (pv 0) aF (by rfl)) (aC (cF K (pv 0) aF (by rfl)) (aC (cF K (pv 0) aF (by rfl)) (aC (cF K (pv 0) (aS T.pY) (by rfl)) (aC (cF K (pv 0) cJ (by rfl)) (aC (cF K (pv 0) (bF aD) (by rfl))
   (aG (ax (dg (pv 0) T.aJ T.lQ (cS.mono (by decide)) hr cT .nil ar)))))))))),?_⟩
  refine ⟨_,rfl,ma,a,b,rfl,W3,dt (by have:=hm.1;omega) (by have:=hm.1;omega),dt (by have:=hm.2;omega) (by have:=hm.2;omega),fun _=>?_,fun z=>absurd hm z⟩
  refine ⟨_,rfl,x,t.LinkEnd,dx,_,rfl,hx,T.aJ,T.wQ,by show 0 < 1000;decide,?_⟩
  refine ⟨_,rfl,_,rfl,x,t.LinkEnd,dx,_,rfl,aB,T.aJ,T.Fo,by show 1 < 1000;decide,?_⟩
  rw [iu]
  refine ⟨_,rfl,x,t.LinkEnd,dx,_,rfl,aB,T.aJ,T.vV,by show 2 < 1000;decide,?_⟩
  rw [iu]
  refine ⟨_,rfl,x,t.LinkEnd,dx,_,rfl,aB,T.aJ,T.mI,by show 3 < 1000;decide,?_⟩
  rw [iu]
  refine ⟨_,rfl,x,t.LinkEnd,dx,_,rfl,aB,T.aJ,T.lP,by show 4 < 1000;decide,?_⟩
  rw [iu]
  refine ⟨_,rfl,x,t.LinkEnd,dx,_,rfl,aB,T.aJ,T.f9,by show 5 < 1000;decide,?_⟩
  rw [iu]
  refine ⟨_,rfl,x,t.LinkEnd,dx,_,rfl,aB,T.aJ,T.gB,by show 6 < 1000;decide,?_⟩
  rw [iu]
  refine ⟨by show 0≤sizeLine;decide,fun tA VF=>?_⟩
  have Py:x≠tA:=fun z=>by rw [← z,aB] at VF;cases VF
  have Te:H tA=none:=by rw [aE (Ne.symm Py)] at VF;exact VF
  refine ⟨_,rfl,x,t.LinkEnd,dx,_,rfl,by rw [aE Py];exact aB,T.aJ,T.mJ,by show 7 < 1000;decide,?_⟩
  refine ⟨_,rfl,x,dx,_,rfl,aB,rfl,x,dx,_,rfl,aB,by show 8 < 900;decide,fun pA RG=>?_⟩
  have MU:x≠pA:=fun z=>by rw [← z,aB] at RG;cases RG
  have TQ:tA≠pA:=fun z=>by rw [← z,aE (Ne.symm Py),aB] at RG;cases RG
  have K9:H pA=none:=by rw [aE (Ne.symm MU),aE (Ne.symm TQ),aE (Ne.symm MU)] at RG;exact RG
  refine q tA pA _ (fun y o n e=>?_) (fun y hy=>?_) Te K9 ⟨?_,bx,sB.free Te,sB.free K9,⟨dx,.bN,aB,rfl⟩,⟨fun _=>0,?_,fun y e he=>by cases he⟩,⟨fun _=>0,?_,fun y e he=>by cases he⟩,TQ⟩
  ·rw [aE n,aE (aK e K9),aE n,aE (aK e Te),aE n];exact e
  ·by_cases z1:y=x
   ·rw [z1,aB] at hy;cases hy
   ·by_cases z2:y=pA
    ·rw [z2];exact K9
    ·by_cases z3:y=tA
     ·rw [z3];exact Te
     ·rw [aE z1,aE z2,aE z1,aE z3,aE z1] at hy;exact hy
  ·intro y o e
   have n:y≠x:=fun z=>by rw [z,bx] at e;cases e
   have e:=sB _ _ e
   rw [aE n,aE (aK e K9),aE n,aE (aK e Te),aE n];exact e
  ·rw [aE (Ne.symm Py),aE TQ,aE (Ne.symm Py)];exact aB
  ·rw [aE (Ne.symm MU)];exact aB
end
end K31
namespace K31
open PySem L2 PyProof.Rows
section
variable {P:Program} {w:World} {K:PySem.W.Frag} {mg:Str→Option Value} {base:Heap} {t:Ad}
def CY (ns:List Int):Prop:=(1≤ns.length∧ns.length≤10)∧∀ n ∈ ns,IV n
def qI (K:PySem.W.Frag) (C:Addr):Sp:=fun vs H Q E=>∃ (l:Addr) (ns:List Int),vs=[.ref l]∧aX K H l (ns.map V.int)∧(∀ n ∈ ns,n.natAbs < 2 ^ 1000)∧(CY ns→Q .bN H)∧(¬ CY ns→E (.ref C) none H)
theorem qJ:aQ ["piece","sign"] ["piece"] (aH i5):=⟨rfl,rfl,rfl,by decide +kernel,rfl,by decide +kernel,by decide +kernel⟩
theorem yC (F:aP K mg "look_piece" i5) (T:Txt K mg t) (gX:Def P w K mg base 1 "is_sign" ["number"] mL):Def P w K mg base 2 "look_piece" ["piece"] (qI K t.BadPiece):=by
 refine F.def qJ (fun _ _ _ _ _ _ us hl=>match us,hl with | [_],_=>rfl) (fun vs H Q E h=>?_) (fun f bo A outer s H vs Q E hr h=>?_)
 ·obtain ⟨l,ns,rfl,_⟩:=h
  rfl
 ·obtain ⟨l,ns,rfl,hl,hb,q1,q2⟩:=h
  refine ⟨_,aC (bD (kJ (rQ qB qB aF (bP (bQ K) (by rfl) T.iD boot_len (aA (pv 0) aD)) (aS T.n9)))
    (aG (eZ bC rfl rfl T.zM T.zN PySem.F.excBase_ValueError (aA (jz (bU cZ (bU (fe (aS T.n9)) (bU cZ nk)))) aD)))
    (af))
   (aG (dC (O5 bC) rfl (cM K (pv 0)) (az (i:=1) qJ.nd rfl (Or.inl rfl))
    (aG (bD (kJ (jG (aZ (gX.mono (by decide)) hr ar (aA (pv 1) aD))))
     (aG (eZ bC rfl rfl T.zM T.zN PySem.F.excBase_ValueError (aA (jz (bU (fe (pv 1)) (bU cZ nk))) aD)))
     (af))))),?_⟩
  have sl:(3000:Nat)≤sizeLine:=by decide
  have z10:=gC (i:=10) (by decide)
  have l1:("a piece has 1 to ":Str).length=17:=by decide +kernel
  have l2:(" signs":Str).length=6:=by decide +kernel
  have e0:(Str.empty ++ ("a piece has 1 to ":Str)).length≤17:=by rw [strLen_append,l1];show 0+17≤17;omega
  have e1:((Str.empty ++ ("a piece has 1 to ":Str)) ++ Str.ofString (toString (10:Int))).length≤1018:=by rw [strLen_append];omega
  have e2:(((Str.empty ++ ("a piece has 1 to ":Str)) ++ Str.ofString (toString (10:Int))) ++ (" signs":Str)).length≤1024:=by rw [strLen_append];omega
  refine ⟨_,rfl,l,_,rfl,.inl hl,_,_,rfl,rfl,_,rfl,?_⟩
  rw [List.length_map]
  by_cases h1:(1:Int)≤(ns.length:Nat)
  ·refine eN h1 ?_
   refine ⟨_,_,rfl,rfl,_,rfl,?_⟩
   by_cases h2:((ns.length:Nat):Int)≤10
   ·rw [decide_eq_true h2]
    refine dh ?_
    refine ⟨_,rfl,l,rfl,⟨_,hl⟩,lD (K:=K) (a:=l) (xs:=ns.map V.int) (fun i σ H'=>∃ x:Option V,σ=[some (.ref l),x]∧H'=H∧∀ n ∈ ns.take i,IV n) ⟨none,rfl,rfl,fun n hn=>by simp at hn⟩ (fun i σ H' _ ⟨_,_,e,_⟩=>by rw [e];exact hl) ?_ ?_⟩
    ·rintro i y σ H' hi ⟨x,rfl,rfl,ha⟩
     obtain ⟨z,hz,rfl⟩:=mC hi
     have Pp:z ∈ ns:=List.mem_of_getElem? hz
     refine ⟨_,rfl,z,rfl,_,rfl,?_⟩
     by_cases h0:0≤z∧z < 97
     ·rw [decide_eq_true h0]
      refine dh ⟨some (.int z),rfl,rfl,?_⟩
      rw [take_succ hz]
      intro n hn
      rcases List.mem_append.mp hn with z1 | z1
      ·exact ha n z1
      ·rw [List.mem_singleton.mp z1];exact h0
     ·rw [decide_eq_false h0]
      refine fc ?_
      have Yx:=gC (hb z Pp)
      have f0:(Str.empty ++ Str.ofString (toString z)).length≤1001:=by rw [strLen_append];show 0+_≤1001;omega
      have f1:((Str.empty ++ Str.ofString (toString z)) ++ (" is no sign":Str)).length≤2000:=by
       have:(" is no sign":Str).length=11:=by decide +kernel
       rw [strLen_append];omega
      refine ⟨_,rfl,z,rfl,dU (hb z Pp) (by decide) (by decide),_,rfl,by omega,_,rfl,by omega,by omega,?_⟩
      exact ⟨by show 1≤sizeLine;decide,q2 fun r=>h0 (r.2 z Pp)⟩
    ·rintro σ H' ⟨x,rfl,rfl,ha⟩
     rw [List.length_map,List.take_length] at ha
     exact q1 ⟨⟨by omega,by omega⟩,ha⟩
   ·rw [decide_eq_false h2]
    refine fc ?_
    refine ⟨_,rfl,by omega,10,rfl,dU (n:=1000) (by decide) (by decide) (by decide),_,rfl,by omega,_,rfl,by omega,by omega,?_⟩
    exact ⟨by show 1≤sizeLine;decide,q2 fun r=>h2 (by have:=r.1.2;omega)⟩
  ·refine dW h1 ?_
   refine ⟨_,rfl,fc ?_⟩
   refine ⟨_,rfl,by omega,10,rfl,dU (n:=1000) (by decide) (by decide) (by decide),_,rfl,by omega,_,rfl,by omega,by omega,?_⟩
   exact ⟨by show 1≤sizeLine;decide,q2 fun r=>h1 (by have:=r.1.1;omega)⟩
def KA (K:PySem.W.Frag) (C N Bp:Addr):Sp:=fun vs H Q E=>∃ (B:Hp) (x tA pA l:Addr) (L:Lk) (ns:List Int),vs=[.ref x,.ref l]∧bO C B H x tA pA L∧L.bS.length < 1000000∧aX K H l (ns.map V.int)∧(∀ n ∈ ns,n.natAbs < 2 ^ 1000) ∧
 (L.p=none→E (.ref N) none H)∧(L.p≠none→¬ CY ns→E (.ref Bp) none H)∧(L.p≠none→CY ns→∀ B' H',jU B H B' H' x tA pA tA pA→bO C B' H' x tA pA { L with bS:=L.bS ++ [ns] }→Q .bN H')
theorem QA:aQ ["self","piece"] ["self","piece"] (aH zJ):=⟨rfl,rfl,rfl,by decide +kernel,rfl,by decide +kernel,by decide +kernel⟩
theorem QB {fd:FuncData} (T:Txt K mg t) (F:kL K "put" "LinkEnd.put" zJ t.Bq fd) (mY:Def P w K mg base 2 "look_piece" ["piece"] (qI K t.BadPiece)) :
  bZ P w K mg base (i9 P w) 3 t.Bq fd ["self","piece"] (KA K t.LinkEnd t.NoLink t.BadPiece)∧Binds K fd ["self","piece"] []:=by
 refine ⟨F.qQ QA (fun vs H Q E h=>?_) (fun f bo A outer s H vs Q E hr h=>?_),F.binds fun _ _ _ _ _ _ us hl=>match us,hl with | [_,_],_=>rfl⟩
 ·obtain ⟨B,x,tA,pA,l,L,ns,rfl,_⟩:=h
  rfl
 ·obtain ⟨B,x,tA,pA,l,L,ns,rfl,h,hlen,hl,hb,q1,q2,q3⟩:=h
  refine ⟨_,aC (bD (aW tE (ao K (pv 0) (by rfl)) cJ (aj _))
    (aG (eZ bC rfl rfl T.MC T.MD PySem.F.excBase_ValueError (aA cZ aD)))
    (af))
   (aC (ax (aZ (mY.mono (by decide)) hr (lG bC) (aA (pv 1) aD)))
   (aG (ax (jL K PySem.F.plainAttrs_list PySem.F.slot_list_append PySem.F.type_list_append cP (ao K (pv 0) (by rfl)) (aA (gO (gP K) (by rfl) T.qT boot_list (aA (pv 1) aD)) aD))))),?_⟩
  have hsz:(1000001:Nat)≤sizeLine:=by decide
  obtain ⟨dx,pv,hx,hp⟩:=h.at_
  obtain ⟨dq,g3,vW⟩:=h.bS
  refine ⟨_,rfl,x,t.LinkEnd,dx,_,_,rfl,hx,T.aJ,T.gB,oK,rfl,_,rfl,?_⟩
  cases ep:L.p with
  | none =>
   rw [ep] at hp
   have hp:pv=.bN:=hp
   subst hp
   refine eN rfl ?_
   exact ⟨by show 1≤sizeLine;decide,q1 ep⟩
  | some p =>
   have hn:L.p≠none:=by rw [ep];exact fun z=>by cases z
   rw [ep] at hp
   obtain ⟨pa,rfl,Fq⟩:=hp
   refine dW (fun z=>by cases z) ?_
   refine ⟨_,rfl,l,ns,rfl,hl,hb,fun U5=>?_,fun z=>q2 hn z⟩
   refine ⟨_,rfl,x,t.LinkEnd,dx,_,_,rfl,hx,T.aJ,T.gW,lV,.inl ⟨rfl,_,aX.of g3⟩,?_⟩
   refine ⟨_,rfl,l,_,rfl,.inl hl,fun c hc=>?_⟩
   have s1:aI H (upd H c (.lst (ns.map V.int))):=(aI.refl _).new hc
   obtain ⟨h1,m1⟩:=h.grow (o:=.lst (ns.map V.int)) s1 hc aB
   refine ⟨pA,_,_,rfl,rfl,s1 _ _ g3,by rw [aL];omega,?_⟩
   have bc:(upd B c (.lst (ns.map V.int))) c=some (.lst (ns.map V.int)):=aB
   have g31:=s1 _ _ g3
   generalize upd H c (.lst (ns.map V.int))=H1 at *
   have sB:=m1.bb
   generalize upd B c (.lst (ns.map V.int))=B1 at *
   obtain ⟨wd,MX,xy,CA⟩:=h1.at_
   obtain ⟨iF,g2,CM⟩:=h1.told
   rw [dR]
   refine q3 hn U5 B1 _ (m1.trans ⟨aI.refl _,fun _ _ z=>z,fun y o _ _ n3 e=>by rw [aE n3];exact e,fun b hb=>ed hb h1.hp,.inl rfl,.inl rfl⟩) ⟨h1.sb.put h1.bp,h1.bx,h1.bt,h1.bp,⟨wd,MX,by rw [aE h.xp];exact xy,CA⟩,⟨iF,by rw [aE h.ne];exact g2,CM⟩,⟨fun k=>if k=L.bS.length then c else dq k,?_,fun y xs hy=>?_⟩,h.ne⟩
   ·rw [aB]
    show some (HO.lst (bJ (L.bS.length+1) _))=some (HO.lst (bJ (L.bS ++ [ns]).length _))
    rw [List.length_append];rfl
   ·have hy:(L.bS ++ [ns])[y]?=some xs:=hy
    by_cases z:y=L.bS.length
    ·rw [z,List.getElem?_append_right (Nat.le_refl _),Nat.sub_self] at hy
     cases hy
     simp only [z,if_true]
     exact bc
    ·have TN:y < (L.bS ++ [ns]).length:=(List.getElem?_eq_some_iff.mp hy).1
     rw [List.length_append] at TN
     have Pw:y < L.bS.length:=by simp at TN;omega
     rw [List.getElem?_append_left Pw] at hy
     simp only [z,if_false]
     exact sB _ _ (vW y xs hy)
end
end K31
namespace K31
open PySem L2 PyProof.Rows
section
variable {P:Program} {w:World} {K:PySem.W.Frag} {mg:Str→Option Value} {base:Heap} {t:Ad}
abbrev Pr:=Int × Int
def own (s:Nat) (P:Pr):Int:=if s=0 then P.1 else P.2
def zW (s:Nat) (P:Pr):Int:=if s=0 then P.2 else P.1
def pr (s:Nat) (b k:Int):Pr:=if s=0 then (b,k) else (k,b)
theorem oM (s:Nat) (b k:Int):own s (pr s b k)=b:=by unfold own pr;split <;> rfl
theorem tu (s:Nat) (b k:Int):zW s (pr s b k)=k:=by unfold zW pr;split <;> rfl
theorem Mp {s:Nat} (h:s < 2) (b k:Int):pr (1 - s) b k=pr s k b:=by
 match s,h with
 | 0,_=>rfl
 | 1,_=>rfl
 | s+2,h=>omega
structure Gh where
 W:Nat→Pr→List (List Int)
 O:Nat→Pr→Nat
 K:Nat→Pr→Nat
 U:Nat→Pr→Prop
def Unr (s:Nat) (L:Lk) (P:Pr):Prop:=L.b < own s P∨(own s P=L.b∧L.k < zW s P)
structure oN (G:Gh) (s:Nat) (P:Pr):Prop where
 w:G.W s P=[]
 o:G.O s P=0
 k:G.K s P=0
 u:¬ G.U s P
structure En (G:Gh) (s:Nat) (L:Lk):Prop where
 sd:L.s=(s:Int)
 o:L.of=(G.O s (pr s L.b L.k):Int) % 97
 t:L.tk=(G.K s (pr s L.b L.k):Int) % 97
 p:L.bS=(G.W s (pr s L.b L.k)).drop (G.O s (pr s L.b L.k))
 ow:G.O s (pr s L.b L.k)≤(G.W s (pr s L.b L.k)).length
 dn:L.p=none→oN G s (pr s L.b L.k)
 up:∀ x,L.p=some x→x=pr s L.b L.k∧G.U s (pr s L.b L.k)
 un:∀ P,Unr s L P→oN G s P
 um:∀ P,G.U s P→own s P≤L.b∧(own s P=L.b→zW s P≤L.k)
def Rel (G:Gh):Prop:=∀ s,s < 2→∀ P,G.O s P≤G.K (1 - s) P∧G.K (1 - s) P≤G.O s P+1∧G.K (1 - s) P≤(G.W s P).length
structure dX (G:Gh) (s:Nat) (a:Cl) (Aa:Nat):Prop where
 ex:∃ nc cc:Nat,a.n=(nc:Int) % 97∧a.c=(cc:Int) % 97∧nc≤G.O s (pr s a.b a.k)∧cc≤G.K s (pr s a.b a.k)∧G.O s (pr s a.b a.k)≤nc+Aa∧G.K s (pr s a.b a.k)≤cc+Aa∧(a.xs=[]∨(G.W s (pr s a.b a.k))[nc]?=some a.xs)
 m:∀ P,G.U (1 - s) P→own (1 - s) P < a.k→zW (1 - s) P≤a.b
def dY {α:Type} (f:Nat→Pr→α) (s:Nat) (P:Pr) (v:α):Nat→Pr→α:=fun i Q=>if i=s∧Q=P then v else f i Q
theorem bL {α:Type} {f:Nat→Pr→α} {s:Nat} {P:Pr} {v:α}:dY f s P v s P=v:=if_pos ⟨rfl,rfl⟩
theorem cC {α:Type} {f:Nat→Pr→α} {s i:Nat} {P Q:Pr} {v:α} (h:¬ (i=s∧Q=P)):dY f s P v i Q=f i Q:=if_neg h
structure Wt where
 p:Option Pr
 k:Pr→Nat
 u:Pr→Prop
def wt (G:Gh) (s:Nat) (L:Lk):Wt:=⟨L.p,G.K s,G.U s⟩
inductive pz (W:Pr→List (List Int)):Wt→List Ev→Wt→Prop
 | nil (a):pz W a [] a
 | up {a b:Wt} {es:List Ev} {x:Pr} (h:pz W a es b) (hp:b.p=none) (hu:¬ b.u x) (hm:∀ P,b.u P→P.1≤x.1∧P.2≤x.2) (hz:b.k x=0):pz W a (es ++ [.mk "up" x []]) ⟨some x,b.k,fun P=>P=x∨b.u P⟩
 | anew {a b:Wt} {es:List Ev} {x:Pr} (h:pz W a es b) (hp:b.p=some x):pz W a (es ++ [.mk "anew" x []]) ⟨none,b.k,b.u⟩
 | W4 {a b:Wt} {es:List Ev} {x:Pr} {f e:Int} (h:pz W a es b) (hp:b.p=some x):pz W a (es ++ [.mk "silent" x [f,e]]) ⟨none,b.k,b.u⟩
 | took {a b:Wt} {es:List Ev} {x:Pr} {xs:List Int} (h:pz W a es b) (hp:b.p=some x) (hw:(W x)[b.k x]?=some xs):pz W a (es ++ [.took xs]) ⟨b.p,fun P=>if P=x then b.k x+1 else b.k P,b.u⟩
structure kS (r:Nat) (b:Int) (G G':Gh):Prop where
 w:G'.W=G.W
 o:∀ i,i≠r→G'.O i=G.O i
 k:∀ i,i≠r→G'.K i=G.K i
 u:∀ i,i≠r→G'.U i=G.U i
 om:∀ P,G.O r P≤G'.O r P
 km:∀ P,G.K r P≤G'.K r P
 un:∀ P,G'.U r P→G.U r P∨own r P=b
theorem kS.refl {r:Nat} {b:Int} {G:Gh}:kS r b G G:=⟨rfl,fun _ _=>rfl,fun _ _=>rfl,fun _ _=>rfl,fun _=>Nat.le_refl _,fun _=>Nat.le_refl _,fun _ h=>.inl h⟩
theorem kS.trans {r:Nat} {β:Int} {G G1 G2:Gh} (a:kS r β G G1) (b:kS r β G1 G2):kS r β G G2 :=
 ⟨b.w.trans a.w,fun i h=>(b.o i h).trans (a.o i h),fun i h=>(b.k i h).trans (a.k i h),fun i h=>(b.u i h).trans (a.u i h),fun P=>Nat.le_trans (a.om P) (b.om P),fun P=>Nat.le_trans (a.km P) (b.km P),fun P h=>(b.un P h).elim (a.un P) .inr⟩
theorem dX.grow {r:Nat} {β:Int} {G G':Gh} (g:kS r β G G') {s:Nat} (hs:s≠r) (hr:r=1 - s) {a:Cl} {Aa:Nat} (hk:a.k≤β) (h:dX G s a Aa):dX G' s a Aa:=by
 obtain ⟨nc,cc,h1⟩:=h.ex
 refine ⟨⟨nc,cc,by rw [g.o s hs,g.k s hs,g.w];exact h1⟩,fun P hP ho=>?_⟩
 subst hr
 rcases g.un P hP with z | z
 ·exact h.m P z ho
 ·omega
theorem Tf {s:Nat} {P:Pr} {b k:Int} (h1:own s P≤b) (h2:zW s P≤k):P.1≤(pr s b k).1∧P.2≤(pr s b k).2:=by
 unfold own zW at *
 unfold pr
 split
 ·rename_i z;rw [if_pos z] at h1 h2;exact ⟨h1,h2⟩
 ·rename_i z;rw [if_neg z] at h1 h2;exact ⟨h2,h1⟩
theorem fW {G:Gh} {s:Nat} {L:Lk} (sd:L.s=(s:Int)) (fr:oN G s (pr s L.b L.k)) (h1:L.p=none) (h2:L.bS=[]) (h3:L.of=0) (h4:L.tk=0) (un:∀ P,Unr s L P→oN G s P) (um:∀ P,G.U s P→own s P≤L.b∧(own s P=L.b→zW s P≤L.k)):En G s L :=
 ⟨sd,by rw [fr.o,h3];rfl,by rw [fr.k,h4];rfl,by rw [fr.w,h2,List.drop_nil],by rw [fr.o];exact Nat.zero_le _,fun _=>fr,fun x hx=>(by rw [h1] at hx;cases hx),un,um⟩
theorem En.zero {G:Gh} {s:Nat} {L:Lk} (h:En G s L) (hp:L.p=none):L.bS=[]∧L.of=0∧L.tk=0:=by
 have fr:=h.dn hp
 refine ⟨by rw [h.p,fr.w,List.drop_nil],by rw [h.o,fr.o];rfl,by rw [h.t,fr.k];rfl⟩
section
variable {G:Gh} {s r Aa:Nat} {L:Lk} {a:Cl}
theorem En.meet {A:Wt} {es0:List Ev} {W:Pr→List (List Int)} (h:En G s L) {n:Int} (hn:L.k≤n) (ht:pz W A L.ev (wt G s L)):En G s (bK L n)∧pz W A (bK L n).ev (wt G s (bK L n))∧(bK L n).b=L.b∧(bK L n).k=n:=by
 have mb:=AY L n
 by_cases e:L.k=n
 ·have em:bK L n=L:=by
   unfold bK
   obtain ⟨q,s,d,u,b,k,p,ev,bS,of,tk⟩:=L
   simp only at e
   subst e
   cases p with
   | none=>rfl
   | some x=>simp only;rw [if_neg (by omega)]
  rw [em];exact ⟨h,ht,rfl,e⟩
 ·have fE:L.k < n:=by omega
  have ur:Unr s L (pr s L.b n):=.inr ⟨oM _ _ _,by rw [tu];exact fE⟩
  have Tg:∀ P,Unr s { L with k:=n } P→oN G s P:=fun P hP=>h.un P (by
   rcases hP with z | ⟨z1,z2⟩
   ·exact .inl z
   ·exact .inr ⟨z1,by have z2:n < zW s P:=z2;omega⟩)
  have Th:∀ P,G.U s P→own s P≤L.b∧(own s P=L.b→zW s P≤n):=fun P hP=>⟨(h.um P hP).1,fun z=>by have:=(h.um P hP).2 z;omega⟩
  cases ep:L.p with
  | none =>
   obtain ⟨z1,z2,z3⟩:=h.zero ep
   have em:bK L n={ L with k:=n }:=by unfold bK;rw [ep]
   rw [em]
   exact ⟨fW h.sd (h.un _ ur) ep z1 z2 z3 Tg Th,ht,rfl,rfl⟩
  | some x =>
   have em:bK L n={ L with p:=none,bS:=[],of:=0,tk:=0,k:=n,ev:=L.ev ++ [.mk "anew" x []] }:=by unfold bK;rw [ep];simp only;rw [if_pos fE]
   rw [em]
   refine ⟨fW h.sd (h.un _ ur) rfl rfl rfl rfl Tg Th,?_,rfl,rfl⟩
   exact pz.anew (b:=wt G s L) ht ep
theorem En.W5 {A:Wt} {W:Pr→List (List Int)} (h:En G s L) (hm:∀ P,G.U s P→own s P < L.b→zW s P≤L.k) (ht:pz W A L.ev (wt G s L)):∃ G',En G' s (bY L)∧kS s L.b G G'∧G'.O=G.O∧G'.K=G.K∧pz W A (bY L).ev (wt G' s (bY L))∧(bY L).b=L.b∧(bY L).k=L.k∧(bY L).p≠none:=by
 cases ep:L.p with
 | some x =>
  have ec:bY L=L:=by unfold bY;rw [ep]
  rw [ec]
  exact ⟨G,h,kS.refl,rfl,rfl,ht,rfl,rfl,by rw [ep];exact fun z=>by cases z⟩
 | none =>
  have epr:(if L.s=0 then (L.b,L.k) else (L.k,L.b))=pr s L.b L.k:=by
   unfold pr
   rw [h.sd]
   by_cases z:s=0
   ·rw [if_pos z,if_pos (by omega)]
   ·rw [if_neg z,if_neg (by omega)]
  have ec:bY L={ L with p:=some (pr s L.b L.k),ev:=L.ev ++ [.mk "up" (pr s L.b L.k) []] }:=by unfold bY;rw [ep];simp only;rw [epr]
  rw [ec]
  have fr:=h.dn ep
  have pk:∀ P,Unr s L P→P≠pr s L.b L.k:=fun P hP z=>by
   rw [z] at hP
   rcases hP with y | ⟨_,y⟩
   ·rw [oM] at y;omega
   ·rw [tu] at y;omega
  refine ⟨⟨G.W,G.O,G.K,fun i P=>(i=s∧P=pr s L.b L.k)∨G.U i P⟩,⟨h.sd,h.o,h.t,h.p,h.ow,(fun z=>by cases z),fun x hx=>?_,fun P hP=>?_,fun P hP=>hP.elim (fun y=>by rw [y.2,oM,tu];exact ⟨Int.le_refl _,fun _=>Int.le_refl _⟩) (h.um P)⟩,⟨rfl,fun _ _=>rfl,fun _ _=>rfl,fun i hi=>?_,fun _=>Nat.le_refl _,fun _=>Nat.le_refl _,fun P hP=>hP.elim (fun y=>.inr (by rw [y.2,oM])) .inl⟩,rfl,rfl,?_,rfl,rfl,(fun z=>by cases z)⟩
  ·cases hx;exact ⟨rfl,.inl ⟨rfl,rfl⟩⟩
  ·have f:=h.un P hP
   exact ⟨f.w,f.o,f.k,fun z=>z.elim (fun y=>pk P hP y.2) f.u⟩
  ·funext P
   show ((i=s∧P=pr s L.b L.k)∨G.U i P)=G.U i P
   rw [eq_iff_iff]
   exact ⟨fun z=>z.elim (fun y=>absurd y.1 hi) id,.inr⟩
  ·have:=pz.up (x:=pr s L.b L.k) (b:=wt G s L) ht ep fr.u (fun P hP=>Tf (h.um P hP).1 (by
    have a1:=(h.um P hP).1
    by_cases z:own s P=L.b
    ·exact (h.um P hP).2 z
    ·exact hm P hP (by omega))) fr.k
   have e2:(wt ⟨G.W,G.O,G.K,fun i P=>(i=s∧P=pr s L.b L.k)∨G.U i P⟩ s { L with p:=some (pr s L.b L.k),ev:=L.ev ++ [.mk "up" (pr s L.b L.k) []] })=⟨some (pr s L.b L.k),(wt G s L).k,fun P=>P=pr s L.b L.k∨(wt G s L).u P⟩:=by
    unfold wt
    congr 1
    funext P
    show ((s=s∧P=pr s L.b L.k)∨G.U s P)=(P=pr s L.b L.k∨G.U s P)
    rw [eq_iff_iff]
    exact ⟨fun z=>z.elim (fun y=>.inl y.2) .inr,fun z=>z.elim (fun y=>.inl ⟨rfl,y⟩) .inr⟩
   rw [e2]
   exact this
theorem En.W6 {A:Wt} {W:Pr→List (List Int)} (hs:s < 2) (h:En G s L) (rel:Rel G) (hu:L.p≠none) (c:Int) (cc:Nat) (hc:c=(cc:Int) % 97) (h1:cc≤G.K (1 - s) (pr s L.b L.k)) (h2:G.K (1 - s) (pr s L.b L.k)≤cc+8) (ht:pz W A L.ev (wt G s L)) :
  ∃ G',En G' s (cB L c)∧Rel G'∧kS s L.b G G'∧pz W A (cB L c).ev (wt G' s (cB L c))∧(cB L c).b=L.b∧(cB L c).k=L.k∧(cB L c).p=L.p:=by
 by_cases z:L.bS≠[]∧c=(L.of+1) % 97
 ·obtain ⟨z1,z2⟩:=z
  have eh:cB L c={ L with bS:=L.bS.tail,of:=(L.of+1) % 97 }:=if_pos ⟨z1,z2⟩
  rw [eh]
  obtain ⟨r1,r2,r3⟩:=rel s hs (pr s L.b L.k)
  have ho:=h.o
  have e1:cc=G.O s (pr s L.b L.k)+1:=by rw [hc,ho] at z2;omega
  have e2:G.K (1 - s) (pr s L.b L.k)=G.O s (pr s L.b L.k)+1:=by omega
  have fE:G.O s (pr s L.b L.k) < (G.W s (pr s L.b L.k)).length:=by omega
  have pk:∀ P,Unr s L P→P≠pr s L.b L.k:=fun P hP y=>by
   rw [y] at hP
   rcases hP with w | ⟨_,w⟩
   ·rw [oM] at w;omega
   ·rw [tu] at w;omega
  refine ⟨⟨G.W,dY G.O s (pr s L.b L.k) (G.O s (pr s L.b L.k)+1),G.K,G.U⟩,⟨h.sd,?_,h.t,?_,?_,fun y=>absurd y hu,h.up,fun P hP=>?_,h.um⟩,?_,⟨rfl,fun i hi=>?_,fun _ _=>rfl,fun _ _=>rfl,fun P=>?_,fun _=>Nat.le_refl _,fun _ h=>.inl h⟩,ht,rfl,rfl,rfl⟩
  ·show (L.of+1) % 97=((dY G.O s (pr s L.b L.k) (G.O s (pr s L.b L.k)+1) s (pr s L.b L.k):Nat):Int) % 97
   rw [bL,ho];omega
  ·show L.bS.tail=(G.W s (pr s L.b L.k)).drop (dY G.O s (pr s L.b L.k) (G.O s (pr s L.b L.k)+1) s (pr s L.b L.k))
   rw [bL,h.p,List.tail_drop]
  ·show dY G.O s (pr s L.b L.k) (G.O s (pr s L.b L.k)+1) s (pr s L.b L.k)≤_
   rw [bL];exact fE
  ·have f:=h.un P hP
   exact ⟨f.w,by show dY G.O s (pr s L.b L.k) _ s P=0;rw [cC (fun y=>pk P hP y.2)];exact f.o,f.k,f.u⟩
  ·intro i hi P
   show dY G.O s (pr s L.b L.k) (G.O s (pr s L.b L.k)+1) i P≤G.K (1 - i) P∧G.K (1 - i) P≤dY G.O s (pr s L.b L.k) (G.O s (pr s L.b L.k)+1) i P+1∧G.K (1 - i) P≤(G.W i P).length
   by_cases y:i=s∧P=pr s L.b L.k
   ·rw [y.1,y.2,bL]
    exact ⟨by omega,by omega,r3⟩
   ·rw [cC y];exact rel i hi P
  ·funext P
   exact cC fun y=>hi y.1
  ·show G.O s P≤dY G.O s (pr s L.b L.k) (G.O s (pr s L.b L.k)+1) s P
   by_cases y:P=pr s L.b L.k
   ·rw [y,bL];omega
   ·rw [cC (fun w=>y w.2)];exact Nat.le_refl _
 ·have eh:cB L c=L:=if_neg z
  rw [eh]
  exact ⟨G,h,rel,kS.refl,ht,rfl,rfl,rfl⟩
theorem En.take {A:Wt} (hs:s < 2) (h:En G s L) (rel:Rel G) (hu:L.p≠none) (n:Int) (xs:List Int) (nc:Nat) (hn:n=(nc:Int) % 97) (h1:nc≤G.O (1 - s) (pr s L.b L.k)) (h2:G.O (1 - s) (pr s L.b L.k)≤nc+8) (hx:xs=[]∨(G.W (1 - s) (pr s L.b L.k))[nc]?=some xs) (ht:pz (G.W (1 - s)) A L.ev (wt G s L)) :
  ∃ G',En G' s (dO L n xs)∧Rel G'∧kS s L.b G G'∧pz (G.W (1 - s)) A (dO L n xs).ev (wt G' s (dO L n xs))∧(dO L n xs).b=L.b∧(dO L n xs).k=L.k∧(dO L n xs).p=L.p:=by
 by_cases z:xs≠[]∧n=L.tk
 ·obtain ⟨z1,z2⟩:=z
  have eh:dO L n xs={ L with ev:=L.ev ++ [.took xs],tk:=(L.tk+1) % 97 }:=if_pos ⟨z1,z2⟩
  rw [eh]
  have uz:1 - s < 2:=by omega
  have A3:1 - (1 - s)=s:=by omega
  obtain ⟨r1,r2,r3⟩:=rel (1 - s) uz (pr s L.b L.k)
  rw [A3] at r1 r2 r3
  have ho:=h.t
  have e1:nc=G.K s (pr s L.b L.k):=by rw [hn,ho] at z2;omega
  have hw:(G.W (1 - s) (pr s L.b L.k))[G.K s (pr s L.b L.k)]?=some xs:=by rw [← e1];exact hx.resolve_left z1
  have fE:G.K s (pr s L.b L.k) < (G.W (1 - s) (pr s L.b L.k)).length:=(List.getElem?_eq_some_iff.mp hw).1
  have pk:∀ P,Unr s L P→P≠pr s L.b L.k:=fun P hP y=>by
   rw [y] at hP
   rcases hP with w | ⟨_,w⟩
   ·rw [oM] at w;omega
   ·rw [tu] at w;omega
  obtain ⟨x,ex⟩:∃ x,L.p=some x:=by
   cases e:L.p with
   | none=>exact absurd e hu
   | some x=>exact ⟨x,rfl⟩
  have exP:=(h.up x ex).1
  refine ⟨⟨G.W,G.O,dY G.K s (pr s L.b L.k) (G.K s (pr s L.b L.k)+1),G.U⟩,⟨h.sd,h.o,?_,h.p,h.ow,fun y=>absurd y hu,h.up,fun P hP=>?_,h.um⟩,?_,⟨rfl,fun _ _=>rfl,fun i hi=>?_,fun _ _=>rfl,fun _=>Nat.le_refl _,fun P=>?_,fun _ h=>.inl h⟩,?_,rfl,rfl,rfl⟩
  ·show (L.tk+1) % 97=((dY G.K s (pr s L.b L.k) (G.K s (pr s L.b L.k)+1) s (pr s L.b L.k):Nat):Int) % 97
   rw [bL,ho];omega
  ·have f:=h.un P hP
   exact ⟨f.w,f.o,by show dY G.K s (pr s L.b L.k) _ s P=0;rw [cC (fun y=>pk P hP y.2)];exact f.k,f.u⟩
  ·intro i hi P
   show G.O i P≤dY G.K s (pr s L.b L.k) (G.K s (pr s L.b L.k)+1) (1 - i) P∧dY G.K s (pr s L.b L.k) (G.K s (pr s L.b L.k)+1) (1 - i) P≤G.O i P+1∧dY G.K s (pr s L.b L.k) (G.K s (pr s L.b L.k)+1) (1 - i) P≤(G.W i P).length
   by_cases y:1 - i=s∧P=pr s L.b L.k
   ·have ei:i=1 - s:=by omega
    rw [y.1,y.2,bL,ei]
    exact ⟨by omega,by omega,by omega⟩
   ·rw [cC y];exact rel i hi P
  ·funext P
   exact cC fun y=>hi y.1
  ·show G.K s P≤dY G.K s (pr s L.b L.k) (G.K s (pr s L.b L.k)+1) s P
   by_cases y:P=pr s L.b L.k
   ·rw [y,bL];omega
   ·rw [cC (fun w=>y w.2)];exact Nat.le_refl _
  ·have:=pz.took (x:=pr s L.b L.k) (b:=wt G s L) ht (by show L.p=_;rw [ex,exP]) hw
   have e2:wt ⟨G.W,G.O,dY G.K s (pr s L.b L.k) (G.K s (pr s L.b L.k)+1),G.U⟩ s { L with ev:=L.ev ++ [.took xs],tk:=(L.tk+1) % 97 }=⟨(wt G s L).p,fun P=>if P=pr s L.b L.k then (wt G s L).k (pr s L.b L.k)+1 else (wt G s L).k P,(wt G s L).u⟩:=by
    unfold wt
    congr 1
    funext P
    show dY G.K s (pr s L.b L.k) (G.K s (pr s L.b L.k)+1) s P=if P=pr s L.b L.k then G.K s (pr s L.b L.k)+1 else G.K s P
    by_cases y:P=pr s L.b L.k
    ·rw [y,bL,if_pos rfl]
    ·rw [cC (fun w=>y w.2),if_neg y]
   rw [e2]
   exact this
 ·have eh:dO L n xs=L:=if_neg z
  rw [eh]
  exact ⟨G,h,rel,kS.refl,ht,rfl,rfl,rfl⟩
theorem En.read {A:Wt} (hs:s < 2) (h:En G s L) (rel:Rel G) (hc:dX G (1 - s) a 8) (QC:a.k≤L.b) (ht:pz (G.W (1 - s)) A L.ev (wt G s L)) :
  ∃ G',En G' s (ck L a)∧Rel G'∧kS s L.b G G'∧pz (G.W (1 - s)) A (ck L a).ev (wt G' s (ck L a))∧(ck L a).b=L.b:=by
 unfold ck
 by_cases z:a.b < L.k
 ·rw [if_pos z];exact ⟨G,h,rel,kS.refl,ht,rfl⟩
 ·rw [if_neg z]
  obtain ⟨m1,m2,m3,m4⟩:=h.meet (es0:=[]) (n:=a.b) (by omega) ht
  by_cases y:a.k=(bK L a.b).b
  ·rw [if_pos y]
   generalize bK L a.b=L1 at *
   have Pq:=hc.m
   rw [show 1 - (1 - s)=s by omega] at Pq
   obtain ⟨G2,c1,c2,c3,c4,c5,c6,c7,c8⟩:=m1.W5 (fun P hP ho=>by rw [m4];exact Pq P hP (by rw [y];exact ho)) m2
   rw [m3] at c2
   have ePr:pr (1 - s) a.b a.k=pr s (bY L1).b (bY L1).k:=by rw [Mp hs,c6,c7,m4,y]
   have Pb:Rel G2:=fun i hi P=>by rw [c3,c4,c2.w];exact rel i hi P
   generalize bY L1=L2 at *
   obtain ⟨nc,cc,k1,k2,k3,k4,k5,k6,k7⟩:=(hc.grow c2 (show 1 - s≠s by omega) (by omega) QC).ex
   rw [ePr] at k3 k4 k5 k6 k7
   obtain ⟨G3,d1,d2,d3,d4,d5,d6,d7⟩:=c1.W6 hs Pb c8 a.c cc k2 k4 k6 c5
   have Ti:pr s (cB L2 a.c).b (cB L2 a.c).k=pr s L2.b L2.k:=by rw [d5,d6]
   have ZI:=k3;have ZJ:=k5;have ZK:=k7
   rw [← d3.o (1 - s) (by omega),← Ti] at ZI ZJ
   rw [← d3.w,← Ti] at ZK
   have w3:G3.W (1 - s)=G.W (1 - s):=by rw [d3.w,c2.w]
   rw [← w3] at d4
   obtain ⟨G4,e1,e2,e3,e4,e5,_,_⟩:=d1.take hs d2 (by rw [d7];exact c8) a.n a.xs nc k1 ZI ZJ ZK d4
   have eb:(cB L2 a.c).b=L.b:=by rw [d5,c6,m3]
   rw [eb] at e3 e5
   rw [c6,m3] at d3
   exact ⟨G4,e1,e2,(c2.trans d3).trans e3,by rw [← w3];exact e4,e5⟩
  ·rw [if_neg y];exact ⟨G,m1,rel,kS.refl,m2,m3⟩
theorem En.N9 {A:Wt} (hs:s < 2):∀ (bs:List Cl) (G:Gh) (L:Lk),En G s L→Rel G→(∀ a ∈ bs,dX G (1 - s) a 8)→(∀ a ∈ bs,a.k≤L.b)→pz (G.W (1 - s)) A L.ev (wt G s L) →
  ∃ G',En G' s (ak L bs)∧Rel G'∧kS s L.b G G'∧pz (G.W (1 - s)) A (ak L bs).ev (wt G' s (ak L bs))∧(ak L bs).b=L.b
 | [],G,L,h,rel,_,_,ht=>⟨G,h,rel,kS.refl,ht,rfl⟩
 | a :: r,G,L,h,rel,hc,QC,ht=>by
  obtain ⟨G1,h1,r1,g1,t1,b1⟩:=h.read hs rel (hc a List.mem_cons_self) (QC a List.mem_cons_self) ht
  have w1:G1.W (1 - s)=G.W (1 - s):=by rw [g1.w]
  rw [← w1] at t1
  obtain ⟨G2,h2,r2,g2,t2,b2⟩:=En.N9 hs r G1 (ck L a) h1 r1 (fun x hx=>(hc x (List.mem_cons_of_mem _ hx)).grow g1 (by omega) (by omega) (QC x (List.mem_cons_of_mem _ hx))) (fun x hx=>by rw [b1];exact QC x (List.mem_cons_of_mem _ hx)) t1
  rw [b1] at g2
  exact ⟨G2,h2,r2,g1.trans g2,by rw [← w1];exact t2,b2.trans b1⟩
theorem En.quiet {A:Wt} {W:Pr→List (List Int)} (h:En G s L) (hk:0≤L.k) (ht:pz W A L.ev (wt G s L)):En G s (bH L)∧pz W A (bH L).ev (wt G s (bH L)):=by
 unfold bH
 split
 ·have ur:Unr s L (pr s (L.b+1) 0):=.inl (by rw [oM];omega)
  have Tg:∀ P,(L.b+1 < own s P∨(own s P=L.b+1∧0 < zW s P))→oN G s P:=fun P hP=>h.un P (.inl (by rcases hP with z | ⟨z,_⟩ <;> omega))
  have Th:∀ P,G.U s P→own s P≤L.b+1∧(own s P=L.b+1→zW s P≤0):=fun P hP=>by have:=(h.um P hP).1;exact ⟨by omega,fun z=>by omega⟩
  cases ep:L.p with
  | none =>
   obtain ⟨z1,z2,z3⟩:=h.zero ep
   have em:iG L={ L with b:=L.b+1,k:=0 }:=by unfold iG;rw [ep]
   rw [em]
   exact ⟨fW h.sd (h.un _ ur) ep z1 z2 z3 Tg Th,ht⟩
  | some x =>
   have em:iG L={ L with p:=none,bS:=[],of:=0,tk:=0,b:=L.b+1,k:=0,ev:=L.ev ++ [.mk "silent" x [L.d - L.q+1,L.d]] }:=by unfold iG;rw [ep]
   rw [em]
   exact ⟨fW h.sd (h.un _ ur) rfl rfl rfl rfl Tg Th,pz.W4 (b:=wt G s L) ht ep⟩
 ·exact ⟨h,ht⟩
theorem En.re {L':Lk} (h:En G s L) (h1:L'.s=L.s) (h2:L'.b=L.b) (h3:L'.k=L.k) (h4:L'.p=L.p) (h5:L'.bS=L.bS) (h6:L'.of=L.of) (h7:L'.tk=L.tk):En G s L':=by
 refine ⟨h1.trans h.sd,?_,?_,?_,?_,?_,?_,?_,by rw [h2,h3];exact h.um⟩
 ·rw [h6,h2,h3];exact h.o
 ·rw [h7,h2,h3];exact h.t
 ·rw [h5,h2,h3];exact h.p
 ·rw [h2,h3];exact h.ow
 ·rw [h2,h3,h4];exact h.dn
 ·rw [h2,h3,h4];exact h.up
 ·intro P hP
  refine h.un P ?_
  unfold Unr at hP ⊢
  rw [h2,h3] at hP
  exact hP
theorem En.tick {bs:List Cl} (hs:s < 2) (h:En G s L) (rel:Rel G) (hk:uy L) (Fh:∀ a ∈ bs,A2 a.b) (hc:∀ a ∈ bs,dX G (1 - s) a 8) (QC:∀ a ∈ bs,a.k≤L.b) (J0:L.ev=[]) :
  ∃ G',En G' s { dQ L bs with ev:=[] }∧Rel G'∧kS s L.b G G'∧pz (G.W (1 - s)) (wt G s L) (dQ L bs).ev (wt G' s (dQ L bs))∧(ak L bs).b=L.b∧∀ P,G'.U s P→G.U s P∨zW s P≤(ak L bs).k:=by
 obtain ⟨G1,h1,r1,g1,t1,b1⟩:=En.N9 (A:=wt G s L) hs bs G L h rel hc QC (by rw [J0];exact .nil _)
 have k1:=(sM bs L hk Fh).k.1
 have h2:En G1 s (iH (ak L bs) bs):=h1.re rfl rfl rfl rfl rfl rfl rfl
 obtain ⟨h3,t3⟩:=h2.quiet (W:=G.W (1 - s)) (A:=wt G s L) k1 t1
 exact ⟨G1,h3.re rfl rfl rfl rfl rfl rfl rfl,r1,g1,t3,b1,fun P hP=>(g1.un P hP).elim .inl fun z=>.inr ((h1.um P hP).2 (by rw [b1];exact z))⟩
end
end
end K31
namespace K31
open PySem L2 PyProof.Rows
section
variable {P:Program} {w:World} {K:PySem.W.Frag} {mg:Str→Option Value} {base:Heap} {t:Ad}
abbrev Ts:=List (Int × Int)
structure kT (ts:Ts):Prop where
 len:ts.length≤4
 at_:∀ q ∈ ts,(0≤q.1∧q.1 < 24)∧1≤q.2∧q.2≤96
 nd:(ts.map fun q=>q.1.toNat).Nodup
def oO (K:PySem.W.Frag) (H:Hp) (a:Addr) (ts:Ts):Prop:=∃ wq:Nat→Addr,bz K H a (bJ ts.length wq)∧∀ y q,ts[y]?=some q→bz K H (wq y) [.int q.1,.int q.2]
theorem oO.same {K:PySem.W.Frag} {H H':Hp} {a:Addr} {ts:Ts} (h:oO K H a ts) (s:aI H H'):oO K H' a ts:=by
 obtain ⟨wq,h1,h2⟩:=h
 exact ⟨wq,s.tup h1,fun y q e=>s.tup (h2 y q e)⟩
def EF (f:Nat→Int) (i:Nat) (v:Int):Nat→Int:=fun j=>if j=i then v else f j
def eI (f:Nat→Int) (ts:Ts):Nat→Int:=ts.foldl (fun f q=>EF f q.1.toNat ((f q.1.toNat+q.2) % 97)) f
theorem HY (f:Nat→Int) (ts:Ts) (q:Int × Int):eI f (ts ++ [q])=EF (eI f ts) q.1.toNat ((eI f ts q.1.toNat+q.2) % 97):=by unfold eI;rw [List.foldl_append];rfl
theorem wu:∀ (ts:Ts) (f:Nat→Int) (i:Nat),i ∉ (ts.map fun q=>q.1.toNat)→eI f ts i=f i
 | [],_,_,_=>rfl
 | q :: r,f,i,h=>by
  rw [List.map_cons,List.mem_cons,not_or] at h
  show eI (EF f q.1.toNat _) r i=f i
  rw [wu r _ i h.2]
  exact if_neg h.1
theorem F7:∀ (ts:Ts) (f:Nat→Int),(ts.map fun q=>q.1.toNat).Nodup→∀ q ∈ ts,eI f ts q.1.toNat=(f q.1.toNat+q.2) % 97
 | p :: r,f,nd,q,hq=>by
  rw [List.map_cons,List.nodup_cons] at nd
  show eI (EF f p.1.toNat _) r q.1.toNat=_
  rcases List.mem_cons.mp hq with rfl | hq
  ·rw [wu r _ _ nd.1]
   exact if_pos rfl
  ·rw [F7 r _ nd.2 q hq]
   have ne:q.1.toNat≠p.1.toNat:=fun z=>nd.1 (by rw [← z];exact List.mem_map.mpr ⟨q,hq,rfl⟩)
   unfold EF
   rw [if_neg ne]
theorem HZ {f:Nat→Int} {ts:Ts} (h:IsCell 24 f):IsCell 24 (eI f ts):=by
 suffices ∀ (ts:Ts) (f:Nat→Int),(∀ i,i < 24→0≤f i∧f i < 97)→∀ i,i < 24→0≤eI f ts i∧eI f ts i < 97 from ⟨this ts f h.b⟩
 intro ts
 induction ts with
 | nil=>intro f h;exact h
 | cons q r ih =>
  intro f h
  refine ih _ fun i hi=>?_
  show 0≤(if i=q.1.toNat then (f q.1.toNat+q.2) % 97 else f i)∧(if i=q.1.toNat then (f q.1.toNat+q.2) % 97 else f i) < 97
  split
  ·exact ⟨Int.emod_nonneg _ (by decide),Int.emod_lt_of_pos _ (by decide)⟩
  ·exact h i hi
theorem Mq {f:Nat→Int} {ts:Ts} (g:kT ts) (h:IsCell 24 f) {q:Int × Int} (hq:q ∈ ts):q.1.toNat < 24∧eI f ts q.1.toNat≠f q.1.toNat:=by
 obtain ⟨⟨a0,a1⟩,b0,b1⟩:=g.at_ q hq
 have hi:q.1.toNat < 24:=by omega
 have hb:=h.b _ hi
 refine ⟨hi,?_⟩
 rw [F7 ts f g.nd q hq]
 generalize f q.1.toNat=v at *
 intro z
 have:(v+q.2) % 97=v:=z
 omega
theorem CZ {f:Nat→Int} {ts:Ts} (g:kT ts) (h:IsCell 24 f):(My.fG 24 (eI f ts) f).length=ts.length:=by
 have e:ts.length=(ts.map fun q=>q.1.toNat).length:=by rw [List.length_map]
 apply Nat.le_antisymm
 ·rw [e]
  refine My.gU _ _ (My.gT _ _ _) fun i hi=>?_
  obtain ⟨h1,h2⟩:=My.cE.mp hi
  exact Classical.byContradiction fun z=>h2 (wu ts f i z)
 ·rw [e]
  refine My.gU _ _ g.nd fun i hi=>?_
  obtain ⟨q,hq,rfl⟩:=List.mem_map.mp hi
  obtain ⟨h1,h2⟩:=Mq g h hq
  exact My.cE.mpr ⟨h1,h2⟩
theorem Hi {f g h:Nat→Int}:(My.fG 24 f h).length≤(My.fG 24 g f).length+(My.fG 24 g h).length:=by
 have:=My.gU (My.fG 24 f h) (My.fG 24 g f ++ My.fG 24 g h) (My.gT _ _ _) fun i hi=>by
  obtain ⟨h1,h2⟩:=My.cE.mp hi
  by_cases e:g i=f i
  ·exact List.mem_append_right _ (My.cE.mpr ⟨h1,fun z=>h2 (by rw [← e,z])⟩)
  ·exact List.mem_append_left _ (My.cE.mpr ⟨h1,e⟩)
 rwa [List.length_append] at this
theorem Hj {f:Nat→Int} {ts:Ts} (g:kT ts) (h:IsCell 24 f) (hs:My.bq f) (h2:ts.length < 3):My.qS (eI f ts) f:=⟨h.b,hs,by rw [CZ g h];omega⟩
theorem Hk {f:Nat→Int} {ts:Ts} (g:kT ts) (h:IsCell 24 f) (hs:My.bq f) (h2:¬ ts.length < 3):∀ k,¬ My.qS (eI f ts) k:=by
 intro k m
 have d1:=CZ g h
 have d2:=Hi (f:=f) (g:=eI f ts) (h:=k)
 have d3:=m.xo
 have d4:=g.len
 have e:∀ i,i < 24→f i=k i:=My.N1 h.b m.b hs m.sealed (by omega)
 have d5:(My.fG 24 (eI f ts) f).length≤(My.fG 24 (eI f ts) k).length:=by
  refine My.gU _ _ (My.gT _ _ _) fun i hi=>?_
  obtain ⟨h1,h2⟩:=My.cE.mp hi
  exact My.cE.mpr ⟨h1,by rw [← e i h1];exact h2⟩
 omega
def nO:Sp:=fun vs H Q _=>∃ n:Int,vs=[.int n]∧0≤n∧∀ (a:Addr) (x y:Int),TC x y→H a=none→Q (.ref a) (upd H a (.tup [.int x,.int y]))
theorem vI:aQ ["number"] ["number"] (aH fq):=⟨rfl,rfl,rfl,by decide +kernel,rfl,by decide +kernel,by decide +kernel⟩
theorem vJ (F:aP K mg "_law_measure" fq):Def P w K mg base 1 "_law_measure" ["number"] nO:=by
 refine F.def vI (fun _ _ _ _ _ _ us hl=>match us,hl with | [_],_=>rfl) (fun vs H Q E h=>?_) (fun f bo A outer s H vs Q E hr h=>?_)
 ·obtain ⟨n,rfl,_⟩:=h
  rfl
 ·obtain ⟨n,rfl,n0,q⟩:=h
  refine ⟨_,aC (bD (aW jK (aN aw (pv 0) aF) aF (aj _))
    (aG (aV (bB (aA (aN bA aF (aN aw (aN cW (pv 0) aF) aF)) (aA (aN aw (aN cW (pv 0) aF) aF) aD)))))
    (af))
   (aG (aV (bB (aA (aN bA aF (aN aw (aN cW (pv 0) aF) aF)) (aA (aN aw (aN cW (pv 0) aF) aF) aD))))),?_⟩
  have d8:0≤n / 8:=Int.ediv_nonneg n0 (by decide)
  have d48:0≤n / 48:=Int.ediv_nonneg n0 (by decide)
  have d24:0≤n / 24:=Int.ediv_nonneg n0 (by decide)
  refine ⟨_,rfl,_,_,rfl,rfl,(by show (0:Int) < 8;decide),rfl,_,rfl,?_⟩
  by_cases h7:n % 8=7
  ·refine eN (by show V.int (n % 8)=V.int 7;rw [h7]) ?_
   refine ⟨_,rfl,_,_,rfl,rfl,⟨by decide,by decide⟩,_,_,rfl,rfl,(by show (0:Int) < 6;decide),_,_,rfl,rfl,_,rfl,_,_,rfl,rfl,⟨by decide,by decide⟩,_,_,rfl,rfl,(by show (0:Int) < 5;decide),by show 2≤sizeLine;decide,fun a ha=>?_⟩
   exact q a _ _ ⟨by omega,by omega⟩ ha
  ·refine dW (fun z=>h7 (V.int.inj z)) ?_
   refine ⟨_,rfl,_,_,rfl,rfl,⟨by decide,by decide⟩,_,_,rfl,rfl,(by show (0:Int) < 3;decide),_,_,rfl,rfl,_,rfl,_,_,rfl,rfl,⟨by decide,by decide⟩,_,_,rfl,rfl,(by show (0:Int) < 3;decide),by show 2≤sizeLine;decide,fun a ha=>?_⟩
   exact q a _ _ ⟨by omega,by omega⟩ ha
def gF (n:Int) (m:Nat):Ts:=(List.range m).map fun (k:Nat)=>(n / 7 % 21+(k:Int),1+(n / 11+31 * (k:Int)) % 96)
theorem qb {n:Int} {m:Nat} (n0:0≤n) (hm:m≤4):kT (gF n m):=by
 have d7:0≤n / 7:=Int.ediv_nonneg n0 (by decide)
 refine ⟨by unfold gF;rw [List.length_map,List.length_range];exact hm,fun q hq=>?_,?_⟩
 ·obtain ⟨k,hk,rfl⟩:=List.mem_map.mp hq
  rw [List.mem_range] at hk
  refine ⟨⟨?_,?_⟩,?_,?_⟩
  ·show 0≤n / 7 % 21+(k:Int);omega
  ·show n / 7 % 21+(k:Int) < 24;omega
  ·show 1≤1+(n / 11+31 * (k:Int)) % 96;omega
  ·show 1+(n / 11+31 * (k:Int)) % 96≤96;omega
 ·unfold gF
  rw [List.map_map]
  refine List.Pairwise.map _ (fun a b Gp z=>Gp ?_) List.nodup_range
  have z:(n / 7 % 21+(a:Int)).toNat=(n / 7 % 21+(b:Int)).toNat:=z
  omega
theorem EG (n:Int) (m:Nat):gF n (m+1)=gF n m ++ [(n / 7 % 21+(m:Int),1+(n / 11+31 * (m:Int)) % 96)]:=by unfold gF;rw [List.range_succ,List.map_append];rfl
theorem lY (n:Int) (m:Nat):(gF n m).length=m:=by unfold gF;rw [List.length_map,List.length_range]
def qK (K:PySem.W.Frag):Sp:=fun vs H Q _=>∃ (n:Int) (m:Nat),vs=[.int n,.int (m:Int)]∧0≤n∧m≤4∧∀ (a:Addr) (H':Hp),aI H H'→oO K H' a (gF n m)→Q (.ref a) H'
theorem yD:aQ ["number","many"] ["number","many"] (aH fu):=⟨rfl,rfl,rfl,by decide +kernel,rfl,by decide +kernel,by decide +kernel⟩
theorem yE (F:aP K mg "_law_turns" fu) (T:Txt K mg t):Def P w K mg base 1 "_law_turns" ["number","many"] (qK K):=by
 refine F.def yD (fun _ _ _ _ _ _ us hl=>match us,hl with | [_,_],_=>rfl) (fun vs H Q E h=>?_) (fun f bo A outer s H vs Q E hr h=>?_)
 ·obtain ⟨n,m,rfl,_⟩:=h
  rfl
 ·obtain ⟨n,m,rfl,n0,hm,q⟩:=h
  refine ⟨_,aG (aV (gO (BW K) (by rfl) T.MB boot_tuple (aA (lE rfl (Nc:=["k","number"]) (ix:=[none,some 0]) (dE (aH fu) ["number","many"] rfl rfl (by decide +kernel)) (cv (by rfl) T.df (aA (pv 1) aD)) (fun C fp s H=>⟨(az (i:=0) (show (["k","number"]:List Str).Nodup by decide +kernel) rfl (Or.inl rfl)),cX,(bB (aA (aN bA (aN aw (aN cW (pv 1) aF) aF) (pv 0)) (aA (aN bA aF (aN aw (aN bA (aN cW (pv 1) aF) (aN eJ aF (pv 0))) aF)) aD)))⟩)) aD))),?_⟩
  have hsz:(2000:Nat)≤sizeLine:=by decide
  refine ⟨_,rfl,(m:Int),rfl,by omega,by omega,fun D hD=>?_⟩
  rw [Int.toNat_natCast]
  refine lH (lo:=0) (n:=m) (fun i σ H'=>(∃ v,σ=[v,some (.int n)])∧aI H H'∧∃ wq:Nat→Addr,H' D=some (.lst (bJ i wq))∧∀ y q,(gF n i)[y]?=some q→H' (wq y)=some (.tup [.int q.1,.int q.2]))
   ⟨⟨none,rfl⟩,(aI.refl H).new hD,fun _=>0,aB,fun y q hq=>by cases hq⟩ ?_ ?_
  ·rintro i σ H' N hN hi ⟨⟨v,rfl⟩,s1,wq,e1,e2⟩
   rw [show (0:Int)+(i:Nat)=(i:Int) by omega]
   refine de ?_
   refine ⟨_,rfl,_,_,rfl,rfl,⟨by decide,by decide⟩,_,_,rfl,rfl,(by show (0:Int) < 21;decide),_,rfl,_,_,rfl,rfl,_,rfl,_,_,rfl,rfl,⟨by decide,by decide⟩,_,rfl,_,_,rfl,rfl,.inl ⟨by decide,by decide⟩,_,_,rfl,rfl,_,_,rfl,rfl,(by show (0:Int) < 96;decide),_,_,rfl,rfl,by show 2≤sizeLine;decide,fun p hp=>?_⟩
   have OA:D≠p:=aK e1 hp
   refine ⟨_,by rw [aE OA];exact e1,by rw [aL];omega,hN _ _ ⟨⟨_,rfl⟩,(s1.new hp).put hD,fun y=>if y=i then p else wq y,by rw [aB,dR],fun y q hq=>?_⟩⟩
   rw [EG] at hq
   by_cases z:y=i
   ·rw [z,List.getElem?_append_right (by rw [lY];exact Nat.le_refl _),lY,Nat.sub_self] at hq
    cases hq
    simp only [z,if_true]
    rw [aE (Ne.symm OA)]
    exact aB
   ·have hy:y < (gF n i ++ [(n / 7 % 21+(i:Int),1+(n / 11+31 * (i:Int)) % 96)]).length:=(List.getElem?_eq_some_iff.mp hq).1
    rw [List.length_append,lY] at hy
    have Pw:y < i:=by simp at hy;omega
    rw [List.getElem?_append_left (by rw [lY];exact Pw)] at hq
    have:=e2 y q hq
    simp only [z,if_false]
    rw [aE (fun w=>by rw [w,e1] at this;cases this),aE (aK this hp)]
    exact this
  ·rintro σ H' ⟨⟨v,rfl⟩,s1,wq,e1,e2⟩
   refine ⟨D,_,rfl,.inl ⟨aX.of e1,fun a ha=>?_⟩⟩
   have s2:=s1.new (o:=.tup (bJ m wq)) ha
   refine q a _ s2 ⟨wq,bz.of (by rw [lY];exact aB),fun y q hq=>bz.of ?_⟩
   have:=e2 y q hq
   rw [aE (aK this ha)]
   exact this
abbrev Ft:=List (Int × Ts)
structure zX (late:Int) (fs:Ft):Prop where
 len:fs.length≤3
 at_:∀ d ∈ fs,1≤d.1∧d.1≤late∧kT d.2
def yF (K:PySem.W.Frag) (H:Hp) (a:Addr) (fs:Ft):Prop:=∃ RH wq:Nat→Addr,bz K H a (bJ fs.length RH)∧∀ y d,fs[y]?=some d→bz K H (RH y) [.int d.1,.ref (wq y)]∧oO K H (wq y) d.2
theorem yF.same {K:PySem.W.Frag} {H H':Hp} {a:Addr} {fs:Ft} (h:yF K H a fs) (s:aI H H'):yF K H' a fs:=by
 obtain ⟨RH,wq,h1,h2⟩:=h
 exact ⟨RH,wq,s.tup h1,fun y d e=>⟨s.tup (h2 y d e).1,(h2 y d e).2.same s⟩⟩
theorem QD {K:PySem.W.Frag} {H:Hp} {a:Addr} (h:bz K H a []):oO K H a []:=⟨fun _=>0,h,fun y q e=>by cases e⟩
theorem dk:kT []:=⟨by decide,(fun q hq=>by cases hq),List.nodup_nil⟩
theorem KC {K:PySem.W.Frag} {H:Hp} {a:Addr} (h:bz K H a []):yF K H a []:=⟨fun _=>0,fun _=>0,h,fun y q e=>by cases e⟩
theorem Ab {K:PySem.W.Frag} {H:Hp} {a b c:Addr} {d:Int} {ts:Ts} (h:bz K H a [.ref b]) (hb:bz K H b [.int d,.ref c]) (hc:oO K H c ts):yF K H a [(d,ts)] :=
 ⟨fun _=>b,fun _=>c,h,fun y e he=>by
  cases y with
  | zero=>cases he;exact ⟨hb,hc⟩
  | succ y=>cases he⟩
theorem KD {K:PySem.W.Frag} {H:Hp} {a b c b' c':Addr} {d d':Int} {ts Tj:Ts} (h:bz K H a [.ref b,.ref b']) (hb:bz K H b [.int d,.ref c]) (hc:oO K H c ts) (SI:bz K H b' [.int d',.ref c']) (Qr:oO K H c' Tj):yF K H a [(d,ts),(d',Tj)] :=
 ⟨fun y=>if y=0 then b else b',fun y=>if y=0 then c else c',h,fun y e he=>by
  match y,he with
  | 0,he=>cases he;exact ⟨hb,hc⟩
  | 1,he=>cases he;exact ⟨SI,Qr⟩
  | y+2,he=>cases he⟩
theorem KE {K:PySem.W.Frag} {H:Hp} {a b c b' c' W7 W8:Addr} {d d' ZL:Int} {ts Tj Tn:Ts} (h:bz K H a [.ref b,.ref b',.ref W7]) (hb:bz K H b [.int d,.ref c]) (hc:oO K H c ts) (SI:bz K H b' [.int d',.ref c']) (Qr:oO K H c' Tj) (W9:bz K H W7 [.int ZL,.ref W8]) (XA:oO K H W8 Tn):yF K H a [(d,ts),(d',Tj),(ZL,Tn)] :=
 ⟨fun y=>if y=0 then b else if y=1 then b' else W7,fun y=>if y=0 then c else if y=1 then c' else W8,h,fun y e he=>by
  match y,he with
  | 0,he=>cases he;exact ⟨hb,hc⟩
  | 1,he=>cases he;exact ⟨SI,Qr⟩
  | 2,he=>cases he;exact ⟨W9,XA⟩
  | y+3,he=>cases he⟩
theorem iI {K:PySem.W.Frag} {H:Hp} {b c:Addr} {d:Int} (hc:H c=none) (hb:(upd H c (.tup [])) b=none):aI H (upd (upd H c (.tup [])) b (.tup [.int d,.ref c]))∧bz K (upd (upd H c (.tup [])) b (.tup [.int d,.ref c])) b [.int d,.ref c]∧oO K (upd (upd H c (.tup [])) b (.tup [.int d,.ref c])) c []:=by
 have s1:aI H (upd H c (.tup [])):=(aI.refl _).new hc
 have s2:aI (upd H c (.tup [])) (upd (upd H c (.tup [])) b (.tup [.int d,.ref c])):=(aI.refl _).new hb
 exact ⟨s1.trans s2,bz.of aB,QD (bz.of (s2 _ _ aB))⟩
theorem Ac {K:PySem.W.Frag} {H:Hp} {b c:Addr} {d:Int} {ts:Ts} (hc:oO K H c ts) (hb:H b=none):aI H (upd H b (.tup [.int d,.ref c]))∧bz K (upd H b (.tup [.int d,.ref c])) b [.int d,.ref c]∧oO K (upd H b (.tup [.int d,.ref c])) c ts:=by
 have s1:aI H (upd H b (.tup [.int d,.ref c])):=(aI.refl _).new hb
 exact ⟨s1,bz.of aB,hc.same s1⟩
def sN (K:PySem.W.Frag):Sp:=fun vs H Q _=>∃ n late:Int,vs=[.int n,.int late]∧0≤n∧1≤late∧late≤6∧∀ (a:Addr) (H':Hp) (fs:Ft),aI H H'→yF K H' a fs→zX late fs→Q (.ref a) H'
theorem i7:aQ ["number","late","delay","other","kind"] ["number","late"] (aH kA):=⟨rfl,rfl,rfl,by decide +kernel,rfl,by decide +kernel,by decide +kernel⟩
theorem Ae (F:aP K mg "_law_fate" kA) (T:Txt K mg t) (gG:Def P w K mg base 1 "_law_turns" ["number","many"] (qK K)):Def P w K mg base 2 "_law_fate" ["number","late"] (sN K):=by
 refine F.def i7 (fun _ _ _ _ _ _ us hl=>match us,hl with | [_,_],_=>rfl) (fun vs H Q E h=>?_) (fun f bo A outer s H vs Q E hr h=>?_)
 ·obtain ⟨n,late,rfl,_⟩:=h
  rfl
 ·obtain ⟨n,late,rfl,n0,l0,l1,q⟩:=h
  refine ⟨_,aC (aT (i:=2) i7.nd rfl (Or.inl rfl) (aN bA aF (aN aw (aN cW (pv 0) aF) (pv 1))))
   (aC (aT (i:=3) i7.nd rfl (Or.inl rfl) (aN bA aF (aN aw (aN cW (pv 0) aF) (pv 1))))
   (aC (aT (i:=4) i7.nd rfl (Or.inl rfl) (aN aw (pv 0) aF))
   (aC (bD (aW jy (pv 4) aF (aj _))
    (aG (aV (bB (aA (bB (aA aF (aA (bB aD) aD))) aD))))
    (af))
   (aC (bD (aW jy (pv 4) aF (aj _))
    (aG (aV (bB aD)))
    (af))
   (aC (bD (aW jy (pv 4) aF (aj _))
    (aG (aV (bB (aA (bB (aA (pv 2) (aA (bB aD) aD))) aD))))
    (af))
   (aC (bD (aW jy (pv 4) aF (aj _))
    (aG (aV (bB (aA (bB (aA (pv 2) (aA (bB aD) aD))) (aA (bB (aA (pv 3) (aA (bB aD) aD))) aD)))))
    (af))
   (aC (bD (aW jK (pv 4) aF (aj _))
    (aG (aV (bB (aA (bB (aA (pv 2) (aA (aZ (gG.mono (by decide)) hr ar (aA (pv 0) (aA aF aD))) aD))) (aA (bB (aA (pv 3) (aA (bB aD) aD))) (aA (bB (aA (pv 2) (aA (bB aD) aD))) aD))))))
    (af))
   (aC (bD (aW jy (pv 4) aF (aj _))
    (aG (aV (bB (aA (bB (aA (pv 2) (aA (aZ (gG.mono (by decide)) hr ar (aA (pv 0) (aA (aN bA aF (aN aw (aN cW (pv 0) aF) aF)) aD))) aD))) aD))))
    (af))
   (aG (aV (bB (aA (bB (aA (pv 2) (aA (aZ (gG.mono (by decide)) hr ar (aA (pv 0) (aA (aN bA aF (aN aw (aN cW (pv 0) aF) aF)) aD))) aD))) aD)))))))))))),?_⟩
  have d16:0≤n / 16:=Int.ediv_nonneg n0 (by decide)
  have lp:0 < late:=by omega
  refine ⟨_,rfl,_,_,rfl,rfl,⟨by decide,by decide⟩,_,rfl,_,_,rfl,rfl,lp,_,_,rfl,rfl,?_⟩
  refine ⟨_,rfl,_,_,rfl,rfl,⟨by decide,by decide⟩,_,rfl,_,_,rfl,rfl,lp,_,_,rfl,rfl,?_⟩
  have b1:1≤(1+n / 16 % late)∧(1+n / 16 % late)≤late:=by
   have:=Int.emod_nonneg (n / 16) (show late≠0 by omega)
   have:=Int.emod_lt_of_pos (n / 16) lp
   omega
  have b2:1≤(1+n / 100 % late)∧(1+n / 100 % late)≤late:=by
   have:=Int.emod_nonneg (n / 100) (show late≠0 by omega)
   have:=Int.emod_lt_of_pos (n / 100) lp
   omega
  refine ⟨_,rfl,_,_,rfl,rfl,(by show (0:Int) < 16;decide),?_⟩
  have one:∀ {d:Int} {ts:Ts},(1≤d∧d≤late)→kT ts→zX late [(d,ts)]:=fun {d ts} hd g=>⟨by show 1≤3;decide,fun x hx=>by rw [List.mem_singleton.mp hx];exact ⟨hd.1,hd.2,g⟩⟩
  have m16:0≤n % 16∧n % 16 < 16:=⟨Int.emod_nonneg _ (by decide),Int.emod_lt_of_pos _ (by decide)⟩
  refine ⟨_,rfl,_,_,rfl,rfl,_,rfl,?_⟩
  by_cases w1:(n % 16) < 5
  ·refine eN w1 ?_
   refine ⟨by show 0≤sizeLine;decide,fun c hc=>⟨by show 2≤sizeLine;decide,fun b hb=>⟨by show 1≤sizeLine;decide,fun a ha=>?_⟩⟩⟩
   obtain ⟨s1,g1,g2⟩:=iI (K:=K) (d:=1) hc hb
   have s2:=(aI.refl _).new (o:=.tup [.ref b]) ha
   exact q a _ [(1,[])] (s1.trans s2) (Ab (bz.of aB) (s2.tup g1) (g2.same s2)) (one ⟨by decide,l0⟩ dk)
  refine dW w1 ?_
  refine ⟨_,rfl,_,_,rfl,rfl,_,rfl,?_⟩
  by_cases w2:(n % 16) < 8
  ·refine eN w2 ?_
   refine ⟨by show 0≤sizeLine;decide,fun a ha=>?_⟩
   exact q a _ [] ((aI.refl _).new ha) (KC (bz.of aB)) ⟨by decide,fun d hd=>by cases hd⟩
  refine dW w2 ?_
  refine ⟨_,rfl,_,_,rfl,rfl,_,rfl,?_⟩
  by_cases w3:(n % 16) < 10
  ·refine eN w3 ?_
   refine ⟨_,rfl,by show 0≤sizeLine;decide,fun c hc=>⟨by show 2≤sizeLine;decide,fun b hb=>⟨by show 1≤sizeLine;decide,fun a ha=>?_⟩⟩⟩
   obtain ⟨s1,g1,g2⟩:=iI (K:=K) (d:=(1+n / 16 % late)) hc hb
   have s2:=(aI.refl _).new (o:=.tup [.ref b]) ha
   exact q a _ [((1+n / 16 % late),[])] (s1.trans s2) (Ab (bz.of aB) (s2.tup g1) (g2.same s2)) (one b1 dk)
  refine dW w3 ?_
  refine ⟨_,rfl,_,_,rfl,rfl,_,rfl,?_⟩
  by_cases w4:(n % 16) < 12
  ·refine eN w4 ?_
   refine ⟨_,rfl,by show 0≤sizeLine;decide,fun c hc=>⟨by show 2≤sizeLine;decide,fun b hb=>?_⟩⟩
   obtain ⟨s1,g1,g2⟩:=iI (K:=K) (d:=(1+n / 16 % late)) hc hb
   refine ⟨_,rfl,by show 0≤sizeLine;decide,fun c2 Nn=>⟨by show 2≤sizeLine;decide,fun XB C0=>?_⟩⟩
   obtain ⟨s2,k1,k2⟩:=iI (K:=K) (d:=(1+n / 100 % late)) Nn C0
   refine ⟨by show 2≤sizeLine;decide,fun a ha=>?_⟩
   have s3:=(aI.refl _).new (o:=.tup [.ref b,.ref XB]) ha
   have QE:=s2.trans s3
   refine q a _ [((1+n / 16 % late),[]),((1+n / 100 % late),[])] (s1.trans QE) (KD (bz.of aB) (QE.tup g1) (g2.same QE) (s3.tup k1) (k2.same s3)) ⟨by show 2≤3;decide,fun d hd=>?_⟩
   rcases List.mem_cons.mp hd with rfl | hd
   ·exact ⟨b1.1,b1.2,dk⟩
   ·rw [List.mem_singleton.mp hd];exact ⟨b2.1,b2.2,dk⟩
  refine dW w4 ?_
  refine ⟨_,rfl,rfl,_,rfl,?_⟩
  by_cases w5:(n % 16)=12
  ·refine eN (by show V.int (n % 16)=V.int 12;rw [w5]) ?_
   refine ⟨_,rfl,_,rfl,n,3,rfl,n0,by decide,fun c H0 s0 hc=>⟨by show 2≤sizeLine;decide,fun b hb=>?_⟩⟩
   obtain ⟨s1,g1,g2⟩:=Ac (d:=(1+n / 16 % late)) hc hb
   refine ⟨_,rfl,by show 0≤sizeLine;decide,fun c2 Nn=>⟨by show 2≤sizeLine;decide,fun XB C0=>?_⟩⟩
   obtain ⟨s2,k1,k2⟩:=iI (K:=K) (d:=(1+n / 100 % late)) Nn C0
   refine ⟨_,rfl,by show 0≤sizeLine;decide,fun c3 hc3=>⟨by show 2≤sizeLine;decide,fun b3 Wy=>?_⟩⟩
   obtain ⟨s3,j1,j2⟩:=iI (K:=K) (d:=(1+n / 16 % late)) hc3 Wy
   refine ⟨by show 3≤sizeLine;decide,fun a ha=>?_⟩
   have s4:=(aI.refl _).new (o:=.tup [.ref b,.ref XB,.ref b3]) ha
   have XC:=s3.trans s4
   have XD:=s2.trans XC
   refine q a _ [((1+n / 16 % late),gF n 3),((1+n / 100 % late),[]),((1+n / 16 % late),[])] ((s0.trans s1).trans XD) (KE (bz.of aB) (XD.tup g1) (g2.same XD) (XC.tup k1) (k2.same XC) (s4.tup j1) (j2.same s4)) ⟨by show 3≤3;decide,fun d hd=>?_⟩
   rcases List.mem_cons.mp hd with rfl | hd
   ·exact ⟨b1.1,b1.2,qb n0 (by decide)⟩
   ·rcases List.mem_cons.mp hd with rfl | hd
    ·exact ⟨b2.1,b2.2,dk⟩
    ·rw [List.mem_singleton.mp hd];exact ⟨b1.1,b1.2,dk⟩
  refine dW (fun z=>w5 (V.int.inj z)) ?_
  have h2:0≤n / 16 % 2∧n / 16 % 2 < 2:=⟨Int.emod_nonneg _ (by decide),Int.emod_lt_of_pos _ (by decide)⟩
  refine ⟨_,rfl,_,_,rfl,rfl,_,rfl,?_⟩
  by_cases w6:(n % 16) < 15
  ·refine eN w6 ?_
   refine ⟨_,rfl,_,rfl,_,rfl,_,_,rfl,rfl,⟨by decide,by decide⟩,_,_,rfl,rfl,(by show (0:Int) < 2;decide),_,_,rfl,rfl,n,(1+n / 16 % 2).toNat,?_,n0,by omega,fun c H0 s0 hc=>⟨by show 2≤sizeLine;decide,fun b hb=>⟨by show 1≤sizeLine;decide,fun a ha=>?_⟩⟩⟩
   ·show [V.int n,V.int (1+n / 16 % 2)]=_
    rw [Int.toNat_of_nonneg (by omega)]
   obtain ⟨s1,g1,g2⟩:=Ac (d:=(1+n / 16 % late)) hc hb
   have s2:=(aI.refl _).new (o:=.tup [.ref b]) ha
   exact q a _ [((1+n / 16 % late),gF n (1+n / 16 % 2).toNat)] ((s0.trans s1).trans s2) (Ab (bz.of aB) (s2.tup g1) (g2.same s2)) (one b1 (qb n0 (by omega)))
  ·refine dW w6 ?_
   refine ⟨_,rfl,_,rfl,_,rfl,_,_,rfl,rfl,⟨by decide,by decide⟩,_,_,rfl,rfl,(by show (0:Int) < 2;decide),_,_,rfl,rfl,n,(3+n / 16 % 2).toNat,?_,n0,by omega,fun c H0 s0 hc=>⟨by show 2≤sizeLine;decide,fun b hb=>⟨by show 1≤sizeLine;decide,fun a ha=>?_⟩⟩⟩
   ·show [V.int n,V.int (3+n / 16 % 2)]=_
    rw [Int.toNat_of_nonneg (by omega)]
   obtain ⟨s1,g1,g2⟩:=Ac (d:=(1+n / 16 % late)) hc hb
   have s2:=(aI.refl _).new (o:=.tup [.ref b]) ha
   exact q a _ [((1+n / 16 % late),gF n (3+n / 16 % 2).toNat)] ((s0.trans s1).trans s2) (Ab (bz.of aB) (s2.tup g1) (g2.same s2)) (one b1 (qb n0 (by omega)))
end
end K31
namespace K31
open PySem L2 PyProof.Rows
section
variable {P:Program} {w:World} {K:PySem.W.Frag} {mg:Str→Option Value} {base:Heap} {t:Ad}
def oP (K:PySem.W.Frag):Sp:=fun vs H Q _=>∃ (l a:Addr) (f:Nat→Int) (ts:Ts),vs=[.ref l,.ref a]∧aX K H l (tabI 24 f)∧oO K H a ts∧kT ts∧∀ (p:Addr) (H':Hp),aI H H'→H p=none→H' p=some (.lst (tabI 24 (eI f ts)))→Q (.ref p) H'
theorem Mr {n:Nat} {f:Nat→Int} {i:Int} (h0:0≤i) (h1:i < n):xg (tabI n f) i=some (V.int (f i.toNat)):=dF (f:=fun j=>V.int (f j)) h0 h1
theorem Ms {n:Nat} {f:Nat→Int} {i:Int} (h0:0≤i) (h1:i < n):GW (tabI n f).length i=some i.toNat:=by
 unfold GW
 rw [aL,if_pos h0,if_pos h1]
theorem KG {n i:Nat} {f:Nat→Int} {v:Int} (h:i < n):(tabI n f).set i (V.int v)=tabI n (EF f i v):=by
 refine (rZ (f:=fun j=>V.int (f j)) h).trans (bW fun j _=>?_)
 unfold EF
 by_cases z:j=i
 ·rw [if_pos z,if_pos z]
 ·rw [if_neg z,if_neg z]
theorem jW:aQ ["cell","turns","made","place","add"] ["cell","turns"] (aH h8):=⟨rfl,rfl,rfl,by decide +kernel,rfl,by decide +kernel,by decide +kernel⟩
theorem wx (F:aP K mg "_law_turned" h8) (T:Txt K mg t):Def P w K mg base 1 "_law_turned" ["cell","turns"] (oP K):=by
 refine F.def jW (fun _ _ _ _ _ _ us hl=>match us,hl with | [_,_],_=>rfl) (fun vs H Q E h=>?_) (fun f bo A outer s H vs Q E hr h=>?_)
 ·obtain ⟨l,a,f,ts,rfl,_⟩:=h
  rfl
 ·obtain ⟨l,a,f,ts,rfl,hl,⟨wq,hA,ht⟩,g,q⟩:=h
  refine ⟨_,aC (aT (i:=2) jW.nd rfl (Or.inl rfl) (gO (gP K) (by rfl) T.qT boot_list (aA (pv 0) aD)))
   (aC (PS.uX (dC PassesOwn.never rfl (FZ K (pv 1)) (pQ K (i:=3) (j:=4) rfl jW.nd rfl rfl (Or.inl rfl) (Or.inl rfl))
    (aG (nZ (aN aw (aN bA (aR (aM K) (pv 2) (pv 3) (fun _ _=>rfl)) (pv 4)) aF) (nY (pv 2) (pv 3) set_list)))))
   (aG (aV (pv 2)))),?_⟩
  refine ⟨_,rfl,l,_,rfl,.inl hl,fun r hr=>?_⟩
  have s1:=(aI.refl H).new (o:=.lst (tabI 24 f)) hr
  refine ⟨_,rfl,a,rfl,⟨_,s1.tup hA⟩,?_⟩
  refine E9 (K:=K) (a:=a) (xs:=bJ ts.length wq) (fun i σ H'=>∃ v3 v4:Option V,σ=[some (.ref l),some (.ref a),some (.ref r),v3,v4]∧aI H H'∧H' r=some (.lst (tabI 24 (eI f (ts.take i))))) ⟨none,none,rfl,s1,aB⟩ (fun i σ H' _ ⟨_,_,_,s2,_⟩=>s2.tup hA) ?_ ?_
  ·rintro i x σ H' hx ⟨v3,v4,rfl,s2,K6⟩
   obtain ⟨hi,rfl⟩:=tab_of hx
   have e:ts[i]?=some ts[i]:=by simp [hi]
   generalize ts[i]=c at e
   obtain ⟨⟨p0,p1⟩,_⟩:=g.at_ c (List.mem_of_getElem? e)
   refine vt (s2.tup (ht i c e)) ?_
   refine ⟨_,rfl,_,rfl,r,_,_,_,rfl,rfl,aX.of K6,Mr p0 (by omega),_,rfl,_,_,rfl,rfl,_,_,rfl,rfl,(by show (0:Int) < 97;decide),?_⟩
   refine ⟨_,rfl,_,rfl,r,_,_,_,rfl,rfl,K6,Ms p0 (by omega),?_⟩
   refine ⟨_,_,rfl,s2.put hr,?_⟩
   rw [aB,take_succ e,HY]
   exact congrArg (fun z=>some (HO.lst z)) (KG (by omega))
  ·rintro σ H' ⟨v3,v4,rfl,s2,K6⟩
   rw [aL,List.take_length] at K6
   exact ⟨_,rfl,q r H' s2 hr K6⟩
structure Rw where
 f:Nat→Int
 rd:Bool
 b:Cl
structure EH (r:Rw):Prop where
 c:IsCell 24 r.f
 m:J6 r.f (if r.rd=true then some r.b else none)
 g:jV r.b
abbrev A4:=Hp→V→Cl→Prop
def KH (Bv:A4) (B:Hp) (a:Addr) (r:Rw):Prop:=∃ (c:Addr) (v:V),B a=some (.tup [.ref c,.bl r.rd,v])∧B c=some (.lst (tabI 24 r.f))∧Bv B v r.b∧EH r
def fX (Bv:A4):Prop:=∀ B B' v b,aI B B'→Bv B v b→Bv B' v b
theorem KH.same {Bv:A4} (mb:fX Bv) {B B':Hp} {a:Addr} {r:Rw} (h:KH Bv B a r) (s:aI B B'):KH Bv B' a r:=by
 obtain ⟨c,v,h1,h2,h3,h4⟩:=h
 exact ⟨c,v,s _ _ h1,s _ _ h2,mb _ _ _ _ s h3,h4⟩
structure Slot (Bv:A4) (B H:Hp) (a:Addr) (rs:List Rw):Prop where
 no:B a=none
 at_:∃ F8:Nat→Addr,H a=some (.lst (bJ rs.length F8))∧∀ y r,rs[y]?=some r→KH Bv B (F8 y) r
theorem Slot.keep {Bv:A4} (mb:fX Bv) {B B' H H':Hp} {a:Addr} {rs:List Rw} (h:Slot Bv B H a rs) (s:aI B B') (n:B' a=none) (e:H' a=H a):Slot Bv B' H' a rs:=by
 obtain ⟨F8,h1,h2⟩:=h.at_
 exact ⟨n,F8,e.trans h1,fun y r hr=>(h2 y r hr).same mb s⟩
structure Cg (Bv:A4) (B H:Hp) (d:Addr) (sl:Nat→Addr) (n:Nat) (rows:Nat→List Rw):Prop where
 dl:B d=some (.lst (bJ n sl))
 inj:∀ i j,i < n→j < n→sl i=sl j→i=j
 at_:∀ j,j < n→Slot Bv B H (sl j) (rows j)
def iU (b:Cl) (ts:Ts):Rw:=⟨eI (ay b) ts,decide (ts.length < 3),b⟩
def Ca (rows:Nat→List Rw) (k:Nat) (r:Rw):Nat→List Rw:=fun j=>if j=k then rows j ++ [r] else rows j
def oQ (rows:Nat→List Rw) (tick:Nat) (b:Cl) (fs:Ft):Nat→List Rw:=fs.foldl (fun rs d=>Ca rs (tick+d.1.toNat) (iU b d.2)) rows
theorem Hl (rows:Nat→List Rw) (tick:Nat) (b:Cl) (fs:Ft) (d:Int × Ts):oQ rows tick b (fs ++ [d])=Ca (oQ rows tick b fs) (tick+d.1.toNat) (iU b d.2):=by unfold oQ;rw [List.foldl_append];rfl
theorem KI {b:Cl} {ts:Ts} (h1:jV b) (g:kT ts) (hs:My.bq (ay b)):EH (iU b ts):=by
 have c:=CQ h1
 refine ⟨HZ c,?_,h1⟩
 show J6 (eI (ay b) ts) (if decide (ts.length < 3)=true then some b else none)
 by_cases z:ts.length < 3
 ·rw [decide_eq_true z,if_pos rfl]
  exact ⟨h1,Hj g c hs z⟩
 ·rw [decide_eq_false z,if_neg (by decide)]
  exact Hk g c hs z
structure Gv (B H B' H':Hp) (sl:Nat→Addr) (n:Nat):Prop where
 bb:aI B B'
 bh:aI B' H'
 no:∀ m,H m≠none→B m=none→B' m=none
 fr:∀ m o,(∀ j,j < n→m≠sl j)→H m=some o→H' m=some o
 g:∀ m,H' m=none→H m=none
theorem Gv.refl {B H:Hp} {sl:Nat→Addr} {n:Nat} (s:aI B H):Gv B H B H sl n:=⟨aI.refl _,s,fun _ _ h=>h,fun _ _ _ h=>h,fun _ h=>h⟩
theorem Gv.trans {B H B1 H1 B2 H2:Hp} {sl:Nat→Addr} {n:Nat} (a:Gv B H B1 H1 sl n) (b:Gv B1 H1 B2 H2 sl n):Gv B H B2 H2 sl n :=
 ⟨a.bb.trans b.bb,b.bh,fun m h1 h2=>b.no m (fun z=>h1 (a.g m z)) (a.no m h1 h2),fun m o h e=>b.fr m o h (a.fr m o h e),fun m h=>a.g m (b.g m h)⟩
end
end K31
namespace K31
open PySem L2 PyProof.Rows
section
variable {P:Program} {w:World} {K:PySem.W.Frag} {mg:Str→Option Value} {base:Heap} {t:Ad}
theorem Slot.val {Bv:A4} {B H:Hp} {a:Addr} {rs:List Rw} (h:Slot Bv B H a rs):H a≠none:=by obtain ⟨_,g,_⟩:=h.at_;rw [g];exact fun z=>by cases z
theorem Cg.step {Bv:A4} (mb:fX Bv) {B H H2:Hp} {d p r:Addr} {sl:Nat→Addr} {n k:Nat} {rows:Nat→List Rw} {v3:V} {rw':Rw} {F8:Nat→Addr} (c:Cg Bv B H d sl n rows) (sb:aI B H) (hk:k < n) (s2:aI H H2) (np:H p=none) (ep:H2 p=some (.lst (tabI 24 rw'.f))) (nr:H2 r=none)
  (g:EH rw') (hv:Bv B v3 rw'.b) (e1:H (sl k)=some (.lst (bJ (rows k).length F8))) (e2:∀ y x,(rows k)[y]?=some x→KH Bv B (F8 y) x) :
  Gv B H (upd (upd B p (.lst (tabI 24 rw'.f))) r (.tup [.ref p,.bl rw'.rd,v3])) (upd (upd H2 r (.tup [.ref p,.bl rw'.rd,v3])) (sl k) (.lst (bJ (rows k).length F8 ++ [.ref r]))) sl n ∧
  Cg Bv (upd (upd B p (.lst (tabI 24 rw'.f))) r (.tup [.ref p,.bl rw'.rd,v3])) (upd (upd H2 r (.tup [.ref p,.bl rw'.rd,v3])) (sl k) (.lst (bJ (rows k).length F8 ++ [.ref r]))) d sl n (Ca rows k rw'):=by
 have To:H r=none:=s2.free nr
 have XE:p≠r:=fun z=>by rw [z,nr] at ep;cases ep
 have bp:B p=none:=sb.free np
 have br:B r=none:=sb.free To
 have sB1:aI B (upd B p (.lst (tabI 24 rw'.f))):=(aI.refl _).new bp
 have sB:aI B (upd (upd B p (.lst (tabI 24 rw'.f))) r (.tup [.ref p,.bl rw'.rd,v3])):=sB1.new (by rw [aE (Ne.symm XE)];exact br)
 have slk:H (sl k)≠none:=(c.at_ k hk).val
 have XF:∀ j,j < n→sl j≠r:=fun j hj z=>(c.at_ j hj).val (by rw [z];exact To)
 have ZM:∀ j,j < n→sl j≠p:=fun j hj z=>(c.at_ j hj).val (by rw [z];exact np)
 have ZN:∀ j,j < n→(upd (upd B p (.lst (tabI 24 rw'.f))) r (.tup [.ref p,.bl rw'.rd,v3])) (sl j)=none:=fun j hj=>by rw [aE (XF j hj),aE (ZM j hj)];exact (c.at_ j hj).no
 refine ⟨⟨sB,?_,?_,?_,?_⟩,⟨sB _ _ c.dl,c.inj,fun j hj=>?_⟩⟩
 ·intro m o e
  by_cases z1:m=r
  ·rw [z1] at e ⊢
   rw [aB] at e
   rw [aE (Ne.symm (XF k hk)),aB];exact e
  ·rw [aE z1] at e
   by_cases z2:m=p
   ·rw [z2] at e ⊢
    rw [aB] at e
    rw [aE (Ne.symm (ZM k hk)),aE XE,ep];exact e
   ·rw [aE z2] at e
    rw [aE (fun z=>by rw [z,(c.at_ k hk).no] at e;cases e),aE z1]
    exact s2 _ _ (sb _ _ e)
 ·intro m h1 h2
  rw [aE (fun z=>h1 (by rw [z];exact To)),aE (fun z=>h1 (by rw [z];exact np))];exact h2
 ·intro m o h e
  rw [aE (h k hk),aE (fun z=>by rw [z,To] at e;cases e)]
  exact s2 _ _ e
 ·intro m h
  by_cases z1:m=sl k
  ·rw [z1,aB] at h;cases h
  ·rw [aE z1] at h
   by_cases z2:m=r
   ·rw [z2];exact To
   ·rw [aE z2] at h
    exact s2.free h
 ·by_cases z:j=k
  ·subst z
   refine ⟨ZN j hj,fun y=>if y=(rows j).length then r else F8 y,?_,fun y x hx=>?_⟩
   ·rw [aB,dR]
    show _=some (HO.lst (bJ (if j=j then rows j ++ [rw'] else rows j).length _))
    rw [if_pos rfl,List.length_append]
    rfl
   ·have hx:(if j=j then rows j ++ [rw'] else rows j)[y]?=some x:=hx
    rw [if_pos rfl] at hx
    by_cases zy:y=(rows j).length
    ·rw [zy,List.getElem?_append_right (Nat.le_refl _),Nat.sub_self] at hx
     cases hx
     simp only [zy,if_true]
     exact ⟨p,v3,aB,by rw [aE XE];exact aB,mb _ _ _ _ sB hv,g⟩
    ·have hy:y < (rows j ++ [rw']).length:=(List.getElem?_eq_some_iff.mp hx).1
     rw [List.length_append] at hy
     have Pw:y < (rows j).length:=by simp at hy;omega
     rw [List.getElem?_append_left Pw] at hx
     simp only [zy,if_false]
     exact (e2 y x hx).same mb sB
  ·show Slot Bv _ _ (sl j) (if j=k then _ else rows j)
   rw [if_neg z]
   have ne:sl j≠sl k:=fun w=>z (c.inj j k hj hk w)
   obtain ⟨rj,g1,g2⟩:=(c.at_ j hj).at_
   exact (c.at_ j hj).keep mb sB (ZN j hj) (by rw [aE ne,aE (XF j hj),s2 _ _ g1,g1])
def sO (K:PySem.W.Frag) (Bv:A4):Sp:=fun vs H Q _=>∃ (B:Hp) (d l fA:Addr) (tick:Nat) (v3:V) (sl:Nat→Addr) (n:Nat) (rows:Nat→List Rw) (b:Cl) (fs:Ft) (late:Int),vs=[.ref d,.ref l,.ref fA,.int (tick:Int),v3]∧aI B H∧Cg Bv B H d sl n rows ∧
 H l=some (.lst (tabI 24 (ay b)))∧jV b∧Bv B v3 b∧yF K H fA fs∧zX late fs∧late≤6∧tick+6 < n∧(∀ j,j < n→(rows j).length≤100000)∧(∀ j,j < n→l≠sl j) ∧
 ∀ B' H',Gv B H B' H' sl n→Cg Bv B' H' d sl n (oQ rows tick b fs)→Q .bN H'
theorem Af {K:PySem.W.Frag} {H H':Hp} {a:Addr} {xs:List V} {sl:Nat→Addr} {n:Nat} (fr:∀ m o,(∀ j,j < n→m≠sl j)→H m=some o→H' m=some o) (ls:∀ j,j < n→∃ ys,H (sl j)=some (.lst ys)) (h:bz K H a xs):bz K H' a xs:=by
 rcases h with (h | ⟨u,h⟩) | h
 ·exact .inl (.inl (fr a _ (fun j hj z=>by obtain ⟨ys,e⟩:=ls j hj;rw [z,e] at h;cases h) h))
 ·exact .inl (.inr ⟨u,fr a _ (fun j hj z=>by obtain ⟨ys,e⟩:=ls j hj;rw [z,e] at h;cases h) h⟩)
 ·exact .inr h
theorem Cb {rows:Nat→List Rw} {tick:Nat} {b:Cl}:∀ (fs:Ft) (j:Nat),(oQ rows tick b fs j).length≤(rows j).length+fs.length:=by
 intro fs
 induction fs generalizing rows with
 | nil=>intro j;exact Nat.le_refl _
 | cons d r ih =>
  intro j
  have:=ih (rows:=Ca rows (tick+d.1.toNat) (iU b d.2)) j
  have h2:(Ca rows (tick+d.1.toNat) (iU b d.2) j).length≤(rows j).length+1:=by
   unfold Ca
   split
   ·rw [List.length_append];exact Nat.le_refl _
   ·exact Nat.le_succ _
  show (oQ (Ca rows (tick+d.1.toNat) (iU b d.2)) tick b r j).length≤_
  rw [List.length_cons]
  omega
theorem sP:aQ ["coming","cell","fate","tick","births","delay","turns"] ["coming","cell","fate","tick","births"] (aH kB):=⟨rfl,rfl,rfl,by decide +kernel,rfl,by decide +kernel,by decide +kernel⟩
theorem Ag {Bv:A4} (mb:fX Bv) (F:aP K mg "_law_give" kB) (T:Txt K mg t) (kU:Def P w K mg base 1 "_law_turned" ["cell","turns"] (oP K)):Def P w K mg base 2 "_law_give" ["coming","cell","fate","tick","births"] (sO K Bv):=by
 refine F.def sP (fun _ _ _ _ _ _ us hl=>match us,hl with | [_,_,_,_,_],_=>rfl) (fun vs H Q E h=>?_) (fun f bo A outer s H vs Q E hr h=>?_)
 ·obtain ⟨B,d,l,fA,tick,v3,sl,n,rows,b,fs,late,rfl,_⟩:=h
  rfl
 ·obtain ⟨B,d,l,fA,tick,v3,sl,n,rows,b,fs,late,rfl,sb,cg,hl,Q4,hv,hf,gf,l6,ht,P9,nl,q⟩:=h
  refine ⟨_,aG (PS.uX (dC PassesOwn.never rfl (FZ K (pv 2)) (pQ K (i:=5) (j:=6) rfl sP.nd rfl rfl (Or.inl rfl) (Or.inl rfl))
    (aG (ax (jL K PySem.F.plainAttrs_list PySem.F.slot_list_append PySem.F.type_list_append cP (aR (aM K) (pv 0) (aN bA (pv 3) (pv 5)) (fun _ _=>rfl)) (aA (bB (aA (aZ (kU.mono (by decide)) hr ar (aA (pv 1) (aA (pv 6) aD))) (aA (pN jy (bP (bQ K) (by rfl) T.iD boot_len (aA (pv 6) aD)) aF (aj _)) (aA (pv 4) aD)))) aD)))))),?_⟩
  have hsz:(1000001:Nat)≤sizeLine:=by decide
  obtain ⟨RH,wq,h1,h2⟩:=hf
  have hs:My.bq (ay b):=My.AB _
  have ls:∀ j,j < n→∃ ys,H (sl j)=some (.lst ys):=fun j hj=>by obtain ⟨_,g,_⟩:=(cg.at_ j hj).at_;exact ⟨_,g⟩
  refine ⟨_,rfl,fA,rfl,⟨_,h1⟩,?_⟩
  refine E9 (K:=K) (a:=fA) (xs:=bJ fs.length RH) (fun i σ H'=>∃ (B':Hp) (v5 v6:Option V),σ=[some (.ref d),some (.ref l),some (.ref fA),some (.int (tick:Int)),some v3,v5,v6]∧Gv B H B' H' sl n∧Cg Bv B' H' d sl n (oQ rows tick b (fs.take i)))
   ⟨B,none,none,rfl,Gv.refl sb,cg⟩ (fun i σ H' _ ⟨_,_,_,_,g,_⟩=>Af g.fr ls h1) ?_ ?_
  ·rintro i x σ H1 hx ⟨B1,v5,v6,rfl,g1,c1⟩
   obtain ⟨hi,rfl⟩:=tab_of hx
   have e:fs[i]?=some fs[i]:=by simp [hi]
   generalize fs[i]=dd at e
   obtain ⟨d1,d2,d3⟩:=gf.at_ dd (List.mem_of_getElem? e)
   obtain ⟨k1,XG,k2,k3⟩:=h2 i dd e
   have ZO:oO K H1 (wq i) dd.2:=⟨XG,Af g1.fr ls k2,fun y q hq=>Af g1.fr ls (k3 y q hq)⟩
   refine vt (Af g1.fr ls k1) ?_
   have VG:tick+dd.1.toNat < n:=by omega
   obtain ⟨F8,r1,r2⟩:=(c1.at_ _ VG).at_
   have XH:H1 l=some (.lst (tabI 24 (ay b))):=g1.fr l _ nl hl
   have XI:xg (bJ n sl) ((tick:Int)+dd.1)=some (.ref (sl (tick+dd.1.toNat))):=by
    rw [show (tick:Int)+dd.1=((tick+dd.1.toNat:Nat):Int) by omega]
    exact iy (b9 VG)
   have hlen:=Cb (rows:=rows) (tick:=tick) (b:=b) (fs.take i) (tick+dd.1.toNat)
   have Y8:=gf.len
   rw [List.length_take] at hlen
   have Td:=P9 _ VG
   refine ⟨_,rfl,_,rfl,_,rfl,_,_,rfl,rfl,d,_,_,_,rfl,rfl,aX.of (g1.bh _ _ c1.dl),XI,.inl ⟨rfl,_,aX.of r1⟩,?_⟩
   refine ⟨_,rfl,_,rfl,l,wq i,_,dd.2,rfl,aX.of XH,ZO,d3,fun p H2 s2 np ep=>?_⟩
   refine ⟨_,rfl,wq i,_,rfl,.inr (s2.tup (ZO.choose_spec.1)),_,_,rfl,rfl,?_⟩
   rw [aL]
   refine ⟨_,rfl,by show 3≤sizeLine;decide,fun r RI=>?_⟩
   refine ⟨sl (tick+dd.1.toNat),_,_,rfl,rfl,by rw [aE (aK (s2 _ _ r1) RI)];exact s2 _ _ r1,by rw [aL];omega,?_⟩
   have V7:decide (((dd.2.length:Nat):Int) < 3)=decide (dd.2.length < 3):=by
    by_cases z:dd.2.length < 3
    ·rw [decide_eq_true z,decide_eq_true (by omega)]
    ·rw [decide_eq_false z,decide_eq_false (by omega)]
   obtain ⟨gA,cA⟩:=c1.step mb (rw':=iU b dd.2) (v3:=v3) g1.bh VG s2 np ep RI (KI Q4 d3 hs) (mb _ _ _ _ g1.bb hv) r1 r2
   refine ⟨upd (upd B1 p (.lst (tabI 24 (iU b dd.2).f))) r (.tup [.ref p,.bl (iU b dd.2).rd,v3]),_,_,rfl,g1.trans ?_,?_⟩
   ·show Gv B1 H1 _ (upd (upd H2 r (.tup [.ref p,.bl (decide (((dd.2.length:Nat):Int) < 3)),v3])) _ _) sl n
    rw [V7]
    exact gA
   ·show Cg Bv _ (upd (upd H2 r (.tup [.ref p,.bl (decide (((dd.2.length:Nat):Int) < 3)),v3])) _ _) d sl n _
    rw [V7,take_succ e,Hl]
    exact cA
  ·rintro σ H1 ⟨B1,v5,v6,rfl,g1,c1⟩
   rw [aL,List.take_length] at c1
   exact q B1 H1 g1 c1
end
end K31
namespace K31
open PySem L2 PyProof.Rows
section
variable {P:Program} {w:World} {K:PySem.W.Frag} {mg:Str→Option Value} {base:Heap} {t:Ad}
theorem bO.mv {C:Addr} {B H B' H':Hp} {x tA pA:Addr} {L:Lk} (h:bO C B H x tA pA L) (sb:aI B' H') (bb:aI B B') (no:∀ a,H a≠none→B a=none→B' a=none) (kx:∀ o,H x=some o→H' x=some o) (kt:∀ o,H tA=some o→H' tA=some o) (kp:∀ o,H pA=some o→H' pA=some o):bO C B' H' x tA pA L:=by
 obtain ⟨dx,pv,g,gp⟩:=h.at_
 obtain ⟨iF,g2,CM⟩:=h.told
 obtain ⟨dq,g3,vW⟩:=h.bS
 exact ⟨sb,no _ h.hx h.bx,no _ h.ht h.bt,no _ h.hp h.bp,⟨dx,pv,kx _ g,gp.mono bb⟩,⟨iF,kt _ g2,fun y e he=>(CM y e he).mono bb⟩,⟨dq,kp _ g3,fun y xs hy=>bb _ _ (vW y xs hy)⟩,h.ne⟩
def at2 {α:Type} (f:Nat→α) (s:Nat) (v:α):Nat→α:=fun i=>if i=s then v else f i
theorem aO {α:Type} {f:Nat→α} {s:Nat} {v:α}:at2 f s v s=v:=if_pos rfl
theorem ae {α:Type} {f:Nat→α} {s i:Nat} {v:α} (h:i≠s):at2 f s v i=f i:=if_neg h
structure vK (o:HO):Prop where
 t:∀ xs,o≠.tup xs
 f:∀ a u,o≠.Cy a u
theorem lZ (xs:List V):vK (.lst xs):=⟨(fun _ z=>by cases z),(fun _ _ z=>by cases z)⟩
structure St (Bv:A4) (C:Addr) (B H:Hp) (n:Nat) (x tA pA d:Nat→Addr) (sl:Nat→Nat→Addr) (L:Nat→Lk) (rows:Nat→Nat→List Rw) (ρ:Addr→Nat) (m:Nat) (ex:Nat→Addr) (eo:Nat→HO):Prop where
 sb:aI B H
 lk:∀ s,s < 2→bO C B H (x s) (tA s) (pA s) (L s)
 cg:∀ s,s < 2→Cg Bv B H (d s) (sl s) n (rows s)
 rx:∀ s,s < 2→ρ (x s)=10+s
 rt:∀ s,s < 2→ρ (tA s)=20+s
 rp:∀ s,s < 2→ρ (pA s)=30+s
 rs:∀ s,s < 2→∀ j,j < n→ρ (sl s j)=50+s
 ee:∀ i,i < m→H (ex i)=some (eo i)
 eb:∀ i,i < m→B (ex i)=none
 er:∀ i,i < m→ρ (ex i)=100+i
 en:∀ i,i < m→vK (eo i)
section
variable {Bv:A4} {C:Addr} {B H B' H':Hp} {n:Nat} {x tA pA d:Nat→Addr} {sl:Nat→Nat→Addr} {L:Nat→Lk} {rows:Nat→Nat→List Rw} {ρ:Addr→Nat} {s m:Nat} {ex:Nat→Addr} {eo RJ:Nat→HO}
theorem dZ {a b:Addr} {i j:Nat} (ha:ρ a=i) (hb:ρ b=j) (h:i≠j):a≠b:=fun z=>h (by rw [← ha,← hb,z])
theorem Cg.mv (mb:fX Bv) {a:Addr} {sa:Nat→Addr} {ra:Nat→List Rw} (h:Cg Bv B H a sa n ra) (bb:aI B B') (no:∀ a,H a≠none→B a=none→B' a=none) (e:∀ j,j < n→∀ o,H (sa j)=some o→H' (sa j)=some o):Cg Bv B' H' a sa n ra :=
 ⟨bb _ _ h.dl,h.inj,fun j hj=>(h.at_ j hj).keep mb bb (no _ (h.at_ j hj).val (h.at_ j hj).no) (by obtain ⟨_,g,_⟩:=(h.at_ j hj).at_;rw [e j hj _ g,g])⟩
theorem St.he (h:St Bv C B H n x tA pA d sl L rows ρ m ex eo) {i:Nat} (hi:i < m):H (ex i)≠none:=by rw [h.ee i hi];exact fun z=>by cases z
theorem St.same (mb:fX Bv) (h:St Bv C B H n x tA pA d sl L rows ρ m ex eo) (e:aI H H'):St Bv C B H' n x tA pA d sl L rows ρ m ex eo :=
 ⟨h.sb.trans e,fun s hs=>(h.lk s hs).same e,fun s hs=>(h.cg s hs).mv mb (aI.refl _) (fun _ _ z=>z) fun j _ o g=>e _ _ g,h.rx,h.rt,h.rp,h.rs,fun i hi=>e _ _ (h.ee i hi),h.eb,h.er,h.en⟩
theorem St.VH (mb:fX Bv) {tB pB:Addr} {L':Lk} (h:St Bv C B H n x tA pA d sl L rows ρ m ex eo) (hs:s < 2) (mv:jU B H B' H' (x s) (tA s) (pA s) tB pB) (hl:bO C B' H' (x s) tB pB L') :
  ∃ ρ',St Bv C B' H' n x (at2 tA s tB) (at2 pA s pB) d sl (at2 L s L') rows ρ' m ex eo∧∀ a,a≠tB→a≠pB→ρ' a=ρ a:=by
 have old:∀ {a:Addr} {i:Nat},ρ a=i→i≠10+s→i≠20+s→i≠30+s→∀ o,H a=some o→H' a=some o:=fun {a i} e n1 n2 n3 o g=>mv.k a o (dZ e (h.rx s hs) n1) (dZ e (h.rt s hs) n2) (dZ e (h.rp s hs) n3) g
 have nt:∀ {a:Addr} {i:Nat},ρ a=i→i≠20+s→H a≠none→a≠tB:=fun {a i} e n1 g z=>by
  rcases mv.t with y | y
  ·exact dZ e (h.rt s hs) n1 (z.trans y)
  ·exact g (by rw [z];exact y)
 have np:∀ {a:Addr} {i:Nat},ρ a=i→i≠30+s→H a≠none→a≠pB:=fun {a i} e n1 g z=>by
  rcases mv.p with y | y
  ·exact dZ e (h.rp s hs) n1 (z.trans y)
  ·exact g (by rw [z];exact y)
 have rr:∀ {a:Addr} {i:Nat},ρ a=i→i≠20+s→i≠30+s→H a≠none→(fun b=>if b=tB then 20+s else if b=pB then 30+s else ρ b) a=i:=fun {a i} e n1 n2 g=>by
  show (if a=tB then 20+s else if a=pB then 30+s else ρ a)=i
  rw [if_neg (nt e n1 g),if_neg (np e n2 g)];exact e
 refine ⟨fun b=>if b=tB then 20+s else if b=pB then 30+s else ρ b,⟨hl.sb,?_,?_,?_,?_,?_,?_,fun i hi=>old (h.er i hi) (by omega) (by omega) (by omega) _ (h.ee i hi),fun i hi=>mv.no _ (h.he hi) (h.eb i hi),fun i hi=>rr (h.er i hi) (by omega) (by omega) (h.he hi),h.en⟩,fun a h1 h2=>by show (if a=tB then 20+s else if a=pB then 30+s else ρ a)=ρ a;rw [if_neg h1,if_neg h2]⟩
 ·intro i hi
  by_cases z:i=s
  ·subst z;rw [aO,aO,aO];exact hl
  ·rw [ae z,ae z,ae z]
   exact (h.lk i hi).mv hl.sb mv.bb mv.no (old (h.rx i hi) (by omega) (by omega) (by omega)) (old (h.rt i hi) (by omega) (by omega) (by omega)) (old (h.rp i hi) (by omega) (by omega) (by omega))
 ·intro i hi
  exact (h.cg i hi).mv mb mv.bb mv.no fun j hj=>old (h.rs i hi j hj) (by omega) (by omega) (by omega)
 ·intro i hi
  exact rr (h.rx i hi) (by omega) (by omega) (h.lk i hi).hx
 ·intro i hi
  by_cases z:i=s
  ·subst z;rw [aO];exact if_pos rfl
  ·rw [ae z];exact rr (h.rt i hi) (by omega) (by omega) (h.lk i hi).ht
 ·intro i hi
  by_cases z:i=s
  ·subst z
   rw [aO]
   show (if pB=tB then 20+i else if pB=pB then 30+i else ρ pB)=_
   rw [if_neg (Ne.symm hl.ne),if_pos rfl]
  ·rw [ae z];exact rr (h.rp i hi) (by omega) (by omega) (h.lk i hi).hp
 ·intro i hi j hj
  exact rr (h.rs i hi j hj) (by omega) (by omega) ((h.cg i hi).at_ j hj).val
theorem St.gv (mb:fX Bv) {ra:Nat→List Rw} (h:St Bv C B H n x tA pA d sl L rows ρ m ex eo) (hs:s < 2) (g:Gv B H B' H' (sl s) n) (c:Cg Bv B' H' (d s) (sl s) n ra):St Bv C B' H' n x tA pA d sl L (at2 rows s ra) ρ m ex eo:=by
 have old:∀ {a:Addr} {i:Nat},ρ a=i→i≠50+s→∀ o,H a=some o→H' a=some o:=fun {a i} e n1 o q=>g.fr a o (fun j hj=>dZ e (h.rs s hs j hj) n1) q
 refine ⟨g.bh,?_,?_,h.rx,h.rt,h.rp,h.rs,fun i hi=>old (h.er i hi) (by omega) _ (h.ee i hi),fun i hi=>g.no _ (h.he hi) (h.eb i hi),h.er,h.en⟩
 ·intro i hi
  exact (h.lk i hi).mv g.bh g.bb g.no (old (h.rx i hi) (by omega)) (old (h.rt i hi) (by omega)) (old (h.rp i hi) (by omega))
 ·intro i hi
  by_cases z:i=s
  ·subst z;rw [aO];exact c
  ·rw [ae z]
   exact (h.cg i hi).mv mb g.bb g.no fun j hj=>old (h.rs i hi j hj) (by omega)
theorem St.grow (mb:fX Bv) {a:Addr} {o:HO} (h:St Bv C B H n x tA pA d sl L rows ρ m ex eo) (s:aI H H') (na:H a=none) (ea:H' a=some o) :
  St Bv C (upd B a o) H' n x tA pA d sl L rows ρ m ex eo∧aI B (upd B a o):=by
 have h1:=h.same mb s
 have sB:aI B (upd B a o):=(aI.refl _).new (h.sb.free na)
 have no:∀ b,H b≠none→B b=none→(upd B a o) b=none:=fun b hb e=>by rw [aE (fun z=>hb (by rw [z];exact na))];exact e
 have F9:aI (upd B a o) H':=fun b u e=>by
  by_cases z:b=a
  ·rw [z] at e ⊢;rw [aB] at e;rw [ea];exact e
  ·rw [aE z] at e;exact h1.sb _ _ e
 exact ⟨⟨F9,fun i hi=>(h.lk i hi).mv F9 sB no (fun o e=>s _ _ e) (fun o e=>s _ _ e) (fun o e=>s _ _ e),fun i hi=>(h.cg i hi).mv mb sB no fun j _ o e=>s _ _ e,h.rx,h.rt,h.rp,h.rs,h1.ee,fun i hi=>no _ (h.he hi) (h.eb i hi),h.er,h.en⟩,sB⟩
theorem St.chg (mb:fX Bv) (h:St Bv C B H n x tA pA d sl L rows ρ m ex eo) (fr:∀ a o,(∀ i,i < m→a≠ex i)→H a=some o→H' a=some o) (XJ:∀ i,i < m→H' (ex i)=some (RJ i)) (XM:∀ i,i < m→vK (RJ i)):St Bv C B H' n x tA pA d sl L rows ρ m ex RJ:=by
 have old:∀ {b:Addr} {k:Nat},ρ b=k→k < 100→∀ u,H b=some u→H' b=some u:=fun {b k} q n1 u g=>fr b u (fun i hi=>dZ q (h.er i hi) (by omega)) g
 have F9:aI B H':=fun a o e=>fr a o (fun i hi z=>by rw [z,h.eb i hi] at e;cases e) (h.sb _ _ e)
 exact ⟨F9,fun i hi=>(h.lk i hi).mv F9 (aI.refl _) (fun _ _ z=>z) (old (h.rx i hi) (by omega)) (old (h.rt i hi) (by omega)) (old (h.rp i hi) (by omega)),fun i hi=>(h.cg i hi).mv mb (aI.refl _) (fun _ _ z=>z) fun j hj=>old (h.rs i hi j hj) (by omega),h.rx,h.rt,h.rp,h.rs,XJ,h.eb,h.er,XM⟩
theorem St.put (mb:fX Bv) {i:Nat} {o:HO} (h:St Bv C B H n x tA pA d sl L rows ρ m ex eo) (hi:i < m) (no:vK o):St Bv C B (upd H (ex i) o) n x tA pA d sl L rows ρ m ex (at2 eo i o):=by
 refine h.chg mb (fun a u hn e=>by rw [aE (hn i hi)];exact e) (fun k hk=>?_) (fun k hk=>?_)
 ·by_cases z:k=i
  ·rw [z,aO];exact aB
  ·rw [ae z,aE (dZ (h.er k hk) (h.er i hi) (by omega))];exact h.ee k hk
 ·by_cases z:k=i
  ·rw [z,aO];exact no
  ·rw [ae z];exact h.en k hk
theorem St.re (h:St Bv C B H n x tA pA d sl L rows ρ m ex eo) {L':Nat→Lk} {RJ:Nat→HO} (hL:∀ s,s < 2→L' s=L s) (hE:∀ i,i < m→RJ i=eo i):St Bv C B H n x tA pA d sl L' rows ρ m ex RJ :=
 ⟨h.sb,fun s hs=>by rw [hL s hs];exact h.lk s hs,h.cg,h.rx,h.rt,h.rp,h.rs,fun i hi=>by rw [hE i hi];exact h.ee i hi,h.eb,h.er,fun i hi=>by rw [hE i hi];exact h.en i hi⟩
end
section
end
open Classical in
noncomputable def cH (x t p:Nat→Addr) (sl:Nat→Nat→Addr) (n m:Nat) (ex:Nat→Addr) (a:Addr):Nat :=
 if a=x 0 then 10 else if a=x 1 then 11 else if a=t 0 then 20 else if a=t 1 then 21 else if a=p 0 then 30 else if a=p 1 then 31
 else if ∃ j,j < n∧a=sl 0 j then 50 else if ∃ j,j < n∧a=sl 1 j then 51 else if h:∃ i,i < m∧a=ex i then 100+Classical.choose h else 0
structure Apart (x t p:Nat→Addr) (sl:Nat→Nat→Addr) (n m:Nat) (ex:Nat→Addr):Prop where
 nd:[x 0,x 1,t 0,t 1,p 0,p 1].Nodup
 s0:∀ j,j < n→sl 0 j ∉ [x 0,x 1,t 0,t 1,p 0,p 1]
 s1:∀ j,j < n→sl 1 j ∉ [x 0,x 1,t 0,t 1,p 0,p 1]
 ss:∀ i j,i < n→j < n→sl 1 i≠sl 0 j
 ei:∀ i j,i < m→j < m→ex i=ex j→i=j
 ea:∀ i,i < m→ex i ∉ [x 0,x 1,t 0,t 1,p 0,p 1]
 e0:∀ i,i < m→∀ j,j < n→ex i≠sl 0 j
 e1:∀ i,i < m→∀ j,j < n→ex i≠sl 1 j
def av {α:Type} (a b:α):Nat→α:=fun s=>if s=0 then a else b
theorem bV {q:Nat→Prop} (h0:q 0) (h1:q 1):∀ s,s < 2→q s:=fun s hs=>by
 match s,hs with
 | 0,_=>exact h0
 | 1,_=>exact h1
 | s+2,hs=>omega
section
variable {x t p:Nat→Addr} {sl:Nat→Nat→Addr} {n m:Nat} {ex:Nat→Addr}
theorem sQ {a:Addr} (h1:a ∉ [x 0,x 1,t 0,t 1,p 0,p 1]) (h2:∀ j,j < n→a≠sl 0 j) (h3:∀ j,j < n→a≠sl 1 j) (h4:∀ i,i < m→a≠ex i):cH x t p sl n m ex a=0:=by
 simp only [List.mem_cons,List.not_mem_nil,or_false,not_or] at h1
 obtain ⟨a1,a2,a3,a4,a5,a6⟩:=h1
 unfold cH
 rw [if_neg a1,if_neg a2,if_neg a3,if_neg a4,if_neg a5,if_neg a6,if_neg (fun ⟨j,hj,e⟩=>h2 j hj e),if_neg (fun ⟨j,hj,e⟩=>h3 j hj e),dif_neg (fun ⟨j,hj,e⟩=>h4 j hj e)]
theorem GA (h:Apart x t p sl n m ex):(∀ s,s < 2→cH x t p sl n m ex (x s)=10+s)∧(∀ s,s < 2→cH x t p sl n m ex (t s)=20+s)∧(∀ s,s < 2→cH x t p sl n m ex (p s)=30+s)∧(∀ s,s < 2→∀ j,j < n→cH x t p sl n m ex (sl s j)=50+s)∧(∀ i,i < m→cH x t p sl n m ex (ex i)=100+i):=by
 have nd:=h.nd
 simp only [List.nodup_cons,List.mem_cons,List.not_mem_nil,or_false,not_or,List.nodup_nil,and_true,not_false_eq_true] at nd
 obtain ⟨⟨a1,a2,a3,a4,a5⟩,⟨b1,b2,b3,b4⟩,⟨c1,c2,c3⟩,⟨d1,d2⟩,e1⟩:=nd
 refine ⟨bV ?_ ?_,bV ?_ ?_,bV ?_ ?_,bV ?_ ?_,?_⟩
 ·unfold cH;rw [if_pos rfl]
 ·unfold cH;rw [if_neg (Ne.symm a1),if_pos rfl]
 ·unfold cH;rw [if_neg (Ne.symm a2),if_neg (Ne.symm b1),if_pos rfl]
 ·unfold cH;rw [if_neg (Ne.symm a3),if_neg (Ne.symm b2),if_neg (Ne.symm c1),if_pos rfl]
 ·unfold cH;rw [if_neg (Ne.symm a4),if_neg (Ne.symm b3),if_neg (Ne.symm c2),if_neg (Ne.symm d1),if_pos rfl]
 ·unfold cH;rw [if_neg (Ne.symm a5),if_neg (Ne.symm b4),if_neg (Ne.symm c3),if_neg (Ne.symm d2),if_neg (Ne.symm e1),if_pos rfl]
 ·intro j hj
  have h1:=h.s0 j hj
  simp only [List.mem_cons,List.not_mem_nil,or_false,not_or] at h1
  obtain ⟨u1,u2,u3,u4,u5,u6⟩:=h1
  unfold cH
  rw [if_neg u1,if_neg u2,if_neg u3,if_neg u4,if_neg u5,if_neg u6,if_pos ⟨j,hj,rfl⟩]
 ·intro j hj
  have h1:=h.s1 j hj
  simp only [List.mem_cons,List.not_mem_nil,or_false,not_or] at h1
  obtain ⟨u1,u2,u3,u4,u5,u6⟩:=h1
  unfold cH
  rw [if_neg u1,if_neg u2,if_neg u3,if_neg u4,if_neg u5,if_neg u6,if_neg (fun ⟨i,hi,e⟩=>h.ss j i hj hi e),if_pos ⟨j,hj,rfl⟩]
 ·intro i hi
  have h1:=h.ea i hi
  simp only [List.mem_cons,List.not_mem_nil,or_false,not_or] at h1
  obtain ⟨u1,u2,u3,u4,u5,u6⟩:=h1
  have hx:∃ k,k < m∧ex i=ex k:=⟨i,hi,rfl⟩
  unfold cH
  rw [if_neg u1,if_neg u2,if_neg u3,if_neg u4,if_neg u5,if_neg u6,if_neg (fun ⟨j,hj,e⟩=>h.e0 i hi j hj e),if_neg (fun ⟨j,hj,e⟩=>h.e1 i hi j hj e),dif_pos hx]
  have:=Classical.choose_spec hx
  rw [← h.ei i _ hi this.1 this.2]
end
theorem St.start {Bv:A4} {C:Addr} {H:Hp} {n m:Nat} {ex:Nat→Addr} {eo:Nat→HO} {x t p d:Nat→Addr} {sl:Nat→Nat→Addr} {L:Nat→Lk} (ap:Apart x t p sl n m ex) (lk:∀ s,s < 2→∃ B0,bO C B0 H (x s) (t s) (p s) (L s)) (le:∀ s,s < 2→(L s).ev=[]∧(L s).bS=[]∧(L s).p=none)
  (dl:∀ s,s < 2→H (d s)=some (.lst (bJ n (sl s)))) (dz:∀ s,s < 2→cH x t p sl n m ex (d s)=0) (inj:∀ s,s < 2→∀ i j,i < n→j < n→sl s i=sl s j→i=j) (XN:∀ s,s < 2→∀ j,j < n→H (sl s j)=some (.lst [])) (ee:∀ i,i < m→H (ex i)=some (eo i)) (en:∀ i,i < m→vK (eo i)) :
  ∃ B,St Bv C B H n x t p d sl L (fun _ _=>[]) (cH x t p sl n m ex) m ex eo∧∀ a o,cH x t p sl n m ex a=0→H a=some o→B a=some o:=by
 obtain ⟨r1,r2,r3,r5,r6⟩:=GA ap
 have no:∀ {a:Addr} {k:Nat},cH x t p sl n m ex a=k→k≠0→(fun a=>if cH x t p sl n m ex a=0 then H a else none) a=none:=fun {a k} e h=>by
  show (if cH x t p sl n m ex a=0 then H a else none)=none
  rw [if_neg (by rw [e];exact h)]
 have yes:∀ a o,cH x t p sl n m ex a=0→H a=some o→(fun a=>if cH x t p sl n m ex a=0 then H a else none) a=some o:=fun a o e h=>by
  show (if cH x t p sl n m ex a=0 then H a else none)=some o
  rw [if_pos e];exact h
 have sb:aI (fun a=>if cH x t p sl n m ex a=0 then H a else none) H:=fun a o e=>by
  by_cases z:cH x t p sl n m ex a=0
  ·have e:(if cH x t p sl n m ex a=0 then H a else none)=some o:=e
   rw [if_pos z] at e;exact e
  ·have e:(if cH x t p sl n m ex a=0 then H a else none)=some o:=e
   rw [if_neg z] at e;cases e
 refine ⟨fun a=>if cH x t p sl n m ex a=0 then H a else none,⟨sb,?_,?_,r1,r2,r3,r5,ee,fun i hi=>no (r6 i hi) (by omega),r6,en⟩,yes⟩
 ·intro s hs
  obtain ⟨B0,l⟩:=lk s hs
  obtain ⟨q1,q2,q3⟩:=le s hs
  obtain ⟨dx,pv,g,gp⟩:=l.at_
  obtain ⟨iF,g2,CM⟩:=l.told
  obtain ⟨dq,g3,vW⟩:=l.bS
  refine ⟨sb,no (r1 s hs) (by omega),no (r2 s hs) (by omega),no (r3 s hs) (by omega),⟨dx,pv,g,?_⟩,⟨iF,g2,fun y e he=>by rw [q1] at he;cases he⟩,⟨dq,g3,fun y e he=>by rw [q2] at he;cases he⟩,l.ne⟩
  rw [q3] at gp ⊢;exact gp
 ·intro s hs
  exact ⟨yes _ _ (dz s hs) (dl s hs),inj s hs,fun j hj=>⟨no (r5 s hs j hj) (by omega),fun _=>0,XN s hs j hj,fun y r e=>by cases e⟩⟩
theorem cN {f:Nat→Addr} {s:Nat} (h:s < 2):xg [V.ref (f 0),V.ref (f 1)] (s:Int)=some (.ref (f s)):=by
 match s,h with
 | 0,_=>rfl
 | 1,_=>rfl
 | s+2,h=>omega
structure QF (H0 H:Hp) (D:Addr) (sl:Nat→Addr) (n:Nat):Prop where
 sm:aI H0 H
 nD:H0 D=none
 at_:H D=some (.lst (bJ n sl))
 em:∀ j,j < n→H (sl j)=some (.lst [])
 no:∀ j,j < n→H0 (sl j)=none
 nd:∀ j,j < n→sl j≠D
 inj:∀ i j,i < n→j < n→sl i=sl j→i=j
theorem QF.step {H0 H:Hp} {D p:Addr} {sl:Nat→Addr} {n:Nat} (h:QF H0 H D sl n) (hp:H p=none):QF H0 (upd (upd H p (.lst [])) D (.lst (bJ n sl ++ [.ref p]))) D (fun j=>if j=n then p else sl j) (n+1):=by
 have OA:D≠p:=aK h.at_ hp
 refine ⟨(h.sm.new hp).put h.nD,h.nD,by rw [aB,dR],fun j hj=>?_,fun j hj=>?_,fun j hj=>?_,fun i j hi hj e=>?_⟩
 ·by_cases z:j=n
  ·simp only [z,if_true]
   rw [aE (Ne.symm OA)];exact aB
  ·simp only [z,if_false]
   have K3:j < n:=by omega
   rw [aE (h.nd j K3),aE (aK (h.em j K3) hp)];exact h.em j K3
 ·by_cases z:j=n
  ·simp only [z,if_true];exact h.sm.free hp
  ·simp only [z,if_false];exact h.no j (by omega)
 ·by_cases z:j=n
  ·simp only [z,if_true];exact Ne.symm OA
  ·simp only [z,if_false];exact h.nd j (by omega)
 ·by_cases zi:i=n
  ·by_cases zj:j=n
   ·omega
   ·simp only [zi,zj,if_true,if_false] at e
    have K3:j < n:=by omega
    exact absurd e.symm (aK (h.em j K3) hp)
  ·by_cases zj:j=n
   ·simp only [zi,zj,if_true,if_false] at e
    have hi':i < n:=by omega
    exact absurd e (aK (h.em i hi') hp)
   ·simp only [zi,zj,if_false] at e
    exact h.inj i j (by omega) (by omega) e
def Cc:A4:=fun _ v _=>v=.bN
theorem dm:fX Cc:=fun _ _ _ _ _ h=>h
end
end K31
namespace K31
open PySem L2 PyProof.Rows
section
variable {P:Program} {w:World} {K:PySem.W.Frag} {mg:Str→Option Value} {base:Heap} {t:Ad}
def bI (L:Lk) (bs:List Cl):Lk:={ dQ L bs with ev:=[] }
def aU (rs:List Rw):List Cl:=rs.filterMap fun r=>if r.rd=true then some r.b else none
theorem qc {rs:List Rw} {x:Cl} (h:x ∈ aU rs):∃ row ∈ rs,row.rd=true∧row.b=x:=by
 obtain ⟨y,hy,e⟩:=List.mem_filterMap.mp h
 split at e
 ·rename_i z;cases e;exact ⟨y,hy,z,rfl⟩
 ·cases e
def QG (r:Rw):Cm:=(r.f,if r.rd=true then some r.b else none)
theorem KJ (rs:List Rw):cY (rs.map QG)=aU rs:=by
 unfold cY aU
 rw [List.filterMap_map]
 rfl
theorem sR {rows:Nat→List Rw} {tick:Nat} {b:Cl}:∀ (fs:Ft) (j:Nat) (r:Rw),r ∈ oQ rows tick b fs j→r ∈ rows j∨∃ d ∈ fs,j=tick+d.1.toNat∧r=iU b d.2:=by
 intro fs
 induction fs generalizing rows with
 | nil=>intro j r h;exact .inl h
 | cons d rest ih =>
  intro j r h
  rcases ih (rows:=Ca rows (tick+d.1.toNat) (iU b d.2)) j r h with z | ⟨x,hx,z⟩
  ·have z:r ∈ (if j=tick+d.1.toNat then rows j ++ [iU b d.2] else rows j):=z
   split at z
   ·rename_i e
    rcases List.mem_append.mp z with y | y
    ·exact .inl y
    ·exact .inr ⟨d,List.mem_cons_self,e,List.mem_singleton.mp y⟩
   ·exact .inl z
  ·exact .inr ⟨x,List.mem_cons_of_mem _ hx,z⟩
theorem dX.Tp {G:Gh} {s:Nat} {a:Cl} {m n:Nat} (h:dX G s a m) (hm:m≤n):dX G s a n:=by
 obtain ⟨nc,cc,h1,h2,h3,h4,h5,h6,h7⟩:=h.ex
 exact ⟨⟨nc,cc,h1,h2,h3,h4,by omega,by omega,h7⟩,h.m⟩
theorem En.grow {r s:Nat} {β:Int} {G G':Gh} {L:Lk} (g:kS r β G G') (hs:s≠r) (h:En G s L):En G' s L:=by
 have fr:∀ {P:Pr},oN G s P→oN G' s P:=fun {P} f=>⟨by rw [g.w];exact f.w,by rw [g.o s hs];exact f.o,by rw [g.k s hs];exact f.k,by rw [g.u s hs];exact f.u⟩
 exact ⟨h.sd,by rw [g.o s hs];exact h.o,by rw [g.k s hs];exact h.t,by rw [g.w,g.o s hs];exact h.p,by rw [g.w,g.o s hs];exact h.ow,fun z=>fr (h.dn z),by rw [g.u s hs];exact h.up,fun P hP=>fr (h.un P hP),by rw [g.u s hs];exact h.um⟩
structure vY (late:Int) (G:Gh) (L:Nat→Lk) (rows:Nat→Nat→List Rw):Prop where
 en:∀ s,s < 2→En G s (L s)
 rel:Rel G
 ag:∀ s,s < 2→∀ (j:Nat) (row:Rw),row ∈ rows (1 - s) j→∃ Aa:Nat,dX G s row.b Aa∧(Aa:Int)+j+1≤(L s).d+late
 bi:∀ s,s < 2→∀ (j:Nat) (row:Rw),row ∈ rows (1 - s) j→row.b.b≤(L s).b∧row.b.k≤(L (1 - s)).b
 kb:∀ s,s < 2→0≤(L (1 - s)).b∧(L s).k≤(L (1 - s)).b∧∀ P,G.U s P→zW s P≤(L (1 - s)).b
theorem KL (L:Lk) (bs:List Cl):(dQ L bs).d=L.d+1∧(dQ L bs).s=L.s∧(dQ L bs).q=L.q:=by
 have mt:∀ (L:Lk) (n:Int),(bK L n).d=L.d∧(bK L n).s=L.s∧(bK L n).q=L.q:=fun L n=>by
  unfold bK
  cases L.p with
  | none=>exact ⟨rfl,rfl,rfl⟩
  | some p=>simp only;split <;> exact ⟨rfl,rfl,rfl⟩
 have cm:∀ L:Lk,(bY L).d=L.d∧(bY L).s=L.s∧(bY L).q=L.q:=fun L=>by
  unfold bY
  cases L.p <;> exact ⟨rfl,rfl,rfl⟩
 have hr:∀ (L:Lk) (c:Int),(cB L c).d=L.d∧(cB L c).s=L.s∧(cB L c).q=L.q:=fun L c=>by unfold cB;split <;> exact ⟨rfl,rfl,rfl⟩
 have tk:∀ (L:Lk) (n:Int) (xs:List Int),(dO L n xs).d=L.d∧(dO L n xs).s=L.s∧(dO L n xs).q=L.q:=fun L n xs=>by unfold dO;split <;> exact ⟨rfl,rfl,rfl⟩
 have rd:∀ (L:Lk) (a:Cl),(ck L a).d=L.d∧(ck L a).s=L.s∧(ck L a).q=L.q:=fun L a=>by
  unfold ck
  split
  ·exact ⟨rfl,rfl,rfl⟩
  ·split
   ·obtain ⟨t1,t2,t3⟩:=tk (cB (bY (bK L a.b)) a.c) a.n a.xs
    obtain ⟨h1,h2,h3⟩:=hr (bY (bK L a.b)) a.c
    obtain ⟨c1,c2,c3⟩:=cm (bK L a.b)
    obtain ⟨m1,m2,m3⟩:=mt L a.b
    exact ⟨t1.trans (h1.trans (c1.trans m1)),t2.trans (h2.trans (c2.trans m2)),t3.trans (h3.trans (c3.trans m3))⟩
   ·exact mt L a.b
 have hd:∀ (bs:List Cl) (L:Lk),(ak L bs).d=L.d∧(ak L bs).s=L.s∧(ak L bs).q=L.q:=fun bs=>by
  induction bs with
  | nil=>intro L;exact ⟨rfl,rfl,rfl⟩
  | cons a r ih =>
   intro L
   obtain ⟨i1,i2,i3⟩:=ih (ck L a)
   obtain ⟨r1,r2,r3⟩:=rd L a
   exact ⟨i1.trans r1,i2.trans r2,i3.trans r3⟩
 have qt:∀ L:Lk,(bH L).d=L.d∧(bH L).s=L.s∧(bH L).q=L.q:=fun L=>by
  unfold bH
  split
  ·unfold iG
   cases L.p <;> exact ⟨rfl,rfl,rfl⟩
  ·exact ⟨rfl,rfl,rfl⟩
 obtain ⟨h1,h2,h3⟩:=hd bs L
 obtain ⟨q1,q2,q3⟩:=qt (iH (ak L bs) bs)
 refine ⟨?_,q2.trans h2,q3.trans h3⟩
 show (bH (iH (ak L bs) bs)).d+1=_
 rw [q1];show (ak L bs).d+1=_;rw [h1]
theorem Cd {B:Int}:∀ (bs:List Cl) (L:Lk),L.k≤B→(∀ a ∈ bs,a.b≤B)→(ak L bs).k≤B
 | [],_,h,_=>h
 | a :: r,L,h,hb=>by
  refine Cd r (ck L a) ?_ fun x hx=>hb x (List.mem_cons_of_mem _ hx)
  have h1:a.b≤B:=hb a List.mem_cons_self
  unfold ck
  split
  ·exact h
  ·split
   ·have t1:(dO (cB (bY (bK L a.b)) a.c) a.n a.xs).k=(cB (bY (bK L a.b)) a.c).k:=by unfold dO;split <;> rfl
    have t2:(cB (bY (bK L a.b)) a.c).k=(bY (bK L a.b)).k:=by unfold cB;split <;> rfl
    rw [t1,t2,(J8 _).2,(AY _ _).2];exact h1
   ·rw [(AY _ _).2];exact h1
theorem Ce (L:Lk):((bH L).b=L.b∧(bH L).k=L.k)∨((bH L).b=L.b+1∧(bH L).k=0):=by
 unfold bH
 split
 ·right;unfold iG;cases L.p <;> exact ⟨rfl,rfl⟩
 ·exact .inl ⟨rfl,rfl⟩
theorem vY.step {late:Int} {G:Gh} {L:Nat→Lk} {rows:Nat→Nat→List Rw} {s T:Nat} {fs:Ft} (h:vY late G L rows) (hs:s < 2) (hd:(L s).d=(T:Int)) (ho:(L (1 - s)).d≤(T:Int)+1) (l6:late≤6) (hk:uy (L s)) (Fh:∀ a ∈ aU (rows s T),A2 a.b) (J0:(L s).ev=[]) (gf:zX late fs) :
  ∃ G',vY late G' (at2 L s (bI (L s) (aU (rows s T)))) (at2 rows (1 - s) (oQ (rows (1 - s)) T (eg (bI (L s) (aU (rows s T)))) fs))∧kS s (L s).b G G'∧pz (G.W (1 - s)) (wt G s (L s)) (dQ (L s) (aU (rows s T))).ev (wt G' s (bI (L s) (aU (rows s T)))):=by
 have ne:1 - s≠s:=by omega
 have uz:1 - s < 2:=by omega
 have A3:1 - (1 - s)=s:=by omega
 have hc:∀ a ∈ aU (rows s T),dX G (1 - s) a 8:=fun a ha=>by
  obtain ⟨row,q1,_,rfl⟩:=qc ha
  have:=h.ag (1 - s) uz T row
  rw [A3] at this
  obtain ⟨Aa,c1,c2⟩:=this q1
  exact c1.Tp (by omega)
 have ZP:∀ a ∈ aU (rows s T),a.b≤(L (1 - s)).b∧a.k≤(L s).b:=fun a ha=>by
  obtain ⟨row,q1,_,rfl⟩:=qc ha
  have:=h.bi (1 - s) uz T row
  rw [A3] at this
  exact this q1
 obtain ⟨G',n1,r1,g1,t1,b1,u1⟩:=(h.en s hs).tick (bs:=aU (rows s T)) hs h.rel hk Fh hc (fun a ha=>(ZP a ha).2) J0
 obtain ⟨kb1,kb2,kb3⟩:=h.kb s hs
 have ZQ:=Cd (aU (rows s T)) (L s) kb2 fun a ha=>(ZP a ha).1
 have ZR:=h.kb (1 - s) uz
 rw [A3] at ZR
 obtain ⟨kc1,kc2,ZS⟩:=ZR
 have lA:(L s).b≤(bI (L s) (aU (rows s T))).b∧(bI (L s) (aU (rows s T))).k≤(L (1 - s)).b:=by
  have hh:(iH (ak (L s) (aU (rows s T))) (aU (rows s T))).b=(L s).b:=b1
  have hh2:(iH (ak (L s) (aU (rows s T))) (aU (rows s T))).k≤(L (1 - s)).b:=ZQ
  have e1:(bI (L s) (aU (rows s T))).b=(bH (iH (ak (L s) (aU (rows s T))) (aU (rows s T)))).b:=rfl
  have e2:(bI (L s) (aU (rows s T))).k=(bH (iH (ak (L s) (aU (rows s T))) (aU (rows s T)))).k:=rfl
  rw [e1,e2]
  rcases Ce (iH (ak (L s) (aU (rows s T))) (aU (rows s T))) with ⟨z1,z2⟩ | ⟨z1,z2⟩
  ·rw [z1,z2];exact ⟨by omega,hh2⟩
  ·rw [z1,z2];exact ⟨by omega,kb1⟩
 obtain ⟨td,ts,tq⟩:=KL (L s) (aU (rows s T))
 have dA:(bI (L s) (aU (rows s T))).d=(T:Int)+1:=by show (dQ (L s) (aU (rows s T))).d=_;rw [td,hd]
 have nA:En G' s (bI (L s) (aU (rows s T))):=n1
 refine ⟨G',⟨fun i hi=>?_,r1,fun i hi j row fH=>?_,fun i hi j row fH=>?_,fun i hi=>?_⟩,g1,t1⟩
 ·by_cases z:i=s
  ·rw [z,aO];exact nA
  ·rw [ae z];exact (h.en i hi).grow g1 z
 ·by_cases z:i=s
  ·subst z
   rw [aO] at fH
   rw [aO,dA]
   rcases sR fs j row fH with y | ⟨d,A0,rfl,rfl⟩
   ·obtain ⟨Aa,c1,c2⟩:=h.ag i hi j row y
    obtain ⟨nc,cc,k1,k2,k3,k4,k5,k6,k7⟩:=c1.ex
    refine ⟨Aa+1,⟨⟨nc,cc,k1,k2,Nat.le_trans k3 (g1.om _),Nat.le_trans k4 (g1.km _),?_,?_,by rw [g1.w];exact k7⟩,by rw [g1.u (1 - i) ne];exact c1.m⟩,by omega⟩
    ·have a1:=(r1 i hi (pr i row.b.b row.b.k)).1
     have a2:=(h.rel i hi (pr i row.b.b row.b.k)).2.1
     rw [g1.k (1 - i) ne] at a1
     omega
    ·have a1:=(r1 (1 - i) uz (pr i row.b.b row.b.k)).2.1
     have a2:=(h.rel (1 - i) uz (pr i row.b.b row.b.k)).1
     rw [A3] at a1 a2
     rw [g1.o (1 - i) ne] at a1
     omega
   ·generalize bI (L i) (aU (rows i T))=LA at *
    have b1:=(gf.at_ d A0).1
    have b2:=(gf.at_ d A0).2.1
    refine ⟨0,⟨⟨G'.O i (pr i LA.b LA.k),G'.K i (pr i LA.b LA.k),nA.o,nA.t,Nat.le_refl _,Nat.le_refl _,Nat.le_refl _,Nat.le_refl _,?_⟩,fun P hP _=>by rw [g1.u (1 - i) ne] at hP;exact Int.le_trans (ZS P hP) lA.1⟩,by omega⟩
    show LA.bS.headD []=[]∨(G'.W i (pr i LA.b LA.k))[G'.O i (pr i LA.b LA.k)]?=some (LA.bS.headD [])
    have hp:=nA.p
    cases e:LA.bS with
    | nil=>exact .inl rfl
    | cons x r =>
     right
     rw [e] at hp
     have:((G'.W i (pr i LA.b LA.k)).drop (G'.O i (pr i LA.b LA.k)))[0]?=some x:=by rw [← hp];rfl
     rw [List.getElem?_drop] at this
     exact this
  ·have ei:i=1 - s:=by omega
   subst ei
   rw [A3] at fH
   rw [ae (by omega)] at fH
   rw [ae ne]
   have:=h.ag (1 - s) hi j row
   rw [A3] at this
   obtain ⟨Aa,c1,c2⟩:=this fH
   have b2:=h.bi (1 - s) hi j row
   rw [A3] at b2
   exact ⟨Aa,c1.grow g1 ne (by omega) (b2 fH).2,c2⟩
 ·by_cases z:i=s
  ·subst z
   rw [aO] at fH
   rw [aO,ae ne]
   rcases sR fs j row fH with y | ⟨d,A0,rfl,rfl⟩
   ·obtain ⟨y1,y2⟩:=h.bi i hi j row y
    exact ⟨Int.le_trans y1 lA.1,y2⟩
   ·exact ⟨Int.le_refl _,lA.2⟩
  ·have ei:i=1 - s:=by omega
   subst ei
   rw [A3] at fH
   rw [ae (by omega)] at fH
   rw [ae ne,A3,aO]
   have b2:=h.bi (1 - s) hi j row
   rw [A3] at b2
   exact ⟨(b2 fH).1,Int.le_trans (b2 fH).2 lA.1⟩
 ·by_cases z:i=s
  ·subst z
   rw [aO,ae ne]
   exact ⟨kb1,lA.2,fun P hP=>(u1 P hP).elim (kb3 P) fun y=>Int.le_trans y ZQ⟩
  ·have ei:i=1 - s:=by omega
   subst ei
   rw [ae ne,A3,aO,g1.u (1 - s) ne]
   exact ⟨Int.le_trans kc1 lA.1,Int.le_trans kc2 lA.1,fun P hP=>Int.le_trans (ZS P hP) lA.1⟩
theorem vY.put {late:Int} {G:Gh} {L:Nat→Lk} {rows:Nat→Nat→List Rw} {s:Nat} {xs:List Int} (h:vY late G L rows) (hs:s < 2) (hu:(L s).p≠none) :
  vY late ⟨dY G.W s (pr s (L s).b (L s).k) (G.W s (pr s (L s).b (L s).k) ++ [xs]),G.O,G.K,G.U⟩ (at2 L s { L s with bS:=(L s).bS ++ [xs] }) rows:=by
 have n0:=h.en s hs
 have pk:∀ P,Unr s (L s) P→P≠pr s (L s).b (L s).k:=fun P hP y=>by
  rw [y] at hP
  rcases hP with w | ⟨_,w⟩
  ·rw [oM] at w;omega
  ·rw [tu] at w;omega
 have wl:∀ i P,(G.W i P).length≤(dY G.W s (pr s (L s).b (L s).k) (G.W s (pr s (L s).b (L s).k) ++ [xs]) i P).length:=fun i P=>by
  by_cases y:i=s∧P=pr s (L s).b (L s).k
  ·rw [y.1,y.2,bL,List.length_append];omega
  ·rw [cC y];exact Nat.le_refl _
 have eb:∀ i,(at2 L s { L s with bS:=(L s).bS ++ [xs] } i).b=(L i).b∧(at2 L s { L s with bS:=(L s).bS ++ [xs] } i).k=(L i).k:=fun i=>by
  by_cases z:i=s
  ·rw [z,aO];exact ⟨rfl,rfl⟩
  ·rw [ae z];exact ⟨rfl,rfl⟩
 refine ⟨fun i hi=>?_,fun i hi P=>?_,fun i hi j row fH=>?_,fun i hi j row fH=>by rw [(eb _).1,(eb _).1];exact h.bi i hi j row fH,fun i hi=>by rw [(eb _).1,(eb _).2];exact h.kb i hi⟩
 ·by_cases z:i=s
  ·subst z
   rw [aO]
   refine ⟨n0.sd,n0.o,n0.t,?_,?_,fun y=>absurd y hu,n0.up,fun P hP=>?_,n0.um⟩
   ·show (L i).bS ++ [xs]=(dY G.W i (pr i (L i).b (L i).k) (G.W i (pr i (L i).b (L i).k) ++ [xs]) i (pr i (L i).b (L i).k)).drop (G.O i (pr i (L i).b (L i).k))
    rw [bL,List.drop_append_of_le_length n0.ow,n0.p]
   ·exact Nat.le_trans n0.ow (wl i _)
   ·have f:=n0.un P hP
    exact ⟨by show dY G.W i (pr i (L i).b (L i).k) _ i P=[];rw [cC (fun y=>pk P hP y.2)];exact f.w,f.o,f.k,f.u⟩
  ·rw [ae z]
   have n1:=h.en i hi
   have we:∀ P,dY G.W s (pr s (L s).b (L s).k) (G.W s (pr s (L s).b (L s).k) ++ [xs]) i P=G.W i P:=fun P=>cC fun y=>z y.1
   have fr:∀ {P:Pr},oN G i P→oN ⟨dY G.W s (pr s (L s).b (L s).k) (G.W s (pr s (L s).b (L s).k) ++ [xs]),G.O,G.K,G.U⟩ i P:=fun {P} f=>⟨(we P).trans f.w,f.o,f.k,f.u⟩
   exact ⟨n1.sd,n1.o,n1.t,by show _=(dY G.W s _ _ i _).drop _;rw [we];exact n1.p,by show _≤(dY G.W s _ _ i _).length;rw [we];exact n1.ow,fun y=>fr (n1.dn y),n1.up,fun P hP=>fr (n1.un P hP),n1.um⟩
 ·obtain ⟨r1,r2,r3⟩:=h.rel i hi P
  exact ⟨r1,r2,Nat.le_trans r3 (wl i P)⟩
 ·obtain ⟨Aa,c1,c2⟩:=h.ag i hi j row fH
  obtain ⟨nc,cc,k1,k2,k3,k4,k5,k6,k7⟩:=c1.ex
  refine ⟨Aa,⟨⟨nc,cc,k1,k2,k3,k4,k5,k6,k7.imp id fun y=>?_⟩,c1.m⟩,?_⟩
  ·show (dY G.W s (pr s (L s).b (L s).k) (G.W s (pr s (L s).b (L s).k) ++ [xs]) i (pr i row.b.b row.b.k))[nc]?=some row.b.xs
   by_cases z:i=s∧pr i row.b.b row.b.k=pr s (L s).b (L s).k
   ·obtain ⟨z1,z2⟩:=z
    rw [z2,z1] at y ⊢
    rw [bL,List.getElem?_append_left (List.getElem?_eq_some_iff.mp y).1];exact y
   ·rw [cC z];exact y
  ·by_cases z:i=s
   ·subst z;rw [aO];exact c2
   ·rw [ae z];exact c2
theorem vY.start {late q:Int}:vY late ⟨fun _ _=>[],fun _ _=>0,fun _ _=>0,fun _ _=>False⟩ (av (vH q 0) (vH q 1)) (fun _ _=>[]):=by
 have fr:∀ s P,oN ⟨fun _ _=>[],fun _ _=>0,fun _ _=>0,fun _ _=>False⟩ s P:=fun s P=>⟨rfl,rfl,rfl,id⟩
 refine ⟨bV (fW rfl (fr _ _) rfl rfl rfl rfl (fun P _=>fr _ P) fun P h=>h.elim) (fW rfl (fr _ _) rfl rfl rfl rfl (fun P _=>fr _ P) fun P h=>h.elim),fun s hs P=>⟨Nat.le_refl _,Nat.zero_le _,Nat.le_refl _⟩,fun s hs j row h=>(by cases h),fun s hs j row h=>(by cases h),bV ⟨Int.zero_le_ofNat 1,Int.zero_le_ofNat 1,fun P h=>h.elim⟩ ⟨Int.zero_le_ofNat 1,Int.zero_le_ofNat 1,fun P h=>h.elim⟩⟩
end
end K31
namespace K31
open PySem L2 PyProof.Rows
section
variable {P:Program} {w:World} {K:PySem.W.Frag} {mg:Str→Option Value} {base:Heap} {t:Ad}
def nQ:Sp:=fun vs H Q _=>∃ (c:Int) (m:Nat),vs=[.int c,.int (m:Int)]∧m≤100∧∀ (r:Addr) (H':Hp) (ns:List Int),aI H H'→H r=none→H' r=some (.lst (ns.map V.int))→ns.length=m→(∀ n ∈ ns,0≤n)→Q (.ref r) H'
theorem cU:aQ ["cell","many","told","left","k","stir"] ["cell","many"] (aH fo):=⟨rfl,rfl,rfl,by decide +kernel,rfl,by decide +kernel,by decide +kernel⟩
theorem vL (F:aP K mg "_law_numbers" fo) (T:Txt K mg t):Def P w K mg base 1 "_law_numbers" ["cell","many"] nQ:=by
 refine F.def cU (fun _ _ _ _ _ _ us hl=>match us,hl with | [_,_],_=>rfl) (fun vs H Q E h=>?_) (fun f bo A outer s H vs Q E hr h=>?_)
 ·obtain ⟨c,m,rfl,_⟩:=h
  rfl
 ·obtain ⟨c,m,rfl,hm,q⟩:=h
  refine ⟨_,aC (aT (i:=2) cU.nd rfl (Or.inl rfl) (bF aD))
   (aC (aT (i:=3) cU.nd rfl (Or.inl rfl) (pv 0))
   (aC (PS.uX (dC PassesOwn.never rfl (cv (by rfl) T.df (aA (pv 1) aD)) (az (i:=4) cU.nd rfl (Or.inl rfl))
    (aG (bD (aW Ng (pv 3) (aN Oc aF aF) (aj _))
     (aC (ax (jL K PySem.F.plainAttrs_list PySem.F.slot_list_append PySem.F.type_list_append cP (pv 2) (aA (aN aw (pv 3) aF) aD)))
     (aG (aT (i:=3) cU.nd rfl (Or.inl rfl) (aN cW (pv 3) aF))))
     (aC (aT (i:=5) cU.nd rfl (Or.inl rfl) (aN aw (aN eJ (aN bA (aN bA (aN aw (pv 0) aF) (aN eJ aF (pv 4))) aF) aF) aF))
     (aG (ax (jL K PySem.F.plainAttrs_list PySem.F.slot_list_append PySem.F.type_list_append cP (pv 2) (aA (aN cW (aN aw (aN eJ (pv 5) (pv 5)) aF) aF) aD)))))))))
   (aG (aV (pv 2))))),?_⟩
  have hsz:(2000:Nat)≤sizeLine:=by decide
  refine ⟨by show 0≤sizeLine;decide,fun L hL=>?_⟩
  refine ⟨_,rfl,?_⟩
  refine ⟨_,rfl,(m:Int),rfl,by omega,by omega,?_⟩
  rw [Int.toNat_natCast]
  refine fT (lo:=0) (n:=m) (fun i σ H2=>∃ (left:Int) (ns:List Int) (v4 v5:Option V),σ=[some (.int c),some (.int (m:Int)),some (.ref L),some (.int left),v4,v5]∧aI H H2∧H2 L=some (.lst (ns.map V.int))∧ns.length=i∧∀ n ∈ ns,0≤n)
   ⟨c,[],none,none,rfl,(aI.refl _).new hL,aB,rfl,fun n hn=>by cases hn⟩ ?_ ?_
  ·rintro i σ H2 hi ⟨left,ns,v4,v5,rfl,s2,h2,hl,hn⟩
   have push:∀ (x:Int),0≤x→(aI H (upd H2 L (.lst (ns.map V.int ++ [V.int x])))∧(upd H2 L (.lst (ns.map V.int ++ [V.int x]))) L=some (.lst ((ns ++ [x]).map V.int))∧(ns ++ [x]).length=i+1∧∀ n ∈ ns ++ [x],0≤n):=fun x hx=>⟨s2.put hL,by rw [aB,List.map_append];rfl,by rw [List.length_append,hl];rfl,fun n Qq=>by
    rcases List.mem_append.mp Qq with h | h
    ·exact hn n h
    ·rw [List.mem_singleton] at h;rw [h];exact hx⟩
   refine ⟨_,rfl,_,_,rfl,rfl,⟨by decide,by decide,by decide⟩,_,_,rfl,rfl,_,rfl,?_⟩
   refine Oz (fun h=>?_) (fun h=>?_)
   ·refine ⟨_,rfl,.inl ⟨rfl,_,aX.of h2⟩,_,rfl,_,_,rfl,rfl,(by show (0:Int) < 1000003;decide),L,_,_,rfl,rfl,h2,by rw [List.length_map];omega,?_⟩
    refine ⟨_,rfl,_,_,rfl,rfl,⟨by decide,by decide⟩,?_⟩
    exact ⟨_,_,_,_,rfl,push _ (Int.emod_nonneg _ (by decide))⟩
   ·refine ⟨_,rfl,_,_,rfl,rfl,(by show (0:Int) < 2147483647;decide),_,rfl,_,_,rfl,rfl,.inl ⟨by decide,by decide⟩,_,_,rfl,rfl,_,_,rfl,rfl,_,_,rfl,rfl,.inr ⟨by decide,by decide⟩,_,_,rfl,rfl,(by show (0:Int) < 2147483647;decide),?_⟩
    generalize hN:(c % 2147483647+7919 * (0+(i:Nat))+1) * 69621 % 2147483647=N
    have hN1:0≤N:=by rw [← hN];exact Int.emod_nonneg _ (by decide)
    have Y4:N < 2147483647:=by rw [← hN];exact Int.emod_lt_of_pos _ (by decide)
    refine ⟨_,rfl,.inl ⟨rfl,_,aX.of h2⟩,_,rfl,_,rfl,_,_,rfl,rfl,.inl ⟨by omega,by omega⟩,_,_,rfl,rfl,(by show (0:Int) < 998244353;decide),_,_,rfl,rfl,⟨by decide,by decide⟩,L,_,_,rfl,rfl,h2,by rw [List.length_map];omega,?_⟩
    exact ⟨_,_,_,_,rfl,push _ (Int.ediv_nonneg (Int.emod_nonneg _ (by decide)) (by decide))⟩
  ·rintro σ H2 ⟨left,ns,v4,v5,rfl,s2,h2,hl,hn⟩
   exact ⟨_,rfl,q L H2 ns s2 hL h2 hl hn⟩
def sS (K:PySem.W.Frag):Sp:=fun vs H Q _=>∃ (l:Addr) (ns:List Int) (k:Int),vs=[.ref l,.int k]∧aX K H l (ns.map V.int)∧0≤k∧∀ c:Int,Q (.int c) H
theorem Ah:aQ ["script","k"] ["script","k"] (aH j9):=⟨rfl,rfl,rfl,by decide +kernel,rfl,by decide +kernel,by decide +kernel⟩
theorem Ai (F:aP K mg "_law_cell" j9) (T:Txt K mg t):Def P w K mg base 1 "_law_cell" ["script","k"] (sS K):=by
 refine F.def Ah (fun _ _ _ _ _ _ us hl=>match us,hl with | [_,_],_=>rfl) (fun vs H Q E h=>?_) (fun f bo A outer s H vs Q E hr h=>?_)
 ·obtain ⟨l,ns,k,rfl,_⟩:=h
  rfl
 ·obtain ⟨l,ns,k,rfl,hl,k0,q⟩:=h
  refine ⟨_,aC (bD (aW jy (pv 1) (bP (bQ K) (by rfl) T.iD boot_len (aA (pv 0) aD)) (aj _))
    (aG (aV (aR (aM K) (pv 0) (pv 1) (fun _ _=>rfl))))
    (af))
   (aG (aV aF)),?_⟩
  refine ⟨_,rfl,_,rfl,l,_,rfl,.inl hl,_,_,rfl,rfl,_,rfl,?_⟩
  by_cases z:k < ((ns.map V.int).length:Nat)
  ·refine eN z ?_
   rw [List.length_map] at z
   obtain ⟨j,rfl⟩:∃ j:Nat,k=j:=⟨k.toNat,by omega⟩
   have hj:j < ns.length:=by omega
   exact ⟨_,rfl,_,rfl,l,_,_,V.int ns[j],rfl,rfl,hl,iy (by simp [hj]),q _⟩
  ·exact dW z (q 0)
end
end K31
namespace K31
open PySem L2 PyProof.Rows
section
variable {P:Program} {w:World} {K:PySem.W.Frag} {mg:Str→Option Value} {base:Heap} {t:Ad}
theorem vY.cell {late:Int} {G:Gh} {L:Nat→Lk} {rows:Nat→Nat→List Rw} {s:Nat} (h:vY late G L rows) (hs:s < 2):dX G s (eg (L s)) 0:=by
 have nA:=h.en s hs
 have kb:=h.kb (1 - s) (by omega)
 rw [show 1 - (1 - s)=s by omega] at kb
 refine ⟨⟨G.O s (pr s (L s).b (L s).k),G.K s (pr s (L s).b (L s).k),nA.o,nA.t,Nat.le_refl _,Nat.le_refl _,Nat.le_refl _,Nat.le_refl _,?_⟩,fun P hP _=>kb.2.2 P hP⟩
 show (L s).bS.headD []=[]∨(G.W s (pr s (L s).b (L s).k))[G.O s (pr s (L s).b (L s).k)]?=some ((L s).bS.headD [])
 have hp:=nA.p
 cases e:(L s).bS with
 | nil=>exact .inl rfl
 | cons x r =>
  right
  rw [e] at hp
  have:((G.W s (pr s (L s).b (L s).k)).drop (G.O s (pr s (L s).b (L s).k)))[0]?=some x:=by rw [← hp];rfl
  rw [List.getElem?_drop] at this
  exact this
def qd (G:Gh) (s:Nat) (P:Pr) (gd:List (List Int)):Gh:=⟨dY G.W s P (G.W s P ++ gd),G.O,G.K,G.U⟩
theorem dX.put {G:Gh} {s i Aa:Nat} {a:Cl} {P:Pr} {gd:List (List Int)} (c:dX G s a Aa):dX (qd G i P gd) s a Aa:=by
 obtain ⟨nc,cc,k1,k2,k3,k4,k5,k6,k7⟩:=c.ex
 refine ⟨⟨nc,cc,k1,k2,k3,k4,k5,k6,k7.imp id fun y=>?_⟩,c.m⟩
 show (dY G.W i P (G.W i P ++ gd) s (pr s a.b a.k))[nc]?=some a.xs
 by_cases z:s=i∧pr s a.b a.k=P
 ·obtain ⟨z1,z2⟩:=z
  rw [z2,z1] at y ⊢
  rw [bL,List.getElem?_append_left (List.getElem?_eq_some_iff.mp y).1];exact y
 ·rw [cC z];exact y
theorem vY.give {late:Int} {G:Gh} {L:Nat→Lk} {rows:Nat→Nat→List Rw} {s T:Nat} {a:Cl} {fs:Ft} (h:vY late G L rows) (hs:s < 2) (hd:(L s).d=(T:Int)+1) (c:dX G s a 0) (hb:a.b≤(L s).b) (hk:a.k≤(L (1 - s)).b) (gf:zX late fs):vY late G L (at2 rows (1 - s) (oQ (rows (1 - s)) T a fs)):=by
 refine ⟨h.en,h.rel,fun i hi j row fH=>?_,fun i hi j row fH=>?_,h.kb⟩
 ·by_cases z:i=s
  ·subst z
   rw [aO] at fH
   rcases sR fs j row fH with y | ⟨d,A0,rfl,rfl⟩
   ·exact h.ag i hi j row y
   ·have b1:=(gf.at_ d A0).1
    have b2:=(gf.at_ d A0).2.1
    exact ⟨0,c,by omega⟩
  ·rw [ae (by omega)] at fH;exact h.ag i hi j row fH
 ·by_cases z:i=s
  ·subst z
   rw [aO] at fH
   rcases sR fs j row fH with y | ⟨d,A0,rfl,rfl⟩
   ·exact h.bi i hi j row y
   ·exact ⟨hb,hk⟩
  ·rw [ae (by omega)] at fH;exact h.bi i hi j row fH
theorem lg {α:Type} {f:Nat→α} {s:Nat}:at2 f s (f s)=f:=funext fun i=>by
 by_cases z:i=s
 ·rw [z,aO]
 ·rw [ae z]
theorem vZ {α:Type} {f:Nat→α} {s:Nat} {u v:α}:at2 (at2 f s u) s v=at2 f s v:=funext fun i=>by
 by_cases z:i=s
 ·rw [z,aO,aO]
 ·rw [ae z,ae z,ae z]
theorem KN {α:Type} {f:Nat→Pr→α} {s:Nat} {P:Pr} {u v:α}:dY (dY f s P u) s P v=dY f s P v:=funext fun i=>funext fun Q=>by
 by_cases z:i=s∧Q=P
 ·rw [z.1,z.2,bL,bL]
 ·rw [cC z,cC z,cC z]
theorem Hm {α:Type} {f:Nat→Pr→α} {s:Nat} {P:Pr}:dY f s P (f s P)=f:=funext fun i=>funext fun Q=>by
 by_cases z:i=s∧Q=P
 ·rw [z.1,z.2,bL]
 ·rw [cC z]
theorem vY.Tq {late:Int} {rows:Nat→Nat→List Rw} {s:Nat} (hs:s < 2):∀ (gd:List (List Int)) (G:Gh) (L:Nat→Lk),vY late G L rows→(L s).p≠none→vY late (qd G s (pr s (L s).b (L s).k) gd) (at2 L s { L s with bS:=(L s).bS ++ gd }) rows
 | [],G,L,h,_=>by
  have e1:qd G s (pr s (L s).b (L s).k) []=G:=by unfold qd;rw [List.append_nil,Hm]
  have e2:({ L s with bS:=(L s).bS ++ [] }:Lk)=L s:=by rw [List.append_nil]
  rw [e1,e2,lg];exact h
 | xs :: r,G,L,h,hu=>by
  have h1:=vY.Tq hs r _ _ (h.put (xs:=xs) hs hu) (by rw [aO];exact hu)
  rw [aO,vZ] at h1
  have e1:qd ⟨dY G.W s (pr s (L s).b (L s).k) (G.W s (pr s (L s).b (L s).k) ++ [xs]),G.O,G.K,G.U⟩ s (pr s (L s).b (L s).k) r=qd G s (pr s (L s).b (L s).k) (xs :: r):=by
   unfold qd
   simp only [bL,KN,List.append_assoc,List.singleton_append]
  have e2:({ L s with bS:=((L s).bS ++ [xs]) ++ r }:Lk)={ L s with bS:=(L s).bS ++ xs :: r }:=by rw [List.append_assoc];rfl
  have h2:vY late (qd ⟨dY G.W s (pr s (L s).b (L s).k) (G.W s (pr s (L s).b (L s).k) ++ [xs]),G.O,G.K,G.U⟩ s (pr s (L s).b (L s).k) r) (at2 L s { L s with bS:=((L s).bS ++ [xs]) ++ r }) rows:=h1
  rw [e1,e2] at h2
  exact h2
def KU (A:Wt):Prop:=(∀ x,A.p=some x→A.u x)∧∀ P,¬ A.u P→A.k P=0
theorem pz.ku {W:Pr→List (List Int)} {A Z:Wt} {es:List Ev} (h:pz W A es Z) (k:KU A):KU Z:=by
 induction h with
 | nil=>exact k
 | up h hp hu hm hz ih=>exact ⟨fun y hy=>(by cases hy;exact .inl rfl),fun P hP=>ih.2 P fun z=>hP (.inr z)⟩
 | anew h hp ih=>exact ⟨fun y hy=>(by cases hy),ih.2⟩
 | W4 h hp ih=>exact ⟨fun y hy=>(by cases hy),ih.2⟩
 | took h hp hw ih =>
  rename_i x xs
  refine ⟨ih.1,fun P hP=>?_⟩
  have:P≠x:=fun z=>hP (z ▸ ih.1 x hp)
  show (if P=x then _ else _)=0
  rw [if_neg this];exact ih.2 P hP
end
end K31
namespace K31
open PySem L2 PyProof.Rows
section
variable {P:Program} {w:World} {K:PySem.W.Frag} {mg:Str→Option Value} {base:Heap} {t:Ad}
def gN (b:Wt):Ev→Wt
 | .mk w x _=>if w=("up":Str) then ⟨some x,b.k,fun P=>P=x∨b.u P⟩ else ⟨none,b.k,b.u⟩
 | .took _=>match b.p with
  | none=>b
  | some x=>⟨b.p,fun P=>if P=x then b.k x+1 else b.k P,b.u⟩
def yG (A:Wt) (es:List Ev):Wt:=es.foldl gN A
theorem lh (A:Wt) (es:List Ev) (e:Ev):yG A (es ++ [e])=gN (yG A es) e:=by unfold yG;rw [List.foldl_append];rfl
def ZT (W:Pr→List (List Int)) (b:Wt):Ev→Prop
 | .mk w x _=>(w=("up":Str)∧b.p=none∧¬ b.u x∧(∀ P,b.u P→P.1≤x.1∧P.2≤x.2)∧b.k x=0)∨(w≠("up":Str)∧w≠("took":Str)∧b.p=some x)
 | .took xs=>∃ x,b.p=some x∧(W x)[b.k x]?=some xs
def KO (W:Pr→List (List Int)) (A:Wt) (es:List Ev):Prop:=∀ (i:Nat) (e:Ev),es[i]?=some e→ZT W (yG A (es.take i)) e
theorem KO.snoc {W:Pr→List (List Int)} {A:Wt} {es:List Ev} {e:Ev} (h:KO W A es) (h1:ZT W (yG A es) e):KO W A (es ++ [e]):=by
 intro i x hx
 by_cases z:i < es.length
 ·rw [List.getElem?_append_left z] at hx
  rw [List.take_append_of_le_length (by omega)]
  exact h i x hx
 ·have fE:i < (es ++ [e]).length:=(List.getElem?_eq_some_iff.mp hx).1
  rw [List.length_append] at fE
  have ei:i=es.length:=by simp at fE;omega
  rw [ei,List.getElem?_append_right (Nat.le_refl _),Nat.sub_self] at hx
  cases hx
  rw [ei,List.take_left']
  ·exact h1
  ·rfl
theorem pz.ok {W:Pr→List (List Int)} {A Z:Wt} {es:List Ev} (h:pz W A es Z):KO W A es∧yG A es=Z:=by
 induction h with
 | nil=>exact ⟨fun i e he=>(by cases he),rfl⟩
 | up h hp hu hm hz ih =>
  obtain ⟨i1,i2⟩:=ih
  refine ⟨i1.snoc (by rw [i2];exact .inl ⟨rfl,hp,hu,hm,hz⟩),?_⟩
  rw [lh,i2];unfold gN;simp only;exact if_pos trivial
 | anew h hp ih =>
  obtain ⟨i1,i2⟩:=ih
  refine ⟨i1.snoc (by rw [i2];exact .inr ⟨by decide,by decide,hp⟩),?_⟩
  rw [lh,i2];unfold gN;simp only;rw [if_neg (by decide)]
 | W4 h hp ih =>
  obtain ⟨i1,i2⟩:=ih
  refine ⟨i1.snoc (by rw [i2];exact .inr ⟨by decide,by decide,hp⟩),?_⟩
  rw [lh,i2];unfold gN;simp only;rw [if_neg (by decide)]
 | took h hp hw ih =>
  obtain ⟨i1,i2⟩:=ih
  refine ⟨i1.snoc (by rw [i2];exact ⟨_,hp,hw⟩),?_⟩
  rw [lh,i2];unfold gN;simp only;rw [hp]
theorem Hn {W:List (List Int)} {n:Nat} {xs:List Int} (h:W[n]?=some xs):W.take n ++ [xs]=W.take (n+1):=by
 rw [List.take_add_one,h];rfl
def oR (l:Option Pr) (es:List Ev):Option Pr:=es.foldl (fun l e=>match e with | .mk w x _=>if w=("up":Str) then some x else l | .took _=>l) l
theorem wy (l:Option Pr) (es:List Ev) (e:Ev):oR l (es ++ [e])=(match e with | .mk w x _=>if w=("up":Str) then some x else oR l es | .took _=>oR l es):=by unfold oR;rw [List.foldl_append];rfl
theorem Mt {b:Wt} {e:Ev} {P:Pr} (h:b.u P):(gN b e).u P:=by
 cases e with
 | mk w x ns =>
  show (if w=("up":Str) then _ else _:Wt).u P
  split
  ·exact .inr h
  ·exact h
 | took xs =>
  unfold gN;simp only
  cases b.p <;> exact h
theorem GB {A:Wt} {l:Option Pr} (h:∀ x,l=some x→A.u x) (es:List Ev):∀ x,oR l es=some x→(yG A es).u x:=by
 have key:∀ (n:Nat),∀ es:List Ev,es.length=n→∀ x,oR l es=some x→(yG A es).u x:=by
  intro n
  induction n with
  | zero=>intro es he x hx;cases List.length_eq_zero_iff.mp he;exact h x hx
  | succ n ih =>
   intro es he x hx
   rcases List.eq_nil_or_concat es with z | ⟨OP,e,z⟩
   ·rw [z] at he;cases he
   ·rw [List.concat_eq_append] at z
    subst z
    have hl:OP.length=n:=by rw [List.length_append] at he;simpa using he
    rw [wy] at hx
    rw [lh]
    cases e with
    | mk w y ns =>
     simp only at hx
     show (if w=("up":Str) then _ else _:Wt).u x
     split at hx
     ·rename_i z;cases hx;rw [if_pos z];exact .inl rfl
     ·rename_i z;rw [if_neg z];exact ih OP hl x hx
    | took xs=>exact Mt (ih OP hl x hx)
 exact key es.length es rfl
end
end K31
namespace K31
open PySem L2 PyProof.Rows
section
variable {P:Program} {w:World} {K:PySem.W.Frag} {mg:Str→Option Value} {base:Heap} {t:Ad}
def kP (P:Pr):List Key:=[.inl P.1,.inl P.2]
theorem EI {P Q:Pr} (h:kP P=kP Q):P=Q:=by
 unfold kP at h
 injection h with h1 h2
 injection h2 with h2 _
 exact Prod.ext (Sum.inl.inj h1) (Sum.inl.inj h2)
def jX (ps:List Pr) (la:Pr→Addr):List (List Key × V):=ps.map fun P=>(kP P,.ref (la P))
theorem oS {la:Pr→Addr} {P:Pr}:∀ {ps:List Pr},P ∈ ps→iz (jX ps la) (kP P)=some (.ref (la P))
 | Q :: r,h=>by
  by_cases z:Q=P
  ·subst z;exact rg rfl
  ·show iz ((kP Q,V.ref (la Q)) :: jX r la) (kP P)=_
   have e:iz ((kP Q,V.ref (la Q)) :: jX r la) (kP P)=iz (jX r la) (kP P):=by
    unfold iz
    rw [List.find?_cons,decide_eq_false (fun y=>z (EI y))]
   rw [e]
   exact oS ((List.mem_cons.mp h).resolve_left (Ne.symm z))
theorem wz {la:Pr→Addr} {P:Pr}:∀ {ps:List Pr},P ∉ ps→iz (jX ps la) (kP P)=none
 | [],_=>rfl
 | Q :: r,h=>by
  have z:Q≠P:=fun y=>h (by rw [y];exact List.mem_cons_self)
  have e:iz ((kP Q,V.ref (la Q)) :: jX r la) (kP P)=iz (jX r la) (kP P):=by
   unfold iz
   rw [List.find?_cons,decide_eq_false (fun y=>z (EI y))]
  show iz ((kP Q,V.ref (la Q)) :: jX r la) (kP P)=_
  rw [e]
  exact wz fun y=>h (List.mem_cons_of_mem _ y)
theorem Mu {ps:List Pr} {la:Pr→Addr} {P:Pr} {a:Addr} (h:P ∉ ps):putK (jX ps la) (kP P) (.ref a)=jX (ps ++ [P]) (fun Q=>if Q=P then a else la Q):=by
 have e:((jX ps la).any fun kv=>decide (kv.1=kP P))=false:=by
  rw [List.any_eq_false]
  intro x hx
  obtain ⟨Q,hQ,rfl⟩:=List.mem_map.mp hx
  intro z
  exact h (EI (of_decide_eq_true z) ▸ hQ)
 unfold putK
 rw [if_neg (by rw [e];exact fun z=>by cases z)]
 unfold jX
 rw [List.map_append]
 congr 1
 ·refine List.map_congr_left fun Q hQ=>?_
  show (kP Q,V.ref (la Q))=(kP Q,V.ref (if Q=P then a else la Q))
  rw [if_neg (show ¬ Q=P from fun z=>h (z ▸ hQ))]
 ·show [(kP P,V.ref a)]=[(kP P,V.ref (if P=P then a else la P))]
  rw [if_pos rfl]
structure cq (B H:Hp) (d:Addr) (ps:List Pr) (la:Pr→Addr) (c:Pr→List (List Int)):Prop where
 at_:H d=some (.dT (jX ps la))
 pc:∀ P,P ∈ ps→wb B H (la P) (c P)
 inj:∀ P,P ∈ ps→∀ Q,Q ∈ ps→la P=la Q→P=Q
 bd:B d=none
 bl:∀ P,P ∈ ps→B (la P)=none
theorem cq.keep {B H H':Hp} {d:Addr} {ps:List Pr} {la:Pr→Addr} {c:Pr→List (List Int)} (h:cq B H d ps la c) (hd:∀ o,H d=some o→H' d=some o) (hl:∀ P,P ∈ ps→∀ o,H (la P)=some o→H' (la P)=some o):cq B H' d ps la c :=
 ⟨hd _ h.at_,fun P hP=>by obtain ⟨dq,g1,g2⟩:=h.pc P hP;exact ⟨dq,hl P hP _ g1,g2⟩,h.inj,h.bd,h.bl⟩
theorem cq.mono {B B' H:Hp} {d:Addr} {ps:List Pr} {la:Pr→Addr} {c:Pr→List (List Int)} (h:cq B H d ps la c) (s:aI B B') (no:∀ a,H a≠none→B a=none→B' a=none):cq B' H d ps la c :=
 ⟨h.at_,fun P hP=>by obtain ⟨dq,g1,g2⟩:=h.pc P hP;exact ⟨dq,g1,fun y xs hy=>s _ _ (g2 y xs hy)⟩,h.inj,no d (by rw [h.at_];exact fun z=>by cases z) h.bd,fun P hP=>no _ (by obtain ⟨dq,g1,_⟩:=h.pc P hP;rw [g1];exact fun z=>by cases z) (h.bl P hP)⟩
theorem cq.new {B H:Hp} {d a:Addr} {ps:List Pr} {la:Pr→Addr} {c:Pr→List (List Int)} {P:Pr} (h:cq B H d ps la c) (sb:aI B H) (hP:P ∉ ps) (ha:H a=none) :
  cq B (upd (upd H a (.lst [])) d (.dT (putK (jX ps la) (kP P) (.ref a)))) d (ps ++ [P]) (fun Q=>if Q=P then a else la Q) (fun Q=>if Q=P then [] else c Q):=by
 have nd:a≠d:=fun z=>by rw [z,h.at_] at ha;cases ha
 have nl:∀ Q,Q ∈ ps→la Q≠a:=fun Q hQ z=>by obtain ⟨dq,g1,_⟩:=h.pc Q hQ;rw [z,ha] at g1;cases g1
 have XO:∀ Q,Q ∈ ps→la Q≠d:=fun Q hQ z=>by obtain ⟨dq,g1,_⟩:=h.pc Q hQ;rw [z,h.at_] at g1;cases g1
 have nP:∀ Q,Q ∈ ps→Q≠P:=fun Q hQ z=>hP (z ▸ hQ)
 refine ⟨by rw [aB,Mu hP],fun Q hQ=>?_,fun Q hQ R hR e=>?_,h.bd,fun Q hQ=>?_⟩
 ·rcases List.mem_append.mp hQ with z | z
  ·obtain ⟨dq,g1,g2⟩:=h.pc Q z
   rw [if_neg (nP Q z),if_neg (nP Q z)]
   exact ⟨dq,by rw [aE (XO Q z),aE (nl Q z)];exact g1,g2⟩
  ·rw [List.mem_singleton.mp z,if_pos rfl,if_pos rfl]
   exact ⟨fun _=>0,by rw [aE nd,aB];rfl,fun y xs hy=>by cases hy⟩
 ·rcases List.mem_append.mp hQ with z | z <;> rcases List.mem_append.mp hR with y | y
  ·rw [if_neg (nP Q z),if_neg (nP R y)] at e;exact h.inj Q z R y e
  ·rw [if_neg (nP Q z),if_pos (List.mem_singleton.mp y)] at e;exact absurd e (nl Q z)
  ·rw [if_neg (nP R y),if_pos (List.mem_singleton.mp z)] at e;exact absurd e.symm (nl R y)
  ·rw [List.mem_singleton.mp z,List.mem_singleton.mp y]
 ·rcases List.mem_append.mp hQ with z | z
  ·rw [if_neg (nP Q z)];exact h.bl Q z
  ·rw [if_pos (List.mem_singleton.mp z)];exact sb.free ha
theorem KP {B H:Hp} {l a:Addr} {ps:List (List Int)} {xs:List Int} (h:wb B H l ps) (ha:B a=some (.lst (xs.map V.int))):∃ dq:Nat→Addr,H l=some (.lst (bJ ps.length dq))∧∀ H':Hp,H' l=some (.lst (bJ ps.length dq ++ [.ref a]))→wb B H' l (ps ++ [xs]):=by
 obtain ⟨dq,g1,g2⟩:=h
 refine ⟨dq,g1,fun H' e=>⟨fun i=>if i=ps.length then a else dq i,?_,fun y ys hy=>?_⟩⟩
 ·rw [e,dR,List.length_append];rfl
 ·show B (if y=ps.length then a else dq y)=_
  by_cases z:y < ps.length
  ·rw [if_neg (by omega)];rw [List.getElem?_append_left z] at hy;exact g2 y ys hy
  ·have fE:=(List.getElem?_eq_some_iff.mp hy).1
   rw [List.length_append] at fE
   have e:y=ps.length:=by simp at fE;omega
   rw [e,List.getElem?_append_right (Nat.le_refl _),Nat.sub_self] at hy
   cases hy
   rw [if_pos e];exact ha
theorem cq.push {B H:Hp} {d a:Addr} {ps:List Pr} {la:Pr→Addr} {c:Pr→List (List Int)} {P:Pr} {xs:List Int} (h:cq B H d ps la c) (hP:P ∈ ps) (ha:B a=some (.lst (xs.map V.int))) :
  ∃ dq:Nat→Addr,H (la P)=some (.lst (bJ (c P).length dq))∧cq B (upd H (la P) (.lst (bJ (c P).length dq ++ [.ref a]))) d ps la (fun Q=>if Q=P then c P ++ [xs] else c Q):=by
 obtain ⟨dq,g1,g2⟩:=KP (h.pc P hP) ha
 have XO:d≠la P:=fun z=>by rw [← z,h.at_] at g1;cases g1
 refine ⟨dq,g1,by rw [aE XO];exact h.at_,fun Q hQ=>?_,h.inj,h.bd,h.bl⟩
 by_cases z:Q=P
 ·subst z;rw [if_pos rfl];exact g2 _ aB
 ·rw [if_neg z]
  obtain ⟨qs,k1,k2⟩:=h.pc Q hQ
  exact ⟨qs,by rw [aE (fun y=>z (h.inj Q hQ P hP y))];exact k1,k2⟩
end
end K31
namespace K31
open PySem L2 PyProof.Rows
section
variable {P:Program} {w:World} {K:PySem.W.Frag} {mg:Str→Option Value} {base:Heap} {t:Ad}
theorem mZ (x:V) (l:List V):xg (x :: l) 0=some x:=by
 have h:(x :: l)[0]?=some x:=rfl
 exact iy h
theorem tw (x y:V) (l:List V):xg (x :: y :: l) 1=some y:=by
 have h:(x :: y :: l)[1]?=some y:=rfl
 exact iy h
theorem Cf {K:PySem.W.Frag} {H:Hp} {pv XQ:V} {p:Option (Int × Int)} {Q:VK} (h:fV H pv p) (h':fV H XQ p) (q:Q (.bl false) H):Sk K pv XQ H Q:=by
 cases p with
 | none =>
  have h:pv=.bN:=h
  have h':XQ=.bN:=h'
  subst h h'
  exact .inl ⟨rfl,q⟩
 | some p =>
  obtain ⟨a,rfl,g⟩:=h
  obtain ⟨a',rfl,g'⟩:=h'
  refine .inr ⟨a,a',_,_,rfl,rfl,bz.of g,bz.of g',fun j u v hu hv=>?_,q⟩
  match j,hu,hv with
  | 0,hu,hv=>cases hu;cases hv;exact .flat _ rfl
  | 1,hu,hv=>cases hu;cases hv;exact .flat _ rfl
  | j+2,hu,hv=>cases hu
theorem QH {x:Pr}:∀ (es:List Ev) (A:Wt),(∀ x,A.p=some x→A.u x)→(yG A es).p=some x→(yG A es).u x
 | [],_,h,e=>h x e
 | .mk w y ns :: r,A,h,e=>QH r (gN A (.mk w y ns)) (fun z hz=>by
   unfold gN at hz ⊢
   simp only at hz ⊢
   split at hz
   ·rename_i q;rw [if_pos q];cases hz;exact .inl rfl
   ·cases hz) e
 | .took xs :: r,A,h,e=>QH r (gN A (.took xs)) (fun z hz=>by
   unfold gN at hz ⊢
   simp only at hz ⊢
   cases ep:A.p with
   | none=>rw [ep] at hz;simp only at hz;rw [ep] at hz;cases hz
   | some y=>rw [ep] at hz;exact h z (by rw [ep];exact hz)) e
theorem Mv {c:Bool} {A G:Prop} (h:c=true→G→A) (g:G):if c=true then A else G:=by
 by_cases z:c=true
 ·rw [if_pos z];exact h z g
 ·rw [if_neg z];exact g
def iJ (_:PySem.W.Frag):Sp:=fun vs H Q _=>∃ (B:Hp) (OB fD tl:Addr) (E:List Ev) (sv lv:V) (iq:Nat→Addr) (sd:Nat) (W:Pr→List (List Int)) (A:Wt) (ps:List Pr) (la:Pr→Addr) (l:Option Pr),
 vs=[.ref OB,.ref fD,.int (sd:Int),.ref tl]∧sd < 2∧aI B H∧B fD=none∧Jz B B OB E∧H fD=some (.lst [sv,lv])∧fV B sv A.p∧fV B lv l∧(∀ x,l=some x→A.u x)∧(∀ x,A.p=some x→A.u x)∧B tl=some (.lst [.ref (iq 0),.ref (iq 1)]) ∧
 cq B H (iq sd) ps la (fun P=>(W P).take (A.k P))∧(∀ P,P ∈ ps↔A.u P)∧(∀ P,P ∈ ps→la P≠fD)∧KO W A E∧ps.length+E.length < sizeLine∧(∀ P,(W P).length < sizeLine) ∧
 ∀ (H':Hp) (GC vM:V) (lj:List Pr) (kG:Pr→Addr),aI B H'→(∀ a,H' a=none→H a=none)→(∀ a o,a≠fD→a≠iq sd→(∀ P,P ∈ ps→a≠la P)→H a=some o→H' a=some o)→H' fD=some (.lst [GC,vM])→fV B GC (yG A E).p→fV B vM (oR l E)→cq B H' (iq sd) lj kG (fun P=>(W P).take ((yG A E).k P))→(∀ P,P ∈ lj↔(yG A E).u P)→(∀ P,P ∈ lj→kG P≠fD)→(∀ P,P ∈ lj→(P ∈ ps∧kG P=la P)∨H (kG P)=none)→(∀ P,P ∈ ps→P ∈ lj∧kG P=la P)→lj.length≤ps.length+E.length→Q (.bl true) H'
theorem iK:aQ ["events","state","side","took","event"] ["events","state","side","took"] (aH cu):=⟨rfl,rfl,rfl,by decide +kernel,rfl,by decide +kernel,by decide +kernel⟩
set_option maxHeartbeats 1000000 in
theorem oT (F:aP K mg "_law_events_right" cu) (T:Txt K mg t):Def P w K mg base 10 "_law_events_right" ["events","state","side","took"] (iJ K):=by
 refine F.def iK (fun _ _ _ _ _ _ us hl=>match us,hl with | [_,_,_,_],_=>rfl) (fun vs H Q E h=>?_) (fun f bo A outer s H vs Q E hr h=>?_)
 ·obtain ⟨B,OB,fD,tl,E,sv,lv,iq,sd,W,A,ps,la,l,rfl,_⟩:=h
  rfl
 ·obtain ⟨B,OB,fD,tl,E,sv,lv,iq,sd,W,A,ps,la,l,rfl,bR,sB,VI,hE,si,RK,hlv,hl,hpu,KQ,hD,K7,XR,hA,hlen,hWl,q⟩:=h
  refine ⟨_,aC (PS.uX (dC PassesOwn.never rfl (cM K (pv 0)) (az (i:=4) iK.nd rfl (Or.inl rfl))
    (aG (bD (aW jK (aR (bj K) (pv 4) aF (fun _ _=>rfl)) cZ (aj _))
     (aC (bD (PW.pt (BA (aW pM (aR (aM K) (pv 1) aF (fun _ _=>rfl)) cJ (aj _)) (vb (Ia (PR (nj hr) (aR (bj K) (pv 4) aF (fun _ _=>rfl)) (aR (aM K) (pv 3) (pv 2) (fun _ _=>rfl))) (by rfl)))))
      (aG (aV lC))
      (af))
     (aC (bD (PW.pt (su (aW pM (aR (aM K) (pv 1) aF (fun _ _=>rfl)) cJ (aj _)) (pL (PW.pt (BA (aW jy (aR (bj K) (aR (bj K) (pv 4) aF (fun _ _=>rfl)) aF (fun _ _=>rfl)) (aR (bj K) (aR (aM K) (pv 1) aF (fun _ _=>rfl)) aF (fun _ _=>rfl)) (aj _)) (vb (aW jy (aR (bj K) (aR (bj K) (pv 4) aF (fun _ _=>rfl)) aF (fun _ _=>rfl)) (aR (bj K) (aR (aM K) (pv 1) aF (fun _ _=>rfl)) aF (fun _ _=>rfl)) (aj _))))))))
      (aG (aV lC))
      (af))
     (aC (nZ (aR (bj K) (pv 4) aF (fun _ _=>rfl)) (nY (pv 1) aF set_list))
     (aC (nZ (aR (bj K) (pv 4) aF (fun _ _=>rfl)) (nY (pv 1) aF set_list))
     (aG (Fe (nj hr) (aR (aM K) (pv 3) (pv 2) (fun _ _=>rfl)) (aR (bj K) (pv 4) aF (fun _ _=>rfl)) (bF aD) (by rfl)))))))
     (aG (bD (PW.pt (BA (aW tE (aR (aM K) (pv 1) aF (fun _ _=>rfl)) cJ (aj _)) (vb (PW.pt (su (aW (DO K (Ge hr)) (aR (bj K) (pv 4) aF (fun _ _=>rfl)) cZ (aj _)) (pL (aW (DO K (Ge hr)) (aR (bj K) (pv 4) aF (fun _ _=>rfl)) (aR (aM K) (pv 1) aF (fun _ _=>rfl)) (aj _))))))))
      (aG (aV lC))
      (aG (bD (aW jK (aR (bj K) (pv 4) aF (fun _ _=>rfl)) cZ (aj _))
       (aG (ax (jL K PySem.F.plainAttrs_list PySem.F.slot_list_append PySem.F.type_list_append cP (Fd (nj hr) (aR (aM K) (pv 3) (pv 2) (fun _ _=>rfl)) (aR (aM K) (pv 1) aF (fun _ _=>rfl)) (fun _ _=>rfl)) (aA (aR (bj K) (pv 4) aF (fun _ _=>rfl)) aD))))
       (aG (nZ cJ (nY (pv 1) aF set_list)))))))))))
   (aG (aV lC)),?_⟩
  obtain ⟨iF,g1,g2⟩:=hE
  refine ⟨_,rfl,OB,rfl,⟨_,aX.of (sB _ _ g1)⟩,lD (K:=K) (a:=OB) (xs:=bJ E.length iF) (fun i σ H'=>∃ (v4:Option V) (GC vM:V) (lj:List Pr) (kG:Pr→Addr),σ=[some (.ref OB),some (.ref fD),some (.int (sd:Int)),some (.ref tl),v4]∧aI B H'∧(∀ a,H' a=none→H a=none)∧(∀ a o,a≠fD→a≠iq sd→(∀ P,P ∈ ps→a≠la P)→H a=some o→H' a=some o)∧H' fD=some (.lst [GC,vM])∧fV B GC (yG A (E.take i)).p∧fV B vM (oR l (E.take i))∧cq B H' (iq sd) lj kG (fun P=>(W P).take ((yG A (E.take i)).k P))∧(∀ P,P ∈ lj↔(yG A (E.take i)).u P)∧(∀ P,P ∈ lj→kG P≠fD)∧(∀ P,P ∈ lj→(P ∈ ps∧kG P=la P)∨H (kG P)=none)∧(∀ P,P ∈ ps→P ∈ lj∧kG P=la P)∧lj.length≤ps.length+i)
   ⟨none,sv,lv,ps,la,rfl,sB,fun _ h=>h,fun _ _ _ _ _ h=>h,si,RK,hlv,hD,K7,XR,fun P hP=>.inl ⟨hP,rfl⟩,fun P hP=>⟨hP,rfl⟩,Nat.le_refl _⟩ (fun i σ H' _ ⟨_,_,_,_,_,_,s',_⟩=>aX.of (s' _ _ g1)) ?_ ?_⟩
  ·rintro i v σ H1 hi ⟨v4,GC,vM,lj,kG,rfl,s1,n1,f1,S1,p1,p2,D1,u1,t1,o1,w1,c1⟩
   obtain ⟨P8,rfl⟩:=tab_of hi
   have e:E[i]?=some E[i]:=by simp [P8]
   generalize E[i]=ev at e
   have ok:=hA i ev e
   have J0:=g2 i ev e
   have Qx:=GB hl (E.take i)
   have XS:=fun x=>QH (x:=x) (E.take i) A hpu
   rw [take_succ e,lh,wy]
   generalize yG A (E.take i)=Wi at *
   generalize oR l (E.take i)=li at *
   cases ev with
   | mk w x ns =>
    obtain ⟨pa,k1,k2⟩:=J0
    refine ⟨_,rfl,iF i,_,_,_,rfl,rfl,bz.of (s1 _ _ k1),mZ _ _,rfl,_,rfl,?_⟩
    rcases ok with ⟨rfl,hp,hu,hm,hz⟩ | ⟨h1,h2,hp⟩
    ·refine eN rfl ?_
     rw [hp] at p1
     obtain rfl:GC=.bN:=p1
     have nx:x ∉ lj:=fun z=>hu ((u1 x).mp z)
     refine ⟨_,rfl,fD,_,_,_,rfl,rfl,aX.of S1,mZ _ _,rfl,_,rfl,rX rfl ?_⟩
     refine ⟨_,rfl,iF i,_,_,_,rfl,rfl,bz.of (s1 _ _ k1),tw _ _ _,_,rfl,_,rfl,tl,_,_,_,rfl,rfl,aX.of (s1 _ _ KQ),cN bR,iq sd,none,rfl,by rw [← wz (la:=kG) nx];exact jw.t D1.at_ (s1 _ _ k2),_,rfl,dh ?_⟩
     refine ⟨_,rfl,fD,_,_,_,rfl,rfl,aX.of S1,tw _ _ _,rfl,_,rfl,?_⟩
     refine Mv (fun hc hG=>?_) ?_
     ·cases li with
      | none =>
       obtain rfl:vM=.bN:=p2
       simp at hc
      | some y =>
       obtain ⟨ya,rfl,ky⟩:=p2
       obtain ⟨m1,m2⟩:=hm y (Qx y rfl)
       refine ⟨_,rfl,_,_,_,_,rfl,rfl,bz.of (s1 _ _ k1),tw _ _ _,pa,_,_,_,rfl,rfl,bz.of (s1 _ _ k2),mZ _ _,_,rfl,fD,_,_,_,rfl,rfl,aX.of S1,tw _ _ _,ya,_,_,_,rfl,rfl,bz.of (s1 _ _ ky),mZ _ _,_,_,rfl,rfl,_,rfl,dW (by omega) ?_⟩
       exact ⟨_,rfl,_,_,_,_,rfl,rfl,bz.of (s1 _ _ k1),tw _ _ _,pa,_,_,_,rfl,rfl,bz.of (s1 _ _ k2),tw _ _ _,_,rfl,fD,_,_,_,rfl,rfl,aX.of S1,tw _ _ _,ya,_,_,_,rfl,rfl,bz.of (s1 _ _ ky),tw _ _ _,_,_,rfl,rfl,_,rfl,dW (by omega) hG⟩
     have s2:aI B (upd (upd H1 fD (.lst [.ref pa,vM])) fD (.lst [.ref pa,.ref pa])):=(s1.put VI).put VI
     have s3:aI B (upd H1 fD (.lst [.ref pa,vM])):=s1.put VI
     refine ⟨_,rfl,iF i,_,_,_,rfl,rfl,bz.of (s1 _ _ k1),tw _ _ _,_,rfl,fD,_,_,_,rfl,rfl,S1,rfl,?_⟩
     refine ⟨_,rfl,iF i,_,_,_,rfl,rfl,bz.of (s3 _ _ k1),tw _ _ _,_,rfl,fD,_,_,_,rfl,rfl,aB,rfl,?_⟩
     refine ⟨by show 0≤sizeLine;exact Nat.zero_le _,fun a ha=>?_⟩
     have nd:fD≠iq sd:=fun z=>by rw [z,D1.at_] at S1;cases S1
     have S2:(upd (upd H1 fD (.lst [.ref pa,vM])) fD (.lst [.ref pa,.ref pa])) fD=some (.lst [.ref pa,.ref pa]):=aB
     have XU:∀ b o,b≠fD→H1 b=some o→(upd (upd H1 fD (.lst [.ref pa,vM])) fD (.lst [.ref pa,.ref pa])) b=some o:=fun b o h e=>by rw [aE h,aE h];exact e
     have n2:∀ b,(upd (upd H1 fD (.lst [.ref pa,vM])) fD (.lst [.ref pa,.ref pa])) b=none→H1 b=none:=fun b h=>by
      by_cases z:b=fD
      ·rw [z,aB] at h;cases h
      ·rw [aE z,aE z] at h;exact h
     have OC:(upd (upd H1 fD (.lst [.ref pa,vM])) fD (.lst [.ref pa,.ref pa])) a=none:=ha
     have D2:cq B (upd (upd H1 fD (.lst [.ref pa,vM])) fD (.lst [.ref pa,.ref pa])) (iq sd) lj kG _:=D1.keep (fun o e=>XU _ o (Ne.symm nd) e) (fun Q hQ o e=>XU _ o (t1 Q hQ) e)
     have D3:=D2.new s2 nx OC
     have s4:aI B (upd (upd (upd H1 fD (.lst [.ref pa,vM])) fD (.lst [.ref pa,.ref pa])) a (.lst [])):=s2.new OC
     have na:a≠iq sd:=fun z=>by rw [z,D2.at_] at OC;cases OC
     refine ⟨_,rfl,_,rfl,tl,_,_,_,rfl,rfl,aX.of (s4 _ _ KQ),cN bR,_,rfl,iF i,_,_,_,rfl,rfl,bz.of (s4 _ _ k1),tw _ _ _,iq sd,_,rfl,BY.t (k:=kP x) (by rw [aE (Ne.symm na)];exact D2.at_) (s4 _ _ k2) (by unfold jX;rw [List.length_map];omega),?_⟩
     have eW:gN Wi (Ev.mk "up" x ns)=⟨some x,Wi.k,fun P=>P=x∨Wi.u P⟩:=by unfold gN;simp only;exact if_pos trivial
     rw [eW]
     have ec:(fun Q=>if Q=x then [] else (W Q).take (Wi.k Q))=fun Q=>(W Q).take (Wi.k Q):=by
      funext Q
      by_cases z:Q=x
      ·rw [if_pos z,z,hz];rfl
      ·rw [if_neg z]
     rw [ec] at D3
     have Tr:a≠fD:=fun z=>by rw [z,S2] at OC;cases OC
     have Dl:H1 a=none:=n2 a OC
     refine ⟨_,.ref pa,.ref pa,lj ++ [x],_,rfl,s4.put D1.bd,fun b h=>n1 b (n2 b ((aI.refl _).new OC |>.free (ed h (by rw [aE (Ne.symm na),D2.at_];exact fun z=>by cases z)))),fun b o h1 h2 h3 h4=>?_,by rw [aE nd,aE (Ne.symm Tr)];exact S2,⟨pa,rfl,k2⟩,⟨pa,rfl,k2⟩,D3,fun Q=>?_,fun Q hQ=>?_,fun Q hQ=>?_,fun Q hQ=>⟨List.mem_append.mpr (.inl (w1 Q hQ).1),(if_neg (fun z:Q=x=>nx (z ▸ (w1 Q hQ).1))).trans (w1 Q hQ).2⟩,by rw [List.length_append];show lj.length+1≤_;omega⟩
     ·have h5:=f1 b o h1 h2 h3 h4
      rw [aE h2,aE (fun z=>by rw [z,Dl] at h5;cases h5)]
      exact XU b o h1 h5
     ·rw [List.mem_append,List.mem_singleton,u1 Q];exact Or.comm
     ·show (if Q=x then a else kG Q)≠fD
      by_cases z:Q=x
      ·rw [if_pos z];exact Tr
      ·rw [if_neg z];exact t1 Q ((List.mem_append.mp hQ).resolve_right fun y=>z (List.mem_singleton.mp y))
     ·show (Q ∈ ps∧(if Q=x then a else kG Q)=la Q)∨H (if Q=x then a else kG Q)=none
      by_cases z:Q=x
      ·rw [if_pos z];exact .inr (n1 a Dl)
      ·rw [if_neg z];exact o1 Q ((List.mem_append.mp hQ).resolve_right fun y=>z (List.mem_singleton.mp y))
    ·refine dW (fun z=>h1 (V.str.inj z)) ?_
     rw [hp] at p1
     obtain ⟨sa,rfl,ks⟩:=p1
     refine ⟨_,rfl,fD,_,_,_,rfl,rfl,aX.of S1,mZ _ _,rfl,_,rfl,dW (fun z=>by cases z) ?_⟩
     refine ⟨_,rfl,iF i,_,_,_,rfl,rfl,bz.of (s1 _ _ k1),mZ _ _,.inl ⟨rfl,_,rfl,uc (fun z=>h2 (V.str.inj z)) ?_⟩⟩
     refine ⟨_,rfl,iF i,_,_,_,rfl,rfl,bz.of (s1 _ _ k1),tw _ _ _,_,rfl,fD,_,_,_,rfl,rfl,aX.of S1,mZ _ _,Cf (p:=some x) ⟨pa,rfl,s1 _ _ k2⟩ ⟨sa,rfl,s1 _ _ ks⟩ ⟨_,rfl,dh ?_⟩⟩
     refine ⟨_,rfl,iF i,_,_,_,rfl,rfl,bz.of (s1 _ _ k1),mZ _ _,rfl,_,rfl,dW (fun z=>h2 (V.str.inj z)) ?_⟩
     refine ⟨_,rfl,fD,_,_,_,rfl,rfl,S1,rfl,?_⟩
     have nd:fD≠iq sd:=fun z=>by rw [z,D1.at_] at S1;cases S1
     have eW:gN Wi (Ev.mk w x ns)=⟨none,Wi.k,Wi.u⟩:=by unfold gN;simp only;rw [if_neg h1]
     rw [eW]
     refine ⟨_,.bN,vM,lj,kG,rfl,s1.put VI,fun a h=>n1 a (ed h (by rw [S1];exact fun z=>by cases z)),fun a o h1 h2 h3 h4=>by rw [aE h1];exact f1 a o h1 h2 h3 h4,aB,rfl,?_,D1.keep (fun o e=>by rw [aE (Ne.symm nd)];exact e) (fun Q hQ o e=>by rw [aE (t1 Q hQ)];exact e),u1,t1,o1,w1,by omega⟩
     show fV B vM (if w=("up":Str) then some x else li)
     rw [if_neg h1];exact p2
   | took xs =>
    obtain ⟨la0,k1,k2⟩:=J0
    obtain ⟨x,hp,hw⟩:=ok
    refine ⟨_,rfl,iF i,_,_,_,rfl,rfl,bz.of (s1 _ _ k1),mZ _ _,rfl,_,rfl,dW (fun z=>absurd (V.str.inj z) (show ¬ ("took":Str)="up" by decide)) ?_⟩
    rw [hp] at p1
    obtain ⟨sa,rfl,ks⟩:=p1
    refine ⟨_,rfl,fD,_,_,_,rfl,rfl,aX.of S1,mZ _ _,rfl,_,rfl,dW (fun z=>by cases z) ?_⟩
    refine ⟨_,rfl,iF i,_,_,_,rfl,rfl,bz.of (s1 _ _ k1),mZ _ _,.inl ⟨rfl,_,rfl,rX rfl ?_⟩⟩
    refine ⟨_,rfl,iF i,_,_,_,rfl,rfl,bz.of (s1 _ _ k1),mZ _ _,rfl,_,rfl,eN rfl ?_⟩
    have hx:x ∈ lj:=(u1 x).mpr (XS x hp)
    obtain ⟨dq,g3,D2⟩:=D1.push hx k2
    refine ⟨_,rfl,_,rfl,tl,_,_,_,rfl,rfl,aX.of (s1 _ _ KQ),cN bR,_,rfl,fD,_,_,_,rfl,rfl,aX.of S1,mZ _ _,iq sd,.ref (kG x),rfl,by rw [← oS hx];exact jw.t D1.at_ (s1 _ _ ks),?_⟩
    refine ⟨.inl ⟨rfl,_,aX.of g3⟩,_,rfl,iF i,_,_,_,rfl,rfl,bz.of (s1 _ _ k1),tw _ _ _,kG x,_,_,rfl,rfl,g3,?_,?_⟩
    ·rw [aL,List.length_take];exact Nat.lt_of_le_of_lt (Nat.min_le_right _ _) (hWl x)
    have eW:gN Wi (Ev.took xs)=⟨Wi.p,fun P=>if P=x then Wi.k x+1 else Wi.k P,Wi.u⟩:=by unfold gN;simp only;rw [hp]
    rw [eW]
    have hlb:B (kG x)=none:=D1.bl x hx
    refine ⟨_,.ref sa,vM,lj,kG,rfl,s1.put hlb,fun a h=>n1 a (ed h (by rw [g3];exact fun z=>by cases z)),fun a o h1 h2 h3 h4=>?_,by rw [aE (Ne.symm (t1 x hx))];exact S1,by rw [hp];exact ⟨sa,rfl,ks⟩,p2,?_,u1,t1,o1,w1,by omega⟩
    ·have:a≠kG x:=by
      rcases o1 x hx with ⟨y1,y2⟩ | y
      ·rw [y2];exact h3 x y1
      ·intro z;rw [z,y] at h4;cases h4
     rw [aE this];exact f1 a o h1 h2 h3 h4
    ·have ec:(fun P=>(W P).take (if P=x then Wi.k x+1 else Wi.k P))=fun Q=>if Q=x then (W x).take (Wi.k x) ++ [xs] else (W Q).take (Wi.k Q):=by
      funext Q
      by_cases z:Q=x
      ·rw [if_pos z,if_pos z,z,Hn hw]
      ·rw [if_neg z,if_neg z]
     show cq B _ _ _ _ (fun P=>(W P).take (if P=x then Wi.k x+1 else Wi.k P))
     rw [ec];exact D2
  ·rintro σ H1 ⟨v4,GC,vM,lj,kG,rfl,s1,n1,f1,S1,p1,p2,D1,u1,t1,o1,w1,c1⟩
   rw [aL,List.take_length] at p1 p2 D1 u1
   rw [aL] at c1
   exact q H1 GC vM lj kG s1 n1 f1 S1 p1 p2 D1 u1 t1 o1 w1 c1
end
end K31
namespace K31
open PySem L2 PyProof.Rows
section
variable {P:Program} {w:World} {K:PySem.W.Frag} {mg:Str→Option Value} {base:Heap} {t:Ad}
structure Sx (Bv:A4) (C:Addr) (B H E:Hp) (n:Nat) (x tA pA d:Nat→Addr) (sl:Nat→Nat→Addr) (L:Nat→Lk) (rows:Nat→Nat→List Rw) (ρ:Addr→Nat):Prop where
 sb:aI B H
 lk:∀ s,s < 2→bO C B H (x s) (tA s) (pA s) (L s)
 cg:∀ s,s < 2→Cg Bv B H (d s) (sl s) n (rows s)
 rx:∀ s,s < 2→ρ (x s)=10+s
 rt:∀ s,s < 2→ρ (tA s)=20+s
 rp:∀ s,s < 2→ρ (pA s)=30+s
 rs:∀ s,s < 2→∀ j,j < n→ρ (sl s j)=50+s
 ee:aI E H
 eb:∀ a,E a≠none→B a=none
 er:∀ a,E a≠none→ρ a=100
 en:∀ a o,E a=some o→vK o
section
variable {Bv:A4} {C:Addr} {B H B' H' E E':Hp} {n:Nat} {x tA pA d:Nat→Addr} {sl:Nat→Nat→Addr} {L:Nat→Lk} {rows:Nat→Nat→List Rw} {ρ:Addr→Nat} {s:Nat}
theorem GD {α:Type} {o:Option α} (h:o≠none):∃ v,o=some v:=by
 cases o with
 | none=>exact absurd rfl h
 | some v=>exact ⟨v,rfl⟩
theorem Sx.he (h:Sx Bv C B H E n x tA pA d sl L rows ρ) {a:Addr} (hi:E a≠none):H a≠none:=fun z=>hi (h.ee.free z)
theorem Sx.same (mb:fX Bv) (h:Sx Bv C B H E n x tA pA d sl L rows ρ) (e:aI H H'):Sx Bv C B H' E n x tA pA d sl L rows ρ :=
 ⟨h.sb.trans e,fun s hs=>(h.lk s hs).same e,fun s hs=>(h.cg s hs).mv mb (aI.refl _) (fun _ _ z=>z) fun j _ o g=>e _ _ g,h.rx,h.rt,h.rp,h.rs,h.ee.trans e,h.eb,h.er,h.en⟩
theorem Sx.VH (mb:fX Bv) {tB pB:Addr} {L':Lk} (h:Sx Bv C B H E n x tA pA d sl L rows ρ) (hs:s < 2) (mv:jU B H B' H' (x s) (tA s) (pA s) tB pB) (hl:bO C B' H' (x s) tB pB L') :
  ∃ ρ',Sx Bv C B' H' E n x (at2 tA s tB) (at2 pA s pB) d sl (at2 L s L') rows ρ'∧∀ a,a≠tB→a≠pB→ρ' a=ρ a:=by
 have old:∀ {a:Addr} {i:Nat},ρ a=i→i≠10+s→i≠20+s→i≠30+s→∀ o,H a=some o→H' a=some o:=fun {a i} e n1 n2 n3 o g=>mv.k a o (dZ e (h.rx s hs) n1) (dZ e (h.rt s hs) n2) (dZ e (h.rp s hs) n3) g
 have nt:∀ {a:Addr} {i:Nat},ρ a=i→i≠20+s→H a≠none→a≠tB:=fun {a i} e n1 g z=>by
  rcases mv.t with y | y
  ·exact dZ e (h.rt s hs) n1 (z.trans y)
  ·exact g (by rw [z];exact y)
 have np:∀ {a:Addr} {i:Nat},ρ a=i→i≠30+s→H a≠none→a≠pB:=fun {a i} e n1 g z=>by
  rcases mv.p with y | y
  ·exact dZ e (h.rp s hs) n1 (z.trans y)
  ·exact g (by rw [z];exact y)
 have rr:∀ {a:Addr} {i:Nat},ρ a=i→i≠20+s→i≠30+s→H a≠none→(fun b=>if b=tB then 20+s else if b=pB then 30+s else ρ b) a=i:=fun {a i} e n1 n2 g=>by
  show (if a=tB then 20+s else if a=pB then 30+s else ρ a)=i
  rw [if_neg (nt e n1 g),if_neg (np e n2 g)];exact e
 refine ⟨fun b=>if b=tB then 20+s else if b=pB then 30+s else ρ b,⟨hl.sb,?_,?_,?_,?_,?_,?_,fun a o e=>old (h.er a (by rw [e];exact fun z=>by cases z)) (by omega) (by omega) (by omega) _ (h.ee _ _ e),fun a hi=>mv.no _ (h.he hi) (h.eb a hi),fun a hi=>rr (h.er a hi) (by omega) (by omega) (h.he hi),h.en⟩,fun a h1 h2=>by show (if a=tB then 20+s else if a=pB then 30+s else ρ a)=ρ a;rw [if_neg h1,if_neg h2]⟩
 ·intro i hi
  by_cases z:i=s
  ·subst z;rw [aO,aO,aO];exact hl
  ·rw [ae z,ae z,ae z]
   exact (h.lk i hi).mv hl.sb mv.bb mv.no (old (h.rx i hi) (by omega) (by omega) (by omega)) (old (h.rt i hi) (by omega) (by omega) (by omega)) (old (h.rp i hi) (by omega) (by omega) (by omega))
 ·intro i hi
  exact (h.cg i hi).mv mb mv.bb mv.no fun j hj=>old (h.rs i hi j hj) (by omega) (by omega) (by omega)
 ·intro i hi
  exact rr (h.rx i hi) (by omega) (by omega) (h.lk i hi).hx
 ·intro i hi
  by_cases z:i=s
  ·subst z;rw [aO];exact if_pos rfl
  ·rw [ae z];exact rr (h.rt i hi) (by omega) (by omega) (h.lk i hi).ht
 ·intro i hi
  by_cases z:i=s
  ·subst z
   rw [aO]
   show (if pB=tB then 20+i else if pB=pB then 30+i else ρ pB)=_
   rw [if_neg (Ne.symm hl.ne),if_pos rfl]
  ·rw [ae z];exact rr (h.rp i hi) (by omega) (by omega) (h.lk i hi).hp
 ·intro i hi j hj
  exact rr (h.rs i hi j hj) (by omega) (by omega) ((h.cg i hi).at_ j hj).val
theorem Sx.gv (mb:fX Bv) {ra:Nat→List Rw} (h:Sx Bv C B H E n x tA pA d sl L rows ρ) (hs:s < 2) (g:Gv B H B' H' (sl s) n) (c:Cg Bv B' H' (d s) (sl s) n ra):Sx Bv C B' H' E n x tA pA d sl L (at2 rows s ra) ρ:=by
 have old:∀ {a:Addr} {i:Nat},ρ a=i→i≠50+s→∀ o,H a=some o→H' a=some o:=fun {a i} e n1 o q=>g.fr a o (fun j hj=>dZ e (h.rs s hs j hj) n1) q
 refine ⟨g.bh,?_,?_,h.rx,h.rt,h.rp,h.rs,fun a o e=>old (h.er a (by rw [e];exact fun z=>by cases z)) (by omega) _ (h.ee _ _ e),fun a hi=>g.no _ (h.he hi) (h.eb a hi),h.er,h.en⟩
 ·intro i hi
  exact (h.lk i hi).mv g.bh g.bb g.no (old (h.rx i hi) (by omega)) (old (h.rt i hi) (by omega)) (old (h.rp i hi) (by omega))
 ·intro i hi
  by_cases z:i=s
  ·subst z;rw [aO];exact c
  ·rw [ae z]
   exact (h.cg i hi).mv mb g.bb g.no fun j hj=>old (h.rs i hi j hj) (by omega)
theorem Sx.grow (mb:fX Bv) {a:Addr} {o:HO} (h:Sx Bv C B H E n x tA pA d sl L rows ρ) (s:aI H H') (na:H a=none) (ea:H' a=some o) :
  Sx Bv C (upd B a o) H' E n x tA pA d sl L rows ρ∧aI B (upd B a o):=by
 have h1:=h.same mb s
 have sB:aI B (upd B a o):=(aI.refl _).new (h.sb.free na)
 have no:∀ b,H b≠none→B b=none→(upd B a o) b=none:=fun b hb e=>by rw [aE (fun z=>hb (by rw [z];exact na))];exact e
 have F9:aI (upd B a o) H':=fun b u e=>by
  by_cases z:b=a
  ·rw [z] at e ⊢;rw [aB] at e;rw [ea];exact e
  ·rw [aE z] at e;exact h1.sb _ _ e
 exact ⟨⟨F9,fun i hi=>(h.lk i hi).mv F9 sB no (fun o e=>s _ _ e) (fun o e=>s _ _ e) (fun o e=>s _ _ e),fun i hi=>(h.cg i hi).mv mb sB no fun j _ o e=>s _ _ e,h.rx,h.rt,h.rp,h.rs,h1.ee,fun a hi=>no _ (h.he hi) (h.eb a hi),h.er,h.en⟩,sB⟩
theorem Sx.chg (mb:fX Bv) (h:Sx Bv C B H E n x tA pA d sl L rows ρ) (fr:∀ a o,E a=none→H a=some o→H' a=some o) (XJ:aI E' H') (nw:∀ a,E' a≠none→E a≠none∨H a=none) (XM:∀ a o,E' a=some o→vK o):∃ ρ',Sx Bv C B H' E' n x tA pA d sl L rows ρ':=by
 classical
 have ez:∀ {b:Addr} {k:Nat},ρ b=k→k < 100→E b=none:=fun {b k} q n1=>Classical.byContradiction fun z=>by have:=h.er b z;omega
 have old:∀ {b:Addr} {k:Nat},ρ b=k→k < 100→∀ u,H b=some u→H' b=some u:=fun {b k} q n1 u g=>fr b u (ez q n1) g
 have F9:aI B H':=fun a o e=>fr a o (Classical.byContradiction fun z=>by rw [h.eb a z] at e;cases e) (h.sb _ _ e)
 have rr:∀ {b:Addr} {k:Nat},ρ b=k→k < 100→H b≠none→(if E' b≠none then 100 else ρ b)=k:=fun {b k} q n1 hb=>by
  rw [if_neg (fun z=>(nw b z).elim (fun y=>y (ez q n1)) hb)];exact q
 exact ⟨fun a=>if E' a≠none then 100 else ρ a,F9,fun i hi=>(h.lk i hi).mv F9 (aI.refl _) (fun _ _ z=>z) (old (h.rx i hi) (by omega)) (old (h.rt i hi) (by omega)) (old (h.rp i hi) (by omega)),fun i hi=>(h.cg i hi).mv mb (aI.refl _) (fun _ _ z=>z) fun j hj=>old (h.rs i hi j hj) (by omega),
  fun i hi=>rr (h.rx i hi) (by omega) (h.lk i hi).hx,fun i hi=>rr (h.rt i hi) (by omega) (h.lk i hi).ht,fun i hi=>rr (h.rp i hi) (by omega) (h.lk i hi).hp,fun i hi j hj=>rr (h.rs i hi j hj) (by omega) ((h.cg i hi).at_ j hj).val,XJ,fun a ha=>(nw a ha).elim (h.eb a) h.sb.free,fun a ha=>if_pos ha,XM⟩
theorem Sx.put (mb:fX Bv) {a:Addr} {o:HO} (h:Sx Bv C B H E n x tA pA d sl L rows ρ) (ha:E a≠none) (no:vK o):∃ ρ',Sx Bv C B (upd H a o) (upd E a o) n x tA pA d sl L rows ρ':=by
 refine h.chg mb (fun b u hb e=>by rw [aE (fun z=>ha (by rw [← z];exact hb))];exact e) (fun b u e=>?_) (fun b hb=>?_) (fun b u e=>?_)
 ·by_cases z:b=a
  ·rw [z,aB] at e;rw [z,aB];exact e
  ·rw [aE z] at e ⊢;exact h.ee _ _ e
 ·by_cases z:b=a
  ·rw [z];exact .inl ha
  ·rw [aE z] at hb;exact .inl hb
 ·by_cases z:b=a
  ·rw [z,aB] at e;cases e;exact no
  ·rw [aE z] at e;exact h.en _ _ e
theorem Sx.new (mb:fX Bv) {a:Addr} {o:HO} (h:Sx Bv C B H E n x tA pA d sl L rows ρ) (ha:H a=none) (no:vK o):∃ ρ',Sx Bv C B (upd H a o) (upd E a o) n x tA pA d sl L rows ρ':=by
 refine h.chg mb (fun b u hb e=>by rw [aE (fun z=>by rw [z,ha] at e;cases e)];exact e) (fun b u e=>?_) (fun b hb=>?_) (fun b u e=>?_)
 ·by_cases z:b=a
  ·rw [z,aB] at e;rw [z,aB];exact e
  ·rw [aE z] at e ⊢;exact h.ee _ _ e
 ·by_cases z:b=a
  ·rw [z];exact .inr ha
  ·rw [aE z] at hb;exact .inl hb
 ·by_cases z:b=a
  ·rw [z,aB] at e;cases e;exact no
  ·rw [aE z] at e;exact h.en _ _ e
theorem Sx.re (h:Sx Bv C B H E n x tA pA d sl L rows ρ) {L':Nat→Lk} (hL:∀ s,s < 2→L' s=L s):Sx Bv C B H E n x tA pA d sl L' rows ρ :=
 ⟨h.sb,fun s hs=>by rw [hL s hs];exact h.lk s hs,h.cg,h.rx,h.rt,h.rp,h.rs,h.ee,h.eb,h.er,h.en⟩
end
open Classical in
noncomputable def QI (x t p:Nat→Addr) (sl:Nat→Nat→Addr) (n:Nat) (E:Hp) (a:Addr):Nat :=
 if E a≠none then 100 else cH x t p sl n 0 (fun _=>0) a
theorem Sx.start {Bv:A4} {C:Addr} {H E:Hp} {n:Nat} {x t p d:Nat→Addr} {sl:Nat→Nat→Addr} {L:Nat→Lk} (ap:Apart x t p sl n 0 (fun _=>0)) (lk:∀ s,s < 2→∃ B0,bO C B0 H (x s) (t s) (p s) (L s)) (le:∀ s,s < 2→(L s).ev=[]∧(L s).bS=[]∧(L s).p=none)
  (dl:∀ s,s < 2→H (d s)=some (.lst (bJ n (sl s)))) (dz:∀ s,s < 2→cH x t p sl n 0 (fun _=>0) (d s)=0) (inj:∀ s,s < 2→∀ i j,i < n→j < n→sl s i=sl s j→i=j) (XN:∀ s,s < 2→∀ j,j < n→H (sl s j)=some (.lst [])) (ee:aI E H) (en:∀ a o,E a=some o→vK o) (ez:∀ a,E a≠none→cH x t p sl n 0 (fun _=>0) a=0∧a≠d 0∧a≠d 1) :
  ∃ B,Sx Bv C B H E n x t p d sl L (fun _ _=>[]) (QI x t p sl n E)∧∀ a o,E a=none→cH x t p sl n 0 (fun _=>0) a=0→H a=some o→B a=some o:=by
 classical
 obtain ⟨r1,r2,r3,r5,_⟩:=GA ap
 have rE:∀ {a:Addr} {k:Nat},cH x t p sl n 0 (fun _=>0) a=k→k≠0→QI x t p sl n E a=k:=fun {a k} e h=>by
  unfold QI
  rw [if_neg (fun z=>h (by rw [← e];exact (ez a z).1))];exact e
 have no:∀ {a:Addr} {k:Nat},cH x t p sl n 0 (fun _=>0) a=k→k≠0→(fun a=>if E a=none∧cH x t p sl n 0 (fun _=>0) a=0 then H a else none) a=none:=fun {a k} e h=>by
  show (if E a=none∧cH x t p sl n 0 (fun _=>0) a=0 then H a else none)=none
  rw [if_neg (by rw [e];exact fun z=>h z.2)]
 have yes:∀ a o,E a=none→cH x t p sl n 0 (fun _=>0) a=0→H a=some o→(fun a=>if E a=none∧cH x t p sl n 0 (fun _=>0) a=0 then H a else none) a=some o:=fun a o e1 e h=>by
  show (if E a=none∧cH x t p sl n 0 (fun _=>0) a=0 then H a else none)=some o
  rw [if_pos ⟨e1,e⟩];exact h
 have sb:aI (fun a=>if E a=none∧cH x t p sl n 0 (fun _=>0) a=0 then H a else none) H:=fun a o e=>by
  have e:(if E a=none∧cH x t p sl n 0 (fun _=>0) a=0 then H a else none)=some o:=e
  by_cases z:E a=none∧cH x t p sl n 0 (fun _=>0) a=0
  ·rw [if_pos z] at e;exact e
  ·rw [if_neg z] at e;cases e
 have dn:∀ s,s < 2→E (d s)=none:=fun s hs=>Classical.byContradiction fun z=>by
  have:=ez _ z
  match s,hs with
  | 0,_=>exact this.2.1 rfl
  | 1,_=>exact this.2.2 rfl
  | s+2,h=>omega
 refine ⟨fun a=>if E a=none∧cH x t p sl n 0 (fun _=>0) a=0 then H a else none,⟨sb,?_,?_,fun s hs=>rE (r1 s hs) (by omega),fun s hs=>rE (r2 s hs) (by omega),fun s hs=>rE (r3 s hs) (by omega),fun s hs j hj=>rE (r5 s hs j hj) (by omega),ee,fun a ha=>?_,fun a ha=>if_pos ha,en⟩,yes⟩
 ·intro s hs
  obtain ⟨B0,l⟩:=lk s hs
  obtain ⟨q1,q2,q3⟩:=le s hs
  obtain ⟨dx,pv,g,gp⟩:=l.at_
  obtain ⟨iF,g2,CM⟩:=l.told
  obtain ⟨dq,g3,vW⟩:=l.bS
  refine ⟨sb,no (r1 s hs) (by omega),no (r2 s hs) (by omega),no (r3 s hs) (by omega),⟨dx,pv,g,?_⟩,⟨iF,g2,fun y e he=>by rw [q1] at he;cases he⟩,⟨dq,g3,fun y e he=>by rw [q2] at he;cases he⟩,l.ne⟩
  rw [q3] at gp ⊢;exact gp
 ·intro s hs
  exact ⟨yes _ _ (dn s hs) (dz s hs) (dl s hs),inj s hs,fun j hj=>⟨no (r5 s hs j hj) (by omega),fun _=>0,XN s hs j hj,fun y r e=>by cases e⟩⟩
 ·show (if E a=none∧cH x t p sl n 0 (fun _=>0) a=0 then H a else none)=none
  rw [if_neg fun z=>ha z.1]
end
end K31
namespace K31
open PySem L2 PyProof.Rows
section
variable {P:Program} {w:World} {K:PySem.W.Frag} {mg:Str→Option Value} {base:Heap} {t:Ad}
theorem pf (aq:List (List Key × V)):vK (.dT aq):=⟨(fun _ z=>by cases z),(fun _ _ z=>by cases z)⟩
theorem cq.ZU {B H E:Hp} {d:Addr} {ps:List Pr} {la:Pr→Addr} {c:Pr→List (List Int)} (h:cq B H d ps la c) (s:aI E H) (hd:E d≠none) (hl:∀ P,P ∈ ps→E (la P)≠none):cq B E d ps la c:=by
 have k:∀ a o,E a≠none→H a=some o→E a=some o:=fun a o n e=>by
  obtain ⟨u,hu⟩:=GD n
  rw [hu,← e,s _ _ hu]
 exact h.keep (fun o e=>k _ _ hd e) (fun P hP o e=>k _ _ (hl P hP) e)
theorem cq.LB {B B' E:Hp} {d:Addr} {ps:List Pr} {la:Pr→Addr} {c:Pr→List (List Int)} (h:cq B E d ps la c) (bb:aI B B') (eb:∀ a,E a≠none→B' a=none):cq B' E d ps la c :=
 ⟨h.at_,fun P hP=>by obtain ⟨dq,g1,g2⟩:=h.pc P hP;exact ⟨dq,g1,fun y xs hy=>bb _ _ (g2 y xs hy)⟩,h.inj,eb d (by rw [h.at_];exact fun z=>by cases z),fun P hP=>eb _ (by obtain ⟨dq,g1,_⟩:=h.pc P hP;rw [g1];exact fun z=>by cases z)⟩
theorem cq.nd {B E:Hp} {d:Addr} {ps:List Pr} {la:Pr→Addr} {c:Pr→List (List Int)} (h:cq B E d ps la c):E d≠none:=by rw [h.at_];exact fun z=>by cases z
theorem cq.nl {B E:Hp} {d:Addr} {ps:List Pr} {la:Pr→Addr} {c:Pr→List (List Int)} (h:cq B E d ps la c) {P:Pr} (hP:P ∈ ps):E (la P)≠none:=by obtain ⟨dq,g1,_⟩:=h.pc P hP;rw [g1];exact fun z=>by cases z
theorem cq.up {B E H:Hp} {d:Addr} {ps:List Pr} {la:Pr→Addr} {c:Pr→List (List Int)} (h:cq B E d ps la c) (s:aI E H):cq B H d ps la c:=h.keep (fun o e=>s _ _ e) (fun P hP o e=>s _ _ e)
theorem cq.dl {B E:Hp} {d:Addr} {ps:List Pr} {la:Pr→Addr} {c:Pr→List (List Int)} (h:cq B E d ps la c) {P:Pr} (hP:P ∈ ps):la P≠d:=fun z=>by obtain ⟨dq,g1,_⟩:=h.pc P hP;rw [z,h.at_] at g1;cases g1
theorem Mw {xs:List V} {lo hi:Nat} (h1:lo≤hi) (h2:hi≤xs.length):fb xs (some (lo:Int)) (some (hi:Int))=(xs.drop lo).take (hi - lo):=by
 unfold fb
 rw [HT.iw,HT.iw,Nat.min_eq_left h2,Nat.min_eq_left (by omega)]
def u7 (K:PySem.W.Frag) (C:Addr):Sp:=fun vs H Q _=>∃ (B E:Hp) (n:Nat) (x tA pA d:Nat→Addr) (sl:Nat→Nat→Addr) (L:Nat→Lk) (rows:Nat→Nat→List Rw) (ρ:Addr→Nat) (sd:Nat) (fD pl nA:Addr) (sv lv:V) (kW:Nat→Addr) (qs:List Pr) (lb:Pr→Addr) (c:Pr→List (List Int)) (ns:List Int),
 vs=[.ref (x sd),.ref fD,.int (sd:Int),.ref pl,.ref nA]∧sd < 2∧Sx Cc C B H E n x tA pA d sl L rows ρ∧E fD=some (.lst [sv,lv])∧fV B sv (L sd).p∧B pl=some (.lst [.ref (kW 0),.ref (kW 1)])∧cq B E (kW sd) qs lb c∧(∀ P,P ∉ qs→c P=[])∧(∀ P,P ∈ qs→lb P≠fD)∧B nA=some (.lst (ns.map V.int))∧15≤ns.length∧ns.length≤100∧(∀ v ∈ ns,0≤v)∧(L sd).bS.length < 900000∧qs.length < 900000∧(∀ P,(c P).length < 900000)∧((L sd).p=none→(L sd).bS=[]) ∧
 ((L sd).p=none→Q (.bl true) H) ∧
 ∀ P,(L sd).p=some P→∀ (B' H' E':Hp) (ρ':Addr→Nat) (gd:List (List Int)) (Ci:List Pr) (EJ:Pr→Addr),aI B B'→Sx Cc C B' H' E' n x tA pA d sl (at2 L sd { L sd with bS:=(L sd).bS ++ gd }) rows ρ'→gd.length≤3→(∀ xs ∈ gd,CY xs)→cq B' E' (kW sd) Ci EJ (fun Q=>if Q=P then c P ++ gd else c Q)→(∀ Q,Q ∈ Ci↔Q ∈ qs∨Q=P)→(∀ Q,Q ∈ qs→EJ Q=lb Q)→(∀ Q,Q ∈ Ci→Q ∉ qs→H (EJ Q)=none)→(∀ a o,a≠kW sd→(∀ Q,Q ∈ qs→a≠lb Q)→E a=some o→E' a=some o)→Ci.length≤qs.length+1→Q (.bl true) H'
theorem oU:aQ ["end","state","side","put","numbers","k","piece"] ["end","state","side","put","numbers"] (aH jR):=⟨rfl,rfl,rfl,by decide +kernel,rfl,by decide +kernel,by decide +kernel⟩
set_option maxHeartbeats 1000000 in
theorem Cj {Tt ZV:FuncData} (F:aP K mg "_law_put" jR) (T:Txt K mg t) (ph:bZ P w K mg base (i9 P w) 1 t.pX Tt ["self"] (wj t.LinkEnd)) (pj:Binds K Tt ["self"] []) (KR:bZ P w K mg base (i9 P w) 3 t.Bq ZV ["self","piece"] (KA K t.LinkEnd t.NoLink t.BadPiece)) (KS:Binds K ZV ["self","piece"] []):Def P w K mg base 10 "_law_put" ["end","state","side","put","numbers"] (u7 K t.LinkEnd):=by
 refine F.def oU (fun _ _ _ _ _ _ us hl=>match us,hl with | [_,_,_,_,_],_=>rfl) (fun vs H Q E h=>?_) (fun f bo A outer s H vs Q E hr h=>?_)
 ·obtain ⟨B,E,n,x,tA,pA,d,sl,L,rows,ρ,sd,fD,pl,nA,sv,lv,kW,qs,lb,c,ns,rfl,_⟩:=h
  rfl
 ·obtain ⟨B,E,n,x,tA,pA,d,sl,L,rows,ρ,sd,fD,pl,nA,sv,lv,kW,qs,lb,c,ns,rfl,bR,st,si,RK,kK,hD,hc0,XR,R4,ZW,Rl,ZX,U5,hql,K5,ML,q1,q2⟩:=h
  refine ⟨_,aC (bD (aW tE (aR (aM K) (pv 1) aF (fun _ _=>rfl)) cJ (aj _))
    (aG (aV (pN jK (dg (pv 0) T.aJ T.Bx (ph.mono (by decide)) hr pj .nil ar) aF (aj _))))
    (af))
   (aC (tK (bD (Ia (Gs (nj hr) (aR (aM K) (pv 1) aF (fun _ _=>rfl)) (aR (aM K) (pv 3) (pv 2) (fun _ _=>rfl))) (by rfl))
    (aG (Fe (nj hr) (aR (aM K) (pv 3) (pv 2) (fun _ _=>rfl)) (aR (aM K) (pv 1) aF (fun _ _=>rfl)) (bF aD) (by rfl)))
    (af)))
   (aC (PS.uX (dC PassesOwn.never rfl (cv (by rfl) T.df (aA (aN aw (aR (aM K) (pv 4) aF (fun _ _=>rfl)) aF) aD)) (az (i:=5) oU.nd rfl (Or.inl rfl))
    (aC (lF (i:=6) oU.nd rfl (Or.inl rfl) rfl (Nc:=["number"]) (ix:=[none]) (dE (aH jR) ["end","state","side","put","numbers","k","piece"] rfl rfl (by decide +kernel)) (cM K (iA (iB K) (pv 4) (fZ (aN bA (pv 5) aF)) (fZ (aN bA (aN bA (pv 5) aF) (aN aw (aR (aM K) (pv 4) (aN bA (pv 5) aF) (fun _ _=>rfl)) aF))))) (fun C fp s H=>⟨(az (i:=0) (show (["number"]:List Str).Nodup by decide +kernel) rfl (Or.inl rfl)),cX,(aN aw (aN cW (pv 0) aF) aF)⟩))
    (aC (ax (pO (pv 0) T.aJ T.Po (KR.mono (by decide)) hr KS .nil ar (aA (pv 6) aD)))
    (aG (ax (jL K PySem.F.plainAttrs_list PySem.F.slot_list_append PySem.F.type_list_append cP (Fd (nj hr) (aR (aM K) (pv 3) (pv 2) (fun _ _=>rfl)) (aR (aM K) (pv 1) aF (fun _ _=>rfl)) (fun _ _=>rfl)) (aA (pv 6) aD))))))))
   (aG (aV lC)))),?_⟩
  have hsz:(1000001:Nat)≤sizeLine:=by decide
  refine ⟨_,rfl,fD,_,_,_,rfl,rfl,aX.of (st.ee _ _ si),mZ _ _,rfl,_,rfl,?_⟩
  cases ep:(L sd).p with
  | none =>
   rw [ep] at RK
   obtain rfl:sv=.bN:=RK
   refine eN rfl ?_
   have lk:=st.lk sd bR
   obtain ⟨dx,pv,hx,_⟩:=lk.at_
   refine ⟨_,rfl,x sd,dx,_,rfl,hx,rfl,⟨B,x sd,tA sd,pA sd,L sd,rfl,lk,?_⟩⟩
   rw [ML ep]
   exact ⟨rfl,q1 ep⟩
  | some P =>
   rw [ep] at RK
   obtain ⟨sa,rfl,ks⟩:=RK
   refine dW (fun z=>by cases z) ?_
   refine ⟨fun σ H'=>∃ (E':Hp) (ρ':Addr→Nat) (Ci:List Pr) (EJ:Pr→Addr),σ=[some (.ref (x sd)),some (.ref fD),some (.int (sd:Int)),some (.ref pl),some (.ref nA),none,none]∧Sx Cc t.LinkEnd B H' E' n x tA pA d sl L rows ρ'∧E' fD=some (.lst [.ref sa,lv])∧cq B E' (kW sd) Ci EJ c∧(∀ Q,Q ∈ Ci↔Q ∈ qs∨Q=P)∧(∀ Q,Q ∈ qs→EJ Q=lb Q)∧(∀ Q,Q ∈ Ci→Q ∉ qs→H (EJ Q)=none)∧(∀ a o,a≠kW sd→(∀ Q,Q ∈ qs→a≠lb Q)→E a=some o→E' a=some o)∧Ci.length≤qs.length+1,?_,?_⟩
   ·by_cases hP:P ∈ qs
    ·refine ⟨_,rfl,fD,_,_,_,rfl,rfl,aX.of (st.ee _ _ si),mZ _ _,_,rfl,_,rfl,pl,_,_,_,rfl,rfl,aX.of (st.sb _ _ kK),cN bR,kW sd,some (.ref (lb P)),rfl,by rw [← oS hP];exact jw.t (st.ee _ _ hD.at_) (st.sb _ _ ks),_,rfl,dh ?_⟩
     exact ⟨E,ρ,qs,lb,rfl,st,si,hD,fun Q=>⟨.inl,fun z=>z.elim id fun y=>y ▸ hP⟩,fun _ _=>rfl,fun Q h1 h2=>absurd h1 h2,fun _ _ _ _ e=>e,Nat.le_succ _⟩
    ·refine ⟨_,rfl,fD,_,_,_,rfl,rfl,aX.of (st.ee _ _ si),mZ _ _,_,rfl,_,rfl,pl,_,_,_,rfl,rfl,aX.of (st.sb _ _ kK),cN bR,kW sd,none,rfl,by rw [← wz (la:=lb) hP];exact jw.t (st.ee _ _ hD.at_) (st.sb _ _ ks),_,rfl,fc ?_⟩
     refine ⟨by show 0≤sizeLine;exact Nat.zero_le _,fun a ha=>?_⟩
     obtain ⟨ρ1,GF⟩:=st.new dm ha (lZ [])
     have Tu:E a=none:=st.ee.free ha
     have nd:a≠kW sd:=fun z=>hD.nd (by rw [← z];exact Tu)
     have Tr:a≠fD:=fun z=>by rw [z,si] at Tu;cases Tu
     have nds:fD≠kW sd:=fun z=>by rw [z,hD.at_] at si;cases si
     obtain ⟨ρ2,A1⟩:=GF.put dm (a:=kW sd) (o:=.dT (putK (jX qs lb) (kP P) (.ref a))) (by rw [aE (Ne.symm nd)];exact hD.nd) (pf _)
     have D3:=((hD.up st.ee).new st.sb hP ha).ZU A1.ee (by rw [aB];exact fun z=>by cases z) (fun Q hQ=>by
      show (upd (upd E a (.lst [])) (kW sd) _) (if Q=P then a else lb Q)≠none
      by_cases z:Q=P
      ·rw [if_pos z,aE nd,aB];exact fun z=>by cases z
      ·have XW:Q ∈ qs:=(List.mem_append.mp hQ).resolve_right fun y=>z (List.mem_singleton.mp y)
       rw [if_neg z,aE (hD.dl XW),aE (fun y=>hD.nl XW (by rw [y];exact Tu))]
       exact hD.nl XW)
     have ec:(fun Q=>if Q=P then [] else c Q)=c:=funext fun Q=>by
      by_cases z:Q=P
      ·rw [if_pos z,z,hc0 P hP]
      ·rw [if_neg z]
     rw [ec] at D3
     refine ⟨_,rfl,_,rfl,pl,_,_,_,rfl,rfl,aX.of (GF.sb _ _ kK),cN bR,_,rfl,fD,_,_,_,rfl,rfl,aX.of (GF.ee _ _ (by rw [aE (Ne.symm Tr)];exact si)),mZ _ _,kW sd,_,rfl,BY.t (k:=kP P) (by rw [aE (Ne.symm nd)];exact st.ee _ _ hD.at_) (GF.sb _ _ ks) (by unfold jX;rw [List.length_map];omega),?_⟩
     refine ⟨_,ρ2,qs ++ [P],_,rfl,A1,by rw [aE nds,aE (Ne.symm Tr)];exact si,D3,fun Q=>by rw [List.mem_append,List.mem_singleton],fun Q hQ=>if_neg (fun z:Q=P=>hP (z ▸ hQ)),fun Q h1 h2=>?_,fun b o h1 h2 e=>?_,by rw [List.length_append];exact Nat.le_refl _⟩
     ·have z:Q=P:=List.mem_singleton.mp ((List.mem_append.mp h1).resolve_left h2)
      show H (if Q=P then a else lb Q)=none
      rw [if_pos z];exact ha
     ·rw [aE h1,aE (fun z=>by rw [z,Tu] at e;cases e)];exact e
   ·rintro σ H1 ⟨E1,ρ1,Tv,QJ,rfl,GF,O7,D1,u1,o1,n1,f1,l1⟩
    have Tw:P ∈ Tv:=(u1 P).mpr (.inr rfl)
    have XX:∀ Q,Q ∈ Tv→QJ Q≠fD:=fun Q hQ z=>by
     by_cases y:Q ∈ qs
     ·exact XR Q y ((o1 Q y).symm.trans z)
     ·have:=n1 Q hQ y;rw [z,st.ee _ _ si] at this;cases this
    obtain ⟨v0,hv0⟩:∃ v0,ns[0]?=some v0:=⟨ns[0],by simp⟩
    refine ⟨_,rfl,nA,_,_,_,rfl,rfl,aX.of (GF.sb _ _ R4),iy (j:=0) (by rw [List.getElem?_map,hv0];rfl),_,_,rfl,rfl,(by show (0:Int) < 4;decide),v0 % 4,rfl,by omega,by omega,?_⟩
    have e0:({ L sd with bS:=(L sd).bS ++ [] }:Lk)=L sd:=by rw [List.append_nil]
    have e00:(fun Q=>if Q=P then c P ++ [] else c Q)=c:=funext fun Q=>by
     by_cases z:Q=P
     ·rw [if_pos z,z,List.append_nil]
     ·rw [if_neg z]
    refine fT (lo:=0) (n:=(v0 % 4).toNat) (fun i σ H'=>∃ (B' E':Hp) (ρ':Addr→Nat) (v5 v6:Option V) (gd:List (List Int)),σ=[some (.ref (x sd)),some (.ref fD),some (.int (sd:Int)),some (.ref pl),some (.ref nA),v5,v6]∧gd.length=i∧aI B B'∧Sx Cc t.LinkEnd B' H' E' n x tA pA d sl (at2 L sd { L sd with bS:=(L sd).bS ++ gd }) rows ρ'∧(∀ xs ∈ gd,CY xs)∧E' fD=some (.lst [.ref sa,lv])∧cq B' E' (kW sd) Tv QJ (fun Q=>if Q=P then c P ++ gd else c Q)∧∀ a o,a≠kW sd→(∀ Q,Q ∈ Tv→a≠QJ Q)→E1 a=some o→E' a=some o)
     ⟨B,E1,ρ1,none,none,[],rfl,rfl,aI.refl _,by rw [e0,lg];exact GF,fun xs hx=>(by cases hx),O7,by rw [e00];exact D1,fun _ _ _ _ e=>e⟩ ?_ ?_
    ·rintro i σ H2 hi ⟨B2,E2,ρ2,v5,v6,gd,rfl,U3,b2,A1,XY,QK,D2,f2⟩
     rw [show (0:Int)+(i:Nat)=(i:Int) by omega]
     have hi3:i≤2:=by omega
     obtain ⟨v1,U6⟩:∃ v1,ns[i+1]?=some v1:=⟨ns[i+1],by simp⟩
     have Tx:=b2 _ _ R4
     have XI:xg (ns.map V.int) ((i:Int)+1)=some (.int v1):=by
      rw [show (i:Int)+1=((i+1:Nat):Int) by omega]
      exact iy (by rw [List.getElem?_map,U6];rfl)
     have aBM:0≤v1:=ZX v1 (List.mem_of_getElem? U6)
     refine ⟨_,rfl,_,rfl,_,_,rfl,rfl,_,rfl,_,rfl,_,_,rfl,rfl,_,rfl,_,rfl,_,_,rfl,rfl,nA,_,_,_,rfl,rfl,aX.of (A1.sb _ _ Tx),XI,_,_,rfl,rfl,(by show (0:Int) < 10;decide),_,_,rfl,rfl,_,rfl,nA,_,rfl,aX.of (A1.sb _ _ Tx),fun sA hsA=>?_⟩
     obtain ⟨m,hm,hm9⟩:∃ m:Nat,v1 % 10=(m:Int)∧m≤9:=⟨(v1 % 10).toNat,by omega,by omega⟩
     have KW:fb (ns.map V.int) (some ((i:Int)+1)) (some ((i:Int)+2+v1 % 10))=((ns.drop (i+1)).take (m+1)).map V.int:=by
      rw [hm,show (i:Int)+1=((i+1:Nat):Int) by omega,show (i:Int)+2+(m:Int)=((i+2+m:Nat):Int) by omega,Mw (by omega) (by rw [List.length_map];omega),List.map_take,List.map_drop]
      congr 1;omega
     have hlen:((ns.drop (i+1)).take (m+1)).length=m+1:=by rw [List.length_take,List.length_drop];omega
     have WZ:∀ v ∈ (ns.drop (i+1)).take (m+1),0≤v:=fun v hv=>ZX v (List.mem_of_mem_drop (List.mem_of_mem_take hv))
     rw [KW]
     generalize (ns.drop (i+1)).take (m+1)=cs at *
     have s3:aI H2 (upd H2 sA (.lst (cs.map V.int))):=(aI.refl _).new hsA
     have e3:(upd H2 sA (.lst (cs.map V.int))) sA=some (.lst (cs.map V.int)):=aB
     generalize upd H2 sA (.lst (cs.map V.int))=H3 at *
     refine ⟨sA,rfl,⟨_,aX.of e3⟩,fun D XZ=>?_⟩
     refine rY (K:=K) (a:=sA) (xs:=cs.map V.int) (fun j σ H'=>(∃ v,σ=[v])∧aI H3 H'∧H' D=some (.lst (((cs.take j).map fun v=>v / 13 % 97).map V.int))) ⟨⟨none,rfl⟩,(aI.refl _).new XZ,aB⟩ (fun j σ H' _ p=>aX.of (p.2.1 _ _ e3)) ?_ ?_
     ·rintro j v σ H' N hN hj ⟨⟨v0',rfl⟩,s4,e4⟩
      obtain ⟨z,hz,rfl⟩:=mC hj
      refine de ?_
      refine ⟨_,rfl,_,_,rfl,rfl,(by show (0:Int) < 13∧(13:Int) < 1073741824;decide),_,_,rfl,rfl,(by show (0:Int) < 97;decide),_,e4,by rw [List.length_map,List.length_map,List.length_take];omega,hN _ _ ⟨⟨_,rfl⟩,s4.put XZ,?_⟩⟩
      rw [aB,take_succ hz,List.map_append,List.map_append];rfl
     rintro σ H4 ⟨⟨v0',rfl⟩,s4,e4⟩
     rw [List.length_map,List.take_length] at e4
     have Xa:CY (cs.map fun v=>v / 13 % 97):=by
      refine ⟨by rw [List.length_map,hlen];omega,fun v hv=>?_⟩
      obtain ⟨u,hu,rfl⟩:=List.mem_map.mp hv
      exact AX _
     generalize (cs.map fun v=>v / 13 % 97)=ms at *
     obtain ⟨JC,sB4⟩:=(A1.same dm s3).grow dm s4 XZ e4
     have TK:(upd B2 D (.lst (ms.map V.int))) D=some (.lst (ms.map V.int)):=aB
     generalize upd B2 D (.lst (ms.map V.int))=B4 at *
     have Xb:=JC.lk sd bR
     rw [aO] at Xb
     obtain ⟨dx,pv,hx,_⟩:=Xb.at_
     have MK:({ L sd with bS:=(L sd).bS ++ gd }:Lk).p=some P:=ep
     refine ⟨_,rfl,x sd,dx,_,rfl,hx,rfl,_,rfl,B4,x sd,tA sd,pA sd,D,_,ms,rfl,Xb,?_,aX.of e4,fun v hv=>?_,fun z=>absurd (MK.symm.trans z) (fun z=>by cases z),fun _ z=>absurd Xa z,fun _ _ B5 H5 mv VJ=>?_⟩
     ·show ((L sd).bS ++ gd).length < 1000000
      rw [List.length_append];omega
     ·obtain ⟨w1,w2⟩:=Xa.2 v hv
      exact Nat.lt_of_lt_of_le (show v.natAbs < 97 by omega) (by decide)
     obtain ⟨ρ5,vd,_⟩:=JC.VH dm bR mv VJ
     rw [lg,lg,vZ] at vd
     have eL:({ ({ L sd with bS:=(L sd).bS ++ gd }:Lk) with bS:=((L sd).bS ++ gd) ++ [ms] }:Lk)={ L sd with bS:=(L sd).bS ++ (gd ++ [ms]) }:=by rw [List.append_assoc]
     have vd:Sx Cc t.LinkEnd B5 H5 E2 n x tA pA d sl (at2 L sd { L sd with bS:=(L sd).bS ++ (gd ++ [ms]) }) rows ρ5:=by rw [← eL];exact vd
     have VL:aI B2 B5:=sB4.trans mv.bb
     have Wq:=mv.bb _ _ TK
     obtain ⟨dq,g3,D6⟩:=(D2.LB VL vd.eb).push Tw Wq
     rw [if_pos rfl] at g3
     obtain ⟨ρ6,st6⟩:=vd.put dm (a:=QJ P) (o:=.lst (bJ (c P ++ gd).length dq ++ [.ref D])) (D2.nl Tw) (lZ _)
     refine ⟨_,rfl,_,rfl,pl,_,_,_,rfl,rfl,aX.of (vd.sb _ _ (VL _ _ (b2 _ _ kK))),cN bR,_,rfl,fD,_,_,_,rfl,rfl,aX.of (vd.ee _ _ QK),mZ _ _,kW sd,.ref (QJ P),rfl,by rw [← oS Tw];exact jw.t (vd.ee _ _ D2.at_) (vd.sb _ _ (VL _ _ (b2 _ _ ks))),?_⟩
     refine ⟨.inl ⟨rfl,_,aX.of (vd.ee _ _ g3)⟩,_,rfl,QJ P,_,_,rfl,rfl,vd.ee _ _ g3,?_,?_⟩
     ·have:=K5 P
      rw [aL,List.length_append];omega
     refine ⟨B5,_,ρ6,_,_,gd ++ [ms],rfl,by rw [List.length_append];show gd.length+1=_;omega,b2.trans VL,st6,fun xs Xc=>(List.mem_append.mp Xc).elim (XY xs) fun y=>by rw [List.mem_singleton.mp y];exact Xa,by rw [aE (Ne.symm (XX P Tw))];exact QK,?_,fun a o h1 h2 e=>by rw [aE (h2 P Tw)];exact f2 a o h1 h2 e⟩
     have ec:(fun Q=>if Q=P then (if P=P then c P ++ gd else c P) ++ [ms] else if Q=P then c P ++ gd else c Q)=fun Q=>if Q=P then c P ++ (gd ++ [ms]) else c Q:=funext fun Q=>by
      by_cases z:Q=P
      ·rw [if_pos z,if_pos z,if_pos rfl,List.append_assoc]
      ·rw [if_neg z,if_neg z,if_neg z]
     rw [ec] at D6
     simp only [if_true] at D6
     exact D6
    ·rintro σ H2 ⟨B2,E2,ρ2,v5,v6,gd,rfl,U3,b2,A1,XY,QK,D2,f2⟩
     refine q2 P ep B2 H2 E2 ρ2 gd Tv QJ b2 A1 (by omega) XY D2 u1 o1 n1 (fun a o h1 h2 e=>f2 a o h1 (fun Q hQ z=>?_) (f1 a o h1 h2 e)) l1
     by_cases y:Q ∈ qs
     ·exact h2 Q y (z.trans (o1 Q y))
     ·have:=n1 Q hQ y;rw [← z,st.ee _ _ e] at this;cases this
end
end K31
namespace K31
open PySem L2 PyProof.Rows
section
variable {P:Program} {w:World} {K:PySem.W.Frag} {mg:Str→Option Value} {base:Heap} {t:Ad}
def w8 (H:Hp) (d:Addr):Hp:=fun a=>if a=d then none else H a
theorem ll {H:Hp} {d a:Addr} (h:a≠d):w8 H d a=H a:=if_neg h
theorem xA {H:Hp} {d:Addr}:aI (w8 H d) H:=fun a o e=>by
 have e:(if a=d then none else H a)=some o:=e
 split at e
 ·cases e
 ·exact e
theorem Ho {H:Hp} {d:Addr} {o:HO}:aI (w8 H d) (upd H d o):=fun a u e=>by
 have e:(if a=d then none else H a)=some u:=e
 split at e
 ·cases e
 ·rename_i z;rw [aE z];exact e
theorem EK {H H':Hp} {d:Addr} {o:HO} (s:aI (w8 H d) H') (h:H d=some o):aI H (upd H' d o):=fun a u e=>by
 by_cases z:a=d
 ·rw [z] at e ⊢;rw [aB,← e,h]
 ·rw [aE z];exact s _ _ (by rw [ll z];exact e)
theorem Ck {B H:Hp} {e:Addr} (h:H e=some (.lst [])):wb B H e []:=⟨fun _=>0,h,fun y xs hy=>by cases hy⟩
theorem KY {K:PySem.W.Frag} {B H:Hp} {W:List (List Int)} {n:Nat} {f g:Nat→Addr} (sb:aI B H) (hf:∀ y xs,(W.take n)[y]?=some xs→B (f y)=some (.lst (xs.map V.int))) (hg:∀ y xs,W[y]?=some xs→B (g y)=some (.lst (xs.map V.int))) (hn:(W.take n).length=m) :
  ∀ (j:Nat) (u v:V),(bJ m f)[j]?=some u→(bJ m g)[j]?=some v→xn K H 8 u v:=by
 intro j u v hu hv
 obtain ⟨hj,rfl⟩:=tab_of hu
 obtain ⟨_,rfl⟩:=tab_of hv
 obtain ⟨xs,e⟩:∃ xs,(W.take n)[j]?=some xs:=⟨_,List.getElem?_eq_getElem (by rw [hn];exact hj)⟩
 have e2:W[j]?=some xs:=by
  rw [List.getElem?_take] at e
  split at e
  ·exact e
  ·cases e
 exact .lst (n:=7) (aX.of (sb _ _ (hf j xs e))) (aX.of (sb _ _ (hg j xs e2))) rfl fun k a b ha hb=>by
  rw [ha] at hb
  cases hb
  obtain ⟨z,_,rfl⟩:=mC ha
  exact .flat _ rfl
theorem KZ {B H:Hp} {d e b:Addr} {qs:List Pr} {lb:Pr→Addr} {c:Pr→List (List Int)} {P:Pr} (D:cq B H d qs lb c) (hc:P ∉ qs→c P=[]) (hb:H b=some (.tup [.int P.1,.int P.2])) (he:H e=some (.lst [])):∃ (o:Option V) (dA:Addr),jw H d (.ref b) o∧o.getD (.ref e)=.ref dA∧wb B H dA (c P):=by
 by_cases z:P ∈ qs
 ·exact ⟨_,lb P,jw.t (k:=kP P) D.at_ hb,by rw [oS z];rfl,D.pc P z⟩
 ·exact ⟨_,e,jw.t (k:=kP P) D.at_ hb,by rw [wz z];rfl,by rw [hc z];exact Ck he⟩
structure Bk (B E:Hp) (L:Nat→Lk) (G:Gh) (sa kW iq:Nat→Addr) (sv lv:Nat→V) (ps qs:Nat→List Pr) (la lb:Nat→Pr→Addr):Prop where
 s:∀ s,s < 2→E (sa s)=some (.lst [sv s,lv s])
 v:∀ s,s < 2→fV B (sv s) (L s).p
 t:∀ s,s < 2→cq B E (iq s) (ps s) (la s) (fun P=>(G.W (1 - s) P).take (G.K s P))
 p:∀ s,s < 2→cq B E (kW s) (qs s) (lb s) (G.W s)
 w:∀ s,s < 2→∀ P,P ∉ qs s→G.W s P=[]
 u:∀ s,s < 2→∀ P,P ∈ ps s↔G.U s P
 k:∀ s,s < 2→∀ P,¬ G.U s P→G.K s P=0
def ir (K:PySem.W.Frag) (C:Addr):Sp:=fun vs H Q _=>∃ (B E:Hp) (n:Nat) (x tA pA d:Nat→Addr) (sl:Nat→Nat→Addr) (L:Nat→Lk) (rows:Nat→Nat→List Rw) (ρ:Addr→Nat) (eL sL pl tl:Addr) (sa kW iq:Nat→Addr) (sv lv:Nat→V) (ps qs:Nat→List Pr) (la lb:Nat→Pr→Addr) (G:Gh),
 vs=[.ref eL,.ref sL,.ref pl,.ref tl]∧Sx Cc C B H E n x tA pA d sl L rows ρ∧B eL=some (.lst [.ref (x 0),.ref (x 1)])∧B sL=some (.lst [.ref (sa 0),.ref (sa 1)])∧B pl=some (.lst [.ref (kW 0),.ref (kW 1)])∧B tl=some (.lst [.ref (iq 0),.ref (iq 1)])∧Bk B E L G sa kW iq sv lv ps qs la lb∧Rel G∧(∀ s,s < 2→En G s (L s))∧(∀ i j,i < 2→j < 2→kW i≠iq j) ∧
 ∀ H',aI H H'→Q (.bl true) H'
theorem bX:aQ ["ends","states","put","took","side","pair","due","most"] ["ends","states","put","took"] (aH dG):=⟨rfl,rfl,rfl,by decide +kernel,rfl,by decide +kernel,by decide +kernel⟩
set_option maxHeartbeats 1000000 in
theorem qA {Tt ZY:FuncData} (F:aP K mg "_law_pairs_right" dG) (T:Txt K mg t) (ph:bZ P w K mg base (i9 P w) 1 t.pX Tt ["self"] (wj t.LinkEnd)) (pj:Binds K Tt ["self"] []) (QL:bZ P w K mg base (i9 P w) 1 t.Jq ZY ["self"] (N7 t.LinkEnd)) (QM:Binds K ZY ["self"] []):Def P w K mg base 10 "_law_pairs_right" ["ends","states","put","took"] (ir K t.LinkEnd):=by
 refine F.def bX (fun _ _ _ _ _ _ us hl=>match us,hl with | [_,_,_,_],_=>rfl) (fun vs H Q E h=>?_) (fun f bo A outer s H vs Q E hr h=>?_)
 ·obtain ⟨B,E,n,x,tA,pA,d,sl,L,rows,ρ,eL,sL,pl,tl,sa,kW,iq,sv,lv,ps,qs,la,lb,G,rfl,_⟩:=h
  rfl
 ·obtain ⟨B,E,n,x,tA,pA,d,sl,L,rows,ρ,eL,sL,pl,tl,sa,kW,iq,sv,lv,ps,qs,la,lb,G,rfl,st,Tz,VM,kK,KQ,bk,rel,en,Wu,q⟩:=h
  refine ⟨_,aC (PS.uX (dC PassesOwn.never rfl (cv (by rfl) T.df (aA aF aD)) (az (i:=4) bX.nd rfl (Or.inl rfl))
    (aC (Jb P w (dC PassesOwn.never rfl (Gz P w (aR (aM K) (pv 3) (pv 4) (fun _ _=>rfl))) (az (i:=5) bX.nd rfl (Or.inl rfl))
     (aC (aT (i:=6) bX.nd rfl (Or.inl rfl) (vz (nj hr) (aR (aM K) (pv 2) (aN jJ aF (pv 4)) (fun _ _=>rfl)) (pv 5) (bF aD) ⟨rfl,rfl,rfl,rfl⟩))
     (aG (bD (aW (Lj K (Ge hr)) (Bg P w (nj hr) (aR (aM K) (pv 3) (pv 4) (fun _ _=>rfl)) (pv 5) (fun _ _=>rfl)) (iA (iB K) (pv 6) rT (fZ (bP (bQ K) (by rfl) T.iD boot_len (aA (Bg P w (nj hr) (aR (aM K) (pv 3) (pv 4) (fun _ _=>rfl)) (pv 5) (fun _ _=>rfl)) aD)))) (aj _))
      (aG (aV lC))
      (af)))))
    ) (aC (aT (i:=5) bX.nd rfl (Or.inl rfl) (aR (aM K) (aR (aM K) (pv 1) (pv 4) (fun _ _=>rfl)) aF (fun _ _=>rfl)))
    (aC (bD (aW (DO K (Ge hr)) (dg (aR (aM K) (pv 0) (pv 4) (fun _ _=>rfl)) T.aJ T.S8 (QL.mono (by decide)) hr QM .nil ar) (pv 5) (aj _))
     (aG (aV lC))
     (af))
    (aG (bD (aW pM (pv 5) cJ (aj _))
     (aC (aT (i:=7) bX.nd rfl (Or.inl rfl) (bP (bQ K) (by rfl) T.iD boot_len (aA (vz (nj hr) (aR (aM K) (pv 2) (pv 4) (fun _ _=>rfl)) (pv 5) (bF aD) ⟨rfl,rfl,rfl,rfl⟩) aD)))
     (aG (bD (kJ (rQ qB qB (aN jJ (pv 7) (bP (bQ K) (by rfl) T.iD boot_len (aA (vz (nj hr) (aR (aM K) (pv 3) (aN jJ aF (pv 4)) (fun _ _=>rfl)) (pv 5) (bF aD) ⟨rfl,rfl,rfl,rfl⟩) aD))) (dg (aR (aM K) (pv 0) (pv 4) (fun _ _=>rfl)) T.aJ T.Bx (ph.mono (by decide)) hr pj .nil ar) (pv 7)))
      (aG (aV lC))
      (af))))
     (af))))))))
   (aG (aV lC)),?_⟩
  have hsz:(1000001:Nat)≤sizeLine:=by decide
  refine ⟨2,rfl,by decide,by decide,?_⟩
  refine fT (lo:=0) (n:=2) (fun _ σ H'=>∃ v4 v5 v6 v7:Option V,σ=[some (.ref eL),some (.ref sL),some (.ref pl),some (.ref tl),v4,v5,v6,v7]∧aI H H') ⟨none,none,none,none,rfl,aI.refl _⟩ ?_ ?_
  ·rintro sd σ H1 bR ⟨v4,v5,v6,v7,rfl,s1⟩
   rw [show (0:Int)+(sd:Nat)=(sd:Int) by omega]
   have GF:=st.same dm s1
   have uz:1 - sd < 2:=by omega
   have A3:(1:Int) - (sd:Int)=((1 - sd:Nat):Int):=by omega
   have Dt:=bk.t sd bR
   have Dp:=bk.p (1 - sd) uz
   have VN:=GF.ee _ _ Dt.at_
   have hdp:=GF.ee _ _ Dp.at_
   have OA:kW (1 - sd)≠iq sd:=Wu _ _ uz bR
   refine ⟨_,rfl,_,rfl,tl,_,_,_,rfl,rfl,aX.of (GF.sb _ _ KQ),cN bR,iq sd,_,rfl,VN,fun u bs ok=>?_⟩
   have hbn:∀ {b:Addr} {o:HO},B b=some o→b≠iq sd:=fun {b o} e z=>by rw [z,Dt.bd] at e;cases e
   refine G5 (n:=(jX (ps sd) (la sd)).length) (fun _ σ H'=>∃ v5 v6:Option V,σ=[some (.ref eL),some (.ref sL),some (.ref pl),some (.ref tl),some (.int (sd:Int)),v5,v6,v7]∧aI (w8 H1 (iq sd)) H'∧H' (iq sd)=some u) ⟨_,_,rfl,Ho,aB⟩ (fun i σ H' _ ⟨_,_,_,_,e⟩=>e) ?_ ?_
   ·rintro i σ H2 hi ⟨v5,v6,rfl,s2,JM⟩
    obtain ⟨P,hP⟩:∃ P,(ps sd)[i]?=some P:=⟨_,List.getElem?_eq_getElem (by unfold jX at hi;rw [List.length_map] at hi;exact hi)⟩
    have VO:P ∈ ps sd:=List.mem_of_getElem? hP
    have hkv:(jX (ps sd) (la sd))[i]?=some (kP P,V.ref (la sd P)):=by unfold jX;rw [List.getElem?_map,hP];rfl
    have kb2:∀ {b:Addr} {o:HO},B b=some o→H2 b=some o:=fun {b o} e=>s2 _ _ (by rw [ll (hbn e)];exact GF.sb _ _ e)
    have kb1:∀ {b:Addr} {o:HO},b≠iq sd→E b=some o→H2 b=some o:=fun {b o} n e=>s2 _ _ (by rw [ll n];exact GF.ee _ _ e)
    have QN:∀ a xs,H1 a=some (.tup xs)→H2 a=some (.tup xs):=fun a xs e=>s2 _ _ (by rw [ll (fun z=>by rw [z,VN] at e;cases e)];exact e)
    have ZZ:=ok.keep QN
    have Fh:=ZZ.ks i _ _ hkv
    have sB2:aI B H2:=fun b o e=>kb2 e
    refine ⟨_,rfl,_,rfl,_,_,rfl,rfl,pl,_,_,_,rfl,rfl,aX.of (kb2 kK),by rw [A3];exact cN uz,kW (1 - sd),rfl,.inr ⟨_,.inl (kb1 OA Dp.at_)⟩,_,rfl,by show 0≤sizeLine;exact Nat.zero_le _,fun e he=>?_⟩
    have s3:aI H2 (upd H2 e (.lst [])):=(aI.refl _).new he
    have e3:(upd H2 e (.lst [])) e=some (.lst []):=aB
    generalize upd H2 e (.lst [])=H3 at *
    obtain ⟨o,dA,ho,PZ,hdA⟩:∃ (o:Option V) (dA:Addr),iz (jX (qs (1 - sd)) (lb (1 - sd))) (kP P)=o∧o.getD (.ref e)=.ref dA∧wb B H3 dA (G.W (1 - sd) P):=by
     by_cases z:P ∈ qs (1 - sd)
     ·refine ⟨_,lb (1 - sd) P,oS z,rfl,?_⟩
      obtain ⟨dq,g1,g2⟩:=Dp.pc P z
      exact ⟨dq,s3 _ _ (kb1 (fun y=>by rw [y,Dt.at_] at g1;cases g1) g1),g2⟩
     ·refine ⟨_,e,wz z,rfl,?_⟩
      rw [bk.w _ uz P z];exact Ck e3
    refine ⟨o,by rw [← ho];exact jw.t (s3 _ _ (kb1 OA Dp.at_)) (s3 _ _ Fh),?_⟩
    rw [PZ]
    obtain ⟨Hq,d1,d2⟩:=hdA
    obtain ⟨Xd,t1,t2⟩:=Dt.pc P VO
    have Za:H3 (la sd P)=some (.lst (bJ ((G.W (1 - sd) P).take (G.K sd P)).length Xd)):=s3 _ _ (kb1 (Dt.dl VO) t1)
    have Zb:=ZZ.keep (fun a xs e=>s3 _ _ e)
    have Xe:=sB2.trans s3
    have hlen:((G.W (1 - sd) P).take (G.K sd P)).length≤(G.W (1 - sd) P).length:=by rw [List.length_take];exact Nat.min_le_right _ _
    refine ⟨_,rfl,_,rfl,tl,_,_,_,rfl,rfl,aX.of (Xe _ _ KQ),cN bR,_,rfl,iq sd,_,u,bs,bs i,kP P,.ref (la sd P),rfl,s3 _ _ JM,Zb,rfl,s3 _ _ Fh,oS VO,?_⟩
    refine ⟨_,rfl,_,rfl,_,rfl,tl,_,_,_,rfl,rfl,aX.of (Xe _ _ KQ),cN bR,_,rfl,iq sd,_,u,bs,bs i,kP P,.ref (la sd P),rfl,s3 _ _ JM,Zb,rfl,s3 _ _ Fh,oS VO,la sd P,_,rfl,.inl (aX.of Za),_,rfl,dA,_,rfl,aX.of d1,fun cA hcA=>?_⟩
    rw [aL]
    have KW:fb (bJ (G.W (1 - sd) P).length Hq) none (some (((((G.W (1 - sd) P).take (G.K sd P)).length:Nat):Int)))=bJ ((G.W (1 - sd) P).take (G.K sd P)).length Hq:=qP hlen
    rw [KW]
    have s4:aI H3 (upd H3 cA (.lst (bJ ((G.W (1 - sd) P).take (G.K sd P)).length Hq))):=(aI.refl _).new hcA
    have e4:(upd H3 cA (.lst (bJ ((G.W (1 - sd) P).take (G.K sd P)).length Hq))) cA=some (.lst (bJ ((G.W (1 - sd) P).take (G.K sd P)).length Hq)):=aB
    generalize upd H3 cA (.lst (bJ ((G.W (1 - sd) P).take (G.K sd P)).length Hq))=H4 at *
    refine ⟨la sd P,cA,_,_,rfl,rfl,aX.of (s4 _ _ Za),aX.of e4,.inl ⟨by rw [aL,aL],KY (Xe.trans s4) t2 d2 rfl,_,rfl,dh ?_⟩⟩
    exact ⟨_,_,rfl,s2.trans (s3.trans s4),s4 _ _ (s3 _ _ JM)⟩
   ·rintro σ H2 ⟨v5,v6,rfl,s2,JM⟩
    have QN:∀ a xs,H1 a=some (.tup xs)→H2 a=some (.tup xs):=fun a xs e=>s2 _ _ (by rw [ll (fun z=>by rw [z,VN] at e;cases e)];exact e)
    refine ⟨iq sd,_,u,bs,ok.keep QN,JM,?_⟩
    have s3:=EK s2 VN
    generalize upd H2 (iq sd) (.dT (jX (ps sd) (la sd)))=H3 at *
    have IU:=GF.same dm s3
    have hs3:=IU.ee _ _ (bk.s sd bR)
    have Zc:=IU.lk sd bR
    obtain ⟨dx,pvx,hx,_⟩:=Zc.at_
    refine ⟨_,rfl,_,rfl,sL,_,_,_,rfl,rfl,aX.of (IU.sb _ _ VM),cN bR,sa sd,_,_,_,rfl,rfl,aX.of hs3,mZ _ _,?_⟩
    refine ⟨_,rfl,_,rfl,eL,_,_,_,rfl,rfl,aX.of (IU.sb _ _ Tz),cN bR,x sd,dx,_,rfl,hx,rfl,⟨B,x sd,tA sd,pA sd,L sd,rfl,Zc,fun pv hpv=>?_⟩⟩
    refine ⟨_,rfl,Cf (hpv.mono IU.sb) ((bk.v sd bR).mono IU.sb) ⟨_,rfl,dh ?_⟩⟩
    refine ⟨_,rfl,rfl,_,rfl,?_⟩
    have hv:=bk.v sd bR
    cases ep:(L sd).p with
    | none =>
     rw [ep] at hv
     have hv:sv sd=.bN:=hv
     rw [hv]
     refine rX rfl ?_
     exact ⟨_,_,_,_,rfl,s1.trans s3⟩
    | some P =>
     rw [ep] at hv
     obtain ⟨va,hva,Zd⟩:=hv
     rw [hva]
     refine uc (fun z=>by cases z) ?_
     have Dq:=(bk.p sd bR).up IU.ee
     refine ⟨_,rfl,_,rfl,pl,_,_,_,rfl,rfl,aX.of (IU.sb _ _ kK),cN bR,kW sd,rfl,.inr ⟨_,.inl Dq.at_⟩,_,rfl,by show 0≤sizeLine;exact Nat.zero_le _,fun e he=>?_⟩
     have s4:aI H3 (upd H3 e (.lst [])):=(aI.refl _).new he
     have e4:(upd H3 e (.lst [])) e=some (.lst []):=aB
     generalize upd H3 e (.lst [])=H4 at *
     have JC:=IU.same dm s4
     obtain ⟨o,dA,g1,g2,dq,g3,_⟩:=KZ ((bk.p sd bR).up JC.ee) (bk.w sd bR P) (JC.sb _ _ Zd) e4
     refine ⟨o,g1,?_⟩
     rw [g2]
     refine ⟨dA,_,rfl,.inl (aX.of g3),?_⟩
     rw [aL]
     have Dr:=(bk.t (1 - sd) uz).up JC.ee
     refine ⟨_,rfl,_,rfl,_,rfl,_,_,rfl,rfl,tl,_,_,_,rfl,rfl,aX.of (JC.sb _ _ KQ),by rw [A3];exact cN uz,iq (1 - sd),rfl,.inr ⟨_,.inl Dr.at_⟩,_,rfl,by show 0≤sizeLine;exact Nat.zero_le _,fun e' he'=>?_⟩
     have s5:aI H4 (upd H4 e' (.lst [])):=(aI.refl _).new he'
     have e5:(upd H4 e' (.lst [])) e'=some (.lst []):=aB
     generalize upd H4 e' (.lst [])=H5 at *
     have vd:=JC.same dm s5
     have e2s:1 - (1 - sd)=sd:=by omega
     obtain ⟨o',dB,k1,k2,aCb,k3,_⟩:=KZ (P:=P) ((bk.t (1 - sd) uz).up vd.ee) (fun z=>by
      have:=bk.k (1 - sd) uz P (fun y=>z ((bk.u (1 - sd) uz P).mpr y))
      show (G.W (1 - (1 - sd)) P).take (G.K (1 - sd) P)=[]
      rw [this];rfl) (vd.sb _ _ Zd) e5
     refine ⟨o',k1,?_⟩
     rw [k2]
     have VJ:=vd.lk sd bR
     obtain ⟨K8,RD,RE,_⟩:=VJ.at_
     refine ⟨dB,_,rfl,.inl (aX.of k3),_,_,rfl,rfl,_,rfl,_,rfl,eL,_,_,_,rfl,rfl,aX.of (vd.sb _ _ Tz),cN bR,x sd,K8,_,rfl,RE,rfl,⟨B,x sd,tA sd,pA sd,L sd,rfl,VJ,?_⟩⟩
     rw [aL,e2s,List.length_take]
     obtain ⟨n1,n2⟩:=(en sd bR).up P ep
     have n3:=(en sd bR).p
     rw [← n1] at n3
     rw [n3,List.length_drop]
     obtain ⟨r1,r2,r3⟩:=rel sd bR P
     refine ⟨_,_,rfl,rfl,_,rfl,eN (by omega) ⟨_,rfl,_,_,rfl,rfl,_,rfl,?_⟩⟩
     rw [decide_eq_true (by omega)]
     refine dh ?_
     exact ⟨_,_,_,_,rfl,s1.trans (s3.trans (s4.trans s5))⟩
  ·rintro σ H1 ⟨v4,v5,v6,v7,rfl,s1⟩
   exact q H1 s1
end
end K31
namespace K31
open PySem L2 PyProof.Rows
section
variable {P:Program} {w:World} {K:PySem.W.Frag} {mg:Str→Option Value} {base:Heap} {t:Ad}
theorem Sx.OD {Bv:A4} {C:Addr} {B H E:Hp} {n:Nat} {x tA pA d:Nat→Addr} {sl:Nat→Nat→Addr} {L:Nat→Lk} {rows:Nat→Nat→List Rw} {ρ:Addr→Nat} {p:Addr} {o:HO} (mb:fX Bv) (h:Sx Bv C B H E n x tA pA d sl L rows ρ) (hp:H p=some o) (hb:B p=none) (n1:∀ s,s < 2→p≠x s∧p≠tA s∧p≠pA s) (n2:∀ s,s < 2→∀ j,j < n→p≠sl s j) (n3:E p=none) :
  Sx Bv C (upd B p o) H E n x tA pA d sl L rows ρ∧aI B (upd B p o):=by
 have sB:aI B (upd B p o):=(aI.refl _).new hb
 have F9:aI (upd B p o) H:=fun b u e=>by
  by_cases z:b=p
  ·rw [z] at e ⊢;rw [aB] at e;rw [hp];exact e
  ·rw [aE z] at e;exact h.sb _ _ e
 refine ⟨⟨F9,fun i hi=>?_,fun i hi=>?_,h.rx,h.rt,h.rp,h.rs,h.ee,fun a ha=>by rw [aE (fun z=>ha (by rw [z];exact n3))];exact h.eb a ha,h.er,h.en⟩,sB⟩
 ·have l:=h.lk i hi
  obtain ⟨m1,m2,m3⟩:=n1 i hi
  obtain ⟨dx,pv,g,gp⟩:=l.at_
  obtain ⟨iF,g2,CM⟩:=l.told
  obtain ⟨dq,g3,vW⟩:=l.bS
  exact ⟨F9,by rw [aE (Ne.symm m1)];exact l.bx,by rw [aE (Ne.symm m2)];exact l.bt,by rw [aE (Ne.symm m3)];exact l.bp,⟨dx,pv,g,gp.mono sB⟩,⟨iF,g2,fun y e he=>(CM y e he).mono sB⟩,⟨dq,g3,fun y xs hy=>sB _ _ (vW y xs hy)⟩,l.ne⟩
 ·have c:=h.cg i hi
  exact ⟨sB _ _ c.dl,c.inj,fun j hj=>(c.at_ j hj).keep mb sB (by rw [aE (Ne.symm (n2 i hi j hj))];exact (c.at_ j hj).no) rfl⟩
structure Bl (B E:Hp) (L:Nat→Lk) (G:Gh) (sa kW iq:Nat→Addr) (sv lv:Nat→V) (ps qs:Nat→List Pr) (la lb:Nat→Pr→Addr) (τ:Addr→Nat) (l:Nat→Option Pr):Prop where
 bk:Bk B E L G sa kW iq sv lv ps qs la lb
 vl:∀ s,s < 2→fV B (lv s) (l s)
 lu:∀ s,s < 2→∀ x,l s=some x→G.U s x
 ts:∀ s,s < 2→τ (sa s)=s
 td:∀ s,s < 2→τ (iq s)=2+s
 tp:∀ s,s < 2→τ (kW s)=4+s
 tl:∀ s,s < 2→∀ P,P ∈ ps s→τ (la s P)=6+s
 tb:∀ s,s < 2→∀ P,P ∈ qs s→τ (lb s P)=8+s
 zw:∀ s,s < 2→∀ P,((G.W s P).length:Int)≤3 * (L s).d
 zp:∀ s,s < 2→((ps s).length:Int)≤4000 * (L s).d
 zq:∀ s,s < 2→((qs s).length:Int)≤(L s).d
section
variable {C:Addr} {B B' H H' E:Hp} {n:Nat} {x tA pA d:Nat→Addr} {sl:Nat→Nat→Addr} {L L1:Nat→Lk} {rows:Nat→Nat→List Rw} {ρ:Addr→Nat} {G G':Gh} {sa kW iq:Nat→Addr} {sv lv:Nat→V} {ps qs:Nat→List Pr} {la lb:Nat→Pr→Addr} {τ:Addr→Nat} {l:Nat→Option Pr} {sd:Nat}
theorem Bl.LB (h:Bl B E L G sa kW iq sv lv ps qs la lb τ l) (bb:aI B B') (eb:∀ a,E a≠none→B' a=none):Bl B' E L G sa kW iq sv lv ps qs la lb τ l :=
 ⟨⟨h.bk.s,fun s hs=>(h.bk.v s hs).mono bb,fun s hs=>(h.bk.t s hs).LB bb eb,fun s hs=>(h.bk.p s hs).LB bb eb,h.bk.w,h.bk.u,h.bk.k⟩,fun s hs=>(h.vl s hs).mono bb,h.lu,h.ts,h.td,h.tp,h.tl,h.tb,h.zw,h.zp,h.zq⟩
theorem ba {a b:Addr} {i j:Nat} (ha:τ a=i) (hb:τ b=j) (h:i≠j):a≠b:=fun z=>h (by rw [← ha,← hb,z])
theorem Bl.ev {ev:List Ev} {GC vM:V} {lj:List Pr} {kG:Pr→Addr} (bR:sd < 2) (h:Bl B E L G sa kW iq sv lv ps qs la lb τ l) (st:Sx Cc C B H E n x tA pA d sl L1 rows ρ) (hL:∀ s,s < 2→s≠sd→L1 s=L s) (gw:G'.W=G.W) (gk:G'.K (1 - sd)=G.K (1 - sd)) (gu:G'.U (1 - sd)=G.U (1 - sd))
  (hw:yG (wt G sd (L sd)) ev=wt G' sd (L1 sd)) (ku:KU (wt G' sd (L1 sd))) (hd:(L1 sd).d=(L sd).d+1) (J0:ev.length≤4000)
  (p1:aI B H') (p2:∀ a,H' a=none→H a=none) (p3:∀ a o,a≠sa sd→a≠iq sd→(∀ P,P ∈ ps sd→a≠la sd P)→H a=some o→H' a=some o) (p4:H' (sa sd)=some (.lst [GC,vM])) (p5:fV B GC (yG (wt G sd (L sd)) ev).p) (p6:fV B vM (oR (l sd) ev)) (p7:cq B H' (iq sd) lj kG (fun P=>(G.W (1 - sd) P).take ((yG (wt G sd (L sd)) ev).k P))) (p8:∀ P,P ∈ lj↔(yG (wt G sd (L sd)) ev).u P) (T1:∀ P,P ∈ lj→(P ∈ ps sd∧kG P=la sd P)∨H (kG P)=none) (T2:∀ P,P ∈ ps sd→P ∈ lj∧kG P=la sd P) (Xf:lj.length≤(ps sd).length+ev.length) :
  ∃ E' ρ' τ',Sx Cc C B H' E' n x tA pA d sl L1 rows ρ'∧Bl B E' L1 G' sa kW iq (at2 sv sd GC) (at2 lv sd vM) (at2 ps sd lj) qs (at2 la sd kG) lb τ' (at2 l sd (oR (l sd) ev)):=by
 classical
 have Dt:=h.bk.t sd bR
 have TZ:=GB (A:=wt G sd (L sd)) (h.lu sd bR) ev
 rw [hw] at p5 p7 p8 TZ
 have Es:E (sa sd)≠none:=by rw [h.bk.s sd bR];exact fun z=>by cases z
 have get:∀ {a:Addr},(E a≠none∨∃ P,P ∈ lj∧a=kG P)→(fun a=>if E a≠none∨∃ P,P ∈ lj∧a=kG P then H' a else none) a=H' a:=fun {a} z=>if_pos z
 have Ze:aI (fun a=>if E a≠none∨∃ P,P ∈ lj∧a=kG P then H' a else none) H':=fun a o e=>by
  have e:(if E a≠none∨∃ P,P ∈ lj∧a=kG P then H' a else none)=some o:=e
  split at e
  ·exact e
  ·cases e
 have off:∀ {a:Addr} {o:HO},E a=some o→a≠sa sd→a≠iq sd→(∀ P,P ∈ ps sd→a≠la sd P)→(fun a=>if E a≠none∨∃ P,P ∈ lj∧a=kG P then H' a else none) a=some o:=fun {a o} e n1 n2 n3=>by
  rw [get (.inl (by rw [e];exact fun z=>by cases z))]
  exact p3 a o n1 n2 n3 (st.ee _ _ e)
 have hn:∀ {a:Addr},E a≠none→H a≠none:=fun {a} z=>st.he z
 have tg:∀ {a:Addr} {k:Nat},E a≠none→τ a=k→(fun a=>if H a=none then 6+sd else τ a) a=k:=fun {a k} z e=>by
  show (if H a=none then 6+sd else τ a)=k
  rw [if_neg (hn z)];exact e
 obtain ⟨ρ',xh⟩:=st.chg dm (H':=H') (E':=fun a=>if E a≠none∨∃ P,P ∈ lj∧a=kG P then H' a else none)
  (fun a o e1 e2=>p3 a o (fun z=>Es (by rw [← z];exact e1)) (fun z=>Dt.nd (by rw [← z];exact e1)) (fun P hP z=>Dt.nl hP (by rw [← z];exact e1)) e2) Ze
  (fun a ha=>by
   by_cases z:E a≠none
   ·exact .inl z
   ·have ha:(if E a≠none∨∃ P,P ∈ lj∧a=kG P then H' a else none)≠none:=ha
    by_cases y:∃ P,P ∈ lj∧a=kG P
    ·obtain ⟨P,hP,rfl⟩:=y
     rcases T1 P hP with ⟨y1,y2⟩ | y
     ·rw [y2];exact .inl (Dt.nl y1)
     ·exact .inr y
    ·rw [if_neg (fun w=>w.elim z y)] at ha;exact absurd rfl ha)
  (fun a o e=>by
   have e':=Ze _ _ e
   by_cases y:∃ P,P ∈ lj∧a=kG P
   ·obtain ⟨P,hP,rfl⟩:=y
    obtain ⟨dq,g1,_⟩:=p7.pc P hP
    rw [g1] at e';cases e';exact lZ _
   ·by_cases z1:a=sa sd
    ·rw [z1,p4] at e';cases e';exact lZ _
    ·by_cases z2:a=iq sd
     ·rw [z2,p7.at_] at e';cases e';exact pf _
     ·have e:(if E a≠none∨∃ P,P ∈ lj∧a=kG P then H' a else none)=some o:=e
      by_cases z3:E a≠none
      ·obtain ⟨u,hu⟩:=GD z3
       have:=p3 a u z1 z2 (fun P hP w=>y ⟨P,(T2 P hP).1,w.trans (T2 P hP).2.symm⟩) (st.ee _ _ hu)
       rw [this] at e';cases e'
       exact st.en _ _ hu
      ·rw [if_neg (fun w=>w.elim z3 y)] at e;cases e)
 have uz:1 - sd < 2:=by omega
 have zW:∀ {s:Nat},s < 2→s≠sd→s=1 - sd:=fun {s} h1 h2=>by omega
 refine ⟨_,ρ',fun a=>if H a=none then 6+sd else τ a,xh,⟨⟨fun s hs=>?_,fun s hs=>?_,fun s hs=>?_,fun s hs=>?_,fun s hs P hP=>by rw [gw];exact h.bk.w s hs P hP,fun s hs P=>?_,fun s hs P hP=>?_⟩,fun s hs=>?_,fun s hs y hy=>?_,fun s hs=>tg (by rw [h.bk.s s hs];exact fun z=>by cases z) (h.ts s hs),fun s hs=>tg (h.bk.t s hs).nd (h.td s hs),fun s hs=>tg (h.bk.p s hs).nd (h.tp s hs),fun s hs P hP=>?_,fun s hs P hP=>tg ((h.bk.p s hs).nl hP) (h.tb s hs P hP),fun s hs P=>?_,fun s hs=>?_,fun s hs=>?_⟩⟩
 ·by_cases z:s=sd
  ·rw [z,aO,aO]
   exact (get (.inl Es)).trans p4
  ·rw [ae z,ae z]
   exact off (h.bk.s s hs) (ba (h.ts s hs) (h.ts sd bR) z) (ba (h.ts s hs) (h.td sd bR) (by omega)) (fun P hP=>ba (h.ts s hs) (h.tl sd bR P hP) (by omega))
 ·by_cases z:s=sd
  ·rw [z,aO];exact p5
  ·rw [ae z,hL s hs z];exact h.bk.v s hs
 ·by_cases z:s=sd
  ·rw [z,aO,aO,gw]
   exact p7.ZU xh.ee (fun z=>p7.nd ((get (.inl Dt.nd)).symm.trans z)) (fun P hP z=>p7.nl hP ((get (.inr ⟨P,hP,rfl⟩)).symm.trans z))
  ·rw [ae z,ae z,gw]
   have ek:G'.K s=G.K s:=by rw [zW hs z];exact gk
   rw [ek]
   exact (h.bk.t s hs).keep (fun o e=>off e (ba (h.td s hs) (h.ts sd bR) (by omega)) (ba (h.td s hs) (h.td sd bR) (by omega)) (fun P hP=>ba (h.td s hs) (h.tl sd bR P hP) (by omega))) (fun Q hQ o e=>off e (ba (h.tl s hs Q hQ) (h.ts sd bR) (by omega)) (ba (h.tl s hs Q hQ) (h.td sd bR) (by omega)) (fun P hP=>ba (h.tl s hs Q hQ) (h.tl sd bR P hP) (by omega)))
 ·rw [gw]
  exact (h.bk.p s hs).keep (fun o e=>off e (ba (h.tp s hs) (h.ts sd bR) (by omega)) (ba (h.tp s hs) (h.td sd bR) (by omega)) (fun P hP=>ba (h.tp s hs) (h.tl sd bR P hP) (by omega))) (fun Q hQ o e=>off e (ba (h.tb s hs Q hQ) (h.ts sd bR) (by omega)) (ba (h.tb s hs Q hQ) (h.td sd bR) (by omega)) (fun P hP=>ba (h.tb s hs Q hQ) (h.tl sd bR P hP) (by omega)))
 ·by_cases z:s=sd
  ·rw [z,aO];exact p8 P
  ·rw [ae z,h.bk.u s hs P,zW hs z,gu]
 ·by_cases z:s=sd
  ·rw [z] at hP ⊢;exact ku.2 P hP
  ·rw [zW hs z] at hP ⊢
   rw [gu] at hP
   rw [gk];exact h.bk.k _ uz P hP
 ·by_cases z:s=sd
  ·rw [z,aO,aO];exact p6
  ·rw [ae z,ae z];exact h.vl s hs
 ·by_cases z:s=sd
  ·rw [z,aO] at hy
   rw [z];exact TZ y hy
  ·rw [ae z] at hy
   have:=h.lu s hs y hy
   rw [zW hs z] at this ⊢
   rw [gu];exact this
 ·by_cases z:s=sd
  ·rw [z,aO] at hP
   rw [z,aO]
   rcases T1 P hP with ⟨y1,y2⟩ | y
   ·rw [y2];exact tg (Dt.nl y1) (h.tl sd bR P y1)
   ·show (if H (kG P)=none then 6+sd else τ (kG P))=6+sd
    rw [if_pos y]
  ·rw [ae z] at hP ⊢
   exact tg ((h.bk.t s hs).nl hP) (h.tl s hs P hP)
 ·rw [gw]
  have:=h.zw s hs P
  by_cases z:s=sd
  ·rw [z] at this ⊢;omega
  ·rw [hL s hs z];exact this
 ·by_cases z:s=sd
  ·have:=h.zp sd bR
   rw [z,aO];omega
  ·rw [ae z,hL s hs z];exact h.zp s hs
 ·by_cases z:s=sd
  ·have:=h.zq sd bR
   rw [z];omega
  ·rw [hL s hs z];exact h.zq s hs
theorem Bl.put {E':Hp} {ρ':Addr→Nat} {P:Pr} {gd:List (List Int)} {Ci:List Pr} {EJ:Pr→Addr} (bR:sd < 2) (h:Bl B E L G sa kW iq sv lv ps qs la lb τ l) (rel:Rel G) (st:Sx Cc C B H E n x tA pA d sl L rows ρ) (bb:aI B B') (xh:Sx Cc C B' H' E' n x tA pA d sl (at2 L sd { L sd with bS:=(L sd).bS ++ gd }) rows ρ') (U3:gd.length≤3)
  (hD:cq B' E' (kW sd) Ci EJ (fun Q=>if Q=P then G.W sd P ++ gd else G.W sd Q)) (u1:∀ Q,Q ∈ Ci↔Q ∈ qs sd∨Q=P) (o1:∀ Q,Q ∈ qs sd→EJ Q=lb sd Q) (n1:∀ Q,Q ∈ Ci→Q ∉ qs sd→H (EJ Q)=none) (f1:∀ a o,a≠kW sd→(∀ Q,Q ∈ qs sd→a≠lb sd Q)→E a=some o→E' a=some o) (l1:Ci.length≤(qs sd).length+1)
  (Zf:∀ Q,((G.W sd Q).length:Int)+3≤3 * (L sd).d) (zq0:((qs sd).length:Int)+1≤(L sd).d) :
  ∃ τ',Bl B' E' (at2 L sd { L sd with bS:=(L sd).bS ++ gd }) (qd G sd P gd) sa kW iq sv lv ps (at2 qs sd Ci) la (at2 lb sd EJ) τ' l:=by
 classical
 have tg:∀ {a:Addr} {k:Nat},E a≠none→τ a=k→(fun a=>if H a=none then 8+sd else τ a) a=k:=fun {a k} z e=>by
  show (if H a=none then 8+sd else τ a)=k
  rw [if_neg (st.he z)];exact e
 have eW:∀ {s:Nat},s≠sd→(qd G sd P gd).W s=G.W s:=fun {s} z=>funext fun Q=>cC fun y=>z y.1
 have VP:(qd G sd P gd).W sd=fun Q=>if Q=P then G.W sd P ++ gd else G.W sd Q:=funext fun Q=>by
  show dY G.W sd P (G.W sd P ++ gd) sd Q=_
  by_cases z:Q=P
  ·rw [if_pos z,z,bL]
  ·rw [if_neg z,cC (fun y=>z y.2)]
 have ep:∀ s,s < 2→(at2 L sd { L sd with bS:=(L sd).bS ++ gd } s).p=(L s).p∧(at2 L sd { L sd with bS:=(L sd).bS ++ gd } s).d=(L s).d:=fun s hs=>by
  by_cases z:s=sd
  ·rw [z,aO];exact ⟨rfl,rfl⟩
  ·rw [ae z];exact ⟨rfl,rfl⟩
 have hu:P ∈ Ci:=(u1 P).mpr (.inr rfl)
 refine ⟨fun a=>if H a=none then 8+sd else τ a,⟨⟨fun s hs=>?_,fun s hs=>by rw [(ep s hs).1];exact (h.bk.v s hs).mono bb,fun s hs=>?_,fun s hs=>?_,fun s hs Q hQ=>?_,h.bk.u,h.bk.k⟩,fun s hs=>(h.vl s hs).mono bb,h.lu,fun s hs=>tg (by rw [h.bk.s s hs];exact fun z=>by cases z) (h.ts s hs),fun s hs=>tg (h.bk.t s hs).nd (h.td s hs),fun s hs=>tg (h.bk.p s hs).nd (h.tp s hs),fun s hs Q hQ=>tg ((h.bk.t s hs).nl hQ) (h.tl s hs Q hQ),fun s hs Q hQ=>?_,fun s hs Q=>?_,fun s hs=>by rw [(ep s hs).2];exact h.zp s hs,fun s hs=>?_⟩⟩
 ·exact f1 _ _ (ba (h.ts s hs) (h.tp sd bR) (by omega)) (fun Q hQ=>ba (h.ts s hs) (h.tb sd bR Q hQ) (by omega)) (h.bk.s s hs)
 ·have D:=((h.bk.t s hs).keep (H':=E') (fun o e=>f1 _ _ (ba (h.td s hs) (h.tp sd bR) (by omega)) (fun Q hQ=>ba (h.td s hs) (h.tb sd bR Q hQ) (by omega)) e) (fun R hR o e=>f1 _ _ (ba (h.tl s hs R hR) (h.tp sd bR) (by omega)) (fun Q hQ=>ba (h.tl s hs R hR) (h.tb sd bR Q hQ) (by omega)) e)).LB bb xh.eb
  have ec:(fun Q=>((qd G sd P gd).W (1 - s) Q).take ((qd G sd P gd).K s Q))=fun Q=>(G.W (1 - s) Q).take (G.K s Q):=funext fun Q=>by
   show ((qd G sd P gd).W (1 - s) Q).take (G.K s Q)=(G.W (1 - s) Q).take (G.K s Q)
   by_cases z:1 - s=sd
   ·have es:s=1 - sd:=by omega
    have r3:=(rel sd bR Q).2.2
    rw [← es] at r3
    rw [z,VP]
    simp only
    by_cases y:Q=P
    ·rw [if_pos y,← y,List.take_append_of_le_length r3]
    ·rw [if_neg y]
   ·rw [eW z]
  rw [ec];exact D
 ·by_cases z:s=sd
  ·rw [z,aO,aO,VP];exact hD
  ·rw [ae z,ae z,eW z]
   exact ((h.bk.p s hs).keep (H':=E') (fun o e=>f1 _ _ (ba (h.tp s hs) (h.tp sd bR) (by omega)) (fun Q hQ=>ba (h.tp s hs) (h.tb sd bR Q hQ) (by omega)) e) (fun R hR o e=>f1 _ _ (ba (h.tb s hs R hR) (h.tp sd bR) (by omega)) (fun Q hQ=>ba (h.tb s hs R hR) (h.tb sd bR Q hQ) (by omega)) e)).LB bb xh.eb
 ·by_cases z:s=sd
  ·rw [z,aO] at hQ
   rw [z,VP]
   simp only
   rw [if_neg (fun y:Q=P=>hQ (by rw [y];exact hu))]
   exact h.bk.w sd bR Q fun y=>hQ ((u1 Q).mpr (.inl y))
  ·rw [ae z] at hQ
   rw [eW z];exact h.bk.w s hs Q hQ
 ·by_cases z:s=sd
  ·rw [z,aO] at hQ
   rw [z,aO]
   by_cases y:Q ∈ qs sd
   ·rw [o1 Q y];exact tg ((h.bk.p sd bR).nl y) (h.tb sd bR Q y)
   ·show (if H (EJ Q)=none then 8+sd else τ (EJ Q))=8+sd
    rw [if_pos (n1 Q hQ y)]
  ·rw [ae z] at hQ ⊢
   exact tg ((h.bk.p s hs).nl hQ) (h.tb s hs Q hQ)
 ·rw [(ep s hs).2]
  by_cases z:s=sd
  ·rw [z,VP]
   simp only
   have h1:=Zf Q
   have h2:=Zf P
   by_cases y:Q=P
   ·rw [if_pos y,List.length_append];omega
   ·rw [if_neg y];omega
  ·rw [eW z];exact h.zw s hs Q
 ·rw [(ep s hs).2]
  by_cases z:s=sd
  ·rw [z,aO];omega
  ·rw [ae z];exact h.zq s hs
end
end
end K31
namespace K31
open PySem L2 PyProof.Rows
section
variable {P:Program} {w:World} {K:PySem.W.Frag} {mg:Str→Option Value} {base:Heap} {t:Ad}
def sU (K:PySem.W.Frag):Sp:=fun vs H Q _=>∃ (l:Addr) (n0 n1 n2 n3 side tick:Int),vs=[.ref l,.int side,.int tick]∧aX K H l [.int n0,.int n1,.int n2,.int n3]∧∀ (b:Bool) (H':Hp),aI H H'→Q (.bl b) H'
theorem sV:aQ ["numbers","side","tick","begin"] ["numbers","side","tick"] (aH kC):=⟨rfl,rfl,rfl,by decide +kernel,rfl,by decide +kernel,by decide +kernel⟩
theorem Aj (F:aP K mg "_law_dead" kC) (T:Txt K mg t):Def P w K mg base 1 "_law_dead" ["numbers","side","tick"] (sU K):=by
 refine F.def sV (fun _ _ _ _ _ _ us hl=>match us,hl with | [_,_,_],_=>rfl) (fun vs H Q E h=>?_) (fun f bo A outer s H vs Q E hr h=>?_)
 ·obtain ⟨l,n0,n1,n2,n3,side,tick,rfl,_⟩:=h
  rfl
 ·obtain ⟨l,n0,n1,n2,n3,side,tick,rfl,hl,q⟩:=h
  refine ⟨_,aC (aT (i:=3) sV.nd rfl (Or.inl rfl) (aN aw (aR (aM K) (pv 0) aF (fun _ _=>rfl)) aF))
   (aG (aV (OS (pN GY (aN aw (aR (aM K) (pv 0) aF (fun _ _=>rfl)) aF) (bB (aA (aN bA (pv 1) aF) (aA aF aD))) (by rfl)) (OR (BH qB jy (pv 3) (pv 2) (aN bA (aN bA (pv 3) aF) (aN aw (aR (aM K) (pv 0) aF (fun _ _=>rfl)) aF))))))),?_⟩
  refine ⟨_,rfl,l,_,_,_,rfl,rfl,hl,rfl,_,_,rfl,rfl,(by show (0:Int) < 20;decide),?_⟩
  refine ⟨_,rfl,l,_,_,_,rfl,rfl,hl,rfl,_,_,rfl,rfl,(by show (0:Int) < 4;decide),_,rfl,_,_,rfl,rfl,by show 2≤sizeLine;decide,fun tp htp=>?_⟩
  have s1:=(aI.refl H).new (o:=.tup [V.int (side+1),V.int 3]) htp
  refine ⟨tp,_,rfl,.inr (bz.of aB),rfl,rfl,_,rfl,?_⟩
  rw [show (if (false:Bool)=true then !Qu (V.int (n1 % 4)) [V.int (side+1),V.int 3] else Qu (V.int (n1 % 4)) [V.int (side+1),V.int 3])=Qu (V.int (n1 % 4)) [V.int (side+1),V.int 3] from if_neg (fun z=>by cases z)]
  generalize Qu (V.int (n1 % 4)) [V.int (side+1),V.int 3]=bb
  cases bb with
  | false=>exact dh (q false _ s1)
  | true =>
   refine fc ?_
   refine ⟨_,rfl,_,rfl,_,_,rfl,rfl,_,rfl,?_⟩
   by_cases b2:n2 % 20≤tick
   ·refine eN b2 ?_
    refine ⟨_,rfl,_,_,rfl,rfl,_,rfl,l,_,_,_,rfl,rfl,s1.seq hl,rfl,_,_,rfl,rfl,(by show (0:Int) < 18;decide),_,_,rfl,rfl,_,_,rfl,rfl,?_⟩
    exact q _ _ s1
   ·exact dW b2 (q false _ s1)
end
end K31
namespace K31
open PySem L2 PyProof.Rows
section
variable {P:Program} {w:World} {K:PySem.W.Frag} {mg:Str→Option Value} {base:Heap} {t:Ad}
structure yH (G F:Hp) (l:List Addr):Prop where
 nd:l.Nodup
 no:∀ b,b ∈ l→G b=none
 ne:∀ b,b ∈ l→F b≠none
 sm:aI G F
theorem yH.nil {F:Hp}:yH F F []:=⟨List.nodup_nil,fun b h=>(by cases h),fun b h=>(by cases h),aI.refl _⟩
theorem yH.cons {G G' F:Hp} {a:Addr} {l:List Addr} (s:aI G G') (h1:G a=none) (h2:G' a≠none) (c:yH G' F l):yH G F (a :: l) :=
 ⟨List.nodup_cons.mpr ⟨fun z=>h2 (c.no a z),c.nd⟩,fun b hb=>(List.mem_cons.mp hb).elim (fun z=>by rw [z];exact h1) (fun z=>s.free (c.no b z)),fun b hb=>(List.mem_cons.mp hb).elim (fun z=>by rw [z];exact fun y=>h2 (c.sm.free y)) (c.ne b),s.trans c.sm⟩
theorem yH.new {G F:Hp} {a:Addr} {o:HO} {l:List Addr} (h1:G a=none) (c:yH (upd G a o) F l):yH G F (a :: l):=c.cons ((aI.refl _).new h1) h1 (by rw [aB];exact fun z=>by cases z)
def G0:Gh:=⟨fun _ _=>[],fun _ _=>0,fun _ _=>0,fun _ _=>False⟩
theorem Mx {C:Addr} {H3 H5 He JD Gb:Hp} {x0 x1 t0 t1 p0 p1 eL iV iL sL iM i8 pl iN iO tl D0 D1 cL:Addr} {C1 EL:Nat→Addr} {n:Nat} {q:Int} (s35:aI H3 H5) (VQ:[x0,x1,t0,t1,p0,p1].Nodup) (T3:∀ a,a ∈ [x0,x1,t0,t1,p0,p1]→H5 a≠none) (z3:∀ a,a ∈ [x0,x1,t0,t1,p0,p1]→H3 a=none)
  (lk:∀ s,s < 2→∃ B0,bO C B0 H5 (av x0 x1 s) (av t0 t1 s) (av p0 p1 s) (av (vH q 0) (vH q 1) s)) (c:yH H5 He [eL,iV,iL,sL,iM,i8,pl,iN,iO,tl])
  (e0:He iV=some (.lst [.bN,.bN])) (e1:He iL=some (.lst [.bN,.bN])) (e2:He iM=some (.dT [])) (e3:He i8=some (.dT [])) (e4:He iN=some (.dT [])) (e5:He iO=some (.dT []))
  (e6:He eL=some (.lst [.ref x0,.ref x1])) (e7:He sL=some (.lst [.ref iV,.ref iL])) (e8:He pl=some (.lst [.ref iM,.ref i8])) (e9:He tl=some (.lst [.ref iN,.ref iO]))
  (Hr:QF He JD D0 C1 n) (EM:QF JD Gb D1 EL n) (QO:Gb cL=none) :
  ∃ (B E:Hp) (τ ρ:Addr→Nat),Sx Cc C B (upd Gb cL (.lst [.ref D0,.ref D1])) E n (av x0 x1) (av t0 t1) (av p0 p1) (av D0 D1) (av C1 EL) (av (vH q 0) (vH q 1)) (fun _ _=>[]) ρ ∧
   Bl B E (av (vH q 0) (vH q 1)) G0 (av iV iL) (av iM i8) (av iN iO) (fun _=>.bN) (fun _=>.bN) (fun _=>[]) (fun _=>[]) (fun _ _=>0) (fun _ _=>0) τ (fun _=>none)∧(∀ a o,H3 a=some o→B a=some o)∧B eL=some (.lst [.ref x0,.ref x1])∧B sL=some (.lst [.ref iV,.ref iL])∧B pl=some (.lst [.ref iM,.ref i8])∧B tl=some (.lst [.ref iN,.ref iO])∧B cL=some (.lst [.ref D0,.ref D1]):=by
 classical
 have ne:∀ {G:Hp} {a b:Addr},G a≠none→G b=none→a≠b:=fun {G a b} h1 h2 z=>h1 (by rw [z];exact h2)
 have up:∀ {G G':Hp} {a:Addr},aI G G'→G a≠none→G' a≠none:=fun {G G' a} s h z=>h (s.free z)
 have sm:∀ {G:Hp} {a:Addr} {o:HO},G a=some o→G a≠none:=fun {G a o} e z=>by rw [e] at z;cases z
 have sT:aI Gb (upd Gb cL (.lst [.ref D0,.ref D1])):=(aI.refl _).new QO
 have cLT:(upd Gb cL (.lst [.ref D0,.ref D1])) cL=some (.lst [.ref D0,.ref D1]):=aB
 generalize upd Gb cL (.lst [.ref D0,.ref D1])=HT at *
 have T4:=Hr.sm
 have Me:=EM.sm
 have Xg:∀ a,a ∈ [x0,x1,t0,t1,p0,p1]→He a≠none:=fun a ha=>up c.sm (T3 a ha)
 have QP:∀ a,a ∈ [x0,x1,t0,t1,p0,p1]→JD a≠none:=fun a ha=>up T4 (Xg a ha)
 have Xh:∀ a,a ∈ [x0,x1,t0,t1,p0,p1]→Gb a≠none:=fun a ha=>up Me (QP a ha)
 have off:∀ {G:Hp} {b:Addr},(∀ a,a ∈ [x0,x1,t0,t1,p0,p1]→G a≠none)→G b=none→b ∉ [x0,x1,t0,t1,p0,p1]:=fun {G b} h1 h2 hb=>h1 b hb h2
 have QQ:∀ j,j < n→JD (C1 j)≠none:=fun j hj=>sm (Hr.em j hj)
 have ap:Apart (av x0 x1) (av t0 t1) (av p0 p1) (av C1 EL) n 0 (fun _=>0) :=
  ⟨VQ,fun j hj=>off Xg (Hr.no j hj),fun j hj=>off QP (EM.no j hj),fun i j hi hj=>Ne.symm (ne (QQ j hj) (EM.no i hi)),fun i j hi=>absurd hi (Nat.not_lt_zero _),fun i hi=>absurd hi (Nat.not_lt_zero _),fun i hi=>absurd hi (Nat.not_lt_zero _),fun i hi=>absurd hi (Nat.not_lt_zero _)⟩
 have zr:∀ {b:Addr},b ∉ [x0,x1,t0,t1,p0,p1]→He b≠none→cH (av x0 x1) (av t0 t1) (av p0 p1) (av C1 EL) n 0 (fun _=>0) b=0:=fun {b} h1 h2=>sQ h1 (fun j hj=>ne h2 (Hr.no j hj)) (fun j hj=>ne (up T4 h2) (EM.no j hj)) (fun i hi=>absurd hi (Nat.not_lt_zero _))
 have zc:∀ {b:Addr},b ∈ [eL,iV,iL,sL,iM,i8,pl,iN,iO,tl]→cH (av x0 x1) (av t0 t1) (av p0 p1) (av C1 EL) n 0 (fun _=>0) b=0:=fun {b} hb=>zr (off T3 (c.no b hb)) (c.ne b hb)
 have Xi:JD D0≠none:=sm Hr.at_
 have LC:aI He HT:=(T4.trans Me).trans sT
 have QR:∀ {a:Addr},a ∈ [iV,iL,iM,i8,iN,iO]→(fun a=>if a ∈ [iV,iL,iM,i8,iN,iO] then HT a else none) a=HT a:=fun {a} h=>if_pos h
 have Mz:∀ {a:Addr},a ∉ [iV,iL,iM,i8,iN,iO]→(fun a=>if a ∈ [iV,iL,iM,i8,iN,iO] then HT a else none) a=none:=fun {a} h=>if_neg h
 have Xj:∀ {a:Addr},(fun a=>if a ∈ [iV,iL,iM,i8,iN,iO] then HT a else none) a≠none→a ∈ [iV,iL,iM,i8,iN,iO]:=fun {a} h=>Classical.byContradiction fun z=>h (Mz z)
 have sub:∀ {a:Addr},a ∈ [iV,iL,iM,i8,iN,iO]→a ∈ [eL,iV,iL,sL,iM,i8,pl,iN,iO,tl]:=fun {a} h=>by
  simp only [List.mem_cons,List.not_mem_nil,or_false] at h ⊢
  rcases h with h | h | h | h | h | h <;> simp [h]
 have val:∀ {a:Addr},a ∈ [iV,iL,iM,i8,iN,iO]→∃ o,HT a=some o∧vK o:=fun {a} h=>by
  simp only [List.mem_cons,List.not_mem_nil,or_false] at h
  rcases h with rfl | rfl | rfl | rfl | rfl | rfl
  ·exact ⟨_,LC _ _ e0,lZ _⟩
  ·exact ⟨_,LC _ _ e1,lZ _⟩
  ·exact ⟨_,LC _ _ e2,pf _⟩
  ·exact ⟨_,LC _ _ e3,pf _⟩
  ·exact ⟨_,LC _ _ e4,pf _⟩
  ·exact ⟨_,LC _ _ e5,pf _⟩
 obtain ⟨B,st,yes⟩:=Sx.start (Bv:=Cc) (C:=C) (H:=HT) (E:=fun a=>if a ∈ [iV,iL,iM,i8,iN,iO] then HT a else none) (n:=n) (x:=av x0 x1) (t:=av t0 t1) (p:=av p0 p1) (d:=av D0 D1) (sl:=av C1 EL) (L:=av (vH q 0) (vH q 1)) ap
  (fun s hs=>by obtain ⟨B0,k⟩:=lk s hs;exact ⟨B0,k.same (c.sm.trans LC)⟩) (bV ⟨rfl,rfl,rfl⟩ ⟨rfl,rfl,rfl⟩)
  (bV ((Me.trans sT) _ _ Hr.at_) (sT _ _ EM.at_))
  (bV (sQ (off Xg Hr.nD) (fun j hj=>Ne.symm (Hr.nd j hj)) (fun j hj=>ne Xi (EM.no j hj)) (fun i hi=>absurd hi (Nat.not_lt_zero _))) (sQ (off QP EM.nD) (fun j hj=>Ne.symm (ne (QQ j hj) EM.nD)) (fun j hj=>Ne.symm (EM.nd j hj)) (fun i hi=>absurd hi (Nat.not_lt_zero _))))
  (bV Hr.inj EM.inj) (bV (fun j hj=>(Me.trans sT) _ _ (Hr.em j hj)) (fun j hj=>sT _ _ (EM.em j hj)))
  (fun a o e=>by
   have h:=Xj (a:=a) (fun z=>by cases e.symm.trans z)
   exact (QR h).symm.trans e)
  (fun a o e=>by
   have h:=Xj (a:=a) (fun z=>by cases e.symm.trans z)
   obtain ⟨u,h1,h2⟩:=val h
   have:HT a=some o:=(QR h).symm.trans e
   rw [h1] at this;cases this;exact h2)
  (fun a ha=>by
   have h:=sub (Xj ha)
   exact ⟨zc h,ne (G:=He) (c.ne a h) Hr.nD,ne (G:=JD) (up T4 (c.ne a h)) EM.nD⟩)
 have Zg:=c.nd
 simp only [List.nodup_cons,List.mem_cons,List.not_mem_nil,or_false,not_or,List.nodup_nil,and_true,not_false_eq_true] at Zg
 obtain ⟨⟨a1,a2,a3,a4,a5,a6,a7,a8,a9⟩,⟨b1,b2,b3,b4,b5,b6,b7,b8⟩,⟨c1,c2,c3,c4,c5,c6,c7⟩,⟨d1,d2,d3,d4,d5,d6⟩,⟨f1,f2,f3,f4,f5⟩,⟨g1,g2,g3,g4⟩,⟨h1,h2,h3⟩,⟨i1,i2⟩,j1⟩:=Zg
 have M0:∀ {a:Addr},a≠iV→a≠iL→a≠iM→a≠i8→a≠iN→a≠iO→a ∉ [iV,iL,iM,i8,iN,iO]:=fun {a} y1 y2 y3 y4 y5 y6 h=>by
  simp only [List.mem_cons,List.not_mem_nil,or_false] at h
  rcases h with h | h | h | h | h | h
  ·exact y1 h
  ·exact y2 h
  ·exact y3 h
  ·exact y4 h
  ·exact y5 h
  ·exact y6 h
 have keep:∀ {a:Addr} {o:HO},a ∈ [eL,iV,iL,sL,iM,i8,pl,iN,iO,tl]→a ∉ [iV,iL,iM,i8,iN,iO]→He a=some o→B a=some o:=fun {a o} h1 h2 e=>yes a o (Mz h2) (zc h1) (LC _ _ e)
 have eE:∀ {a:Addr} {o:HO},a ∈ [iV,iL,iM,i8,iN,iO]→He a=some o→(fun a=>if a ∈ [iV,iL,iM,i8,iN,iO] then HT a else none) a=some o:=fun {a o} h e=>(QR h).trans (LC _ _ e)
 have dp:∀ {a:Addr} {la:Pr→Addr} {cc:Pr→List (List Int)},a ∈ [iV,iL,iM,i8,iN,iO]→He a=some (.dT [])→cq B (fun a=>if a ∈ [iV,iL,iM,i8,iN,iO] then HT a else none) a [] la cc:=fun {a la cc} h e=>⟨eE h e,fun P hP=>(by cases hP),fun P hP=>(by cases hP),st.eb a (fun z=>by cases (eE h e).symm.trans z),fun P hP=>(by cases hP)⟩
 refine ⟨B,_,fun a=>if a=iV then 0 else if a=iL then 1 else if a=iN then 2 else if a=iO then 3 else if a=iM then 4 else 5,_,st,⟨⟨bV (eE (a:=iV) (by simp) e0) (eE (a:=iL) (by simp) e1),bV rfl rfl,bV (dp (a:=iN) (by simp) e4) (dp (a:=iO) (by simp) e5),bV (dp (a:=iM) (by simp) e2) (dp (a:=i8) (by simp) e3),fun _ _ _ _=>rfl,fun s hs P=>⟨fun h=>(by cases h),fun h=>h.elim⟩,fun _ _ _ _=>rfl⟩,fun _ _=>rfl,fun _ _ y hy=>(by cases hy),bV ?_ ?_,bV ?_ ?_,bV ?_ ?_,fun _ _ P hP=>(by cases hP),fun _ _ P hP=>(by cases hP),bV (fun P=>Int.le_refl _) (fun P=>Int.le_refl _),bV (Int.le_refl _) (Int.le_refl _),bV (Int.le_refl _) (Int.le_refl _)⟩,
  fun a o e=>?_,keep (by simp) (M0 a1 a2 a4 a5 a7 a8) e6,keep (by simp) (M0 (Ne.symm b2) (Ne.symm c1) d1 d2 d4 d5) e7,keep (by simp) (M0 (Ne.symm b5) (Ne.symm c4) (Ne.symm f2) (Ne.symm g1) h1 h2) e8,keep (by simp) (M0 (Ne.symm b8) (Ne.symm c7) (Ne.symm f5) (Ne.symm g4) (Ne.symm i2) (Ne.symm j1)) e9,?_⟩
 ·exact if_pos rfl
 ·show (if iL=iV then 0 else if iL=iL then 1 else _)=1
  rw [if_neg (Ne.symm b1),if_pos rfl]
 ·show (if iN=iV then 0 else if iN=iL then 1 else if iN=iN then 2 else _)=2
  rw [if_neg (Ne.symm b6),if_neg (Ne.symm c5),if_pos rfl]
 ·show (if iO=iV then 0 else if iO=iL then 1 else if iO=iN then 2 else if iO=iO then 3 else _)=3
  rw [if_neg (Ne.symm b7),if_neg (Ne.symm c6),if_neg (Ne.symm i1),if_pos rfl]
 ·show (if iM=iV then 0 else if iM=iL then 1 else if iM=iN then 2 else if iM=iO then 3 else if iM=iM then 4 else 5)=4
  rw [if_neg (Ne.symm b3),if_neg (Ne.symm c2),if_neg f3,if_neg f4,if_pos rfl]
 ·show (if i8=iV then 0 else if i8=iL then 1 else if i8=iN then 2 else if i8=iO then 3 else if i8=iM then 4 else 5)=5
  rw [if_neg (Ne.symm b4),if_neg (Ne.symm c3),if_neg g2,if_neg g3,if_neg (Ne.symm f1)]
 ·have h5:=s35 _ _ e
  have hE:=c.sm _ _ h5
  refine yes a o (Mz fun h=>?_) (zr (fun h=>?_) (sm hE)) (LC _ _ hE)
  ·have:=c.no a (sub h);rw [h5] at this;cases this
  ·have:=z3 a h;rw [e] at this;cases this
 ·refine yes cL _ (Mz fun h=>?_) ?_ cLT
  ·exact (up (T4.trans Me) (c.ne cL (sub h))) QO
  ·exact sQ (off Xh QO) (fun j hj=>Ne.symm (ne (G:=Gb) (up Me (QQ j hj)) QO)) (fun j hj=>Ne.symm (ne (G:=Gb) (sm (EM.em j hj)) QO)) (fun i hi=>absurd hi (Nat.not_lt_zero _))
end
end K31
namespace K31
open PySem L2 PyProof.Rows
section
variable {P:Program} {w:World} {K:PySem.W.Frag} {mg:Str→Option Value} {base:Heap} {t:Ad}
structure Sq (T:Int) (L:Lk):Prop where
 d:L.d=T
 ev:L.ev=[]
 ok:uy L
 b0:0≤L.b
 b1:L.b≤T+1
theorem Ka (L:Lk):(bH L).ev.length≤L.ev.length+1:=by
 unfold bH
 split
 ·unfold iG
  cases L.p with
  | none=>exact Nat.le_succ _
  | some p=>show (L.ev ++ [_]).length≤_;rw [List.length_append];exact Nat.le_refl _
 ·exact Nat.le_succ _
theorem Sq.tick {T:Int} {L:Lk} {bs:List Cl} (h:Sq T L) (hb:∀ a ∈ bs,A2 a.b):Sq (T+1) (bI L bs)∧(dQ L bs).ev.length≤3 * bs.length+1:=by
 have h1:=sM bs L h.ok hb
 have h2:uy (iH (ak L bs) bs):=⟨h1.k,h1.o,h1.t,h1.p⟩
 have h3:=CW h2
 obtain ⟨b1,b2⟩:=AZ L bs
 have b0':=h.b0
 have b1':=h.b1
 have eb:(iH (ak L bs) bs).b=L.b:=b1
 have q:=Ce (iH (ak L bs) bs)
 have bb:(bI L bs).b=(bH (iH (ak L bs) bs)).b:=rfl
 refine ⟨⟨?_,rfl,⟨h3.k,h3.o,h3.t,h3.p⟩,?_,?_⟩,?_⟩
 ·show (dQ L bs).d=_
  rw [(KL L bs).1,h.d]
 ·rw [bb];omega
 ·rw [bb];omega
 ·have:=Ka (iH (ak L bs) bs)
  have e:(iH (ak L bs) bs).ev=(ak L bs).ev:=rfl
  rw [e] at this
  rw [h.ev] at b2
  have e2:(dQ L bs).ev=(bH (iH (ak L bs) bs)).ev:=rfl
  rw [e2]
  have:([]:List Ev).length=0:=rfl
  omega
theorem Sq.put {T:Int} {L:Lk} {gd:List (List Int)} (h:Sq T L) (hx:∀ xs ∈ gd,CY xs):Sq T { L with bS:=L.bS ++ gd } :=
 ⟨h.d,h.ev,⟨h.ok.k,h.ok.o,h.ok.t,fun xs Xc=>(List.mem_append.mp Xc).elim (h.ok.p xs) fun y=>⟨(hx xs y).1.2,(hx xs y).2⟩⟩,h.b0,h.b1⟩
structure xB (K:PySem.W.Frag) (B:Hp) (sc nl ma eL sL pl tl cL:Addr) (ns:List Int) (n0 n1 n2 n3 a b:Int) (x D sa pd td:Nat→Addr):Prop where
 sc:aX K B sc (ns.map V.int)
 nl:B nl=some (.lst [.int n0,.int n1,.int n2,.int n3])
 ma:B ma=some (.tup [.int a,.int b])
 eL:B eL=some (.lst [.ref (x 0),.ref (x 1)])
 sL:B sL=some (.lst [.ref (sa 0),.ref (sa 1)])
 pl:B pl=some (.lst [.ref (pd 0),.ref (pd 1)])
 tl:B tl=some (.lst [.ref (td 0),.ref (td 1)])
 cL:B cL=some (.lst [.ref (D 0),.ref (D 1)])
theorem xB.same {K:PySem.W.Frag} {B B':Hp} {sc nl ma eL sL pl tl cL:Addr} {ns:List Int} {n0 n1 n2 n3 a b:Int} {x D sa pd td:Nat→Addr} (h:xB K B sc nl ma eL sL pl tl cL ns n0 n1 n2 n3 a b x D sa pd td) (s:aI B B'):xB K B' sc nl ma eL sL pl tl cL ns n0 n1 n2 n3 a b x D sa pd td :=
 ⟨s.seq h.sc,s _ _ h.nl,s _ _ h.ma,s _ _ h.eL,s _ _ h.sL,s _ _ h.pl,s _ _ h.tl,s _ _ h.cL⟩
theorem Kb {xs:List V} {lo:Nat} (h:lo≤xs.length):fb xs (some (lo:Int)) none=xs.drop lo:=by
 unfold fb
 rw [HT.iw,HT.vj,Nat.min_eq_left h,List.take_of_length_le (by rw [List.length_drop];exact Nat.le_refl _)]
end
end K31
namespace K31
open PySem L2 PyProof.Rows
section
variable {P:Program} {w:World} {K:PySem.W.Frag} {mg:Str→Option Value} {base:Heap} {t:Ad}
theorem dI:aQ ["script","numbers","measure","ticks","doubled","ends","states","put","took","coming","tick","cell","drawn","side","given","fate"] ["script"] (aH wF):=⟨rfl,rfl,rfl,by decide +kernel,rfl,by decide +kernel,by decide +kernel⟩
set_option maxHeartbeats 0 in
theorem QS {f:Addr} {fd Zh Zi Zj:FuncData} (T:Txt K mg t) (F:kL K "law" "law" wF f fd) (kH:Def P w K mg base 1 "_law_cell" ["script","k"] (sS K)) (gH:Def P w K mg base 1 "_law_numbers" ["cell","many"] nQ) (jY:Def P w K mg base 1 "_law_measure" ["number"] nO) (oV:Def P w K mg base 2 "_law_fate" ["number","late"] (sN K)) (oW:Def P w K mg base 1 "_law_dead" ["numbers","side","tick"] (sU K))
  (oX:Def P w K mg base 2 "_law_give" ["coming","cell","fate","tick","births"] (sO K Cc)) (eO:Def P w K mg base 10 "_law_events_right" ["events","state","side","took"] (iJ K)) (qe:Def P w K mg base 10 "_law_put" ["end","state","side","put","numbers"] (u7 K t.LinkEnd)) (fI:Def P w K mg base 10 "_law_pairs_right" ["ends","states","put","took"] (ir K t.LinkEnd))
  (Ak:bZ P w K mg base (i9 P w) 4 t.init Zh ["self","measure","side"] (F6 K t.LinkEnd)) (Al:Binds K Zh ["self","measure","side"] []) (EN:bZ P w K mg base (i9 P w) 9 t.wG Zi ["self","cells"] (F5 t.LinkEnd)) (EO:Binds K Zi ["self","cells"] []) (xC:bZ P w K mg base (i9 P w) 1 t.n8 Zj ["self"] (zU t.LinkEnd)) (xD:Binds K Zj ["self"] []):bZ P w K mg base (i9 P w) 13 f fd ["script"] (y0 K):=by
 refine F.ok1 dI (fun vs H Q E h=>?_) (fun f bo A outer s H vs Q E hr h=>?_)
 ·obtain ⟨a,ns,rfl,_⟩:=h
  rfl
 ·obtain ⟨sc,ns,rfl,hS,hlen,q⟩:=h
  refine ⟨_,aC (aT (i:=1) dI.nd rfl (Or.inl rfl) (aZ (gH.mono (by decide)) hr ar (aA (aZ (kH.mono (by decide)) hr ar (aA (pv 0) (aA aF aD))) (aA aF aD))))
   (aC (aT (i:=2) dI.nd rfl (Or.inl rfl) (aZ (jY.mono (by decide)) hr ar (aA (aR (aM K) (pv 1) aF (fun _ _=>rfl)) aD)))
   (aC (aT (i:=3) dI.nd rfl (Or.inl rfl) (aN bA aF (bP (GP rfl) (by rfl) T.S4 boot_min (aA aF (aA (bP (bQ K) (by rfl) T.iD boot_len (aA (pv 0) aD)) aD)))))
   (aC (aT (i:=4) dI.nd rfl (Or.inl rfl) (pN jK (aN aw (aN cW (aR (aM K) (pv 1) aF (fun _ _=>rfl)) aF) aF) aF (aj _)))
   (aC (tK (bD (jG (pv 4))
    (aG (aT (i:=2) dI.nd rfl (Or.inl rfl) (bB (aA (aN bA aF (aN aw (aR (aM K) (pv 1) aF (fun _ _=>rfl)) aF)) (aA aF aD)))))
    (af)))
   (aC (aT (i:=5) dI.nd rfl (Or.inl rfl) (bF (aA (FI T.Bw (Ak.mono (by decide)) hr (by rfl) T.Bs Al .nil ar (aA (pv 2) (aA aF aD))) (aA (FI T.Bw (Ak.mono (by decide)) hr (by rfl) T.Bs Al .nil ar (aA (pv 2) (aA aF aD))) aD))))
   (aC (aT (i:=6) dI.nd rfl (Or.inl rfl) (bF (aA (bF (aA cJ (aA cJ aD))) (aA (bF (aA cJ (aA cJ aD))) aD))))
   (aC (aT (i:=7) dI.nd rfl (Or.inl rfl) (bF (aA rh (aA rh aD))))
   (aC (aT (i:=8) dI.nd rfl (Or.inl rfl) (bF (aA rh (aA rh aD))))
   (aC (aT (i:=9) dI.nd rfl (Or.inl rfl) (bF (aA (lE rfl (Nc:=["k"]) (ix:=[none]) (dE (aH wF) ["script","numbers","measure","ticks","doubled","ends","states","put","took","coming","tick","cell","drawn","side","given","fate"] rfl rfl (by decide +kernel)) (cv (by rfl) T.df (aA (aN bA (pv 3) aF) aD)) (fun C fp s H=>⟨(az (i:=0) (show (["k"]:List Str).Nodup by decide +kernel) rfl (Or.inl rfl)),cX,(bF aD)⟩)) (aA (lE rfl (Nc:=["k"]) (ix:=[none]) (dE (aH wF) ["script","numbers","measure","ticks","doubled","ends","states","put","took","coming","tick","cell","drawn","side","given","fate"] rfl rfl (by decide +kernel)) (cv (by rfl) T.df (aA (aN bA (pv 3) aF) aD)) (fun C fp s H=>⟨(az (i:=0) (show (["k"]:List Str).Nodup by decide +kernel) rfl (Or.inl rfl)),cX,(bF aD)⟩)) aD))))
   (aC (PS.uX (dC PassesOwn.never rfl (cv (by rfl) T.df (aA (pv 3) aD)) (az (i:=10) dI.nd rfl (Or.inl rfl))
    (aC (aT (i:=11) dI.nd rfl (Or.inl rfl) (aN bA (aZ (kH.mono (by decide)) hr ar (aA (pv 0) (aA (aN bA aF (aN aw (pv 10) (bP (yp rfl) (by rfl) T.N3 boot_max (aA aF (aA (bP (bQ K) (by rfl) T.iD boot_len (aA (pv 0) aD)) aD))))) aD))) (aN cW (pv 10) (bP (yp rfl) (by rfl) T.N3 boot_max (aA aF (aA (bP (bQ K) (by rfl) T.iD boot_len (aA (pv 0) aD)) aD))))))
    (aC (aT (i:=12) dI.nd rfl (Or.inl rfl) (aZ (gH.mono (by decide)) hr ar (aA (pv 11) (aA aF aD))))
    (aC (dC PassesOwn.never rfl (cv (by rfl) T.df (aA aF aD)) (az (i:=13) dI.nd rfl (Or.inl rfl))
     (aC (aT (i:=14) dI.nd rfl (Or.inl rfl) (pO (aR (aM K) (pv 5) (pv 13) (fun _ _=>rfl)) T.aJ T.ME (EN.mono (by decide)) hr EO .nil ar (aA (lE rfl (Nc:=["row"]) (ix:=[none]) (dE (aH wF) ["script","numbers","measure","ticks","doubled","ends","states","put","took","coming","tick","cell","drawn","side","given","fate"] rfl rfl (by decide +kernel)) (cM K (aR (aM K) (aR (aM K) (pv 9) (pv 13) (fun _ _=>rfl)) (pv 10) (fun _ _=>rfl))) (fun C fp s H=>⟨(az (i:=0) (show (["row"]:List Str).Nodup by decide +kernel) rfl (Or.inl rfl)),cX,(aR (bj K) (pv 0) aF (fun _ _=>rfl))⟩)) aD)))
     (aC (bD (kJ (jG (aZ (eO.mono (by decide)) hr ar (aA (dg (aR (aM K) (pv 5) (pv 13) (fun _ _=>rfl)) T.aJ T.HF (xC.mono (by decide)) hr xD .nil ar) (aA (aR (aM K) (pv 6) (pv 13) (fun _ _=>rfl)) (aA (pv 13) (aA (pv 8) aD)))))))
      (aG (aV lC))
      (af))
     (aC (tK (bD (kJ (jG (aZ (qe.mono (by decide)) hr ar (aA (aR (aM K) (pv 5) (pv 13) (fun _ _=>rfl)) (aA (aR (aM K) (pv 6) (pv 13) (fun _ _=>rfl)) (aA (pv 13) (aA (pv 7) (aA (iA (iB K) (pv 12) (fZ (aN bA aF (pv 13))) rT) aD))))))))
      (aG (aV lC))
      (af)))
     (aC (aT (i:=15) dI.nd rfl (Or.inl rfl) (aZ (oV.mono (by decide)) hr ar (aA (aR (aM K) (pv 12) (pv 13) (fun _ _=>rfl)) (aA (aR (bj K) (pv 2) aF (fun _ _=>rfl)) aD))))
     (aC (tK (bD (jG (pv 4))
      (aG (aT (i:=15) dI.nd rfl (Or.inl rfl) (bB (aA (bB (aA aF (aA (bB aD) aD))) (aA (bB (aA (aR (bj K) (pv 2) aF (fun _ _=>rfl)) (aA (bB aD) aD))) aD)))))
      (aG (bD (jG (aZ (oW.mono (by decide)) hr ar (aA (pv 1) (aA (pv 13) (aA (pv 10) aD)))))
       (aG (aT (i:=15) dI.nd rfl (Or.inl rfl) (bB aD)))
       (af)))))
     (aG (ax (aZ (oX.mono (by decide)) hr ar (aA (aR (aM K) (pv 9) (aN jJ aF (pv 13)) (fun _ _=>rfl)) (aA (pv 14) (aA (pv 15) (aA (pv 10) (aA cJ aD))))))))))))))
    (aG (bD (kJ (jG (aZ (fI.mono (by decide)) hr ar (aA (pv 5) (aA (pv 6) (aA (pv 7) (aA (pv 8) aD)))))))
     (aG (aV lC))
     (af))))))))
   (aG (aV lC)))))))))))),?_⟩
  have hsz:(1000001:Nat)≤sizeLine:=by decide
  refine ⟨_,rfl,sc,ns,0,rfl,hS,by decide,fun c=>?_⟩
  refine ⟨c,4,rfl,by decide,fun nl H1 Zk s1 nn1 e1 XH ZW=>?_⟩
  obtain ⟨n0,n1,n2,n3,rfl⟩:∃ n0 n1 n2 n3,Zk=[n0,n1,n2,n3]:=by
   match Zk,XH with
   | [n0,n1,n2,n3],_=>exact ⟨n0,n1,n2,n3,rfl⟩
  have Yg:0≤n0:=ZW n0 List.mem_cons_self
  refine ⟨_,rfl,nl,_,_,_,rfl,rfl,aX.of e1,rfl,n0,rfl,Yg,fun T5 a0 b0 hm0 Xk=>?_⟩
  have s2:aI H1 (upd H1 T5 (.tup [.int a0,.int b0])):=(aI.refl _).new Xk
  have e2:(upd H1 T5 (.tup [.int a0,.int b0])) T5=some (.tup [.int a0,.int b0]):=aB
  generalize upd H1 T5 (.tup [.int a0,.int b0])=H2 at *
  refine ⟨_,rfl,sc,_,rfl,.inl ((s1.trans s2).seq hS),_,_,rfl,_,_,rfl,rfl,?_⟩
  obtain ⟨tk,YY,aCg⟩:∃ tk:Nat,(20:Int)+(if ((ns.map V.int).length:Int) < 24 then ((ns.map V.int).length:Int) else 24)=(tk:Int)∧tk≤62:=by
   by_cases z:((ns.map V.int).length:Int) < 24
   ·rw [if_pos z]
    exact ⟨20+(ns.map V.int).length,by omega,by omega⟩
   ·rw [if_neg z]
    exact ⟨44,rfl,by decide⟩
  dsimp only
  rw [YY]
  refine ⟨_,rfl,nl,_,_,_,rfl,rfl,aX.of (s2 _ _ e1),rfl,_,_,rfl,rfl,⟨by decide,by decide⟩,_,_,rfl,rfl,(by show (0:Int) < 8;decide),rfl,?_⟩
  generalize decide (V.int (n3 / 18 % 8)=V.int 5)=db
  refine ⟨fun σ H'=>∃ (ma:Addr) (a b:Int),σ=[some (.ref sc),some (.ref nl),some (.ref ma),some (.int (tk:Int)),some (.bl db),none,none,none,none,none,none,none,none,none,none,none]∧aI H2 H'∧TC a b∧H' ma=some (.tup [.int a,.int b]),?_,?_⟩
  ·refine ⟨_,rfl,_,rfl,?_⟩
   cases db with
   | false=>exact dh ⟨T5,a0,b0,rfl,aI.refl _,hm0,e2⟩
   | true =>
    refine fc ?_
    refine ⟨_,rfl,nl,_,_,_,rfl,rfl,aX.of (s2 _ _ e1),rfl,_,_,rfl,rfl,(by show (0:Int) < 4;decide),_,_,rfl,rfl,by show 2≤sizeLine;decide,fun ma W3=>?_⟩
    exact ⟨ma,3+n0 % 4,0,rfl,(aI.refl _).new W3,⟨by omega,by omega⟩,aB⟩
  rintro σ H3 ⟨ma,a,b,rfl,s3,hm,e3⟩
  have s03:=s1.trans (s2.trans s3)
  have en3:=(s2.trans s3) _ _ e1
  have Dl:1≤a∧a≤6:=hm.1
  have Q4:0≤b∧b≤4:=hm.2
  refine ⟨_,rfl,fun x0 T6 Q6 Xl nx0=>?_⟩
  have VR:aI H3 (upd (upd H3 T6 (.own x0)) x0 (.ins t.LinkEnd T6 [])):=((aI.refl _).new Xl).new (by rw [aE (Ne.symm nx0)];exact Q6)
  refine ⟨w8 (upd (upd H3 T6 (.own x0)) x0 (.ins t.LinkEnd T6 [])) x0,x0,T6,ma,a,b,0,rfl,aB,bz.of (VR _ _ e3),hm,xA,if_pos rfl,fun t0 p0 H4 WE g4 nt0 np0 Hs=>⟨rfl,?_⟩⟩
  have s4:aI H3 H4:=fun y o e=>WE y o (aK e Q6) (VR _ _ e)
  have Xm:H3 t0=none:=VR.free nt0
  have Xn:H3 p0=none:=VR.free np0
  have e4:=s4 _ _ e3
  refine ⟨_,rfl,fun x1 wd xy Xo nx1=>?_⟩
  have VS:aI H4 (upd (upd H4 wd (.own x1)) x1 (.ins t.LinkEnd wd [])):=((aI.refl _).new Xo).new (by rw [aE (Ne.symm nx1)];exact xy)
  refine ⟨w8 (upd (upd H4 wd (.own x1)) x1 (.ins t.LinkEnd wd [])) x1,x1,wd,ma,a,b,1,rfl,aB,bz.of (VS _ _ e4),hm,xA,if_pos rfl,fun t1 p1 H5 OZ g5 nt1 np1 QT=>⟨rfl,?_⟩⟩
  have s5:aI H4 H5:=fun y o e=>OZ y o (aK e xy) (VS _ _ e)
  have M3:H4 t1=none:=VS.free nt1
  have M4:H4 p1=none:=VS.free np1
  have M5:=Hs.same s5
  have ne:∀ {G:Hp} {a b:Addr},G a≠none→G b=none→a≠b:=fun {G a b} h1 h2 z=>h1 (by rw [z];exact h2)
  have VQ:[x0,x1,t0,t1,p0,p1].Nodup:=by
   simp only [List.nodup_cons,List.mem_cons,List.not_mem_nil,or_false,not_or,List.nodup_nil,and_true,not_false_eq_true]
   exact ⟨⟨ne Hs.hx xy,Hs.xt,ne Hs.hx M3,Hs.xp,ne Hs.hx M4⟩,⟨Ne.symm (ne Hs.ht xy),QT.xt,Ne.symm (ne Hs.hp xy),QT.xp⟩,⟨ne Hs.ht M3,Hs.ne,ne Hs.ht M4⟩,⟨Ne.symm (ne Hs.hp M3),QT.ne⟩,ne Hs.hp M4⟩
  have T3:∀ a,a ∈ [x0,x1,t0,t1,p0,p1]→H5 a≠none:=by
   intro a ha
   simp only [List.mem_cons,List.not_mem_nil,or_false] at ha
   rcases ha with rfl | rfl | rfl | rfl | rfl | rfl
   ·exact M5.hx
   ·exact QT.hx
   ·exact M5.ht
   ·exact QT.ht
   ·exact M5.hp
   ·exact QT.hp
  have z3:∀ a,a ∈ [x0,x1,t0,t1,p0,p1]→H3 a=none:=by
   intro a ha
   simp only [List.mem_cons,List.not_mem_nil,or_false] at ha
   rcases ha with rfl | rfl | rfl | rfl | rfl | rfl
   ·exact Q6
   ·exact s4.free xy
   ·exact Xm
   ·exact s4.free M3
   ·exact Xn
   ·exact s4.free M4
  refine ⟨by show 2≤sizeLine;decide,fun eL Tz=>?_⟩
  have SeL:aI H5 (upd H5 eL (.lst [.ref x0,.ref x1])):=(aI.refl _).new Tz
  have Zl:(upd H5 eL (.lst [.ref x0,.ref x1])) eL=some (.lst [.ref x0,.ref x1]):=aB
  generalize upd H5 eL (.lst [.ref x0,.ref x1])=H6 at *
  refine ⟨by show 2≤sizeLine;decide,fun iV T7=>?_⟩
  have T8:aI H6 (upd H6 iV (.lst [.bN,.bN])):=(aI.refl _).new T7
  have T9:(upd H6 iV (.lst [.bN,.bN])) iV=some (.lst [.bN,.bN]):=aB
  generalize upd H6 iV (.lst [.bN,.bN])=H7 at *
  refine ⟨by show 2≤sizeLine;decide,fun iL UA=>?_⟩
  have QU:aI H7 (upd H7 iL (.lst [.bN,.bN])):=(aI.refl _).new UA
  have UB:(upd H7 iL (.lst [.bN,.bN])) iL=some (.lst [.bN,.bN]):=aB
  generalize upd H7 iL (.lst [.bN,.bN])=H8 at *
  refine ⟨by show 2≤sizeLine;decide,fun sL VM=>?_⟩
  have VT:aI H8 (upd H8 sL (.lst [.ref iV,.ref iL])):=(aI.refl _).new VM
  have Zm:(upd H8 sL (.lst [.ref iV,.ref iL])) sL=some (.lst [.ref iV,.ref iL]):=aB
  generalize upd H8 sL (.lst [.ref iV,.ref iL])=H9 at *
  refine fun iM UC=>?_
  have Kc:aI H9 (upd H9 iM (.dT [])):=(aI.refl _).new UC
  have UD:(upd H9 iM (.dT [])) iM=some (.dT []):=aB
  generalize upd H9 iM (.dT [])=Ha at *
  refine fun i8 UE=>?_
  have Ht:aI Ha (upd Ha i8 (.dT [])):=(aI.refl _).new UE
  have UG:(upd Ha i8 (.dT [])) i8=some (.dT []):=aB
  generalize upd Ha i8 (.dT [])=Hb at *
  refine ⟨by show 2≤sizeLine;decide,fun pl kK=>?_⟩
  have QV:aI Hb (upd Hb pl (.lst [.ref iM,.ref i8])):=(aI.refl _).new kK
  have Zn:(upd Hb pl (.lst [.ref iM,.ref i8])) pl=some (.lst [.ref iM,.ref i8]):=aB
  generalize upd Hb pl (.lst [.ref iM,.ref i8])=Hc at *
  refine fun iN UH=>?_
  have Cn:aI Hc (upd Hc iN (.dT [])):=(aI.refl _).new UH
  have UI:(upd Hc iN (.dT [])) iN=some (.dT []):=aB
  generalize upd Hc iN (.dT [])=Hd at *
  refine fun iO UJ=>?_
  have Am:aI Hd (upd Hd iO (.dT [])):=(aI.refl _).new UJ
  have UK:(upd Hd iO (.dT [])) iO=some (.dT []):=aB
  generalize upd Hd iO (.dT [])=Hf at *
  refine ⟨by show 2≤sizeLine;decide,fun tl KQ=>?_⟩
  have LD:aI Hf (upd Hf tl (.lst [.ref iN,.ref iO])):=(aI.refl _).new KQ
  have Zo:(upd Hf tl (.lst [.ref iN,.ref iO])) tl=some (.lst [.ref iN,.ref iO]):=aB
  generalize upd Hf tl (.lst [.ref iN,.ref iO])=He at *
  have sm:∀ {G:Hp} {a:Addr} {o:HO},G a=some o→G a≠none:=fun {G a o} e z=>by rw [e] at z;cases z
  have Zp:yH H5 He [eL,iV,iL,sL,iM,i8,pl,iN,iO,tl]:=yH.cons SeL Tz (sm Zl) (yH.cons T8 T7 (sm T9) (yH.cons QU UA (sm UB) (yH.cons VT VM (sm Zm) (yH.cons Kc UC (sm UD) (yH.cons Ht UE (sm UG) (yH.cons QV kK (sm Zn) (yH.cons Cn UH (sm UI) (yH.cons Am UJ (sm UK) (yH.cons LD KQ (sm Zo) yH.nil)))))))))
  refine ⟨_,rfl,_,_,rfl,rfl,(tk:Int)+7,rfl,by omega,by omega,fun D0 Zq=>?_⟩
  rw [show ((tk:Int)+7).toNat=tk+7 by omega]
  refine lH (lo:=0) (n:=tk+7) (fun i σ H'=>(∃ v,σ=[v])∧∃ sl,QF He H' D0 sl i) ⟨⟨none,rfl⟩,fun _=>0,(aI.refl _).new Zq,Zq,aB,fun j hj=>absurd hj (Nat.not_lt_zero _),fun j hj=>absurd hj (Nat.not_lt_zero _),fun j hj=>absurd hj (Nat.not_lt_zero _),fun i j hi=>absurd hi (Nat.not_lt_zero _)⟩ ?_ ?_
  ·rintro i σ H' N hN hi ⟨⟨v,rfl⟩,sl,he⟩
   refine de ?_
   refine ⟨by show 0≤sizeLine;decide,fun p hp=>⟨_,by rw [aE (aK he.at_ hp)];exact he.at_,by rw [aL];omega,hN _ _ ⟨⟨_,rfl⟩,_,he.step hp⟩⟩⟩
  rintro σ JD ⟨⟨v,rfl⟩,C1,Hr⟩
  refine ⟨_,rfl,_,_,rfl,rfl,(tk:Int)+7,rfl,by omega,by omega,fun D1 Zr=>?_⟩
  rw [show ((tk:Int)+7).toNat=tk+7 by omega]
  refine lH (lo:=0) (n:=tk+7) (fun i σ H'=>(∃ v,σ=[v])∧∃ sl,QF JD H' D1 sl i) ⟨⟨none,rfl⟩,fun _=>0,(aI.refl _).new Zr,Zr,aB,fun j hj=>absurd hj (Nat.not_lt_zero _),fun j hj=>absurd hj (Nat.not_lt_zero _),fun j hj=>absurd hj (Nat.not_lt_zero _),fun i j hi=>absurd hi (Nat.not_lt_zero _)⟩ ?_ ?_
  ·rintro i σ H' N hN hi ⟨⟨v,rfl⟩,sl,he⟩
   refine de ?_
   refine ⟨by show 0≤sizeLine;decide,fun p hp=>⟨_,by rw [aE (aK he.at_ hp)];exact he.at_,by rw [aL];omega,hN _ _ ⟨⟨_,rfl⟩,_,he.step hp⟩⟩⟩
  rintro σ Gb ⟨⟨v,rfl⟩,EL,EM⟩
  refine ⟨by show 2≤sizeLine;decide,fun cL QO=>?_⟩
  obtain ⟨B,Eo,τ,ρ,WT,bl0,UL,Xp,Xq,Xr,Xs,Xt⟩:=Mx (C:=t.LinkEnd) (q:=a+b) (s4.trans s5) VQ T3 z3 (bV ⟨_,M5⟩ ⟨_,QT⟩) Zp ((QU.trans (VT.trans (Kc.trans (Ht.trans (QV.trans (Cn.trans (Am.trans (LD)))))))) _ _ T9) ((VT.trans (Kc.trans (Ht.trans (QV.trans (Cn.trans (Am.trans (LD))))))) _ _ UB) ((Ht.trans (QV.trans (Cn.trans (Am.trans (LD))))) _ _ UD) ((QV.trans (Cn.trans (Am.trans (LD)))) _ _ UG) ((Am.trans (LD)) _ _ UI) ((LD) _ _ UK) ((T8.trans (QU.trans (VT.trans (Kc.trans (Ht.trans (QV.trans (Cn.trans (Am.trans (LD))))))))) _ _ Zl) ((Kc.trans (Ht.trans (QV.trans (Cn.trans (Am.trans (LD)))))) _ _ Zm) ((Cn.trans (Am.trans (LD))) _ _ Zn) (Zo) Hr EM QO
  have fx0:xB K B sc nl ma eL sL pl tl cL ns n0 n1 n2 n3 a b (av x0 x1) (av D0 D1) (av iV iL) (av iM i8) (av iN iO):=by
   refine ⟨?_,UL _ _ en3,UL _ _ e3,Xp,Xq,Xr,Xs,Xt⟩
   have h3:=s03.seq hS
   rcases h3 with (h3 | ⟨u,h3⟩) | h3
   ·exact .inl (.inl (UL _ _ h3))
   ·exact .inl (.inr ⟨u,UL _ _ h3⟩)
   ·exact .inr h3
  generalize upd Gb cL (.lst [.ref D0,.ref D1])=H12 at *
  clear Zp UL z3 T3 VQ
  have Zs:∀ q s:Int,Sq 0 (vH q s):=fun q s=>⟨rfl,rfl,⟨P1,HW,HW,fun xs h=>(by cases h)⟩,(by show (0:Int)≤1;decide),(by show (1:Int)≤0+1;decide)⟩
  refine ⟨_,rfl,(tk:Int),rfl,by omega,by omega,?_⟩
  rw [Int.toNat_natCast]
  refine fT (lo:=0) (n:=tk) (fun T σ H'=>∃ (B E:Hp) (tA pA:Nat→Addr) (L:Nat→Lk) (rows:Nat→Nat→List Rw) (ρ τ:Addr→Nat) (G:Gh) (sv lv:Nat→V) (ps qs:Nat→List Pr) (la lb:Nat→Pr→Addr) (l:Nat→Option Pr) (v10 v11 Xu OE OF M6:Option V),σ=[some (.ref sc),some (.ref nl),some (.ref ma),some (.int (tk:Int)),some (.bl db),some (.ref eL),some (.ref sL),some (.ref pl),some (.ref tl),some (.ref cL),v10,v11,Xu,OE,OF,M6]∧xB K B sc nl ma eL sL pl tl cL ns n0 n1 n2 n3 a b (av x0 x1) (av D0 D1) (av iV iL) (av iM i8) (av iN iO)∧Sx Cc t.LinkEnd B H' E (tk+7) (av x0 x1) tA pA (av D0 D1) (av C1 EL) L rows ρ∧Bl B E L G (av iV iL) (av iM i8) (av iN iO) sv lv ps qs la lb τ l∧vY a G L rows∧(∀ s,s < 2→Sq (T:Int) (L s))∧∀ s j,(rows s j).length≤3 * T)
   ⟨B,Eo,_,_,_,_,ρ,τ,G0,_,_,_,_,_,_,_,none,none,none,none,none,none,rfl,fx0,WT,bl0,vY.start,bV (Zs _ _) (Zs _ _),fun s j=>Nat.le_refl _⟩ ?_ ?_
  ·rintro T σ H13 hT ⟨B,E,tA,pA,L,rows,ρ,τ,G,sv,lv,ps,qs,la,lb,l,v10,v11,Xu,OE,OF,M6,rfl,fx,st,bl,pc,sq,rl⟩
   rw [show (0:Int)+(T:Nat)=(T:Int) by omega]
   have DJ:=st.sb.seq fx.sc
   have Zt:0 < (if ((ns.map V.int).length:Int) > 1 then ((ns.map V.int).length:Int) else 1):=by split <;> omega
   have mx1:(if ((ns.map V.int).length:Int) > 1 then ((ns.map V.int).length:Int) else 1) < 1073741824:=by rw [List.length_map];split <;> omega
   refine ⟨_,rfl,_,rfl,_,rfl,sc,_,rfl,.inl DJ,_,_,rfl,_,_,rfl,rfl,Zt,_,_,rfl,rfl,sc,ns,_,rfl,DJ,?_,fun c2=>?_⟩
   ·have:=Int.emod_nonneg (T:Int) (show (if ((ns.map V.int).length:Int) > 1 then ((ns.map V.int).length:Int) else 1)≠0 by omega)
    show 0≤1+(T:Int) % (if ((ns.map V.int).length:Int) > 1 then ((ns.map V.int).length:Int) else 1)
    omega
   refine ⟨_,rfl,_,rfl,sc,_,rfl,.inl DJ,_,_,rfl,_,_,rfl,rfl,⟨Zt,mx1⟩,_,_,rfl,rfl,?_⟩
   refine ⟨_,rfl,_,18,rfl,by decide,fun dl H14 ds s14 Xv e14 aCw UM=>?_⟩
   obtain ⟨UN,UO⟩:=st.grow dm s14 Xv e14
   refine ⟨2,rfl,by decide,by decide,?_⟩
   generalize some (V.int (c2+(T:Int) / (if ((ns.map V.int).length:Int) > 1 then ((ns.map V.int).length:Int) else 1)))=QW
   refine fT (lo:=0) (n:=2) (fun sd σ H'=>∃ (B E:Hp) (tA pA:Nat→Addr) (L:Nat→Lk) (rows:Nat→Nat→List Rw) (ρ τ:Addr→Nat) (G:Gh) (sv lv:Nat→V) (ps qs:Nat→List Pr) (la lb:Nat→Pr→Addr) (l:Nat→Option Pr) (OE OF M6:Option V),σ=[some (.ref sc),some (.ref nl),some (.ref ma),some (.int (tk:Int)),some (.bl db),some (.ref eL),some (.ref sL),some (.ref pl),some (.ref tl),some (.ref cL),some (.int (T:Int)),QW,some (.ref dl),OE,OF,M6]∧xB K B sc nl ma eL sL pl tl cL ns n0 n1 n2 n3 a b (av x0 x1) (av D0 D1) (av iV iL) (av iM i8) (av iN iO)∧B dl=some (.lst (ds.map V.int))∧Sx Cc t.LinkEnd B H' E (tk+7) (av x0 x1) tA pA (av D0 D1) (av C1 EL) L rows ρ∧Bl B E L G (av iV iL) (av iM i8) (av iN iO) sv lv ps qs la lb τ l∧vY a G L rows∧(∀ s,s < 2→Sq ((if s < sd then T+1 else T:Nat):Int) (L s))∧∀ s j,(rows s j).length≤3 * T+(if s=1∧0 < sd∨s=0∧1 < sd then 3 else 0))
    ?_ ?_ ?_
   ·refine ⟨_,E,tA,pA,L,rows,ρ,τ,G,sv,lv,ps,qs,la,lb,l,OE,OF,M6,rfl,fx.same UO,aB,UN,bl.LB UO UN.eb,pc,fun s hs=>?_,fun s j=>?_⟩
    ·rw [if_neg (by omega)];exact sq s hs
    ·have:=rl s j;omega
   ·rintro sd σ Zu bR ⟨B,E,tA,pA,L,rows,ρ,τ,G,sv,lv,ps,qs,la,lb,l,OE,OF,M6,rfl,fx,Zv,st,bl,pc,sq,rl⟩
    rw [show (0:Int)+(sd:Nat)=(sd:Int) by omega]
    have Hu:=sq sd bR
    rw [if_neg (by omega)] at Hu
    have Zw:T < tk+7:=by omega
    have uz:1 - sd < 2:=by omega
    have A3:(1:Int) - (sd:Int)=((1 - sd:Nat):Int):=by omega
    have hdo:(L (1 - sd)).d≤(T:Int)+1:=by
     have:=(sq (1 - sd) uz).d
     rw [this];split <;> omega
    have cg:=st.cg sd bR
    obtain ⟨F8,r1,r2⟩:=(cg.at_ T Zw).at_
    have P9:∀ s j,(rows s j).length≤200:=fun s j=>by have:=rl s j;split at this <;> omega
    obtain ⟨Xw,_,Xx,_⟩:=(st.lk sd bR).at_
    refine ⟨_,rfl,_,rfl,eL,_,_,_,rfl,rfl,aX.of (st.sb _ _ fx.eL),cN bR,av x0 x1 sd,Xw,_,rfl,Xx,rfl,_,rfl,_,rfl,cL,_,_,_,rfl,rfl,aX.of (st.sb _ _ fx.cL),cN bR,_,rfl,av D0 D1 sd,_,_,_,rfl,rfl,aX.of (st.sb _ _ cg.dl),iy (b9 Zw),av C1 EL sd T,rfl,⟨_,aX.of r1⟩,fun Dh Zx=>?_⟩
    refine rY (K:=K) (a:=av C1 EL sd T) (xs:=bJ (rows sd T).length F8) (fun i σ H'=>(∃ v,σ=[v])∧aI Zu H'∧∃ QX:Nat→Addr,H' Dh=some (.lst (bJ i QX))∧∀ (y:Nat) (r:Rw),y < i→(rows sd T)[y]?=some r→B (QX y)=some (.lst (tabI 24 r.f)))
     ⟨⟨none,rfl⟩,(aI.refl _).new Zx,fun _=>0,aB,fun y r hy=>absurd hy (Nat.not_lt_zero _)⟩ (fun i σ H' _ p=>aX.of (p.2.1 _ _ r1)) ?_ ?_
    ·rintro i v σ H' N hN hi ⟨⟨v0,rfl⟩,s1,QX,w1,w2⟩
     obtain ⟨P8,rfl⟩:=tab_of hi
     have e:(rows sd T)[i]?=some (rows sd T)[i]:=by simp [P8]
     have aCy:=P9 sd T
     generalize (rows sd T)[i]=rr at e
     obtain ⟨c,v3,k1,k2,_⟩:=r2 i rr e
     refine de ?_
     refine ⟨_,rfl,F8 i,_,_,_,rfl,rfl,bz.of (s1 _ _ (st.sb _ _ k1)),rfl,_,w1,by rw [aL];omega,hN _ _ ⟨⟨_,rfl⟩,s1.put Zx,fun y=>if y=i then c else QX y,by rw [aB,dR],fun y r hy RI=>?_⟩⟩
     by_cases z:y=i
     ·rw [z,e] at RI
      cases RI
      simp only [z,if_true]
      exact k2
     ·simp only [z,if_false]
      exact w2 y r (by omega) RI
    rintro σ Zy ⟨⟨v0,rfl⟩,Xy,QX,Zz,Z0⟩
    rw [aL] at Zz Z0
    have Co:=st.same dm Xy
    have Xz:=Co.lk sd bR
    have inc:ZC Zy Dh QX ((rows sd T).map QG):=by
     refine ⟨by rw [List.length_map];exact Zz,fun j cm hj=>?_⟩
     rw [List.getElem?_map] at hj
     cases e:(rows sd T)[j]? with
     | none=>rw [e] at hj;cases hj
     | some rr =>
      rw [e] at hj
      cases hj
      obtain ⟨_,_,_,_,_,gg⟩:=r2 j rr e
      exact ⟨Co.sb _ _ (Z0 j rr (List.getElem?_eq_some_iff.mp e).1 e),gg.c,gg.m⟩
    have aCz:=Hu.b1
    have X0:=Hu.b0
    have Fh:∀ x ∈ aU (rows sd T),A2 x.b:=fun x hx=>by
     obtain ⟨row,q1,_,rfl⟩:=qc hx
     obtain ⟨j,hj⟩:=List.mem_iff_getElem?.mp q1
     obtain ⟨_,_,_,_,_,gg⟩:=r2 j row hj
     exact gg.g.b
    refine ⟨B,av x0 x1 sd,tA sd,pA sd,Dh,QX,L sd,(rows sd T).map QG,rfl,Xz,inc,by rw [List.length_map];have:=P9 sd T;omega,by rw [Hu.ev];exact Nat.zero_le _,X0,by omega,Hu.ok,fun Z1 H18 pB p mv UP np bp Wz ep=>?_⟩
    rw [KJ] at UP ep
    obtain ⟨OG,OB⟩:=Hu.tick Fh
    have X1:(dQ (L sd) (aU (rows sd T))).ev.length≤4000:=by
     have h1:(aU (rows sd T)).length≤(rows sd T).length:=List.length_filterMap_le _ _
     have h2:=P9 sd T
     omega
    obtain ⟨ρ18,tz,_⟩:=Co.VH dm bR mv UP
    rw [lg] at tz
    obtain ⟨tz,X2⟩:=tz.OD dm ep bp (fun s hs=>⟨fun z=>(Co.lk s hs).hx (by rw [← z];exact np),fun z=>(Co.lk s hs).ht (by rw [← z];exact np),fun z=>by
     by_cases y:s=sd
     ·rw [y,aO] at z;exact Wz z
     ·rw [ae y] at z;exact (Co.lk s hs).hp (by rw [← z];exact np)⟩) (fun s hs j hj z=>((Co.cg s hs).at_ j hj).val (by rw [← z];exact np)) (Classical.byContradiction fun z=>Co.he z np)
    have X3:(upd Z1 p (.lst (tabI 24 (ay (eg (dQ (L sd) (aU (rows sd T)))))))) p=some (.lst (tabI 24 (ay (eg (dQ (L sd) (aU (rows sd T))))))):=aB
    have UQ:=mv.bb.trans X2
    generalize upd Z1 p (.lst (tabI 24 (ay (eg (dQ (L sd) (aU (rows sd T)))))))=X4 at *
    have M7:=tz.lk sd bR
    rw [aO,aO] at M7
    obtain ⟨X5,aC0,X6,_⟩:=M7.at_
    have UR:=fx.same UQ
    refine ⟨_,rfl,_,rfl,eL,_,_,_,rfl,rfl,aX.of (tz.sb _ _ UR.eL),cN bR,av x0 x1 sd,X5,_,rfl,X6,rfl,X4,av x0 x1 sd,tA sd,pB,_,rfl,M7,fun H19 tB X7 ntB X8 X9=>?_⟩
    obtain ⟨G1,QY,VU,Z2⟩:=pc.step (fs:=[]) bR Hu.d hdo Dl.2 Hu.ok Fh Hu.ev ⟨by decide,fun d hd=>by cases hd⟩
    have QY:vY a G1 (at2 L sd (bI (L sd) (aU (rows sd T)))) rows:=by
     have h:=QY
     rw [show oQ (rows (1 - sd)) T (eg (bI (L sd) (aU (rows sd T)))) []=rows (1 - sd) from rfl,lg] at h
     exact h
    obtain ⟨tro,trw⟩:=Z2.ok
    obtain ⟨ρ19,US,hρ19⟩:=tz.VH dm bR (by rw [aO];exact X7) X8
    obtain ⟨iF,ev1,ev2⟩:=X9
    rw [vZ,vZ] at US
    have VV:=tz.rt sd bR
    obtain ⟨Cp,M8⟩:=US.OD dm ev1 (tz.lk sd bR).bt (fun s hs=>⟨dZ VV (tz.rx s hs) (by omega),fun z=>by
     by_cases y:s=sd
     ·rw [y,aO] at z;exact ntB z.symm
     ·rw [ae y] at z;exact dZ VV (tz.rt s hs) (by omega) z,fun z=>by
     by_cases y:s=sd
     ·rw [y,aO] at z;exact M7.ne z
     ·rw [ae y] at z
      have:=tz.rp s hs
      rw [ae y] at this
      exact dZ VV this (by omega) z⟩) (fun s hs j hj=>dZ VV (tz.rs s hs j hj) (by omega)) (Classical.byContradiction fun z=>by have:=tz.er _ z;omega)
    have YA:(upd X4 (tA sd) (.lst (bJ (dQ (L sd) (aU (rows sd T))).ev.length iF))) (tA sd)=some (.lst (bJ (dQ (L sd) (aU (rows sd T))).ev.length iF)):=aB
    generalize upd X4 (tA sd) (.lst (bJ (dQ (L sd) (aU (rows sd T))).ev.length iF))=YB at *
    have UT:=UQ.trans M8
    have Kd:=UR.same M8
    have Cq:=bl.LB UT Cp.eb
    have YC:=Cq.bk.t sd bR
    have YD:=bl.zp sd bR
    rw [Hu.d] at YD
    have hd1:(L (1 - sd)).d≤63:=by omega
    refine ⟨_,rfl,_,rfl,sL,_,_,_,rfl,rfl,aX.of (Cp.sb _ _ Kd.sL),cN bR,_,rfl,_,rfl,?_⟩
    refine ⟨YB,tA sd,av iV iL sd,tl,(dQ (L sd) (aU (rows sd T))).ev,sv sd,lv sd,av iN iO,sd,G.W (1 - sd),wt G sd (L sd),ps sd,la sd,l sd,rfl,bR,Cp.sb,Cp.eb _ (by rw [Cq.bk.s sd bR];exact fun z=>by cases z),⟨iF,YA,fun y e he=>(ev2 y e he).mono M8⟩,Cp.ee _ _ (Cq.bk.s sd bR),Cq.bk.v sd bR,Cq.vl sd bR,Cq.lu sd bR,fun y hy=>by
     obtain ⟨y1,y2⟩:=(pc.en sd bR).up y hy
     rw [y1];exact y2,Kd.tl,YC.up Cp.ee,Cq.bk.u sd bR,fun P hP=>ba (bl.tl sd bR P hP) (bl.ts sd bR) (by omega),tro,by omega,fun P=>by have:=bl.zw (1 - sd) uz P;omega,fun VW GC vM lj kG p1 p2 p3 p4 p5 p6 p7 p8 p9 T1 T2 Xf=>⟨_,rfl,dh ?_⟩⟩
    have ku0:KU (wt G sd (L sd)):=⟨fun y hy=>by
     obtain ⟨y1,y2⟩:=(pc.en sd bR).up y hy
     rw [y1];exact y2,bl.bk.k sd bR⟩
    have eA:({ dQ (L sd) (aU (rows sd T)) with ev:=[] }:Lk)=bI (L sd) (aU (rows sd T)):=rfl
    rw [eA] at Cp
    obtain ⟨Z3,ρ21,τ21,M9,QZ⟩:=Cq.ev (L1:=at2 L sd (bI (L sd) (aU (rows sd T)))) (G':=G1) (ev:=(dQ (L sd) (aU (rows sd T))).ev) bR Cp (fun s hs z=>ae z) VU.w (VU.k _ (by omega)) (VU.u _ (by omega)) (by rw [aO];exact trw) (by rw [aO];exact Z2.ku ku0) (by rw [aO,OG.d,Hu.d]) X1 p1 p2 p3 p4 p5 p6 p7 p8 T1 T2 Xf
    have YE:∀ Q,((G1.W sd Q).length:Int)+3≤3 * (T+1:Int):=fun Q=>by
     have:=bl.zw sd bR Q
     rw [VU.w];rw [Hu.d] at this;omega
    have hq3:((qs sd).length:Int)+1≤(T+1:Int):=by
     have:=bl.zq sd bR
     rw [Hu.d] at this;omega
    have Ke:=UT _ _ Zv
    have UU:=M8 _ _ X3
    clear p1 p2 p3 p4 p5 p6 p7 p8 p9 T1 T2 Xf
    have OH:dX G1 sd (eg (bI (L sd) (aU (rows sd T)))) 0:=by
     have:=QY.cell bR
     rw [aO] at this;exact this
    refine ⟨fun σ H'=>∃ (B' E':Hp) (tA' pA':Nat→Addr) (L':Nat→Lk) (ρ' τ':Addr→Nat) (G':Gh) (sv lv:Nat→V) (ps qs:Nat→List Pr) (la lb:Nat→Pr→Addr) (l:Nat→Option Pr),σ=[some (.ref sc),some (.ref nl),some (.ref ma),some (.int (tk:Int)),some (.bl db),some (.ref eL),some (.ref sL),some (.ref pl),some (.ref tl),some (.ref cL),some (.int (T:Int)),QW,some (.ref dl),some (.int (sd:Int)),some (.ref p),M6]∧xB K B' sc nl ma eL sL pl tl cL ns n0 n1 n2 n3 a b (av x0 x1) (av D0 D1) (av iV iL) (av iM i8) (av iN iO)∧B' dl=some (.lst (ds.map V.int))∧B' p=some (.lst (tabI 24 (ay (eg (bI (L sd) (aU (rows sd T)))))))∧Sx Cc t.LinkEnd B' H' E' (tk+7) (av x0 x1) tA' pA' (av D0 D1) (av C1 EL) L' rows ρ'∧Bl B' E' L' G' (av iV iL) (av iM i8) (av iN iO) sv lv ps qs la lb τ' l∧vY a G' L' rows∧Sq ((T:Int)+1) (L' sd)∧(L' sd).b=(bI (L sd) (aU (rows sd T))).b∧(L' sd).k=(bI (L sd) (aU (rows sd T))).k∧L' (1 - sd)=L (1 - sd)∧dX G' sd (eg (bI (L sd) (aU (rows sd T)))) 0,?_,?_⟩
    ·refine ⟨_,rfl,_,rfl,eL,_,_,_,rfl,rfl,aX.of (M9.sb _ _ Kd.eL),cN bR,_,rfl,_,rfl,sL,_,_,_,rfl,rfl,aX.of (M9.sb _ _ Kd.sL),cN bR,_,rfl,_,rfl,_,rfl,_,rfl,_,_,rfl,rfl,_,rfl,dl,_,rfl,aX.of (M9.sb _ _ Ke),fun nA Z4=>?_⟩
     have KW:fb (ds.map V.int) (some (2+(sd:Int))) none=(ds.drop (2+sd)).map V.int:=by
      rw [show (2+(sd:Int))=((2+sd:Nat):Int) by omega,Kb (by rw [List.length_map];omega),List.map_drop]
     rw [KW]
     have s22:aI VW (upd VW nA (.lst ((ds.drop (2+sd)).map V.int))):=(aI.refl _).new Z4
     have e22:(upd VW nA (.lst ((ds.drop (2+sd)).map V.int))) nA=some (.lst ((ds.drop (2+sd)).map V.int)):=aB
     generalize upd VW nA (.lst ((ds.drop (2+sd)).map V.int))=H22 at *
     obtain ⟨NA,Hv⟩:=M9.grow dm s22 Z4 e22
     have YF:(upd YB nA (.lst ((ds.drop (2+sd)).map V.int))) nA=some (.lst ((ds.drop (2+sd)).map V.int)):=aB
     generalize upd YB nA (.lst ((ds.drop (2+sd)).map V.int))=Z5 at *
     have Hw:=QZ.LB Hv NA.eb
     have Qa:=Kd.same Hv
     have YG:=QY.en sd bR
     have YH:(at2 L sd (bI (L sd) (aU (rows sd T))) sd).bS.length < 900000:=by
      rw [YG.p,List.length_drop]
      have:=YE (pr sd (at2 L sd (bI (L sd) (aU (rows sd T))) sd).b (at2 L sd (bI (L sd) (aU (rows sd T))) sd).k)
      omega
     refine ⟨Z5,Z3,tk+7,av x0 x1,_,_,av D0 D1,av C1 EL,at2 L sd (bI (L sd) (aU (rows sd T))),rows,ρ21,sd,av iV iL sd,pl,nA,_,_,av iM i8,qs sd,lb sd,G1.W sd,ds.drop (2+sd),rfl,bR,NA,Hw.bk.s sd bR,Hw.bk.v sd bR,Qa.pl,Hw.bk.p sd bR,Hw.bk.w sd bR,fun P hP=>ba (QZ.tb sd bR P hP) (QZ.ts sd bR) (by omega),YF,by rw [List.length_drop];omega,by rw [List.length_drop];omega,fun v hv=>UM v (List.mem_of_mem_drop hv),YH,by omega,fun P=>by have:=YE P;omega,fun z=>(YG.zero z).1,fun hn=>⟨_,rfl,dh ?_⟩,fun P hP B23 H23 E23 ρ23 gd Ci EJ VX UW xl xi D23 u23 o23 n23 f23 l23=>⟨_,rfl,dh ?_⟩⟩
     ·exact ⟨Z5,Z3,_,_,at2 L sd (bI (L sd) (aU (rows sd T))),ρ21,τ21,G1,_,_,_,_,_,_,_,rfl,Qa,Hv _ _ Ke,Hv _ _ UU,NA,Hw,QY,by rw [aO];exact OG,by rw [aO],by rw [aO],ae (by omega),OH⟩
     ·have hPp:=(YG.up P hP).1
      obtain ⟨τ23,YI⟩:=Hw.put bR QY.rel NA VX UW xl D23 u23 o23 n23 f23 l23 (fun Q=>by rw [aO,OG.d];exact YE Q) (by rw [aO,OG.d];exact hq3)
      have UX:=vY.Tq bR gd G1 _ QY (by rw [hP];exact fun z=>by cases z)
      rw [← hPp] at UX
      have eS:at2 (at2 L sd (bI (L sd) (aU (rows sd T)))) sd { at2 L sd (bI (L sd) (aU (rows sd T))) sd with bS:=(at2 L sd (bI (L sd) (aU (rows sd T))) sd).bS ++ gd } sd={ (bI (L sd) (aU (rows sd T))) with bS:=(bI (L sd) (aU (rows sd T))).bS ++ gd }:=by rw [aO,aO]
      exact ⟨B23,E23,_,_,_,ρ23,τ23,qd G1 sd P gd,_,_,_,_,_,_,_,rfl,Qa.same VX,VX _ _ (Hv _ _ Ke),VX _ _ (Hv _ _ UU),UW,YI,UX,by rw [eS];exact OG.put xi,by rw [eS],by rw [eS],by rw [ae (show 1 - sd≠sd by omega),ae (show 1 - sd≠sd by omega)],OH.put⟩
    rintro σ H24 ⟨B2,E2,tA2,pA2,L2,ρ2,τ2,G2,sv2,lv2,ps2,qs2,la2,lb2,l2,rfl,UY,UZ,VA,A1,bl2,UX,Z6,C0,hk2,Uy,Ua⟩
    obtain ⟨g,hg⟩:∃ g,ds[sd]?=some g:=⟨ds[sd],by simp⟩
    have gn:0≤g:=UM g (List.mem_of_getElem? hg)
    refine ⟨_,rfl,_,rfl,dl,_,_,_,rfl,rfl,aX.of (A1.sb _ _ UZ),iy (by rw [List.getElem?_map,hg];rfl),_,rfl,ma,_,_,_,rfl,rfl,bz.of (A1.sb _ _ UY.ma),rfl,_,_,rfl,gn,Dl.1,Dl.2,fun ft H25 fs0 s25 hft gft=>?_⟩
    have Qb:=A1.same dm s25
    refine ⟨fun σ H'=>∃ (fB:Addr) (fs:Ft),σ=[some (.ref sc),some (.ref nl),some (.ref ma),some (.int (tk:Int)),some (.bl db),some (.ref eL),some (.ref sL),some (.ref pl),some (.ref tl),some (.ref cL),some (.int (T:Int)),QW,some (.ref dl),some (.int (sd:Int)),some (.ref p),some (.ref fB)]∧aI H25 H'∧yF K H' fB fs∧zX a fs,?_,?_⟩
    ·refine ⟨_,rfl,_,rfl,?_⟩
     cases db with
     | true =>
      refine fc ?_
      refine ⟨by show 0≤sizeLine;decide,fun c hc=>⟨by show 2≤sizeLine;decide,fun b1 YJ=>?_⟩⟩
      obtain ⟨Z7,g1,g2⟩:=iI (K:=K) (d:=1) hc YJ
      refine ⟨_,rfl,ma,_,_,_,rfl,rfl,bz.of (Z7 _ _ (Qb.sb _ _ UY.ma)),rfl,by show 0≤sizeLine;decide,fun c2 Nn=>⟨by show 2≤sizeLine;decide,fun b2 YK=>?_⟩⟩
      obtain ⟨s2',k1,k2⟩:=iI (K:=K) (d:=a) Nn YK
      refine ⟨by show 2≤sizeLine;decide,fun aa haa=>?_⟩
      have YL:=(aI.refl _).new (o:=.tup [.ref b1,.ref b2]) haa
      have QE:=s2'.trans YL
      refine ⟨aa,[(1,[]),(a,[])],rfl,Z7.trans QE,KD (bz.of aB) (QE.tup g1) (g2.same QE) (YL.tup k1) (k2.same YL),⟨by show 2≤3;decide,fun d hd=>?_⟩⟩
      rcases List.mem_cons.mp hd with rfl | hd
      ·exact ⟨by decide,Dl.1,dk⟩
      ·rw [List.mem_singleton.mp hd];exact ⟨Dl.1,Int.le_refl _,dk⟩
     | false =>
      refine dh ?_
      refine ⟨_,rfl,_,rfl,_,rfl,nl,n0,n1,n2,n3,(sd:Int),(T:Int),rfl,aX.of (Qb.sb _ _ UY.nl),fun bb H26 Ub=>⟨_,rfl,?_⟩⟩
      cases bb with
      | false=>exact dh ⟨ft,fs0,rfl,Ub,hft.same Ub,gft⟩
      | true =>
       refine fc ⟨by show 0≤sizeLine;decide,fun e he=>?_⟩
       exact ⟨e,[],rfl,Ub.new he,KC (bz.of aB),⟨by decide,fun d hd=>by cases hd⟩⟩
    rintro σ H26 ⟨fB,fs,rfl,Ub,hfB,YM⟩
    have Hx:=Qb.same dm Ub
    have hBb:A2 (bI (L sd) (aU (rows sd T))).b:=⟨OG.b0,by have:=OG.b1;omega⟩
    refine ⟨_,rfl,_,rfl,_,_,rfl,rfl,cL,_,_,_,rfl,rfl,aX.of (Hx.sb _ _ UY.cL),by rw [A3];exact cN uz,_,rfl,_,rfl,_,rfl,?_⟩
    refine ⟨B2,av D0 D1 (1 - sd),p,fB,T,.bN,av C1 EL (1 - sd),tk+7,rows (1 - sd),eg (bI (L sd) (aU (rows sd T))),fs,a,rfl,Hx.sb,Hx.cg (1 - sd) uz,Hx.sb _ _ VA,OG.ok.give hBb,rfl,hfB,YM,Dl.2,by omega,fun j hj=>?_,fun j hj z=>?_,fun B5 H27 gv cg2=>?_⟩
    ·have:=P9 (1 - sd) j;omega
    ·have:=((Hx.cg (1 - sd) uz).at_ j hj).no
     rw [← z,VA] at this;cases this
    have Uc:=Hx.gv dm uz gv cg2
    refine ⟨B5,E2,tA2,pA2,L2,_,ρ2,τ2,G2,sv2,lv2,ps2,qs2,la2,lb2,l2,_,_,_,rfl,UY.same gv.bb,gv.bb _ _ UZ,Uc,bl2.LB gv.bb Uc.eb,UX.give bR Z6.d Ua (by rw [C0];exact Int.le_refl _) (by have:=(UX.kb sd bR).2.1;rw [hk2] at this;exact this) YM,fun s hs=>?_,fun s j=>?_⟩
    ·by_cases z:s=sd
     ·rw [z,if_pos (by omega)];exact Z6
     ·have es:s=1 - sd:=by omega
      have:=sq s hs
      rw [es,Uy]
      rw [es] at this
      by_cases y:1 - sd < sd
      ·rw [if_pos y] at this;rw [if_pos (by omega)];exact this
      ·rw [if_neg y] at this;rw [if_neg (by omega)];exact this
    ·by_cases z:s=1 - sd
     ·rw [z,aO]
      have h1:=Cb (rows:=rows (1 - sd)) (tick:=T) (b:=eg (bI (L sd) (aU (rows sd T)))) fs j
      have h2:=YM.len
      have h3:=rl (1 - sd) j
      rw [if_neg (by omega)] at h3
      rw [if_pos (by omega)]
      omega
     ·rw [ae z]
      have h3:=rl s j
      split at h3 <;> split <;> omega
   ·rintro σ Zu ⟨B,E,tA,pA,L,rows,ρ,τ,G,sv,lv,ps,qs,la,lb,l,OE,OF,M6,rfl,fx,Zv,st,bl,pc,sq,rl⟩
    refine ⟨_,rfl,_,rfl,_,rfl,_,rfl,B,E,tk+7,av x0 x1,tA,pA,av D0 D1,av C1 EL,L,rows,ρ,eL,sL,pl,tl,av iV iL,av iM i8,av iN iO,sv,lv,ps,qs,la,lb,G,rfl,st,fx.eL,fx.sL,fx.pl,fx.tl,bl.bk,pc.rel,pc.en,fun i j hi hj=>ba (bl.tp i hi) (bl.td j hj) (by omega),fun Zy Xy=>⟨_,rfl,dh ?_⟩⟩
    refine ⟨B,E,tA,pA,L,rows,ρ,τ,G,sv,lv,ps,qs,la,lb,l,_,_,_,_,_,_,rfl,fx,st.same dm Xy,bl,pc,fun s hs=>?_,fun s j=>?_⟩
    ·have:=sq s hs
     rw [if_pos hs] at this
     exact this
    ·have:=rl s j
     split at this <;> omega
  ·rintro σ H13 ⟨B,E,tA,pA,L,rows,ρ,τ,G,sv,lv,ps,qs,la,lb,l,v10,v11,Xu,OE,OF,M6,rfl,fx,st,bl,pc,sq,rl⟩
   exact q _
end
end K31
namespace K31
open PySem L2 PyProof.Rows
section
variable {P:Program} {w:World} {K:PySem.W.Frag} {mg:Str→Option Value} {base:Heap} {t:Ad}
theorem NB {f:Addr} {fd:FuncData} (T:Txt K mg t) (F:kL K "law" "law" wF f fd) (t7:aP K mg "is_sign" pT) (oY:aP K mg "look_sign" j3) (oZ:aP K mg "look_unit" j4) (An:aP K mg "power" vU) (t8:aP K mg "inverse" pU) (qf:aP K mg "exponent" mF) (qg:aP K mg "equation" jN) (kX:aP K mg "pivot_place" hZ) (oa:aP K mg "exchanged" j5) (qh:aP K mg "lessened" jO) (t9:aP K mg "cleared" jC) (xE:aP K mg "solved" lJ) (md:aP K mg "look_signs" i0) (og:aP K mg "look_cell" j6) (qi:aP K mg "value_at" mG) (qj:aP K mg "troubles" jP) (oh:aP K mg "is_sealed" j7) (uA:aP K mg "carried" lK) (xF:aP K mg "sealed" ny) (oi:aP K mg "look_late" j8) (jZ:aP K mg "look_measure" fh) (qk:aP K mg "quiet_of" mH) (me:aP K mg "lone_place" i4) (uB:aP K mg "is_root" pV) (iW:aP K mg "turned_places" dN) (ql:aP K mg "turns_at" jQ) (xG:aP K mg "mended" r8) (ja:aP K mg "number_signs" fj) (jb:aP K mg "signs_number" fk) (mf:aP K mg "look_piece" i5) (oj:aP K mg "_law_cell" j9) (jc:aP K mg "_law_numbers" fo) (jd:aP K mg "_law_measure" fq) (mh:aP K mg "_law_turns" fu) (oq:aP K mg "_law_fate" kA) (kY:aP K mg "_law_turned" h8) (ot:aP K mg "_law_give" kB) (ou:aP K mg "_law_dead" kC) (eP:aP K mg "_law_events_right" cu) (qm:aP K mg "_law_put" jR) (fJ:aP K mg "_law_pairs_right" dG):bZ P w K mg base (i9 P w) 13 f fd ["script"] (y0 K):=by
 obtain ⟨VY,Kf⟩:=T.fi
 obtain ⟨Hy,sW⟩:=T.vD
 obtain ⟨VZ,Kg⟩:=T.Pl
 obtain ⟨LF,xH⟩:=T.AF
 obtain ⟨Va,Kh⟩:=T.Pm
 obtain ⟨Vb,Ki⟩:=T.Pn
 obtain ⟨Qc,Cr⟩:=T.HE
 obtain ⟨RL,ER⟩:=T.Js
 obtain ⟨LG,xI⟩:=T.AG
 obtain ⟨LH,xJ⟩:=T.AH
 obtain ⟨LI,xK⟩:=T.AI
 obtain ⟨YN,NC⟩:=T.S7
 obtain ⟨Z8,Qd⟩:=T.Wm
 obtain ⟨Ud,Hz⟩:=T.MH
 obtain ⟨RM,ES⟩:=T.Jt
 have gX:=Dg (P:=P) (w:=w) (base:=base) t7 T
 have eC:=xx md T gX
 have oE:=AK og T eC
 have dj:=AM oY T gX
 have kD:=AO oZ T dj
 have el:=Jv An T dj
 have jE:=Dj t8 T kD el
 have qY:=Bz qf T kD
 have qV:=B6 (P:=P) (w:=w) (base:=base) qi T
 have gY:=B9 qj T oE qV el
 have oJ:=AR oh T gY
 have tS:=Dm (P:=P) (w:=w) (base:=base) uA T
 have wm:=HH xF T eC tS
 have oF:=AU (P:=P) (w:=w) (base:=base) oi T
 have jT:=vE jZ T oF
 have qa:=CC qk T jT
 have qX:=CF (P:=P) (w:=w) (base:=base) qg T
 have kO:=wV (P:=P) (w:=w) (base:=base) kX T
 have oI:=AV (P:=P) (w:=w) (base:=base) oa T
 have qW:=CH (P:=P) (w:=w) (base:=base) qh T
 have tU:=Dn t9 T jE qW
 have lT:=HJ xE T qX kO oI tU
 have mP:=x3 me T qY jE
 have tW:=Dw (P:=P) (w:=w) (base:=base) uB T
 have iT:=tV iW T lT mP tW el
 have qZ:=CI ql T lT el
 have wo:=HK xG T gY oJ iT qZ
 obtain ⟨cS,cT⟩:=tY (P:=P) (w:=w) (base:=base) T sW
 obtain ⟨lW,lX⟩:=HN T ER cS cT
 obtain ⟨D9,EA⟩:=MW T Ki lW lX
 have gE:=vF (P:=P) (w:=w) (base:=base) ja T
 have gD:=vG jb T dj
 obtain ⟨tj,tm⟩:=D8 (P:=P) (w:=w) (base:=base) T Cr
 obtain ⟨mU,mV⟩:=x5 T xI lW lX
 obtain ⟨mQ,mR⟩:=x6 (P:=P) (w:=w) (base:=base) T xJ
 obtain ⟨mS,mT⟩:=x9 (P:=P) (w:=w) (base:=base) T xK
 obtain ⟨QL,QM⟩:=TV (P:=P) (w:=w) (base:=base) T Qd
 obtain ⟨ph,pj⟩:=J3 (P:=P) (w:=w) (base:=base) T Hz
 obtain ⟨xC,xD⟩:=HR (P:=P) (w:=w) (base:=base) T ES
 obtain ⟨ED,EE⟩:=Mc T Kh gD D9 EA tj tm mQ mR mS mT
 obtain ⟨mW,mX⟩:=yB T xH gE wm
 obtain ⟨EN,EO⟩:=Mm T Kg wo ED EE mU mV mW mX
 obtain ⟨Ak,Al⟩:=Mo T Kf qa cS cT
 have mY:=yC mf T gX
 obtain ⟨KR,KS⟩:=QB T NC mY
 have jY:=vJ (P:=P) (w:=w) (base:=base) jd
 have gG:=yE (P:=P) (w:=w) (base:=base) mh T
 have oV:=Ae oq T gG
 have kU:=wx (P:=P) (w:=w) (base:=base) kY T
 have oX:=Ag dm ot T kU
 have gH:=vL (P:=P) (w:=w) (base:=base) jc T
 have kH:=Ai (P:=P) (w:=w) (base:=base) oj T
 have eO:=oT (P:=P) (w:=w) (base:=base) eP T
 have qe:=Cj qm T ph pj KR KS
 have fI:=qA fJ T ph pj QL QM
 have oW:=Aj (P:=P) (w:=w) (base:=base) ou T
 exact QS T F kH gH jY oV oW oX eO qe fI Ak Al EN EO xC xD
end
end K31
namespace K31
open PySem L2 PyProof.Rows
theorem Qe {K:PySem.W.Frag} {h:Heap} {mg:Str→Option Value} {eF cG dJ eG uC aY gI xM cD lq cw lr lz fY gh cx cy cz pq uD jF gi:Addr} {vN Ao vO Ap yI sX yJ yK Aq yL Ar ET Kj IA Kk:Tok} {EU:Option Addr} {EV EW EX EY EZ Ea:Tok} {IB:Nat} {Eb:Array (Option Value)} {ioc:Value} {iod ian:Option Addr} {YO:Array (Option Value)} {ikV YQ ipm Ue ict:Value} {uE:Value} {uF uG:Option Addr} {sY:Array (Option Value)} {uH sZ uI kI uJ:Value} {ND:Value} {NF NG:Option Addr} {Kl:Array (Option Value)} {NH Km NI Cs NJ:Value} {yM:Value} {yN yO:Option Addr} {xN:Array (Option Value)} {yP xO yQ ox yR:Value} {NK:Value} {NL NM:Option Addr} {Kn:Array (Option Value)} {NN Ko NO Ct NP:Value} {NQ:Value} {NR NS:Option Addr} {Kp:Array (Option Value)} {NT Kq NU Cu NV:Value} {Ec:Value} {Ed Ee:Option Addr} {Cv:Array (Option Value)} {Ef Cw Eg u9 Eh:Value} {IC:Value} {ID IE:Option Addr} {Ei:Array (Option Value)} {IF Ej IG xP IH:Value} {yS:Value} {yT yU:Option Addr} {xQ:Array (Option Value)} {yV xR yW oy yX:Value} {yY:Value} {yZ yb:Option Addr} {xS:Array (Option Value)} {yc xT yd oz ye:Value} {yf:Value} {yg yh:Option Addr} {xU:Array (Option Value)} {yi xV yj o3 yk:Value} {Qf:Value} {Qg Qh:Option Addr} {NW:Array (Option Value)} {Qi NX Qj GG Qk:Value} {Ug:Value} {Uh Ui:Option Addr} {Ql:Array (Option Value)} {Uj Qm Uk Kr Ul:Value} {Ks:Value} {Kt Ku:Option Addr} {II:Array (Option Value)} {Kv IJ Kw zY Kx:Value} {IK:Value} {IL IM:Option Addr} {Ek:Array (Option Value)} {IP El IQ xW IS:Value} (KX:K.In h) (G:h.Ns mainGlobals mg)
  (qo:PySem.W.nsIn K mainGlobals "BadCell"=some (some (.ref eF)))
  (kZ:PySem.W.nsIn K mainGlobals "BadMeasure"=some (some (.ref cG)))
  (o4:PySem.W.nsIn K mainGlobals "BadPiece"=some (some (.ref dJ)))
  (qp:PySem.W.nsIn K mainGlobals "BadSign"=some (some (.ref eG)))
  (qq:PySem.W.nsIn K mainGlobals "DIVISOR"=some (some (.ref uC)))
  (qr:PySem.W.nsIn K mainGlobals "LinkEnd"=some (some (.ref aY)))
  (uK:PySem.W.nsIn K mainGlobals "NoLink"=some (some (.ref gI)))
  (je:PySem.W.nsIn K mainGlobals "BIRTH_SIGNS"=some (some (.int 2 vN)))
  (o5:PySem.W.nsIn K mainGlobals "COUNT_AT"=some (some (.int 5 Ao)))
  (jf:PySem.W.nsIn K mainGlobals "FREE_PLACES"=some (some (.int 18 vO)))
  (o6:PySem.W.nsIn K mainGlobals "KNOWN_AT"=some (some (.int 2 Ap)))
  (mi:PySem.W.nsIn K mainGlobals "LENGTH_AT"=some (some (.int 6 yI)))
  (gj:PySem.W.nsIn K mainGlobals "LONGEST_PIECE"=some (some (.int 10 sX)))
  (mj:PySem.W.nsIn K mainGlobals "MOST_LATE"=some (some (.int 6 yJ)))
  (ml:PySem.W.nsIn K mainGlobals "MOST_LOST"=some (some (.int 4 yK)))
  (o7:PySem.W.nsIn K mainGlobals "NO_BIRTH"=some (some (.int 0 Aq)))
  (mm:PySem.W.nsIn K mainGlobals "NUMBER_AT"=some (some (.int 4 yL)))
  (o8:PySem.W.nsIn K mainGlobals "PIECE_AT"=some (some (.int 7 Ar)))
  (uL:PySem.W.nsIn K mainGlobals "PLACES"=some (some (.int 24 ET)))
  (As:PySem.W.nsIn K mainGlobals "ROOT"=some (some (.int 5 Kj)))
  (xX:PySem.W.nsIn K mainGlobals "SIGNS"=some (some (.int 97 IA)))
  (Au:PySem.W.nsIn K mainGlobals "SUMS"=some (some (.int 6 Kk)))
  (Av:PySem.W.nsIn K mainGlobals "len"=some none)
  (xY:PySem.W.nsIn K mainGlobals "list"=some none)
  (Aw:PySem.W.nsIn K mainGlobals "max"=some none)
  (Ax:PySem.W.nsIn K mainGlobals "min"=some none)
  (uM:PySem.W.nsIn K mainGlobals "range"=some none)
  (mn:PySem.W.nsIn K mainGlobals "reversed"=some none)
  (uN:PySem.W.nsIn K mainGlobals "tuple"=some none)
  (Ay:PySem.W.nsIn K mainGlobals "zip"=some none)
  (qu:PySem.W.excIn K eF [.type "ValueError",.type "Exception",.type "BaseException",.type "object"] "ValueError.__new__"=true)
  (ka:PySem.W.findIn K (.ref eF) "__getattribute__"=some (some (.builtin "BaseException.__getattribute__")))
  (jg:PySem.W.findIn K (.ref eF) "__getattr__"=some none)
  (jh:PySem.W.findIn K (.ref eF) "__class__"=some (some (.builtin "object.__class__")))
  (ji:PySem.W.isClsIn K eF=true)
  (jj:PySem.W.mroIn K eF (.type "object")=some true)
  (iX:PySem.W.subIn K (.ref eF) (.type "BaseException")=some true)
  (kd:PySem.W.excIn K cG [.type "ValueError",.type "Exception",.type "BaseException",.type "object"] "ValueError.__new__"=true)
  (gm:PySem.W.findIn K (.ref cG) "__getattribute__"=some (some (.builtin "BaseException.__getattribute__")))
  (gJ:PySem.W.findIn K (.ref cG) "__getattr__"=some none)
  (gK:PySem.W.findIn K (.ref cG) "__class__"=some (some (.builtin "object.__class__")))
  (gL:PySem.W.isClsIn K cG=true)
  (gM:PySem.W.mroIn K cG (.type "object")=some true)
  (fK:PySem.W.subIn K (.ref cG) (.type "BaseException")=some true)
  (o9:PySem.W.excIn K dJ [.type "ValueError",.type "Exception",.type "BaseException",.type "object"] "ValueError.__new__"=true)
  (jk:PySem.W.findIn K (.ref dJ) "__getattribute__"=some (some (.builtin "BaseException.__getattribute__")))
  (iY:PySem.W.findIn K (.ref dJ) "__getattr__"=some none)
  (iZ:PySem.W.findIn K (.ref dJ) "__class__"=some (some (.builtin "object.__class__")))
  (ia:PySem.W.isClsIn K dJ=true)
  (ib:PySem.W.mroIn K dJ (.type "object")=some true)
  (gq:PySem.W.subIn K (.ref dJ) (.type "BaseException")=some true)
  (qv:PySem.W.excIn K eG [.type "ValueError",.type "Exception",.type "BaseException",.type "object"] "ValueError.__new__"=true)
  (ke:PySem.W.findIn K (.ref eG) "__getattribute__"=some (some (.builtin "BaseException.__getattribute__")))
  (jl:PySem.W.findIn K (.ref eG) "__getattr__"=some none)
  (jm:PySem.W.findIn K (.ref eG) "__class__"=some (some (.builtin "object.__class__")))
  (jn:PySem.W.isClsIn K eG=true)
  (jo:PySem.W.mroIn K eG (.type "object")=some true)
  (ic:PySem.W.subIn K (.ref eG) (.type "BaseException")=some true)
  (uO:PySem.W.excIn K gI [.type "ValueError",.type "Exception",.type "BaseException",.type "object"] "ValueError.__new__"=true)
  (mo:PySem.W.findIn K (.ref gI) "__getattribute__"=some (some (.builtin "BaseException.__getattribute__")))
  (kf:PySem.W.findIn K (.ref gI) "__getattr__"=some none)
  (kg:PySem.W.findIn K (.ref gI) "__class__"=some (some (.builtin "object.__class__")))
  (kh:PySem.W.isClsIn K gI=true)
  (ki:PySem.W.mroIn K gI (.type "object")=some true)
  (jq:PySem.W.subIn K (.ref gI) (.type "BaseException")=some true)
  (qw:K.lookup uC=some ⟨.type "tuple",EU,.seq #[.int (21) EV,.int (80) EW,.int (53) EX,.int (2) EY,.int (55) EZ,.int (63) Ea] IB,Eb⟩)
  (uP:PySem.W.makesIn K aY=true)
  (xZ:PySem.W.findIn K (.ref aY) "__init__"=some (some (.ref xM)))
  (Em:PySem.W.isFn K (.ref xM)=true)
  (Ep:PySem.W.keepIn K (.ref aY)=true)
  (Er:K.lookup xM=some ⟨ioc,iod,.func (PySem.W.fnOf "__init__" "LinkEnd.__init__" (bT tP) (bG tP) (aH tP) .none ikV YQ ipm ian Ue ict),YO⟩)
  (Et:PySem.W.codeIn K Ue "LinkEnd.__init__"=true)
  (Eu:PySem.W.keepIn K (.ref xM)=true)
  (Ew:PySem.W.plainGet K aY Str.empty=true)
  (Ex:PySem.W.hasDictIn K aY=true)
  (Ey:PySem.W.plainOver K aY=true)
  (Ez:PySem.W.findIn K (.ref aY) "__setattr__"=some (some (.builtin "object.__setattr__")))
  (qx:PySem.W.findIn K (.ref aY) "quiet"=some none)
  (uQ:PySem.W.findIn K (.ref aY) "side"=some none)
  (uR:PySem.W.findIn K (.ref aY) "done"=some none)
  (mq:PySem.W.findIn K (.ref aY) "unheard"=some none)
  (qy:PySem.W.findIn K (.ref aY) "birth"=some none)
  (qz:PySem.W.findIn K (.ref aY) "known"=some none)
  (uS:PySem.W.findIn K (.ref aY) "pair"=some none)
  (uT:PySem.W.findIn K (.ref aY) "told"=some none)
  (pD:PySem.W.findIn K (.ref aY) "pieces"=some none)
  (mr:PySem.W.findIn K (.ref aY) "offered"=some none)
  (rA:PySem.W.findIn K (.ref aY) "taken"=some none)
  (dM:PySem.W.findIn K (.ref aY) "forget_pieces"=some (some (.ref cD)))
  (da:PySem.W.isFn K (.ref cD)=true)
  (dc:PySem.W.keepIn K (.ref cD)=true)
  (eQ:K.lookup cD=some ⟨uE,uF,.func (PySem.W.fnOf "forget_pieces" "LinkEnd.forget_pieces" (bT cQ) (bG cQ) (aH cQ) .none uH sZ uI uG kI uJ),sY⟩)
  (eR:PySem.W.codeIn K kI "LinkEnd.forget_pieces"=true)
  (eT:PySem.W.keepIn K (.ref cD)=true)
  (kj:PySem.W.findIn K (.ref aY) "tick"=some (some (.ref lq)))
  (mw:PySem.W.isFn K (.ref lq)=true)
  (mx:PySem.W.keepIn K (.ref lq)=true)
  (rB:K.lookup lq=some ⟨ND,NF,.func (PySem.W.fnOf "tick" "LinkEnd.tick" (bT n6) (bG n6) (aH n6) .none NH Km NI NG Cs NJ),Kl⟩)
  (rC:PySem.W.codeIn K Cs "LinkEnd.tick"=true)
  (rD:PySem.W.keepIn K (.ref lq)=true)
  (eU:PySem.W.findIn K (.ref aY) "cell_given"=some (some (.ref cw)))
  (fL:PySem.W.isFn K (.ref cw)=true)
  (fM:PySem.W.keepIn K (.ref cw)=true)
  (gr:K.lookup cw=some ⟨yM,yN,.func (PySem.W.fnOf "cell_given" "LinkEnd.cell_given" (bT dv) (bG dv) (aH dv) .none yP xO yQ yO ox yR),xN⟩)
  (gs:PySem.W.codeIn K ox "LinkEnd.cell_given"=true)
  (gy:PySem.W.keepIn K (.ref cw)=true)
  (kl:PySem.W.findIn K (.ref aY) "read"=some (some (.ref lr)))
  (my:PySem.W.isFn K (.ref lr)=true)
  (mz:PySem.W.keepIn K (.ref lr)=true)
  (rF:K.lookup lr=some ⟨NK,NL,.func (PySem.W.fnOf "read" "LinkEnd.read" (bT tQ) (bG tQ) (aH tQ) .none NN Ko NO NM Ct NP),Kn⟩)
  (rG:PySem.W.codeIn K Ct "LinkEnd.read"=true)
  (rH:PySem.W.keepIn K (.ref lr)=true)
  (kn:PySem.W.findIn K (.ref aY) "meet"=some (some (.ref lz)))
  (m8:PySem.W.isFn K (.ref lz)=true)
  (m9:PySem.W.keepIn K (.ref lz)=true)
  (rJ:K.lookup lz=some ⟨NQ,NR,.func (PySem.W.fnOf "meet" "LinkEnd.meet" (bT tR) (bG tR) (aH tR) .none NT Kq NU NS Cu NV),Kp⟩)
  (rK:PySem.W.codeIn K Cu "LinkEnd.meet"=true)
  (rL:PySem.W.keepIn K (.ref lz)=true)
  (gz:PySem.W.findIn K (.ref aY) "come_up"=some (some (.ref fY)))
  (ie:PySem.W.isFn K (.ref fY)=true)
  (ig:PySem.W.keepIn K (.ref fY)=true)
  (ko:K.lookup fY=some ⟨Ec,Ed,.func (PySem.W.fnOf "come_up" "LinkEnd.come_up" (bT jD) (bG jD) (aH jD) .none Ef Cw Eg Ee u9 Eh),Cv⟩)
  (kq:PySem.W.codeIn K u9 "LinkEnd.come_up"=true)
  (kr:PySem.W.keepIn K (.ref fY)=true)
  (ij:PySem.W.findIn K (.ref aY) "end_up"=some (some (.ref gh)))
  (jr:PySem.W.isFn K (.ref gh)=true)
  (js:PySem.W.keepIn K (.ref gh)=true)
  (nB:K.lookup gh=some ⟨IC,ID,.func (PySem.W.fnOf "end_up" "LinkEnd.end_up" (bT lL) (bG lL) (aH lL) .none IF Ej IG IE xP IH),Ei⟩)
  (nC:PySem.W.codeIn K xP "LinkEnd.end_up"=true)
  (nE:PySem.W.keepIn K (.ref gh)=true)
  (eV:PySem.W.findIn K (.ref aY) "start_over"=some (some (.ref cx)))
  (fN:PySem.W.isFn K (.ref cx)=true)
  (fO:PySem.W.keepIn K (.ref cx)=true)
  (g6:K.lookup cx=some ⟨yS,yT,.func (PySem.W.fnOf "start_over" "LinkEnd.start_over" (bT dw) (bG dw) (aH dw) .none yV xR yW yU oy yX),xQ⟩)
  (g7:PySem.W.codeIn K oy "LinkEnd.start_over"=true)
  (g8:PySem.W.keepIn K (.ref cx)=true)
  (eX:PySem.W.findIn K (.ref aY) "hear_count"=some (some (.ref cy)))
  (fP:PySem.W.isFn K (.ref cy)=true)
  (fQ:PySem.W.keepIn K (.ref cy)=true)
  (g9:K.lookup cy=some ⟨yY,yZ,.func (PySem.W.fnOf "hear_count" "LinkEnd.hear_count" (bT dy) (bG dy) (aH dy) .none yc xT yd yb oz ye),xS⟩)
  (hJ:PySem.W.codeIn K oz "LinkEnd.hear_count"=true)
  (hU:PySem.W.keepIn K (.ref cy)=true)
  (eY:PySem.W.findIn K (.ref aY) "take_piece"=some (some (.ref cz)))
  (fR:PySem.W.isFn K (.ref cz)=true)
  (fS:PySem.W.keepIn K (.ref cz)=true)
  (hV:K.lookup cz=some ⟨yf,yg,.func (PySem.W.fnOf "take_piece" "LinkEnd.take_piece" (bT d9) (bG d9) (aH d9) .none yi xV yj yh o3 yk),xU⟩)
  (hW:PySem.W.codeIn K o3 "LinkEnd.take_piece"=true)
  (hX:PySem.W.keepIn K (.ref cz)=true)
  (nF:PySem.W.findIn K (.ref aY) "put"=some (some (.ref pq)))
  (pE:PySem.W.isFn K (.ref pq)=true)
  (pF:PySem.W.keepIn K (.ref pq)=true)
  (uU:K.lookup pq=some ⟨Qf,Qg,.func (PySem.W.fnOf "put" "LinkEnd.put" (bT zJ) (bG zJ) (aH zJ) .none Qi NX Qj Qh GG Qk),NW⟩)
  (uV:PySem.W.codeIn K GG "LinkEnd.put"=true)
  (uW:PySem.W.keepIn K (.ref pq)=true)
  (pG:PySem.W.findIn K (.ref aY) "up"=some (some (.ref uD)))
  (rM:PySem.W.isFn K (.ref uD)=true)
  (rN:PySem.W.keepIn K (.ref uD)=true)
  (xa:K.lookup uD=some ⟨Ug,Uh,.func (PySem.W.fnOf "up" "LinkEnd.up" (bT HC) (bG HC) (aH HC) .none Uj Qm Uk Ui Kr Ul),Ql⟩)
  (xb:PySem.W.codeIn K Kr "LinkEnd.up"=true)
  (xc:PySem.W.keepIn K (.ref uD)=true)
  (jt:PySem.W.findIn K (.ref aY) "waits"=some (some (.ref jF)))
  (k8:PySem.W.isFn K (.ref jF)=true)
  (k9:PySem.W.keepIn K (.ref jF)=true)
  (pH:K.lookup jF=some ⟨Ks,Kt,.func (PySem.W.fnOf "waits" "LinkEnd.waits" (bT pW) (bG pW) (aH pW) .none Kv IJ Kw Ku zY Kx),II⟩)
  (pI:PySem.W.codeIn K zY "LinkEnd.waits"=true)
  (pJ:PySem.W.keepIn K (.ref jF)=true)
  (ik:PySem.W.findIn K (.ref aY) "events"=some (some (.ref gi)))
  (ju:PySem.W.isFn K (.ref gi)=true)
  (jv:PySem.W.keepIn K (.ref gi)=true)
  (nG:K.lookup gi=some ⟨IK,IL,.func (PySem.W.fnOf "events" "LinkEnd.events" (bT lM) (bG lM) (aH lM) .none IP El IQ IM xW IS),Ek⟩)
  (nH:PySem.W.codeIn K xW "LinkEnd.events"=true)
  (nI:PySem.W.keepIn K (.ref gi)=true)
  : ∃ t,Txt K mg t:=⟨⟨eF,cG,dJ,eG,uC,aY,gI,xM,cD,lq,cw,lr,lz,fY,gh,cx,cy,cz,pq,uD,jF,gi⟩,⟨⟨_,PySem.W.mg_of KX G je⟩,⟨_,PySem.W.mg_of KX G o5⟩,⟨_,PySem.W.mg_of KX G jf⟩,⟨_,PySem.W.mg_of KX G o6⟩,⟨_,PySem.W.mg_of KX G mi⟩,⟨_,PySem.W.mg_of KX G gj⟩,⟨_,PySem.W.mg_of KX G mj⟩,⟨_,PySem.W.mg_of KX G ml⟩,⟨_,PySem.W.mg_of KX G o7⟩,⟨_,PySem.W.mg_of KX G mm⟩,⟨_,PySem.W.mg_of KX G o8⟩,⟨_,PySem.W.mg_of KX G uL⟩,⟨_,PySem.W.mg_of KX G As⟩,⟨_,PySem.W.mg_of KX G xX⟩,⟨_,PySem.W.mg_of KX G Au⟩,PySem.W.mg_none_of KX G Av,PySem.W.mg_none_of KX G xY,PySem.W.mg_none_of KX G Aw,PySem.W.mg_none_of KX G Ax,PySem.W.mg_none_of KX G uM,PySem.W.mg_none_of KX G mn,PySem.W.mg_none_of KX G uN,PySem.W.mg_none_of KX G Ay,PySem.W.mg_of KX G qo,PySem.W.mg_of KX G kZ,PySem.W.mg_of KX G o4,PySem.W.mg_of KX G qp,PySem.W.mg_of KX G qq,PySem.W.mg_of KX G qr,PySem.W.mg_of KX G uK,qu,⟨ka,jg,jh,ji,jj,iX⟩,kd,⟨gm,gJ,gK,gL,gM,fK⟩,o9,⟨jk,iY,iZ,ia,ib,gq⟩,qv,⟨ke,jl,jm,jn,jo,ic⟩,uO,⟨mo,kf,kg,kh,ki,jq⟩,⟨⟨_,_,_,qw,rfl,rfl,(by show 6≤sizeLine;decide),(.cons ⟨_,rfl⟩ (.cons ⟨_,rfl⟩ (.cons ⟨_,rfl⟩ (.cons ⟨_,rfl⟩ (.cons ⟨_,rfl⟩ (.cons ⟨_,rfl⟩ .nil))))))⟩⟩,⟨uP,xZ,Em,Ep⟩,⟨_,eM Er Et Eu⟩,⟨Ew,Ex,Ey,Ez⟩,qx,uQ,uR,mq,qy,qz,uS,uT,pD,mr,rA,⟨dM,da,dc⟩,⟨_,eM eQ eR eT⟩,⟨kj,mw,mx⟩,⟨_,eM rB rC rD⟩,⟨eU,fL,fM⟩,⟨_,eM gr gs gy⟩,⟨kl,my,mz⟩,⟨_,eM rF rG rH⟩,⟨kn,m8,m9⟩,⟨_,eM rJ rK rL⟩,⟨gz,ie,ig⟩,⟨_,eM ko kq kr⟩,⟨ij,jr,js⟩,⟨_,eM nB nC nE⟩,⟨eV,fN,fO⟩,⟨_,eM g6 g7 g8⟩,⟨eX,fP,fQ⟩,⟨_,eM g9 hJ hU⟩,⟨eY,fR,fS⟩,⟨_,eM hV hW hX⟩,⟨nF,pE,pF⟩,⟨_,eM uU uV uW⟩,⟨pG,rM,rN⟩,⟨_,eM xa xb xc⟩,⟨jt,k8,k9⟩,⟨_,eM pH pI pJ⟩,⟨ik,ju,jv⟩,⟨_,eM nG nH nI⟩⟩⟩
end K31
open PySem PySem.W PyProof.Rows
def PySem.W.Fast.tw9443472716856554311:Nat:=0
def PySem.W.Fast.tw11032151748886709743:Nat:=0
def PySem.W.Fast.tw16224916725889240163:Nat:=0
def PySem.W.Fast.tw8274107860488029034:Nat:=0
def PySem.W.Fast.tw2901017204914879061:Nat:=0
def PySem.W.Fast.tw2838162555245437580:Nat:=0
def PySem.W.Fast.tw7515163657482505977:Nat:=0
def PySem.W.Fast.tw3147472967954681421:Nat:=0
def PySem.W.Fast.tw61495728729735544:Nat:=0
def PySem.W.Fast.tw8194609416378318652:Nat:=0
def PySem.W.Fast.tw18275675357484454398:Nat:=0
def PySem.W.Fast.tw10753306118073680043:Nat:=0
def PySem.W.Fast.tw6994762162310585386:Nat:=0
def PySem.W.Fast.tw15997185426112444590:Nat:=0
def PySem.W.Fast.tw6112071794641306961:Nat:=0
def PySem.W.Fast.tw1919320957791610734:Nat:=0
def PySem.W.Fast.tw17623294506519181231:Nat:=0
def PySem.W.Fast.tw7859382876912444401:Nat:=0
def PySem.W.Fast.tw4274132953594962367:Nat:=0
def PySem.W.Fast.tw6919471142961264751:Nat:=0
def PySem.W.Fast.tw15930683737790911355:Nat:=0
def PySem.W.Fast.tw2912848858945394208:Nat:=0
def PySem.W.Fast.tw4053034191444745851:Nat:=0
def PySem.W.Fast.tw16687168162648482757:Nat:=0
def PySem.W.Fast.tw14329355285804998087:Nat:=0
def PySem.W.Fast.tw698360606322989881:Nat:=0
def PySem.W.Fast.tw1543007831047812240:Nat:=0
def PySem.W.Fast.tw12102708636395131200:Nat:=0
def PySem.W.Fast.tw15125459153216663045:Nat:=0
def PySem.W.Fast.tw7849323278061480959:Nat:=0
def PySem.W.Fast.tw4314037157654893073:Nat:=0
def PySem.W.Fast.tw13385600464685745572:Nat:=0
def PySem.W.Fast.tw5470174673362156459:Nat:=0
def PySem.W.Fast.tw1117521548119910427:Nat:=0
def PySem.W.Fast.tw16821080576198228031:Nat:=0
def PySem.W.Fast.tw10121388416806259414:Nat:=0
def PySem.W.Fast.tw5609138531437885708:Nat:=0
def PySem.W.Fast.tw1004641618397049827:Nat:=0
def PySem.W.Fast.tw7187672624140428105:Nat:=0
def PySem.W.Fast.tw17193880563023529594:Nat:=0
def PySem.W.Fast.tw1552846716447651093:Nat:=0
def PySem.W.Fast.tw4864321715933036029:Nat:=0
def PySem.W.Fast.tw4851563854013271080:Nat:=0
def PySem.W.Fast.tw2715875964018964568:Nat:=0
def PySem.W.Fast.tw15882485533992751739:Nat:=0
def PySem.W.Fast.tw13113479151426906802:Nat:=0
def PySem.W.Fast.tw1706460608037165808:Nat:=0
def PySem.W.Fast.tw5318718559086386314:Nat:=0
def PySem.W.Fast.tw1925665100208952086:Nat:=0
def PySem.W.Fast.tw7314380726976862108:Nat:=0
def PySem.W.Fast.tw15331677241339969219:Nat:=0
def PySem.W.Fast.tw894148918068591124:Nat:=0
def PySem.W.Fast.tw3550335711768006332:Nat:=0
def PySem.W.Fast.tw11287879165371810523:Nat:=0
def PySem.W.Fast.tw818504252351862607:Nat:=0
def PySem.W.Fast.tw13311809544075037051:Nat:=0
def PySem.W.Fast.tw17004849914365156859:Nat:=0
def PySem.W.Fast.tw13595922073838388109:Nat:=0
def PySem.W.Fast.tw5564026294331922124:Nat:=0
def PySem.W.Fast.tw10689637254290175859:Nat:=0
def PySem.W.Fast.tw7247499795309269375:Nat:=0
def PySem.W.Fast.tw14188987381522628544:Nat:=0
def PySem.W.Fast.tw8898078235007291913:Nat:=0
def PySem.W.Fast.tw5063223464077760552:Nat:=0
def PySem.W.Fast.tw8903167929102667665:Nat:=0
def PySem.W.Fast.tw3510406697065899471:Nat:=0
def PySem.W.Fast.tw1198177701098133876:Nat:=0
def PySem.W.Fast.tw10662166392452758559:Nat:=0
def PySem.W.Fast.tw12804552843956629275:Nat:=0
def PySem.W.Fast.tw18028378269264697395:Nat:=0
def PySem.W.Fast.tw17335005508860506639:Nat:=0
def PySem.W.Fast.tw17642652717163867609:Nat:=0
def PySem.W.Fast.tw9897323310859656974:Nat:=0
def PySem.W.Fast.tw3193057484577228902:Nat:=0
def PySem.W.Fast.tw4429737647424363332:Nat:=0
def PySem.W.Fast.tw11573825186455336381:Nat:=0
def PySem.W.Fast.tw13103230043879510377:Nat:=0
def PySem.W.Fast.tw5941724017666634682:Nat:=0
def PySem.W.Fast.tw890135540463113560:Nat:=0
def PySem.W.Fast.tw1823205774820158117:Nat:=0
def PySem.W.Fast.tw13518125950994911459:Nat:=0
def PySem.W.Fast.tw8590428221042310657:Nat:=0
def PySem.W.Fast.tw8424140933634885513:Nat:=0
def PySem.W.Fast.tw6268791710885237781:Nat:=0
def PySem.W.Fast.tw2604994458609582702:Nat:=0
def PySem.W.Fast.tw17265355454015659434:Nat:=0
def PySem.W.Fast.tw16040186620100073690:Nat:=0
def PySem.W.Fast.tw11469496037959846948:Nat:=0
def PySem.W.Fast.tw14192368857581201197:Nat:=0
def PySem.W.Fast.tw12822654792503324539:Nat:=0
def PySem.W.Fast.tw18066858687176090281:Nat:=0
def PySem.W.Fast.tw10551272003422216190:Nat:=0
def PySem.W.Fast.tw335606217872422263:Nat:=0
def PySem.W.Fast.tw3538948254726188936:Nat:=0
def PySem.W.Fast.tw17133853998316682712:Nat:=0
def PySem.W.Fast.tw16101578257244185454:Nat:=0
def PySem.W.Fast.tw17115478410849589046:Nat:=0
def PySem.W.Fast.tw12886247970727998164:Nat:=0
def PySem.W.Fast.tw11055197179578954418:Nat:=0
def PySem.W.Fast.tw5228689861222295288:Nat:=0
def PySem.W.Fast.tw13984035700219746978:Nat:=0
def PySem.W.Fast.tw13097740746146591874:Nat:=0
def PySem.W.Fast.tw9999825242191027751:Nat:=0
def PySem.W.Fast.tw17455935117358694115:Nat:=0
def PySem.W.Fast.tw4989449070542428107:Nat:=0
def PySem.W.Fast.tw12373294190353192904:Nat:=0
def PySem.W.Fast.tw17776957472830464681:Nat:=0
def PySem.W.Fast.tw7885533172631870823:Nat:=0
def PySem.W.Fast.tw4107206178934854155:Nat:=0
def PySem.W.Fast.tw13865908436708453014:Nat:=0
def PySem.W.Fast.tw9433520613510201617:Nat:=0
def PySem.W.Fast.tw5943002612252999730:Nat:=0
def PySem.W.Fast.tw11028556971169575668:Nat:=0
def PySem.W.Fast.tw9773303956812451648:Nat:=0
def PySem.W.Fast.tw5409867982234561284:Nat:=0
def PySem.W.Fast.tw1882955899414052573:Nat:=0
def PySem.W.Fast.tw15986984315603279048:Nat:=0
def PySem.W.Fast.tw1831765194284851959:Nat:=0
def PySem.W.Fast.tw13320678002833612485:Nat:=0
def PySem.W.Fast.tw13292077259134690010:Nat:=0
def PySem.W.Fast.tw15430155246880348276:Nat:=0
def PySem.W.Fast.tw14789657167869194307:Nat:=0
def PySem.W.Fast.tw13577755159011554414:Nat:=0
def PySem.W.Fast.tw14816412113093564891:Nat:=0
def PySem.W.Fast.tw14044155174339684943:Nat:=0
def PySem.W.Fast.tw5422562829467655869:Nat:=0
def PySem.W.Fast.tw6167116143531420594:Nat:=0
def PySem.W.Fast.tw5993646343310833267:Nat:=0
def PySem.W.Fast.tw17070029858959903506:Nat:=0
def PySem.W.Fast.tw1523894104935152409:Nat:=0
def PySem.W.Fast.tw13229065911242167485:Nat:=0
def PySem.W.Fast.tw4337291435429254508:Nat:=0
def PySem.W.Fast.tw3834303858505092859:Nat:=0
def PySem.W.Fast.tw11595170435834280637:Nat:=0
def PySem.W.Fast.tw2954545602541012136:Nat:=0
def PySem.W.Fast.tw3419307306121544793:Nat:=0
def PySem.W.Fast.tw11967044537419400631:Nat:=0
def PySem.W.Fast.tw3734110685182907218:Nat:=0
def PySem.W.Fast.tw9517503233230090631:Nat:=0
def PySem.W.Fast.tw12768229506481296915:Nat:=0
def PySem.W.Fast.tw14559812959075559291:Nat:=0
def PySem.W.Fast.tw14710098513407512284:Nat:=0
def PySem.W.Fast.tw8843614463065650146:Nat:=0
def PySem.W.Fast.tw4638553668855420403:Nat:=0
def PySem.W.Fast.tw5374576181622337571:Nat:=0
def PySem.W.Fast.tw3348019231880450224:Nat:=0
def PySem.W.Fast.tw13850851585644545866:Nat:=0
def PySem.W.Fast.tw4094712930377378902:Nat:=0
def PySem.W.Fast.tw5635465078252616367:Nat:=0
def PySem.W.Fast.tw12086492391693978482:Nat:=0
def PySem.W.Fast.tw15463999222650988241:Nat:=0
def PySem.W.Fast.tw10167394202065776240:Nat:=0
def PySem.W.Fast.tw10632735652391211642:Nat:=0
def PySem.W.Fast.tw783877717723380282:Nat:=0
def PySem.W.Fast.tw16895546264673831472:Nat:=0
def PySem.W.Fast.tw16574220685497084815:Nat:=0
def PySem.W.Fast.tw6475059823066692292:Nat:=0
def PySem.W.Fast.tw1233133015563232772:Nat:=0
def PySem.W.Fast.tw7848771332344641081:Nat:=0
def PySem.W.Fast.tw2164666217380848948:Nat:=0
def PySem.W.Fast.tw2281129432155886050:Nat:=0
def PySem.W.Fast.tw8165583203034838276:Nat:=0
def PySem.W.Fast.tw13666990901858563670:Nat:=0
def PySem.W.Fast.tw10280351074302650495:Nat:=0
def PySem.W.Fast.tw17071854382743694682:Nat:=0
def PySem.W.Fast.tw16506272860347783490:Nat:=0
def PySem.W.Fast.tw17334494111190305332:Nat:=0
def PySem.W.Fast.tw1066500110062330303:Nat:=0
def PySem.W.Fast.tw3734065459771077059:Nat:=0
def PySem.W.Fast.tw2677637495954923569:Nat:=0
def PySem.W.Fast.tw9959332062800504403:Nat:=0
def PySem.W.Fast.tw9535344511056070233:Nat:=0
def PySem.W.Fast.tw15627370879775802583:Nat:=0
def PySem.W.Fast.tw147737116473318006:Nat:=0
def PySem.W.Fast.tw11159024003220708396:Nat:=0
def PySem.W.Fast.tw13149879626175468148:Nat:=0
def PySem.W.Fast.tw5215423702561762058:Nat:=0
def PySem.W.Fast.tw16059115095202081567:Nat:=0
def PySem.W.Fast.tw15339360113785984243:Nat:=0
def PySem.W.Fast.tw12839198487290068319:Nat:=0
def PySem.W.Fast.tw2471191482973053291:Nat:=0
def PySem.W.Fast.tw17714191123551198975:Nat:=0
def PySem.W.Fast.tw12734217623074785780:Nat:=0
def PySem.W.Fast.tw12037983713499763243:Nat:=0
def PySem.W.Fast.tw11564972347163360180:Nat:=0
def PySem.W.Fast.tw3092636002940570868:Nat:=0
def PySem.W.Fast.tw5573400063997821689:Nat:=0
def PySem.W.Fast.tw12073300536349409311:Nat:=0
def PySem.W.Fast.tw10168586384676775382:Nat:=0
def PySem.W.Fast.tw4970418991634108358:Nat:=0
def PySem.W.Fast.tw6098838301114567546:Nat:=0
def PySem.W.Fast.tw17966542546667342942:Nat:=0
def PySem.W.Fast.tw4345847103607414827:Nat:=0
def PySem.W.Fast.tw11854117097550934794:Nat:=0
def PySem.W.Fast.tw12494246208391091130:Nat:=0
def PySem.W.Fast.tw10545399319483702596:Nat:=0
def PySem.W.Fast.tw12809938879352746797:Nat:=0
def PySem.W.Fast.tw3083856408219619930:Nat:=0
def PySem.W.Fast.tw16540011861332318848:Nat:=0
def PySem.W.Fast.tw10916100783838635503:Nat:=0
def PySem.W.Fast.tw6745053233378989617:Nat:=0
def PySem.W.Fast.tw14876121854274510298:Nat:=0
def PySem.W.Fast.tw3974593690776955772:Nat:=0
def PySem.W.Fast.tw14221940658872110798:Nat:=0
def PySem.W.Fast.tw17818226082570565005:Nat:=0
def PySem.W.Fast.tw13258969975354204502:Nat:=0
def PySem.W.Fast.tw3461640683033409851:Nat:=0
def PySem.W.Fast.tw10040996854302710658:Nat:=0
def PySem.W.Fast.tw17885213032675650351:Nat:=0
def PySem.W.Fast.tw15681535536172244278:Nat:=0
def PySem.W.Fast.tw12730368708060473393:Nat:=0
def PySem.W.Fast.tw18444717028728540301:Nat:=0
def PySem.W.Fast.tw15391044697408570286:Nat:=0
def PySem.W.Fast.tw9081480647636918211:Nat:=0
def PySem.W.Fast.tw16347807495674927533:Nat:=0
def PySem.W.Fast.tw10805072156984459735:Nat:=0
def PySem.W.Fast.tw8729828567966992590:Nat:=0
def PySem.W.Fast.tw10567253047757047699:Nat:=0
def PySem.W.Fast.tw15855348129959492840:Nat:=0
def PySem.W.Fast.tw9719561869653791829:Nat:=0
def PySem.W.Fast.tw3488194616069456849:Nat:=0
def PySem.W.Fast.tw3443683058343704170:Nat:=0
def PySem.W.Fast.tw1248540388521165136:Nat:=0
def PySem.W.Fast.tw2210137159923820516:Nat:=0
def PySem.W.Fast.tw8494020088339443105:Nat:=0
def PySem.W.Fast.tw837776966395618970:Nat:=0
def PySem.W.Fast.tw6304710674293088927:Nat:=0
def PySem.W.Fast.tw4234650497489292996:Nat:=0
def PySem.W.Fast.tw8888297383238329389:Nat:=0
def PySem.W.Fast.tw11533419094485436252:Nat:=0
def PySem.W.Fast.tw14843287177923048309:Nat:=0
def PySem.W.Fast.tw1239601825103180343:Nat:=0
def PySem.W.Fast.tw18157177424258440802:Nat:=0
def PySem.W.Fast.tw3950061500955831396:Nat:=0
def PySem.W.Fast.tw8111405557745580669:Nat:=0
def PySem.W.Fast.tw5462941180547233571:Nat:=0
def PySem.W.Fast.tw204829338312685266:Nat:=0
def PySem.W.Fast.tw7982331699958045131:Nat:=0
def PySem.W.Fast.tw173461015867617445:Nat:=0
def PySem.W.Fast.tw7004696091577502793:Nat:=0
def PySem.W.Fast.tw5770198031213602677:Nat:=0
def PySem.W.Fast.tw15299334103070957418:Nat:=0
def PySem.W.Fast.tw4776412269047477879:Nat:=0
def PySem.W.Fast.tw2974015419339875328:Nat:=0
def PySem.W.Fast.tw14168706869703996652:Nat:=0
def PySem.W.Fast.tw6166015448956705400:Nat:=0
def PySem.W.Fast.tw14434340611948336271:Nat:=0
def PySem.W.Fast.tw14306625914583421678:Nat:=0
def PySem.W.Fast.tw14776918601678631502:Nat:=0
def PySem.W.Fast.tw15126877689108688817:Nat:=0
def PySem.W.Fast.tw10444215817006738559:Nat:=0
def PySem.W.Fast.tw8874652950273260565:Nat:=0
def PySem.W.Fast.tw1789131520024399349:Nat:=0
def PySem.W.Fast.tw16362461162525051209:Nat:=0
def PySem.W.Fast.tw14340294992159612289:Nat:=0
def PySem.W.Fast.tw101650396299642561:Nat:=0
def PySem.W.Fast.tw17648637988035122856:Nat:=0
def PySem.W.Fast.tw17503424419491724137:Nat:=0
def PySem.W.Fast.tw12410567292337108678:Nat:=0
def PySem.W.Fast.tw4951746562984058000:Nat:=0
def PySem.W.Fast.tw2843970657739994974:Nat:=0
def PySem.W.Fast.tw1971270712545660764:Nat:=0
def PySem.W.Fast.tw13380426558614316488:Nat:=0
def PySem.W.Fast.tw18136680103166373077:Nat:=0
def PySem.W.Fast.tw11384414424603946940:Nat:=0
def PySem.W.Fast.tw12710052561181183853:Nat:=0
def PySem.W.Fast.tw2382037990237639623:Nat:=0
def PySem.W.Fast.tw15905643301132879773:Nat:=0
def PySem.W.Fast.tw15634809379884649733:Nat:=0
def PySem.W.Fast.tw12520889104553598156:Nat:=0
def PySem.W.Fast.tw11594655995409864889:Nat:=0
def PySem.W.Fast.tw9795063954358976737:Nat:=0
def PySem.W.Fast.tw15767135949870292258:Nat:=0
def PySem.W.Fast.tw854324129592747065:Nat:=0
def PySem.W.Fast.tw4192939399786012372:Nat:=0
def PySem.W.Fast.tw4733442507735329850:Nat:=0
def PySem.W.Fast.tw2488025457236840651:Nat:=0
def PySem.W.Fast.tw12898366621645721176:Nat:=0
def PySem.W.Fast.tw7065549293040822471:Nat:=0
def PySem.W.Fast.tw16948277199231849576:Nat:=0
def PySem.W.Fast.tw12789002079932989544:Nat:=0
def PySem.W.Fast.tw7052144793901962872:Nat:=0
def PySem.W.Fast.tw14154916603616803914:Nat:=0
def PySem.W.Fast.tw13980200279004551147:Nat:=0
def PySem.W.Fast.tw12827798826561226081:Nat:=0
def PySem.W.Fast.tw8030820408629719967:Nat:=0
def PySem.W.Fast.tw8773643991876648120:Nat:=0
def PySem.W.Fast.tw16256552902665887378:Nat:=0
def PySem.W.Fast.tw8242485977872407913:Nat:=0
def PySem.W.Fast.tw13512119780328961708:Nat:=0
def PySem.W.Fast.tw10483922633081238773:Nat:=0
def PySem.W.Fast.tw17120051112192271662:Nat:=0
def PySem.W.Fast.tw15643506156323479858:Nat:=0
def PySem.W.Fast.tw18322021586030915307:Nat:=0
def PySem.W.Fast.tw1576018511982489904:Nat:=0
def PySem.W.Fast.tw9213328547322377740:Nat:=0
def PySem.W.Fast.tw13364859292003770419:Nat:=0
def PySem.W.Fast.tw220256229070222709:Nat:=0
def PySem.W.Fast.tw17359647818710821903:Nat:=0
def PySem.W.Fast.tw10064846301197642420:Nat:=0
def PySem.W.Fast.tw16366304480481341628:Nat:=0
def PySem.W.Fast.tw10920176249055723592:Nat:=0
def PySem.W.Fast.tw14082540671288421958:Nat:=0
def PySem.W.Fast.tw17371711940982538303:Nat:=0
def PySem.W.Fast.tw13010515182787432812:Nat:=0
def PySem.W.Fast.tw9622374833733478919:Nat:=0
def PySem.W.Fast.tw11348581039353791090:Nat:=0
def PySem.W.Fast.tw760724271243518805:Nat:=0
def PySem.W.Fast.tw6542693437261187717:Nat:=0
def PySem.W.Fast.tw8597234160297464220:Nat:=0
def PySem.W.Fast.tw2053319796662876595:Nat:=0
def PySem.W.Fast.tw17004114342359224226:Nat:=0
def PySem.W.Fast.tw14460466656000235449:Nat:=0
def PySem.W.Fast.tw5108583585465607896:Nat:=0
def PySem.W.Fast.tw4690257502066773066:Nat:=0
def PySem.W.Fast.tw17599108659380335075:Nat:=0
def PySem.W.Fast.tw15666005437539901369:Nat:=0
def PySem.W.Fast.tw15565559123655984175:Nat:=0
def PySem.W.Fast.tw9844057848257084503:Nat:=0
def PySem.W.Fast.tw9518080361956556993:Nat:=0
def PySem.W.Fast.tw1746717533280599260:Nat:=0
def PySem.W.Fast.tw13752583556056825074:Nat:=0
def PySem.W.Fast.tw13565450521292174813:Nat:=0
def PySem.W.Fast.tw11537832125864584730:Nat:=0
def PySem.W.Fast.tw10683627394007295789:Nat:=0
def PySem.W.Fast.tw2752080595395122526:Nat:=0
def PySem.W.Fast.tw13901779893120957423:Nat:=0
def PySem.W.Fast.tw11185683653061855589:Nat:=0
def PySem.W.Fast.tw13221569397535205716:Nat:=0
def PySem.W.Fast.tw9140993359696275701:Nat:=0
def PySem.W.Fast.tw17113668389958445467:Nat:=0
def PySem.W.Fast.tw15988117013488497376:Nat:=0
def PySem.W.Fast.tw10970700343891943577:Nat:=0
def PySem.W.Fast.tw5674101921319199113:Nat:=0
def PySem.W.Fast.tw546568622156054:Nat:=0
def PySem.W.Fast.tw1669922359071091250:Nat:=0
def PySem.W.Fast.tw1542736757423761002:Nat:=0
def PySem.W.Fast.tw14603942717301322375:Nat:=0
def PySem.W.Fast.tw14043783683042314467:Nat:=0
def PySem.W.Fast.tw12907252978229429401:Nat:=0
def PySem.W.Fast.tw12777297504560926426:Nat:=0
def PySem.W.Fast.tw12474285027093823850:Nat:=0
def PySem.W.Fast.tw11985107730515019240:Nat:=0
def PySem.W.Fast.tw11813691896120468236:Nat:=0
def PySem.W.Fast.tw4593252699073297440:Nat:=0
def PySem.W.Fast.tw10316601735540464779:Nat:=0
def PySem.W.Fast.tw10744007777482051116:Nat:=0
def PySem.W.Fast.tw13639266410907673864:Nat:=0
def PySem.W.Fast.tw693767030275846285:Nat:=0
def PySem.W.Fast.tw17803793238324991843:Nat:=0
def PySem.W.Fast.tw17732978556250767939:Nat:=0
def PySem.W.Fast.tw15409094043579386945:Nat:=0
def PySem.W.Fast.tw12605663808376941962:Nat:=0
def PySem.W.Fast.tw12097681773467373899:Nat:=0
def PySem.W.Fast.tw11873872352957874171:Nat:=0
def PySem.W.Fast.tw10156674239807611241:Nat:=0
def PySem.W.Fast.tw952303282136802557:Nat:=0
def PySem.W.Fast.tw756416388311509615:Nat:=0
def PySem.W.Fast.tw4172953549831959887:Nat:=0
def PySem.W.Fast.tw17335087740170416804:Nat:=0
def PySem.W.Fast.tw13180637107075694138:Nat:=0
def PySem.W.Fast.tw12418734504887817827:Nat:=0
def PySem.W.Fast.tw12060628778880937141:Nat:=0
def PySem.W.Fast.tw3768651861060925943:Nat:=0
set_option maxRecDepth 100000 in
set_option maxHeartbeats 0 in
theorem PySem.Challenge.cw_stormpost_k31_pieces_once_in_order_holds : PySem.Challenge.rw_stormpost_k31_pieces_once_in_order.Holds := by
 w_on;o_law;k_head;(case hw=>w_witness2)
 k_fill
 refine L2.JH (l:=PySem.Challenge.rw_stormpost_k31_pieces_once_in_order) (k:=13) ⟨rfl,by decide,by decide⟩ rfl rfl (fun w h Y=>PySem.W.kIn_of Y) ?F
 case F =>
  intro w mg fa h KX G Ow
  have t7:L2.aP (L2.cj KX) mg "is_sign" K31.pT:=by
   dsimp only [L2.cj]
   refine' L2.aP.mk' KX G ?a ?l ?c ?k
   (case a=>k_is);(case l=>k_is);(case c=>k_is);(case k=>k_is)
  have oY:L2.aP (L2.cj KX) mg "look_sign" K31.j3:=by
   dsimp only [L2.cj]
   refine' L2.aP.mk' KX G ?a ?l ?c ?k
   (case a=>k_is);(case l=>k_is);(case c=>k_is);(case k=>k_is)
  have oZ:L2.aP (L2.cj KX) mg "look_unit" K31.j4:=by
   dsimp only [L2.cj]
   refine' L2.aP.mk' KX G ?a ?l ?c ?k
   (case a=>k_is);(case l=>k_is);(case c=>k_is);(case k=>k_is)
  have An:L2.aP (L2.cj KX) mg "power" K31.vU:=by
   dsimp only [L2.cj]
   refine' L2.aP.mk' KX G ?a ?l ?c ?k
   (case a=>k_is);(case l=>k_is);(case c=>k_is);(case k=>k_is)
  have t8:L2.aP (L2.cj KX) mg "inverse" K31.pU:=by
   dsimp only [L2.cj]
   refine' L2.aP.mk' KX G ?a ?l ?c ?k
   (case a=>k_is);(case l=>k_is);(case c=>k_is);(case k=>k_is)
  have qf:L2.aP (L2.cj KX) mg "exponent" K31.mF:=by
   dsimp only [L2.cj]
   refine' L2.aP.mk' KX G ?a ?l ?c ?k
   (case a=>k_is);(case l=>k_is);(case c=>k_is);(case k=>k_is)
  have qg:L2.aP (L2.cj KX) mg "equation" K31.jN:=by
   dsimp only [L2.cj]
   refine' L2.aP.mk' KX G ?a ?l ?c ?k
   (case a=>k_is);(case l=>k_is);(case c=>k_is);(case k=>k_is)
  have kX:L2.aP (L2.cj KX) mg "pivot_place" K31.hZ:=by
   dsimp only [L2.cj]
   refine' L2.aP.mk' KX G ?a ?l ?c ?k
   (case a=>k_is);(case l=>k_is);(case c=>k_is);(case k=>k_is)
  have oa:L2.aP (L2.cj KX) mg "exchanged" K31.j5:=by
   dsimp only [L2.cj]
   refine' L2.aP.mk' KX G ?a ?l ?c ?k
   (case a=>k_is);(case l=>k_is);(case c=>k_is);(case k=>k_is)
  have qh:L2.aP (L2.cj KX) mg "lessened" K31.jO:=by
   dsimp only [L2.cj]
   refine' L2.aP.mk' KX G ?a ?l ?c ?k
   (case a=>k_is);(case l=>k_is);(case c=>k_is);(case k=>k_is)
  have t9:L2.aP (L2.cj KX) mg "cleared" K31.jC:=by
   dsimp only [L2.cj]
   refine' L2.aP.mk' KX G ?a ?l ?c ?k
   (case a=>k_is);(case l=>k_is);(case c=>k_is);(case k=>k_is)
  have xE:L2.aP (L2.cj KX) mg "solved" K31.lJ:=by
   dsimp only [L2.cj]
   refine' L2.aP.mk' KX G ?a ?l ?c ?k
   (case a=>k_is);(case l=>k_is);(case c=>k_is);(case k=>k_is)
  have md:L2.aP (L2.cj KX) mg "look_signs" K31.i0:=by
   dsimp only [L2.cj]
   refine' L2.aP.mk' KX G ?a ?l ?c ?k
   (case a=>k_is);(case l=>k_is);(case c=>k_is);(case k=>k_is)
  have og:L2.aP (L2.cj KX) mg "look_cell" K31.j6:=by
   dsimp only [L2.cj]
   refine' L2.aP.mk' KX G ?a ?l ?c ?k
   (case a=>k_is);(case l=>k_is);(case c=>k_is);(case k=>k_is)
  have qi:L2.aP (L2.cj KX) mg "value_at" K31.mG:=by
   dsimp only [L2.cj]
   refine' L2.aP.mk' KX G ?a ?l ?c ?k
   (case a=>k_is);(case l=>k_is);(case c=>k_is);(case k=>k_is)
  have qj:L2.aP (L2.cj KX) mg "troubles" K31.jP:=by
   dsimp only [L2.cj]
   refine' L2.aP.mk' KX G ?a ?l ?c ?k
   (case a=>k_is);(case l=>k_is);(case c=>k_is);(case k=>k_is)
  have oh:L2.aP (L2.cj KX) mg "is_sealed" K31.j7:=by
   dsimp only [L2.cj]
   refine' L2.aP.mk' KX G ?a ?l ?c ?k
   (case a=>k_is);(case l=>k_is);(case c=>k_is);(case k=>k_is)
  have uA:L2.aP (L2.cj KX) mg "carried" K31.lK:=by
   dsimp only [L2.cj]
   refine' L2.aP.mk' KX G ?a ?l ?c ?k
   (case a=>k_is);(case l=>k_is);(case c=>k_is);(case k=>k_is)
  have xF:L2.aP (L2.cj KX) mg "sealed" K31.ny:=by
   dsimp only [L2.cj]
   refine' L2.aP.mk' KX G ?a ?l ?c ?k
   (case a=>k_is);(case l=>k_is);(case c=>k_is);(case k=>k_is)
  have oi:L2.aP (L2.cj KX) mg "look_late" K31.j8:=by
   dsimp only [L2.cj]
   refine' L2.aP.mk' KX G ?a ?l ?c ?k
   (case a=>k_is);(case l=>k_is);(case c=>k_is);(case k=>k_is)
  have jZ:L2.aP (L2.cj KX) mg "look_measure" K31.fh:=by
   dsimp only [L2.cj]
   refine' L2.aP.mk' KX G ?a ?l ?c ?k
   (case a=>k_is);(case l=>k_is);(case c=>k_is);(case k=>k_is)
  have qk:L2.aP (L2.cj KX) mg "quiet_of" K31.mH:=by
   dsimp only [L2.cj]
   refine' L2.aP.mk' KX G ?a ?l ?c ?k
   (case a=>k_is);(case l=>k_is);(case c=>k_is);(case k=>k_is)
  have me:L2.aP (L2.cj KX) mg "lone_place" K31.i4:=by
   dsimp only [L2.cj]
   refine' L2.aP.mk' KX G ?a ?l ?c ?k
   (case a=>k_is);(case l=>k_is);(case c=>k_is);(case k=>k_is)
  have uB:L2.aP (L2.cj KX) mg "is_root" K31.pV:=by
   dsimp only [L2.cj]
   refine' L2.aP.mk' KX G ?a ?l ?c ?k
   (case a=>k_is);(case l=>k_is);(case c=>k_is);(case k=>k_is)
  have iW:L2.aP (L2.cj KX) mg "turned_places" K31.dN:=by
   dsimp only [L2.cj]
   refine' L2.aP.mk' KX G ?a ?l ?c ?k
   (case a=>k_is);(case l=>k_is);(case c=>k_is);(case k=>k_is)
  have ql:L2.aP (L2.cj KX) mg "turns_at" K31.jQ:=by
   dsimp only [L2.cj]
   refine' L2.aP.mk' KX G ?a ?l ?c ?k
   (case a=>k_is);(case l=>k_is);(case c=>k_is);(case k=>k_is)
  have xG:L2.aP (L2.cj KX) mg "mended" K31.r8:=by
   dsimp only [L2.cj]
   refine' L2.aP.mk' KX G ?a ?l ?c ?k
   (case a=>k_is);(case l=>k_is);(case c=>k_is);(case k=>k_is)
  have ja:L2.aP (L2.cj KX) mg "number_signs" K31.fj:=by
   dsimp only [L2.cj]
   refine' L2.aP.mk' KX G ?a ?l ?c ?k
   (case a=>k_is);(case l=>k_is);(case c=>k_is);(case k=>k_is)
  have jb:L2.aP (L2.cj KX) mg "signs_number" K31.fk:=by
   dsimp only [L2.cj]
   refine' L2.aP.mk' KX G ?a ?l ?c ?k
   (case a=>k_is);(case l=>k_is);(case c=>k_is);(case k=>k_is)
  have mf:L2.aP (L2.cj KX) mg "look_piece" K31.i5:=by
   dsimp only [L2.cj]
   refine' L2.aP.mk' KX G ?a ?l ?c ?k
   (case a=>k_is);(case l=>k_is);(case c=>k_is);(case k=>k_is)
  have oj:L2.aP (L2.cj KX) mg "_law_cell" K31.j9:=by
   dsimp only [L2.cj]
   refine' L2.aP.mk' KX G ?a ?l ?c ?k
   (case a=>k_is);(case l=>k_is);(case c=>k_is);(case k=>k_is)
  have jc:L2.aP (L2.cj KX) mg "_law_numbers" K31.fo:=by
   dsimp only [L2.cj]
   refine' L2.aP.mk' KX G ?a ?l ?c ?k
   (case a=>k_is);(case l=>k_is);(case c=>k_is);(case k=>k_is)
  have jd:L2.aP (L2.cj KX) mg "_law_measure" K31.fq:=by
   dsimp only [L2.cj]
   refine' L2.aP.mk' KX G ?a ?l ?c ?k
   (case a=>k_is);(case l=>k_is);(case c=>k_is);(case k=>k_is)
  have mh:L2.aP (L2.cj KX) mg "_law_turns" K31.fu:=by
   dsimp only [L2.cj]
   refine' L2.aP.mk' KX G ?a ?l ?c ?k
   (case a=>k_is);(case l=>k_is);(case c=>k_is);(case k=>k_is)
  have oq:L2.aP (L2.cj KX) mg "_law_fate" K31.kA:=by
   dsimp only [L2.cj]
   refine' L2.aP.mk' KX G ?a ?l ?c ?k
   (case a=>k_is);(case l=>k_is);(case c=>k_is);(case k=>k_is)
  have kY:L2.aP (L2.cj KX) mg "_law_turned" K31.h8:=by
   dsimp only [L2.cj]
   refine' L2.aP.mk' KX G ?a ?l ?c ?k
   (case a=>k_is);(case l=>k_is);(case c=>k_is);(case k=>k_is)
  have ot:L2.aP (L2.cj KX) mg "_law_give" K31.kB:=by
   dsimp only [L2.cj]
   refine' L2.aP.mk' KX G ?a ?l ?c ?k
   (case a=>k_is);(case l=>k_is);(case c=>k_is);(case k=>k_is)
  have ou:L2.aP (L2.cj KX) mg "_law_dead" K31.kC:=by
   dsimp only [L2.cj]
   refine' L2.aP.mk' KX G ?a ?l ?c ?k
   (case a=>k_is);(case l=>k_is);(case c=>k_is);(case k=>k_is)
  have eP:L2.aP (L2.cj KX) mg "_law_events_right" K31.cu:=by
   dsimp only [L2.cj]
   refine' L2.aP.mk' KX G ?a ?l ?c ?k
   (case a=>k_is);(case l=>k_is);(case c=>k_is);(case k=>k_is)
  have qm:L2.aP (L2.cj KX) mg "_law_put" K31.jR:=by
   dsimp only [L2.cj]
   refine' L2.aP.mk' KX G ?a ?l ?c ?k
   (case a=>k_is);(case l=>k_is);(case c=>k_is);(case k=>k_is)
  have fJ:L2.aP (L2.cj KX) mg "_law_pairs_right" K31.dG:=by
   dsimp only [L2.cj]
   refine' L2.aP.mk' KX G ?a ?l ?c ?k
   (case a=>k_is);(case l=>k_is);(case c=>k_is);(case k=>k_is)
  have Um:L2.aP (L2.cj KX) mg "law" K31.wF:=by
   dsimp only [L2.cj]
   refine' L2.aP.mk' KX G ?a ?l ?c ?k
   (case a=>k_is);(case l=>k_is);(case c=>k_is);(case k=>k_is)
  have T:∃ t,K31.Txt (L2.cj KX) mg t:=by
   dsimp only [L2.cj]
   refine' K31.Qe KX G ?qo ?kZ ?o4 ?qp ?qq ?qr ?uK ?je ?o5 ?jf ?o6 ?mi ?gj ?mj ?ml ?o7 ?mm ?o8 ?uL ?As ?xX ?Au ?Av ?xY ?Aw ?Ax ?uM ?mn ?uN ?Ay ?qu ?ka ?jg ?jh ?ji ?jj ?iX ?kd ?gm ?gJ ?gK ?gL ?gM ?fK ?o9 ?jk ?iY ?iZ ?ia ?ib ?gq ?qv ?ke ?jl ?jm ?jn ?jo ?ic ?uO ?mo ?kf ?kg ?kh ?ki ?jq ?qw ?uP ?xZ ?Em ?Ep ?Er ?Et ?Eu ?Ew ?Ex ?Ey ?Ez ?qx ?uQ ?uR ?mq ?qy ?qz ?uS ?uT ?pD ?mr ?rA ?dM ?da ?dc ?eQ ?eR ?eT ?kj ?mw ?mx ?rB ?rC ?rD ?eU ?fL ?fM ?gr ?gs ?gy ?kl ?my ?mz ?rF ?rG ?rH ?kn ?m8 ?m9 ?rJ ?rK ?rL ?gz ?ie ?ig ?ko ?kq ?kr ?ij ?jr ?js ?nB ?nC ?nE ?eV ?fN ?fO ?g6 ?g7 ?g8 ?eX ?fP ?fQ ?g9 ?hJ ?hU ?eY ?fR ?fS ?hV ?hW ?hX ?nF ?pE ?pF ?uU ?uV ?uW ?pG ?rM ?rN ?xa ?xb ?xc ?jt ?k8 ?k9 ?pH ?pI ?pJ ?ik ?ju ?jv ?nG ?nH ?nI
   (case qo=>k_is)
   (case kZ=>k_is)
   (case o4=>k_is)
   (case qp=>k_is)
   (case qq=>k_is)
   (case qr=>k_is)
   (case uK=>k_is)
   (case je=>k_is)
   (case o5=>k_is)
   (case jf=>k_is)
   (case o6=>k_is)
   (case mi=>k_is)
   (case gj=>k_is)
   (case mj=>k_is)
   (case ml=>k_is)
   (case o7=>k_is)
   (case mm=>k_is)
   (case o8=>k_is)
   (case uL=>k_is)
   (case As=>k_is)
   (case xX=>k_is)
   (case Au=>k_is)
   (case Av=>k_is)
   (case xY=>k_is)
   (case Aw=>k_is)
   (case Ax=>k_is)
   (case uM=>k_is)
   (case mn=>k_is)
   (case uN=>k_is)
   (case Ay=>k_is)
   (case qu=>k_exc)
   (case ka=>k_is)
   (case jg=>k_is)
   (case jh=>k_is)
   (case ji=>k_is)
   (case jj=>k_is)
   (case iX=>k_is)
   (case kd=>k_exc)
   (case gm=>k_is)
   (case gJ=>k_is)
   (case gK=>k_is)
   (case gL=>k_is)
   (case gM=>k_is)
   (case fK=>k_is)
   (case o9=>k_exc)
   (case jk=>k_is)
   (case iY=>k_is)
   (case iZ=>k_is)
   (case ia=>k_is)
   (case ib=>k_is)
   (case gq=>k_is)
   (case qv=>k_exc)
   (case ke=>k_is)
   (case jl=>k_is)
   (case jm=>k_is)
   (case jn=>k_is)
   (case jo=>k_is)
   (case ic=>k_is)
   (case uO=>k_exc)
   (case mo=>k_is)
   (case kf=>k_is)
   (case kg=>k_is)
   (case kh=>k_is)
   (case ki=>k_is)
   (case jq=>k_is)
   (case qw=>k_is)
   (case uP=>k_is)
   (case xZ=>k_is)
   (case Em=>k_is)
   (case Ep=>k_is)
   (case Er=>k_is)
   (case Et=>k_is)
   (case Eu=>k_is)
   (case Ew=>k_is)
   (case Ex=>k_is)
   (case Ey=>k_is)
   (case Ez=>k_is)
   (case qx=>k_is)
   (case uQ=>k_is)
   (case uR=>k_is)
   (case mq=>k_is)
   (case qy=>k_is)
   (case qz=>k_is)
   (case uS=>k_is)
   (case uT=>k_is)
   (case pD=>k_is)
   (case mr=>k_is)
   (case rA=>k_is)
   (case dM=>k_is)
   (case da=>k_is)
   (case dc=>k_is)
   (case eQ=>k_is)
   (case eR=>k_is)
   (case eT=>k_is)
   (case kj=>k_is)
   (case mw=>k_is)
   (case mx=>k_is)
   (case rB=>k_is)
   (case rC=>k_is)
   (case rD=>k_is)
   (case eU=>k_is)
   (case fL=>k_is)
   (case fM=>k_is)
   (case gr=>k_is)
   (case gs=>k_is)
   (case gy=>k_is)
   (case kl=>k_is)
   (case my=>k_is)
   (case mz=>k_is)
   (case rF=>k_is)
   (case rG=>k_is)
   (case rH=>k_is)
   (case kn=>k_is)
   (case m8=>k_is)
   (case m9=>k_is)
   (case rJ=>k_is)
   (case rK=>k_is)
   (case rL=>k_is)
   (case gz=>k_is)
   (case ie=>k_is)
   (case ig=>k_is)
   (case ko=>k_is)
   (case kq=>k_is)
   (case kr=>k_is)
   (case ij=>k_is)
   (case jr=>k_is)
   (case js=>k_is)
   (case nB=>k_is)
   (case nC=>k_is)
   (case nE=>k_is)
   (case eV=>k_is)
   (case fN=>k_is)
   (case fO=>k_is)
   (case g6=>k_is)
   (case g7=>k_is)
   (case g8=>k_is)
   (case eX=>k_is)
   (case fP=>k_is)
   (case fQ=>k_is)
   (case g9=>k_is)
   (case hJ=>k_is)
   (case hU=>k_is)
   (case eY=>k_is)
   (case fR=>k_is)
   (case fS=>k_is)
   (case hV=>k_is)
   (case hW=>k_is)
   (case hX=>k_is)
   (case nF=>k_is)
   (case pE=>k_is)
   (case pF=>k_is)
   (case uU=>k_is)
   (case uV=>k_is)
   (case uW=>k_is)
   (case pG=>k_is)
   (case rM=>k_is)
   (case rN=>k_is)
   (case xa=>k_is)
   (case xb=>k_is)
   (case xc=>k_is)
   (case jt=>k_is)
   (case k8=>k_is)
   (case k9=>k_is)
   (case pH=>k_is)
   (case pI=>k_is)
   (case pJ=>k_is)
   (case ik=>k_is)
   (case ju=>k_is)
   (case jv=>k_is)
   (case nG=>k_is)
   (case nH=>k_is)
   (case nI=>k_is)
  obtain ⟨t,T⟩:=T
  exact L2.JG Um (fun _ _ _ _ _ _ us hl=>match us,hl with | [_],_=>rfl) Ow fun f fd base F=>K31.NB T F t7 oY oZ An t8 qf qg kX oa qh t9 xE md og qi qj oh uA xF oi jZ qk me uB iW ql xG ja jb mf oj jc jd mh oq kY ot ou eP qm fJ
#print axioms PySem.Challenge.cw_stormpost_k31_pieces_once_in_order_holds
