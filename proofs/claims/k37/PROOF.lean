import PyProof.Rows.All
import Wide.All
import OpenK.AllK
import Wide.FinOn
import Lean
import PyProof.EqAt
import PyProof.EqKinds
import PyProof.TupleCall
import PySem.Challenge.RW_stormpost_k37_whole_numbers_come_round
set_option genSizeOf false
set_option Elab.async false
set_option linter.all false
set_option maxRecDepth 100000
namespace L2
open PySem PySem.Spec PyProof.Rows
abbrev Key:=Sum Int Str
def NK:Key→Value→Bool
 | .inl k,v=>Value.isInt k v
 | .inr x,v=>Value.isStrOf x v
def VA (w:World):Key→Int
 | .inl k=>hashInt k
 | .inr x=>hashStr w x
theorem cK:∀ {k:Key} {v:Value},NK k v=true→(∃ i t,k=Sum.inl i∧v=Value.int i t)∨(∃ x t,k=Sum.inr x∧v=Value.str x t)
 | .inl i,v,h=>by
  obtain ⟨t,e⟩:=Value.isInt_shape (k:=i) (v:=v) h
  exact .inl ⟨i,t,rfl,e⟩
 | .inr x,v,h=>by
  obtain ⟨t,e⟩:=Value.isStrOf_shape (x:=x) (v:=v) h
  exact .inr ⟨x,t,rfl,e⟩
theorem N9 (a b:Int):decide ((Sum.inl a:Key)=Sum.inl b)=(a == b):=by
 by_cases e:a=b
 ·subst e;simp
 ·have h:¬ (Sum.inl a:Key)=Sum.inl b:=fun q=>e (Sum.inl.inj q)
  rw [decide_eq_false h]
  exact (beq_eq_false_iff_ne.mpr e).symm
theorem OA (a b:Str):decide ((Sum.inr a:Key)=Sum.inr b)=decide (a=b):=by
 by_cases e:a=b
 ·subst e;simp
 ·have h:¬ (Sum.inr a:Key)=Sum.inr b:=fun q=>e (Sum.inr.inj q)
  rw [decide_eq_false h,decide_eq_false e]
theorem OB (a:Int) (b:Str):decide ((Sum.inl a:Key)=Sum.inr b)=false:=decide_eq_false (fun q=>nomatch q)
theorem OC (a:Str) (b:Int):decide ((Sum.inr a:Key)=Sum.inl b)=false:=decide_eq_false (fun q=>nomatch q)
def uV (prog:Program) (w:World):PySem.KeyKind prog w Key where
 is:=NK
 hash:=VA w
 inj:=fun v a b ha hb=>by
  rcases cK ha with ⟨i,t,rfl,rfl⟩ | ⟨x,t,rfl,rfl⟩
  ·rcases cK hb with ⟨j,u,rfl,e⟩ | ⟨y,u,rfl,e⟩
   ·injection e with e1 _;rw [e1]
   ·exact nomatch e
  ·rcases cK hb with ⟨j,u,rfl,e⟩ | ⟨y,u,rfl,e⟩
   ·exact nomatch e
   ·injection e with e1 _;rw [e1]
 byValue:=fun k v h=>by
  rcases cK h with ⟨i,t,rfl,rfl⟩ | ⟨x,t,rfl,rfl⟩ <;> rfl
 pyHash:=fun hv h=>by
  rcases cK hv with ⟨i,t,rfl,rfl⟩ | ⟨x,t,rfl,rfl⟩
  ·exact wpAny_pyHash_int h
  ·exact wpAny_pyHash_str h
 eqBool:=fun hu hv h=>by
  rcases cK hu with ⟨i,t,rfl,rfl⟩ | ⟨x,t,rfl,rfl⟩
  ·rcases cK hv with ⟨j,u,rfl,rfl⟩ | ⟨y,u,rfl,rfl⟩
   ·rw [N9] at h;exact wpAny_eqBool_int h
   ·rw [OB] at h;exact SeqAt.EqAt.int_str i t y u _ _ _ _ h
  ·rcases cK hv with ⟨j,u,rfl,rfl⟩ | ⟨y,u,rfl,rfl⟩
   ·rw [OC] at h;exact SeqAt.EqAt.str_int x t j u _ _ _ _ h
   ·rw [OA] at h;exact wpAny_eqBool_str h
 «strs»:=fun k x t v h=>by
  rcases cK h with ⟨i,u,rfl,e⟩ | ⟨y,u,rfl,e⟩
  ·exact nomatch e
  ·injection e with e1 _
   subst e1
   cases v <;> rfl
end L2
namespace L2
open PySem PySem.Spec PyProof.Rows
inductive V where
 | bq | bl (b:Bool) | int (i:Int) | str (x:Str) | EJ (b:Array UInt8) | QX (b:UInt64) | ref (a:Addr) | ty (n:String)
 deriving DecidableEq
def RelV:V→Value→Prop
 | .bq,u=>u=Value.none
 | .bl b,u=>u=Value.bool b
 | .int i,u=>∃ t,u=Value.int i t
 | .str x,u=>∃ t,u=Value.str x t
 | .EJ b,u=>∃ t,u=Value.bytes b t
 | .QX b,u=>∃ t,u=Value.float b t
 | .ref a,u=>u=Value.ref a
 | .ty n,u=>u=Value.type n
abbrev aq:List V→List Value→Prop:=Paired RelV
theorem aq.length {xs:List V} {us:List Value} (r:aq xs us):xs.length=us.length:=Paired.length r
theorem aq.get:∀ {xs:List V} {us:List Value} {i:Nat} {x:V},aq xs us→xs[i]?=some x→∃ u,us[i]?=some u∧RelV x u
 | _,_,_,_,.nil,e=>by simp at e
 | _,_,0,_,.cons r _,e=>by simp at e;subst e;exact ⟨_,rfl,r⟩
 | _,_,i+1,x,.cons _ t,e=>by
  obtain ⟨u,h1,h2⟩:=aq.get (i:=i) (x:=x) t (by simpa using e)
  exact ⟨u,by simpa using h1,h2⟩
theorem aq.set {x:V} {u:Value} (r:RelV x u):∀ {xs:List V} {us:List Value} (i:Nat),aq xs us→aq (xs.set i x) (us.set i u)
 | _,_,_,.nil=>.nil
 | _,_,0,.cons _ t=>.cons r t
 | _,_,i+1,.cons q t=>.cons q (aq.set r i t)
theorem aq.append:∀ {xs ys:List V} {us ws:List Value},aq xs us→aq ys ws→aq (xs ++ ys) (us ++ ws)
 | _,_,_,_,.nil,s=>s
 | _,_,_,_,.cons r t,s=>.cons r (aq.append t s)
theorem aq.take:∀ {xs:List V} {us:List Value} (n:Nat),aq xs us→aq (xs.take n) (us.take n)
 | _,_,0,_=>.nil
 | _,_,_+1,.nil=>.nil
 | _,_,n+1,.cons r t=>.cons r (aq.take n t)
theorem aq.drop:∀ {xs:List V} {us:List Value} (n:Nat),aq xs us→aq (xs.drop n) (us.drop n)
 | _,_,0,r=>r
 | _,_,_+1,.nil=>.nil
 | _,_,n+1,.cons _ t=>aq.drop n t
theorem aq.none_of:∀ {xs:List V} {us:List Value} {i:Nat},aq xs us→xs[i]?=none→us[i]?=none:=fun {xs us i} r e=>by
 have h1:=r.length
 have h2:xs.length≤i:=List.getElem?_eq_none_iff.mp e
 exact List.getElem?_eq_none_iff.mpr (by omega)
def mh:Option V→Option Value→Prop
 | some v,some u=>RelV v u
 | none,none=>True
 | _,_=>False
def KV {κ:Type}:List (κ × V)→List (κ × Value)→Prop:=Paired fun (p:κ × V) (q:κ × Value)=>p.1=q.1∧RelV p.2 q.2
def kV:Key→V
 | .inl i=>.int i
 | .inr x=>.str x
inductive HO where
 | lst (xs:List V)
 | tup (xs:List V)
 | dK (bQ:List (Key × V)) | dT (bQ:List (List Key × V))
 | set (S:Int→Bool) (n:Nat)
 | ins (C dx:Addr) (fs:List (Str × V))
 | own (x:Addr)
 | xd (fs:List (Str × V))
 | met (f x:Addr)
 | UL (lo hi:Int)
 | yC (o:Obj) (u:HO)
 | NL (ps:Array Value)
 | ext (φ:Heap→Prop)
abbrev Hp:=Addr→Option HO
def upd (H:Hp) (a:Addr) (o:HO):Hp:=fun b=>if b=a then some o else H b
theorem aB {H:Hp} {a:Addr} {o:HO}:upd H a o a=some o:=by unfold upd;rw [if_pos rfl]
theorem aE {H:Hp} {a b:Addr} {o:HO} (h:b≠a):upd H a o b=H b:=by unfold upd;rw [if_neg h]
theorem iE {H:Hp} {a:Addr} {o u:HO}:upd (upd H a o) a u=upd H a u:=by
 funext b;unfold upd;split <;> rfl
theorem aM {H:Hp} {a b:Addr} {o:HO} (h:H a=some o) (h':H b=none):a≠b:=by
 intro e;subst e;rw [h] at h';cases h'
section
variable (P:Program) (w:World)
def ff (H:Hp) (h:Heap) (a:Addr):HO→Prop
 | .lst xs=>xs.length≤sizeLine∧∃ (ae:List Value) (n:Nat),aq xs ae∧h.get? a=some { cls:=.type "list",data:=.seq ae.toArray n }
 | .tup xs=>xs.length≤sizeLine∧∃ ae:List Value,aq xs ae∧IsTup h a ae.toArray
 | .dK bQ=>bQ.length≤sizeLine∧(a == sysModules)=false∧∃ vs,KV bQ vs∧h.DictOf (uV P w) a vs
 | .dT bQ=>bQ.length≤sizeLine∧(a == sysModules)=false∧∃ xs:List (List Key × Addr × Value),
   Paired (fun (p:List Key × V) (q:List Key × Addr × Value)=>p.1=q.1∧H q.2.1=some (.tup (p.1.map kV))∧RelV p.2 q.2.2) bQ xs ∧
   ∃ o es ep,h.get? a=some o∧o.ExactDict∧o.data=.dict es ep∧es.toList=xs.map (entryOfKey (tupleKind (uV P w)))∧(xs.map (·.1)).Nodup
 | .set S n=>h.SetOf (intKind P w) a S n
 | .ins C dx fs=>H dx=some (.own a)∧fs.length≤1000∧dx≠a∧h.get? a=some (PySem.W.instObj C dx) ∧
   ∃ mA,h.Ns1 dx mA∧(∀ f,mh (fs.lookup f) (mA f))∧PySem.Within mA (fs.map (·.1))
 | .own _=>∃ o,h.get? a=some o
 | .xd fs=>∃ mA,h.Ns1 a mA∧∀ f,mh (fs.lookup f) (mA f)
 | .UL lo hi=>∃ t u v,h.get? a=some { cls:=.type "range",data:=.fields #[.int lo t,.int hi u,.int 1 v] }
 | .yC o u=>h.get? a=some o∧ff H h a u
 | .NL ps=>h.get? a=some { cls:=.none,data:=.fields ps }
 | .met f x=>h.get? a=some (PySem.W.methodObj (.ref f) (.ref x))
 | .ext φ=>φ h∧(∃ o,h.get? a=some o)∧∀ h1 h2:Heap,φ h1→(∀ o,h1.get? a=some o→h2.get? a=some o)→φ h2
def rZ (H:Hp) (h:Heap):Prop:=∀ a o,H a=some o→ff P w H h a o
end
section
variable {P:Program} {w:World} {H H':Hp} {h h':Heap} {a:Addr} {o:HO}
theorem ff.lt (x:ff P w H h a o):a < h.objs.size:=by
 cases o with
 | lst xs=>obtain ⟨_,_,_,_,e⟩:=x;exact Heap.lt_size e
 | tup xs=>obtain ⟨_,_,_,p⟩:=x;exact p.lt
 | dK bQ=>obtain ⟨_,_,_,_,o,_,_,e,_⟩:=x;exact Heap.lt_size e
 | dT bQ=>obtain ⟨_,_,_,_,o,_,_,e,_⟩:=x;exact Heap.lt_size e
 | set S n=>obtain ⟨o,_,_,_,e,_⟩:=x;exact Heap.lt_size e
 | ins C dx fs=>obtain ⟨_,_,_,e,_⟩:=x;exact Heap.lt_size e
 | own y=>obtain ⟨_,e⟩:=x;exact Heap.lt_size e
 | xd fs=>obtain ⟨_,⟨_,_,_,e,_⟩,_⟩:=x;exact Heap.lt_size e
 | UL lo hi=>obtain ⟨_,_,_,e⟩:=x;exact Heap.lt_size e
 | yC ob u=>obtain ⟨e,_⟩:=x;exact Heap.lt_size e
 | NL ps=>exact Heap.lt_size (show h.get? a=some _ from x)
 | met f y=>exact Heap.lt_size (show h.get? a=some _ from x)
 | ext φ=>obtain ⟨_,⟨_,e⟩,_⟩:=x;exact Heap.lt_size e
theorem Paired.OD {α β:Type} {F G:α→β→Prop}:∀ {l₁:List α} {l₂:List β},Paired F l₁ l₂→(∀ a b,F a b→G a b)→Paired G l₁ l₂
 | _,_,.nil,_=>.nil
 | _,_,.cons r t,f=>.cons (f _ _ r) (Paired.OD t f)
theorem ff.AX (x:ff P w H h a o) (k:∀ b u,(b=a∨H b=some (.own a))→h.get? b=some u→h'.get? b=some u)
  (ho:∀ b,H b=some (.own a)→H' b=some (.own a)) (ht:∀ b xs,H b=some (.tup xs)→H' b=some (.tup xs)):ff P w H' h' a o:=by
 induction o with
 | lst xs=>obtain ⟨z,ae,n,r,e⟩:=x;exact ⟨z,ae,n,r,k _ _ (.inl rfl) e⟩
 | tup xs=>obtain ⟨z,ae,r,ob,e,c⟩:=x;exact ⟨z,ae,r,ob,k _ _ (.inl rfl) e,c⟩
 | dK bQ=>obtain ⟨z,y,vs,r,ob,es,ep,e,c⟩:=x;exact ⟨z,y,vs,r,ob,es,ep,k _ _ (.inl rfl) e,c⟩
 | dT bQ =>
  obtain ⟨z,y,xs,r,ob,es,ep,e,c⟩:=x
  exact ⟨z,y,xs,Paired.OD r fun p q z=>⟨z.1,ht _ _ z.2.1,z.2.2⟩,ob,es,ep,k _ _ (.inl rfl) e,c⟩
 | set S n=>obtain ⟨ob,es,ep,t,e,c⟩:=x;exact ⟨ob,es,ep,t,k _ _ (.inl rfl) e,c⟩
 | ins C dx fs =>
  obtain ⟨d,z,ne,e,mA,⟨od,es,ep,e2,c⟩,r⟩:=x
  exact ⟨ho _ d,z,ne,k _ _ (.inl rfl) e,mA,⟨od,es,ep,k _ _ (.inr d) e2,c⟩,r⟩
 | own y=>obtain ⟨ob,e⟩:=x;exact ⟨ob,k _ _ (.inl rfl) e⟩
 | xd fs=>obtain ⟨mA,⟨od,es,ep,e,c⟩,r⟩:=x;exact ⟨mA,⟨od,es,ep,k _ _ (.inl rfl) e,c⟩,r⟩
 | UL lo hi=>obtain ⟨t,u,v,e⟩:=x;exact ⟨t,u,v,k _ _ (.inl rfl) e⟩
 | yC ob u ih=>obtain ⟨e,q⟩:=x;exact ⟨k _ _ (.inl rfl) e,ih q⟩
 | NL ps =>
  have e:h.get? a=some { cls:=.none,data:=.fields ps }:=x
  show h'.get? a=some { cls:=.none,data:=.fields ps }
  exact k a _ (.inl rfl) e
 | met f y =>
  have e:h.get? a=some (PySem.W.methodObj (.ref f) (.ref y)):=x
  show h'.get? a=some (PySem.W.methodObj (.ref f) (.ref y))
  exact k a _ (.inl rfl) e
 | ext φ=>obtain ⟨p,⟨o,e⟩,st⟩:=x;exact ⟨st _ _ p fun o q=>k _ _ (.inl rfl) q,⟨o,k _ _ (.inl rfl) e⟩,st⟩
theorem rZ.lt (x:rZ P w H h) (e:H a=some o):a < h.objs.size:=(x a o e).lt
theorem rZ.fresh (x:rZ P w H h) (e:h.objs.size≤a):H a=none:=by
 cases q:H a with
 | none=>rfl
 | some u=>exact absurd (Nat.lt_of_lt_of_le (x.lt q) e) (Nat.lt_irrefl _)
theorem rZ.kept (x:rZ P w H h) (k:∀ b u,h.get? b=some u→h'.get? b=some u):rZ P w H h':=fun a o e =>
 (x a o e).AX (fun b u _ q=>k b u q) (fun _ q=>q) fun _ _ q=>q
theorem rZ.laid (x:rZ P w H h) (k:∀ b u,h.get? b=some u→h'.get? b=some u) (hp:h.objs.size≤a) (new:ff P w (upd H a o) h' a o):rZ P w (upd H a o) h':=fun b u e=>by
 have hn:=x.fresh hp
 by_cases hb:b=a
 ·subst hb;rw [aB] at e;cases e;exact new
 ·rw [aE hb] at e
  exact (x b u e).AX (fun c v _ q=>k c v q) (fun c q=>by rw [aE (aM q hn)];exact q) fun c xs q=>by rw [aE (aM q hn)];exact q
end
def Rd (H:Hp) (a:Addr) (u:HO):Prop:=H a=some u∨∃ o,H a=some (.yC o u)
theorem Rd.of {H:Hp} {a:Addr} {u:HO} (h:H a=some u):Rd H a u:=.inl h
theorem Rd.ok {P:Program} {w:World} {H:Hp} {h:Heap} {a:Addr} {u:HO} (r:Rd H a u) (x:rZ P w H h):ff P w H h a u:=by
 rcases r with r | ⟨o,r⟩
 ·exact x a u r
 ·obtain ⟨_,q⟩:=x a _ r
  exact q
def UM:Option HO→Prop
 | some (.lst _)=>True
 | some (.dK _)=>True
 | some (.dT _)=>True
 | some (.set _ _)=>True
 | some (.ins _ _ _)=>True
 | some (.ext _)=>True
 | _=>False
section
variable {P:Program} {w:World} {H:Hp} {h h':Heap} {x e:Addr} {o':HO}
theorem rZ.write (ok:rZ P w H h) (mu:UM (H x)) (he:e=x∨H e=some (.own x)) (k:∀ b u,b≠e→h.get? b=some u→h'.get? b=some u) (QY:∃ u,h'.get? e=some u)
  (new:ff P w (upd H x o') h' x o'):rZ P w (upd H x o') h':=fun b u q=>by
 have Q0:∀ c y,H c=some (.own y)→c≠x:=fun c y r z=>by subst z;rw [r] at mu;exact mu
 have VB:∀ c xs,H c=some (.tup xs)→c≠x:=fun c xs r z=>by subst z;rw [r] at mu;exact mu
 by_cases hb:b=x
 ·subst hb;rw [aB] at q;cases q;exact new
 ·rw [aE hb] at q
  by_cases HX:b=e
  ·have q':H b=some (.own x):=by
    rcases he with z | z
    ·exact absurd (HX.trans z) hb
    ·rw [HX];exact z
   rw [q] at q';cases q'
   obtain ⟨v,hv⟩:=QY
   exact ⟨v,by rw [HX];exact hv⟩
  ·refine (ok b u q).AX (fun c v hc r=>k c v ?_ r) (fun c r=>by rw [aE (Q0 c b r)];exact r) fun c xs r=>by rw [aE (VB c xs r)];exact r
   rcases hc with rfl | hc
   ·exact HX
   ·rintro rfl
    rcases he with z | z
    ·exact Q0 c b hc z
    ·rw [hc] at z;cases z;exact hb rfl
end
structure Un (fs ex:List Addr) (H H':Hp) (h h':Heap):Prop where
 keep:∀ b o,h.get? b=some o→H b=none→b ∉ fs→b ∉ ex→h'.get? b=some o
 slot:∀ b o,h.get? b=some o→H b=none→b ∈ fs→b ∉ ex→∃ sl,h'.get? b=some { o with slots:=sl }
 free:∀ b o,h.get? b=some o→H b=none→b ∉ ex→H' b=none
 there:∀ b o,h.get? b=some o→b ∉ ex→∃ o',h'.get? b=some o'
 mi:∀ b xs,H b=some (.tup xs)→H' b=some (.tup xs)
 mY:∀ b o u,H b=some (.yC o u)→H' b=some (.yC o u)
 mj:∀ b ps,H b=some (.NL ps)→∃ more,H' b=some (.NL (ps ++ more))
section
variable {fs KZ ex VC:List Addr} {H H1 H2:Hp} {h h1 h2 h':Heap} {a x e:Addr} {o:HO}
theorem Un.any (u:Un fs ex H H1 h h1) {b:Addr} {ob:Obj} (q:h.get? b=some ob) (n:H b=none) (hx:b ∉ ex):∃ sl,h1.get? b=some { ob with slots:=sl }:=by
 by_cases hb:b ∈ fs
 ·exact u.slot b ob q n hb hx
 ·exact ⟨ob.slots,u.keep b ob q n hb hx⟩
theorem Un.trans (a:Un fs ex H H1 h h1) (b:Un fs ex H1 H2 h1 h2):Un fs ex H H2 h h2 where
 keep:=fun c ob q n hc hx=>b.keep c ob (a.keep c ob q n hc hx) (a.free c ob q n hx) hc hx
 slot:=fun c ob q n hc hx=>by
  obtain ⟨sl,e1⟩:=a.slot c ob q n hc hx
  obtain ⟨Q3,e2⟩:=b.slot c _ e1 (a.free c ob q n hx) hc hx
  exact ⟨Q3,e2⟩
 free:=fun c ob q n hx=>by
  obtain ⟨o',e1⟩:=a.there c ob q hx
  exact b.free c o' e1 (a.free c ob q n hx) hx
 there:=fun c ob q hx=>by
  obtain ⟨o',e1⟩:=a.there c ob q hx
  exact b.there c o' e1 hx
 mi:=fun c xs q=>b.mi c xs (a.mi c xs q)
 mY:=fun c ob xs q=>b.mY c ob xs (a.mY c ob xs q)
 mj:=fun c ps q=>by
  obtain ⟨m1,e1⟩:=a.mj c ps q
  obtain ⟨m2,e2⟩:=b.mj c _ e1
  exact ⟨m1 ++ m2,by rw [e2,Array.append_assoc]⟩
theorem Un.kept (k:∀ b u,h.get? b=some u→h'.get? b=some u):Un fs ex H H h h' :=
 ⟨fun b ob q _ _ _=>k b ob q,fun b ob q _ _ _=>⟨ob.slots,k b ob q⟩,fun _ _ _ n _=>n,fun b ob q _=>⟨ob,k b ob q⟩,fun _ _ q=>q,fun _ _ _ q=>q,fun _ ps q=>⟨#[],by rw [q];simp⟩⟩
theorem Un.refl:Un fs ex H H h h:=Un.kept fun _ _ q=>q
theorem Un.laid (k:∀ b u,h.get? b=some u→h'.get? b=some u) (hp:h.objs.size≤a) (hn:H a=none):Un fs ex H (upd H a o) h h' where
 keep:=fun b u q _ _ _=>k b u q
 slot:=fun b u q _ _ _=>⟨u.slots,k b u q⟩
 free:=fun b u q n _=>by rw [aE (Nat.ne_of_lt (Nat.lt_of_lt_of_le (Heap.lt_size q) hp))];exact n
 there:=fun b u q _=>⟨u,k b u q⟩
 mi:=fun b xs q=>by rw [aE (aM q hn)];exact q
 mY:=fun b u xs q=>by rw [aE (aM q hn)];exact q
 mj:=fun b ps q=>⟨#[],by rw [aE (aM q hn),q];simp⟩
theorem Un.write (mu:UM (H x)) (he:e=x∨H e=some (.own x)) (k:∀ b u,b≠e→h.get? b=some u→h'.get? b=some u) (QY:∃ u,h'.get? e=some u):Un fs ex H (upd H x o) h h':=by
 have hx:∀ b,H b=none→b≠x:=fun b n z=>by subst z;rw [n] at mu;exact mu
 have hb:∀ b,H b=none→b≠e:=fun b n z=>by
  subst z
  rcases he with r | r
  ·exact hx b n r
  ·rw [n] at r;cases r
 have hm:∀ b u,H b=some u→¬ UM (some u)→b≠x:=fun b u q nm z=>by subst z;rw [q] at mu;exact nm mu
 refine ⟨fun b u q n _ _=>k b u (hb b n) q,fun b u q n _ _=>⟨u.slots,k b u (hb b n) q⟩,fun b u q n _=>by rw [aE (hx b n)];exact n,fun b u q _=>?_,
  fun b xs q=>by rw [aE (hm b _ q fun z=>z)];exact q,fun b u xs q=>by rw [aE (hm b _ q fun z=>z)];exact q,fun b ps q=>⟨#[],by rw [aE (hm b _ q fun z=>z),q];simp⟩⟩
 by_cases HX:b=e
 ·subst HX;exact QY
 ·exact ⟨u,k b u HX q⟩
theorem Un.mono (u:Un fs ex H H1 h h1) (hs:∀ b ∈ fs,b ∈ KZ) (hx:∀ b ∈ ex,b ∈ VC):Un KZ VC H H1 h h1 :=
 ⟨fun b ob q n hb he=>u.keep b ob q n (fun z=>hb (hs b z)) fun z=>he (hx b z),fun _ _ q n _ he=>u.any q n fun z=>he (hx _ z),fun b ob q n he=>u.free b ob q n fun z=>he (hx b z),fun b ob q he=>u.there b ob q fun z=>he (hx b z),u.mi,u.mY,u.mj⟩
end
def Fo (h:Heap) (H:Hp):List Addr:=(List.range h.objs.size).filter fun a=>(H a).isSome
def yr (h:Heap) (H:Hp):Heap:=PySem.W.hideAll h (Fo h H)
theorem Fp (h:Heap) (H:Hp):(yr h H).objs.size=h.objs.size:=PySem.W.hideAll_size _ _
theorem Hm {h:Heap} {H:Hp} {b:Addr} {o:Obj} (e:h.get? b=some o) (n:H b=none):(yr h H).get? b=some o :=
 PySem.W.hideAll_get _ e fun hm=>by
  have q:(H b).isSome=true:=(List.mem_filter.mp hm).2
  rw [n] at q;simp at q
theorem Kw {h:Heap} {H:Hp} {b:Addr} {o:Obj} (e:(yr h H).get? b=some o):h.get? b=some o∧H b=none:=by
 have e':h.get? b=some o:=PySem.W.of_hideAll (Fo h H) e
 refine ⟨e',?_⟩
 cases q:H b with
 | none=>rfl
 | some x =>
  have hm:b ∈ Fo h H:=List.mem_filter.mpr ⟨List.mem_range.mpr (Heap.lt_size e'),by simp [q]⟩
  have z:(yr h H).get? b=none:=PySem.W.hideAll_none (Fo h H) hm
  rw [z] at e;cases e
def Kx (g h:Heap) (L:Addr):List (Addr × Obj):=(List.range h.objs.size).filterMap fun a=>if a=L∨(g.get? a).isSome=true then none else (h.get? a).map fun o=>(a,o)
def rest (g h:Heap) (L d:Addr):List (Addr × Obj):=(Kx g h L).filter fun p=>decide (p.1≠d)
end L2
namespace L2
open PySem PySem.Spec PyProof.Rows
structure Mod (K:PySem.W.Frag) (mg:Str→Option Value) (base:Heap):Prop where
 QZ:K.In base
 glob:base.Ns mainGlobals mg
 blt:∃ mb,base.Ns builtinsNs mb∧∀ x:Str,x≠"__name__"→mb x=bootBuiltins x
 nolimit:base.NoLimit
structure Cx where
 prog:Program
 w:World
 K:PySem.W.Frag
 mg:Str→Option Value
 base:Heap
 A:Around
 N:List Str
 s₀:Shared
 H₀:Hp
 env:Env
 outer:List Env
 stack:List Env
 ex:List Addr
 fn:Str→Bool
 calm:Bool
 pn:List (Addr × Obj)
 xe:Value→Shared→Prop
def oP (l:List Env):List Addr:=l.filterMap (·.frame)
abbrev Cx.fs (X:Cx):List Addr:=oP X.outer
def UN (sc:Scope) (x:Str):Prop:=sc.names.lookup x=some .local∨sc.names.lookup x=some .cell∨sc.names.lookup x=some .free
def Loc (sc:Scope) (x:Str):Prop:=sc.names.lookup x=some .local∨sc.names.lookup x=some .cell
def Look (env:Env) (h:Heap) (m:Str→Option Value) (x:Str) (u:Value):Prop :=
 (env.kindOf x=some .local∧m x=some u)∨((env.kindOf x=some .cell∨env.kindOf x=some .free)∧∃ c,env.cells.lookup x=some c∧h.IsCell c (some u))
structure Cx.Ok (X:Cx):Prop where
 mod:Mod X.K X.mg X.base
 kind:X.env.scope.kind=.function
 glob:X.env.globals=mainGlobals
 blt:X.env.builtins=builtinsNs
 above:X.s₀.heap.objs.size≤X.env.locals
 inj:∀ x y c,X.env.cells.lookup x=some c→X.env.cells.lookup y=some c→x=y
 has:∀ x,(X.env.kindOf x=some .cell∨X.env.kindOf x=some .free)→∃ c,X.env.cells.lookup x=some c
 OE:∀ x c,X.fn x=true→X.env.cells.lookup x=some c→X.s₀.heap.objs.size≤c
 hd:X.calm=true→X.A.handled=none
 frames:X.A.frames=some X.stack
 Ka:X.stack=X.outer∨(X.stack=X.env :: X.outer∧X.env.frame=some X.env.locals)
 Q4:∀ b ∈ X.ex,b≠X.env.locals∧∀ x c,X.env.cells.lookup x=some c→c≠b
 bs:∀ b o,X.base.get? b=some o→X.s₀.heap.get? b=some o∧X.H₀ b=none
 Hn:X.base.objs.size≤X.s₀.heap.objs.size
 CI:∀ b o,X.base.get? b=some o→b ∉ X.ex
 CJ:∀ b ∈ X.ex,b ∉ X.fs
 rf:X.s₀.heap.FunFrames X.base X.outer
 NM:∀ b ∈ X.fs,X.H₀ b=none
structure Inv (X:Cx) (pins:List (Addr × Obj)) (σ:List (Option V)) (H:Hp) (s:Shared):Prop where
 ok:X.Ok
 os:s.os=X.s₀.os
 bare:AllBare s.gens
 base:Un X.fs X.ex X.H₀ H X.s₀.heap s.heap
 loc:∃ m,s.heap.Ns X.env.locals m∧∀ (i:Nat) (x:Str) (v:V),X.N[i]?=some x→σ[i]?=some (some v)→UN X.env.scope x→∃ u,RelV v u∧Look X.env s.heap m x u
 cell:∀ x c,X.env.cells.lookup x=some c→∃ v,s.heap.IsCell c v
 free:H X.env.locals=none
 mS:∀ x c,X.env.cells.lookup x=some c→H c=none
 pin:∀ p ∈ X.pn ++ pins,s.heap.get? p.1=some p.2∧H p.1=none∧p.1≠X.env.locals∧p.1 ∉ X.fs∧∀ v,p.2.data≠.cell v
 cn:rZ X.prog X.w H s.heap
 len:σ.length=X.N.length
section
variable {X:Cx} {pins:List (Addr × Obj)} {σ:List (Option V)} {H H':Hp} {s:Shared} {h':Heap}
theorem Cx.Ok.VD (ok:X.Ok) {b:Addr} {o:Obj} (e:X.base.get? b=some o):b ∉ X.fs:=fun hb=>by
 have:=(ok.rf.mem hb).1
 rw [e] at this;cases this
theorem Inv.bs (I:Inv X pins σ H s):∀ b o,X.base.get? b=some o→s.heap.get? b=some o∧H b=none:=fun b o e =>
 ⟨I.base.keep b o (I.ok.bs b o e).1 (I.ok.bs b o e).2 (I.ok.VD e) (I.ok.CI b o e),I.base.free b o (I.ok.bs b o e).1 (I.ok.bs b o e).2 (I.ok.CI b o e)⟩
theorem Inv.bk (I:Inv X pins σ H s):∀ b o,X.base.get? b=some o→s.heap.get? b=some o:=fun b o e=>(I.bs b o e).1
theorem Inv.mod (I:Inv X pins σ H s):Mod X.K X.mg X.base:=I.ok.mod
theorem Inv.EK (I:Inv X pins σ H s):X.K.In s.heap:=I.ok.mod.QZ.keeps I.bk
theorem Inv.nolimit (I:Inv X pins σ H s):s.heap.NoLimit:=I.ok.mod.nolimit.keeps I.bk
theorem Inv.fr (I:Inv X pins σ H s):∃ m,Fr X.base X.env.locals s.heap m :=
 let ⟨m,hn,_⟩:=I.loc
 ⟨m,hn,I.bk,Nat.le_trans I.ok.Hn I.ok.above⟩
theorem Inv.lt (I:Inv X pins σ H s):X.env.locals < s.heap.objs.size:=let ⟨_,hn,_⟩:=I.loc;hn.lt
theorem Inv.sz (I:Inv X pins σ H s):X.s₀.heap.objs.size≤s.heap.objs.size:=Nat.le_trans I.ok.above (Nat.le_of_lt I.lt)
theorem Inv.VE (I:Inv X pins σ H s) {a:Addr} (h:s.heap.objs.size≤a):a ∉ X.fs:=fun hb=>by
 obtain ⟨_,o,ho,_⟩:=I.ok.rf.mem hb
 exact absurd (Nat.lt_of_lt_of_le (Heap.lt_size ho) (Nat.le_trans I.sz h)) (Nat.lt_irrefl _)
theorem Inv.OF (I:Inv X pins σ H s):∀ x c,X.env.cells.lookup x=some c→c≠X.env.locals:=fun x c e z=>by
 obtain ⟨v,o,ho,hd⟩:=I.cell x c e
 obtain ⟨m,⟨o',es,ep,AO,yt,_⟩,_⟩:=I.loc
 rw [z,AO] at ho;cases ho;rw [yt] at hd;cases hd
theorem Inv.rf (I:Inv X pins σ H s):s.heap.FunFrames X.base X.outer:=by
 have all:∀ (l:List Env),(∀ b ∈ oP l,b ∈ X.fs)→X.s₀.heap.FunFrames X.base l→s.heap.FunFrames X.base l:=by
  intro l
  induction l with
  | nil=>intro _ _;trivial
  | cons env r ih =>
   intro hs hl
   obtain ⟨hk,⟨L,o,hf,hn,ho,hd⟩,hr⟩:=hl
   have hL:L ∈ X.fs:=hs L (by unfold oP;rw [List.filterMap_cons,hf];exact List.mem_cons_self)
   obtain ⟨sl,e⟩:=I.base.slot L o ho (I.ok.NM L hL) hL fun z=>I.ok.CJ L z hL
   exact ⟨hk,⟨L,_,hf,hn,e,hd⟩,ih (fun b hb=>hs b (by unfold oP;rw [List.filterMap_cons,hf];exact List.mem_cons_of_mem _ hb)) hr⟩
 exact all X.outer (fun _ hb=>hb) I.ok.rf
theorem Inv.stack (I:Inv X pins σ H s):s.heap.FunFrames X.base X.stack:=by
 rcases I.ok.Ka with e | ⟨e,hf⟩
 ·rw [e];exact I.rf
 ·rw [e]
  obtain ⟨m,hn,_⟩:=I.loc
  refine .cons (by rw [I.ok.kind];decide) hf hn ?_ I.rf
  exact Heap.get?_none_of_le (Nat.le_trans I.ok.Hn I.ok.above)
theorem Inv.CK (I:Inv X pins σ H s):∀ b ∈ oP X.stack,b ∈ X.env.locals :: X.fs:=fun b hb=>by
 rcases I.ok.Ka with e | ⟨e,hf⟩
 ·rw [e] at hb;exact List.mem_cons_of_mem _ hb
 ·rw [e] at hb
  unfold oP at hb
  rw [List.filterMap_cons,hf] at hb
  exact hb
theorem Inv.yu (I:Inv X pins σ H s):∀ b ∈ oP X.stack,H b=none:=fun b hb=>by
 rcases List.mem_cons.mp (I.CK b hb) with e | hb
 ·rw [e];exact I.free
 ·obtain ⟨_,o,ho,_⟩:=I.ok.rf.mem hb
  exact I.base.free b o ho (I.ok.NM b hb) fun z=>I.ok.CJ b z hb
theorem Inv.step {g':Array GenState} {t':Nat} {d':Drawn} {ch:List Addr} (I:Inv X pins σ H s)
  (Kb:∀ b ∈ ch,(b ∈ X.ex∨X.s₀.heap.objs.size≤b)∧b≠X.env.locals∧(∀ x c,X.env.cells.lookup x=some c→c≠b)∧∀ p ∈ X.pn ++ pins,p.1≠b)
  (keep:∀ b o,b≠X.env.locals→b ∉ X.fs→b ∉ ch→s.heap.get? b=some o→H b=none→h'.get? b=some o)
  (slot:∀ b o,b≠X.env.locals→b ∈ X.fs→b ∉ ch→s.heap.get? b=some o→H b=none→∃ sl,h'.get? b=some { o with slots:=sl }) (free:∀ b o,b ∉ ch→s.heap.get? b=some o→H b=none→H' b=none)
  (there:∀ b o,b ∉ ch→s.heap.get? b=some o→∃ o',h'.get? b=some o')
  (mi:∀ b xs,H b=some (.tup xs)→H' b=some (.tup xs)) (mY:∀ b o u,H b=some (.yC o u)→H' b=some (.yC o u)) (mj:∀ b ps,H b=some (.NL ps)→∃ more,H' b=some (.NL (ps ++ more)))
  (ns:∀ m,s.heap.Ns X.env.locals m→h'.Ns X.env.locals m) (cn:rZ X.prog X.w H' h') (hg:AllBare g') :
  Inv X pins σ H' { s with heap:=h',gens:=g',drawn:=d',toks:=t' }:=by
 have UO:∀ b o,X.s₀.heap.get? b=some o→b≠X.env.locals:=fun b o e=>Nat.ne_of_lt (Nat.lt_of_lt_of_le (Heap.lt_size e) I.ok.above)
 have UP:∀ b o,X.s₀.heap.get? b=some o→b ∉ X.ex→b ∉ ch:=fun b o e hx hb=>by
  rcases (Kb b hb).1 with z | z
  ·exact hx z
  ·exact absurd (Nat.lt_of_lt_of_le (Heap.lt_size e) z) (Nat.lt_irrefl _)
 have cellK:∀ x c,X.env.cells.lookup x=some c→∀ v,s.heap.IsCell c v→h'.IsCell c v:=fun x c e v ⟨o,ho,hd⟩=>by
  have Q5:c ∉ ch:=fun z=>(Kb c z).2.2.1 x c e rfl
  by_cases hc:c ∈ X.fs
  ·obtain ⟨sl,q⟩:=slot c o (I.OF x c e) hc Q5 ho (I.mS x c e)
   exact ⟨_,q,hd⟩
  ·exact ⟨o,keep c o (I.OF x c e) hc Q5 ho (I.mS x c e),hd⟩
 refine ⟨I.ok,I.os,hg,⟨fun b o e n hb hx=>?_,fun b o e n hb hx=>?_,fun b o e n hx=>?_,fun b o e hx=>?_,fun b xs e=>mi b xs (I.base.mi b xs e),fun b o xs e=>mY b o xs (I.base.mY b o xs e),fun b ps e=>?_⟩,?_,fun x c e=>?_,?_,fun x c e=>?_,fun p hp=>?_,cn,I.len⟩
 ·exact keep b o (UO b o e) hb (UP b o e hx) (I.base.keep b o e n hb hx) (I.base.free b o e n hx)
 ·obtain ⟨sl,e1⟩:=I.base.slot b o e n hb hx
  obtain ⟨Q3,e2⟩:=slot b _ (UO b o e) hb (UP b o e hx) e1 (I.base.free b o e n hx)
  exact ⟨Q3,e2⟩
 ·obtain ⟨o',e1⟩:=I.base.there b o e hx
  exact free b o' (UP b o e hx) e1 (I.base.free b o e n hx)
 ·obtain ⟨o',e1⟩:=I.base.there b o e hx
  exact there b o' (UP b o e hx) e1
 ·obtain ⟨m1,e1⟩:=I.base.mj b ps e
  obtain ⟨m2,e2⟩:=mj b _ e1
  exact ⟨m1 ++ m2,by rw [e2,Array.append_assoc]⟩
 ·obtain ⟨m,hn,hl⟩:=I.loc
  refine ⟨m,ns m hn,fun i x v e1 e2 e3=>?_⟩
  obtain ⟨u,r,l⟩:=hl i x v e1 e2 e3
  refine ⟨u,r,?_⟩
  rcases l with l | ⟨k,c,e,z⟩
  ·exact .inl l
  ·exact .inr ⟨k,c,e,cellK x c e _ z⟩
 ·obtain ⟨v,z⟩:=I.cell x c e
  exact ⟨v,cellK x c e v z⟩
 ·obtain ⟨m,⟨o,_,_,ho,_⟩,_⟩:=I.loc
  exact free _ o (fun z=>(Kb _ z).2.1 rfl) ho I.free
 ·obtain ⟨v,o,ho,hd⟩:=I.cell x c e
  exact free c o (fun z=>(Kb c z).2.2.1 x c e rfl) ho (I.mS x c e)
 ·obtain ⟨e,n,ne,nf,d⟩:=I.pin p hp
  have Q5:p.1 ∉ ch:=fun z=>(Kb p.1 z).2.2.2 p hp rfl
  exact ⟨keep p.1 p.2 ne nf Q5 e n,free p.1 p.2 Q5 e n,ne,nf,d⟩
theorem Inv.un {t':Nat} (I:Inv X pins σ H s) (u:Un X.fs [] H H' s.heap h') (cn:rZ X.prog X.w H' h'):Inv X pins σ H' { s with heap:=h',toks:=t' }:=by
 obtain ⟨m,⟨o,es,ep,ho,r⟩,_⟩:=id I.loc
 obtain ⟨sl,hL⟩:=u.any ho I.free (by simp)
 exact I.step (g':=s.gens) (d':=s.drawn) (ch:=[]) (fun _ z=>nomatch z) (fun b o _ hb _ e n=>u.keep b o e n hb (by simp)) (fun b o _ hb _ e n=>u.slot b o e n hb (by simp)) (fun b o _ e n=>u.free b o e n (by simp)) (fun b o _ e=>u.there b o e (by simp)) u.mi u.mY u.mj (fun m' hm=>by
  obtain ⟨o',Q6,VF,AO,r'⟩:=hm
  rw [ho] at AO;cases AO
  exact ⟨_,Q6,VF,hL,r'⟩) cn I.bare
theorem Inv.call {g':Array GenState} {t':Nat} {d':Drawn} {ch:List Addr} (I:Inv X pins σ H s) (u:Un (oP X.stack) ch H H' s.heap h') (cn:rZ X.prog X.w H' h') (hg:AllBare g')
  (Kb:∀ b ∈ ch,(b ∈ X.ex∨X.s₀.heap.objs.size≤b)∧b≠X.env.locals∧(∀ x c,X.env.cells.lookup x=some c→c≠b)∧∀ p ∈ X.pn ++ pins,p.1≠b) :
  Inv X pins σ H' { s with heap:=h',gens:=g',drawn:=d',toks:=t' }:=by
 obtain ⟨m,⟨o,es,ep,ho,r⟩,_⟩:=id I.loc
 obtain ⟨sl,hL⟩:=u.any ho I.free fun z=>(Kb _ z).2.1 rfl
 exact I.step (ch:=ch) Kb (fun b o hL hb hc e n=>u.keep b o e n (fun z=>(List.mem_cons.mp (I.CK b z)).elim hL hb) hc) (fun b o _ _ hc e n=>u.any e n hc) (fun b o hc e n=>u.free b o e n hc) (fun b o hc e=>u.there b o e hc) u.mi u.mY u.mj (fun m' hm=>by
  obtain ⟨o',Q6,VF,AO,r'⟩:=hm
  rw [ho] at AO;cases AO
  exact ⟨_,Q6,VF,hL,r'⟩) cn hg
theorem Inv.turned {t':Nat} {it:Addr} (I:Inv X pins σ H s) (k:∀ b o,b≠it→s.heap.get? b=some o→h'.get? b=some o) (hn:H it=none) (hL:it≠X.env.locals)
  (h1:it ∈ X.ex∨X.s₀.heap.objs.size≤it) (h2:∀ x c,X.env.cells.lookup x=some c→c≠it) (h3:∀ p ∈ X.pn ++ pins,p.1≠it):Inv X pins σ H { s with heap:=h',toks:=t' }:=by
 have Xh:∀ b u,H b=some u→b≠it:=fun b u e z=>by rw [z,hn] at e;cases e
 refine I.step (g':=s.gens) (d':=s.drawn) (ch:=[it]) (fun b hb=>?_) (fun b o _ _ hc e _=>k b o (fun z=>hc (by simp [z])) e) (fun b o _ _ hc e _=>⟨o.slots,k b o (fun z=>hc (by simp [z])) e⟩) (fun _ _ _ _ n=>n)
  (fun b o hc e=>⟨o,k b o (fun z=>hc (by simp [z])) e⟩) (fun _ _ e=>e) (fun _ _ _ e=>e) (fun b ps e=>⟨#[],by rw [e];simp⟩) (fun m hm=>?_) (fun b u e=>?_) I.bare
 ·have e:b=it:=by simpa using hb
  subst e
  exact ⟨h1,hL,h2,h3⟩
 ·obtain ⟨o,es,ep,ho,r⟩:=hm
  exact ⟨o,es,ep,k _ o (Ne.symm hL) ho,r⟩
 ·refine (I.cn b u e).AX (fun c v hc q=>k c v ?_ q) (fun _ q=>q) fun _ _ q=>q
  rcases hc with z | z
  ·rw [z];exact Xh b u e
  ·exact Xh c _ z
theorem Inv.tok (I:Inv X pins σ H s) (t:Nat):Inv X pins σ H { s with toks:=t }:=I.un (h':=s.heap) (t':=t) Un.refl I.cn
theorem Inv.kept {t':Nat} (I:Inv X pins σ H s) (k:∀ b u,s.heap.get? b=some u→h'.get? b=some u):Inv X pins σ H { s with heap:=h',toks:=t' }:=I.un (Un.kept k) (I.cn.kept k)
theorem Inv.laid {a:Addr} {o:HO} {t':Nat} (I:Inv X pins σ H s) (k:∀ b u,s.heap.get? b=some u→h'.get? b=some u) (hp:s.heap.objs.size≤a) (new:ff X.prog X.w (upd H a o) h' a o) :
  Inv X pins σ (upd H a o) { s with heap:=h',toks:=t' }:=I.un (Un.laid k hp (I.cn.fresh hp)) (I.cn.laid k hp new)
theorem Inv.write {x e:Addr} {o:HO} {t':Nat} (I:Inv X pins σ H s) (mu:UM (H x)) (he:e=x∨H e=some (.own x)) (k:∀ b u,b≠e→s.heap.get? b=some u→h'.get? b=some u) (QY:∃ u,h'.get? e=some u)
  (new:ff X.prog X.w (upd H x o) h' x o):Inv X pins σ (upd H x o) { s with heap:=h',toks:=t' }:=I.un (Un.write mu he k QY) (I.cn.write mu he k QY new)
theorem Inv.EL {NN:List (Addr × Obj)} (I:Inv X pins σ H s) (h:∀ p ∈ NN,s.heap.get? p.1=some p.2∧H p.1=none∧p.1≠X.env.locals∧p.1 ∉ X.fs∧∀ v,p.2.data≠.cell v):Inv X NN σ H s :=
 ⟨I.ok,I.os,I.bare,I.base,I.loc,I.cell,I.free,I.mS,fun p hp=>(List.mem_append.mp hp).elim (fun z=>I.pin p (List.mem_append_left _ z)) (h p),I.cn,I.len⟩
theorem AY {N:List Str} (hN:N.Nodup) {i j:Nat} {x:Str} (a:N[i]?=some x) (b:N[j]?=some x):i=j:=by
 obtain ⟨h1,e1⟩:=List.getElem?_eq_some_iff.mp a
 obtain ⟨h2,e2⟩:=List.getElem?_eq_some_iff.mp b
 exact (List.getElem_inj hN).mp (e1.trans e2.symm)
theorem yD {M:Model} {A:Around} {E:Value→Shared→Prop} {i:Nat} {x:Str} {v:V} {u:Value} {Q:Unit→Shared→Prop} (I:Inv X pins σ H s) (hN:X.N.Nodup) (hi:X.N[i]?=some x) (hx:Loc X.env.scope x) (r:RelV v u)
  (h:∀ s',Inv X pins (σ.set i (some v)) H s'→(∃ a,Heap.SameBut a s.heap s'.heap∧(a=X.env.locals∨X.env.cells.lookup x=some a))→Q () s') (hf:X.fn x=true∨X.env.scope.names.lookup x=some .local:=by first | exact .inl rfl | exact .inr rfl | assumption):wpAny M A (storeName X.env x u) Q E s:=by
 obtain ⟨m,hn,hl⟩:=id I.loc
 have VG:(X.env.scope.kind == .class || (X.env.scope.kind == .module && X.env.locals != X.env.globals))=false:=by rw [I.ok.kind];rfl
 have hiσ:i < σ.length:=by rw [I.len];exact (List.getElem?_eq_some_iff.mp hi).1
 have OF:=I.OF
 have tracked:∀ {a:Addr} {h':Heap},(∃ o,s.heap.get? a=some o∧H a=none)→Heap.SameBut a s.heap h'→rZ X.prog X.w H h':=fun {a h'} ha hs b ob e=>by
  obtain ⟨_,_,NO⟩:=ha
  refine (I.cn b ob e).AX (fun c w' hc q=>(hs.2 c ?_).trans q) (fun _ q=>q) fun _ _ q=>q
  rintro rfl
  rcases hc with rfl | hc
  ·rw [NO] at e;cases e
  ·rw [NO] at hc;cases hc
 rcases hx with hk | hk
 ·refine wpAny_storeName_local hk hn (fun h' Qa hs=>?_) VG
  obtain ⟨oL,_,_,Zf,_⟩:=id hn
  refine h _ ⟨I.ok,I.os,I.bare,⟨fun b o e n hb hx=>?_,fun b o e n hb hx=>?_,I.base.free,fun b o e hx=>?_,I.base.mi,I.base.mY,I.base.mj⟩,⟨_,Qa,fun j y v' e1 e2 e3=>?_⟩,fun y c e=>?_,I.free,I.mS,fun p hp=>?_,tracked ⟨oL,Zf,I.free⟩ hs,by simpa using I.len⟩ ⟨_,hs,.inl rfl⟩
  ·exact (hs.2 b (Nat.ne_of_lt (Nat.lt_of_lt_of_le (Heap.lt_size e) I.ok.above))).trans (I.base.keep b o e n hb hx)
  ·obtain ⟨sl,e1⟩:=I.base.slot b o e n hb hx
   exact ⟨sl,(hs.2 b (Nat.ne_of_lt (Nat.lt_of_lt_of_le (Heap.lt_size e) I.ok.above))).trans e1⟩
  ·obtain ⟨o',e1⟩:=I.base.there b o e hx
   exact ⟨o',(hs.2 b (Nat.ne_of_lt (Nat.lt_of_lt_of_le (Heap.lt_size e) I.ok.above))).trans e1⟩
  ·by_cases hj:j=i
   ·subst hj
    rw [hi] at e1;cases e1
    rw [List.getElem?_set_self hiσ] at e2
    cases e2
    exact ⟨u,r,.inl ⟨hk,by simp⟩⟩
   ·rw [List.getElem?_set_ne (Ne.symm hj)] at e2
    obtain ⟨u',r',q⟩:=hl j y v' e1 e2 e3
    refine ⟨u',r',?_⟩
    rcases q with ⟨k,e⟩ | ⟨k,c,e,z⟩
    ·refine .inl ⟨k,?_⟩
     have:y≠x:=fun e=>hj (AY hN e1 (e ▸ hi))
     simp [this,e]
    ·exact .inr ⟨k,c,e,z.sameBut hs (OF y c e)⟩
  ·obtain ⟨w',z⟩:=I.cell y c e
   exact ⟨w',z.sameBut hs (OF y c e)⟩
  ·obtain ⟨e,n,ne,nf,d⟩:=I.pin p hp
   exact ⟨(hs.2 p.1 ne).trans e,n,ne,nf,d⟩
 ·have VH:X.fn x=true:=by
   rcases hf with z | z
   ·exact z
   ·rw [z] at hk;cases hk
  obtain ⟨c,hc⟩:=I.ok.has x (.inl hk)
  obtain ⟨w',z⟩:=I.cell x c hc
  refine wpAny_storeName_cell I.ok.kind hk hc z (fun h' UQ hs=>?_)
  obtain ⟨oc,Xi,VI⟩:=id z
  refine h { s with heap:=h' } ⟨I.ok,I.os,I.bare,⟨fun b o e n hb hx=>?_,fun b o e n hb hx=>?_,I.base.free,fun b o e hx=>?_,I.base.mi,I.base.mY,I.base.mj⟩,⟨m,hn.sameBut hs (Ne.symm (OF x c hc)),fun j y v' e1 e2 e3=>?_⟩,fun y c' e=>?_,I.free,I.mS,fun p hp=>?_,tracked ⟨oc,Xi,I.mS x c hc⟩ hs,by simpa using I.len⟩ ⟨c,hs,.inr hc⟩
  ·exact (hs.2 b (Nat.ne_of_lt (Nat.lt_of_lt_of_le (Heap.lt_size e) (I.ok.OE x c VH hc)))).trans (I.base.keep b o e n hb hx)
  ·obtain ⟨sl,e1⟩:=I.base.slot b o e n hb hx
   exact ⟨sl,(hs.2 b (Nat.ne_of_lt (Nat.lt_of_lt_of_le (Heap.lt_size e) (I.ok.OE x c VH hc)))).trans e1⟩
  ·obtain ⟨o',e1⟩:=I.base.there b o e hx
   exact ⟨o',(hs.2 b (Nat.ne_of_lt (Nat.lt_of_lt_of_le (Heap.lt_size e) (I.ok.OE x c VH hc)))).trans e1⟩
  ·by_cases hj:j=i
   ·subst hj
    rw [hi] at e1;cases e1
    rw [List.getElem?_set_self hiσ] at e2
    cases e2
    exact ⟨u,r,.inr ⟨.inl hk,c,hc,UQ⟩⟩
   ·rw [List.getElem?_set_ne (Ne.symm hj)] at e2
    obtain ⟨u',r',q⟩:=hl j y v' e1 e2 e3
    refine ⟨u',r',?_⟩
    rcases q with q | ⟨k,c',e,z'⟩
    ·exact .inl q
    ·refine .inr ⟨k,c',e,z'.sameBut hs ?_⟩
     rintro rfl
     exact hj (AY hN e1 (I.ok.inj _ _ _ e hc ▸ hi))
  ·by_cases Kc:c'=c
   ·subst Kc;exact ⟨_,UQ⟩
   ·obtain ⟨w2,z2⟩:=I.cell y c' e
    exact ⟨w2,z2.sameBut hs Kc⟩
  ·obtain ⟨e,n,ne,nf,d⟩:=I.pin p hp
   refine ⟨(hs.2 p.1 ?_).trans e,n,ne,nf,d⟩
   intro q
   rw [q,Xi] at e
   have q':oc=p.2:=Option.some.inj e
   exact d w' (by rw [← q'];exact VI)
theorem AZ {M:Model} {A:Around} {E:Value→Shared→Prop} {i:Nat} {x:Str} {v:V} {u:Value} {Q:Unit→Shared→Prop} (I:Inv X pins σ H s) (hN:X.N.Nodup) (hi:X.N[i]?=some x) (hx:Loc X.env.scope x) (r:RelV v u)
  (h:∀ s',Inv X pins (σ.set i (some v)) H s'→Q () s') (hf:X.fn x=true∨X.env.scope.names.lookup x=some .local:=by first | exact .inl rfl | exact .inr rfl | assumption):wpAny M A (storeName X.env x u) Q E s :=
 yD I hN hi hx r (fun s' I' _=>h s' I') hf
theorem Inv.Ho {s':Shared} {ch:List Addr} (I:Inv X pins σ H s) (ho:s'.os=s.os) (u:Un (oP X.stack) ch H H' s.heap s'.heap) (cn:rZ X.prog X.w H' s'.heap) (hg:AllBare s'.gens)
  (Kb:∀ b ∈ ch,(b ∈ X.ex∨X.s₀.heap.objs.size≤b)∧b≠X.env.locals∧(∀ x c,X.env.cells.lookup x=some c→c≠b)∧∀ p ∈ X.pn ++ pins,p.1≠b):Inv X pins σ H' s':=by
 obtain ⟨h',g',d',t',o'⟩:=s'
 have e:o'=s.os:=ho
 subst e
 exact I.call (g':=g') (t':=t') (d':=d') u cn hg Kb
end
abbrev XK:=Value→Option Addr→Hp→Prop
abbrev St:=List (Option V)
abbrev VK:=V→Hp→Prop
abbrev TE:=St→Hp→VK→Prop
abbrev TT:=St→Hp→(Bool→Hp→Prop)→Prop
abbrev TA:=St→Hp→(List V→Hp→Prop)→Prop
structure Ends where
 nx:St→Hp→Prop
 rt:VK
 bk:St→Hp→Prop:=fun _ _=>False
 ct:St→Hp→Prop:=fun _ _=>False
abbrev TS:=Ends→St→Hp→Prop
def EP (X:Cx) (pins:List (Addr × Obj)) (σ:St) (Q:VK) (u:Value) (s':Shared):Prop:=∃ v H',Inv X pins σ H' s'∧RelV v u∧Q v H'
def TP (X:Cx) (pins:List (Addr × Obj)) (σ:St) (Q:Bool→Hp→Prop) (b:Bool) (s':Shared):Prop:=∃ H',Inv X pins σ H' s'∧Q b H'
def AP (X:Cx) (pins:List (Addr × Obj)) (σ:St) (Q:List V→Hp→Prop) (us:List Value) (s':Shared):Prop:=∃ vs H',Inv X pins σ H' s'∧aq vs us∧Q vs H'
def SP (X:Cx) (pins:List (Addr × Obj)) (D:Ends) (f:Flow) (s':Shared):Prop :=
 match f with
 | .next=>∃ σ' H',Inv X pins σ' H' s'∧D.nx σ' H'
 | .brk=>∃ σ' H',Inv X pins σ' H' s'∧D.bk σ' H'
 | .cont=>∃ σ' H',Inv X pins σ' H' s'∧D.ct σ' H'
 | .ret u=>∃ v σ' H',Inv X pins σ' H' s'∧RelV v u∧D.rt v H'
def PE (X:Cx) (e:Expr) (t:TE):Prop :=
 ∀ (pins:List (Addr × Obj)) (s:Shared) (σ:St) (H:Hp) (Q:VK),Inv X pins σ H s→t σ H Q→wpAny (model X.prog X.w) X.A (eval e X.env) (EP X pins σ Q) X.xe s
def PT (X:Cx) (e:Expr) (t:TT):Prop :=
 ∀ (pins:List (Addr × Obj)) (s:Shared) (σ:St) (H:Hp) (Q:Bool→Hp→Prop),Inv X pins σ H s→t σ H Q→wpAny (model X.prog X.w) X.A (isTrue e X.env (eval e X.env)) (TP X pins σ Q) X.xe s
def PW (X:Cx) (e:Expr) (t:TT):Prop :=
 ∀ (whole:Sem Value) (pins:List (Addr × Obj)) (s:Shared) (σ:St) (H:Hp) (Q:Bool→Hp→Prop),Inv X pins σ H s→t σ H Q→wpAny (model X.prog X.w) X.A (isTrue e X.env whole) (TP X pins σ Q) X.xe s
theorem PW.pt {X:Cx} {e:Expr} {t:TT} (h:PW X e t):PT X e t:=h _
def PA (X:Cx) (es:List Expr) (t:TA):Prop :=
 ∀ (pos:Pos) (pins:List (Addr × Obj)) (s:Shared) (σ:St) (H:Hp) (Q:List V→Hp→Prop),Inv X pins σ H s→t σ H Q→wpAny (model X.prog X.w) X.A (spliced (backTo pos (starEach es X.env))) (AP X pins σ Q) X.xe s
def PS (X:Cx) (st:Stmt) (t:TS):Prop :=
 ∀ (pins:List (Addr × Obj)) (s:Shared) (σ:St) (H:Hp) (D:Ends),Inv X pins σ H s→t D σ H→wpAny (model X.prog X.w) X.A (exec st X.env) (SP X pins D) X.xe s
def AQ (X:Cx) (st:List Stmt) (t:TS):Prop :=
 ∀ (pins:List (Addr × Obj)) (s:Shared) (σ:St) (H:Hp) (D:Ends),Inv X pins σ H s→t D σ H→wpAny (model X.prog X.w) X.A (execs st X.env) (SP X pins D) X.xe s
theorem cM {α:Type} {t:Sem α} {Q Q':α→Shared→Prop} {M:Model} {A:Around} {E:Value→Shared→Prop} {s:Shared} (h:wpAny M A t Q E s) (hQ:∀ a s,Q a s→Q' a s):wpAny M A t Q' E s:=wpAny_mono h hQ fun _ _ x=>x
end L2
namespace L2
open PySem PySem.Spec PyProof.Rows
section
variable {X:Cx}
def pF (i:Nat):TE:=fun σ H Q=>∃ v,σ[i]?=some (some v)∧Q v H
def tC (v:V):TE:=fun _ H Q=>Q v H
theorem OG {i:Nat} {x:Str} {pos:Pos} (hN:X.N[i]?=some x) (hv:UN X.env.scope x) (hd:(x == ("__debug__":Str))=false:=by decide) (AR:(x == ("__classdict__":Str))=false:=by decide):PE X (.Name x pos) (pF i):=by
 intro pins s σ H Q I h
 obtain ⟨v,e,h⟩:=h
 obtain ⟨m,hn,hl⟩:=I.loc
 obtain ⟨u,r,l⟩:=hl i x v hN e hv
 have fin:EP X pins σ Q u s:=⟨v,H,I,r,h⟩
 rcases l with ⟨hk,hm⟩ | ⟨hk,c,hc,EM⟩
 ·exact wpAny_Name (wpAny_loadName_local I.ok.kind hk hn hm fin) hd
 ·rcases hk with hk | hk
  ·exact wpAny_Name (wpAny_loadName_cell I.ok.kind hk hc EM fin) hd
  ·exact wpAny_Name (wpAny_loadName_free I.ok.kind hk hc EM fin AR) hd
theorem aF {i j pos}:PE X (.Constant (.int i) j pos) (tC (.int i)):=fun _ _ _ H _ I h=>wpAny_Constant_int ⟨.int i,H,I.tok _,⟨_,rfl⟩,h⟩
theorem Aa {b j pos}:PE X (.Constant (.bool b) j pos) (tC (.bl b)):=fun _ _ _ H _ I h=>Constant_bool ⟨.bl b,H,I,rfl,h⟩
theorem fg {j pos}:PE X (.Constant .none j pos) (tC .bq):=fun _ _ _ H _ I h=>Constant_none ⟨.bq,H,I,rfl,h⟩
theorem cT {x j pos}:PE X (.Constant (.str x) j pos) (tC (.str x)):=fun _ _ _ H _ I h=>Calls.Constant_str ⟨.str x,H,I.tok _,⟨_,rfl⟩,h⟩
def Gl (X:Cx) (x:Str):Prop:=X.env.kindOf x=some .globalImplicit
theorem uW {E:Value→Shared→Prop} {pins:List (Addr × Obj)} {s:Shared} {σ:St} {H:Hp} {x:Str} {u:Value} {pos:Pos} {Q:Value→Shared→Prop} (I:Inv X pins σ H s) (hg:Gl X x) (hm:X.mg x=some u) (h:Q u s)
  (hd:(x == ("__debug__":Str))=false:=by decide):wpAny (model X.prog X.w) X.A (eval (.Name x pos) X.env) Q E s :=
 Calls.Name_function_global I.ok.kind hg (Calls.loadGlobal_global (by rw [I.ok.glob];exact I.mod.glob.keeps I.bk) hm h) hd
theorem kn {E:Value→Shared→Prop} {pins:List (Addr × Obj)} {s:Shared} {σ:St} {H:Hp} {x:Str} {u:Value} {pos:Pos} {Q:Value→Shared→Prop} (I:Inv X pins σ H s) (hg:Gl X x) (hm:X.mg x=none) (hv:bootBuiltins x=some u) (h:Q u s)
  (hn:x≠"__name__":=by decide) (hd:(x == ("__debug__":Str))=false:=by decide):wpAny (model X.prog X.w) X.A (eval (.Name x pos) X.env) Q E s:=by
 obtain ⟨mb,h1,h2⟩:=I.mod.blt
 exact Calls.Name_function_global I.ok.kind hg (Calls.loadGlobal_builtin (by rw [I.ok.glob];exact I.mod.glob.keeps I.bk) hm (by rw [I.ok.blt];exact h1.keeps I.bk) ((h2 x hn).trans hv) h) hd
theorem EN {x:Str} {v:V} {u:Value} {pos:Pos} (hg:Gl X x) (hm:X.mg x=some u) (r:RelV v u) (hd:(x == ("__debug__":Str))=false:=by decide):PE X (.Name x pos) (tC v) :=
 fun _ _ _ H _ I h=>uW I hg hm ⟨v,H,I,r,h⟩ hd
variable {a b:Expr} {ta tb:TE} {pos:Pos}
def tB (t:TE):TT:=fun σ H Q=>t σ H fun x H1=>∃ c,x=.bl c∧Q c H1
theorem rg {e:Expr} {t:TE} (h:PE X e t) (he:∀ whole,isTrue e X.env whole=(do let v ← whole;standAt e.pos;holding [v] (truthy v)):=by intro _;rfl):PT X e (tB t):=by
 intro pins s σ H Q I hw
 refine isTrue_plain (cM (h pins s σ H _ I hw) fun v s1 ⟨x,H1,I1,r1,q1⟩=>?_) (he _)
 obtain ⟨d,rfl,q⟩:=q1
 cases r1
 exact wpAny_truthy_bool ⟨H1,I1,q⟩
variable {tA Q7:TT} {rest:List Expr}
def Q8 (t u:TT):TT:=fun σ H Q=>t σ H fun c H1=>if c=true then u σ H1 Q else Q false H1
def Zg (t u:TT):TT:=fun σ H Q=>t σ H fun c H1=>if c=true then Q true H1 else u σ H1 Q
def VJ (t:TT):TT:=fun σ H Q=>t σ H fun c H1=>Q (!c) H1
theorem qV (ha:PT X a tA):PW X (.BoolOp .And [a] pos) tA:=by
 intro wh pins s σ H Q I h
 refine isTrue_and (cM (ha pins s σ H Q I h) fun c s1 e=>?_)
 cases c with
 | true=>exact isTrue_and_nil e
 | false=>exact e
theorem yv (ha:PT X a tA):PW X (.BoolOp .Or [a] pos) tA:=by
 intro wh pins s σ H Q I h
 refine isTrue_or (cM (ha pins s σ H Q I h) fun c s1 e=>?_)
 cases c with
 | false=>exact isTrue_or_nil e
 | true=>exact e
theorem uv (ha:PT X a tA) (hb:PW X (.BoolOp .And (b :: rest) pos) Q7):PW X (.BoolOp .And (a :: b :: rest) pos) (Q8 tA Q7):=by
 intro wh pins s σ H Q I h
 refine isTrue_and (cM (ha pins s σ H _ I h) fun c s1 ⟨H1,I1,q1⟩=>?_)
 cases c with
 | true=>exact hb wh pins s1 σ H1 Q I1 q1
 | false=>exact ⟨H1,I1,q1⟩
theorem Ab (ha:PT X a tA) (hb:PW X (.BoolOp .Or (b :: rest) pos) Q7):PW X (.BoolOp .Or (a :: b :: rest) pos) (Zg tA Q7):=by
 intro wh pins s σ H Q I h
 refine isTrue_or (cM (ha pins s σ H _ I h) fun c s1 ⟨H1,I1,q1⟩=>?_)
 cases c with
 | true=>exact ⟨H1,I1,q1⟩
 | false=>exact hb wh pins s1 σ H1 Q I1 q1
theorem pG (ha:PT X a tA):PT X (.UnaryOp .Not a pos) (VJ tA):=by
 intro pins s σ H Q I h
 exact isTrue_not (ha pins s σ H (fun c H1=>Q (!c) H1) I h)
def Q9 (ta tb:TE):TE:=fun σ H Q=>ta σ H fun x H1=>∃ c,x=.bl c∧if c=true then tb σ H1 Q else Q (.bl false) H1
theorem OH {op} {t:TE} (h:PE X a t):PE X (.BoolOp op [a] pos) t:=fun pins s σ H Q I hw=>BoolOp_one (h pins s σ H Q I hw)
theorem Hs (ha:PE X a ta) (hb:PE X (.BoolOp .And (b :: rest) pos) tb):PE X (.BoolOp .And (a :: b :: rest) pos) (Q9 ta tb):=by
 intro pins s σ H Q I h
 refine BoolOp_and (cM (ha pins s σ H _ I h) fun v s1 ⟨x,H1,I1,r1,q1⟩=>?_)
 obtain ⟨c,rfl,q1⟩:=q1
 cases r1
 refine wpAny_truthy_bool ?_
 cases c with
 | true=>exact hb pins s1 σ H1 Q I1 q1
 | false=>exact ⟨.bl false,H1,I1,rfl,q1⟩
def Zh (t:TT) (ta tb:TE):TE:=fun σ H Q=>t σ H fun c H1=>if c=true then ta σ H1 Q else tb σ H1 Q
theorem ml {c:Expr} (hc:PT X c tA) (ha:PE X a ta) (hb:PE X b tb):PE X (.IfExp c a b pos) (Zh tA ta tb):=by
 intro pins s σ H Q I h
 refine wpAny_IfExp (cM (hc pins s σ H _ I h) fun d s1 ⟨H1,I1,q1⟩=>?_)
 cases d with
 | true=>exact ha pins s1 σ H1 Q I1 q1
 | false=>exact hb pins s1 σ H1 Q I1 q1
end
end L2
namespace L2
open PySem PySem.Spec PyProof.Rows
def aY (K:PySem.W.Frag) (H:Hp) (a:Addr) (xs:List V):Prop :=
 Rd H a (.lst xs) ∨
  ∃ (o:Obj) (ae:Array Value) (n:Nat),K.lookup a=some o∧o.cls=.type "list"∧o.dict=none∧o.data=.seq ae n∧ae.size≤sizeLine∧aq xs ae.toList
def cP (K:PySem.W.Frag) (H:Hp) (a:Addr) (xs:List V):Prop :=
 Rd H a (.tup xs) ∨
  ∃ (o:Obj) (ae:Array Value) (n:Nat),K.lookup a=some o∧o.cls=.type "tuple"∧o.data=.seq ae n∧ae.size≤sizeLine∧aq xs ae.toList
def VL:Value→Option V
 | .none=>some .bq
 | .bool b=>some (.bl b)
 | .int i _=>some (.int i)
 | .str x _=>some (.str x)
 | .bytes b _=>some (.EJ b)
 | .float b _=>some (.QX b)
 | .ref a=>some (.ref a)
 | .type n=>some (.ty n)
 | _=>none
theorem RelV.abs {x:V} {u:Value} (r:RelV x u):VL u=some x:=by
 cases x with
 | bq=>cases r;rfl
 | bl _=>cases r;rfl
 | int _=>obtain ⟨t,rfl⟩:=r;rfl
 | str _=>obtain ⟨t,rfl⟩:=r;rfl
 | EJ _=>obtain ⟨t,rfl⟩:=r;rfl
 | QX _=>obtain ⟨t,rfl⟩:=r;rfl
 | ref _=>cases r;rfl
 | ty _=>cases r;rfl
theorem RelV.inj {x y:V} {u:Value} (r:RelV x u) (q:RelV y u):x=y:=Option.some.inj (r.abs.symm.trans q.abs)
theorem aq.inj:∀ {xs ys:List V} {us:List Value},aq xs us→aq ys us→xs=ys
 | _,_,_,.nil,.nil=>rfl
 | _,_,_,.cons r t,.cons r' t'=>by rw [r.inj r',aq.inj t t']
section
variable {X:Cx} {pins:List (Addr × Obj)} {σ:St} {H:Hp} {s:Shared} {a:Addr} {xs ys:List V}
theorem aY.of {K:PySem.W.Frag} (h:H a=some (.lst xs)):aY K H a xs:=.inl (.inl h)
theorem cP.of {K:PySem.W.Frag} (h:H a=some (.tup xs)):cP K H a xs:=.inl (.inl h)
theorem Inv.list (I:Inv X pins σ H s) (h:aY X.K H a xs):∃ ae:List Value,aq xs ae∧PlainL s.heap a ae.toArray∧xs.length≤sizeLine:=by
 rcases h with h | ⟨o,ae,n,hk,hc,hd,hs,hz,r⟩
 ·obtain ⟨z,ae,n,r,e⟩:=h.ok I.cn
  exact ⟨ae,r,⟨_,n,e,rfl,rfl,rfl⟩,z⟩
 ·refine ⟨ae.toList,r,⟨o,n,I.EK a o hk,hc,hd,by simpa using hs⟩,?_⟩
  have e:=r.length
  simp only [Array.length_toList] at e
  omega
theorem Inv.tuple (I:Inv X pins σ H s) (h:cP X.K H a xs):∃ ae:List Value,aq xs ae∧IsTup s.heap a ae.toArray∧xs.length≤sizeLine:=by
 rcases h with h | ⟨o,ae,n,hk,hc,hs,hz,r⟩
 ·obtain ⟨z,ae,r,p⟩:=h.ok I.cn
  exact ⟨ae,r,p,z⟩
 ·refine ⟨ae.toList,r,⟨o,I.EK a o hk,hc,n,by simpa using hs⟩,?_⟩
  have e:=r.length
  simp only [Array.length_toList] at e
  omega
theorem Inv.qW (I:Inv X pins σ H s) (h:aY X.K H a xs) (h':aY X.K H a ys):xs=ys:=by
 obtain ⟨ae,r,⟨o,n,e,_,_,d⟩,_⟩:=I.list h
 obtain ⟨its',r',⟨o',n',e',_,_,d'⟩,_⟩:=I.list h'
 rw [e] at e';cases e'
 rw [d] at d'
 injection d' with d1 _
 have:ae=its':=by simpa using congrArg Array.toList d1
 subst this
 exact r.inj r'
theorem Inv.yE (I:Inv X pins σ H s) (h:cP X.K H a xs) (h':cP X.K H a ys):xs=ys:=by
 obtain ⟨ae,r,⟨o,e,_,n,d⟩,_⟩:=I.tuple h
 obtain ⟨its',r',⟨o',e',_,n',d'⟩,_⟩:=I.tuple h'
 rw [e] at e';cases e'
 rw [d] at d'
 injection d' with d1 _
 have:ae=its':=by simpa using congrArg Array.toList d1
 subst this
 exact r.inj r'
end
abbrev Cx.rh (X:Cx) (E:Value→Shared→Prop):Cx:={ X with xe:=E }
abbrev Cx.uX (X:Cx):Cx:=X.rh fun _ _=>False
theorem Cx.Ok.rh {X:Cx} (ok:X.Ok) (E:Value→Shared→Prop):(X.rh E).Ok :=
 ⟨ok.mod,ok.kind,ok.glob,ok.blt,ok.above,ok.inj,ok.has,ok.OE,ok.hd,ok.frames,ok.Ka,ok.Q4,ok.bs,ok.Hn,ok.CI,ok.CJ,ok.rf,ok.NM⟩
theorem Cx.Ok.iS {X:Cx} {E:Value→Shared→Prop} (ok:(X.rh E).Ok):X.Ok :=
 ⟨ok.mod,ok.kind,ok.glob,ok.blt,ok.above,ok.inj,ok.has,ok.OE,ok.hd,ok.frames,ok.Ka,ok.Q4,ok.bs,ok.Hn,ok.CI,ok.CJ,ok.rf,ok.NM⟩
section
variable {X:Cx} {pins:List (Addr × Obj)} {σ:St} {H:Hp} {s:Shared} {E:Value→Shared→Prop}
theorem Inv.rh (I:Inv X pins σ H s) (E:Value→Shared→Prop):Inv (X.rh E) pins σ H s:=⟨I.ok.rh E,I.os,I.bare,I.base,I.loc,I.cell,I.free,I.mS,I.pin,I.cn,I.len⟩
theorem Inv.iS (I:Inv (X.rh E) pins σ H s):Inv X pins σ H s:=⟨I.ok.iS,I.os,I.bare,I.base,I.loc,I.cell,I.free,I.mS,I.pin,I.cn,I.len⟩
theorem SP.iS {D:Ends} {f:Flow} {s':Shared} (h:SP (X.rh E) pins D f s'):SP X pins D f s':=by
 cases f with
 | next=>obtain ⟨σ',H',I,q⟩:=h;exact ⟨σ',H',I.iS,q⟩
 | brk=>obtain ⟨σ',H',I,q⟩:=h;exact ⟨σ',H',I.iS,q⟩
 | cont=>obtain ⟨σ',H',I,q⟩:=h;exact ⟨σ',H',I.iS,q⟩
 | ret u=>obtain ⟨v,σ',H',I,r,q⟩:=h;exact ⟨v,σ',H',I.iS,r,q⟩
theorem PE.uX {e:Expr} {t:TE} (h:PE X.uX e t):PE X e t:=fun pins s σ H Q I hw =>
 wpAny_mono (h pins s σ H Q (I.rh _) hw) (fun _ _ ⟨v,H',I',r,q⟩=>⟨v,H',I'.iS,r,q⟩) fun _ _ z=>False.elim z
theorem PT.uX {e:Expr} {t:TT} (h:PT X.uX e t):PT X e t:=fun pins s σ H Q I hw =>
 wpAny_mono (h pins s σ H Q (I.rh _) hw) (fun _ _ ⟨H',I',q⟩=>⟨H',I'.iS,q⟩) fun _ _ z=>False.elim z
theorem AQ.uX {st:List Stmt} {t:TS} (h:AQ X.uX st t):AQ X st t:=fun pins s σ H D I hw =>
 wpAny_mono (h pins s σ H D (I.rh _) hw) (fun _ _ q=>q.iS) fun _ _ z=>False.elim z
end
section
variable {X:Cx} {st:Stmt} {rest:List Stmt} {t u:TS} {e:Expr} {te:TE} {pos:Pos}
def NP:TS:=fun D σ H=>D.nx σ H
def CL (t u:TS):TS:=fun D σ H=>t { D with nx:=u D } σ H
theorem bD:AQ X [] NP:=fun _ _ σ H _ I h=>wpAny_execs_nil ⟨σ,H,I,h⟩
theorem aD (h1:PS X st t) (h2:AQ X rest u):AQ X (st :: rest) (CL t u):=by
 intro pins s σ H D I h
 refine wpAny_execs_cons (cM (h1 pins s σ H { D with nx:=u D } I h) fun f s1 q=>?_)
 cases f with
 | next =>
  obtain ⟨σ',H',I',q⟩:=q
  exact h2 pins s1 σ' H' D I' q
 | ret v=>exact q
 | brk=>exact q
 | cont=>exact q
theorem aH (h1:PS X st t):AQ X [st] t:=by
 intro pins s σ H D I h
 refine wpAny_execs_cons (cM (h1 pins s σ H D I h) fun f s1 q=>?_)
 cases f with
 | next=>exact wpAny_execs_nil q
 | ret v=>exact q
 | brk=>exact q
 | cont=>exact q
theorem Inv.quiet {pins:List (Addr × Obj)} {σ:St} {H:Hp} {s:Shared} (I:Inv X pins σ H s):interactive X.env=false:=by simp [interactive,I.ok.kind]
def Ht (te:TE):TS:=fun D σ H=>te σ H fun _ H1=>D.nx σ H1
theorem ay (he:PE X e te) (hs:swapsWith e none pos.line X.env=pure false:=by rfl):PS X (.Expr e pos) (Ht te):=by
 intro pins s σ H D I h
 exact wpAny_Expr_any (cM (he pins s σ H _ I h) fun v s1 ⟨x,H1,I1,r1,q1⟩=>⟨σ,H1,I1,q1⟩) I.quiet hs
def RA (te:TE):TS:=fun D σ H=>te σ H D.rt
theorem ar (he:PE X e te):PS X (.Return (some e) pos) (RA te):=by
 intro pins s σ H D I h
 exact wpAny_Return_some (cM (he pins s σ H _ I h) fun v s1 ⟨x,H1,I1,r1,q1⟩=>⟨x,σ,H1,I1,r1,q1⟩)
def RB:TS:=fun D _ H=>D.rt .bq H
theorem Ky:PS X (.Return none pos) RB:=fun _ _ σ H _ I h=>wpAny_Return_none ⟨.bq,σ,H,I,rfl,h⟩
def RC (c:TT) (t u:TS):TS:=fun D σ H=>c σ H fun b H1=>if b=true then t D σ H1 else u D σ H1
theorem bu {c:Expr} {a b:List Stmt} {tc:TT} (hc:PT X c tc) (ha:AQ X a t) (hb:AQ X b u):PS X (.If c a b pos) (RC tc t u):=by
 intro pins s σ H D I h
 refine wpAny_If (cM (hc pins s σ H _ I h) fun d s1 ⟨H1,I1,q1⟩=>?_)
 cases d with
 | true=>exact ha pins s1 σ H1 D I1 q1
 | false=>exact hb pins s1 σ H1 D I1 q1
end
abbrev TG:=V→St→Hp→(St→Hp→Prop)→Prop
abbrev OI:=List V→St→Hp→(St→Hp→Prop)→Prop
def PG (X:Cx) (target:Expr) (t:TG):Prop :=
 ∀ (pins:List (Addr × Obj)) (s:Shared) (σ:St) (H:Hp) (v:V) (u:Value) (Q:St→Hp→Prop),Inv X pins σ H s→RelV v u→t v σ H Q →
  wpAny (model X.prog X.w) X.A (assign target X.env u) (fun _ s'=>∃ σ' H',Inv X pins σ' H' s'∧Q σ' H') X.xe s
def UR (X:Cx) (ts:List Expr) (t:OI):Prop :=
 ∀ (pins:List (Addr × Obj)) (s:Shared) (σ:St) (H:Hp) (vs:List V) (us:List Value) (Q:St→Hp→Prop),Inv X pins σ H s→aq vs us→t vs σ H Q →
  wpAny (model X.prog X.w) X.A (assignInOrder ((assignEach ts X.env).map (·.2)) us) (fun _ s'=>∃ σ' H',Inv X pins σ' H' s'∧Q σ' H') X.xe s
abbrev OJ:=V→V→V→Hp→(Hp→Prop)→Prop
def RD (X:Cx) (t:OJ):Prop :=
 ∀ (pins:List (Addr × Obj)) (s:Shared) (σ:St) (H:Hp) (o i v:V) (ov iv u:Value) (Q:Hp→Prop),Inv X pins σ H s→RelV o ov→RelV i iv→RelV v u→t o i v H Q →
  wpAny (model X.prog X.w) X.A (setItem ov iv u) (fun _ s'=>∃ H',Inv X pins σ H' s'∧Q H') X.xe s
abbrev Xj:=V→V→Hp→VK→Prop
def Zi (X:Cx) (op:Operator) (t:Xj):Prop :=
 ∀ (pins:List (Addr × Obj)) (s:Shared) (σ:St) (H:Hp) (x y:V) (v u:Value) (Q:VK),Inv X pins σ H s→RelV x v→RelV y u→t x y H Q →
  wpAny (model X.prog X.w) X.A (inplaceOp op v u) (EP X pins σ Q) X.xe s
section
variable {X:Cx} {pos:Pos}
def iC (i:Nat):TG:=fun v σ H Q=>Q (σ.set i (some v)) H
theorem az {i:Nat} {x:Str} (hN:X.N.Nodup) (hi:X.N[i]?=some x) (hx:Loc X.env.scope x) (hf:X.fn x=true∨X.env.scope.names.lookup x=some .local:=by first | exact .inl rfl | exact .inr rfl | assumption):PG X (.Name x pos) (iC i):=by
 intro pins s σ H v u Q I r h
 exact wpAny_assign_Name (AZ I hN hi hx r (fun s' I'=>⟨_,H,I',h⟩) hf)
def Hu:OI:=fun vs σ H Q=>vs=[]∧Q σ H
def qX (t:TG) (u:OI):OI:=fun vs σ H Q=>∃ v r,vs=v :: r∧t v σ H fun σ' H'=>u r σ' H' Q
theorem EO:UR X [] Hu:=by
 intro pins s σ H vs us Q I r h
 obtain ⟨e,h⟩:=h
 subst e
 cases r
 exact assignInOrder_nil ⟨σ,H,I,h⟩
theorem qY {e:Expr} {es:List Expr} {t:TG} {u:OI} (h1:PG X e t) (h2:UR X es u)
  (hs:(assignEach (e :: es) X.env).map (·.2)=assign e X.env :: (assignEach es X.env).map (·.2):=by rfl):UR X (e :: es) (qX t u):=by
 intro pins s σ H vs us Q I r h
 obtain ⟨v,vr,e1,h⟩:=h
 subst e1
 cases r with
 | cons r rr =>
  rw [hs]
  refine assignInOrder_cons (cM (h1 pins s σ H _ _ _ I r h) fun _ s1 ⟨σ1,H1,I1,q1⟩=>?_)
  exact h2 pins s1 σ1 H1 _ _ Q I1 rr q1
def Hv (K:PySem.W.Frag) (n:Nat) (t:OI):TG:=fun v σ H Q=>∃ a xs,v=.ref a∧cP K H a xs∧xs.length=n∧t xs σ H Q
theorem Hw {es:List Expr} {k:Nat} {t:OI} {n:Nat} (hc:X.calm=true) (h:UR X es t)
  (hn:(assignEach es X.env).length=n:=by rfl) (CM:(assignEach es X.env).findIdx? (·.1)=none:=by rfl):PG X (.Tuple es k pos) (Hv X.K n t):=by
 intro pins s σ H v u Q I r hw
 obtain ⟨a,xs,e1,hq,hl,hw⟩:=hw
 subst e1
 cases r
 obtain ⟨ae,rv,ht,hz⟩:=I.tuple hq
 refine assign_Tuple_tuple (I.ok.hd hc) ht (by simp [hn,← hl,rv.length]) CM fun h' hx=>?_
 have I1:Inv X pins σ H { s with heap:=h' }:=I.kept (t':=s.toks) fun b o e=>hx b o (Nat.ne_of_lt (Heap.lt_size e)) e
 exact h pins _ σ H xs _ Q I1 (by simpa using rv) hw
def VM (to ti:TE) (t:OJ):TG:=fun v σ H Q=>to σ H fun o H1=>ti σ H1 fun i H2=>t o i v H2 fun H3=>Q σ H3
theorem rk {o i:Expr} {to ti:TE} {t:OJ} (ho:PE X o to) (hi:PE X i ti) (hs:RD X t)
  (ha:∀ v,assign (.Subscript o i pos) X.env v=(do
   let ov ← holding [v] (eval o X.env)
   let iv ← holding [v,ov] (eval i X.env)
   standAt pos
   holding [v,ov,iv] (setItem ov iv v)
   release [v,ov,iv] []):=by intro _;rfl):PG X (.Subscript o i pos) (VM to ti t):=by
 intro pins s σ H v u Q I r h
 rw [ha]
 refine wpAny_bind (wpAny_holding (cM (ho pins s σ H _ I h) fun ov s1 ⟨x,H1,I1,r1,q1⟩=>?_))
 refine wpAny_bind (wpAny_holding (cM (hi pins s1 σ H1 _ I1 q1) fun iv s2 ⟨y,H2,I2,r2,q2⟩=>?_))
 refine wpAny_bind (wpAny_standAt (wpAny_bind (wpAny_holding (cM (hs pins s2 σ H2 x y v ov iv u _ I2 r1 r2 r q2) fun _ s3 ⟨H3,I3,q3⟩=>?_))))
 exact wpAny_release ⟨σ,H3,I3,q3⟩
def Kz (te:TE) (g:TG):TS:=fun D σ H=>te σ H fun x H1=>g x σ H1 D.nx
theorem pH {tg e:Expr} {te:TE} {g:TG} (he:PE X e te) (hg:PG X tg g) (hs:swapsWithSole [tg] e pos.line X.env=pure false:=by rfl) (hw:swappedStores [tg] e X.env=pure none:=by rfl)
  (h1:(assignEach [tg] X.env).map (·.2)=[assign tg X.env]:=by rfl):PS X (.Assign [tg] e pos) (Kz te g):=by
 intro pins s σ H D I h
 refine wpAny_Assign_stores (cM (he pins s σ H _ I h) fun v s1 ⟨x,H1,I1,r1,q1⟩=>?_) hs hw
 rw [h1]
 exact cM (hg pins s1 σ H1 x v _ I1 r1 q1) fun _ s2 q=>q
theorem aZ {i:Nat} {x:Str} {e:Expr} {te:TE} {pos':Pos} (hN:X.N.Nodup) (hi:X.N[i]?=some x) (hx:Loc X.env.scope x) (he:PE X e te) (hs:swapsWith e (some (.Name x pos')) pos.line X.env=pure false:=by rfl) (hf:X.fn x=true∨X.env.scope.names.lookup x=some .local:=by first | exact .inl rfl | exact .inr rfl | assumption) :
  PS X (.Assign [.Name x pos'] e pos) (Kz te (iC i)):=by
 intro pins s σ H D I h
 refine wpAny_Assign_Name (cM (he pins s σ H _ I h) fun v s1 ⟨y,H1,I1,r1,q1⟩=>?_) hs
 exact AZ I1 hN hi hx r1 (fun s2 I2=>⟨_,H1,I2,q1⟩) hf
def Xk (f:Int→Int→Int):Xj:=fun x y H Q=>∃ i j,x=.int i∧y=.int j∧Q (.int (f i j)) H
theorem Hx:Zi X .Add (Xk fun i j=>i+j):=by
 intro pins s σ H x y v u Q I r1 r2 h
 obtain ⟨i,j,e1,e2,q⟩:=h
 subst e1;subst e2
 obtain ⟨t,rfl⟩:=r1
 obtain ⟨t',rfl⟩:=r2
 exact iadd_int ⟨.int _,H,I.tok _,⟨_,rfl⟩,q⟩
end
section
variable {X:Cx} {pos:Pos}
def Hy (c:TT) (tb:TS):TS:=fun D σ H=>∃ W:Nat→St→Hp→Prop,(∃ m,W m σ H)∧∀ m σ H,W m σ H →
 c σ H fun b H1=>if b=true then ∃ N:St→Hp→Prop,(∀ σ' H',N σ' H'→∃ m',m' < m∧W m' σ' H')∧tb { D with nx:=N,ct:=N,bk:=D.nx } σ H1 else D.nx σ H1
theorem Ac {c:Expr} {body:List Stmt} {tc:TT} {tb:TS} (hp:PassesOwn (model X.prog X.w) X.A X.env X.xe) (hc:PT X c tc) (hb:AQ X body tb):PS X (.While c body [] pos) (Hy tc tb):=by
 intro pins s σ H D I h
 obtain ⟨W,⟨m0,w0⟩,turn⟩:=h
 refine wpAny_While (codeAny_whileLoop (fun n s'=>∃ σ' H',Inv X pins σ' H' s'∧W n σ' H') ?_ m0 ⟨σ,H,I,w0⟩)
 rintro n s1 ⟨σ1,H1,I1,w1⟩
 refine wpAny_passesOwn hp (cM (hc pins s1 σ1 H1 _ I1 (turn n σ1 H1 w1)) fun b s2 ⟨H2,I2,q2⟩=>?_)
 cases b with
 | true =>
  obtain ⟨N,hN,q2⟩:=q2
  rw [if_pos rfl]
  refine wpAny_passesOwn hp (cM (hb pins s2 σ1 H2 _ I2 q2) fun f s3 q3=>?_)
  cases f with
  | next =>
   obtain ⟨σ3,H3,I3,n3⟩:=q3
   obtain ⟨m',hm,w3⟩:=hN σ3 H3 n3
   exact ⟨m',hm,σ3,H3,I3,w3⟩
  | cont =>
   obtain ⟨σ3,H3,I3,n3⟩:=q3
   obtain ⟨m',hm,w3⟩:=hN σ3 H3 n3
   exact ⟨m',hm,σ3,H3,I3,w3⟩
  | brk=>exact q3
  | ret v=>exact q3
 | false =>
  rw [if_neg Bool.false_ne_true]
  exact wpAny_execs_nil ⟨σ1,H2,I2,q2⟩
end
structure It where
 go:Nat→Hp→Prop
 K0:Nat→Hp→V→Hp→Prop
 stop:Nat→Hp→Prop
def rm (X:Cx) (pins:List (Addr × Obj)) (H:Hp) (b:Addr):Prop :=
 H b=none∧b≠X.env.locals∧b ∉ X.fs∧(b ∈ X.ex∨X.s₀.heap.objs.size≤b)∧(∀ x c,X.env.cells.lookup x=some c→c≠b)∧∀ p ∈ X.pn ++ pins,p.1≠b
theorem Inv.Ae {X:Cx} {pins:List (Addr × Obj)} {σ:St} {H H':Hp} {s:Shared} {b:Addr} (I:Inv X pins σ H s) (hb:s.heap.objs.size≤b) (hn:H' b=none):rm X pins H' b:=by
 refine ⟨hn,Nat.ne_of_gt (Nat.lt_of_lt_of_le I.lt hb),I.VE hb,.inr (Nat.le_trans I.sz hb),fun x c e z=>?_,fun p hp z=>?_⟩
 ·obtain ⟨v,q⟩:=I.cell x c e
  exact absurd (Nat.lt_of_lt_of_le q.lt (by rw [z];exact hb)) (Nat.lt_irrefl _)
 ·exact absurd (Nat.lt_of_lt_of_le (Heap.lt_size (I.pin p hp).1) (by rw [z];exact hb)) (Nat.lt_irrefl _)
structure Turn (P:Program) (w:World) (K:PySem.W.Frag) (tg:Expr) (J:It) (fp:List Addr) (it:Addr) (tn:Nat→Heap→Prop):Prop where
 mem:it ∈ fp
 obj:∀ i h,tn i h→∀ b ∈ fp,∃ o,h.get? b=some o∧∀ v,o.data≠.cell v
 keep:∀ i h h',tn i h→(∀ b ∈ fp,∀ o,h.get? b=some o→h'.get? b=some o)→tn i h'
 item:∀ (X:Cx),X.prog=P→X.w=w→X.K=K→X.calm=true→∀ (i:Nat) (pins:List (Addr × Obj)) (s:Shared) (σ:St) (H:Hp) (E:Value→Shared→Prop),Inv X pins σ H s→(∀ b ∈ fp,rm X pins H b)→tn i s.heap→J.go i H →
  wpAny (model P w) X.A (pyNext (.ref it)) (fun r s1=>∃ u,r=some u ∧
   wpAny (model P w) X.A (letOwnedTupleGo tg (.ref it) u) (fun _ s2=>∃ x H',Inv X pins σ H' s2∧RelV x u∧J.K0 i H x H'∧tn (i+1) s2.heap∧∀ b ∈ fp,H' b=none) E s1) E s
 done:∀ (X:Cx),X.prog=P→X.w=w→X.K=K→X.calm=true→∀ (i:Nat) (pins:List (Addr × Obj)) (s:Shared) (σ:St) (H:Hp) (E:Value→Shared→Prop),Inv X pins σ H s→(∀ b ∈ fp,rm X pins H b)→tn i s.heap→J.stop i H →
  wpAny (model P w) X.A (pyNext (.ref it)) (fun r s1=>r=none∧Inv X pins σ H s1) E s
 self:∀ (A:Around) (i:Nat) (s:Shared) (Q:Value→Shared→Prop) (E:Value→Shared→Prop),tn i s.heap→Q (.ref it) s→wpAny (model P w) A (pyIter (.ref it)) Q E s
abbrev TI:=St→Hp→(It→Hp→Prop)→Prop
def Xl (X:Cx) (pins:List (Addr × Obj)) (σ:St) (tg:Expr) (R:It→Hp→Prop) (US:Value) (s2:Shared):Prop :=
 ∃ (it:Addr) (fp:List Addr) (tn:Nat→Heap→Prop) (J:It) (H':Hp),US=.ref it∧Inv X pins σ H' s2∧Turn X.prog X.w X.K tg J fp it tn∧tn 0 s2.heap∧(∀ b ∈ fp,rm X pins H' b)∧R J H'
def PI (X:Cx) (tg iter:Expr) (wi:TI):Prop :=
 ∀ (pins:List (Addr × Obj)) (s:Shared) (σ:St) (H:Hp) (R:It→Hp→Prop),Inv X pins σ H s→wi σ H R →
  wpAny (model X.prog X.w) X.A (eval iter X.env) (fun v s1=>wpAny (model X.prog X.w) X.A (pyIter v) (Xl X pins σ tg R) X.xe s1) X.xe s
theorem ER {M:Model} {A:Around} {E:Value→Shared→Prop} {s:Shared} {tg:Expr} {it:Addr} {u:Value} {o:Obj} {n:String} {vs:Array Value} {Q:Unit→Shared→Prop} (ho:s.heap.get? it=some o) (hc:o.cls=.type n) (hd:o.data=.fields vs)
  (hn:["enumerate","zip","dict_itemiterator","dict_reverseitemiterator","odict_iterator","itertools.zip_longest","itertools.pairwise"].contains n=false) (hQ:Q () s):wpAny M A (letOwnedTupleGo tg (.ref it) u) Q E s:=by
 unfold letOwnedTupleGo
 cases tg <;> first
  | exact wpAny_pure hQ
  | (cases u <;> first
    | exact wpAny_pure hQ
    | (refine wpAny_bind (wpAny_load ho ?_)
       rw [hc,hd]
       show wpAny M A (if (["enumerate","zip","dict_itemiterator","dict_reverseitemiterator","odict_iterator","itertools.zip_longest","itertools.pairwise"].contains n && vs[0]? == some (rawInt _))=true then _ else _) Q E s
       rw [if_neg (by intro h;rw [hn,Bool.false_and] at h;cases h)]
       exact wpAny_pure hQ))
def OK (K:PySem.W.Frag) (a:Addr):It :=
 ⟨fun i H=>∃ xs x,aY K H a xs∧xs[i]?=some x,fun i H x H'=>H'=H∧∀ xs,aY K H a xs→xs[i]?=some x,fun i H=>∃ xs,aY K H a xs∧xs.length≤i⟩
def RE (K:PySem.W.Frag) (a:Addr):It :=
 ⟨fun i H=>∃ xs x,cP K H a xs∧xs[i]?=some x,fun i H x H'=>H'=H∧∀ xs,cP K H a xs→xs[i]?=some x,fun i H=>∃ xs,cP K H a xs∧xs.length≤i⟩
def K1 (lo:Int) (n:Nat):It:=⟨fun i _=>i < n,fun i H x H'=>H'=H∧x=.int (lo+i),fun i _=>n≤i⟩
theorem Fq {P:Program} {w:World} {K:PySem.W.Frag} {tg:Expr} (a it:Addr):Turn P w K tg (OK K a) [it] it (fun i h=>h.IsListIter it a i) where
 mem:=by simp
 obj:=fun i h st b hb=>by
  have e:b=it:=by simpa using hb
  subst e
  obtain ⟨o,e,c,d⟩:=st
  exact ⟨o,e,fun v z=>by rw [d] at z;cases z⟩
 keep:=fun i h h' st k=>st.at fun o e=>k it (by simp) o e
 item:=by
  intro X hP hw hK hc i pins s σ H E I hf st hg
  subst hP hw hK
  obtain ⟨xs,x,hq,hx⟩:=hg
  obtain ⟨ae,rv,p,hz⟩:=I.list hq
  obtain ⟨u,hu,ru⟩:=rv.get hx
  obtain ⟨f0,f1,f2,f3,f4,f5⟩:=hf it (by simp)
  refine wpAny_pyNext_list_item st p.isList (x:=u) (by simpa using hu) fun h' uJ sb=>?_
  have I1:Inv X pins σ H { s with heap:=h' }:=I.turned (t':=s.toks) (fun b o hb e=>(sb.2 b hb).trans e) f0 f1 f3 f4 f5
  obtain ⟨o,e,c,d⟩:=id uJ
  exact ⟨u,rfl,ER (s:={ s with heap:=h' }) e c d (by decide) ⟨x,H,I1,ru,⟨rfl,fun ys hy=>by rw [I.qW hy hq];exact hx⟩,uJ,fun b hb=>(hf b hb).1⟩⟩
 done:=by
  intro X hP hw hK hc i pins s σ H E I hf st hg
  subst hP hw hK
  obtain ⟨xs,hq,hx⟩:=hg
  obtain ⟨ae,rv,p,hz⟩:=I.list hq
  obtain ⟨f0,f1,f2,f3,f4,f5⟩:=hf it (by simp)
  have hl:=rv.length
  exact wpAny_pyNext_list_end (I.ok.hd hc) st p.isList (by simp;omega) fun h' eb=>⟨rfl,I.turned (t':=s.toks) (fun b o hb e=>eb b o hb e) f0 f1 f3 f4 f5⟩
 self:=fun _ _ _ _ _ st h=>wpAny_pyIter_listiter st h
theorem CN {P:Program} {w:World} {K:PySem.W.Frag} {tg:Expr} (a it:Addr):Turn P w K tg (RE K a) [it] it (fun i h=>h.IsTupleIter it a i) where
 mem:=by simp
 obj:=fun i h st b hb=>by
  have e:b=it:=by simpa using hb
  subst e
  obtain ⟨o,e,c,d⟩:=st
  exact ⟨o,e,fun v z=>by rw [d] at z;cases z⟩
 keep:=fun i h h' st k=>st.at fun o e=>k it (by simp) o e
 item:=by
  intro X hP hw hK hc i pins s σ H E I hf st hg
  subst hP hw hK
  obtain ⟨xs,x,hq,hx⟩:=hg
  obtain ⟨ae,rv,p,hz⟩:=I.tuple hq
  obtain ⟨u,hu,ru⟩:=rv.get hx
  obtain ⟨f0,f1,f2,f3,f4,f5⟩:=hf it (by simp)
  refine wpAny_pyNext_tuple_item st (show s.heap.IsTuple a ae.toArray from p) (x:=u) (by simpa using hu) fun h' uJ sb=>?_
  have I1:Inv X pins σ H { s with heap:=h' }:=I.turned (t':=s.toks) (fun b o hb e=>(sb.2 b hb).trans e) f0 f1 f3 f4 f5
  obtain ⟨o,e,c,d⟩:=id uJ
  exact ⟨u,rfl,ER (s:={ s with heap:=h' }) e c d (by decide) ⟨x,H,I1,ru,⟨rfl,fun ys hy=>by rw [I.yE hy hq];exact hx⟩,uJ,fun b hb=>(hf b hb).1⟩⟩
 done:=by
  intro X hP hw hK hc i pins s σ H E I hf st hg
  subst hP hw hK
  obtain ⟨xs,hq,hx⟩:=hg
  obtain ⟨ae,rv,p,hz⟩:=I.tuple hq
  obtain ⟨f0,f1,f2,f3,f4,f5⟩:=hf it (by simp)
  have hl:=rv.length
  exact wpAny_pyNext_tuple_end (I.ok.hd hc) st (show s.heap.IsTuple a ae.toArray from p) (by simp;omega) fun h' eb=>⟨rfl,I.turned (t':=s.toks) (fun b o hb e=>eb b o hb e) f0 f1 f3 f4 f5⟩
 self:=fun _ _ _ _ _ st h=>wpAny_pyIter_tupleiter st h
theorem CO {P:Program} {w:World} {K:PySem.W.Frag} {tg:Expr} (it:Addr) (lo:Int) (n:Nat):Turn P w K tg (K1 lo n) [it] it (fun i h=>IsRangeIter h it (lo+(i:Nat) * 1) ((n:Int) - (i:Nat)) 1) where
 mem:=by simp
 obj:=fun i h st b hb=>by
  have e:b=it:=by simpa using hb
  subst e
  exact ⟨_,st,fun v z=>by
   have z':Data.fields _=Data.cell v:=z
   cases z'⟩
 keep:=fun i h h' st k=>k it (by simp) _ st
 item:=by
  intro X hP hw hK hc i pins s σ H E I hf st hg
  subst hP hw hK
  obtain ⟨f0,f1,f2,f3,f4,f5⟩:=hf it (by simp)
  have W:=Walks.range (prog:=X.prog) (w:=X.w) (I.ok.hd hc) it lo 1 n
  refine W.item i s _ _ hg st fun v h' tk hv uJ kk=>?_
  obtain ⟨t,rfl⟩:=hv
  have I1:Inv X pins σ H { s with heap:=h',toks:=tk }:=I.turned (fun b o hb e=>kk b o (by simpa using hb) e) f0 f1 f3 f4 f5
  refine ⟨_,rfl,ER (s:={ s with heap:=h',toks:=tk }) (n:="range_iterator") uJ rfl rfl (by decide) ⟨.int (lo+i),H,I1,⟨t,?_⟩,⟨rfl,rfl⟩,uJ,fun b hb=>(hf b hb).1⟩⟩
  rw [Int.mul_one]
 done:=by
  intro X hP hw hK hc i pins s σ H E I hf st hg
  subst hP hw hK
  obtain ⟨f0,f1,f2,f3,f4,f5⟩:=hf it (by simp)
  exact wpAny_pyNext_range_end (I.ok.hd hc) st (by have:n≤i:=hg;omega) fun h' eb=>⟨rfl,I.turned (t':=s.toks) (fun b o hb e=>eb b o hb e) f0 f1 f3 f4 f5⟩
 self:=fun _ _ _ _ _ st h=>wpAny_pyIter_rangeiter st h
end L2
namespace L2
open PySem PySem.Spec PyProof.Rows
section
variable {X:Cx} {tg:Expr}
def NQ (K:PySem.W.Frag) (tl:TE):TI:=fun σ H R=>tl σ H fun x H1=>∃ a,x=.ref a∧(∃ xs,aY K H1 a xs)∧R (OK K a) H1
def RF (K:PySem.W.Frag) (tl:TE):TI:=fun σ H R=>tl σ H fun x H1=>∃ a,x=.ref a∧(∃ xs,cP K H1 a xs)∧R (RE K a) H1
theorem ES {l:Expr} {tl:TE} (hl:PE X l tl):PI X tg l (NQ X.K tl):=by
 intro pins s σ H R I h
 refine cM (hl pins s σ H _ I h) fun v s1 ⟨x,H1,I1,r1,q1⟩=>?_
 obtain ⟨a,e,⟨xs,hq⟩,q⟩:=q1
 subst e
 cases r1
 obtain ⟨ae,rv,p,hz⟩:=I1.list hq
 refine wpAny_pyIter_list p.isList ?_
 refine ⟨s1.heap.objs.size,[s1.heap.objs.size],_,_,H1,rfl,I1.kept (t':=s1.toks) fun b o e=>Heap.get?_push_of_some _ e,Fq a _,⟨_,Heap.get?_push_size _ rfl,rfl,rfl⟩,fun b hb=>?_,q⟩
 have e:b=s1.heap.objs.size:=by simpa using hb
 subst e
 exact I1.Ae (Nat.le_refl _) (I1.cn.fresh (Nat.le_refl _))
theorem OL {l:Expr} {tl:TE} (hl:PE X l tl):PI X tg l (RF X.K tl):=by
 intro pins s σ H R I h
 refine cM (hl pins s σ H _ I h) fun v s1 ⟨x,H1,I1,r1,q1⟩=>?_
 obtain ⟨a,e,⟨xs,hq⟩,q⟩:=q1
 subst e
 cases r1
 obtain ⟨ae,rv,p,hz⟩:=I1.tuple hq
 refine wpAny_pyIter_tuple (show s1.heap.IsTuple a ae.toArray from p) ?_
 refine ⟨s1.heap.objs.size,[s1.heap.objs.size],_,_,H1,rfl,I1.kept (t':=s1.toks) fun b o e=>Heap.get?_push_of_some _ e,CN a _,⟨_,Heap.get?_push_size _ rfl,rfl,rfl⟩,fun b hb=>?_,q⟩
 have e:b=s1.heap.objs.size:=by simpa using hb
 subst e
 exact I1.Ae (Nat.le_refl _) (I1.cn.fresh (Nat.le_refl _))
theorem Af {pins:List (Addr × Obj)} {σ:St} {H:Hp} {s:Shared} {R:It→Hp→Prop} {E:Value→Shared→Prop} {lo hi:Int} {t u v:Tok} {tk:Nat} (I:Inv X pins σ H s) (h1:-(2 ^ 62)≤lo) (h2:lo < 2 ^ 62) (h3:-(2 ^ 62)≤hi) (h4:hi < 2 ^ 62)
  (q:R (K1 lo (hi - lo).toNat) H):wpAny (model X.prog X.w) X.A (pyIter (.ref s.heap.objs.size)) (Xl X pins σ tg R) E { s with heap:=s.heap.push { cls:=.type "range",data:=.fields #[.int lo t,.int hi u,.int 1 v] },toks:=tk }:=by
 refine wpAny_pyIter_range (IsRange.new ..) (small_one h1 h2 h3 h4) ?_
 have I1:Inv X pins σ H { s with heap:=s.heap.push { cls:=.type "range",data:=.fields #[.int lo t,.int hi u,.int 1 v] },toks:=tk }:=I.kept fun b o e=>Heap.get?_push_of_some _ e
 refine ⟨(s.heap.push { cls:=.type "range",data:=.fields #[.int lo t,.int hi u,.int 1 v] }).objs.size,[(s.heap.push { cls:=.type "range",data:=.fields #[.int lo t,.int hi u,.int 1 v] }).objs.size],_,_,H,rfl,
  I1.kept (t':=tk) fun b o e=>Heap.get?_push_of_some _ e,CO _ lo (hi - lo).toNat,?_,fun b hb=>?_,q⟩
 ·have e1:lo+((0:Nat):Int) * 1=lo:=by simp
  have e2:(((hi - lo).toNat:Nat):Int) - ((0:Nat):Int)=Builtin.Range.rangeSize lo hi 1:=by rw [rangeSize_one];split <;> omega
  show IsRangeIter _ _ (lo+((0:Nat):Int) * 1) ((((hi - lo).toNat:Nat):Int) - ((0:Nat):Int)) 1
  rw [e1,e2]
  exact Heap.get?_push_size _ rfl
 ·have e:b=(s.heap.push { cls:=.type "range",data:=.fields #[.int lo t,.int hi u,.int 1 v] }).objs.size:=by simpa using hb
  subst e
  exact I1.Ae (Nat.le_refl _) (I1.cn.fresh (Nat.le_refl _))
def RG (ta:TA):TI:=fun σ H R=>ta σ H fun vs H1=>∃ j:Int,vs=[.int j]∧-(2 ^ 62)≤j∧j < 2 ^ 62∧R (K1 0 j.toNat) H1
def RH (ta:TA):TI:=fun σ H R=>ta σ H fun vs H1=>∃ i j:Int,vs=[.int i,.int j]∧(-(2 ^ 62)≤i∧i < 2 ^ 62∧-(2 ^ 62)≤j∧j < 2 ^ 62)∧R (K1 i (j - i).toNat) H1
theorem cU {a:Expr} {ta:TA} {p pos:Pos} (hg:Gl X "range") (hm:X.mg "range"=none) (ha:PA X [a] ta) (hs:starEach [a] X.env=[(false,eval a X.env)]:=by rfl):PI X tg (.Call (.Name "range" p) [a] [] pos) (RG ta):=by
 intro pins s σ H R I h
 refine Call_ (kn I hg hm boot_range (PyProof.Rows.callWith_type1 (cM (ha pos pins s σ H _ I h) fun us s1 ⟨vs,H1,I1,r1,q1⟩=>?_) hs rfl))
 obtain ⟨j,e,q1,q2,q⟩:=q1
 subst e
 cases r1 with
 | cons r rr =>
  cases rr
  obtain ⟨t,rfl⟩:=r
  exact call_range_1 (Af I1 (by omega) (by omega) q1 q2 (by simpa using q))
theorem rq {a b:Expr} {ta:TA} {p pos:Pos} (hg:Gl X "range") (hm:X.mg "range"=none) (ha:PA X [a,b] ta) (hs:starEach [a,b] X.env=[(false,eval a X.env),(false,eval b X.env)]:=by rfl) (Fs:starEach [b] X.env=[(false,eval b X.env)]:=by rfl) :
  PI X tg (.Call (.Name "range" p) [a,b] [] pos) (RH ta):=by
 intro pins s σ H R I h
 refine Call_ (kn I hg hm boot_range (PyProof.Rows.callWith_type1 (cM (ha pos pins s σ H _ I h) fun us s1 ⟨vs,H1,I1,r1,q1⟩=>?_) (by rw [hs,Fs]) (by rw [Fs];rfl)))
 obtain ⟨i,j,e,⟨q1,q2,q3,q4⟩,q⟩:=q1
 subst e
 cases r1 with
 | cons r rr =>
  cases rr with
  | cons r' rr =>
   cases rr
   obtain ⟨t,rfl⟩:=r
   obtain ⟨t',rfl⟩:=r'
   exact call_range_2 (Af I1 q1 q2 q3 q4 q)
def VN (wi:TI) (g:TG) (tb:TS):TS:=fun D σ H=>wi σ H fun J H1=>∃ W:Nat→Nat→St→Hp→Prop,(∃ m,W 0 m σ H1)∧∀ i m σ H,W i m σ H →
 (J.stop i H∧D.nx σ H)∨(J.go i H∧∃ N:St→Hp→Prop,(∀ σ' H',N σ' H'→∃ m',m' < m∧W (i+1) m' σ' H')∧∀ x H',J.K0 i H x H'→g x σ H' fun σ2 H2=>tb { D with nx:=N,ct:=N,bk:=D.nx } σ2 H2)
def uw (fp:List Addr) (h:Heap):List (Addr × Obj):=fp.filterMap fun b=>(h.get? b).map fun o=>(b,o)
theorem kq {fp:List Addr} {h:Heap} {b:Addr} {o:Obj} (hb:b ∈ fp) (e:h.get? b=some o):(b,o) ∈ uw fp h:=List.mem_filterMap.mpr ⟨b,hb,by rw [e];rfl⟩
theorem Fu {fp:List Addr} {h:Heap} {p:Addr × Obj} (hp:p ∈ uw fp h):p.1 ∈ fp∧h.get? p.1=some p.2:=by
 obtain ⟨b,hb,e⟩:=List.mem_filterMap.mp hp
 cases q:h.get? b with
 | none=>rw [q] at e;cases e
 | some o =>
  rw [q] at e
  have e':(b,o)=p:=Option.some.inj e
  subst e'
  exact ⟨hb,q⟩
theorem Inv.pinned {pins:List (Addr × Obj)} {σ:St} {H:Hp} {s:Shared} {fp:List Addr} (I:Inv X pins σ H s) (hf:∀ b ∈ fp,rm X pins H b) (ho:∀ b ∈ fp,∃ o,s.heap.get? b=some o∧∀ v,o.data≠.cell v):Inv X (pins ++ uw fp s.heap) σ H s :=
 I.EL fun p hp=>(List.mem_append.mp hp).elim (fun z=>I.pin p (List.mem_append_right _ z)) fun z=>by
  obtain ⟨hb,e⟩:=Fu z
  obtain ⟨f0,f1,f2,_⟩:=hf p.1 hb
  obtain ⟨o,e',d⟩:=ho p.1 hb
  rw [e] at e';cases e'
  exact ⟨e,f0,f1,f2,d⟩
theorem Inv.mn {pins pl:List (Addr × Obj)} {σ:St} {H:Hp} {s:Shared} (I:Inv X (pins ++ pl) σ H s):Inv X pins σ H s:=I.EL fun p hp=>I.pin p (List.mem_append_right _ (List.mem_append_left _ hp))
theorem cq {iter:Expr} {body:List Stmt} {wi:TI} {g:TG} {tb:TS} {pos:Pos} (hp:PassesOwn (model X.prog X.w) X.A X.env X.xe) (hc:X.calm=true) (hi:PI X tg iter wi) (hg:PG X tg g) (hb:AQ X body tb)
  (hs:∀ x,foldedSetIterable iter X.env x=pure x:=by intro _;rfl):PS X (.For tg iter body [] pos) (VN wi g tb):=by
 intro pins s σ H D I h
 refine wpAny_For (cM (hi pins s σ H _ I h) fun v s1 h1=>cM h1 fun US s2 h2=>?_) hs
 obtain ⟨it,fp,tn,J,H2,e,I2,T,mZ,f2,W,⟨m0,w0⟩,turn⟩:=h2
 subst e
 have CP:∀ {H':Hp},(∀ b ∈ fp,H' b=none)→∀ b ∈ fp,rm X pins H' b:=fun hn b hb=>⟨hn b hb,(f2 b hb).2⟩
 refine codeAny_forLoop_any (fun n s'=>∃ i σ' H',Inv X pins σ' H' s'∧tn i s'.heap∧(∀ b ∈ fp,H' b=none)∧W i n σ' H') ?_ m0 ⟨0,σ,H2,I2,mZ,fun b hb=>(f2 b hb).1,w0⟩
 rintro n s3 ⟨i,σ3,H3,I3,Hz,Xm,w3⟩
 rcases turn i n σ3 H3 w3 with ⟨stop,qn⟩ | ⟨go,N,hN,step⟩
 ·refine wpAny_passesOwn hp (cM (T.done X rfl rfl rfl hc i pins s3 σ3 H3 X.xe I3 (CP Xm) Hz stop) fun r s4 ⟨hr,I4⟩=>?_)
  subst hr
  exact wpAny_execs_nil ⟨σ3,H3,I4,qn⟩
 ·refine wpAny_passesOwn hp (cM (T.item X rfl rfl rfl hc i pins s3 σ3 H3 X.xe I3 (CP Xm) Hz go) fun r s4 ⟨u,hr,h4⟩=>?_)
  subst hr
  refine wpAny_passesOwn hp (cM h4 fun _ s5 ⟨x,H5,I5,r5,y5,K2,OM⟩=>?_)
  have Zj:=I5.pinned (CP OM) (T.obj _ _ K2)
  refine wpAny_passesOwn hp (cM (hg _ s5 σ3 H5 x u _ Zj r5 (step x H5 y5)) fun _ s6 ⟨σ6,H6,I6,q6⟩=>?_)
  refine wpAny_passesOwn hp (cM (hb _ s6 σ6 H6 _ I6 q6) fun f s7 q7=>?_)
  have again:∀ {σ7:St} {H7:Hp},Inv X (pins ++ uw fp s5.heap) σ7 H7 s7→N σ7 H7→∃ m,m < n∧∃ i σ' H',Inv X pins σ' H' s7∧tn i s7.heap∧(∀ b ∈ fp,H' b=none)∧W i m σ' H':=fun {σ7 H7} I7 n7=>by
   obtain ⟨m',hm,w7⟩:=hN σ7 H7 n7
   refine ⟨m',hm,i+1,σ7,H7,I7.mn,T.keep _ _ _ K2 fun b hb o e=>(I7.pin (b,o) (List.mem_append_right _ (List.mem_append_right _ (kq hb e)))).1,fun b hb=>?_,w7⟩
   obtain ⟨o,e,d⟩:=T.obj _ _ K2 b hb
   exact (I7.pin (b,o) (List.mem_append_right _ (List.mem_append_right _ (kq hb e)))).2.1
  cases f with
  | next=>obtain ⟨σ7,H7,I7,n7⟩:=q7;exact again I7 n7
  | cont=>obtain ⟨σ7,H7,I7,n7⟩:=q7;exact again I7 n7
  | brk=>obtain ⟨σ7,H7,I7,q7⟩:=q7;exact ⟨σ7,H7,I7.mn,q7⟩
  | ret v=>obtain ⟨x7,σ7,H7,I7,r7,q7⟩:=q7;exact ⟨x7,σ7,H7,I7.mn,r7,q7⟩
end
theorem iT {K:PySem.W.Frag} {a:Addr} {xs:List V} {g:TG} {tb:TS} {D:Ends} {σ:St} {H:Hp} (Pv:Nat→St→Hp→Prop) (h0:Pv 0 σ H) (hl:∀ i σ H,i≤xs.length→Pv i σ H→aY K H a xs)
  (hs:∀ i x σ H,xs[i]?=some x→Pv i σ H→g x σ H fun σ2 H2=>tb { D with nx:=Pv (i+1),ct:=Pv (i+1),bk:=D.nx } σ2 H2) (hd:∀ σ H,Pv xs.length σ H→D.nx σ H) :
  ∃ W:Nat→Nat→St→Hp→Prop,(∃ m,W 0 m σ H)∧∀ i m σ H,W i m σ H →
   ((OK K a).stop i H∧D.nx σ H)∨((OK K a).go i H∧∃ N:St→Hp→Prop,(∀ σ' H',N σ' H'→∃ m',m' < m∧W (i+1) m' σ' H')∧∀ x H',(OK K a).K0 i H x H'→g x σ H' fun σ2 H2=>tb { D with nx:=N,ct:=N,bk:=D.nx } σ2 H2):=by
 refine ⟨fun i m σ H=>m=xs.length - i∧i≤xs.length∧Pv i σ H,⟨xs.length,by simp,Nat.zero_le _,h0⟩,?_⟩
 rintro i m σ H ⟨rfl,hi,p⟩
 have q:=hl i σ H hi p
 by_cases et:i < xs.length
 ·refine .inr ⟨⟨xs,xs[i],q,by simp [et]⟩,Pv (i+1),fun σ' H' p'=>⟨xs.length - (i+1),by omega,rfl,et,p'⟩,fun x H' y=>?_⟩
  obtain ⟨e,y⟩:=y
  subst e
  exact hs i x σ _ (y xs q) p
 ·have e:i=xs.length:=by omega
  subst e
  exact .inl ⟨⟨xs,q,Nat.le_refl _⟩,hd σ H p⟩
theorem ET {K:PySem.W.Frag} {a:Addr} {xs:List V} {g:TG} {tb:TS} {D:Ends} {σ:St} {H:Hp} (Pv:Nat→St→Hp→Prop) (h0:Pv 0 σ H) (hl:∀ i σ H,i≤xs.length→Pv i σ H→cP K H a xs)
  (hs:∀ i x σ H,xs[i]?=some x→Pv i σ H→g x σ H fun σ2 H2=>tb { D with nx:=Pv (i+1),ct:=Pv (i+1),bk:=D.nx } σ2 H2) (hd:∀ σ H,Pv xs.length σ H→D.nx σ H) :
  ∃ W:Nat→Nat→St→Hp→Prop,(∃ m,W 0 m σ H)∧∀ i m σ H,W i m σ H →
   ((RE K a).stop i H∧D.nx σ H)∨((RE K a).go i H∧∃ N:St→Hp→Prop,(∀ σ' H',N σ' H'→∃ m',m' < m∧W (i+1) m' σ' H')∧∀ x H',(RE K a).K0 i H x H'→g x σ H' fun σ2 H2=>tb { D with nx:=N,ct:=N,bk:=D.nx } σ2 H2):=by
 refine ⟨fun i m σ H=>m=xs.length - i∧i≤xs.length∧Pv i σ H,⟨xs.length,by simp,Nat.zero_le _,h0⟩,?_⟩
 rintro i m σ H ⟨rfl,hi,p⟩
 have q:=hl i σ H hi p
 by_cases et:i < xs.length
 ·refine .inr ⟨⟨xs,xs[i],q,by simp [et]⟩,Pv (i+1),fun σ' H' p'=>⟨xs.length - (i+1),by omega,rfl,et,p'⟩,fun x H' y=>?_⟩
  obtain ⟨e,y⟩:=y
  subst e
  exact hs i x σ _ (y xs q) p
 ·have e:i=xs.length:=by omega
  subst e
  exact .inl ⟨⟨xs,q,Nat.le_refl _⟩,hd σ H p⟩
theorem e8 {lo:Int} {n:Nat} {g:TG} {tb:TS} {D:Ends} {σ:St} {H:Hp} (Pv:Nat→St→Hp→Prop) (h0:Pv 0 σ H)
  (hs:∀ i σ H,i < n→Pv i σ H→g (.int (lo+i)) σ H fun σ2 H2=>tb { D with nx:=Pv (i+1),ct:=Pv (i+1),bk:=D.nx } σ2 H2) (hd:∀ σ H,Pv n σ H→D.nx σ H) :
  ∃ W:Nat→Nat→St→Hp→Prop,(∃ m,W 0 m σ H)∧∀ i m σ H,W i m σ H →
   ((K1 lo n).stop i H∧D.nx σ H)∨((K1 lo n).go i H∧∃ N:St→Hp→Prop,(∀ σ' H',N σ' H'→∃ m',m' < m∧W (i+1) m' σ' H')∧∀ x H',(K1 lo n).K0 i H x H'→g x σ H' fun σ2 H2=>tb { D with nx:=N,ct:=N,bk:=D.nx } σ2 H2):=by
 refine ⟨fun i m σ H=>m=n - i∧i≤n∧Pv i σ H,⟨n,by simp,Nat.zero_le _,h0⟩,?_⟩
 rintro i m σ H ⟨rfl,hi,p⟩
 by_cases et:i < n
 ·refine .inr ⟨et,Pv (i+1),fun σ' H' p'=>⟨n - (i+1),by omega,rfl,et,p'⟩,fun x H' y=>?_⟩
  obtain ⟨e,y⟩:=y
  subst e y
  exact hs i σ _ et p
 ·have e:i=n:=by omega
  subst e
  exact .inl ⟨Nat.le_refl _,hd σ H p⟩
theorem Ag {c:TT} {tb:TS} {D:Ends} {σ:St} {H:Hp} (Pv:St→Hp→Prop) (μ:St→Hp→Nat) (h0:Pv σ H)
  (hs:∀ σ H,Pv σ H→c σ H fun b H1=>if b=true then tb { D with nx:=fun σ' H'=>Pv σ' H'∧μ σ' H' < μ σ H,ct:=fun σ' H'=>Pv σ' H'∧μ σ' H' < μ σ H,bk:=D.nx } σ H1 else D.nx σ H1)
  (mono:∀ σ H Q Q',(∀ b H1,Q b H1→Q' b H1)→c σ H Q→c σ H Q'):Hy c tb D σ H:=by
 refine ⟨fun m σ H=>m=μ σ H∧Pv σ H,⟨_,rfl,h0⟩,?_⟩
 rintro m σ H ⟨rfl,p⟩
 refine mono σ H _ _ (fun b H1 q=>?_) (hs σ H p)
 cases b with
 | true=>exact ⟨_,fun σ' H' ⟨p',l⟩=>⟨_,l,rfl,p'⟩,q⟩
 | false=>exact q
end L2
namespace L2
open PySem PySem.Spec PyProof.Rows
abbrev R2:=V→V→Hp→VK→Prop
def kr (X:Cx) (f:Value→Value→Sem Value) (r:R2):Prop :=
 ∀ (pins:List (Addr × Obj)) (s:Shared) (σ:St) (H:Hp) (x y:V) (v u:Value) (Q:VK),Inv X pins σ H s→RelV x v→RelV y u→r x y H Q →
  wpAny (model X.prog X.w) X.A (f v u) (EP X pins σ Q) X.xe s
def VO (X:Cx) (f:Value→Sem Value) (r:V→Hp→VK→Prop):Prop :=
 ∀ (pins:List (Addr × Obj)) (s:Shared) (σ:St) (H:Hp) (x:V) (v:Value) (Q:VK),Inv X pins σ H s→RelV x v→r x H Q →
  wpAny (model X.prog X.w) X.A (f v) (EP X pins σ Q) X.xe s
def iU (X:Cx) (f:Value) (r:List V→Hp→VK→Prop):Prop :=
 ∀ (pins:List (Addr × Obj)) (s:Shared) (σ:St) (H:Hp) (xs:List V) (us:List Value) (Q:VK),Inv X pins σ H s→aq xs us→r xs H Q →
  wpAny (model X.prog X.w) X.A (call f us) (EP X pins σ Q) X.xe s
def VP (X:Cx) (r:V→Hp→(Bool→Hp→Prop)→Prop):Prop :=
 ∀ (pins:List (Addr × Obj)) (s:Shared) (σ:St) (H:Hp) (x:V) (v:Value) (Q:Bool→Hp→Prop),Inv X pins σ H s→RelV x v→r x H Q →
  wpAny (model X.prog X.w) X.A (truthy v) (TP X pins σ Q) X.xe s
def ON (r:R2) (ta tb:TE):TE:=fun σ H Q=>ta σ H fun x H1=>tb σ H1 fun y H2=>r x y H2 Q
def Zk (r:V→Hp→VK→Prop) (ta:TE):TE:=fun σ H Q=>ta σ H fun x H1=>r x H1 Q
def rI (C:Int→Int→Prop) (g:Int→Int→V):R2:=fun x y H Q=>∃ i j,x=.int i∧y=.int j∧C i j∧Q (g i j) H
def Kd (g:Int→Int→V):R2:=fun x y H Q=>∃ i j,x=.int i∧y=.int j∧Q (g i j) H
def rU (g:Int→V):V→Hp→VK→Prop:=fun x H Q=>∃ i,x=.int i∧Q (g i) H
section
variable {X:Cx} {a b c:Expr} {ta tb tc:TE} {pos:Pos}
theorem OO (ha:PE X a ta) (hb:PE X b tb) {pins:List (Addr × Obj)} {s:Shared} {σ:St} {H:Hp} {R:V→V→Hp→Prop} (I:Inv X pins σ H s)
  (h:ta σ H fun x H1=>tb σ H1 fun y H2=>R x y H2) {Q:Value→Shared→Prop} {f:Value→Value→Sem Value}
  (hf:∀ v u s2 x y H2,Inv X pins σ H2 s2→RelV x v→RelV y u→R x y H2→wpAny (model X.prog X.w) X.A (f v u) Q X.xe s2) :
  wpAny (model X.prog X.w) X.A (eval a X.env) (fun v s₁=>wpAny (model X.prog X.w) X.A (eval b X.env) (fun u s₂=>wpAny (model X.prog X.w) X.A (f v u) Q X.xe s₂) X.xe s₁) X.xe s:=by
 refine cM (ha pins s σ H _ I h) fun v s1 ⟨x,H1,I1,r1,q1⟩=>?_
 refine cM (hb pins s1 σ H1 _ I1 q1) fun u s2 ⟨y,H2,I2,r2,q2⟩=>?_
 exact hf v u s2 x y H2 I2 r1 r2 q2
theorem aP {op:Operator} {r:R2} (ho:kr X (binaryOp op) r) (ha:PE X a ta) (hb:PE X b tb):PE X (.BinOp a op b pos) (ON r ta tb):=by
 intro pins s σ H Q I h
 exact wpAny_BinOp (OO ha hb I h fun v u s2 x y H2 I2 rx ry q=>ho pins s2 σ H2 x y v u Q I2 rx ry q)
theorem EU {op:UnaryOp} {r:V→Hp→VK→Prop} (ho:VO X (unaryOp op) r) (ha:PE X a ta):PE X (.UnaryOp op a pos) (Zk r ta):=by
 intro pins s σ H Q I h
 exact UnaryOp_ (cM (ha pins s σ H _ I h) fun v s1 ⟨x,H1,I1,r1,q1⟩=>ho pins s1 σ H1 x v Q I1 r1 q1)
theorem UT {f:Value→Value→Sem Value} {C:Int→Int→Prop} {g:Int→Int→Int}
  (rule:∀ (i j:Int) (t u:Tok) (s:Shared) (Q:Value→Shared→Prop) (E:Value→Shared→Prop),C i j→Q (.int (g i j) s.toks) { s with toks:=s.toks+1 }→wpAny (model X.prog X.w) X.A (f (.int i t) (.int j u)) Q E s) :
  kr X f (rI C fun i j=>.int (g i j)):=by
 intro pins s σ H x y v u Q I rx ry h
 obtain ⟨i,j,rfl,rfl,hc,q⟩:=h
 obtain ⟨t,rfl⟩:=rx
 obtain ⟨t',rfl⟩:=ry
 exact rule i j t t' s _ _ hc ⟨.int (g i j),H,I.tok _,⟨_,rfl⟩,q⟩
theorem RI {f:Value→Value→Sem Value} {g:Int→Int→Int}
  (rule:∀ (i j:Int) (t u:Tok) (s:Shared) (Q:Value→Shared→Prop) (E:Value→Shared→Prop),Q (.int (g i j) s.toks) { s with toks:=s.toks+1 }→wpAny (model X.prog X.w) X.A (f (.int i t) (.int j u)) Q E s) :
  kr X f (Kd fun i j=>.int (g i j)):=by
 intro pins s σ H x y v u Q I rx ry h
 obtain ⟨i,j,rfl,rfl,q⟩:=h
 obtain ⟨t,rfl⟩:=rx
 obtain ⟨t',rfl⟩:=ry
 exact rule i j t t' s _ _ ⟨.int (g i j),H,I.tok _,⟨_,rfl⟩,q⟩
theorem K3 {f:Value→Value→Sem Value} {g:Int→Int→Bool}
  (rule:∀ (i j:Int) (t u:Tok) (s:Shared) (Q:Value→Shared→Prop) (E:Value→Shared→Prop),Q (.bool (g i j)) s→wpAny (model X.prog X.w) X.A (f (.int i t) (.int j u)) Q E s) :
  kr X f (Kd fun i j=>.bl (g i j)):=by
 intro pins s σ H x y v u Q I rx ry h
 obtain ⟨i,j,rfl,rfl,q⟩:=h
 obtain ⟨t,rfl⟩:=rx
 obtain ⟨t',rfl⟩:=ry
 exact rule i j t t' s _ _ ⟨.bl (g i j),H,I,rfl,q⟩
def VQ (i j:Int):Prop:=0 < j∧j < 1073741824
def VR (i j:Int):Prop:=0≤j∧j≤1000000∧i.natAbs < 2 ^ 64
def OP (i j:Int):Prop:=(-(2 ^ 64) < i∧i < 2 ^ 64)∨(-(2 ^ 64) < j∧j < 2 ^ 64)
theorem OP.ok {i j:Int} (h:OP i j):IntMulOk i j:=by
 rcases h with ⟨h1,h2⟩ | ⟨h1,h2⟩
 ·exact .of_left (intBits_le_64 h1 h2)
 ·exact .of_right (intBits_le_64 h1 h2)
theorem bM:kr X (binaryOp .Add) (Kd fun i j=>.int (i+j)):=RI fun _ _ _ _ _ _ _ q=>add_int q
theorem jg:kr X (binaryOp .Sub) (Kd fun i j=>.int (i - j)):=RI fun _ _ _ _ _ _ _ q=>sub_int q
theorem b9:kr X (binaryOp .Mult) (rI OP fun i j=>.int (i * j)):=UT fun _ _ _ _ _ _ _ hc q=>mul_int q hc.ok
theorem jM:kr X (binaryOp .FloorDiv) (rI VQ fun i j=>.int (i / j)):=UT fun i j _ _ _ _ _ hc q=>by
 have h1:(0:Int) < j:=hc.1
 have h2:j < 1073741824:=hc.2
 exact floordiv_int (by omega) (by rw [Int.fdiv_eq_ediv_of_nonneg i (by omega)];exact q) (.inl (PyProof.noPylong_small (by omega)))
theorem bG:kr X (binaryOp .Mod) (rI (fun _ j=>0 < j) fun i j=>.int (i % j)):=UT fun i j _ _ _ _ _ hc q=>by
 have h1:(0:Int) < j:=hc
 exact mod_int' (by omega) (by rw [Int.fmod_eq_emod_of_nonneg i (by omega)];exact q)
theorem OQ:kr X (binaryOp .Pow) (rI VR fun i j=>.int (i ^ j.toNat)):=UT fun _ _ _ _ _ _ _ hc q=>pow_int_small hc.1 hc.2.1 hc.2.2 q
theorem Zl {f:Value→Sem Value} {g:Int→Int}
  (rule:∀ (i:Int) (t:Tok) (s:Shared) (Q:Value→Shared→Prop) (E:Value→Shared→Prop),Q (.int (g i) s.toks) { s with toks:=s.toks+1 }→wpAny (model X.prog X.w) X.A (f (.int i t)) Q E s) :
  VO X f (rU fun i=>.int (g i)):=by
 intro pins s σ H x v Q I rx h
 obtain ⟨i,rfl,q⟩:=h
 obtain ⟨t,rfl⟩:=rx
 exact rule i t s _ _ ⟨.int (g i),H,I.tok _,⟨_,rfl⟩,q⟩
theorem yw:VO X (unaryOp .USub) (rU fun i=>.int (-i)):=Zl fun _ _ _ _ _ q=>neg_int q
end
def RJ:V→V→Bool
 | .bq,.bq=>true | .bq,.int _=>true | .int _,.bq=>true | .bq,.bl _=>true | .bl _,.bq=>true | .bq,.str _=>true | .str _,.bq=>true
 | .int _,.int _=>true | .bl _,.bl _=>true | .str _,.str _=>true | .EJ _,.EJ _=>true
 | .int _,.str _=>true | .str _,.int _=>true | .bl _,.str _=>true | .str _,.bl _=>true
 | _,_=>false
def Zm:R2:=fun x y H Q=>RJ x y=true∧Q (.bl (decide (x=y))) H
def VS:R2:=fun x y H Q=>RJ x y=true∧Q (.bl (!decide (x=y))) H
theorem EV {i j:Int}:decide (V.int i=V.int j)=(i == j):=by
 rw [Bool.eq_iff_iff]
 simp
theorem IA {i j:Bool}:decide (V.bl i=V.bl j)=(i == j):=by
 rw [Bool.eq_iff_iff]
 simp
theorem EW {i j:Str}:decide (V.str i=V.str j)=(i == j):=by
 rw [Bool.eq_iff_iff]
 simp
theorem EX {i j:Array UInt8}:decide (V.EJ i=V.EJ j)=(i.toList == j.toList):=by
 rw [Bool.eq_iff_iff]
 cases i
 cases j
 simp
section
variable {X:Cx} {a b c:Expr} {ta tb tc:TE} {pos:Pos}
theorem bN {pins:List (Addr × Obj)} {σ:St} {H:Hp} {s:Shared} {Q:VK} {k k':Bool} (I:Inv X pins σ H s) (q:Q (.bl k) H) (e:k=k'):EP X pins σ Q (.bool k') s:=by
 subst e
 exact ⟨.bl k,H,I,rfl,q⟩
theorem jN:kr X (compareOp .Eq) Zm:=by
 intro pins s σ H x y v u Q I rx ry h
 obtain ⟨hs,q⟩:=h
 cases x with
 | bq =>
  cases rx
  cases y with
  | bq=>cases ry;exact PySem.EqNone.eq_none_none (bN I q (by simp))
  | bl j=>cases ry;exact PySem.EqNone.eq_none_bool (bN I q (by simp))
  | int j=>obtain ⟨t',rfl⟩:=ry;exact PySem.EqNone.eq_none_int (bN I q (by simp))
  | str j=>obtain ⟨t',rfl⟩:=ry;exact PySem.EqNone.eq_none_str (bN I q (by simp))
  | _=>exact absurd (show false=true from hs) Bool.false_ne_true
 | bl i =>
  cases rx
  cases y with
  | bq=>cases ry;exact PySem.EqNone.eq_bool_none (bN I q (by simp))
  | bl j=>cases ry;exact eq_bool (bN I q IA)
  | str j=>obtain ⟨t',rfl⟩:=ry;exact PySem.EqMixed.eq_bool_str (bN I q (by simp))
  | _=>exact absurd (show false=true from hs) Bool.false_ne_true
 | int i =>
  obtain ⟨t,rfl⟩:=rx
  cases y with
  | bq=>cases ry;exact PySem.EqNone.eq_int_none (bN I q (by simp))
  | int j=>obtain ⟨t',rfl⟩:=ry;exact eq_int (bN I q EV)
  | str j=>obtain ⟨t',rfl⟩:=ry;exact PySem.EqMixed.eq_int_str (bN I q (by simp))
  | _=>exact absurd (show false=true from hs) Bool.false_ne_true
 | str i =>
  obtain ⟨t,rfl⟩:=rx
  cases y with
  | bq=>cases ry;exact PySem.EqNone.eq_str_none (bN I q (by simp))
  | bl j=>cases ry;exact PySem.EqMixed.eq_str_bool (bN I q (by simp))
  | int j=>obtain ⟨t',rfl⟩:=ry;exact PySem.EqMixed.eq_str_int (bN I q (by simp))
  | str j=>obtain ⟨t',rfl⟩:=ry;exact eq_str (bN I q EW)
  | _=>exact absurd (show false=true from hs) Bool.false_ne_true
 | EJ i =>
  obtain ⟨t,rfl⟩:=rx
  cases y with
  | EJ j=>obtain ⟨t',rfl⟩:=ry;exact PySem.W.eq_bytes (bN I q EX)
  | _=>exact absurd (show false=true from hs) Bool.false_ne_true
 | _=>cases y <;> exact absurd (show false=true from hs) Bool.false_ne_true
theorem yF:kr X (compareOp .NotEq) VS:=by
 intro pins s σ H x y v u Q I rx ry h
 obtain ⟨hs,q⟩:=h
 cases x with
 | bq =>
  cases rx
  cases y with
  | bq=>cases ry;exact PySem.EqNone.ne_none_none (bN I q (by simp))
  | bl j=>cases ry;exact PySem.EqNone.ne_none_bool (bN I q (by simp))
  | int j=>obtain ⟨t',rfl⟩:=ry;exact PySem.EqNone.ne_none_int (bN I q (by simp))
  | str j=>obtain ⟨t',rfl⟩:=ry;exact PySem.EqNone.ne_none_str (bN I q (by simp))
  | _=>exact absurd (show false=true from hs) Bool.false_ne_true
 | bl i =>
  cases rx
  cases y with
  | bq=>cases ry;exact PySem.EqNone.ne_bool_none (bN I q (by simp))
  | bl j=>cases ry;exact ne_bool (bN I q (congrArg not IA))
  | str j=>obtain ⟨t',rfl⟩:=ry;exact PySem.EqMixed.ne_bool_str (bN I q (by simp))
  | _=>exact absurd (show false=true from hs) Bool.false_ne_true
 | int i =>
  obtain ⟨t,rfl⟩:=rx
  cases y with
  | bq=>cases ry;exact PySem.EqNone.ne_int_none (bN I q (by simp))
  | int j=>obtain ⟨t',rfl⟩:=ry;exact ne_int (bN I q (congrArg not EV))
  | str j=>obtain ⟨t',rfl⟩:=ry;exact PySem.EqMixed.ne_int_str (bN I q (by simp))
  | _=>exact absurd (show false=true from hs) Bool.false_ne_true
 | str i =>
  obtain ⟨t,rfl⟩:=rx
  cases y with
  | bq=>cases ry;exact PySem.EqNone.ne_str_none (bN I q (by simp))
  | bl j=>cases ry;exact PySem.EqMixed.ne_str_bool (bN I q (by simp))
  | int j=>obtain ⟨t',rfl⟩:=ry;exact PySem.EqMixed.ne_str_int (bN I q (by simp))
  | str j=>obtain ⟨t',rfl⟩:=ry;exact ne_str (bN I q (congrArg not EW))
  | _=>exact absurd (show false=true from hs) Bool.false_ne_true
 | EJ i =>
  obtain ⟨t,rfl⟩:=rx
  cases y with
  | EJ j=>obtain ⟨t',rfl⟩:=ry;exact PySem.W.ne_bytes (bN I q (congrArg not EX))
  | _=>exact absurd (show false=true from hs) Bool.false_ne_true
 | _=>cases y <;> exact absurd (show false=true from hs) Bool.false_ne_true
theorem ux:kr X (compareOp .Lt) (Kd fun i j=>.bl (decide (i < j))):=K3 fun _ _ _ _ _ _ _ q=>lt_int q
theorem uy:kr X (compareOp .LtE) (Kd fun i j=>.bl (decide (i≤j))):=K3 fun _ _ _ _ _ _ _ q=>le_int q
theorem Ah:kr X (compareOp .Gt) (Kd fun i j=>.bl (decide (j < i))):=K3 fun _ _ _ _ _ _ _ q=>gt_int q
theorem IB:kr X (compareOp .GtE) (Kd fun i j=>.bl (decide (j≤i))):=K3 fun _ _ _ _ _ _ _ q=>ge_int q
theorem yx:kr X (compareOp .Is) (fun x y H Q=>y=.bq∧Q (.bl (decide (x=.bq))) H):=by
 intro pins s σ H x y v u Q I rx ry h
 obtain ⟨rfl,q⟩:=h
 cases ry
 refine is_none_gen (bN I q ?_)
 cases x <;> first
  | (cases rx;rfl)
  | (obtain ⟨t,rfl⟩:=rx;rfl)
theorem yy:kr X (compareOp .IsNot) (fun x y H Q=>y=.bq∧Q (.bl (!decide (x=.bq))) H):=by
 intro pins s σ H x y v u Q I rx ry h
 obtain ⟨rfl,q⟩:=h
 cases ry
 refine isnot_none_gen (bN I q ?_)
 cases x <;> first
  | (cases rx;rfl)
  | (obtain ⟨t,rfl⟩:=rx;rfl)
theorem kr.or {f:Value→Value→Sem Value} {r r':R2} (h:kr X f r) (h':kr X f r'):kr X f (fun x y H Q=>r x y H Q∨r' x y H Q):=by
 intro pins s σ H x y v u Q I rx ry q
 rcases q with q | q
 ·exact h pins s σ H x y v u Q I rx ry q
 ·exact h' pins s σ H x y v u Q I rx ry q
theorem au (b:Expr) {op:CmpOp} (h:op≠.In:=by decide) (h2:op≠.NotIn:=by decide):behindInMarks op b=false:=by
 have e1:(op == CmpOp.In)=false:=by cases op <;> first | rfl | exact absurd rfl h
 have e2:(op == CmpOp.NotIn)=false:=by cases op <;> first | rfl | exact absurd rfl h2
 cases b <;> simp [behindInMarks,e1,e2]
theorem ku {op:CmpOp} {r:R2} (ho:kr X (compareOp op) r) (ha:PE X a ta) (hb:PE X b tb) (hm:behindInMarks op b=false):PE X (.Compare a [op] [b] pos) (ON r ta tb):=by
 intro pins s σ H Q I h
 exact wpAny_Compare1 (OO ha hb I h fun v u s2 x y H2 I2 rx ry q=>ho pins s2 σ H2 x y v u Q I2 rx ry q) hm
def EY (t:TE):TT:=fun σ H Q=>t σ H fun x H'=>∃ k,x=.bl k∧Q k H'
theorem aj {op:CmpOp} {r:R2} (ho:kr X (compareOp op) r) (ha:PE X a ta) (hb:PE X b tb) (hm:behindInMarks op b=false):PT X (.Compare a [op] [b] pos) (EY (ON r ta tb)):=by
 intro pins s σ H Q I h
 refine wpAny_isTrue_Compare1 (cM (ha pins s σ H _ I h) fun v s1 ⟨x,H1,I1,r1,q1⟩=>cM (hb pins s1 σ H1 _ I1 q1) fun u s2 ⟨y,H2,I2,r2,q2⟩ =>
  cM (ho pins s2 σ H2 x y v u _ I2 r1 r2 q2) fun c s3 ⟨z,H3,I3,r3,k,e,q3⟩=>?_) hm
 subst e
 cases r3
 exact wpAny_truthy_bool ⟨H3,I3,q3⟩
def IC (r r':R2) (ta tb tc:TE):TE:=fun σ H Q=>ta σ H fun x H1=>tb σ H1 fun y H2=>r x y H2 fun z H3=>∃ k,z=.bl k ∧
 (if k=true then tc σ H3 fun w' H4=>r' y w' H4 Q else Q (.bl false) H3)
theorem ID {op OR:CmpOp} {r r':R2} (ho:kr X (compareOp op) r) (AO:kr X (compareOp OR) r') (ha:PE X a ta) (hb:PE X b tb) (hc:PE X c tc)
  (hm:lastMarks [op,OR] [b,c]=false:=by with_unfolding_all rfl):PE X (.Compare a [op,OR] [b,c] pos) (IC r r' ta tb tc):=by
 intro pins s σ H Q I h
 refine Compare_chain (cM (ha pins s σ H _ I h) fun v s1 ⟨x,H1,I1,r1,q1⟩=>chain_link (cM (hb pins s1 σ H1 _ I1 q1) fun u s2 ⟨y,H2,I2,r2,q2⟩ =>
  cM (ho pins s2 σ H2 x y v u _ I2 r1 r2 q2) fun d s3 ⟨z,H3,I3,r3,k,e,q3⟩=>?_)) hm
 subst e
 cases r3
 refine wpAny_truthy_bool ?_
 cases k with
 | false=>exact ite_ff ⟨.bl false,H3,I3,rfl,q3⟩
 | true=>exact ite_tt (chain_last (cM (hc pins s3 σ H3 _ I3 q3) fun w' s4 ⟨z',H4,I4,r4,q4⟩=>AO pins s4 σ H4 y z' u w' Q I4 r2 r4 q4))
theorem uz {op OR:CmpOp} {r r':R2} (ho:kr X (compareOp op) r) (AO:kr X (compareOp OR) r') (ha:PE X a ta) (hb:PE X b tb) (hc:PE X c tc)
  (hm:lastMarks [op,OR] [b,c]=false:=by with_unfolding_all rfl):PT X (.Compare a [op,OR] [b,c] pos) (EY (IC r r' ta tb tc)):=by
 intro pins s σ H Q I h
 refine isTrue_chain (cM (ha pins s σ H _ I h) fun v s1 ⟨x,H1,I1,r1,q1⟩=>test_link (cM (hb pins s1 σ H1 _ I1 q1) fun u s2 ⟨y,H2,I2,r2,q2⟩ =>
  cM (ho pins s2 σ H2 x y v u _ I2 r1 r2 q2) fun d s3 ⟨z,H3,I3,r3,k,e,q3⟩=>?_)) hm
 subst e
 cases r3
 refine wpAny_truthy_bool ?_
 cases k with
 | false =>
  obtain ⟨k',e',q'⟩:=q3
  cases e'
  exact ite_ff ⟨H3,I3,q'⟩
 | true =>
  refine ite_tt (test_last (cM (hc pins s3 σ H3 _ I3 q3) fun w' s4 ⟨z',H4,I4,r4,q4⟩=>cM (AO pins s4 σ H4 y z' u w' _ I4 r2 r4 q4) fun d' s5 ⟨z2,H5,I5,r5,k2,e2,q5⟩=>?_))
  subst e2
  cases r5
  exact wpAny_truthy_bool ⟨H5,I5,q5⟩
def RK (K:PySem.W.Frag) (x:V) (H:Hp) (k:Bool):Prop :=
 match x with
 | .bq=>k=false
 | .bl b=>k=b
 | .int i=>k=(i != 0)
 | .str y=>y.length≤sizeLine∧k=((y.length:Int) != 0)
 | .EJ y=>y.size≤sizeLine∧k=((y.size:Int) != 0)
 | .ref p=>(∃ xs,aY K H p xs∧k=!xs.isEmpty)∨(∃ xs,cP K H p xs∧k=!xs.isEmpty)∨∃ bQ,H p=some (.dK bQ)∧k=!bQ.isEmpty
 | _=>False
theorem CQ {κ:Type} {bQ:List (κ × V)} {vs:List (κ × Value)} (r:KV bQ vs):(!vs.isEmpty)=!bQ.isEmpty:=by
 cases r <;> rfl
theorem u7 {xs:List V} {ae:List Value} (r:aq xs ae):(!ae.toArray.isEmpty)=!xs.isEmpty:=by
 cases r <;> simp
theorem u9:(sizeLine:Nat) < 2 ^ 63:=by rw [sizeLine_eq];decide
theorem OS:VP X (fun x H Q=>∃ k,RK X.K x H k∧Q k H):=by
 intro pins s σ H x v Q I rx h
 obtain ⟨k,e,q⟩:=h
 have hl:=u9
 have hs:sizeLine=16777216:=sizeLine_eq
 cases x with
 | bq =>
  cases rx
  have e':k=false:=e
  subst e'
  exact truthy_none ⟨H,I,q⟩
 | bl b =>
  cases rx
  have e':k=b:=e
  subst e'
  exact wpAny_truthy_bool ⟨H,I,q⟩
 | int i =>
  obtain ⟨t,rfl⟩:=rx
  have e':k=(i != 0):=e
  subst e'
  exact PySem.P.truthy_int ⟨H,I,q⟩
 | str y =>
  obtain ⟨t,rfl⟩:=rx
  obtain ⟨hy,e'⟩:y.length≤sizeLine∧k=((y.length:Int) != 0):=e
  subst e'
  exact PySem.P.truthy_str (by omega) ⟨H,I.tok _,q⟩
 | EJ y =>
  obtain ⟨t,rfl⟩:=rx
  obtain ⟨hy,e'⟩:y.size≤sizeLine∧k=((y.size:Int) != 0):=e
  subst e'
  exact PySem.W.truthy_bytes (by omega) ⟨H,I.tok _,q⟩
 | ref p =>
  cases rx
  have e':(∃ xs,aY X.K H p xs∧k=!xs.isEmpty)∨(∃ xs,cP X.K H p xs∧k=!xs.isEmpty)∨∃ bQ,H p=some (.dK bQ)∧k=!bQ.isEmpty:=e
  rcases e' with ⟨xs,hx,e'⟩ | ⟨xs,hx,e'⟩ | ⟨bQ,hx,e'⟩
  ·subst e'
   obtain ⟨ae,r,pl,hz⟩:=I.list hx
   have hlen:=r.length
   exact wpAny_truthy_list pl.isList (by simp only [List.size_toArray];omega) ⟨H,I.tok _,by rw [u7 r];exact q⟩
  ·subst e'
   obtain ⟨ae,r,pl,hz⟩:=I.tuple hx
   have hlen:=r.length
   exact truthy_tuple pl (by simp only [List.size_toArray];omega) ⟨H,I.tok _,by rw [u7 r];exact q⟩
  ·subst e'
   obtain ⟨hz,hS,vs,r,m⟩:bQ.length≤sizeLine∧(p == sysModules)=false∧∃ vs,KV bQ vs∧s.heap.DictOf (uV X.prog X.w) p vs:=I.cn p _ hx
   have hlen:bQ.length=vs.length:=Paired.length r
   exact wpAny_truthy_dict hS m (by omega) ⟨H,I.tok _,by rw [CQ r];exact q⟩
 | _=>exact (show False from e).elim
theorem qZ (ha:PE X a ta) (he:∀ whole,isTrue a X.env whole=(do let v ← whole;standAt a.pos;holding [v] (truthy v))) :
  PT X a (fun σ H Q=>ta σ H fun x H'=>∃ k,RK X.K x H' k∧Q k H'):=by
 intro pins s σ H Q I h
 exact isTrue_plain (cM (ha pins s σ H _ I h) fun v s1 ⟨x,H1,I1,r1,q1⟩=>OS pins s1 σ H1 x v Q I1 r1 q1) (he _)
theorem vals1 {x:V} {us:List Value} (r:aq [x] us):∃ u,us=[u]∧RelV x u:=by
 cases r with
 | cons r1 r2=>cases r2;exact ⟨_,rfl,r1⟩
theorem vals2 {x y:V} {us:List Value} (r:aq [x,y] us):∃ u w',us=[u,w']∧RelV x u∧RelV y w':=by
 cases r with
 | cons r1 r2 =>
  cases r2 with
  | cons r3 r4=>cases r4;exact ⟨_,_,rfl,r1,r3⟩
theorem Fv (hc:X.calm=true):iU X (.builtin "max") (fun xs H Q=>∃ i j,xs=[.int i,.int j]∧Q (.int (if j > i then j else i)) H):=by
 intro pins s σ H xs us Q I r h
 obtain ⟨i,j,rfl,q⟩:=h
 obtain ⟨u,w',rfl,⟨t,rfl⟩,⟨t',rfl⟩⟩:=vals2 r
 refine max_two_ints (I.ok.hd hc) fun h' tk k=>⟨_,H,I.kept k,?_,q⟩
 by_cases hj:j > i
 ·rw [if_pos hj,if_pos hj];exact ⟨_,rfl⟩
 ·rw [if_neg hj,if_neg hj];exact ⟨_,rfl⟩
theorem Fw (hc:X.calm=true):iU X (.builtin "min") (fun xs H Q=>∃ i j,xs=[.int i,.int j]∧Q (.int (if j < i then j else i)) H):=by
 intro pins s σ H xs us Q I r h
 obtain ⟨i,j,rfl,q⟩:=h
 obtain ⟨u,w',rfl,⟨t,rfl⟩,⟨t',rfl⟩⟩:=vals2 r
 refine min_two_ints (I.ok.hd hc) fun h' tk k=>⟨_,H,I.kept k,?_,q⟩
 by_cases hj:j < i
 ·rw [if_pos hj,if_pos hj];exact ⟨_,rfl⟩
 ·rw [if_neg hj,if_neg hj];exact ⟨_,rfl⟩
theorem Fx:iU X (.type "int") (fun xs H Q=>(∃ i,xs=[.int i]∧Q (.int i) H)∨∃ k,xs=[.bl k]∧Q (.int (if k then 1 else 0)) H):=by
 intro pins s σ H xs us Q I r h
 rcases h with ⟨i,rfl,q⟩ | ⟨k,rfl,q⟩
 ·obtain ⟨u,rfl,t,rfl⟩:=vals1 r
  exact call_int_int ⟨.int i,H,I,⟨_,rfl⟩,q⟩
 ·obtain ⟨u,rfl,r1⟩:=vals1 r
  cases r1
  exact call_int_bool ⟨.int (if k then 1 else 0),H,I.tok _,⟨_,rfl⟩,q⟩
end
end L2
namespace L2
open PySem PySem.Spec PyProof.Rows
structure CS (h:Heap) (x dx C:Addr) (mA:Str→Option Value):Prop where
 obj:h.get? x=some (PySem.W.instObj C dx)
 ns:h.Ns1 dx mA
 ne:dx≠x
theorem Fy {h:Heap} {dx:Addr} {mA:Str→Option Value} (n:h.Ns1 dx mA):∃ od,h.get? dx=some od∧∀ name,PySem.W.lookIn name od=some (mA name):=by
 obtain ⟨o,es,ep,ho,hd,hk,_,hm⟩:=n
 refine ⟨o,ho,fun name=>?_⟩
 have e:=hm name
 unfold nsFind findBy at e
 rw [← Array.find?_toList] at e
 unfold PySem.W.lookIn
 rw [hd]
 dsimp only
 split
 ·rename_i y q
  rw [q] at e
  exact congrArg some e
 ·rename_i q
  rw [q] at e
  have a:es.toList.any (·.refKey)=false:=by
   rw [List.any_eq_false]
   intro y hy
   obtain ⟨z,t,VT⟩:=hk y (Array.mem_toList_iff.mp hy)
   simp [DictEntry.refKey,VT]
  have a':¬ es.toList.any (·.refKey)=true:=by rw [a];exact Bool.false_ne_true
  rw [if_neg a']
  exact congrArg some e
theorem CS.look {h:Heap} {x dx C:Addr} {mA:Str→Option Value} (I:CS h x dx C mA):∃ od,PySem.W.InstAt h x (PySem.W.instObj C dx) C (some od)∧∀ name,PySem.W.lookIn name od=some (mA name) :=
 let ⟨od,ho,hl⟩:=Fy I.ns
 ⟨od,⟨I.obj,rfl,rfl,ho⟩,hl⟩
section
variable {prog:Program} {w:World} {A:Around} {E:Value→Shared→Prop} {s:Shared} {K:PySem.W.Frag} {x dx C f:Addr} {mA:Str→Option Value} {name:Str} {v:Value}
theorem get_map {expr:Bool} {Q:Value→Shared→Prop} (X:K.In s.heap) (I:CS s.heap x dx C mA) (hg:PySem.W.plainGet K C name=true) (hh:PySem.W.hasDictIn K C=true)
  (ha:PySem.W.findIn K (.ref C) name=some none) (hv:mA name=some v) (RL:PySem.W.handedIn v=true) (h:Q v { s with toks:=s.toks+1 }) :
  wpAny (model prog w) A (getAttr (.ref x) name expr) Q E s:=by
 obtain ⟨od,J,hl⟩:=I.look
 exact PySem.W.get_value X J (PySem.W.plainGet_of hg).1 (PySem.W.findObj_own hh ha rfl (by rw [hl,hv])) RL h
theorem IE {pl:Sem Bool} {Q:Value × List Value→Shared→Prop} (X:K.In s.heap) (I:CS s.heap x dx C mA) (hg:PySem.W.plainGet K C name=true)
  (hf:PySem.W.findIn K (.ref C) name=some (some (.ref f))) (ht:PySem.W.isFn K (.ref f)=true) (hv:mA name=none) (h:Q (.ref f,[.ref x]) s) :
  wpAny (model prog w) A (getMethod (.ref x) name pl) Q E s:=by
 obtain ⟨od,J,hl⟩:=I.look
 exact PySem.W.method_fn X J (PySem.W.plainGet_of hg).1 (PySem.W.plainGet_of hg).2 hf (beq_iff_eq.mp ht) (by show (PySem.W.lookIn name od).map (·.isSome)=some false;rw [hl,hv];rfl) h
theorem K4 {ns:List Str} {Q:Unit→Shared→Prop} (X:K.In s.heap) (I:CS s.heap x dx C mA)
  (hs:PySem.W.findIn K (.ref C) "__setattr__"=some (some (.builtin "object.__setattr__"))) (hp:PySem.W.plainOver K C=true) (ht:PySem.W.takerIn K C name=some none) (hh:PySem.W.hasDictIn K C=true)
  (hw:PySem.Within mA ns) (ox:ns.length≤sizeLine)
  (h:∀ h',CS h' x dx C (fun y=>if y=name then some v else mA y)→Heap.SameBut dx s.heap h'→Q () { s with heap:=h',toks:=s.toks+2 }) :
  wpAny (model prog w) A (setAttr (.ref x) name v) Q E s:=by
 obtain ⟨od,J,hl⟩:=I.look
 refine PySem.W.set_plain X J hs (PySem.W.osa_open (s:={ s with toks:=s.toks+1 }) (r:=none) X J hp ht fun b=>?_)
 obtain ⟨cd,hc,yt⟩:=PySem.W.any_some hh
 have hx:s.heap.get? x=some ⟨.ref C,some dx,.plain,#[]⟩:=I.obj
 refine wpAny_bind (wpAny_pure (wpAny_bind (wpAny_bind (wpAny_loadPart hx (wpAny_bind (PySem.W.Looks.here (s:={ s with toks:=s.toks+1 }) (PySem.W.looks_clsIn X hc) ?_))))))
 rw [yt]
 refine wpAny_pure (a:=some dx) (wpAny_bind (wpAny_pure (wpAny_bind ?_)))
 refine wpAny_nsSet1 (s:={ s with toks:=s.toks+1 }) I.ns fun h' UU Fs=>?_
 obtain ⟨oD,esD,epD,Zn,Zo,Zp⟩:=UU.count (PySem.Within.cons name v hw)
 refine wpAny_bind (wpAny_lookBehind Zn (by rw [Zo];exact pastItsLine_dict (Nat.le_trans Zp (by rw [List.length_cons];omega))) ?_)
 exact wpAny_pure (h _ ⟨(Fs.2 _ (Ne.symm I.ne)).trans I.obj,UU,I.ne⟩ Fs)
theorem IF {R:Result→Shared→Prop} {vs:List Value} {kw:List (Str × Value)} (X:K.In s.heap) (hm:PySem.W.makesIn K C=true)
  (hi:PySem.W.findIn K (.ref C) "__init__"=some (some (.ref f))) (hf:PySem.W.typeIn K (.ref f)=some (.type "function"))
  (h:codeAny (model prog w) (A.under (.builtin "type.__call__" ⟨.ref C :: vs,kw⟩)) (.call (.ref f) ⟨.ref (s.heap.objs.size+1) :: vs,kw⟩) (PySem.W.InitBack (s.heap.objs.size+1) R)
   { s with heap:=(s.heap.push PySem.W.emptyDict).push (PySem.W.instObj C s.heap.objs.size) }) :
  codeAny (model prog w) A (.call (.ref C) ⟨vs,kw⟩) R s:=by
 obtain ⟨hh,g,d,t,os⟩:=s
 exact PySem.W.make_core (PySem.W.makes_of X hm) (PySem.W.looks_findIn X hi) (fun self=>PySem.W.bind_fn X self hf) (.inl rfl) h
end
def dk (f:Str) (v:V):List (Str × V)→List (Str × V)
 | []=>[(f,v)]
 | (g,x) :: r=>if g=f then (g,v) :: r else (g,x) :: dk f v r
theorem tm (f g:Str) (v:V):∀ fs:List (Str × V),(dk f v fs).lookup g=if g=f then some v else fs.lookup g
 | []=>by
  show List.lookup g [(f,v)]=_
  by_cases h:g=f
  ·have hb:(g == f)=true:=beq_iff_eq.mpr h
   simp only [List.lookup,hb,if_pos h]
  ·have hb:(g == f)=false:=beq_eq_false_iff_ne.mpr h
   simp only [List.lookup,hb,if_neg h]
 | (k,x) :: r=>by
  have ih:=tm f g v r
  rw [show dk f v ((k,x) :: r)=(if k=f then (k,v) :: r else (k,x) :: dk f v r) from rfl]
  by_cases hk:k=f
  ·rw [if_pos hk]
   by_cases h:g=k
   ·have hb:(g == k)=true:=beq_iff_eq.mpr h
    simp only [List.lookup,hb,if_pos (h.trans hk)]
   ·have hb:(g == k)=false:=beq_eq_false_iff_ne.mpr h
    simp only [List.lookup,hb,if_neg (fun e:g=f=>h (e.trans hk.symm))]
  ·rw [if_neg hk]
   by_cases h:g=k
   ·have hb:(g == k)=true:=beq_iff_eq.mpr h
    simp only [List.lookup,hb,if_neg (fun e:g=f=>hk (h.symm.trans e))]
   ·have hb:(g == k)=false:=beq_eq_false_iff_ne.mpr h
    simp only [List.lookup,hb]
    exact ih
theorem r8 (f:Str) (v:V):∀ fs:List (Str × V),f ∈ (dk f v fs).map (·.1)∧∀ g,g ∈ fs.map (·.1)→g ∈ (dk f v fs).map (·.1)
 | []=>⟨by simp [dk],fun g h=>by simp at h⟩
 | (k,x) :: r=>by
  obtain ⟨i1,i2⟩:=r8 f v r
  rw [show dk f v ((k,x) :: r)=(if k=f then (k,v) :: r else (k,x) :: dk f v r) from rfl]
  by_cases hk:k=f
  ·rw [if_pos hk]
   subst hk
   exact ⟨by simp,fun g h=>by simpa using h⟩
  ·rw [if_neg hk]
   refine ⟨?_,fun g h=>?_⟩
   ·rw [List.map_cons]
    exact List.mem_cons_of_mem _ i1
   ·rw [List.map_cons] at h ⊢
    rcases List.mem_cons.mp h with e | e
    ·exact List.mem_cons.mpr (.inl e)
    ·exact List.mem_cons_of_mem _ (i2 g e)
theorem tp (f:Str) (v:V):∀ fs:List (Str × V),(dk f v fs).length≤fs.length+1
 | []=>by simp [dk]
 | (k,x) :: r=>by
  have ih:=tp f v r
  rw [show dk f v ((k,x) :: r)=(if k=f then (k,v) :: r else (k,x) :: dk f v r) from rfl]
  by_cases hk:k=f
  ·rw [if_pos hk,List.length_cons,List.length_cons];omega
  ·rw [if_neg hk,List.length_cons,List.length_cons];omega
theorem mh.some_of {v:V} {o:Option Value} (r:mh (some v) o):∃ u,o=some u∧RelV v u:=by
 cases o with
 | none=>exact (show False from r).elim
 | some u=>exact ⟨u,rfl,r⟩
theorem mh.none_of {o:Option Value} (r:mh none o):o=none:=by
 cases o with
 | none=>rfl
 | some u=>exact (show False from r).elim
theorem Fz {v:V} {u:Value} (r:RelV v u):PySem.W.handedIn u=true:=by
 cases v with
 | bq=>cases (show u=Value.none from r);rfl
 | bl b=>cases (show u=Value.bool b from r);rfl
 | int i=>obtain ⟨t,e⟩:=(show ∃ t,u=Value.int i t from r);cases e;rfl
 | str x=>obtain ⟨t,e⟩:=(show ∃ t,u=Value.str x t from r);cases e;rfl
 | EJ b=>obtain ⟨t,e⟩:=(show ∃ t,u=Value.bytes b t from r);cases e;rfl
 | QX b=>obtain ⟨t,e⟩:=(show ∃ t,u=Value.float b t from r);cases e;rfl
 | ref a=>cases (show u=Value.ref a from r);rfl
 | ty n=>cases (show u=Value.type n from r);rfl
section
variable {P:Program} {w:World} {H H':Hp} {h h':Heap} {a C dx:Addr} {fs KZ:List (Str × V)}
theorem yz (cn:rZ P w H h) (e:H a=some (.ins C dx fs)):∃ mA,CS h a dx C mA∧(∀ f,mh (fs.lookup f) (mA f))∧PySem.Within mA (fs.map (·.1))∧fs.length≤1000∧H dx=some (.own a):=by
 obtain ⟨d,z,ne,ob,mA,n,r,q⟩:=(show ff P w H h a (.ins C dx fs) from cn a _ e)
 exact ⟨mA,⟨ob,n,ne⟩,r,q,z,d⟩
end
structure F5 (K:PySem.W.Frag) (C:Addr):Prop where
 pg:PySem.W.plainGet K C Str.empty=true
 hd:PySem.W.hasDictIn K C=true
 po:PySem.W.plainOver K C=true
 sa:PySem.W.findIn K (.ref C) "__setattr__"=some (some (.builtin "object.__setattr__"))
theorem F5.get {K:PySem.W.Frag} {C:Addr} (c:F5 K C) (f:Str):PySem.W.plainGet K C f=true:=c.pg
def cu (K:PySem.W.Frag) (C:Addr) (f:Str):Prop:=PySem.W.findIn K (.ref C) f=some none
theorem cu.RM {K:PySem.W.Frag} {C:Addr} {f:Str} (n:cu K C f):PySem.W.takerIn K C f=some none:=by
 unfold PySem.W.takerIn
 rw [show PySem.W.findIn K (.ref C) f=some none from n]
 rfl
structure Con (K:PySem.W.Frag) (C:Addr) (f:Str) (v:V) (u:Value):Prop where
 at_:PySem.W.findIn K (.ref C) f=some (some u)
 rel:RelV v u
 get:PySem.W.specialIn K u "__get__"=some none
 cp:PySem.W.copiedNames.contains f=false
structure mo (K:PySem.W.Frag) (C:Addr) (m:Str) (f:Addr):Prop where
 at_:PySem.W.findIn K (.ref C) m=some (some (.ref f))
 fn:PySem.W.isFn K (.ref f)=true
 kp:PySem.W.keepIn K (.ref f)=true
section
variable {X:Cx} {pins:List (Addr × Obj)} {σ:St} {H:Hp} {s:Shared} {a C dx:Addr} {fs:List (Str × V)} {f:Str} {v:V} {A:Around} {E:Value→Shared→Prop}
theorem vA {b:Bool} {Q:Value→Shared→Prop} (I:Inv X pins σ H s) (e:H a=some (.ins C dx fs)) (c:F5 X.K C) (n:cu X.K C f) (l:fs.lookup f=some v)
  (h:∀ u s',Inv X pins σ H s'→RelV v u→Q u s'):wpAny (model X.prog X.w) A (getAttr (.ref a) f b) Q E s:=by
 obtain ⟨mA,O,r,_,_,_⟩:=yz I.cn e
 obtain ⟨u,hu,ru⟩:=mh.some_of (v:=v) (o:=mA f) (by rw [← l];exact r f)
 exact get_map I.EK O (c.get f) c.hd n hu (Fz ru) (h u _ (I.tok _) ru)
theorem vB {m:Str} {g:Addr} {pl:Sem Bool} {Q:Value × List Value→Shared→Prop} (I:Inv X pins σ H s) (e:H a=some (.ins C dx fs)) (c:F5 X.K C) (k:mo X.K C m g) (l:fs.lookup m=none)
  (h:Q (.ref g,[.ref a]) s):wpAny (model X.prog X.w) A (getMethod (.ref a) m pl) Q E s:=by
 obtain ⟨mA,O,r,_,_,_⟩:=yz I.cn e
 have hn:mA m=none:=mh.none_of (by rw [← l];exact r m)
 exact IE I.EK O (c.get m) k.at_ k.fn hn h
theorem vC {y:V} {u:Value} {Q:Unit→Shared→Prop} (I:Inv X pins σ H s) (e:H a=some (.ins C dx fs)) (c:F5 X.K C) (n:cu X.K C f) (hl:fs.length < 1000) (ry:RelV y u)
  (h:∀ s',Inv X pins σ (upd H a (.ins C dx (dk f y fs))) s'→Q () s'):wpAny (model X.prog X.w) A (setAttr (.ref a) f u) Q E s:=by
 obtain ⟨mA,O,r,wi,_,ho⟩:=yz I.cn e
 have hz:(fs.map (·.1)).length≤sizeLine:=by rw [List.length_map,sizeLine_eq];omega
 refine K4 I.EK O c.sa c.po n.RM c.hd wi hz fun h' O' sb=>h _ ?_
 have hd:∃ o,h'.get? dx=some o:=let ⟨o,_,_,e',_⟩:=O'.ns;⟨o,e'⟩
 refine I.write (x:=a) (e:=dx) (by rw [e];exact True.intro) (.inr ho) (fun b q hb z=>(sb.2 b hb).trans z) hd ?_
 refine ⟨by rw [aE O.ne];exact ho,?_,O.ne,O'.obj,_,O'.ns,fun g=>?_,fun g hg=>?_⟩
 ·have:=tp f y fs;omega
 ·show mh ((dk f y fs).lookup g) (if g=f then some u else mA g)
  rw [tm]
  by_cases q:g=f
  ·rw [if_pos q,if_pos q];exact ry
  ·rw [if_neg q,if_neg q];exact r g
 ·by_cases q:g=f
  ·rw [q];exact (r8 f y fs).1
  ·refine (r8 f y fs).2 g (wi g fun z=>hg ?_)
   show (if g=f then some u else mA g)=none
   rw [if_neg q];exact z
theorem Inv.made (I:Inv X pins σ H s):Inv X pins σ (upd (upd H s.heap.objs.size (.own (s.heap.objs.size+1))) (s.heap.objs.size+1) (.ins C s.heap.objs.size []))
  { s with heap:=(s.heap.push PySem.W.emptyDict).push (PySem.W.instObj C s.heap.objs.size) }:=by
 have e1:(s.heap.push PySem.W.emptyDict).get? s.heap.objs.size=some PySem.W.emptyDict:=Heap.get?_push_size s.heap rfl
 have e2:((s.heap.push PySem.W.emptyDict).push (PySem.W.instObj C s.heap.objs.size)).get? (s.heap.objs.size+1)=some (PySem.W.instObj C s.heap.objs.size):=by
  have:=Heap.get?_push_size (s.heap.push PySem.W.emptyDict) (o:=PySem.W.instObj C s.heap.objs.size) rfl
  rwa [Heap.size_push] at this
 have e3:(s.heap.push PySem.W.emptyDict).Ns s.heap.objs.size (fun _=>none):=⟨PySem.W.emptyDict,#[],_,e1,rfl,(fun e he=>absurd he (by simp)),fun _=>rfl⟩
 have I1:=I.laid (a:=s.heap.objs.size) (o:=.own (s.heap.objs.size+1)) (h':=s.heap.push PySem.W.emptyDict) (t':=s.toks) (fun b u q=>Heap.get?_push_of_some _ q) (Nat.le_refl _) ⟨_,e1⟩
 refine I1.laid (a:=s.heap.objs.size+1) (o:=.ins C s.heap.objs.size []) (t':=s.toks) (fun b u q=>Heap.get?_push_of_some _ q) (Nat.le_of_eq (Heap.size_push _ _)) ?_
 have ne:s.heap.objs.size≠s.heap.objs.size+1:=Nat.ne_of_lt (Nat.lt_succ_self _)
 refine ⟨by rw [aE ne,aB],Nat.zero_le _,ne,e2,fun _=>none,(Heap.Ns1.of_empty e3).at fun o q=>Heap.get?_push_of_some _ q,fun _=>True.intro,fun y hy=>absurd rfl hy⟩
theorem K5 {prog:Program} {w:World} {env:Env} {e:Expr} {f:Str} {pos:Pos} {s:Shared} {Q:Value→Shared→Prop} (hb:attributeBase e f env (eval e env)=eval e env)
  (h:wpAny (model prog w) A (eval e env) (fun o s₁=>wpAny (model prog w) A (getAttr o f true) Q E s₁) E s):wpAny (model prog w) A (eval (.Attribute e f pos) env) Q E s :=
 Attribute_any_ h (by rw [arm_eval_Attribute,hb])
end
def CT (K:PySem.W.Frag) (ta:TE) (f:Str):TE:=fun σ H Q=>ta σ H fun x H1=>∃ a C dx fs v,x=.ref a∧H1 a=some (.ins C dx fs)∧F5 K C∧cu K C f∧fs.lookup f=some v∧Q v H1
def IG (K:PySem.W.Frag) (ta tv:TE) (f:Str):TS:=fun D σ H=>tv σ H fun y H1=>ta σ H1 fun x H2=>∃ a C dx fs,x=.ref a∧H2 a=some (.ins C dx fs)∧F5 K C∧cu K C f∧fs.length < 1000 ∧
 D.nx σ (upd H2 a (.ins C dx (dk f y fs)))
def VU (X:Cx) (op:Operator) (rd:V→V→Hp→VK→Prop):Prop :=
 ∀ (pins:List (Addr × Obj)) (s:Shared) (σ:St) (H:Hp) (x y:V) (u v:Value) (Q:VK),Inv X pins σ H s→RelV x u→RelV y v→rd x y H Q→wpAny (model X.prog X.w) X.A (inplaceOp op u v) (EP X pins σ Q) X.xe s
def y4 (K:PySem.W.Frag) (ta tv:TE) (rd:V→V→Hp→VK→Prop) (f:Str):TS:=fun D σ H=>ta σ H fun x H1=>∃ a C dx fs v,x=.ref a∧H1 a=some (.ins C dx fs)∧F5 K C∧cu K C f∧fs.lookup f=some v ∧
 tv σ H1 fun y H2=>rd v y H2 fun z H3=>∃ RN KZ,H3 a=some (.ins C RN KZ)∧KZ.length < 1000∧D.nx σ (upd H3 a (.ins C RN (dk f z KZ)))
section
variable {X:Cx} {o e value:Expr} {f:Str} {pos pos' y6:Pos} {ta tv:TE}
theorem OT (he:PE X e ta) (hb:attributeBase e f X.env (eval e X.env)=eval e X.env):PE X (.Attribute e f pos) (CT X.K ta f):=by
 intro pins s σ H Q I h
 refine K5 hb (cM (he pins s σ H _ I h) fun u s1 ⟨x,H1,I1,rx,a,C,dx,fs,v,ex,ea,c,n,l,q⟩=>?_)
 subst ex
 obtain rfl:u=Value.ref a:=rx
 exact vA I1 ea c n l fun u' s2 I2 ru=>⟨v,H1,I2,ru,q⟩
theorem OU (ha:PE X o ta) (hv:PE X value tv) (hs:swapsWith value (some (.Attribute o f pos')) pos.line X.env=pure false):PS X (.Assign [.Attribute o f pos'] value pos) (IG X.K ta tv f):=by
 intro pins s σ H D I h
 refine plainObj_wpAny_Assign_Attribute (cM (hv pins s σ H _ I h) fun u s1 ⟨y,H1,I1,ry,q⟩=>cM (ha pins s1 σ H1 _ I1 q) fun ov s2 ⟨x,H2,I2,rx,a,C,dx,fs,ex,ea,c,n,l,q2⟩=>?_) hs
 subst ex
 obtain rfl:ov=Value.ref a:=rx
 exact vC I2 ea c n l ry fun s3 I3=>⟨σ,_,I3,q2⟩
theorem yG {op:Operator} {rd:V→V→Hp→VK→Prop} (ha:PE X o ta) (hv:PE X value tv) (Zq:VU X op rd):PS X (.AugAssign (.Attribute o f y6) op value pos) (y4 X.K ta tv rd f):=by
 intro pins s σ H D I h
 refine wpAny_AugAssign_AttributeAny (cM (ha pins s σ H _ I h) fun ov s1 ⟨x,H1,I1,rx,a,C,dx,fs,v,ex,ea,c,n,l,q⟩=>?_)
 subst ex
 obtain rfl:ov=Value.ref a:=rx
 refine vA I1 ea c n l fun u s2 I2 ru=>cM (hv pins s2 σ H1 _ I2 q) fun w3 s3 ⟨y,H2,I3,ry,q3⟩=>cM (Zq pins s3 σ H2 v y u w3 _ I3 ru ry q3) fun w4 s4 ⟨z,H3,I4,rz,RN,KZ,Zr,l',q4⟩=>?_
 exact vC I4 Zr c n l' rz fun s5 I5=>⟨σ,_,I5,q4⟩
end
section
variable {X:Cx} {pins:List (Addr × Obj)} {σ:St} {H:Hp} {s:Shared} {A:Around} {E:Value→Shared→Prop} {Q:Value→Shared→Prop} {c:Value} {b:Bool}
inductive uK (K:PySem.W.Frag) (H:Hp):V→Value→Prop where
 | bq:uK K H .bq (.type "NoneType")
 | bl (x:Bool):uK K H (.bl x) (.type "bool")
 | int (i:Int):uK K H (.int i) (.type "int")
 | str (x:Str):uK K H (.str x) (.type "str")
 | QX (x:UInt64):uK K H (.QX x) (.type "float")
 | lst {a:Addr} {xs:List V} (e:H a=some (.lst xs)):uK K H (.ref a) (.type "list")
 | yC {a:Addr} {o:Obj} {xs:List V} (e:H a=some (.yC o (.lst xs))):uK K H (.ref a) (.type "list")
 | tup {a:Addr} {xs:List V} (e:H a=some (.tup xs)):uK K H (.ref a) (.type "tuple")
 | dK {a:Addr} {bQ:List (Key × V)} (e:H a=some (.dK bQ)):uK K H (.ref a) (.type "dict")
 | dT {a:Addr} {bQ:List (List Key × V)} (e:H a=some (.dT bQ)):uK K H (.ref a) (.type "dict")
 | ins {a C dx:Addr} {fs:List (Str × V)} (e:H a=some (.ins C dx fs)) (cl:F5 K C) (ha:PySem.W.findIn K (.ref C) "__class__"=some (some (.builtin "object.__class__")))
   (hn:PySem.W.specialIn K (.builtin "object.__class__") "__get__"=some (some (.builtin "getset_descriptor.__get__"))) (VV:PySem.W.takesIn K (.builtin "object.__class__")=some true)
   (hm:PySem.W.mroIn K C (.type "object")=some true):uK K H (.ref a) (.ref C)
end
end L2
namespace L2
open PySem PySem.Spec PyProof.Rows
structure dm (k:Nat) (A:Around):Prop where
 hd:A.handled=none
 dp:A.depth+3 * k+5 < recursionLimit
 un:A.units+16 * k+200 < cLine
theorem dm.mono {j k:Nat} {A:Around} (r:dm k A) (h:j≤k):dm j A:=⟨r.hd,by have:=r.dp;omega,by have:=r.un;omega⟩
theorem dm.deeper {k:Nat} {A:Around} (r:dm (k+1) A) (env:Env):dm k (A.deeper env) :=
 ⟨r.hd,by have:=r.dp;show A.depth+1+3 * k+5 < _;omega,by have:=r.un;show A.units+3+16 * k+200 < _;omega⟩
theorem dm.in1 {k:Nat} {A:Around} (r:dm (k+1) A):dm k A.in1 :=
 ⟨r.hd,by have:=r.dp;show A.depth+3 * k+5 < _;omega,by have:=r.un;show A.units+1+16 * k+200 < _;omega⟩
theorem CU {A:Around} {C:Addr} {us:List Value} {kw:List (Str × Value)}:(A.under (.builtin "type.__call__" ⟨.ref C :: us,kw⟩)).depth=A.depth+1:=by
 first | rfl | simp [Around.under,Code.weight,Code.isCreation,Code.isGuard,Code.isCaller,Code.frames,Code.isFrame,guardIds]
theorem CV {A:Around} {C:Addr} {us:List Value} {kw:List (Str × Value)}:(A.under (.builtin "type.__call__" ⟨.ref C :: us,kw⟩)).units=A.units+1:=by
 first | rfl | simp [Around.under,Code.cUnits,Code.frames,Code.isFrame]
theorem dm.make {k:Nat} {A:Around} (r:dm (k+1) A) (C:Addr) (us:List Value) (kw:List (Str × Value)):dm k (A.under (.builtin "type.__call__" ⟨.ref C :: us,kw⟩)) :=
 ⟨r.hd,by have:=r.dp;rw [CU];omega,by have:=r.un;rw [CV];omega⟩
theorem dm.depth {k:Nat} {A:Around} (r:dm k A):A.depth < recursionLimit:=by have:=r.dp;omega
theorem dm.units {k:Nat} {A:Around} (r:dm k A):A.units+64 < cLine:=by have:=r.un;omega
def vD:TA:=fun _ H Q=>Q [] H
def jO (ta:TE) (tr:TA):TA:=fun σ H Q=>ta σ H fun x H1=>tr σ H1 fun xs H2=>Q (x :: xs) H2
section
variable {X:Cx} {e:Expr} {es:List Expr} {te:TE} {t:TA} {pos:Pos}
theorem aC:PA X [] vD:=fun _ _ _ _ H Q I h=>Calls.spliced_nil ⟨[],H,I,.nil,h⟩
theorem aA (ha:PE X e te) (hr:PA X es t) (hs:starEach (e :: es) X.env=(false,eval e X.env) :: starEach es X.env:=by rfl):PA X (e :: es) (jO te t):=by
 intro pos pins s σ H Q I h
 rw [hs]
 show wpAny _ _ (spliced ((false,eval e X.env) :: backTo pos (starEach es X.env))) _ _ s
 refine Calls.spliced_cons (cM (ha pins s σ H _ I h) fun u s1 ⟨x,H1,I1,r1,q1⟩=>?_)
 exact cM (hr pos pins s1 σ H1 _ I1 q1) fun us s2 ⟨xs,H2,I2,r2,q2⟩=>⟨x :: xs,H2,I2,.cons r1 r2,q2⟩
def F6 (t:TA):TE:=fun σ H Q=>t σ H fun xs H1=>xs.length≤sizeLine∧∀ p,H1 p=none→Q (.ref p) (upd H1 p (.tup xs))
def K6 (t:TA):TE:=fun σ H Q=>t σ H fun xs H1=>xs.length≤sizeLine∧∀ p,H1 p=none→Q (.ref p) (upd H1 p (.lst xs))
theorem bX {x1} (h:PA X es t):PE X (.Tuple es x1 pos) (F6 t):=by
 intro pins s σ H Q I hq
 refine wpAny_Tuple_spliced (cM (h pos pins s σ H _ I hq) fun us s1 ⟨xs,H1,I1,r,z,q⟩=>⟨by rw [← r.length];exact z,?_⟩)
 have hf:H1 s1.heap.objs.size=none:=I1.cn.fresh (Nat.le_refl _)
 refine ⟨.ref s1.heap.objs.size,upd H1 s1.heap.objs.size (.tup xs),I1.laid (t':=s1.toks) (fun b u e=>Heap.get?_push_of_some _ e) (Nat.le_refl _) ?_,rfl,q _ hf⟩
 exact ⟨z,us,r,⟨_,Heap.get?_push_size _ rfl,rfl,_,rfl⟩⟩
theorem bH (h:PA X es t):PE X (.List es pos) (K6 t):=by
 intro pins s σ H Q I hq
 refine wpAny_List_spliced (cM (h pos pins s σ H _ I hq) fun us s1 ⟨xs,H1,I1,r,z,q⟩=>⟨by rw [← r.length];exact z,?_⟩)
 have hf:H1 s1.heap.objs.size=none:=I1.cn.fresh (Nat.le_refl _)
 refine ⟨.ref s1.heap.objs.size,upd H1 s1.heap.objs.size (.lst xs),I1.laid (t':=s1.toks) (fun b u e=>Heap.get?_push_of_some _ e) (Nat.le_refl _) ?_,rfl,q _ hf⟩
 exact ⟨z,us,0,r,Heap.get?_push_size _ rfl⟩
end
abbrev Sp:=List V→Hp→VK→XK→Prop
abbrev Ai:=List Env→Hp→Shared→XK→Value→Shared→Prop
structure xE (P:Program) (w:World) (K:PySem.W.Frag) (mg:Str→Option Value) (base:Heap) (A:Around) (outer:List Env) (s:Shared) (H:Hp):Prop where
 frames:A.frames=some outer
 mod:Mod K mg base
 bs:∀ b o,base.get? b=some o→s.heap.get? b=some o∧H b=none
 Hn:base.objs.size≤s.heap.objs.size
 rf:s.heap.FunFrames base outer
 NM:∀ b ∈ oP outer,H b=none
 cn:rZ P w H s.heap
 bare:AllBare s.gens
def CE (outer:List Env) (P:Program) (w:World) (H:Hp) (s:Shared) (Q:VK) (u:Value) (s':Shared):Prop :=
 ∃ v H',s'.os=s.os∧AllBare s'.gens∧Un (oP outer) [] H H' s.heap s'.heap∧rZ P w H' s'.heap∧RelV v u∧Q v H'
def CR (CX:Ai) (outer:List Env) (P:Program) (w:World) (H:Hp) (s:Shared) (Q:VK) (E:XK) (r:Result) (s':Shared):Prop :=
 match r with
 | .ok (.ret u)=>CE outer P w H s Q u s'
 | .ok _=>False
 | .error e=>CX outer H s E e s'
structure bV (P:Program) (w:World) (K:PySem.W.Frag) (mg:Str→Option Value) (base:Heap) (CX:Ai) (k:Nat) (f:Addr) (fd:FuncData) (ps:List Str) (sp:Sp):Prop where
 len:∀ vs H Q E,sp vs H Q E→vs.length=ps.length
 run:∀ (A:Around) (outer:List Env) (s:Shared) (H:Hp) (args:Args) (us:List Value) (vs:List V) (Q:VK) (E:XK),dm k A→xE P w K mg base A outer s H→BindsTo s fd args (ps.zip us)→aq vs us→sp vs H Q E →
  codeAny (model P w) A (.call (.ref f) args) (CR CX outer P w H s Q E) s
theorem bV.mono {P:Program} {w:World} {K:PySem.W.Frag} {mg:Str→Option Value} {base:Heap} {CX:Ai} {j k:Nat} {f:Addr} {fd:FuncData} {ps:List Str} {sp:Sp} (F:bV P w K mg base CX j f fd ps sp) (h:j≤k) :
  bV P w K mg base CX k f fd ps sp:=⟨F.len,fun A outer s H args us vs Q E hr=>F.run A outer s H args us vs Q E (hr.mono h)⟩
theorem bV.imp {P:Program} {w:World} {K:PySem.W.Frag} {mg:Str→Option Value} {base:Heap} {CX:Ai} {k:Nat} {f:Addr} {fd:FuncData} {ps:List Str} {sp Xn:Sp} (F:bV P w K mg base CX k f fd ps sp)
  (h:∀ vs H Q E,Xn vs H Q E→sp vs H Q E):bV P w K mg base CX k f fd ps Xn :=
 ⟨fun vs H Q E q=>F.len vs H Q E (h _ _ _ _ q),fun A outer s H args us vs Q E hr he hb hv hs=>F.run A outer s H args us vs Q E hr he hb hv (h _ _ _ _ hs)⟩
theorem xE.make {P:Program} {w:World} {K:PySem.W.Frag} {mg:Str→Option Value} {base:Heap} {A:Around} {outer:List Env} {s:Shared} {H:Hp} (e:xE P w K mg base A outer s H) (C:Addr) (us:List Value) (kw:List (Str × Value)) :
  xE P w K mg base (A.under (.builtin "type.__call__" ⟨.ref C :: us,kw⟩)) outer s H:=⟨by first | exact e.frames | (simpa [Around.under,Code.envs,Code.isFrame,pushEnvs] using e.frames),e.mod,e.bs,e.Hn,e.rf,e.NM,e.cn,e.bare⟩
theorem xE.in1 {P:Program} {w:World} {K:PySem.W.Frag} {mg:Str→Option Value} {base:Heap} {A:Around} {outer:List Env} {s:Shared} {H:Hp} (e:xE P w K mg base A outer s H) :
  xE P w K mg base A.in1 outer s H:=⟨e.frames,e.mod,e.bs,e.Hn,e.rf,e.NM,e.cn,e.bare⟩
section
variable {X:Cx} {pins:List (Addr × Obj)} {σ:St} {H:Hp} {s s':Shared}
theorem Inv.RO (I:Inv X pins σ H s):xE X.prog X.w X.K X.mg X.base X.A X.stack s H :=
 ⟨I.ok.frames,I.ok.mod,I.bs,Nat.le_trans I.ok.Hn I.sz,I.stack,I.yu,I.cn,I.bare⟩
theorem Inv.after {Q:VK} {u:Value} (I:Inv X pins σ H s) (h:CE X.stack X.prog X.w H s Q u s'):EP X pins σ Q u s':=by
 obtain ⟨v,H',os,bare,un,cn,r,q⟩:=h
 obtain ⟨hh,g,d,t,Zs⟩:=s'
 obtain rfl:Zs=s.os:=os
 exact ⟨v,H',I.call (h':=hh) (g':=g) (d':=d) (t':=t) (ch:=[]) un cn bare (fun b z=>absurd z (by simp)),r,q⟩
end
def NR (sp:Sp) (xB:List V) (E:XK) (t:TA):TE:=fun σ H Q=>t σ H fun vs H1=>sp (vs ++ xB) H1 Q E
def EZ (C:Addr) (m:Str) (sp:Sp) (xB:List V) (E:XK) (ta:TE) (t:TA):TE:=fun σ H Q=>ta σ H fun x H1=>∃ a dx fs,x=.ref a∧H1 a=some (.ins C dx fs)∧fs.lookup m=none ∧
 t σ H1 fun vs H2=>sp (x :: (vs ++ xB)) H2 Q E
def RP (C:Addr) (sp:Sp) (xB:List V) (E:XK) (t:TA):TE:=fun σ H Q=>t σ H fun vs H1=>∀ x dx,H1 x=none→H1 dx=none→dx≠x →
 sp (.ref x :: (vs ++ xB)) (upd (upd H1 dx (.own x)) x (.ins C dx [])) (fun v H2=>v=.bq∧Q (.ref x) H2) E
def Binds (K:PySem.W.Frag) (fd:FuncData) (ps:List Str) (ds:List Value):Prop :=
 ∀ (s:Shared) (us:List Value),K.In s.heap→(us ++ ds).length=ps.length→BindsTo s fd ⟨us,[]⟩ (ps.zip (us ++ ds))
theorem Binds.all {K:PySem.W.Frag} {fd:FuncData} {ps:List Str} (h:∀ us:List Value,us.length=ps.length→bindArgs fd ⟨us,[]⟩=pure (ps.zip us)):Binds K fd ps []:=fun s us _ hl=>by
 rw [List.append_nil] at hl ⊢
 exact .of_eq (h us hl)
def k8 (CX:Ai) (X:Cx) (E:XK):Prop:=∀ (pins:List (Addr × Obj)) (σ:St) (H:Hp) (s:Shared) (e:Value) (s':Shared),Inv X pins σ H s→CX X.stack H s E e s'→X.xe e s'
section
variable {X:Cx} {CX:Ai} {k:Nat} {f C:Addr} {fd:FuncData} {ps:List Str} {sp:Sp} {xB:List V} {ds:List Value} {E:XK} {x m:Str} {p pos apos:Pos} {e o:Expr} {es:List Expr} {ta:TE} {t:TA}
theorem CW {pins:List (Addr × Obj)} {σ:St} {H:Hp} {s:Shared} {Q:VK} {us:List Value} {vs:List V} (F:bV X.prog X.w X.K X.mg X.base CX k f fd ps sp) (hr:dm k X.A) (hb:Binds X.K fd ps ds) (hd:aq xB ds) (hx:k8 CX X E)
  (I:Inv X pins σ H s) (r:aq vs us) (h:sp (vs ++ xB) H Q E):wpAny (model X.prog X.w) X.A (call (.ref f) us) (EP X pins σ Q) X.xe s:=by
 have r2:aq (vs ++ xB) (us ++ ds):=r.append hd
 have hl:(us ++ ds).length=ps.length:=by rw [← r2.length];exact F.len _ _ _ _ h
 refine wpAny_call (codeAny_mono (F.run X.A X.stack s H ⟨us,[]⟩ (us ++ ds) (vs ++ xB) Q E hr I.RO (hb s us I.EK hl) r2 h) fun r s' hq=>?_)
 cases r with
 | error e=>exact hx pins σ H s e s' I hq
 | ok fl =>
  cases fl with
  | ret u=>exact I.after hq
  | next=>exact False.elim hq
  | brk=>exact False.elim hq
  | cont=>exact False.elim hq
theorem K7 (F:bV X.prog X.w X.K X.mg X.base CX k f fd ps sp) (hr:dm k X.A) (hg:Gl X x) (hm:X.mg x=some (.ref f)) (hk:PySem.W.keepIn X.K (.ref f)=true) (hb:Binds X.K fd ps ds) (hd:aq xB ds) (hx:k8 CX X E)
  (ha:PA X (e :: es) t) (IH:(x == ("__debug__":Str))=false:=by decide) (he:starEach (e :: es) X.env=(false,eval e X.env) :: starEach es X.env:=by rfl) (oQ:(backTo pos (starEach es X.env)).any (·.1)=false:=by rfl) :
  PE X (.Call (.Name x p) (e :: es) [] pos) (NR sp xB E t):=by
 intro pins s σ H Q I h
 refine wpAny_Call_Name_kw (uW I hg hm ?_ IH)
 refine PySem.W.callWith_K (h₀:=X.base) I.ok.mod.QZ hk (cM (ha pos pins s σ H _ I h) fun us s1 ⟨vs,H1,I1,r,q⟩=>⟨I1.EK,?_⟩) he oQ
 exact CW F hr hb hd hx I1 r q
theorem oR {pl:Sem Bool} (he:PE X o ta) (c:F5 X.K C) (hm:mo X.K C m f) (F:bV X.prog X.w X.K X.mg X.base CX k f fd ps sp) (hr:dm k X.A) (hb:Binds X.K fd ps ds) (hd:aq xB ds) (hx:k8 CX X E) (ha:PA X (e :: es) t)
  (CM:starEach (e :: es) X.env=(false,eval e X.env) :: starEach es X.env:=by rfl) (oQ:(backTo pos (starEach es X.env)).any (·.1)=false:=by rfl)
  (ht:eval (.Call (.Attribute o m apos) (e :: es) [] pos) X.env=(do
   let ov ← eval o X.env
   standAt apos.atName
   let (f,first) ← holding [ov] (getMethod ov m pl)
   callWith pos f first (backTo pos (starEach (e :: es) X.env)) (backToKw pos (keywordEach [] X.env))):=by rfl) :
  PE X (.Call (.Attribute o m apos) (e :: es) [] pos) (EZ C m sp xB E ta t):=by
 intro pins s σ H Q I h
 refine PySem.W.methodCall_KW (pl:=pl) (cM (he pins s σ H _ I h) fun u s1 ⟨x,H1,I1,rx,a,dx,fs,ex,ea,l,q⟩=>?_) ht
 subst ex
 obtain rfl:u=Value.ref a:=rx
 refine vB I1 ea c hm l ?_
 refine PySem.W.callWith_K (first:=[.ref a]) (h₀:=X.base) I.ok.mod.QZ hm.kp (cM (ha pos pins s1 σ H1 _ I1 q) fun us s2 ⟨vs,H2,I2,r,q2⟩=>⟨I2.EK,?_⟩) CM oQ
 exact CW (us:=.ref a :: us) (vs:=.ref a :: vs) F hr hb hd hx I2 (.cons rfl r) q2
theorem dB {pl:Sem Bool} (he:PE X o ta) (c:F5 X.K C) (hm:mo X.K C m f) (F:bV X.prog X.w X.K X.mg X.base CX k f fd ps sp) (hr:dm k X.A) (hb:Binds X.K fd ps ds) (hd:aq xB ds) (hx:k8 CX X E)
  (ht:eval (.Call (.Attribute o m apos) [] [] pos) X.env=(do
   let ov ← eval o X.env
   standAt apos.atName
   let (f,first) ← holding [ov] (getMethod ov m pl)
   callWith pos f first (backTo pos (starEach [] X.env)) (backToKw pos (keywordEach [] X.env))):=by rfl) :
  PE X (.Call (.Attribute o m apos) [] [] pos) (EZ C m sp xB E ta vD):=by
 intro pins s σ H Q I h
 refine PySem.W.methodCall_KW (pl:=pl) (cM (he pins s σ H _ I h) fun u s1 ⟨x,H1,I1,rx,a,dx,fs,ex,ea,l,q⟩=>?_) ht
 subst ex
 obtain rfl:u=Value.ref a:=rx
 refine vB I1 ea c hm l ?_
 exact PySem.W.callWith_K0 (first:=[.ref a]) I1.EK hm.kp (CW (us:=[.ref a]) (vs:=[.ref a]) F hr hb hd hx I1 (.cons rfl .nil) q)
structure Mk (K:PySem.W.Frag) (C f:Addr):Prop where
 makes:PySem.W.makesIn K C=true
 init:PySem.W.findIn K (.ref C) "__init__"=some (some (.ref f))
 fn:PySem.W.isFn K (.ref f)=true
 kp:PySem.W.keepIn K (.ref C)=true
theorem II {pins:List (Addr × Obj)} {σ:St} {H:Hp} {s:Shared} {Q:VK} {us:List Value} {vs:List V} (M:Mk X.K C f) (F:bV X.prog X.w X.K X.mg X.base CX k f fd ps sp) (hr:dm (k+1) X.A) (hb:Binds X.K fd ps ds) (hd:aq xB ds)
  (hx:k8 CX X E) (I:Inv X pins σ H s) (r:aq vs us)
  (h:∀ x dx,H x=none→H dx=none→dx≠x→sp (.ref x :: (vs ++ xB)) (upd (upd H dx (.own x)) x (.ins C dx [])) (fun v H2=>v=.bq∧Q (.ref x) H2) E) :
  wpAny (model X.prog X.w) X.A (call (.ref C) us) (EP X pins σ Q) X.xe s:=by
 have hq:=h (s.heap.objs.size+1) s.heap.objs.size (I.cn.fresh (Nat.le_succ _)) (I.cn.fresh (Nat.le_refl _)) (Nat.ne_of_lt (Nat.lt_succ_self _))
 have I2:=Inv.made (C:=C) I
 have r2:aq (V.ref (s.heap.objs.size+1) :: (vs ++ xB)) (Value.ref (s.heap.objs.size+1) :: (us ++ ds)):=.cons rfl (r.append hd)
 have hl:(Value.ref (s.heap.objs.size+1) :: us ++ ds).length=ps.length:=by
  have e:=r2.length
  rw [F.len _ _ _ _ hq] at e
  exact e.symm
 refine wpAny_call (IF (f:=f) I.EK M.makes M.init (beq_iff_eq.mp M.fn) (codeAny_mono (F.run _ X.stack _ _ ⟨Value.ref (s.heap.objs.size+1) :: us,[]⟩ (Value.ref (s.heap.objs.size+1) :: (us ++ ds)) _ _ E (hr.make C us [])
  (I2.RO.make C us []) (hb _ (Value.ref (s.heap.objs.size+1) :: us) I2.EK hl) r2 hq) fun r s' OV=>?_))
 cases r with
 | error e=>exact hx pins σ _ _ e s' I2 OV
 | ok fl =>
  cases fl with
  | ret u =>
   obtain ⟨v,H',I3,rv,ev,q3⟩:=I2.after OV
   subst ev
   exact ⟨rv,⟨V.ref (s.heap.objs.size+1),H',I3,rfl,q3⟩⟩
  | next=>exact False.elim OV
  | brk=>exact False.elim OV
  | cont=>exact False.elim OV
theorem Ee (M:Mk X.K C f) (F:bV X.prog X.w X.K X.mg X.base CX k f fd ps sp) (hr:dm (k+1) X.A) (hg:Gl X x) (hm:X.mg x=some (.ref C)) (hb:Binds X.K fd ps ds) (hd:aq xB ds) (hx:k8 CX X E)
  (ha:PA X (e :: es) t) (IH:(x == ("__debug__":Str))=false:=by decide) (he:starEach (e :: es) X.env=(false,eval e X.env) :: starEach es X.env:=by rfl) (oQ:(backTo pos (starEach es X.env)).any (·.1)=false:=by rfl) :
  PE X (.Call (.Name x p) (e :: es) [] pos) (RP C sp xB E t):=by
 intro pins s σ H Q I h
 refine wpAny_Call_Name_kw (uW I hg hm ?_ IH)
 refine PySem.W.callWith_K (h₀:=X.base) I.ok.mod.QZ M.kp (cM (ha pos pins s σ H _ I h) fun us s1 ⟨vs,H1,I1,r,q⟩=>⟨I1.EK,?_⟩) he oQ
 exact II M F hr hb hd hx I1 r q
end
section
variable {X:Cx} {CX:Ai} {k:Nat} {f C:Addr} {fd:FuncData} {ps ks:List Str} {sp:Sp} {E:XK} {x m:Str} {p pos apos VW:Pos} {e o:Expr} {es:List Expr} {Zt:List Keyword} {te ta:TE} {t tk:TA} {nm:Option Str}
structure VX (K:PySem.W.Frag) (fd:FuncData) (ps ks:List Str) (g:List Value→List Value→List Value) (gV:List V→List V→List V):Prop where
 to:∀ (s:Shared) (us ws:List Value),K.In s.heap→(g us ws).length=ps.length→BindsTo s fd ⟨us,ks.zip ws⟩ (ps.zip (g us ws))
 rel:∀ {vs:List V} {us:List Value} {zs:List V} {ws:List Value},aq vs us→aq zs ws→aq (gV vs zs) (g us ws)
variable {g:List Value→List Value→List Value} {gV:List V→List V→List V}
end
structure aS (N P:List Str) (sc:Scope):Prop where
 kind:sc.kind=.function
 co:sc.isCoroutine=false
 gen:sc.isGenerator=false
 nd:N.Nodup
 pre:N.take P.length=P
 par:∀ x ∈ P,sc.names.lookup x=some .local∨sc.names.lookup x=some .cell
 OW:∀ y ∈ sc.names,y.2≠.free
theorem yH {kindOf:Str→Option NameKind} {x:Str}:∀ {binds:List (Str × Value)} {m:Str→Option Value},(∀ v,(x,v) ∉ binds)→bindL kindOf binds m x=m x
 | [],_,_=>rfl
 | (n,v) :: r,m,h=>by
  unfold bindL
  rw [yH fun w hw=>h w (List.mem_cons_of_mem _ hw)]
  split
  ·have:x≠n:=by rintro rfl;exact h v List.mem_cons_self
   simp [this]
  ·rfl
theorem yI {kindOf:Str→Option NameKind} {x:Str}:∀ {binds:List (Str × Value)} {m:Str→Option Value},(∀ v,(x,v) ∉ binds)→bindC kindOf binds m x=m x
 | [],_,_=>rfl
 | (n,v) :: r,m,h=>by
  unfold bindC
  rw [yI fun w hw=>h w (List.mem_cons_of_mem _ hw)]
  split
  ·rfl
  ·have:x≠n:=by rintro rfl;exact h v List.mem_cons_self
   simp [this]
theorem yJ {kindOf:Str→Option NameKind} {x:Str} {v:Value}:∀ {P:List Str} {vs:List Value} {i:Nat} {m:Str→Option Value},P.Nodup→P[i]?=some x→vs[i]?=some v→kindOf x=some .local →
  bindL kindOf (P.zip vs) m x=some v
 | [],_,_,_,_,h,_,_=>by simp at h
 | _ :: _,[],_,_,_,_,h,_=>by simp at h
 | p :: P,w :: vs,0,m,nd,h1,h2,hk=>by
  simp at h1 h2;subst h1;subst h2
  show bindL kindOf ((p,w) :: P.zip vs) m p=_
  unfold bindL
  rw [yH fun v hv=>(List.nodup_cons.mp nd).1 (List.of_mem_zip hv).1,if_pos hk]
  simp
 | p :: P,w :: vs,i+1,m,nd,h1,h2,hk=>by
  show bindL kindOf ((p,w) :: P.zip vs) m x=_
  unfold bindL
  exact yJ (i:=i) (List.nodup_cons.mp nd).2 (by simpa using h1) (by simpa using h2) hk
theorem yK {kindOf:Str→Option NameKind} {x:Str} {v:Value}:∀ {P:List Str} {vs:List Value} {i:Nat} {m:Str→Option Value},P.Nodup→P[i]?=some x→vs[i]?=some v→kindOf x≠some .local →
  bindC kindOf (P.zip vs) m x=some v
 | [],_,_,_,_,h,_,_=>by simp at h
 | _ :: _,[],_,_,_,_,h,_=>by simp at h
 | p :: P,w :: vs,0,m,nd,h1,h2,hk=>by
  simp at h1 h2;subst h1;subst h2
  show bindC kindOf ((p,w) :: P.zip vs) m p=_
  unfold bindC
  rw [yI fun v hv=>(List.nodup_cons.mp nd).1 (List.of_mem_zip hv).1,if_neg hk]
  simp
 | p :: P,w :: vs,i+1,m,nd,h1,h2,hk=>by
  show bindC kindOf ((p,w) :: P.zip vs) m x=_
  unfold bindC
  exact yK (i:=i) (List.nodup_cons.mp nd).2 (by simpa using h1) (by simpa using h2) hk
def start (N:List Str) (vs:List V):St:=vs.map some ++ List.replicate (N.length - vs.length) none
def CY (CX:Ai) (P:Program) (w:World) (K:PySem.W.Frag) (mg:Str→Option Value) (base:Heap) (N:List Str) (qual:Str) (scope:Scope) (f:Addr) (cd:Value) (A:Around) (outer:List Env) (s:Shared) (H:Hp) (E:XK):Cx where
 prog:=P
 w:=w
 K:=K
 mg:=mg
 base:=base
 A:=A.deeper (envOfC qual scope s.heap.objs.size f cd)
 N:=N
 s₀:=s
 H₀:=H
 env:=envOfC qual scope s.heap.objs.size f cd
 outer:=outer
 stack:=envOfC qual scope s.heap.objs.size f cd :: outer
 ex:=[]
 calm:=true
 fn:=fun _=>true
 pn:=[]
 xe:=fun e s'=>wpAny (model P w) (A.deeper (envOfC qual scope s.heap.objs.size f cd)) (leaving (envOfC qual scope s.heap.objs.size f cd) e) (fun _ OX=>CX outer H s E e OX) (fun e' OX=>CX outer H s E e' OX) s'
theorem Aj {sc:Scope} {n:Nat} {x:Str} (h:sc.names.lookup x=some .cell):∃ c,(cellsFrom n sc.names []).lookup x=some c:=by
 have q:=PySem.W.cellsFrom_some sc.names n [] (.inl h)
 exact Option.isSome_iff_exists.mp q
theorem F7 {CX:Ai} {P:Program} {w:World} {K:PySem.W.Frag} {mg:Str→Option Value} {base:Heap} {N ps:List Str} {qual:Str} {scope:Scope} {f:Addr} {cd:Value} {A:Around} {outer:List Env} {s s1:Shared} {H:Hp} {E:XK} {us:List Value} {vs:List V}
  (S:aS N ps scope) (hd:A.handled=none) (e0:xE P w K mg base A outer s H) (hl:vs.length=ps.length) (r:aq vs us)
  (x:InCallC s s.heap.objs.size (bindL (envOfC qual scope s.heap.objs.size f cd).kindOf (ps.zip us) fun _=>none) (cellsFrom (s.heap.objs.size+1) scope.names []) (bindC (envOfC qual scope s.heap.objs.size f cd).kindOf (ps.zip us) fun _=>none) s1) :
  Inv (CY CX P w K mg base N qual scope f cd A outer s H E) [] (start N vs) H s1:=by
 have oQ:ps.length≤N.length:=by have:=congrArg List.length S.pre;rw [List.length_take] at this;omega
 obtain ⟨h1,tk,rfl,hk⟩:=x.done
 have RR:∀ b:Addr,b ∉ (CY CX P w K mg base N qual scope f cd A outer s H E).ex:=fun b z=>absurd (show b ∈ ([]:List Addr) from z) (by simp)
 refine ⟨⟨e0.mod,S.kind,rfl,rfl,Nat.le_refl _,fun y z c h1 h2=>?_,fun y hy=>?_,fun y c _ h=>?_,fun _=>hd,Around.frames_deeper e0.frames,.inr ⟨rfl,rfl⟩,fun b z=>absurd z (RR b),e0.bs,e0.Hn,fun b _ _=>RR b,fun b z=>absurd z (RR b),e0.rf,e0.NM⟩,
  rfl,e0.bare,Un.kept hk,⟨_,x.toInCall.ns,fun i y v h1 h2 h3=>?_⟩,fun y c h=>⟨_,x.cell y c h⟩,e0.cn.fresh (Nat.le_refl _),fun y c h=>?_,fun p hp=>absurd (show p ∈ ([]:List (Addr × Obj)) from hp) (by simp),e0.cn.kept hk,?_⟩
 ·exact name_of_addr x.apart (PySem.mem_of_lookup h1) (PySem.mem_of_lookup h2)
 ·have hy:scope.names.lookup y=some .cell∨scope.names.lookup y=some .free:=hy
  rcases hy with hy | hy
  ·exact Aj hy
  ·exact absurd rfl (S.OW _ (PySem.mem_of_lookup hy))
 ·exact Nat.le_of_lt (x.above y c (PySem.mem_of_lookup h))
 ·have hi:i < vs.length:=by
   unfold start at h2
   by_cases hi:i < vs.length
   ·exact hi
   ·rw [List.getElem?_append_right (by simpa using hi)] at h2
    rw [List.getElem?_replicate] at h2
    split at h2 <;> cases h2
  have ha:vs[i]?=some v:=by
   unfold start at h2
   rw [List.getElem?_append_left (by simpa using hi),List.getElem?_map] at h2
   cases e:vs[i]? with
   | none=>rw [e] at h2;cases h2
   | some a=>rw [e] at h2;cases h2;rfl
  obtain ⟨u,hu,rv⟩:=r.get ha
  have hp:ps[i]?=some y:=by
   rw [← S.pre,List.getElem?_take_of_lt (by omega)];exact h1
  have Xo:ps.Nodup:=by rw [← S.pre];exact S.nd.sublist (List.take_sublist _ _)
  refine ⟨u,rv,?_⟩
  rcases S.par y (List.mem_of_getElem? hp) with k | k
  ·exact .inl ⟨k,yJ Xo hp hu k⟩
  ·obtain ⟨c,e⟩:=Aj (n:=s.heap.objs.size+1) k
   refine .inr ⟨.inl k,c,e,?_⟩
   have q:=x.cell y c e
   rw [yK Xo hp hu (by show scope.names.lookup y≠_;rw [k];decide)] at q
   exact q
 ·exact e0.cn.fresh (Nat.le_of_lt (x.above y c (PySem.mem_of_lookup h)))
 ·unfold start
  show _=N.length
  rw [List.length_append,List.length_map,List.length_replicate]
  omega
theorem Ef {CX:Ai} {P:Program} {w:World} {K:PySem.W.Frag} {mg:Str→Option Value} {base:Heap} {k:Nat} {f:Addr} {name qual:Str} {params:Arguments} {body:List Stmt} {scope:Scope} {dV kV doc pm be ct oc:Value} {an od:Option Addr}
  {Eg:Array (Option Value)} {N ps:List Str} {sp:Sp} (lk:K.lookup f=some ⟨oc,od,.func (PySem.W.fnOf name qual params body scope dV kV doc pm an be ct),Eg⟩) (AR:PySem.W.codeIn K be qual=true) (S:aS N ps scope)
  (len:∀ vs H Q E,sp vs H Q E→vs.length=ps.length)
  (qa:∀ (A:Around) (outer:List Env) (s:Shared) (H:Hp) (vs:List V) (Q:VK) (E:XK),dm k (A.deeper (envOfC qual scope s.heap.objs.size f be))→sp vs H Q E →
   ∃ t,AQ (CY CX P w K mg base N qual scope f be A outer s H E) body t∧t { nx:=fun _ H'=>Q .bq H',rt:=Q } (start N vs) H) :
  bV P w K mg base CX (k+1) f (PySem.W.fnOf name qual params body scope dV kV doc pm an be ct) ps sp:=by
 refine ⟨len,fun A outer s H args us vs Q E hr e0 hb r Eh=>?_⟩
 have hl:=len _ _ _ _ Eh
 have KX:K.In s.heap:=e0.mod.QZ.keeps fun b o e=>(e0.bs b o e).1
 have lim:s.heap.NoLimit:=e0.mod.nolimit.keeps fun b o e=>(e0.bs b o e).1
 have RS:∀ y ∈ ps.zip us,scope.names.lookup y.1=some .local∨(scope.names.lookup y.1=some .cell∧((cellsFrom (s.heap.objs.size+1) scope.names []).lookup y.1).isSome=true):=fun ⟨n,v⟩ hy=>by
  rcases S.par n (List.of_mem_zip hy).1 with q | q
  ·exact .inl q
  ·exact .inr ⟨q,PySem.W.cellsFrom_some _ _ _ (.inl q)⟩
 refine codeAny_call_function hr.depth (KX _ _ lk) rfl S.co S.gen rfl (PySem.W.codeRec_of KX AR) (hb _ _ _ _ ?_)
 refine wpAny_newFunctionEnv_cells S.kind RS fun env he s1 x=>?_
 subst he
 refine ⟨lim.keeps x.toInCall.keep,codeAny_func ?_⟩
 obtain ⟨t,ht,hq⟩:=qa A outer s H vs Q E (hr.deeper _) Eh
 have I:Inv (CY CX P w K mg base N qual scope f be A outer s H E) [] (start N vs) H s1:=F7 S hr.hd e0 hl r x
 refine wpAny_mono (ht [] s1 (start N vs) H _ I hq) (fun fl s' hs=>?_) fun e s' hs=>hs
 have fin:∀ {σ':St} {H':Hp} {v:V} {u:Value},Inv (CY CX P w K mg base N qual scope f be A outer s H E) [] σ' H' s'→RelV v u→Q v H'→CE outer P w H s Q u s' :=
  fun {σ' H' v u} J rv q=>⟨v,H',J.os,J.bare,J.base,J.cn,rv,q⟩
 cases fl with
 | ret u =>
  obtain ⟨v,σ',H',J,rv,q⟩:=hs
  exact fin J rv q
 | next =>
  obtain ⟨σ',H',J,q⟩:=hs
  exact fin (v:=V.bq) (u:=Value.none) J rfl q
 | brk =>
  obtain ⟨_,_,_,q⟩:=hs
  exact False.elim q
 | cont =>
  obtain ⟨_,_,_,q⟩:=hs
  exact False.elim q
end L2
namespace L2
open PySem PySem.Spec PyProof.Rows
section
variable {X:Cx} {x:Str} {p pos:Pos} {e:Expr} {es:List Expr} {t:TA} {id T:String} {r:List V→Hp→VK→Prop}
def Xp (r:List V→Hp→VK→Prop) (t:TA):TE:=fun σ H Q=>t σ H fun vs H1=>r vs H1 Q
theorem bR (hc:iU X (.builtin id) r) (hg:Gl X x) (hm:X.mg x=none) (hv:bootBuiltins x=some (.builtin id)) (ha:PA X (e :: es) t) (hn:x≠"__name__":=by decide) (IH:(x == ("__debug__":Str))=false:=by decide)
  (he:starEach (e :: es) X.env=(false,eval e X.env) :: starEach es X.env:=by rfl) (oQ:(backTo pos (starEach es X.env)).any (·.1)=false:=by rfl):PE X (.Call (.Name x p) (e :: es) [] pos) (Xp r t):=by
 intro pins s σ H Q I h
 refine wpAny_Call_Name_kw (kn I hg hm hv ?_ hn IH)
 exact PyProof.Rows.callWith_builtin1 (cM (ha pos pins s σ H _ I h) fun us s1 ⟨vs,H1,I1,r1,q1⟩=>hc pins s1 σ H1 vs us Q I1 r1 q1) he oQ
theorem fh (hc:iU X (.type T) r) (hg:Gl X x) (hm:X.mg x=none) (hv:bootBuiltins x=some (.type T)) (ha:PA X (e :: es) t) (hn:x≠"__name__":=by decide) (IH:(x == ("__debug__":Str))=false:=by decide)
  (he:starEach (e :: es) X.env=(false,eval e X.env) :: starEach es X.env:=by rfl) (oQ:(backTo pos (starEach es X.env)).any (·.1)=false:=by rfl):PE X (.Call (.Name x p) (e :: es) [] pos) (Xp r t):=by
 intro pins s σ H Q I h
 refine wpAny_Call_Name_kw (kn I hg hm hv ?_ hn IH)
 exact PyProof.Rows.callWith_type1 (cM (ha pos pins s σ H _ I h) fun us s1 ⟨vs,H1,I1,r1,q1⟩=>hc pins s1 σ H1 vs us Q I1 r1 q1) he oQ
end
end L2
namespace HT
open PySem PyProof.Rows
section
open PySem.SeqAt
open PySem.AutoSeq1 (wpAny_loadPart')
open PySem.MeetsSeq PySem.MeetsSeq2 PySem.MeetsSeq3
end
section
variable {prog:Program} {w:World} {A:Around} {E:Value→Shared→Prop} {s:Shared}
def Ak (n d:Nat):Option Int→Nat
 | none=>d
 | some v=>if v < 0 then (v+(n:Int)).toNat else min v.toNat n
theorem Al (n d:Nat):Ak n d none=d:=rfl
theorem oS (n d k:Nat):Ak n d (some (k:Int))=min k n:=by
 show (if (k:Int) < 0 then ((k:Int)+(n:Int)).toNat else min (k:Int).toNat n)=min k n
 rw [if_neg (by omega),Int.toNat_natCast]
end
end HT
namespace L2
open PySem PySem.Spec PyProof.Rows
abbrev TO:=St→Hp→(Option Int→Hp→Prop)→Prop
def PO (X:Cx) (e:Option Expr) (t:TO):Prop :=
 ∀ (pins:List (Addr × Obj)) (s:Shared) (σ:St) (H:Hp) (Q:Option Int→Hp→Prop),Inv X pins σ H s→t σ H Q →
  wpAny (model X.prog X.w) X.A (evalPart e X.env) (fun u s'=>∃ o H',Inv X pins σ H' s'∧IsPart u o∧Q o H') X.xe s
def K8:TO:=fun _ H Q=>Q none H
def RT (t:TE):TO:=fun σ H Q=>t σ H fun x H1=>∃ i,x=.int i∧Q (some i) H1
section
variable {X:Cx} {e:Expr} {te:TE} {lo hi:Option Expr} {tl th:TO} {pos p2:Pos}
theorem uY:PO X none K8:=by
 intro pins s σ H Q I h
 rw [evalPart_none]
 exact wpAny_pure ⟨none,H,I,.none,h⟩
theorem jP (h:PE X e te):PO X (some e) (RT te):=by
 intro pins s σ H Q I hw
 rw [evalPart_some]
 refine cM (h pins s σ H _ I hw) fun u s1 ⟨x,H1,I1,r1,q1⟩=>?_
 obtain ⟨i,rfl,q⟩:=q1
 obtain ⟨t,rfl⟩:=r1
 exact ⟨some i,H1,I1,.int i t,q⟩
def OY (X:Cx) (r:V→Option Int→Option Int→Hp→VK→Prop):Prop :=
 ∀ (pins:List (Addr × Obj)) (s:Shared) (σ:St) (H:Hp) (x:V) (v vl vu:Value) (lo hi:Option Int) (sl:Addr) (Q:VK),Inv X pins σ H s→RelV x v→s.heap.IsSliceOf sl vl vu .none→IsPart vl lo→IsPart vu hi→r x lo hi H Q →
  ∃ T id,typeLookup (.type T) "__getitem__"=pure (some (.builtin id))∧s.TypeIs v T∧wpAny (model X.prog X.w) X.A (getItem v (.ref sl)) (EP X pins σ Q) X.xe s
theorem OY.or {r r':V→Option Int→Option Int→Hp→VK→Prop} (h:OY X r) (h':OY X r'):OY X (fun x lo hi H Q=>r x lo hi H Q∨r' x lo hi H Q):=by
 intro pins s σ H x v vl vu lo hi sl Q I rx hs pl pu q
 rcases q with q | q
 ·exact h pins s σ H x v vl vu lo hi sl Q I rx hs pl pu q
 ·exact h' pins s σ H x v vl vu lo hi sl Q I rx hs pl pu q
def Zu (r:V→Option Int→Option Int→Hp→VK→Prop) (te:TE) (tl th:TO):TE:=fun σ H Q=>te σ H fun x H1=>tl σ H1 fun l H2=>th σ H2 fun u H3=>r x l u H3 Q
theorem kF {r:V→Option Int→Option Int→Hp→VK→Prop} (hr:OY X r) (he:PE X e te) (hl:PO X lo tl) (hu:PO X hi th):PE X (.Subscript e (.Slice lo hi none p2) pos) (Zu r te tl th):=by
 intro pins s σ H Q I h
 refine Subscript_ (cM (he pins s σ H _ I h) fun v s1 ⟨x,H1,I1,r1,q1⟩=>?_)
 refine wpAny_Slice (cM (hl pins s1 σ H1 _ I1 q1) fun vl s2 ⟨l,H2,I2,pl,q2⟩=>cM (hu pins s2 σ H2 _ I2 q2) fun vu s3 ⟨u,H3,I3,pu,q3⟩=>?_)
 rw [evalPart_none]
 refine wpAny_pure ?_
 have I4:Inv X pins σ H3 { s3 with heap:=s3.heap.push { cls:=.type "slice",data:=.fields #[vl,vu,.none] } }:=I3.kept (t':=s3.toks) fun b ob q=>Heap.get?_push_of_some _ q
 obtain ⟨T,id,hT,ht,hg⟩:=hr pins { s3 with heap:=s3.heap.push { cls:=.type "slice",data:=.fields #[vl,vu,.none] } } σ H3 x v vl vu l u s3.heap.objs.size Q I4 r1 (Heap.IsSliceOf.new ..) pl pu q3
 show wpAny (model X.prog X.w) X.A (subscriptTail e (.Slice lo hi none p2) v (.ref s3.heap.objs.size)) (EP X pins σ Q) X.xe { s3 with heap:=s3.heap.push { cls:=.type "slice",data:=.fields #[vl,vu,.none] } }
 exact tail_any (ops:=[.ref s3.heap.objs.size,v]) ht hT hg (by with_unfolding_all rfl)
def iF (xs:List V) (lo hi:Option Int):List V:=(xs.drop (HT.Ak xs.length 0 lo)).take (HT.Ak xs.length xs.length hi - HT.Ak xs.length 0 lo)
theorem Am (xs:List V) (lo hi:Option Int):(iF xs lo hi).length≤xs.length:=by
 unfold iF
 rw [List.length_take,List.length_drop]
 omega
end
end L2
namespace L2
open PySem PySem.Spec PyProof.Rows
def Ei (n:Nat) (i:Int):Option Nat:=if 0≤i then (if i < n then some i.toNat else none) else if -(n:Int)≤i then some (i+n).toNat else none
def tu {α:Type} (xs:List α) (i:Int):Option α:=(Ei xs.length i).bind fun j=>xs[j]?
theorem Ej {n:Nat} {i:Int} {j:Nat} (h:Ei n i=some j):seqIndex? i n=some j∧j < n∧-(n:Int)≤i∧i < n:=by
 unfold Ei at h
 by_cases h0:0≤i
 ·rw [if_pos h0] at h
  by_cases h1:i < n
  ·rw [if_pos h1] at h
   have e:i.toNat=j:=Option.some.inj h
   exact ⟨by rw [seqIndex_of h0 h1,e],by omega,by omega,h1⟩
  ·rw [if_neg h1] at h;cases h
 ·rw [if_neg h0] at h
  by_cases h1:-(n:Int)≤i
  ·rw [if_pos h1] at h
   have e:(i+n).toNat=j:=Option.some.inj h
   exact ⟨by rw [seqIndex_neg (by omega) h1,e],by omega,h1,by omega⟩
  ·rw [if_neg h1] at h;cases h
theorem Ek {α:Type} {xs:List α} {i:Int} {v:α} (h:tu xs i=some v):∃ j,seqIndex? i xs.length=some j∧xs[j]?=some v∧j < xs.length∧-(xs.length:Int)≤i∧i < xs.length:=by
 unfold tu at h
 cases e:Ei xs.length i with
 | none=>rw [e] at h;cases h
 | some j =>
  rw [e] at h
  obtain ⟨h1,h2,h3,h4⟩:=Ej e
  exact ⟨j,h1,h,h2,h3,h4⟩
theorem k9 {α:Type} {xs:List α} {j:Nat} {v:α} (h:xs[j]?=some v):tu xs (j:Int)=some v:=by
 have hj:j < xs.length:=(List.getElem?_eq_some_iff.mp h).1
 have e:Ei xs.length (j:Int)=some j:=by
  unfold Ei
  rw [if_pos (by omega),if_pos (by omega)];simp
 unfold tu;rw [e];exact h
def Em (b:Expr):Prop:=∀ o i,subscripted b false o i=operate [o,i] (getItem o i)
def K9 (X:Cx) (r:R2):Prop :=
 ∀ (value slice:Expr) (pins:List (Addr × Obj)) (s:Shared) (σ:St) (H:Hp) (x y:V) (v u:Value) (Q:VK),Inv X pins σ H s→RelV x v→RelV y u→r x y H Q →
  subscripted slice false v u=operate [v,u] (getItem v u)→wpAny (model X.prog X.w) X.A (subscriptTail value slice v u) (EP X pins σ Q) X.xe s
def Qb (X:Cx) (id:String) (r:V→List V→Hp→VK→Prop):Prop :=
 ∀ (pins:List (Addr × Obj)) (s:Shared) (σ:St) (H:Hp) (x:V) (xs:List V) (v:Value) (us:List Value) (Q:VK),Inv X pins σ H s→RelV x v→aq xs us→r x xs H Q →
  wpAny (model X.prog X.w) X.A (call (.builtin id) (v :: us)) (EP X pins σ Q) X.xe s
section
variable {X:Cx} {a b:Expr} {ta tb:TE} {pos:Pos}
theorem K9.or {r r':R2} (h:K9 X r) (h':K9 X r'):K9 X (fun x y H Q=>r x y H Q∨r' x y H Q):=by
 intro value slice pins s σ H x y v u Q I rx ry q hs
 rcases q with q | q
 ·exact h value slice pins s σ H x y v u Q I rx ry q hs
 ·exact h' value slice pins s σ H x y v u Q I rx ry q hs
theorem Qb.or {id:String} {r r':V→List V→Hp→VK→Prop} (h:Qb X id r) (h':Qb X id r'):Qb X id (fun x xs H Q=>r x xs H Q∨r' x xs H Q):=by
 intro pins s σ H x xs v us Q I rx rs q
 rcases q with q | q
 ·exact h pins s σ H x xs v us Q I rx rs q
 ·exact h' pins s σ H x xs v us Q I rx rs q
theorem af {r:R2} (hr:K9 X r) (ha:PE X a ta) (hb:PE X b tb) (hs:Em b):PE X (.Subscript a b pos) (ON r ta tb):=by
 intro pins s σ H Q I h
 exact Subscript_ (OO ha hb I h fun v u s2 x y H2 I2 rx ry q=>hr a b pins s2 σ H2 x y v u Q I2 rx ry q (hs _ _))
def OZ (K:PySem.W.Frag):R2:=fun x y H Q=>∃ p xs i v,x=.ref p∧y=.int i∧aY K H p xs∧tu xs i=some v∧Q v H
def RU (K:PySem.W.Frag):R2:=fun x y H Q=>∃ p xs i v,x=.ref p∧y=.int i∧cP K H p xs∧tu xs i=some v∧Q v H
theorem LB:K9 X (OZ X.K):=by
 intro value slice pins s σ H x y v u Q I rx ry h hs
 obtain ⟨p,xs,i,z,rfl,rfl,hq,he,q⟩:=h
 cases rx
 obtain ⟨t,rfl⟩:=ry
 obtain ⟨ae,r,pl,hz⟩:=I.list hq
 obtain ⟨j,h1,h2,h3,h4,h5⟩:=Ek he
 obtain ⟨w,ew,rw'⟩:=r.get h2
 have hl:=r.length
 have hn:=u9
 have fin:EP X pins σ Q w s:=⟨z,H,I,rw',q⟩
 by_cases h0:0≤i
 ·have hj:i.toNat=j:=by
   rw [seqIndex_of h0 h5] at h1
   exact Option.some.inj h1
  exact item_listR pl.isList h0 (by omega) (by rw [hj];simpa using ew) fin hs
 ·have hj:(i+(ae.toArray.size:Int)).toNat=j:=by
   rw [seqIndex_neg (by omega) h4] at h1
   rw [List.size_toArray,← hl]
   exact Option.some.inj h1
  exact subscriptTail_builtinR (x:=w) pl.isList.typeIs slot_list_getitem.lookup
   (wpAny_getItem_list_neg (Q:=fun r s'=>r=w∧EP X pins σ Q r s') pl.isList (by omega) (by rw [List.size_toArray] <;> omega) (by omega) (by rw [hj];simpa using ew) ⟨rfl,fin⟩) hs
theorem Oa:K9 X (RU X.K):=by
 intro value slice pins s σ H x y v u Q I rx ry h hs
 obtain ⟨p,xs,i,z,rfl,rfl,hq,he,q⟩:=h
 cases rx
 obtain ⟨t,rfl⟩:=ry
 obtain ⟨ae,r,pl,hz⟩:=I.tuple hq
 obtain ⟨j,h1,h2,h3,h4,h5⟩:=Ek he
 obtain ⟨w,ew,rw'⟩:=r.get h2
 have hl:=r.length
 have hn:=u9
 have fin:EP X pins σ Q w s:=⟨z,H,I,rw',q⟩
 exact subscriptTail_builtinR (x:=w) pl.typeIs slot_tuple_getitem.lookup
  (getItem_tuple (j:=j) (Q:=fun r s'=>r=w∧EP X pins σ Q r s') pl (by omega) (by omega) (by rw [List.size_toArray,← hl];exact h1) (by simpa using ew) ⟨rfl,fin⟩) hs
theorem CZ (ae:List Value) (n j:Nat) (u:Value):Obj.mapSeq (·.setIfInBounds j u) { cls:=.type "list",data:=.seq ae.toArray n }={ cls:=.type "list",data:=.seq (ae.set j u).toArray n }:=by
 simp [Obj.mapSeq]
theorem Inv.lst {pins:List (Addr × Obj)} {σ:St} {H:Hp} {s:Shared} {p:Addr} {xs:List V} (I:Inv X pins σ H s) (h:H p=some (.lst xs)) :
  ∃ (ae:List Value) (n:Nat),aq xs ae∧s.heap.get? p=some { cls:=.type "list",data:=.seq ae.toArray n }∧xs.length≤sizeLine:=by
 obtain ⟨z,ae,n,r,e⟩:=I.cn p _ h
 exact ⟨ae,n,r,e,z⟩
theorem Inv.Ob {pins:List (Addr × Obj)} {σ:St} {H:Hp} {s:Shared} {p:Addr} {xs ys:List V} {ae its':List Value} {n n':Nat} {f:Obj→Obj} (I:Inv X pins σ H s) (h:H p=some (.lst xs))
  (ho:s.heap.get? p=some { cls:=.type "list",data:=.seq ae.toArray n }) (hf:f { cls:=.type "list",data:=.seq ae.toArray n }={ cls:=.type "list",data:=.seq its'.toArray n' }) (r:aq ys its') (hz:ys.length≤sizeLine) (t:Nat) :
  Inv X pins σ (upd H p (.lst ys)) { s with heap:=s.heap.update p f,toks:=t }:=by
 have e:(s.heap.update p f).get? p=some { cls:=.type "list",data:=.seq its'.toArray n' }:=by
  rw [Heap.get?_update_self f ho (by rw [hf] <;> rfl),hf]
 refine I.write (x:=p) (e:=p) (by rw [h];trivial) (.inl rfl) (fun b u hb q=>(Heap.get?_update_other _ _ (Ne.symm hb)).trans q) ⟨_,e⟩ ?_
 exact ⟨hz,its',n',r,e⟩
def RV:V→V→V→Hp→(Hp→Prop)→Prop:=fun o i v H Q=>∃ p xs k j,o=.ref p∧i=.int k∧H p=some (.lst xs)∧Ei xs.length k=some j∧Q (upd H p (.lst (xs.set j v)))
theorem set_list:RD X RV:=by
 intro pins s σ H o i v ov iv u Q I ro ri rv h
 obtain ⟨p,xs,k,j,rfl,rfl,hp,hj,q⟩:=h
 cases ro
 obtain ⟨t,rfl⟩:=ri
 obtain ⟨ae,n,r,ho,hz⟩:=I.lst hp
 obtain ⟨h1,h2,h3,h4⟩:=Ej hj
 have hl:=r.length
 have hn:=u9
 have I':Inv X pins σ (upd H p (.lst (xs.set j v))) { s with heap:=s.heap.update p (Obj.mapSeq (·.setIfInBounds j u)) } :=
  I.Ob hp ho (CZ ae n j u) (r.set rv j) (by rw [List.length_set];exact hz) s.toks
 by_cases h0:0≤k
 ·have hk:k.toNat=j:=by
   rw [seqIndex_of h0 h4] at h1
   exact Option.some.inj h1
  exact PySem.W.ki_setAt ho h0 (by omega) (by rw [List.size_toArray,← hl];exact h4) (by rw [hk];exact ⟨_,I',q⟩)
 ·have hk:(k+(ae.toArray.size:Int)).toNat=j:=by
   rw [seqIndex_neg (by omega) h3] at h1
   rw [List.size_toArray,← hl]
   exact Option.some.inj h1
  exact PySem.W.ki_setBack ho (by omega) (by rw [List.size_toArray,← hl];exact h3) (by omega) (by rw [hk];exact ⟨_,I',q⟩)
theorem y8 (lo hi:Option Int) (n:Nat):(sliceBounds lo hi none n).1=((HT.Ak n 0 lo:Nat):Int)∧(sliceBounds lo hi none n).2.1=((HT.Ak n n hi:Nat):Int)∧(sliceBounds lo hi none n).2.2=1:=by
 refine ⟨?_,?_,rfl⟩
 ·cases lo with
  | none=>simp [sliceBounds,HT.Ak]
  | some i =>
   simp only [sliceBounds,HT.Ak,Option.getD_none,show (1:Int) > 0 by decide,if_true]
   by_cases h:i < 0
   ·simp only [h,if_true] <;> omega
   ·simp only [h,if_false] <;> omega
 ·cases hi with
  | none=>simp [sliceBounds,HT.Ak]
  | some i =>
   simp only [sliceBounds,HT.Ak,Option.getD_none,show (1:Int) > 0 by decide,if_true]
   by_cases h:i < 0
   ·simp only [h,if_true] <;> omega
   ·simp only [h,if_false] <;> omega
theorem xF (ae:List Value) (lo hi:Option Int):slicePick ae.toArray lo hi none=((ae.drop (HT.Ak ae.length 0 lo)).take (HT.Ak ae.length ae.length hi - HT.Ak ae.length 0 lo)).toArray:=by
 obtain ⟨h1,h2,h3⟩:=y8 lo hi ae.toArray.size
 unfold slicePick
 rw [h1,h2,h3]
 simp only [sliceRange_one,pick_run,List.size_toArray] <;> rfl
def RW (K:PySem.W.Frag):V→Option Int→Option Int→Hp→VK→Prop:=fun x lo hi H Q=>∃ a xs,x=.ref a∧aY K H a xs∧∀ p,H p=none→Q (.ref p) (upd H p (.lst (iF xs lo hi)))
theorem LC:OY X (RW X.K):=by
 intro pins s σ H x v vl vu lo hi sl Q I rx hs pl pu h
 obtain ⟨a,xs,rfl,hx,q⟩:=h
 cases rx
 obtain ⟨ae,r,ht,hz⟩:=I.list hx
 have hlen:=r.length
 refine ⟨"list",_,slot_list_getitem.lookup,ht.isList.typeIs,?_⟩
 refine wpAny_getItem_list_slice ht.isList hs pl pu .none (by simp) ?_ (by rw [List.size_toArray] <;> omega)
 rw [xF,← hlen]
 refine ⟨.ref s.heap.objs.size,_,I.laid (t':=s.toks) (o:=.lst (iF xs lo hi)) (fun b ob q=>Heap.get?_push_of_some _ q) (Nat.le_refl _) ?_,rfl,q _ (I.cn.fresh (Nat.le_refl _))⟩
 exact ⟨Nat.le_trans (Am xs lo hi) hz,_,0,(r.drop (HT.Ak xs.length 0 lo)).take (HT.Ak xs.length xs.length hi - HT.Ak xs.length 0 lo),Heap.get?_push_size _ rfl⟩
def An:V→Bool
 | .bq=>true
 | .bl _=>true
 | .int _=>true
 | .str _=>true
 | _=>false
def Ke:V→V→Bool
 | .bq,.bq=>true
 | .bl a,.bl b=>a == b
 | .bl a,.int b=>(if a then 1 else 0) == b
 | .int a,.bl b=>a == (if b then 1 else 0)
 | .int a,.int b=>a == b
 | .str a,.str b=>a == b
 | _,_=>false
theorem pI {A:Around} {s:Shared} {y x:V} {u v:Value} (ry:RelV y u) (rx:RelV x v) (fy:An y=true) (fx:An x=true):SeqAt.EqAt A s u v (Ke y x):=by
 cases y with
 | bq =>
  cases ry
  cases x with
  | bq=>cases rx;exact SeqAt.EqAt.same _
  | bl b=>cases rx;exact SeqAt.EqAt.none_bool b
  | int b=>obtain ⟨t,rfl⟩:=rx;exact SeqAt.EqAt.none_int b t
  | str b=>obtain ⟨t,rfl⟩:=rx;exact SeqAt.EqAt.none_str b t
  | _=>exact absurd (show false=true from fx) Bool.false_ne_true
 | bl a =>
  cases ry
  cases x with
  | bq=>cases rx;exact SeqAt.EqAt.bool_none a
  | bl b=>cases rx;exact SeqAt.EqAt.bool_bool a b
  | int b=>obtain ⟨t,rfl⟩:=rx;exact SeqAt.EqAt.bool_int a b t
  | str b=>obtain ⟨t,rfl⟩:=rx;exact SeqAt.EqAt.bool_str a b t
  | _=>exact absurd (show false=true from fx) Bool.false_ne_true
 | int a =>
  obtain ⟨t',rfl⟩:=ry
  cases x with
  | bq=>cases rx;exact SeqAt.EqAt.int_none a t'
  | bl b=>cases rx;exact SeqAt.EqAt.int_bool a t' b
  | int b=>obtain ⟨t,rfl⟩:=rx;exact SeqAt.EqAt.int_int a t' b t
  | str b=>obtain ⟨t,rfl⟩:=rx;exact SeqAt.EqAt.int_str a t' b t
  | _=>exact absurd (show false=true from fx) Bool.false_ne_true
 | str a =>
  obtain ⟨t',rfl⟩:=ry
  cases x with
  | bq=>cases rx;exact SeqAt.EqAt.str_none a t'
  | bl b=>cases rx;exact SeqAt.EqAt.str_bool a t' b
  | int b=>obtain ⟨t,rfl⟩:=rx;exact SeqAt.EqAt.str_int a t' b t
  | str b=>obtain ⟨t,rfl⟩:=rx;exact SeqAt.EqAt.str_str a t' b t
  | _=>exact absurd (show false=true from fx) Bool.false_ne_true
 | _=>exact absurd (show false=true from fy) Bool.false_ne_true
theorem y9:iU X (.builtin "len") (fun xs H Q=>∃ p ys,xs=[.ref p]∧(aY X.K H p ys∨cP X.K H p ys)∧Q (.int ys.length) H):=by
 intro pins s σ H xs us Q I r h
 obtain ⟨p,ys,rfl,hq,q⟩:=h
 obtain ⟨u,rfl,rx⟩:=vals1 r
 cases rx
 have hn:=u9
 rcases hq with hq | hq
 ·obtain ⟨ae,r',pl,hz⟩:=I.list hq
  have hlen:=r'.length
  exact Calls.call_len_list pl.isList (by simp only [List.size_toArray] <;> omega) ⟨.int ys.length,H,I.tok _,⟨s.toks+1,by rw [List.size_toArray,hlen]⟩,q⟩
 ·obtain ⟨ae,r',pl,hz⟩:=I.tuple hq
  have hlen:=r'.length
  exact len_tuple pl (by simp only [List.size_toArray] <;> omega) ⟨.int ys.length,H,I.tok _,⟨s.toks+1,by rw [List.size_toArray,hlen]⟩,q⟩
theorem iU.or {f:Value} {r r':List V→Hp→VK→Prop} (h:iU X f r) (h':iU X f r'):iU X f (fun xs H Q=>r xs H Q∨r' xs H Q):=by
 intro pins s σ H xs us Q I rs q
 rcases q with q | q
 ·exact h pins s σ H xs us Q I rs q
 ·exact h' pins s σ H xs us Q I rs q
theorem zF:iU X (.type "list") (fun xs H Q=>∃ p ys,xs=[.ref p]∧(aY X.K H p ys∨cP X.K H p ys)∧∀ l,H l=none→Q (.ref l) (upd H l (.lst ys))):=by
 intro pins s σ H xs us Q I r h
 obtain ⟨p,ys,rfl,hq,q⟩:=h
 obtain ⟨u,rfl,rx⟩:=vals1 r
 cases rx
 have fin:∀ (ae:List Value),aq ys ae→ys.length≤sizeLine→∀ (h':Heap) (c':Nat),(∀ b o',s.heap.get? b=some o'→h'.get? b=some o') →
   h'.get? s.heap.objs.size=some { cls:=.type "list",dict:=none,data:=.seq ae.toArray c',slots:=#[] }→EP X pins σ Q (.ref s.heap.objs.size) { s with heap:=h' }:=fun ae r' hz h' c' kp e =>
  ⟨.ref s.heap.objs.size,_,I.laid (t':=s.toks) kp (Nat.le_refl _) (show ff X.prog X.w _ h' _ (.lst ys) from ⟨hz,ae,c',r',e⟩),rfl,q _ (I.cn.fresh (Nat.le_refl _))⟩
 rcases hq with hq | hq
 ·obtain ⟨ae,r',pl,hz⟩:=I.list hq
  have hlen:=r'.length
  obtain ⟨o,ho,hc,n,hd⟩:=pl.isList
  exact call_list_seq p (.inl rfl) ho hc hd (fun h' c' kp e=>fin ae r' hz h' c' kp e) (by simp only [List.size_toArray] <;> omega)
 ·obtain ⟨ae,r',pl,hz⟩:=I.tuple hq
  have hlen:=r'.length
  obtain ⟨o,ho,hc,n,hd⟩:=pl
  exact call_list_seq p (.inr rfl) ho hc hd (fun h' c' kp e=>fin ae r' hz h' c' kp e) (by simp only [List.size_toArray] <;> omega)
def Xq (K:PySem.W.Frag) (T:String) (x:V) (H:Hp):Prop:=match x with
 | .str _=>T="str"
 | .int _=>T="int"
 | .ref p=>(T="list"∧∃ xs,aY K H p xs)∨(T="tuple"∧∃ o,K.lookup p=some o∧o.cls=.type "tuple"∧o.dict=none) ∨
   (T="dict"∧((∃ bQ,H p=some (.dK bQ))∨∃ bQ,H p=some (.dT bQ)))∨(T="set"∧∃ S n,H p=some (.set S n))
 | _=>False
theorem Oc {pins:List (Addr × Obj)} {σ:St} {H:Hp} {s:Shared} {T:String} {x:V} {v:Value} (I:Inv X pins σ H s) (r:RelV x v) (ty:Xq X.K T x H) :
  s.TypeIs v T∧∀ a,v=.ref a→∃ ob,s.heap.get? a=some ob∧ob.dict=none:=by
 cases x with
 | str z =>
  obtain ⟨t,rfl⟩:=r
  cases (show T="str" from ty)
  exact ⟨typeIs_str s z t,fun _ e=>nomatch e⟩
 | int i =>
  obtain ⟨t,rfl⟩:=r
  cases (show T="int" from ty)
  exact ⟨typeIs_int s i t,fun _ e=>nomatch e⟩
 | ref p =>
  cases r
  rcases ty with ⟨rfl,xs,hq⟩ | ⟨rfl,o,hk,hc,hd⟩ | ⟨rfl,hk⟩ | ⟨rfl,S,n,hk⟩
  ·obtain ⟨ae,_,pl,_⟩:=I.list hq
   refine ⟨pl.isList.typeIs,fun a e=>?_⟩
   cases e
   obtain ⟨o,n,e,c,hd,_⟩:=pl
   exact ⟨o,e,hd⟩
  ·refine ⟨⟨o,I.EK p o hk,hc⟩,fun a e=>?_⟩
   cases e
   exact ⟨o,I.EK _ o hk,hd⟩
  ·have z:∃ o,s.heap.get? p=some o∧o.ExactDict:=by
    rcases hk with ⟨bQ,hk⟩ | ⟨bQ,hk⟩
    ·obtain ⟨_,_,_,_,o,_,_,e,ex,_⟩:=I.cn p _ hk
     exact ⟨o,e,ex⟩
    ·obtain ⟨_,_,_,_,o,_,_,e,ex,_⟩:=I.cn p _ hk
     exact ⟨o,e,ex⟩
   obtain ⟨o,e,ex⟩:=z
   refine ⟨⟨o,e,ex.1⟩,fun a e2=>?_⟩
   cases e2
   exact ⟨o,e,ex.2.1⟩
  ·obtain ⟨o,_,_,_,e,ex,_⟩:=I.cn p _ hk
   refine ⟨⟨o,e,ex.1⟩,fun a e2=>?_⟩
   cases e2
   exact ⟨o,e,ex.2.1⟩
 | _=>exact False.elim ty
def VY (K:PySem.W.Frag) (T:String) (r:V→List V→Hp→VK→Prop) (to:TE) (t:TA):TE:=fun σ H Q=>to σ H fun x H1=>Xq K T x H1∧t σ H1 fun xs H2=>r x xs H2 Q
variable {o e:Expr} {es:List Expr} {to:TE} {t:TA} {name:Str} {apos fG:Pos} {T id:String} {r:V→List V→Hp→VK→Prop}
theorem NS (pa:PlainAttrs T) (slot:Slot T name id) (VZ:typeOf (.builtin id)=pure (.type "method_descriptor")) (hm:Qb X id r) (ho:PE X o to) (ha:PA X (e :: es) t)
  (IJ:attributeBase o name X.env (eval o X.env)=eval o X.env:=by rfl)
  (Od:((backTo fG (starEach (e :: es) X.env)).all (fun x=>!x.1) && (backToKw fG (keywordEach [] X.env)).all (fun x=>x.1.isSome)
   && decide ((e :: es).length+([]:List Keyword).length+(if ([]:List Keyword).isEmpty then 0 else 1) < 30))=true:=by rfl)
  (IK:(apos.endLine == fG.line)=true:=by rfl) (hs:starEach (e :: es) X.env=(false,eval e X.env) :: starEach es X.env:=by rfl) (Ca:(backTo fG (starEach es X.env)).any (·.1)=false:=by rfl) :
  PE X (.Call (.Attribute o name apos) (e :: es) [] fG) (VY X.K T r to t):=by
 intro pins s σ H Q I h
 refine wpAny_Call_method_late IJ Od IK rfl (cM (ho pins s σ H _ I h) fun v s1 ⟨x,H1,I1,r1,ty,q1⟩=>?_)
 obtain ⟨h1,h2⟩:=Oc I1 r1 ty
 refine ⟨T,id,pa,slot,VZ,h1,h2,?_⟩
 have hA:=ha fG pins s1 σ H1 _ I1 q1
 rw [hs] at hA ⊢
 refine Calls.callWith_builtin (by show (false || (backTo fG (starEach es X.env)).any (·.1))=false;rw [Ca] <;> rfl) (Calls.evalArgs_plain ?_)
 exact cM hA fun us s2 ⟨vs,H2,I2,r2,q2⟩=>hm pins s2 σ H2 x vs v us Q I2 r1 r2 q2
end
end L2
namespace L2
open PySem PySem.Spec PyProof.Rows
def Xr (X:Cx) (id:String) (r:V→List V→Hp→VK→Prop):Prop :=
 ∀ (pins:List (Addr × Obj)) (s:Shared) (σ:St) (H:Hp) (x:V) (xs:List V) (v:Value) (us:List Value) (Q:VK),Inv X pins σ H s→RelV x v→aq xs us→r x xs H Q →
  wpAny (model X.prog X.w) X.A (call (.builtin id) (v :: us)) (EP X pins σ Q) X.xe s
theorem aq.one:∀ {x:V} {us:List Value},aq [x] us→∃ u,us=[u]∧RelV x u
 | _,_,.cons r .nil=>⟨_,rfl,r⟩
theorem aq.two:∀ {x y:V} {us:List Value},aq [x,y] us→∃ u v,us=[u,v]∧RelV x u∧RelV y v
 | _,_,_,.cons r (.cons q .nil)=>⟨_,_,rfl,r,q⟩
theorem aq.zero:∀ {us:List Value},aq [] us→us=[]
 | _,.nil=>rfl
theorem aq.eraseIdx:∀ {xs:List V} {us:List Value} (i:Nat),aq xs us→aq (xs.eraseIdx i) (us.eraseIdx i)
 | _,_,_,.nil=>.nil
 | _,_,0,.cons _ t=>t
 | _,_,i+1,.cons r t=>.cons r (aq.eraseIdx i t)
theorem aq.reverse {xs:List V} {us:List Value} (h:aq xs us):aq xs.reverse us.reverse:=by
 induction h with
 | nil=>exact .nil
 | cons r t ih=>rw [List.reverse_cons,List.reverse_cons];exact aq.append ih (.cons r .nil)
theorem aq.rep {xs:List V} {us:List Value} (h:aq xs us):∀ k:Nat,aq (List.replicate k xs).flatten (List.replicate k us).flatten
 | 0=>.nil
 | k+1=>by
  rw [List.replicate_succ,List.replicate_succ,List.flatten_cons,List.flatten_cons]
  exact aq.append h (aq.rep h k)
theorem yL {α:Type}:∀ (l:List α) (i:Nat),(l.eraseIdx i).length≤l.length
 | [],_=>Nat.le_refl _
 | _ :: _,0=>Nat.le_succ _
 | _ :: r,i+1=>Nat.succ_le_succ (yL r i)
theorem foldl_rep (ae:List Value):∀ (k:Nat) (acc:List Value),
  List.foldl (fun x1 x2=>x1 ++ x2) acc.toArray (List.replicate k ae.toArray)=(acc ++ (List.replicate k ae).flatten).toArray
 | 0,acc=>by simp
 | k+1,acc=>by
  have e:acc.toArray ++ ae.toArray=(acc ++ ae).toArray:=by simp
  have e2:(acc ++ ae) ++ (List.replicate k ae).flatten=acc ++ (List.replicate (k+1) ae).flatten:=by
   rw [List.replicate_succ,List.flatten_cons,List.append_assoc]
  rw [← e2,← foldl_rep ae k (acc ++ ae),← e,List.replicate_succ,List.foldl_cons]
section
variable {X:Cx} {pins:List (Addr × Obj)} {σ:St} {H:Hp} {s:Shared} {l b:Addr} {xs ys zs:List V}
theorem Inv.RX {ae its':List Value} {n:Nat} {f:Array Value→Array Value} {t':Nat} (I:Inv X pins σ H s) (hH:H l=some (.lst xs))
  (e:s.heap.get? l=some { cls:=.type "list",data:=.seq ae.toArray n }) (hf:f ae.toArray=its'.toArray) (hv:aq ys its') (hz:ys.length≤sizeLine) :
  Inv X pins σ (upd H l (.lst ys)) { s with heap:=s.heap.update l (Obj.mapSeq f),toks:=t' }:=by
 have q:=PySem.IsL.update e f
 rw [hf] at q
 refine I.write (x:=l) (e:=l) (by rw [hH];exact trivial) (.inl rfl) (fun b' u hb hu=>(Heap.get?_update_other s.heap (Obj.mapSeq f) (Ne.symm hb)).trans hu) ⟨_,q⟩ ?_
 exact ⟨hz,its',_,hv,q⟩
theorem Inv.RY {ae:List Value} {t':Nat} (I:Inv X pins σ H s) (hv:aq ys ae) (hz:ys.length≤sizeLine) :
  Inv X pins σ (upd H s.heap.objs.size (.lst ys)) { s with heap:=s.heap.push { cls:=.type "list",data:=.seq ae.toArray },toks:=t' } :=
 I.laid (fun _ _ q=>Heap.get?_push_of_some _ q) (Nat.le_refl _) ⟨hz,ae,0,hv,Heap.get?_push_size _ rfl⟩
theorem Inv.fresh (I:Inv X pins σ H s):H s.heap.objs.size=none:=I.cn.fresh (Nat.le_refl _)
theorem Inv.Oe (I:Inv X pins σ H s) (hH:H l=some (.lst xs)):xs.length≤sizeLine∧∃ (ae:List Value) (n:Nat),aq xs ae∧xs.length=ae.length∧s.heap.get? l=some { cls:=.type "list",data:=.seq ae.toArray n }:=by
 obtain ⟨z,ae,n,r,e⟩:=I.cn l _ hH
 exact ⟨z,ae,n,r,r.length,e⟩
theorem IL {n:Nat} (h:n≤sizeLine):Builtin.List.listTooLong n=false:=by
 unfold Builtin.List.listTooLong
 exact decide_eq_false (by omega)
end
section
variable {X:Cx}
def Eo:V→List V→Hp→VK→Prop:=fun x vs H Q=>∃ l xs y,x=.ref l∧vs=[y]∧H l=some (.lst xs)∧xs.length < sizeLine∧Q .bq (upd H l (.lst (xs ++ [y])))
theorem cV:Xr X "list.append" Eo:=by
 intro pins s σ H x vs v us Q I rx rv h
 obtain ⟨l,xs,y,rfl,rfl,hH,hz,q⟩:=h
 cases rx
 obtain ⟨u,rfl,ru⟩:=rv.one
 obtain ⟨z,ae,n,r,hl,e⟩:=I.Oe hH
 refine call_meets F.slot_list_append ⟨_,e,rfl⟩ F.entry_list_append (F.args_list_append_2 _ _) (PySem.list_append l ae.toArray n u (by rw [List.size_toArray];omega)) ⟨e,?_⟩
 refine ⟨.bq,_,I.RX (its':=ae ++ [u]) hH e (by simp) (r.append (.cons ru .nil)) ?_,rfl,q⟩
 rw [List.length_append,List.length_singleton]
 omega
def Of:V→List V→Hp→VK→Prop:=fun x vs H Q=>∃ l xs i k y,x=.ref l∧vs=[.int i]∧H l=some (.lst xs)∧-(2 ^ 63)≤i∧i < 2 ^ 63∧seqIndex? i xs.length=some k∧xs[k]?=some y∧Q y (upd H l (.lst (xs.eraseIdx k)))
theorem IM:Xr X "list.pop" Of:=by
 intro pins s σ H x vs v us Q I rx rv h
 obtain ⟨l,xs,i,k,y,rfl,rfl,hH,h1,h2,hk,hy,q⟩:=h
 cases rx
 obtain ⟨u,rfl,ru⟩:=rv.one
 obtain ⟨t,rfl⟩:=ru
 obtain ⟨z,ae,n,r,hl,e⟩:=I.Oe hH
 obtain ⟨w,hw,rw'⟩:=r.get hy
 refine call_meets F.slot_list_pop ⟨_,e,rfl⟩ F.entry_list_pop (F.args_list_pop_2 _ _)
  (MeetsSeq.list_pop_at l ae.toArray n i t k w (fitsIndex_both h1 h2) (by rw [List.size_toArray,← hl];exact hk) (by rw [← Array.getElem?_toList];exact hw) (by rw [List.size_toArray];omega)) ⟨e,?_⟩
 refine ⟨y,_,I.RX (its':=ae.eraseIdx k) hH e ?_ (r.eraseIdx k) ?_,rw',q⟩
 ·show ae.toArray.eraseIdxIfInBounds k=(ae.eraseIdx k).toArray
  rw [List.eraseIdxIfInBounds_toArray]
 ·have:=yL xs k
  omega
def Va:R2:=fun x y H Q=>∃ l k xs,x=.ref l∧y=.int k∧H l=some (.lst xs)∧-(2 ^ 63)≤k∧k < 2 ^ 63∧xs.length * k.toNat≤sizeLine ∧
 ∀ p,H p=none→Q (.ref p) (upd H p (.lst (List.replicate k.toNat xs).flatten))
theorem len_rep {α:Type} (xs:List α) (k:Nat):(List.replicate k xs).flatten.length=k * xs.length:=by
 induction k with
 | zero=>simp
 | succ k ih=>rw [List.replicate_succ,List.flatten_cons,List.length_append,ih,Nat.succ_mul,Nat.add_comm]
theorem zG:kr X (binaryOp .Mult) Va:=by
 intro pins s σ H x y v u Q I rx ry h
 obtain ⟨l,k,xs,rfl,rfl,hH,h1,h2,hz,q⟩:=h
 cases rx
 obtain ⟨t,rfl⟩:=ry
 obtain ⟨z,ae,n,r,hl,e⟩:=I.Oe hH
 have hlen:ae.toArray.size * k.toNat≤sizeLine:=by rw [List.size_toArray,← hl];exact hz
 have Vb:¬ ae.toArray.size * k.toNat > (2 ^ 63 - 1) / 8:=by
  have:(sizeLine:Nat)≤(2 ^ 63 - 1) / 8:=by decide
  omega
 have Vc:¬ (!Builtin.List.listFitsIndex k)=true:=by
  rw [fitsIndex_both h1 h2]
  exact Bool.false_ne_true
 have RZ:¬ Builtin.List.listTooLong (ae.toArray.size * k.toNat)=true:=by
  rw [IL hlen]
  exact Bool.false_ne_true
 have Vd:List.foldl (fun x1 x2=>x1 ++ x2) #[] (List.replicate (if ae.toArray.isEmpty=true then 0 else k.toNat) ae.toArray)=(List.replicate k.toNat ae).flatten.toArray:=by
  have f0:∀ m:Nat,List.foldl (fun x1 x2=>x1 ++ x2) #[] (List.replicate m ae.toArray)=(List.replicate m ae).flatten.toArray:=fun m=>by
   have:=foldl_rep ae m []
   rw [List.nil_append] at this
   exact this
  rw [f0]
  cases ae with
  | nil=>simp
  | cons a r'=>rw [if_neg (by simp)]
 refine wpAny_binaryOp_repeat_ref (T:="list") (U:="int") (by decide) ⟨_,e,rfl⟩ (fun s'=>typeIs_int s' k t) noFill_list_mul F.fills_int_mul F.slot_int_rmul repeat_list F.slot_int_index.lookup
  (call_meets F.slot_int_rmul (typeIs_int s k t) F.entry_int_rmul (F.args_int_rmul_2 _ _) (int___rmul___int_list k t l ae.toArray n)
   ⟨e,rfl,⟨_,e,rfl⟩,call_meets F.slot_list_mul ⟨_,e,rfl⟩ F.entry_list_mul (F.args_list_mul_2 _ _) (AutoListH.list___mul___list_int_3 l ae.toArray n k t Vc Vb RZ) ⟨e,?_⟩⟩)
 rw [Vd]
 exact ⟨.ref _,_,I.RY (t':=s.toks) (r.rep k.toNat) (by rw [len_rep,Nat.mul_comm];exact hz),rfl,q _ I.fresh⟩
end
section
variable {prog:Program} {w:World} {A:Around} {E:Value→Shared→Prop} {s:Shared}
end
section
variable {X:Cx}
end
end L2
namespace Att
open PySem PySem.W PySem.Calls PyProof.Rows
theorem uL {P:Params} {h:Heap}:∀ (ns:List Int) (vs:List Value),WellAll P h vs (ns.map WData.int)→IntsAre vs ns:=by
 intro ns
 induction ns with
 | nil =>
  intro vs w
  rw [List.map_nil] at w
  cases w
  exact .nil
 | cons n ns ih =>
  intro vs w
  rw [List.map_cons] at w
  cases w with
  | cons a b =>
   cases a
   exact .cons _ _ (ih _ b)
theorem F8 {l:OpenLaw} {n:Nat} (hn:l.most=some n) {P:Params} {h:Heap} {args:List WData} {vals:List Value}
  (LD:l.row.toRowW.claim.pre args=true) (Ve:WellAll P h vals args) :
  ∃ a vs ns,vals=[Value.ref a]∧args=[WData.list (ns.map WData.int)]∧h.get? a=some { cls:=.type "list",data:=.seq vs.toArray }∧IntsAre vs ns∧ns.length≤n:=by
 have Zv:WShape.hasAll [] args [.list .int]=true:=(pre_splitW LD).1
 have hc:l.pre.holds [] { args:=args }=true:=(pre_splitW LD).2
 obtain ⟨d,r,rfl,h1,h2⟩:=hasAllW_cons Zv
 obtain rfl:=hasAllW_nil h2
 obtain ⟨xs,rfl,h3⟩:=hasW_list h1
 obtain ⟨ns,rfl⟩:=items_int h3
 have hlen:ns.length≤n:=by
  unfold OpenLaw.pre at hc
  have h4:(WTm.not (.lt (.lit (.int (n:Int))) (.len (.arg 0)))).holds [] { args:=[.list (ns.map .int)] }=true:=by
   have h4:=(holds_andW hc).1
   rw [hn] at h4
   exact h4
  have h5:=condW_of h4 (w_not (w_lt w_lit (w_len_list (w_arg rfl))))
  rw [List.length_map] at h5
  refine Nat.le_of_not_lt fun q=>?_
  have q':(n:Int) < ((ns.length:Nat):Int):=by omega
  first
   | (rw [decide_eq_true q'] at h5;exact absurd h5 (by decide))
   | (simp at h5;omega)
 cases Ve with
 | cons w1 w2 =>
  cases w2
  cases w1 with
  | list ho Cb=>exact ⟨_,_,ns,rfl,rfl,ho,uL ns _ Cb,hlen⟩
theorem F9 (l:OpenLaw) (args:List WData):l.row.toRowW.claim.post args (.bool true) args=true :=
 postW_of (r:=l.row.toRowW) (X:=(true == true))
  (show WShape.has [] (.bool true) .bool=true by first | rfl | decide | simp [WShape.has,WShape.arms,WShape.armsAll])
  (show (WTm.eq .res (.lit (.bool true))).value [] { args:=args,res:=some (.bool true),after:=args }=some (.bool (true == true)) from w_eq_bool (w_res rfl) w_lit) rfl
theorem Ao {l:OpenLaw} {n:Nat} {q:Program} {loose:List Str} {XP:(Str→Option Value)→Heap→Prop} {YP:World→Heap→Prop} {d:DefRec}
  (hn:l.most=some n) (Ra:d.params.defaults=[])
  (call:∀ (w:World) (s₀ s₁:Shared) (mg mb:Str→Option Value) (fa:Addr) (o:Obj) (pm cd doc:Value) (a:Addr) (vs:List Value) (ns:List Int),
   Ground q loose [] XP w s₀ mg mb s₁.heap→YP w s₁.heap →
   s₁.heap.get? fa=some o→o.data=.func (docDef d.name d.params d.body d.scope pm cd doc)→s₁.heap.CodeRec cd d.name→mg d.name=some (.ref fa) →
   s₁.heap.get? a=some { cls:=.type "list",data:=.seq vs.toArray }→IntsAre vs ns→ns.length≤n→s₁.gens=#[] →
   codeAny (model l.prog w) callerA (.call (.ref fa) ⟨[.ref a],[]⟩) (fun r s'=>r=.ok (.ret (.bool true))∧OldK s₁.heap s'.heap∧s'.os=s₁.os∧AllBare s'.gens) s₁) :
  WalkO q loose XP YP l.row.toRowW d [] (fun f vs=>PySem.call f vs):=by
 intro w s₀ s₁ mg mb G Y fa o pm cd doc dV kV ho hd AR hD Og hg args vals as LD Zw Vf Ve hlo
 obtain rfl:dV=.none:=Dflts.none hD Ra
 obtain rfl:kV=.none:=Dflts.noKw hD
 obtain ⟨a,vs,ns,rfl,rfl,Oh,hints,hlen⟩:=F8 hn LD Ve
 refine enter_call (codeAny_mono (call w s₀ s₁ mg mb fa o pm cd doc a vs ns G Y ho (fd_plain hd) AR Og Oh hints hlen hg) fun r s' hq=>?_)
 obtain ⟨rfl,h2,h3,h4⟩:=hq
 exact ⟨.inl ⟨.bool true,.bool true,[],rfl,fun _=>rfl,.bool true,F9 l _,fun _=>⟨List.Pairwise.nil,fun _ hm=>(nomatch hm)⟩⟩,h2,h3,h4⟩
section
variable {prog:Program} {w:World} {A:Around} {E:Value→Shared→Prop} {s:Shared} {K:Frag}
end
end Att
namespace L2
open PySem PySem.Spec PyProof.Rows
theorem yM:∀ {vs:List Value} {ns:List Int},IntsAre vs ns→aq (ns.map V.int) vs
 | _,_,.nil=>.nil
 | _,_,.cons n t h=>.cons ⟨t,rfl⟩ (yM h)
def Oi (H:Hp):Prop:=∀ b,H b=none∨∃ o xs,H b=some (.yC o (.lst xs))
theorem IP {P:Program} {w:World} {K:PySem.W.Frag} {mg mb:Str→Option Value} {CX:Ai} {k:Nat} {fa a:Addr} {fd:FuncData} {x:Str} {sp:Sp} {s₁:Shared} {vs:List Value} {ns:List Int}
  (KX:K.In s₁.heap) (Xs:s₁.heap.Ns mainGlobals mg) (hb:s₁.heap.Ns builtinsNs mb) (Zx:∀ x:Str,x≠"__name__"→mb x=bootBuiltins x) (Vg:s₁.heap.NoLimit) (hg:s₁.gens=#[])
  (ha:s₁.heap.get? a=some { cls:=.type "list",data:=.seq vs.toArray }) (hi:IntsAre vs ns) (hl:ns.length≤sizeLine) (hr:dm k callerA)
  (F:∀ base:Heap,K.In base→base.Ns mainGlobals mg→bV P w K mg base CX k fa fd [x] sp) (Rb:∀ (s:Shared) (u:Value),BindsTo s fd ⟨[u],[]⟩ [(x,u)])
  (Eh:∀ H:Hp,Oi H→aY K H a (ns.map V.int)→sp [.ref a] H (fun v _=>v=.bl true) fun _ _ _=>False)
  (Vh:∀ H e s',CX [] H s₁ (fun _ _ _=>False) e s'→False) :
  codeAny (model P w) callerA (.call (.ref fa) ⟨[.ref a],[]⟩) (fun r s'=>r=.ok (.ret (.bool true))∧OldK s₁.heap s'.heap∧s'.os=s₁.os∧AllBare s'.gens) s₁:=by
 have rv:=yM hi
 have Vi:=hi.length
 have core:∀ H:Hp,Oi H→aY K H a (ns.map V.int)→rZ P w H s₁.heap→(∀ b,H b≠none→b=a)→(H a≠none→K.lookup a=none) →
   codeAny (model P w) callerA (.call (.ref fa) ⟨[.ref a],[]⟩) (fun r s'=>r=.ok (.ret (.bool true))∧OldK s₁.heap s'.heap∧s'.os=s₁.os∧AllBare s'.gens) s₁:=by
  intro H hO hS cn hA hK
  have Ep:∀ {b:Addr} {o:Obj},s₁.heap.get? b=some o→H b=none→(yr s₁.heap H).get? b=some o:=fun e n=>Hm e n
  have RR:∀ {b:Addr} {o:Obj} {es:Array DictEntry} {ep:Nat},s₁.heap.get? b=some o→o.data=.dict es ep→H b=none:=fun {b o es ep} e d=>by
   cases q:H b with
   | none=>rfl
   | some u =>
    have e':b=a:=hA b (by rw [q];simp)
    subst e'
    rw [ha] at e;cases e
    have d':Data.seq vs.toArray _=Data.dict es ep:=d
    cases d'
  have UW:∀ {b:Addr} {m:Str→Option Value},s₁.heap.Ns b m→(yr s₁.heap H).Ns b m:=fun {b m} ⟨o,es,ep,e,d,r⟩=>⟨o,es,ep,Ep e (RR e d),d,r⟩
  have Xt:K.In (yr s₁.heap H):=fun b o e=>Ep (KX b o e) (by
   cases q:H b with
   | none=>rfl
   | some u =>
    have e':b=a:=hA b (by rw [q];simp)
    subst e'
    rw [hK (by rw [q];simp)] at e;cases e)
  have hM:Mod K mg (yr s₁.heap H):=⟨Xt,UW Xs,⟨mb,UW hb,Zx⟩,let ⟨mc,h1,h2⟩:=Vg;⟨mc,UW h1,h2⟩⟩
  have e0:xE P w K mg (yr s₁.heap H) callerA [] s₁ H:=⟨rfl,hM,fun b o e=>Kw e,Nat.le_of_eq (Fp _ _),trivial,fun b hb=>absurd (show b ∈ ([]:List Addr) from hb) (by simp),cn,.of_eq hg⟩
  refine codeAny_mono ((F _ Xt (UW Xs)).run callerA [] s₁ H ⟨[.ref a],[]⟩ [.ref a] [.ref a] _ _ hr e0 (Rb s₁ (.ref a)) (.cons rfl .nil) (Eh H hO hS)) fun r s' h=>?_
  cases r with
  | error e=>exact (Vh H e s' h).elim
  | ok fl =>
   cases fl with
   | next=>exact False.elim h
   | brk=>exact False.elim h
   | cont=>exact False.elim h
   | ret u =>
    obtain ⟨v,H',os,bare,un,Vj,r',q⟩:=h
    have q':v=.bl true:=q
    subst q'
    obtain rfl:u=Value.bool true:=r'
    refine ⟨rfl,OldK.of_keep fun b o e=>?_,os,bare⟩
    cases q:H b with
    | none=>exact un.keep b o e q (by intro z;exact absurd (show b ∈ ([]:List Addr) from z) (by simp)) (by simp)
    | some u =>
     rcases hO b with z | ⟨ob,xs,z⟩
     ·rw [q] at z;cases z
     ·have z2:=un.mY b ob _ z
      obtain ⟨e1,_⟩:=cn b _ z
      obtain ⟨e2,_⟩:=Vj b _ z2
      rw [e] at e1;cases e1
      exact e2
 cases hk:K.lookup a with
 | some o =>
  have e:=KX a o hk
  rw [ha] at e
  cases e
  refine core (fun _=>none) (fun _=>.inl rfl) (.inr ⟨_,vs.toArray,_,hk,rfl,rfl,rfl,by rw [List.size_toArray,Vi];exact hl,by simpa using rv⟩) (fun b u z=>by have z':(none:Option HO)=some u:=z;cases z') (fun b z=>absurd rfl z) fun z=>absurd rfl z
 | none =>
  refine core (fun b=>if b=a then some (.yC { cls:=.type "list",data:=.seq vs.toArray } (.lst (ns.map V.int))) else none) (fun b=>?_) (.inl (.inr ⟨{ cls:=.type "list",data:=.seq vs.toArray },if_pos rfl⟩)) (fun b u z=>?_) (fun b z=>?_) fun _=>hk
  ·by_cases hb:b=a
   ·exact .inr ⟨_,_,if_pos hb⟩
   ·exact .inl (if_neg hb)
  ·by_cases hb:b=a
   ·have z':=(if_pos hb).symm.trans z
    cases z'
    subst hb
    exact ⟨ha,by rw [List.length_map];exact hl,vs,_,rv,ha⟩
   ·have z':=(if_neg hb).symm.trans z
    cases z'
  ·by_cases hb:b=a
   ·exact hb
   ·exact absurd (if_neg hb) z
end L2
namespace L2
open PySem PySem.Spec PyProof.Rows
abbrev c9 {K:PySem.W.Frag} {h:Heap} (_:K.In h):PySem.W.Frag:=K
theorem LF {l:PySem.W.OpenLaw} {n k:Nat} {q:Program} {loose:List Str} {XP:(Str→Option Value)→Heap→Prop} {YP:World→Heap→Prop} {d:DefRec} {K:Params→PySem.W.Frag} {CX:World→Ai} {sp:World→Sp} {x:Str}
  (hn:l.most=some n) (UU:n≤sizeLine) (Ra:d.params.defaults=[]) (hr:dm k callerA)
  (hY:∀ (w:World) (h:Heap),YP w h→(K w.params).In h)
  (F:∀ (w:World) (mg:Str→Option Value) (fa:Addr) (h:Heap),(K w.params).In h→h.Ns mainGlobals mg→mg d.name=some (.ref fa) →
   ∃ fd:FuncData,(∀ (s:Shared) (u:Value),BindsTo s fd ⟨[u],[]⟩ [(x,u)]) ∧
    ∀ base:Heap,(K w.params).In base→base.Ns mainGlobals mg→bV l.prog w (K w.params) mg base (CX w) k fa fd [x] (sp w))
  (Eh:∀ (w:World) (H:Hp) (a:Addr) (ns:List Int),ns.length≤n→Oi H→aY (K w.params) H a (ns.map V.int)→sp w [.ref a] H (fun v _=>v=.bl true) fun _ _ _=>False)
  (Vh:∀ (w:World) (H:Hp) (s:Shared) (e:Value) (s':Shared),CX w [] H s (fun _ _ _=>False) e s'→False) :
  PySem.W.WalkO q loose XP YP l.row.toRowW d [] (fun f vs=>PySem.call f vs):=by
 refine Att.Ao hn Ra fun w s₀ s₁ mg mb fa o pm cd doc a vs ns G Y ho hd AR Og Oh hints hlen hg=>?_
 have KX:=hY w _ Y
 obtain ⟨fd,hb,hF⟩:=F w mg fa _ KX G.T.g Og
 exact IP KX G.T.g G.T.b G.T.builtins G.T.nolimit hg Oh hints (Nat.le_trans hlen UU) hr hF hb (fun H hO hS=>Eh w H a ns hlen hO hS) fun H e s'=>Vh w H s₁ e s'
end L2
namespace L2
open PySem PySem.Spec PyProof.Rows
def bS (s:Stmt):Arguments:=match s with
 | .FunctionDef _ a _ _ _ _ _ _ _ _=>a
 | _=>{ posonlyargs:=[],args:=[],vararg:=none,kwonlyargs:=[],kw_defaults:=[],kwarg:=none,defaults:=[] }
def bI (s:Stmt):List Stmt:=match s with
 | .FunctionDef _ _ b _ _ _ _ _ _ _=>b
 | _=>[]
def aG (s:Stmt):Scope:=match s with
 | .FunctionDef _ _ _ _ _ _ sc _ _ _=>sc
 | _=>{ kind:=.function,names:=[],isGenerator:=false,isCoroutine:=false }
abbrev Xu:Ai:=fun _ _ _ _ _ _=>False
abbrev E0:XK:=fun _ _ _=>False
structure jh (K:PySem.W.Frag) (x qual:Str) (st:Stmt) (f:Addr) (fd:FuncData):Prop where
 ex:∃ (oc:Value) (od:Option Addr) (kV doc pm:Value) (an:Option Addr) (be ct:Value) (Eg:Array (Option Value)),
  fd=PySem.W.fnOf x qual (bS st) (bI st) (aG st) .none kV doc pm an be ct∧K.lookup f=some ⟨oc,od,.func fd,Eg⟩∧PySem.W.codeIn K be qual=true
 kp:PySem.W.keepIn K (.ref f)=true
section
variable {P:Program} {w:World} {K:PySem.W.Frag} {mg:Str→Option Value} {base:Heap}
theorem jh.ok {x qual:Str} {st:Stmt} {f:Addr} {fd:FuncData} {N ps:List Str} {k:Nat} {sp:Sp} (F:jh K x qual st f fd) (S:aS N ps (aG st)) (len:∀ vs H Q E,sp vs H Q E→vs.length=ps.length)
  (qa:∀ (be:Value) (A:Around) (outer:List Env) (s:Shared) (H:Hp) (vs:List V) (Q:VK) (E:XK),dm k (A.deeper (envOfC qual (aG st) s.heap.objs.size f be))→sp vs H Q E →
   ∃ t,AQ (CY Xu P w K mg base N qual (aG st) f be A outer s H E).uX (bI st) t∧t { nx:=fun _ H'=>Q .bq H',rt:=Q } (start N vs) H):bV P w K mg base Xu (k+1) f fd ps sp:=by
 obtain ⟨oc,od,kV,doc,pm,an,be,ct,Eg,rfl,lk,AR⟩:=F.ex
 refine Ef lk AR S len fun A outer s H vs Q E hr Eh=>?_
 obtain ⟨t,h,q⟩:=qa be A outer s H vs Q E hr Eh
 exact ⟨t,h.uX,q⟩
theorem jh.binds {x qual:Str} {st:Stmt} {f:Addr} {fd:FuncData} {ps:List Str} (F:jh K x qual st f fd)
  (h:∀ (kV doc pm:Value) (an:Option Addr) (be ct:Value) (us:List Value),us.length=ps.length→bindArgs (PySem.W.fnOf x qual (bS st) (bI st) (aG st) .none kV doc pm an be ct) ⟨us,[]⟩=pure (ps.zip us)):Binds K fd ps []:=by
 obtain ⟨oc,od,kV,doc,pm,an,be,ct,Eg,rfl,lk,AR⟩:=F.ex
 exact .all (h kV doc pm an be ct)
theorem dq {x qual:Str} {st:Stmt} {f:Addr} {oc:Value} {od an:Option Addr} {Eg:Array (Option Value)} {kV doc pm be ct:Value} (l:K.lookup f=some ⟨oc,od,.func (PySem.W.fnOf x qual (bS st) (bI st) (aG st) .none kV doc pm an be ct),Eg⟩)
  (c:PySem.W.codeIn K be qual=true) (k:PySem.W.keepIn K (.ref f)=true):jh K x qual st f (PySem.W.fnOf x qual (bS st) (bI st) (aG st) .none kV doc pm an be ct):=⟨⟨oc,od,kV,doc,pm,an,be,ct,Eg,rfl,l,c⟩,k⟩
end
section
variable {X:Cx}
theorem pv (i:Nat) {x:Str} {pos:Pos} (hN:X.N[i]?=some x:=by rfl) (hv:UN X.env.scope x:=by first | exact Or.inl rfl | exact Or.inr (Or.inl rfl) | exact Or.inr (Or.inr rfl)) (hd:(x == ("__debug__":Str))=false:=by decide)
  (AR:(x == ("__classdict__":Str))=false:=by decide):PE X (.Name x pos) (pF i):=OG hN hv hd AR
end
theorem gu {A B:Prop} (h:B):if false=true then A else B:=by
 rw [if_neg Bool.false_ne_true]
 exact h
theorem gw {A B:Prop} (h:A):if true=true then A else B:=by
 rw [if_pos rfl]
 exact h
theorem Oj {c A B:Prop} [Decidable c] (h1:c→A) (h2:¬ c→B):if c then A else B:=by
 by_cases h:c
 ·rw [if_pos h]
  exact h1 h
 ·rw [if_neg h]
  exact h2 h
def aI (H H':Hp):Prop:=∀ b o,H b=some o→H' b=some o
theorem aI.refl (H:Hp):aI H H:=fun _ _ h=>h
theorem aI.trans {H H1 H2:Hp} (a:aI H H1) (b:aI H1 H2):aI H H2:=fun c o h=>b c o (a c o h)
theorem aI.free {H H':Hp} (e:aI H H') {l:Addr} (h:H' l=Option.none):H l=Option.none:=by
 cases q:H l with
 | none=>rfl
 | some o =>
  rw [e l o q] at h
  cases h
theorem aI.seq {K:PySem.W.Frag} {H H':Hp} {a:Addr} {xs:List V} (e:aI H H') (h:aY K H a xs):aY K H' a xs:=by
 rcases h with (h | ⟨o,h⟩) | h
 ·exact .inl (.inl (e _ _ h))
 ·exact .inl (.inr ⟨o,e _ _ h⟩)
 ·exact .inr h
end L2
namespace L2
open PySem PySem.Spec PyProof.Rows
def cO (env:Env):List (Str × NameKind)→List (Str × Addr)→List (Str × Addr)
 | [],acc=>acc
 | (n,k) :: r,acc=>if k == .free then cO env r ((n,(env.cells.lookup n).getD 0) :: acc) else cO env r acc
theorem pJ {env:Env}:∀ (names:List (Str × NameKind)) (acc:List (Str × Addr)) (f:Str × NameKind→List (Str × Addr)→Sem (ForInStep (List (Str × Addr)))),
  (∀ n k cs,f (n,k) cs=if k == .free then (do let c ← cellOf env n;pure (.yield ((n,c) :: cs))) else pure (.yield cs)) →
  (∀ x ∈ names,x.2=.free→∃ c,env.cells.lookup x.1=some c)→(forIn names acc f:Sem _)=pure (cO env names acc)
 | [],acc,f,_,_=>rfl
 | (n,k) :: r,acc,f,hf,h=>by
  rw [List.forIn_cons,hf]
  unfold cO
  by_cases hk:(k == .free)=true
  ·rw [if_pos hk,if_pos hk]
   obtain ⟨c,e⟩:=h (n,k) List.mem_cons_self (beq_iff_eq.mp hk)
   have e':env.cells.lookup n=some c:=e
   unfold cellOf
   rw [e']
   show (forIn r ((n,c) :: acc) f:Sem _)=_
   exact pJ r _ f hf fun x hx=>h x (List.mem_cons_of_mem _ hx)
  ·rw [if_neg hk,if_neg hk]
   show (forIn r acc f:Sem _)=_
   exact pJ r _ f hf fun x hx=>h x (List.mem_cons_of_mem _ hx)
theorem vE {env:Env} {scope:Scope} (h:∀ x ∈ scope.names,x.2=.free→∃ c,env.cells.lookup x.1=some c):closureFor scope env=pure (cO env scope.names []):=by
 unfold closureFor
 have e:=pJ scope.names [] (fun x cs=>if x.2 == .free then (do let c ← cellOf env x.1;pure (.yield ((x.1,c) :: cs))) else pure (.yield cs)) (fun _ _ _=>rfl) h
 show (forIn scope.names [] _ >>= fun cs=>pure cs)=_
 exact (qb e)
where
 qb {α:Type} {a:α} {t:Sem α} (e:t=pure a):(t >>= fun x=>pure x)=pure a:=by rw [e];rfl
theorem ck {env:Env} {x:Str} {c:Addr}:∀ (names:List (Str × NameKind)) (acc:List (Str × Addr)),(∀ y ∈ names,y.2=.free→∃ c,env.cells.lookup y.1=some c) →
  (∀ c,acc.lookup x=some c→env.cells.lookup x=some c)→(cO env names acc).lookup x=some c→env.cells.lookup x=some c
 | [],acc,_,ha,h=>ha c h
 | (n,k) :: r,acc,hn,ha,h=>by
  unfold cO at h
  have hr:∀ y ∈ r,y.2=.free→∃ c,env.cells.lookup y.1=some c:=fun y hy=>hn y (List.mem_cons_of_mem _ hy)
  by_cases hk:(k == .free)=true
  ·rw [if_pos hk] at h
   obtain ⟨c',e⟩:=hn (n,k) List.mem_cons_self (beq_iff_eq.mp hk)
   have e':env.cells.lookup n=some c':=e
   rw [e'] at h
   refine ck r _ hr (fun c2 q=>?_) h
   rw [List.lookup_cons] at q
   cases hb:x == n with
   | true=>rw [hb] at q;cases q;rw [beq_iff_eq.mp hb];exact e'
   | false=>rw [hb] at q;exact ha c2 q
  ·rw [if_neg hk] at h
   exact ck r _ hr ha h
theorem lB {env:Env} {x:Str}:∀ (names:List (Str × NameKind)) (acc:List (Str × Addr)),((x,NameKind.free) ∈ names∨∃ c,acc.lookup x=some c)→∃ c,(cO env names acc).lookup x=some c
 | [],acc,h=>h.elim (fun z=>by cases z) id
 | (n,k) :: r,acc,h=>by
  unfold cO
  by_cases hk:(k == .free)=true
  ·rw [if_pos hk]
   refine lB r _ ?_
   cases hb:x == n with
   | true=>exact .inr ⟨_,by rw [List.lookup_cons,hb]⟩
   | false =>
    rcases h with h | ⟨c,h⟩
    ·rcases List.mem_cons.mp h with e | e
     ·injection e with e1 _
      rw [e1] at hb;simp at hb
     ·exact .inl e
    ·exact .inr ⟨c,by rw [List.lookup_cons,hb];exact h⟩
  ·rw [if_neg hk]
   refine lB r _ ?_
   rcases h with h | h
   ·rcases List.mem_cons.mp h with e | e
    ·injection e with _ e2
     rw [← e2] at hk;exact absurd rfl hk
    ·exact .inl e
   ·exact .inr h
theorem pK {x:Str} {c:Addr}:∀ (names:List (Str × NameKind)) (n:Nat) (acc:List (Str × Addr)),(cellsFrom n names acc).lookup x=some c→acc.lookup x=some c∨(n≤c∧(x,NameKind.cell) ∈ names)
 | [],_,_,h=>.inl h
 | (y,k) :: r,n,acc,h=>by
  unfold cellsFrom at h
  by_cases hk:(k == .cell)=true
  ·rw [if_pos hk] at h
   rcases pK r _ _ h with q | ⟨q1,q2⟩
   ·rw [List.lookup_cons] at q
    cases hb:x == y with
    | true=>rw [hb] at q;cases q;exact .inr ⟨Nat.le_refl _,by rw [beq_iff_eq.mp hb,beq_iff_eq.mp hk];exact List.mem_cons_self⟩
    | false=>rw [hb] at q;exact .inl q
   ·exact .inr ⟨by omega,List.mem_cons_of_mem _ q2⟩
  ·rw [if_neg hk] at h
   rcases pK r _ _ h with q | ⟨q1,q2⟩
   ·exact .inl q
   ·exact .inr ⟨q1,List.mem_cons_of_mem _ q2⟩
theorem oT {x:Str} {lo:Nat}:∀ (names:List (Str × NameKind)) (n:Nat) (acc:List (Str × Addr)),lo≤n→((x,NameKind.cell) ∈ names∨∃ c,acc.lookup x=some c∧lo≤c)→∃ c,(cellsFrom n names acc).lookup x=some c∧lo≤c
 | [],_,_,_,h=>h.elim (fun z=>by cases z) id
 | (y,k) :: r,n,acc,hn,h=>by
  unfold cellsFrom
  by_cases hk:(k == .cell)=true
  ·rw [if_pos hk]
   refine oT r _ _ (by omega) ?_
   cases hb:x == y with
   | true=>exact .inr ⟨n,by rw [List.lookup_cons,hb],hn⟩
   | false =>
    rcases h with h | ⟨c,h,hc⟩
    ·rcases List.mem_cons.mp h with e | e
     ·injection e with e1 _
      rw [e1] at hb;simp at hb
     ·exact .inl e
    ·exact .inr ⟨c,by rw [List.lookup_cons,hb];exact h,hc⟩
  ·rw [if_neg hk]
   refine oT r _ _ hn ?_
   rcases h with h | h
   ·rcases List.mem_cons.mp h with e | e
    ·injection e with _ e2
     rw [← e2] at hk;exact absurd rfl hk
    ·exact .inl e
   ·exact .inr h
theorem lC {x:Str}:∀ (names:List (Str × NameKind)) (n:Nat) (acc:List (Str × Addr)),(x,NameKind.cell) ∉ names→(cellsFrom n names acc).lookup x=acc.lookup x
 | [],_,_,_=>rfl
 | (y,k) :: r,n,acc,h=>by
  unfold cellsFrom
  have hr:(x,NameKind.cell) ∉ r:=fun z=>h (List.mem_cons_of_mem _ z)
  by_cases hk:(k == .cell)=true
  ·rw [if_pos hk,lC r _ _ hr,List.lookup_cons]
   cases hb:x == y with
   | true=>exact absurd (by rw [beq_iff_eq.mp hb,beq_iff_eq.mp hk];exact List.mem_cons_self) h
   | false=>rfl
  ·rw [if_neg hk];exact lC r _ _ hr
theorem r9:∀ (names:List (Str × NameKind)) (n:Nat) (acc:List (Str × Addr)),(∀ x c,acc.lookup x=some c→c < n)→(∀ x y c,acc.lookup x=some c→acc.lookup y=some c→x=y) →
  ∀ x y c,(cellsFrom n names acc).lookup x=some c→(cellsFrom n names acc).lookup y=some c→x=y
 | [],_,_,_,h=>h
 | (z,k) :: r,n,acc,et,h=>by
  unfold cellsFrom
  by_cases hk:(k == .cell)=true
  ·rw [if_pos hk]
   refine r9 r (n+1) _ (fun x c e=>?_) fun x y c e1 e2=>?_
   ·rw [List.lookup_cons] at e
    cases hb:x == z with
    | true=>rw [hb] at e;cases e;exact Nat.lt_succ_self _
    | false=>rw [hb] at e;exact Nat.lt_succ_of_lt (et x c e)
   ·rw [List.lookup_cons] at e1 e2
    cases hb:x == z with
    | true =>
     rw [hb] at e1;cases e1
     cases Cc:y == z with
     | true=>rw [beq_iff_eq.mp hb,beq_iff_eq.mp Cc]
     | false=>rw [Cc] at e2;exact absurd (et y _ e2) (Nat.lt_irrefl _)
    | false =>
     rw [hb] at e1
     cases Cc:y == z with
     | true=>rw [Cc] at e2;cases e2;exact absurd (et x _ e1) (Nat.lt_irrefl _)
     | false=>rw [Cc] at e2;exact h x y c e1 e2
  ·rw [if_neg hk];exact r9 r n _ et h
theorem ji {x:Str} {c:Addr}:∀ (names:List (Str × NameKind)) (h:Heap) (acc:List (Str × Addr)),(∀ y c,acc.lookup y=some c→∃ v,h.IsCell c v) →
  (cellsFrom h.objs.size names acc).lookup x=some c→∃ v,(pushCells h names).IsCell c v
 | [],h,acc,ha,e=>ha x c e
 | (y,k) :: r,h,acc,ha,e=>by
  unfold cellsFrom at e
  unfold pushCells
  by_cases hk:(k == .cell)=true
  ·rw [if_pos hk] at e ⊢
   rw [show h.objs.size+1=(h.push { cls:=.type "cell",data:=.cell none }).objs.size from (Heap.size_push ..).symm] at e
   refine ji r _ _ (fun z c' q=>?_) e
   rw [List.lookup_cons] at q
   cases hb:z == y with
   | true=>rw [hb] at q;cases q;exact ⟨none,_,Heap.get?_push_size _ rfl,rfl⟩
   | false =>
    rw [hb] at q
    obtain ⟨v,w⟩:=ha z c' q
    exact ⟨v,w.keeps fun b o e=>Heap.get?_push_of_some _ e⟩
  ·rw [if_neg hk] at e ⊢
   exact ji r _ _ ha e
section
variable {M:Model} {A:Around} {E:Value→Shared→Prop} {s:Shared}
theorem Ap {scope:Scope} {globals:Addr} {cl:List (Str × Addr)} {qual:Str} {env:Env} {Q:Env→Shared→Prop}
  (h:Q { scope,locals:=s.heap.objs.size,globals,cells:=cellsFrom (s.heap.objs.size+1) scope.names cl,qual,func:=none,code:=env.code,frame:=env.frame,builtins:=env.builtins }
   { s with heap:=pushCells (s.heap.push { cls:=.type "dict",data:=.dict #[] }) scope.names }) :
  wpAny M A (newFunctionEnv scope globals cl [] qual none .none (some env)) Q E s:=by
 simp only [newFunctionEnv,Option.isSome_some,if_true]
 refine wpAny_bind (wpAny_alloc ?_)
 refine wpAny_bind (wpAny_layCells _ (fun name kind cells=>by cases Zy:kind == NameKind.cell <;> simp [Zy]) _ _ _ _ ?_)
 rw [show ({ s with heap:=s.heap.push { cls:=.type "dict",data:=.dict #[] } }:Shared).heap.objs.size=s.heap.objs.size+1 from Heap.size_push ..]
 refine wpAny_bind ?_
 rw [List.forIn_nil]
 exact wpAny_pure (wpAny_pure h)
end
section
variable {prog:Program} {w:World} {A:Around} {R:Result→Shared→Prop} {s:Shared}
theorem zH {elt target iter:Expr} {ifs:List Expr} {scope:Scope} {pos:Pos} {it acc:Value} {env:Env} (I:Nat→Shared→Prop)
  (turn:∀ n s,I n s→wpAny (model prog w) A (pyNext it) (fun r s₁=>match r with
   | none=>R (.ok .next) s₁
   | some v=>wpAny (model prog w) A (letOwnedTupleGo target it v) (fun _ s₁'=>wpAny (model prog w) A (assign target env v) (fun _ s₂ =>
     wpAny (model prog w) A (forIn ifs true fun c r=>if r=true then do let ok ← isTrue c env (eval c env);pure (ForInStep.yield ok) else pure (ForInStep.yield r)) (fun ok s₃ =>
      if ok=true then wpAny (model prog w) A (eval elt env) (fun x s₄ =>
       wpAny (model prog w) A (call (.builtin "list.append") [acc,x]) (fun _ s₅=>∃ m,m < n∧I m s₅) (fun _ _=>False) s₄) (fun _ _=>False) s₃
      else ∃ m,m < n∧I m s₃) (fun _ _=>False) s₂) (fun _ _=>False) s₁') (fun _ _=>False) s₁) (fun _ _=>False) s)
  (n:Nat) (h:I n s) :
  codeAny (model prog w) A (.compLoop (.ListComp elt [⟨target,iter,ifs,0⟩] scope pos) 0 it acc env) R s:=by
 refine codeAny_loop rfl I (fun n s hI=>?_) n h
 show wpAny _ A ((compTurn (.ListComp elt [⟨target,iter,ifs,0⟩] scope pos) 0 it acc env).onRaise (fun x=>do noteFrame x env;theTreesLotGoes x)) _ _ s
 refine wpAny_noted ?_
 rw [compTurn_list]
 refine wpAny_bind (wpAny_standAt (wpAny_bind (wpAny_mono (turn n s hI) (fun r s₁ h₁=>?_) fun _ _ h'=>h'.elim)))
 cases r with
 | none=>exact wpAny_pure h₁
 | some v =>
  refine wpAny_bind (wpAny_mono h₁ (fun _ s₁' h₁'=>?_) fun _ _ h'=>h'.elim)
  refine wpAny_bind (wpAny_mono h₁' (fun _ s₂ h₂=>wpAny_bind (wpAny_mono h₂ (fun ok s₃ h₃=>?_) fun _ _ h'=>h'.elim)) fun _ _ h'=>h'.elim)
  cases ok with
  | false=>exact wpAny_pure ⟨rfl,h₃⟩
  | true =>
   exact wpAny_bind (wpAny_bind (wpAny_mono h₃ (fun x s₄ h₄=>wpAny_bind (wpAny_mono h₄ (fun _ s₅ h₅=>wpAny_pure (wpAny_pure ⟨rfl,h₅⟩)) fun _ _ h'=>h'.elim)) fun _ _ h'=>h'.elim))
end
end L2
namespace L2
open PySem PySem.Spec PyProof.Rows
def zI (X:Cx) (Nc:List Str) (scope:Scope) (C:Addr) (fp:List Addr) (s:Shared) (H:Hp):Cx where
 prog:=X.prog
 w:=X.w
 K:=X.K
 mg:=X.mg
 base:=X.base
 A:=X.A
 N:=Nc
 s₀:=s
 H₀:=H
 env:=compEnvC scope (cellsFrom (C+1) scope.names (cO X.env scope.names [])) C X.env
 outer:=X.stack
 stack:=X.stack
 ex:=fp
 fn:=fun x=>scope.names.contains (x,NameKind.cell)
 calm:=X.calm
 pn:=[]
 xe:=fun _ _=>False
structure e9 (X:Cx) (Nc:List Str) (ix:List (Option Nat)) (scope:Scope):Prop where
 kind:scope.kind=.function
 nd:Nc.Nodup
 len:ix.length=Nc.length
 loc:∀ x ∈ scope.names,x.2=.local→scope.names.lookup x.1=some .local
 free:∀ x ∈ scope.names,x.2=.free→X.env.kindOf x.1=some .cell∨X.env.kindOf x.1=some .free
 once:∀ x,(x,NameKind.free) ∈ scope.names→(x,NameKind.cell) ∉ scope.names
 out:∀ (i j:Nat) (x:Str),ix[i]?=some (some j)→Nc[i]?=some x→X.N[j]?=some x∧scope.names.lookup x=some .free
def vF (ix:List (Option Nat)) (σ:St):St:=ix.map fun o=>o.bind fun j=>(σ[j]?).bind id
theorem lD {env:Env} {x:Str}:∀ {names:List (Str × NameKind)} {k:NameKind},names.lookup x=some k →
  (names.map fun (n,k)=>if (k == NameKind.free && env.scope.kind == .function && env.kindOf n == some .cell) then (n,NameKind.cell) else (n,k)).lookup x =
   some (if (k == NameKind.free && env.scope.kind == .function && env.kindOf x == some .cell) then NameKind.cell else k)
 | [],_,h=>by simp at h
 | (n,k') :: r,k,h=>by
  show List.lookup x ((if (k' == NameKind.free && env.scope.kind == .function && env.kindOf n == some .cell)=true then (n,NameKind.cell) else (n,k')) :: _)=_
  cases hx:x == n with
  | true =>
   simp only [List.lookup_cons,hx] at h
   cases h
   have e:=beq_iff_eq.mp hx
   subst e
   split <;> simp [List.lookup_cons]
  | false =>
   simp only [List.lookup_cons,hx] at h
   have ih:=lD (env:=env) (names:=r) h
   split <;> (simp only [List.lookup_cons,hx];exact ih)
theorem qd {env:Env} {x:Str}:∀ {names:List (Str × NameKind)},names.lookup x=none →
  (names.map fun (n,k)=>if (k == NameKind.free && env.scope.kind == .function && env.kindOf n == some .cell) then (n,NameKind.cell) else (n,k)).lookup x=none
 | [],_=>rfl
 | (n,k') :: r,h=>by
  show List.lookup x ((if (k' == NameKind.free && env.scope.kind == .function && env.kindOf n == some .cell)=true then (n,NameKind.cell) else (n,k')) :: _)=_
  cases hx:x == n with
  | true=>simp only [List.lookup_cons,hx] at h;cases h
  | false =>
   simp only [List.lookup_cons,hx] at h
   have ih:=qd (env:=env) (names:=r) h
   split <;> (simp only [List.lookup_cons,hx];exact ih)
section
variable {X:Cx} {pins:List (Addr × Obj)} {σ:St} {H:Hp} {s:Shared} {Nc:List Str} {ix:List (Option Nat)} {scope:Scope} {fp:List Addr}
theorem e9.cells (S:e9 X Nc ix scope) (I:Inv X pins σ H s):∀ x ∈ scope.names,x.2=.free→∃ c,X.env.cells.lookup x.1=some c:=fun x hx hf=>I.ok.has x.1 (S.free x hx hf)
theorem yN (S:e9 X Nc ix scope) (I:Inv X pins σ H s) {C:Addr} {x:Str} {c:Addr} (e:(cellsFrom (C+1) scope.names (cO X.env scope.names [])).lookup x=some c) :
  X.env.cells.lookup x=some c∨(C+1≤c∧(x,NameKind.cell) ∈ scope.names):=by
 rcases pK _ _ _ e with q | q
 ·exact .inl (ck _ _ (S.cells I) (fun _ z=>by simp at z) q)
 ·exact .inr q
theorem IQ (S:e9 X Nc ix scope) (I:Inv X pins σ H s) (Rc:∀ b ∈ fp,rm X pins H b) (ho:∀ b ∈ fp,∃ o,s.heap.get? b=some o) {t':Nat} :
  Inv (zI X Nc scope (s.heap.objs.size+1) fp s H) [] (vF ix σ) (upd H s.heap.objs.size (.lst []))
   { s with heap:=pushCells ((s.heap.push { cls:=.type "list",dict:=none,data:=.seq ([]:List Value).toArray }).push { cls:=.type "dict",data:=.dict #[] }) scope.names,toks:=t' }:=by
 have keep:∀ b o,s.heap.get? b=some o→(pushCells ((s.heap.push { cls:=.type "list",dict:=none,data:=.seq ([]:List Value).toArray }).push { cls:=.type "dict",data:=.dict #[] }) scope.names).get? b=some o :=
  fun b o e=>pushCells_keeps _ _ b o (Heap.get?_push_of_some _ (Heap.get?_push_of_some _ e))
 have hD:(pushCells ((s.heap.push { cls:=.type "list",dict:=none,data:=.seq ([]:List Value).toArray }).push { cls:=.type "dict",data:=.dict #[] }) scope.names).get? s.heap.objs.size =
   some { cls:=.type "list",dict:=none,data:=.seq ([]:List Value).toArray }:=pushCells_keeps _ _ _ _ (Heap.get?_push_of_some _ (Heap.get?_push_size _ rfl))
 have ox:(s.heap.push { cls:=.type "list",dict:=none,data:=.seq ([]:List Value).toArray }).objs.size=s.heap.objs.size+1:=Heap.size_push ..
 have fresh:∀ a:Addr,s.heap.objs.size≤a→H a=none:=fun a h=>I.cn.fresh h
 have Kc:∀ x c,X.env.cells.lookup x=some c→c < s.heap.objs.size:=fun x c e=>let ⟨_,q⟩:=I.cell x c e;q.lt
 have Zz:∀ x c,(cO X.env scope.names []).lookup x=some c→c < s.heap.objs.size+1+1:=fun x c e =>
  Nat.lt_succ_of_lt (Nat.lt_succ_of_lt (Kc x c (ck _ _ (S.cells I) (fun _ z=>by simp at z) e)))
 have Vk:∀ x y c,(cO X.env scope.names []).lookup x=some c→(cO X.env scope.names []).lookup y=some c→x=y:=fun x y c e1 e2 =>
  I.ok.inj x y c (ck _ _ (S.cells I) (fun _ z=>by simp at z) e1) (ck _ _ (S.cells I) (fun _ z=>by simp at z) e2)
 refine ⟨⟨I.ok.mod,S.kind,I.ok.glob,I.ok.blt,Nat.le_succ _,r9 _ _ _ Zz Vk,fun x hx=>?has,fun x c hf e=>?OE,I.ok.hd,I.ok.frames,.inl rfl,fun b hb=>?Q4,I.bs,Nat.le_trans I.ok.Hn I.sz,fun b o e hb=>?CI,fun b hb hs=>?CJ,I.stack,I.yu⟩,
  rfl,I.bare,Un.laid keep (Nat.le_refl _) (fresh _ (Nat.le_refl _)),⟨fun _=>none,?ns,fun i x v e1 e2 e3=>?loc⟩,fun x c e=>?cell,?free,fun x c e=>?mS,fun p hp=>absurd (show p ∈ ([]:List (Addr × Obj)) from hp) (by simp),I.cn.laid keep (Nat.le_refl _) ?obj,?len⟩
 case has =>
  have hx:(relabel scope X.env).names.lookup x=some .cell∨(relabel scope X.env).names.lookup x=some .free:=hx
  show ∃ c,(cellsFrom (s.heap.objs.size+1+1) scope.names (cO X.env scope.names [])).lookup x=some c
  cases hk:scope.names.lookup x with
  | none =>
   rw [show (relabel scope X.env).names.lookup x=none from qd hk] at hx
   rcases hx with z | z <;> cases z
  | some k =>
   have hm:=PySem.mem_of_lookup hk
   rw [show (relabel scope X.env).names.lookup x=_ from lD hk] at hx
   cases k with
   | cell=>obtain ⟨c,e,_⟩:=oT (x:=x) (lo:=0) scope.names (s.heap.objs.size+1+1) (cO X.env scope.names []) (Nat.zero_le _) (.inl hm);exact ⟨c,e⟩
   | free =>
    obtain ⟨c,e⟩:=lB (env:=X.env) (x:=x) scope.names [] (.inl hm)
    exact ⟨c,by rw [lC _ _ _ (S.once x hm)];exact e⟩
   | _=>rcases hx with z | z <;> simp at z
 case OE =>
  have hm:(x,NameKind.cell) ∈ scope.names:=List.contains_iff_mem.mp hf
  obtain ⟨c',e',hc⟩:=oT (x:=x) (lo:=s.heap.objs.size+1+1) scope.names (s.heap.objs.size+1+1) (cO X.env scope.names []) (Nat.le_refl _) (.inl hm)
  have e2:(cellsFrom (s.heap.objs.size+1+1) scope.names (cO X.env scope.names [])).lookup x=some c:=e
  rw [e'] at e2;cases e2
  exact Nat.le_trans (Nat.le_trans (Nat.le_succ _) (Nat.le_succ _)) hc
 case Q4 =>
  obtain ⟨o,eo⟩:=ho b hb
  have et:=Heap.lt_size eo
  refine ⟨Nat.ne_of_lt (Nat.lt_succ_of_lt et),fun x c e=>?_⟩
  rcases yN S I e with q | ⟨q,_⟩
  ·exact (Rc b hb).2.2.2.2.1 x c q
  ·exact Nat.ne_of_gt (Nat.lt_of_lt_of_le (Nat.lt_succ_of_lt (Nat.lt_succ_of_lt et)) q)
 case CI =>
  obtain ⟨_,_,_,q,_⟩:=Rc b hb
  rcases q with q | q
  ·exact I.ok.CI b o e q
  ·exact absurd (Nat.lt_of_lt_of_le (Nat.lt_of_lt_of_le (Heap.lt_size e) I.ok.Hn) q) (Nat.lt_irrefl _)
 case CJ =>
  obtain ⟨_,q1,q2,_⟩:=Rc b hb
  rcases List.mem_cons.mp (I.CK b hs) with z | z
  ·exact q1 z
  ·exact q2 z
 case ns =>
  refine Heap.Ns.keeps (h:=(s.heap.push { cls:=.type "list",dict:=none,data:=.seq ([]:List Value).toArray }).push { cls:=.type "dict",data:=.dict #[] }) ?_ (pushCells_keeps _ _)
  have q:=Heap.Ns.new (s.heap.push { cls:=.type "list",dict:=none,data:=.seq ([]:List Value).toArray }) (.type "dict")
  rw [ox] at q
  exact q
 case loc =>
  have NT:(ix.map fun o=>o.bind fun j=>(σ[j]?).bind id)[i]?=some (some v):=e2
  rw [List.getElem?_map] at NT
  cases ei:ix[i]? with
  | none=>rw [ei] at NT;cases NT
  | some o =>
   rw [ei] at NT
   cases o with
   | none=>simp at NT
   | some j =>
    obtain ⟨hN,Qc⟩:=S.out i j x ei e1
    have ej:σ[j]?=some (some v):=by
     cases q:σ[j]? with
     | none=>simp [q] at NT
     | some y=>simp [q] at NT;rw [NT]
    have hm:=PySem.mem_of_lookup Qc
    have Vl:UN X.env.scope x:=by
     rcases S.free (x,.free) hm rfl with z | z
     ·exact .inr (.inl z)
     ·exact .inr (.inr z)
    obtain ⟨m0,hn0,Z0⟩:=I.loc
    obtain ⟨u,r,l⟩:=Z0 j x v hN ej Vl
    refine ⟨u,r,?_⟩
    have hk:X.env.kindOf x=some .cell∨X.env.kindOf x=some .free:=S.free (x,.free) hm rfl
    rcases l with ⟨z,_⟩ | ⟨_,c,ec,EM⟩
    ·rcases hk with y | y <;> (rw [z] at y;cases y)
    ·refine .inr ⟨?_,c,?_,EM.keeps keep⟩
     ·show (relabel scope X.env).names.lookup x=_∨(relabel scope X.env).names.lookup x=_
      rw [show (relabel scope X.env).names.lookup x=_ from lD Qc]
      split
      ·exact .inl rfl
      ·exact .inr rfl
     ·show (cellsFrom (s.heap.objs.size+1+1) scope.names (cO X.env scope.names [])).lookup x=some c
      rw [lC _ _ _ (S.once x hm)]
      obtain ⟨c',e'⟩:=lB (env:=X.env) (x:=x) scope.names [] (.inl hm)
      have q:=ck _ _ (S.cells I) (fun _ z=>by simp at z) e'
      rw [ec] at q;cases q
      exact e'
 case cell =>
  have q:=ji (x:=x) (c:=c) scope.names ((s.heap.push { cls:=.type "list",dict:=none,data:=.seq ([]:List Value).toArray }).push { cls:=.type "dict",data:=.dict #[] }) (cO X.env scope.names [])
   (fun y c' e'=>by
    obtain ⟨v,z⟩:=I.cell y c' (ck _ _ (S.cells I) (fun _ z=>by simp at z) e')
    exact ⟨v,z.keeps fun b o e=>Heap.get?_push_of_some _ (Heap.get?_push_of_some _ e)⟩)
  rw [Heap.size_push,ox] at q
  exact q e
 case free =>
  show upd H s.heap.objs.size (.lst []) (s.heap.objs.size+1)=none
  rw [aE (Nat.succ_ne_self _)]
  exact fresh _ (Nat.le_succ _)
 case mS =>
  rcases yN S I e with q | ⟨q,_⟩
  ·rw [aE (Nat.ne_of_lt (Kc x c q))]
   exact I.mS x c q
  ·have h1:s.heap.objs.size < c:=Nat.lt_of_lt_of_le (Nat.lt_succ_of_lt (Nat.lt_succ_self _)) q
   rw [aE (Nat.ne_of_gt h1)]
   exact fresh c (Nat.le_of_lt h1)
 case obj=>exact ⟨Nat.zero_le _,[],0,.nil,hD⟩
 case len =>
  show (vF ix σ).length=Nc.length
  unfold vF
  rw [List.length_map,S.len]
end
def Rf (X:Cx) (ifs:List Expr) (t:TT):Prop :=
 ∀ (pins:List (Addr × Obj)) (s:Shared) (σ:St) (H:Hp) (Q:Bool→Hp→Prop),Inv X pins σ H s→t σ H Q →
  wpAny (model X.prog X.w) X.A (forIn ifs true fun c r=>if r=true then do let ok ← isTrue c X.env (eval c X.env);pure (ForInStep.yield ok) else pure (ForInStep.yield r)) (TP X pins σ Q) X.xe s
def Ol:TT:=fun _ H Q=>Q true H
theorem cS {X:Cx}:Rf X [] Ol:=fun _ _ _ H _ I h=>wpAny_tests_nil ⟨H,I,h⟩
theorem Er {X:Cx} {c:Expr} {t:TT} (h:PT X c t):Rf X [c] t:=fun pins s σ H Q I hw=>wpAny_tests_one (h pins s σ H Q I hw)
def tw (J:It) (g:TG) (tt:TT) (te:TE) (D:Addr) (σ:St) (H:Hp) (Q:VK):Prop:=∃ W:Nat→Nat→St→Hp→Prop,(∃ m,W 0 m σ H)∧∀ i m σ' H',W i m σ' H' →
 (J.stop i H'∧Q (.ref D) H')∨(J.go i H'∧∀ x H2,J.K0 i H' x H2→g x σ' H2 fun σ3 H3=>tt σ3 H3 fun b H4 =>
  if b=true then te σ3 H4 fun v H5=>∃ xs,H5 D=some (.lst xs)∧xs.length < sizeLine∧∃ m',m' < m∧W (i+1) m' σ3 (upd H5 D (.lst (xs ++ [v])))
  else ∃ m',m' < m∧W (i+1) m' σ3 H4)
def Xv (wi:TI) (ix:List (Option Nat)) (g:TG) (tt:TT) (te:TE):TE:=fun σ H Q=>wi σ H fun J H1=>∀ D,H1 D=none→tw J g tt te D (vF ix σ) (upd H1 D (.lst [])) Q
section
variable {X:Cx} {tg elt iter:Expr} {ifs:List Expr} {scope:Scope} {pos:Pos} {wi:TI} {g:TG} {tt:TT} {te:TE} {Nc:List Str} {ix:List (Option Nat)}
theorem Aq {pins:List (Addr × Obj)} {σ:St} {H:Hp} {s:Shared} {it:Addr} {fp:List Addr} {tn:Nat→Heap→Prop} {J:It} {Q:VK} {R:Value→Addr→Result→Shared→Prop}
  (hc:X.calm=true) (S:e9 X Nc ix scope) (I:Inv X pins σ H s) (T:Turn X.prog X.w X.K tg J fp it tn) (st:tn 0 s.heap) (f:∀ b ∈ fp,rm X pins H b)
  (hg:PG (zI X Nc scope (s.heap.objs.size+1) fp s H) tg g) (ht:Rf (zI X Nc scope (s.heap.objs.size+1) fp s H) ifs tt) (he:PE (zI X Nc scope (s.heap.objs.size+1) fp s H) elt te)
  (h:∀ D,H D=none→∃ W:Nat→Nat→St→Hp→Prop,(∃ m,W 0 m (vF ix σ) (upd H D (.lst [])))∧∀ i m σ' H',W i m σ' H' →
   (J.stop i H'∧Q (.ref D) H')∨(J.go i H'∧∀ x H2,J.K0 i H' x H2→g x σ' H2 fun σ3 H3=>tt σ3 H3 fun b H4 =>
    if b=true then te σ3 H4 fun v H5=>∃ xs,H5 D=some (.lst xs)∧xs.length < sizeLine∧∃ m',m' < m∧W (i+1) m' σ3 (upd H5 D (.lst (xs ++ [v])))
    else ∃ m',m' < m∧W (i+1) m' σ3 H4))
  (hR:∀ σ' H' s',Inv (zI X Nc scope (s.heap.objs.size+1) fp s H) [] σ' H' s'→(∀ b ∈ fp,H' b=none)→Q (.ref s.heap.objs.size) H'→R (.ref s.heap.objs.size) (s.heap.objs.size+1) (.ok .next) s') :
  wpAny (model X.prog X.w) X.A (newList []) (fun acc s₃=>wpAny (model X.prog X.w) X.A (newFunctionEnv scope X.env.globals (cO X.env scope.names []) [] X.env.qual none .none (some X.env)) (fun Rg s₄ =>
   codeAny (model X.prog X.w) X.A (.compStart (.ListComp elt [⟨tg,iter,ifs,0⟩] scope pos) 0 (.ref it) acc { Rg with scope:=relabel scope X.env }) (R acc Rg.locals) s₄) X.xe s₃) X.xe s:=by
 obtain ⟨W,⟨m0,w0⟩,turn⟩:=h s.heap.objs.size (I.cn.fresh (Nat.le_refl _))
 refine wpAny_newObj_type (Ap ?_)
 have I4:=IQ (t':=s.toks) S I f (fun b hb=>let ⟨o,e,_⟩:=T.obj _ _ st b hb;⟨o,e⟩)
 have ox:(s.heap.push { cls:=.type "list",dict:=none,data:=.seq ([]:List Value).toArray }).objs.size=s.heap.objs.size+1:=Heap.size_push ..
 dsimp only
 rw [ox]
 have Kf:tn 0 (pushCells ((s.heap.push { cls:=.type "list",dict:=none,data:=.seq ([]:List Value).toArray }).push { cls:=.type "dict",data:=.dict #[] }) scope.names) :=
  T.keep _ _ _ st fun b _ o e=>pushCells_keeps _ _ b o (Heap.get?_push_of_some _ (Heap.get?_push_of_some _ e))
 have Vm:∀ b ∈ fp,upd H s.heap.objs.size (.lst []) b=none:=fun b hb=>by
  obtain ⟨o,e,_⟩:=T.obj _ _ st b hb
  rw [aE (Nat.ne_of_lt (Heap.lt_size e))]
  exact (f b hb).1
 have CP:∀ {H':Hp},(∀ b ∈ fp,H' b=none)→∀ b ∈ fp,rm (zI X Nc scope (s.heap.objs.size+1) fp s H) [] H' b:=fun {H'} hn b hb=>by
  obtain ⟨q1,q2⟩:=I4.ok.Q4 b hb
  exact ⟨hn b hb,q1,I4.ok.CJ b hb,.inl hb,q2,fun p hp=>absurd (show p ∈ ([]:List (Addr × Obj)) from hp) (by simp)⟩
 have loop:codeAny (model X.prog X.w) X.A (.compLoop (.ListComp elt [⟨tg,iter,ifs,0⟩] scope pos) 0 (.ref it) (.ref s.heap.objs.size) (zI X Nc scope (s.heap.objs.size+1) fp s H).env)
   (R (.ref s.heap.objs.size) (s.heap.objs.size+1))
   { s with heap:=pushCells ((s.heap.push { cls:=.type "list",dict:=none,data:=.seq ([]:List Value).toArray }).push { cls:=.type "dict",data:=.dict #[] }) scope.names }:=by
  refine zH (fun n s'=>∃ i σ' H',Inv (zI X Nc scope (s.heap.objs.size+1) fp s H) [] σ' H' s'∧tn i s'.heap∧(∀ b ∈ fp,H' b=none)∧W i n σ' H') ?_ m0 ⟨0,_,_,I4,Kf,Vm,w0⟩
  rintro n s5 ⟨i,σ5,H5,I5,K2,OM,w5⟩
  rcases turn i n σ5 H5 w5 with ⟨stop,qn⟩ | ⟨go,step⟩
  ·refine cM (T.done (zI X Nc scope (s.heap.objs.size+1) fp s H) rfl rfl rfl hc i [] s5 σ5 H5 _ I5 (CP OM) K2 stop) fun r s6 ⟨hr,I6⟩=>?_
   subst hr
   exact hR σ5 H5 s6 I6 OM qn
  ·refine cM (T.item (zI X Nc scope (s.heap.objs.size+1) fp s H) rfl rfl rfl hc i [] s5 σ5 H5 _ I5 (CP OM) K2 go) fun r s6 ⟨u,hr,h6⟩=>?_
   subst hr
   refine cM h6 fun _ s7 ⟨x,H7,I7,r7,y7,Vn,Z1⟩=>?_
   have Z2:=I7.pinned (CP Z1) (T.obj _ _ Vn)
   refine cM (hg _ s7 σ5 H7 x u _ Z2 r7 (step x H7 y7)) fun _ s8 ⟨σ8,H8,I8,q8⟩=>?_
   refine cM (ht _ s8 σ8 H8 _ I8 q8) fun b s9 ⟨H9,I9,q9⟩=>?_
   have again:∀ {s':Shared} {σ':St} {H':Hp},Inv (zI X Nc scope (s.heap.objs.size+1) fp s H) ([] ++ uw fp s7.heap) σ' H' s'→tn (i+1) s'.heap∧∀ b ∈ fp,H' b=none:=fun {s' σ' H'} I'=>by
    refine ⟨T.keep _ _ _ Vn fun b hb o e=>(I'.pin (b,o) (List.mem_append_right _ (List.mem_append_right _ (kq hb e)))).1,fun b hb=>?_⟩
    obtain ⟨o,e,d⟩:=T.obj _ _ Vn b hb
    exact (I'.pin (b,o) (List.mem_append_right _ (List.mem_append_right _ (kq hb e)))).2.1
   cases b with
   | false =>
    rw [if_neg Bool.false_ne_true] at q9 ⊢
    obtain ⟨m',hm,w9⟩:=q9
    obtain ⟨a1,a2⟩:=again I9
    exact ⟨m',hm,i+1,σ8,H9,I9.mn,a1,a2,w9⟩
   | true =>
    rw [if_pos rfl] at q9 ⊢
    refine cM (he _ s9 σ8 H9 _ I9 q9) fun v Z3 ⟨x',CH,Z4,Z5,xs,eD,et,m',hm,Z6⟩=>?_
    refine cM (cV (X:=zI X Nc scope (s.heap.objs.size+1) fp s H) _ Z3 σ8 CH (.ref s.heap.objs.size) [x'] (.ref s.heap.objs.size) [v] (fun _ H'=>H'=upd CH s.heap.objs.size (.lst (xs ++ [x']))) Z4 rfl (.cons Z5 .nil)
     ⟨_,xs,x',rfl,rfl,eD,et,rfl⟩) fun _ s11 ⟨_,Es,Xw,_,Z7⟩=>?_
    subst Z7
    obtain ⟨a1,a2⟩:=again Xw
    exact ⟨m',hm,i+1,σ8,_,Xw.mn,a1,a2,Z6⟩
 exact codeAny_compStart_list loop (T.self X.A 0 _ _ _ Kf loop)
theorem comp_back {pins:List (Addr × Obj)} {σ σ':St} {H H':Hp} {s s':Shared} {fp:List Addr} (I:Inv X pins σ H s) (f:∀ b ∈ fp,rm X pins H b) (J:Inv (zI X Nc scope (s.heap.objs.size+1) fp s H) [] σ' H' s'):Inv X pins σ H' s' :=
 I.Ho (ch:=fp) J.os J.base J.cn J.bare fun b hb=>let ⟨_,q1,_,q3,q4,q5⟩:=f b hb;⟨q3,q1,q4,q5⟩
theorem Inv.NU {pins:List (Addr × Obj)} {σ:St} {H:Hp} {s:Shared} {C:Addr} {h':Heap} (I:Inv X pins σ H s) (f:rm X pins H C) (hs:Heap.SameBut C s.heap h'):Inv X pins σ H { s with heap:=h' } :=
 I.turned (t':=s.toks) (it:=C) (fun b o hb e=>(hs.2 b hb).trans e) f.1 f.2.1 f.2.2.2.1 f.2.2.2.2.1 f.2.2.2.2.2
theorem kG (hc:X.calm=true) (S:e9 X Nc ix scope) (hi:PI X tg iter wi)
  (hb:∀ (C:Addr) (fp:List Addr) (s:Shared) (H:Hp),PG (zI X Nc scope C fp s H) tg g∧Rf (zI X Nc scope C fp s H) ifs tt∧PE (zI X Nc scope C fp s H) elt te)
  (hs:∀ x,foldedSetIterable iter X.env x=pure x:=by intro _;rfl):PE X (.ListComp elt [⟨tg,iter,ifs,0⟩] scope pos) (Xv wi ix g tt te):=by
 intro pins s σ H Q I h
 rw [eval_ListComp]
 refine wpAny_comprehension_free (use:=none) rfl hs (vE (S.cells I)) S.kind S.loc (cM (hi pins s σ H _ I h) fun v s1 h1=>cM h1 fun US s2 h2=>?_)
 obtain ⟨it,fp,tn,J,H2,e,I2,T,mZ,f2,q2⟩:=h2
 subst e
 obtain ⟨hg,ht,he⟩:=hb (s2.heap.objs.size+1) fp s2 H2
 refine Aq (R:=fun acc C=>compPost (model X.prog X.w) X.A X.xe none (EP X pins σ Q) acc C) hc S I2 T mZ f2 hg ht he q2 fun σ' H' s' J' Z8 q'=>?_
 obtain ⟨m,hn,_⟩:=J'.loc
 refine ⟨m,hn,fun h' GA=>⟨.ref _,H',?_,rfl,q'⟩⟩
 exact (comp_back I2 f2 J').NU (I2.Ae (Nat.le_succ _) J'.free) GA
theorem mq {i:Nat} {y:Str} {py Rh:Pos} (hN:X.N.Nodup) (hy:X.N[i]?=some y) (hl:Loc X.env.scope y) (hc:X.calm=true) (S:e9 X Nc ix scope) (hi:PI X tg iter wi)
  (hb:∀ (C:Addr) (fp:List Addr) (s:Shared) (H:Hp),PG (zI X Nc scope C fp s H) tg g∧Rf (zI X Nc scope C fp s H) ifs tt∧PE (zI X Nc scope C fp s H) elt te)
  (UX:swapsWith (.ListComp elt [⟨tg,iter,ifs,0⟩] scope pos) (some (.Name y py)) Rh.line X.env=pure true:=by rfl)
  (hs:∀ x,foldedSetIterable iter X.env x=pure x:=by intro _;rfl)
  (hf:X.fn y=true∨X.env.scope.names.lookup y=some .local:=by first | exact .inl rfl | exact .inr rfl | assumption) :
  PS X (.Assign [.Name y py] (.ListComp elt [⟨tg,iter,ifs,0⟩] scope pos) Rh) (Kz (Xv wi ix g tt te) (iC i)):=by
 intro pins s σ H D I h
 rw [exec_Assign_Name_used _ _ _ _ UX]
 refine wpAny_bind (wpAny_standAt (wpAny_bind ?_))
 show wpAny _ X.A (do let _ ← comprehension (.ListComp elt [⟨tg,iter,ifs,0⟩] scope pos) scope X.env _ (newList []) false (eval iter X.env) (some (assign (.Name y py) X.env))) _ _ s
 refine wpAny_bind (wpAny_mono (wpAny_comprehension_free (use:=some (assign (.Name y py) X.env)) (Q:=fun _ s'=>SP X pins D .next s') rfl hs (vE (S.cells I)) S.kind S.loc
  (cM (hi pins s σ H _ I h) fun v s1 h1=>cM h1 fun US s2 h2=>?_)) (fun _ s' hq=>wpAny_pure (wpAny_pure hq)) fun _ _ e=>e)
 obtain ⟨it,fp,tn,J,H2,e,I2,T,mZ,f2,q2⟩:=h2
 subst e
 obtain ⟨hg,ht,he⟩:=hb (s2.heap.objs.size+1) fp s2 H2
 refine Aq (Q:=fun x H1=>iC i x σ H1 D.nx) (R:=fun acc C=>compPost (model X.prog X.w) X.A X.xe (some (assign (.Name y py) X.env)) (fun _ s'=>SP X pins D .next s') acc C) hc S I2 T mZ f2 hg ht he q2 fun σ' H' s' J' Z8 q'=>?_
 obtain ⟨m,hn,_⟩:=J'.loc
 have I3:=comp_back I2 f2 J'
 have fC:=I2.Ae (Nat.le_succ _) J'.free
 show wpAny _ X.A (assign (.Name y py) X.env (.ref s2.heap.objs.size)) _ _ s'
 refine wpAny_assign_Name (yD (v:=.ref s2.heap.objs.size) I3 hN hy hl rfl (fun s4 I4 ⟨a,GB,ha⟩=>?_) hf)
 have Z9:s2.heap.objs.size+1≠a:=by
  rcases ha with z | z
  ·rw [z];exact fC.2.1
  ·exact Ne.symm (fC.2.2.2.2.1 y a z)
 refine ⟨m,hn.sameBut GB Z9,fun h' GA=>⟨_,H',I4.NU fC GA,q'⟩⟩
end
end L2
namespace L2
open PySem PySem.Spec PyProof.Rows
structure Om (P:Program) (w:World) (outer:List Env) (H:Hp) (s:Shared) (a C:Addr) (a0:Value) (B:Heap) (H':Hp) (s':Shared):Prop where
 os:s'.os=s.os
 bare:AllBare s'.gens
 un:Un (oP outer) [] H H' s.heap s'.heap
 cn:rZ P w H' s'.heap
 IS:Heap.FlyingW B outer a (.ref C) a0 s'.heap
 LG:∀ b o,s.heap.get? b=some o→b ∉ oP outer→∃ o',B.get? b=some o'
 Fo:∀ b u,H' b=some u→∃ o',B.get? b=some o'
def iL (P:Program) (w:World):Ai:=fun outer H s E e s'=>∃ (a C:Addr) (a0:Value) (B:Heap) (H':Hp),e=.ref a∧Om P w outer H s a C a0 B H' s'∧E (.ref C) none H'
theorem Et {l:List Env} {b:Addr} {base h:Heap} (F:h.FunFrames base l) (hb:b ∈ oP l):base.get? b=none∧∃ o,h.get? b=some o∧∀ vs,o.data≠.fields vs:=F.mem hb
theorem Ar {outer:List Env} {H H':Hp} {h h1 h2 B:Heap} (u:Un (oP outer) [] H H' h h1) (F:h1.FunFrames B outer) (Vo:B.StaysIn h1) (Vp:B.StaysIn h2) (up:h1.UpToSlots h2)
  (LG:∀ b o,h.get? b=some o→b ∉ oP outer→∃ o',B.get? b=some o'):Un (oP outer) [] H H' h h2:=by
 have at2:∀ b o,h.get? b=some o→b ∉ oP outer→∀ o1,h1.get? b=some o1→h2.get? b=some o1:=fun b o e hb o1 e1=>by
  obtain ⟨o',eB⟩:=LG b o e hb
  have q:=Vo b o' eB
  rw [e1] at q;cases q
  exact Vp b _ eB
 refine ⟨fun b o e n hb hx=>at2 b o e hb o (u.keep b o e n hb hx),fun b o e n hb hx=>?_,u.free,fun b o e hx=>?_,u.mi,u.mY,u.mj⟩
 ·obtain ⟨sl,e1⟩:=u.slot b o e n hb hx
  obtain ⟨_,o1,q1,q2⟩:=Et F hb
  rw [e1] at q1;cases q1
  obtain ⟨UY,e2⟩:=up b _ e1 q2
  exact ⟨UY,e2⟩
 ·obtain ⟨o1,e1⟩:=u.there b o e hx
  by_cases hb:b ∈ oP outer
  ·obtain ⟨_,o2,q1,q2⟩:=Et F hb
   obtain ⟨UY,e2⟩:=up b _ q1 q2
   exact ⟨_,e2⟩
  ·exact ⟨o1,at2 b o e hb o1 e1⟩
theorem yO {P:Program} {w:World} {H:Hp} {h1 h2 B:Heap} (x:rZ P w H h1) (Vo:B.StaysIn h1) (Vp:B.StaysIn h2) (Fo:∀ b u,H b=some u→∃ o',B.get? b=some o'):rZ P w H h2:=fun b o e=>by
 refine (x b o e).AX (fun c u hc q=>?_) (fun _ q=>q) fun _ _ q=>q
 have ht:∃ o',B.get? c=some o':=by
  rcases hc with z | z
  ·rw [z];exact Fo b o e
  ·exact Fo c _ z
 obtain ⟨o',eB⟩:=ht
 have q1:=Vo c o' eB
 rw [q] at q1;cases q1
 exact Vp c _ eB
structure Body (X:Cx) (E:XK):Prop where
 xe:X.xe=fun e s'=>wpAny (model X.prog X.w) X.A (leaving X.env e) (fun _ OX=>iL X.prog X.w X.outer X.H₀ X.s₀ E e OX) (fun e' OX=>iL X.prog X.w X.outer X.H₀ X.s₀ E e' OX) s'
 Ka:X.stack=X.env :: X.outer
 fr:X.env.frame=some X.env.locals
 ex:X.ex=[]
section
variable {X:Cx} {E:XK} {pins:List (Addr × Obj)} {σ:St} {H:Hp} {s:Shared}
theorem Inv.old (I:Inv X pins σ H s) {b:Addr} {o:Obj} (e:X.s₀.heap.get? b=some o):b≠X.env.locals:=Nat.ne_of_lt (Nat.lt_of_lt_of_le (Heap.lt_size e) I.ok.above)
theorem Body.base (Bd:Body X E) (I:Inv X pins σ H s):Un X.fs [] X.H₀ H X.s₀.heap s.heap:=by
 have q:=I.base
 rw [Bd.ex] at q
 exact q
theorem Body.IT (Bd:Body X E) {b:Addr} (h1:b≠X.env.locals) (h2:b ∉ oP X.outer):b ∉ oP X.stack:=by
 rw [Bd.Ka]
 intro z
 obtain ⟨env,he,hf⟩:=List.mem_filterMap.mp z
 rcases List.mem_cons.mp he with rfl | he
 ·rw [Bd.fr] at hf;exact h1 (Option.some.inj hf).symm
 ·exact h2 (List.mem_filterMap.mpr ⟨env,he,hf⟩)
theorem kH (Bd:Body X E):k8 (iL X.prog X.w) X E:=by
 intro pins σ H s e s' I h
 obtain ⟨a,C,a0,B,H',rfl,T,q⟩:=h
 rw [Bd.xe]
 have Qc:X.A.frames=some (X.env :: X.outer):=by rw [← Bd.Ka];exact I.ok.frames
 have IS:=T.IS
 rw [Bd.Ka] at IS
 refine wpAny_leaves_onW Qc Bd.fr IS fun h' Oo up=>?_
 have LG:∀ b o,X.s₀.heap.get? b=some o→b ∉ oP X.outer→∃ o',B.get? b=some o':=fun b o e hb=>by
  obtain ⟨o1,e1⟩:=(Bd.base I).there b o e (by simp)
  exact T.LG b o1 e1 (Bd.IT (I.old e) hb)
 have u1:Un (oP X.outer) [] X.H₀ H' X.s₀.heap s'.heap:=by
  have ub:=Bd.base I
  refine ⟨fun b o e n hb hx=>T.un.keep b o (ub.keep b o e n hb hx) (ub.free b o e n hx) (Bd.IT (I.old e) hb) (by simp),fun b o e n hb hx=>?_,fun b o e n hx=>?_,fun b o e hx=>?_,fun b xs e=>T.un.mi b xs (ub.mi b xs e),
   fun b o xs e=>T.un.mY b o xs (ub.mY b o xs e),fun b ps e=>?_⟩
  ·obtain ⟨sl,e1⟩:=ub.slot b o e n hb hx
   obtain ⟨Q3,e2⟩:=T.un.any e1 (ub.free b o e n hx) (by simp)
   exact ⟨Q3,e2⟩
  ·obtain ⟨o1,e1⟩:=ub.there b o e hx
   exact T.un.free b o1 e1 (ub.free b o e n hx) (by simp)
  ·obtain ⟨o1,e1⟩:=ub.there b o e hx
   exact T.un.there b o1 e1 (by simp)
  ·obtain ⟨m1,e1⟩:=ub.mj b ps e
   obtain ⟨m2,e2⟩:=T.un.mj b _ e1
   exact ⟨m1 ++ m2,by rw [e2,Array.append_assoc]⟩
 have F':s'.heap.FunFrames B X.outer:=by obtain ⟨_,_,⟨_,_,k⟩,_⟩:=IS;exact k
 exact ⟨a,C,a0,B,H',rfl,⟨T.os.trans I.os,T.bare,Ar u1 F' IS.1 Oo.1 up LG,yO T.cn IS.1 Oo.1 T.Fo,Oo,LG,T.Fo⟩,q⟩
theorem As {K:PySem.W.Frag} {h:Heap} {mg:Str→Option Value} {x:Str} {C:Addr} {Ri:List Value} {newId:String} (KX:K.In h) (hm:mg x=some (.ref C)) (q:PySem.W.excIn K C Ri newId=true):OwnCls x C Ri newId mg h:=by
 refine ⟨hm,?_⟩
 unfold PySem.W.excIn at q
 split at q
 ·rename_i dd cd sl ho
  split at q
  ·rename_i C' bm k0 k1 k2 k3 n k5 Xx hs
   simp only [Bool.and_eq_true,beq_iff_eq,Bool.not_eq_true'] at q
   obtain ⟨⟨⟨⟨⟨rfl,rfl⟩,Rj⟩,ht⟩,cn⟩,Qd⟩:=q
   obtain ⟨nm,bs,mro,ns,qn,hd,sn,sub,ab,col,del⟩:=cd
   dsimp only at Xx Rj cn Qd
   subst Xx Rj
   have hsl:sl=#[k0,k1,k2,k3,some (.builtin n),k5]:=by
    obtain ⟨l⟩:=sl
    simp only at hs
    rw [hs]
   subst hsl
   exact ⟨bm,ns,nm,qn,bs,hd,sn,sub,ab,col,dd,k0,k1,k2,k3,k5,_,KX _ _ ho,.of_isNs (PySem.W.isNs_of_in KX cn),PySem.W.nsMap_none_of_in KX cn Qd,PySem.W.tail_of_in KX ht⟩
  ·cases q
 ·cases q
def Oq (C:Addr) (E:XK) (t:TA):TS:=fun _ σ H=>t σ H fun vs H1=>vs.length≤sizeLine∧E (.ref C) none H1
theorem eF {x:Str} {np fG pos:Pos} {e:Expr} {es:List Expr} {t:TA} {C:Addr} {Ri:List Value} {B newId Ot:String} (Bd:Body X E) (hc:X.calm=true) (hg:Gl X x) (hm:X.mg x=some (.ref C))
  (hk:PySem.W.excIn X.K C Ri newId=true) (FB:ExcBaseFacts B newId Ot Ri) (ha:PA X (e :: es) t)
  (he:starEach (e :: es) X.env=(false,eval e X.env) :: starEach es X.env:=by rfl) (oQ:(backTo fG (starEach es X.env)).any (·.1)=false:=by rfl) (IH:(x == ("__debug__":Str))=false:=by decide) :
  PS X (.Raise (some (.Call (.Name x np) (e :: es) [] fG)) none pos) (Oq C E t):=by
 intro pins s σ H D I h
 have O:=As (I.mod.QZ) hm hk
 obtain ⟨tl,N,nm,q,bs,hdct,sn,sub,ab,col,dd,k0,k1,k2,k3,k5,mN,hC,hN,Qd,T⟩:=O.obj
 refine wpAny_Raise_call_subT (C:=C) (nm:=nm) (q:=q) (N:=N) (bs:=bs) (bm:=tl) (hdct:=hdct) (sn:=sn) (sub:=sub) (ab:=ab) (col:=col) (dd:=dd) (k0:=k0) (k1:=k1) (k2:=k2) (k3:=k3) (k5:=k5)
  FB (mN:=mN) (T.hasType FB.hasBase) (I.ok.hd hc) (by rw [he];show (false || (backTo fG (starEach es X.env)).any (·.1))=false;rw [oQ];rfl) Qd (uW I hg hm ⟨rfl,?_⟩ IH)
 have hA:=ha fG pins s σ H _ I h
 rw [he] at hA ⊢
 refine Calls.evalArgs_plain (cM hA fun us s2 ⟨vs,H2,I2,r,hz,q2⟩=>?_)
 refine ⟨rfl,by rw [← r.length];exact hz,I2.bk _ _ hC,hN.keeps I2.bk,T.keeps I2.bk,fun h' a hx=>?_⟩
 rw [Bd.xe]
 have Qc:X.A.frames=some (X.env :: X.outer):=by rw [← Bd.Ka];exact I.ok.frames
 have UZ:∀ env ∈ X.stack,∀ b,env.frame=some b→b ∈ oP X.stack:=fun env he b hb=>List.mem_filterMap.mpr ⟨env,he,hb⟩
 have F0:s2.heap.FunFrames (PySem.W.hideAll s2.heap (oP X.stack)) X.stack:=PySem.W.funFrames_hide I2.stack UZ
 have F1:s2.heap.FunFrames (PySem.W.hideAll s2.heap (oP X.stack)) (X.env :: X.outer):=by rw [← Bd.Ka];exact F0
 have Vq:(PySem.W.hideAll s2.heap (oP X.stack)).StaysIn s2.heap:=fun b o q=>PySem.W.of_hideAll _ q
 have NV:∀ b o,s2.heap.get? b=some o→b ∉ oP X.stack→(PySem.W.hideAll s2.heap (oP X.stack)).get? b=some o:=fun b o e hb=>PySem.W.hideAll_get _ e hb
 refine wpAny_leaves_madeW Qc Bd.fr Vq F1 hx fun h'' t IS tup tn up=>?_
 have LG:∀ b o,X.s₀.heap.get? b=some o→b ∉ oP X.outer→∃ o',(PySem.W.hideAll s2.heap (oP X.stack)).get? b=some o':=fun b o e hb=>by
  obtain ⟨o1,e1⟩:=(Bd.base I2).there b o e (by simp)
  exact ⟨o1,NV b o1 e1 (Bd.IT (I2.old e) hb)⟩
 have Fo:∀ b u,H2 b=some u→∃ o',(PySem.W.hideAll s2.heap (oP X.stack)).get? b=some o':=fun b u e=>by
  have hb:b ∉ oP X.stack:=fun z=>by rw [I2.yu b z] at e;cases e
  have et:=I2.cn.lt e
  obtain ⟨o1,e1⟩:∃ o1,s2.heap.get? b=some o1:=by
   cases hq:s2.heap.get? b with
   | some o1=>exact ⟨o1,rfl⟩
   | none=>exact absurd hq (Au (I2.cn b u e))
  exact ⟨o1,NV b o1 e1 hb⟩
 have F2:s2.heap.FunFrames (PySem.W.hideAll s2.heap (oP X.stack)) X.outer:=by obtain ⟨_,_,k⟩:=F1;exact k
 have up2:s2.heap.UpToSlots h'':=(Heap.UpToSlots.of_keeps hx.keeps).trans up
 exact ⟨a,C,.ref t,_,H2,rfl,⟨I2.os,I2.bare,Ar (Bd.base I2) F2 Vq IS.1 up2 LG,yO I2.cn Vq IS.1 Fo,IS,LG,Fo⟩,q2⟩
where
 Au {P:Program} {w:World} {H:Hp} {h:Heap} {a:Addr} {o:HO} (x:ff P w H h a o):h.get? a≠none:=by
  cases o with
  | lst xs=>obtain ⟨_,_,_,_,e⟩:=x;rw [e];simp
  | tup xs=>obtain ⟨_,_,_,ob,e,_⟩:=x;rw [e];simp
  | dK bQ=>obtain ⟨_,_,_,_,o,_,_,e,_⟩:=x;rw [e];simp
  | dT bQ=>obtain ⟨_,_,_,_,o,_,_,e,_⟩:=x;rw [e];simp
  | set S n=>obtain ⟨o,_,_,_,e,_⟩:=x;rw [e];simp
  | ins C dx fs=>obtain ⟨_,_,_,e,_⟩:=x;rw [e];simp
  | own y=>obtain ⟨_,e⟩:=x;rw [e];simp
  | xd fs=>obtain ⟨_,⟨_,_,_,e,_⟩,_⟩:=x;rw [e];simp
  | UL lo hi=>obtain ⟨_,_,_,e⟩:=x;rw [e];simp
  | yC ob u=>obtain ⟨e,_⟩:=x;rw [e];simp
  | NL ps=>have e:h.get? a=some _:=x;rw [e];simp
  | met f y=>have e:h.get? a=some _:=x;rw [e];simp
  | ext φ=>obtain ⟨_,⟨_,e⟩,_⟩:=x;rw [e];simp
end
end L2
namespace L2
open PySem PySem.Spec PyProof.Rows
def ExcAt (a C:Addr) (h:Heap):Prop:=∃ oe vs,h.get? a=some oe∧oe.cls=.ref C∧oe.data=.fields vs
theorem ExcAt.mono {a C:Addr} {h1 h2:Heap} (x:ExcAt a C h1) (k:∀ o,h1.get? a=some o→h2.get? a=some o):ExcAt a C h2:=let ⟨oe,vs,e,c,d⟩:=x;⟨oe,vs,k _ e,c,d⟩
structure Catch (K:PySem.W.Frag) (C:Addr):Prop where
 ty:PySem.W.typeIn K (.ref C)=some (.type "type")
 cls:(PySem.W.clsIn K C).isSome=true
 base:PySem.W.subIn K (.ref C) (.type "BaseException")=some true
section
variable {X:Cx} {E:XK} {pins:List (Addr × Obj)} {σ:St} {H:Hp} {s:Shared} {a:Addr}
theorem Un.ext {fs:List Addr} {H H':Hp} {h h':Heap} {a:Addr} {o:HO} (u:Un fs [] H H' h h') (ha:h.get? a=none) (hn:H' a=none):Un fs [] H (upd H' a o) h h' where
 keep:=u.keep
 slot:=u.slot
 free:=fun b ob e n hx=>by rw [aE (fun z=>by rw [z,ha] at e;cases e)];exact u.free b ob e n hx
 there:=u.there
 mi:=fun b xs e=>by have q:=u.mi b xs e;rw [aE (aM q hn)];exact q
 mY:=fun b ob xs e=>by have q:=u.mY b ob xs e;rw [aE (aM q hn)];exact q
 mj:=fun b ps e=>by obtain ⟨m,q⟩:=u.mj b ps e;exact ⟨m,by rw [aE (aM q hn)];exact q⟩
end
end L2
namespace L2
open PySem PySem.Spec PyProof.Rows
structure sD (K:PySem.W.Frag) (C:Addr):Prop where
 ga:PySem.W.findIn K (.ref C) "__getattribute__"=some (some (.builtin "BaseException.__getattribute__"))
 nga:PySem.W.findIn K (.ref C) "__getattr__"=some none
 at_:PySem.W.findIn K (.ref C) "__class__"=some (some (.builtin "object.__class__"))
 cls:(PySem.W.clsIn K C).isSome=true
 obj:PySem.W.mroIn K C (.type "object")=some true
 base:PySem.W.subIn K (.ref C) (.type "BaseException")=some true
section
variable {prog:Program} {w:World} {A:Around} {E:Value→Shared→Prop} {h:Heap} {g:Array GenState} {d:Drawn} {t:Nat} {os:OsState} {K:PySem.W.Frag} {a C:Addr}
theorem ExcAt.type {M:Model} (x:ExcAt a C h):PySem.W.Looks M h (typeOf (.ref a)) (.ref C):=by
 obtain ⟨oe,vs,he,hc,hd⟩:=x
 exact hc ▸ (PySem.W.Looks.ld he).andThen .now
end
end L2
namespace L2
open PySem PySem.Spec PyProof.Rows
abbrev TJ:=Str→St→Hp→VK→Prop
def PJ (X:Cx) (es:List Expr) (t:TJ):Prop :=
 ∀ (out:Str) (pins:List (Addr × Obj)) (s:Shared) (σ:St) (H:Hp) (Q:VK),Inv X pins σ H s→t out σ H Q→wpAny (model X.prog X.w) X.A (joinParts out (evalEach es X.env)) (EP X pins σ Q) X.xe s
section
variable {X:Cx} {e:Expr} {es:List Expr} {te:TE} {t:TJ} {pos:Pos}
def Vr:TJ:=fun out _ H Q=>out.length≤sizeLine∧Q (.str out) H
theorem mr:PJ X [] Vr:=fun out pins s σ H Q I h=>joinParts_nil (show EP X pins σ Q (.str out s.toks) { s with toks:=s.toks+1 } from ⟨.str out,H,I.tok _,⟨_,rfl⟩,h.2⟩) h.1
def Rk (te:TE) (t:TJ):TJ:=fun out σ H Q=>te σ H fun v H1=>∃ y,v=.str y∧(out ++ y).length≤sizeLine∧t (out ++ y) σ H1 Q
theorem bT (he:PE X e te) (hr:PJ X es t):PJ X (e :: es) (Rk te t):=by
 intro out pins s σ H Q I h
 refine joinParts_consE (joinParts_cons (cM (he pins s σ H _ I h) fun v s1 ⟨x,H1,I1,r1,y,ex,hz,q⟩=>?_))
 subst ex
 obtain ⟨tk,rfl⟩:=r1
 exact ⟨hz,hr _ pins s1 σ H1 Q I1 q⟩
theorem jQ {e1 e2:Expr} {rest:List Expr} (h:PJ X (e1 :: e2 :: rest) t):PE X (.JoinedStr (e1 :: e2 :: rest) pos) (fun σ H Q=>t Str.empty σ H Q):=fun pins s σ H Q I hw=>JoinedStr_many (h Str.empty pins s σ H Q I hw)
def Rl (te:TE):TE:=fun σ H Q=>te σ H fun v H1=>∃ i,v=.int i∧i.natAbs.log2 < 1920∧Q (.str (toString i)) H1
theorem fH (he:PE X e te):PE X (.FormattedValue e (-1) none pos) (Rl te):=by
 intro pins s σ H Q I h
 refine FormattedValue_plain (cM (he pins s σ H _ I h) fun v s1 ⟨x,H1,I1,r1,i,ex,hi,q⟩=>?_)
 subst ex
 obtain ⟨tk,rfl⟩:=r1
 exact formatField_int_small hi ⟨.str _,H1,I1.tok _,⟨_,rfl⟩,q⟩
theorem dH {i:Int} {n:Nat} (h:i.natAbs < 2 ^ n) (hn:n≤1920) (h0:0 < n):i.natAbs.log2 < 1920:=by
 by_cases z:i.natAbs=0
 ·rw [z];decide
 ·have:=(Nat.log2_lt z).mpr h
  omega
end
end L2
namespace L2
open PySem PySem.Spec PyProof.Rows
theorem PS.uX {X:Cx} {st:Stmt} {t:TS} (h:PS X.uX st t):PS X st t:=fun pins s σ H D I hw =>
 wpAny_mono (h pins s σ H D (I.rh _) hw) (fun _ _ q=>q.iS) fun _ _ z=>False.elim z
theorem av {X:Cx}:k8 (iL X.prog X.w) X E0:=fun _ _ _ _ _ _ _ h=>by obtain ⟨_,_,_,_,_,_,_,q⟩:=h;exact q.elim
structure Def (P:Program) (w:World) (K:PySem.W.Frag) (mg:Str→Option Value) (base:Heap) (k:Nat) (x:Str) (ps:List Str) (sp:Sp):Prop where
 ex:∃ (f:Addr) (fd:FuncData),bV P w K mg base (iL P w) k f fd ps sp∧mg x=some (.ref f)∧PySem.W.keepIn K (.ref f)=true∧Binds K fd ps []
section
variable {P:Program} {w:World} {K:PySem.W.Frag} {mg:Str→Option Value} {base:Heap}
theorem Def.mono {j k:Nat} {x:Str} {ps:List Str} {sp:Sp} (D:Def P w K mg base j x ps sp) (h:j≤k):Def P w K mg base k x ps sp:=let ⟨f,fd,a,r⟩:=D.ex;⟨f,fd,a.mono h,r⟩
structure aR (K:PySem.W.Frag) (mg:Str→Option Value) (x:Str) (st:Stmt):Prop where
 ex:∃ (f:Addr) (fd:FuncData),jh K x x st f fd∧mg x=some (.ref f)
theorem aR.mk' {h:Heap} {x:Str} {st:Stmt} {f:Addr} {oc:Value} {od an:Option Addr} {Eg:Array (Option Value)} {kV doc pm be ct:Value} (KX:K.In h) (G:h.Ns mainGlobals mg)
  (a:PySem.W.nsIn K mainGlobals x=some (some (.ref f))) (l:K.lookup f=some ⟨oc,od,.func (PySem.W.fnOf x x (bS st) (bI st) (aG st) .none kV doc pm an be ct),Eg⟩)
  (c:PySem.W.codeIn K be x=true) (k:PySem.W.keepIn K (.ref f)=true):aR K mg x st:=⟨f,_,dq l c k,PySem.W.mg_of KX G a⟩
abbrev Ua (P:Program) (w:World) (K:PySem.W.Frag) (mg:Str→Option Value) (base:Heap) (N:List Str) (x:Str) (st:Stmt) (f:Addr) (be:Value) (A:Around) (outer:List Env) (s:Shared) (H:Hp) (E:XK):Cx :=
 CY (iL P w) P w K mg base N x (aG st) f be A outer s H E
theorem bC {N:List Str} {x:Str} {st:Stmt} {f:Addr} {be:Value} {A:Around} {outer:List Env} {s:Shared} {H:Hp} {E:XK}:Body (Ua P w K mg base N x st f be A outer s H E) E:=⟨rfl,rfl,rfl,rfl⟩
theorem aR.def {x:Str} {st:Stmt} {N ps:List Str} {k:Nat} {sp:Sp} (F:aR K mg x st) (S:aS N ps (aG st))
  (hb:∀ (kV doc pm:Value) (an:Option Addr) (be ct:Value) (us:List Value),us.length=ps.length→bindArgs (PySem.W.fnOf x x (bS st) (bI st) (aG st) .none kV doc pm an be ct) ⟨us,[]⟩=pure (ps.zip us))
  (len:∀ vs H Q E,sp vs H Q E→vs.length=ps.length)
  (qa:∀ (f:Addr) (be:Value) (A:Around) (outer:List Env) (s:Shared) (H:Hp) (vs:List V) (Q:VK) (E:XK),dm k (A.deeper (envOfC x (aG st) s.heap.objs.size f be))→sp vs H Q E →
   ∃ t,AQ (Ua P w K mg base N x st f be A outer s H E) (bI st) t∧t { nx:=fun _ H'=>Q .bq H',rt:=Q } (start N vs) H):Def P w K mg base (k+1) x ps sp:=by
 obtain ⟨f,fd,F1,hm⟩:=F.ex
 have b:=F1.binds hb
 have kp:=F1.kp
 obtain ⟨oc,od,kV,doc,pm,an,be,ct,Eg,rfl,lk,AR⟩:=F1.ex
 exact ⟨f,_,Ef lk AR S len fun A outer s H vs Q E hr Eh=>qa f be A outer s H vs Q E hr Eh,hm,kp,b⟩
end
section
variable {X:Cx} {k:Nat} {ps:List Str} {sp:Sp} {E:XK} {x:Str} {p pos:Pos} {e:Expr} {es:List Expr} {t:TA}
theorem aa (D:Def X.prog X.w X.K X.mg X.base k x ps sp) (hr:dm k X.A) (hx:k8 (iL X.prog X.w) X E) (ha:PA X (e :: es) t) (hg:Gl X x:=by rfl) (IH:(x == ("__debug__":Str))=false:=by decide)
  (he:starEach (e :: es) X.env=(false,eval e X.env) :: starEach es X.env:=by rfl) (oQ:(backTo pos (starEach es X.env)).any (·.1)=false:=by rfl) :
  PE X (.Call (.Name x p) (e :: es) [] pos) (NR sp [] E t):=by
 obtain ⟨f,fd,F,hm,hk,hb⟩:=D.ex
 exact K7 F hr hg hm hk hb .nil hx ha IH he oQ
end
end L2
namespace L2
open PySem PySem.Spec PyProof.Rows
section
variable {X:Cx}
def NW (K:PySem.W.Frag):R2:=fun x y H Q=>∃ l b xs zs,x=.ref l∧y=.ref b∧aY K H l xs∧aY K H b zs∧xs.length+zs.length≤sizeLine∧∀ p,H p=none→Q (.ref p) (upd H p (.lst (xs ++ zs)))
theorem LH:kr X (binaryOp .Add) (NW X.K):=by
 intro pins s σ H x y v u Q I rx ry h
 obtain ⟨l,b,xs,zs,rfl,rfl,hH,hB,hz,q⟩:=h
 cases rx
 cases ry
 obtain ⟨ae,r,pl,_⟩:=I.list hH
 obtain ⟨fe,r2,Vs,_⟩:=I.list hB
 obtain ⟨⟨cls,dd,data,sl⟩,ho,hc,n,hd⟩:=id pl.isList
 obtain ⟨⟨aAd,dd2,data2,UY⟩,Xy,Ub,n2,hd2⟩:=id Vs.isList
 simp only at hc hd Ub hd2
 subst hc hd Ub hd2
 have e:ae.toArray ++ fe.toArray=(ae ++ fe).toArray:=by simp
 have ox:ae.toArray.size+fe.toArray.size≤sizeLine:=by
  rw [List.size_toArray,List.size_toArray,← r.length,← r2.length];exact hz
 refine concat_meets ⟨_,ho,rfl⟩ ⟨_,Xy,rfl⟩ noFill_list_add seq_list_add PySem.F.slot_list_add PySem.F.entry_list_add (PySem.F.args_list_add_2 _ _) (list_addW l b ae.toArray fe.toArray n n2 dd dd2 sl UY ox) ⟨ho,Xy,?_⟩
 rw [e]
 exact ⟨.ref _,_,I.RY (t':=s.toks) (r.append r2) (by rw [List.length_append];exact hz),rfl,q _ I.fresh⟩
inductive Xz (K:PySem.W.Frag) (H:Hp):V→Value→Prop where
 | of {x:V} {t:Value}:uK K H x t→Xz K H x t
 | exc {a C:Addr}:H a=some (.ext (ExcAt a C))→sD K C→Xz K H (.ref a) (.ref C)
end
end L2
namespace L2
open PySem PySem.Spec PyProof.Rows
end L2
namespace L2
open PySem PySem.Spec PyProof.Rows
def yP (K:PySem.W.Frag):Sp:=fun vs H Q _=>∃ (a:Addr) (ns:List Int),vs=[.ref a]∧aY K H a (ns.map V.int)∧ns.length≤63∧∀ H',Q (.bl true) H'
section
variable {P:Program} {w:World} {K:PySem.W.Frag} {mg:Str→Option Value} {base:Heap}
theorem jh.ok1 {x:Str} {st:Stmt} {f:Addr} {fd:FuncData} {N ps:List Str} {k:Nat} {sp:Sp} (F:jh K x x st f fd) (S:aS N ps (aG st)) (len:∀ vs H Q E,sp vs H Q E→vs.length=ps.length)
  (qa:∀ (f:Addr) (be:Value) (A:Around) (outer:List Env) (s:Shared) (H:Hp) (vs:List V) (Q:VK) (E:XK),dm k (A.deeper (envOfC x (aG st) s.heap.objs.size f be))→sp vs H Q E →
   ∃ t,AQ (Ua P w K mg base N x st f be A outer s H E) (bI st) t∧t { nx:=fun _ H'=>Q .bq H',rt:=Q } (start N vs) H):bV P w K mg base (iL P w) (k+1) f fd ps sp:=by
 obtain ⟨oc,od,kV,doc,pm,an,be,ct,Eg,rfl,lk,AR⟩:=F.ex
 exact Ef lk AR S len fun A outer s H vs Q E hr Eh=>qa f be A outer s H vs Q E hr Eh
theorem IU {st:Stmt} {fa:Addr} {k:Nat} (S:aR K mg "law" st)
  (hb:∀ (kV doc pm:Value) (an:Option Addr) (be ct:Value) (us:List Value),us.length=1→bindArgs (PySem.W.fnOf "law" "law" (bS st) (bI st) (aG st) .none kV doc pm an be ct) ⟨us,[]⟩=pure ((["script"]:List Str).zip us))
  (Og:mg "law"=some (.ref fa)) (hF:∀ (f:Addr) (fd:FuncData) (base:Heap),jh K "law" "law" st f fd→bV P w K mg base (iL P w) k f fd ["script"] (yP K)) :
  ∃ fd:FuncData,(∀ (s:Shared) (u:Value),BindsTo s fd ⟨[u],[]⟩ [("script",u)])∧∀ base:Heap,K.In base→base.Ns mainGlobals mg→bV P w K mg base (iL P w) k fa fd ["script"] (yP K):=by
 obtain ⟨f,fd,F,hm⟩:=S.ex
 rw [Og] at hm
 cases hm
 refine ⟨fd,?_,fun base _ _=>hF fa fd base F⟩
 obtain ⟨oc,od,kV,doc,pm,an,be,ct,Eg,rfl,lk,AR⟩:=F.ex
 exact fun s u=>.of_eq (hb kV doc pm an be ct [u] rfl)
end
theorem IV {l:PySem.W.OpenLaw} {k:Nat} {q:Program} {loose:List Str} {XP:(Str→Option Value)→Heap→Prop} {YP:World→Heap→Prop} {d:DefRec} {K:Params→PySem.W.Frag}
  (hr:dm k callerA) (hn:l.most=some 63) (Ra:d.params.defaults=[])
  (hY:∀ (w:World) (h:Heap),YP w h→(K w.params).In h)
  (F:∀ (w:World) (mg:Str→Option Value) (fa:Addr) (h:Heap),(K w.params).In h→h.Ns mainGlobals mg→mg d.name=some (.ref fa) →
   ∃ fd:FuncData,(∀ (s:Shared) (u:Value),BindsTo s fd ⟨[u],[]⟩ [("script",u)]) ∧
    ∀ base:Heap,(K w.params).In base→base.Ns mainGlobals mg→bV l.prog w (K w.params) mg base (iL l.prog w) k fa fd ["script"] (yP (K w.params))) :
  PySem.W.WalkO q loose XP YP l.row.toRowW d [] (fun f vs=>PySem.call f vs) :=
 LF (n:=63) (k:=k) (x:="script") (CX:=fun w=>iL l.prog w) (sp:=fun w=>yP (K w.params)) hn (by decide) Ra hr hY F (fun _ _ a ns hl _ hS=>⟨a,ns,rfl,hS,hl,fun _=>rfl⟩)
  fun _ _ _ _ _ h=>by obtain ⟨_,_,_,_,_,_,_,q⟩:=h;exact q.elim
theorem aV {X:Cx} {x:Str} {n:Int} {pos:Pos} (h:∃ tk,X.mg x=some (.int n tk)) (hg:Gl X x:=by rfl) (hd:(x == ("__debug__":Str))=false:=by decide):PE X (.Name x pos) (tC (.int n)):=by
 obtain ⟨tk,e⟩:=h
 exact EN hg e ⟨tk,rfl⟩ hd
end L2
namespace L2
open PySem
theorem fj {p A B:Prop} [Decidable p] (hp:¬ p) (h:B):if decide p=true then A else B:=by rw [decide_eq_false hp];exact gu h
theorem fk {p A B:Prop} [Decidable p] (hp:p) (h:A):if decide p=true then A else B:=by rw [decide_eq_true hp];exact gw h
theorem vG {p A B:Prop} [Decidable p] (hp:p) (h:B):if (!decide p)=true then A else B:=by rw [decide_eq_true hp];exact gu h
theorem yQ {p A B:Prop} [Decidable p] (hp:¬ p) (h:A):if (!decide p)=true then A else B:=by rw [decide_eq_false hp];exact gw h
theorem dW {n:Int} (h:-1000≤n) (h2:n≤1000):n.natAbs < 2 ^ 1000:=by
 have:n.natAbs≤1000:=by omega
 exact Nat.lt_of_le_of_lt this (by decide)
theorem aI.put {H H':Hp} {p:Addr} {o:HO} (s:aI H H') (hp:H p=none):aI H (upd H' p o):=fun b u e=>by rw [aE (aM e hp)];exact s b u e
theorem aI.new {H H':Hp} {p:Addr} {o:HO} (s:aI H H') (hp:H' p=none):aI H (upd H' p o):=s.put (s.free hp)
end L2
namespace L2
open PySem
end L2
namespace L2
open PySem PySem.Spec PyProof.Rows
theorem Ou {X:Cx} {E:XK} (Bd:Body X E):PassesOwn (model X.prog X.w) X.A X.env X.xe:=by
 rw [Bd.xe]
 exact PassesOwn.leaving
inductive Alike (K:PySem.W.Frag) (H:Hp):Nat→V→V→Prop where
 | int {n:Nat} (i:Int):Alike K H n (.int i) (.int i)
 | bl {n:Nat} (i:Bool):Alike K H n (.bl i) (.bl i)
 | str {n:Nat} (i:Str):Alike K H n (.str i) (.str i)
 | bq {n:Nat}:Alike K H n .bq .bq
 | lst {n:Nat} {a b:Addr} {xs ys:List V} (ha:aY K H a xs) (hb:aY K H b ys) (hl:xs.length=ys.length) (h:∀ (j:Nat) (x y:V),xs[j]?=some x→ys[j]?=some y→Alike K H n x y):Alike K H (n+1) (.ref a) (.ref b)
theorem all_true (n:Nat):(List.range n).all (fun _=>true)=true:=by simp
section
variable {X:Cx} {pins:List (Addr × Obj)} {σ:St} {H:Hp} {s:Shared}
theorem dI {xs:List V} {ae:List Value} (r:aq xs ae) (j:Nat) (h:j < ae.toArray.size):∃ x,xs[j]?=some x∧RelV x ae.toArray[j]:=by
 have hj:j < ae.length:=by simpa using h
 have hl:=r.length
 have hx:xs[j]?=some xs[j]:=by simp [show j < xs.length by omega]
 obtain ⟨u,hu,ru⟩:=r.get hx
 refine ⟨_,hx,?_⟩
 have e:ae.toArray[j]=u:=by
  have:=hu
  rw [List.getElem?_eq_getElem hj] at this
  simpa using Option.some.inj this
 rw [e]
 exact ru
theorem IW (I:Inv X pins σ H s) {n:Nat} {x y:V} (h:Alike X.K H n x y):∀ {A:Around} {u v:Value},A.units+n < cLine→RelV x u→RelV y v→SeqAt.EqAt A s u v true:=by
 induction h with
 | int i=>intro A u v _ ru rv;have:=pI (A:=A) (s:=s) ru rv rfl rfl;simpa [Ke] using this
 | bl i=>intro A u v _ ru rv;have:=pI (A:=A) (s:=s) ru rv rfl rfl;simpa [Ke] using this
 | str i=>intro A u v _ ru rv;have:=pI (A:=A) (s:=s) ru rv rfl rfl;simpa [Ke] using this
 | bq=>intro A u v _ ru rv;have:=pI (A:=A) (s:=s) ru rv rfl rfl;simpa [Ke] using this
 | @lst n a b xs ys ha hb hl h ih =>
  intro A u v hu ru rv
  cases ru
  cases rv
  by_cases Eu:a=b
  ·subst Eu
   exact SeqAt.EqAt.same _
  ·obtain ⟨ae,r1,p1,_⟩:=I.list ha
   obtain ⟨fe,r2,p2,_⟩:=I.list hb
   have l1:=r1.length
   have l2:=r2.length
   refine SeqAt.EqAt.of_refs Eu ?_
   have q:=SeqAt.RcAt.lists (A:=A) (s:=s) (e:=fun _=>true) p1.isList p2.isList (by simp;omega) (by omega) fun j h1 h2=>?_
   ·rw [all_true] at q
    exact q
   ·obtain ⟨x,hx,rx⟩:=dI r1 j h1
    obtain ⟨y,hy,ry⟩:=dI r2 j h2
    exact ih j x y hx hy (A:=A.in1) (by show A.units+1+n < cLine;omega) rx ry
end
section
variable {X:Cx}
def Rm (K:PySem.W.Frag) (neg:Bool):R2:=fun x y H Q=>∃ a b xs ys,x=.ref a∧y=.ref b∧aY K H a xs∧aY K H b ys ∧
 ((xs.length=ys.length∧(∀ (j:Nat) (u v:V),xs[j]?=some u→ys[j]?=some v→Alike K H 8 u v)∧Q (.bl (!neg)) H)∨(xs.length≠ys.length∧Q (.bl neg) H))
theorem Ov (hu:X.A.units+16 < cLine):kr X (compareOp .NotEq) (Rm X.K true):=by
 intro pins s σ H x y v u Q I rx ry h
 obtain ⟨a,b,xs,ys,rfl,rfl,ha,hb,h⟩:=h
 cases rx
 cases ry
 obtain ⟨ae,r1,p1,_⟩:=I.list ha
 obtain ⟨fe,r2,p2,_⟩:=I.list hb
 have l1:=r1.length
 have l2:=r2.length
 rcases h with ⟨hl,he,q⟩ | ⟨hl,q⟩
 ·refine PySem.EqBoolInt.of_rcne (SeqAt.RcNeAt.lists (e:=fun _=>true) p1.isList p2.isList (by simp;omega) (by omega) fun j h1 h2=>?_) ?_
  ·obtain ⟨x,hx,rx⟩:=dI r1 j h1
   obtain ⟨y,hy,ry⟩:=dI r2 j h2
   exact IW I (he j x y hx hy) (A:=X.A.in1) (by show X.A.units+1+8 < cLine;omega) rx ry
  ·rw [all_true]
   exact ⟨.bl false,H,I,rfl,q⟩
 ·refine PySem.EqBoolInt.of_rcne (SeqAt.RcNeAt.lists_lengths p1.isList p2.isList (by simp;omega) (by omega)) ?_
  exact ⟨.bl true,H,I,rfl,q⟩
theorem Cd {K:PySem.W.Frag} {H:Hp} {ns:List Int}:∀ (j:Nat) (u v:V),(ns.map V.int)[j]?=some u→(ns.map V.int)[j]?=some v→Alike K H 8 u v:=fun j u v h1 h2=>by
 rw [h1] at h2
 cases h2
 rw [List.getElem?_map] at h1
 cases e:ns[j]? with
 | none=>rw [e] at h1;cases h1
 | some z=>rw [e] at h1;cases h1;exact .int z
theorem GC {A:Around} {k:Nat} (hr:dm k A):A.units+16 < cLine:=by have:=hr.un;omega
end
end L2
namespace L2
open PySem PySem.Spec PyProof.Rows
section
variable {prog:Program} {w:World} {A:Around} {s:Shared} {R:Result→Shared→Prop} {I S:Addr} {fp wr:List Addr} {G:Array GenState→Array GenState→Prop} {n:Nat} {P:Nat→Value→Prop} {St:Nat→Shared→Prop} {T:String}
theorem IX (W:WalksS prog w A.in1 I fp wr G n P St) (hT:∀ i s,St i s→s.TypeIs (.ref I) T) (t1:(Value.type T == Value.type "list")=false) (t2:(Value.type T == Value.type "tuple")=false)
  (hh:∀ (s:Shared) (Q:Bool→Shared→Prop) (E:Value→Shared→Prop),St 0 s→Q false s→wpAny (model prog w) A.in1 (Builtin.List.listLengthHint (.ref I)) Q E s)
  (res:Value) (c0:Nat) (CM:St 0 s) (Uc:S ∉ fp) (hI:I ∈ fp) (hS:s.heap.get? S=some { cls:=.type "list",data:=.seq #[] c0 }) (hn:n≤sizeLine)
  (hR:∀ s' md c',Moved (S :: wr) G s s'→s'.heap.get? S=some { cls:=.type "list",dict:=none,data:=.seq md c',slots:=#[] }→ItemsOf P md n→R (.ok (.ret res)) s') :
  wpAny (model prog w) A.in1 (Builtin.List.listExtendWith (.ref S) (.ref I) res)
   (fun fin s'=>match fin with | .done f=>R (.ok f) s' | .again c'=>c'.quiet=true∧codeAny (model prog w) A c' R s') (fun e s'=>R (.error e) s') s:=by
 have ne:S≠I:=fun e=>Uc (by rw [e];exact hI)
 have h1:Builtin.List.listSameRef (.ref S) (.ref I)=false:=by simp [Builtin.List.listSameRef,ne]
 unfold Builtin.List.listExtendWith
 refine wpAny_bind (wpAny_typeOf (hT 0 s CM) ?_)
 simp only [h1,t1,t2,Bool.or_false,Bool.false_eq_true,if_false]
 refine wpAny_bind (W.self 0 s _ _ CM (wpAny_bind (wpAny_holding (hh s _ _ CM ?_))))
 refine wpAny_ite_split (fun _=>?_) (fun _=>?_)
 ·refine wpAny_bind (wpAny_rule (wpAny_bind ?_))
  show wpAny _ A.in1 (updateSeq S (·.push .none) >>= fun _=>updateSeq S (·.pop)) _ _ s
  refine wpAny_bind (wpAny_updateSeq hS rfl ?_)
  have Ud:=Heap.get?_update_self (Obj.mapSeq (·.push Value.none)) hS rfl
  refine wpAny_updateSeq (hz:=by seq_fits) Ud rfl ?_
  have hS3:=Heap.get?_update_self (Obj.mapSeq (·.pop)) Ud rfl
  have kp:∀ b o,b≠S→s.heap.get? b=some o→((s.heap.update S (Obj.mapSeq (·.push Value.none))).update S (Obj.mapSeq (·.pop))).get? b=some o:=fun b o hb e=>by
   rw [Heap.get?_update_other _ _ (Ne.symm hb),Heap.get?_update_other _ _ (Ne.symm hb)];exact e
  exact wpAny_pure ⟨plainId_quiet F.plain_extend_loop _,codeAny_extend_loopS W hn S Uc res n 0 _ _ _ rfl (Nat.zero_le n) (W.frame 0 s _ s.toks CM (Nat.le_refl _) fun b hb o e=>kp b o (fun z=>Uc (by rw [← z];exact hb)) e) hS3 (ItemsOf.nil P)
   fun s' md c' hm Ow Ce=>hR s' md c' (Moved.trans W.gtrans ((Moved.refl W.grefl).then_heap (Nat.le_refl _) fun b o hb e=>kp b o (fun z=>hb (by rw [z];exact List.mem_cons_self)) e) hm) Ow Ce⟩
 ·exact wpAny_pure ⟨plainId_quiet F.plain_extend_loop _,codeAny_extend_loopS W hn S Uc res n 0 s #[] c0 rfl (Nat.zero_le n) CM hS (ItemsOf.nil P) fun s' md c' hm Ow Ce=>hR s' md c' hm Ow Ce⟩
theorem GD {E:Value→Shared→Prop} {Q:Value→Shared→Prop} (W:WalksS prog w A.in1.in1 I fp wr G n P St) (hT:∀ i s,St i s→s.TypeIs (.ref I) T) (t1:(Value.type T == Value.type "list")=false) (t2:(Value.type T == Value.type "tuple")=false)
  (hh:∀ (s:Shared) (Q:Bool→Shared→Prop) (E:Value→Shared→Prop),St 0 s→Q false s→wpAny (model prog w) A.in1.in1 (Builtin.List.listLengthHint (.ref I)) Q E s)
  (CM:St 0 s) (Rc:∀ b ∈ fp,b < s.heap.objs.size) (hI:I ∈ fp) (hn:n≤sizeLine)
  (hQ:∀ s' md c',Moved (s.heap.objs.size :: wr) G { s with heap:=s.heap.push { cls:=.type "list",data:=.seq #[] } } s' →
   s'.heap.get? s.heap.objs.size=some { cls:=.type "list",dict:=none,data:=.seq md c',slots:=#[] }→ItemsOf P md n→Q (.ref s.heap.objs.size) s') :
  wpAny (model prog w) A (call (.type "list") [.ref I]) Q E s:=by
 have nf:s.heap.objs.size ∉ fp:=fun z=>absurd (Rc _ z) (Nat.lt_irrefl _)
 refine callType_codes (Q₁:=fun obj z=>obj=.ref s.heap.objs.size∧z={ s with heap:=s.heap.push { cls:=.type "list",data:=.seq #[] } }) F.called_list (F.typeCall_list_1 _) F.entry_list_init (code_list_new _ ⟨rfl,rfl⟩) fun obj z hz=>?_
 obtain ⟨rfl,rfl⟩:=hz
 have hS:(s.heap.push { cls:=.type "list",data:=.seq #[] }).get? s.heap.objs.size=some { cls:=.type "list",data:=.seq #[] }:=Heap.get?_push_size _ rfl
 refine ⟨⟨_,hS,rfl⟩,F.args_list_init_2 _ _,?_⟩
 have Vt:=W.frame 0 s (s.heap.push { cls:=.type "list",data:=.seq #[] }) s.toks CM (Nat.le_refl _) fun b _ o e=>Heap.get?_push_of_some _ e
 show wpAny _ A.in1.in1 (do let old ← Builtin.List.listItems (.ref s.heap.objs.size);Builtin.List.listUpdate (.ref s.heap.objs.size) (fun _=>#[]);letGo old.toList.reverse;Builtin.List.listExtendWith (.ref s.heap.objs.size) (.ref I) .none) _ _ _
 refine wpAny_bind ?_
 unfold Builtin.List.listItems
 refine wpAny_bind (wpAny_seqItems hS rfl (wpAny_pure (wpAny_bind (wpAny_updateSeq hS rfl ?_))))
 have Ud:=Heap.get?_update_self (Obj.mapSeq (fun _=>(#[]:Array Value))) hS rfl
 have kp:∀ b o,b≠s.heap.objs.size→(s.heap.push { cls:=.type "list",data:=.seq #[] }).get? b=some o→((s.heap.push { cls:=.type "list",data:=.seq #[] }).update s.heap.objs.size (Obj.mapSeq (fun _=>(#[]:Array Value)))).get? b=some o :=
  fun b o hb e=>(Heap.get?_update_other _ _ (Ne.symm hb)).trans e
 refine wpAny_bind (wpAny_letGo ?_)
 refine IX W hT t1 t2 hh .none _ (W.frame 0 _ _ s.toks Vt (Nat.le_refl _) fun b hb o e=>kp b o (fun z=>nf (by rw [← z];exact hb)) e) nf hI Ud hn fun s' md c' hm Ow Ce=>?_
 exact ⟨rfl,hQ s' md c' (Moved.trans W.gtrans ((Moved.refl W.grefl).then_heap (Nat.le_refl _) fun b o hb e=>kp b o (fun z=>hb (by rw [z];exact List.mem_cons_self)) e) hm) Ow Ce⟩
end
theorem GF:typeLookup (.type "list_reverseiterator") "__len__"=pure none:=by rw [typeLookup_type,builtinLookup_eq_fast];kernel_rfl
theorem IY:typeLookup (.type "list_reverseiterator") "__length_hint__"=pure (some (.builtin "list_reverseiterator.__length_hint__")):=by rw [typeLookup_type,builtinLookup_eq_fast];kernel_rfl
theorem IZ {prog:Program} {w:World} {A:Around} {s:Shared} {E:Value→Shared→Prop} {Q:Bool→Shared→Prop} {it l:Addr} {i:Int} (hit:s.heap.IsRevIter it l i) (h:Q false s) :
  wpAny (model prog w) A (Builtin.List.listLengthHint (.ref it)) Q E s:=by
 unfold Builtin.List.listLengthHint
 refine wpAny_bind (wpAny_specialOf hit.typeIs GF ?_)
 show wpAny _ A (specialOf (Value.ref it) (Str.ofString "__length_hint__") >>= _) _ _ _
 refine wpAny_bind (wpAny_specialOf hit.typeIs IY ?_)
 generalize X0:("list_reverseiterator.__length_hint__":String)=id0
 wp_delta
 rw [show splitId id0=some ("list_reverseiterator","__length_hint__") from by subst X0;decide +kernel]
 subst X0
 refine wpAny_bind (wpAny_isInstance (T:="list_reverseiterator") (b:=true) hit.typeIs (by rw [isSubtype_type];kernel_rfl) ?_)
 refine wpAny_ite_split (fun z=>absurd z (by decide)) (fun _=>?_)
 refine wpAny_ite_split (fun _=>?_) (fun z=>absurd (by decide +kernel) z)
 exact wpAny_ite_split (fun z=>absurd z (by decide +kernel)) (fun _=>wpAny_pure h)
section
variable {X:Cx}
def Rn (K:PySem.W.Frag) (te:TE):TE:=fun σ H Q=>te σ H fun v H1=>∃ l xs,v=.ref l∧aY K H1 l xs∧∀ q,H1 q=none→Q (.ref q) (upd H1 q (.lst xs.reverse))
theorem sE {e:Expr} {te:TE} {p p2 pos LI:Pos} (hc:X.calm=true) (X1:X.mg "list"=none) (hmr:X.mg "reversed"=none) (he:PE X e te) (hgl:Gl X "list":=by rfl) (hgr:Gl X "reversed":=by rfl)
  (hs:starEach [e] X.env=[(false,eval e X.env)]:=by rfl) (Fs:starEach [Expr.Call (.Name "reversed" p2) [e] [] LI] X.env=[(false,eval (Expr.Call (.Name "reversed" p2) [e] [] LI) X.env)]:=by rfl) :
  PE X (.Call (.Name "list" p) [.Call (.Name "reversed" p2) [e] [] LI] [] pos) (Rn X.K te):=by
 intro pins s σ H Q I h
 refine wpAny_Call_Name_kw (kn I hgl X1 boot_list ?_ (by decide) (by decide))
 refine PyProof.Rows.callWith_type1 ?_ Fs rfl
 rw [Fs]
 show wpAny _ _ (spliced [(false,eval (Expr.Call (.Name "reversed" p2) [e] [] LI) X.env)]) _ _ s
 refine Calls.spliced_cons (wpAny_Call_Name_kw (kn I hgr hmr boot_reversed ?_ (by decide) (by decide)))
 refine PyProof.Rows.callWith_type1 ?_ hs rfl
 rw [hs]
 show wpAny _ _ (spliced [(false,eval e X.env)]) _ _ s
 refine Calls.spliced_cons (cM (he pins s σ H _ I h) fun v s1 ⟨x,H1,I1,r1,q1⟩=>Calls.spliced_nil ?_)
 obtain ⟨l,xs,rfl,hq,q⟩:=q1
 cases r1
 obtain ⟨ae,rv,pl,hz⟩:=I1.list hq
 have hlen:=rv.length
 refine call_reversed_list pl.isList (Calls.spliced_nil ?_)
 have et:l < s1.heap.objs.size:=by
  obtain ⟨o,n,ho,_⟩:=pl
  exact Heap.lt_size ho
 have Vu:l≠s1.heap.objs.size:=Nat.ne_of_lt et
 have W:=(Walks.listRev (prog:=X.prog) (w:=X.w) (A:=X.A.in1.in1) (I.ok.hd hc) s1.heap.objs.size l Vu ae.toArray).toS
 have Ue:(s1.heap.push (revObj l ((ae.toArray.size:Int) - 1))).objs.size=s1.heap.objs.size+1:=Heap.size_push ..
 have Vs:(s1.heap.push (revObj l ((ae.toArray.size:Int) - 1))).IsList l ae.toArray:=pl.isList.at fun o e=>Heap.get?_push_of_some _ e
 refine GD W (T:="list_reverseiterator") (fun i s' st=>st.2.1.typeIs) (by decide) (by decide) (fun s' Q' E' st OV=>IZ st.2.1 OV) ⟨Nat.zero_le _,⟨_,Heap.get?_push_size _ rfl,rfl,by unfold revObj;simp⟩,Vs⟩ (fun b hb=>?_) (by simp) (by simp;omega) fun s' md c' hm Ow Ce=>?_
 ·have Vv:b=s1.heap.objs.size∨b=l:=by simpa using hb
  show b < (s1.heap.push (revObj l ((ae.toArray.size:Int) - 1))).objs.size
  rw [Ue]
  rcases Vv with rfl | rfl
  ·exact Nat.lt_succ_self _
  ·exact Nat.lt_succ_of_lt et
 ·have ea:md=ae.reverse.toArray:=by
   obtain ⟨a1,a2⟩:=Ce
   apply Array.ext'
   apply List.ext_getElem?
   intro j
   by_cases hj:j < ae.length
   ·have Kg:j < md.size:=by rw [a1];simpa using hj
    have g:=a2 j md[j] (by simp [Kg])
    have e1:md.toList[j]?=some md[j]:=by simp [Kg]
    rw [e1]
    simp only [List.getElem?_toArray,List.size_toArray] at g
    show _=ae.reverse[j]?
    rw [List.getElem?_reverse hj,g]
   ·have:md.toList[j]?=none:=by simp;rw [a1];simp;omega
    rw [this]
    simp
    omega
  subst ea
  rw [Moved.eq_with hm]
  have kp:∀ b o,s1.heap.get? b=some o→s'.heap.get? b=some o:=fun b o eb=>by
   have X2:=Heap.lt_size eb
   refine hm.heap b o (fun z=>?_) (Heap.get?_push_of_some _ (Heap.get?_push_of_some _ eb))
   have z':b=(s1.heap.push (revObj l ((ae.toArray.size:Int) - 1))).objs.size∨b=s1.heap.objs.size:=by simpa using z
   rw [Ue] at z'
   rcases z' with z' | z'
   ·exact absurd X2 (by rw [z'];exact Nat.not_lt.mpr (Nat.le_succ _))
   ·exact absurd X2 (by rw [z'];exact Nat.lt_irrefl _)
  refine ⟨.ref _,_,I1.laid (t':=s'.toks) (o:=.lst xs.reverse) (a:=(s1.heap.push (revObj l ((ae.toArray.size:Int) - 1))).objs.size) kp (by rw [Ue];omega) ?_,rfl,q _ (I1.cn.fresh (by rw [Ue];omega))⟩
  exact ⟨by rw [List.length_reverse];exact hz,ae.reverse,c',rv.reverse,Ow⟩
end
end L2
namespace L2
open PySem PySem.Spec PyProof.Rows
def Ew (Nc:List Str) (ix:List (Option Nat)) (scope sc:Scope) (N:List Str):Bool :=
 decide (scope.kind=.function) && decide Nc.Nodup && decide (ix.length=Nc.length) &&
 (scope.names.all fun x=>decide (x.2=.local→scope.names.lookup x.1=some .local)) &&
 (scope.names.all fun x=>decide (x.2=.free→sc.names.lookup x.1=some .cell∨sc.names.lookup x.1=some .free)) &&
 (scope.names.all fun x=>decide (x.2=.free→(x.1,NameKind.cell) ∉ scope.names)) &&
 ((ix.zip Nc).all fun p=>match p.1 with | none=>true | some j=>decide (N[j]?=some p.2∧scope.names.lookup p.2=some .free))
theorem dJ {X:Cx} {Nc:List Str} {ix:List (Option Nat)} {scope:Scope} (sc:Scope) (N:List Str) (Ex:X.env.scope=sc) (hN:X.N=N) (h:Ew Nc ix scope sc N=true):e9 X Nc ix scope:=by
 subst Ex hN
 simp only [Ew,Bool.and_eq_true,decide_eq_true_eq,List.all_eq_true] at h
 obtain ⟨⟨⟨⟨⟨⟨h1,h2⟩,h3⟩,h4⟩,h5⟩,h6⟩,h7⟩:=h
 refine ⟨h1,h2,h3,h4,h5,fun x hx=>h6 _ hx rfl,fun i j x e1 e2=>?_⟩
 have hm:(some j,x) ∈ ix.zip Nc:=by
  refine List.mem_iff_getElem?.mpr ⟨i,?_⟩
  rw [List.getElem?_zip_eq_some]
  exact ⟨e1,e2⟩
 have:=h7 _ hm
 simpa using this
end L2
namespace L2
open PySem PySem.Spec PyProof.Rows
section
variable {K:PySem.W.Frag} {g:TG} {tt:TT} {te:TE} {D:Addr} {σ:St} {H:Hp} {Q:VK}
theorem uZ {a:Addr} {xs:List V} (Pv:Nat→St→Hp→Prop) (h0:Pv 0 σ H) (hl:∀ i σ H,i≤xs.length→Pv i σ H→aY K H a xs)
  (hs:∀ (i:Nat) (x:V) (σ:St) (H:Hp) (N:St→Hp→Prop),(∀ σ H,Pv (i+1) σ H→N σ H)→xs[i]?=some x→Pv i σ H→g x σ H fun σ3 H3=>tt σ3 H3 fun b H4 =>
   if b=true then te σ3 H4 fun v H5=>∃ ys,H5 D=some (.lst ys)∧ys.length < sizeLine∧N σ3 (upd H5 D (.lst (ys ++ [v]))) else N σ3 H4)
  (hd:∀ σ H,Pv xs.length σ H→Q (.ref D) H) :
  tw (OK K a) g tt te D σ H Q:=by
 refine ⟨fun i m σ H=>m=xs.length - i∧i≤xs.length∧Pv i σ H,⟨xs.length,by simp,Nat.zero_le _,h0⟩,?_⟩
 rintro i m σ' H' ⟨rfl,hi,p⟩
 have q:=hl i σ' H' hi p
 by_cases et:i < xs.length
 ·refine .inr ⟨⟨xs,xs[i],q,by simp [et]⟩,fun x H2 y=>?_⟩
  obtain ⟨e,y⟩:=y
  subst e
  exact hs i x σ' _ (fun σ3 H3=>∃ m',m' < xs.length - i∧m'=xs.length - (i+1)∧i+1≤xs.length∧Pv (i+1) σ3 H3) (fun σ3 H3 z=>⟨xs.length - (i+1),by omega,rfl,et,z⟩) (y xs q) p
 ·have e:i=xs.length:=by omega
  subst e
  exact .inl ⟨⟨xs,q,Nat.le_refl _⟩,hd σ' H' p⟩
theorem kI {lo:Int} {n:Nat} (Pv:Nat→St→Hp→Prop) (h0:Pv 0 σ H)
  (hs:∀ (i:Nat) (σ:St) (H:Hp) (N:St→Hp→Prop),(∀ σ H,Pv (i+1) σ H→N σ H)→i < n→Pv i σ H→g (.int (lo+i)) σ H fun σ3 H3=>tt σ3 H3 fun b H4 =>
   if b=true then te σ3 H4 fun v H5=>∃ ys,H5 D=some (.lst ys)∧ys.length < sizeLine∧N σ3 (upd H5 D (.lst (ys ++ [v]))) else N σ3 H4)
  (hd:∀ σ H,Pv n σ H→Q (.ref D) H) :
  tw (K1 lo n) g tt te D σ H Q:=by
 refine ⟨fun i m σ H=>m=n - i∧i≤n∧Pv i σ H,⟨n,by simp,Nat.zero_le _,h0⟩,?_⟩
 rintro i m σ' H' ⟨rfl,hi,p⟩
 by_cases et:i < n
 ·refine .inr ⟨et,fun x H2 y=>?_⟩
  obtain ⟨e,y⟩:=y
  subst e y
  exact hs i σ' _ (fun σ3 H3=>∃ m',m' < n - i∧m'=n - (i+1)∧i+1≤n∧Pv (i+1) σ3 H3) (fun σ3 H3 z=>⟨n - (i+1),by omega,rfl,et,z⟩) et p
 ·have e:i=n:=by omega
  subst e
  exact .inl ⟨Nat.le_refl _,hd σ' H' p⟩
end
theorem oU {ns:List Int} {i:Nat} {y:V} (h:(ns.map V.int)[i]?=some y):∃ z,ns[i]?=some z∧y=V.int z:=by
 rw [List.getElem?_map] at h
 cases e:ns[i]? with
 | none=>rw [e] at h;cases h
 | some z=>rw [e] at h;exact ⟨z,rfl,(Option.some.inj h).symm⟩
theorem take_succ {α:Type} {l:List α} {i:Nat} {x:α} (h:l[i]?=some x):l.take (i+1)=l.take i ++ [x]:=by
 rw [List.take_succ,h];rfl
end L2
namespace L2
open PySem
end L2
namespace L2
open PySem
theorem dX {i:Nat} {x:V} {σ:St} {H:Hp} {A B:St→Hp→Prop} (h:A (σ.set i (some x)) H):iC i x σ H fun σ3 H3=>Ol σ3 H3 fun b H4=>if b=true then A σ3 H4 else B σ3 H4:=by
 show if true=true then A (σ.set i (some x)) H else B (σ.set i (some x)) H
 exact gw h
end L2
namespace L2
open PySem PySem.Spec PyProof.Rows
section
variable {X:Cx} {pins:List (Addr × Obj)} {σ:St} {H:Hp} {s:Shared} {h':Heap}
theorem Inv.Ey {ch:List Addr} {t':Nat} (I:Inv X pins σ H s) (k:∀ b o,b ∉ ch→s.heap.get? b=some o→h'.get? b=some o) (hf:∀ b ∈ ch,rm X pins H b):Inv X pins σ H { s with heap:=h',toks:=t' }:=by
 have Ro:∀ b u,H b=some u→b ∉ ch:=fun b u e z=>by rw [(hf b z).1] at e;cases e
 refine I.Ho (s':={ s with heap:=h',toks:=t' }) (ch:=ch) rfl ⟨fun b o e _ _ hx=>k b o hx e,fun b o e _ _ hx=>⟨o.slots,k b o hx e⟩,fun _ _ _ n _=>n,fun b o e hx=>⟨o,k b o hx e⟩,fun _ _ e=>e,fun _ _ _ e=>e,fun b ps e=>⟨#[],by rw [e];simp⟩⟩ ?_ I.bare fun b hb=>?_
 ·intro b o e
  refine (I.cn b o e).AX (fun c u hc q=>k c u ?_ q) (fun _ q=>q) fun _ _ q=>q
  rcases hc with z | z
  ·rw [z];exact Ro b o e
  ·exact Ro c _ z
 ·obtain ⟨_,q1,_,q3,q4,q5⟩:=hf b hb
  exact ⟨q3,q1,q4,q5⟩
theorem Inv.yR {ch:List Addr} {T:Addr} {o:HO} {t':Nat} (I:Inv X pins σ H s) (k:∀ b o,b ∉ ch→s.heap.get? b=some o→h'.get? b=some o) (hf:∀ b ∈ ch,rm X pins H b) (hT:s.heap.objs.size≤T)
  (new:ff X.prog X.w (upd H T o) h' T o):Inv X pins σ (upd H T o) { s with heap:=h',toks:=t' }:=by
 have Ro:∀ b u,H b=some u→b ∉ ch:=fun b u e z=>by rw [(hf b z).1] at e;cases e
 have hn:=I.cn.fresh hT
 have old:∀ b u,s.heap.get? b=some u→b≠T:=fun b u e=>Nat.ne_of_lt (Nat.lt_of_lt_of_le (Heap.lt_size e) hT)
 refine I.Ho (s':={ s with heap:=h',toks:=t' }) (ch:=ch) rfl ⟨fun b o e _ _ hx=>k b o hx e,fun b o e _ _ hx=>⟨o.slots,k b o hx e⟩,fun b u e n _=>by rw [aE (old b u e)];exact n,fun b o e hx=>⟨o,k b o hx e⟩,
  fun b xs e=>by rw [aE (aM e hn)];exact e,fun b o u e=>by rw [aE (aM e hn)];exact e,fun b ps e=>⟨#[],by rw [aE (aM e hn),e];simp⟩⟩ ?_ I.bare fun b hb=>?_
 ·intro b u e
  by_cases hb:b=T
  ·subst hb
   rw [aB] at e
   cases e
   exact new
  ·rw [aE hb] at e
   refine (I.cn b u e).AX (fun c v hc q=>k c v ?_ q) (fun c q=>by rw [aE (aM q hn)];exact q) fun c xs q=>by rw [aE (aM q hn)];exact q
   rcases hc with z | z
   ·rw [z];exact Ro b u e
   ·exact Ro c _ z
 ·obtain ⟨_,q1,_,q3,q4,q5⟩:=hf b hb
  exact ⟨q3,q1,q4,q5⟩
end
def Ox (K:PySem.W.Frag) (a b:Addr):It :=
 ⟨fun i H=>∃ xs ys x y,aY K H a xs∧aY K H b ys∧xs[i]?=some x∧ys[i]?=some y,
  fun i H v H'=>∃ p x y,H p=none∧v=.ref p∧H'=upd H p (.tup [x,y])∧(∀ xs,aY K H a xs→xs[i]?=some x)∧∀ ys,aY K H b ys→ys[i]?=some y,
  fun i H=>∃ xs ys,aY K H a xs∧aY K H b ys∧(xs.length≤i∨ys.length≤i)⟩
theorem Ia {P:Program} {w:World} {K:PySem.W.Frag} {elts:List Expr} {x1:Nat} {pos:Pos} {z TI TO i1 i2 l1 l2:Addr} (D:ZipApart z TI TO i1 i2 l1 l2) :
  Turn P w K (.Tuple elts x1 pos) (Ox K l1 l2) [z,TI,TO,i1,i2] z (fun i h=>IsZip h z TI TO .none∧IsPair h TI (.ref i1) (.ref i2)∧(∃ a b,IsPair h TO a b)∧h.IsListIter i1 l1 i∧h.IsListIter i2 l2 i) where
 mem:=by simp
 obj:=fun i h st b hb=>by
  obtain ⟨hz,pM,⟨a,b',rW⟩,⟨o1,e1,c1,d1⟩,⟨o2,e2,c2,d2⟩⟩:=st
  simp only [List.mem_cons,List.not_mem_nil,or_false] at hb
  rcases hb with rfl | rfl | rfl | rfl | rfl
  ·exact ⟨_,hz,fun v q=>by cases q⟩
  ·exact ⟨_,pM,fun v q=>by cases q⟩
  ·exact ⟨_,rW,fun v q=>by cases q⟩
  ·exact ⟨_,e1,fun v q=>by rw [d1] at q;cases q⟩
  ·exact ⟨_,e2,fun v q=>by rw [d2] at q;cases q⟩
 keep:=fun i h h' st k=>by
  obtain ⟨hz,pM,⟨a,b',rW⟩,h1,h2⟩:=st
  exact ⟨k z (by simp) _ hz,k TI (by simp) _ pM,⟨a,b',k TO (by simp) _ rW⟩,h1.at fun o e=>k i1 (by simp) o e,h2.at fun o e=>k i2 (by simp) o e⟩
 item:=by
  intro X hP hw hK hc i pins s σ H E I hf st hg
  subst hP hw hK
  obtain ⟨hz,pM,⟨a,b,rW⟩,h1,h2⟩:=st
  obtain ⟨xs,ys,x,y,hx,hy,ex,ey⟩:=hg
  obtain ⟨ae,rv,p,Vw⟩:=I.list hx
  obtain ⟨fe,Rp,p2,X3⟩:=I.list hy
  obtain ⟨u,hu,ru⟩:=rv.get ex
  obtain ⟨u2,Vx,Vy⟩:=Rp.get ey
  refine wpAny_pyNext_zip_item D hz pM rW h1 h2 p.isList p2.isList (x:=u) (y:=u2) (by simpa using hu) (by simpa using Vx) fun h' a1 a2 a3 a4 a5 a6 kk=>⟨_,rfl,?_⟩
  refine wpAny_letOwnedTupleGo_zip a1 fun Oy Vz GG=>?_
  have lt:∀ {c o},s.heap.get? c=some o→s.heap.objs.size≠c:=fun e=>Nat.ne_of_gt (Heap.lt_size e)
  have k2:∀ c o,c ∉ [z,TI,TO,i1,i2]→s.heap.get? c=some o→Oy.get? c=some o:=fun c o hc e=>by
   simp only [List.mem_cons,List.not_mem_nil,or_false,not_or] at hc
   exact GG.extBut _ _ hc.1 (kk c o hc.1 hc.2.2.1 hc.2.2.2.1 hc.2.2.2.2 e)
  have tup:ff X.prog X.w (upd H s.heap.objs.size (.tup [x,y])) Oy s.heap.objs.size (.tup [x,y]) :=
   ⟨by show 2≤sizeLine;decide,[u,u2],.cons ru (.cons Vy .nil),⟨_,GG.extBut _ _ (lt hz) a5,rfl,_,rfl⟩⟩
  have hn:=I.cn.fresh (Nat.le_refl s.heap.objs.size)
  refine ⟨.ref s.heap.objs.size,_,I.yR (t':=s.toks) k2 hf (Nat.le_refl _) tup,rfl,⟨_,x,y,hn,rfl,rfl,fun zs hq=>by rw [I.qW hq hx];exact ex,fun zs hq=>by rw [I.qW hq hy];exact ey⟩,
   ⟨Vz,GG.extBut _ _ D.TIz (kk _ _ D.TIz D.TITO D.TIi1 D.TIi2 pM),⟨_,_,GG.extBut _ _ D.TOz a2⟩,a3.extBut GG.extBut D.i1z,a4.extBut GG.extBut D.i2z⟩,fun c hc=>?_⟩
  have Qe:c≠s.heap.objs.size:=by
   simp only [List.mem_cons,List.not_mem_nil,or_false] at hc
   obtain ⟨o1,e1,_⟩:=h1
   obtain ⟨o2,e2,_⟩:=h2
   rcases hc with rfl | rfl | rfl | rfl | rfl
   ·exact (lt hz).symm
   ·exact (lt pM).symm
   ·exact (lt rW).symm
   ·exact (lt e1).symm
   ·exact (lt e2).symm
  rw [aE Qe]
  exact (hf c hc).1
 done:=by
  intro X hP hw hK hc i pins s σ H E I hf st hg
  subst hP hw hK
  obtain ⟨hz,pM,⟨a,b,rW⟩,h1,h2⟩:=st
  obtain ⟨xs,ys,hx,hy,he⟩:=hg
  obtain ⟨ae,rv,p,Vw⟩:=I.list hx
  obtain ⟨fe,Rp,p2,X3⟩:=I.list hy
  have l1':=rv.length
  have l2':=Rp.length
  refine wpAny_pyNext_zip_end (I.ok.hd hc) D hz pM rW h1 h2 p.isList p2.isList (by rcases he with h | h;exact .inl (by simp;omega);exact .inr (by simp;omega)) fun h' kk=>⟨rfl,?_⟩
  refine I.Ey (t':=s.toks) (ch:=[z,TI,TO,i1,i2]) (fun c o hc e=>?_) hf
  simp only [List.mem_cons,List.not_mem_nil,or_false,not_or] at hc
  exact kk c o hc.1 hc.2.2.1 hc.2.2.2.1 hc.2.2.2.2 e
 self:=fun _ _ _ _ _ st h=>wpAny_pyIter_zip st.1 h
section
variable {X:Cx}
def Rq (K:PySem.W.Frag) (ta:TA):TI:=fun σ H R=>ta σ H fun vs H1=>∃ a b,vs=[.ref a,.ref b]∧(∃ xs,aY K H1 a xs)∧(∃ ys,aY K H1 b ys)∧R (Ox K a b) H1
theorem Oz {e1 e2:Expr} {ta:TA} {p pos y6:Pos} {elts:List Expr} {x1:Nat} (hg:Gl X "zip") (hm:X.mg "zip"=none) (ha:PA X [e1,e2] ta) (hs:starEach [e1,e2] X.env=(false,eval e1 X.env) :: starEach [e2] X.env:=by rfl) (oQ:(backTo pos (starEach [e2] X.env)).any (·.1)=false:=by rfl) :
  PI X (.Tuple elts x1 y6) (.Call (.Name "zip" p) [e1,e2] [] pos) (Rq X.K ta):=by
 intro pins s σ H R I h
 refine wpAny_Call_Name_kw (kn I hg hm boot_zip ?_ (by decide) (by decide))
 refine PyProof.Rows.callWith_type1 (cM (ha pos pins s σ H _ I h) fun us s1 ⟨vs,H1,I1,r1,q1⟩=>?_) hs oQ
 obtain ⟨a,b,rfl,⟨xs,hx⟩,⟨ys,hy⟩,q⟩:=q1
 obtain ⟨u,v,rfl,ru,rv⟩:=r1.two
 cases ru
 cases rv
 obtain ⟨ae,Qf,p1,_⟩:=I1.list hx
 obtain ⟨fe,Qg,p2,_⟩:=I1.list hy
 refine call_zip_2 p1.isList p2.isList fun h' hz pM rW h1 h2 ox kk=>?_
 refine wpAny_pyIter_zip hz ?_
 have la:a < s1.heap.objs.size:=by obtain ⟨o,n,ho,_⟩:=p1;exact Heap.lt_size ho
 have lb:b < s1.heap.objs.size:=by obtain ⟨o,n,ho,_⟩:=p2;exact Heap.lt_size ho
 have I2:Inv X pins σ H1 { s1 with heap:=h' }:=I1.kept (t':=s1.toks) fun b o e=>kk b o e
 refine ⟨s1.heap.objs.size+4,[s1.heap.objs.size+4,s1.heap.objs.size+2,s1.heap.objs.size+3,s1.heap.objs.size,s1.heap.objs.size+1],_,_,H1,rfl,I2,Ia (zipApart_new la lb),⟨hz,pM,⟨_,_,rW⟩,h1,h2⟩,fun c hc=>?_,q⟩
 have hle:s1.heap.objs.size≤c:=by
  simp only [List.mem_cons,List.not_mem_nil,or_false] at hc
  rcases hc with rfl | rfl | rfl | rfl | rfl
  ·exact Nat.le_add_right _ _
  ·exact Nat.le_add_right _ _
  ·exact Nat.le_add_right _ _
  ·exact Nat.le_refl _
  ·exact Nat.le_add_right _ _
 have f:=I1.Ae (H':=H1) hle (I1.cn.fresh hle)
 exact f
theorem O0 {i j:Nat} {x y:Str} {px py pos:Pos} {k:Nat} (hc:X.calm=true) (hN:X.N.Nodup) (hi:X.N[i]?=some x) (hj:X.N[j]?=some y) (lx:Loc X.env.scope x) (ly:Loc X.env.scope y)
  (fx:X.fn x=true∨X.env.scope.names.lookup x=some .local:=by first | exact .inl rfl | exact .inr rfl) (fy:X.fn y=true∨X.env.scope.names.lookup y=some .local:=by first | exact .inl rfl | exact .inr rfl)
  (hs:(assignEach [.Name x px,.Name y py] X.env).map (·.2)=[assign (.Name x px) X.env,assign (.Name y py) X.env]:=by rfl) (Fs:(assignEach [.Name y py] X.env).map (·.2)=[assign (.Name y py) X.env]:=by rfl) (V0:(assignEach [] X.env).map (·.2)=[]:=by rfl)
  (hn:(assignEach [.Name x px,.Name y py] X.env).length=2:=by rfl) (CM:(assignEach [.Name x px,.Name y py] X.env).findIdx? (·.1)=none:=by rfl) :
  PG X (.Tuple [.Name x px,.Name y py] k pos) (Hv X.K 2 (qX (iC i) (qX (iC j) Hu))) :=
 Hw hc (qY (az hN hi lx fx) (qY (az hN hj ly fy) EO (by rw [Fs,V0])) (by rw [hs,Fs])) hn CM
end
end L2
namespace L2
open PySem PySem.Spec PyProof.Rows
section
variable {K:PySem.W.Frag} {g:TG} {tt:TT} {te:TE} {D:Addr} {σ:St} {H:Hp} {Q:VK}
theorem O1 {a b:Addr} {xs ys:List V} (hlen:xs.length=ys.length) (Pv:Nat→St→Hp→Prop) (h0:Pv 0 σ H) (hl:∀ i σ H,i≤xs.length→Pv i σ H→aY K H a xs∧aY K H b ys)
  (hs:∀ (i:Nat) (x y:V) (p:Addr) (σ:St) (H:Hp) (N:St→Hp→Prop),(∀ σ H,Pv (i+1) σ H→N σ H)→xs[i]?=some x→ys[i]?=some y→Pv i σ H→H p=none→g (.ref p) σ (upd H p (.tup [x,y])) fun σ3 H3=>tt σ3 H3 fun b H4 =>
   if b=true then te σ3 H4 fun v H5=>∃ ys,H5 D=some (.lst ys)∧ys.length < sizeLine∧N σ3 (upd H5 D (.lst (ys ++ [v]))) else N σ3 H4)
  (hd:∀ σ H,Pv xs.length σ H→Q (.ref D) H):tw (Ox K a b) g tt te D σ H Q:=by
 refine ⟨fun i m σ H=>m=xs.length - i∧i≤xs.length∧Pv i σ H,⟨xs.length,by simp,Nat.zero_le _,h0⟩,?_⟩
 rintro i m σ' H' ⟨rfl,hi,p⟩
 obtain ⟨q1,q2⟩:=hl i σ' H' hi p
 by_cases et:i < xs.length
 ·refine .inr ⟨⟨xs,ys,xs[i],ys[i],q1,q2,by simp [et],by simp [show i < ys.length by omega]⟩,fun v H2 z=>?_⟩
  obtain ⟨pt,x,y,hp,rfl,rfl,e1,e2⟩:=z
  exact hs i x y pt σ' H' (fun σ3 H3=>∃ m',m' < xs.length - i∧m'=xs.length - (i+1)∧i+1≤xs.length∧Pv (i+1) σ3 H3) (fun σ3 H3 z=>⟨xs.length - (i+1),by omega,rfl,et,z⟩) (e1 xs q1) (e2 ys q2) p hp
 ·have e:i=xs.length:=by omega
  subst e
  exact .inl ⟨⟨xs,ys,q1,q2,.inl (Nat.le_refl _)⟩,hd σ' H' p⟩
theorem vH {i j:Nat} {x y:V} {p:Addr} {A B:St→Hp→Prop} (h:A ((σ.set i (some x)).set j (some y)) (upd H p (.tup [x,y]))) :
  Hv K 2 (qX (iC i) (qX (iC j) Hu)) (.ref p) σ (upd H p (.tup [x,y])) fun σ3 H3=>Ol σ3 H3 fun b H4=>if b=true then A σ3 H4 else B σ3 H4 :=
 ⟨p,[x,y],rfl,cP.of aB,rfl,x,_,rfl,y,_,rfl,rfl,(by
  show if true=true then A ((σ.set i (some x)).set j (some y)) (upd H p (.tup [x,y])) else B ((σ.set i (some x)).set j (some y)) (upd H p (.tup [x,y]))
  exact gw h)⟩
end
section
variable {X:Cx}
end
end L2
namespace L2
open PySem PySem.Spec PyProof.Rows
def cB (n:Nat) (f:Nat→V):List V:=(List.range n).map f
abbrev tabI (n:Nat) (f:Nat→Int):List V:=cB n fun j=>V.int (f j)
abbrev bW (n:Nat) (f:Nat→Addr):List V:=cB n fun j=>V.ref (f j)
theorem aL (n:Nat) (f:Nat→V):(cB n f).length=n:=by simp [cB]
theorem ba {n i:Nat} {f:Nat→V} (h:i < n):(cB n f)[i]?=some (f i):=by simp [cB,h]
theorem tab_of {n i:Nat} {f:Nat→V} {x:V} (h:(cB n f)[i]?=some x):i < n∧x=f i:=by
 have hi:i < n:=by
  have:=(List.getElem?_eq_some_iff.mp h).1
  rwa [aL] at this
 rw [ba hi] at h
 exact ⟨hi,(Option.some.inj h).symm⟩
theorem vI (n:Nat) (f:Nat→V):cB (n+1) f=cB n f ++ [f n]:=by simp [cB,List.range_succ]
theorem bU {n:Nat} {f g:Nat→V} (h:∀ i,i < n→f i=g i):cB n f=cB n g:=by
 unfold cB
 apply List.map_congr_left
 intro i hi
 exact h i (List.mem_range.mp hi)
theorem qe {n i:Nat} {f:Nat→V} {v:V} (h:i < n):(cB n f).set i v=cB n fun j=>if j=i then v else f j:=by
 apply List.ext_getElem?
 intro j
 by_cases hj:j < n
 ·rw [ba hj]
  by_cases e:j=i
  ·subst e
   rw [List.getElem?_set_self (by rw [aL];exact hj)]
   simp
  ·rw [List.getElem?_set_ne (Ne.symm e),ba hj]
   simp [e]
 ·rw [List.getElem?_eq_none (by rw [List.length_set,aL];omega),List.getElem?_eq_none (by rw [aL];omega)]
theorem vJ {n:Nat} {i:Int} {f:Nat→V} (h0:0≤i) (h:i < n):Ei (cB n f).length i=some i.toNat:=by
 rw [aL]
 unfold Ei
 rw [if_pos h0,if_pos h]
theorem cv {n:Nat} {i:Int} {f:Nat→V} (h0:0≤i) (h:i < n):tu (cB n f) i=some (f i.toNat):=by
 unfold tu
 rw [vJ h0 h]
 exact ba (by omega)
theorem Ib {n:Nat} {f:Nat→V}:tu (cB (n+1) f) (-1)=some (f n):=by
 have h:Ei (cB (n+1) f).length (-1)=some n:=by
  rw [aL]
  unfold Ei
  rw [if_neg (by omega),if_pos (by omega)]
  congr 1
  omega
 unfold tu
 rw [h]
 exact ba (by omega)
theorem ua (n:Nat) (f:Nat→Int):((List.range n).map f).map V.int=tabI n f:=by unfold tabI cB;rw [List.map_map];rfl
def qf (K:PySem.W.Frag) (H:Hp) (l:Addr) (m n:Nat) (a:Nat→Nat→Int):Prop:=∃ as:Nat→Addr,aY K H l (bW m as)∧∀ i,i < m→aY K H (as i) (tabI n (a i))
theorem aI.aAm {K:PySem.W.Frag} {H H':Hp} {l:Addr} {m n:Nat} {a:Nat→Nat→Int} (s:aI H H') (g:qf K H l m n a):qf K H' l m n a:=let ⟨as,h1,h2⟩:=g;⟨as,s.seq h1,fun i hi=>s.seq (h2 i hi)⟩
theorem qf.congr {K:PySem.W.Frag} {H:Hp} {l:Addr} {m n:Nat} {a b:Nat→Nat→Int} (g:qf K H l m n a) (h:∀ i j,i < m→j < n→a i j=b i j):qf K H l m n b:=by
 obtain ⟨as,h1,h2⟩:=g
 refine ⟨as,h1,fun i hi=>?_⟩
 have e:tabI n (a i)=tabI n (b i):=bU fun j hj=>by rw [h i j hi hj]
 rw [← e]
 exact h2 i hi
end L2
namespace L2
open PySem PySem.Spec PyProof.Rows
section
variable {K:PySem.W.Frag} {g:TG} {tt:TT} {te:TE} {D:Addr} {σ:St} {H:Hp} {Q:VK}
theorem sF {a:Addr} {n:Nat} {F:Nat→V} (Pv:Nat→St→Hp→Prop) (h0:Pv 0 σ H) (hl:∀ i σ H,i≤n→Pv i σ H→aY K H a (cB n F))
  (hs:∀ (i:Nat) (σ:St) (H:Hp) (N:St→Hp→Prop),(∀ σ H,Pv (i+1) σ H→N σ H)→i < n→Pv i σ H→g (F i) σ H fun σ3 H3=>tt σ3 H3 fun b H4 =>
   if b=true then te σ3 H4 fun v H5=>∃ ys,H5 D=some (.lst ys)∧ys.length < sizeLine∧N σ3 (upd H5 D (.lst (ys ++ [v]))) else N σ3 H4)
  (hd:∀ σ H,Pv n σ H→Q (.ref D) H):tw (OK K a) g tt te D σ H Q:=by
 refine uZ (xs:=cB n F) Pv h0 (fun i σ H hi=>hl i σ H (by rwa [aL] at hi)) (fun i x σ H N hN hx hp=>?_) (fun σ H h=>hd σ H (by rwa [aL] at h))
 obtain ⟨hi,rfl⟩:=tab_of hx
 exact hs i σ H N hN hi hp
theorem Ez {a b:Addr} {n:Nat} {F G:Nat→V} (Pv:Nat→St→Hp→Prop) (h0:Pv 0 σ H) (hl:∀ i σ H,i≤n→Pv i σ H→aY K H a (cB n F)∧aY K H b (cB n G))
  (hs:∀ (i:Nat) (p:Addr) (σ:St) (H:Hp) (N:St→Hp→Prop),(∀ σ H,Pv (i+1) σ H→N σ H)→i < n→Pv i σ H→H p=none→g (.ref p) σ (upd H p (.tup [F i,G i])) fun σ3 H3=>tt σ3 H3 fun b H4 =>
   if b=true then te σ3 H4 fun v H5=>∃ ys,H5 D=some (.lst ys)∧ys.length < sizeLine∧N σ3 (upd H5 D (.lst (ys ++ [v]))) else N σ3 H4)
  (hd:∀ σ H,Pv n σ H→Q (.ref D) H):tw (Ox K a b) g tt te D σ H Q:=by
 refine O1 (xs:=cB n F) (ys:=cB n G) (by rw [aL,aL]) Pv h0 (fun i σ H hi=>hl i σ H (by rwa [aL] at hi)) (fun i x y p σ H N hN hx hy hp hn=>?_) (fun σ H h=>hd σ H (by rwa [aL] at h))
 obtain ⟨hi,rfl⟩:=tab_of hx
 obtain ⟨_,rfl⟩:=tab_of hy
 exact hs i p σ H N hN hi hp hn
theorem jR {H:Hp} {D:Addr} {i:Nat} {F:Nat→V} {v:V} (h:v=F i):(upd H D (.lst (cB i F ++ [v]))) D=some (.lst (cB (i+1) F)):=by
 rw [aB,vI,h]
end
end L2
namespace L2
open PySem
theorem Av (i:Nat) (F:Nat→V) (x:V):cB i F ++ [x]=cB (i+1) fun k=>if k=i then x else F k:=by
 refine ((vI i _).trans ?_).symm
 rw [show cB i (fun k=>if k=i then x else F k)=cB i F from bU fun k hk=>by rw [if_neg (by omega)],if_pos rfl]
theorem dF (i:Nat) (ps:Nat→Addr) (p:Addr):bW i ps ++ [V.ref p]=bW (i+1) fun k=>if k=i then p else ps k:=by
 rw [Av]
 refine bU fun k hk=>?_
 by_cases e:k=i <;> simp [e]
end L2
namespace L2
open PySem
theorem aI.both {B H:Hp} {p:Addr} {o:HO} (s:aI B H) (h:H p=some o):aI (upd B p o) H:=fun b u e=>by
 by_cases z:b=p
 ·subst z
  rw [aB] at e
  cases e
  exact h
 ·rw [aE z] at e
  exact s b u e
theorem aI.grow {B:Hp} {p:Addr} {o:HO} (h:B p=none):aI B (upd B p o):=(aI.refl B).new h
end L2
namespace L2
end L2
namespace L2
open PySem PySem.Spec PyProof.Rows
def Rr (t:TS):TS:=fun D σ H=>∃ R:St→Hp→Prop,t { D with nx:=R } σ H∧∀ σ' H',R σ' H'→D.nx σ' H'
theorem Cf {X:Cx} {st:Stmt} {t:TS} (h:PS X st t):PS X st (Rr t):=by
 intro pins s σ H D I ⟨R,h1,h2⟩
 refine wpAny_mono (h pins s σ H { D with nx:=R } I h1) (fun f s' q=>?_) fun _ _ z=>z
 cases f with
 | next=>obtain ⟨σ',H',I',q⟩:=q;exact ⟨σ',H',I',h2 σ' H' q⟩
 | brk=>exact q
 | cont=>exact q
 | ret u=>exact q
end L2
namespace L2
open PySem PySem.Spec PyProof.Rows
section
variable {X:Cx} (K:PySem.W.Frag)
theorem aQ (hK:X.K=K:=by rfl):K9 X (OZ K):=by subst hK;exact LB
theorem gZ (hK:X.K=K:=by rfl):K9 X (RU K):=by subst hK;exact Oa
theorem kJ (hK:X.K=K:=by rfl):OY X (RW K):=by subst hK;exact LC
theorem bY (hK:X.K=K:=by rfl):iU X (.builtin "len") (fun xs H Q=>∃ p ys,xs=[.ref p]∧(aY K H p ys∨cP K H p ys)∧Q (.int ys.length) H):=by subst hK;exact y9
theorem fo (hK:X.K=K:=by rfl):iU X (.type "list") (fun xs H Q=>∃ p ys,xs=[.ref p]∧(aY K H p ys∨cP K H p ys)∧∀ l,H l=none→Q (.ref l) (upd H l (.lst ys))):=by subst hK;exact zF
theorem LJ (hu:X.A.units+16 < cLine) (hK:X.K=K:=by rfl):kr X (compareOp .NotEq) (Rm K true):=by subst hK;exact Ov hu
theorem lE (hK:X.K=K:=by rfl):kr X (binaryOp .Add) (NW K):=by subst hK;exact LH
theorem cC {tg l:Expr} {tl:TE} (hl:PE X l tl) (hK:X.K=K:=by rfl):PI X tg l (NQ K tl):=by subst hK;exact ES hl
theorem zJ {e1 e2:Expr} {ta:TA} {p pos y6:Pos} {elts:List Expr} {x1:Nat} (hg:Gl X "zip") (hm:X.mg "zip"=none) (ha:PA X [e1,e2] ta) (hK:X.K=K:=by rfl) (hs:starEach [e1,e2] X.env=(false,eval e1 X.env) :: starEach [e2] X.env:=by rfl) (oQ:(backTo pos (starEach [e2] X.env)).any (·.1)=false:=by rfl) :
  PI X (.Tuple elts x1 y6) (.Call (.Name "zip" p) [e1,e2] [] pos) (Rq K ta):=by subst hK;exact Oz hg hm ha hs oQ
theorem lF {i j:Nat} {x y:Str} {px py pos:Pos} {k:Nat} (hc:X.calm=true) (hN:X.N.Nodup) (hi:X.N[i]?=some x) (hj:X.N[j]?=some y) (lx:Loc X.env.scope x) (ly:Loc X.env.scope y) (hK:X.K=K:=by rfl)
  (fx:X.fn x=true∨X.env.scope.names.lookup x=some .local:=by first | exact .inl rfl | exact .inr rfl) (fy:X.fn y=true∨X.env.scope.names.lookup y=some .local:=by first | exact .inl rfl | exact .inr rfl)
  (hs:(assignEach [.Name x px,.Name y py] X.env).map (·.2)=[assign (.Name x px) X.env,assign (.Name y py) X.env]:=by rfl) (Fs:(assignEach [.Name y py] X.env).map (·.2)=[assign (.Name y py) X.env]:=by rfl) (V0:(assignEach [] X.env).map (·.2)=[]:=by rfl)
  (hn:(assignEach [.Name x px,.Name y py] X.env).length=2:=by rfl) (CM:(assignEach [.Name x px,.Name y py] X.env).findIdx? (·.1)=none:=by rfl) :
  PG X (.Tuple [.Name x px,.Name y py] k pos) (Hv K 2 (qX (iC i) (qX (iC j) Hu))):=by
 subst hK
 exact O0 hc hN hi hj lx ly fx fy hs Fs V0 hn CM
theorem jj {o e:Expr} {es:List Expr} {to:TE} {t:TA} {name:Str} {apos fG:Pos} {T id:String} {r:V→List V→Hp→VK→Prop} (pa:PlainAttrs T) (slot:Slot T name id) (VZ:typeOf (.builtin id)=pure (.type "method_descriptor")) (hm:Qb X id r) (ho:PE X o to) (ha:PA X (e :: es) t) (hK:X.K=K:=by rfl)
  (IJ:attributeBase o name X.env (eval o X.env)=eval o X.env:=by rfl)
  (Od:((backTo fG (starEach (e :: es) X.env)).all (fun x=>!x.1) && (backToKw fG (keywordEach [] X.env)).all (fun x=>x.1.isSome)
   && decide ((e :: es).length+([]:List Keyword).length+(if ([]:List Keyword).isEmpty then 0 else 1) < 30))=true:=by rfl)
  (IK:(apos.endLine == fG.line)=true:=by rfl) (hs:starEach (e :: es) X.env=(false,eval e X.env) :: starEach es X.env:=by rfl) (Ca:(backTo fG (starEach es X.env)).any (·.1)=false:=by rfl) :
  PE X (.Call (.Attribute o name apos) (e :: es) [] fG) (VY K T r to t):=by subst hK;exact NS pa slot VZ hm ho ha IJ Od IK hs Ca
end
end L2
namespace L2
open PySem PySem.Spec PyProof.Rows
section
variable {X:Cx}
def Rt (K:PySem.W.Frag) (neg:Bool):R2:=fun x y H Q=>∃ (a b:Addr) (ys zs:List Int),x=.ref a∧y=.ref b∧aY K H a (ys.map V.int)∧aY K H b (zs.map V.int)∧Q (.bl (if neg then !decide (ys=zs) else decide (ys=zs))) H
theorem Ic {pins:List (Addr × Obj)} {σ:St} {H:Hp} {s:Shared} (I:Inv X pins σ H s) {ys zs:List Int} {ae fe:List Value} (r1:aq (ys.map V.int) ae) (r2:aq (zs.map V.int) fe) {A:Around} (j:Nat) (h1:j < ae.toArray.size) (h2:j < fe.toArray.size) :
  SeqAt.EqAt A s ae.toArray[j] fe.toArray[j] (ys.getD j 0 == zs.getD j 0):=by
 obtain ⟨x,hx,rx⟩:=dI r1 j h1
 obtain ⟨y,hy,ry⟩:=dI r2 j h2
 obtain ⟨u,V1,rfl⟩:=oU hx
 obtain ⟨v,RL,rfl⟩:=oU hy
 have:=pI (A:=A) (s:=s) rx ry rfl rfl
 have e1:ys.getD j 0=u:=by simp [List.getD,V1]
 have e2:zs.getD j 0=v:=by simp [List.getD,RL]
 rw [e1,e2]
 exact this
theorem Aw {ys zs:List Int} (hl:ys.length=zs.length) {n:Nat} (hn:n=ys.length):(List.range n).all (fun j=>ys.getD j 0 == zs.getD j 0)=decide (ys=zs):=by
 subst hn
 by_cases h:ys=zs
 ·subst h
  simp
 ·rw [decide_eq_false h,Bool.eq_false_iff]
  intro Cb
  rw [List.all_eq_true] at Cb
  apply h
  apply List.ext_getElem hl
  intro i g1 g2
  have:=Cb i (List.mem_range.mpr g1)
  simpa [List.getD,g1,g2] using this
theorem O2 (hu:X.A.units+16 < cLine):kr X (compareOp .Eq) (Rt X.K false):=by
 intro pins s σ H x y v u Q I rx ry h
 obtain ⟨a,b,ys,zs,rfl,rfl,ha,hb,q⟩:=h
 cases rx
 cases ry
 obtain ⟨ae,r1,p1,_⟩:=I.list ha
 obtain ⟨fe,r2,p2,_⟩:=I.list hb
 have l1:=r1.length
 have l2:=r2.length
 rw [List.length_map] at l1 l2
 by_cases hl:ys.length=zs.length
 ·refine SeqAt.eq_listAt (e:=fun j=>ys.getD j 0 == zs.getD j 0) p1.isList p2.isList (by simp;omega) (by omega) (fun j h1 h2=>Ic I r1 r2 j h1 h2) ?_
  rw [Aw hl (by simp;omega)]
  exact ⟨.bl _,H,I,rfl,q⟩
 ·refine SeqAt.eq_list_lengthsAt p1.isList p2.isList (by simp;omega) (by omega) ?_
  have e:decide (ys=zs)=false:=decide_eq_false fun z=>hl (by rw [z])
  rw [e] at q
  exact ⟨.bl false,H,I,rfl,q⟩
theorem E7 (K:PySem.W.Frag) (hu:X.A.units+16 < cLine) (hK:X.K=K:=by rfl):kr X (compareOp .Eq) (Rt K false):=by subst hK;exact O2 hu
end
theorem turn_if {i:Nat} {x:V} {σ:St} {H:Hp} {tt:TT} {A B:St→Hp→Prop} (h:tt (σ.set i (some x)) H fun b H4=>if b=true then A (σ.set i (some x)) H4 else B (σ.set i (some x)) H4):iC i x σ H fun σ3 H3=>tt σ3 H3 fun b H4=>if b=true then A σ3 H4 else B σ3 H4:=h
theorem Ie (ns:List Int):ns.map V.int=tabI ns.length fun i=>ns.getD i 0:=by
 apply List.ext_getElem?
 intro j
 by_cases hj:j < ns.length
 ·rw [ba hj,List.getElem?_map]
  simp [hj,List.getD]
 ·rw [List.getElem?_eq_none (by rw [List.length_map];omega),List.getElem?_eq_none (by rw [aL];omega)]
theorem uc {n:Nat} {f:Nat→V} {lo hi:Nat} (h1:lo≤hi) (h2:hi≤n):iF (cB n f) (some (lo:Int)) (some (hi:Int))=cB (hi - lo) fun i=>f (lo+i):=by
 unfold iF
 rw [HT.oS,HT.oS,aL,Nat.min_eq_left h2,Nat.min_eq_left (by omega)]
 apply List.ext_getElem?
 intro j
 by_cases hj:j < hi - lo
 ·rw [ba hj,List.getElem?_take_of_lt hj,List.getElem?_drop,ba (by omega)]
 ·rw [List.getElem?_eq_none (by rw [List.length_take,List.length_drop,aL];omega),List.getElem?_eq_none (by rw [aL];omega)]
theorem vK {n:Nat} {f:Nat→V} {hi:Nat} (h2:hi≤n):iF (cB n f) none (some (hi:Int))=cB hi f:=by
 have:=uc (lo:=0) (f:=f) (Nat.zero_le hi) h2
 have e:iF (cB n f) none (some (hi:Int))=iF (cB n f) (some ((0:Nat):Int)) (some (hi:Int)):=by
  unfold iF
  rw [HT.oS _ _ hi,HT.Al,HT.oS _ _ 0,Nat.zero_min]
 rw [e,this]
 exact bU fun i _=>by rw [Nat.zero_add]
theorem Ci {n:Nat} {f:Nat→V} {lo:Nat} (h2:lo≤n):iF (cB n f) (some (lo:Int)) none=cB (n - lo) fun i=>f (lo+i):=by
 have:=uc (f:=f) h2 (Nat.le_refl n)
 have e:iF (cB n f) (some (lo:Int)) none=iF (cB n f) (some (lo:Int)) (some (n:Int)):=by
  unfold iF
  rw [HT.oS,HT.oS,HT.Al,aL,Nat.min_self]
 rw [e,this]
theorem LK {n m:Nat} {f g:Nat→V}:cB n f ++ cB m g=cB (n+m) fun i=>if i < n then f i else g (i - n):=by
 apply List.ext_getElem?
 intro j
 by_cases hj:j < n+m
 ·rw [ba hj]
  by_cases h:j < n
  ·rw [List.getElem?_append_left (by rw [aL];exact h),ba h,if_pos h]
  ·rw [List.getElem?_append_right (by rw [aL];omega),aL,ba (by omega),if_neg h]
 ·rw [List.getElem?_eq_none (by rw [List.length_append,aL,aL];omega),List.getElem?_eq_none (by rw [aL];omega)]
theorem GH (n:Nat) (f:Nat→Int) (i:Nat) (h:i < n):((List.range n).map f).getD i 0=f i:=by simp [h]
end L2
namespace L2
open PySem PySem.Spec PyProof.Rows
def Ru (K:PySem.W.Frag) (a:Addr) (xs:List V):It:=⟨fun i H=>aY K H a xs∧i < xs.length,fun i H x H'=>H'=H∧xs.reverse[i]?=some x,fun i _=>xs.length≤i⟩
theorem Ig {P:Program} {w:World} {K:PySem.W.Frag} {tg:Expr} (a it:Addr) (xs:List V) :
  Turn P w K tg (Ru K a xs) [it] it (fun i h=>i≤xs.length∧h.IsRevIter it a ((xs.length:Int) - 1 - (i:Int))) where
 mem:=by simp
 obj:=fun i h st b hb=>by
  have e:b=it:=by simpa using hb
  subst e
  obtain ⟨_,o,e,c,d⟩:=st
  exact ⟨o,e,fun v z=>by rw [d] at z;cases z⟩
 keep:=fun i h h' st k=>⟨st.1,st.2.at fun o e=>k it (by simp) o e⟩
 item:=by
  intro X hP hw hK hc i pins s σ H E I hf ⟨V2,st⟩ ⟨hq,hi⟩
  subst hP hw hK
  obtain ⟨ae,rv,p,hz⟩:=I.list hq
  have hl:=rv.length
  have hx:xs.reverse[i]?=some xs[xs.length - 1 - i]:=by rw [List.getElem?_reverse hi];simp
  have O3:xs[xs.length - 1 - i]?=some xs[xs.length - 1 - i]:=by simp
  obtain ⟨u,hu,ru⟩:=rv.get O3
  obtain ⟨f0,f1,f2,f3,f4,f5⟩:=hf it (by simp)
  have e0:(xs.length:Int) - 1 - (i:Int)=((xs.length - 1 - i:Nat):Int):=by omega
  rw [e0] at st
  refine wpAny_pyNext_rev_item st p.isList (x:=u) (by simpa using hu) fun h' uJ sb=>?_
  have I1:Inv X pins σ H { s with heap:=h' }:=I.turned (t':=s.toks) (fun b o hb e=>(sb.2 b hb).trans e) f0 f1 f3 f4 f5
  have e1:((xs.length - 1 - i:Nat):Int) - 1=(xs.length:Int) - 1 - ((i+1:Nat):Int):=by omega
  rw [e1] at uJ
  obtain ⟨o,e,c,d⟩:=id uJ
  exact ⟨u,rfl,ER (s:={ s with heap:=h' }) e c d (by decide) ⟨_,H,I1,ru,⟨rfl,hx⟩,⟨hi,uJ⟩,fun b hb=>(hf b hb).1⟩⟩
 done:=by
  intro X hP hw hK hc i pins s σ H E I hf ⟨V2,st⟩ hg
  subst hP hw hK
  have hg':xs.length≤i:=hg
  obtain ⟨f0,f1,f2,f3,f4,f5⟩:=hf it (by simp)
  have e0:(xs.length:Int) - 1 - (i:Int)=-1:=by omega
  rw [e0] at st
  exact wpAny_pyNext_rev_end (I.ok.hd hc) st fun h' eb=>⟨rfl,I.turned (t':=s.toks) (fun b o hb e=>eb b o hb e) f0 f1 f3 f4 f5⟩
 self:=fun _ _ _ _ _ st h=>wpAny_pyIter_revIter st.2 h
section
variable {X:Cx} {tg:Expr}
def V3 (K:PySem.W.Frag) (ta:TA):TI:=fun σ H R=>ta σ H fun vs H1=>∃ a xs,vs=[.ref a]∧aY K H1 a xs∧R (Ru K a xs) H1
theorem zK (K:PySem.W.Frag) {e:Expr} {ta:TA} {p pos:Pos} (hg:Gl X "reversed") (hm:X.mg "reversed"=none) (ha:PA X [e] ta) (hK:X.K=K:=by rfl) (hs:starEach [e] X.env=[(false,eval e X.env)]:=by rfl) (oQ:(backTo pos (starEach [] X.env)).any (·.1)=false:=by rfl) :
  PI X tg (.Call (.Name "reversed" p) [e] [] pos) (V3 K ta):=by
 subst hK
 intro pins s σ H R I h
 refine wpAny_Call_Name_kw (kn I hg hm boot_reversed ?_ (by decide) (by decide))
 refine PyProof.Rows.callWith_type1 (cM (ha pos pins s σ H _ I h) fun us s1 ⟨vs,H1,I1,r1,q1⟩=>?_) hs oQ
 obtain ⟨a,xs,rfl,hx,q⟩:=q1
 obtain ⟨u,rfl,ru⟩:=r1.one
 cases ru
 obtain ⟨ae,rv,p1,_⟩:=I1.list hx
 have hl:=rv.length
 refine call_reversed_list p1.isList ?_
 have hit:(s1.heap.push (revObj a ((ae.toArray.size:Int) - 1))).IsRevIter s1.heap.objs.size a ((ae.toArray.size:Int) - 1):=⟨_,Heap.get?_push_size _ rfl,rfl,by unfold revObj;simp⟩
 refine wpAny_pyIter_revIter hit ?_
 have e0:(ae.toArray.size:Int) - 1=(xs.length:Int) - 1 - ((0:Nat):Int):=by simp;omega
 rw [e0] at hit ⊢
 refine ⟨s1.heap.objs.size,[s1.heap.objs.size],_,_,H1,rfl,I1.kept (t':=s1.toks) fun b o e=>Heap.get?_push_of_some _ e,Ig a _ xs,⟨Nat.zero_le _,hit⟩,fun b hb=>?_,q⟩
 have e:b=s1.heap.objs.size:=by simpa using hb
 subst e
 exact I1.Ae (Nat.le_refl _) (I1.cn.fresh (Nat.le_refl _))
end
theorem LL {K:PySem.W.Frag} {a:Addr} {xs:List V} {g:TG} {tb:TS} {D:Ends} {σ:St} {H:Hp} (Pv:Nat→St→Hp→Prop) (h0:Pv 0 σ H) (hl:∀ i σ H,i≤xs.length→Pv i σ H→aY K H a xs)
  (hs:∀ i x σ H,xs.reverse[i]?=some x→Pv i σ H→g x σ H fun σ2 H2=>tb { D with nx:=Pv (i+1),ct:=Pv (i+1),bk:=D.nx } σ2 H2) (hd:∀ σ H,Pv xs.length σ H→D.nx σ H) :
  ∃ W:Nat→Nat→St→Hp→Prop,(∃ m,W 0 m σ H)∧∀ i m σ H,W i m σ H →
   ((Ru K a xs).stop i H∧D.nx σ H)∨((Ru K a xs).go i H∧∃ N:St→Hp→Prop,(∀ σ' H',N σ' H'→∃ m',m' < m∧W (i+1) m' σ' H')∧∀ x H',(Ru K a xs).K0 i H x H'→g x σ H' fun σ2 H2=>tb { D with nx:=N,ct:=N,bk:=D.nx } σ2 H2):=by
 refine ⟨fun i m σ H=>m=xs.length - i∧i≤xs.length∧Pv i σ H,⟨xs.length,by simp,Nat.zero_le _,h0⟩,?_⟩
 rintro i m σ H ⟨rfl,hi,p⟩
 have q:=hl i σ H hi p
 by_cases et:i < xs.length
 ·refine .inr ⟨⟨q,et⟩,Pv (i+1),fun σ' H' p'=>⟨xs.length - (i+1),by omega,rfl,et,p'⟩,fun x H' y=>?_⟩
  obtain ⟨e,y⟩:=y
  subst e
  exact hs i x σ _ y p
 ·have e:i=xs.length:=by omega
  subst e
  exact .inl ⟨Nat.le_refl _,hd σ H p⟩
section
variable {X:Cx}
end
end L2
namespace L2
open PySem PySem.Spec PyProof.Rows
section
variable {prog:Program} {w:World} {A:Around} {E:Value→Shared→Prop} {s:Shared}
theorem Cj {it t:Addr} {i:Nat} {items:Array Value} {x:Value} {Q:Value→Shared→Prop} (hit:s.heap.IsTupleIter it t i) (ht:s.heap.IsTuple t items) (hx:items[i]?=some x)
  (hQ:∀ h',h'.IsTupleIter it t (i+1)→Heap.SameBut it s.heap h'→Q x { s with heap:=h' }):wpAny (model prog w) A (Builtin.SmallTypes.nextOf (.ref it)) Q E s:=by
 obtain ⟨o,ho,hc,hd⟩:=id hit
 obtain ⟨u,hu,_,m,du⟩:=ht
 unfold Builtin.SmallTypes.nextOf
 refine wpAny_bind (wpAny_callSpecial?_slot (name:=Str.ofString "__next__") hit.typeIs F.slot_tuple_iterator_next (wpAny_call_entry F.slot_tuple_iterator_next hit.typeIs F.entry_tuple_iterator_next ?_ (F.args_tuple_iterator_next_1 _)))
 refine (show wpAny _ _ (field (.ref it) 0 >>= _) _ _ s from wpAny_bind (wpAny_field ho hd (x:=.ref t) rfl ?_))
 refine (show wpAny _ _ (if (Value.ref t == Value.none)=true then _ else _) _ _ s from ?_)
 rw [if_neg (by exact Bool.false_ne_true)]
 refine (show wpAny _ _ (field (.ref it) 1 >>= _) _ _ s from wpAny_bind (wpAny_field ho hd (x:=.int i 0) rfl ?_))
 refine (show wpAny _ _ (seqItems? (.ref t) >>= _) _ _ s from wpAny_bind (wpAny_seqItems hu du ?_))
 simp only [hx,Int.toNat_natCast]
 refine wpAny_bind (wpAny_setField ho hd (by simp) (wpAny_pure ⟨x,rfl,wpAny_pure (hQ _ ⟨_,Heap.get?_update_self _ ho (Obj.isFreed_of_fields (Obj.data_mapFields hd _)),(Obj.cls_mapFields ..).trans hc,?_⟩ (Heap.SameBut.update ..))⟩))
 rw [Obj.data_mapFields hd]
 simp [rawInt]
theorem GI {z TI TO i1 i2 l t:Addr} {k:Nat} {xs ys:Array Value} {x y a b:Value} {Q:Value→Shared→Prop} (D:ZipApart z TI TO i1 i2 l t) (hz:IsZip s.heap z TI TO .none) (pM:IsPair s.heap TI (.ref i1) (.ref i2)) (rW:IsPair s.heap TO a b)
  (h1:s.heap.IsListIter i1 l k) (h2:s.heap.IsTupleIter i2 t k) (hl:s.heap.IsList l xs) (ht:s.heap.IsTuple t ys) (hx:xs[k]?=some x) (hy:ys[k]?=some y)
  (hQ:∀ h',IsZip h' z TI TO (rawInt s.heap.objs.size)→IsPair h' TO x y→h'.IsListIter i1 l (k+1)→h'.IsTupleIter i2 t (k+1)→IsPair h' s.heap.objs.size x y→h'.objs.size=s.heap.objs.size+1 →
   (∀ c o,c≠z→c≠TO→c≠i1→c≠i2→s.heap.get? c=some o→h'.get? c=some o)→Q (.ref s.heap.objs.size) { s with heap:=h' }) :
  wpAny (model prog w) A (Builtin.«zip.__next__» ⟨[.ref z],[]⟩) (fun fin s'=>∃ v,fin=.done (.ret v)∧Q v s') E s:=by
 refine (show wpAny _ _ (field (.ref z) 2 >>= _) _ _ _ from wpAny_bind (wpAny_field hz rfl (x:=.bool false) rfl ?_))
 refine (show wpAny _ _ (field (.ref z) 3 >>= _) _ _ _ from wpAny_bind (wpAny_field hz rfl (x:=.ref TI) rfl (wpAny_bind (wpAny_seqItems pM rfl ?_))))
 refine (show wpAny _ _ (Builtin.SmallTypes.ownedTupleIsFree (.ref z) >>= _) _ _ _ from wpAny_bind ?_)
 unfold Builtin.SmallTypes.ownedTupleIsFree
 refine wpAny_bind (wpAny_field hz rfl (x:=.none) rfl (wpAny_pure ?_))
 rw [if_pos (by rfl)]
 refine wpAny_bind (wpAny_rule (wpAny_bind (wpAny_field hz rfl (x:=.ref TO) rfl (wpAny_bind (wpAny_setField_rec hz (by simp) fun ha V4 GB=>wpAny_bind ?_)))))
 have O4:IsZip ha z TI TO .ellipsis:=V4
 simp only [List.forIn_cons,List.forIn_nil,List.zipIdx_cons,List.zipIdx_nil]
 refine wpAny_bind (wpAny_bind (wpAny_onRaise (show wpAny _ _ (Builtin.SmallTypes.nextOf (.ref i1) >>= _) _ _ _ from wpAny_bind (wpAny_nextOf_list_item (h1.extBut GB.extBut D.i1z) (hl.extBut GB.extBut D.l1z) hx fun hb h1b GA=>wpAny_pure ?_))))
 have to2:IsPair hb TO a b:=GA.extBut _ _ D.TOi1 (GB.extBut _ _ D.TOz rW)
 refine wpAny_bind (wpAny_seqItems to2 rfl (wpAny_bind (wpAny_updateSeq_pair to2 fun hc to3 Ex=>wpAny_bind (wpAny_letGo (wpAny_pure ?_)))))
 have V5:IsPair hc TO x b:=to3
 refine wpAny_bind (wpAny_bind (wpAny_onRaise (show wpAny _ _ (Builtin.SmallTypes.nextOf (.ref i2) >>= _) _ _ _ from wpAny_bind
  (Cj (((h2.extBut GB.extBut D.i2z).extBut GA.extBut D.i12.symm).extBut Ex.extBut D.TOi2.symm) (((ht.extBut GB.extBut D.l2z).extBut GA.extBut D.l2i1).extBut Ex.extBut D.l2TO) hy fun hd h2d gm=>wpAny_pure ?_))))
 have X4:IsPair hd TO x b:=gm.extBut _ _ D.TOi2 V5
 refine wpAny_bind (wpAny_seqItems X4 rfl (wpAny_bind (wpAny_updateSeq_pair X4 fun he to5 Rv=>wpAny_bind (wpAny_letGo (wpAny_pure (wpAny_pure ?_))))))
 have Rx:IsPair he TO x y:=to5
 refine wpAny_bind (wpAny_seqItems Rx rfl (wpAny_bind (wpAny_newTuple ?_)))
 have NX:he.objs.size=s.heap.objs.size:=by rw [Rv.1,gm.1,Ex.1,GA.1,GB.1]
 have z5:IsZip he z TI TO .ellipsis:=Rv.extBut _ _ D.TOz.symm (gm.extBut _ _ D.i2z.symm (Ex.extBut _ _ D.TOz.symm (GA.extBut _ _ D.i1z.symm O4)))
 have Ry:∀ c o,c≠z→c≠TO→c≠i1→c≠i2→s.heap.get? c=some o→he.get? c=some o:=fun c o n1 n2 n3 n4 e=>Rv.extBut _ _ n2 (gm.extBut _ _ n4 (Ex.extBut _ _ n2 (GA.extBut _ _ n3 (GB.extBut _ _ n1 e))))
 have it1:he.IsListIter i1 l (k+1):=((h1b.extBut Ex.extBut D.TOi1.symm).extBut gm.extBut D.i12).extBut Rv.extBut D.TOi1.symm
 have it2:he.IsTupleIter i2 t (k+1):=h2d.extBut Rv.extBut D.TOi2.symm
 have X5:z < he.objs.size:=Heap.lt_size z5
 refine (show wpAny _ _ (Builtin.SmallTypes.ownedTupleHandOut (.ref z) (.ref he.objs.size) >>= _) _ _ _ from wpAny_bind ?_)
 unfold Builtin.SmallTypes.ownedTupleHandOut
 have z6:IsZip (he.push { cls:=.type "tuple",data:=.seq #[x,y] }) z TI TO .ellipsis:=Heap.get?_push_of_some _ z5
 refine wpAny_bind (wpAny_setField_rec z6 (by simp) fun hf zf V6=>?_)
 have zf':IsZip hf z TI TO (rawInt he.objs.size):=zf
 refine wpAny_setField_rec zf' (by simp) fun hg zg Qh=>?_
 have X6:IsZip hg z TI TO (rawInt he.objs.size):=zg
 have up:∀ c o,c≠z→he.get? c=some o→hg.get? c=some o:=fun c o n1 e=>Qh.extBut _ _ n1 (V6.extBut _ _ n1 (Heap.get?_push_of_some _ e))
 have NY:IsPair hg he.objs.size x y:=Qh.extBut _ _ (Nat.ne_of_gt X5) (V6.extBut _ _ (Nat.ne_of_gt X5) (Heap.get?_push_size _ rfl))
 have NZ:hg.objs.size=he.objs.size+1:=by rw [Qh.1,V6.1,Heap.size_push]
 rw [NX] at X6 NY NZ
 refine wpAny_pure ⟨_,rfl,(show Q (.ref he.objs.size) _ from ?_)⟩
 rw [NX]
 exact hQ hg X6 (up _ _ D.TOz Rx) (it1.at fun o e=>up _ o D.i1z e) (it2.at fun o e=>up _ o D.i2z e) NY NZ fun c o n1 n2 n3 n4 e=>up c o n1 (Ry c o n1 n2 n3 n4 e)
theorem Ih {z TI TO i1 i2 l t:Addr} {k:Nat} {xs:Array Value} {a b:Value} {Q:Fin→Shared→Prop} (hh:A.handled=none) (D:ZipApart z TI TO i1 i2 l t) (hz:IsZip s.heap z TI TO .none) (pM:IsPair s.heap TI (.ref i1) (.ref i2)) (rW:IsPair s.heap TO a b)
  (h1:s.heap.IsListIter i1 l k) (hl:s.heap.IsList l xs) (hx:xs[k]?=none)
  (hE:∀ h' e,(∀ c o,c≠z→c≠TO→c≠i1→c≠i2→s.heap.get? c=some o→h'.get? c=some o)→(∃ o,h'.get? e=some o∧o.cls=.type "StopIteration")→E (.ref e) { s with heap:=h' }) :
  wpAny (model prog w) A (Builtin.«zip.__next__» ⟨[.ref z],[]⟩) Q E s:=by
 refine (show wpAny _ _ (field (.ref z) 2 >>= _) _ _ _ from wpAny_bind (wpAny_field hz rfl (x:=.bool false) rfl ?_))
 refine (show wpAny _ _ (field (.ref z) 3 >>= _) _ _ _ from wpAny_bind (wpAny_field hz rfl (x:=.ref TI) rfl (wpAny_bind (wpAny_seqItems pM rfl ?_))))
 refine (show wpAny _ _ (Builtin.SmallTypes.ownedTupleIsFree (.ref z) >>= _) _ _ _ from wpAny_bind ?_)
 unfold Builtin.SmallTypes.ownedTupleIsFree
 refine wpAny_bind (wpAny_field hz rfl (x:=.none) rfl (wpAny_pure ?_))
 rw [if_pos (by rfl)]
 refine wpAny_bind (wpAny_rule (wpAny_bind (wpAny_field hz rfl (x:=.ref TO) rfl (wpAny_bind (wpAny_setField_rec hz (by simp) fun ha V4 GB=>wpAny_bind ?_)))))
 have O4:IsZip ha z TI TO .ellipsis:=V4
 simp only [List.forIn_cons,List.forIn_nil,List.zipIdx_cons,List.zipIdx_nil]
 refine wpAny_bind (wpAny_bind (wpAny_onRaise (show wpAny _ _ (Builtin.SmallTypes.nextOf (.ref i1) >>= _) _ _ _ from wpAny_bind (wpAny_nextOf_list_end hh (h1.extBut GB.extBut D.i1z) (hl.extBut GB.extBut D.l1z) hx fun hb e GA he=>?_))))
 obtain ⟨oe,V7,X7⟩:=he
 have z2:IsZip hb z TI TO .ellipsis:=GA _ _ D.i1z.symm O4
 have hez:e≠z:=fun q=>by subst q;rw [z2] at V7;cases V7;simp at X7
 exact wpAny_setField_rec z2 (by simp) fun hc _ Ex=>hE hc e (fun c o n1 _ n3 _ q=>Ex.extBut _ _ n1 (GA _ _ n3 (GB.extBut _ _ n1 q))) ⟨oe,Ex.extBut _ _ hez V7,X7⟩
theorem sG {z TI TO i1 i2 l t:Addr} {k:Nat} {xs ys:Array Value} {x y a b:Value} {Q:Option Value→Shared→Prop} (D:ZipApart z TI TO i1 i2 l t) (hz:IsZip s.heap z TI TO .none) (pM:IsPair s.heap TI (.ref i1) (.ref i2)) (rW:IsPair s.heap TO a b)
  (h1:s.heap.IsListIter i1 l k) (h2:s.heap.IsTupleIter i2 t k) (hl:s.heap.IsList l xs) (ht:s.heap.IsTuple t ys) (hx:xs[k]?=some x) (hy:ys[k]?=some y)
  (hQ:∀ h',IsZip h' z TI TO (rawInt s.heap.objs.size)→IsPair h' TO x y→h'.IsListIter i1 l (k+1)→h'.IsTupleIter i2 t (k+1)→IsPair h' s.heap.objs.size x y→h'.objs.size=s.heap.objs.size+1 →
   (∀ c o,c≠z→c≠TO→c≠i1→c≠i2→s.heap.get? c=some o→h'.get? c=some o)→Q (some (.ref s.heap.objs.size)) { s with heap:=h' }) :
  wpAny (model prog w) A (pyNext (.ref z)) Q E s:=by
 have hT:s.TypeIs (.ref z) "zip":=⟨_,hz,rfl⟩
 unfold pyNext
 exact wpAny_bind (wpAny_attempt (wpAny_callSpecial?_slot (name:=Str.ofString "__next__") hT F.slot_zip_next (wpAny_call_entry F.slot_zip_next hT F.entry_zip_next
  (GI D hz pM rW h1 h2 hl ht hx hy fun h' a1 a2 a3 a4 a5 a6 a7=>wpAny_pure (hQ h' a1 a2 a3 a4 a5 a6 a7)) (F.args_zip_next_1 _))))
theorem uM {z TI TO i1 i2 l t:Addr} {k:Nat} {xs:Array Value} {a b:Value} {Q:Option Value→Shared→Prop} (hh:A.handled=none) (D:ZipApart z TI TO i1 i2 l t) (hz:IsZip s.heap z TI TO .none) (pM:IsPair s.heap TI (.ref i1) (.ref i2)) (rW:IsPair s.heap TO a b)
  (h1:s.heap.IsListIter i1 l k) (hl:s.heap.IsList l xs) (hx:xs[k]?=none)
  (hQ:∀ h',(∀ c o,c≠z→c≠TO→c≠i1→c≠i2→s.heap.get? c=some o→h'.get? c=some o)→Q none { s with heap:=h' }):wpAny (model prog w) A (pyNext (.ref z)) Q E s:=by
 have hT:s.TypeIs (.ref z) "zip":=⟨_,hz,rfl⟩
 unfold pyNext
 refine wpAny_bind (wpAny_attempt (wpAny_callSpecial?_slot (name:=Str.ofString "__next__") hT F.slot_zip_next (wpAny_call_entry F.slot_zip_next hT F.entry_zip_next (Ih hh D hz pM rW h1 hl hx fun h' e hk he=>?_) (F.args_zip_next_1 _))))
 obtain ⟨o,ho,hc⟩:=he
 exact wpAny_bind (wpAny_isInstance (T:="StopIteration") (b:=true) ⟨o,ho,hc⟩ isSubtype_stop (wpAny_pure (hQ _ hk)))
end
abbrev zA (h:Heap) (l:Addr):Heap:=h.push { cls:=.type "list_iterator",data:=.fields #[.ref l,.int 0 0] }
abbrev zB (h:Heap) (l t:Addr):Heap:=(zA h l).push { cls:=.type "tuple_iterator",data:=.fields #[.ref t,.int 0 0] }
abbrev zC (h:Heap) (l t:Addr):Heap:=(zB h l t).push { cls:=.type "tuple",data:=.seq #[.ref h.objs.size,.ref (zA h l).objs.size] }
abbrev zD (h:Heap) (l t:Addr):Heap:=(zC h l t).push { cls:=.type "tuple",data:=.seq #[.none,.none] }
abbrev zE (h:Heap) (l t:Addr):Heap:=(zD h l t).push { cls:=.type "zip",data:=.fields #[.none,.bool false,.bool false,.ref (zB h l t).objs.size,.ref (zC h l t).objs.size] }
theorem Ck (l t:Addr) (xs ys:Array Value):Meets (Builtin.«zip.__new__» ⟨[.type "zip",.ref l,.ref t],[]⟩) (fun _ R s=>s.heap.IsList l xs∧s.heap.IsTuple t ys∧R (.ok (.ret (.ref (zD s.heap l t).objs.size))) { s with heap:=zE s.heap l t }) :=
 .of_wp fun prog w A R s h=>by
  obtain ⟨hp,g,d,tk,os⟩:=s
  obtain ⟨hl,ht,h⟩:=h
  have aAu:=sub_zip
  have e1:Heap.IsList (Shared.heap ⟨hp,g,d,tk,os⟩) l xs:=hl
  have e2:Heap.IsTuple (Shared.heap ⟨hp.push { cls:=.type "list_iterator",data:=.fields #[.ref l,.int 0 0] },g,d,tk,os⟩) t ys:=Heap.IsTuple.push ht _
  wp_walk using wpAny_pyIter_list e1,wpAny_pyIter_tuple e2
  exact ⟨_,rfl,h⟩
section
variable {prog:Program} {w:World} {A:Around} {E:Value→Shared→Prop} {s:Shared}
theorem GJ {l t:Addr} {xs ys:Array Value} {Q:Value→Shared→Prop} (hl:s.heap.IsList l xs) (ht:s.heap.IsTuple t ys)
  (h:∀ h',IsZip h' (s.heap.objs.size+4) (s.heap.objs.size+2) (s.heap.objs.size+3) .none→IsPair h' (s.heap.objs.size+2) (.ref s.heap.objs.size) (.ref (s.heap.objs.size+1))→IsPair h' (s.heap.objs.size+3) .none .none →
   h'.IsListIter s.heap.objs.size l 0→h'.IsTupleIter (s.heap.objs.size+1) t 0→(∀ c o,s.heap.get? c=some o→h'.get? c=some o)→Q (.ref (s.heap.objs.size+4)) { s with heap:=h' }) :
  wpAny (model prog w) A (call (.type "zip") [.ref l,.ref t]) Q E s:=by
 refine callType_new F.called_zip (by decide) (F.typeCall_zip_2 _ _) (F.newCall_zip_2 _ _) (fun obj=>F.args_object_init_3 obj _ _) F.entry_zip_new (Ck l t xs ys) ⟨hl,ht,?_⟩
 have s1:(zA s.heap l).objs.size=s.heap.objs.size+1:=Heap.size_push ..
 have s2:(zB s.heap l t).objs.size=s.heap.objs.size+2:=by rw [Heap.size_push,s1]
 have s3:(zC s.heap l t).objs.size=s.heap.objs.size+3:=by rw [Heap.size_push,s2]
 have s4:(zD s.heap l t).objs.size=s.heap.objs.size+4:=by rw [Heap.size_push,s3]
 have up:∀ {g:Heap} {o p:Obj} {c:Addr},g.get? c=some o→(g.push p).get? c=some o:=fun e=>Heap.get?_push_of_some _ e
 have g5:(zE s.heap l t).get? (zD s.heap l t).objs.size=some _:=Heap.get?_push_size _ rfl
 have g4:(zE s.heap l t).get? (zC s.heap l t).objs.size=some _:=up (Heap.get?_push_size _ rfl)
 have g3:(zE s.heap l t).get? (zB s.heap l t).objs.size=some _:=up (up (Heap.get?_push_size _ rfl))
 have g2:(zE s.heap l t).get? (zA s.heap l).objs.size=some _:=up (up (up (Heap.get?_push_size _ rfl)))
 have g1:(zE s.heap l t).get? s.heap.objs.size=some _:=up (up (up (up (Heap.get?_push_size _ rfl))))
 show _∧_
 rw [s2,s3,s4] at g5
 rw [s1,s2] at g3
 rw [s3] at g4
 rw [s1] at g2
 rw [s4]
 exact ⟨⟨_,g5,rfl⟩,h _ g5 g3 g4 ⟨_,g1,rfl,rfl⟩ ⟨_,g2,rfl,rfl⟩ fun c o q=>up (up (up (up (up q))))⟩
end
def O5 (K:PySem.W.Frag) (a b:Addr):It :=
 ⟨fun i H=>∃ xs ys x y,aY K H a xs∧cP K H b ys∧xs[i]?=some x∧ys[i]?=some y,
  fun i H v H'=>∃ p x y,H p=none∧v=.ref p∧H'=upd H p (.tup [x,y])∧(∀ xs,aY K H a xs→xs[i]?=some x)∧∀ ys,cP K H b ys→ys[i]?=some y,
  fun i H=>∃ xs,aY K H a xs∧xs.length≤i⟩
theorem GK {P:Program} {w:World} {K:PySem.W.Frag} {elts:List Expr} {x1:Nat} {pos:Pos} {z TI TO i1 i2 l1 l2:Addr} (D:ZipApart z TI TO i1 i2 l1 l2) :
  Turn P w K (.Tuple elts x1 pos) (O5 K l1 l2) [z,TI,TO,i1,i2] z (fun i h=>IsZip h z TI TO .none∧IsPair h TI (.ref i1) (.ref i2)∧(∃ a b,IsPair h TO a b)∧h.IsListIter i1 l1 i∧h.IsTupleIter i2 l2 i) where
 mem:=by simp
 obj:=fun i h st b hb=>by
  obtain ⟨hz,pM,⟨a,b',rW⟩,⟨o1,e1,c1,d1⟩,⟨o2,e2,c2,d2⟩⟩:=st
  simp only [List.mem_cons,List.not_mem_nil,or_false] at hb
  rcases hb with rfl | rfl | rfl | rfl | rfl
  ·exact ⟨_,hz,fun v q=>by cases q⟩
  ·exact ⟨_,pM,fun v q=>by cases q⟩
  ·exact ⟨_,rW,fun v q=>by cases q⟩
  ·exact ⟨_,e1,fun v q=>by rw [d1] at q;cases q⟩
  ·exact ⟨_,e2,fun v q=>by rw [d2] at q;cases q⟩
 keep:=fun i h h' st k=>by
  obtain ⟨hz,pM,⟨a,b',rW⟩,h1,h2⟩:=st
  exact ⟨k z (by simp) _ hz,k TI (by simp) _ pM,⟨a,b',k TO (by simp) _ rW⟩,h1.at fun o e=>k i1 (by simp) o e,h2.at fun o e=>k i2 (by simp) o e⟩
 item:=by
  intro X hP hw hK hc i pins s σ H E I hf st hg
  subst hP hw hK
  obtain ⟨hz,pM,⟨a,b,rW⟩,h1,h2⟩:=st
  obtain ⟨xs,ys,x,y,hx,hy,ex,ey⟩:=hg
  obtain ⟨ae,rv,p,Vw⟩:=I.list hx
  obtain ⟨fe,Rp,p2,X3⟩:=I.tuple hy
  obtain ⟨u,hu,ru⟩:=rv.get ex
  obtain ⟨u2,Vx,Vy⟩:=Rp.get ey
  refine sG D hz pM rW h1 h2 p.isList (show s.heap.IsTuple l2 fe.toArray from p2) (x:=u) (y:=u2) (by simpa using hu) (by simpa using Vx) fun h' a1 a2 a3 a4 a5 a6 kk=>⟨_,rfl,?_⟩
  refine wpAny_letOwnedTupleGo_zip a1 fun Oy Vz GG=>?_
  have lt:∀ {c o},s.heap.get? c=some o→s.heap.objs.size≠c:=fun e=>Nat.ne_of_gt (Heap.lt_size e)
  have k2:∀ c o,c ∉ [z,TI,TO,i1,i2]→s.heap.get? c=some o→Oy.get? c=some o:=fun c o hc e=>by
   simp only [List.mem_cons,List.not_mem_nil,or_false,not_or] at hc
   exact GG.extBut _ _ hc.1 (kk c o hc.1 hc.2.2.1 hc.2.2.2.1 hc.2.2.2.2 e)
  have tup:ff X.prog X.w (upd H s.heap.objs.size (.tup [x,y])) Oy s.heap.objs.size (.tup [x,y]) :=
   ⟨by show 2≤sizeLine;decide,[u,u2],.cons ru (.cons Vy .nil),⟨_,GG.extBut _ _ (lt hz) a5,rfl,_,rfl⟩⟩
  have hn:=I.cn.fresh (Nat.le_refl s.heap.objs.size)
  refine ⟨.ref s.heap.objs.size,_,I.yR (t':=s.toks) k2 hf (Nat.le_refl _) tup,rfl,⟨_,x,y,hn,rfl,rfl,fun zs hq=>by rw [I.qW hq hx];exact ex,fun zs hq=>by rw [I.yE hq hy];exact ey⟩,
   ⟨Vz,GG.extBut _ _ D.TIz (kk _ _ D.TIz D.TITO D.TIi1 D.TIi2 pM),⟨_,_,GG.extBut _ _ D.TOz a2⟩,a3.extBut GG.extBut D.i1z,a4.extBut GG.extBut D.i2z⟩,fun c hc=>?_⟩
  have Qe:c≠s.heap.objs.size:=by
   simp only [List.mem_cons,List.not_mem_nil,or_false] at hc
   obtain ⟨o1,e1,_⟩:=h1
   obtain ⟨o2,e2,_⟩:=h2
   rcases hc with rfl | rfl | rfl | rfl | rfl
   ·exact (lt hz).symm
   ·exact (lt pM).symm
   ·exact (lt rW).symm
   ·exact (lt e1).symm
   ·exact (lt e2).symm
  rw [aE Qe]
  exact (hf c hc).1
 done:=by
  intro X hP hw hK hc i pins s σ H E I hf st hg
  subst hP hw hK
  obtain ⟨hz,pM,⟨a,b,rW⟩,h1,h2⟩:=st
  obtain ⟨xs,hx,he⟩:=hg
  obtain ⟨ae,rv,p,Vw⟩:=I.list hx
  have l1':=rv.length
  refine uM (I.ok.hd hc) D hz pM rW h1 p.isList (by simp;omega) fun h' kk=>⟨rfl,?_⟩
  refine I.Ey (t':=s.toks) (ch:=[z,TI,TO,i1,i2]) (fun c o hc e=>?_) hf
  simp only [List.mem_cons,List.not_mem_nil,or_false,not_or] at hc
  exact kk c o hc.1 hc.2.2.1 hc.2.2.2.1 hc.2.2.2.2 e
 self:=fun _ _ _ _ _ st h=>wpAny_pyIter_zip st.1 h
section
variable {X:Cx}
def Rz (K:PySem.W.Frag) (ta:TA):TI:=fun σ H R=>ta σ H fun vs H1=>∃ a b,vs=[.ref a,.ref b]∧(∃ xs,aY K H1 a xs)∧(∃ ys,cP K H1 b ys)∧R (O5 K a b) H1
theorem Ii (K:PySem.W.Frag) {e1 e2:Expr} {ta:TA} {p pos y6:Pos} {elts:List Expr} {x1:Nat} (hg:Gl X "zip") (hm:X.mg "zip"=none) (ha:PA X [e1,e2] ta) (hK:X.K=K:=by rfl) (hs:starEach [e1,e2] X.env=(false,eval e1 X.env) :: starEach [e2] X.env:=by rfl) (oQ:(backTo pos (starEach [e2] X.env)).any (·.1)=false:=by rfl) :
  PI X (.Tuple elts x1 y6) (.Call (.Name "zip" p) [e1,e2] [] pos) (Rz K ta):=by
 subst hK
 intro pins s σ H R I h
 refine wpAny_Call_Name_kw (kn I hg hm boot_zip ?_ (by decide) (by decide))
 refine PyProof.Rows.callWith_type1 (cM (ha pos pins s σ H _ I h) fun us s1 ⟨vs,H1,I1,r1,q1⟩=>?_) hs oQ
 obtain ⟨a,b,rfl,⟨xs,hx⟩,⟨ys,hy⟩,q⟩:=q1
 obtain ⟨u,v,rfl,ru,rv⟩:=r1.two
 cases ru
 cases rv
 obtain ⟨ae,Qf,p1,_⟩:=I1.list hx
 obtain ⟨fe,Qg,p2,_⟩:=I1.tuple hy
 have X8:s1.heap.IsTuple b fe.toArray:=p2
 refine GJ p1.isList X8 fun h' hz pM rW h1 h2 kk=>?_
 refine wpAny_pyIter_zip hz ?_
 have la:a < s1.heap.objs.size:=by obtain ⟨o,n,ho,_⟩:=p1;exact Heap.lt_size ho
 have lb:b < s1.heap.objs.size:=by obtain ⟨o,ho,_⟩:=X8;exact Heap.lt_size ho
 have I2:Inv X pins σ H1 { s1 with heap:=h' }:=I1.kept (t':=s1.toks) fun b o e=>kk b o e
 refine ⟨s1.heap.objs.size+4,[s1.heap.objs.size+4,s1.heap.objs.size+2,s1.heap.objs.size+3,s1.heap.objs.size,s1.heap.objs.size+1],_,_,H1,rfl,I2,GK (zipApart_new la lb),⟨hz,pM,⟨_,_,rW⟩,h1,h2⟩,fun c hc=>?_,q⟩
 have hle:s1.heap.objs.size≤c:=by
  simp only [List.mem_cons,List.not_mem_nil,or_false] at hc
  rcases hc with rfl | rfl | rfl | rfl | rfl
  ·exact Nat.le_add_right _ _
  ·exact Nat.le_add_right _ _
  ·exact Nat.le_add_right _ _
  ·exact Nat.le_refl _
  ·exact Nat.le_add_right _ _
 exact I1.Ae (H':=H1) hle (I1.cn.fresh hle)
end
section
variable {K:PySem.W.Frag} {g:TG} {tt:TT} {te:TE} {D:Addr} {σ:St} {H:Hp} {Q:VK}
theorem LM {a b:Addr} {xs ys:List V} (hlen:xs.length=ys.length) (Pv:Nat→St→Hp→Prop) (h0:Pv 0 σ H) (hl:∀ i σ H,i≤xs.length→Pv i σ H→aY K H a xs∧cP K H b ys)
  (hs:∀ (i:Nat) (x y:V) (p:Addr) (σ:St) (H:Hp) (N:St→Hp→Prop),(∀ σ H,Pv (i+1) σ H→N σ H)→xs[i]?=some x→ys[i]?=some y→Pv i σ H→H p=none→g (.ref p) σ (upd H p (.tup [x,y])) fun σ3 H3=>tt σ3 H3 fun b H4 =>
   if b=true then te σ3 H4 fun v H5=>∃ ys,H5 D=some (.lst ys)∧ys.length < sizeLine∧N σ3 (upd H5 D (.lst (ys ++ [v]))) else N σ3 H4)
  (hd:∀ σ H,Pv xs.length σ H→Q (.ref D) H):tw (O5 K a b) g tt te D σ H Q:=by
 refine ⟨fun i m σ H=>m=xs.length - i∧i≤xs.length∧Pv i σ H,⟨xs.length,by simp,Nat.zero_le _,h0⟩,?_⟩
 rintro i m σ' H' ⟨rfl,hi,p⟩
 obtain ⟨q1,q2⟩:=hl i σ' H' hi p
 by_cases et:i < xs.length
 ·have O6:i < ys.length:=by omega
  refine .inr ⟨⟨xs,ys,xs[i],ys[i],q1,q2,by simp [et],by simp [O6]⟩,fun x H2 y=>?_⟩
  obtain ⟨pp,x1,y1,hn,rfl,rfl,ex,ey⟩:=y
  exact hs i x1 y1 pp σ' _ (fun σ3 H3=>∃ m',m' < xs.length - i∧m'=xs.length - (i+1)∧i+1≤xs.length∧Pv (i+1) σ3 H3) (fun σ3 H3 z=>⟨xs.length - (i+1),by omega,rfl,et,z⟩) (ex xs q1) (ey ys q2) p hn
 ·have e:i=xs.length:=by omega
  subst e
  exact .inl ⟨⟨xs,q1,Nat.le_refl _⟩,hd σ' H' p⟩
end
end L2
namespace L2
open PySem
structure O7 (K:PySem.W.Frag) (a:Addr) (xs:List V):Prop where
 ex:∃ (o:Obj) (ae:Array Value) (n:Nat),K.lookup a=some o∧o.cls=.type "tuple"∧o.data=.seq ae n∧ae.size≤sizeLine∧aq xs ae.toList
theorem O7.sq {K:PySem.W.Frag} {a:Addr} {xs:List V} (h:O7 K a xs) (H:Hp):cP K H a xs:=.inr h.ex
end L2
namespace L2
open PySem PySem.Spec PyProof.Rows
section
variable {X:Cx}
end
section
variable {K:PySem.W.Frag} {g:TG} {tt:TT} {te:TE} {D:Addr} {σ:St} {H:Hp} {Q:VK}
theorem qg {i j:Nat} {x y:V} {p:Addr} {A:St→Hp→Prop} (hp:cP K H p [x,y]) (h:A ((σ.set i (some x)).set j (some y)) H):Hv K 2 (qX (iC i) (qX (iC j) Hu)) (.ref p) σ H A :=
 ⟨p,[x,y],rfl,hp,rfl,x,_,rfl,y,_,rfl,rfl,h⟩
end
end L2
namespace L2
open PySem PySem.Spec PyProof.Rows
section
variable {K:PySem.W.Frag} {g:TG} {tt:TT} {te:TE} {D:Addr} {σ:St} {H:Hp} {Q:VK}
theorem LN {a b:Addr} {xs ys:List V} {tb:TS} {D:Ends} (hlen:xs.length=ys.length) (Pv:Nat→St→Hp→Prop) (h0:Pv 0 σ H) (hl:∀ i σ H,i≤xs.length→Pv i σ H→aY K H a xs∧aY K H b ys)
  (hs:∀ i x y p σ H,xs[i]?=some x→ys[i]?=some y→Pv i σ H→H p=none→g (.ref p) σ (upd H p (.tup [x,y])) fun σ2 H2=>tb { D with nx:=Pv (i+1),ct:=Pv (i+1),bk:=D.nx } σ2 H2) (hd:∀ σ H,Pv xs.length σ H→D.nx σ H) :
  ∃ W:Nat→Nat→St→Hp→Prop,(∃ m,W 0 m σ H)∧∀ i m σ H,W i m σ H →
   ((Ox K a b).stop i H∧D.nx σ H)∨((Ox K a b).go i H∧∃ N:St→Hp→Prop,(∀ σ' H',N σ' H'→∃ m',m' < m∧W (i+1) m' σ' H')∧∀ x H',(Ox K a b).K0 i H x H'→g x σ H' fun σ2 H2=>tb { D with nx:=N,ct:=N,bk:=D.nx } σ2 H2):=by
 refine ⟨fun i m σ H=>m=xs.length - i∧i≤xs.length∧Pv i σ H,⟨xs.length,by simp,Nat.zero_le _,h0⟩,?_⟩
 rintro i m σ H ⟨rfl,hi,p⟩
 obtain ⟨q1,q2⟩:=hl i σ H hi p
 by_cases et:i < xs.length
 ·have O6:i < ys.length:=by omega
  refine .inr ⟨⟨xs,ys,xs[i],ys[i],q1,q2,by simp [et],by simp [O6]⟩,Pv (i+1),fun σ' H' p'=>⟨xs.length - (i+1),by omega,rfl,et,p'⟩,fun x H' y=>?_⟩
  obtain ⟨pp,x1,y1,hn,rfl,rfl,ex,ey⟩:=y
  exact hs i x1 y1 pp σ _ (ex xs q1) (ey ys q2) p hn
 ·have e:i=xs.length:=by omega
  subst e
  exact .inl ⟨⟨xs,ys,q1,q2,.inl (Nat.le_refl _)⟩,hd σ H p⟩
theorem LO {n:Nat} (hn:n≤1000) {H0:Hp} {σr:St} {b:Nat→Bool} (hD:H0 D=none)
  (ht:∀ (i:Nat) (H:Hp) (N:Bool→Hp→Prop),i < n→aI H0 H→(∀ H',aI H H'→N (b i) H')→tt (some (.int (0+(i:Int))) :: σr) H N)
  (he:∀ (i:Nat) (H:Hp) (N:V→Hp→Prop),i < n→N (.int (0+(i:Int))) H→te (some (.int (0+(i:Int))) :: σr) H N)
  (q:∀ H,aI H0 H→H D=some (.lst (((List.range n).filter b).map fun k=>V.int (k:Nat)))→Q (.ref D) H) :
  tw (K1 0 n) (iC 0) tt te D (none :: σr) (upd H0 D (.lst [])) Q:=by
 have ox:(2000:Nat)≤sizeLine:=by decide
 refine kI (lo:=0) (n:=n) (fun i σ H'=>∃ v:Option V,σ=v :: σr∧aI H0 H'∧H' D=some (.lst (((List.range i).filter b).map fun k=>V.int (k:Nat)))) ⟨none,rfl,(aI.refl _).new hD,aB⟩ ?_ ?_
 ·rintro i σ H' N hN hi ⟨v,rfl,s1,h1⟩
  refine turn_if ?_
  refine ht i H' _ hi s1 fun H2 s2=>?_
  have ef:(List.range (i+1)).filter b=(List.range i).filter b ++ if b i=true then [i] else []:=by
   rw [List.range_succ,List.filter_append]
   congr 1
   by_cases e:b i=true <;> simp [e]
  by_cases e:b i=true
  ·rw [e]
   refine gw (he i H2 _ hi ⟨_,s2 _ _ h1,?_,?_⟩)
   ·rw [List.length_map]
    have:=List.length_filter_le b (List.range i)
    rw [List.length_range] at this
    omega
   ·refine hN _ _ ⟨_,rfl,(s1.trans s2).put hD,?_⟩
    rw [aB,ef,if_pos e,List.map_append]
    simp
  ·have e':b i=false:=by simpa using e
   rw [e']
   refine gu (hN _ _ ⟨_,rfl,s1.trans s2,?_⟩)
   rw [ef,if_neg e,List.append_nil]
   exact s2 _ _ h1
 ·rintro σ H' ⟨v,rfl,s1,h1⟩
  exact q H' s1 h1
theorem Ax (ps:List Nat):(ps.map fun k=>V.int (k:Nat))=tabI ps.length fun q=>((ps.getD q 0:Nat):Int):=by
 apply List.ext_getElem?
 intro j
 by_cases hj:j < ps.length
 ·rw [ba hj,List.getElem?_map]
  simp [hj,List.getD]
 ·rw [List.getElem?_eq_none (by rw [List.length_map];omega),List.getElem?_eq_none (by rw [aL];omega)]
end
section
variable {P:Program} {w:World} {K:PySem.W.Frag} {mg:Str→Option Value} {base:Heap}
def V8:Sp:=fun _ _ _ _=>False
theorem aR.no {x:Str} {st:Stmt} {N ps:List Str} (F:aR K mg x st) (S:aS N ps (aG st))
  (hb:∀ (kV doc pm:Value) (an:Option Addr) (be ct:Value) (us:List Value),us.length=ps.length→bindArgs (PySem.W.fnOf x x (bS st) (bI st) (aG st) .none kV doc pm an be ct) ⟨us,[]⟩=pure (ps.zip us)):Def P w K mg base 1 x ps V8 :=
 F.def S hb (fun _ _ _ _ h=>h.elim) fun _ _ _ _ _ _ _ _ _ _ h=>h.elim
end
end L2
namespace L2
open PySem PySem.Spec PyProof.Rows
theorem aI.tup {K:PySem.W.Frag} {H H':Hp} {a:Addr} {xs:List V} (e:aI H H') (h:cP K H a xs):cP K H' a xs:=by
 rcases h with (h | ⟨o,h⟩) | h
 ·exact .inl (.inl (e _ _ h))
 ·exact .inl (.inr ⟨o,e _ _ h⟩)
 ·exact .inr h
section
variable {prog:Program} {w:World} {A:Around} {E:Value→Shared→Prop} {s:Shared}
end
section
variable {X:Cx}
end
inductive vL (K:PySem.W.Frag) (H:Hp):Nat→V→V→Prop where
 | flat {n:Nat} (x:V):An x=true→vL K H n x x
 | same {n:Nat} (a:Addr):vL K H n (.ref a) (.ref a)
 | lst {n:Nat} {a b:Addr} {xs ys:List V} (ha:aY K H a xs) (hb:aY K H b ys) (hl:xs.length=ys.length) (h:∀ (j:Nat) (x y:V),xs[j]?=some x→ys[j]?=some y→vL K H n x y):vL K H (n+1) (.ref a) (.ref b)
 | tup {n:Nat} {a b:Addr} {xs ys:List V} (ha:cP K H a xs) (hb:cP K H b ys) (hl:xs.length=ys.length) (h:∀ (j:Nat) (x y:V),xs[j]?=some x→ys[j]?=some y→vL K H n x y):vL K H (n+1) (.ref a) (.ref b)
theorem Ij:∀ (x:V),An x=true→Ke x x=true
 | .bq,_=>rfl
 | .bl b,_=>by simp [Ke]
 | .int i,_=>by simp [Ke]
 | .str z,_=>by simp [Ke]
 | .ref _,h=>absurd h (by intro z;cases z)
 | .ty _,h=>absurd h (by intro z;cases z)
section
variable {X:Cx} {pins:List (Addr × Obj)} {σ:St} {H:Hp} {s:Shared}
theorem zL (I:Inv X pins σ H s) {n:Nat} {x y:V} (h:vL X.K H n x y):∀ {A:Around} {u v:Value},A.units+n < cLine→RelV x u→RelV y v→SeqAt.EqAt A s u v true:=by
 induction h with
 | flat x fx=>intro A u v _ ru rv;have:=pI (A:=A) (s:=s) ru rv fx fx;rwa [Ij x fx] at this
 | same a=>intro A u v _ ru rv;cases ru;cases rv;exact SeqAt.EqAt.same _
 | @lst n a b xs ys ha hb hl h ih =>
  intro A u v hu ru rv
  cases ru
  cases rv
  by_cases Eu:a=b
  ·subst Eu
   exact SeqAt.EqAt.same _
  ·obtain ⟨ae,r1,p1,_⟩:=I.list ha
   obtain ⟨fe,r2,p2,_⟩:=I.list hb
   have l1:=r1.length
   have l2:=r2.length
   refine SeqAt.EqAt.of_refs Eu ?_
   have q:=SeqAt.RcAt.lists (A:=A) (s:=s) (e:=fun _=>true) p1.isList p2.isList (by simp;omega) (by omega) fun j h1 h2=>?_
   ·rw [all_true] at q
    exact q
   ·obtain ⟨x,hx,rx⟩:=dI r1 j h1
    obtain ⟨y,hy,ry⟩:=dI r2 j h2
    exact ih j x y hx hy (A:=A.in1) (by show A.units+1+n < cLine;omega) rx ry
 | @tup n a b xs ys ha hb hl h ih =>
  intro A u v hu ru rv
  cases ru
  cases rv
  by_cases Eu:a=b
  ·subst Eu
   exact SeqAt.EqAt.same _
  ·obtain ⟨ae,r1,p1,_⟩:=I.tuple ha
   obtain ⟨fe,r2,p2,_⟩:=I.tuple hb
   have l1:=r1.length
   have l2:=r2.length
   refine SeqAt.EqAt.of_refs Eu ?_
   have q:=SeqAt.RcAt.tuples (A:=A) (s:=s) (e:=fun _=>true) (show s.heap.IsTuple a ae.toArray from p1) (show s.heap.IsTuple b fe.toArray from p2) (by omega) fun j h1 h2=>?_
   ·rw [all_true,Bool.true_and,show (ae.toArray.size == fe.toArray.size)=true by simp;omega] at q
    exact q
   ·obtain ⟨x,hx,rx⟩:=dI r1 j h1
    obtain ⟨y,hy,ry⟩:=dI r2 j h2
    exact ih j x y hx hy (A:=A.in1) (by show A.units+1+n < cLine;omega) rx ry
end
section
variable {X:Cx}
def R0 (K:PySem.W.Frag) (neg:Bool):R2:=fun x y H Q=>∃ a b xs ys,x=.ref a∧y=.ref b∧aY K H a xs∧aY K H b ys ∧
 ((xs.length=ys.length∧(∀ (j:Nat) (u v:V),xs[j]?=some u→ys[j]?=some v→vL K H 8 u v)∧Q (.bl (!neg)) H)∨(xs.length≠ys.length∧Q (.bl neg) H))
theorem LP (K:PySem.W.Frag) (hu:X.A.units+16 < cLine) (hK:X.K=K:=by rfl):kr X (compareOp .Eq) (R0 K false):=by
 subst hK
 intro pins s σ H x y v u Q I rx ry h
 obtain ⟨a,b,xs,ys,rfl,rfl,ha,hb,h⟩:=h
 cases rx
 cases ry
 obtain ⟨ae,r1,p1,_⟩:=I.list ha
 obtain ⟨fe,r2,p2,_⟩:=I.list hb
 have l1:=r1.length
 have l2:=r2.length
 rcases h with ⟨hl,he,q⟩ | ⟨hl,q⟩
 ·refine SeqAt.eq_listAt (e:=fun _=>true) p1.isList p2.isList (by simp;omega) (by omega) (fun j h1 h2=>?_) ?_
  ·obtain ⟨x,hx,rx⟩:=dI r1 j h1
   obtain ⟨y,hy,ry⟩:=dI r2 j h2
   exact zL I (he j x y hx hy) (A:=X.A.in1) (by show X.A.units+1+8 < cLine;omega) rx ry
  ·rw [all_true]
   exact ⟨.bl true,H,I,rfl,q⟩
 ·refine SeqAt.eq_list_lengthsAt p1.isList p2.isList (by simp;omega) (by omega) ?_
  exact ⟨.bl false,H,I,rfl,q⟩
theorem LQ (K:PySem.W.Frag) (hu:X.A.units+16 < cLine) (hK:X.K=K:=by rfl):kr X (compareOp .NotEq) (R0 K true):=by
 subst hK
 intro pins s σ H x y v u Q I rx ry h
 obtain ⟨a,b,xs,ys,rfl,rfl,ha,hb,h⟩:=h
 cases rx
 cases ry
 obtain ⟨ae,r1,p1,_⟩:=I.list ha
 obtain ⟨fe,r2,p2,_⟩:=I.list hb
 have l1:=r1.length
 have l2:=r2.length
 rcases h with ⟨hl,he,q⟩ | ⟨hl,q⟩
 ·refine PySem.EqBoolInt.of_rcne (SeqAt.RcNeAt.lists (e:=fun _=>true) p1.isList p2.isList (by simp;omega) (by omega) fun j h1 h2=>?_) ?_
  ·obtain ⟨x,hx,rx⟩:=dI r1 j h1
   obtain ⟨y,hy,ry⟩:=dI r2 j h2
   exact zL I (he j x y hx hy) (A:=X.A.in1) (by show X.A.units+1+8 < cLine;omega) rx ry
  ·rw [all_true]
   exact ⟨.bl false,H,I,rfl,q⟩
 ·refine PySem.EqBoolInt.of_rcne (SeqAt.RcNeAt.lists_lengths p1.isList p2.isList (by simp;omega) (by omega)) ?_
  exact ⟨.bl true,H,I,rfl,q⟩
theorem E8 (K:PySem.W.Frag) {tg l:Expr} {tl:TE} (hl:PE X l tl) (hK:X.K=K:=by rfl):PI X tg l (RF K tl):=by subst hK;exact OL hl
end
section
variable {K:PySem.W.Frag} {g:TG} {tt:TT} {te:TE} {D:Addr} {σ:St} {H:Hp} {Q:VK}
end
end L2
namespace L2
open PySem PySem.Spec PyProof.Rows
theorem yS:∀ {ns:List Int} {ae:List Value},aq (ns.map V.int) ae→∃ ps:List (Int × Tok),ae=ps.map (fun q=>Value.int q.1 q.2)∧ps.map (·.1)=ns
 | [],_,.nil=>⟨[],rfl,rfl⟩
 | n :: ns,_,.cons r rr=>by
  obtain ⟨t,rfl⟩:=r
  obtain ⟨ps,rfl,e⟩:=yS rr
  exact ⟨(n,t) :: ps,rfl,by rw [List.map_cons,e]⟩
section
variable {X:Cx}
theorem GL (hc:X.calm=true):iU X (.builtin "max") (fun xs H Q=>∃ (p:Addr) (ns:List Int),xs=[.ref p]∧aY X.K H p (ns.map V.int)∧ns≠[]∧∀ M,M ∈ ns→(∀ a ∈ ns,a≤M)→Q (.int M) H):=by
 intro pins s σ H xs us Q I r h
 obtain ⟨p,ns,rfl,hq,AS,q⟩:=h
 obtain ⟨u,rfl,rx⟩:=vals1 r
 cases rx
 obtain ⟨ae,r1,p1,_⟩:=I.list hq
 obtain ⟨ps,rfl,V9⟩:=yS r1
 have hh:X.A.handled=none:=I.ok.hd hc
 have ox:0 < ps.length:=by
  rcases ps with _ | ⟨a,b⟩
  ·exact absurd V9.symm AS
  ·simp
 refine max_intList (xs:=ps.toArray) hh (by simpa [intItems] using p1.isList) (by simpa using ox) fun v h' tk hv hk=>?_
 obtain ⟨t,rfl⟩:=intItems_at hv
 obtain ⟨h1,h2⟩:=argBest_gt (numAt ps.toArray) (ps.toArray.size - 1)
 refine ⟨.int _,H,I.kept (t':=tk) hk,⟨t,rfl⟩,q _ ?_ fun a ha=>?_⟩
 ·rw [← V9,numAt_eq];exact getD_mem (by simp at h1 ⊢;omega)
 ·rw [← V9] at ha
  obtain ⟨j,hj,rfl⟩:=mem_getD ha
  rw [List.length_map] at hj
  have:=h2 j (by simp;omega)
  rw [numAt_eq,numAt_eq] at this
  rw [numAt_eq]
  exact this
def WA (K:PySem.W.Frag):List V→Hp→VK→Prop:=fun xs H Q=>∃ (p:Addr) (ns:List Int),xs=[.ref p]∧aY K H p (ns.map V.int)∧ns≠[]∧∀ M,M ∈ ns→(∀ a ∈ ns,a≤M)→Q (.int M) H
theorem yT (K:PySem.W.Frag) (hc:X.calm=true:=by rfl) (hK:X.K=K:=by rfl):iU X (.builtin "max") (WA K):=by subst hK;exact GL hc
end
end L2
namespace L2
open PySem PySem.Spec PyProof.Rows
end L2
namespace L2
open PySem PySem.Spec PyProof.Rows
section
variable (P:Program) (w:World)
end
section
variable {P:Program} {w:World} {H H':Hp} {h h':Heap} {a:Addr} {o:HO}
end
section
variable {P:Program} {w:World} {H:Hp} {h h':Heap} {x e:Addr} {o':HO}
end
section
variable {fs KZ ex VC:List Addr} {H H1 H2:Hp} {h h1 h2 h':Heap} {a x e:Addr} {o:HO}
end
end L2
namespace L2
open PySem PySem.Spec PyProof.Rows
section
variable {X:Cx} {pins:List (Addr × Obj)} {σ:List (Option V)} {H H':Hp} {s:Shared} {h':Heap}
end
end L2
namespace L2
open PySem PySem.Spec PyProof.Rows
section
variable {X:Cx}
variable {a b:Expr} {ta tb:TE} {pos:Pos}
variable {tA Q7:TT} {rest:List Expr}
end
end L2
namespace L2
open PySem PySem.Spec PyProof.Rows
section
variable {X:Cx} {pins:List (Addr × Obj)} {σ:St} {H:Hp} {s:Shared} {a:Addr} {xs ys:List V}
end
section
variable {X:Cx} {pins:List (Addr × Obj)} {σ:St} {H:Hp} {s:Shared} {E:Value→Shared→Prop}
end
section
variable {X:Cx} {st:Stmt} {rest:List Stmt} {t u:TS} {e:Expr} {te:TE} {pos:Pos}
end
section
variable {X:Cx} {pos:Pos}
end
section
variable {X:Cx} {pos:Pos}
end
end L2
namespace L2
open PySem PySem.Spec PyProof.Rows
section
variable {X:Cx} {tg:Expr}
end
end L2
namespace L2
open PySem PySem.Spec PyProof.Rows
section
variable {X:Cx} {a b c:Expr} {ta tb tc:TE} {pos:Pos}
end
section
variable {X:Cx} {a b c:Expr} {ta tb tc:TE} {pos:Pos}
end
end L2
namespace L2
open PySem PySem.Spec PyProof.Rows
section
variable {prog:Program} {w:World} {A:Around} {E:Value→Shared→Prop} {s:Shared} {K:PySem.W.Frag} {x dx C f:Addr} {mA:Str→Option Value} {name:Str} {v:Value}
end
section
variable {P:Program} {w:World} {H H':Hp} {h h':Heap} {a C dx:Addr} {fs KZ:List (Str × V)}
end
section
variable {X:Cx} {pins:List (Addr × Obj)} {σ:St} {H:Hp} {s:Shared} {a C dx:Addr} {fs:List (Str × V)} {f:Str} {v:V} {A:Around} {E:Value→Shared→Prop}
end
section
variable {X:Cx} {o e value:Expr} {f:Str} {pos pos' y6:Pos} {ta tv:TE}
end
section
variable {X:Cx} {pins:List (Addr × Obj)} {σ:St} {H:Hp} {s:Shared} {A:Around} {E:Value→Shared→Prop} {Q:Value→Shared→Prop} {c:Value} {b:Bool}
end
end L2
namespace L2
open PySem PySem.Spec PyProof.Rows
section
variable {X:Cx} {e:Expr} {es:List Expr} {te:TE} {t:TA} {pos:Pos}
end
section
variable {X:Cx} {pins:List (Addr × Obj)} {σ:St} {H:Hp} {s s':Shared}
end
section
variable {X:Cx} {CX:Ai} {k:Nat} {f C:Addr} {fd:FuncData} {ps:List Str} {sp:Sp} {xB:List V} {ds:List Value} {E:XK} {x m:Str} {p pos apos:Pos} {e o:Expr} {es:List Expr} {ta:TE} {t:TA}
end
section
variable {X:Cx} {CX:Ai} {k:Nat} {f C:Addr} {fd:FuncData} {ps ks:List Str} {sp:Sp} {E:XK} {x m:Str} {p pos apos VW:Pos} {e o:Expr} {es:List Expr} {Zt:List Keyword} {te ta:TE} {t tk:TA} {nm:Option Str}
variable {g:List Value→List Value→List Value} {gV:List V→List V→List V}
end
end L2
namespace L2
open PySem PySem.Spec PyProof.Rows
section
variable {X:Cx} {x:Str} {p pos:Pos} {e:Expr} {es:List Expr} {t:TA} {id T:String} {r:List V→Hp→VK→Prop}
end
end L2
namespace L2
open PySem PySem.Spec PyProof.Rows
section
variable {κ:Type} [DecidableEq κ]
def uN (bQ:List (κ × V)) (k:κ):Option V:=(bQ.find? fun kv=>decide (kv.1=k)).map (·.2)
def putK (bQ:List (κ × V)) (k:κ) (v:V):List (κ × V) :=
 if (bQ.any fun kv=>decide (kv.1=k))=true then bQ.map (fun kv=>if kv.1=k then (kv.1,v) else kv) else bQ ++ [(k,v)]
def Na (bQ:List (κ × V)) (k:κ):List (κ × V):=bQ.filter fun kv=>decide (kv.1≠k)
theorem vM {p:κ × V} {r:List (κ × V)} {k:κ} (e:p.1=k):uN (p :: r) k=some p.2:=by simp [uN,List.find?_cons,e]
theorem vN {p:κ × V} {r:List (κ × V)} {k:κ} (e:¬ p.1=k):uN (p :: r) k=uN r k:=by simp [uN,List.find?_cons,e]
theorem Ay (k:κ):∀ bQ:List (κ × V),(bQ.any fun kv=>decide (kv.1=k))=(uN bQ k).isSome
 | []=>rfl
 | p :: r=>by
  rw [List.any_cons]
  by_cases e:p.1=k
  ·simp only [vM e,decide_eq_true e,Bool.true_or,Option.isSome_some]
  ·rw [vN e,decide_eq_false e,Bool.false_or];exact Ay k r
theorem mh.yU {o:Option V} {u:Option Value} (r:mh o u):o.isSome=u.isSome:=by
 cases o with
 | none=>cases u with
  | none=>rfl
  | some _=>exact (show False from r).elim
 | some _=>cases u with
  | none=>exact (show False from r).elim
  | some _=>rfl
theorem mh.getD {o:Option V} {u:Option Value} {d:V} {d':Value} (r:mh o u) (rd:RelV d d'):RelV (o.getD d) (u.getD d'):=by
 cases o with
 | none=>cases u with
  | none=>exact rd
  | some _=>exact (show False from r).elim
 | some _=>cases u with
  | none=>exact (show False from r).elim
  | some _=>exact r
theorem KV.val {bQ:List (κ × V)} {vs:List (κ × Value)} (r:KV bQ vs) (k:κ):mh (uN bQ k) (valueAt vs k):=by
 unfold KV at r
 induction r with
 | nil=>exact True.intro
 | @cons p q ps qs h t ih =>
  obtain ⟨h1,h2⟩:=h
  by_cases e:p.1=k
  ·have e':q.1=k:=h1.symm.trans e
   have b:valueAt (q :: qs) k=some q.2:=by simp [valueAt,List.find?_cons,e']
   rw [vM e,b];exact h2
  ·have e':¬ q.1=k:=fun z=>e (h1.trans z)
   have b:valueAt (q :: qs) k=valueAt qs k:=by simp [valueAt,List.find?_cons,e']
   rw [vN e,b];exact ih
theorem KV.any {bQ:List (κ × V)} {vs:List (κ × Value)} (r:KV bQ vs) (k:κ):(bQ.any fun kv=>decide (kv.1=k))=vs.any fun kv=>decide (kv.1=k):=by
 unfold KV at r
 induction r with
 | nil=>rfl
 | cons h t ih=>rw [List.any_cons,List.any_cons,ih,h.1]
theorem KV.Ik {bQ:List (κ × V)} {vs:List (κ × Value)} (r:KV bQ vs) (k:κ) {y:V} {u:Value} (ry:RelV y u) :
  KV (bQ.map fun kv=>if kv.1=k then (kv.1,y) else kv) (vs.map fun kv=>if kv.1=k then (kv.1,u) else kv):=by
 unfold KV at r ⊢
 induction r with
 | nil=>exact .nil
 | @cons p q ps qs h t ih =>
  rw [List.map_cons,List.map_cons]
  refine .cons ?_ ih
  obtain ⟨h1,h2⟩:=h
  by_cases e:p.1=k
  ·rw [if_pos e,if_pos (h1.symm.trans e)];exact ⟨h1,ry⟩
  ·rw [if_neg e,if_neg (fun z=>e (h1.trans z))];exact ⟨h1,h2⟩
theorem KV.put {bQ:List (κ × V)} {vs:List (κ × Value)} (r:KV bQ vs) (k:κ) {y:V} {u:Value} (ry:RelV y u):KV (putK bQ k y) (stored vs k u):=by
 unfold putK stored
 rw [r.any k]
 by_cases e:(vs.any fun kv=>decide (kv.1=k))=true
 ·rw [if_pos e,if_pos e];exact r.Ik k ry
 ·rw [if_neg e,if_neg e];exact Paired.snoc r ⟨rfl,ry⟩
theorem KV.drop {bQ:List (κ × V)} {vs:List (κ × Value)} (r:KV bQ vs) (k:κ):KV (Na bQ k) (without vs k):=by
 unfold KV at r ⊢
 unfold Na without
 induction r with
 | nil=>exact .nil
 | @cons p q ps qs h t ih =>
  obtain ⟨h1,h2⟩:=h
  rw [List.filter_cons,List.filter_cons]
  by_cases e:p.1=k
  ·have a:¬ decide (p.1≠k)=true:=by simp [e]
   have b:¬ decide (q.1≠k)=true:=by simp [h1.symm.trans e]
   rw [if_neg a,if_neg b];exact ih
  ·have e':¬ q.1=k:=fun z=>e (h1.trans z)
   have a:decide (p.1≠k)=true:=by simp [e]
   have b:decide (q.1≠k)=true:=by simp [e']
   rw [if_pos a,if_pos b];exact .cons ⟨h1,h2⟩ ih
theorem KV.keys {bQ:List (κ × V)} {vs:List (κ × Value)} (r:KV bQ vs):bQ.map (·.1)=vs.map (·.1):=by
 unfold KV at r
 induction r with
 | nil=>rfl
 | cons h t ih=>rw [List.map_cons,List.map_cons,ih,h.1]
theorem KV.length {bQ:List (κ × V)} {vs:List (κ × Value)} (r:KV bQ vs):bQ.length=vs.length:=Paired.length r
end
abbrev KT (H:Hp):List (List Key × V)→List (List Key × Addr × Value)→Prop:=Paired fun p q=>p.1=q.1∧H q.2.1=some (.tup (p.1.map kV))∧RelV p.2 q.2.2
theorem KT.val {H:Hp} {bQ:List (List Key × V)} {xs:List (List Key × Addr × Value)} (r:KT H bQ xs) (k:List Key):mh (uN bQ k) ((atKey xs k).map (·.2)):=by
 induction r with
 | nil=>exact True.intro
 | @cons p q ps qs h t ih =>
  obtain ⟨h1,_,h2⟩:=h
  by_cases e:p.1=k
  ·have e':q.1=k:=h1.symm.trans e
   have b:atKey (q :: qs) k=some q.2:=by simp [atKey,List.find?_cons,e']
   rw [vM e,b];exact h2
  ·have e':¬ q.1=k:=fun z=>e (h1.trans z)
   have b:atKey (q :: qs) k=atKey qs k:=by simp [atKey,List.find?_cons,e']
   rw [vN e,b];exact ih
theorem KT.Ik {H:Hp} {bQ:List (List Key × V)} {xs:List (List Key × Addr × Value)} (r:KT H bQ xs) (k:List Key) {y:V} {u:Value} (ry:RelV y u) :
  KT H (bQ.map fun kv=>if kv.1=k then (kv.1,y) else kv) (xs.map (putAt k u)):=by
 induction r with
 | nil=>exact .nil
 | @cons p q ps qs h t ih =>
  rw [List.map_cons,List.map_cons]
  refine .cons ?_ ih
  obtain ⟨h1,h2,h3⟩:=h
  unfold putAt
  by_cases e:p.1=k
  ·rw [if_pos e,if_pos (h1.symm.trans e)];exact ⟨h1,h2,ry⟩
  ·rw [if_neg e,if_neg (fun z=>e (h1.trans z))];exact ⟨h1,h2,h3⟩
theorem KT.put {H:Hp} {bQ:List (List Key × V)} {xs:List (List Key × Addr × Value)} (r:KT H bQ xs) (k:List Key) {b:Addr} {y:V} {u:Value} (hb:H b=some (.tup (k.map kV))) (ry:RelV y u) :
  KT H (putK bQ k y) (storedH xs k b u):=by
 have e:(bQ.any fun kv=>decide (kv.1=k))=(atKey xs k).isSome:=by
  rw [Ay,(r.val k).yU,Option.isSome_map]
 unfold putK storedH
 rw [e]
 by_cases q:(atKey xs k).isSome=true
 ·rw [if_pos q,if_pos q];exact r.Ik k ry
 ·rw [if_neg q,if_neg q];exact Paired.snoc r ⟨rfl,hb,ry⟩
theorem KT.keeps {H H':Hp} {bQ:List (List Key × V)} {xs:List (List Key × Addr × Value)} (r:KT H bQ xs) (ht:∀ b ys,H b=some (.tup ys)→H' b=some (.tup ys)):KT H' bQ xs :=
 Paired.OD r fun _ _ z=>⟨z.1,ht _ _ z.2.1,z.2.2⟩
section
variable {P:Program} {w:World} {H:Hp} {h:Heap} {a:Addr}
end
def LR (H:Hp) (a:Addr) (y:V) (r:Option V):Prop :=
 (∃ bQ k,Rd H a (.dK bQ)∧y=kV k∧r=uN bQ k)∨∃ bQ k b,Rd H a (.dT bQ)∧y=.ref b∧H b=some (.tup (k.map kV))∧r=uN bQ k
def LS (H:Hp) (a:Addr) (y v:V) (H':Hp):Prop :=
 (∃ bQ k,H a=some (.dK bQ)∧y=kV k∧bQ.length < sizeLine∧H'=upd H a (.dK (putK bQ k v))) ∨
 ∃ bQ k b,H a=some (.dT bQ)∧y=.ref b∧H b=some (.tup (k.map kV))∧bQ.length < sizeLine∧H'=upd H a (.dT (putK bQ k v))
theorem LR.k {H:Hp} {a:Addr} {bQ:List (Key × V)} {k:Key} (e:H a=some (.dK bQ)):LR H a (kV k) (uN bQ k):=.inl ⟨bQ,k,.inl e,rfl,rfl⟩
theorem LR.t {H:Hp} {a b:Addr} {bQ:List (List Key × V)} {k:List Key} (e:H a=some (.dT bQ)) (eb:H b=some (.tup (k.map kV))):LR H a (.ref b) (uN bQ k):=.inr ⟨bQ,k,b,.inl e,rfl,eb,rfl⟩
theorem LS.k {H:Hp} {a:Addr} {bQ:List (Key × V)} {k:Key} {v:V} (e:H a=some (.dK bQ)) (hl:bQ.length < sizeLine):LS H a (kV k) v (upd H a (.dK (putK bQ k v))):=.inl ⟨bQ,k,e,rfl,hl,rfl⟩
theorem LS.t {H:Hp} {a b:Addr} {bQ:List (List Key × V)} {k:List Key} {v:V} (e:H a=some (.dT bQ)) (eb:H b=some (.tup (k.map kV))) (hl:bQ.length < sizeLine) :
  LS H a (.ref b) v (upd H a (.dT (putK bQ k v))):=.inr ⟨bQ,k,b,e,rfl,eb,hl,rfl⟩
section
variable {X:Cx} {pins:List (Addr × Obj)} {σ:St} {H:Hp} {s:Shared} {a:Addr} {y v:V} {u r:Value} {o:Option V} {A:Around} {E:Value→Shared→Prop}
end
section
variable {X:Cx} {pins:List (Addr × Obj)} {σ:St} {H:Hp} {s:Shared} {a:Addr} {bQ:List (Key × V)} {k:Key} {u:Value} {A:Around} {E:Value→Shared→Prop}
end
section
variable {X:Cx} {o i e value:Expr} {pos pos' y6:Pos} {td ty tv:TE}
end
section
variable {X:Cx} {pos:Pos}
end
structure M1 (X:Cx) (o:Expr) (m:Str) (apos:Pos) (e:Expr) (fG:Pos):Prop where
 base:attributeBase o m X.env (eval o X.env)=eval o X.env
 yV:((backTo fG (starEach [e] X.env)).all (fun x=>!x.1) && (backToKw fG (keywordEach [] X.env)).all (fun x=>x.1.isSome)
  && decide (([e]:List Expr).length+([]:List Keyword).length+(if ([]:List Keyword).isEmpty then 0 else 1) < 30))=true
 line:(apos.endLine == fG.line)=true
 trees:backTo fG (starEach [e] X.env)=[(false,eval e X.env)]
structure M2 (X:Cx) (o:Expr) (m:Str) (apos:Pos) (e f:Expr) (fG:Pos):Prop where
 base:attributeBase o m X.env (eval o X.env)=eval o X.env
 yV:((backTo fG (starEach [e,f] X.env)).all (fun x=>!x.1) && (backToKw fG (keywordEach [] X.env)).all (fun x=>x.1.isSome)
  && decide (([e,f]:List Expr).length+([]:List Keyword).length+(if ([]:List Keyword).isEmpty then 0 else 1) < 30))=true
 line:(apos.endLine == fG.line)=true
 trees:backTo fG (starEach [e,f] X.env)=[(false,eval e X.env),(false,eval f X.env)]
section
variable {X:Cx} {pins:List (Addr × Obj)} {σ:St} {H:Hp} {s:Shared} {a:Addr} {y d:V} {u r:Value} {o:Option V} {A:Around} {E:Value→Shared→Prop}
end
section
variable {X:Cx} {o e f:Expr} {apos fG:Pos} {td ty tx:TE}
end
section
variable {X:Cx} {pins:List (Addr × Obj)} {σ:St} {H:Hp} {s:Shared} {a:Addr} {bQ:List (Key × V)} {A:Around} {E:Value→Shared→Prop}
end
section
variable {X:Cx} {pins:List (Addr × Obj)} {σ:St} {H:Hp} {s:Shared} {a:Addr} {y:V} {u:Value} {A:Around} {E:Value→Shared→Prop}
end
end L2
namespace Att
open PySem PySem.W PySem.Calls PyProof.Rows
section
variable {prog:Program} {w:World} {A:Around} {E:Value→Shared→Prop} {s:Shared} {K:Frag}
end
end Att
namespace L2
open PySem PySem.Spec PyProof.Rows
end L2
namespace L2
open PySem PySem.Spec PyProof.Rows
end L2
namespace L2
open PySem PySem.Spec PyProof.Rows
section
variable {P:Program} {w:World} {K:PySem.W.Frag} {mg:Str→Option Value} {base:Heap}
end
section
variable {X:Cx}
end
section
variable {κ:Type} [DecidableEq κ]
end
end L2
namespace L2
open PySem PySem.Spec PyProof.Rows
section
variable {X:Cx}
end
section
variable {g:TG} {tt:TT} {te:TE} {D:Addr} {σ:St} {H:Hp} {Q:VK}
end
end L2
namespace L2
open PySem PySem.Spec PyProof.Rows
section
variable {X:Cx}
end
section
variable {g:TG} {tt:TT} {te:TE} {D:Addr} {σ:St} {H:Hp} {Q:VK}
end
section
variable {X:Cx} {o e value:Expr} {f:Str} {pos pos':Pos} {ta tv:TE}
theorem ai (K:PySem.W.Frag) (he:PE X e ta) (hb:attributeBase e f X.env (eval e X.env)=eval e X.env) (hK:X.K=K:=by rfl):PE X (.Attribute e f pos) (CT K ta f):=by subst hK;exact OT he hb
theorem b6 (K:PySem.W.Frag) (ha:PE X o ta) (hv:PE X value tv) (hs:swapsWith value (some (.Attribute o f pos')) pos.line X.env=pure false) (hK:X.K=K:=by rfl):PS X (.Assign [.Attribute o f pos'] value pos) (IG K ta tv f):=by subst hK;exact OU ha hv hs
end
end L2
namespace L2
open PySem PySem.Spec PyProof.Rows
section
variable {X:Cx}
end
structure R1 (X:Cx) (e:Expr) (t:TE):Prop where
 out:PE X e t
structure Kh (X:Cx) (es:List Expr) (t:TA):Prop where
 out:PA X es t
section
variable {X:Cx} {te:TE} {t:TA} {es GN:List Expr}
theorem Il {x1:Nat} {p1:Pos} {env:Env}:starEach (.Tuple GN x1 p1 :: es) env=(false,eval (.Tuple GN x1 p1) env) :: starEach es env:=rfl
theorem Im {c:Const} {k1:Nat} {p1:Pos} {env:Env}:starEach (.Constant c k1 p1 :: es) env=(false,eval (.Constant c k1 p1) env) :: starEach es env:=rfl
theorem E9 {i:Int} {j:Nat} {pos:Pos}:R1 X (.Constant (.int i) j pos) (tC (.int i)):=⟨aF⟩
theorem WB {e:Expr} (h:PE X e te):R1 X e te:=⟨h⟩
theorem Io {x1:Nat} {pos:Pos} (h:Kh X es t):R1 X (.Tuple es x1 pos) (F6 t):=⟨bX h.out⟩
theorem Az:Kh X [] vD:=⟨aC⟩
theorem zM {x1:Nat} {p1:Pos} (ha:R1 X (.Tuple GN x1 p1) te) (hr:Kh X es t):Kh X (.Tuple GN x1 p1 :: es) (jO te t):=⟨aA ha.out hr.out Il⟩
theorem qh {c:Const} {k1:Nat} {p1:Pos} (ha:R1 X (.Constant c k1 p1) te) (hr:Kh X es t):Kh X (.Constant c k1 p1 :: es) (jO te t):=⟨aA ha.out hr.out Im⟩
end
end L2
namespace L2
open PySem PySem.Spec PyProof.Rows
section
variable {prog:Program} {w:World} {A:Around} {E:Value→Shared→Prop} {s:Shared}
end
abbrev eA (h:Heap) (l:Addr):Heap:=h.push { cls:=.type "tuple_iterator",data:=.fields #[.ref l,.int 0 0] }
abbrev eB (h:Heap) (l:Addr):Heap:=(eA h l).push { cls:=.type "enumerate",data:=.fields #[.none,.bool false,.ref h.objs.size,rawInt 1,.none,.none] }
section
variable {prog:Program} {w:World} {A:Around} {E:Value→Shared→Prop} {s:Shared}
end
section
variable {X:Cx}
end
section
variable {K:PySem.W.Frag} {g:TG} {σ:St} {H:Hp}
end
section
variable {X:Cx}
inductive R3 (K:PySem.W.Frag) (H:Hp):V→Value→Prop where
 | bq:R3 K H .bq (.type "NoneType")
 | int (i:Int):R3 K H (.int i) (.type "int")
 | bl (b:Bool):R3 K H (.bl b) (.type "bool")
 | tup {a:Addr} {xs:List V}:cP K H a xs→R3 K H (.ref a) (.type "tuple")
 | lst {a:Addr} {xs:List V}:aY K H a xs→R3 K H (.ref a) (.type "list")
def R4 (K:PySem.W.Frag):R2:=fun x y H Q=>∃ a b xs ys,x=.ref a∧y=.ref b∧cP K H a xs∧cP K H b ys ∧
 (∀ (j:Nat) (u v:V),xs[j]?=some u→ys[j]?=some v→vL K H 8 u v)∧Q (.bl (!decide (xs.length=ys.length))) H
theorem LU (K:PySem.W.Frag) (hu:X.A.units+16 < cLine) (hK:X.K=K:=by rfl):kr X (compareOp .NotEq) (R4 K):=by
 subst hK
 intro pins s σ H x y v u Q I rx ry h
 obtain ⟨a,b,xs,ys,rfl,rfl,ha,hb,he,q⟩:=h
 cases rx
 cases ry
 obtain ⟨ae,r1,p1,_⟩:=I.tuple ha
 obtain ⟨fe,r2,p2,_⟩:=I.tuple hb
 have l1:=r1.length
 have l2:=r2.length
 refine PySem.EqBoolInt.of_rcne (SeqAt.RcNeAt.tuples (e:=fun _=>true) (show s.heap.IsTuple a ae.toArray from p1) (show s.heap.IsTuple b fe.toArray from p2) (by omega) fun j h1 h2=>?_) ?_
 ·obtain ⟨x,hx,rx⟩:=dI r1 j h1
  obtain ⟨y,hy,ry⟩:=dI r2 j h2
  exact zL I (he j x y hx hy) (A:=X.A.in1) (by show X.A.units+1+8 < cLine;omega) rx ry
 ·rw [all_true,Bool.true_and]
  have e:(ae.toArray.size == fe.toArray.size)=decide (xs.length=ys.length):=by rw [l1,l2,List.size_toArray,List.size_toArray,Bool.eq_iff_iff];simp
  rw [e]
  exact ⟨.bl _,H,I,rfl,q⟩
end
end L2
namespace L2
open PySem PySem.Spec PyProof.Rows
def ent:Option Int→V
 | none=>.bq
 | some n=>.int n
theorem A0 (e:Option Int):An (ent e)=true:=by cases e <;> rfl
theorem LV (x y:Option Int):Ke (ent x) (ent y)=decide (x=y):=by
 cases x <;> cases y
 ·rfl
 ·rfl
 ·rfl
 ·rename_i a b
  show (a == b)=_
  by_cases h:a=b <;> simp [h]
theorem Ip:∀ (x y:List (Option Int)),((List.range (min x.length y.length)).all (fun j=>decide ((x[j]?).getD none=(y[j]?).getD none)) && (x.length == y.length))=decide (x=y)
 | x,y=>by
  by_cases h:x=y
  ·subst h;simp
  ·rw [decide_eq_false h]
   by_cases hl:x.length=y.length
   ·rw [Bool.and_eq_false_iff]
    left
    rw [List.all_eq_false]
    apply Classical.byContradiction
    intro hn
    apply h
    apply List.ext_getElem?
    intro j
    by_cases hj:j < x.length
    ·have Kg:j < y.length:=by omega
     have:=Classical.byContradiction fun hz=>hn ⟨j,List.mem_range.mpr (by omega),hz⟩
     have e:=of_decide_eq_true this
     simp only [List.getElem?_eq_getElem hj,List.getElem?_eq_getElem Kg,Option.getD_some] at e ⊢
     rw [e]
    ·rw [List.getElem?_eq_none (by omega),List.getElem?_eq_none (by omega)]
   ·simp [hl]
section
variable {X:Cx} {pins:List (Addr × Obj)} {σ:St} {H:Hp} {s:Shared}
end
section
variable {X:Cx}
end
end L2
namespace L2
open PySem PySem.Spec PyProof.Rows
structure Std where
 ah:Int
 rs:Int
 se:List (Option Int)
 to:List (Option Int)
deriving DecidableEq
structure iD (K:PySem.W.Frag) (H:Hp) (a:Addr) (s:Std):Prop where
 ex:∃ b c,cP K H a [.int s.ah,.int s.rs,.ref b,.ref c]∧cP K H b (s.se.map ent)∧cP K H c (s.to.map ent)
theorem iD.same {K:PySem.W.Frag} {H H':Hp} {a:Addr} {s:Std} (h:iD K H a s) (e:aI H H'):iD K H' a s:=by
 obtain ⟨b,c,h1,h2,h3⟩:=h.ex
 exact ⟨b,c,e.tup h1,e.tup h2,e.tup h3⟩
def fq (h:Heap) (x:List (Option Int)) (a:Addr):Prop:=∃ ae:List Value,aq (x.map ent) ae∧h.IsTuple a ae.toArray
def gy (h:Heap) (s:Std) (a:Addr):Prop:=∃ (b c:Addr) (t t':Tok),h.IsTuple a #[.int s.ah t,.int s.rs t',.ref b,.ref c]∧fq h s.se b∧fq h s.to c
def qi:Int:=0xFCA86420
def ud:Option Int→Int
 | some k=>hashInt k
 | none=>qi
def lG (x:List (Option Int)):Int:=reduceHash (Builtin.Tuple.tupleHashOf (x.map ud))
def zN (s:Std):Int:=reduceHash (Builtin.Tuple.tupleHashOf [hashInt s.ah,hashInt s.rs,lG s.se,lG s.to])
theorem FA {h:Heap} {a:Addr} {x y:Array Value} (hx:h.IsTuple a x) (hy:h.IsTuple a y):x=y:=by
 obtain ⟨o,ho,_,n,hd⟩:=hx
 obtain ⟨o',AO,_,n',yt⟩:=hy
 rw [ho] at AO
 obtain rfl:=Option.some.inj AO
 rw [hd] at yt
 injection yt with h1 _
theorem A1:∀ {x y:List (Option Int)} {vs:List Value},aq (x.map ent) vs→aq (y.map ent) vs→x=y
 | [],[],_,_,_=>rfl
 | [],_ :: _,_,.nil,h=>by cases h
 | _ :: _,[],_,h,.nil=>by cases h
 | a :: x,b :: y,_,.cons r t,.cons r' t'=>by
  rw [A1 t t']
  congr 1
  cases a with
  | none =>
   cases b with
   | none=>rfl
   | some j=>cases (show _=Value.none from r);obtain ⟨_,e⟩:=(show ∃ t,Value.none=Value.int j t from r');cases e
  | some i =>
   obtain ⟨u,rfl⟩:=(show ∃ t,_=Value.int i t from r)
   cases b with
   | none=>have e:=(show Value.int i u=Value.none from r');cases e
   | some j=>obtain ⟨_,e⟩:=(show ∃ t,Value.int i u=Value.int j t from r');cases e;rfl
theorem fq.inj {h:Heap} {a:Addr} {x y:List (Option Int)} (hx:fq h x a) (hy:fq h y a):x=y:=by
 obtain ⟨ae,r,ht⟩:=hx
 obtain ⟨its',r',ht'⟩:=hy
 have e:=FA ht ht'
 have e':ae=its':=by simpa using congrArg Array.toList e
 subst e'
 exact A1 r r'
theorem gy.inj {h:Heap} {a:Addr} {x y:Std} (hx:gy h x a) (hy:gy h y a):x=y:=by
 obtain ⟨b,c,t,t',ht,h1,h2⟩:=hx
 obtain ⟨b',c',u,u',hu,k1,k2⟩:=hy
 have e:=congrArg Array.toList (FA ht hu)
 simp only [List.cons.injEq,and_true,Value.int.injEq,Value.ref.injEq] at e
 obtain ⟨⟨e1,_⟩,⟨e2,_⟩,rfl,rfl⟩:=e
 have e3:=h1.inj k1
 have e4:=h2.inj k2
 cases x;cases y
 simp only at e1 e2 e3 e4
 rw [e1,e2,e3,e4]
theorem vO {h h':Heap} {a d:Addr} {x:Array Value} {o:Obj} {es ep} (hx:h.IsTuple a x) (ho:h.get? d=some o) (hd:o.data=.dict es ep) (hs:Heap.SameBut d h h'):h'.IsTuple a x:=by
 obtain ⟨o',AO,hc,n,yt⟩:=hx
 have AS:a≠d:=by
  rintro rfl
  rw [ho] at AO
  obtain rfl:=Option.some.inj AO
  rw [hd] at yt
  exact nomatch yt
 exact ⟨o',(hs.2 a AS).trans AO,hc,n,yt⟩
section
variable {prog:Program} {w:World} {A:Around} {E:Value→Shared→Prop} {s:Shared}
theorem A2 {Q:Int→Shared→Prop} (h:Q qi { s with toks:=s.toks+1 }):wpAny (model prog w) A (pyHash .none) Q E s:=by
 have hT:=typeIs_none s
 unfold pyHash
 unfold pyHashByItsType
 have hv:[Value.none].any Value.onHeap=false:=rfl
 refine wpAny_bind ?_
 rw [cRoomFor,if_neg (by rw [hv];exact Bool.false_ne_true)];refine wpAny_pure ?_
 refine wpAny_bind (wpAny_specialOf hT F.slot_NoneType_hash.lookup ?_)
 refine (show wpAny _ _ (if (some (Value.builtin "NoneType.__hash__") == some Value.none)=true then _ else _) Q E s from ?_)
 rw [if_neg (by rw [beq_builtin_none];exact Bool.false_ne_true)]
 refine wpAny_bind (wpAny_specialOf hT F.slot_NoneType_hash.lookup ?_)
 refine (show wpAny _ _ (callSpecialIfBoundUnlessNone? Value.none "__hash__" _ >>= _) Q E s from ?_)
 refine wpAny_bind (wpAny_callSpecialIfBoundUnlessNone?_slot hT F.slot_NoneType_hash (wpAny_call_entry F.slot_NoneType_hash hT F.entry_NoneType_hash ?_ (F.args_NoneType_hash_1 _)))
 refine (show wpAny _ _ (do ret (← mkInt 0xFCA86420)) _ _ s from wpAny_ret_mkInt ?_)
 exact wpAny_pure h
theorem qj {a:Addr} {all:List (Value × Int × Nat)} {Q:Int→Shared→Prop} (hu:A.units < cLine) (ht:s.heap.IsTuple a (all.map (·.1)).toArray)
  (hi:∀ x ∈ all,∀ (tk:Nat) (Q:Int→Shared→Prop),Q x.2.1 { s with toks:=tk+x.2.2 }→wpAny (model prog w) A.in1 (pyHash x.1) Q E { s with toks:=tk })
  (h:Q (reduceHash (Builtin.Tuple.tupleHashOf (all.map (·.2.1)))) { s with toks:=s.toks+((all.map (·.2.2)).sum+1) }):wpAny (model prog w) A (pyHash (.ref a)) Q E s:=by
 have hT:s.TypeIs (.ref a) "tuple":=let ⟨o,ho,hc,_⟩:=ht;⟨o,ho,hc⟩
 obtain ⟨o,ho,_,n,hd⟩:=ht
 unfold pyHash
 unfold pyHashByItsType
 refine wpAny_bind (wpAny_cRoomFor_or (.inr hu) ?_)
 refine wpAny_bind (wpAny_specialOf hT F.slot_tuple_hash.lookup ?_)
 refine (show wpAny _ _ (if (some (Value.builtin "tuple.__hash__") == some Value.none)=true then _ else _) Q E s from ?_)
 rw [if_neg (by rw [beq_builtin_none];exact Bool.false_ne_true)]
 refine wpAny_bind (wpAny_specialOf hT F.slot_tuple_hash.lookup ?_)
 refine (show wpAny _ _ (callSpecialIfBoundUnlessNone? (.ref a) "__hash__" _ >>= _) Q E s from ?_)
 refine wpAny_bind (wpAny_callSpecialIfBoundUnlessNone?_slot hT F.slot_tuple_hash (wpAny_call_entry F.slot_tuple_hash hT F.entry_tuple_hash ?_ (F.args_tuple_hash_1 _)))
 refine (show wpAny _ _ (Builtin.Tuple.tupleItemsOf (.ref a) >>= _) _ _ s from wpAny_bind (wpAny_tupleItemsOf ho hd (wpAny_bind ?_)))
 rw [← Array.forIn_toList]
 refine wpAny_forIn_list _
  (fun rest (b:Array Int) s'=>∃ done left,all=done ++ left∧rest=left.map (·.1)∧b.toList=done.map (·.2.1)∧s'={ s with toks:=s.toks+(done.map (·.2.2)).sum })
  _ ?_ ?_ _ _ ⟨[],all,rfl,by simp,rfl,rfl⟩
 ·rintro x rest b s' ⟨done,left,rfl,hl,hb,rfl⟩
  match left,hl with
  | y :: Nb,hl =>
   rw [List.map_cons] at hl
   obtain ⟨rfl,rfl⟩:=List.cons.inj hl
   refine wpAny_bind (hi y (by simp) _ _ ?_)
   first
    | exact wpAny_pure ⟨done ++ [y],Nb,by simp,rfl,by simp [hb],by simp [Nat.add_assoc]⟩
    | exact wpAny_bind (wpAny_pure (wpAny_pure ⟨done ++ [y],Nb,by simp,rfl,by simp [hb],by simp [Nat.add_assoc]⟩))
 ·rintro b s' ⟨done,left,rfl,hl,hb,rfl⟩
  have:left=[]:=List.map_eq_nil_iff.mp hl.symm
  subst this
  rw [List.append_nil] at h
  refine (show wpAny _ _ (retInt (Builtin.Tuple.tupleHashOf b.toList)) _ _ _ from ?_)
  rw [hb]
  refine wpAny_ret_mkInt ?_
  refine (show wpAny _ _ (if (decide (-(2:Int) ^ 63≤Builtin.Tuple.tupleHashOf (done.map (·.2.1))) && decide (Builtin.Tuple.tupleHashOf (done.map (·.2.1)) < 2 ^ 63))=true then _ else _) Q E _ from ?_)
  unfold reduceHash at h
  by_cases hr:(decide (-(2:Int) ^ 63≤Builtin.Tuple.tupleHashOf (done.map (·.2.1))) && decide (Builtin.Tuple.tupleHashOf (done.map (·.2.1)) < 2 ^ 63))=true
  ·rw [if_pos hr]
   rw [if_pos hr] at h
   exact wpAny_pure (by simpa [Nat.add_assoc] using h)
  ·rw [if_neg hr]
   rw [if_neg hr] at h
   exact wpAny_bind (wpAny_rule (wpAny_pure (by simpa [Nat.add_assoc] using h)))
theorem vP {x:List (Option Int)} {a:Addr} {Q:Int→Shared→Prop} (hu:A.units < cLine) (hx:fq s.heap x a) (h:Q (lG x) { s with toks:=s.toks+(x.length+1) }):wpAny (model prog w) A (pyHash (.ref a)) Q E s:=by
 obtain ⟨ae,r,ht⟩:=hx
 have hl:=r.length
 rw [List.length_map] at hl
 have sums:∀ {x:List (Option Int)} {ae:List Value},aq (x.map ent) ae→∃ all:List (Value × Int × Nat),all.map (·.1)=ae∧all.map (·.2.1)=x.map ud∧(all.map (·.2.2)).sum=x.length∧∀ y ∈ all,y.2.2=1∧((y.1=.none∧y.2.1=qi)∨∃ i t,y.1=.int i t∧y.2.1=hashInt i):=by
  intro x
  induction x with
  | nil=>intro ae r;cases r;exact ⟨[],rfl,rfl,rfl,fun y hy=>by cases hy⟩
  | cons e x ih =>
   intro ae r
   cases r with
   | cons r t =>
    obtain ⟨all,a1,a2,a3,a4⟩:=ih t
    cases e with
    | none =>
     cases (show _=Value.none from r)
     refine ⟨(.none,qi,1) :: all,by simp [a1],by simp [a2,ud],by simp [a3];omega,fun y hy=>?_⟩
     rcases List.mem_cons.mp hy with rfl | hy
     ·exact ⟨rfl,.inl ⟨rfl,rfl⟩⟩
     ·exact a4 y hy
    | some i =>
     obtain ⟨u,rfl⟩:=(show ∃ t,_=Value.int i t from r)
     refine ⟨(.int i u,hashInt i,1) :: all,by simp [a1],by simp [a2,ud],by simp [a3];omega,fun y hy=>?_⟩
     rcases List.mem_cons.mp hy with rfl | hy
     ·exact ⟨rfl,.inr ⟨i,u,rfl,rfl⟩⟩
     ·exact a4 y hy
 obtain ⟨all,a1,a2,a3,a4⟩:=sums r
 refine qj (all:=all) hu (by rw [a1];exact ht) (fun y hy tk Q' hq=>?_) (by rw [a2,a3];exact h)
 obtain ⟨e1,e2⟩:=a4 y hy
 rw [e1] at hq
 rcases e2 with ⟨e3,e4⟩ | ⟨i,t,e3,e4⟩
 ·rw [e3];rw [e4] at hq;exact A2 hq
 ·rw [e3];rw [e4] at hq;exact wpAny_pyHash_int hq
theorem Cn {x:Std} {a:Addr} {Q:Int→Shared→Prop} (hu:A.units+1 < cLine) (hx:gy s.heap x a) (h:Q (zN x) { s with toks:=s.toks+(x.se.length+x.to.length+5) }):wpAny (model prog w) A (pyHash (.ref a)) Q E s:=by
 obtain ⟨b,c,t,t',ht,h1,h2⟩:=hx
 refine qj (all:=[(.int x.ah t,hashInt x.ah,1),(.int x.rs t',hashInt x.rs,1),(.ref b,lG x.se,x.se.length+1),(.ref c,lG x.to,x.to.length+1)]) (by omega) ht (fun y hy tk Q' hq=>?_) ?_
 ·simp only [List.mem_cons,List.not_mem_nil,or_false] at hy
  rcases hy with rfl | rfl | rfl | rfl
  ·exact wpAny_pyHash_int hq
  ·exact wpAny_pyHash_int hq
  ·exact vP (by show A.units+1 < cLine;exact hu) h1 hq
  ·exact vP (by show A.units+1 < cLine;exact hu) h2 hq
 ·have e:(([(.int x.ah t,hashInt x.ah,1),(.int x.rs t',hashInt x.rs,1),(.ref b,lG x.se,x.se.length+1),(.ref c,lG x.to,x.to.length+1)]:List (Value × Int × Nat)).map (·.2.2)).sum+1=x.se.length+x.to.length+5:=by simp;omega
  rw [e]
  exact h
theorem rowAt {x y:List (Option Int)} {a b:Addr} (hu:A.units < cLine) (hx:fq s.heap x a) (hy:fq s.heap y b):SeqAt.EqAt A s (.ref a) (.ref b) (decide (x=y)):=by
 by_cases Eu:a=b
 ·subst Eu
  rw [decide_eq_true (hx.inj hy)]
  exact SeqAt.EqAt.same _
 ·obtain ⟨ae,r1,p1⟩:=hx
  obtain ⟨fe,r2,p2⟩:=hy
  have l1:=r1.length
  have l2:=r2.length
  rw [List.length_map] at l1 l2
  refine SeqAt.EqAt.of_refs Eu ?_
  have q:=SeqAt.RcAt.tuples (A:=A) (s:=s) (e:=fun j=>decide ((x[j]?).getD none=(y[j]?).getD none)) p1 p2 hu fun j h1 h2=>?_
  ·rw [List.size_toArray,List.size_toArray,← l1,← l2,Ip] at q
   exact q
  ·obtain ⟨u,hx,rx⟩:=dI r1 j h1
   obtain ⟨v,hy,ry⟩:=dI r2 j h2
   rw [List.getElem?_map] at hx hy
   cases ex:x[j]? with
   | none=>rw [ex] at hx;cases hx
   | some eu =>
    cases ey:y[j]? with
    | none=>rw [ey] at hy;cases hy
    | some ev =>
     rw [ex] at hx
     rw [ey] at hy
     obtain rfl:ent eu=u:=Option.some.inj hx
     obtain rfl:ent ev=v:=Option.some.inj hy
     have:=pI (A:=A.in1) (s:=s) rx ry (A0 eu) (A0 ev)
     rw [LV] at this
     exact this
theorem R5 {x y:Std} {a b:Addr} (hu:A.units+1 < cLine) (hx:gy s.heap x a) (hy:gy s.heap y b):SeqAt.EqAt A s (.ref a) (.ref b) (decide (x=y)):=by
 by_cases Eu:a=b
 ·subst Eu
  rw [decide_eq_true (hx.inj hy)]
  exact SeqAt.EqAt.same _
 ·obtain ⟨b1,c1,t1,u1,p1,g1,g2⟩:=hx
  obtain ⟨b2,c2,t2,u2,p2,k1,k2⟩:=hy
  refine SeqAt.EqAt.of_refs Eu ?_
  have q:=SeqAt.RcAt.tuples (A:=A) (s:=s) (e:=fun j=>if j=0 then (x.ah == y.ah) else if j=1 then (x.rs == y.rs) else if j=2 then decide (x.se=y.se) else decide (x.to=y.to)) p1 p2 (by omega) fun j h1 h2=>?_
  ·have e:((List.range (min 4 4)).all (fun j=>if j=0 then (x.ah == y.ah) else if j=1 then (x.rs == y.rs) else if j=2 then decide (x.se=y.se) else decide (x.to=y.to)) && ((4:Nat) == 4))=decide (x=y):=by
    have e4:List.range (min 4 4)=[0,1,2,3]:=rfl
    rw [e4]
    cases x;cases y
    rw [Bool.eq_iff_iff]
    simp
   exact e ▸ q
  ·match j,h1,h2 with
   | 0,_,_=>exact SeqAt.EqAt.int_int _ _ _ _
   | 1,_,_=>exact SeqAt.EqAt.int_int _ _ _ _
   | 2,_,_=>exact rowAt (by show A.units+1 < cLine;exact hu) g1 k1
   | 3,_,_=>exact rowAt (by show A.units+1 < cLine;exact hu) g2 k2
   | j+4,h1,_=>exact absurd h1 (by show ¬ (j+4 < 4);omega)
theorem tz (n:Nat) {a:Addr} {items:Array Value} {Q:Bool→Shared→Prop} (ht:s.heap.IsTuple a items) (hi:∀ v ∈ items.toList,∀ Q:Bool→Shared→Prop,Q true s→wpAny (model prog w) A (eqIsQuiet n v) Q E s) (h:Q true s):wpAny (model prog w) A (eqIsQuiet (n+1) (.ref a)) Q E s:=by
 have hT:s.TypeIs (.ref a) "tuple":=let ⟨o,ho,hc,_⟩:=ht;⟨o,ho,hc⟩
 obtain ⟨o,ho,_,m,hd⟩:=ht
 unfold eqIsQuiet
 refine wpAny_bind (wpAny_specialOf hT F.slot_tuple_eq.lookup ?_)
 refine (show wpAny _ _ (isInstance (.ref a) (.type "tuple") >>= _) _ _ s from wpAny_bind (wpAny_isInstance hT isSubtype_tuple_tuple ?_))
 simp only [Bool.not_true,Bool.false_eq_true,if_false]
 refine wpAny_bind (wpAny_seqItems ho hd (wpAny_bind ?_))
 refine (show wpAny _ _ (forIn items _ _) _ _ s from ?_)
 rw [← Array.forIn_toList]
 refine wpAny_forIn_list _ (fun rest r s'=>r.1=none∧s'=s∧∀ v ∈ rest,v ∈ items.toList) _ ?_ ?_ _ _ ⟨rfl,rfl,fun v hv=>hv⟩
 ·rintro v rest r s' ⟨hr,rfl,Cb⟩
  refine wpAny_bind (hi v (Cb v List.mem_cons_self) _ ?_)
  simp only [Bool.not_true,Bool.false_eq_true,if_false]
  exact wpAny_pure ⟨rfl,rfl,fun u V1=>Cb u (List.mem_cons_of_mem _ V1)⟩
 ·rintro ⟨r1,r2⟩ s' ⟨hr,rfl,_⟩
  simp only at hr
  subst hr
  exact wpAny_pure h
theorem yW (n:Nat) {x:List (Option Int)} {a:Addr} {Q:Bool→Shared→Prop} (hx:fq s.heap x a) (h:Q true s):wpAny (model prog w) A (eqIsQuiet (n+1) (.ref a)) Q E s:=by
 obtain ⟨ae,r,ht⟩:=hx
 refine tz n ht (fun v hv Q' hq=>?_) h
 have hb:carriedByValue v=true:=by
  have RL:v ∈ ae:=by simpa using hv
  clear hv
  have all:∀ {x:List (Option Int)} {ae:List Value},aq (x.map ent) ae→∀ v ∈ ae,carriedByValue v=true:=by
   intro x
   induction x with
   | nil=>intro ae r v hv;cases r;cases hv
   | cons e x ih =>
    intro ae r v hv
    cases r with
    | cons r t =>
     rcases List.mem_cons.mp hv with rfl | hv
     ·cases e with
      | none=>cases (show v=Value.none from r);rfl
      | some i=>obtain ⟨u,rfl⟩:=(show ∃ t,v=Value.int i t from r);rfl
     ·exact ih t v hv
  exact all r v RL
 rw [eqIsQuiet_byValue _ hb]
 exact wpAny_pure hq
theorem GQ {x:Std} {a:Addr} {Q:Bool→Shared→Prop} (hx:gy s.heap x a) (h:Q true s):wpAny (model prog w) A (eqIsQuiet 8 (.ref a)) Q E s:=by
 obtain ⟨b,c,t,t',ht,h1,h2⟩:=hx
 refine tz 7 ht (fun v hv Q' hq=>?_) h
 simp only [List.mem_cons,List.not_mem_nil,or_false] at hv
 rcases hv with rfl | rfl | rfl | rfl
 ·rw [eqIsQuiet_byValue _ rfl];exact wpAny_pure hq
 ·rw [eqIsQuiet_byValue _ rfl];exact wpAny_pure hq
 ·exact yW 6 h1 hq
 ·exact yW 6 h2 hq
end
def FC (prog:Program) (w:World):HeapKind prog w Std where
 is:=gy
 hash:=zN
 draws:=fun x=>x.se.length+x.to.length+5
 room:=fun A=>A.units+1 < cLine
 inj:=fun hx hy=>hx.inj hy
 keeps:=fun {h h' k a d o es ep} hx ho hd hs=>by
  obtain ⟨b,c,t,t',ht,⟨i1,r1,p1⟩,⟨i2,r2,p2⟩⟩:=hx
  exact ⟨b,c,t,t',vO ht ho hd hs,⟨i1,r1,vO p1 ho hd hs⟩,⟨i2,r2,vO p2 ho hd hs⟩⟩
 pyHash:=fun hu hk h=>Cn hu hk h
 eqBool:=fun hu hx hy h=>R5 hu hx hy _ _ _ _ h
 quiet:=fun hk h=>GQ hk h
end L2
namespace L2
open PySem PySem.Spec PyProof.Rows
abbrev SX:=List (Std × Addr × V)
def Iq (q:Std × Addr × Value):DictEntry:=⟨zN q.1,.ref q.2.1,q.2.2⟩
abbrev P3:SX→List (Std × Addr × Value)→Prop:=Paired fun p q=>p.1=q.1∧p.2.1=q.2.1∧RelV p.2.2 q.2.2
def DSφ (a:Addr) (xs:SX) (h:Heap):Prop:=xs.length≤sizeLine∧(a == sysModules)=false∧(xs.map (·.1)).Nodup∧∃ vs:List (Std × Addr × Value),P3 xs vs∧∃ o es ep,h.get? a=some o∧o.ExactDict∧o.data=.dict es ep∧es.toList=vs.map Iq
def DS (a:Addr) (xs:SX):HO:=.ext (DSφ a xs)
def A3 (xs:SX) (k:Std):Option V:=(xs.find? fun x=>decide (x.1=k)).map (·.2.2)
def GR (xs:SX) (k:Std) (b:Addr) (v:V):SX:=if (A3 xs k).isSome then xs.map (fun x=>if x.1=k then (x.1,x.2.1,v) else x) else xs ++ [(k,b,v)]
theorem P3.val {xs:SX} {vs:List (Std × Addr × Value)} (r:P3 xs vs) (k:Std):mh (A3 xs k) ((atKey vs k).map (·.2)):=by
 induction r with
 | nil=>exact True.intro
 | @cons p q ps qs h t ih =>
  obtain ⟨h1,_,h2⟩:=h
  by_cases e:p.1=k
  ·have e':q.1=k:=h1.symm.trans e
   have b:atKey (q :: qs) k=some q.2:=by simp [atKey,List.find?_cons,e']
   have b':A3 (p :: ps) k=some p.2.2:=by simp [A3,List.find?_cons,e]
   rw [b',b];exact h2
  ·have e':¬ q.1=k:=fun z=>e (h1.trans z)
   have b:atKey (q :: qs) k=atKey qs k:=by simp [atKey,List.find?_cons,e']
   have b':A3 (p :: ps) k=A3 ps k:=by simp [A3,List.find?_cons,e]
   rw [b',b];exact ih
theorem P3.Ik {xs:SX} {vs:List (Std × Addr × Value)} (r:P3 xs vs) (k:Std) {y:V} {u:Value} (ry:RelV y u) :
  P3 (xs.map fun x=>if x.1=k then (x.1,x.2.1,y) else x) (vs.map (putAt k u)):=by
 induction r with
 | nil=>exact .nil
 | @cons p q ps qs h t ih =>
  rw [List.map_cons,List.map_cons]
  refine .cons ?_ ih
  obtain ⟨h1,h2,h3⟩:=h
  unfold putAt
  by_cases e:p.1=k
  ·rw [if_pos e,if_pos (h1.symm.trans e)];exact ⟨h1,h2,ry⟩
  ·rw [if_neg e,if_neg (fun z=>e (h1.trans z))];exact ⟨h1,h2,h3⟩
theorem P3.put {xs:SX} {vs:List (Std × Addr × Value)} (r:P3 xs vs) (k:Std) (b:Addr) {y:V} {u:Value} (ry:RelV y u):P3 (GR xs k b y) (storedH vs k b u):=by
 have e:(A3 xs k).isSome=(atKey vs k).isSome:=by rw [(r.val k).yU,Option.isSome_map]
 unfold GR storedH
 rw [e]
 by_cases q:(atKey vs k).isSome=true
 ·rw [if_pos q,if_pos q];exact r.Ik k ry
 ·rw [if_neg q,if_neg q];exact Paired.snoc r ⟨rfl,rfl,ry⟩
theorem P3.keys {xs:SX} {vs:List (Std × Addr × Value)} (r:P3 xs vs):xs.map (·.1)=vs.map (·.1):=by
 induction r with
 | nil=>rfl
 | cons h t ih=>rw [List.map_cons,List.map_cons,ih,h.1]
structure SD (K:PySem.W.Frag) (H:Hp) (a:Addr) (xs:SX):Prop where
 at_:H a=some (DS a xs)
 keys:∀ p ∈ xs,iD K H p.2.1 p.1
section
variable {X:Cx} {pins:List (Addr × Obj)} {σ:St} {H:Hp} {s:Shared} {a:Addr} {xs:SX} {A:Around} {E:Value→Shared→Prop}
theorem Nd (I:Inv X pins σ H s) {b:Addr} {x:List (Option Int)} (h:cP X.K H b (x.map ent)):fq s.heap x b:=by
 obtain ⟨ae,r,ht,_⟩:=I.tuple h
 exact ⟨ae,r,ht⟩
theorem Ir (I:Inv X pins σ H s) {b:Addr} {k:Std} (h:iD X.K H b k):gy s.heap k b:=by
 obtain ⟨p,q,h1,h2,h3⟩:=h.ex
 obtain ⟨ae,r,ht,_⟩:=I.tuple h1
 cases r with
 | cons r1 r =>
  cases r with
  | cons r2 r =>
   cases r with
   | cons r3 r =>
    cases r with
    | cons r4 r =>
     cases r
     obtain ⟨t,rfl⟩:=r1
     obtain ⟨t',rfl⟩:=r2
     cases r3
     cases r4
     exact ⟨p,q,t,t',ht,Nd I h2,Nd I h3⟩
theorem iD.inj (I:Inv X pins σ H s) {b:Addr} {k k':Std} (h:iD X.K H b k) (h':iD X.K H b k'):k=k':=(Ir I h).inj (Ir I h')
theorem SD.raw (I:Inv X pins σ H s) (d:H a=some (DS a xs)):DSφ a xs s.heap:=(I.cn a _ d).1
theorem SD.dict (I:Inv X pins σ H s) (d:SD X.K H a xs):xs.length≤sizeLine∧(a == sysModules)=false∧(xs.map (·.1)).Nodup∧∃ vs,P3 xs vs∧s.heap.DictOfH (FC X.prog X.w) a vs:=by
 obtain ⟨z,hd,hn,vs,r,o,es,ep,h1,h2,h3,h4⟩:=SD.raw I d.at_
 refine ⟨z,hd,hn,vs,r,o,es,ep,h1,h2,h3,h4,?_,by rw [← r.keys];exact hn⟩
 have all:∀ {l:SX} {m:List (Std × Addr × Value)},P3 l m→(∀ p ∈ l,iD X.K H p.2.1 p.1)→∀ x ∈ m,(FC X.prog X.w).is s.heap x.1 x.2.1:=by
  intro l m q
  induction q with
  | nil=>intro _ x hx;exact nomatch hx
  | @cons p q ps qs hq t ih =>
   intro hl x hx
   rcases List.mem_cons.mp hx with e | hx
   ·subst e
    rw [← hq.1,← hq.2.1]
    exact Ir I (hl p List.mem_cons_self)
   ·exact ih (fun p hp=>hl p (List.mem_cons_of_mem _ hp)) x hx
 exact all r d.keys
end
section
variable {X:Cx}
variable {o i value:Expr} {pos pos':Pos} {td ty tv:TE}
end
end L2
namespace L2
open PySem PySem.Spec PyProof.Rows
def A4 (d:Addr) (es:Array DictEntry) (ep:Nat) (h:Heap):Prop:=∃ o,h.get? d=some o∧o.ExactDict∧o.data=.dict es ep
theorem A4.typeIs {s:Shared} {d:Addr} {es:Array DictEntry} {ep:Nat} (x:A4 d es ep s.heap):s.TypeIs (.ref d) "dict":=let ⟨o,ho,hc,_⟩:=x;⟨o,ho,hc.1⟩
theorem A4.lt {h:Heap} {d:Addr} {es:Array DictEntry} {ep:Nat} (x:A4 d es ep h):d < h.objs.size:=let ⟨_,ho,_⟩:=x;Heap.lt_size ho
theorem A4.at_ {h h':Heap} {d:Addr} {es:Array DictEntry} {ep:Nat} (x:A4 d es ep h) (e:∀ o,h.get? d=some o→h'.get? d=some o):A4 d es ep h':=let ⟨o,ho,r⟩:=x;⟨o,e _ ho,r⟩
section
variable {prog:Program} {w:World} {A:Around} {E:Value→Shared→Prop} {s:Shared} {d:Addr} {es:Array DictEntry} {ep:Nat}
end
section
variable {prog:Program} {w:World} {A:Around} {E:Value→Shared→Prop} {s:Shared} {d:Addr} {es:Array DictEntry} {ep:Nat}
end
section
variable {X:Cx}
end
end L2
namespace L2
open PySem PySem.Spec PyProof.Rows
theorem fq.at_ {h h':Heap} {x:List (Option Int)} {a:Addr} (r:fq h x a) (k:∀ b o,h.get? b=some o→h'.get? b=some o):fq h' x a:=by
 obtain ⟨ae,r,o,ho,z⟩:=r
 exact ⟨ae,r,o,k _ _ ho,z⟩
theorem gy.at_ {h h':Heap} {x:Std} {a:Addr} (r:gy h x a) (k:∀ b o,h.get? b=some o→h'.get? b=some o):gy h' x a:=by
 obtain ⟨b,c,t,t',⟨o,ho,z⟩,h1,h2⟩:=r
 exact ⟨b,c,t,t',⟨o,k _ _ ho,z⟩,h1.at_ k,h2.at_ k⟩
abbrev RQ:=Addr × Std × Addr × Value
section
variable {prog:Program} {w:World} {A:Around} {h0:Heap} {d it l:Addr} {L:List RQ}
end
section
variable {X:Cx} {pins:List (Addr × Obj)} {σ:St} {H:Hp} {s:Shared}
end
end L2
namespace L2
open PySem PySem.Spec PyProof.Rows
theorem SD.same {K:PySem.W.Frag} {H H':Hp} {a:Addr} {xs:SX} (h:SD K H a xs) (e:aI H H'):SD K H' a xs:=⟨e _ _ h.at_,fun p hp=>(h.keys p hp).same e⟩
theorem zO {K:PySem.W.Frag} {H:Hp} {l a:Addr} {o' o:HO} {xs:List V} (hl:H l=some o') (hn:∀ ys,o'≠.tup ys) (hf:∀ u ys,o'≠.yC u (.tup ys)) (h:cP K H a xs):cP K (upd H l o) a xs:=by
 rcases h with (h | ⟨u,h⟩) | h
 ·exact .inl (.inl (by rw [aE (fun z=>by rw [z,hl] at h;exact hn _ (Option.some.inj h))];exact h))
 ·exact .inl (.inr ⟨u,by rw [aE (fun z=>by rw [z,hl] at h;exact hf _ _ (Option.some.inj h))];exact h⟩)
 ·exact .inr h
theorem iD.WC {K:PySem.W.Frag} {H:Hp} {l a:Addr} {ys:SX} {o:HO} {s:Std} (h:iD K H a s) (hl:H l=some (DS l ys)):iD K (upd H l o) a s:=by
 obtain ⟨b,c,h1,h2,h3⟩:=h.ex
 have n1:∀ zs,DS l ys≠.tup zs:=fun _ e=>nomatch e
 have n2:∀ u zs,DS l ys≠.yC u (.tup zs):=fun _ _ e=>nomatch e
 exact ⟨b,c,zO hl n1 n2 h1,zO hl n1 n2 h2,zO hl n1 n2 h3⟩
theorem xG {K:PySem.W.Frag} {H:Hp} {xs:SX} {k:Std} {b:Addr} {v:V} (h:∀ p ∈ xs,iD K H p.2.1 p.1) (hb:iD K H b k):∀ p ∈ GR xs k b v,iD K H p.2.1 p.1:=by
 intro p hp
 unfold GR at hp
 split at hp
 ·rw [List.mem_map] at hp
  obtain ⟨q,hq,rfl⟩:=hp
  split
  ·exact h q hq
  ·exact h q hq
 ·rcases List.mem_append.mp hp with hp | hp
  ·exact h p hp
  ·rw [List.mem_singleton.mp hp];exact hb
theorem SD.put {K:PySem.W.Frag} {H:Hp} {a b:Addr} {xs:SX} {k:Std} {v:V} (h:SD K H a xs) (hb:iD K H b k):SD K (upd H a (DS a (GR xs k b v))) a (GR xs k b v) :=
 ⟨aB,fun p hp=>(xG h.keys hb p hp).WC h.at_⟩
section
variable {X:Cx} {pins:List (Addr × Obj)} {σ:St} {H:Hp} {s:Shared}
end
section
variable {X:Cx}
end
end L2
namespace L2
open PySem PySem.Spec PyProof.Rows
end L2
namespace L2
open PySem PySem.Spec PyProof.Rows
def R6 (K:PySem.W.Frag):R2:=fun x y H Q=>VS x y H Q∨R4 K x y H Q
theorem O8 {X:Cx} (K:PySem.W.Frag) (hu:X.A.units+16 < cLine) (hK:X.K=K:=by rfl):kr X (compareOp .NotEq) (R6 K):=by
 intro pins s σ H x y v u Q I rx ry h
 rcases h with h | h
 ·exact yF pins s σ H x y v u Q I rx ry h
 ·exact LU K hu hK pins s σ H x y v u Q I rx ry h
end L2
namespace L2
open PySem PySem.Spec PyProof.Rows
abbrev XT:=List (List Key × Addr × Value)
structure O9 (P:Program) (w:World) (H:Hp) (d:Addr) (bQ:List (List Key × V)) (u:HO) (bs:Nat→Addr):Prop where
 z:bQ.length≤sizeLine
 sm:(d == sysModules)=false
 ks:∀ i k v,bQ[i]?=some (k,v)→H (bs i)=some (.tup (k.map kV))
 ex:∃ (xs:XT) (es:Array DictEntry) (ep:Nat),Paired (fun (p:List Key × V) (q:List Key × Addr × Value)=>p.1=q.1∧H q.2.1=some (.tup (p.1.map kV))∧RelV p.2 q.2.2) bQ xs ∧
  es.toList=xs.map (entryOfKey (tupleKind (uV P w)))∧(xs.map (·.1)).Nodup∧(∀ i x,xs[i]?=some x→bs i=x.2.1)∧u=.ext (A4 d es ep)
section
variable {X:Cx}
theorem O9.keep {P:Program} {w:World} {H H':Hp} {d:Addr} {bQ:List (List Key × V)} {u:HO} {bs:Nat→Addr} (h:O9 P w H d bQ u bs) (k:∀ a xs,H a=some (.tup xs)→H' a=some (.tup xs)):O9 P w H' d bQ u bs:=by
 obtain ⟨xs,es,ep,r,q⟩:=h.ex
 refine ⟨h.z,h.sm,fun i a v e=>k _ _ (h.ks i a v e),xs,es,ep,?_,q⟩
 clear q h
 induction r with
 | nil=>exact .nil
 | @cons p q ps qs hq t ih=>exact .cons ⟨hq.1,k _ _ hq.2.1,hq.2.2⟩ ih
end
section
variable {g:TG} {σ:St} {H:Hp}
end
section
variable {X:Cx}
end
end L2
namespace L2
open PySem PySem.Spec PyProof.Rows
section
variable {X:Cx} {pins:List (Addr × Obj)} {σ:St} {H:Hp} {s:Shared}
def vQ (a C:Addr) (h:Heap):Prop:=∃ t0:Addr,h.get? a=some { cls:=.ref C,data:=.fields #[.ref t0,.none,.none,.none,.bool false,.none] }
def qk (a C dx:Addr) (h:Heap):Prop:=∃ t0:Addr,h.get? a=some { cls:=.ref C,dict:=some dx,data:=.fields #[.ref t0,.none,.none,.none,.bool false,.none] }
theorem vQ.mono {a C:Addr} (h1 h2:Heap) (x:vQ a C h1) (k:∀ o,h1.get? a=some o→h2.get? a=some o):vQ a C h2:=let ⟨t,e⟩:=x;⟨t,k _ e⟩
theorem qk.mono {a C dx:Addr} (h1 h2:Heap) (x:qk a C dx h1) (k:∀ o,h1.get? a=some o→h2.get? a=some o):qk a C dx h2:=let ⟨t,e⟩:=x;⟨t,k _ e⟩
theorem vQ.at_ {a C:Addr} (h:Heap) (x:vQ a C h):ExcAt a C h:=let ⟨_,e⟩:=x;⟨_,_,e,rfl,rfl⟩
theorem qk.at_ {a C dx:Addr} (h:Heap) (x:qk a C dx h):ExcAt a C h:=let ⟨_,e⟩:=x;⟨_,_,e,rfl,rfl⟩
def Iu (H:Hp) (a C:Addr):Prop:=∃ φ:Heap→Prop,H a=some (.ext φ)∧∀ h,φ h→ExcAt a C h
theorem Iu.same {H H':Hp} {a C:Addr} (x:Iu H a C) (s:aI H H'):Iu H' a C:=let ⟨φ,e,f⟩:=x;⟨φ,s _ _ e,f⟩
end
end L2
namespace L2
open PySem PySem.Spec PyProof.Rows
abbrev LW:List Value:=[.type "ValueError",.type "Exception",.type "BaseException",.type "object"]
structure Nf (K:PySem.W.Frag) (C B f:Addr):Prop where
 lk:∃ nm q N bs sn sub ab col dd k0 k1 k2 k3 k5,K.lookup C=some (excClassObj nm q C N bs (.ref B :: LW) true sn sub ab col dd k0 k1 k2 k3 k5 "ValueError.__new__")
 par:PySem.W.excIn K B LW "ValueError.__new__"=true
 init:PySem.W.findIn K (.ref C) "__init__"=some (some (.ref f))
 fn:PySem.W.typeIn K (.ref f)=some (.type "function")
 kp:PySem.W.keepIn K (.ref C)=true
 sa:PySem.W.findIn K (.ref C) "__setattr__"=some (some (.builtin "object.__setattr__"))
theorem Nf.tail {K:PySem.W.Frag} {C B f:Addr} {h:Heap} (Z:Nf K C B f) (KX:K.In h):OwnTail h LW (.ref B :: LW):=by
 obtain ⟨tl,N,nm,q0,bs,hdct,sn,sub,ab,col,dd,k0,k1,k2,k3,k5,mN,hC,hN,Qd,T⟩:=(As (x:="") (mg:=fun _=>some (.ref B)) KX rfl Z.par).obj
 exact .own hC hN Qd .base
section
variable {prog:Program} {w:World} {A:Around} {E:Value→Shared→Prop} {h:Heap} {g:Array GenState} {d:Drawn} {t:Nat} {os:OsState} {K:PySem.W.Frag} {C B f:Addr}
end
section
variable {X:Cx} {CX:Ai} {k:Nat} {f C B:Addr} {fd:FuncData} {ps:List Str} {sp:Sp} {E:XK} {x:Str} {p pos:Pos} {e:Expr} {es:List Expr} {t:TA}
end
end L2
namespace L2
open PySem PySem.Spec PyProof.Rows
structure XUp (K:PySem.W.Frag) (B:Addr):Prop where
 sp:PySem.W.specialIn K (.ref B) "__getattribute__"=some (some (.builtin "type.__getattribute__"))
 rd:PySem.W.readsIn K B (.type "type")=true
 fd:PySem.W.findCls K (.ref B) (.type "type") "__init__"=some (.val (.builtin "ValueError.__init__"))
section
variable {X:Cx} {pins:List (Addr × Obj)} {σ:St} {H:Hp} {s:Shared} {C B f a:Addr}
end
section
variable {prog:Program} {w:World} {A:Around} {E:Value→Shared→Prop} {h:Heap} {g:Array GenState} {d:Drawn} {t:Nat} {os:OsState} {K:PySem.W.Frag} {a C B f dx:Addr} {name:Str} {v:Value} {mA:Str→Option Value}
end
section
variable {X:Cx}
end
end L2
namespace L2
open PySem PySem.Spec PyProof.Rows
section
variable {P:Program} {w:World} {K:PySem.W.Frag} {mg:Str→Option Value} {base:Heap}
theorem jh.pN {x qual:Str} {st:Stmt} {f:Addr} {fd:FuncData} {N ps:List Str} {k:Nat} {sp:Sp} (F:jh K x qual st f fd) (S:aS N ps (aG st)) (len:∀ vs H Q E,sp vs H Q E→vs.length=ps.length)
  (qa:∀ (f:Addr) (be:Value) (A:Around) (outer:List Env) (s:Shared) (H:Hp) (vs:List V) (Q:VK) (E:XK),dm k (A.deeper (envOfC qual (aG st) s.heap.objs.size f be))→sp vs H Q E →
   ∃ t,AQ (Ua P w K mg base N qual st f be A outer s H E) (bI st) t∧t { nx:=fun _ H'=>Q .bq H',rt:=Q } (start N vs) H):bV P w K mg base (iL P w) (k+1) f fd ps sp:=by
 obtain ⟨oc,od,kV,doc,pm,an,be,ct,Eg,rfl,lk,AR⟩:=F.ex
 exact Ef lk AR S len fun A outer s H vs Q E hr Eh=>qa f be A outer s H vs Q E hr Eh
end
end L2
namespace My
def P (a k:Int):Int:=a ^ k.toNat % 97
theorem R7 (a k:Int):0≤P a k:=Int.emod_nonneg _ (by decide)
theorem PB (a k:Int):P a k < 97:=Int.emod_lt_of_pos _ (by decide)
theorem R8:∀ n < 97,0 < n→n ^ 95 % 97 * n % 97=1∧0 < n ^ 95 % 97:=by decide
theorem Ng {a:Int} (h0:0 < a) (h1:a < 97):P a 95 * a % 97=1:=by
 obtain ⟨n,rfl⟩:∃ n:Nat,a=n:=⟨a.toNat,by omega⟩
 have h:=(R8 n (by omega) (by omega)).1
 show ((n:Int) ^ 95 % 97) * n % 97=1
 have:(((n ^ 95 % 97 * n % 97:Nat)):Int)=1:=by rw [h];rfl
 rw [← this];norm_cast
theorem GS {a:Int} (h0:0 < a) (h1:a < 97):0 < P a 95:=by
 obtain ⟨n,rfl⟩:∃ n:Nat,a=n:=⟨a.toNat,by omega⟩
 have h:=(R8 n (by omega) (by omega)).2
 show 0 < ((n:Int) ^ 95 % 97)
 have:(0:Int) < ((n ^ 95 % 97:Nat):Int):=by omega
 simpa using this
theorem A5 (x:Int) (n:Nat):(x % 97) ^ n % 97=x ^ n % 97:=by
 induction n with
 | zero=>simp
 | succ n ih=>rw [Int.pow_succ,Int.pow_succ,Int.mul_emod,ih,Int.emod_emod_of_dvd _ (Int.dvd_refl _),← Int.mul_emod]
theorem sq (q:Int):q ^ 2=q * q:=by rw [Int.pow_succ,Int.pow_succ];simp
theorem GU {p q a:Int} {l k:Int} (hl:0 < l) (ho:l % 2=1) (h:p * q ^ l.toNat % 97=P a k):(p * q % 97) * (q * q % 97) ^ (l / 2).toNat % 97=P a k:=by
 rw [← h]
 have e:l.toNat=2 * (l / 2).toNat+1:=by omega
 rw [e,Int.pow_succ,Int.pow_mul]
 rw [Int.mul_emod,Int.emod_emod_of_dvd _ (Int.dvd_refl _)]
 have e2:(q * q % 97) ^ (l / 2).toNat % 97=(q ^ 2) ^ (l / 2).toNat % 97:=by
  rw [sq]
  exact A5 _ _
 rw [e2,← Int.mul_emod]
 congr 1
 rw [Int.mul_assoc,Int.mul_comm q]
theorem Co {p q a:Int} {l k:Int} (hl:0 < l) (ho:l % 2≠1) (h:p * q ^ l.toNat % 97=P a k):p * (q * q % 97) ^ (l / 2).toNat % 97=P a k:=by
 rw [← h]
 have e:l.toNat=2 * (l / 2).toNat:=by omega
 rw [e,Int.pow_mul,Int.mul_emod]
 have e2:(q * q % 97) ^ (l / 2).toNat % 97=(q ^ 2) ^ (l / 2).toNat % 97:=by
  rw [sq]
  exact A5 _ _
 rw [e2,← Int.mul_emod]
theorem A6 {a k:Int}:(1:Int) * a ^ k.toNat % 97=P a k:=by rw [Int.one_mul];rfl
theorem GV {p q a k l:Int} (hl:l≤0) (p0:0≤p) (p1:p < 97) (h:p * q ^ l.toNat % 97=P a k):p=P a k:=by
 have e:l.toNat=0:=by omega
 rw [← h,e,Int.pow_zero,Int.mul_one];omega
end My
namespace My
def GW (a:Nat):Nat:=((List.range 96).find? fun s=>5 ^ s % 97 == a).getD 0
theorem vR:∀ a < 97,0 < a→GW a < 96∧5 ^ GW a % 97=a:=by decide +kernel
theorem LX:∀ s < 96,GW (5 ^ s % 97)=s:=by decide +kernel
theorem Cp (a:Nat) (ha:a < 97) (h0:0 < a) (s:Nat) (hs:s < GW a):5 ^ s % 97≠a:=by
 intro h
 have h1:=LX s (by have:=(vR a ha h0).1;omega)
 rw [h] at h1;omega
def ex (a:Int):Int:=GW a.toNat
theorem Iv (a:Int):0≤ex a:=Int.natCast_nonneg _
theorem R9 {a:Int} (h0:0 < a) (h1:a < 97):ex a≤95:=by
 have:=(vR a.toNat (by omega) (by omega)).1
 unfold ex;omega
def up (k:Int):Int:=5 ^ k.toNat % 97
theorem SE {a:Int} (h0:0 < a) (h1:a < 97):up (ex a)=a:=by
 have h:=(vR a.toNat (by omega) (by omega)).2
 unfold up ex
 rw [Int.toNat_natCast]
 have:((5 ^ GW a.toNat % 97:Nat):Int)=(a.toNat:Int):=by rw [h]
 rw [show a=(a.toNat:Int) by omega,Int.toNat_natCast,← this];norm_cast
theorem SF {a s:Int} (h0:0 < a) (h1:a < 97) (hs:0≤s) (hl:s < ex a):up s≠a:=by
 intro h
 have:=Cp a.toNat (by omega) (by omega) s.toNat (by unfold ex at hl;omega)
 apply this
 unfold up at h
 have h2:((5 ^ s.toNat % 97:Nat):Int)=a:=by rw [← h];norm_cast
 omega
theorem PC {a b:Int} (h0:0 < a) (h1:a < 97) (g0:0 < b) (g1:b < 97):0 < a * b % 97:=by
 have h:∀ a < 97,0 < a→∀ b < 97,0 < b→0 < (a * b % 97:Nat):=by decide +kernel
 have q:=h a.toNat (by omega) (by omega) b.toNat (by omega) (by omega)
 have:a * b=((a.toNat * b.toNat:Nat):Int):=by
  rw [Int.natCast_mul,Int.toNat_of_nonneg (by omega),Int.toNat_of_nonneg (by omega)]
 rw [this];omega
theorem LY {s r:Int} (hs:0≤s) (h:r=up s):r * 5 % 97=up (s+1):=by
 subst h
 unfold up
 have e:(s+1).toNat=s.toNat+1:=by omega
 rw [e,Int.pow_succ,Int.mul_emod,Int.emod_emod_of_dvd _ (Int.dvd_refl _),← Int.mul_emod]
theorem LZ:up 0=1:=by decide
end My
namespace My
def sumTo:Nat→(Nat→Int)→Int
 | 0,_=>0
 | n+1,f=>sumTo n f+f n
theorem bF {f g:Nat→Int}:∀ (n:Nat),(∀ j,j < n→f j=g j)→sumTo n f=sumTo n g
 | 0,_=>rfl
 | n+1,h=>by rw [sumTo,sumTo,bF n fun j hj=>h j (by omega),h n (by omega)]
theorem dG (c d:Int) (f g:Nat→Int):∀ (n:Nat),sumTo n (fun j=>c * f j+d * g j)=c * sumTo n f+d * sumTo n g
 | 0=>by simp [sumTo]
 | n+1=>by rw [sumTo,sumTo,sumTo,dG c d f g n];grind
theorem oV (c:Int) (f:Nat→Int) (n:Nat):sumTo n (fun j=>c * f j)=c * sumTo n f:=by
 have h:=dG c 0 f f n
 have e:sumTo n (fun j=>c * f j)=sumTo n (fun j=>c * f j+0 * f j):=bF n fun j _=>by grind
 rw [e,h];grind
theorem ft (f:Nat→Int):∀ (n:Nat),sumTo (n+1) f=f 0+sumTo n (fun j=>f (j+1))
 | 0=>by simp [sumTo]
 | n+1=>by rw [sumTo,ft f n,sumTo];omega
theorem pO {f:Nat→Int}:∀ (n:Nat),(∀ j,j < n→f j=0)→sumTo n f=0
 | 0,_=>rfl
 | n+1,h=>by rw [sumTo,pO n fun j hj=>h j (by omega),h n (by omega)];rfl
theorem sH {f:Nat→Int} (p:Nat):∀ (n:Nat),p < n→(∀ j,j < n→j≠p→f j=0)→sumTo n f=f p
 | 0,h,_=>by omega
 | n+1,h,hz=>by
  rw [sumTo]
  by_cases e:p=n
  ·subst e;rw [pO p fun j hj=>hz j (by omega) (by omega)];omega
  ·rw [sH p n (by omega) fun j hj hn=>hz j (by omega) hn,hz n (by omega) (by omega)];omega
theorem sI {f:Nat→Int} (p q:Nat):∀ (n:Nat),p < q→q < n→(∀ j,j < n→j≠p→j≠q→f j=0)→sumTo n f=f p+f q
 | 0,_,h,_=>by omega
 | n+1,La,h,hz=>by
  rw [sumTo]
  by_cases e:q=n
  ·subst e;rw [sH p q La fun j hj hn=>hz j (by omega) hn (by omega)]
  ·rw [sI p q n La (by omega) fun j hj hn hm=>hz j (by omega) hn hm,hz n (by omega) (by omega) (by omega)];omega
theorem fu {f:Nat→Int}:∀ (n:Nat),(∀ j,j < n→(97:Int) ∣ f j)→(97:Int) ∣ sumTo n f
 | 0,_=>⟨0,by simp [sumTo]⟩
 | n+1,h=>by rw [sumTo];exact Int.dvd_add (fu n fun j hj=>h j (by omega)) (h n (by omega))
def ip (n:Nat) (r z:Nat→Int):Int:=sumTo n fun j=>r j * z j
theorem Cq (n:Nat) (c d:Int) (r s z:Nat→Int):ip n (fun j=>c * r j+d * s j) z=c * ip n r z+d * ip n s z:=by
 unfold ip
 rw [← dG]
 exact bF n fun j _=>by grind
theorem A7 {n:Nat} {r s z:Nat→Int} (h:∀ j,j < n→(97:Int) ∣ r j - s j):(97:Int) ∣ ip n r z - ip n s z:=by
 have e:ip n r z - ip n s z=sumTo n fun j=>(r j - s j) * z j:=by
  have:=dG 1 (-1) (fun j=>r j * z j) (fun j=>s j * z j) n
  unfold ip
  rw [show sumTo n (fun j=>(r j - s j) * z j)=sumTo n (fun j=>1 * (r j * z j)+-1 * (s j * z j)) from bF n fun j _=>by grind,this];omega
 rw [e]
 exact fu n fun j hj=>Int.dvd_trans (h j hj) (Int.dvd_mul_right _ _)
abbrev me:=Nat→Nat→Int
def oW (m n:Nat) (a:me) (z:Nat→Int):Prop:=∀ i,i < m→(97:Int) ∣ ip n (a i) z
def ue (n:Nat) (a:me):Prop:=∀ z,oW n n a z→∀ j,j < n→(97:Int) ∣ z j
theorem oW.congr {m n:Nat} {a b:me} {z:Nat→Int} (h:∀ i j,i < m→j < n→(97:Int) ∣ a i j - b i j) (k:oW m n a z):oW m n b z:=fun i hi=>by
 have h1:=k i hi
 have h2:=A7 (n:=n) (z:=z) fun j hj=>h i j hi hj
 have:=Int.dvd_sub h1 h2
 rwa [show ip n (a i) z - (ip n (a i) z - ip n (b i) z)=ip n (b i) z by omega] at this
theorem oW.Cr {m n:Nat} {a b:me} {z:Nat→Int} (h:∀ i j,i < m→j < n→(97:Int) ∣ a i j - b i j):oW m n a z↔oW m n b z :=
 ⟨fun k=>k.congr h,fun k=>k.congr fun i j hi hj=>by have:=Int.dvd_neg.mpr (h i j hi hj);rwa [show -(a i j - b i j)=b i j - a i j by omega] at this⟩
theorem ue.congr {n:Nat} {a b:me} (h:∀ i j,i < n→j < n→(97:Int) ∣ a i j - b i j):ue n a↔ue n b:=by
 unfold ue
 constructor
 ·intro r z k;exact r z ((oW.Cr h).mpr k)
 ·intro r z k;exact r z ((oW.Cr h).mp k)
theorem SG:∀ n < 97,0 < n→n ^ 95 % 97 * n % 97=1:=by decide
theorem Iw {a:Int} (h:¬ (97:Int) ∣ a):∃ b:Int,(97:Int) ∣ a * b - 1:=by
 have h1:0 < a % 97:=by
  have:a % 97≠0:=fun e=>h (Int.dvd_of_emod_eq_zero e)
  omega
 have q:=SG (a % 97).toNat (by omega) (by omega)
 refine ⟨(((a % 97).toNat ^ 95 % 97:Nat):Int),?_⟩
 generalize (a % 97).toNat ^ 95 % 97=b at q
 have e1:((b * (a % 97).toNat % 97:Nat):Int)=1:=by rw [q];rfl
 have e2:((b:Int) * (a % 97)) % 97=1:=by
  rw [← e1];rw [Int.natCast_emod,Int.natCast_mul,Int.toNat_of_nonneg (by omega)];rfl
 have e3:a * (b:Int) % 97=1:=by rw [Int.mul_comm,Int.mul_emod,← e2,Int.mul_emod (b:Int) (a % 97),Int.emod_emod_of_dvd _ (Int.dvd_refl _)]
 omega
theorem prime {a b:Int} (h:(97:Int) ∣ a * b) (ha:¬ (97:Int) ∣ a):(97:Int) ∣ b:=by
 obtain ⟨c,hc⟩:=Iw ha
 have h1:(97:Int) ∣ c * (a * b):=Int.dvd_trans h (Int.dvd_mul_left _ _)
 have h2:(97:Int) ∣ (a * c - 1) * b:=Int.dvd_trans hc (Int.dvd_mul_right _ _)
 have:=Int.dvd_sub h1 h2
 rwa [show c * (a * b) - (a * c - 1) * b=b by grind] at this
def skip (p i:Nat):Nat:=if i < p then i else i+1
theorem ue.step {n p:Nat} {a:me} (hp:p≤n) (h0:¬ (97:Int) ∣ a p 0) :
  ue (n+1) a↔ue n (fun i j=>a (skip p i) (j+1) * a p 0 - a p (j+1) * a (skip p i) 0):=by
 have sk:∀ i,i < n→skip p i < n+1:=fun i hi=>by unfold skip;split <;> omega
 have red:∀ (i:Nat) (z:Nat→Int),ip n (fun j=>a (skip p i) (j+1) * a p 0 - a p (j+1) * a (skip p i) 0) (fun j=>z (j+1)) =
   a p 0 * ip (n+1) (a (skip p i)) z - a (skip p i) 0 * ip (n+1) (a p) z:=fun i z=>by
  have e1:ip (n+1) (a (skip p i)) z=a (skip p i) 0 * z 0+ip n (fun j=>a (skip p i) (j+1)) (fun j=>z (j+1)):=by unfold ip;rw [ft]
  have e2:ip (n+1) (a p) z=a p 0 * z 0+ip n (fun j=>a p (j+1)) (fun j=>z (j+1)):=by unfold ip;rw [ft]
  have e3:=Cq n (a p 0) (- a (skip p i) 0) (fun j=>a (skip p i) (j+1)) (fun j=>a p (j+1)) (fun j=>z (j+1))
  rw [e1,e2,show (fun j=>a (skip p i) (j+1) * a p 0 - a p (j+1) * a (skip p i) 0)=(fun j=>a p 0 * a (skip p i) (j+1)+-a (skip p i) 0 * a p (j+1)) from funext fun j=>by grind,e3]
  grind
 constructor
 ·intro r y k j hj
  obtain ⟨b,hb⟩:=Iw h0
  let z:Nat→Int:=fun j=>match j with
   | 0=>-(b * ip n (fun j=>a p (j+1)) y)
   | j+1=>y j
  have zt:(fun j=>z (j+1))=y:=rfl
  have kp:(97:Int) ∣ ip (n+1) (a p) z:=by
   have e2:ip (n+1) (a p) z=a p 0 * z 0+ip n (fun j=>a p (j+1)) (fun j=>z (j+1)):=by unfold ip;rw [ft]
   rw [e2,zt,show z 0=-(b * ip n (fun j=>a p (j+1)) y) from rfl]
   have:(97:Int) ∣ (a p 0 * b - 1) * -(ip n (fun j=>a p (j+1)) y):=Int.dvd_trans hb (Int.dvd_mul_right _ _)
   rwa [show (a p 0 * b - 1) * -(ip n (fun j=>a p (j+1)) y)=a p 0 * -(b * ip n (fun j=>a p (j+1)) y)+ip n (fun j=>a p (j+1)) y by grind] at this
  have ks:∀ i,i < n→(97:Int) ∣ ip (n+1) (a (skip p i)) z:=fun i hi=>by
   have h1:=k i hi
   have e:=red i z
   rw [zt] at e
   rw [e] at h1
   have h2:(97:Int) ∣ a (skip p i) 0 * ip (n+1) (a p) z:=Int.dvd_trans kp (Int.dvd_mul_left _ _)
   have h3:=Int.dvd_add h1 h2
   rw [show a p 0 * ip (n+1) (a (skip p i)) z - a (skip p i) 0 * ip (n+1) (a p) z+a (skip p i) 0 * ip (n+1) (a p) z=a p 0 * ip (n+1) (a (skip p i)) z by omega] at h3
   exact prime h3 h0
  have kz:oW (n+1) (n+1) a z:=fun i hi=>by
   by_cases e:i=p
   ·subst e;exact kp
   ·by_cases l:i < p
    ·have:=ks i (by omega)
     rwa [show skip p i=i by unfold skip;rw [if_pos l]] at this
    ·have:=ks (i - 1) (by omega)
     rwa [show skip p (i - 1)=i by unfold skip;rw [if_neg (by omega)];omega] at this
  exact r z kz (j+1) (by omega)
 ·intro r z k
  have ky:oW n n (fun i j=>a (skip p i) (j+1) * a p 0 - a p (j+1) * a (skip p i) 0) (fun j=>z (j+1)):=fun i hi=>by
   show (97:Int) ∣ ip n _ _
   rw [red i z]
   exact Int.dvd_sub (Int.dvd_trans (k _ (sk i hi)) (Int.dvd_mul_left _ _)) (Int.dvd_trans (k p (by omega)) (Int.dvd_mul_left _ _))
  have ht:=r _ ky
  have hz:(97:Int) ∣ z 0:=by
   have kp:=k p (by omega)
   have e2:ip (n+1) (a p) z=a p 0 * z 0+ip n (fun j=>a p (j+1)) (fun j=>z (j+1)):=by unfold ip;rw [ft]
   have h3:(97:Int) ∣ ip n (fun j=>a p (j+1)) (fun j=>z (j+1)):=fu n fun j hj=>Int.dvd_trans (ht j hj) (Int.dvd_mul_left _ _)
   have h4:=Int.dvd_sub kp h3
   rw [e2,show a p 0 * z 0+ip n (fun j=>a p (j+1)) (fun j=>z (j+1)) - ip n (fun j=>a p (j+1)) (fun j=>z (j+1))=a p 0 * z 0 by omega] at h4
   exact prime h4 h0
  intro j hj
  cases j with
  | zero=>exact hz
  | succ j=>exact ht j (by omega)
theorem ue.none {n:Nat} {a:me} (h:∀ i,i < n+1→(97:Int) ∣ a i 0):¬ ue (n+1) a:=fun r=>by
 have k:oW (n+1) (n+1) a (fun j=>if j=0 then 1 else 0):=fun i hi=>by
  have:ip (n+1) (a i) (fun j=>if j=0 then 1 else 0)=a i 0:=by
   unfold ip
   rw [sH 0 (n+1) (by omega) fun j _ hj=>by simp [hj]]
   simp
  rw [this];exact h i hi
 have:=r _ k 0 (by omega)
 simp at this
theorem ue.zero (a:me):ue 0 a:=fun _ _ j hj=>by omega
structure Clear (n c:Nat) (t:me):Prop where
 one:∀ i,i < c→t i i=1
 mw:∀ i j,i < n→j < c→i≠j→t i j=0
theorem Clear.start (n:Nat) (t:me):Clear n 0 t:=⟨fun _ h=>by omega,fun _ _ _ h=>by omega⟩
def swap (t:me) (p q:Nat):me:=fun i=>if i=p then t q else if i=q then t p else t i
theorem oW.swap {m n p q:Nat} {t:me} {z:Nat→Int} (hp:p < m) (hq:q < m):oW m n (swap t p q) z↔oW m n t z:=by
 constructor
 ·intro k i hi
  by_cases e1:i=p
  ·subst e1
   have:=k q hq
   unfold My.swap at this
   by_cases e:q=i
   ·subst e;simpa using this
   ·rw [if_neg e,if_pos rfl] at this;exact this
  ·by_cases e2:i=q
   ·subst e2
    have:=k p hp
    unfold My.swap at this
    rwa [if_pos rfl] at this
   ·have:=k i hi
    unfold My.swap at this
    rwa [if_neg e1,if_neg e2] at this
 ·intro k i hi
  unfold My.swap
  split
  ·exact k q hq
  ·split
   ·exact k p hp
   ·exact k i hi
def clear (t:me) (c:Nat) (f:Int):me:=fun i j=>if i=c then t c j * f % 97 else (t i j - t i c * (t c j * f % 97)) % 97
theorem fI (a:Int):(97:Int) ∣ a % 97 - a:=by omega
theorem oW.clear {m n c:Nat} {t:me} {f:Int} {z:Nat→Int} (hc:c < m) (hf:(97:Int) ∣ f * t c c - 1):oW m n (clear t c f) z↔oW m n t z:=by
 have hf0:¬ (97:Int) ∣ f:=fun h=>by
  have:=Int.dvd_sub (Int.dvd_trans h (Int.dvd_mul_right f (t c c))) hf
  rw [show f * t c c - (f * t c c - 1)=1 by omega] at this
  omega
 have SH:oW m n (My.clear t c f) z↔oW m n (fun i j=>if i=c then f * t c j+0 * t c j else 1 * t i j+(- (t i c * f)) * t c j) z:=by
  refine oW.Cr fun i j _ _=>?_
  unfold My.clear
  by_cases e:i=c
  ·rw [if_pos e,if_pos e]
   have:=fI (t c j * f)
   rwa [show t c j * f % 97 - (f * t c j+0 * t c j)=t c j * f % 97 - t c j * f by grind]
  ·rw [if_neg e,if_neg e]
   have h1:=fI (t i j - t i c * (t c j * f % 97))
   have h2:(97:Int) ∣ t i c * (t c j * f % 97 - t c j * f):=Int.dvd_trans (fI (t c j * f)) (Int.dvd_mul_left _ _)
   have:=Int.dvd_sub h1 h2
   rwa [show (t i j - t i c * (t c j * f % 97)) % 97 - (t i j - t i c * (t c j * f % 97)) - t i c * (t c j * f % 97 - t c j * f)=(t i j - t i c * (t c j * f % 97)) % 97 - (1 * t i j+-(t i c * f) * t c j) by grind] at this
 rw [SH]
 have e1:ip n (fun j=>f * t c j+0 * t c j) z=f * ip n (t c) z:=by rw [Cq];omega
 have e2:∀ i,ip n (fun j=>1 * t i j+(- (t i c * f)) * t c j) z=ip n (t i) z - t i c * f * ip n (t c) z:=fun i=>by rw [Cq];grind
 constructor
 ·intro k
  have kc:(97:Int) ∣ ip n (t c) z:=by
   have:=k c hc
   simp only [if_true] at this
   rw [e1] at this
   exact prime this hf0
  intro i hi
  by_cases e:i=c
  ·subst e;exact kc
  ·have:=k i hi
   simp only [if_neg e] at this
   rw [e2] at this
   have h2:(97:Int) ∣ t i c * f * ip n (t c) z:=Int.dvd_trans kc (Int.dvd_mul_left _ _)
   have:=Int.dvd_add this h2
   rwa [show ip n (t i) z - t i c * f * ip n (t c) z+t i c * f * ip n (t c) z=ip n (t i) z by omega] at this
 ·intro k i hi
  by_cases e:i=c
  ·simp only [if_pos e]
   rw [e1];exact Int.dvd_trans (k c hc) (Int.dvd_mul_left _ _)
  ·simp only [if_neg e]
   rw [e2];exact Int.dvd_sub (k i hi) (Int.dvd_trans (k c hc) (Int.dvd_mul_left _ _))
theorem Clear.swap {n c q:Nat} {t:me} (h:Clear n c t) (hq:c≤q) (hn:q < n):Clear n c (swap t c q):=by
 refine ⟨fun i hi=>?_,fun i j hi hj ne=>?_⟩
 ·unfold My.swap
  rw [if_neg (by omega),if_neg (by omega)];exact h.one i hi
 ·unfold My.swap
  split
  ·exact h.mw q j hn hj (by omega)
  ·split
   ·exact h.mw c j (by omega) hj (by omega)
   ·exact h.mw i j hi hj ne
theorem Clear.clear {n c:Nat} {t:me} {f:Int} (h:Clear n c t) (hc:c < n) (hf:(97:Int) ∣ f * t c c - 1):Clear n (c+1) (clear t c f):=by
 have Kc:t c c * f % 97=1:=by rw [Int.mul_comm];omega
 have hz:∀ j,j < c→t c j * f % 97=0:=fun j hj=>by rw [h.mw c j hc hj (by omega)];simp
 refine ⟨fun i hi=>?_,fun i j hi hj ne=>?_⟩
 ·unfold My.clear
  by_cases e:i=c
  ·subst e;rw [if_pos rfl,Kc]
  ·rw [if_neg e,hz i (by omega),h.one i (by omega)];omega
 ·unfold My.clear
  by_cases e:i=c
  ·rw [if_pos e,hz j (by omega)]
  ·rw [if_neg e]
   by_cases e2:j=c
   ·subst e2;rw [Kc];simp
   ·rw [hz j (by omega),h.mw i j hi (by omega) ne];simp
theorem Clear.full {n:Nat} {t:me} (h:Clear n n t) (z:Nat→Int) (i:Nat) (hi:i < n):ip (n+1) (t i) z=z i+t i n * z n:=by
 unfold ip
 rw [sI i n (n+1) hi (by omega) fun j hj n1 n2=>by rw [h.mw i j hi (by omega) (Ne.symm n1)];omega,h.one i hi];omega
theorem Clear.stuck {n c:Nat} {t:me} (h:Clear n c t) (hc:c < n) (hz:∀ i,c≤i→i < n→t i c=0) :
  ∃ z:Nat→Int,oW n (n+1) t z∧z c=1∧z n=0:=by
 refine ⟨fun j=>if j < c then - t j c else if j=c then 1 else 0,fun i hi=>?_,by simp,by simp;omega⟩
 have:ip (n+1) (t i) (fun j=>if j < c then - t j c else if j=c then 1 else 0)=0:=by
  unfold ip
  by_cases l:i < c
  ·rw [sI i c (n+1) l (by omega) fun j hj n1 n2=>?_]
   ·simp [l,h.one i l];omega
   ·by_cases l2:j < c
    ·rw [h.mw i j hi l2 (Ne.symm n1)];simp
    ·simp [l2,n2]
  ·refine pO _ fun j hj=>?_
   by_cases l2:j < c
   ·rw [h.mw i j hi l2 (by omega)];simp
   ·by_cases e:j=c
    ·subst e;rw [hz i (by omega) hi];simp
    ·simp [l2,e]
 rw [this];exact ⟨0,by simp⟩
theorem Cs:∀ (n:Nat) (al:Nat→Int) (x:Nat→Int),(∀ i,i < n→¬ (97:Int) ∣ al i)→(∀ i j,i < n→j < n→i≠j→¬ (97:Int) ∣ al i - al j) →
  (∀ j,j < n→(97:Int) ∣ sumTo n fun i=>al i ^ (j+1) * x i)→∀ i,i < n→(97:Int) ∣ x i
 | 0,_,_,_,_,_,i,hi=>by omega
 | n+1,al,x,h0,hd,hk,i,hi=>by
  have hy:∀ i,i < n→(97:Int) ∣ (al i - al n) * x i:=by
   refine Cs n al (fun i=>(al i - al n) * x i) (fun i hi=>h0 i (by omega)) (fun i j hi hj=>hd i j (by omega) (by omega)) fun j hj=>?_
   have h1:=hk (j+1) (by omega)
   have h2:(97:Int) ∣ al n * sumTo (n+1) fun i=>al i ^ (j+1) * x i:=Int.dvd_trans (hk j (by omega)) (Int.dvd_mul_left _ _)
   have h3:=Int.dvd_sub h1 h2
   have e:(sumTo (n+1) fun i=>al i ^ (j+1+1) * x i) - al n * (sumTo (n+1) fun i=>al i ^ (j+1) * x i)=sumTo n fun i=>al i ^ (j+1) * ((al i - al n) * x i):=by
    rw [sumTo,sumTo]
    have:=dG 1 (- al n) (fun i=>al i ^ (j+1+1) * x i) (fun i=>al i ^ (j+1) * x i) n
    rw [show (sumTo n fun i=>al i ^ (j+1) * ((al i - al n) * x i))=sumTo n (fun i=>1 * (al i ^ (j+1+1) * x i)+- al n * (al i ^ (j+1) * x i)) from bF n fun i _=>by rw [Int.pow_succ (al i) (j+1)];grind,this,Int.pow_succ (al n) (j+1)]
    grind
   rwa [e] at h3
  have hx:∀ i,i < n→(97:Int) ∣ x i:=fun i hi=>prime (hy i hi) (hd i n (by omega) (by omega) (by omega))
  by_cases e:i=n
  ·subst e
   have h1:=hk 0 (by omega)
   rw [sumTo] at h1
   have h2:(97:Int) ∣ sumTo i fun k=>al k ^ (0+1) * x k:=fu i fun k hk=>Int.dvd_trans (hx k hk) (Int.dvd_mul_left _ _)
   have h3:=Int.dvd_sub h1 h2
   rw [show (sumTo i fun k=>al k ^ (0+1) * x k)+al i ^ (0+1) * x i - (sumTo i fun k=>al k ^ (0+1) * x k)=al i * x i by rw [Int.pow_succ];grind] at h3
   exact prime h3 (h0 i (by omega))
  ·exact hx i (by omega)
end My
namespace My
def T (x:Int) (n:Nat) (f:Nat→Int):Int:=sumTo n (fun i=>f i * x ^ i) % 97
theorem WD (x:Int) (n:Nat) (f:Nat→Int):0≤T x n f:=Int.emod_nonneg _ (by decide)
theorem WE (x:Int) (n:Nat) (f:Nat→Int):T x n f < 97:=Int.emod_lt_of_pos _ (by decide)
theorem Lb {x:Int} {n:Nat} {f g:Nat→Int} (h:∀ i,i < n→f i=g i):T x n f=T x n g:=by
 unfold T
 rw [bF n fun j hj=>by rw [h j hj]]
theorem sJ {x:Int} {n:Nat} {f:Nat→Int}:T x n f=0↔(97:Int) ∣ sumTo n (fun i=>f i * x ^ i):=by
 unfold T
 omega
def St (j:Nat):Int:=([5,25,28,43,21,8]:List Int).getD j 0
theorem WG:∀ j:Nat,j < 6→P 5 (1+(j:Int))=St j:=by decide
def hv (f:Nat→Int) (n:Nat) (x:Int):Nat→Int
 | 0=>0
 | i+1=>(hv f n x i * x+f (n - 1 - i)) % 97
theorem Nh (f:Nat→Int) (n:Nat) (x:Int) (i:Nat):0≤hv f n x i:=by
 cases i with
 | zero=>exact Int.le_refl _
 | succ i=>exact Int.emod_nonneg _ (by decide)
theorem Ni (f:Nat→Int) (n:Nat) (x:Int) (i:Nat):hv f n x i < 97:=by
 cases i with
 | zero=>exact (by decide:(0:Int) < 97)
 | succ i=>exact Int.emod_lt_of_pos _ (by decide)
theorem Iy (f:Nat→Int) (n:Nat) (x:Int):∀ i,i≤n→(97:Int) ∣ hv f n x i - sumTo i (fun k=>f (n - i+k) * x ^ k)
 | 0,_=>by simp [hv,sumTo]
 | i+1,h=>by
  obtain ⟨a,ha⟩:=Iy f n x i (by omega)
  have e:sumTo (i+1) (fun k=>f (n - (i+1)+k) * x ^ k)=f (n - 1 - i)+x * sumTo i (fun k=>f (n - i+k) * x ^ k):=by
   rw [ft,← oV]
   have e1:f (n - (i+1)+0) * x ^ 0=f (n - 1 - i):=by
    rw [show n - (i+1)+0=n - 1 - i by omega];simp
   rw [e1]
   congr 1
   refine bF i fun j hj=>?_
   rw [show n - (i+1)+(j+1)=n - i+j by omega,Int.pow_succ]
   grind
  rw [e,hv]
  generalize sumTo i (fun k=>f (n - i+k) * x ^ k)=S at ha
  have hq:hv f n x i=S+97 * a:=by omega
  rw [hq,Int.emod_def]
  exact ⟨a * x - ((S+97 * a) * x+f (n - 1 - i)) / 97,by grind⟩
theorem WH (f:Nat→Int) (n:Nat) (x:Int):hv f n x n=T x n f:=by
 have h:=Iy f n x n (Nat.le_refl n)
 rw [bF n (g:=fun k=>f k * x ^ k) fun j hj=>by rw [show n - n+j=j by omega]] at h
 have h0:=Nh f n x n
 have h1:=Ni f n x n
 unfold T
 omega
def Dv (k:Nat):Int:=([21,80,53,2,55,63]:List Int).getD k 0
def rs (f:Nat→Int):Nat→Nat→Int
 | 0,_=>0
 | m+1,k=>((if k < 5 then rs f m (k+1) else 0) - (rs f m 0+f m) * Dv k) % 97
theorem SI (f:Nat→Int) (m k:Nat):0≤rs f m k:=by
 cases m with
 | zero=>exact Int.le_refl _
 | succ m=>exact Int.emod_nonneg _ (by decide)
theorem SJ (f:Nat→Int) (m k:Nat):rs f m k < 97:=by
 cases m with
 | zero=>exact (by decide:(0:Int) < 97)
 | succ m=>exact Int.emod_lt_of_pos _ (by decide)
def six (y:Int) (r:Nat→Int):Int:=r 0+r 1 * y+r 2 * (y * y)+r 3 * (y * y * y)+r 4 * (y * y * y * y)+r 5 * (y * y * y * y * y)
theorem Iz:∀ j < 6,(97:Int) ∣ 1+St j * six (St j) Dv:=by decide
theorem Lc {y pm S fm a b:Int} {r:Nat→Int} (ha:pm * six y r - S=97 * a) (hb:1+y * six y Dv=97 * b) :
  (97:Int) ∣ pm * y * six y (fun k=>((if k < 5 then r (k+1) else 0) - (r 0+fm) * Dv k) % 97) - (S+fm * pm):=by
 simp only [six] at *
 simp only [show (0:Nat) < 5 by decide,show (1:Nat) < 5 by decide,show (2:Nat) < 5 by decide,show (3:Nat) < 5 by decide,show (4:Nat) < 5 by decide,show ¬ (5:Nat) < 5 by decide,if_true,if_false,Int.emod_def]
 generalize (r (0+1) - (r 0+fm) * Dv 0) / 97=q0
 generalize (r (1+1) - (r 0+fm) * Dv 1) / 97=q1
 generalize (r (2+1) - (r 0+fm) * Dv 2) / 97=q2
 generalize (r (3+1) - (r 0+fm) * Dv 3) / 97=q3
 generalize (r (4+1) - (r 0+fm) * Dv 4) / 97=q4
 generalize ((0:Int) - (r 0+fm) * Dv 5) / 97=q5
 generalize r 0=r0 at *
 generalize r (0+1)=r1 at *
 generalize r (1+1)=r2 at *
 generalize r (2+1)=r3 at *
 generalize r (3+1)=r4 at *
 generalize r (4+1)=r5 at *
 generalize Dv 0=d0 at *
 generalize Dv 1=d1 at *
 generalize Dv 2=d2 at *
 generalize Dv 3=d3 at *
 generalize Dv 4=d4 at *
 generalize Dv 5=d5 at *
 have e:pm * y * (r1 - (r0+fm) * d0 - 97 * q0+(r2 - (r0+fm) * d1 - 97 * q1) * y+(r3 - (r0+fm) * d2 - 97 * q2) * (y * y)+(r4 - (r0+fm) * d3 - 97 * q3) * (y * y * y)+(r5 - (r0+fm) * d4 - 97 * q4) * (y * y * y * y)+(0 - (r0+fm) * d5 - 97 * q5) * (y * y * y * y * y)) - (S+fm * pm)
   = (pm * (r0+r1 * y+r2 * (y * y)+r3 * (y * y * y)+r4 * (y * y * y * y)+r5 * (y * y * y * y * y)) - S) - pm * (r0+fm) * (1+y * (d0+d1 * y+d2 * (y * y)+d3 * (y * y * y)+d4 * (y * y * y * y)+d5 * (y * y * y * y * y))) - 97 * (pm * (q0 * y+q1 * (y * y)+q2 * (y * y * y)+q3 * (y * y * y * y)+q4 * (y * y * y * y * y)+q5 * (y * y * y * y * y * y))):=by grind
 rw [e,ha,hb]
 exact ⟨a - pm * (r0+fm) * b - pm * (q0 * y+q1 * (y * y)+q2 * (y * y * y)+q3 * (y * y * y * y)+q4 * (y * y * y * y * y)+q5 * (y * y * y * y * y * y)),by grind⟩
theorem I0 {y:Int} (hy:(97:Int) ∣ 1+y * six y Dv) (f:Nat→Int):∀ m,(97:Int) ∣ y ^ m * six y (rs f m) - sumTo m (fun i=>f i * y ^ i)
 | 0=>by simp [six,rs,sumTo]
 | m+1=>by
  obtain ⟨a,ha⟩:=I0 hy f m
  obtain ⟨b,hb⟩:=hy
  rw [sumTo,Int.pow_succ]
  exact Lc ha hb
def kK (f:Nat→Int) (i:Nat):Int:=if i < 18 then f i else -(rs f 18 (i - 18)) % 97
theorem Ld {f:Nat→Int} (h:∀ i,i < 18→0≤f i∧f i < 97) (i:Nat):0≤kK f i∧kK f i < 97:=by
 unfold kK
 split
 ·rename_i h1;exact h i h1
 ·exact ⟨Int.emod_nonneg _ (by decide),Int.emod_lt_of_pos _ (by decide)⟩
theorem yX (f:Nat→Int) (n:Nat):∀ m,sumTo (n+m) f=sumTo n f+sumTo m (fun i=>f (n+i))
 | 0=>by simp [sumTo]
 | m+1=>by rw [← Nat.add_assoc,sumTo,yX f n m,sumTo];omega
theorem Le (y:Int) (r:Nat→Int):sumTo 6 (fun k=>r k * y ^ k)=six y r:=by
 simp only [sumTo,six,Int.pow_succ,Int.pow_zero]
 grind
theorem Lf {y:Int} (hy:(97:Int) ∣ 1+y * six y Dv) (f:Nat→Int):T y 24 (kK f)=0:=by
 rw [sJ,show (24:Nat)=18+6 from rfl,yX]
 have e1:sumTo 18 (fun i=>kK f i * y ^ i)=sumTo 18 (fun i=>f i * y ^ i):=bF 18 fun j hj=>by rw [kK,if_pos hj]
 have e2:sumTo 6 (fun i=>kK f (18+i) * y ^ (18+i))=y ^ 18 * six y (fun k=>-(rs f 18 k) % 97):=by
  rw [← Le,← oV]
  refine bF 6 fun j hj=>?_
  rw [kK,if_neg (by omega),Int.pow_add,show 18+j - 18=j by omega]
  grind
 rw [e1,e2]
 obtain ⟨a,ha⟩:=I0 hy f 18
 generalize sumTo 18 (fun i=>f i * y ^ i)=S at *
 generalize y ^ 18=pm at *
 generalize rs f 18=r at *
 simp only [six,Int.emod_def] at *
 generalize (-(r 0)) / 97=q0
 generalize (-(r 1)) / 97=q1
 generalize (-(r 2)) / 97=q2
 generalize (-(r 3)) / 97=q3
 generalize (-(r 4)) / 97=q4
 generalize (-(r 5)) / 97=q5
 refine ⟨-a - pm * (q0+q1 * y+q2 * (y * y)+q3 * (y * y * y)+q4 * (y * y * y * y)+q5 * (y * y * y * y * y)),?_⟩
 grind
def bZ (f:Nat→Int):Prop:=∀ j,j < 6→T (St j) 24 f=0
theorem zP (f:Nat→Int):bZ (kK f):=fun j hj=>Lf (Iz j hj) f
theorem fJ {y:Int} (h:¬ (97:Int) ∣ y):∀ n:Nat,¬ (97:Int) ∣ y ^ n
 | 0=>by rw [Int.pow_zero];decide
 | n+1=>fun z=>by
  rw [Int.pow_succ] at z
  exact h (prime z (fJ h n))
end My
namespace My
def eQ (n:Nat) (f g:Nat→Int):List Nat:=(List.range n).filter fun i=>!decide (f i=g i)
theorem GX (n:Nat) (f g:Nat→Int):eQ (n+1) f g=if f n=g n then eQ n f g else eQ n f g ++ [n]:=by
 unfold eQ
 rw [List.range_succ,List.filter_append]
 by_cases h:f n=g n <;> simp [h]
theorem bw {n:Nat} {f g:Nat→Int} {i:Nat}:i ∈ eQ n f g↔i < n∧f i≠g i:=by
 unfold eQ
 simp
theorem fv (n:Nat) (f g:Nat→Int):(eQ n f g).Nodup:=List.Pairwise.filter _ List.nodup_range
def lsum (l:List Nat) (h:Nat→Int):Int:=sumTo l.length fun k=>h (l.getD k 0)
theorem lsum_snoc (l:List Nat) (n:Nat) (h:Nat→Int):lsum (l ++ [n]) h=lsum l h+h n:=by
 unfold lsum
 rw [List.length_append,List.length_singleton,sumTo]
 congr 1
 ·refine bF _ fun j hj=>?_
  simp [List.getD,List.getElem?_append_left hj]
 ·simp [List.getD]
theorem JA (n:Nat) (f g:Nat→Int) (h:Nat→Int) (hz:∀ i,i < n→f i=g i→h i=0):sumTo n h=lsum (eQ n f g) h:=by
 induction n with
 | zero=>rfl
 | succ n ih =>
  rw [sumTo,ih fun i hi=>hz i (by omega),GX]
  by_cases e:f n=g n
  ·rw [if_pos e,hz n (by omega) e];omega
  ·rw [if_neg e,lsum_snoc]
theorem PD:∀ j:Nat,j < 6→St j=5 ^ (j+1) % 97:=by decide
theorem iM:¬ (97:Int) ∣ 5:=by decide
theorem vS:∀ p:Nat,p < 24→∀ q:Nat,q < 24→p≠q→¬ (97:Int) ∣ 5 ^ p - 5 ^ q:=by decide +kernel
theorem FD {a b:Int} (h:(97:Int) ∣ a - b):∀ n:Nat,(97:Int) ∣ a ^ n - b ^ n
 | 0=>by simp
 | n+1=>by
  obtain ⟨c,hc⟩:=h
  obtain ⟨d,hd⟩:=FD ⟨c,hc⟩ n
  rw [Int.pow_succ,Int.pow_succ]
  exact ⟨d * a+b ^ n * c,by
   have e:a ^ n * a - b ^ n * b=(a ^ n - b ^ n) * a+b ^ n * (a - b):=by grind
   rw [e,hd,hc];grind⟩
theorem qm {j p:Nat} (hj:j < 6):(97:Int) ∣ St j ^ p - (5 ^ p) ^ (j+1):=by
 have h:(97:Int) ∣ St j - 5 ^ (j+1):=by rw [PD j hj];exact fI _
 have:=FD h p
 rwa [← Int.pow_mul,Nat.mul_comm,Int.pow_mul] at this
theorem JB {l:List Nat} {z:Nat→Int} (hn:l.Nodup) (hb:∀ p ∈ l,p < 24) (hl:l.length≤6) (hs:∀ j,j < l.length→(97:Int) ∣ lsum l fun p=>z p * St j ^ p):∀ p ∈ l,(97:Int) ∣ z p:=by
 intro p hp
 obtain ⟨k,hk,rfl⟩:=List.getElem_of_mem hp
 have e:∀ k,(h:k < l.length)→l.getD k 0=l[k]:=fun k h=>by simp [List.getD,h]
 rw [← e k hk]
 refine Cs l.length (fun k=>5 ^ l.getD k 0) (fun k=>z (l.getD k 0)) (fun i _=>fJ iM _) (fun i j hi hj WI=>?_) (fun j hj=>?_) k hk
 ·refine vS _ (hb _ (by rw [e i hi];exact List.getElem_mem _)) _ (hb _ (by rw [e j hj];exact List.getElem_mem _)) fun q=>WI ?_
  rw [e i hi,e j hj] at q
  exact (List.getElem_inj hn).mp q
 ·have h1:=hs j hj
  unfold lsum at h1
  have h2:(97:Int) ∣ (sumTo l.length fun k=>(5 ^ l.getD k 0) ^ (j+1) * z (l.getD k 0)) - sumTo l.length fun k=>z (l.getD k 0) * St j ^ l.getD k 0:=by
   have h3:=dG 1 (-1) (fun k=>(5 ^ l.getD k 0) ^ (j+1) * z (l.getD k 0)) (fun k=>z (l.getD k 0) * St j ^ l.getD k 0) l.length
   have h4:(97:Int) ∣ sumTo l.length fun k=>1 * ((5 ^ l.getD k 0) ^ (j+1) * z (l.getD k 0))+-1 * (z (l.getD k 0) * St j ^ l.getD k 0):=fu _ fun k _=>by
    obtain ⟨c,hc⟩:=qm (p:=l.getD k 0) (show j < 6 by omega)
    refine ⟨-(c * z (l.getD k 0)),?_⟩
    generalize St j ^ l.getD k 0=A at *
    generalize ((5:Int) ^ l.getD k 0) ^ (j+1)=B at *
    have:B=A - 97 * c:=by omega
    rw [this];grind
   rw [h3] at h4
   have e5:∀ a b:Int,1 * a+-1 * b=a - b:=fun a b=>by omega
   rw [e5] at h4
   exact h4
  have h5:=Int.dvd_add h2 h1
  rwa [Int.sub_add_cancel] at h5
theorem A8 {n:Nat} {f g:Nat→Int} (y:Int):sumTo n (fun i=>f i * y ^ i) - sumTo n (fun i=>g i * y ^ i)=lsum (eQ n f g) fun i=>(f i - g i) * y ^ i:=by
 rw [← JA n f g _ fun i _ e=>by rw [e];grind]
 have h1:=dG 1 (-1) (fun i=>f i * y ^ i) (fun i=>g i * y ^ i) n
 have h2:sumTo n (fun j=>1 * (f j * y ^ j)+-1 * (g j * y ^ j))=sumTo n fun i=>(f i - g i) * y ^ i:=bF n fun j _=>by grind
 rw [← h2,h1];omega
theorem Nj {f g:Nat→Int} (bf:∀ i,i < 24→0≤f i∧f i < 97) (bg:∀ i,i < 24→0≤g i∧g i < 97) (hf:bZ f) (hg:bZ g) (h:(eQ 24 f g).length≤6):∀ i,i < 24→f i=g i:=by
 intro i hi
 apply Classical.byContradiction
 intro AS
 have hm:i ∈ eQ 24 f g:=bw.mpr ⟨hi,AS⟩
 have:=JB (z:=fun i=>f i - g i) (fv _ _ _) (fun p hp=>(bw.mp hp).1) h (fun j hj=>by
  have h1:=sJ.mp (hf j (by omega))
  have h2:=sJ.mp (hg j (by omega))
  rw [← A8]
  exact Int.dvd_sub h1 h2) i hm
 have b1:=bf i hi
 have b2:=bg i hi
 omega
theorem bZ.congr {f g:Nat→Int} (h:∀ i,i < 24→f i=g i) (hf:bZ f):bZ g:=fun j hj=>by rw [← Lb h];exact hf j hj
theorem bZ.PF {f:Nat→Int} (h:∀ j,j < 6→(97:Int) ∣ sumTo 24 fun i=>f i * St j ^ i):bZ fun i=>f i % 97:=fun j hj=>by
 rw [sJ]
 have h1:=dG 1 (-1) (fun i=>f i * St j ^ i) (fun i=>f i % 97 * St j ^ i) 24
 have h2:(97:Int) ∣ sumTo 24 fun i=>1 * (f i * St j ^ i)+-1 * (f i % 97 * St j ^ i):=fu _ fun i _=>by
  rw [Int.emod_def]
  exact ⟨f i / 97 * St j ^ i,by grind⟩
 rw [h1] at h2
 have h3:=h j hj
 omega
theorem bZ.times {f:Nat→Int} (hf:bZ f) (c:Int):bZ fun i=>f i * c % 97:=bZ.PF fun j hj=>by
 have h:=sJ.mp (hf j hj)
 have e:sumTo 24 (fun i=>f i * c * St j ^ i)=c * sumTo 24 (fun i=>f i * St j ^ i):=by rw [← oV];exact bF _ fun i _=>by grind
 rw [e]
 exact Int.dvd_trans h (Int.dvd_mul_left _ _)
end My
namespace My
theorem fw:∀ (l L:List Nat),l.Nodup→(∀ x ∈ l,x ∈ L)→l.length≤L.length
 | [],_,_,_=>Nat.zero_le _
 | a :: l,L,hn,hs=>by
  have ha:=hs a List.mem_cons_self
  have Qa:=List.nodup_cons.mp hn
  have:=fw l (L.erase a) Qa.2 fun x hx=>(List.mem_erase_of_ne (fun e=>Qa.1 (by rw [← e];exact hx))).mpr (hs x (List.mem_cons_of_mem _ hx))
  rw [List.length_erase_of_mem ha] at this
  have hp:0 < L.length:=List.length_pos_of_mem ha
  rw [List.length_cons]
  omega
theorem A9 (n:Nat) (f g:Nat→Int):(eQ n f g).Pairwise (· < ·):=List.Pairwise.filter _ List.pairwise_lt_range
theorem dQ {p q:Nat} (hp:p < 24) (hq:q < 24) (h:p≠q):¬ (97:Int) ∣ 5 ^ p - 5 ^ q:=vS p hp q hq h
def M (s:Nat→Int):me:=fun i j=>if j=0 then s (i+1) else -(s i) % 97
theorem SK (s z:Nat→Int) (i:Nat):(97:Int) ∣ ip 2 (M s i) z - (s (i+1) * z 0 - s i * z 1):=by
 have e:ip 2 (M s i) z=s (i+1) * z 0+-(s i) % 97 * z 1:=by simp [ip,sumTo,M]
 rw [e,Int.emod_def]
 exact ⟨-((-(s i)) / 97 * z 1),by grind⟩
theorem Ct {s:Nat→Int} (h:¬ (97:Int) ∣ s 0 * s 2 - s 1 * s 1):ue 2 (M s):=fun z hz j hj=>by
 have k0:=Int.dvd_sub (hz 0 (by decide)) (SK s z 0)
 have k1:=Int.dvd_sub (hz 1 (by decide)) (SK s z 1)
 rw [Int.sub_sub_self] at k0 k1
 obtain ⟨a,ha⟩:=k0
 obtain ⟨b,hb⟩:=k1
 match j,hj with
 | 0,_ =>
  refine prime (a:=s 0 * s 2 - s 1 * s 1) ⟨s 0 * b - s 1 * a,?_⟩ h
  have e:(s 0 * s 2 - s 1 * s 1) * z 0=s 0 * (s (1+1) * z 0 - s 1 * z 1) - s 1 * (s (0+1) * z 0 - s 0 * z 1):=by grind
  rw [e,ha,hb];grind
 | 1,_ =>
  refine prime (a:=s 0 * s 2 - s 1 * s 1) ⟨s 1 * b - s 2 * a,?_⟩ h
  have e:(s 0 * s 2 - s 1 * s 1) * z 1=s 1 * (s (1+1) * z 0 - s 1 * z 1) - s 2 * (s (0+1) * z 0 - s 0 * z 1):=by grind
  rw [e,ha,hb];grind
theorem Lg {s:Nat→Int} {X:Int} (h0:(97:Int) ∣ s 1 - s 0 * X) (h1:(97:Int) ∣ s 2 - s 1 * X):¬ ue 2 (M s):=fun r=>by
 have:=r (fun j=>if j=0 then 1 else X) (fun i hi=>by
  have k:=SK s (fun j=>if j=0 then 1 else X) i
  have h:(97:Int) ∣ s (i+1) * (if (0:Nat)=0 then 1 else X) - s i * (if (1:Nat)=0 then 1 else X):=by
   match i,hi with
   | 0,_=>simpa using h0
   | 1,_=>simpa using h1
  have:=Int.dvd_add k h
  rwa [Int.sub_add_cancel] at this) 0 (by decide)
 have h1:(97:Int) ∣ 1:=this
 exact absurd h1 (by decide)
theorem Lh {s:Nat→Int} {e d X Y:Int} (h:∀ j,j < 4→(97:Int) ∣ s j - (e * X ^ (j+1)+d * Y ^ (j+1))):(97:Int) ∣ (s 0 * s 2 - s 1 * s 1) - e * d * (X * Y) * ((X - Y) * (X - Y)):=by
 obtain ⟨a,ha⟩:=h 0 (by decide)
 obtain ⟨b,hb⟩:=h 1 (by decide)
 obtain ⟨c,hc⟩:=h 2 (by decide)
 simp only [Int.pow_succ,Int.pow_zero,Int.one_mul,Nat.zero_add] at ha hb hc
 have e0:s 0=e * X+d * Y+97 * a:=by omega
 have e1:s 1=e * (X * X)+d * (Y * Y)+97 * b:=by omega
 have e2:s 2=e * (X * X * X)+d * (Y * Y * Y)+97 * c:=by omega
 rw [e0,e1,e2]
 exact ⟨(e * X+d * Y) * c+a * (e * (X * X * X)+d * (Y * Y * Y))+97 * a * c - 2 * (e * (X * X)+d * (Y * Y)) * b - 97 * b * b,by grind⟩
theorem JC {s x:Nat→Int} {e d X Y:Int} (r:ue 2 (M s)) (h:∀ j,j < 4→(97:Int) ∣ s j - (e * X ^ (j+1)+d * Y ^ (j+1))) (hx:∀ i,i < 2→(97:Int) ∣ ip 2 (M s i) x - s (i+2)) :
  (97:Int) ∣ x 0 - (X+Y)∧(97:Int) ∣ x 1 - X * Y:=by
 have k:oW 2 2 (M s) fun j=>if j=0 then x 0 - (X+Y) else x 1 - X * Y:=fun i hi=>by
  have k1:=SK s (fun j=>if j=0 then x 0 - (X+Y) else x 1 - X * Y) i
  have k2:=Int.dvd_sub (hx i hi) (SK s x i)
  have k3:(97:Int) ∣ s (i+2) - (s (i+1) * (X+Y) - s i * (X * Y)):=by
   obtain ⟨a,ha⟩:=h i (by omega)
   obtain ⟨b,hb⟩:=h (i+1) (by omega)
   obtain ⟨c,hc⟩:=h (i+2) (by omega)
   rw [Int.pow_succ X (i+2),Int.pow_succ X (i+1),Int.pow_succ Y (i+2),Int.pow_succ Y (i+1)] at hc
   rw [Int.pow_succ X (i+1),Int.pow_succ Y (i+1)] at hb
   generalize X ^ (i+1)=A at *
   generalize Y ^ (i+1)=B at *
   have e0:s i=e * A+d * B+97 * a:=by omega
   have e1:s (i+1)=e * (A * X)+d * (B * Y)+97 * b:=by omega
   have e2:s (i+2)=e * (A * X * X)+d * (B * Y * Y)+97 * c:=by omega
   rw [e0,e1,e2]
   exact ⟨c - b * (X+Y)+a * (X * Y),by grind⟩
  have e1:(if (0:Nat)=0 then x 0 - (X+Y) else x 1 - X * Y)=x 0 - (X+Y):=rfl
  have e2:(if (1:Nat)=0 then x 0 - (X+Y) else x 1 - X * Y)=x 1 - X * Y:=rfl
  rw [e1,e2] at k1
  generalize ip 2 (M s i) (fun j=>if j=0 then x 0 - (X+Y) else x 1 - X * Y)=I at *
  generalize ip 2 (M s i) x=J at *
  obtain ⟨a,ha⟩:=k1
  obtain ⟨b,hb⟩:=k2
  obtain ⟨c,hc⟩:=k3
  refine ⟨a+b+c,?_⟩
  have:I=97 * a+(s (i+1) * (x 0 - (X+Y)) - s i * (x 1 - X * Y)):=by omega
  have e3:s (i+1) * (x 0 - (X+Y)) - s i * (x 1 - X * Y)=(s (i+1) * x 0 - s i * x 1) - (s (i+1) * (X+Y) - s i * (X * Y)):=by grind
  omega
 exact ⟨r _ k 0 (by decide),r _ k 1 (by decide)⟩
def FE (t u:Int) (k:Nat):Bool:=decide ((P 5 k * P 5 k - t * P 5 k+u) % 97=0)
def roots (t u:Int):List Nat:=(List.range 24).filter (FE t u)
theorem P5 (k:Nat):(97:Int) ∣ P 5 k - 5 ^ k:=by
 unfold P
 rw [Int.toNat_natCast]
 exact fI _
theorem JD {t u X Y:Int} {k:Nat} (ht:(97:Int) ∣ t - (X+Y)) (hu:(97:Int) ∣ u - X * Y):FE t u k=true↔(97:Int) ∣ (5 ^ k - X) * (5 ^ k - Y):=by
 obtain ⟨a,ha⟩:=ht
 obtain ⟨b,hb⟩:=hu
 obtain ⟨c,hc⟩:=P5 k
 unfold FE
 rw [decide_eq_true_iff]
 generalize (5:Int) ^ k=V at *
 have e0:t=X+Y+97 * a:=by omega
 have e1:u=X * Y+97 * b:=by omega
 have e2:P 5 k=V+97 * c:=by omega
 have e3:P 5 k * P 5 k - t * P 5 k+u=(V - X) * (V - Y)+97 * (2 * V * c+97 * c * c - (X+Y) * c - a * (V+97 * c)+b):=by rw [e0,e1,e2];grind
 rw [e3]
 generalize (V - X) * (V - Y)=W
 omega
theorem GY (t u:Int):(roots t u).length≤2:=by
 apply Classical.byContradiction
 intro h
 have hl:2 < (roots t u).length:=by omega
 have nd:(roots t u).Nodup:=List.Pairwise.filter _ List.nodup_range
 have at_:∀ (i:Nat) (hi:i < (roots t u).length),(roots t u)[i] < 24∧(97:Int) ∣ 5 ^ (roots t u)[i] * 5 ^ (roots t u)[i] - t * 5 ^ (roots t u)[i]+u:=fun i hi=>by
  have hm:(roots t u)[i] ∈ roots t u:=List.getElem_mem _
  generalize (roots t u)[i]=k at hm
  unfold roots at hm
  rw [List.mem_filter,List.mem_range] at hm
  refine ⟨hm.1,?_⟩
  have h2:=of_decide_eq_true hm.2
  obtain ⟨c,hc⟩:=P5 k
  generalize (5:Int) ^ k=V at *
  have e2:P 5 k=V+97 * c:=by omega
  have e3:P 5 k * P 5 k - t * P 5 k+u=V * V - t * V+u+97 * (2 * V * c+97 * c * c - t * c):=by rw [e2];grind
  omega
 obtain ⟨a0,a1⟩:=at_ 0 (by omega)
 obtain ⟨b0,b1⟩:=at_ 1 (by omega)
 obtain ⟨c0,c1⟩:=at_ 2 (by omega)
 have n01:(roots t u)[0]≠(roots t u)[1]:=fun e=>absurd ((List.getElem_inj nd).mp e) (by decide)
 have n02:(roots t u)[0]≠(roots t u)[2]:=fun e=>absurd ((List.getElem_inj nd).mp e) (by decide)
 have WJ:(roots t u)[1]≠(roots t u)[2]:=fun e=>absurd ((List.getElem_inj nd).mp e) (by decide)
 have f01:=dQ a0 b0 n01
 have f02:=dQ a0 c0 n02
 have f12:=dQ b0 c0 WJ
 generalize (5:Int) ^ (roots t u)[0]=A at *
 generalize (5:Int) ^ (roots t u)[1]=B at *
 generalize (5:Int) ^ (roots t u)[2]=C at *
 have k1:(97:Int) ∣ (A - B) * (A+B - t):=by
  have:=Int.dvd_sub a1 b1
  rwa [show A * A - t * A+u - (B * B - t * B+u)=(A - B) * (A+B - t) by grind] at this
 have k2:(97:Int) ∣ (A - C) * (A+C - t):=by
  have:=Int.dvd_sub a1 c1
  rwa [show A * A - t * A+u - (C * C - t * C+u)=(A - C) * (A+C - t) by grind] at this
 have k3:=prime k1 f01
 have k4:=prime k2 f02
 have:=Int.dvd_sub k3 k4
 rw [show A+B - t - (A+C - t)=B - C by omega] at this
 exact f12 this
theorem Cu:∀ p:Nat,p < 24→∀ q:Nat,q < 24→p < q→(List.range 24).filter (fun k=>decide (k=p∨k=q))=[p,q]:=by decide +kernel
structure JE (s:Nat→Int) (ps:List Nat):Prop where
 nd:ps.Nodup
 b:∀ p ∈ ps,p < 24
 yV:ps.length≤2
 one:∀ (e:Int) (p:Nat),p < 24→¬ (97:Int) ∣ e→(∀ j,j < 4→(97:Int) ∣ s j - e * (5 ^ p) ^ (j+1))→ps=[p]
 two:∀ (e d:Int) (p q:Nat),p < q→q < 24→¬ (97:Int) ∣ e→¬ (97:Int) ∣ d→(∀ j,j < 4→(97:Int) ∣ s j - (e * (5 ^ p) ^ (j+1)+d * (5 ^ q) ^ (j+1)))→ps=[p,q]
theorem Cv {s:Nat→Int} {e X:Int} (h:∀ j,j < 4→(97:Int) ∣ s j - e * X ^ (j+1)) (j:Nat) (hj:j < 3):(97:Int) ∣ s (j+1) - s j * X:=by
 obtain ⟨a,ha⟩:=h j (by omega)
 obtain ⟨b,hb⟩:=h (j+1) (by omega)
 rw [Int.pow_succ X (j+1)] at hb
 generalize X ^ (j+1)=A at *
 have e0:s j=e * A+97 * a:=by omega
 have e1:s (j+1)=e * (A * X)+97 * b:=by omega
 rw [e0,e1]
 exact ⟨b - a * X,by grind⟩
theorem gn {a b:Int} (ha:¬ (97:Int) ∣ a) (hb:¬ (97:Int) ∣ b):¬ (97:Int) ∣ a * b:=fun z=>hb (prime z ha)
theorem Li {s:Nat→Int} {e d:Int} {p q:Nat} (La:p < q) (hq:q < 24) (he:¬ (97:Int) ∣ e) (hd:¬ (97:Int) ∣ d) (h:∀ j,j < 4→(97:Int) ∣ s j - (e * (5 ^ p) ^ (j+1)+d * (5 ^ q) ^ (j+1))):ue 2 (M s):=by
 refine Ct fun z=>?_
 have k:=Int.dvd_sub z (Lh h)
 rw [Int.sub_sub_self] at k
 have f:=dQ (by omega:p < 24) hq (by omega)
 exact gn (gn (gn he hd) (gn (fJ iM p) (fJ iM q))) (gn f f) k
theorem JF {s x:Nat→Int} (r:ue 2 (M s)) (hx:∀ i,i < 2→(97:Int) ∣ ip 2 (M s i) x - s (i+2)):JE s (roots (x 0) (x 1)) where
 nd:=List.Pairwise.filter _ List.nodup_range
 b:=fun p hp=>List.mem_range.mp (List.mem_filter.mp hp).1
 yV:=GY _ _
 one:=fun e p hp he h=>absurd r (Lg (X:=5 ^ p) (Cv h 0 (by decide)) (Cv h 1 (by decide)))
 two:=fun e d p q La hq he hd h=>by
  obtain ⟨ht,hu⟩:=JC r h hx
  rw [← Cu p (by omega) q hq La]
  unfold roots
  apply List.filter_congr
  intro k hk
  have X9:=List.mem_range.mp hk
  rw [Bool.eq_iff_iff,JD ht hu,decide_eq_true_iff]
  constructor
  ·intro z
   apply Classical.byContradiction
   intro n
   exact gn (dQ X9 (by omega) fun e=>n (.inl e)) (dQ X9 hq fun e=>n (.inr e)) z
  ·rintro (e | e)
   ·rw [e,Int.sub_self,Int.zero_mul];exact Int.dvd_zero _
   ·rw [e,Int.sub_self,Int.mul_zero];exact Int.dvd_zero _
def mx (s:Nat→Int):List Nat:=if s 0=0∨s 1=0 then [] else if ex (s 1 * P (s 0) 95 % 97) < 24 then [(ex (s 1 * P (s 0) 95 % 97)).toNat] else []
theorem PH:∀ p:Nat,p < 24→ex ((5:Int) ^ p % 97)=p:=by decide +kernel
theorem Lj {s:Nat→Int} (bs:∀ j,j < 4→0≤s j∧s j < 97) (r:¬ ue 2 (M s)):JE s (mx s) where
 nd:=by
  unfold mx
  split
  ·exact List.nodup_nil
  ·split <;> simp
 b:=fun p hp=>by
  unfold mx at hp
  split at hp
  ·cases hp
  ·split at hp
   ·have:=List.mem_singleton.mp hp
    rename_i h
    have:=Iv (s 1 * P (s 0) 95 % 97)
    omega
   ·cases hp
 yV:=by
  unfold mx
  split
  ·exact Nat.zero_le _
  ·split <;> simp
 one:=fun e p hp he h=>by
  have b0:=bs 0 (by decide)
  have b1:=bs 1 (by decide)
  have u0:¬ (97:Int) ∣ s 0:=fun z=>by
   have:=Int.dvd_sub z (h 0 (by decide))
   rw [Int.sub_sub_self] at this
   exact gn he (fJ (fJ iM p) _) this
  have u1:¬ (97:Int) ∣ s 1:=fun z=>by
   have:=Int.dvd_sub z (h 1 (by decide))
   rw [Int.sub_sub_self] at this
   exact gn he (fJ (fJ iM p) _) this
  have n0:s 0≠0:=fun z=>u0 (by rw [z];exact Int.dvd_zero _)
  have n1:s 1≠0:=fun z=>u1 (by rw [z];exact Int.dvd_zero _)
  have hv:s 1 * P (s 0) 95 % 97=5 ^ p % 97:=by
   have k:=Cv h 0 (by decide)
   have i:=Ng (a:=s 0) (by omega) b0.2
   obtain ⟨c,hc⟩:=k
   have e1:s 1=s 0 * 5 ^ p+97 * c:=by
    have:s (0+1)=s 1:=rfl
    omega
   have e2:P (s 0) 95 * s 0=1+97 * (P (s 0) 95 * s 0 / 97):=by omega
   generalize P (s 0) 95 * s 0 / 97=m at e2
   generalize (5:Int) ^ p=V at *
   have e3:s 1 * P (s 0) 95=V+97 * (m * V+c * P (s 0) 95):=by
    rw [e1]
    have:(s 0 * V+97 * c) * P (s 0) 95=(P (s 0) 95 * s 0) * V+97 * (c * P (s 0) 95):=by grind
    rw [this,e2];grind
   omega
  unfold mx
  rw [if_neg (by omega),hv,PH p hp,if_pos (by omega),Int.toNat_natCast]
 two:=fun e d p q La hq he hd h=>absurd (Li La hq he hd h) r
structure pP (f g:Nat→Int):Prop where
 b:∀ i,i < 24→0≤g i∧g i < 97
 sealed:bZ g
 yV:(eQ 24 f g).length≤2
theorem yY {f g:Nat→Int} (h:pP f g) {j:Nat} (hj:j < 6):(97:Int) ∣ T (St j) 24 f - lsum (eQ 24 f g) fun i=>(f i - g i) * St j ^ i:=by
 rw [← A8]
 have h1:=sJ.mp (h.sealed j hj)
 unfold T
 omega
theorem BA {f g:Nat→Int} {ps:List Nat} (bf:∀ i,i < 24→0≤f i∧f i < 97) (h:pP f g) (hn:¬ bZ f) (hp:JE (fun j=>T (St j) 24 f) ps):ps=eQ 24 f g:=by
 have hs:=fun (j:Nat) (hj:j < 4)=>yY h (show j < 6 by omega)
 have hm:∀ i,i ∈ eQ 24 f g→i < 24∧¬ (97:Int) ∣ f i - g i:=fun i hi=>by
  obtain ⟨h1,h2⟩:=bw.mp hi
  have:=bf i h1
  have:=h.b i h1
  exact ⟨h1,by omega⟩
 have so:=A9 24 f g
 have yV:=h.yV
 match hl:eQ 24 f g with
 | [] =>
  exfalso
  refine hn (h.sealed.congr fun i hi=>?_)
  apply Classical.byContradiction
  intro z
  have:=bw.mpr ⟨hi,fun e=>z e.symm⟩
  rw [hl] at this
  cases this
 | [p] =>
  rw [hl] at hs hm
  obtain ⟨p0,p1⟩:=hm p (by simp)
  refine hp.one (f p - g p) p p0 p1 fun j hj=>?_
  have k:=hs j hj
  have e:lsum [p] (fun i=>(f i - g i) * St j ^ i)=(f p - g p) * St j ^ p:=by simp [lsum,sumTo]
  rw [e] at k
  obtain ⟨c,hc⟩:=qm (p:=p) (show j < 6 by omega)
  obtain ⟨a,ha⟩:=k
  generalize St j ^ p=A at *
  generalize ((5:Int) ^ p) ^ (j+1)=B at *
  have e2:A=B+97 * c:=by omega
  rw [e2] at ha
  exact ⟨a+(f p - g p) * c,by
   have:(f p - g p) * (B+97 * c)=(f p - g p) * B+97 * ((f p - g p) * c):=by grind
   omega⟩
 | [p,q] =>
  rw [hl] at hs hm so
  obtain ⟨p0,p1⟩:=hm p (by simp)
  obtain ⟨q0,q1⟩:=hm q (by simp)
  have La:p < q:=by simpa using so
  refine hp.two (f p - g p) (f q - g q) p q La q0 p1 q1 fun j hj=>?_
  have k:=hs j hj
  have e:lsum [p,q] (fun i=>(f i - g i) * St j ^ i)=(f p - g p) * St j ^ p+(f q - g q) * St j ^ q:=by simp [lsum,sumTo]
  rw [e] at k
  obtain ⟨c,hc⟩:=qm (p:=p) (show j < 6 by omega)
  obtain ⟨d,hd⟩:=qm (p:=q) (show j < 6 by omega)
  obtain ⟨a,ha⟩:=k
  generalize St j ^ p=A at *
  generalize ((5:Int) ^ p) ^ (j+1)=B at *
  generalize St j ^ q=C at *
  generalize ((5:Int) ^ q) ^ (j+1)=D at *
  have e2:A=B+97 * c:=by omega
  have e3:C=D+97 * d:=by omega
  rw [e2,e3] at ha
  exact ⟨a+(f p - g p) * c+(f q - g q) * d,by
   have:(f p - g p) * (B+97 * c)=(f p - g p) * B+97 * ((f p - g p) * c):=by grind
   have:(f q - g q) * (D+97 * d)=(f q - g q) * D+97 * ((f q - g q) * d):=by grind
   omega⟩
 | _ :: _ :: _ :: _=>rw [hl] at yV;simp at yV
def vT (f:Nat→Int) (ps:List Nat) (x:Nat→Int):Nat→Nat→Int
 | 0=>f
 | k+1=>fun j=>if j=ps.getD k 0 then (vT f ps x k (ps.getD k 0) - x k) % 97 else vT f ps x k j
theorem JG {f:Nat→Int} (ps:List Nat) (x:Nat→Int) (bf:∀ i,i < 24→0≤f i∧f i < 97):∀ k i,i < 24→0≤vT f ps x k i∧vT f ps x k i < 97
 | 0,i,hi=>bf i hi
 | k+1,i,hi=>by
  unfold vT
  split
  ·exact ⟨Int.emod_nonneg _ (by decide),Int.emod_lt_of_pos _ (by decide)⟩
  ·exact JG ps x bf k i hi
theorem zQ (f:Nat→Int) (ps:List Nat) (x:Nat→Int):∀ k,k≤ps.length→∀ i,i ∉ ps→vT f ps x k i=f i
 | 0,_,i,_=>rfl
 | k+1,hk,i,hi=>by
  unfold vT
  rw [if_neg fun e=>hi (by rw [e];simp [List.getD,show k < ps.length by omega]),zQ f ps x k (by omega) i hi]
theorem getD_get {ps:List Nat} {k:Nat} (h:k < ps.length):ps.getD k 0=ps[k]:=by simp [List.getD,h]
theorem JH (f:Nat→Int) {ps:List Nat} (nd:ps.Nodup) (x:Nat→Int):∀ k,k≤ps.length→(∀ i,i < k→vT f ps x k (ps.getD i 0)=(f (ps.getD i 0) - x i) % 97)∧∀ i,k≤i→i < ps.length→vT f ps x k (ps.getD i 0)=f (ps.getD i 0)
 | 0,_=>⟨fun i hi=>by omega,fun i _ _=>rfl⟩
 | k+1,hk=>by
  obtain ⟨h1,h2⟩:=JH f nd x k (by omega)
  have ne:∀ i,i < ps.length→i≠k→ps.getD i 0≠ps.getD k 0:=fun i hi hik e=>by
   rw [getD_get hi,getD_get (by omega)] at e
   exact hik ((List.getElem_inj nd).mp e)
  refine ⟨fun i hi=>?_,fun i hi hl=>?_⟩
  ·unfold vT
   by_cases e:i=k
   ·subst e
    rw [if_pos rfl,h2 i (Nat.le_refl _) (by omega)]
   ·rw [if_neg (ne i (by omega) e),h1 i (by omega)]
  ·unfold vT
   rw [if_neg (ne i hl (by omega)),h2 i (by omega) hl]
theorem FF {ps:List Nat} (nd:ps.Nodup) (hb:∀ p ∈ ps,p < 24):ue ps.length (fun i q=>P 5 ((ps.getD q 0:Nat) * (1+(i:Int)))):=by
 have hg:∀ q,q < ps.length→ps.getD q 0 < 24:=fun q hq=>by rw [getD_get hq];exact hb _ (List.getElem_mem _)
 refine (ue.congr (b:=fun i q=>((5:Int) ^ ps.getD q 0) ^ (i+1)) fun i q hi hq=>?_).mpr ?_
 ·have e:((ps.getD q 0:Nat) * (1+(i:Int))).toNat=ps.getD q 0 * (i+1):=by
   have:((ps.getD q 0:Nat):Int) * (1+(i:Int))=((ps.getD q 0 * (i+1):Nat):Int):=by rw [Int.natCast_mul,Int.natCast_add];congr 1;omega
   rw [this,Int.toNat_natCast]
  show (97:Int) ∣ (5:Int) ^ ((ps.getD q 0:Nat) * (1+(i:Int))).toNat % 97 - _
  rw [e,Int.pow_mul]
  exact fI _
 ·intro z hz i hi
  refine Cs ps.length (fun q=>(5:Int) ^ ps.getD q 0) z (fun i _=>fJ iM _) (fun i j hi hj WI=>dQ (hg i hi) (hg j hj) fun e=>?_) hz i hi
  rw [getD_get hi,getD_get hj] at e
  exact WI ((List.getElem_inj nd).mp e)
theorem SM {n:Nat} {a:me} {b x y:Nat→Int} (hr:ue n a) (hx:∀ i,i < n→(97:Int) ∣ ip n (a i) x - b i) (hy:∀ i,i < n→(97:Int) ∣ ip n (a i) y - b i):∀ i,i < n→(97:Int) ∣ x i - y i:=by
 intro i hi
 refine hr (fun j=>x j - y j) (fun i hi=>?_) i hi
 have e:ip n (a i) (fun j=>x j - y j)=ip n (a i) x - ip n (a i) y:=by
  have:=dG 1 (-1) (fun j=>a i j * x j) (fun j=>a i j * y j) n
  unfold ip
  rw [show sumTo n (fun j=>a i j * (x j - y j))=sumTo n (fun j=>1 * (a i j * x j)+-1 * (a i j * y j)) from bF n fun j _=>by grind,this]
  omega
 rw [e]
 have:=Int.dvd_sub (hx i hi) (hy i hi)
 rwa [show ip n (a i) x - b i - (ip n (a i) y - b i)=ip n (a i) x - ip n (a i) y by omega] at this
theorem Cw {f g x:Nat→Int} {ps:List Nat} (bf:∀ i,i < 24→0≤f i∧f i < 97) (h:pP f g) (hn:¬ bZ f) (hp:JE (fun j=>T (St j) 24 f) ps)
  (hx:∀ i,i < ps.length→(97:Int) ∣ ip ps.length (fun q=>P 5 ((ps.getD q 0:Nat) * (1+(i:Int)))) x - T (St i) 24 f):∀ i,i < 24→vT f ps x ps.length i=g i:=by
 have e:=BA bf h hn hp
 have yV:=hp.yV
 have hy:∀ i,i < ps.length→(97:Int) ∣ ip ps.length (fun q=>P 5 ((ps.getD q 0:Nat) * (1+(i:Int)))) (fun q=>f (ps.getD q 0) - g (ps.getD q 0)) - T (St i) 24 f:=fun i hi=>by
  have k:=yY h (j:=i) (by omega)
  rw [← e] at k
  have k2:(97:Int) ∣ ip ps.length (fun q=>P 5 ((ps.getD q 0:Nat) * (1+(i:Int)))) (fun q=>f (ps.getD q 0) - g (ps.getD q 0)) - lsum ps fun i'=>(f i' - g i') * St i ^ i':=by
   have h1:=dG 1 (-1) (fun q=>P 5 ((ps.getD q 0:Nat) * (1+(i:Int))) * (f (ps.getD q 0) - g (ps.getD q 0))) (fun q=>(f (ps.getD q 0) - g (ps.getD q 0)) * St i ^ ps.getD q 0) ps.length
   have h2:(97:Int) ∣ sumTo ps.length fun q=>1 * (P 5 ((ps.getD q 0:Nat) * (1+(i:Int))) * (f (ps.getD q 0) - g (ps.getD q 0)))+-1 * ((f (ps.getD q 0) - g (ps.getD q 0)) * St i ^ ps.getD q 0):=fu _ fun q _=>by
    have ee:((ps.getD q 0:Nat) * (1+(i:Int))).toNat=ps.getD q 0 * (i+1):=by
     have:((ps.getD q 0:Nat):Int) * (1+(i:Int))=((ps.getD q 0 * (i+1):Nat):Int):=by rw [Int.natCast_mul,Int.natCast_add];congr 1;omega
     rw [this,Int.toNat_natCast]
    have h3:(97:Int) ∣ P 5 ((ps.getD q 0:Nat) * (1+(i:Int))) - (5 ^ ps.getD q 0) ^ (i+1):=by
     unfold P
     rw [ee,Int.pow_mul]
     exact fI _
    obtain ⟨a,ha⟩:=h3
    obtain ⟨c,hc⟩:=qm (p:=ps.getD q 0) (show i < 6 by omega)
    generalize P 5 ((ps.getD q 0:Nat) * (1+(i:Int)))=A at *
    generalize ((5:Int) ^ ps.getD q 0) ^ (i+1)=B at *
    generalize St i ^ ps.getD q 0=C at *
    have e1:A=B+97 * a:=by omega
    have e2:C=B+97 * c:=by omega
    rw [e1,e2]
    exact ⟨(f (ps.getD q 0) - g (ps.getD q 0)) * (a - c),by grind⟩
   rw [h1] at h2
   have e5:∀ a b:Int,1 * a+-1 * b=a - b:=fun a b=>by omega
   rw [e5] at h2
   exact h2
  have:=Int.dvd_sub k2 k
  omega
 have hu:=SM (FF hp.nd hp.b) hx hy
 intro i hi
 by_cases hm:i ∈ ps
 ·obtain ⟨k,hk,rfl⟩:=List.getElem_of_mem hm
  have h1:=(JH f hp.nd x ps.length (Nat.le_refl _)).1 k hk
  rw [getD_get hk] at h1
  rw [h1]
  have h2:=hu k hk
  rw [getD_get hk] at h2
  have h3:=h.b ps[k] hi
  omega
 ·rw [zQ f ps x ps.length (Nat.le_refl _) i hm]
  apply Classical.byContradiction
  intro z
  exact hm (by rw [e];exact bw.mpr ⟨hi,z⟩)
theorem Cy {f x:Nat→Int} {ps:List Nat} (bf:∀ i,i < 24→0≤f i∧f i < 97) (nd:ps.Nodup) (yV:ps.length≤2) (hs:bZ (vT f ps x ps.length)):pP f (vT f ps x ps.length) where
 b:=JG ps x bf ps.length
 sealed:=hs
 yV:=Nat.le_trans (fw _ ps (fv _ _ _) fun i hi=>by
  apply Classical.byContradiction
  intro z
  exact (bw.mp hi).2 (zQ f ps x ps.length (Nat.le_refl _) i z).symm) yV
theorem pP.self {f:Nat→Int} (bf:∀ i,i < 24→0≤f i∧f i < 97) (h:bZ f):pP f f:=⟨bf,h,by
 have e:eQ 24 f f=[]:=by simp [eQ]
 rw [e];exact Nat.zero_le _⟩
end My
set_option genInjectivity false
namespace K37
open PySem L2 PyProof.Rows
def top (i:Nat):Stmt:=PySem.Challenge.pw_stormpost_k37_whole_numbers_come_round.main.body.getD i (.Pass ⟨0,0,0,0⟩)
abbrev oX:Stmt:=top 10
abbrev jS:Stmt:=top 11
abbrev jT:Stmt:=top 12
abbrev uf:Stmt:=top 13
abbrev oY:Stmt:=top 14
abbrev lH:Stmt:=top 15
abbrev iV:Stmt:=top 16
abbrev gc:Stmt:=top 17
abbrev jU:Stmt:=top 18
abbrev iW:Stmt:=top 19
abbrev iN:Stmt:=top 20
abbrev kL:Stmt:=top 21
abbrev iG:Stmt:=top 27
abbrev jV:Stmt:=top 28
abbrev lI:Stmt:=top 29
abbrev iX:Stmt:=top 30
abbrev jW:Stmt:=top 31
abbrev kM:Stmt:=top 32
abbrev mz:Stmt:=top 33
abbrev jX:Stmt:=top 37
abbrev fK:Stmt:=top 38
abbrev lJ:Stmt:=top 39
abbrev iH:Stmt:=top 41
abbrev oZ:Stmt:=top 42
abbrev dC:Stmt:=top 43
abbrev iY:Stmt:=top 44
abbrev qo:Stmt:=top 45
abbrev fL:Stmt:=top 47
abbrev fM:Stmt:=top 48
abbrev iI:Stmt:=top 58
abbrev jY:Stmt:=top 61
abbrev fN:Stmt:=top 62
abbrev gd:Stmt:=top 63
abbrev jZ:Stmt:=top 64
abbrev iJ:Stmt:=top 65
abbrev eG:Stmt:=top 66
abbrev ja:Stmt:=top 67
abbrev vU:Stmt:=top 68
def cw:Stmt→List Stmt
 | .ClassDef _ _ _ b _ _ _ _ _ _ _=>b
 | _=>[]
abbrev sL:Stmt:=(cw (top 59)).getD 0 (.Pass ⟨0,0,0,0⟩)
abbrev cF:Stmt:=(cw (top 59)).getD 1 (.Pass ⟨0,0,0,0⟩)
abbrev m8:Stmt:=(cw (top 59)).getD 2 (.Pass ⟨0,0,0,0⟩)
abbrev dY:Stmt:=(cw (top 59)).getD 3 (.Pass ⟨0,0,0,0⟩)
abbrev sN:Stmt:=(cw (top 59)).getD 4 (.Pass ⟨0,0,0,0⟩)
abbrev sO:Stmt:=(cw (top 59)).getD 5 (.Pass ⟨0,0,0,0⟩)
abbrev iO:Stmt:=(cw (top 59)).getD 6 (.Pass ⟨0,0,0,0⟩)
abbrev kN:Stmt:=(cw (top 59)).getD 7 (.Pass ⟨0,0,0,0⟩)
abbrev dZ:Stmt:=(cw (top 59)).getD 8 (.Pass ⟨0,0,0,0⟩)
abbrev da:Stmt:=(cw (top 59)).getD 9 (.Pass ⟨0,0,0,0⟩)
abbrev dc:Stmt:=(cw (top 59)).getD 10 (.Pass ⟨0,0,0,0⟩)
abbrev yZ:Stmt:=(cw (top 59)).getD 11 (.Pass ⟨0,0,0,0⟩)
abbrev GZ:Stmt:=(cw (top 59)).getD 12 (.Pass ⟨0,0,0,0⟩)
abbrev oa:Stmt:=(cw (top 59)).getD 13 (.Pass ⟨0,0,0,0⟩)
abbrev kO:Stmt:=(cw (top 59)).getD 14 (.Pass ⟨0,0,0,0⟩)
structure Ad where
 BadCell:Addr
 BadMeasure:Addr
 BadPiece:Addr
 BadSign:Addr
 DIVISOR:Addr
 LinkEnd:Addr
 NoLink:Addr
 init:Addr
 cG:Addr
 vV:Addr
 fO:Addr
 vW:Addr
 vX:Addr
 kP:Addr
 kQ:Addr
 fP:Addr
 fQ:Addr
 fR:Addr
 BB:Addr
 JI:Addr
 qp:Addr
 kR:Addr
structure Txt (K:PySem.W.Frag) (mg:Str→Option Value) (t:Ad):Prop where
 qq:∃ tk,mg "BIRTH_SIGNS"=some (.int 2 tk)
 Ga:∃ tk,mg "COUNT_AT"=some (.int 5 tk)
 qr:∃ tk,mg "FREE_PLACES"=some (.int 18 tk)
 ya:∃ tk,mg "KNOWN_AT"=some (.int 2 tk)
 Cz:∃ tk,mg "LENGTH_AT"=some (.int 6 tk)
 m9:∃ tk,mg "LONGEST_PIECE"=some (.int 10 tk)
 vY:∃ tk,mg "MOST_LATE"=some (.int 6 tk)
 vZ:∃ tk,mg "MOST_LOST"=some (.int 4 tk)
 og:∃ tk,mg "NO_BIRTH"=some (.int 0 tk)
 vd:∃ tk,mg "NUMBER_AT"=some (.int 4 tk)
 yb:∃ tk,mg "PIECE_AT"=some (.int 7 tk)
 zR:∃ tk,mg "PLACES"=some (.int 24 tk)
 FG:∃ tk,mg "ROOT"=some (.int 5 tk)
 cE:∃ tk,mg "SIGNS"=some (.int 97 tk)
 FH:∃ tk,mg "SUMS"=some (.int 6 tk)
 SN:mg "int"=none
 iZ:mg "len"=none
 pQ:mg "list"=none
 JJ:mg "max"=none
 SO:mg "min"=none
 dP:mg "range"=none
 ve:mg "reversed"=none
 FI:mg "zip"=none
 BC:mg "BadCell"=some (.ref t.BadCell)
 t7:mg "BadMeasure"=some (.ref t.BadMeasure)
 yc:mg "BadPiece"=some (.ref t.BadPiece)
 vf:mg "BadSign"=some (.ref t.BadSign)
 JK:mg "DIVISOR"=some (.ref t.DIVISOR)
 BD:mg "LinkEnd"=some (.ref t.LinkEnd)
 Ll:mg "NoLink"=some (.ref t.NoLink)
 BE:PySem.W.excIn K t.BadCell [.type "ValueError",.type "Exception",.type "BaseException",.type "object"] "ValueError.__new__"=true
 SQ:sD K t.BadCell
 t8:PySem.W.excIn K t.BadMeasure [.type "ValueError",.type "Exception",.type "BaseException",.type "object"] "ValueError.__new__"=true
 Nk:sD K t.BadMeasure
 yd:PySem.W.excIn K t.BadPiece [.type "ValueError",.type "Exception",.type "BaseException",.type "object"] "ValueError.__new__"=true
 Qi:sD K t.BadPiece
 vg:PySem.W.excIn K t.BadSign [.type "ValueError",.type "Exception",.type "BaseException",.type "object"] "ValueError.__new__"=true
 SR:sD K t.BadSign
 Lm:PySem.W.excIn K t.NoLink [.type "ValueError",.type "Exception",.type "BaseException",.type "object"] "ValueError.__new__"=true
 Ug:sD K t.NoLink
 BF:O7 K t.DIVISOR [V.int (21),V.int (80),V.int (53),V.int (2),V.int (55),V.int (63)]
 BG:Mk K t.LinkEnd t.init
 fi:∃ fd,jh K "__init__" "LinkEnd.__init__" sL t.init fd
 aK:F5 K t.LinkEnd
 vh:cu K t.LinkEnd "quiet"
 FJ:cu K t.LinkEnd "side"
 ug:cu K t.LinkEnd "done"
 lK:cu K t.LinkEnd "unheard"
 kS:cu K t.LinkEnd "birth"
 fS:cu K t.LinkEnd "known"
 fT:cu K t.LinkEnd "pair"
 lL:cu K t.LinkEnd "told"
 fz:cu K t.LinkEnd "pieces"
 lM:cu K t.LinkEnd "offered"
 nB:cu K t.LinkEnd "taken"
 kT:mo K t.LinkEnd "forget_pieces" t.cG
 uO:∃ fd,jh K "forget_pieces" "LinkEnd.forget_pieces" cF t.cG fd
 Ln:mo K t.LinkEnd "tick" t.vV
 PK:∃ fd,jh K "tick" "LinkEnd.tick" m8 t.vV fd
 xH:mo K t.LinkEnd "cell_given" t.fO
 zS:∃ fd,jh K "cell_given" "LinkEnd.cell_given" dY t.fO fd
 Lo:mo K t.LinkEnd "read" t.vW
 PL:∃ fd,jh K "read" "LinkEnd.read" sN t.vW fd
 Lp:mo K t.LinkEnd "meet" t.vX
 PM:∃ fd,jh K "meet" "LinkEnd.meet" sO t.vX fd
 C0:mo K t.LinkEnd "come_up" t.kP
 Gb:∃ fd,jh K "come_up" "LinkEnd.come_up" iO t.kP fd
 ye:mo K t.LinkEnd "end_up" t.kQ
 JL:∃ fd,jh K "end_up" "LinkEnd.end_up" kN t.kQ fd
 xI:mo K t.LinkEnd "start_over" t.fP
 zT:∃ fd,jh K "start_over" "LinkEnd.start_over" dZ t.fP fd
 xJ:mo K t.LinkEnd "hear_count" t.fQ
 zU:∃ fd,jh K "hear_count" "LinkEnd.hear_count" da t.fQ fd
 xK:mo K t.LinkEnd "take_piece" t.fR
 zV:∃ fd,jh K "take_piece" "LinkEnd.take_piece" dc t.fR fd
 PN:mo K t.LinkEnd "put" t.BB
 SS:∃ fd,jh K "put" "LinkEnd.put" yZ t.BB fd
 SU:mo K t.LinkEnd "up" t.JI
 WK:∃ fd,jh K "up" "LinkEnd.up" GZ t.JI fd
 BH:mo K t.LinkEnd "waits" t.qp
 Lq:∃ fd,jh K "waits" "LinkEnd.waits" oa t.qp fd
 yf:mo K t.LinkEnd "events" t.kR
 JM:∃ fd,jh K "events" "LinkEnd.events" kO t.kR fd
section
variable {P:Program} {w:World} {K:PySem.W.Frag} {mg:Str→Option Value} {base:Heap} {t:Ad}
def lN:Sp:=fun vs H Q _=>∃ n:Int,vs=[.int n]∧Q (.bl (decide (0≤n∧n < 97))) H
theorem C1:aS ["number"] ["number"] (aG oX):=⟨rfl,rfl,rfl,by decide +kernel,rfl,by decide +kernel,by decide +kernel⟩
theorem C2 (F:aR K mg "is_sign" oX) (T:Txt K mg t):Def P w K mg base 1 "is_sign" ["number"] lN:=by
 refine F.def C1 (fun _ _ _ _ _ _ us hl=>match us,hl with | [_],_=>rfl) (fun vs H Q E h=>?_) (fun f be A outer s H vs Q E hr h=>?_)
 ·obtain ⟨n,rfl,_⟩:=h
  rfl
 ·obtain ⟨n,rfl,q⟩:=h
  refine ⟨_,aH (ar (ID uy ux aF (pv 0) (aV T.cE))),?_⟩
  refine ⟨_,rfl,_,_,rfl,rfl,_,rfl,?_⟩
  by_cases h0:0≤n
  ·rw [decide_eq_true h0]
   refine gw ⟨_,_,rfl,rfl,?_⟩
   have e:decide (n < 97)=decide (0≤n∧n < 97):=by simp [h0]
   show Q (.bl (decide (n < 97))) H
   rw [e]
   exact q
  ·rw [decide_eq_false h0]
   refine gu ?_
   have e:false=decide (0≤n∧n < 97):=by simp [h0]
   show Q (.bl false) H
   rw [e]
   exact q
def BI (m:Int) (ns:List Int):Prop:=(ns.length:Int)=m∧∀ n ∈ ns,0≤n∧n < 97
def jk (K:PySem.W.Frag) (C:Addr):Sp:=fun vs H Q E=>∃ (l:Addr) (ns:List Int) (m:Int),vs=[.ref l,.int m]∧aY K H l (ns.map V.int)∧(∀ n ∈ ns,n.natAbs < 2 ^ 1000)∧m.natAbs < 2 ^ 1000 ∧
 (BI m ns→Q .bq H)∧(¬ BI m ns→E (.ref C) none H)
theorem fU {i:Int} (h:i.natAbs < 2 ^ 1000):(Str.ofString (toString i)).length≤1001:=by
 have hl:i.natAbs.log2 < 1000:=by
  by_cases z:i.natAbs=0
  ·rw [z];decide
  ·exact (Nat.log2_lt z).mpr h
 have e:=int_text_length_le (k:=1000) (by decide) hl
 rw [PySem.ofString_length];omega
theorem oy:aS ["signs","many","sign"] ["signs","many"] (aG iG):=⟨rfl,rfl,rfl,by decide +kernel,rfl,by decide +kernel,by decide +kernel⟩
theorem xM (F:aR K mg "look_signs" iG) (T:Txt K mg t) (f6:Def P w K mg base 1 "is_sign" ["number"] lN):Def P w K mg base 2 "look_signs" ["signs","many"] (jk K t.BadCell):=by
 refine F.def oy (fun _ _ _ _ _ _ us hl=>match us,hl with | [_,_],_=>rfl) (fun vs H Q E h=>?_) (fun f be A outer s H vs Q E hr h=>?_)
 ·obtain ⟨l,ns,m,rfl,_⟩:=h
  rfl
 ·obtain ⟨l,ns,m,rfl,hl,hb,hm,q1,q2⟩:=h
  refine ⟨_,aD (bu (aj yF (bR (bY K) (by rfl) T.iZ boot_len (aA (pv 0) aC)) (pv 1) (au _))
    (aH (eF bC rfl rfl T.BC T.BE PySem.F.excBase_ValueError (aA (jQ (bT (fH (pv 1)) (bT cT mr))) aC)))
    (bD))
   (aH (cq (Ou bC) rfl (cC K (pv 0)) (az (i:=2) oy.nd rfl (Or.inl rfl))
    (aH (bu (pG (rg (aa (f6.mono (by decide)) hr av (aA (pv 2) aC))))
     (aH (eF bC rfl rfl T.BC T.BE PySem.F.excBase_ValueError (aA (jQ (bT (fH (pv 2)) (bT cT mr))) aC)))
     (bD))))),?_⟩
  have sl:(2000:Nat)≤sizeLine:=by decide
  refine ⟨_,rfl,l,_,rfl,.inl hl,_,rfl,rfl,_,rfl,?_⟩
  by_cases hlen:(ns.length:Int)=m
  ·refine vG (by rw [List.length_map,hlen]) ?_
   refine ⟨_,rfl,l,rfl,⟨_,hl⟩,iT (K:=K) (a:=l) (xs:=ns.map V.int) (fun i σ H'=>∃ x:Option V,σ=[some (.ref l),some (.int m),x]∧H'=H∧∀ n ∈ ns.take i,0≤n∧n < 97) ⟨none,rfl,rfl,fun n hn=>by simp at hn⟩ (fun i σ H' _ ⟨_,_,e,_⟩=>by rw [e];exact hl) ?_ ?_⟩
   ·rintro i y σ H' hi ⟨x,rfl,rfl,ha⟩
    obtain ⟨z,hz,rfl⟩:=oU hi
    have PQ:z ∈ ns:=List.mem_of_getElem? hz
    refine ⟨_,rfl,z,rfl,_,rfl,?_⟩
    by_cases h0:0≤z∧z < 97
    ·rw [decide_eq_true h0]
     refine gu ⟨some (.int z),rfl,rfl,?_⟩
     rw [take_succ hz]
     intro n hn
     rcases List.mem_append.mp hn with z1 | z1
     ·exact ha n z1
     ·rw [List.mem_singleton.mp z1];exact h0
    ·rw [decide_eq_false h0]
     refine gw ?_
     have YA:=fU (hb z PQ)
     have e0:(Str.empty ++ Str.ofString (toString z)).length≤1001:=by rw [strLen_append];show 0+_≤1001;omega
     have e1:((Str.empty ++ Str.ofString (toString z)) ++ (" is no sign":Str)).length≤2000:=by
      have:(" is no sign":Str).length=11:=by decide +kernel
      rw [strLen_append];omega
     refine ⟨_,rfl,z,rfl,dH (hb z PQ) (by decide) (by decide),_,rfl,by omega,_,rfl,by omega,by omega,?_⟩
     exact ⟨by show 1≤sizeLine;decide,q2 fun r=>h0 (r.2 z PQ)⟩
   ·rintro σ H' ⟨x,rfl,rfl,ha⟩
    rw [List.length_map,List.take_length] at ha
    exact q1 ⟨hlen,ha⟩
  ·refine yQ (fun e=>hlen (by have:=V.int.inj e;rwa [List.length_map] at this)) ?_
   have YA:=fU hm
   have e0:(Str.empty ++ Str.ofString (toString m)).length≤1001:=by rw [strLen_append];show 0+_≤1001;omega
   have e1:((Str.empty ++ Str.ofString (toString m)) ++ (" signs are asked for here":Str)).length≤2000:=by
    have:(" signs are asked for here":Str).length=25:=by decide +kernel
    rw [strLen_append];omega
   refine ⟨_,rfl,m,rfl,dH hm (by decide) (by decide),_,rfl,by omega,_,rfl,by omega,by omega,?_⟩
   exact ⟨by show 1≤sizeLine;decide,q2 fun r=>hlen r.1⟩
structure IsCell (n:Nat) (f:Nat→Int):Prop where
 b:∀ i,i < n→0≤f i∧f i < 97
theorem IsCell.row {n:Nat} {f:Nat→Int} (h:IsCell n f):BI n ((List.range n).map f):=by
 refine ⟨by simp,fun x hx=>?_⟩
 obtain ⟨i,hi,rfl⟩:=List.mem_map.mp hx
 exact h.b i (List.mem_range.mp hi)
theorem IsCell.YB {n:Nat} {f:Nat→Int} (h:IsCell n f):∀ x ∈ (List.range n).map f,x.natAbs < 2 ^ 1000:=fun x hx=>by
 obtain ⟨i,hi,rfl⟩:=List.mem_map.mp hx
 have:=h.b i (List.mem_range.mp hi)
 exact dW (by omega) (by omega)
def qu (K:PySem.W.Frag) (C:Addr):Sp:=fun vs H Q E=>∃ (l:Addr) (ns:List Int),vs=[.ref l]∧aY K H l (ns.map V.int)∧(∀ n ∈ ns,n.natAbs < 2 ^ 1000) ∧
 (BI 24 ns→Q .bq H)∧(¬ BI 24 ns→E (.ref C) none H)
theorem zW:aS ["cell"] ["cell"] (aG jV):=⟨rfl,rfl,rfl,by decide +kernel,rfl,by decide +kernel,by decide +kernel⟩
theorem zX (F:aR K mg "look_cell" jV) (T:Txt K mg t) (de:Def P w K mg base 2 "look_signs" ["signs","many"] (jk K t.BadCell)):Def P w K mg base 3 "look_cell" ["cell"] (qu K t.BadCell):=by
 refine F.def zW (fun _ _ _ _ _ _ us hl=>match us,hl with | [_],_=>rfl) (fun vs H Q E h=>?_) (fun f be A outer s H vs Q E hr h=>?_)
 ·obtain ⟨l,ns,rfl,_⟩:=h
  rfl
 ·obtain ⟨l,ns,rfl,hl,hb,q1,q2⟩:=h
  refine ⟨_,aH (ay (aa (de.mono (by decide)) hr (kH bC) (aA (pv 0) (aA (aV T.zR) aC)))),?_⟩
  exact ⟨_,rfl,l,ns,24,rfl,hl,hb,by decide,q1,q2⟩
end
end K37
namespace K37
open PySem L2 PyProof.Rows
section
variable {P:Program} {w:World} {K:PySem.W.Frag} {mg:Str→Option Value} {base:Heap} {t:Ad}
def iK (C:Addr):Sp:=fun vs H Q E=>∃ n:Int,vs=[.int n]∧n.natAbs < 2 ^ 1000∧(0≤n∧n < 97→Q .bq H)∧(¬ (0≤n∧n < 97)→E (.ref C) none H)
theorem zY:aS ["number"] ["number"] (aG jS):=⟨rfl,rfl,rfl,by decide +kernel,rfl,by decide +kernel,by decide +kernel⟩
theorem zZ (F:aR K mg "look_sign" jS) (T:Txt K mg t) (D1:Def P w K mg base 1 "is_sign" ["number"] lN):Def P w K mg base 2 "look_sign" ["number"] (iK t.BadSign):=by
 refine F.def zY (fun _ _ _ _ _ _ us hl=>match us,hl with | [_],_=>rfl) (fun vs H Q E h=>?_) (fun f be A outer s H vs Q E hr h=>?_)
 ·obtain ⟨n,rfl,_⟩:=h
  rfl
 ·obtain ⟨n,rfl,hb,q1,q2⟩:=h
  refine ⟨_,aH (bu (pG (rg (aa D1 hr av (aA (pv 0) aC))))
   (aH (eF bC rfl rfl T.vf T.vg PySem.F.excBase_ValueError (aA (jQ (bT (fH (pv 0)) (bT cT mr))) aC))) bD),?_⟩
  refine ⟨_,rfl,n,rfl,_,rfl,?_⟩
  by_cases h0:0≤n∧n < 97
  ·rw [decide_eq_true h0]
   exact gu (q1 h0)
  ·rw [decide_eq_false h0]
   refine gw ?_
   have hz:=fU hb
   have e0:(Str.empty ++ Str.ofString (toString n)).length≤1001:=by rw [strLen_append];show 0+_≤1001;omega
   have e1:((Str.empty ++ Str.ofString (toString n)) ++ (" is no sign":Str)).length≤2000:=by
    have:(" is no sign":Str).length=11:=by decide +kernel
    rw [strLen_append];omega
   have sl:(2000:Nat)≤sizeLine:=by decide
   refine ⟨_,rfl,n,rfl,dH hb (by decide) (by decide),_,rfl,by omega,_,rfl,by omega,by omega,?_⟩
   exact ⟨by show 1≤sizeLine;decide,q2 h0⟩
def lO (C:Addr):Sp:=fun vs H Q E=>∃ n:Int,vs=[.int n]∧n.natAbs < 2 ^ 1000∧(0 < n∧n < 97→Q .bq H)∧(¬ (0 < n∧n < 97)→E (.ref C) none H)
theorem za:aS ["number"] ["number"] (aG jT):=⟨rfl,rfl,rfl,by decide +kernel,rfl,by decide +kernel,by decide +kernel⟩
theorem zb (F:aR K mg "look_unit" jT) (T:Txt K mg t) (D2:Def P w K mg base 2 "look_sign" ["number"] (iK t.BadSign)):Def P w K mg base 3 "look_unit" ["number"] (lO t.BadSign):=by
 refine F.def za (fun _ _ _ _ _ _ us hl=>match us,hl with | [_],_=>rfl) (fun vs H Q E h=>?_) (fun f be A outer s H vs Q E hr h=>?_)
 ·obtain ⟨n,rfl,_⟩:=h
  rfl
 ·obtain ⟨n,rfl,hb,q1,q2⟩:=h
  refine ⟨_,aD (ay (aa D2 hr (kH bC) (aA (pv 0) aC)))
   (aH (bu (aj jN (pv 0) aF (au _)) (aH (eF bC rfl rfl T.vf T.vg PySem.F.excBase_ValueError (aA cT aC))) bD)),?_⟩
  refine ⟨_,rfl,n,rfl,hb,fun h0=>?_,fun h0=>q2 (by omega)⟩
  refine ⟨_,rfl,rfl,_,rfl,?_⟩
  by_cases z:n=0
  ·subst z
   refine gw ?_
   exact ⟨by show 1≤sizeLine;decide,q2 (by omega)⟩
  ·have e:decide (V.int n=V.int 0)=false:=decide_eq_false fun q=>z (V.int.inj q)
   rw [e]
   exact gu (q1 (by omega))
def nC (C:Addr):Sp:=fun vs H Q E=>∃ a k:Int,vs=[.int a,.int k]∧a.natAbs < 2 ^ 1000∧0≤k∧(0≤a∧a < 97→Q (.int (My.P a k)) H)∧(¬ (0≤a∧a < 97)→E (.ref C) none H)
def JN:L2.St→Hp→Nat:=fun σ _=>match σ with
 | [_,_,_,_,some (.int s)]=>s.toNat
 | _=>0
theorem ia:aS ["a","k","product","square","left"] ["a","k"] (aG uf):=⟨rfl,rfl,rfl,by decide +kernel,rfl,by decide +kernel,by decide +kernel⟩
theorem JO (F:aR K mg "power" uf) (T:Txt K mg t) (dR:Def P w K mg base 2 "look_sign" ["number"] (iK t.BadSign)):Def P w K mg base 3 "power" ["a","k"] (nC t.BadSign):=by
 refine F.def ia (fun _ _ _ _ _ _ us hl=>match us,hl with | [_,_],_=>rfl) (fun vs H Q E h=>?_) (fun f be A outer s H vs Q E hr h=>?_)
 ·obtain ⟨a,k,rfl,_⟩:=h
  rfl
 ·obtain ⟨a,k,rfl,hb,k0,q1,q2⟩:=h
  refine ⟨_,aD (ay (aa (dR.mono (by decide)) hr (kH bC) (aA (pv 0) aC)))
   (aD (aZ (i:=2) ia.nd rfl (Or.inl rfl) aF)
   (aD (aZ (i:=3) ia.nd rfl (Or.inl rfl) (pv 0))
   (aD (aZ (i:=4) ia.nd rfl (Or.inl rfl) (pv 1))
   (aD (PS.uX (Ac PassesOwn.never (aj Ah (pv 4) aF (au _))
    (aD (bu (aj jN (aP bG (pv 4) aF) aF (au _))
     (aH (aZ (i:=2) ia.nd rfl (Or.inl rfl) (aP bG (aP b9 (pv 2) (pv 3)) (aV T.cE))))
     (bD))
    (aD (aZ (i:=3) ia.nd rfl (Or.inl rfl) (aP bG (aP b9 (pv 3) (pv 3)) (aV T.cE)))
    (aH (aZ (i:=4) ia.nd rfl (Or.inl rfl) (aP jM (pv 4) aF)))))))
   (aH (ar (pv 2))))))),?_⟩
  refine ⟨_,rfl,a,rfl,hb,fun h0=>?_,fun h0=>q2 h0⟩
  refine ⟨_,rfl,?_⟩
  refine ⟨_,rfl,?_⟩
  refine Ag (fun σ H'=>∃ p q l:Int,σ=[some (.int a),some (.int k),some (.int p),some (.int q),some (.int l)]∧H'=H∧0≤p∧p < 97∧0≤q∧q < 97∧0≤l∧p * q ^ l.toNat % 97=My.P a k) JN ⟨1,a,k,rfl,rfl,by decide,by decide,h0.1,h0.2,k0,My.A6⟩ ?_ ?_
  ·rintro σ H' ⟨p,q,l,rfl,rfl,p0,p1,q0,q1',l0,hh⟩
   refine ⟨_,rfl,_,_,rfl,rfl,_,rfl,?_⟩
   refine Oj (fun h=>?_) (fun h=>?_)
   ·have hl:0 < l:=of_decide_eq_true h
    have YC:(l / 2).toNat < l.toNat:=by omega
    refine ⟨_,rfl,_,_,rfl,rfl,(by show (0:Int) < 2;decide),rfl,_,rfl,?_⟩
    refine Oj (fun h2=>?_) (fun h2=>?_)
    ·have ho:l % 2=1:=V.int.inj (of_decide_eq_true h2)
     refine ⟨_,rfl,_,rfl,_,_,rfl,rfl,.inl ⟨by omega,by omega⟩,_,_,rfl,rfl,(by show (0:Int) < 97;decide),?_⟩
     refine ⟨_,rfl,_,rfl,_,_,rfl,rfl,.inl ⟨by omega,by omega⟩,_,_,rfl,rfl,(by show (0:Int) < 97;decide),?_⟩
     refine ⟨_,rfl,_,_,rfl,rfl,⟨by decide,by decide⟩,?_⟩
     exact ⟨⟨_,_,_,rfl,rfl,Int.emod_nonneg _ (by decide),Int.emod_lt_of_pos _ (by decide),Int.emod_nonneg _ (by decide),Int.emod_lt_of_pos _ (by decide),by omega,My.GU hl ho hh⟩,YC⟩
    ·have ho:l % 2≠1:=fun z=>h2 (decide_eq_true (congrArg V.int z))
     refine ⟨_,rfl,_,rfl,_,_,rfl,rfl,.inl ⟨by omega,by omega⟩,_,_,rfl,rfl,(by show (0:Int) < 97;decide),?_⟩
     refine ⟨_,rfl,_,_,rfl,rfl,⟨by decide,by decide⟩,?_⟩
     exact ⟨⟨_,_,_,rfl,rfl,p0,p1,Int.emod_nonneg _ (by decide),Int.emod_lt_of_pos _ (by decide),by omega,My.Co hl ho hh⟩,YC⟩
   ·have hl:¬ 0 < l:=fun z=>h (decide_eq_true z)
    refine ⟨_,rfl,?_⟩
    rw [My.GV (by omega) p0 p1 hh]
    exact q1 h0
  ·rintro σ H' Q1 Q2 hm ⟨v,e,i,j,ei,ej,k,ek,q⟩
   exact ⟨v,e,i,j,ei,ej,k,ek,hm _ _ q⟩
def pR (C:Addr):Sp:=fun vs H Q E=>∃ a:Int,vs=[.int a]∧a.natAbs < 2 ^ 1000∧(0 < a∧a < 97→Q (.int (My.P a 95)) H)∧(¬ (0 < a∧a < 97)→E (.ref C) none H)
theorem C3:aS ["a"] ["a"] (aG oY):=⟨rfl,rfl,rfl,by decide +kernel,rfl,by decide +kernel,by decide +kernel⟩
theorem C4 (F:aR K mg "inverse" oY) (T:Txt K mg t) (jb:Def P w K mg base 3 "look_unit" ["number"] (lO t.BadSign)) (eM:Def P w K mg base 3 "power" ["a","k"] (nC t.BadSign)):Def P w K mg base 4 "inverse" ["a"] (pR t.BadSign):=by
 refine F.def C3 (fun _ _ _ _ _ _ us hl=>match us,hl with | [_],_=>rfl) (fun vs H Q E h=>?_) (fun f be A outer s H vs Q E hr h=>?_)
 ·obtain ⟨a,rfl,_⟩:=h
  rfl
 ·obtain ⟨a,rfl,hb,q1,q2⟩:=h
  refine ⟨_,aD (ay (aa (jb.mono (by decide)) hr (kH bC) (aA (pv 0) aC)))
   (aH (ar (aa (eM.mono (by decide)) hr (kH bC) (aA (pv 0) (aA (aP jg (aV T.cE) aF) aC))))),?_⟩
  refine ⟨_,rfl,a,rfl,hb,fun h0=>?_,fun h0=>q2 h0⟩
  refine ⟨_,rfl,_,_,rfl,rfl,a,95,rfl,hb,by decide,fun _=>q1 h0,fun h1=>absurd ⟨by omega,h0.2⟩ h1⟩
def t9 (C:Addr):Sp:=fun vs H Q E=>∃ n:Int,vs=[.int n]∧n.natAbs < 2 ^ 1000∧(0 < n∧n < 97→Q (.int (My.ex n)) H)∧(¬ (0 < n∧n < 97)→E (.ref C) none H)
theorem gq:aS ["a","steps","reached"] ["a"] (aG lH):=⟨rfl,rfl,rfl,by decide +kernel,rfl,by decide +kernel,by decide +kernel⟩
def SV:L2.St→Hp→Nat:=fun σ _=>match σ with
 | [_,some (.int s),_]=>(100 - s).toNat
 | _=>0
theorem BJ (F:aR K mg "exponent" lH) (T:Txt K mg t) (D3:Def P w K mg base 3 "look_unit" ["number"] (lO t.BadSign)):Def P w K mg base 4 "exponent" ["a"] (t9 t.BadSign):=by
 refine F.def gq (fun _ _ _ _ _ _ us hl=>match us,hl with | [_],_=>rfl) (fun vs H Q E h=>?_) (fun f be A outer s H vs Q E hr h=>?_)
 ·obtain ⟨n,rfl,_⟩:=h
  rfl
 ·obtain ⟨a,rfl,hb,q1,q2⟩:=h
  refine ⟨_,aD (ay (aa D3 hr (kH bC) (aA (pv 0) aC)))
   (aD (aZ (i:=1) gq.nd rfl (Or.inl rfl) aF)
   (aD (aZ (i:=2) gq.nd rfl (Or.inl rfl) aF)
   (aD (PS.uX (Ac PassesOwn.never (aj yF (pv 2) (pv 0) (au _))
    (aD (aZ (i:=2) gq.nd rfl (Or.inl rfl) (aP bG (aP b9 (pv 2) (aV T.FG)) (aV T.cE)))
    (aH (aZ (i:=1) gq.nd rfl (Or.inl rfl) (aP bM (pv 1) aF))))))
   (aH (ar (pv 1)))))),?_⟩
  refine ⟨_,rfl,a,rfl,hb,fun h0=>?_,fun h0=>q2 h0⟩
  refine Ag (fun σ H'=>∃ st:Int,σ=[some (.int a),some (.int st),some (.int (My.up st))]∧H'=H∧0≤st∧st≤My.ex a) SV ⟨0,by rw [My.LZ];rfl,rfl,Int.le_refl _,My.Iv a⟩ ?_ ?_
  ·rintro σ H' ⟨st,rfl,rfl,s0,s1⟩
   refine ⟨_,rfl,_,rfl,rfl,_,rfl,?_⟩
   have he:=My.R9 h0.1 h0.2
   by_cases z:My.up st=a
   ·have e:decide (V.int (My.up st)=V.int a)=true:=decide_eq_true (by rw [z])
    rw [e]
    refine gu ⟨_,rfl,?_⟩
    have es:st=My.ex a:=by
     by_cases l:st < My.ex a
     ·exact absurd z (My.SF h0.1 h0.2 s0 l)
     ·omega
    rw [es]
    exact q1 h0
   ·have e:decide (V.int (My.up st)=V.int a)=false:=decide_eq_false fun q=>z (V.int.inj q)
    rw [e]
    refine gw ?_
    have u0:0≤My.up st:=Int.emod_nonneg _ (by decide)
    have u1:My.up st < 97:=Int.emod_lt_of_pos _ (by decide)
    refine ⟨_,rfl,_,_,rfl,rfl,.inl ⟨by omega,by omega⟩,_,_,rfl,rfl,(by show (0:Int) < 97;decide),_,rfl,_,_,rfl,rfl,?_⟩
    have AS:st≠My.ex a:=fun q=>z (by rw [q];exact My.SE h0.1 h0.2)
    refine ⟨⟨st+1,by rw [← My.LY s0 rfl];rfl,rfl,by omega,by omega⟩,?_⟩
    show (100 - (st+1)).toNat < (100 - st).toNat
    omega
  ·rintro σ H' Q1 Q2 hm ⟨v,e,u,e2,hs,k,ek,q⟩
   exact ⟨v,e,u,e2,hs,k,ek,hm _ _ q⟩
def uA (K:PySem.W.Frag):Sp:=fun vs H Q _=>∃ (l:Addr) (n:Nat) (f:Nat→Int) (x:Int),vs=[.ref l,.int x]∧aY K H l (tabI n f)∧Q (.int (My.T x n f)) H
theorem Lr {n:Nat} {f:Nat→V} {i:Nat} {x:V} (h:(cB n f).reverse[i]?=some x):i < n∧x=f (n - 1 - i):=by
 have hi:i < n:=by
  have:=(List.getElem?_eq_some_iff.mp h).1
  rwa [List.length_reverse,aL] at this
 rw [List.getElem?_reverse (by rw [aL];exact hi),aL,ba (by omega)] at h
 exact ⟨hi,(Option.some.inj h).symm⟩
theorem jc:aS ["signs","point","value","sign"] ["signs","point"] (aG lI):=⟨rfl,rfl,rfl,by decide +kernel,rfl,by decide +kernel,by decide +kernel⟩
theorem BK (F:aR K mg "value_at" lI) (T:Txt K mg t):Def P w K mg base 1 "value_at" ["signs","point"] (uA K):=by
 refine F.def jc (fun _ _ _ _ _ _ us hl=>match us,hl with | [_,_],_=>rfl) (fun vs H Q E h=>?_) (fun f be A outer s H vs Q E hr h=>?_)
 ·obtain ⟨l,n,f,x,rfl,_⟩:=h
  rfl
 ·obtain ⟨l,n,f,x,rfl,hl,q⟩:=h
  refine ⟨_,aD (aZ (i:=2) jc.nd rfl (Or.inl rfl) aF)
   (aD (PS.uX (cq PassesOwn.never rfl (zK K (by rfl) T.ve (aA (pv 0) aC)) (az (i:=3) jc.nd rfl (Or.inl rfl))
    (aH (aZ (i:=2) jc.nd rfl (Or.inl rfl) (aP bG (aP bM (aP b9 (pv 2) (pv 1)) (pv 3)) (aV T.cE))))))
   (aH (ar (pv 2)))),?_⟩
  refine ⟨_,rfl,l,_,rfl,hl,LL (K:=K) (a:=l) (xs:=tabI n f) (fun i σ H'=>∃ v:Option V,σ=[some (.ref l),some (.int x),some (.int (My.hv f n x i)),v]∧H'=H) ⟨none,rfl,rfl⟩ (fun i σ H' _ ⟨_,_,e⟩=>by rw [e];exact hl) ?_ ?_⟩
  ·rintro i y σ H' hi ⟨v,rfl,rfl⟩
   obtain ⟨YD,rfl⟩:=Lr hi
   have h0:=My.Nh f n x i
   have h1:=My.Ni f n x i
   refine ⟨_,rfl,_,rfl,_,_,rfl,rfl,.inl ⟨by omega,by omega⟩,_,rfl,_,_,rfl,rfl,_,_,rfl,rfl,(by show (0:Int) < 97;decide),?_⟩
   exact ⟨_,rfl,rfl⟩
  ·rintro σ H' ⟨v,rfl,rfl⟩
   refine ⟨_,rfl,?_⟩
   rw [aL,My.WH]
   exact q
def nE (K:PySem.W.Frag):Sp:=fun vs H Q _=>∃ (l:Addr) (f:Nat→Int),vs=[.ref l]∧aY K H l (tabI 24 f)∧IsCell 24 f ∧
 ∀ p H',H p=none→aI H H'→H' p=some (.lst (tabI 6 fun j=>My.T (My.St j) 24 f))→Q (.ref p) H'
theorem BL:aS ["cell"] ["cell"] (aG iX):=⟨rfl,rfl,rfl,by decide +kernel,rfl,by decide +kernel,by decide +kernel⟩
theorem BM (F:aR K mg "troubles" iX) (T:Txt K mg t) (nF:Def P w K mg base 3 "look_cell" ["cell"] (qu K t.BadCell)) (pS:Def P w K mg base 1 "value_at" ["signs","point"] (uA K)) (eM:Def P w K mg base 3 "power" ["a","k"] (nC t.BadSign)) :
  Def P w K mg base 4 "troubles" ["cell"] (nE K):=by
 refine F.def BL (fun _ _ _ _ _ _ us hl=>match us,hl with | [_],_=>rfl) (fun vs H Q E h=>?_) (fun f be A outer s H vs Q E hr h=>?_)
 ·obtain ⟨l,f,rfl,_⟩:=h
  rfl
 ·obtain ⟨l,f,rfl,hl,cf,q⟩:=h
  refine ⟨_,aD (ay (aa (nF.mono (by decide)) hr av (aA (pv 0) aC)))
   (aH (ar (kG rfl (Nc:=["j","cell"]) (ix:=[none,some 0]) (dJ (aG iX) ["cell"] rfl rfl (by decide +kernel)) (rq (by rfl) T.dP (aA aF (aA (aP bM (aV T.FH) aF) aC))) (fun C fp s H=>⟨(az (i:=0) (show (["j","cell"]:List Str).Nodup by decide +kernel) rfl (Or.inl rfl)),cS,(aa (pS.mono (by decide)) hr av (aA (pv 1) (aA (aa (eM.mono (by decide)) hr av (aA (aV T.FG) (aA (pv 0) aC))) aC)))⟩)))),?_⟩
  have ox:(2000:Nat)≤sizeLine:=by decide
  refine ⟨_,rfl,l,(List.range 24).map f,rfl,by rw [ua];exact hl,cf.YB,fun _=>?_,fun h=>absurd cf.row h⟩
  refine ⟨_,_,rfl,rfl,1,_,rfl,⟨by decide,by decide,by decide,by decide⟩,fun D hD=>?_⟩
  refine kI (lo:=1) (n:=6) (fun i σ H'=>∃ v:Option V,σ=[v,some (.ref l)]∧aI H H'∧H' D=some (.lst (tabI i fun j=>My.T (My.St j) 24 f))) ⟨none,rfl,(aI.refl _).new hD,aB⟩ ?_ ?_
  ·rintro i σ H' N hN hi ⟨v,rfl,s1,h1⟩
   refine dX ?_
   refine ⟨_,rfl,_,rfl,5,_,rfl,by decide,by omega,fun _=>?_,fun h=>absurd (show (0:Int)≤5∧(5:Int) < 97 by decide) h⟩
   refine ⟨l,24,f,_,rfl,s1.seq hl,?_⟩
   rw [My.WG i hi]
   refine ⟨_,h1,by rw [aL];omega,?_⟩
   exact hN _ _ ⟨_,rfl,s1.put hD,jR rfl⟩
  ·rintro σ H' ⟨v,rfl,s1,h1⟩
   exact q D H' hD s1 h1
def oh (f:Nat→Int):Bool:=decide ((List.range 6).map (fun j=>My.T (My.St j) 24 f)=(List.range 6).map fun _=>(0:Int))
theorem jd {f:Nat→Int}:oh f=true↔My.bZ f:=by
 unfold oh My.bZ
 rw [decide_eq_true_iff]
 constructor
 ·intro h j hj
  have:=congrArg (fun l=>l.getD j 0) h
  simp only [GH 6 _ j hj] at this
  exact this
 ·intro h
  apply List.map_congr_left
  intro j hj
  exact h j (List.mem_range.mp hj)
theorem C5 {f:Nat→Int} (h:¬ My.bZ f):oh f=false:=by
 rw [Bool.eq_false_iff]
 exact fun z=>h (jd.mp z)
def qv (K:PySem.W.Frag):Sp:=fun vs H Q _=>∃ (l:Addr) (f:Nat→Int),vs=[.ref l]∧aY K H l (tabI 24 f)∧IsCell 24 f∧∀ H',aI H H'→Q (.bl (oh f)) H'
theorem zd:aS ["cell"] ["cell"] (aG jW):=⟨rfl,rfl,rfl,by decide +kernel,rfl,by decide +kernel,by decide +kernel⟩
theorem ze (F:aR K mg "is_sealed" jW) (T:Txt K mg t) (f7:Def P w K mg base 4 "troubles" ["cell"] (nE K)):Def P w K mg base 5 "is_sealed" ["cell"] (qv K):=by
 refine F.def zd (fun _ _ _ _ _ _ us hl=>match us,hl with | [_],_=>rfl) (fun vs H Q E h=>?_) (fun f be A outer s H vs Q E hr h=>?_)
 ·obtain ⟨l,f,rfl,_⟩:=h
  rfl
 ·obtain ⟨l,f,rfl,hl,cf,q⟩:=h
  refine ⟨_,aH (ar (ku (E7 K (GC hr)) (aa (f7.mono (by decide)) hr av (aA (pv 0) aC)) (aP zG (bH (aA aF aC)) (aV T.FH)) (au _))),?_⟩
  refine ⟨_,rfl,l,f,rfl,hl,cf,fun p H1 hp s1 h1=>?_⟩
  refine ⟨by show 1≤sizeLine;decide,fun a1 PR=>?_⟩
  refine ⟨a1,_,_,rfl,rfl,aB,by decide,by decide,by decide,fun a2 PU=>?_⟩
  have s2:=((aI.refl H1).new (o:=.lst [V.int 0]) PR).new (o:=.lst (List.replicate (6:Int).toNat [V.int 0]).flatten) PU
  refine ⟨p,a2,_,(List.range 6).map fun _=>0,rfl,rfl,aY.of (by rw [ua];exact s2 _ _ h1),aY.of (by rw [aB];rfl),?_⟩
  exact q _ (s1.trans s2)
def vi (K:PySem.W.Frag):Sp:=fun vs H Q _=>∃ (l:Addr) (r:Nat→Int) (s:Int),vs=[.ref l,.int s]∧aY K H l (tabI 6 r)∧(∀ k,k < 6→0≤r k∧r k < 97)∧0≤s∧s < 97 ∧
 ∀ p H',H p=none→aI H H'→H' p=some (.lst (tabI 6 fun k=>((if k < 5 then r (k+1) else 0) - (r 0+s) * My.Dv k) % 97))→Q (.ref p) H'
theorem Ls:([V.int (21),V.int (80),V.int (53),V.int (2),V.int (55),V.int (63)]:List V)=tabI 6 My.Dv:=by rfl
theorem vj:aS ["rest","sign","times"] ["rest","sign"] (aG kM):=⟨rfl,rfl,rfl,by decide +kernel,rfl,by decide +kernel,by decide +kernel⟩
theorem C6 (F:aR K mg "carried" kM) (T:Txt K mg t):Def P w K mg base 1 "carried" ["rest","sign"] (vi K):=by
 refine F.def vj (fun _ _ _ _ _ _ us hl=>match us,hl with | [_,_],_=>rfl) (fun vs H Q E h=>?_) (fun f be A outer s H vs Q E hr h=>?_)
 ·obtain ⟨l,r,s,rfl,_⟩:=h
  rfl
 ·obtain ⟨l,r,sg,rfl,hl,br,s0,s1,q⟩:=h
  refine ⟨_,aD (aZ (i:=2) vj.nd rfl (Or.inr rfl) (aP bM (af (aQ K) (pv 0) aF (fun _ _=>rfl)) (pv 1)))
   (aH (ar (kG rfl (Nc:=["low","part","times"]) (ix:=[none,none,some 2]) (dJ (aG kM) ["rest","sign","times"] rfl rfl (by decide +kernel)) (Ii K (by rfl) T.FI (aA (aP (lE K) (kF (kJ K) (pv 0) (jP aF) uY) (bH (aA aF aC))) (aA (EN (v:=.ref t.DIVISOR) (by rfl) T.JK rfl) aC))) (fun C fp s H=>⟨(lF K (i:=0) (j:=1) rfl (show (["low","part","times"]:List Str).Nodup by decide +kernel) rfl rfl (Or.inl rfl) (Or.inl rfl)),cS,(aP bG (aP jg (pv 0) (aP b9 (pv 2) (pv 1))) (aV T.cE))⟩)))),?_⟩
  have ox:(2000:Nat)≤sizeLine:=by decide
  have b0:=br 0 (by decide)
  refine ⟨_,rfl,l,_,_,_,rfl,rfl,hl,cv (n:=6) (by decide) (by decide),_,rfl,_,_,rfl,rfl,?_⟩
  refine ⟨_,rfl,_,rfl,l,_,rfl,hl,fun p1 BN=>?_⟩
  rw [show iF (tabI 6 r) (some 1) none=tabI 5 fun k=>r (1+k) from Ci (lo:=1) (n:=6) (by decide)]
  have t1:=(aI.refl H).new (o:=.lst (tabI 5 fun k=>r (1+k))) BN
  refine ⟨by show 1≤sizeLine;decide,fun p2 xC=>?_⟩
  have WJ:p1≠p2:=aM aB xC
  have t2:=t1.new (o:=.lst [V.int 0]) xC
  refine ⟨p1,p2,_,_,rfl,rfl,aY.of (by rw [aE WJ];exact aB),aY.of aB,by rw [aL];decide,fun p3 Gc=>?_⟩
  have ec:(tabI 5 fun k=>r (1+k)) ++ [V.int 0]=tabI 6 fun k=>if k < 5 then r (k+1) else 0:=by
   rw [Av]
   refine bU fun k hk=>?_
   by_cases e:k=5
   ·subst e;rfl
   ·rw [if_neg e];dsimp only;rw [if_pos (by omega),Nat.add_comm]
  rw [ec]
  have t3:=t2.new (o:=.lst (tabI 6 fun k=>if k < 5 then r (k+1) else 0)) Gc
  have h3:∀ H0:Hp,(upd H0 p3 (.lst (tabI 6 fun k=>if k < 5 then r (k+1) else 0))) p3=some (.lst (tabI 6 fun k=>if k < 5 then r (k+1) else 0)):=fun _=>aB
  refine ⟨p3,t.DIVISOR,rfl,⟨_,aY.of (h3 _)⟩,⟨_,T.BF.sq _⟩,fun D hD=>?_⟩
  have h3':=h3 (upd (upd H p1 (.lst (tabI 5 fun k=>r (1+k)))) p2 (.lst [V.int 0]))
  generalize upd (upd (upd H p1 (.lst (tabI 5 fun k=>r (1+k)))) p2 (.lst [V.int 0])) p3 (.lst (tabI 6 fun k=>if k < 5 then r (k+1) else 0))=H3 at *
  refine LM (K:=K) (a:=p3) (b:=t.DIVISOR) (xs:=tabI 6 fun k=>if k < 5 then r (k+1) else 0) (ys:=tabI 6 My.Dv) (by rw [aL,aL]) (fun i σ H'=>∃ v1 v2:Option V,σ=[v1,v2,some (.int (r 0+sg))]∧aI H3 H'∧H' D=some (.lst (tabI i fun k=>((if k < 5 then r (k+1) else 0) - (r 0+sg) * My.Dv k) % 97)))
   ⟨none,none,rfl,(aI.refl _).new hD,aB⟩ (fun i σ H' _ ⟨_,_,_,s2,_⟩=>⟨aY.of (s2 _ _ h3'),by rw [← Ls];exact T.BF.sq _⟩) ?_ ?_
  ·rintro i x y pp σ H' N hN hx hy ⟨v1,v2,rfl,s2,h2⟩ PV
   obtain ⟨hi,rfl⟩:=tab_of hx
   obtain ⟨_,rfl⟩:=tab_of hy
   refine vH ?_
   have nD:D≠pp:=aM h2 PV
   refine ⟨_,rfl,_,rfl,_,rfl,_,_,rfl,rfl,.inl ⟨by omega,by omega⟩,_,_,rfl,rfl,_,_,rfl,rfl,(by show (0:Int) < 97;decide),?_⟩
   refine ⟨_,by rw [aE nD];exact h2,by rw [aL];omega,?_⟩
   exact hN _ _ ⟨_,_,rfl,(s2.new PV).put hD,jR rfl⟩
  ·rintro σ H' ⟨v1,v2,rfl,s2,h2⟩
   rw [aL] at h2
   exact q D H' (t3.free hD) (t3.trans s2) h2
def yg (K:PySem.W.Frag):Sp:=fun vs H Q _=>∃ (l:Addr) (f:Nat→Int),vs=[.ref l]∧aY K H l (tabI 18 f)∧IsCell 18 f∧∀ p H',H p=none→aI H H'→H' p=some (.lst (tabI 24 (My.kK f)))→Q (.ref p) H'
theorem oi:aS ["signs","rest","sign"] ["signs"] (aG mz):=⟨rfl,rfl,rfl,by decide +kernel,rfl,by decide +kernel,by decide +kernel⟩
theorem Gd (F:aR K mg "sealed" mz) (T:Txt K mg t) (de:Def P w K mg base 2 "look_signs" ["signs","many"] (jk K t.BadCell)) (sP:Def P w K mg base 1 "carried" ["rest","sign"] (vi K)):Def P w K mg base 3 "sealed" ["signs"] (yg K):=by
 refine F.def oi (fun _ _ _ _ _ _ us hl=>match us,hl with | [_],_=>rfl) (fun vs H Q E h=>?_) (fun f be A outer s H vs Q E hr h=>?_)
 ·obtain ⟨l,f,rfl,_⟩:=h
  rfl
 ·obtain ⟨l,f,rfl,hl,cf,q⟩:=h
  refine ⟨_,aD (ay (aa (de.mono (by decide)) hr av (aA (pv 0) (aA (aV T.qr) aC))))
   (aD (aZ (i:=1) oi.nd rfl (Or.inl rfl) (aP zG (bH (aA aF aC)) (aV T.FH)))
   (aD (PS.uX (cq PassesOwn.never rfl (cC K (pv 0)) (az (i:=2) oi.nd rfl (Or.inl rfl))
    (aH (aZ (i:=1) oi.nd rfl (Or.inl rfl) (aa (sP.mono (by decide)) hr av (aA (pv 1) (aA (pv 2) aC)))))))
   (aH (ar (aP (lE K) (fh (fo K) (by rfl) T.pQ boot_list (aA (pv 0) aC)) (kG rfl (Nc:=["part"]) (ix:=[none]) (dJ (aG mz) ["signs","rest","sign"] rfl rfl (by decide +kernel)) (cC K (pv 1)) (fun C fp s H=>⟨(az (i:=0) (show (["part"]:List Str).Nodup by decide +kernel) rfl (Or.inl rfl)),cS,(aP bG (EU yw (pv 0)) (aV T.cE))⟩))))))),?_⟩
  have ox:(2000:Nat)≤sizeLine:=by decide
  refine ⟨_,rfl,l,(List.range 18).map f,18,rfl,by rw [ua];exact hl,cf.YB,by decide,fun _=>?_,fun h=>absurd cf.row h⟩
  refine ⟨by show 1≤sizeLine;decide,fun a1 PR=>?_⟩
  refine ⟨a1,_,_,rfl,rfl,aB,by decide,by decide,by decide,fun a2 PU=>?_⟩
  have s1:=((aI.refl H).new (o:=.lst [V.int 0]) PR).new (o:=.lst (List.replicate (6:Int).toNat [V.int 0]).flatten) PU
  refine ⟨_,rfl,l,rfl,⟨_,s1.seq hl⟩,iT (K:=K) (a:=l) (xs:=tabI 18 f) (fun i σ H'=>∃ (v:Option V) (p:Addr),σ=[some (.ref l),some (.ref p),v]∧aI H H'∧H' p=some (.lst (tabI 6 (My.rs f i)))) ⟨none,a2,rfl,s1,by rw [aB];rfl⟩ (fun i σ H' _ ⟨_,_,_,s2,_⟩=>s2.seq hl) ?_ ?_⟩
  ·rintro i y σ H' hi ⟨v,p,rfl,s2,h2⟩
   obtain ⟨YD,rfl⟩:=tab_of hi
   have bi:=cf.b i YD
   refine ⟨_,rfl,_,rfl,p,My.rs f i,f i,rfl,aY.of h2,fun k _=>⟨My.SI f i k,My.SJ f i k⟩,bi.1,bi.2,fun p2 H2 xC s3 h3=>?_⟩
   exact ⟨_,p2,rfl,s2.trans s3,h3⟩
  ·rintro σ H' ⟨v,p,rfl,s2,h2⟩
   rw [aL] at h2
   refine ⟨_,rfl,l,_,rfl,.inl (s2.seq hl),fun b1 Ki=>?_⟩
   have s3:=(aI.refl H').new (o:=.lst (tabI 18 f)) Ki
   refine ⟨_,rfl,p,rfl,⟨_,aY.of (s3 _ _ h2)⟩,fun D hD=>?_⟩
   have nD:b1≠D:=aM aB hD
   refine sF (K:=K) (a:=p) (n:=6) (F:=fun k=>V.int (My.rs f 18 k)) (fun i σ H4=>∃ v:Option V,σ=[v]∧aI (upd H' b1 (.lst (tabI 18 f))) H4∧H4 D=some (.lst (tabI i fun k=>-(My.rs f 18 k) % 97))) ⟨none,rfl,(aI.refl _).new hD,aB⟩ (fun i σ H4 _ ⟨_,_,s4,_⟩=>aY.of (s4 _ _ (s3 _ _ h2))) ?_ ?_
   ·rintro i σ H4 N hN hi ⟨v,rfl,s4,h4⟩
    refine dX ?_
    refine ⟨_,rfl,_,rfl,_,_,rfl,rfl,(by show (0:Int) < 97;decide),?_⟩
    refine ⟨_,h4,by rw [aL];omega,?_⟩
    exact hN _ _ ⟨_,rfl,s4.put hD,jR rfl⟩
   ·rintro σ H4 ⟨v,rfl,s4,h4⟩
    refine ⟨b1,D,_,_,rfl,rfl,aY.of (s4 _ _ aB),aY.of h4,by rw [aL,aL];decide,fun c1 Uh=>?_⟩
    have s5:=((s2.trans s3).trans s4)
    refine q c1 _ (s5.free Uh) (s5.new Uh) ?_
    rw [aB,LK]
    refine congrArg (fun z=>some (HO.lst z)) (bU fun i hi=>?_)
    unfold My.kK
    split <;> rfl
end
end K37
namespace K37
open PySem L2 PyProof.Rows
section
variable {P:Program} {w:World} {K:PySem.W.Frag} {mg:Str→Option Value} {base:Heap} {t:Ad}
def qw (C:Addr):Sp:=fun vs H Q E=>∃ n:Int,vs=[.int n]∧n.natAbs < 2 ^ 1000∧(1≤n∧n≤6→Q .bq H)∧(¬ (1≤n∧n≤6)→E (.ref C) none H)
theorem zh:aS ["late"] ["late"] (aG jX):=⟨rfl,rfl,rfl,by decide +kernel,rfl,by decide +kernel,by decide +kernel⟩
theorem zk (F:aR K mg "look_late" jX) (T:Txt K mg t):Def P w K mg base 1 "look_late" ["late"] (qw t.BadMeasure):=by
 refine F.def zh (fun _ _ _ _ _ _ us hl=>match us,hl with | [_],_=>rfl) (fun vs H Q E h=>?_) (fun f be A outer s H vs Q E hr h=>?_)
 ·obtain ⟨n,rfl,_⟩:=h
  rfl
 ·obtain ⟨n,rfl,hb,q1,q2⟩:=h
  refine ⟨_,aH (bu (pG (uz uy uy aF (pv 0) (aV T.vY)))
    (aH (eF bC rfl rfl T.t7 T.t8 PySem.F.excBase_ValueError (aA (jQ (bT cT (bT (fH (aV T.vY)) (bT cT (bT (fH (pv 0)) mr))))) aC)))
    (bD)),?_⟩
  have sl:(3000:Nat)≤sizeLine:=by decide
  have bad:¬ (1≤n∧n≤6)→_:=fun z=>q2 z
  have l1:("late is from 1 to ":Str).length=18:=by decide +kernel
  have l2:(", not ":Str).length=6:=by decide +kernel
  have z6:=fU (i:=6) (by decide)
  have zn:=fU hb
  have e0:(Str.empty ++ ("late is from 1 to ":Str)).length≤18:=by rw [strLen_append,l1];show 0+18≤18;omega
  have e1:((Str.empty ++ ("late is from 1 to ":Str)) ++ Str.ofString (toString (6:Int))).length≤1019:=by rw [strLen_append];omega
  have e2:(((Str.empty ++ ("late is from 1 to ":Str)) ++ Str.ofString (toString (6:Int))) ++ (", not ":Str)).length≤1025:=by rw [strLen_append];omega
  have e3:((((Str.empty ++ ("late is from 1 to ":Str)) ++ Str.ofString (toString (6:Int))) ++ (", not ":Str)) ++ Str.ofString (toString n)).length≤2026:=by rw [strLen_append];omega
  refine ⟨_,rfl,_,_,rfl,rfl,_,rfl,?_⟩
  by_cases h1:1≤n
  ·refine fk h1 ?_
   refine ⟨_,_,rfl,rfl,_,rfl,?_⟩
   by_cases h2:n≤6
   ·rw [decide_eq_true h2]
    exact gu (q1 ⟨h1,h2⟩)
   ·rw [decide_eq_false h2]
    refine gw ?_
    refine ⟨_,rfl,by omega,6,rfl,dH (n:=1000) (by decide) (by decide) (by decide),_,rfl,by omega,_,rfl,by omega,_,rfl,n,rfl,dH hb (by decide) (by decide),_,rfl,by omega,by omega,?_⟩
    exact ⟨by show 1≤sizeLine;decide,q2 (by omega)⟩
  ·refine fj h1 ⟨_,rfl,gw ?_⟩
   refine ⟨_,rfl,by omega,6,rfl,dH (n:=1000) (by decide) (by decide) (by decide),_,rfl,by omega,_,rfl,by omega,_,rfl,n,rfl,dH hb (by decide) (by decide),_,rfl,by omega,by omega,?_⟩
   exact ⟨by show 1≤sizeLine;decide,q2 (by omega)⟩
def mT (K:PySem.W.Frag) (C:Addr):Sp:=fun vs H Q E=>∃ (a:Addr) (x y:Int),vs=[.ref a]∧cP K H a [.int x,.int y]∧x.natAbs < 2 ^ 1000∧y.natAbs < 2 ^ 1000∧((1≤x∧x≤6)∧0≤y∧y≤4→Q .bq H)∧(¬ ((1≤x∧x≤6)∧0≤y∧y≤4)→E (.ref C) none H)
theorem mU:aS ["measure","lost"] ["measure"] (aG fK):=⟨rfl,rfl,rfl,by decide +kernel,rfl,by decide +kernel,by decide +kernel⟩
theorem uP (F:aR K mg "look_measure" fK) (T:Txt K mg t) (nG:Def P w K mg base 1 "look_late" ["late"] (qw t.BadMeasure)):Def P w K mg base 2 "look_measure" ["measure"] (mT K t.BadMeasure):=by
 refine F.def mU (fun _ _ _ _ _ _ us hl=>match us,hl with | [_],_=>rfl) (fun vs H Q E h=>?_) (fun f be A outer s H vs Q E hr h=>?_)
 ·obtain ⟨a,x,y,rfl,_⟩:=h
  rfl
 ·obtain ⟨a,x,n,rfl,ha,hx,hb,q1,q2⟩:=h
  refine ⟨_,aD (ay (aa (nG.mono (by decide)) hr (kH bC) (aA (af (gZ K) (pv 0) aF (fun _ _=>rfl)) aC)))
   (aD (aZ (i:=1) mU.nd rfl (Or.inl rfl) (af (gZ K) (pv 0) aF (fun _ _=>rfl)))
   (aH (bu (pG (uz uy uy aF (pv 1) (aV T.vZ)))
    (aH (eF bC rfl rfl T.t7 T.t8 PySem.F.excBase_ValueError (aA (jQ (bT cT (bT (fH (aV T.vZ)) (bT cT (bT (fH (pv 1)) mr))))) aC)))
    (bD)))),?_⟩
  have sl:(3000:Nat)≤sizeLine:=by decide
  have l1:("lost is from 0 to ":Str).length=18:=by decide +kernel
  have l2:(", not ":Str).length=6:=by decide +kernel
  have z6:=fU (i:=4) (by decide)
  have zn:=fU hb
  have e0:(Str.empty ++ ("lost is from 0 to ":Str)).length≤18:=by rw [strLen_append,l1];show 0+18≤18;omega
  have e1:((Str.empty ++ ("lost is from 0 to ":Str)) ++ Str.ofString (toString (4:Int))).length≤1019:=by rw [strLen_append];omega
  have e2:(((Str.empty ++ ("lost is from 0 to ":Str)) ++ Str.ofString (toString (4:Int))) ++ (", not ":Str)).length≤1025:=by rw [strLen_append];omega
  have e3:((((Str.empty ++ ("lost is from 0 to ":Str)) ++ Str.ofString (toString (4:Int))) ++ (", not ":Str)) ++ Str.ofString (toString n)).length≤2026:=by rw [strLen_append];omega
  refine ⟨_,rfl,a,_,_,_,rfl,rfl,ha,rfl,x,rfl,hx,fun h0=>?_,fun h0=>q2 fun z=>h0 z.1⟩
  refine ⟨_,rfl,a,_,_,_,rfl,rfl,ha,rfl,?_⟩
  refine ⟨_,rfl,_,_,rfl,rfl,_,rfl,?_⟩
  by_cases h1:0≤n
  ·refine fk h1 ?_
   refine ⟨_,_,rfl,rfl,_,rfl,?_⟩
   by_cases h2:n≤4
   ·rw [decide_eq_true h2]
    exact gu (q1 ⟨h0,h1,h2⟩)
   ·rw [decide_eq_false h2]
    refine gw ?_
    refine ⟨_,rfl,by omega,4,rfl,dH (n:=1000) (by decide) (by decide) (by decide),_,rfl,by omega,_,rfl,by omega,_,rfl,n,rfl,dH hb (by decide) (by decide),_,rfl,by omega,by omega,?_⟩
    exact ⟨by show 1≤sizeLine;decide,q2 (by omega)⟩
  ·refine fj h1 ⟨_,rfl,gw ?_⟩
   refine ⟨_,rfl,by omega,4,rfl,dH (n:=1000) (by decide) (by decide) (by decide),_,rfl,by omega,_,rfl,by omega,_,rfl,n,rfl,dH hb (by decide) (by decide),_,rfl,by omega,by omega,?_⟩
   exact ⟨by show 1≤sizeLine;decide,q2 (by omega)⟩
def Ui (x y:Int):Prop:=(1≤x∧x≤6)∧0≤y∧y≤4
def uB (K:PySem.W.Frag) (C:Addr):Sp:=fun vs H Q E=>∃ (a:Addr) (x y:Int),vs=[.ref a]∧cP K H a [.int x,.int y]∧x.natAbs < 2 ^ 1000∧y.natAbs < 2 ^ 1000∧(Ui x y→Q (.int (x+y)) H)∧(¬ Ui x y→E (.ref C) none H)
theorem BO:aS ["measure"] ["measure"] (aG lJ):=⟨rfl,rfl,rfl,by decide +kernel,rfl,by decide +kernel,by decide +kernel⟩
theorem BP (F:aR K mg "quiet_of" lJ) (T:Txt K mg t) (ib:Def P w K mg base 2 "look_measure" ["measure"] (mT K t.BadMeasure)):Def P w K mg base 3 "quiet_of" ["measure"] (uB K t.BadMeasure):=by
 refine F.def BO (fun _ _ _ _ _ _ us hl=>match us,hl with | [_],_=>rfl) (fun vs H Q E h=>?_) (fun f be A outer s H vs Q E hr h=>?_)
 ·obtain ⟨a,x,y,rfl,_⟩:=h
  rfl
 ·obtain ⟨a,x,y,rfl,ha,hx,hy,q1,q2⟩:=h
  refine ⟨_,aD (ay (aa (ib.mono (by decide)) hr (kH bC) (aA (pv 0) aC)))
   (aH (ar (aP bM (af (gZ K) (pv 0) aF (fun _ _=>rfl)) (af (gZ K) (pv 0) aF (fun _ _=>rfl))))),?_⟩
  refine ⟨_,rfl,a,x,y,rfl,ha,hx,hy,fun h0=>?_,fun h0=>q2 h0⟩
  refine ⟨_,rfl,a,_,_,_,rfl,rfl,ha,rfl,?_⟩
  refine ⟨_,rfl,a,_,_,_,rfl,rfl,ha,rfl,_,_,rfl,rfl,?_⟩
  exact q1 h0
end
end K37
namespace K37
open PySem L2 PyProof.Rows
section
variable {P:Program} {w:World} {K:PySem.W.Frag} {mg:Str→Option Value} {base:Heap} {t:Ad}
def uC (K:PySem.W.Frag):Sp:=fun vs H Q _=>∃ (l:Addr) (n:Nat) (f:Nat→Int) (z:Int),vs=[.ref l,.int z]∧aY K H l (tabI n f)∧n≤1000 ∧
 ∀ p H',H p=none→aI H H'→H' p=some (.lst (tabI (n+1) fun j=>(if j < n then f j else z) % 97))→Q (.ref p) H'
theorem BQ:aS ["row","side"] ["row","side"] (aG iV):=⟨rfl,rfl,rfl,by decide +kernel,rfl,by decide +kernel,by decide +kernel⟩
theorem BR (F:aR K mg "equation" iV) (T:Txt K mg t):Def P w K mg base 1 "equation" ["row","side"] (uC K):=by
 refine F.def BQ (fun _ _ _ _ _ _ us hl=>match us,hl with | [_,_],_=>rfl) (fun vs H Q E h=>?_) (fun f be A outer s H vs Q E hr h=>?_)
 ·obtain ⟨l,n,f,z,rfl,_⟩:=h
  rfl
 ·obtain ⟨l,n,f',z,rfl,hl,hn,q⟩:=h
  refine ⟨_,aH (ar (aP (lE K) (kG rfl (Nc:=["sign"]) (ix:=[none]) (dJ (aG iV) ["row","side"] rfl rfl (by decide +kernel)) (cC K (pv 0)) (fun C fp s H=>⟨(az (i:=0) (show (["sign"]:List Str).Nodup by decide +kernel) rfl (Or.inl rfl)),cS,(aP bG (pv 0) (aV T.cE))⟩)) (bH (aA (aP bG (pv 1) (aV T.cE)) aC)))),?_⟩
  have ox:(2000:Nat)≤sizeLine:=by decide
  refine ⟨_,rfl,l,rfl,⟨_,hl⟩,fun D hD=>?_⟩
  refine sF (K:=K) (a:=l) (n:=n) (F:=fun j=>V.int (f' j)) (fun i σ H'=>∃ v:Option V,σ=[v]∧aI H H'∧H' D=some (.lst (tabI i fun j=>f' j % 97))) ⟨none,rfl,(aI.refl _).new hD,aB⟩ (fun i σ H' _ ⟨_,_,s1,_⟩=>s1.seq hl) ?_ ?_
  ·rintro i σ H' N hN hi ⟨v,rfl,s1,h1⟩
   refine dX ?_
   refine ⟨_,rfl,_,_,rfl,rfl,(by show (0:Int) < 97;decide),_,h1,by rw [aL];omega,?_⟩
   exact hN _ _ ⟨_,rfl,s1.put hD,jR rfl⟩
  ·rintro σ H' ⟨v,rfl,s1,h1⟩
   refine ⟨_,rfl,_,_,rfl,rfl,(by show (0:Int) < 97;decide),by show 1≤sizeLine;decide,fun p2 xC=>?_⟩
   have n2:D≠p2:=aM h1 xC
   have s2:=s1.new (o:=.lst [V.int (z % 97)]) xC
   refine ⟨D,p2,_,_,rfl,rfl,aY.of (by rw [aE n2];exact h1),aY.of aB,by rw [aL];show n+1≤sizeLine;omega,fun p3 Gc=>?_⟩
   refine q p3 _ (s2.free Gc) (s2.new Gc) ?_
   have e3:tabI (n+1) (fun j=>(if j < n then f' j else z) % 97)=tabI n (fun j=>f' j % 97) ++ [V.int (z % 97)]:=by
    refine (vI n _).trans ?_
    rw [show cB n (fun j=>V.int ((if j < n then f' j else z) % 97))=tabI n fun j=>f' j % 97 from bU fun i hi=>by rw [if_pos hi]]
    show _ ++ [V.int ((if n < n then f' n else z) % 97)]=_
    rw [if_neg (Nat.lt_irrefl n)]
   rw [aB,e3]
def nH (K:PySem.W.Frag):Sp:=fun vs H Q _=>∃ (l:Addr) (m n c:Nat) (a:My.me),vs=[.ref l,.int c]∧qf K H l m n a∧c < n∧c≤m∧m≤1000∧n≤1000 ∧
 (∀ i:Nat,c≤i→i < m→a i c≠0→(∀ k,c≤k→k < i→a k c=0)→Q (.int i) H)∧((∀ i,c≤i→i < m→a i c=0)→Q .bq H)
theorem nI:aS ["table","column","place"] ["table","column"] (aG gc):=⟨rfl,rfl,rfl,by decide +kernel,rfl,by decide +kernel,by decide +kernel⟩
theorem vk (F:aR K mg "pivot_place" gc) (T:Txt K mg t):Def P w K mg base 1 "pivot_place" ["table","column"] (nH K):=by
 refine F.def nI (fun _ _ _ _ _ _ us hl=>match us,hl with | [_,_],_=>rfl) (fun vs H Q E h=>?_) (fun f be A outer s H vs Q E hr h=>?_)
 ·obtain ⟨l,m,n,c,a,rfl,_⟩:=h
  rfl
 ·obtain ⟨l,m,n,c,a,rfl,⟨as,g1,g2⟩,hc,PX,hm,hn,q1,q2⟩:=h
  refine ⟨_,aD (PS.uX (cq PassesOwn.never rfl (rq (by rfl) T.dP (aA (pv 1) (aA (bR (bY K) (by rfl) T.iZ boot_len (aA (pv 0) aC)) aC))) (az (i:=2) nI.nd rfl (Or.inl rfl))
    (aH (bu (aj yF (af (aQ K) (af (aQ K) (pv 0) (pv 2) (fun _ _=>rfl)) (pv 1) (fun _ _=>rfl)) aF (au _))
     (aH (ar (pv 2)))
     (bD)))))
   (aH (ar fg)),?_⟩
  refine ⟨_,rfl,_,rfl,l,_,rfl,.inl g1,(c:Int),((bW m as).length:Nat),rfl,⟨by omega,by omega,by omega,by rw [aL];omega⟩,?_⟩
  have en:((((bW m as).length:Nat):Int) - (c:Int)).toNat=m - c:=by rw [aL];omega
  rw [en]
  refine e8 (lo:=(c:Int)) (n:=m - c) (fun i σ H'=>∃ v:Option V,σ=[some (.ref l),some (.int c),v]∧H'=H∧∀ k,c≤k→k < c+i→a k c=0) ⟨none,rfl,rfl,fun k h1 h2=>by omega⟩ ?_ ?_
  ·rintro i σ H' hi ⟨v,rfl,rfl,hz⟩
   have ei:((c:Int)+(i:Nat)).toNat=c+i:=by omega
   refine ⟨_,rfl,_,rfl,l,_,_,_,rfl,rfl,g1,cv (by omega) (by omega),_,rfl,_,_,_,_,rfl,rfl,g2 _ (by omega),cv (by omega) (by omega),rfl,_,rfl,?_⟩
   by_cases z:a (c+i) c=0
   ·refine vG (by rw [ei,Int.toNat_natCast,z]) ?_
    refine ⟨_,rfl,rfl,fun k h1 h2=>?_⟩
    by_cases e:k=c+i
    ·rw [e];exact z
    ·exact hz k h1 (by omega)
   ·refine yQ (fun e=>z (by have:=V.int.inj e;rwa [ei,Int.toNat_natCast] at this)) ?_
    refine ⟨_,rfl,?_⟩
    have:=q1 (c+i) (by omega) (by omega) z hz
    have e:((c+i:Nat):Int)=(c:Int)+(i:Nat):=by omega
    rw [e] at this
    exact this
  ·rintro σ H' ⟨v,rfl,rfl,hz⟩
   exact q2 fun i h1 h2=>hz i h1 (by omega)
def qx (K:PySem.W.Frag):Sp:=fun vs H Q _=>∃ (l:Addr) (m n c d:Nat) (a:My.me),vs=[.ref l,.int c,.int d]∧qf K H l m n a∧c < m∧d < m∧m≤1000 ∧
 ∀ p H',H p=none→aI H H'→qf K H' p m n (My.swap a c d)→Q (.ref p) H'
theorem qy:aS ["table","one","other","rows"] ["table","one","other"] (aG jU):=⟨rfl,rfl,rfl,by decide +kernel,rfl,by decide +kernel,by decide +kernel⟩
theorem zl (F:aR K mg "exchanged" jU) (T:Txt K mg t):Def P w K mg base 1 "exchanged" ["table","one","other"] (qx K):=by
 refine F.def qy (fun _ _ _ _ _ _ us hl=>match us,hl with | [_,_,_],_=>rfl) (fun vs H Q E h=>?_) (fun f be A outer s H vs Q E hr h=>?_)
 ·obtain ⟨l,m,n,c,d,a,rfl,_⟩:=h
  rfl
 ·obtain ⟨l,m,n,c,d,a,rfl,⟨as,g1,g2⟩,hc,hd,hm,q⟩:=h
  refine ⟨_,aD (aZ (i:=3) qy.nd rfl (Or.inl rfl) (fh (fo K) (by rfl) T.pQ boot_list (aA (pv 0) aC)))
   (aD (pH (af (aQ K) (pv 0) (pv 2) (fun _ _=>rfl)) (rk (pv 3) (pv 1) set_list))
   (aD (pH (af (aQ K) (pv 0) (pv 1) (fun _ _=>rfl)) (rk (pv 3) (pv 2) set_list))
   (aH (ar (pv 3))))),?_⟩
  refine ⟨_,rfl,l,_,rfl,.inl g1,fun p hp=>?_⟩
  have s1:=(aI.refl H).new (o:=.lst (bW m as)) hp
  refine ⟨_,rfl,_,rfl,l,_,_,_,rfl,rfl,s1.seq g1,cv (by omega) (by omega),_,rfl,_,rfl,p,_,_,_,rfl,rfl,aB,vJ (by omega) (by omega),?_⟩
  have s2:=s1.put (o:=.lst ((bW m as).set (c:Int).toNat (V.ref (as (d:Int).toNat)))) hp
  rw [qe (by omega)] at *
  refine ⟨_,rfl,_,rfl,l,_,_,_,rfl,rfl,s2.seq g1,cv (by omega) (by omega),_,rfl,_,rfl,p,_,_,_,rfl,rfl,aB,vJ (by omega) (by omega),?_⟩
  rw [qe (by omega)]
  refine ⟨_,rfl,?_⟩
  refine q p _ hp (s2.put hp) ⟨fun i=>if i=d then as c else if i=c then as d else as i,aY.of ?_,fun i hi=>(s2.put hp).seq ?_⟩
  ·rw [aB]
   refine congrArg (fun l=>some (HO.lst l)) (bU fun i hi=>?_)
   rw [Int.toNat_natCast,Int.toNat_natCast]
   by_cases e:i=d
   ·simp [e]
   ·by_cases e2:i=c
    ·subst e2
     simp [e]
    ·simp [e,e2]
  ·unfold My.swap
   by_cases e:i=d
   ·subst e
    by_cases e2:i=c
    ·subst e2;simp;exact g2 i hi
    ·simp [e2];exact g2 c hc
   ·by_cases e2:i=c
    ·subst e2;simp [e];exact g2 d hd
    ·simp [e,e2];exact g2 i hi
def uD (K:PySem.W.Frag):Sp:=fun vs H Q _=>∃ (l b:Addr) (n:Nat) (f g:Nat→Int) (z:Int),vs=[.ref l,.ref b,.int z]∧aY K H l (tabI n f)∧aY K H b (tabI n g)∧n≤1000∧0≤z∧z < 97 ∧
 ∀ p H',H p=none→aI H H'→H' p=some (.lst (tabI n fun j=>(f j - z * g j) % 97))→Q (.ref p) H'
theorem BS:aS ["row","head","times"] ["row","head","times"] (aG iW):=⟨rfl,rfl,rfl,by decide +kernel,rfl,by decide +kernel,by decide +kernel⟩
theorem BU (F:aR K mg "lessened" iW) (T:Txt K mg t):Def P w K mg base 1 "lessened" ["row","head","times"] (uD K):=by
 refine F.def BS (fun _ _ _ _ _ _ us hl=>match us,hl with | [_,_,_],_=>rfl) (fun vs H Q E h=>?_) (fun f be A outer s H vs Q E hr h=>?_)
 ·obtain ⟨l,b,n,f,g,z,rfl,_⟩:=h
  rfl
 ·obtain ⟨l,b,n,f',g',z,rfl,hl,hb,hn,z0,z1,q⟩:=h
  refine ⟨_,aH (ar (kG rfl (Nc:=["sign","top","times"]) (ix:=[none,none,some 2]) (dJ (aG iW) ["row","head","times"] rfl rfl (by decide +kernel)) (zJ K (by rfl) T.FI (aA (pv 0) (aA (pv 1) aC))) (fun C fp s H=>⟨(lF K (i:=0) (j:=1) rfl (show (["sign","top","times"]:List Str).Nodup by decide +kernel) rfl rfl (Or.inl rfl) (Or.inl rfl)),cS,(aP bG (aP jg (pv 0) (aP b9 (pv 2) (pv 1))) (aV T.cE))⟩))),?_⟩
  have ox:(2000:Nat)≤sizeLine:=by decide
  refine ⟨_,rfl,_,rfl,l,b,rfl,⟨_,hl⟩,⟨_,hb⟩,fun D hD=>?_⟩
  refine Ez (K:=K) (a:=l) (b:=b) (n:=n) (F:=fun j=>V.int (f' j)) (G:=fun j=>V.int (g' j)) (fun i σ H'=>∃ v u:Option V,σ=[v,u,some (.int z)]∧aI H H'∧H' D=some (.lst (tabI i fun j=>(f' j - z * g' j) % 97))) ⟨none,none,rfl,(aI.refl _).new hD,aB⟩ (fun i σ H' _ ⟨_,_,_,s1,_⟩=>⟨s1.seq hl,s1.seq hb⟩) ?_ ?_
  ·rintro i p σ H' N hN hi ⟨v,u,rfl,s1,h1⟩ hp
   refine vH ?_
   have nD:D≠p:=aM h1 hp
   refine ⟨_,rfl,_,rfl,_,rfl,_,_,rfl,rfl,.inl ⟨by omega,by omega⟩,_,_,rfl,rfl,_,_,rfl,rfl,(by show (0:Int) < 97;decide),_,(by rw [aE nD];exact h1),by rw [aL];omega,?_⟩
   exact hN _ _ ⟨_,_,rfl,(s1.new hp).put hD,jR rfl⟩
  ·rintro σ H' ⟨v,u,rfl,s1,h1⟩
   exact q D H' hD s1 h1
def vm (K:PySem.W.Frag):Sp:=fun vs H Q _=>∃ (l:Addr) (m n c:Nat) (a:My.me),vs=[.ref l,.int c]∧qf K H l m n a∧c < m∧c < n∧m≤1000∧n≤1000∧(∀ i j,i < m→j < n→0≤a i j∧a i j < 97)∧a c c≠0 ∧
 ∀ p H',H p=none→aI H H'→qf K H' p m n (My.clear a c (My.P (a c c) 95))→Q (.ref p) H'
theorem lP:aS ["table","column","factor","head","rows"] ["table","column"] (aG iN):=⟨rfl,rfl,rfl,by decide +kernel,rfl,by decide +kernel,by decide +kernel⟩
theorem C7 (F:aR K mg "cleared" iN) (T:Txt K mg t) (iP:Def P w K mg base 4 "inverse" ["a"] (pR t.BadSign)) (pT:Def P w K mg base 1 "lessened" ["row","head","times"] (uD K)):Def P w K mg base 5 "cleared" ["table","column"] (vm K):=by
 refine F.def lP (fun _ _ _ _ _ _ us hl=>match us,hl with | [_,_],_=>rfl) (fun vs H Q E h=>?_) (fun f be A outer s H vs Q E hr h=>?_)
 ·obtain ⟨l,m,n,c,a,rfl,_⟩:=h
  rfl
 ·obtain ⟨l,m,n,c,a,rfl,⟨as,g1,g2⟩,PX,Qe,hm,hn,ha,h0,q⟩:=h
  refine ⟨_,aD (aZ (i:=2) lP.nd rfl (Or.inr rfl) (aa (iP.mono (by decide)) hr (kH bC) (aA (af (aQ K) (af (aQ K) (pv 0) (pv 1) (fun _ _=>rfl)) (pv 1) (fun _ _=>rfl)) aC)))
   (aD (aZ (i:=3) lP.nd rfl (Or.inr rfl) (kG rfl (Nc:=["sign","factor"]) (ix:=[none,some 2]) (dJ (aG iN) ["table","column","factor","head","rows"] rfl rfl (by decide +kernel)) (cC K (af (aQ K) (pv 0) (pv 1) (fun _ _=>rfl))) (fun C fp s H=>⟨(az (i:=0) (show (["sign","factor"]:List Str).Nodup by decide +kernel) rfl (Or.inl rfl)),cS,(aP bG (aP b9 (pv 0) (pv 1)) (aV T.cE))⟩)))
   (aD (mq (i:=4) lP.nd rfl (Or.inl rfl) rfl (Nc:=["row","head","column"]) (ix:=[none,some 3,some 1]) (dJ (aG iN) ["table","column","factor","head","rows"] rfl rfl (by decide +kernel)) (cC K (pv 0)) (fun C fp s H=>⟨(az (i:=0) (show (["row","head","column"]:List Str).Nodup by decide +kernel) rfl (Or.inl rfl)),cS,(aa (pT.mono (by decide)) hr av (aA (pv 0) (aA (pv 1) (aA (af (aQ K) (pv 0) (pv 2) (fun _ _=>rfl)) aC))))⟩))
   (aD (pH (pv 3) (rk (pv 4) (pv 1) set_list))
   (aH (ar (pv 4)))))),?_⟩
  have ox:(2000:Nat)≤sizeLine:=by decide
  have ec:((c:Nat):Int).toNat=c:=Int.toNat_natCast c
  have Kc:=ha c c PX Qe
  refine ⟨_,rfl,_,rfl,l,_,_,_,rfl,rfl,g1,cv (by omega) (by omega),_,rfl,_,_,_,_,rfl,rfl,g2 _ (by omega),cv (by omega) (by omega),_,rfl,?_,fun _=>?_,fun h=>absurd ?_ h⟩
  ·rw [ec];exact dW (by omega) (by omega)
  ·rw [ec]
   have f0:=My.R7 (a c c) 95
   have f1:=My.PB (a c c) 95
   generalize My.P (a c c) 95=Nl at *
   refine ⟨_,rfl,_,rfl,l,_,_,_,rfl,rfl,g1,cv (by omega) (by omega),_,rfl,⟨_,g2 _ (by omega)⟩,fun D hD=>?_⟩
   rw [ec]
   refine sF (K:=K) (a:=as c) (n:=n) (F:=fun j=>V.int (a c j)) (fun i σ H'=>∃ v:Option V,σ=[v,some (.int Nl)]∧aI H H'∧H' D=some (.lst (tabI i fun j=>a c j * Nl % 97))) ⟨none,rfl,(aI.refl _).new hD,aB⟩ (fun i σ H' _ ⟨_,_,s1,_⟩=>s1.seq (g2 c PX)) ?_ ?_
   ·rintro i σ H' N hN hi ⟨v,rfl,s1,h1⟩
    have hb:=ha c i PX hi
    refine dX ?_
    refine ⟨_,rfl,_,rfl,_,_,rfl,rfl,.inl ⟨by omega,by omega⟩,_,_,rfl,rfl,(by show (0:Int) < 97;decide),_,h1,by rw [aL];omega,?_⟩
    exact hN _ _ ⟨_,rfl,s1.put hD,jR rfl⟩
   ·rintro σ H1 ⟨v,rfl,s1,h1⟩
    refine ⟨_,rfl,l,rfl,⟨_,s1.seq g1⟩,fun D2 Ge=>?_⟩
    have nDD:D≠D2:=aM h1 Ge
    refine sF (K:=K) (a:=l) (n:=m) (F:=fun i=>V.ref (as i)) (fun i σ H'=>∃ (v:Option V) (ps:Nat→Addr),σ=[v,some (.ref D),some (.int c)]∧aI H1 H'∧H' D2=some (.lst (bW i ps))∧∀ k,k < i→aY K H' (ps k) (tabI n fun j=>(a k j - a k c * (a c j * Nl % 97)) % 97)∧ps k≠D2)
     ⟨none,as,rfl,(aI.refl _).new Ge,aB,fun k hk=>by omega⟩ (fun i σ H' _ ⟨_,_,_,s2,_⟩=>s2.seq (s1.seq g1)) ?_ ?_
    ·rintro i σ H' N hN hi ⟨v,ps,rfl,s2,h2,hp⟩
     have hb:=ha i c hi Qe
     refine dX ?_
     refine ⟨_,rfl,_,rfl,_,rfl,_,rfl,as i,_,_,_,rfl,rfl,s2.seq (s1.seq (g2 i hi)),cv (by omega) (by omega),as i,D,n,a i,(fun j=>a c j * Nl % 97),_,rfl,s2.seq (s1.seq (g2 i hi)),aY.of (s2 _ _ h1),hn,?_,?_,fun p H2 PY s3 h3=>?_⟩
     ·rw [ec];exact hb.1
     ·rw [ec];exact hb.2
     ·have np:D2≠p:=aM h2 PY
      refine ⟨_,s3 _ _ h2,by rw [aL];omega,?_⟩
      rw [dF]
      refine hN _ _ ⟨_,_,rfl,(s2.trans s3).put Ge,aB,fun k hk=>?_⟩
      by_cases e:k=i
      ·subst e
       simp only [if_true]
       refine ⟨aY.of ?_,Ne.symm np⟩
       rw [aE (Ne.symm np),h3,ec]
      ·simp only [e,if_false]
       obtain ⟨q1,q2⟩:=hp k (by omega)
       refine ⟨?_,q2⟩
       rcases s3.seq q1 with (z | ⟨o,z⟩) | z
       ·exact .inl (.inl (by rw [aE q2];exact z))
       ·exact .inl (.inr ⟨o,by rw [aE q2];exact z⟩)
       ·exact .inr z
    ·rintro σ H' ⟨v,ps,rfl,s2,h2,hp⟩
     refine ⟨_,rfl,_,rfl,_,rfl,D2,_,_,_,rfl,rfl,h2,vJ (by omega) (by omega),?_⟩
     rw [qe (by omega),ec]
     refine ⟨_,rfl,?_⟩
     refine q D2 _ (s1.free Ge) ((s1.trans s2).put (s1.free Ge)) ⟨fun k=>if k=c then D else ps k,aY.of ?_,fun i hi=>?_⟩
     ·rw [aB]
      refine congrArg (fun l=>some (HO.lst l)) (bU fun k hk=>?_)
      by_cases e:k=c <;> simp [e]
     ·by_cases e:i=c
      ·subst e
       have e2:tabI n (My.clear a i Nl i)=tabI n fun j=>a i j * Nl % 97:=bU fun j hj=>by unfold My.clear;rw [if_pos rfl]
       simp only [if_true]
       rw [e2]
       exact aY.of (by rw [aE nDD];exact s2 _ _ h1)
      ·obtain ⟨q1,q2⟩:=hp i hi
       have e2:tabI n (My.clear a c Nl i)=tabI n fun j=>(a i j - a i c * (a c j * Nl % 97)) % 97:=bU fun j hj=>by unfold My.clear;rw [if_neg e]
       simp only [e,if_false]
       rw [e2]
       rcases q1 with (z | ⟨o,z⟩) | z
       ·exact .inl (.inl (by rw [aE q2];exact z))
       ·exact .inl (.inr ⟨o,by rw [aE q2];exact z⟩)
       ·exact .inr z
  ·rw [ec];exact ⟨by omega,Kc.2⟩
def gz (n:Nat) (a:My.me) (b:Nat→Int):My.me:=fun i j=>(if j < n then a i j else b i) % 97
theorem FK (n:Nat) (a:My.me) (b:Nat→Int) (z:Nat→Int) (i:Nat):(97:Int) ∣ My.ip (n+1) (gz n a b i) z - (My.ip n (a i) z+b i * z n):=by
 have h1:My.ip (n+1) (gz n a b i) z=My.ip n (gz n a b i) z+gz n a b i n * z n:=by unfold My.ip;rw [My.sumTo]
 have h2:(97:Int) ∣ My.ip n (gz n a b i) z - My.ip n (a i) z:=My.A7 fun j hj=>by unfold gz;rw [if_pos hj];exact My.fI _
 have h3:(97:Int) ∣ gz n a b i n * z n - b i * z n:=by
  have:(97:Int) ∣ (gz n a b i n - b i) * z n:=Int.dvd_trans (by unfold gz;rw [if_neg (Nat.lt_irrefl n)];exact My.fI _) (Int.dvd_mul_right _ _)
  rwa [Int.sub_mul] at this
 rw [h1]
 have:=Int.dvd_add h2 h3
 rwa [show My.ip n (gz n a b i) z - My.ip n (a i) z+(gz n a b i n * z n - b i * z n)=My.ip n (gz n a b i) z+gz n a b i n * z n - (My.ip n (a i) z+b i * z n) by omega] at this
theorem vn {n:Nat} {a:My.me} {b:Nat→Int} {z:Nat→Int}:My.oW n (n+1) (gz n a b) z↔∀ i,i < n→(97:Int) ∣ My.ip n (a i) z+b i * z n:=by
 constructor
 ·intro k i hi
  have:=Int.dvd_sub (k i hi) (FK n a b z i)
  rwa [show My.ip (n+1) (gz n a b i) z - (My.ip (n+1) (gz n a b i) z - (My.ip n (a i) z+b i * z n))=My.ip n (a i) z+b i * z n by omega] at this
 ·intro k i hi
  have:=Int.dvd_add (k i hi) (FK n a b z i)
  rwa [show My.ip n (a i) z+b i * z n+(My.ip (n+1) (gz n a b i) z - (My.ip n (a i) z+b i * z n))=My.ip (n+1) (gz n a b i) z by omega] at this
theorem JP (n:Nat) (r z:Nat→Int) (u:Int):My.ip n r (fun j=>if j < n then z j else u)=My.ip n r z:=My.bF n fun j hj=>by simp [hj]
theorem Lu {n c:Nat} {a:My.me} {b:Nat→Int} {u:My.me} (hk:∀ z,My.oW n (n+1) u z↔My.oW n (n+1) (gz n a b) z) (h:My.Clear n c u) (hc:c < n) (hz:∀ i,c≤i→i < n→u i c=0):¬ My.ue n a:=by
 obtain ⟨z,k,z1,z2⟩:=h.stuck hc hz
 intro r
 have k2:=vn.mp ((hk z).mp k)
 have:=r z (fun i hi=>by have:=k2 i hi;rw [z2] at this;simpa using this) c hc
 rw [z1] at this
 omega
theorem C8 {n:Nat} {a:My.me} {b:Nat→Int} {u:My.me} (hk:∀ z,My.oW n (n+1) u z↔My.oW n (n+1) (gz n a b) z) (h:My.Clear n n u):My.ue n a∧∀ i,i < n→(97:Int) ∣ My.ip n (a i) (fun j=>u j n) - b i:=by
 constructor
 ·intro z k j hj
  have k2:My.oW n (n+1) (gz n a b) (fun j=>if j < n then z j else 0):=vn.mpr fun i hi=>by
   rw [JP]
   simp only [Nat.lt_irrefl,if_false,Int.mul_zero,Int.add_zero]
   exact k i hi
  have k3:=(hk _).mpr k2 j hj
  rw [h.full _ j hj] at k3
  simpa [hj] using k3
 ·intro i hi
  have k1:My.oW n (n+1) u (fun j=>if j < n then - u j n else 1):=fun i hi=>by
   rw [h.full _ i hi]
   simp only [hi,if_true,Nat.lt_irrefl,if_false]
   exact ⟨0,by omega⟩
  have k2:=vn.mp ((hk _).mp k1) i hi
  rw [JP] at k2
  simp only [Nat.lt_irrefl,if_false,Int.mul_one] at k2
  have e:My.ip n (a i) (fun j=>- u j n)=- My.ip n (a i) (fun j=>u j n):=by
   have:=My.oV (-1) (fun j=>a i j * u j n) n
   unfold My.ip
   rw [show My.sumTo n (fun j=>a i j * - u j n)=My.sumTo n (fun j=>-1 * (a i j * u j n)) from My.bF n fun j _=>by grind,this]
   show -1 * My.sumTo n (fun j=>a i j * u j n)=- My.sumTo n (fun j=>a i j * u j n)
   omega
  rw [e] at k2
  have:=Int.dvd_neg.mpr k2
  rwa [show -(-My.ip n (a i) (fun j=>u j n)+b i)=My.ip n (a i) (fun j=>u j n) - b i by omega] at this
theorem JQ {m n c:Nat} {a:My.me} {f:Int}:∀ i j,i < m→j < n→0≤My.clear a c f i j∧My.clear a c f i j < 97:=fun i j _ _=>by
 unfold My.clear
 split <;> exact ⟨Int.emod_nonneg _ (by decide),Int.emod_lt_of_pos _ (by decide)⟩
theorem Lv {m n p q:Nat} {a:My.me} (hp:p < m) (hq:q < m) (h:∀ i j,i < m→j < n→0≤a i j∧a i j < 97):∀ i j,i < m→j < n→0≤My.swap a p q i j∧My.swap a p q i j < 97:=fun i j hi hj=>by
 unfold My.swap
 split
 ·exact h q j hq hj
 ·split
  ·exact h p j hp hj
  ·exact h i j hi hj
def sQ (K:PySem.W.Frag):Sp:=fun vs H Q _=>∃ (l r:Addr) (n:Nat) (a:My.me) (b:Nat→Int),vs=[.ref l,.ref r]∧qf K H l n n a∧aY K H r (tabI n b)∧n≤100 ∧
 (My.ue n a→∀ p H' x,H p=none→aI H H'→H' p=some (.lst (tabI n x))→(∀ i,i < n→0≤x i∧x i < 97)→(∀ i,i < n→(97:Int) ∣ My.ip n (a i) x - b i)→Q (.ref p) H')∧(¬ My.ue n a→∀ H',aI H H'→Q .bq H')
theorem kU:aS ["rows","right","table","column","place"] ["rows","right"] (aG kL):=⟨rfl,rfl,rfl,by decide +kernel,rfl,by decide +kernel,by decide +kernel⟩
theorem Gf (F:aR K mg "solved" kL) (T:Txt K mg t) (pU:Def P w K mg base 1 "equation" ["row","side"] (uC K)) (jl:Def P w K mg base 1 "pivot_place" ["table","column"] (nH K))
  (nJ:Def P w K mg base 1 "exchanged" ["table","one","other"] (qx K)) (sR:Def P w K mg base 5 "cleared" ["table","column"] (vm K)):Def P w K mg base 6 "solved" ["rows","right"] (sQ K):=by
 refine F.def kU (fun _ _ _ _ _ _ us hl=>match us,hl with | [_,_],_=>rfl) (fun vs H Q E h=>?_) (fun f be A outer s H vs Q E hr h=>?_)
 ·obtain ⟨l,r,n,a,b,rfl,_⟩:=h
  rfl
 ·obtain ⟨l,r,n,a,b,rfl,⟨as,g1,g2⟩,Qj,hn,q1,q2⟩:=h
  refine ⟨_,aD (mq (i:=2) kU.nd rfl (Or.inl rfl) rfl (Nc:=["row","side"]) (ix:=[none,none]) (dJ (aG kL) ["rows","right","table","column","place"] rfl rfl (by decide +kernel)) (zJ K (by rfl) T.FI (aA (pv 0) (aA (pv 1) aC))) (fun C fp s H=>⟨(lF K (i:=0) (j:=1) rfl (show (["row","side"]:List Str).Nodup by decide +kernel) rfl rfl (Or.inl rfl) (Or.inl rfl)),cS,(aa (pU.mono (by decide)) hr av (aA (pv 0) (aA (pv 1) aC)))⟩))
   (aD (PS.uX (cq PassesOwn.never rfl (cU (by rfl) T.dP (aA (bR (bY K) (by rfl) T.iZ boot_len (aA (pv 2) aC)) aC)) (az (i:=3) kU.nd rfl (Or.inl rfl))
    (aD (aZ (i:=4) kU.nd rfl (Or.inl rfl) (aa (jl.mono (by decide)) hr av (aA (pv 2) (aA (pv 3) aC))))
    (aD (bu (aj yx (pv 4) fg (au _))
     (aH (ar fg))
     (bD))
    (aH (aZ (i:=2) kU.nd rfl (Or.inl rfl) (aa (sR.mono (by decide)) hr av (aA (aa (nJ.mono (by decide)) hr av (aA (pv 2) (aA (pv 3) (aA (pv 4) aC)))) (aA (pv 3) aC)))))))))
   (aH (ar (kG rfl (Nc:=["row"]) (ix:=[none]) (dJ (aG kL) ["rows","right","table","column","place"] rfl rfl (by decide +kernel)) (cC K (pv 2)) (fun C fp s H=>⟨(az (i:=0) (show (["row"]:List Str).Nodup by decide +kernel) rfl (Or.inl rfl)),cS,(af (aQ K) (pv 0) (EU yw aF) (fun _ _=>rfl))⟩))))),?_⟩
  have ox:(2000:Nat)≤sizeLine:=by decide
  refine ⟨_,rfl,_,rfl,l,r,rfl,⟨_,g1⟩,⟨_,Qj⟩,fun D hD=>?_⟩
  refine Ez (K:=K) (a:=l) (b:=r) (n:=n) (F:=fun i=>V.ref (as i)) (G:=fun i=>V.int (b i)) (fun i σ H'=>∃ (v u:Option V) (ps:Nat→Addr),σ=[v,u]∧aI H H'∧H' D=some (.lst (bW i ps))∧∀ k,k < i→H' (ps k)=some (.lst (tabI (n+1) (gz n a b k)))∧ps k≠D)
   ⟨none,none,as,rfl,(aI.refl _).new hD,aB,fun k hk=>by omega⟩ (fun i σ H' _ ⟨_,_,_,_,s1,_⟩=>⟨s1.seq g1,s1.seq Qj⟩) ?_ ?_
  ·rintro i pt σ H' N hN hi ⟨v,u,ps,rfl,s1,h1,hp⟩ SW
   refine vH ?_
   have nD:D≠pt:=aM h1 SW
   have st:=(aI.refl H').new (o:=.tup [V.ref (as i),V.int (b i)]) SW
   refine ⟨_,rfl,_,rfl,as i,n,a i,b i,rfl,st.seq (s1.seq (g2 i hi)),by omega,fun p H2 PY s2 h2=>?_⟩
   have s3:=st.trans s2
   have np:D≠p:=aM (st _ _ h1) PY
   refine ⟨_,s3 _ _ h1,by rw [aL];omega,?_⟩
   rw [dF]
   refine hN _ _ ⟨_,_,_,rfl,(s1.trans s3).put hD,aB,fun k hk=>?_⟩
   by_cases e:k=i
   ·subst e
    simp only [if_true]
    exact ⟨by rw [aE (Ne.symm np),h2];rfl,Ne.symm np⟩
   ·simp only [e,if_false]
    obtain ⟨z1,z2⟩:=hp k (by omega)
    exact ⟨by rw [aE z2];exact s3 _ _ z1,z2⟩
  ·rintro σ H1 ⟨v,u,ps,rfl,s1,h1,hp⟩
   have G0:qf K H1 D n (n+1) (gz n a b):=⟨ps,aY.of h1,fun i hi=>aY.of (hp i hi).1⟩
   refine ⟨_,rfl,D,_,rfl,.inl (aY.of h1),_,rfl,by omega,by rw [aL];omega,?_⟩
   have en:(((bW n ps).length:Nat):Int).toNat=n:=by rw [aL,Int.toNat_natCast]
   rw [en]
   refine e8 (lo:=0) (n:=n) (fun c σ H'=>∃ (v v':Option V) (l':Addr) (u:My.me),σ=[some (.ref l),some (.ref r),some (.ref l'),v,v']∧aI H1 H'∧qf K H' l' n (n+1) u∧(∀ i j,i < n→j < n+1→0≤u i j∧u i j < 97)∧My.Clear n c u∧∀ z,My.oW n (n+1) u z↔My.oW n (n+1) (gz n a b) z)
    ⟨none,none,D,gz n a b,rfl,aI.refl _,G0,fun i j _ _=>⟨Int.emod_nonneg _ (by decide),Int.emod_lt_of_pos _ (by decide)⟩,My.Clear.start _ _,fun z=>Iff.rfl⟩ ?_ ?_
   ·rintro c σ H' hc ⟨v,v',l',u,rfl,s2,G,hu,Nm,hk⟩
    have e0:(0:Int)+(c:Nat)=((c:Nat):Int):=by omega
    rw [e0]
    refine ⟨_,rfl,_,rfl,l',n,n+1,c,u,rfl,G,by omega,by omega,by omega,by omega,fun p BN xC Gc _=>?_,fun hz=>?_⟩
    ·refine ⟨_,rfl,rfl,_,rfl,fj (fun z=>nomatch z) ?_⟩
     refine ⟨_,rfl,_,rfl,_,rfl,l',n,n+1,c,p,u,rfl,G,hc,xC,by omega,fun x1 H2 xN s3 G2=>?_⟩
     have UX:My.swap u c p c c=u p c:=by unfold My.swap;rw [if_pos rfl]
     have UZ:=Lv (n:=n+1) hc xC hu
     have PZ:=UZ c c hc (by omega)
     refine ⟨_,rfl,x1,n,n+1,c,My.swap u c p,rfl,G2,hc,by omega,by omega,by omega,UZ,by rw [UX];exact Gc,fun x2 H3 O3 s4 G3=>?_⟩
     have hinv:(97:Int) ∣ My.P (My.swap u c p c c) 95 * My.swap u c p c c - 1:=by
      have:=My.Ng (a:=My.swap u c p c c) (by rw [UX] at *;omega) PZ.2
      omega
     exact ⟨_,_,x2,_,rfl,s2.trans (s3.trans s4),G3,JQ,(Nm.swap BN xC).clear hc hinv,fun z=>(My.oW.clear hc hinv).trans ((My.oW.swap hc xC).trans (hk z))⟩
    ·refine ⟨_,rfl,rfl,_,rfl,fk rfl ?_⟩
     exact q2 (Lu hk Nm hc hz) H' (s1.trans s2)
   ·rintro σ H' ⟨v,v',l',u,rfl,s2,⟨bs,G1,G2⟩,hu,Nm,hk⟩
    obtain ⟨Lw,WL⟩:=C8 hk Nm
    refine ⟨_,rfl,l',rfl,⟨_,G1⟩,fun D2 Ge=>?_⟩
    refine sF (K:=K) (a:=l') (n:=n) (F:=fun i=>V.ref (bs i)) (fun i σ H2=>∃ v:Option V,σ=[v]∧aI H' H2∧H2 D2=some (.lst (tabI i fun k=>u k n))) ⟨none,rfl,(aI.refl _).new Ge,aB⟩ (fun i σ H' _ ⟨_,_,s1,_⟩=>s1.seq G1) ?_ ?_
    ·rintro i σ H2 N hN hi ⟨v,rfl,s3,h3⟩
     refine dX ?_
     refine ⟨_,rfl,_,rfl,_,_,_,_,rfl,rfl,s3.seq (G2 i hi),Ib,_,h3,by rw [aL];omega,?_⟩
     exact hN _ _ ⟨_,rfl,s3.put Ge,jR rfl⟩
    ·rintro σ H2 ⟨v,rfl,s3,h3⟩
     have SY:=(s1.trans s2)
     exact q1 Lw D2 H2 _ (SY.free Ge) (SY.trans s3) h3 (fun i hi=>hu i n hi (by omega)) WL
end
end K37
namespace K37
open PySem L2 PyProof.Rows
section
variable {P:Program} {w:World} {K:PySem.W.Frag} {mg:Str→Option Value} {base:Heap} {t:Ad}
def oz (K:PySem.W.Frag):Sp:=fun vs H Q _=>∃ (l:Addr) (s:Nat→Int),vs=[.ref l]∧aY K H l (tabI 6 s)∧(∀ j,j < 6→0≤s j∧s j < 97) ∧
 ∀ p H',H p=none→aI H H'→H' p=some (.lst ((My.mx s).map fun k=>V.int (k:Nat)))→Q (.ref p) H'
theorem o4:aS ["sums","place"] ["sums"] (aG iH):=⟨rfl,rfl,rfl,by decide +kernel,rfl,by decide +kernel,by decide +kernel⟩
theorem xO (F:aR K mg "lone_place" iH) (T:Txt K mg t) (pV:Def P w K mg base 4 "exponent" ["a"] (t9 t.BadSign)) (iP:Def P w K mg base 4 "inverse" ["a"] (pR t.BadSign)):Def P w K mg base 5 "lone_place" ["sums"] (oz K):=by
 refine F.def o4 (fun _ _ _ _ _ _ us hl=>match us,hl with | [_],_=>rfl) (fun vs H Q E h=>?_) (fun f be A outer s H vs Q E hr h=>?_)
 ·obtain ⟨l,s,rfl,_⟩:=h
  rfl
 ·obtain ⟨l,s,rfl,hl,bs,q⟩:=h
  refine ⟨_,aD (bu (PW.pt (Ab (aj jN (af (aQ K) (pv 0) aF (fun _ _=>rfl)) aF (au _)) (yv (aj jN (af (aQ K) (pv 0) aF (fun _ _=>rfl)) aF (au _)))))
    (aH (ar (bH aC)))
    (bD))
   (aD (aZ (i:=1) o4.nd rfl (Or.inl rfl) (aa (pV.mono (by decide)) hr av (aA (aP bG (aP b9 (af (aQ K) (pv 0) aF (fun _ _=>rfl)) (aa (iP.mono (by decide)) hr av (aA (af (aQ K) (pv 0) aF (fun _ _=>rfl)) aC))) (aV T.cE)) aC)))
   (aH (ar (ml (aj ux (pv 1) (aV T.zR) (au _)) (bH (aA (pv 1) aC)) (bH aC))))),?_⟩
  have b0:=bs 0 (by decide)
  have b1:=bs 1 (by decide)
  have a0:tu (tabI 6 s) 0=some (V.int (s 0)):=cv (n:=6) (by decide) (by decide)
  have a1:tu (tabI 6 s) 1=some (V.int (s 1)):=cv (n:=6) (by decide) (by decide)
  have q':∀ p,H p=none→Q (.ref p) (upd H p (.lst ((My.mx s).map fun k=>V.int (k:Nat)))):=fun p hp=>q p _ hp ((aI.refl _).new hp) aB
  refine ⟨_,rfl,l,_,_,_,rfl,rfl,hl,a0,rfl,_,rfl,?_⟩
  by_cases z0:s 0=0
  ·refine fk (by rw [z0]) (gw ?_)
   refine ⟨by show 0≤sizeLine;decide,fun p hp=>?_⟩
   have:=q' p hp
   rwa [My.mx,if_pos (.inl z0)] at this
  ·refine fj (fun e=>z0 (V.int.inj e)) ?_
   refine ⟨_,rfl,l,_,_,_,rfl,rfl,hl,a1,rfl,_,rfl,?_⟩
   by_cases z1:s 1=0
   ·refine fk (by rw [z1]) ?_
    refine ⟨by show 0≤sizeLine;decide,fun p hp=>?_⟩
    have:=q' p hp
    rwa [My.mx,if_pos (.inr z1)] at this
   ·refine fj (fun e=>z1 (V.int.inj e)) ?_
    have hinv:=My.GS (a:=s 0) (by omega) b0.2
    have Se:=My.PB (s 0) 95
    have hv:=My.PC (a:=s 1) (b:=My.P (s 0) 95) (by omega) b1.2 hinv Se
    have hv1:s 1 * My.P (s 0) 95 % 97 < 97:=Int.emod_lt_of_pos _ (by decide)
    refine ⟨_,rfl,l,_,_,_,rfl,rfl,hl,a1,_,rfl,l,_,_,_,rfl,rfl,hl,a0,s 0,rfl,dW (by omega) (by omega),fun _=>?_,fun h=>absurd ⟨by omega,b0.2⟩ h⟩
    refine ⟨_,_,rfl,rfl,.inl ⟨by omega,by omega⟩,_,_,rfl,rfl,(by show (0:Int) < 97;decide),_,rfl,dW (by omega) (by omega),fun _=>?_,fun h=>absurd ⟨hv,hv1⟩ h⟩
    have e0:=My.Iv (s 1 * My.P (s 0) 95 % 97)
    refine ⟨_,rfl,_,_,rfl,rfl,_,rfl,?_⟩
    by_cases hp:My.ex (s 1 * My.P (s 0) 95 % 97) < 24
    ·refine fk hp ?_
     refine ⟨_,rfl,by show 1≤sizeLine;decide,fun p PY=>?_⟩
     have:=q' p PY
     rw [My.mx,if_neg (by omega),if_pos hp] at this
     have e1:[V.int (My.ex (s 1 * My.P (s 0) 95 % 97))]=([(My.ex (s 1 * My.P (s 0) 95 % 97)).toNat].map fun k=>V.int (k:Nat)):=by
      show _=[V.int (((My.ex (s 1 * My.P (s 0) 95 % 97)).toNat:Nat):Int)]
      rw [Int.toNat_of_nonneg e0]
     rw [e1]
     exact this
    ·refine fj hp ?_
     refine ⟨by show 0≤sizeLine;decide,fun p PY=>?_⟩
     have:=q' p PY
     rwa [My.mx,if_neg (by omega),if_neg hp] at this
def vo:Sp:=fun vs H Q _=>∃ x t u:Int,vs=[.int x,.int t,.int u]∧0≤x∧x < 97∧0≤t∧t < 97∧Q (.bl (decide ((x * x - t * x+u) % 97=0))) H
theorem C9:aS ["point","total","product"] ["point","total","product"] (aG oZ):=⟨rfl,rfl,rfl,by decide +kernel,rfl,by decide +kernel,by decide +kernel⟩
theorem DA (F:aR K mg "is_root" oZ) (T:Txt K mg t):Def P w K mg base 1 "is_root" ["point","total","product"] vo:=by
 refine F.def C9 (fun _ _ _ _ _ _ us hl=>match us,hl with | [_,_,_],_=>rfl) (fun vs H Q E h=>?_) (fun f be A outer s H vs Q E hr h=>?_)
 ·obtain ⟨x,t,u,rfl,_⟩:=h
  rfl
 ·obtain ⟨x,tt,u,rfl,x0,x1,t0,t1,q⟩:=h
  refine ⟨_,aH (ar (ku jN (aP bG (aP bM (aP jg (aP b9 (pv 0) (pv 0)) (aP b9 (pv 1) (pv 0))) (pv 2)) (aV T.cE)) aF (au _))),?_⟩
  refine ⟨_,rfl,_,rfl,_,_,rfl,rfl,.inl ⟨by omega,by omega⟩,_,rfl,_,rfl,_,_,rfl,rfl,.inl ⟨by omega,by omega⟩,_,_,rfl,rfl,_,rfl,_,_,rfl,rfl,_,_,rfl,rfl,(by show (0:Int) < 97;decide),rfl,?_⟩
  have e:decide (V.int ((x * x - tt * x+u) % 97)=V.int 0)=decide ((x * x - tt * x+u) % 97=0):=decide_eq_decide.mpr ⟨fun h=>V.int.inj h,fun h=>by rw [h]⟩
  show Q (.bl (decide (V.int ((x * x - tt * x+u) % 97)=V.int 0))) H
  rw [e]
  exact q
def kW (K:PySem.W.Frag):Sp:=fun vs H Q _=>∃ (l:Addr) (s:Nat→Int),vs=[.ref l]∧aY K H l (tabI 6 s)∧(∀ j,j < 6→0≤s j∧s j < 97) ∧
 ∀ p H' ps,H p=none→aI H H'→H' p=some (.lst (ps.map fun k=>V.int (k:Nat)))→My.JE s ps→Q (.ref p) H'
theorem f9:aS ["sums","rows","pair"] ["sums"] (aG dC):=⟨rfl,rfl,rfl,by decide +kernel,rfl,by decide +kernel,by decide +kernel⟩
theorem sS (F:aR K mg "turned_places" dC) (T:Txt K mg t) (kX:Def P w K mg base 6 "solved" ["rows","right"] (sQ K)) (lQ:Def P w K mg base 5 "lone_place" ["sums"] (oz K)) (sT:Def P w K mg base 1 "is_root" ["point","total","product"] vo)
  (eM:Def P w K mg base 3 "power" ["a","k"] (nC t.BadSign)):Def P w K mg base 7 "turned_places" ["sums"] (kW K):=by
 refine F.def f9 (fun _ _ _ _ _ _ us hl=>match us,hl with | [_],_=>rfl) (fun vs H Q E h=>?_) (fun f be A outer s H vs Q E hr h=>?_)
 ·obtain ⟨l,s,rfl,_⟩:=h
  rfl
 ·obtain ⟨l,s,rfl,hl,bs,q⟩:=h
  refine ⟨_,aD (aZ (i:=1) f9.nd rfl (Or.inl rfl) (bH (aA (bH (aA (af (aQ K) (pv 0) aF (fun _ _=>rfl)) (aA (aP bG (EU yw (af (aQ K) (pv 0) aF (fun _ _=>rfl))) (aV T.cE)) aC))) (aA (bH (aA (af (aQ K) (pv 0) aF (fun _ _=>rfl)) (aA (aP bG (EU yw (af (aQ K) (pv 0) aF (fun _ _=>rfl))) (aV T.cE)) aC))) aC))))
   (aD (aZ (i:=2) f9.nd rfl (Or.inr rfl) (aa (kX.mono (by decide)) hr av (aA (pv 1) (aA (bH (aA (af (aQ K) (pv 0) aF (fun _ _=>rfl)) (aA (af (aQ K) (pv 0) aF (fun _ _=>rfl)) aC))) aC))))
   (aD (bu (aj yx (pv 2) fg (au _))
    (aH (ar (aa (lQ.mono (by decide)) hr av (aA (pv 0) aC))))
    (bD))
   (aH (ar (kG rfl (Nc:=["place","pair"]) (ix:=[none,some 2]) (dJ (aG dC) ["sums","rows","pair"] rfl rfl (by decide +kernel)) (cU (by rfl) T.dP (aA (aV T.zR) aC)) (fun C fp s H=>⟨(az (i:=0) (show (["place","pair"]:List Str).Nodup by decide +kernel) rfl (Or.inl rfl)),(Er (rg (aa (sT.mono (by decide)) hr av (aA (aa (eM.mono (by decide)) hr av (aA (aV T.FG) (aA (pv 0) aC))) (aA (af (aQ K) (pv 1) aF (fun _ _=>rfl)) (aA (af (aQ K) (pv 1) aF (fun _ _=>rfl)) aC)))))),(pv 0)⟩)))))),?_⟩
  have a0:tu (tabI 6 s) 0=some (V.int (s 0)):=cv (n:=6) (by decide) (by decide)
  have a1:tu (tabI 6 s) 1=some (V.int (s 1)):=cv (n:=6) (by decide) (by decide)
  have a2:tu (tabI 6 s) 2=some (V.int (s 2)):=cv (n:=6) (by decide) (by decide)
  have a3:tu (tabI 6 s) 3=some (V.int (s 3)):=cv (n:=6) (by decide) (by decide)
  have b4:∀ j,j < 4→0≤s j∧s j < 97:=fun j hj=>bs j (by omega)
  refine ⟨_,rfl,l,_,_,_,rfl,rfl,hl,a1,_,rfl,l,_,_,_,rfl,rfl,hl,a0,_,rfl,_,_,rfl,rfl,(by show (0:Int) < 97;decide),by show 2≤sizeLine;decide,fun r1 Qj=>?_⟩
  have s1:=(aI.refl H).new (o:=.lst [V.int (s 1),V.int (-(s 0) % 97)]) Qj
  refine ⟨_,rfl,l,_,_,_,rfl,rfl,s1.seq hl,a2,_,rfl,l,_,_,_,rfl,rfl,s1.seq hl,a1,_,rfl,_,_,rfl,rfl,(by show (0:Int) < 97;decide),by show 2≤sizeLine;decide,fun r2 HY=>?_⟩
  have s2:=s1.new (o:=.lst [V.int (s 2),V.int (-(s 1) % 97)]) HY
  refine ⟨by show 2≤sizeLine;decide,fun r3 WM=>?_⟩
  have s3:=s2.new (o:=.lst [V.ref r1,V.ref r2]) WM
  have e1:(upd (upd (upd H r1 (.lst [V.int (s 1),V.int (-(s 0) % 97)])) r2 (.lst [V.int (s 2),V.int (-(s 1) % 97)])) r3 (.lst [V.ref r1,V.ref r2])) r1=some (.lst [V.int (s 1),V.int (-(s 0) % 97)]):=by
   have z:r1≠r2:=aM aB HY
   rw [aE (aM (by rw [aE z];exact aB) WM),aE z];exact aB
  have e2:(upd (upd (upd H r1 (.lst [V.int (s 1),V.int (-(s 0) % 97)])) r2 (.lst [V.int (s 2),V.int (-(s 1) % 97)])) r3 (.lst [V.ref r1,V.ref r2])) r2=some (.lst [V.int (s 2),V.int (-(s 1) % 97)]):=by
   rw [aE (aM aB WM)];exact aB
  have e3:(upd (upd (upd H r1 (.lst [V.int (s 1),V.int (-(s 0) % 97)])) r2 (.lst [V.int (s 2),V.int (-(s 1) % 97)])) r3 (.lst [V.ref r1,V.ref r2])) r3=some (.lst [V.ref r1,V.ref r2]):=aB
  generalize upd (upd (upd H r1 (.lst [V.int (s 1),V.int (-(s 0) % 97)])) r2 (.lst [V.int (s 2),V.int (-(s 1) % 97)])) r3 (.lst [V.ref r1,V.ref r2])=H3 at *
  refine ⟨_,rfl,_,rfl,l,_,_,_,rfl,rfl,s3.seq hl,a2,_,rfl,l,_,_,_,rfl,rfl,s3.seq hl,a3,by show 2≤sizeLine;decide,fun r4 hr4=>?_⟩
  have s4:=(aI.refl H3).new (o:=.lst [V.int (s 2),V.int (s 3)]) hr4
  have G:qf K (upd H3 r4 (.lst [V.int (s 2),V.int (s 3)])) r3 2 2 (My.M s):=by
   refine ⟨fun i=>if i=0 then r1 else r2,aY.of (s4 _ _ e3),fun i hi=>?_⟩
   match i,hi with
   | 0,_=>exact aY.of (s4 _ _ e1)
   | 1,_=>exact aY.of (s4 _ _ e2)
  refine ⟨r3,r4,2,My.M s,fun i=>s (i+2),rfl,G,aY.of aB,by decide,fun WN p5 H5 x Uj s5 h5 bx hx=>?_,fun WN H5 s5=>?_⟩
  ·refine ⟨_,rfl,rfl,_,rfl,fj (fun z=>nomatch z) ?_⟩
   have sA:=(s3.trans s4).trans s5
   refine ⟨24,rfl,by decide,by decide,fun D hD=>?_⟩
   refine LO (n:=24) (by decide) (b:=My.FE (x 0) (x 1)) hD (fun i H6 N hi s6 hn=>?_) (fun i H6 N hi hn=>⟨_,rfl,hn⟩) fun H6 s6 h6=>?_
   ·have Qk:=bx 0 (by decide)
    refine ⟨_,rfl,5,_,rfl,by decide,by omega,fun _=>?_,fun h=>absurd (show (0:Int)≤5∧(5:Int) < 97 by decide) h⟩
    refine ⟨_,rfl,p5,_,_,_,rfl,rfl,aY.of (s6 _ _ h5),cv (n:=2) (by decide) (by decide),_,rfl,p5,_,_,_,rfl,rfl,aY.of (s6 _ _ h5),cv (n:=2) (by decide) (by decide),_,_,_,rfl,My.R7 _ _,My.PB _ _,Qk.1,Qk.2,_,rfl,?_⟩
    have e0:(0:Int)+(i:Nat)=(i:Nat):=by omega
    rw [e0]
    exact hn H6 (aI.refl _)
   ·exact q D H6 _ (sA.free hD) (sA.trans s6) h6 (My.JF WN hx)
  ·refine ⟨_,rfl,rfl,_,rfl,fk rfl ?_⟩
   have sA:=(s3.trans s4).trans s5
   refine ⟨_,rfl,l,s,rfl,sA.seq hl,bs,fun p6 H6 Ql s6 h6=>?_⟩
   exact q p6 H6 _ (sA.free Ql) (sA.trans s6) h6 (My.Lj b4 WN)
def uE (K:PySem.W.Frag):Sp:=fun vs H Q _=>∃ (l r:Addr) (ps:List Nat) (s:Nat→Int),vs=[.ref l,.ref r]∧H l=some (.lst (ps.map fun k=>V.int (k:Nat)))∧aY K H r (tabI 6 s)∧ps.Nodup∧(∀ p ∈ ps,p < 24)∧ps.length≤2 ∧
 ∀ p H' x,H p=none→aI H H'→H' p=some (.lst (tabI ps.length x))→(∀ i,i < ps.length→0≤x i∧x i < 97)→(∀ i,i < ps.length→(97:Int) ∣ My.ip ps.length (fun q=>My.P 5 ((ps.getD q 0:Nat) * (1+(i:Int)))) x - s i)→Q (.ref p) H'
theorem uF:aS ["places","sums","rows"] ["places","sums"] (aG iY):=⟨rfl,rfl,rfl,by decide +kernel,rfl,by decide +kernel,by decide +kernel⟩
theorem BV (F:aR K mg "turns_at" iY) (T:Txt K mg t) (kX:Def P w K mg base 6 "solved" ["rows","right"] (sQ K)) (eM:Def P w K mg base 3 "power" ["a","k"] (nC t.BadSign)):Def P w K mg base 7 "turns_at" ["places","sums"] (uE K):=by
 refine F.def uF (fun _ _ _ _ _ _ us hl=>match us,hl with | [_,_],_=>rfl) (fun vs H Q E h=>?_) (fun f be A outer s H vs Q E hr h=>?_)
 ·obtain ⟨l,r,ps,s,rfl,_⟩:=h
  rfl
 ·obtain ⟨l,r,ps,s,rfl,hl,Qj,nd,hb,yV,q⟩:=h
  refine ⟨_,aD (mq (i:=2) uF.nd rfl (Or.inl rfl) rfl (Nc:=["j","places"]) (ix:=[none,some 0]) (dJ (aG iY) ["places","sums","rows"] rfl rfl (by decide +kernel)) (rq (by rfl) T.dP (aA aF (aA (aP bM (bR (bY K) (by rfl) T.iZ boot_len (aA (pv 0) aC)) aF) aC))) (fun C fp s H=>⟨(az (i:=0) (show (["j","places"]:List Str).Nodup by decide +kernel) rfl (Or.inr rfl)),cS,(kG rfl (Nc:=["place","j"]) (ix:=[none,some 0]) (dJ _ ["j","places"] rfl rfl (by kernel_rfl)) (cC K (pv 1)) (fun C fp s H=>⟨(az (i:=0) (show (["place","j"]:List Str).Nodup by decide +kernel) rfl (Or.inl rfl)),cS,(aa (eM.mono (by decide)) hr av (aA (aV T.FG) (aA (aP b9 (pv 0) (pv 1)) aC)))⟩))⟩))
   (aH (ar (aa (kX.mono (by decide)) hr av (aA (pv 2) (aA (kF (kJ K) (pv 1) uY (jP (bR (bY K) (by rfl) T.iZ boot_len (aA (pv 0) aC)))) aC))))),?_⟩
  have ox:(2000:Nat)≤sizeLine:=by decide
  rw [Ax] at hl
  generalize hn:ps.length=n at *
  have hg:∀ q,q < n→((ps.getD q 0:Nat):Int) < 24:=fun q hq=>by
   have:=hb (ps.getD q 0) (by rw [My.getD_get (by omega)];exact List.getElem_mem _)
   omega
  refine ⟨_,rfl,l,_,rfl,.inl (aY.of hl),_,_,rfl,rfl,1,_,rfl,⟨by decide,by decide,by rw [aL];omega,by rw [aL];omega⟩,fun D3 Uk=>?_⟩
  rw [show ((((tabI n fun q=>((ps.getD q 0:Nat):Int)).length:Nat):Int)+1 - 1).toNat=n by rw [aL];omega]
  refine kI (lo:=1) (n:=n) (fun j σ Hf=>∃ (v:Option V) (rs:Nat→Addr),σ=[v,some (.ref l)]∧aI H Hf∧Hf D3=some (.lst (bW j rs))∧∀ y,y < j→Hf (rs y)=some (.lst (tabI n fun q=>My.P 5 ((ps.getD q 0:Nat) * (1+(y:Int)))))∧rs y≠D3)
   ⟨none,fun _=>0,rfl,(aI.refl _).new Uk,aB,fun y hy=>by omega⟩ ?_ ?_
  ·rintro j σ Hf N hN hj ⟨v,rs,rfl,sf,Ly,dD⟩
   refine dX ?_
   refine ⟨_,rfl,l,rfl,⟨_,aY.of (sf _ _ hl)⟩,fun D4 WO=>?_⟩
   have YE:D3≠D4:=aM Ly WO
   refine sF (K:=K) (a:=l) (n:=n) (F:=fun q=>V.int ((ps.getD q 0:Nat):Int)) (fun y σ Hg=>∃ v:Option V,σ=[v,some (.int (1+(j:Int)))]∧aI Hf Hg∧Hg D4=some (.lst (tabI y fun q=>My.P 5 ((ps.getD q 0:Nat) * (1+(j:Int))))))
    ⟨none,rfl,(aI.refl _).new WO,aB⟩ (fun y σ Hg _ ⟨_,_,sg,_⟩=>aY.of (sg _ _ (sf _ _ hl))) ?_ ?_
   ·rintro y σ Hg N2 YF hy ⟨v,rfl,sg,Pa⟩
    refine dX ?_
    have hb:=hg y hy
    refine ⟨_,rfl,_,rfl,_,_,rfl,rfl,.inl ⟨by omega,by omega⟩,5,_,rfl,by decide,Int.mul_nonneg (by omega) (by omega),fun _=>?_,fun h=>absurd (show (0:Int)≤5∧(5:Int) < 97 by decide) h⟩
    refine ⟨_,Pa,by rw [aL];omega,?_⟩
    exact YF _ _ ⟨_,rfl,sg.put WO,jR rfl⟩
   ·rintro σ Hg ⟨v,rfl,sg,Pa⟩
    refine ⟨_,sg _ _ Ly,by rw [aL];omega,?_⟩
    rw [dF]
    refine hN _ _ ⟨_,_,rfl,(sf.trans sg).put Uk,aB,fun y hy=>?_⟩
    by_cases e:y=j
    ·subst e
     rw [if_pos rfl,aE (Ne.symm YE)]
     exact ⟨Pa,Ne.symm YE⟩
    ·rw [if_neg e]
     obtain ⟨w1,w2⟩:=dD y (by omega)
     rw [aE w2]
     exact ⟨sg _ _ w1,w2⟩
  ·rintro σ Hf ⟨v,rs,rfl,sf,Ly,dD⟩
   refine ⟨_,rfl,_,rfl,_,rfl,l,_,rfl,.inl (aY.of (sf _ _ hl)),_,rfl,r,_,rfl,sf.seq Qj,fun D5 hD5=>?_⟩
   rw [aL,show iF (tabI 6 s) none (some (n:Int))=tabI n s from vK (by omega)]
   have s5:=(aI.refl Hf).new (o:=.lst (tabI n s)) hD5
   have Lw:=My.FF nd hb
   rw [hn] at Lw
   refine ⟨D3,D5,n,(fun i q=>My.P 5 ((ps.getD q 0:Nat) * (1+(i:Int)))),s,rfl,⟨rs,aY.of (s5 _ _ Ly),fun i hi=>aY.of (s5 _ _ (dD i hi).1)⟩,aY.of aB,by omega,fun _ pa Hh x FL sh hxa bx hxx=>?_,fun h=>absurd Lw h⟩
   have sA:=sf.trans s5
   exact q pa Hh x (sA.free FL) (sA.trans sh) hxa bx hxx
def yh (K:PySem.W.Frag):Sp:=fun vs H Q _=>∃ (l:Addr) (f:Nat→Int),vs=[.ref l]∧aY K H l (tabI 24 f)∧IsCell 24 f ∧
 (∀ g p H',My.pP f g→H p=none→aI H H'→H' p=some (.lst (tabI 24 g))→Q (.ref p) H')∧((∀ g,¬ My.pP f g)→∀ H',aI H H'→Q .bq H')
theorem Lz {f x:Nat→Int} {ps:List Nat} {k:Nat} (h:ps.getD k 0 < 24):(tabI 24 (My.vT f ps x k)).set (ps.getD k 0) (V.int ((My.vT f ps x k (ps.getD k 0) - x k) % 97))=tabI 24 (My.vT f ps x (k+1)):=by
 rw [qe h]
 refine bU fun j _=>?_
 show _=V.int (if j=ps.getD k 0 then (My.vT f ps x k (ps.getD k 0) - x k) % 97 else My.vT f ps x k j)
 split <;> rfl
theorem kY:aS ["cell","sums","places","found","place","turn"] ["cell"] (aG qo):=⟨rfl,rfl,rfl,by decide +kernel,rfl,by decide +kernel,by decide +kernel⟩
theorem Gg (F:aR K mg "mended" qo) (T:Txt K mg t) (f7:Def P w K mg base 4 "troubles" ["cell"] (nE K)) (nK:Def P w K mg base 5 "is_sealed" ["cell"] (qv K)) (g7:Def P w K mg base 7 "turned_places" ["sums"] (kW K))
  (pW:Def P w K mg base 7 "turns_at" ["places","sums"] (uE K)):Def P w K mg base 8 "mended" ["cell"] (yh K):=by
 refine F.def kY (fun _ _ _ _ _ _ us hl=>match us,hl with | [_],_=>rfl) (fun vs H Q E h=>?_) (fun f be A outer s H vs Q E hr h=>?_)
 ·obtain ⟨l,f,rfl,_⟩:=h
  rfl
 ·obtain ⟨l,f,rfl,hl,cf,q1,q2⟩:=h
  refine ⟨_,aD (aZ (i:=1) kY.nd rfl (Or.inl rfl) (aa (f7.mono (by decide)) hr av (aA (pv 0) aC)))
   (aD (bu (aj (E7 K (GC hr)) (pv 1) (aP zG (bH (aA aF aC)) (aV T.FH)) (au _))
    (aH (ar (fh (fo K) (by rfl) T.pQ boot_list (aA (pv 0) aC))))
    (bD))
   (aD (aZ (i:=2) kY.nd rfl (Or.inl rfl) (aa (g7.mono (by decide)) hr av (aA (pv 1) aC)))
   (aD (aZ (i:=3) kY.nd rfl (Or.inl rfl) (fh (fo K) (by rfl) T.pQ boot_list (aA (pv 0) aC)))
   (aD (PS.uX (cq PassesOwn.never rfl (zJ K (by rfl) T.FI (aA (pv 2) (aA (aa (pW.mono (by decide)) hr av (aA (pv 2) (aA (pv 1) aC))) aC))) (lF K (i:=4) (j:=5) rfl kY.nd rfl rfl (Or.inl rfl) (Or.inl rfl))
    (aH (pH (aP bG (aP jg (af (aQ K) (pv 3) (pv 4) (fun _ _=>rfl)) (pv 5)) (aV T.cE)) (rk (pv 3) (pv 4) set_list)))))
   (aH (ar (ml (rg (aa (nK.mono (by decide)) hr av (aA (pv 3) aC))) (pv 3) fg))))))),?_⟩
  have mp:∀ n (g:Nat→Int),tabI n g=((List.range n).map g).map V.int:=fun n g=>(ua n g).symm
  refine ⟨_,rfl,l,f,rfl,hl,cf,fun p1 H1 BN s1 h1=>?_⟩
  have bs:∀ j,j < 6→0≤My.T (My.St j) 24 f∧My.T (My.St j) 24 f < 97:=fun j _=>⟨My.WD _ _ _,My.WE _ _ _⟩
  refine ⟨_,rfl,by show 1≤sizeLine;decide,fun a1 PR=>?_⟩
  refine ⟨a1,_,_,rfl,rfl,aB,by decide,by decide,by decide,fun a2 PU=>?_⟩
  have s2:=((aI.refl H1).new (o:=.lst [V.int 0]) PR).new (o:=.lst (List.replicate (6:Int).toNat [V.int 0]).flatten) PU
  have Pb:=s2 _ _ h1
  refine ⟨p1,a2,(List.range 6).map fun j=>My.T (My.St j) 24 f,(List.range 6).map fun _=>0,rfl,rfl,aY.of (by rw [← mp];exact Pb),aY.of (by rw [aB];rfl),_,rfl,?_⟩
  have sA:=s1.trans s2
  generalize upd (upd H1 a1 (.lst [V.int 0])) a2 (.lst (List.replicate (6:Int).toNat [V.int 0]).flatten)=H2 at *
  by_cases hz:(List.range 6).map (fun j=>My.T (My.St j) 24 f)=(List.range 6).map fun _=>(0:Int)
  ·refine fk hz ?_
   have sl:My.bZ f:=jd.mp (by unfold oh;exact decide_eq_true hz)
   refine ⟨_,rfl,l,_,rfl,.inl (sA.seq hl),fun p hp=>?_⟩
   exact q1 f p _ (My.pP.self cf.b sl) (sA.free hp) (sA.new hp) aB
  ·refine fj hz ?_
   have sl:¬ My.bZ f:=fun z=>hz (by have:=jd.mpr z;unfold oh at this;exact of_decide_eq_true this)
   refine ⟨_,rfl,p1,_,rfl,aY.of Pb,bs,fun p3 H3 ps Gc s3 h3 pl=>?_⟩
   have sB:=sA.trans s3
   refine ⟨_,rfl,l,_,rfl,.inl (sB.seq hl),fun p4 Ul=>?_⟩
   have s4:=(aI.refl H3).new (o:=.lst (tabI 24 f)) Ul
   have h4:(upd H3 p4 (.lst (tabI 24 f))) p4=some (.lst (tabI 24 f)):=aB
   have Sf:=s4 _ _ h3
   have h14:=s4 _ _ (s3 _ _ Pb)
   generalize hH4:upd H3 p4 (.lst (tabI 24 f))=H4 at *
   refine ⟨_,rfl,_,rfl,_,rfl,p3,p1,ps,_,rfl,Sf,aY.of h14,pl.nd,pl.b,pl.yV,fun p5 H5 x Uj s5 h5 bx hx=>?_⟩
   have WQ:=s5 _ _ Sf
   rw [Ax] at WQ
   have n45:p4≠p5:=aM h4 Uj
   refine ⟨p3,p5,rfl,⟨_,aY.of WQ⟩,⟨_,aY.of h5⟩,?_⟩
   have f3:H3 p4=none:=Ul
   have n43:p3≠p4:=aM h3 f3
   refine LN (K:=K) (a:=p3) (b:=p5) (xs:=tabI ps.length fun q=>((ps.getD q 0:Nat):Int)) (ys:=tabI ps.length x) (by rw [aL,aL])
    (fun k σ H6=>∃ v1 v2:Option V,σ=[some (.ref l),some (.ref p1),some (.ref p3),some (.ref p4),v1,v2]∧aI H3 H6∧H6 p4=some (.lst (tabI 24 (My.vT f ps x k)))∧H6 p3=some (.lst (tabI ps.length fun q=>((ps.getD q 0:Nat):Int)))∧H6 p5=some (.lst (tabI ps.length x)))
    ⟨none,none,rfl,s4.trans s5,s5 _ _ h4,WQ,h5⟩ (fun k σ H6 _ ⟨_,_,_,_,_,z3,z5⟩=>⟨aY.of z3,aY.of z5⟩) ?_ ?_
   ·rintro k u v pp σ H6 hu hv ⟨v1,v2,rfl,s6,h6,z3,z5⟩ PV
    obtain ⟨hk,rfl⟩:=tab_of hu
    obtain ⟨_,rfl⟩:=tab_of hv
    have hg:ps.getD k 0 < 24:=pl.b _ (by rw [My.getD_get hk];exact List.getElem_mem _)
    have np:p4≠pp:=aM h6 PV
    have n3:p3≠pp:=aM z3 PV
    have n5:p5≠pp:=aM z5 PV
    have YG:(upd H6 pp (.tup [V.int ((ps.getD k 0:Nat):Int),V.int (x k)])) p4=some (.lst (tabI 24 (My.vT f ps x k))):=by rw [aE np];exact h6
    refine qg (cP.of aB) ?_
    refine ⟨_,rfl,_,rfl,p4,_,_,_,rfl,rfl,aY.of YG,cv (by dsimp only;omega) (by dsimp only;omega),_,rfl,_,_,rfl,rfl,_,_,rfl,rfl,(by show (0:Int) < 97;decide),_,rfl,_,rfl,p4,_,_,_,rfl,rfl,YG,vJ (by dsimp only;omega) (by dsimp only;omega),?_⟩
    dsimp only
    rw [Int.toNat_natCast,Lz hg]
    refine ⟨_,_,rfl,(s6.new PV).put f3,aB,?_,?_⟩
    ·rw [aE n43,aE n3];exact z3
    ·rw [aE (Ne.symm n45),aE n5];exact z5
   ·rintro σ H6 ⟨v1,v2,rfl,s6,h6,z3,z5⟩
    rw [aL] at h6
    have cfn:IsCell 24 (My.vT f ps x ps.length):=⟨My.JG ps x cf.b ps.length⟩
    have sC:=sB.trans s6
    refine ⟨_,rfl,p4,_,rfl,aY.of h6,cfn,fun H7 s7=>⟨_,rfl,?_⟩⟩
    by_cases hs:My.bZ (My.vT f ps x ps.length)
    ·rw [jd.mpr hs]
     refine gw ?_
     refine ⟨_,rfl,?_⟩
     exact q1 _ p4 H7 (My.Cy cf.b pl.nd pl.yV hs) (sB.free f3) (sC.trans s7) (s7 _ _ h6)
    ·rw [C5 hs]
     refine gu ?_
     refine q2 (fun g hm=>hs ?_) H7 (sC.trans s7)
     exact hm.sealed.congr fun i hi=>(My.Cw cf.b hm sl pl hx i hi).symm
end
end K37
namespace K37
open PySem L2 PyProof.Rows
section
variable {P:Program} {w:World} {K:PySem.W.Frag} {mg:Str→Option Value} {base:Heap} {t:Ad}
inductive Ev where
 | mk (w:Str) (p:Int × Int) (ns:List Int)
 | took (xs:List Int)
structure Lk where
 q:Int
 s:Int
 d:Int
 u:Int
 b:Int
 k:Int
 p:Option (Int × Int)
 ev:List Ev
 bE:List (List Int)
 of:Int
 tk:Int
def cQ (q s d u b k:Int) (pv:V) (tA pA:Addr) (o tk:Int):List (Str × V):=[("quiet",.int q),("side",.int s),("done",.int d),("unheard",.int u),("birth",.int b),("known",.int k),("pair",pv),("told",.ref tA),("pieces",.ref pA),("offered",.int o),("taken",.int tk)]
section
variable {q s d u b k x o tk:Int} {pv v:V} {tA pA y:Addr}
theorem FN:(cQ q s d u b k pv tA pA o tk).lookup ("quiet":Str)=some (.int q):=rfl
theorem Pc:(cQ q s d u b k pv tA pA o tk).lookup ("side":Str)=some (.int s):=rfl
theorem DB:(cQ q s d u b k pv tA pA o tk).lookup ("done":Str)=some (.int d):=rfl
theorem yi:(cQ q s d u b k pv tA pA o tk).lookup ("unheard":Str)=some (.int u):=rfl
theorem qz:(cQ q s d u b k pv tA pA o tk).lookup ("birth":Str)=some (.int b):=rfl
theorem oj:(cQ q s d u b k pv tA pA o tk).lookup ("known":Str)=some (.int k):=rfl
theorem nL:(cQ q s d u b k pv tA pA o tk).lookup ("pair":Str)=some pv:=rfl
theorem vp:(cQ q s d u b k pv tA pA o tk).lookup ("told":Str)=some (.ref tA):=rfl
theorem kZ:(cQ q s d u b k pv tA pA o tk).lookup ("pieces":Str)=some (.ref pA):=rfl
theorem yj:(cQ q s d u b k pv tA pA o tk).lookup ("offered":Str)=some (.int o):=rfl
theorem zm:(cQ q s d u b k pv tA pA o tk).lookup ("taken":Str)=some (.int tk):=rfl
theorem L0:dk "done" (.int x) (cQ q s d u b k pv tA pA o tk)=cQ q s x u b k pv tA pA o tk:=rfl
theorem DC:dk "unheard" (.int x) (cQ q s d u b k pv tA pA o tk)=cQ q s d x b k pv tA pA o tk:=rfl
theorem JR:dk "birth" (.int x) (cQ q s d u b k pv tA pA o tk)=cQ q s d u x k pv tA pA o tk:=rfl
theorem BW:dk "known" (.int x) (cQ q s d u b k pv tA pA o tk)=cQ q s d u b x pv tA pA o tk:=rfl
theorem FO:dk "pair" v (cQ q s d u b k pv tA pA o tk)=cQ q s d u b k v tA pA o tk:=rfl
theorem L3:dk "told" (.ref y) (cQ q s d u b k pv tA pA o tk)=cQ q s d u b k pv y pA o tk:=rfl
theorem Gi:dk "pieces" (.ref y) (cQ q s d u b k pv tA pA o tk)=cQ q s d u b k pv tA y o tk:=rfl
theorem vq:dk "offered" (.int x) (cQ q s d u b k pv tA pA o tk)=cQ q s d u b k pv tA pA x tk:=rfl
theorem BX:dk "taken" (.int x) (cQ q s d u b k pv tA pA o tk)=cQ q s d u b k pv tA pA o x:=rfl
end
abbrev Lk.fld (L:Lk) (pv:V) (tA pA:Addr):List (Str × V):=cQ L.q L.s L.d L.u L.b L.k pv tA pA L.of L.tk
def rA (B:Hp) (pv:V):Option (Int × Int)→Prop
 | none=>pv=.bq
 | some p=>∃ a,pv=.ref a∧B a=some (.tup [.int p.1,.int p.2])
def BY (B:Hp) (a:Addr):Ev→Prop
 | .mk w p ns=>∃ pa,B a=some (.tup (.str w :: .ref pa :: ns.map V.int))∧B pa=some (.tup [.int p.1,.int p.2])
 | .took xs=>∃ l,B a=some (.tup [.str "took",.ref l])∧B l=some (.lst (xs.map V.int))
def FP (B H:Hp) (l:Addr) (es:List Ev):Prop:=∃ jK:Nat→Addr,H l=some (.lst (bW es.length jK))∧∀ y e,es[y]?=some e→BY B (jK y) e
def eH (B H:Hp) (l:Addr) (ps:List (List Int)):Prop:=∃ df:Nat→Addr,H l=some (.lst (bW ps.length df))∧∀ y xs,ps[y]?=some xs→B (df y)=some (.lst (xs.map V.int))
theorem rA.mono {B B':Hp} {pv:V} {o:Option (Int × Int)} (h:rA B pv o) (s:aI B B'):rA B' pv o:=by
 cases o with
 | none=>exact h
 | some p=>obtain ⟨a,e,g⟩:=h;exact ⟨a,e,s _ _ g⟩
theorem BY.mono {B B':Hp} {a:Addr} {e:Ev} (h:BY B a e) (s:aI B B'):BY B' a e:=by
 cases e with
 | mk w p ns=>obtain ⟨pa,g1,g2⟩:=h;exact ⟨pa,s _ _ g1,s _ _ g2⟩
 | took xs=>obtain ⟨l,g1,g2⟩:=h;exact ⟨l,s _ _ g1,s _ _ g2⟩
structure bP (C:Addr) (B H:Hp) (x tA pA:Addr) (L:Lk):Prop where
 sb:aI B H
 bx:B x=none
 bt:B tA=none
 bp:B pA=none
 at_:∃ dx pv,H x=some (.ins C dx (L.fld pv tA pA))∧rA B pv L.p
 told:FP B H tA L.ev
 bE:eH B H pA L.bE
 ne:tA≠pA
def Sg (a b c:Addr) (H H':Hp):Prop:=∀ x o,x≠a→x≠b→x≠c→H x=some o→H' x=some o
theorem ic {H:Hp} {x b:Addr} {o:HO} (h:(upd H x o) b=none) (hx:H x≠none):H b=none:=by
 by_cases z:b=x
 ·subst z;rw [aB] at h;cases h
 ·rw [aE z] at h;exact h
structure iQ (B H B' H':Hp) (x tA pA tB pB:Addr):Prop where
 bb:aI B B'
 no:∀ a,H a≠none→B a=none→B' a=none
 k:Sg x tA pA H H'
 g:∀ b,H' b=none→H b=none
 t:tB=tA∨H tB=none
 p:pB=pA∨H pB=none
theorem iQ.refl {B H:Hp} {x tA pA:Addr}:iQ B H B H x tA pA tA pA:=⟨aI.refl _,fun _ _ h=>h,fun _ _ _ _ _ h=>h,fun _ h=>h,.inl rfl,.inl rfl⟩
theorem iQ.trans {B H B1 H1 B2 H2:Hp} {x tA pA tB pB tC pC:Addr} (a:iQ B H B1 H1 x tA pA tB pB) (b:iQ B1 H1 B2 H2 x tB pB tC pC):iQ B H B2 H2 x tA pA tC pC:=by
 have ne:∀ {y z:Addr} {o:HO},H y=some o→y≠z→(∀ {w:Addr},(w=z∨H w=none)→y≠w):=fun {y z o} e n {w} h=>h.elim (fun q=>q ▸ n) (fun q=>aM e q)
 refine ⟨a.bb.trans b.bb,fun y h1 h2=>b.no y (fun z=>h1 (a.g y z)) (a.no y h1 h2),fun y o n1 n2 n3 e=>b.k y o n1 (ne e n2 a.t) (ne e n3 a.p) (a.k y o n1 n2 n3 e),fun y h=>a.g y (b.g y h),?_,?_⟩
 ·rcases b.t with z | z
  ·rw [z];exact a.t
  ·exact .inr (a.g _ z)
 ·rcases b.p with z | z
  ·rw [z];exact a.p
  ·exact .inr (a.g _ z)
theorem iQ.of_same {B H H1:Hp} {x tA pA:Addr} (s:aI H H1):iQ B H B H1 x tA pA tA pA:=⟨aI.refl _,fun _ _ h=>h,fun y o _ _ _ e=>s _ _ e,fun y h=>s.free h,.inl rfl,.inl rfl⟩
theorem iQ.same {B H B1 H1 H2:Hp} {x tA pA tB pB:Addr} (a:iQ B H B1 H1 x tA pA tB pB) (s:aI H1 H2):iQ B H B1 H2 x tA pA tB pB:=a.trans (iQ.of_same s)
section
variable {C:Addr} {B H H':Hp} {x tA pA:Addr} {L:Lk}
theorem bP.hx (h:bP C B H x tA pA L):H x≠none:=by obtain ⟨_,_,g,_⟩:=h.at_;rw [g];exact fun z=>by cases z
theorem bP.ht (h:bP C B H x tA pA L):H tA≠none:=by obtain ⟨_,g,_⟩:=h.told;rw [g];exact fun z=>by cases z
theorem bP.hp (h:bP C B H x tA pA L):H pA≠none:=by obtain ⟨_,g,_⟩:=h.bE;rw [g];exact fun z=>by cases z
theorem bP.xt (h:bP C B H x tA pA L):x≠tA:=fun z=>by obtain ⟨_,_,g,_⟩:=h.at_;obtain ⟨_,g2,_⟩:=h.told;rw [z,g2] at g;cases g
theorem bP.xp (h:bP C B H x tA pA L):x≠pA:=fun z=>by obtain ⟨_,_,g,_⟩:=h.at_;obtain ⟨_,g2,_⟩:=h.bE;rw [z,g2] at g;cases g
theorem bP.same (h:bP C B H x tA pA L) (s:aI H H'):bP C B H' x tA pA L:=by
 obtain ⟨dx,pv,g,gp⟩:=h.at_
 obtain ⟨jK,g2,xP⟩:=h.told
 obtain ⟨df,g3,rX⟩:=h.bE
 exact ⟨h.sb.trans s,h.bx,h.bt,h.bp,⟨dx,pv,s _ _ g,gp⟩,⟨jK,s _ _ g2,xP⟩,⟨df,s _ _ g3,rX⟩,h.ne⟩
theorem bP.grow {a:Addr} {o:HO} (h:bP C B H x tA pA L) (s:aI H H') (na:H a=none) (ea:H' a=some o):bP C (upd B a o) H' x tA pA L∧iQ B H (upd B a o) H' x tA pA tA pA:=by
 have sB:aI B (upd B a o):=(aI.refl _).new (h.sb.free na)
 have no:∀ {b:Addr},H b≠none→B b=none→(upd B a o) b=none:=fun {b} hb e=>by rw [aE (fun z=>hb (by rw [z];exact na))];exact e
 have h1:=h.same s
 obtain ⟨dx,pv,g,gp⟩:=h1.at_
 obtain ⟨jK,g2,xP⟩:=h1.told
 obtain ⟨df,g3,rX⟩:=h1.bE
 refine ⟨⟨?_,no h.hx h.bx,no h.ht h.bt,no h.hp h.bp,⟨dx,pv,g,gp.mono sB⟩,⟨jK,g2,fun y e he=>(xP y e he).mono sB⟩,⟨df,g3,fun y xs hy=>sB _ _ (rX y xs hy)⟩,h.ne⟩,⟨sB,fun b=>no,fun y u _ _ _ e=>s _ _ e,fun y hy=>s.free hy,.inl rfl,.inl rfl⟩⟩
 intro b u e
 by_cases z:b=a
 ·rw [z] at e ⊢;rw [aB] at e;rw [ea];exact e
 ·rw [aE z] at e;exact h1.sb _ _ e
theorem bP.set {dx:Addr} {pv:V} {L':Lk} (h:bP C B H x tA pA L) (hp:rA B pv L'.p) (e:L'.ev=L.ev) (e2:L'.bE=L.bE) :
  bP C B (upd H x (.ins C dx (L'.fld pv tA pA))) x tA pA L'∧iQ B H B (upd H x (.ins C dx (L'.fld pv tA pA))) x tA pA tA pA:=by
 obtain ⟨jK,g2,xP⟩:=h.told
 obtain ⟨df,g3,rX⟩:=h.bE
 exact ⟨⟨h.sb.put h.bx,h.bx,h.bt,h.bp,⟨dx,pv,aB,hp⟩,by rw [e];exact ⟨jK,by rw [aE (Ne.symm h.xt)];exact g2,xP⟩,by rw [e2];exact ⟨df,by rw [aE (Ne.symm h.xp)];exact g3,rX⟩,h.ne⟩,
  ⟨aI.refl _,fun _ _ z=>z,fun y o n1 _ _ e=>by rw [aE n1];exact e,fun b hb=>ic hb h.hx,.inl rfl,.inl rfl⟩⟩
theorem bP.tell {ea:Addr} {jK:Nat→Addr} {vs:List V} {e:Ev} (h:bP C B H x tA pA L) (g:H tA=some (.lst (bW L.ev.length jK))) (g':∀ y e,L.ev[y]?=some e→BY B (jK y) e) (he:H ea=none) (HZ:BY (upd B ea (.tup vs)) ea e) :
  bP C (upd B ea (.tup vs)) (upd (upd H ea (.tup vs)) tA (.lst (bW L.ev.length jK ++ [.ref ea]))) x tA pA { L with ev:=L.ev ++ [e] } ∧
  iQ B H (upd B ea (.tup vs)) (upd (upd H ea (.tup vs)) tA (.lst (bW L.ev.length jK ++ [.ref ea]))) x tA pA tA pA:=by
 have s1:aI H (upd H ea (.tup vs)):=(aI.refl _).new he
 obtain ⟨h1,m1⟩:=h.grow (o:=.tup vs) s1 he aB
 obtain ⟨dx,pv,gx,gp⟩:=h1.at_
 obtain ⟨df,g3,rX⟩:=h1.bE
 have g1:=s1 _ _ g
 refine ⟨⟨h1.sb.put h1.bt,h1.bx,h1.bt,h1.bp,⟨dx,pv,by rw [aE h.xt];exact gx,gp⟩,?_,⟨df,by rw [aE (Ne.symm h.ne)];exact g3,rX⟩,h.ne⟩,?_⟩
 ·refine ⟨fun y=>if y=L.ev.length then ea else jK y,by rw [dF];show _=some (HO.lst (bW (L.ev ++ [_]).length _));rw [List.length_append];exact aB,fun y e' hy=>?_⟩
  have hy:(L.ev ++ [e])[y]?=some e':=hy
  by_cases z:y=L.ev.length
  ·rw [z,List.getElem?_append_right (Nat.le_refl _),Nat.sub_self] at hy
   cases hy
   simp only [z,if_true]
   exact HZ
  ·have Sh:y < (L.ev ++ [e]).length:=(List.getElem?_eq_some_iff.mp hy).1
   rw [List.length_append] at Sh
   have Si:y < L.ev.length:=by simp at Sh;omega
   rw [List.getElem?_append_left Si] at hy
   simp only [z,if_false]
   exact (g' y e' hy).mono m1.bb
 ·exact m1.trans ⟨aI.refl _,fun _ _ z=>z,fun y o _ n2 _ e=>by rw [aE n2];exact e,fun b hb=>ic hb h1.ht,.inl rfl,.inl rfl⟩
theorem JS {ea pa:Addr} {w:Str} {p:Int × Int} {ns:List Int} (hb:B ea=none) (hp:B pa=some (.tup [.int p.1,.int p.2])):BY (upd B ea (.tup (.str w :: .ref pa :: ns.map V.int))) ea (.mk w p ns) :=
 ⟨pa,aB,by rw [aE (aM hp hb)];exact hp⟩
theorem L6 {ea l:Addr} {xs:List Int} (hb:B ea=none) (hl:B l=some (.lst (xs.map V.int))):BY (upd B ea (.tup [.str "took",.ref l])) ea (.took xs) :=
 ⟨l,aB,by rw [aE (aM hl hb)];exact hl⟩
end
def Pd (L:Lk):Lk:={ L with p:=none,bE:=[],of:=0,tk:=0 }
def aw (L:Lk) (n:Int):Lk:=match L.p with
 | none=>{ L with k:=n }
 | some p=>if L.k < n then { L with p:=none,bE:=[],of:=0,tk:=0,k:=n,ev:=L.ev ++ [.mk "anew" p []] } else { L with k:=n }
def bA (L:Lk):Lk:=match L.p with
 | none=>{ L with p:=some (if L.s=0 then (L.b,L.k) else (L.k,L.b)),ev:=L.ev ++ [.mk "up" (if L.s=0 then (L.b,L.k) else (L.k,L.b)) []] }
 | some _=>L
def eI (L:Lk):Lk:=match L.p with
 | none=>{ L with b:=L.b+1,k:=0 }
 | some p=>{ L with p:=none,bE:=[],of:=0,tk:=0,b:=L.b+1,k:=0,ev:=L.ev ++ [.mk "silent" p [L.d - L.q+1,L.d]] }
def bB (L:Lk) (c:Int):Lk:=if L.bE≠[]∧c=(L.of+1) % 97 then { L with bE:=L.bE.tail,of:=(L.of+1) % 97 } else L
def bO (L:Lk) (n:Int) (xs:List Int):Lk:=if xs≠[]∧n=L.tk then { L with ev:=L.ev ++ [.took xs],tk:=(L.tk+1) % 97 } else L
structure Cl where
 b:Int
 k:Int
 n:Int
 c:Int
 xs:List Int
def aW (L:Lk) (a:Cl):Lk:=if a.b < L.k then L else if a.k=(aw L a.b).b then bO (bB (bA (aw L a.b)) a.c) a.n a.xs else aw L a.b
def bz (L:Lk):Cl:=⟨L.b,L.k,L.of,L.tk,L.bE.headD []⟩
end
end K37
namespace K37
open PySem L2 PyProof.Rows
section
variable {P:Program} {w:World} {K:PySem.W.Frag} {mg:Str→Option Value} {base:Heap} {t:Ad}
def gB (C:Addr):Sp:=fun vs H Q _=>∃ (x dx:Addr) (fs:List (Str × V)),vs=[.ref x]∧H x=some (.ins C dx fs)∧fs.length < 900∧∀ pB,H pB=none→Q .bq (upd (upd H pB (.lst [])) x (.ins C dx (dk "taken" (.int 0) (dk "offered" (.int 0) (dk "pieces" (.ref pB) fs)))))
theorem vt (f:Str) (v:V):∀ fs:List (Str × V),(dk f v fs).length≤fs.length+1
 | []=>Nat.le_refl _
 | (g,x) :: r=>by
  unfold dk
  split
  ·rw [List.length_cons,List.length_cons];omega
  ·rw [List.length_cons,List.length_cons];have:=vt f v r;omega
theorem sU:aS ["self"] ["self"] (aG cF):=⟨rfl,rfl,rfl,by decide +kernel,rfl,by decide +kernel,by decide +kernel⟩
theorem sV {fd:FuncData} (T:Txt K mg t) (F:jh K "forget_pieces" "LinkEnd.forget_pieces" cF t.cG fd) :
  bV P w K mg base (iL P w) 1 t.cG fd ["self"] (gB t.LinkEnd)∧Binds K fd ["self"] []:=by
 refine ⟨F.pN sU (fun vs H Q E h=>?_) (fun f be A outer s H vs Q E hr h=>?_),F.binds fun _ _ _ _ _ _ us hl=>match us,hl with | [_],_=>rfl⟩
 ·obtain ⟨x,dx,fs,rfl,_⟩:=h
  rfl
 ·obtain ⟨x,dx,fs,rfl,hx,hl,q⟩:=h
  refine ⟨_,aD (b6 K (pv 0) (bH aC) (by rfl))
   (aD (b6 K (pv 0) aF (by rfl))
   (aH (b6 K (pv 0) aF (by rfl)))),?_⟩
  refine ⟨by show 0≤sizeLine;decide,fun pB Nn=>?_⟩
  have n1:x≠pB:=aM hx Nn
  have l1:=vt "pieces" (.ref pB) fs
  have l2:=vt "offered" (.int 0) (dk "pieces" (.ref pB) fs)
  refine ⟨_,rfl,x,t.LinkEnd,dx,fs,rfl,by rw [aE n1];exact hx,T.aK,T.fz,by omega,?_⟩
  refine ⟨_,rfl,x,t.LinkEnd,dx,_,rfl,aB,T.aK,T.lM,by omega,?_⟩
  rw [iE]
  refine ⟨_,rfl,x,t.LinkEnd,dx,_,rfl,aB,T.aK,T.nB,by omega,?_⟩
  rw [iE]
  exact q pB Nn
def sW (C:Addr):Sp:=fun vs H Q _=>∃ (B:Hp) (x tA pA:Addr) (L:Lk),vs=[.ref x]∧bP C B H x tA pA L∧∀ B' H' pB,iQ B H B' H' x tA pA tA pB→bP C B' H' x tA pB (Pd L)→Q .bq H'
theorem Gj:aS ["self"] ["self"] (aG kN):=⟨rfl,rfl,rfl,by decide +kernel,rfl,by decide +kernel,by decide +kernel⟩
theorem Gk {fd BZ:FuncData} (T:Txt K mg t) (F:jh K "end_up" "LinkEnd.end_up" kN t.kQ fd) (cH:bV P w K mg base (iL P w) 1 t.cG BZ ["self"] (gB t.LinkEnd)) (cI:Binds K BZ ["self"] []) :
  bV P w K mg base (iL P w) 2 t.kQ fd ["self"] (sW t.LinkEnd)∧Binds K fd ["self"] []:=by
 refine ⟨F.pN Gj (fun vs H Q E h=>?_) (fun f be A outer s H vs Q E hr h=>?_),F.binds fun _ _ _ _ _ _ us hl=>match us,hl with | [_],_=>rfl⟩
 ·obtain ⟨B,x,tA,pA,L,rfl,_⟩:=h
  rfl
 ·obtain ⟨B,x,tA,pA,L,rfl,h,q⟩:=h
  refine ⟨_,aD (b6 K (pv 0) fg (by rfl))
   (aH (ay (dB (pv 0) T.aK T.kT (cH.mono (by decide)) hr cI .nil av))),?_⟩
  obtain ⟨dx,pv,hx,hp⟩:=h.at_
  refine ⟨_,rfl,x,t.LinkEnd,dx,_,rfl,hx,T.aK,T.fT,by show 11 < 1000;decide,?_⟩
  rw [FO]
  obtain ⟨h1,m1⟩:=h.set (dx:=dx) (pv:=.bq) (L':={ L with p:=none }) rfl rfl rfl
  refine ⟨_,rfl,x,dx,_,rfl,aB,rfl,x,dx,_,rfl,aB,by show 11 < 900;decide,fun pB Nn=>?_⟩
  rw [Gi,vq,BX]
  have h1:bP t.LinkEnd B (upd H x (.ins t.LinkEnd dx (cQ L.q L.s L.d L.u L.b L.k .bq tA pA L.of L.tk))) x tA pA { L with p:=none }:=h1
  have m1:iQ B H B (upd H x (.ins t.LinkEnd dx (cQ L.q L.s L.d L.u L.b L.k .bq tA pA L.of L.tk))) x tA pA tA pA:=m1
  generalize upd H x (.ins t.LinkEnd dx (cQ L.q L.s L.d L.u L.b L.k .bq tA pA L.of L.tk))=H1 at *
  have s2:aI H1 (upd H1 pB (.lst [])):=(aI.refl _).new Nn
  have h2:=h1.same s2
  have Sj:tA≠pB:=fun z=>h1.ht (z ▸ Nn)
  have L7:x≠pB:=fun z=>h1.hx (z ▸ Nn)
  obtain ⟨jK,g,g'⟩:=h2.told
  refine q B _ pB (m1.trans ⟨aI.refl _,fun _ _ z=>z,fun y o n1 n2 n3 e=>by rw [aE n1];exact s2 _ _ e,fun b hb=>s2.free (ic hb h2.hx),.inl rfl,.inr Nn⟩)
   ⟨h2.sb.put h2.bx,h.bx,h.bt,h1.sb.free Nn,⟨dx,.bq,aB,rfl⟩,⟨jK,by rw [aE (Ne.symm h2.xt)];exact g,g'⟩,⟨fun _=>0,by rw [aE (Ne.symm L7)];exact aB,fun y xs hy=>by cases hy⟩,Sj⟩
def FQ (C:Addr):Sp:=fun vs H Q _=>∃ (B:Hp) (x tA pA:Addr) (L:Lk) (n:Int),vs=[.ref x,.int n]∧bP C B H x tA pA L∧L.ev.length < 1000000∧∀ B' H' pB,iQ B H B' H' x tA pA tA pB→bP C B' H' x tA pB (aw L n)→Q .bq H'
theorem L8:aS ["self","birth"] ["self","birth"] (aG sO):=⟨rfl,rfl,rfl,by decide +kernel,rfl,by decide +kernel,by decide +kernel⟩
theorem L9 {fd BZ:FuncData} (T:Txt K mg t) (F:jh K "meet" "LinkEnd.meet" sO t.vX fd) (ka:bV P w K mg base (iL P w) 2 t.kQ BZ ["self"] (sW t.LinkEnd)) (kd:Binds K BZ ["self"] []) :
  bV P w K mg base (iL P w) 3 t.vX fd ["self","birth"] (FQ t.LinkEnd)∧Binds K fd ["self","birth"] []:=by
 refine ⟨F.pN L8 (fun vs H Q E h=>?_) (fun f be A outer s H vs Q E hr h=>?_),F.binds fun _ _ _ _ _ _ us hl=>match us,hl with | [_,_],_=>rfl⟩
 ·obtain ⟨B,x,tA,pA,L,n,rfl,_⟩:=h
  rfl
 ·obtain ⟨B,x,tA,pA,L,n,rfl,h,hlen,q⟩:=h
  refine ⟨_,aD (bu (PW.pt (uv (aj yy (ai K (pv 0) (by rfl)) fg (au _)) (qV (aj Ah (pv 1) (ai K (pv 0) (by rfl)) (au _)))))
    (aD (ay (jj K PySem.F.plainAttrs_list PySem.F.slot_list_append PySem.F.type_list_append cV (ai K (pv 0) (by rfl)) (aA (bX (aA cT (aA (ai K (pv 0) (by rfl)) aC))) aC)))
    (aH (ay (dB (pv 0) T.aK T.ye (ka.mono (by decide)) hr kd .nil av))))
    (bD))
   (aH (b6 K (pv 0) (pv 1) (by rfl))),?_⟩
  have ox:(1000001:Nat)≤sizeLine:=by decide
  obtain ⟨dx,pv,hx,hp⟩:=h.at_
  have last:∀ (B1 H1:Hp) (pB:Addr) (L1:Lk),iQ B H B1 H1 x tA pA tA pB→bP t.LinkEnd B1 H1 x tA pB L1→{ L1 with k:=n }=aw L n→(IG K (pF 0) (pF 1) "known") { nx:=fun _ H'=>Q .bq H',rt:=Q } [some (.ref x),some (.int n)] H1:=fun B1 H1 pB L1 m1 h1 e1=>by
   obtain ⟨vv,MA,xN,BN⟩:=h1.at_
   refine ⟨_,rfl,_,rfl,x,t.LinkEnd,vv,_,rfl,xN,T.aK,T.fS,by show 11 < 1000;decide,?_⟩
   rw [BW]
   obtain ⟨h2,m2⟩:=h1.set (dx:=vv) (pv:=MA) (L':={ L1 with k:=n }) BN rfl rfl
   exact q B1 _ pB (m1.trans m2) (by rw [← e1];exact h2)
  refine ⟨_,rfl,x,t.LinkEnd,dx,_,_,rfl,hx,T.aK,T.fT,nL,rfl,_,rfl,?_⟩
  cases ep:L.p with
  | none =>
   rw [ep] at hp
   have hp:pv=.bq:=hp
   subst hp
   refine vG rfl (gu ?_)
   exact last B H pA L iQ.refl h (by unfold aw;rw [ep])
  | some p =>
   rw [ep] at hp
   obtain ⟨pa,rfl,FL⟩:=hp
   refine yQ (fun z=>by cases z) ?_
   refine ⟨_,rfl,_,rfl,x,t.LinkEnd,dx,_,_,rfl,hx,T.aK,T.fS,oj,_,_,rfl,rfl,_,rfl,?_⟩
   by_cases hk:L.k < n
   ·refine fk hk ?_
    obtain ⟨jK,g,g'⟩:=h.told
    refine ⟨_,rfl,x,t.LinkEnd,dx,_,_,rfl,hx,T.aK,T.lL,vp,.inl ⟨rfl,_,aY.of g⟩,?_⟩
    refine ⟨_,rfl,x,t.LinkEnd,dx,_,_,rfl,hx,T.aK,T.fT,nL,by show 2≤sizeLine;decide,fun ea DD=>?_⟩
    refine ⟨tA,_,_,rfl,rfl,by rw [aE (aM g DD)];exact g,by rw [aL];omega,?_⟩
    obtain ⟨h1,m1⟩:=h.tell g g' DD (JS (w:="anew") (ns:=[]) (h.sb.free DD) FL)
    obtain ⟨vv,MA,xN,BN⟩:=h1.at_
    refine ⟨_,rfl,x,vv,_,rfl,xN,rfl,_,x,tA,pA,_,rfl,h1,fun B2 H2 pB m2 h2=>?_⟩
    exact last B2 H2 pB _ (m1.trans m2) h2 (by unfold aw Pd;rw [ep];simp only [if_pos hk])
   ·refine fj hk ?_
    exact last B H pA L iQ.refl h (by unfold aw;rw [ep];simp only [if_neg hk])
end
end K37
namespace My
def told (l:List Int):Int:=l.foldl (fun n s=>n * 97+s) 0
def low:Nat→Int→List Int
 | 0,_=>[]
 | m+1,n=>n % 97 :: low m (n / 97)
def rest:Nat→Int→Int
 | 0,n=>n
 | m+1,n=>rest m (n / 97)
theorem FR:∀ (m:Nat) (n:Int),(low m n).length=m
 | 0,_=>rfl
 | m+1,n=>by rw [low,List.length_cons,FR]
theorem Ba:∀ (m:Nat) (n:Int),low (m+1) n=low m n ++ [rest m n % 97]
 | 0,n=>rfl
 | m+1,n=>by rw [low,Ba m (n / 97),low,rest,List.cons_append]
theorem yk:∀ (m:Nat) (n:Int),rest (m+1) n=rest m n / 97
 | 0,n=>rfl
 | m+1,n=>by rw [rest,yk m (n / 97),rest]
theorem Gm (l:List Int) (s:Int):told (l ++ [s])=told l * 97+s:=by unfold told;rw [List.foldl_append];rfl
theorem uG:∀ (m:Nat) (n:Int),0≤n→0≤rest m n
 | 0,n,h=>by rw [rest];exact h
 | m+1,n,h=>by rw [rest];exact uG m _ (by omega)
end My
namespace K37
open PySem L2 PyProof.Rows
section
variable {P:Program} {w:World} {K:PySem.W.Frag} {mg:Str→Option Value} {base:Heap} {t:Ad}
def mV (C:Addr):Sp:=fun vs H Q E=>∃ n m:Int,vs=[.int n,.int m]∧n.natAbs < 2 ^ 1000∧0≤m∧m≤1000 ∧
 (0≤n→My.rest m.toNat n=0→∀ p H',H p=none→aI H H'→H' p=some (.lst ((My.low m.toNat n).reverse.map V.int))→Q (.ref p) H')∧(n < 0∨0 < My.rest m.toNat n→∀ H',aI H H'→E (.ref C) none H')
theorem dE:aS ["number","many","signs","left","place"] ["number","many"] (aG fL):=⟨rfl,rfl,rfl,by decide +kernel,rfl,by decide +kernel,by decide +kernel⟩
theorem uQ (F:aR K mg "number_signs" fL) (T:Txt K mg t):Def P w K mg base 1 "number_signs" ["number","many"] (mV t.BadSign):=by
 refine F.def dE (fun _ _ _ _ _ _ us hl=>match us,hl with | [_,_],_=>rfl) (fun vs H Q E h=>?_) (fun f be A outer s H vs Q E hr h=>?_)
 ·obtain ⟨n,m,rfl,_⟩:=h
  rfl
 ·obtain ⟨n,m,rfl,hb,m0,m1,q1,q2⟩:=h
  refine ⟨_,aD (aZ (i:=2) dE.nd rfl (Or.inl rfl) (bH aC))
   (aD (aZ (i:=3) dE.nd rfl (Or.inl rfl) (pv 0))
   (aD (PS.uX (cq PassesOwn.never rfl (cU (by rfl) T.dP (aA (pv 1) aC)) (az (i:=4) dE.nd rfl (Or.inl rfl))
    (aD (ay (NS PySem.F.plainAttrs_list PySem.F.slot_list_append PySem.F.type_list_append cV (pv 2) (aA (aP bG (pv 3) (aV T.cE)) aC)))
    (aH (aZ (i:=3) dE.nd rfl (Or.inl rfl) (aP jM (pv 3) (aV T.cE)))))))
   (aD (bu (PW.pt (Ab (aj ux (pv 0) aF (au _)) (yv (aj Ah (pv 3) aF (au _)))))
    (aH (eF bC rfl rfl T.vf T.vg PySem.F.excBase_ValueError (aA (jQ (bT (fH (pv 0)) (bT cT (bT (fH (pv 1)) (bT cT mr))))) aC)))
    (bD))
   (aH (ar (sE rfl T.pQ T.ve (pv 2))))))),?_⟩
  refine ⟨by show 0≤sizeLine;decide,fun ps Np=>?_⟩
  refine ⟨_,rfl,?_⟩
  have ox:(2000:Nat)≤sizeLine:=by decide
  refine ⟨_,rfl,m,rfl,by omega,by omega,e8 (lo:=0) (n:=m.toNat) (fun i σ H'=>∃ x:Option V,σ=[some (.int n),some (.int m),some (.ref ps),some (.int (My.rest i n)),x]∧aI H H'∧H' ps=some (.lst ((My.low i n).map V.int))) ⟨none,rfl,(aI.refl _).new Np,aB⟩ ?_ ?_⟩
  ·rintro i σ H' hi ⟨x,rfl,s1,h1⟩
   refine ⟨_,rfl,.inl ⟨rfl,_,aY.of h1⟩,_,rfl,_,_,rfl,rfl,(by show (0:Int) < 97;decide),ps,_,_,rfl,rfl,h1,by rw [List.length_map,My.FR];omega,?_⟩
   refine ⟨_,rfl,_,_,rfl,rfl,⟨by decide,by decide⟩,?_⟩
   refine ⟨_,by rw [My.yk];rfl,s1.put Np,?_⟩
   rw [aB,My.Ba,List.map_append]
   rfl
  ·rintro σ H' ⟨x,rfl,s1,h1⟩
   refine ⟨_,rfl,_,_,rfl,rfl,_,rfl,?_⟩
   have hz:=fU hb
   have hz2:=fU (i:=m) (dW (by omega) (by omega))
   have l1:(" is not told by ":Str).length=16:=by decide +kernel
   have l2:(" signs":Str).length=6:=by decide +kernel
   have sl:(3000:Nat)≤sizeLine:=by decide
   have e0:(Str.empty ++ Str.ofString (toString n)).length≤1001:=by rw [strLen_append];show 0+_≤1001;omega
   have e1:((Str.empty ++ Str.ofString (toString n)) ++ (" is not told by ":Str)).length≤1017:=by rw [strLen_append];omega
   have e2:(((Str.empty ++ Str.ofString (toString n)) ++ (" is not told by ":Str)) ++ Str.ofString (toString m)).length≤2018:=by rw [strLen_append];omega
   have e3:((((Str.empty ++ Str.ofString (toString n)) ++ (" is not told by ":Str)) ++ Str.ofString (toString m)) ++ (" signs":Str)).length≤2024:=by rw [strLen_append];omega
   have bad:n < 0∨0 < My.rest m.toNat n→E (.ref t.BadSign) none H':=fun z=>q2 z H' s1
   by_cases h0:n < 0
   ·refine fk h0 (gw ?_)
    refine ⟨_,rfl,n,rfl,dH hb (by decide) (by decide),_,rfl,by omega,_,rfl,by omega,_,rfl,m,rfl,dH (dW (by omega) (by omega)) (by decide) (by decide),_,rfl,by omega,_,rfl,by omega,by omega,?_⟩
    exact ⟨by show 1≤sizeLine;decide,bad (.inl h0)⟩
   ·refine fj h0 ?_
    refine ⟨_,rfl,_,_,rfl,rfl,_,rfl,?_⟩
    by_cases h2:0 < My.rest m.toNat n
    ·refine fk h2 ?_
     refine ⟨_,rfl,n,rfl,dH hb (by decide) (by decide),_,rfl,by omega,_,rfl,by omega,_,rfl,m,rfl,dH (dW (by omega) (by omega)) (by decide) (by decide),_,rfl,by omega,_,rfl,by omega,by omega,?_⟩
     exact ⟨by show 1≤sizeLine;decide,bad (.inr h2)⟩
    ·refine fj h2 ?_
     have r0:=My.uG m.toNat n (by omega)
     refine ⟨_,rfl,ps,_,rfl,aY.of h1,fun p hp=>?_⟩
     refine q1 (by omega) (by omega) p _ (s1.free hp) (s1.new hp) ?_
     rw [aB,← List.map_reverse]
def mW (K:PySem.W.Frag) (C:Addr):Sp:=fun vs H Q E=>∃ (l:Addr) (ns:List Int),vs=[.ref l]∧aY K H l (ns.map V.int)∧(∀ n ∈ ns,n.natAbs < 2 ^ 1000) ∧
 ((∀ n ∈ ns,0≤n∧n < 97)→Q (.int (My.told ns)) H)∧(∀ n ∈ ns,¬ (0≤n∧n < 97)→E (.ref C) none H)
theorem eN:aS ["signs","number","sign"] ["signs"] (aG fM):=⟨rfl,rfl,rfl,by decide +kernel,rfl,by decide +kernel,by decide +kernel⟩
theorem uR (F:aR K mg "signs_number" fM) (T:Txt K mg t) (dR:Def P w K mg base 2 "look_sign" ["number"] (iK t.BadSign)):Def P w K mg base 3 "signs_number" ["signs"] (mW K t.BadSign):=by
 refine F.def eN (fun _ _ _ _ _ _ us hl=>match us,hl with | [_],_=>rfl) (fun vs H Q E h=>?_) (fun f be A outer s H vs Q E hr h=>?_)
 ·obtain ⟨l,ns,rfl,_⟩:=h
  rfl
 ·obtain ⟨l,ns,rfl,hl,hb,q1,q2⟩:=h
  refine ⟨_,aD (aZ (i:=1) eN.nd rfl (Or.inl rfl) aF)
   (aD (cq (Ou bC) rfl (ES (pv 0)) (az (i:=2) eN.nd rfl (Or.inl rfl))
    (aD (ay (aa (dR.mono (by decide)) hr (kH bC) (aA (pv 2) aC)))
    (aH (aZ (i:=1) eN.nd rfl (Or.inl rfl) (aP bM (aP b9 (pv 1) (aV T.cE)) (pv 2))))))
   (aH (ar (pv 1)))),?_⟩
  refine ⟨_,rfl,l,rfl,⟨_,hl⟩,iT (K:=K) (a:=l) (xs:=ns.map V.int) (fun i σ H'=>∃ x:Option V,σ=[some (.ref l),some (.int (My.told (ns.take i))),x]∧H'=H∧∀ n ∈ ns.take i,0≤n∧n < 97) ⟨none,rfl,rfl,fun n hn=>by simp at hn⟩ (fun i σ H' _ ⟨_,_,e,_⟩=>by rw [e];exact hl) ?_ ?_⟩
  ·rintro i y σ H' hi ⟨x,rfl,rfl,ha⟩
   obtain ⟨z,hz,rfl⟩:=oU hi
   have hm:z ∈ ns:=List.mem_of_getElem? hz
   refine ⟨_,rfl,z,rfl,hb z hm,fun h0=>?_,fun h0=>q2 z hm h0⟩
   refine ⟨_,rfl,_,_,rfl,rfl,.inr ⟨by decide,by decide⟩,_,rfl,_,_,rfl,rfl,?_⟩
   refine ⟨some (.int z),?_,rfl,?_⟩
   ·rw [take_succ hz,My.Gm]
    rfl
   ·rw [take_succ hz]
    intro n hn
    rcases List.mem_append.mp hn with z1 | z1
    ·exact ha n z1
    ·rw [List.mem_singleton.mp z1];exact h0
  ·rintro σ H' ⟨x,rfl,rfl,ha⟩
   refine ⟨_,rfl,?_⟩
   rw [List.length_map,List.take_length] at *
   exact q1 ha
end
end K37
namespace K37
open PySem L2 PyProof.Rows
section
variable {P:Program} {w:World} {K:PySem.W.Frag} {mg:Str→Option Value} {base:Heap} {t:Ad}
def vw (C:Addr):Sp:=fun vs H Q _=>∃ (B:Hp) (x tA pA:Addr) (L:Lk),vs=[.ref x]∧bP C B H x tA pA L∧L.ev.length < 1000000∧∀ B' H',iQ B H B' H' x tA pA tA pA→bP C B' H' x tA pA (bA L)→Q .bq H'
theorem DE:aS ["self"] ["self"] (aG iO):=⟨rfl,rfl,rfl,by decide +kernel,rfl,by decide +kernel,by decide +kernel⟩
theorem DF {fd:FuncData} (T:Txt K mg t) (F:jh K "come_up" "LinkEnd.come_up" iO t.kP fd) :
  bV P w K mg base (iL P w) 1 t.kP fd ["self"] (vw t.LinkEnd)∧Binds K fd ["self"] []:=by
 refine ⟨F.pN DE (fun vs H Q E h=>?_) (fun f be A outer s H vs Q E hr h=>?_),F.binds fun _ _ _ _ _ _ us hl=>match us,hl with | [_],_=>rfl⟩
 ·obtain ⟨B,x,tA,pA,L,rfl,_⟩:=h
  rfl
 ·obtain ⟨B,x,tA,pA,L,rfl,h,hlen,q⟩:=h
  refine ⟨_,aH (bu (aj yx (ai K (pv 0) (by rfl)) fg (au _))
    (aD (b6 K (pv 0) (ml (aj jN (ai K (pv 0) (by rfl)) aF (au _)) (bX (aA (ai K (pv 0) (by rfl)) (aA (ai K (pv 0) (by rfl)) aC))) (bX (aA (ai K (pv 0) (by rfl)) (aA (ai K (pv 0) (by rfl)) aC)))) (by rfl))
    (aH (ay (jj K PySem.F.plainAttrs_list PySem.F.slot_list_append PySem.F.type_list_append cV (ai K (pv 0) (by rfl)) (aA (bX (aA cT (aA (ai K (pv 0) (by rfl)) aC))) aC)))))
    (bD)),?_⟩
  have ox:(1000001:Nat)≤sizeLine:=by decide
  obtain ⟨dx,pv,hx,hp⟩:=h.at_
  refine ⟨_,rfl,x,t.LinkEnd,dx,_,_,rfl,hx,T.aK,T.fT,nL,rfl,_,rfl,?_⟩
  cases ep:L.p with
  | some p =>
   rw [ep] at hp
   obtain ⟨pa,rfl,FL⟩:=hp
   refine fj (fun z=>by cases z) ?_
   exact q B H iQ.refl (by unfold bA;rw [ep];exact h)
  | none =>
   rw [ep] at hp
   have hp:pv=.bq:=hp
   subst hp
   refine fk rfl ?_
   have main:∀ (pa:Addr) (p:Int × Int),H pa=none→p=(if L.s=0 then (L.b,L.k) else (L.k,L.b))→(∃ a C dx fs,V.ref x=.ref a∧(upd H pa (.tup [.int p.1,.int p.2])) a=some (.ins C dx fs)∧F5 K C∧cu K C "pair"∧fs.length < 1000∧(Ht (VY K "list" Eo (CT K (pF 0) "told") (jO (F6 (jO (tC (.str "up")) (jO (CT K (pF 0) "pair") vD))) vD))) { nx:=fun _ H'=>Q .bq H',rt:=Q } [some (.ref x)] (upd (upd H pa (.tup [.int p.1,.int p.2])) a (.ins C dx (dk "pair" (.ref pa) fs)))):=fun pa p FL ep2=>by
    have s1:aI H (upd H pa (.tup [.int p.1,.int p.2])):=(aI.refl _).new FL
    obtain ⟨h1,m1⟩:=h.grow (o:=.tup [.int p.1,.int p.2]) s1 FL aB
    refine ⟨x,t.LinkEnd,dx,_,rfl,s1 _ _ hx,T.aK,T.fT,by show 11 < 1000;decide,?_⟩
    rw [FO]
    obtain ⟨h2,m2⟩:=h1.set (dx:=dx) (pv:=.ref pa) (L':={ L with p:=some p }) ⟨pa,rfl,aB⟩ rfl rfl
    have WR:(upd B pa (.tup [.int p.1,.int p.2])) pa=some (.tup [.int p.1,.int p.2]):=aB
    have O3:(upd (upd H pa (.tup [.int p.1,.int p.2])) x (.ins t.LinkEnd dx (cQ L.q L.s L.d L.u L.b L.k (.ref pa) tA pA L.of L.tk))) x=some (.ins t.LinkEnd dx (cQ L.q L.s L.d L.u L.b L.k (.ref pa) tA pA L.of L.tk)):=aB
    have h2:bP t.LinkEnd (upd B pa (.tup [.int p.1,.int p.2])) (upd (upd H pa (.tup [.int p.1,.int p.2])) x (.ins t.LinkEnd dx (cQ L.q L.s L.d L.u L.b L.k (.ref pa) tA pA L.of L.tk))) x tA pA { L with p:=some p }:=h2
    have Sk:iQ B H (upd B pa (.tup [.int p.1,.int p.2])) (upd (upd H pa (.tup [.int p.1,.int p.2])) x (.ins t.LinkEnd dx (cQ L.q L.s L.d L.u L.b L.k (.ref pa) tA pA L.of L.tk))) x tA pA tA pA:=m1.trans m2
    generalize upd (upd H pa (.tup [.int p.1,.int p.2])) x (.ins t.LinkEnd dx (cQ L.q L.s L.d L.u L.b L.k (.ref pa) tA pA L.of L.tk))=H2 at *
    generalize upd B pa (.tup [.int p.1,.int p.2])=B2 at *
    obtain ⟨jK,g,g'⟩:=h2.told
    refine ⟨_,rfl,x,t.LinkEnd,dx,_,_,rfl,O3,T.aK,T.lL,vp,.inl ⟨rfl,_,aY.of g⟩,?_⟩
    refine ⟨_,rfl,x,t.LinkEnd,dx,_,_,rfl,O3,T.aK,T.fT,nL,by show 2≤sizeLine;decide,fun ea DD=>?_⟩
    refine ⟨tA,_,_,rfl,rfl,by rw [aE (aM g DD)];exact g,by rw [aL];show L.ev.length < sizeLine;omega,?_⟩
    obtain ⟨h3,m3⟩:=h2.tell g g' DD (JS (w:="up") (ns:=[]) (h2.sb.free DD) WR)
    refine q _ _ (Sk.trans m3) ?_
    have e3:bA L={ L with p:=some p,ev:=L.ev ++ [.mk "up" p []] }:=by unfold bA;rw [ep,ep2]
    rw [e3]
    exact h3
   refine ⟨_,rfl,x,t.LinkEnd,dx,_,_,rfl,hx,T.aK,T.FJ,Pc,rfl,_,rfl,?_⟩
   by_cases hs:L.s=0
   ·refine fk (by rw [hs]) ?_
    refine ⟨_,rfl,x,t.LinkEnd,dx,_,_,rfl,hx,T.aK,T.kS,qz,_,rfl,x,t.LinkEnd,dx,_,_,rfl,hx,T.aK,T.fS,oj,by show 2≤sizeLine;decide,fun pa FL=>?_⟩
    exact ⟨_,rfl,main pa (L.b,L.k) FL (by rw [if_pos hs])⟩
   ·refine fj (fun z=>hs (V.int.inj z)) ?_
    refine ⟨_,rfl,x,t.LinkEnd,dx,_,_,rfl,hx,T.aK,T.fS,oj,_,rfl,x,t.LinkEnd,dx,_,_,rfl,hx,T.aK,T.kS,qz,by show 2≤sizeLine;decide,fun pa FL=>?_⟩
    exact ⟨_,rfl,main pa (L.k,L.b) FL (by rw [if_neg hs])⟩
def jm (C:Addr):Sp:=fun vs H Q _=>∃ (B:Hp) (x tA pA:Addr) (L:Lk),vs=[.ref x]∧bP C B H x tA pA L∧L.ev.length < 1000000∧∀ B' H' pB,iQ B H B' H' x tA pA tA pB→bP C B' H' x tA pB (eI L)→Q .bq H'
theorem xQ:aS ["self"] ["self"] (aG dZ):=⟨rfl,rfl,rfl,by decide +kernel,rfl,by decide +kernel,by decide +kernel⟩
theorem xR {fd BZ:FuncData} (T:Txt K mg t) (F:jh K "start_over" "LinkEnd.start_over" dZ t.fP fd) (ka:bV P w K mg base (iL P w) 2 t.kQ BZ ["self"] (sW t.LinkEnd)) (kd:Binds K BZ ["self"] []) :
  bV P w K mg base (iL P w) 3 t.fP fd ["self"] (jm t.LinkEnd)∧Binds K fd ["self"] []:=by
 refine ⟨F.pN xQ (fun vs H Q E h=>?_) (fun f be A outer s H vs Q E hr h=>?_),F.binds fun _ _ _ _ _ _ us hl=>match us,hl with | [_],_=>rfl⟩
 ·obtain ⟨B,x,tA,pA,L,rfl,_⟩:=h
  rfl
 ·obtain ⟨B,x,tA,pA,L,rfl,h,hlen,q⟩:=h
  refine ⟨_,aD (bu (aj yy (ai K (pv 0) (by rfl)) fg (au _))
    (aD (ay (jj K PySem.F.plainAttrs_list PySem.F.slot_list_append PySem.F.type_list_append cV (ai K (pv 0) (by rfl)) (aA (bX (aA cT (aA (ai K (pv 0) (by rfl)) (aA (aP bM (aP jg (ai K (pv 0) (by rfl)) (ai K (pv 0) (by rfl))) aF) (aA (ai K (pv 0) (by rfl)) aC))))) aC)))
    (aH (ay (dB (pv 0) T.aK T.ye (ka.mono (by decide)) hr kd .nil av))))
    (bD))
   (aD (yG (pv 0) aF Hx)
   (aH (b6 K (pv 0) (aV T.og) (by rfl)))),?_⟩
  have ox:(1000001:Nat)≤sizeLine:=by decide
  obtain ⟨dx,pv,hx,hp⟩:=h.at_
  obtain ⟨tk,hNB⟩:=T.og
  have last:∀ (B1 H1:Hp) (pB:Addr) (L1:Lk),iQ B H B1 H1 x tA pA tA pB→bP t.LinkEnd B1 H1 x tA pB L1→{ L1 with b:=L1.b+1,k:=0 }=eI L→(CL (y4 K (pF 0) (tC (.int 1)) (Kd fun i j=>.int (i+j)) "birth") (IG K (pF 0) (tC (.int 0)) "known")) { nx:=fun _ H'=>Q .bq H',rt:=Q } [some (.ref x)] H1:=fun B1 H1 pB L1 m1 h1 e1=>by
   obtain ⟨vv,MA,xN,BN⟩:=h1.at_
   refine ⟨_,rfl,x,t.LinkEnd,vv,_,_,rfl,xN,T.aK,T.kS,qz,_,_,rfl,rfl,vv,_,xN,by show 11 < 1000;decide,?_⟩
   rw [JR]
   refine ⟨_,rfl,x,t.LinkEnd,vv,_,rfl,aB,T.aK,T.fS,by show 11 < 1000;decide,?_⟩
   rw [BW,iE]
   obtain ⟨h2,m2⟩:=h1.set (dx:=vv) (pv:=MA) (L':={ L1 with b:=L1.b+1,k:=0 }) BN rfl rfl
   exact q B1 _ pB (m1.trans m2) (by rw [← e1];exact h2)
  refine ⟨_,rfl,x,t.LinkEnd,dx,_,_,rfl,hx,T.aK,T.fT,nL,rfl,_,rfl,?_⟩
  cases ep:L.p with
  | none =>
   rw [ep] at hp
   have hp:pv=.bq:=hp
   subst hp
   refine vG rfl ?_
   exact last B H pA L iQ.refl h (by unfold eI;rw [ep])
  | some p =>
   rw [ep] at hp
   obtain ⟨pa,rfl,FL⟩:=hp
   refine yQ (fun z=>by cases z) ?_
   obtain ⟨jK,g,g'⟩:=h.told
   refine ⟨_,rfl,x,t.LinkEnd,dx,_,_,rfl,hx,T.aK,T.lL,vp,.inl ⟨rfl,_,aY.of g⟩,?_⟩
   refine ⟨_,rfl,x,t.LinkEnd,dx,_,_,rfl,hx,T.aK,T.fT,nL,?_⟩
   refine ⟨_,rfl,x,t.LinkEnd,dx,_,_,rfl,hx,T.aK,T.ug,DB,_,rfl,x,t.LinkEnd,dx,_,_,rfl,hx,T.aK,T.vh,FN,_,_,rfl,rfl,_,_,rfl,rfl,?_⟩
   refine ⟨_,rfl,x,t.LinkEnd,dx,_,_,rfl,hx,T.aK,T.ug,DB,by show 4≤sizeLine;decide,fun ea DD=>?_⟩
   refine ⟨tA,_,_,rfl,rfl,by rw [aE (aM g DD)];exact g,by rw [aL];omega,?_⟩
   obtain ⟨h1,m1⟩:=h.tell g g' DD (JS (w:="silent") (ns:=[L.d - L.q+1,L.d]) (h.sb.free DD) FL)
   obtain ⟨vv,MA,xN,BN⟩:=h1.at_
   refine ⟨_,rfl,x,vv,_,rfl,xN,rfl,_,x,tA,pA,_,rfl,h1,fun B2 H2 pB m2 h2=>?_⟩
   exact last B2 H2 pB _ (m1.trans m2) h2 (by unfold eI Pd;rw [ep])
end
end K37
namespace K37
open PySem L2 PyProof.Rows
section
variable {P:Program} {w:World} {K:PySem.W.Frag} {mg:Str→Option Value} {base:Heap} {t:Ad}
def o5 (C:Addr):Sp:=fun vs H Q _=>∃ (B:Hp) (x tA pA:Addr) (L:Lk) (n:Int),vs=[.ref x,.int n]∧bP C B H x tA pA L∧∀ H',iQ B H B H' x tA pA tA pA→bP C B H' x tA pA (bB L n)→Q .bq H'
theorem Gn {n:Nat} {f:Nat→Addr}:(bW (n+1) f).eraseIdx 0=bW n (fun j=>f (j+1)):=by
 apply List.ext_getElem?
 intro j
 rw [List.getElem?_eraseIdx]
 by_cases hj:j < n
 ·rw [if_neg (by omega),ba (f:=fun j=>V.ref (f j)) (show j+1 < n+1 by omega),ba (f:=fun j=>V.ref (f (j+1))) hj]
 ·rw [if_neg (by omega),List.getElem?_eq_none (by rw [aL];omega),List.getElem?_eq_none (by rw [aL];omega)]
theorem o6:aS ["self","count","following"] ["self","count"] (aG da):=⟨rfl,rfl,rfl,by decide +kernel,rfl,by decide +kernel,by decide +kernel⟩
theorem xS {fd:FuncData} (T:Txt K mg t) (F:jh K "hear_count" "LinkEnd.hear_count" da t.fQ fd) :
  bV P w K mg base (iL P w) 1 t.fQ fd ["self","count"] (o5 t.LinkEnd)∧Binds K fd ["self","count"] []:=by
 refine ⟨F.pN o6 (fun vs H Q E h=>?_) (fun f be A outer s H vs Q E hr h=>?_),F.binds fun _ _ _ _ _ _ us hl=>match us,hl with | [_,_],_=>rfl⟩
 ·obtain ⟨B,x,tA,pA,L,n,rfl,_⟩:=h
  rfl
 ·obtain ⟨B,x,tA,pA,L,n,rfl,h,q⟩:=h
  refine ⟨_,aD (aZ (i:=2) o6.nd rfl (Or.inl rfl) (aP bG (aP bM (ai K (pv 0) (by rfl)) aF) (aV T.cE)))
   (aH (bu (PW.pt (uv (qZ (ai K (pv 0) (by rfl)) (fun _=>rfl)) (qV (aj jN (pv 1) (pv 2) (au _)))))
    (aD (ay (jj K PySem.F.plainAttrs_list PySem.F.slot_list_pop PySem.F.type_list_pop IM (ai K (pv 0) (by rfl)) (aA aF aC)))
    (aH (b6 K (pv 0) (pv 2) (by rfl))))
    (bD))),?_⟩
  obtain ⟨dx,pv,hx,hp⟩:=h.at_
  obtain ⟨df,g3,rX⟩:=h.bE
  refine ⟨_,rfl,x,t.LinkEnd,dx,_,_,rfl,hx,T.aK,T.lM,yj,_,_,rfl,rfl,_,_,rfl,rfl,(by show (0:Int) < 97;decide),?_⟩
  refine ⟨_,rfl,x,t.LinkEnd,dx,_,_,rfl,hx,T.aK,T.fz,kZ,_,.inl ⟨_,aY.of g3,rfl⟩,?_⟩
  cases ep:L.bE with
  | nil =>
   rw [ep] at g3
   refine gu (gu (q H iQ.refl ?_))
   unfold bB
   rw [if_neg (fun z=>z.1 ep)];exact h
  | cons a r =>
   rw [ep] at g3 rX
   have AS:(!(bW (a :: r).length df).isEmpty)=true:=by
    have hl:(bW (a :: r).length df).length=r.length+1:=aL _ _
    cases e:bW (a :: r).length df with
    | nil=>rw [e] at hl;cases hl
    | cons u v=>rfl
   rw [AS]
   refine gw ?_
   refine ⟨_,rfl,_,rfl,rfl,_,rfl,?_⟩
   by_cases hc:n=(L.of+1) % 97
   ·refine fk (by show V.int n=V.int ((L.of+1) % 97);rw [hc]) ?_
    refine ⟨_,rfl,x,t.LinkEnd,dx,_,_,rfl,hx,T.aK,T.fz,kZ,.inl ⟨rfl,_,aY.of g3⟩,pA,_,0,0,_,rfl,rfl,g3,by decide,by decide,by rw [aL,List.length_cons];unfold seqIndex?;simp,ba (f:=fun j=>V.ref (df j)) (Nat.succ_pos _),?_⟩
    have e0:(bW (a :: r).length df).eraseIdx 0=bW r.length (fun j=>df (j+1)):=Gn
    rw [e0]
    have L7:=h.xp
    refine ⟨_,rfl,_,rfl,x,t.LinkEnd,dx,_,rfl,by rw [aE L7];exact hx,T.aK,T.lM,by show 11 < 1000;decide,?_⟩
    rw [vq]
    have e1:bB L n={ L with bE:=r,of:=(L.of+1) % 97 }:=by
     unfold bB
     rw [if_pos ⟨(by rw [ep];exact fun z=>by cases z),hc⟩,ep]
     rfl
    obtain ⟨jK,g2,xP⟩:=h.told
    refine q _ ⟨aI.refl _,fun _ _ z=>z,fun y o n1 n2 n3 e=>by rw [aE n1,aE n3];exact e,fun b hb=>ic (ic hb (by rw [aE L7];exact h.hx)) h.hp,.inl rfl,.inl rfl⟩ ?_
    rw [e1]
    exact ⟨(h.sb.put h.bp).put h.bx,h.bx,h.bt,h.bp,⟨dx,pv,aB,hp⟩,⟨jK,by rw [aE (Ne.symm h.xt),aE h.ne];exact g2,xP⟩,⟨fun j=>df (j+1),by rw [aE (Ne.symm L7)];exact aB,fun y xs hy=>rX (y+1) xs hy⟩,h.ne⟩
   ·refine fj (fun z=>hc (V.int.inj z)) (q H iQ.refl ?_)
    unfold bB
    rw [if_neg (fun z=>hc z.2)];exact h
def o7 (C:Addr):Sp:=fun vs H Q _=>∃ (B:Hp) (x tA pA l:Addr) (L:Lk) (n:Int) (xs:List Int),vs=[.ref x,.int n,.ref l]∧bP C B H x tA pA L∧L.ev.length < 1000000∧B l=some (.lst (xs.map V.int))∧∀ B' H',iQ B H B' H' x tA pA tA pA→bP C B' H' x tA pA (bO L n xs)→Q .bq H'
theorem xT:aS ["self","number","piece"] ["self","number","piece"] (aG dc):=⟨rfl,rfl,rfl,by decide +kernel,rfl,by decide +kernel,by decide +kernel⟩
theorem xU {fd:FuncData} (T:Txt K mg t) (F:jh K "take_piece" "LinkEnd.take_piece" dc t.fR fd) :
  bV P w K mg base (iL P w) 1 t.fR fd ["self","number","piece"] (o7 t.LinkEnd)∧Binds K fd ["self","number","piece"] []:=by
 refine ⟨F.pN xT (fun vs H Q E h=>?_) (fun f be A outer s H vs Q E hr h=>?_),F.binds fun _ _ _ _ _ _ us hl=>match us,hl with | [_,_,_],_=>rfl⟩
 ·obtain ⟨B,x,tA,pA,l,L,n,xs,rfl,_⟩:=h
  rfl
 ·obtain ⟨B,x,tA,pA,l,L,n,xs,rfl,h,hlen,hl,q⟩:=h
  refine ⟨_,aH (bu (PW.pt (uv (qZ (pv 2) (fun _=>rfl)) (qV (aj jN (pv 1) (ai K (pv 0) (by rfl)) (au _)))))
    (aD (ay (jj K PySem.F.plainAttrs_list PySem.F.slot_list_append PySem.F.type_list_append cV (ai K (pv 0) (by rfl)) (aA (bX (aA cT (aA (pv 2) aC))) aC)))
    (aH (b6 K (pv 0) (aP bG (aP bM (ai K (pv 0) (by rfl)) aF) (aV T.cE)) (by rfl))))
    (bD)),?_⟩
  have ox:(1000001:Nat)≤sizeLine:=by decide
  obtain ⟨dx,pv,hx,hp⟩:=h.at_
  obtain ⟨jK,g,g'⟩:=h.told
  refine ⟨_,rfl,_,.inl ⟨_,aY.of (h.sb _ _ hl),rfl⟩,?_⟩
  cases xs with
  | nil =>
   refine gu (gu (q B H iQ.refl ?_))
   unfold bO
   rw [if_neg (fun z=>z.1 rfl)];exact h
  | cons a r =>
   have AS:(!((a :: r).map V.int).isEmpty)=true:=rfl
   rw [AS]
   refine gw ?_
   refine ⟨_,rfl,_,rfl,x,t.LinkEnd,dx,_,_,rfl,hx,T.aK,T.nB,zm,rfl,_,rfl,?_⟩
   by_cases hc:n=L.tk
   ·refine fk (by rw [hc]) ?_
    refine ⟨_,rfl,x,t.LinkEnd,dx,_,_,rfl,hx,T.aK,T.lL,vp,.inl ⟨rfl,_,aY.of g⟩,?_⟩
    refine ⟨_,rfl,by show 2≤sizeLine;decide,fun ea DD=>?_⟩
    refine ⟨tA,_,_,rfl,rfl,by rw [aE (aM g DD)];exact g,by rw [aL];omega,?_⟩
    obtain ⟨h1,m1⟩:=h.tell g g' DD (L6 (h.sb.free DD) hl)
    obtain ⟨vv,MA,xN,BN⟩:=h1.at_
    refine ⟨_,rfl,x,t.LinkEnd,vv,_,_,rfl,xN,T.aK,T.nB,zm,_,_,rfl,rfl,_,_,rfl,rfl,(by show (0:Int) < 97;decide),?_⟩
    refine ⟨_,rfl,x,t.LinkEnd,vv,_,rfl,xN,T.aK,T.nB,by show 11 < 1000;decide,?_⟩
    rw [BX]
    obtain ⟨h2,m2⟩:=h1.set (dx:=vv) (pv:=MA) (L':={ L with ev:=L.ev ++ [.took (a :: r)],tk:=(L.tk+1) % 97 }) BN rfl rfl
    refine q _ _ (m1.trans m2) ?_
    unfold bO
    rw [if_pos ⟨(fun z=>by cases z),hc⟩]
    exact h2
   ·refine fj (fun z=>hc (V.int.inj z)) (q B H iQ.refl ?_)
    unfold bO
    rw [if_neg (fun z=>hc z.2)];exact h
def Nq (C:Addr):Sp:=fun vs H Q _=>∃ (B:Hp) (x tA pA:Addr) (L:Lk),vs=[.ref x]∧bP C B H x tA pA L∧∀ pv,rA B pv L.p→Q pv H
theorem Sm:aS ["self"] ["self"] (aG GZ):=⟨rfl,rfl,rfl,by decide +kernel,rfl,by decide +kernel,by decide +kernel⟩
theorem Sn {fd:FuncData} (T:Txt K mg t) (F:jh K "up" "LinkEnd.up" GZ t.JI fd) :
  bV P w K mg base (iL P w) 1 t.JI fd ["self"] (Nq t.LinkEnd)∧Binds K fd ["self"] []:=by
 refine ⟨F.pN Sm (fun vs H Q E h=>?_) (fun f be A outer s H vs Q E hr h=>?_),F.binds fun _ _ _ _ _ _ us hl=>match us,hl with | [_],_=>rfl⟩
 ·obtain ⟨B,x,tA,pA,L,rfl,_⟩:=h
  rfl
 ·obtain ⟨B,x,tA,pA,L,rfl,h,q⟩:=h
  refine ⟨_,aH (ar (ai K (pv 0) (by rfl))),?_⟩
  obtain ⟨dx,pv,hx,hp⟩:=h.at_
  exact ⟨_,rfl,x,t.LinkEnd,dx,_,_,rfl,hx,T.aK,T.fT,nL,q pv hp⟩
def Bb (C:Addr):Sp:=fun vs H Q _=>∃ (B:Hp) (x tA pA:Addr) (L:Lk),vs=[.ref x]∧bP C B H x tA pA L∧Q (.int (L.bE.length:Nat)) H
theorem JT:aS ["self"] ["self"] (aG oa):=⟨rfl,rfl,rfl,by decide +kernel,rfl,by decide +kernel,by decide +kernel⟩
theorem JU {fd:FuncData} (T:Txt K mg t) (F:jh K "waits" "LinkEnd.waits" oa t.qp fd) :
  bV P w K mg base (iL P w) 1 t.qp fd ["self"] (Bb t.LinkEnd)∧Binds K fd ["self"] []:=by
 refine ⟨F.pN JT (fun vs H Q E h=>?_) (fun f be A outer s H vs Q E hr h=>?_),F.binds fun _ _ _ _ _ _ us hl=>match us,hl with | [_],_=>rfl⟩
 ·obtain ⟨B,x,tA,pA,L,rfl,_⟩:=h
  rfl
 ·obtain ⟨B,x,tA,pA,L,rfl,h,q⟩:=h
  refine ⟨_,aH (ar (bR (bY K) (by rfl) T.iZ boot_len (aA (ai K (pv 0) (by rfl)) aC))),?_⟩
  obtain ⟨dx,pv,hx,hp⟩:=h.at_
  obtain ⟨df,g3,rX⟩:=h.bE
  refine ⟨_,rfl,x,t.LinkEnd,dx,_,_,rfl,hx,T.aK,T.fz,kZ,pA,_,rfl,.inl (aY.of g3),?_⟩
  rw [aL]
  exact q
def sX (C:Addr):Sp:=fun vs H Q _=>∃ (B:Hp) (x tA pA:Addr) (L:Lk),vs=[.ref x]∧bP C B H x tA pA L∧∀ H' tB,iQ B H B H' x tA pA tB pA→tB≠tA→bP C B H' x tB pA { L with ev:=[] }→FP B H' tA L.ev→Q (.ref tA) H'
theorem yl:aS ["self","told"] ["self"] (aG kO):=⟨rfl,rfl,rfl,by decide +kernel,rfl,by decide +kernel,by decide +kernel⟩
theorem Gp {fd:FuncData} (T:Txt K mg t) (F:jh K "events" "LinkEnd.events" kO t.kR fd) :
  bV P w K mg base (iL P w) 1 t.kR fd ["self"] (sX t.LinkEnd)∧Binds K fd ["self"] []:=by
 refine ⟨F.pN yl (fun vs H Q E h=>?_) (fun f be A outer s H vs Q E hr h=>?_),F.binds fun _ _ _ _ _ _ us hl=>match us,hl with | [_],_=>rfl⟩
 ·obtain ⟨B,x,tA,pA,L,rfl,_⟩:=h
  rfl
 ·obtain ⟨B,x,tA,pA,L,rfl,h,q⟩:=h
  refine ⟨_,aD (aZ (i:=1) yl.nd rfl (Or.inl rfl) (ai K (pv 0) (by rfl)))
   (aD (b6 K (pv 0) (bH aC) (by rfl))
   (aH (ar (pv 1)))),?_⟩
  obtain ⟨dx,pv,hx,hp⟩:=h.at_
  obtain ⟨df,g3,rX⟩:=h.bE
  obtain ⟨jK,g2,xP⟩:=h.told
  refine ⟨_,rfl,x,t.LinkEnd,dx,_,_,rfl,hx,T.aK,T.lL,vp,?_⟩
  refine ⟨by show 0≤sizeLine;decide,fun tB Qm=>?_⟩
  have s1:aI H (upd H tB (.lst [])):=(aI.refl _).new Qm
  have h1:=h.same s1
  have Pe:x≠tB:=fun z=>h.hx (by rw [z];exact Qm)
  have npt:pA≠tB:=fun z=>h.hp (by rw [z];exact Qm)
  have Um:tA≠tB:=fun z=>h.ht (by rw [z];exact Qm)
  refine ⟨_,rfl,x,t.LinkEnd,dx,_,rfl,s1 _ _ hx,T.aK,T.lL,by show 11 < 1000;decide,?_⟩
  rw [L3]
  exact ⟨_,rfl,q _ tB ⟨aI.refl _,fun _ _ z=>z,fun y o n1 n2 n3 e=>by rw [aE n1];exact s1 _ _ e,fun b hb=>s1.free (ic hb h1.hx),.inr Qm,.inl rfl⟩ (Ne.symm Um) ⟨h1.sb.put h.bx,h.bx,h.sb.free Qm,h.bp,⟨dx,pv,aB,hp⟩,⟨fun _=>0,by rw [aE (Ne.symm Pe)];exact aB,fun y e he=>by cases he⟩,⟨df,by rw [aE (Ne.symm h.xp)];exact s1 _ _ g3,rX⟩,Ne.symm npt⟩ ⟨jK,by rw [aE (Ne.symm h.xt)];exact s1 _ _ g2,xP⟩⟩
end
end K37
namespace K37
open PySem L2 PyProof.Rows
section
variable {P:Program} {w:World} {K:PySem.W.Frag} {mg:Str→Option Value} {base:Heap} {t:Ad}
def AU (b:Int):Prop:=0≤b∧b < 9409
def Hi (n:Int):Prop:=0≤n∧n < 97
structure ie (a:Cl):Prop where
 b:AU a.b
 k:AU a.k
 n:Hi a.n
 c:Hi a.c
 l:a.xs.length≤10
 x:∀ v ∈ a.xs,Hi v
def xV (a:Cl):List Int:=[a.b / 97,a.b % 97,a.k / 97,a.k % 97,a.n,a.c,(a.xs.length:Int)] ++ a.xs
def uH (a:Cl) (i:Nat):Int:=(xV a).getD i 0
theorem MB {a:Cl} (h:ie a):∀ v ∈ xV a,Hi v:=by
 intro v hv
 obtain ⟨b0,b1⟩:=h.b
 obtain ⟨k0,k1⟩:=h.k
 have hl:=h.l
 unfold xV at hv
 rcases List.mem_append.mp hv with z | z
 ·simp only [List.mem_cons,List.not_mem_nil,or_false] at z
  rcases z with rfl | rfl | rfl | rfl | rfl | rfl | rfl
  ·exact ⟨by omega,by omega⟩
  ·exact ⟨by omega,by omega⟩
  ·exact ⟨by omega,by omega⟩
  ·exact ⟨by omega,by omega⟩
  ·exact h.n
  ·exact h.c
  ·exact ⟨by omega,by omega⟩
 ·exact h.x v z
theorem Be {a:Cl} (h:ie a):IsCell 18 (uH a):=by
 refine ⟨fun i _=>?_⟩
 unfold uH
 rw [List.getD_eq_getElem?_getD]
 cases e:(xV a)[i]? with
 | none=>exact ⟨by decide,by decide⟩
 | some v=>exact MB h v (List.mem_of_getElem? e)
theorem MC (a:Cl) (i:Nat):uH a (7+i)=a.xs.getD i 0:=by
 unfold uH xV
 rw [Nat.add_comm]
 rfl
abbrev a8 (a:Cl):Nat→Int:=My.kK (uH a)
theorem Gq {a:Cl} {i:Nat} (h:i < 18):a8 a i=uH a i:=by unfold a8 My.kK;rw [if_pos h]
theorem Bf {a:Cl} (h:ie a):IsCell 24 (a8 a):=⟨fun i _=>My.Ld (Be h).b i⟩
theorem MD (a:Cl):a8 a 0 * 97+a8 a 1=a.b:=by
 show a.b / 97 * 97+a.b % 97=a.b
 omega
theorem ME (a:Cl):a8 a 2 * 97+a8 a 3=a.k:=by
 show a.k / 97 * 97+a.k % 97=a.k
 omega
theorem Gr {a:Cl} (h:ie a):iF (tabI 24 (a8 a)) (some 7) (some (7+a8 a 6))=a.xs.map V.int:=by
 have hl:=h.l
 have e6:a8 a 6=(a.xs.length:Int):=rfl
 have:=uc (f:=fun j=>V.int (a8 a j)) (n:=24) (lo:=7) (hi:=7+a.xs.length) (by omega) (by omega)
 rw [e6]
 rw [show ((7+a.xs.length:Nat):Int)=7+(a.xs.length:Int) by omega] at this
 refine this.trans ?_
 rw [Ie,show 7+a.xs.length - 7=a.xs.length by omega]
 refine bU fun i hi=>?_
 rw [Gq (by omega),MC]
theorem JV (ns:List Int) (h:ns.length≤18):ns.map V.int ++ (List.replicate (18 - ns.length) [V.int 0]).flatten=tabI 18 (fun i=>ns.getD i 0):=by
 rw [List.flatten_replicate_singleton]
 apply List.ext_getElem?
 intro j
 by_cases hj:j < 18
 ·rw [ba (f:=fun i=>V.int (ns.getD i 0)) hj,List.getD_eq_getElem?_getD]
  by_cases hn:j < ns.length
  ·rw [List.getElem?_append_left (by rw [List.length_map];exact hn),List.getElem?_map]
   cases e:ns[j]? with
   | none=>rw [List.getElem?_eq_none_iff] at e;omega
   | some v=>rfl
  ·rw [List.getElem?_append_right (by rw [List.length_map];omega),List.length_map,List.getElem?_replicate,if_pos (by omega),List.getElem?_eq_none (by omega)]
   rfl
 ·rw [List.getElem?_eq_none (by rw [List.length_append,List.length_map,List.length_replicate];omega),List.getElem?_eq_none (by rw [aL];omega)]
theorem FT {n:Int}:(My.low (2:Int).toNat n).reverse=[n / 97 % 97,n % 97]:=rfl
theorem Bg {n:Int} (h:AU n):My.rest (2:Int).toNat n=0:=by
 show n / 97 / 97=0
 obtain ⟨h0,h1⟩:=h
 omega
theorem Bh (a b:Int):My.told [a,b]=a * 97+b:=by
 show (0 * 97+a) * 97+b=_
 omega
theorem sY {n:Int} (h:AU n):n.natAbs < 2 ^ 1000:=by
 have:n.natAbs < 9409:=by obtain ⟨h0,h1⟩:=h;omega
 exact Nat.lt_of_lt_of_le this (by decide)
theorem vx {n:Int} (h:0≤n∧n < 97):n.natAbs < 2 ^ 1000:=sY ⟨h.1,by omega⟩
theorem Bi (L:Lk) (n:Int):(aw L n).ev.length≤L.ev.length+1:=by
 unfold aw
 cases L.p with
 | none=>exact Nat.le_succ _
 | some p =>
  simp only
  split
  ·show (L.ev ++ [_]).length≤_
   rw [List.length_append];exact Nat.le_refl _
  ·exact Nat.le_succ _
theorem Bj (L:Lk):(bA L).ev.length≤L.ev.length+1:=by
 unfold bA
 cases L.p with
 | none=>show (L.ev ++ [_]).length≤_;rw [List.length_append];exact Nat.le_refl _
 | some p=>exact Nat.le_succ _
theorem FU (L:Lk) (c:Int):(bB L c).ev=L.ev:=by unfold bB;split <;> rfl
def FV (C:Addr):Sp:=fun vs H Q _=>∃ (B:Hp) (x tA pA l:Addr) (L:Lk) (a:Cl),vs=[.ref x,.ref l]∧bP C B H x tA pA L∧L.ev.length < 900000∧H l=some (.lst (tabI 24 (a8 a)))∧ie a∧l≠tA∧l≠pA ∧
 ∀ B' H' pB,iQ B H B' H' x tA pA tA pB→bP C B' H' x tA pB (aW L a)→Q .bq H'
theorem FW:aS ["self","cell","birth"] ["self","cell"] (aG sN):=⟨rfl,rfl,rfl,by decide +kernel,rfl,by decide +kernel,by decide +kernel⟩
theorem MF {fd BZ So Sr YH:FuncData} (T:Txt K mg t) (F:jh K "read" "LinkEnd.read" sN t.vW fd) (fV:Def P w K mg base 3 "signs_number" ["signs"] (mW K t.BadSign))
  (DG:bV P w K mg base (iL P w) 3 t.vX BZ ["self","birth"] (FQ t.LinkEnd)) (DH:Binds K BZ ["self","birth"] []) (sZ:bV P w K mg base (iL P w) 1 t.kP So ["self"] (vw t.LinkEnd)) (si:Binds K So ["self"] [])
  (lR:bV P w K mg base (iL P w) 1 t.fQ Sr ["self","count"] (o5 t.LinkEnd)) (lS:Binds K Sr ["self","count"] []) (lT:bV P w K mg base (iL P w) 1 t.fR YH ["self","number","piece"] (o7 t.LinkEnd)) (lU:Binds K YH ["self","number","piece"] []) :
  bV P w K mg base (iL P w) 4 t.vW fd ["self","cell"] (FV t.LinkEnd)∧Binds K fd ["self","cell"] []:=by
 refine ⟨F.pN FW (fun vs H Q E h=>?_) (fun f be A outer s H vs Q E hr h=>?_),F.binds fun _ _ _ _ _ _ us hl=>match us,hl with | [_,_],_=>rfl⟩
 ·obtain ⟨B,x,tA,pA,l,L,a,rfl,_⟩:=h
  rfl
 ·obtain ⟨B,x,tA,pA,l,L,a,rfl,h,hlen,hl,ga,n1,n2,q⟩:=h
  refine ⟨_,aD (aZ (i:=2) FW.nd rfl (Or.inl rfl) (aa (fV.mono (by decide)) hr av (aA (kF (kJ K) (pv 1) uY (jP (aV T.ya))) aC)))
   (aD (bu (aj ux (pv 2) (ai K (pv 0) (by rfl)) (au _))
    (aH (Ky))
    (bD))
   (aD (ay (oR (pv 0) T.aK T.Lp (DG.mono (by decide)) hr DH .nil av (aA (pv 2) aC)))
   (aH (bu (aj jN (aa (fV.mono (by decide)) hr av (aA (kF (kJ K) (pv 1) (jP (aV T.ya)) (jP (aV T.vd))) aC)) (ai K (pv 0) (by rfl)) (au _))
    (aD (ay (dB (pv 0) T.aK T.C0 (sZ.mono (by decide)) hr si .nil av))
    (aD (ay (oR (pv 0) T.aK T.xJ (lR.mono (by decide)) hr lS .nil av (aA (af (aQ K) (pv 1) (aV T.Ga) (fun _ _=>rfl)) aC)))
    (aH (ay (oR (pv 0) T.aK T.xK (lT.mono (by decide)) hr lU .nil av (aA (af (aQ K) (pv 1) (aV T.vd) (fun _ _=>rfl)) (aA (kF (kJ K) (pv 1) (jP (aV T.yb)) (jP (aP bM (aV T.yb) (af (aQ K) (pv 1) (aV T.Cz) (fun _ _=>rfl))))) aC)))))))
    (bD))))),?_⟩
  have sg:∀ i,i < 24→0≤a8 a i∧a8 a i < 97:=(Bf ga).b
  have two:∀ {a b:Int},(0≤a∧a < 97)→(0≤b∧b < 97)→∀ n ∈ [a,b],0≤n∧n < 97:=fun {a b} ha hb n hn=>by
   rcases List.mem_cons.mp hn with rfl | hn
   ·exact ha
   ·rw [List.mem_singleton.mp hn];exact hb
  have WS:l≠x:=fun z=>by obtain ⟨_,_,gx,_⟩:=h.at_;rw [z,gx] at hl;cases hl
  refine ⟨_,rfl,_,rfl,l,_,rfl,aY.of hl,fun p1 BN=>?_⟩
  have ec:iF (tabI 24 (a8 a)) none (some 2)=[a8 a 0,a8 a 1].map V.int:=vK (f:=fun j=>V.int (a8 a j)) (n:=24) (hi:=2) (by decide)
  rw [ec]
  have s1:aI H (upd H p1 (.lst ([a8 a 0,a8 a 1].map V.int))):=(aI.refl _).new BN
  have Pb:=two (sg 0 (by decide)) (sg 1 (by decide))
  refine ⟨p1,[a8 a 0,a8 a 1],rfl,aY.of aB,fun n hn=>vx (Pb n hn),fun _=>?_,fun n hn z=>absurd (Pb n hn) z⟩
  generalize upd H p1 (.lst ([a8 a 0,a8 a 1].map V.int))=H1 at *
  rw [Bh,MD]
  have h1:=h.same s1
  have m1:iQ B H B H1 x tA pA tA pA:=iQ.of_same s1
  obtain ⟨dx,pv,hx,hp⟩:=h1.at_
  refine ⟨_,rfl,_,rfl,x,t.LinkEnd,dx,_,_,rfl,hx,T.aK,T.fS,oj,_,_,rfl,rfl,_,rfl,?_⟩
  unfold aW at q
  by_cases hk:a.b < L.k
  ·rw [if_pos hk] at q
   exact fk hk (q B H1 pA m1 h1)
  ·rw [if_neg hk] at q
   refine fj hk ?_
   refine ⟨_,rfl,x,dx,_,rfl,hx,rfl,_,rfl,B,x,tA,pA,L,_,rfl,h1,by omega,fun B2 H2 pB m2 h2=>?_⟩
   have Sk:=m1.trans m2
   have Pf:H2 l=some (.lst (tabI 24 (a8 a))):=Sk.k l _ WS n1 n2 hl
   have YI:l≠pB:=by
    rcases Sk.p with z | z
    ·rw [z];exact n2
    ·exact aM hl z
   have X1:=Bi L a.b
   generalize aw L a.b=L2 at *
   refine ⟨_,rfl,_,rfl,_,rfl,l,_,rfl,aY.of Pf,fun p3 Gc=>?_⟩
   have WT:iF (tabI 24 (a8 a)) (some 2) (some 4)=[a8 a 2,a8 a 3].map V.int:=uc (f:=fun j=>V.int (a8 a j)) (n:=24) (lo:=2) (hi:=4) (by decide) (by decide)
   rw [WT]
   have s3:aI H2 (upd H2 p3 (.lst ([a8 a 2,a8 a 3].map V.int))):=(aI.refl _).new Gc
   have Sf:=two (sg 2 (by decide)) (sg 3 (by decide))
   refine ⟨p3,[a8 a 2,a8 a 3],rfl,aY.of aB,fun n hn=>vx (Sf n hn),fun _=>?_,fun n hn z=>absurd (Sf n hn) z⟩
   generalize upd H2 p3 (.lst ([a8 a 2,a8 a 3].map V.int))=H3 at *
   rw [Bh,ME]
   have h3:=h2.same s3
   have Uo:=Sk.same s3
   have Ss:=s3 _ _ Pf
   obtain ⟨MG,Qn,Pg,aAG⟩:=h3.at_
   refine ⟨_,rfl,x,t.LinkEnd,MG,_,_,rfl,Pg,T.aK,T.kS,qz,rfl,_,rfl,?_⟩
   by_cases ho:a.k=L2.b
   ·rw [if_pos ho] at q
    refine fk (by rw [ho]) ?_
    refine ⟨_,rfl,x,MG,_,rfl,Pg,rfl,B2,x,tA,pB,L2,rfl,h3,by omega,fun B4 H4 m4 h4=>?_⟩
    have WU:H4 l=some (.lst (tabI 24 (a8 a))):=m4.k l _ WS n1 YI Ss
    obtain ⟨Nr,pv4,Nt,_⟩:=h4.at_
    have Su:=Uo.trans m4
    refine ⟨_,rfl,x,Nr,_,rfl,Nt,rfl,_,rfl,l,_,_,_,rfl,rfl,aY.of WU,rfl,B4,x,tA,pB,_,a.c,rfl,h4,fun H5 m5 h5=>?_⟩
    have WV:H5 l=some (.lst (tabI 24 (a8 a))):=m5.k l _ WS n1 YI WU
    obtain ⟨Nu,Sv,Up,_⟩:=h5.at_
    have m05:=Su.trans m5
    refine ⟨_,rfl,x,Nu,_,rfl,Up,rfl,_,rfl,l,_,_,_,rfl,rfl,aY.of WV,rfl,?_⟩
    refine ⟨_,rfl,_,rfl,_,rfl,l,_,_,_,rfl,rfl,aY.of WV,rfl,_,_,rfl,rfl,_,rfl,l,_,rfl,aY.of WV,fun p6 Ql=>?_⟩
    have ec3:iF (tabI 24 (a8 a)) (some 7) (some (7+a8 a 6))=a.xs.map V.int:=Gr ga
    have s6:aI H5 (upd H5 p6 (.lst (iF (tabI 24 (a8 a)) (some 7) (some (7+a8 a 6))))):=(aI.refl _).new Ql
    obtain ⟨h6,m6⟩:=h5.grow (o:=.lst (iF (tabI 24 (a8 a)) (some 7) (some (7+a8 a 6)))) s6 Ql aB
    have Nm:=Bj L2
    refine ⟨_,x,tA,pB,p6,_,a.n,a.xs,rfl,h6,by rw [FU];omega,by rw [aB,ec3],fun B7 H7 m7 h7=>?_⟩
    exact q B7 H7 pB ((m05.trans m6).trans m7) h7
   ·rw [if_neg ho] at q
    refine fj (fun z=>ho (V.int.inj z)) ?_
    exact q B2 H3 pB Uo h3
def FX (L:Lk):Prop:=ie (bz L)
def jn (C:Addr):Sp:=fun vs H Q _=>∃ (B:Hp) (x tA pA:Addr) (L:Lk),vs=[.ref x]∧bP C B H x tA pA L∧FX L∧∀ p H',H p=none→aI H H'→H' p=some (.lst (tabI 24 (a8 (bz L))))→Q (.ref p) H'
theorem gh:aS ["self","piece","births","signs"] ["self"] (aG dY):=⟨rfl,rfl,rfl,by decide +kernel,rfl,by decide +kernel,by decide +kernel⟩
set_option maxHeartbeats 1000000 in
theorem xW {fd:FuncData} (T:Txt K mg t) (F:jh K "cell_given" "LinkEnd.cell_given" dY t.fO fd) (fW:Def P w K mg base 1 "number_signs" ["number","many"] (mV t.BadSign)) (vy:Def P w K mg base 3 "sealed" ["signs"] (yg K)) :
  bV P w K mg base (iL P w) 4 t.fO fd ["self"] (jn t.LinkEnd)∧Binds K fd ["self"] []:=by
 refine ⟨F.pN gh (fun vs H Q E h=>?_) (fun f be A outer s H vs Q E hr h=>?_),F.binds fun _ _ _ _ _ _ us hl=>match us,hl with | [_],_=>rfl⟩
 ·obtain ⟨B,x,tA,pA,L,rfl,_⟩:=h
  rfl
 ·obtain ⟨B,x,tA,pA,L,rfl,h,gl,q⟩:=h
  refine ⟨_,aD (Cf (aZ (i:=1) gh.nd rfl (Or.inl rfl) (ml (qZ (ai K (pv 0) (by rfl)) (fun _=>rfl)) (af (aQ K) (ai K (pv 0) (by rfl)) aF (fun _ _=>rfl)) (bH aC))))
   (aD (aZ (i:=2) gh.nd rfl (Or.inl rfl) (aP (lE K) (aa (fW.mono (by decide)) hr av (aA (ai K (pv 0) (by rfl)) (aA (aV T.qq) aC))) (aa (fW.mono (by decide)) hr av (aA (ai K (pv 0) (by rfl)) (aA (aV T.qq) aC)))))
   (aD (aZ (i:=3) gh.nd rfl (Or.inl rfl) (aP (lE K) (aP (lE K) (pv 2) (bH (aA (ai K (pv 0) (by rfl)) (aA (ai K (pv 0) (by rfl)) (aA (bR (bY K) (by rfl) T.iZ boot_len (aA (pv 1) aC)) aC))))) (pv 1)))
   (aH (ar (aa (vy.mono (by decide)) hr (kH bC) (aA (aP (lE K) (pv 3) (aP zG (bH (aA aF aC)) (aP jg (aV T.qr) (bR (bY K) (by rfl) T.iZ boot_len (aA (pv 3) aC))))) aC)))))),?_⟩
  have ox:(1000001:Nat)≤sizeLine:=by decide
  obtain ⟨dx,pv,hx,_⟩:=h.at_
  obtain ⟨df,g3,rX⟩:=h.bE
  refine ⟨fun σ H0=>∃ p0,σ=[some (.ref x),some (.ref p0),none,none]∧aI H H0∧H0 p0=some (.lst ((L.bE.headD []).map V.int)),?_,?_⟩
  ·refine ⟨_,rfl,x,t.LinkEnd,dx,_,_,rfl,hx,T.aK,T.fz,kZ,_,.inl ⟨_,aY.of g3,rfl⟩,?_⟩
   cases ep:L.bE with
   | nil =>
    rw [ep] at g3
    refine gu ⟨by show 0≤sizeLine;decide,fun p0 Pj=>⟨p0,rfl,(aI.refl _).new Pj,aB⟩⟩
   | cons a r =>
    rw [ep] at g3 rX
    have AS:(!(bW (a :: r).length df).isEmpty)=true:=by
     have hl:(bW (a :: r).length df).length=r.length+1:=aL _ _
     cases e:bW (a :: r).length df with
     | nil=>rw [e] at hl;cases hl
     | cons u v=>rfl
    rw [AS]
    refine gw ⟨_,rfl,x,t.LinkEnd,dx,_,_,rfl,hx,T.aK,T.fz,kZ,pA,_,_,_,rfl,rfl,aY.of g3,k9 (ba (f:=fun j=>V.ref (df j)) (Nat.succ_pos _)),?_⟩
    exact ⟨df 0,rfl,aI.refl _,h.sb _ _ (rX 0 a rfl)⟩
  rintro σ H0 ⟨p0,rfl,s0,e0⟩
  have gb:=gl.b
  have gk:=gl.k
  have aAK:(L.bE.headD []).length≤10:=gl.l
  have hb:AU L.b:=gb
  have hk:AU L.k:=gk
  have Qh:xV (bz L)=[L.b / 97,L.b % 97,L.k / 97,L.k % 97,L.of,L.tk,((L.bE.headD []).length:Int)] ++ L.bE.headD []:=rfl
  have hcp:∀ i,uH (bz L) i=(xV (bz L)).getD i 0:=fun i=>rfl
  generalize L.bE.headD []=xs at *
  refine ⟨_,rfl,x,t.LinkEnd,dx,_,_,rfl,s0 _ _ hx,T.aK,T.kS,qz,L.b,2,rfl,sY hb,by decide,by decide,fun _ _ p1 H1 BN s1 e1=>?_,fun z=>absurd z (by rw [Bg hb];have:=hb.1;omega)⟩
  rw [FT] at e1
  have JW:=s0.trans s1
  refine ⟨_,rfl,x,t.LinkEnd,dx,_,_,rfl,JW _ _ hx,T.aK,T.fS,oj,L.k,2,rfl,sY hk,by decide,by decide,fun _ _ p2 H2 xC s2 e2=>?_,fun z=>absurd z (by rw [Bg hk];have:=hk.1;omega)⟩
  rw [FT] at e2
  have Uq:=JW.trans s2
  refine ⟨p1,p2,_,_,rfl,rfl,aY.of (s2 _ _ e1),aY.of e2,by show 4≤sizeLine;decide,fun p3 Gc=>?_⟩
  have t3:=(aI.refl H2).new (o:=.lst ([L.b / 97 % 97,L.b % 97].map V.int ++ [L.k / 97 % 97,L.k % 97].map V.int)) Gc
  have e3:(upd H2 p3 (.lst ([L.b / 97 % 97,L.b % 97].map V.int ++ [L.k / 97 % 97,L.k % 97].map V.int))) p3=some (.lst ([L.b / 97 % 97,L.b % 97,L.k / 97 % 97,L.k % 97].map V.int)):=aB
  have s3:=Uq.trans t3
  have YJ:=((s1.trans s2).trans t3) _ _ e0
  generalize upd H2 p3 (.lst ([L.b / 97 % 97,L.b % 97].map V.int ++ [L.k / 97 % 97,L.k % 97].map V.int))=H3 at *
  refine ⟨_,rfl,_,rfl,x,t.LinkEnd,dx,_,_,rfl,s3 _ _ hx,T.aK,T.lM,yj,_,rfl,x,t.LinkEnd,dx,_,_,rfl,s3 _ _ hx,T.aK,T.nB,zm,_,rfl,p0,_,rfl,.inl (aY.of YJ),by show 3≤sizeLine;decide,fun p4 Ul=>?_⟩
  rw [List.length_map]
  have t4:=(aI.refl H3).new (o:=.lst [V.int L.of,V.int L.tk,V.int (xs.length:Nat)]) Ul
  refine ⟨p3,p4,_,_,rfl,rfl,aY.of (t4 _ _ e3),aY.of aB,by show 7≤sizeLine;decide,fun p5 Uj=>?_⟩
  have t5:=t4.new (o:=.lst ([L.b / 97 % 97,L.b % 97,L.k / 97 % 97,L.k % 97].map V.int ++ [V.int L.of,V.int L.tk,V.int (xs.length:Nat)])) Uj
  refine ⟨_,rfl,p5,p0,_,_,rfl,rfl,aY.of aB,aY.of (t5 _ _ YJ),by rw [List.length_map];show 7+xs.length≤sizeLine;omega,fun p6 Ql=>?_⟩
  have t6:=t5.new (o:=.lst (([L.b / 97 % 97,L.b % 97,L.k / 97 % 97,L.k % 97].map V.int ++ [V.int L.of,V.int L.tk,V.int (xs.length:Nat)]) ++ xs.map V.int)) Ql
  have s6:=s3.trans t6
  have eb:L.b / 97 % 97=L.b / 97:=by obtain ⟨h0,h1⟩:=hb;omega
  have ek:L.k / 97 % 97=L.k / 97:=by obtain ⟨h0,h1⟩:=hk;omega
  have e6:(upd (upd (upd H3 p4 (.lst [V.int L.of,V.int L.tk,V.int (xs.length:Nat)])) p5 (.lst ([L.b / 97 % 97,L.b % 97,L.k / 97 % 97,L.k % 97].map V.int ++ [V.int L.of,V.int L.tk,V.int (xs.length:Nat)]))) p6 (.lst (([L.b / 97 % 97,L.b % 97,L.k / 97 % 97,L.k % 97].map V.int ++ [V.int L.of,V.int L.tk,V.int (xs.length:Nat)]) ++ xs.map V.int))) p6=some (.lst ((xV (bz L)).map V.int)):=by
   rw [aB,Qh,eb,ek,List.map_append]
   rfl
  generalize (upd (upd (upd H3 p4 (.lst [V.int L.of,V.int L.tk,V.int (xs.length:Nat)])) p5 (.lst ([L.b / 97 % 97,L.b % 97,L.k / 97 % 97,L.k % 97].map V.int ++ [V.int L.of,V.int L.tk,V.int (xs.length:Nat)]))) p6 (.lst (([L.b / 97 % 97,L.b % 97,L.k / 97 % 97,L.k % 97].map V.int ++ [V.int L.of,V.int L.tk,V.int (xs.length:Nat)]) ++ xs.map V.int)))=H6 at *
  have sl7:(xV (bz L)).length=7+xs.length:=by rw [Qh,List.length_append];rfl
  generalize xV (bz L)=ss at *
  refine ⟨_,rfl,by show 1≤sizeLine;decide,fun p7 hp7=>?_⟩
  have s7:=(aI.refl H6).new (o:=.lst [V.int 0]) hp7
  refine ⟨_,rfl,p6,_,rfl,.inl (aY.of (s7 _ _ e6)),_,_,rfl,rfl,?_⟩
  rw [List.length_map]
  refine ⟨p7,_,_,rfl,rfl,aB,by omega,by omega,by show 1 * _≤sizeLine;omega,fun p8 hp8=>?_⟩
  have en:((18:Int) - (ss.length:Nat)).toNat=18 - ss.length:=by omega
  rw [en]
  have s8:=s7.new (o:=.lst ((List.replicate (18 - ss.length) [V.int 0]).flatten)) hp8
  refine ⟨p6,p8,_,_,rfl,rfl,aY.of (s8 _ _ e6),aY.of aB,by rw [List.flatten_replicate_singleton,List.length_map,List.length_replicate];omega,fun p9 hp9=>?_⟩
  rw [JV ss (by omega)] at *
  have s9:=s8.new (o:=.lst (tabI 18 fun i=>ss.getD i 0)) hp9
  refine ⟨p9,uH (bz L),rfl,aY.of ?_,Be gl,fun p H' hp s' e'=>?_⟩
  ·rw [aB]
   exact congrArg (fun z=>some (HO.lst z)) (bU fun i _=>by rw [hcp i])
  ·have sA:=(s6.trans s9).trans s'
   exact q p H' ((s6.trans s9).free hp) sA e'
end
end K37
namespace K37
open PySem L2 PyProof.Rows
section
variable {P:Program} {w:World} {K:PySem.W.Frag} {mg:Str→Option Value} {base:Heap} {t:Ad}
theorem Gs {f g h:Nat→Int} (a:My.pP f g) (b:My.pP f h):tabI 24 g=tabI 24 h:=by
 refine bU fun i hi=>?_
 rw [My.Nj a.b b.b a.sealed b.sealed ?_ i hi]
 have:=My.fw (My.eQ 24 g h) (My.eQ 24 f g ++ My.eQ 24 f h) (My.fv _ _ _) fun i hi=>by
  obtain ⟨h1,h2⟩:=My.bw.mp hi
  by_cases e:f i=g i
  ·exact List.mem_append_right _ (My.bw.mpr ⟨h1,fun z=>h2 (by rw [← e,z])⟩)
  ·exact List.mem_append_left _ (My.bw.mpr ⟨h1,e⟩)
 have a2:=a.yV
 have b2:=b.yV
 rw [List.length_append] at this
 omega
def JX (f:Nat→Int):Option Cl→Prop
 | none=>∀ g,¬ My.pP f g
 | some a=>ie a∧My.pP f (a8 a)
abbrev Cm:=(Nat→Int) × Option Cl
def YK (H:Hp) (cl:Addr) (MH:Nat→Addr) (fs:List Cm):Prop:=H cl=some (.lst (bW fs.length MH))∧∀ j c,fs[j]?=some c→H (MH j)=some (.lst (tabI 24 c.1))∧IsCell 24 c.1∧JX c.1 c.2
def JY (H0 H:Hp) (D:Addr) (v:V):Option Cl→Prop
 | none=>v=.bq
 | some b=>∃ p,v=.ref p∧H0 p=none∧p≠D∧H p=some (.lst (tabI 24 (a8 b)))
theorem JY.mono {H0 H H':Hp} {D:Addr} {v:V} {o:Option Cl} (h:JY H0 H D v o) (k:∀ p u,p≠D→H p=some u→H' p=some u):JY H0 H' D v o:=by
 cases o with
 | none=>exact h
 | some b=>obtain ⟨p,h1,h2,h3,h4⟩:=h;exact ⟨p,h1,h2,h3,k p _ h3 h4⟩
def aO (L:Lk) (bs:List Cl):Lk:=bs.foldl aW L
def eJ (L:Lk) (bs:List Cl):Lk:={ L with u:=if bs=[] then L.u+1 else 0 }
def a9 (L:Lk):Lk:=if L.k≠0∧L.q≤L.u then eI L else L
def bL (L:Lk) (bs:List Cl):Lk:={ a9 (eJ (aO L bs) bs) with d:=(a9 (eJ (aO L bs) bs)).d+1 }
theorem DI (L:Lk) (bs:List Cl) (b:Cl):aO L (bs ++ [b])=aW (aO L bs) b:=by unfold aO;rw [List.foldl_append];rfl
structure rY (L:Lk):Prop where
 k:AU L.k
 o:Hi L.of
 t:Hi L.tk
 p:∀ xs ∈ L.bE,xs.length≤10∧∀ v ∈ xs,Hi v
theorem Pk:AU 0:=⟨by decide,by decide⟩
theorem Gu:Hi 0:=⟨by decide,by decide⟩
theorem uh (n:Int):Hi (n % 97):=⟨Int.emod_nonneg _ (by decide),Int.emod_lt_of_pos _ (by decide)⟩
theorem rY.give {L:Lk} (h:rY L) (hb:AU L.b):FX L:=by
 refine ⟨hb,h.k,h.o,h.t,?_,?_⟩
 ·show (L.bE.headD []).length≤10
  cases e:L.bE with
  | nil=>exact Nat.zero_le _
  | cons a r=>exact (h.p a (by rw [e];exact List.mem_cons_self)).1
 ·show ∀ v ∈ L.bE.headD [],Hi v
  cases e:L.bE with
  | nil=>intro v hv;cases hv
  | cons a r=>exact (h.p a (by rw [e];exact List.mem_cons_self)).2
theorem FY {L:Lk} {n:Int} (h:rY L) (hn:AU n):rY (aw L n):=by
 unfold aw
 cases L.p with
 | none=>exact ⟨hn,h.o,h.t,h.p⟩
 | some p =>
  simp only
  split
  ·exact ⟨hn,Gu,Gu,fun xs hx=>by cases hx⟩
  ·exact ⟨hn,h.o,h.t,h.p⟩
theorem MI {L:Lk} (h:rY L):rY (bA L):=by
 unfold bA
 cases L.p with
 | none=>exact ⟨h.k,h.o,h.t,h.p⟩
 | some p=>exact h
theorem MJ {L:Lk} {c:Int} (h:rY L):rY (bB L c):=by
 unfold bB
 split
 ·exact ⟨h.k,uh _,h.t,fun xs hx=>h.p xs (List.mem_of_mem_tail hx)⟩
 ·exact h
theorem MK {L:Lk} {n:Int} {xs:List Int} (h:rY L):rY (bO L n xs):=by
 unfold bO
 split
 ·exact ⟨h.k,h.o,uh _,h.p⟩
 ·exact h
theorem ML {L:Lk} {a:Cl} (h:rY L) (ha:AU a.b):rY (aW L a):=by
 unfold aW
 split
 ·exact h
 ·split
  ·exact MK (MJ (MI (FY h ha)))
  ·exact FY h ha
theorem MM {L:Lk} (h:rY L):rY (eI L):=by
 unfold eI
 cases L.p with
 | none=>exact ⟨Pk,h.o,h.t,h.p⟩
 | some p=>exact ⟨Pk,Gu,Gu,fun xs hx=>by cases hx⟩
theorem Bk {L:Lk} (h:rY L):rY (a9 L):=by
 unfold a9
 split
 ·exact MM h
 ·exact h
theorem rB:∀ (bs:List Cl) (L:Lk),rY L→(∀ b ∈ bs,AU b.b)→rY (aO L bs)
 | [],_,h,_=>h
 | b :: r,L,h,hb=>rB r (aW L b) (ML h (hb b List.mem_cons_self)) fun x hx=>hb x (List.mem_cons_of_mem _ hx)
theorem sj (L:Lk) (n:Int):(aw L n).b=L.b∧(aw L n).k=n:=by
 unfold aw
 cases L.p with
 | none=>exact ⟨rfl,rfl⟩
 | some p=>simp only;split <;> exact ⟨rfl,rfl⟩
theorem DJ (L:Lk):(bA L).b=L.b∧(bA L).k=L.k:=by
 unfold bA
 cases L.p <;> exact ⟨rfl,rfl⟩
theorem JZ (L:Lk) (c:Int):(bB L c).b=L.b∧(bB L c).k=L.k:=by unfold bB;split <;> exact ⟨rfl,rfl⟩
theorem Ja (L:Lk) (n:Int) (xs:List Int):(bO L n xs).b=L.b∧(bO L n xs).k=L.k∧(bO L n xs).ev.length≤L.ev.length+1:=by
 unfold bO
 split
 ·exact ⟨rfl,rfl,by show (L.ev ++ [_]).length≤_;rw [List.length_append];exact Nat.le_refl _⟩
 ·exact ⟨rfl,rfl,Nat.le_succ _⟩
theorem Pl (L:Lk) (a:Cl):(aW L a).b=L.b∧((aW L a).k=L.k∨(aW L a).k=a.b)∧(aW L a).ev.length≤L.ev.length+3:=by
 have m1:=sj L a.b
 have m2:=Bi L a.b
 have c1:=DJ (aw L a.b)
 have c2:=Bj (aw L a.b)
 have h1:=JZ (bA (aw L a.b)) a.c
 have h2:=FU (bA (aw L a.b)) a.c
 have t1:=Ja (bB (bA (aw L a.b)) a.c) a.n a.xs
 unfold aW
 split
 ·exact ⟨rfl,.inl rfl,by omega⟩
 ·split
  ·refine ⟨t1.1.trans (h1.1.trans (c1.1.trans m1.1)),.inr (t1.2.1.trans (h1.2.trans (c1.2.trans m1.2))),?_⟩
   have:=t1.2.2
   rw [h2] at this
   omega
  ·exact ⟨m1.1,.inr m1.2,by omega⟩
theorem zo (L:Lk):∀ (bs:List Cl),(aO L bs).b=L.b∧(aO L bs).ev.length≤L.ev.length+3 * bs.length:=by
 intro bs
 induction bs generalizing L with
 | nil=>exact ⟨rfl,Nat.le_refl _⟩
 | cons b r ih =>
  have rb:=Pl L b
  obtain ⟨i1,i3⟩:=ih (aW L b)
  show (aO (aW L b) r).b=_∧(aO (aW L b) r).ev.length≤_
  exact ⟨i1.trans rb.1,by rw [List.length_cons];omega⟩
theorem Pm (L:Lk):(eI L).b=L.b+1∧(eI L).k=0:=by
 unfold eI
 cases L.p <;> exact ⟨rfl,rfl⟩
def cN (fs:List Cm):List Cl:=fs.filterMap (·.2)
theorem DK {fs:List Cm} {i:Nat} {c:Cm} (h:fs[i]?=some c):cN (fs.take (i+1))=cN (fs.take i) ++ (match c.2 with | none=>[] | some b=>[b]):=by
 unfold cN
 rw [List.take_succ,h,List.filterMap_append]
 congr 1
 cases e:c.2 <;> simp [e]
def FZ (C:Addr):Sp:=fun vs H Q _=>∃ (B:Hp) (x tA pA cl:Addr) (MH:Nat→Addr) (L:Lk) (fs:List Cm),vs=[.ref x,.ref cl]∧bP C B H x tA pA L∧YK H cl MH fs∧fs.length≤1000∧L.ev.length≤1000∧0≤L.b∧L.b < 9000∧rY L ∧
 ∀ B' H' pB p,iQ B H B' H' x tA pA tA pB→bP C B' H' x tA pB (bL L (cN fs))→H p=none→B' p=none→p≠pB→H' p=some (.lst (tabI 24 (a8 (bz (bL L (cN fs))))))→Q (.ref p) H'
theorem ui:aS ["self","cells","tried","readable","cell"] ["self","cells"] (aG m8):=⟨rfl,rfl,rfl,by decide +kernel,rfl,by decide +kernel,by decide +kernel⟩
theorem MN {fd BZ So Sr:FuncData} (T:Txt K mg t) (F:jh K "tick" "LinkEnd.tick" m8 t.vV fd) (vz:Def P w K mg base 8 "mended" ["cell"] (yh K)) (DL:bV P w K mg base (iL P w) 4 t.vW BZ ["self","cell"] (FV t.LinkEnd)) (DM:Binds K BZ ["self","cell"] [])
  (lV:bV P w K mg base (iL P w) 3 t.fP So ["self"] (jm t.LinkEnd)) (lW:Binds K So ["self"] []) (lX:bV P w K mg base (iL P w) 4 t.fO Sr ["self"] (jn t.LinkEnd)) (lY:Binds K Sr ["self"] []) :
  bV P w K mg base (iL P w) 9 t.vV fd ["self","cells"] (FZ t.LinkEnd)∧Binds K fd ["self","cells"] []:=by
 refine ⟨F.pN ui (fun vs H Q E h=>?_) (fun f be A outer s H vs Q E hr h=>?_),F.binds fun _ _ _ _ _ _ us hl=>match us,hl with | [_,_],_=>rfl⟩
 ·obtain ⟨B,x,tA,pA,cl,MH,L,fs,rfl,_⟩:=h
  rfl
 ·obtain ⟨B,x,tA,pA,cl,MH,L,fs,rfl,h,⟨Nm,YL⟩,hfl,hel,b0,b1,hk,q⟩:=h
  refine ⟨_,aD (mq (i:=2) ui.nd rfl (Or.inl rfl) rfl (Nc:=["cell"]) (ix:=[none]) (dJ (aG m8) ["self","cells","tried","readable","cell"] rfl rfl (by decide +kernel)) (cC K (pv 1)) (fun C fp s H=>⟨(az (i:=0) (show (["cell"]:List Str).Nodup by decide +kernel) rfl (Or.inl rfl)),cS,(aa (vz.mono (by decide)) hr av (aA (pv 0) aC))⟩))
   (aD (mq (i:=3) ui.nd rfl (Or.inl rfl) rfl (Nc:=["cell"]) (ix:=[none]) (dJ (aG m8) ["self","cells","tried","readable","cell"] rfl rfl (by decide +kernel)) (cC K (pv 2)) (fun C fp s H=>⟨(az (i:=0) (show (["cell"]:List Str).Nodup by decide +kernel) rfl (Or.inl rfl)),(Er (aj yy (pv 0) fg (au _))),(pv 0)⟩))
   (aD (PS.uX (cq PassesOwn.never rfl (cC K (pv 3)) (az (i:=4) ui.nd rfl (Or.inl rfl))
    (aH (ay (oR (pv 0) T.aK T.Lo (DL.mono (by decide)) hr DM .nil av (aA (pv 4) aC))))))
   (aD (b6 K (pv 0) (ml (qZ (pv 3) (fun _=>rfl)) aF (aP bM (ai K (pv 0) (by rfl)) aF)) (by rfl))
   (aD (Cf (bu (PW.pt (uv (aj yF (ai K (pv 0) (by rfl)) (aV T.og) (au _)) (qV (aj IB (ai K (pv 0) (by rfl)) (ai K (pv 0) (by rfl)) (au _)))))
    (aH (ay (dB (pv 0) T.aK T.xI (lV.mono (by decide)) hr lW .nil av)))
    (bD)))
   (aD (yG (pv 0) aF Hx)
   (aH (ar (dB (pv 0) T.aK T.xH (lX.mono (by decide)) hr lY .nil av)))))))),?_⟩
  have ox:(1000001:Nat)≤sizeLine:=by decide
  have nz:∀ {a b:Addr},H a≠none→H b=none→b≠a:=fun {a b} h1 h2 z=>h1 (z ▸ h2)
  refine ⟨_,rfl,cl,rfl,⟨_,aY.of Nm⟩,fun D hD=>?_⟩
  refine uZ (K:=K) (a:=cl) (xs:=bW fs.length MH) (fun i σ H'=>(∃ v,σ=[v])∧aI H H'∧∃ vs:List V,H' D=some (.lst vs)∧vs.length=i∧∀ (j:Nat) (v:V) (c:Cm),vs[j]?=some v→fs[j]?=some c→JY H H' D v c.2)
   ⟨⟨none,rfl⟩,(aI.refl H).new hD,[],aB,rfl,fun j v c hv=>by cases hv⟩ (fun i σ H' _ p=>aY.of (p.2.1 _ _ Nm)) ?_ ?_
  ·rintro i v σ H' N hN hi ⟨⟨v0,rfl⟩,s1,vs,hv,Qo,WW⟩
   obtain ⟨MO,rfl⟩:=tab_of hi
   have e:fs[i]?=some fs[i]:=by simp [MO]
   generalize fs[i]=c at e
   obtain ⟨c1,c2,c3⟩:=YL i c e
   refine dX ?_
   have fin:∀ (v:V) (H2:Hp),aI H' H2→JY H H2 D v c.2→(∃ ys,H2 D=some (.lst ys)∧ys.length < sizeLine∧N [some (.ref (MH i))] (upd H2 D (.lst (ys ++ [v])))):=fun v H2 s2 HY=>by
    refine ⟨_,s2 _ _ hv,by omega,hN _ _ ⟨⟨_,rfl⟩,(s1.trans s2).put hD,vs ++ [v],aB,by rw [List.length_append,Qo];rfl,fun j v' c' h1 h2=>?_⟩⟩
    have up:∀ p u,p≠D→H2 p=some u→(upd H2 D (.lst (vs ++ [v]))) p=some u:=fun p u n e=>by rw [aE n];exact e
    by_cases hj:j < vs.length
    ·rw [List.getElem?_append_left hj] at h1
     exact ((WW j v' c' h1 h2).mono fun p u _ e=>s2 _ _ e).mono up
    ·have Sw:j < (vs ++ [v]).length:=(List.getElem?_eq_some_iff.mp h1).1
     rw [List.length_append] at Sw
     have Sy:j=vs.length:=by simp at Sw;omega
     rw [Sy,List.getElem?_append_right (Nat.le_refl _),Nat.sub_self] at h1
     cases h1
     rw [Sy,Qo,e] at h2
     cases h2
     exact HY.mono up
   refine ⟨_,rfl,MH i,c.1,rfl,aY.of (s1 _ _ c1),c2,fun g p H2 hm hp s2 e2=>?_,fun hno H2 s2=>?_⟩
   ·refine fin _ H2 s2 ?_
    cases ec:c.2 with
    | none=>rw [ec] at c3;exact absurd hm (c3 g)
    | some b =>
     rw [ec] at c3
     exact ⟨p,rfl,s1.free hp,(fun z=>by rw [z,hv] at hp;cases hp),by rw [e2,Gs hm c3.2]⟩
   ·refine fin _ H2 s2 ?_
    cases ec:c.2 with
    | none=>exact rfl
    | some b=>rw [ec] at c3;exact absurd c3.2 (hno _)
  ·rintro σ H1 ⟨⟨v0,rfl⟩,s1,vs,hv,Qo,WW⟩
   rw [aL] at Qo
   have YM:∀ b ∈ cN fs,ie b:=fun b hb=>by
    obtain ⟨c,hc,ec⟩:=List.mem_filterMap.mp hb
    obtain ⟨j,hj⟩:=List.getElem?_of_mem hc
    have c3:=(YL j c hj).2.2
    rw [ec] at c3
    exact c3.1
   have Qp:(cN fs).length≤fs.length:=List.length_filterMap_le _ _
   obtain ⟨Ki,Qq⟩:=zo L (cN fs)
   have Cc:=rB (cN fs) L hk fun b hb=>(YM b hb).b
   refine ⟨_,rfl,D,rfl,⟨_,aY.of hv⟩,fun D2 Ge=>?_⟩
   refine uZ (K:=K) (a:=D) (xs:=vs) (fun i σ H'=>(∃ v,σ=[v])∧aI H1 H'∧∃ ps:List Addr,H' D2=some (.lst (ps.map V.ref))∧ps.length=(cN (fs.take i)).length∧∀ (j:Nat) (p:Addr) (b:Cl),ps[j]?=some p→(cN (fs.take i))[j]?=some b→H p=none∧H1 p=some (.lst (tabI 24 (a8 b))))
    ⟨⟨none,rfl⟩,(aI.refl H1).new Ge,[],aB,rfl,fun j p b hp=>by cases hp⟩ (fun i σ H' _ p=>aY.of (p.2.1 _ _ hv)) ?_ ?_
   ·rintro i v σ H' N hN hi ⟨⟨v0,rfl⟩,s2,ps,xC,oQ,Np⟩
    have MO:i < fs.length:=by rw [← Qo];exact (List.getElem?_eq_some_iff.mp hi).1
    have e:fs[i]?=some fs[i]:=by simp [MO]
    generalize fs[i]=c at e
    have Gw:=WW i v c hi e
    have Nv:=DK e
    refine turn_if ?_
    cases ec:c.2 with
    | none =>
     rw [ec] at Gw Nv
     have Gw:v=.bq:=Gw
     subst Gw
     refine ⟨_,rfl,rfl,_,rfl,vG rfl ?_⟩
     refine hN _ _ ⟨⟨_,rfl⟩,s2,ps,xC,?_,?_⟩
     ·rw [Nv,List.append_nil];exact oQ
     ·rw [Nv,List.append_nil];exact Np
    | some b =>
     rw [ec] at Gw Nv
     obtain ⟨p,rfl,Pj,hpD,Kj⟩:=Gw
     have Nv:cN (fs.take (i+1))=cN (fs.take i) ++ [b]:=Nv
     have Sz:(cN (fs.take i)).length≤(fs.take i).length:=List.length_filterMap_le _ _
     rw [List.length_take] at Sz
     refine ⟨_,rfl,rfl,_,rfl,yQ (fun z=>by cases z) ?_⟩
     refine ⟨_,rfl,_,xC,by rw [List.length_map];omega,hN _ _ ⟨⟨_,rfl⟩,s2.put Ge,ps ++ [p],?_,?_,?_⟩⟩
     ·rw [aB,List.map_append];rfl
     ·rw [Nv,List.length_append,List.length_append,oQ];rfl
     ·intro j p' b' h1 h2
      rw [Nv] at h2
      by_cases hj:j < ps.length
      ·rw [List.getElem?_append_left hj] at h1
       rw [List.getElem?_append_left (by omega)] at h2
       exact Np j p' b' h1 h2
      ·have Sw:j < (ps ++ [p]).length:=(List.getElem?_eq_some_iff.mp h1).1
       rw [List.length_append] at Sw
       have Sy:j=ps.length:=by simp at Sw;omega
       rw [Sy,List.getElem?_append_right (Nat.le_refl _),Nat.sub_self] at h1
       cases h1
       rw [Sy,oQ,List.getElem?_append_right (Nat.le_refl _),Nat.sub_self] at h2
       cases h2
       exact ⟨Pj,Kj⟩
   ·rintro σ H2 ⟨⟨v0,rfl⟩,s2,ps,xC,oQ,Np⟩
    rw [Qo,List.take_length] at oQ Np
    generalize MP:cN fs=bs at *
    have Uq:=s1.trans s2
    have h2:=h.same Uq
    have YN:H D2=none:=s1.free Ge
    have Jb:∀ {B3 H3:Hp} {pB:Addr} {a:Addr} {u:HO},iQ B H2 B3 H3 x tA pA tA pB→H a=none→H2 a=some u→H3 a=some u:=fun {B3 H3 pB a u} m ha e=>m.k a u (nz h.hx ha) (nz h.ht ha) (nz h.hp ha) e
    refine ⟨_,rfl,D2,rfl,⟨_,aY.of xC⟩,iT (K:=K) (a:=D2) (xs:=ps.map V.ref) (fun i σ H3=>∃ (B3:Hp) (pB:Addr) (v4:Option V),σ=[some (.ref x),some (.ref cl),some (.ref D),some (.ref D2),v4]∧iQ B H2 B3 H3 x tA pA tA pB∧bP t.LinkEnd B3 H3 x tA pB (aO L (bs.take i)))
     ⟨B,pA,none,rfl,iQ.refl,h2⟩ (fun i σ H3 _ ⟨_,_,_,_,m3,_⟩=>aY.of (Jb m3 YN xC)) ?_ ?_⟩
    ·rintro i v σ H3 hi ⟨B3,pB,v4,rfl,m3,h3⟩
     rw [List.getElem?_map] at hi
     cases ep:ps[i]? with
     | none=>rw [ep] at hi;cases hi
     | some p =>
      rw [ep] at hi
      cases hi
      have hib:i < bs.length:=by rw [← oQ];exact (List.getElem?_eq_some_iff.mp ep).1
      have eb:bs[i]?=some bs[i]:=by simp [hib]
      generalize bs[i]=b at eb
      obtain ⟨Pj,Kj⟩:=Np i p b ep eb
      have Gc:=Jb m3 Pj (s2 _ _ Kj)
      have bb:=YM b (List.mem_of_getElem? eb)
      have WX:p≠pB:=by
       rcases m3.p with z | z
       ·rw [z];exact nz h.hp Pj
       ·exact aM (s2 _ _ Kj) z
      have HZ:=(zo L (bs.take i)).2
      rw [List.length_take] at HZ
      obtain ⟨MG,Qn,Pg,_⟩:=h3.at_
      refine ⟨_,rfl,x,MG,_,rfl,Pg,rfl,_,rfl,B3,x,tA,pB,p,_,b,rfl,h3,by omega,Gc,bb,nz h.ht Pj,WX,fun B4 H4 pC m4 h4=>?_⟩
      rw [← DI,← take_succ eb] at h4
      exact ⟨B4,pC,_,rfl,m3.trans m4,h4⟩
    ·rintro σ H3 ⟨B3,pB,v4,rfl,m3,h3⟩
     rw [List.length_map,oQ,List.take_length] at h3
     have Uo:=(iQ.of_same (B:=B) Uq).trans m3
     obtain ⟨MG,Qn,Pg,WY⟩:=h3.at_
     have Uk:=Jb m3 YN xC
     have tail:∀ (n:Int),(eJ (aO L bs) bs).u=n→(CL (IG K (pF 0) (tC (.int n)) "unheard") (CL (Rr (RC (Q8 (EY (ON VS (CT K (pF 0) "known") (tC (V.int 0)))) (EY (ON (Kd fun i j=>V.bl (decide (j≤i))) (CT K (pF 0) "unheard") (CT K (pF 0) "quiet"))))
       (Ht (EZ t.LinkEnd "start_over" (jm t.LinkEnd) [] E0 (pF 0) vD)) NP)) (CL (y4 K (pF 0) (tC (V.int 1)) (Xk fun i j=>i+j) "done") (RA (EZ t.LinkEnd "cell_given" (jn t.LinkEnd) [] E0 (pF 0) vD))))) { nx:=fun x H'=>Q V.bq H',rt:=Q } [some (V.ref x),some (V.ref cl),some (V.ref D),some (V.ref D2),v4] H3:=fun n hn=>by
      refine ⟨_,rfl,x,t.LinkEnd,MG,_,rfl,Pg,T.aK,T.lK,by show 11 < 1000;decide,?_⟩
      rw [DC]
      obtain ⟨h4,m4⟩:=h3.set (dx:=MG) (pv:=Qn) (L':=eJ (aO L bs) bs) WY rfl rfl
      have e4:cQ (aO L bs).q (aO L bs).s (aO L bs).d n (aO L bs).b (aO L bs).k Qn tA pB (aO L bs).of (aO L bs).tk=(eJ (aO L bs) bs).fld Qn tA pB:=by rw [← hn];rfl
      rw [e4]
      have Su:=Uo.trans m4
      have YO:(eJ (aO L bs) bs).b=L.b:=Ki
      have l4k:rY (eJ (aO L bs) bs):=⟨Cc.k,Cc.o,Cc.t,Cc.p⟩
      have l4e:(eJ (aO L bs) bs).ev.length≤L.ev.length+3 * bs.length:=Qq
      have tk:bL L bs={ a9 (eJ (aO L bs) bs) with d:=(a9 (eJ (aO L bs) bs)).d+1 }:=rfl
      generalize eJ (aO L bs) bs=L4 at *
      generalize upd H3 x (.ins t.LinkEnd MG (L4.fld Qn tA pB))=H4 at *
      obtain ⟨Nr,pv4,Nt,aAS⟩:=h4.at_
      refine ⟨fun σ H'=>∃ B5 pC,σ=[some (V.ref x),some (V.ref cl),some (V.ref D),some (V.ref D2),v4]∧iQ B H B5 H' x tA pA tA pC∧bP t.LinkEnd B5 H' x tA pC (a9 L4),?_,?_⟩
      ·refine ⟨_,rfl,x,t.LinkEnd,Nr,_,_,rfl,Nt,T.aK,T.fS,oj,rfl,_,rfl,?_⟩
       by_cases Ur:L4.k=0
       ·refine vG (by rw [Ur]) (gu ?_)
        exact ⟨B3,pB,rfl,Su,by unfold a9;rw [if_neg (fun z=>z.1 Ur)];exact h4⟩
       ·refine yQ (fun z=>Ur (V.int.inj z)) ?_
        refine ⟨_,rfl,x,t.LinkEnd,Nr,_,_,rfl,Nt,T.aK,T.lK,yi,_,rfl,x,t.LinkEnd,Nr,_,_,rfl,Nt,T.aK,T.vh,FN,_,_,rfl,rfl,_,rfl,?_⟩
        by_cases Pn:L4.q≤L4.u
        ·refine fk Pn ?_
         refine ⟨_,rfl,x,Nr,_,rfl,Nt,rfl,B3,x,tA,pB,L4,rfl,h4,by omega,fun B5 H5 pC m5 h5=>?_⟩
         exact ⟨B5,pC,rfl,Su.trans m5,by unfold a9;rw [if_pos ⟨Ur,Pn⟩];exact h5⟩
        ·refine fj Pn ?_
         exact ⟨B3,pB,rfl,Su,by unfold a9;rw [if_neg (fun z=>Pn z.2)];exact h4⟩
      ·rintro σ H5 ⟨B5,pC,rfl,m5,h5⟩
       have l5:AU (a9 L4).b∧rY (a9 L4):=by
        refine ⟨?_,Bk l4k⟩
        unfold a9
        split
        ·rw [(Pm L4).1,YO]
         exact ⟨by omega,by omega⟩
        ·rw [YO]
         exact ⟨by omega,by omega⟩
       generalize a9 L4=L5 at *
       obtain ⟨Nu,Sv,Up,WZ⟩:=h5.at_
       refine ⟨_,rfl,x,t.LinkEnd,Nu,_,_,rfl,Up,T.aK,T.ug,DB,_,_,rfl,rfl,Nu,_,Up,by show 11 < 1000;decide,?_⟩
       rw [L0]
       obtain ⟨h6,m6⟩:=h5.set (dx:=Nu) (pv:=Sv) (L':={ L5 with d:=L5.d+1 }) WZ rfl rfl
       have h6:bP t.LinkEnd B5 (upd H5 x (.ins t.LinkEnd Nu (cQ L5.q L5.s (L5.d+1) L5.u L5.b L5.k Sv tA pC L5.of L5.tk))) x tA pC { L5 with d:=L5.d+1 }:=h6
       have m6:iQ B5 H5 B5 (upd H5 x (.ins t.LinkEnd Nu (cQ L5.q L5.s (L5.d+1) L5.u L5.b L5.k Sv tA pC L5.of L5.tk))) x tA pC tA pC:=m6
       generalize upd H5 x (.ins t.LinkEnd Nu (cQ L5.q L5.s (L5.d+1) L5.u L5.b L5.k Sv tA pC L5.of L5.tk))=H6 at *
       have YQ:=m5.trans m6
       obtain ⟨dx6,pv6,hx6,_⟩:=h6.at_
       have gl6:FX { L5 with d:=L5.d+1 }:=(rY.give (L:=L5) l5.2 l5.1)
       refine ⟨_,rfl,x,dx6,_,rfl,hx6,rfl,B5,x,tA,pC,_,rfl,h6,gl6,fun p H7 hp s7 e7=>?_⟩
       rw [tk] at q
       exact q B5 H7 pC p (YQ.same s7) (h6.same s7) (YQ.g p hp) (h6.sb.free hp) (fun z=>h6.hp (by rw [← z];exact hp)) e7
     refine ⟨_,rfl,_,.inl ⟨_,aY.of Uk,rfl⟩,?_⟩
     by_cases HX:bs=[]
     ·have Wa:ps=[]:=List.length_eq_zero_iff.mp (by rw [oQ,HX];rfl)
      rw [Wa]
      refine gu ?_
      refine ⟨_,rfl,x,t.LinkEnd,MG,_,_,rfl,Pg,T.aK,T.lK,yi,_,_,rfl,rfl,?_⟩
      exact tail _ (if_pos HX)
     ·have Wa:(!(ps.map V.ref).isEmpty)=true:=by
       cases ps with
       | nil=>exact absurd (List.length_eq_zero_iff.mp oQ.symm) HX
       | cons a r=>rfl
      rw [Wa]
      refine gw ?_
      exact tail _ (if_neg HX)
end
end K37
namespace K37
open PySem L2 PyProof.Rows
section
variable {P:Program} {w:World} {K:PySem.W.Frag} {mg:Str→Option Value} {base:Heap} {t:Ad}
def ot (q s:Int):Lk:=⟨q,s,0,0,1,0,none,[],[],0,0⟩
theorem MQ:aS ["self","measure","side"] ["self","measure","side"] (aG sL):=⟨rfl,rfl,rfl,by decide +kernel,rfl,by decide +kernel,by decide +kernel⟩
def Fb (K:PySem.W.Frag) (C:Addr):Sp:=fun vs H Q _=>∃ (B:Hp) (x dx ma:Addr) (a b sd:Int),vs=[.ref x,.ref ma,.int sd]∧H x=some (.ins C dx [])∧cP K H ma [.int a,.int b]∧Ui a b∧aI B H∧B x=none ∧
 ∀ (tA pA:Addr) (H':Hp),(∀ y o,y≠x→H y=some o→H' y=some o)→(∀ y,H' y=none→H y=none)→H tA=none→H pA=none→bP C B H' x tA pA (ot (a+b) sd)→Q .bq H'
theorem MR {fd BZ:FuncData} (T:Txt K mg t) (F:jh K "__init__" "LinkEnd.__init__" sL t.init fd) (pX:Def P w K mg base 3 "quiet_of" ["measure"] (uB K t.BadMeasure)) (cH:bV P w K mg base (iL P w) 1 t.cG BZ ["self"] (gB t.LinkEnd)) (cI:Binds K BZ ["self"] []) :
  bV P w K mg base (iL P w) 4 t.init fd ["self","measure","side"] (Fb K t.LinkEnd)∧Binds K fd ["self","measure","side"] []:=by
 refine ⟨F.pN MQ (fun vs H Q E h=>?_) (fun f be A outer s H vs Q E hr h=>?_),F.binds fun _ _ _ _ _ _ us hl=>match us,hl with | [_,_,_],_=>rfl⟩
 ·obtain ⟨B,x,dx,ma,a,b,sd,rfl,_⟩:=h
  rfl
 ·obtain ⟨B,x,dx,ma,a,b,sd,rfl,hx,Nw,hm,sB,bx,q⟩:=h
  refine ⟨_,aD (b6 K (pv 0) (aa (pX.mono (by decide)) hr (kH bC) (aA (pv 1) aC)) (by rfl)) (aD (b6 K (pv 0) (pv 2) (by rfl)) (aD (b6 K (pv 0) aF (by rfl)) (aD (b6 K (pv 0) aF (by rfl)) (aD (b6 K (pv 0) aF (by rfl)) (aD (b6 K (pv 0) (aV T.og) (by rfl)) (aD (b6 K (pv 0) fg (by rfl)) (aD (b6 K (pv 0) (bH aC) (by rfl))
   (aH (ay (dB (pv 0) T.aK T.kT (cH.mono (by decide)) hr cI .nil av)))))))))),?_⟩
  refine ⟨_,rfl,ma,a,b,rfl,Nw,dW (by have:=hm.1;omega) (by have:=hm.1;omega),dW (by have:=hm.2;omega) (by have:=hm.2;omega),fun _=>?_,fun z=>absurd hm z⟩
  refine ⟨_,rfl,x,t.LinkEnd,dx,_,rfl,hx,T.aK,T.vh,by show 0 < 1000;decide,?_⟩
  refine ⟨_,rfl,_,rfl,x,t.LinkEnd,dx,_,rfl,aB,T.aK,T.FJ,by show 1 < 1000;decide,?_⟩
  rw [iE]
  refine ⟨_,rfl,x,t.LinkEnd,dx,_,rfl,aB,T.aK,T.ug,by show 2 < 1000;decide,?_⟩
  rw [iE]
  refine ⟨_,rfl,x,t.LinkEnd,dx,_,rfl,aB,T.aK,T.lK,by show 3 < 1000;decide,?_⟩
  rw [iE]
  refine ⟨_,rfl,x,t.LinkEnd,dx,_,rfl,aB,T.aK,T.kS,by show 4 < 1000;decide,?_⟩
  rw [iE]
  refine ⟨_,rfl,x,t.LinkEnd,dx,_,rfl,aB,T.aK,T.fS,by show 5 < 1000;decide,?_⟩
  rw [iE]
  refine ⟨_,rfl,x,t.LinkEnd,dx,_,rfl,aB,T.aK,T.fT,by show 6 < 1000;decide,?_⟩
  rw [iE]
  refine ⟨by show 0≤sizeLine;decide,fun tA Us=>?_⟩
  have Pe:x≠tA:=fun z=>by rw [← z,aB] at Us;cases Us
  have S8:H tA=none:=by rw [aE (Ne.symm Pe)] at Us;exact Us
  refine ⟨_,rfl,x,t.LinkEnd,dx,_,rfl,by rw [aE Pe];exact aB,T.aK,T.lL,by show 7 < 1000;decide,?_⟩
  refine ⟨_,rfl,x,dx,_,rfl,aB,rfl,x,dx,_,rfl,aB,by show 8 < 900;decide,fun pA Qr=>?_⟩
  have L7:x≠pA:=fun z=>by rw [← z,aB] at Qr;cases Qr
  have Sj:tA≠pA:=fun z=>by rw [← z,aE (Ne.symm Pe),aB] at Qr;cases Qr
  have Kj:H pA=none:=by rw [aE (Ne.symm L7),aE (Ne.symm Sj),aE (Ne.symm L7)] at Qr;exact Qr
  refine q tA pA _ (fun y o n e=>?_) (fun y hy=>?_) S8 Kj ⟨?_,bx,sB.free S8,sB.free Kj,⟨dx,.bq,aB,rfl⟩,⟨fun _=>0,?_,fun y e he=>by cases he⟩,⟨fun _=>0,?_,fun y e he=>by cases he⟩,Sj⟩
  ·rw [aE n,aE (aM e Kj),aE n,aE (aM e S8),aE n];exact e
  ·by_cases z1:y=x
   ·rw [z1,aB] at hy;cases hy
   ·by_cases z2:y=pA
    ·rw [z2];exact Kj
    ·by_cases z3:y=tA
     ·rw [z3];exact S8
     ·rw [aE z1,aE z2,aE z1,aE z3,aE z1] at hy;exact hy
  ·intro y o e
   have n:y≠x:=fun z=>by rw [z,bx] at e;cases e
   have e:=sB _ _ e
   rw [aE n,aE (aM e Kj),aE n,aE (aM e S8),aE n];exact e
  ·rw [aE (Ne.symm Pe),aE Sj,aE (Ne.symm Pe)];exact aB
  ·rw [aE (Ne.symm L7)];exact aB
end
end K37
namespace K37
open PySem L2 PyProof.Rows
section
variable {P:Program} {w:World} {K:PySem.W.Frag} {mg:Str→Option Value} {base:Heap} {t:Ad}
def xX (ns:List Int):Prop:=(1≤ns.length∧ns.length≤10)∧∀ n ∈ ns,Hi n
def o8 (K:PySem.W.Frag) (C:Addr):Sp:=fun vs H Q E=>∃ (l:Addr) (ns:List Int),vs=[.ref l]∧aY K H l (ns.map V.int)∧(∀ n ∈ ns,n.natAbs < 2 ^ 1000)∧(xX ns→Q .bq H)∧(¬ xX ns→E (.ref C) none H)
theorem o9:aS ["piece","sign"] ["piece"] (aG iI):=⟨rfl,rfl,rfl,by decide +kernel,rfl,by decide +kernel,by decide +kernel⟩
theorem xY (F:aR K mg "look_piece" iI) (T:Txt K mg t) (f6:Def P w K mg base 1 "is_sign" ["number"] lN):Def P w K mg base 2 "look_piece" ["piece"] (o8 K t.BadPiece):=by
 refine F.def o9 (fun _ _ _ _ _ _ us hl=>match us,hl with | [_],_=>rfl) (fun vs H Q E h=>?_) (fun f be A outer s H vs Q E hr h=>?_)
 ·obtain ⟨l,ns,rfl,_⟩:=h
  rfl
 ·obtain ⟨l,ns,rfl,hl,hb,q1,q2⟩:=h
  refine ⟨_,aD (bu (pG (uz uy uy aF (bR (bY K) (by rfl) T.iZ boot_len (aA (pv 0) aC)) (aV T.m9)))
    (aH (eF bC rfl rfl T.yc T.yd PySem.F.excBase_ValueError (aA (jQ (bT cT (bT (fH (aV T.m9)) (bT cT mr)))) aC)))
    (bD))
   (aH (cq (Ou bC) rfl (cC K (pv 0)) (az (i:=1) o9.nd rfl (Or.inl rfl))
    (aH (bu (pG (rg (aa (f6.mono (by decide)) hr av (aA (pv 1) aC))))
     (aH (eF bC rfl rfl T.yc T.yd PySem.F.excBase_ValueError (aA (jQ (bT (fH (pv 1)) (bT cT mr))) aC)))
     (bD))))),?_⟩
  have sl:(3000:Nat)≤sizeLine:=by decide
  have z10:=fU (i:=10) (by decide)
  have l1:("a piece has 1 to ":Str).length=17:=by decide +kernel
  have l2:(" signs":Str).length=6:=by decide +kernel
  have e0:(Str.empty ++ ("a piece has 1 to ":Str)).length≤17:=by rw [strLen_append,l1];show 0+17≤17;omega
  have e1:((Str.empty ++ ("a piece has 1 to ":Str)) ++ Str.ofString (toString (10:Int))).length≤1018:=by rw [strLen_append];omega
  have e2:(((Str.empty ++ ("a piece has 1 to ":Str)) ++ Str.ofString (toString (10:Int))) ++ (" signs":Str)).length≤1024:=by rw [strLen_append];omega
  refine ⟨_,rfl,l,_,rfl,.inl hl,_,_,rfl,rfl,_,rfl,?_⟩
  rw [List.length_map]
  by_cases h1:(1:Int)≤(ns.length:Nat)
  ·refine fk h1 ?_
   refine ⟨_,_,rfl,rfl,_,rfl,?_⟩
   by_cases h2:((ns.length:Nat):Int)≤10
   ·rw [decide_eq_true h2]
    refine gu ?_
    refine ⟨_,rfl,l,rfl,⟨_,hl⟩,iT (K:=K) (a:=l) (xs:=ns.map V.int) (fun i σ H'=>∃ x:Option V,σ=[some (.ref l),x]∧H'=H∧∀ n ∈ ns.take i,Hi n) ⟨none,rfl,rfl,fun n hn=>by simp at hn⟩ (fun i σ H' _ ⟨_,_,e,_⟩=>by rw [e];exact hl) ?_ ?_⟩
    ·rintro i y σ H' hi ⟨x,rfl,rfl,ha⟩
     obtain ⟨z,hz,rfl⟩:=oU hi
     have PQ:z ∈ ns:=List.mem_of_getElem? hz
     refine ⟨_,rfl,z,rfl,_,rfl,?_⟩
     by_cases h0:0≤z∧z < 97
     ·rw [decide_eq_true h0]
      refine gu ⟨some (.int z),rfl,rfl,?_⟩
      rw [take_succ hz]
      intro n hn
      rcases List.mem_append.mp hn with z1 | z1
      ·exact ha n z1
      ·rw [List.mem_singleton.mp z1];exact h0
     ·rw [decide_eq_false h0]
      refine gw ?_
      have YA:=fU (hb z PQ)
      have f0:(Str.empty ++ Str.ofString (toString z)).length≤1001:=by rw [strLen_append];show 0+_≤1001;omega
      have f1:((Str.empty ++ Str.ofString (toString z)) ++ (" is no sign":Str)).length≤2000:=by
       have:(" is no sign":Str).length=11:=by decide +kernel
       rw [strLen_append];omega
      refine ⟨_,rfl,z,rfl,dH (hb z PQ) (by decide) (by decide),_,rfl,by omega,_,rfl,by omega,by omega,?_⟩
      exact ⟨by show 1≤sizeLine;decide,q2 fun r=>h0 (r.2 z PQ)⟩
    ·rintro σ H' ⟨x,rfl,rfl,ha⟩
     rw [List.length_map,List.take_length] at ha
     exact q1 ⟨⟨by omega,by omega⟩,ha⟩
   ·rw [decide_eq_false h2]
    refine gw ?_
    refine ⟨_,rfl,by omega,10,rfl,dH (n:=1000) (by decide) (by decide) (by decide),_,rfl,by omega,_,rfl,by omega,by omega,?_⟩
    exact ⟨by show 1≤sizeLine;decide,q2 fun r=>h2 (by have:=r.1.2;omega)⟩
  ·refine fj h1 ?_
   refine ⟨_,rfl,gw ?_⟩
   refine ⟨_,rfl,by omega,10,rfl,dH (n:=1000) (by decide) (by decide) (by decide),_,rfl,by omega,_,rfl,by omega,by omega,?_⟩
   exact ⟨by show 1≤sizeLine;decide,q2 fun r=>h1 (by have:=r.1.1;omega)⟩
def Jc (K:PySem.W.Frag) (C N Bp:Addr):Sp:=fun vs H Q E=>∃ (B:Hp) (x tA pA l:Addr) (L:Lk) (ns:List Int),vs=[.ref x,.ref l]∧bP C B H x tA pA L∧L.bE.length < 1000000∧aY K H l (ns.map V.int)∧(∀ n ∈ ns,n.natAbs < 2 ^ 1000) ∧
 (L.p=none→E (.ref N) none H)∧(L.p≠none→¬ xX ns→E (.ref Bp) none H)∧(L.p≠none→xX ns→∀ B' H',iQ B H B' H' x tA pA tA pA→bP C B' H' x tA pA { L with bE:=L.bE ++ [ns] }→Q .bq H')
theorem Po:aS ["self","piece"] ["self","piece"] (aG yZ):=⟨rfl,rfl,rfl,by decide +kernel,rfl,by decide +kernel,by decide +kernel⟩
theorem Pp {fd:FuncData} (T:Txt K mg t) (F:jh K "put" "LinkEnd.put" yZ t.BB fd) (lZ:Def P w K mg base 2 "look_piece" ["piece"] (o8 K t.BadPiece)) :
  bV P w K mg base (iL P w) 3 t.BB fd ["self","piece"] (Jc K t.LinkEnd t.NoLink t.BadPiece)∧Binds K fd ["self","piece"] []:=by
 refine ⟨F.pN Po (fun vs H Q E h=>?_) (fun f be A outer s H vs Q E hr h=>?_),F.binds fun _ _ _ _ _ _ us hl=>match us,hl with | [_,_],_=>rfl⟩
 ·obtain ⟨B,x,tA,pA,l,L,ns,rfl,_⟩:=h
  rfl
 ·obtain ⟨B,x,tA,pA,l,L,ns,rfl,h,hlen,hl,hb,q1,q2,q3⟩:=h
  refine ⟨_,aD (bu (aj yx (ai K (pv 0) (by rfl)) fg (au _))
    (aH (eF bC rfl rfl T.Ll T.Lm PySem.F.excBase_ValueError (aA cT aC)))
    (bD))
   (aD (ay (aa (lZ.mono (by decide)) hr (kH bC) (aA (pv 1) aC)))
   (aH (ay (jj K PySem.F.plainAttrs_list PySem.F.slot_list_append PySem.F.type_list_append cV (ai K (pv 0) (by rfl)) (aA (fh (fo K) (by rfl) T.pQ boot_list (aA (pv 1) aC)) aC))))),?_⟩
  have ox:(1000001:Nat)≤sizeLine:=by decide
  obtain ⟨dx,pv,hx,hp⟩:=h.at_
  obtain ⟨df,g3,rX⟩:=h.bE
  refine ⟨_,rfl,x,t.LinkEnd,dx,_,_,rfl,hx,T.aK,T.fT,nL,rfl,_,rfl,?_⟩
  cases ep:L.p with
  | none =>
   rw [ep] at hp
   have hp:pv=.bq:=hp
   subst hp
   refine fk rfl ?_
   exact ⟨by show 1≤sizeLine;decide,q1 ep⟩
  | some p =>
   have hn:L.p≠none:=by rw [ep];exact fun z=>by cases z
   rw [ep] at hp
   obtain ⟨pa,rfl,FL⟩:=hp
   refine fj (fun z=>by cases z) ?_
   refine ⟨_,rfl,l,ns,rfl,hl,hb,fun PZ=>?_,fun z=>q2 hn z⟩
   refine ⟨_,rfl,x,t.LinkEnd,dx,_,_,rfl,hx,T.aK,T.fz,kZ,.inl ⟨rfl,_,aY.of g3⟩,?_⟩
   refine ⟨_,rfl,l,_,rfl,.inl hl,fun c hc=>?_⟩
   have s1:aI H (upd H c (.lst (ns.map V.int))):=(aI.refl _).new hc
   obtain ⟨h1,m1⟩:=h.grow (o:=.lst (ns.map V.int)) s1 hc aB
   refine ⟨pA,_,_,rfl,rfl,s1 _ _ g3,by rw [aL];omega,?_⟩
   have bc:(upd B c (.lst (ns.map V.int))) c=some (.lst (ns.map V.int)):=aB
   have g31:=s1 _ _ g3
   generalize upd H c (.lst (ns.map V.int))=H1 at *
   have sB:=m1.bb
   generalize upd B c (.lst (ns.map V.int))=B1 at *
   obtain ⟨vv,MA,xN,BN⟩:=h1.at_
   obtain ⟨jK,g2,xP⟩:=h1.told
   rw [dF]
   refine q3 hn PZ B1 _ (m1.trans ⟨aI.refl _,fun _ _ z=>z,fun y o _ _ n3 e=>by rw [aE n3];exact e,fun b hb=>ic hb h1.hp,.inl rfl,.inl rfl⟩) ⟨h1.sb.put h1.bp,h1.bx,h1.bt,h1.bp,⟨vv,MA,by rw [aE h.xp];exact xN,BN⟩,⟨jK,by rw [aE h.ne];exact g2,xP⟩,⟨fun k=>if k=L.bE.length then c else df k,?_,fun y xs hy=>?_⟩,h.ne⟩
   ·rw [aB]
    show some (HO.lst (bW (L.bE.length+1) _))=some (HO.lst (bW (L.bE ++ [ns]).length _))
    rw [List.length_append];rfl
   ·have hy:(L.bE ++ [ns])[y]?=some xs:=hy
    by_cases z:y=L.bE.length
    ·rw [z,List.getElem?_append_right (Nat.le_refl _),Nat.sub_self] at hy
     cases hy
     simp only [z,if_true]
     exact bc
    ·have Sh:y < (L.bE ++ [ns]).length:=(List.getElem?_eq_some_iff.mp hy).1
     rw [List.length_append] at Sh
     have Si:y < L.bE.length:=by simp at Sh;omega
     rw [List.getElem?_append_left Si] at hy
     simp only [z,if_false]
     exact sB _ _ (rX y xs hy)
end
end K37
namespace K37
open PySem L2 PyProof.Rows
section
variable {P:Program} {w:World} {K:PySem.W.Frag} {mg:Str→Option Value} {base:Heap} {t:Ad}
abbrev Pr:=Int × Int
def own (s:Nat) (P:Pr):Int:=if s=0 then P.1 else P.2
def AV (s:Nat) (P:Pr):Int:=if s=0 then P.2 else P.1
def pr (s:Nat) (b k:Int):Pr:=if s=0 then (b,k) else (k,b)
theorem nM (s:Nat) (b k:Int):own s (pr s b k)=b:=by unfold own pr;split <;> rfl
theorem su (s:Nat) (b k:Int):AV s (pr s b k)=k:=by unfold AV pr;split <;> rfl
theorem MS {s:Nat} (h:s < 2) (b k:Int):pr (1 - s) b k=pr s k b:=by
 match s,h with
 | 0,_=>rfl
 | 1,_=>rfl
 | s+2,h=>omega
structure Gh where
 W:Nat→Pr→List (List Int)
 O:Nat→Pr→Nat
 K:Nat→Pr→Nat
 U:Nat→Pr→Prop
def Unr (s:Nat) (L:Lk) (P:Pr):Prop:=L.b < own s P∨(own s P=L.b∧L.k < AV s P)
structure nN (G:Gh) (s:Nat) (P:Pr):Prop where
 w:G.W s P=[]
 o:G.O s P=0
 k:G.K s P=0
 u:¬ G.U s P
structure En (G:Gh) (s:Nat) (L:Lk):Prop where
 sd:L.s=(s:Int)
 o:L.of=(G.O s (pr s L.b L.k):Int) % 97
 t:L.tk=(G.K s (pr s L.b L.k):Int) % 97
 p:L.bE=(G.W s (pr s L.b L.k)).drop (G.O s (pr s L.b L.k))
 ow:G.O s (pr s L.b L.k)≤(G.W s (pr s L.b L.k)).length
 dn:L.p=none→nN G s (pr s L.b L.k)
 up:∀ x,L.p=some x→x=pr s L.b L.k∧G.U s (pr s L.b L.k)
 un:∀ P,Unr s L P→nN G s P
 um:∀ P,G.U s P→own s P≤L.b∧(own s P=L.b→AV s P≤L.k)
def Rel (G:Gh):Prop:=∀ s,s < 2→∀ P,G.O s P≤G.K (1 - s) P∧G.K (1 - s) P≤G.O s P+1∧G.K (1 - s) P≤(G.W s P).length
structure dr (G:Gh) (s:Nat) (a:Cl) (ym:Nat):Prop where
 ex:∃ nc cc:Nat,a.n=(nc:Int) % 97∧a.c=(cc:Int) % 97∧nc≤G.O s (pr s a.b a.k)∧cc≤G.K s (pr s a.b a.k)∧G.O s (pr s a.b a.k)≤nc+ym∧G.K s (pr s a.b a.k)≤cc+ym∧(a.xs=[]∨(G.W s (pr s a.b a.k))[nc]?=some a.xs)
 m:∀ P,G.U (1 - s) P→own (1 - s) P < a.k→AV (1 - s) P≤a.b
def cR {α:Type} (f:Nat→Pr→α) (s:Nat) (P:Pr) (v:α):Nat→Pr→α:=fun i Q=>if i=s∧Q=P then v else f i Q
theorem bJ {α:Type} {f:Nat→Pr→α} {s:Nat} {P:Pr} {v:α}:cR f s P v s P=v:=if_pos ⟨rfl,rfl⟩
theorem bj {α:Type} {f:Nat→Pr→α} {s i:Nat} {P Q:Pr} {v:α} (h:¬ (i=s∧Q=P)):cR f s P v i Q=f i Q:=if_neg h
structure Wt where
 p:Option Pr
 k:Pr→Nat
 u:Pr→Prop
def wt (G:Gh) (s:Nat) (L:Lk):Wt:=⟨L.p,G.K s,G.U s⟩
inductive pD (W:Pr→List (List Int)):Wt→List Ev→Wt→Prop
 | nil (a):pD W a [] a
 | up {a b:Wt} {es:List Ev} {x:Pr} (h:pD W a es b) (hp:b.p=none) (hu:¬ b.u x) (hm:∀ P,b.u P→P.1≤x.1∧P.2≤x.2) (hz:b.k x=0):pD W a (es ++ [.mk "up" x []]) ⟨some x,b.k,fun P=>P=x∨b.u P⟩
 | anew {a b:Wt} {es:List Ev} {x:Pr} (h:pD W a es b) (hp:b.p=some x):pD W a (es ++ [.mk "anew" x []]) ⟨none,b.k,b.u⟩
 | YR {a b:Wt} {es:List Ev} {x:Pr} {f e:Int} (h:pD W a es b) (hp:b.p=some x):pD W a (es ++ [.mk "silent" x [f,e]]) ⟨none,b.k,b.u⟩
 | took {a b:Wt} {es:List Ev} {x:Pr} {xs:List Int} (h:pD W a es b) (hp:b.p=some x) (hw:(W x)[b.k x]?=some xs):pD W a (es ++ [.took xs]) ⟨b.p,fun P=>if P=x then b.k x+1 else b.k P,b.u⟩
structure jL (r:Nat) (b:Int) (G G':Gh):Prop where
 w:G'.W=G.W
 o:∀ i,i≠r→G'.O i=G.O i
 k:∀ i,i≠r→G'.K i=G.K i
 u:∀ i,i≠r→G'.U i=G.U i
 om:∀ P,G.O r P≤G'.O r P
 km:∀ P,G.K r P≤G'.K r P
 un:∀ P,G'.U r P→G.U r P∨own r P=b
theorem jL.refl {r:Nat} {b:Int} {G:Gh}:jL r b G G:=⟨rfl,fun _ _=>rfl,fun _ _=>rfl,fun _ _=>rfl,fun _=>Nat.le_refl _,fun _=>Nat.le_refl _,fun _ h=>.inl h⟩
theorem jL.trans {r:Nat} {β:Int} {G G1 G2:Gh} (a:jL r β G G1) (b:jL r β G1 G2):jL r β G G2 :=
 ⟨b.w.trans a.w,fun i h=>(b.o i h).trans (a.o i h),fun i h=>(b.k i h).trans (a.k i h),fun i h=>(b.u i h).trans (a.u i h),fun P=>Nat.le_trans (a.om P) (b.om P),fun P=>Nat.le_trans (a.km P) (b.km P),fun P h=>(b.un P h).elim (a.un P) .inr⟩
theorem dr.grow {r:Nat} {β:Int} {G G':Gh} (g:jL r β G G') {s:Nat} (hs:s≠r) (hr:r=1 - s) {a:Cl} {ym:Nat} (hk:a.k≤β) (h:dr G s a ym):dr G' s a ym:=by
 obtain ⟨nc,cc,h1⟩:=h.ex
 refine ⟨⟨nc,cc,by rw [g.o s hs,g.k s hs,g.w];exact h1⟩,fun P hP ho=>?_⟩
 subst hr
 rcases g.un P hP with z | z
 ·exact h.m P z ho
 ·omega
theorem TB {s:Nat} {P:Pr} {b k:Int} (h1:own s P≤b) (h2:AV s P≤k):P.1≤(pr s b k).1∧P.2≤(pr s b k).2:=by
 unfold own AV at *
 unfold pr
 split
 ·rename_i z;rw [if_pos z] at h1 h2;exact ⟨h1,h2⟩
 ·rename_i z;rw [if_neg z] at h1 h2;exact ⟨h2,h1⟩
theorem fD {G:Gh} {s:Nat} {L:Lk} (sd:L.s=(s:Int)) (fr:nN G s (pr s L.b L.k)) (h1:L.p=none) (h2:L.bE=[]) (h3:L.of=0) (h4:L.tk=0) (un:∀ P,Unr s L P→nN G s P) (um:∀ P,G.U s P→own s P≤L.b∧(own s P=L.b→AV s P≤L.k)):En G s L :=
 ⟨sd,by rw [fr.o,h3];rfl,by rw [fr.k,h4];rfl,by rw [fr.w,h2,List.drop_nil],by rw [fr.o];exact Nat.zero_le _,fun _=>fr,fun x hx=>(by rw [h1] at hx;cases hx),un,um⟩
theorem En.zero {G:Gh} {s:Nat} {L:Lk} (h:En G s L) (hp:L.p=none):L.bE=[]∧L.of=0∧L.tk=0:=by
 have fr:=h.dn hp
 refine ⟨by rw [h.p,fr.w,List.drop_nil],by rw [h.o,fr.o];rfl,by rw [h.t,fr.k];rfl⟩
section
variable {G:Gh} {s r ym:Nat} {L:Lk} {a:Cl}
theorem En.meet {A:Wt} {es0:List Ev} {W:Pr→List (List Int)} (h:En G s L) {n:Int} (hn:L.k≤n) (ht:pD W A L.ev (wt G s L)):En G s (aw L n)∧pD W A (aw L n).ev (wt G s (aw L n))∧(aw L n).b=L.b∧(aw L n).k=n:=by
 have mb:=sj L n
 by_cases e:L.k=n
 ·have em:aw L n=L:=by
   unfold aw
   obtain ⟨q,s,d,u,b,k,p,ev,bE,of,tk⟩:=L
   simp only at e
   subst e
   cases p with
   | none=>rfl
   | some x=>simp only;rw [if_neg (by omega)]
  rw [em];exact ⟨h,ht,rfl,e⟩
 ·have et:L.k < n:=by omega
  have ur:Unr s L (pr s L.b n):=.inr ⟨nM _ _ _,by rw [su];exact et⟩
  have TC:∀ P,Unr s { L with k:=n } P→nN G s P:=fun P hP=>h.un P (by
   rcases hP with z | ⟨z1,z2⟩
   ·exact .inl z
   ·exact .inr ⟨z1,by have z2:n < AV s P:=z2;omega⟩)
  have TF:∀ P,G.U s P→own s P≤L.b∧(own s P=L.b→AV s P≤n):=fun P hP=>⟨(h.um P hP).1,fun z=>by have:=(h.um P hP).2 z;omega⟩
  cases ep:L.p with
  | none =>
   obtain ⟨z1,z2,z3⟩:=h.zero ep
   have em:aw L n={ L with k:=n }:=by unfold aw;rw [ep]
   rw [em]
   exact ⟨fD h.sd (h.un _ ur) ep z1 z2 z3 TC TF,ht,rfl,rfl⟩
  | some x =>
   have em:aw L n={ L with p:=none,bE:=[],of:=0,tk:=0,k:=n,ev:=L.ev ++ [.mk "anew" x []] }:=by unfold aw;rw [ep];simp only;rw [if_pos et]
   rw [em]
   refine ⟨fD h.sd (h.un _ ur) rfl rfl rfl rfl TC TF,?_,rfl,rfl⟩
   exact pD.anew (b:=wt G s L) ht ep
theorem En.Wb {A:Wt} {W:Pr→List (List Int)} (h:En G s L) (hm:∀ P,G.U s P→own s P < L.b→AV s P≤L.k) (ht:pD W A L.ev (wt G s L)):∃ G',En G' s (bA L)∧jL s L.b G G'∧G'.O=G.O∧G'.K=G.K∧pD W A (bA L).ev (wt G' s (bA L))∧(bA L).b=L.b∧(bA L).k=L.k∧(bA L).p≠none:=by
 cases ep:L.p with
 | some x =>
  have ec:bA L=L:=by unfold bA;rw [ep]
  rw [ec]
  exact ⟨G,h,jL.refl,rfl,rfl,ht,rfl,rfl,by rw [ep];exact fun z=>by cases z⟩
 | none =>
  have epr:(if L.s=0 then (L.b,L.k) else (L.k,L.b))=pr s L.b L.k:=by
   unfold pr
   rw [h.sd]
   by_cases z:s=0
   ·rw [if_pos z,if_pos (by omega)]
   ·rw [if_neg z,if_neg (by omega)]
  have ec:bA L={ L with p:=some (pr s L.b L.k),ev:=L.ev ++ [.mk "up" (pr s L.b L.k) []] }:=by unfold bA;rw [ep];simp only;rw [epr]
  rw [ec]
  have fr:=h.dn ep
  have pk:∀ P,Unr s L P→P≠pr s L.b L.k:=fun P hP z=>by
   rw [z] at hP
   rcases hP with y | ⟨_,y⟩
   ·rw [nM] at y;omega
   ·rw [su] at y;omega
  refine ⟨⟨G.W,G.O,G.K,fun i P=>(i=s∧P=pr s L.b L.k)∨G.U i P⟩,⟨h.sd,h.o,h.t,h.p,h.ow,(fun z=>by cases z),fun x hx=>?_,fun P hP=>?_,fun P hP=>hP.elim (fun y=>by rw [y.2,nM,su];exact ⟨Int.le_refl _,fun _=>Int.le_refl _⟩) (h.um P)⟩,⟨rfl,fun _ _=>rfl,fun _ _=>rfl,fun i hi=>?_,fun _=>Nat.le_refl _,fun _=>Nat.le_refl _,fun P hP=>hP.elim (fun y=>.inr (by rw [y.2,nM])) .inl⟩,rfl,rfl,?_,rfl,rfl,(fun z=>by cases z)⟩
  ·cases hx;exact ⟨rfl,.inl ⟨rfl,rfl⟩⟩
  ·have f:=h.un P hP
   exact ⟨f.w,f.o,f.k,fun z=>z.elim (fun y=>pk P hP y.2) f.u⟩
  ·funext P
   show ((i=s∧P=pr s L.b L.k)∨G.U i P)=G.U i P
   rw [eq_iff_iff]
   exact ⟨fun z=>z.elim (fun y=>absurd y.1 hi) id,.inr⟩
  ·have:=pD.up (x:=pr s L.b L.k) (b:=wt G s L) ht ep fr.u (fun P hP=>TB (h.um P hP).1 (by
    have a1:=(h.um P hP).1
    by_cases z:own s P=L.b
    ·exact (h.um P hP).2 z
    ·exact hm P hP (by omega))) fr.k
   have e2:(wt ⟨G.W,G.O,G.K,fun i P=>(i=s∧P=pr s L.b L.k)∨G.U i P⟩ s { L with p:=some (pr s L.b L.k),ev:=L.ev ++ [.mk "up" (pr s L.b L.k) []] })=⟨some (pr s L.b L.k),(wt G s L).k,fun P=>P=pr s L.b L.k∨(wt G s L).u P⟩:=by
    unfold wt
    congr 1
    funext P
    show ((s=s∧P=pr s L.b L.k)∨G.U s P)=(P=pr s L.b L.k∨G.U s P)
    rw [eq_iff_iff]
    exact ⟨fun z=>z.elim (fun y=>.inl y.2) .inr,fun z=>z.elim (fun y=>.inl ⟨rfl,y⟩) .inr⟩
   rw [e2]
   exact this
theorem En.Wc {A:Wt} {W:Pr→List (List Int)} (hs:s < 2) (h:En G s L) (rel:Rel G) (hu:L.p≠none) (c:Int) (cc:Nat) (hc:c=(cc:Int) % 97) (h1:cc≤G.K (1 - s) (pr s L.b L.k)) (h2:G.K (1 - s) (pr s L.b L.k)≤cc+8) (ht:pD W A L.ev (wt G s L)) :
  ∃ G',En G' s (bB L c)∧Rel G'∧jL s L.b G G'∧pD W A (bB L c).ev (wt G' s (bB L c))∧(bB L c).b=L.b∧(bB L c).k=L.k∧(bB L c).p=L.p:=by
 by_cases z:L.bE≠[]∧c=(L.of+1) % 97
 ·obtain ⟨z1,z2⟩:=z
  have eh:bB L c={ L with bE:=L.bE.tail,of:=(L.of+1) % 97 }:=if_pos ⟨z1,z2⟩
  rw [eh]
  obtain ⟨r1,r2,r3⟩:=rel s hs (pr s L.b L.k)
  have ho:=h.o
  have e1:cc=G.O s (pr s L.b L.k)+1:=by rw [hc,ho] at z2;omega
  have e2:G.K (1 - s) (pr s L.b L.k)=G.O s (pr s L.b L.k)+1:=by omega
  have et:G.O s (pr s L.b L.k) < (G.W s (pr s L.b L.k)).length:=by omega
  have pk:∀ P,Unr s L P→P≠pr s L.b L.k:=fun P hP y=>by
   rw [y] at hP
   rcases hP with w | ⟨_,w⟩
   ·rw [nM] at w;omega
   ·rw [su] at w;omega
  refine ⟨⟨G.W,cR G.O s (pr s L.b L.k) (G.O s (pr s L.b L.k)+1),G.K,G.U⟩,⟨h.sd,?_,h.t,?_,?_,fun y=>absurd y hu,h.up,fun P hP=>?_,h.um⟩,?_,⟨rfl,fun i hi=>?_,fun _ _=>rfl,fun _ _=>rfl,fun P=>?_,fun _=>Nat.le_refl _,fun _ h=>.inl h⟩,ht,rfl,rfl,rfl⟩
  ·show (L.of+1) % 97=((cR G.O s (pr s L.b L.k) (G.O s (pr s L.b L.k)+1) s (pr s L.b L.k):Nat):Int) % 97
   rw [bJ,ho];omega
  ·show L.bE.tail=(G.W s (pr s L.b L.k)).drop (cR G.O s (pr s L.b L.k) (G.O s (pr s L.b L.k)+1) s (pr s L.b L.k))
   rw [bJ,h.p,List.tail_drop]
  ·show cR G.O s (pr s L.b L.k) (G.O s (pr s L.b L.k)+1) s (pr s L.b L.k)≤_
   rw [bJ];exact et
  ·have f:=h.un P hP
   exact ⟨f.w,by show cR G.O s (pr s L.b L.k) _ s P=0;rw [bj (fun y=>pk P hP y.2)];exact f.o,f.k,f.u⟩
  ·intro i hi P
   show cR G.O s (pr s L.b L.k) (G.O s (pr s L.b L.k)+1) i P≤G.K (1 - i) P∧G.K (1 - i) P≤cR G.O s (pr s L.b L.k) (G.O s (pr s L.b L.k)+1) i P+1∧G.K (1 - i) P≤(G.W i P).length
   by_cases y:i=s∧P=pr s L.b L.k
   ·rw [y.1,y.2,bJ]
    exact ⟨by omega,by omega,r3⟩
   ·rw [bj y];exact rel i hi P
  ·funext P
   exact bj fun y=>hi y.1
  ·show G.O s P≤cR G.O s (pr s L.b L.k) (G.O s (pr s L.b L.k)+1) s P
   by_cases y:P=pr s L.b L.k
   ·rw [y,bJ];omega
   ·rw [bj (fun w=>y w.2)];exact Nat.le_refl _
 ·have eh:bB L c=L:=if_neg z
  rw [eh]
  exact ⟨G,h,rel,jL.refl,ht,rfl,rfl,rfl⟩
theorem En.take {A:Wt} (hs:s < 2) (h:En G s L) (rel:Rel G) (hu:L.p≠none) (n:Int) (xs:List Int) (nc:Nat) (hn:n=(nc:Int) % 97) (h1:nc≤G.O (1 - s) (pr s L.b L.k)) (h2:G.O (1 - s) (pr s L.b L.k)≤nc+8) (hx:xs=[]∨(G.W (1 - s) (pr s L.b L.k))[nc]?=some xs) (ht:pD (G.W (1 - s)) A L.ev (wt G s L)) :
  ∃ G',En G' s (bO L n xs)∧Rel G'∧jL s L.b G G'∧pD (G.W (1 - s)) A (bO L n xs).ev (wt G' s (bO L n xs))∧(bO L n xs).b=L.b∧(bO L n xs).k=L.k∧(bO L n xs).p=L.p:=by
 by_cases z:xs≠[]∧n=L.tk
 ·obtain ⟨z1,z2⟩:=z
  have eh:bO L n xs={ L with ev:=L.ev ++ [.took xs],tk:=(L.tk+1) % 97 }:=if_pos ⟨z1,z2⟩
  rw [eh]
  have zp:1 - s < 2:=by omega
  have Bl:1 - (1 - s)=s:=by omega
  obtain ⟨r1,r2,r3⟩:=rel (1 - s) zp (pr s L.b L.k)
  rw [Bl] at r1 r2 r3
  have ho:=h.t
  have e1:nc=G.K s (pr s L.b L.k):=by rw [hn,ho] at z2;omega
  have hw:(G.W (1 - s) (pr s L.b L.k))[G.K s (pr s L.b L.k)]?=some xs:=by rw [← e1];exact hx.resolve_left z1
  have et:G.K s (pr s L.b L.k) < (G.W (1 - s) (pr s L.b L.k)).length:=(List.getElem?_eq_some_iff.mp hw).1
  have pk:∀ P,Unr s L P→P≠pr s L.b L.k:=fun P hP y=>by
   rw [y] at hP
   rcases hP with w | ⟨_,w⟩
   ·rw [nM] at w;omega
   ·rw [su] at w;omega
  obtain ⟨x,ex⟩:∃ x,L.p=some x:=by
   cases e:L.p with
   | none=>exact absurd e hu
   | some x=>exact ⟨x,rfl⟩
  have Pq:=(h.up x ex).1
  refine ⟨⟨G.W,G.O,cR G.K s (pr s L.b L.k) (G.K s (pr s L.b L.k)+1),G.U⟩,⟨h.sd,h.o,?_,h.p,h.ow,fun y=>absurd y hu,h.up,fun P hP=>?_,h.um⟩,?_,⟨rfl,fun _ _=>rfl,fun i hi=>?_,fun _ _=>rfl,fun _=>Nat.le_refl _,fun P=>?_,fun _ h=>.inl h⟩,?_,rfl,rfl,rfl⟩
  ·show (L.tk+1) % 97=((cR G.K s (pr s L.b L.k) (G.K s (pr s L.b L.k)+1) s (pr s L.b L.k):Nat):Int) % 97
   rw [bJ,ho];omega
  ·have f:=h.un P hP
   exact ⟨f.w,f.o,by show cR G.K s (pr s L.b L.k) _ s P=0;rw [bj (fun y=>pk P hP y.2)];exact f.k,f.u⟩
  ·intro i hi P
   show G.O i P≤cR G.K s (pr s L.b L.k) (G.K s (pr s L.b L.k)+1) (1 - i) P∧cR G.K s (pr s L.b L.k) (G.K s (pr s L.b L.k)+1) (1 - i) P≤G.O i P+1∧cR G.K s (pr s L.b L.k) (G.K s (pr s L.b L.k)+1) (1 - i) P≤(G.W i P).length
   by_cases y:1 - i=s∧P=pr s L.b L.k
   ·have ei:i=1 - s:=by omega
    rw [y.1,y.2,bJ,ei]
    exact ⟨by omega,by omega,by omega⟩
   ·rw [bj y];exact rel i hi P
  ·funext P
   exact bj fun y=>hi y.1
  ·show G.K s P≤cR G.K s (pr s L.b L.k) (G.K s (pr s L.b L.k)+1) s P
   by_cases y:P=pr s L.b L.k
   ·rw [y,bJ];omega
   ·rw [bj (fun w=>y w.2)];exact Nat.le_refl _
  ·have:=pD.took (x:=pr s L.b L.k) (b:=wt G s L) ht (by show L.p=_;rw [ex,Pq]) hw
   have e2:wt ⟨G.W,G.O,cR G.K s (pr s L.b L.k) (G.K s (pr s L.b L.k)+1),G.U⟩ s { L with ev:=L.ev ++ [.took xs],tk:=(L.tk+1) % 97 }=⟨(wt G s L).p,fun P=>if P=pr s L.b L.k then (wt G s L).k (pr s L.b L.k)+1 else (wt G s L).k P,(wt G s L).u⟩:=by
    unfold wt
    congr 1
    funext P
    show cR G.K s (pr s L.b L.k) (G.K s (pr s L.b L.k)+1) s P=if P=pr s L.b L.k then G.K s (pr s L.b L.k)+1 else G.K s P
    by_cases y:P=pr s L.b L.k
    ·rw [y,bJ,if_pos rfl]
    ·rw [bj (fun w=>y w.2),if_neg y]
   rw [e2]
   exact this
 ·have eh:bO L n xs=L:=if_neg z
  rw [eh]
  exact ⟨G,h,rel,jL.refl,ht,rfl,rfl,rfl⟩
theorem En.read {A:Wt} (hs:s < 2) (h:En G s L) (rel:Rel G) (hc:dr G (1 - s) a 8) (Pt:a.k≤L.b) (ht:pD (G.W (1 - s)) A L.ev (wt G s L)) :
  ∃ G',En G' s (aW L a)∧Rel G'∧jL s L.b G G'∧pD (G.W (1 - s)) A (aW L a).ev (wt G' s (aW L a))∧(aW L a).b=L.b:=by
 unfold aW
 by_cases z:a.b < L.k
 ·rw [if_pos z];exact ⟨G,h,rel,jL.refl,ht,rfl⟩
 ·rw [if_neg z]
  obtain ⟨m1,m2,m3,m4⟩:=h.meet (es0:=[]) (n:=a.b) (by omega) ht
  by_cases y:a.k=(aw L a.b).b
  ·rw [if_pos y]
   generalize aw L a.b=L1 at *
   have PX:=hc.m
   rw [show 1 - (1 - s)=s by omega] at PX
   obtain ⟨G2,c1,c2,c3,c4,c5,c6,c7,c8⟩:=m1.Wb (fun P hP ho=>by rw [m4];exact PX P hP (by rw [y];exact ho)) m2
   rw [m3] at c2
   have ePr:pr (1 - s) a.b a.k=pr s (bA L1).b (bA L1).k:=by rw [MS hs,c6,c7,m4,y]
   have Wd:Rel G2:=fun i hi P=>by rw [c3,c4,c2.w];exact rel i hi P
   generalize bA L1=L2 at *
   obtain ⟨nc,cc,k1,k2,k3,k4,k5,k6,k7⟩:=(hc.grow c2 (show 1 - s≠s by omega) (by omega) Pt).ex
   rw [ePr] at k3 k4 k5 k6 k7
   obtain ⟨G3,d1,d2,d3,d4,d5,d6,d7⟩:=c1.Wc hs Wd c8 a.c cc k2 k4 k6 c5
   have TH:pr s (bB L2 a.c).b (bB L2 a.c).k=pr s L2.b L2.k:=by rw [d5,d6]
   have YS:=k3;have YT:=k5;have YU:=k7
   rw [← d3.o (1 - s) (by omega),← TH] at YS YT
   rw [← d3.w,← TH] at YU
   have w3:G3.W (1 - s)=G.W (1 - s):=by rw [d3.w,c2.w]
   rw [← w3] at d4
   obtain ⟨G4,e1,e2,e3,e4,e5,_,_⟩:=d1.take hs d2 (by rw [d7];exact c8) a.n a.xs nc k1 YS YT YU d4
   have eb:(bB L2 a.c).b=L.b:=by rw [d5,c6,m3]
   rw [eb] at e3 e5
   rw [c6,m3] at d3
   exact ⟨G4,e1,e2,(c2.trans d3).trans e3,by rw [← w3];exact e4,e5⟩
  ·rw [if_neg y];exact ⟨G,m1,rel,jL.refl,m2,m3⟩
theorem En.Nx {A:Wt} (hs:s < 2):∀ (bs:List Cl) (G:Gh) (L:Lk),En G s L→Rel G→(∀ a ∈ bs,dr G (1 - s) a 8)→(∀ a ∈ bs,a.k≤L.b)→pD (G.W (1 - s)) A L.ev (wt G s L) →
  ∃ G',En G' s (aO L bs)∧Rel G'∧jL s L.b G G'∧pD (G.W (1 - s)) A (aO L bs).ev (wt G' s (aO L bs))∧(aO L bs).b=L.b
 | [],G,L,h,rel,_,_,ht=>⟨G,h,rel,jL.refl,ht,rfl⟩
 | a :: r,G,L,h,rel,hc,Pt,ht=>by
  obtain ⟨G1,h1,r1,g1,t1,b1⟩:=h.read hs rel (hc a List.mem_cons_self) (Pt a List.mem_cons_self) ht
  have w1:G1.W (1 - s)=G.W (1 - s):=by rw [g1.w]
  rw [← w1] at t1
  obtain ⟨G2,h2,r2,g2,t2,b2⟩:=En.Nx hs r G1 (aW L a) h1 r1 (fun x hx=>(hc x (List.mem_cons_of_mem _ hx)).grow g1 (by omega) (by omega) (Pt x (List.mem_cons_of_mem _ hx))) (fun x hx=>by rw [b1];exact Pt x (List.mem_cons_of_mem _ hx)) t1
  rw [b1] at g2
  exact ⟨G2,h2,r2,g1.trans g2,by rw [← w1];exact t2,b2.trans b1⟩
theorem En.quiet {A:Wt} {W:Pr→List (List Int)} (h:En G s L) (hk:0≤L.k) (ht:pD W A L.ev (wt G s L)):En G s (a9 L)∧pD W A (a9 L).ev (wt G s (a9 L)):=by
 unfold a9
 split
 ·have ur:Unr s L (pr s (L.b+1) 0):=.inl (by rw [nM];omega)
  have TC:∀ P,(L.b+1 < own s P∨(own s P=L.b+1∧0 < AV s P))→nN G s P:=fun P hP=>h.un P (.inl (by rcases hP with z | ⟨z,_⟩ <;> omega))
  have TF:∀ P,G.U s P→own s P≤L.b+1∧(own s P=L.b+1→AV s P≤0):=fun P hP=>by have:=(h.um P hP).1;exact ⟨by omega,fun z=>by omega⟩
  cases ep:L.p with
  | none =>
   obtain ⟨z1,z2,z3⟩:=h.zero ep
   have em:eI L={ L with b:=L.b+1,k:=0 }:=by unfold eI;rw [ep]
   rw [em]
   exact ⟨fD h.sd (h.un _ ur) ep z1 z2 z3 TC TF,ht⟩
  | some x =>
   have em:eI L={ L with p:=none,bE:=[],of:=0,tk:=0,b:=L.b+1,k:=0,ev:=L.ev ++ [.mk "silent" x [L.d - L.q+1,L.d]] }:=by unfold eI;rw [ep]
   rw [em]
   exact ⟨fD h.sd (h.un _ ur) rfl rfl rfl rfl TC TF,pD.YR (b:=wt G s L) ht ep⟩
 ·exact ⟨h,ht⟩
theorem En.re {L':Lk} (h:En G s L) (h1:L'.s=L.s) (h2:L'.b=L.b) (h3:L'.k=L.k) (h4:L'.p=L.p) (h5:L'.bE=L.bE) (h6:L'.of=L.of) (h7:L'.tk=L.tk):En G s L':=by
 refine ⟨h1.trans h.sd,?_,?_,?_,?_,?_,?_,?_,by rw [h2,h3];exact h.um⟩
 ·rw [h6,h2,h3];exact h.o
 ·rw [h7,h2,h3];exact h.t
 ·rw [h5,h2,h3];exact h.p
 ·rw [h2,h3];exact h.ow
 ·rw [h2,h3,h4];exact h.dn
 ·rw [h2,h3,h4];exact h.up
 ·intro P hP
  refine h.un P ?_
  unfold Unr at hP ⊢
  rw [h2,h3] at hP
  exact hP
theorem En.tick {bs:List Cl} (hs:s < 2) (h:En G s L) (rel:Rel G) (hk:rY L) (MP:∀ a ∈ bs,AU a.b) (hc:∀ a ∈ bs,dr G (1 - s) a 8) (Pt:∀ a ∈ bs,a.k≤L.b) (HZ:L.ev=[]) :
  ∃ G',En G' s { bL L bs with ev:=[] }∧Rel G'∧jL s L.b G G'∧pD (G.W (1 - s)) (wt G s L) (bL L bs).ev (wt G' s (bL L bs))∧(aO L bs).b=L.b∧∀ P,G'.U s P→G.U s P∨AV s P≤(aO L bs).k:=by
 obtain ⟨G1,h1,r1,g1,t1,b1⟩:=En.Nx (A:=wt G s L) hs bs G L h rel hc Pt (by rw [HZ];exact .nil _)
 have k1:=(rB bs L hk MP).k.1
 have h2:En G1 s (eJ (aO L bs) bs):=h1.re rfl rfl rfl rfl rfl rfl rfl
 obtain ⟨h3,t3⟩:=h2.quiet (W:=G.W (1 - s)) (A:=wt G s L) k1 t1
 exact ⟨G1,h3.re rfl rfl rfl rfl rfl rfl rfl,r1,g1,t3,b1,fun P hP=>(g1.un P hP).elim .inl fun z=>.inr ((h1.um P hP).2 (by rw [b1];exact z))⟩
end
end
end K37
namespace K37
open PySem L2 PyProof.Rows
section
variable {P:Program} {w:World} {K:PySem.W.Frag} {mg:Str→Option Value} {base:Heap} {t:Ad}
abbrev Ts:=List (Int × Int)
structure jo (ts:Ts):Prop where
 len:ts.length≤4
 at_:∀ q ∈ ts,(0≤q.1∧q.1 < 24)∧1≤q.2∧q.2≤96
 nd:(ts.map fun q=>q.1.toNat).Nodup
def rC (K:PySem.W.Frag) (H:Hp) (a:Addr) (ts:Ts):Prop:=∃ Bm:Nat→Addr,cP K H a (bW ts.length Bm)∧∀ y q,ts[y]?=some q→cP K H (Bm y) [.int q.1,.int q.2]
theorem rC.same {K:PySem.W.Frag} {H H':Hp} {a:Addr} {ts:Ts} (h:rC K H a ts) (s:aI H H'):rC K H' a ts:=by
 obtain ⟨Bm,h1,h2⟩:=h
 exact ⟨Bm,s.tup h1,fun y q e=>s.tup (h2 y q e)⟩
def DN (f:Nat→Int) (i:Nat) (v:Int):Nat→Int:=fun j=>if j=i then v else f j
def di (f:Nat→Int) (ts:Ts):Nat→Int:=ts.foldl (fun f q=>DN f q.1.toNat ((f q.1.toNat+q.2) % 97)) f
theorem Gx (f:Nat→Int) (ts:Ts) (q:Int × Int):di f (ts ++ [q])=DN (di f ts) q.1.toNat ((di f ts q.1.toNat+q.2) % 97):=by unfold di;rw [List.foldl_append];rfl
theorem v7:∀ (ts:Ts) (f:Nat→Int) (i:Nat),i ∉ (ts.map fun q=>q.1.toNat)→di f ts i=f i
 | [],_,_,_=>rfl
 | q :: r,f,i,h=>by
  rw [List.map_cons,List.mem_cons,not_or] at h
  show di (DN f q.1.toNat _) r i=f i
  rw [v7 r _ i h.2]
  exact if_neg h.1
theorem Fc:∀ (ts:Ts) (f:Nat→Int),(ts.map fun q=>q.1.toNat).Nodup→∀ q ∈ ts,di f ts q.1.toNat=(f q.1.toNat+q.2) % 97
 | p :: r,f,nd,q,hq=>by
  rw [List.map_cons,List.nodup_cons] at nd
  show di (DN f p.1.toNat _) r q.1.toNat=_
  rcases List.mem_cons.mp hq with rfl | hq
  ·rw [v7 r _ _ nd.1]
   exact if_pos rfl
  ·rw [Fc r _ nd.2 q hq]
   have ne:q.1.toNat≠p.1.toNat:=fun z=>nd.1 (by rw [← z];exact List.mem_map.mpr ⟨q,hq,rfl⟩)
   unfold DN
   rw [if_neg ne]
theorem Gy {f:Nat→Int} {ts:Ts} (h:IsCell 24 f):IsCell 24 (di f ts):=by
 suffices ∀ (ts:Ts) (f:Nat→Int),(∀ i,i < 24→0≤f i∧f i < 97)→∀ i,i < 24→0≤di f ts i∧di f ts i < 97 from ⟨this ts f h.b⟩
 intro ts
 induction ts with
 | nil=>intro f h;exact h
 | cons q r ih =>
  intro f h
  refine ih _ fun i hi=>?_
  show 0≤(if i=q.1.toNat then (f q.1.toNat+q.2) % 97 else f i)∧(if i=q.1.toNat then (f q.1.toNat+q.2) % 97 else f i) < 97
  split
  ·exact ⟨Int.emod_nonneg _ (by decide),Int.emod_lt_of_pos _ (by decide)⟩
  ·exact h i hi
theorem MT {f:Nat→Int} {ts:Ts} (g:jo ts) (h:IsCell 24 f) {q:Int × Int} (hq:q ∈ ts):q.1.toNat < 24∧di f ts q.1.toNat≠f q.1.toNat:=by
 obtain ⟨⟨a0,a1⟩,b0,b1⟩:=g.at_ q hq
 have hi:q.1.toNat < 24:=by omega
 have hb:=h.b _ hi
 refine ⟨hi,?_⟩
 rw [Fc ts f g.nd q hq]
 generalize f q.1.toNat=v at *
 intro z
 have:(v+q.2) % 97=v:=z
 omega
theorem Bn {f:Nat→Int} {ts:Ts} (g:jo ts) (h:IsCell 24 f):(My.eQ 24 (di f ts) f).length=ts.length:=by
 have e:ts.length=(ts.map fun q=>q.1.toNat).length:=by rw [List.length_map]
 apply Nat.le_antisymm
 ·rw [e]
  refine My.fw _ _ (My.fv _ _ _) fun i hi=>?_
  obtain ⟨h1,h2⟩:=My.bw.mp hi
  exact Classical.byContradiction fun z=>h2 (v7 ts f i z)
 ·rw [e]
  refine My.fw _ _ g.nd fun i hi=>?_
  obtain ⟨q,hq,rfl⟩:=List.mem_map.mp hi
  obtain ⟨h1,h2⟩:=MT g h hq
  exact My.bw.mpr ⟨h1,h2⟩
theorem Gz {f g h:Nat→Int}:(My.eQ 24 f h).length≤(My.eQ 24 g f).length+(My.eQ 24 g h).length:=by
 have:=My.fw (My.eQ 24 f h) (My.eQ 24 g f ++ My.eQ 24 g h) (My.fv _ _ _) fun i hi=>by
  obtain ⟨h1,h2⟩:=My.bw.mp hi
  by_cases e:g i=f i
  ·exact List.mem_append_right _ (My.bw.mpr ⟨h1,fun z=>h2 (by rw [← e,z])⟩)
  ·exact List.mem_append_left _ (My.bw.mpr ⟨h1,e⟩)
 rwa [List.length_append] at this
theorem G5 {f:Nat→Int} {ts:Ts} (g:jo ts) (h:IsCell 24 f) (hs:My.bZ f) (h2:ts.length < 3):My.pP (di f ts) f:=⟨h.b,hs,by rw [Bn g h];omega⟩
theorem G6 {f:Nat→Int} {ts:Ts} (g:jo ts) (h:IsCell 24 f) (hs:My.bZ f) (h2:¬ ts.length < 3):∀ k,¬ My.pP (di f ts) k:=by
 intro k m
 have d1:=Bn g h
 have d2:=Gz (f:=f) (g:=di f ts) (h:=k)
 have d3:=m.yV
 have d4:=g.len
 have e:∀ i,i < 24→f i=k i:=My.Nj h.b m.b hs m.sealed (by omega)
 have d5:(My.eQ 24 (di f ts) f).length≤(My.eQ 24 (di f ts) k).length:=by
  refine My.fw _ _ (My.fv _ _ _) fun i hi=>?_
  obtain ⟨h1,h2⟩:=My.bw.mp hi
  exact My.bw.mpr ⟨h1,by rw [← e i h1];exact h2⟩
 omega
abbrev Ft:=List (Int × Ts)
structure rD (late:Int) (fs:Ft):Prop where
 len:fs.length≤3
 at_:∀ d ∈ fs,1≤d.1∧d.1≤late∧jo d.2
def ou (K:PySem.W.Frag) (H:Hp) (a:Addr) (fs:Ft):Prop:=∃ Ny Bm:Nat→Addr,cP K H a (bW fs.length Ny)∧∀ y d,fs[y]?=some d→cP K H (Ny y) [.int d.1,.ref (Bm y)]∧rC K H (Bm y) d.2
theorem ou.same {K:PySem.W.Frag} {H H':Hp} {a:Addr} {fs:Ft} (h:ou K H a fs) (s:aI H H'):ou K H' a fs:=by
 obtain ⟨Ny,Bm,h1,h2⟩:=h
 exact ⟨Ny,Bm,s.tup h1,fun y d e=>⟨s.tup (h2 y d e).1,(h2 y d e).2.same s⟩⟩
theorem Pu {K:PySem.W.Frag} {H:Hp} {a:Addr} (h:cP K H a []):rC K H a []:=⟨fun _=>0,h,fun y q e=>by cases e⟩
theorem lg:jo []:=⟨by decide,(fun q hq=>by cases hq),List.nodup_nil⟩
theorem Pw {K:PySem.W.Frag} {H:Hp} {a:Addr} (h:cP K H a []):ou K H a []:=⟨fun _=>0,fun _=>0,h,fun y q e=>by cases e⟩
theorem Je {K:PySem.W.Frag} {H:Hp} {a b c:Addr} {d:Int} {ts:Ts} (h:cP K H a [.ref b]) (hb:cP K H b [.int d,.ref c]) (hc:rC K H c ts):ou K H a [(d,ts)] :=
 ⟨fun _=>b,fun _=>c,h,fun y e he=>by
  cases y with
  | zero=>cases he;exact ⟨hb,hc⟩
  | succ y=>cases he⟩
theorem Px {K:PySem.W.Frag} {H:Hp} {a b c b' c':Addr} {d d':Int} {ts YV:Ts} (h:cP K H a [.ref b,.ref b']) (hb:cP K H b [.int d,.ref c]) (hc:rC K H c ts) (Vv:cP K H b' [.int d',.ref c']) (UQ:rC K H c' YV):ou K H a [(d,ts),(d',YV)] :=
 ⟨fun y=>if y=0 then b else b',fun y=>if y=0 then c else c',h,fun y e he=>by
  match y,he with
  | 0,he=>cases he;exact ⟨hb,hc⟩
  | 1,he=>cases he;exact ⟨Vv,UQ⟩
  | y+2,he=>cases he⟩
theorem v8 {K:PySem.W.Frag} {H:Hp} {b c:Addr} {d:Int} (hc:H c=none) (hb:(upd H c (.tup [])) b=none):aI H (upd (upd H c (.tup [])) b (.tup [.int d,.ref c]))∧cP K (upd (upd H c (.tup [])) b (.tup [.int d,.ref c])) b [.int d,.ref c]∧rC K (upd (upd H c (.tup [])) b (.tup [.int d,.ref c])) c []:=by
 have s1:aI H (upd H c (.tup [])):=(aI.refl _).new hc
 have s2:aI (upd H c (.tup [])) (upd (upd H c (.tup [])) b (.tup [.int d,.ref c])):=(aI.refl _).new hb
 exact ⟨s1.trans s2,cP.of aB,Pu (cP.of (s2 _ _ aB))⟩
theorem MU {K:PySem.W.Frag} {H:Hp} {b c:Addr} {d:Int} {ts:Ts} (hc:rC K H c ts) (hb:H b=none):aI H (upd H b (.tup [.int d,.ref c]))∧cP K (upd H b (.tup [.int d,.ref c])) b [.int d,.ref c]∧rC K (upd H b (.tup [.int d,.ref c])) c ts:=by
 have s1:aI H (upd H b (.tup [.int d,.ref c])):=(aI.refl _).new hb
 exact ⟨s1,cP.of aB,hc.same s1⟩
end
end K37
namespace K37
open PySem L2 PyProof.Rows
section
variable {P:Program} {w:World} {K:PySem.W.Frag} {mg:Str→Option Value} {base:Heap} {t:Ad}
def nO (K:PySem.W.Frag):Sp:=fun vs H Q _=>∃ (l a:Addr) (f:Nat→Int) (ts:Ts),vs=[.ref l,.ref a]∧aY K H l (tabI 24 f)∧rC K H a ts∧jo ts∧∀ (p:Addr) (H':Hp),aI H H'→H p=none→H' p=some (.lst (tabI 24 (di f ts)))→Q (.ref p) H'
theorem MV {n:Nat} {f:Nat→Int} {i:Int} (h0:0≤i) (h1:i < n):tu (tabI n f) i=some (V.int (f i.toNat)):=cv (f:=fun j=>V.int (f j)) h0 h1
theorem MW {n:Nat} {f:Nat→Int} {i:Int} (h0:0≤i) (h1:i < n):Ei (tabI n f).length i=some i.toNat:=by
 unfold Ei
 rw [aL,if_pos h0,if_pos h1]
theorem Jf {n i:Nat} {f:Nat→Int} {v:Int} (h:i < n):(tabI n f).set i (V.int v)=tabI n (DN f i v):=by
 refine (qe (f:=fun j=>V.int (f j)) h).trans (bU fun j _=>?_)
 unfold DN
 by_cases z:j=i
 ·rw [if_pos z,if_pos z]
 ·rw [if_neg z,if_neg z]
theorem ig:aS ["cell","turns","made","place","add"] ["cell","turns"] (aG gd):=⟨rfl,rfl,rfl,by decide +kernel,rfl,by decide +kernel,by decide +kernel⟩
theorem v9 (F:aR K mg "_law_turned" gd) (T:Txt K mg t):Def P w K mg base 1 "_law_turned" ["cell","turns"] (nO K):=by
 refine F.def ig (fun _ _ _ _ _ _ us hl=>match us,hl with | [_,_],_=>rfl) (fun vs H Q E h=>?_) (fun f be A outer s H vs Q E hr h=>?_)
 ·obtain ⟨l,a,f,ts,rfl,_⟩:=h
  rfl
 ·obtain ⟨l,a,f,ts,rfl,hl,⟨Bm,hA,ht⟩,g,q⟩:=h
  refine ⟨_,aD (aZ (i:=2) ig.nd rfl (Or.inl rfl) (fh (fo K) (by rfl) T.pQ boot_list (aA (pv 0) aC)))
   (aD (PS.uX (cq PassesOwn.never rfl (E8 K (pv 1)) (lF K (i:=3) (j:=4) rfl ig.nd rfl rfl (Or.inl rfl) (Or.inl rfl))
    (aH (pH (aP bG (aP bM (af (aQ K) (pv 2) (pv 3) (fun _ _=>rfl)) (pv 4)) aF) (rk (pv 2) (pv 3) set_list)))))
   (aH (ar (pv 2)))),?_⟩
  refine ⟨_,rfl,l,_,rfl,.inl hl,fun r hr=>?_⟩
  have s1:=(aI.refl H).new (o:=.lst (tabI 24 f)) hr
  refine ⟨_,rfl,a,rfl,⟨_,s1.tup hA⟩,?_⟩
  refine ET (K:=K) (a:=a) (xs:=bW ts.length Bm) (fun i σ H'=>∃ v3 v4:Option V,σ=[some (.ref l),some (.ref a),some (.ref r),v3,v4]∧aI H H'∧H' r=some (.lst (tabI 24 (di f (ts.take i))))) ⟨none,none,rfl,s1,aB⟩ (fun i σ H' _ ⟨_,_,_,s2,_⟩=>s2.tup hA) ?_ ?_
  ·rintro i x σ H' hx ⟨v3,v4,rfl,s2,HY⟩
   obtain ⟨hi,rfl⟩:=tab_of hx
   have e:ts[i]?=some ts[i]:=by simp [hi]
   generalize ts[i]=c at e
   obtain ⟨⟨p0,p1⟩,_⟩:=g.at_ c (List.mem_of_getElem? e)
   refine qg (s2.tup (ht i c e)) ?_
   refine ⟨_,rfl,_,rfl,r,_,_,_,rfl,rfl,aY.of HY,MV p0 (by omega),_,rfl,_,_,rfl,rfl,_,_,rfl,rfl,(by show (0:Int) < 97;decide),?_⟩
   refine ⟨_,rfl,_,rfl,r,_,_,_,rfl,rfl,HY,MW p0 (by omega),?_⟩
   refine ⟨_,_,rfl,s2.put hr,?_⟩
   rw [aB,take_succ e,Gx]
   exact congrArg (fun z=>some (HO.lst z)) (Jf (by omega))
  ·rintro σ H' ⟨v3,v4,rfl,s2,HY⟩
   rw [aL,List.take_length] at HY
   exact ⟨_,rfl,q r H' s2 hr HY⟩
structure Rw where
 f:Nat→Int
 rd:Bool
 b:Cl
structure DO (r:Rw):Prop where
 c:IsCell 24 r.f
 m:JX r.f (if r.rd=true then some r.b else none)
 g:ie r.b
abbrev zq:=Hp→V→Cl→Prop
def Jg (Bv:zq) (B:Hp) (a:Addr) (r:Rw):Prop:=∃ (c:Addr) (v:V),B a=some (.tup [.ref c,.bl r.rd,v])∧B c=some (.lst (tabI 24 r.f))∧Bv B v r.b∧DO r
def dj (Bv:zq):Prop:=∀ B B' v b,aI B B'→Bv B v b→Bv B' v b
theorem Jg.same {Bv:zq} (mb:dj Bv) {B B':Hp} {a:Addr} {r:Rw} (h:Jg Bv B a r) (s:aI B B'):Jg Bv B' a r:=by
 obtain ⟨c,v,h1,h2,h3,h4⟩:=h
 exact ⟨c,v,s _ _ h1,s _ _ h2,mb _ _ _ _ s h3,h4⟩
structure Slot (Bv:zq) (B H:Hp) (a:Addr) (rs:List Rw):Prop where
 no:B a=none
 at_:∃ Fd:Nat→Addr,H a=some (.lst (bW rs.length Fd))∧∀ y r,rs[y]?=some r→Jg Bv B (Fd y) r
theorem Slot.keep {Bv:zq} (mb:dj Bv) {B B' H H':Hp} {a:Addr} {rs:List Rw} (h:Slot Bv B H a rs) (s:aI B B') (n:B' a=none) (e:H' a=H a):Slot Bv B' H' a rs:=by
 obtain ⟨Fd,h1,h2⟩:=h.at_
 exact ⟨n,Fd,e.trans h1,fun y r hr=>(h2 y r hr).same mb s⟩
structure Cg (Bv:zq) (B H:Hp) (d:Addr) (sl:Nat→Addr) (n:Nat) (rows:Nat→List Rw):Prop where
 dl:B d=some (.lst (bW n sl))
 inj:∀ i j,i < n→j < n→sl i=sl j→i=j
 at_:∀ j,j < n→Slot Bv B H (sl j) (rows j)
def dS (b:Cl) (ts:Ts):Rw:=⟨di (a8 b) ts,decide (ts.length < 3),b⟩
def sv (rows:Nat→List Rw) (k:Nat) (r:Rw):Nat→List Rw:=fun j=>if j=k then rows j ++ [r] else rows j
def fE (rows:Nat→List Rw) (tick:Nat) (b:Cl) (fs:Ft):Nat→List Rw:=fs.foldl (fun rs d=>sv rs (tick+d.1.toNat) (dS b d.2)) rows
theorem G7 (rows:Nat→List Rw) (tick:Nat) (b:Cl) (fs:Ft) (d:Int × Ts):fE rows tick b (fs ++ [d])=sv (fE rows tick b fs) (tick+d.1.toNat) (dS b d.2):=by unfold fE;rw [List.foldl_append];rfl
theorem Jh {b:Cl} {ts:Ts} (h1:ie b) (g:jo ts) (hs:My.bZ (a8 b)):DO (dS b ts):=by
 have c:=Bf h1
 refine ⟨Gy c,?_,h1⟩
 show JX (di (a8 b) ts) (if decide (ts.length < 3)=true then some b else none)
 by_cases z:ts.length < 3
 ·rw [decide_eq_true z,if_pos rfl]
  exact ⟨h1,G5 g c hs z⟩
 ·rw [decide_eq_false z,if_neg (by decide)]
  exact G6 g c hs z
structure Gv (B H B' H':Hp) (sl:Nat→Addr) (n:Nat):Prop where
 bb:aI B B'
 bh:aI B' H'
 no:∀ m,H m≠none→B m=none→B' m=none
 fr:∀ m o,(∀ j,j < n→m≠sl j)→H m=some o→H' m=some o
 g:∀ m,H' m=none→H m=none
theorem Gv.refl {B H:Hp} {sl:Nat→Addr} {n:Nat} (s:aI B H):Gv B H B H sl n:=⟨aI.refl _,s,fun _ _ h=>h,fun _ _ _ h=>h,fun _ h=>h⟩
theorem Gv.trans {B H B1 H1 B2 H2:Hp} {sl:Nat→Addr} {n:Nat} (a:Gv B H B1 H1 sl n) (b:Gv B1 H1 B2 H2 sl n):Gv B H B2 H2 sl n :=
 ⟨a.bb.trans b.bb,b.bh,fun m h1 h2=>b.no m (fun z=>h1 (a.g m z)) (a.no m h1 h2),fun m o h e=>b.fr m o h (a.fr m o h e),fun m h=>a.g m (b.g m h)⟩
end
end K37
namespace K37
open PySem L2 PyProof.Rows
section
variable {P:Program} {w:World} {K:PySem.W.Frag} {mg:Str→Option Value} {base:Heap} {t:Ad}
theorem Slot.val {Bv:zq} {B H:Hp} {a:Addr} {rs:List Rw} (h:Slot Bv B H a rs):H a≠none:=by obtain ⟨_,g,_⟩:=h.at_;rw [g];exact fun z=>by cases z
theorem Cg.step {Bv:zq} (mb:dj Bv) {B H H2:Hp} {d p r:Addr} {sl:Nat→Addr} {n k:Nat} {rows:Nat→List Rw} {v3:V} {rw':Rw} {Fd:Nat→Addr} (c:Cg Bv B H d sl n rows) (sb:aI B H) (hk:k < n) (s2:aI H H2) (np:H p=none) (ep:H2 p=some (.lst (tabI 24 rw'.f))) (nr:H2 r=none)
  (g:DO rw') (hv:Bv B v3 rw'.b) (e1:H (sl k)=some (.lst (bW (rows k).length Fd))) (e2:∀ y x,(rows k)[y]?=some x→Jg Bv B (Fd y) x) :
  Gv B H (upd (upd B p (.lst (tabI 24 rw'.f))) r (.tup [.ref p,.bl rw'.rd,v3])) (upd (upd H2 r (.tup [.ref p,.bl rw'.rd,v3])) (sl k) (.lst (bW (rows k).length Fd ++ [.ref r]))) sl n ∧
  Cg Bv (upd (upd B p (.lst (tabI 24 rw'.f))) r (.tup [.ref p,.bl rw'.rd,v3])) (upd (upd H2 r (.tup [.ref p,.bl rw'.rd,v3])) (sl k) (.lst (bW (rows k).length Fd ++ [.ref r]))) d sl n (sv rows k rw'):=by
 have TK:H r=none:=s2.free nr
 have We:p≠r:=fun z=>by rw [z,nr] at ep;cases ep
 have bp:B p=none:=sb.free np
 have br:B r=none:=sb.free TK
 have DP:aI B (upd B p (.lst (tabI 24 rw'.f))):=(aI.refl _).new bp
 have sB:aI B (upd (upd B p (.lst (tabI 24 rw'.f))) r (.tup [.ref p,.bl rw'.rd,v3])):=DP.new (by rw [aE (Ne.symm We)];exact br)
 have slk:H (sl k)≠none:=(c.at_ k hk).val
 have Wf:∀ j,j < n→sl j≠r:=fun j hj z=>(c.at_ j hj).val (by rw [z];exact TK)
 have YW:∀ j,j < n→sl j≠p:=fun j hj z=>(c.at_ j hj).val (by rw [z];exact np)
 have YX:∀ j,j < n→(upd (upd B p (.lst (tabI 24 rw'.f))) r (.tup [.ref p,.bl rw'.rd,v3])) (sl j)=none:=fun j hj=>by rw [aE (Wf j hj),aE (YW j hj)];exact (c.at_ j hj).no
 refine ⟨⟨sB,?_,?_,?_,?_⟩,⟨sB _ _ c.dl,c.inj,fun j hj=>?_⟩⟩
 ·intro m o e
  by_cases z1:m=r
  ·rw [z1] at e ⊢
   rw [aB] at e
   rw [aE (Ne.symm (Wf k hk)),aB];exact e
  ·rw [aE z1] at e
   by_cases z2:m=p
   ·rw [z2] at e ⊢
    rw [aB] at e
    rw [aE (Ne.symm (YW k hk)),aE We,ep];exact e
   ·rw [aE z2] at e
    rw [aE (fun z=>by rw [z,(c.at_ k hk).no] at e;cases e),aE z1]
    exact s2 _ _ (sb _ _ e)
 ·intro m h1 h2
  rw [aE (fun z=>h1 (by rw [z];exact TK)),aE (fun z=>h1 (by rw [z];exact np))];exact h2
 ·intro m o h e
  rw [aE (h k hk),aE (fun z=>by rw [z,TK] at e;cases e)]
  exact s2 _ _ e
 ·intro m h
  by_cases z1:m=sl k
  ·rw [z1,aB] at h;cases h
  ·rw [aE z1] at h
   by_cases z2:m=r
   ·rw [z2];exact TK
   ·rw [aE z2] at h
    exact s2.free h
 ·by_cases z:j=k
  ·subst z
   refine ⟨YX j hj,fun y=>if y=(rows j).length then r else Fd y,?_,fun y x hx=>?_⟩
   ·rw [aB,dF]
    show _=some (HO.lst (bW (if j=j then rows j ++ [rw'] else rows j).length _))
    rw [if_pos rfl,List.length_append]
    rfl
   ·have hx:(if j=j then rows j ++ [rw'] else rows j)[y]?=some x:=hx
    rw [if_pos rfl] at hx
    by_cases zy:y=(rows j).length
    ·rw [zy,List.getElem?_append_right (Nat.le_refl _),Nat.sub_self] at hx
     cases hx
     simp only [zy,if_true]
     exact ⟨p,v3,aB,by rw [aE We];exact aB,mb _ _ _ _ sB hv,g⟩
    ·have hy:y < (rows j ++ [rw']).length:=(List.getElem?_eq_some_iff.mp hx).1
     rw [List.length_append] at hy
     have Si:y < (rows j).length:=by simp at hy;omega
     rw [List.getElem?_append_left Si] at hx
     simp only [zy,if_false]
     exact (e2 y x hx).same mb sB
  ·show Slot Bv _ _ (sl j) (if j=k then _ else rows j)
   rw [if_neg z]
   have ne:sl j≠sl k:=fun w=>z (c.inj j k hj hk w)
   obtain ⟨rj,g1,g2⟩:=(c.at_ j hj).at_
   exact (c.at_ j hj).keep mb sB (YX j hj) (by rw [aE ne,aE (Wf j hj),s2 _ _ g1,g1])
def rF (K:PySem.W.Frag) (Bv:zq):Sp:=fun vs H Q _=>∃ (B:Hp) (d l fA:Addr) (tick:Nat) (v3:V) (sl:Nat→Addr) (n:Nat) (rows:Nat→List Rw) (b:Cl) (fs:Ft) (late:Int),vs=[.ref d,.ref l,.ref fA,.int (tick:Int),v3]∧aI B H∧Cg Bv B H d sl n rows ∧
 H l=some (.lst (tabI 24 (a8 b)))∧ie b∧Bv B v3 b∧ou K H fA fs∧rD late fs∧late≤6∧tick+6 < n∧(∀ j,j < n→(rows j).length≤100000)∧(∀ j,j < n→l≠sl j) ∧
 ∀ B' H',Gv B H B' H' sl n→Cg Bv B' H' d sl n (fE rows tick b fs)→Q .bq H'
theorem zu {K:PySem.W.Frag} {H H':Hp} {a:Addr} {xs:List V} {sl:Nat→Addr} {n:Nat} (fr:∀ m o,(∀ j,j < n→m≠sl j)→H m=some o→H' m=some o) (ls:∀ j,j < n→∃ ys,H (sl j)=some (.lst ys)) (h:cP K H a xs):cP K H' a xs:=by
 rcases h with (h | ⟨u,h⟩) | h
 ·exact .inl (.inl (fr a _ (fun j hj z=>by obtain ⟨ys,e⟩:=ls j hj;rw [z,e] at h;cases h) h))
 ·exact .inl (.inr ⟨u,fr a _ (fun j hj z=>by obtain ⟨ys,e⟩:=ls j hj;rw [z,e] at h;cases h) h⟩)
 ·exact .inr h
theorem Bo {rows:Nat→List Rw} {tick:Nat} {b:Cl}:∀ (fs:Ft) (j:Nat),(fE rows tick b fs j).length≤(rows j).length+fs.length:=by
 intro fs
 induction fs generalizing rows with
 | nil=>intro j;exact Nat.le_refl _
 | cons d r ih =>
  intro j
  have:=ih (rows:=sv rows (tick+d.1.toNat) (dS b d.2)) j
  have h2:(sv rows (tick+d.1.toNat) (dS b d.2) j).length≤(rows j).length+1:=by
   unfold sv
   split
   ·rw [List.length_append];exact Nat.le_refl _
   ·exact Nat.le_succ _
  show (fE (sv rows (tick+d.1.toNat) (dS b d.2)) tick b r j).length≤_
  rw [List.length_cons]
  omega
theorem rG:aS ["coming","cell","fate","tick","births","delay","turns"] ["coming","cell","fate","tick","births"] (aG jZ):=⟨rfl,rfl,rfl,by decide +kernel,rfl,by decide +kernel,by decide +kernel⟩
theorem zv {Bv:zq} (mb:dj Bv) (F:aR K mg "_law_give" jZ) (T:Txt K mg t) (jq:Def P w K mg base 1 "_law_turned" ["cell","turns"] (nO K)):Def P w K mg base 2 "_law_give" ["coming","cell","fate","tick","births"] (rF K Bv):=by
 refine F.def rG (fun _ _ _ _ _ _ us hl=>match us,hl with | [_,_,_,_,_],_=>rfl) (fun vs H Q E h=>?_) (fun f be A outer s H vs Q E hr h=>?_)
 ·obtain ⟨B,d,l,fA,tick,v3,sl,n,rows,b,fs,late,rfl,_⟩:=h
  rfl
 ·obtain ⟨B,d,l,fA,tick,v3,sl,n,rows,b,fs,late,rfl,sb,cg,hl,Ki,hv,hf,gf,l6,ht,Qp,nl,q⟩:=h
  refine ⟨_,aH (PS.uX (cq PassesOwn.never rfl (E8 K (pv 2)) (lF K (i:=5) (j:=6) rfl rG.nd rfl rfl (Or.inl rfl) (Or.inl rfl))
    (aH (ay (jj K PySem.F.plainAttrs_list PySem.F.slot_list_append PySem.F.type_list_append cV (af (aQ K) (pv 0) (aP bM (pv 3) (pv 5)) (fun _ _=>rfl)) (aA (bX (aA (aa (jq.mono (by decide)) hr av (aA (pv 1) (aA (pv 6) aC))) (aA (ku ux (bR (bY K) (by rfl) T.iZ boot_len (aA (pv 6) aC)) aF (au _)) (aA (pv 4) aC)))) aC)))))),?_⟩
  have ox:(1000001:Nat)≤sizeLine:=by decide
  obtain ⟨Ny,Bm,h1,h2⟩:=hf
  have hs:My.bZ (a8 b):=My.zP _
  have ls:∀ j,j < n→∃ ys,H (sl j)=some (.lst ys):=fun j hj=>by obtain ⟨_,g,_⟩:=(cg.at_ j hj).at_;exact ⟨_,g⟩
  refine ⟨_,rfl,fA,rfl,⟨_,h1⟩,?_⟩
  refine ET (K:=K) (a:=fA) (xs:=bW fs.length Ny) (fun i σ H'=>∃ (B':Hp) (v5 v6:Option V),σ=[some (.ref d),some (.ref l),some (.ref fA),some (.int (tick:Int)),some v3,v5,v6]∧Gv B H B' H' sl n∧Cg Bv B' H' d sl n (fE rows tick b (fs.take i)))
   ⟨B,none,none,rfl,Gv.refl sb,cg⟩ (fun i σ H' _ ⟨_,_,_,_,g,_⟩=>zu g.fr ls h1) ?_ ?_
  ·rintro i x σ H1 hx ⟨B1,v5,v6,rfl,g1,c1⟩
   obtain ⟨hi,rfl⟩:=tab_of hx
   have e:fs[i]?=some fs[i]:=by simp [hi]
   generalize fs[i]=dd at e
   obtain ⟨d1,d2,d3⟩:=gf.at_ dd (List.mem_of_getElem? e)
   obtain ⟨k1,Wg,k2,k3⟩:=h2 i dd e
   have YY:rC K H1 (Bm i) dd.2:=⟨Wg,zu g1.fr ls k2,fun y q hq=>zu g1.fr ls (k3 y q hq)⟩
   refine qg (zu g1.fr ls k1) ?_
   have Ut:tick+dd.1.toNat < n:=by omega
   obtain ⟨Fd,r1,r2⟩:=(c1.at_ _ Ut).at_
   have Qs:H1 l=some (.lst (tabI 24 (a8 b))):=g1.fr l _ nl hl
   have eix:tu (bW n sl) ((tick:Int)+dd.1)=some (.ref (sl (tick+dd.1.toNat))):=by
    rw [show (tick:Int)+dd.1=((tick+dd.1.toNat:Nat):Int) by omega]
    exact k9 (ba Ut)
   have hlen:=Bo (rows:=rows) (tick:=tick) (b:=b) (fs.take i) (tick+dd.1.toNat)
   have Ss:=gf.len
   rw [List.length_take] at hlen
   have Sz:=Qp _ Ut
   refine ⟨_,rfl,_,rfl,_,rfl,_,_,rfl,rfl,d,_,_,_,rfl,rfl,aY.of (g1.bh _ _ c1.dl),eix,.inl ⟨rfl,_,aY.of r1⟩,?_⟩
   refine ⟨_,rfl,_,rfl,l,Bm i,_,dd.2,rfl,aY.of Qs,YY,d3,fun p H2 s2 np ep=>?_⟩
   refine ⟨_,rfl,Bm i,_,rfl,.inr (s2.tup (YY.choose_spec.1)),_,_,rfl,rfl,?_⟩
   rw [aL]
   refine ⟨_,rfl,by show 3≤sizeLine;decide,fun r oo=>?_⟩
   refine ⟨sl (tick+dd.1.toNat),_,_,rfl,rfl,by rw [aE (aM (s2 _ _ r1) oo)];exact s2 _ _ r1,by rw [aL];omega,?_⟩
   have Vf:decide (((dd.2.length:Nat):Int) < 3)=decide (dd.2.length < 3):=by
    by_cases z:dd.2.length < 3
    ·rw [decide_eq_true z,decide_eq_true (by omega)]
    ·rw [decide_eq_false z,decide_eq_false (by omega)]
   obtain ⟨gA,cA⟩:=c1.step mb (rw':=dS b dd.2) (v3:=v3) g1.bh Ut s2 np ep oo (Jh Ki d3 hs) (mb _ _ _ _ g1.bb hv) r1 r2
   refine ⟨upd (upd B1 p (.lst (tabI 24 (dS b dd.2).f))) r (.tup [.ref p,.bl (dS b dd.2).rd,v3]),_,_,rfl,g1.trans ?_,?_⟩
   ·show Gv B1 H1 _ (upd (upd H2 r (.tup [.ref p,.bl (decide (((dd.2.length:Nat):Int) < 3)),v3])) _ _) sl n
    rw [Vf]
    exact gA
   ·show Cg Bv _ (upd (upd H2 r (.tup [.ref p,.bl (decide (((dd.2.length:Nat):Int) < 3)),v3])) _ _) d sl n _
    rw [Vf,take_succ e,G7]
    exact cA
  ·rintro σ H1 ⟨B1,v5,v6,rfl,g1,c1⟩
   rw [aL,List.take_length] at c1
   exact q B1 H1 g1 c1
end
end K37
namespace K37
open PySem L2 PyProof.Rows
section
variable {P:Program} {w:World} {K:PySem.W.Frag} {mg:Str→Option Value} {base:Heap} {t:Ad}
theorem bP.mv {C:Addr} {B H B' H':Hp} {x tA pA:Addr} {L:Lk} (h:bP C B H x tA pA L) (sb:aI B' H') (bb:aI B B') (no:∀ a,H a≠none→B a=none→B' a=none) (kx:∀ o,H x=some o→H' x=some o) (kt:∀ o,H tA=some o→H' tA=some o) (kp:∀ o,H pA=some o→H' pA=some o):bP C B' H' x tA pA L:=by
 obtain ⟨dx,pv,g,gp⟩:=h.at_
 obtain ⟨jK,g2,xP⟩:=h.told
 obtain ⟨df,g3,rX⟩:=h.bE
 exact ⟨sb,no _ h.hx h.bx,no _ h.ht h.bt,no _ h.hp h.bp,⟨dx,pv,kx _ g,gp.mono bb⟩,⟨jK,kt _ g2,fun y e he=>(xP y e he).mono bb⟩,⟨df,kp _ g3,fun y xs hy=>bb _ _ (rX y xs hy)⟩,h.ne⟩
def at2 {α:Type} (f:Nat→α) (s:Nat) (v:α):Nat→α:=fun i=>if i=s then v else f i
theorem aJ {α:Type} {f:Nat→α} {s:Nat} {v:α}:at2 f s v s=v:=if_pos rfl
theorem aT {α:Type} {f:Nat→α} {s i:Nat} {v:α} (h:i≠s):at2 f s v i=f i:=if_neg h
structure rH (o:HO):Prop where
 t:∀ xs,o≠.tup xs
 f:∀ a u,o≠.yC a u
theorem dU (xs:List V):rH (.lst xs):=⟨(fun _ z=>by cases z),(fun _ _ z=>by cases z)⟩
structure St (Bv:zq) (C:Addr) (B H:Hp) (n:Nat) (x tA pA d:Nat→Addr) (sl:Nat→Nat→Addr) (L:Nat→Lk) (rows:Nat→Nat→List Rw) (ρ:Addr→Nat) (m:Nat) (ex:Nat→Addr) (eo:Nat→HO):Prop where
 sb:aI B H
 lk:∀ s,s < 2→bP C B H (x s) (tA s) (pA s) (L s)
 cg:∀ s,s < 2→Cg Bv B H (d s) (sl s) n (rows s)
 rx:∀ s,s < 2→ρ (x s)=10+s
 rt:∀ s,s < 2→ρ (tA s)=20+s
 rp:∀ s,s < 2→ρ (pA s)=30+s
 rs:∀ s,s < 2→∀ j,j < n→ρ (sl s j)=50+s
 ee:∀ i,i < m→H (ex i)=some (eo i)
 eb:∀ i,i < m→B (ex i)=none
 er:∀ i,i < m→ρ (ex i)=100+i
 en:∀ i,i < m→rH (eo i)
section
variable {Bv:zq} {C:Addr} {B H B' H':Hp} {n:Nat} {x tA pA d:Nat→Addr} {sl:Nat→Nat→Addr} {L:Nat→Lk} {rows:Nat→Nat→List Rw} {ρ:Addr→Nat} {s m:Nat} {ex:Nat→Addr} {eo Qt:Nat→HO}
theorem dM {a b:Addr} {i j:Nat} (ha:ρ a=i) (hb:ρ b=j) (h:i≠j):a≠b:=fun z=>h (by rw [← ha,← hb,z])
theorem Cg.mv (mb:dj Bv) {a:Addr} {sa:Nat→Addr} {ra:Nat→List Rw} (h:Cg Bv B H a sa n ra) (bb:aI B B') (no:∀ a,H a≠none→B a=none→B' a=none) (e:∀ j,j < n→∀ o,H (sa j)=some o→H' (sa j)=some o):Cg Bv B' H' a sa n ra :=
 ⟨bb _ _ h.dl,h.inj,fun j hj=>(h.at_ j hj).keep mb bb (no _ (h.at_ j hj).val (h.at_ j hj).no) (by obtain ⟨_,g,_⟩:=(h.at_ j hj).at_;rw [e j hj _ g,g])⟩
theorem St.he (h:St Bv C B H n x tA pA d sl L rows ρ m ex eo) {i:Nat} (hi:i < m):H (ex i)≠none:=by rw [h.ee i hi];exact fun z=>by cases z
theorem St.same (mb:dj Bv) (h:St Bv C B H n x tA pA d sl L rows ρ m ex eo) (e:aI H H'):St Bv C B H' n x tA pA d sl L rows ρ m ex eo :=
 ⟨h.sb.trans e,fun s hs=>(h.lk s hs).same e,fun s hs=>(h.cg s hs).mv mb (aI.refl _) (fun _ _ z=>z) fun j _ o g=>e _ _ g,h.rx,h.rt,h.rp,h.rs,fun i hi=>e _ _ (h.ee i hi),h.eb,h.er,h.en⟩
theorem St.Uu (mb:dj Bv) {tB pB:Addr} {L':Lk} (h:St Bv C B H n x tA pA d sl L rows ρ m ex eo) (hs:s < 2) (mv:iQ B H B' H' (x s) (tA s) (pA s) tB pB) (hl:bP C B' H' (x s) tB pB L') :
  ∃ ρ',St Bv C B' H' n x (at2 tA s tB) (at2 pA s pB) d sl (at2 L s L') rows ρ' m ex eo∧∀ a,a≠tB→a≠pB→ρ' a=ρ a:=by
 have old:∀ {a:Addr} {i:Nat},ρ a=i→i≠10+s→i≠20+s→i≠30+s→∀ o,H a=some o→H' a=some o:=fun {a i} e n1 n2 n3 o g=>mv.k a o (dM e (h.rx s hs) n1) (dM e (h.rt s hs) n2) (dM e (h.rp s hs) n3) g
 have nt:∀ {a:Addr} {i:Nat},ρ a=i→i≠20+s→H a≠none→a≠tB:=fun {a i} e n1 g z=>by
  rcases mv.t with y | y
  ·exact dM e (h.rt s hs) n1 (z.trans y)
  ·exact g (by rw [z];exact y)
 have np:∀ {a:Addr} {i:Nat},ρ a=i→i≠30+s→H a≠none→a≠pB:=fun {a i} e n1 g z=>by
  rcases mv.p with y | y
  ·exact dM e (h.rp s hs) n1 (z.trans y)
  ·exact g (by rw [z];exact y)
 have rr:∀ {a:Addr} {i:Nat},ρ a=i→i≠20+s→i≠30+s→H a≠none→(fun b=>if b=tB then 20+s else if b=pB then 30+s else ρ b) a=i:=fun {a i} e n1 n2 g=>by
  show (if a=tB then 20+s else if a=pB then 30+s else ρ a)=i
  rw [if_neg (nt e n1 g),if_neg (np e n2 g)];exact e
 refine ⟨fun b=>if b=tB then 20+s else if b=pB then 30+s else ρ b,⟨hl.sb,?_,?_,?_,?_,?_,?_,fun i hi=>old (h.er i hi) (by omega) (by omega) (by omega) _ (h.ee i hi),fun i hi=>mv.no _ (h.he hi) (h.eb i hi),fun i hi=>rr (h.er i hi) (by omega) (by omega) (h.he hi),h.en⟩,fun a h1 h2=>by show (if a=tB then 20+s else if a=pB then 30+s else ρ a)=ρ a;rw [if_neg h1,if_neg h2]⟩
 ·intro i hi
  by_cases z:i=s
  ·subst z;rw [aJ,aJ,aJ];exact hl
  ·rw [aT z,aT z,aT z]
   exact (h.lk i hi).mv hl.sb mv.bb mv.no (old (h.rx i hi) (by omega) (by omega) (by omega)) (old (h.rt i hi) (by omega) (by omega) (by omega)) (old (h.rp i hi) (by omega) (by omega) (by omega))
 ·intro i hi
  exact (h.cg i hi).mv mb mv.bb mv.no fun j hj=>old (h.rs i hi j hj) (by omega) (by omega) (by omega)
 ·intro i hi
  exact rr (h.rx i hi) (by omega) (by omega) (h.lk i hi).hx
 ·intro i hi
  by_cases z:i=s
  ·subst z;rw [aJ];exact if_pos rfl
  ·rw [aT z];exact rr (h.rt i hi) (by omega) (by omega) (h.lk i hi).ht
 ·intro i hi
  by_cases z:i=s
  ·subst z
   rw [aJ]
   show (if pB=tB then 20+i else if pB=pB then 30+i else ρ pB)=_
   rw [if_neg (Ne.symm hl.ne),if_pos rfl]
  ·rw [aT z];exact rr (h.rp i hi) (by omega) (by omega) (h.lk i hi).hp
 ·intro i hi j hj
  exact rr (h.rs i hi j hj) (by omega) (by omega) ((h.cg i hi).at_ j hj).val
theorem St.gv (mb:dj Bv) {ra:Nat→List Rw} (h:St Bv C B H n x tA pA d sl L rows ρ m ex eo) (hs:s < 2) (g:Gv B H B' H' (sl s) n) (c:Cg Bv B' H' (d s) (sl s) n ra):St Bv C B' H' n x tA pA d sl L (at2 rows s ra) ρ m ex eo:=by
 have old:∀ {a:Addr} {i:Nat},ρ a=i→i≠50+s→∀ o,H a=some o→H' a=some o:=fun {a i} e n1 o q=>g.fr a o (fun j hj=>dM e (h.rs s hs j hj) n1) q
 refine ⟨g.bh,?_,?_,h.rx,h.rt,h.rp,h.rs,fun i hi=>old (h.er i hi) (by omega) _ (h.ee i hi),fun i hi=>g.no _ (h.he hi) (h.eb i hi),h.er,h.en⟩
 ·intro i hi
  exact (h.lk i hi).mv g.bh g.bb g.no (old (h.rx i hi) (by omega)) (old (h.rt i hi) (by omega)) (old (h.rp i hi) (by omega))
 ·intro i hi
  by_cases z:i=s
  ·subst z;rw [aJ];exact c
  ·rw [aT z]
   exact (h.cg i hi).mv mb g.bb g.no fun j hj=>old (h.rs i hi j hj) (by omega)
theorem St.grow (mb:dj Bv) {a:Addr} {o:HO} (h:St Bv C B H n x tA pA d sl L rows ρ m ex eo) (s:aI H H') (na:H a=none) (ea:H' a=some o) :
  St Bv C (upd B a o) H' n x tA pA d sl L rows ρ m ex eo∧aI B (upd B a o):=by
 have h1:=h.same mb s
 have sB:aI B (upd B a o):=(aI.refl _).new (h.sb.free na)
 have no:∀ b,H b≠none→B b=none→(upd B a o) b=none:=fun b hb e=>by rw [aE (fun z=>hb (by rw [z];exact na))];exact e
 have Fe:aI (upd B a o) H':=fun b u e=>by
  by_cases z:b=a
  ·rw [z] at e ⊢;rw [aB] at e;rw [ea];exact e
  ·rw [aE z] at e;exact h1.sb _ _ e
 exact ⟨⟨Fe,fun i hi=>(h.lk i hi).mv Fe sB no (fun o e=>s _ _ e) (fun o e=>s _ _ e) (fun o e=>s _ _ e),fun i hi=>(h.cg i hi).mv mb sB no fun j _ o e=>s _ _ e,h.rx,h.rt,h.rp,h.rs,h1.ee,fun i hi=>no _ (h.he hi) (h.eb i hi),h.er,h.en⟩,sB⟩
theorem St.chg (mb:dj Bv) (h:St Bv C B H n x tA pA d sl L rows ρ m ex eo) (fr:∀ a o,(∀ i,i < m→a≠ex i)→H a=some o→H' a=some o) (Wh:∀ i,i < m→H' (ex i)=some (Qt i)) (Ji:∀ i,i < m→rH (Qt i)):St Bv C B H' n x tA pA d sl L rows ρ m ex Qt:=by
 have old:∀ {b:Addr} {k:Nat},ρ b=k→k < 100→∀ u,H b=some u→H' b=some u:=fun {b k} q n1 u g=>fr b u (fun i hi=>dM q (h.er i hi) (by omega)) g
 have Fe:aI B H':=fun a o e=>fr a o (fun i hi z=>by rw [z,h.eb i hi] at e;cases e) (h.sb _ _ e)
 exact ⟨Fe,fun i hi=>(h.lk i hi).mv Fe (aI.refl _) (fun _ _ z=>z) (old (h.rx i hi) (by omega)) (old (h.rt i hi) (by omega)) (old (h.rp i hi) (by omega)),fun i hi=>(h.cg i hi).mv mb (aI.refl _) (fun _ _ z=>z) fun j hj=>old (h.rs i hi j hj) (by omega),h.rx,h.rt,h.rp,h.rs,Wh,h.eb,h.er,Ji⟩
theorem St.put (mb:dj Bv) {i:Nat} {o:HO} (h:St Bv C B H n x tA pA d sl L rows ρ m ex eo) (hi:i < m) (no:rH o):St Bv C B (upd H (ex i) o) n x tA pA d sl L rows ρ m ex (at2 eo i o):=by
 refine h.chg mb (fun a u hn e=>by rw [aE (hn i hi)];exact e) (fun k hk=>?_) (fun k hk=>?_)
 ·by_cases z:k=i
  ·rw [z,aJ];exact aB
  ·rw [aT z,aE (dM (h.er k hk) (h.er i hi) (by omega))];exact h.ee k hk
 ·by_cases z:k=i
  ·rw [z,aJ];exact no
  ·rw [aT z];exact h.en k hk
theorem St.re (h:St Bv C B H n x tA pA d sl L rows ρ m ex eo) {L':Nat→Lk} {Qt:Nat→HO} (hL:∀ s,s < 2→L' s=L s) (hE:∀ i,i < m→Qt i=eo i):St Bv C B H n x tA pA d sl L' rows ρ m ex Qt :=
 ⟨h.sb,fun s hs=>by rw [hL s hs];exact h.lk s hs,h.cg,h.rx,h.rt,h.rp,h.rs,fun i hi=>by rw [hE i hi];exact h.ee i hi,h.eb,h.er,fun i hi=>by rw [hE i hi];exact h.en i hi⟩
end
section
def nP (B H:Hp):Hp:=fun a=>match H a with
 | some (.tup xs)=>some (.tup xs)
 | some (.yC o u)=>some (.yC o u)
 | _=>B a
theorem Ff {B H:Hp} {a:Addr} {o:HO} (h:H a=some o) (n:rH o):nP B H a=B a:=by
 unfold nP
 rw [h]
 cases o with
 | tup xs=>exact absurd rfl (n.t xs)
 | yC b u=>exact absurd rfl (n.f b u)
 | _=>rfl
theorem Jj {B H:Hp} {a:Addr} {xs:List V} (h:H a=some (.tup xs)):nP B H a=some (.tup xs):=by unfold nP;rw [h]
theorem rJ {B H:Hp} {K:PySem.W.Frag} {a:Addr} {xs:List V} (h:cP K H a xs):cP K (nP B H) a xs:=by
 rcases h with (h | ⟨o,h⟩) | h
 ·exact .inl (.inl (Jj h))
 ·exact .inl (.inr ⟨o,by unfold nP;rw [h]⟩)
 ·exact .inr h
theorem gC {B H:Hp} (s:aI B H):aI B (nP B H):=fun a o e=>by
 have h:=s _ _ e
 unfold nP
 rw [h]
 cases o with
 | tup xs=>rfl
 | yC b u=>rfl
 | _=>exact e
theorem rK {B H:Hp} (s:aI B H):aI (nP B H) H:=fun a o e=>by
 unfold nP at e
 split at e
 ·rename_i xs h;rw [h];exact e
 ·rename_i b u h;rw [h];exact e
 ·exact s _ _ e
theorem St.Nz {Bv:zq} {C:Addr} {B H:Hp} {n:Nat} {x tA pA d:Nat→Addr} {sl:Nat→Nat→Addr} {L:Nat→Lk} {rows:Nat→Nat→List Rw} {ρ:Addr→Nat} {m:Nat} {ex:Nat→Addr} {eo:Nat→HO} (mb:dj Bv) (h:St Bv C B H n x tA pA d sl L rows ρ m ex eo):St Bv C (nP B H) H n x tA pA d sl L rows ρ m ex eo:=by
 have no:∀ {a:Addr} {o:HO},H a=some o→rH o→B a=none→nP B H a=none:=fun {a o} e n z=>by rw [Ff e n];exact z
 refine ⟨rK h.sb,?_,?_,h.rx,h.rt,h.rp,h.rs,h.ee,fun i hi=>no (h.ee i hi) (h.en i hi) (h.eb i hi),h.er,h.en⟩
 ·intro s hs
  have l:=h.lk s hs
  obtain ⟨dx,pv,g,gp⟩:=l.at_
  obtain ⟨jK,g2,xP⟩:=l.told
  obtain ⟨df,g3,rX⟩:=l.bE
  have sB:=gC h.sb
  exact ⟨rK h.sb,no g ⟨(fun _ z=>by cases z),(fun _ _ z=>by cases z)⟩ l.bx,no g2 (dU _) l.bt,no g3 (dU _) l.bp,⟨dx,pv,g,gp.mono sB⟩,⟨jK,g2,fun y e he=>(xP y e he).mono sB⟩,⟨df,g3,fun y xs hy=>sB _ _ (rX y xs hy)⟩,l.ne⟩
 ·intro s hs
  have c:=h.cg s hs
  refine ⟨gC h.sb _ _ c.dl,c.inj,fun j hj=>(c.at_ j hj).keep mb (gC h.sb) ?_ rfl⟩
  obtain ⟨_,g,_⟩:=(c.at_ j hj).at_
  exact no g (dU _) (c.at_ j hj).no
end
open Classical in
noncomputable def b8 (x t p:Nat→Addr) (sl:Nat→Nat→Addr) (n m:Nat) (ex:Nat→Addr) (a:Addr):Nat :=
 if a=x 0 then 10 else if a=x 1 then 11 else if a=t 0 then 20 else if a=t 1 then 21 else if a=p 0 then 30 else if a=p 1 then 31
 else if ∃ j,j < n∧a=sl 0 j then 50 else if ∃ j,j < n∧a=sl 1 j then 51 else if h:∃ i,i < m∧a=ex i then 100+Classical.choose h else 0
structure Apart (x t p:Nat→Addr) (sl:Nat→Nat→Addr) (n m:Nat) (ex:Nat→Addr):Prop where
 nd:[x 0,x 1,t 0,t 1,p 0,p 1].Nodup
 s0:∀ j,j < n→sl 0 j ∉ [x 0,x 1,t 0,t 1,p 0,p 1]
 s1:∀ j,j < n→sl 1 j ∉ [x 0,x 1,t 0,t 1,p 0,p 1]
 ss:∀ i j,i < n→j < n→sl 1 i≠sl 0 j
 ei:∀ i j,i < m→j < m→ex i=ex j→i=j
 ea:∀ i,i < m→ex i ∉ [x 0,x 1,t 0,t 1,p 0,p 1]
 e0:∀ i,i < m→∀ j,j < n→ex i≠sl 0 j
 e1:∀ i,i < m→∀ j,j < n→ex i≠sl 1 j
def aU {α:Type} (a b:α):Nat→α:=fun s=>if s=0 then a else b
theorem bK {q:Nat→Prop} (h0:q 0) (h1:q 1):∀ s,s < 2→q s:=fun s hs=>by
 match s,hs with
 | 0,_=>exact h0
 | 1,_=>exact h1
 | s+2,hs=>omega
section
variable {x t p:Nat→Addr} {sl:Nat→Nat→Addr} {n m:Nat} {ex:Nat→Addr}
theorem nQ {a:Addr} (h1:a ∉ [x 0,x 1,t 0,t 1,p 0,p 1]) (h2:∀ j,j < n→a≠sl 0 j) (h3:∀ j,j < n→a≠sl 1 j) (h4:∀ i,i < m→a≠ex i):b8 x t p sl n m ex a=0:=by
 simp only [List.mem_cons,List.not_mem_nil,or_false,not_or] at h1
 obtain ⟨a1,a2,a3,a4,a5,a6⟩:=h1
 unfold b8
 rw [if_neg a1,if_neg a2,if_neg a3,if_neg a4,if_neg a5,if_neg a6,if_neg (fun ⟨j,hj,e⟩=>h2 j hj e),if_neg (fun ⟨j,hj,e⟩=>h3 j hj e),dif_neg (fun ⟨j,hj,e⟩=>h4 j hj e)]
theorem Fg (h:Apart x t p sl n m ex):(∀ s,s < 2→b8 x t p sl n m ex (x s)=10+s)∧(∀ s,s < 2→b8 x t p sl n m ex (t s)=20+s)∧(∀ s,s < 2→b8 x t p sl n m ex (p s)=30+s)∧(∀ s,s < 2→∀ j,j < n→b8 x t p sl n m ex (sl s j)=50+s)∧(∀ i,i < m→b8 x t p sl n m ex (ex i)=100+i):=by
 have nd:=h.nd
 simp only [List.nodup_cons,List.mem_cons,List.not_mem_nil,or_false,not_or,List.nodup_nil,and_true,not_false_eq_true] at nd
 obtain ⟨⟨a1,a2,a3,a4,a5⟩,⟨b1,b2,b3,b4⟩,⟨c1,c2,c3⟩,⟨d1,d2⟩,e1⟩:=nd
 refine ⟨bK ?_ ?_,bK ?_ ?_,bK ?_ ?_,bK ?_ ?_,?_⟩
 ·unfold b8;rw [if_pos rfl]
 ·unfold b8;rw [if_neg (Ne.symm a1),if_pos rfl]
 ·unfold b8;rw [if_neg (Ne.symm a2),if_neg (Ne.symm b1),if_pos rfl]
 ·unfold b8;rw [if_neg (Ne.symm a3),if_neg (Ne.symm b2),if_neg (Ne.symm c1),if_pos rfl]
 ·unfold b8;rw [if_neg (Ne.symm a4),if_neg (Ne.symm b3),if_neg (Ne.symm c2),if_neg (Ne.symm d1),if_pos rfl]
 ·unfold b8;rw [if_neg (Ne.symm a5),if_neg (Ne.symm b4),if_neg (Ne.symm c3),if_neg (Ne.symm d2),if_neg (Ne.symm e1),if_pos rfl]
 ·intro j hj
  have h1:=h.s0 j hj
  simp only [List.mem_cons,List.not_mem_nil,or_false,not_or] at h1
  obtain ⟨u1,u2,u3,u4,u5,u6⟩:=h1
  unfold b8
  rw [if_neg u1,if_neg u2,if_neg u3,if_neg u4,if_neg u5,if_neg u6,if_pos ⟨j,hj,rfl⟩]
 ·intro j hj
  have h1:=h.s1 j hj
  simp only [List.mem_cons,List.not_mem_nil,or_false,not_or] at h1
  obtain ⟨u1,u2,u3,u4,u5,u6⟩:=h1
  unfold b8
  rw [if_neg u1,if_neg u2,if_neg u3,if_neg u4,if_neg u5,if_neg u6,if_neg (fun ⟨i,hi,e⟩=>h.ss j i hj hi e),if_pos ⟨j,hj,rfl⟩]
 ·intro i hi
  have h1:=h.ea i hi
  simp only [List.mem_cons,List.not_mem_nil,or_false,not_or] at h1
  obtain ⟨u1,u2,u3,u4,u5,u6⟩:=h1
  have hx:∃ k,k < m∧ex i=ex k:=⟨i,hi,rfl⟩
  unfold b8
  rw [if_neg u1,if_neg u2,if_neg u3,if_neg u4,if_neg u5,if_neg u6,if_neg (fun ⟨j,hj,e⟩=>h.e0 i hi j hj e),if_neg (fun ⟨j,hj,e⟩=>h.e1 i hi j hj e),dif_pos hx]
  have:=Classical.choose_spec hx
  rw [← h.ei i _ hi this.1 this.2]
end
theorem St.start {Bv:zq} {C:Addr} {H:Hp} {n m:Nat} {ex:Nat→Addr} {eo:Nat→HO} {x t p d:Nat→Addr} {sl:Nat→Nat→Addr} {L:Nat→Lk} (ap:Apart x t p sl n m ex) (lk:∀ s,s < 2→∃ B0,bP C B0 H (x s) (t s) (p s) (L s)) (le:∀ s,s < 2→(L s).ev=[]∧(L s).bE=[]∧(L s).p=none)
  (dl:∀ s,s < 2→H (d s)=some (.lst (bW n (sl s)))) (dz:∀ s,s < 2→b8 x t p sl n m ex (d s)=0) (inj:∀ s,s < 2→∀ i j,i < n→j < n→sl s i=sl s j→i=j) (Wi:∀ s,s < 2→∀ j,j < n→H (sl s j)=some (.lst [])) (ee:∀ i,i < m→H (ex i)=some (eo i)) (en:∀ i,i < m→rH (eo i)) :
  ∃ B,St Bv C B H n x t p d sl L (fun _ _=>[]) (b8 x t p sl n m ex) m ex eo∧∀ a o,b8 x t p sl n m ex a=0→H a=some o→B a=some o:=by
 obtain ⟨r1,r2,r3,r5,r6⟩:=Fg ap
 have no:∀ {a:Addr} {k:Nat},b8 x t p sl n m ex a=k→k≠0→(fun a=>if b8 x t p sl n m ex a=0 then H a else none) a=none:=fun {a k} e h=>by
  show (if b8 x t p sl n m ex a=0 then H a else none)=none
  rw [if_neg (by rw [e];exact h)]
 have yes:∀ a o,b8 x t p sl n m ex a=0→H a=some o→(fun a=>if b8 x t p sl n m ex a=0 then H a else none) a=some o:=fun a o e h=>by
  show (if b8 x t p sl n m ex a=0 then H a else none)=some o
  rw [if_pos e];exact h
 have sb:aI (fun a=>if b8 x t p sl n m ex a=0 then H a else none) H:=fun a o e=>by
  by_cases z:b8 x t p sl n m ex a=0
  ·have e:(if b8 x t p sl n m ex a=0 then H a else none)=some o:=e
   rw [if_pos z] at e;exact e
  ·have e:(if b8 x t p sl n m ex a=0 then H a else none)=some o:=e
   rw [if_neg z] at e;cases e
 refine ⟨fun a=>if b8 x t p sl n m ex a=0 then H a else none,⟨sb,?_,?_,r1,r2,r3,r5,ee,fun i hi=>no (r6 i hi) (by omega),r6,en⟩,yes⟩
 ·intro s hs
  obtain ⟨B0,l⟩:=lk s hs
  obtain ⟨q1,q2,q3⟩:=le s hs
  obtain ⟨dx,pv,g,gp⟩:=l.at_
  obtain ⟨jK,g2,xP⟩:=l.told
  obtain ⟨df,g3,rX⟩:=l.bE
  refine ⟨sb,no (r1 s hs) (by omega),no (r2 s hs) (by omega),no (r3 s hs) (by omega),⟨dx,pv,g,?_⟩,⟨jK,g2,fun y e he=>by rw [q1] at he;cases he⟩,⟨df,g3,fun y e he=>by rw [q2] at he;cases he⟩,l.ne⟩
  rw [q3] at gp ⊢;exact gp
 ·intro s hs
  exact ⟨yes _ _ (dz s hs) (dl s hs),inj s hs,fun j hj=>⟨no (r5 s hs j hj) (by omega),fun _=>0,Wi s hs j hj,fun y r e=>by cases e⟩⟩
theorem jr {f:Nat→Addr} {s:Nat} (h:s < 2):tu [V.ref (f 0),V.ref (f 1)] (s:Int)=some (.ref (f s)):=by
 match s,h with
 | 0,_=>rfl
 | 1,_=>rfl
 | s+2,h=>omega
theorem MX {f:Nat→Int} {s:Nat} (h:s < 2):tu [V.int (f 0),V.int (f 1)] (s:Int)=some (.int (f s)):=by
 match s,h with
 | 0,_=>rfl
 | 1,_=>rfl
 | s+2,h=>omega
structure Py (H0 H:Hp) (D:Addr) (sl:Nat→Addr) (n:Nat):Prop where
 sm:aI H0 H
 nD:H0 D=none
 at_:H D=some (.lst (bW n sl))
 em:∀ j,j < n→H (sl j)=some (.lst [])
 no:∀ j,j < n→H0 (sl j)=none
 nd:∀ j,j < n→sl j≠D
 inj:∀ i j,i < n→j < n→sl i=sl j→i=j
theorem Py.step {H0 H:Hp} {D p:Addr} {sl:Nat→Addr} {n:Nat} (h:Py H0 H D sl n) (hp:H p=none):Py H0 (upd (upd H p (.lst [])) D (.lst (bW n sl ++ [.ref p]))) D (fun j=>if j=n then p else sl j) (n+1):=by
 have YZ:D≠p:=aM h.at_ hp
 refine ⟨(h.sm.new hp).put h.nD,h.nD,by rw [aB,dF],fun j hj=>?_,fun j hj=>?_,fun j hj=>?_,fun i j hi hj e=>?_⟩
 ·by_cases z:j=n
  ·simp only [z,if_true]
   rw [aE (Ne.symm YZ)];exact aB
  ·simp only [z,if_false]
   have Kg:j < n:=by omega
   rw [aE (h.nd j Kg),aE (aM (h.em j Kg) hp)];exact h.em j Kg
 ·by_cases z:j=n
  ·simp only [z,if_true];exact h.sm.free hp
  ·simp only [z,if_false];exact h.no j (by omega)
 ·by_cases z:j=n
  ·simp only [z,if_true];exact Ne.symm YZ
  ·simp only [z,if_false];exact h.nd j (by omega)
 ·by_cases zi:i=n
  ·by_cases zj:j=n
   ·omega
   ·simp only [zi,zj,if_true,if_false] at e
    have Kg:j < n:=by omega
    exact absurd e.symm (aM (h.em j Kg) hp)
  ·by_cases zj:j=n
   ·simp only [zi,zj,if_true,if_false] at e
    have hi':i < n:=by omega
    exact absurd e (aM (h.em i hi') hp)
   ·simp only [zi,zj,if_false] at e
    exact h.inj i j (by omega) (by omega) e
def Fh:zq:=fun _ v _=>v=.bq
theorem ij:dj Fh:=fun _ _ _ _ _ h=>h
end
end K37
namespace K37
open PySem L2 PyProof.Rows
section
variable {P:Program} {w:World} {K:PySem.W.Frag} {mg:Str→Option Value} {base:Heap} {t:Ad}
def ao (L:Lk) (bs:List Cl):Lk:={ bL L bs with ev:=[] }
def aN (rs:List Rw):List Cl:=rs.filterMap fun r=>if r.rd=true then some r.b else none
theorem ik {rs:List Rw} {x:Cl} (h:x ∈ aN rs):∃ row ∈ rs,row.rd=true∧row.b=x:=by
 obtain ⟨y,hy,e⟩:=List.mem_filterMap.mp h
 split at e
 ·rename_i z;cases e;exact ⟨y,hy,z,rfl⟩
 ·cases e
def Pz (r:Rw):Cm:=(r.f,if r.rd=true then some r.b else none)
theorem Jk (rs:List Rw):cN (rs.map Pz)=aN rs:=by
 unfold cN aN
 rw [List.filterMap_map]
 rfl
theorem nR {rows:Nat→List Rw} {tick:Nat} {b:Cl}:∀ (fs:Ft) (j:Nat) (r:Rw),r ∈ fE rows tick b fs j→r ∈ rows j∨∃ d ∈ fs,j=tick+d.1.toNat∧r=dS b d.2:=by
 intro fs
 induction fs generalizing rows with
 | nil=>intro j r h;exact .inl h
 | cons d rest ih =>
  intro j r h
  rcases ih (rows:=sv rows (tick+d.1.toNat) (dS b d.2)) j r h with z | ⟨x,hx,z⟩
  ·have z:r ∈ (if j=tick+d.1.toNat then rows j ++ [dS b d.2] else rows j):=z
   split at z
   ·rename_i e
    rcases List.mem_append.mp z with y | y
    ·exact .inl y
    ·exact .inr ⟨d,List.mem_cons_self,e,List.mem_singleton.mp y⟩
   ·exact .inl z
  ·exact .inr ⟨x,List.mem_cons_of_mem _ hx,z⟩
theorem dr.TL {G:Gh} {s:Nat} {a:Cl} {m n:Nat} (h:dr G s a m) (hm:m≤n):dr G s a n:=by
 obtain ⟨nc,cc,h1,h2,h3,h4,h5,h6,h7⟩:=h.ex
 exact ⟨⟨nc,cc,h1,h2,h3,h4,by omega,by omega,h7⟩,h.m⟩
theorem En.grow {r s:Nat} {β:Int} {G G':Gh} {L:Lk} (g:jL r β G G') (hs:s≠r) (h:En G s L):En G' s L:=by
 have fr:∀ {P:Pr},nN G s P→nN G' s P:=fun {P} f=>⟨by rw [g.w];exact f.w,by rw [g.o s hs];exact f.o,by rw [g.k s hs];exact f.k,by rw [g.u s hs];exact f.u⟩
 exact ⟨h.sd,by rw [g.o s hs];exact h.o,by rw [g.k s hs];exact h.t,by rw [g.w,g.o s hs];exact h.p,by rw [g.w,g.o s hs];exact h.ow,fun z=>fr (h.dn z),by rw [g.u s hs];exact h.up,fun P hP=>fr (h.un P hP),by rw [g.u s hs];exact h.um⟩
structure xD (late:Int) (G:Gh) (L:Nat→Lk) (rows:Nat→Nat→List Rw):Prop where
 en:∀ s,s < 2→En G s (L s)
 rel:Rel G
 ag:∀ s,s < 2→∀ (j:Nat) (row:Rw),row ∈ rows (1 - s) j→∃ ym:Nat,dr G s row.b ym∧(ym:Int)+j+1≤(L s).d+late
 bi:∀ s,s < 2→∀ (j:Nat) (row:Rw),row ∈ rows (1 - s) j→row.b.b≤(L s).b∧row.b.k≤(L (1 - s)).b
 kb:∀ s,s < 2→0≤(L (1 - s)).b∧(L s).k≤(L (1 - s)).b∧∀ P,G.U s P→AV s P≤(L (1 - s)).b
theorem DQ (L:Lk) (bs:List Cl):(bL L bs).d=L.d+1∧(bL L bs).s=L.s∧(bL L bs).q=L.q:=by
 have mt:∀ (L:Lk) (n:Int),(aw L n).d=L.d∧(aw L n).s=L.s∧(aw L n).q=L.q:=fun L n=>by
  unfold aw
  cases L.p with
  | none=>exact ⟨rfl,rfl,rfl⟩
  | some p=>simp only;split <;> exact ⟨rfl,rfl,rfl⟩
 have cm:∀ L:Lk,(bA L).d=L.d∧(bA L).s=L.s∧(bA L).q=L.q:=fun L=>by
  unfold bA
  cases L.p <;> exact ⟨rfl,rfl,rfl⟩
 have hr:∀ (L:Lk) (c:Int),(bB L c).d=L.d∧(bB L c).s=L.s∧(bB L c).q=L.q:=fun L c=>by unfold bB;split <;> exact ⟨rfl,rfl,rfl⟩
 have tk:∀ (L:Lk) (n:Int) (xs:List Int),(bO L n xs).d=L.d∧(bO L n xs).s=L.s∧(bO L n xs).q=L.q:=fun L n xs=>by unfold bO;split <;> exact ⟨rfl,rfl,rfl⟩
 have rd:∀ (L:Lk) (a:Cl),(aW L a).d=L.d∧(aW L a).s=L.s∧(aW L a).q=L.q:=fun L a=>by
  unfold aW
  split
  ·exact ⟨rfl,rfl,rfl⟩
  ·split
   ·obtain ⟨t1,t2,t3⟩:=tk (bB (bA (aw L a.b)) a.c) a.n a.xs
    obtain ⟨h1,h2,h3⟩:=hr (bA (aw L a.b)) a.c
    obtain ⟨c1,c2,c3⟩:=cm (aw L a.b)
    obtain ⟨m1,m2,m3⟩:=mt L a.b
    exact ⟨t1.trans (h1.trans (c1.trans m1)),t2.trans (h2.trans (c2.trans m2)),t3.trans (h3.trans (c3.trans m3))⟩
   ·exact mt L a.b
 have hd:∀ (bs:List Cl) (L:Lk),(aO L bs).d=L.d∧(aO L bs).s=L.s∧(aO L bs).q=L.q:=fun bs=>by
  induction bs with
  | nil=>intro L;exact ⟨rfl,rfl,rfl⟩
  | cons a r ih =>
   intro L
   obtain ⟨i1,i2,i3⟩:=ih (aW L a)
   obtain ⟨r1,r2,r3⟩:=rd L a
   exact ⟨i1.trans r1,i2.trans r2,i3.trans r3⟩
 have qt:∀ L:Lk,(a9 L).d=L.d∧(a9 L).s=L.s∧(a9 L).q=L.q:=fun L=>by
  unfold a9
  split
  ·unfold eI
   cases L.p <;> exact ⟨rfl,rfl,rfl⟩
  ·exact ⟨rfl,rfl,rfl⟩
 obtain ⟨h1,h2,h3⟩:=hd bs L
 obtain ⟨q1,q2,q3⟩:=qt (eJ (aO L bs) bs)
 refine ⟨?_,q2.trans h2,q3.trans h3⟩
 show (a9 (eJ (aO L bs) bs)).d+1=_
 rw [q1];show (aO L bs).d+1=_;rw [h1]
theorem wA {B:Int}:∀ (bs:List Cl) (L:Lk),L.k≤B→(∀ a ∈ bs,a.b≤B)→(aO L bs).k≤B
 | [],_,h,_=>h
 | a :: r,L,h,hb=>by
  refine wA r (aW L a) ?_ fun x hx=>hb x (List.mem_cons_of_mem _ hx)
  have h1:a.b≤B:=hb a List.mem_cons_self
  unfold aW
  split
  ·exact h
  ·split
   ·have t1:(bO (bB (bA (aw L a.b)) a.c) a.n a.xs).k=(bB (bA (aw L a.b)) a.c).k:=by unfold bO;split <;> rfl
    have t2:(bB (bA (aw L a.b)) a.c).k=(bA (aw L a.b)).k:=by unfold bB;split <;> rfl
    rw [t1,t2,(DJ _).2,(sj _ _).2];exact h1
   ·rw [(sj _ _).2];exact h1
theorem Bq (L:Lk):((a9 L).b=L.b∧(a9 L).k=L.k)∨((a9 L).b=L.b+1∧(a9 L).k=0):=by
 unfold a9
 split
 ·right;unfold eI;cases L.p <;> exact ⟨rfl,rfl⟩
 ·exact .inl ⟨rfl,rfl⟩
theorem xD.step {late:Int} {G:Gh} {L:Nat→Lk} {rows:Nat→Nat→List Rw} {s T:Nat} {fs:Ft} (h:xD late G L rows) (hs:s < 2) (hd:(L s).d=(T:Int)) (ho:(L (1 - s)).d≤(T:Int)+1) (l6:late≤6) (hk:rY (L s)) (MP:∀ a ∈ aN (rows s T),AU a.b) (HZ:(L s).ev=[]) (gf:rD late fs) :
  ∃ G',xD late G' (at2 L s (ao (L s) (aN (rows s T)))) (at2 rows (1 - s) (fE (rows (1 - s)) T (bz (ao (L s) (aN (rows s T)))) fs))∧jL s (L s).b G G'∧pD (G.W (1 - s)) (wt G s (L s)) (bL (L s) (aN (rows s T))).ev (wt G' s (ao (L s) (aN (rows s T)))):=by
 have ne:1 - s≠s:=by omega
 have zp:1 - s < 2:=by omega
 have Bl:1 - (1 - s)=s:=by omega
 have hc:∀ a ∈ aN (rows s T),dr G (1 - s) a 8:=fun a ha=>by
  obtain ⟨row,q1,_,rfl⟩:=ik ha
  have:=h.ag (1 - s) zp T row
  rw [Bl] at this
  obtain ⟨ym,c1,c2⟩:=this q1
  exact c1.TL (by omega)
 have P0:∀ a ∈ aN (rows s T),a.b≤(L (1 - s)).b∧a.k≤(L s).b:=fun a ha=>by
  obtain ⟨row,q1,_,rfl⟩:=ik ha
  have:=h.bi (1 - s) zp T row
  rw [Bl] at this
  exact this q1
 obtain ⟨G',n1,r1,g1,t1,b1,u1⟩:=(h.en s hs).tick (bs:=aN (rows s T)) hs h.rel hk MP hc (fun a ha=>(P0 a ha).2) HZ
 obtain ⟨kb1,kb2,kb3⟩:=h.kb s hs
 have Ya:=wA (aN (rows s T)) (L s) kb2 fun a ha=>(P0 a ha).1
 have Yb:=h.kb (1 - s) zp
 rw [Bl] at Yb
 obtain ⟨kc1,kc2,Yc⟩:=Yb
 have lA:(L s).b≤(ao (L s) (aN (rows s T))).b∧(ao (L s) (aN (rows s T))).k≤(L (1 - s)).b:=by
  have hh:(eJ (aO (L s) (aN (rows s T))) (aN (rows s T))).b=(L s).b:=b1
  have hh2:(eJ (aO (L s) (aN (rows s T))) (aN (rows s T))).k≤(L (1 - s)).b:=Ya
  have e1:(ao (L s) (aN (rows s T))).b=(a9 (eJ (aO (L s) (aN (rows s T))) (aN (rows s T)))).b:=rfl
  have e2:(ao (L s) (aN (rows s T))).k=(a9 (eJ (aO (L s) (aN (rows s T))) (aN (rows s T)))).k:=rfl
  rw [e1,e2]
  rcases Bq (eJ (aO (L s) (aN (rows s T))) (aN (rows s T))) with ⟨z1,z2⟩ | ⟨z1,z2⟩
  ·rw [z1,z2];exact ⟨by omega,hh2⟩
  ·rw [z1,z2];exact ⟨by omega,kb1⟩
 obtain ⟨td,ts,tq⟩:=DQ (L s) (aN (rows s T))
 have dA:(ao (L s) (aN (rows s T))).d=(T:Int)+1:=by show (bL (L s) (aN (rows s T))).d=_;rw [td,hd]
 have nA:En G' s (ao (L s) (aN (rows s T))):=n1
 refine ⟨G',⟨fun i hi=>?_,r1,fun i hi j row dD=>?_,fun i hi j row dD=>?_,fun i hi=>?_⟩,g1,t1⟩
 ·by_cases z:i=s
  ·rw [z,aJ];exact nA
  ·rw [aT z];exact (h.en i hi).grow g1 z
 ·by_cases z:i=s
  ·subst z
   rw [aJ] at dD
   rw [aJ,dA]
   rcases nR fs j row dD with y | ⟨d,yt,rfl,rfl⟩
   ·obtain ⟨ym,c1,c2⟩:=h.ag i hi j row y
    obtain ⟨nc,cc,k1,k2,k3,k4,k5,k6,k7⟩:=c1.ex
    refine ⟨ym+1,⟨⟨nc,cc,k1,k2,Nat.le_trans k3 (g1.om _),Nat.le_trans k4 (g1.km _),?_,?_,by rw [g1.w];exact k7⟩,by rw [g1.u (1 - i) ne];exact c1.m⟩,by omega⟩
    ·have a1:=(r1 i hi (pr i row.b.b row.b.k)).1
     have a2:=(h.rel i hi (pr i row.b.b row.b.k)).2.1
     rw [g1.k (1 - i) ne] at a1
     omega
    ·have a1:=(r1 (1 - i) zp (pr i row.b.b row.b.k)).2.1
     have a2:=(h.rel (1 - i) zp (pr i row.b.b row.b.k)).1
     rw [Bl] at a1 a2
     rw [g1.o (1 - i) ne] at a1
     omega
   ·generalize ao (L i) (aN (rows i T))=LA at *
    have b1:=(gf.at_ d yt).1
    have b2:=(gf.at_ d yt).2.1
    refine ⟨0,⟨⟨G'.O i (pr i LA.b LA.k),G'.K i (pr i LA.b LA.k),nA.o,nA.t,Nat.le_refl _,Nat.le_refl _,Nat.le_refl _,Nat.le_refl _,?_⟩,fun P hP _=>by rw [g1.u (1 - i) ne] at hP;exact Int.le_trans (Yc P hP) lA.1⟩,by omega⟩
    show LA.bE.headD []=[]∨(G'.W i (pr i LA.b LA.k))[G'.O i (pr i LA.b LA.k)]?=some (LA.bE.headD [])
    have hp:=nA.p
    cases e:LA.bE with
    | nil=>exact .inl rfl
    | cons x r =>
     right
     rw [e] at hp
     have:((G'.W i (pr i LA.b LA.k)).drop (G'.O i (pr i LA.b LA.k)))[0]?=some x:=by rw [← hp];rfl
     rw [List.getElem?_drop] at this
     exact this
  ·have ei:i=1 - s:=by omega
   subst ei
   rw [Bl] at dD
   rw [aT (by omega)] at dD
   rw [aT ne]
   have:=h.ag (1 - s) hi j row
   rw [Bl] at this
   obtain ⟨ym,c1,c2⟩:=this dD
   have b2:=h.bi (1 - s) hi j row
   rw [Bl] at b2
   exact ⟨ym,c1.grow g1 ne (by omega) (b2 dD).2,c2⟩
 ·by_cases z:i=s
  ·subst z
   rw [aJ] at dD
   rw [aJ,aT ne]
   rcases nR fs j row dD with y | ⟨d,yt,rfl,rfl⟩
   ·obtain ⟨y1,y2⟩:=h.bi i hi j row y
    exact ⟨Int.le_trans y1 lA.1,y2⟩
   ·exact ⟨Int.le_refl _,lA.2⟩
  ·have ei:i=1 - s:=by omega
   subst ei
   rw [Bl] at dD
   rw [aT (by omega)] at dD
   rw [aT ne,Bl,aJ]
   have b2:=h.bi (1 - s) hi j row
   rw [Bl] at b2
   exact ⟨(b2 dD).1,Int.le_trans (b2 dD).2 lA.1⟩
 ·by_cases z:i=s
  ·subst z
   rw [aJ,aT ne]
   exact ⟨kb1,lA.2,fun P hP=>(u1 P hP).elim (kb3 P) fun y=>Int.le_trans y Ya⟩
  ·have ei:i=1 - s:=by omega
   subst ei
   rw [aT ne,Bl,aJ,g1.u (1 - s) ne]
   exact ⟨Int.le_trans kc1 lA.1,Int.le_trans kc2 lA.1,fun P hP=>Int.le_trans (Yc P hP) lA.1⟩
theorem xD.put {late:Int} {G:Gh} {L:Nat→Lk} {rows:Nat→Nat→List Rw} {s:Nat} {xs:List Int} (h:xD late G L rows) (hs:s < 2) (hu:(L s).p≠none) :
  xD late ⟨cR G.W s (pr s (L s).b (L s).k) (G.W s (pr s (L s).b (L s).k) ++ [xs]),G.O,G.K,G.U⟩ (at2 L s { L s with bE:=(L s).bE ++ [xs] }) rows:=by
 have n0:=h.en s hs
 have pk:∀ P,Unr s (L s) P→P≠pr s (L s).b (L s).k:=fun P hP y=>by
  rw [y] at hP
  rcases hP with w | ⟨_,w⟩
  ·rw [nM] at w;omega
  ·rw [su] at w;omega
 have wl:∀ i P,(G.W i P).length≤(cR G.W s (pr s (L s).b (L s).k) (G.W s (pr s (L s).b (L s).k) ++ [xs]) i P).length:=fun i P=>by
  by_cases y:i=s∧P=pr s (L s).b (L s).k
  ·rw [y.1,y.2,bJ,List.length_append];omega
  ·rw [bj y];exact Nat.le_refl _
 have eb:∀ i,(at2 L s { L s with bE:=(L s).bE ++ [xs] } i).b=(L i).b∧(at2 L s { L s with bE:=(L s).bE ++ [xs] } i).k=(L i).k:=fun i=>by
  by_cases z:i=s
  ·rw [z,aJ];exact ⟨rfl,rfl⟩
  ·rw [aT z];exact ⟨rfl,rfl⟩
 refine ⟨fun i hi=>?_,fun i hi P=>?_,fun i hi j row dD=>?_,fun i hi j row dD=>by rw [(eb _).1,(eb _).1];exact h.bi i hi j row dD,fun i hi=>by rw [(eb _).1,(eb _).2];exact h.kb i hi⟩
 ·by_cases z:i=s
  ·subst z
   rw [aJ]
   refine ⟨n0.sd,n0.o,n0.t,?_,?_,fun y=>absurd y hu,n0.up,fun P hP=>?_,n0.um⟩
   ·show (L i).bE ++ [xs]=(cR G.W i (pr i (L i).b (L i).k) (G.W i (pr i (L i).b (L i).k) ++ [xs]) i (pr i (L i).b (L i).k)).drop (G.O i (pr i (L i).b (L i).k))
    rw [bJ,List.drop_append_of_le_length n0.ow,n0.p]
   ·exact Nat.le_trans n0.ow (wl i _)
   ·have f:=n0.un P hP
    exact ⟨by show cR G.W i (pr i (L i).b (L i).k) _ i P=[];rw [bj (fun y=>pk P hP y.2)];exact f.w,f.o,f.k,f.u⟩
  ·rw [aT z]
   have n1:=h.en i hi
   have we:∀ P,cR G.W s (pr s (L s).b (L s).k) (G.W s (pr s (L s).b (L s).k) ++ [xs]) i P=G.W i P:=fun P=>bj fun y=>z y.1
   have fr:∀ {P:Pr},nN G i P→nN ⟨cR G.W s (pr s (L s).b (L s).k) (G.W s (pr s (L s).b (L s).k) ++ [xs]),G.O,G.K,G.U⟩ i P:=fun {P} f=>⟨(we P).trans f.w,f.o,f.k,f.u⟩
   exact ⟨n1.sd,n1.o,n1.t,by show _=(cR G.W s _ _ i _).drop _;rw [we];exact n1.p,by show _≤(cR G.W s _ _ i _).length;rw [we];exact n1.ow,fun y=>fr (n1.dn y),n1.up,fun P hP=>fr (n1.un P hP),n1.um⟩
 ·obtain ⟨r1,r2,r3⟩:=h.rel i hi P
  exact ⟨r1,r2,Nat.le_trans r3 (wl i P)⟩
 ·obtain ⟨ym,c1,c2⟩:=h.ag i hi j row dD
  obtain ⟨nc,cc,k1,k2,k3,k4,k5,k6,k7⟩:=c1.ex
  refine ⟨ym,⟨⟨nc,cc,k1,k2,k3,k4,k5,k6,k7.imp id fun y=>?_⟩,c1.m⟩,?_⟩
  ·show (cR G.W s (pr s (L s).b (L s).k) (G.W s (pr s (L s).b (L s).k) ++ [xs]) i (pr i row.b.b row.b.k))[nc]?=some row.b.xs
   by_cases z:i=s∧pr i row.b.b row.b.k=pr s (L s).b (L s).k
   ·obtain ⟨z1,z2⟩:=z
    rw [z2,z1] at y ⊢
    rw [bJ,List.getElem?_append_left (List.getElem?_eq_some_iff.mp y).1];exact y
   ·rw [bj z];exact y
  ·by_cases z:i=s
   ·subst z;rw [aJ];exact c2
   ·rw [aT z];exact c2
theorem xD.start {late q:Int}:xD late ⟨fun _ _=>[],fun _ _=>0,fun _ _=>0,fun _ _=>False⟩ (aU (ot q 0) (ot q 1)) (fun _ _=>[]):=by
 have fr:∀ s P,nN ⟨fun _ _=>[],fun _ _=>0,fun _ _=>0,fun _ _=>False⟩ s P:=fun s P=>⟨rfl,rfl,rfl,id⟩
 refine ⟨bK (fD rfl (fr _ _) rfl rfl rfl rfl (fun P _=>fr _ P) fun P h=>h.elim) (fD rfl (fr _ _) rfl rfl rfl rfl (fun P _=>fr _ P) fun P h=>h.elim),fun s hs P=>⟨Nat.le_refl _,Nat.zero_le _,Nat.le_refl _⟩,fun s hs j row h=>(by cases h),fun s hs j row h=>(by cases h),bK ⟨Int.zero_le_ofNat 1,Int.zero_le_ofNat 1,fun P h=>h.elim⟩ ⟨Int.zero_le_ofNat 1,Int.zero_le_ofNat 1,fun P h=>h.elim⟩⟩
end
end K37
namespace K37
open PySem L2 PyProof.Rows
section
variable {P:Program} {w:World} {K:PySem.W.Frag} {mg:Str→Option Value} {base:Heap} {t:Ad}
def g8:Sp:=fun vs H Q _=>∃ (c:Int) (m:Nat),vs=[.int c,.int (m:Int)]∧m≤100∧∀ (r:Addr) (H':Hp) (ns:List Int),aI H H'→H r=none→H' r=some (.lst (ns.map V.int))→ns.length=m→(∀ n ∈ ns,0≤n)→Q (.ref r) H'
theorem cJ:aS ["cell","many","told","left","k","stir"] ["cell","many"] (aG fN):=⟨rfl,rfl,rfl,by decide +kernel,rfl,by decide +kernel,by decide +kernel⟩
theorem uS (F:aR K mg "_law_numbers" fN) (T:Txt K mg t):Def P w K mg base 1 "_law_numbers" ["cell","many"] g8:=by
 refine F.def cJ (fun _ _ _ _ _ _ us hl=>match us,hl with | [_,_],_=>rfl) (fun vs H Q E h=>?_) (fun f be A outer s H vs Q E hr h=>?_)
 ·obtain ⟨c,m,rfl,_⟩:=h
  rfl
 ·obtain ⟨c,m,rfl,hm,q⟩:=h
  refine ⟨_,aD (aZ (i:=2) cJ.nd rfl (Or.inl rfl) (bH aC))
   (aD (aZ (i:=3) cJ.nd rfl (Or.inl rfl) (pv 0))
   (aD (PS.uX (cq PassesOwn.never rfl (cU (by rfl) T.dP (aA (pv 1) aC)) (az (i:=4) cJ.nd rfl (Or.inl rfl))
    (aH (bu (aj IB (pv 3) (aP OQ aF aF) (au _))
     (aD (ay (jj K PySem.F.plainAttrs_list PySem.F.slot_list_append PySem.F.type_list_append cV (pv 2) (aA (aP bG (pv 3) aF) aC)))
     (aH (aZ (i:=3) cJ.nd rfl (Or.inl rfl) (aP jM (pv 3) aF))))
     (aD (aZ (i:=5) cJ.nd rfl (Or.inl rfl) (aP bG (aP b9 (aP bM (aP bM (aP bG (pv 0) aF) (aP b9 aF (pv 4))) aF) aF) aF))
     (aH (ay (jj K PySem.F.plainAttrs_list PySem.F.slot_list_append PySem.F.type_list_append cV (pv 2) (aA (aP jM (aP bG (aP b9 (pv 5) (pv 5)) aF) aF) aC)))))))))
   (aH (ar (pv 2))))),?_⟩
  have ox:(2000:Nat)≤sizeLine:=by decide
  refine ⟨by show 0≤sizeLine;decide,fun L hL=>?_⟩
  refine ⟨_,rfl,?_⟩
  refine ⟨_,rfl,(m:Int),rfl,by omega,by omega,?_⟩
  rw [Int.toNat_natCast]
  refine e8 (lo:=0) (n:=m) (fun i σ H2=>∃ (left:Int) (ns:List Int) (v4 v5:Option V),σ=[some (.int c),some (.int (m:Int)),some (.ref L),some (.int left),v4,v5]∧aI H H2∧H2 L=some (.lst (ns.map V.int))∧ns.length=i∧∀ n ∈ ns,0≤n)
   ⟨c,[],none,none,rfl,(aI.refl _).new hL,aB,rfl,fun n hn=>by cases hn⟩ ?_ ?_
  ·rintro i σ H2 hi ⟨left,ns,v4,v5,rfl,s2,h2,hl,hn⟩
   have push:∀ (x:Int),0≤x→(aI H (upd H2 L (.lst (ns.map V.int ++ [V.int x])))∧(upd H2 L (.lst (ns.map V.int ++ [V.int x]))) L=some (.lst ((ns ++ [x]).map V.int))∧(ns ++ [x]).length=i+1∧∀ n ∈ ns ++ [x],0≤n):=fun x hx=>⟨s2.put hL,by rw [aB,List.map_append];rfl,by rw [List.length_append,hl];rfl,fun n Qa=>by
    rcases List.mem_append.mp Qa with h | h
    ·exact hn n h
    ·rw [List.mem_singleton] at h;rw [h];exact hx⟩
   refine ⟨_,rfl,_,_,rfl,rfl,⟨by decide,by decide,by decide⟩,_,_,rfl,rfl,_,rfl,?_⟩
   refine Oj (fun h=>?_) (fun h=>?_)
   ·refine ⟨_,rfl,.inl ⟨rfl,_,aY.of h2⟩,_,rfl,_,_,rfl,rfl,(by show (0:Int) < 1000003;decide),L,_,_,rfl,rfl,h2,by rw [List.length_map];omega,?_⟩
    refine ⟨_,rfl,_,_,rfl,rfl,⟨by decide,by decide⟩,?_⟩
    exact ⟨_,_,_,_,rfl,push _ (Int.emod_nonneg _ (by decide))⟩
   ·refine ⟨_,rfl,_,_,rfl,rfl,(by show (0:Int) < 2147483647;decide),_,rfl,_,_,rfl,rfl,.inl ⟨by decide,by decide⟩,_,_,rfl,rfl,_,_,rfl,rfl,_,_,rfl,rfl,.inr ⟨by decide,by decide⟩,_,_,rfl,rfl,(by show (0:Int) < 2147483647;decide),?_⟩
    generalize hN:(c % 2147483647+7919 * (0+(i:Nat))+1) * 69621 % 2147483647=N
    have hN1:0≤N:=by rw [← hN];exact Int.emod_nonneg _ (by decide)
    have YF:N < 2147483647:=by rw [← hN];exact Int.emod_lt_of_pos _ (by decide)
    refine ⟨_,rfl,.inl ⟨rfl,_,aY.of h2⟩,_,rfl,_,rfl,_,_,rfl,rfl,.inl ⟨by omega,by omega⟩,_,_,rfl,rfl,(by show (0:Int) < 998244353;decide),_,_,rfl,rfl,⟨by decide,by decide⟩,L,_,_,rfl,rfl,h2,by rw [List.length_map];omega,?_⟩
    exact ⟨_,_,_,_,rfl,push _ (Int.ediv_nonneg (Int.emod_nonneg _ (by decide)) (by decide))⟩
  ·rintro σ H2 ⟨left,ns,v4,v5,rfl,s2,h2,hl,hn⟩
   exact ⟨_,rfl,q L H2 ns s2 hL h2 hl hn⟩
def rL (K:PySem.W.Frag):Sp:=fun vs H Q _=>∃ (l:Addr) (ns:List Int) (k:Int),vs=[.ref l,.int k]∧aY K H l (ns.map V.int)∧0≤k∧∀ c:Int,Q (.int c) H
theorem zw:aS ["script","k"] ["script","k"] (aG jY):=⟨rfl,rfl,rfl,by decide +kernel,rfl,by decide +kernel,by decide +kernel⟩
theorem zx (F:aR K mg "_law_cell" jY) (T:Txt K mg t):Def P w K mg base 1 "_law_cell" ["script","k"] (rL K):=by
 refine F.def zw (fun _ _ _ _ _ _ us hl=>match us,hl with | [_,_],_=>rfl) (fun vs H Q E h=>?_) (fun f be A outer s H vs Q E hr h=>?_)
 ·obtain ⟨l,ns,k,rfl,_⟩:=h
  rfl
 ·obtain ⟨l,ns,k,rfl,hl,k0,q⟩:=h
  refine ⟨_,aD (bu (aj ux (pv 1) (bR (bY K) (by rfl) T.iZ boot_len (aA (pv 0) aC)) (au _))
    (aH (ar (af (aQ K) (pv 0) (pv 1) (fun _ _=>rfl))))
    (bD))
   (aH (ar aF)),?_⟩
  refine ⟨_,rfl,_,rfl,l,_,rfl,.inl hl,_,_,rfl,rfl,_,rfl,?_⟩
  by_cases z:k < ((ns.map V.int).length:Nat)
  ·refine fk z ?_
   rw [List.length_map] at z
   obtain ⟨j,rfl⟩:∃ j:Nat,k=j:=⟨k.toNat,by omega⟩
   have hj:j < ns.length:=by omega
   exact ⟨_,rfl,_,rfl,l,_,_,V.int ns[j],rfl,rfl,hl,k9 (by simp [hj]),q _⟩
  ·exact fj z (q 0)
end
end K37
namespace K37
open PySem L2 PyProof.Rows
section
variable {P:Program} {w:World} {K:PySem.W.Frag} {mg:Str→Option Value} {base:Heap} {t:Ad}
theorem xD.cell {late:Int} {G:Gh} {L:Nat→Lk} {rows:Nat→Nat→List Rw} {s:Nat} (h:xD late G L rows) (hs:s < 2):dr G s (bz (L s)) 0:=by
 have nA:=h.en s hs
 have kb:=h.kb (1 - s) (by omega)
 rw [show 1 - (1 - s)=s by omega] at kb
 refine ⟨⟨G.O s (pr s (L s).b (L s).k),G.K s (pr s (L s).b (L s).k),nA.o,nA.t,Nat.le_refl _,Nat.le_refl _,Nat.le_refl _,Nat.le_refl _,?_⟩,fun P hP _=>kb.2.2 P hP⟩
 show (L s).bE.headD []=[]∨(G.W s (pr s (L s).b (L s).k))[G.O s (pr s (L s).b (L s).k)]?=some ((L s).bE.headD [])
 have hp:=nA.p
 cases e:(L s).bE with
 | nil=>exact .inl rfl
 | cons x r =>
  right
  rw [e] at hp
  have:((G.W s (pr s (L s).b (L s).k)).drop (G.O s (pr s (L s).b (L s).k)))[0]?=some x:=by rw [← hp];rfl
  rw [List.getElem?_drop] at this
  exact this
def mf (G:Gh) (s:Nat) (P:Pr) (Kk:List (List Int)):Gh:=⟨cR G.W s P (G.W s P ++ Kk),G.O,G.K,G.U⟩
theorem dr.put {G:Gh} {s i ym:Nat} {a:Cl} {P:Pr} {Kk:List (List Int)} (c:dr G s a ym):dr (mf G i P Kk) s a ym:=by
 obtain ⟨nc,cc,k1,k2,k3,k4,k5,k6,k7⟩:=c.ex
 refine ⟨⟨nc,cc,k1,k2,k3,k4,k5,k6,k7.imp id fun y=>?_⟩,c.m⟩
 show (cR G.W i P (G.W i P ++ Kk) s (pr s a.b a.k))[nc]?=some a.xs
 by_cases z:s=i∧pr s a.b a.k=P
 ·obtain ⟨z1,z2⟩:=z
  rw [z2,z1] at y ⊢
  rw [bJ,List.getElem?_append_left (List.getElem?_eq_some_iff.mp y).1];exact y
 ·rw [bj z];exact y
theorem xD.give {late:Int} {G:Gh} {L:Nat→Lk} {rows:Nat→Nat→List Rw} {s T:Nat} {a:Cl} {fs:Ft} (h:xD late G L rows) (hs:s < 2) (hd:(L s).d=(T:Int)+1) (c:dr G s a 0) (hb:a.b≤(L s).b) (hk:a.k≤(L (1 - s)).b) (gf:rD late fs):xD late G L (at2 rows (1 - s) (fE (rows (1 - s)) T a fs)):=by
 refine ⟨h.en,h.rel,fun i hi j row dD=>?_,fun i hi j row dD=>?_,h.kb⟩
 ·by_cases z:i=s
  ·subst z
   rw [aJ] at dD
   rcases nR fs j row dD with y | ⟨d,yt,rfl,rfl⟩
   ·exact h.ag i hi j row y
   ·have b1:=(gf.at_ d yt).1
    have b2:=(gf.at_ d yt).2.1
    exact ⟨0,c,by omega⟩
  ·rw [aT (by omega)] at dD;exact h.ag i hi j row dD
 ·by_cases z:i=s
  ·subst z
   rw [aJ] at dD
   rcases nR fs j row dD with y | ⟨d,yt,rfl,rfl⟩
   ·exact h.bi i hi j row y
   ·exact ⟨hb,hk⟩
  ·rw [aT (by omega)] at dD;exact h.bi i hi j row dD
theorem wB {α:Type} {f:Nat→α} {s:Nat}:at2 f s (f s)=f:=funext fun i=>by
 by_cases z:i=s
 ·rw [z,aJ]
 ·rw [aT z]
theorem Fi {α:Type} {f:Nat→α} {s:Nat} {u v:α}:at2 (at2 f s u) s v=at2 f s v:=funext fun i=>by
 by_cases z:i=s
 ·rw [z,aJ,aJ]
 ·rw [aT z,aT z,aT z]
theorem Jl {α:Type} {f:Nat→Pr→α} {s:Nat} {P:Pr} {u v:α}:cR (cR f s P u) s P v=cR f s P v:=funext fun i=>funext fun Q=>by
 by_cases z:i=s∧Q=P
 ·rw [z.1,z.2,bJ,bJ]
 ·rw [bj z,bj z,bj z]
theorem G8 {α:Type} {f:Nat→Pr→α} {s:Nat} {P:Pr}:cR f s P (f s P)=f:=funext fun i=>funext fun Q=>by
 by_cases z:i=s∧Q=P
 ·rw [z.1,z.2,bJ]
 ·rw [bj z]
theorem xD.P1 {late:Int} {rows:Nat→Nat→List Rw} {s:Nat} (hs:s < 2):∀ (Kk:List (List Int)) (G:Gh) (L:Nat→Lk),xD late G L rows→(L s).p≠none→xD late (mf G s (pr s (L s).b (L s).k) Kk) (at2 L s { L s with bE:=(L s).bE ++ Kk }) rows
 | [],G,L,h,_=>by
  have e1:mf G s (pr s (L s).b (L s).k) []=G:=by unfold mf;rw [List.append_nil,G8]
  have e2:({ L s with bE:=(L s).bE ++ [] }:Lk)=L s:=by rw [List.append_nil]
  rw [e1,e2,wB];exact h
 | xs :: r,G,L,h,hu=>by
  have h1:=xD.P1 hs r _ _ (h.put (xs:=xs) hs hu) (by rw [aJ];exact hu)
  rw [aJ,Fi] at h1
  have e1:mf ⟨cR G.W s (pr s (L s).b (L s).k) (G.W s (pr s (L s).b (L s).k) ++ [xs]),G.O,G.K,G.U⟩ s (pr s (L s).b (L s).k) r=mf G s (pr s (L s).b (L s).k) (xs :: r):=by
   unfold mf
   simp only [bJ,Jl,List.append_assoc,List.singleton_append]
  have e2:({ L s with bE:=((L s).bE ++ [xs]) ++ r }:Lk)={ L s with bE:=(L s).bE ++ xs :: r }:=by rw [List.append_assoc];rfl
  have h2:xD late (mf ⟨cR G.W s (pr s (L s).b (L s).k) (G.W s (pr s (L s).b (L s).k) ++ [xs]),G.O,G.K,G.U⟩ s (pr s (L s).b (L s).k) r) (at2 L s { L s with bE:=((L s).bE ++ [xs]) ++ r }) rows:=h1
  rw [e1,e2] at h2
  exact h2
end
end K37
namespace K37
open PySem L2 PyProof.Rows
section
variable {P:Program} {w:World} {K:PySem.W.Frag} {mg:Str→Option Value} {base:Heap} {t:Ad}
def mX (b:Wt):Ev→Wt
 | .mk w x _=>if w=("up":Str) then ⟨some x,b.k,fun P=>P=x∨b.u P⟩ else ⟨none,b.k,b.u⟩
 | .took _=>match b.p with
  | none=>b
  | some x=>⟨b.p,fun P=>if P=x then b.k x+1 else b.k P,b.u⟩
def Kl (A:Wt) (es:List Ev):Wt:=es.foldl mX A
theorem rM (A:Wt) (es:List Ev) (e:Ev):Kl A (es ++ [e])=mX (Kl A es) e:=by unfold Kl;rw [List.foldl_append];rfl
def Yd (W:Pr→List (List Int)) (b:Wt):Ev→Prop
 | .mk w x _=>(w=("up":Str)∧b.p=none∧¬ b.u x∧(∀ P,b.u P→P.1≤x.1∧P.2≤x.2)∧b.k x=0)∨(w≠("up":Str)∧w≠("took":Str)∧b.p=some x)
 | .took xs=>∃ x,b.p=some x∧(W x)[b.k x]?=some xs
def MY (W:Pr→List (List Int)) (A:Wt) (es:List Ev):Prop:=∀ (i:Nat) (e:Ev),es[i]?=some e→Yd W (Kl A (es.take i)) e
theorem MY.snoc {W:Pr→List (List Int)} {A:Wt} {es:List Ev} {e:Ev} (h:MY W A es) (h1:Yd W (Kl A es) e):MY W A (es ++ [e]):=by
 intro i x hx
 by_cases z:i < es.length
 ·rw [List.getElem?_append_left z] at hx
  rw [List.take_append_of_le_length (by omega)]
  exact h i x hx
 ·have et:i < (es ++ [e]).length:=(List.getElem?_eq_some_iff.mp hx).1
  rw [List.length_append] at et
  have ei:i=es.length:=by simp at et;omega
  rw [ei,List.getElem?_append_right (Nat.le_refl _),Nat.sub_self] at hx
  cases hx
  rw [ei,List.take_left']
  ·exact h1
  ·rfl
theorem pD.ok {W:Pr→List (List Int)} {A Z:Wt} {es:List Ev} (h:pD W A es Z):MY W A es∧Kl A es=Z:=by
 induction h with
 | nil=>exact ⟨fun i e he=>(by cases he),rfl⟩
 | up h hp hu hm hz ih =>
  obtain ⟨i1,i2⟩:=ih
  refine ⟨i1.snoc (by rw [i2];exact .inl ⟨rfl,hp,hu,hm,hz⟩),?_⟩
  rw [rM,i2];unfold mX;simp only;exact if_pos trivial
 | anew h hp ih =>
  obtain ⟨i1,i2⟩:=ih
  refine ⟨i1.snoc (by rw [i2];exact .inr ⟨by decide,by decide,hp⟩),?_⟩
  rw [rM,i2];unfold mX;simp only;rw [if_neg (by decide)]
 | YR h hp ih =>
  obtain ⟨i1,i2⟩:=ih
  refine ⟨i1.snoc (by rw [i2];exact .inr ⟨by decide,by decide,hp⟩),?_⟩
  rw [rM,i2];unfold mX;simp only;rw [if_neg (by decide)]
 | took h hp hw ih =>
  obtain ⟨i1,i2⟩:=ih
  refine ⟨i1.snoc (by rw [i2];exact ⟨_,hp,hw⟩),?_⟩
  rw [rM,i2];unfold mX;simp only;rw [hp]
theorem yn {W:List (List Int)} {n:Nat} {xs:List Int} (h:W[n]?=some xs):W.take n ++ [xs]=W.take (n+1):=by
 rw [List.take_add_one,h];rfl
end
end K37
namespace K37
open PySem L2 PyProof.Rows
section
variable {P:Program} {w:World} {K:PySem.W.Frag} {mg:Str→Option Value} {base:Heap} {t:Ad}
structure Sx (Bv:zq) (C:Addr) (B H E:Hp) (n:Nat) (x tA pA d:Nat→Addr) (sl:Nat→Nat→Addr) (L:Nat→Lk) (rows:Nat→Nat→List Rw) (ρ:Addr→Nat):Prop where
 sb:aI B H
 lk:∀ s,s < 2→bP C B H (x s) (tA s) (pA s) (L s)
 cg:∀ s,s < 2→Cg Bv B H (d s) (sl s) n (rows s)
 rx:∀ s,s < 2→ρ (x s)=10+s
 rt:∀ s,s < 2→ρ (tA s)=20+s
 rp:∀ s,s < 2→ρ (pA s)=30+s
 rs:∀ s,s < 2→∀ j,j < n→ρ (sl s j)=50+s
 ee:aI E H
 eb:∀ a,E a≠none→B a=none
 er:∀ a,E a≠none→ρ a=100
 en:∀ a o,E a=some o→rH o
section
variable {Bv:zq} {C:Addr} {B H B' H' E E':Hp} {n:Nat} {x tA pA d:Nat→Addr} {sl:Nat→Nat→Addr} {L:Nat→Lk} {rows:Nat→Nat→List Rw} {ρ:Addr→Nat} {s:Nat}
theorem MZ {α:Type} {o:Option α} (h:o≠none):∃ v,o=some v:=by
 cases o with
 | none=>exact absurd rfl h
 | some v=>exact ⟨v,rfl⟩
theorem Sx.he (h:Sx Bv C B H E n x tA pA d sl L rows ρ) {a:Addr} (hi:E a≠none):H a≠none:=fun z=>hi (h.ee.free z)
theorem Sx.same (mb:dj Bv) (h:Sx Bv C B H E n x tA pA d sl L rows ρ) (e:aI H H'):Sx Bv C B H' E n x tA pA d sl L rows ρ :=
 ⟨h.sb.trans e,fun s hs=>(h.lk s hs).same e,fun s hs=>(h.cg s hs).mv mb (aI.refl _) (fun _ _ z=>z) fun j _ o g=>e _ _ g,h.rx,h.rt,h.rp,h.rs,h.ee.trans e,h.eb,h.er,h.en⟩
theorem Sx.Uu (mb:dj Bv) {tB pB:Addr} {L':Lk} (h:Sx Bv C B H E n x tA pA d sl L rows ρ) (hs:s < 2) (mv:iQ B H B' H' (x s) (tA s) (pA s) tB pB) (hl:bP C B' H' (x s) tB pB L') :
  ∃ ρ',Sx Bv C B' H' E n x (at2 tA s tB) (at2 pA s pB) d sl (at2 L s L') rows ρ'∧∀ a,a≠tB→a≠pB→ρ' a=ρ a:=by
 have old:∀ {a:Addr} {i:Nat},ρ a=i→i≠10+s→i≠20+s→i≠30+s→∀ o,H a=some o→H' a=some o:=fun {a i} e n1 n2 n3 o g=>mv.k a o (dM e (h.rx s hs) n1) (dM e (h.rt s hs) n2) (dM e (h.rp s hs) n3) g
 have nt:∀ {a:Addr} {i:Nat},ρ a=i→i≠20+s→H a≠none→a≠tB:=fun {a i} e n1 g z=>by
  rcases mv.t with y | y
  ·exact dM e (h.rt s hs) n1 (z.trans y)
  ·exact g (by rw [z];exact y)
 have np:∀ {a:Addr} {i:Nat},ρ a=i→i≠30+s→H a≠none→a≠pB:=fun {a i} e n1 g z=>by
  rcases mv.p with y | y
  ·exact dM e (h.rp s hs) n1 (z.trans y)
  ·exact g (by rw [z];exact y)
 have rr:∀ {a:Addr} {i:Nat},ρ a=i→i≠20+s→i≠30+s→H a≠none→(fun b=>if b=tB then 20+s else if b=pB then 30+s else ρ b) a=i:=fun {a i} e n1 n2 g=>by
  show (if a=tB then 20+s else if a=pB then 30+s else ρ a)=i
  rw [if_neg (nt e n1 g),if_neg (np e n2 g)];exact e
 refine ⟨fun b=>if b=tB then 20+s else if b=pB then 30+s else ρ b,⟨hl.sb,?_,?_,?_,?_,?_,?_,fun a o e=>old (h.er a (by rw [e];exact fun z=>by cases z)) (by omega) (by omega) (by omega) _ (h.ee _ _ e),fun a hi=>mv.no _ (h.he hi) (h.eb a hi),fun a hi=>rr (h.er a hi) (by omega) (by omega) (h.he hi),h.en⟩,fun a h1 h2=>by show (if a=tB then 20+s else if a=pB then 30+s else ρ a)=ρ a;rw [if_neg h1,if_neg h2]⟩
 ·intro i hi
  by_cases z:i=s
  ·subst z;rw [aJ,aJ,aJ];exact hl
  ·rw [aT z,aT z,aT z]
   exact (h.lk i hi).mv hl.sb mv.bb mv.no (old (h.rx i hi) (by omega) (by omega) (by omega)) (old (h.rt i hi) (by omega) (by omega) (by omega)) (old (h.rp i hi) (by omega) (by omega) (by omega))
 ·intro i hi
  exact (h.cg i hi).mv mb mv.bb mv.no fun j hj=>old (h.rs i hi j hj) (by omega) (by omega) (by omega)
 ·intro i hi
  exact rr (h.rx i hi) (by omega) (by omega) (h.lk i hi).hx
 ·intro i hi
  by_cases z:i=s
  ·subst z;rw [aJ];exact if_pos rfl
  ·rw [aT z];exact rr (h.rt i hi) (by omega) (by omega) (h.lk i hi).ht
 ·intro i hi
  by_cases z:i=s
  ·subst z
   rw [aJ]
   show (if pB=tB then 20+i else if pB=pB then 30+i else ρ pB)=_
   rw [if_neg (Ne.symm hl.ne),if_pos rfl]
  ·rw [aT z];exact rr (h.rp i hi) (by omega) (by omega) (h.lk i hi).hp
 ·intro i hi j hj
  exact rr (h.rs i hi j hj) (by omega) (by omega) ((h.cg i hi).at_ j hj).val
theorem Sx.gv (mb:dj Bv) {ra:Nat→List Rw} (h:Sx Bv C B H E n x tA pA d sl L rows ρ) (hs:s < 2) (g:Gv B H B' H' (sl s) n) (c:Cg Bv B' H' (d s) (sl s) n ra):Sx Bv C B' H' E n x tA pA d sl L (at2 rows s ra) ρ:=by
 have old:∀ {a:Addr} {i:Nat},ρ a=i→i≠50+s→∀ o,H a=some o→H' a=some o:=fun {a i} e n1 o q=>g.fr a o (fun j hj=>dM e (h.rs s hs j hj) n1) q
 refine ⟨g.bh,?_,?_,h.rx,h.rt,h.rp,h.rs,fun a o e=>old (h.er a (by rw [e];exact fun z=>by cases z)) (by omega) _ (h.ee _ _ e),fun a hi=>g.no _ (h.he hi) (h.eb a hi),h.er,h.en⟩
 ·intro i hi
  exact (h.lk i hi).mv g.bh g.bb g.no (old (h.rx i hi) (by omega)) (old (h.rt i hi) (by omega)) (old (h.rp i hi) (by omega))
 ·intro i hi
  by_cases z:i=s
  ·subst z;rw [aJ];exact c
  ·rw [aT z]
   exact (h.cg i hi).mv mb g.bb g.no fun j hj=>old (h.rs i hi j hj) (by omega)
theorem Sx.grow (mb:dj Bv) {a:Addr} {o:HO} (h:Sx Bv C B H E n x tA pA d sl L rows ρ) (s:aI H H') (na:H a=none) (ea:H' a=some o) :
  Sx Bv C (upd B a o) H' E n x tA pA d sl L rows ρ∧aI B (upd B a o):=by
 have h1:=h.same mb s
 have sB:aI B (upd B a o):=(aI.refl _).new (h.sb.free na)
 have no:∀ b,H b≠none→B b=none→(upd B a o) b=none:=fun b hb e=>by rw [aE (fun z=>hb (by rw [z];exact na))];exact e
 have Fe:aI (upd B a o) H':=fun b u e=>by
  by_cases z:b=a
  ·rw [z] at e ⊢;rw [aB] at e;rw [ea];exact e
  ·rw [aE z] at e;exact h1.sb _ _ e
 exact ⟨⟨Fe,fun i hi=>(h.lk i hi).mv Fe sB no (fun o e=>s _ _ e) (fun o e=>s _ _ e) (fun o e=>s _ _ e),fun i hi=>(h.cg i hi).mv mb sB no fun j _ o e=>s _ _ e,h.rx,h.rt,h.rp,h.rs,h1.ee,fun a hi=>no _ (h.he hi) (h.eb a hi),h.er,h.en⟩,sB⟩
theorem Sx.chg (mb:dj Bv) (h:Sx Bv C B H E n x tA pA d sl L rows ρ) (fr:∀ a o,E a=none→H a=some o→H' a=some o) (Wh:aI E' H') (nw:∀ a,E' a≠none→E a≠none∨H a=none) (Ji:∀ a o,E' a=some o→rH o):∃ ρ',Sx Bv C B H' E' n x tA pA d sl L rows ρ':=by
 classical
 have ez:∀ {b:Addr} {k:Nat},ρ b=k→k < 100→E b=none:=fun {b k} q n1=>Classical.byContradiction fun z=>by have:=h.er b z;omega
 have old:∀ {b:Addr} {k:Nat},ρ b=k→k < 100→∀ u,H b=some u→H' b=some u:=fun {b k} q n1 u g=>fr b u (ez q n1) g
 have Fe:aI B H':=fun a o e=>fr a o (Classical.byContradiction fun z=>by rw [h.eb a z] at e;cases e) (h.sb _ _ e)
 have rr:∀ {b:Addr} {k:Nat},ρ b=k→k < 100→H b≠none→(if E' b≠none then 100 else ρ b)=k:=fun {b k} q n1 hb=>by
  rw [if_neg (fun z=>(nw b z).elim (fun y=>y (ez q n1)) hb)];exact q
 exact ⟨fun a=>if E' a≠none then 100 else ρ a,Fe,fun i hi=>(h.lk i hi).mv Fe (aI.refl _) (fun _ _ z=>z) (old (h.rx i hi) (by omega)) (old (h.rt i hi) (by omega)) (old (h.rp i hi) (by omega)),fun i hi=>(h.cg i hi).mv mb (aI.refl _) (fun _ _ z=>z) fun j hj=>old (h.rs i hi j hj) (by omega),
  fun i hi=>rr (h.rx i hi) (by omega) (h.lk i hi).hx,fun i hi=>rr (h.rt i hi) (by omega) (h.lk i hi).ht,fun i hi=>rr (h.rp i hi) (by omega) (h.lk i hi).hp,fun i hi j hj=>rr (h.rs i hi j hj) (by omega) ((h.cg i hi).at_ j hj).val,Wh,fun a ha=>(nw a ha).elim (h.eb a) h.sb.free,fun a ha=>if_pos ha,Ji⟩
theorem Sx.put (mb:dj Bv) {a:Addr} {o:HO} (h:Sx Bv C B H E n x tA pA d sl L rows ρ) (ha:E a≠none) (no:rH o):∃ ρ',Sx Bv C B (upd H a o) (upd E a o) n x tA pA d sl L rows ρ':=by
 refine h.chg mb (fun b u hb e=>by rw [aE (fun z=>ha (by rw [← z];exact hb))];exact e) (fun b u e=>?_) (fun b hb=>?_) (fun b u e=>?_)
 ·by_cases z:b=a
  ·rw [z,aB] at e;rw [z,aB];exact e
  ·rw [aE z] at e ⊢;exact h.ee _ _ e
 ·by_cases z:b=a
  ·rw [z];exact .inl ha
  ·rw [aE z] at hb;exact .inl hb
 ·by_cases z:b=a
  ·rw [z,aB] at e;cases e;exact no
  ·rw [aE z] at e;exact h.en _ _ e
theorem Sx.new (mb:dj Bv) {a:Addr} {o:HO} (h:Sx Bv C B H E n x tA pA d sl L rows ρ) (ha:H a=none) (no:rH o):∃ ρ',Sx Bv C B (upd H a o) (upd E a o) n x tA pA d sl L rows ρ':=by
 refine h.chg mb (fun b u hb e=>by rw [aE (fun z=>by rw [z,ha] at e;cases e)];exact e) (fun b u e=>?_) (fun b hb=>?_) (fun b u e=>?_)
 ·by_cases z:b=a
  ·rw [z,aB] at e;rw [z,aB];exact e
  ·rw [aE z] at e ⊢;exact h.ee _ _ e
 ·by_cases z:b=a
  ·rw [z];exact .inr ha
  ·rw [aE z] at hb;exact .inl hb
 ·by_cases z:b=a
  ·rw [z,aB] at e;cases e;exact no
  ·rw [aE z] at e;exact h.en _ _ e
theorem Sx.re (h:Sx Bv C B H E n x tA pA d sl L rows ρ) {L':Nat→Lk} (hL:∀ s,s < 2→L' s=L s):Sx Bv C B H E n x tA pA d sl L' rows ρ :=
 ⟨h.sb,fun s hs=>by rw [hL s hs];exact h.lk s hs,h.cg,h.rx,h.rt,h.rp,h.rs,h.ee,h.eb,h.er,h.en⟩
theorem Sx.Nz (mb:dj Bv) (h:Sx Bv C B H E n x tA pA d sl L rows ρ):Sx Bv C (nP B H) H E n x tA pA d sl L rows ρ:=by
 have no:∀ {a:Addr} {o:HO},H a=some o→rH o→B a=none→nP B H a=none:=fun {a o} e n z=>by rw [Ff e n];exact z
 refine ⟨rK h.sb,?_,?_,h.rx,h.rt,h.rp,h.rs,h.ee,fun a ha=>?_,h.er,h.en⟩
 ·intro s hs
  have l:=h.lk s hs
  obtain ⟨dx,pv,g,gp⟩:=l.at_
  obtain ⟨jK,g2,xP⟩:=l.told
  obtain ⟨df,g3,rX⟩:=l.bE
  have sB:=gC h.sb
  exact ⟨rK h.sb,no g ⟨(fun _ z=>by cases z),(fun _ _ z=>by cases z)⟩ l.bx,no g2 (dU _) l.bt,no g3 (dU _) l.bp,⟨dx,pv,g,gp.mono sB⟩,⟨jK,g2,fun y e he=>(xP y e he).mono sB⟩,⟨df,g3,fun y xs hy=>sB _ _ (rX y xs hy)⟩,l.ne⟩
 ·intro s hs
  have c:=h.cg s hs
  refine ⟨gC h.sb _ _ c.dl,c.inj,fun j hj=>(c.at_ j hj).keep mb (gC h.sb) ?_ rfl⟩
  obtain ⟨_,g,_⟩:=(c.at_ j hj).at_
  exact no g (dU _) (c.at_ j hj).no
 ·obtain ⟨o,e⟩:=MZ ha
  exact no (h.ee _ _ e) (h.en _ _ e) (h.eb a ha)
end
open Classical in
noncomputable def P2 (x t p:Nat→Addr) (sl:Nat→Nat→Addr) (n:Nat) (E:Hp) (a:Addr):Nat :=
 if E a≠none then 100 else b8 x t p sl n 0 (fun _=>0) a
theorem Sx.start {Bv:zq} {C:Addr} {H E:Hp} {n:Nat} {x t p d:Nat→Addr} {sl:Nat→Nat→Addr} {L:Nat→Lk} (ap:Apart x t p sl n 0 (fun _=>0)) (lk:∀ s,s < 2→∃ B0,bP C B0 H (x s) (t s) (p s) (L s)) (le:∀ s,s < 2→(L s).ev=[]∧(L s).bE=[]∧(L s).p=none)
  (dl:∀ s,s < 2→H (d s)=some (.lst (bW n (sl s)))) (dz:∀ s,s < 2→b8 x t p sl n 0 (fun _=>0) (d s)=0) (inj:∀ s,s < 2→∀ i j,i < n→j < n→sl s i=sl s j→i=j) (Wi:∀ s,s < 2→∀ j,j < n→H (sl s j)=some (.lst [])) (ee:aI E H) (en:∀ a o,E a=some o→rH o) (ez:∀ a,E a≠none→b8 x t p sl n 0 (fun _=>0) a=0∧a≠d 0∧a≠d 1) :
  ∃ B,Sx Bv C B H E n x t p d sl L (fun _ _=>[]) (P2 x t p sl n E)∧∀ a o,E a=none→b8 x t p sl n 0 (fun _=>0) a=0→H a=some o→B a=some o:=by
 classical
 obtain ⟨r1,r2,r3,r5,_⟩:=Fg ap
 have rE:∀ {a:Addr} {k:Nat},b8 x t p sl n 0 (fun _=>0) a=k→k≠0→P2 x t p sl n E a=k:=fun {a k} e h=>by
  unfold P2
  rw [if_neg (fun z=>h (by rw [← e];exact (ez a z).1))];exact e
 have no:∀ {a:Addr} {k:Nat},b8 x t p sl n 0 (fun _=>0) a=k→k≠0→(fun a=>if E a=none∧b8 x t p sl n 0 (fun _=>0) a=0 then H a else none) a=none:=fun {a k} e h=>by
  show (if E a=none∧b8 x t p sl n 0 (fun _=>0) a=0 then H a else none)=none
  rw [if_neg (by rw [e];exact fun z=>h z.2)]
 have yes:∀ a o,E a=none→b8 x t p sl n 0 (fun _=>0) a=0→H a=some o→(fun a=>if E a=none∧b8 x t p sl n 0 (fun _=>0) a=0 then H a else none) a=some o:=fun a o e1 e h=>by
  show (if E a=none∧b8 x t p sl n 0 (fun _=>0) a=0 then H a else none)=some o
  rw [if_pos ⟨e1,e⟩];exact h
 have sb:aI (fun a=>if E a=none∧b8 x t p sl n 0 (fun _=>0) a=0 then H a else none) H:=fun a o e=>by
  have e:(if E a=none∧b8 x t p sl n 0 (fun _=>0) a=0 then H a else none)=some o:=e
  by_cases z:E a=none∧b8 x t p sl n 0 (fun _=>0) a=0
  ·rw [if_pos z] at e;exact e
  ·rw [if_neg z] at e;cases e
 have dn:∀ s,s < 2→E (d s)=none:=fun s hs=>Classical.byContradiction fun z=>by
  have:=ez _ z
  match s,hs with
  | 0,_=>exact this.2.1 rfl
  | 1,_=>exact this.2.2 rfl
  | s+2,h=>omega
 refine ⟨fun a=>if E a=none∧b8 x t p sl n 0 (fun _=>0) a=0 then H a else none,⟨sb,?_,?_,fun s hs=>rE (r1 s hs) (by omega),fun s hs=>rE (r2 s hs) (by omega),fun s hs=>rE (r3 s hs) (by omega),fun s hs j hj=>rE (r5 s hs j hj) (by omega),ee,fun a ha=>?_,fun a ha=>if_pos ha,en⟩,yes⟩
 ·intro s hs
  obtain ⟨B0,l⟩:=lk s hs
  obtain ⟨q1,q2,q3⟩:=le s hs
  obtain ⟨dx,pv,g,gp⟩:=l.at_
  obtain ⟨jK,g2,xP⟩:=l.told
  obtain ⟨df,g3,rX⟩:=l.bE
  refine ⟨sb,no (r1 s hs) (by omega),no (r2 s hs) (by omega),no (r3 s hs) (by omega),⟨dx,pv,g,?_⟩,⟨jK,g2,fun y e he=>by rw [q1] at he;cases he⟩,⟨df,g3,fun y e he=>by rw [q2] at he;cases he⟩,l.ne⟩
  rw [q3] at gp ⊢;exact gp
 ·intro s hs
  exact ⟨yes _ _ (dn s hs) (dz s hs) (dl s hs),inj s hs,fun j hj=>⟨no (r5 s hs j hj) (by omega),fun _=>0,Wi s hs j hj,fun y r e=>by cases e⟩⟩
 ·show (if E a=none∧b8 x t p sl n 0 (fun _=>0) a=0 then H a else none)=none
  rw [if_neg fun z=>ha z.1]
end
end K37
namespace K37
open PySem L2 PyProof.Rows
section
variable {P:Program} {w:World} {K:PySem.W.Frag} {mg:Str→Option Value} {base:Heap} {t:Ad}
def Jm (fs:Ft):Prop:=∃ d ∈ fs,d.2.length < 3
def Jn (q:Nat) (rows:Nat→List Rw) (Tr Ts run τ:Nat) (φ:Cl→Prop):Prop:=(∃ (j:Nat) (row:Rw),Tr≤j∧j≤τ+q∧row ∈ rows j∧row.rd=true∧φ row.b)∨Ts≤τ+run
theorem wC {tick:Nat} {b:Cl}:∀ (fs:Ft) (rows:Nat→List Rw) (j:Nat) (r:Rw),r ∈ rows j→r ∈ fE rows tick b fs j
 | [],_,_,_,h=>h
 | d :: fs,rows,j,r,h=>wC fs (sv rows (tick+d.1.toNat) (dS b d.2)) j r (by
   unfold sv
   split
   ·exact List.mem_append_left _ h
   ·exact h)
theorem Br {tick:Nat} {b:Cl} {d:Int × Ts}:∀ (fs:Ft) (rows:Nat→List Rw),d ∈ fs→dS b d.2 ∈ fE rows tick b fs (tick+d.1.toNat)
 | [],_,h=>by cases h
 | e :: fs,rows,h=>by
  rcases List.mem_cons.mp h with z | z
  ·subst z
   refine wC fs (sv rows (tick+d.1.toNat) (dS b d.2)) _ _ ?_
   unfold sv
   rw [if_pos rfl]
   exact List.mem_append_right _ (List.mem_singleton.mpr rfl)
  ·exact Br fs (sv rows (tick+e.1.toNat) (dS b e.2)) z
section
variable {q late lost Tr Ts run run' τ:Nat} {rows:Nat→List Rw} {φ ψ:Cl→Prop} {fs:Ft} {c:Cl}
theorem Jn.now (h:Ts≤τ):Jn q rows Tr Ts run τ φ:=.inr (by omega)
theorem Jn.le (h:Jn q rows Tr Ts run τ φ) (hr:run≤lost) (hq:lost+1≤q) (ht:Tr≤Ts+1):Tr≤τ+q:=by
 rcases h with ⟨j,_,h1,h2,_⟩ | h <;> omega
theorem Jn.mono (h:Jn q rows Tr Ts run τ φ) (hm:∀ a,φ a→ψ a):Jn q rows Tr Ts run τ ψ:=by
 rcases h with ⟨j,row,h1,h2,h3,h4,h5⟩ | h
 ·exact .inl ⟨j,row,h1,h2,h3,h4,hm _ h5⟩
 ·exact .inr h
theorem Jn.give (h:Jn q rows Tr Ts run τ φ) (hc:φ c) (gf:rD (late:Int) fs) (hq:late+lost=q) (hr:run≤lost) (ht:Tr≤Ts+1) (hf:Jm fs∨run'=run+1):Jn q (fE rows Ts c fs) Tr (Ts+1) run' τ φ:=by
 rcases h with ⟨j,row,h1,h2,h3,h4,h5⟩ | h
 ·exact .inl ⟨j,row,h1,h2,wC fs rows j row h3,h4,h5⟩
 ·rcases hf with ⟨d,hd,hl⟩ | hf
  ·obtain ⟨d1,d2,_⟩:=gf.at_ d hd
   exact .inl ⟨Ts+d.1.toNat,dS c d.2,by omega,by omega,Br fs rows hd,decide_eq_true hl,hc⟩
  ·exact .inr (by omega)
theorem G9 {rs:List Rw} {row:Rw} (h:row ∈ rs) (hr:row.rd=true):row.b ∈ aN rs:=by
 unfold aN
 exact List.mem_filterMap.mpr ⟨row,h,by rw [if_pos hr]⟩
theorem Jn.tick (h:Jn q rows Tr Ts run τ φ) (hn:∀ a ∈ aN (rows Tr),¬ φ a):Jn q rows (Tr+1) Ts run τ φ:=by
 rcases h with ⟨j,row,h1,h2,h3,h4,h5⟩ | h
 ·by_cases z:j=Tr
  ·subst z;exact absurd h5 (hn _ (G9 h3 h4))
  ·exact .inl ⟨j,row,by omega,h2,h3,h4,h5⟩
 ·exact .inr h
end
theorem meet_self (L:Lk):aw L L.k=L:=by
 unfold aw
 obtain ⟨q,s,d,u,b,k,p,ev,bE,of,tk⟩:=L
 cases p with
 | none=>rfl
 | some x=>simp only;rw [if_neg (by omega)]
structure nS (L L':Lk):Prop where
 p:L'.p=L.p
 b:L'.b=L.b
 k:L'.k=L.k
 ev:∃ es:List Ev,L'.ev=L.ev ++ es∧∀ e ∈ es,∃ xs,e=.took xs
 l:L'.bE.length≤L.bE.length
theorem nS.refl (L:Lk):nS L L:=⟨rfl,rfl,rfl,⟨[],(List.append_nil _).symm,fun e h=>by cases h⟩,Nat.le_refl _⟩
theorem nS.trans {L L1 L2:Lk} (a:nS L L1) (b:nS L1 L2):nS L L2:=by
 obtain ⟨e1,h1,h1'⟩:=a.ev
 obtain ⟨e2,h2,Oy⟩:=b.ev
 exact ⟨b.p.trans a.p,b.b.trans a.b,b.k.trans a.k,⟨e1 ++ e2,by rw [h2,h1,List.append_assoc],fun e h=>(List.mem_append.mp h).elim (h1' e) (Oy e)⟩,Nat.le_trans b.l a.l⟩
theorem cW (L:Lk) (c:Int):nS L (bB L c)∧(bB L c).tk=L.tk∧(bB L c).ev=L.ev:=by
 unfold bB
 split
 ·exact ⟨⟨rfl,rfl,rfl,⟨[],(List.append_nil _).symm,fun e h=>by cases h⟩,by show L.bE.tail.length≤_;rw [List.length_tail];omega⟩,rfl,rfl⟩
 ·exact ⟨nS.refl _,rfl,rfl⟩
theorem ke (L:Lk) (n:Int) (xs:List Int):nS L (bO L n xs)∧(bO L n xs).bE=L.bE∧(bO L n xs).of=L.of:=by
 unfold bO
 split
 ·exact ⟨⟨rfl,rfl,rfl,⟨[.took xs],rfl,fun e h=>⟨xs,List.mem_singleton.mp h⟩⟩,Nat.le_refl _⟩,rfl,rfl⟩
 ·exact ⟨nS.refl _,rfl,rfl⟩
theorem uj {L:Lk} {a:Cl} (hp:L.p≠none) (ha:a.b≤L.k):aW L a=L∨(aW L a=bO (bB L a.c) a.n a.xs∧a.k=L.b∧a.b=L.k):=by
 have ec:bA L=L:=by
  unfold bA
  cases e:L.p with
  | none=>exact absurd e hp
  | some x=>rfl
 unfold aW
 by_cases z:a.b < L.k
 ·rw [if_pos z];exact .inl rfl
 ·have e:a.b=L.k:=by omega
  rw [if_neg z,e,meet_self,ec]
  by_cases y:a.k=L.b
  ·rw [if_pos y];exact .inr ⟨rfl,y,rfl⟩
  ·rw [if_neg y];exact .inl rfl
theorem sx {L:Lk} {a:Cl} (hp:L.p≠none) (ha:a.b≤L.k):nS L (aW L a):=by
 rcases uj hp ha with z | ⟨z,_⟩
 ·rw [z];exact nS.refl _
 ·rw [z];exact (cW L a.c).1.trans (ke _ _ _).1
theorem gD:∀ (bs:List Cl) (L:Lk),L.p≠none→(∀ a ∈ bs,a.b≤L.k)→nS L (aO L bs)
 | [],L,_,_=>nS.refl L
 | a :: r,L,hp,h=>by
  have s:=sx hp (h a List.mem_cons_self)
  exact s.trans (gD r (aW L a) (by rw [s.p];exact hp) fun x hx=>by rw [s.k];exact h x (List.mem_cons_of_mem _ hx))
theorem nS.Ye {L L':Lk} (s:nS L L'):L.ev.length≤L'.ev.length:=by
 obtain ⟨es,h,_⟩:=s.ev
 rw [h,List.length_append];omega
theorem pY:∀ (bs:List Cl) (L:Lk) (a:Cl),L.p≠none→(∀ x ∈ bs,x.b≤L.k)→a ∈ bs→a.b=L.k→a.k=L.b→a.xs≠[]→a.n=L.tk→L.ev.length < (aO L bs).ev.length
 | [],_,_,_,_,hm,_,_,_,_=>by cases hm
 | c :: r,L,a,hp,h,hm,hb,hk,hx,hn=>by
  have s:=sx hp (h c List.mem_cons_self)
  have hr:∀ x ∈ r,x.b≤(aW L c).k:=fun x hx=>by rw [s.k];exact h x (List.mem_cons_of_mem _ hx)
  have s2:=gD r (aW L c) (by rw [s.p];exact hp) hr
  show L.ev.length < (aO (aW L c) r).ev.length
  have l2:=s2.Ye
  rcases uj hp (h c List.mem_cons_self) with z | ⟨z,z1,z2⟩
  ·rcases List.mem_cons.mp hm with y | y
   ·exfalso
    subst y
    have e:aW L a=bO (bB L a.c) a.n a.xs:=by
     have ec:bA L=L:=by
      unfold bA
      cases e:L.p with
      | none=>exact absurd e hp
      | some x=>rfl
     unfold aW
     rw [if_neg (by omega),hb,meet_self,ec,if_pos hk]
    have e2:(aW L a).ev.length=L.ev.length+1:=by
     rw [e];unfold bO
     rw [if_pos ⟨hx,by rw [(cW L a.c).2.1];exact hn⟩]
     show ((bB L a.c).ev ++ [_]).length=_
     rw [(cW L a.c).2.2,List.length_append];rfl
    rw [z] at e2;omega
   ·rw [z];exact pY r L a hp (fun x hx=>h x (List.mem_cons_of_mem _ hx)) y hb hk hx hn
  ·by_cases y:c.xs≠[]∧c.n=L.tk
   ·have e2:(aW L c).ev.length=L.ev.length+1:=by
     rw [z];unfold bO
     rw [if_pos ⟨y.1,by rw [(cW L c.c).2.1];exact y.2⟩]
     show ((bB L c.c).ev ++ [_]).length=_
     rw [(cW L c.c).2.2,List.length_append];rfl
    omega
   ·have e2:aW L c=bB L c.c:=by
     rw [z];unfold bO
     rw [if_neg (fun w=>y ⟨w.1,by rw [(cW L c.c).2.1] at w;exact w.2⟩)]
    rcases List.mem_cons.mp hm with w | w
    ·subst w;exact absurd ⟨hx,hn⟩ y
    ·have l1:=s.Ye
     refine Nat.lt_of_le_of_lt l1 (pY r (aW L c) a (by rw [s.p];exact hp) hr w (by rw [s.k];exact hb) (by rw [s.b];exact hk) hx ?_)
     rw [e2,(cW L c.c).2.1];exact hn
theorem nT:∀ (bs:List Cl) (L:Lk) (a:Cl),L.p≠none→(∀ x ∈ bs,x.b≤L.k)→a ∈ bs→a.b=L.k→a.k=L.b→L.bE≠[]→a.c=(L.of+1) % 97→(aO L bs).bE.length < L.bE.length
 | [],_,_,_,_,hm,_,_,_,_=>by cases hm
 | c :: r,L,a,hp,h,hm,hb,hk,hx,hn=>by
  have s:=sx hp (h c List.mem_cons_self)
  have hr:∀ x ∈ r,x.b≤(aW L c).k:=fun x hx=>by rw [s.k];exact h x (List.mem_cons_of_mem _ hx)
  have s2:=gD r (aW L c) (by rw [s.p];exact hp) hr
  show (aO (aW L c) r).bE.length < L.bE.length
  have l2:=s2.l
  have hl:0 < L.bE.length:=by
   cases e:L.bE with
   | nil=>exact absurd e hx
   | cons _ _=>exact Nat.zero_lt_succ _
  have ec:bA L=L:=by
   unfold bA
   cases e:L.p with
   | none=>exact absurd e hp
   | some x=>rfl
  rcases uj hp (h c List.mem_cons_self) with z | ⟨z,z1,z2⟩
  ·rcases List.mem_cons.mp hm with y | y
   ·exfalso
    subst y
    have e:aW L a=bO (bB L a.c) a.n a.xs:=by
     unfold aW
     rw [if_neg (by omega),hb,meet_self,ec,if_pos hk]
    have e2:(aW L a).bE=L.bE.tail:=by
     rw [e,(ke _ _ _).2.1];unfold bB;rw [if_pos ⟨hx,hn⟩]
    rw [z] at e2
    have:=congrArg List.length e2
    rw [List.length_tail] at this;omega
   ·rw [z];exact nT r L a hp (fun x hx=>h x (List.mem_cons_of_mem _ hx)) y hb hk hx hn
  ·by_cases y:L.bE≠[]∧c.c=(L.of+1) % 97
   ·have e2:(aW L c).bE=L.bE.tail:=by rw [z,(ke _ _ _).2.1];unfold bB;rw [if_pos y]
    rw [e2,List.length_tail] at l2
    omega
   ·have e2:bB L c.c=L:=if_neg y
    rw [e2] at z
    rcases List.mem_cons.mp hm with w | w
    ·subst w;exact absurd ⟨hx,hn⟩ y
    ·have e3:(aW L c).bE=L.bE∧(aW L c).of=L.of:=by rw [z];exact (ke _ _ _).2
     have:=nT r (aW L c) a (by rw [s.p];exact hp) hr w (by rw [s.k];exact hb) (by rw [s.b];exact hk) (by rw [e3.1];exact hx) (by rw [e3.2];exact hn)
     rw [e3.1] at this;exact this
theorem DR (L:Lk) (a:Cl):(aW L a).b=L.b∧(aW L a).k=(if a.b < L.k then L.k else a.b)∧(aW L a).u=L.u∧(aW L a).q=L.q:=by
 have mt:(aw L a.b).u=L.u∧(aw L a.b).q=L.q:=by
  unfold aw
  cases L.p with
  | none=>exact ⟨rfl,rfl⟩
  | some p=>simp only;split <;> exact ⟨rfl,rfl⟩
 have cm:∀ L:Lk,(bA L).u=L.u∧(bA L).q=L.q:=fun L=>by
  unfold bA
  cases L.p <;> exact ⟨rfl,rfl⟩
 have hr:∀ (L:Lk) (c:Int),(bB L c).u=L.u∧(bB L c).q=L.q:=fun L c=>by unfold bB;split <;> exact ⟨rfl,rfl⟩
 have tk:∀ (L:Lk) (n:Int) (xs:List Int),(bO L n xs).u=L.u∧(bO L n xs).q=L.q:=fun L n xs=>by unfold bO;split <;> exact ⟨rfl,rfl⟩
 have mb:=sj L a.b
 unfold aW
 by_cases z:a.b < L.k
 ·rw [if_pos z,if_pos z];exact ⟨rfl,rfl,rfl,rfl⟩
 ·rw [if_neg z,if_neg z]
  split
  ·have t1:=Ja (bB (bA (aw L a.b)) a.c) a.n a.xs
   have h1:=JZ (bA (aw L a.b)) a.c
   have c1:=DJ (aw L a.b)
   refine ⟨t1.1.trans (h1.1.trans (c1.1.trans mb.1)),t1.2.1.trans (h1.2.trans (c1.2.trans mb.2)),?_,?_⟩
   ·rw [(tk _ _ _).1,(hr _ _).1,(cm _).1,mt.1]
   ·rw [(tk _ _ _).2,(hr _ _).2,(cm _).2,mt.2]
  ·exact ⟨mb.1,mb.2,mt.1,mt.2⟩
theorem uk:∀ (bs:List Cl) (L:Lk),(aO L bs).b=L.b∧L.k≤(aO L bs).k∧(∀ a ∈ bs,a.b≤(aO L bs).k)∧(aO L bs).u=L.u∧(aO L bs).q=L.q
 | [],L=>⟨rfl,Int.le_refl _,fun a h=>(by cases h),rfl,rfl⟩
 | a :: r,L=>by
  obtain ⟨r1,r2,r3,r4⟩:=DR L a
  obtain ⟨i1,i2,i3,i4,i5⟩:=uk r (aW L a)
  have h1:L.k≤(aW L a).k∧a.b≤(aW L a).k:=by rw [r2];split <;> omega
  refine ⟨i1.trans r1,Int.le_trans h1.1 i2,fun x hx=>?_,i4.trans r3,i5.trans r4⟩
  rcases List.mem_cons.mp hx with z | z
  ·rw [z];exact Int.le_trans h1.2 i2
  ·exact i3 x z
theorem Bs:∀ (bs:List Cl) (L:Lk) (B:Int) (a:Cl),L.k≤B→(∀ x ∈ bs,x.b≤B)→a ∈ bs→a.b=B→a.k=L.b→(aO L bs).p≠none
 | [],_,_,_,_,_,hm,_,_=>by cases hm
 | c :: r,L,B,a,hk,h,hm,hb,ha=>by
  obtain ⟨r1,r2,_,_⟩:=DR L c
  have hc:=h c List.mem_cons_self
  have k1:(aW L c).k≤B:=by rw [r2];split <;> omega
  show (aO (aW L c) r).p≠none
  rcases List.mem_cons.mp hm with y | y
  ·subst y
   have kB:(aW L a).k=B:=by rw [r2,hb];split <;> omega
   have pn:(aW L a).p≠none:=by
    unfold aW
    rw [if_neg (by omega),if_pos (by rw [(sj L a.b).1];exact ha),(ke _ _ _).1.p,(cW _ _).1.p]
    unfold bA
    cases e:(aw L a.b).p with
    | none=>exact fun z=>by cases z
    | some x=>simp only;rw [e];exact fun z=>by cases z
   rw [(gD r (aW L a) pn fun x hx=>by rw [kB];exact h x (List.mem_cons_of_mem _ hx)).p]
   exact pn
  ·exact Bs r (aW L c) B a k1 (fun x hx=>h x (List.mem_cons_of_mem _ hx)) y hb (by rw [r1];exact ha)
theorem gs {L:Lk} {bs:List Cl} (h:(aO L bs).k=0∨(if bs=[] then L.u+1 else 0) < L.q):ao L bs={ aO L bs with u:=(if bs=[] then L.u+1 else 0),d:=(aO L bs).d+1,ev:=[] }∧(bL L bs).ev=(aO L bs).ev:=by
 obtain ⟨_,_,_,hu,hq⟩:=uk bs L
 have e:a9 (eJ (aO L bs) bs)=eJ (aO L bs) bs:=by
  unfold a9
  refine if_neg fun z=>?_
  rcases h with y | y
  ·exact z.1 y
  ·have z2:(aO L bs).q≤(if bs=[] then (aO L bs).u+1 else 0):=z.2
   rw [hu,hq] at z2;omega
 unfold ao bL
 rw [e]
 unfold eJ
 rw [hu]
 exact ⟨rfl,rfl⟩
end
end K37
namespace K37
open PySem L2 PyProof.Rows
section
variable {P:Program} {w:World} {K:PySem.W.Frag} {mg:Str→Option Value} {base:Heap} {t:Ad}
abbrev Jd (q:Nat) (rows:Nat→Nat→List Rw) (run D:Nat→Nat) (r τ:Nat) (φ:Cl→Prop):Prop:=Jn q (rows r) (D r) (D (1 - r)) (run (1 - r)) τ φ
structure Wx (q late lost:Nat) (L:Nat→Lk) (rows:Nat→Nat→List Rw) (run D:Nat→Nat):Prop where
 hq:late+lost=q
 h1:1≤late
 d:∀ r,r < 2→(L r).d=(D r:Int)
 dd:∀ r,r < 2→D r≤D (1 - r)+1
 rn:∀ r,r < 2→run r≤lost
 e:∀ r,r < 2→∀ φ:Cl→Prop,φ (bz (L (1 - r)))→Jn q (rows r) (D r+1) (D (1 - r)) (run (1 - r)) (D r) φ
section
variable {q late lost:Nat} {L:Nat→Lk} {rows:Nat→Nat→List Rw} {run D:Nat→Nat} {x r':Nat} {LA:Lk} {fs:Ft}
theorem Wx.le (h:Wx q late lost L rows run D) {r τ:Nat} {φ:Cl→Prop} (hr:r < 2) (j:Jd q rows run D r τ φ):D r≤τ+q:=Jn.le j (h.rn (1 - r) (by omega)) (by have:=h.hq;have:=h.h1;omega) (h.dd r hr)
structure Ws (q late lost:Nat) (L:Nat→Lk) (rows:Nat→Nat→List Rw) (run D:Nat→Nat) (x:Nat) (LA:Lk) (il:Nat→Nat→List Rw) (run' D':Nat→Nat):Prop where
 w:Wx q late lost (at2 L x LA) il run' D'
 tk:∀ τ φ,Jd q rows run D x τ φ→(∀ a ∈ aN (rows x (D x)),¬ φ a)→Jd q il run' D' x τ φ
 sr:∀ φ:Cl→Prop,φ (bz (L (1 - x)))→Jd q il run' D' x (D x) φ
 gv:∀ τ φ,Jd q rows run D (1 - x) τ φ→φ (bz LA)→Jd q il run' D' (1 - x) τ φ
 ss:∀ φ:Cl→Prop,φ (bz LA)→Jd q il run' D' (1 - x) (D x) φ
 lx:∀ τ φ,Jd q rows run D x τ φ→D x≤τ+q
theorem Wx.step (h:Wx q late lost L rows run D) (hx:x < 2) (hd:D x≤D (1 - x)) (hLA:LA.d=(D x:Int)+1) (gf:rD (late:Int) fs) (hf:Jm fs∨r'=run x+1) (hr:r'≤lost) :
  Ws q late lost L rows run D x LA (at2 rows (1 - x) (fE (rows (1 - x)) (D x) (bz LA) fs)) (at2 run x r') (at2 D x (D x+1)):=by
 have ne:1 - x≠x:=by omega
 have Fj:1 - x < 2:=by omega
 have e1:1 - (1 - x)=x:=by omega
 have d1:=h.dd x hx
 have d2:=h.dd (1 - x) Fj
 rw [e1] at d2
 have hq:=h.hq
 have h1:=h.h1
 have rn:=h.rn x hx
 have ss:∀ φ:Cl→Prop,φ (bz LA)→Jn q (fE (rows (1 - x)) (D x) (bz LA) fs) (D (1 - x)) (D x+1) r' (D x) φ:=fun φ hφ=>(Jn.now (Nat.le_refl _)).give hφ gf hq rn (by omega) hf
 have J1:∀ τ φ,Jd q (at2 rows (1 - x) (fE (rows (1 - x)) (D x) (bz LA) fs)) (at2 run x r') (at2 D x (D x+1)) x τ φ=Jn q (rows x) (D x+1) (D (1 - x)) (run (1 - x)) τ φ:=fun τ φ=>by
  show Jn q (at2 rows (1 - x) _ x) (at2 D x (D x+1) x) (at2 D x (D x+1) (1 - x)) (at2 run x r' (1 - x)) τ φ=_
  rw [aT (Ne.symm ne),aJ,aT ne,aT ne]
 have J2:∀ τ φ,Jd q (at2 rows (1 - x) (fE (rows (1 - x)) (D x) (bz LA) fs)) (at2 run x r') (at2 D x (D x+1)) (1 - x) τ φ=Jn q (fE (rows (1 - x)) (D x) (bz LA) fs) (D (1 - x)) (D x+1) r' τ φ:=fun τ φ=>by
  show Jn q (at2 rows (1 - x) _ (1 - x)) (at2 D x (D x+1) (1 - x)) (at2 D x (D x+1) (1 - (1 - x))) (at2 run x r' (1 - (1 - x))) τ φ=_
  rw [e1,aJ,aT ne,aJ,aJ]
 refine ⟨⟨hq,h1,fun r oo=>?_,fun r oo=>?_,fun r oo=>?_,fun r oo φ hφ=>?_⟩,fun τ φ j hn=>?_,fun φ hφ=>?_,fun τ φ j hφ=>?_,fun φ hφ=>?_,fun τ φ j=>h.le hx j⟩
 ·by_cases z:r=x
  ·rw [z,aJ,aJ,hLA];omega
  ·rw [aT z,aT z];exact h.d r oo
 ·by_cases z:r=x
  ·rw [z,aJ,aT ne];omega
  ·have:r=1 - x:=by omega
   rw [this,aT ne,e1,aJ];omega
 ·by_cases z:r=x
  ·rw [z,aJ];exact hr
  ·rw [aT z];exact h.rn r oo
 ·by_cases z:r=x
  ·subst z
   rw [aJ,aT ne,aT (Ne.symm ne),aT ne]
   exact .inr (by omega)
  ·have er:r=1 - x:=by omega
   subst er
   rw [e1,aJ] at hφ
   rw [aJ,aT ne,e1,aJ,aJ]
   by_cases y:D (1 - x)=D x
   ·rw [y]
    exact (Jn.now (q:=q) (rows:=rows (1 - x)) (Tr:=D x+1) (run:=run x) (Nat.le_refl (D x))).give hφ gf hq rn (by omega) hf
   ·exact .inr (by omega)
 ·rw [J1];exact Jn.tick j hn
 ·rw [J1];exact h.e x hx φ hφ
 ·rw [J2]
  have j':Jn q (rows (1 - x)) (D (1 - x)) (D x) (run x) τ φ:=by
   have:=j
   unfold Jd at this
   rw [e1] at this;exact this
  exact j'.give hφ gf hq rn (by omega) hf
 ·rw [J2];exact ss φ hφ
structure Hr (q T0:Nat) (L:Nat→Lk) (rows:Nat→Nat→List Rw) (run D:Nat→Nat):Prop where
 Q:∀ r,r < 2→(L r).q=(q:Int)
 u0:∀ r,r < 2→0≤(L r).u
 a:∀ r,r < 2→∃ τ,T0≤τ∧Jd q rows run D r τ (fun _=>True)∧((τ=T0∧(T0=0→(L r).k=0))∨(L r).u+(τ:Int)+1=(D r:Int))
theorem Ma (L:Lk) (bs:List Cl):(ao L bs).u=(if bs=[] then L.u+1 else 0)∧(ao L bs).q=L.q:=by
 obtain ⟨_,_,_,hu,hq⟩:=uk bs L
 have e:∀ L:Lk,(a9 L).u=L.u:=fun L=>by
  unfold a9
  split
  ·unfold eI;cases L.p <;> rfl
  ·rfl
 refine ⟨?_,(DQ L bs).2.2⟩
 show (a9 (eJ (aO L bs) bs)).u=_
 rw [e]
 show (if bs=[] then (aO L bs).u+1 else 0)=_
 rw [hu]
def Still (L:Lk) (bs:List Cl):Prop:=(aO L bs).k=0∨(if bs=[] then L.u+1 else 0) < L.q
theorem Hr.step {T0:Nat} {il:Nat→Nat→List Rw} {run' D':Nat→Nat} (h:Hr q T0 L rows run D) (hx:x < 2) (hw:Wx q late lost L rows run D) (s:Ws q late lost L rows run D x (ao (L x) (aN (rows x (D x)))) il run' D') (hD:D' x=D x+1) (Uv:D' (1 - x)=D (1 - x)) (hT:T0≤D x) :
  Hr q T0 (at2 L x (ao (L x) (aN (rows x (D x))))) il run' D'∧(Still (L x) (aN (rows x (D x)))∨(T0≠0∧D x < T0+q)):=by
 obtain ⟨u1,q1⟩:=Ma (L x) (aN (rows x (D x)))
 obtain ⟨τ,t1,j,t2⟩:=h.a x hx
 have u0:=h.u0 x hx
 have hQ:=h.Q x hx
 have ne:1 - x≠x:=by omega
 have AV:∀ r,r < 2→r≠x→∃ τ,T0≤τ∧Jd q il run' D' r τ (fun _=>True)∧((τ=T0∧(T0=0→(L r).k=0))∨(L r).u+(τ:Int)+1=(D' r:Int)):=fun r hr z=>by
  have er:r=1 - x:=by omega
  subst er
  obtain ⟨τ',a1,a2,a3⟩:=h.a (1 - x) hr
  exact ⟨τ',a1,s.gv τ' _ a2 trivial,by rw [Uv];exact a3⟩
 have Wj:1≤q:=by have:=hw.hq;have:=hw.h1;omega
 by_cases z:aN (rows x (D x))=[]
 ·have j':=s.tk τ _ j (fun a ha=>by rw [z] at ha;cases ha)
  have l':=s.w.le hx j'
  rw [hD] at l'
  rw [if_pos z] at u1
  have hk:(aO (L x) (aN (rows x (D x)))).k=(L x).k:=by rw [z];rfl
  refine ⟨⟨fun r hr=>?_,fun r hr=>?_,fun r hr=>?_⟩,?_⟩
  ·by_cases y:r=x
   ·rw [y,aJ,q1];exact hQ
   ·rw [aT y];exact h.Q r hr
  ·by_cases y:r=x
   ·rw [y,aJ,u1];omega
   ·rw [aT y];exact h.u0 r hr
  ·by_cases y:r=x
   ·subst y
    rw [aJ]
    refine ⟨τ,t1,j',?_⟩
    rcases t2 with ⟨y1,y2⟩ | y
    ·refine .inl ⟨y1,fun w=>?_⟩
     have k0:=y2 w
     rw [(gs (.inl (by rw [hk];exact k0))).1]
     show (aO (L r) (aN (rows r (D r)))).k=0
     rw [hk];exact k0
    ·right;rw [u1,hD];omega
   ·rw [aT y];exact AV r hr y
  ·unfold Still
   rw [if_pos z,hk,hQ]
   rcases t2 with ⟨y1,y2⟩ | y
   ·by_cases w:T0=0
    ·exact .inl (.inl (y2 w))
    ·exact .inr ⟨w,by omega⟩
   ·exact .inl (.inr (by omega))
 ·rw [if_neg z] at u1
  refine ⟨⟨fun r hr=>?_,fun r hr=>?_,fun r hr=>?_⟩,?_⟩
  ·by_cases y:r=x
   ·rw [y,aJ,q1];exact hQ
   ·rw [aT y];exact h.Q r hr
  ·by_cases y:r=x
   ·rw [y,aJ,u1];exact Int.le_refl _
   ·rw [aT y];exact h.u0 r hr
  ·by_cases y:r=x
   ·subst y
    rw [aJ]
    exact ⟨D r,hT,s.sr _ trivial,.inr (by rw [u1,hD];omega)⟩
   ·rw [aT y];exact AV r hr y
  ·exact .inl (.inr (by rw [if_neg z,hQ];omega))
structure Bc (q T1:Nat) (β:Nat→Int) (L:Nat→Lk) (rows:Nat→Nat→List Rw) (run D:Nat→Nat):Prop where
 b:∀ r,r < 2→(L r).b=β r
 c:∀ r,r < 2→(L r).k=β (1 - r)∨Jd q rows run D r T1 (fun a=>a.b=β (1 - r))
 u:∀ r,r < 2→((L r).p≠none∧(L r).k=β (1 - r))∨(L (1 - r)).k≠β r∨((L (1 - r)).k=β r∧∃ τ,τ≤T1+q∧Jd q rows run D r τ (fun a=>a.k=β r∧a.b=β (1 - r)))
theorem Bc.step {T1:Nat} {β:Nat→Int} {il:Nat→Nat→List Rw} {run' D':Nat→Nat} (h:Bc q T1 β L rows run D) (hx:x < 2) (s:Ws q late lost L rows run D x (ao (L x) (aN (rows x (D x)))) il run' D') (st:Still (L x) (aN (rows x (D x)))) (hk:(L x).k≤(L (1 - x)).b) (hr:∀ a ∈ aN (rows x (D x)),a.b≤(L (1 - x)).b) :
  Bc q T1 β (at2 L x (ao (L x) (aN (rows x (D x))))) il run' D':=by
 have ne:1 - x≠x:=by omega
 have Fj:1 - x < 2:=by omega
 have e1:1 - (1 - x)=x:=by omega
 obtain ⟨eA,_⟩:=gs st
 obtain ⟨b1,k1,k2,_,_⟩:=uk (aN (rows x (D x))) (L x)
 have bs:=h.b (1 - x) Fj
 rw [bs] at hk hr
 have k3:=wA (aN (rows x (D x))) (L x) hk hr
 have ab:(ao (L x) (aN (rows x (D x)))).b=β x:=by rw [eA];show (aO _ _).b=_;rw [b1];exact h.b x hx
 have ak:(ao (L x) (aN (rows x (D x)))).k=(aO (L x) (aN (rows x (D x)))).k:=by rw [eA]
 have Yf:(ao (L x) (aN (rows x (D x)))).p=(aO (L x) (aN (rows x (D x)))).p:=by rw [eA]
 have keep:(L x).k=β (1 - x)→(ao (L x) (aN (rows x (D x)))).k=β (1 - x):=fun z=>by rw [ak];omega
 have got:(∃ a ∈ aN (rows x (D x)),a.b=β (1 - x))→(ao (L x) (aN (rows x (D x)))).k=β (1 - x):=fun ⟨a,ha,hb⟩=>by
  have:=k2 a ha
  rw [ak];omega
 refine ⟨fun r oo=>?_,fun r oo=>?_,fun r oo=>?_⟩
 ·by_cases z:r=x
  ·rw [z,aJ];exact ab
  ·rw [aT z];exact h.b r oo
 ·by_cases z:r=x
  ·subst z
   rw [aJ]
   rcases h.c r oo with y | y
   ·exact .inl (keep y)
   ·by_cases w:∃ a ∈ aN (rows r (D r)),a.b=β (1 - r)
    ·exact .inl (got w)
    ·exact .inr (s.tk _ _ y fun a ha hb=>w ⟨a,ha,hb⟩)
  ·have er:r=1 - x:=by omega
   subst er
   rw [aT ne,e1]
   rcases h.c (1 - x) oo with y | y
   ·rw [e1] at y;exact .inl y
   ·rw [e1] at y;exact .inr (s.gv _ _ y ab)
 ·by_cases z:r=x
  ·subst z
   rw [aJ,aT ne]
   rcases h.u r oo with ⟨y1,y2⟩ | y | ⟨y,τ,t1,j⟩
   ·refine .inl ⟨?_,keep y2⟩
    rw [Yf,(gD _ _ y1 fun a ha=>by rw [y2];exact hr a ha).p];exact y1
   ·exact .inr (.inl y)
   ·by_cases w:∃ a ∈ aN (rows r (D r)),a.k=β r∧a.b=β (1 - r)
    ·obtain ⟨a,ha,w1,w2⟩:=w
     refine .inl ⟨?_,got ⟨a,ha,w2⟩⟩
     rw [Yf]
     exact Bs _ _ (β (1 - r)) a hk hr ha w2 (by rw [w1];exact (h.b r oo).symm)
    ·exact .inr (.inr ⟨y,τ,t1,s.tk _ _ j fun a ha hb=>w ⟨a,ha,hb⟩⟩)
  ·have er:r=1 - x:=by omega
   subst er
   rw [aT ne,e1,aJ]
   rcases h.u (1 - x) oo with y | y | ⟨y,τ,t1,j⟩
   ·rw [e1] at y;exact .inl y
   ·rw [e1] at y
    by_cases w:(ao (L x) (aN (rows x (D x)))).k=β (1 - x)
    ·refine .inr (.inr ⟨w,D x,?_,s.ss _ ⟨w,ab⟩⟩)
     rcases h.c x hx with v | v
     ·exact absurd v y
     ·exact s.lx _ _ v
    ·exact .inr (.inl w)
   ·rw [e1] at y j
    exact .inr (.inr ⟨keep y,τ,t1,s.gv _ _ j ⟨keep y,ab⟩⟩)
theorem Bc.start {T1:Nat} {β:Nat→Int} (hb:∀ r,r < 2→(L r).b=β r) (hD:∀ r,r < 2→D r=T1):Bc q T1 β L rows run D:=by
 have now:∀ r,r < 2→∀ φ,Jd q rows run D r T1 φ:=fun r hr φ=>Jn.now (by rw [hD (1 - r) (by omega)];exact Nat.le_refl _)
 refine ⟨hb,fun r hr=>.inr (now r hr _),fun r hr=>?_⟩
 by_cases z:(L (1 - r)).k=β r
 ·exact .inr (.inr ⟨z,T1,by omega,now r hr _⟩)
 ·exact .inr (.inl z)
theorem Bc.up {T1:Nat} {β:Nat→Int} (h:Bc q T1 β L rows run D) (hw:Wx q late lost L rows run D) (hD:∀ r,r < 2→T1+2 * q < D r):∀ r,r < 2→(L r).p≠none∧(L r).k=β (1 - r)∧(L r).b=β r:=by
 have hk:∀ r,r < 2→(L r).k=β (1 - r):=fun r hr=>by
  rcases h.c r hr with y | y
  ·exact y
  ·have:=hw.le hr y
   have:=hD r hr
   omega
 intro r hr
 rcases h.u r hr with y | y | ⟨_,τ,t1,j⟩
 ·exact ⟨y.1,y.2,h.b r hr⟩
 ·have:=hk (1 - r) (by omega)
  rw [show 1 - (1 - r)=r by omega] at this
  exact absurd this y
 ·have:=hw.le hr j
  have:=hD r hr
  omega
end
end
end K37
namespace K37
open PySem L2 PyProof.Rows
section
variable {P:Program} {w:World} {K:PySem.W.Frag} {mg:Str→Option Value} {base:Heap} {t:Ad}
theorem rN:∀ (es:List Ev) (A:Wt) (x:Pr),A.p=some x→(∀ e ∈ es,∃ xs,e=.took xs)→(Kl A es).k x=A.k x+es.length
 | [],_,_,_,_=>rfl
 | e :: r,A,x,hp,h=>by
  obtain ⟨xs,rfl⟩:=h e List.mem_cons_self
  have es:mX A (.took xs)=⟨A.p,fun P=>if P=x then A.k x+1 else A.k P,A.u⟩:=by unfold mX;simp only;rw [hp]
  have i:=rN r (mX A (.took xs)) x (by rw [es];exact hp) fun e he=>h e (List.mem_cons_of_mem _ he)
  show (Kl (mX A (.took xs)) r).k x=_
  rw [i,es]
  show (if x=x then A.k x+1 else A.k x)+r.length=_
  rw [if_pos rfl,List.length_cons];omega
def Mb (β:Nat→Int) (G:Gh) (s:Nat) (P:Pr):Cl→Prop:=fun a=>a.b=β s∧a.k=β (1 - s)∧a.n=((G.O s P:Nat):Int) % 97∧a.xs≠[]
def Jo (β:Nat→Int) (G:Gh) (s:Nat) (P:Pr):Cl→Prop:=fun a=>a.b=β (1 - s)∧a.k=β s∧a.c=((G.K (1 - s) P:Nat):Int) % 97
def Ph (q:Nat) (rows:Nat→Nat→List Rw) (run D:Nat→Nat) (β:Nat→Int) (G:Gh) (P:Pr) (s τ:Nat):Prop :=
 G.O s P=(G.W s P).length∨(G.K (1 - s) P=G.O s P∧G.O s P < (G.W s P).length∧Jd q rows run D (1 - s) τ (Mb β G s P))∨(G.K (1 - s) P=G.O s P+1∧Jd q rows run D s τ (Jo β G s P))
def N0 (β:Nat→Int) (L:Nat→Lk):Prop:=∀ r,r < 2→(L r).p≠none∧(L r).k=β (1 - r)∧(L r).b=β r
section
variable {q late lost:Nat} {L:Nat→Lk} {rows il:Nat→Nat→List Rw} {run run' D D':Nat→Nat} {x s τ:Nat} {β:Nat→Int} {G G':Gh} {P:Pr}
theorem wD (up:N0 β L) (hx:x < 2) {bs:List Cl} (st:Still (L x) bs) (hr:∀ a ∈ bs,a.b≤(L (1 - x)).b):nS (L x) (aO (L x) bs)∧(ao (L x) bs).p=(L x).p∧(ao (L x) bs).k=β (1 - x)∧(ao (L x) bs).b=β x:=by
 obtain ⟨u1,u2,u3⟩:=up x hx
 obtain ⟨_,_,v3⟩:=up (1 - x) (by omega)
 have sy:=gD bs (L x) u1 fun a ha=>by rw [u2,← v3];exact hr a ha
 obtain ⟨eA,_⟩:=gs st
 rw [eA]
 exact ⟨sy,sy.p,sy.k.trans u2,sy.b.trans u3⟩
theorem N0.step (up:N0 β L) (hx:x < 2) {bs:List Cl} (st:Still (L x) bs) (hr:∀ a ∈ bs,a.b≤(L (1 - x)).b):N0 β (at2 L x (ao (L x) bs)):=by
 obtain ⟨_,a1,a2,a3⟩:=wD up hx st hr
 intro r oo
 by_cases z:r=x
 ·rw [z,aJ];exact ⟨by rw [a1];exact (up x hx).1,a2,a3⟩
 ·rw [aT z];exact up r oo
theorem Ph.step (hx:x < 2) (hs:s < 2) (h:Ph q rows run D β G P s τ) (ws:Ws q late lost L rows run D x (ao (L x) (aN (rows x (D x)))) il run' D') (up:N0 β L) (st:Still (L x) (aN (rows x (D x)))) (hr:∀ a ∈ aN (rows x (D x)),a.b≤(L (1 - x)).b)
  (en:En G x (L x)) (Ji:En G' x (ao (L x) (aN (rows x (D x))))) (rel:Rel G) (TM:Rel G') {b:Int} (gr:jL x b G G') (tr:pD (G.W (1 - x)) (wt G x (L x)) (bL (L x) (aN (rows x (D x)))).ev (wt G' x (ao (L x) (aN (rows x (D x)))))) (HZ:(L x).ev=[]) (hP:∀ r,r < 2→pr r (β r) (β (1 - r))=P) (AS:∀ xs ∈ G.W s P,xs≠[]) :
  ∃ τ',Ph q il run' D' β G' P s τ'∧((G'.O s P=G.O s P∧G'.K (1 - s) P=G.K (1 - s) P∧τ'=τ)∨(G'.O s P+G'.K (1 - s) P=G.O s P+G.K (1 - s) P+1∧τ'=D x∧D x≤τ+q)):=by
 have ne:1 - x≠x:=by omega
 have Fj:1 - x < 2:=by omega
 have e1:1 - (1 - x)=x:=by omega
 obtain ⟨sy,a1,a2,a3⟩:=wD up hx st hr
 obtain ⟨u1,u2,u3⟩:=up x hx
 obtain ⟨_,v2,v3⟩:=up (1 - x) Fj
 rw [e1] at v2
 have oo:∀ a ∈ aN (rows x (D x)),a.b≤(L x).k:=fun a ha=>by rw [u2,← v3];exact hr a ha
 obtain ⟨eA,eV⟩:=gs st
 have p1:pr x (L x).b (L x).k=P:=by rw [u2,u3];exact hP x hx
 have p2:pr x (ao (L x) (aN (rows x (D x)))).b (ao (L x) (aN (rows x (D x)))).k=P:=by rw [a2,a3];exact hP x hx
 have o1:=en.o
 have k1:=en.t
 have c1:=en.p
 rw [p1] at o1 k1 c1
 have o2:=Ji.o
 have k2:=Ji.t
 have c2:=Ji.p
 have w2:=Ji.ow
 rw [p2] at o2 k2 c2 w2
 have eW:=gr.w
 rw [eW] at c2 w2
 have epc:(ao (L x) (aN (rows x (D x)))).bE=(aO (L x) (aN (rows x (D x)))).bE:=by rw [eA]
 obtain ⟨xp,P4⟩:∃ xp,(L x).p=some xp:=by
  cases e:(L x).p with
  | none=>exact absurd e u1
  | some y=>exact ⟨y,rfl⟩
 have Pq:xp=P:=by have:=(en.up xp P4).1;rw [p1] at this;exact this
 obtain ⟨es,GN,TN⟩:=sy.ev
 rw [HZ,List.nil_append] at GN
 have kk:G'.K x P=G.K x P+(aO (L x) (aN (rows x (D x)))).ev.length:=by
  have t2:=tr.ok.2
  rw [eV,GN] at t2
  have:=rN es (wt G x (L x)) P (by rw [← Pq];exact P4) TN
  rw [t2] at this
  rw [GN];exact this
 by_cases z:s=x
 ·subst z
  have gk:=gr.k (1 - s) ne
  have hK:G'.K (1 - s) P=G.K (1 - s) P:=by rw [gk]
  have om:=gr.om P
  obtain ⟨r1,r2,r3⟩:=rel s hs P
  obtain ⟨Qf,Qg,TQ⟩:=TM s hs P
  rw [hK] at Qf Qg TQ
  rw [eW] at TQ
  have N1:G'.O s P < (G.W s P).length→Mb β G' s P (bz (ao (L s) (aN (rows s (D s))))):=fun et=>by
   refine ⟨a3,a2,o2,?_⟩
   show (ao (L s) (aN (rows s (D s)))).bE.headD []≠[]
   rw [c2]
   have:((G.W s P).drop (G'.O s P)).headD []=(G.W s P)[G'.O s P]:=by
    rw [List.drop_eq_getElem_cons et];rfl
   rw [this]
   exact AS _ (List.getElem_mem et)
  rcases h with y | ⟨y1,y2,j⟩ | ⟨y1,j⟩
  ·exact ⟨τ,.inl (by rw [eW];omega),.inl ⟨by omega,hK,rfl⟩⟩
  ·have eO:G'.O s P=G.O s P:=by omega
   refine ⟨τ,.inr (.inl ⟨by rw [hK,y1,eO],by rw [eW,eO];exact y2,?_⟩),.inl ⟨eO,hK,rfl⟩⟩
   refine ws.gv τ _ ?_ (N1 (by omega))
   refine Jn.mono j fun a ha=>?_
   unfold Mb at ha ⊢
   rw [eO];exact ha
  ·by_cases w:G'.O s P=G.O s P
   ·refine ⟨τ,.inr (.inr ⟨by rw [hK,y1,w],?_⟩),.inl ⟨w,hK,rfl⟩⟩
    have j':=ws.tk τ _ j fun a ha hc=>by
     obtain ⟨q1,q2,q3⟩:=hc
     have hlp:(L s).bE≠[]:=fun z=>by
      rw [c1] at z
      have:=congrArg List.length z
      rw [List.length_drop] at this
      have z0:([]:List (List Int)).length=0:=rfl
      omega
     have:=nT _ (L s) a u1 oo ha (by rw [u2];exact q1) (by rw [u3];exact q2) hlp (by rw [q3,o1,y1];omega)
     rw [← epc,c2,c1,List.length_drop,List.length_drop] at this
     omega
    refine Jn.mono j' fun a ha=>?_
    unfold Jo at ha ⊢
    rw [hK];exact ha
   ·have eO:G'.O s P=G.O s P+1:=by omega
    have lx:=ws.lx _ _ j
    refine ⟨D s,?_,.inr ⟨by omega,rfl,lx⟩⟩
    by_cases v:G'.O s P=(G.W s P).length
    ·exact .inl (by rw [eW];exact v)
    ·exact .inr (.inl ⟨by omega,by rw [eW];omega,ws.ss _ (N1 (by omega))⟩)
 ·have Q6:s=1 - x:=by omega
  subst Q6
  have hO:G'.O (1 - x) P=G.O (1 - x) P:=by rw [gr.o (1 - x) ne]
  rw [e1]
  obtain ⟨r1,r2,r3⟩:=rel (1 - x) hs P
  obtain ⟨Qf,Qg,TQ⟩:=TM (1 - x) hs P
  rw [e1] at r1 r2 r3 Qf Qg TQ
  rw [hO] at Qf Qg
  rw [eW] at TQ
  unfold Ph at h
  rw [e1] at h
  have count:Jo β G' (1 - x) P (bz (ao (L x) (aN (rows x (D x))))):=by
   unfold Jo
   rw [e1]
   exact ⟨a3,a2,k2⟩
  rcases h with y | ⟨y1,y2,j⟩ | ⟨y1,j⟩
  ·exact ⟨τ,.inl (by rw [hO,eW];exact y),.inl ⟨hO,by omega,rfl⟩⟩
  ·by_cases w:G'.K x P=G.K x P
   ·refine ⟨τ,.inr (.inl ⟨by rw [e1,w,y1,hO],by rw [hO,eW];exact y2,?_⟩),.inl ⟨hO,w,rfl⟩⟩
    have j':=ws.tk τ _ j fun a ha hc=>by
     obtain ⟨q1,q2,q3,q4⟩:=hc
     have:=pY _ (L x) a u1 oo ha (by rw [u2];exact q1) (by rw [u3,q2,e1]) q4 (by rw [q3,k1,y1])
     rw [HZ] at this
     have z0:([]:List Ev).length=0:=rfl
     omega
    rw [e1]
    refine Jn.mono j' fun a ha=>?_
    unfold Mb at ha ⊢
    rw [hO];exact ha
   ·have eK:G'.K x P=G.K x P+1:=by omega
    have lx:=ws.lx _ _ j
    exact ⟨D x,.inr (.inr ⟨by rw [e1];omega,ws.ss _ count⟩),.inr ⟨by omega,rfl,lx⟩⟩
  ·have eK:G'.K x P=G.K x P:=by omega
   refine ⟨τ,.inr (.inr ⟨by rw [e1,eK,y1,hO],?_⟩),.inl ⟨hO,eK,rfl⟩⟩
   refine ws.gv τ _ ?_ count
   refine Jn.mono j fun a ha=>?_
   unfold Jo at ha ⊢
   rw [e1] at ha ⊢
   rw [eK];exact ha
end
def pre (es:List Ev) (L:Lk):Lk:={ L with ev:=es ++ L.ev }
theorem Jp (es:List Ev) (L:Lk) (n:Int):aw (pre es L) n=pre es (aw L n):=by
 obtain ⟨q,s,d,u,b,k,p,ev,bE,of,tk⟩:=L
 unfold aw pre
 cases p with
 | none=>rfl
 | some x=>simp only;split <;> simp
theorem Jq (es:List Ev) (L:Lk):bA (pre es L)=pre es (bA L):=by
 obtain ⟨q,s,d,u,b,k,p,ev,bE,of,tk⟩:=L
 unfold bA pre
 cases p <;> simp
theorem Jr (es:List Ev) (L:Lk) (c:Int):bB (pre es L) c=pre es (bB L c):=by
 unfold bB pre
 simp only
 split <;> rfl
theorem pre_take (es:List Ev) (L:Lk) (n:Int) (xs:List Int):bO (pre es L) n xs=pre es (bO L n xs):=by
 unfold bO pre
 simp only
 split <;> simp
theorem Js (es:List Ev) (L:Lk) (a:Cl):aW (pre es L) a=pre es (aW L a):=by
 have hb:∀ L:Lk,(pre es L).b=L.b:=fun _=>rfl
 have hk:∀ L:Lk,(pre es L).k=L.k:=fun _=>rfl
 unfold aW
 rw [hk,Jp,hb,Jq,Jr,pre_take]
 split
 ·rfl
 ·split <;> rfl
theorem yo (es:List Ev):∀ (bs:List Cl) (L:Lk),aO (pre es L) bs=pre es (aO L bs)
 | [],_=>rfl
 | a :: r,L=>by
  show aO (aW (pre es L) a) r=pre es (aO (aW L a) r)
  rw [Js];exact yo es r (aW L a)
theorem Jt (es:List Ev) (L:Lk):eI (pre es L)=pre es (eI L):=by
 obtain ⟨q,s,d,u,b,k,p,ev,bE,of,tk⟩:=L
 unfold eI pre
 cases p <;> simp
theorem Ju (es:List Ev) (L:Lk) (bs:List Cl):bL (pre es L) bs=pre es (bL L bs):=by
 have hu:eJ (pre es (aO L bs)) bs=pre es (eJ (aO L bs) bs):=rfl
 have hq:∀ L:Lk,a9 (pre es L)=pre es (a9 L):=fun L=>by
  unfold a9
  have e1:(pre es L).k=L.k:=rfl
  have e2:(pre es L).q=L.q:=rfl
  have e3:(pre es L).u=L.u:=rfl
  rw [e1,e2,e3,Jt]
  split <;> rfl
 unfold bL
 rw [yo,hu,hq]
 rfl
end
end K37
namespace K37
open PySem L2 PyProof.Rows
section
variable {P:Program} {w:World} {K:PySem.W.Frag} {mg:Str→Option Value} {base:Heap} {t:Ad}
theorem Yg {K:PySem.W.Frag} {H:Hp} {a b c:Addr} {d:Int} (hc:H c=none) (hb:(upd H c (.tup [])) b=none) (ha:(upd (upd H c (.tup [])) b (.tup [.int d,.ref c])) a=none):aI H (upd (upd (upd H c (.tup [])) b (.tup [.int d,.ref c])) a (.tup [.ref b]))∧ou K (upd (upd (upd H c (.tup [])) b (.tup [.int d,.ref c])) a (.tup [.ref b])) a [(d,[])]:=by
 obtain ⟨s1,g1,g2⟩:=v8 (K:=K) (d:=d) hc hb
 have s2:aI (upd (upd H c (.tup [])) b (.tup [.int d,.ref c])) (upd (upd (upd H c (.tup [])) b (.tup [.int d,.ref c])) a (.tup [.ref b])):=(aI.refl _).new ha
 exact ⟨s1.trans s2,Je (cP.of aB) (s2.tup g1) (g2.same s2)⟩
theorem Jv {late d:Int} {ts:Ts} (h:1≤d∧d≤late) (g:jo ts):rD late [(d,ts)]:=⟨by show 1≤3;decide,fun x hx=>by rw [List.mem_singleton.mp hx];exact ⟨h.1,h.2,g⟩⟩
theorem P6:jo [(5,7)]:=⟨by decide,fun q hq=>by rw [List.mem_singleton.mp hq];exact ⟨⟨by decide,by decide⟩,by decide,by decide⟩,by simp⟩
def pE (K:PySem.W.Frag):Sp:=fun vs H Q _=>∃ (c:Int) (run late lost:Nat) (ma:Addr),vs=[.int c,.int (run:Int),.ref ma]∧cP K H ma [.int (late:Int),.int (lost:Int)]∧1≤late∧run≤lost ∧
 ∀ (r fB:Addr) (H':Hp) (fs:Ft) (run':Nat),aI H H'→H' r=some (.tup [.ref fB,.int (run':Int)])→ou K H' fB fs→rD (late:Int) fs→Jm fs∨run'=run+1→run'≤lost→Q (.ref r) H'
theorem gi:aS ["cell","run","measure","number","late","lost","delay"] ["cell","run","measure"] (aG iJ):=⟨rfl,rfl,rfl,by decide +kernel,rfl,by decide +kernel,by decide +kernel⟩
set_option maxHeartbeats 1000000 in
theorem xZ (F:aR K mg "_law_fates" iJ) (T:Txt K mg t) (cX:Def P w K mg base 1 "_law_numbers" ["cell","many"] g8):Def P w K mg base 2 "_law_fates" ["cell","run","measure"] (pE K):=by
 refine F.def gi (fun _ _ _ _ _ _ us hl=>match us,hl with | [_,_,_],_=>rfl) (fun vs H Q E h=>?_) (fun f be A outer s H vs Q E hr h=>?_)
 ·obtain ⟨c,run,late,lost,ma,rfl,_⟩:=h
  rfl
 ·obtain ⟨c,run,late,lost,ma,rfl,Nw,h1,TR,q⟩:=h
  refine ⟨_,aD (aZ (i:=3) gi.nd rfl (Or.inl rfl) (af (aQ K) (aa (cX.mono (by decide)) hr av (aA (pv 0) (aA aF aC))) aF (fun _ _=>rfl)))
   (aD (pH (pv 2) (lF K (i:=4) (j:=5) rfl gi.nd rfl rfl (Or.inl rfl) (Or.inl rfl)))
   (aD (Cf (bu (PW.pt (uv (aj jN (aP bG (pv 3) aF) aF (au _)) (qV (aj ux (pv 1) (pv 5) (au _)))))
    (aH (ar (bX (aA (bX aC) (aA (aP bM (pv 1) aF) aC)))))
    (bD)))
   (aD (aZ (i:=6) gi.nd rfl (Or.inl rfl) (aP bM aF (aP bG (aP jM (pv 3) aF) (pv 4))))
   (aH (ar (bX (aA (af (aQ K) (bH (aA (bX (aA (bX (aA (pv 6) (aA (bX aC) aC))) aC)) (aA (bX (aA (bX (aA aF (aA (bX aC) aC))) (aA (bX (aA (pv 6) (aA (bX aC) aC))) aC))) (aA (bX (aA (bX (aA (pv 6) (aA (bX (aA (bX (aA aF (aA aF aC))) aC)) aC))) aC)) (aA (bX (aA (bX (aA aF (aA (bX aC) aC))) aC)) aC))))) (aP bG (aP jM (pv 3) aF) aF) (fun _ _=>rfl)) (aA aF aC)))))))),?_⟩
  refine ⟨_,rfl,c,1,rfl,by decide,fun nl H1 ns s1 nn e1 hl hn=>?_⟩
  obtain ⟨n,rfl⟩:∃ n,ns=[n]:=by
   match ns,hl with
   | [n],_=>exact ⟨n,rfl⟩
  have n0:0≤n:=hn n List.mem_cons_self
  refine ⟨nl,_,_,_,rfl,rfl,aY.of e1,rfl,?_⟩
  refine ⟨_,rfl,?_⟩
  refine qg (s1.tup Nw) ?_
  refine ⟨fun σ H'=>σ=[some (.int c),some (.int (run:Int)),some (.ref ma),some (.int n),some (.int (late:Int)),some (.int (lost:Int)),none]∧H'=H1,?_,?_⟩
  ·refine ⟨_,rfl,_,_,rfl,rfl,(by show (0:Int) < 3;decide),rfl,_,rfl,?_⟩
   by_cases z:n % 3=1
   ·refine fk (by show V.int (n % 3)=V.int 1;rw [z]) ?_
    refine ⟨_,rfl,_,rfl,_,_,rfl,rfl,_,rfl,?_⟩
    by_cases y:(run:Int) < (lost:Int)
    ·refine fk y ?_
     refine ⟨by show 0≤sizeLine;decide,fun e he=>⟨_,rfl,_,_,rfl,rfl,by show 2≤sizeLine;decide,fun r oo=>?_⟩⟩
     have s2:aI H1 (upd H1 e (.tup [])):=(aI.refl _).new he
     have s3:aI (upd H1 e (.tup [])) (upd (upd H1 e (.tup [])) r (.tup [.ref e,.int ((run:Int)+1)])):=(aI.refl _).new oo
     exact q r e _ [] (run+1) (s1.trans (s2.trans s3)) (by rw [aB];rfl) (Pw (cP.of (s3 _ _ aB))) ⟨by decide,fun d hd=>by cases hd⟩ (.inr rfl) (by omega)
    ·exact fj y ⟨rfl,rfl⟩
   ·exact fj (fun w=>z (V.int.inj w)) ⟨rfl,rfl⟩
  rintro σ H' ⟨rfl,rfl⟩
  have lp:(0:Int) < (late:Int):=by omega
  refine ⟨_,rfl,_,_,rfl,rfl,⟨by decide,by decide⟩,_,rfl,_,_,rfl,rfl,lp,_,_,rfl,rfl,?_⟩
  have bd:1≤1+n / 3 % (late:Int)∧1+n / 3 % (late:Int)≤(late:Int):=by
   have:=Int.emod_nonneg (n / 3) (show (late:Int)≠0 by omega)
   have:=Int.emod_lt_of_pos (n / 3) lp
   omega
  dsimp only
  generalize 1+n / 3 % (late:Int)=d at *
  refine ⟨_,rfl,by show 0≤sizeLine;decide,fun c1 Uh=>⟨by show 2≤sizeLine;decide,fun b1 Ki=>⟨by show 1≤sizeLine;decide,fun a1 PR=>?_⟩⟩⟩
  obtain ⟨S1,F1⟩:=Yg (K:=K) (d:=d) Uh Ki PR
  generalize upd (upd (upd H' c1 (.tup [])) b1 (.tup [.int d,.ref c1])) a1 (.tup [.ref b1])=H2 at *
  refine ⟨by show 0≤sizeLine;decide,fun c2 Ub=>⟨by show 2≤sizeLine;decide,fun b2 Cc=>?_⟩⟩
  obtain ⟨p1,p2,p3⟩:=v8 (K:=K) (d:=1) Ub Cc
  generalize upd (upd H2 c2 (.tup [])) b2 (.tup [.int 1,.ref c2])=H3 at *
  refine ⟨_,rfl,by show 0≤sizeLine;decide,fun c3 hc3=>⟨by show 2≤sizeLine;decide,fun b3 Qq=>⟨by show 2≤sizeLine;decide,fun a2 PU=>?_⟩⟩⟩
  obtain ⟨p4,p5,p6⟩:=v8 (K:=K) (d:=d) hc3 Qq
  generalize upd (upd H3 c3 (.tup [])) b3 (.tup [.int d,.ref c3])=H4 at *
  have S4:aI H4 (upd H4 a2 (.tup [.ref b2,.ref b3])):=(aI.refl _).new PU
  have Yh:=p4.trans S4
  have F2:ou K (upd H4 a2 (.tup [.ref b2,.ref b3])) a2 [(1,[]),(d,[])]:=Px (cP.of aB) (Yh.tup p2) (p3.same Yh) (S4.tup p5) (p6.same S4)
  generalize upd H4 a2 (.tup [.ref b2,.ref b3])=H5 at *
  refine ⟨_,rfl,by show 2≤sizeLine;decide,fun N3 Bt=>⟨by show 1≤sizeLine;decide,fun e2 he2=>⟨by show 2≤sizeLine;decide,fun b4 Wk=>⟨by show 1≤sizeLine;decide,fun a3 ha3=>?_⟩⟩⟩⟩
  have S6:aI H5 (upd H5 N3 (.tup [.int 5,.int 7])):=(aI.refl _).new Bt
  have E6:(upd H5 N3 (.tup [.int 5,.int 7])) N3=some (.tup [.int 5,.int 7]):=aB
  generalize upd H5 N3 (.tup [.int 5,.int 7])=H6 at *
  have S7:aI H6 (upd H6 e2 (.tup [.ref N3])):=(aI.refl _).new he2
  have T7:rC K (upd H6 e2 (.tup [.ref N3])) e2 [(5,7)]:=⟨fun _=>N3,cP.of (by rw [aB];rfl),fun y x hx=>by
   match y,hx with
   | 0,hx=>cases hx;exact cP.of (S7 _ _ E6)
   | y+1,hx=>cases hx⟩
  generalize upd H6 e2 (.tup [.ref N3])=H7 at *
  obtain ⟨p7,p8,p9⟩:=MU (d:=d) T7 Wk
  generalize upd H7 b4 (.tup [.int d,.ref e2])=H8 at *
  have S9:aI H8 (upd H8 a3 (.tup [.ref b4])):=(aI.refl _).new ha3
  have F3:ou K (upd H8 a3 (.tup [.ref b4])) a3 [(d,[(5,7)])]:=Je (cP.of aB) (S9.tup p8) (p9.same S9)
  generalize upd H8 a3 (.tup [.ref b4])=H9 at *
  refine ⟨by show 0≤sizeLine;decide,fun c5 hc5=>⟨by show 2≤sizeLine;decide,fun b5 hb5=>⟨by show 1≤sizeLine;decide,fun a4 ha4=>?_⟩⟩⟩
  obtain ⟨S10,F4⟩:=Yg (K:=K) (d:=1) hc5 hb5 ha4
  generalize upd (upd (upd H9 c5 (.tup [])) b5 (.tup [.int 1,.ref c5])) a4 (.tup [.ref b5])=CH at *
  refine ⟨by show 4≤sizeLine;decide,fun ll hll=>?_⟩
  have Yi:aI CH (upd CH ll (.lst [.ref a1,.ref a2,.ref a3,.ref a4])):=(aI.refl _).new hll
  have E11:(upd CH ll (.lst [.ref a1,.ref a2,.ref a3,.ref a4])) ll=some (.lst [.ref a1,.ref a2,.ref a3,.ref a4]):=aB
  generalize upd CH ll (.lst [.ref a1,.ref a2,.ref a3,.ref a4])=Es at *
  have Yj:=S10.trans Yi
  have Yk:=(((S6.trans S7).trans p7).trans S9).trans Yj
  have Yl:=((p1.trans p4).trans S4).trans Yk
  have F1:=F1.same Yl
  have F2:=F2.same Yk
  have F3:=F3.same Yj
  have F4:=F4.same Yi
  have sA:=s1.trans (S1.trans Yl)
  obtain ⟨fB,fs,Qu,hF,gF,fit⟩:∃ (fB:Addr) (fs:Ft),tu [V.ref a1,V.ref a2,V.ref a3,V.ref a4] (n / 9 % 4)=some (.ref fB)∧ou K Es fB fs∧rD (late:Int) fs∧Jm fs:=by
   have P7:(1:Int)≤1∧(1:Int)≤(late:Int):=⟨by decide,by omega⟩
   have h4:n / 9 % 4=0∨n / 9 % 4=1∨n / 9 % 4=2∨n / 9 % 4=3:=by omega
   rcases h4 with z | z | z | z
   ·exact ⟨a1,_,by rw [z];rfl,F1,Jv bd lg,⟨_,List.mem_cons_self,by show ([]:Ts).length < 3;decide⟩⟩
   ·refine ⟨a2,_,by rw [z];rfl,F2,⟨by show 2≤3;decide,fun x hx=>?_⟩,⟨_,List.mem_cons_self,by decide⟩⟩
    rcases List.mem_cons.mp hx with rfl | hx
    ·exact ⟨P7.1,P7.2,lg⟩
    ·rw [List.mem_singleton.mp hx];exact ⟨bd.1,bd.2,lg⟩
   ·exact ⟨a3,_,by rw [z];rfl,F3,Jv bd P6,⟨_,List.mem_cons_self,by show ([(5,7)]:Ts).length < 3;decide⟩⟩
   ·exact ⟨a4,_,by rw [z];rfl,F4,Jv P7 lg,⟨_,List.mem_cons_self,by decide⟩⟩
  refine ⟨_,rfl,_,_,rfl,rfl,⟨by decide,by decide⟩,_,_,rfl,rfl,(by show (0:Int) < 4;decide),ll,_,_,_,rfl,rfl,aY.of E11,Qu,?_⟩
  refine ⟨by show 2≤sizeLine;decide,fun r oo=>?_⟩
  have HA:aI Es (upd Es r (.tup [.ref fB,.int 0])):=(aI.refl _).new oo
  exact q r fB _ fs 0 (sA.trans HA) (by rw [aB];rfl) (hF.same HA) gF (.inl fit) (Nat.zero_le _)
end
end K37
namespace K37
open PySem L2 PyProof.Rows
section
variable {P:Program} {w:World} {K:PySem.W.Frag} {mg:Str→Option Value} {base:Heap} {t:Ad}
def nU:Sp:=fun vs H Q _=>∃ (c:Int) (m:Nat),vs=[.int c,.int (m:Int)]∧m≤200∧∀ (r:Addr) (H':Hp) (bE:List (List Int)),aI H H'→H r=none→eH H' H' r bE→bE.length=m→(∀ xs ∈ bE,xX xs)→Q (.ref r) H'
theorem Wl (x y z:V) {m:Int} (h0:0≤m) (h3:m < 3):∃ j:Nat,1≤j∧j≤3∧iF [x,y,z] none (some (1+m))=[x,y,z].take j:=by
 have h:m=0∨m=1∨m=2:=by omega
 rcases h with rfl | rfl | rfl
 ·exact ⟨1,by decide,by decide,rfl⟩
 ·exact ⟨2,by decide,by decide,rfl⟩
 ·exact ⟨3,by decide,by decide,rfl⟩
theorem wF:aS ["cell","many"] ["cell","many"] (aG eG):=⟨rfl,rfl,rfl,by decide +kernel,rfl,by decide +kernel,by decide +kernel⟩
set_option maxHeartbeats 1000000 in
theorem wG (F:aR K mg "_law_pieces" eG) (T:Txt K mg t):Def P w K mg base 1 "_law_pieces" ["cell","many"] nU:=by
 refine F.def wF (fun _ _ _ _ _ _ us hl=>match us,hl with | [_,_],_=>rfl) (fun vs H Q E h=>?_) (fun f be A outer s H vs Q E hr h=>?_)
 ·obtain ⟨c,m,rfl,_⟩:=h
  rfl
 ·obtain ⟨c,m,rfl,hm,q⟩:=h
  refine ⟨_,aH (ar (kG rfl (Nc:=["k","cell"]) (ix:=[none,some 0]) (dJ (aG eG) ["cell","many"] rfl rfl (by decide +kernel)) (cU (by rfl) T.dP (aA (pv 1) aC)) (fun C fp s H=>⟨(az (i:=0) (show (["k","cell"]:List Str).Nodup by decide +kernel) rfl (Or.inl rfl)),cS,(kF (kJ K) (bH (aA (aP bG (pv 0) aF) (aA (aP bG (aP bM (aP jM (pv 1) aF) (aP jM (pv 0) aF)) aF) (aA (aP jg aF (aP bG (pv 0) aF)) aC)))) uY (jP (aP bM aF (aP bG (aP bM (pv 0) (pv 1)) aF))))⟩))),?_⟩
  have ox:(1000001:Nat)≤sizeLine:=by decide
  refine ⟨_,rfl,(m:Int),rfl,by omega,by omega,fun D hD=>?_⟩
  rw [Int.toNat_natCast]
  refine kI (lo:=0) (n:=m) (fun i σ H'=>(∃ v,σ=[v,some (.int c)])∧∃ bE:List (List Int),aI H H'∧H D=none∧bE.length=i∧(∀ xs ∈ bE,xX xs)∧∃ df:Nat→Addr,H' D=some (.lst (bW bE.length df))∧∀ y xs,bE[y]?=some xs→H' (df y)=some (.lst (xs.map V.int))∧df y≠D) ⟨⟨none,rfl⟩,[],(aI.refl _).new hD,hD,rfl,fun xs h=>(by cases h),fun _=>0,aB,fun y xs h=>(by cases h)⟩ ?_ ?_
  ·rintro i σ H' N hN hi ⟨⟨v,rfl⟩,bE,s1,nD,hl,hp,df,g1,g2⟩
   rw [show (0:Int)+(i:Nat)=(i:Int) by omega]
   refine dX ?_
   refine ⟨_,rfl,_,_,rfl,rfl,(by show (0:Int) < 97;decide),_,rfl,_,_,rfl,rfl,⟨by decide,by decide⟩,_,rfl,_,_,rfl,rfl,⟨by decide,by decide⟩,_,_,rfl,rfl,_,_,rfl,rfl,(by show (0:Int) < 97;decide),_,rfl,_,_,rfl,rfl,(by show (0:Int) < 50;decide),_,_,rfl,rfl,by show 3≤sizeLine;decide,fun la Ym=>?_⟩
   have h0:0≤((i:Int)+c) % 3:=Int.emod_nonneg _ (by decide)
   have h3:((i:Int)+c) % 3 < 3:=Int.emod_lt_of_pos _ (by decide)
   dsimp only at Ym ⊢
   have s2:aI H' (upd H' la (.lst [.int ((i:Int) % 97),.int ((c / 7+(i:Int) / 97) % 97),.int (96 - (i:Int) % 50)])):=(aI.refl _).new Ym
   have e2:(upd H' la (.lst [.int ((i:Int) % 97),.int ((c / 7+(i:Int) / 97) % 97),.int (96 - (i:Int) % 50)])) la=some (.lst [.int ((i:Int) % 97),.int ((c / 7+(i:Int) / 97) % 97),.int (96 - (i:Int) % 50)]):=aB
   generalize upd H' la (.lst [.int ((i:Int) % 97),.int ((c / 7+(i:Int) / 97) % 97),.int (96 - (i:Int) % 50)])=H2 at *
   refine ⟨_,rfl,_,rfl,_,_,rfl,rfl,_,_,rfl,rfl,(by show (0:Int) < 3;decide),_,_,rfl,rfl,_,rfl,la,_,rfl,aY.of e2,fun p Wm=>?_⟩
   obtain ⟨j,j1,j3,ec⟩:=Wl (.int ((i:Int) % 97)) (.int ((c / 7+(i:Int) / 97) % 97)) (.int (96 - (i:Int) % 50)) h0 h3
   have WT:iF [V.int ((i:Int) % 97),.int ((c / 7+(i:Int) / 97) % 97),.int (96 - (i:Int) % 50)] none (some (1+((i:Int)+c) % 3))=(([(i:Int) % 97,(c / 7+(i:Int) / 97) % 97,96 - (i:Int) % 50].take j).map V.int):=by rw [ec,List.map_take];rfl
   rw [WT]
   have PZ:xX ([(i:Int) % 97,(c / 7+(i:Int) / 97) % 97,96 - (i:Int) % 50].take j):=by
    refine ⟨by rw [List.length_take];show 1≤min j 3∧min j 3≤10;omega,fun v hv=>?_⟩
    have hv:=List.mem_of_mem_take hv
    simp only [List.mem_cons,List.not_mem_nil,or_false] at hv
    rcases hv with rfl | rfl | rfl
    ·exact uh _
    ·exact uh _
    ·have:=Int.emod_nonneg (i:Int) (show (50:Int)≠0 by decide)
     have:=Int.emod_lt_of_pos (i:Int) (show (0:Int) < 50 by decide)
     exact ⟨by omega,by omega⟩
   generalize [(i:Int) % 97,(c / 7+(i:Int) / 97) % 97,96 - (i:Int) % 50].take j=xs at *
   have s3:aI H2 (upd H2 p (.lst (xs.map V.int))):=(aI.refl _).new Wm
   have e3:(upd H2 p (.lst (xs.map V.int))) p=some (.lst (xs.map V.int)):=aB
   generalize upd H2 p (.lst (xs.map V.int))=H3 at *
   have Wn:=s2.trans s3
   have Yn:p≠D:=fun z=>by rw [z,s2 _ _ g1] at Wm;cases Wm
   refine ⟨_,Wn _ _ g1,by rw [aL];omega,hN _ _ ⟨⟨_,rfl⟩,bE ++ [xs],(s1.trans Wn).put nD,nD,by rw [List.length_append,hl];rfl,fun ys hy=>(List.mem_append.mp hy).elim (hp ys) fun y=>by rw [List.mem_singleton.mp y];exact PZ,fun y=>if y=bE.length then p else df y,?_,fun y ys hy=>?_⟩⟩
   ·rw [aB,dF,List.length_append];rfl
   ·show (upd H3 D _) (if y=bE.length then p else df y)=_∧(if y=bE.length then p else df y)≠D
    by_cases z:y < bE.length
    ·rw [List.getElem?_append_left z] at hy
     obtain ⟨k1,k2⟩:=g2 y ys hy
     rw [if_neg (by omega),aE k2]
     exact ⟨Wn _ _ k1,k2⟩
    ·have et:=(List.getElem?_eq_some_iff.mp hy).1
     rw [List.length_append] at et
     have ey:y=bE.length:=by simp at et;omega
     rw [ey,List.getElem?_append_right (Nat.le_refl _),Nat.sub_self] at hy
     cases hy
     rw [if_pos ey,aE Yn]
     exact ⟨e3,Yn⟩
  ·rintro σ H' ⟨⟨v,rfl⟩,bE,s1,nD,hl,hp,df,g1,g2⟩
   exact q D H' bE s1 nD ⟨df,g1,fun y xs hy=>(g2 y xs hy).1⟩ hl hp
end
end K37
namespace K37
open PySem L2 PyProof.Rows
section
variable {P:Program} {w:World} {K:PySem.W.Frag} {mg:Str→Option Value} {base:Heap} {t:Ad}
theorem Wo (x:V) (l:List V):tu (x :: l) 0=some x:=by
 have h:(x :: l)[0]?=some x:=rfl
 exact k9 h
theorem TU (x y:V) (l:List V):tu (x :: y :: l) 1=some y:=by
 have h:(x :: y :: l)[1]?=some y:=rfl
 exact k9 h
theorem Jw {B H:Hp} {l a:Addr} {ps:List (List Int)} {xs:List Int} (h:eH B H l ps) (ha:B a=some (.lst (xs.map V.int))):∃ df:Nat→Addr,H l=some (.lst (bW ps.length df))∧∀ H':Hp,H' l=some (.lst (bW ps.length df ++ [.ref a]))→eH B H' l (ps ++ [xs]):=by
 obtain ⟨df,g1,g2⟩:=h
 refine ⟨df,g1,fun H' e=>⟨fun i=>if i=ps.length then a else df i,?_,fun y ys hy=>?_⟩⟩
 ·rw [e,dF,List.length_append];rfl
 ·show B (if y=ps.length then a else df y)=_
  by_cases z:y < ps.length
  ·rw [if_neg (by omega)];rw [List.getElem?_append_left z] at hy;exact g2 y ys hy
  ·have et:=(List.getElem?_eq_some_iff.mp hy).1
   rw [List.length_append] at et
   have e:y=ps.length:=by simp at et;omega
   rw [e,List.getElem?_append_right (Nat.le_refl _),Nat.sub_self] at hy
   cases hy
   rw [if_pos e];exact ha
theorem Sx.N4 {Bv:zq} {C:Addr} {B H E:Hp} {n:Nat} {x tA pA d:Nat→Addr} {sl:Nat→Nat→Addr} {L:Nat→Lk} {rows:Nat→Nat→List Rw} {ρ:Addr→Nat} {p:Addr} {o:HO} (mb:dj Bv) (h:Sx Bv C B H E n x tA pA d sl L rows ρ) (hp:H p=some o) (hb:B p=none) (n1:∀ s,s < 2→p≠x s∧p≠tA s∧p≠pA s) (n2:∀ s,s < 2→∀ j,j < n→p≠sl s j) (n3:E p=none) :
  Sx Bv C (upd B p o) H E n x tA pA d sl L rows ρ∧aI B (upd B p o):=by
 have sB:aI B (upd B p o):=(aI.refl _).new hb
 have Fe:aI (upd B p o) H:=fun b u e=>by
  by_cases z:b=p
  ·rw [z] at e ⊢;rw [aB] at e;rw [hp];exact e
  ·rw [aE z] at e;exact h.sb _ _ e
 refine ⟨⟨Fe,fun i hi=>?_,fun i hi=>?_,h.rx,h.rt,h.rp,h.rs,h.ee,fun a ha=>by rw [aE (fun z=>ha (by rw [z];exact n3))];exact h.eb a ha,h.er,h.en⟩,sB⟩
 ·have l:=h.lk i hi
  obtain ⟨m1,m2,m3⟩:=n1 i hi
  obtain ⟨dx,pv,g,gp⟩:=l.at_
  obtain ⟨jK,g2,xP⟩:=l.told
  obtain ⟨df,g3,rX⟩:=l.bE
  exact ⟨Fe,by rw [aE (Ne.symm m1)];exact l.bx,by rw [aE (Ne.symm m2)];exact l.bt,by rw [aE (Ne.symm m3)];exact l.bp,⟨dx,pv,g,gp.mono sB⟩,⟨jK,g2,fun y e he=>(xP y e he).mono sB⟩,⟨df,g3,fun y xs hy=>sB _ _ (rX y xs hy)⟩,l.ne⟩
 ·have c:=h.cg i hi
  exact ⟨sB _ _ c.dl,c.inj,fun j hj=>(c.at_ j hj).keep mb sB (by rw [aE (Ne.symm (n2 i hi j hj))];exact (c.at_ j hj).no) rfl⟩
theorem Sx.Yo {C:Addr} {B H H' E:Hp} {n:Nat} {x tA pA d:Nat→Addr} {sl:Nat→Nat→Addr} {L:Nat→Lk} {rows:Nat→Nat→List Rw} {ρ:Addr→Nat} {sd:Nat} {tB:Addr} (st:Sx Fh C B H E n x tA pA d sl L rows ρ) (gm:sd < 2) (mv:iQ B H B H' (x sd) (tA sd) (pA sd) tB (pA sd)) (TV:tB≠tA sd) (lk:bP C B H' (x sd) tB (pA sd) { L sd with ev:=[] }) (ev:FP B H' (tA sd) (L sd).ev) :
  ∃ B' ρ',aI B B'∧Sx Fh C B' H' E n x (at2 tA sd tB) pA d sl (at2 L sd { L sd with ev:=[] }) rows ρ'∧FP B' B' (tA sd) (L sd).ev:=by
 obtain ⟨ρ1,P8,_⟩:=st.Uu ij gm mv lk
 have eP:at2 pA sd (pA sd)=pA:=funext fun i=>by
  by_cases z:i=sd
  ·rw [z,aJ]
  ·rw [aT z]
 rw [eP] at P8
 obtain ⟨jK,TX,P9⟩:=ev
 have r0:=st.rt sd gm
 obtain ⟨mZ,sB⟩:=P8.N4 ij TX (st.lk sd gm).bt (fun s hs=>⟨dM r0 (st.rx s hs) (by omega),fun z=>by
   by_cases y:s=sd
   ·rw [y,aJ] at z;exact TV z.symm
   ·rw [aT y] at z;exact dM r0 (st.rt s hs) (by omega) z,dM r0 (st.rp s hs) (by omega)⟩) (fun s hs j hj=>dM r0 (st.rs s hs j hj) (by omega)) (Classical.byContradiction fun z=>by have:=st.er _ z;omega)
 exact ⟨_,ρ1,sB,mZ,jK,aB,fun y e he=>(P9 y e he).mono sB⟩
def rO (C:Addr):Sp:=fun vs H Q _=>∃ (B E:Hp) (n:Nat) (x tA pA d:Nat→Addr) (sl:Nat→Nat→Addr) (L:Nat→Lk) (rows:Nat→Nat→List Rw) (ρ:Addr→Nat) (sd:Nat) (Fk DT:Addr) (W:List (List Int)) (k:Nat),
 vs=[.ref (x sd),.ref Fk,.ref DT]∧sd < 2∧Sx Fh C B H E n x tA pA d sl L rows ρ∧eH B E Fk (W.take k)∧eH B B DT W∧W.length < 900000∧k≤W.length∧(∀ i e,(L sd).ev[i]?=some e→∃ xs,e=.took xs∧W[k+i]?=some xs) ∧
 ∀ (B' H' E':Hp) (Fl:Nat→Addr) (ρ':Addr→Nat),aI B B'→Sx Fh C B' H' E' n x Fl pA d sl (at2 L sd { L sd with ev:=[] }) rows ρ'→eH B' E' Fk (W.take (k+(L sd).ev.length))→(∀ a o,a≠Fk→E a=some o→E' a=some o)→Q (.bl true) H'
theorem rP:aS ["end","took","due","event"] ["end","took","due"] (aG ja):=⟨rfl,rfl,rfl,by decide +kernel,rfl,by decide +kernel,by decide +kernel⟩
set_option maxHeartbeats 1000000 in
theorem zz {TY:FuncData} (F:aR K mg "_law_went" ja) (T:Txt K mg t) (kf:bV P w K mg base (iL P w) 1 t.kR TY ["self"] (sX t.LinkEnd)) (kg:Binds K TY ["self"] []):Def P w K mg base 10 "_law_went" ["end","took","due"] (rO t.LinkEnd):=by
 refine F.def rP (fun _ _ _ _ _ _ us hl=>match us,hl with | [_,_,_],_=>rfl) (fun vs H Q E h=>?_) (fun f be A outer s H vs Q E hr h=>?_)
 ·obtain ⟨B,E,n,x,tA,pA,d,sl,L,rows,ρ,sd,Fk,DT,W,k,rfl,_⟩:=h
  rfl
 ·obtain ⟨B,E,n,x,tA,pA,d,sl,L,rows,ρ,sd,Fk,DT,W,k,rfl,gm,st,hT,hDu,hWl,hkW,HZ,q⟩:=h
  refine ⟨_,aD (PS.uX (cq PassesOwn.never rfl (cC K (dB (pv 0) T.aK T.yf (kf.mono (by decide)) hr kg .nil av)) (az (i:=3) rP.nd rfl (Or.inl rfl))
    (aD (bu (PW.pt (Ab (aj yF (af (gZ K) (pv 3) aF (fun _ _=>rfl)) cT (au _)) (Ab (aj IB (bR (bY K) (by rfl) T.iZ boot_len (aA (pv 1) aC)) (bR (bY K) (by rfl) T.iZ boot_len (aA (pv 2) aC)) (au _)) (yv (aj (LJ K (GC hr)) (af (gZ K) (pv 3) aF (fun _ _=>rfl)) (af (aQ K) (pv 2) (bR (bY K) (by rfl) T.iZ boot_len (aA (pv 1) aC)) (fun _ _=>rfl)) (au _))))))
     (aH (ar Aa))
     (bD))
    (aH (ay (jj K PySem.F.plainAttrs_list PySem.F.slot_list_append PySem.F.type_list_append cV (pv 1) (aA (af (gZ K) (pv 3) aF (fun _ _=>rfl)) aC)))))))
   (aH (ar Aa)),?_⟩
  have ox:(1000001:Nat)≤sizeLine:=by decide
  have z4:=st.lk sd gm
  obtain ⟨dx,_,hx,_⟩:=z4.at_
  refine ⟨_,rfl,x sd,dx,_,rfl,hx,rfl,B,x sd,tA sd,pA sd,L sd,rfl,z4,fun H1 tB mv TV Fm TX=>?_⟩
  obtain ⟨B1,ρ1,DP,P8,jK,P9,Uw⟩:=st.Yo gm mv TV Fm TX
  obtain ⟨QA,d1,d2⟩:=hDu
  refine ⟨tA sd,rfl,⟨_,aY.of (P8.sb _ _ P9)⟩,iT (K:=K) (a:=tA sd) (xs:=bW (L sd).ev.length jK) (fun i σ H'=>∃ (v3:Option V) (E':Hp) (ρ':Addr→Nat),σ=[some (.ref (x sd)),some (.ref Fk),some (.ref DT),v3]∧Sx Fh t.LinkEnd B1 H' E' n x (at2 tA sd tB) pA d sl (at2 L sd { L sd with ev:=[] }) rows ρ'∧eH B1 E' Fk (W.take (k+i))∧∀ a o,a≠Fk→E a=some o→E' a=some o)
   ⟨none,E,ρ1,rfl,P8,by obtain ⟨p1,p2,p3⟩:=hT;exact ⟨p1,p2,fun y xs hy=>DP _ _ (p3 y xs hy)⟩,fun _ _ _ e=>e⟩ (fun i σ H' _ ⟨_,_,_,_,s',_⟩=>aY.of (s'.sb _ _ P9)) ?_ ?_⟩
  ·rintro i v σ H2 hi ⟨v3,E2,ρ2,rfl,mZ,Ux,f2⟩
   obtain ⟨MO,rfl⟩:=tab_of hi
   obtain ⟨e,he⟩:∃ e,(L sd).ev[i]?=some e:=⟨_,List.getElem?_eq_getElem MO⟩
   obtain ⟨xs,rfl,hW⟩:=HZ i e he
   obtain ⟨Wp,k1,k2⟩:=Uw i _ he
   have et:k+i < W.length:=(List.getElem?_eq_some_iff.mp hW).1
   obtain ⟨df,g1,g2⟩:=Jw Ux k2
   have Wq:(W.take (k+i)).length=k+i:=by rw [List.length_take];omega
   have Uy:=mZ.ee _ _ g1
   have Qu:tu (bW W.length QA) (((bW (W.take (k+i)).length df).length:Nat):Int)=some (.ref (QA (k+i))):=by rw [aL,Wq];exact k9 (ba et)
   refine ⟨_,rfl,jK i,_,_,_,rfl,rfl,cP.of (mZ.sb _ _ k1),Wo _ _,rfl,_,rfl,?_⟩
   refine vG rfl ?_
   refine ⟨_,rfl,Fk,_,rfl,.inl (aY.of Uy),_,rfl,DT,_,rfl,.inl (aY.of (mZ.sb _ _ (DP _ _ d1))),_,_,rfl,rfl,_,rfl,fj (by rw [aL,aL,Wq];omega) ?_⟩
   refine ⟨_,rfl,jK i,_,_,_,rfl,rfl,cP.of (mZ.sb _ _ k1),TU _ _ _,_,rfl,_,rfl,Fk,_,rfl,.inl (aY.of Uy),DT,_,_,_,rfl,rfl,aY.of (mZ.sb _ _ (DP _ _ d1)),Qu,?_⟩
   refine ⟨Wp,QA (k+i),_,_,rfl,rfl,aY.of (mZ.sb _ _ k2),aY.of (mZ.sb _ _ (DP _ _ (d2 _ _ hW))),.inl ⟨rfl,Cd (ns:=xs),_,rfl,gu ?_⟩⟩
   refine ⟨_,rfl,.inl ⟨rfl,_,aY.of Uy⟩,_,rfl,jK i,_,_,_,rfl,rfl,cP.of (mZ.sb _ _ k1),TU _ _ _,Fk,_,_,rfl,rfl,Uy,by rw [aL,Wq];omega,?_⟩
   obtain ⟨ρ3,Hz⟩:=mZ.put ij (a:=Fk) (o:=.lst (bW (W.take (k+i)).length df ++ [.ref Wp])) (by rw [g1];exact fun z=>by cases z) (dU _)
   refine ⟨_,_,ρ3,rfl,Hz,?_,fun a o h1 e=>by rw [aE h1];exact f2 a o h1 e⟩
   have:=g2 (upd E2 Fk (.lst (bW (W.take (k+i)).length df ++ [.ref Wp]))) aB
   rw [yn hW] at this
   exact this
  ·rintro σ H2 ⟨v3,E2,ρ2,rfl,mZ,Ux,f2⟩
   rw [aL] at Ux
   exact q B1 H2 E2 _ ρ2 DP mZ Ux f2
end
end K37
namespace K37
open PySem L2 PyProof.Rows
section
variable {P:Program} {w:World} {K:PySem.W.Frag} {mg:Str→Option Value} {base:Heap} {t:Ad}
structure Sq (T:Int) (L:Lk):Prop where
 d:L.d=T
 ev:L.ev=[]
 ok:rY L
 b0:0≤L.b
 b1:L.b≤T+1
theorem Jx (L:Lk):(a9 L).ev.length≤L.ev.length+1:=by
 unfold a9
 split
 ·unfold eI
  cases L.p with
  | none=>exact Nat.le_succ _
  | some p=>show (L.ev ++ [_]).length≤_;rw [List.length_append];exact Nat.le_refl _
 ·exact Nat.le_succ _
theorem Sq.tick {T:Int} {L:Lk} {bs:List Cl} (h:Sq T L) (hb:∀ a ∈ bs,AU a.b):Sq (T+1) (ao L bs)∧(bL L bs).ev.length≤3 * bs.length+1:=by
 have h1:=rB bs L h.ok hb
 have h2:rY (eJ (aO L bs) bs):=⟨h1.k,h1.o,h1.t,h1.p⟩
 have h3:=Bk h2
 obtain ⟨b1,b2⟩:=zo L bs
 have b0':=h.b0
 have b1':=h.b1
 have eb:(eJ (aO L bs) bs).b=L.b:=b1
 have q:=Bq (eJ (aO L bs) bs)
 have bb:(ao L bs).b=(a9 (eJ (aO L bs) bs)).b:=rfl
 refine ⟨⟨?_,rfl,⟨h3.k,h3.o,h3.t,h3.p⟩,?_,?_⟩,?_⟩
 ·show (bL L bs).d=_
  rw [(DQ L bs).1,h.d]
 ·rw [bb];omega
 ·rw [bb];omega
 ·have:=Jx (eJ (aO L bs) bs)
  have e:(eJ (aO L bs) bs).ev=(aO L bs).ev:=rfl
  rw [e] at this
  rw [h.ev] at b2
  have e2:(bL L bs).ev=(a9 (eJ (aO L bs) bs)).ev:=rfl
  rw [e2]
  have:([]:List Ev).length=0:=rfl
  omega
theorem Sq.put {T:Int} {L:Lk} {Kk:List (List Int)} (h:Sq T L) (hx:∀ xs ∈ Kk,xX xs):Sq T { L with bE:=L.bE ++ Kk } :=
 ⟨h.d,h.ev,⟨h.ok.k,h.ok.o,h.ok.t,fun xs N5=>(List.mem_append.mp N5).elim (h.ok.p xs) fun y=>⟨(hx xs y).1.2,(hx xs y).2⟩⟩,h.b0,h.b1⟩
theorem yp {B:Int}:∀ (bs:List Cl) (L:Lk),(∀ a ∈ bs,a.b=B∧a.xs=[])→L.k≤B→(L.p≠none→L.k=B) →
  ((aO L bs).p≠none→(aO L bs).k=B)∧(((aO L bs).p=L.p∧(aO L bs).ev=L.ev)∨(L.p=none∧∃ x,(aO L bs).p=some x∧(aO L bs).ev=L.ev ++ [.mk "up" x []]))
 | [],L,_,_,h=>⟨h,.inl ⟨rfl,rfl⟩⟩
 | a :: r,L,h,hk,hp=>by
  obtain ⟨ab,ax⟩:=h a List.mem_cons_self
  have hr:∀ x ∈ r,x.b=B∧x.xs=[]:=fun x hx=>h x (List.mem_cons_of_mem _ hx)
  have Yp:∀ (L:Lk) (n:Int),bO L n a.xs=L:=fun L n=>by
   unfold bO
   exact if_neg fun z=>z.1 ax
  show ((aO (aW L a) r).p≠none→(aO (aW L a) r).k=B)∧_
  obtain ⟨r1,r2,_,_⟩:=DR L a
  have k1:(aW L a).k=B:=by rw [r2,ab];split <;> omega
  have one:((aW L a).p=L.p∧(aW L a).ev=L.ev)∨(L.p=none∧∃ x,(aW L a).p=some x∧(aW L a).ev=L.ev ++ [.mk "up" x []]):=by
   by_cases z:L.p=none
   ·have em:aw L a.b={ L with k:=a.b }:=by unfold aw;rw [z]
    unfold aW
    rw [if_neg (by omega),em]
    by_cases y:a.k=L.b
    ·right
     refine ⟨z,?_⟩
     have ec:bA { L with k:=a.b }={ L with k:=a.b,p:=some (if L.s=0 then (L.b,a.b) else (a.b,L.b)),ev:=L.ev ++ [.mk "up" (if L.s=0 then (L.b,a.b) else (a.b,L.b)) []] }:=by
      unfold bA
      simp only
      rw [z]
     rw [if_pos y,ec,Yp]
     obtain ⟨h1,_,h3⟩:=cW { L with k:=a.b,p:=some (if L.s=0 then (L.b,a.b) else (a.b,L.b)),ev:=L.ev ++ [.mk "up" (if L.s=0 then (L.b,a.b) else (a.b,L.b)) []] } a.c
     exact ⟨_,h1.p,h3⟩
    ·left
     rw [if_neg y];exact ⟨rfl,rfl⟩
   ·left
    rcases uj z (show a.b≤L.k by rw [hp z,ab];exact Int.le_refl _) with y | ⟨y,_⟩
    ·rw [y];exact ⟨rfl,rfl⟩
    ·rw [y,Yp];exact ⟨(cW L a.c).1.p,(cW L a.c).2.2⟩
  obtain ⟨i1,i2⟩:=yp r (aW L a) hr (by omega) (fun _=>k1)
  refine ⟨i1,?_⟩
  rcases one with ⟨o1,o2⟩ | ⟨o1,x,o2,o3⟩
  ·rcases i2 with ⟨j1,j2⟩ | ⟨j1,x,j2,j3⟩
   ·exact .inl ⟨j1.trans o1,j2.trans o2⟩
   ·exact .inr ⟨o1.symm.trans j1,x,j2,j3.trans (by rw [o2])⟩
  ·rcases i2 with ⟨j1,j2⟩ | ⟨j1,_⟩
   ·exact .inr ⟨o1,x,j1.trans o2,j2.trans o3⟩
   ·rw [o2] at j1;cases j1
def eE (L:Nat→Lk):Nat→Lk:=fun s=>{ L s with ev:=[] }
theorem Mc (L:Nat→Lk) (s:Nat):pre (L s).ev (eE L s)=L s:=by
 unfold pre eE
 simp
theorem Jy (L:Nat→Lk) (x:Nat) (bs:List Cl):(bL (L x) bs).ev=(L x).ev ++ (bL (eE L x) bs).ev∧({ bL (L x) bs with ev:=[] }:Lk)=ao (eE L x) bs∧eE (at2 L x (bL (L x) bs))=at2 (eE L) x (ao (eE L x) bs):=by
 have e:bL (L x) bs=pre (L x).ev (bL (eE L x) bs):=by
  have:=Ju (L x).ev (eE L x) bs
  rw [Mc] at this;exact this
 have e2:({ bL (L x) bs with ev:=[] }:Lk)=ao (eE L x) bs:=by rw [e];rfl
 refine ⟨by rw [e];rfl,e2,funext fun i=>?_⟩
 by_cases z:i=x
 ·rw [z];unfold eE;rw [aJ,aJ];exact e2
 ·unfold eE;rw [aT z,aT z]
def b1:Nat→Int:=fun _=>1
theorem Md:∀ r,r < 2→pr r (b1 r) (b1 (1 - r))=((1,1):Pr):=bK rfl rfl
structure wH (q late lost:Nat) (pL:Nat→List (List Int)) (L:Nat→Lk) (rows:Nat→Nat→List Rw) (run D:Nat→Nat) (G:Gh) (ko:Nat→Nat) (ph:Bool):Prop where
 pc:xD (late:Int) G (eE L) rows
 wx:Wx q late lost (eE L) rows run D
 hr:Hr q 0 (eE L) rows run D
 bc:Bc q 0 b1 (eE L) rows run D
 sq:∀ s,s < 2→Sq (D s:Int) (eE L s)
 rb:∀ s,s < 2→∀ j row,row ∈ rows s j→row.b.b=1
 p1:ph=false→(∀ s,s < 2→∀ P,G.W s P=[])∧∀ s,s < 2→((L s).p≠none→(L s).k=1)∧(((L s).p=none∧(L s).ev=[])∨∃ x,(L s).p=some x∧(L s).ev=[.mk "up" x []])
 p2:ph=true→N0 b1 (eE L)∧(∀ s,s < 2→G.W s (1,1)=pL s)∧∀ s,s < 2→(∃ τ,Ph q rows run D b1 G (1,1) s τ∧τ≤3 * q+1+q * (G.O s (1,1)+G.K (1 - s) (1,1)))∧G.K s (1,1)=ko s+(L s).ev.length∧∀ i e,(L s).ev[i]?=some e→∃ xs,e=.took xs∧(pL (1 - s))[ko s+i]?=some xs
theorem wH.step {q late lost:Nat} {pL:Nat→List (List Int)} {L:Nat→Lk} {rows:Nat→Nat→List Rw} {run D:Nat→Nat} {G:Gh} {ko:Nat→Nat} {ph:Bool} {x r':Nat} {fs:Ft} (h:wH q late lost pL L rows run D G ko ph) (hx:x < 2) (hd:D x≤D (1 - x)) (hl6:(late:Int)≤6) (MP:∀ a ∈ aN (rows x (D x)),AU a.b) (gf:rD (late:Int) fs) (hf:Jm fs∨r'=run x+1) (oo:r'≤lost) (AS:∀ s,s < 2→∀ xs ∈ pL s,xs≠[]) :
  ∃ G',wH q late lost pL (at2 L x (bL (L x) (aN (rows x (D x))))) (at2 rows (1 - x) (fE (rows (1 - x)) (D x) (bz (bL (L x) (aN (rows x (D x))))) fs)) (at2 run x r') (at2 D x (D x+1)) G' ko ph:=by
 have ne:1 - x≠x:=by omega
 have Fj:1 - x < 2:=by omega
 have e1:1 - (1 - x)=x:=by omega
 obtain ⟨Yq,Wr,Qv⟩:=Jy L x (aN (rows x (D x)))
 have hdx:=h.wx.d x hx
 have hd1:=h.wx.d (1 - x) Fj
 have dd1:=h.wx.dd (1 - x) Fj
 rw [e1] at dd1
 have Uz:=h.sq x hx
 obtain ⟨G',Wu,gr,tr⟩:=h.pc.step (fs:=fs) hx hdx (by rw [hd1];omega) hl6 Uz.ok MP Uz.ev gf
 have eg:bz (bL (L x) (aN (rows x (D x))))=bz (ao (eE L x) (aN (rows x (D x)))):=by rw [← Wr];rfl
 obtain ⟨Yr,_⟩:=Uz.tick MP
 have ws:=h.wx.step (LA:=ao (eE L x) (aN (rows x (D x)))) (fs:=fs) (r':=r') hx hd Yr.d gf hf oo
 obtain ⟨HY,wI⟩:=h.hr.step hx h.wx ws aJ (aT ne) (Nat.zero_le _)
 have wI:Still (eE L x) (aN (rows x (D x))):=wI.resolve_right fun z=>z.1 rfl
 have kb:=h.pc.kb x hx
 have P0:∀ a ∈ aN (rows x (D x)),a.b≤(eE L (1 - x)).b:=fun a ha=>by
  obtain ⟨row,q1,_,rfl⟩:=ik ha
  have:=h.pc.bi (1 - x) Fj (D x) row
  rw [e1] at this
  exact (this q1).1
 have Ys:=h.bc.step hx ws wI kb.2.1 P0
 have ab:(ao (eE L x) (aN (rows x (D x)))).b=1:=by
  have:=Ys.b x hx
  rw [aJ] at this;exact this
 rw [eg]
 obtain ⟨eA,eV⟩:=gs wI
 have eP:(bL (L x) (aN (rows x (D x)))).p=(aO (eE L x) (aN (rows x (D x)))).p:=by
  have:(bL (L x) (aN (rows x (D x)))).p=(ao (eE L x) (aN (rows x (D x)))).p:=by rw [← Wr]
  rw [this,eA]
 have eK:(bL (L x) (aN (rows x (D x)))).k=(aO (eE L x) (aN (rows x (D x)))).k:=by
  have:(bL (L x) (aN (rows x (D x)))).k=(ao (eE L x) (aN (rows x (D x)))).k:=by rw [← Wr]
  rw [this,eA]
 refine ⟨G',by rw [Qv];exact Wu,by rw [Qv];exact ws.w,by rw [Qv];exact HY,by rw [Qv];exact Ys,fun s hs=>?_,fun s hs j row dD=>?_,fun hp=>?_,fun hp=>?_⟩
 ·rw [Qv]
  by_cases z:s=x
  ·rw [z,aJ,aJ];exact Yr
  ·rw [aT z,aT z];exact h.sq s hs
 ·by_cases z:s=1 - x
  ·rw [z,aJ] at dD
   rcases nR fs j row dD with y | ⟨d,yt,rfl,rfl⟩
   ·exact h.rb (1 - x) Fj j row y
   ·exact ab
  ·rw [aT z] at dD;exact h.rb s hs j row dD
 ·obtain ⟨w0,e0⟩:=h.p1 hp
  have w1:∀ s,s < 2→∀ P,G'.W s P=[]:=fun s hs P=>by rw [gr.w];exact w0 s hs P
  refine ⟨w1,fun s hs=>?_⟩
  by_cases z:s=x
  ·rw [z,aJ]
   obtain ⟨f1,f2⟩:=e0 x hx
   have cl1:∀ a ∈ aN (rows x (D x)),a.b=1∧a.xs=[]:=fun a ha=>by
    obtain ⟨row,q1,_,rfl⟩:=ik ha
    refine ⟨h.rb x hx _ row q1,?_⟩
    have:=h.pc.ag (1 - x) Fj (D x) row
    rw [e1] at this
    obtain ⟨ym,c1,_⟩:=this q1
    obtain ⟨nc,cc,_,_,_,_,_,_,k7⟩:=c1.ex
    rcases k7 with y | y
    ·exact y
    ·rw [w0 (1 - x) Fj] at y;cases y
   have kl:(eE L x).k≤1:=by
    have:=kb.2.1
    have b2:=h.bc.b (1 - x) Fj
    rw [b2] at this;exact this
   obtain ⟨g1,g2⟩:=yp (B:=1) (aN (rows x (D x))) (eE L x) cl1 kl f1
   refine ⟨by rw [eP,eK];exact g1,?_⟩
   rw [eP,Yq,eV]
   rcases g2 with ⟨y1,y2⟩ | ⟨y1,y,y2,y3⟩
   ·rw [y1,y2]
    show ((L x).p=none∧(L x).ev ++ []=[])∨∃ x_1,(L x).p=some x_1∧(L x).ev ++ []=[_]
    rw [List.append_nil];exact f2
   ·right
    refine ⟨y,y2,?_⟩
    rcases f2 with ⟨_,v⟩ | ⟨v,v1,_⟩
    ·rw [y3,v];rfl
    ·have y1:(L x).p=none:=y1
     rw [y1] at v1;cases v1
  ·rw [aT z];exact e0 s hs
 ·obtain ⟨up,hw,TZ⟩:=h.p2 hp
  obtain ⟨sy,a1,a2,a3⟩:=wD up hx wI P0
  have Wv:=up.step hx wI P0
  have gW:∀ s,s < 2→G'.W s (1,1)=pL s:=fun s hs=>by rw [gr.w];exact hw s hs
  have Yt:=h.pc.en x hx
  have Ji:=Wu.en x hx
  rw [aJ] at Ji
  obtain ⟨u1,u2,u3⟩:=up x hx
  obtain ⟨xp,P4⟩:∃ xp,(eE L x).p=some xp:=by
   cases e:(eE L x).p with
   | none=>exact absurd e u1
   | some y=>exact ⟨y,rfl⟩
  have Pq:xp=(1,1):=by
   have:=(Yt.up xp P4).1
   rw [u2,u3] at this;exact this.trans (Md x hx)
  obtain ⟨es,GN,TN⟩:=sy.ev
  have GN:(bL (eE L x) (aN (rows x (D x)))).ev=es:=by rw [eV,GN];rfl
  obtain ⟨Yu,Yv⟩:=tr.ok
  rw [GN] at Yu Yv
  have kx:G'.K x (1,1)=G.K x (1,1)+es.length:=by
   have:=rN es (wt G x (eE L x)) (1,1) (by rw [← Pq];exact P4) TN
   rw [Yv] at this;exact this
  refine ⟨by rw [Qv];exact Wv,gW,fun s hs=>?_⟩
  obtain ⟨⟨τ,f1,f2⟩,f3,f4⟩:=TZ s hs
  obtain ⟨τ',g1,g2⟩:=f1.step hx hs ws up wI P0 Yt Ji h.pc.rel Wu.rel gr tr Uz.ev Md (fun xs N5=>by rw [hw s hs] at N5;exact AS s hs xs N5)
  refine ⟨⟨τ',g1,?_⟩,?_⟩
  ·rcases g2 with ⟨k1,k2,k3⟩ | ⟨k1,k2,k3⟩
   ·rw [k1,k2,k3];exact f2
   ·rw [k1,k2]
    have:q * (G.O s (1,1)+G.K (1 - s) (1,1)+1)=q * (G.O s (1,1)+G.K (1 - s) (1,1))+q:=by rw [Nat.mul_add,Nat.mul_one]
    omega
  ·by_cases z:s=x
   ·rw [z] at f3 f4 ⊢
    rw [aJ,Yq,GN,List.length_append,kx,f3]
    refine ⟨by omega,fun i e he=>?_⟩
    by_cases y:i < (L x).ev.length
    ·rw [List.getElem?_append_left y] at he;exact f4 i e he
    ·rw [List.getElem?_append_right (by omega)] at he
     have hi:i - (L x).ev.length < es.length:=(List.getElem?_eq_some_iff.mp he).1
     have ok:=Yu _ e he
     obtain ⟨xs,rfl⟩:=TN e (List.mem_of_getElem? he)
     obtain ⟨y0,o1,o2⟩:=ok
     have hm:∀ e ∈ es.take (i - (L x).ev.length),∃ xs,e=.took xs:=fun e h=>TN e (List.mem_of_mem_take h)
     have t1:=rN (es.take (i - (L x).ev.length)) (wt G x (eE L x)) (1,1) (by rw [← Pq];exact P4) hm
     have pp:∀ (es:List Ev) (A:Wt),(∀ e ∈ es,∃ xs,e=.took xs)→(Kl A es).p=A.p:=by
      intro es
      induction es with
      | nil=>intro A _;rfl
      | cons e r ih =>
       intro A h
       obtain ⟨xs,rfl⟩:=h e List.mem_cons_self
       show (Kl (mX A (.took xs)) r).p=A.p
       rw [ih _ fun e he=>h e (List.mem_cons_of_mem _ he)]
       unfold mX;simp only
       cases e:A.p with
       | none=>exact e
       | some y=>rfl
     have p1:=pp (es.take (i - (L x).ev.length)) (wt G x (eE L x)) hm
     rw [p1] at o1
     have ey:y0=(1,1):=by
      have o1:(eE L x).p=some y0:=o1
      rw [P4] at o1;cases o1;exact Pq
     rw [ey,t1,hw (1 - x) Fj] at o2
     refine ⟨xs,rfl,?_⟩
     have hk:(wt G x (eE L x)).k (1,1)=G.K x (1,1):=rfl
     rw [hk,f3,List.length_take] at o2
     have:ko x+(L x).ev.length+min (i - (L x).ev.length) es.length=ko x+i:=by omega
     rw [this] at o2;exact o2
   ·rw [aT z]
    have:G'.K s=G.K s:=gr.k s z
    rw [this];exact ⟨f3,f4⟩
end
end K37
namespace K37
open PySem L2 PyProof.Rows
section
variable {P:Program} {w:World} {K:PySem.W.Frag} {mg:Str→Option Value} {base:Heap} {t:Ad}
theorem Hr.congr {q T0:Nat} {L L':Nat→Lk} {rows:Nat→Nat→List Rw} {run D:Nat→Nat} (h:Hr q T0 L rows run D) (e:∀ r,r < 2→(L' r).q=(L r).q∧(L' r).u=(L r).u∧(L' r).k=(L r).k):Hr q T0 L' rows run D :=
 ⟨fun r hr=>by rw [(e r hr).1];exact h.Q r hr,fun r hr=>by rw [(e r hr).2.1];exact h.u0 r hr,fun r hr=>by rw [(e r hr).2.1,(e r hr).2.2];exact h.a r hr⟩
theorem Bc.congr {q T1:Nat} {β:Nat→Int} {L L':Nat→Lk} {rows:Nat→Nat→List Rw} {run D:Nat→Nat} (h:Bc q T1 β L rows run D) (e:∀ r,r < 2→(L' r).p=(L r).p∧(L' r).k=(L r).k∧(L' r).b=(L r).b):Bc q T1 β L' rows run D :=
 ⟨fun r hr=>by rw [(e r hr).2.2];exact h.b r hr,fun r hr=>by rw [(e r hr).2.1];exact h.c r hr,fun r hr=>by rw [(e r hr).1,(e r hr).2.1,(e (1 - r) (by omega)).2.1];exact h.u r hr⟩
theorem Wx.congr {q late lost:Nat} {L L':Nat→Lk} {rows:Nat→Nat→List Rw} {run D:Nat→Nat} (h:Wx q late lost L rows run D) (e:∀ r,r < 2→(L' r).d=(L r).d) (hD:∀ r,r < 2→D (1 - r)≤D r):Wx q late lost L' rows run D :=
 ⟨h.hq,h.h1,fun r hr=>by rw [e r hr];exact h.d r hr,h.dd,h.rn,fun r hr φ _=>.inr (by have:=hD r hr;omega)⟩
theorem wH.start {q late lost:Nat} {pL:Nat→List (List Int)} (hq:late+lost=q) (h1:1≤late):wH q late lost pL (aU (ot (q:Int) 0) (ot (q:Int) 1)) (fun _ _=>[]) (fun _=>0) (fun _=>0) ⟨fun _ _=>[],fun _ _=>0,fun _ _=>0,fun _ _=>False⟩ (fun _=>0) false:=by
 have ec:eE (aU (ot (q:Int) 0) (ot (q:Int) 1))=aU (ot (q:Int) 0) (ot (q:Int) 1):=funext fun s=>by
  unfold eE aU
  split <;> rfl
 have Yw:∀ q s:Int,Sq 0 (ot q s):=fun q s=>⟨rfl,rfl,⟨Pk,Gu,Gu,fun xs h=>(by cases h)⟩,(by show (0:Int)≤1;decide),(by show (1:Int)≤0+1;decide)⟩
 refine ⟨by rw [ec];exact xD.start,by rw [ec];exact ⟨hq,h1,bK rfl rfl,fun _ _=>Nat.le_succ _,fun _ _=>Nat.zero_le _,fun r hr φ _=>.inr (Nat.le_refl _)⟩,by rw [ec];exact ⟨bK rfl rfl,bK (Int.le_refl _) (Int.le_refl _),bK ⟨0,Nat.le_refl _,.inr (Nat.le_refl _),.inl ⟨rfl,fun _=>rfl⟩⟩ ⟨0,Nat.le_refl _,.inr (Nat.le_refl _),.inl ⟨rfl,fun _=>rfl⟩⟩⟩,by rw [ec];exact Bc.start (bK rfl rfl) (fun _ _=>rfl),by rw [ec];exact bK (Yw _ _) (Yw _ _),fun s hs j row dD=>(by cases dD),fun _=>⟨fun _ _ _=>rfl,bK ⟨fun h=>absurd rfl h,.inl ⟨rfl,rfl⟩⟩ ⟨fun h=>absurd rfl h,.inl ⟨rfl,rfl⟩⟩⟩,fun h=>(by cases h)⟩
section
variable {q late lost:Nat} {pL:Nat→List (List Int)} {L:Nat→Lk} {rows:Nat→Nat→List Rw} {run D:Nat→Nat} {G:Gh} {ko:Nat→Nat}
theorem wH.N6 (h:wH q late lost pL L rows run D G ko false) (hD:∀ s,s < 2→D s=3 * q+1):N0 b1 (eE L)∧∀ s,s < 2→(L s).p=some (1,1)∧(L s).ev=[.mk "up" (1,1) []]∧(L s).bE=[]:=by
 have up:=h.bc.up h.wx fun r hr=>by rw [hD r hr];omega
 refine ⟨up,fun s hs=>?_⟩
 obtain ⟨u1,u2,u3⟩:=up s hs
 obtain ⟨w0,e0⟩:=h.p1 rfl
 have en:=h.pc.en s hs
 have hp:(L s).p=some (1,1):=by
  cases e:(L s).p with
  | none=>exact absurd e u1
  | some y =>
   have:=(en.up y e).1
   rw [u2,u3] at this
   rw [this,Md s hs]
 refine ⟨hp,?_,?_⟩
 ·rcases (e0 s hs).2 with ⟨y,_⟩ | ⟨y,y1,y2⟩
  ·rw [hp] at y;cases y
  ·rw [hp] at y1;cases y1;exact y2
 ·have:=en.p
  rw [w0 s hs,List.drop_nil] at this
  exact this
def putL (L:Nat→Lk) (pL:Nat→List (List Int)):Nat→Lk:=at2 (at2 L 0 { L 0 with ev:=[],bE:=pL 0 }) 1 { L 1 with ev:=[],bE:=pL 1 }
theorem rQ (L:Nat→Lk) (pL:Nat→List (List Int)):∀ s,s < 2→putL L pL s={ L s with ev:=[],bE:=pL s }:=bK rfl rfl
theorem wH.put (h:wH q late lost pL L rows run D G ko false) (hD:∀ s,s < 2→D s=3 * q+1) (PZ:∀ s,s < 2→∀ xs ∈ pL s,xX xs):wH q late lost pL (putL L pL) rows run D (mf (mf G 0 (1,1) (pL 0)) 1 (1,1) (pL 1)) (fun _=>0) true:=by
 obtain ⟨up,all⟩:=h.N6 hD
 obtain ⟨w0,_⟩:=h.p1 rfl
 have pz:∀ s,s < 2→(eE L s).bE=[]:=fun s hs=>(all s hs).2.2
 have e0:pr 0 (eE L 0).b (eE L 0).k=(1,1):=by obtain ⟨_,a,b⟩:=up 0 (by decide);rw [a,b];rfl
 have e1:pr 1 (eE L 1).b (eE L 1).k=(1,1):=by obtain ⟨_,a,b⟩:=up 1 (by decide);rw [a,b];rfl
 have c1:=xD.P1 (by decide) (pL 0) G (eE L) h.pc (up 0 (by decide)).1
 rw [e0,pz 0 (by decide),List.nil_append] at c1
 have c2:=xD.P1 (s:=1) (by decide) (pL 1) _ _ c1 (by show (eE L 1).p≠none;exact (up 1 (by decide)).1)
 have q1:(at2 (eE L) 0 { eE L 0 with bE:=pL 0 } 1)=eE L 1:=rfl
 rw [q1,e1,pz 1 (by decide),List.nil_append] at c2
 have ec:eE (putL L pL)=at2 (at2 (eE L) 0 { eE L 0 with bE:=pL 0 }) 1 { eE L 1 with bE:=pL 1 }:=funext fun s=>by
  unfold eE putL at2
  by_cases z1:s=1
  ·subst z1;rfl
  ·by_cases z0:s=0
   ·subst z0;rfl
   ·simp only [z1,z0,if_false]
 have eL:∀ s,s < 2→eE (putL L pL) s={ eE L s with bE:=pL s }:=fun s hs=>by
  unfold eE
  rw [rQ L pL s hs]
 have kz:∀ s,s < 2→∀ P,G.K (1 - s) P=0∧G.O s P=0:=fun s hs P=>by
  obtain ⟨r1,r2,r3⟩:=h.pc.rel s hs P
  rw [w0 s hs P] at r3
  have:([]:List (List Int)).length=0:=rfl
  omega
 have gW:∀ s,s < 2→(mf (mf G 0 (1,1) (pL 0)) 1 (1,1) (pL 1)).W s (1,1)=pL s:=bK (by
   show cR (cR G.W 0 (1,1) (G.W 0 (1,1) ++ pL 0)) 1 (1,1) (cR G.W 0 (1,1) (G.W 0 (1,1) ++ pL 0) 1 (1,1) ++ pL 1) 0 (1,1)=pL 0
   rw [bj (by decide),bJ,w0 0 (by decide)];rfl) (by
   show cR (cR G.W 0 (1,1) (G.W 0 (1,1) ++ pL 0)) 1 (1,1) (cR G.W 0 (1,1) (G.W 0 (1,1) ++ pL 0) 1 (1,1) ++ pL 1) 1 (1,1)=pL 1
   rw [bJ,bj (by decide),w0 1 (by decide)];rfl)
 have Wv:N0 b1 (eE (putL L pL)):=fun r hr=>by rw [eL r hr];exact up r hr
 refine ⟨by rw [ec];exact c2,h.wx.congr (fun r hr=>by rw [eL r hr]) (fun r hr=>by rw [hD r hr,hD (1 - r) (by omega)];exact Nat.le_refl _),h.hr.congr (fun r hr=>by rw [eL r hr];exact ⟨rfl,rfl,rfl⟩),h.bc.congr (fun r hr=>by rw [eL r hr];exact ⟨rfl,rfl,rfl⟩),fun s hs=>?_,h.rb,fun z=>(by cases z),fun _=>⟨Wv,gW,fun s hs=>⟨⟨3 * q+1,?_,by omega⟩,?_,fun i e he=>?_⟩⟩⟩
 ·rw [eL s hs]
  have:=(h.sq s hs).put (PZ s hs)
  rw [pz s hs,List.nil_append] at this;exact this
 ·obtain ⟨k1,k2⟩:=kz s hs (1,1)
  have k1':(mf (mf G 0 (1,1) (pL 0)) 1 (1,1) (pL 1)).K (1 - s) (1,1)=0:=k1
  have k2':(mf (mf G 0 (1,1) (pL 0)) 1 (1,1) (pL 1)).O s (1,1)=0:=k2
  unfold Ph
  rw [gW s hs,k1',k2']
  by_cases z:(pL s).length=0
  ·exact .inl z.symm
  ·exact .inr (.inl ⟨rfl,by omega,Jn.now (by rw [show 1 - (1 - s)=s by omega,hD s hs];exact Nat.le_refl _)⟩)
 ·rw [rQ L pL s hs]
  obtain ⟨k1,_⟩:=kz (1 - s) (by omega) (1,1)
  rw [show 1 - (1 - s)=s by omega] at k1
  show G.K s (1,1)=0+0
  omega
 ·rw [rQ L pL s hs] at he;cases he
theorem wH.Ww (h:wH q late lost pL L rows run D G ko true):wH q late lost pL (eE L) rows run D G (fun s=>G.K s (1,1)) true:=by
 obtain ⟨up,hw,TZ⟩:=h.p2 rfl
 exact ⟨h.pc,h.wx,h.hr,h.bc,h.sq,h.rb,fun z=>(by cases z),fun _=>⟨up,hw,fun s hs=>⟨(TZ s hs).1,rfl,fun i e he=>(by cases he)⟩⟩⟩
theorem wH.done (h:wH q late lost pL L rows run D G ko true) {m:Nat} (hm:∀ s,s < 2→(pL s).length≤m) (hD:∀ s,s < 2→5 * q+2 * q * m < D s):∀ s,s < 2→G.K (1 - s) (1,1)=(pL s).length∧(L s).bE=[]:=by
 obtain ⟨up,hw,TZ⟩:=h.p2 rfl
 intro s hs
 have zp:1 - s < 2:=by omega
 obtain ⟨⟨τ,f1,f2⟩,_,_⟩:=TZ s hs
 obtain ⟨r1,r2,r3⟩:=h.pc.rel s hs (1,1)
 have hms:=hm s hs
 rw [hw s hs] at r3
 have hq:=h.wx.hq
 have h1:=h.wx.h1
 have key:G.O s (1,1)=(pL s).length:=by
  unfold Ph at f1
  rw [hw s hs] at f1
  rcases f1 with y | ⟨y1,y2,j⟩ | ⟨y1,j⟩
  ·exact y
  ·exfalso
   have l:=h.wx.le zp j
   have d:=hD (1 - s) zp
   have:q * (G.O s (1,1)+G.K (1 - s) (1,1))+q≤2 * q * m:=by
    have e:q * (G.O s (1,1)+G.K (1 - s) (1,1))+q=q * (G.O s (1,1)+G.K (1 - s) (1,1)+1):=by rw [Nat.mul_add q _ 1,Nat.mul_one]
    rw [e,show 2 * q * m=q * (2 * m) by rw [Nat.mul_comm 2 q,Nat.mul_assoc]]
    exact Nat.mul_le_mul_left q (by omega)
   omega
  ·exfalso
   have l:=h.wx.le hs j
   have d:=hD s hs
   have:q * (G.O s (1,1)+G.K (1 - s) (1,1))+q≤2 * q * m:=by
    have e:q * (G.O s (1,1)+G.K (1 - s) (1,1))+q=q * (G.O s (1,1)+G.K (1 - s) (1,1)+1):=by rw [Nat.mul_add q _ 1,Nat.mul_one]
    rw [e,show 2 * q * m=q * (2 * m) by rw [Nat.mul_comm 2 q,Nat.mul_assoc]]
    exact Nat.mul_le_mul_left q (by omega)
   omega
 refine ⟨by omega,?_⟩
 have en:=h.pc.en s hs
 obtain ⟨u1,u2,u3⟩:=up s hs
 have e0:pr s (eE L s).b (eE L s).k=(1,1):=by rw [u2,u3];exact Md s hs
 have:=en.p
 rw [e0,hw s hs,key,List.drop_length] at this
 exact this
end
end
end K37
namespace K37
open PySem L2 PyProof.Rows
section
variable {P:Program} {w:World} {K:PySem.W.Frag} {mg:Str→Option Value} {base:Heap} {t:Ad}
section
variable {q late lost T0 T1:Nat} {L:Nat→Lk} {rows:Nat→Nat→List Rw} {run D D':Nat→Nat} {β:Nat→Int} {G:Gh} {P:Pr} {ko:Nat→Nat} {ph:Bool} {pL:Nat→List (List Int)} {r s τ:Nat} {φ:Cl→Prop}
theorem Bu (e:∀ s,s < 2→D' s=D s) (hr:r < 2) (j:Jd q rows run D r τ φ):Jd q rows run D' r τ φ:=by
 show Jn q (rows r) (D' r) (D' (1 - r)) (run (1 - r)) τ φ
 rw [e r hr,e (1 - r) (by omega)];exact j
theorem Wx.Me (h:Wx q late lost L rows run D) (e:∀ s,s < 2→D' s=D s):Wx q late lost L rows run D' :=
 ⟨h.hq,h.h1,fun r hr=>by rw [e r hr];exact h.d r hr,fun r hr=>by rw [e r hr,e (1 - r) (by omega)];exact h.dd r hr,h.rn,fun r hr φ hφ=>by rw [e r hr,e (1 - r) (by omega)];exact h.e r hr φ hφ⟩
theorem Hr.Me (h:Hr q T0 L rows run D) (e:∀ s,s < 2→D' s=D s):Hr q T0 L rows run D' :=
 ⟨h.Q,h.u0,fun r hr=>by obtain ⟨τ,a1,a2,a3⟩:=h.a r hr;exact ⟨τ,a1,Bu e hr a2,by rw [e r hr];exact a3⟩⟩
theorem Bc.Me (h:Bc q T1 β L rows run D) (e:∀ s,s < 2→D' s=D s):Bc q T1 β L rows run D' :=
 ⟨h.b,fun r hr=>(h.c r hr).imp id (Bu e hr),fun r hr=>(h.u r hr).imp id fun z=>z.imp id fun ⟨a,τ,b,c⟩=>⟨a,τ,b,Bu e hr c⟩⟩
theorem Ph.Me (h:Ph q rows run D β G P s τ) (hs:s < 2) (e:∀ s,s < 2→D' s=D s):Ph q rows run D' β G P s τ :=
 Or.imp id (Or.imp (fun ⟨a,b,c⟩=>⟨a,b,Bu e (by omega) c⟩) (fun ⟨a,c⟩=>⟨a,Bu e hs c⟩)) h
theorem wH.Me (h:wH q late lost pL L rows run D G ko ph) (e:∀ s,s < 2→D' s=D s):wH q late lost pL L rows run D' G ko ph :=
 ⟨h.pc,h.wx.Me e,h.hr.Me e,h.bc.Me e,fun s hs=>by rw [e s hs];exact h.sq s hs,h.rb,h.p1,fun z=>by
  obtain ⟨a,b,c⟩:=h.p2 z
  exact ⟨a,b,fun s hs=>by obtain ⟨⟨τ,c1,c2⟩,c3,c4⟩:=c s hs;exact ⟨⟨τ,c1.Me hs e,c2⟩,c3,c4⟩⟩⟩
end
end
end K37
namespace K37
open PySem L2 PyProof.Rows
section
variable {P:Program} {w:World} {K:PySem.W.Frag} {mg:Str→Option Value} {base:Heap} {t:Ad}
structure Hj (G F:Hp) (l:List Addr):Prop where
 nd:l.Nodup
 no:∀ b,b ∈ l→G b=none
 ne:∀ b,b ∈ l→F b≠none
 sm:aI G F
theorem Hj.nil {F:Hp}:Hj F F []:=⟨List.nodup_nil,fun b h=>(by cases h),fun b h=>(by cases h),aI.refl _⟩
theorem Hj.cons {G G' F:Hp} {a:Addr} {l:List Addr} (s:aI G G') (h1:G a=none) (h2:G' a≠none) (c:Hj G' F l):Hj G F (a :: l) :=
 ⟨List.nodup_cons.mpr ⟨fun z=>h2 (c.no a z),c.nd⟩,fun b hb=>(List.mem_cons.mp hb).elim (fun z=>by rw [z];exact h1) (fun z=>s.free (c.no b z)),fun b hb=>(List.mem_cons.mp hb).elim (fun z=>by rw [z];exact fun y=>h2 (c.sm.free y)) (c.ne b),s.trans c.sm⟩
open Classical in
noncomputable def N7 (os:List Addr) (H:Hp):Hp:=fun a=>if a ∈ os then H a else none
theorem wJ {os:List Addr} {H:Hp} {a:Addr} (h:a ∈ os):N7 os H a=H a:=if_pos h
theorem wK {os:List Addr} {H:Hp} {a:Addr} (h:a ∉ os):N7 os H a=none:=if_neg h
theorem z7 {os:List Addr} {H:Hp} {a:Addr} (h:N7 os H a≠none):a ∈ os:=Classical.byContradiction fun z=>h (wK z)
theorem QB {C:Addr} {H3 H5 H6 CH Es Hk He:Hp} {x0 x1 t0 t1 p0 p1 eL D0 D1 cL:Addr} {Bw Bx:Nat→Addr} {n:Nat} {q:Int} {al os:List Addr} (s35:aI H3 H5) (U0:[x0,x1,t0,t1,p0,p1].Nodup) (Ta:∀ a,a ∈ [x0,x1,t0,t1,p0,p1]→H5 a≠none) (z3:∀ a,a ∈ [x0,x1,t0,t1,p0,p1]→H3 a=none)
  (lk:∀ s,s < 2→∃ B0,bP C B0 H5 (aU x0 x1 s) (aU t0 t1 s) (aU p0 p1 s) (aU (ot q 0) (ot q 1) s)) (Wy:aI H5 H6) (UO:H5 eL=none) (Wz:H6 eL=some (.lst [.ref x0,.ref x1]))
  (Hl:Py H6 CH D0 Bw n) (Bt:Py CH Es D1 Bx n) (HA:aI Es Hk) (W0:Es cL=none) (Yx:Hk cL=some (.lst [.ref D0,.ref D1])) (c:Hj Hk He al) (sub:∀ a,a ∈ os→a ∈ al) (val:∀ a,a ∈ os→∃ o,He a=some o∧rH o) :
  ∃ (B:Hp) (ρ:Addr→Nat),Sx Fh C B He (N7 os He) n (aU x0 x1) (aU t0 t1) (aU p0 p1) (aU D0 D1) (aU Bw Bx) (aU (ot q 0) (ot q 1)) (fun _ _=>[]) ρ ∧
   (∀ a o,H3 a=some o→B a=some o)∧B eL=some (.lst [.ref x0,.ref x1])∧B cL=some (.lst [.ref D0,.ref D1])∧∀ a o,a ∈ al→a ∉ os→He a=some o→B a=some o:=by
 have ne:∀ {G:Hp} {a b:Addr},G a≠none→G b=none→a≠b:=fun {G a b} h1 h2 z=>h1 (by rw [z];exact h2)
 have up:∀ {G G':Hp} {a:Addr},aI G G'→G a≠none→G' a≠none:=fun {G G' a} s h z=>h (s.free z)
 have sm:∀ {G:Hp} {a:Addr} {o:HO},G a=some o→G a≠none:=fun {G a o} e z=>by rw [e] at z;cases z
 have Tb:=Hl.sm
 have JW:=Bt.sm
 have W1:∀ a,a ∈ [x0,x1,t0,t1,p0,p1]→H6 a≠none:=fun a ha=>up Wy (Ta a ha)
 have QC:∀ a,a ∈ [x0,x1,t0,t1,p0,p1]→CH a≠none:=fun a ha=>up Tb (W1 a ha)
 have Tc:∀ a,a ∈ [x0,x1,t0,t1,p0,p1]→Es a≠none:=fun a ha=>up JW (QC a ha)
 have W2:∀ a,a ∈ [x0,x1,t0,t1,p0,p1]→Hk a≠none:=fun a ha=>up HA (Tc a ha)
 have off:∀ {G:Hp} {b:Addr},(∀ a,a ∈ [x0,x1,t0,t1,p0,p1]→G a≠none)→G b=none→b ∉ [x0,x1,t0,t1,p0,p1]:=fun {G b} h1 h2 hb=>h1 b hb h2
 have Mf:∀ j,j < n→CH (Bw j)≠none:=fun j hj=>sm (Hl.em j hj)
 have Td:∀ j,j < n→Es (Bx j)≠none:=fun j hj=>sm (Bt.em j hj)
 have ap:Apart (aU x0 x1) (aU t0 t1) (aU p0 p1) (aU Bw Bx) n 0 (fun _=>0) :=
  ⟨U0,fun j hj=>off W1 (Hl.no j hj),fun j hj=>off QC (Bt.no j hj),fun i j hi hj=>Ne.symm (ne (Mf j hj) (Bt.no i hi)),fun i j hi=>absurd hi (Nat.not_lt_zero _),fun i hi=>absurd hi (Nat.not_lt_zero _),fun i hi=>absurd hi (Nat.not_lt_zero _),fun i hi=>absurd hi (Nat.not_lt_zero _)⟩
 have zr:∀ {b:Addr},b ∉ [x0,x1,t0,t1,p0,p1]→H6 b≠none→b8 (aU x0 x1) (aU t0 t1) (aU p0 p1) (aU Bw Bx) n 0 (fun _=>0) b=0:=fun {b} h1 h2=>nQ h1 (fun j hj=>ne h2 (Hl.no j hj)) (fun j hj=>ne (up Tb h2) (Bt.no j hj)) (fun i hi=>absurd hi (Nat.not_lt_zero _))
 have zc:∀ {b:Addr},b ∈ al→b8 (aU x0 x1) (aU t0 t1) (aU p0 p1) (aU Bw Bx) n 0 (fun _=>0) b=0:=fun {b} hb=>nQ (off W2 (c.no b hb)) (fun j hj=>Ne.symm (ne (G:=Hk) (up (JW.trans HA) (Mf j hj)) (c.no b hb))) (fun j hj=>Ne.symm (ne (G:=Hk) (up HA (Td j hj)) (c.no b hb))) (fun i hi=>absurd hi (Nat.not_lt_zero _))
 have Te:CH D0≠none:=sm Hl.at_
 have W3:aI H6 He:=((Tb.trans JW).trans HA).trans c.sm
 have Yy:aI CH He:=(JW.trans HA).trans c.sm
 have Yz:aI Es He:=HA.trans c.sm
 obtain ⟨B,st,yes⟩:=Sx.start (Bv:=Fh) (C:=C) (H:=He) (E:=N7 os He) (n:=n) (x:=aU x0 x1) (t:=aU t0 t1) (p:=aU p0 p1) (d:=aU D0 D1) (sl:=aU Bw Bx) (L:=aU (ot q 0) (ot q 1)) ap
  (fun s hs=>by obtain ⟨B0,k⟩:=lk s hs;exact ⟨B0,k.same (Wy.trans W3)⟩) (bK ⟨rfl,rfl,rfl⟩ ⟨rfl,rfl,rfl⟩)
  (bK (Yy _ _ Hl.at_) (Yz _ _ Bt.at_))
  (bK (nQ (off W1 Hl.nD) (fun j hj=>Ne.symm (Hl.nd j hj)) (fun j hj=>ne Te (Bt.no j hj)) (fun i hi=>absurd hi (Nat.not_lt_zero _))) (nQ (off QC Bt.nD) (fun j hj=>Ne.symm (ne (Mf j hj) Bt.nD)) (fun j hj=>Ne.symm (Bt.nd j hj)) (fun i hi=>absurd hi (Nat.not_lt_zero _))))
  (bK Hl.inj Bt.inj) (bK (fun j hj=>Yy _ _ (Hl.em j hj)) (fun j hj=>Yz _ _ (Bt.em j hj)))
  (fun a o e=>by
   have h:=z7 (a:=a) (by rw [e];exact fun z=>by cases z)
   rw [wJ h] at e;exact e)
  (fun a o e=>by
   have h:=z7 (a:=a) (by rw [e];exact fun z=>by cases z)
   rw [wJ h] at e
   obtain ⟨u,h1,h2⟩:=val a h
   rw [h1] at e;cases e;exact h2)
  (fun a ha=>by
   have h:=sub a (z7 ha)
   exact ⟨zc h,Ne.symm (ne (G:=Hk) (up (JW.trans HA) Te) (c.no a h)),Ne.symm (ne (G:=Hk) (up HA (sm Bt.at_)) (c.no a h))⟩)
 have W4:∀ {a:Addr},Hk a≠none→a ∉ os:=fun {a} h z=>h (c.no a (sub a z))
 refine ⟨B,_,st,fun a o e=>?_,yes _ _ (wK (W4 (up ((Tb.trans JW).trans HA) (sm Wz)))) (zr (off Ta UO) (sm Wz)) (W3 _ _ Wz),yes _ _ (wK (W4 (sm Yx))) (nQ (off Tc W0) (fun j hj=>Ne.symm (ne (G:=Es) (up JW (Mf j hj)) W0)) (fun j hj=>Ne.symm (ne (Td j hj) W0)) (fun i hi=>absurd hi (Nat.not_lt_zero _))) (c.sm _ _ Yx),fun a o h1 h2 e=>yes a o (wK h2) (zc h1) e⟩
 have h5:=s35 _ _ e
 have h6:=Wy _ _ h5
 exact yes a o (wK (W4 (up ((Tb.trans JW).trans HA) (sm h6)))) (zr (fun h=>by have:=z3 a h;rw [e] at this;cases this) (sm h6)) (W3 _ _ h6)
end
end K37
namespace K37
open PySem L2 PyProof.Rows
section
variable {P:Program} {w:World} {K:PySem.W.Frag} {mg:Str→Option Value} {base:Heap} {t:Ad}
theorem cD {G:Hp} {a:Addr} {o:HO} (h:G a=none):aI G (upd G a o)∧(upd G a o) a=some o:=⟨(aI.refl _).new h,aB⟩
structure wL (K:PySem.W.Frag) (B:Hp) (sc ma my pl eL cL uo:Addr) (ns:List Int) (late lost:Nat) (m:Nat→Nat) (pL:Nat→List (List Int)) (pa x D tk:Nat→Addr):Prop where
 sc:aY K B sc (ns.map V.int)
 ma:B ma=some (.tup [.int (late:Int),.int (lost:Int)])
 my:B my=some (.lst [.int (m 0:Int),.int (m 1:Int)])
 pl:B pl=some (.lst [.ref (pa 0),.ref (pa 1)])
 pa:∀ s,s < 2→eH B B (pa s) (pL s)
 eL:B eL=some (.lst [.ref (x 0),.ref (x 1)])
 cL:B cL=some (.lst [.ref (D 0),.ref (D 1)])
 uo:B uo=some (.lst [.ref (tk 0),.ref (tk 1)])
theorem eH.same {B B' H H':Hp} {a:Addr} {ps:List (List Int)} (h:eH B H a ps) (bb:aI B B') (e:∀ o,H a=some o→H' a=some o):eH B' H' a ps:=by
 obtain ⟨df,g1,g2⟩:=h
 exact ⟨df,e _ g1,fun y xs hy=>bb _ _ (g2 y xs hy)⟩
theorem wL.same {K:PySem.W.Frag} {B B':Hp} {sc ma my pl eL cL uo:Addr} {ns:List Int} {late lost:Nat} {m:Nat→Nat} {pL:Nat→List (List Int)} {pa x D tk:Nat→Addr} (h:wL K B sc ma my pl eL cL uo ns late lost m pL pa x D tk) (s:aI B B'):wL K B' sc ma my pl eL cL uo ns late lost m pL pa x D tk :=
 ⟨s.seq h.sc,s _ _ h.ma,s _ _ h.my,s _ _ h.pl,fun i hi=>(h.pa i hi).same s fun o e=>s _ _ e,s _ _ h.eL,s _ _ h.cL,s _ _ h.uo⟩
theorem By {K:PySem.W.Frag} {B H:Hp} {a b:Addr} {W:List (List Int)} (sb:aI B H) (ha:eH B H a W) (hb:eH B H b W):vL K H 8 (.ref a) (.ref b):=by
 obtain ⟨df,g1,g2⟩:=ha
 obtain ⟨qas,k1,k2⟩:=hb
 refine .lst (n:=7) (aY.of g1) (aY.of k1) (by rw [aL,aL]) fun j u v hu hv=>?_
 obtain ⟨hj,rfl⟩:=tab_of hu
 obtain ⟨_,rfl⟩:=tab_of hv
 obtain ⟨xs,e⟩:∃ xs,W[j]?=some xs:=⟨_,List.getElem?_eq_getElem hj⟩
 exact .lst (n:=6) (aY.of (sb _ _ (g2 j xs e))) (aY.of (sb _ _ (k2 j xs e))) rfl fun k a b ha hb=>by
  rw [ha] at hb
  cases hb
  obtain ⟨z,_,rfl⟩:=oU ha
  exact .flat _ rfl
theorem Mg {K:PySem.W.Frag} {H:Hp} {e a1 a2 pa:Addr} (w1:H e=some (.tup [.str "up",.ref pa])) (w2:H pa=some (.tup [.int 1,.int 1])) (EB:H a2=some (.tup [.str "up",.ref a1])) (EA:H a1=some (.tup [.int 1,.int 1])):vL K H 8 (.ref e) (.ref a2) :=
 .tup (n:=7) (cP.of w1) (cP.of EB) rfl fun j x y hx hy=>by
  match j,hx,hy with
  | 0,hx,hy=>cases hx;cases hy;exact .flat _ rfl
  | 1,hx,hy =>
   cases hx;cases hy
   exact .tup (n:=6) (cP.of w2) (cP.of EA) rfl fun j x y hx hy=>by
    match j,hx,hy with
    | 0,hx,hy=>cases hx;cases hy;exact .flat _ rfl
    | 1,hx,hy=>cases hx;cases hy;exact .flat _ rfl
    | j+2,hx,hy=>cases hx
  | j+2,hx,hy=>cases hx
theorem Jz {K:PySem.W.Frag} {H:Hp} {pv W5:V} {p:Option (Int × Int)} {Q:VK} (h:rA H pv p) (h':rA H W5 p) (q:Q (.bl false) H):R6 K pv W5 H Q:=by
 cases p with
 | none =>
  have h:pv=.bq:=h
  have h':W5=.bq:=h'
  subst h h'
  exact .inl ⟨rfl,q⟩
 | some p =>
  obtain ⟨a,rfl,g⟩:=h
  obtain ⟨a',rfl,g'⟩:=h'
  refine .inr ⟨a,a',_,_,rfl,rfl,cP.of g,cP.of g',fun j u v hu hv=>?_,q⟩
  match j,hu,hv with
  | 0,hu,hv=>cases hu;cases hv;exact .flat _ rfl
  | 1,hu,hv=>cases hu;cases hv;exact .flat _ rfl
  | j+2,hu,hv=>cases hu
theorem Mh {X:Cx} {es:List Expr} {tt:TA} {pos:Pos} (h:Kh X es tt):PE X (.List es pos) (K6 tt):=bH h.out
structure Y0 (X:Cx) (st:Stmt) (tt:TS):Prop where
 out:PS X st tt
theorem J0 {X:Cx} (K:PySem.W.Frag) {i:Nat} {x:Str} {es:List Expr} {b:Expr} {tt:TA} {tb:TE} {lp ip pos' pos:Pos} (hN:X.N.Nodup) (hi:X.N[i]?=some x) (hx:Loc X.env.scope x) (h:Kh X es tt) (hb:PE X b tb) (hp:Em b) (hK:X.K=K:=by rfl) (hf:X.fn x=true∨X.env.scope.names.lookup x=some .local:=by first | exact .inl rfl | exact .inr rfl | assumption) :
  Y0 X (.Assign [.Name x pos'] (.Subscript (.List es lp) b ip) pos) (Kz (ON (OZ K) (K6 tt) tb) (iC i)):=⟨aZ hN hi hx (af (aQ K hK) (bH h.out) hb hp) rfl hf⟩
theorem HB {X:Cx} {s1 s2:Stmt} {ss:List Stmt} {t1 t2 u:TS} (h1:PS X s1 t1) (h2:Y0 X s2 t2) (h3:AQ X ss u):AQ X (s1 :: s2 :: ss) (CL t1 (CL t2 u)):=aD h1 (aD h2.out h3)
theorem DU {X:Cx} {i j:Int} {c d k:Nat} {p q r:Pos} {es:List Expr} {tt:TA} (hr:Kh X es tt):Kh X (.Tuple [.Constant (.int i) c p,.Constant (.int j) d q] k r :: es) (jO (F6 (jO (tC (.int i)) (jO (tC (.int j)) vD))) tt):=zM (Io (qh E9 (qh E9 Az))) hr
theorem Mi {X:Cx} {z:Str} {i j:Int} {c d e k l:Nat} {p q r s u pos:Pos}:PE X (.List [.Tuple [.Constant (.str z) c p,.Tuple [.Constant (.int i) d q,.Constant (.int j) e r] k s] l u] pos) (K6 (jO (F6 (jO (tC (.str z)) (jO (F6 (jO (tC (.int i)) (jO (tC (.int j)) vD))) vD))) vD)):=Mh (zM (Io (qh (WB cT) (zM (Io (qh E9 (qh E9 Az))) Az))) Az)
theorem Tf {G:Hp} {q0 q1 q2 q3 q4 q5 q6:Addr} (n:Int) (E0:G q0=some (.tup [.int 1,.int 0])) (E1:G q1=some (.tup [.int 1,.int 0])) (E2:G q2=some (.tup [.int 1,.int 1])) (E3:G q3=some (.tup [.int 2,.int 0])) (E4:G q4=some (.tup [.int 2,.int 1])) (E5:G q5=some (.tup [.int 1,.int 2])) (E6:G q6=some (.tup [.int 3,.int 0])):∃ (ma:Addr) (late lost:Nat),tu [V.ref q0,V.ref q1,V.ref q2,V.ref q3,V.ref q4,V.ref q5,V.ref q6] (n % 7)=some (.ref ma)∧G ma=some (HO.tup [.int (late:Int),.int (lost:Int)])∧1≤late∧late+lost≤3:=by
 have h7:n % 7=0∨n % 7=1∨n % 7=2∨n % 7=3∨n % 7=4∨n % 7=5∨n % 7=6:=by omega
 rcases h7 with z | z | z | z | z | z | z
 ·exact ⟨q0,1,0,by rw [z];rfl,E0,by decide,by decide⟩
 ·exact ⟨q1,1,0,by rw [z];rfl,E1,by decide,by decide⟩
 ·exact ⟨q2,1,1,by rw [z];rfl,E2,by decide,by decide⟩
 ·exact ⟨q3,2,0,by rw [z];rfl,E3,by decide,by decide⟩
 ·exact ⟨q4,2,1,by rw [z];rfl,E4,by decide,by decide⟩
 ·exact ⟨q5,1,2,by rw [z];rfl,E5,by decide,by decide⟩
 ·exact ⟨q6,3,0,by rw [z];rfl,E6,by decide,by decide⟩
theorem Tg {G:Hp} {l1 l2:Addr} {n1 n2:Int} (b:Bool) (E1:G l1=some (.lst [.int (1+n1 % 30),.int (n2 % 13)])) (E2:G l2=some (.lst [.int 110,.int (n2 % 13)])):∃ (my:Addr) (m0 m1:Nat),tu [V.ref l1,V.ref l2] (if b=true then 1 else 0)=some (.ref my)∧G my=some (.lst [.int (m0:Int),.int (m1:Int)])∧1≤m0∧m0≤110∧m1≤12:=by
 have e2:n2 % 13=((n2 % 13).toNat:Int):=by omega
 cases b with
 | true=>exact ⟨l2,110,(n2 % 13).toNat,rfl,by rw [E2,← e2];rfl,by decide,by decide,by omega⟩
 | false=>exact ⟨l1,(1+n1 % 30).toNat,(n2 % 13).toNat,rfl,by rw [E1,← e2,show ((1+n1 % 30).toNat:Int)=1+n1 % 30 by omega],by omega,by omega,by omega⟩
def J3 (H:Hp) (d:Addr):Hp:=fun a=>if a=d then none else H a
theorem wM {H:Hp} {d:Addr}:aI (J3 H d) H:=fun a o e=>by
 have e:(if a=d then none else H a)=some o:=e
 split at e
 ·cases e
 ·exact e
theorem ou.lift {K:PySem.W.Frag} {B H:Hp} {a:Addr} {fs:Ft} (h:ou K H a fs):ou K (nP B H) a fs:=by
 obtain ⟨Ny,Bm,h1,h2⟩:=h
 refine ⟨Ny,Bm,rJ h1,fun y d e=>⟨rJ (h2 y d e).1,?_⟩⟩
 obtain ⟨ts,g1,g2⟩:=(h2 y d e).2
 exact ⟨ts,rJ g1,fun y q e=>rJ (g2 y q e)⟩
theorem QD {a b:V} {sd:Nat} (h:sd < 2):Ei [a,b].length (sd:Int)=some sd:=by
 match sd,h with
 | 0,_=>rfl
 | 1,_=>rfl
 | s+2,h=>omega
theorem Mj {run:Nat→Nat} {r sd:Nat} (h:sd < 2):[V.int (run 0:Int),V.int (run 1:Int)].set sd (.int (r:Int))=[V.int ((at2 run sd r 0:Nat):Int),V.int ((at2 run sd r 1:Nat):Int)]:=by
 match sd,h with
 | 0,_=>rfl
 | 1,_=>rfl
 | s+2,h=>omega
theorem wH.at_ {q late lost:Nat} {pL:Nat→List (List Int)} {L:Nat→Lk} {rows:Nat→Nat→List Rw} {run D:Nat→Nat} {G:Gh} {ko:Nat→Nat} {ph:Bool} {x:Nat} {Lx:Lk} (h:wH q late lost pL (at2 L x Lx) rows run D G ko ph) (hx:x < 2):rY Lx∧0≤Lx.b∧Lx.b≤(D x:Int)+1:=by
 have s:=h.sq x hx
 have e:eE (at2 L x Lx) x={ Lx with ev:=[] }:=by unfold eE;rw [aJ]
 rw [e] at s
 exact ⟨⟨s.ok.k,s.ok.o,s.ok.t,s.ok.p⟩,s.b0,s.b1⟩
theorem cx:aS ["script","numbers","measure","quiet","many","ticks","pieces","ends","coming","took","runs","tick","cell","side","given","fate","piece"] ["script"] (aG vU):=⟨rfl,rfl,rfl,by decide +kernel,rfl,by decide +kernel,by decide +kernel⟩
set_option maxHeartbeats 4000000 in
theorem QE {f:Addr} {fd Y1 Y2 TY Y3 Y4 Y5:FuncData} (T:Txt K mg t) (F:jh K "law" "law" vU f fd) (je:Def P w K mg base 1 "_law_cell" ["script","k"] (rL K)) (cX:Def P w K mg base 1 "_law_numbers" ["cell","many"] g8) (lh:Def P w K mg base 2 "_law_fates" ["cell","run","measure"] (pE K)) (gj:Def P w K mg base 1 "_law_pieces" ["cell","many"] nU)
  (nV:Def P w K mg base 2 "_law_give" ["coming","cell","fate","tick","births"] (rF K Fh)) (nW:Def P w K mg base 10 "_law_went" ["end","took","due"] (rO t.LinkEnd))
  (z8:bV P w K mg base (iL P w) 4 t.init Y1 ["self","measure","side"] (Fb K t.LinkEnd)) (z9:Binds K Y1 ["self","measure","side"] []) (DV:bV P w K mg base (iL P w) 9 t.vV Y2 ["self","cells"] (FZ t.LinkEnd)) (DW:Binds K Y2 ["self","cells"] []) (kf:bV P w K mg base (iL P w) 1 t.kR TY ["self"] (sX t.LinkEnd)) (kg:Binds K TY ["self"] [])
  (QF:bV P w K mg base (iL P w) 1 t.JI Y3 ["self"] (Nq t.LinkEnd)) (QG:Binds K Y3 ["self"] []) (uq:bV P w K mg base (iL P w) 1 t.qp Y4 ["self"] (Bb t.LinkEnd)) (uu:Binds K Y4 ["self"] []) (J4:bV P w K mg base (iL P w) 3 t.BB Y5 ["self","piece"] (Jc K t.LinkEnd t.NoLink t.BadPiece)) (J5:Binds K Y5 ["self","piece"] []):bV P w K mg base (iL P w) 13 f fd ["script"] (yP K):=by
 refine F.ok1 cx (fun vs H Q E h=>?_) (fun f be A outer s H vs Q E hr h=>?_)
 ·obtain ⟨a,ns,rfl,_⟩:=h
  rfl
 ·obtain ⟨sc,ns,rfl,hS,hlen,q⟩:=h
  refine ⟨_,HB (aZ (i:=1) cx.nd rfl (Or.inl rfl) (aa (cX.mono (by decide)) hr av (aA (aa (je.mono (by decide)) hr av (aA (pv 0) (aA aF aC))) (aA aF aC))))
   (J0 K (i:=2) cx.nd rfl (Or.inl rfl) (DU (DU (DU (DU (DU (DU (DU Az))))))) (aP bG (af (aQ K) (pv 1) aF (fun _ _=>rfl)) aF) (fun _ _=>rfl))
   (aD (aZ (i:=3) cx.nd rfl (Or.inl rfl) (aP bM (af (gZ K) (pv 2) aF (fun _ _=>rfl)) (af (gZ K) (pv 2) aF (fun _ _=>rfl))))
   (aD (aZ (i:=4) cx.nd rfl (Or.inl rfl) (af (aQ K) (bH (aA (bH (aA (aP bM aF (aP bG (af (aQ K) (pv 1) aF (fun _ _=>rfl)) aF)) (aA (aP bG (af (aQ K) (pv 1) aF (fun _ _=>rfl)) aF) aC))) (aA (bH (aA aF (aA (aP bG (af (aQ K) (pv 1) aF (fun _ _=>rfl)) aF) aC))) aC))) (fh Fx (by rfl) T.SN boot_int (aA (ku jN (aP bG (af (aQ K) (pv 1) aF (fun _ _=>rfl)) aF) aF (au _)) aC)) (fun _ _=>rfl)))
   (aD (aZ (i:=5) cx.nd rfl (Or.inl rfl) (aP bM (aP b9 aF (pv 3)) (bR (Fw rfl) (by rfl) T.SO boot_min (aA aF (aA (aP bM (aP b9 (aP b9 aF (pv 3)) (bR (yT K) (by rfl) T.JJ boot_max (aA (pv 4) aC))) aF) aC)))))
   (aD (aZ (i:=6) cx.nd rfl (Or.inl rfl) (bH (aA (aa (gj.mono (by decide)) hr av (aA (af (aQ K) (pv 1) aF (fun _ _=>rfl)) (aA (af (aQ K) (pv 4) aF (fun _ _=>rfl)) aC))) (aA (aa (gj.mono (by decide)) hr av (aA (af (aQ K) (pv 1) aF (fun _ _=>rfl)) (aA (af (aQ K) (pv 4) aF (fun _ _=>rfl)) aC))) aC))))
   (aD (aZ (i:=7) cx.nd rfl (Or.inl rfl) (bH (aA (Ee T.BG (z8.mono (by decide)) hr (by rfl) T.BD z9 .nil av (aA (pv 2) (aA aF aC))) (aA (Ee T.BG (z8.mono (by decide)) hr (by rfl) T.BD z9 .nil av (aA (pv 2) (aA aF aC))) aC))))
   (aD (aZ (i:=8) cx.nd rfl (Or.inl rfl) (bH (aA (kG rfl (Nc:=["k"]) (ix:=[none]) (dJ (aG vU) ["script","numbers","measure","quiet","many","ticks","pieces","ends","coming","took","runs","tick","cell","side","given","fate","piece"] rfl rfl (by decide +kernel)) (cU (by rfl) T.dP (aA (aP bM (pv 5) aF) aC)) (fun C fp s H=>⟨(az (i:=0) (show (["k"]:List Str).Nodup by decide +kernel) rfl (Or.inl rfl)),cS,(bH aC)⟩)) (aA (kG rfl (Nc:=["k"]) (ix:=[none]) (dJ (aG vU) ["script","numbers","measure","quiet","many","ticks","pieces","ends","coming","took","runs","tick","cell","side","given","fate","piece"] rfl rfl (by decide +kernel)) (cU (by rfl) T.dP (aA (aP bM (pv 5) aF) aC)) (fun C fp s H=>⟨(az (i:=0) (show (["k"]:List Str).Nodup by decide +kernel) rfl (Or.inl rfl)),cS,(bH aC)⟩)) aC))))
   (aD (aZ (i:=9) cx.nd rfl (Or.inl rfl) (bH (aA (bH aC) (aA (bH aC) aC))))
   (aD (aZ (i:=10) cx.nd rfl (Or.inl rfl) (bH (aA aF (aA aF aC))))
   (aD (PS.uX (cq PassesOwn.never rfl (cU (by rfl) T.dP (aA (pv 5) aC)) (az (i:=11) cx.nd rfl (Or.inl rfl))
    (aD (aZ (i:=12) cx.nd rfl (Or.inl rfl) (aP bM (aa (je.mono (by decide)) hr av (aA (pv 0) (aA (aP bM aF (aP bG (pv 11) (bR (Fv rfl) (by rfl) T.JJ boot_max (aA aF (aA (bR (bY K) (by rfl) T.iZ boot_len (aA (pv 0) aC)) aC))))) aC))) (pv 11)))
    (aD (cq PassesOwn.never rfl (cU (by rfl) T.dP (aA aF aC)) (az (i:=13) cx.nd rfl (Or.inl rfl))
     (aD (aZ (i:=14) cx.nd rfl (Or.inl rfl) (oR (af (aQ K) (pv 7) (pv 13) (fun _ _=>rfl)) T.aK T.Ln (DV.mono (by decide)) hr DW .nil av (aA (kG rfl (Nc:=["row"]) (ix:=[none]) (dJ (aG vU) ["script","numbers","measure","quiet","many","ticks","pieces","ends","coming","took","runs","tick","cell","side","given","fate","piece"] rfl rfl (by decide +kernel)) (cC K (af (aQ K) (af (aQ K) (pv 8) (pv 13) (fun _ _=>rfl)) (pv 11) (fun _ _=>rfl))) (fun C fp s H=>⟨(az (i:=0) (show (["row"]:List Str).Nodup by decide +kernel) rfl (Or.inl rfl)),cS,(af (gZ K) (pv 0) aF (fun _ _=>rfl))⟩)) aC)))
     (aD (pH (aa (lh.mono (by decide)) hr av (aA (aP bM (pv 12) (aP b9 aF (pv 13))) (aA (af (aQ K) (pv 10) (pv 13) (fun _ _=>rfl)) (aA (pv 2) aC)))) (Hw rfl (qY (az (i:=15) cx.nd rfl (Or.inl rfl)) (qY (rk (pv 10) (pv 13) set_list) EO))))
     (aH (ay (aa (nV.mono (by decide)) hr av (aA (af (aQ K) (pv 8) (aP jg aF (pv 13)) (fun _ _=>rfl)) (aA (pv 14) (aA (pv 15) (aA (pv 11) (aA fg aC)))))))))))
    (aH (bu (aj jN (pv 11) (aP b9 aF (pv 3)) (au _))
     (aH (cq PassesOwn.never rfl (cU (by rfl) T.dP (aA aF aC)) (az (i:=13) cx.nd rfl (Or.inl rfl))
      (aD (bu (PW.pt (Ab (aj (LQ K (GC hr)) (dB (af (aQ K) (pv 7) (pv 13) (fun _ _=>rfl)) T.aK T.yf (kf.mono (by decide)) hr kg .nil av) Mi (au _)) (yv (aj (O8 K (GC hr)) (dB (af (aQ K) (pv 7) (pv 13) (fun _ _=>rfl)) T.aK T.SU (QF.mono (by decide)) hr QG .nil av) (bX (aA aF (aA aF aC))) (au _)))))
       (aH (ar Aa))
       (bD))
      (aH (cq PassesOwn.never rfl (cC K (af (aQ K) (pv 6) (pv 13) (fun _ _=>rfl))) (az (i:=16) cx.nd rfl (Or.inl rfl))
       (aH (ay (oR (af (aQ K) (pv 7) (pv 13) (fun _ _=>rfl)) T.aK T.PN (J4.mono (by decide)) hr J5 .nil av (aA (pv 16) aC)))))))))
     (aH (bu (aj Ah (pv 11) (aP b9 aF (pv 3)) (au _))
      (aH (cq PassesOwn.never rfl (cU (by rfl) T.dP (aA aF aC)) (az (i:=13) cx.nd rfl (Or.inl rfl))
       (aH (bu (pG (rg (aa (nW.mono (by decide)) hr av (aA (af (aQ K) (pv 7) (pv 13) (fun _ _=>rfl)) (aA (af (aQ K) (pv 9) (pv 13) (fun _ _=>rfl)) (aA (af (aQ K) (pv 6) (aP jg aF (pv 13)) (fun _ _=>rfl)) aC))))))
        (aH (ar Aa))
        (bD)))))
      (bD)))))))))
   (aD (bu (aj Ah (aP bM (aP b9 (aP b9 aF (pv 3)) (bR (yT K) (by rfl) T.JJ boot_max (aA (pv 4) aC))) aF) aF (au _))
    (aH (ar Aa))
    (bD))
   (aH (ar (Hs (ku (LP K (GC hr)) (pv 9) (bH (aA (af (aQ K) (pv 6) aF (fun _ _=>rfl)) (aA (af (aQ K) (pv 6) aF (fun _ _=>rfl)) aC))) (au _)) (Hs (ku jN (dB (af (aQ K) (pv 7) aF (fun _ _=>rfl)) T.aK T.BH (uq.mono (by decide)) hr uu .nil av) aF (au _)) (OH (ku jN (dB (af (aQ K) (pv 7) aF (fun _ _=>rfl)) T.aK T.BH (uq.mono (by decide)) hr uu .nil av) aF (au _))))))))))))))))),?_⟩
  have ox:(1000001:Nat)≤sizeLine:=by decide
  refine ⟨_,rfl,sc,ns,0,rfl,hS,by decide,fun c=>?_⟩
  refine ⟨c,4,rfl,by decide,fun nl H1 Y6 s1 nn1 e1 Qs hn1=>?_⟩
  obtain ⟨n0,n1,n2,n3,rfl⟩:∃ n0 n1 n2 n3,Y6=[n0,n1,n2,n3]:=by
   match Y6,Qs with
   | [n0,n1,n2,n3],_=>exact ⟨n0,n1,n2,n3,rfl⟩
  refine ⟨by show 2≤sizeLine;decide,fun q0 Pn=>?_⟩
  obtain ⟨S0,E0⟩:=cD (o:=.tup [.int 1,.int 0]) Pn
  refine ⟨by show 2≤sizeLine;decide,fun q1 Wj=>?_⟩
  obtain ⟨S1,E1⟩:=cD (o:=.tup [.int 1,.int 0]) Wj
  refine ⟨by show 2≤sizeLine;decide,fun q2 Y7=>?_⟩
  obtain ⟨S2,E2⟩:=cD (o:=.tup [.int 1,.int 1]) Y7
  refine ⟨by show 2≤sizeLine;decide,fun q3 Y8=>?_⟩
  obtain ⟨S3,E3⟩:=cD (o:=.tup [.int 2,.int 0]) Y8
  refine ⟨by show 2≤sizeLine;decide,fun q4 Y9=>?_⟩
  obtain ⟨S4,E4⟩:=cD (o:=.tup [.int 2,.int 1]) Y9
  refine ⟨by show 2≤sizeLine;decide,fun q5 ZA=>?_⟩
  obtain ⟨S5,E5⟩:=cD (o:=.tup [.int 1,.int 2]) ZA
  refine ⟨by show 2≤sizeLine;decide,fun q6 ZC=>?_⟩
  obtain ⟨S6,E6⟩:=cD (o:=.tup [.int 3,.int 0]) ZC
  refine ⟨by show 7≤sizeLine;decide,fun ql hql=>?_⟩
  obtain ⟨Sl,El⟩:=cD (o:=.lst [.ref q0,.ref q1,.ref q2,.ref q3,.ref q4,.ref q5,.ref q6]) hql
  have a6:=Sl
  have a5:=S6.trans a6
  have a4:=S5.trans a5
  have a3:=S4.trans a4
  have a2:=S3.trans a3
  have a1:=S2.trans a2
  have a0:=S1.trans a1
  have sM:=S0.trans a0
  replace E0:=a0 _ _ E0
  replace E1:=a1 _ _ E1
  replace E2:=a2 _ _ E2
  replace E3:=a3 _ _ E3
  replace E4:=a4 _ _ E4
  replace E5:=a5 _ _ E5
  replace E6:=a6 _ _ E6
  clear S0 S1 S2 S3 S4 S5 S6 Sl a0 a1 a2 a3 a4 a5 a6 Pn Wj Y7 Y8 Y9 ZA ZC
  obtain ⟨ma,late,lost,Qu,Nw,ZD,h3q⟩:=Tf n0 E0 E1 E2 E3 E4 E5 E6
  clear E0 E1 E2 E3 E4 E5 E6
  have Th:=sM _ _ e1
  refine ⟨_,rfl,nl,_,_,_,rfl,rfl,aY.of Th,rfl,_,_,rfl,rfl,(by show (0:Int) < 7;decide),ql,_,_,_,rfl,rfl,aY.of El,Qu,?_⟩
  refine ⟨_,rfl,ma,_,_,_,rfl,rfl,cP.of Nw,rfl,_,rfl,ma,_,_,_,rfl,rfl,cP.of Nw,rfl,_,_,rfl,rfl,?_⟩
  refine ⟨_,rfl,nl,_,_,_,rfl,rfl,aY.of Th,rfl,_,_,rfl,rfl,(by show (0:Int) < 30;decide),_,_,rfl,rfl,_,rfl,nl,_,_,_,rfl,rfl,aY.of Th,rfl,_,_,rfl,rfl,(by show (0:Int) < 13;decide),by show 2≤sizeLine;decide,fun l1 Qs=>?_⟩
  obtain ⟨SA,EA⟩:=cD (o:=.lst [.int (1+n1 % 30),.int (n2 % 13)]) Qs
  have W6:=SA _ _ Th
  refine ⟨_,rfl,nl,_,_,_,rfl,rfl,aY.of W6,rfl,_,_,rfl,rfl,(by show (0:Int) < 13;decide),by show 2≤sizeLine;decide,fun l2 Pf=>?_⟩
  obtain ⟨SB,EB⟩:=cD (o:=.lst [.int 110,.int (n2 % 13)]) Pf
  refine ⟨by show 2≤sizeLine;decide,fun l3 Ss=>?_⟩
  obtain ⟨SC,EC⟩:=cD (o:=.lst [.ref l1,.ref l2]) Ss
  have U1:=SC _ _ (SB _ _ W6)
  refine ⟨_,rfl,nl,_,_,_,rfl,rfl,aY.of U1,rfl,_,_,rfl,rfl,(by show (0:Int) < 4;decide),rfl,.inr ⟨_,rfl,?_⟩⟩
  obtain ⟨my,m0,m1,Ti,Tj,h1m,aB3,Pb⟩:=Tg (n1:=n1) (n2:=n2) (decide (V.int (n3 % 4)=V.int 1)) (SC _ _ (SB _ _ EA)) (SC _ _ EB)
  refine ⟨l3,_,_,_,rfl,rfl,aY.of EC,Ti,?_⟩
  have Tn:=SC _ _ (SB _ _ (SA _ _ Nw))
  have sC:=s1.trans (sM.trans (SA.trans (SB.trans SC)))
  clear SA SB SC EA EB EC Qs Pf Ss W6 Th El Nw Qu Ti
  refine ⟨_,rfl,_,_,rfl,rfl,.inl ⟨by decide,by decide⟩,_,rfl,_,_,rfl,rfl,.inl ⟨by decide,by decide⟩,_,rfl,my,[(m0:Int),(m1:Int)],rfl,aY.of Tj,by simp,fun M ZE W7=>?_⟩
  have hM0:(m0:Int)≤M:=W7 _ (by simp)
  have hM3:(m1:Int)≤M:=W7 _ (by simp)
  have hM4:M≤110:=by
   simp only [List.mem_cons,List.not_mem_nil,or_false] at ZE
   omega
  obtain ⟨mm,rfl⟩:∃ mm:Nat,M=(mm:Int):=⟨M.toNat,by omega⟩
  refine ⟨_,_,rfl,rfl,.inr ⟨by omega,by omega⟩,_,_,rfl,rfl,_,_,rfl,_,_,rfl,rfl,?_⟩
  dsimp only
  obtain ⟨tk,VV,aB4,aB5⟩:∃ tk:Nat,(5:Int) * ((late:Int)+(lost:Int))+(if 2 * ((late:Int)+(lost:Int)) * (mm:Int)+1 < 240 then 2 * ((late:Int)+(lost:Int)) * (mm:Int)+1 else 240)=(tk:Int)∧tk≤255∧((tk:Int)=5 * ((late:Int)+(lost:Int))+(2 * ((late:Int)+(lost:Int)) * (mm:Int)+1)∨240≤2 * ((late:Int)+(lost:Int)) * (mm:Int)+1∧3 * (late+lost) < tk):=by
   have h0:(0:Int)≤2 * ((late:Int)+(lost:Int)) * (mm:Int):=Int.mul_nonneg (by omega) (by omega)
   by_cases z:2 * ((late:Int)+(lost:Int)) * (mm:Int)+1 < 240
   ·rw [if_pos z]
    exact ⟨(5 * ((late:Int)+(lost:Int))+(2 * ((late:Int)+(lost:Int)) * (mm:Int)+1)).toNat,by omega,by omega,by omega⟩
   ·rw [if_neg z]
    exact ⟨(5 * ((late:Int)+(lost:Int))+240).toNat,by omega,by omega,by omega⟩
  rw [VV]
  refine ⟨_,rfl,nl,_,_,_,rfl,rfl,aY.of U1,rfl,_,rfl,my,_,_,_,rfl,rfl,aY.of Tj,rfl,n1,m0,rfl,by omega,fun Bz Hpp nX Qw ZF ip0 lp0 ap0=>?_⟩
  refine ⟨_,rfl,nl,_,_,_,rfl,rfl,aY.of (Qw _ _ U1),rfl,_,rfl,my,_,_,_,rfl,rfl,aY.of (Qw _ _ Tj),rfl,n2,m1,rfl,by omega,fun B6 Hq nY Qx ZG ip1 lp1 ap1=>?_⟩
  refine ⟨by show 2≤sizeLine;decide,fun pl oQ=>?_⟩
  obtain ⟨N8,Epl⟩:=cD (o:=.lst [.ref Bz,.ref B6]) oQ
  generalize upd Hq pl (.lst [.ref Bz,.ref B6])=H3 at *
  have s03:=sC.trans (Qw.trans (Qx.trans N8))
  have e3:=N8 _ _ (Qx _ _ (Qw _ _ Tn))
  have W8:=N8 _ _ (Qx _ _ (Qw _ _ Tj))
  have W9:eH H3 H3 Bz nX:=ip0.same (Qx.trans N8) fun o e=>(Qx.trans N8) _ _ e
  have XA:eH H3 H3 B6 nY:=ip1.same N8 fun o e=>N8 _ _ e
  clear Tj Tn U1 Qw Qx N8 sC
  have hm:Ui (late:Int) (lost:Int):=⟨by omega,by omega⟩
  refine ⟨_,rfl,fun x0 To Qk XB nx0=>?_⟩
  have U2:aI H3 (upd (upd H3 To (.own x0)) x0 (.ins t.LinkEnd To [])):=((aI.refl _).new XB).new (by rw [aE (Ne.symm nx0)];exact Qk)
  refine ⟨J3 (upd (upd H3 To (.own x0)) x0 (.ins t.LinkEnd To [])) x0,x0,To,ma,(late:Int),(lost:Int),0,rfl,aB,cP.of (U2 _ _ e3),hm,wM,if_pos rfl,fun t0 p0 H4 Vm g4 nt0 ZF z4=>⟨rfl,?_⟩⟩
  have s4:aI H3 H4:=fun y o e=>Vm y o (aM e Qk) (U2 _ _ e)
  have XC:H3 t0=none:=U2.free nt0
  have XD:H3 p0=none:=U2.free ZF
  have e4:=s4 _ _ e3
  refine ⟨_,rfl,fun x1 vv xN XE nx1=>?_⟩
  have U3:aI H4 (upd (upd H4 vv (.own x1)) x1 (.ins t.LinkEnd vv [])):=((aI.refl _).new XE).new (by rw [aE (Ne.symm nx1)];exact xN)
  refine ⟨J3 (upd (upd H4 vv (.own x1)) x1 (.ins t.LinkEnd vv [])) x1,x1,vv,ma,(late:Int),(lost:Int),1,rfl,aB,cP.of (U3 _ _ e4),hm,wM,if_pos rfl,fun t1 p1 H5 OM g5 nt1 ZG Fm=>⟨rfl,?_⟩⟩
  have s5:aI H4 H5:=fun y o e=>OM y o (aM e xN) (U3 _ _ e)
  have Ml:H4 t1=none:=U3.free nt1
  have Mm:H4 p1=none:=U3.free ZG
  have Mn:=z4.same s5
  have ne:∀ {G:Hp} {a b:Addr},G a≠none→G b=none→a≠b:=fun {G a b} h1 h2 z=>h1 (by rw [z];exact h2)
  have U0:[x0,x1,t0,t1,p0,p1].Nodup:=by
   simp only [List.nodup_cons,List.mem_cons,List.not_mem_nil,or_false,not_or,List.nodup_nil,and_true,not_false_eq_true]
   exact ⟨⟨ne z4.hx xN,z4.xt,ne z4.hx Ml,z4.xp,ne z4.hx Mm⟩,⟨Ne.symm (ne z4.ht xN),Fm.xt,Ne.symm (ne z4.hp xN),Fm.xp⟩,⟨ne z4.ht Ml,z4.ne,ne z4.ht Mm⟩,⟨Ne.symm (ne z4.hp Ml),Fm.ne⟩,ne z4.hp Mm⟩
  have Ta:∀ a,a ∈ [x0,x1,t0,t1,p0,p1]→H5 a≠none:=by
   intro a ha
   simp only [List.mem_cons,List.not_mem_nil,or_false] at ha
   rcases ha with rfl | rfl | rfl | rfl | rfl | rfl
   ·exact Mn.hx
   ·exact Fm.hx
   ·exact Mn.ht
   ·exact Fm.ht
   ·exact Mn.hp
   ·exact Fm.hp
  have z3:∀ a,a ∈ [x0,x1,t0,t1,p0,p1]→H3 a=none:=by
   intro a ha
   simp only [List.mem_cons,List.not_mem_nil,or_false] at ha
   rcases ha with rfl | rfl | rfl | rfl | rfl | rfl
   ·exact Qk
   ·exact s4.free xN
   ·exact XC
   ·exact s4.free Ml
   ·exact XD
   ·exact s4.free Mm
  refine ⟨by show 2≤sizeLine;decide,fun eL ZH=>?_⟩
  obtain ⟨SeL,EeL⟩:=cD (o:=.lst [.ref x0,.ref x1]) ZH
  generalize upd H5 eL (.lst [.ref x0,.ref x1])=H6 at *
  refine ⟨_,rfl,_,_,rfl,rfl,(tk:Int)+7,rfl,by omega,by omega,fun D0 ZI=>?_⟩
  rw [show ((tk:Int)+7).toNat=tk+7 by omega]
  refine kI (lo:=0) (n:=tk+7) (fun i σ H'=>(∃ v,σ=[v])∧∃ sl,Py H6 H' D0 sl i) ⟨⟨none,rfl⟩,fun _=>0,(aI.refl _).new ZI,ZI,aB,fun j hj=>absurd hj (Nat.not_lt_zero _),fun j hj=>absurd hj (Nat.not_lt_zero _),fun j hj=>absurd hj (Nat.not_lt_zero _),fun i j hi=>absurd hi (Nat.not_lt_zero _)⟩ ?_ ?_
  ·rintro i σ H' N hN hi ⟨⟨v,rfl⟩,sl,he⟩
   refine dX ?_
   refine ⟨by show 0≤sizeLine;decide,fun p hp=>⟨_,by rw [aE (aM he.at_ hp)];exact he.at_,by rw [aL];omega,hN _ _ ⟨⟨_,rfl⟩,_,he.step hp⟩⟩⟩
  rintro σ CH ⟨⟨v,rfl⟩,Bw,Hl⟩
  refine ⟨_,rfl,_,_,rfl,rfl,(tk:Int)+7,rfl,by omega,by omega,fun D1 Uv=>?_⟩
  rw [show ((tk:Int)+7).toNat=tk+7 by omega]
  refine kI (lo:=0) (n:=tk+7) (fun i σ H'=>(∃ v,σ=[v])∧∃ sl,Py CH H' D1 sl i) ⟨⟨none,rfl⟩,fun _=>0,(aI.refl _).new Uv,Uv,aB,fun j hj=>absurd hj (Nat.not_lt_zero _),fun j hj=>absurd hj (Nat.not_lt_zero _),fun j hj=>absurd hj (Nat.not_lt_zero _),fun i j hi=>absurd hi (Nat.not_lt_zero _)⟩ ?_ ?_
  ·rintro i σ H' N hN hi ⟨⟨v,rfl⟩,sl,he⟩
   refine dX ?_
   refine ⟨by show 0≤sizeLine;decide,fun p hp=>⟨_,by rw [aE (aM he.at_ hp)];exact he.at_,by rw [aL];omega,hN _ _ ⟨⟨_,rfl⟩,_,he.step hp⟩⟩⟩
  rintro σ Es ⟨⟨v,rfl⟩,Bx,Bt⟩
  refine ⟨by show 2≤sizeLine;decide,fun cL ZJ=>?_⟩
  obtain ⟨ScL,EcL⟩:=cD (o:=.lst [.ref D0,.ref D1]) ZJ
  generalize upd Es cL (.lst [.ref D0,.ref D1])=Hk at *
  refine ⟨by show 0≤sizeLine;decide,fun wN Tp=>?_⟩
  obtain ⟨Sa,Ea⟩:=cD (o:=.lst []) Tp
  generalize upd Hk wN (.lst [])=Ha at *
  refine ⟨by show 0≤sizeLine;decide,fun wO Tq=>?_⟩
  obtain ⟨Sb,Eb⟩:=cD (o:=.lst []) Tq
  generalize upd Ha wO (.lst [])=Hb at *
  refine ⟨by show 2≤sizeLine;decide,fun uo Tt=>?_⟩
  obtain ⟨Sc,Ec⟩:=cD (o:=.lst [.ref wN,.ref wO]) Tt
  generalize upd Hb uo (.lst [.ref wN,.ref wO])=Hc at *
  refine ⟨by show 2≤sizeLine;decide,fun AW Tu=>?_⟩
  obtain ⟨Sd,Ed⟩:=cD (o:=.lst [.int 0,.int 0]) Tu
  generalize upd Hc AW (.lst [.int 0,.int 0])=Hd at *
  have sm:∀ {G:Hp} {a:Addr} {o:HO},G a=some o→G a≠none:=fun {G a o} e z=>by rw [e] at z;cases z
  have XF:Hj Hk Hd [wN,wO,uo,AW]:=Hj.cons Sa Tp (sm Ea) (Hj.cons Sb Tq (sm Eb) (Hj.cons Sc Tt (sm Ec) (Hj.cons Sd Tu (sm Ed) Hj.nil)))
  have va:Hd wN=some (.lst []):=(Sb.trans (Sc.trans Sd)) _ _ Ea
  have vb:Hd wO=some (.lst []):=(Sc.trans Sd) _ _ Eb
  have vc:Hd uo=some (.lst [.ref wN,.ref wO]):=Sd _ _ Ec
  have ZK:=XF.nd
  simp only [List.nodup_cons,List.mem_cons,List.not_mem_nil,or_false,not_or,List.nodup_nil,and_true,not_false_eq_true] at ZK
  obtain ⟨⟨g1,g2,g3⟩,⟨g4,g5⟩,g6⟩:=ZK
  obtain ⟨B,ρ,V2,Km,XG,XH,ZL⟩:=QB (C:=t.LinkEnd) (q:=(late:Int)+(lost:Int)) (os:=[wN,wO,AW]) (s4.trans s5) U0 Ta z3 (bK ⟨_,Mn⟩ ⟨_,Fm⟩) SeL ZH EeL Hl Bt ScL ZJ EcL XF (fun a ha=>by
    simp only [List.mem_cons,List.not_mem_nil,or_false] at ha ⊢
    rcases ha with h | h | h <;> simp [h]) (fun a ha=>by
    simp only [List.mem_cons,List.not_mem_nil,or_false] at ha
    rcases ha with rfl | rfl | rfl
    ·exact ⟨_,va,dU _⟩
    ·exact ⟨_,vb,dU _⟩
    ·exact ⟨_,Ed,dU _⟩)
  have fx0:wL K B sc ma my pl eL cL uo ns late lost (aU m0 m1) (aU nX nY) (aU Bz B6) (aU x0 x1) (aU D0 D1) (aU wN wO):=by
   refine ⟨?_,Km _ _ e3,Km _ _ W8,Km _ _ Epl,bK ?_ ?_,XG,XH,ZL uo _ (by simp) (by simp only [List.mem_cons,List.not_mem_nil,or_false,not_or];exact ⟨Ne.symm g2,Ne.symm g4,g6⟩) vc⟩
   ·have h3:=s03.seq hS
    rcases h3 with (h3 | ⟨u,h3⟩) | h3
    ·exact .inl (.inl (Km _ _ h3))
    ·exact .inl (.inr ⟨u,Km _ _ h3⟩)
    ·exact .inr h3
   ·obtain ⟨df,k1,k2⟩:=W9;exact ⟨df,Km _ _ k1,fun y xs hy=>Km _ _ (k2 y xs hy)⟩
   ·obtain ⟨df,k1,k2⟩:=XA;exact ⟨df,Km _ _ k1,fun y xs hy=>Km _ _ (k2 y xs hy)⟩
  have ap:∀ s,s < 2→∀ xs ∈ aU nX nY s,xX xs:=bK ap0 ap1
  have AS:∀ s,s < 2→∀ xs ∈ aU nX nY s,xs≠[]:=fun s hs xs hx z=>by have:=(ap s hs xs hx).1.1;rw [z] at this;exact absurd this (by decide)
  have qc:((late+lost:Nat):Int)=(late:Int)+(lost:Int):=by omega
  have a0:=wH.start (q:=late+lost) (pL:=aU nX nY) rfl ZD
  rw [qc] at a0
  have Um:aU wN wO 0≠aU wN wO 1:=g1
  have ZM:∀ s,s < 2→aU wN wO s≠AW:=bK g3 g5
  have QH:∀ s,s < 2→(aU nX nY s).length≤mm:=bK (by show nX.length≤mm;omega) (by show nY.length≤mm;omega)
  clear XF Km z3 Ta U0 ZL
  refine ⟨_,rfl,(tk:Int),rfl,by omega,by omega,?_⟩
  rw [Int.toNat_natCast]
  refine e8 (lo:=0) (n:=tk) (fun T σ H'=>∃ (B E:Hp) (tA pA:Nat→Addr) (L:Nat→Lk) (rows:Nat→Nat→List Rw) (ρ:Addr→Nat) (run:Nat→Nat) (G:Gh) (ko:Nat→Nat) (v11 XI Kn Ko Kp Kq:Option V),σ=[some (.ref sc),some (.ref nl),some (.ref ma),some (.int ((late:Int)+(lost:Int))),some (.ref my),some (.int (tk:Int)),some (.ref pl),some (.ref eL),some (.ref cL),some (.ref uo),some (.ref AW),v11,XI,Kn,Ko,Kp,Kq]∧wL K B sc ma my pl eL cL uo ns late lost (aU m0 m1) (aU nX nY) (aU Bz B6) (aU x0 x1) (aU D0 D1) (aU wN wO)∧Sx Fh t.LinkEnd B H' E (tk+7) (aU x0 x1) tA pA (aU D0 D1) (aU Bw Bx) L rows ρ∧E AW=some (.lst [.int (run 0:Int),.int (run 1:Int)])∧(∀ s,s < 2→eH B E (aU wN wO s) ((aU nX nY (1 - s)).take (ko s)))∧(∀ s,s < 2→ko s≤(aU nX nY (1 - s)).length∧(T≤3 * (late+lost)→ko s=0))∧wH (late+lost) late lost (aU nX nY) L rows run (fun _=>T) G ko (decide (3 * (late+lost) < T))∧(3 * (late+lost) < T→∀ s,s < 2→(L s).ev=[])∧∀ s j,(rows s j).length≤3 * T)
   ⟨B,N7 [wN,wO,AW] Hd,_,_,_,_,ρ,fun _=>0,_,fun _=>0,none,none,none,none,none,none,rfl,fx0,V2,by rw [wJ (by simp)];exact Ed,bK ⟨fun _=>0,by show N7 [wN,wO,AW] Hd wN=_;rw [wJ (by simp)];exact va,fun y xs hy=>(by cases hy)⟩ ⟨fun _=>0,by show N7 [wN,wO,AW] Hd wO=_;rw [wJ (by simp)];exact vb,fun y xs hy=>(by cases hy)⟩,fun _ _=>⟨Nat.zero_le _,fun _=>rfl⟩,by rw [decide_eq_false (by omega)];exact a0,fun z=>absurd z (Nat.not_lt_zero _),fun s j=>Nat.le_refl _⟩ ?_ ?_
  ·rintro T σ XJ hT ⟨B,E,tA,pA,L,rows,ρ,run,G,ko,v11,XI,Kn,Ko,Kp,Kq,rfl,fx,st,Kr,AA,Mo,ab,DX,rl⟩
   rw [show (0:Int)+(T:Nat)=(T:Int) by omega]
   have Ex:=st.sb.seq fx.sc
   have mx0:0 < (if ((ns.map V.int).length:Int) > 1 then ((ns.map V.int).length:Int) else 1):=by split <;> omega
   refine ⟨_,rfl,_,rfl,_,rfl,sc,_,rfl,.inl Ex,_,_,rfl,_,_,rfl,rfl,mx0,_,_,rfl,rfl,sc,ns,_,rfl,Ex,?_,fun c2=>?_⟩
   ·have:=Int.emod_nonneg (T:Int) (show (if ((ns.map V.int).length:Int) > 1 then ((ns.map V.int).length:Int) else 1)≠0 by omega)
    show 0≤1+(T:Int) % (if ((ns.map V.int).length:Int) > 1 then ((ns.map V.int).length:Int) else 1)
    omega
   refine ⟨_,rfl,_,_,rfl,rfl,?_⟩
   refine ⟨2,rfl,by decide,by decide,?_⟩
   refine e8 (lo:=0) (n:=2) (fun sd σ H'=>∃ (B E:Hp) (tA pA:Nat→Addr) (L:Nat→Lk) (rows:Nat→Nat→List Rw) (ρ:Addr→Nat) (run:Nat→Nat) (G:Gh) (ko:Nat→Nat) (Kn Ko Kp Kq:Option V),σ=[some (.ref sc),some (.ref nl),some (.ref ma),some (.int ((late:Int)+(lost:Int))),some (.ref my),some (.int (tk:Int)),some (.ref pl),some (.ref eL),some (.ref cL),some (.ref uo),some (.ref AW),some (.int (T:Int)),some (.int (c2+(T:Int))),Kn,Ko,Kp,Kq]∧wL K B sc ma my pl eL cL uo ns late lost (aU m0 m1) (aU nX nY) (aU Bz B6) (aU x0 x1) (aU D0 D1) (aU wN wO)∧Sx Fh t.LinkEnd B H' E (tk+7) (aU x0 x1) tA pA (aU D0 D1) (aU Bw Bx) L rows ρ∧E AW=some (.lst [.int (run 0:Int),.int (run 1:Int)])∧(∀ s,s < 2→eH B E (aU wN wO s) ((aU nX nY (1 - s)).take (ko s)))∧(∀ s,s < 2→ko s≤(aU nX nY (1 - s)).length∧(T≤3 * (late+lost)→ko s=0))∧wH (late+lost) late lost (aU nX nY) L rows run (fun s=>if s < sd then T+1 else T) G ko (decide (3 * (late+lost) < T))∧(3 * (late+lost) < T→∀ s,s < 2→sd≤s→(L s).ev=[])∧∀ s j,(rows s j).length≤3 * T+(if s=1∧0 < sd∨s=0∧1 < sd then 3 else 0))
    ?_ ?_ ?_
   ·refine ⟨B,E,tA,pA,L,rows,ρ,run,G,ko,Kn,Ko,Kp,Kq,rfl,fx,st,Kr,AA,Mo,?_,fun z s hs _=>DX z s hs,fun s j=>?_⟩
    ·rw [show (fun s=>if s < 0 then T+1 else T)=fun _=>T from funext fun s=>if_neg (Nat.not_lt_zero _)];exact ab
    ·have:=rl s j;omega
   ·rintro sd σ ZN gm ⟨B,E,tA,pA,L,rows,ρ,run,G,ko,Kn,Ko,Kp,Kq,rfl,fx,st,Kr,AA,Mo,ab,DX,rl⟩
    rw [show (0:Int)+(sd:Nat)=(sd:Int) by omega]
    obtain ⟨Dn,U4⟩:∃ Dn:Nat→Nat,Dn=(fun s=>if s < sd then T+1 else T):=⟨_,rfl⟩
    rw [← U4] at ab
    have U5:Dn sd=T:=by rw [U4];exact if_neg (by omega)
    have hDo:T≤Dn (1 - sd):=by rw [U4];show T≤if 1 - sd < sd then T+1 else T;split <;> omega
    have QI:=ab.sq sd gm
    rw [U5] at QI
    have ZO:T < tk+7:=by omega
    have zp:1 - sd < 2:=by omega
    have Bl:(1:Int) - (sd:Int)=((1 - sd:Nat):Int):=by omega
    have cg:=st.cg sd gm
    obtain ⟨Fd,r1,r2⟩:=(cg.at_ T ZO).at_
    have Qp:∀ s j,(rows s j).length≤900:=fun s j=>by have:=rl s j;split at this <;> omega
    obtain ⟨XM,_,XN,_⟩:=(st.lk sd gm).at_
    refine ⟨_,rfl,_,rfl,eL,_,_,_,rfl,rfl,aY.of (st.sb _ _ fx.eL),jr gm,aU x0 x1 sd,XM,_,rfl,XN,rfl,_,rfl,_,rfl,cL,_,_,_,rfl,rfl,aY.of (st.sb _ _ fx.cL),jr gm,_,rfl,aU D0 D1 sd,_,_,_,rfl,rfl,aY.of (st.sb _ _ cg.dl),k9 (ba ZO),aU Bw Bx sd T,rfl,⟨_,aY.of r1⟩,fun Dh ZP=>?_⟩
    refine uZ (K:=K) (a:=aU Bw Bx sd T) (xs:=bW (rows sd T).length Fd) (fun i σ H'=>(∃ v,σ=[v])∧aI ZN H'∧∃ QJ:Nat→Addr,H' Dh=some (.lst (bW i QJ))∧∀ (y:Nat) (r:Rw),y < i→(rows sd T)[y]?=some r→B (QJ y)=some (.lst (tabI 24 r.f)))
     ⟨⟨none,rfl⟩,(aI.refl _).new ZP,fun _=>0,aB,fun y r hy=>absurd hy (Nat.not_lt_zero _)⟩ (fun i σ H' _ p=>aY.of (p.2.1 _ _ r1)) ?_ ?_
    ·rintro i v σ H' N hN hi ⟨⟨v0,rfl⟩,s1,QJ,w1,w2⟩
     obtain ⟨MO,rfl⟩:=tab_of hi
     have e:(rows sd T)[i]?=some (rows sd T)[i]:=by simp [MO]
     have aBN:=Qp sd T
     generalize (rows sd T)[i]=rr at e
     obtain ⟨c,v3,k1,k2,_⟩:=r2 i rr e
     refine dX ?_
     refine ⟨_,rfl,Fd i,_,_,_,rfl,rfl,cP.of (s1 _ _ (st.sb _ _ k1)),rfl,_,w1,by rw [aL];omega,hN _ _ ⟨⟨_,rfl⟩,s1.put ZP,fun y=>if y=i then c else QJ y,by rw [aB,dF],fun y r hy oo=>?_⟩⟩
     by_cases z:y=i
     ·rw [z,e] at oo
      cases oo
      simp only [z,if_true]
      exact k2
     ·simp only [z,if_false]
      exact w2 y r (by omega) oo
    rintro σ Tv ⟨⟨v0,rfl⟩,s16,QJ,ZQ,ZR⟩
    rw [aL] at ZQ ZR
    have B8:=st.same ij s16
    have Tw:=B8.lk sd gm
    have inc:YK Tv Dh QJ ((rows sd T).map Pz):=by
     refine ⟨by rw [List.length_map];exact ZQ,fun j cm hj=>?_⟩
     rw [List.getElem?_map] at hj
     cases e:(rows sd T)[j]? with
     | none=>rw [e] at hj;cases hj
     | some rr =>
      rw [e] at hj
      cases hj
      obtain ⟨_,_,_,_,_,gg⟩:=r2 j rr e
      exact ⟨B8.sb _ _ (ZR j rr (List.getElem?_eq_some_iff.mp e).1 e),gg.c,gg.m⟩
    have aBP:(L sd).b≤(T:Int)+1:=QI.b1
    have XO:0≤(L sd).b:=QI.b0
    have cn:rY (L sd):=⟨QI.ok.k,QI.ok.o,QI.ok.t,QI.ok.p⟩
    have aBQ:(L sd).ev.length≤1:=by
     by_cases z:3 * (late+lost) < T
     ·rw [DX z sd gm (Nat.le_refl _)];exact Nat.zero_le _
     ·rcases ((ab.p1 (decide_eq_false z)).2 sd gm).2 with ⟨_,y⟩ | ⟨_,_,y⟩
      ·rw [y];exact Nat.zero_le _
      ·rw [y];exact Nat.le_refl _
    have MP:∀ x ∈ aN (rows sd T),AU x.b:=fun x hx=>by
     obtain ⟨row,q1,_,rfl⟩:=ik hx
     obtain ⟨j,hj⟩:=List.mem_iff_getElem?.mp q1
     obtain ⟨_,_,_,_,_,gg⟩:=r2 j row hj
     exact gg.g.b
    refine ⟨B,aU x0 x1 sd,tA sd,pA sd,Dh,QJ,L sd,(rows sd T).map Pz,rfl,Tw,inc,by rw [List.length_map];have:=Qp sd T;omega,by omega,XO,by omega,cn,fun ZS H18 pB p mv Tx np bp WX ep=>?_⟩
    rw [Jk] at Tx ep
    obtain ⟨ρ18,J6,_⟩:=B8.Uu ij gm mv Tx
    obtain ⟨J6,XQ⟩:=J6.N4 ij ep bp (fun s hs=>⟨fun z=>(B8.lk s hs).hx (by rw [← z];exact np),fun z=>by
     by_cases y:s=sd
     ·rw [y,aJ] at z;exact Tw.ht (by rw [← z];exact np)
     ·rw [aT y] at z;exact (B8.lk s hs).ht (by rw [← z];exact np),fun z=>by
     by_cases y:s=sd
     ·rw [y,aJ] at z;exact WX z
     ·rw [aT y] at z;exact (B8.lk s hs).hp (by rw [← z];exact np)⟩) (fun s hs j hj z=>((B8.cg s hs).at_ j hj).val (by rw [← z];exact np)) (Classical.byContradiction fun z=>B8.he z np)
    have XR:(upd ZS p (.lst (tabI 24 (a8 (bz (bL (L sd) (aN (rows sd T)))))))) p=some (.lst (tabI 24 (a8 (bz (bL (L sd) (aN (rows sd T))))))):=aB
    have Tz:=mv.bb.trans XQ
    generalize upd ZS p (.lst (tabI 24 (a8 (bz (bL (L sd) (aN (rows sd T)))))))=ZT at *
    have T2:=fx.same Tz
    have XS:=J6.ee _ _ Kr
    have TR:run sd≤lost:=ab.wx.rn sd gm
    refine ⟨_,rfl,_,rfl,_,_,rfl,rfl,.inl ⟨by decide,by decide⟩,_,_,rfl,rfl,_,rfl,_,rfl,AW,_,_,_,rfl,rfl,aY.of XS,MX (f:=fun s=>(run s:Int)) gm,_,rfl,?_⟩
    refine ⟨_,run sd,late,lost,ma,rfl,cP.of (J6.sb _ _ T2.ma),ZD,TR,fun r fB ZU fs run' s19 er hF gF hf oo=>?_⟩
    have J7:=J6.same ij s19
    have hFB:ou K (nP ZT ZU) fB fs:=hF.lift
    have XU:=gC J7.sb
    have J7:=J7.Nz ij
    have T3:=T2.same XU
    have T4:=XU _ _ XR
    have XW:=Tz.trans XU
    generalize nP ZT ZU=B20 at *
    have T5:=J7.ee _ _ Kr
    refine ⟨r,_,rfl,cP.of er,rfl,_,_,rfl,_,_,rfl,_,rfl,_,rfl,AW,_,_,sd,rfl,rfl,T5,QD gm,rfl,?_⟩
    obtain ⟨ρ20,B9⟩:=J7.put ij (a:=AW) (o:=.lst ([V.int (run 0:Int),V.int (run 1:Int)].set sd (.int (run':Int)))) (by rw [Kr];exact fun z=>by cases z) (dU _)
    rw [Mj gm] at B9 ⊢
    obtain ⟨G',XX⟩:=ab.step (fs:=fs) (r':=run') gm (by rw [U5];exact hDo) (by omega) (by rw [U5];exact MP) gF hf oo AS
    rw [U5] at XX
    obtain ⟨k1,k2,k3⟩:=XX.at_ gm
    rw [aJ] at k3
    have T6:FX (bL (L sd) (aN (rows sd T))):=k1.give ⟨k2,by omega⟩
    refine ⟨_,rfl,_,rfl,_,_,rfl,rfl,cL,_,_,_,rfl,rfl,aY.of (B9.sb _ _ T3.cL),by rw [Bl];exact jr zp,_,rfl,_,rfl,_,rfl,?_⟩
    refine ⟨B20,aU D0 D1 (1 - sd),p,fB,T,.bq,aU Bw Bx (1 - sd),tk+7,rows (1 - sd),bz (bL (L sd) (aN (rows sd T))),fs,(late:Int),rfl,B9.sb,B9.cg (1 - sd) zp,B9.sb _ _ T4,T6,rfl,hFB.same B9.sb,gF,by omega,by omega,fun j hj=>?_,fun j hj z=>?_,fun B5 H27 gv cg2=>?_⟩
    ·have:=Qp (1 - sd) j;omega
    ·have:=((B9.cg (1 - sd) zp).at_ j hj).no
     rw [← z,T4] at this;cases this
    have XY:=B9.gv ij zp gv cg2
    have bb5:=XW.trans gv.bb
    refine ⟨B5,_,_,_,at2 L sd (bL (L sd) (aN (rows sd T))),at2 rows (1 - sd) (fE (rows (1 - sd)) T (bz (bL (L sd) (aN (rows sd T)))) fs),ρ20,at2 run sd run',G',ko,_,_,_,_,rfl,T3.same gv.bb,XY,aB,fun s hs=>?_,Mo,?_,fun z s hs hle=>?_,fun s j=>?_⟩
    ·exact (AA s hs).same bb5 fun o e=>by rw [aE (ZM s hs)];exact e
    ·have eD:at2 Dn sd (T+1)=fun s=>if s < sd+1 then T+1 else T:=funext fun s=>by
      by_cases z:s=sd
      ·rw [z,aJ,if_pos (by omega)]
      ·rw [aT z,U4]
       show (if s < sd then T+1 else T)=_
       by_cases y:s < sd
       ·rw [if_pos y,if_pos (by omega)]
       ·rw [if_neg y,if_neg (by omega)]
     rw [← eD];exact XX
    ·rw [aT (by omega)];exact DX z s hs (by omega)
    ·by_cases z:s=1 - sd
     ·rw [z,aJ]
      have h1:=Bo (rows:=rows (1 - sd)) (tick:=T) (b:=bz (bL (L sd) (aN (rows sd T)))) fs j
      have h2:=gF.len
      have h3:=rl (1 - sd) j
      rw [if_neg (by omega)] at h3
      rw [if_pos (by omega)]
      omega
     ·rw [aT z]
      have h3:=rl s j
      split at h3 <;> split <;> omega
   ·rintro σ ZN ⟨B,E,tA,pA,L,rows,ρ,run,G,ko,Kn,Ko,Kp,Kq,rfl,fx,st,Kr,AA,Mo,ab,DX,rl⟩
    replace ab:=ab.Me (D':=fun _=>T+1) (fun s hs=>(if_pos hs).symm)
    have XZ:∀ s j,(rows s j).length≤3 * (T+1):=fun s j=>by
     have:=rl s j
     split at this <;> omega
    refine ⟨_,rfl,_,rfl,_,_,rfl,rfl,.inl ⟨by decide,by decide⟩,rfl,_,rfl,?_⟩
    by_cases ZV:T=3 * (late+lost)
    ·refine fk (by show V.int (T:Int)=V.int (3 * ((late:Int)+(lost:Int)));rw [ZV];congr 1) ?_
     rw [decide_eq_false (by omega)] at ab
     obtain ⟨_,hup⟩:=ab.N6 (fun s hs=>by show T+1=_;omega)
     have ZW:=ab.put (fun s hs=>by show T+1=_;omega) ap
     generalize mf (mf G 0 (1,1) (aU nX nY 0)) 1 (1,1) (aU nX nY 1)=GP at ZW
     refine ⟨2,rfl,by decide,by decide,?_⟩
     refine e8 (lo:=0) (n:=2) (fun sd σ H'=>∃ (B':Hp) (Fl:Nat→Addr) (ρ':Addr→Nat) (L':Nat→Lk) (DY Mp Mq QK:Option V),σ=[some (.ref sc),some (.ref nl),some (.ref ma),some (.int ((late:Int)+(lost:Int))),some (.ref my),some (.int (tk:Int)),some (.ref pl),some (.ref eL),some (.ref cL),some (.ref uo),some (.ref AW),some (.int (T:Int)),some (.int (c2+(T:Int))),DY,Mp,Mq,QK]∧aI B B'∧Sx Fh t.LinkEnd B' H' E (tk+7) (aU x0 x1) Fl pA (aU D0 D1) (aU Bw Bx) L' rows ρ'∧(∀ s,s < 2→L' s=if s < sd then { L s with ev:=[],bE:=aU nX nY s } else L s))
      ⟨B,tA,ρ,L,Kn,Ko,Kp,Kq,rfl,aI.refl _,st,fun s hs=>(if_neg (Nat.not_lt_zero _)).symm⟩ ?_ ?_
     ·rintro sd σ Tv gm ⟨B',Fl,ρ',L',DY,Mp,Mq,QK,rfl,T8,uJ,Mr⟩
      rw [show (0:Int)+(sd:Nat)=(sd:Int) by omega]
      have HC:=fx.same T8
      have Ms:=Mr sd gm
      rw [if_neg (by omega)] at Ms
      obtain ⟨u1,u2,u3⟩:=hup sd gm
      have ZX:=uJ.lk sd gm
      obtain ⟨RN,_,hx',_⟩:=ZX.at_
      refine ⟨_,rfl,_,rfl,eL,_,_,_,rfl,rfl,aY.of (uJ.sb _ _ HC.eL),jr gm,aU x0 x1 sd,RN,_,rfl,hx',rfl,B',aU x0 x1 sd,Fl sd,pA sd,L' sd,rfl,ZX,fun H17 tB mv TV Fm TX=>?_⟩
      obtain ⟨B1,ρ1,DP,P8,jK,P9,Uw⟩:=uJ.Yo gm mv TV Fm TX
      rw [Ms,u2] at P9 Uw
      obtain ⟨pu,w1,w2⟩:=Uw 0 _ rfl
      refine ⟨by show 2≤sizeLine;decide,fun b1 Ki=>⟨by show 2≤sizeLine;decide,fun b2 Cc=>⟨by show 1≤sizeLine;decide,fun b3 Qq=>?_⟩⟩⟩
      obtain ⟨SA,EA⟩:=cD (o:=.tup [.int 1,.int 1]) Ki
      obtain ⟨SB,EB⟩:=cD (o:=.tup [.str "up",.ref b1]) Cc
      obtain ⟨SC,EC⟩:=cD (o:=.lst [.ref b2]) Qq
      have EA:=SC _ _ (SB _ _ EA)
      have EB:=SC _ _ EB
      have mZ:=P8.same ij (SA.trans (SB.trans SC))
      clear SA SB SC Ki Cc Qq
      refine ⟨_,b3,_,_,rfl,rfl,aY.of (mZ.sb _ _ P9),aY.of EC,.inl ⟨rfl,fun j u v hu hv=>?_,?_⟩⟩
      ·match j,hu,hv with
       | 0,hu,hv=>cases hu;cases hv;exact Mg (mZ.sb _ _ w1) (mZ.sb _ _ w2) EB EA
       | j+1,hu,hv=>cases hv
      refine ⟨_,rfl,gu ?_⟩
      have Xa:=mZ.lk sd gm
      rw [aJ,aJ] at Xa
      obtain ⟨dx2,_,O3,_⟩:=Xa.at_
      refine ⟨_,rfl,_,rfl,eL,_,_,_,rfl,rfl,aY.of (mZ.sb _ _ (DP _ _ HC.eL)),jr gm,aU x0 x1 sd,dx2,_,rfl,O3,rfl,B1,aU x0 x1 sd,_,_,_,rfl,Xa,fun pv Xb=>?_⟩
      refine ⟨by show 2≤sizeLine;decide,fun b4 Wk=>?_⟩
      obtain ⟨SD,ED⟩:=cD (o:=.tup [.int 1,.int 1]) Wk
      have Xb:rA B1 pv (some (1,1)):=by rw [← u1,← Ms];exact Xb
      have Hz:=mZ.same ij SD
      refine Jz (p:=some (1,1)) (Xb.mono Hz.sb) ⟨b4,rfl,ED⟩ ?_
      refine ⟨_,rfl,gu ?_⟩
      obtain ⟨ZY,ZZ,pp2⟩:=HC.pa sd gm
      have e0:({ L sd with ev:=[],bE:=(aU nX nY sd).take 0 }:Lk)={ L sd with ev:=[] }:=by rw [List.take_zero,← u3]
      have Hz:=Hz.re (L':=at2 L' sd { L sd with ev:=[],bE:=(aU nX nY sd).take 0 }) (fun s hs=>by
       by_cases z:s=sd
       ·rw [z,aJ,aJ,Ms,e0]
       ·rw [aT z,aT z])
      refine ⟨_,rfl,_,rfl,pl,_,_,_,rfl,rfl,aY.of (Hz.sb _ _ (DP _ _ HC.pl)),jr gm,aU Bz B6 sd,rfl,⟨_,aY.of (Hz.sb _ _ (DP _ _ ZZ))⟩,iT (K:=K) (a:=aU Bz B6 sd) (xs:=bW (aU nX nY sd).length ZY) (fun i σ H'=>∃ (B2:Hp) (ρ2:Addr→Nat) (Xc:Option V),σ=[some (.ref sc),some (.ref nl),some (.ref ma),some (.int ((late:Int)+(lost:Int))),some (.ref my),some (.int (tk:Int)),some (.ref pl),some (.ref eL),some (.ref cL),some (.ref uo),some (.ref AW),some (.int (T:Int)),some (.int (c2+(T:Int))),some (.int (sd:Int)),Mp,Mq,Xc]∧aI B1 B2∧Sx Fh t.LinkEnd B2 H' E (tk+7) (aU x0 x1) (at2 Fl sd tB) pA (aU D0 D1) (aU Bw Bx) (at2 L' sd { L sd with ev:=[],bE:=(aU nX nY sd).take i }) rows ρ2)
       ⟨B1,ρ1,_,rfl,aI.refl _,Hz⟩ (fun i σ H' _ ⟨_,_,_,_,s2,s4⟩=>aY.of (s4.sb _ _ (s2 _ _ (DP _ _ ZZ)))) ?_ ?_⟩
      ·rintro i v σ H2 hi ⟨B2,ρ2,Xc,rfl,T9,Kf⟩
       obtain ⟨MO,rfl⟩:=tab_of hi
       obtain ⟨xs,N5⟩:∃ xs,(aU nX nY sd)[i]?=some xs:=⟨_,List.getElem?_eq_getElem MO⟩
       have Za:=ap sd gm xs (List.mem_of_getElem? N5)
       have Xd:=Kf.lk sd gm
       have e4:at2 L' sd { L sd with ev:=[],bE:=(aU nX nY sd).take i } sd={ L sd with ev:=[],bE:=(aU nX nY sd).take i }:=aJ
       rw [e4] at Xd
       obtain ⟨Nr,_,Nt,_⟩:=Xd.at_
       have WU:=QH sd gm
       refine ⟨_,rfl,_,rfl,eL,_,_,_,rfl,rfl,aY.of (Kf.sb _ _ (T9 _ _ (DP _ _ HC.eL))),jr gm,aU x0 x1 sd,Nr,_,rfl,Nt,rfl,_,rfl,B2,aU x0 x1 sd,_,_,ZY i,_,xs,rfl,Xd,?_,aY.of (Kf.sb _ _ (T9 _ _ (DP _ _ (pp2 i xs N5)))),fun v hv=>?_,fun z=>absurd (u1.symm.trans z) (fun z=>by cases z),fun _ z=>absurd Za z,fun _ _ B5 H5 mv lk5=>?_⟩
       ·show ((aU nX nY sd).take i).length < 1000000
        rw [List.length_take];omega
       ·obtain ⟨v0,v97⟩:=Za.2 v hv
        exact Nat.lt_of_lt_of_le (show v.natAbs < 97 by omega) (by decide)
       obtain ⟨ρ5,K2,_⟩:=Kf.Uu ij gm mv lk5
       rw [wB,wB,Fi] at K2
       exact ⟨B5,ρ5,_,rfl,T9.trans mv.bb,by rw [← yn N5];exact K2⟩
      ·rintro σ H2 ⟨B2,ρ2,Xc,rfl,T9,Kf⟩
       rw [aL,List.take_length] at Kf
       refine ⟨B2,_,ρ2,_,_,_,_,_,rfl,T8.trans (DP.trans T9),Kf,fun s hs=>?_⟩
       by_cases z:s=sd
       ·rw [z,aJ,if_pos (by omega)]
       ·rw [aT z,Mr s hs]
        by_cases y:s < sd
        ·rw [if_pos y,if_pos (by omega)]
        ·rw [if_neg y,if_neg (by omega)]
     ·rintro σ Tv ⟨B',Fl,ρ',L',DY,Mp,Mq,QK,rfl,T8,uJ,Mr⟩
      have mZ:=uJ.re (L':=putL L (aU nX nY)) (fun s hs=>by rw [Mr s hs,if_pos hs,rQ L _ s hs])
      refine ⟨B',E,Fl,pA,putL L (aU nX nY),rows,ρ',run,GP,fun _=>0,_,_,_,_,_,_,rfl,fx.same T8,mZ,Kr,fun s hs=>?_,fun s hs=>⟨Nat.zero_le _,fun _=>rfl⟩,?_,fun _ s hs=>by rw [rQ L _ s hs],XZ⟩
      ·have:=(AA s hs).same T8 fun o e=>e
       rw [(Mo s hs).2 (by omega)] at this;exact this
      ·rw [decide_eq_true (by omega)];exact ZW
    ·refine fj (fun z=>ZV (by have:=V.int.inj z;omega)) ?_
     refine ⟨_,rfl,_,rfl,_,_,rfl,rfl,.inl ⟨by decide,by decide⟩,_,_,rfl,rfl,_,rfl,?_⟩
     by_cases hT4:3 * (late+lost) < T
     ·refine fk (by show (T:Int) > 3 * ((late:Int)+(lost:Int));omega) ?_
      rw [decide_eq_true hT4] at ab
      obtain ⟨_,_,p2⟩:=ab.p2 rfl
      refine ⟨2,rfl,by decide,by decide,?_⟩
      refine e8 (lo:=0) (n:=2) (fun sd σ H'=>∃ (B' E':Hp) (Fl:Nat→Addr) (ρ':Addr→Nat) (L':Nat→Lk) (DY:Option V),σ=[some (.ref sc),some (.ref nl),some (.ref ma),some (.int ((late:Int)+(lost:Int))),some (.ref my),some (.int (tk:Int)),some (.ref pl),some (.ref eL),some (.ref cL),some (.ref uo),some (.ref AW),some (.int (T:Int)),some (.int (c2+(T:Int))),DY,Ko,Kp,Kq]∧wL K B' sc ma my pl eL cL uo ns late lost (aU m0 m1) (aU nX nY) (aU Bz B6) (aU x0 x1) (aU D0 D1) (aU wN wO)∧Sx Fh t.LinkEnd B' H' E' (tk+7) (aU x0 x1) Fl pA (aU D0 D1) (aU Bw Bx) L' rows ρ'∧(∀ s,s < 2→L' s=if s < sd then { L s with ev:=[] } else L s)∧E' AW=some (.lst [.int (run 0:Int),.int (run 1:Int)])∧∀ s,s < 2→eH B' E' (aU wN wO s) ((aU nX nY (1 - s)).take (if s < sd then G.K s (1,1) else ko s)))
       ⟨B,E,tA,ρ,L,Kn,rfl,fx,st,fun s hs=>(if_neg (Nat.not_lt_zero _)).symm,Kr,fun s hs=>by rw [if_neg (Nat.not_lt_zero _)];exact AA s hs⟩ ?_ ?_
      ·rintro sd σ Tv gm ⟨B',E',Fl,ρ',L',DY,rfl,HC,uJ,Mr,QL,Mt⟩
       rw [show (0:Int)+(sd:Nat)=(sd:Int) by omega]
       have zp:1 - sd < 2:=by omega
       have Bl:(1:Int) - (sd:Int)=((1 - sd:Nat):Int):=by omega
       have Ms:=Mr sd gm
       rw [if_neg (by omega)] at Ms
       obtain ⟨_,p3,p4⟩:=p2 sd gm
       have ht:=Mt sd gm
       rw [if_neg (by omega)] at ht
       have hl9:=QH (1 - sd) zp
       refine ⟨_,rfl,_,rfl,eL,_,_,_,rfl,rfl,aY.of (uJ.sb _ _ HC.eL),jr gm,_,rfl,_,rfl,uo,_,_,_,rfl,rfl,aY.of (uJ.sb _ _ HC.uo),jr gm,_,rfl,_,rfl,_,_,rfl,rfl,pl,_,_,_,rfl,rfl,aY.of (uJ.sb _ _ HC.pl),by rw [Bl];exact jr zp,?_⟩
       refine ⟨B',E',tk+7,aU x0 x1,Fl,pA,aU D0 D1,aU Bw Bx,L',rows,ρ',sd,aU wN wO sd,aU Bz B6 (1 - sd),aU nX nY (1 - sd),ko sd,rfl,gm,uJ,ht,HC.pa (1 - sd) zp,by omega,(Mo sd gm).1,by rw [Ms];exact p4,fun B2 H2 E2 tA2 ρ2 sB mZ xC f2=>⟨_,rfl,gu ?_⟩⟩
       refine ⟨B2,E2,tA2,ρ2,_,_,rfl,HC.same sB,mZ,fun s hs=>?_,f2 _ _ (Ne.symm (ZM sd gm)) QL,fun s hs=>?_⟩
       ·by_cases z:s=sd
        ·rw [z,aJ,Ms,if_pos (by omega)]
        ·rw [aT z,Mr s hs]
         by_cases y:s < sd
         ·rw [if_pos y,if_pos (by omega)]
         ·rw [if_neg y,if_neg (by omega)]
       ·by_cases z:s=sd
        ·rw [Ms,← p3] at xC
         rw [z,if_pos (by omega)];exact xC
        ·have h3:=Mt s hs
         have e3:(if s < sd+1 then G.K s (1,1) else ko s)=(if s < sd then G.K s (1,1) else ko s):=by
          by_cases y:s < sd
          ·rw [if_pos y,if_pos (by omega)]
          ·rw [if_neg y,if_neg (by omega)]
         rw [e3]
         exact h3.same sB fun o e=>f2 _ _ (fun w=>z (by
          match s,hs,sd,gm,w with
          | 0,_,0,_,_=>rfl
          | 1,_,1,_,_=>rfl
          | 0,_,1,_,w=>exact absurd w Um
          | 1,_,0,_,w=>exact absurd w.symm Um)) e
      ·rintro σ Tv ⟨B',E',Fl,ρ',L',DY,rfl,HC,uJ,Mr,QL,Mt⟩
       have mZ:=uJ.re (L':=eE L) (fun s hs=>by rw [Mr s hs,if_pos hs];rfl)
       refine ⟨B',E',Fl,pA,eE L,rows,ρ',run,G,fun s=>G.K s (1,1),_,_,_,_,_,_,rfl,HC,mZ,QL,fun s hs=>?_,fun s hs=>?_,?_,fun _ s hs=>rfl,XZ⟩
       ·have:=Mt s hs
        rw [if_pos hs] at this;exact this
       ·obtain ⟨_,hw,_⟩:=ab.p2 rfl
        have:=(ab.pc.rel (1 - s) (by omega) (1,1)).2.2
        rw [show 1 - (1 - s)=s by omega,hw (1 - s) (by omega)] at this;exact ⟨this,fun z=>absurd z (by omega)⟩
       ·rw [decide_eq_true (by omega)];exact ab.Ww
     ·refine fj (by show ¬ (T:Int) > 3 * ((late:Int)+(lost:Int));omega) ?_
      refine ⟨B,E,tA,pA,L,rows,ρ,run,G,ko,_,_,_,_,_,_,rfl,fx,st,Kr,AA,fun s hs=>⟨(Mo s hs).1,fun _=>(Mo s hs).2 (by omega)⟩,?_,fun z=>absurd z (by omega),XZ⟩
      rw [decide_eq_false (by omega)] at ab ⊢
      exact ab
  ·rintro σ XJ ⟨B,E,tA,pA,L,rows,ρ,run,G,ko,v11,XI,Kn,Ko,Kp,Kq,rfl,fx,st,Kr,AA,Mo,ab,DX,rl⟩
   refine ⟨_,rfl,_,_,rfl,rfl,.inl ⟨by decide,by decide⟩,_,rfl,my,[(m0:Int),(m1:Int)],rfl,aY.of (st.sb _ _ fx.my),by simp,fun M hM5 hM6=>?_⟩
   obtain rfl:M=(mm:Int):=Int.le_antisymm (W7 _ hM5) (hM6 _ ZE)
   refine ⟨_,_,rfl,rfl,.inr ⟨by omega,by omega⟩,_,_,rfl,rfl,_,_,rfl,rfl,_,rfl,?_⟩
   by_cases UA:2 * ((late:Int)+(lost:Int)) * (mm:Int)+1 > 240
   ·exact fk UA (q _)
   ·refine fj UA ?_
    have h0:(0:Int)≤2 * ((late:Int)+(lost:Int)) * (mm:Int):=Int.mul_nonneg (by omega) (by omega)
    have aCf:5 * ((late:Int)+(lost:Int))+(2 * ((late:Int)+(lost:Int)) * (mm:Int)+1)≤(tk:Int):=by
     rw [← VV]
     split <;> omega
    have Zb:((2 * (late+lost) * mm:Nat):Int)=2 * ((late:Int)+(lost:Int)) * (mm:Int):=by push_cast;rfl
    rw [decide_eq_true (show 3 * (late+lost) < tk by omega)] at ab
    have J8:=ab.done (m:=mm) QH (fun s hs=>by show 5 * (late+lost)+2 * (late+lost) * mm < tk;omega)
    have hK:∀ s,s < 2→G.K s (1,1)=(aU nX nY (1 - s)).length:=fun s hs=>by
     have:=(J8 (1 - s) (by omega)).1
     rw [show 1 - (1 - s)=s by omega] at this;exact this
    refine ⟨_,rfl,_,rfl,pl,_,_,_,rfl,rfl,aY.of (st.sb _ _ fx.pl),rfl,_,rfl,pl,_,_,_,rfl,rfl,aY.of (st.sb _ _ fx.pl),rfl,by show 2≤sizeLine;decide,fun l2 Pf=>?_⟩
    obtain ⟨S2,E2⟩:=cD (o:=.lst [.ref (aU Bz B6 1),.ref (aU Bz B6 0)]) Pf
    refine ⟨uo,l2,_,_,rfl,rfl,aY.of (S2 _ _ (st.sb _ _ fx.uo)),aY.of E2,.inl ⟨rfl,fun j u v hu hv=>?_,?_⟩⟩
    ·have Zc:∀ s,s < 2→eH B (upd XJ l2 (.lst [.ref (aU Bz B6 1),.ref (aU Bz B6 0)])) (aU wN wO s) (aU nX nY (1 - s)):=fun s hs=>by
      obtain ⟨_,_,p2⟩:=ab.p2 rfl
      have h1:=(p2 s hs).2.1
      have h2:=DX (show 3 * (late+lost) < tk by omega) s hs
      rw [h2,hK s hs] at h1
      have h1:(aU nX nY (1 - s)).length=ko s:=h1
      have h3:=(AA s hs).same (aI.refl _) fun o e=>S2 _ _ (st.ee _ _ e)
      rw [List.take_of_length_le (by omega)] at h3
      exact h3
     have SW:∀ s,s < 2→eH B (upd XJ l2 (.lst [.ref (aU Bz B6 1),.ref (aU Bz B6 0)])) (aU Bz B6 s) (aU nX nY s):=fun s hs=>(fx.pa s hs).same (aI.refl _) fun o e=>S2 _ _ (st.sb _ _ e)
     have Zd:=st.sb.trans S2
     match j,hu,hv with
     | 0,hu,hv =>
      cases hu;cases hv
      exact By Zd (Zc 0 (by decide)) (SW 1 (by decide))
     | 1,hu,hv =>
      cases hu;cases hv
      exact By Zd (Zc 1 (by decide)) (SW 0 (by decide))
     | j+2,hu,hv=>cases hv
    have mZ:=st.same ij S2
    have z4:=mZ.lk 0 (by decide)
    have Fm:=mZ.lk 1 (by decide)
    obtain ⟨y0,_,hy0,_⟩:=z4.at_
    obtain ⟨y1,_,hy1,_⟩:=Fm.at_
    have z0:(L 0).bE.length=0:=by rw [(J8 0 (by decide)).2];rfl
    have z1:(L 1).bE.length=0:=by rw [(J8 1 (by decide)).2];rfl
    refine ⟨_,rfl,gw ?_⟩
    refine ⟨_,rfl,eL,_,_,_,rfl,rfl,aY.of (mZ.sb _ _ fx.eL),rfl,aU x0 x1 0,y0,_,rfl,hy0,rfl,B,aU x0 x1 0,_,_,L 0,rfl,z4,?_⟩
    rw [z0]
    refine ⟨rfl,_,rfl,fk (by show V.int ((0:Nat):Int)=V.int 0;rfl) ?_⟩
    refine ⟨_,rfl,eL,_,_,_,rfl,rfl,aY.of (mZ.sb _ _ fx.eL),rfl,aU x0 x1 1,y1,_,rfl,hy1,rfl,B,aU x0 x1 1,_,_,L 1,rfl,Fm,?_⟩
    rw [z1]
    refine ⟨rfl,?_⟩
    exact q _
end
end K37
namespace K37
open PySem L2 PyProof.Rows
section
variable {P:Program} {w:World} {K:PySem.W.Frag} {mg:Str→Option Value} {base:Heap} {t:Ad}
theorem Mu {f:Addr} {fd:FuncData} (T:Txt K mg t) (F:jh K "law" "law" vU f fd) (tD:aR K mg "is_sign" oX) (nZ:aR K mg "look_sign" jS) (ng:aR K mg "look_unit" jT) (AB:aR K mg "power" uf) (tE:aR K mg "inverse" oY) (pZ:aR K mg "exponent" lH) (pb:aR K mg "equation" iV) (js:aR K mg "pivot_place" gc) (nh:aR K mg "exchanged" jU) (pd:aR K mg "lessened" iW) (tF:aR K mg "cleared" iN) (wQ:aR K mg "solved" kL) (lj:aR K mg "look_signs" iG) (ni:aR K mg "look_cell" jV) (pe:aR K mg "value_at" lI) (pf:aR K mg "troubles" iX) (nj:aR K mg "is_sealed" jW) (tG:aR K mg "carried" kM) (wR:aR K mg "sealed" mz) (nk:aR K mg "look_late" jX) (iq:aR K mg "look_measure" fK) (pj:aR K mg "quiet_of" lJ) (lq:aR K mg "lone_place" iH) (tH:aR K mg "is_root" oZ) (g9:aR K mg "turned_places" dC) (pq:aR K mg "turns_at" iY) (wU:aR K mg "mended" qo) (ir:aR K mg "number_signs" fL) (iu:aR K mg "signs_number" fM) (lr:aR K mg "look_piece" iI) (nq:aR K mg "_law_cell" jY) (iw:aR K mg "_law_numbers" fN) (jt:aR K mg "_law_turned" gd) (nu:aR K mg "_law_give" jZ) (lu:aR K mg "_law_fates" iJ) (ju:aR K mg "_law_pieces" eG) (nv:aR K mg "_law_went" ja):bV P w K mg base (iL P w) 13 f fd ["script"] (yP K):=by
 obtain ⟨U6,J9⟩:=T.fi
 obtain ⟨HD,rR⟩:=T.uO
 obtain ⟨U7,KA⟩:=T.PK
 obtain ⟨Ks,wV⟩:=T.zS
 obtain ⟨U8,KC⟩:=T.PL
 obtain ⟨U9,KD⟩:=T.PM
 obtain ⟨QM,CA⟩:=T.Gb
 obtain ⟨Qy,DZ⟩:=T.JL
 obtain ⟨Kt,wW⟩:=T.zT
 obtain ⟨Ku,wX⟩:=T.zU
 obtain ⟨Kv,wY⟩:=T.zV
 obtain ⟨Xe,Mv⟩:=T.SS
 obtain ⟨Ze,QN⟩:=T.WK
 obtain ⟨UB,HE⟩:=T.Lq
 obtain ⟨Qz,Dc⟩:=T.JM
 have f6:=C2 (P:=P) (w:=w) (base:=base) tD T
 have de:=xM lj T f6
 have nF:=zX ni T de
 have dR:=zZ nZ T f6
 have jb:=zb ng T dR
 have eM:=JO AB T dR
 have iP:=C4 tE T jb eM
 have pV:=BJ pZ T jb
 have pS:=BK (P:=P) (w:=w) (base:=base) pe T
 have f7:=BM pf T nF pS eM
 have nK:=ze nj T f7
 have sP:=C6 (P:=P) (w:=w) (base:=base) tG T
 have vy:=Gd wR T de sP
 have nG:=zk (P:=P) (w:=w) (base:=base) nk T
 have ib:=uP iq T nG
 have pX:=BP pj T ib
 have pU:=BR (P:=P) (w:=w) (base:=base) pb T
 have jl:=vk (P:=P) (w:=w) (base:=base) js T
 have nJ:=zl (P:=P) (w:=w) (base:=base) nh T
 have pT:=BU (P:=P) (w:=w) (base:=base) pd T
 have sR:=C7 tF T iP pT
 have kX:=Gf wQ T pU jl nJ sR
 have lQ:=xO lq T pV iP
 have sT:=DA (P:=P) (w:=w) (base:=base) tH T
 have g7:=sS g9 T kX lQ sT eM
 have pW:=BV pq T kX eM
 have vz:=Gg wU T f7 nK g7 pW
 obtain ⟨cH,cI⟩:=sV (P:=P) (w:=w) (base:=base) T rR
 obtain ⟨ka,kd⟩:=Gk T DZ cH cI
 obtain ⟨DG,DH⟩:=L9 T KD ka kd
 have fW:=uQ (P:=P) (w:=w) (base:=base) ir T
 have fV:=uR iu T dR
 obtain ⟨sZ,si⟩:=DF (P:=P) (w:=w) (base:=base) T CA
 obtain ⟨lV,lW⟩:=xR T wW ka kd
 obtain ⟨lR,lS⟩:=xS (P:=P) (w:=w) (base:=base) T wX
 obtain ⟨lT,lU⟩:=xU (P:=P) (w:=w) (base:=base) T wY
 obtain ⟨QF,QG⟩:=Sn (P:=P) (w:=w) (base:=base) T QN
 obtain ⟨uq,uu⟩:=JU (P:=P) (w:=w) (base:=base) T HE
 obtain ⟨kf,kg⟩:=Gp (P:=P) (w:=w) (base:=base) T Dc
 obtain ⟨DL,DM⟩:=MF T KC fV DG DH sZ si lR lS lT lU
 obtain ⟨lX,lY⟩:=xW T wV fW vy
 obtain ⟨DV,DW⟩:=MN T KA vz DL DM lV lW lX lY
 obtain ⟨z8,z9⟩:=MR T J9 pX cH cI
 have lZ:=xY lr T f6
 obtain ⟨J4,J5⟩:=Pp T Mv lZ
 have jq:=v9 (P:=P) (w:=w) (base:=base) jt T
 have nV:=zv ij nu T jq
 have cX:=uS (P:=P) (w:=w) (base:=base) iw T
 have je:=zx (P:=P) (w:=w) (base:=base) nq T
 have lh:=xZ lu T cX
 have gj:=wG (P:=P) (w:=w) (base:=base) ju T
 have nW:=zz nv T kf kg
 exact QE T F je cX lh gj nV nW z8 z9 DV DW kf kg QF QG uq uu J4 J5
end
end K37
namespace K37
open PySem L2 PyProof.Rows
theorem QO {K:PySem.W.Frag} {h:Heap} {mg:Str→Option Value} {dg b7 cy dh tI aX fX wZ bo kh cY ki kj fF gE cZ cb cj oq tJ iR gG:Addr} {uT AD uU AE xa rS xb xc AF xf AG Dd KE HF KG:Tok} {De:Option Addr} {Df Dg Di Dj Dk Dl:Tok} {HG:Nat} {Dm:Array (Option Value)} {ioc:Value} {iod ian:Option Addr} {Xf:Array (Option Value)} {ikV Xg ipm UC ict:Value} {tK:Value} {tL tM:Option Addr} {rT:Array (Option Value)} {tN rV tO jf tP:Value} {Mw:Value} {Mx Mz:Option Addr} {KH:Array (Option Value)} {M0 KI M3 CB M4:Value} {xg:Value} {xh xi:Option Addr} {wa:Array (Option Value)} {xj wb xk ny xl:Value} {M5:Value} {M6 M7:Option Addr} {KJ:Array (Option Value)} {M8 KL M9 CC NA:Value} {NB:Value} {NC ND:Option Addr} {KN:Array (Option Value)} {NF KO NG CD NH:Value} {Dp:Value} {Dq Dr:Option Addr} {CF:Array (Option Value)} {Ds CG Dt uI Du:Value} {HH:Value} {HI HJ:Option Addr} {Dw:Array (Option Value)} {HK Dx HL wc HM:Value} {xm:Value} {xn xo:Option Addr} {wd:Array (Option Value)} {xq wg xr n6 xu:Value} {xv:Value} {xw xx:Option Addr} {wj:Array (Option Value)} {xy wk x3 n8 x4:Value} {x5:Value} {x6 x8:Option Addr} {wm:Array (Option Value)} {x9 wo yA n9 yB:Value} {QP:Value} {QQ QR:Option Addr} {NI:Array (Option Value)} {QS NJ QT Fn QU:Value} {UD:Value} {UE UG:Option Addr} {QV:Array (Option Value)} {UH QW UI KP UJ:Value} {KQ:Value} {KR KS:Option Addr} {HN:Array (Option Value)} {KU HP KW yq KY:Value} {HQ:Value} {HR HS:Option Addr} {Dy:Array (Option Value)} {HU Dz HV wq HW:Value} (KX:K.In h) (G:h.Ns mainGlobals mg)
  (pw:PySem.W.nsIn K mainGlobals "BadCell"=some (some (.ref dg)))
  (jv:PySem.W.nsIn K mainGlobals "BadMeasure"=some (some (.ref b7)))
  (oA:PySem.W.nsIn K mainGlobals "BadPiece"=some (some (.ref cy)))
  (qA:PySem.W.nsIn K mainGlobals "BadSign"=some (some (.ref dh)))
  (qB:PySem.W.nsIn K mainGlobals "DIVISOR"=some (some (.ref tI)))
  (qC:PySem.W.nsIn K mainGlobals "LinkEnd"=some (some (.ref aX)))
  (tQ:PySem.W.nsIn K mainGlobals "NoLink"=some (some (.ref fX)))
  (iy:PySem.W.nsIn K mainGlobals "BIRTH_SIGNS"=some (some (.int 2 uT)))
  (oB:PySem.W.nsIn K mainGlobals "COUNT_AT"=some (some (.int 5 AD)))
  (iz:PySem.W.nsIn K mainGlobals "FREE_PLACES"=some (some (.int 18 uU)))
  (oC:PySem.W.nsIn K mainGlobals "KNOWN_AT"=some (some (.int 2 AE)))
  (lz:PySem.W.nsIn K mainGlobals "LENGTH_AT"=some (some (.int 6 xa)))
  (gH:PySem.W.nsIn K mainGlobals "LONGEST_PIECE"=some (some (.int 10 rS)))
  (l4:PySem.W.nsIn K mainGlobals "MOST_LATE"=some (some (.int 6 xb)))
  (l7:PySem.W.nsIn K mainGlobals "MOST_LOST"=some (some (.int 4 xc)))
  (oE:PySem.W.nsIn K mainGlobals "NO_BIRTH"=some (some (.int 0 AF)))
  (l8:PySem.W.nsIn K mainGlobals "NUMBER_AT"=some (some (.int 4 xf)))
  (oF:PySem.W.nsIn K mainGlobals "PIECE_AT"=some (some (.int 7 AG)))
  (tR:PySem.W.nsIn K mainGlobals "PLACES"=some (some (.int 24 Dd)))
  (AH:PySem.W.nsIn K mainGlobals "ROOT"=some (some (.int 5 KE)))
  (wu:PySem.W.nsIn K mainGlobals "SIGNS"=some (some (.int 97 HF)))
  (AI:PySem.W.nsIn K mainGlobals "SUMS"=some (some (.int 6 KG)))
  (AJ:PySem.W.nsIn K mainGlobals "int"=some none)
  (AK:PySem.W.nsIn K mainGlobals "len"=some none)
  (wy:PySem.W.nsIn K mainGlobals "list"=some none)
  (AL:PySem.W.nsIn K mainGlobals "max"=some none)
  (AM:PySem.W.nsIn K mainGlobals "min"=some none)
  (tS:PySem.W.nsIn K mainGlobals "range"=some none)
  (l9:PySem.W.nsIn K mainGlobals "reversed"=some none)
  (AN:PySem.W.nsIn K mainGlobals "zip"=some none)
  (qD:PySem.W.excIn K dg [.type "ValueError",.type "Exception",.type "BaseException",.type "object"] "ValueError.__new__"=true)
  (jw:PySem.W.findIn K (.ref dg) "__getattribute__"=some (some (.builtin "BaseException.__getattribute__")))
  (i0:PySem.W.findIn K (.ref dg) "__getattr__"=some none)
  (i6:PySem.W.findIn K (.ref dg) "__class__"=some (some (.builtin "object.__class__")))
  (i7:PySem.W.isClsIn K dg=true)
  (i8:PySem.W.mroIn K dg (.type "object")=some true)
  (hG:PySem.W.subIn K (.ref dg) (.type "BaseException")=some true)
  (jx:PySem.W.excIn K b7 [.type "ValueError",.type "Exception",.type "BaseException",.type "object"] "ValueError.__new__"=true)
  (gI:PySem.W.findIn K (.ref b7) "__getattribute__"=some (some (.builtin "BaseException.__getattribute__")))
  (fY:PySem.W.findIn K (.ref b7) "__getattr__"=some none)
  (fZ:PySem.W.findIn K (.ref b7) "__class__"=some (some (.builtin "object.__class__")))
  (fb:PySem.W.isClsIn K b7=true)
  (fc:PySem.W.mroIn K b7 (.type "object")=some true)
  (eR:PySem.W.subIn K (.ref b7) (.type "BaseException")=some true)
  (oG:PySem.W.excIn K cy [.type "ValueError",.type "Exception",.type "BaseException",.type "object"] "ValueError.__new__"=true)
  (i9:PySem.W.findIn K (.ref cy) "__getattribute__"=some (some (.builtin "BaseException.__getattribute__")))
  (hJ:PySem.W.findIn K (.ref cy) "__getattr__"=some none)
  (hU:PySem.W.findIn K (.ref cy) "__class__"=some (some (.builtin "object.__class__")))
  (hV:PySem.W.isClsIn K cy=true)
  (hX:PySem.W.mroIn K cy (.type "object")=some true)
  (gJ:PySem.W.subIn K (.ref cy) (.type "BaseException")=some true)
  (qE:PySem.W.excIn K dh [.type "ValueError",.type "Exception",.type "BaseException",.type "object"] "ValueError.__new__"=true)
  (jy:PySem.W.findIn K (.ref dh) "__getattribute__"=some (some (.builtin "BaseException.__getattribute__")))
  (jA:PySem.W.findIn K (.ref dh) "__getattr__"=some none)
  (jB:PySem.W.findIn K (.ref dh) "__class__"=some (some (.builtin "object.__class__")))
  (jC:PySem.W.isClsIn K dh=true)
  (jD:PySem.W.mroIn K dh (.type "object")=some true)
  (hZ:PySem.W.subIn K (.ref dh) (.type "BaseException")=some true)
  (tT:PySem.W.excIn K fX [.type "ValueError",.type "Exception",.type "BaseException",.type "object"] "ValueError.__new__"=true)
  (mB:PySem.W.findIn K (.ref fX) "__getattribute__"=some (some (.builtin "BaseException.__getattribute__")))
  (jz:PySem.W.findIn K (.ref fX) "__getattr__"=some none)
  (j0:PySem.W.findIn K (.ref fX) "__class__"=some (some (.builtin "object.__class__")))
  (j4:PySem.W.isClsIn K fX=true)
  (j5:PySem.W.mroIn K fX (.type "object")=some true)
  (jE:PySem.W.subIn K (.ref fX) (.type "BaseException")=some true)
  (qF:K.lookup tI=some ⟨.type "tuple",De,.seq #[.int (21) Df,.int (80) Dg,.int (53) Di,.int (2) Dj,.int (55) Dk,.int (63) Dl] HG,Dm⟩)
  (tU:PySem.W.makesIn K aX=true)
  (wz:PySem.W.findIn K (.ref aX) "__init__"=some (some (.ref wZ)))
  (D6:PySem.W.isFn K (.ref wZ)=true)
  (D7:PySem.W.keepIn K (.ref aX)=true)
  (D8:K.lookup wZ=some ⟨ioc,iod,.func (PySem.W.fnOf "__init__" "LinkEnd.__init__" (bS sL) (bI sL) (aG sL) .none ikV Xg ipm ian UC ict),Xf⟩)
  (D9:PySem.W.codeIn K UC "LinkEnd.__init__"=true)
  (EE:PySem.W.keepIn K (.ref wZ)=true)
  (EF:PySem.W.plainGet K aX Str.empty=true)
  (EG:PySem.W.hasDictIn K aX=true)
  (EH:PySem.W.plainOver K aX=true)
  (EI:PySem.W.findIn K (.ref aX) "__setattr__"=some (some (.builtin "object.__setattr__")))
  (qG:PySem.W.findIn K (.ref aX) "quiet"=some none)
  (tV:PySem.W.findIn K (.ref aX) "side"=some none)
  (tW:PySem.W.findIn K (.ref aX) "done"=some none)
  (mC:PySem.W.findIn K (.ref aX) "unheard"=some none)
  (qH:PySem.W.findIn K (.ref aX) "birth"=some none)
  (qI:PySem.W.findIn K (.ref aX) "known"=some none)
  (tX:PySem.W.findIn K (.ref aX) "pair"=some none)
  (tY:PySem.W.findIn K (.ref aX) "told"=some none)
  (oH:PySem.W.findIn K (.ref aX) "pieces"=some none)
  (mD:PySem.W.findIn K (.ref aX) "offered"=some none)
  (qJ:PySem.W.findIn K (.ref aX) "taken"=some none)
  (cz:PySem.W.findIn K (.ref aX) "forget_pieces"=some (some (.ref bo)))
  (dN:PySem.W.isFn K (.ref bo)=true)
  (dO:PySem.W.keepIn K (.ref bo)=true)
  (dt:K.lookup bo=some ⟨tK,tL,.func (PySem.W.fnOf "forget_pieces" "LinkEnd.forget_pieces" (bS cF) (bI cF) (aG cF) .none tN rV tO tM jf tP),rT⟩)
  (dv:PySem.W.codeIn K jf "LinkEnd.forget_pieces"=true)
  (dw:PySem.W.keepIn K (.ref bo)=true)
  (j6:PySem.W.findIn K (.ref aX) "tick"=some (some (.ref kh)))
  (mE:PySem.W.isFn K (.ref kh)=true)
  (mF:PySem.W.keepIn K (.ref kh)=true)
  (qK:K.lookup kh=some ⟨Mw,Mx,.func (PySem.W.fnOf "tick" "LinkEnd.tick" (bS m8) (bI m8) (aG m8) .none M0 KI M3 Mz CB M4),KH⟩)
  (qL:PySem.W.codeIn K CB "LinkEnd.tick"=true)
  (qM:PySem.W.keepIn K (.ref kh)=true)
  (dy:PySem.W.findIn K (.ref aX) "cell_given"=some (some (.ref cY)))
  (eS:PySem.W.isFn K (.ref cY)=true)
  (eT:PySem.W.keepIn K (.ref cY)=true)
  (gK:K.lookup cY=some ⟨xg,xh,.func (PySem.W.fnOf "cell_given" "LinkEnd.cell_given" (bS dY) (bI dY) (aG dY) .none xj wb xk xi ny xl),wa⟩)
  (gL:PySem.W.codeIn K ny "LinkEnd.cell_given"=true)
  (gM:PySem.W.keepIn K (.ref cY)=true)
  (j7:PySem.W.findIn K (.ref aX) "read"=some (some (.ref ki)))
  (mG:PySem.W.isFn K (.ref ki)=true)
  (mH:PySem.W.keepIn K (.ref ki)=true)
  (qN:K.lookup ki=some ⟨M5,M6,.func (PySem.W.fnOf "read" "LinkEnd.read" (bS sN) (bI sN) (aG sN) .none M8 KL M9 M7 CC NA),KJ⟩)
  (qO:PySem.W.codeIn K CC "LinkEnd.read"=true)
  (qP:PySem.W.keepIn K (.ref ki)=true)
  (j8:PySem.W.findIn K (.ref aX) "meet"=some (some (.ref kj)))
  (mI:PySem.W.isFn K (.ref kj)=true)
  (mJ:PySem.W.keepIn K (.ref kj)=true)
  (qQ:K.lookup kj=some ⟨NB,NC,.func (PySem.W.fnOf "meet" "LinkEnd.meet" (bS sO) (bI sO) (aG sO) .none NF KO NG ND CD NH),KN⟩)
  (qR:PySem.W.codeIn K CD "LinkEnd.meet"=true)
  (qS:PySem.W.keepIn K (.ref kj)=true)
  (gN:PySem.W.findIn K (.ref aX) "come_up"=some (some (.ref fF)))
  (h8:PySem.W.isFn K (.ref fF)=true)
  (h9:PySem.W.keepIn K (.ref fF)=true)
  (j9:K.lookup fF=some ⟨Dp,Dq,.func (PySem.W.fnOf "come_up" "LinkEnd.come_up" (bS iO) (bI iO) (aG iO) .none Ds CG Dt Dr uI Du),CF⟩)
  (kA:PySem.W.codeIn K uI "LinkEnd.come_up"=true)
  (kC:PySem.W.keepIn K (.ref fF)=true)
  (iA:PySem.W.findIn K (.ref aX) "end_up"=some (some (.ref gE)))
  (jF:PySem.W.isFn K (.ref gE)=true)
  (jG:PySem.W.keepIn K (.ref gE)=true)
  (mK:K.lookup gE=some ⟨HH,HI,.func (PySem.W.fnOf "end_up" "LinkEnd.end_up" (bS kN) (bI kN) (aG kN) .none HK Dx HL HJ wc HM),Dw⟩)
  (mL:PySem.W.codeIn K wc "LinkEnd.end_up"=true)
  (mM:PySem.W.keepIn K (.ref gE)=true)
  (d8:PySem.W.findIn K (.ref aX) "start_over"=some (some (.ref cZ)))
  (eU:PySem.W.isFn K (.ref cZ)=true)
  (eX:PySem.W.keepIn K (.ref cZ)=true)
  (gO:K.lookup cZ=some ⟨xm,xn,.func (PySem.W.fnOf "start_over" "LinkEnd.start_over" (bS dZ) (bI dZ) (aG dZ) .none xq wg xr xo n6 xu),wd⟩)
  (gP:PySem.W.codeIn K n6 "LinkEnd.start_over"=true)
  (gQ:PySem.W.keepIn K (.ref cZ)=true)
  (d9:PySem.W.findIn K (.ref aX) "hear_count"=some (some (.ref cb)))
  (eY:PySem.W.isFn K (.ref cb)=true)
  (eZ:PySem.W.keepIn K (.ref cb)=true)
  (gR:K.lookup cb=some ⟨xv,xw,.func (PySem.W.fnOf "hear_count" "LinkEnd.hear_count" (bS da) (bI da) (aG da) .none xy wk x3 xx n8 x4),wj⟩)
  (gS:PySem.W.codeIn K n8 "LinkEnd.hear_count"=true)
  (gT:PySem.W.keepIn K (.ref cb)=true)
  (eC:PySem.W.findIn K (.ref aX) "take_piece"=some (some (.ref cj)))
  (ed:PySem.W.isFn K (.ref cj)=true)
  (el:PySem.W.keepIn K (.ref cj)=true)
  (gU:K.lookup cj=some ⟨x5,x6,.func (PySem.W.fnOf "take_piece" "LinkEnd.take_piece" (bS dc) (bI dc) (aG dc) .none x9 wo yA x8 n9 yB),wm⟩)
  (gX:PySem.W.codeIn K n9 "LinkEnd.take_piece"=true)
  (gY:PySem.W.keepIn K (.ref cj)=true)
  (mO:PySem.W.findIn K (.ref aX) "put"=some (some (.ref oq)))
  (oI:PySem.W.isFn K (.ref oq)=true)
  (oJ:PySem.W.keepIn K (.ref oq)=true)
  (tZ:K.lookup oq=some ⟨QP,QQ,.func (PySem.W.fnOf "put" "LinkEnd.put" (bS yZ) (bI yZ) (aG yZ) .none QS NJ QT QR Fn QU),NI⟩)
  (tf:PySem.W.codeIn K Fn "LinkEnd.put"=true)
  (tj:PySem.W.keepIn K (.ref oq)=true)
  (oK:PySem.W.findIn K (.ref aX) "up"=some (some (.ref tJ)))
  (qT:PySem.W.isFn K (.ref tJ)=true)
  (qU:PySem.W.keepIn K (.ref tJ)=true)
  (w6:K.lookup tJ=some ⟨UD,UE,.func (PySem.W.fnOf "up" "LinkEnd.up" (bS GZ) (bI GZ) (aG GZ) .none UH QW UI UG KP UJ),QV⟩)
  (w8:PySem.W.codeIn K KP "LinkEnd.up"=true)
  (xA:PySem.W.keepIn K (.ref tJ)=true)
  (jH:PySem.W.findIn K (.ref aX) "waits"=some (some (.ref iR)))
  (kD:PySem.W.isFn K (.ref iR)=true)
  (kE:PySem.W.keepIn K (.ref iR)=true)
  (oM:K.lookup iR=some ⟨KQ,KR,.func (PySem.W.fnOf "waits" "LinkEnd.waits" (bS oa) (bI oa) (aG oa) .none KU HP KW KS yq KY),HN⟩)
  (oN:PySem.W.codeIn K yq "LinkEnd.waits"=true)
  (oO:PySem.W.keepIn K (.ref iR)=true)
  (iB:PySem.W.findIn K (.ref aX) "events"=some (some (.ref gG)))
  (jI:PySem.W.isFn K (.ref gG)=true)
  (jJ:PySem.W.keepIn K (.ref gG)=true)
  (mP:K.lookup gG=some ⟨HQ,HR,.func (PySem.W.fnOf "events" "LinkEnd.events" (bS kO) (bI kO) (aG kO) .none HU Dz HV HS wq HW),Dy⟩)
  (mQ:PySem.W.codeIn K wq "LinkEnd.events"=true)
  (mR:PySem.W.keepIn K (.ref gG)=true)
  : ∃ t,Txt K mg t:=⟨⟨dg,b7,cy,dh,tI,aX,fX,wZ,bo,kh,cY,ki,kj,fF,gE,cZ,cb,cj,oq,tJ,iR,gG⟩,⟨⟨_,PySem.W.mg_of KX G iy⟩,⟨_,PySem.W.mg_of KX G oB⟩,⟨_,PySem.W.mg_of KX G iz⟩,⟨_,PySem.W.mg_of KX G oC⟩,⟨_,PySem.W.mg_of KX G lz⟩,⟨_,PySem.W.mg_of KX G gH⟩,⟨_,PySem.W.mg_of KX G l4⟩,⟨_,PySem.W.mg_of KX G l7⟩,⟨_,PySem.W.mg_of KX G oE⟩,⟨_,PySem.W.mg_of KX G l8⟩,⟨_,PySem.W.mg_of KX G oF⟩,⟨_,PySem.W.mg_of KX G tR⟩,⟨_,PySem.W.mg_of KX G AH⟩,⟨_,PySem.W.mg_of KX G wu⟩,⟨_,PySem.W.mg_of KX G AI⟩,PySem.W.mg_none_of KX G AJ,PySem.W.mg_none_of KX G AK,PySem.W.mg_none_of KX G wy,PySem.W.mg_none_of KX G AL,PySem.W.mg_none_of KX G AM,PySem.W.mg_none_of KX G tS,PySem.W.mg_none_of KX G l9,PySem.W.mg_none_of KX G AN,PySem.W.mg_of KX G pw,PySem.W.mg_of KX G jv,PySem.W.mg_of KX G oA,PySem.W.mg_of KX G qA,PySem.W.mg_of KX G qB,PySem.W.mg_of KX G qC,PySem.W.mg_of KX G tQ,qD,⟨jw,i0,i6,i7,i8,hG⟩,jx,⟨gI,fY,fZ,fb,fc,eR⟩,oG,⟨i9,hJ,hU,hV,hX,gJ⟩,qE,⟨jy,jA,jB,jC,jD,hZ⟩,tT,⟨mB,jz,j0,j4,j5,jE⟩,⟨⟨_,_,_,qF,rfl,rfl,(by show 6≤sizeLine;decide),(.cons ⟨_,rfl⟩ (.cons ⟨_,rfl⟩ (.cons ⟨_,rfl⟩ (.cons ⟨_,rfl⟩ (.cons ⟨_,rfl⟩ (.cons ⟨_,rfl⟩ .nil))))))⟩⟩,⟨tU,wz,D6,D7⟩,⟨_,dq D8 D9 EE⟩,⟨EF,EG,EH,EI⟩,qG,tV,tW,mC,qH,qI,tX,tY,oH,mD,qJ,⟨cz,dN,dO⟩,⟨_,dq dt dv dw⟩,⟨j6,mE,mF⟩,⟨_,dq qK qL qM⟩,⟨dy,eS,eT⟩,⟨_,dq gK gL gM⟩,⟨j7,mG,mH⟩,⟨_,dq qN qO qP⟩,⟨j8,mI,mJ⟩,⟨_,dq qQ qR qS⟩,⟨gN,h8,h9⟩,⟨_,dq j9 kA kC⟩,⟨iA,jF,jG⟩,⟨_,dq mK mL mM⟩,⟨d8,eU,eX⟩,⟨_,dq gO gP gQ⟩,⟨d9,eY,eZ⟩,⟨_,dq gR gS gT⟩,⟨eC,ed,el⟩,⟨_,dq gU gX gY⟩,⟨mO,oI,oJ⟩,⟨_,dq tZ tf tj⟩,⟨oK,qT,qU⟩,⟨_,dq w6 w8 xA⟩,⟨jH,kD,kE⟩,⟨_,dq oM oN oO⟩,⟨iB,jI,jJ⟩,⟨_,dq mP mQ mR⟩⟩⟩
end K37
open PySem PySem.W PyProof.Rows
def PySem.W.Fast.tw14281967968700837412:Nat:=0
def PySem.W.Fast.tw12259223166344731115:Nat:=0
def PySem.W.Fast.tw7481123467292342512:Nat:=0
def PySem.W.Fast.tw3686365459213532241:Nat:=0
def PySem.W.Fast.tw16171664859737572710:Nat:=0
def PySem.W.Fast.tw5559872698167426371:Nat:=0
def PySem.W.Fast.tw17372712556179926605:Nat:=0
def PySem.W.Fast.tw4894803021345124089:Nat:=0
def PySem.W.Fast.tw11289476639359953444:Nat:=0
def PySem.W.Fast.tw8761190849516405568:Nat:=0
def PySem.W.Fast.tw2893727519410192722:Nat:=0
def PySem.W.Fast.tw3330636182629029039:Nat:=0
def PySem.W.Fast.tw18446171576608353830:Nat:=0
def PySem.W.Fast.tw2874896926593200469:Nat:=0
def PySem.W.Fast.tw15787996208633210882:Nat:=0
def PySem.W.Fast.tw16119091003250601666:Nat:=0
def PySem.W.Fast.tw9960858051162332016:Nat:=0
def PySem.W.Fast.tw3975487739263365547:Nat:=0
def PySem.W.Fast.tw12326889156607642137:Nat:=0
def PySem.W.Fast.tw2995256660618098677:Nat:=0
def PySem.W.Fast.tw3173206355872262527:Nat:=0
def PySem.W.Fast.tw15335787409234913308:Nat:=0
def PySem.W.Fast.tw11092854455572525695:Nat:=0
def PySem.W.Fast.tw13113867654198146497:Nat:=0
def PySem.W.Fast.tw10546711178241939571:Nat:=0
def PySem.W.Fast.tw12547576115209366017:Nat:=0
def PySem.W.Fast.tw17860370873973952507:Nat:=0
def PySem.W.Fast.tw16943050781450776085:Nat:=0
def PySem.W.Fast.tw5366405792771843320:Nat:=0
def PySem.W.Fast.tw5008857361182882223:Nat:=0
def PySem.W.Fast.tw17746060000909520415:Nat:=0
def PySem.W.Fast.tw378313599381551675:Nat:=0
def PySem.W.Fast.tw13337882829742259472:Nat:=0
def PySem.W.Fast.tw10326487100199375159:Nat:=0
def PySem.W.Fast.tw14074846015867251318:Nat:=0
def PySem.W.Fast.tw17671248969809622801:Nat:=0
def PySem.W.Fast.tw5373696210218023081:Nat:=0
def PySem.W.Fast.tw2404213238889671892:Nat:=0
def PySem.W.Fast.tw830955916962233983:Nat:=0
def PySem.W.Fast.tw18186567529842819844:Nat:=0
def PySem.W.Fast.tw11237859175383458654:Nat:=0
def PySem.W.Fast.tw8570896909782058630:Nat:=0
def PySem.W.Fast.tw2772669599321900448:Nat:=0
def PySem.W.Fast.tw2907701175554201111:Nat:=0
def PySem.W.Fast.tw12771412497597966696:Nat:=0
def PySem.W.Fast.tw3522338881472828608:Nat:=0
def PySem.W.Fast.tw16462783880733739231:Nat:=0
def PySem.W.Fast.tw2856414191940862795:Nat:=0
def PySem.W.Fast.tw15638864515523069823:Nat:=0
def PySem.W.Fast.tw6820031218356390399:Nat:=0
def PySem.W.Fast.tw11467621801941493305:Nat:=0
def PySem.W.Fast.tw10372546366578032327:Nat:=0
def PySem.W.Fast.tw16784286448651297876:Nat:=0
def PySem.W.Fast.tw5397329967900976060:Nat:=0
def PySem.W.Fast.tw2307497496051600251:Nat:=0
def PySem.W.Fast.tw7611009556371586909:Nat:=0
def PySem.W.Fast.tw12879473110200418516:Nat:=0
def PySem.W.Fast.tw15504566977073347477:Nat:=0
def PySem.W.Fast.tw6486288859511070805:Nat:=0
def PySem.W.Fast.tw988358206369118408:Nat:=0
def PySem.W.Fast.tw5134111667229615643:Nat:=0
def PySem.W.Fast.tw7359251021984002847:Nat:=0
def PySem.W.Fast.tw6698286153532087819:Nat:=0
def PySem.W.Fast.tw13809828255410364295:Nat:=0
def PySem.W.Fast.tw6042198801153111341:Nat:=0
def PySem.W.Fast.tw3068809594749860962:Nat:=0
def PySem.W.Fast.tw17954021251399144684:Nat:=0
def PySem.W.Fast.tw8363332628572638314:Nat:=0
def PySem.W.Fast.tw5352492282112087657:Nat:=0
def PySem.W.Fast.tw17232296186829611160:Nat:=0
def PySem.W.Fast.tw4349904432687237081:Nat:=0
def PySem.W.Fast.tw7890490896681093046:Nat:=0
def PySem.W.Fast.tw1044474735595054596:Nat:=0
def PySem.W.Fast.tw12393856615294385825:Nat:=0
def PySem.W.Fast.tw12133626527765957067:Nat:=0
def PySem.W.Fast.tw16001213036856207415:Nat:=0
def PySem.W.Fast.tw6624957650989881861:Nat:=0
def PySem.W.Fast.tw18357770482500565009:Nat:=0
def PySem.W.Fast.tw17032134707972945117:Nat:=0
def PySem.W.Fast.tw2265657199088639938:Nat:=0
def PySem.W.Fast.tw4222264753915052454:Nat:=0
def PySem.W.Fast.tw4617522312945990870:Nat:=0
def PySem.W.Fast.tw16367357329368339320:Nat:=0
def PySem.W.Fast.tw14491657512496491903:Nat:=0
def PySem.W.Fast.tw15153623506045222738:Nat:=0
def PySem.W.Fast.tw11894347910693218301:Nat:=0
def PySem.W.Fast.tw7006707986092731939:Nat:=0
def PySem.W.Fast.tw14483070828727277620:Nat:=0
def PySem.W.Fast.tw11378620504402545571:Nat:=0
def PySem.W.Fast.tw1742092410543917188:Nat:=0
def PySem.W.Fast.tw8949946316380705474:Nat:=0
def PySem.W.Fast.tw2155254327925179706:Nat:=0
def PySem.W.Fast.tw12878679247034595880:Nat:=0
def PySem.W.Fast.tw1085071385906436958:Nat:=0
def PySem.W.Fast.tw12181159565741412260:Nat:=0
def PySem.W.Fast.tw9656142525384272718:Nat:=0
def PySem.W.Fast.tw16336372739290050237:Nat:=0
def PySem.W.Fast.tw7172420906881117486:Nat:=0
def PySem.W.Fast.tw4851250884523476535:Nat:=0
def PySem.W.Fast.tw10754137429099839187:Nat:=0
def PySem.W.Fast.tw1891559985835649999:Nat:=0
def PySem.W.Fast.tw15500038829499267700:Nat:=0
def PySem.W.Fast.tw9548788413812828157:Nat:=0
def PySem.W.Fast.tw8467938017043628051:Nat:=0
def PySem.W.Fast.tw13272618795443224079:Nat:=0
def PySem.W.Fast.tw9781669959292960922:Nat:=0
def PySem.W.Fast.tw3739022120470085397:Nat:=0
def PySem.W.Fast.tw7753131071597103688:Nat:=0
def PySem.W.Fast.tw16858291178260903785:Nat:=0
def PySem.W.Fast.tw8349185472841920600:Nat:=0
def PySem.W.Fast.tw10652388333940323132:Nat:=0
def PySem.W.Fast.tw9826417558103134601:Nat:=0
def PySem.W.Fast.tw5276331946964407679:Nat:=0
def PySem.W.Fast.tw9192909245394179444:Nat:=0
def PySem.W.Fast.tw4758781352711429846:Nat:=0
def PySem.W.Fast.tw9944013583911945672:Nat:=0
def PySem.W.Fast.tw3062404667998506903:Nat:=0
def PySem.W.Fast.tw15112717519453397442:Nat:=0
def PySem.W.Fast.tw17946737976623062495:Nat:=0
def PySem.W.Fast.tw16185804889433515083:Nat:=0
def PySem.W.Fast.tw9704690154048291177:Nat:=0
def PySem.W.Fast.tw6702431949939035742:Nat:=0
def PySem.W.Fast.tw1728439476326083527:Nat:=0
def PySem.W.Fast.tw15948007134630436286:Nat:=0
def PySem.W.Fast.tw2697582449938682477:Nat:=0
def PySem.W.Fast.tw13747431390735223344:Nat:=0
def PySem.W.Fast.tw12884051767696035071:Nat:=0
def PySem.W.Fast.tw2974631295241995625:Nat:=0
def PySem.W.Fast.tw1796029748983512916:Nat:=0
def PySem.W.Fast.tw2000023626218959789:Nat:=0
def PySem.W.Fast.tw7866074169362742883:Nat:=0
def PySem.W.Fast.tw18370990667962108926:Nat:=0
def PySem.W.Fast.tw12851684588325345843:Nat:=0
def PySem.W.Fast.tw8008924865270455143:Nat:=0
def PySem.W.Fast.tw4063124261828928736:Nat:=0
def PySem.W.Fast.tw13698175208629766983:Nat:=0
def PySem.W.Fast.tw11071428042509851790:Nat:=0
def PySem.W.Fast.tw7099709503497936759:Nat:=0
def PySem.W.Fast.tw4168039558789253804:Nat:=0
def PySem.W.Fast.tw4855868162649928006:Nat:=0
def PySem.W.Fast.tw1145254412602064986:Nat:=0
def PySem.W.Fast.tw8934434827794318366:Nat:=0
def PySem.W.Fast.tw18180489008598453931:Nat:=0
def PySem.W.Fast.tw16082356029966236373:Nat:=0
def PySem.W.Fast.tw18330043219182649964:Nat:=0
def PySem.W.Fast.tw7646948610963684982:Nat:=0
def PySem.W.Fast.tw14738179783989294646:Nat:=0
def PySem.W.Fast.tw1380466168265645100:Nat:=0
def PySem.W.Fast.tw16349590743958613387:Nat:=0
def PySem.W.Fast.tw14246425477362362904:Nat:=0
def PySem.W.Fast.tw16537822705967863128:Nat:=0
def PySem.W.Fast.tw12387336958077932429:Nat:=0
def PySem.W.Fast.tw5355438792787706504:Nat:=0
def PySem.W.Fast.tw9883033787700480654:Nat:=0
def PySem.W.Fast.tw15976532310286563928:Nat:=0
def PySem.W.Fast.tw1345693784506747482:Nat:=0
def PySem.W.Fast.tw5127294637887870075:Nat:=0
def PySem.W.Fast.tw13021312497107844950:Nat:=0
def PySem.W.Fast.tw8506766063015973358:Nat:=0
def PySem.W.Fast.tw9087326146772887944:Nat:=0
def PySem.W.Fast.tw7424366503395711931:Nat:=0
def PySem.W.Fast.tw11031785322050336535:Nat:=0
def PySem.W.Fast.tw2796590473450044469:Nat:=0
def PySem.W.Fast.tw6523516846080038311:Nat:=0
def PySem.W.Fast.tw11144280326274227629:Nat:=0
def PySem.W.Fast.tw7784193026610636163:Nat:=0
def PySem.W.Fast.tw782817010261079674:Nat:=0
def PySem.W.Fast.tw8997279876479659079:Nat:=0
def PySem.W.Fast.tw5810328654597825246:Nat:=0
def PySem.W.Fast.tw184914072065578779:Nat:=0
def PySem.W.Fast.tw8987623694091319643:Nat:=0
def PySem.W.Fast.tw9591771481418519760:Nat:=0
def PySem.W.Fast.tw9412689323676663624:Nat:=0
def PySem.W.Fast.tw9215446857631777032:Nat:=0
def PySem.W.Fast.tw5601558069023856687:Nat:=0
def PySem.W.Fast.tw3636429278802249979:Nat:=0
def PySem.W.Fast.tw12772245623632160623:Nat:=0
def PySem.W.Fast.tw3489275859398097992:Nat:=0
def PySem.W.Fast.tw4699562781111802445:Nat:=0
def PySem.W.Fast.tw7077272877473399323:Nat:=0
def PySem.W.Fast.tw6496789301748939738:Nat:=0
def PySem.W.Fast.tw637105572957393866:Nat:=0
def PySem.W.Fast.tw10136857225932309878:Nat:=0
def PySem.W.Fast.tw18019835232710853042:Nat:=0
def PySem.W.Fast.tw11580054625822852870:Nat:=0
def PySem.W.Fast.tw10542167399104470575:Nat:=0
def PySem.W.Fast.tw16878626249682741174:Nat:=0
def PySem.W.Fast.tw14274709687509422744:Nat:=0
def PySem.W.Fast.tw14008322949610216409:Nat:=0
def PySem.W.Fast.tw2332887571713674838:Nat:=0
def PySem.W.Fast.tw8476816497933696636:Nat:=0
def PySem.W.Fast.tw7296666549081848299:Nat:=0
def PySem.W.Fast.tw789488331359705653:Nat:=0
def PySem.W.Fast.tw16389959057127462870:Nat:=0
def PySem.W.Fast.tw17923400088136810880:Nat:=0
def PySem.W.Fast.tw13074452107034684962:Nat:=0
def PySem.W.Fast.tw85372903931725881:Nat:=0
def PySem.W.Fast.tw15530752393146244954:Nat:=0
def PySem.W.Fast.tw17897005591398475310:Nat:=0
def PySem.W.Fast.tw13846800823671196991:Nat:=0
def PySem.W.Fast.tw11376334911036423979:Nat:=0
def PySem.W.Fast.tw3234302994066174778:Nat:=0
def PySem.W.Fast.tw15062046554487870517:Nat:=0
def PySem.W.Fast.tw4151027650909330745:Nat:=0
def PySem.W.Fast.tw10495383874767030530:Nat:=0
def PySem.W.Fast.tw7646993041665709335:Nat:=0
def PySem.W.Fast.tw13799585829785812099:Nat:=0
def PySem.W.Fast.tw7447081838268311586:Nat:=0
def PySem.W.Fast.tw10962064515517177575:Nat:=0
def PySem.W.Fast.tw14891935053890184596:Nat:=0
def PySem.W.Fast.tw919827314714285649:Nat:=0
def PySem.W.Fast.tw5760454716007346645:Nat:=0
def PySem.W.Fast.tw8107164459234678092:Nat:=0
def PySem.W.Fast.tw15019674768410620518:Nat:=0
def PySem.W.Fast.tw5268276386195991864:Nat:=0
def PySem.W.Fast.tw8216951434591738789:Nat:=0
def PySem.W.Fast.tw13354388153782292630:Nat:=0
def PySem.W.Fast.tw13203222495479406235:Nat:=0
def PySem.W.Fast.tw2941803748516418289:Nat:=0
def PySem.W.Fast.tw12807532356449984217:Nat:=0
def PySem.W.Fast.tw4971709109012825969:Nat:=0
def PySem.W.Fast.tw14745072653307433699:Nat:=0
def PySem.W.Fast.tw9238125446231944311:Nat:=0
def PySem.W.Fast.tw8459403049880181545:Nat:=0
def PySem.W.Fast.tw2502217374234691454:Nat:=0
def PySem.W.Fast.tw2255360764109829583:Nat:=0
def PySem.W.Fast.tw4464671777893655453:Nat:=0
def PySem.W.Fast.tw895012694700725105:Nat:=0
def PySem.W.Fast.tw1475848780448811366:Nat:=0
def PySem.W.Fast.tw5802222262236865571:Nat:=0
def PySem.W.Fast.tw17831128577879603952:Nat:=0
def PySem.W.Fast.tw1014720842097287164:Nat:=0
def PySem.W.Fast.tw5728862345263534219:Nat:=0
def PySem.W.Fast.tw3425647479806256420:Nat:=0
def PySem.W.Fast.tw2395158750662170690:Nat:=0
def PySem.W.Fast.tw14164676508830506914:Nat:=0
def PySem.W.Fast.tw11998987095245574267:Nat:=0
def PySem.W.Fast.tw8124916522323617437:Nat:=0
def PySem.W.Fast.tw7756902559025272123:Nat:=0
def PySem.W.Fast.tw2266664757530010097:Nat:=0
def PySem.W.Fast.tw15338749688214605841:Nat:=0
def PySem.W.Fast.tw12502001464140018053:Nat:=0
def PySem.W.Fast.tw9031187011424285381:Nat:=0
def PySem.W.Fast.tw1802359482736828756:Nat:=0
def PySem.W.Fast.tw10495315093679648957:Nat:=0
def PySem.W.Fast.tw652940641418417842:Nat:=0
def PySem.W.Fast.tw2472645417726187811:Nat:=0
def PySem.W.Fast.tw9626416565299096737:Nat:=0
def PySem.W.Fast.tw8280218902431223136:Nat:=0
def PySem.W.Fast.tw11081243940412143732:Nat:=0
def PySem.W.Fast.tw4542353482805212096:Nat:=0
def PySem.W.Fast.tw15759274566311635153:Nat:=0
def PySem.W.Fast.tw7369015884951134928:Nat:=0
def PySem.W.Fast.tw6054156666437937225:Nat:=0
def PySem.W.Fast.tw5479311414970584691:Nat:=0
def PySem.W.Fast.tw4463863887288416001:Nat:=0
def PySem.W.Fast.tw13709635547780154893:Nat:=0
def PySem.W.Fast.tw4494477570870549733:Nat:=0
def PySem.W.Fast.tw10126915189701083086:Nat:=0
def PySem.W.Fast.tw9987647135657990541:Nat:=0
def PySem.W.Fast.tw8025679243896442408:Nat:=0
def PySem.W.Fast.tw15812757219399651382:Nat:=0
def PySem.W.Fast.tw10981561948184411855:Nat:=0
def PySem.W.Fast.tw2373245705823964948:Nat:=0
def PySem.W.Fast.tw13140188026803337587:Nat:=0
def PySem.W.Fast.tw16648766338003215124:Nat:=0
def PySem.W.Fast.tw9542926425383266374:Nat:=0
def PySem.W.Fast.tw4682516305380469028:Nat:=0
def PySem.W.Fast.tw10231347320990637039:Nat:=0
def PySem.W.Fast.tw2652187613519698277:Nat:=0
def PySem.W.Fast.tw10717619339001982363:Nat:=0
def PySem.W.Fast.tw11295810992896697697:Nat:=0
def PySem.W.Fast.tw10042583715608788798:Nat:=0
def PySem.W.Fast.tw17483407576706715398:Nat:=0
def PySem.W.Fast.tw15114133567263285949:Nat:=0
def PySem.W.Fast.tw9759460572614379249:Nat:=0
def PySem.W.Fast.tw15274141919426536624:Nat:=0
def PySem.W.Fast.tw5965505152249397726:Nat:=0
def PySem.W.Fast.tw11308275218793610370:Nat:=0
def PySem.W.Fast.tw12857090032764404975:Nat:=0
def PySem.W.Fast.tw6913769138257155372:Nat:=0
def PySem.W.Fast.tw18028499738385758087:Nat:=0
def PySem.W.Fast.tw13779646575296033808:Nat:=0
def PySem.W.Fast.tw17538384564104376689:Nat:=0
def PySem.W.Fast.tw16019330334475514376:Nat:=0
def PySem.W.Fast.tw10953279092264458251:Nat:=0
def PySem.W.Fast.tw10084542885121345216:Nat:=0
def PySem.W.Fast.tw16577246826616531188:Nat:=0
def PySem.W.Fast.tw13588077788306819658:Nat:=0
def PySem.W.Fast.tw6902691117617549883:Nat:=0
def PySem.W.Fast.tw3453280936406810480:Nat:=0
def PySem.W.Fast.tw4733251049115290803:Nat:=0
def PySem.W.Fast.tw4879631922934844702:Nat:=0
def PySem.W.Fast.tw10138600985506318161:Nat:=0
def PySem.W.Fast.tw626514457736365185:Nat:=0
def PySem.W.Fast.tw789395845825308935:Nat:=0
def PySem.W.Fast.tw548860760226449165:Nat:=0
def PySem.W.Fast.tw17340770883979351968:Nat:=0
def PySem.W.Fast.tw13877465040645562958:Nat:=0
def PySem.W.Fast.tw3142882088921898884:Nat:=0
def PySem.W.Fast.tw16054321164390266950:Nat:=0
def PySem.W.Fast.tw12140694111877949239:Nat:=0
def PySem.W.Fast.tw16582298764144525069:Nat:=0
def PySem.W.Fast.tw10685954218228418091:Nat:=0
def PySem.W.Fast.tw5742854829738085635:Nat:=0
def PySem.W.Fast.tw508391790043704517:Nat:=0
def PySem.W.Fast.tw5083151909436278686:Nat:=0
def PySem.W.Fast.tw3585002058039808022:Nat:=0
def PySem.W.Fast.tw2462640858622487264:Nat:=0
def PySem.W.Fast.tw1407389646466975705:Nat:=0
def PySem.W.Fast.tw13039048876123408009:Nat:=0
def PySem.W.Fast.tw13817883024264119474:Nat:=0
def PySem.W.Fast.tw2180977565469521899:Nat:=0
def PySem.W.Fast.tw5620355372983989601:Nat:=0
def PySem.W.Fast.tw1229065897994088104:Nat:=0
def PySem.W.Fast.tw4413598842429437148:Nat:=0
def PySem.W.Fast.tw4068995149988992927:Nat:=0
def PySem.W.Fast.tw2900210422072626669:Nat:=0
def PySem.W.Fast.tw9160616387902497382:Nat:=0
def PySem.W.Fast.tw6549239247935112499:Nat:=0
def PySem.W.Fast.tw362165324450206566:Nat:=0
def PySem.W.Fast.tw1803667552622224606:Nat:=0
def PySem.W.Fast.tw16901693415900761821:Nat:=0
def PySem.W.Fast.tw16768072995746001622:Nat:=0
def PySem.W.Fast.tw13379967451894245136:Nat:=0
def PySem.W.Fast.tw13105041521507338733:Nat:=0
def PySem.W.Fast.tw12609410347917840439:Nat:=0
def PySem.W.Fast.tw11580473691944249492:Nat:=0
def PySem.W.Fast.tw10303061862146796826:Nat:=0
def PySem.W.Fast.tw8893676030732138012:Nat:=0
def PySem.W.Fast.tw16574928070082218127:Nat:=0
def PySem.W.Fast.tw2526982710807006256:Nat:=0
def PySem.W.Fast.tw18324155303399782324:Nat:=0
def PySem.W.Fast.tw9917950579394350263:Nat:=0
def PySem.W.Fast.tw4764106439417314639:Nat:=0
def PySem.W.Fast.tw4460832652596304185:Nat:=0
def PySem.W.Fast.tw3616058118644593047:Nat:=0
def PySem.W.Fast.tw2744432682465385471:Nat:=0
def PySem.W.Fast.tw18249217256391229830:Nat:=0
def PySem.W.Fast.tw15081964712754979397:Nat:=0
def PySem.W.Fast.tw13850446686777884349:Nat:=0
def PySem.W.Fast.tw3664396952675806647:Nat:=0
def PySem.W.Fast.tw2417674779103451467:Nat:=0
def PySem.W.Fast.tw17466926029396655723:Nat:=0
def PySem.W.Fast.tw16917995667567838633:Nat:=0
def PySem.W.Fast.tw15869651533001773622:Nat:=0
def PySem.W.Fast.tw14451204091456731128:Nat:=0
def PySem.W.Fast.tw11774203119089277105:Nat:=0
def PySem.W.Fast.tw14921503518375474339:Nat:=0
set_option maxRecDepth 100000 in
set_option maxHeartbeats 0 in
theorem PySem.Challenge.cw_stormpost_k37_whole_numbers_come_round_holds : PySem.Challenge.rw_stormpost_k37_whole_numbers_come_round.Holds := by
 w_on;o_law;k_head;(case hw=>w_witness2)
 k_fill
 refine L2.IV (l:=PySem.Challenge.rw_stormpost_k37_whole_numbers_come_round) (k:=13) ⟨rfl,by decide,by decide⟩ rfl rfl (fun w h Y=>PySem.W.kIn_of Y) ?F
 case F =>
  intro w mg fa h KX G Og
  have tD:L2.aR (L2.c9 KX) mg "is_sign" K37.oX:=by
   dsimp only [L2.c9]
   refine' L2.aR.mk' KX G ?a ?l ?c ?k
   (case a=>k_is);(case l=>k_is);(case c=>k_is);(case k=>k_is)
  have nZ:L2.aR (L2.c9 KX) mg "look_sign" K37.jS:=by
   dsimp only [L2.c9]
   refine' L2.aR.mk' KX G ?a ?l ?c ?k
   (case a=>k_is);(case l=>k_is);(case c=>k_is);(case k=>k_is)
  have ng:L2.aR (L2.c9 KX) mg "look_unit" K37.jT:=by
   dsimp only [L2.c9]
   refine' L2.aR.mk' KX G ?a ?l ?c ?k
   (case a=>k_is);(case l=>k_is);(case c=>k_is);(case k=>k_is)
  have AB:L2.aR (L2.c9 KX) mg "power" K37.uf:=by
   dsimp only [L2.c9]
   refine' L2.aR.mk' KX G ?a ?l ?c ?k
   (case a=>k_is);(case l=>k_is);(case c=>k_is);(case k=>k_is)
  have tE:L2.aR (L2.c9 KX) mg "inverse" K37.oY:=by
   dsimp only [L2.c9]
   refine' L2.aR.mk' KX G ?a ?l ?c ?k
   (case a=>k_is);(case l=>k_is);(case c=>k_is);(case k=>k_is)
  have pZ:L2.aR (L2.c9 KX) mg "exponent" K37.lH:=by
   dsimp only [L2.c9]
   refine' L2.aR.mk' KX G ?a ?l ?c ?k
   (case a=>k_is);(case l=>k_is);(case c=>k_is);(case k=>k_is)
  have pb:L2.aR (L2.c9 KX) mg "equation" K37.iV:=by
   dsimp only [L2.c9]
   refine' L2.aR.mk' KX G ?a ?l ?c ?k
   (case a=>k_is);(case l=>k_is);(case c=>k_is);(case k=>k_is)
  have js:L2.aR (L2.c9 KX) mg "pivot_place" K37.gc:=by
   dsimp only [L2.c9]
   refine' L2.aR.mk' KX G ?a ?l ?c ?k
   (case a=>k_is);(case l=>k_is);(case c=>k_is);(case k=>k_is)
  have nh:L2.aR (L2.c9 KX) mg "exchanged" K37.jU:=by
   dsimp only [L2.c9]
   refine' L2.aR.mk' KX G ?a ?l ?c ?k
   (case a=>k_is);(case l=>k_is);(case c=>k_is);(case k=>k_is)
  have pd:L2.aR (L2.c9 KX) mg "lessened" K37.iW:=by
   dsimp only [L2.c9]
   refine' L2.aR.mk' KX G ?a ?l ?c ?k
   (case a=>k_is);(case l=>k_is);(case c=>k_is);(case k=>k_is)
  have tF:L2.aR (L2.c9 KX) mg "cleared" K37.iN:=by
   dsimp only [L2.c9]
   refine' L2.aR.mk' KX G ?a ?l ?c ?k
   (case a=>k_is);(case l=>k_is);(case c=>k_is);(case k=>k_is)
  have wQ:L2.aR (L2.c9 KX) mg "solved" K37.kL:=by
   dsimp only [L2.c9]
   refine' L2.aR.mk' KX G ?a ?l ?c ?k
   (case a=>k_is);(case l=>k_is);(case c=>k_is);(case k=>k_is)
  have lj:L2.aR (L2.c9 KX) mg "look_signs" K37.iG:=by
   dsimp only [L2.c9]
   refine' L2.aR.mk' KX G ?a ?l ?c ?k
   (case a=>k_is);(case l=>k_is);(case c=>k_is);(case k=>k_is)
  have ni:L2.aR (L2.c9 KX) mg "look_cell" K37.jV:=by
   dsimp only [L2.c9]
   refine' L2.aR.mk' KX G ?a ?l ?c ?k
   (case a=>k_is);(case l=>k_is);(case c=>k_is);(case k=>k_is)
  have pe:L2.aR (L2.c9 KX) mg "value_at" K37.lI:=by
   dsimp only [L2.c9]
   refine' L2.aR.mk' KX G ?a ?l ?c ?k
   (case a=>k_is);(case l=>k_is);(case c=>k_is);(case k=>k_is)
  have pf:L2.aR (L2.c9 KX) mg "troubles" K37.iX:=by
   dsimp only [L2.c9]
   refine' L2.aR.mk' KX G ?a ?l ?c ?k
   (case a=>k_is);(case l=>k_is);(case c=>k_is);(case k=>k_is)
  have nj:L2.aR (L2.c9 KX) mg "is_sealed" K37.jW:=by
   dsimp only [L2.c9]
   refine' L2.aR.mk' KX G ?a ?l ?c ?k
   (case a=>k_is);(case l=>k_is);(case c=>k_is);(case k=>k_is)
  have tG:L2.aR (L2.c9 KX) mg "carried" K37.kM:=by
   dsimp only [L2.c9]
   refine' L2.aR.mk' KX G ?a ?l ?c ?k
   (case a=>k_is);(case l=>k_is);(case c=>k_is);(case k=>k_is)
  have wR:L2.aR (L2.c9 KX) mg "sealed" K37.mz:=by
   dsimp only [L2.c9]
   refine' L2.aR.mk' KX G ?a ?l ?c ?k
   (case a=>k_is);(case l=>k_is);(case c=>k_is);(case k=>k_is)
  have nk:L2.aR (L2.c9 KX) mg "look_late" K37.jX:=by
   dsimp only [L2.c9]
   refine' L2.aR.mk' KX G ?a ?l ?c ?k
   (case a=>k_is);(case l=>k_is);(case c=>k_is);(case k=>k_is)
  have iq:L2.aR (L2.c9 KX) mg "look_measure" K37.fK:=by
   dsimp only [L2.c9]
   refine' L2.aR.mk' KX G ?a ?l ?c ?k
   (case a=>k_is);(case l=>k_is);(case c=>k_is);(case k=>k_is)
  have pj:L2.aR (L2.c9 KX) mg "quiet_of" K37.lJ:=by
   dsimp only [L2.c9]
   refine' L2.aR.mk' KX G ?a ?l ?c ?k
   (case a=>k_is);(case l=>k_is);(case c=>k_is);(case k=>k_is)
  have lq:L2.aR (L2.c9 KX) mg "lone_place" K37.iH:=by
   dsimp only [L2.c9]
   refine' L2.aR.mk' KX G ?a ?l ?c ?k
   (case a=>k_is);(case l=>k_is);(case c=>k_is);(case k=>k_is)
  have tH:L2.aR (L2.c9 KX) mg "is_root" K37.oZ:=by
   dsimp only [L2.c9]
   refine' L2.aR.mk' KX G ?a ?l ?c ?k
   (case a=>k_is);(case l=>k_is);(case c=>k_is);(case k=>k_is)
  have g9:L2.aR (L2.c9 KX) mg "turned_places" K37.dC:=by
   dsimp only [L2.c9]
   refine' L2.aR.mk' KX G ?a ?l ?c ?k
   (case a=>k_is);(case l=>k_is);(case c=>k_is);(case k=>k_is)
  have pq:L2.aR (L2.c9 KX) mg "turns_at" K37.iY:=by
   dsimp only [L2.c9]
   refine' L2.aR.mk' KX G ?a ?l ?c ?k
   (case a=>k_is);(case l=>k_is);(case c=>k_is);(case k=>k_is)
  have wU:L2.aR (L2.c9 KX) mg "mended" K37.qo:=by
   dsimp only [L2.c9]
   refine' L2.aR.mk' KX G ?a ?l ?c ?k
   (case a=>k_is);(case l=>k_is);(case c=>k_is);(case k=>k_is)
  have ir:L2.aR (L2.c9 KX) mg "number_signs" K37.fL:=by
   dsimp only [L2.c9]
   refine' L2.aR.mk' KX G ?a ?l ?c ?k
   (case a=>k_is);(case l=>k_is);(case c=>k_is);(case k=>k_is)
  have iu:L2.aR (L2.c9 KX) mg "signs_number" K37.fM:=by
   dsimp only [L2.c9]
   refine' L2.aR.mk' KX G ?a ?l ?c ?k
   (case a=>k_is);(case l=>k_is);(case c=>k_is);(case k=>k_is)
  have lr:L2.aR (L2.c9 KX) mg "look_piece" K37.iI:=by
   dsimp only [L2.c9]
   refine' L2.aR.mk' KX G ?a ?l ?c ?k
   (case a=>k_is);(case l=>k_is);(case c=>k_is);(case k=>k_is)
  have nq:L2.aR (L2.c9 KX) mg "_law_cell" K37.jY:=by
   dsimp only [L2.c9]
   refine' L2.aR.mk' KX G ?a ?l ?c ?k
   (case a=>k_is);(case l=>k_is);(case c=>k_is);(case k=>k_is)
  have iw:L2.aR (L2.c9 KX) mg "_law_numbers" K37.fN:=by
   dsimp only [L2.c9]
   refine' L2.aR.mk' KX G ?a ?l ?c ?k
   (case a=>k_is);(case l=>k_is);(case c=>k_is);(case k=>k_is)
  have jt:L2.aR (L2.c9 KX) mg "_law_turned" K37.gd:=by
   dsimp only [L2.c9]
   refine' L2.aR.mk' KX G ?a ?l ?c ?k
   (case a=>k_is);(case l=>k_is);(case c=>k_is);(case k=>k_is)
  have nu:L2.aR (L2.c9 KX) mg "_law_give" K37.jZ:=by
   dsimp only [L2.c9]
   refine' L2.aR.mk' KX G ?a ?l ?c ?k
   (case a=>k_is);(case l=>k_is);(case c=>k_is);(case k=>k_is)
  have lu:L2.aR (L2.c9 KX) mg "_law_fates" K37.iJ:=by
   dsimp only [L2.c9]
   refine' L2.aR.mk' KX G ?a ?l ?c ?k
   (case a=>k_is);(case l=>k_is);(case c=>k_is);(case k=>k_is)
  have ju:L2.aR (L2.c9 KX) mg "_law_pieces" K37.eG:=by
   dsimp only [L2.c9]
   refine' L2.aR.mk' KX G ?a ?l ?c ?k
   (case a=>k_is);(case l=>k_is);(case c=>k_is);(case k=>k_is)
  have nv:L2.aR (L2.c9 KX) mg "_law_went" K37.ja:=by
   dsimp only [L2.c9]
   refine' L2.aR.mk' KX G ?a ?l ?c ?k
   (case a=>k_is);(case l=>k_is);(case c=>k_is);(case k=>k_is)
  have UK:L2.aR (L2.c9 KX) mg "law" K37.vU:=by
   dsimp only [L2.c9]
   refine' L2.aR.mk' KX G ?a ?l ?c ?k
   (case a=>k_is);(case l=>k_is);(case c=>k_is);(case k=>k_is)
  have T:∃ t,K37.Txt (L2.c9 KX) mg t:=by
   dsimp only [L2.c9]
   refine' K37.QO KX G ?pw ?jv ?oA ?qA ?qB ?qC ?tQ ?iy ?oB ?iz ?oC ?lz ?gH ?l4 ?l7 ?oE ?l8 ?oF ?tR ?AH ?wu ?AI ?AJ ?AK ?wy ?AL ?AM ?tS ?l9 ?AN ?qD ?jw ?i0 ?i6 ?i7 ?i8 ?hG ?jx ?gI ?fY ?fZ ?fb ?fc ?eR ?oG ?i9 ?hJ ?hU ?hV ?hX ?gJ ?qE ?jy ?jA ?jB ?jC ?jD ?hZ ?tT ?mB ?jz ?j0 ?j4 ?j5 ?jE ?qF ?tU ?wz ?D6 ?D7 ?D8 ?D9 ?EE ?EF ?EG ?EH ?EI ?qG ?tV ?tW ?mC ?qH ?qI ?tX ?tY ?oH ?mD ?qJ ?cz ?dN ?dO ?dt ?dv ?dw ?j6 ?mE ?mF ?qK ?qL ?qM ?dy ?eS ?eT ?gK ?gL ?gM ?j7 ?mG ?mH ?qN ?qO ?qP ?j8 ?mI ?mJ ?qQ ?qR ?qS ?gN ?h8 ?h9 ?j9 ?kA ?kC ?iA ?jF ?jG ?mK ?mL ?mM ?d8 ?eU ?eX ?gO ?gP ?gQ ?d9 ?eY ?eZ ?gR ?gS ?gT ?eC ?ed ?el ?gU ?gX ?gY ?mO ?oI ?oJ ?tZ ?tf ?tj ?oK ?qT ?qU ?w6 ?w8 ?xA ?jH ?kD ?kE ?oM ?oN ?oO ?iB ?jI ?jJ ?mP ?mQ ?mR
   (case pw=>k_is)
   (case jv=>k_is)
   (case oA=>k_is)
   (case qA=>k_is)
   (case qB=>k_is)
   (case qC=>k_is)
   (case tQ=>k_is)
   (case iy=>k_is)
   (case oB=>k_is)
   (case iz=>k_is)
   (case oC=>k_is)
   (case lz=>k_is)
   (case gH=>k_is)
   (case l4=>k_is)
   (case l7=>k_is)
   (case oE=>k_is)
   (case l8=>k_is)
   (case oF=>k_is)
   (case tR=>k_is)
   (case AH=>k_is)
   (case wu=>k_is)
   (case AI=>k_is)
   (case AJ=>k_is)
   (case AK=>k_is)
   (case wy=>k_is)
   (case AL=>k_is)
   (case AM=>k_is)
   (case tS=>k_is)
   (case l9=>k_is)
   (case AN=>k_is)
   (case qD=>k_exc)
   (case jw=>k_is)
   (case i0=>k_is)
   (case i6=>k_is)
   (case i7=>k_is)
   (case i8=>k_is)
   (case hG=>k_is)
   (case jx=>k_exc)
   (case gI=>k_is)
   (case fY=>k_is)
   (case fZ=>k_is)
   (case fb=>k_is)
   (case fc=>k_is)
   (case eR=>k_is)
   (case oG=>k_exc)
   (case i9=>k_is)
   (case hJ=>k_is)
   (case hU=>k_is)
   (case hV=>k_is)
   (case hX=>k_is)
   (case gJ=>k_is)
   (case qE=>k_exc)
   (case jy=>k_is)
   (case jA=>k_is)
   (case jB=>k_is)
   (case jC=>k_is)
   (case jD=>k_is)
   (case hZ=>k_is)
   (case tT=>k_exc)
   (case mB=>k_is)
   (case jz=>k_is)
   (case j0=>k_is)
   (case j4=>k_is)
   (case j5=>k_is)
   (case jE=>k_is)
   (case qF=>k_is)
   (case tU=>k_is)
   (case wz=>k_is)
   (case D6=>k_is)
   (case D7=>k_is)
   (case D8=>k_is)
   (case D9=>k_is)
   (case EE=>k_is)
   (case EF=>k_is)
   (case EG=>k_is)
   (case EH=>k_is)
   (case EI=>k_is)
   (case qG=>k_is)
   (case tV=>k_is)
   (case tW=>k_is)
   (case mC=>k_is)
   (case qH=>k_is)
   (case qI=>k_is)
   (case tX=>k_is)
   (case tY=>k_is)
   (case oH=>k_is)
   (case mD=>k_is)
   (case qJ=>k_is)
   (case cz=>k_is)
   (case dN=>k_is)
   (case dO=>k_is)
   (case dt=>k_is)
   (case dv=>k_is)
   (case dw=>k_is)
   (case j6=>k_is)
   (case mE=>k_is)
   (case mF=>k_is)
   (case qK=>k_is)
   (case qL=>k_is)
   (case qM=>k_is)
   (case dy=>k_is)
   (case eS=>k_is)
   (case eT=>k_is)
   (case gK=>k_is)
   (case gL=>k_is)
   (case gM=>k_is)
   (case j7=>k_is)
   (case mG=>k_is)
   (case mH=>k_is)
   (case qN=>k_is)
   (case qO=>k_is)
   (case qP=>k_is)
   (case j8=>k_is)
   (case mI=>k_is)
   (case mJ=>k_is)
   (case qQ=>k_is)
   (case qR=>k_is)
   (case qS=>k_is)
   (case gN=>k_is)
   (case h8=>k_is)
   (case h9=>k_is)
   (case j9=>k_is)
   (case kA=>k_is)
   (case kC=>k_is)
   (case iA=>k_is)
   (case jF=>k_is)
   (case jG=>k_is)
   (case mK=>k_is)
   (case mL=>k_is)
   (case mM=>k_is)
   (case d8=>k_is)
   (case eU=>k_is)
   (case eX=>k_is)
   (case gO=>k_is)
   (case gP=>k_is)
   (case gQ=>k_is)
   (case d9=>k_is)
   (case eY=>k_is)
   (case eZ=>k_is)
   (case gR=>k_is)
   (case gS=>k_is)
   (case gT=>k_is)
   (case eC=>k_is)
   (case ed=>k_is)
   (case el=>k_is)
   (case gU=>k_is)
   (case gX=>k_is)
   (case gY=>k_is)
   (case mO=>k_is)
   (case oI=>k_is)
   (case oJ=>k_is)
   (case tZ=>k_is)
   (case tf=>k_is)
   (case tj=>k_is)
   (case oK=>k_is)
   (case qT=>k_is)
   (case qU=>k_is)
   (case w6=>k_is)
   (case w8=>k_is)
   (case xA=>k_is)
   (case jH=>k_is)
   (case kD=>k_is)
   (case kE=>k_is)
   (case oM=>k_is)
   (case oN=>k_is)
   (case oO=>k_is)
   (case iB=>k_is)
   (case jI=>k_is)
   (case jJ=>k_is)
   (case mP=>k_is)
   (case mQ=>k_is)
   (case mR=>k_is)
  obtain ⟨t,T⟩:=T
  exact L2.IU UK (fun _ _ _ _ _ _ us hl=>match us,hl with | [_],_=>rfl) Og fun f fd base F=>K37.Mu T F tD nZ ng AB tE pZ pb js nh pd tF wQ lj ni pe pf nj tG wR nk iq pj lq tH g9 pq wU ir iu lr nq iw jt nu lu ju nv
#print axioms PySem.Challenge.cw_stormpost_k37_whole_numbers_come_round_holds
