import PyProof.Rows.All
import Wide.All
import OpenK.AllK
import Wide.FinOn
import Lean
import PyProof.EqAt
import PyProof.EqKinds
import PyProof.TupleCall
import PySem.Challenge.RW_stormpost_k34_whole_silence_is_a_breach
set_option Elab.async false
set_option linter.all false
set_option maxRecDepth 100000
namespace L2
open PySem PySem.Spec PyProof.Rows
abbrev Key:=Sum Int Str
def keyIs:Key→Value→Bool
 | .inl k,v=>Value.isInt k v
 | .inr x,v=>Value.isStrOf x v
def keyH (w:World):Key→Int
 | .inl k=>hashInt k
 | .inr x=>hashStr w x
theorem keyIs_shape:∀ {k:Key} {v:Value},keyIs k v=true→(∃ i t,k=Sum.inl i∧v=Value.int i t)∨(∃ x t,k=Sum.inr x∧v=Value.str x t)
 | .inl i,v,h=>by
  obtain ⟨t,e⟩:=Value.isInt_shape (k:=i) (v:=v) h
  exact .inl ⟨i,t,rfl,e⟩
 | .inr x,v,h=>by
  obtain ⟨t,e⟩:=Value.isStrOf_shape (x:=x) (v:=v) h
  exact .inr ⟨x,t,rfl,e⟩
theorem key_ll (a b:Int):decide ((Sum.inl a:Key)=Sum.inl b)=(a == b):=by
 by_cases e:a=b
 ·subst e;simp
 ·have h:¬ (Sum.inl a:Key)=Sum.inl b:=fun q=>e (Sum.inl.inj q)
  rw [decide_eq_false h]
  exact (beq_eq_false_iff_ne.mpr e).symm
theorem key_rr (a b:Str):decide ((Sum.inr a:Key)=Sum.inr b)=decide (a=b):=by
 by_cases e:a=b
 ·subst e;simp
 ·have h:¬ (Sum.inr a:Key)=Sum.inr b:=fun q=>e (Sum.inr.inj q)
  rw [decide_eq_false h,decide_eq_false e]
theorem key_lr (a:Int) (b:Str):decide ((Sum.inl a:Key)=Sum.inr b)=false:=decide_eq_false (fun q=>nomatch q)
theorem key_rl (a:Str) (b:Int):decide ((Sum.inr a:Key)=Sum.inl b)=false:=decide_eq_false (fun q=>nomatch q)
def mixKind (prog:Program) (w:World):PySem.KeyKind prog w Key where
 is:=keyIs
 hash:=keyH w
 inj:=fun v a b ha hb=>by
  rcases keyIs_shape ha with ⟨i,t,rfl,rfl⟩ | ⟨x,t,rfl,rfl⟩
  ·rcases keyIs_shape hb with ⟨j,u,rfl,e⟩ | ⟨y,u,rfl,e⟩
   ·injection e with e1 _;rw [e1]
   ·exact nomatch e
  ·rcases keyIs_shape hb with ⟨j,u,rfl,e⟩ | ⟨y,u,rfl,e⟩
   ·exact nomatch e
   ·injection e with e1 _;rw [e1]
 byValue:=fun k v h=>by
  rcases keyIs_shape h with ⟨i,t,rfl,rfl⟩ | ⟨x,t,rfl,rfl⟩ <;> rfl
 pyHash:=fun hv h=>by
  rcases keyIs_shape hv with ⟨i,t,rfl,rfl⟩ | ⟨x,t,rfl,rfl⟩
  ·exact wpAny_pyHash_int h
  ·exact wpAny_pyHash_str h
 eqBool:=fun hu hv h=>by
  rcases keyIs_shape hu with ⟨i,t,rfl,rfl⟩ | ⟨x,t,rfl,rfl⟩
  ·rcases keyIs_shape hv with ⟨j,u,rfl,rfl⟩ | ⟨y,u,rfl,rfl⟩
   ·rw [key_ll] at h;exact wpAny_eqBool_int h
   ·rw [key_lr] at h;exact SeqAt.EqAt.int_str i t y u _ _ _ _ h
  ·rcases keyIs_shape hv with ⟨j,u,rfl,rfl⟩ | ⟨y,u,rfl,rfl⟩
   ·rw [key_rl] at h;exact SeqAt.EqAt.str_int x t j u _ _ _ _ h
   ·rw [key_rr] at h;exact wpAny_eqBool_str h
 «strs»:=fun k x t v h=>by
  rcases keyIs_shape h with ⟨i,u,rfl,e⟩ | ⟨y,u,rfl,e⟩
  ·exact nomatch e
  ·injection e with e1 _
   subst e1
   cases v <;> rfl
end L2
namespace L2
open PySem PySem.Spec PyProof.Rows
inductive V where
 | non | bl (b:Bool) | int (i:Int) | str (x:Str) | byt (b:Array UInt8) | flt (b:UInt64) | ref (a:Addr) | ty (n:String)
 deriving DecidableEq
def RelV:V→Value→Prop
 | .non,u=>u=Value.none
 | .bl b,u=>u=Value.bool b
 | .int i,u=>∃ t,u=Value.int i t
 | .str x,u=>∃ t,u=Value.str x t
 | .byt b,u=>∃ t,u=Value.bytes b t
 | .flt b,u=>∃ t,u=Value.float b t
 | .ref a,u=>u=Value.ref a
 | .ty n,u=>u=Value.type n
abbrev Vals:List V→List Value→Prop:=Paired RelV
theorem Vals.length {xs:List V} {us:List Value} (r:Vals xs us):xs.length=us.length:=Paired.length r
theorem Vals.get:∀ {xs:List V} {us:List Value} {i:Nat} {x:V},Vals xs us→xs[i]?=some x→∃ u,us[i]?=some u∧RelV x u
 | _,_,_,_,.nil,e=>by simp at e
 | _,_,0,_,.cons r _,e=>by simp at e;subst e;exact ⟨_,rfl,r⟩
 | _,_,i+1,x,.cons _ t,e=>by
  obtain ⟨u,h1,h2⟩:=Vals.get (i:=i) (x:=x) t (by simpa using e)
  exact ⟨u,by simpa using h1,h2⟩
theorem Vals.set {x:V} {u:Value} (r:RelV x u):∀ {xs:List V} {us:List Value} (i:Nat),Vals xs us→Vals (xs.set i x) (us.set i u)
 | _,_,_,.nil=>.nil
 | _,_,0,.cons _ t=>.cons r t
 | _,_,i+1,.cons q t=>.cons q (Vals.set r i t)
theorem Vals.append:∀ {xs ys:List V} {us ws:List Value},Vals xs us→Vals ys ws→Vals (xs ++ ys) (us ++ ws)
 | _,_,_,_,.nil,s=>s
 | _,_,_,_,.cons r t,s=>.cons r (Vals.append t s)
theorem Vals.take:∀ {xs:List V} {us:List Value} (n:Nat),Vals xs us→Vals (xs.take n) (us.take n)
 | _,_,0,_=>.nil
 | _,_,_+1,.nil=>.nil
 | _,_,n+1,.cons r t=>.cons r (Vals.take n t)
theorem Vals.drop:∀ {xs:List V} {us:List Value} (n:Nat),Vals xs us→Vals (xs.drop n) (us.drop n)
 | _,_,0,r=>r
 | _,_,_+1,.nil=>.nil
 | _,_,n+1,.cons _ t=>Vals.drop n t
theorem Vals.none_of:∀ {xs:List V} {us:List Value} {i:Nat},Vals xs us→xs[i]?=none→us[i]?=none:=fun {xs us i} r e=>by
 have h1:=r.length
 have h2:xs.length≤i:=List.getElem?_eq_none_iff.mp e
 exact List.getElem?_eq_none_iff.mpr (by omega)
def RelO:Option V→Option Value→Prop
 | some v,some u=>RelV v u
 | none,none=>True
 | _,_=>False
def KV {κ:Type}:List (κ × V)→List (κ × Value)→Prop:=Paired fun (p:κ × V) (q:κ × Value)=>p.1=q.1∧RelV p.2 q.2
def kV:Key→V
 | .inl i=>.int i
 | .inr x=>.str x
inductive HO where
 | lst (xs:List V)
 | tup (xs:List V)
 | dK (kvs:List (Key × V)) | dT (kvs:List (List Key × V))
 | set (S:Int→Bool) (n:Nat)
 | ins (C dx:Addr) (fs:List (Str × V))
 | own (x:Addr)
 | xd (fs:List (Str × V))
 | met (f x:Addr)
 | rng (lo hi:Int)
 | frz (o:Obj) (u:HO)
 | tbl (ps:Array Value)
 | ext (φ:Heap→Prop)
abbrev Hp:=Addr→Option HO
def upd (H:Hp) (a:Addr) (o:HO):Hp:=fun b=>if b=a then some o else H b
theorem upd_same {H:Hp} {a:Addr} {o:HO}:upd H a o a=some o:=by unfold upd;rw [if_pos rfl]
theorem upd_ne {H:Hp} {a b:Addr} {o:HO} (h:b≠a):upd H a o b=H b:=by unfold upd;rw [if_neg h]
theorem upd_upd {H:Hp} {a:Addr} {o u:HO}:upd (upd H a o) a u=upd H a u:=by
 funext b;unfold upd;split <;> rfl
theorem ne_of_none {H:Hp} {a b:Addr} {o:HO} (h:H a=some o) (h':H b=none):a≠b:=by
 intro e;subst e;rw [h] at h';cases h'
section
variable (P:Program) (w:World)
def ObjOk (H:Hp) (h:Heap) (a:Addr):HO→Prop
 | .lst xs=>xs.length≤sizeLine∧∃ (its:List Value) (n:Nat),Vals xs its∧h.get? a=some { cls:=.type "list",data:=.seq its.toArray n }
 | .tup xs=>xs.length≤sizeLine∧∃ its:List Value,Vals xs its∧IsTup h a its.toArray
 | .dK kvs=>kvs.length≤sizeLine∧(a == sysModules)=false∧∃ vs,KV kvs vs∧h.DictOf (mixKind P w) a vs
 | .dT kvs=>kvs.length≤sizeLine∧(a == sysModules)=false∧∃ xs:List (List Key × Addr × Value),
   Paired (fun (p:List Key × V) (q:List Key × Addr × Value)=>p.1=q.1∧H q.2.1=some (.tup (p.1.map kV))∧RelV p.2 q.2.2) kvs xs ∧
   ∃ o es ep,h.get? a=some o∧o.ExactDict∧o.data=.dict es ep∧es.toList=xs.map (entryOfKey (tupleKind (mixKind P w)))∧(xs.map (·.1)).Nodup
 | .set S n=>h.SetOf (intKind P w) a S n
 | .ins C dx fs=>H dx=some (.own a)∧fs.length≤1000∧dx≠a∧h.get? a=some (PySem.W.instObj C dx) ∧
   ∃ mA,h.Ns1 dx mA∧(∀ f,RelO (fs.lookup f) (mA f))∧PySem.Within mA (fs.map (·.1))
 | .own _=>∃ o,h.get? a=some o
 | .xd fs=>∃ mA,h.Ns1 a mA∧∀ f,RelO (fs.lookup f) (mA f)
 | .rng lo hi=>∃ t u v,h.get? a=some { cls:=.type "range",data:=.fields #[.int lo t,.int hi u,.int 1 v] }
 | .frz o u=>h.get? a=some o∧ObjOk H h a u
 | .tbl ps=>h.get? a=some { cls:=.none,data:=.fields ps }
 | .met f x=>h.get? a=some (PySem.W.methodObj (.ref f) (.ref x))
 | .ext φ=>φ h∧(∃ o,h.get? a=some o)∧∀ h1 h2:Heap,φ h1→(∀ o,h1.get? a=some o→h2.get? a=some o)→φ h2
def HOk (H:Hp) (h:Heap):Prop:=∀ a o,H a=some o→ObjOk P w H h a o
end
section
variable {P:Program} {w:World} {H H':Hp} {h h':Heap} {a:Addr} {o:HO}
theorem ObjOk.lt (x:ObjOk P w H h a o):a < h.objs.size:=by
 cases o with
 | lst xs=>obtain ⟨_,_,_,_,e⟩:=x;exact Heap.lt_size e
 | tup xs=>obtain ⟨_,_,_,p⟩:=x;exact p.lt
 | dK kvs=>obtain ⟨_,_,_,_,o,_,_,e,_⟩:=x;exact Heap.lt_size e
 | dT kvs=>obtain ⟨_,_,_,_,o,_,_,e,_⟩:=x;exact Heap.lt_size e
 | set S n=>obtain ⟨o,_,_,_,e,_⟩:=x;exact Heap.lt_size e
 | ins C dx fs=>obtain ⟨_,_,_,e,_⟩:=x;exact Heap.lt_size e
 | own y=>obtain ⟨_,e⟩:=x;exact Heap.lt_size e
 | xd fs=>obtain ⟨_,⟨_,_,_,e,_⟩,_⟩:=x;exact Heap.lt_size e
 | rng lo hi=>obtain ⟨_,_,_,e⟩:=x;exact Heap.lt_size e
 | frz ob u=>obtain ⟨e,_⟩:=x;exact Heap.lt_size e
 | tbl ps=>exact Heap.lt_size (show h.get? a=some _ from x)
 | met f y=>exact Heap.lt_size (show h.get? a=some _ from x)
 | ext φ=>obtain ⟨_,⟨_,e⟩,_⟩:=x;exact Heap.lt_size e
theorem Paired.mapP {α β:Type} {F G:α→β→Prop}:∀ {l₁:List α} {l₂:List β},Paired F l₁ l₂→(∀ a b,F a b→G a b)→Paired G l₁ l₂
 | _,_,.nil,_=>.nil
 | _,_,.cons r t,f=>.cons (f _ _ r) (Paired.mapP t f)
theorem ObjOk.stay (x:ObjOk P w H h a o) (k:∀ b u,(b=a∨H b=some (.own a))→h.get? b=some u→h'.get? b=some u)
  (ho:∀ b,H b=some (.own a)→H' b=some (.own a)) (ht:∀ b xs,H b=some (.tup xs)→H' b=some (.tup xs)):ObjOk P w H' h' a o:=by
 induction o with
 | lst xs=>obtain ⟨z,its,n,r,e⟩:=x;exact ⟨z,its,n,r,k _ _ (.inl rfl) e⟩
 | tup xs=>obtain ⟨z,its,r,ob,e,c⟩:=x;exact ⟨z,its,r,ob,k _ _ (.inl rfl) e,c⟩
 | dK kvs=>obtain ⟨z,y,vs,r,ob,es,ep,e,c⟩:=x;exact ⟨z,y,vs,r,ob,es,ep,k _ _ (.inl rfl) e,c⟩
 | dT kvs =>
  obtain ⟨z,y,xs,r,ob,es,ep,e,c⟩:=x
  exact ⟨z,y,xs,Paired.mapP r fun p q z=>⟨z.1,ht _ _ z.2.1,z.2.2⟩,ob,es,ep,k _ _ (.inl rfl) e,c⟩
 | set S n=>obtain ⟨ob,es,ep,t,e,c⟩:=x;exact ⟨ob,es,ep,t,k _ _ (.inl rfl) e,c⟩
 | ins C dx fs =>
  obtain ⟨d,z,ne,e,mA,⟨od,es,ep,e2,c⟩,r⟩:=x
  exact ⟨ho _ d,z,ne,k _ _ (.inl rfl) e,mA,⟨od,es,ep,k _ _ (.inr d) e2,c⟩,r⟩
 | own y=>obtain ⟨ob,e⟩:=x;exact ⟨ob,k _ _ (.inl rfl) e⟩
 | xd fs=>obtain ⟨mA,⟨od,es,ep,e,c⟩,r⟩:=x;exact ⟨mA,⟨od,es,ep,k _ _ (.inl rfl) e,c⟩,r⟩
 | rng lo hi=>obtain ⟨t,u,v,e⟩:=x;exact ⟨t,u,v,k _ _ (.inl rfl) e⟩
 | frz ob u ih=>obtain ⟨e,q⟩:=x;exact ⟨k _ _ (.inl rfl) e,ih q⟩
 | tbl ps =>
  have e:h.get? a=some { cls:=.none,data:=.fields ps }:=x
  show h'.get? a=some { cls:=.none,data:=.fields ps }
  exact k a _ (.inl rfl) e
 | met f y =>
  have e:h.get? a=some (PySem.W.methodObj (.ref f) (.ref y)):=x
  show h'.get? a=some (PySem.W.methodObj (.ref f) (.ref y))
  exact k a _ (.inl rfl) e
 | ext φ=>obtain ⟨p,⟨o,e⟩,st⟩:=x;exact ⟨st _ _ p fun o q=>k _ _ (.inl rfl) q,⟨o,k _ _ (.inl rfl) e⟩,st⟩
theorem HOk.lt (x:HOk P w H h) (e:H a=some o):a < h.objs.size:=(x a o e).lt
theorem HOk.fresh (x:HOk P w H h) (e:h.objs.size≤a):H a=none:=by
 cases q:H a with
 | none=>rfl
 | some u=>exact absurd (Nat.lt_of_lt_of_le (x.lt q) e) (Nat.lt_irrefl _)
theorem HOk.kept (x:HOk P w H h) (k:∀ b u,h.get? b=some u→h'.get? b=some u):HOk P w H h':=fun a o e =>
 (x a o e).stay (fun b u _ q=>k b u q) (fun _ q=>q) fun _ _ q=>q
theorem HOk.laid (x:HOk P w H h) (k:∀ b u,h.get? b=some u→h'.get? b=some u) (hp:h.objs.size≤a) (new:ObjOk P w (upd H a o) h' a o):HOk P w (upd H a o) h':=fun b u e=>by
 have hn:=x.fresh hp
 by_cases hb:b=a
 ·subst hb;rw [upd_same] at e;cases e;exact new
 ·rw [upd_ne hb] at e
  exact (x b u e).stay (fun c v _ q=>k c v q) (fun c q=>by rw [upd_ne (ne_of_none q hn)];exact q) fun c xs q=>by rw [upd_ne (ne_of_none q hn)];exact q
end
def Rd (H:Hp) (a:Addr) (u:HO):Prop:=H a=some u∨∃ o,H a=some (.frz o u)
theorem Rd.of {H:Hp} {a:Addr} {u:HO} (h:H a=some u):Rd H a u:=.inl h
theorem Rd.ok {P:Program} {w:World} {H:Hp} {h:Heap} {a:Addr} {u:HO} (r:Rd H a u) (x:HOk P w H h):ObjOk P w H h a u:=by
 rcases r with r | ⟨o,r⟩
 ·exact x a u r
 ·obtain ⟨_,q⟩:=x a _ r
  exact q
def Mut:Option HO→Prop
 | some (.lst _)=>True
 | some (.dK _)=>True
 | some (.dT _)=>True
 | some (.set _ _)=>True
 | some (.ins _ _ _)=>True
 | some (.ext _)=>True
 | _=>False
section
variable {P:Program} {w:World} {H:Hp} {h h':Heap} {x e:Addr} {o':HO}
theorem HOk.write (ok:HOk P w H h) (mu:Mut (H x)) (he:e=x∨H e=some (.own x)) (k:∀ b u,b≠e→h.get? b=some u→h'.get? b=some u) (heo:∃ u,h'.get? e=some u)
  (new:ObjOk P w (upd H x o') h' x o'):HOk P w (upd H x o') h':=fun b u q=>by
 have nown:∀ c y,H c=some (.own y)→c≠x:=fun c y r z=>by subst z;rw [r] at mu;exact mu
 have ntup:∀ c xs,H c=some (.tup xs)→c≠x:=fun c xs r z=>by subst z;rw [r] at mu;exact mu
 by_cases hb:b=x
 ·subst hb;rw [upd_same] at q;cases q;exact new
 ·rw [upd_ne hb] at q
  by_cases hbe:b=e
  ·have q':H b=some (.own x):=by
    rcases he with z | z
    ·exact absurd (hbe.trans z) hb
    ·rw [hbe];exact z
   rw [q] at q';cases q'
   obtain ⟨v,hv⟩:=heo
   exact ⟨v,by rw [hbe];exact hv⟩
  ·refine (ok b u q).stay (fun c v hc r=>k c v ?_ r) (fun c r=>by rw [upd_ne (nown c b r)];exact r) fun c xs r=>by rw [upd_ne (ntup c xs r)];exact r
   rcases hc with rfl | hc
   ·exact hbe
   ·rintro rfl
    rcases he with z | z
    ·exact nown c b hc z
    ·rw [hc] at z;cases z;exact hb rfl
end
structure Un (fs ex:List Addr) (H H':Hp) (h h':Heap):Prop where
 keep:∀ b o,h.get? b=some o→H b=none→b ∉ fs→b ∉ ex→h'.get? b=some o
 slot:∀ b o,h.get? b=some o→H b=none→b ∈ fs→b ∉ ex→∃ sl,h'.get? b=some { o with slots:=sl }
 free:∀ b o,h.get? b=some o→H b=none→b ∉ ex→H' b=none
 there:∀ b o,h.get? b=some o→b ∉ ex→∃ o',h'.get? b=some o'
 tups:∀ b xs,H b=some (.tup xs)→H' b=some (.tup xs)
 frzs:∀ b o u,H b=some (.frz o u)→H' b=some (.frz o u)
 tbls:∀ b ps,H b=some (.tbl ps)→∃ more,H' b=some (.tbl (ps ++ more))
section
variable {fs fs' ex ex':List Addr} {H H1 H2:Hp} {h h1 h2 h':Heap} {a x e:Addr} {o:HO}
theorem Un.any (u:Un fs ex H H1 h h1) {b:Addr} {ob:Obj} (q:h.get? b=some ob) (n:H b=none) (hx:b ∉ ex):∃ sl,h1.get? b=some { ob with slots:=sl }:=by
 by_cases hb:b ∈ fs
 ·exact u.slot b ob q n hb hx
 ·exact ⟨ob.slots,u.keep b ob q n hb hx⟩
theorem Un.trans (a:Un fs ex H H1 h h1) (b:Un fs ex H1 H2 h1 h2):Un fs ex H H2 h h2 where
 keep:=fun c ob q n hc hx=>b.keep c ob (a.keep c ob q n hc hx) (a.free c ob q n hx) hc hx
 slot:=fun c ob q n hc hx=>by
  obtain ⟨sl,e1⟩:=a.slot c ob q n hc hx
  obtain ⟨sl',e2⟩:=b.slot c _ e1 (a.free c ob q n hx) hc hx
  exact ⟨sl',e2⟩
 free:=fun c ob q n hx=>by
  obtain ⟨o',e1⟩:=a.there c ob q hx
  exact b.free c o' e1 (a.free c ob q n hx) hx
 there:=fun c ob q hx=>by
  obtain ⟨o',e1⟩:=a.there c ob q hx
  exact b.there c o' e1 hx
 tups:=fun c xs q=>b.tups c xs (a.tups c xs q)
 frzs:=fun c ob xs q=>b.frzs c ob xs (a.frzs c ob xs q)
 tbls:=fun c ps q=>by
  obtain ⟨m1,e1⟩:=a.tbls c ps q
  obtain ⟨m2,e2⟩:=b.tbls c _ e1
  exact ⟨m1 ++ m2,by rw [e2,Array.append_assoc]⟩
theorem Un.kept (k:∀ b u,h.get? b=some u→h'.get? b=some u):Un fs ex H H h h' :=
 ⟨fun b ob q _ _ _=>k b ob q,fun b ob q _ _ _=>⟨ob.slots,k b ob q⟩,fun _ _ _ n _=>n,fun b ob q _=>⟨ob,k b ob q⟩,fun _ _ q=>q,fun _ _ _ q=>q,fun _ ps q=>⟨#[],by rw [q];simp⟩⟩
theorem Un.refl:Un fs ex H H h h:=Un.kept fun _ _ q=>q
theorem Un.laid (k:∀ b u,h.get? b=some u→h'.get? b=some u) (hp:h.objs.size≤a) (hn:H a=none):Un fs ex H (upd H a o) h h' where
 keep:=fun b u q _ _ _=>k b u q
 slot:=fun b u q _ _ _=>⟨u.slots,k b u q⟩
 free:=fun b u q n _=>by rw [upd_ne (Nat.ne_of_lt (Nat.lt_of_lt_of_le (Heap.lt_size q) hp))];exact n
 there:=fun b u q _=>⟨u,k b u q⟩
 tups:=fun b xs q=>by rw [upd_ne (ne_of_none q hn)];exact q
 frzs:=fun b u xs q=>by rw [upd_ne (ne_of_none q hn)];exact q
 tbls:=fun b ps q=>⟨#[],by rw [upd_ne (ne_of_none q hn),q];simp⟩
theorem Un.write (mu:Mut (H x)) (he:e=x∨H e=some (.own x)) (k:∀ b u,b≠e→h.get? b=some u→h'.get? b=some u) (heo:∃ u,h'.get? e=some u):Un fs ex H (upd H x o) h h':=by
 have hx:∀ b,H b=none→b≠x:=fun b n z=>by subst z;rw [n] at mu;exact mu
 have hb:∀ b,H b=none→b≠e:=fun b n z=>by
  subst z
  rcases he with r | r
  ·exact hx b n r
  ·rw [n] at r;cases r
 have hm:∀ b u,H b=some u→¬ Mut (some u)→b≠x:=fun b u q nm z=>by subst z;rw [q] at mu;exact nm mu
 refine ⟨fun b u q n _ _=>k b u (hb b n) q,fun b u q n _ _=>⟨u.slots,k b u (hb b n) q⟩,fun b u q n _=>by rw [upd_ne (hx b n)];exact n,fun b u q _=>?_,
  fun b xs q=>by rw [upd_ne (hm b _ q fun z=>z)];exact q,fun b u xs q=>by rw [upd_ne (hm b _ q fun z=>z)];exact q,fun b ps q=>⟨#[],by rw [upd_ne (hm b _ q fun z=>z),q];simp⟩⟩
 by_cases hbe:b=e
 ·subst hbe;exact heo
 ·exact ⟨u,k b u hbe q⟩
theorem Un.mono (u:Un fs ex H H1 h h1) (hs:∀ b ∈ fs,b ∈ fs') (hx:∀ b ∈ ex,b ∈ ex'):Un fs' ex' H H1 h h1 :=
 ⟨fun b ob q n hb he=>u.keep b ob q n (fun z=>hb (hs b z)) fun z=>he (hx b z),fun _ _ q n _ he=>u.any q n fun z=>he (hx _ z),fun b ob q n he=>u.free b ob q n fun z=>he (hx b z),fun b ob q he=>u.there b ob q fun z=>he (hx b z),u.tups,u.frzs,u.tbls⟩
end
def trk (h:Heap) (H:Hp):List Addr:=(List.range h.objs.size).filter fun a=>(H a).isSome
def hidT (h:Heap) (H:Hp):Heap:=PySem.W.hideAll h (trk h H)
theorem hidT_size (h:Heap) (H:Hp):(hidT h H).objs.size=h.objs.size:=PySem.W.hideAll_size _ _
theorem hidT_get {h:Heap} {H:Hp} {b:Addr} {o:Obj} (e:h.get? b=some o) (n:H b=none):(hidT h H).get? b=some o :=
 PySem.W.hideAll_get _ e fun hm=>by
  have q:(H b).isSome=true:=(List.mem_filter.mp hm).2
  rw [n] at q;simp at q
theorem of_hidT {h:Heap} {H:Hp} {b:Addr} {o:Obj} (e:(hidT h H).get? b=some o):h.get? b=some o∧H b=none:=by
 have e':h.get? b=some o:=PySem.W.of_hideAll (trk h H) e
 refine ⟨e',?_⟩
 cases q:H b with
 | none=>rfl
 | some x =>
  have hm:b ∈ trk h H:=List.mem_filter.mpr ⟨List.mem_range.mpr (Heap.lt_size e'),by simp [q]⟩
  have z:(hidT h H).get? b=none:=PySem.W.hideAll_none (trk h H) hm
  rw [z] at e;cases e
def allNews (g h:Heap) (L:Addr):List (Addr × Obj):=(List.range h.objs.size).filterMap fun a=>if a=L∨(g.get? a).isSome=true then none else (h.get? a).map fun o=>(a,o)
def rest (g h:Heap) (L d:Addr):List (Addr × Obj):=(allNews g h L).filter fun p=>decide (p.1≠d)
end L2
namespace L2
open PySem PySem.Spec PyProof.Rows
structure Mod (K:PySem.W.Frag) (mg:Str→Option Value) (base:Heap):Prop where
 kin:K.In base
 glob:base.Ns mainGlobals mg
 blt:∃ mb,base.Ns builtinsNs mb∧∀ x:Str,x≠"__name__"→mb x=bootBuiltins x
 nolimit:base.NoLimit
structure Cx where
 prog:Program
 w:World
 K:PySem.W.Frag
 mg:Str→Option Value
 base:Heap
 A:Around
 N:List Str
 s₀:Shared
 H₀:Hp
 env:Env
 outer:List Env
 stack:List Env
 ex:List Addr
 fn:Str→Bool
 calm:Bool
 pn:List (Addr × Obj)
 xe:Value→Shared→Prop
def frs (l:List Env):List Addr:=l.filterMap (·.frame)
abbrev Cx.fs (X:Cx):List Addr:=frs X.outer
def Vis (sc:Scope) (x:Str):Prop:=sc.names.lookup x=some .local∨sc.names.lookup x=some .cell∨sc.names.lookup x=some .free
def Loc (sc:Scope) (x:Str):Prop:=sc.names.lookup x=some .local∨sc.names.lookup x=some .cell
def Look (env:Env) (h:Heap) (m:Str→Option Value) (x:Str) (u:Value):Prop :=
 (env.kindOf x=some .local∧m x=some u)∨((env.kindOf x=some .cell∨env.kindOf x=some .free)∧∃ c,env.cells.lookup x=some c∧h.IsCell c (some u))
structure Cx.Ok (X:Cx):Prop where
 mod:Mod X.K X.mg X.base
 kind:X.env.scope.kind=.function
 glob:X.env.globals=mainGlobals
 blt:X.env.builtins=builtinsNs
 above:X.s₀.heap.objs.size≤X.env.locals
 inj:∀ x y c,X.env.cells.lookup x=some c→X.env.cells.lookup y=some c→x=y
 has:∀ x,(X.env.kindOf x=some .cell∨X.env.kindOf x=some .free)→∃ c,X.env.cells.lookup x=some c
 cab:∀ x c,X.fn x=true→X.env.cells.lookup x=some c→X.s₀.heap.objs.size≤c
 hd:X.calm=true→X.A.handled=none
 frames:X.A.frames=some X.stack
 stk:X.stack=X.outer∨(X.stack=X.env :: X.outer∧X.env.frame=some X.env.locals)
 exf:∀ b ∈ X.ex,b≠X.env.locals∧∀ x c,X.env.cells.lookup x=some c→c≠b
 bs:∀ b o,X.base.get? b=some o→X.s₀.heap.get? b=some o∧X.H₀ b=none
 bsz:X.base.objs.size≤X.s₀.heap.objs.size
 noex:∀ b o,X.base.get? b=some o→b ∉ X.ex
 exfs:∀ b ∈ X.ex,b ∉ X.fs
 funs:X.s₀.heap.FunFrames X.base X.outer
 frf:∀ b ∈ X.fs,X.H₀ b=none
structure Inv (X:Cx) (pins:List (Addr × Obj)) (σ:List (Option V)) (H:Hp) (s:Shared):Prop where
 ok:X.Ok
 os:s.os=X.s₀.os
 bare:AllBare s.gens
 base:Un X.fs X.ex X.H₀ H X.s₀.heap s.heap
 loc:∃ m,s.heap.Ns X.env.locals m∧∀ (i:Nat) (x:Str) (v:V),X.N[i]?=some x→σ[i]?=some (some v)→Vis X.env.scope x→∃ u,RelV v u∧Look X.env s.heap m x u
 cell:∀ x c,X.env.cells.lookup x=some c→∃ v,s.heap.IsCell c v
 free:H X.env.locals=none
 freeC:∀ x c,X.env.cells.lookup x=some c→H c=none
 pin:∀ p ∈ X.pn ++ pins,s.heap.get? p.1=some p.2∧H p.1=none∧p.1≠X.env.locals∧p.1 ∉ X.fs∧∀ v,p.2.data≠.cell v
 hok:HOk X.prog X.w H s.heap
 len:σ.length=X.N.length
section
variable {X:Cx} {pins:List (Addr × Obj)} {σ:List (Option V)} {H H':Hp} {s:Shared} {h':Heap}
theorem Cx.Ok.nofr (ok:X.Ok) {b:Addr} {o:Obj} (e:X.base.get? b=some o):b ∉ X.fs:=fun hb=>by
 have:=(ok.funs.mem hb).1
 rw [e] at this;cases this
theorem Inv.bs (I:Inv X pins σ H s):∀ b o,X.base.get? b=some o→s.heap.get? b=some o∧H b=none:=fun b o e =>
 ⟨I.base.keep b o (I.ok.bs b o e).1 (I.ok.bs b o e).2 (I.ok.nofr e) (I.ok.noex b o e),I.base.free b o (I.ok.bs b o e).1 (I.ok.bs b o e).2 (I.ok.noex b o e)⟩
theorem Inv.bk (I:Inv X pins σ H s):∀ b o,X.base.get? b=some o→s.heap.get? b=some o:=fun b o e=>(I.bs b o e).1
theorem Inv.mod (I:Inv X pins σ H s):Mod X.K X.mg X.base:=I.ok.mod
theorem Inv.kIn (I:Inv X pins σ H s):X.K.In s.heap:=I.ok.mod.kin.keeps I.bk
theorem Inv.nolimit (I:Inv X pins σ H s):s.heap.NoLimit:=I.ok.mod.nolimit.keeps I.bk
theorem Inv.fr (I:Inv X pins σ H s):∃ m,Fr X.base X.env.locals s.heap m :=
 let ⟨m,hn,_⟩:=I.loc
 ⟨m,hn,I.bk,Nat.le_trans I.ok.bsz I.ok.above⟩
theorem Inv.lt (I:Inv X pins σ H s):X.env.locals < s.heap.objs.size:=let ⟨_,hn,_⟩:=I.loc;hn.lt
theorem Inv.sz (I:Inv X pins σ H s):X.s₀.heap.objs.size≤s.heap.objs.size:=Nat.le_trans I.ok.above (Nat.le_of_lt I.lt)
theorem Inv.nofs (I:Inv X pins σ H s) {a:Addr} (h:s.heap.objs.size≤a):a ∉ X.fs:=fun hb=>by
 obtain ⟨_,o,ho,_⟩:=I.ok.funs.mem hb
 exact absurd (Nat.lt_of_lt_of_le (Heap.lt_size ho) (Nat.le_trans I.sz h)) (Nat.lt_irrefl _)
theorem Inv.cne (I:Inv X pins σ H s):∀ x c,X.env.cells.lookup x=some c→c≠X.env.locals:=fun x c e z=>by
 obtain ⟨v,o,ho,hd⟩:=I.cell x c e
 obtain ⟨m,⟨o',es,ep,ho',hd',_⟩,_⟩:=I.loc
 rw [z,ho'] at ho;cases ho;rw [hd'] at hd;cases hd
theorem Inv.funs (I:Inv X pins σ H s):s.heap.FunFrames X.base X.outer:=by
 have all:∀ (l:List Env),(∀ b ∈ frs l,b ∈ X.fs)→X.s₀.heap.FunFrames X.base l→s.heap.FunFrames X.base l:=by
  intro l
  induction l with
  | nil=>intro _ _;trivial
  | cons env r ih =>
   intro hs hl
   obtain ⟨hk,⟨L,o,hf,hn,ho,hd⟩,hr⟩:=hl
   have hL:L ∈ X.fs:=hs L (by unfold frs;rw [List.filterMap_cons,hf];exact List.mem_cons_self)
   obtain ⟨sl,e⟩:=I.base.slot L o ho (I.ok.frf L hL) hL fun z=>I.ok.exfs L z hL
   exact ⟨hk,⟨L,_,hf,hn,e,hd⟩,ih (fun b hb=>hs b (by unfold frs;rw [List.filterMap_cons,hf];exact List.mem_cons_of_mem _ hb)) hr⟩
 exact all X.outer (fun _ hb=>hb) I.ok.funs
theorem Inv.stack (I:Inv X pins σ H s):s.heap.FunFrames X.base X.stack:=by
 rcases I.ok.stk with e | ⟨e,hf⟩
 ·rw [e];exact I.funs
 ·rw [e]
  obtain ⟨m,hn,_⟩:=I.loc
  refine .cons (by rw [I.ok.kind];decide) hf hn ?_ I.funs
  exact Heap.get?_none_of_le (Nat.le_trans I.ok.bsz I.ok.above)
theorem Inv.stkSub (I:Inv X pins σ H s):∀ b ∈ frs X.stack,b ∈ X.env.locals :: X.fs:=fun b hb=>by
 rcases I.ok.stk with e | ⟨e,hf⟩
 ·rw [e] at hb;exact List.mem_cons_of_mem _ hb
 ·rw [e] at hb
  unfold frs at hb
  rw [List.filterMap_cons,hf] at hb
  exact hb
theorem Inv.stkFree (I:Inv X pins σ H s):∀ b ∈ frs X.stack,H b=none:=fun b hb=>by
 rcases List.mem_cons.mp (I.stkSub b hb) with e | hb
 ·rw [e];exact I.free
 ·obtain ⟨_,o,ho,_⟩:=I.ok.funs.mem hb
  exact I.base.free b o ho (I.ok.frf b hb) fun z=>I.ok.exfs b z hb
theorem Inv.step {g':Array GenState} {t':Nat} {d':Drawn} {ch:List Addr} (I:Inv X pins σ H s)
  (hch:∀ b ∈ ch,(b ∈ X.ex∨X.s₀.heap.objs.size≤b)∧b≠X.env.locals∧(∀ x c,X.env.cells.lookup x=some c→c≠b)∧∀ p ∈ X.pn ++ pins,p.1≠b)
  (keep:∀ b o,b≠X.env.locals→b ∉ X.fs→b ∉ ch→s.heap.get? b=some o→H b=none→h'.get? b=some o)
  (slot:∀ b o,b≠X.env.locals→b ∈ X.fs→b ∉ ch→s.heap.get? b=some o→H b=none→∃ sl,h'.get? b=some { o with slots:=sl }) (free:∀ b o,b ∉ ch→s.heap.get? b=some o→H b=none→H' b=none)
  (there:∀ b o,b ∉ ch→s.heap.get? b=some o→∃ o',h'.get? b=some o')
  (tups:∀ b xs,H b=some (.tup xs)→H' b=some (.tup xs)) (frzs:∀ b o u,H b=some (.frz o u)→H' b=some (.frz o u)) (tbls:∀ b ps,H b=some (.tbl ps)→∃ more,H' b=some (.tbl (ps ++ more)))
  (ns:∀ m,s.heap.Ns X.env.locals m→h'.Ns X.env.locals m) (hok:HOk X.prog X.w H' h') (hg:AllBare g') :
  Inv X pins σ H' { s with heap:=h',gens:=g',drawn:=d',toks:=t' }:=by
 have neL:∀ b o,X.s₀.heap.get? b=some o→b≠X.env.locals:=fun b o e=>Nat.ne_of_lt (Nat.lt_of_lt_of_le (Heap.lt_size e) I.ok.above)
 have neC:∀ b o,X.s₀.heap.get? b=some o→b ∉ X.ex→b ∉ ch:=fun b o e hx hb=>by
  rcases (hch b hb).1 with z | z
  ·exact hx z
  ·exact absurd (Nat.lt_of_lt_of_le (Heap.lt_size e) z) (Nat.lt_irrefl _)
 have cellK:∀ x c,X.env.cells.lookup x=some c→∀ v,s.heap.IsCell c v→h'.IsCell c v:=fun x c e v ⟨o,ho,hd⟩=>by
  have nch:c ∉ ch:=fun z=>(hch c z).2.2.1 x c e rfl
  by_cases hc:c ∈ X.fs
  ·obtain ⟨sl,q⟩:=slot c o (I.cne x c e) hc nch ho (I.freeC x c e)
   exact ⟨_,q,hd⟩
  ·exact ⟨o,keep c o (I.cne x c e) hc nch ho (I.freeC x c e),hd⟩
 refine ⟨I.ok,I.os,hg,⟨fun b o e n hb hx=>?_,fun b o e n hb hx=>?_,fun b o e n hx=>?_,fun b o e hx=>?_,fun b xs e=>tups b xs (I.base.tups b xs e),fun b o xs e=>frzs b o xs (I.base.frzs b o xs e),fun b ps e=>?_⟩,?_,fun x c e=>?_,?_,fun x c e=>?_,fun p hp=>?_,hok,I.len⟩
 ·exact keep b o (neL b o e) hb (neC b o e hx) (I.base.keep b o e n hb hx) (I.base.free b o e n hx)
 ·obtain ⟨sl,e1⟩:=I.base.slot b o e n hb hx
  obtain ⟨sl',e2⟩:=slot b _ (neL b o e) hb (neC b o e hx) e1 (I.base.free b o e n hx)
  exact ⟨sl',e2⟩
 ·obtain ⟨o',e1⟩:=I.base.there b o e hx
  exact free b o' (neC b o e hx) e1 (I.base.free b o e n hx)
 ·obtain ⟨o',e1⟩:=I.base.there b o e hx
  exact there b o' (neC b o e hx) e1
 ·obtain ⟨m1,e1⟩:=I.base.tbls b ps e
  obtain ⟨m2,e2⟩:=tbls b _ e1
  exact ⟨m1 ++ m2,by rw [e2,Array.append_assoc]⟩
 ·obtain ⟨m,hn,hl⟩:=I.loc
  refine ⟨m,ns m hn,fun i x v e1 e2 e3=>?_⟩
  obtain ⟨u,r,l⟩:=hl i x v e1 e2 e3
  refine ⟨u,r,?_⟩
  rcases l with l | ⟨k,c,e,z⟩
  ·exact .inl l
  ·exact .inr ⟨k,c,e,cellK x c e _ z⟩
 ·obtain ⟨v,z⟩:=I.cell x c e
  exact ⟨v,cellK x c e v z⟩
 ·obtain ⟨m,⟨o,_,_,ho,_⟩,_⟩:=I.loc
  exact free _ o (fun z=>(hch _ z).2.1 rfl) ho I.free
 ·obtain ⟨v,o,ho,hd⟩:=I.cell x c e
  exact free c o (fun z=>(hch c z).2.2.1 x c e rfl) ho (I.freeC x c e)
 ·obtain ⟨e,n,ne,nf,d⟩:=I.pin p hp
  have nch:p.1 ∉ ch:=fun z=>(hch p.1 z).2.2.2 p hp rfl
  exact ⟨keep p.1 p.2 ne nf nch e n,free p.1 p.2 nch e n,ne,nf,d⟩
theorem Inv.un {t':Nat} (I:Inv X pins σ H s) (u:Un X.fs [] H H' s.heap h') (hok:HOk X.prog X.w H' h'):Inv X pins σ H' { s with heap:=h',toks:=t' }:=by
 obtain ⟨m,⟨o,es,ep,ho,r⟩,_⟩:=id I.loc
 obtain ⟨sl,hL⟩:=u.any ho I.free (by simp)
 exact I.step (g':=s.gens) (d':=s.drawn) (ch:=[]) (fun _ z=>nomatch z) (fun b o _ hb _ e n=>u.keep b o e n hb (by simp)) (fun b o _ hb _ e n=>u.slot b o e n hb (by simp)) (fun b o _ e n=>u.free b o e n (by simp)) (fun b o _ e=>u.there b o e (by simp)) u.tups u.frzs u.tbls (fun m' hm=>by
  obtain ⟨o',es',ep',ho',r'⟩:=hm
  rw [ho] at ho';cases ho'
  exact ⟨_,es',ep',hL,r'⟩) hok I.bare
theorem Inv.call {g':Array GenState} {t':Nat} {d':Drawn} {ch:List Addr} (I:Inv X pins σ H s) (u:Un (frs X.stack) ch H H' s.heap h') (hok:HOk X.prog X.w H' h') (hg:AllBare g')
  (hch:∀ b ∈ ch,(b ∈ X.ex∨X.s₀.heap.objs.size≤b)∧b≠X.env.locals∧(∀ x c,X.env.cells.lookup x=some c→c≠b)∧∀ p ∈ X.pn ++ pins,p.1≠b) :
  Inv X pins σ H' { s with heap:=h',gens:=g',drawn:=d',toks:=t' }:=by
 obtain ⟨m,⟨o,es,ep,ho,r⟩,_⟩:=id I.loc
 obtain ⟨sl,hL⟩:=u.any ho I.free fun z=>(hch _ z).2.1 rfl
 exact I.step (ch:=ch) hch (fun b o hL hb hc e n=>u.keep b o e n (fun z=>(List.mem_cons.mp (I.stkSub b z)).elim hL hb) hc) (fun b o _ _ hc e n=>u.any e n hc) (fun b o hc e n=>u.free b o e n hc) (fun b o hc e=>u.there b o e hc) u.tups u.frzs u.tbls (fun m' hm=>by
  obtain ⟨o',es',ep',ho',r'⟩:=hm
  rw [ho] at ho';cases ho'
  exact ⟨_,es',ep',hL,r'⟩) hok hg
theorem Inv.turned {t':Nat} {it:Addr} (I:Inv X pins σ H s) (k:∀ b o,b≠it→s.heap.get? b=some o→h'.get? b=some o) (hn:H it=none) (hL:it≠X.env.locals)
  (h1:it ∈ X.ex∨X.s₀.heap.objs.size≤it) (h2:∀ x c,X.env.cells.lookup x=some c→c≠it) (h3:∀ p ∈ X.pn ++ pins,p.1≠it):Inv X pins σ H { s with heap:=h',toks:=t' }:=by
 have nit:∀ b u,H b=some u→b≠it:=fun b u e z=>by rw [z,hn] at e;cases e
 refine I.step (g':=s.gens) (d':=s.drawn) (ch:=[it]) (fun b hb=>?_) (fun b o _ _ hc e _=>k b o (fun z=>hc (by simp [z])) e) (fun b o _ _ hc e _=>⟨o.slots,k b o (fun z=>hc (by simp [z])) e⟩) (fun _ _ _ _ n=>n)
  (fun b o hc e=>⟨o,k b o (fun z=>hc (by simp [z])) e⟩) (fun _ _ e=>e) (fun _ _ _ e=>e) (fun b ps e=>⟨#[],by rw [e];simp⟩) (fun m hm=>?_) (fun b u e=>?_) I.bare
 ·have e:b=it:=by simpa using hb
  subst e
  exact ⟨h1,hL,h2,h3⟩
 ·obtain ⟨o,es,ep,ho,r⟩:=hm
  exact ⟨o,es,ep,k _ o (Ne.symm hL) ho,r⟩
 ·refine (I.hok b u e).stay (fun c v hc q=>k c v ?_ q) (fun _ q=>q) fun _ _ q=>q
  rcases hc with z | z
  ·rw [z];exact nit b u e
  ·exact nit c _ z
theorem Inv.tok (I:Inv X pins σ H s) (t:Nat):Inv X pins σ H { s with toks:=t }:=I.un (h':=s.heap) (t':=t) Un.refl I.hok
theorem Inv.kept {t':Nat} (I:Inv X pins σ H s) (k:∀ b u,s.heap.get? b=some u→h'.get? b=some u):Inv X pins σ H { s with heap:=h',toks:=t' }:=I.un (Un.kept k) (I.hok.kept k)
theorem Inv.laid {a:Addr} {o:HO} {t':Nat} (I:Inv X pins σ H s) (k:∀ b u,s.heap.get? b=some u→h'.get? b=some u) (hp:s.heap.objs.size≤a) (new:ObjOk X.prog X.w (upd H a o) h' a o) :
  Inv X pins σ (upd H a o) { s with heap:=h',toks:=t' }:=I.un (Un.laid k hp (I.hok.fresh hp)) (I.hok.laid k hp new)
theorem Inv.write {x e:Addr} {o:HO} {t':Nat} (I:Inv X pins σ H s) (mu:Mut (H x)) (he:e=x∨H e=some (.own x)) (k:∀ b u,b≠e→s.heap.get? b=some u→h'.get? b=some u) (heo:∃ u,h'.get? e=some u)
  (new:ObjOk X.prog X.w (upd H x o) h' x o):Inv X pins σ (upd H x o) { s with heap:=h',toks:=t' }:=I.un (Un.write mu he k heo) (I.hok.write mu he k heo new)
theorem Inv.pins_of {pins':List (Addr × Obj)} (I:Inv X pins σ H s) (h:∀ p ∈ pins',s.heap.get? p.1=some p.2∧H p.1=none∧p.1≠X.env.locals∧p.1 ∉ X.fs∧∀ v,p.2.data≠.cell v):Inv X pins' σ H s :=
 ⟨I.ok,I.os,I.bare,I.base,I.loc,I.cell,I.free,I.freeC,fun p hp=>(List.mem_append.mp hp).elim (fun z=>I.pin p (List.mem_append_left _ z)) (h p),I.hok,I.len⟩
theorem nodup_ix {N:List Str} (hN:N.Nodup) {i j:Nat} {x:Str} (a:N[i]?=some x) (b:N[j]?=some x):i=j:=by
 obtain ⟨h1,e1⟩:=List.getElem?_eq_some_iff.mp a
 obtain ⟨h2,e2⟩:=List.getElem?_eq_some_iff.mp b
 exact (List.getElem_inj hN).mp (e1.trans e2.symm)
theorem store_ok2 {M:Model} {A:Around} {E:Value→Shared→Prop} {i:Nat} {x:Str} {v:V} {u:Value} {Q:Unit→Shared→Prop} (I:Inv X pins σ H s) (hN:X.N.Nodup) (hi:X.N[i]?=some x) (hx:Loc X.env.scope x) (r:RelV v u)
  (h:∀ s',Inv X pins (σ.set i (some v)) H s'→(∃ a,Heap.SameBut a s.heap s'.heap∧(a=X.env.locals∨X.env.cells.lookup x=some a))→Q () s') (hf:X.fn x=true∨X.env.scope.names.lookup x=some .local:=by first | exact .inl rfl | exact .inr rfl | assumption):wpAny M A (storeName X.env x u) Q E s:=by
 obtain ⟨m,hn,hl⟩:=id I.loc
 have hcls:(X.env.scope.kind == .class || (X.env.scope.kind == .module && X.env.locals != X.env.globals))=false:=by rw [I.ok.kind];rfl
 have hiσ:i < σ.length:=by rw [I.len];exact (List.getElem?_eq_some_iff.mp hi).1
 have cne:=I.cne
 have tracked:∀ {a:Addr} {h':Heap},(∃ o,s.heap.get? a=some o∧H a=none)→Heap.SameBut a s.heap h'→HOk X.prog X.w H h':=fun {a h'} ha hs b ob e=>by
  obtain ⟨_,_,hfree⟩:=ha
  refine (I.hok b ob e).stay (fun c w' hc q=>(hs.2 c ?_).trans q) (fun _ q=>q) fun _ _ q=>q
  rintro rfl
  rcases hc with rfl | hc
  ·rw [hfree] at e;cases e
  ·rw [hfree] at hc;cases hc
 rcases hx with hk | hk
 ·refine wpAny_storeName_local hk hn (fun h' hn' hs=>?_) hcls
  obtain ⟨oL,_,_,hoL,_⟩:=id hn
  refine h _ ⟨I.ok,I.os,I.bare,⟨fun b o e n hb hx=>?_,fun b o e n hb hx=>?_,I.base.free,fun b o e hx=>?_,I.base.tups,I.base.frzs,I.base.tbls⟩,⟨_,hn',fun j y v' e1 e2 e3=>?_⟩,fun y c e=>?_,I.free,I.freeC,fun p hp=>?_,tracked ⟨oL,hoL,I.free⟩ hs,by simpa using I.len⟩ ⟨_,hs,.inl rfl⟩
  ·exact (hs.2 b (Nat.ne_of_lt (Nat.lt_of_lt_of_le (Heap.lt_size e) I.ok.above))).trans (I.base.keep b o e n hb hx)
  ·obtain ⟨sl,e1⟩:=I.base.slot b o e n hb hx
   exact ⟨sl,(hs.2 b (Nat.ne_of_lt (Nat.lt_of_lt_of_le (Heap.lt_size e) I.ok.above))).trans e1⟩
  ·obtain ⟨o',e1⟩:=I.base.there b o e hx
   exact ⟨o',(hs.2 b (Nat.ne_of_lt (Nat.lt_of_lt_of_le (Heap.lt_size e) I.ok.above))).trans e1⟩
  ·by_cases hj:j=i
   ·subst hj
    rw [hi] at e1;cases e1
    rw [List.getElem?_set_self hiσ] at e2
    cases e2
    exact ⟨u,r,.inl ⟨hk,by simp⟩⟩
   ·rw [List.getElem?_set_ne (Ne.symm hj)] at e2
    obtain ⟨u',r',q⟩:=hl j y v' e1 e2 e3
    refine ⟨u',r',?_⟩
    rcases q with ⟨k,e⟩ | ⟨k,c,e,z⟩
    ·refine .inl ⟨k,?_⟩
     have:y≠x:=fun e=>hj (nodup_ix hN e1 (e ▸ hi))
     simp [this,e]
    ·exact .inr ⟨k,c,e,z.sameBut hs (cne y c e)⟩
  ·obtain ⟨w',z⟩:=I.cell y c e
   exact ⟨w',z.sameBut hs (cne y c e)⟩
  ·obtain ⟨e,n,ne,nf,d⟩:=I.pin p hp
   exact ⟨(hs.2 p.1 ne).trans e,n,ne,nf,d⟩
 ·have hfn:X.fn x=true:=by
   rcases hf with z | z
   ·exact z
   ·rw [z] at hk;cases hk
  obtain ⟨c,hc⟩:=I.ok.has x (.inl hk)
  obtain ⟨w',z⟩:=I.cell x c hc
  refine wpAny_storeName_cell I.ok.kind hk hc z (fun h' hc' hs=>?_)
  obtain ⟨oc,hoc,hocd⟩:=id z
  refine h { s with heap:=h' } ⟨I.ok,I.os,I.bare,⟨fun b o e n hb hx=>?_,fun b o e n hb hx=>?_,I.base.free,fun b o e hx=>?_,I.base.tups,I.base.frzs,I.base.tbls⟩,⟨m,hn.sameBut hs (Ne.symm (cne x c hc)),fun j y v' e1 e2 e3=>?_⟩,fun y c' e=>?_,I.free,I.freeC,fun p hp=>?_,tracked ⟨oc,hoc,I.freeC x c hc⟩ hs,by simpa using I.len⟩ ⟨c,hs,.inr hc⟩
  ·exact (hs.2 b (Nat.ne_of_lt (Nat.lt_of_lt_of_le (Heap.lt_size e) (I.ok.cab x c hfn hc)))).trans (I.base.keep b o e n hb hx)
  ·obtain ⟨sl,e1⟩:=I.base.slot b o e n hb hx
   exact ⟨sl,(hs.2 b (Nat.ne_of_lt (Nat.lt_of_lt_of_le (Heap.lt_size e) (I.ok.cab x c hfn hc)))).trans e1⟩
  ·obtain ⟨o',e1⟩:=I.base.there b o e hx
   exact ⟨o',(hs.2 b (Nat.ne_of_lt (Nat.lt_of_lt_of_le (Heap.lt_size e) (I.ok.cab x c hfn hc)))).trans e1⟩
  ·by_cases hj:j=i
   ·subst hj
    rw [hi] at e1;cases e1
    rw [List.getElem?_set_self hiσ] at e2
    cases e2
    exact ⟨u,r,.inr ⟨.inl hk,c,hc,hc'⟩⟩
   ·rw [List.getElem?_set_ne (Ne.symm hj)] at e2
    obtain ⟨u',r',q⟩:=hl j y v' e1 e2 e3
    refine ⟨u',r',?_⟩
    rcases q with q | ⟨k,c',e,z'⟩
    ·exact .inl q
    ·refine .inr ⟨k,c',e,z'.sameBut hs ?_⟩
     rintro rfl
     exact hj (nodup_ix hN e1 (I.ok.inj _ _ _ e hc ▸ hi))
  ·by_cases hcc:c'=c
   ·subst hcc;exact ⟨_,hc'⟩
   ·obtain ⟨w2,z2⟩:=I.cell y c' e
    exact ⟨w2,z2.sameBut hs hcc⟩
  ·obtain ⟨e,n,ne,nf,d⟩:=I.pin p hp
   refine ⟨(hs.2 p.1 ?_).trans e,n,ne,nf,d⟩
   intro q
   rw [q,hoc] at e
   have q':oc=p.2:=Option.some.inj e
   exact d w' (by rw [← q'];exact hocd)
theorem store_ok {M:Model} {A:Around} {E:Value→Shared→Prop} {i:Nat} {x:Str} {v:V} {u:Value} {Q:Unit→Shared→Prop} (I:Inv X pins σ H s) (hN:X.N.Nodup) (hi:X.N[i]?=some x) (hx:Loc X.env.scope x) (r:RelV v u)
  (h:∀ s',Inv X pins (σ.set i (some v)) H s'→Q () s') (hf:X.fn x=true∨X.env.scope.names.lookup x=some .local:=by first | exact .inl rfl | exact .inr rfl | assumption):wpAny M A (storeName X.env x u) Q E s :=
 store_ok2 I hN hi hx r (fun s' I' _=>h s' I') hf
theorem Inv.call' {s':Shared} {ch:List Addr} (I:Inv X pins σ H s) (ho:s'.os=s.os) (u:Un (frs X.stack) ch H H' s.heap s'.heap) (hok:HOk X.prog X.w H' s'.heap) (hg:AllBare s'.gens)
  (hch:∀ b ∈ ch,(b ∈ X.ex∨X.s₀.heap.objs.size≤b)∧b≠X.env.locals∧(∀ x c,X.env.cells.lookup x=some c→c≠b)∧∀ p ∈ X.pn ++ pins,p.1≠b):Inv X pins σ H' s':=by
 obtain ⟨h',g',d',t',o'⟩:=s'
 have e:o'=s.os:=ho
 subst e
 exact I.call (g':=g') (t':=t') (d':=d') u hok hg hch
end
abbrev XK:=Value→Option Addr→Hp→Prop
abbrev St:=List (Option V)
abbrev VK:=V→Hp→Prop
abbrev TE:=St→Hp→VK→Prop
abbrev TT:=St→Hp→(Bool→Hp→Prop)→Prop
abbrev TA:=St→Hp→(List V→Hp→Prop)→Prop
structure Ends where
 nx:St→Hp→Prop
 rt:VK
 bk:St→Hp→Prop:=fun _ _=>False
 ct:St→Hp→Prop:=fun _ _=>False
abbrev TS:=Ends→St→Hp→Prop
def EP (X:Cx) (pins:List (Addr × Obj)) (σ:St) (Q:VK) (u:Value) (s':Shared):Prop:=∃ v H',Inv X pins σ H' s'∧RelV v u∧Q v H'
def TP (X:Cx) (pins:List (Addr × Obj)) (σ:St) (Q:Bool→Hp→Prop) (b:Bool) (s':Shared):Prop:=∃ H',Inv X pins σ H' s'∧Q b H'
def AP (X:Cx) (pins:List (Addr × Obj)) (σ:St) (Q:List V→Hp→Prop) (us:List Value) (s':Shared):Prop:=∃ vs H',Inv X pins σ H' s'∧Vals vs us∧Q vs H'
def SP (X:Cx) (pins:List (Addr × Obj)) (D:Ends) (f:Flow) (s':Shared):Prop :=
 match f with
 | .next=>∃ σ' H',Inv X pins σ' H' s'∧D.nx σ' H'
 | .brk=>∃ σ' H',Inv X pins σ' H' s'∧D.bk σ' H'
 | .cont=>∃ σ' H',Inv X pins σ' H' s'∧D.ct σ' H'
 | .ret u=>∃ v σ' H',Inv X pins σ' H' s'∧RelV v u∧D.rt v H'
def PE (X:Cx) (e:Expr) (t:TE):Prop :=
 ∀ (pins:List (Addr × Obj)) (s:Shared) (σ:St) (H:Hp) (Q:VK),Inv X pins σ H s→t σ H Q→wpAny (model X.prog X.w) X.A (eval e X.env) (EP X pins σ Q) X.xe s
def PT (X:Cx) (e:Expr) (t:TT):Prop :=
 ∀ (pins:List (Addr × Obj)) (s:Shared) (σ:St) (H:Hp) (Q:Bool→Hp→Prop),Inv X pins σ H s→t σ H Q→wpAny (model X.prog X.w) X.A (isTrue e X.env (eval e X.env)) (TP X pins σ Q) X.xe s
def PW (X:Cx) (e:Expr) (t:TT):Prop :=
 ∀ (whole:Sem Value) (pins:List (Addr × Obj)) (s:Shared) (σ:St) (H:Hp) (Q:Bool→Hp→Prop),Inv X pins σ H s→t σ H Q→wpAny (model X.prog X.w) X.A (isTrue e X.env whole) (TP X pins σ Q) X.xe s
theorem PW.pt {X:Cx} {e:Expr} {t:TT} (h:PW X e t):PT X e t:=h _
def PA (X:Cx) (es:List Expr) (t:TA):Prop :=
 ∀ (pos:Pos) (pins:List (Addr × Obj)) (s:Shared) (σ:St) (H:Hp) (Q:List V→Hp→Prop),Inv X pins σ H s→t σ H Q→wpAny (model X.prog X.w) X.A (spliced (backTo pos (starEach es X.env))) (AP X pins σ Q) X.xe s
def PS (X:Cx) (st:Stmt) (t:TS):Prop :=
 ∀ (pins:List (Addr × Obj)) (s:Shared) (σ:St) (H:Hp) (D:Ends),Inv X pins σ H s→t D σ H→wpAny (model X.prog X.w) X.A (exec st X.env) (SP X pins D) X.xe s
def PSs (X:Cx) (st:List Stmt) (t:TS):Prop :=
 ∀ (pins:List (Addr × Obj)) (s:Shared) (σ:St) (H:Hp) (D:Ends),Inv X pins σ H s→t D σ H→wpAny (model X.prog X.w) X.A (execs st X.env) (SP X pins D) X.xe s
theorem thn {α:Type} {t:Sem α} {Q Q':α→Shared→Prop} {M:Model} {A:Around} {E:Value→Shared→Prop} {s:Shared} (h:wpAny M A t Q E s) (hQ:∀ a s,Q a s→Q' a s):wpAny M A t Q' E s:=wpAny_mono h hQ fun _ _ x=>x
end L2
namespace L2
open PySem PySem.Spec PyProof.Rows
section
variable {X:Cx}
def tVar (i:Nat):TE:=fun σ H Q=>∃ v,σ[i]?=some (some v)∧Q v H
def tC (v:V):TE:=fun _ H Q=>Q v H
theorem pe_var {i:Nat} {x:Str} {pos:Pos} (hN:X.N[i]?=some x) (hv:Vis X.env.scope x) (hd:(x == ("__debug__":Str))=false:=by decide) (hcd:(x == ("__classdict__":Str))=false:=by decide):PE X (.Name x pos) (tVar i):=by
 intro pins s σ H Q I h
 obtain ⟨v,e,h⟩:=h
 obtain ⟨m,hn,hl⟩:=I.loc
 obtain ⟨u,r,l⟩:=hl i x v hN e hv
 have fin:EP X pins σ Q u s:=⟨v,H,I,r,h⟩
 rcases l with ⟨hk,hm⟩ | ⟨hk,c,hc,hcell⟩
 ·exact wpAny_Name (wpAny_loadName_local I.ok.kind hk hn hm fin) hd
 ·rcases hk with hk | hk
  ·exact wpAny_Name (wpAny_loadName_cell I.ok.kind hk hc hcell fin) hd
  ·exact wpAny_Name (wpAny_loadName_free I.ok.kind hk hc hcell fin hcd) hd
theorem pe_int {i j pos}:PE X (.Constant (.int i) j pos) (tC (.int i)):=fun _ _ _ H _ I h=>wpAny_Constant_int ⟨.int i,H,I.tok _,⟨_,rfl⟩,h⟩
theorem pe_bl {b j pos}:PE X (.Constant (.bool b) j pos) (tC (.bl b)):=fun _ _ _ H _ I h=>Constant_bool ⟨.bl b,H,I,rfl,h⟩
theorem pe_non {j pos}:PE X (.Constant .none j pos) (tC .non):=fun _ _ _ H _ I h=>Constant_none ⟨.non,H,I,rfl,h⟩
theorem pe_str {x j pos}:PE X (.Constant (.str x) j pos) (tC (.str x)):=fun _ _ _ H _ I h=>Calls.Constant_str ⟨.str x,H,I.tok _,⟨_,rfl⟩,h⟩
def Gl (X:Cx) (x:Str):Prop:=X.env.kindOf x=some .globalImplicit
theorem ld_glob {E:Value→Shared→Prop} {pins:List (Addr × Obj)} {s:Shared} {σ:St} {H:Hp} {x:Str} {u:Value} {pos:Pos} {Q:Value→Shared→Prop} (I:Inv X pins σ H s) (hg:Gl X x) (hm:X.mg x=some u) (h:Q u s)
  (hd:(x == ("__debug__":Str))=false:=by decide):wpAny (model X.prog X.w) X.A (eval (.Name x pos) X.env) Q E s :=
 Calls.Name_function_global I.ok.kind hg (Calls.loadGlobal_global (by rw [I.ok.glob];exact I.mod.glob.keeps I.bk) hm h) hd
theorem ld_blt {E:Value→Shared→Prop} {pins:List (Addr × Obj)} {s:Shared} {σ:St} {H:Hp} {x:Str} {u:Value} {pos:Pos} {Q:Value→Shared→Prop} (I:Inv X pins σ H s) (hg:Gl X x) (hm:X.mg x=none) (hv:bootBuiltins x=some u) (h:Q u s)
  (hn:x≠"__name__":=by decide) (hd:(x == ("__debug__":Str))=false:=by decide):wpAny (model X.prog X.w) X.A (eval (.Name x pos) X.env) Q E s:=by
 obtain ⟨mb,h1,h2⟩:=I.mod.blt
 exact Calls.Name_function_global I.ok.kind hg (Calls.loadGlobal_builtin (by rw [I.ok.glob];exact I.mod.glob.keeps I.bk) hm (by rw [I.ok.blt];exact h1.keeps I.bk) ((h2 x hn).trans hv) h) hd
theorem pe_glob {x:Str} {v:V} {u:Value} {pos:Pos} (hg:Gl X x) (hm:X.mg x=some u) (r:RelV v u) (hd:(x == ("__debug__":Str))=false:=by decide):PE X (.Name x pos) (tC v) :=
 fun _ _ _ H _ I h=>ld_glob I hg hm ⟨v,H,I,r,h⟩ hd
variable {a b:Expr} {ta tb:TE} {pos:Pos}
def tB (t:TE):TT:=fun σ H Q=>t σ H fun x H1=>∃ c,x=.bl c∧Q c H1
theorem pt_val {e:Expr} {t:TE} (h:PE X e t) (he:∀ whole,isTrue e X.env whole=(do let v ← whole;standAt e.pos;holding [v] (truthy v)):=by intro _;rfl):PT X e (tB t):=by
 intro pins s σ H Q I hw
 refine isTrue_plain (thn (h pins s σ H _ I hw) fun v s1 ⟨x,H1,I1,r1,q1⟩=>?_) (he _)
 obtain ⟨d,rfl,q⟩:=q1
 cases r1
 exact wpAny_truthy_bool ⟨H1,I1,q⟩
variable {tA tB':TT} {rest:List Expr}
def tAnd (t u:TT):TT:=fun σ H Q=>t σ H fun c H1=>if c=true then u σ H1 Q else Q false H1
def tOr (t u:TT):TT:=fun σ H Q=>t σ H fun c H1=>if c=true then Q true H1 else u σ H1 Q
def tNot (t:TT):TT:=fun σ H Q=>t σ H fun c H1=>Q (!c) H1
theorem pw_and1 (ha:PT X a tA):PW X (.BoolOp .And [a] pos) tA:=by
 intro wh pins s σ H Q I h
 refine isTrue_and (thn (ha pins s σ H Q I h) fun c s1 e=>?_)
 cases c with
 | true=>exact isTrue_and_nil e
 | false=>exact e
theorem pw_or1 (ha:PT X a tA):PW X (.BoolOp .Or [a] pos) tA:=by
 intro wh pins s σ H Q I h
 refine isTrue_or (thn (ha pins s σ H Q I h) fun c s1 e=>?_)
 cases c with
 | false=>exact isTrue_or_nil e
 | true=>exact e
theorem pw_and (ha:PT X a tA) (hb:PW X (.BoolOp .And (b :: rest) pos) tB'):PW X (.BoolOp .And (a :: b :: rest) pos) (tAnd tA tB'):=by
 intro wh pins s σ H Q I h
 refine isTrue_and (thn (ha pins s σ H _ I h) fun c s1 ⟨H1,I1,q1⟩=>?_)
 cases c with
 | true=>exact hb wh pins s1 σ H1 Q I1 q1
 | false=>exact ⟨H1,I1,q1⟩
theorem pw_or (ha:PT X a tA) (hb:PW X (.BoolOp .Or (b :: rest) pos) tB'):PW X (.BoolOp .Or (a :: b :: rest) pos) (tOr tA tB'):=by
 intro wh pins s σ H Q I h
 refine isTrue_or (thn (ha pins s σ H _ I h) fun c s1 ⟨H1,I1,q1⟩=>?_)
 cases c with
 | true=>exact ⟨H1,I1,q1⟩
 | false=>exact hb wh pins s1 σ H1 Q I1 q1
theorem pt_not (ha:PT X a tA):PT X (.UnaryOp .Not a pos) (tNot tA):=by
 intro pins s σ H Q I h
 exact isTrue_not (ha pins s σ H (fun c H1=>Q (!c) H1) I h)
def tAndV (ta tb:TE):TE:=fun σ H Q=>ta σ H fun x H1=>∃ c,x=.bl c∧if c=true then tb σ H1 Q else Q (.bl false) H1
def tOrV (ta tb:TE):TE:=fun σ H Q=>ta σ H fun x H1=>∃ c,x=.bl c∧if c=true then Q (.bl true) H1 else tb σ H1 Q
def tNotV (ta:TE):TE:=fun σ H Q=>ta σ H fun x H1=>∃ c,x=.bl c∧Q (.bl (!c)) H1
theorem pe_one {op} {t:TE} (h:PE X a t):PE X (.BoolOp op [a] pos) t:=fun pins s σ H Q I hw=>BoolOp_one (h pins s σ H Q I hw)
theorem pe_and (ha:PE X a ta) (hb:PE X (.BoolOp .And (b :: rest) pos) tb):PE X (.BoolOp .And (a :: b :: rest) pos) (tAndV ta tb):=by
 intro pins s σ H Q I h
 refine BoolOp_and (thn (ha pins s σ H _ I h) fun v s1 ⟨x,H1,I1,r1,q1⟩=>?_)
 obtain ⟨c,rfl,q1⟩:=q1
 cases r1
 refine wpAny_truthy_bool ?_
 cases c with
 | true=>exact hb pins s1 σ H1 Q I1 q1
 | false=>exact ⟨.bl false,H1,I1,rfl,q1⟩
theorem pe_or (ha:PE X a ta) (hb:PE X (.BoolOp .Or (b :: rest) pos) tb):PE X (.BoolOp .Or (a :: b :: rest) pos) (tOrV ta tb):=by
 intro pins s σ H Q I h
 refine BoolOp_or (thn (ha pins s σ H _ I h) fun v s1 ⟨x,H1,I1,r1,q1⟩=>?_)
 obtain ⟨c,rfl,q1⟩:=q1
 cases r1
 refine wpAny_truthy_bool ?_
 cases c with
 | false=>exact hb pins s1 σ H1 Q I1 q1
 | true=>exact ⟨.bl true,H1,I1,rfl,q1⟩
theorem pe_not (ha:PE X a ta):PE X (.UnaryOp .Not a pos) (tNotV ta):=by
 intro pins s σ H Q I h
 refine UnaryOp_ (thn (ha pins s σ H _ I h) fun v s1 ⟨x,H1,I1,r1,q1⟩=>?_)
 obtain ⟨c,rfl,q1⟩:=q1
 cases r1
 exact not_of (wpAny_truthy_bool ⟨.bl (!c),H1,I1,rfl,q1⟩)
def tIf (t:TT) (ta tb:TE):TE:=fun σ H Q=>t σ H fun c H1=>if c=true then ta σ H1 Q else tb σ H1 Q
theorem pe_ifExp {c:Expr} (hc:PT X c tA) (ha:PE X a ta) (hb:PE X b tb):PE X (.IfExp c a b pos) (tIf tA ta tb):=by
 intro pins s σ H Q I h
 refine wpAny_IfExp (thn (hc pins s σ H _ I h) fun d s1 ⟨H1,I1,q1⟩=>?_)
 cases d with
 | true=>exact ha pins s1 σ H1 Q I1 q1
 | false=>exact hb pins s1 σ H1 Q I1 q1
end
end L2
namespace L2
open PySem PySem.Spec PyProof.Rows
def SqL (K:PySem.W.Frag) (H:Hp) (a:Addr) (xs:List V):Prop :=
 Rd H a (.lst xs) ∨
  ∃ (o:Obj) (its:Array Value) (n:Nat),K.lookup a=some o∧o.cls=.type "list"∧o.dict=none∧o.data=.seq its n∧its.size≤sizeLine∧Vals xs its.toList
def SqT (K:PySem.W.Frag) (H:Hp) (a:Addr) (xs:List V):Prop :=
 Rd H a (.tup xs) ∨
  ∃ (o:Obj) (its:Array Value) (n:Nat),K.lookup a=some o∧o.cls=.type "tuple"∧o.data=.seq its n∧its.size≤sizeLine∧Vals xs its.toList
def absV:Value→Option V
 | .none=>some .non
 | .bool b=>some (.bl b)
 | .int i _=>some (.int i)
 | .str x _=>some (.str x)
 | .bytes b _=>some (.byt b)
 | .float b _=>some (.flt b)
 | .ref a=>some (.ref a)
 | .type n=>some (.ty n)
 | _=>none
theorem RelV.abs {x:V} {u:Value} (r:RelV x u):absV u=some x:=by
 cases x with
 | non=>cases r;rfl
 | bl _=>cases r;rfl
 | int _=>obtain ⟨t,rfl⟩:=r;rfl
 | str _=>obtain ⟨t,rfl⟩:=r;rfl
 | byt _=>obtain ⟨t,rfl⟩:=r;rfl
 | flt _=>obtain ⟨t,rfl⟩:=r;rfl
 | ref _=>cases r;rfl
 | ty _=>cases r;rfl
theorem RelV.inj {x y:V} {u:Value} (r:RelV x u) (q:RelV y u):x=y:=Option.some.inj (r.abs.symm.trans q.abs)
theorem Vals.inj:∀ {xs ys:List V} {us:List Value},Vals xs us→Vals ys us→xs=ys
 | _,_,_,.nil,.nil=>rfl
 | _,_,_,.cons r t,.cons r' t'=>by rw [r.inj r',Vals.inj t t']
section
variable {X:Cx} {pins:List (Addr × Obj)} {σ:St} {H:Hp} {s:Shared} {a:Addr} {xs ys:List V}
theorem SqL.of {K:PySem.W.Frag} (h:H a=some (.lst xs)):SqL K H a xs:=.inl (.inl h)
theorem SqT.of {K:PySem.W.Frag} (h:H a=some (.tup xs)):SqT K H a xs:=.inl (.inl h)
theorem Inv.list (I:Inv X pins σ H s) (h:SqL X.K H a xs):∃ its:List Value,Vals xs its∧PlainL s.heap a its.toArray∧xs.length≤sizeLine:=by
 rcases h with h | ⟨o,its,n,hk,hc,hd,hs,hz,r⟩
 ·obtain ⟨z,its,n,r,e⟩:=h.ok I.hok
  exact ⟨its,r,⟨_,n,e,rfl,rfl,rfl⟩,z⟩
 ·refine ⟨its.toList,r,⟨o,n,I.kIn a o hk,hc,hd,by simpa using hs⟩,?_⟩
  have e:=r.length
  simp only [Array.length_toList] at e
  omega
theorem Inv.tuple (I:Inv X pins σ H s) (h:SqT X.K H a xs):∃ its:List Value,Vals xs its∧IsTup s.heap a its.toArray∧xs.length≤sizeLine:=by
 rcases h with h | ⟨o,its,n,hk,hc,hs,hz,r⟩
 ·obtain ⟨z,its,r,p⟩:=h.ok I.hok
  exact ⟨its,r,p,z⟩
 ·refine ⟨its.toList,r,⟨o,I.kIn a o hk,hc,n,by simpa using hs⟩,?_⟩
  have e:=r.length
  simp only [Array.length_toList] at e
  omega
theorem Inv.list_inj (I:Inv X pins σ H s) (h:SqL X.K H a xs) (h':SqL X.K H a ys):xs=ys:=by
 obtain ⟨its,r,⟨o,n,e,_,_,d⟩,_⟩:=I.list h
 obtain ⟨its',r',⟨o',n',e',_,_,d'⟩,_⟩:=I.list h'
 rw [e] at e';cases e'
 rw [d] at d'
 injection d' with d1 _
 have:its=its':=by simpa using congrArg Array.toList d1
 subst this
 exact r.inj r'
theorem Inv.tuple_inj (I:Inv X pins σ H s) (h:SqT X.K H a xs) (h':SqT X.K H a ys):xs=ys:=by
 obtain ⟨its,r,⟨o,e,_,n,d⟩,_⟩:=I.tuple h
 obtain ⟨its',r',⟨o',e',_,n',d'⟩,_⟩:=I.tuple h'
 rw [e] at e';cases e'
 rw [d] at d'
 injection d' with d1 _
 have:its=its':=by simpa using congrArg Array.toList d1
 subst this
 exact r.inj r'
end
abbrev Cx.wish (X:Cx) (E:Value→Shared→Prop):Cx:={ X with xe:=E }
abbrev Cx.nox (X:Cx):Cx:=X.wish fun _ _=>False
theorem Cx.Ok.wish {X:Cx} (ok:X.Ok) (E:Value→Shared→Prop):(X.wish E).Ok :=
 ⟨ok.mod,ok.kind,ok.glob,ok.blt,ok.above,ok.inj,ok.has,ok.cab,ok.hd,ok.frames,ok.stk,ok.exf,ok.bs,ok.bsz,ok.noex,ok.exfs,ok.funs,ok.frf⟩
theorem Cx.Ok.unwish {X:Cx} {E:Value→Shared→Prop} (ok:(X.wish E).Ok):X.Ok :=
 ⟨ok.mod,ok.kind,ok.glob,ok.blt,ok.above,ok.inj,ok.has,ok.cab,ok.hd,ok.frames,ok.stk,ok.exf,ok.bs,ok.bsz,ok.noex,ok.exfs,ok.funs,ok.frf⟩
section
variable {X:Cx} {pins:List (Addr × Obj)} {σ:St} {H:Hp} {s:Shared} {E:Value→Shared→Prop}
theorem Inv.wish (I:Inv X pins σ H s) (E:Value→Shared→Prop):Inv (X.wish E) pins σ H s:=⟨I.ok.wish E,I.os,I.bare,I.base,I.loc,I.cell,I.free,I.freeC,I.pin,I.hok,I.len⟩
theorem Inv.unwish (I:Inv (X.wish E) pins σ H s):Inv X pins σ H s:=⟨I.ok.unwish,I.os,I.bare,I.base,I.loc,I.cell,I.free,I.freeC,I.pin,I.hok,I.len⟩
theorem SP.unwish {D:Ends} {f:Flow} {s':Shared} (h:SP (X.wish E) pins D f s'):SP X pins D f s':=by
 cases f with
 | next=>obtain ⟨σ',H',I,q⟩:=h;exact ⟨σ',H',I.unwish,q⟩
 | brk=>obtain ⟨σ',H',I,q⟩:=h;exact ⟨σ',H',I.unwish,q⟩
 | cont=>obtain ⟨σ',H',I,q⟩:=h;exact ⟨σ',H',I.unwish,q⟩
 | ret u=>obtain ⟨v,σ',H',I,r,q⟩:=h;exact ⟨v,σ',H',I.unwish,r,q⟩
theorem PE.nox {e:Expr} {t:TE} (h:PE X.nox e t):PE X e t:=fun pins s σ H Q I hw =>
 wpAny_mono (h pins s σ H Q (I.wish _) hw) (fun _ _ ⟨v,H',I',r,q⟩=>⟨v,H',I'.unwish,r,q⟩) fun _ _ z=>False.elim z
theorem PT.nox {e:Expr} {t:TT} (h:PT X.nox e t):PT X e t:=fun pins s σ H Q I hw =>
 wpAny_mono (h pins s σ H Q (I.wish _) hw) (fun _ _ ⟨H',I',q⟩=>⟨H',I'.unwish,q⟩) fun _ _ z=>False.elim z
theorem PSs.nox {st:List Stmt} {t:TS} (h:PSs X.nox st t):PSs X st t:=fun pins s σ H D I hw =>
 wpAny_mono (h pins s σ H D (I.wish _) hw) (fun _ _ q=>q.unwish) fun _ _ z=>False.elim z
end
section
variable {X:Cx} {st:Stmt} {rest:List Stmt} {t u:TS} {e:Expr} {te:TE} {pos:Pos}
def tNext:TS:=fun D σ H=>D.nx σ H
def tSeq (t u:TS):TS:=fun D σ H=>t { D with nx:=u D } σ H
theorem pss_nil:PSs X [] tNext:=fun _ _ σ H _ I h=>wpAny_execs_nil ⟨σ,H,I,h⟩
theorem pss_cons (h1:PS X st t) (h2:PSs X rest u):PSs X (st :: rest) (tSeq t u):=by
 intro pins s σ H D I h
 refine wpAny_execs_cons (thn (h1 pins s σ H { D with nx:=u D } I h) fun f s1 q=>?_)
 cases f with
 | next =>
  obtain ⟨σ',H',I',q⟩:=q
  exact h2 pins s1 σ' H' D I' q
 | ret v=>exact q
 | brk=>exact q
 | cont=>exact q
theorem pss_one (h1:PS X st t):PSs X [st] t:=by
 intro pins s σ H D I h
 refine wpAny_execs_cons (thn (h1 pins s σ H D I h) fun f s1 q=>?_)
 cases f with
 | next=>exact wpAny_execs_nil q
 | ret v=>exact q
 | brk=>exact q
 | cont=>exact q
theorem Inv.quiet {pins:List (Addr × Obj)} {σ:St} {H:Hp} {s:Shared} (I:Inv X pins σ H s):interactive X.env=false:=by simp [interactive,I.ok.kind]
def tDrop (te:TE):TS:=fun D σ H=>te σ H fun _ H1=>D.nx σ H1
theorem ps_expr (he:PE X e te) (hs:swapsWith e none pos.line X.env=pure false:=by rfl):PS X (.Expr e pos) (tDrop te):=by
 intro pins s σ H D I h
 exact wpAny_Expr_any (thn (he pins s σ H _ I h) fun v s1 ⟨x,H1,I1,r1,q1⟩=>⟨σ,H1,I1,q1⟩) I.quiet hs
def tRet (te:TE):TS:=fun D σ H=>te σ H D.rt
theorem ps_ret (he:PE X e te):PS X (.Return (some e) pos) (tRet te):=by
 intro pins s σ H D I h
 exact wpAny_Return_some (thn (he pins s σ H _ I h) fun v s1 ⟨x,H1,I1,r1,q1⟩=>⟨x,σ,H1,I1,r1,q1⟩)
def tRetN:TS:=fun D _ H=>D.rt .non H
theorem ps_retN:PS X (.Return none pos) tRetN:=fun _ _ σ H _ I h=>wpAny_Return_none ⟨.non,σ,H,I,rfl,h⟩
def tIfS (c:TT) (t u:TS):TS:=fun D σ H=>c σ H fun b H1=>if b=true then t D σ H1 else u D σ H1
theorem ps_if {c:Expr} {a b:List Stmt} {tc:TT} (hc:PT X c tc) (ha:PSs X a t) (hb:PSs X b u):PS X (.If c a b pos) (tIfS tc t u):=by
 intro pins s σ H D I h
 refine wpAny_If (thn (hc pins s σ H _ I h) fun d s1 ⟨H1,I1,q1⟩=>?_)
 cases d with
 | true=>exact ha pins s1 σ H1 D I1 q1
 | false=>exact hb pins s1 σ H1 D I1 q1
end
abbrev TG:=V→St→Hp→(St→Hp→Prop)→Prop
abbrev TGs:=List V→St→Hp→(St→Hp→Prop)→Prop
def PG (X:Cx) (target:Expr) (t:TG):Prop :=
 ∀ (pins:List (Addr × Obj)) (s:Shared) (σ:St) (H:Hp) (v:V) (u:Value) (Q:St→Hp→Prop),Inv X pins σ H s→RelV v u→t v σ H Q →
  wpAny (model X.prog X.w) X.A (assign target X.env u) (fun _ s'=>∃ σ' H',Inv X pins σ' H' s'∧Q σ' H') X.xe s
def PGs (X:Cx) (ts:List Expr) (t:TGs):Prop :=
 ∀ (pins:List (Addr × Obj)) (s:Shared) (σ:St) (H:Hp) (vs:List V) (us:List Value) (Q:St→Hp→Prop),Inv X pins σ H s→Vals vs us→t vs σ H Q →
  wpAny (model X.prog X.w) X.A (assignInOrder ((assignEach ts X.env).map (·.2)) us) (fun _ s'=>∃ σ' H',Inv X pins σ' H' s'∧Q σ' H') X.xe s
abbrev TSet:=V→V→V→Hp→(Hp→Prop)→Prop
def PSet (X:Cx) (t:TSet):Prop :=
 ∀ (pins:List (Addr × Obj)) (s:Shared) (σ:St) (H:Hp) (o i v:V) (ov iv u:Value) (Q:Hp→Prop),Inv X pins σ H s→RelV o ov→RelV i iv→RelV v u→t o i v H Q →
  wpAny (model X.prog X.w) X.A (setItem ov iv u) (fun _ s'=>∃ H',Inv X pins σ H' s'∧Q H') X.xe s
abbrev TIp:=V→V→Hp→VK→Prop
def PIp (X:Cx) (op:Operator) (t:TIp):Prop :=
 ∀ (pins:List (Addr × Obj)) (s:Shared) (σ:St) (H:Hp) (x y:V) (v u:Value) (Q:VK),Inv X pins σ H s→RelV x v→RelV y u→t x y H Q →
  wpAny (model X.prog X.w) X.A (inplaceOp op v u) (EP X pins σ Q) X.xe s
section
variable {X:Cx} {pos:Pos}
def gName (i:Nat):TG:=fun v σ H Q=>Q (σ.set i (some v)) H
theorem pg_name {i:Nat} {x:Str} (hN:X.N.Nodup) (hi:X.N[i]?=some x) (hx:Loc X.env.scope x) (hf:X.fn x=true∨X.env.scope.names.lookup x=some .local:=by first | exact .inl rfl | exact .inr rfl | assumption):PG X (.Name x pos) (gName i):=by
 intro pins s σ H v u Q I r h
 exact wpAny_assign_Name (store_ok I hN hi hx r (fun s' I'=>⟨_,H,I',h⟩) hf)
def gNil:TGs:=fun vs σ H Q=>vs=[]∧Q σ H
def gCons (t:TG) (u:TGs):TGs:=fun vs σ H Q=>∃ v r,vs=v :: r∧t v σ H fun σ' H'=>u r σ' H' Q
theorem pgs_nil:PGs X [] gNil:=by
 intro pins s σ H vs us Q I r h
 obtain ⟨e,h⟩:=h
 subst e
 cases r
 exact assignInOrder_nil ⟨σ,H,I,h⟩
theorem pgs_cons {e:Expr} {es:List Expr} {t:TG} {u:TGs} (h1:PG X e t) (h2:PGs X es u)
  (hs:(assignEach (e :: es) X.env).map (·.2)=assign e X.env :: (assignEach es X.env).map (·.2):=by rfl):PGs X (e :: es) (gCons t u):=by
 intro pins s σ H vs us Q I r h
 obtain ⟨v,vr,e1,h⟩:=h
 subst e1
 cases r with
 | cons r rr =>
  rw [hs]
  refine assignInOrder_cons (thn (h1 pins s σ H _ _ _ I r h) fun _ s1 ⟨σ1,H1,I1,q1⟩=>?_)
  exact h2 pins s1 σ1 H1 _ _ Q I1 rr q1
def gTup (K:PySem.W.Frag) (n:Nat) (t:TGs):TG:=fun v σ H Q=>∃ a xs,v=.ref a∧SqT K H a xs∧xs.length=n∧t xs σ H Q
theorem pg_tup {es:List Expr} {k:Nat} {t:TGs} {n:Nat} (hc:X.calm=true) (h:PGs X es t)
  (hn:(assignEach es X.env).length=n:=by rfl) (hst:(assignEach es X.env).findIdx? (·.1)=none:=by rfl):PG X (.Tuple es k pos) (gTup X.K n t):=by
 intro pins s σ H v u Q I r hw
 obtain ⟨a,xs,e1,hq,hl,hw⟩:=hw
 subst e1
 cases r
 obtain ⟨its,rv,ht,hz⟩:=I.tuple hq
 refine assign_Tuple_tuple (I.ok.hd hc) ht (by simp [hn,← hl,rv.length]) hst fun h' hx=>?_
 have I1:Inv X pins σ H { s with heap:=h' }:=I.kept (t':=s.toks) fun b o e=>hx b o (Nat.ne_of_lt (Heap.lt_size e)) e
 exact h pins _ σ H xs _ Q I1 (by simpa using rv) hw
def gSub (to ti:TE) (t:TSet):TG:=fun v σ H Q=>to σ H fun o H1=>ti σ H1 fun i H2=>t o i v H2 fun H3=>Q σ H3
theorem pg_sub {o i:Expr} {to ti:TE} {t:TSet} (ho:PE X o to) (hi:PE X i ti) (hs:PSet X t)
  (ha:∀ v,assign (.Subscript o i pos) X.env v=(do
   let ov ← holding [v] (eval o X.env)
   let iv ← holding [v,ov] (eval i X.env)
   standAt pos
   holding [v,ov,iv] (setItem ov iv v)
   release [v,ov,iv] []):=by intro _;rfl):PG X (.Subscript o i pos) (gSub to ti t):=by
 intro pins s σ H v u Q I r h
 rw [ha]
 refine wpAny_bind (wpAny_holding (thn (ho pins s σ H _ I h) fun ov s1 ⟨x,H1,I1,r1,q1⟩=>?_))
 refine wpAny_bind (wpAny_holding (thn (hi pins s1 σ H1 _ I1 q1) fun iv s2 ⟨y,H2,I2,r2,q2⟩=>?_))
 refine wpAny_bind (wpAny_standAt (wpAny_bind (wpAny_holding (thn (hs pins s2 σ H2 x y v ov iv u _ I2 r1 r2 r q2) fun _ s3 ⟨H3,I3,q3⟩=>?_))))
 exact wpAny_release ⟨σ,H3,I3,q3⟩
def tAsg (te:TE) (g:TG):TS:=fun D σ H=>te σ H fun x H1=>g x σ H1 D.nx
theorem ps_asg {tg e:Expr} {te:TE} {g:TG} (he:PE X e te) (hg:PG X tg g) (hs:swapsWithSole [tg] e pos.line X.env=pure false:=by rfl) (hw:swappedStores [tg] e X.env=pure none:=by rfl)
  (h1:(assignEach [tg] X.env).map (·.2)=[assign tg X.env]:=by rfl):PS X (.Assign [tg] e pos) (tAsg te g):=by
 intro pins s σ H D I h
 refine wpAny_Assign_stores (thn (he pins s σ H _ I h) fun v s1 ⟨x,H1,I1,r1,q1⟩=>?_) hs hw
 rw [h1]
 exact thn (hg pins s1 σ H1 x v _ I1 r1 q1) fun _ s2 q=>q
theorem ps_set {i:Nat} {x:Str} {e:Expr} {te:TE} {pos':Pos} (hN:X.N.Nodup) (hi:X.N[i]?=some x) (hx:Loc X.env.scope x) (he:PE X e te) (hs:swapsWith e (some (.Name x pos')) pos.line X.env=pure false:=by rfl) (hf:X.fn x=true∨X.env.scope.names.lookup x=some .local:=by first | exact .inl rfl | exact .inr rfl | assumption) :
  PS X (.Assign [.Name x pos'] e pos) (tAsg te (gName i)):=by
 intro pins s σ H D I h
 refine wpAny_Assign_Name (thn (he pins s σ H _ I h) fun v s1 ⟨y,H1,I1,r1,q1⟩=>?_) hs
 exact store_ok I1 hN hi hx r1 (fun s2 I2=>⟨_,H1,I2,q1⟩) hf
def ipI (f:Int→Int→Int):TIp:=fun x y H Q=>∃ i j,x=.int i∧y=.int j∧Q (.int (f i j)) H
theorem ip_add:PIp X .Add (ipI fun i j=>i+j):=by
 intro pins s σ H x y v u Q I r1 r2 h
 obtain ⟨i,j,e1,e2,q⟩:=h
 subst e1;subst e2
 obtain ⟨t,rfl⟩:=r1
 obtain ⟨t',rfl⟩:=r2
 exact iadd_int ⟨.int _,H,I.tok _,⟨_,rfl⟩,q⟩
end
section
variable {X:Cx} {pos:Pos}
def tWhile (c:TT) (tb:TS):TS:=fun D σ H=>∃ W:Nat→St→Hp→Prop,(∃ m,W m σ H)∧∀ m σ H,W m σ H →
 c σ H fun b H1=>if b=true then ∃ N:St→Hp→Prop,(∀ σ' H',N σ' H'→∃ m',m' < m∧W m' σ' H')∧tb { D with nx:=N,ct:=N,bk:=D.nx } σ H1 else D.nx σ H1
theorem ps_while {c:Expr} {body:List Stmt} {tc:TT} {tb:TS} (hp:PassesOwn (model X.prog X.w) X.A X.env X.xe) (hc:PT X c tc) (hb:PSs X body tb):PS X (.While c body [] pos) (tWhile tc tb):=by
 intro pins s σ H D I h
 obtain ⟨W,⟨m0,w0⟩,turn⟩:=h
 refine wpAny_While (codeAny_whileLoop (fun n s'=>∃ σ' H',Inv X pins σ' H' s'∧W n σ' H') ?_ m0 ⟨σ,H,I,w0⟩)
 rintro n s1 ⟨σ1,H1,I1,w1⟩
 refine wpAny_passesOwn hp (thn (hc pins s1 σ1 H1 _ I1 (turn n σ1 H1 w1)) fun b s2 ⟨H2,I2,q2⟩=>?_)
 cases b with
 | true =>
  obtain ⟨N,hN,q2⟩:=q2
  rw [if_pos rfl]
  refine wpAny_passesOwn hp (thn (hb pins s2 σ1 H2 _ I2 q2) fun f s3 q3=>?_)
  cases f with
  | next =>
   obtain ⟨σ3,H3,I3,n3⟩:=q3
   obtain ⟨m',hm,w3⟩:=hN σ3 H3 n3
   exact ⟨m',hm,σ3,H3,I3,w3⟩
  | cont =>
   obtain ⟨σ3,H3,I3,n3⟩:=q3
   obtain ⟨m',hm,w3⟩:=hN σ3 H3 n3
   exact ⟨m',hm,σ3,H3,I3,w3⟩
  | brk=>exact q3
  | ret v=>exact q3
 | false =>
  rw [if_neg Bool.false_ne_true]
  exact wpAny_execs_nil ⟨σ1,H2,I2,q2⟩
end
structure It where
 go:Nat→Hp→Prop
 yld:Nat→Hp→V→Hp→Prop
 stop:Nat→Hp→Prop
def FpOk (X:Cx) (pins:List (Addr × Obj)) (H:Hp) (b:Addr):Prop :=
 H b=none∧b≠X.env.locals∧b ∉ X.fs∧(b ∈ X.ex∨X.s₀.heap.objs.size≤b)∧(∀ x c,X.env.cells.lookup x=some c→c≠b)∧∀ p ∈ X.pn ++ pins,p.1≠b
theorem Inv.fpOk {X:Cx} {pins:List (Addr × Obj)} {σ:St} {H H':Hp} {s:Shared} {b:Addr} (I:Inv X pins σ H s) (hb:s.heap.objs.size≤b) (hn:H' b=none):FpOk X pins H' b:=by
 refine ⟨hn,Nat.ne_of_gt (Nat.lt_of_lt_of_le I.lt hb),I.nofs hb,.inr (Nat.le_trans I.sz hb),fun x c e z=>?_,fun p hp z=>?_⟩
 ·obtain ⟨v,q⟩:=I.cell x c e
  exact absurd (Nat.lt_of_lt_of_le q.lt (by rw [z];exact hb)) (Nat.lt_irrefl _)
 ·exact absurd (Nat.lt_of_lt_of_le (Heap.lt_size (I.pin p hp).1) (by rw [z];exact hb)) (Nat.lt_irrefl _)
structure Turn (P:Program) (w:World) (K:PySem.W.Frag) (tg:Expr) (J:It) (fp:List Addr) (it:Addr) (tn:Nat→Heap→Prop):Prop where
 mem:it ∈ fp
 obj:∀ i h,tn i h→∀ b ∈ fp,∃ o,h.get? b=some o∧∀ v,o.data≠.cell v
 keep:∀ i h h',tn i h→(∀ b ∈ fp,∀ o,h.get? b=some o→h'.get? b=some o)→tn i h'
 item:∀ (X:Cx),X.prog=P→X.w=w→X.K=K→X.calm=true→∀ (i:Nat) (pins:List (Addr × Obj)) (s:Shared) (σ:St) (H:Hp) (E:Value→Shared→Prop),Inv X pins σ H s→(∀ b ∈ fp,FpOk X pins H b)→tn i s.heap→J.go i H →
  wpAny (model P w) X.A (pyNext (.ref it)) (fun r s1=>∃ u,r=some u ∧
   wpAny (model P w) X.A (letOwnedTupleGo tg (.ref it) u) (fun _ s2=>∃ x H',Inv X pins σ H' s2∧RelV x u∧J.yld i H x H'∧tn (i+1) s2.heap∧∀ b ∈ fp,H' b=none) E s1) E s
 done:∀ (X:Cx),X.prog=P→X.w=w→X.K=K→X.calm=true→∀ (i:Nat) (pins:List (Addr × Obj)) (s:Shared) (σ:St) (H:Hp) (E:Value→Shared→Prop),Inv X pins σ H s→(∀ b ∈ fp,FpOk X pins H b)→tn i s.heap→J.stop i H →
  wpAny (model P w) X.A (pyNext (.ref it)) (fun r s1=>r=none∧Inv X pins σ H s1) E s
 self:∀ (A:Around) (i:Nat) (s:Shared) (Q:Value→Shared→Prop) (E:Value→Shared→Prop),tn i s.heap→Q (.ref it) s→wpAny (model P w) A (pyIter (.ref it)) Q E s
abbrev TI:=St→Hp→(It→Hp→Prop)→Prop
def PIE (X:Cx) (pins:List (Addr × Obj)) (σ:St) (tg:Expr) (R:It→Hp→Prop) (itv:Value) (s2:Shared):Prop :=
 ∃ (it:Addr) (fp:List Addr) (tn:Nat→Heap→Prop) (J:It) (H':Hp),itv=.ref it∧Inv X pins σ H' s2∧Turn X.prog X.w X.K tg J fp it tn∧tn 0 s2.heap∧(∀ b ∈ fp,FpOk X pins H' b)∧R J H'
def PI (X:Cx) (tg iter:Expr) (wi:TI):Prop :=
 ∀ (pins:List (Addr × Obj)) (s:Shared) (σ:St) (H:Hp) (R:It→Hp→Prop),Inv X pins σ H s→wi σ H R →
  wpAny (model X.prog X.w) X.A (eval iter X.env) (fun v s1=>wpAny (model X.prog X.w) X.A (pyIter v) (PIE X pins σ tg R) X.xe s1) X.xe s
theorem go_of {M:Model} {A:Around} {E:Value→Shared→Prop} {s:Shared} {tg:Expr} {it:Addr} {u:Value} {o:Obj} {n:String} {vs:Array Value} {Q:Unit→Shared→Prop} (ho:s.heap.get? it=some o) (hc:o.cls=.type n) (hd:o.data=.fields vs)
  (hn:["enumerate","zip","dict_itemiterator","dict_reverseitemiterator","odict_iterator","itertools.zip_longest","itertools.pairwise"].contains n=false) (hQ:Q () s):wpAny M A (letOwnedTupleGo tg (.ref it) u) Q E s:=by
 unfold letOwnedTupleGo
 cases tg <;> first
  | exact wpAny_pure hQ
  | (cases u <;> first
    | exact wpAny_pure hQ
    | (refine wpAny_bind (wpAny_load ho ?_)
       rw [hc,hd]
       show wpAny M A (if (["enumerate","zip","dict_itemiterator","dict_reverseitemiterator","odict_iterator","itertools.zip_longest","itertools.pairwise"].contains n && vs[0]? == some (rawInt _))=true then _ else _) Q E s
       rw [if_neg (by intro h;rw [hn,Bool.false_and] at h;cases h)]
       exact wpAny_pure hQ))
def Itl (K:PySem.W.Frag) (a:Addr):It :=
 ⟨fun i H=>∃ xs x,SqL K H a xs∧xs[i]?=some x,fun i H x H'=>H'=H∧∀ xs,SqL K H a xs→xs[i]?=some x,fun i H=>∃ xs,SqL K H a xs∧xs.length≤i⟩
def Itt (K:PySem.W.Frag) (a:Addr):It :=
 ⟨fun i H=>∃ xs x,SqT K H a xs∧xs[i]?=some x,fun i H x H'=>H'=H∧∀ xs,SqT K H a xs→xs[i]?=some x,fun i H=>∃ xs,SqT K H a xs∧xs.length≤i⟩
def Itr (lo:Int) (n:Nat):It:=⟨fun i _=>i < n,fun i H x H'=>H'=H∧x=.int (lo+i),fun i _=>n≤i⟩
theorem turn_list {P:Program} {w:World} {K:PySem.W.Frag} {tg:Expr} (a it:Addr):Turn P w K tg (Itl K a) [it] it (fun i h=>h.IsListIter it a i) where
 mem:=by simp
 obj:=fun i h st b hb=>by
  have e:b=it:=by simpa using hb
  subst e
  obtain ⟨o,e,c,d⟩:=st
  exact ⟨o,e,fun v z=>by rw [d] at z;cases z⟩
 keep:=fun i h h' st k=>st.at fun o e=>k it (by simp) o e
 item:=by
  intro X hP hw hK hc i pins s σ H E I hf st hg
  subst hP hw hK
  obtain ⟨xs,x,hq,hx⟩:=hg
  obtain ⟨its,rv,p,hz⟩:=I.list hq
  obtain ⟨u,hu,ru⟩:=rv.get hx
  obtain ⟨f0,f1,f2,f3,f4,f5⟩:=hf it (by simp)
  refine wpAny_pyNext_list_item st p.isList (x:=u) (by simpa using hu) fun h' st' sb=>?_
  have I1:Inv X pins σ H { s with heap:=h' }:=I.turned (t':=s.toks) (fun b o hb e=>(sb.2 b hb).trans e) f0 f1 f3 f4 f5
  obtain ⟨o,e,c,d⟩:=id st'
  exact ⟨u,rfl,go_of (s:={ s with heap:=h' }) e c d (by decide) ⟨x,H,I1,ru,⟨rfl,fun ys hy=>by rw [I.list_inj hy hq];exact hx⟩,st',fun b hb=>(hf b hb).1⟩⟩
 done:=by
  intro X hP hw hK hc i pins s σ H E I hf st hg
  subst hP hw hK
  obtain ⟨xs,hq,hx⟩:=hg
  obtain ⟨its,rv,p,hz⟩:=I.list hq
  obtain ⟨f0,f1,f2,f3,f4,f5⟩:=hf it (by simp)
  have hl:=rv.length
  exact wpAny_pyNext_list_end (I.ok.hd hc) st p.isList (by simp;omega) fun h' eb=>⟨rfl,I.turned (t':=s.toks) (fun b o hb e=>eb b o hb e) f0 f1 f3 f4 f5⟩
 self:=fun _ _ _ _ _ st h=>wpAny_pyIter_listiter st h
theorem turn_tuple {P:Program} {w:World} {K:PySem.W.Frag} {tg:Expr} (a it:Addr):Turn P w K tg (Itt K a) [it] it (fun i h=>h.IsTupleIter it a i) where
 mem:=by simp
 obj:=fun i h st b hb=>by
  have e:b=it:=by simpa using hb
  subst e
  obtain ⟨o,e,c,d⟩:=st
  exact ⟨o,e,fun v z=>by rw [d] at z;cases z⟩
 keep:=fun i h h' st k=>st.at fun o e=>k it (by simp) o e
 item:=by
  intro X hP hw hK hc i pins s σ H E I hf st hg
  subst hP hw hK
  obtain ⟨xs,x,hq,hx⟩:=hg
  obtain ⟨its,rv,p,hz⟩:=I.tuple hq
  obtain ⟨u,hu,ru⟩:=rv.get hx
  obtain ⟨f0,f1,f2,f3,f4,f5⟩:=hf it (by simp)
  refine wpAny_pyNext_tuple_item st (show s.heap.IsTuple a its.toArray from p) (x:=u) (by simpa using hu) fun h' st' sb=>?_
  have I1:Inv X pins σ H { s with heap:=h' }:=I.turned (t':=s.toks) (fun b o hb e=>(sb.2 b hb).trans e) f0 f1 f3 f4 f5
  obtain ⟨o,e,c,d⟩:=id st'
  exact ⟨u,rfl,go_of (s:={ s with heap:=h' }) e c d (by decide) ⟨x,H,I1,ru,⟨rfl,fun ys hy=>by rw [I.tuple_inj hy hq];exact hx⟩,st',fun b hb=>(hf b hb).1⟩⟩
 done:=by
  intro X hP hw hK hc i pins s σ H E I hf st hg
  subst hP hw hK
  obtain ⟨xs,hq,hx⟩:=hg
  obtain ⟨its,rv,p,hz⟩:=I.tuple hq
  obtain ⟨f0,f1,f2,f3,f4,f5⟩:=hf it (by simp)
  have hl:=rv.length
  exact wpAny_pyNext_tuple_end (I.ok.hd hc) st (show s.heap.IsTuple a its.toArray from p) (by simp;omega) fun h' eb=>⟨rfl,I.turned (t':=s.toks) (fun b o hb e=>eb b o hb e) f0 f1 f3 f4 f5⟩
 self:=fun _ _ _ _ _ st h=>wpAny_pyIter_tupleiter st h
theorem turn_range {P:Program} {w:World} {K:PySem.W.Frag} {tg:Expr} (it:Addr) (lo:Int) (n:Nat):Turn P w K tg (Itr lo n) [it] it (fun i h=>IsRangeIter h it (lo+(i:Nat) * 1) ((n:Int) - (i:Nat)) 1) where
 mem:=by simp
 obj:=fun i h st b hb=>by
  have e:b=it:=by simpa using hb
  subst e
  exact ⟨_,st,fun v z=>by
   have z':Data.fields _=Data.cell v:=z
   cases z'⟩
 keep:=fun i h h' st k=>k it (by simp) _ st
 item:=by
  intro X hP hw hK hc i pins s σ H E I hf st hg
  subst hP hw hK
  obtain ⟨f0,f1,f2,f3,f4,f5⟩:=hf it (by simp)
  have W:=Walks.range (prog:=X.prog) (w:=X.w) (I.ok.hd hc) it lo 1 n
  refine W.item i s _ _ hg st fun v h' tk hv st' kk=>?_
  obtain ⟨t,rfl⟩:=hv
  have I1:Inv X pins σ H { s with heap:=h',toks:=tk }:=I.turned (fun b o hb e=>kk b o (by simpa using hb) e) f0 f1 f3 f4 f5
  refine ⟨_,rfl,go_of (s:={ s with heap:=h',toks:=tk }) (n:="range_iterator") st' rfl rfl (by decide) ⟨.int (lo+i),H,I1,⟨t,?_⟩,⟨rfl,rfl⟩,st',fun b hb=>(hf b hb).1⟩⟩
  rw [Int.mul_one]
 done:=by
  intro X hP hw hK hc i pins s σ H E I hf st hg
  subst hP hw hK
  obtain ⟨f0,f1,f2,f3,f4,f5⟩:=hf it (by simp)
  exact wpAny_pyNext_range_end (I.ok.hd hc) st (by have:n≤i:=hg;omega) fun h' eb=>⟨rfl,I.turned (t':=s.toks) (fun b o hb e=>eb b o hb e) f0 f1 f3 f4 f5⟩
 self:=fun _ _ _ _ _ st h=>wpAny_pyIter_rangeiter st h
end L2
namespace L2
open PySem PySem.Spec PyProof.Rows
section
variable {X:Cx} {tg:Expr}
def iList (K:PySem.W.Frag) (tl:TE):TI:=fun σ H R=>tl σ H fun x H1=>∃ a,x=.ref a∧(∃ xs,SqL K H1 a xs)∧R (Itl K a) H1
def iTup (K:PySem.W.Frag) (tl:TE):TI:=fun σ H R=>tl σ H fun x H1=>∃ a,x=.ref a∧(∃ xs,SqT K H1 a xs)∧R (Itt K a) H1
theorem pi_list {l:Expr} {tl:TE} (hl:PE X l tl):PI X tg l (iList X.K tl):=by
 intro pins s σ H R I h
 refine thn (hl pins s σ H _ I h) fun v s1 ⟨x,H1,I1,r1,q1⟩=>?_
 obtain ⟨a,e,⟨xs,hq⟩,q⟩:=q1
 subst e
 cases r1
 obtain ⟨its,rv,p,hz⟩:=I1.list hq
 refine wpAny_pyIter_list p.isList ?_
 refine ⟨s1.heap.objs.size,[s1.heap.objs.size],_,_,H1,rfl,I1.kept (t':=s1.toks) fun b o e=>Heap.get?_push_of_some _ e,turn_list a _,⟨_,Heap.get?_push_size _ rfl,rfl,rfl⟩,fun b hb=>?_,q⟩
 have e:b=s1.heap.objs.size:=by simpa using hb
 subst e
 exact I1.fpOk (Nat.le_refl _) (I1.hok.fresh (Nat.le_refl _))
theorem pi_tup {l:Expr} {tl:TE} (hl:PE X l tl):PI X tg l (iTup X.K tl):=by
 intro pins s σ H R I h
 refine thn (hl pins s σ H _ I h) fun v s1 ⟨x,H1,I1,r1,q1⟩=>?_
 obtain ⟨a,e,⟨xs,hq⟩,q⟩:=q1
 subst e
 cases r1
 obtain ⟨its,rv,p,hz⟩:=I1.tuple hq
 refine wpAny_pyIter_tuple (show s1.heap.IsTuple a its.toArray from p) ?_
 refine ⟨s1.heap.objs.size,[s1.heap.objs.size],_,_,H1,rfl,I1.kept (t':=s1.toks) fun b o e=>Heap.get?_push_of_some _ e,turn_tuple a _,⟨_,Heap.get?_push_size _ rfl,rfl,rfl⟩,fun b hb=>?_,q⟩
 have e:b=s1.heap.objs.size:=by simpa using hb
 subst e
 exact I1.fpOk (Nat.le_refl _) (I1.hok.fresh (Nat.le_refl _))
theorem range_it {pins:List (Addr × Obj)} {σ:St} {H:Hp} {s:Shared} {R:It→Hp→Prop} {E:Value→Shared→Prop} {lo hi:Int} {t u v:Tok} {tk:Nat} (I:Inv X pins σ H s) (h1:-(2 ^ 62)≤lo) (h2:lo < 2 ^ 62) (h3:-(2 ^ 62)≤hi) (h4:hi < 2 ^ 62)
  (q:R (Itr lo (hi - lo).toNat) H):wpAny (model X.prog X.w) X.A (pyIter (.ref s.heap.objs.size)) (PIE X pins σ tg R) E { s with heap:=s.heap.push { cls:=.type "range",data:=.fields #[.int lo t,.int hi u,.int 1 v] },toks:=tk }:=by
 refine wpAny_pyIter_range (IsRange.new ..) (small_one h1 h2 h3 h4) ?_
 have I1:Inv X pins σ H { s with heap:=s.heap.push { cls:=.type "range",data:=.fields #[.int lo t,.int hi u,.int 1 v] },toks:=tk }:=I.kept fun b o e=>Heap.get?_push_of_some _ e
 refine ⟨(s.heap.push { cls:=.type "range",data:=.fields #[.int lo t,.int hi u,.int 1 v] }).objs.size,[(s.heap.push { cls:=.type "range",data:=.fields #[.int lo t,.int hi u,.int 1 v] }).objs.size],_,_,H,rfl,
  I1.kept (t':=tk) fun b o e=>Heap.get?_push_of_some _ e,turn_range _ lo (hi - lo).toNat,?_,fun b hb=>?_,q⟩
 ·have e1:lo+((0:Nat):Int) * 1=lo:=by simp
  have e2:(((hi - lo).toNat:Nat):Int) - ((0:Nat):Int)=Builtin.Range.rangeSize lo hi 1:=by rw [rangeSize_one];split <;> omega
  show IsRangeIter _ _ (lo+((0:Nat):Int) * 1) ((((hi - lo).toNat:Nat):Int) - ((0:Nat):Int)) 1
  rw [e1,e2]
  exact Heap.get?_push_size _ rfl
 ·have e:b=(s.heap.push { cls:=.type "range",data:=.fields #[.int lo t,.int hi u,.int 1 v] }).objs.size:=by simpa using hb
  subst e
  exact I1.fpOk (Nat.le_refl _) (I1.hok.fresh (Nat.le_refl _))
def iRng1 (ta:TA):TI:=fun σ H R=>ta σ H fun vs H1=>∃ j:Int,vs=[.int j]∧-(2 ^ 62)≤j∧j < 2 ^ 62∧R (Itr 0 j.toNat) H1
def iRng2 (ta:TA):TI:=fun σ H R=>ta σ H fun vs H1=>∃ i j:Int,vs=[.int i,.int j]∧(-(2 ^ 62)≤i∧i < 2 ^ 62∧-(2 ^ 62)≤j∧j < 2 ^ 62)∧R (Itr i (j - i).toNat) H1
theorem pi_range1 {a:Expr} {ta:TA} {p pos:Pos} (hg:Gl X "range") (hm:X.mg "range"=none) (ha:PA X [a] ta) (hs:starEach [a] X.env=[(false,eval a X.env)]:=by rfl):PI X tg (.Call (.Name "range" p) [a] [] pos) (iRng1 ta):=by
 intro pins s σ H R I h
 refine Call_ (ld_blt I hg hm boot_range (PyProof.Rows.callWith_type1 (thn (ha pos pins s σ H _ I h) fun us s1 ⟨vs,H1,I1,r1,q1⟩=>?_) hs rfl))
 obtain ⟨j,e,q1,q2,q⟩:=q1
 subst e
 cases r1 with
 | cons r rr =>
  cases rr
  obtain ⟨t,rfl⟩:=r
  exact call_range_1 (range_it I1 (by omega) (by omega) q1 q2 (by simpa using q))
theorem pi_range2 {a b:Expr} {ta:TA} {p pos:Pos} (hg:Gl X "range") (hm:X.mg "range"=none) (ha:PA X [a,b] ta) (hs:starEach [a,b] X.env=[(false,eval a X.env),(false,eval b X.env)]:=by rfl) (hs2:starEach [b] X.env=[(false,eval b X.env)]:=by rfl) :
  PI X tg (.Call (.Name "range" p) [a,b] [] pos) (iRng2 ta):=by
 intro pins s σ H R I h
 refine Call_ (ld_blt I hg hm boot_range (PyProof.Rows.callWith_type1 (thn (ha pos pins s σ H _ I h) fun us s1 ⟨vs,H1,I1,r1,q1⟩=>?_) (by rw [hs,hs2]) (by rw [hs2];rfl)))
 obtain ⟨i,j,e,⟨q1,q2,q3,q4⟩,q⟩:=q1
 subst e
 cases r1 with
 | cons r rr =>
  cases rr with
  | cons r' rr =>
   cases rr
   obtain ⟨t,rfl⟩:=r
   obtain ⟨t',rfl⟩:=r'
   exact call_range_2 (range_it I1 q1 q2 q3 q4 q)
def tFor (wi:TI) (g:TG) (tb:TS):TS:=fun D σ H=>wi σ H fun J H1=>∃ W:Nat→Nat→St→Hp→Prop,(∃ m,W 0 m σ H1)∧∀ i m σ H,W i m σ H →
 (J.stop i H∧D.nx σ H)∨(J.go i H∧∃ N:St→Hp→Prop,(∀ σ' H',N σ' H'→∃ m',m' < m∧W (i+1) m' σ' H')∧∀ x H',J.yld i H x H'→g x σ H' fun σ2 H2=>tb { D with nx:=N,ct:=N,bk:=D.nx } σ2 H2)
def pinsAt (fp:List Addr) (h:Heap):List (Addr × Obj):=fp.filterMap fun b=>(h.get? b).map fun o=>(b,o)
theorem mem_pinsAt {fp:List Addr} {h:Heap} {b:Addr} {o:Obj} (hb:b ∈ fp) (e:h.get? b=some o):(b,o) ∈ pinsAt fp h:=List.mem_filterMap.mpr ⟨b,hb,by rw [e];rfl⟩
theorem of_pinsAt {fp:List Addr} {h:Heap} {p:Addr × Obj} (hp:p ∈ pinsAt fp h):p.1 ∈ fp∧h.get? p.1=some p.2:=by
 obtain ⟨b,hb,e⟩:=List.mem_filterMap.mp hp
 cases q:h.get? b with
 | none=>rw [q] at e;cases e
 | some o =>
  rw [q] at e
  have e':(b,o)=p:=Option.some.inj e
  subst e'
  exact ⟨hb,q⟩
theorem Inv.pinned {pins:List (Addr × Obj)} {σ:St} {H:Hp} {s:Shared} {fp:List Addr} (I:Inv X pins σ H s) (hf:∀ b ∈ fp,FpOk X pins H b) (ho:∀ b ∈ fp,∃ o,s.heap.get? b=some o∧∀ v,o.data≠.cell v):Inv X (pins ++ pinsAt fp s.heap) σ H s :=
 I.pins_of fun p hp=>(List.mem_append.mp hp).elim (fun z=>I.pin p (List.mem_append_right _ z)) fun z=>by
  obtain ⟨hb,e⟩:=of_pinsAt z
  obtain ⟨f0,f1,f2,_⟩:=hf p.1 hb
  obtain ⟨o,e',d⟩:=ho p.1 hb
  rw [e] at e';cases e'
  exact ⟨e,f0,f1,f2,d⟩
theorem Inv.unpinned {pins pl:List (Addr × Obj)} {σ:St} {H:Hp} {s:Shared} (I:Inv X (pins ++ pl) σ H s):Inv X pins σ H s:=I.pins_of fun p hp=>I.pin p (List.mem_append_right _ (List.mem_append_left _ hp))
theorem ps_for {iter:Expr} {body:List Stmt} {wi:TI} {g:TG} {tb:TS} {pos:Pos} (hp:PassesOwn (model X.prog X.w) X.A X.env X.xe) (hc:X.calm=true) (hi:PI X tg iter wi) (hg:PG X tg g) (hb:PSs X body tb)
  (hs:∀ x,foldedSetIterable iter X.env x=pure x:=by intro _;rfl):PS X (.For tg iter body [] pos) (tFor wi g tb):=by
 intro pins s σ H D I h
 refine wpAny_For (thn (hi pins s σ H _ I h) fun v s1 h1=>thn h1 fun itv s2 h2=>?_) hs
 obtain ⟨it,fp,tn,J,H2,e,I2,T,st2,f2,W,⟨m0,w0⟩,turn⟩:=h2
 subst e
 have stat:∀ {H':Hp},(∀ b ∈ fp,H' b=none)→∀ b ∈ fp,FpOk X pins H' b:=fun hn b hb=>⟨hn b hb,(f2 b hb).2⟩
 refine codeAny_forLoop_any (fun n s'=>∃ i σ' H',Inv X pins σ' H' s'∧tn i s'.heap∧(∀ b ∈ fp,H' b=none)∧W i n σ' H') ?_ m0 ⟨0,σ,H2,I2,st2,fun b hb=>(f2 b hb).1,w0⟩
 rintro n s3 ⟨i,σ3,H3,I3,st3,fr3,w3⟩
 rcases turn i n σ3 H3 w3 with ⟨stop,qn⟩ | ⟨go,N,hN,step⟩
 ·refine wpAny_passesOwn hp (thn (T.done X rfl rfl rfl hc i pins s3 σ3 H3 X.xe I3 (stat fr3) st3 stop) fun r s4 ⟨hr,I4⟩=>?_)
  subst hr
  exact wpAny_execs_nil ⟨σ3,H3,I4,qn⟩
 ·refine wpAny_passesOwn hp (thn (T.item X rfl rfl rfl hc i pins s3 σ3 H3 X.xe I3 (stat fr3) st3 go) fun r s4 ⟨u,hr,h4⟩=>?_)
  subst hr
  refine wpAny_passesOwn hp (thn h4 fun _ s5 ⟨x,H5,I5,r5,y5,st5,fr5⟩=>?_)
  have I5':=I5.pinned (stat fr5) (T.obj _ _ st5)
  refine wpAny_passesOwn hp (thn (hg _ s5 σ3 H5 x u _ I5' r5 (step x H5 y5)) fun _ s6 ⟨σ6,H6,I6,q6⟩=>?_)
  refine wpAny_passesOwn hp (thn (hb _ s6 σ6 H6 _ I6 q6) fun f s7 q7=>?_)
  have again:∀ {σ7:St} {H7:Hp},Inv X (pins ++ pinsAt fp s5.heap) σ7 H7 s7→N σ7 H7→∃ m,m < n∧∃ i σ' H',Inv X pins σ' H' s7∧tn i s7.heap∧(∀ b ∈ fp,H' b=none)∧W i m σ' H':=fun {σ7 H7} I7 n7=>by
   obtain ⟨m',hm,w7⟩:=hN σ7 H7 n7
   refine ⟨m',hm,i+1,σ7,H7,I7.unpinned,T.keep _ _ _ st5 fun b hb o e=>(I7.pin (b,o) (List.mem_append_right _ (List.mem_append_right _ (mem_pinsAt hb e)))).1,fun b hb=>?_,w7⟩
   obtain ⟨o,e,d⟩:=T.obj _ _ st5 b hb
   exact (I7.pin (b,o) (List.mem_append_right _ (List.mem_append_right _ (mem_pinsAt hb e)))).2.1
  cases f with
  | next=>obtain ⟨σ7,H7,I7,n7⟩:=q7;exact again I7 n7
  | cont=>obtain ⟨σ7,H7,I7,n7⟩:=q7;exact again I7 n7
  | brk=>obtain ⟨σ7,H7,I7,q7⟩:=q7;exact ⟨σ7,H7,I7.unpinned,q7⟩
  | ret v=>obtain ⟨x7,σ7,H7,I7,r7,q7⟩:=q7;exact ⟨x7,σ7,H7,I7.unpinned,r7,q7⟩
end
theorem for_list {K:PySem.W.Frag} {a:Addr} {xs:List V} {g:TG} {tb:TS} {D:Ends} {σ:St} {H:Hp} (Pv:Nat→St→Hp→Prop) (h0:Pv 0 σ H) (hl:∀ i σ H,i≤xs.length→Pv i σ H→SqL K H a xs)
  (hs:∀ i x σ H,xs[i]?=some x→Pv i σ H→g x σ H fun σ2 H2=>tb { D with nx:=Pv (i+1),ct:=Pv (i+1),bk:=D.nx } σ2 H2) (hd:∀ σ H,Pv xs.length σ H→D.nx σ H) :
  ∃ W:Nat→Nat→St→Hp→Prop,(∃ m,W 0 m σ H)∧∀ i m σ H,W i m σ H →
   ((Itl K a).stop i H∧D.nx σ H)∨((Itl K a).go i H∧∃ N:St→Hp→Prop,(∀ σ' H',N σ' H'→∃ m',m' < m∧W (i+1) m' σ' H')∧∀ x H',(Itl K a).yld i H x H'→g x σ H' fun σ2 H2=>tb { D with nx:=N,ct:=N,bk:=D.nx } σ2 H2):=by
 refine ⟨fun i m σ H=>m=xs.length - i∧i≤xs.length∧Pv i σ H,⟨xs.length,by simp,Nat.zero_le _,h0⟩,?_⟩
 rintro i m σ H ⟨rfl,hi,p⟩
 have q:=hl i σ H hi p
 by_cases hlt:i < xs.length
 ·refine .inr ⟨⟨xs,xs[i],q,by simp [hlt]⟩,Pv (i+1),fun σ' H' p'=>⟨xs.length - (i+1),by omega,rfl,hlt,p'⟩,fun x H' y=>?_⟩
  obtain ⟨e,y⟩:=y
  subst e
  exact hs i x σ _ (y xs q) p
 ·have e:i=xs.length:=by omega
  subst e
  exact .inl ⟨⟨xs,q,Nat.le_refl _⟩,hd σ H p⟩
theorem for_tup {K:PySem.W.Frag} {a:Addr} {xs:List V} {g:TG} {tb:TS} {D:Ends} {σ:St} {H:Hp} (Pv:Nat→St→Hp→Prop) (h0:Pv 0 σ H) (hl:∀ i σ H,i≤xs.length→Pv i σ H→SqT K H a xs)
  (hs:∀ i x σ H,xs[i]?=some x→Pv i σ H→g x σ H fun σ2 H2=>tb { D with nx:=Pv (i+1),ct:=Pv (i+1),bk:=D.nx } σ2 H2) (hd:∀ σ H,Pv xs.length σ H→D.nx σ H) :
  ∃ W:Nat→Nat→St→Hp→Prop,(∃ m,W 0 m σ H)∧∀ i m σ H,W i m σ H →
   ((Itt K a).stop i H∧D.nx σ H)∨((Itt K a).go i H∧∃ N:St→Hp→Prop,(∀ σ' H',N σ' H'→∃ m',m' < m∧W (i+1) m' σ' H')∧∀ x H',(Itt K a).yld i H x H'→g x σ H' fun σ2 H2=>tb { D with nx:=N,ct:=N,bk:=D.nx } σ2 H2):=by
 refine ⟨fun i m σ H=>m=xs.length - i∧i≤xs.length∧Pv i σ H,⟨xs.length,by simp,Nat.zero_le _,h0⟩,?_⟩
 rintro i m σ H ⟨rfl,hi,p⟩
 have q:=hl i σ H hi p
 by_cases hlt:i < xs.length
 ·refine .inr ⟨⟨xs,xs[i],q,by simp [hlt]⟩,Pv (i+1),fun σ' H' p'=>⟨xs.length - (i+1),by omega,rfl,hlt,p'⟩,fun x H' y=>?_⟩
  obtain ⟨e,y⟩:=y
  subst e
  exact hs i x σ _ (y xs q) p
 ·have e:i=xs.length:=by omega
  subst e
  exact .inl ⟨⟨xs,q,Nat.le_refl _⟩,hd σ H p⟩
theorem for_range {lo:Int} {n:Nat} {g:TG} {tb:TS} {D:Ends} {σ:St} {H:Hp} (Pv:Nat→St→Hp→Prop) (h0:Pv 0 σ H)
  (hs:∀ i σ H,i < n→Pv i σ H→g (.int (lo+i)) σ H fun σ2 H2=>tb { D with nx:=Pv (i+1),ct:=Pv (i+1),bk:=D.nx } σ2 H2) (hd:∀ σ H,Pv n σ H→D.nx σ H) :
  ∃ W:Nat→Nat→St→Hp→Prop,(∃ m,W 0 m σ H)∧∀ i m σ H,W i m σ H →
   ((Itr lo n).stop i H∧D.nx σ H)∨((Itr lo n).go i H∧∃ N:St→Hp→Prop,(∀ σ' H',N σ' H'→∃ m',m' < m∧W (i+1) m' σ' H')∧∀ x H',(Itr lo n).yld i H x H'→g x σ H' fun σ2 H2=>tb { D with nx:=N,ct:=N,bk:=D.nx } σ2 H2):=by
 refine ⟨fun i m σ H=>m=n - i∧i≤n∧Pv i σ H,⟨n,by simp,Nat.zero_le _,h0⟩,?_⟩
 rintro i m σ H ⟨rfl,hi,p⟩
 by_cases hlt:i < n
 ·refine .inr ⟨hlt,Pv (i+1),fun σ' H' p'=>⟨n - (i+1),by omega,rfl,hlt,p'⟩,fun x H' y=>?_⟩
  obtain ⟨e,y⟩:=y
  subst e y
  exact hs i σ _ hlt p
 ·have e:i=n:=by omega
  subst e
  exact .inl ⟨Nat.le_refl _,hd σ H p⟩
theorem while_by {c:TT} {tb:TS} {D:Ends} {σ:St} {H:Hp} (Pv:St→Hp→Prop) (μ:St→Hp→Nat) (h0:Pv σ H)
  (hs:∀ σ H,Pv σ H→c σ H fun b H1=>if b=true then tb { D with nx:=fun σ' H'=>Pv σ' H'∧μ σ' H' < μ σ H,ct:=fun σ' H'=>Pv σ' H'∧μ σ' H' < μ σ H,bk:=D.nx } σ H1 else D.nx σ H1)
  (mono:∀ σ H Q Q',(∀ b H1,Q b H1→Q' b H1)→c σ H Q→c σ H Q'):tWhile c tb D σ H:=by
 refine ⟨fun m σ H=>m=μ σ H∧Pv σ H,⟨_,rfl,h0⟩,?_⟩
 rintro m σ H ⟨rfl,p⟩
 refine mono σ H _ _ (fun b H1 q=>?_) (hs σ H p)
 cases b with
 | true=>exact ⟨_,fun σ' H' ⟨p',l⟩=>⟨_,l,rfl,p'⟩,q⟩
 | false=>exact q
end L2
namespace L2
open PySem PySem.Spec PyProof.Rows
abbrev R2:=V→V→Hp→VK→Prop
def OpR (X:Cx) (f:Value→Value→Sem Value) (r:R2):Prop :=
 ∀ (pins:List (Addr × Obj)) (s:Shared) (σ:St) (H:Hp) (x y:V) (v u:Value) (Q:VK),Inv X pins σ H s→RelV x v→RelV y u→r x y H Q →
  wpAny (model X.prog X.w) X.A (f v u) (EP X pins σ Q) X.xe s
def UnR (X:Cx) (f:Value→Sem Value) (r:V→Hp→VK→Prop):Prop :=
 ∀ (pins:List (Addr × Obj)) (s:Shared) (σ:St) (H:Hp) (x:V) (v:Value) (Q:VK),Inv X pins σ H s→RelV x v→r x H Q →
  wpAny (model X.prog X.w) X.A (f v) (EP X pins σ Q) X.xe s
def CallR (X:Cx) (f:Value) (r:List V→Hp→VK→Prop):Prop :=
 ∀ (pins:List (Addr × Obj)) (s:Shared) (σ:St) (H:Hp) (xs:List V) (us:List Value) (Q:VK),Inv X pins σ H s→Vals xs us→r xs H Q →
  wpAny (model X.prog X.w) X.A (call f us) (EP X pins σ Q) X.xe s
def TruR (X:Cx) (r:V→Hp→(Bool→Hp→Prop)→Prop):Prop :=
 ∀ (pins:List (Addr × Obj)) (s:Shared) (σ:St) (H:Hp) (x:V) (v:Value) (Q:Bool→Hp→Prop),Inv X pins σ H s→RelV x v→r x H Q →
  wpAny (model X.prog X.w) X.A (truthy v) (TP X pins σ Q) X.xe s
def tOp (r:R2) (ta tb:TE):TE:=fun σ H Q=>ta σ H fun x H1=>tb σ H1 fun y H2=>r x y H2 Q
def tUn (r:V→Hp→VK→Prop) (ta:TE):TE:=fun σ H Q=>ta σ H fun x H1=>r x H1 Q
def rI (C:Int→Int→Prop) (g:Int→Int→V):R2:=fun x y H Q=>∃ i j,x=.int i∧y=.int j∧C i j∧Q (g i j) H
def rI0 (g:Int→Int→V):R2:=fun x y H Q=>∃ i j,x=.int i∧y=.int j∧Q (g i j) H
def rU (g:Int→V):V→Hp→VK→Prop:=fun x H Q=>∃ i,x=.int i∧Q (g i) H
section
variable {X:Cx} {a b c:Expr} {ta tb tc:TE} {pos:Pos}
theorem binT (ha:PE X a ta) (hb:PE X b tb) {pins:List (Addr × Obj)} {s:Shared} {σ:St} {H:Hp} {R:V→V→Hp→Prop} (I:Inv X pins σ H s)
  (h:ta σ H fun x H1=>tb σ H1 fun y H2=>R x y H2) {Q:Value→Shared→Prop} {f:Value→Value→Sem Value}
  (hf:∀ v u s2 x y H2,Inv X pins σ H2 s2→RelV x v→RelV y u→R x y H2→wpAny (model X.prog X.w) X.A (f v u) Q X.xe s2) :
  wpAny (model X.prog X.w) X.A (eval a X.env) (fun v s₁=>wpAny (model X.prog X.w) X.A (eval b X.env) (fun u s₂=>wpAny (model X.prog X.w) X.A (f v u) Q X.xe s₂) X.xe s₁) X.xe s:=by
 refine thn (ha pins s σ H _ I h) fun v s1 ⟨x,H1,I1,r1,q1⟩=>?_
 refine thn (hb pins s1 σ H1 _ I1 q1) fun u s2 ⟨y,H2,I2,r2,q2⟩=>?_
 exact hf v u s2 x y H2 I2 r1 r2 q2
theorem pe_op {op:Operator} {r:R2} (ho:OpR X (binaryOp op) r) (ha:PE X a ta) (hb:PE X b tb):PE X (.BinOp a op b pos) (tOp r ta tb):=by
 intro pins s σ H Q I h
 exact wpAny_BinOp (binT ha hb I h fun v u s2 x y H2 I2 rx ry q=>ho pins s2 σ H2 x y v u Q I2 rx ry q)
theorem pe_un {op:UnaryOp} {r:V→Hp→VK→Prop} (ho:UnR X (unaryOp op) r) (ha:PE X a ta):PE X (.UnaryOp op a pos) (tUn r ta):=by
 intro pins s σ H Q I h
 exact UnaryOp_ (thn (ha pins s σ H _ I h) fun v s1 ⟨x,H1,I1,r1,q1⟩=>ho pins s1 σ H1 x v Q I1 r1 q1)
theorem opI {f:Value→Value→Sem Value} {C:Int→Int→Prop} {g:Int→Int→Int}
  (rule:∀ (i j:Int) (t u:Tok) (s:Shared) (Q:Value→Shared→Prop) (E:Value→Shared→Prop),C i j→Q (.int (g i j) s.toks) { s with toks:=s.toks+1 }→wpAny (model X.prog X.w) X.A (f (.int i t) (.int j u)) Q E s) :
  OpR X f (rI C fun i j=>.int (g i j)):=by
 intro pins s σ H x y v u Q I rx ry h
 obtain ⟨i,j,rfl,rfl,hc,q⟩:=h
 obtain ⟨t,rfl⟩:=rx
 obtain ⟨t',rfl⟩:=ry
 exact rule i j t t' s _ _ hc ⟨.int (g i j),H,I.tok _,⟨_,rfl⟩,q⟩
theorem opI0 {f:Value→Value→Sem Value} {g:Int→Int→Int}
  (rule:∀ (i j:Int) (t u:Tok) (s:Shared) (Q:Value→Shared→Prop) (E:Value→Shared→Prop),Q (.int (g i j) s.toks) { s with toks:=s.toks+1 }→wpAny (model X.prog X.w) X.A (f (.int i t) (.int j u)) Q E s) :
  OpR X f (rI0 fun i j=>.int (g i j)):=by
 intro pins s σ H x y v u Q I rx ry h
 obtain ⟨i,j,rfl,rfl,q⟩:=h
 obtain ⟨t,rfl⟩:=rx
 obtain ⟨t',rfl⟩:=ry
 exact rule i j t t' s _ _ ⟨.int (g i j),H,I.tok _,⟨_,rfl⟩,q⟩
theorem opB0 {f:Value→Value→Sem Value} {g:Int→Int→Bool}
  (rule:∀ (i j:Int) (t u:Tok) (s:Shared) (Q:Value→Shared→Prop) (E:Value→Shared→Prop),Q (.bool (g i j)) s→wpAny (model X.prog X.w) X.A (f (.int i t) (.int j u)) Q E s) :
  OpR X f (rI0 fun i j=>.bl (g i j)):=by
 intro pins s σ H x y v u Q I rx ry h
 obtain ⟨i,j,rfl,rfl,q⟩:=h
 obtain ⟨t,rfl⟩:=rx
 obtain ⟨t',rfl⟩:=ry
 exact rule i j t t' s _ _ ⟨.bl (g i j),H,I,rfl,q⟩
def CDiv (i j:Int):Prop:=0 < j∧j < 1073741824
def CPow (i j:Int):Prop:=0≤j∧j≤1000000∧i.natAbs < 2 ^ 64
def CMul (i j:Int):Prop:=(-(2 ^ 64) < i∧i < 2 ^ 64)∨(-(2 ^ 64) < j∧j < 2 ^ 64)
theorem CMul.ok {i j:Int} (h:CMul i j):IntMulOk i j:=by
 rcases h with ⟨h1,h2⟩ | ⟨h1,h2⟩
 ·exact .of_left (intBits_le_64 h1 h2)
 ·exact .of_right (intBits_le_64 h1 h2)
theorem op_add:OpR X (binaryOp .Add) (rI0 fun i j=>.int (i+j)):=opI0 fun _ _ _ _ _ _ _ q=>add_int q
theorem op_sub:OpR X (binaryOp .Sub) (rI0 fun i j=>.int (i - j)):=opI0 fun _ _ _ _ _ _ _ q=>sub_int q
theorem op_mul:OpR X (binaryOp .Mult) (rI CMul fun i j=>.int (i * j)):=opI fun _ _ _ _ _ _ _ hc q=>mul_int q hc.ok
theorem op_fdiv:OpR X (binaryOp .FloorDiv) (rI CDiv fun i j=>.int (i / j)):=opI fun i j _ _ _ _ _ hc q=>by
 have h1:(0:Int) < j:=hc.1
 have h2:j < 1073741824:=hc.2
 exact floordiv_int (by omega) (by rw [Int.fdiv_eq_ediv_of_nonneg i (by omega)];exact q) (.inl (PyProof.noPylong_small (by omega)))
theorem op_mod:OpR X (binaryOp .Mod) (rI (fun _ j=>0 < j) fun i j=>.int (i % j)):=opI fun i j _ _ _ _ _ hc q=>by
 have h1:(0:Int) < j:=hc
 exact mod_int' (by omega) (by rw [Int.fmod_eq_emod_of_nonneg i (by omega)];exact q)
theorem op_pow:OpR X (binaryOp .Pow) (rI CPow fun i j=>.int (i ^ j.toNat)):=opI fun _ _ _ _ _ _ _ hc q=>pow_int_small hc.1 hc.2.1 hc.2.2 q
theorem unI {f:Value→Sem Value} {g:Int→Int}
  (rule:∀ (i:Int) (t:Tok) (s:Shared) (Q:Value→Shared→Prop) (E:Value→Shared→Prop),Q (.int (g i) s.toks) { s with toks:=s.toks+1 }→wpAny (model X.prog X.w) X.A (f (.int i t)) Q E s) :
  UnR X f (rU fun i=>.int (g i)):=by
 intro pins s σ H x v Q I rx h
 obtain ⟨i,rfl,q⟩:=h
 obtain ⟨t,rfl⟩:=rx
 exact rule i t s _ _ ⟨.int (g i),H,I.tok _,⟨_,rfl⟩,q⟩
theorem un_neg:UnR X (unaryOp .USub) (rU fun i=>.int (-i)):=unI fun _ _ _ _ _ q=>neg_int q
end
def scal:V→V→Bool
 | .non,.non=>true | .non,.int _=>true | .int _,.non=>true | .non,.bl _=>true | .bl _,.non=>true | .non,.str _=>true | .str _,.non=>true
 | .int _,.int _=>true | .bl _,.bl _=>true | .str _,.str _=>true | .byt _,.byt _=>true
 | .int _,.str _=>true | .str _,.int _=>true | .bl _,.str _=>true | .str _,.bl _=>true
 | _,_=>false
def rEq:R2:=fun x y H Q=>scal x y=true∧Q (.bl (decide (x=y))) H
def rNe:R2:=fun x y H Q=>scal x y=true∧Q (.bl (!decide (x=y))) H
theorem dec_int {i j:Int}:decide (V.int i=V.int j)=(i == j):=by
 rw [Bool.eq_iff_iff]
 simp
theorem dec_bl {i j:Bool}:decide (V.bl i=V.bl j)=(i == j):=by
 rw [Bool.eq_iff_iff]
 simp
theorem dec_str {i j:Str}:decide (V.str i=V.str j)=(i == j):=by
 rw [Bool.eq_iff_iff]
 simp
theorem dec_byt {i j:Array UInt8}:decide (V.byt i=V.byt j)=(i.toList == j.toList):=by
 rw [Bool.eq_iff_iff]
 cases i
 cases j
 simp
section
variable {X:Cx} {a b c:Expr} {ta tb tc:TE} {pos:Pos}
theorem fin_bl {pins:List (Addr × Obj)} {σ:St} {H:Hp} {s:Shared} {Q:VK} {k k':Bool} (I:Inv X pins σ H s) (q:Q (.bl k) H) (e:k=k'):EP X pins σ Q (.bool k') s:=by
 subst e
 exact ⟨.bl k,H,I,rfl,q⟩
theorem op_eq:OpR X (compareOp .Eq) rEq:=by
 intro pins s σ H x y v u Q I rx ry h
 obtain ⟨hs,q⟩:=h
 cases x with
 | non =>
  cases rx
  cases y with
  | non=>cases ry;exact PySem.EqNone.eq_none_none (fin_bl I q (by simp))
  | bl j=>cases ry;exact PySem.EqNone.eq_none_bool (fin_bl I q (by simp))
  | int j=>obtain ⟨t',rfl⟩:=ry;exact PySem.EqNone.eq_none_int (fin_bl I q (by simp))
  | str j=>obtain ⟨t',rfl⟩:=ry;exact PySem.EqNone.eq_none_str (fin_bl I q (by simp))
  | _=>exact absurd (show false=true from hs) Bool.false_ne_true
 | bl i =>
  cases rx
  cases y with
  | non=>cases ry;exact PySem.EqNone.eq_bool_none (fin_bl I q (by simp))
  | bl j=>cases ry;exact eq_bool (fin_bl I q dec_bl)
  | str j=>obtain ⟨t',rfl⟩:=ry;exact PySem.EqMixed.eq_bool_str (fin_bl I q (by simp))
  | _=>exact absurd (show false=true from hs) Bool.false_ne_true
 | int i =>
  obtain ⟨t,rfl⟩:=rx
  cases y with
  | non=>cases ry;exact PySem.EqNone.eq_int_none (fin_bl I q (by simp))
  | int j=>obtain ⟨t',rfl⟩:=ry;exact eq_int (fin_bl I q dec_int)
  | str j=>obtain ⟨t',rfl⟩:=ry;exact PySem.EqMixed.eq_int_str (fin_bl I q (by simp))
  | _=>exact absurd (show false=true from hs) Bool.false_ne_true
 | str i =>
  obtain ⟨t,rfl⟩:=rx
  cases y with
  | non=>cases ry;exact PySem.EqNone.eq_str_none (fin_bl I q (by simp))
  | bl j=>cases ry;exact PySem.EqMixed.eq_str_bool (fin_bl I q (by simp))
  | int j=>obtain ⟨t',rfl⟩:=ry;exact PySem.EqMixed.eq_str_int (fin_bl I q (by simp))
  | str j=>obtain ⟨t',rfl⟩:=ry;exact eq_str (fin_bl I q dec_str)
  | _=>exact absurd (show false=true from hs) Bool.false_ne_true
 | byt i =>
  obtain ⟨t,rfl⟩:=rx
  cases y with
  | byt j=>obtain ⟨t',rfl⟩:=ry;exact PySem.W.eq_bytes (fin_bl I q dec_byt)
  | _=>exact absurd (show false=true from hs) Bool.false_ne_true
 | _=>cases y <;> exact absurd (show false=true from hs) Bool.false_ne_true
theorem op_ne:OpR X (compareOp .NotEq) rNe:=by
 intro pins s σ H x y v u Q I rx ry h
 obtain ⟨hs,q⟩:=h
 cases x with
 | non =>
  cases rx
  cases y with
  | non=>cases ry;exact PySem.EqNone.ne_none_none (fin_bl I q (by simp))
  | bl j=>cases ry;exact PySem.EqNone.ne_none_bool (fin_bl I q (by simp))
  | int j=>obtain ⟨t',rfl⟩:=ry;exact PySem.EqNone.ne_none_int (fin_bl I q (by simp))
  | str j=>obtain ⟨t',rfl⟩:=ry;exact PySem.EqNone.ne_none_str (fin_bl I q (by simp))
  | _=>exact absurd (show false=true from hs) Bool.false_ne_true
 | bl i =>
  cases rx
  cases y with
  | non=>cases ry;exact PySem.EqNone.ne_bool_none (fin_bl I q (by simp))
  | bl j=>cases ry;exact ne_bool (fin_bl I q (congrArg not dec_bl))
  | str j=>obtain ⟨t',rfl⟩:=ry;exact PySem.EqMixed.ne_bool_str (fin_bl I q (by simp))
  | _=>exact absurd (show false=true from hs) Bool.false_ne_true
 | int i =>
  obtain ⟨t,rfl⟩:=rx
  cases y with
  | non=>cases ry;exact PySem.EqNone.ne_int_none (fin_bl I q (by simp))
  | int j=>obtain ⟨t',rfl⟩:=ry;exact ne_int (fin_bl I q (congrArg not dec_int))
  | str j=>obtain ⟨t',rfl⟩:=ry;exact PySem.EqMixed.ne_int_str (fin_bl I q (by simp))
  | _=>exact absurd (show false=true from hs) Bool.false_ne_true
 | str i =>
  obtain ⟨t,rfl⟩:=rx
  cases y with
  | non=>cases ry;exact PySem.EqNone.ne_str_none (fin_bl I q (by simp))
  | bl j=>cases ry;exact PySem.EqMixed.ne_str_bool (fin_bl I q (by simp))
  | int j=>obtain ⟨t',rfl⟩:=ry;exact PySem.EqMixed.ne_str_int (fin_bl I q (by simp))
  | str j=>obtain ⟨t',rfl⟩:=ry;exact ne_str (fin_bl I q (congrArg not dec_str))
  | _=>exact absurd (show false=true from hs) Bool.false_ne_true
 | byt i =>
  obtain ⟨t,rfl⟩:=rx
  cases y with
  | byt j=>obtain ⟨t',rfl⟩:=ry;exact PySem.W.ne_bytes (fin_bl I q (congrArg not dec_byt))
  | _=>exact absurd (show false=true from hs) Bool.false_ne_true
 | _=>cases y <;> exact absurd (show false=true from hs) Bool.false_ne_true
theorem op_lt:OpR X (compareOp .Lt) (rI0 fun i j=>.bl (decide (i < j))):=opB0 fun _ _ _ _ _ _ _ q=>lt_int q
theorem op_le:OpR X (compareOp .LtE) (rI0 fun i j=>.bl (decide (i≤j))):=opB0 fun _ _ _ _ _ _ _ q=>le_int q
theorem op_gt:OpR X (compareOp .Gt) (rI0 fun i j=>.bl (decide (j < i))):=opB0 fun _ _ _ _ _ _ _ q=>gt_int q
theorem op_ge:OpR X (compareOp .GtE) (rI0 fun i j=>.bl (decide (j≤i))):=opB0 fun _ _ _ _ _ _ _ q=>ge_int q
theorem op_isN:OpR X (compareOp .Is) (fun x y H Q=>y=.non∧Q (.bl (decide (x=.non))) H):=by
 intro pins s σ H x y v u Q I rx ry h
 obtain ⟨rfl,q⟩:=h
 cases ry
 refine is_none_gen (fin_bl I q ?_)
 cases x <;> first
  | (cases rx;rfl)
  | (obtain ⟨t,rfl⟩:=rx;rfl)
theorem op_notN:OpR X (compareOp .IsNot) (fun x y H Q=>y=.non∧Q (.bl (!decide (x=.non))) H):=by
 intro pins s σ H x y v u Q I rx ry h
 obtain ⟨rfl,q⟩:=h
 cases ry
 refine isnot_none_gen (fin_bl I q ?_)
 cases x <;> first
  | (cases rx;rfl)
  | (obtain ⟨t,rfl⟩:=rx;rfl)
theorem OpR.or {f:Value→Value→Sem Value} {r r':R2} (h:OpR X f r) (h':OpR X f r'):OpR X f (fun x y H Q=>r x y H Q∨r' x y H Q):=by
 intro pins s σ H x y v u Q I rx ry q
 rcases q with q | q
 ·exact h pins s σ H x y v u Q I rx ry q
 ·exact h' pins s σ H x y v u Q I rx ry q
theorem nomark (b:Expr) {op:CmpOp} (h:op≠.In:=by decide) (h2:op≠.NotIn:=by decide):behindInMarks op b=false:=by
 have e1:(op == CmpOp.In)=false:=by cases op <;> first | rfl | exact absurd rfl h
 have e2:(op == CmpOp.NotIn)=false:=by cases op <;> first | rfl | exact absurd rfl h2
 cases b <;> simp [behindInMarks,e1,e2]
theorem pe_cmpR {op:CmpOp} {r:R2} (ho:OpR X (compareOp op) r) (ha:PE X a ta) (hb:PE X b tb) (hm:behindInMarks op b=false):PE X (.Compare a [op] [b] pos) (tOp r ta tb):=by
 intro pins s σ H Q I h
 exact wpAny_Compare1 (binT ha hb I h fun v u s2 x y H2 I2 rx ry q=>ho pins s2 σ H2 x y v u Q I2 rx ry q) hm
def tTest (t:TE):TT:=fun σ H Q=>t σ H fun x H'=>∃ k,x=.bl k∧Q k H'
theorem pt_cmpR {op:CmpOp} {r:R2} (ho:OpR X (compareOp op) r) (ha:PE X a ta) (hb:PE X b tb) (hm:behindInMarks op b=false):PT X (.Compare a [op] [b] pos) (tTest (tOp r ta tb)):=by
 intro pins s σ H Q I h
 refine wpAny_isTrue_Compare1 (thn (ha pins s σ H _ I h) fun v s1 ⟨x,H1,I1,r1,q1⟩=>thn (hb pins s1 σ H1 _ I1 q1) fun u s2 ⟨y,H2,I2,r2,q2⟩ =>
  thn (ho pins s2 σ H2 x y v u _ I2 r1 r2 q2) fun c s3 ⟨z,H3,I3,r3,k,e,q3⟩=>?_) hm
 subst e
 cases r3
 exact wpAny_truthy_bool ⟨H3,I3,q3⟩
def tChain (r r':R2) (ta tb tc:TE):TE:=fun σ H Q=>ta σ H fun x H1=>tb σ H1 fun y H2=>r x y H2 fun z H3=>∃ k,z=.bl k ∧
 (if k=true then tc σ H3 fun w' H4=>r' y w' H4 Q else Q (.bl false) H3)
theorem pe_chain {op op':CmpOp} {r r':R2} (ho:OpR X (compareOp op) r) (ho':OpR X (compareOp op') r') (ha:PE X a ta) (hb:PE X b tb) (hc:PE X c tc)
  (hm:lastMarks [op,op'] [b,c]=false:=by with_unfolding_all rfl):PE X (.Compare a [op,op'] [b,c] pos) (tChain r r' ta tb tc):=by
 intro pins s σ H Q I h
 refine Compare_chain (thn (ha pins s σ H _ I h) fun v s1 ⟨x,H1,I1,r1,q1⟩=>chain_link (thn (hb pins s1 σ H1 _ I1 q1) fun u s2 ⟨y,H2,I2,r2,q2⟩ =>
  thn (ho pins s2 σ H2 x y v u _ I2 r1 r2 q2) fun d s3 ⟨z,H3,I3,r3,k,e,q3⟩=>?_)) hm
 subst e
 cases r3
 refine wpAny_truthy_bool ?_
 cases k with
 | false=>exact ite_ff ⟨.bl false,H3,I3,rfl,q3⟩
 | true=>exact ite_tt (chain_last (thn (hc pins s3 σ H3 _ I3 q3) fun w' s4 ⟨z',H4,I4,r4,q4⟩=>ho' pins s4 σ H4 y z' u w' Q I4 r2 r4 q4))
theorem pt_chain {op op':CmpOp} {r r':R2} (ho:OpR X (compareOp op) r) (ho':OpR X (compareOp op') r') (ha:PE X a ta) (hb:PE X b tb) (hc:PE X c tc)
  (hm:lastMarks [op,op'] [b,c]=false:=by with_unfolding_all rfl):PT X (.Compare a [op,op'] [b,c] pos) (tTest (tChain r r' ta tb tc)):=by
 intro pins s σ H Q I h
 refine isTrue_chain (thn (ha pins s σ H _ I h) fun v s1 ⟨x,H1,I1,r1,q1⟩=>test_link (thn (hb pins s1 σ H1 _ I1 q1) fun u s2 ⟨y,H2,I2,r2,q2⟩ =>
  thn (ho pins s2 σ H2 x y v u _ I2 r1 r2 q2) fun d s3 ⟨z,H3,I3,r3,k,e,q3⟩=>?_)) hm
 subst e
 cases r3
 refine wpAny_truthy_bool ?_
 cases k with
 | false =>
  obtain ⟨k',e',q'⟩:=q3
  cases e'
  exact ite_ff ⟨H3,I3,q'⟩
 | true =>
  refine ite_tt (test_last (thn (hc pins s3 σ H3 _ I3 q3) fun w' s4 ⟨z',H4,I4,r4,q4⟩=>thn (ho' pins s4 σ H4 y z' u w' _ I4 r2 r4 q4) fun d' s5 ⟨z2,H5,I5,r5,k2,e2,q5⟩=>?_))
  subst e2
  cases r5
  exact wpAny_truthy_bool ⟨H5,I5,q5⟩
def TruV (K:PySem.W.Frag) (x:V) (H:Hp) (k:Bool):Prop :=
 match x with
 | .non=>k=false
 | .bl b=>k=b
 | .int i=>k=(i != 0)
 | .str y=>y.length≤sizeLine∧k=((y.length:Int) != 0)
 | .byt y=>y.size≤sizeLine∧k=((y.size:Int) != 0)
 | .ref p=>(∃ xs,SqL K H p xs∧k=!xs.isEmpty)∨(∃ xs,SqT K H p xs∧k=!xs.isEmpty)∨∃ kvs,H p=some (.dK kvs)∧k=!kvs.isEmpty
 | _=>False
theorem isEmpty_kv {κ:Type} {kvs:List (κ × V)} {vs:List (κ × Value)} (r:KV kvs vs):(!vs.isEmpty)=!kvs.isEmpty:=by
 cases r <;> rfl
theorem isEmpty_of {xs:List V} {its:List Value} (r:Vals xs its):(!its.toArray.isEmpty)=!xs.isEmpty:=by
 cases r <;> simp
theorem line63:(sizeLine:Nat) < 2 ^ 63:=by rw [sizeLine_eq];decide
theorem tru_ok:TruR X (fun x H Q=>∃ k,TruV X.K x H k∧Q k H):=by
 intro pins s σ H x v Q I rx h
 obtain ⟨k,e,q⟩:=h
 have hl:=line63
 have hs:sizeLine=16777216:=sizeLine_eq
 cases x with
 | non =>
  cases rx
  have e':k=false:=e
  subst e'
  exact truthy_none ⟨H,I,q⟩
 | bl b =>
  cases rx
  have e':k=b:=e
  subst e'
  exact wpAny_truthy_bool ⟨H,I,q⟩
 | int i =>
  obtain ⟨t,rfl⟩:=rx
  have e':k=(i != 0):=e
  subst e'
  exact PySem.P.truthy_int ⟨H,I,q⟩
 | str y =>
  obtain ⟨t,rfl⟩:=rx
  obtain ⟨hy,e'⟩:y.length≤sizeLine∧k=((y.length:Int) != 0):=e
  subst e'
  exact PySem.P.truthy_str (by omega) ⟨H,I.tok _,q⟩
 | byt y =>
  obtain ⟨t,rfl⟩:=rx
  obtain ⟨hy,e'⟩:y.size≤sizeLine∧k=((y.size:Int) != 0):=e
  subst e'
  exact PySem.W.truthy_bytes (by omega) ⟨H,I.tok _,q⟩
 | ref p =>
  cases rx
  have e':(∃ xs,SqL X.K H p xs∧k=!xs.isEmpty)∨(∃ xs,SqT X.K H p xs∧k=!xs.isEmpty)∨∃ kvs,H p=some (.dK kvs)∧k=!kvs.isEmpty:=e
  rcases e' with ⟨xs,hx,e'⟩ | ⟨xs,hx,e'⟩ | ⟨kvs,hx,e'⟩
  ·subst e'
   obtain ⟨its,r,pl,hz⟩:=I.list hx
   have hlen:=r.length
   exact wpAny_truthy_list pl.isList (by simp only [List.size_toArray];omega) ⟨H,I.tok _,by rw [isEmpty_of r];exact q⟩
  ·subst e'
   obtain ⟨its,r,pl,hz⟩:=I.tuple hx
   have hlen:=r.length
   exact truthy_tuple pl (by simp only [List.size_toArray];omega) ⟨H,I.tok _,by rw [isEmpty_of r];exact q⟩
  ·subst e'
   obtain ⟨hz,hS,vs,r,m⟩:kvs.length≤sizeLine∧(p == sysModules)=false∧∃ vs,KV kvs vs∧s.heap.DictOf (mixKind X.prog X.w) p vs:=I.hok p _ hx
   have hlen:kvs.length=vs.length:=Paired.length r
   exact wpAny_truthy_dict hS m (by omega) ⟨H,I.tok _,by rw [isEmpty_kv r];exact q⟩
 | _=>exact (show False from e).elim
theorem pt_truth (ha:PE X a ta) (he:∀ whole,isTrue a X.env whole=(do let v ← whole;standAt a.pos;holding [v] (truthy v))) :
  PT X a (fun σ H Q=>ta σ H fun x H'=>∃ k,TruV X.K x H' k∧Q k H'):=by
 intro pins s σ H Q I h
 exact isTrue_plain (thn (ha pins s σ H _ I h) fun v s1 ⟨x,H1,I1,r1,q1⟩=>tru_ok pins s1 σ H1 x v Q I1 r1 q1) (he _)
theorem vals1 {x:V} {us:List Value} (r:Vals [x] us):∃ u,us=[u]∧RelV x u:=by
 cases r with
 | cons r1 r2=>cases r2;exact ⟨_,rfl,r1⟩
theorem vals2 {x y:V} {us:List Value} (r:Vals [x,y] us):∃ u w',us=[u,w']∧RelV x u∧RelV y w':=by
 cases r with
 | cons r1 r2 =>
  cases r2 with
  | cons r3 r4=>cases r4;exact ⟨_,_,rfl,r1,r3⟩
theorem call_max2 (hc:X.calm=true):CallR X (.builtin "max") (fun xs H Q=>∃ i j,xs=[.int i,.int j]∧Q (.int (if j > i then j else i)) H):=by
 intro pins s σ H xs us Q I r h
 obtain ⟨i,j,rfl,q⟩:=h
 obtain ⟨u,w',rfl,⟨t,rfl⟩,⟨t',rfl⟩⟩:=vals2 r
 refine max_two_ints (I.ok.hd hc) fun h' tk k=>⟨_,H,I.kept k,?_,q⟩
 by_cases hj:j > i
 ·rw [if_pos hj,if_pos hj];exact ⟨_,rfl⟩
 ·rw [if_neg hj,if_neg hj];exact ⟨_,rfl⟩
theorem call_min2 (hc:X.calm=true):CallR X (.builtin "min") (fun xs H Q=>∃ i j,xs=[.int i,.int j]∧Q (.int (if j < i then j else i)) H):=by
 intro pins s σ H xs us Q I r h
 obtain ⟨i,j,rfl,q⟩:=h
 obtain ⟨u,w',rfl,⟨t,rfl⟩,⟨t',rfl⟩⟩:=vals2 r
 refine min_two_ints (I.ok.hd hc) fun h' tk k=>⟨_,H,I.kept k,?_,q⟩
 by_cases hj:j < i
 ·rw [if_pos hj,if_pos hj];exact ⟨_,rfl⟩
 ·rw [if_neg hj,if_neg hj];exact ⟨_,rfl⟩
theorem call_int1:CallR X (.type "int") (fun xs H Q=>(∃ i,xs=[.int i]∧Q (.int i) H)∨∃ k,xs=[.bl k]∧Q (.int (if k then 1 else 0)) H):=by
 intro pins s σ H xs us Q I r h
 rcases h with ⟨i,rfl,q⟩ | ⟨k,rfl,q⟩
 ·obtain ⟨u,rfl,t,rfl⟩:=vals1 r
  exact call_int_int ⟨.int i,H,I,⟨_,rfl⟩,q⟩
 ·obtain ⟨u,rfl,r1⟩:=vals1 r
  cases r1
  exact call_int_bool ⟨.int (if k then 1 else 0),H,I.tok _,⟨_,rfl⟩,q⟩
end
end L2
namespace L2
open PySem PySem.Spec PyProof.Rows
structure ObjM (h:Heap) (x dx C:Addr) (mA:Str→Option Value):Prop where
 obj:h.get? x=some (PySem.W.instObj C dx)
 ns:h.Ns1 dx mA
 ne:dx≠x
theorem lookIn_ns {h:Heap} {dx:Addr} {mA:Str→Option Value} (n:h.Ns1 dx mA):∃ od,h.get? dx=some od∧∀ name,PySem.W.lookIn name od=some (mA name):=by
 obtain ⟨o,es,ep,ho,hd,hk,_,hm⟩:=n
 refine ⟨o,ho,fun name=>?_⟩
 have e:=hm name
 unfold nsFind findBy at e
 rw [← Array.find?_toList] at e
 unfold PySem.W.lookIn
 rw [hd]
 dsimp only
 split
 ·rename_i y q
  rw [q] at e
  exact congrArg some e
 ·rename_i q
  rw [q] at e
  have a:es.toList.any (·.refKey)=false:=by
   rw [List.any_eq_false]
   intro y hy
   obtain ⟨z,t,hkey⟩:=hk y (Array.mem_toList_iff.mp hy)
   simp [DictEntry.refKey,hkey]
  have a':¬ es.toList.any (·.refKey)=true:=by rw [a];exact Bool.false_ne_true
  rw [if_neg a']
  exact congrArg some e
theorem ObjM.look {h:Heap} {x dx C:Addr} {mA:Str→Option Value} (I:ObjM h x dx C mA):∃ od,PySem.W.InstAt h x (PySem.W.instObj C dx) C (some od)∧∀ name,PySem.W.lookIn name od=some (mA name) :=
 let ⟨od,ho,hl⟩:=lookIn_ns I.ns
 ⟨od,⟨I.obj,rfl,rfl,ho⟩,hl⟩
section
variable {prog:Program} {w:World} {A:Around} {E:Value→Shared→Prop} {s:Shared} {K:PySem.W.Frag} {x dx C f:Addr} {mA:Str→Option Value} {name:Str} {v:Value}
theorem get_map {expr:Bool} {Q:Value→Shared→Prop} (X:K.In s.heap) (I:ObjM s.heap x dx C mA) (hg:PySem.W.plainGet K C name=true) (hh:PySem.W.hasDictIn K C=true)
  (ha:PySem.W.findIn K (.ref C) name=some none) (hv:mA name=some v) (hv':PySem.W.handedIn v=true) (h:Q v { s with toks:=s.toks+1 }) :
  wpAny (model prog w) A (getAttr (.ref x) name expr) Q E s:=by
 obtain ⟨od,J,hl⟩:=I.look
 exact PySem.W.get_value X J (PySem.W.plainGet_of hg).1 (PySem.W.findObj_own hh ha rfl (by rw [hl,hv])) hv' h
theorem get_meth {pl:Sem Bool} {Q:Value × List Value→Shared→Prop} (X:K.In s.heap) (I:ObjM s.heap x dx C mA) (hg:PySem.W.plainGet K C name=true)
  (hf:PySem.W.findIn K (.ref C) name=some (some (.ref f))) (ht:PySem.W.isFn K (.ref f)=true) (hv:mA name=none) (h:Q (.ref f,[.ref x]) s) :
  wpAny (model prog w) A (getMethod (.ref x) name pl) Q E s:=by
 obtain ⟨od,J,hl⟩:=I.look
 exact PySem.W.method_fn X J (PySem.W.plainGet_of hg).1 (PySem.W.plainGet_of hg).2 hf (beq_iff_eq.mp ht) (by show (PySem.W.lookIn name od).map (·.isSome)=some false;rw [hl,hv];rfl) h
theorem set_map {ns:List Str} {Q:Unit→Shared→Prop} (X:K.In s.heap) (I:ObjM s.heap x dx C mA)
  (hs:PySem.W.findIn K (.ref C) "__setattr__"=some (some (.builtin "object.__setattr__"))) (hp:PySem.W.plainOver K C=true) (ht:PySem.W.takerIn K C name=some none) (hh:PySem.W.hasDictIn K C=true)
  (hw:PySem.Within mA ns) (hsz:ns.length≤sizeLine)
  (h:∀ h',ObjM h' x dx C (fun y=>if y=name then some v else mA y)→Heap.SameBut dx s.heap h'→Q () { s with heap:=h',toks:=s.toks+2 }) :
  wpAny (model prog w) A (setAttr (.ref x) name v) Q E s:=by
 obtain ⟨od,J,hl⟩:=I.look
 refine PySem.W.set_plain X J hs (PySem.W.osa_open (s:={ s with toks:=s.toks+1 }) (r:=none) X J hp ht fun b=>?_)
 obtain ⟨cd,hc,hd'⟩:=PySem.W.any_some hh
 have hx:s.heap.get? x=some ⟨.ref C,some dx,.plain,#[]⟩:=I.obj
 refine wpAny_bind (wpAny_pure (wpAny_bind (wpAny_bind (wpAny_loadPart hx (wpAny_bind (PySem.W.Looks.here (s:={ s with toks:=s.toks+1 }) (PySem.W.looks_clsIn X hc) ?_))))))
 rw [hd']
 refine wpAny_pure (a:=some dx) (wpAny_bind (wpAny_pure (wpAny_bind ?_)))
 refine wpAny_nsSet1 (s:={ s with toks:=s.toks+1 }) I.ns fun h' hn2 hs2=>?_
 obtain ⟨oD,esD,epD,hoD,hdD,hcD⟩:=hn2.count (PySem.Within.cons name v hw)
 refine wpAny_bind (wpAny_lookBehind hoD (by rw [hdD];exact pastItsLine_dict (Nat.le_trans hcD (by rw [List.length_cons];omega))) ?_)
 exact wpAny_pure (h _ ⟨(hs2.2 _ (Ne.symm I.ne)).trans I.obj,hn2,I.ne⟩ hs2)
theorem make_map {R:Result→Shared→Prop} {vs:List Value} {kw:List (Str × Value)} (X:K.In s.heap) (hm:PySem.W.makesIn K C=true)
  (hi:PySem.W.findIn K (.ref C) "__init__"=some (some (.ref f))) (hf:PySem.W.typeIn K (.ref f)=some (.type "function"))
  (h:codeAny (model prog w) (A.under (.builtin "type.__call__" ⟨.ref C :: vs,kw⟩)) (.call (.ref f) ⟨.ref (s.heap.objs.size+1) :: vs,kw⟩) (PySem.W.InitBack (s.heap.objs.size+1) R)
   { s with heap:=(s.heap.push PySem.W.emptyDict).push (PySem.W.instObj C s.heap.objs.size) }) :
  codeAny (model prog w) A (.call (.ref C) ⟨vs,kw⟩) R s:=by
 obtain ⟨hh,g,d,t,os⟩:=s
 exact PySem.W.make_core (PySem.W.makes_of X hm) (PySem.W.looks_findIn X hi) (fun self=>PySem.W.bind_fn X self hf) (.inl rfl) h
end
def putF (f:Str) (v:V):List (Str × V)→List (Str × V)
 | []=>[(f,v)]
 | (g,x) :: r=>if g=f then (g,v) :: r else (g,x) :: putF f v r
theorem lookup_putF (f g:Str) (v:V):∀ fs:List (Str × V),(putF f v fs).lookup g=if g=f then some v else fs.lookup g
 | []=>by
  show List.lookup g [(f,v)]=_
  by_cases h:g=f
  ·have hb:(g == f)=true:=beq_iff_eq.mpr h
   simp only [List.lookup,hb,if_pos h]
  ·have hb:(g == f)=false:=beq_eq_false_iff_ne.mpr h
   simp only [List.lookup,hb,if_neg h]
 | (k,x) :: r=>by
  have ih:=lookup_putF f g v r
  rw [show putF f v ((k,x) :: r)=(if k=f then (k,v) :: r else (k,x) :: putF f v r) from rfl]
  by_cases hk:k=f
  ·rw [if_pos hk]
   by_cases h:g=k
   ·have hb:(g == k)=true:=beq_iff_eq.mpr h
    simp only [List.lookup,hb,if_pos (h.trans hk)]
   ·have hb:(g == k)=false:=beq_eq_false_iff_ne.mpr h
    simp only [List.lookup,hb,if_neg (fun e:g=f=>h (e.trans hk.symm))]
  ·rw [if_neg hk]
   by_cases h:g=k
   ·have hb:(g == k)=true:=beq_iff_eq.mpr h
    simp only [List.lookup,hb,if_neg (fun e:g=f=>hk (h.symm.trans e))]
   ·have hb:(g == k)=false:=beq_eq_false_iff_ne.mpr h
    simp only [List.lookup,hb]
    exact ih
theorem keys_putF (f:Str) (v:V):∀ fs:List (Str × V),f ∈ (putF f v fs).map (·.1)∧∀ g,g ∈ fs.map (·.1)→g ∈ (putF f v fs).map (·.1)
 | []=>⟨by simp [putF],fun g h=>by simp at h⟩
 | (k,x) :: r=>by
  obtain ⟨i1,i2⟩:=keys_putF f v r
  rw [show putF f v ((k,x) :: r)=(if k=f then (k,v) :: r else (k,x) :: putF f v r) from rfl]
  by_cases hk:k=f
  ·rw [if_pos hk]
   subst hk
   exact ⟨by simp,fun g h=>by simpa using h⟩
  ·rw [if_neg hk]
   refine ⟨?_,fun g h=>?_⟩
   ·rw [List.map_cons]
    exact List.mem_cons_of_mem _ i1
   ·rw [List.map_cons] at h ⊢
    rcases List.mem_cons.mp h with e | e
    ·exact List.mem_cons.mpr (.inl e)
    ·exact List.mem_cons_of_mem _ (i2 g e)
theorem length_putF (f:Str) (v:V):∀ fs:List (Str × V),(putF f v fs).length≤fs.length+1
 | []=>by simp [putF]
 | (k,x) :: r=>by
  have ih:=length_putF f v r
  rw [show putF f v ((k,x) :: r)=(if k=f then (k,v) :: r else (k,x) :: putF f v r) from rfl]
  by_cases hk:k=f
  ·rw [if_pos hk,List.length_cons,List.length_cons];omega
  ·rw [if_neg hk,List.length_cons,List.length_cons];omega
theorem RelO.some_of {v:V} {o:Option Value} (r:RelO (some v) o):∃ u,o=some u∧RelV v u:=by
 cases o with
 | none=>exact (show False from r).elim
 | some u=>exact ⟨u,rfl,r⟩
theorem RelO.none_of {o:Option Value} (r:RelO none o):o=none:=by
 cases o with
 | none=>rfl
 | some u=>exact (show False from r).elim
theorem handed_of {v:V} {u:Value} (r:RelV v u):PySem.W.handedIn u=true:=by
 cases v with
 | non=>cases (show u=Value.none from r);rfl
 | bl b=>cases (show u=Value.bool b from r);rfl
 | int i=>obtain ⟨t,e⟩:=(show ∃ t,u=Value.int i t from r);cases e;rfl
 | str x=>obtain ⟨t,e⟩:=(show ∃ t,u=Value.str x t from r);cases e;rfl
 | byt b=>obtain ⟨t,e⟩:=(show ∃ t,u=Value.bytes b t from r);cases e;rfl
 | flt b=>obtain ⟨t,e⟩:=(show ∃ t,u=Value.float b t from r);cases e;rfl
 | ref a=>cases (show u=Value.ref a from r);rfl
 | ty n=>cases (show u=Value.type n from r);rfl
section
variable {P:Program} {w:World} {H H':Hp} {h h':Heap} {a C dx:Addr} {fs fs':List (Str × V)}
theorem ins_get (hok:HOk P w H h) (e:H a=some (.ins C dx fs)):∃ mA,ObjM h a dx C mA∧(∀ f,RelO (fs.lookup f) (mA f))∧PySem.Within mA (fs.map (·.1))∧fs.length≤1000∧H dx=some (.own a):=by
 obtain ⟨d,z,ne,ob,mA,n,r,q⟩:=(show ObjOk P w H h a (.ins C dx fs) from hok a _ e)
 exact ⟨mA,⟨ob,n,ne⟩,r,q,z,d⟩
end
structure Cls (K:PySem.W.Frag) (C:Addr):Prop where
 pg:PySem.W.plainGet K C Str.empty=true
 hd:PySem.W.hasDictIn K C=true
 po:PySem.W.plainOver K C=true
 sa:PySem.W.findIn K (.ref C) "__setattr__"=some (some (.builtin "object.__setattr__"))
theorem Cls.get {K:PySem.W.Frag} {C:Addr} (c:Cls K C) (f:Str):PySem.W.plainGet K C f=true:=c.pg
def NoAttr (K:PySem.W.Frag) (C:Addr) (f:Str):Prop:=PySem.W.findIn K (.ref C) f=some none
theorem NoAttr.taker {K:PySem.W.Frag} {C:Addr} {f:Str} (n:NoAttr K C f):PySem.W.takerIn K C f=some none:=by
 unfold PySem.W.takerIn
 rw [show PySem.W.findIn K (.ref C) f=some none from n]
 rfl
structure Con (K:PySem.W.Frag) (C:Addr) (f:Str) (v:V) (u:Value):Prop where
 at_:PySem.W.findIn K (.ref C) f=some (some u)
 rel:RelV v u
 get:PySem.W.specialIn K u "__get__"=some none
 cp:PySem.W.copiedNames.contains f=false
structure Meth (K:PySem.W.Frag) (C:Addr) (m:Str) (f:Addr):Prop where
 at_:PySem.W.findIn K (.ref C) m=some (some (.ref f))
 fn:PySem.W.isFn K (.ref f)=true
 kp:PySem.W.keepIn K (.ref f)=true
section
variable {X:Cx} {pins:List (Addr × Obj)} {σ:St} {H:Hp} {s:Shared} {a C dx:Addr} {fs:List (Str × V)} {f:Str} {v:V} {A:Around} {E:Value→Shared→Prop}
theorem getattr_ok {b:Bool} {Q:Value→Shared→Prop} (I:Inv X pins σ H s) (e:H a=some (.ins C dx fs)) (c:Cls X.K C) (n:NoAttr X.K C f) (l:fs.lookup f=some v)
  (h:∀ u s',Inv X pins σ H s'→RelV v u→Q u s'):wpAny (model X.prog X.w) A (getAttr (.ref a) f b) Q E s:=by
 obtain ⟨mA,O,r,_,_,_⟩:=ins_get I.hok e
 obtain ⟨u,hu,ru⟩:=RelO.some_of (v:=v) (o:=mA f) (by rw [← l];exact r f)
 exact get_map I.kIn O (c.get f) c.hd n hu (handed_of ru) (h u _ (I.tok _) ru)
theorem getmeth_ok {m:Str} {g:Addr} {pl:Sem Bool} {Q:Value × List Value→Shared→Prop} (I:Inv X pins σ H s) (e:H a=some (.ins C dx fs)) (c:Cls X.K C) (k:Meth X.K C m g) (l:fs.lookup m=none)
  (h:Q (.ref g,[.ref a]) s):wpAny (model X.prog X.w) A (getMethod (.ref a) m pl) Q E s:=by
 obtain ⟨mA,O,r,_,_,_⟩:=ins_get I.hok e
 have hn:mA m=none:=RelO.none_of (by rw [← l];exact r m)
 exact get_meth I.kIn O (c.get m) k.at_ k.fn hn h
theorem setattr_ok {y:V} {u:Value} {Q:Unit→Shared→Prop} (I:Inv X pins σ H s) (e:H a=some (.ins C dx fs)) (c:Cls X.K C) (n:NoAttr X.K C f) (hl:fs.length < 1000) (ry:RelV y u)
  (h:∀ s',Inv X pins σ (upd H a (.ins C dx (putF f y fs))) s'→Q () s'):wpAny (model X.prog X.w) A (setAttr (.ref a) f u) Q E s:=by
 obtain ⟨mA,O,r,wi,_,ho⟩:=ins_get I.hok e
 have hz:(fs.map (·.1)).length≤sizeLine:=by rw [List.length_map,sizeLine_eq];omega
 refine set_map I.kIn O c.sa c.po n.taker c.hd wi hz fun h' O' sb=>h _ ?_
 have hd:∃ o,h'.get? dx=some o:=let ⟨o,_,_,e',_⟩:=O'.ns;⟨o,e'⟩
 refine I.write (x:=a) (e:=dx) (by rw [e];exact True.intro) (.inr ho) (fun b q hb z=>(sb.2 b hb).trans z) hd ?_
 refine ⟨by rw [upd_ne O.ne];exact ho,?_,O.ne,O'.obj,_,O'.ns,fun g=>?_,fun g hg=>?_⟩
 ·have:=length_putF f y fs;omega
 ·show RelO ((putF f y fs).lookup g) (if g=f then some u else mA g)
  rw [lookup_putF]
  by_cases q:g=f
  ·rw [if_pos q,if_pos q];exact ry
  ·rw [if_neg q,if_neg q];exact r g
 ·by_cases q:g=f
  ·rw [q];exact (keys_putF f y fs).1
  ·refine (keys_putF f y fs).2 g (wi g fun z=>hg ?_)
   show (if g=f then some u else mA g)=none
   rw [if_neg q];exact z
theorem Inv.made (I:Inv X pins σ H s):Inv X pins σ (upd (upd H s.heap.objs.size (.own (s.heap.objs.size+1))) (s.heap.objs.size+1) (.ins C s.heap.objs.size []))
  { s with heap:=(s.heap.push PySem.W.emptyDict).push (PySem.W.instObj C s.heap.objs.size) }:=by
 have e1:(s.heap.push PySem.W.emptyDict).get? s.heap.objs.size=some PySem.W.emptyDict:=Heap.get?_push_size s.heap rfl
 have e2:((s.heap.push PySem.W.emptyDict).push (PySem.W.instObj C s.heap.objs.size)).get? (s.heap.objs.size+1)=some (PySem.W.instObj C s.heap.objs.size):=by
  have:=Heap.get?_push_size (s.heap.push PySem.W.emptyDict) (o:=PySem.W.instObj C s.heap.objs.size) rfl
  rwa [Heap.size_push] at this
 have e3:(s.heap.push PySem.W.emptyDict).Ns s.heap.objs.size (fun _=>none):=⟨PySem.W.emptyDict,#[],_,e1,rfl,(fun e he=>absurd he (by simp)),fun _=>rfl⟩
 have I1:=I.laid (a:=s.heap.objs.size) (o:=.own (s.heap.objs.size+1)) (h':=s.heap.push PySem.W.emptyDict) (t':=s.toks) (fun b u q=>Heap.get?_push_of_some _ q) (Nat.le_refl _) ⟨_,e1⟩
 refine I1.laid (a:=s.heap.objs.size+1) (o:=.ins C s.heap.objs.size []) (t':=s.toks) (fun b u q=>Heap.get?_push_of_some _ q) (Nat.le_of_eq (Heap.size_push _ _)) ?_
 have ne:s.heap.objs.size≠s.heap.objs.size+1:=Nat.ne_of_lt (Nat.lt_succ_self _)
 refine ⟨by rw [upd_ne ne,upd_same],Nat.zero_le _,ne,e2,fun _=>none,(Heap.Ns1.of_empty e3).at fun o q=>Heap.get?_push_of_some _ q,fun _=>True.intro,fun y hy=>absurd rfl hy⟩
theorem attr_of {prog:Program} {w:World} {env:Env} {e:Expr} {f:Str} {pos:Pos} {s:Shared} {Q:Value→Shared→Prop} (hb:attributeBase e f env (eval e env)=eval e env)
  (h:wpAny (model prog w) A (eval e env) (fun o s₁=>wpAny (model prog w) A (getAttr o f true) Q E s₁) E s):wpAny (model prog w) A (eval (.Attribute e f pos) env) Q E s :=
 Attribute_any_ h (by rw [arm_eval_Attribute,hb])
end
def tFld (K:PySem.W.Frag) (ta:TE) (f:Str):TE:=fun σ H Q=>ta σ H fun x H1=>∃ a C dx fs v,x=.ref a∧H1 a=some (.ins C dx fs)∧Cls K C∧NoAttr K C f∧fs.lookup f=some v∧Q v H1
def sFld (K:PySem.W.Frag) (ta tv:TE) (f:Str):TS:=fun D σ H=>tv σ H fun y H1=>ta σ H1 fun x H2=>∃ a C dx fs,x=.ref a∧H2 a=some (.ins C dx fs)∧Cls K C∧NoAttr K C f∧fs.length < 1000 ∧
 D.nx σ (upd H2 a (.ins C dx (putF f y fs)))
def InOp (X:Cx) (op:Operator) (rd:V→V→Hp→VK→Prop):Prop :=
 ∀ (pins:List (Addr × Obj)) (s:Shared) (σ:St) (H:Hp) (x y:V) (u v:Value) (Q:VK),Inv X pins σ H s→RelV x u→RelV y v→rd x y H Q→wpAny (model X.prog X.w) X.A (inplaceOp op u v) (EP X pins σ Q) X.xe s
def sFldAug (K:PySem.W.Frag) (ta tv:TE) (rd:V→V→Hp→VK→Prop) (f:Str):TS:=fun D σ H=>ta σ H fun x H1=>∃ a C dx fs v,x=.ref a∧H1 a=some (.ins C dx fs)∧Cls K C∧NoAttr K C f∧fs.lookup f=some v ∧
 tv σ H1 fun y H2=>rd v y H2 fun z H3=>∃ dx' fs',H3 a=some (.ins C dx' fs')∧fs'.length < 1000∧D.nx σ (upd H3 a (.ins C dx' (putF f z fs')))
section
variable {X:Cx} {o e value:Expr} {f:Str} {pos pos' tpos:Pos} {ta tv:TE}
theorem pe_fld (he:PE X e ta) (hb:attributeBase e f X.env (eval e X.env)=eval e X.env):PE X (.Attribute e f pos) (tFld X.K ta f):=by
 intro pins s σ H Q I h
 refine attr_of hb (thn (he pins s σ H _ I h) fun u s1 ⟨x,H1,I1,rx,a,C,dx,fs,v,ex,ea,c,n,l,q⟩=>?_)
 subst ex
 obtain rfl:u=Value.ref a:=rx
 exact getattr_ok I1 ea c n l fun u' s2 I2 ru=>⟨v,H1,I2,ru,q⟩
theorem ps_fld (ha:PE X o ta) (hv:PE X value tv) (hs:swapsWith value (some (.Attribute o f pos')) pos.line X.env=pure false):PS X (.Assign [.Attribute o f pos'] value pos) (sFld X.K ta tv f):=by
 intro pins s σ H D I h
 refine plainObj_wpAny_Assign_Attribute (thn (hv pins s σ H _ I h) fun u s1 ⟨y,H1,I1,ry,q⟩=>thn (ha pins s1 σ H1 _ I1 q) fun ov s2 ⟨x,H2,I2,rx,a,C,dx,fs,ex,ea,c,n,l,q2⟩=>?_) hs
 subst ex
 obtain rfl:ov=Value.ref a:=rx
 exact setattr_ok I2 ea c n l ry fun s3 I3=>⟨σ,_,I3,q2⟩
theorem ps_fldaug {op:Operator} {rd:V→V→Hp→VK→Prop} (ha:PE X o ta) (hv:PE X value tv) (hop:InOp X op rd):PS X (.AugAssign (.Attribute o f tpos) op value pos) (sFldAug X.K ta tv rd f):=by
 intro pins s σ H D I h
 refine wpAny_AugAssign_AttributeAny (thn (ha pins s σ H _ I h) fun ov s1 ⟨x,H1,I1,rx,a,C,dx,fs,v,ex,ea,c,n,l,q⟩=>?_)
 subst ex
 obtain rfl:ov=Value.ref a:=rx
 refine getattr_ok I1 ea c n l fun u s2 I2 ru=>thn (hv pins s2 σ H1 _ I2 q) fun w3 s3 ⟨y,H2,I3,ry,q3⟩=>thn (hop pins s3 σ H2 v y u w3 _ I3 ru ry q3) fun w4 s4 ⟨z,H3,I4,rz,dx',fs',ea',l',q4⟩=>?_
 exact setattr_ok I4 ea' c n l' rz fun s5 I5=>⟨σ,_,I5,q4⟩
end
section
variable {X:Cx} {pins:List (Addr × Obj)} {σ:St} {H:Hp} {s:Shared} {A:Around} {E:Value→Shared→Prop} {Q:Value→Shared→Prop} {c:Value} {b:Bool}
inductive TyOf (K:PySem.W.Frag) (H:Hp):V→Value→Prop where
 | non:TyOf K H .non (.type "NoneType")
 | bl (x:Bool):TyOf K H (.bl x) (.type "bool")
 | int (i:Int):TyOf K H (.int i) (.type "int")
 | str (x:Str):TyOf K H (.str x) (.type "str")
 | flt (x:UInt64):TyOf K H (.flt x) (.type "float")
 | lst {a:Addr} {xs:List V} (e:H a=some (.lst xs)):TyOf K H (.ref a) (.type "list")
 | frz {a:Addr} {o:Obj} {xs:List V} (e:H a=some (.frz o (.lst xs))):TyOf K H (.ref a) (.type "list")
 | tup {a:Addr} {xs:List V} (e:H a=some (.tup xs)):TyOf K H (.ref a) (.type "tuple")
 | dK {a:Addr} {kvs:List (Key × V)} (e:H a=some (.dK kvs)):TyOf K H (.ref a) (.type "dict")
 | dT {a:Addr} {kvs:List (List Key × V)} (e:H a=some (.dT kvs)):TyOf K H (.ref a) (.type "dict")
 | ins {a C dx:Addr} {fs:List (Str × V)} (e:H a=some (.ins C dx fs)) (cl:Cls K C) (ha:PySem.W.findIn K (.ref C) "__class__"=some (some (.builtin "object.__class__")))
   (hn:PySem.W.specialIn K (.builtin "object.__class__") "__get__"=some (some (.builtin "getset_descriptor.__get__"))) (htk:PySem.W.takesIn K (.builtin "object.__class__")=some true)
   (hm:PySem.W.mroIn K C (.type "object")=some true):TyOf K H (.ref a) (.ref C)
end
end L2
namespace L2
open PySem PySem.Spec PyProof.Rows
structure Room (k:Nat) (A:Around):Prop where
 hd:A.handled=none
 dp:A.depth+3 * k+5 < recursionLimit
 un:A.units+16 * k+200 < cLine
theorem Room.mono {j k:Nat} {A:Around} (r:Room k A) (h:j≤k):Room j A:=⟨r.hd,by have:=r.dp;omega,by have:=r.un;omega⟩
theorem Room.deeper {k:Nat} {A:Around} (r:Room (k+1) A) (env:Env):Room k (A.deeper env) :=
 ⟨r.hd,by have:=r.dp;show A.depth+1+3 * k+5 < _;omega,by have:=r.un;show A.units+3+16 * k+200 < _;omega⟩
theorem Room.in1 {k:Nat} {A:Around} (r:Room (k+1) A):Room k A.in1 :=
 ⟨r.hd,by have:=r.dp;show A.depth+3 * k+5 < _;omega,by have:=r.un;show A.units+1+16 * k+200 < _;omega⟩
theorem make_depth {A:Around} {C:Addr} {us:List Value} {kw:List (Str × Value)}:(A.under (.builtin "type.__call__" ⟨.ref C :: us,kw⟩)).depth=A.depth+1:=by
 first | rfl | simp [Around.under,Code.weight,Code.isCreation,Code.isGuard,Code.isCaller,Code.frames,Code.isFrame,guardIds]
theorem make_units {A:Around} {C:Addr} {us:List Value} {kw:List (Str × Value)}:(A.under (.builtin "type.__call__" ⟨.ref C :: us,kw⟩)).units=A.units+1:=by
 first | rfl | simp [Around.under,Code.cUnits,Code.frames,Code.isFrame]
theorem Room.make {k:Nat} {A:Around} (r:Room (k+1) A) (C:Addr) (us:List Value) (kw:List (Str × Value)):Room k (A.under (.builtin "type.__call__" ⟨.ref C :: us,kw⟩)) :=
 ⟨r.hd,by have:=r.dp;rw [make_depth];omega,by have:=r.un;rw [make_units];omega⟩
theorem Room.depth {k:Nat} {A:Around} (r:Room k A):A.depth < recursionLimit:=by have:=r.dp;omega
theorem Room.units {k:Nat} {A:Around} (r:Room k A):A.units+64 < cLine:=by have:=r.un;omega
def tNil:TA:=fun _ H Q=>Q [] H
def tCons (ta:TE) (tr:TA):TA:=fun σ H Q=>ta σ H fun x H1=>tr σ H1 fun xs H2=>Q (x :: xs) H2
section
variable {X:Cx} {e:Expr} {es:List Expr} {te:TE} {t:TA} {pos:Pos}
theorem pa_nil:PA X [] tNil:=fun _ _ _ _ H Q I h=>Calls.spliced_nil ⟨[],H,I,.nil,h⟩
theorem pa_cons (ha:PE X e te) (hr:PA X es t) (hs:starEach (e :: es) X.env=(false,eval e X.env) :: starEach es X.env:=by rfl):PA X (e :: es) (tCons te t):=by
 intro pos pins s σ H Q I h
 rw [hs]
 show wpAny _ _ (spliced ((false,eval e X.env) :: backTo pos (starEach es X.env))) _ _ s
 refine Calls.spliced_cons (thn (ha pins s σ H _ I h) fun u s1 ⟨x,H1,I1,r1,q1⟩=>?_)
 exact thn (hr pos pins s1 σ H1 _ I1 q1) fun us s2 ⟨xs,H2,I2,r2,q2⟩=>⟨x :: xs,H2,I2,.cons r1 r2,q2⟩
def tTup (t:TA):TE:=fun σ H Q=>t σ H fun xs H1=>xs.length≤sizeLine∧∀ p,H1 p=none→Q (.ref p) (upd H1 p (.tup xs))
def tLst (t:TA):TE:=fun σ H Q=>t σ H fun xs H1=>xs.length≤sizeLine∧∀ p,H1 p=none→Q (.ref p) (upd H1 p (.lst xs))
theorem pe_tup {x1} (h:PA X es t):PE X (.Tuple es x1 pos) (tTup t):=by
 intro pins s σ H Q I hq
 refine wpAny_Tuple_spliced (thn (h pos pins s σ H _ I hq) fun us s1 ⟨xs,H1,I1,r,z,q⟩=>⟨by rw [← r.length];exact z,?_⟩)
 have hf:H1 s1.heap.objs.size=none:=I1.hok.fresh (Nat.le_refl _)
 refine ⟨.ref s1.heap.objs.size,upd H1 s1.heap.objs.size (.tup xs),I1.laid (t':=s1.toks) (fun b u e=>Heap.get?_push_of_some _ e) (Nat.le_refl _) ?_,rfl,q _ hf⟩
 exact ⟨z,us,r,⟨_,Heap.get?_push_size _ rfl,rfl,_,rfl⟩⟩
theorem pe_lst (h:PA X es t):PE X (.List es pos) (tLst t):=by
 intro pins s σ H Q I hq
 refine wpAny_List_spliced (thn (h pos pins s σ H _ I hq) fun us s1 ⟨xs,H1,I1,r,z,q⟩=>⟨by rw [← r.length];exact z,?_⟩)
 have hf:H1 s1.heap.objs.size=none:=I1.hok.fresh (Nat.le_refl _)
 refine ⟨.ref s1.heap.objs.size,upd H1 s1.heap.objs.size (.lst xs),I1.laid (t':=s1.toks) (fun b u e=>Heap.get?_push_of_some _ e) (Nat.le_refl _) ?_,rfl,q _ hf⟩
 exact ⟨z,us,0,r,Heap.get?_push_size _ rfl⟩
end
abbrev Sp:=List V→Hp→VK→XK→Prop
abbrev CXT:=List Env→Hp→Shared→XK→Value→Shared→Prop
structure Env0 (P:Program) (w:World) (K:PySem.W.Frag) (mg:Str→Option Value) (base:Heap) (A:Around) (outer:List Env) (s:Shared) (H:Hp):Prop where
 frames:A.frames=some outer
 mod:Mod K mg base
 bs:∀ b o,base.get? b=some o→s.heap.get? b=some o∧H b=none
 bsz:base.objs.size≤s.heap.objs.size
 funs:s.heap.FunFrames base outer
 frf:∀ b ∈ frs outer,H b=none
 hok:HOk P w H s.heap
 bare:AllBare s.gens
def CE (outer:List Env) (P:Program) (w:World) (H:Hp) (s:Shared) (Q:VK) (u:Value) (s':Shared):Prop :=
 ∃ v H',s'.os=s.os∧AllBare s'.gens∧Un (frs outer) [] H H' s.heap s'.heap∧HOk P w H' s'.heap∧RelV v u∧Q v H'
def CR (CX:CXT) (outer:List Env) (P:Program) (w:World) (H:Hp) (s:Shared) (Q:VK) (E:XK) (r:Result) (s':Shared):Prop :=
 match r with
 | .ok (.ret u)=>CE outer P w H s Q u s'
 | .ok _=>False
 | .error e=>CX outer H s E e s'
structure FnOk (P:Program) (w:World) (K:PySem.W.Frag) (mg:Str→Option Value) (base:Heap) (CX:CXT) (k:Nat) (f:Addr) (fd:FuncData) (ps:List Str) (sp:Sp):Prop where
 len:∀ vs H Q E,sp vs H Q E→vs.length=ps.length
 run:∀ (A:Around) (outer:List Env) (s:Shared) (H:Hp) (args:Args) (us:List Value) (vs:List V) (Q:VK) (E:XK),Room k A→Env0 P w K mg base A outer s H→BindsTo s fd args (ps.zip us)→Vals vs us→sp vs H Q E →
  codeAny (model P w) A (.call (.ref f) args) (CR CX outer P w H s Q E) s
theorem FnOk.mono {P:Program} {w:World} {K:PySem.W.Frag} {mg:Str→Option Value} {base:Heap} {CX:CXT} {j k:Nat} {f:Addr} {fd:FuncData} {ps:List Str} {sp:Sp} (F:FnOk P w K mg base CX j f fd ps sp) (h:j≤k) :
  FnOk P w K mg base CX k f fd ps sp:=⟨F.len,fun A outer s H args us vs Q E hr=>F.run A outer s H args us vs Q E (hr.mono h)⟩
theorem Env0.make {P:Program} {w:World} {K:PySem.W.Frag} {mg:Str→Option Value} {base:Heap} {A:Around} {outer:List Env} {s:Shared} {H:Hp} (e:Env0 P w K mg base A outer s H) (C:Addr) (us:List Value) (kw:List (Str × Value)) :
  Env0 P w K mg base (A.under (.builtin "type.__call__" ⟨.ref C :: us,kw⟩)) outer s H:=⟨by first | exact e.frames | (simpa [Around.under,Code.envs,Code.isFrame,pushEnvs] using e.frames),e.mod,e.bs,e.bsz,e.funs,e.frf,e.hok,e.bare⟩
theorem Env0.in1 {P:Program} {w:World} {K:PySem.W.Frag} {mg:Str→Option Value} {base:Heap} {A:Around} {outer:List Env} {s:Shared} {H:Hp} (e:Env0 P w K mg base A outer s H) :
  Env0 P w K mg base A.in1 outer s H:=⟨e.frames,e.mod,e.bs,e.bsz,e.funs,e.frf,e.hok,e.bare⟩
section
variable {X:Cx} {pins:List (Addr × Obj)} {σ:St} {H:Hp} {s s':Shared}
theorem Inv.env0 (I:Inv X pins σ H s):Env0 X.prog X.w X.K X.mg X.base X.A X.stack s H :=
 ⟨I.ok.frames,I.ok.mod,I.bs,Nat.le_trans I.ok.bsz I.sz,I.stack,I.stkFree,I.hok,I.bare⟩
theorem Inv.after {Q:VK} {u:Value} (I:Inv X pins σ H s) (h:CE X.stack X.prog X.w H s Q u s'):EP X pins σ Q u s':=by
 obtain ⟨v,H',os,bare,un,hok,r,q⟩:=h
 obtain ⟨hh,g,d,t,os'⟩:=s'
 obtain rfl:os'=s.os:=os
 exact ⟨v,H',I.call (h':=hh) (g':=g) (d':=d) (t':=t) (ch:=[]) un hok bare (fun b z=>absurd z (by simp)),r,q⟩
end
def tCall (sp:Sp) (dvs:List V) (E:XK) (t:TA):TE:=fun σ H Q=>t σ H fun vs H1=>sp (vs ++ dvs) H1 Q E
def tMeth (C:Addr) (m:Str) (sp:Sp) (dvs:List V) (E:XK) (ta:TE) (t:TA):TE:=fun σ H Q=>ta σ H fun x H1=>∃ a dx fs,x=.ref a∧H1 a=some (.ins C dx fs)∧fs.lookup m=none ∧
 t σ H1 fun vs H2=>sp (x :: (vs ++ dvs)) H2 Q E
def tMake (C:Addr) (sp:Sp) (dvs:List V) (E:XK) (t:TA):TE:=fun σ H Q=>t σ H fun vs H1=>∀ x dx,H1 x=none→H1 dx=none→dx≠x →
 sp (.ref x :: (vs ++ dvs)) (upd (upd H1 dx (.own x)) x (.ins C dx [])) (fun v H2=>v=.non∧Q (.ref x) H2) E
def Binds (K:PySem.W.Frag) (fd:FuncData) (ps:List Str) (ds:List Value):Prop :=
 ∀ (s:Shared) (us:List Value),K.In s.heap→(us ++ ds).length=ps.length→BindsTo s fd ⟨us,[]⟩ (ps.zip (us ++ ds))
theorem Binds.all {K:PySem.W.Frag} {fd:FuncData} {ps:List Str} (h:∀ us:List Value,us.length=ps.length→bindArgs fd ⟨us,[]⟩=pure (ps.zip us)):Binds K fd ps []:=fun s us _ hl=>by
 rw [List.append_nil] at hl ⊢
 exact .of_eq (h us hl)
def Passes (CX:CXT) (X:Cx) (E:XK):Prop:=∀ (pins:List (Addr × Obj)) (σ:St) (H:Hp) (s:Shared) (e:Value) (s':Shared),Inv X pins σ H s→CX X.stack H s E e s'→X.xe e s'
section
variable {X:Cx} {CX:CXT} {k:Nat} {f C:Addr} {fd:FuncData} {ps:List Str} {sp:Sp} {dvs:List V} {ds:List Value} {E:XK} {x m:Str} {p pos apos:Pos} {e o:Expr} {es:List Expr} {ta:TE} {t:TA}
theorem run_fn {pins:List (Addr × Obj)} {σ:St} {H:Hp} {s:Shared} {Q:VK} {us:List Value} {vs:List V} (F:FnOk X.prog X.w X.K X.mg X.base CX k f fd ps sp) (hr:Room k X.A) (hb:Binds X.K fd ps ds) (hd:Vals dvs ds) (hx:Passes CX X E)
  (I:Inv X pins σ H s) (r:Vals vs us) (h:sp (vs ++ dvs) H Q E):wpAny (model X.prog X.w) X.A (call (.ref f) us) (EP X pins σ Q) X.xe s:=by
 have r2:Vals (vs ++ dvs) (us ++ ds):=r.append hd
 have hl:(us ++ ds).length=ps.length:=by rw [← r2.length];exact F.len _ _ _ _ h
 refine wpAny_call (codeAny_mono (F.run X.A X.stack s H ⟨us,[]⟩ (us ++ ds) (vs ++ dvs) Q E hr I.env0 (hb s us I.kIn hl) r2 h) fun r s' hq=>?_)
 cases r with
 | error e=>exact hx pins σ H s e s' I hq
 | ok fl =>
  cases fl with
  | ret u=>exact I.after hq
  | next=>exact False.elim hq
  | brk=>exact False.elim hq
  | cont=>exact False.elim hq
theorem pe_call (F:FnOk X.prog X.w X.K X.mg X.base CX k f fd ps sp) (hr:Room k X.A) (hg:Gl X x) (hm:X.mg x=some (.ref f)) (hk:PySem.W.keepIn X.K (.ref f)=true) (hb:Binds X.K fd ps ds) (hd:Vals dvs ds) (hx:Passes CX X E)
  (ha:PA X (e :: es) t) (hdb:(x == ("__debug__":Str))=false:=by decide) (he:starEach (e :: es) X.env=(false,eval e X.env) :: starEach es X.env:=by rfl) (hpl:(backTo pos (starEach es X.env)).any (·.1)=false:=by rfl) :
  PE X (.Call (.Name x p) (e :: es) [] pos) (tCall sp dvs E t):=by
 intro pins s σ H Q I h
 refine wpAny_Call_Name_kw (ld_glob I hg hm ?_ hdb)
 refine PySem.W.callWith_K (h₀:=X.base) I.ok.mod.kin hk (thn (ha pos pins s σ H _ I h) fun us s1 ⟨vs,H1,I1,r,q⟩=>⟨I1.kIn,?_⟩) he hpl
 exact run_fn F hr hb hd hx I1 r q
theorem pe_meth {pl:Sem Bool} (he:PE X o ta) (c:Cls X.K C) (hm:Meth X.K C m f) (F:FnOk X.prog X.w X.K X.mg X.base CX k f fd ps sp) (hr:Room k X.A) (hb:Binds X.K fd ps ds) (hd:Vals dvs ds) (hx:Passes CX X E) (ha:PA X (e :: es) t)
  (hst:starEach (e :: es) X.env=(false,eval e X.env) :: starEach es X.env:=by rfl) (hpl:(backTo pos (starEach es X.env)).any (·.1)=false:=by rfl)
  (ht:eval (.Call (.Attribute o m apos) (e :: es) [] pos) X.env=(do
   let ov ← eval o X.env
   standAt apos.atName
   let (f,first) ← holding [ov] (getMethod ov m pl)
   callWith pos f first (backTo pos (starEach (e :: es) X.env)) (backToKw pos (keywordEach [] X.env))):=by rfl) :
  PE X (.Call (.Attribute o m apos) (e :: es) [] pos) (tMeth C m sp dvs E ta t):=by
 intro pins s σ H Q I h
 refine PySem.W.methodCall_KW (pl:=pl) (thn (he pins s σ H _ I h) fun u s1 ⟨x,H1,I1,rx,a,dx,fs,ex,ea,l,q⟩=>?_) ht
 subst ex
 obtain rfl:u=Value.ref a:=rx
 refine getmeth_ok I1 ea c hm l ?_
 refine PySem.W.callWith_K (first:=[.ref a]) (h₀:=X.base) I.ok.mod.kin hm.kp (thn (ha pos pins s1 σ H1 _ I1 q) fun us s2 ⟨vs,H2,I2,r,q2⟩=>⟨I2.kIn,?_⟩) hst hpl
 exact run_fn (us:=.ref a :: us) (vs:=.ref a :: vs) F hr hb hd hx I2 (.cons rfl r) q2
theorem pe_meth0 {pl:Sem Bool} (he:PE X o ta) (c:Cls X.K C) (hm:Meth X.K C m f) (F:FnOk X.prog X.w X.K X.mg X.base CX k f fd ps sp) (hr:Room k X.A) (hb:Binds X.K fd ps ds) (hd:Vals dvs ds) (hx:Passes CX X E)
  (ht:eval (.Call (.Attribute o m apos) [] [] pos) X.env=(do
   let ov ← eval o X.env
   standAt apos.atName
   let (f,first) ← holding [ov] (getMethod ov m pl)
   callWith pos f first (backTo pos (starEach [] X.env)) (backToKw pos (keywordEach [] X.env))):=by rfl) :
  PE X (.Call (.Attribute o m apos) [] [] pos) (tMeth C m sp dvs E ta tNil):=by
 intro pins s σ H Q I h
 refine PySem.W.methodCall_KW (pl:=pl) (thn (he pins s σ H _ I h) fun u s1 ⟨x,H1,I1,rx,a,dx,fs,ex,ea,l,q⟩=>?_) ht
 subst ex
 obtain rfl:u=Value.ref a:=rx
 refine getmeth_ok I1 ea c hm l ?_
 exact PySem.W.callWith_K0 (first:=[.ref a]) I1.kIn hm.kp (run_fn (us:=[.ref a]) (vs:=[.ref a]) F hr hb hd hx I1 (.cons rfl .nil) q)
structure Mk (K:PySem.W.Frag) (C f:Addr):Prop where
 makes:PySem.W.makesIn K C=true
 init:PySem.W.findIn K (.ref C) "__init__"=some (some (.ref f))
 fn:PySem.W.isFn K (.ref f)=true
 kp:PySem.W.keepIn K (.ref C)=true
theorem run_make {pins:List (Addr × Obj)} {σ:St} {H:Hp} {s:Shared} {Q:VK} {us:List Value} {vs:List V} (M:Mk X.K C f) (F:FnOk X.prog X.w X.K X.mg X.base CX k f fd ps sp) (hr:Room (k+1) X.A) (hb:Binds X.K fd ps ds) (hd:Vals dvs ds)
  (hx:Passes CX X E) (I:Inv X pins σ H s) (r:Vals vs us)
  (h:∀ x dx,H x=none→H dx=none→dx≠x→sp (.ref x :: (vs ++ dvs)) (upd (upd H dx (.own x)) x (.ins C dx [])) (fun v H2=>v=.non∧Q (.ref x) H2) E) :
  wpAny (model X.prog X.w) X.A (call (.ref C) us) (EP X pins σ Q) X.xe s:=by
 have hq:=h (s.heap.objs.size+1) s.heap.objs.size (I.hok.fresh (Nat.le_succ _)) (I.hok.fresh (Nat.le_refl _)) (Nat.ne_of_lt (Nat.lt_succ_self _))
 have I2:=Inv.made (C:=C) I
 have r2:Vals (V.ref (s.heap.objs.size+1) :: (vs ++ dvs)) (Value.ref (s.heap.objs.size+1) :: (us ++ ds)):=.cons rfl (r.append hd)
 have hl:(Value.ref (s.heap.objs.size+1) :: us ++ ds).length=ps.length:=by
  have e:=r2.length
  rw [F.len _ _ _ _ hq] at e
  exact e.symm
 refine wpAny_call (make_map (f:=f) I.kIn M.makes M.init (beq_iff_eq.mp M.fn) (codeAny_mono (F.run _ X.stack _ _ ⟨Value.ref (s.heap.objs.size+1) :: us,[]⟩ (Value.ref (s.heap.objs.size+1) :: (us ++ ds)) _ _ E (hr.make C us [])
  (I2.env0.make C us []) (hb _ (Value.ref (s.heap.objs.size+1) :: us) I2.kIn hl) r2 hq) fun r s' hq'=>?_))
 cases r with
 | error e=>exact hx pins σ _ _ e s' I2 hq'
 | ok fl =>
  cases fl with
  | ret u =>
   obtain ⟨v,H',I3,rv,ev,q3⟩:=I2.after hq'
   subst ev
   exact ⟨rv,⟨V.ref (s.heap.objs.size+1),H',I3,rfl,q3⟩⟩
  | next=>exact False.elim hq'
  | brk=>exact False.elim hq'
  | cont=>exact False.elim hq'
theorem pe_make (M:Mk X.K C f) (F:FnOk X.prog X.w X.K X.mg X.base CX k f fd ps sp) (hr:Room (k+1) X.A) (hg:Gl X x) (hm:X.mg x=some (.ref C)) (hb:Binds X.K fd ps ds) (hd:Vals dvs ds) (hx:Passes CX X E)
  (ha:PA X (e :: es) t) (hdb:(x == ("__debug__":Str))=false:=by decide) (he:starEach (e :: es) X.env=(false,eval e X.env) :: starEach es X.env:=by rfl) (hpl:(backTo pos (starEach es X.env)).any (·.1)=false:=by rfl) :
  PE X (.Call (.Name x p) (e :: es) [] pos) (tMake C sp dvs E t):=by
 intro pins s σ H Q I h
 refine wpAny_Call_Name_kw (ld_glob I hg hm ?_ hdb)
 refine PySem.W.callWith_K (h₀:=X.base) I.ok.mod.kin M.kp (thn (ha pos pins s σ H _ I h) fun us s1 ⟨vs,H1,I1,r,q⟩=>⟨I1.kIn,?_⟩) he hpl
 exact run_make M F hr hb hd hx I1 r q
end
section
variable {X:Cx} {CX:CXT} {k:Nat} {f C:Addr} {fd:FuncData} {ps ks:List Str} {sp:Sp} {E:XK} {x m:Str} {p pos apos kpos:Pos} {e o:Expr} {es:List Expr} {kws:List Keyword} {te ta:TE} {t tk:TA} {nm:Option Str}
structure KBinds (K:PySem.W.Frag) (fd:FuncData) (ps ks:List Str) (g:List Value→List Value→List Value) (gV:List V→List V→List V):Prop where
 to:∀ (s:Shared) (us ws:List Value),K.In s.heap→(g us ws).length=ps.length→BindsTo s fd ⟨us,ks.zip ws⟩ (ps.zip (g us ws))
 rel:∀ {vs:List V} {us:List Value} {zs:List V} {ws:List Value},Vals vs us→Vals zs ws→Vals (gV vs zs) (g us ws)
variable {g:List Value→List Value→List Value} {gV:List V→List V→List V}
end
structure FnScope (N P:List Str) (sc:Scope):Prop where
 kind:sc.kind=.function
 co:sc.isCoroutine=false
 gen:sc.isGenerator=false
 nd:N.Nodup
 pre:N.take P.length=P
 par:∀ x ∈ P,sc.names.lookup x=some .local∨sc.names.lookup x=some .cell
 nofree:∀ y ∈ sc.names,y.2≠.free
theorem bindL_out {kindOf:Str→Option NameKind} {x:Str}:∀ {binds:List (Str × Value)} {m:Str→Option Value},(∀ v,(x,v) ∉ binds)→bindL kindOf binds m x=m x
 | [],_,_=>rfl
 | (n,v) :: r,m,h=>by
  unfold bindL
  rw [bindL_out fun w hw=>h w (List.mem_cons_of_mem _ hw)]
  split
  ·have:x≠n:=by rintro rfl;exact h v List.mem_cons_self
   simp [this]
  ·rfl
theorem bindC_out {kindOf:Str→Option NameKind} {x:Str}:∀ {binds:List (Str × Value)} {m:Str→Option Value},(∀ v,(x,v) ∉ binds)→bindC kindOf binds m x=m x
 | [],_,_=>rfl
 | (n,v) :: r,m,h=>by
  unfold bindC
  rw [bindC_out fun w hw=>h w (List.mem_cons_of_mem _ hw)]
  split
  ·rfl
  ·have:x≠n:=by rintro rfl;exact h v List.mem_cons_self
   simp [this]
theorem bindL_get {kindOf:Str→Option NameKind} {x:Str} {v:Value}:∀ {P:List Str} {vs:List Value} {i:Nat} {m:Str→Option Value},P.Nodup→P[i]?=some x→vs[i]?=some v→kindOf x=some .local →
  bindL kindOf (P.zip vs) m x=some v
 | [],_,_,_,_,h,_,_=>by simp at h
 | _ :: _,[],_,_,_,_,h,_=>by simp at h
 | p :: P,w :: vs,0,m,nd,h1,h2,hk=>by
  simp at h1 h2;subst h1;subst h2
  show bindL kindOf ((p,w) :: P.zip vs) m p=_
  unfold bindL
  rw [bindL_out fun v hv=>(List.nodup_cons.mp nd).1 (List.of_mem_zip hv).1,if_pos hk]
  simp
 | p :: P,w :: vs,i+1,m,nd,h1,h2,hk=>by
  show bindL kindOf ((p,w) :: P.zip vs) m x=_
  unfold bindL
  exact bindL_get (i:=i) (List.nodup_cons.mp nd).2 (by simpa using h1) (by simpa using h2) hk
theorem bindC_get {kindOf:Str→Option NameKind} {x:Str} {v:Value}:∀ {P:List Str} {vs:List Value} {i:Nat} {m:Str→Option Value},P.Nodup→P[i]?=some x→vs[i]?=some v→kindOf x≠some .local →
  bindC kindOf (P.zip vs) m x=some v
 | [],_,_,_,_,h,_,_=>by simp at h
 | _ :: _,[],_,_,_,_,h,_=>by simp at h
 | p :: P,w :: vs,0,m,nd,h1,h2,hk=>by
  simp at h1 h2;subst h1;subst h2
  show bindC kindOf ((p,w) :: P.zip vs) m p=_
  unfold bindC
  rw [bindC_out fun v hv=>(List.nodup_cons.mp nd).1 (List.of_mem_zip hv).1,if_neg hk]
  simp
 | p :: P,w :: vs,i+1,m,nd,h1,h2,hk=>by
  show bindC kindOf ((p,w) :: P.zip vs) m x=_
  unfold bindC
  exact bindC_get (i:=i) (List.nodup_cons.mp nd).2 (by simpa using h1) (by simpa using h2) hk
def start (N:List Str) (vs:List V):St:=vs.map some ++ List.replicate (N.length - vs.length) none
def cxOf (CX:CXT) (P:Program) (w:World) (K:PySem.W.Frag) (mg:Str→Option Value) (base:Heap) (N:List Str) (qual:Str) (scope:Scope) (f:Addr) (cd:Value) (A:Around) (outer:List Env) (s:Shared) (H:Hp) (E:XK):Cx where
 prog:=P
 w:=w
 K:=K
 mg:=mg
 base:=base
 A:=A.deeper (envOfC qual scope s.heap.objs.size f cd)
 N:=N
 s₀:=s
 H₀:=H
 env:=envOfC qual scope s.heap.objs.size f cd
 outer:=outer
 stack:=envOfC qual scope s.heap.objs.size f cd :: outer
 ex:=[]
 calm:=true
 fn:=fun _=>true
 pn:=[]
 xe:=fun e s'=>wpAny (model P w) (A.deeper (envOfC qual scope s.heap.objs.size f cd)) (leaving (envOfC qual scope s.heap.objs.size f cd) e) (fun _ s''=>CX outer H s E e s'') (fun e' s''=>CX outer H s E e' s'') s'
theorem cell_has {sc:Scope} {n:Nat} {x:Str} (h:sc.names.lookup x=some .cell):∃ c,(cellsFrom n sc.names []).lookup x=some c:=by
 have q:=PySem.W.cellsFrom_some sc.names n [] (.inl h)
 exact Option.isSome_iff_exists.mp q
theorem inv_start {CX:CXT} {P:Program} {w:World} {K:PySem.W.Frag} {mg:Str→Option Value} {base:Heap} {N ps:List Str} {qual:Str} {scope:Scope} {f:Addr} {cd:Value} {A:Around} {outer:List Env} {s s1:Shared} {H:Hp} {E:XK} {us:List Value} {vs:List V}
  (S:FnScope N ps scope) (hd:A.handled=none) (e0:Env0 P w K mg base A outer s H) (hl:vs.length=ps.length) (r:Vals vs us)
  (x:InCallC s s.heap.objs.size (bindL (envOfC qual scope s.heap.objs.size f cd).kindOf (ps.zip us) fun _=>none) (cellsFrom (s.heap.objs.size+1) scope.names []) (bindC (envOfC qual scope s.heap.objs.size f cd).kindOf (ps.zip us) fun _=>none) s1) :
  Inv (cxOf CX P w K mg base N qual scope f cd A outer s H E) [] (start N vs) H s1:=by
 have hpl:ps.length≤N.length:=by have:=congrArg List.length S.pre;rw [List.length_take] at this;omega
 obtain ⟨h1,tk,rfl,hk⟩:=x.done
 have noA:∀ b:Addr,b ∉ (cxOf CX P w K mg base N qual scope f cd A outer s H E).ex:=fun b z=>absurd (show b ∈ ([]:List Addr) from z) (by simp)
 refine ⟨⟨e0.mod,S.kind,rfl,rfl,Nat.le_refl _,fun y z c h1 h2=>?_,fun y hy=>?_,fun y c _ h=>?_,fun _=>hd,Around.frames_deeper e0.frames,.inr ⟨rfl,rfl⟩,fun b z=>absurd z (noA b),e0.bs,e0.bsz,fun b _ _=>noA b,fun b z=>absurd z (noA b),e0.funs,e0.frf⟩,
  rfl,e0.bare,Un.kept hk,⟨_,x.toInCall.ns,fun i y v h1 h2 h3=>?_⟩,fun y c h=>⟨_,x.cell y c h⟩,e0.hok.fresh (Nat.le_refl _),fun y c h=>?_,fun p hp=>absurd (show p ∈ ([]:List (Addr × Obj)) from hp) (by simp),e0.hok.kept hk,?_⟩
 ·exact name_of_addr x.apart (PySem.mem_of_lookup h1) (PySem.mem_of_lookup h2)
 ·have hy:scope.names.lookup y=some .cell∨scope.names.lookup y=some .free:=hy
  rcases hy with hy | hy
  ·exact cell_has hy
  ·exact absurd rfl (S.nofree _ (PySem.mem_of_lookup hy))
 ·exact Nat.le_of_lt (x.above y c (PySem.mem_of_lookup h))
 ·have hi:i < vs.length:=by
   unfold start at h2
   by_cases hi:i < vs.length
   ·exact hi
   ·rw [List.getElem?_append_right (by simpa using hi)] at h2
    rw [List.getElem?_replicate] at h2
    split at h2 <;> cases h2
  have ha:vs[i]?=some v:=by
   unfold start at h2
   rw [List.getElem?_append_left (by simpa using hi),List.getElem?_map] at h2
   cases e:vs[i]? with
   | none=>rw [e] at h2;cases h2
   | some a=>rw [e] at h2;cases h2;rfl
  obtain ⟨u,hu,rv⟩:=r.get ha
  have hp:ps[i]?=some y:=by
   rw [← S.pre,List.getElem?_take_of_lt (by omega)];exact h1
  have ndP:ps.Nodup:=by rw [← S.pre];exact S.nd.sublist (List.take_sublist _ _)
  refine ⟨u,rv,?_⟩
  rcases S.par y (List.mem_of_getElem? hp) with k | k
  ·exact .inl ⟨k,bindL_get ndP hp hu k⟩
  ·obtain ⟨c,e⟩:=cell_has (n:=s.heap.objs.size+1) k
   refine .inr ⟨.inl k,c,e,?_⟩
   have q:=x.cell y c e
   rw [bindC_get ndP hp hu (by show scope.names.lookup y≠_;rw [k];decide)] at q
   exact q
 ·exact e0.hok.fresh (Nat.le_of_lt (x.above y c (PySem.mem_of_lookup h)))
 ·unfold start
  show _=N.length
  rw [List.length_append,List.length_map,List.length_replicate]
  omega
theorem fn_of {CX:CXT} {P:Program} {w:World} {K:PySem.W.Frag} {mg:Str→Option Value} {base:Heap} {k:Nat} {f:Addr} {name qual:Str} {params:Arguments} {body:List Stmt} {scope:Scope} {dV kV doc pm cdv ct oc:Value} {an od:Option Addr}
  {osl:Array (Option Value)} {N ps:List Str} {sp:Sp} (lk:K.lookup f=some ⟨oc,od,.func (PySem.W.fnOf name qual params body scope dV kV doc pm an cdv ct),osl⟩) (hcd:PySem.W.codeIn K cdv qual=true) (S:FnScope N ps scope)
  (len:∀ vs H Q E,sp vs H Q E→vs.length=ps.length)
  (hbody:∀ (A:Around) (outer:List Env) (s:Shared) (H:Hp) (vs:List V) (Q:VK) (E:XK),Room k (A.deeper (envOfC qual scope s.heap.objs.size f cdv))→sp vs H Q E →
   ∃ t,PSs (cxOf CX P w K mg base N qual scope f cdv A outer s H E) body t∧t { nx:=fun _ H'=>Q .non H',rt:=Q } (start N vs) H) :
  FnOk P w K mg base CX (k+1) f (PySem.W.fnOf name qual params body scope dV kV doc pm an cdv ct) ps sp:=by
 refine ⟨len,fun A outer s H args us vs Q E hr e0 hb r hsp=>?_⟩
 have hl:=len _ _ _ _ hsp
 have KX:K.In s.heap:=e0.mod.kin.keeps fun b o e=>(e0.bs b o e).1
 have lim:s.heap.NoLimit:=e0.mod.nolimit.keeps fun b o e=>(e0.bs b o e).1
 have hkind:∀ y ∈ ps.zip us,scope.names.lookup y.1=some .local∨(scope.names.lookup y.1=some .cell∧((cellsFrom (s.heap.objs.size+1) scope.names []).lookup y.1).isSome=true):=fun ⟨n,v⟩ hy=>by
  rcases S.par n (List.of_mem_zip hy).1 with q | q
  ·exact .inl q
  ·exact .inr ⟨q,PySem.W.cellsFrom_some _ _ _ (.inl q)⟩
 refine codeAny_call_function hr.depth (KX _ _ lk) rfl S.co S.gen rfl (PySem.W.codeRec_of KX hcd) (hb _ _ _ _ ?_)
 refine wpAny_newFunctionEnv_cells S.kind hkind fun env he s1 x=>?_
 subst he
 refine ⟨lim.keeps x.toInCall.keep,codeAny_func ?_⟩
 obtain ⟨t,ht,hq⟩:=hbody A outer s H vs Q E (hr.deeper _) hsp
 have I:Inv (cxOf CX P w K mg base N qual scope f cdv A outer s H E) [] (start N vs) H s1:=inv_start S hr.hd e0 hl r x
 refine wpAny_mono (ht [] s1 (start N vs) H _ I hq) (fun fl s' hs=>?_) fun e s' hs=>hs
 have fin:∀ {σ':St} {H':Hp} {v:V} {u:Value},Inv (cxOf CX P w K mg base N qual scope f cdv A outer s H E) [] σ' H' s'→RelV v u→Q v H'→CE outer P w H s Q u s' :=
  fun {σ' H' v u} J rv q=>⟨v,H',J.os,J.bare,J.base,J.hok,rv,q⟩
 cases fl with
 | ret u =>
  obtain ⟨v,σ',H',J,rv,q⟩:=hs
  exact fin J rv q
 | next =>
  obtain ⟨σ',H',J,q⟩:=hs
  exact fin (v:=V.non) (u:=Value.none) J rfl q
 | brk =>
  obtain ⟨_,_,_,q⟩:=hs
  exact False.elim q
 | cont =>
  obtain ⟨_,_,_,q⟩:=hs
  exact False.elim q
end L2
namespace L2
open PySem PySem.Spec PyProof.Rows
section
variable {X:Cx} {x:Str} {p pos:Pos} {e:Expr} {es:List Expr} {t:TA} {id T:String} {r:List V→Hp→VK→Prop}
def tCB (r:List V→Hp→VK→Prop) (t:TA):TE:=fun σ H Q=>t σ H fun vs H1=>r vs H1 Q
theorem pe_callB (hc:CallR X (.builtin id) r) (hg:Gl X x) (hm:X.mg x=none) (hv:bootBuiltins x=some (.builtin id)) (ha:PA X (e :: es) t) (hn:x≠"__name__":=by decide) (hdb:(x == ("__debug__":Str))=false:=by decide)
  (he:starEach (e :: es) X.env=(false,eval e X.env) :: starEach es X.env:=by rfl) (hpl:(backTo pos (starEach es X.env)).any (·.1)=false:=by rfl):PE X (.Call (.Name x p) (e :: es) [] pos) (tCB r t):=by
 intro pins s σ H Q I h
 refine wpAny_Call_Name_kw (ld_blt I hg hm hv ?_ hn hdb)
 exact PyProof.Rows.callWith_builtin1 (thn (ha pos pins s σ H _ I h) fun us s1 ⟨vs,H1,I1,r1,q1⟩=>hc pins s1 σ H1 vs us Q I1 r1 q1) he hpl
theorem pe_callTy (hc:CallR X (.type T) r) (hg:Gl X x) (hm:X.mg x=none) (hv:bootBuiltins x=some (.type T)) (ha:PA X (e :: es) t) (hn:x≠"__name__":=by decide) (hdb:(x == ("__debug__":Str))=false:=by decide)
  (he:starEach (e :: es) X.env=(false,eval e X.env) :: starEach es X.env:=by rfl) (hpl:(backTo pos (starEach es X.env)).any (·.1)=false:=by rfl):PE X (.Call (.Name x p) (e :: es) [] pos) (tCB r t):=by
 intro pins s σ H Q I h
 refine wpAny_Call_Name_kw (ld_blt I hg hm hv ?_ hn hdb)
 exact PyProof.Rows.callWith_type1 (thn (ha pos pins s σ H _ I h) fun us s1 ⟨vs,H1,I1,r1,q1⟩=>hc pins s1 σ H1 vs us Q I1 r1 q1) he hpl
end
end L2
namespace HT
open PySem PyProof.Rows
section
open PySem.SeqAt
open PySem.AutoSeq1 (wpAny_loadPart')
open PySem.MeetsSeq PySem.MeetsSeq2 PySem.MeetsSeq3
end
section
variable {prog:Program} {w:World} {A:Around} {E:Value→Shared→Prop} {s:Shared}
def sIx (n d:Nat):Option Int→Nat
 | none=>d
 | some v=>if v < 0 then (v+(n:Int)).toNat else min v.toNat n
theorem sIx_none (n d:Nat):sIx n d none=d:=rfl
theorem sIx_nat (n d k:Nat):sIx n d (some (k:Int))=min k n:=by
 show (if (k:Int) < 0 then ((k:Int)+(n:Int)).toNat else min (k:Int).toNat n)=min k n
 rw [if_neg (by omega),Int.toNat_natCast]
theorem sIx_le (n d:Nat) (hd:d≤n) (o:Option Int):sIx n d o≤n:=by
 cases o with
 | none=>exact hd
 | some v =>
  show (if v < 0 then (v+(n:Int)).toNat else min v.toNat n)≤n
  by_cases hv:v < 0
  ·rw [if_pos hv];omega
  ·rw [if_neg hv];exact Nat.min_le_right _ _
theorem clip_eq (v:Int) (n d:Nat):(if v < 0 then max (v+(n:Int)) 0 else min v (n:Int))=((sIx n d (some v):Nat):Int):=by
 show (if v < 0 then max (v+(n:Int)) 0 else min v (n:Int))=(((if v < 0 then (v+(n:Int)).toNat else min v.toNat n):Nat):Int)
 by_cases hv:v < 0
 ·simp only [if_pos hv];omega
 ·simp only [if_neg hv];omega
theorem adjust_gen (lo hi:Option Int) (n:Nat):Builtin.Slice.sliceAdjust lo hi 1 (n:Int)=(((sIx n 0 lo:Nat):Int),((sIx n n hi:Nat):Int)):=by
 have h1:¬ ((1:Int) < 0):=by omega
 unfold Builtin.Slice.sliceAdjust
 simp only [h1,if_false]
 refine Prod.ext ?_ ?_
 ·cases lo with
  | none=>rfl
  | some v=>exact clip_eq v n 0
 ·cases hi with
  | none=>rfl
  | some v=>exact clip_eq v n n
theorem places_gen (i j:Nat):Builtin.Slice.slicePlaces (i:Int) (j:Int) 1=j - i:=by
 unfold Builtin.Slice.slicePlaces
 have h1:(1:Int) > 0:=by omega
 simp only [h1,if_true,Int.ediv_one]
 split <;> omega
theorem slicePart_ {v:Value} {o:Option Int} {Q:Option Int→Shared→Prop} (p:IsPart v o) (h:Q o s):wpAny (model prog w) A (Builtin.Slice.slicePartIndex v) Q E s:=by
 cases p with
 | none=>exact slicePart_none h
 | int i t=>exact slicePart_int h
theorem sliceApplied_gen {sl:Addr} {vl vu:Value} {lo hi:Option Int} {n:Nat} {Q:Int × Int × Nat→Shared→Prop} (hs:s.heap.IsSliceOf sl vl vu .none) (pl:IsPart vl lo) (pu:IsPart vu hi)
  (h:Q (((sIx n 0 lo:Nat):Int),1,sIx n n hi - sIx n 0 lo) s):wpAny (model prog w) A (Builtin.Slice.sliceApplied (.ref sl) (pure (n:Int))) Q E s:=by
 obtain ⟨os,hos,hcs,hds⟩:=id hs
 unfold Builtin.Slice.sliceApplied Builtin.Slice.sliceFields
 refine wpAny_bind (wpAny_bind (wpAny_field hos hds (x:=vl) rfl (wpAny_bind (wpAny_field hos hds (x:=vu) rfl (wpAny_bind (wpAny_field hos hds (x:=.none) rfl (wpAny_pure ?_)))))))
 refine wpAny_bind (slicePart_none ?_)
 show wpAny _ _ (if ((1:Int) == 0)=true then _ else _) _ _ s
 rw [if_neg (by decide)]
 refine wpAny_bind (slicePart_ pl (wpAny_bind (slicePart_ pu (wpAny_bind (wpAny_pure ?_)))))
 show wpAny _ _ (match Builtin.Slice.sliceAdjust lo hi 1 (n:Int) with | (lo,hi)=>pure (lo,(1:Int),Builtin.Slice.slicePlaces lo hi 1)) _ _ s
 rw [adjust_gen lo hi n]
 show wpAny _ _ (pure (((sIx n 0 lo:Nat):Int),(1:Int),Builtin.Slice.slicePlaces ((sIx n 0 lo:Nat):Int) ((sIx n n hi:Nat):Int) 1)) _ _ s
 rw [places_gen]
 exact wpAny_pure h
theorem pick_gen (xs:Array Value) (i k:Nat):((List.range k).filterMap fun (m:Nat)=>xs[((i:Int)+(m:Int) * 1).toNat]?).toArray=((xs.toList.drop i).take k).toArray:=by
 have e:(fun (m:Nat)=>xs[((i:Int)+(m:Int) * 1).toNat]?)=fun m=>xs[i+m]?:=by
  funext m
  have:((i:Int)+(m:Int) * 1).toNat=i+m:=by omega
  rw [this]
 rw [e]
 have:=pick_run xs i k
 rw [List.filterMap_map] at this
 have e2:((fun x=>xs[x]?) ∘ fun x=>i+x)=fun m=>xs[i+m]?:=rfl
 rw [e2] at this
 rw [this]
theorem getItem_tuple_cut {t sl:Addr} {items:Array Value} {vl vu:Value} {lo hi:Option Int} {Q:Value→Shared→Prop} (ht:IsTup s.heap t items) (hs:s.heap.IsSliceOf sl vl vu .none) (pl:IsPart vl lo) (pu:IsPart vu hi)
  (hw:¬ (sIx items.size 0 lo=0∧sIx items.size items.size hi=items.size))
  (h:Q (.ref s.heap.objs.size) { s with heap:=s.heap.push { cls:=.type "tuple",data:=.seq ((items.toList.drop (sIx items.size 0 lo)).take (sIx items.size items.size hi - sIx items.size 0 lo)).toArray } })
  (hsz:items.size≤sizeLine):wpAny (model prog w) A (getItem (.ref t) (.ref sl)) Q E s:=by
 have htake:sizeOk (.seq ((items.toList.drop (sIx items.size 0 lo)).take (sIx items.size items.size hi - sIx items.size 0 lo)).toArray):=by
  show ((items.toList.drop (sIx items.size 0 lo)).take (sIx items.size items.size hi - sIx items.size 0 lo)).toArray.size≤sizeLine
  rw [List.size_toArray,List.length_take,List.length_drop,Array.length_toList]
  omega
 have hj:sIx items.size items.size hi≤items.size:=sIx_le _ _ (Nat.le_refl _) hi
 obtain ⟨os,hos,hcs,hds⟩:=id hs
 have hTs:s.TypeIs (.ref sl) "slice":=⟨os,hos,hcs⟩
 unfold getItem
 try with_reducible refine wpAny_holding ?_
 first | refine wpAny_bind (wpAny_pure ?_) | skip
 refine wpAny_bind (wpAny_sequenceKey ht.typeIs (by decide) ?_)
 refine wpAny_bind (wpAny_callSpecial?_slot (name:=Str.ofString "__getitem__") ht.typeIs PyProof.Rows.slot_tuple_getitem
  (wpAny_call_entry PyProof.Rows.slot_tuple_getitem ht.typeIs entry_tuple_getitem ?_ (args_tuple_getitem _ _)))
 show wpAny _ _ (Builtin.Tuple.tupleItemsOf (.ref t) >>= _) _ _ s
 refine wpAny_bind (tupleItemsOf_ ht ?_)
 refine wpAny_bind (wpAny_typeOf hTs ?_)
 rw [if_pos (by decide)]
 refine wpAny_bind (sliceApplied_gen hs pl pu ?_)
 have hno:¬ ((((sIx items.size 0 lo:Nat):Int) == 0 && (1:Int) == 1 && (sIx items.size items.size hi - sIx items.size 0 lo) == items.size)=true):=by
  intro q
  rw [Bool.and_eq_true,Bool.and_eq_true] at q
  have q1:((sIx items.size 0 lo:Nat):Int)=0:=eq_of_beq q.1.1
  have q2:sIx items.size items.size hi - sIx items.size 0 lo=items.size:=eq_of_beq q.2
  exact hw ⟨by omega,by omega⟩
 show wpAny _ _ (if (((sIx items.size 0 lo:Nat):Int) == 0 && (1:Int) == 1 && (sIx items.size items.size hi - sIx items.size 0 lo) == items.size)=true then _ else _) _ _ s
 rw [if_neg hno,pick_gen]
 first
  | exact wpAny_bind (m:=Builtin.Tuple.tupleExact _) (wpAny_newObj_type (wpAny_pure ⟨_,rfl,wpAny_pure h⟩) htake)
  | exact wpAny_bind (m:=Builtin.Tuple.tupleExact _) (wpAny_newObj_type (wpAny_bind (wpAny_pure (wpAny_pure ⟨_,rfl,wpAny_pure h⟩))) htake)
  | exact wpAny_bind (wpAny_bind (m:=Builtin.Tuple.tupleExact _) (wpAny_newObj_type (wpAny_pure (wpAny_pure ⟨_,rfl,wpAny_pure h⟩)) htake))
  | exact wpAny_bind (wpAny_bind (m:=Builtin.Tuple.tupleExact _) (wpAny_newObj_type (wpAny_pure ⟨_,rfl,wpAny_pure h⟩) htake))
end
end HT
namespace L2
open PySem PySem.Spec PyProof.Rows
abbrev TO:=St→Hp→(Option Int→Hp→Prop)→Prop
def PO (X:Cx) (e:Option Expr) (t:TO):Prop :=
 ∀ (pins:List (Addr × Obj)) (s:Shared) (σ:St) (H:Hp) (Q:Option Int→Hp→Prop),Inv X pins σ H s→t σ H Q →
  wpAny (model X.prog X.w) X.A (evalPart e X.env) (fun u s'=>∃ o H',Inv X pins σ H' s'∧IsPart u o∧Q o H') X.xe s
def tNoPart:TO:=fun _ H Q=>Q none H
def tPart (t:TE):TO:=fun σ H Q=>t σ H fun x H1=>∃ i,x=.int i∧Q (some i) H1
section
variable {X:Cx} {e:Expr} {te:TE} {lo hi:Option Expr} {tl th:TO} {pos p2:Pos}
theorem po_none:PO X none tNoPart:=by
 intro pins s σ H Q I h
 rw [evalPart_none]
 exact wpAny_pure ⟨none,H,I,.none,h⟩
theorem po_some (h:PE X e te):PO X (some e) (tPart te):=by
 intro pins s σ H Q I hw
 rw [evalPart_some]
 refine thn (h pins s σ H _ I hw) fun u s1 ⟨x,H1,I1,r1,q1⟩=>?_
 obtain ⟨i,rfl,q⟩:=q1
 obtain ⟨t,rfl⟩:=r1
 exact ⟨some i,H1,I1,.int i t,q⟩
def SlR (X:Cx) (r:V→Option Int→Option Int→Hp→VK→Prop):Prop :=
 ∀ (pins:List (Addr × Obj)) (s:Shared) (σ:St) (H:Hp) (x:V) (v vl vu:Value) (lo hi:Option Int) (sl:Addr) (Q:VK),Inv X pins σ H s→RelV x v→s.heap.IsSliceOf sl vl vu .none→IsPart vl lo→IsPart vu hi→r x lo hi H Q →
  ∃ T id,typeLookup (.type T) "__getitem__"=pure (some (.builtin id))∧s.TypeIs v T∧wpAny (model X.prog X.w) X.A (getItem v (.ref sl)) (EP X pins σ Q) X.xe s
theorem SlR.or {r r':V→Option Int→Option Int→Hp→VK→Prop} (h:SlR X r) (h':SlR X r'):SlR X (fun x lo hi H Q=>r x lo hi H Q∨r' x lo hi H Q):=by
 intro pins s σ H x v vl vu lo hi sl Q I rx hs pl pu q
 rcases q with q | q
 ·exact h pins s σ H x v vl vu lo hi sl Q I rx hs pl pu q
 ·exact h' pins s σ H x v vl vu lo hi sl Q I rx hs pl pu q
def tSl (r:V→Option Int→Option Int→Hp→VK→Prop) (te:TE) (tl th:TO):TE:=fun σ H Q=>te σ H fun x H1=>tl σ H1 fun l H2=>th σ H2 fun u H3=>r x l u H3 Q
theorem pe_slice {r:V→Option Int→Option Int→Hp→VK→Prop} (hr:SlR X r) (he:PE X e te) (hl:PO X lo tl) (hu:PO X hi th):PE X (.Subscript e (.Slice lo hi none p2) pos) (tSl r te tl th):=by
 intro pins s σ H Q I h
 refine Subscript_ (thn (he pins s σ H _ I h) fun v s1 ⟨x,H1,I1,r1,q1⟩=>?_)
 refine wpAny_Slice (thn (hl pins s1 σ H1 _ I1 q1) fun vl s2 ⟨l,H2,I2,pl,q2⟩=>thn (hu pins s2 σ H2 _ I2 q2) fun vu s3 ⟨u,H3,I3,pu,q3⟩=>?_)
 rw [evalPart_none]
 refine wpAny_pure ?_
 have I4:Inv X pins σ H3 { s3 with heap:=s3.heap.push { cls:=.type "slice",data:=.fields #[vl,vu,.none] } }:=I3.kept (t':=s3.toks) fun b ob q=>Heap.get?_push_of_some _ q
 obtain ⟨T,id,hT,ht,hg⟩:=hr pins { s3 with heap:=s3.heap.push { cls:=.type "slice",data:=.fields #[vl,vu,.none] } } σ H3 x v vl vu l u s3.heap.objs.size Q I4 r1 (Heap.IsSliceOf.new ..) pl pu q3
 show wpAny (model X.prog X.w) X.A (subscriptTail e (.Slice lo hi none p2) v (.ref s3.heap.objs.size)) (EP X pins σ Q) X.xe { s3 with heap:=s3.heap.push { cls:=.type "slice",data:=.fields #[vl,vu,.none] } }
 exact tail_any (ops:=[.ref s3.heap.objs.size,v]) ht hT hg (by with_unfolding_all rfl)
def cutV (xs:List V) (lo hi:Option Int):List V:=(xs.drop (HT.sIx xs.length 0 lo)).take (HT.sIx xs.length xs.length hi - HT.sIx xs.length 0 lo)
theorem cutV_length (xs:List V) (lo hi:Option Int):(cutV xs lo hi).length≤xs.length:=by
 unfold cutV
 rw [List.length_take,List.length_drop]
 omega
def rSlT (K:PySem.W.Frag):V→Option Int→Option Int→Hp→VK→Prop:=fun x lo hi H Q=>∃ a xs,x=.ref a∧SqT K H a xs ∧
 ¬ (HT.sIx xs.length 0 lo=0∧HT.sIx xs.length xs.length hi=xs.length)∧∀ p,H p=none→Q (.ref p) (upd H p (.tup (cutV xs lo hi)))
theorem sl_tup:SlR X (rSlT X.K):=by
 intro pins s σ H x v vl vu lo hi sl Q I rx hs pl pu h
 obtain ⟨a,xs,rfl,hx,hw,q⟩:=h
 cases rx
 obtain ⟨its,r,ht,hz⟩:=I.tuple hx
 have hlen:its.toArray.size=xs.length:=by rw [List.size_toArray];exact r.length.symm
 refine ⟨"tuple",_,PyProof.Rows.slot_tuple_getitem.lookup,ht.typeIs,?_⟩
 refine HT.getItem_tuple_cut ht hs pl pu (by rw [hlen];exact hw) ?_ (by rw [hlen];exact hz)
 rw [hlen]
 refine ⟨.ref s.heap.objs.size,_,I.laid (t':=s.toks) (o:=.tup (cutV xs lo hi)) (fun b ob q=>Heap.get?_push_of_some _ q) (Nat.le_refl _) ?_,rfl,q _ (I.hok.fresh (Nat.le_refl _))⟩
 exact ⟨Nat.le_trans (cutV_length xs lo hi) hz,_,(r.drop (HT.sIx xs.length 0 lo)).take (HT.sIx xs.length xs.length hi - HT.sIx xs.length 0 lo),IsTup.new _ _⟩
end
end L2
namespace L2
open PySem PySem.Spec PyProof.Rows
def ixN (n:Nat) (i:Int):Option Nat:=if 0≤i then (if i < n then some i.toNat else none) else if -(n:Int)≤i then some (i+n).toNat else none
def atI {α:Type} (xs:List α) (i:Int):Option α:=(ixN xs.length i).bind fun j=>xs[j]?
theorem ixN_seq {n:Nat} {i:Int} {j:Nat} (h:ixN n i=some j):seqIndex? i n=some j∧j < n∧-(n:Int)≤i∧i < n:=by
 unfold ixN at h
 by_cases h0:0≤i
 ·rw [if_pos h0] at h
  by_cases h1:i < n
  ·rw [if_pos h1] at h
   have e:i.toNat=j:=Option.some.inj h
   exact ⟨by rw [seqIndex_of h0 h1,e],by omega,by omega,h1⟩
  ·rw [if_neg h1] at h;cases h
 ·rw [if_neg h0] at h
  by_cases h1:-(n:Int)≤i
  ·rw [if_pos h1] at h
   have e:(i+n).toNat=j:=Option.some.inj h
   exact ⟨by rw [seqIndex_neg (by omega) h1,e],by omega,h1,by omega⟩
  ·rw [if_neg h1] at h;cases h
theorem atI_get {α:Type} {xs:List α} {i:Int} {v:α} (h:atI xs i=some v):∃ j,seqIndex? i xs.length=some j∧xs[j]?=some v∧j < xs.length∧-(xs.length:Int)≤i∧i < xs.length:=by
 unfold atI at h
 cases e:ixN xs.length i with
 | none=>rw [e] at h;cases h
 | some j =>
  rw [e] at h
  obtain ⟨h1,h2,h3,h4⟩:=ixN_seq e
  exact ⟨j,h1,h,h2,h3,h4⟩
theorem atI_nat {α:Type} {xs:List α} {j:Nat} {v:α} (h:xs[j]?=some v):atI xs (j:Int)=some v:=by
 have hj:j < xs.length:=(List.getElem?_eq_some_iff.mp h).1
 have e:ixN xs.length (j:Int)=some j:=by
  unfold ixN
  rw [if_pos (by omega),if_pos (by omega)];simp
 unfold atI;rw [e];exact h
def PlainIx (b:Expr):Prop:=∀ o i,subscripted b false o i=operate [o,i] (getItem o i)
def IxR (X:Cx) (r:R2):Prop :=
 ∀ (value slice:Expr) (pins:List (Addr × Obj)) (s:Shared) (σ:St) (H:Hp) (x y:V) (v u:Value) (Q:VK),Inv X pins σ H s→RelV x v→RelV y u→r x y H Q →
  subscripted slice false v u=operate [v,u] (getItem v u)→wpAny (model X.prog X.w) X.A (subscriptTail value slice v u) (EP X pins σ Q) X.xe s
def MtR (X:Cx) (id:String) (r:V→List V→Hp→VK→Prop):Prop :=
 ∀ (pins:List (Addr × Obj)) (s:Shared) (σ:St) (H:Hp) (x:V) (xs:List V) (v:Value) (us:List Value) (Q:VK),Inv X pins σ H s→RelV x v→Vals xs us→r x xs H Q →
  wpAny (model X.prog X.w) X.A (call (.builtin id) (v :: us)) (EP X pins σ Q) X.xe s
section
variable {X:Cx} {a b:Expr} {ta tb:TE} {pos:Pos}
theorem IxR.or {r r':R2} (h:IxR X r) (h':IxR X r'):IxR X (fun x y H Q=>r x y H Q∨r' x y H Q):=by
 intro value slice pins s σ H x y v u Q I rx ry q hs
 rcases q with q | q
 ·exact h value slice pins s σ H x y v u Q I rx ry q hs
 ·exact h' value slice pins s σ H x y v u Q I rx ry q hs
theorem MtR.or {id:String} {r r':V→List V→Hp→VK→Prop} (h:MtR X id r) (h':MtR X id r'):MtR X id (fun x xs H Q=>r x xs H Q∨r' x xs H Q):=by
 intro pins s σ H x xs v us Q I rx rs q
 rcases q with q | q
 ·exact h pins s σ H x xs v us Q I rx rs q
 ·exact h' pins s σ H x xs v us Q I rx rs q
theorem pe_ix {r:R2} (hr:IxR X r) (ha:PE X a ta) (hb:PE X b tb) (hs:PlainIx b):PE X (.Subscript a b pos) (tOp r ta tb):=by
 intro pins s σ H Q I h
 exact Subscript_ (binT ha hb I h fun v u s2 x y H2 I2 rx ry q=>hr a b pins s2 σ H2 x y v u Q I2 rx ry q (hs _ _))
def rIxL (K:PySem.W.Frag):R2:=fun x y H Q=>∃ p xs i v,x=.ref p∧y=.int i∧SqL K H p xs∧atI xs i=some v∧Q v H
def rIxT (K:PySem.W.Frag):R2:=fun x y H Q=>∃ p xs i v,x=.ref p∧y=.int i∧SqT K H p xs∧atI xs i=some v∧Q v H
theorem ix_list:IxR X (rIxL X.K):=by
 intro value slice pins s σ H x y v u Q I rx ry h hs
 obtain ⟨p,xs,i,z,rfl,rfl,hq,he,q⟩:=h
 cases rx
 obtain ⟨t,rfl⟩:=ry
 obtain ⟨its,r,pl,hz⟩:=I.list hq
 obtain ⟨j,h1,h2,h3,h4,h5⟩:=atI_get he
 obtain ⟨w,ew,rw'⟩:=r.get h2
 have hl:=r.length
 have hn:=line63
 have fin:EP X pins σ Q w s:=⟨z,H,I,rw',q⟩
 by_cases h0:0≤i
 ·have hj:i.toNat=j:=by
   rw [seqIndex_of h0 h5] at h1
   exact Option.some.inj h1
  exact item_listR pl.isList h0 (by omega) (by rw [hj];simpa using ew) fin hs
 ·have hj:(i+(its.toArray.size:Int)).toNat=j:=by
   rw [seqIndex_neg (by omega) h4] at h1
   rw [List.size_toArray,← hl]
   exact Option.some.inj h1
  exact subscriptTail_builtinR (x:=w) pl.isList.typeIs slot_list_getitem.lookup
   (wpAny_getItem_list_neg (Q:=fun r s'=>r=w∧EP X pins σ Q r s') pl.isList (by omega) (by rw [List.size_toArray] <;> omega) (by omega) (by rw [hj];simpa using ew) ⟨rfl,fin⟩) hs
theorem ix_tup:IxR X (rIxT X.K):=by
 intro value slice pins s σ H x y v u Q I rx ry h hs
 obtain ⟨p,xs,i,z,rfl,rfl,hq,he,q⟩:=h
 cases rx
 obtain ⟨t,rfl⟩:=ry
 obtain ⟨its,r,pl,hz⟩:=I.tuple hq
 obtain ⟨j,h1,h2,h3,h4,h5⟩:=atI_get he
 obtain ⟨w,ew,rw'⟩:=r.get h2
 have hl:=r.length
 have hn:=line63
 have fin:EP X pins σ Q w s:=⟨z,H,I,rw',q⟩
 exact subscriptTail_builtinR (x:=w) pl.typeIs slot_tuple_getitem.lookup
  (getItem_tuple (j:=j) (Q:=fun r s'=>r=w∧EP X pins σ Q r s') pl (by omega) (by omega) (by rw [List.size_toArray,← hl];exact h1) (by simpa using ew) ⟨rfl,fin⟩) hs
theorem mapSeq_set (its:List Value) (n j:Nat) (u:Value):Obj.mapSeq (·.setIfInBounds j u) { cls:=.type "list",data:=.seq its.toArray n }={ cls:=.type "list",data:=.seq (its.set j u).toArray n }:=by
 simp [Obj.mapSeq]
theorem Inv.lst {pins:List (Addr × Obj)} {σ:St} {H:Hp} {s:Shared} {p:Addr} {xs:List V} (I:Inv X pins σ H s) (h:H p=some (.lst xs)) :
  ∃ (its:List Value) (n:Nat),Vals xs its∧s.heap.get? p=some { cls:=.type "list",data:=.seq its.toArray n }∧xs.length≤sizeLine:=by
 obtain ⟨z,its,n,r,e⟩:=I.hok p _ h
 exact ⟨its,n,r,e,z⟩
theorem Inv.lstUpd {pins:List (Addr × Obj)} {σ:St} {H:Hp} {s:Shared} {p:Addr} {xs ys:List V} {its its':List Value} {n n':Nat} {f:Obj→Obj} (I:Inv X pins σ H s) (h:H p=some (.lst xs))
  (ho:s.heap.get? p=some { cls:=.type "list",data:=.seq its.toArray n }) (hf:f { cls:=.type "list",data:=.seq its.toArray n }={ cls:=.type "list",data:=.seq its'.toArray n' }) (r:Vals ys its') (hz:ys.length≤sizeLine) (t:Nat) :
  Inv X pins σ (upd H p (.lst ys)) { s with heap:=s.heap.update p f,toks:=t }:=by
 have e:(s.heap.update p f).get? p=some { cls:=.type "list",data:=.seq its'.toArray n' }:=by
  rw [Heap.get?_update_self f ho (by rw [hf] <;> rfl),hf]
 refine I.write (x:=p) (e:=p) (by rw [h];trivial) (.inl rfl) (fun b u hb q=>(Heap.get?_update_other _ _ (Ne.symm hb)).trans q) ⟨_,e⟩ ?_
 exact ⟨hz,its',n',r,e⟩
def rSetL:V→V→V→Hp→(Hp→Prop)→Prop:=fun o i v H Q=>∃ p xs k j,o=.ref p∧i=.int k∧H p=some (.lst xs)∧ixN xs.length k=some j∧Q (upd H p (.lst (xs.set j v)))
theorem set_list:PSet X rSetL:=by
 intro pins s σ H o i v ov iv u Q I ro ri rv h
 obtain ⟨p,xs,k,j,rfl,rfl,hp,hj,q⟩:=h
 cases ro
 obtain ⟨t,rfl⟩:=ri
 obtain ⟨its,n,r,ho,hz⟩:=I.lst hp
 obtain ⟨h1,h2,h3,h4⟩:=ixN_seq hj
 have hl:=r.length
 have hn:=line63
 have I':Inv X pins σ (upd H p (.lst (xs.set j v))) { s with heap:=s.heap.update p (Obj.mapSeq (·.setIfInBounds j u)) } :=
  I.lstUpd hp ho (mapSeq_set its n j u) (r.set rv j) (by rw [List.length_set];exact hz) s.toks
 by_cases h0:0≤k
 ·have hk:k.toNat=j:=by
   rw [seqIndex_of h0 h4] at h1
   exact Option.some.inj h1
  exact PySem.W.ki_setAt ho h0 (by omega) (by rw [List.size_toArray,← hl];exact h4) (by rw [hk];exact ⟨_,I',q⟩)
 ·have hk:(k+(its.toArray.size:Int)).toNat=j:=by
   rw [seqIndex_neg (by omega) h3] at h1
   rw [List.size_toArray,← hl]
   exact Option.some.inj h1
  exact PySem.W.ki_setBack ho (by omega) (by rw [List.size_toArray,← hl];exact h3) (by omega) (by rw [hk];exact ⟨_,I',q⟩)
theorem slice_bounds (lo hi:Option Int) (n:Nat):(sliceBounds lo hi none n).1=((HT.sIx n 0 lo:Nat):Int)∧(sliceBounds lo hi none n).2.1=((HT.sIx n n hi:Nat):Int)∧(sliceBounds lo hi none n).2.2=1:=by
 refine ⟨?_,?_,rfl⟩
 ·cases lo with
  | none=>simp [sliceBounds,HT.sIx]
  | some i =>
   simp only [sliceBounds,HT.sIx,Option.getD_none,show (1:Int) > 0 by decide,if_true]
   by_cases h:i < 0
   ·simp only [h,if_true] <;> omega
   ·simp only [h,if_false] <;> omega
 ·cases hi with
  | none=>simp [sliceBounds,HT.sIx]
  | some i =>
   simp only [sliceBounds,HT.sIx,Option.getD_none,show (1:Int) > 0 by decide,if_true]
   by_cases h:i < 0
   ·simp only [h,if_true] <;> omega
   ·simp only [h,if_false] <;> omega
theorem slicePick_cut (its:List Value) (lo hi:Option Int):slicePick its.toArray lo hi none=((its.drop (HT.sIx its.length 0 lo)).take (HT.sIx its.length its.length hi - HT.sIx its.length 0 lo)).toArray:=by
 obtain ⟨h1,h2,h3⟩:=slice_bounds lo hi its.toArray.size
 unfold slicePick
 rw [h1,h2,h3]
 simp only [sliceRange_one,pick_run,List.size_toArray] <;> rfl
def rSlL (K:PySem.W.Frag):V→Option Int→Option Int→Hp→VK→Prop:=fun x lo hi H Q=>∃ a xs,x=.ref a∧SqL K H a xs∧∀ p,H p=none→Q (.ref p) (upd H p (.lst (cutV xs lo hi)))
theorem sl_list:SlR X (rSlL X.K):=by
 intro pins s σ H x v vl vu lo hi sl Q I rx hs pl pu h
 obtain ⟨a,xs,rfl,hx,q⟩:=h
 cases rx
 obtain ⟨its,r,ht,hz⟩:=I.list hx
 have hlen:=r.length
 refine ⟨"list",_,slot_list_getitem.lookup,ht.isList.typeIs,?_⟩
 refine wpAny_getItem_list_slice ht.isList hs pl pu .none (by simp) ?_ (by rw [List.size_toArray] <;> omega)
 rw [slicePick_cut,← hlen]
 refine ⟨.ref s.heap.objs.size,_,I.laid (t':=s.toks) (o:=.lst (cutV xs lo hi)) (fun b ob q=>Heap.get?_push_of_some _ q) (Nat.le_refl _) ?_,rfl,q _ (I.hok.fresh (Nat.le_refl _))⟩
 exact ⟨Nat.le_trans (cutV_length xs lo hi) hz,_,0,(r.drop (HT.sIx xs.length 0 lo)).take (HT.sIx xs.length xs.length hi - HT.sIx xs.length 0 lo),Heap.get?_push_size _ rfl⟩
def flatV:V→Bool
 | .non=>true
 | .bl _=>true
 | .int _=>true
 | .str _=>true
 | _=>false
def eqV:V→V→Bool
 | .non,.non=>true
 | .bl a,.bl b=>a == b
 | .bl a,.int b=>(if a then 1 else 0) == b
 | .int a,.bl b=>a == (if b then 1 else 0)
 | .int a,.int b=>a == b
 | .str a,.str b=>a == b
 | _,_=>false
theorem eqAt_V {A:Around} {s:Shared} {y x:V} {u v:Value} (ry:RelV y u) (rx:RelV x v) (fy:flatV y=true) (fx:flatV x=true):SeqAt.EqAt A s u v (eqV y x):=by
 cases y with
 | non =>
  cases ry
  cases x with
  | non=>cases rx;exact SeqAt.EqAt.same _
  | bl b=>cases rx;exact SeqAt.EqAt.none_bool b
  | int b=>obtain ⟨t,rfl⟩:=rx;exact SeqAt.EqAt.none_int b t
  | str b=>obtain ⟨t,rfl⟩:=rx;exact SeqAt.EqAt.none_str b t
  | _=>exact absurd (show false=true from fx) Bool.false_ne_true
 | bl a =>
  cases ry
  cases x with
  | non=>cases rx;exact SeqAt.EqAt.bool_none a
  | bl b=>cases rx;exact SeqAt.EqAt.bool_bool a b
  | int b=>obtain ⟨t,rfl⟩:=rx;exact SeqAt.EqAt.bool_int a b t
  | str b=>obtain ⟨t,rfl⟩:=rx;exact SeqAt.EqAt.bool_str a b t
  | _=>exact absurd (show false=true from fx) Bool.false_ne_true
 | int a =>
  obtain ⟨t',rfl⟩:=ry
  cases x with
  | non=>cases rx;exact SeqAt.EqAt.int_none a t'
  | bl b=>cases rx;exact SeqAt.EqAt.int_bool a t' b
  | int b=>obtain ⟨t,rfl⟩:=rx;exact SeqAt.EqAt.int_int a t' b t
  | str b=>obtain ⟨t,rfl⟩:=rx;exact SeqAt.EqAt.int_str a t' b t
  | _=>exact absurd (show false=true from fx) Bool.false_ne_true
 | str a =>
  obtain ⟨t',rfl⟩:=ry
  cases x with
  | non=>cases rx;exact SeqAt.EqAt.str_none a t'
  | bl b=>cases rx;exact SeqAt.EqAt.str_bool a t' b
  | int b=>obtain ⟨t,rfl⟩:=rx;exact SeqAt.EqAt.str_int a t' b t
  | str b=>obtain ⟨t,rfl⟩:=rx;exact SeqAt.EqAt.str_str a t' b t
  | _=>exact absurd (show false=true from fx) Bool.false_ne_true
 | _=>exact absurd (show false=true from fy) Bool.false_ne_true
def eqU (x:V) (u:Value):Bool:=match u with
 | .none=>eqV .non x
 | .bool b=>eqV (.bl b) x
 | .int i _=>eqV (.int i) x
 | .str z _=>eqV (.str z) x
 | _=>false
theorem eqU_of {x y:V} {u:Value} (r:RelV y u) (f:flatV y=true):eqU x u=eqV y x:=by
 cases y with
 | non=>cases r;rfl
 | bl b=>cases r;rfl
 | int i=>obtain ⟨t,rfl⟩:=r;rfl
 | str z=>obtain ⟨t,rfl⟩:=r;rfl
 | _=>exact absurd (show false=true from f) Bool.false_ne_true
theorem any_eqU {x:V}:∀ {xs:List V} {us:List Value},Vals xs us→xs.all flatV=true→us.any (eqU x)=xs.any fun y=>eqV y x
 | _,_,.nil,_=>rfl
 | y :: xs,u :: us,.cons r t,f=>by
  rw [List.all_cons,Bool.and_eq_true] at f
  rw [List.any_cons,List.any_cons,eqU_of r f.1,any_eqU t f.2]
theorem mem_eqAt {A:Around} {s:Shared} {x:V} {v:Value} (rx:RelV x v) (fx:flatV x=true):∀ {xs:List V} {us:List Value},Vals xs us→xs.all flatV=true→∀ u ∈ us,SeqAt.EqAt A s u v (eqU x u)
 | _,_,.nil,_=>fun u hu=>by cases hu
 | y :: xs,u :: us,.cons r t,f=>fun u' hu=>by
  rw [List.all_cons,Bool.and_eq_true] at f
  rcases List.mem_cons.mp hu with rfl | hu
  ·rw [eqU_of r f.1];exact eqAt_V r rx f.1 fx
  ·exact mem_eqAt rx fx t f.2 u' hu
def inV (x:V) (xs:List V):Bool:=xs.any fun y=>eqV y x
def rIn (K:PySem.W.Frag) (neg:Bool):R2:=fun x y H Q=>∃ p xs,y=.ref p∧(SqL K H p xs∨SqT K H p xs)∧flatV x=true∧xs.all flatV=true∧Q (.bl (if neg then !inV x xs else inV x xs)) H
theorem op_in_seq:OpR X (compareOp .In) (rIn X.K false):=by
 intro pins s σ H x y v u Q I rx ry h
 obtain ⟨p,xs,rfl,hq,fx,fs,q⟩:=h
 cases ry
 rcases hq with hq | hq
 ·obtain ⟨its,r,pl,hz⟩:=I.list hq
  refine SeqAt.in_listAt (eqU x) pl.isList (fun w hw=>mem_eqAt rx fx r fs w (by simpa using hw)) ⟨.bl _,H,I,rfl,?_⟩
  rw [show its.toArray.any (eqU x)=its.any (eqU x) by simp,any_eqU r fs]
  exact q
 ·obtain ⟨its,r,pl,hz⟩:=I.tuple hq
  refine SeqAt.in_tupleAt (eqU x) pl (fun w hw=>mem_eqAt rx fx r fs w (by simpa using hw)) ⟨.bl _,H,I,rfl,?_⟩
  rw [show its.toArray.any (eqU x)=its.any (eqU x) by simp,any_eqU r fs]
  exact q
theorem call_len_seq:CallR X (.builtin "len") (fun xs H Q=>∃ p ys,xs=[.ref p]∧(SqL X.K H p ys∨SqT X.K H p ys)∧Q (.int ys.length) H):=by
 intro pins s σ H xs us Q I r h
 obtain ⟨p,ys,rfl,hq,q⟩:=h
 obtain ⟨u,rfl,rx⟩:=vals1 r
 cases rx
 have hn:=line63
 rcases hq with hq | hq
 ·obtain ⟨its,r',pl,hz⟩:=I.list hq
  have hlen:=r'.length
  exact Calls.call_len_list pl.isList (by simp only [List.size_toArray] <;> omega) ⟨.int ys.length,H,I.tok _,⟨s.toks+1,by rw [List.size_toArray,hlen]⟩,q⟩
 ·obtain ⟨its,r',pl,hz⟩:=I.tuple hq
  have hlen:=r'.length
  exact len_tuple pl (by simp only [List.size_toArray] <;> omega) ⟨.int ys.length,H,I.tok _,⟨s.toks+1,by rw [List.size_toArray,hlen]⟩,q⟩
theorem CallR.or {f:Value} {r r':List V→Hp→VK→Prop} (h:CallR X f r) (h':CallR X f r'):CallR X f (fun xs H Q=>r xs H Q∨r' xs H Q):=by
 intro pins s σ H xs us Q I rs q
 rcases q with q | q
 ·exact h pins s σ H xs us Q I rs q
 ·exact h' pins s σ H xs us Q I rs q
theorem call_list_of:CallR X (.type "list") (fun xs H Q=>∃ p ys,xs=[.ref p]∧(SqL X.K H p ys∨SqT X.K H p ys)∧∀ l,H l=none→Q (.ref l) (upd H l (.lst ys))):=by
 intro pins s σ H xs us Q I r h
 obtain ⟨p,ys,rfl,hq,q⟩:=h
 obtain ⟨u,rfl,rx⟩:=vals1 r
 cases rx
 have fin:∀ (its:List Value),Vals ys its→ys.length≤sizeLine→∀ (h':Heap) (c':Nat),(∀ b o',s.heap.get? b=some o'→h'.get? b=some o') →
   h'.get? s.heap.objs.size=some { cls:=.type "list",dict:=none,data:=.seq its.toArray c',slots:=#[] }→EP X pins σ Q (.ref s.heap.objs.size) { s with heap:=h' }:=fun its r' hz h' c' kp e =>
  ⟨.ref s.heap.objs.size,_,I.laid (t':=s.toks) kp (Nat.le_refl _) (show ObjOk X.prog X.w _ h' _ (.lst ys) from ⟨hz,its,c',r',e⟩),rfl,q _ (I.hok.fresh (Nat.le_refl _))⟩
 rcases hq with hq | hq
 ·obtain ⟨its,r',pl,hz⟩:=I.list hq
  have hlen:=r'.length
  obtain ⟨o,ho,hc,n,hd⟩:=pl.isList
  exact call_list_seq p (.inl rfl) ho hc hd (fun h' c' kp e=>fin its r' hz h' c' kp e) (by simp only [List.size_toArray] <;> omega)
 ·obtain ⟨its,r',pl,hz⟩:=I.tuple hq
  have hlen:=r'.length
  obtain ⟨o,ho,hc,n,hd⟩:=pl
  exact call_list_seq p (.inr rfl) ho hc hd (fun h' c' kp e=>fin its r' hz h' c' kp e) (by simp only [List.size_toArray] <;> omega)
theorem call_tuple_of:CallR X (.type "tuple") (fun xs H Q=>∃ p ys,xs=[.ref p]∧((SqL X.K H p ys∧∀ l,H l=none→Q (.ref l) (upd H l (.tup ys)))∨(SqT X.K H p ys∧Q (.ref p) H))):=by
 intro pins s σ H xs us Q I r h
 obtain ⟨p,ys,rfl,h⟩:=h
 obtain ⟨u,rfl,rx⟩:=vals1 r
 cases rx
 rcases h with ⟨hq,q⟩ | ⟨hq,q⟩
 ·obtain ⟨its,r',pl,hz⟩:=I.list hq
  have hlen:=r'.length
  refine call_tuple_list pl.isList (fun h' kp=>?_) (by simp only [List.size_toArray] <;> omega)
  have I1:Inv X pins σ H { s with heap:=h' }:=I.kept (t':=s.toks) kp
  have I2:Inv X pins σ (upd H h'.objs.size (.tup ys)) { s with heap:=h'.push { cls:=.type "tuple",data:=.seq its.toArray } } :=
   I1.laid (t':=s.toks) (fun b o e=>Heap.get?_push_of_some _ e) (Nat.le_refl _) (show ObjOk X.prog X.w _ _ _ (.tup ys) from ⟨hz,its,r',IsTup.new _ _⟩)
  exact ⟨.ref h'.objs.size,_,I2,rfl,q _ (I1.hok.fresh (Nat.le_refl _))⟩
 ·obtain ⟨its,r',pl,hz⟩:=I.tuple hq
  exact call_tuple_same pl ⟨.ref p,H,I,rfl,q⟩
def tyV (K:PySem.W.Frag) (T:String) (x:V) (H:Hp):Prop:=match x with
 | .str _=>T="str"
 | .int _=>T="int"
 | .ref p=>(T="list"∧∃ xs,SqL K H p xs)∨(T="tuple"∧∃ o,K.lookup p=some o∧o.cls=.type "tuple"∧o.dict=none) ∨
   (T="dict"∧((∃ kvs,H p=some (.dK kvs))∨∃ kvs,H p=some (.dT kvs)))∨(T="set"∧∃ S n,H p=some (.set S n))
 | _=>False
theorem tyV_is {pins:List (Addr × Obj)} {σ:St} {H:Hp} {s:Shared} {T:String} {x:V} {v:Value} (I:Inv X pins σ H s) (r:RelV x v) (ty:tyV X.K T x H) :
  s.TypeIs v T∧∀ a,v=.ref a→∃ ob,s.heap.get? a=some ob∧ob.dict=none:=by
 cases x with
 | str z =>
  obtain ⟨t,rfl⟩:=r
  cases (show T="str" from ty)
  exact ⟨typeIs_str s z t,fun _ e=>nomatch e⟩
 | int i =>
  obtain ⟨t,rfl⟩:=r
  cases (show T="int" from ty)
  exact ⟨typeIs_int s i t,fun _ e=>nomatch e⟩
 | ref p =>
  cases r
  rcases ty with ⟨rfl,xs,hq⟩ | ⟨rfl,o,hk,hc,hd⟩ | ⟨rfl,hk⟩ | ⟨rfl,S,n,hk⟩
  ·obtain ⟨its,_,pl,_⟩:=I.list hq
   refine ⟨pl.isList.typeIs,fun a e=>?_⟩
   cases e
   obtain ⟨o,n,e,c,hd,_⟩:=pl
   exact ⟨o,e,hd⟩
  ·refine ⟨⟨o,I.kIn p o hk,hc⟩,fun a e=>?_⟩
   cases e
   exact ⟨o,I.kIn _ o hk,hd⟩
  ·have z:∃ o,s.heap.get? p=some o∧o.ExactDict:=by
    rcases hk with ⟨kvs,hk⟩ | ⟨kvs,hk⟩
    ·obtain ⟨_,_,_,_,o,_,_,e,ex,_⟩:=I.hok p _ hk
     exact ⟨o,e,ex⟩
    ·obtain ⟨_,_,_,_,o,_,_,e,ex,_⟩:=I.hok p _ hk
     exact ⟨o,e,ex⟩
   obtain ⟨o,e,ex⟩:=z
   refine ⟨⟨o,e,ex.1⟩,fun a e2=>?_⟩
   cases e2
   exact ⟨o,e,ex.2.1⟩
  ·obtain ⟨o,_,_,_,e,ex,_⟩:=I.hok p _ hk
   refine ⟨⟨o,e,ex.1⟩,fun a e2=>?_⟩
   cases e2
   exact ⟨o,e,ex.2.1⟩
 | _=>exact False.elim ty
def tBM (K:PySem.W.Frag) (T:String) (r:V→List V→Hp→VK→Prop) (to:TE) (t:TA):TE:=fun σ H Q=>to σ H fun x H1=>tyV K T x H1∧t σ H1 fun xs H2=>r x xs H2 Q
variable {o e:Expr} {es:List Expr} {to:TE} {t:TA} {name:Str} {apos cpos:Pos} {T id:String} {r:V→List V→Hp→VK→Prop}
theorem pe_bm (pa:PlainAttrs T) (slot:Slot T name id) (hty:typeOf (.builtin id)=pure (.type "method_descriptor")) (hm:MtR X id r) (ho:PE X o to) (ha:PA X (e :: es) t)
  (hbase:attributeBase o name X.env (eval o X.env)=eval o X.env:=by rfl)
  (hfew:((backTo cpos (starEach (e :: es) X.env)).all (fun x=>!x.1) && (backToKw cpos (keywordEach [] X.env)).all (fun x=>x.1.isSome)
   && decide ((e :: es).length+([]:List Keyword).length+(if ([]:List Keyword).isEmpty then 0 else 1) < 30))=true:=by rfl)
  (hline:(apos.endLine == cpos.line)=true:=by rfl) (hs:starEach (e :: es) X.env=(false,eval e X.env) :: starEach es X.env:=by rfl) (hplain:(backTo cpos (starEach es X.env)).any (·.1)=false:=by rfl) :
  PE X (.Call (.Attribute o name apos) (e :: es) [] cpos) (tBM X.K T r to t):=by
 intro pins s σ H Q I h
 refine wpAny_Call_method_late hbase hfew hline rfl (thn (ho pins s σ H _ I h) fun v s1 ⟨x,H1,I1,r1,ty,q1⟩=>?_)
 obtain ⟨h1,h2⟩:=tyV_is I1 r1 ty
 refine ⟨T,id,pa,slot,hty,h1,h2,?_⟩
 have hA:=ha cpos pins s1 σ H1 _ I1 q1
 rw [hs] at hA ⊢
 refine Calls.callWith_builtin (by show (false || (backTo cpos (starEach es X.env)).any (·.1))=false;rw [hplain] <;> rfl) (Calls.evalArgs_plain ?_)
 exact thn hA fun us s2 ⟨vs,H2,I2,r2,q2⟩=>hm pins s2 σ H2 x vs v us Q I2 r1 r2 q2
end
end L2
namespace L2
open PySem PySem.Spec PyProof.Rows
def MtM (X:Cx) (id:String) (r:V→List V→Hp→VK→Prop):Prop :=
 ∀ (pins:List (Addr × Obj)) (s:Shared) (σ:St) (H:Hp) (x:V) (xs:List V) (v:Value) (us:List Value) (Q:VK),Inv X pins σ H s→RelV x v→Vals xs us→r x xs H Q →
  wpAny (model X.prog X.w) X.A (call (.builtin id) (v :: us)) (EP X pins σ Q) X.xe s
theorem Vals.one:∀ {x:V} {us:List Value},Vals [x] us→∃ u,us=[u]∧RelV x u
 | _,_,.cons r .nil=>⟨_,rfl,r⟩
theorem Vals.two:∀ {x y:V} {us:List Value},Vals [x,y] us→∃ u v,us=[u,v]∧RelV x u∧RelV y v
 | _,_,_,.cons r (.cons q .nil)=>⟨_,_,rfl,r,q⟩
theorem Vals.zero:∀ {us:List Value},Vals [] us→us=[]
 | _,.nil=>rfl
theorem Vals.eraseIdx:∀ {xs:List V} {us:List Value} (i:Nat),Vals xs us→Vals (xs.eraseIdx i) (us.eraseIdx i)
 | _,_,_,.nil=>.nil
 | _,_,0,.cons _ t=>t
 | _,_,i+1,.cons r t=>.cons r (Vals.eraseIdx i t)
theorem Vals.reverse {xs:List V} {us:List Value} (h:Vals xs us):Vals xs.reverse us.reverse:=by
 induction h with
 | nil=>exact .nil
 | cons r t ih=>rw [List.reverse_cons,List.reverse_cons];exact Vals.append ih (.cons r .nil)
theorem Vals.rep {xs:List V} {us:List Value} (h:Vals xs us):∀ k:Nat,Vals (List.replicate k xs).flatten (List.replicate k us).flatten
 | 0=>.nil
 | k+1=>by
  rw [List.replicate_succ,List.replicate_succ,List.flatten_cons,List.flatten_cons]
  exact Vals.append h (Vals.rep h k)
theorem len_erase {α:Type}:∀ (l:List α) (i:Nat),(l.eraseIdx i).length≤l.length
 | [],_=>Nat.le_refl _
 | _ :: _,0=>Nat.le_succ _
 | _ :: r,i+1=>Nat.succ_le_succ (len_erase r i)
theorem foldl_rep (its:List Value):∀ (k:Nat) (acc:List Value),
  List.foldl (fun x1 x2=>x1 ++ x2) acc.toArray (List.replicate k its.toArray)=(acc ++ (List.replicate k its).flatten).toArray
 | 0,acc=>by simp
 | k+1,acc=>by
  have e:acc.toArray ++ its.toArray=(acc ++ its).toArray:=by simp
  have e2:(acc ++ its) ++ (List.replicate k its).flatten=acc ++ (List.replicate (k+1) its).flatten:=by
   rw [List.replicate_succ,List.flatten_cons,List.append_assoc]
  rw [← e2,← foldl_rep its k (acc ++ its),← e,List.replicate_succ,List.foldl_cons]
section
variable {X:Cx} {pins:List (Addr × Obj)} {σ:St} {H:Hp} {s:Shared} {l b:Addr} {xs ys zs:List V}
theorem Inv.lset {its its':List Value} {n:Nat} {f:Array Value→Array Value} {t':Nat} (I:Inv X pins σ H s) (hH:H l=some (.lst xs))
  (e:s.heap.get? l=some { cls:=.type "list",data:=.seq its.toArray n }) (hf:f its.toArray=its'.toArray) (hv:Vals ys its') (hz:ys.length≤sizeLine) :
  Inv X pins σ (upd H l (.lst ys)) { s with heap:=s.heap.update l (Obj.mapSeq f),toks:=t' }:=by
 have q:=PySem.IsL.update e f
 rw [hf] at q
 refine I.write (x:=l) (e:=l) (by rw [hH];exact trivial) (.inl rfl) (fun b' u hb hu=>(Heap.get?_update_other s.heap (Obj.mapSeq f) (Ne.symm hb)).trans hu) ⟨_,q⟩ ?_
 exact ⟨hz,its',_,hv,q⟩
theorem Inv.lnew {its:List Value} {t':Nat} (I:Inv X pins σ H s) (hv:Vals ys its) (hz:ys.length≤sizeLine) :
  Inv X pins σ (upd H s.heap.objs.size (.lst ys)) { s with heap:=s.heap.push { cls:=.type "list",data:=.seq its.toArray },toks:=t' } :=
 I.laid (fun _ _ q=>Heap.get?_push_of_some _ q) (Nat.le_refl _) ⟨hz,its,0,hv,Heap.get?_push_size _ rfl⟩
theorem Inv.fresh (I:Inv X pins σ H s):H s.heap.objs.size=none:=I.hok.fresh (Nat.le_refl _)
theorem Inv.lstM (I:Inv X pins σ H s) (hH:H l=some (.lst xs)):xs.length≤sizeLine∧∃ (its:List Value) (n:Nat),Vals xs its∧xs.length=its.length∧s.heap.get? l=some { cls:=.type "list",data:=.seq its.toArray n }:=by
 obtain ⟨z,its,n,r,e⟩:=I.hok l _ hH
 exact ⟨z,its,n,r,r.length,e⟩
theorem notLongL {n:Nat} (h:n≤sizeLine):Builtin.List.listTooLong n=false:=by
 unfold Builtin.List.listTooLong
 exact decide_eq_false (by omega)
end
section
variable {X:Cx}
def rAppend:V→List V→Hp→VK→Prop:=fun x vs H Q=>∃ l xs y,x=.ref l∧vs=[y]∧H l=some (.lst xs)∧xs.length < sizeLine∧Q .non (upd H l (.lst (xs ++ [y])))
theorem mt_append:MtM X "list.append" rAppend:=by
 intro pins s σ H x vs v us Q I rx rv h
 obtain ⟨l,xs,y,rfl,rfl,hH,hz,q⟩:=h
 cases rx
 obtain ⟨u,rfl,ru⟩:=rv.one
 obtain ⟨z,its,n,r,hl,e⟩:=I.lstM hH
 refine call_meets F.slot_list_append ⟨_,e,rfl⟩ F.entry_list_append (F.args_list_append_2 _ _) (PySem.list_append l its.toArray n u (by rw [List.size_toArray];omega)) ⟨e,?_⟩
 refine ⟨.non,_,I.lset (its':=its ++ [u]) hH e (by simp) (r.append (.cons ru .nil)) ?_,rfl,q⟩
 rw [List.length_append,List.length_singleton]
 omega
def rPopAt:V→List V→Hp→VK→Prop:=fun x vs H Q=>∃ l xs i k y,x=.ref l∧vs=[.int i]∧H l=some (.lst xs)∧-(2 ^ 63)≤i∧i < 2 ^ 63∧seqIndex? i xs.length=some k∧xs[k]?=some y∧Q y (upd H l (.lst (xs.eraseIdx k)))
theorem mt_popAt:MtM X "list.pop" rPopAt:=by
 intro pins s σ H x vs v us Q I rx rv h
 obtain ⟨l,xs,i,k,y,rfl,rfl,hH,h1,h2,hk,hy,q⟩:=h
 cases rx
 obtain ⟨u,rfl,ru⟩:=rv.one
 obtain ⟨t,rfl⟩:=ru
 obtain ⟨z,its,n,r,hl,e⟩:=I.lstM hH
 obtain ⟨w,hw,rw'⟩:=r.get hy
 refine call_meets F.slot_list_pop ⟨_,e,rfl⟩ F.entry_list_pop (F.args_list_pop_2 _ _)
  (MeetsSeq.list_pop_at l its.toArray n i t k w (fitsIndex_both h1 h2) (by rw [List.size_toArray,← hl];exact hk) (by rw [← Array.getElem?_toList];exact hw) (by rw [List.size_toArray];omega)) ⟨e,?_⟩
 refine ⟨y,_,I.lset (its':=its.eraseIdx k) hH e ?_ (r.eraseIdx k) ?_,rw',q⟩
 ·show its.toArray.eraseIdxIfInBounds k=(its.eraseIdx k).toArray
  rw [List.eraseIdxIfInBounds_toArray]
 ·have:=len_erase xs k
  omega
def rRep:R2:=fun x y H Q=>∃ l k xs,x=.ref l∧y=.int k∧H l=some (.lst xs)∧-(2 ^ 63)≤k∧k < 2 ^ 63∧xs.length * k.toNat≤sizeLine ∧
 ∀ p,H p=none→Q (.ref p) (upd H p (.lst (List.replicate k.toNat xs).flatten))
theorem len_rep {α:Type} (xs:List α) (k:Nat):(List.replicate k xs).flatten.length=k * xs.length:=by
 induction k with
 | zero=>simp
 | succ k ih=>rw [List.replicate_succ,List.flatten_cons,List.length_append,ih,Nat.succ_mul,Nat.add_comm]
theorem op_rep:OpR X (binaryOp .Mult) rRep:=by
 intro pins s σ H x y v u Q I rx ry h
 obtain ⟨l,k,xs,rfl,rfl,hH,h1,h2,hz,q⟩:=h
 cases rx
 obtain ⟨t,rfl⟩:=ry
 obtain ⟨z,its,n,r,hl,e⟩:=I.lstM hH
 have hlen:its.toArray.size * k.toNat≤sizeLine:=by rw [List.size_toArray,← hl];exact hz
 have hcap:¬ its.toArray.size * k.toNat > (2 ^ 63 - 1) / 8:=by
  have:(sizeLine:Nat)≤(2 ^ 63 - 1) / 8:=by decide
  omega
 have hfit:¬ (!Builtin.List.listFitsIndex k)=true:=by
  rw [fitsIndex_both h1 h2]
  exact Bool.false_ne_true
 have hlong:¬ Builtin.List.listTooLong (its.toArray.size * k.toNat)=true:=by
  rw [notLongL hlen]
  exact Bool.false_ne_true
 have hnew:List.foldl (fun x1 x2=>x1 ++ x2) #[] (List.replicate (if its.toArray.isEmpty=true then 0 else k.toNat) its.toArray)=(List.replicate k.toNat its).flatten.toArray:=by
  have f0:∀ m:Nat,List.foldl (fun x1 x2=>x1 ++ x2) #[] (List.replicate m its.toArray)=(List.replicate m its).flatten.toArray:=fun m=>by
   have:=foldl_rep its m []
   rw [List.nil_append] at this
   exact this
  rw [f0]
  cases its with
  | nil=>simp
  | cons a r'=>rw [if_neg (by simp)]
 refine wpAny_binaryOp_repeat_ref (T:="list") (U:="int") (by decide) ⟨_,e,rfl⟩ (fun s'=>typeIs_int s' k t) noFill_list_mul F.fills_int_mul F.slot_int_rmul repeat_list F.slot_int_index.lookup
  (call_meets F.slot_int_rmul (typeIs_int s k t) F.entry_int_rmul (F.args_int_rmul_2 _ _) (int___rmul___int_list k t l its.toArray n)
   ⟨e,rfl,⟨_,e,rfl⟩,call_meets F.slot_list_mul ⟨_,e,rfl⟩ F.entry_list_mul (F.args_list_mul_2 _ _) (AutoListH.list___mul___list_int_3 l its.toArray n k t hfit hcap hlong) ⟨e,?_⟩⟩)
 rw [hnew]
 exact ⟨.ref _,_,I.lnew (t':=s.toks) (r.rep k.toNat) (by rw [len_rep,Nat.mul_comm];exact hz),rfl,q _ I.fresh⟩
end
section
variable {prog:Program} {w:World} {A:Around} {E:Value→Shared→Prop} {s:Shared}
end
section
variable {X:Cx}
end
end L2
namespace Att
open PySem PySem.W PySem.Calls PyProof.Rows
theorem ints_of_wellAll {P:Params} {h:Heap}:∀ (ns:List Int) (vs:List Value),WellAll P h vs (ns.map WData.int)→IntsAre vs ns:=by
 intro ns
 induction ns with
 | nil =>
  intro vs w
  rw [List.map_nil] at w
  cases w
  exact .nil
 | cons n ns ih =>
  intro vs w
  rw [List.map_cons] at w
  cases w with
  | cons a b =>
   cases a
   exact .cons _ _ (ih _ b)
theorem script_of {l:OpenLaw} {n:Nat} (hn:l.most=some n) {P:Params} {h:Heap} {args:List WData} {vals:List Value}
  (hpre:l.row.toRowW.claim.pre args=true) (hwl:WellAll P h vals args) :
  ∃ a vs ns,vals=[Value.ref a]∧args=[WData.list (ns.map WData.int)]∧h.get? a=some { cls:=.type "list",data:=.seq vs.toArray }∧IntsAre vs ns∧ns.length≤n:=by
 have hsh:WShape.hasAll [] args [.list .int]=true:=(pre_splitW hpre).1
 have hc:l.pre.holds [] { args:=args }=true:=(pre_splitW hpre).2
 obtain ⟨d,r,rfl,h1,h2⟩:=hasAllW_cons hsh
 obtain rfl:=hasAllW_nil h2
 obtain ⟨xs,rfl,h3⟩:=hasW_list h1
 obtain ⟨ns,rfl⟩:=items_int h3
 have hlen:ns.length≤n:=by
  unfold OpenLaw.pre at hc
  have h4:(WTm.not (.lt (.lit (.int (n:Int))) (.len (.arg 0)))).holds [] { args:=[.list (ns.map .int)] }=true:=by
   have h4:=(holds_andW hc).1
   rw [hn] at h4
   exact h4
  have h5:=condW_of h4 (w_not (w_lt w_lit (w_len_list (w_arg rfl))))
  rw [List.length_map] at h5
  refine Nat.le_of_not_lt fun q=>?_
  have q':(n:Int) < ((ns.length:Nat):Int):=by omega
  first
   | (rw [decide_eq_true q'] at h5;exact absurd h5 (by decide))
   | (simp at h5;omega)
 cases hwl with
 | cons w1 w2 =>
  cases w2
  cases w1 with
  | list ho hall=>exact ⟨_,_,ns,rfl,rfl,ho,ints_of_wellAll ns _ hall,hlen⟩
theorem post_true (l:OpenLaw) (args:List WData):l.row.toRowW.claim.post args (.bool true) args=true :=
 postW_of (r:=l.row.toRowW) (X:=(true == true))
  (show WShape.has [] (.bool true) .bool=true by first | rfl | decide | simp [WShape.has,WShape.arms,WShape.armsAll])
  (show (WTm.eq .res (.lit (.bool true))).value [] { args:=args,res:=some (.bool true),after:=args }=some (.bool (true == true)) from w_eq_bool (w_res rfl) w_lit) rfl
theorem attach_call {l:OpenLaw} {n:Nat} {q:Program} {loose:List Str} {XP:(Str→Option Value)→Heap→Prop} {YP:World→Heap→Prop} {d:DefRec}
  (hn:l.most=some n) (hdf:d.params.defaults=[])
  (call:∀ (w:World) (s₀ s₁:Shared) (mg mb:Str→Option Value) (fa:Addr) (o:Obj) (pm cd doc:Value) (a:Addr) (vs:List Value) (ns:List Int),
   Ground q loose [] XP w s₀ mg mb s₁.heap→YP w s₁.heap →
   s₁.heap.get? fa=some o→o.data=.func (docDef d.name d.params d.body d.scope pm cd doc)→s₁.heap.CodeRec cd d.name→mg d.name=some (.ref fa) →
   s₁.heap.get? a=some { cls:=.type "list",data:=.seq vs.toArray }→IntsAre vs ns→ns.length≤n→s₁.gens=#[] →
   codeAny (model l.prog w) callerA (.call (.ref fa) ⟨[.ref a],[]⟩) (fun r s'=>r=.ok (.ret (.bool true))∧OldK s₁.heap s'.heap∧s'.os=s₁.os∧AllBare s'.gens) s₁) :
  WalkO q loose XP YP l.row.toRowW d [] (fun f vs=>PySem.call f vs):=by
 intro w s₀ s₁ mg mb G Y fa o pm cd doc dV kV ho hd hcd hD hmg hg args vals as hpre hlay hrd hwl hlo
 obtain rfl:dV=.none:=Dflts.none hD hdf
 obtain rfl:kV=.none:=Dflts.noKw hD
 obtain ⟨a,vs,ns,rfl,rfl,hobj,hints,hlen⟩:=script_of hn hpre hwl
 refine enter_call (codeAny_mono (call w s₀ s₁ mg mb fa o pm cd doc a vs ns G Y ho (fd_plain hd) hcd hmg hobj hints hlen hg) fun r s' hq=>?_)
 obtain ⟨rfl,h2,h3,h4⟩:=hq
 exact ⟨.inl ⟨.bool true,.bool true,[],rfl,fun _=>rfl,.bool true,post_true l _,fun _=>⟨List.Pairwise.nil,fun _ hm=>(nomatch hm)⟩⟩,h2,h3,h4⟩
section
variable {prog:Program} {w:World} {A:Around} {E:Value→Shared→Prop} {s:Shared} {K:Frag}
end
end Att
namespace L2
open PySem PySem.Spec PyProof.Rows
theorem vals_ints:∀ {vs:List Value} {ns:List Int},IntsAre vs ns→Vals (ns.map V.int) vs
 | _,_,.nil=>.nil
 | _,_,.cons n t h=>.cons ⟨t,rfl⟩ (vals_ints h)
def Only (H:Hp):Prop:=∀ b,H b=none∨∃ o xs,H b=some (.frz o (.lst xs))
theorem law_call {P:Program} {w:World} {K:PySem.W.Frag} {mg mb:Str→Option Value} {CX:CXT} {k:Nat} {fa a:Addr} {fd:FuncData} {x:Str} {sp:Sp} {s₁:Shared} {vs:List Value} {ns:List Int}
  (KX:K.In s₁.heap) (hns:s₁.heap.Ns mainGlobals mg) (hb:s₁.heap.Ns builtinsNs mb) (hbb:∀ x:Str,x≠"__name__"→mb x=bootBuiltins x) (hlim:s₁.heap.NoLimit) (hg:s₁.gens=#[])
  (ha:s₁.heap.get? a=some { cls:=.type "list",data:=.seq vs.toArray }) (hi:IntsAre vs ns) (hl:ns.length≤sizeLine) (hr:Room k callerA)
  (F:∀ base:Heap,K.In base→base.Ns mainGlobals mg→FnOk P w K mg base CX k fa fd [x] sp) (hbind:∀ (s:Shared) (u:Value),BindsTo s fd ⟨[u],[]⟩ [(x,u)])
  (hsp:∀ H:Hp,Only H→SqL K H a (ns.map V.int)→sp [.ref a] H (fun v _=>v=.bl true) fun _ _ _=>False)
  (hCX:∀ H e s',CX [] H s₁ (fun _ _ _=>False) e s'→False) :
  codeAny (model P w) callerA (.call (.ref fa) ⟨[.ref a],[]⟩) (fun r s'=>r=.ok (.ret (.bool true))∧OldK s₁.heap s'.heap∧s'.os=s₁.os∧AllBare s'.gens) s₁:=by
 have rv:=vals_ints hi
 have lenV:=hi.length
 have core:∀ H:Hp,Only H→SqL K H a (ns.map V.int)→HOk P w H s₁.heap→(∀ b,H b≠none→b=a)→(H a≠none→K.lookup a=none) →
   codeAny (model P w) callerA (.call (.ref fa) ⟨[.ref a],[]⟩) (fun r s'=>r=.ok (.ret (.bool true))∧OldK s₁.heap s'.heap∧s'.os=s₁.os∧AllBare s'.gens) s₁:=by
  intro H hO hS hok hA hK
  have base_of:∀ {b:Addr} {o:Obj},s₁.heap.get? b=some o→H b=none→(hidT s₁.heap H).get? b=some o:=fun e n=>hidT_get e n
  have noA:∀ {b:Addr} {o:Obj} {es:Array DictEntry} {ep:Nat},s₁.heap.get? b=some o→o.data=.dict es ep→H b=none:=fun {b o es ep} e d=>by
   cases q:H b with
   | none=>rfl
   | some u =>
    have e':b=a:=hA b (by rw [q];simp)
    subst e'
    rw [ha] at e;cases e
    have d':Data.seq vs.toArray _=Data.dict es ep:=d
    cases d'
  have nsK:∀ {b:Addr} {m:Str→Option Value},s₁.heap.Ns b m→(hidT s₁.heap H).Ns b m:=fun {b m} ⟨o,es,ep,e,d,r⟩=>⟨o,es,ep,base_of e (noA e d),d,r⟩
  have hKb:K.In (hidT s₁.heap H):=fun b o e=>base_of (KX b o e) (by
   cases q:H b with
   | none=>rfl
   | some u =>
    have e':b=a:=hA b (by rw [q];simp)
    subst e'
    rw [hK (by rw [q];simp)] at e;cases e)
  have hM:Mod K mg (hidT s₁.heap H):=⟨hKb,nsK hns,⟨mb,nsK hb,hbb⟩,let ⟨mc,h1,h2⟩:=hlim;⟨mc,nsK h1,h2⟩⟩
  have e0:Env0 P w K mg (hidT s₁.heap H) callerA [] s₁ H:=⟨rfl,hM,fun b o e=>of_hidT e,Nat.le_of_eq (hidT_size _ _),trivial,fun b hb=>absurd (show b ∈ ([]:List Addr) from hb) (by simp),hok,.of_eq hg⟩
  refine codeAny_mono ((F _ hKb (nsK hns)).run callerA [] s₁ H ⟨[.ref a],[]⟩ [.ref a] [.ref a] _ _ hr e0 (hbind s₁ (.ref a)) (.cons rfl .nil) (hsp H hO hS)) fun r s' h=>?_
  cases r with
  | error e=>exact (hCX H e s' h).elim
  | ok fl =>
   cases fl with
   | next=>exact False.elim h
   | brk=>exact False.elim h
   | cont=>exact False.elim h
   | ret u =>
    obtain ⟨v,H',os,bare,un,hok',r',q⟩:=h
    have q':v=.bl true:=q
    subst q'
    obtain rfl:u=Value.bool true:=r'
    refine ⟨rfl,OldK.of_keep fun b o e=>?_,os,bare⟩
    cases q:H b with
    | none=>exact un.keep b o e q (by intro z;exact absurd (show b ∈ ([]:List Addr) from z) (by simp)) (by simp)
    | some u =>
     rcases hO b with z | ⟨ob,xs,z⟩
     ·rw [q] at z;cases z
     ·have z2:=un.frzs b ob _ z
      obtain ⟨e1,_⟩:=hok b _ z
      obtain ⟨e2,_⟩:=hok' b _ z2
      rw [e] at e1;cases e1
      exact e2
 cases hk:K.lookup a with
 | some o =>
  have e:=KX a o hk
  rw [ha] at e
  cases e
  refine core (fun _=>none) (fun _=>.inl rfl) (.inr ⟨_,vs.toArray,_,hk,rfl,rfl,rfl,by rw [List.size_toArray,lenV];exact hl,by simpa using rv⟩) (fun b u z=>by have z':(none:Option HO)=some u:=z;cases z') (fun b z=>absurd rfl z) fun z=>absurd rfl z
 | none =>
  refine core (fun b=>if b=a then some (.frz { cls:=.type "list",data:=.seq vs.toArray } (.lst (ns.map V.int))) else none) (fun b=>?_) (.inl (.inr ⟨{ cls:=.type "list",data:=.seq vs.toArray },if_pos rfl⟩)) (fun b u z=>?_) (fun b z=>?_) fun _=>hk
  ·by_cases hb:b=a
   ·exact .inr ⟨_,_,if_pos hb⟩
   ·exact .inl (if_neg hb)
  ·by_cases hb:b=a
   ·have z':=(if_pos hb).symm.trans z
    cases z'
    subst hb
    exact ⟨ha,by rw [List.length_map];exact hl,vs,_,rv,ha⟩
   ·have z':=(if_neg hb).symm.trans z
    cases z'
  ·by_cases hb:b=a
   ·exact hb
   ·exact absurd (if_neg hb) z
end L2
namespace L2
open PySem PySem.Spec PyProof.Rows
abbrev KOf {K:PySem.W.Frag} {h:Heap} (_:K.In h):PySem.W.Frag:=K
theorem walk_of {l:PySem.W.OpenLaw} {n k:Nat} {q:Program} {loose:List Str} {XP:(Str→Option Value)→Heap→Prop} {YP:World→Heap→Prop} {d:DefRec} {K:Params→PySem.W.Frag} {CX:World→CXT} {sp:World→Sp} {x:Str}
  (hn:l.most=some n) (hn2:n≤sizeLine) (hdf:d.params.defaults=[]) (hr:Room k callerA)
  (hY:∀ (w:World) (h:Heap),YP w h→(K w.params).In h)
  (F:∀ (w:World) (mg:Str→Option Value) (fa:Addr) (h:Heap),(K w.params).In h→h.Ns mainGlobals mg→mg d.name=some (.ref fa) →
   ∃ fd:FuncData,(∀ (s:Shared) (u:Value),BindsTo s fd ⟨[u],[]⟩ [(x,u)]) ∧
    ∀ base:Heap,(K w.params).In base→base.Ns mainGlobals mg→FnOk l.prog w (K w.params) mg base (CX w) k fa fd [x] (sp w))
  (hsp:∀ (w:World) (H:Hp) (a:Addr) (ns:List Int),ns.length≤n→Only H→SqL (K w.params) H a (ns.map V.int)→sp w [.ref a] H (fun v _=>v=.bl true) fun _ _ _=>False)
  (hCX:∀ (w:World) (H:Hp) (s:Shared) (e:Value) (s':Shared),CX w [] H s (fun _ _ _=>False) e s'→False) :
  PySem.W.WalkO q loose XP YP l.row.toRowW d [] (fun f vs=>PySem.call f vs):=by
 refine Att.attach_call hn hdf fun w s₀ s₁ mg mb fa o pm cd doc a vs ns G Y ho hd hcd hmg hobj hints hlen hg=>?_
 have KX:=hY w _ Y
 obtain ⟨fd,hb,hF⟩:=F w mg fa _ KX G.T.g hmg
 exact law_call KX G.T.g G.T.b G.T.builtins G.T.nolimit hg hobj hints (Nat.le_trans hlen hn2) hr hF hb (fun H hO hS=>hsp w H a ns hlen hO hS) fun H e s'=>hCX w H s₁ e s'
end L2
namespace L2
open PySem PySem.Spec PyProof.Rows
def defArgs (s:Stmt):Arguments:=match s with
 | .FunctionDef _ a _ _ _ _ _ _ _ _=>a
 | _=>{ posonlyargs:=[],args:=[],vararg:=none,kwonlyargs:=[],kw_defaults:=[],kwarg:=none,defaults:=[] }
def defBody (s:Stmt):List Stmt:=match s with
 | .FunctionDef _ _ b _ _ _ _ _ _ _=>b
 | _=>[]
def defScope (s:Stmt):Scope:=match s with
 | .FunctionDef _ _ _ _ _ _ sc _ _ _=>sc
 | _=>{ kind:=.function,names:=[],isGenerator:=false,isCoroutine:=false }
abbrev CX0:CXT:=fun _ _ _ _ _ _=>False
abbrev E0:XK:=fun _ _ _=>False
structure Fun (K:PySem.W.Frag) (x qual:Str) (st:Stmt) (f:Addr) (fd:FuncData):Prop where
 ex:∃ (oc:Value) (od:Option Addr) (kV doc pm:Value) (an:Option Addr) (cdv ct:Value) (osl:Array (Option Value)),
  fd=PySem.W.fnOf x qual (defArgs st) (defBody st) (defScope st) .none kV doc pm an cdv ct∧K.lookup f=some ⟨oc,od,.func fd,osl⟩∧PySem.W.codeIn K cdv qual=true
 kp:PySem.W.keepIn K (.ref f)=true
section
variable {P:Program} {w:World} {K:PySem.W.Frag} {mg:Str→Option Value} {base:Heap}
theorem Fun.ok {x qual:Str} {st:Stmt} {f:Addr} {fd:FuncData} {N ps:List Str} {k:Nat} {sp:Sp} (F:Fun K x qual st f fd) (S:FnScope N ps (defScope st)) (len:∀ vs H Q E,sp vs H Q E→vs.length=ps.length)
  (hbody:∀ (cdv:Value) (A:Around) (outer:List Env) (s:Shared) (H:Hp) (vs:List V) (Q:VK) (E:XK),Room k (A.deeper (envOfC qual (defScope st) s.heap.objs.size f cdv))→sp vs H Q E →
   ∃ t,PSs (cxOf CX0 P w K mg base N qual (defScope st) f cdv A outer s H E).nox (defBody st) t∧t { nx:=fun _ H'=>Q .non H',rt:=Q } (start N vs) H):FnOk P w K mg base CX0 (k+1) f fd ps sp:=by
 obtain ⟨oc,od,kV,doc,pm,an,cdv,ct,osl,rfl,lk,hcd⟩:=F.ex
 refine fn_of lk hcd S len fun A outer s H vs Q E hr hsp=>?_
 obtain ⟨t,h,q⟩:=hbody cdv A outer s H vs Q E hr hsp
 exact ⟨t,h.nox,q⟩
theorem Fun.binds {x qual:Str} {st:Stmt} {f:Addr} {fd:FuncData} {ps:List Str} (F:Fun K x qual st f fd)
  (h:∀ (kV doc pm:Value) (an:Option Addr) (cdv ct:Value) (us:List Value),us.length=ps.length→bindArgs (PySem.W.fnOf x qual (defArgs st) (defBody st) (defScope st) .none kV doc pm an cdv ct) ⟨us,[]⟩=pure (ps.zip us)):Binds K fd ps []:=by
 obtain ⟨oc,od,kV,doc,pm,an,cdv,ct,osl,rfl,lk,hcd⟩:=F.ex
 exact .all (h kV doc pm an cdv ct)
theorem fun_mk {x qual:Str} {st:Stmt} {f:Addr} {oc:Value} {od an:Option Addr} {osl:Array (Option Value)} {kV doc pm cdv ct:Value} (l:K.lookup f=some ⟨oc,od,.func (PySem.W.fnOf x qual (defArgs st) (defBody st) (defScope st) .none kV doc pm an cdv ct),osl⟩)
  (c:PySem.W.codeIn K cdv qual=true) (k:PySem.W.keepIn K (.ref f)=true):Fun K x qual st f (PySem.W.fnOf x qual (defArgs st) (defBody st) (defScope st) .none kV doc pm an cdv ct):=⟨⟨oc,od,kV,doc,pm,an,cdv,ct,osl,rfl,l,c⟩,k⟩
end
section
variable {X:Cx}
theorem pv (i:Nat) {x:Str} {pos:Pos} (hN:X.N[i]?=some x:=by rfl) (hv:Vis X.env.scope x:=by first | exact Or.inl rfl | exact Or.inr (Or.inl rfl) | exact Or.inr (Or.inr rfl)) (hd:(x == ("__debug__":Str))=false:=by decide)
  (hcd:(x == ("__classdict__":Str))=false:=by decide):PE X (.Name x pos) (tVar i):=pe_var hN hv hd hcd
end
theorem iteF {A B:Prop} (h:B):if false=true then A else B:=by
 rw [if_neg Bool.false_ne_true]
 exact h
theorem iteT {A B:Prop} (h:A):if true=true then A else B:=by
 rw [if_pos rfl]
 exact h
theorem ite2 {c A B:Prop} [Decidable c] (h1:c→A) (h2:¬ c→B):if c then A else B:=by
 by_cases h:c
 ·rw [if_pos h]
  exact h1 h
 ·rw [if_neg h]
  exact h2 h
def Same (H H':Hp):Prop:=∀ b o,H b=some o→H' b=some o
theorem Same.refl (H:Hp):Same H H:=fun _ _ h=>h
theorem Same.trans {H H1 H2:Hp} (a:Same H H1) (b:Same H1 H2):Same H H2:=fun c o h=>b c o (a c o h)
theorem Same.free {H H':Hp} (e:Same H H') {l:Addr} (h:H' l=Option.none):H l=Option.none:=by
 cases q:H l with
 | none=>rfl
 | some o =>
  rw [e l o q] at h
  cases h
theorem Same.seq {K:PySem.W.Frag} {H H':Hp} {a:Addr} {xs:List V} (e:Same H H') (h:SqL K H a xs):SqL K H' a xs:=by
 rcases h with (h | ⟨o,h⟩) | h
 ·exact .inl (.inl (e _ _ h))
 ·exact .inl (.inr ⟨o,e _ _ h⟩)
 ·exact .inr h
end L2
namespace L2
open PySem PySem.Spec PyProof.Rows
def clFrom (env:Env):List (Str × NameKind)→List (Str × Addr)→List (Str × Addr)
 | [],acc=>acc
 | (n,k) :: r,acc=>if k == .free then clFrom env r ((n,(env.cells.lookup n).getD 0) :: acc) else clFrom env r acc
theorem closure_eq {env:Env}:∀ (names:List (Str × NameKind)) (acc:List (Str × Addr)) (f:Str × NameKind→List (Str × Addr)→Sem (ForInStep (List (Str × Addr)))),
  (∀ n k cs,f (n,k) cs=if k == .free then (do let c ← cellOf env n;pure (.yield ((n,c) :: cs))) else pure (.yield cs)) →
  (∀ x ∈ names,x.2=.free→∃ c,env.cells.lookup x.1=some c)→(forIn names acc f:Sem _)=pure (clFrom env names acc)
 | [],acc,f,_,_=>rfl
 | (n,k) :: r,acc,f,hf,h=>by
  rw [List.forIn_cons,hf]
  unfold clFrom
  by_cases hk:(k == .free)=true
  ·rw [if_pos hk,if_pos hk]
   obtain ⟨c,e⟩:=h (n,k) List.mem_cons_self (beq_iff_eq.mp hk)
   have e':env.cells.lookup n=some c:=e
   unfold cellOf
   rw [e']
   show (forIn r ((n,c) :: acc) f:Sem _)=_
   exact closure_eq r _ f hf fun x hx=>h x (List.mem_cons_of_mem _ hx)
  ·rw [if_neg hk,if_neg hk]
   show (forIn r acc f:Sem _)=_
   exact closure_eq r _ f hf fun x hx=>h x (List.mem_cons_of_mem _ hx)
theorem closure_of {env:Env} {scope:Scope} (h:∀ x ∈ scope.names,x.2=.free→∃ c,env.cells.lookup x.1=some c):closureFor scope env=pure (clFrom env scope.names []):=by
 unfold closureFor
 have e:=closure_eq scope.names [] (fun x cs=>if x.2 == .free then (do let c ← cellOf env x.1;pure (.yield ((x.1,c) :: cs))) else pure (.yield cs)) (fun _ _ _=>rfl) h
 show (forIn scope.names [] _ >>= fun cs=>pure cs)=_
 exact (bind_pure_comp_id e)
where
 bind_pure_comp_id {α:Type} {a:α} {t:Sem α} (e:t=pure a):(t >>= fun x=>pure x)=pure a:=by rw [e];rfl
theorem clFrom_look {env:Env} {x:Str} {c:Addr}:∀ (names:List (Str × NameKind)) (acc:List (Str × Addr)),(∀ y ∈ names,y.2=.free→∃ c,env.cells.lookup y.1=some c) →
  (∀ c,acc.lookup x=some c→env.cells.lookup x=some c)→(clFrom env names acc).lookup x=some c→env.cells.lookup x=some c
 | [],acc,_,ha,h=>ha c h
 | (n,k) :: r,acc,hn,ha,h=>by
  unfold clFrom at h
  have hr:∀ y ∈ r,y.2=.free→∃ c,env.cells.lookup y.1=some c:=fun y hy=>hn y (List.mem_cons_of_mem _ hy)
  by_cases hk:(k == .free)=true
  ·rw [if_pos hk] at h
   obtain ⟨c',e⟩:=hn (n,k) List.mem_cons_self (beq_iff_eq.mp hk)
   have e':env.cells.lookup n=some c':=e
   rw [e'] at h
   refine clFrom_look r _ hr (fun c2 q=>?_) h
   rw [List.lookup_cons] at q
   cases hb:x == n with
   | true=>rw [hb] at q;cases q;rw [beq_iff_eq.mp hb];exact e'
   | false=>rw [hb] at q;exact ha c2 q
  ·rw [if_neg hk] at h
   exact clFrom_look r _ hr ha h
theorem clFrom_has {env:Env} {x:Str}:∀ (names:List (Str × NameKind)) (acc:List (Str × Addr)),((x,NameKind.free) ∈ names∨∃ c,acc.lookup x=some c)→∃ c,(clFrom env names acc).lookup x=some c
 | [],acc,h=>h.elim (fun z=>by cases z) id
 | (n,k) :: r,acc,h=>by
  unfold clFrom
  by_cases hk:(k == .free)=true
  ·rw [if_pos hk]
   refine clFrom_has r _ ?_
   cases hb:x == n with
   | true=>exact .inr ⟨_,by rw [List.lookup_cons,hb]⟩
   | false =>
    rcases h with h | ⟨c,h⟩
    ·rcases List.mem_cons.mp h with e | e
     ·injection e with e1 _
      rw [e1] at hb;simp at hb
     ·exact .inl e
    ·exact .inr ⟨c,by rw [List.lookup_cons,hb];exact h⟩
  ·rw [if_neg hk]
   refine clFrom_has r _ ?_
   rcases h with h | h
   ·rcases List.mem_cons.mp h with e | e
    ·injection e with _ e2
     rw [← e2] at hk;exact absurd rfl hk
    ·exact .inl e
   ·exact .inr h
theorem cells_look {x:Str} {c:Addr}:∀ (names:List (Str × NameKind)) (n:Nat) (acc:List (Str × Addr)),(cellsFrom n names acc).lookup x=some c→acc.lookup x=some c∨(n≤c∧(x,NameKind.cell) ∈ names)
 | [],_,_,h=>.inl h
 | (y,k) :: r,n,acc,h=>by
  unfold cellsFrom at h
  by_cases hk:(k == .cell)=true
  ·rw [if_pos hk] at h
   rcases cells_look r _ _ h with q | ⟨q1,q2⟩
   ·rw [List.lookup_cons] at q
    cases hb:x == y with
    | true=>rw [hb] at q;cases q;exact .inr ⟨Nat.le_refl _,by rw [beq_iff_eq.mp hb,beq_iff_eq.mp hk];exact List.mem_cons_self⟩
    | false=>rw [hb] at q;exact .inl q
   ·exact .inr ⟨by omega,List.mem_cons_of_mem _ q2⟩
  ·rw [if_neg hk] at h
   rcases cells_look r _ _ h with q | ⟨q1,q2⟩
   ·exact .inl q
   ·exact .inr ⟨q1,List.mem_cons_of_mem _ q2⟩
theorem cells_own {x:Str} {lo:Nat}:∀ (names:List (Str × NameKind)) (n:Nat) (acc:List (Str × Addr)),lo≤n→((x,NameKind.cell) ∈ names∨∃ c,acc.lookup x=some c∧lo≤c)→∃ c,(cellsFrom n names acc).lookup x=some c∧lo≤c
 | [],_,_,_,h=>h.elim (fun z=>by cases z) id
 | (y,k) :: r,n,acc,hn,h=>by
  unfold cellsFrom
  by_cases hk:(k == .cell)=true
  ·rw [if_pos hk]
   refine cells_own r _ _ (by omega) ?_
   cases hb:x == y with
   | true=>exact .inr ⟨n,by rw [List.lookup_cons,hb],hn⟩
   | false =>
    rcases h with h | ⟨c,h,hc⟩
    ·rcases List.mem_cons.mp h with e | e
     ·injection e with e1 _
      rw [e1] at hb;simp at hb
     ·exact .inl e
    ·exact .inr ⟨c,by rw [List.lookup_cons,hb];exact h,hc⟩
  ·rw [if_neg hk]
   refine cells_own r _ _ hn ?_
   rcases h with h | h
   ·rcases List.mem_cons.mp h with e | e
    ·injection e with _ e2
     rw [← e2] at hk;exact absurd rfl hk
    ·exact .inl e
   ·exact .inr h
theorem cells_keep {x:Str}:∀ (names:List (Str × NameKind)) (n:Nat) (acc:List (Str × Addr)),(x,NameKind.cell) ∉ names→(cellsFrom n names acc).lookup x=acc.lookup x
 | [],_,_,_=>rfl
 | (y,k) :: r,n,acc,h=>by
  unfold cellsFrom
  have hr:(x,NameKind.cell) ∉ r:=fun z=>h (List.mem_cons_of_mem _ z)
  by_cases hk:(k == .cell)=true
  ·rw [if_pos hk,cells_keep r _ _ hr,List.lookup_cons]
   cases hb:x == y with
   | true=>exact absurd (by rw [beq_iff_eq.mp hb,beq_iff_eq.mp hk];exact List.mem_cons_self) h
   | false=>rfl
  ·rw [if_neg hk];exact cells_keep r _ _ hr
theorem cells_inj:∀ (names:List (Str × NameKind)) (n:Nat) (acc:List (Str × Addr)),(∀ x c,acc.lookup x=some c→c < n)→(∀ x y c,acc.lookup x=some c→acc.lookup y=some c→x=y) →
  ∀ x y c,(cellsFrom n names acc).lookup x=some c→(cellsFrom n names acc).lookup y=some c→x=y
 | [],_,_,_,h=>h
 | (z,k) :: r,n,acc,hlt,h=>by
  unfold cellsFrom
  by_cases hk:(k == .cell)=true
  ·rw [if_pos hk]
   refine cells_inj r (n+1) _ (fun x c e=>?_) fun x y c e1 e2=>?_
   ·rw [List.lookup_cons] at e
    cases hb:x == z with
    | true=>rw [hb] at e;cases e;exact Nat.lt_succ_self _
    | false=>rw [hb] at e;exact Nat.lt_succ_of_lt (hlt x c e)
   ·rw [List.lookup_cons] at e1 e2
    cases hb:x == z with
    | true =>
     rw [hb] at e1;cases e1
     cases hb2:y == z with
     | true=>rw [beq_iff_eq.mp hb,beq_iff_eq.mp hb2]
     | false=>rw [hb2] at e2;exact absurd (hlt y _ e2) (Nat.lt_irrefl _)
    | false =>
     rw [hb] at e1
     cases hb2:y == z with
     | true=>rw [hb2] at e2;cases e2;exact absurd (hlt x _ e1) (Nat.lt_irrefl _)
     | false=>rw [hb2] at e2;exact h x y c e1 e2
  ·rw [if_neg hk];exact cells_inj r n _ hlt h
theorem push_cells_is {x:Str} {c:Addr}:∀ (names:List (Str × NameKind)) (h:Heap) (acc:List (Str × Addr)),(∀ y c,acc.lookup y=some c→∃ v,h.IsCell c v) →
  (cellsFrom h.objs.size names acc).lookup x=some c→∃ v,(pushCells h names).IsCell c v
 | [],h,acc,ha,e=>ha x c e
 | (y,k) :: r,h,acc,ha,e=>by
  unfold cellsFrom at e
  unfold pushCells
  by_cases hk:(k == .cell)=true
  ·rw [if_pos hk] at e ⊢
   rw [show h.objs.size+1=(h.push { cls:=.type "cell",data:=.cell none }).objs.size from (Heap.size_push ..).symm] at e
   refine push_cells_is r _ _ (fun z c' q=>?_) e
   rw [List.lookup_cons] at q
   cases hb:z == y with
   | true=>rw [hb] at q;cases q;exact ⟨none,_,Heap.get?_push_size _ rfl,rfl⟩
   | false =>
    rw [hb] at q
    obtain ⟨v,w⟩:=ha z c' q
    exact ⟨v,w.keeps fun b o e=>Heap.get?_push_of_some _ e⟩
  ·rw [if_neg hk] at e ⊢
   exact push_cells_is r _ _ ha e
section
variable {M:Model} {A:Around} {E:Value→Shared→Prop} {s:Shared}
theorem newEnv_comp {scope:Scope} {globals:Addr} {cl:List (Str × Addr)} {qual:Str} {env:Env} {Q:Env→Shared→Prop}
  (h:Q { scope,locals:=s.heap.objs.size,globals,cells:=cellsFrom (s.heap.objs.size+1) scope.names cl,qual,func:=none,code:=env.code,frame:=env.frame,builtins:=env.builtins }
   { s with heap:=pushCells (s.heap.push { cls:=.type "dict",data:=.dict #[] }) scope.names }) :
  wpAny M A (newFunctionEnv scope globals cl [] qual none .none (some env)) Q E s:=by
 simp only [newFunctionEnv,Option.isSome_some,if_true]
 refine wpAny_bind (wpAny_alloc ?_)
 refine wpAny_bind (wpAny_layCells _ (fun name kind cells=>by cases hkc:kind == NameKind.cell <;> simp [hkc]) _ _ _ _ ?_)
 rw [show ({ s with heap:=s.heap.push { cls:=.type "dict",data:=.dict #[] } }:Shared).heap.objs.size=s.heap.objs.size+1 from Heap.size_push ..]
 refine wpAny_bind ?_
 rw [List.forIn_nil]
 exact wpAny_pure (wpAny_pure h)
end
section
variable {prog:Program} {w:World} {A:Around} {R:Result→Shared→Prop} {s:Shared}
theorem compLoop_any {elt target iter:Expr} {ifs:List Expr} {scope:Scope} {pos:Pos} {it acc:Value} {env:Env} (I:Nat→Shared→Prop)
  (turn:∀ n s,I n s→wpAny (model prog w) A (pyNext it) (fun r s₁=>match r with
   | none=>R (.ok .next) s₁
   | some v=>wpAny (model prog w) A (letOwnedTupleGo target it v) (fun _ s₁'=>wpAny (model prog w) A (assign target env v) (fun _ s₂ =>
     wpAny (model prog w) A (forIn ifs true fun c r=>if r=true then do let ok ← isTrue c env (eval c env);pure (ForInStep.yield ok) else pure (ForInStep.yield r)) (fun ok s₃ =>
      if ok=true then wpAny (model prog w) A (eval elt env) (fun x s₄ =>
       wpAny (model prog w) A (call (.builtin "list.append") [acc,x]) (fun _ s₅=>∃ m,m < n∧I m s₅) (fun _ _=>False) s₄) (fun _ _=>False) s₃
      else ∃ m,m < n∧I m s₃) (fun _ _=>False) s₂) (fun _ _=>False) s₁') (fun _ _=>False) s₁) (fun _ _=>False) s)
  (n:Nat) (h:I n s) :
  codeAny (model prog w) A (.compLoop (.ListComp elt [⟨target,iter,ifs,0⟩] scope pos) 0 it acc env) R s:=by
 refine codeAny_loop rfl I (fun n s hI=>?_) n h
 show wpAny _ A ((compTurn (.ListComp elt [⟨target,iter,ifs,0⟩] scope pos) 0 it acc env).onRaise (fun x=>do noteFrame x env;theTreesLotGoes x)) _ _ s
 refine wpAny_noted ?_
 rw [compTurn_list]
 refine wpAny_bind (wpAny_standAt (wpAny_bind (wpAny_mono (turn n s hI) (fun r s₁ h₁=>?_) fun _ _ h'=>h'.elim)))
 cases r with
 | none=>exact wpAny_pure h₁
 | some v =>
  refine wpAny_bind (wpAny_mono h₁ (fun _ s₁' h₁'=>?_) fun _ _ h'=>h'.elim)
  refine wpAny_bind (wpAny_mono h₁' (fun _ s₂ h₂=>wpAny_bind (wpAny_mono h₂ (fun ok s₃ h₃=>?_) fun _ _ h'=>h'.elim)) fun _ _ h'=>h'.elim)
  cases ok with
  | false=>exact wpAny_pure ⟨rfl,h₃⟩
  | true =>
   exact wpAny_bind (wpAny_bind (wpAny_mono h₃ (fun x s₄ h₄=>wpAny_bind (wpAny_mono h₄ (fun _ s₅ h₅=>wpAny_pure (wpAny_pure ⟨rfl,h₅⟩)) fun _ _ h'=>h'.elim)) fun _ _ h'=>h'.elim))
end
end L2
namespace L2
open PySem PySem.Spec PyProof.Rows
def cxC (X:Cx) (Nc:List Str) (scope:Scope) (C:Addr) (fp:List Addr) (s:Shared) (H:Hp):Cx where
 prog:=X.prog
 w:=X.w
 K:=X.K
 mg:=X.mg
 base:=X.base
 A:=X.A
 N:=Nc
 s₀:=s
 H₀:=H
 env:=compEnvC scope (cellsFrom (C+1) scope.names (clFrom X.env scope.names [])) C X.env
 outer:=X.stack
 stack:=X.stack
 ex:=fp
 fn:=fun x=>scope.names.contains (x,NameKind.cell)
 calm:=X.calm
 pn:=[]
 xe:=fun _ _=>False
structure CompScope (X:Cx) (Nc:List Str) (ix:List (Option Nat)) (scope:Scope):Prop where
 kind:scope.kind=.function
 nd:Nc.Nodup
 len:ix.length=Nc.length
 loc:∀ x ∈ scope.names,x.2=.local→scope.names.lookup x.1=some .local
 free:∀ x ∈ scope.names,x.2=.free→X.env.kindOf x.1=some .cell∨X.env.kindOf x.1=some .free
 once:∀ x,(x,NameKind.free) ∈ scope.names→(x,NameKind.cell) ∉ scope.names
 out:∀ (i j:Nat) (x:Str),ix[i]?=some (some j)→Nc[i]?=some x→X.N[j]?=some x∧scope.names.lookup x=some .free
def startC (ix:List (Option Nat)) (σ:St):St:=ix.map fun o=>o.bind fun j=>(σ[j]?).bind id
theorem relabel_look {env:Env} {x:Str}:∀ {names:List (Str × NameKind)} {k:NameKind},names.lookup x=some k →
  (names.map fun (n,k)=>if (k == NameKind.free && env.scope.kind == .function && env.kindOf n == some .cell) then (n,NameKind.cell) else (n,k)).lookup x =
   some (if (k == NameKind.free && env.scope.kind == .function && env.kindOf x == some .cell) then NameKind.cell else k)
 | [],_,h=>by simp at h
 | (n,k') :: r,k,h=>by
  show List.lookup x ((if (k' == NameKind.free && env.scope.kind == .function && env.kindOf n == some .cell)=true then (n,NameKind.cell) else (n,k')) :: _)=_
  cases hx:x == n with
  | true =>
   simp only [List.lookup_cons,hx] at h
   cases h
   have e:=beq_iff_eq.mp hx
   subst e
   split <;> simp [List.lookup_cons]
  | false =>
   simp only [List.lookup_cons,hx] at h
   have ih:=relabel_look (env:=env) (names:=r) h
   split <;> (simp only [List.lookup_cons,hx];exact ih)
theorem relabel_none {env:Env} {x:Str}:∀ {names:List (Str × NameKind)},names.lookup x=none →
  (names.map fun (n,k)=>if (k == NameKind.free && env.scope.kind == .function && env.kindOf n == some .cell) then (n,NameKind.cell) else (n,k)).lookup x=none
 | [],_=>rfl
 | (n,k') :: r,h=>by
  show List.lookup x ((if (k' == NameKind.free && env.scope.kind == .function && env.kindOf n == some .cell)=true then (n,NameKind.cell) else (n,k')) :: _)=_
  cases hx:x == n with
  | true=>simp only [List.lookup_cons,hx] at h;cases h
  | false =>
   simp only [List.lookup_cons,hx] at h
   have ih:=relabel_none (env:=env) (names:=r) h
   split <;> (simp only [List.lookup_cons,hx];exact ih)
section
variable {X:Cx} {pins:List (Addr × Obj)} {σ:St} {H:Hp} {s:Shared} {Nc:List Str} {ix:List (Option Nat)} {scope:Scope} {fp:List Addr}
theorem CompScope.cells (S:CompScope X Nc ix scope) (I:Inv X pins σ H s):∀ x ∈ scope.names,x.2=.free→∃ c,X.env.cells.lookup x.1=some c:=fun x hx hf=>I.ok.has x.1 (S.free x hx hf)
theorem cell_from (S:CompScope X Nc ix scope) (I:Inv X pins σ H s) {C:Addr} {x:Str} {c:Addr} (e:(cellsFrom (C+1) scope.names (clFrom X.env scope.names [])).lookup x=some c) :
  X.env.cells.lookup x=some c∨(C+1≤c∧(x,NameKind.cell) ∈ scope.names):=by
 rcases cells_look _ _ _ e with q | q
 ·exact .inl (clFrom_look _ _ (S.cells I) (fun _ z=>by simp at z) q)
 ·exact .inr q
theorem inv_comp (S:CompScope X Nc ix scope) (I:Inv X pins σ H s) (hfp:∀ b ∈ fp,FpOk X pins H b) (ho:∀ b ∈ fp,∃ o,s.heap.get? b=some o) {t':Nat} :
  Inv (cxC X Nc scope (s.heap.objs.size+1) fp s H) [] (startC ix σ) (upd H s.heap.objs.size (.lst []))
   { s with heap:=pushCells ((s.heap.push { cls:=.type "list",dict:=none,data:=.seq ([]:List Value).toArray }).push { cls:=.type "dict",data:=.dict #[] }) scope.names,toks:=t' }:=by
 have keep:∀ b o,s.heap.get? b=some o→(pushCells ((s.heap.push { cls:=.type "list",dict:=none,data:=.seq ([]:List Value).toArray }).push { cls:=.type "dict",data:=.dict #[] }) scope.names).get? b=some o :=
  fun b o e=>pushCells_keeps _ _ b o (Heap.get?_push_of_some _ (Heap.get?_push_of_some _ e))
 have hD:(pushCells ((s.heap.push { cls:=.type "list",dict:=none,data:=.seq ([]:List Value).toArray }).push { cls:=.type "dict",data:=.dict #[] }) scope.names).get? s.heap.objs.size =
   some { cls:=.type "list",dict:=none,data:=.seq ([]:List Value).toArray }:=pushCells_keeps _ _ _ _ (Heap.get?_push_of_some _ (Heap.get?_push_size _ rfl))
 have hsz:(s.heap.push { cls:=.type "list",dict:=none,data:=.seq ([]:List Value).toArray }).objs.size=s.heap.objs.size+1:=Heap.size_push ..
 have fresh:∀ a:Addr,s.heap.objs.size≤a→H a=none:=fun a h=>I.hok.fresh h
 have hcc:∀ x c,X.env.cells.lookup x=some c→c < s.heap.objs.size:=fun x c e=>let ⟨_,q⟩:=I.cell x c e;q.lt
 have clt:∀ x c,(clFrom X.env scope.names []).lookup x=some c→c < s.heap.objs.size+1+1:=fun x c e =>
  Nat.lt_succ_of_lt (Nat.lt_succ_of_lt (hcc x c (clFrom_look _ _ (S.cells I) (fun _ z=>by simp at z) e)))
 have cinj:∀ x y c,(clFrom X.env scope.names []).lookup x=some c→(clFrom X.env scope.names []).lookup y=some c→x=y:=fun x y c e1 e2 =>
  I.ok.inj x y c (clFrom_look _ _ (S.cells I) (fun _ z=>by simp at z) e1) (clFrom_look _ _ (S.cells I) (fun _ z=>by simp at z) e2)
 refine ⟨⟨I.ok.mod,S.kind,I.ok.glob,I.ok.blt,Nat.le_succ _,cells_inj _ _ _ clt cinj,fun x hx=>?has,fun x c hf e=>?cab,I.ok.hd,I.ok.frames,.inl rfl,fun b hb=>?exf,I.bs,Nat.le_trans I.ok.bsz I.sz,fun b o e hb=>?noex,fun b hb hs=>?exfs,I.stack,I.stkFree⟩,
  rfl,I.bare,Un.laid keep (Nat.le_refl _) (fresh _ (Nat.le_refl _)),⟨fun _=>none,?ns,fun i x v e1 e2 e3=>?loc⟩,fun x c e=>?cell,?free,fun x c e=>?freeC,fun p hp=>absurd (show p ∈ ([]:List (Addr × Obj)) from hp) (by simp),I.hok.laid keep (Nat.le_refl _) ?obj,?len⟩
 case has =>
  have hx:(relabel scope X.env).names.lookup x=some .cell∨(relabel scope X.env).names.lookup x=some .free:=hx
  show ∃ c,(cellsFrom (s.heap.objs.size+1+1) scope.names (clFrom X.env scope.names [])).lookup x=some c
  cases hk:scope.names.lookup x with
  | none =>
   rw [show (relabel scope X.env).names.lookup x=none from relabel_none hk] at hx
   rcases hx with z | z <;> cases z
  | some k =>
   have hm:=PySem.mem_of_lookup hk
   rw [show (relabel scope X.env).names.lookup x=_ from relabel_look hk] at hx
   cases k with
   | cell=>obtain ⟨c,e,_⟩:=cells_own (x:=x) (lo:=0) scope.names (s.heap.objs.size+1+1) (clFrom X.env scope.names []) (Nat.zero_le _) (.inl hm);exact ⟨c,e⟩
   | free =>
    obtain ⟨c,e⟩:=clFrom_has (env:=X.env) (x:=x) scope.names [] (.inl hm)
    exact ⟨c,by rw [cells_keep _ _ _ (S.once x hm)];exact e⟩
   | _=>rcases hx with z | z <;> simp at z
 case cab =>
  have hm:(x,NameKind.cell) ∈ scope.names:=List.contains_iff_mem.mp hf
  obtain ⟨c',e',hc⟩:=cells_own (x:=x) (lo:=s.heap.objs.size+1+1) scope.names (s.heap.objs.size+1+1) (clFrom X.env scope.names []) (Nat.le_refl _) (.inl hm)
  have e2:(cellsFrom (s.heap.objs.size+1+1) scope.names (clFrom X.env scope.names [])).lookup x=some c:=e
  rw [e'] at e2;cases e2
  exact Nat.le_trans (Nat.le_trans (Nat.le_succ _) (Nat.le_succ _)) hc
 case exf =>
  obtain ⟨o,eo⟩:=ho b hb
  have hlt:=Heap.lt_size eo
  refine ⟨Nat.ne_of_lt (Nat.lt_succ_of_lt hlt),fun x c e=>?_⟩
  rcases cell_from S I e with q | ⟨q,_⟩
  ·exact (hfp b hb).2.2.2.2.1 x c q
  ·exact Nat.ne_of_gt (Nat.lt_of_lt_of_le (Nat.lt_succ_of_lt (Nat.lt_succ_of_lt hlt)) q)
 case noex =>
  obtain ⟨_,_,_,q,_⟩:=hfp b hb
  rcases q with q | q
  ·exact I.ok.noex b o e q
  ·exact absurd (Nat.lt_of_lt_of_le (Nat.lt_of_lt_of_le (Heap.lt_size e) I.ok.bsz) q) (Nat.lt_irrefl _)
 case exfs =>
  obtain ⟨_,q1,q2,_⟩:=hfp b hb
  rcases List.mem_cons.mp (I.stkSub b hs) with z | z
  ·exact q1 z
  ·exact q2 z
 case ns =>
  refine Heap.Ns.keeps (h:=(s.heap.push { cls:=.type "list",dict:=none,data:=.seq ([]:List Value).toArray }).push { cls:=.type "dict",data:=.dict #[] }) ?_ (pushCells_keeps _ _)
  have q:=Heap.Ns.new (s.heap.push { cls:=.type "list",dict:=none,data:=.seq ([]:List Value).toArray }) (.type "dict")
  rw [hsz] at q
  exact q
 case loc =>
  have e2':(ix.map fun o=>o.bind fun j=>(σ[j]?).bind id)[i]?=some (some v):=e2
  rw [List.getElem?_map] at e2'
  cases ei:ix[i]? with
  | none=>rw [ei] at e2';cases e2'
  | some o =>
   rw [ei] at e2'
   cases o with
   | none=>simp at e2'
   | some j =>
    obtain ⟨hN,hfr⟩:=S.out i j x ei e1
    have ej:σ[j]?=some (some v):=by
     cases q:σ[j]? with
     | none=>simp [q] at e2'
     | some y=>simp [q] at e2';rw [e2']
    have hm:=PySem.mem_of_lookup hfr
    have hvis:Vis X.env.scope x:=by
     rcases S.free (x,.free) hm rfl with z | z
     ·exact .inr (.inl z)
     ·exact .inr (.inr z)
    obtain ⟨m0,hn0,hl0⟩:=I.loc
    obtain ⟨u,r,l⟩:=hl0 j x v hN ej hvis
    refine ⟨u,r,?_⟩
    have hk:X.env.kindOf x=some .cell∨X.env.kindOf x=some .free:=S.free (x,.free) hm rfl
    rcases l with ⟨z,_⟩ | ⟨_,c,ec,hcell⟩
    ·rcases hk with y | y <;> (rw [z] at y;cases y)
    ·refine .inr ⟨?_,c,?_,hcell.keeps keep⟩
     ·show (relabel scope X.env).names.lookup x=_∨(relabel scope X.env).names.lookup x=_
      rw [show (relabel scope X.env).names.lookup x=_ from relabel_look hfr]
      split
      ·exact .inl rfl
      ·exact .inr rfl
     ·show (cellsFrom (s.heap.objs.size+1+1) scope.names (clFrom X.env scope.names [])).lookup x=some c
      rw [cells_keep _ _ _ (S.once x hm)]
      obtain ⟨c',e'⟩:=clFrom_has (env:=X.env) (x:=x) scope.names [] (.inl hm)
      have q:=clFrom_look _ _ (S.cells I) (fun _ z=>by simp at z) e'
      rw [ec] at q;cases q
      exact e'
 case cell =>
  have q:=push_cells_is (x:=x) (c:=c) scope.names ((s.heap.push { cls:=.type "list",dict:=none,data:=.seq ([]:List Value).toArray }).push { cls:=.type "dict",data:=.dict #[] }) (clFrom X.env scope.names [])
   (fun y c' e'=>by
    obtain ⟨v,z⟩:=I.cell y c' (clFrom_look _ _ (S.cells I) (fun _ z=>by simp at z) e')
    exact ⟨v,z.keeps fun b o e=>Heap.get?_push_of_some _ (Heap.get?_push_of_some _ e)⟩)
  rw [Heap.size_push,hsz] at q
  exact q e
 case free =>
  show upd H s.heap.objs.size (.lst []) (s.heap.objs.size+1)=none
  rw [upd_ne (Nat.succ_ne_self _)]
  exact fresh _ (Nat.le_succ _)
 case freeC =>
  rcases cell_from S I e with q | ⟨q,_⟩
  ·rw [upd_ne (Nat.ne_of_lt (hcc x c q))]
   exact I.freeC x c q
  ·have h1:s.heap.objs.size < c:=Nat.lt_of_lt_of_le (Nat.lt_succ_of_lt (Nat.lt_succ_self _)) q
   rw [upd_ne (Nat.ne_of_gt h1)]
   exact fresh c (Nat.le_of_lt h1)
 case obj=>exact ⟨Nat.zero_le _,[],0,.nil,hD⟩
 case len =>
  show (startC ix σ).length=Nc.length
  unfold startC
  rw [List.length_map,S.len]
end
def PTs (X:Cx) (ifs:List Expr) (t:TT):Prop :=
 ∀ (pins:List (Addr × Obj)) (s:Shared) (σ:St) (H:Hp) (Q:Bool→Hp→Prop),Inv X pins σ H s→t σ H Q →
  wpAny (model X.prog X.w) X.A (forIn ifs true fun c r=>if r=true then do let ok ← isTrue c X.env (eval c X.env);pure (ForInStep.yield ok) else pure (ForInStep.yield r)) (TP X pins σ Q) X.xe s
def tYes:TT:=fun _ H Q=>Q true H
theorem pts_nil {X:Cx}:PTs X [] tYes:=fun _ _ _ H _ I h=>wpAny_tests_nil ⟨H,I,h⟩
theorem pts_one {X:Cx} {c:Expr} {t:TT} (h:PT X c t):PTs X [c] t:=fun pins s σ H Q I hw=>wpAny_tests_one (h pins s σ H Q I hw)
def lcRun (J:It) (g:TG) (tt:TT) (te:TE) (D:Addr) (σ:St) (H:Hp) (Q:VK):Prop:=∃ W:Nat→Nat→St→Hp→Prop,(∃ m,W 0 m σ H)∧∀ i m σ' H',W i m σ' H' →
 (J.stop i H'∧Q (.ref D) H')∨(J.go i H'∧∀ x H2,J.yld i H' x H2→g x σ' H2 fun σ3 H3=>tt σ3 H3 fun b H4 =>
  if b=true then te σ3 H4 fun v H5=>∃ xs,H5 D=some (.lst xs)∧xs.length < sizeLine∧∃ m',m' < m∧W (i+1) m' σ3 (upd H5 D (.lst (xs ++ [v])))
  else ∃ m',m' < m∧W (i+1) m' σ3 H4)
def tLC (wi:TI) (ix:List (Option Nat)) (g:TG) (tt:TT) (te:TE):TE:=fun σ H Q=>wi σ H fun J H1=>∀ D,H1 D=none→lcRun J g tt te D (startC ix σ) (upd H1 D (.lst [])) Q
section
variable {X:Cx} {tg elt iter:Expr} {ifs:List Expr} {scope:Scope} {pos:Pos} {wi:TI} {g:TG} {tt:TT} {te:TE} {Nc:List Str} {ix:List (Option Nat)}
theorem comp_run {pins:List (Addr × Obj)} {σ:St} {H:Hp} {s:Shared} {it:Addr} {fp:List Addr} {tn:Nat→Heap→Prop} {J:It} {Q:VK} {R:Value→Addr→Result→Shared→Prop}
  (hc:X.calm=true) (S:CompScope X Nc ix scope) (I:Inv X pins σ H s) (T:Turn X.prog X.w X.K tg J fp it tn) (st:tn 0 s.heap) (f:∀ b ∈ fp,FpOk X pins H b)
  (hg:PG (cxC X Nc scope (s.heap.objs.size+1) fp s H) tg g) (ht:PTs (cxC X Nc scope (s.heap.objs.size+1) fp s H) ifs tt) (he:PE (cxC X Nc scope (s.heap.objs.size+1) fp s H) elt te)
  (h:∀ D,H D=none→∃ W:Nat→Nat→St→Hp→Prop,(∃ m,W 0 m (startC ix σ) (upd H D (.lst [])))∧∀ i m σ' H',W i m σ' H' →
   (J.stop i H'∧Q (.ref D) H')∨(J.go i H'∧∀ x H2,J.yld i H' x H2→g x σ' H2 fun σ3 H3=>tt σ3 H3 fun b H4 =>
    if b=true then te σ3 H4 fun v H5=>∃ xs,H5 D=some (.lst xs)∧xs.length < sizeLine∧∃ m',m' < m∧W (i+1) m' σ3 (upd H5 D (.lst (xs ++ [v])))
    else ∃ m',m' < m∧W (i+1) m' σ3 H4))
  (hR:∀ σ' H' s',Inv (cxC X Nc scope (s.heap.objs.size+1) fp s H) [] σ' H' s'→(∀ b ∈ fp,H' b=none)→Q (.ref s.heap.objs.size) H'→R (.ref s.heap.objs.size) (s.heap.objs.size+1) (.ok .next) s') :
  wpAny (model X.prog X.w) X.A (newList []) (fun acc s₃=>wpAny (model X.prog X.w) X.A (newFunctionEnv scope X.env.globals (clFrom X.env scope.names []) [] X.env.qual none .none (some X.env)) (fun cenv s₄ =>
   codeAny (model X.prog X.w) X.A (.compStart (.ListComp elt [⟨tg,iter,ifs,0⟩] scope pos) 0 (.ref it) acc { cenv with scope:=relabel scope X.env }) (R acc cenv.locals) s₄) X.xe s₃) X.xe s:=by
 obtain ⟨W,⟨m0,w0⟩,turn⟩:=h s.heap.objs.size (I.hok.fresh (Nat.le_refl _))
 refine wpAny_newObj_type (newEnv_comp ?_)
 have I4:=inv_comp (t':=s.toks) S I f (fun b hb=>let ⟨o,e,_⟩:=T.obj _ _ st b hb;⟨o,e⟩)
 have hsz:(s.heap.push { cls:=.type "list",dict:=none,data:=.seq ([]:List Value).toArray }).objs.size=s.heap.objs.size+1:=Heap.size_push ..
 dsimp only
 rw [hsz]
 have st4:tn 0 (pushCells ((s.heap.push { cls:=.type "list",dict:=none,data:=.seq ([]:List Value).toArray }).push { cls:=.type "dict",data:=.dict #[] }) scope.names) :=
  T.keep _ _ _ st fun b _ o e=>pushCells_keeps _ _ b o (Heap.get?_push_of_some _ (Heap.get?_push_of_some _ e))
 have fr4:∀ b ∈ fp,upd H s.heap.objs.size (.lst []) b=none:=fun b hb=>by
  obtain ⟨o,e,_⟩:=T.obj _ _ st b hb
  rw [upd_ne (Nat.ne_of_lt (Heap.lt_size e))]
  exact (f b hb).1
 have stat:∀ {H':Hp},(∀ b ∈ fp,H' b=none)→∀ b ∈ fp,FpOk (cxC X Nc scope (s.heap.objs.size+1) fp s H) [] H' b:=fun {H'} hn b hb=>by
  obtain ⟨q1,q2⟩:=I4.ok.exf b hb
  exact ⟨hn b hb,q1,I4.ok.exfs b hb,.inl hb,q2,fun p hp=>absurd (show p ∈ ([]:List (Addr × Obj)) from hp) (by simp)⟩
 have loop:codeAny (model X.prog X.w) X.A (.compLoop (.ListComp elt [⟨tg,iter,ifs,0⟩] scope pos) 0 (.ref it) (.ref s.heap.objs.size) (cxC X Nc scope (s.heap.objs.size+1) fp s H).env)
   (R (.ref s.heap.objs.size) (s.heap.objs.size+1))
   { s with heap:=pushCells ((s.heap.push { cls:=.type "list",dict:=none,data:=.seq ([]:List Value).toArray }).push { cls:=.type "dict",data:=.dict #[] }) scope.names }:=by
  refine compLoop_any (fun n s'=>∃ i σ' H',Inv (cxC X Nc scope (s.heap.objs.size+1) fp s H) [] σ' H' s'∧tn i s'.heap∧(∀ b ∈ fp,H' b=none)∧W i n σ' H') ?_ m0 ⟨0,_,_,I4,st4,fr4,w0⟩
  rintro n s5 ⟨i,σ5,H5,I5,st5,fr5,w5⟩
  rcases turn i n σ5 H5 w5 with ⟨stop,qn⟩ | ⟨go,step⟩
  ·refine thn (T.done (cxC X Nc scope (s.heap.objs.size+1) fp s H) rfl rfl rfl hc i [] s5 σ5 H5 _ I5 (stat fr5) st5 stop) fun r s6 ⟨hr,I6⟩=>?_
   subst hr
   exact hR σ5 H5 s6 I6 fr5 qn
  ·refine thn (T.item (cxC X Nc scope (s.heap.objs.size+1) fp s H) rfl rfl rfl hc i [] s5 σ5 H5 _ I5 (stat fr5) st5 go) fun r s6 ⟨u,hr,h6⟩=>?_
   subst hr
   refine thn h6 fun _ s7 ⟨x,H7,I7,r7,y7,st7,fr7⟩=>?_
   have I7':=I7.pinned (stat fr7) (T.obj _ _ st7)
   refine thn (hg _ s7 σ5 H7 x u _ I7' r7 (step x H7 y7)) fun _ s8 ⟨σ8,H8,I8,q8⟩=>?_
   refine thn (ht _ s8 σ8 H8 _ I8 q8) fun b s9 ⟨H9,I9,q9⟩=>?_
   have again:∀ {s':Shared} {σ':St} {H':Hp},Inv (cxC X Nc scope (s.heap.objs.size+1) fp s H) ([] ++ pinsAt fp s7.heap) σ' H' s'→tn (i+1) s'.heap∧∀ b ∈ fp,H' b=none:=fun {s' σ' H'} I'=>by
    refine ⟨T.keep _ _ _ st7 fun b hb o e=>(I'.pin (b,o) (List.mem_append_right _ (List.mem_append_right _ (mem_pinsAt hb e)))).1,fun b hb=>?_⟩
    obtain ⟨o,e,d⟩:=T.obj _ _ st7 b hb
    exact (I'.pin (b,o) (List.mem_append_right _ (List.mem_append_right _ (mem_pinsAt hb e)))).2.1
   cases b with
   | false =>
    rw [if_neg Bool.false_ne_true] at q9 ⊢
    obtain ⟨m',hm,w9⟩:=q9
    obtain ⟨a1,a2⟩:=again I9
    exact ⟨m',hm,i+1,σ8,H9,I9.unpinned,a1,a2,w9⟩
   | true =>
    rw [if_pos rfl] at q9 ⊢
    refine thn (he _ s9 σ8 H9 _ I9 q9) fun v s10 ⟨x',H10,I10,r10,xs,eD,hlt,m',hm,w10⟩=>?_
    refine thn (mt_append (X:=cxC X Nc scope (s.heap.objs.size+1) fp s H) _ s10 σ8 H10 (.ref s.heap.objs.size) [x'] (.ref s.heap.objs.size) [v] (fun _ H'=>H'=upd H10 s.heap.objs.size (.lst (xs ++ [x']))) I10 rfl (.cons r10 .nil)
     ⟨_,xs,x',rfl,rfl,eD,hlt,rfl⟩) fun _ s11 ⟨_,H11,I11,_,e11⟩=>?_
    subst e11
    obtain ⟨a1,a2⟩:=again I11
    exact ⟨m',hm,i+1,σ8,_,I11.unpinned,a1,a2,w10⟩
 exact codeAny_compStart_list loop (T.self X.A 0 _ _ _ st4 loop)
theorem comp_back {pins:List (Addr × Obj)} {σ σ':St} {H H':Hp} {s s':Shared} {fp:List Addr} (I:Inv X pins σ H s) (f:∀ b ∈ fp,FpOk X pins H b) (J:Inv (cxC X Nc scope (s.heap.objs.size+1) fp s H) [] σ' H' s'):Inv X pins σ H' s' :=
 I.call' (ch:=fp) J.os J.base J.hok J.bare fun b hb=>let ⟨_,q1,_,q3,q4,q5⟩:=f b hb;⟨q3,q1,q4,q5⟩
theorem Inv.letgo {pins:List (Addr × Obj)} {σ:St} {H:Hp} {s:Shared} {C:Addr} {h':Heap} (I:Inv X pins σ H s) (f:FpOk X pins H C) (hs:Heap.SameBut C s.heap h'):Inv X pins σ H { s with heap:=h' } :=
 I.turned (t':=s.toks) (it:=C) (fun b o hb e=>(hs.2 b hb).trans e) f.1 f.2.1 f.2.2.2.1 f.2.2.2.2.1 f.2.2.2.2.2
theorem pe_lc (hc:X.calm=true) (S:CompScope X Nc ix scope) (hi:PI X tg iter wi)
  (hb:∀ (C:Addr) (fp:List Addr) (s:Shared) (H:Hp),PG (cxC X Nc scope C fp s H) tg g∧PTs (cxC X Nc scope C fp s H) ifs tt∧PE (cxC X Nc scope C fp s H) elt te)
  (hs:∀ x,foldedSetIterable iter X.env x=pure x:=by intro _;rfl):PE X (.ListComp elt [⟨tg,iter,ifs,0⟩] scope pos) (tLC wi ix g tt te):=by
 intro pins s σ H Q I h
 rw [eval_ListComp]
 refine wpAny_comprehension_free (use:=none) rfl hs (closure_of (S.cells I)) S.kind S.loc (thn (hi pins s σ H _ I h) fun v s1 h1=>thn h1 fun itv s2 h2=>?_)
 obtain ⟨it,fp,tn,J,H2,e,I2,T,st2,f2,q2⟩:=h2
 subst e
 obtain ⟨hg,ht,he⟩:=hb (s2.heap.objs.size+1) fp s2 H2
 refine comp_run (R:=fun acc C=>compPost (model X.prog X.w) X.A X.xe none (EP X pins σ Q) acc C) hc S I2 T st2 f2 hg ht he q2 fun σ' H' s' J' fr' q'=>?_
 obtain ⟨m,hn,_⟩:=J'.loc
 refine ⟨m,hn,fun h' hsb=>⟨.ref _,H',?_,rfl,q'⟩⟩
 exact (comp_back I2 f2 J').letgo (I2.fpOk (Nat.le_succ _) J'.free) hsb
theorem ps_setLC {i:Nat} {y:Str} {py spos:Pos} (hN:X.N.Nodup) (hy:X.N[i]?=some y) (hl:Loc X.env.scope y) (hc:X.calm=true) (S:CompScope X Nc ix scope) (hi:PI X tg iter wi)
  (hb:∀ (C:Addr) (fp:List Addr) (s:Shared) (H:Hp),PG (cxC X Nc scope C fp s H) tg g∧PTs (cxC X Nc scope C fp s H) ifs tt∧PE (cxC X Nc scope C fp s H) elt te)
  (hsw:swapsWith (.ListComp elt [⟨tg,iter,ifs,0⟩] scope pos) (some (.Name y py)) spos.line X.env=pure true:=by rfl)
  (hs:∀ x,foldedSetIterable iter X.env x=pure x:=by intro _;rfl)
  (hf:X.fn y=true∨X.env.scope.names.lookup y=some .local:=by first | exact .inl rfl | exact .inr rfl | assumption) :
  PS X (.Assign [.Name y py] (.ListComp elt [⟨tg,iter,ifs,0⟩] scope pos) spos) (tAsg (tLC wi ix g tt te) (gName i)):=by
 intro pins s σ H D I h
 rw [exec_Assign_Name_used _ _ _ _ hsw]
 refine wpAny_bind (wpAny_standAt (wpAny_bind ?_))
 show wpAny _ X.A (do let _ ← comprehension (.ListComp elt [⟨tg,iter,ifs,0⟩] scope pos) scope X.env _ (newList []) false (eval iter X.env) (some (assign (.Name y py) X.env))) _ _ s
 refine wpAny_bind (wpAny_mono (wpAny_comprehension_free (use:=some (assign (.Name y py) X.env)) (Q:=fun _ s'=>SP X pins D .next s') rfl hs (closure_of (S.cells I)) S.kind S.loc
  (thn (hi pins s σ H _ I h) fun v s1 h1=>thn h1 fun itv s2 h2=>?_)) (fun _ s' hq=>wpAny_pure (wpAny_pure hq)) fun _ _ e=>e)
 obtain ⟨it,fp,tn,J,H2,e,I2,T,st2,f2,q2⟩:=h2
 subst e
 obtain ⟨hg,ht,he⟩:=hb (s2.heap.objs.size+1) fp s2 H2
 refine comp_run (Q:=fun x H1=>gName i x σ H1 D.nx) (R:=fun acc C=>compPost (model X.prog X.w) X.A X.xe (some (assign (.Name y py) X.env)) (fun _ s'=>SP X pins D .next s') acc C) hc S I2 T st2 f2 hg ht he q2 fun σ' H' s' J' fr' q'=>?_
 obtain ⟨m,hn,_⟩:=J'.loc
 have I3:=comp_back I2 f2 J'
 have fC:=I2.fpOk (Nat.le_succ _) J'.free
 show wpAny _ X.A (assign (.Name y py) X.env (.ref s2.heap.objs.size)) _ _ s'
 refine wpAny_assign_Name (store_ok2 (v:=.ref s2.heap.objs.size) I3 hN hy hl rfl (fun s4 I4 ⟨a,hsa,ha⟩=>?_) hf)
 have haC:s2.heap.objs.size+1≠a:=by
  rcases ha with z | z
  ·rw [z];exact fC.2.1
  ·exact Ne.symm (fC.2.2.2.2.1 y a z)
 refine ⟨m,hn.sameBut hsa haC,fun h' hsb=>⟨_,H',I4.letgo fC hsb,q'⟩⟩
end
end L2
namespace L2
open PySem PySem.Spec PyProof.Rows
structure Thrown (P:Program) (w:World) (outer:List Env) (H:Hp) (s:Shared) (a C:Addr) (a0:Value) (B:Heap) (H':Hp) (s':Shared):Prop where
 os:s'.os=s.os
 bare:AllBare s'.gens
 un:Un (frs outer) [] H H' s.heap s'.heap
 hok:HOk P w H' s'.heap
 fly:Heap.FlyingW B outer a (.ref C) a0 s'.heap
 cov:∀ b o,s.heap.get? b=some o→b ∉ frs outer→∃ o',B.get? b=some o'
 trk:∀ b u,H' b=some u→∃ o',B.get? b=some o'
def CX1 (P:Program) (w:World):CXT:=fun outer H s E e s'=>∃ (a C:Addr) (a0:Value) (B:Heap) (H':Hp),e=.ref a∧Thrown P w outer H s a C a0 B H' s'∧E (.ref C) none H'
theorem frs_mem {l:List Env} {b:Addr} {base h:Heap} (F:h.FunFrames base l) (hb:b ∈ frs l):base.get? b=none∧∃ o,h.get? b=some o∧∀ vs,o.data≠.fields vs:=F.mem hb
theorem un_later {outer:List Env} {H H':Hp} {h h1 h2 B:Heap} (u:Un (frs outer) [] H H' h h1) (F:h1.FunFrames B outer) (hB1:B.StaysIn h1) (hB2:B.StaysIn h2) (up:h1.UpToSlots h2)
  (cov:∀ b o,h.get? b=some o→b ∉ frs outer→∃ o',B.get? b=some o'):Un (frs outer) [] H H' h h2:=by
 have at2:∀ b o,h.get? b=some o→b ∉ frs outer→∀ o1,h1.get? b=some o1→h2.get? b=some o1:=fun b o e hb o1 e1=>by
  obtain ⟨o',eB⟩:=cov b o e hb
  have q:=hB1 b o' eB
  rw [e1] at q;cases q
  exact hB2 b _ eB
 refine ⟨fun b o e n hb hx=>at2 b o e hb o (u.keep b o e n hb hx),fun b o e n hb hx=>?_,u.free,fun b o e hx=>?_,u.tups,u.frzs,u.tbls⟩
 ·obtain ⟨sl,e1⟩:=u.slot b o e n hb hx
  obtain ⟨_,o1,q1,q2⟩:=frs_mem F hb
  rw [e1] at q1;cases q1
  obtain ⟨sl2,e2⟩:=up b _ e1 q2
  exact ⟨sl2,e2⟩
 ·obtain ⟨o1,e1⟩:=u.there b o e hx
  by_cases hb:b ∈ frs outer
  ·obtain ⟨_,o2,q1,q2⟩:=frs_mem F hb
   obtain ⟨sl2,e2⟩:=up b _ q1 q2
   exact ⟨_,e2⟩
  ·exact ⟨o1,at2 b o e hb o1 e1⟩
theorem hok_later {P:Program} {w:World} {H:Hp} {h1 h2 B:Heap} (x:HOk P w H h1) (hB1:B.StaysIn h1) (hB2:B.StaysIn h2) (trk:∀ b u,H b=some u→∃ o',B.get? b=some o'):HOk P w H h2:=fun b o e=>by
 refine (x b o e).stay (fun c u hc q=>?_) (fun _ q=>q) fun _ _ q=>q
 have ht:∃ o',B.get? c=some o':=by
  rcases hc with z | z
  ·rw [z];exact trk b o e
  ·exact trk c _ z
 obtain ⟨o',eB⟩:=ht
 have q1:=hB1 c o' eB
 rw [q] at q1;cases q1
 exact hB2 c _ eB
structure Body (X:Cx) (E:XK):Prop where
 xe:X.xe=fun e s'=>wpAny (model X.prog X.w) X.A (leaving X.env e) (fun _ s''=>CX1 X.prog X.w X.outer X.H₀ X.s₀ E e s'') (fun e' s''=>CX1 X.prog X.w X.outer X.H₀ X.s₀ E e' s'') s'
 stk:X.stack=X.env :: X.outer
 fr:X.env.frame=some X.env.locals
 ex:X.ex=[]
section
variable {X:Cx} {E:XK} {pins:List (Addr × Obj)} {σ:St} {H:Hp} {s:Shared}
theorem Inv.old (I:Inv X pins σ H s) {b:Addr} {o:Obj} (e:X.s₀.heap.get? b=some o):b≠X.env.locals:=Nat.ne_of_lt (Nat.lt_of_lt_of_le (Heap.lt_size e) I.ok.above)
theorem Body.base (Bd:Body X E) (I:Inv X pins σ H s):Un X.fs [] X.H₀ H X.s₀.heap s.heap:=by
 have q:=I.base
 rw [Bd.ex] at q
 exact q
theorem Body.notin (Bd:Body X E) {b:Addr} (h1:b≠X.env.locals) (h2:b ∉ frs X.outer):b ∉ frs X.stack:=by
 rw [Bd.stk]
 intro z
 obtain ⟨env,he,hf⟩:=List.mem_filterMap.mp z
 rcases List.mem_cons.mp he with rfl | he
 ·rw [Bd.fr] at hf;exact h1 (Option.some.inj hf).symm
 ·exact h2 (List.mem_filterMap.mpr ⟨env,he,hf⟩)
theorem pass1 (Bd:Body X E):Passes (CX1 X.prog X.w) X E:=by
 intro pins σ H s e s' I h
 obtain ⟨a,C,a0,B,H',rfl,T,q⟩:=h
 rw [Bd.xe]
 have hfr:X.A.frames=some (X.env :: X.outer):=by rw [← Bd.stk];exact I.ok.frames
 have fly:=T.fly
 rw [Bd.stk] at fly
 refine wpAny_leaves_onW hfr Bd.fr fly fun h' fly' up=>?_
 have cov:∀ b o,X.s₀.heap.get? b=some o→b ∉ frs X.outer→∃ o',B.get? b=some o':=fun b o e hb=>by
  obtain ⟨o1,e1⟩:=(Bd.base I).there b o e (by simp)
  exact T.cov b o1 e1 (Bd.notin (I.old e) hb)
 have u1:Un (frs X.outer) [] X.H₀ H' X.s₀.heap s'.heap:=by
  have ub:=Bd.base I
  refine ⟨fun b o e n hb hx=>T.un.keep b o (ub.keep b o e n hb hx) (ub.free b o e n hx) (Bd.notin (I.old e) hb) (by simp),fun b o e n hb hx=>?_,fun b o e n hx=>?_,fun b o e hx=>?_,fun b xs e=>T.un.tups b xs (ub.tups b xs e),
   fun b o xs e=>T.un.frzs b o xs (ub.frzs b o xs e),fun b ps e=>?_⟩
  ·obtain ⟨sl,e1⟩:=ub.slot b o e n hb hx
   obtain ⟨sl',e2⟩:=T.un.any e1 (ub.free b o e n hx) (by simp)
   exact ⟨sl',e2⟩
  ·obtain ⟨o1,e1⟩:=ub.there b o e hx
   exact T.un.free b o1 e1 (ub.free b o e n hx) (by simp)
  ·obtain ⟨o1,e1⟩:=ub.there b o e hx
   exact T.un.there b o1 e1 (by simp)
  ·obtain ⟨m1,e1⟩:=ub.tbls b ps e
   obtain ⟨m2,e2⟩:=T.un.tbls b _ e1
   exact ⟨m1 ++ m2,by rw [e2,Array.append_assoc]⟩
 have F':s'.heap.FunFrames B X.outer:=by obtain ⟨_,_,⟨_,_,k⟩,_⟩:=fly;exact k
 exact ⟨a,C,a0,B,H',rfl,⟨T.os.trans I.os,T.bare,un_later u1 F' fly.1 fly'.1 up cov,hok_later T.hok fly.1 fly'.1 T.trk,fly',cov,T.trk⟩,q⟩
theorem own_of_K {K:PySem.W.Frag} {h:Heap} {mg:Str→Option Value} {x:Str} {C:Addr} {bmB:List Value} {newId:String} (KX:K.In h) (hm:mg x=some (.ref C)) (q:PySem.W.excIn K C bmB newId=true):OwnCls x C bmB newId mg h:=by
 refine ⟨hm,?_⟩
 unfold PySem.W.excIn at q
 split at q
 ·rename_i dd cd sl ho
  split at q
  ·rename_i C' bm k0 k1 k2 k3 n k5 hm' hs
   simp only [Bool.and_eq_true,beq_iff_eq,Bool.not_eq_true'] at q
   obtain ⟨⟨⟨⟨⟨rfl,rfl⟩,hdel⟩,ht⟩,hok⟩,hni⟩:=q
   obtain ⟨nm,bs,mro,ns,qn,hd,sn,sub,ab,col,del⟩:=cd
   dsimp only at hm' hdel hok hni
   subst hm' hdel
   have hsl:sl=#[k0,k1,k2,k3,some (.builtin n),k5]:=by
    obtain ⟨l⟩:=sl
    simp only at hs
    rw [hs]
   subst hsl
   exact ⟨bm,ns,nm,qn,bs,hd,sn,sub,ab,col,dd,k0,k1,k2,k3,k5,_,KX _ _ ho,.of_isNs (PySem.W.isNs_of_in KX hok),PySem.W.nsMap_none_of_in KX hok hni,PySem.W.tail_of_in KX ht⟩
  ·cases q
 ·cases q
def tRaise (C:Addr) (E:XK) (t:TA):TS:=fun _ σ H=>t σ H fun vs H1=>vs.length≤sizeLine∧E (.ref C) none H1
theorem ps_raise {x:Str} {np cpos pos:Pos} {e:Expr} {es:List Expr} {t:TA} {C:Addr} {bmB:List Value} {B newId initId:String} (Bd:Body X E) (hc:X.calm=true) (hg:Gl X x) (hm:X.mg x=some (.ref C))
  (hk:PySem.W.excIn X.K C bmB newId=true) (FB:ExcBaseFacts B newId initId bmB) (ha:PA X (e :: es) t)
  (he:starEach (e :: es) X.env=(false,eval e X.env) :: starEach es X.env:=by rfl) (hpl:(backTo cpos (starEach es X.env)).any (·.1)=false:=by rfl) (hdb:(x == ("__debug__":Str))=false:=by decide) :
  PS X (.Raise (some (.Call (.Name x np) (e :: es) [] cpos)) none pos) (tRaise C E t):=by
 intro pins s σ H D I h
 have O:=own_of_K (I.mod.kin) hm hk
 obtain ⟨tl,N,nm,q,bs,hdct,sn,sub,ab,col,dd,k0,k1,k2,k3,k5,mN,hC,hN,hni,T⟩:=O.obj
 refine wpAny_Raise_call_subT (C:=C) (nm:=nm) (q:=q) (N:=N) (bs:=bs) (bm:=tl) (hdct:=hdct) (sn:=sn) (sub:=sub) (ab:=ab) (col:=col) (dd:=dd) (k0:=k0) (k1:=k1) (k2:=k2) (k3:=k3) (k5:=k5)
  FB (mN:=mN) (T.hasType FB.hasBase) (I.ok.hd hc) (by rw [he];show (false || (backTo cpos (starEach es X.env)).any (·.1))=false;rw [hpl];rfl) hni (ld_glob I hg hm ⟨rfl,?_⟩ hdb)
 have hA:=ha cpos pins s σ H _ I h
 rw [he] at hA ⊢
 refine Calls.evalArgs_plain (thn hA fun us s2 ⟨vs,H2,I2,r,hz,q2⟩=>?_)
 refine ⟨rfl,by rw [← r.length];exact hz,I2.bk _ _ hC,hN.keeps I2.bk,T.keeps I2.bk,fun h' a hx=>?_⟩
 rw [Bd.xe]
 have hfr:X.A.frames=some (X.env :: X.outer):=by rw [← Bd.stk];exact I.ok.frames
 have hin:∀ env ∈ X.stack,∀ b,env.frame=some b→b ∈ frs X.stack:=fun env he b hb=>List.mem_filterMap.mpr ⟨env,he,hb⟩
 have F0:s2.heap.FunFrames (PySem.W.hideAll s2.heap (frs X.stack)) X.stack:=PySem.W.funFrames_hide I2.stack hin
 have F1:s2.heap.FunFrames (PySem.W.hideAll s2.heap (frs X.stack)) (X.env :: X.outer):=by rw [← Bd.stk];exact F0
 have hB0:(PySem.W.hideAll s2.heap (frs X.stack)).StaysIn s2.heap:=fun b o q=>PySem.W.of_hideAll _ q
 have hBget:∀ b o,s2.heap.get? b=some o→b ∉ frs X.stack→(PySem.W.hideAll s2.heap (frs X.stack)).get? b=some o:=fun b o e hb=>PySem.W.hideAll_get _ e hb
 refine wpAny_leaves_madeW hfr Bd.fr hB0 F1 hx fun h'' t fly tup tn up=>?_
 have cov:∀ b o,X.s₀.heap.get? b=some o→b ∉ frs X.outer→∃ o',(PySem.W.hideAll s2.heap (frs X.stack)).get? b=some o':=fun b o e hb=>by
  obtain ⟨o1,e1⟩:=(Bd.base I2).there b o e (by simp)
  exact ⟨o1,hBget b o1 e1 (Bd.notin (I2.old e) hb)⟩
 have trk:∀ b u,H2 b=some u→∃ o',(PySem.W.hideAll s2.heap (frs X.stack)).get? b=some o':=fun b u e=>by
  have hb:b ∉ frs X.stack:=fun z=>by rw [I2.stkFree b z] at e;cases e
  have hlt:=I2.hok.lt e
  obtain ⟨o1,e1⟩:∃ o1,s2.heap.get? b=some o1:=by
   cases hq:s2.heap.get? b with
   | some o1=>exact ⟨o1,rfl⟩
   | none=>exact absurd hq (objOk_there (I2.hok b u e))
  exact ⟨o1,hBget b o1 e1 hb⟩
 have F2:s2.heap.FunFrames (PySem.W.hideAll s2.heap (frs X.stack)) X.outer:=by obtain ⟨_,_,k⟩:=F1;exact k
 have up2:s2.heap.UpToSlots h'':=(Heap.UpToSlots.of_keeps hx.keeps).trans up
 exact ⟨a,C,.ref t,_,H2,rfl,⟨I2.os,I2.bare,un_later (Bd.base I2) F2 hB0 fly.1 up2 cov,hok_later I2.hok hB0 fly.1 trk,fly,cov,trk⟩,q2⟩
where
 objOk_there {P:Program} {w:World} {H:Hp} {h:Heap} {a:Addr} {o:HO} (x:ObjOk P w H h a o):h.get? a≠none:=by
  cases o with
  | lst xs=>obtain ⟨_,_,_,_,e⟩:=x;rw [e];simp
  | tup xs=>obtain ⟨_,_,_,ob,e,_⟩:=x;rw [e];simp
  | dK kvs=>obtain ⟨_,_,_,_,o,_,_,e,_⟩:=x;rw [e];simp
  | dT kvs=>obtain ⟨_,_,_,_,o,_,_,e,_⟩:=x;rw [e];simp
  | set S n=>obtain ⟨o,_,_,_,e,_⟩:=x;rw [e];simp
  | ins C dx fs=>obtain ⟨_,_,_,e,_⟩:=x;rw [e];simp
  | own y=>obtain ⟨_,e⟩:=x;rw [e];simp
  | xd fs=>obtain ⟨_,⟨_,_,_,e,_⟩,_⟩:=x;rw [e];simp
  | rng lo hi=>obtain ⟨_,_,_,e⟩:=x;rw [e];simp
  | frz ob u=>obtain ⟨e,_⟩:=x;rw [e];simp
  | tbl ps=>have e:h.get? a=some _:=x;rw [e];simp
  | met f y=>have e:h.get? a=some _:=x;rw [e];simp
  | ext φ=>obtain ⟨_,⟨_,e⟩,_⟩:=x;rw [e];simp
end
end L2
namespace L2
open PySem PySem.Spec PyProof.Rows
def ExcAt (a C:Addr) (h:Heap):Prop:=∃ oe vs,h.get? a=some oe∧oe.cls=.ref C∧oe.data=.fields vs
theorem ExcAt.mono {a C:Addr} {h1 h2:Heap} (x:ExcAt a C h1) (k:∀ o,h1.get? a=some o→h2.get? a=some o):ExcAt a C h2:=let ⟨oe,vs,e,c,d⟩:=x;⟨oe,vs,k _ e,c,d⟩
structure Catch (K:PySem.W.Frag) (C:Addr):Prop where
 ty:PySem.W.typeIn K (.ref C)=some (.type "type")
 cls:(PySem.W.clsIn K C).isSome=true
 base:PySem.W.subIn K (.ref C) (.type "BaseException")=some true
section
variable {X:Cx} {E:XK} {pins:List (Addr × Obj)} {σ:St} {H:Hp} {s:Shared} {a:Addr}
theorem Un.ext {fs:List Addr} {H H':Hp} {h h':Heap} {a:Addr} {o:HO} (u:Un fs [] H H' h h') (ha:h.get? a=none) (hn:H' a=none):Un fs [] H (upd H' a o) h h' where
 keep:=u.keep
 slot:=u.slot
 free:=fun b ob e n hx=>by rw [upd_ne (fun z=>by rw [z,ha] at e;cases e)];exact u.free b ob e n hx
 there:=u.there
 tups:=fun b xs e=>by have q:=u.tups b xs e;rw [upd_ne (ne_of_none q hn)];exact q
 frzs:=fun b ob xs e=>by have q:=u.frzs b ob xs e;rw [upd_ne (ne_of_none q hn)];exact q
 tbls:=fun b ps e=>by obtain ⟨m,q⟩:=u.tbls b ps e;exact ⟨m,by rw [upd_ne (ne_of_none q hn)];exact q⟩
end
end L2
namespace L2
open PySem PySem.Spec PyProof.Rows
structure ExcCls (K:PySem.W.Frag) (C:Addr):Prop where
 ga:PySem.W.findIn K (.ref C) "__getattribute__"=some (some (.builtin "BaseException.__getattribute__"))
 nga:PySem.W.findIn K (.ref C) "__getattr__"=some none
 at_:PySem.W.findIn K (.ref C) "__class__"=some (some (.builtin "object.__class__"))
 cls:(PySem.W.clsIn K C).isSome=true
 obj:PySem.W.mroIn K C (.type "object")=some true
 base:PySem.W.subIn K (.ref C) (.type "BaseException")=some true
section
variable {prog:Program} {w:World} {A:Around} {E:Value→Shared→Prop} {h:Heap} {g:Array GenState} {d:Drawn} {t:Nat} {os:OsState} {K:PySem.W.Frag} {a C:Addr}
theorem ExcAt.type {M:Model} (x:ExcAt a C h):PySem.W.Looks M h (typeOf (.ref a)) (.ref C):=by
 obtain ⟨oe,vs,he,hc,hd⟩:=x
 exact hc ▸ (PySem.W.Looks.ld he).andThen .now
end
end L2
namespace L2
open PySem PySem.Spec PyProof.Rows
abbrev TJ:=Str→St→Hp→VK→Prop
def PJ (X:Cx) (es:List Expr) (t:TJ):Prop :=
 ∀ (out:Str) (pins:List (Addr × Obj)) (s:Shared) (σ:St) (H:Hp) (Q:VK),Inv X pins σ H s→t out σ H Q→wpAny (model X.prog X.w) X.A (joinParts out (evalEach es X.env)) (EP X pins σ Q) X.xe s
section
variable {X:Cx} {e:Expr} {es:List Expr} {te:TE} {t:TJ} {pos:Pos}
def jNil:TJ:=fun out _ H Q=>out.length≤sizeLine∧Q (.str out) H
theorem pj_nil:PJ X [] jNil:=fun out pins s σ H Q I h=>joinParts_nil (show EP X pins σ Q (.str out s.toks) { s with toks:=s.toks+1 } from ⟨.str out,H,I.tok _,⟨_,rfl⟩,h.2⟩) h.1
def jCons (te:TE) (t:TJ):TJ:=fun out σ H Q=>te σ H fun v H1=>∃ y,v=.str y∧(out ++ y).length≤sizeLine∧t (out ++ y) σ H1 Q
theorem pj_cons (he:PE X e te) (hr:PJ X es t):PJ X (e :: es) (jCons te t):=by
 intro out pins s σ H Q I h
 refine joinParts_consE (joinParts_cons (thn (he pins s σ H _ I h) fun v s1 ⟨x,H1,I1,r1,y,ex,hz,q⟩=>?_))
 subst ex
 obtain ⟨tk,rfl⟩:=r1
 exact ⟨hz,hr _ pins s1 σ H1 Q I1 q⟩
theorem pe_fstr {e1 e2:Expr} {rest:List Expr} (h:PJ X (e1 :: e2 :: rest) t):PE X (.JoinedStr (e1 :: e2 :: rest) pos) (fun σ H Q=>t Str.empty σ H Q):=fun pins s σ H Q I hw=>JoinedStr_many (h Str.empty pins s σ H Q I hw)
def tFmtI (te:TE):TE:=fun σ H Q=>te σ H fun v H1=>∃ i,v=.int i∧i.natAbs.log2 < 1920∧Q (.str (toString i)) H1
theorem pe_fmtI (he:PE X e te):PE X (.FormattedValue e (-1) none pos) (tFmtI te):=by
 intro pins s σ H Q I h
 refine FormattedValue_plain (thn (he pins s σ H _ I h) fun v s1 ⟨x,H1,I1,r1,i,ex,hi,q⟩=>?_)
 subst ex
 obtain ⟨tk,rfl⟩:=r1
 exact formatField_int_small hi ⟨.str _,H1,I1.tok _,⟨_,rfl⟩,q⟩
theorem log_lt {i:Int} {n:Nat} (h:i.natAbs < 2 ^ n) (hn:n≤1920) (h0:0 < n):i.natAbs.log2 < 1920:=by
 by_cases z:i.natAbs=0
 ·rw [z];decide
 ·have:=(Nat.log2_lt z).mpr h
  omega
end
end L2
namespace L2
open PySem PySem.Spec PyProof.Rows
theorem PS.nox {X:Cx} {st:Stmt} {t:TS} (h:PS X.nox st t):PS X st t:=fun pins s σ H D I hw =>
 wpAny_mono (h pins s σ H D (I.wish _) hw) (fun _ _ q=>q.unwish) fun _ _ z=>False.elim z
theorem passN {X:Cx}:Passes (CX1 X.prog X.w) X E0:=fun _ _ _ _ _ _ _ h=>by obtain ⟨_,_,_,_,_,_,_,q⟩:=h;exact q.elim
structure Def (P:Program) (w:World) (K:PySem.W.Frag) (mg:Str→Option Value) (base:Heap) (k:Nat) (x:Str) (ps:List Str) (sp:Sp):Prop where
 ex:∃ (f:Addr) (fd:FuncData),FnOk P w K mg base (CX1 P w) k f fd ps sp∧mg x=some (.ref f)∧PySem.W.keepIn K (.ref f)=true∧Binds K fd ps []
section
variable {P:Program} {w:World} {K:PySem.W.Frag} {mg:Str→Option Value} {base:Heap}
theorem Def.mono {j k:Nat} {x:Str} {ps:List Str} {sp:Sp} (D:Def P w K mg base j x ps sp) (h:j≤k):Def P w K mg base k x ps sp:=let ⟨f,fd,a,r⟩:=D.ex;⟨f,fd,a.mono h,r⟩
structure Site (K:PySem.W.Frag) (mg:Str→Option Value) (x:Str) (st:Stmt):Prop where
 ex:∃ (f:Addr) (fd:FuncData),Fun K x x st f fd∧mg x=some (.ref f)
theorem Site.mk' {h:Heap} {x:Str} {st:Stmt} {f:Addr} {oc:Value} {od an:Option Addr} {osl:Array (Option Value)} {kV doc pm cdv ct:Value} (KX:K.In h) (G:h.Ns mainGlobals mg)
  (a:PySem.W.nsIn K mainGlobals x=some (some (.ref f))) (l:K.lookup f=some ⟨oc,od,.func (PySem.W.fnOf x x (defArgs st) (defBody st) (defScope st) .none kV doc pm an cdv ct),osl⟩)
  (c:PySem.W.codeIn K cdv x=true) (k:PySem.W.keepIn K (.ref f)=true):Site K mg x st:=⟨f,_,fun_mk l c k,PySem.W.mg_of KX G a⟩
abbrev cx1 (P:Program) (w:World) (K:PySem.W.Frag) (mg:Str→Option Value) (base:Heap) (N:List Str) (x:Str) (st:Stmt) (f:Addr) (cdv:Value) (A:Around) (outer:List Env) (s:Shared) (H:Hp) (E:XK):Cx :=
 cxOf (CX1 P w) P w K mg base N x (defScope st) f cdv A outer s H E
theorem cx1_body {N:List Str} {x:Str} {st:Stmt} {f:Addr} {cdv:Value} {A:Around} {outer:List Env} {s:Shared} {H:Hp} {E:XK}:Body (cx1 P w K mg base N x st f cdv A outer s H E) E:=⟨rfl,rfl,rfl,rfl⟩
theorem Site.def {x:Str} {st:Stmt} {N ps:List Str} {k:Nat} {sp:Sp} (F:Site K mg x st) (S:FnScope N ps (defScope st))
  (hb:∀ (kV doc pm:Value) (an:Option Addr) (cdv ct:Value) (us:List Value),us.length=ps.length→bindArgs (PySem.W.fnOf x x (defArgs st) (defBody st) (defScope st) .none kV doc pm an cdv ct) ⟨us,[]⟩=pure (ps.zip us))
  (len:∀ vs H Q E,sp vs H Q E→vs.length=ps.length)
  (hbody:∀ (f:Addr) (cdv:Value) (A:Around) (outer:List Env) (s:Shared) (H:Hp) (vs:List V) (Q:VK) (E:XK),Room k (A.deeper (envOfC x (defScope st) s.heap.objs.size f cdv))→sp vs H Q E →
   ∃ t,PSs (cx1 P w K mg base N x st f cdv A outer s H E) (defBody st) t∧t { nx:=fun _ H'=>Q .non H',rt:=Q } (start N vs) H):Def P w K mg base (k+1) x ps sp:=by
 obtain ⟨f,fd,F1,hm⟩:=F.ex
 have b:=F1.binds hb
 have kp:=F1.kp
 obtain ⟨oc,od,kV,doc,pm,an,cdv,ct,osl,rfl,lk,hcd⟩:=F1.ex
 exact ⟨f,_,fn_of lk hcd S len fun A outer s H vs Q E hr hsp=>hbody f cdv A outer s H vs Q E hr hsp,hm,kp,b⟩
end
section
variable {X:Cx} {k:Nat} {ps:List Str} {sp:Sp} {E:XK} {x:Str} {p pos:Pos} {e:Expr} {es:List Expr} {t:TA}
theorem pe_def (D:Def X.prog X.w X.K X.mg X.base k x ps sp) (hr:Room k X.A) (hx:Passes (CX1 X.prog X.w) X E) (ha:PA X (e :: es) t) (hg:Gl X x:=by rfl) (hdb:(x == ("__debug__":Str))=false:=by decide)
  (he:starEach (e :: es) X.env=(false,eval e X.env) :: starEach es X.env:=by rfl) (hpl:(backTo pos (starEach es X.env)).any (·.1)=false:=by rfl) :
  PE X (.Call (.Name x p) (e :: es) [] pos) (tCall sp [] E t):=by
 obtain ⟨f,fd,F,hm,hk,hb⟩:=D.ex
 exact pe_call F hr hg hm hk hb .nil hx ha hdb he hpl
end
end L2
namespace L2
open PySem PySem.Spec PyProof.Rows
section
variable {X:Cx}
def rCatS (K:PySem.W.Frag):R2:=fun x y H Q=>∃ l b xs zs,x=.ref l∧y=.ref b∧SqL K H l xs∧SqL K H b zs∧xs.length+zs.length≤sizeLine∧∀ p,H p=none→Q (.ref p) (upd H p (.lst (xs ++ zs)))
theorem op_catS:OpR X (binaryOp .Add) (rCatS X.K):=by
 intro pins s σ H x y v u Q I rx ry h
 obtain ⟨l,b,xs,zs,rfl,rfl,hH,hB,hz,q⟩:=h
 cases rx
 cases ry
 obtain ⟨its,r,pl,_⟩:=I.list hH
 obtain ⟨its2,r2,pl2,_⟩:=I.list hB
 obtain ⟨⟨cls,dd,data,sl⟩,ho,hc,n,hd⟩:=id pl.isList
 obtain ⟨⟨cls2,dd2,data2,sl2⟩,ho2,hc2,n2,hd2⟩:=id pl2.isList
 simp only at hc hd hc2 hd2
 subst hc hd hc2 hd2
 have e:its.toArray ++ its2.toArray=(its ++ its2).toArray:=by simp
 have hsz:its.toArray.size+its2.toArray.size≤sizeLine:=by
  rw [List.size_toArray,List.size_toArray,← r.length,← r2.length];exact hz
 refine concat_meets ⟨_,ho,rfl⟩ ⟨_,ho2,rfl⟩ noFill_list_add seq_list_add PySem.F.slot_list_add PySem.F.entry_list_add (PySem.F.args_list_add_2 _ _) (list_addW l b its.toArray its2.toArray n n2 dd dd2 sl sl2 hsz) ⟨ho,ho2,?_⟩
 rw [e]
 exact ⟨.ref _,_,I.lnew (t':=s.toks) (r.append r2) (by rw [List.length_append];exact hz),rfl,q _ I.fresh⟩
inductive TyX (K:PySem.W.Frag) (H:Hp):V→Value→Prop where
 | of {x:V} {t:Value}:TyOf K H x t→TyX K H x t
 | exc {a C:Addr}:H a=some (.ext (ExcAt a C))→ExcCls K C→TyX K H (.ref a) (.ref C)
end
end L2
namespace L2
open PySem PySem.Spec PyProof.Rows
end L2
namespace L2
open PySem PySem.Spec PyProof.Rows
def spLaw (K:PySem.W.Frag):Sp:=fun vs H Q _=>∃ (a:Addr) (ns:List Int),vs=[.ref a]∧SqL K H a (ns.map V.int)∧ns.length≤63∧∀ H',Q (.bl true) H'
section
variable {P:Program} {w:World} {K:PySem.W.Frag} {mg:Str→Option Value} {base:Heap}
theorem Fun.ok1 {x:Str} {st:Stmt} {f:Addr} {fd:FuncData} {N ps:List Str} {k:Nat} {sp:Sp} (F:Fun K x x st f fd) (S:FnScope N ps (defScope st)) (len:∀ vs H Q E,sp vs H Q E→vs.length=ps.length)
  (hbody:∀ (f:Addr) (cdv:Value) (A:Around) (outer:List Env) (s:Shared) (H:Hp) (vs:List V) (Q:VK) (E:XK),Room k (A.deeper (envOfC x (defScope st) s.heap.objs.size f cdv))→sp vs H Q E →
   ∃ t,PSs (cx1 P w K mg base N x st f cdv A outer s H E) (defBody st) t∧t { nx:=fun _ H'=>Q .non H',rt:=Q } (start N vs) H):FnOk P w K mg base (CX1 P w) (k+1) f fd ps sp:=by
 obtain ⟨oc,od,kV,doc,pm,an,cdv,ct,osl,rfl,lk,hcd⟩:=F.ex
 exact fn_of lk hcd S len fun A outer s H vs Q E hr hsp=>hbody f cdv A outer s H vs Q E hr hsp
theorem law_site {st:Stmt} {fa:Addr} {k:Nat} (S:Site K mg "law" st)
  (hb:∀ (kV doc pm:Value) (an:Option Addr) (cdv ct:Value) (us:List Value),us.length=1→bindArgs (PySem.W.fnOf "law" "law" (defArgs st) (defBody st) (defScope st) .none kV doc pm an cdv ct) ⟨us,[]⟩=pure ((["script"]:List Str).zip us))
  (hmg:mg "law"=some (.ref fa)) (hF:∀ (f:Addr) (fd:FuncData) (base:Heap),Fun K "law" "law" st f fd→FnOk P w K mg base (CX1 P w) k f fd ["script"] (spLaw K)) :
  ∃ fd:FuncData,(∀ (s:Shared) (u:Value),BindsTo s fd ⟨[u],[]⟩ [("script",u)])∧∀ base:Heap,K.In base→base.Ns mainGlobals mg→FnOk P w K mg base (CX1 P w) k fa fd ["script"] (spLaw K):=by
 obtain ⟨f,fd,F,hm⟩:=S.ex
 rw [hmg] at hm
 cases hm
 refine ⟨fd,?_,fun base _ _=>hF fa fd base F⟩
 obtain ⟨oc,od,kV,doc,pm,an,cdv,ct,osl,rfl,lk,hcd⟩:=F.ex
 exact fun s u=>.of_eq (hb kV doc pm an cdv ct [u] rfl)
end
theorem walk_ofS {l:PySem.W.OpenLaw} {k:Nat} {q:Program} {loose:List Str} {XP:(Str→Option Value)→Heap→Prop} {YP:World→Heap→Prop} {d:DefRec} {K:Params→PySem.W.Frag}
  (hr:Room k callerA) (hn:l.most=some 63) (hdf:d.params.defaults=[])
  (hY:∀ (w:World) (h:Heap),YP w h→(K w.params).In h)
  (F:∀ (w:World) (mg:Str→Option Value) (fa:Addr) (h:Heap),(K w.params).In h→h.Ns mainGlobals mg→mg d.name=some (.ref fa) →
   ∃ fd:FuncData,(∀ (s:Shared) (u:Value),BindsTo s fd ⟨[u],[]⟩ [("script",u)]) ∧
    ∀ base:Heap,(K w.params).In base→base.Ns mainGlobals mg→FnOk l.prog w (K w.params) mg base (CX1 l.prog w) k fa fd ["script"] (spLaw (K w.params))) :
  PySem.W.WalkO q loose XP YP l.row.toRowW d [] (fun f vs=>PySem.call f vs) :=
 walk_of (n:=63) (k:=k) (x:="script") (CX:=fun w=>CX1 l.prog w) (sp:=fun w=>spLaw (K w.params)) hn (by decide) hdf hr hY F (fun _ _ a ns hl _ hS=>⟨a,ns,rfl,hS,hl,fun _=>rfl⟩)
  fun _ _ _ _ _ h=>by obtain ⟨_,_,_,_,_,_,_,q⟩:=h;exact q.elim
theorem pe_gint {X:Cx} {x:Str} {n:Int} {pos:Pos} (h:∃ tk,X.mg x=some (.int n tk)) (hg:Gl X x:=by rfl) (hd:(x == ("__debug__":Str))=false:=by decide):PE X (.Name x pos) (tC (.int n)):=by
 obtain ⟨tk,e⟩:=h
 exact pe_glob hg e ⟨tk,rfl⟩ hd
end L2
namespace L2
open PySem
theorem iteN {p A B:Prop} [Decidable p] (hp:¬ p) (h:B):if decide p=true then A else B:=by rw [decide_eq_false hp];exact iteF h
theorem iteY {p A B:Prop} [Decidable p] (hp:p) (h:A):if decide p=true then A else B:=by rw [decide_eq_true hp];exact iteT h
theorem iteNN {p A B:Prop} [Decidable p] (hp:p) (h:B):if (!decide p)=true then A else B:=by rw [decide_eq_true hp];exact iteF h
theorem iteNY {p A B:Prop} [Decidable p] (hp:¬ p) (h:A):if (!decide p)=true then A else B:=by rw [decide_eq_false hp];exact iteT h
theorem small_abs {n:Int} (h:-1000≤n) (h2:n≤1000):n.natAbs < 2 ^ 1000:=by
 have:n.natAbs≤1000:=by omega
 exact Nat.lt_of_le_of_lt this (by decide)
theorem Same.put {H H':Hp} {p:Addr} {o:HO} (s:Same H H') (hp:H p=none):Same H (upd H' p o):=fun b u e=>by rw [upd_ne (ne_of_none e hp)];exact s b u e
theorem Same.new {H H':Hp} {p:Addr} {o:HO} (s:Same H H') (hp:H' p=none):Same H (upd H' p o):=s.put (s.free hp)
end L2
namespace L2
open PySem
end L2
namespace L2
open PySem PySem.Spec PyProof.Rows
theorem own1 {X:Cx} {E:XK} (Bd:Body X E):PassesOwn (model X.prog X.w) X.A X.env X.xe:=by
 rw [Bd.xe]
 exact PassesOwn.leaving
inductive Alike (K:PySem.W.Frag) (H:Hp):Nat→V→V→Prop where
 | int {n:Nat} (i:Int):Alike K H n (.int i) (.int i)
 | bl {n:Nat} (i:Bool):Alike K H n (.bl i) (.bl i)
 | str {n:Nat} (i:Str):Alike K H n (.str i) (.str i)
 | non {n:Nat}:Alike K H n .non .non
 | lst {n:Nat} {a b:Addr} {xs ys:List V} (ha:SqL K H a xs) (hb:SqL K H b ys) (hl:xs.length=ys.length) (h:∀ (j:Nat) (x y:V),xs[j]?=some x→ys[j]?=some y→Alike K H n x y):Alike K H (n+1) (.ref a) (.ref b)
theorem all_true (n:Nat):(List.range n).all (fun _=>true)=true:=by simp
section
variable {X:Cx} {pins:List (Addr × Obj)} {σ:St} {H:Hp} {s:Shared}
theorem rel_at {xs:List V} {its:List Value} (r:Vals xs its) (j:Nat) (h:j < its.toArray.size):∃ x,xs[j]?=some x∧RelV x its.toArray[j]:=by
 have hj:j < its.length:=by simpa using h
 have hl:=r.length
 have hx:xs[j]?=some xs[j]:=by simp [show j < xs.length by omega]
 obtain ⟨u,hu,ru⟩:=r.get hx
 refine ⟨_,hx,?_⟩
 have e:its.toArray[j]=u:=by
  have:=hu
  rw [List.getElem?_eq_getElem hj] at this
  simpa using Option.some.inj this
 rw [e]
 exact ru
theorem alike_at (I:Inv X pins σ H s) {n:Nat} {x y:V} (h:Alike X.K H n x y):∀ {A:Around} {u v:Value},A.units+n < cLine→RelV x u→RelV y v→SeqAt.EqAt A s u v true:=by
 induction h with
 | int i=>intro A u v _ ru rv;have:=eqAt_V (A:=A) (s:=s) ru rv rfl rfl;simpa [eqV] using this
 | bl i=>intro A u v _ ru rv;have:=eqAt_V (A:=A) (s:=s) ru rv rfl rfl;simpa [eqV] using this
 | str i=>intro A u v _ ru rv;have:=eqAt_V (A:=A) (s:=s) ru rv rfl rfl;simpa [eqV] using this
 | non=>intro A u v _ ru rv;have:=eqAt_V (A:=A) (s:=s) ru rv rfl rfl;simpa [eqV] using this
 | @lst n a b xs ys ha hb hl h ih =>
  intro A u v hu ru rv
  cases ru
  cases rv
  by_cases hab:a=b
  ·subst hab
   exact SeqAt.EqAt.same _
  ·obtain ⟨its,r1,p1,_⟩:=I.list ha
   obtain ⟨its2,r2,p2,_⟩:=I.list hb
   have l1:=r1.length
   have l2:=r2.length
   refine SeqAt.EqAt.of_refs hab ?_
   have q:=SeqAt.RcAt.lists (A:=A) (s:=s) (e:=fun _=>true) p1.isList p2.isList (by simp;omega) (by omega) fun j h1 h2=>?_
   ·rw [all_true] at q
    exact q
   ·obtain ⟨x,hx,rx⟩:=rel_at r1 j h1
    obtain ⟨y,hy,ry⟩:=rel_at r2 j h2
    exact ih j x y hx hy (A:=A.in1) (by show A.units+1+n < cLine;omega) rx ry
end
section
variable {X:Cx}
def rEqL (K:PySem.W.Frag) (neg:Bool):R2:=fun x y H Q=>∃ a b xs ys,x=.ref a∧y=.ref b∧SqL K H a xs∧SqL K H b ys ∧
 ((xs.length=ys.length∧(∀ (j:Nat) (u v:V),xs[j]?=some u→ys[j]?=some v→Alike K H 8 u v)∧Q (.bl (!neg)) H)∨(xs.length≠ys.length∧Q (.bl neg) H))
theorem op_eqL (hu:X.A.units+16 < cLine):OpR X (compareOp .Eq) (rEqL X.K false):=by
 intro pins s σ H x y v u Q I rx ry h
 obtain ⟨a,b,xs,ys,rfl,rfl,ha,hb,h⟩:=h
 cases rx
 cases ry
 obtain ⟨its,r1,p1,_⟩:=I.list ha
 obtain ⟨its2,r2,p2,_⟩:=I.list hb
 have l1:=r1.length
 have l2:=r2.length
 rcases h with ⟨hl,he,q⟩ | ⟨hl,q⟩
 ·refine SeqAt.eq_listAt (e:=fun _=>true) p1.isList p2.isList (by simp;omega) (by omega) (fun j h1 h2=>?_) ?_
  ·obtain ⟨x,hx,rx⟩:=rel_at r1 j h1
   obtain ⟨y,hy,ry⟩:=rel_at r2 j h2
   exact alike_at I (he j x y hx hy) (A:=X.A.in1) (by show X.A.units+1+8 < cLine;omega) rx ry
  ·rw [all_true]
   exact ⟨.bl true,H,I,rfl,q⟩
 ·refine SeqAt.eq_list_lengthsAt p1.isList p2.isList (by simp;omega) (by omega) ?_
  exact ⟨.bl false,H,I,rfl,q⟩
theorem ints_alike {K:PySem.W.Frag} {H:Hp} {ns:List Int}:∀ (j:Nat) (u v:V),(ns.map V.int)[j]?=some u→(ns.map V.int)[j]?=some v→Alike K H 8 u v:=fun j u v h1 h2=>by
 rw [h1] at h2
 cases h2
 rw [List.getElem?_map] at h1
 cases e:ns[j]? with
 | none=>rw [e] at h1;cases h1
 | some z=>rw [e] at h1;cases h1;exact .int z
theorem hu16 {A:Around} {k:Nat} (hr:Room k A):A.units+16 < cLine:=by have:=hr.un;omega
end
end L2
namespace L2
open PySem PySem.Spec PyProof.Rows
section
variable {prog:Program} {w:World} {A:Around} {s:Shared} {R:Result→Shared→Prop} {I S:Addr} {fp wr:List Addr} {G:Array GenState→Array GenState→Prop} {n:Nat} {P:Nat→Value→Prop} {St:Nat→Shared→Prop} {T:String}
theorem ext_walk (W:WalksS prog w A.in1 I fp wr G n P St) (hT:∀ i s,St i s→s.TypeIs (.ref I) T) (t1:(Value.type T == Value.type "list")=false) (t2:(Value.type T == Value.type "tuple")=false)
  (hh:∀ (s:Shared) (Q:Bool→Shared→Prop) (E:Value→Shared→Prop),St 0 s→Q false s→wpAny (model prog w) A.in1 (Builtin.List.listLengthHint (.ref I)) Q E s)
  (res:Value) (c0:Nat) (hst:St 0 s) (hSf:S ∉ fp) (hI:I ∈ fp) (hS:s.heap.get? S=some { cls:=.type "list",data:=.seq #[] c0 }) (hn:n≤sizeLine)
  (hR:∀ s' acc' c',Moved (S :: wr) G s s'→s'.heap.get? S=some { cls:=.type "list",dict:=none,data:=.seq acc' c',slots:=#[] }→ItemsOf P acc' n→R (.ok (.ret res)) s') :
  wpAny (model prog w) A.in1 (Builtin.List.listExtendWith (.ref S) (.ref I) res)
   (fun fin s'=>match fin with | .done f=>R (.ok f) s' | .again c'=>c'.quiet=true∧codeAny (model prog w) A c' R s') (fun e s'=>R (.error e) s') s:=by
 have ne:S≠I:=fun e=>hSf (by rw [e];exact hI)
 have h1:Builtin.List.listSameRef (.ref S) (.ref I)=false:=by simp [Builtin.List.listSameRef,ne]
 unfold Builtin.List.listExtendWith
 refine wpAny_bind (wpAny_typeOf (hT 0 s hst) ?_)
 simp only [h1,t1,t2,Bool.or_false,Bool.false_eq_true,if_false]
 refine wpAny_bind (W.self 0 s _ _ hst (wpAny_bind (wpAny_holding (hh s _ _ hst ?_))))
 refine wpAny_ite_split (fun _=>?_) (fun _=>?_)
 ·refine wpAny_bind (wpAny_rule (wpAny_bind ?_))
  show wpAny _ A.in1 (updateSeq S (·.push .none) >>= fun _=>updateSeq S (·.pop)) _ _ s
  refine wpAny_bind (wpAny_updateSeq hS rfl ?_)
  have hS2:=Heap.get?_update_self (Obj.mapSeq (·.push Value.none)) hS rfl
  refine wpAny_updateSeq (hz:=by seq_fits) hS2 rfl ?_
  have hS3:=Heap.get?_update_self (Obj.mapSeq (·.pop)) hS2 rfl
  have kp:∀ b o,b≠S→s.heap.get? b=some o→((s.heap.update S (Obj.mapSeq (·.push Value.none))).update S (Obj.mapSeq (·.pop))).get? b=some o:=fun b o hb e=>by
   rw [Heap.get?_update_other _ _ (Ne.symm hb),Heap.get?_update_other _ _ (Ne.symm hb)];exact e
  exact wpAny_pure ⟨plainId_quiet F.plain_extend_loop _,codeAny_extend_loopS W hn S hSf res n 0 _ _ _ rfl (Nat.zero_le n) (W.frame 0 s _ s.toks hst (Nat.le_refl _) fun b hb o e=>kp b o (fun z=>hSf (by rw [← z];exact hb)) e) hS3 (ItemsOf.nil P)
   fun s' acc' c' hm hS' hacc=>hR s' acc' c' (Moved.trans W.gtrans ((Moved.refl W.grefl).then_heap (Nat.le_refl _) fun b o hb e=>kp b o (fun z=>hb (by rw [z];exact List.mem_cons_self)) e) hm) hS' hacc⟩
 ·exact wpAny_pure ⟨plainId_quiet F.plain_extend_loop _,codeAny_extend_loopS W hn S hSf res n 0 s #[] c0 rfl (Nat.zero_le n) hst hS (ItemsOf.nil P) fun s' acc' c' hm hS' hacc=>hR s' acc' c' hm hS' hacc⟩
theorem list_walk {E:Value→Shared→Prop} {Q:Value→Shared→Prop} (W:WalksS prog w A.in1.in1 I fp wr G n P St) (hT:∀ i s,St i s→s.TypeIs (.ref I) T) (t1:(Value.type T == Value.type "list")=false) (t2:(Value.type T == Value.type "tuple")=false)
  (hh:∀ (s:Shared) (Q:Bool→Shared→Prop) (E:Value→Shared→Prop),St 0 s→Q false s→wpAny (model prog w) A.in1.in1 (Builtin.List.listLengthHint (.ref I)) Q E s)
  (hst:St 0 s) (hfp:∀ b ∈ fp,b < s.heap.objs.size) (hI:I ∈ fp) (hn:n≤sizeLine)
  (hQ:∀ s' acc' c',Moved (s.heap.objs.size :: wr) G { s with heap:=s.heap.push { cls:=.type "list",data:=.seq #[] } } s' →
   s'.heap.get? s.heap.objs.size=some { cls:=.type "list",dict:=none,data:=.seq acc' c',slots:=#[] }→ItemsOf P acc' n→Q (.ref s.heap.objs.size) s') :
  wpAny (model prog w) A (call (.type "list") [.ref I]) Q E s:=by
 have nf:s.heap.objs.size ∉ fp:=fun z=>absurd (hfp _ z) (Nat.lt_irrefl _)
 refine callType_codes (Q₁:=fun obj z=>obj=.ref s.heap.objs.size∧z={ s with heap:=s.heap.push { cls:=.type "list",data:=.seq #[] } }) F.called_list (F.typeCall_list_1 _) F.entry_list_init (code_list_new _ ⟨rfl,rfl⟩) fun obj z hz=>?_
 obtain ⟨rfl,rfl⟩:=hz
 have hS:(s.heap.push { cls:=.type "list",data:=.seq #[] }).get? s.heap.objs.size=some { cls:=.type "list",data:=.seq #[] }:=Heap.get?_push_size _ rfl
 refine ⟨⟨_,hS,rfl⟩,F.args_list_init_2 _ _,?_⟩
 have hst1:=W.frame 0 s (s.heap.push { cls:=.type "list",data:=.seq #[] }) s.toks hst (Nat.le_refl _) fun b _ o e=>Heap.get?_push_of_some _ e
 show wpAny _ A.in1.in1 (do let old ← Builtin.List.listItems (.ref s.heap.objs.size);Builtin.List.listUpdate (.ref s.heap.objs.size) (fun _=>#[]);letGo old.toList.reverse;Builtin.List.listExtendWith (.ref s.heap.objs.size) (.ref I) .none) _ _ _
 refine wpAny_bind ?_
 unfold Builtin.List.listItems
 refine wpAny_bind (wpAny_seqItems hS rfl (wpAny_pure (wpAny_bind (wpAny_updateSeq hS rfl ?_))))
 have hS2:=Heap.get?_update_self (Obj.mapSeq (fun _=>(#[]:Array Value))) hS rfl
 have kp:∀ b o,b≠s.heap.objs.size→(s.heap.push { cls:=.type "list",data:=.seq #[] }).get? b=some o→((s.heap.push { cls:=.type "list",data:=.seq #[] }).update s.heap.objs.size (Obj.mapSeq (fun _=>(#[]:Array Value)))).get? b=some o :=
  fun b o hb e=>(Heap.get?_update_other _ _ (Ne.symm hb)).trans e
 refine wpAny_bind (wpAny_letGo ?_)
 refine ext_walk W hT t1 t2 hh .none _ (W.frame 0 _ _ s.toks hst1 (Nat.le_refl _) fun b hb o e=>kp b o (fun z=>nf (by rw [← z];exact hb)) e) nf hI hS2 hn fun s' acc' c' hm hS' hacc=>?_
 exact ⟨rfl,hQ s' acc' c' (Moved.trans W.gtrans ((Moved.refl W.grefl).then_heap (Nat.le_refl _) fun b o hb e=>kp b o (fun z=>hb (by rw [z];exact List.mem_cons_self)) e) hm) hS' hacc⟩
end
theorem rev_nolen:typeLookup (.type "list_reverseiterator") "__len__"=pure none:=by rw [typeLookup_type,builtinLookup_eq_fast];kernel_rfl
theorem rev_hint:typeLookup (.type "list_reverseiterator") "__length_hint__"=pure (some (.builtin "list_reverseiterator.__length_hint__")):=by rw [typeLookup_type,builtinLookup_eq_fast];kernel_rfl
theorem hint_rev {prog:Program} {w:World} {A:Around} {s:Shared} {E:Value→Shared→Prop} {Q:Bool→Shared→Prop} {it l:Addr} {i:Int} (hit:s.heap.IsRevIter it l i) (h:Q false s) :
  wpAny (model prog w) A (Builtin.List.listLengthHint (.ref it)) Q E s:=by
 unfold Builtin.List.listLengthHint
 refine wpAny_bind (wpAny_specialOf hit.typeIs rev_nolen ?_)
 show wpAny _ A (specialOf (Value.ref it) (Str.ofString "__length_hint__") >>= _) _ _ _
 refine wpAny_bind (wpAny_specialOf hit.typeIs rev_hint ?_)
 generalize hid:("list_reverseiterator.__length_hint__":String)=id0
 wp_delta
 rw [show splitId id0=some ("list_reverseiterator","__length_hint__") from by subst hid;decide +kernel]
 subst hid
 refine wpAny_bind (wpAny_isInstance (T:="list_reverseiterator") (b:=true) hit.typeIs (by rw [isSubtype_type];kernel_rfl) ?_)
 refine wpAny_ite_split (fun z=>absurd z (by decide)) (fun _=>?_)
 refine wpAny_ite_split (fun _=>?_) (fun z=>absurd (by decide +kernel) z)
 exact wpAny_ite_split (fun z=>absurd z (by decide +kernel)) (fun _=>wpAny_pure h)
section
variable {X:Cx}
def tRevL (K:PySem.W.Frag) (te:TE):TE:=fun σ H Q=>te σ H fun v H1=>∃ l xs,v=.ref l∧SqL K H1 l xs∧∀ q,H1 q=none→Q (.ref q) (upd H1 q (.lst xs.reverse))
theorem pe_list_reversed {e:Expr} {te:TE} {p p2 pos pos2:Pos} (hc:X.calm=true) (hml:X.mg "list"=none) (hmr:X.mg "reversed"=none) (he:PE X e te) (hgl:Gl X "list":=by rfl) (hgr:Gl X "reversed":=by rfl)
  (hs:starEach [e] X.env=[(false,eval e X.env)]:=by rfl) (hs2:starEach [Expr.Call (.Name "reversed" p2) [e] [] pos2] X.env=[(false,eval (Expr.Call (.Name "reversed" p2) [e] [] pos2) X.env)]:=by rfl) :
  PE X (.Call (.Name "list" p) [.Call (.Name "reversed" p2) [e] [] pos2] [] pos) (tRevL X.K te):=by
 intro pins s σ H Q I h
 refine wpAny_Call_Name_kw (ld_blt I hgl hml boot_list ?_ (by decide) (by decide))
 refine PyProof.Rows.callWith_type1 ?_ hs2 rfl
 rw [hs2]
 show wpAny _ _ (spliced [(false,eval (Expr.Call (.Name "reversed" p2) [e] [] pos2) X.env)]) _ _ s
 refine Calls.spliced_cons (wpAny_Call_Name_kw (ld_blt I hgr hmr boot_reversed ?_ (by decide) (by decide)))
 refine PyProof.Rows.callWith_type1 ?_ hs rfl
 rw [hs]
 show wpAny _ _ (spliced [(false,eval e X.env)]) _ _ s
 refine Calls.spliced_cons (thn (he pins s σ H _ I h) fun v s1 ⟨x,H1,I1,r1,q1⟩=>Calls.spliced_nil ?_)
 obtain ⟨l,xs,rfl,hq,q⟩:=q1
 cases r1
 obtain ⟨its,rv,pl,hz⟩:=I1.list hq
 have hlen:=rv.length
 refine call_reversed_list pl.isList (Calls.spliced_nil ?_)
 have hlt:l < s1.heap.objs.size:=by
  obtain ⟨o,n,ho,_⟩:=pl
  exact Heap.lt_size ho
 have hlne:l≠s1.heap.objs.size:=Nat.ne_of_lt hlt
 have W:=(Walks.listRev (prog:=X.prog) (w:=X.w) (A:=X.A.in1.in1) (I.ok.hd hc) s1.heap.objs.size l hlne its.toArray).toS
 have psz:(s1.heap.push (revObj l ((its.toArray.size:Int) - 1))).objs.size=s1.heap.objs.size+1:=Heap.size_push ..
 have pl2:(s1.heap.push (revObj l ((its.toArray.size:Int) - 1))).IsList l its.toArray:=pl.isList.at fun o e=>Heap.get?_push_of_some _ e
 refine list_walk W (T:="list_reverseiterator") (fun i s' st=>st.2.1.typeIs) (by decide) (by decide) (fun s' Q' E' st hq'=>hint_rev st.2.1 hq') ⟨Nat.zero_le _,⟨_,Heap.get?_push_size _ rfl,rfl,by unfold revObj;simp⟩,pl2⟩ (fun b hb=>?_) (by simp) (by simp;omega) fun s' acc' c' hm hS' hacc=>?_
 ·have hb':b=s1.heap.objs.size∨b=l:=by simpa using hb
  show b < (s1.heap.push (revObj l ((its.toArray.size:Int) - 1))).objs.size
  rw [psz]
  rcases hb' with rfl | rfl
  ·exact Nat.lt_succ_self _
  ·exact Nat.lt_succ_of_lt hlt
 ·have ea:acc'=its.reverse.toArray:=by
   obtain ⟨a1,a2⟩:=hacc
   apply Array.ext'
   apply List.ext_getElem?
   intro j
   by_cases hj:j < its.length
   ·have hj':j < acc'.size:=by rw [a1];simpa using hj
    have g:=a2 j acc'[j] (by simp [hj'])
    have e1:acc'.toList[j]?=some acc'[j]:=by simp [hj']
    rw [e1]
    simp only [List.getElem?_toArray,List.size_toArray] at g
    show _=its.reverse[j]?
    rw [List.getElem?_reverse hj,g]
   ·have:acc'.toList[j]?=none:=by simp;rw [a1];simp;omega
    rw [this]
    simp
    omega
  subst ea
  rw [Moved.eq_with hm]
  have kp:∀ b o,s1.heap.get? b=some o→s'.heap.get? b=some o:=fun b o eb=>by
   have hbl:=Heap.lt_size eb
   refine hm.heap b o (fun z=>?_) (Heap.get?_push_of_some _ (Heap.get?_push_of_some _ eb))
   have z':b=(s1.heap.push (revObj l ((its.toArray.size:Int) - 1))).objs.size∨b=s1.heap.objs.size:=by simpa using z
   rw [psz] at z'
   rcases z' with z' | z'
   ·exact absurd hbl (by rw [z'];exact Nat.not_lt.mpr (Nat.le_succ _))
   ·exact absurd hbl (by rw [z'];exact Nat.lt_irrefl _)
  refine ⟨.ref _,_,I1.laid (t':=s'.toks) (o:=.lst xs.reverse) (a:=(s1.heap.push (revObj l ((its.toArray.size:Int) - 1))).objs.size) kp (by rw [psz];omega) ?_,rfl,q _ (I1.hok.fresh (by rw [psz];omega))⟩
  exact ⟨by rw [List.length_reverse];exact hz,its.reverse,c',rv.reverse,hS'⟩
end
end L2
namespace L2
open PySem PySem.Spec PyProof.Rows
def scopeOk (Nc:List Str) (ix:List (Option Nat)) (scope sc:Scope) (N:List Str):Bool :=
 decide (scope.kind=.function) && decide Nc.Nodup && decide (ix.length=Nc.length) &&
 (scope.names.all fun x=>decide (x.2=.local→scope.names.lookup x.1=some .local)) &&
 (scope.names.all fun x=>decide (x.2=.free→sc.names.lookup x.1=some .cell∨sc.names.lookup x.1=some .free)) &&
 (scope.names.all fun x=>decide (x.2=.free→(x.1,NameKind.cell) ∉ scope.names)) &&
 ((ix.zip Nc).all fun p=>match p.1 with | none=>true | some j=>decide (N[j]?=some p.2∧scope.names.lookup p.2=some .free))
theorem cscope {X:Cx} {Nc:List Str} {ix:List (Option Nat)} {scope:Scope} (sc:Scope) (N:List Str) (hsc:X.env.scope=sc) (hN:X.N=N) (h:scopeOk Nc ix scope sc N=true):CompScope X Nc ix scope:=by
 subst hsc hN
 simp only [scopeOk,Bool.and_eq_true,decide_eq_true_eq,List.all_eq_true] at h
 obtain ⟨⟨⟨⟨⟨⟨h1,h2⟩,h3⟩,h4⟩,h5⟩,h6⟩,h7⟩:=h
 refine ⟨h1,h2,h3,h4,h5,fun x hx=>h6 _ hx rfl,fun i j x e1 e2=>?_⟩
 have hm:(some j,x) ∈ ix.zip Nc:=by
  refine List.mem_iff_getElem?.mpr ⟨i,?_⟩
  rw [List.getElem?_zip_eq_some]
  exact ⟨e1,e2⟩
 have:=h7 _ hm
 simpa using this
end L2
namespace L2
open PySem PySem.Spec PyProof.Rows
section
variable {K:PySem.W.Frag} {g:TG} {tt:TT} {te:TE} {D:Addr} {σ:St} {H:Hp} {Q:VK}
theorem lc_list {a:Addr} {xs:List V} (Pv:Nat→St→Hp→Prop) (h0:Pv 0 σ H) (hl:∀ i σ H,i≤xs.length→Pv i σ H→SqL K H a xs)
  (hs:∀ (i:Nat) (x:V) (σ:St) (H:Hp) (N:St→Hp→Prop),(∀ σ H,Pv (i+1) σ H→N σ H)→xs[i]?=some x→Pv i σ H→g x σ H fun σ3 H3=>tt σ3 H3 fun b H4 =>
   if b=true then te σ3 H4 fun v H5=>∃ ys,H5 D=some (.lst ys)∧ys.length < sizeLine∧N σ3 (upd H5 D (.lst (ys ++ [v]))) else N σ3 H4)
  (hd:∀ σ H,Pv xs.length σ H→Q (.ref D) H) :
  lcRun (Itl K a) g tt te D σ H Q:=by
 refine ⟨fun i m σ H=>m=xs.length - i∧i≤xs.length∧Pv i σ H,⟨xs.length,by simp,Nat.zero_le _,h0⟩,?_⟩
 rintro i m σ' H' ⟨rfl,hi,p⟩
 have q:=hl i σ' H' hi p
 by_cases hlt:i < xs.length
 ·refine .inr ⟨⟨xs,xs[i],q,by simp [hlt]⟩,fun x H2 y=>?_⟩
  obtain ⟨e,y⟩:=y
  subst e
  exact hs i x σ' _ (fun σ3 H3=>∃ m',m' < xs.length - i∧m'=xs.length - (i+1)∧i+1≤xs.length∧Pv (i+1) σ3 H3) (fun σ3 H3 z=>⟨xs.length - (i+1),by omega,rfl,hlt,z⟩) (y xs q) p
 ·have e:i=xs.length:=by omega
  subst e
  exact .inl ⟨⟨xs,q,Nat.le_refl _⟩,hd σ' H' p⟩
theorem lc_range {lo:Int} {n:Nat} (Pv:Nat→St→Hp→Prop) (h0:Pv 0 σ H)
  (hs:∀ (i:Nat) (σ:St) (H:Hp) (N:St→Hp→Prop),(∀ σ H,Pv (i+1) σ H→N σ H)→i < n→Pv i σ H→g (.int (lo+i)) σ H fun σ3 H3=>tt σ3 H3 fun b H4 =>
   if b=true then te σ3 H4 fun v H5=>∃ ys,H5 D=some (.lst ys)∧ys.length < sizeLine∧N σ3 (upd H5 D (.lst (ys ++ [v]))) else N σ3 H4)
  (hd:∀ σ H,Pv n σ H→Q (.ref D) H) :
  lcRun (Itr lo n) g tt te D σ H Q:=by
 refine ⟨fun i m σ H=>m=n - i∧i≤n∧Pv i σ H,⟨n,by simp,Nat.zero_le _,h0⟩,?_⟩
 rintro i m σ' H' ⟨rfl,hi,p⟩
 by_cases hlt:i < n
 ·refine .inr ⟨hlt,fun x H2 y=>?_⟩
  obtain ⟨e,y⟩:=y
  subst e y
  exact hs i σ' _ (fun σ3 H3=>∃ m',m' < n - i∧m'=n - (i+1)∧i+1≤n∧Pv (i+1) σ3 H3) (fun σ3 H3 z=>⟨n - (i+1),by omega,rfl,hlt,z⟩) hlt p
 ·have e:i=n:=by omega
  subst e
  exact .inl ⟨Nat.le_refl _,hd σ' H' p⟩
end
theorem item_of {ns:List Int} {i:Nat} {y:V} (h:(ns.map V.int)[i]?=some y):∃ z,ns[i]?=some z∧y=V.int z:=by
 rw [List.getElem?_map] at h
 cases e:ns[i]? with
 | none=>rw [e] at h;cases h
 | some z=>rw [e] at h;exact ⟨z,rfl,(Option.some.inj h).symm⟩
theorem take_succ {α:Type} {l:List α} {i:Nat} {x:α} (h:l[i]?=some x):l.take (i+1)=l.take i ++ [x]:=by
 rw [List.take_succ,h];rfl
end L2
namespace L2
open PySem
theorem yes_do {σ:St} {H:Hp} {A B:Hp→Prop} (h:A H):tYes σ H fun b H4=>if b=true then A H4 else B H4:=by
 show if true=true then A H else B H
 exact iteT h
end L2
namespace L2
open PySem
theorem turn_do {i:Nat} {x:V} {σ:St} {H:Hp} {A B:St→Hp→Prop} (h:A (σ.set i (some x)) H):gName i x σ H fun σ3 H3=>tYes σ3 H3 fun b H4=>if b=true then A σ3 H4 else B σ3 H4:=by
 show if true=true then A (σ.set i (some x)) H else B (σ.set i (some x)) H
 exact iteT h
end L2
namespace L2
open PySem PySem.Spec PyProof.Rows
section
variable {X:Cx} {pins:List (Addr × Obj)} {σ:St} {H:Hp} {s:Shared} {h':Heap}
theorem Inv.turnedL {ch:List Addr} {t':Nat} (I:Inv X pins σ H s) (k:∀ b o,b ∉ ch→s.heap.get? b=some o→h'.get? b=some o) (hf:∀ b ∈ ch,FpOk X pins H b):Inv X pins σ H { s with heap:=h',toks:=t' }:=by
 have nin:∀ b u,H b=some u→b ∉ ch:=fun b u e z=>by rw [(hf b z).1] at e;cases e
 refine I.call' (s':={ s with heap:=h',toks:=t' }) (ch:=ch) rfl ⟨fun b o e _ _ hx=>k b o hx e,fun b o e _ _ hx=>⟨o.slots,k b o hx e⟩,fun _ _ _ n _=>n,fun b o e hx=>⟨o,k b o hx e⟩,fun _ _ e=>e,fun _ _ _ e=>e,fun b ps e=>⟨#[],by rw [e];simp⟩⟩ ?_ I.bare fun b hb=>?_
 ·intro b o e
  refine (I.hok b o e).stay (fun c u hc q=>k c u ?_ q) (fun _ q=>q) fun _ _ q=>q
  rcases hc with z | z
  ·rw [z];exact nin b o e
  ·exact nin c _ z
 ·obtain ⟨_,q1,_,q3,q4,q5⟩:=hf b hb
  exact ⟨q3,q1,q4,q5⟩
theorem Inv.turnedNew {ch:List Addr} {T:Addr} {o:HO} {t':Nat} (I:Inv X pins σ H s) (k:∀ b o,b ∉ ch→s.heap.get? b=some o→h'.get? b=some o) (hf:∀ b ∈ ch,FpOk X pins H b) (hT:s.heap.objs.size≤T)
  (new:ObjOk X.prog X.w (upd H T o) h' T o):Inv X pins σ (upd H T o) { s with heap:=h',toks:=t' }:=by
 have nin:∀ b u,H b=some u→b ∉ ch:=fun b u e z=>by rw [(hf b z).1] at e;cases e
 have hn:=I.hok.fresh hT
 have old:∀ b u,s.heap.get? b=some u→b≠T:=fun b u e=>Nat.ne_of_lt (Nat.lt_of_lt_of_le (Heap.lt_size e) hT)
 refine I.call' (s':={ s with heap:=h',toks:=t' }) (ch:=ch) rfl ⟨fun b o e _ _ hx=>k b o hx e,fun b o e _ _ hx=>⟨o.slots,k b o hx e⟩,fun b u e n _=>by rw [upd_ne (old b u e)];exact n,fun b o e hx=>⟨o,k b o hx e⟩,
  fun b xs e=>by rw [upd_ne (ne_of_none e hn)];exact e,fun b o u e=>by rw [upd_ne (ne_of_none e hn)];exact e,fun b ps e=>⟨#[],by rw [upd_ne (ne_of_none e hn),e];simp⟩⟩ ?_ I.bare fun b hb=>?_
 ·intro b u e
  by_cases hb:b=T
  ·subst hb
   rw [upd_same] at e
   cases e
   exact new
  ·rw [upd_ne hb] at e
   refine (I.hok b u e).stay (fun c v hc q=>k c v ?_ q) (fun c q=>by rw [upd_ne (ne_of_none q hn)];exact q) fun c xs q=>by rw [upd_ne (ne_of_none q hn)];exact q
   rcases hc with z | z
   ·rw [z];exact nin b u e
   ·exact nin c _ z
 ·obtain ⟨_,q1,_,q3,q4,q5⟩:=hf b hb
  exact ⟨q3,q1,q4,q5⟩
end
def Itz (K:PySem.W.Frag) (a b:Addr):It :=
 ⟨fun i H=>∃ xs ys x y,SqL K H a xs∧SqL K H b ys∧xs[i]?=some x∧ys[i]?=some y,
  fun i H v H'=>∃ p x y,H p=none∧v=.ref p∧H'=upd H p (.tup [x,y])∧(∀ xs,SqL K H a xs→xs[i]?=some x)∧∀ ys,SqL K H b ys→ys[i]?=some y,
  fun i H=>∃ xs ys,SqL K H a xs∧SqL K H b ys∧(xs.length≤i∨ys.length≤i)⟩
theorem turn_zip {P:Program} {w:World} {K:PySem.W.Frag} {elts:List Expr} {x1:Nat} {pos:Pos} {z TI TO i1 i2 l1 l2:Addr} (D:ZipApart z TI TO i1 i2 l1 l2) :
  Turn P w K (.Tuple elts x1 pos) (Itz K l1 l2) [z,TI,TO,i1,i2] z (fun i h=>IsZip h z TI TO .none∧IsPair h TI (.ref i1) (.ref i2)∧(∃ a b,IsPair h TO a b)∧h.IsListIter i1 l1 i∧h.IsListIter i2 l2 i) where
 mem:=by simp
 obj:=fun i h st b hb=>by
  obtain ⟨hz,hTI,⟨a,b',hTO⟩,⟨o1,e1,c1,d1⟩,⟨o2,e2,c2,d2⟩⟩:=st
  simp only [List.mem_cons,List.not_mem_nil,or_false] at hb
  rcases hb with rfl | rfl | rfl | rfl | rfl
  ·exact ⟨_,hz,fun v q=>by cases q⟩
  ·exact ⟨_,hTI,fun v q=>by cases q⟩
  ·exact ⟨_,hTO,fun v q=>by cases q⟩
  ·exact ⟨_,e1,fun v q=>by rw [d1] at q;cases q⟩
  ·exact ⟨_,e2,fun v q=>by rw [d2] at q;cases q⟩
 keep:=fun i h h' st k=>by
  obtain ⟨hz,hTI,⟨a,b',hTO⟩,h1,h2⟩:=st
  exact ⟨k z (by simp) _ hz,k TI (by simp) _ hTI,⟨a,b',k TO (by simp) _ hTO⟩,h1.at fun o e=>k i1 (by simp) o e,h2.at fun o e=>k i2 (by simp) o e⟩
 item:=by
  intro X hP hw hK hc i pins s σ H E I hf st hg
  subst hP hw hK
  obtain ⟨hz,hTI,⟨a,b,hTO⟩,h1,h2⟩:=st
  obtain ⟨xs,ys,x,y,hx,hy,ex,ey⟩:=hg
  obtain ⟨its,rv,p,hzx⟩:=I.list hx
  obtain ⟨its2,rv2,p2,hzy⟩:=I.list hy
  obtain ⟨u,hu,ru⟩:=rv.get ex
  obtain ⟨u2,hu2,ru2⟩:=rv2.get ey
  refine wpAny_pyNext_zip_item D hz hTI hTO h1 h2 p.isList p2.isList (x:=u) (y:=u2) (by simpa using hu) (by simpa using hu2) fun h' a1 a2 a3 a4 a5 a6 kk=>⟨_,rfl,?_⟩
  refine wpAny_letOwnedTupleGo_zip a1 fun h2' hz' hs'=>?_
  have lt:∀ {c o},s.heap.get? c=some o→s.heap.objs.size≠c:=fun e=>Nat.ne_of_gt (Heap.lt_size e)
  have k2:∀ c o,c ∉ [z,TI,TO,i1,i2]→s.heap.get? c=some o→h2'.get? c=some o:=fun c o hc e=>by
   simp only [List.mem_cons,List.not_mem_nil,or_false,not_or] at hc
   exact hs'.extBut _ _ hc.1 (kk c o hc.1 hc.2.2.1 hc.2.2.2.1 hc.2.2.2.2 e)
  have tup:ObjOk X.prog X.w (upd H s.heap.objs.size (.tup [x,y])) h2' s.heap.objs.size (.tup [x,y]) :=
   ⟨by show 2≤sizeLine;decide,[u,u2],.cons ru (.cons ru2 .nil),⟨_,hs'.extBut _ _ (lt hz) a5,rfl,_,rfl⟩⟩
  have hn:=I.hok.fresh (Nat.le_refl s.heap.objs.size)
  refine ⟨.ref s.heap.objs.size,_,I.turnedNew (t':=s.toks) k2 hf (Nat.le_refl _) tup,rfl,⟨_,x,y,hn,rfl,rfl,fun zs hq=>by rw [I.list_inj hq hx];exact ex,fun zs hq=>by rw [I.list_inj hq hy];exact ey⟩,
   ⟨hz',hs'.extBut _ _ D.TIz (kk _ _ D.TIz D.TITO D.TIi1 D.TIi2 hTI),⟨_,_,hs'.extBut _ _ D.TOz a2⟩,a3.extBut hs'.extBut D.i1z,a4.extBut hs'.extBut D.i2z⟩,fun c hc=>?_⟩
  have hcn:c≠s.heap.objs.size:=by
   simp only [List.mem_cons,List.not_mem_nil,or_false] at hc
   obtain ⟨o1,e1,_⟩:=h1
   obtain ⟨o2,e2,_⟩:=h2
   rcases hc with rfl | rfl | rfl | rfl | rfl
   ·exact (lt hz).symm
   ·exact (lt hTI).symm
   ·exact (lt hTO).symm
   ·exact (lt e1).symm
   ·exact (lt e2).symm
  rw [upd_ne hcn]
  exact (hf c hc).1
 done:=by
  intro X hP hw hK hc i pins s σ H E I hf st hg
  subst hP hw hK
  obtain ⟨hz,hTI,⟨a,b,hTO⟩,h1,h2⟩:=st
  obtain ⟨xs,ys,hx,hy,he⟩:=hg
  obtain ⟨its,rv,p,hzx⟩:=I.list hx
  obtain ⟨its2,rv2,p2,hzy⟩:=I.list hy
  have l1':=rv.length
  have l2':=rv2.length
  refine wpAny_pyNext_zip_end (I.ok.hd hc) D hz hTI hTO h1 h2 p.isList p2.isList (by rcases he with h | h;exact .inl (by simp;omega);exact .inr (by simp;omega)) fun h' kk=>⟨rfl,?_⟩
  refine I.turnedL (t':=s.toks) (ch:=[z,TI,TO,i1,i2]) (fun c o hc e=>?_) hf
  simp only [List.mem_cons,List.not_mem_nil,or_false,not_or] at hc
  exact kk c o hc.1 hc.2.2.1 hc.2.2.2.1 hc.2.2.2.2 e
 self:=fun _ _ _ _ _ st h=>wpAny_pyIter_zip st.1 h
section
variable {X:Cx}
def iZip (K:PySem.W.Frag) (ta:TA):TI:=fun σ H R=>ta σ H fun vs H1=>∃ a b,vs=[.ref a,.ref b]∧(∃ xs,SqL K H1 a xs)∧(∃ ys,SqL K H1 b ys)∧R (Itz K a b) H1
theorem pi_zip {e1 e2:Expr} {ta:TA} {p pos tpos:Pos} {elts:List Expr} {x1:Nat} (hg:Gl X "zip") (hm:X.mg "zip"=none) (ha:PA X [e1,e2] ta) (hs:starEach [e1,e2] X.env=(false,eval e1 X.env) :: starEach [e2] X.env:=by rfl) (hpl:(backTo pos (starEach [e2] X.env)).any (·.1)=false:=by rfl) :
  PI X (.Tuple elts x1 tpos) (.Call (.Name "zip" p) [e1,e2] [] pos) (iZip X.K ta):=by
 intro pins s σ H R I h
 refine wpAny_Call_Name_kw (ld_blt I hg hm boot_zip ?_ (by decide) (by decide))
 refine PyProof.Rows.callWith_type1 (thn (ha pos pins s σ H _ I h) fun us s1 ⟨vs,H1,I1,r1,q1⟩=>?_) hs hpl
 obtain ⟨a,b,rfl,⟨xs,hx⟩,⟨ys,hy⟩,q⟩:=q1
 obtain ⟨u,v,rfl,ru,rv⟩:=r1.two
 cases ru
 cases rv
 obtain ⟨its,r1',p1,_⟩:=I1.list hx
 obtain ⟨its2,r2',p2,_⟩:=I1.list hy
 refine call_zip_2 p1.isList p2.isList fun h' hz hTI hTO h1 h2 hsz kk=>?_
 refine wpAny_pyIter_zip hz ?_
 have la:a < s1.heap.objs.size:=by obtain ⟨o,n,ho,_⟩:=p1;exact Heap.lt_size ho
 have lb:b < s1.heap.objs.size:=by obtain ⟨o,n,ho,_⟩:=p2;exact Heap.lt_size ho
 have I2:Inv X pins σ H1 { s1 with heap:=h' }:=I1.kept (t':=s1.toks) fun b o e=>kk b o e
 refine ⟨s1.heap.objs.size+4,[s1.heap.objs.size+4,s1.heap.objs.size+2,s1.heap.objs.size+3,s1.heap.objs.size,s1.heap.objs.size+1],_,_,H1,rfl,I2,turn_zip (zipApart_new la lb),⟨hz,hTI,⟨_,_,hTO⟩,h1,h2⟩,fun c hc=>?_,q⟩
 have hle:s1.heap.objs.size≤c:=by
  simp only [List.mem_cons,List.not_mem_nil,or_false] at hc
  rcases hc with rfl | rfl | rfl | rfl | rfl
  ·exact Nat.le_add_right _ _
  ·exact Nat.le_add_right _ _
  ·exact Nat.le_add_right _ _
  ·exact Nat.le_refl _
  ·exact Nat.le_add_right _ _
 have f:=I1.fpOk (H':=H1) hle (I1.hok.fresh hle)
 exact f
theorem pg_two {i j:Nat} {x y:Str} {px py pos:Pos} {k:Nat} (hc:X.calm=true) (hN:X.N.Nodup) (hi:X.N[i]?=some x) (hj:X.N[j]?=some y) (lx:Loc X.env.scope x) (ly:Loc X.env.scope y)
  (fx:X.fn x=true∨X.env.scope.names.lookup x=some .local:=by first | exact .inl rfl | exact .inr rfl) (fy:X.fn y=true∨X.env.scope.names.lookup y=some .local:=by first | exact .inl rfl | exact .inr rfl)
  (hs:(assignEach [.Name x px,.Name y py] X.env).map (·.2)=[assign (.Name x px) X.env,assign (.Name y py) X.env]:=by rfl) (hs2:(assignEach [.Name y py] X.env).map (·.2)=[assign (.Name y py) X.env]:=by rfl) (hs0:(assignEach [] X.env).map (·.2)=[]:=by rfl)
  (hn:(assignEach [.Name x px,.Name y py] X.env).length=2:=by rfl) (hst:(assignEach [.Name x px,.Name y py] X.env).findIdx? (·.1)=none:=by rfl) :
  PG X (.Tuple [.Name x px,.Name y py] k pos) (gTup X.K 2 (gCons (gName i) (gCons (gName j) gNil))) :=
 pg_tup hc (pgs_cons (pg_name hN hi lx fx) (pgs_cons (pg_name hN hj ly fy) pgs_nil (by rw [hs2,hs0])) (by rw [hs,hs2])) hn hst
end
end L2
namespace L2
open PySem PySem.Spec PyProof.Rows
section
variable {K:PySem.W.Frag} {g:TG} {tt:TT} {te:TE} {D:Addr} {σ:St} {H:Hp} {Q:VK}
theorem lc_zip {a b:Addr} {xs ys:List V} (hlen:xs.length=ys.length) (Pv:Nat→St→Hp→Prop) (h0:Pv 0 σ H) (hl:∀ i σ H,i≤xs.length→Pv i σ H→SqL K H a xs∧SqL K H b ys)
  (hs:∀ (i:Nat) (x y:V) (p:Addr) (σ:St) (H:Hp) (N:St→Hp→Prop),(∀ σ H,Pv (i+1) σ H→N σ H)→xs[i]?=some x→ys[i]?=some y→Pv i σ H→H p=none→g (.ref p) σ (upd H p (.tup [x,y])) fun σ3 H3=>tt σ3 H3 fun b H4 =>
   if b=true then te σ3 H4 fun v H5=>∃ ys,H5 D=some (.lst ys)∧ys.length < sizeLine∧N σ3 (upd H5 D (.lst (ys ++ [v]))) else N σ3 H4)
  (hd:∀ σ H,Pv xs.length σ H→Q (.ref D) H):lcRun (Itz K a b) g tt te D σ H Q:=by
 refine ⟨fun i m σ H=>m=xs.length - i∧i≤xs.length∧Pv i σ H,⟨xs.length,by simp,Nat.zero_le _,h0⟩,?_⟩
 rintro i m σ' H' ⟨rfl,hi,p⟩
 obtain ⟨q1,q2⟩:=hl i σ' H' hi p
 by_cases hlt:i < xs.length
 ·refine .inr ⟨⟨xs,ys,xs[i],ys[i],q1,q2,by simp [hlt],by simp [show i < ys.length by omega]⟩,fun v H2 z=>?_⟩
  obtain ⟨pt,x,y,hp,rfl,rfl,e1,e2⟩:=z
  exact hs i x y pt σ' H' (fun σ3 H3=>∃ m',m' < xs.length - i∧m'=xs.length - (i+1)∧i+1≤xs.length∧Pv (i+1) σ3 H3) (fun σ3 H3 z=>⟨xs.length - (i+1),by omega,rfl,hlt,z⟩) (e1 xs q1) (e2 ys q2) p hp
 ·have e:i=xs.length:=by omega
  subst e
  exact .inl ⟨⟨xs,ys,q1,q2,.inl (Nat.le_refl _)⟩,hd σ' H' p⟩
theorem turn_do2 {i j:Nat} {x y:V} {p:Addr} {A B:St→Hp→Prop} (h:A ((σ.set i (some x)).set j (some y)) (upd H p (.tup [x,y]))) :
  gTup K 2 (gCons (gName i) (gCons (gName j) gNil)) (.ref p) σ (upd H p (.tup [x,y])) fun σ3 H3=>tYes σ3 H3 fun b H4=>if b=true then A σ3 H4 else B σ3 H4 :=
 ⟨p,[x,y],rfl,SqT.of upd_same,rfl,x,_,rfl,y,_,rfl,rfl,(by
  show if true=true then A ((σ.set i (some x)).set j (some y)) (upd H p (.tup [x,y])) else B ((σ.set i (some x)).set j (some y)) (upd H p (.tup [x,y]))
  exact iteT h)⟩
end
section
variable {X:Cx}
end
end L2
namespace L2
open PySem PySem.Spec PyProof.Rows
def tabV (n:Nat) (f:Nat→V):List V:=(List.range n).map f
abbrev tabI (n:Nat) (f:Nat→Int):List V:=tabV n fun j=>V.int (f j)
abbrev tabR (n:Nat) (f:Nat→Addr):List V:=tabV n fun j=>V.ref (f j)
theorem tab_len (n:Nat) (f:Nat→V):(tabV n f).length=n:=by simp [tabV]
theorem tab_get {n i:Nat} {f:Nat→V} (h:i < n):(tabV n f)[i]?=some (f i):=by simp [tabV,h]
theorem tab_of {n i:Nat} {f:Nat→V} {x:V} (h:(tabV n f)[i]?=some x):i < n∧x=f i:=by
 have hi:i < n:=by
  have:=(List.getElem?_eq_some_iff.mp h).1
  rwa [tab_len] at this
 rw [tab_get hi] at h
 exact ⟨hi,(Option.some.inj h).symm⟩
theorem tab_succ (n:Nat) (f:Nat→V):tabV (n+1) f=tabV n f ++ [f n]:=by simp [tabV,List.range_succ]
theorem tab_congr {n:Nat} {f g:Nat→V} (h:∀ i,i < n→f i=g i):tabV n f=tabV n g:=by
 unfold tabV
 apply List.map_congr_left
 intro i hi
 exact h i (List.mem_range.mp hi)
theorem tab_set {n i:Nat} {f:Nat→V} {v:V} (h:i < n):(tabV n f).set i v=tabV n fun j=>if j=i then v else f j:=by
 apply List.ext_getElem?
 intro j
 by_cases hj:j < n
 ·rw [tab_get hj]
  by_cases e:j=i
  ·subst e
   rw [List.getElem?_set_self (by rw [tab_len];exact hj)]
   simp
  ·rw [List.getElem?_set_ne (Ne.symm e),tab_get hj]
   simp [e]
 ·rw [List.getElem?_eq_none (by rw [List.length_set,tab_len];omega),List.getElem?_eq_none (by rw [tab_len];omega)]
theorem tab_ix {n:Nat} {i:Int} {f:Nat→V} (h0:0≤i) (h:i < n):ixN (tabV n f).length i=some i.toNat:=by
 rw [tab_len]
 unfold ixN
 rw [if_pos h0,if_pos h]
theorem tab_at {n:Nat} {i:Int} {f:Nat→V} (h0:0≤i) (h:i < n):atI (tabV n f) i=some (f i.toNat):=by
 unfold atI
 rw [tab_ix h0 h]
 exact tab_get (by omega)
theorem tab_last {n:Nat} {f:Nat→V}:atI (tabV (n+1) f) (-1)=some (f n):=by
 have h:ixN (tabV (n+1) f).length (-1)=some n:=by
  rw [tab_len]
  unfold ixN
  rw [if_neg (by omega),if_pos (by omega)]
  congr 1
  omega
 unfold atI
 rw [h]
 exact tab_get (by omega)
theorem tab_map (n:Nat) (f:Nat→Int):((List.range n).map f).map V.int=tabI n f:=by unfold tabI tabV;rw [List.map_map];rfl
def Grid (K:PySem.W.Frag) (H:Hp) (l:Addr) (m n:Nat) (a:Nat→Nat→Int):Prop:=∃ as:Nat→Addr,SqL K H l (tabR m as)∧∀ i,i < m→SqL K H (as i) (tabI n (a i))
theorem Same.grid {K:PySem.W.Frag} {H H':Hp} {l:Addr} {m n:Nat} {a:Nat→Nat→Int} (s:Same H H') (g:Grid K H l m n a):Grid K H' l m n a:=let ⟨as,h1,h2⟩:=g;⟨as,s.seq h1,fun i hi=>s.seq (h2 i hi)⟩
theorem Grid.congr {K:PySem.W.Frag} {H:Hp} {l:Addr} {m n:Nat} {a b:Nat→Nat→Int} (g:Grid K H l m n a) (h:∀ i j,i < m→j < n→a i j=b i j):Grid K H l m n b:=by
 obtain ⟨as,h1,h2⟩:=g
 refine ⟨as,h1,fun i hi=>?_⟩
 have e:tabI n (a i)=tabI n (b i):=tab_congr fun j hj=>by rw [h i j hi hj]
 rw [← e]
 exact h2 i hi
end L2
namespace L2
open PySem PySem.Spec PyProof.Rows
section
variable {K:PySem.W.Frag} {g:TG} {tt:TT} {te:TE} {D:Addr} {σ:St} {H:Hp} {Q:VK}
theorem lc_tab {a:Addr} {n:Nat} {F:Nat→V} (Pv:Nat→St→Hp→Prop) (h0:Pv 0 σ H) (hl:∀ i σ H,i≤n→Pv i σ H→SqL K H a (tabV n F))
  (hs:∀ (i:Nat) (σ:St) (H:Hp) (N:St→Hp→Prop),(∀ σ H,Pv (i+1) σ H→N σ H)→i < n→Pv i σ H→g (F i) σ H fun σ3 H3=>tt σ3 H3 fun b H4 =>
   if b=true then te σ3 H4 fun v H5=>∃ ys,H5 D=some (.lst ys)∧ys.length < sizeLine∧N σ3 (upd H5 D (.lst (ys ++ [v]))) else N σ3 H4)
  (hd:∀ σ H,Pv n σ H→Q (.ref D) H):lcRun (Itl K a) g tt te D σ H Q:=by
 refine lc_list (xs:=tabV n F) Pv h0 (fun i σ H hi=>hl i σ H (by rwa [tab_len] at hi)) (fun i x σ H N hN hx hp=>?_) (fun σ H h=>hd σ H (by rwa [tab_len] at h))
 obtain ⟨hi,rfl⟩:=tab_of hx
 exact hs i σ H N hN hi hp
theorem lc_ztab {a b:Addr} {n:Nat} {F G:Nat→V} (Pv:Nat→St→Hp→Prop) (h0:Pv 0 σ H) (hl:∀ i σ H,i≤n→Pv i σ H→SqL K H a (tabV n F)∧SqL K H b (tabV n G))
  (hs:∀ (i:Nat) (p:Addr) (σ:St) (H:Hp) (N:St→Hp→Prop),(∀ σ H,Pv (i+1) σ H→N σ H)→i < n→Pv i σ H→H p=none→g (.ref p) σ (upd H p (.tup [F i,G i])) fun σ3 H3=>tt σ3 H3 fun b H4 =>
   if b=true then te σ3 H4 fun v H5=>∃ ys,H5 D=some (.lst ys)∧ys.length < sizeLine∧N σ3 (upd H5 D (.lst (ys ++ [v]))) else N σ3 H4)
  (hd:∀ σ H,Pv n σ H→Q (.ref D) H):lcRun (Itz K a b) g tt te D σ H Q:=by
 refine lc_zip (xs:=tabV n F) (ys:=tabV n G) (by rw [tab_len,tab_len]) Pv h0 (fun i σ H hi=>hl i σ H (by rwa [tab_len] at hi)) (fun i x y p σ H N hN hx hy hp hn=>?_) (fun σ H h=>hd σ H (by rwa [tab_len] at h))
 obtain ⟨hi,rfl⟩:=tab_of hx
 obtain ⟨_,rfl⟩:=tab_of hy
 exact hs i p σ H N hN hi hp hn
theorem got_one {H:Hp} {D:Addr} {i:Nat} {F:Nat→V} {v:V} (h:v=F i):(upd H D (.lst (tabV i F ++ [v]))) D=some (.lst (tabV (i+1) F)):=by
 rw [upd_same,tab_succ,h]
end
end L2
namespace L2
open PySem
theorem tab_snoc (i:Nat) (F:Nat→V) (x:V):tabV i F ++ [x]=tabV (i+1) fun k=>if k=i then x else F k:=by
 refine ((tab_succ i _).trans ?_).symm
 rw [show tabV i (fun k=>if k=i then x else F k)=tabV i F from tab_congr fun k hk=>by rw [if_neg (by omega)],if_pos rfl]
theorem tabR_snoc (i:Nat) (ps:Nat→Addr) (p:Addr):tabR i ps ++ [V.ref p]=tabR (i+1) fun k=>if k=i then p else ps k:=by
 rw [tab_snoc]
 refine tab_congr fun k hk=>?_
 by_cases e:k=i <;> simp [e]
end L2
namespace L2
open PySem
theorem Same.both {B H:Hp} {p:Addr} {o:HO} (s:Same B H) (h:H p=some o):Same (upd B p o) H:=fun b u e=>by
 by_cases z:b=p
 ·subst z
  rw [upd_same] at e
  cases e
  exact h
 ·rw [upd_ne z] at e
  exact s b u e
theorem Same.grow {B:Hp} {p:Addr} {o:HO} (h:B p=none):Same B (upd B p o):=(Same.refl B).new h
end L2
namespace L2
end L2
namespace L2
open PySem PySem.Spec PyProof.Rows
def tCut (t:TS):TS:=fun D σ H=>∃ R:St→Hp→Prop,t { D with nx:=R } σ H∧∀ σ' H',R σ' H'→D.nx σ' H'
theorem ps_cut {X:Cx} {st:Stmt} {t:TS} (h:PS X st t):PS X st (tCut t):=by
 intro pins s σ H D I ⟨R,h1,h2⟩
 refine wpAny_mono (h pins s σ H { D with nx:=R } I h1) (fun f s' q=>?_) fun _ _ z=>z
 cases f with
 | next=>obtain ⟨σ',H',I',q⟩:=q;exact ⟨σ',H',I',h2 σ' H' q⟩
 | brk=>exact q
 | cont=>exact q
 | ret u=>exact q
end L2
namespace L2
open PySem PySem.Spec PyProof.Rows
section
variable {X:Cx} (K:PySem.W.Frag)
theorem ix_listK (hK:X.K=K:=by rfl):IxR X (rIxL K):=by subst hK;exact ix_list
theorem ix_tupK (hK:X.K=K:=by rfl):IxR X (rIxT K):=by subst hK;exact ix_tup
theorem sl_listK (hK:X.K=K:=by rfl):SlR X (rSlL K):=by subst hK;exact sl_list
theorem call_lenK (hK:X.K=K:=by rfl):CallR X (.builtin "len") (fun xs H Q=>∃ p ys,xs=[.ref p]∧(SqL K H p ys∨SqT K H p ys)∧Q (.int ys.length) H):=by subst hK;exact call_len_seq
theorem call_listK (hK:X.K=K:=by rfl):CallR X (.type "list") (fun xs H Q=>∃ p ys,xs=[.ref p]∧(SqL K H p ys∨SqT K H p ys)∧∀ l,H l=none→Q (.ref l) (upd H l (.lst ys))):=by subst hK;exact call_list_of
theorem op_eqLK (hu:X.A.units+16 < cLine) (hK:X.K=K:=by rfl):OpR X (compareOp .Eq) (rEqL K false):=by subst hK;exact op_eqL hu
theorem op_catK (hK:X.K=K:=by rfl):OpR X (binaryOp .Add) (rCatS K):=by subst hK;exact op_catS
theorem pi_listK {tg l:Expr} {tl:TE} (hl:PE X l tl) (hK:X.K=K:=by rfl):PI X tg l (iList K tl):=by subst hK;exact pi_list hl
theorem pi_zipK {e1 e2:Expr} {ta:TA} {p pos tpos:Pos} {elts:List Expr} {x1:Nat} (hg:Gl X "zip") (hm:X.mg "zip"=none) (ha:PA X [e1,e2] ta) (hK:X.K=K:=by rfl) (hs:starEach [e1,e2] X.env=(false,eval e1 X.env) :: starEach [e2] X.env:=by rfl) (hpl:(backTo pos (starEach [e2] X.env)).any (·.1)=false:=by rfl) :
  PI X (.Tuple elts x1 tpos) (.Call (.Name "zip" p) [e1,e2] [] pos) (iZip K ta):=by subst hK;exact pi_zip hg hm ha hs hpl
theorem pg_twoK {i j:Nat} {x y:Str} {px py pos:Pos} {k:Nat} (hc:X.calm=true) (hN:X.N.Nodup) (hi:X.N[i]?=some x) (hj:X.N[j]?=some y) (lx:Loc X.env.scope x) (ly:Loc X.env.scope y) (hK:X.K=K:=by rfl)
  (fx:X.fn x=true∨X.env.scope.names.lookup x=some .local:=by first | exact .inl rfl | exact .inr rfl) (fy:X.fn y=true∨X.env.scope.names.lookup y=some .local:=by first | exact .inl rfl | exact .inr rfl)
  (hs:(assignEach [.Name x px,.Name y py] X.env).map (·.2)=[assign (.Name x px) X.env,assign (.Name y py) X.env]:=by rfl) (hs2:(assignEach [.Name y py] X.env).map (·.2)=[assign (.Name y py) X.env]:=by rfl) (hs0:(assignEach [] X.env).map (·.2)=[]:=by rfl)
  (hn:(assignEach [.Name x px,.Name y py] X.env).length=2:=by rfl) (hst:(assignEach [.Name x px,.Name y py] X.env).findIdx? (·.1)=none:=by rfl) :
  PG X (.Tuple [.Name x px,.Name y py] k pos) (gTup K 2 (gCons (gName i) (gCons (gName j) gNil))):=by
 subst hK
 exact pg_two hc hN hi hj lx ly fx fy hs hs2 hs0 hn hst
theorem pe_bmK {o e:Expr} {es:List Expr} {to:TE} {t:TA} {name:Str} {apos cpos:Pos} {T id:String} {r:V→List V→Hp→VK→Prop} (pa:PlainAttrs T) (slot:Slot T name id) (hty:typeOf (.builtin id)=pure (.type "method_descriptor")) (hm:MtR X id r) (ho:PE X o to) (ha:PA X (e :: es) t) (hK:X.K=K:=by rfl)
  (hbase:attributeBase o name X.env (eval o X.env)=eval o X.env:=by rfl)
  (hfew:((backTo cpos (starEach (e :: es) X.env)).all (fun x=>!x.1) && (backToKw cpos (keywordEach [] X.env)).all (fun x=>x.1.isSome)
   && decide ((e :: es).length+([]:List Keyword).length+(if ([]:List Keyword).isEmpty then 0 else 1) < 30))=true:=by rfl)
  (hline:(apos.endLine == cpos.line)=true:=by rfl) (hs:starEach (e :: es) X.env=(false,eval e X.env) :: starEach es X.env:=by rfl) (hplain:(backTo cpos (starEach es X.env)).any (·.1)=false:=by rfl) :
  PE X (.Call (.Attribute o name apos) (e :: es) [] cpos) (tBM K T r to t):=by subst hK;exact pe_bm pa slot hty hm ho ha hbase hfew hline hs hplain
end
end L2
namespace L2
open PySem PySem.Spec PyProof.Rows
section
variable {X:Cx}
def rEqI (K:PySem.W.Frag) (neg:Bool):R2:=fun x y H Q=>∃ (a b:Addr) (ys zs:List Int),x=.ref a∧y=.ref b∧SqL K H a (ys.map V.int)∧SqL K H b (zs.map V.int)∧Q (.bl (if neg then !decide (ys=zs) else decide (ys=zs))) H
theorem items_at {pins:List (Addr × Obj)} {σ:St} {H:Hp} {s:Shared} (I:Inv X pins σ H s) {ys zs:List Int} {its its2:List Value} (r1:Vals (ys.map V.int) its) (r2:Vals (zs.map V.int) its2) {A:Around} (j:Nat) (h1:j < its.toArray.size) (h2:j < its2.toArray.size) :
  SeqAt.EqAt A s its.toArray[j] its2.toArray[j] (ys.getD j 0 == zs.getD j 0):=by
 obtain ⟨x,hx,rx⟩:=rel_at r1 j h1
 obtain ⟨y,hy,ry⟩:=rel_at r2 j h2
 obtain ⟨u,hu',rfl⟩:=item_of hx
 obtain ⟨v,hv',rfl⟩:=item_of hy
 have:=eqAt_V (A:=A) (s:=s) rx ry rfl rfl
 have e1:ys.getD j 0=u:=by simp [List.getD,hu']
 have e2:zs.getD j 0=v:=by simp [List.getD,hv']
 rw [e1,e2]
 exact this
theorem all_eq_ints {ys zs:List Int} (hl:ys.length=zs.length) {n:Nat} (hn:n=ys.length):(List.range n).all (fun j=>ys.getD j 0 == zs.getD j 0)=decide (ys=zs):=by
 subst hn
 by_cases h:ys=zs
 ·subst h
  simp
 ·rw [decide_eq_false h,Bool.eq_false_iff]
  intro hall
  rw [List.all_eq_true] at hall
  apply h
  apply List.ext_getElem hl
  intro i g1 g2
  have:=hall i (List.mem_range.mpr g1)
  simpa [List.getD,g1,g2] using this
theorem op_eqI (hu:X.A.units+16 < cLine):OpR X (compareOp .Eq) (rEqI X.K false):=by
 intro pins s σ H x y v u Q I rx ry h
 obtain ⟨a,b,ys,zs,rfl,rfl,ha,hb,q⟩:=h
 cases rx
 cases ry
 obtain ⟨its,r1,p1,_⟩:=I.list ha
 obtain ⟨its2,r2,p2,_⟩:=I.list hb
 have l1:=r1.length
 have l2:=r2.length
 rw [List.length_map] at l1 l2
 by_cases hl:ys.length=zs.length
 ·refine SeqAt.eq_listAt (e:=fun j=>ys.getD j 0 == zs.getD j 0) p1.isList p2.isList (by simp;omega) (by omega) (fun j h1 h2=>items_at I r1 r2 j h1 h2) ?_
  rw [all_eq_ints hl (by simp;omega)]
  exact ⟨.bl _,H,I,rfl,q⟩
 ·refine SeqAt.eq_list_lengthsAt p1.isList p2.isList (by simp;omega) (by omega) ?_
  have e:decide (ys=zs)=false:=decide_eq_false fun z=>hl (by rw [z])
  rw [e] at q
  exact ⟨.bl false,H,I,rfl,q⟩
theorem op_eqIK (K:PySem.W.Frag) (hu:X.A.units+16 < cLine) (hK:X.K=K:=by rfl):OpR X (compareOp .Eq) (rEqI K false):=by subst hK;exact op_eqI hu
end
theorem turn_if {i:Nat} {x:V} {σ:St} {H:Hp} {tt:TT} {A B:St→Hp→Prop} (h:tt (σ.set i (some x)) H fun b H4=>if b=true then A (σ.set i (some x)) H4 else B (σ.set i (some x)) H4):gName i x σ H fun σ3 H3=>tt σ3 H3 fun b H4=>if b=true then A σ3 H4 else B σ3 H4:=h
theorem tab_cut {n:Nat} {f:Nat→V} {lo hi:Nat} (h1:lo≤hi) (h2:hi≤n):cutV (tabV n f) (some (lo:Int)) (some (hi:Int))=tabV (hi - lo) fun i=>f (lo+i):=by
 unfold cutV
 rw [HT.sIx_nat,HT.sIx_nat,tab_len,Nat.min_eq_left h2,Nat.min_eq_left (by omega)]
 apply List.ext_getElem?
 intro j
 by_cases hj:j < hi - lo
 ·rw [tab_get hj,List.getElem?_take_of_lt hj,List.getElem?_drop,tab_get (by omega)]
 ·rw [List.getElem?_eq_none (by rw [List.length_take,List.length_drop,tab_len];omega),List.getElem?_eq_none (by rw [tab_len];omega)]
theorem tab_cut_hi {n:Nat} {f:Nat→V} {hi:Nat} (h2:hi≤n):cutV (tabV n f) none (some (hi:Int))=tabV hi f:=by
 have:=tab_cut (lo:=0) (f:=f) (Nat.zero_le hi) h2
 have e:cutV (tabV n f) none (some (hi:Int))=cutV (tabV n f) (some ((0:Nat):Int)) (some (hi:Int)):=by
  unfold cutV
  rw [HT.sIx_nat _ _ hi,HT.sIx_none,HT.sIx_nat _ _ 0,Nat.zero_min]
 rw [e,this]
 exact tab_congr fun i _=>by rw [Nat.zero_add]
theorem tab_cut_lo {n:Nat} {f:Nat→V} {lo:Nat} (h2:lo≤n):cutV (tabV n f) (some (lo:Int)) none=tabV (n - lo) fun i=>f (lo+i):=by
 have:=tab_cut (f:=f) h2 (Nat.le_refl n)
 have e:cutV (tabV n f) (some (lo:Int)) none=cutV (tabV n f) (some (lo:Int)) (some (n:Int)):=by
  unfold cutV
  rw [HT.sIx_nat,HT.sIx_nat,HT.sIx_none,tab_len,Nat.min_self]
 rw [e,this]
theorem tab_cat {n m:Nat} {f g:Nat→V}:tabV n f ++ tabV m g=tabV (n+m) fun i=>if i < n then f i else g (i - n):=by
 apply List.ext_getElem?
 intro j
 by_cases hj:j < n+m
 ·rw [tab_get hj]
  by_cases h:j < n
  ·rw [List.getElem?_append_left (by rw [tab_len];exact h),tab_get h,if_pos h]
  ·rw [List.getElem?_append_right (by rw [tab_len];omega),tab_len,tab_get (by omega),if_neg h]
 ·rw [List.getElem?_eq_none (by rw [List.length_append,tab_len,tab_len];omega),List.getElem?_eq_none (by rw [tab_len];omega)]
theorem tab_range (n:Nat) (f:Nat→Int) (i:Nat) (h:i < n):((List.range n).map f).getD i 0=f i:=by simp [h]
end L2
namespace L2
open PySem PySem.Spec PyProof.Rows
def Itv (K:PySem.W.Frag) (a:Addr) (xs:List V):It:=⟨fun i H=>SqL K H a xs∧i < xs.length,fun i H x H'=>H'=H∧xs.reverse[i]?=some x,fun i _=>xs.length≤i⟩
theorem turn_rev {P:Program} {w:World} {K:PySem.W.Frag} {tg:Expr} (a it:Addr) (xs:List V) :
  Turn P w K tg (Itv K a xs) [it] it (fun i h=>i≤xs.length∧h.IsRevIter it a ((xs.length:Int) - 1 - (i:Int))) where
 mem:=by simp
 obj:=fun i h st b hb=>by
  have e:b=it:=by simpa using hb
  subst e
  obtain ⟨_,o,e,c,d⟩:=st
  exact ⟨o,e,fun v z=>by rw [d] at z;cases z⟩
 keep:=fun i h h' st k=>⟨st.1,st.2.at fun o e=>k it (by simp) o e⟩
 item:=by
  intro X hP hw hK hc i pins s σ H E I hf ⟨st0,st⟩ ⟨hq,hi⟩
  subst hP hw hK
  obtain ⟨its,rv,p,hz⟩:=I.list hq
  have hl:=rv.length
  have hx:xs.reverse[i]?=some xs[xs.length - 1 - i]:=by rw [List.getElem?_reverse hi];simp
  have hx2:xs[xs.length - 1 - i]?=some xs[xs.length - 1 - i]:=by simp
  obtain ⟨u,hu,ru⟩:=rv.get hx2
  obtain ⟨f0,f1,f2,f3,f4,f5⟩:=hf it (by simp)
  have e0:(xs.length:Int) - 1 - (i:Int)=((xs.length - 1 - i:Nat):Int):=by omega
  rw [e0] at st
  refine wpAny_pyNext_rev_item st p.isList (x:=u) (by simpa using hu) fun h' st' sb=>?_
  have I1:Inv X pins σ H { s with heap:=h' }:=I.turned (t':=s.toks) (fun b o hb e=>(sb.2 b hb).trans e) f0 f1 f3 f4 f5
  have e1:((xs.length - 1 - i:Nat):Int) - 1=(xs.length:Int) - 1 - ((i+1:Nat):Int):=by omega
  rw [e1] at st'
  obtain ⟨o,e,c,d⟩:=id st'
  exact ⟨u,rfl,go_of (s:={ s with heap:=h' }) e c d (by decide) ⟨_,H,I1,ru,⟨rfl,hx⟩,⟨hi,st'⟩,fun b hb=>(hf b hb).1⟩⟩
 done:=by
  intro X hP hw hK hc i pins s σ H E I hf ⟨st0,st⟩ hg
  subst hP hw hK
  have hg':xs.length≤i:=hg
  obtain ⟨f0,f1,f2,f3,f4,f5⟩:=hf it (by simp)
  have e0:(xs.length:Int) - 1 - (i:Int)=-1:=by omega
  rw [e0] at st
  exact wpAny_pyNext_rev_end (I.ok.hd hc) st fun h' eb=>⟨rfl,I.turned (t':=s.toks) (fun b o hb e=>eb b o hb e) f0 f1 f3 f4 f5⟩
 self:=fun _ _ _ _ _ st h=>wpAny_pyIter_revIter st.2 h
section
variable {X:Cx} {tg:Expr}
def iRev (K:PySem.W.Frag) (ta:TA):TI:=fun σ H R=>ta σ H fun vs H1=>∃ a xs,vs=[.ref a]∧SqL K H1 a xs∧R (Itv K a xs) H1
theorem pi_reversedK (K:PySem.W.Frag) {e:Expr} {ta:TA} {p pos:Pos} (hg:Gl X "reversed") (hm:X.mg "reversed"=none) (ha:PA X [e] ta) (hK:X.K=K:=by rfl) (hs:starEach [e] X.env=[(false,eval e X.env)]:=by rfl) (hpl:(backTo pos (starEach [] X.env)).any (·.1)=false:=by rfl) :
  PI X tg (.Call (.Name "reversed" p) [e] [] pos) (iRev K ta):=by
 subst hK
 intro pins s σ H R I h
 refine wpAny_Call_Name_kw (ld_blt I hg hm boot_reversed ?_ (by decide) (by decide))
 refine PyProof.Rows.callWith_type1 (thn (ha pos pins s σ H _ I h) fun us s1 ⟨vs,H1,I1,r1,q1⟩=>?_) hs hpl
 obtain ⟨a,xs,rfl,hx,q⟩:=q1
 obtain ⟨u,rfl,ru⟩:=r1.one
 cases ru
 obtain ⟨its,rv,p1,_⟩:=I1.list hx
 have hl:=rv.length
 refine call_reversed_list p1.isList ?_
 have hit:(s1.heap.push (revObj a ((its.toArray.size:Int) - 1))).IsRevIter s1.heap.objs.size a ((its.toArray.size:Int) - 1):=⟨_,Heap.get?_push_size _ rfl,rfl,by unfold revObj;simp⟩
 refine wpAny_pyIter_revIter hit ?_
 have e0:(its.toArray.size:Int) - 1=(xs.length:Int) - 1 - ((0:Nat):Int):=by simp;omega
 rw [e0] at hit ⊢
 refine ⟨s1.heap.objs.size,[s1.heap.objs.size],_,_,H1,rfl,I1.kept (t':=s1.toks) fun b o e=>Heap.get?_push_of_some _ e,turn_rev a _ xs,⟨Nat.zero_le _,hit⟩,fun b hb=>?_,q⟩
 have e:b=s1.heap.objs.size:=by simpa using hb
 subst e
 exact I1.fpOk (Nat.le_refl _) (I1.hok.fresh (Nat.le_refl _))
end
theorem for_rev {K:PySem.W.Frag} {a:Addr} {xs:List V} {g:TG} {tb:TS} {D:Ends} {σ:St} {H:Hp} (Pv:Nat→St→Hp→Prop) (h0:Pv 0 σ H) (hl:∀ i σ H,i≤xs.length→Pv i σ H→SqL K H a xs)
  (hs:∀ i x σ H,xs.reverse[i]?=some x→Pv i σ H→g x σ H fun σ2 H2=>tb { D with nx:=Pv (i+1),ct:=Pv (i+1),bk:=D.nx } σ2 H2) (hd:∀ σ H,Pv xs.length σ H→D.nx σ H) :
  ∃ W:Nat→Nat→St→Hp→Prop,(∃ m,W 0 m σ H)∧∀ i m σ H,W i m σ H →
   ((Itv K a xs).stop i H∧D.nx σ H)∨((Itv K a xs).go i H∧∃ N:St→Hp→Prop,(∀ σ' H',N σ' H'→∃ m',m' < m∧W (i+1) m' σ' H')∧∀ x H',(Itv K a xs).yld i H x H'→g x σ H' fun σ2 H2=>tb { D with nx:=N,ct:=N,bk:=D.nx } σ2 H2):=by
 refine ⟨fun i m σ H=>m=xs.length - i∧i≤xs.length∧Pv i σ H,⟨xs.length,by simp,Nat.zero_le _,h0⟩,?_⟩
 rintro i m σ H ⟨rfl,hi,p⟩
 have q:=hl i σ H hi p
 by_cases hlt:i < xs.length
 ·refine .inr ⟨⟨q,hlt⟩,Pv (i+1),fun σ' H' p'=>⟨xs.length - (i+1),by omega,rfl,hlt,p'⟩,fun x H' y=>?_⟩
  obtain ⟨e,y⟩:=y
  subst e
  exact hs i x σ _ y p
 ·have e:i=xs.length:=by omega
  subst e
  exact .inl ⟨Nat.le_refl _,hd σ H p⟩
section
variable {X:Cx}
end
end L2
namespace L2
open PySem PySem.Spec PyProof.Rows
section
variable {prog:Program} {w:World} {A:Around} {E:Value→Shared→Prop} {s:Shared}
theorem nextOf_tup {it t:Addr} {i:Nat} {items:Array Value} {x:Value} {Q:Value→Shared→Prop} (hit:s.heap.IsTupleIter it t i) (ht:s.heap.IsTuple t items) (hx:items[i]?=some x)
  (hQ:∀ h',h'.IsTupleIter it t (i+1)→Heap.SameBut it s.heap h'→Q x { s with heap:=h' }):wpAny (model prog w) A (Builtin.SmallTypes.nextOf (.ref it)) Q E s:=by
 obtain ⟨o,ho,hc,hd⟩:=id hit
 obtain ⟨u,hu,_,m,du⟩:=ht
 unfold Builtin.SmallTypes.nextOf
 refine wpAny_bind (wpAny_callSpecial?_slot (name:=Str.ofString "__next__") hit.typeIs F.slot_tuple_iterator_next (wpAny_call_entry F.slot_tuple_iterator_next hit.typeIs F.entry_tuple_iterator_next ?_ (F.args_tuple_iterator_next_1 _)))
 refine (show wpAny _ _ (field (.ref it) 0 >>= _) _ _ s from wpAny_bind (wpAny_field ho hd (x:=.ref t) rfl ?_))
 refine (show wpAny _ _ (if (Value.ref t == Value.none)=true then _ else _) _ _ s from ?_)
 rw [if_neg (by exact Bool.false_ne_true)]
 refine (show wpAny _ _ (field (.ref it) 1 >>= _) _ _ s from wpAny_bind (wpAny_field ho hd (x:=.int i 0) rfl ?_))
 refine (show wpAny _ _ (seqItems? (.ref t) >>= _) _ _ s from wpAny_bind (wpAny_seqItems hu du ?_))
 simp only [hx,Int.toNat_natCast]
 refine wpAny_bind (wpAny_setField ho hd (by simp) (wpAny_pure ⟨x,rfl,wpAny_pure (hQ _ ⟨_,Heap.get?_update_self _ ho (Obj.isFreed_of_fields (Obj.data_mapFields hd _)),(Obj.cls_mapFields ..).trans hc,?_⟩ (Heap.SameBut.update ..))⟩))
 rw [Obj.data_mapFields hd]
 simp [rawInt]
theorem zipT_item {z TI TO i1 i2 l t:Addr} {k:Nat} {xs ys:Array Value} {x y a b:Value} {Q:Value→Shared→Prop} (D:ZipApart z TI TO i1 i2 l t) (hz:IsZip s.heap z TI TO .none) (hTI:IsPair s.heap TI (.ref i1) (.ref i2)) (hTO:IsPair s.heap TO a b)
  (h1:s.heap.IsListIter i1 l k) (h2:s.heap.IsTupleIter i2 t k) (hl:s.heap.IsList l xs) (ht:s.heap.IsTuple t ys) (hx:xs[k]?=some x) (hy:ys[k]?=some y)
  (hQ:∀ h',IsZip h' z TI TO (rawInt s.heap.objs.size)→IsPair h' TO x y→h'.IsListIter i1 l (k+1)→h'.IsTupleIter i2 t (k+1)→IsPair h' s.heap.objs.size x y→h'.objs.size=s.heap.objs.size+1 →
   (∀ c o,c≠z→c≠TO→c≠i1→c≠i2→s.heap.get? c=some o→h'.get? c=some o)→Q (.ref s.heap.objs.size) { s with heap:=h' }) :
  wpAny (model prog w) A (Builtin.«zip.__next__» ⟨[.ref z],[]⟩) (fun fin s'=>∃ v,fin=.done (.ret v)∧Q v s') E s:=by
 refine (show wpAny _ _ (field (.ref z) 2 >>= _) _ _ _ from wpAny_bind (wpAny_field hz rfl (x:=.bool false) rfl ?_))
 refine (show wpAny _ _ (field (.ref z) 3 >>= _) _ _ _ from wpAny_bind (wpAny_field hz rfl (x:=.ref TI) rfl (wpAny_bind (wpAny_seqItems hTI rfl ?_))))
 refine (show wpAny _ _ (Builtin.SmallTypes.ownedTupleIsFree (.ref z) >>= _) _ _ _ from wpAny_bind ?_)
 unfold Builtin.SmallTypes.ownedTupleIsFree
 refine wpAny_bind (wpAny_field hz rfl (x:=.none) rfl (wpAny_pure ?_))
 rw [if_pos (by rfl)]
 refine wpAny_bind (wpAny_rule (wpAny_bind (wpAny_field hz rfl (x:=.ref TO) rfl (wpAny_bind (wpAny_setField_rec hz (by simp) fun ha hza hsa=>wpAny_bind ?_)))))
 have hza':IsZip ha z TI TO .ellipsis:=hza
 simp only [List.forIn_cons,List.forIn_nil,List.zipIdx_cons,List.zipIdx_nil]
 refine wpAny_bind (wpAny_bind (wpAny_onRaise (show wpAny _ _ (Builtin.SmallTypes.nextOf (.ref i1) >>= _) _ _ _ from wpAny_bind (wpAny_nextOf_list_item (h1.extBut hsa.extBut D.i1z) (hl.extBut hsa.extBut D.l1z) hx fun hb h1b hsb=>wpAny_pure ?_))))
 have to2:IsPair hb TO a b:=hsb.extBut _ _ D.TOi1 (hsa.extBut _ _ D.TOz hTO)
 refine wpAny_bind (wpAny_seqItems to2 rfl (wpAny_bind (wpAny_updateSeq_pair to2 fun hc to3 hsc=>wpAny_bind (wpAny_letGo (wpAny_pure ?_)))))
 have to3':IsPair hc TO x b:=to3
 refine wpAny_bind (wpAny_bind (wpAny_onRaise (show wpAny _ _ (Builtin.SmallTypes.nextOf (.ref i2) >>= _) _ _ _ from wpAny_bind
  (nextOf_tup (((h2.extBut hsa.extBut D.i2z).extBut hsb.extBut D.i12.symm).extBut hsc.extBut D.TOi2.symm) (((ht.extBut hsa.extBut D.l2z).extBut hsb.extBut D.l2i1).extBut hsc.extBut D.l2TO) hy fun hd h2d hsd=>wpAny_pure ?_))))
 have to4:IsPair hd TO x b:=hsd.extBut _ _ D.TOi2 to3'
 refine wpAny_bind (wpAny_seqItems to4 rfl (wpAny_bind (wpAny_updateSeq_pair to4 fun he to5 hse=>wpAny_bind (wpAny_letGo (wpAny_pure (wpAny_pure ?_))))))
 have to5':IsPair he TO x y:=to5
 refine wpAny_bind (wpAny_seqItems to5' rfl (wpAny_bind (wpAny_newTuple ?_)))
 have size5:he.objs.size=s.heap.objs.size:=by rw [hse.1,hsd.1,hsc.1,hsb.1,hsa.1]
 have z5:IsZip he z TI TO .ellipsis:=hse.extBut _ _ D.TOz.symm (hsd.extBut _ _ D.i2z.symm (hsc.extBut _ _ D.TOz.symm (hsb.extBut _ _ D.i1z.symm hza')))
 have keep5:∀ c o,c≠z→c≠TO→c≠i1→c≠i2→s.heap.get? c=some o→he.get? c=some o:=fun c o n1 n2 n3 n4 e=>hse.extBut _ _ n2 (hsd.extBut _ _ n4 (hsc.extBut _ _ n2 (hsb.extBut _ _ n3 (hsa.extBut _ _ n1 e))))
 have it1:he.IsListIter i1 l (k+1):=((h1b.extBut hsc.extBut D.TOi1.symm).extBut hsd.extBut D.i12).extBut hse.extBut D.TOi1.symm
 have it2:he.IsTupleIter i2 t (k+1):=h2d.extBut hse.extBut D.TOi2.symm
 have ltz:z < he.objs.size:=Heap.lt_size z5
 refine (show wpAny _ _ (Builtin.SmallTypes.ownedTupleHandOut (.ref z) (.ref he.objs.size) >>= _) _ _ _ from wpAny_bind ?_)
 unfold Builtin.SmallTypes.ownedTupleHandOut
 have z6:IsZip (he.push { cls:=.type "tuple",data:=.seq #[x,y] }) z TI TO .ellipsis:=Heap.get?_push_of_some _ z5
 refine wpAny_bind (wpAny_setField_rec z6 (by simp) fun hf zf hsf=>?_)
 have zf':IsZip hf z TI TO (rawInt he.objs.size):=zf
 refine wpAny_setField_rec zf' (by simp) fun hg zg hsg=>?_
 have zg':IsZip hg z TI TO (rawInt he.objs.size):=zg
 have up:∀ c o,c≠z→he.get? c=some o→hg.get? c=some o:=fun c o n1 e=>hsg.extBut _ _ n1 (hsf.extBut _ _ n1 (Heap.get?_push_of_some _ e))
 have pairG:IsPair hg he.objs.size x y:=hsg.extBut _ _ (Nat.ne_of_gt ltz) (hsf.extBut _ _ (Nat.ne_of_gt ltz) (Heap.get?_push_size _ rfl))
 have sizeG:hg.objs.size=he.objs.size+1:=by rw [hsg.1,hsf.1,Heap.size_push]
 rw [size5] at zg' pairG sizeG
 refine wpAny_pure ⟨_,rfl,(show Q (.ref he.objs.size) _ from ?_)⟩
 rw [size5]
 exact hQ hg zg' (up _ _ D.TOz to5') (it1.at fun o e=>up _ o D.i1z e) (it2.at fun o e=>up _ o D.i2z e) pairG sizeG fun c o n1 n2 n3 n4 e=>up c o n1 (keep5 c o n1 n2 n3 n4 e)
theorem zipT_end {z TI TO i1 i2 l t:Addr} {k:Nat} {xs:Array Value} {a b:Value} {Q:Fin→Shared→Prop} (hh:A.handled=none) (D:ZipApart z TI TO i1 i2 l t) (hz:IsZip s.heap z TI TO .none) (hTI:IsPair s.heap TI (.ref i1) (.ref i2)) (hTO:IsPair s.heap TO a b)
  (h1:s.heap.IsListIter i1 l k) (hl:s.heap.IsList l xs) (hx:xs[k]?=none)
  (hE:∀ h' e,(∀ c o,c≠z→c≠TO→c≠i1→c≠i2→s.heap.get? c=some o→h'.get? c=some o)→(∃ o,h'.get? e=some o∧o.cls=.type "StopIteration")→E (.ref e) { s with heap:=h' }) :
  wpAny (model prog w) A (Builtin.«zip.__next__» ⟨[.ref z],[]⟩) Q E s:=by
 refine (show wpAny _ _ (field (.ref z) 2 >>= _) _ _ _ from wpAny_bind (wpAny_field hz rfl (x:=.bool false) rfl ?_))
 refine (show wpAny _ _ (field (.ref z) 3 >>= _) _ _ _ from wpAny_bind (wpAny_field hz rfl (x:=.ref TI) rfl (wpAny_bind (wpAny_seqItems hTI rfl ?_))))
 refine (show wpAny _ _ (Builtin.SmallTypes.ownedTupleIsFree (.ref z) >>= _) _ _ _ from wpAny_bind ?_)
 unfold Builtin.SmallTypes.ownedTupleIsFree
 refine wpAny_bind (wpAny_field hz rfl (x:=.none) rfl (wpAny_pure ?_))
 rw [if_pos (by rfl)]
 refine wpAny_bind (wpAny_rule (wpAny_bind (wpAny_field hz rfl (x:=.ref TO) rfl (wpAny_bind (wpAny_setField_rec hz (by simp) fun ha hza hsa=>wpAny_bind ?_)))))
 have hza':IsZip ha z TI TO .ellipsis:=hza
 simp only [List.forIn_cons,List.forIn_nil,List.zipIdx_cons,List.zipIdx_nil]
 refine wpAny_bind (wpAny_bind (wpAny_onRaise (show wpAny _ _ (Builtin.SmallTypes.nextOf (.ref i1) >>= _) _ _ _ from wpAny_bind (wpAny_nextOf_list_end hh (h1.extBut hsa.extBut D.i1z) (hl.extBut hsa.extBut D.l1z) hx fun hb e hsb he=>?_))))
 obtain ⟨oe,hoe,hce⟩:=he
 have z2:IsZip hb z TI TO .ellipsis:=hsb _ _ D.i1z.symm hza'
 have hez:e≠z:=fun q=>by subst q;rw [z2] at hoe;cases hoe;simp at hce
 exact wpAny_setField_rec z2 (by simp) fun hc _ hsc=>hE hc e (fun c o n1 _ n3 _ q=>hsc.extBut _ _ n1 (hsb _ _ n3 (hsa.extBut _ _ n1 q))) ⟨oe,hsc.extBut _ _ hez hoe,hce⟩
theorem pyNext_zipT_item {z TI TO i1 i2 l t:Addr} {k:Nat} {xs ys:Array Value} {x y a b:Value} {Q:Option Value→Shared→Prop} (D:ZipApart z TI TO i1 i2 l t) (hz:IsZip s.heap z TI TO .none) (hTI:IsPair s.heap TI (.ref i1) (.ref i2)) (hTO:IsPair s.heap TO a b)
  (h1:s.heap.IsListIter i1 l k) (h2:s.heap.IsTupleIter i2 t k) (hl:s.heap.IsList l xs) (ht:s.heap.IsTuple t ys) (hx:xs[k]?=some x) (hy:ys[k]?=some y)
  (hQ:∀ h',IsZip h' z TI TO (rawInt s.heap.objs.size)→IsPair h' TO x y→h'.IsListIter i1 l (k+1)→h'.IsTupleIter i2 t (k+1)→IsPair h' s.heap.objs.size x y→h'.objs.size=s.heap.objs.size+1 →
   (∀ c o,c≠z→c≠TO→c≠i1→c≠i2→s.heap.get? c=some o→h'.get? c=some o)→Q (some (.ref s.heap.objs.size)) { s with heap:=h' }) :
  wpAny (model prog w) A (pyNext (.ref z)) Q E s:=by
 have hT:s.TypeIs (.ref z) "zip":=⟨_,hz,rfl⟩
 unfold pyNext
 exact wpAny_bind (wpAny_attempt (wpAny_callSpecial?_slot (name:=Str.ofString "__next__") hT F.slot_zip_next (wpAny_call_entry F.slot_zip_next hT F.entry_zip_next
  (zipT_item D hz hTI hTO h1 h2 hl ht hx hy fun h' a1 a2 a3 a4 a5 a6 a7=>wpAny_pure (hQ h' a1 a2 a3 a4 a5 a6 a7)) (F.args_zip_next_1 _))))
theorem pyNext_zipT_end {z TI TO i1 i2 l t:Addr} {k:Nat} {xs:Array Value} {a b:Value} {Q:Option Value→Shared→Prop} (hh:A.handled=none) (D:ZipApart z TI TO i1 i2 l t) (hz:IsZip s.heap z TI TO .none) (hTI:IsPair s.heap TI (.ref i1) (.ref i2)) (hTO:IsPair s.heap TO a b)
  (h1:s.heap.IsListIter i1 l k) (hl:s.heap.IsList l xs) (hx:xs[k]?=none)
  (hQ:∀ h',(∀ c o,c≠z→c≠TO→c≠i1→c≠i2→s.heap.get? c=some o→h'.get? c=some o)→Q none { s with heap:=h' }):wpAny (model prog w) A (pyNext (.ref z)) Q E s:=by
 have hT:s.TypeIs (.ref z) "zip":=⟨_,hz,rfl⟩
 unfold pyNext
 refine wpAny_bind (wpAny_attempt (wpAny_callSpecial?_slot (name:=Str.ofString "__next__") hT F.slot_zip_next (wpAny_call_entry F.slot_zip_next hT F.entry_zip_next (zipT_end hh D hz hTI hTO h1 hl hx fun h' e hk he=>?_) (F.args_zip_next_1 _))))
 obtain ⟨o,ho,hc⟩:=he
 exact wpAny_bind (wpAny_isInstance (T:="StopIteration") (b:=true) ⟨o,ho,hc⟩ isSubtype_stop (wpAny_pure (hQ _ hk)))
end
abbrev zA (h:Heap) (l:Addr):Heap:=h.push { cls:=.type "list_iterator",data:=.fields #[.ref l,.int 0 0] }
abbrev zB (h:Heap) (l t:Addr):Heap:=(zA h l).push { cls:=.type "tuple_iterator",data:=.fields #[.ref t,.int 0 0] }
abbrev zC (h:Heap) (l t:Addr):Heap:=(zB h l t).push { cls:=.type "tuple",data:=.seq #[.ref h.objs.size,.ref (zA h l).objs.size] }
abbrev zD (h:Heap) (l t:Addr):Heap:=(zC h l t).push { cls:=.type "tuple",data:=.seq #[.none,.none] }
abbrev zE (h:Heap) (l t:Addr):Heap:=(zD h l t).push { cls:=.type "zip",data:=.fields #[.none,.bool false,.bool false,.ref (zB h l t).objs.size,.ref (zC h l t).objs.size] }
theorem meets_zipT (l t:Addr) (xs ys:Array Value):Meets (Builtin.«zip.__new__» ⟨[.type "zip",.ref l,.ref t],[]⟩) (fun _ R s=>s.heap.IsList l xs∧s.heap.IsTuple t ys∧R (.ok (.ret (.ref (zD s.heap l t).objs.size))) { s with heap:=zE s.heap l t }) :=
 .of_wp fun prog w A R s h=>by
  obtain ⟨hp,g,d,tk,os⟩:=s
  obtain ⟨hl,ht,h⟩:=h
  have hsub:=sub_zip
  have e1:Heap.IsList (Shared.heap ⟨hp,g,d,tk,os⟩) l xs:=hl
  have e2:Heap.IsTuple (Shared.heap ⟨hp.push { cls:=.type "list_iterator",data:=.fields #[.ref l,.int 0 0] },g,d,tk,os⟩) t ys:=Heap.IsTuple.push ht _
  wp_walk using wpAny_pyIter_list e1,wpAny_pyIter_tuple e2
  exact ⟨_,rfl,h⟩
section
variable {prog:Program} {w:World} {A:Around} {E:Value→Shared→Prop} {s:Shared}
theorem call_zipT {l t:Addr} {xs ys:Array Value} {Q:Value→Shared→Prop} (hl:s.heap.IsList l xs) (ht:s.heap.IsTuple t ys)
  (h:∀ h',IsZip h' (s.heap.objs.size+4) (s.heap.objs.size+2) (s.heap.objs.size+3) .none→IsPair h' (s.heap.objs.size+2) (.ref s.heap.objs.size) (.ref (s.heap.objs.size+1))→IsPair h' (s.heap.objs.size+3) .none .none →
   h'.IsListIter s.heap.objs.size l 0→h'.IsTupleIter (s.heap.objs.size+1) t 0→(∀ c o,s.heap.get? c=some o→h'.get? c=some o)→Q (.ref (s.heap.objs.size+4)) { s with heap:=h' }) :
  wpAny (model prog w) A (call (.type "zip") [.ref l,.ref t]) Q E s:=by
 refine callType_new F.called_zip (by decide) (F.typeCall_zip_2 _ _) (F.newCall_zip_2 _ _) (fun obj=>F.args_object_init_3 obj _ _) F.entry_zip_new (meets_zipT l t xs ys) ⟨hl,ht,?_⟩
 have s1:(zA s.heap l).objs.size=s.heap.objs.size+1:=Heap.size_push ..
 have s2:(zB s.heap l t).objs.size=s.heap.objs.size+2:=by rw [Heap.size_push,s1]
 have s3:(zC s.heap l t).objs.size=s.heap.objs.size+3:=by rw [Heap.size_push,s2]
 have s4:(zD s.heap l t).objs.size=s.heap.objs.size+4:=by rw [Heap.size_push,s3]
 have up:∀ {g:Heap} {o p:Obj} {c:Addr},g.get? c=some o→(g.push p).get? c=some o:=fun e=>Heap.get?_push_of_some _ e
 have g5:(zE s.heap l t).get? (zD s.heap l t).objs.size=some _:=Heap.get?_push_size _ rfl
 have g4:(zE s.heap l t).get? (zC s.heap l t).objs.size=some _:=up (Heap.get?_push_size _ rfl)
 have g3:(zE s.heap l t).get? (zB s.heap l t).objs.size=some _:=up (up (Heap.get?_push_size _ rfl))
 have g2:(zE s.heap l t).get? (zA s.heap l).objs.size=some _:=up (up (up (Heap.get?_push_size _ rfl)))
 have g1:(zE s.heap l t).get? s.heap.objs.size=some _:=up (up (up (up (Heap.get?_push_size _ rfl))))
 show _∧_
 rw [s2,s3,s4] at g5
 rw [s1,s2] at g3
 rw [s3] at g4
 rw [s1] at g2
 rw [s4]
 exact ⟨⟨_,g5,rfl⟩,h _ g5 g3 g4 ⟨_,g1,rfl,rfl⟩ ⟨_,g2,rfl,rfl⟩ fun c o q=>up (up (up (up (up q))))⟩
end
def ItzT (K:PySem.W.Frag) (a b:Addr):It :=
 ⟨fun i H=>∃ xs ys x y,SqL K H a xs∧SqT K H b ys∧xs[i]?=some x∧ys[i]?=some y,
  fun i H v H'=>∃ p x y,H p=none∧v=.ref p∧H'=upd H p (.tup [x,y])∧(∀ xs,SqL K H a xs→xs[i]?=some x)∧∀ ys,SqT K H b ys→ys[i]?=some y,
  fun i H=>∃ xs,SqL K H a xs∧xs.length≤i⟩
theorem turn_zipT {P:Program} {w:World} {K:PySem.W.Frag} {elts:List Expr} {x1:Nat} {pos:Pos} {z TI TO i1 i2 l1 l2:Addr} (D:ZipApart z TI TO i1 i2 l1 l2) :
  Turn P w K (.Tuple elts x1 pos) (ItzT K l1 l2) [z,TI,TO,i1,i2] z (fun i h=>IsZip h z TI TO .none∧IsPair h TI (.ref i1) (.ref i2)∧(∃ a b,IsPair h TO a b)∧h.IsListIter i1 l1 i∧h.IsTupleIter i2 l2 i) where
 mem:=by simp
 obj:=fun i h st b hb=>by
  obtain ⟨hz,hTI,⟨a,b',hTO⟩,⟨o1,e1,c1,d1⟩,⟨o2,e2,c2,d2⟩⟩:=st
  simp only [List.mem_cons,List.not_mem_nil,or_false] at hb
  rcases hb with rfl | rfl | rfl | rfl | rfl
  ·exact ⟨_,hz,fun v q=>by cases q⟩
  ·exact ⟨_,hTI,fun v q=>by cases q⟩
  ·exact ⟨_,hTO,fun v q=>by cases q⟩
  ·exact ⟨_,e1,fun v q=>by rw [d1] at q;cases q⟩
  ·exact ⟨_,e2,fun v q=>by rw [d2] at q;cases q⟩
 keep:=fun i h h' st k=>by
  obtain ⟨hz,hTI,⟨a,b',hTO⟩,h1,h2⟩:=st
  exact ⟨k z (by simp) _ hz,k TI (by simp) _ hTI,⟨a,b',k TO (by simp) _ hTO⟩,h1.at fun o e=>k i1 (by simp) o e,h2.at fun o e=>k i2 (by simp) o e⟩
 item:=by
  intro X hP hw hK hc i pins s σ H E I hf st hg
  subst hP hw hK
  obtain ⟨hz,hTI,⟨a,b,hTO⟩,h1,h2⟩:=st
  obtain ⟨xs,ys,x,y,hx,hy,ex,ey⟩:=hg
  obtain ⟨its,rv,p,hzx⟩:=I.list hx
  obtain ⟨its2,rv2,p2,hzy⟩:=I.tuple hy
  obtain ⟨u,hu,ru⟩:=rv.get ex
  obtain ⟨u2,hu2,ru2⟩:=rv2.get ey
  refine pyNext_zipT_item D hz hTI hTO h1 h2 p.isList (show s.heap.IsTuple l2 its2.toArray from p2) (x:=u) (y:=u2) (by simpa using hu) (by simpa using hu2) fun h' a1 a2 a3 a4 a5 a6 kk=>⟨_,rfl,?_⟩
  refine wpAny_letOwnedTupleGo_zip a1 fun h2' hz' hs'=>?_
  have lt:∀ {c o},s.heap.get? c=some o→s.heap.objs.size≠c:=fun e=>Nat.ne_of_gt (Heap.lt_size e)
  have k2:∀ c o,c ∉ [z,TI,TO,i1,i2]→s.heap.get? c=some o→h2'.get? c=some o:=fun c o hc e=>by
   simp only [List.mem_cons,List.not_mem_nil,or_false,not_or] at hc
   exact hs'.extBut _ _ hc.1 (kk c o hc.1 hc.2.2.1 hc.2.2.2.1 hc.2.2.2.2 e)
  have tup:ObjOk X.prog X.w (upd H s.heap.objs.size (.tup [x,y])) h2' s.heap.objs.size (.tup [x,y]) :=
   ⟨by show 2≤sizeLine;decide,[u,u2],.cons ru (.cons ru2 .nil),⟨_,hs'.extBut _ _ (lt hz) a5,rfl,_,rfl⟩⟩
  have hn:=I.hok.fresh (Nat.le_refl s.heap.objs.size)
  refine ⟨.ref s.heap.objs.size,_,I.turnedNew (t':=s.toks) k2 hf (Nat.le_refl _) tup,rfl,⟨_,x,y,hn,rfl,rfl,fun zs hq=>by rw [I.list_inj hq hx];exact ex,fun zs hq=>by rw [I.tuple_inj hq hy];exact ey⟩,
   ⟨hz',hs'.extBut _ _ D.TIz (kk _ _ D.TIz D.TITO D.TIi1 D.TIi2 hTI),⟨_,_,hs'.extBut _ _ D.TOz a2⟩,a3.extBut hs'.extBut D.i1z,a4.extBut hs'.extBut D.i2z⟩,fun c hc=>?_⟩
  have hcn:c≠s.heap.objs.size:=by
   simp only [List.mem_cons,List.not_mem_nil,or_false] at hc
   obtain ⟨o1,e1,_⟩:=h1
   obtain ⟨o2,e2,_⟩:=h2
   rcases hc with rfl | rfl | rfl | rfl | rfl
   ·exact (lt hz).symm
   ·exact (lt hTI).symm
   ·exact (lt hTO).symm
   ·exact (lt e1).symm
   ·exact (lt e2).symm
  rw [upd_ne hcn]
  exact (hf c hc).1
 done:=by
  intro X hP hw hK hc i pins s σ H E I hf st hg
  subst hP hw hK
  obtain ⟨hz,hTI,⟨a,b,hTO⟩,h1,h2⟩:=st
  obtain ⟨xs,hx,he⟩:=hg
  obtain ⟨its,rv,p,hzx⟩:=I.list hx
  have l1':=rv.length
  refine pyNext_zipT_end (I.ok.hd hc) D hz hTI hTO h1 p.isList (by simp;omega) fun h' kk=>⟨rfl,?_⟩
  refine I.turnedL (t':=s.toks) (ch:=[z,TI,TO,i1,i2]) (fun c o hc e=>?_) hf
  simp only [List.mem_cons,List.not_mem_nil,or_false,not_or] at hc
  exact kk c o hc.1 hc.2.2.1 hc.2.2.2.1 hc.2.2.2.2 e
 self:=fun _ _ _ _ _ st h=>wpAny_pyIter_zip st.1 h
section
variable {X:Cx}
def iZipT (K:PySem.W.Frag) (ta:TA):TI:=fun σ H R=>ta σ H fun vs H1=>∃ a b,vs=[.ref a,.ref b]∧(∃ xs,SqL K H1 a xs)∧(∃ ys,SqT K H1 b ys)∧R (ItzT K a b) H1
theorem pi_ziptK (K:PySem.W.Frag) {e1 e2:Expr} {ta:TA} {p pos tpos:Pos} {elts:List Expr} {x1:Nat} (hg:Gl X "zip") (hm:X.mg "zip"=none) (ha:PA X [e1,e2] ta) (hK:X.K=K:=by rfl) (hs:starEach [e1,e2] X.env=(false,eval e1 X.env) :: starEach [e2] X.env:=by rfl) (hpl:(backTo pos (starEach [e2] X.env)).any (·.1)=false:=by rfl) :
  PI X (.Tuple elts x1 tpos) (.Call (.Name "zip" p) [e1,e2] [] pos) (iZipT K ta):=by
 subst hK
 intro pins s σ H R I h
 refine wpAny_Call_Name_kw (ld_blt I hg hm boot_zip ?_ (by decide) (by decide))
 refine PyProof.Rows.callWith_type1 (thn (ha pos pins s σ H _ I h) fun us s1 ⟨vs,H1,I1,r1,q1⟩=>?_) hs hpl
 obtain ⟨a,b,rfl,⟨xs,hx⟩,⟨ys,hy⟩,q⟩:=q1
 obtain ⟨u,v,rfl,ru,rv⟩:=r1.two
 cases ru
 cases rv
 obtain ⟨its,r1',p1,_⟩:=I1.list hx
 obtain ⟨its2,r2',p2,_⟩:=I1.tuple hy
 have p2':s1.heap.IsTuple b its2.toArray:=p2
 refine call_zipT p1.isList p2' fun h' hz hTI hTO h1 h2 kk=>?_
 refine wpAny_pyIter_zip hz ?_
 have la:a < s1.heap.objs.size:=by obtain ⟨o,n,ho,_⟩:=p1;exact Heap.lt_size ho
 have lb:b < s1.heap.objs.size:=by obtain ⟨o,ho,_⟩:=p2';exact Heap.lt_size ho
 have I2:Inv X pins σ H1 { s1 with heap:=h' }:=I1.kept (t':=s1.toks) fun b o e=>kk b o e
 refine ⟨s1.heap.objs.size+4,[s1.heap.objs.size+4,s1.heap.objs.size+2,s1.heap.objs.size+3,s1.heap.objs.size,s1.heap.objs.size+1],_,_,H1,rfl,I2,turn_zipT (zipApart_new la lb),⟨hz,hTI,⟨_,_,hTO⟩,h1,h2⟩,fun c hc=>?_,q⟩
 have hle:s1.heap.objs.size≤c:=by
  simp only [List.mem_cons,List.not_mem_nil,or_false] at hc
  rcases hc with rfl | rfl | rfl | rfl | rfl
  ·exact Nat.le_add_right _ _
  ·exact Nat.le_add_right _ _
  ·exact Nat.le_add_right _ _
  ·exact Nat.le_refl _
  ·exact Nat.le_add_right _ _
 exact I1.fpOk (H':=H1) hle (I1.hok.fresh hle)
end
section
variable {K:PySem.W.Frag} {g:TG} {tt:TT} {te:TE} {D:Addr} {σ:St} {H:Hp} {Q:VK}
theorem lc_zipT {a b:Addr} {xs ys:List V} (hlen:xs.length=ys.length) (Pv:Nat→St→Hp→Prop) (h0:Pv 0 σ H) (hl:∀ i σ H,i≤xs.length→Pv i σ H→SqL K H a xs∧SqT K H b ys)
  (hs:∀ (i:Nat) (x y:V) (p:Addr) (σ:St) (H:Hp) (N:St→Hp→Prop),(∀ σ H,Pv (i+1) σ H→N σ H)→xs[i]?=some x→ys[i]?=some y→Pv i σ H→H p=none→g (.ref p) σ (upd H p (.tup [x,y])) fun σ3 H3=>tt σ3 H3 fun b H4 =>
   if b=true then te σ3 H4 fun v H5=>∃ ys,H5 D=some (.lst ys)∧ys.length < sizeLine∧N σ3 (upd H5 D (.lst (ys ++ [v]))) else N σ3 H4)
  (hd:∀ σ H,Pv xs.length σ H→Q (.ref D) H):lcRun (ItzT K a b) g tt te D σ H Q:=by
 refine ⟨fun i m σ H=>m=xs.length - i∧i≤xs.length∧Pv i σ H,⟨xs.length,by simp,Nat.zero_le _,h0⟩,?_⟩
 rintro i m σ' H' ⟨rfl,hi,p⟩
 obtain ⟨q1,q2⟩:=hl i σ' H' hi p
 by_cases hlt:i < xs.length
 ·have hlt2:i < ys.length:=by omega
  refine .inr ⟨⟨xs,ys,xs[i],ys[i],q1,q2,by simp [hlt],by simp [hlt2]⟩,fun x H2 y=>?_⟩
  obtain ⟨pp,x1,y1,hn,rfl,rfl,ex,ey⟩:=y
  exact hs i x1 y1 pp σ' _ (fun σ3 H3=>∃ m',m' < xs.length - i∧m'=xs.length - (i+1)∧i+1≤xs.length∧Pv (i+1) σ3 H3) (fun σ3 H3 z=>⟨xs.length - (i+1),by omega,rfl,hlt,z⟩) (ex xs q1) (ey ys q2) p hn
 ·have e:i=xs.length:=by omega
  subst e
  exact .inl ⟨⟨xs,q1,Nat.le_refl _⟩,hd σ' H' p⟩
end
end L2
namespace L2
open PySem
structure TupK (K:PySem.W.Frag) (a:Addr) (xs:List V):Prop where
 ex:∃ (o:Obj) (its:Array Value) (n:Nat),K.lookup a=some o∧o.cls=.type "tuple"∧o.data=.seq its n∧its.size≤sizeLine∧Vals xs its.toList
theorem TupK.sq {K:PySem.W.Frag} {a:Addr} {xs:List V} (h:TupK K a xs) (H:Hp):SqT K H a xs:=.inr h.ex
end L2
namespace L2
open PySem PySem.Spec PyProof.Rows
def Ite (K:PySem.W.Frag) (a:Addr):It :=
 ⟨fun i H=>∃ xs x,SqL K H a xs∧xs[i]?=some x,
  fun i H v H'=>∃ p x,H p=none∧v=.ref p∧H'=upd H p (.tup [.int (i:Nat),x])∧∀ xs,SqL K H a xs→xs[i]?=some x,
  fun i H=>∃ xs,SqL K H a xs∧xs.length≤i⟩
theorem turn_enum {P:Program} {w:World} {K:PySem.W.Frag} {elts:List Expr} {x1:Nat} {pos:Pos} {e it l:Addr} (hne:e≠it) :
  Turn P w K (.Tuple elts x1 pos) (Ite K l) [e,it] e (fun i h=>(∃ old,IsEnum h e it ((i:Nat):Int) old)∧h.IsListIter it l i) where
 mem:=by simp
 obj:=fun i h st b hb=>by
  obtain ⟨⟨old,he⟩,⟨o1,e1,c1,d1⟩⟩:=st
  simp only [List.mem_cons,List.not_mem_nil,or_false] at hb
  rcases hb with rfl | rfl
  ·exact ⟨_,he,fun v q=>by cases q⟩
  ·exact ⟨_,e1,fun v q=>by rw [d1] at q;cases q⟩
 keep:=fun i h h' st k=>by
  obtain ⟨⟨old,he⟩,h1⟩:=st
  exact ⟨⟨old,k e (by simp) _ he⟩,h1.at fun o q=>k it (by simp) o q⟩
 item:=by
  intro X hP hw hK hc i pins s σ H E I hf st hg
  subst hP hw hK
  obtain ⟨⟨old,he⟩,h1⟩:=st
  obtain ⟨xs,x,hx,ex⟩:=hg
  obtain ⟨its,rv,p,hzx⟩:=I.list hx
  obtain ⟨u,hu,ru⟩:=rv.get ex
  refine wpAny_pyNext_enum_item he h1 p.isList (x:=u) (by simpa using hu) hne fun h' a1 a2 a3 a4 kk=>⟨_,rfl,?_⟩
  refine wpAny_letOwnedTupleGo_enum a1 fun h2' he' hs'=>?_
  have lt:∀ {c o},s.heap.get? c=some o→s.heap.objs.size≠c:=fun q=>Nat.ne_of_gt (Heap.lt_size q)
  have k2:∀ c o,c ∉ [e,it]→s.heap.get? c=some o→h2'.get? c=some o:=fun c o hc q=>by
   simp only [List.mem_cons,List.not_mem_nil,or_false,not_or] at hc
   exact hs'.extBut _ _ hc.1 (kk c o hc.1 hc.2 q)
  have tup:ObjOk X.prog X.w (upd H s.heap.objs.size (.tup [.int (i:Nat),x])) h2' s.heap.objs.size (.tup [.int (i:Nat),x]) :=
   ⟨by show 2≤sizeLine;decide,[.int (i:Nat) s.toks,u],.cons ⟨_,rfl⟩ (.cons ru .nil),⟨_,hs'.extBut _ _ (lt he) a3,rfl,_,rfl⟩⟩
  have hn:=I.hok.fresh (Nat.le_refl s.heap.objs.size)
  have e1:((i:Nat):Int)+1=((i+1:Nat):Int):=by omega
  rw [e1] at he'
  refine ⟨.ref s.heap.objs.size,_,I.turnedNew (t':=s.toks+1) k2 hf (Nat.le_refl _) tup,rfl,⟨_,x,hn,rfl,rfl,fun zs hq=>by rw [I.list_inj hq hx];exact ex⟩,⟨⟨_,he'⟩,a2.extBut hs'.extBut (Ne.symm hne)⟩,fun c hc=>?_⟩
  have hcn:c≠s.heap.objs.size:=by
   simp only [List.mem_cons,List.not_mem_nil,or_false] at hc
   obtain ⟨o1,q1,_⟩:=h1
   rcases hc with rfl | rfl
   ·exact (lt he).symm
   ·exact (lt q1).symm
  rw [upd_ne hcn]
  exact (hf c hc).1
 done:=by
  intro X hP hw hK hc i pins s σ H E I hf st hg
  subst hP hw hK
  obtain ⟨⟨old,he⟩,h1⟩:=st
  obtain ⟨xs,hx,hle⟩:=hg
  obtain ⟨its,rv,p,hzx⟩:=I.list hx
  have l1':=rv.length
  refine wpAny_pyNext_enum_end (I.ok.hd hc) he h1 p.isList (by simp;omega) fun h' kk=>⟨rfl,?_⟩
  refine I.turnedL (t':=s.toks) (ch:=[e,it]) (fun c o hc q=>?_) hf
  simp only [List.mem_cons,List.not_mem_nil,or_false,not_or] at hc
  exact kk c o hc.2 q
 self:=fun _ _ _ _ _ ⟨⟨old,he⟩,_⟩ h=>wpAny_pyIter_enum he h
section
variable {X:Cx}
def iEnum (K:PySem.W.Frag) (ta:TA):TI:=fun σ H R=>ta σ H fun vs H1=>∃ a xs,vs=[.ref a]∧H1 a=some (.lst xs)∧R (Ite K a) H1
theorem pi_enumerateK (K:PySem.W.Frag) {e1:Expr} {ta:TA} {p pos tpos:Pos} {elts:List Expr} {x1:Nat} (hg:Gl X "enumerate") (hm:X.mg "enumerate"=none) (ha:PA X [e1] ta) (hK:X.K=K:=by rfl) (hs:starEach [e1] X.env=[(false,eval e1 X.env)]:=by rfl) (hpl:(backTo pos (starEach [] X.env)).any (·.1)=false:=by rfl) :
  PI X (.Tuple elts x1 tpos) (.Call (.Name "enumerate" p) [e1] [] pos) (iEnum K ta):=by
 subst hK
 intro pins s σ H R I h
 refine wpAny_Call_Name_kw (ld_blt I hg hm boot_enumerate ?_ (by decide) (by decide))
 refine PyProof.Rows.callWith_type1 (thn (ha pos pins s σ H _ I h) fun us s1 ⟨vs,H1,I1,r1,q1⟩=>?_) hs hpl
 obtain ⟨a,xs,rfl,hx,q⟩:=q1
 obtain ⟨u,rfl,ru⟩:=r1.one
 cases ru
 obtain ⟨z,its,n,rv,hl,e⟩:=I1.lstM hx
 refine call_enumerate_1 e fun h' he h1 hsz kk=>?_
 refine wpAny_pyIter_enum he ?_
 have I2:Inv X pins σ H1 { s1 with heap:=h' }:=I1.kept (t':=s1.toks) fun b o q=>kk b o q
 refine ⟨s1.heap.objs.size+1,[s1.heap.objs.size+1,s1.heap.objs.size],_,_,H1,rfl,I2,turn_enum (Nat.succ_ne_self _),⟨⟨_,he⟩,h1⟩,fun c hc=>?_,q⟩
 have hle:s1.heap.objs.size≤c:=by
  simp only [List.mem_cons,List.not_mem_nil,or_false] at hc
  rcases hc with rfl | rfl
  ·exact Nat.le_add_right _ _
  ·exact Nat.le_refl _
 exact I1.fpOk (H':=H1) hle (I1.hok.fresh hle)
end
section
variable {K:PySem.W.Frag} {g:TG} {tt:TT} {te:TE} {D:Addr} {σ:St} {H:Hp} {Q:VK}
theorem for_enum {a:Addr} {xs:List V} {tb:TS} {D:Ends} (Pv:Nat→St→Hp→Prop) (h0:Pv 0 σ H) (hl:∀ i σ H,i≤xs.length→Pv i σ H→SqL K H a xs)
  (hs:∀ i x p σ H,xs[i]?=some x→Pv i σ H→H p=none→g (.ref p) σ (upd H p (.tup [.int (i:Nat),x])) fun σ2 H2=>tb { D with nx:=Pv (i+1),ct:=Pv (i+1),bk:=D.nx } σ2 H2) (hd:∀ σ H,Pv xs.length σ H→D.nx σ H) :
  ∃ W:Nat→Nat→St→Hp→Prop,(∃ m,W 0 m σ H)∧∀ i m σ H,W i m σ H →
   ((Ite K a).stop i H∧D.nx σ H)∨((Ite K a).go i H∧∃ N:St→Hp→Prop,(∀ σ' H',N σ' H'→∃ m',m' < m∧W (i+1) m' σ' H')∧∀ x H',(Ite K a).yld i H x H'→g x σ H' fun σ2 H2=>tb { D with nx:=N,ct:=N,bk:=D.nx } σ2 H2):=by
 refine ⟨fun i m σ H=>m=xs.length - i∧i≤xs.length∧Pv i σ H,⟨xs.length,by simp,Nat.zero_le _,h0⟩,?_⟩
 rintro i m σ H ⟨rfl,hi,p⟩
 have q:=hl i σ H hi p
 by_cases hlt:i < xs.length
 ·refine .inr ⟨⟨xs,xs[i],q,by simp [hlt]⟩,Pv (i+1),fun σ' H' p'=>⟨xs.length - (i+1),by omega,rfl,hlt,p'⟩,fun x H' y=>?_⟩
  obtain ⟨pp,x1,hn,rfl,rfl,ex⟩:=y
  exact hs i x1 pp σ _ (ex xs q) p hn
 ·have e:i=xs.length:=by omega
  subst e
  exact .inl ⟨⟨xs,q,Nat.le_refl _⟩,hd σ H p⟩
theorem take_two {i j:Nat} {x y:V} {p:Addr} {A:St→Hp→Prop} (hp:SqT K H p [x,y]) (h:A ((σ.set i (some x)).set j (some y)) H):gTup K 2 (gCons (gName i) (gCons (gName j) gNil)) (.ref p) σ H A :=
 ⟨p,[x,y],rfl,hp,rfl,x,_,rfl,y,_,rfl,rfl,h⟩
end
end L2
namespace L2
open PySem PySem.Spec PyProof.Rows
section
variable {K:PySem.W.Frag} {g:TG} {tt:TT} {te:TE} {D:Addr} {σ:St} {H:Hp} {Q:VK}
theorem for_zip {a b:Addr} {xs ys:List V} {tb:TS} {D:Ends} (hlen:xs.length=ys.length) (Pv:Nat→St→Hp→Prop) (h0:Pv 0 σ H) (hl:∀ i σ H,i≤xs.length→Pv i σ H→SqL K H a xs∧SqL K H b ys)
  (hs:∀ i x y p σ H,xs[i]?=some x→ys[i]?=some y→Pv i σ H→H p=none→g (.ref p) σ (upd H p (.tup [x,y])) fun σ2 H2=>tb { D with nx:=Pv (i+1),ct:=Pv (i+1),bk:=D.nx } σ2 H2) (hd:∀ σ H,Pv xs.length σ H→D.nx σ H) :
  ∃ W:Nat→Nat→St→Hp→Prop,(∃ m,W 0 m σ H)∧∀ i m σ H,W i m σ H →
   ((Itz K a b).stop i H∧D.nx σ H)∨((Itz K a b).go i H∧∃ N:St→Hp→Prop,(∀ σ' H',N σ' H'→∃ m',m' < m∧W (i+1) m' σ' H')∧∀ x H',(Itz K a b).yld i H x H'→g x σ H' fun σ2 H2=>tb { D with nx:=N,ct:=N,bk:=D.nx } σ2 H2):=by
 refine ⟨fun i m σ H=>m=xs.length - i∧i≤xs.length∧Pv i σ H,⟨xs.length,by simp,Nat.zero_le _,h0⟩,?_⟩
 rintro i m σ H ⟨rfl,hi,p⟩
 obtain ⟨q1,q2⟩:=hl i σ H hi p
 by_cases hlt:i < xs.length
 ·have hlt2:i < ys.length:=by omega
  refine .inr ⟨⟨xs,ys,xs[i],ys[i],q1,q2,by simp [hlt],by simp [hlt2]⟩,Pv (i+1),fun σ' H' p'=>⟨xs.length - (i+1),by omega,rfl,hlt,p'⟩,fun x H' y=>?_⟩
  obtain ⟨pp,x1,y1,hn,rfl,rfl,ex,ey⟩:=y
  exact hs i x1 y1 pp σ _ (ex xs q1) (ey ys q2) p hn
 ·have e:i=xs.length:=by omega
  subst e
  exact .inl ⟨⟨xs,ys,q1,q2,.inl (Nat.le_refl _)⟩,hd σ H p⟩
theorem lc_pick {n:Nat} (hn:n≤1000) {H0:Hp} {σr:St} {b:Nat→Bool} (hD:H0 D=none)
  (ht:∀ (i:Nat) (H:Hp) (N:Bool→Hp→Prop),i < n→Same H0 H→(∀ H',Same H H'→N (b i) H')→tt (some (.int (0+(i:Int))) :: σr) H N)
  (he:∀ (i:Nat) (H:Hp) (N:V→Hp→Prop),i < n→N (.int (0+(i:Int))) H→te (some (.int (0+(i:Int))) :: σr) H N)
  (q:∀ H,Same H0 H→H D=some (.lst (((List.range n).filter b).map fun k=>V.int (k:Nat)))→Q (.ref D) H) :
  lcRun (Itr 0 n) (gName 0) tt te D (none :: σr) (upd H0 D (.lst [])) Q:=by
 have hsz:(2000:Nat)≤sizeLine:=by decide
 refine lc_range (lo:=0) (n:=n) (fun i σ H'=>∃ v:Option V,σ=v :: σr∧Same H0 H'∧H' D=some (.lst (((List.range i).filter b).map fun k=>V.int (k:Nat)))) ⟨none,rfl,(Same.refl _).new hD,upd_same⟩ ?_ ?_
 ·rintro i σ H' N hN hi ⟨v,rfl,s1,h1⟩
  refine turn_if ?_
  refine ht i H' _ hi s1 fun H2 s2=>?_
  have ef:(List.range (i+1)).filter b=(List.range i).filter b ++ if b i=true then [i] else []:=by
   rw [List.range_succ,List.filter_append]
   congr 1
   by_cases e:b i=true <;> simp [e]
  by_cases e:b i=true
  ·rw [e]
   refine iteT (he i H2 _ hi ⟨_,s2 _ _ h1,?_,?_⟩)
   ·rw [List.length_map]
    have:=List.length_filter_le b (List.range i)
    rw [List.length_range] at this
    omega
   ·refine hN _ _ ⟨_,rfl,(s1.trans s2).put hD,?_⟩
    rw [upd_same,ef,if_pos e,List.map_append]
    simp
  ·have e':b i=false:=by simpa using e
   rw [e']
   refine iteF (hN _ _ ⟨_,rfl,s1.trans s2,?_⟩)
   rw [ef,if_neg e,List.append_nil]
   exact s2 _ _ h1
 ·rintro σ H' ⟨v,rfl,s1,h1⟩
  exact q H' s1 h1
theorem nats_tab (ps:List Nat):(ps.map fun k=>V.int (k:Nat))=tabI ps.length fun q=>((ps.getD q 0:Nat):Int):=by
 apply List.ext_getElem?
 intro j
 by_cases hj:j < ps.length
 ·rw [tab_get hj,List.getElem?_map]
  simp [hj,List.getD]
 ·rw [List.getElem?_eq_none (by rw [List.length_map];omega),List.getElem?_eq_none (by rw [tab_len];omega)]
end
section
variable {P:Program} {w:World} {K:PySem.W.Frag} {mg:Str→Option Value} {base:Heap}
def spNo:Sp:=fun _ _ _ _=>False
theorem Site.no {x:Str} {st:Stmt} {N ps:List Str} (F:Site K mg x st) (S:FnScope N ps (defScope st))
  (hb:∀ (kV doc pm:Value) (an:Option Addr) (cdv ct:Value) (us:List Value),us.length=ps.length→bindArgs (PySem.W.fnOf x x (defArgs st) (defBody st) (defScope st) .none kV doc pm an cdv ct) ⟨us,[]⟩=pure (ps.zip us)):Def P w K mg base 1 x ps spNo :=
 F.def S hb (fun _ _ _ _ h=>h.elim) fun _ _ _ _ _ _ _ _ _ _ h=>h.elim
end
end L2
namespace L2
open PySem PySem.Spec PyProof.Rows
theorem Same.tup {K:PySem.W.Frag} {H H':Hp} {a:Addr} {xs:List V} (e:Same H H') (h:SqT K H a xs):SqT K H' a xs:=by
 rcases h with (h | ⟨o,h⟩) | h
 ·exact .inl (.inl (e _ _ h))
 ·exact .inl (.inr ⟨o,e _ _ h⟩)
 ·exact .inr h
section
variable {prog:Program} {w:World} {A:Around} {E:Value→Shared→Prop} {s:Shared}
theorem item_whole {t sl:Addr} {items:Array Value} {vl vu:Value} {lo hi:Option Int} {Q:Value→Shared→Prop} (ht:IsTup s.heap t items) (hs:s.heap.IsSliceOf sl vl vu .none) (pl:IsPart vl lo) (pu:IsPart vu hi)
  (h1:HT.sIx items.size 0 lo=0) (h2:HT.sIx items.size items.size hi=items.size) (h:Q (.ref t) s):wpAny (model prog w) A (getItem (.ref t) (.ref sl)) Q E s:=by
 obtain ⟨os,hos,hcs,hds⟩:=id hs
 have hTs:s.TypeIs (.ref sl) "slice":=⟨os,hos,hcs⟩
 unfold getItem
 try with_reducible refine wpAny_holding ?_
 first | refine wpAny_bind (wpAny_pure ?_) | skip
 refine wpAny_bind (wpAny_sequenceKey ht.typeIs (by decide) (wpAny_bind (wpAny_callSpecial?_slot (name:=Str.ofString "__getitem__") ht.typeIs PyProof.Rows.slot_tuple_getitem (wpAny_call_entry PyProof.Rows.slot_tuple_getitem ht.typeIs PyProof.Rows.entry_tuple_getitem ?_ (PyProof.Rows.args_tuple_getitem _ _)))))
 refine (show wpAny _ _ (Builtin.Tuple.tupleItemsOf (.ref t) >>= _) _ _ s from wpAny_bind (PyProof.Rows.tupleItemsOf_ ht (wpAny_bind (wpAny_typeOf hTs ?_))))
 rw [if_pos (by decide)]
 refine wpAny_bind (HT.sliceApplied_gen hs pl pu ?_)
 rw [h1,h2,Nat.sub_zero]
 refine (show wpAny _ _ (if ((((0:Nat):Int) == 0) && (1:Int) == 1 && items.size == items.size)=true then _ else _) _ _ s from ?_)
 rw [if_pos (by simp)]
 refine wpAny_bind ?_
 unfold Builtin.Tuple.tupleIsExact
 refine wpAny_bind (wpAny_typeOf ht.typeIs (wpAny_pure ?_))
 rw [if_pos (by decide)]
 first
  | exact wpAny_bind (wpAny_rule (wpAny_pure ⟨_,rfl,wpAny_pure h⟩))
  | exact wpAny_bind (wpAny_rule (wpAny_bind (wpAny_pure (wpAny_pure ⟨_,rfl,wpAny_pure h⟩))))
  | exact wpAny_bind (wpAny_bind (wpAny_rule (wpAny_pure (wpAny_pure ⟨_,rfl,wpAny_pure h⟩))))
end
section
variable {X:Cx}
def rSlA (K:PySem.W.Frag):V→Option Int→Option Int→Hp→VK→Prop:=fun x lo hi H Q=>∃ a xs,x=.ref a∧SqT K H a xs∧∀ r H',Same H H'→SqT K H' r (cutV xs lo hi)→Q (.ref r) H'
theorem sl_tupA (K:PySem.W.Frag) (hK:X.K=K:=by rfl):SlR X (rSlA K):=by
 subst hK
 intro pins s σ H x v vl vu lo hi sl Q I rx hs pl pu h
 obtain ⟨a,xs,rfl,hx,q⟩:=h
 by_cases hw:HT.sIx xs.length 0 lo=0∧HT.sIx xs.length xs.length hi=xs.length
 ·cases rx
  obtain ⟨its,r,ht,hz⟩:=I.tuple hx
  have hlen:its.toArray.size=xs.length:=by rw [List.size_toArray];exact r.length.symm
  refine ⟨"tuple",_,PyProof.Rows.slot_tuple_getitem.lookup,ht.typeIs,?_⟩
  refine item_whole ht hs pl pu (by rw [hlen];exact hw.1) (by rw [hlen];exact hw.2) ?_
  refine ⟨.ref a,H,I,rfl,q a H (Same.refl _) ?_⟩
  have e:cutV xs lo hi=xs:=by
   unfold cutV
   rw [hw.1,hw.2,List.drop_zero,Nat.sub_zero,List.take_length]
  rw [e]
  exact hx
 ·exact sl_tup pins s σ H (.ref a) v vl vu lo hi sl Q I rx hs pl pu ⟨a,xs,rfl,hx,hw,fun p hp=>q p _ ((Same.refl _).new hp) (SqT.of upd_same)⟩
theorem call_anyK (K:PySem.W.Frag) (hc:X.calm=true) (hK:X.K=K:=by rfl):CallR X (.builtin "any") (fun xs H Q=>∃ (p:Addr) (bs:List Bool),xs=[.ref p]∧SqL K H p (bs.map V.bl)∧Q (.bl (bs.any id)) H):=by
 subst hK
 intro pins s σ H xs us Q I r h
 obtain ⟨p,bs,rfl,hq,q⟩:=h
 obtain ⟨u,rfl,rx⟩:=vals1 r
 cases rx
 obtain ⟨its,r1,p1,_⟩:=I.list hq
 have l1:=r1.length
 rw [List.length_map] at l1
 refine call_any_walk (wpAny_pyIter_list p1.isList ?_)
 have hne:p≠s.heap.objs.size:=by
  obtain ⟨o,n,ho,_⟩:=p1
  exact Nat.ne_of_lt (Heap.lt_size ho)
 refine ⟨_,_,_,its.toArray.size,_,_,fun i=>bs.getD i true,rfl,Walks.list (A:=X.A.in1) (I.ok.hd hc) s.heap.objs.size p hne its.toArray,?_,?_,fun h' tk kp=>?_⟩
 ·exact ⟨⟨_,Heap.get?_push_size _ rfl,rfl,rfl⟩,p1.isList.at fun o e=>Heap.get?_push_of_some _ e⟩
 ·intro i v s' Q' E' hv hQ
  have hi:i < its.length:=by
   have:=hv
   simp only [List.getElem?_toArray] at this
   exact (List.getElem?_eq_some_iff.mp this).1
  have hb:(bs.map V.bl)[i]?=some (V.bl bs[i]):=by simp [show i < bs.length by omega]
  obtain ⟨u,hu,ru⟩:=r1.get hb
  have e:u=v:=by
   simp only [List.getElem?_toArray] at hv
   rw [hu] at hv
   exact Option.some.inj hv
  subst e
  cases ru
  refine wpAny_truthy_bool ?_
  have e2:bs.getD i true=bs[i]:=by simp [List.getD,show i < bs.length by omega]
  rw [← e2]
  exact hQ
 ·have e:(List.range its.toArray.size).any (fun i=>bs.getD i true)=bs.any id:=by
   have hz:its.toArray.size=bs.length:=by simp;omega
   rw [hz,Bool.eq_iff_iff]
   simp only [List.any_eq_true,List.mem_range,id]
   constructor
   ·rintro ⟨i,hi,hb⟩
    exact ⟨bs[i],List.getElem_mem hi,by simpa [List.getD,hi] using hb⟩
   ·rintro ⟨b,hb,hbt⟩
    obtain ⟨n,hn,rfl⟩:=List.getElem_of_mem hb
    exact ⟨n,hn,by simpa [List.getD,hn] using hbt⟩
  rw [e]
  exact ⟨.bl (bs.any id),H,I.kept (t':=tk) fun b o eb=>kp b o (by
   intro z
   have hb:b=s.heap.objs.size:=by simpa using z
   exact absurd (Heap.lt_size eb) (by rw [hb];exact Nat.lt_irrefl _)) (Heap.get?_push_of_some _ eb),rfl,q⟩
end
inductive Like (K:PySem.W.Frag) (H:Hp):Nat→V→V→Prop where
 | flat {n:Nat} (x:V):flatV x=true→Like K H n x x
 | same {n:Nat} (a:Addr):Like K H n (.ref a) (.ref a)
 | lst {n:Nat} {a b:Addr} {xs ys:List V} (ha:SqL K H a xs) (hb:SqL K H b ys) (hl:xs.length=ys.length) (h:∀ (j:Nat) (x y:V),xs[j]?=some x→ys[j]?=some y→Like K H n x y):Like K H (n+1) (.ref a) (.ref b)
 | tup {n:Nat} {a b:Addr} {xs ys:List V} (ha:SqT K H a xs) (hb:SqT K H b ys) (hl:xs.length=ys.length) (h:∀ (j:Nat) (x y:V),xs[j]?=some x→ys[j]?=some y→Like K H n x y):Like K H (n+1) (.ref a) (.ref b)
theorem eqV_same:∀ (x:V),flatV x=true→eqV x x=true
 | .non,_=>rfl
 | .bl b,_=>by simp [eqV]
 | .int i,_=>by simp [eqV]
 | .str z,_=>by simp [eqV]
 | .ref _,h=>absurd h (by intro z;cases z)
 | .ty _,h=>absurd h (by intro z;cases z)
section
variable {X:Cx} {pins:List (Addr × Obj)} {σ:St} {H:Hp} {s:Shared}
theorem like_at (I:Inv X pins σ H s) {n:Nat} {x y:V} (h:Like X.K H n x y):∀ {A:Around} {u v:Value},A.units+n < cLine→RelV x u→RelV y v→SeqAt.EqAt A s u v true:=by
 induction h with
 | flat x fx=>intro A u v _ ru rv;have:=eqAt_V (A:=A) (s:=s) ru rv fx fx;rwa [eqV_same x fx] at this
 | same a=>intro A u v _ ru rv;cases ru;cases rv;exact SeqAt.EqAt.same _
 | @lst n a b xs ys ha hb hl h ih =>
  intro A u v hu ru rv
  cases ru
  cases rv
  by_cases hab:a=b
  ·subst hab
   exact SeqAt.EqAt.same _
  ·obtain ⟨its,r1,p1,_⟩:=I.list ha
   obtain ⟨its2,r2,p2,_⟩:=I.list hb
   have l1:=r1.length
   have l2:=r2.length
   refine SeqAt.EqAt.of_refs hab ?_
   have q:=SeqAt.RcAt.lists (A:=A) (s:=s) (e:=fun _=>true) p1.isList p2.isList (by simp;omega) (by omega) fun j h1 h2=>?_
   ·rw [all_true] at q
    exact q
   ·obtain ⟨x,hx,rx⟩:=rel_at r1 j h1
    obtain ⟨y,hy,ry⟩:=rel_at r2 j h2
    exact ih j x y hx hy (A:=A.in1) (by show A.units+1+n < cLine;omega) rx ry
 | @tup n a b xs ys ha hb hl h ih =>
  intro A u v hu ru rv
  cases ru
  cases rv
  by_cases hab:a=b
  ·subst hab
   exact SeqAt.EqAt.same _
  ·obtain ⟨its,r1,p1,_⟩:=I.tuple ha
   obtain ⟨its2,r2,p2,_⟩:=I.tuple hb
   have l1:=r1.length
   have l2:=r2.length
   refine SeqAt.EqAt.of_refs hab ?_
   have q:=SeqAt.RcAt.tuples (A:=A) (s:=s) (e:=fun _=>true) (show s.heap.IsTuple a its.toArray from p1) (show s.heap.IsTuple b its2.toArray from p2) (by omega) fun j h1 h2=>?_
   ·rw [all_true,Bool.true_and,show (its.toArray.size == its2.toArray.size)=true by simp;omega] at q
    exact q
   ·obtain ⟨x,hx,rx⟩:=rel_at r1 j h1
    obtain ⟨y,hy,ry⟩:=rel_at r2 j h2
    exact ih j x y hx hy (A:=A.in1) (by show A.units+1+n < cLine;omega) rx ry
end
section
variable {X:Cx}
theorem pi_tupK (K:PySem.W.Frag) {tg l:Expr} {tl:TE} (hl:PE X l tl) (hK:X.K=K:=by rfl):PI X tg l (iTup K tl):=by subst hK;exact pi_tup hl
theorem call_tupleK (K:PySem.W.Frag) (hK:X.K=K:=by rfl):CallR X (.type "tuple") (fun xs H Q=>∃ p ys,xs=[.ref p]∧((SqL K H p ys∧∀ l,H l=none→Q (.ref l) (upd H l (.tup ys)))∨(SqT K H p ys∧Q (.ref p) H))):=by subst hK;exact call_tuple_of
end
section
variable {K:PySem.W.Frag} {g:TG} {tt:TT} {te:TE} {D:Addr} {σ:St} {H:Hp} {Q:VK}
theorem lc_tup {a:Addr} {xs:List V} (Pv:Nat→St→Hp→Prop) (h0:Pv 0 σ H) (hl:∀ i σ H,i≤xs.length→Pv i σ H→SqT K H a xs)
  (hs:∀ (i:Nat) (x:V) (σ:St) (H:Hp) (N:St→Hp→Prop),(∀ σ H,Pv (i+1) σ H→N σ H)→xs[i]?=some x→Pv i σ H→g x σ H fun σ3 H3=>tt σ3 H3 fun b H4 =>
   if b=true then te σ3 H4 fun v H5=>∃ ys,H5 D=some (.lst ys)∧ys.length < sizeLine∧N σ3 (upd H5 D (.lst (ys ++ [v]))) else N σ3 H4)
  (hd:∀ σ H,Pv xs.length σ H→Q (.ref D) H):lcRun (Itt K a) g tt te D σ H Q:=by
 refine ⟨fun i m σ H=>m=xs.length - i∧i≤xs.length∧Pv i σ H,⟨xs.length,by simp,Nat.zero_le _,h0⟩,?_⟩
 rintro i m σ' H' ⟨rfl,hi,p⟩
 have q:=hl i σ' H' hi p
 by_cases hlt:i < xs.length
 ·refine .inr ⟨⟨xs,xs[i],q,by simp [hlt]⟩,fun x H2 y=>?_⟩
  obtain ⟨e,y⟩:=y
  subst e
  exact hs i x σ' _ (fun σ3 H3=>∃ m',m' < xs.length - i∧m'=xs.length - (i+1)∧i+1≤xs.length∧Pv (i+1) σ3 H3) (fun σ3 H3 z=>⟨xs.length - (i+1),by omega,rfl,hlt,z⟩) (y xs q) p
 ·have e:i=xs.length:=by omega
  subst e
  exact .inl ⟨⟨xs,q,Nat.le_refl _⟩,hd σ' H' p⟩
end
end L2
namespace L2
open PySem PySem.Spec PyProof.Rows
end L2
namespace L2
open PySem PySem.Spec PyProof.Rows
section
variable (P:Program) (w:World)
end
section
variable {P:Program} {w:World} {H H':Hp} {h h':Heap} {a:Addr} {o:HO}
end
section
variable {P:Program} {w:World} {H:Hp} {h h':Heap} {x e:Addr} {o':HO}
end
section
variable {fs fs' ex ex':List Addr} {H H1 H2:Hp} {h h1 h2 h':Heap} {a x e:Addr} {o:HO}
end
end L2
namespace L2
open PySem PySem.Spec PyProof.Rows
section
variable {X:Cx} {pins:List (Addr × Obj)} {σ:List (Option V)} {H H':Hp} {s:Shared} {h':Heap}
end
end L2
namespace L2
open PySem PySem.Spec PyProof.Rows
section
variable {X:Cx}
variable {a b:Expr} {ta tb:TE} {pos:Pos}
variable {tA tB':TT} {rest:List Expr}
end
end L2
namespace L2
open PySem PySem.Spec PyProof.Rows
section
variable {X:Cx} {pins:List (Addr × Obj)} {σ:St} {H:Hp} {s:Shared} {a:Addr} {xs ys:List V}
end
section
variable {X:Cx} {pins:List (Addr × Obj)} {σ:St} {H:Hp} {s:Shared} {E:Value→Shared→Prop}
end
section
variable {X:Cx} {st:Stmt} {rest:List Stmt} {t u:TS} {e:Expr} {te:TE} {pos:Pos}
end
section
variable {X:Cx} {pos:Pos}
end
section
variable {X:Cx} {pos:Pos}
end
end L2
namespace L2
open PySem PySem.Spec PyProof.Rows
section
variable {X:Cx} {tg:Expr}
end
end L2
namespace L2
open PySem PySem.Spec PyProof.Rows
section
variable {X:Cx} {a b c:Expr} {ta tb tc:TE} {pos:Pos}
end
section
variable {X:Cx} {a b c:Expr} {ta tb tc:TE} {pos:Pos}
end
end L2
namespace L2
open PySem PySem.Spec PyProof.Rows
section
variable {prog:Program} {w:World} {A:Around} {E:Value→Shared→Prop} {s:Shared} {K:PySem.W.Frag} {x dx C f:Addr} {mA:Str→Option Value} {name:Str} {v:Value}
end
section
variable {P:Program} {w:World} {H H':Hp} {h h':Heap} {a C dx:Addr} {fs fs':List (Str × V)}
end
section
variable {X:Cx} {pins:List (Addr × Obj)} {σ:St} {H:Hp} {s:Shared} {a C dx:Addr} {fs:List (Str × V)} {f:Str} {v:V} {A:Around} {E:Value→Shared→Prop}
end
section
variable {X:Cx} {o e value:Expr} {f:Str} {pos pos' tpos:Pos} {ta tv:TE}
end
section
variable {X:Cx} {pins:List (Addr × Obj)} {σ:St} {H:Hp} {s:Shared} {A:Around} {E:Value→Shared→Prop} {Q:Value→Shared→Prop} {c:Value} {b:Bool}
end
end L2
namespace L2
open PySem PySem.Spec PyProof.Rows
section
variable {X:Cx} {e:Expr} {es:List Expr} {te:TE} {t:TA} {pos:Pos}
end
section
variable {X:Cx} {pins:List (Addr × Obj)} {σ:St} {H:Hp} {s s':Shared}
end
section
variable {X:Cx} {CX:CXT} {k:Nat} {f C:Addr} {fd:FuncData} {ps:List Str} {sp:Sp} {dvs:List V} {ds:List Value} {E:XK} {x m:Str} {p pos apos:Pos} {e o:Expr} {es:List Expr} {ta:TE} {t:TA}
end
section
variable {X:Cx} {CX:CXT} {k:Nat} {f C:Addr} {fd:FuncData} {ps ks:List Str} {sp:Sp} {E:XK} {x m:Str} {p pos apos kpos:Pos} {e o:Expr} {es:List Expr} {kws:List Keyword} {te ta:TE} {t tk:TA} {nm:Option Str}
variable {g:List Value→List Value→List Value} {gV:List V→List V→List V}
end
end L2
namespace L2
open PySem PySem.Spec PyProof.Rows
section
variable {X:Cx} {x:Str} {p pos:Pos} {e:Expr} {es:List Expr} {t:TA} {id T:String} {r:List V→Hp→VK→Prop}
end
end L2
namespace L2
open PySem PySem.Spec PyProof.Rows
section
variable {κ:Type} [DecidableEq κ]
def valV (kvs:List (κ × V)) (k:κ):Option V:=(kvs.find? fun kv=>decide (kv.1=k)).map (·.2)
def putK (kvs:List (κ × V)) (k:κ) (v:V):List (κ × V) :=
 if (kvs.any fun kv=>decide (kv.1=k))=true then kvs.map (fun kv=>if kv.1=k then (kv.1,v) else kv) else kvs ++ [(k,v)]
def dropK (kvs:List (κ × V)) (k:κ):List (κ × V):=kvs.filter fun kv=>decide (kv.1≠k)
theorem valV_pos {p:κ × V} {r:List (κ × V)} {k:κ} (e:p.1=k):valV (p :: r) k=some p.2:=by simp [valV,List.find?_cons,e]
theorem valV_neg {p:κ × V} {r:List (κ × V)} {k:κ} (e:¬ p.1=k):valV (p :: r) k=valV r k:=by simp [valV,List.find?_cons,e]
theorem valV_any (k:κ):∀ kvs:List (κ × V),(kvs.any fun kv=>decide (kv.1=k))=(valV kvs k).isSome
 | []=>rfl
 | p :: r=>by
  rw [List.any_cons]
  by_cases e:p.1=k
  ·simp only [valV_pos e,decide_eq_true e,Bool.true_or,Option.isSome_some]
  ·rw [valV_neg e,decide_eq_false e,Bool.false_or];exact valV_any k r
theorem RelO.isSome_eq {o:Option V} {u:Option Value} (r:RelO o u):o.isSome=u.isSome:=by
 cases o with
 | none=>cases u with
  | none=>rfl
  | some _=>exact (show False from r).elim
 | some _=>cases u with
  | none=>exact (show False from r).elim
  | some _=>rfl
theorem RelO.getD {o:Option V} {u:Option Value} {d:V} {d':Value} (r:RelO o u) (rd:RelV d d'):RelV (o.getD d) (u.getD d'):=by
 cases o with
 | none=>cases u with
  | none=>exact rd
  | some _=>exact (show False from r).elim
 | some _=>cases u with
  | none=>exact (show False from r).elim
  | some _=>exact r
theorem KV.val {kvs:List (κ × V)} {vs:List (κ × Value)} (r:KV kvs vs) (k:κ):RelO (valV kvs k) (valueAt vs k):=by
 unfold KV at r
 induction r with
 | nil=>exact True.intro
 | @cons p q ps qs h t ih =>
  obtain ⟨h1,h2⟩:=h
  by_cases e:p.1=k
  ·have e':q.1=k:=h1.symm.trans e
   have b:valueAt (q :: qs) k=some q.2:=by simp [valueAt,List.find?_cons,e']
   rw [valV_pos e,b];exact h2
  ·have e':¬ q.1=k:=fun z=>e (h1.trans z)
   have b:valueAt (q :: qs) k=valueAt qs k:=by simp [valueAt,List.find?_cons,e']
   rw [valV_neg e,b];exact ih
theorem KV.any {kvs:List (κ × V)} {vs:List (κ × Value)} (r:KV kvs vs) (k:κ):(kvs.any fun kv=>decide (kv.1=k))=vs.any fun kv=>decide (kv.1=k):=by
 unfold KV at r
 induction r with
 | nil=>rfl
 | cons h t ih=>rw [List.any_cons,List.any_cons,ih,h.1]
theorem KV.repl {kvs:List (κ × V)} {vs:List (κ × Value)} (r:KV kvs vs) (k:κ) {y:V} {u:Value} (ry:RelV y u) :
  KV (kvs.map fun kv=>if kv.1=k then (kv.1,y) else kv) (vs.map fun kv=>if kv.1=k then (kv.1,u) else kv):=by
 unfold KV at r ⊢
 induction r with
 | nil=>exact .nil
 | @cons p q ps qs h t ih =>
  rw [List.map_cons,List.map_cons]
  refine .cons ?_ ih
  obtain ⟨h1,h2⟩:=h
  by_cases e:p.1=k
  ·rw [if_pos e,if_pos (h1.symm.trans e)];exact ⟨h1,ry⟩
  ·rw [if_neg e,if_neg (fun z=>e (h1.trans z))];exact ⟨h1,h2⟩
theorem KV.put {kvs:List (κ × V)} {vs:List (κ × Value)} (r:KV kvs vs) (k:κ) {y:V} {u:Value} (ry:RelV y u):KV (putK kvs k y) (stored vs k u):=by
 unfold putK stored
 rw [r.any k]
 by_cases e:(vs.any fun kv=>decide (kv.1=k))=true
 ·rw [if_pos e,if_pos e];exact r.repl k ry
 ·rw [if_neg e,if_neg e];exact Paired.snoc r ⟨rfl,ry⟩
theorem KV.drop {kvs:List (κ × V)} {vs:List (κ × Value)} (r:KV kvs vs) (k:κ):KV (dropK kvs k) (without vs k):=by
 unfold KV at r ⊢
 unfold dropK without
 induction r with
 | nil=>exact .nil
 | @cons p q ps qs h t ih =>
  obtain ⟨h1,h2⟩:=h
  rw [List.filter_cons,List.filter_cons]
  by_cases e:p.1=k
  ·have a:¬ decide (p.1≠k)=true:=by simp [e]
   have b:¬ decide (q.1≠k)=true:=by simp [h1.symm.trans e]
   rw [if_neg a,if_neg b];exact ih
  ·have e':¬ q.1=k:=fun z=>e (h1.trans z)
   have a:decide (p.1≠k)=true:=by simp [e]
   have b:decide (q.1≠k)=true:=by simp [e']
   rw [if_pos a,if_pos b];exact .cons ⟨h1,h2⟩ ih
theorem KV.keys {kvs:List (κ × V)} {vs:List (κ × Value)} (r:KV kvs vs):kvs.map (·.1)=vs.map (·.1):=by
 unfold KV at r
 induction r with
 | nil=>rfl
 | cons h t ih=>rw [List.map_cons,List.map_cons,ih,h.1]
theorem KV.length {kvs:List (κ × V)} {vs:List (κ × Value)} (r:KV kvs vs):kvs.length=vs.length:=Paired.length r
end
abbrev KT (H:Hp):List (List Key × V)→List (List Key × Addr × Value)→Prop:=Paired fun p q=>p.1=q.1∧H q.2.1=some (.tup (p.1.map kV))∧RelV p.2 q.2.2
theorem KT.val {H:Hp} {kvs:List (List Key × V)} {xs:List (List Key × Addr × Value)} (r:KT H kvs xs) (k:List Key):RelO (valV kvs k) ((atKey xs k).map (·.2)):=by
 induction r with
 | nil=>exact True.intro
 | @cons p q ps qs h t ih =>
  obtain ⟨h1,_,h2⟩:=h
  by_cases e:p.1=k
  ·have e':q.1=k:=h1.symm.trans e
   have b:atKey (q :: qs) k=some q.2:=by simp [atKey,List.find?_cons,e']
   rw [valV_pos e,b];exact h2
  ·have e':¬ q.1=k:=fun z=>e (h1.trans z)
   have b:atKey (q :: qs) k=atKey qs k:=by simp [atKey,List.find?_cons,e']
   rw [valV_neg e,b];exact ih
theorem KT.repl {H:Hp} {kvs:List (List Key × V)} {xs:List (List Key × Addr × Value)} (r:KT H kvs xs) (k:List Key) {y:V} {u:Value} (ry:RelV y u) :
  KT H (kvs.map fun kv=>if kv.1=k then (kv.1,y) else kv) (xs.map (putAt k u)):=by
 induction r with
 | nil=>exact .nil
 | @cons p q ps qs h t ih =>
  rw [List.map_cons,List.map_cons]
  refine .cons ?_ ih
  obtain ⟨h1,h2,h3⟩:=h
  unfold putAt
  by_cases e:p.1=k
  ·rw [if_pos e,if_pos (h1.symm.trans e)];exact ⟨h1,h2,ry⟩
  ·rw [if_neg e,if_neg (fun z=>e (h1.trans z))];exact ⟨h1,h2,h3⟩
theorem KT.put {H:Hp} {kvs:List (List Key × V)} {xs:List (List Key × Addr × Value)} (r:KT H kvs xs) (k:List Key) {b:Addr} {y:V} {u:Value} (hb:H b=some (.tup (k.map kV))) (ry:RelV y u) :
  KT H (putK kvs k y) (storedH xs k b u):=by
 have e:(kvs.any fun kv=>decide (kv.1=k))=(atKey xs k).isSome:=by
  rw [valV_any,(r.val k).isSome_eq,Option.isSome_map]
 unfold putK storedH
 rw [e]
 by_cases q:(atKey xs k).isSome=true
 ·rw [if_pos q,if_pos q];exact r.repl k ry
 ·rw [if_neg q,if_neg q];exact Paired.snoc r ⟨rfl,hb,ry⟩
theorem KT.keeps {H H':Hp} {kvs:List (List Key × V)} {xs:List (List Key × Addr × Value)} (r:KT H kvs xs) (ht:∀ b ys,H b=some (.tup ys)→H' b=some (.tup ys)):KT H' kvs xs :=
 Paired.mapP r fun _ _ z=>⟨z.1,ht _ _ z.2.1,z.2.2⟩
section
variable {P:Program} {w:World} {H:Hp} {h:Heap} {a:Addr}
end
def DGet (H:Hp) (a:Addr) (y:V) (r:Option V):Prop :=
 (∃ kvs k,Rd H a (.dK kvs)∧y=kV k∧r=valV kvs k)∨∃ kvs k b,Rd H a (.dT kvs)∧y=.ref b∧H b=some (.tup (k.map kV))∧r=valV kvs k
def DPut (H:Hp) (a:Addr) (y v:V) (H':Hp):Prop :=
 (∃ kvs k,H a=some (.dK kvs)∧y=kV k∧kvs.length < sizeLine∧H'=upd H a (.dK (putK kvs k v))) ∨
 ∃ kvs k b,H a=some (.dT kvs)∧y=.ref b∧H b=some (.tup (k.map kV))∧kvs.length < sizeLine∧H'=upd H a (.dT (putK kvs k v))
theorem DGet.k {H:Hp} {a:Addr} {kvs:List (Key × V)} {k:Key} (e:H a=some (.dK kvs)):DGet H a (kV k) (valV kvs k):=.inl ⟨kvs,k,.inl e,rfl,rfl⟩
theorem DGet.t {H:Hp} {a b:Addr} {kvs:List (List Key × V)} {k:List Key} (e:H a=some (.dT kvs)) (eb:H b=some (.tup (k.map kV))):DGet H a (.ref b) (valV kvs k):=.inr ⟨kvs,k,b,.inl e,rfl,eb,rfl⟩
theorem DPut.k {H:Hp} {a:Addr} {kvs:List (Key × V)} {k:Key} {v:V} (e:H a=some (.dK kvs)) (hl:kvs.length < sizeLine):DPut H a (kV k) v (upd H a (.dK (putK kvs k v))):=.inl ⟨kvs,k,e,rfl,hl,rfl⟩
theorem DPut.t {H:Hp} {a b:Addr} {kvs:List (List Key × V)} {k:List Key} {v:V} (e:H a=some (.dT kvs)) (eb:H b=some (.tup (k.map kV))) (hl:kvs.length < sizeLine) :
  DPut H a (.ref b) v (upd H a (.dT (putK kvs k v))):=.inr ⟨kvs,k,b,e,rfl,eb,hl,rfl⟩
section
variable {X:Cx} {pins:List (Addr × Obj)} {σ:St} {H:Hp} {s:Shared} {a:Addr} {y v:V} {u r:Value} {o:Option V} {A:Around} {E:Value→Shared→Prop}
end
section
variable {X:Cx} {pins:List (Addr × Obj)} {σ:St} {H:Hp} {s:Shared} {a:Addr} {kvs:List (Key × V)} {k:Key} {u:Value} {A:Around} {E:Value→Shared→Prop}
end
section
variable {X:Cx} {o i e value:Expr} {pos pos' tpos:Pos} {td ty tv:TE}
end
section
variable {X:Cx} {pos:Pos}
end
structure M1 (X:Cx) (o:Expr) (m:Str) (apos:Pos) (e:Expr) (cpos:Pos):Prop where
 base:attributeBase o m X.env (eval o X.env)=eval o X.env
 few:((backTo cpos (starEach [e] X.env)).all (fun x=>!x.1) && (backToKw cpos (keywordEach [] X.env)).all (fun x=>x.1.isSome)
  && decide (([e]:List Expr).length+([]:List Keyword).length+(if ([]:List Keyword).isEmpty then 0 else 1) < 30))=true
 line:(apos.endLine == cpos.line)=true
 trees:backTo cpos (starEach [e] X.env)=[(false,eval e X.env)]
structure M2 (X:Cx) (o:Expr) (m:Str) (apos:Pos) (e f:Expr) (cpos:Pos):Prop where
 base:attributeBase o m X.env (eval o X.env)=eval o X.env
 few:((backTo cpos (starEach [e,f] X.env)).all (fun x=>!x.1) && (backToKw cpos (keywordEach [] X.env)).all (fun x=>x.1.isSome)
  && decide (([e,f]:List Expr).length+([]:List Keyword).length+(if ([]:List Keyword).isEmpty then 0 else 1) < 30))=true
 line:(apos.endLine == cpos.line)=true
 trees:backTo cpos (starEach [e,f] X.env)=[(false,eval e X.env),(false,eval f X.env)]
section
variable {X:Cx} {pins:List (Addr × Obj)} {σ:St} {H:Hp} {s:Shared} {a:Addr} {y d:V} {u r:Value} {o:Option V} {A:Around} {E:Value→Shared→Prop}
end
section
variable {X:Cx} {o e f:Expr} {apos cpos:Pos} {td ty tx:TE}
end
section
variable {X:Cx} {pins:List (Addr × Obj)} {σ:St} {H:Hp} {s:Shared} {a:Addr} {kvs:List (Key × V)} {A:Around} {E:Value→Shared→Prop}
end
section
variable {X:Cx} {pins:List (Addr × Obj)} {σ:St} {H:Hp} {s:Shared} {a:Addr} {y:V} {u:Value} {A:Around} {E:Value→Shared→Prop}
end
end L2
namespace Att
open PySem PySem.W PySem.Calls PyProof.Rows
section
variable {prog:Program} {w:World} {A:Around} {E:Value→Shared→Prop} {s:Shared} {K:Frag}
end
end Att
namespace L2
open PySem PySem.Spec PyProof.Rows
end L2
namespace L2
open PySem PySem.Spec PyProof.Rows
end L2
namespace L2
open PySem PySem.Spec PyProof.Rows
section
variable {P:Program} {w:World} {K:PySem.W.Frag} {mg:Str→Option Value} {base:Heap}
end
section
variable {X:Cx}
end
section
variable {κ:Type} [DecidableEq κ]
end
end L2
namespace L2
open PySem PySem.Spec PyProof.Rows
section
variable {X:Cx}
end
section
variable {g:TG} {tt:TT} {te:TE} {D:Addr} {σ:St} {H:Hp} {Q:VK}
end
end L2
namespace L2
open PySem PySem.Spec PyProof.Rows
section
variable {X:Cx}
end
section
variable {g:TG} {tt:TT} {te:TE} {D:Addr} {σ:St} {H:Hp} {Q:VK}
end
section
variable {X:Cx} {o e value:Expr} {f:Str} {pos pos':Pos} {ta tv:TE}
theorem pe_fldK (K:PySem.W.Frag) (he:PE X e ta) (hb:attributeBase e f X.env (eval e X.env)=eval e X.env) (hK:X.K=K:=by rfl):PE X (.Attribute e f pos) (tFld K ta f):=by subst hK;exact pe_fld he hb
theorem ps_fldK (K:PySem.W.Frag) (ha:PE X o ta) (hv:PE X value tv) (hs:swapsWith value (some (.Attribute o f pos')) pos.line X.env=pure false) (hK:X.K=K:=by rfl):PS X (.Assign [.Attribute o f pos'] value pos) (sFld K ta tv f):=by subst hK;exact ps_fld ha hv hs
end
end L2
namespace L2
open PySem PySem.Spec PyProof.Rows
section
variable {X:Cx}
end
structure PEx (X:Cx) (e:Expr) (t:TE):Prop where
 out:PE X e t
structure PAx (X:Cx) (es:List Expr) (t:TA):Prop where
 out:PA X es t
section
variable {X:Cx} {te:TE} {t:TA} {es es1:List Expr}
end
end L2
namespace L2
open PySem PySem.Spec PyProof.Rows
section
variable {prog:Program} {w:World} {A:Around} {E:Value→Shared→Prop} {s:Shared}
end
abbrev eA (h:Heap) (l:Addr):Heap:=h.push { cls:=.type "tuple_iterator",data:=.fields #[.ref l,.int 0 0] }
abbrev eB (h:Heap) (l:Addr):Heap:=(eA h l).push { cls:=.type "enumerate",data:=.fields #[.none,.bool false,.ref h.objs.size,rawInt 1,.none,.none] }
section
variable {prog:Program} {w:World} {A:Around} {E:Value→Shared→Prop} {s:Shared}
end
section
variable {X:Cx}
end
section
variable {K:PySem.W.Frag} {g:TG} {σ:St} {H:Hp}
end
section
variable {X:Cx}
inductive TyS (K:PySem.W.Frag) (H:Hp):V→Value→Prop where
 | non:TyS K H .non (.type "NoneType")
 | int (i:Int):TyS K H (.int i) (.type "int")
 | bl (b:Bool):TyS K H (.bl b) (.type "bool")
 | tup {a:Addr} {xs:List V}:SqT K H a xs→TyS K H (.ref a) (.type "tuple")
 | lst {a:Addr} {xs:List V}:SqL K H a xs→TyS K H (.ref a) (.type "list")
def rNeT (K:PySem.W.Frag):R2:=fun x y H Q=>∃ a b xs ys,x=.ref a∧y=.ref b∧SqT K H a xs∧SqT K H b ys ∧
 (∀ (j:Nat) (u v:V),xs[j]?=some u→ys[j]?=some v→Like K H 8 u v)∧Q (.bl (!decide (xs.length=ys.length))) H
theorem op_neTK (K:PySem.W.Frag) (hu:X.A.units+16 < cLine) (hK:X.K=K:=by rfl):OpR X (compareOp .NotEq) (rNeT K):=by
 subst hK
 intro pins s σ H x y v u Q I rx ry h
 obtain ⟨a,b,xs,ys,rfl,rfl,ha,hb,he,q⟩:=h
 cases rx
 cases ry
 obtain ⟨its,r1,p1,_⟩:=I.tuple ha
 obtain ⟨its2,r2,p2,_⟩:=I.tuple hb
 have l1:=r1.length
 have l2:=r2.length
 refine PySem.EqBoolInt.of_rcne (SeqAt.RcNeAt.tuples (e:=fun _=>true) (show s.heap.IsTuple a its.toArray from p1) (show s.heap.IsTuple b its2.toArray from p2) (by omega) fun j h1 h2=>?_) ?_
 ·obtain ⟨x,hx,rx⟩:=rel_at r1 j h1
  obtain ⟨y,hy,ry⟩:=rel_at r2 j h2
  exact like_at I (he j x y hx hy) (A:=X.A.in1) (by show X.A.units+1+8 < cLine;omega) rx ry
 ·rw [all_true,Bool.true_and]
  have e:(its.toArray.size == its2.toArray.size)=decide (xs.length=ys.length):=by rw [l1,l2,List.size_toArray,List.size_toArray,Bool.eq_iff_iff];simp
  rw [e]
  exact ⟨.bl _,H,I,rfl,q⟩
end
end L2
namespace L2
open PySem PySem.Spec PyProof.Rows
def ent:Option Int→V
 | none=>.non
 | some n=>.int n
theorem ent_flat (e:Option Int):flatV (ent e)=true:=by cases e <;> rfl
theorem ent_eqV (x y:Option Int):eqV (ent x) (ent y)=decide (x=y):=by
 cases x <;> cases y
 ·rfl
 ·rfl
 ·rfl
 ·rename_i a b
  show (a == b)=_
  by_cases h:a=b <;> simp [h]
theorem ents_all:∀ (x y:List (Option Int)),((List.range (min x.length y.length)).all (fun j=>decide ((x[j]?).getD none=(y[j]?).getD none)) && (x.length == y.length))=decide (x=y)
 | x,y=>by
  by_cases h:x=y
  ·subst h;simp
  ·rw [decide_eq_false h]
   by_cases hl:x.length=y.length
   ·rw [Bool.and_eq_false_iff]
    left
    rw [List.all_eq_false]
    apply Classical.byContradiction
    intro hn
    apply h
    apply List.ext_getElem?
    intro j
    by_cases hj:j < x.length
    ·have hj':j < y.length:=by omega
     have:=Classical.byContradiction fun hz=>hn ⟨j,List.mem_range.mpr (by omega),hz⟩
     have e:=of_decide_eq_true this
     simp only [List.getElem?_eq_getElem hj,List.getElem?_eq_getElem hj',Option.getD_some] at e ⊢
     rw [e]
    ·rw [List.getElem?_eq_none (by omega),List.getElem?_eq_none (by omega)]
   ·simp [hl]
section
variable {X:Cx} {pins:List (Addr × Obj)} {σ:St} {H:Hp} {s:Shared}
end
section
variable {X:Cx}
end
end L2
namespace L2
open PySem PySem.Spec PyProof.Rows
structure Std where
 ah:Int
 rs:Int
 se:List (Option Int)
 to:List (Option Int)
deriving DecidableEq
structure IsStd (K:PySem.W.Frag) (H:Hp) (a:Addr) (s:Std):Prop where
 ex:∃ b c,SqT K H a [.int s.ah,.int s.rs,.ref b,.ref c]∧SqT K H b (s.se.map ent)∧SqT K H c (s.to.map ent)
theorem IsStd.same {K:PySem.W.Frag} {H H':Hp} {a:Addr} {s:Std} (h:IsStd K H a s) (e:Same H H'):IsStd K H' a s:=by
 obtain ⟨b,c,h1,h2,h3⟩:=h.ex
 exact ⟨b,c,e.tup h1,e.tup h2,e.tup h3⟩
def IsRowH (h:Heap) (x:List (Option Int)) (a:Addr):Prop:=∃ its:List Value,Vals (x.map ent) its∧h.IsTuple a its.toArray
def IsStdH (h:Heap) (s:Std) (a:Addr):Prop:=∃ (b c:Addr) (t t':Tok),h.IsTuple a #[.int s.ah t,.int s.rs t',.ref b,.ref c]∧IsRowH h s.se b∧IsRowH h s.to c
def noneHash:Int:=0xFCA86420
def entHash:Option Int→Int
 | some k=>hashInt k
 | none=>noneHash
def rowHash (x:List (Option Int)):Int:=reduceHash (Builtin.Tuple.tupleHashOf (x.map entHash))
def stdHash (s:Std):Int:=reduceHash (Builtin.Tuple.tupleHashOf [hashInt s.ah,hashInt s.rs,rowHash s.se,rowHash s.to])
theorem tup_inj {h:Heap} {a:Addr} {x y:Array Value} (hx:h.IsTuple a x) (hy:h.IsTuple a y):x=y:=by
 obtain ⟨o,ho,_,n,hd⟩:=hx
 obtain ⟨o',ho',_,n',hd'⟩:=hy
 rw [ho] at ho'
 obtain rfl:=Option.some.inj ho'
 rw [hd] at hd'
 injection hd' with h1 _
theorem ents_rel:∀ {x y:List (Option Int)} {vs:List Value},Vals (x.map ent) vs→Vals (y.map ent) vs→x=y
 | [],[],_,_,_=>rfl
 | [],_ :: _,_,.nil,h=>by cases h
 | _ :: _,[],_,h,.nil=>by cases h
 | a :: x,b :: y,_,.cons r t,.cons r' t'=>by
  rw [ents_rel t t']
  congr 1
  cases a with
  | none =>
   cases b with
   | none=>rfl
   | some j=>cases (show _=Value.none from r);obtain ⟨_,e⟩:=(show ∃ t,Value.none=Value.int j t from r');cases e
  | some i =>
   obtain ⟨u,rfl⟩:=(show ∃ t,_=Value.int i t from r)
   cases b with
   | none=>have e:=(show Value.int i u=Value.none from r');cases e
   | some j=>obtain ⟨_,e⟩:=(show ∃ t,Value.int i u=Value.int j t from r');cases e;rfl
theorem IsRowH.inj {h:Heap} {a:Addr} {x y:List (Option Int)} (hx:IsRowH h x a) (hy:IsRowH h y a):x=y:=by
 obtain ⟨its,r,ht⟩:=hx
 obtain ⟨its',r',ht'⟩:=hy
 have e:=tup_inj ht ht'
 have e':its=its':=by simpa using congrArg Array.toList e
 subst e'
 exact ents_rel r r'
theorem IsStdH.inj {h:Heap} {a:Addr} {x y:Std} (hx:IsStdH h x a) (hy:IsStdH h y a):x=y:=by
 obtain ⟨b,c,t,t',ht,h1,h2⟩:=hx
 obtain ⟨b',c',u,u',hu,k1,k2⟩:=hy
 have e:=congrArg Array.toList (tup_inj ht hu)
 simp only [List.cons.injEq,and_true,Value.int.injEq,Value.ref.injEq] at e
 obtain ⟨⟨e1,_⟩,⟨e2,_⟩,rfl,rfl⟩:=e
 have e3:=h1.inj k1
 have e4:=h2.inj k2
 cases x;cases y
 simp only at e1 e2 e3 e4
 rw [e1,e2,e3,e4]
theorem tup_keep {h h':Heap} {a d:Addr} {x:Array Value} {o:Obj} {es ep} (hx:h.IsTuple a x) (ho:h.get? d=some o) (hd:o.data=.dict es ep) (hs:Heap.SameBut d h h'):h'.IsTuple a x:=by
 obtain ⟨o',ho',hc,n,hd'⟩:=hx
 have hne:a≠d:=by
  rintro rfl
  rw [ho] at ho'
  obtain rfl:=Option.some.inj ho'
  rw [hd] at hd'
  exact nomatch hd'
 exact ⟨o',(hs.2 a hne).trans ho',hc,n,hd'⟩
section
variable {prog:Program} {w:World} {A:Around} {E:Value→Shared→Prop} {s:Shared}
theorem pyHash_none {Q:Int→Shared→Prop} (h:Q noneHash { s with toks:=s.toks+1 }):wpAny (model prog w) A (pyHash .none) Q E s:=by
 have hT:=typeIs_none s
 unfold pyHash
 unfold pyHashByItsType
 have hv:[Value.none].any Value.onHeap=false:=rfl
 refine wpAny_bind ?_
 rw [cRoomFor,if_neg (by rw [hv];exact Bool.false_ne_true)];refine wpAny_pure ?_
 refine wpAny_bind (wpAny_specialOf hT F.slot_NoneType_hash.lookup ?_)
 refine (show wpAny _ _ (if (some (Value.builtin "NoneType.__hash__") == some Value.none)=true then _ else _) Q E s from ?_)
 rw [if_neg (by rw [beq_builtin_none];exact Bool.false_ne_true)]
 refine wpAny_bind (wpAny_specialOf hT F.slot_NoneType_hash.lookup ?_)
 refine (show wpAny _ _ (callSpecialIfBoundUnlessNone? Value.none "__hash__" _ >>= _) Q E s from ?_)
 refine wpAny_bind (wpAny_callSpecialIfBoundUnlessNone?_slot hT F.slot_NoneType_hash (wpAny_call_entry F.slot_NoneType_hash hT F.entry_NoneType_hash ?_ (F.args_NoneType_hash_1 _)))
 refine (show wpAny _ _ (do ret (← mkInt 0xFCA86420)) _ _ s from wpAny_ret_mkInt ?_)
 exact wpAny_pure h
theorem pyHash_items {a:Addr} {all:List (Value × Int × Nat)} {Q:Int→Shared→Prop} (hu:A.units < cLine) (ht:s.heap.IsTuple a (all.map (·.1)).toArray)
  (hi:∀ x ∈ all,∀ (tk:Nat) (Q:Int→Shared→Prop),Q x.2.1 { s with toks:=tk+x.2.2 }→wpAny (model prog w) A.in1 (pyHash x.1) Q E { s with toks:=tk })
  (h:Q (reduceHash (Builtin.Tuple.tupleHashOf (all.map (·.2.1)))) { s with toks:=s.toks+((all.map (·.2.2)).sum+1) }):wpAny (model prog w) A (pyHash (.ref a)) Q E s:=by
 have hT:s.TypeIs (.ref a) "tuple":=let ⟨o,ho,hc,_⟩:=ht;⟨o,ho,hc⟩
 obtain ⟨o,ho,_,n,hd⟩:=ht
 unfold pyHash
 unfold pyHashByItsType
 refine wpAny_bind (wpAny_cRoomFor_or (.inr hu) ?_)
 refine wpAny_bind (wpAny_specialOf hT F.slot_tuple_hash.lookup ?_)
 refine (show wpAny _ _ (if (some (Value.builtin "tuple.__hash__") == some Value.none)=true then _ else _) Q E s from ?_)
 rw [if_neg (by rw [beq_builtin_none];exact Bool.false_ne_true)]
 refine wpAny_bind (wpAny_specialOf hT F.slot_tuple_hash.lookup ?_)
 refine (show wpAny _ _ (callSpecialIfBoundUnlessNone? (.ref a) "__hash__" _ >>= _) Q E s from ?_)
 refine wpAny_bind (wpAny_callSpecialIfBoundUnlessNone?_slot hT F.slot_tuple_hash (wpAny_call_entry F.slot_tuple_hash hT F.entry_tuple_hash ?_ (F.args_tuple_hash_1 _)))
 refine (show wpAny _ _ (Builtin.Tuple.tupleItemsOf (.ref a) >>= _) _ _ s from wpAny_bind (wpAny_tupleItemsOf ho hd (wpAny_bind ?_)))
 rw [← Array.forIn_toList]
 refine wpAny_forIn_list _
  (fun rest (b:Array Int) s'=>∃ done left,all=done ++ left∧rest=left.map (·.1)∧b.toList=done.map (·.2.1)∧s'={ s with toks:=s.toks+(done.map (·.2.2)).sum })
  _ ?_ ?_ _ _ ⟨[],all,rfl,by simp,rfl,rfl⟩
 ·rintro x rest b s' ⟨done,left,rfl,hl,hb,rfl⟩
  match left,hl with
  | y :: left',hl =>
   rw [List.map_cons] at hl
   obtain ⟨rfl,rfl⟩:=List.cons.inj hl
   refine wpAny_bind (hi y (by simp) _ _ ?_)
   first
    | exact wpAny_pure ⟨done ++ [y],left',by simp,rfl,by simp [hb],by simp [Nat.add_assoc]⟩
    | exact wpAny_bind (wpAny_pure (wpAny_pure ⟨done ++ [y],left',by simp,rfl,by simp [hb],by simp [Nat.add_assoc]⟩))
 ·rintro b s' ⟨done,left,rfl,hl,hb,rfl⟩
  have:left=[]:=List.map_eq_nil_iff.mp hl.symm
  subst this
  rw [List.append_nil] at h
  refine (show wpAny _ _ (retInt (Builtin.Tuple.tupleHashOf b.toList)) _ _ _ from ?_)
  rw [hb]
  refine wpAny_ret_mkInt ?_
  refine (show wpAny _ _ (if (decide (-(2:Int) ^ 63≤Builtin.Tuple.tupleHashOf (done.map (·.2.1))) && decide (Builtin.Tuple.tupleHashOf (done.map (·.2.1)) < 2 ^ 63))=true then _ else _) Q E _ from ?_)
  unfold reduceHash at h
  by_cases hr:(decide (-(2:Int) ^ 63≤Builtin.Tuple.tupleHashOf (done.map (·.2.1))) && decide (Builtin.Tuple.tupleHashOf (done.map (·.2.1)) < 2 ^ 63))=true
  ·rw [if_pos hr]
   rw [if_pos hr] at h
   exact wpAny_pure (by simpa [Nat.add_assoc] using h)
  ·rw [if_neg hr]
   rw [if_neg hr] at h
   exact wpAny_bind (wpAny_rule (wpAny_pure (by simpa [Nat.add_assoc] using h)))
theorem pyHash_row {x:List (Option Int)} {a:Addr} {Q:Int→Shared→Prop} (hu:A.units < cLine) (hx:IsRowH s.heap x a) (h:Q (rowHash x) { s with toks:=s.toks+(x.length+1) }):wpAny (model prog w) A (pyHash (.ref a)) Q E s:=by
 obtain ⟨its,r,ht⟩:=hx
 have hl:=r.length
 rw [List.length_map] at hl
 have sums:∀ {x:List (Option Int)} {its:List Value},Vals (x.map ent) its→∃ all:List (Value × Int × Nat),all.map (·.1)=its∧all.map (·.2.1)=x.map entHash∧(all.map (·.2.2)).sum=x.length∧∀ y ∈ all,y.2.2=1∧((y.1=.none∧y.2.1=noneHash)∨∃ i t,y.1=.int i t∧y.2.1=hashInt i):=by
  intro x
  induction x with
  | nil=>intro its r;cases r;exact ⟨[],rfl,rfl,rfl,fun y hy=>by cases hy⟩
  | cons e x ih =>
   intro its r
   cases r with
   | cons r t =>
    obtain ⟨all,a1,a2,a3,a4⟩:=ih t
    cases e with
    | none =>
     cases (show _=Value.none from r)
     refine ⟨(.none,noneHash,1) :: all,by simp [a1],by simp [a2,entHash],by simp [a3];omega,fun y hy=>?_⟩
     rcases List.mem_cons.mp hy with rfl | hy
     ·exact ⟨rfl,.inl ⟨rfl,rfl⟩⟩
     ·exact a4 y hy
    | some i =>
     obtain ⟨u,rfl⟩:=(show ∃ t,_=Value.int i t from r)
     refine ⟨(.int i u,hashInt i,1) :: all,by simp [a1],by simp [a2,entHash],by simp [a3];omega,fun y hy=>?_⟩
     rcases List.mem_cons.mp hy with rfl | hy
     ·exact ⟨rfl,.inr ⟨i,u,rfl,rfl⟩⟩
     ·exact a4 y hy
 obtain ⟨all,a1,a2,a3,a4⟩:=sums r
 refine pyHash_items (all:=all) hu (by rw [a1];exact ht) (fun y hy tk Q' hq=>?_) (by rw [a2,a3];exact h)
 obtain ⟨e1,e2⟩:=a4 y hy
 rw [e1] at hq
 rcases e2 with ⟨e3,e4⟩ | ⟨i,t,e3,e4⟩
 ·rw [e3];rw [e4] at hq;exact pyHash_none hq
 ·rw [e3];rw [e4] at hq;exact wpAny_pyHash_int hq
theorem pyHash_std {x:Std} {a:Addr} {Q:Int→Shared→Prop} (hu:A.units+1 < cLine) (hx:IsStdH s.heap x a) (h:Q (stdHash x) { s with toks:=s.toks+(x.se.length+x.to.length+5) }):wpAny (model prog w) A (pyHash (.ref a)) Q E s:=by
 obtain ⟨b,c,t,t',ht,h1,h2⟩:=hx
 refine pyHash_items (all:=[(.int x.ah t,hashInt x.ah,1),(.int x.rs t',hashInt x.rs,1),(.ref b,rowHash x.se,x.se.length+1),(.ref c,rowHash x.to,x.to.length+1)]) (by omega) ht (fun y hy tk Q' hq=>?_) ?_
 ·simp only [List.mem_cons,List.not_mem_nil,or_false] at hy
  rcases hy with rfl | rfl | rfl | rfl
  ·exact wpAny_pyHash_int hq
  ·exact wpAny_pyHash_int hq
  ·exact pyHash_row (by show A.units+1 < cLine;exact hu) h1 hq
  ·exact pyHash_row (by show A.units+1 < cLine;exact hu) h2 hq
 ·have e:(([(.int x.ah t,hashInt x.ah,1),(.int x.rs t',hashInt x.rs,1),(.ref b,rowHash x.se,x.se.length+1),(.ref c,rowHash x.to,x.to.length+1)]:List (Value × Int × Nat)).map (·.2.2)).sum+1=x.se.length+x.to.length+5:=by simp;omega
  rw [e]
  exact h
theorem rowAt {x y:List (Option Int)} {a b:Addr} (hu:A.units < cLine) (hx:IsRowH s.heap x a) (hy:IsRowH s.heap y b):SeqAt.EqAt A s (.ref a) (.ref b) (decide (x=y)):=by
 by_cases hab:a=b
 ·subst hab
  rw [decide_eq_true (hx.inj hy)]
  exact SeqAt.EqAt.same _
 ·obtain ⟨its,r1,p1⟩:=hx
  obtain ⟨its2,r2,p2⟩:=hy
  have l1:=r1.length
  have l2:=r2.length
  rw [List.length_map] at l1 l2
  refine SeqAt.EqAt.of_refs hab ?_
  have q:=SeqAt.RcAt.tuples (A:=A) (s:=s) (e:=fun j=>decide ((x[j]?).getD none=(y[j]?).getD none)) p1 p2 hu fun j h1 h2=>?_
  ·rw [List.size_toArray,List.size_toArray,← l1,← l2,ents_all] at q
   exact q
  ·obtain ⟨u,hx,rx⟩:=rel_at r1 j h1
   obtain ⟨v,hy,ry⟩:=rel_at r2 j h2
   rw [List.getElem?_map] at hx hy
   cases ex:x[j]? with
   | none=>rw [ex] at hx;cases hx
   | some eu =>
    cases ey:y[j]? with
    | none=>rw [ey] at hy;cases hy
    | some ev =>
     rw [ex] at hx
     rw [ey] at hy
     obtain rfl:ent eu=u:=Option.some.inj hx
     obtain rfl:ent ev=v:=Option.some.inj hy
     have:=eqAt_V (A:=A.in1) (s:=s) rx ry (ent_flat eu) (ent_flat ev)
     rw [ent_eqV] at this
     exact this
theorem stdAt {x y:Std} {a b:Addr} (hu:A.units+1 < cLine) (hx:IsStdH s.heap x a) (hy:IsStdH s.heap y b):SeqAt.EqAt A s (.ref a) (.ref b) (decide (x=y)):=by
 by_cases hab:a=b
 ·subst hab
  rw [decide_eq_true (hx.inj hy)]
  exact SeqAt.EqAt.same _
 ·obtain ⟨b1,c1,t1,u1,p1,g1,g2⟩:=hx
  obtain ⟨b2,c2,t2,u2,p2,k1,k2⟩:=hy
  refine SeqAt.EqAt.of_refs hab ?_
  have q:=SeqAt.RcAt.tuples (A:=A) (s:=s) (e:=fun j=>if j=0 then (x.ah == y.ah) else if j=1 then (x.rs == y.rs) else if j=2 then decide (x.se=y.se) else decide (x.to=y.to)) p1 p2 (by omega) fun j h1 h2=>?_
  ·have e:((List.range (min 4 4)).all (fun j=>if j=0 then (x.ah == y.ah) else if j=1 then (x.rs == y.rs) else if j=2 then decide (x.se=y.se) else decide (x.to=y.to)) && ((4:Nat) == 4))=decide (x=y):=by
    have e4:List.range (min 4 4)=[0,1,2,3]:=rfl
    rw [e4]
    cases x;cases y
    rw [Bool.eq_iff_iff]
    simp
   exact e ▸ q
  ·match j,h1,h2 with
   | 0,_,_=>exact SeqAt.EqAt.int_int _ _ _ _
   | 1,_,_=>exact SeqAt.EqAt.int_int _ _ _ _
   | 2,_,_=>exact rowAt (by show A.units+1 < cLine;exact hu) g1 k1
   | 3,_,_=>exact rowAt (by show A.units+1 < cLine;exact hu) g2 k2
   | j+4,h1,_=>exact absurd h1 (by show ¬ (j+4 < 4);omega)
theorem quiet_items (n:Nat) {a:Addr} {items:Array Value} {Q:Bool→Shared→Prop} (ht:s.heap.IsTuple a items) (hi:∀ v ∈ items.toList,∀ Q:Bool→Shared→Prop,Q true s→wpAny (model prog w) A (eqIsQuiet n v) Q E s) (h:Q true s):wpAny (model prog w) A (eqIsQuiet (n+1) (.ref a)) Q E s:=by
 have hT:s.TypeIs (.ref a) "tuple":=let ⟨o,ho,hc,_⟩:=ht;⟨o,ho,hc⟩
 obtain ⟨o,ho,_,m,hd⟩:=ht
 unfold eqIsQuiet
 refine wpAny_bind (wpAny_specialOf hT F.slot_tuple_eq.lookup ?_)
 refine (show wpAny _ _ (isInstance (.ref a) (.type "tuple") >>= _) _ _ s from wpAny_bind (wpAny_isInstance hT isSubtype_tuple_tuple ?_))
 simp only [Bool.not_true,Bool.false_eq_true,if_false]
 refine wpAny_bind (wpAny_seqItems ho hd (wpAny_bind ?_))
 refine (show wpAny _ _ (forIn items _ _) _ _ s from ?_)
 rw [← Array.forIn_toList]
 refine wpAny_forIn_list _ (fun rest r s'=>r.1=none∧s'=s∧∀ v ∈ rest,v ∈ items.toList) _ ?_ ?_ _ _ ⟨rfl,rfl,fun v hv=>hv⟩
 ·rintro v rest r s' ⟨hr,rfl,hall⟩
  refine wpAny_bind (hi v (hall v List.mem_cons_self) _ ?_)
  simp only [Bool.not_true,Bool.false_eq_true,if_false]
  exact wpAny_pure ⟨rfl,rfl,fun u hu'=>hall u (List.mem_cons_of_mem _ hu')⟩
 ·rintro ⟨r1,r2⟩ s' ⟨hr,rfl,_⟩
  simp only at hr
  subst hr
  exact wpAny_pure h
theorem quiet_row (n:Nat) {x:List (Option Int)} {a:Addr} {Q:Bool→Shared→Prop} (hx:IsRowH s.heap x a) (h:Q true s):wpAny (model prog w) A (eqIsQuiet (n+1) (.ref a)) Q E s:=by
 obtain ⟨its,r,ht⟩:=hx
 refine quiet_items n ht (fun v hv Q' hq=>?_) h
 have hb:carriedByValue v=true:=by
  have hv':v ∈ its:=by simpa using hv
  clear hv
  have all:∀ {x:List (Option Int)} {its:List Value},Vals (x.map ent) its→∀ v ∈ its,carriedByValue v=true:=by
   intro x
   induction x with
   | nil=>intro its r v hv;cases r;cases hv
   | cons e x ih =>
    intro its r v hv
    cases r with
    | cons r t =>
     rcases List.mem_cons.mp hv with rfl | hv
     ·cases e with
      | none=>cases (show v=Value.none from r);rfl
      | some i=>obtain ⟨u,rfl⟩:=(show ∃ t,v=Value.int i t from r);rfl
     ·exact ih t v hv
  exact all r v hv'
 rw [eqIsQuiet_byValue _ hb]
 exact wpAny_pure hq
theorem quiet_std {x:Std} {a:Addr} {Q:Bool→Shared→Prop} (hx:IsStdH s.heap x a) (h:Q true s):wpAny (model prog w) A (eqIsQuiet 8 (.ref a)) Q E s:=by
 obtain ⟨b,c,t,t',ht,h1,h2⟩:=hx
 refine quiet_items 7 ht (fun v hv Q' hq=>?_) h
 simp only [List.mem_cons,List.not_mem_nil,or_false] at hv
 rcases hv with rfl | rfl | rfl | rfl
 ·rw [eqIsQuiet_byValue _ rfl];exact wpAny_pure hq
 ·rw [eqIsQuiet_byValue _ rfl];exact wpAny_pure hq
 ·exact quiet_row 6 h1 hq
 ·exact quiet_row 6 h2 hq
end
def stdKind (prog:Program) (w:World):HeapKind prog w Std where
 is:=IsStdH
 hash:=stdHash
 draws:=fun x=>x.se.length+x.to.length+5
 room:=fun A=>A.units+1 < cLine
 inj:=fun hx hy=>hx.inj hy
 keeps:=fun {h h' k a d o es ep} hx ho hd hs=>by
  obtain ⟨b,c,t,t',ht,⟨i1,r1,p1⟩,⟨i2,r2,p2⟩⟩:=hx
  exact ⟨b,c,t,t',tup_keep ht ho hd hs,⟨i1,r1,tup_keep p1 ho hd hs⟩,⟨i2,r2,tup_keep p2 ho hd hs⟩⟩
 pyHash:=fun hu hk h=>pyHash_std hu hk h
 eqBool:=fun hu hx hy h=>stdAt hu hx hy _ _ _ _ h
 quiet:=fun hk h=>quiet_std hk h
end L2
namespace L2
open PySem PySem.Spec PyProof.Rows
abbrev SX:=List (Std × Addr × V)
def stdEntry (q:Std × Addr × Value):DictEntry:=⟨stdHash q.1,.ref q.2.1,q.2.2⟩
abbrev P3:SX→List (Std × Addr × Value)→Prop:=Paired fun p q=>p.1=q.1∧p.2.1=q.2.1∧RelV p.2.2 q.2.2
def DSφ (a:Addr) (xs:SX) (h:Heap):Prop:=xs.length≤sizeLine∧(a == sysModules)=false∧(xs.map (·.1)).Nodup∧∃ vs:List (Std × Addr × Value),P3 xs vs∧∃ o es ep,h.get? a=some o∧o.ExactDict∧o.data=.dict es ep∧es.toList=vs.map stdEntry
def DS (a:Addr) (xs:SX):HO:=.ext (DSφ a xs)
def valS (xs:SX) (k:Std):Option V:=(xs.find? fun x=>decide (x.1=k)).map (·.2.2)
def putS (xs:SX) (k:Std) (b:Addr) (v:V):SX:=if (valS xs k).isSome then xs.map (fun x=>if x.1=k then (x.1,x.2.1,v) else x) else xs ++ [(k,b,v)]
theorem P3.val {xs:SX} {vs:List (Std × Addr × Value)} (r:P3 xs vs) (k:Std):RelO (valS xs k) ((atKey vs k).map (·.2)):=by
 induction r with
 | nil=>exact True.intro
 | @cons p q ps qs h t ih =>
  obtain ⟨h1,_,h2⟩:=h
  by_cases e:p.1=k
  ·have e':q.1=k:=h1.symm.trans e
   have b:atKey (q :: qs) k=some q.2:=by simp [atKey,List.find?_cons,e']
   have b':valS (p :: ps) k=some p.2.2:=by simp [valS,List.find?_cons,e]
   rw [b',b];exact h2
  ·have e':¬ q.1=k:=fun z=>e (h1.trans z)
   have b:atKey (q :: qs) k=atKey qs k:=by simp [atKey,List.find?_cons,e']
   have b':valS (p :: ps) k=valS ps k:=by simp [valS,List.find?_cons,e]
   rw [b',b];exact ih
theorem P3.repl {xs:SX} {vs:List (Std × Addr × Value)} (r:P3 xs vs) (k:Std) {y:V} {u:Value} (ry:RelV y u) :
  P3 (xs.map fun x=>if x.1=k then (x.1,x.2.1,y) else x) (vs.map (putAt k u)):=by
 induction r with
 | nil=>exact .nil
 | @cons p q ps qs h t ih =>
  rw [List.map_cons,List.map_cons]
  refine .cons ?_ ih
  obtain ⟨h1,h2,h3⟩:=h
  unfold putAt
  by_cases e:p.1=k
  ·rw [if_pos e,if_pos (h1.symm.trans e)];exact ⟨h1,h2,ry⟩
  ·rw [if_neg e,if_neg (fun z=>e (h1.trans z))];exact ⟨h1,h2,h3⟩
theorem P3.put {xs:SX} {vs:List (Std × Addr × Value)} (r:P3 xs vs) (k:Std) (b:Addr) {y:V} {u:Value} (ry:RelV y u):P3 (putS xs k b y) (storedH vs k b u):=by
 have e:(valS xs k).isSome=(atKey vs k).isSome:=by rw [(r.val k).isSome_eq,Option.isSome_map]
 unfold putS storedH
 rw [e]
 by_cases q:(atKey vs k).isSome=true
 ·rw [if_pos q,if_pos q];exact r.repl k ry
 ·rw [if_neg q,if_neg q];exact Paired.snoc r ⟨rfl,rfl,ry⟩
theorem P3.keys {xs:SX} {vs:List (Std × Addr × Value)} (r:P3 xs vs):xs.map (·.1)=vs.map (·.1):=by
 induction r with
 | nil=>rfl
 | cons h t ih=>rw [List.map_cons,List.map_cons,ih,h.1]
structure SD (K:PySem.W.Frag) (H:Hp) (a:Addr) (xs:SX):Prop where
 at_:H a=some (DS a xs)
 keys:∀ p ∈ xs,IsStd K H p.2.1 p.1
section
variable {X:Cx} {pins:List (Addr × Obj)} {σ:St} {H:Hp} {s:Shared} {a:Addr} {xs:SX} {A:Around} {E:Value→Shared→Prop}
theorem row_h (I:Inv X pins σ H s) {b:Addr} {x:List (Option Int)} (h:SqT X.K H b (x.map ent)):IsRowH s.heap x b:=by
 obtain ⟨its,r,ht,_⟩:=I.tuple h
 exact ⟨its,r,ht⟩
theorem std_h (I:Inv X pins σ H s) {b:Addr} {k:Std} (h:IsStd X.K H b k):IsStdH s.heap k b:=by
 obtain ⟨p,q,h1,h2,h3⟩:=h.ex
 obtain ⟨its,r,ht,_⟩:=I.tuple h1
 cases r with
 | cons r1 r =>
  cases r with
  | cons r2 r =>
   cases r with
   | cons r3 r =>
    cases r with
    | cons r4 r =>
     cases r
     obtain ⟨t,rfl⟩:=r1
     obtain ⟨t',rfl⟩:=r2
     cases r3
     cases r4
     exact ⟨p,q,t,t',ht,row_h I h2,row_h I h3⟩
theorem IsStd.inj (I:Inv X pins σ H s) {b:Addr} {k k':Std} (h:IsStd X.K H b k) (h':IsStd X.K H b k'):k=k':=(std_h I h).inj (std_h I h')
theorem SD.raw (I:Inv X pins σ H s) (d:H a=some (DS a xs)):DSφ a xs s.heap:=(I.hok a _ d).1
theorem SD.dict (I:Inv X pins σ H s) (d:SD X.K H a xs):xs.length≤sizeLine∧(a == sysModules)=false∧(xs.map (·.1)).Nodup∧∃ vs,P3 xs vs∧s.heap.DictOfH (stdKind X.prog X.w) a vs:=by
 obtain ⟨z,hd,hn,vs,r,o,es,ep,h1,h2,h3,h4⟩:=SD.raw I d.at_
 refine ⟨z,hd,hn,vs,r,o,es,ep,h1,h2,h3,h4,?_,by rw [← r.keys];exact hn⟩
 have all:∀ {l:SX} {m:List (Std × Addr × Value)},P3 l m→(∀ p ∈ l,IsStd X.K H p.2.1 p.1)→∀ x ∈ m,(stdKind X.prog X.w).is s.heap x.1 x.2.1:=by
  intro l m q
  induction q with
  | nil=>intro _ x hx;exact nomatch hx
  | @cons p q ps qs hq t ih =>
   intro hl x hx
   rcases List.mem_cons.mp hx with e | hx
   ·subst e
    rw [← hq.1,← hq.2.1]
    exact std_h I (hl p List.mem_cons_self)
   ·exact ih (fun p hp=>hl p (List.mem_cons_of_mem _ hp)) x hx
 exact all r d.keys
end
section
variable {X:Cx}
variable {o i value:Expr} {pos pos':Pos} {td ty tv:TE}
end
end L2
namespace L2
open PySem PySem.Spec PyProof.Rows
def DRaw (d:Addr) (es:Array DictEntry) (ep:Nat) (h:Heap):Prop:=∃ o,h.get? d=some o∧o.ExactDict∧o.data=.dict es ep
theorem DRaw.typeIs {s:Shared} {d:Addr} {es:Array DictEntry} {ep:Nat} (x:DRaw d es ep s.heap):s.TypeIs (.ref d) "dict":=let ⟨o,ho,hc,_⟩:=x;⟨o,ho,hc.1⟩
theorem DRaw.lt {h:Heap} {d:Addr} {es:Array DictEntry} {ep:Nat} (x:DRaw d es ep h):d < h.objs.size:=let ⟨_,ho,_⟩:=x;Heap.lt_size ho
theorem DRaw.at_ {h h':Heap} {d:Addr} {es:Array DictEntry} {ep:Nat} (x:DRaw d es ep h) (e:∀ o,h.get? d=some o→h'.get? d=some o):DRaw d es ep h':=let ⟨o,ho,r⟩:=x;⟨o,e _ ho,r⟩
section
variable {prog:Program} {w:World} {A:Around} {E:Value→Shared→Prop} {s:Shared} {d:Addr} {es:Array DictEntry} {ep:Nat}
end
section
variable {prog:Program} {w:World} {A:Around} {E:Value→Shared→Prop} {s:Shared} {d:Addr} {es:Array DictEntry} {ep:Nat}
end
section
variable {X:Cx}
end
end L2
namespace L2
open PySem PySem.Spec PyProof.Rows
theorem IsRowH.at_ {h h':Heap} {x:List (Option Int)} {a:Addr} (r:IsRowH h x a) (k:∀ b o,h.get? b=some o→h'.get? b=some o):IsRowH h' x a:=by
 obtain ⟨its,r,o,ho,z⟩:=r
 exact ⟨its,r,o,k _ _ ho,z⟩
theorem IsStdH.at_ {h h':Heap} {x:Std} {a:Addr} (r:IsStdH h x a) (k:∀ b o,h.get? b=some o→h'.get? b=some o):IsStdH h' x a:=by
 obtain ⟨b,c,t,t',⟨o,ho,z⟩,h1,h2⟩:=r
 exact ⟨b,c,t,t',⟨o,k _ _ ho,z⟩,h1.at_ k,h2.at_ k⟩
abbrev RQ:=Addr × Std × Addr × Value
section
variable {prog:Program} {w:World} {A:Around} {h0:Heap} {d it l:Addr} {L:List RQ}
end
section
variable {X:Cx} {pins:List (Addr × Obj)} {σ:St} {H:Hp} {s:Shared}
end
end L2
namespace L2
open PySem PySem.Spec PyProof.Rows
theorem SD.same {K:PySem.W.Frag} {H H':Hp} {a:Addr} {xs:SX} (h:SD K H a xs) (e:Same H H'):SD K H' a xs:=⟨e _ _ h.at_,fun p hp=>(h.keys p hp).same e⟩
theorem tup_upd {K:PySem.W.Frag} {H:Hp} {l a:Addr} {o' o:HO} {xs:List V} (hl:H l=some o') (hn:∀ ys,o'≠.tup ys) (hf:∀ u ys,o'≠.frz u (.tup ys)) (h:SqT K H a xs):SqT K (upd H l o) a xs:=by
 rcases h with (h | ⟨u,h⟩) | h
 ·exact .inl (.inl (by rw [upd_ne (fun z=>by rw [z,hl] at h;exact hn _ (Option.some.inj h))];exact h))
 ·exact .inl (.inr ⟨u,by rw [upd_ne (fun z=>by rw [z,hl] at h;exact hf _ _ (Option.some.inj h))];exact h⟩)
 ·exact .inr h
theorem IsStd.updD {K:PySem.W.Frag} {H:Hp} {l a:Addr} {ys:SX} {o:HO} {s:Std} (h:IsStd K H a s) (hl:H l=some (DS l ys)):IsStd K (upd H l o) a s:=by
 obtain ⟨b,c,h1,h2,h3⟩:=h.ex
 have n1:∀ zs,DS l ys≠.tup zs:=fun _ e=>nomatch e
 have n2:∀ u zs,DS l ys≠.frz u (.tup zs):=fun _ _ e=>nomatch e
 exact ⟨b,c,tup_upd hl n1 n2 h1,tup_upd hl n1 n2 h2,tup_upd hl n1 n2 h3⟩
theorem putS_keys_are {K:PySem.W.Frag} {H:Hp} {xs:SX} {k:Std} {b:Addr} {v:V} (h:∀ p ∈ xs,IsStd K H p.2.1 p.1) (hb:IsStd K H b k):∀ p ∈ putS xs k b v,IsStd K H p.2.1 p.1:=by
 intro p hp
 unfold putS at hp
 split at hp
 ·rw [List.mem_map] at hp
  obtain ⟨q,hq,rfl⟩:=hp
  split
  ·exact h q hq
  ·exact h q hq
 ·rcases List.mem_append.mp hp with hp | hp
  ·exact h p hp
  ·rw [List.mem_singleton.mp hp];exact hb
theorem SD.put {K:PySem.W.Frag} {H:Hp} {a b:Addr} {xs:SX} {k:Std} {v:V} (h:SD K H a xs) (hb:IsStd K H b k):SD K (upd H a (DS a (putS xs k b v))) a (putS xs k b v) :=
 ⟨upd_same,fun p hp=>(putS_keys_are h.keys hb p hp).updD h.at_⟩
section
variable {X:Cx} {pins:List (Addr × Obj)} {σ:St} {H:Hp} {s:Shared}
end
section
variable {X:Cx}
end
end L2
namespace L2
open PySem PySem.Spec PyProof.Rows
end L2
namespace L2
open PySem PySem.Spec PyProof.Rows
def rNeO (K:PySem.W.Frag):R2:=fun x y H Q=>rNe x y H Q∨rNeT K x y H Q
theorem op_neO {X:Cx} (K:PySem.W.Frag) (hu:X.A.units+16 < cLine) (hK:X.K=K:=by rfl):OpR X (compareOp .NotEq) (rNeO K):=by
 intro pins s σ H x y v u Q I rx ry h
 rcases h with h | h
 ·exact op_ne pins s σ H x y v u Q I rx ry h
 ·exact op_neTK K hu hK pins s σ H x y v u Q I rx ry h
end L2
namespace L2
open PySem PySem.Spec PyProof.Rows
section
variable {X:Cx} {pins:List (Addr × Obj)} {σ:St} {H:Hp} {s:Shared}
def ExcNew (a C:Addr) (h:Heap):Prop:=∃ t0:Addr,h.get? a=some { cls:=.ref C,data:=.fields #[.ref t0,.none,.none,.none,.bool false,.none] }
def ExcDict (a C dx:Addr) (h:Heap):Prop:=∃ t0:Addr,h.get? a=some { cls:=.ref C,dict:=some dx,data:=.fields #[.ref t0,.none,.none,.none,.bool false,.none] }
theorem ExcNew.mono {a C:Addr} (h1 h2:Heap) (x:ExcNew a C h1) (k:∀ o,h1.get? a=some o→h2.get? a=some o):ExcNew a C h2:=let ⟨t,e⟩:=x;⟨t,k _ e⟩
theorem ExcDict.mono {a C dx:Addr} (h1 h2:Heap) (x:ExcDict a C dx h1) (k:∀ o,h1.get? a=some o→h2.get? a=some o):ExcDict a C dx h2:=let ⟨t,e⟩:=x;⟨t,k _ e⟩
theorem ExcNew.at_ {a C:Addr} (h:Heap) (x:ExcNew a C h):ExcAt a C h:=let ⟨_,e⟩:=x;⟨_,_,e,rfl,rfl⟩
theorem ExcDict.at_ {a C dx:Addr} (h:Heap) (x:ExcDict a C dx h):ExcAt a C h:=let ⟨_,e⟩:=x;⟨_,_,e,rfl,rfl⟩
def IsExc (H:Hp) (a C:Addr):Prop:=∃ φ:Heap→Prop,H a=some (.ext φ)∧∀ h,φ h→ExcAt a C h
theorem IsExc.same {H H':Hp} {a C:Addr} (x:IsExc H a C) (s:Same H H'):IsExc H' a C:=let ⟨φ,e,f⟩:=x;⟨φ,s _ _ e,f⟩
end
end L2
namespace L2
open PySem PySem.Spec PyProof.Rows
abbrev bmVE:List Value:=[.type "ValueError",.type "Exception",.type "BaseException",.type "object"]
structure XInit (K:PySem.W.Frag) (C B f:Addr):Prop where
 lk:∃ nm q N bs sn sub ab col dd k0 k1 k2 k3 k5,K.lookup C=some (excClassObj nm q C N bs (.ref B :: bmVE) true sn sub ab col dd k0 k1 k2 k3 k5 "ValueError.__new__")
 par:PySem.W.excIn K B bmVE "ValueError.__new__"=true
 init:PySem.W.findIn K (.ref C) "__init__"=some (some (.ref f))
 fn:PySem.W.typeIn K (.ref f)=some (.type "function")
 kp:PySem.W.keepIn K (.ref C)=true
 sa:PySem.W.findIn K (.ref C) "__setattr__"=some (some (.builtin "object.__setattr__"))
theorem XInit.tail {K:PySem.W.Frag} {C B f:Addr} {h:Heap} (Z:XInit K C B f) (KX:K.In h):OwnTail h bmVE (.ref B :: bmVE):=by
 obtain ⟨tl,N,nm,q0,bs,hdct,sn,sub,ab,col,dd,k0,k1,k2,k3,k5,mN,hC,hN,hni,T⟩:=(own_of_K (x:="") (mg:=fun _=>some (.ref B)) KX rfl Z.par).obj
 exact .own hC hN hni .base
section
variable {prog:Program} {w:World} {A:Around} {E:Value→Shared→Prop} {h:Heap} {g:Array GenState} {d:Drawn} {t:Nat} {os:OsState} {K:PySem.W.Frag} {C B f:Addr}
end
section
variable {X:Cx} {CX:CXT} {k:Nat} {f C B:Addr} {fd:FuncData} {ps:List Str} {sp:Sp} {E:XK} {x:Str} {p pos:Pos} {e:Expr} {es:List Expr} {t:TA}
end
end L2
namespace L2
open PySem PySem.Spec PyProof.Rows
structure XUp (K:PySem.W.Frag) (B:Addr):Prop where
 sp:PySem.W.specialIn K (.ref B) "__getattribute__"=some (some (.builtin "type.__getattribute__"))
 rd:PySem.W.readsIn K B (.type "type")=true
 fd:PySem.W.findCls K (.ref B) (.type "type") "__init__"=some (.val (.builtin "ValueError.__init__"))
section
variable {X:Cx} {pins:List (Addr × Obj)} {σ:St} {H:Hp} {s:Shared} {C B f a:Addr}
end
section
variable {prog:Program} {w:World} {A:Around} {E:Value→Shared→Prop} {h:Heap} {g:Array GenState} {d:Drawn} {t:Nat} {os:OsState} {K:PySem.W.Frag} {a C B f dx:Addr} {name:Str} {v:Value} {mA:Str→Option Value}
end
section
variable {X:Cx}
end
end L2
namespace L2
open PySem PySem.Spec PyProof.Rows
section
variable {P:Program} {w:World} {K:PySem.W.Frag} {mg:Str→Option Value} {base:Heap}
theorem Fun.ok1q {x qual:Str} {st:Stmt} {f:Addr} {fd:FuncData} {N ps:List Str} {k:Nat} {sp:Sp} (F:Fun K x qual st f fd) (S:FnScope N ps (defScope st)) (len:∀ vs H Q E,sp vs H Q E→vs.length=ps.length)
  (hbody:∀ (f:Addr) (cdv:Value) (A:Around) (outer:List Env) (s:Shared) (H:Hp) (vs:List V) (Q:VK) (E:XK),Room k (A.deeper (envOfC qual (defScope st) s.heap.objs.size f cdv))→sp vs H Q E →
   ∃ t,PSs (cx1 P w K mg base N qual st f cdv A outer s H E) (defBody st) t∧t { nx:=fun _ H'=>Q .non H',rt:=Q } (start N vs) H):FnOk P w K mg base (CX1 P w) (k+1) f fd ps sp:=by
 obtain ⟨oc,od,kV,doc,pm,an,cdv,ct,osl,rfl,lk,hcd⟩:=F.ex
 exact fn_of lk hcd S len fun A outer s H vs Q E hr hsp=>hbody f cdv A outer s H vs Q E hr hsp
end
end L2
namespace My
def P (a k:Int):Int:=a ^ k.toNat % 97
theorem P_lo (a k:Int):0≤P a k:=Int.emod_nonneg _ (by decide)
theorem P_hi (a k:Int):P a k < 97:=Int.emod_lt_of_pos _ (by decide)
theorem invN:∀ n < 97,0 < n→n ^ 95 % 97 * n % 97=1∧0 < n ^ 95 % 97:=by decide
theorem P_inv {a:Int} (h0:0 < a) (h1:a < 97):P a 95 * a % 97=1:=by
 obtain ⟨n,rfl⟩:∃ n:Nat,a=n:=⟨a.toNat,by omega⟩
 have h:=(invN n (by omega) (by omega)).1
 show ((n:Int) ^ 95 % 97) * n % 97=1
 have:(((n ^ 95 % 97 * n % 97:Nat)):Int)=1:=by rw [h];rfl
 rw [← this];norm_cast
theorem P_inv_pos {a:Int} (h0:0 < a) (h1:a < 97):0 < P a 95:=by
 obtain ⟨n,rfl⟩:∃ n:Nat,a=n:=⟨a.toNat,by omega⟩
 have h:=(invN n (by omega) (by omega)).2
 show 0 < ((n:Int) ^ 95 % 97)
 have:(0:Int) < ((n ^ 95 % 97:Nat):Int):=by omega
 simpa using this
theorem pow_emod (x:Int) (n:Nat):(x % 97) ^ n % 97=x ^ n % 97:=by
 induction n with
 | zero=>simp
 | succ n ih=>rw [Int.pow_succ,Int.pow_succ,Int.mul_emod,ih,Int.emod_emod_of_dvd _ (Int.dvd_refl _),← Int.mul_emod]
theorem sq (q:Int):q ^ 2=q * q:=by rw [Int.pow_succ,Int.pow_succ];simp
theorem halve_odd {p q a:Int} {l k:Int} (hl:0 < l) (ho:l % 2=1) (h:p * q ^ l.toNat % 97=P a k):(p * q % 97) * (q * q % 97) ^ (l / 2).toNat % 97=P a k:=by
 rw [← h]
 have e:l.toNat=2 * (l / 2).toNat+1:=by omega
 rw [e,Int.pow_succ,Int.pow_mul]
 rw [Int.mul_emod,Int.emod_emod_of_dvd _ (Int.dvd_refl _)]
 have e2:(q * q % 97) ^ (l / 2).toNat % 97=(q ^ 2) ^ (l / 2).toNat % 97:=by
  rw [sq]
  exact pow_emod _ _
 rw [e2,← Int.mul_emod]
 congr 1
 rw [Int.mul_assoc,Int.mul_comm q]
theorem halve_even {p q a:Int} {l k:Int} (hl:0 < l) (ho:l % 2≠1) (h:p * q ^ l.toNat % 97=P a k):p * (q * q % 97) ^ (l / 2).toNat % 97=P a k:=by
 rw [← h]
 have e:l.toNat=2 * (l / 2).toNat:=by omega
 rw [e,Int.pow_mul,Int.mul_emod]
 have e2:(q * q % 97) ^ (l / 2).toNat % 97=(q ^ 2) ^ (l / 2).toNat % 97:=by
  rw [sq]
  exact pow_emod _ _
 rw [e2,← Int.mul_emod]
theorem halve_start {a k:Int}:(1:Int) * a ^ k.toNat % 97=P a k:=by rw [Int.one_mul];rfl
theorem halve_end {p q a k l:Int} (hl:l≤0) (p0:0≤p) (p1:p < 97) (h:p * q ^ l.toNat % 97=P a k):p=P a k:=by
 have e:l.toNat=0:=by omega
 rw [← h,e,Int.pow_zero,Int.mul_one];omega
end My
namespace My
def expN (a:Nat):Nat:=((List.range 96).find? fun s=>5 ^ s % 97 == a).getD 0
theorem expN_all:∀ a < 97,0 < a→expN a < 96∧5 ^ expN a % 97=a:=by decide +kernel
theorem expN_up:∀ s < 96,expN (5 ^ s % 97)=s:=by decide +kernel
theorem expN_least (a:Nat) (ha:a < 97) (h0:0 < a) (s:Nat) (hs:s < expN a):5 ^ s % 97≠a:=by
 intro h
 have h1:=expN_up s (by have:=(expN_all a ha h0).1;omega)
 rw [h] at h1;omega
def ex (a:Int):Int:=expN a.toNat
theorem ex_lo (a:Int):0≤ex a:=Int.natCast_nonneg _
theorem ex_hi {a:Int} (h0:0 < a) (h1:a < 97):ex a≤95:=by
 have:=(expN_all a.toNat (by omega) (by omega)).1
 unfold ex;omega
def up (k:Int):Int:=5 ^ k.toNat % 97
theorem up_ex {a:Int} (h0:0 < a) (h1:a < 97):up (ex a)=a:=by
 have h:=(expN_all a.toNat (by omega) (by omega)).2
 unfold up ex
 rw [Int.toNat_natCast]
 have:((5 ^ expN a.toNat % 97:Nat):Int)=(a.toNat:Int):=by rw [h]
 rw [show a=(a.toNat:Int) by omega,Int.toNat_natCast,← this];norm_cast
theorem up_ne {a s:Int} (h0:0 < a) (h1:a < 97) (hs:0≤s) (hl:s < ex a):up s≠a:=by
 intro h
 have:=expN_least a.toNat (by omega) (by omega) s.toNat (by unfold ex at hl;omega)
 apply this
 unfold up at h
 have h2:((5 ^ s.toNat % 97:Nat):Int)=a:=by rw [← h];norm_cast
 omega
theorem mul_ne {a b:Int} (h0:0 < a) (h1:a < 97) (g0:0 < b) (g1:b < 97):0 < a * b % 97:=by
 have h:∀ a < 97,0 < a→∀ b < 97,0 < b→0 < (a * b % 97:Nat):=by decide +kernel
 have q:=h a.toNat (by omega) (by omega) b.toNat (by omega) (by omega)
 have:a * b=((a.toNat * b.toNat:Nat):Int):=by
  rw [Int.natCast_mul,Int.toNat_of_nonneg (by omega),Int.toNat_of_nonneg (by omega)]
 rw [this];omega
theorem up_turn {s r:Int} (hs:0≤s) (h:r=up s):r * 5 % 97=up (s+1):=by
 subst h
 unfold up
 have e:(s+1).toNat=s.toNat+1:=by omega
 rw [e,Int.pow_succ,Int.mul_emod,Int.emod_emod_of_dvd _ (Int.dvd_refl _),← Int.mul_emod]
theorem up_zero:up 0=1:=by decide
end My
namespace My
def sumTo:Nat→(Nat→Int)→Int
 | 0,_=>0
 | n+1,f=>sumTo n f+f n
theorem sumTo_congr {f g:Nat→Int}:∀ (n:Nat),(∀ j,j < n→f j=g j)→sumTo n f=sumTo n g
 | 0,_=>rfl
 | n+1,h=>by rw [sumTo,sumTo,sumTo_congr n fun j hj=>h j (by omega),h n (by omega)]
theorem sumTo_lin (c d:Int) (f g:Nat→Int):∀ (n:Nat),sumTo n (fun j=>c * f j+d * g j)=c * sumTo n f+d * sumTo n g
 | 0=>by simp [sumTo]
 | n+1=>by rw [sumTo,sumTo,sumTo,sumTo_lin c d f g n];grind
theorem sumTo_mul (c:Int) (f:Nat→Int) (n:Nat):sumTo n (fun j=>c * f j)=c * sumTo n f:=by
 have h:=sumTo_lin c 0 f f n
 have e:sumTo n (fun j=>c * f j)=sumTo n (fun j=>c * f j+0 * f j):=sumTo_congr n fun j _=>by grind
 rw [e,h];grind
theorem sumTo_left (f:Nat→Int):∀ (n:Nat),sumTo (n+1) f=f 0+sumTo n (fun j=>f (j+1))
 | 0=>by simp [sumTo]
 | n+1=>by rw [sumTo,sumTo_left f n,sumTo];omega
theorem sumTo_zero {f:Nat→Int}:∀ (n:Nat),(∀ j,j < n→f j=0)→sumTo n f=0
 | 0,_=>rfl
 | n+1,h=>by rw [sumTo,sumTo_zero n fun j hj=>h j (by omega),h n (by omega)];rfl
theorem sumTo_one {f:Nat→Int} (p:Nat):∀ (n:Nat),p < n→(∀ j,j < n→j≠p→f j=0)→sumTo n f=f p
 | 0,h,_=>by omega
 | n+1,h,hz=>by
  rw [sumTo]
  by_cases e:p=n
  ·subst e;rw [sumTo_zero p fun j hj=>hz j (by omega) (by omega)];omega
  ·rw [sumTo_one p n (by omega) fun j hj hn=>hz j (by omega) hn,hz n (by omega) (by omega)];omega
theorem sumTo_two {f:Nat→Int} (p q:Nat):∀ (n:Nat),p < q→q < n→(∀ j,j < n→j≠p→j≠q→f j=0)→sumTo n f=f p+f q
 | 0,_,h,_=>by omega
 | n+1,hpq,h,hz=>by
  rw [sumTo]
  by_cases e:q=n
  ·subst e;rw [sumTo_one p q hpq fun j hj hn=>hz j (by omega) hn (by omega)]
  ·rw [sumTo_two p q n hpq (by omega) fun j hj hn hm=>hz j (by omega) hn hm,hz n (by omega) (by omega) (by omega)];omega
theorem sumTo_dvd {f:Nat→Int}:∀ (n:Nat),(∀ j,j < n→(97:Int) ∣ f j)→(97:Int) ∣ sumTo n f
 | 0,_=>⟨0,by simp [sumTo]⟩
 | n+1,h=>by rw [sumTo];exact Int.dvd_add (sumTo_dvd n fun j hj=>h j (by omega)) (h n (by omega))
def ip (n:Nat) (r z:Nat→Int):Int:=sumTo n fun j=>r j * z j
theorem ip_lin (n:Nat) (c d:Int) (r s z:Nat→Int):ip n (fun j=>c * r j+d * s j) z=c * ip n r z+d * ip n s z:=by
 unfold ip
 rw [← sumTo_lin]
 exact sumTo_congr n fun j _=>by grind
theorem ip_congr {n:Nat} {r s z:Nat→Int} (h:∀ j,j < n→(97:Int) ∣ r j - s j):(97:Int) ∣ ip n r z - ip n s z:=by
 have e:ip n r z - ip n s z=sumTo n fun j=>(r j - s j) * z j:=by
  have:=sumTo_lin 1 (-1) (fun j=>r j * z j) (fun j=>s j * z j) n
  unfold ip
  rw [show sumTo n (fun j=>(r j - s j) * z j)=sumTo n (fun j=>1 * (r j * z j)+-1 * (s j * z j)) from sumTo_congr n fun j _=>by grind,this];omega
 rw [e]
 exact sumTo_dvd n fun j hj=>Int.dvd_trans (h j hj) (Int.dvd_mul_right _ _)
abbrev Mat:=Nat→Nat→Int
def Ker (m n:Nat) (a:Mat) (z:Nat→Int):Prop:=∀ i,i < m→(97:Int) ∣ ip n (a i) z
def Reg (n:Nat) (a:Mat):Prop:=∀ z,Ker n n a z→∀ j,j < n→(97:Int) ∣ z j
theorem Ker.congr {m n:Nat} {a b:Mat} {z:Nat→Int} (h:∀ i j,i < m→j < n→(97:Int) ∣ a i j - b i j) (k:Ker m n a z):Ker m n b z:=fun i hi=>by
 have h1:=k i hi
 have h2:=ip_congr (n:=n) (z:=z) fun j hj=>h i j hi hj
 have:=Int.dvd_sub h1 h2
 rwa [show ip n (a i) z - (ip n (a i) z - ip n (b i) z)=ip n (b i) z by omega] at this
theorem Ker.congr' {m n:Nat} {a b:Mat} {z:Nat→Int} (h:∀ i j,i < m→j < n→(97:Int) ∣ a i j - b i j):Ker m n a z↔Ker m n b z :=
 ⟨fun k=>k.congr h,fun k=>k.congr fun i j hi hj=>by have:=Int.dvd_neg.mpr (h i j hi hj);rwa [show -(a i j - b i j)=b i j - a i j by omega] at this⟩
theorem Reg.congr {n:Nat} {a b:Mat} (h:∀ i j,i < n→j < n→(97:Int) ∣ a i j - b i j):Reg n a↔Reg n b:=by
 unfold Reg
 constructor
 ·intro r z k;exact r z ((Ker.congr' h).mpr k)
 ·intro r z k;exact r z ((Ker.congr' h).mp k)
theorem invN':∀ n < 97,0 < n→n ^ 95 % 97 * n % 97=1:=by decide
theorem inv_ex {a:Int} (h:¬ (97:Int) ∣ a):∃ b:Int,(97:Int) ∣ a * b - 1:=by
 have h1:0 < a % 97:=by
  have:a % 97≠0:=fun e=>h (Int.dvd_of_emod_eq_zero e)
  omega
 have q:=invN' (a % 97).toNat (by omega) (by omega)
 refine ⟨(((a % 97).toNat ^ 95 % 97:Nat):Int),?_⟩
 generalize (a % 97).toNat ^ 95 % 97=b at q
 have e1:((b * (a % 97).toNat % 97:Nat):Int)=1:=by rw [q];rfl
 have e2:((b:Int) * (a % 97)) % 97=1:=by
  rw [← e1];rw [Int.natCast_emod,Int.natCast_mul,Int.toNat_of_nonneg (by omega)];rfl
 have e3:a * (b:Int) % 97=1:=by rw [Int.mul_comm,Int.mul_emod,← e2,Int.mul_emod (b:Int) (a % 97),Int.emod_emod_of_dvd _ (Int.dvd_refl _)]
 omega
theorem prime {a b:Int} (h:(97:Int) ∣ a * b) (ha:¬ (97:Int) ∣ a):(97:Int) ∣ b:=by
 obtain ⟨c,hc⟩:=inv_ex ha
 have h1:(97:Int) ∣ c * (a * b):=Int.dvd_trans h (Int.dvd_mul_left _ _)
 have h2:(97:Int) ∣ (a * c - 1) * b:=Int.dvd_trans hc (Int.dvd_mul_right _ _)
 have:=Int.dvd_sub h1 h2
 rwa [show c * (a * b) - (a * c - 1) * b=b by grind] at this
def skip (p i:Nat):Nat:=if i < p then i else i+1
theorem Reg.step {n p:Nat} {a:Mat} (hp:p≤n) (h0:¬ (97:Int) ∣ a p 0) :
  Reg (n+1) a↔Reg n (fun i j=>a (skip p i) (j+1) * a p 0 - a p (j+1) * a (skip p i) 0):=by
 have sk:∀ i,i < n→skip p i < n+1:=fun i hi=>by unfold skip;split <;> omega
 have red:∀ (i:Nat) (z:Nat→Int),ip n (fun j=>a (skip p i) (j+1) * a p 0 - a p (j+1) * a (skip p i) 0) (fun j=>z (j+1)) =
   a p 0 * ip (n+1) (a (skip p i)) z - a (skip p i) 0 * ip (n+1) (a p) z:=fun i z=>by
  have e1:ip (n+1) (a (skip p i)) z=a (skip p i) 0 * z 0+ip n (fun j=>a (skip p i) (j+1)) (fun j=>z (j+1)):=by unfold ip;rw [sumTo_left]
  have e2:ip (n+1) (a p) z=a p 0 * z 0+ip n (fun j=>a p (j+1)) (fun j=>z (j+1)):=by unfold ip;rw [sumTo_left]
  have e3:=ip_lin n (a p 0) (- a (skip p i) 0) (fun j=>a (skip p i) (j+1)) (fun j=>a p (j+1)) (fun j=>z (j+1))
  rw [e1,e2,show (fun j=>a (skip p i) (j+1) * a p 0 - a p (j+1) * a (skip p i) 0)=(fun j=>a p 0 * a (skip p i) (j+1)+-a (skip p i) 0 * a p (j+1)) from funext fun j=>by grind,e3]
  grind
 constructor
 ·intro r y k j hj
  obtain ⟨b,hb⟩:=inv_ex h0
  let z:Nat→Int:=fun j=>match j with
   | 0=>-(b * ip n (fun j=>a p (j+1)) y)
   | j+1=>y j
  have zt:(fun j=>z (j+1))=y:=rfl
  have kp:(97:Int) ∣ ip (n+1) (a p) z:=by
   have e2:ip (n+1) (a p) z=a p 0 * z 0+ip n (fun j=>a p (j+1)) (fun j=>z (j+1)):=by unfold ip;rw [sumTo_left]
   rw [e2,zt,show z 0=-(b * ip n (fun j=>a p (j+1)) y) from rfl]
   have:(97:Int) ∣ (a p 0 * b - 1) * -(ip n (fun j=>a p (j+1)) y):=Int.dvd_trans hb (Int.dvd_mul_right _ _)
   rwa [show (a p 0 * b - 1) * -(ip n (fun j=>a p (j+1)) y)=a p 0 * -(b * ip n (fun j=>a p (j+1)) y)+ip n (fun j=>a p (j+1)) y by grind] at this
  have ks:∀ i,i < n→(97:Int) ∣ ip (n+1) (a (skip p i)) z:=fun i hi=>by
   have h1:=k i hi
   have e:=red i z
   rw [zt] at e
   rw [e] at h1
   have h2:(97:Int) ∣ a (skip p i) 0 * ip (n+1) (a p) z:=Int.dvd_trans kp (Int.dvd_mul_left _ _)
   have h3:=Int.dvd_add h1 h2
   rw [show a p 0 * ip (n+1) (a (skip p i)) z - a (skip p i) 0 * ip (n+1) (a p) z+a (skip p i) 0 * ip (n+1) (a p) z=a p 0 * ip (n+1) (a (skip p i)) z by omega] at h3
   exact prime h3 h0
  have kz:Ker (n+1) (n+1) a z:=fun i hi=>by
   by_cases e:i=p
   ·subst e;exact kp
   ·by_cases l:i < p
    ·have:=ks i (by omega)
     rwa [show skip p i=i by unfold skip;rw [if_pos l]] at this
    ·have:=ks (i - 1) (by omega)
     rwa [show skip p (i - 1)=i by unfold skip;rw [if_neg (by omega)];omega] at this
  exact r z kz (j+1) (by omega)
 ·intro r z k
  have ky:Ker n n (fun i j=>a (skip p i) (j+1) * a p 0 - a p (j+1) * a (skip p i) 0) (fun j=>z (j+1)):=fun i hi=>by
   show (97:Int) ∣ ip n _ _
   rw [red i z]
   exact Int.dvd_sub (Int.dvd_trans (k _ (sk i hi)) (Int.dvd_mul_left _ _)) (Int.dvd_trans (k p (by omega)) (Int.dvd_mul_left _ _))
  have ht:=r _ ky
  have hz:(97:Int) ∣ z 0:=by
   have kp:=k p (by omega)
   have e2:ip (n+1) (a p) z=a p 0 * z 0+ip n (fun j=>a p (j+1)) (fun j=>z (j+1)):=by unfold ip;rw [sumTo_left]
   have h3:(97:Int) ∣ ip n (fun j=>a p (j+1)) (fun j=>z (j+1)):=sumTo_dvd n fun j hj=>Int.dvd_trans (ht j hj) (Int.dvd_mul_left _ _)
   have h4:=Int.dvd_sub kp h3
   rw [e2,show a p 0 * z 0+ip n (fun j=>a p (j+1)) (fun j=>z (j+1)) - ip n (fun j=>a p (j+1)) (fun j=>z (j+1))=a p 0 * z 0 by omega] at h4
   exact prime h4 h0
  intro j hj
  cases j with
  | zero=>exact hz
  | succ j=>exact ht j (by omega)
theorem Reg.none {n:Nat} {a:Mat} (h:∀ i,i < n+1→(97:Int) ∣ a i 0):¬ Reg (n+1) a:=fun r=>by
 have k:Ker (n+1) (n+1) a (fun j=>if j=0 then 1 else 0):=fun i hi=>by
  have:ip (n+1) (a i) (fun j=>if j=0 then 1 else 0)=a i 0:=by
   unfold ip
   rw [sumTo_one 0 (n+1) (by omega) fun j _ hj=>by simp [hj]]
   simp
  rw [this];exact h i hi
 have:=r _ k 0 (by omega)
 simp at this
theorem Reg.zero (a:Mat):Reg 0 a:=fun _ _ j hj=>by omega
structure Clear (n c:Nat) (t:Mat):Prop where
 one:∀ i,i < c→t i i=1
 nought:∀ i j,i < n→j < c→i≠j→t i j=0
theorem Clear.start (n:Nat) (t:Mat):Clear n 0 t:=⟨fun _ h=>by omega,fun _ _ _ h=>by omega⟩
def swap (t:Mat) (p q:Nat):Mat:=fun i=>if i=p then t q else if i=q then t p else t i
theorem Ker.swap {m n p q:Nat} {t:Mat} {z:Nat→Int} (hp:p < m) (hq:q < m):Ker m n (swap t p q) z↔Ker m n t z:=by
 constructor
 ·intro k i hi
  by_cases e1:i=p
  ·subst e1
   have:=k q hq
   unfold My.swap at this
   by_cases e:q=i
   ·subst e;simpa using this
   ·rw [if_neg e,if_pos rfl] at this;exact this
  ·by_cases e2:i=q
   ·subst e2
    have:=k p hp
    unfold My.swap at this
    rwa [if_pos rfl] at this
   ·have:=k i hi
    unfold My.swap at this
    rwa [if_neg e1,if_neg e2] at this
 ·intro k i hi
  unfold My.swap
  split
  ·exact k q hq
  ·split
   ·exact k p hp
   ·exact k i hi
def clear (t:Mat) (c:Nat) (f:Int):Mat:=fun i j=>if i=c then t c j * f % 97 else (t i j - t i c * (t c j * f % 97)) % 97
theorem emod_dvd (a:Int):(97:Int) ∣ a % 97 - a:=by omega
theorem Ker.clear {m n c:Nat} {t:Mat} {f:Int} {z:Nat→Int} (hc:c < m) (hf:(97:Int) ∣ f * t c c - 1):Ker m n (clear t c f) z↔Ker m n t z:=by
 have hf0:¬ (97:Int) ∣ f:=fun h=>by
  have:=Int.dvd_sub (Int.dvd_trans h (Int.dvd_mul_right f (t c c))) hf
  rw [show f * t c c - (f * t c c - 1)=1 by omega] at this
  omega
 have step1:Ker m n (My.clear t c f) z↔Ker m n (fun i j=>if i=c then f * t c j+0 * t c j else 1 * t i j+(- (t i c * f)) * t c j) z:=by
  refine Ker.congr' fun i j _ _=>?_
  unfold My.clear
  by_cases e:i=c
  ·rw [if_pos e,if_pos e]
   have:=emod_dvd (t c j * f)
   rwa [show t c j * f % 97 - (f * t c j+0 * t c j)=t c j * f % 97 - t c j * f by grind]
  ·rw [if_neg e,if_neg e]
   have h1:=emod_dvd (t i j - t i c * (t c j * f % 97))
   have h2:(97:Int) ∣ t i c * (t c j * f % 97 - t c j * f):=Int.dvd_trans (emod_dvd (t c j * f)) (Int.dvd_mul_left _ _)
   have:=Int.dvd_sub h1 h2
   rwa [show (t i j - t i c * (t c j * f % 97)) % 97 - (t i j - t i c * (t c j * f % 97)) - t i c * (t c j * f % 97 - t c j * f)=(t i j - t i c * (t c j * f % 97)) % 97 - (1 * t i j+-(t i c * f) * t c j) by grind] at this
 rw [step1]
 have e1:ip n (fun j=>f * t c j+0 * t c j) z=f * ip n (t c) z:=by rw [ip_lin];omega
 have e2:∀ i,ip n (fun j=>1 * t i j+(- (t i c * f)) * t c j) z=ip n (t i) z - t i c * f * ip n (t c) z:=fun i=>by rw [ip_lin];grind
 constructor
 ·intro k
  have kc:(97:Int) ∣ ip n (t c) z:=by
   have:=k c hc
   simp only [if_true] at this
   rw [e1] at this
   exact prime this hf0
  intro i hi
  by_cases e:i=c
  ·subst e;exact kc
  ·have:=k i hi
   simp only [if_neg e] at this
   rw [e2] at this
   have h2:(97:Int) ∣ t i c * f * ip n (t c) z:=Int.dvd_trans kc (Int.dvd_mul_left _ _)
   have:=Int.dvd_add this h2
   rwa [show ip n (t i) z - t i c * f * ip n (t c) z+t i c * f * ip n (t c) z=ip n (t i) z by omega] at this
 ·intro k i hi
  by_cases e:i=c
  ·simp only [if_pos e]
   rw [e1];exact Int.dvd_trans (k c hc) (Int.dvd_mul_left _ _)
  ·simp only [if_neg e]
   rw [e2];exact Int.dvd_sub (k i hi) (Int.dvd_trans (k c hc) (Int.dvd_mul_left _ _))
theorem Clear.swap {n c q:Nat} {t:Mat} (h:Clear n c t) (hq:c≤q) (hn:q < n):Clear n c (swap t c q):=by
 refine ⟨fun i hi=>?_,fun i j hi hj ne=>?_⟩
 ·unfold My.swap
  rw [if_neg (by omega),if_neg (by omega)];exact h.one i hi
 ·unfold My.swap
  split
  ·exact h.nought q j hn hj (by omega)
  ·split
   ·exact h.nought c j (by omega) hj (by omega)
   ·exact h.nought i j hi hj ne
theorem Clear.clear {n c:Nat} {t:Mat} {f:Int} (h:Clear n c t) (hc:c < n) (hf:(97:Int) ∣ f * t c c - 1):Clear n (c+1) (clear t c f):=by
 have hcc:t c c * f % 97=1:=by rw [Int.mul_comm];omega
 have hz:∀ j,j < c→t c j * f % 97=0:=fun j hj=>by rw [h.nought c j hc hj (by omega)];simp
 refine ⟨fun i hi=>?_,fun i j hi hj ne=>?_⟩
 ·unfold My.clear
  by_cases e:i=c
  ·subst e;rw [if_pos rfl,hcc]
  ·rw [if_neg e,hz i (by omega),h.one i (by omega)];omega
 ·unfold My.clear
  by_cases e:i=c
  ·rw [if_pos e,hz j (by omega)]
  ·rw [if_neg e]
   by_cases e2:j=c
   ·subst e2;rw [hcc];simp
   ·rw [hz j (by omega),h.nought i j hi (by omega) ne];simp
theorem Clear.full {n:Nat} {t:Mat} (h:Clear n n t) (z:Nat→Int) (i:Nat) (hi:i < n):ip (n+1) (t i) z=z i+t i n * z n:=by
 unfold ip
 rw [sumTo_two i n (n+1) hi (by omega) fun j hj n1 n2=>by rw [h.nought i j hi (by omega) (Ne.symm n1)];omega,h.one i hi];omega
theorem Clear.stuck {n c:Nat} {t:Mat} (h:Clear n c t) (hc:c < n) (hz:∀ i,c≤i→i < n→t i c=0) :
  ∃ z:Nat→Int,Ker n (n+1) t z∧z c=1∧z n=0:=by
 refine ⟨fun j=>if j < c then - t j c else if j=c then 1 else 0,fun i hi=>?_,by simp,by simp;omega⟩
 have:ip (n+1) (t i) (fun j=>if j < c then - t j c else if j=c then 1 else 0)=0:=by
  unfold ip
  by_cases l:i < c
  ·rw [sumTo_two i c (n+1) l (by omega) fun j hj n1 n2=>?_]
   ·simp [l,h.one i l];omega
   ·by_cases l2:j < c
    ·rw [h.nought i j hi l2 (Ne.symm n1)];simp
    ·simp [l2,n2]
  ·refine sumTo_zero _ fun j hj=>?_
   by_cases l2:j < c
   ·rw [h.nought i j hi l2 (by omega)];simp
   ·by_cases e:j=c
    ·subst e;rw [hz i (by omega) hi];simp
    ·simp [l2,e]
 rw [this];exact ⟨0,by simp⟩
theorem vander:∀ (n:Nat) (al:Nat→Int) (x:Nat→Int),(∀ i,i < n→¬ (97:Int) ∣ al i)→(∀ i j,i < n→j < n→i≠j→¬ (97:Int) ∣ al i - al j) →
  (∀ j,j < n→(97:Int) ∣ sumTo n fun i=>al i ^ (j+1) * x i)→∀ i,i < n→(97:Int) ∣ x i
 | 0,_,_,_,_,_,i,hi=>by omega
 | n+1,al,x,h0,hd,hk,i,hi=>by
  have hy:∀ i,i < n→(97:Int) ∣ (al i - al n) * x i:=by
   refine vander n al (fun i=>(al i - al n) * x i) (fun i hi=>h0 i (by omega)) (fun i j hi hj=>hd i j (by omega) (by omega)) fun j hj=>?_
   have h1:=hk (j+1) (by omega)
   have h2:(97:Int) ∣ al n * sumTo (n+1) fun i=>al i ^ (j+1) * x i:=Int.dvd_trans (hk j (by omega)) (Int.dvd_mul_left _ _)
   have h3:=Int.dvd_sub h1 h2
   have e:(sumTo (n+1) fun i=>al i ^ (j+1+1) * x i) - al n * (sumTo (n+1) fun i=>al i ^ (j+1) * x i)=sumTo n fun i=>al i ^ (j+1) * ((al i - al n) * x i):=by
    rw [sumTo,sumTo]
    have:=sumTo_lin 1 (- al n) (fun i=>al i ^ (j+1+1) * x i) (fun i=>al i ^ (j+1) * x i) n
    rw [show (sumTo n fun i=>al i ^ (j+1) * ((al i - al n) * x i))=sumTo n (fun i=>1 * (al i ^ (j+1+1) * x i)+- al n * (al i ^ (j+1) * x i)) from sumTo_congr n fun i _=>by rw [Int.pow_succ (al i) (j+1)];grind,this,Int.pow_succ (al n) (j+1)]
    grind
   rwa [e] at h3
  have hx:∀ i,i < n→(97:Int) ∣ x i:=fun i hi=>prime (hy i hi) (hd i n (by omega) (by omega) (by omega))
  by_cases e:i=n
  ·subst e
   have h1:=hk 0 (by omega)
   rw [sumTo] at h1
   have h2:(97:Int) ∣ sumTo i fun k=>al k ^ (0+1) * x k:=sumTo_dvd i fun k hk=>Int.dvd_trans (hx k hk) (Int.dvd_mul_left _ _)
   have h3:=Int.dvd_sub h1 h2
   rw [show (sumTo i fun k=>al k ^ (0+1) * x k)+al i ^ (0+1) * x i - (sumTo i fun k=>al k ^ (0+1) * x k)=al i * x i by rw [Int.pow_succ];grind] at h3
   exact prime h3 (h0 i (by omega))
  ·exact hx i (by omega)
end My
namespace My
def T (x:Int) (n:Nat) (f:Nat→Int):Int:=sumTo n (fun i=>f i * x ^ i) % 97
theorem T_lo (x:Int) (n:Nat) (f:Nat→Int):0≤T x n f:=Int.emod_nonneg _ (by decide)
theorem T_hi (x:Int) (n:Nat) (f:Nat→Int):T x n f < 97:=Int.emod_lt_of_pos _ (by decide)
theorem T_congr {x:Int} {n:Nat} {f g:Nat→Int} (h:∀ i,i < n→f i=g i):T x n f=T x n g:=by
 unfold T
 rw [sumTo_congr n fun j hj=>by rw [h j hj]]
theorem T_zero {x:Int} {n:Nat} {f:Nat→Int}:T x n f=0↔(97:Int) ∣ sumTo n (fun i=>f i * x ^ i):=by
 unfold T
 omega
def St (j:Nat):Int:=([5,25,28,43,21,8]:List Int).getD j 0
theorem St_P:∀ j:Nat,j < 6→P 5 (1+(j:Int))=St j:=by decide
def hv (f:Nat→Int) (n:Nat) (x:Int):Nat→Int
 | 0=>0
 | i+1=>(hv f n x i * x+f (n - 1 - i)) % 97
theorem hv_lo (f:Nat→Int) (n:Nat) (x:Int) (i:Nat):0≤hv f n x i:=by
 cases i with
 | zero=>exact Int.le_refl _
 | succ i=>exact Int.emod_nonneg _ (by decide)
theorem hv_hi (f:Nat→Int) (n:Nat) (x:Int) (i:Nat):hv f n x i < 97:=by
 cases i with
 | zero=>exact (by decide:(0:Int) < 97)
 | succ i=>exact Int.emod_lt_of_pos _ (by decide)
theorem hv_sum (f:Nat→Int) (n:Nat) (x:Int):∀ i,i≤n→(97:Int) ∣ hv f n x i - sumTo i (fun k=>f (n - i+k) * x ^ k)
 | 0,_=>by simp [hv,sumTo]
 | i+1,h=>by
  obtain ⟨a,ha⟩:=hv_sum f n x i (by omega)
  have e:sumTo (i+1) (fun k=>f (n - (i+1)+k) * x ^ k)=f (n - 1 - i)+x * sumTo i (fun k=>f (n - i+k) * x ^ k):=by
   rw [sumTo_left,← sumTo_mul]
   have e1:f (n - (i+1)+0) * x ^ 0=f (n - 1 - i):=by
    rw [show n - (i+1)+0=n - 1 - i by omega];simp
   rw [e1]
   congr 1
   refine sumTo_congr i fun j hj=>?_
   rw [show n - (i+1)+(j+1)=n - i+j by omega,Int.pow_succ]
   grind
  rw [e,hv]
  generalize sumTo i (fun k=>f (n - i+k) * x ^ k)=S at ha
  have hq:hv f n x i=S+97 * a:=by omega
  rw [hq,Int.emod_def]
  exact ⟨a * x - ((S+97 * a) * x+f (n - 1 - i)) / 97,by grind⟩
theorem hv_T (f:Nat→Int) (n:Nat) (x:Int):hv f n x n=T x n f:=by
 have h:=hv_sum f n x n (Nat.le_refl n)
 rw [sumTo_congr n (g:=fun k=>f k * x ^ k) fun j hj=>by rw [show n - n+j=j by omega]] at h
 have h0:=hv_lo f n x n
 have h1:=hv_hi f n x n
 unfold T
 omega
def Dv (k:Nat):Int:=([21,80,53,2,55,63]:List Int).getD k 0
def rs (f:Nat→Int):Nat→Nat→Int
 | 0,_=>0
 | m+1,k=>((if k < 5 then rs f m (k+1) else 0) - (rs f m 0+f m) * Dv k) % 97
theorem rs_lo (f:Nat→Int) (m k:Nat):0≤rs f m k:=by
 cases m with
 | zero=>exact Int.le_refl _
 | succ m=>exact Int.emod_nonneg _ (by decide)
theorem rs_hi (f:Nat→Int) (m k:Nat):rs f m k < 97:=by
 cases m with
 | zero=>exact (by decide:(0:Int) < 97)
 | succ m=>exact Int.emod_lt_of_pos _ (by decide)
def six (y:Int) (r:Nat→Int):Int:=r 0+r 1 * y+r 2 * (y * y)+r 3 * (y * y * y)+r 4 * (y * y * y * y)+r 5 * (y * y * y * y * y)
theorem div_root:∀ j < 6,(97:Int) ∣ 1+St j * six (St j) Dv:=by decide
theorem rs_step {y pm S fm a b:Int} {r:Nat→Int} (ha:pm * six y r - S=97 * a) (hb:1+y * six y Dv=97 * b) :
  (97:Int) ∣ pm * y * six y (fun k=>((if k < 5 then r (k+1) else 0) - (r 0+fm) * Dv k) % 97) - (S+fm * pm):=by
 simp only [six] at *
 simp only [show (0:Nat) < 5 by decide,show (1:Nat) < 5 by decide,show (2:Nat) < 5 by decide,show (3:Nat) < 5 by decide,show (4:Nat) < 5 by decide,show ¬ (5:Nat) < 5 by decide,if_true,if_false,Int.emod_def]
 generalize (r (0+1) - (r 0+fm) * Dv 0) / 97=q0
 generalize (r (1+1) - (r 0+fm) * Dv 1) / 97=q1
 generalize (r (2+1) - (r 0+fm) * Dv 2) / 97=q2
 generalize (r (3+1) - (r 0+fm) * Dv 3) / 97=q3
 generalize (r (4+1) - (r 0+fm) * Dv 4) / 97=q4
 generalize ((0:Int) - (r 0+fm) * Dv 5) / 97=q5
 generalize r 0=r0 at *
 generalize r (0+1)=r1 at *
 generalize r (1+1)=r2 at *
 generalize r (2+1)=r3 at *
 generalize r (3+1)=r4 at *
 generalize r (4+1)=r5 at *
 generalize Dv 0=d0 at *
 generalize Dv 1=d1 at *
 generalize Dv 2=d2 at *
 generalize Dv 3=d3 at *
 generalize Dv 4=d4 at *
 generalize Dv 5=d5 at *
 have e:pm * y * (r1 - (r0+fm) * d0 - 97 * q0+(r2 - (r0+fm) * d1 - 97 * q1) * y+(r3 - (r0+fm) * d2 - 97 * q2) * (y * y)+(r4 - (r0+fm) * d3 - 97 * q3) * (y * y * y)+(r5 - (r0+fm) * d4 - 97 * q4) * (y * y * y * y)+(0 - (r0+fm) * d5 - 97 * q5) * (y * y * y * y * y)) - (S+fm * pm)
   = (pm * (r0+r1 * y+r2 * (y * y)+r3 * (y * y * y)+r4 * (y * y * y * y)+r5 * (y * y * y * y * y)) - S) - pm * (r0+fm) * (1+y * (d0+d1 * y+d2 * (y * y)+d3 * (y * y * y)+d4 * (y * y * y * y)+d5 * (y * y * y * y * y))) - 97 * (pm * (q0 * y+q1 * (y * y)+q2 * (y * y * y)+q3 * (y * y * y * y)+q4 * (y * y * y * y * y)+q5 * (y * y * y * y * y * y))):=by grind
 rw [e,ha,hb]
 exact ⟨a - pm * (r0+fm) * b - pm * (q0 * y+q1 * (y * y)+q2 * (y * y * y)+q3 * (y * y * y * y)+q4 * (y * y * y * y * y)+q5 * (y * y * y * y * y * y)),by grind⟩
theorem rs_sum {y:Int} (hy:(97:Int) ∣ 1+y * six y Dv) (f:Nat→Int):∀ m,(97:Int) ∣ y ^ m * six y (rs f m) - sumTo m (fun i=>f i * y ^ i)
 | 0=>by simp [six,rs,sumTo]
 | m+1=>by
  obtain ⟨a,ha⟩:=rs_sum hy f m
  obtain ⟨b,hb⟩:=hy
  rw [sumTo,Int.pow_succ]
  exact rs_step ha hb
def sealI (f:Nat→Int) (i:Nat):Int:=if i < 18 then f i else -(rs f 18 (i - 18)) % 97
theorem sealI_b {f:Nat→Int} (h:∀ i,i < 18→0≤f i∧f i < 97) (i:Nat):0≤sealI f i∧sealI f i < 97:=by
 unfold sealI
 split
 ·rename_i h1;exact h i h1
 ·exact ⟨Int.emod_nonneg _ (by decide),Int.emod_lt_of_pos _ (by decide)⟩
theorem sumTo_add (f:Nat→Int) (n:Nat):∀ m,sumTo (n+m) f=sumTo n f+sumTo m (fun i=>f (n+i))
 | 0=>by simp [sumTo]
 | m+1=>by rw [← Nat.add_assoc,sumTo,sumTo_add f n m,sumTo];omega
theorem six_sum (y:Int) (r:Nat→Int):sumTo 6 (fun k=>r k * y ^ k)=six y r:=by
 simp only [sumTo,six,Int.pow_succ,Int.pow_zero]
 grind
theorem sealI_T {y:Int} (hy:(97:Int) ∣ 1+y * six y Dv) (f:Nat→Int):T y 24 (sealI f)=0:=by
 rw [T_zero,show (24:Nat)=18+6 from rfl,sumTo_add]
 have e1:sumTo 18 (fun i=>sealI f i * y ^ i)=sumTo 18 (fun i=>f i * y ^ i):=sumTo_congr 18 fun j hj=>by rw [sealI,if_pos hj]
 have e2:sumTo 6 (fun i=>sealI f (18+i) * y ^ (18+i))=y ^ 18 * six y (fun k=>-(rs f 18 k) % 97):=by
  rw [← six_sum,← sumTo_mul]
  refine sumTo_congr 6 fun j hj=>?_
  rw [sealI,if_neg (by omega),Int.pow_add,show 18+j - 18=j by omega]
  grind
 rw [e1,e2]
 obtain ⟨a,ha⟩:=rs_sum hy f 18
 generalize sumTo 18 (fun i=>f i * y ^ i)=S at *
 generalize y ^ 18=pm at *
 generalize rs f 18=r at *
 simp only [six,Int.emod_def] at *
 generalize (-(r 0)) / 97=q0
 generalize (-(r 1)) / 97=q1
 generalize (-(r 2)) / 97=q2
 generalize (-(r 3)) / 97=q3
 generalize (-(r 4)) / 97=q4
 generalize (-(r 5)) / 97=q5
 refine ⟨-a - pm * (q0+q1 * y+q2 * (y * y)+q3 * (y * y * y)+q4 * (y * y * y * y)+q5 * (y * y * y * y * y)),?_⟩
 grind
def Sealed (f:Nat→Int):Prop:=∀ j,j < 6→T (St j) 24 f=0
theorem sealI_sealed (f:Nat→Int):Sealed (sealI f):=fun j hj=>sealI_T (div_root j hj) f
theorem pow_unit {y:Int} (h:¬ (97:Int) ∣ y):∀ n:Nat,¬ (97:Int) ∣ y ^ n
 | 0=>by rw [Int.pow_zero];decide
 | n+1=>fun z=>by
  rw [Int.pow_succ] at z
  exact h (prime z (pow_unit h n))
end My
namespace My
def difL (n:Nat) (f g:Nat→Int):List Nat:=(List.range n).filter fun i=>!decide (f i=g i)
theorem difL_succ (n:Nat) (f g:Nat→Int):difL (n+1) f g=if f n=g n then difL n f g else difL n f g ++ [n]:=by
 unfold difL
 rw [List.range_succ,List.filter_append]
 by_cases h:f n=g n <;> simp [h]
theorem difL_mem {n:Nat} {f g:Nat→Int} {i:Nat}:i ∈ difL n f g↔i < n∧f i≠g i:=by
 unfold difL
 simp
theorem difL_nodup (n:Nat) (f g:Nat→Int):(difL n f g).Nodup:=List.Pairwise.filter _ List.nodup_range
def lsum (l:List Nat) (h:Nat→Int):Int:=sumTo l.length fun k=>h (l.getD k 0)
theorem lsum_snoc (l:List Nat) (n:Nat) (h:Nat→Int):lsum (l ++ [n]) h=lsum l h+h n:=by
 unfold lsum
 rw [List.length_append,List.length_singleton,sumTo]
 congr 1
 ·refine sumTo_congr _ fun j hj=>?_
  simp [List.getD,List.getElem?_append_left hj]
 ·simp [List.getD]
theorem difL_sum (n:Nat) (f g:Nat→Int) (h:Nat→Int) (hz:∀ i,i < n→f i=g i→h i=0):sumTo n h=lsum (difL n f g) h:=by
 induction n with
 | zero=>rfl
 | succ n ih =>
  rw [sumTo,ih fun i hi=>hz i (by omega),difL_succ]
  by_cases e:f n=g n
  ·rw [if_pos e,hz n (by omega) e];omega
  ·rw [if_neg e,lsum_snoc]
theorem St_pow:∀ j:Nat,j < 6→St j=5 ^ (j+1) % 97:=by decide
theorem five_unit:¬ (97:Int) ∣ 5:=by decide
theorem five_apart:∀ p:Nat,p < 24→∀ q:Nat,q < 24→p≠q→¬ (97:Int) ∣ 5 ^ p - 5 ^ q:=by decide +kernel
theorem pow_dvd {a b:Int} (h:(97:Int) ∣ a - b):∀ n:Nat,(97:Int) ∣ a ^ n - b ^ n
 | 0=>by simp
 | n+1=>by
  obtain ⟨c,hc⟩:=h
  obtain ⟨d,hd⟩:=pow_dvd ⟨c,hc⟩ n
  rw [Int.pow_succ,Int.pow_succ]
  exact ⟨d * a+b ^ n * c,by
   have e:a ^ n * a - b ^ n * b=(a ^ n - b ^ n) * a+b ^ n * (a - b):=by grind
   rw [e,hd,hc];grind⟩
theorem St_flip {j p:Nat} (hj:j < 6):(97:Int) ∣ St j ^ p - (5 ^ p) ^ (j+1):=by
 have h:(97:Int) ∣ St j - 5 ^ (j+1):=by rw [St_pow j hj];exact emod_dvd _
 have:=pow_dvd h p
 rwa [← Int.pow_mul,Nat.mul_comm,Int.pow_mul] at this
theorem few_zero {l:List Nat} {z:Nat→Int} (hn:l.Nodup) (hb:∀ p ∈ l,p < 24) (hl:l.length≤6) (hs:∀ j,j < l.length→(97:Int) ∣ lsum l fun p=>z p * St j ^ p):∀ p ∈ l,(97:Int) ∣ z p:=by
 intro p hp
 obtain ⟨k,hk,rfl⟩:=List.getElem_of_mem hp
 have e:∀ k,(h:k < l.length)→l.getD k 0=l[k]:=fun k h=>by simp [List.getD,h]
 rw [← e k hk]
 refine vander l.length (fun k=>5 ^ l.getD k 0) (fun k=>z (l.getD k 0)) (fun i _=>pow_unit five_unit _) (fun i j hi hj hij=>?_) (fun j hj=>?_) k hk
 ·refine five_apart _ (hb _ (by rw [e i hi];exact List.getElem_mem _)) _ (hb _ (by rw [e j hj];exact List.getElem_mem _)) fun q=>hij ?_
  rw [e i hi,e j hj] at q
  exact (List.getElem_inj hn).mp q
 ·have h1:=hs j hj
  unfold lsum at h1
  have h2:(97:Int) ∣ (sumTo l.length fun k=>(5 ^ l.getD k 0) ^ (j+1) * z (l.getD k 0)) - sumTo l.length fun k=>z (l.getD k 0) * St j ^ l.getD k 0:=by
   have h3:=sumTo_lin 1 (-1) (fun k=>(5 ^ l.getD k 0) ^ (j+1) * z (l.getD k 0)) (fun k=>z (l.getD k 0) * St j ^ l.getD k 0) l.length
   have h4:(97:Int) ∣ sumTo l.length fun k=>1 * ((5 ^ l.getD k 0) ^ (j+1) * z (l.getD k 0))+-1 * (z (l.getD k 0) * St j ^ l.getD k 0):=sumTo_dvd _ fun k _=>by
    obtain ⟨c,hc⟩:=St_flip (p:=l.getD k 0) (show j < 6 by omega)
    refine ⟨-(c * z (l.getD k 0)),?_⟩
    generalize St j ^ l.getD k 0=A at *
    generalize ((5:Int) ^ l.getD k 0) ^ (j+1)=B at *
    have:B=A - 97 * c:=by omega
    rw [this];grind
   rw [h3] at h4
   have e5:∀ a b:Int,1 * a+-1 * b=a - b:=fun a b=>by omega
   rw [e5] at h4
   exact h4
  have h5:=Int.dvd_add h2 h1
  rwa [Int.sub_add_cancel] at h5
theorem sums_dif {n:Nat} {f g:Nat→Int} (y:Int):sumTo n (fun i=>f i * y ^ i) - sumTo n (fun i=>g i * y ^ i)=lsum (difL n f g) fun i=>(f i - g i) * y ^ i:=by
 rw [← difL_sum n f g _ fun i _ e=>by rw [e];grind]
 have h1:=sumTo_lin 1 (-1) (fun i=>f i * y ^ i) (fun i=>g i * y ^ i) n
 have h2:sumTo n (fun j=>1 * (f j * y ^ j)+-1 * (g j * y ^ j))=sumTo n fun i=>(f i - g i) * y ^ i:=sumTo_congr n fun j _=>by grind
 rw [← h2,h1];omega
theorem seven {f g:Nat→Int} (bf:∀ i,i < 24→0≤f i∧f i < 97) (bg:∀ i,i < 24→0≤g i∧g i < 97) (hf:Sealed f) (hg:Sealed g) (h:(difL 24 f g).length≤6):∀ i,i < 24→f i=g i:=by
 intro i hi
 apply Classical.byContradiction
 intro hne
 have hm:i ∈ difL 24 f g:=difL_mem.mpr ⟨hi,hne⟩
 have:=few_zero (z:=fun i=>f i - g i) (difL_nodup _ _ _) (fun p hp=>(difL_mem.mp hp).1) h (fun j hj=>by
  have h1:=T_zero.mp (hf j (by omega))
  have h2:=T_zero.mp (hg j (by omega))
  rw [← sums_dif]
  exact Int.dvd_sub h1 h2) i hm
 have b1:=bf i hi
 have b2:=bg i hi
 omega
theorem Sealed.congr {f g:Nat→Int} (h:∀ i,i < 24→f i=g i) (hf:Sealed f):Sealed g:=fun j hj=>by rw [← T_congr h];exact hf j hj
theorem Sealed.of_mod {f:Nat→Int} (h:∀ j,j < 6→(97:Int) ∣ sumTo 24 fun i=>f i * St j ^ i):Sealed fun i=>f i % 97:=fun j hj=>by
 rw [T_zero]
 have h1:=sumTo_lin 1 (-1) (fun i=>f i * St j ^ i) (fun i=>f i % 97 * St j ^ i) 24
 have h2:(97:Int) ∣ sumTo 24 fun i=>1 * (f i * St j ^ i)+-1 * (f i % 97 * St j ^ i):=sumTo_dvd _ fun i _=>by
  rw [Int.emod_def]
  exact ⟨f i / 97 * St j ^ i,by grind⟩
 rw [h1] at h2
 have h3:=h j hj
 omega
theorem Sealed.times {f:Nat→Int} (hf:Sealed f) (c:Int):Sealed fun i=>f i * c % 97:=Sealed.of_mod fun j hj=>by
 have h:=T_zero.mp (hf j hj)
 have e:sumTo 24 (fun i=>f i * c * St j ^ i)=c * sumTo 24 (fun i=>f i * St j ^ i):=by rw [← sumTo_mul];exact sumTo_congr _ fun i _=>by grind
 rw [e]
 exact Int.dvd_trans h (Int.dvd_mul_left _ _)
end My
namespace My
theorem nodup_sub:∀ (l L:List Nat),l.Nodup→(∀ x ∈ l,x ∈ L)→l.length≤L.length
 | [],_,_,_=>Nat.zero_le _
 | a :: l,L,hn,hs=>by
  have ha:=hs a List.mem_cons_self
  have hn':=List.nodup_cons.mp hn
  have:=nodup_sub l (L.erase a) hn'.2 fun x hx=>(List.mem_erase_of_ne (fun e=>hn'.1 (by rw [← e];exact hx))).mpr (hs x (List.mem_cons_of_mem _ hx))
  rw [List.length_erase_of_mem ha] at this
  have hp:0 < L.length:=List.length_pos_of_mem ha
  rw [List.length_cons]
  omega
theorem difL_sorted (n:Nat) (f g:Nat→Int):(difL n f g).Pairwise (· < ·):=List.Pairwise.filter _ List.pairwise_lt_range
theorem five_apart' {p q:Nat} (hp:p < 24) (hq:q < 24) (h:p≠q):¬ (97:Int) ∣ 5 ^ p - 5 ^ q:=five_apart p hp q hq h
def M (s:Nat→Int):Mat:=fun i j=>if j=0 then s (i+1) else -(s i) % 97
theorem ipM (s z:Nat→Int) (i:Nat):(97:Int) ∣ ip 2 (M s i) z - (s (i+1) * z 0 - s i * z 1):=by
 have e:ip 2 (M s i) z=s (i+1) * z 0+-(s i) % 97 * z 1:=by simp [ip,sumTo,M]
 rw [e,Int.emod_def]
 exact ⟨-((-(s i)) / 97 * z 1),by grind⟩
theorem reg_of_det {s:Nat→Int} (h:¬ (97:Int) ∣ s 0 * s 2 - s 1 * s 1):Reg 2 (M s):=fun z hz j hj=>by
 have k0:=Int.dvd_sub (hz 0 (by decide)) (ipM s z 0)
 have k1:=Int.dvd_sub (hz 1 (by decide)) (ipM s z 1)
 rw [Int.sub_sub_self] at k0 k1
 obtain ⟨a,ha⟩:=k0
 obtain ⟨b,hb⟩:=k1
 match j,hj with
 | 0,_ =>
  refine prime (a:=s 0 * s 2 - s 1 * s 1) ⟨s 0 * b - s 1 * a,?_⟩ h
  have e:(s 0 * s 2 - s 1 * s 1) * z 0=s 0 * (s (1+1) * z 0 - s 1 * z 1) - s 1 * (s (0+1) * z 0 - s 0 * z 1):=by grind
  rw [e,ha,hb];grind
 | 1,_ =>
  refine prime (a:=s 0 * s 2 - s 1 * s 1) ⟨s 1 * b - s 2 * a,?_⟩ h
  have e:(s 0 * s 2 - s 1 * s 1) * z 1=s 1 * (s (1+1) * z 0 - s 1 * z 1) - s 2 * (s (0+1) * z 0 - s 0 * z 1):=by grind
  rw [e,ha,hb];grind
theorem geo_not {s:Nat→Int} {X:Int} (h0:(97:Int) ∣ s 1 - s 0 * X) (h1:(97:Int) ∣ s 2 - s 1 * X):¬ Reg 2 (M s):=fun r=>by
 have:=r (fun j=>if j=0 then 1 else X) (fun i hi=>by
  have k:=ipM s (fun j=>if j=0 then 1 else X) i
  have h:(97:Int) ∣ s (i+1) * (if (0:Nat)=0 then 1 else X) - s i * (if (1:Nat)=0 then 1 else X):=by
   match i,hi with
   | 0,_=>simpa using h0
   | 1,_=>simpa using h1
  have:=Int.dvd_add k h
  rwa [Int.sub_add_cancel] at this) 0 (by decide)
 have h1:(97:Int) ∣ 1:=this
 exact absurd h1 (by decide)
theorem det_two {s:Nat→Int} {e d X Y:Int} (h:∀ j,j < 4→(97:Int) ∣ s j - (e * X ^ (j+1)+d * Y ^ (j+1))):(97:Int) ∣ (s 0 * s 2 - s 1 * s 1) - e * d * (X * Y) * ((X - Y) * (X - Y)):=by
 obtain ⟨a,ha⟩:=h 0 (by decide)
 obtain ⟨b,hb⟩:=h 1 (by decide)
 obtain ⟨c,hc⟩:=h 2 (by decide)
 simp only [Int.pow_succ,Int.pow_zero,Int.one_mul,Nat.zero_add] at ha hb hc
 have e0:s 0=e * X+d * Y+97 * a:=by omega
 have e1:s 1=e * (X * X)+d * (Y * Y)+97 * b:=by omega
 have e2:s 2=e * (X * X * X)+d * (Y * Y * Y)+97 * c:=by omega
 rw [e0,e1,e2]
 exact ⟨(e * X+d * Y) * c+a * (e * (X * X * X)+d * (Y * Y * Y))+97 * a * c - 2 * (e * (X * X)+d * (Y * Y)) * b - 97 * b * b,by grind⟩
theorem pair_two {s x:Nat→Int} {e d X Y:Int} (r:Reg 2 (M s)) (h:∀ j,j < 4→(97:Int) ∣ s j - (e * X ^ (j+1)+d * Y ^ (j+1))) (hx:∀ i,i < 2→(97:Int) ∣ ip 2 (M s i) x - s (i+2)) :
  (97:Int) ∣ x 0 - (X+Y)∧(97:Int) ∣ x 1 - X * Y:=by
 have k:Ker 2 2 (M s) fun j=>if j=0 then x 0 - (X+Y) else x 1 - X * Y:=fun i hi=>by
  have k1:=ipM s (fun j=>if j=0 then x 0 - (X+Y) else x 1 - X * Y) i
  have k2:=Int.dvd_sub (hx i hi) (ipM s x i)
  have k3:(97:Int) ∣ s (i+2) - (s (i+1) * (X+Y) - s i * (X * Y)):=by
   obtain ⟨a,ha⟩:=h i (by omega)
   obtain ⟨b,hb⟩:=h (i+1) (by omega)
   obtain ⟨c,hc⟩:=h (i+2) (by omega)
   rw [Int.pow_succ X (i+2),Int.pow_succ X (i+1),Int.pow_succ Y (i+2),Int.pow_succ Y (i+1)] at hc
   rw [Int.pow_succ X (i+1),Int.pow_succ Y (i+1)] at hb
   generalize X ^ (i+1)=A at *
   generalize Y ^ (i+1)=B at *
   have e0:s i=e * A+d * B+97 * a:=by omega
   have e1:s (i+1)=e * (A * X)+d * (B * Y)+97 * b:=by omega
   have e2:s (i+2)=e * (A * X * X)+d * (B * Y * Y)+97 * c:=by omega
   rw [e0,e1,e2]
   exact ⟨c - b * (X+Y)+a * (X * Y),by grind⟩
  have e1:(if (0:Nat)=0 then x 0 - (X+Y) else x 1 - X * Y)=x 0 - (X+Y):=rfl
  have e2:(if (1:Nat)=0 then x 0 - (X+Y) else x 1 - X * Y)=x 1 - X * Y:=rfl
  rw [e1,e2] at k1
  generalize ip 2 (M s i) (fun j=>if j=0 then x 0 - (X+Y) else x 1 - X * Y)=I at *
  generalize ip 2 (M s i) x=J at *
  obtain ⟨a,ha⟩:=k1
  obtain ⟨b,hb⟩:=k2
  obtain ⟨c,hc⟩:=k3
  refine ⟨a+b+c,?_⟩
  have:I=97 * a+(s (i+1) * (x 0 - (X+Y)) - s i * (x 1 - X * Y)):=by omega
  have e3:s (i+1) * (x 0 - (X+Y)) - s i * (x 1 - X * Y)=(s (i+1) * x 0 - s i * x 1) - (s (i+1) * (X+Y) - s i * (X * Y)):=by grind
  omega
 exact ⟨r _ k 0 (by decide),r _ k 1 (by decide)⟩
def rootB (t u:Int) (k:Nat):Bool:=decide ((P 5 k * P 5 k - t * P 5 k+u) % 97=0)
def roots (t u:Int):List Nat:=(List.range 24).filter (rootB t u)
theorem P5 (k:Nat):(97:Int) ∣ P 5 k - 5 ^ k:=by
 unfold P
 rw [Int.toNat_natCast]
 exact emod_dvd _
theorem root_iff {t u X Y:Int} {k:Nat} (ht:(97:Int) ∣ t - (X+Y)) (hu:(97:Int) ∣ u - X * Y):rootB t u k=true↔(97:Int) ∣ (5 ^ k - X) * (5 ^ k - Y):=by
 obtain ⟨a,ha⟩:=ht
 obtain ⟨b,hb⟩:=hu
 obtain ⟨c,hc⟩:=P5 k
 unfold rootB
 rw [decide_eq_true_iff]
 generalize (5:Int) ^ k=V at *
 have e0:t=X+Y+97 * a:=by omega
 have e1:u=X * Y+97 * b:=by omega
 have e2:P 5 k=V+97 * c:=by omega
 have e3:P 5 k * P 5 k - t * P 5 k+u=(V - X) * (V - Y)+97 * (2 * V * c+97 * c * c - (X+Y) * c - a * (V+97 * c)+b):=by rw [e0,e1,e2];grind
 rw [e3]
 generalize (V - X) * (V - Y)=W
 omega
theorem roots_few (t u:Int):(roots t u).length≤2:=by
 apply Classical.byContradiction
 intro h
 have hl:2 < (roots t u).length:=by omega
 have nd:(roots t u).Nodup:=List.Pairwise.filter _ List.nodup_range
 have at_:∀ (i:Nat) (hi:i < (roots t u).length),(roots t u)[i] < 24∧(97:Int) ∣ 5 ^ (roots t u)[i] * 5 ^ (roots t u)[i] - t * 5 ^ (roots t u)[i]+u:=fun i hi=>by
  have hm:(roots t u)[i] ∈ roots t u:=List.getElem_mem _
  generalize (roots t u)[i]=k at hm
  unfold roots at hm
  rw [List.mem_filter,List.mem_range] at hm
  refine ⟨hm.1,?_⟩
  have h2:=of_decide_eq_true hm.2
  obtain ⟨c,hc⟩:=P5 k
  generalize (5:Int) ^ k=V at *
  have e2:P 5 k=V+97 * c:=by omega
  have e3:P 5 k * P 5 k - t * P 5 k+u=V * V - t * V+u+97 * (2 * V * c+97 * c * c - t * c):=by rw [e2];grind
  omega
 obtain ⟨a0,a1⟩:=at_ 0 (by omega)
 obtain ⟨b0,b1⟩:=at_ 1 (by omega)
 obtain ⟨c0,c1⟩:=at_ 2 (by omega)
 have n01:(roots t u)[0]≠(roots t u)[1]:=fun e=>absurd ((List.getElem_inj nd).mp e) (by decide)
 have n02:(roots t u)[0]≠(roots t u)[2]:=fun e=>absurd ((List.getElem_inj nd).mp e) (by decide)
 have n12:(roots t u)[1]≠(roots t u)[2]:=fun e=>absurd ((List.getElem_inj nd).mp e) (by decide)
 have f01:=five_apart' a0 b0 n01
 have f02:=five_apart' a0 c0 n02
 have f12:=five_apart' b0 c0 n12
 generalize (5:Int) ^ (roots t u)[0]=A at *
 generalize (5:Int) ^ (roots t u)[1]=B at *
 generalize (5:Int) ^ (roots t u)[2]=C at *
 have k1:(97:Int) ∣ (A - B) * (A+B - t):=by
  have:=Int.dvd_sub a1 b1
  rwa [show A * A - t * A+u - (B * B - t * B+u)=(A - B) * (A+B - t) by grind] at this
 have k2:(97:Int) ∣ (A - C) * (A+C - t):=by
  have:=Int.dvd_sub a1 c1
  rwa [show A * A - t * A+u - (C * C - t * C+u)=(A - C) * (A+C - t) by grind] at this
 have k3:=prime k1 f01
 have k4:=prime k2 f02
 have:=Int.dvd_sub k3 k4
 rw [show A+B - t - (A+C - t)=B - C by omega] at this
 exact f12 this
theorem filter_two:∀ p:Nat,p < 24→∀ q:Nat,q < 24→p < q→(List.range 24).filter (fun k=>decide (k=p∨k=q))=[p,q]:=by decide +kernel
structure IsPl (s:Nat→Int) (ps:List Nat):Prop where
 nd:ps.Nodup
 b:∀ p ∈ ps,p < 24
 few:ps.length≤2
 one:∀ (e:Int) (p:Nat),p < 24→¬ (97:Int) ∣ e→(∀ j,j < 4→(97:Int) ∣ s j - e * (5 ^ p) ^ (j+1))→ps=[p]
 two:∀ (e d:Int) (p q:Nat),p < q→q < 24→¬ (97:Int) ∣ e→¬ (97:Int) ∣ d→(∀ j,j < 4→(97:Int) ∣ s j - (e * (5 ^ p) ^ (j+1)+d * (5 ^ q) ^ (j+1)))→ps=[p,q]
theorem geo_of {s:Nat→Int} {e X:Int} (h:∀ j,j < 4→(97:Int) ∣ s j - e * X ^ (j+1)) (j:Nat) (hj:j < 3):(97:Int) ∣ s (j+1) - s j * X:=by
 obtain ⟨a,ha⟩:=h j (by omega)
 obtain ⟨b,hb⟩:=h (j+1) (by omega)
 rw [Int.pow_succ X (j+1)] at hb
 generalize X ^ (j+1)=A at *
 have e0:s j=e * A+97 * a:=by omega
 have e1:s (j+1)=e * (A * X)+97 * b:=by omega
 rw [e0,e1]
 exact ⟨b - a * X,by grind⟩
theorem unit_mul {a b:Int} (ha:¬ (97:Int) ∣ a) (hb:¬ (97:Int) ∣ b):¬ (97:Int) ∣ a * b:=fun z=>hb (prime z ha)
theorem reg_two {s:Nat→Int} {e d:Int} {p q:Nat} (hpq:p < q) (hq:q < 24) (he:¬ (97:Int) ∣ e) (hd:¬ (97:Int) ∣ d) (h:∀ j,j < 4→(97:Int) ∣ s j - (e * (5 ^ p) ^ (j+1)+d * (5 ^ q) ^ (j+1))):Reg 2 (M s):=by
 refine reg_of_det fun z=>?_
 have k:=Int.dvd_sub z (det_two h)
 rw [Int.sub_sub_self] at k
 have f:=five_apart' (by omega:p < 24) hq (by omega)
 exact unit_mul (unit_mul (unit_mul he hd) (unit_mul (pow_unit five_unit p) (pow_unit five_unit q))) (unit_mul f f) k
theorem roots_pl {s x:Nat→Int} (r:Reg 2 (M s)) (hx:∀ i,i < 2→(97:Int) ∣ ip 2 (M s i) x - s (i+2)):IsPl s (roots (x 0) (x 1)) where
 nd:=List.Pairwise.filter _ List.nodup_range
 b:=fun p hp=>List.mem_range.mp (List.mem_filter.mp hp).1
 few:=roots_few _ _
 one:=fun e p hp he h=>absurd r (geo_not (X:=5 ^ p) (geo_of h 0 (by decide)) (geo_of h 1 (by decide)))
 two:=fun e d p q hpq hq he hd h=>by
  obtain ⟨ht,hu⟩:=pair_two r h hx
  rw [← filter_two p (by omega) q hq hpq]
  unfold roots
  apply List.filter_congr
  intro k hk
  have hk':=List.mem_range.mp hk
  rw [Bool.eq_iff_iff,root_iff ht hu,decide_eq_true_iff]
  constructor
  ·intro z
   apply Classical.byContradiction
   intro n
   exact unit_mul (five_apart' hk' (by omega) fun e=>n (.inl e)) (five_apart' hk' hq fun e=>n (.inr e)) z
  ·rintro (e | e)
   ·rw [e,Int.sub_self,Int.zero_mul];exact Int.dvd_zero _
   ·rw [e,Int.sub_self,Int.mul_zero];exact Int.dvd_zero _
def loneL (s:Nat→Int):List Nat:=if s 0=0∨s 1=0 then [] else if ex (s 1 * P (s 0) 95 % 97) < 24 then [(ex (s 1 * P (s 0) 95 % 97)).toNat] else []
theorem ex_pow:∀ p:Nat,p < 24→ex ((5:Int) ^ p % 97)=p:=by decide +kernel
theorem lone_pl {s:Nat→Int} (bs:∀ j,j < 4→0≤s j∧s j < 97) (r:¬ Reg 2 (M s)):IsPl s (loneL s) where
 nd:=by
  unfold loneL
  split
  ·exact List.nodup_nil
  ·split <;> simp
 b:=fun p hp=>by
  unfold loneL at hp
  split at hp
  ·cases hp
  ·split at hp
   ·have:=List.mem_singleton.mp hp
    rename_i h
    have:=ex_lo (s 1 * P (s 0) 95 % 97)
    omega
   ·cases hp
 few:=by
  unfold loneL
  split
  ·exact Nat.zero_le _
  ·split <;> simp
 one:=fun e p hp he h=>by
  have b0:=bs 0 (by decide)
  have b1:=bs 1 (by decide)
  have u0:¬ (97:Int) ∣ s 0:=fun z=>by
   have:=Int.dvd_sub z (h 0 (by decide))
   rw [Int.sub_sub_self] at this
   exact unit_mul he (pow_unit (pow_unit five_unit p) _) this
  have u1:¬ (97:Int) ∣ s 1:=fun z=>by
   have:=Int.dvd_sub z (h 1 (by decide))
   rw [Int.sub_sub_self] at this
   exact unit_mul he (pow_unit (pow_unit five_unit p) _) this
  have n0:s 0≠0:=fun z=>u0 (by rw [z];exact Int.dvd_zero _)
  have n1:s 1≠0:=fun z=>u1 (by rw [z];exact Int.dvd_zero _)
  have hv:s 1 * P (s 0) 95 % 97=5 ^ p % 97:=by
   have k:=geo_of h 0 (by decide)
   have i:=P_inv (a:=s 0) (by omega) b0.2
   obtain ⟨c,hc⟩:=k
   have e1:s 1=s 0 * 5 ^ p+97 * c:=by
    have:s (0+1)=s 1:=rfl
    omega
   have e2:P (s 0) 95 * s 0=1+97 * (P (s 0) 95 * s 0 / 97):=by omega
   generalize P (s 0) 95 * s 0 / 97=m at e2
   generalize (5:Int) ^ p=V at *
   have e3:s 1 * P (s 0) 95=V+97 * (m * V+c * P (s 0) 95):=by
    rw [e1]
    have:(s 0 * V+97 * c) * P (s 0) 95=(P (s 0) 95 * s 0) * V+97 * (c * P (s 0) 95):=by grind
    rw [this,e2];grind
   omega
  unfold loneL
  rw [if_neg (by omega),hv,ex_pow p hp,if_pos (by omega),Int.toNat_natCast]
 two:=fun e d p q hpq hq he hd h=>absurd (reg_two hpq hq he hd h) r
structure Mend (f g:Nat→Int):Prop where
 b:∀ i,i < 24→0≤g i∧g i < 97
 sealed:Sealed g
 few:(difL 24 f g).length≤2
theorem mend_sums {f g:Nat→Int} (h:Mend f g) {j:Nat} (hj:j < 6):(97:Int) ∣ T (St j) 24 f - lsum (difL 24 f g) fun i=>(f i - g i) * St j ^ i:=by
 rw [← sums_dif]
 have h1:=T_zero.mp (h.sealed j hj)
 unfold T
 omega
theorem mend_places {f g:Nat→Int} {ps:List Nat} (bf:∀ i,i < 24→0≤f i∧f i < 97) (h:Mend f g) (hn:¬ Sealed f) (hp:IsPl (fun j=>T (St j) 24 f) ps):ps=difL 24 f g:=by
 have hs:=fun (j:Nat) (hj:j < 4)=>mend_sums h (show j < 6 by omega)
 have hm:∀ i,i ∈ difL 24 f g→i < 24∧¬ (97:Int) ∣ f i - g i:=fun i hi=>by
  obtain ⟨h1,h2⟩:=difL_mem.mp hi
  have:=bf i h1
  have:=h.b i h1
  exact ⟨h1,by omega⟩
 have so:=difL_sorted 24 f g
 have few:=h.few
 match hl:difL 24 f g with
 | [] =>
  exfalso
  refine hn (h.sealed.congr fun i hi=>?_)
  apply Classical.byContradiction
  intro z
  have:=difL_mem.mpr ⟨hi,fun e=>z e.symm⟩
  rw [hl] at this
  cases this
 | [p] =>
  rw [hl] at hs hm
  obtain ⟨p0,p1⟩:=hm p (by simp)
  refine hp.one (f p - g p) p p0 p1 fun j hj=>?_
  have k:=hs j hj
  have e:lsum [p] (fun i=>(f i - g i) * St j ^ i)=(f p - g p) * St j ^ p:=by simp [lsum,sumTo]
  rw [e] at k
  obtain ⟨c,hc⟩:=St_flip (p:=p) (show j < 6 by omega)
  obtain ⟨a,ha⟩:=k
  generalize St j ^ p=A at *
  generalize ((5:Int) ^ p) ^ (j+1)=B at *
  have e2:A=B+97 * c:=by omega
  rw [e2] at ha
  exact ⟨a+(f p - g p) * c,by
   have:(f p - g p) * (B+97 * c)=(f p - g p) * B+97 * ((f p - g p) * c):=by grind
   omega⟩
 | [p,q] =>
  rw [hl] at hs hm so
  obtain ⟨p0,p1⟩:=hm p (by simp)
  obtain ⟨q0,q1⟩:=hm q (by simp)
  have hpq:p < q:=by simpa using so
  refine hp.two (f p - g p) (f q - g q) p q hpq q0 p1 q1 fun j hj=>?_
  have k:=hs j hj
  have e:lsum [p,q] (fun i=>(f i - g i) * St j ^ i)=(f p - g p) * St j ^ p+(f q - g q) * St j ^ q:=by simp [lsum,sumTo]
  rw [e] at k
  obtain ⟨c,hc⟩:=St_flip (p:=p) (show j < 6 by omega)
  obtain ⟨d,hd⟩:=St_flip (p:=q) (show j < 6 by omega)
  obtain ⟨a,ha⟩:=k
  generalize St j ^ p=A at *
  generalize ((5:Int) ^ p) ^ (j+1)=B at *
  generalize St j ^ q=C at *
  generalize ((5:Int) ^ q) ^ (j+1)=D at *
  have e2:A=B+97 * c:=by omega
  have e3:C=D+97 * d:=by omega
  rw [e2,e3] at ha
  exact ⟨a+(f p - g p) * c+(f q - g q) * d,by
   have:(f p - g p) * (B+97 * c)=(f p - g p) * B+97 * ((f p - g p) * c):=by grind
   have:(f q - g q) * (D+97 * d)=(f q - g q) * D+97 * ((f q - g q) * d):=by grind
   omega⟩
 | _ :: _ :: _ :: _=>rw [hl] at few;simp at few
def fnd (f:Nat→Int) (ps:List Nat) (x:Nat→Int):Nat→Nat→Int
 | 0=>f
 | k+1=>fun j=>if j=ps.getD k 0 then (fnd f ps x k (ps.getD k 0) - x k) % 97 else fnd f ps x k j
theorem fnd_b {f:Nat→Int} (ps:List Nat) (x:Nat→Int) (bf:∀ i,i < 24→0≤f i∧f i < 97):∀ k i,i < 24→0≤fnd f ps x k i∧fnd f ps x k i < 97
 | 0,i,hi=>bf i hi
 | k+1,i,hi=>by
  unfold fnd
  split
  ·exact ⟨Int.emod_nonneg _ (by decide),Int.emod_lt_of_pos _ (by decide)⟩
  ·exact fnd_b ps x bf k i hi
theorem fnd_out (f:Nat→Int) (ps:List Nat) (x:Nat→Int):∀ k,k≤ps.length→∀ i,i ∉ ps→fnd f ps x k i=f i
 | 0,_,i,_=>rfl
 | k+1,hk,i,hi=>by
  unfold fnd
  rw [if_neg fun e=>hi (by rw [e];simp [List.getD,show k < ps.length by omega]),fnd_out f ps x k (by omega) i hi]
theorem getD_get {ps:List Nat} {k:Nat} (h:k < ps.length):ps.getD k 0=ps[k]:=by simp [List.getD,h]
theorem fnd_at (f:Nat→Int) {ps:List Nat} (nd:ps.Nodup) (x:Nat→Int):∀ k,k≤ps.length→(∀ i,i < k→fnd f ps x k (ps.getD i 0)=(f (ps.getD i 0) - x i) % 97)∧∀ i,k≤i→i < ps.length→fnd f ps x k (ps.getD i 0)=f (ps.getD i 0)
 | 0,_=>⟨fun i hi=>by omega,fun i _ _=>rfl⟩
 | k+1,hk=>by
  obtain ⟨h1,h2⟩:=fnd_at f nd x k (by omega)
  have ne:∀ i,i < ps.length→i≠k→ps.getD i 0≠ps.getD k 0:=fun i hi hik e=>by
   rw [getD_get hi,getD_get (by omega)] at e
   exact hik ((List.getElem_inj nd).mp e)
  refine ⟨fun i hi=>?_,fun i hi hl=>?_⟩
  ·unfold fnd
   by_cases e:i=k
   ·subst e
    rw [if_pos rfl,h2 i (Nat.le_refl _) (by omega)]
   ·rw [if_neg (ne i (by omega) e),h1 i (by omega)]
  ·unfold fnd
   rw [if_neg (ne i hl (by omega)),h2 i (by omega) hl]
theorem rowsReg {ps:List Nat} (nd:ps.Nodup) (hb:∀ p ∈ ps,p < 24):Reg ps.length (fun i q=>P 5 ((ps.getD q 0:Nat) * (1+(i:Int)))):=by
 have hg:∀ q,q < ps.length→ps.getD q 0 < 24:=fun q hq=>by rw [getD_get hq];exact hb _ (List.getElem_mem _)
 refine (Reg.congr (b:=fun i q=>((5:Int) ^ ps.getD q 0) ^ (i+1)) fun i q hi hq=>?_).mpr ?_
 ·have e:((ps.getD q 0:Nat) * (1+(i:Int))).toNat=ps.getD q 0 * (i+1):=by
   have:((ps.getD q 0:Nat):Int) * (1+(i:Int))=((ps.getD q 0 * (i+1):Nat):Int):=by rw [Int.natCast_mul,Int.natCast_add];congr 1;omega
   rw [this,Int.toNat_natCast]
  show (97:Int) ∣ (5:Int) ^ ((ps.getD q 0:Nat) * (1+(i:Int))).toNat % 97 - _
  rw [e,Int.pow_mul]
  exact emod_dvd _
 ·intro z hz i hi
  refine vander ps.length (fun q=>(5:Int) ^ ps.getD q 0) z (fun i _=>pow_unit five_unit _) (fun i j hi hj hij=>five_apart' (hg i hi) (hg j hj) fun e=>?_) hz i hi
  rw [getD_get hi,getD_get hj] at e
  exact hij ((List.getElem_inj nd).mp e)
theorem uniqX {n:Nat} {a:Mat} {b x y:Nat→Int} (hr:Reg n a) (hx:∀ i,i < n→(97:Int) ∣ ip n (a i) x - b i) (hy:∀ i,i < n→(97:Int) ∣ ip n (a i) y - b i):∀ i,i < n→(97:Int) ∣ x i - y i:=by
 intro i hi
 refine hr (fun j=>x j - y j) (fun i hi=>?_) i hi
 have e:ip n (a i) (fun j=>x j - y j)=ip n (a i) x - ip n (a i) y:=by
  have:=sumTo_lin 1 (-1) (fun j=>a i j * x j) (fun j=>a i j * y j) n
  unfold ip
  rw [show sumTo n (fun j=>a i j * (x j - y j))=sumTo n (fun j=>1 * (a i j * x j)+-1 * (a i j * y j)) from sumTo_congr n fun j _=>by grind,this]
  omega
 rw [e]
 have:=Int.dvd_sub (hx i hi) (hy i hi)
 rwa [show ip n (a i) x - b i - (ip n (a i) y - b i)=ip n (a i) x - ip n (a i) y by omega] at this
theorem mend_found {f g x:Nat→Int} {ps:List Nat} (bf:∀ i,i < 24→0≤f i∧f i < 97) (h:Mend f g) (hn:¬ Sealed f) (hp:IsPl (fun j=>T (St j) 24 f) ps)
  (hx:∀ i,i < ps.length→(97:Int) ∣ ip ps.length (fun q=>P 5 ((ps.getD q 0:Nat) * (1+(i:Int)))) x - T (St i) 24 f):∀ i,i < 24→fnd f ps x ps.length i=g i:=by
 have e:=mend_places bf h hn hp
 have few:=hp.few
 have hy:∀ i,i < ps.length→(97:Int) ∣ ip ps.length (fun q=>P 5 ((ps.getD q 0:Nat) * (1+(i:Int)))) (fun q=>f (ps.getD q 0) - g (ps.getD q 0)) - T (St i) 24 f:=fun i hi=>by
  have k:=mend_sums h (j:=i) (by omega)
  rw [← e] at k
  have k2:(97:Int) ∣ ip ps.length (fun q=>P 5 ((ps.getD q 0:Nat) * (1+(i:Int)))) (fun q=>f (ps.getD q 0) - g (ps.getD q 0)) - lsum ps fun i'=>(f i' - g i') * St i ^ i':=by
   have h1:=sumTo_lin 1 (-1) (fun q=>P 5 ((ps.getD q 0:Nat) * (1+(i:Int))) * (f (ps.getD q 0) - g (ps.getD q 0))) (fun q=>(f (ps.getD q 0) - g (ps.getD q 0)) * St i ^ ps.getD q 0) ps.length
   have h2:(97:Int) ∣ sumTo ps.length fun q=>1 * (P 5 ((ps.getD q 0:Nat) * (1+(i:Int))) * (f (ps.getD q 0) - g (ps.getD q 0)))+-1 * ((f (ps.getD q 0) - g (ps.getD q 0)) * St i ^ ps.getD q 0):=sumTo_dvd _ fun q _=>by
    have ee:((ps.getD q 0:Nat) * (1+(i:Int))).toNat=ps.getD q 0 * (i+1):=by
     have:((ps.getD q 0:Nat):Int) * (1+(i:Int))=((ps.getD q 0 * (i+1):Nat):Int):=by rw [Int.natCast_mul,Int.natCast_add];congr 1;omega
     rw [this,Int.toNat_natCast]
    have h3:(97:Int) ∣ P 5 ((ps.getD q 0:Nat) * (1+(i:Int))) - (5 ^ ps.getD q 0) ^ (i+1):=by
     unfold P
     rw [ee,Int.pow_mul]
     exact emod_dvd _
    obtain ⟨a,ha⟩:=h3
    obtain ⟨c,hc⟩:=St_flip (p:=ps.getD q 0) (show i < 6 by omega)
    generalize P 5 ((ps.getD q 0:Nat) * (1+(i:Int)))=A at *
    generalize ((5:Int) ^ ps.getD q 0) ^ (i+1)=B at *
    generalize St i ^ ps.getD q 0=C at *
    have e1:A=B+97 * a:=by omega
    have e2:C=B+97 * c:=by omega
    rw [e1,e2]
    exact ⟨(f (ps.getD q 0) - g (ps.getD q 0)) * (a - c),by grind⟩
   rw [h1] at h2
   have e5:∀ a b:Int,1 * a+-1 * b=a - b:=fun a b=>by omega
   rw [e5] at h2
   exact h2
  have:=Int.dvd_sub k2 k
  omega
 have hu:=uniqX (rowsReg hp.nd hp.b) hx hy
 intro i hi
 by_cases hm:i ∈ ps
 ·obtain ⟨k,hk,rfl⟩:=List.getElem_of_mem hm
  have h1:=(fnd_at f hp.nd x ps.length (Nat.le_refl _)).1 k hk
  rw [getD_get hk] at h1
  rw [h1]
  have h2:=hu k hk
  rw [getD_get hk] at h2
  have h3:=h.b ps[k] hi
  omega
 ·rw [fnd_out f ps x ps.length (Nat.le_refl _) i hm]
  apply Classical.byContradiction
  intro z
  exact hm (by rw [e];exact difL_mem.mpr ⟨hi,z⟩)
theorem found_mend {f x:Nat→Int} {ps:List Nat} (bf:∀ i,i < 24→0≤f i∧f i < 97) (nd:ps.Nodup) (few:ps.length≤2) (hs:Sealed (fnd f ps x ps.length)):Mend f (fnd f ps x ps.length) where
 b:=fnd_b ps x bf ps.length
 sealed:=hs
 few:=Nat.le_trans (nodup_sub _ ps (difL_nodup _ _ _) fun i hi=>by
  apply Classical.byContradiction
  intro z
  exact (difL_mem.mp hi).2 (fnd_out f ps x ps.length (Nat.le_refl _) i z).symm) few
theorem Mend.self {f:Nat→Int} (bf:∀ i,i < 24→0≤f i∧f i < 97) (h:Sealed f):Mend f f:=⟨bf,h,by
 have e:difL 24 f f=[]:=by simp [difL]
 rw [e];exact Nat.zero_le _⟩
end My
namespace K34
open PySem L2 PyProof.Rows
def top (i:Nat):Stmt:=PySem.Challenge.pw_stormpost_k34_whole_silence_is_a_breach.main.body.getD i (.Pass ⟨0,0,0,0⟩)
abbrev s_is_sign:Stmt:=top 9
abbrev s_look_sign:Stmt:=top 10
abbrev s_look_unit:Stmt:=top 11
abbrev s_power:Stmt:=top 12
abbrev s_inverse:Stmt:=top 13
abbrev s_exponent:Stmt:=top 14
abbrev s_equation:Stmt:=top 15
abbrev s_pivot_place:Stmt:=top 16
abbrev s_exchanged:Stmt:=top 17
abbrev s_lessened:Stmt:=top 18
abbrev s_cleared:Stmt:=top 19
abbrev s_solved:Stmt:=top 20
abbrev s_look_signs:Stmt:=top 26
abbrev s_look_cell:Stmt:=top 27
abbrev s_value_at:Stmt:=top 28
abbrev s_troubles:Stmt:=top 29
abbrev s_is_sealed:Stmt:=top 30
abbrev s_carried:Stmt:=top 31
abbrev s_sealed:Stmt:=top 32
abbrev s_look_late:Stmt:=top 37
abbrev s_look_measure:Stmt:=top 38
abbrev s_is_fit:Stmt:=top 39
abbrev s_quiet_of:Stmt:=top 40
abbrev s_breach:Stmt:=top 41
abbrev s_keeps:Stmt:=top 42
abbrev s_lone_place:Stmt:=top 44
abbrev s_is_root:Stmt:=top 45
abbrev s_turned_places:Stmt:=top 46
abbrev s_turns_at:Stmt:=top 47
abbrev s_mended:Stmt:=top 48
abbrev s_is_readable:Stmt:=top 49
abbrev s_number_signs:Stmt:=top 51
abbrev s_signs_number:Stmt:=top 52
abbrev s_is_told:Stmt:=top 63
abbrev s_is_shown:Stmt:=top 64
abbrev s_broken_by:Stmt:=top 65
abbrev s__law_cell:Stmt:=top 67
abbrev s__law_numbers:Stmt:=top 68
abbrev s__law_measure:Stmt:=top 69
abbrev s__law_turns:Stmt:=top 70
abbrev s__law_fate:Stmt:=top 71
abbrev s__law_turned:Stmt:=top 72
abbrev s__law_give:Stmt:=top 73
abbrev s__law_dead:Stmt:=top 74
abbrev s__law_kept:Stmt:=top 75
abbrev s__law_silent_right:Stmt:=top 76
abbrev s__law_events_right:Stmt:=top 77
abbrev s_law:Stmt:=top 78
def clsBody:Stmt→List Stmt
 | .ClassDef _ _ _ b _ _ _ _ _ _ _=>b
 | _=>[]
abbrev s_init:Stmt:=(clsBody (top 61)).getD 0 (.Pass ⟨0,0,0,0⟩)
abbrev s_forget_pieces:Stmt:=(clsBody (top 61)).getD 1 (.Pass ⟨0,0,0,0⟩)
abbrev s_tick:Stmt:=(clsBody (top 61)).getD 2 (.Pass ⟨0,0,0,0⟩)
abbrev s_cell_given:Stmt:=(clsBody (top 61)).getD 3 (.Pass ⟨0,0,0,0⟩)
abbrev s_read:Stmt:=(clsBody (top 61)).getD 4 (.Pass ⟨0,0,0,0⟩)
abbrev s_meet:Stmt:=(clsBody (top 61)).getD 5 (.Pass ⟨0,0,0,0⟩)
abbrev s_come_up:Stmt:=(clsBody (top 61)).getD 6 (.Pass ⟨0,0,0,0⟩)
abbrev s_end_up:Stmt:=(clsBody (top 61)).getD 7 (.Pass ⟨0,0,0,0⟩)
abbrev s_start_over:Stmt:=(clsBody (top 61)).getD 8 (.Pass ⟨0,0,0,0⟩)
abbrev s_hear_count:Stmt:=(clsBody (top 61)).getD 9 (.Pass ⟨0,0,0,0⟩)
abbrev s_take_piece:Stmt:=(clsBody (top 61)).getD 10 (.Pass ⟨0,0,0,0⟩)
abbrev s_put:Stmt:=(clsBody (top 61)).getD 11 (.Pass ⟨0,0,0,0⟩)
abbrev s_up:Stmt:=(clsBody (top 61)).getD 12 (.Pass ⟨0,0,0,0⟩)
abbrev s_waits:Stmt:=(clsBody (top 61)).getD 13 (.Pass ⟨0,0,0,0⟩)
abbrev s_events:Stmt:=(clsBody (top 61)).getD 14 (.Pass ⟨0,0,0,0⟩)
structure Ad where
 BadCell:Addr
 BadMeasure:Addr
 BadSign:Addr
 DIVISOR:Addr
 LinkEnd:Addr
 init:Addr
 m_forget_pieces:Addr
 m_tick:Addr
 m_cell_given:Addr
 m_read:Addr
 m_meet:Addr
 m_come_up:Addr
 m_end_up:Addr
 m_start_over:Addr
 m_hear_count:Addr
 m_take_piece:Addr
 m_put:Addr
 m_up:Addr
 m_waits:Addr
 m_events:Addr
structure Txt (K:PySem.W.Frag) (mg:Str→Option Value) (t:Ad):Prop where
 cBIRTH_SIGNS:∃ tk,mg "BIRTH_SIGNS"=some (.int 2 tk)
 cCOUNT_AT:∃ tk,mg "COUNT_AT"=some (.int 5 tk)
 cFREE_PLACES:∃ tk,mg "FREE_PLACES"=some (.int 18 tk)
 cKNOWN_AT:∃ tk,mg "KNOWN_AT"=some (.int 2 tk)
 cLENGTH_AT:∃ tk,mg "LENGTH_AT"=some (.int 6 tk)
 cMENDED_TURNS:∃ tk,mg "MENDED_TURNS"=some (.int 2 tk)
 cMOST_LATE:∃ tk,mg "MOST_LATE"=some (.int 6 tk)
 cMOST_LOST:∃ tk,mg "MOST_LOST"=some (.int 4 tk)
 cNO_BIRTH:∃ tk,mg "NO_BIRTH"=some (.int 0 tk)
 cNUMBER_AT:∃ tk,mg "NUMBER_AT"=some (.int 4 tk)
 cPIECE_AT:∃ tk,mg "PIECE_AT"=some (.int 7 tk)
 cPLACES:∃ tk,mg "PLACES"=some (.int 24 tk)
 cROOT:∃ tk,mg "ROOT"=some (.int 5 tk)
 cSIGNS:∃ tk,mg "SIGNS"=some (.int 97 tk)
 cSUMS:∃ tk,mg "SUMS"=some (.int 6 tk)
 n_any:mg "any"=none
 n_enumerate:mg "enumerate"=none
 n_int:mg "int"=none
 n_len:mg "len"=none
 n_list:mg "list"=none
 n_max:mg "max"=none
 n_min:mg "min"=none
 n_range:mg "range"=none
 n_reversed:mg "reversed"=none
 n_tuple:mg "tuple"=none
 n_zip:mg "zip"=none
 mBadCell:mg "BadCell"=some (.ref t.BadCell)
 mBadMeasure:mg "BadMeasure"=some (.ref t.BadMeasure)
 mBadSign:mg "BadSign"=some (.ref t.BadSign)
 mDIVISOR:mg "DIVISOR"=some (.ref t.DIVISOR)
 mLinkEnd:mg "LinkEnd"=some (.ref t.LinkEnd)
 xBadCell:PySem.W.excIn K t.BadCell [.type "ValueError",.type "Exception",.type "BaseException",.type "object"] "ValueError.__new__"=true
 eBadCell:ExcCls K t.BadCell
 xBadMeasure:PySem.W.excIn K t.BadMeasure [.type "ValueError",.type "Exception",.type "BaseException",.type "object"] "ValueError.__new__"=true
 eBadMeasure:ExcCls K t.BadMeasure
 xBadSign:PySem.W.excIn K t.BadSign [.type "ValueError",.type "Exception",.type "BaseException",.type "object"] "ValueError.__new__"=true
 eBadSign:ExcCls K t.BadSign
 dDIVISOR:TupK K t.DIVISOR [V.int (21),V.int (80),V.int (53),V.int (2),V.int (55),V.int (63)]
 kLinkEnd:Mk K t.LinkEnd t.init
 fi:∃ fd,Fun K "__init__" "LinkEnd.__init__" s_init t.init fd
 cLinkEnd:Cls K t.LinkEnd
 na_quiet:NoAttr K t.LinkEnd "quiet"
 na_side:NoAttr K t.LinkEnd "side"
 na_done:NoAttr K t.LinkEnd "done"
 na_unheard:NoAttr K t.LinkEnd "unheard"
 na_birth:NoAttr K t.LinkEnd "birth"
 na_known:NoAttr K t.LinkEnd "known"
 na_pair:NoAttr K t.LinkEnd "pair"
 na_told:NoAttr K t.LinkEnd "told"
 na_pieces:NoAttr K t.LinkEnd "pieces"
 na_offered:NoAttr K t.LinkEnd "offered"
 na_taken:NoAttr K t.LinkEnd "taken"
 me_forget_pieces:Meth K t.LinkEnd "forget_pieces" t.m_forget_pieces
 f_forget_pieces:∃ fd,Fun K "forget_pieces" "LinkEnd.forget_pieces" s_forget_pieces t.m_forget_pieces fd
 me_tick:Meth K t.LinkEnd "tick" t.m_tick
 f_tick:∃ fd,Fun K "tick" "LinkEnd.tick" s_tick t.m_tick fd
 me_cell_given:Meth K t.LinkEnd "cell_given" t.m_cell_given
 f_cell_given:∃ fd,Fun K "cell_given" "LinkEnd.cell_given" s_cell_given t.m_cell_given fd
 me_read:Meth K t.LinkEnd "read" t.m_read
 f_read:∃ fd,Fun K "read" "LinkEnd.read" s_read t.m_read fd
 me_meet:Meth K t.LinkEnd "meet" t.m_meet
 f_meet:∃ fd,Fun K "meet" "LinkEnd.meet" s_meet t.m_meet fd
 me_come_up:Meth K t.LinkEnd "come_up" t.m_come_up
 f_come_up:∃ fd,Fun K "come_up" "LinkEnd.come_up" s_come_up t.m_come_up fd
 me_end_up:Meth K t.LinkEnd "end_up" t.m_end_up
 f_end_up:∃ fd,Fun K "end_up" "LinkEnd.end_up" s_end_up t.m_end_up fd
 me_start_over:Meth K t.LinkEnd "start_over" t.m_start_over
 f_start_over:∃ fd,Fun K "start_over" "LinkEnd.start_over" s_start_over t.m_start_over fd
 me_hear_count:Meth K t.LinkEnd "hear_count" t.m_hear_count
 f_hear_count:∃ fd,Fun K "hear_count" "LinkEnd.hear_count" s_hear_count t.m_hear_count fd
 me_take_piece:Meth K t.LinkEnd "take_piece" t.m_take_piece
 f_take_piece:∃ fd,Fun K "take_piece" "LinkEnd.take_piece" s_take_piece t.m_take_piece fd
 me_put:Meth K t.LinkEnd "put" t.m_put
 f_put:∃ fd,Fun K "put" "LinkEnd.put" s_put t.m_put fd
 me_up:Meth K t.LinkEnd "up" t.m_up
 f_up:∃ fd,Fun K "up" "LinkEnd.up" s_up t.m_up fd
 me_waits:Meth K t.LinkEnd "waits" t.m_waits
 f_waits:∃ fd,Fun K "waits" "LinkEnd.waits" s_waits t.m_waits fd
 me_events:Meth K t.LinkEnd "events" t.m_events
 f_events:∃ fd,Fun K "events" "LinkEnd.events" s_events t.m_events fd
section
variable {P:Program} {w:World} {K:PySem.W.Frag} {mg:Str→Option Value} {base:Heap} {t:Ad}
def sp_is_sign:Sp:=fun vs H Q _=>∃ n:Int,vs=[.int n]∧Q (.bl (decide (0≤n∧n < 97))) H
theorem sc_is_sign:FnScope ["number"] ["number"] (defScope s_is_sign):=⟨rfl,rfl,rfl,by decide +kernel,rfl,by decide +kernel,by decide +kernel⟩
theorem ok_is_sign (F:Site K mg "is_sign" s_is_sign) (T:Txt K mg t):Def P w K mg base 1 "is_sign" ["number"] sp_is_sign:=by
 refine F.def sc_is_sign (fun _ _ _ _ _ _ us hl=>match us,hl with | [_],_=>rfl) (fun vs H Q E h=>?_) (fun f cdv A outer s H vs Q E hr h=>?_)
 ·obtain ⟨n,rfl,_⟩:=h
  rfl
 ·obtain ⟨n,rfl,q⟩:=h
  refine ⟨_,pss_one (ps_ret (pe_chain op_le op_lt pe_int (pv 0) (pe_gint T.cSIGNS))),?_⟩
  refine ⟨_,rfl,_,_,rfl,rfl,_,rfl,?_⟩
  by_cases h0:0≤n
  ·rw [decide_eq_true h0]
   refine iteT ⟨_,_,rfl,rfl,?_⟩
   have e:decide (n < 97)=decide (0≤n∧n < 97):=by simp [h0]
   show Q (.bl (decide (n < 97))) H
   rw [e]
   exact q
  ·rw [decide_eq_false h0]
   refine iteF ?_
   have e:false=decide (0≤n∧n < 97):=by simp [h0]
   show Q (.bl false) H
   rw [e]
   exact q
def IsRow (m:Int) (ns:List Int):Prop:=(ns.length:Int)=m∧∀ n ∈ ns,0≤n∧n < 97
def sp_look_signs (K:PySem.W.Frag) (C:Addr):Sp:=fun vs H Q E=>∃ (l:Addr) (ns:List Int) (m:Int),vs=[.ref l,.int m]∧SqL K H l (ns.map V.int)∧(∀ n ∈ ns,n.natAbs < 2 ^ 1000)∧m.natAbs < 2 ^ 1000 ∧
 (IsRow m ns→Q .non H)∧(¬ IsRow m ns→E (.ref C) none H)
theorem txt_len {i:Int} (h:i.natAbs < 2 ^ 1000):(Str.ofString (toString i)).length≤1001:=by
 have hl:i.natAbs.log2 < 1000:=by
  by_cases z:i.natAbs=0
  ·rw [z];decide
  ·exact (Nat.log2_lt z).mpr h
 have e:=int_text_length_le (k:=1000) (by decide) hl
 rw [PySem.ofString_length];omega
theorem sc_look_signs:FnScope ["signs","many","sign"] ["signs","many"] (defScope s_look_signs):=⟨rfl,rfl,rfl,by decide +kernel,rfl,by decide +kernel,by decide +kernel⟩
theorem ok_look_signs (F:Site K mg "look_signs" s_look_signs) (T:Txt K mg t) (D_is_sign:Def P w K mg base 1 "is_sign" ["number"] sp_is_sign):Def P w K mg base 2 "look_signs" ["signs","many"] (sp_look_signs K t.BadCell):=by
 refine F.def sc_look_signs (fun _ _ _ _ _ _ us hl=>match us,hl with | [_,_],_=>rfl) (fun vs H Q E h=>?_) (fun f cdv A outer s H vs Q E hr h=>?_)
 ·obtain ⟨l,ns,m,rfl,_⟩:=h
  rfl
 ·obtain ⟨l,ns,m,rfl,hl,hb,hm,q1,q2⟩:=h
  refine ⟨_,pss_cons (ps_if (pt_cmpR op_ne (pe_callB (call_lenK K) (by rfl) T.n_len boot_len (pa_cons (pv 0) pa_nil)) (pv 1) (nomark _))
    (pss_one (ps_raise cx1_body rfl rfl T.mBadCell T.xBadCell PySem.F.excBase_ValueError (pa_cons (pe_fstr (pj_cons (pe_fmtI (pv 1)) (pj_cons pe_str pj_nil))) pa_nil)))
    (pss_nil))
   (pss_one (ps_for (own1 cx1_body) rfl (pi_listK K (pv 0)) (pg_name (i:=2) sc_look_signs.nd rfl (Or.inl rfl))
    (pss_one (ps_if (pt_not (pt_val (pe_def (D_is_sign.mono (by decide)) hr passN (pa_cons (pv 2) pa_nil))))
     (pss_one (ps_raise cx1_body rfl rfl T.mBadCell T.xBadCell PySem.F.excBase_ValueError (pa_cons (pe_fstr (pj_cons (pe_fmtI (pv 2)) (pj_cons pe_str pj_nil))) pa_nil)))
     (pss_nil))))),?_⟩
  have sl:(2000:Nat)≤sizeLine:=by decide
  refine ⟨_,rfl,l,_,rfl,.inl hl,_,rfl,rfl,_,rfl,?_⟩
  by_cases hlen:(ns.length:Int)=m
  ·refine iteNN (by rw [List.length_map,hlen]) ?_
   refine ⟨_,rfl,l,rfl,⟨_,hl⟩,for_list (K:=K) (a:=l) (xs:=ns.map V.int) (fun i σ H'=>∃ x:Option V,σ=[some (.ref l),some (.int m),x]∧H'=H∧∀ n ∈ ns.take i,0≤n∧n < 97) ⟨none,rfl,rfl,fun n hn=>by simp at hn⟩ (fun i σ H' _ ⟨_,_,e,_⟩=>by rw [e];exact hl) ?_ ?_⟩
   ·rintro i y σ H' hi ⟨x,rfl,rfl,ha⟩
    obtain ⟨z,hz,rfl⟩:=item_of hi
    have hzm:z ∈ ns:=List.mem_of_getElem? hz
    refine ⟨_,rfl,z,rfl,_,rfl,?_⟩
    by_cases h0:0≤z∧z < 97
    ·rw [decide_eq_true h0]
     refine iteF ⟨some (.int z),rfl,rfl,?_⟩
     rw [take_succ hz]
     intro n hn
     rcases List.mem_append.mp hn with z1 | z1
     ·exact ha n z1
     ·rw [List.mem_singleton.mp z1];exact h0
    ·rw [decide_eq_false h0]
     refine iteT ?_
     have hzl:=txt_len (hb z hzm)
     have e0:(Str.empty ++ Str.ofString (toString z)).length≤1001:=by rw [strLen_append];show 0+_≤1001;omega
     have e1:((Str.empty ++ Str.ofString (toString z)) ++ (" is no sign":Str)).length≤2000:=by
      have:(" is no sign":Str).length=11:=by decide +kernel
      rw [strLen_append];omega
     refine ⟨_,rfl,z,rfl,log_lt (hb z hzm) (by decide) (by decide),_,rfl,by omega,_,rfl,by omega,by omega,?_⟩
     exact ⟨by show 1≤sizeLine;decide,q2 fun r=>h0 (r.2 z hzm)⟩
   ·rintro σ H' ⟨x,rfl,rfl,ha⟩
    rw [List.length_map,List.take_length] at ha
    exact q1 ⟨hlen,ha⟩
  ·refine iteNY (fun e=>hlen (by have:=V.int.inj e;rwa [List.length_map] at this)) ?_
   have hzl:=txt_len hm
   have e0:(Str.empty ++ Str.ofString (toString m)).length≤1001:=by rw [strLen_append];show 0+_≤1001;omega
   have e1:((Str.empty ++ Str.ofString (toString m)) ++ (" signs are asked for here":Str)).length≤2000:=by
    have:(" signs are asked for here":Str).length=25:=by decide +kernel
    rw [strLen_append];omega
   refine ⟨_,rfl,m,rfl,log_lt hm (by decide) (by decide),_,rfl,by omega,_,rfl,by omega,by omega,?_⟩
   exact ⟨by show 1≤sizeLine;decide,q2 fun r=>hlen r.1⟩
structure IsCell (n:Nat) (f:Nat→Int):Prop where
 b:∀ i,i < n→0≤f i∧f i < 97
theorem IsCell.row {n:Nat} {f:Nat→Int} (h:IsCell n f):IsRow n ((List.range n).map f):=by
 refine ⟨by simp,fun x hx=>?_⟩
 obtain ⟨i,hi,rfl⟩:=List.mem_map.mp hx
 exact h.b i (List.mem_range.mp hi)
theorem IsCell.far {n:Nat} {f:Nat→Int} (h:IsCell n f):∀ x ∈ (List.range n).map f,x.natAbs < 2 ^ 1000:=fun x hx=>by
 obtain ⟨i,hi,rfl⟩:=List.mem_map.mp hx
 have:=h.b i (List.mem_range.mp hi)
 exact small_abs (by omega) (by omega)
def sp_look_cell (K:PySem.W.Frag) (C:Addr):Sp:=fun vs H Q E=>∃ (l:Addr) (ns:List Int),vs=[.ref l]∧SqL K H l (ns.map V.int)∧(∀ n ∈ ns,n.natAbs < 2 ^ 1000) ∧
 (IsRow 24 ns→Q .non H)∧(¬ IsRow 24 ns→E (.ref C) none H)
theorem sc_look_cell:FnScope ["cell"] ["cell"] (defScope s_look_cell):=⟨rfl,rfl,rfl,by decide +kernel,rfl,by decide +kernel,by decide +kernel⟩
theorem ok_look_cell (F:Site K mg "look_cell" s_look_cell) (T:Txt K mg t) (D_look_signs:Def P w K mg base 2 "look_signs" ["signs","many"] (sp_look_signs K t.BadCell)):Def P w K mg base 3 "look_cell" ["cell"] (sp_look_cell K t.BadCell):=by
 refine F.def sc_look_cell (fun _ _ _ _ _ _ us hl=>match us,hl with | [_],_=>rfl) (fun vs H Q E h=>?_) (fun f cdv A outer s H vs Q E hr h=>?_)
 ·obtain ⟨l,ns,rfl,_⟩:=h
  rfl
 ·obtain ⟨l,ns,rfl,hl,hb,q1,q2⟩:=h
  refine ⟨_,pss_one (ps_expr (pe_def (D_look_signs.mono (by decide)) hr (pass1 cx1_body) (pa_cons (pv 0) (pa_cons (pe_gint T.cPLACES) pa_nil)))),?_⟩
  exact ⟨_,rfl,l,ns,24,rfl,hl,hb,by decide,q1,q2⟩
end
end K34
namespace K34
open PySem L2 PyProof.Rows
section
variable {P:Program} {w:World} {K:PySem.W.Frag} {mg:Str→Option Value} {base:Heap} {t:Ad}
def sp_look_sign (C:Addr):Sp:=fun vs H Q E=>∃ n:Int,vs=[.int n]∧n.natAbs < 2 ^ 1000∧(0≤n∧n < 97→Q .non H)∧(¬ (0≤n∧n < 97)→E (.ref C) none H)
theorem sc_look_sign:FnScope ["number"] ["number"] (defScope s_look_sign):=⟨rfl,rfl,rfl,by decide +kernel,rfl,by decide +kernel,by decide +kernel⟩
theorem ok_look_sign (F:Site K mg "look_sign" s_look_sign) (T:Txt K mg t) (D1:Def P w K mg base 1 "is_sign" ["number"] sp_is_sign):Def P w K mg base 2 "look_sign" ["number"] (sp_look_sign t.BadSign):=by
 refine F.def sc_look_sign (fun _ _ _ _ _ _ us hl=>match us,hl with | [_],_=>rfl) (fun vs H Q E h=>?_) (fun f cdv A outer s H vs Q E hr h=>?_)
 ·obtain ⟨n,rfl,_⟩:=h
  rfl
 ·obtain ⟨n,rfl,hb,q1,q2⟩:=h
  refine ⟨_,pss_one (ps_if (pt_not (pt_val (pe_def D1 hr passN (pa_cons (pv 0) pa_nil))))
   (pss_one (ps_raise cx1_body rfl rfl T.mBadSign T.xBadSign PySem.F.excBase_ValueError (pa_cons (pe_fstr (pj_cons (pe_fmtI (pv 0)) (pj_cons pe_str pj_nil))) pa_nil))) pss_nil),?_⟩
  refine ⟨_,rfl,n,rfl,_,rfl,?_⟩
  by_cases h0:0≤n∧n < 97
  ·rw [decide_eq_true h0]
   exact iteF (q1 h0)
  ·rw [decide_eq_false h0]
   refine iteT ?_
   have hz:=txt_len hb
   have e0:(Str.empty ++ Str.ofString (toString n)).length≤1001:=by rw [strLen_append];show 0+_≤1001;omega
   have e1:((Str.empty ++ Str.ofString (toString n)) ++ (" is no sign":Str)).length≤2000:=by
    have:(" is no sign":Str).length=11:=by decide +kernel
    rw [strLen_append];omega
   have sl:(2000:Nat)≤sizeLine:=by decide
   refine ⟨_,rfl,n,rfl,log_lt hb (by decide) (by decide),_,rfl,by omega,_,rfl,by omega,by omega,?_⟩
   exact ⟨by show 1≤sizeLine;decide,q2 h0⟩
def sp_look_unit (C:Addr):Sp:=fun vs H Q E=>∃ n:Int,vs=[.int n]∧n.natAbs < 2 ^ 1000∧(0 < n∧n < 97→Q .non H)∧(¬ (0 < n∧n < 97)→E (.ref C) none H)
theorem sc_look_unit:FnScope ["number"] ["number"] (defScope s_look_unit):=⟨rfl,rfl,rfl,by decide +kernel,rfl,by decide +kernel,by decide +kernel⟩
theorem ok_look_unit (F:Site K mg "look_unit" s_look_unit) (T:Txt K mg t) (D2:Def P w K mg base 2 "look_sign" ["number"] (sp_look_sign t.BadSign)):Def P w K mg base 3 "look_unit" ["number"] (sp_look_unit t.BadSign):=by
 refine F.def sc_look_unit (fun _ _ _ _ _ _ us hl=>match us,hl with | [_],_=>rfl) (fun vs H Q E h=>?_) (fun f cdv A outer s H vs Q E hr h=>?_)
 ·obtain ⟨n,rfl,_⟩:=h
  rfl
 ·obtain ⟨n,rfl,hb,q1,q2⟩:=h
  refine ⟨_,pss_cons (ps_expr (pe_def D2 hr (pass1 cx1_body) (pa_cons (pv 0) pa_nil)))
   (pss_one (ps_if (pt_cmpR op_eq (pv 0) pe_int (nomark _)) (pss_one (ps_raise cx1_body rfl rfl T.mBadSign T.xBadSign PySem.F.excBase_ValueError (pa_cons pe_str pa_nil))) pss_nil)),?_⟩
  refine ⟨_,rfl,n,rfl,hb,fun h0=>?_,fun h0=>q2 (by omega)⟩
  refine ⟨_,rfl,rfl,_,rfl,?_⟩
  by_cases z:n=0
  ·subst z
   refine iteT ?_
   exact ⟨by show 1≤sizeLine;decide,q2 (by omega)⟩
  ·have e:decide (V.int n=V.int 0)=false:=decide_eq_false fun q=>z (V.int.inj q)
   rw [e]
   exact iteF (q1 (by omega))
def sp_power (C:Addr):Sp:=fun vs H Q E=>∃ a k:Int,vs=[.int a,.int k]∧a.natAbs < 2 ^ 1000∧0≤k∧(0≤a∧a < 97→Q (.int (My.P a k)) H)∧(¬ (0≤a∧a < 97)→E (.ref C) none H)
def mu_power:L2.St→Hp→Nat:=fun σ _=>match σ with
 | [_,_,_,_,some (.int s)]=>s.toNat
 | _=>0
theorem sc_power:FnScope ["a","k","product","square","left"] ["a","k"] (defScope s_power):=⟨rfl,rfl,rfl,by decide +kernel,rfl,by decide +kernel,by decide +kernel⟩
theorem ok_power (F:Site K mg "power" s_power) (T:Txt K mg t) (D_look_sign:Def P w K mg base 2 "look_sign" ["number"] (sp_look_sign t.BadSign)):Def P w K mg base 3 "power" ["a","k"] (sp_power t.BadSign):=by
 refine F.def sc_power (fun _ _ _ _ _ _ us hl=>match us,hl with | [_,_],_=>rfl) (fun vs H Q E h=>?_) (fun f cdv A outer s H vs Q E hr h=>?_)
 ·obtain ⟨a,k,rfl,_⟩:=h
  rfl
 ·obtain ⟨a,k,rfl,hb,k0,q1,q2⟩:=h
  refine ⟨_,pss_cons (ps_expr (pe_def (D_look_sign.mono (by decide)) hr (pass1 cx1_body) (pa_cons (pv 0) pa_nil)))
   (pss_cons (ps_set (i:=2) sc_power.nd rfl (Or.inl rfl) pe_int)
   (pss_cons (ps_set (i:=3) sc_power.nd rfl (Or.inl rfl) (pv 0))
   (pss_cons (ps_set (i:=4) sc_power.nd rfl (Or.inl rfl) (pv 1))
   (pss_cons (PS.nox (ps_while PassesOwn.never (pt_cmpR op_gt (pv 4) pe_int (nomark _))
    (pss_cons (ps_if (pt_cmpR op_eq (pe_op op_mod (pv 4) pe_int) pe_int (nomark _))
     (pss_one (ps_set (i:=2) sc_power.nd rfl (Or.inl rfl) (pe_op op_mod (pe_op op_mul (pv 2) (pv 3)) (pe_gint T.cSIGNS))))
     (pss_nil))
    (pss_cons (ps_set (i:=3) sc_power.nd rfl (Or.inl rfl) (pe_op op_mod (pe_op op_mul (pv 3) (pv 3)) (pe_gint T.cSIGNS)))
    (pss_one (ps_set (i:=4) sc_power.nd rfl (Or.inl rfl) (pe_op op_fdiv (pv 4) pe_int)))))))
   (pss_one (ps_ret (pv 2))))))),?_⟩
  refine ⟨_,rfl,a,rfl,hb,fun h0=>?_,fun h0=>q2 h0⟩
  refine ⟨_,rfl,?_⟩
  refine ⟨_,rfl,?_⟩
  refine while_by (fun σ H'=>∃ p q l:Int,σ=[some (.int a),some (.int k),some (.int p),some (.int q),some (.int l)]∧H'=H∧0≤p∧p < 97∧0≤q∧q < 97∧0≤l∧p * q ^ l.toNat % 97=My.P a k) mu_power ⟨1,a,k,rfl,rfl,by decide,by decide,h0.1,h0.2,k0,My.halve_start⟩ ?_ ?_
  ·rintro σ H' ⟨p,q,l,rfl,rfl,p0,p1,q0,q1',l0,hh⟩
   refine ⟨_,rfl,_,_,rfl,rfl,_,rfl,?_⟩
   refine ite2 (fun h=>?_) (fun h=>?_)
   ·have hl:0 < l:=of_decide_eq_true h
    have mlt:(l / 2).toNat < l.toNat:=by omega
    refine ⟨_,rfl,_,_,rfl,rfl,(by show (0:Int) < 2;decide),rfl,_,rfl,?_⟩
    refine ite2 (fun h2=>?_) (fun h2=>?_)
    ·have ho:l % 2=1:=V.int.inj (of_decide_eq_true h2)
     refine ⟨_,rfl,_,rfl,_,_,rfl,rfl,.inl ⟨by omega,by omega⟩,_,_,rfl,rfl,(by show (0:Int) < 97;decide),?_⟩
     refine ⟨_,rfl,_,rfl,_,_,rfl,rfl,.inl ⟨by omega,by omega⟩,_,_,rfl,rfl,(by show (0:Int) < 97;decide),?_⟩
     refine ⟨_,rfl,_,_,rfl,rfl,⟨by decide,by decide⟩,?_⟩
     exact ⟨⟨_,_,_,rfl,rfl,Int.emod_nonneg _ (by decide),Int.emod_lt_of_pos _ (by decide),Int.emod_nonneg _ (by decide),Int.emod_lt_of_pos _ (by decide),by omega,My.halve_odd hl ho hh⟩,mlt⟩
    ·have ho:l % 2≠1:=fun z=>h2 (decide_eq_true (congrArg V.int z))
     refine ⟨_,rfl,_,rfl,_,_,rfl,rfl,.inl ⟨by omega,by omega⟩,_,_,rfl,rfl,(by show (0:Int) < 97;decide),?_⟩
     refine ⟨_,rfl,_,_,rfl,rfl,⟨by decide,by decide⟩,?_⟩
     exact ⟨⟨_,_,_,rfl,rfl,p0,p1,Int.emod_nonneg _ (by decide),Int.emod_lt_of_pos _ (by decide),by omega,My.halve_even hl ho hh⟩,mlt⟩
   ·have hl:¬ 0 < l:=fun z=>h (decide_eq_true z)
    refine ⟨_,rfl,?_⟩
    rw [My.halve_end (by omega) p0 p1 hh]
    exact q1 h0
  ·rintro σ H' Q1 Q2 hm ⟨v,e,i,j,ei,ej,k,ek,q⟩
   exact ⟨v,e,i,j,ei,ej,k,ek,hm _ _ q⟩
def sp_inverse (C:Addr):Sp:=fun vs H Q E=>∃ a:Int,vs=[.int a]∧a.natAbs < 2 ^ 1000∧(0 < a∧a < 97→Q (.int (My.P a 95)) H)∧(¬ (0 < a∧a < 97)→E (.ref C) none H)
theorem sc_inverse:FnScope ["a"] ["a"] (defScope s_inverse):=⟨rfl,rfl,rfl,by decide +kernel,rfl,by decide +kernel,by decide +kernel⟩
theorem ok_inverse (F:Site K mg "inverse" s_inverse) (T:Txt K mg t) (D_look_unit:Def P w K mg base 3 "look_unit" ["number"] (sp_look_unit t.BadSign)) (D_power:Def P w K mg base 3 "power" ["a","k"] (sp_power t.BadSign)):Def P w K mg base 4 "inverse" ["a"] (sp_inverse t.BadSign):=by
 refine F.def sc_inverse (fun _ _ _ _ _ _ us hl=>match us,hl with | [_],_=>rfl) (fun vs H Q E h=>?_) (fun f cdv A outer s H vs Q E hr h=>?_)
 ·obtain ⟨a,rfl,_⟩:=h
  rfl
 ·obtain ⟨a,rfl,hb,q1,q2⟩:=h
  refine ⟨_,pss_cons (ps_expr (pe_def (D_look_unit.mono (by decide)) hr (pass1 cx1_body) (pa_cons (pv 0) pa_nil)))
   (pss_one (ps_ret (pe_def (D_power.mono (by decide)) hr (pass1 cx1_body) (pa_cons (pv 0) (pa_cons (pe_op op_sub (pe_gint T.cSIGNS) pe_int) pa_nil))))),?_⟩
  refine ⟨_,rfl,a,rfl,hb,fun h0=>?_,fun h0=>q2 h0⟩
  refine ⟨_,rfl,_,_,rfl,rfl,a,95,rfl,hb,by decide,fun _=>q1 h0,fun h1=>absurd ⟨by omega,h0.2⟩ h1⟩
def sp_exponent (C:Addr):Sp:=fun vs H Q E=>∃ n:Int,vs=[.int n]∧n.natAbs < 2 ^ 1000∧(0 < n∧n < 97→Q (.int (My.ex n)) H)∧(¬ (0 < n∧n < 97)→E (.ref C) none H)
theorem sc_exponent:FnScope ["a","steps","reached"] ["a"] (defScope s_exponent):=⟨rfl,rfl,rfl,by decide +kernel,rfl,by decide +kernel,by decide +kernel⟩
def muExp:L2.St→Hp→Nat:=fun σ _=>match σ with
 | [_,some (.int s),_]=>(100 - s).toNat
 | _=>0
theorem ok_exponent (F:Site K mg "exponent" s_exponent) (T:Txt K mg t) (D3:Def P w K mg base 3 "look_unit" ["number"] (sp_look_unit t.BadSign)):Def P w K mg base 4 "exponent" ["a"] (sp_exponent t.BadSign):=by
 refine F.def sc_exponent (fun _ _ _ _ _ _ us hl=>match us,hl with | [_],_=>rfl) (fun vs H Q E h=>?_) (fun f cdv A outer s H vs Q E hr h=>?_)
 ·obtain ⟨n,rfl,_⟩:=h
  rfl
 ·obtain ⟨a,rfl,hb,q1,q2⟩:=h
  refine ⟨_,pss_cons (ps_expr (pe_def D3 hr (pass1 cx1_body) (pa_cons (pv 0) pa_nil)))
   (pss_cons (ps_set (i:=1) sc_exponent.nd rfl (Or.inl rfl) pe_int)
   (pss_cons (ps_set (i:=2) sc_exponent.nd rfl (Or.inl rfl) pe_int)
   (pss_cons (PS.nox (ps_while PassesOwn.never (pt_cmpR op_ne (pv 2) (pv 0) (nomark _))
    (pss_cons (ps_set (i:=2) sc_exponent.nd rfl (Or.inl rfl) (pe_op op_mod (pe_op op_mul (pv 2) (pe_gint T.cROOT)) (pe_gint T.cSIGNS)))
    (pss_one (ps_set (i:=1) sc_exponent.nd rfl (Or.inl rfl) (pe_op op_add (pv 1) pe_int))))))
   (pss_one (ps_ret (pv 1)))))),?_⟩
  refine ⟨_,rfl,a,rfl,hb,fun h0=>?_,fun h0=>q2 h0⟩
  refine while_by (fun σ H'=>∃ st:Int,σ=[some (.int a),some (.int st),some (.int (My.up st))]∧H'=H∧0≤st∧st≤My.ex a) muExp ⟨0,by rw [My.up_zero];rfl,rfl,Int.le_refl _,My.ex_lo a⟩ ?_ ?_
  ·rintro σ H' ⟨st,rfl,rfl,s0,s1⟩
   refine ⟨_,rfl,_,rfl,rfl,_,rfl,?_⟩
   have he:=My.ex_hi h0.1 h0.2
   by_cases z:My.up st=a
   ·have e:decide (V.int (My.up st)=V.int a)=true:=decide_eq_true (by rw [z])
    rw [e]
    refine iteF ⟨_,rfl,?_⟩
    have es:st=My.ex a:=by
     by_cases l:st < My.ex a
     ·exact absurd z (My.up_ne h0.1 h0.2 s0 l)
     ·omega
    rw [es]
    exact q1 h0
   ·have e:decide (V.int (My.up st)=V.int a)=false:=decide_eq_false fun q=>z (V.int.inj q)
    rw [e]
    refine iteT ?_
    have u0:0≤My.up st:=Int.emod_nonneg _ (by decide)
    have u1:My.up st < 97:=Int.emod_lt_of_pos _ (by decide)
    refine ⟨_,rfl,_,_,rfl,rfl,.inl ⟨by omega,by omega⟩,_,_,rfl,rfl,(by show (0:Int) < 97;decide),_,rfl,_,_,rfl,rfl,?_⟩
    have hne:st≠My.ex a:=fun q=>z (by rw [q];exact My.up_ex h0.1 h0.2)
    refine ⟨⟨st+1,by rw [← My.up_turn s0 rfl];rfl,rfl,by omega,by omega⟩,?_⟩
    show (100 - (st+1)).toNat < (100 - st).toNat
    omega
  ·rintro σ H' Q1 Q2 hm ⟨v,e,u,e2,hs,k,ek,q⟩
   exact ⟨v,e,u,e2,hs,k,ek,hm _ _ q⟩
def sp_value_at (K:PySem.W.Frag):Sp:=fun vs H Q _=>∃ (l:Addr) (n:Nat) (f:Nat→Int) (x:Int),vs=[.ref l,.int x]∧SqL K H l (tabI n f)∧Q (.int (My.T x n f)) H
theorem tab_rev {n:Nat} {f:Nat→V} {i:Nat} {x:V} (h:(tabV n f).reverse[i]?=some x):i < n∧x=f (n - 1 - i):=by
 have hi:i < n:=by
  have:=(List.getElem?_eq_some_iff.mp h).1
  rwa [List.length_reverse,tab_len] at this
 rw [List.getElem?_reverse (by rw [tab_len];exact hi),tab_len,tab_get (by omega)] at h
 exact ⟨hi,(Option.some.inj h).symm⟩
theorem sc_value_at:FnScope ["signs","point","value","sign"] ["signs","point"] (defScope s_value_at):=⟨rfl,rfl,rfl,by decide +kernel,rfl,by decide +kernel,by decide +kernel⟩
theorem ok_value_at (F:Site K mg "value_at" s_value_at) (T:Txt K mg t):Def P w K mg base 1 "value_at" ["signs","point"] (sp_value_at K):=by
 refine F.def sc_value_at (fun _ _ _ _ _ _ us hl=>match us,hl with | [_,_],_=>rfl) (fun vs H Q E h=>?_) (fun f cdv A outer s H vs Q E hr h=>?_)
 ·obtain ⟨l,n,f,x,rfl,_⟩:=h
  rfl
 ·obtain ⟨l,n,f,x,rfl,hl,q⟩:=h
  refine ⟨_,pss_cons (ps_set (i:=2) sc_value_at.nd rfl (Or.inl rfl) pe_int)
   (pss_cons (PS.nox (ps_for PassesOwn.never rfl (pi_reversedK K (by rfl) T.n_reversed (pa_cons (pv 0) pa_nil)) (pg_name (i:=3) sc_value_at.nd rfl (Or.inl rfl))
    (pss_one (ps_set (i:=2) sc_value_at.nd rfl (Or.inl rfl) (pe_op op_mod (pe_op op_add (pe_op op_mul (pv 2) (pv 1)) (pv 3)) (pe_gint T.cSIGNS))))))
   (pss_one (ps_ret (pv 2)))),?_⟩
  refine ⟨_,rfl,l,_,rfl,hl,for_rev (K:=K) (a:=l) (xs:=tabI n f) (fun i σ H'=>∃ v:Option V,σ=[some (.ref l),some (.int x),some (.int (My.hv f n x i)),v]∧H'=H) ⟨none,rfl,rfl⟩ (fun i σ H' _ ⟨_,_,e⟩=>by rw [e];exact hl) ?_ ?_⟩
  ·rintro i y σ H' hi ⟨v,rfl,rfl⟩
   obtain ⟨hi2,rfl⟩:=tab_rev hi
   have h0:=My.hv_lo f n x i
   have h1:=My.hv_hi f n x i
   refine ⟨_,rfl,_,rfl,_,_,rfl,rfl,.inl ⟨by omega,by omega⟩,_,rfl,_,_,rfl,rfl,_,_,rfl,rfl,(by show (0:Int) < 97;decide),?_⟩
   exact ⟨_,rfl,rfl⟩
  ·rintro σ H' ⟨v,rfl,rfl⟩
   refine ⟨_,rfl,?_⟩
   rw [tab_len,My.hv_T]
   exact q
def sp_troubles (K:PySem.W.Frag):Sp:=fun vs H Q _=>∃ (l:Addr) (f:Nat→Int),vs=[.ref l]∧SqL K H l (tabI 24 f)∧IsCell 24 f ∧
 ∀ p H',H p=none→Same H H'→H' p=some (.lst (tabI 6 fun j=>My.T (My.St j) 24 f))→Q (.ref p) H'
theorem sc_troubles:FnScope ["cell"] ["cell"] (defScope s_troubles):=⟨rfl,rfl,rfl,by decide +kernel,rfl,by decide +kernel,by decide +kernel⟩
theorem ok_troubles (F:Site K mg "troubles" s_troubles) (T:Txt K mg t) (D_look_cell:Def P w K mg base 3 "look_cell" ["cell"] (sp_look_cell K t.BadCell)) (D_value_at:Def P w K mg base 1 "value_at" ["signs","point"] (sp_value_at K)) (D_power:Def P w K mg base 3 "power" ["a","k"] (sp_power t.BadSign)) :
  Def P w K mg base 4 "troubles" ["cell"] (sp_troubles K):=by
 refine F.def sc_troubles (fun _ _ _ _ _ _ us hl=>match us,hl with | [_],_=>rfl) (fun vs H Q E h=>?_) (fun f cdv A outer s H vs Q E hr h=>?_)
 ·obtain ⟨l,f,rfl,_⟩:=h
  rfl
 ·obtain ⟨l,f,rfl,hl,cf,q⟩:=h
  refine ⟨_,pss_cons (ps_expr (pe_def (D_look_cell.mono (by decide)) hr passN (pa_cons (pv 0) pa_nil)))
   (pss_one (ps_ret (pe_lc rfl (Nc:=["j","cell"]) (ix:=[none,some 0]) (cscope (defScope s_troubles) ["cell"] rfl rfl (by decide +kernel)) (pi_range2 (by rfl) T.n_range (pa_cons pe_int (pa_cons (pe_op op_add (pe_gint T.cSUMS) pe_int) pa_nil))) (fun C fp s H=>⟨(pg_name (i:=0) (show (["j","cell"]:List Str).Nodup by decide +kernel) rfl (Or.inl rfl)),pts_nil,(pe_def (D_value_at.mono (by decide)) hr passN (pa_cons (pv 1) (pa_cons (pe_def (D_power.mono (by decide)) hr passN (pa_cons (pe_gint T.cROOT) (pa_cons (pv 0) pa_nil))) pa_nil)))⟩)))),?_⟩
  have hsz:(2000:Nat)≤sizeLine:=by decide
  refine ⟨_,rfl,l,(List.range 24).map f,rfl,by rw [tab_map];exact hl,cf.far,fun _=>?_,fun h=>absurd cf.row h⟩
  refine ⟨_,_,rfl,rfl,1,_,rfl,⟨by decide,by decide,by decide,by decide⟩,fun D hD=>?_⟩
  refine lc_range (lo:=1) (n:=6) (fun i σ H'=>∃ v:Option V,σ=[v,some (.ref l)]∧Same H H'∧H' D=some (.lst (tabI i fun j=>My.T (My.St j) 24 f))) ⟨none,rfl,(Same.refl _).new hD,upd_same⟩ ?_ ?_
  ·rintro i σ H' N hN hi ⟨v,rfl,s1,h1⟩
   refine turn_do ?_
   refine ⟨_,rfl,_,rfl,5,_,rfl,by decide,by omega,fun _=>?_,fun h=>absurd (show (0:Int)≤5∧(5:Int) < 97 by decide) h⟩
   refine ⟨l,24,f,_,rfl,s1.seq hl,?_⟩
   rw [My.St_P i hi]
   refine ⟨_,h1,by rw [tab_len];omega,?_⟩
   exact hN _ _ ⟨_,rfl,s1.put hD,got_one rfl⟩
  ·rintro σ H' ⟨v,rfl,s1,h1⟩
   exact q D H' hD s1 h1
def sealedB (f:Nat→Int):Bool:=decide ((List.range 6).map (fun j=>My.T (My.St j) 24 f)=(List.range 6).map fun _=>(0:Int))
theorem sealedB_iff {f:Nat→Int}:sealedB f=true↔My.Sealed f:=by
 unfold sealedB My.Sealed
 rw [decide_eq_true_iff]
 constructor
 ·intro h j hj
  have:=congrArg (fun l=>l.getD j 0) h
  simp only [tab_range 6 _ j hj] at this
  exact this
 ·intro h
  apply List.map_congr_left
  intro j hj
  exact h j (List.mem_range.mp hj)
theorem sealedB_no {f:Nat→Int} (h:¬ My.Sealed f):sealedB f=false:=by
 rw [Bool.eq_false_iff]
 exact fun z=>h (sealedB_iff.mp z)
def sp_is_sealed (K:PySem.W.Frag):Sp:=fun vs H Q _=>∃ (l:Addr) (f:Nat→Int),vs=[.ref l]∧SqL K H l (tabI 24 f)∧IsCell 24 f∧∀ H',Same H H'→Q (.bl (sealedB f)) H'
theorem sc_is_sealed:FnScope ["cell"] ["cell"] (defScope s_is_sealed):=⟨rfl,rfl,rfl,by decide +kernel,rfl,by decide +kernel,by decide +kernel⟩
theorem ok_is_sealed (F:Site K mg "is_sealed" s_is_sealed) (T:Txt K mg t) (D_troubles:Def P w K mg base 4 "troubles" ["cell"] (sp_troubles K)):Def P w K mg base 5 "is_sealed" ["cell"] (sp_is_sealed K):=by
 refine F.def sc_is_sealed (fun _ _ _ _ _ _ us hl=>match us,hl with | [_],_=>rfl) (fun vs H Q E h=>?_) (fun f cdv A outer s H vs Q E hr h=>?_)
 ·obtain ⟨l,f,rfl,_⟩:=h
  rfl
 ·obtain ⟨l,f,rfl,hl,cf,q⟩:=h
  refine ⟨_,pss_one (ps_ret (pe_cmpR (op_eqIK K (hu16 hr)) (pe_def (D_troubles.mono (by decide)) hr passN (pa_cons (pv 0) pa_nil)) (pe_op op_rep (pe_lst (pa_cons pe_int pa_nil)) (pe_gint T.cSUMS)) (nomark _))),?_⟩
  refine ⟨_,rfl,l,f,rfl,hl,cf,fun p H1 hp s1 h1=>?_⟩
  refine ⟨by show 1≤sizeLine;decide,fun a1 ha1=>?_⟩
  refine ⟨a1,_,_,rfl,rfl,upd_same,by decide,by decide,by decide,fun a2 ha2=>?_⟩
  have s2:=((Same.refl H1).new (o:=.lst [V.int 0]) ha1).new (o:=.lst (List.replicate (6:Int).toNat [V.int 0]).flatten) ha2
  refine ⟨p,a2,_,(List.range 6).map fun _=>0,rfl,rfl,SqL.of (by rw [tab_map];exact s2 _ _ h1),SqL.of (by rw [upd_same];rfl),?_⟩
  exact q _ (s1.trans s2)
def sp_carried (K:PySem.W.Frag):Sp:=fun vs H Q _=>∃ (l:Addr) (r:Nat→Int) (s:Int),vs=[.ref l,.int s]∧SqL K H l (tabI 6 r)∧(∀ k,k < 6→0≤r k∧r k < 97)∧0≤s∧s < 97 ∧
 ∀ p H',H p=none→Same H H'→H' p=some (.lst (tabI 6 fun k=>((if k < 5 then r (k+1) else 0) - (r 0+s) * My.Dv k) % 97))→Q (.ref p) H'
theorem div_tab:([V.int (21),V.int (80),V.int (53),V.int (2),V.int (55),V.int (63)]:List V)=tabI 6 My.Dv:=by rfl
theorem sc_carried:FnScope ["rest","sign","times"] ["rest","sign"] (defScope s_carried):=⟨rfl,rfl,rfl,by decide +kernel,rfl,by decide +kernel,by decide +kernel⟩
theorem ok_carried (F:Site K mg "carried" s_carried) (T:Txt K mg t):Def P w K mg base 1 "carried" ["rest","sign"] (sp_carried K):=by
 refine F.def sc_carried (fun _ _ _ _ _ _ us hl=>match us,hl with | [_,_],_=>rfl) (fun vs H Q E h=>?_) (fun f cdv A outer s H vs Q E hr h=>?_)
 ·obtain ⟨l,r,s,rfl,_⟩:=h
  rfl
 ·obtain ⟨l,r,sg,rfl,hl,br,s0,s1,q⟩:=h
  refine ⟨_,pss_cons (ps_set (i:=2) sc_carried.nd rfl (Or.inr rfl) (pe_op op_add (pe_ix (ix_listK K) (pv 0) pe_int (fun _ _=>rfl)) (pv 1)))
   (pss_one (ps_ret (pe_lc rfl (Nc:=["low","part","times"]) (ix:=[none,none,some 2]) (cscope (defScope s_carried) ["rest","sign","times"] rfl rfl (by decide +kernel)) (pi_ziptK K (by rfl) T.n_zip (pa_cons (pe_op (op_catK K) (pe_slice (sl_listK K) (pv 0) (po_some pe_int) po_none) (pe_lst (pa_cons pe_int pa_nil))) (pa_cons (pe_glob (v:=.ref t.DIVISOR) (by rfl) T.mDIVISOR rfl) pa_nil))) (fun C fp s H=>⟨(pg_twoK K (i:=0) (j:=1) rfl (show (["low","part","times"]:List Str).Nodup by decide +kernel) rfl rfl (Or.inl rfl) (Or.inl rfl)),pts_nil,(pe_op op_mod (pe_op op_sub (pv 0) (pe_op op_mul (pv 2) (pv 1))) (pe_gint T.cSIGNS))⟩)))),?_⟩
  have hsz:(2000:Nat)≤sizeLine:=by decide
  have b0:=br 0 (by decide)
  refine ⟨_,rfl,l,_,_,_,rfl,rfl,hl,tab_at (n:=6) (by decide) (by decide),_,rfl,_,_,rfl,rfl,?_⟩
  refine ⟨_,rfl,_,rfl,l,_,rfl,hl,fun p1 hp1=>?_⟩
  rw [show cutV (tabI 6 r) (some 1) none=tabI 5 fun k=>r (1+k) from tab_cut_lo (lo:=1) (n:=6) (by decide)]
  have t1:=(Same.refl H).new (o:=.lst (tabI 5 fun k=>r (1+k))) hp1
  refine ⟨by show 1≤sizeLine;decide,fun p2 hp2=>?_⟩
  have n12:p1≠p2:=ne_of_none upd_same hp2
  have t2:=t1.new (o:=.lst [V.int 0]) hp2
  refine ⟨p1,p2,_,_,rfl,rfl,SqL.of (by rw [upd_ne n12];exact upd_same),SqL.of upd_same,by rw [tab_len];decide,fun p3 hp3=>?_⟩
  have ec:(tabI 5 fun k=>r (1+k)) ++ [V.int 0]=tabI 6 fun k=>if k < 5 then r (k+1) else 0:=by
   rw [tab_snoc]
   refine tab_congr fun k hk=>?_
   by_cases e:k=5
   ·subst e;rfl
   ·rw [if_neg e];dsimp only;rw [if_pos (by omega),Nat.add_comm]
  rw [ec]
  have t3:=t2.new (o:=.lst (tabI 6 fun k=>if k < 5 then r (k+1) else 0)) hp3
  have h3:∀ H0:Hp,(upd H0 p3 (.lst (tabI 6 fun k=>if k < 5 then r (k+1) else 0))) p3=some (.lst (tabI 6 fun k=>if k < 5 then r (k+1) else 0)):=fun _=>upd_same
  refine ⟨p3,t.DIVISOR,rfl,⟨_,SqL.of (h3 _)⟩,⟨_,T.dDIVISOR.sq _⟩,fun D hD=>?_⟩
  have h3':=h3 (upd (upd H p1 (.lst (tabI 5 fun k=>r (1+k)))) p2 (.lst [V.int 0]))
  generalize upd (upd (upd H p1 (.lst (tabI 5 fun k=>r (1+k)))) p2 (.lst [V.int 0])) p3 (.lst (tabI 6 fun k=>if k < 5 then r (k+1) else 0))=H3 at *
  refine lc_zipT (K:=K) (a:=p3) (b:=t.DIVISOR) (xs:=tabI 6 fun k=>if k < 5 then r (k+1) else 0) (ys:=tabI 6 My.Dv) (by rw [tab_len,tab_len]) (fun i σ H'=>∃ v1 v2:Option V,σ=[v1,v2,some (.int (r 0+sg))]∧Same H3 H'∧H' D=some (.lst (tabI i fun k=>((if k < 5 then r (k+1) else 0) - (r 0+sg) * My.Dv k) % 97)))
   ⟨none,none,rfl,(Same.refl _).new hD,upd_same⟩ (fun i σ H' _ ⟨_,_,_,s2,_⟩=>⟨SqL.of (s2 _ _ h3'),by rw [← div_tab];exact T.dDIVISOR.sq _⟩) ?_ ?_
  ·rintro i x y pp σ H' N hN hx hy ⟨v1,v2,rfl,s2,h2⟩ hpp
   obtain ⟨hi,rfl⟩:=tab_of hx
   obtain ⟨_,rfl⟩:=tab_of hy
   refine turn_do2 ?_
   have nD:D≠pp:=ne_of_none h2 hpp
   refine ⟨_,rfl,_,rfl,_,rfl,_,_,rfl,rfl,.inl ⟨by omega,by omega⟩,_,_,rfl,rfl,_,_,rfl,rfl,(by show (0:Int) < 97;decide),?_⟩
   refine ⟨_,by rw [upd_ne nD];exact h2,by rw [tab_len];omega,?_⟩
   exact hN _ _ ⟨_,_,rfl,(s2.new hpp).put hD,got_one rfl⟩
  ·rintro σ H' ⟨v1,v2,rfl,s2,h2⟩
   rw [tab_len] at h2
   exact q D H' (t3.free hD) (t3.trans s2) h2
def sp_sealed (K:PySem.W.Frag):Sp:=fun vs H Q _=>∃ (l:Addr) (f:Nat→Int),vs=[.ref l]∧SqL K H l (tabI 18 f)∧IsCell 18 f∧∀ p H',H p=none→Same H H'→H' p=some (.lst (tabI 24 (My.sealI f)))→Q (.ref p) H'
theorem sc_sealed:FnScope ["signs","rest","sign"] ["signs"] (defScope s_sealed):=⟨rfl,rfl,rfl,by decide +kernel,rfl,by decide +kernel,by decide +kernel⟩
theorem ok_sealed (F:Site K mg "sealed" s_sealed) (T:Txt K mg t) (D_look_signs:Def P w K mg base 2 "look_signs" ["signs","many"] (sp_look_signs K t.BadCell)) (D_carried:Def P w K mg base 1 "carried" ["rest","sign"] (sp_carried K)):Def P w K mg base 3 "sealed" ["signs"] (sp_sealed K):=by
 refine F.def sc_sealed (fun _ _ _ _ _ _ us hl=>match us,hl with | [_],_=>rfl) (fun vs H Q E h=>?_) (fun f cdv A outer s H vs Q E hr h=>?_)
 ·obtain ⟨l,f,rfl,_⟩:=h
  rfl
 ·obtain ⟨l,f,rfl,hl,cf,q⟩:=h
  refine ⟨_,pss_cons (ps_expr (pe_def (D_look_signs.mono (by decide)) hr passN (pa_cons (pv 0) (pa_cons (pe_gint T.cFREE_PLACES) pa_nil))))
   (pss_cons (ps_set (i:=1) sc_sealed.nd rfl (Or.inl rfl) (pe_op op_rep (pe_lst (pa_cons pe_int pa_nil)) (pe_gint T.cSUMS)))
   (pss_cons (PS.nox (ps_for PassesOwn.never rfl (pi_listK K (pv 0)) (pg_name (i:=2) sc_sealed.nd rfl (Or.inl rfl))
    (pss_one (ps_set (i:=1) sc_sealed.nd rfl (Or.inl rfl) (pe_def (D_carried.mono (by decide)) hr passN (pa_cons (pv 1) (pa_cons (pv 2) pa_nil)))))))
   (pss_one (ps_ret (pe_op (op_catK K) (pe_callTy (call_listK K) (by rfl) T.n_list boot_list (pa_cons (pv 0) pa_nil)) (pe_lc rfl (Nc:=["part"]) (ix:=[none]) (cscope (defScope s_sealed) ["signs","rest","sign"] rfl rfl (by decide +kernel)) (pi_listK K (pv 1)) (fun C fp s H=>⟨(pg_name (i:=0) (show (["part"]:List Str).Nodup by decide +kernel) rfl (Or.inl rfl)),pts_nil,(pe_op op_mod (pe_un un_neg (pv 0)) (pe_gint T.cSIGNS))⟩))))))),?_⟩
  have hsz:(2000:Nat)≤sizeLine:=by decide
  refine ⟨_,rfl,l,(List.range 18).map f,18,rfl,by rw [tab_map];exact hl,cf.far,by decide,fun _=>?_,fun h=>absurd cf.row h⟩
  refine ⟨by show 1≤sizeLine;decide,fun a1 ha1=>?_⟩
  refine ⟨a1,_,_,rfl,rfl,upd_same,by decide,by decide,by decide,fun a2 ha2=>?_⟩
  have s1:=((Same.refl H).new (o:=.lst [V.int 0]) ha1).new (o:=.lst (List.replicate (6:Int).toNat [V.int 0]).flatten) ha2
  refine ⟨_,rfl,l,rfl,⟨_,s1.seq hl⟩,for_list (K:=K) (a:=l) (xs:=tabI 18 f) (fun i σ H'=>∃ (v:Option V) (p:Addr),σ=[some (.ref l),some (.ref p),v]∧Same H H'∧H' p=some (.lst (tabI 6 (My.rs f i)))) ⟨none,a2,rfl,s1,by rw [upd_same];rfl⟩ (fun i σ H' _ ⟨_,_,_,s2,_⟩=>s2.seq hl) ?_ ?_⟩
  ·rintro i y σ H' hi ⟨v,p,rfl,s2,h2⟩
   obtain ⟨hi2,rfl⟩:=tab_of hi
   have bi:=cf.b i hi2
   refine ⟨_,rfl,_,rfl,p,My.rs f i,f i,rfl,SqL.of h2,fun k _=>⟨My.rs_lo f i k,My.rs_hi f i k⟩,bi.1,bi.2,fun p2 H2 hp2 s3 h3=>?_⟩
   exact ⟨_,p2,rfl,s2.trans s3,h3⟩
  ·rintro σ H' ⟨v,p,rfl,s2,h2⟩
   rw [tab_len] at h2
   refine ⟨_,rfl,l,_,rfl,.inl (s2.seq hl),fun b1 hb1=>?_⟩
   have s3:=(Same.refl H').new (o:=.lst (tabI 18 f)) hb1
   refine ⟨_,rfl,p,rfl,⟨_,SqL.of (s3 _ _ h2)⟩,fun D hD=>?_⟩
   have nD:b1≠D:=ne_of_none upd_same hD
   refine lc_tab (K:=K) (a:=p) (n:=6) (F:=fun k=>V.int (My.rs f 18 k)) (fun i σ H4=>∃ v:Option V,σ=[v]∧Same (upd H' b1 (.lst (tabI 18 f))) H4∧H4 D=some (.lst (tabI i fun k=>-(My.rs f 18 k) % 97))) ⟨none,rfl,(Same.refl _).new hD,upd_same⟩ (fun i σ H4 _ ⟨_,_,s4,_⟩=>SqL.of (s4 _ _ (s3 _ _ h2))) ?_ ?_
   ·rintro i σ H4 N hN hi ⟨v,rfl,s4,h4⟩
    refine turn_do ?_
    refine ⟨_,rfl,_,rfl,_,_,rfl,rfl,(by show (0:Int) < 97;decide),?_⟩
    refine ⟨_,h4,by rw [tab_len];omega,?_⟩
    exact hN _ _ ⟨_,rfl,s4.put hD,got_one rfl⟩
   ·rintro σ H4 ⟨v,rfl,s4,h4⟩
    refine ⟨b1,D,_,_,rfl,rfl,SqL.of (s4 _ _ upd_same),SqL.of h4,by rw [tab_len,tab_len];decide,fun c1 hc1=>?_⟩
    have s5:=((s2.trans s3).trans s4)
    refine q c1 _ (s5.free hc1) (s5.new hc1) ?_
    rw [upd_same,tab_cat]
    refine congrArg (fun z=>some (HO.lst z)) (tab_congr fun i hi=>?_)
    unfold My.sealI
    split <;> rfl
end
end K34
namespace K34
open PySem L2 PyProof.Rows
section
variable {P:Program} {w:World} {K:PySem.W.Frag} {mg:Str→Option Value} {base:Heap} {t:Ad}
def sp_look_late (C:Addr):Sp:=fun vs H Q E=>∃ n:Int,vs=[.int n]∧n.natAbs < 2 ^ 1000∧(1≤n∧n≤6→Q .non H)∧(¬ (1≤n∧n≤6)→E (.ref C) none H)
theorem sc_look_late:FnScope ["late"] ["late"] (defScope s_look_late):=⟨rfl,rfl,rfl,by decide +kernel,rfl,by decide +kernel,by decide +kernel⟩
theorem ok_look_late (F:Site K mg "look_late" s_look_late) (T:Txt K mg t):Def P w K mg base 1 "look_late" ["late"] (sp_look_late t.BadMeasure):=by
 refine F.def sc_look_late (fun _ _ _ _ _ _ us hl=>match us,hl with | [_],_=>rfl) (fun vs H Q E h=>?_) (fun f cdv A outer s H vs Q E hr h=>?_)
 ·obtain ⟨n,rfl,_⟩:=h
  rfl
 ·obtain ⟨n,rfl,hb,q1,q2⟩:=h
  refine ⟨_,pss_one (ps_if (pt_not (pt_chain op_le op_le pe_int (pv 0) (pe_gint T.cMOST_LATE)))
    (pss_one (ps_raise cx1_body rfl rfl T.mBadMeasure T.xBadMeasure PySem.F.excBase_ValueError (pa_cons (pe_fstr (pj_cons pe_str (pj_cons (pe_fmtI (pe_gint T.cMOST_LATE)) (pj_cons pe_str (pj_cons (pe_fmtI (pv 0)) pj_nil))))) pa_nil)))
    (pss_nil)),?_⟩
  have sl:(3000:Nat)≤sizeLine:=by decide
  have bad:¬ (1≤n∧n≤6)→_:=fun z=>q2 z
  have l1:("late is from 1 to ":Str).length=18:=by decide +kernel
  have l2:(", not ":Str).length=6:=by decide +kernel
  have z6:=txt_len (i:=6) (by decide)
  have zn:=txt_len hb
  have e0:(Str.empty ++ ("late is from 1 to ":Str)).length≤18:=by rw [strLen_append,l1];show 0+18≤18;omega
  have e1:((Str.empty ++ ("late is from 1 to ":Str)) ++ Str.ofString (toString (6:Int))).length≤1019:=by rw [strLen_append];omega
  have e2:(((Str.empty ++ ("late is from 1 to ":Str)) ++ Str.ofString (toString (6:Int))) ++ (", not ":Str)).length≤1025:=by rw [strLen_append];omega
  have e3:((((Str.empty ++ ("late is from 1 to ":Str)) ++ Str.ofString (toString (6:Int))) ++ (", not ":Str)) ++ Str.ofString (toString n)).length≤2026:=by rw [strLen_append];omega
  refine ⟨_,rfl,_,_,rfl,rfl,_,rfl,?_⟩
  by_cases h1:1≤n
  ·refine iteY h1 ?_
   refine ⟨_,_,rfl,rfl,_,rfl,?_⟩
   by_cases h2:n≤6
   ·rw [decide_eq_true h2]
    exact iteF (q1 ⟨h1,h2⟩)
   ·rw [decide_eq_false h2]
    refine iteT ?_
    refine ⟨_,rfl,by omega,6,rfl,log_lt (n:=1000) (by decide) (by decide) (by decide),_,rfl,by omega,_,rfl,by omega,_,rfl,n,rfl,log_lt hb (by decide) (by decide),_,rfl,by omega,by omega,?_⟩
    exact ⟨by show 1≤sizeLine;decide,q2 (by omega)⟩
  ·refine iteN h1 ⟨_,rfl,iteT ?_⟩
   refine ⟨_,rfl,by omega,6,rfl,log_lt (n:=1000) (by decide) (by decide) (by decide),_,rfl,by omega,_,rfl,by omega,_,rfl,n,rfl,log_lt hb (by decide) (by decide),_,rfl,by omega,by omega,?_⟩
   exact ⟨by show 1≤sizeLine;decide,q2 (by omega)⟩
def sp_look_measure (K:PySem.W.Frag) (C:Addr):Sp:=fun vs H Q E=>∃ (a:Addr) (x y:Int),vs=[.ref a]∧SqT K H a [.int x,.int y]∧x.natAbs < 2 ^ 1000∧y.natAbs < 2 ^ 1000∧((1≤x∧x≤6)∧0≤y∧y≤4→Q .non H)∧(¬ ((1≤x∧x≤6)∧0≤y∧y≤4)→E (.ref C) none H)
theorem sc_look_measure:FnScope ["measure","lost"] ["measure"] (defScope s_look_measure):=⟨rfl,rfl,rfl,by decide +kernel,rfl,by decide +kernel,by decide +kernel⟩
theorem ok_look_measure (F:Site K mg "look_measure" s_look_measure) (T:Txt K mg t) (D_look_late:Def P w K mg base 1 "look_late" ["late"] (sp_look_late t.BadMeasure)):Def P w K mg base 2 "look_measure" ["measure"] (sp_look_measure K t.BadMeasure):=by
 refine F.def sc_look_measure (fun _ _ _ _ _ _ us hl=>match us,hl with | [_],_=>rfl) (fun vs H Q E h=>?_) (fun f cdv A outer s H vs Q E hr h=>?_)
 ·obtain ⟨a,x,y,rfl,_⟩:=h
  rfl
 ·obtain ⟨a,x,n,rfl,ha,hx,hb,q1,q2⟩:=h
  refine ⟨_,pss_cons (ps_expr (pe_def (D_look_late.mono (by decide)) hr (pass1 cx1_body) (pa_cons (pe_ix (ix_tupK K) (pv 0) pe_int (fun _ _=>rfl)) pa_nil)))
   (pss_cons (ps_set (i:=1) sc_look_measure.nd rfl (Or.inl rfl) (pe_ix (ix_tupK K) (pv 0) pe_int (fun _ _=>rfl)))
   (pss_one (ps_if (pt_not (pt_chain op_le op_le pe_int (pv 1) (pe_gint T.cMOST_LOST)))
    (pss_one (ps_raise cx1_body rfl rfl T.mBadMeasure T.xBadMeasure PySem.F.excBase_ValueError (pa_cons (pe_fstr (pj_cons pe_str (pj_cons (pe_fmtI (pe_gint T.cMOST_LOST)) (pj_cons pe_str (pj_cons (pe_fmtI (pv 1)) pj_nil))))) pa_nil)))
    (pss_nil)))),?_⟩
  have sl:(3000:Nat)≤sizeLine:=by decide
  have l1:("lost is from 0 to ":Str).length=18:=by decide +kernel
  have l2:(", not ":Str).length=6:=by decide +kernel
  have z6:=txt_len (i:=4) (by decide)
  have zn:=txt_len hb
  have e0:(Str.empty ++ ("lost is from 0 to ":Str)).length≤18:=by rw [strLen_append,l1];show 0+18≤18;omega
  have e1:((Str.empty ++ ("lost is from 0 to ":Str)) ++ Str.ofString (toString (4:Int))).length≤1019:=by rw [strLen_append];omega
  have e2:(((Str.empty ++ ("lost is from 0 to ":Str)) ++ Str.ofString (toString (4:Int))) ++ (", not ":Str)).length≤1025:=by rw [strLen_append];omega
  have e3:((((Str.empty ++ ("lost is from 0 to ":Str)) ++ Str.ofString (toString (4:Int))) ++ (", not ":Str)) ++ Str.ofString (toString n)).length≤2026:=by rw [strLen_append];omega
  refine ⟨_,rfl,a,_,_,_,rfl,rfl,ha,rfl,x,rfl,hx,fun h0=>?_,fun h0=>q2 fun z=>h0 z.1⟩
  refine ⟨_,rfl,a,_,_,_,rfl,rfl,ha,rfl,?_⟩
  refine ⟨_,rfl,_,_,rfl,rfl,_,rfl,?_⟩
  by_cases h1:0≤n
  ·refine iteY h1 ?_
   refine ⟨_,_,rfl,rfl,_,rfl,?_⟩
   by_cases h2:n≤4
   ·rw [decide_eq_true h2]
    exact iteF (q1 ⟨h0,h1,h2⟩)
   ·rw [decide_eq_false h2]
    refine iteT ?_
    refine ⟨_,rfl,by omega,4,rfl,log_lt (n:=1000) (by decide) (by decide) (by decide),_,rfl,by omega,_,rfl,by omega,_,rfl,n,rfl,log_lt hb (by decide) (by decide),_,rfl,by omega,by omega,?_⟩
    exact ⟨by show 1≤sizeLine;decide,q2 (by omega)⟩
  ·refine iteN h1 ⟨_,rfl,iteT ?_⟩
   refine ⟨_,rfl,by omega,4,rfl,log_lt (n:=1000) (by decide) (by decide) (by decide),_,rfl,by omega,_,rfl,by omega,_,rfl,n,rfl,log_lt hb (by decide) (by decide),_,rfl,by omega,by omega,?_⟩
   exact ⟨by show 1≤sizeLine;decide,q2 (by omega)⟩
def Msr (x y:Int):Prop:=(1≤x∧x≤6)∧0≤y∧y≤4
def sp_quiet_of (K:PySem.W.Frag) (C:Addr):Sp:=fun vs H Q E=>∃ (a:Addr) (x y:Int),vs=[.ref a]∧SqT K H a [.int x,.int y]∧x.natAbs < 2 ^ 1000∧y.natAbs < 2 ^ 1000∧(Msr x y→Q (.int (x+y)) H)∧(¬ Msr x y→E (.ref C) none H)
theorem sc_quiet_of:FnScope ["measure"] ["measure"] (defScope s_quiet_of):=⟨rfl,rfl,rfl,by decide +kernel,rfl,by decide +kernel,by decide +kernel⟩
theorem ok_quiet_of (F:Site K mg "quiet_of" s_quiet_of) (T:Txt K mg t) (D_look_measure:Def P w K mg base 2 "look_measure" ["measure"] (sp_look_measure K t.BadMeasure)):Def P w K mg base 3 "quiet_of" ["measure"] (sp_quiet_of K t.BadMeasure):=by
 refine F.def sc_quiet_of (fun _ _ _ _ _ _ us hl=>match us,hl with | [_],_=>rfl) (fun vs H Q E h=>?_) (fun f cdv A outer s H vs Q E hr h=>?_)
 ·obtain ⟨a,x,y,rfl,_⟩:=h
  rfl
 ·obtain ⟨a,x,y,rfl,ha,hx,hy,q1,q2⟩:=h
  refine ⟨_,pss_cons (ps_expr (pe_def (D_look_measure.mono (by decide)) hr (pass1 cx1_body) (pa_cons (pv 0) pa_nil)))
   (pss_one (ps_ret (pe_op op_add (pe_ix (ix_tupK K) (pv 0) pe_int (fun _ _=>rfl)) (pe_ix (ix_tupK K) (pv 0) pe_int (fun _ _=>rfl))))),?_⟩
  refine ⟨_,rfl,a,x,y,rfl,ha,hx,hy,fun h0=>?_,fun h0=>q2 h0⟩
  refine ⟨_,rfl,a,_,_,_,rfl,rfl,ha,rfl,?_⟩
  refine ⟨_,rfl,a,_,_,_,rfl,rfl,ha,rfl,_,_,rfl,rfl,?_⟩
  exact q1 h0
end
end K34
namespace K34
open PySem L2 PyProof.Rows
section
variable {P:Program} {w:World} {K:PySem.W.Frag} {mg:Str→Option Value} {base:Heap} {t:Ad}
def sp_equation (K:PySem.W.Frag):Sp:=fun vs H Q _=>∃ (l:Addr) (n:Nat) (f:Nat→Int) (z:Int),vs=[.ref l,.int z]∧SqL K H l (tabI n f)∧n≤1000 ∧
 ∀ p H',H p=none→Same H H'→H' p=some (.lst (tabI (n+1) fun j=>(if j < n then f j else z) % 97))→Q (.ref p) H'
theorem sc_equation:FnScope ["row","side"] ["row","side"] (defScope s_equation):=⟨rfl,rfl,rfl,by decide +kernel,rfl,by decide +kernel,by decide +kernel⟩
theorem ok_equation (F:Site K mg "equation" s_equation) (T:Txt K mg t):Def P w K mg base 1 "equation" ["row","side"] (sp_equation K):=by
 refine F.def sc_equation (fun _ _ _ _ _ _ us hl=>match us,hl with | [_,_],_=>rfl) (fun vs H Q E h=>?_) (fun f cdv A outer s H vs Q E hr h=>?_)
 ·obtain ⟨l,n,f,z,rfl,_⟩:=h
  rfl
 ·obtain ⟨l,n,f',z,rfl,hl,hn,q⟩:=h
  refine ⟨_,pss_one (ps_ret (pe_op (op_catK K) (pe_lc rfl (Nc:=["sign"]) (ix:=[none]) (cscope (defScope s_equation) ["row","side"] rfl rfl (by decide +kernel)) (pi_listK K (pv 0)) (fun C fp s H=>⟨(pg_name (i:=0) (show (["sign"]:List Str).Nodup by decide +kernel) rfl (Or.inl rfl)),pts_nil,(pe_op op_mod (pv 0) (pe_gint T.cSIGNS))⟩)) (pe_lst (pa_cons (pe_op op_mod (pv 1) (pe_gint T.cSIGNS)) pa_nil)))),?_⟩
  have hsz:(2000:Nat)≤sizeLine:=by decide
  refine ⟨_,rfl,l,rfl,⟨_,hl⟩,fun D hD=>?_⟩
  refine lc_tab (K:=K) (a:=l) (n:=n) (F:=fun j=>V.int (f' j)) (fun i σ H'=>∃ v:Option V,σ=[v]∧Same H H'∧H' D=some (.lst (tabI i fun j=>f' j % 97))) ⟨none,rfl,(Same.refl _).new hD,upd_same⟩ (fun i σ H' _ ⟨_,_,s1,_⟩=>s1.seq hl) ?_ ?_
  ·rintro i σ H' N hN hi ⟨v,rfl,s1,h1⟩
   refine turn_do ?_
   refine ⟨_,rfl,_,_,rfl,rfl,(by show (0:Int) < 97;decide),_,h1,by rw [tab_len];omega,?_⟩
   exact hN _ _ ⟨_,rfl,s1.put hD,got_one rfl⟩
  ·rintro σ H' ⟨v,rfl,s1,h1⟩
   refine ⟨_,rfl,_,_,rfl,rfl,(by show (0:Int) < 97;decide),by show 1≤sizeLine;decide,fun p2 hp2=>?_⟩
   have n2:D≠p2:=ne_of_none h1 hp2
   have s2:=s1.new (o:=.lst [V.int (z % 97)]) hp2
   refine ⟨D,p2,_,_,rfl,rfl,SqL.of (by rw [upd_ne n2];exact h1),SqL.of upd_same,by rw [tab_len];show n+1≤sizeLine;omega,fun p3 hp3=>?_⟩
   refine q p3 _ (s2.free hp3) (s2.new hp3) ?_
   have e3:tabI (n+1) (fun j=>(if j < n then f' j else z) % 97)=tabI n (fun j=>f' j % 97) ++ [V.int (z % 97)]:=by
    refine (tab_succ n _).trans ?_
    rw [show tabV n (fun j=>V.int ((if j < n then f' j else z) % 97))=tabI n fun j=>f' j % 97 from tab_congr fun i hi=>by rw [if_pos hi]]
    show _ ++ [V.int ((if n < n then f' n else z) % 97)]=_
    rw [if_neg (Nat.lt_irrefl n)]
   rw [upd_same,e3]
def sp_pivot_place (K:PySem.W.Frag):Sp:=fun vs H Q _=>∃ (l:Addr) (m n c:Nat) (a:My.Mat),vs=[.ref l,.int c]∧Grid K H l m n a∧c < n∧c≤m∧m≤1000∧n≤1000 ∧
 (∀ i:Nat,c≤i→i < m→a i c≠0→(∀ k,c≤k→k < i→a k c=0)→Q (.int i) H)∧((∀ i,c≤i→i < m→a i c=0)→Q .non H)
theorem sc_pivot_place:FnScope ["table","column","place"] ["table","column"] (defScope s_pivot_place):=⟨rfl,rfl,rfl,by decide +kernel,rfl,by decide +kernel,by decide +kernel⟩
theorem ok_pivot_place (F:Site K mg "pivot_place" s_pivot_place) (T:Txt K mg t):Def P w K mg base 1 "pivot_place" ["table","column"] (sp_pivot_place K):=by
 refine F.def sc_pivot_place (fun _ _ _ _ _ _ us hl=>match us,hl with | [_,_],_=>rfl) (fun vs H Q E h=>?_) (fun f cdv A outer s H vs Q E hr h=>?_)
 ·obtain ⟨l,m,n,c,a,rfl,_⟩:=h
  rfl
 ·obtain ⟨l,m,n,c,a,rfl,⟨as,g1,g2⟩,hc,hcm,hm,hn,q1,q2⟩:=h
  refine ⟨_,pss_cons (PS.nox (ps_for PassesOwn.never rfl (pi_range2 (by rfl) T.n_range (pa_cons (pv 1) (pa_cons (pe_callB (call_lenK K) (by rfl) T.n_len boot_len (pa_cons (pv 0) pa_nil)) pa_nil))) (pg_name (i:=2) sc_pivot_place.nd rfl (Or.inl rfl))
    (pss_one (ps_if (pt_cmpR op_ne (pe_ix (ix_listK K) (pe_ix (ix_listK K) (pv 0) (pv 2) (fun _ _=>rfl)) (pv 1) (fun _ _=>rfl)) pe_int (nomark _))
     (pss_one (ps_ret (pv 2)))
     (pss_nil)))))
   (pss_one (ps_ret pe_non)),?_⟩
  refine ⟨_,rfl,_,rfl,l,_,rfl,.inl g1,(c:Int),((tabR m as).length:Nat),rfl,⟨by omega,by omega,by omega,by rw [tab_len];omega⟩,?_⟩
  have en:((((tabR m as).length:Nat):Int) - (c:Int)).toNat=m - c:=by rw [tab_len];omega
  rw [en]
  refine for_range (lo:=(c:Int)) (n:=m - c) (fun i σ H'=>∃ v:Option V,σ=[some (.ref l),some (.int c),v]∧H'=H∧∀ k,c≤k→k < c+i→a k c=0) ⟨none,rfl,rfl,fun k h1 h2=>by omega⟩ ?_ ?_
  ·rintro i σ H' hi ⟨v,rfl,rfl,hz⟩
   have ei:((c:Int)+(i:Nat)).toNat=c+i:=by omega
   refine ⟨_,rfl,_,rfl,l,_,_,_,rfl,rfl,g1,tab_at (by omega) (by omega),_,rfl,_,_,_,_,rfl,rfl,g2 _ (by omega),tab_at (by omega) (by omega),rfl,_,rfl,?_⟩
   by_cases z:a (c+i) c=0
   ·refine iteNN (by rw [ei,Int.toNat_natCast,z]) ?_
    refine ⟨_,rfl,rfl,fun k h1 h2=>?_⟩
    by_cases e:k=c+i
    ·rw [e];exact z
    ·exact hz k h1 (by omega)
   ·refine iteNY (fun e=>z (by have:=V.int.inj e;rwa [ei,Int.toNat_natCast] at this)) ?_
    refine ⟨_,rfl,?_⟩
    have:=q1 (c+i) (by omega) (by omega) z hz
    have e:((c+i:Nat):Int)=(c:Int)+(i:Nat):=by omega
    rw [e] at this
    exact this
  ·rintro σ H' ⟨v,rfl,rfl,hz⟩
   exact q2 fun i h1 h2=>hz i h1 (by omega)
def sp_exchanged (K:PySem.W.Frag):Sp:=fun vs H Q _=>∃ (l:Addr) (m n c d:Nat) (a:My.Mat),vs=[.ref l,.int c,.int d]∧Grid K H l m n a∧c < m∧d < m∧m≤1000 ∧
 ∀ p H',H p=none→Same H H'→Grid K H' p m n (My.swap a c d)→Q (.ref p) H'
theorem sc_exchanged:FnScope ["table","one","other","rows"] ["table","one","other"] (defScope s_exchanged):=⟨rfl,rfl,rfl,by decide +kernel,rfl,by decide +kernel,by decide +kernel⟩
theorem ok_exchanged (F:Site K mg "exchanged" s_exchanged) (T:Txt K mg t):Def P w K mg base 1 "exchanged" ["table","one","other"] (sp_exchanged K):=by
 refine F.def sc_exchanged (fun _ _ _ _ _ _ us hl=>match us,hl with | [_,_,_],_=>rfl) (fun vs H Q E h=>?_) (fun f cdv A outer s H vs Q E hr h=>?_)
 ·obtain ⟨l,m,n,c,d,a,rfl,_⟩:=h
  rfl
 ·obtain ⟨l,m,n,c,d,a,rfl,⟨as,g1,g2⟩,hc,hd,hm,q⟩:=h
  refine ⟨_,pss_cons (ps_set (i:=3) sc_exchanged.nd rfl (Or.inl rfl) (pe_callTy (call_listK K) (by rfl) T.n_list boot_list (pa_cons (pv 0) pa_nil)))
   (pss_cons (ps_asg (pe_ix (ix_listK K) (pv 0) (pv 2) (fun _ _=>rfl)) (pg_sub (pv 3) (pv 1) set_list))
   (pss_cons (ps_asg (pe_ix (ix_listK K) (pv 0) (pv 1) (fun _ _=>rfl)) (pg_sub (pv 3) (pv 2) set_list))
   (pss_one (ps_ret (pv 3))))),?_⟩
  refine ⟨_,rfl,l,_,rfl,.inl g1,fun p hp=>?_⟩
  have s1:=(Same.refl H).new (o:=.lst (tabR m as)) hp
  refine ⟨_,rfl,_,rfl,l,_,_,_,rfl,rfl,s1.seq g1,tab_at (by omega) (by omega),_,rfl,_,rfl,p,_,_,_,rfl,rfl,upd_same,tab_ix (by omega) (by omega),?_⟩
  have s2:=s1.put (o:=.lst ((tabR m as).set (c:Int).toNat (V.ref (as (d:Int).toNat)))) hp
  rw [tab_set (by omega)] at *
  refine ⟨_,rfl,_,rfl,l,_,_,_,rfl,rfl,s2.seq g1,tab_at (by omega) (by omega),_,rfl,_,rfl,p,_,_,_,rfl,rfl,upd_same,tab_ix (by omega) (by omega),?_⟩
  rw [tab_set (by omega)]
  refine ⟨_,rfl,?_⟩
  refine q p _ hp (s2.put hp) ⟨fun i=>if i=d then as c else if i=c then as d else as i,SqL.of ?_,fun i hi=>(s2.put hp).seq ?_⟩
  ·rw [upd_same]
   refine congrArg (fun l=>some (HO.lst l)) (tab_congr fun i hi=>?_)
   rw [Int.toNat_natCast,Int.toNat_natCast]
   by_cases e:i=d
   ·simp [e]
   ·by_cases e2:i=c
    ·subst e2
     simp [e]
    ·simp [e,e2]
  ·unfold My.swap
   by_cases e:i=d
   ·subst e
    by_cases e2:i=c
    ·subst e2;simp;exact g2 i hi
    ·simp [e2];exact g2 c hc
   ·by_cases e2:i=c
    ·subst e2;simp [e];exact g2 d hd
    ·simp [e,e2];exact g2 i hi
def sp_lessened (K:PySem.W.Frag):Sp:=fun vs H Q _=>∃ (l b:Addr) (n:Nat) (f g:Nat→Int) (z:Int),vs=[.ref l,.ref b,.int z]∧SqL K H l (tabI n f)∧SqL K H b (tabI n g)∧n≤1000∧0≤z∧z < 97 ∧
 ∀ p H',H p=none→Same H H'→H' p=some (.lst (tabI n fun j=>(f j - z * g j) % 97))→Q (.ref p) H'
theorem sc_lessened:FnScope ["row","head","times"] ["row","head","times"] (defScope s_lessened):=⟨rfl,rfl,rfl,by decide +kernel,rfl,by decide +kernel,by decide +kernel⟩
theorem ok_lessened (F:Site K mg "lessened" s_lessened) (T:Txt K mg t):Def P w K mg base 1 "lessened" ["row","head","times"] (sp_lessened K):=by
 refine F.def sc_lessened (fun _ _ _ _ _ _ us hl=>match us,hl with | [_,_,_],_=>rfl) (fun vs H Q E h=>?_) (fun f cdv A outer s H vs Q E hr h=>?_)
 ·obtain ⟨l,b,n,f,g,z,rfl,_⟩:=h
  rfl
 ·obtain ⟨l,b,n,f',g',z,rfl,hl,hb,hn,z0,z1,q⟩:=h
  refine ⟨_,pss_one (ps_ret (pe_lc rfl (Nc:=["sign","top","times"]) (ix:=[none,none,some 2]) (cscope (defScope s_lessened) ["row","head","times"] rfl rfl (by decide +kernel)) (pi_zipK K (by rfl) T.n_zip (pa_cons (pv 0) (pa_cons (pv 1) pa_nil))) (fun C fp s H=>⟨(pg_twoK K (i:=0) (j:=1) rfl (show (["sign","top","times"]:List Str).Nodup by decide +kernel) rfl rfl (Or.inl rfl) (Or.inl rfl)),pts_nil,(pe_op op_mod (pe_op op_sub (pv 0) (pe_op op_mul (pv 2) (pv 1))) (pe_gint T.cSIGNS))⟩))),?_⟩
  have hsz:(2000:Nat)≤sizeLine:=by decide
  refine ⟨_,rfl,_,rfl,l,b,rfl,⟨_,hl⟩,⟨_,hb⟩,fun D hD=>?_⟩
  refine lc_ztab (K:=K) (a:=l) (b:=b) (n:=n) (F:=fun j=>V.int (f' j)) (G:=fun j=>V.int (g' j)) (fun i σ H'=>∃ v u:Option V,σ=[v,u,some (.int z)]∧Same H H'∧H' D=some (.lst (tabI i fun j=>(f' j - z * g' j) % 97))) ⟨none,none,rfl,(Same.refl _).new hD,upd_same⟩ (fun i σ H' _ ⟨_,_,_,s1,_⟩=>⟨s1.seq hl,s1.seq hb⟩) ?_ ?_
  ·rintro i p σ H' N hN hi ⟨v,u,rfl,s1,h1⟩ hp
   refine turn_do2 ?_
   have nD:D≠p:=ne_of_none h1 hp
   refine ⟨_,rfl,_,rfl,_,rfl,_,_,rfl,rfl,.inl ⟨by omega,by omega⟩,_,_,rfl,rfl,_,_,rfl,rfl,(by show (0:Int) < 97;decide),_,(by rw [upd_ne nD];exact h1),by rw [tab_len];omega,?_⟩
   exact hN _ _ ⟨_,_,rfl,(s1.new hp).put hD,got_one rfl⟩
  ·rintro σ H' ⟨v,u,rfl,s1,h1⟩
   exact q D H' hD s1 h1
def sp_cleared (K:PySem.W.Frag):Sp:=fun vs H Q _=>∃ (l:Addr) (m n c:Nat) (a:My.Mat),vs=[.ref l,.int c]∧Grid K H l m n a∧c < m∧c < n∧m≤1000∧n≤1000∧(∀ i j,i < m→j < n→0≤a i j∧a i j < 97)∧a c c≠0 ∧
 ∀ p H',H p=none→Same H H'→Grid K H' p m n (My.clear a c (My.P (a c c) 95))→Q (.ref p) H'
theorem sc_cleared:FnScope ["table","column","factor","head","rows"] ["table","column"] (defScope s_cleared):=⟨rfl,rfl,rfl,by decide +kernel,rfl,by decide +kernel,by decide +kernel⟩
theorem ok_cleared (F:Site K mg "cleared" s_cleared) (T:Txt K mg t) (D_inverse:Def P w K mg base 4 "inverse" ["a"] (sp_inverse t.BadSign)) (D_lessened:Def P w K mg base 1 "lessened" ["row","head","times"] (sp_lessened K)):Def P w K mg base 5 "cleared" ["table","column"] (sp_cleared K):=by
 refine F.def sc_cleared (fun _ _ _ _ _ _ us hl=>match us,hl with | [_,_],_=>rfl) (fun vs H Q E h=>?_) (fun f cdv A outer s H vs Q E hr h=>?_)
 ·obtain ⟨l,m,n,c,a,rfl,_⟩:=h
  rfl
 ·obtain ⟨l,m,n,c,a,rfl,⟨as,g1,g2⟩,hcm,hcn,hm,hn,ha,h0,q⟩:=h
  refine ⟨_,pss_cons (ps_set (i:=2) sc_cleared.nd rfl (Or.inr rfl) (pe_def (D_inverse.mono (by decide)) hr (pass1 cx1_body) (pa_cons (pe_ix (ix_listK K) (pe_ix (ix_listK K) (pv 0) (pv 1) (fun _ _=>rfl)) (pv 1) (fun _ _=>rfl)) pa_nil)))
   (pss_cons (ps_set (i:=3) sc_cleared.nd rfl (Or.inr rfl) (pe_lc rfl (Nc:=["sign","factor"]) (ix:=[none,some 2]) (cscope (defScope s_cleared) ["table","column","factor","head","rows"] rfl rfl (by decide +kernel)) (pi_listK K (pe_ix (ix_listK K) (pv 0) (pv 1) (fun _ _=>rfl))) (fun C fp s H=>⟨(pg_name (i:=0) (show (["sign","factor"]:List Str).Nodup by decide +kernel) rfl (Or.inl rfl)),pts_nil,(pe_op op_mod (pe_op op_mul (pv 0) (pv 1)) (pe_gint T.cSIGNS))⟩)))
   (pss_cons (ps_setLC (i:=4) sc_cleared.nd rfl (Or.inl rfl) rfl (Nc:=["row","head","column"]) (ix:=[none,some 3,some 1]) (cscope (defScope s_cleared) ["table","column","factor","head","rows"] rfl rfl (by decide +kernel)) (pi_listK K (pv 0)) (fun C fp s H=>⟨(pg_name (i:=0) (show (["row","head","column"]:List Str).Nodup by decide +kernel) rfl (Or.inl rfl)),pts_nil,(pe_def (D_lessened.mono (by decide)) hr passN (pa_cons (pv 0) (pa_cons (pv 1) (pa_cons (pe_ix (ix_listK K) (pv 0) (pv 2) (fun _ _=>rfl)) pa_nil))))⟩))
   (pss_cons (ps_asg (pv 3) (pg_sub (pv 4) (pv 1) set_list))
   (pss_one (ps_ret (pv 4)))))),?_⟩
  have hsz:(2000:Nat)≤sizeLine:=by decide
  have ec:((c:Nat):Int).toNat=c:=Int.toNat_natCast c
  have hcc:=ha c c hcm hcn
  refine ⟨_,rfl,_,rfl,l,_,_,_,rfl,rfl,g1,tab_at (by omega) (by omega),_,rfl,_,_,_,_,rfl,rfl,g2 _ (by omega),tab_at (by omega) (by omega),_,rfl,?_,fun _=>?_,fun h=>absurd ?_ h⟩
  ·rw [ec];exact small_abs (by omega) (by omega)
  ·rw [ec]
   have f0:=My.P_lo (a c c) 95
   have f1:=My.P_hi (a c c) 95
   generalize My.P (a c c) 95=fac at *
   refine ⟨_,rfl,_,rfl,l,_,_,_,rfl,rfl,g1,tab_at (by omega) (by omega),_,rfl,⟨_,g2 _ (by omega)⟩,fun D hD=>?_⟩
   rw [ec]
   refine lc_tab (K:=K) (a:=as c) (n:=n) (F:=fun j=>V.int (a c j)) (fun i σ H'=>∃ v:Option V,σ=[v,some (.int fac)]∧Same H H'∧H' D=some (.lst (tabI i fun j=>a c j * fac % 97))) ⟨none,rfl,(Same.refl _).new hD,upd_same⟩ (fun i σ H' _ ⟨_,_,s1,_⟩=>s1.seq (g2 c hcm)) ?_ ?_
   ·rintro i σ H' N hN hi ⟨v,rfl,s1,h1⟩
    have hb:=ha c i hcm hi
    refine turn_do ?_
    refine ⟨_,rfl,_,rfl,_,_,rfl,rfl,.inl ⟨by omega,by omega⟩,_,_,rfl,rfl,(by show (0:Int) < 97;decide),_,h1,by rw [tab_len];omega,?_⟩
    exact hN _ _ ⟨_,rfl,s1.put hD,got_one rfl⟩
   ·rintro σ H1 ⟨v,rfl,s1,h1⟩
    refine ⟨_,rfl,l,rfl,⟨_,s1.seq g1⟩,fun D2 hD2=>?_⟩
    have nDD:D≠D2:=ne_of_none h1 hD2
    refine lc_tab (K:=K) (a:=l) (n:=m) (F:=fun i=>V.ref (as i)) (fun i σ H'=>∃ (v:Option V) (ps:Nat→Addr),σ=[v,some (.ref D),some (.int c)]∧Same H1 H'∧H' D2=some (.lst (tabR i ps))∧∀ k,k < i→SqL K H' (ps k) (tabI n fun j=>(a k j - a k c * (a c j * fac % 97)) % 97)∧ps k≠D2)
     ⟨none,as,rfl,(Same.refl _).new hD2,upd_same,fun k hk=>by omega⟩ (fun i σ H' _ ⟨_,_,_,s2,_⟩=>s2.seq (s1.seq g1)) ?_ ?_
    ·rintro i σ H' N hN hi ⟨v,ps,rfl,s2,h2,hp⟩
     have hb:=ha i c hi hcn
     refine turn_do ?_
     refine ⟨_,rfl,_,rfl,_,rfl,_,rfl,as i,_,_,_,rfl,rfl,s2.seq (s1.seq (g2 i hi)),tab_at (by omega) (by omega),as i,D,n,a i,(fun j=>a c j * fac % 97),_,rfl,s2.seq (s1.seq (g2 i hi)),SqL.of (s2 _ _ h1),hn,?_,?_,fun p H2 hpn s3 h3=>?_⟩
     ·rw [ec];exact hb.1
     ·rw [ec];exact hb.2
     ·have np:D2≠p:=ne_of_none h2 hpn
      refine ⟨_,s3 _ _ h2,by rw [tab_len];omega,?_⟩
      rw [tabR_snoc]
      refine hN _ _ ⟨_,_,rfl,(s2.trans s3).put hD2,upd_same,fun k hk=>?_⟩
      by_cases e:k=i
      ·subst e
       simp only [if_true]
       refine ⟨SqL.of ?_,Ne.symm np⟩
       rw [upd_ne (Ne.symm np),h3,ec]
      ·simp only [e,if_false]
       obtain ⟨q1,q2⟩:=hp k (by omega)
       refine ⟨?_,q2⟩
       rcases s3.seq q1 with (z | ⟨o,z⟩) | z
       ·exact .inl (.inl (by rw [upd_ne q2];exact z))
       ·exact .inl (.inr ⟨o,by rw [upd_ne q2];exact z⟩)
       ·exact .inr z
    ·rintro σ H' ⟨v,ps,rfl,s2,h2,hp⟩
     refine ⟨_,rfl,_,rfl,_,rfl,D2,_,_,_,rfl,rfl,h2,tab_ix (by omega) (by omega),?_⟩
     rw [tab_set (by omega),ec]
     refine ⟨_,rfl,?_⟩
     refine q D2 _ (s1.free hD2) ((s1.trans s2).put (s1.free hD2)) ⟨fun k=>if k=c then D else ps k,SqL.of ?_,fun i hi=>?_⟩
     ·rw [upd_same]
      refine congrArg (fun l=>some (HO.lst l)) (tab_congr fun k hk=>?_)
      by_cases e:k=c <;> simp [e]
     ·by_cases e:i=c
      ·subst e
       have e2:tabI n (My.clear a i fac i)=tabI n fun j=>a i j * fac % 97:=tab_congr fun j hj=>by unfold My.clear;rw [if_pos rfl]
       simp only [if_true]
       rw [e2]
       exact SqL.of (by rw [upd_ne nDD];exact s2 _ _ h1)
      ·obtain ⟨q1,q2⟩:=hp i hi
       have e2:tabI n (My.clear a c fac i)=tabI n fun j=>(a i j - a i c * (a c j * fac % 97)) % 97:=tab_congr fun j hj=>by unfold My.clear;rw [if_neg e]
       simp only [e,if_false]
       rw [e2]
       rcases q1 with (z | ⟨o,z⟩) | z
       ·exact .inl (.inl (by rw [upd_ne q2];exact z))
       ·exact .inl (.inr ⟨o,by rw [upd_ne q2];exact z⟩)
       ·exact .inr z
  ·rw [ec];exact ⟨by omega,hcc.2⟩
def tab0 (n:Nat) (a:My.Mat) (b:Nat→Int):My.Mat:=fun i j=>(if j < n then a i j else b i) % 97
theorem ip_tab0 (n:Nat) (a:My.Mat) (b:Nat→Int) (z:Nat→Int) (i:Nat):(97:Int) ∣ My.ip (n+1) (tab0 n a b i) z - (My.ip n (a i) z+b i * z n):=by
 have h1:My.ip (n+1) (tab0 n a b i) z=My.ip n (tab0 n a b i) z+tab0 n a b i n * z n:=by unfold My.ip;rw [My.sumTo]
 have h2:(97:Int) ∣ My.ip n (tab0 n a b i) z - My.ip n (a i) z:=My.ip_congr fun j hj=>by unfold tab0;rw [if_pos hj];exact My.emod_dvd _
 have h3:(97:Int) ∣ tab0 n a b i n * z n - b i * z n:=by
  have:(97:Int) ∣ (tab0 n a b i n - b i) * z n:=Int.dvd_trans (by unfold tab0;rw [if_neg (Nat.lt_irrefl n)];exact My.emod_dvd _) (Int.dvd_mul_right _ _)
  rwa [Int.sub_mul] at this
 rw [h1]
 have:=Int.dvd_add h2 h3
 rwa [show My.ip n (tab0 n a b i) z - My.ip n (a i) z+(tab0 n a b i n * z n - b i * z n)=My.ip n (tab0 n a b i) z+tab0 n a b i n * z n - (My.ip n (a i) z+b i * z n) by omega] at this
theorem ker_tab0 {n:Nat} {a:My.Mat} {b:Nat→Int} {z:Nat→Int}:My.Ker n (n+1) (tab0 n a b) z↔∀ i,i < n→(97:Int) ∣ My.ip n (a i) z+b i * z n:=by
 constructor
 ·intro k i hi
  have:=Int.dvd_sub (k i hi) (ip_tab0 n a b z i)
  rwa [show My.ip (n+1) (tab0 n a b i) z - (My.ip (n+1) (tab0 n a b i) z - (My.ip n (a i) z+b i * z n))=My.ip n (a i) z+b i * z n by omega] at this
 ·intro k i hi
  have:=Int.dvd_add (k i hi) (ip_tab0 n a b z i)
  rwa [show My.ip n (a i) z+b i * z n+(My.ip (n+1) (tab0 n a b i) z - (My.ip n (a i) z+b i * z n))=My.ip (n+1) (tab0 n a b i) z by omega] at this
theorem ip_ext (n:Nat) (r z:Nat→Int) (u:Int):My.ip n r (fun j=>if j < n then z j else u)=My.ip n r z:=My.sumTo_congr n fun j hj=>by simp [hj]
theorem not_reg {n c:Nat} {a:My.Mat} {b:Nat→Int} {u:My.Mat} (hk:∀ z,My.Ker n (n+1) u z↔My.Ker n (n+1) (tab0 n a b) z) (h:My.Clear n c u) (hc:c < n) (hz:∀ i,c≤i→i < n→u i c=0):¬ My.Reg n a:=by
 obtain ⟨z,k,z1,z2⟩:=h.stuck hc hz
 intro r
 have k2:=ker_tab0.mp ((hk z).mp k)
 have:=r z (fun i hi=>by have:=k2 i hi;rw [z2] at this;simpa using this) c hc
 rw [z1] at this
 omega
theorem the_answer {n:Nat} {a:My.Mat} {b:Nat→Int} {u:My.Mat} (hk:∀ z,My.Ker n (n+1) u z↔My.Ker n (n+1) (tab0 n a b) z) (h:My.Clear n n u):My.Reg n a∧∀ i,i < n→(97:Int) ∣ My.ip n (a i) (fun j=>u j n) - b i:=by
 constructor
 ·intro z k j hj
  have k2:My.Ker n (n+1) (tab0 n a b) (fun j=>if j < n then z j else 0):=ker_tab0.mpr fun i hi=>by
   rw [ip_ext]
   simp only [Nat.lt_irrefl,if_false,Int.mul_zero,Int.add_zero]
   exact k i hi
  have k3:=(hk _).mpr k2 j hj
  rw [h.full _ j hj] at k3
  simpa [hj] using k3
 ·intro i hi
  have k1:My.Ker n (n+1) u (fun j=>if j < n then - u j n else 1):=fun i hi=>by
   rw [h.full _ i hi]
   simp only [hi,if_true,Nat.lt_irrefl,if_false]
   exact ⟨0,by omega⟩
  have k2:=ker_tab0.mp ((hk _).mp k1) i hi
  rw [ip_ext] at k2
  simp only [Nat.lt_irrefl,if_false,Int.mul_one] at k2
  have e:My.ip n (a i) (fun j=>- u j n)=- My.ip n (a i) (fun j=>u j n):=by
   have:=My.sumTo_mul (-1) (fun j=>a i j * u j n) n
   unfold My.ip
   rw [show My.sumTo n (fun j=>a i j * - u j n)=My.sumTo n (fun j=>-1 * (a i j * u j n)) from My.sumTo_congr n fun j _=>by grind,this]
   show -1 * My.sumTo n (fun j=>a i j * u j n)=- My.sumTo n (fun j=>a i j * u j n)
   omega
  rw [e] at k2
  have:=Int.dvd_neg.mpr k2
  rwa [show -(-My.ip n (a i) (fun j=>u j n)+b i)=My.ip n (a i) (fun j=>u j n) - b i by omega] at this
theorem clear_in {m n c:Nat} {a:My.Mat} {f:Int}:∀ i j,i < m→j < n→0≤My.clear a c f i j∧My.clear a c f i j < 97:=fun i j _ _=>by
 unfold My.clear
 split <;> exact ⟨Int.emod_nonneg _ (by decide),Int.emod_lt_of_pos _ (by decide)⟩
theorem swap_in {m n p q:Nat} {a:My.Mat} (hp:p < m) (hq:q < m) (h:∀ i j,i < m→j < n→0≤a i j∧a i j < 97):∀ i j,i < m→j < n→0≤My.swap a p q i j∧My.swap a p q i j < 97:=fun i j hi hj=>by
 unfold My.swap
 split
 ·exact h q j hq hj
 ·split
  ·exact h p j hp hj
  ·exact h i j hi hj
def sp_solved (K:PySem.W.Frag):Sp:=fun vs H Q _=>∃ (l r:Addr) (n:Nat) (a:My.Mat) (b:Nat→Int),vs=[.ref l,.ref r]∧Grid K H l n n a∧SqL K H r (tabI n b)∧n≤100 ∧
 (My.Reg n a→∀ p H' x,H p=none→Same H H'→H' p=some (.lst (tabI n x))→(∀ i,i < n→0≤x i∧x i < 97)→(∀ i,i < n→(97:Int) ∣ My.ip n (a i) x - b i)→Q (.ref p) H')∧(¬ My.Reg n a→∀ H',Same H H'→Q .non H')
theorem sc_solved:FnScope ["rows","right","table","column","place"] ["rows","right"] (defScope s_solved):=⟨rfl,rfl,rfl,by decide +kernel,rfl,by decide +kernel,by decide +kernel⟩
theorem ok_solved (F:Site K mg "solved" s_solved) (T:Txt K mg t) (D_equation:Def P w K mg base 1 "equation" ["row","side"] (sp_equation K)) (D_pivot_place:Def P w K mg base 1 "pivot_place" ["table","column"] (sp_pivot_place K))
  (D_exchanged:Def P w K mg base 1 "exchanged" ["table","one","other"] (sp_exchanged K)) (D_cleared:Def P w K mg base 5 "cleared" ["table","column"] (sp_cleared K)):Def P w K mg base 6 "solved" ["rows","right"] (sp_solved K):=by
 refine F.def sc_solved (fun _ _ _ _ _ _ us hl=>match us,hl with | [_,_],_=>rfl) (fun vs H Q E h=>?_) (fun f cdv A outer s H vs Q E hr h=>?_)
 ·obtain ⟨l,r,n,a,b,rfl,_⟩:=h
  rfl
 ·obtain ⟨l,r,n,a,b,rfl,⟨as,g1,g2⟩,hr1,hn,q1,q2⟩:=h
  refine ⟨_,pss_cons (ps_setLC (i:=2) sc_solved.nd rfl (Or.inl rfl) rfl (Nc:=["row","side"]) (ix:=[none,none]) (cscope (defScope s_solved) ["rows","right","table","column","place"] rfl rfl (by decide +kernel)) (pi_zipK K (by rfl) T.n_zip (pa_cons (pv 0) (pa_cons (pv 1) pa_nil))) (fun C fp s H=>⟨(pg_twoK K (i:=0) (j:=1) rfl (show (["row","side"]:List Str).Nodup by decide +kernel) rfl rfl (Or.inl rfl) (Or.inl rfl)),pts_nil,(pe_def (D_equation.mono (by decide)) hr passN (pa_cons (pv 0) (pa_cons (pv 1) pa_nil)))⟩))
   (pss_cons (PS.nox (ps_for PassesOwn.never rfl (pi_range1 (by rfl) T.n_range (pa_cons (pe_callB (call_lenK K) (by rfl) T.n_len boot_len (pa_cons (pv 2) pa_nil)) pa_nil)) (pg_name (i:=3) sc_solved.nd rfl (Or.inl rfl))
    (pss_cons (ps_set (i:=4) sc_solved.nd rfl (Or.inl rfl) (pe_def (D_pivot_place.mono (by decide)) hr passN (pa_cons (pv 2) (pa_cons (pv 3) pa_nil))))
    (pss_cons (ps_if (pt_cmpR op_isN (pv 4) pe_non (nomark _))
     (pss_one (ps_ret pe_non))
     (pss_nil))
    (pss_one (ps_set (i:=2) sc_solved.nd rfl (Or.inl rfl) (pe_def (D_cleared.mono (by decide)) hr passN (pa_cons (pe_def (D_exchanged.mono (by decide)) hr passN (pa_cons (pv 2) (pa_cons (pv 3) (pa_cons (pv 4) pa_nil)))) (pa_cons (pv 3) pa_nil)))))))))
   (pss_one (ps_ret (pe_lc rfl (Nc:=["row"]) (ix:=[none]) (cscope (defScope s_solved) ["rows","right","table","column","place"] rfl rfl (by decide +kernel)) (pi_listK K (pv 2)) (fun C fp s H=>⟨(pg_name (i:=0) (show (["row"]:List Str).Nodup by decide +kernel) rfl (Or.inl rfl)),pts_nil,(pe_ix (ix_listK K) (pv 0) (pe_un un_neg pe_int) (fun _ _=>rfl))⟩))))),?_⟩
  have hsz:(2000:Nat)≤sizeLine:=by decide
  refine ⟨_,rfl,_,rfl,l,r,rfl,⟨_,g1⟩,⟨_,hr1⟩,fun D hD=>?_⟩
  refine lc_ztab (K:=K) (a:=l) (b:=r) (n:=n) (F:=fun i=>V.ref (as i)) (G:=fun i=>V.int (b i)) (fun i σ H'=>∃ (v u:Option V) (ps:Nat→Addr),σ=[v,u]∧Same H H'∧H' D=some (.lst (tabR i ps))∧∀ k,k < i→H' (ps k)=some (.lst (tabI (n+1) (tab0 n a b k)))∧ps k≠D)
   ⟨none,none,as,rfl,(Same.refl _).new hD,upd_same,fun k hk=>by omega⟩ (fun i σ H' _ ⟨_,_,_,_,s1,_⟩=>⟨s1.seq g1,s1.seq hr1⟩) ?_ ?_
  ·rintro i pt σ H' N hN hi ⟨v,u,ps,rfl,s1,h1,hp⟩ hpt
   refine turn_do2 ?_
   have nD:D≠pt:=ne_of_none h1 hpt
   have st:=(Same.refl H').new (o:=.tup [V.ref (as i),V.int (b i)]) hpt
   refine ⟨_,rfl,_,rfl,as i,n,a i,b i,rfl,st.seq (s1.seq (g2 i hi)),by omega,fun p H2 hpn s2 h2=>?_⟩
   have s3:=st.trans s2
   have np:D≠p:=ne_of_none (st _ _ h1) hpn
   refine ⟨_,s3 _ _ h1,by rw [tab_len];omega,?_⟩
   rw [tabR_snoc]
   refine hN _ _ ⟨_,_,_,rfl,(s1.trans s3).put hD,upd_same,fun k hk=>?_⟩
   by_cases e:k=i
   ·subst e
    simp only [if_true]
    exact ⟨by rw [upd_ne (Ne.symm np),h2];rfl,Ne.symm np⟩
   ·simp only [e,if_false]
    obtain ⟨z1,z2⟩:=hp k (by omega)
    exact ⟨by rw [upd_ne z2];exact s3 _ _ z1,z2⟩
  ·rintro σ H1 ⟨v,u,ps,rfl,s1,h1,hp⟩
   have G0:Grid K H1 D n (n+1) (tab0 n a b):=⟨ps,SqL.of h1,fun i hi=>SqL.of (hp i hi).1⟩
   refine ⟨_,rfl,D,_,rfl,.inl (SqL.of h1),_,rfl,by omega,by rw [tab_len];omega,?_⟩
   have en:(((tabR n ps).length:Nat):Int).toNat=n:=by rw [tab_len,Int.toNat_natCast]
   rw [en]
   refine for_range (lo:=0) (n:=n) (fun c σ H'=>∃ (v v':Option V) (l':Addr) (u:My.Mat),σ=[some (.ref l),some (.ref r),some (.ref l'),v,v']∧Same H1 H'∧Grid K H' l' n (n+1) u∧(∀ i j,i < n→j < n+1→0≤u i j∧u i j < 97)∧My.Clear n c u∧∀ z,My.Ker n (n+1) u z↔My.Ker n (n+1) (tab0 n a b) z)
    ⟨none,none,D,tab0 n a b,rfl,Same.refl _,G0,fun i j _ _=>⟨Int.emod_nonneg _ (by decide),Int.emod_lt_of_pos _ (by decide)⟩,My.Clear.start _ _,fun z=>Iff.rfl⟩ ?_ ?_
   ·rintro c σ H' hc ⟨v,v',l',u,rfl,s2,G,hu,hcl,hk⟩
    have e0:(0:Int)+(c:Nat)=((c:Nat):Int):=by omega
    rw [e0]
    refine ⟨_,rfl,_,rfl,l',n,n+1,c,u,rfl,G,by omega,by omega,by omega,by omega,fun p hp1 hp2 hp3 _=>?_,fun hz=>?_⟩
    ·refine ⟨_,rfl,rfl,_,rfl,iteN (fun z=>nomatch z) ?_⟩
     refine ⟨_,rfl,_,rfl,_,rfl,l',n,n+1,c,p,u,rfl,G,hc,hp2,by omega,fun x1 H2 hx1 s3 G2=>?_⟩
     have hsw:My.swap u c p c c=u p c:=by unfold My.swap;rw [if_pos rfl]
     have hin:=swap_in (n:=n+1) hc hp2 hu
     have hpc:=hin c c hc (by omega)
     refine ⟨_,rfl,x1,n,n+1,c,My.swap u c p,rfl,G2,hc,by omega,by omega,by omega,hin,by rw [hsw];exact hp3,fun x2 H3 hx2 s4 G3=>?_⟩
     have hinv:(97:Int) ∣ My.P (My.swap u c p c c) 95 * My.swap u c p c c - 1:=by
      have:=My.P_inv (a:=My.swap u c p c c) (by rw [hsw] at *;omega) hpc.2
      omega
     exact ⟨_,_,x2,_,rfl,s2.trans (s3.trans s4),G3,clear_in,(hcl.swap hp1 hp2).clear hc hinv,fun z=>(My.Ker.clear hc hinv).trans ((My.Ker.swap hc hp2).trans (hk z))⟩
    ·refine ⟨_,rfl,rfl,_,rfl,iteY rfl ?_⟩
     exact q2 (not_reg hk hcl hc hz) H' (s1.trans s2)
   ·rintro σ H' ⟨v,v',l',u,rfl,s2,⟨bs,G1,G2⟩,hu,hcl,hk⟩
    obtain ⟨hreg,hans⟩:=the_answer hk hcl
    refine ⟨_,rfl,l',rfl,⟨_,G1⟩,fun D2 hD2=>?_⟩
    refine lc_tab (K:=K) (a:=l') (n:=n) (F:=fun i=>V.ref (bs i)) (fun i σ H2=>∃ v:Option V,σ=[v]∧Same H' H2∧H2 D2=some (.lst (tabI i fun k=>u k n))) ⟨none,rfl,(Same.refl _).new hD2,upd_same⟩ (fun i σ H' _ ⟨_,_,s1,_⟩=>s1.seq G1) ?_ ?_
    ·rintro i σ H2 N hN hi ⟨v,rfl,s3,h3⟩
     refine turn_do ?_
     refine ⟨_,rfl,_,rfl,_,_,_,_,rfl,rfl,s3.seq (G2 i hi),tab_last,_,h3,by rw [tab_len];omega,?_⟩
     exact hN _ _ ⟨_,rfl,s3.put hD2,got_one rfl⟩
    ·rintro σ H2 ⟨v,rfl,s3,h3⟩
     have s123:=(s1.trans s2)
     exact q1 hreg D2 H2 _ (s123.free hD2) (s123.trans s3) h3 (fun i hi=>hu i n hi (by omega)) hans
end
end K34
namespace K34
open PySem L2 PyProof.Rows
section
variable {P:Program} {w:World} {K:PySem.W.Frag} {mg:Str→Option Value} {base:Heap} {t:Ad}
def sp_lone_place (K:PySem.W.Frag):Sp:=fun vs H Q _=>∃ (l:Addr) (s:Nat→Int),vs=[.ref l]∧SqL K H l (tabI 6 s)∧(∀ j,j < 6→0≤s j∧s j < 97) ∧
 ∀ p H',H p=none→Same H H'→H' p=some (.lst ((My.loneL s).map fun k=>V.int (k:Nat)))→Q (.ref p) H'
theorem sc_lone_place:FnScope ["sums","place"] ["sums"] (defScope s_lone_place):=⟨rfl,rfl,rfl,by decide +kernel,rfl,by decide +kernel,by decide +kernel⟩
theorem ok_lone_place (F:Site K mg "lone_place" s_lone_place) (T:Txt K mg t) (D_exponent:Def P w K mg base 4 "exponent" ["a"] (sp_exponent t.BadSign)) (D_inverse:Def P w K mg base 4 "inverse" ["a"] (sp_inverse t.BadSign)):Def P w K mg base 5 "lone_place" ["sums"] (sp_lone_place K):=by
 refine F.def sc_lone_place (fun _ _ _ _ _ _ us hl=>match us,hl with | [_],_=>rfl) (fun vs H Q E h=>?_) (fun f cdv A outer s H vs Q E hr h=>?_)
 ·obtain ⟨l,s,rfl,_⟩:=h
  rfl
 ·obtain ⟨l,s,rfl,hl,bs,q⟩:=h
  refine ⟨_,pss_cons (ps_if (PW.pt (pw_or (pt_cmpR op_eq (pe_ix (ix_listK K) (pv 0) pe_int (fun _ _=>rfl)) pe_int (nomark _)) (pw_or1 (pt_cmpR op_eq (pe_ix (ix_listK K) (pv 0) pe_int (fun _ _=>rfl)) pe_int (nomark _)))))
    (pss_one (ps_ret (pe_lst pa_nil)))
    (pss_nil))
   (pss_cons (ps_set (i:=1) sc_lone_place.nd rfl (Or.inl rfl) (pe_def (D_exponent.mono (by decide)) hr passN (pa_cons (pe_op op_mod (pe_op op_mul (pe_ix (ix_listK K) (pv 0) pe_int (fun _ _=>rfl)) (pe_def (D_inverse.mono (by decide)) hr passN (pa_cons (pe_ix (ix_listK K) (pv 0) pe_int (fun _ _=>rfl)) pa_nil))) (pe_gint T.cSIGNS)) pa_nil)))
   (pss_one (ps_ret (pe_ifExp (pt_cmpR op_lt (pv 1) (pe_gint T.cPLACES) (nomark _)) (pe_lst (pa_cons (pv 1) pa_nil)) (pe_lst pa_nil))))),?_⟩
  have b0:=bs 0 (by decide)
  have b1:=bs 1 (by decide)
  have a0:atI (tabI 6 s) 0=some (V.int (s 0)):=tab_at (n:=6) (by decide) (by decide)
  have a1:atI (tabI 6 s) 1=some (V.int (s 1)):=tab_at (n:=6) (by decide) (by decide)
  have q':∀ p,H p=none→Q (.ref p) (upd H p (.lst ((My.loneL s).map fun k=>V.int (k:Nat)))):=fun p hp=>q p _ hp ((Same.refl _).new hp) upd_same
  refine ⟨_,rfl,l,_,_,_,rfl,rfl,hl,a0,rfl,_,rfl,?_⟩
  by_cases z0:s 0=0
  ·refine iteY (by rw [z0]) (iteT ?_)
   refine ⟨by show 0≤sizeLine;decide,fun p hp=>?_⟩
   have:=q' p hp
   rwa [My.loneL,if_pos (.inl z0)] at this
  ·refine iteN (fun e=>z0 (V.int.inj e)) ?_
   refine ⟨_,rfl,l,_,_,_,rfl,rfl,hl,a1,rfl,_,rfl,?_⟩
   by_cases z1:s 1=0
   ·refine iteY (by rw [z1]) ?_
    refine ⟨by show 0≤sizeLine;decide,fun p hp=>?_⟩
    have:=q' p hp
    rwa [My.loneL,if_pos (.inr z1)] at this
   ·refine iteN (fun e=>z1 (V.int.inj e)) ?_
    have hinv:=My.P_inv_pos (a:=s 0) (by omega) b0.2
    have hinv1:=My.P_hi (s 0) 95
    have hv:=My.mul_ne (a:=s 1) (b:=My.P (s 0) 95) (by omega) b1.2 hinv hinv1
    have hv1:s 1 * My.P (s 0) 95 % 97 < 97:=Int.emod_lt_of_pos _ (by decide)
    refine ⟨_,rfl,l,_,_,_,rfl,rfl,hl,a1,_,rfl,l,_,_,_,rfl,rfl,hl,a0,s 0,rfl,small_abs (by omega) (by omega),fun _=>?_,fun h=>absurd ⟨by omega,b0.2⟩ h⟩
    refine ⟨_,_,rfl,rfl,.inl ⟨by omega,by omega⟩,_,_,rfl,rfl,(by show (0:Int) < 97;decide),_,rfl,small_abs (by omega) (by omega),fun _=>?_,fun h=>absurd ⟨hv,hv1⟩ h⟩
    have e0:=My.ex_lo (s 1 * My.P (s 0) 95 % 97)
    refine ⟨_,rfl,_,_,rfl,rfl,_,rfl,?_⟩
    by_cases hp:My.ex (s 1 * My.P (s 0) 95 % 97) < 24
    ·refine iteY hp ?_
     refine ⟨_,rfl,by show 1≤sizeLine;decide,fun p hpn=>?_⟩
     have:=q' p hpn
     rw [My.loneL,if_neg (by omega),if_pos hp] at this
     have e1:[V.int (My.ex (s 1 * My.P (s 0) 95 % 97))]=([(My.ex (s 1 * My.P (s 0) 95 % 97)).toNat].map fun k=>V.int (k:Nat)):=by
      show _=[V.int (((My.ex (s 1 * My.P (s 0) 95 % 97)).toNat:Nat):Int)]
      rw [Int.toNat_of_nonneg e0]
     rw [e1]
     exact this
    ·refine iteN hp ?_
     refine ⟨by show 0≤sizeLine;decide,fun p hpn=>?_⟩
     have:=q' p hpn
     rwa [My.loneL,if_neg (by omega),if_neg hp] at this
def sp_is_root:Sp:=fun vs H Q _=>∃ x t u:Int,vs=[.int x,.int t,.int u]∧0≤x∧x < 97∧0≤t∧t < 97∧Q (.bl (decide ((x * x - t * x+u) % 97=0))) H
theorem sc_is_root:FnScope ["point","total","product"] ["point","total","product"] (defScope s_is_root):=⟨rfl,rfl,rfl,by decide +kernel,rfl,by decide +kernel,by decide +kernel⟩
theorem ok_is_root (F:Site K mg "is_root" s_is_root) (T:Txt K mg t):Def P w K mg base 1 "is_root" ["point","total","product"] sp_is_root:=by
 refine F.def sc_is_root (fun _ _ _ _ _ _ us hl=>match us,hl with | [_,_,_],_=>rfl) (fun vs H Q E h=>?_) (fun f cdv A outer s H vs Q E hr h=>?_)
 ·obtain ⟨x,t,u,rfl,_⟩:=h
  rfl
 ·obtain ⟨x,tt,u,rfl,x0,x1,t0,t1,q⟩:=h
  refine ⟨_,pss_one (ps_ret (pe_cmpR op_eq (pe_op op_mod (pe_op op_add (pe_op op_sub (pe_op op_mul (pv 0) (pv 0)) (pe_op op_mul (pv 1) (pv 0))) (pv 2)) (pe_gint T.cSIGNS)) pe_int (nomark _))),?_⟩
  refine ⟨_,rfl,_,rfl,_,_,rfl,rfl,.inl ⟨by omega,by omega⟩,_,rfl,_,rfl,_,_,rfl,rfl,.inl ⟨by omega,by omega⟩,_,_,rfl,rfl,_,rfl,_,_,rfl,rfl,_,_,rfl,rfl,(by show (0:Int) < 97;decide),rfl,?_⟩
  have e:decide (V.int ((x * x - tt * x+u) % 97)=V.int 0)=decide ((x * x - tt * x+u) % 97=0):=decide_eq_decide.mpr ⟨fun h=>V.int.inj h,fun h=>by rw [h]⟩
  show Q (.bl (decide (V.int ((x * x - tt * x+u) % 97)=V.int 0))) H
  rw [e]
  exact q
def sp_turned_places (K:PySem.W.Frag):Sp:=fun vs H Q _=>∃ (l:Addr) (s:Nat→Int),vs=[.ref l]∧SqL K H l (tabI 6 s)∧(∀ j,j < 6→0≤s j∧s j < 97) ∧
 ∀ p H' ps,H p=none→Same H H'→H' p=some (.lst (ps.map fun k=>V.int (k:Nat)))→My.IsPl s ps→Q (.ref p) H'
theorem sc_turned_places:FnScope ["sums","rows","pair"] ["sums"] (defScope s_turned_places):=⟨rfl,rfl,rfl,by decide +kernel,rfl,by decide +kernel,by decide +kernel⟩
theorem ok_turned_places (F:Site K mg "turned_places" s_turned_places) (T:Txt K mg t) (D_solved:Def P w K mg base 6 "solved" ["rows","right"] (sp_solved K)) (D_lone_place:Def P w K mg base 5 "lone_place" ["sums"] (sp_lone_place K)) (D_is_root:Def P w K mg base 1 "is_root" ["point","total","product"] sp_is_root)
  (D_power:Def P w K mg base 3 "power" ["a","k"] (sp_power t.BadSign)):Def P w K mg base 7 "turned_places" ["sums"] (sp_turned_places K):=by
 refine F.def sc_turned_places (fun _ _ _ _ _ _ us hl=>match us,hl with | [_],_=>rfl) (fun vs H Q E h=>?_) (fun f cdv A outer s H vs Q E hr h=>?_)
 ·obtain ⟨l,s,rfl,_⟩:=h
  rfl
 ·obtain ⟨l,s,rfl,hl,bs,q⟩:=h
  refine ⟨_,pss_cons (ps_set (i:=1) sc_turned_places.nd rfl (Or.inl rfl) (pe_lst (pa_cons (pe_lst (pa_cons (pe_ix (ix_listK K) (pv 0) pe_int (fun _ _=>rfl)) (pa_cons (pe_op op_mod (pe_un un_neg (pe_ix (ix_listK K) (pv 0) pe_int (fun _ _=>rfl))) (pe_gint T.cSIGNS)) pa_nil))) (pa_cons (pe_lst (pa_cons (pe_ix (ix_listK K) (pv 0) pe_int (fun _ _=>rfl)) (pa_cons (pe_op op_mod (pe_un un_neg (pe_ix (ix_listK K) (pv 0) pe_int (fun _ _=>rfl))) (pe_gint T.cSIGNS)) pa_nil))) pa_nil))))
   (pss_cons (ps_set (i:=2) sc_turned_places.nd rfl (Or.inr rfl) (pe_def (D_solved.mono (by decide)) hr passN (pa_cons (pv 1) (pa_cons (pe_lst (pa_cons (pe_ix (ix_listK K) (pv 0) pe_int (fun _ _=>rfl)) (pa_cons (pe_ix (ix_listK K) (pv 0) pe_int (fun _ _=>rfl)) pa_nil))) pa_nil))))
   (pss_cons (ps_if (pt_cmpR op_isN (pv 2) pe_non (nomark _))
    (pss_one (ps_ret (pe_def (D_lone_place.mono (by decide)) hr passN (pa_cons (pv 0) pa_nil))))
    (pss_nil))
   (pss_one (ps_ret (pe_lc rfl (Nc:=["place","pair"]) (ix:=[none,some 2]) (cscope (defScope s_turned_places) ["sums","rows","pair"] rfl rfl (by decide +kernel)) (pi_range1 (by rfl) T.n_range (pa_cons (pe_gint T.cPLACES) pa_nil)) (fun C fp s H=>⟨(pg_name (i:=0) (show (["place","pair"]:List Str).Nodup by decide +kernel) rfl (Or.inl rfl)),(pts_one (pt_val (pe_def (D_is_root.mono (by decide)) hr passN (pa_cons (pe_def (D_power.mono (by decide)) hr passN (pa_cons (pe_gint T.cROOT) (pa_cons (pv 0) pa_nil))) (pa_cons (pe_ix (ix_listK K) (pv 1) pe_int (fun _ _=>rfl)) (pa_cons (pe_ix (ix_listK K) (pv 1) pe_int (fun _ _=>rfl)) pa_nil)))))),(pv 0)⟩)))))),?_⟩
  have a0:atI (tabI 6 s) 0=some (V.int (s 0)):=tab_at (n:=6) (by decide) (by decide)
  have a1:atI (tabI 6 s) 1=some (V.int (s 1)):=tab_at (n:=6) (by decide) (by decide)
  have a2:atI (tabI 6 s) 2=some (V.int (s 2)):=tab_at (n:=6) (by decide) (by decide)
  have a3:atI (tabI 6 s) 3=some (V.int (s 3)):=tab_at (n:=6) (by decide) (by decide)
  have b4:∀ j,j < 4→0≤s j∧s j < 97:=fun j hj=>bs j (by omega)
  refine ⟨_,rfl,l,_,_,_,rfl,rfl,hl,a1,_,rfl,l,_,_,_,rfl,rfl,hl,a0,_,rfl,_,_,rfl,rfl,(by show (0:Int) < 97;decide),by show 2≤sizeLine;decide,fun r1 hr1=>?_⟩
  have s1:=(Same.refl H).new (o:=.lst [V.int (s 1),V.int (-(s 0) % 97)]) hr1
  refine ⟨_,rfl,l,_,_,_,rfl,rfl,s1.seq hl,a2,_,rfl,l,_,_,_,rfl,rfl,s1.seq hl,a1,_,rfl,_,_,rfl,rfl,(by show (0:Int) < 97;decide),by show 2≤sizeLine;decide,fun r2 hr2=>?_⟩
  have s2:=s1.new (o:=.lst [V.int (s 2),V.int (-(s 1) % 97)]) hr2
  refine ⟨by show 2≤sizeLine;decide,fun r3 hr3=>?_⟩
  have s3:=s2.new (o:=.lst [V.ref r1,V.ref r2]) hr3
  have e1:(upd (upd (upd H r1 (.lst [V.int (s 1),V.int (-(s 0) % 97)])) r2 (.lst [V.int (s 2),V.int (-(s 1) % 97)])) r3 (.lst [V.ref r1,V.ref r2])) r1=some (.lst [V.int (s 1),V.int (-(s 0) % 97)]):=by
   have z:r1≠r2:=ne_of_none upd_same hr2
   rw [upd_ne (ne_of_none (by rw [upd_ne z];exact upd_same) hr3),upd_ne z];exact upd_same
  have e2:(upd (upd (upd H r1 (.lst [V.int (s 1),V.int (-(s 0) % 97)])) r2 (.lst [V.int (s 2),V.int (-(s 1) % 97)])) r3 (.lst [V.ref r1,V.ref r2])) r2=some (.lst [V.int (s 2),V.int (-(s 1) % 97)]):=by
   rw [upd_ne (ne_of_none upd_same hr3)];exact upd_same
  have e3:(upd (upd (upd H r1 (.lst [V.int (s 1),V.int (-(s 0) % 97)])) r2 (.lst [V.int (s 2),V.int (-(s 1) % 97)])) r3 (.lst [V.ref r1,V.ref r2])) r3=some (.lst [V.ref r1,V.ref r2]):=upd_same
  generalize upd (upd (upd H r1 (.lst [V.int (s 1),V.int (-(s 0) % 97)])) r2 (.lst [V.int (s 2),V.int (-(s 1) % 97)])) r3 (.lst [V.ref r1,V.ref r2])=H3 at *
  refine ⟨_,rfl,_,rfl,l,_,_,_,rfl,rfl,s3.seq hl,a2,_,rfl,l,_,_,_,rfl,rfl,s3.seq hl,a3,by show 2≤sizeLine;decide,fun r4 hr4=>?_⟩
  have s4:=(Same.refl H3).new (o:=.lst [V.int (s 2),V.int (s 3)]) hr4
  have G:Grid K (upd H3 r4 (.lst [V.int (s 2),V.int (s 3)])) r3 2 2 (My.M s):=by
   refine ⟨fun i=>if i=0 then r1 else r2,SqL.of (s4 _ _ e3),fun i hi=>?_⟩
   match i,hi with
   | 0,_=>exact SqL.of (s4 _ _ e1)
   | 1,_=>exact SqL.of (s4 _ _ e2)
  refine ⟨r3,r4,2,My.M s,fun i=>s (i+2),rfl,G,SqL.of upd_same,by decide,fun reg p5 H5 x hp5 s5 h5 bx hx=>?_,fun reg H5 s5=>?_⟩
  ·refine ⟨_,rfl,rfl,_,rfl,iteN (fun z=>nomatch z) ?_⟩
   have sA:=(s3.trans s4).trans s5
   refine ⟨24,rfl,by decide,by decide,fun D hD=>?_⟩
   refine lc_pick (n:=24) (by decide) (b:=My.rootB (x 0) (x 1)) hD (fun i H6 N hi s6 hn=>?_) (fun i H6 N hi hn=>⟨_,rfl,hn⟩) fun H6 s6 h6=>?_
   ·have hx0:=bx 0 (by decide)
    refine ⟨_,rfl,5,_,rfl,by decide,by omega,fun _=>?_,fun h=>absurd (show (0:Int)≤5∧(5:Int) < 97 by decide) h⟩
    refine ⟨_,rfl,p5,_,_,_,rfl,rfl,SqL.of (s6 _ _ h5),tab_at (n:=2) (by decide) (by decide),_,rfl,p5,_,_,_,rfl,rfl,SqL.of (s6 _ _ h5),tab_at (n:=2) (by decide) (by decide),_,_,_,rfl,My.P_lo _ _,My.P_hi _ _,hx0.1,hx0.2,_,rfl,?_⟩
    have e0:(0:Int)+(i:Nat)=(i:Nat):=by omega
    rw [e0]
    exact hn H6 (Same.refl _)
   ·exact q D H6 _ (sA.free hD) (sA.trans s6) h6 (My.roots_pl reg hx)
  ·refine ⟨_,rfl,rfl,_,rfl,iteY rfl ?_⟩
   have sA:=(s3.trans s4).trans s5
   refine ⟨_,rfl,l,s,rfl,sA.seq hl,bs,fun p6 H6 hp6 s6 h6=>?_⟩
   exact q p6 H6 _ (sA.free hp6) (sA.trans s6) h6 (My.lone_pl b4 reg)
def sp_turns_at (K:PySem.W.Frag):Sp:=fun vs H Q _=>∃ (l r:Addr) (ps:List Nat) (s:Nat→Int),vs=[.ref l,.ref r]∧H l=some (.lst (ps.map fun k=>V.int (k:Nat)))∧SqL K H r (tabI 6 s)∧ps.Nodup∧(∀ p ∈ ps,p < 24)∧ps.length≤2 ∧
 ∀ p H' x,H p=none→Same H H'→H' p=some (.lst (tabI ps.length x))→(∀ i,i < ps.length→0≤x i∧x i < 97)→(∀ i,i < ps.length→(97:Int) ∣ My.ip ps.length (fun q=>My.P 5 ((ps.getD q 0:Nat) * (1+(i:Int)))) x - s i)→Q (.ref p) H'
theorem sc_turns_at:FnScope ["places","sums","rows"] ["places","sums"] (defScope s_turns_at):=⟨rfl,rfl,rfl,by decide +kernel,rfl,by decide +kernel,by decide +kernel⟩
theorem ok_turns_at (F:Site K mg "turns_at" s_turns_at) (T:Txt K mg t) (D_solved:Def P w K mg base 6 "solved" ["rows","right"] (sp_solved K)) (D_power:Def P w K mg base 3 "power" ["a","k"] (sp_power t.BadSign)):Def P w K mg base 7 "turns_at" ["places","sums"] (sp_turns_at K):=by
 refine F.def sc_turns_at (fun _ _ _ _ _ _ us hl=>match us,hl with | [_,_],_=>rfl) (fun vs H Q E h=>?_) (fun f cdv A outer s H vs Q E hr h=>?_)
 ·obtain ⟨l,r,ps,s,rfl,_⟩:=h
  rfl
 ·obtain ⟨l,r,ps,s,rfl,hl,hr1,nd,hb,few,q⟩:=h
  refine ⟨_,pss_cons (ps_setLC (i:=2) sc_turns_at.nd rfl (Or.inl rfl) rfl (Nc:=["j","places"]) (ix:=[none,some 0]) (cscope (defScope s_turns_at) ["places","sums","rows"] rfl rfl (by decide +kernel)) (pi_range2 (by rfl) T.n_range (pa_cons pe_int (pa_cons (pe_op op_add (pe_callB (call_lenK K) (by rfl) T.n_len boot_len (pa_cons (pv 0) pa_nil)) pe_int) pa_nil))) (fun C fp s H=>⟨(pg_name (i:=0) (show (["j","places"]:List Str).Nodup by decide +kernel) rfl (Or.inr rfl)),pts_nil,(pe_lc rfl (Nc:=["place","j"]) (ix:=[none,some 0]) (cscope _ ["j","places"] rfl rfl (by kernel_rfl)) (pi_listK K (pv 1)) (fun C fp s H=>⟨(pg_name (i:=0) (show (["place","j"]:List Str).Nodup by decide +kernel) rfl (Or.inl rfl)),pts_nil,(pe_def (D_power.mono (by decide)) hr passN (pa_cons (pe_gint T.cROOT) (pa_cons (pe_op op_mul (pv 0) (pv 1)) pa_nil)))⟩))⟩))
   (pss_one (ps_ret (pe_def (D_solved.mono (by decide)) hr passN (pa_cons (pv 2) (pa_cons (pe_slice (sl_listK K) (pv 1) po_none (po_some (pe_callB (call_lenK K) (by rfl) T.n_len boot_len (pa_cons (pv 0) pa_nil)))) pa_nil))))),?_⟩
  have hsz:(2000:Nat)≤sizeLine:=by decide
  rw [nats_tab] at hl
  generalize hn:ps.length=n at *
  have hg:∀ q,q < n→((ps.getD q 0:Nat):Int) < 24:=fun q hq=>by
   have:=hb (ps.getD q 0) (by rw [My.getD_get (by omega)];exact List.getElem_mem _)
   omega
  refine ⟨_,rfl,l,_,rfl,.inl (SqL.of hl),_,_,rfl,rfl,1,_,rfl,⟨by decide,by decide,by rw [tab_len];omega,by rw [tab_len];omega⟩,fun D3 hD3=>?_⟩
  rw [show ((((tabI n fun q=>((ps.getD q 0:Nat):Int)).length:Nat):Int)+1 - 1).toNat=n by rw [tab_len];omega]
  refine lc_range (lo:=1) (n:=n) (fun j σ Hf=>∃ (v:Option V) (rs:Nat→Addr),σ=[v,some (.ref l)]∧Same H Hf∧Hf D3=some (.lst (tabR j rs))∧∀ y,y < j→Hf (rs y)=some (.lst (tabI n fun q=>My.P 5 ((ps.getD q 0:Nat) * (1+(y:Int)))))∧rs y≠D3)
   ⟨none,fun _=>0,rfl,(Same.refl _).new hD3,upd_same,fun y hy=>by omega⟩ ?_ ?_
  ·rintro j σ Hf N hN hj ⟨v,rs,rfl,sf,hD3f,hrow⟩
   refine turn_do ?_
   refine ⟨_,rfl,l,rfl,⟨_,SqL.of (sf _ _ hl)⟩,fun D4 hD4=>?_⟩
   have n34:D3≠D4:=ne_of_none hD3f hD4
   refine lc_tab (K:=K) (a:=l) (n:=n) (F:=fun q=>V.int ((ps.getD q 0:Nat):Int)) (fun y σ Hg=>∃ v:Option V,σ=[v,some (.int (1+(j:Int)))]∧Same Hf Hg∧Hg D4=some (.lst (tabI y fun q=>My.P 5 ((ps.getD q 0:Nat) * (1+(j:Int))))))
    ⟨none,rfl,(Same.refl _).new hD4,upd_same⟩ (fun y σ Hg _ ⟨_,_,sg,_⟩=>SqL.of (sg _ _ (sf _ _ hl))) ?_ ?_
   ·rintro y σ Hg N2 hN2 hy ⟨v,rfl,sg,hD4g⟩
    refine turn_do ?_
    have hb:=hg y hy
    refine ⟨_,rfl,_,rfl,_,_,rfl,rfl,.inl ⟨by omega,by omega⟩,5,_,rfl,by decide,Int.mul_nonneg (by omega) (by omega),fun _=>?_,fun h=>absurd (show (0:Int)≤5∧(5:Int) < 97 by decide) h⟩
    refine ⟨_,hD4g,by rw [tab_len];omega,?_⟩
    exact hN2 _ _ ⟨_,rfl,sg.put hD4,got_one rfl⟩
   ·rintro σ Hg ⟨v,rfl,sg,hD4g⟩
    refine ⟨_,sg _ _ hD3f,by rw [tab_len];omega,?_⟩
    rw [tabR_snoc]
    refine hN _ _ ⟨_,_,rfl,(sf.trans sg).put hD3,upd_same,fun y hy=>?_⟩
    by_cases e:y=j
    ·subst e
     rw [if_pos rfl,upd_ne (Ne.symm n34)]
     exact ⟨hD4g,Ne.symm n34⟩
    ·rw [if_neg e]
     obtain ⟨w1,w2⟩:=hrow y (by omega)
     rw [upd_ne w2]
     exact ⟨sg _ _ w1,w2⟩
  ·rintro σ Hf ⟨v,rs,rfl,sf,hD3f,hrow⟩
   refine ⟨_,rfl,_,rfl,_,rfl,l,_,rfl,.inl (SqL.of (sf _ _ hl)),_,rfl,r,_,rfl,sf.seq hr1,fun D5 hD5=>?_⟩
   rw [tab_len,show cutV (tabI 6 s) none (some (n:Int))=tabI n s from tab_cut_hi (by omega)]
   have s5:=(Same.refl Hf).new (o:=.lst (tabI n s)) hD5
   have hreg:=My.rowsReg nd hb
   rw [hn] at hreg
   refine ⟨D3,D5,n,(fun i q=>My.P 5 ((ps.getD q 0:Nat) * (1+(i:Int)))),s,rfl,⟨rs,SqL.of (s5 _ _ hD3f),fun i hi=>SqL.of (s5 _ _ (hrow i hi).1)⟩,SqL.of upd_same,by omega,fun _ pa Hh x hpa sh hxa bx hxx=>?_,fun h=>absurd hreg h⟩
   have sA:=sf.trans s5
   exact q pa Hh x (sA.free hpa) (sA.trans sh) hxa bx hxx
def sp_mended (K:PySem.W.Frag):Sp:=fun vs H Q _=>∃ (l:Addr) (f:Nat→Int),vs=[.ref l]∧SqL K H l (tabI 24 f)∧IsCell 24 f ∧
 (∀ g p H',My.Mend f g→H p=none→Same H H'→H' p=some (.lst (tabI 24 g))→Q (.ref p) H')∧((∀ g,¬ My.Mend f g)→∀ H',Same H H'→Q .non H')
theorem fnd_tab {f x:Nat→Int} {ps:List Nat} {k:Nat} (h:ps.getD k 0 < 24):(tabI 24 (My.fnd f ps x k)).set (ps.getD k 0) (V.int ((My.fnd f ps x k (ps.getD k 0) - x k) % 97))=tabI 24 (My.fnd f ps x (k+1)):=by
 rw [tab_set h]
 refine tab_congr fun j _=>?_
 show _=V.int (if j=ps.getD k 0 then (My.fnd f ps x k (ps.getD k 0) - x k) % 97 else My.fnd f ps x k j)
 split <;> rfl
theorem sc_mended:FnScope ["cell","sums","places","found","place","turn"] ["cell"] (defScope s_mended):=⟨rfl,rfl,rfl,by decide +kernel,rfl,by decide +kernel,by decide +kernel⟩
theorem ok_mended (F:Site K mg "mended" s_mended) (T:Txt K mg t) (D_troubles:Def P w K mg base 4 "troubles" ["cell"] (sp_troubles K)) (D_is_sealed:Def P w K mg base 5 "is_sealed" ["cell"] (sp_is_sealed K)) (D_turned_places:Def P w K mg base 7 "turned_places" ["sums"] (sp_turned_places K))
  (D_turns_at:Def P w K mg base 7 "turns_at" ["places","sums"] (sp_turns_at K)):Def P w K mg base 8 "mended" ["cell"] (sp_mended K):=by
 refine F.def sc_mended (fun _ _ _ _ _ _ us hl=>match us,hl with | [_],_=>rfl) (fun vs H Q E h=>?_) (fun f cdv A outer s H vs Q E hr h=>?_)
 ·obtain ⟨l,f,rfl,_⟩:=h
  rfl
 ·obtain ⟨l,f,rfl,hl,cf,q1,q2⟩:=h
  refine ⟨_,pss_cons (ps_set (i:=1) sc_mended.nd rfl (Or.inl rfl) (pe_def (D_troubles.mono (by decide)) hr passN (pa_cons (pv 0) pa_nil)))
   (pss_cons (ps_if (pt_cmpR (op_eqIK K (hu16 hr)) (pv 1) (pe_op op_rep (pe_lst (pa_cons pe_int pa_nil)) (pe_gint T.cSUMS)) (nomark _))
    (pss_one (ps_ret (pe_callTy (call_listK K) (by rfl) T.n_list boot_list (pa_cons (pv 0) pa_nil))))
    (pss_nil))
   (pss_cons (ps_set (i:=2) sc_mended.nd rfl (Or.inl rfl) (pe_def (D_turned_places.mono (by decide)) hr passN (pa_cons (pv 1) pa_nil)))
   (pss_cons (ps_set (i:=3) sc_mended.nd rfl (Or.inl rfl) (pe_callTy (call_listK K) (by rfl) T.n_list boot_list (pa_cons (pv 0) pa_nil)))
   (pss_cons (PS.nox (ps_for PassesOwn.never rfl (pi_zipK K (by rfl) T.n_zip (pa_cons (pv 2) (pa_cons (pe_def (D_turns_at.mono (by decide)) hr passN (pa_cons (pv 2) (pa_cons (pv 1) pa_nil))) pa_nil))) (pg_twoK K (i:=4) (j:=5) rfl sc_mended.nd rfl rfl (Or.inl rfl) (Or.inl rfl))
    (pss_one (ps_asg (pe_op op_mod (pe_op op_sub (pe_ix (ix_listK K) (pv 3) (pv 4) (fun _ _=>rfl)) (pv 5)) (pe_gint T.cSIGNS)) (pg_sub (pv 3) (pv 4) set_list)))))
   (pss_one (ps_ret (pe_ifExp (pt_val (pe_def (D_is_sealed.mono (by decide)) hr passN (pa_cons (pv 3) pa_nil))) (pv 3) pe_non))))))),?_⟩
  have mp:∀ n (g:Nat→Int),tabI n g=((List.range n).map g).map V.int:=fun n g=>(tab_map n g).symm
  refine ⟨_,rfl,l,f,rfl,hl,cf,fun p1 H1 hp1 s1 h1=>?_⟩
  have bs:∀ j,j < 6→0≤My.T (My.St j) 24 f∧My.T (My.St j) 24 f < 97:=fun j _=>⟨My.T_lo _ _ _,My.T_hi _ _ _⟩
  refine ⟨_,rfl,by show 1≤sizeLine;decide,fun a1 ha1=>?_⟩
  refine ⟨a1,_,_,rfl,rfl,upd_same,by decide,by decide,by decide,fun a2 ha2=>?_⟩
  have s2:=((Same.refl H1).new (o:=.lst [V.int 0]) ha1).new (o:=.lst (List.replicate (6:Int).toNat [V.int 0]).flatten) ha2
  have h12:=s2 _ _ h1
  refine ⟨p1,a2,(List.range 6).map fun j=>My.T (My.St j) 24 f,(List.range 6).map fun _=>0,rfl,rfl,SqL.of (by rw [← mp];exact h12),SqL.of (by rw [upd_same];rfl),_,rfl,?_⟩
  have sA:=s1.trans s2
  generalize upd (upd H1 a1 (.lst [V.int 0])) a2 (.lst (List.replicate (6:Int).toNat [V.int 0]).flatten)=H2 at *
  by_cases hz:(List.range 6).map (fun j=>My.T (My.St j) 24 f)=(List.range 6).map fun _=>(0:Int)
  ·refine iteY hz ?_
   have sl:My.Sealed f:=sealedB_iff.mp (by unfold sealedB;exact decide_eq_true hz)
   refine ⟨_,rfl,l,_,rfl,.inl (sA.seq hl),fun p hp=>?_⟩
   exact q1 f p _ (My.Mend.self cf.b sl) (sA.free hp) (sA.new hp) upd_same
  ·refine iteN hz ?_
   have sl:¬ My.Sealed f:=fun z=>hz (by have:=sealedB_iff.mpr z;unfold sealedB at this;exact of_decide_eq_true this)
   refine ⟨_,rfl,p1,_,rfl,SqL.of h12,bs,fun p3 H3 ps hp3 s3 h3 pl=>?_⟩
   have sB:=sA.trans s3
   refine ⟨_,rfl,l,_,rfl,.inl (sB.seq hl),fun p4 hp4=>?_⟩
   have s4:=(Same.refl H3).new (o:=.lst (tabI 24 f)) hp4
   have h4:(upd H3 p4 (.lst (tabI 24 f))) p4=some (.lst (tabI 24 f)):=upd_same
   have h34:=s4 _ _ h3
   have h14:=s4 _ _ (s3 _ _ h12)
   generalize hH4:upd H3 p4 (.lst (tabI 24 f))=H4 at *
   refine ⟨_,rfl,_,rfl,_,rfl,p3,p1,ps,_,rfl,h34,SqL.of h14,pl.nd,pl.b,pl.few,fun p5 H5 x hp5 s5 h5 bx hx=>?_⟩
   have h35:=s5 _ _ h34
   rw [nats_tab] at h35
   have n45:p4≠p5:=ne_of_none h4 hp5
   refine ⟨p3,p5,rfl,⟨_,SqL.of h35⟩,⟨_,SqL.of h5⟩,?_⟩
   have f3:H3 p4=none:=hp4
   have n43:p3≠p4:=ne_of_none h3 f3
   refine for_zip (K:=K) (a:=p3) (b:=p5) (xs:=tabI ps.length fun q=>((ps.getD q 0:Nat):Int)) (ys:=tabI ps.length x) (by rw [tab_len,tab_len])
    (fun k σ H6=>∃ v1 v2:Option V,σ=[some (.ref l),some (.ref p1),some (.ref p3),some (.ref p4),v1,v2]∧Same H3 H6∧H6 p4=some (.lst (tabI 24 (My.fnd f ps x k)))∧H6 p3=some (.lst (tabI ps.length fun q=>((ps.getD q 0:Nat):Int)))∧H6 p5=some (.lst (tabI ps.length x)))
    ⟨none,none,rfl,s4.trans s5,s5 _ _ h4,h35,h5⟩ (fun k σ H6 _ ⟨_,_,_,_,_,z3,z5⟩=>⟨SqL.of z3,SqL.of z5⟩) ?_ ?_
   ·rintro k u v pp σ H6 hu hv ⟨v1,v2,rfl,s6,h6,z3,z5⟩ hpp
    obtain ⟨hk,rfl⟩:=tab_of hu
    obtain ⟨_,rfl⟩:=tab_of hv
    have hg:ps.getD k 0 < 24:=pl.b _ (by rw [My.getD_get hk];exact List.getElem_mem _)
    have np:p4≠pp:=ne_of_none h6 hpp
    have n3:p3≠pp:=ne_of_none z3 hpp
    have n5:p5≠pp:=ne_of_none z5 hpp
    have h6':(upd H6 pp (.tup [V.int ((ps.getD k 0:Nat):Int),V.int (x k)])) p4=some (.lst (tabI 24 (My.fnd f ps x k))):=by rw [upd_ne np];exact h6
    refine take_two (SqT.of upd_same) ?_
    refine ⟨_,rfl,_,rfl,p4,_,_,_,rfl,rfl,SqL.of h6',tab_at (by dsimp only;omega) (by dsimp only;omega),_,rfl,_,_,rfl,rfl,_,_,rfl,rfl,(by show (0:Int) < 97;decide),_,rfl,_,rfl,p4,_,_,_,rfl,rfl,h6',tab_ix (by dsimp only;omega) (by dsimp only;omega),?_⟩
    dsimp only
    rw [Int.toNat_natCast,fnd_tab hg]
    refine ⟨_,_,rfl,(s6.new hpp).put f3,upd_same,?_,?_⟩
    ·rw [upd_ne n43,upd_ne n3];exact z3
    ·rw [upd_ne (Ne.symm n45),upd_ne n5];exact z5
   ·rintro σ H6 ⟨v1,v2,rfl,s6,h6,z3,z5⟩
    rw [tab_len] at h6
    have cfn:IsCell 24 (My.fnd f ps x ps.length):=⟨My.fnd_b ps x cf.b ps.length⟩
    have sC:=sB.trans s6
    refine ⟨_,rfl,p4,_,rfl,SqL.of h6,cfn,fun H7 s7=>⟨_,rfl,?_⟩⟩
    by_cases hs:My.Sealed (My.fnd f ps x ps.length)
    ·rw [sealedB_iff.mpr hs]
     refine iteT ?_
     refine ⟨_,rfl,?_⟩
     exact q1 _ p4 H7 (My.found_mend cf.b pl.nd pl.few hs) (sB.free f3) (sC.trans s7) (s7 _ _ h6)
    ·rw [sealedB_no hs]
     refine iteF ?_
     refine q2 (fun g hm=>hs ?_) H7 (sC.trans s7)
     exact hm.sealed.congr fun i hi=>(My.mend_found cf.b hm sl pl hx i hi).symm
def sp_is_readable (K:PySem.W.Frag):Sp:=fun vs H Q _=>∃ (l:Addr) (f:Nat→Int),vs=[.ref l]∧SqL K H l (tabI 24 f)∧IsCell 24 f ∧
 (∀ g H',My.Mend f g→Same H H'→Q (.bl true) H')∧((∀ g,¬ My.Mend f g)→∀ H',Same H H'→Q (.bl false) H')
theorem sc_is_readable:FnScope ["cell"] ["cell"] (defScope s_is_readable):=⟨rfl,rfl,rfl,by decide +kernel,rfl,by decide +kernel,by decide +kernel⟩
theorem ok_is_readable (F:Site K mg "is_readable" s_is_readable) (D_mended:Def P w K mg base 8 "mended" ["cell"] (sp_mended K)):Def P w K mg base 9 "is_readable" ["cell"] (sp_is_readable K):=by
 refine F.def sc_is_readable (fun _ _ _ _ _ _ us hl=>match us,hl with | [_],_=>rfl) (fun vs H Q E h=>?_) (fun f cdv A outer s H vs Q E hr h=>?_)
 ·obtain ⟨l,f,rfl,_⟩:=h
  rfl
 ·obtain ⟨l,f,rfl,hl,cf,q1,q2⟩:=h
  refine ⟨_,pss_one (ps_ret (pe_cmpR op_notN (pe_def (D_mended.mono (by decide)) hr passN (pa_cons (pv 0) pa_nil)) pe_non (nomark _))),?_⟩
  refine ⟨_,rfl,l,f,rfl,hl,cf,fun g p H' hm hp s1 h1=>?_,fun hn H' s1=>?_⟩
  ·exact ⟨rfl,q1 g H' hm s1⟩
  ·exact ⟨rfl,q2 hn H' s1⟩
end
end K34
namespace K34
open PySem L2 PyProof.Rows
section
variable {P:Program} {w:World} {K:PySem.W.Frag} {mg:Str→Option Value} {base:Heap} {t:Ad}
structure Ev where
 w:Str
 p:Int × Int
 ns:List Int
structure Lk where
 q:Int
 s:Int
 d:Int
 u:Int
 b:Int
 k:Int
 p:Option (Int × Int)
 ev:List Ev
def fldL (q s d u b k:Int) (pv:V) (tA pA:Addr):List (Str × V):=[("quiet",.int q),("side",.int s),("done",.int d),("unheard",.int u),("birth",.int b),("known",.int k),("pair",pv),("told",.ref tA),("pieces",.ref pA),("offered",.int 0),("taken",.int 0)]
section
variable {q s d u b k x:Int} {pv v:V} {tA pA y:Addr}
theorem g_quiet:(fldL q s d u b k pv tA pA).lookup ("quiet":Str)=some (.int q):=rfl
theorem g_side:(fldL q s d u b k pv tA pA).lookup ("side":Str)=some (.int s):=rfl
theorem g_done:(fldL q s d u b k pv tA pA).lookup ("done":Str)=some (.int d):=rfl
theorem g_unheard:(fldL q s d u b k pv tA pA).lookup ("unheard":Str)=some (.int u):=rfl
theorem g_birth:(fldL q s d u b k pv tA pA).lookup ("birth":Str)=some (.int b):=rfl
theorem g_known:(fldL q s d u b k pv tA pA).lookup ("known":Str)=some (.int k):=rfl
theorem g_pair:(fldL q s d u b k pv tA pA).lookup ("pair":Str)=some pv:=rfl
theorem g_told:(fldL q s d u b k pv tA pA).lookup ("told":Str)=some (.ref tA):=rfl
theorem g_pieces:(fldL q s d u b k pv tA pA).lookup ("pieces":Str)=some (.ref pA):=rfl
theorem g_offered:(fldL q s d u b k pv tA pA).lookup ("offered":Str)=some (.int 0):=rfl
theorem g_taken:(fldL q s d u b k pv tA pA).lookup ("taken":Str)=some (.int 0):=rfl
theorem s_done_:putF "done" (.int x) (fldL q s d u b k pv tA pA)=fldL q s x u b k pv tA pA:=rfl
theorem s_unheard_:putF "unheard" (.int x) (fldL q s d u b k pv tA pA)=fldL q s d x b k pv tA pA:=rfl
theorem s_birth_:putF "birth" (.int x) (fldL q s d u b k pv tA pA)=fldL q s d u x k pv tA pA:=rfl
theorem s_known_:putF "known" (.int x) (fldL q s d u b k pv tA pA)=fldL q s d u b x pv tA pA:=rfl
theorem s_pair_:putF "pair" v (fldL q s d u b k pv tA pA)=fldL q s d u b k v tA pA:=rfl
theorem s_told_:putF "told" (.ref y) (fldL q s d u b k pv tA pA)=fldL q s d u b k pv y pA:=rfl
theorem s_pieces_:putF "pieces" (.ref y) (fldL q s d u b k pv tA pA)=fldL q s d u b k pv tA y:=rfl
theorem s_offered_:putF "offered" (.int 0) (fldL q s d u b k pv tA pA)=fldL q s d u b k pv tA pA:=rfl
theorem s_taken_:putF "taken" (.int 0) (fldL q s d u b k pv tA pA)=fldL q s d u b k pv tA pA:=rfl
end
def PairV (H:Hp) (pv:V):Option (Int × Int)→Prop
 | none=>pv=.non
 | some p=>∃ a,pv=.ref a∧H a=some (.tup [.int p.1,.int p.2])
def IsEv (H:Hp) (a:Addr) (e:Ev):Prop:=∃ pa,H a=some (.tup (.str e.w :: .ref pa :: e.ns.map V.int))∧H pa=some (.tup [.int e.p.1,.int e.p.2])
def IsEvs (H:Hp) (l:Addr) (es:List Ev):Prop:=∃ eas:Nat→Addr,H l=some (.lst (tabR es.length eas))∧∀ y e,es[y]?=some e→IsEv H (eas y) e
structure LkAt (C:Addr) (H:Hp) (x tA pA:Addr) (L:Lk):Prop where
 at_:∃ dx pv,H x=some (.ins C dx (fldL L.q L.s L.d L.u L.b L.k pv tA pA))∧PairV H pv L.p
 told:IsEvs H tA L.ev
 pcs:H pA=some (.lst [])
 ne:tA≠pA
def Keep3 (a b c:Addr) (H H':Hp):Prop:=∀ x o,x≠a→x≠b→x≠c→H x=some o→H' x=some o
theorem Keep3.refl {a b c:Addr} {H:Hp}:Keep3 a b c H H:=fun _ _ _ _ _ h=>h
theorem Keep3.trans {a b c:Addr} {H H1 H2:Hp} (h:Keep3 a b c H H1) (g:Keep3 a b c H1 H2):Keep3 a b c H H2:=fun x o n1 n2 n3 e=>g x o n1 n2 n3 (h x o n1 n2 n3 e)
theorem Keep3.same {a b c:Addr} {H H1 H2:Hp} (h:Keep3 a b c H H1) (g:Same H1 H2):Keep3 a b c H H2:=fun x o n1 n2 n3 e=>g x o (h x o n1 n2 n3 e)
theorem Keep3.put1 {a b c:Addr} {H:Hp} {o:HO}:Keep3 a b c H (upd H a o):=fun x u n1 _ _ e=>by rw [upd_ne n1];exact e
structure Mvd (H H':Hp) (x tA pA tB pB:Addr):Prop where
 k:Keep3 x tA pA H H'
 g:∀ b,H' b=none→H b=none
 t:tB=tA∨H tB=none
 p:pB=pA∨H pB=none
theorem Mvd.refl {H:Hp} {x tA pA:Addr}:Mvd H H x tA pA tA pA:=⟨Keep3.refl,fun _ h=>h,.inl rfl,.inl rfl⟩
theorem Mvd.trans {H H1 H2:Hp} {x tA pA tB pB tC pC:Addr} (a:Mvd H H1 x tA pA tB pB) (b:Mvd H1 H2 x tB pB tC pC):Mvd H H2 x tA pA tC pC:=by
 have ne:∀ {y z:Addr} {o:HO},H y=some o→y≠z→(∀ {w:Addr},(w=z∨H w=none)→y≠w):=fun {y z o} e n {w} h=>h.elim (fun q=>q ▸ n) (fun q=>ne_of_none e q)
 refine ⟨fun y o n1 n2 n3 e=>b.k y o n1 (ne e n2 a.t) (ne e n3 a.p) (a.k y o n1 n2 n3 e),fun y h=>a.g y (b.g y h),?_,?_⟩
 ·rcases b.t with z | z
  ·rw [z];exact a.t
  ·exact .inr (a.g _ z)
 ·rcases b.p with z | z
  ·rw [z];exact a.p
  ·exact .inr (a.g _ z)
theorem Mvd.same {H H1 H2:Hp} {x tA pA tB pB:Addr} (a:Mvd H H1 x tA pA tB pB) (s:Same H1 H2):Mvd H H2 x tA pA tB pB:=⟨a.k.same s,fun y h=>a.g y (s.free h),a.t,a.p⟩
theorem Mvd.of_same {H H1:Hp} {x tA pA:Addr} (s:Same H H1):Mvd H H1 x tA pA tA pA:=Mvd.refl.same s
theorem upd_free {H:Hp} {x b:Addr} {o:HO} (h:(upd H x o) b=none) (hx:H x≠none):H b=none:=by
 by_cases z:b=x
 ·subst z;rw [upd_same] at h;cases h
 ·rw [upd_ne z] at h;exact h
theorem PairV.mono {H H':Hp} {pv:V} {o:Option (Int × Int)} (h:PairV H pv o) (k:∀ a xs,H a=some (.tup xs)→H' a=some (.tup xs)):PairV H' pv o:=by
 cases o with
 | none=>exact h
 | some p=>obtain ⟨a,e,g⟩:=h;exact ⟨a,e,k _ _ g⟩
theorem IsEv.mono {H H':Hp} {a:Addr} {e:Ev} (h:IsEv H a e) (k:∀ a xs,H a=some (.tup xs)→H' a=some (.tup xs)):IsEv H' a e:=by
 obtain ⟨pa,g1,g2⟩:=h
 exact ⟨pa,k _ _ g1,k _ _ g2⟩
section
variable {C:Addr} {H H':Hp} {x tA pA:Addr} {L:Lk}
theorem LkAt.hx (h:LkAt C H x tA pA L):H x≠none:=by obtain ⟨⟨_,_,g,_⟩,_⟩:=h;rw [g];exact fun z=>by cases z
theorem LkAt.ht (h:LkAt C H x tA pA L):H tA≠none:=by obtain ⟨_,g,_⟩:=h.told;rw [g];exact fun z=>by cases z
theorem LkAt.hp (h:LkAt C H x tA pA L):H pA≠none:=by rw [h.pcs];exact fun z=>by cases z
theorem LkAt.xt (h:LkAt C H x tA pA L):x≠tA:=fun z=>by obtain ⟨⟨_,_,g,_⟩,⟨_,g2,_⟩,_⟩:=h;rw [z,g2] at g;cases g
theorem LkAt.xp (h:LkAt C H x tA pA L):x≠pA:=fun z=>by obtain ⟨⟨_,_,g,_⟩,_,g2,_⟩:=h;rw [z,g2] at g;cases g
theorem LkAt.tup (h:LkAt C H x tA pA L) (k:Keep3 x tA pA H H'):∀ a xs,H a=some (.tup xs)→H' a=some (.tup xs):=fun a xs e=>by
 obtain ⟨⟨_,_,g,_⟩,⟨_,g2,_⟩,g3,_⟩:=h
 exact k a _ (fun z=>by rw [z,g] at e;cases e) (fun z=>by rw [z,g2] at e;cases e) (fun z=>by rw [z,g3] at e;cases e) e
theorem LkAt.same (h:LkAt C H x tA pA L) (s:Same H H'):LkAt C H' x tA pA L:=by
 obtain ⟨⟨dx,pv,g,gp⟩,⟨eas,g2,g2'⟩,g3,g4⟩:=h
 exact ⟨⟨dx,pv,s _ _ g,gp.mono fun a xs e=>s _ _ e⟩,⟨eas,s _ _ g2,fun y e he=>(g2' y e he).mono fun a xs e=>s _ _ e⟩,s _ _ g3,g4⟩
theorem LkAt.far {y tY pY tB pB:Addr} {M:Lk} (h:LkAt C H y tY pY M) (hx:LkAt C H x tA pA L) (m:Mvd H H' x tA pA tB pB) (n:y≠x) (n1:tY≠tA) (n2:tY≠pA) (n3:pY≠tA) (n4:pY≠pA):LkAt C H' y tY pY M:=by
 have nx1:tY≠x:=fun z=>by obtain ⟨⟨_,_,g,_⟩,_⟩:=hx;obtain ⟨_,g2,_⟩:=h.told;rw [z,g] at g2;cases g2
 have nx2:pY≠x:=fun z=>by obtain ⟨⟨_,_,g,_⟩,_⟩:=hx;have g2:=h.pcs;rw [z,g] at g2;cases g2
 have ny1:y≠tA:=fun z=>by obtain ⟨⟨_,_,g,_⟩,_⟩:=h;obtain ⟨_,g2,_⟩:=hx.told;rw [z,g2] at g;cases g
 have ny2:y≠pA:=fun z=>by obtain ⟨⟨_,_,g,_⟩,_⟩:=h;have g2:=hx.pcs;rw [z,g2] at g;cases g
 obtain ⟨⟨dx,pv,g,gp⟩,⟨eas,g2,g2'⟩,g3,g4⟩:=h
 exact ⟨⟨dx,pv,m.k _ _ n ny1 ny2 g,gp.mono (hx.tup m.k)⟩,⟨eas,m.k _ _ nx1 n1 n2 g2,fun y e he=>(g2' y e he).mono (hx.tup m.k)⟩,m.k _ _ nx2 n3 n4 g3,g4⟩
theorem LkAt.set {dx:Addr} {pv:V} {L':Lk} (h:LkAt C H x tA pA L) (hp:PairV H pv L'.p) (e:L'.ev=L.ev) :
  LkAt C (upd H x (.ins C dx (fldL L'.q L'.s L'.d L'.u L'.b L'.k pv tA pA))) x tA pA L'∧Mvd H (upd H x (.ins C dx (fldL L'.q L'.s L'.d L'.u L'.b L'.k pv tA pA))) x tA pA tA pA:=by
 have k:Keep3 x tA pA H (upd H x (.ins C dx (fldL L'.q L'.s L'.d L'.u L'.b L'.k pv tA pA))):=Keep3.put1
 have tu:=h.tup k
 refine ⟨⟨⟨dx,pv,upd_same,hp.mono tu⟩,?_,by rw [upd_ne (Ne.symm h.xp)];exact h.pcs,h.ne⟩,k,fun b hb=>upd_free hb h.hx,.inl rfl,.inl rfl⟩
 obtain ⟨eas,g2,g2'⟩:=h.told
 rw [e]
 exact ⟨eas,by rw [upd_ne (Ne.symm h.xt)];exact g2,fun y e he=>(g2' y e he).mono tu⟩
theorem LkAt.tell {ea pa:Addr} {eas:Nat→Addr} {w:Str} {p:Int × Int} {ns:List Int} (h:LkAt C H x tA pA L) (g:H tA=some (.lst (tabR L.ev.length eas))) (g':∀ y e,L.ev[y]?=some e→IsEv H (eas y) e) (hp:H pa=some (.tup [.int p.1,.int p.2])) (he:H ea=none) :
  LkAt C (upd (upd H ea (.tup (.str w :: .ref pa :: ns.map V.int))) tA (.lst (tabR L.ev.length eas ++ [.ref ea]))) x tA pA { L with ev:=L.ev ++ [⟨w,p,ns⟩] } ∧
  Mvd H (upd (upd H ea (.tup (.str w :: .ref pa :: ns.map V.int))) tA (.lst (tabR L.ev.length eas ++ [.ref ea]))) x tA pA tA pA:=by
 have s1:Same H (upd H ea (.tup (.str w :: .ref pa :: ns.map V.int))):=(Same.refl _).new he
 have nte:tA≠ea:=ne_of_none g he
 have e1:(upd H ea (.tup (.str w :: .ref pa :: ns.map V.int))) ea=some (.tup (.str w :: .ref pa :: ns.map V.int)):=upd_same
 have h1:=h.same s1
 have g1:=s1 _ _ g
 have tu:∀ a xs,(upd H ea (.tup (.str w :: .ref pa :: ns.map V.int))) a=some (.tup xs)→(upd (upd H ea (.tup (.str w :: .ref pa :: ns.map V.int))) tA (.lst (tabR L.ev.length eas ++ [.ref ea]))) a=some (.tup xs):=fun a xs e=>by
  rw [upd_ne (fun z=>by rw [z,g1] at e;cases e)];exact e
 refine ⟨⟨?_,?_,by rw [upd_ne (Ne.symm h.ne)];exact h1.pcs,h.ne⟩,⟨fun y o n1 n2 n3 e=>by rw [upd_ne n2];exact s1 _ _ e,fun b hb=>s1.free (upd_free hb h1.ht),.inl rfl,.inl rfl⟩⟩
 ·obtain ⟨dx,pv,gx,gp⟩:=h1.at_
  exact ⟨dx,pv,by rw [upd_ne h.xt];exact gx,gp.mono tu⟩
 ·refine ⟨fun y=>if y=L.ev.length then ea else eas y,by rw [tabR_snoc];show _=some (HO.lst (tabR (L.ev ++ [_]).length _));rw [List.length_append];exact upd_same,fun y e hy=>?_⟩
  by_cases z:y=L.ev.length
  ·subst z
   rw [show ({ L with ev:=L.ev ++ [⟨w,p,ns⟩] }:Lk).ev=L.ev ++ [⟨w,p,ns⟩] from rfl,List.getElem?_append_right (Nat.le_refl _),Nat.sub_self] at hy
   cases hy
   simp only [if_true]
   exact ⟨pa,tu _ _ e1,tu _ _ (s1 _ _ hp)⟩
  ·have hy2:y < (L.ev ++ [(⟨w,p,ns⟩:Ev)]).length:=(List.getElem?_eq_some_iff.mp hy).1
   rw [List.length_append] at hy2
   have hy':y < L.ev.length:=by simp at hy2;omega
   rw [show ({ L with ev:=L.ev ++ [⟨w,p,ns⟩] }:Lk).ev=L.ev ++ [⟨w,p,ns⟩] from rfl,List.getElem?_append_left hy'] at hy
   simp only [z,if_false]
   exact ((g' y e hy).mono fun a xs e=>s1 _ _ e).mono tu
end
def endL (L:Lk):Lk:={ L with p:=none }
def meetL (L:Lk) (n:Int):Lk:=match L.p with
 | none=>{ L with k:=n }
 | some p=>if L.k < n then { L with p:=none,k:=n,ev:=L.ev ++ [⟨"anew",p,[]⟩] } else { L with k:=n }
def comeL (L:Lk):Lk:=match L.p with
 | none=>{ L with p:=some (if L.s=0 then (L.b,L.k) else (L.k,L.b)),ev:=L.ev ++ [⟨"up",if L.s=0 then (L.b,L.k) else (L.k,L.b),[]⟩] }
 | some _=>L
def overL (L:Lk):Lk:=match L.p with
 | none=>{ L with b:=L.b+1,k:=0 }
 | some p=>{ L with p:=none,b:=L.b+1,k:=0,ev:=L.ev ++ [⟨"silent",p,[L.d - L.q+1,L.d]⟩] }
def readL (L:Lk) (n o:Int):Lk:=if n < L.k then L else if o=(meetL L n).b then comeL (meetL L n) else meetL L n
end
end K34
namespace K34
open PySem L2 PyProof.Rows
section
variable {P:Program} {w:World} {K:PySem.W.Frag} {mg:Str→Option Value} {base:Heap} {t:Ad}
def sp_forget_pieces (C:Addr):Sp:=fun vs H Q _=>∃ (x dx:Addr) (fs:List (Str × V)),vs=[.ref x]∧H x=some (.ins C dx fs)∧fs.length < 900∧∀ pB,H pB=none→Q .non (upd (upd H pB (.lst [])) x (.ins C dx (putF "taken" (.int 0) (putF "offered" (.int 0) (putF "pieces" (.ref pB) fs)))))
theorem putF_len (f:Str) (v:V):∀ fs:List (Str × V),(putF f v fs).length≤fs.length+1
 | []=>Nat.le_refl _
 | (g,x) :: r=>by
  unfold putF
  split
  ·rw [List.length_cons,List.length_cons];omega
  ·rw [List.length_cons,List.length_cons];have:=putF_len f v r;omega
theorem sc_forget_pieces:FnScope ["self"] ["self"] (defScope s_forget_pieces):=⟨rfl,rfl,rfl,by decide +kernel,rfl,by decide +kernel,by decide +kernel⟩
theorem ok_forget_pieces {fd:FuncData} (T:Txt K mg t) (F:Fun K "forget_pieces" "LinkEnd.forget_pieces" s_forget_pieces t.m_forget_pieces fd) :
  FnOk P w K mg base (CX1 P w) 1 t.m_forget_pieces fd ["self"] (sp_forget_pieces t.LinkEnd)∧Binds K fd ["self"] []:=by
 refine ⟨F.ok1q sc_forget_pieces (fun vs H Q E h=>?_) (fun f cdv A outer s H vs Q E hr h=>?_),F.binds fun _ _ _ _ _ _ us hl=>match us,hl with | [_],_=>rfl⟩
 ·obtain ⟨x,dx,fs,rfl,_⟩:=h
  rfl
 ·obtain ⟨x,dx,fs,rfl,hx,hl,q⟩:=h
  refine ⟨_,pss_cons (ps_fldK K (pv 0) (pe_lst pa_nil) (by rfl))
   (pss_cons (ps_fldK K (pv 0) pe_int (by rfl))
   (pss_one (ps_fldK K (pv 0) pe_int (by rfl)))),?_⟩
  refine ⟨by show 0≤sizeLine;decide,fun pB hpB=>?_⟩
  have n1:x≠pB:=ne_of_none hx hpB
  have l1:=putF_len "pieces" (.ref pB) fs
  have l2:=putF_len "offered" (.int 0) (putF "pieces" (.ref pB) fs)
  refine ⟨_,rfl,x,t.LinkEnd,dx,fs,rfl,by rw [upd_ne n1];exact hx,T.cLinkEnd,T.na_pieces,by omega,?_⟩
  refine ⟨_,rfl,x,t.LinkEnd,dx,_,rfl,upd_same,T.cLinkEnd,T.na_offered,by omega,?_⟩
  rw [upd_upd]
  refine ⟨_,rfl,x,t.LinkEnd,dx,_,rfl,upd_same,T.cLinkEnd,T.na_taken,by omega,?_⟩
  rw [upd_upd]
  exact q pB hpB
def sp_end_up (C:Addr):Sp:=fun vs H Q _=>∃ (x tA pA:Addr) (L:Lk),vs=[.ref x]∧LkAt C H x tA pA L∧∀ H' pB,Mvd H H' x tA pA tA pB→LkAt C H' x tA pB (endL L)→Q .non H'
theorem sc_end_up:FnScope ["self"] ["self"] (defScope s_end_up):=⟨rfl,rfl,rfl,by decide +kernel,rfl,by decide +kernel,by decide +kernel⟩
theorem ok_end_up {fd fd1:FuncData} (T:Txt K mg t) (F:Fun K "end_up" "LinkEnd.end_up" s_end_up t.m_end_up fd) (F_forget_pieces:FnOk P w K mg base (CX1 P w) 1 t.m_forget_pieces fd1 ["self"] (sp_forget_pieces t.LinkEnd)) (B_forget_pieces:Binds K fd1 ["self"] []) :
  FnOk P w K mg base (CX1 P w) 2 t.m_end_up fd ["self"] (sp_end_up t.LinkEnd)∧Binds K fd ["self"] []:=by
 refine ⟨F.ok1q sc_end_up (fun vs H Q E h=>?_) (fun f cdv A outer s H vs Q E hr h=>?_),F.binds fun _ _ _ _ _ _ us hl=>match us,hl with | [_],_=>rfl⟩
 ·obtain ⟨x,tA,pA,L,rfl,_⟩:=h
  rfl
 ·obtain ⟨x,tA,pA,L,rfl,h,q⟩:=h
  refine ⟨_,pss_cons (ps_fldK K (pv 0) pe_non (by rfl))
   (pss_one (ps_expr (pe_meth0 (pv 0) T.cLinkEnd T.me_forget_pieces (F_forget_pieces.mono (by decide)) hr B_forget_pieces .nil passN))),?_⟩
  obtain ⟨dx,pv,hx,hp⟩:=h.at_
  refine ⟨_,rfl,x,t.LinkEnd,dx,_,rfl,hx,T.cLinkEnd,T.na_pair,by show 11 < 1000;decide,?_⟩
  rw [s_pair_]
  obtain ⟨h1,m1⟩:=h.set (dx:=dx) (pv:=.non) (L':=endL L) rfl rfl
  refine ⟨_,rfl,x,dx,_,rfl,upd_same,rfl,x,dx,_,rfl,upd_same,by show 11 < 900;decide,fun pB hpB=>?_⟩
  rw [s_pieces_,s_offered_,s_taken_]
  have e:(upd H x (.ins t.LinkEnd dx (fldL L.q L.s L.d L.u L.b L.k .non tA pA)))=(upd H x (.ins t.LinkEnd dx (fldL (endL L).q (endL L).s (endL L).d (endL L).u (endL L).b (endL L).k .non tA pA))):=rfl
  rw [e] at hpB ⊢
  generalize upd H x (.ins t.LinkEnd dx (fldL (endL L).q (endL L).s (endL L).d (endL L).u (endL L).b (endL L).k .non tA pA))=H1 at *
  have s2:Same H1 (upd H1 pB (.lst [])):=(Same.refl _).new hpB
  have h2:=h1.same s2
  have ntp:tA≠pB:=fun z=>h1.ht (z ▸ hpB)
  have nxp:x≠pB:=fun z=>h1.hx (z ▸ hpB)
  refine q _ pB (m1.trans ⟨fun y o n1 n2 n3 e=>by rw [upd_ne n1];exact s2 _ _ e,fun b hb=>s2.free (upd_free hb h2.hx),.inl rfl,.inr hpB⟩) ⟨⟨dx,.non,upd_same,rfl⟩,?_,by rw [upd_ne (Ne.symm nxp)];exact upd_same,ntp⟩
  obtain ⟨eas,g,g'⟩:=h2.told
  refine ⟨eas,by rw [upd_ne (Ne.symm h2.xt)];exact g,fun y e he=>(g' y e he).mono fun a xs e=>?_⟩
  obtain ⟨_,_,gx,_⟩:=h2.at_
  rw [upd_ne (fun z=>by rw [z,gx] at e;cases e)]
  exact e
def sp_meet (C:Addr):Sp:=fun vs H Q _=>∃ (x tA pA:Addr) (L:Lk) (n:Int),vs=[.ref x,.int n]∧LkAt C H x tA pA L∧L.ev.length < 1000000∧∀ H' pB,Mvd H H' x tA pA tA pB→LkAt C H' x tA pB (meetL L n)→Q .non H'
theorem sc_meet:FnScope ["self","birth"] ["self","birth"] (defScope s_meet):=⟨rfl,rfl,rfl,by decide +kernel,rfl,by decide +kernel,by decide +kernel⟩
theorem ok_meet {fd fd1:FuncData} (T:Txt K mg t) (F:Fun K "meet" "LinkEnd.meet" s_meet t.m_meet fd) (F_end_up:FnOk P w K mg base (CX1 P w) 2 t.m_end_up fd1 ["self"] (sp_end_up t.LinkEnd)) (B_end_up:Binds K fd1 ["self"] []) :
  FnOk P w K mg base (CX1 P w) 3 t.m_meet fd ["self","birth"] (sp_meet t.LinkEnd)∧Binds K fd ["self","birth"] []:=by
 refine ⟨F.ok1q sc_meet (fun vs H Q E h=>?_) (fun f cdv A outer s H vs Q E hr h=>?_),F.binds fun _ _ _ _ _ _ us hl=>match us,hl with | [_,_],_=>rfl⟩
 ·obtain ⟨x,tA,pA,L,n,rfl,_⟩:=h
  rfl
 ·obtain ⟨x,tA,pA,L,n,rfl,h,hlen,q⟩:=h
  refine ⟨_,pss_cons (ps_if (PW.pt (pw_and (pt_cmpR op_notN (pe_fldK K (pv 0) (by rfl)) pe_non (nomark _)) (pw_and1 (pt_cmpR op_gt (pv 1) (pe_fldK K (pv 0) (by rfl)) (nomark _)))))
    (pss_cons (ps_expr (pe_bmK K PySem.F.plainAttrs_list PySem.F.slot_list_append PySem.F.type_list_append mt_append (pe_fldK K (pv 0) (by rfl)) (pa_cons (pe_tup (pa_cons pe_str (pa_cons (pe_fldK K (pv 0) (by rfl)) pa_nil))) pa_nil)))
    (pss_one (ps_expr (pe_meth0 (pv 0) T.cLinkEnd T.me_end_up (F_end_up.mono (by decide)) hr B_end_up .nil passN))))
    (pss_nil))
   (pss_one (ps_fldK K (pv 0) (pv 1) (by rfl))),?_⟩
  have hsz:(1000001:Nat)≤sizeLine:=by decide
  obtain ⟨dx,pv,hx,hp⟩:=h.at_
  have last:∀ (H1:Hp) (pB:Addr) (L1:Lk),Mvd H H1 x tA pA tA pB→LkAt t.LinkEnd H1 x tA pB L1→{ L1 with k:=n }=meetL L n→(sFld K (tVar 0) (tVar 1) "known") { nx:=fun _ H'=>Q .non H',rt:=Q } [some (.ref x),some (.int n)] H1:=fun H1 pB L1 m1 h1 e1=>by
   obtain ⟨dx1,pv1,hx1,hp1⟩:=h1.at_
   refine ⟨_,rfl,_,rfl,x,t.LinkEnd,dx1,_,rfl,hx1,T.cLinkEnd,T.na_known,by show 11 < 1000;decide,?_⟩
   rw [s_known_]
   obtain ⟨h2,m2⟩:=h1.set (dx:=dx1) (pv:=pv1) (L':={ L1 with k:=n }) hp1 rfl
   exact q _ pB (m1.trans m2) (by rw [← e1];exact h2)
  refine ⟨_,rfl,x,t.LinkEnd,dx,_,_,rfl,hx,T.cLinkEnd,T.na_pair,g_pair,rfl,_,rfl,?_⟩
  cases ep:L.p with
  | none =>
   rw [ep] at hp
   have hp:pv=.non:=hp
   subst hp
   refine iteNN rfl (iteF ?_)
   exact last H pA L Mvd.refl h (by unfold meetL;rw [ep])
  | some p =>
   rw [ep] at hp
   obtain ⟨pa,rfl,hpa⟩:=hp
   refine iteNY (fun z=>by cases z) ?_
   refine ⟨_,rfl,_,rfl,x,t.LinkEnd,dx,_,_,rfl,hx,T.cLinkEnd,T.na_known,g_known,_,_,rfl,rfl,_,rfl,?_⟩
   by_cases hk:L.k < n
   ·refine iteY hk ?_
    obtain ⟨eas,g,g'⟩:=h.told
    refine ⟨_,rfl,x,t.LinkEnd,dx,_,_,rfl,hx,T.cLinkEnd,T.na_told,g_told,.inl ⟨rfl,_,SqL.of g⟩,?_⟩
    refine ⟨_,rfl,x,t.LinkEnd,dx,_,_,rfl,hx,T.cLinkEnd,T.na_pair,g_pair,by show 2≤sizeLine;decide,fun ea hea=>?_⟩
    refine ⟨tA,_,_,rfl,rfl,by rw [upd_ne (ne_of_none g hea)];exact g,by rw [tab_len];omega,?_⟩
    obtain ⟨h1,m1⟩:=h.tell (w:="anew") (ns:=[]) g g' hpa hea
    obtain ⟨dx1,pv1,hx1,hp1⟩:=h1.at_
    refine ⟨_,rfl,x,dx1,_,rfl,hx1,rfl,x,tA,pA,_,rfl,h1,fun H2 pB m2 h2=>?_⟩
    exact last H2 pB _ (m1.trans m2) h2 (by unfold meetL endL;rw [ep];simp only [if_pos hk])
   ·refine iteN hk ?_
    exact last H pA L Mvd.refl h (by unfold meetL;rw [ep];simp only [if_neg hk])
end
end K34
namespace My
def told (l:List Int):Int:=l.foldl (fun n s=>n * 97+s) 0
def low:Nat→Int→List Int
 | 0,_=>[]
 | m+1,n=>n % 97 :: low m (n / 97)
def rest:Nat→Int→Int
 | 0,n=>n
 | m+1,n=>rest m (n / 97)
theorem low_len:∀ (m:Nat) (n:Int),(low m n).length=m
 | 0,_=>rfl
 | m+1,n=>by rw [low,List.length_cons,low_len]
theorem low_snoc:∀ (m:Nat) (n:Int),low (m+1) n=low m n ++ [rest m n % 97]
 | 0,n=>rfl
 | m+1,n=>by rw [low,low_snoc m (n / 97),low,rest,List.cons_append]
theorem rest_snoc:∀ (m:Nat) (n:Int),rest (m+1) n=rest m n / 97
 | 0,n=>rfl
 | m+1,n=>by rw [rest,rest_snoc m (n / 97),rest]
theorem told_snoc (l:List Int) (s:Int):told (l ++ [s])=told l * 97+s:=by unfold told;rw [List.foldl_append];rfl
theorem rest_nonneg:∀ (m:Nat) (n:Int),0≤n→0≤rest m n
 | 0,n,h=>by rw [rest];exact h
 | m+1,n,h=>by rw [rest];exact rest_nonneg m _ (by omega)
end My
namespace K34
open PySem L2 PyProof.Rows
section
variable {P:Program} {w:World} {K:PySem.W.Frag} {mg:Str→Option Value} {base:Heap} {t:Ad}
def sp_number_signs (C:Addr):Sp:=fun vs H Q E=>∃ n m:Int,vs=[.int n,.int m]∧n.natAbs < 2 ^ 1000∧0≤m∧m≤1000 ∧
 (0≤n→My.rest m.toNat n=0→∀ p H',H p=none→Same H H'→H' p=some (.lst ((My.low m.toNat n).reverse.map V.int))→Q (.ref p) H')∧(n < 0∨0 < My.rest m.toNat n→∀ H',Same H H'→E (.ref C) none H')
theorem sc_number_signs:FnScope ["number","many","signs","left","place"] ["number","many"] (defScope s_number_signs):=⟨rfl,rfl,rfl,by decide +kernel,rfl,by decide +kernel,by decide +kernel⟩
theorem ok_number_signs (F:Site K mg "number_signs" s_number_signs) (T:Txt K mg t):Def P w K mg base 1 "number_signs" ["number","many"] (sp_number_signs t.BadSign):=by
 refine F.def sc_number_signs (fun _ _ _ _ _ _ us hl=>match us,hl with | [_,_],_=>rfl) (fun vs H Q E h=>?_) (fun f cdv A outer s H vs Q E hr h=>?_)
 ·obtain ⟨n,m,rfl,_⟩:=h
  rfl
 ·obtain ⟨n,m,rfl,hb,m0,m1,q1,q2⟩:=h
  refine ⟨_,pss_cons (ps_set (i:=2) sc_number_signs.nd rfl (Or.inl rfl) (pe_lst pa_nil))
   (pss_cons (ps_set (i:=3) sc_number_signs.nd rfl (Or.inl rfl) (pv 0))
   (pss_cons (PS.nox (ps_for PassesOwn.never rfl (pi_range1 (by rfl) T.n_range (pa_cons (pv 1) pa_nil)) (pg_name (i:=4) sc_number_signs.nd rfl (Or.inl rfl))
    (pss_cons (ps_expr (pe_bm PySem.F.plainAttrs_list PySem.F.slot_list_append PySem.F.type_list_append mt_append (pv 2) (pa_cons (pe_op op_mod (pv 3) (pe_gint T.cSIGNS)) pa_nil)))
    (pss_one (ps_set (i:=3) sc_number_signs.nd rfl (Or.inl rfl) (pe_op op_fdiv (pv 3) (pe_gint T.cSIGNS)))))))
   (pss_cons (ps_if (PW.pt (pw_or (pt_cmpR op_lt (pv 0) pe_int (nomark _)) (pw_or1 (pt_cmpR op_gt (pv 3) pe_int (nomark _)))))
    (pss_one (ps_raise cx1_body rfl rfl T.mBadSign T.xBadSign PySem.F.excBase_ValueError (pa_cons (pe_fstr (pj_cons (pe_fmtI (pv 0)) (pj_cons pe_str (pj_cons (pe_fmtI (pv 1)) (pj_cons pe_str pj_nil))))) pa_nil)))
    (pss_nil))
   (pss_one (ps_ret (pe_list_reversed rfl T.n_list T.n_reversed (pv 2))))))),?_⟩
  refine ⟨by show 0≤sizeLine;decide,fun ps hps=>?_⟩
  refine ⟨_,rfl,?_⟩
  have hsz:(2000:Nat)≤sizeLine:=by decide
  refine ⟨_,rfl,m,rfl,by omega,by omega,for_range (lo:=0) (n:=m.toNat) (fun i σ H'=>∃ x:Option V,σ=[some (.int n),some (.int m),some (.ref ps),some (.int (My.rest i n)),x]∧Same H H'∧H' ps=some (.lst ((My.low i n).map V.int))) ⟨none,rfl,(Same.refl _).new hps,upd_same⟩ ?_ ?_⟩
  ·rintro i σ H' hi ⟨x,rfl,s1,h1⟩
   refine ⟨_,rfl,.inl ⟨rfl,_,SqL.of h1⟩,_,rfl,_,_,rfl,rfl,(by show (0:Int) < 97;decide),ps,_,_,rfl,rfl,h1,by rw [List.length_map,My.low_len];omega,?_⟩
   refine ⟨_,rfl,_,_,rfl,rfl,⟨by decide,by decide⟩,?_⟩
   refine ⟨_,by rw [My.rest_snoc];rfl,s1.put hps,?_⟩
   rw [upd_same,My.low_snoc,List.map_append]
   rfl
  ·rintro σ H' ⟨x,rfl,s1,h1⟩
   refine ⟨_,rfl,_,_,rfl,rfl,_,rfl,?_⟩
   have hz:=txt_len hb
   have hz2:=txt_len (i:=m) (small_abs (by omega) (by omega))
   have l1:(" is not told by ":Str).length=16:=by decide +kernel
   have l2:(" signs":Str).length=6:=by decide +kernel
   have sl:(3000:Nat)≤sizeLine:=by decide
   have e0:(Str.empty ++ Str.ofString (toString n)).length≤1001:=by rw [strLen_append];show 0+_≤1001;omega
   have e1:((Str.empty ++ Str.ofString (toString n)) ++ (" is not told by ":Str)).length≤1017:=by rw [strLen_append];omega
   have e2:(((Str.empty ++ Str.ofString (toString n)) ++ (" is not told by ":Str)) ++ Str.ofString (toString m)).length≤2018:=by rw [strLen_append];omega
   have e3:((((Str.empty ++ Str.ofString (toString n)) ++ (" is not told by ":Str)) ++ Str.ofString (toString m)) ++ (" signs":Str)).length≤2024:=by rw [strLen_append];omega
   have bad:n < 0∨0 < My.rest m.toNat n→E (.ref t.BadSign) none H':=fun z=>q2 z H' s1
   by_cases h0:n < 0
   ·refine iteY h0 (iteT ?_)
    refine ⟨_,rfl,n,rfl,log_lt hb (by decide) (by decide),_,rfl,by omega,_,rfl,by omega,_,rfl,m,rfl,log_lt (small_abs (by omega) (by omega)) (by decide) (by decide),_,rfl,by omega,_,rfl,by omega,by omega,?_⟩
    exact ⟨by show 1≤sizeLine;decide,bad (.inl h0)⟩
   ·refine iteN h0 ?_
    refine ⟨_,rfl,_,_,rfl,rfl,_,rfl,?_⟩
    by_cases h2:0 < My.rest m.toNat n
    ·refine iteY h2 ?_
     refine ⟨_,rfl,n,rfl,log_lt hb (by decide) (by decide),_,rfl,by omega,_,rfl,by omega,_,rfl,m,rfl,log_lt (small_abs (by omega) (by omega)) (by decide) (by decide),_,rfl,by omega,_,rfl,by omega,by omega,?_⟩
     exact ⟨by show 1≤sizeLine;decide,bad (.inr h2)⟩
    ·refine iteN h2 ?_
     have r0:=My.rest_nonneg m.toNat n (by omega)
     refine ⟨_,rfl,ps,_,rfl,SqL.of h1,fun p hp=>?_⟩
     refine q1 (by omega) (by omega) p _ (s1.free hp) (s1.new hp) ?_
     rw [upd_same,← List.map_reverse]
def sp_signs_number (K:PySem.W.Frag) (C:Addr):Sp:=fun vs H Q E=>∃ (l:Addr) (ns:List Int),vs=[.ref l]∧SqL K H l (ns.map V.int)∧(∀ n ∈ ns,n.natAbs < 2 ^ 1000) ∧
 ((∀ n ∈ ns,0≤n∧n < 97)→Q (.int (My.told ns)) H)∧(∀ n ∈ ns,¬ (0≤n∧n < 97)→E (.ref C) none H)
theorem sc_signs_number:FnScope ["signs","number","sign"] ["signs"] (defScope s_signs_number):=⟨rfl,rfl,rfl,by decide +kernel,rfl,by decide +kernel,by decide +kernel⟩
theorem ok_signs_number (F:Site K mg "signs_number" s_signs_number) (T:Txt K mg t) (D_look_sign:Def P w K mg base 2 "look_sign" ["number"] (sp_look_sign t.BadSign)):Def P w K mg base 3 "signs_number" ["signs"] (sp_signs_number K t.BadSign):=by
 refine F.def sc_signs_number (fun _ _ _ _ _ _ us hl=>match us,hl with | [_],_=>rfl) (fun vs H Q E h=>?_) (fun f cdv A outer s H vs Q E hr h=>?_)
 ·obtain ⟨l,ns,rfl,_⟩:=h
  rfl
 ·obtain ⟨l,ns,rfl,hl,hb,q1,q2⟩:=h
  refine ⟨_,pss_cons (ps_set (i:=1) sc_signs_number.nd rfl (Or.inl rfl) pe_int)
   (pss_cons (ps_for (own1 cx1_body) rfl (pi_list (pv 0)) (pg_name (i:=2) sc_signs_number.nd rfl (Or.inl rfl))
    (pss_cons (ps_expr (pe_def (D_look_sign.mono (by decide)) hr (pass1 cx1_body) (pa_cons (pv 2) pa_nil)))
    (pss_one (ps_set (i:=1) sc_signs_number.nd rfl (Or.inl rfl) (pe_op op_add (pe_op op_mul (pv 1) (pe_gint T.cSIGNS)) (pv 2))))))
   (pss_one (ps_ret (pv 1)))),?_⟩
  refine ⟨_,rfl,l,rfl,⟨_,hl⟩,for_list (K:=K) (a:=l) (xs:=ns.map V.int) (fun i σ H'=>∃ x:Option V,σ=[some (.ref l),some (.int (My.told (ns.take i))),x]∧H'=H∧∀ n ∈ ns.take i,0≤n∧n < 97) ⟨none,rfl,rfl,fun n hn=>by simp at hn⟩ (fun i σ H' _ ⟨_,_,e,_⟩=>by rw [e];exact hl) ?_ ?_⟩
  ·rintro i y σ H' hi ⟨x,rfl,rfl,ha⟩
   obtain ⟨z,hz,rfl⟩:=item_of hi
   have hm:z ∈ ns:=List.mem_of_getElem? hz
   refine ⟨_,rfl,z,rfl,hb z hm,fun h0=>?_,fun h0=>q2 z hm h0⟩
   refine ⟨_,rfl,_,_,rfl,rfl,.inr ⟨by decide,by decide⟩,_,rfl,_,_,rfl,rfl,?_⟩
   refine ⟨some (.int z),?_,rfl,?_⟩
   ·rw [take_succ hz,My.told_snoc]
    rfl
   ·rw [take_succ hz]
    intro n hn
    rcases List.mem_append.mp hn with z1 | z1
    ·exact ha n z1
    ·rw [List.mem_singleton.mp z1];exact h0
  ·rintro σ H' ⟨x,rfl,rfl,ha⟩
   refine ⟨_,rfl,?_⟩
   rw [List.length_map,List.take_length] at *
   exact q1 ha
end
end K34
namespace K34
open PySem L2 PyProof.Rows
section
variable {P:Program} {w:World} {K:PySem.W.Frag} {mg:Str→Option Value} {base:Heap} {t:Ad}
def sp_come_up (C:Addr):Sp:=fun vs H Q _=>∃ (x tA pA:Addr) (L:Lk),vs=[.ref x]∧LkAt C H x tA pA L∧L.ev.length < 1000000∧∀ H',Mvd H H' x tA pA tA pA→LkAt C H' x tA pA (comeL L)→Q .non H'
theorem sc_come_up:FnScope ["self"] ["self"] (defScope s_come_up):=⟨rfl,rfl,rfl,by decide +kernel,rfl,by decide +kernel,by decide +kernel⟩
theorem ok_come_up {fd:FuncData} (T:Txt K mg t) (F:Fun K "come_up" "LinkEnd.come_up" s_come_up t.m_come_up fd) :
  FnOk P w K mg base (CX1 P w) 1 t.m_come_up fd ["self"] (sp_come_up t.LinkEnd)∧Binds K fd ["self"] []:=by
 refine ⟨F.ok1q sc_come_up (fun vs H Q E h=>?_) (fun f cdv A outer s H vs Q E hr h=>?_),F.binds fun _ _ _ _ _ _ us hl=>match us,hl with | [_],_=>rfl⟩
 ·obtain ⟨x,tA,pA,L,rfl,_⟩:=h
  rfl
 ·obtain ⟨x,tA,pA,L,rfl,h,hlen,q⟩:=h
  refine ⟨_,pss_one (ps_if (pt_cmpR op_isN (pe_fldK K (pv 0) (by rfl)) pe_non (nomark _))
    (pss_cons (ps_fldK K (pv 0) (pe_ifExp (pt_cmpR op_eq (pe_fldK K (pv 0) (by rfl)) pe_int (nomark _)) (pe_tup (pa_cons (pe_fldK K (pv 0) (by rfl)) (pa_cons (pe_fldK K (pv 0) (by rfl)) pa_nil))) (pe_tup (pa_cons (pe_fldK K (pv 0) (by rfl)) (pa_cons (pe_fldK K (pv 0) (by rfl)) pa_nil)))) (by rfl))
    (pss_one (ps_expr (pe_bmK K PySem.F.plainAttrs_list PySem.F.slot_list_append PySem.F.type_list_append mt_append (pe_fldK K (pv 0) (by rfl)) (pa_cons (pe_tup (pa_cons pe_str (pa_cons (pe_fldK K (pv 0) (by rfl)) pa_nil))) pa_nil)))))
    (pss_nil)),?_⟩
  have hsz:(1000001:Nat)≤sizeLine:=by decide
  obtain ⟨dx,pv,hx,hp⟩:=h.at_
  refine ⟨_,rfl,x,t.LinkEnd,dx,_,_,rfl,hx,T.cLinkEnd,T.na_pair,g_pair,rfl,_,rfl,?_⟩
  cases ep:L.p with
  | some p =>
   rw [ep] at hp
   obtain ⟨pa,rfl,hpa⟩:=hp
   refine iteN (fun z=>by cases z) ?_
   exact q H Mvd.refl (by unfold comeL;rw [ep];exact h)
  | none =>
   rw [ep] at hp
   have hp:pv=.non:=hp
   subst hp
   refine iteY rfl ?_
   have main:∀ (pa:Addr) (p:Int × Int),H pa=none→p=(if L.s=0 then (L.b,L.k) else (L.k,L.b))→(∃ a C dx fs,V.ref x=.ref a∧(upd H pa (.tup [.int p.1,.int p.2])) a=some (.ins C dx fs)∧Cls K C∧NoAttr K C "pair"∧fs.length < 1000∧(tDrop (tBM K "list" rAppend (tFld K (tVar 0) "told") (tCons (tTup (tCons (tC (.str "up")) (tCons (tFld K (tVar 0) "pair") tNil))) tNil))) { nx:=fun _ H'=>Q .non H',rt:=Q } [some (.ref x)] (upd (upd H pa (.tup [.int p.1,.int p.2])) a (.ins C dx (putF "pair" (.ref pa) fs)))):=fun pa p hpa ep2=>by
    have s1:Same H (upd H pa (.tup [.int p.1,.int p.2])):=(Same.refl _).new hpa
    have h1:=h.same s1
    refine ⟨x,t.LinkEnd,dx,_,rfl,s1 _ _ hx,T.cLinkEnd,T.na_pair,by show 11 < 1000;decide,?_⟩
    rw [s_pair_]
    obtain ⟨h2,m2⟩:=h1.set (dx:=dx) (pv:=.ref pa) (L':={ L with p:=some p }) ⟨pa,rfl,upd_same⟩ rfl
    have m02:=(Mvd.of_same s1).trans m2
    have hpa2:(upd (upd H pa (.tup [.int p.1,.int p.2])) x (.ins t.LinkEnd dx (fldL L.q L.s L.d L.u L.b L.k (.ref pa) tA pA))) pa=some (.tup [.int p.1,.int p.2]):=by rw [upd_ne (fun z:pa=x=>h.hx (by rw [← z];exact hpa))];exact upd_same
    have hx2:(upd (upd H pa (.tup [.int p.1,.int p.2])) x (.ins t.LinkEnd dx (fldL L.q L.s L.d L.u L.b L.k (.ref pa) tA pA))) x=some (.ins t.LinkEnd dx (fldL L.q L.s L.d L.u L.b L.k (.ref pa) tA pA)):=upd_same
    have h2:LkAt t.LinkEnd (upd (upd H pa (.tup [.int p.1,.int p.2])) x (.ins t.LinkEnd dx (fldL L.q L.s L.d L.u L.b L.k (.ref pa) tA pA))) x tA pA { L with p:=some p }:=h2
    have m02:Mvd H (upd (upd H pa (.tup [.int p.1,.int p.2])) x (.ins t.LinkEnd dx (fldL L.q L.s L.d L.u L.b L.k (.ref pa) tA pA))) x tA pA tA pA:=m02
    generalize upd (upd H pa (.tup [.int p.1,.int p.2])) x (.ins t.LinkEnd dx (fldL L.q L.s L.d L.u L.b L.k (.ref pa) tA pA))=H2 at *
    obtain ⟨eas,g,g'⟩:=h2.told
    refine ⟨_,rfl,x,t.LinkEnd,dx,_,_,rfl,hx2,T.cLinkEnd,T.na_told,g_told,.inl ⟨rfl,_,SqL.of g⟩,?_⟩
    refine ⟨_,rfl,x,t.LinkEnd,dx,_,_,rfl,hx2,T.cLinkEnd,T.na_pair,g_pair,by show 2≤sizeLine;decide,fun ea hea=>?_⟩
    refine ⟨tA,_,_,rfl,rfl,by rw [upd_ne (ne_of_none g hea)];exact g,by rw [tab_len];show L.ev.length < sizeLine;omega,?_⟩
    obtain ⟨h3,m3⟩:=h2.tell (w:="up") (ns:=[]) g g' hpa2 hea
    refine q _ (m02.trans m3) ?_
    have e3:comeL L={ L with p:=some p,ev:=L.ev ++ [⟨"up",p,[]⟩] }:=by unfold comeL;rw [ep,ep2]
    rw [e3]
    exact h3
   refine ⟨_,rfl,x,t.LinkEnd,dx,_,_,rfl,hx,T.cLinkEnd,T.na_side,g_side,rfl,_,rfl,?_⟩
   by_cases hs:L.s=0
   ·refine iteY (by rw [hs]) ?_
    refine ⟨_,rfl,x,t.LinkEnd,dx,_,_,rfl,hx,T.cLinkEnd,T.na_birth,g_birth,_,rfl,x,t.LinkEnd,dx,_,_,rfl,hx,T.cLinkEnd,T.na_known,g_known,by show 2≤sizeLine;decide,fun pa hpa=>?_⟩
    exact ⟨_,rfl,main pa (L.b,L.k) hpa (by rw [if_pos hs])⟩
   ·refine iteN (fun z=>hs (V.int.inj z)) ?_
    refine ⟨_,rfl,x,t.LinkEnd,dx,_,_,rfl,hx,T.cLinkEnd,T.na_known,g_known,_,rfl,x,t.LinkEnd,dx,_,_,rfl,hx,T.cLinkEnd,T.na_birth,g_birth,by show 2≤sizeLine;decide,fun pa hpa=>?_⟩
    exact ⟨_,rfl,main pa (L.k,L.b) hpa (by rw [if_neg hs])⟩
def sp_start_over (C:Addr):Sp:=fun vs H Q _=>∃ (x tA pA:Addr) (L:Lk),vs=[.ref x]∧LkAt C H x tA pA L∧L.ev.length < 1000000∧∀ H' pB,Mvd H H' x tA pA tA pB→LkAt C H' x tA pB (overL L)→Q .non H'
theorem sc_start_over:FnScope ["self"] ["self"] (defScope s_start_over):=⟨rfl,rfl,rfl,by decide +kernel,rfl,by decide +kernel,by decide +kernel⟩
theorem ok_start_over {fd fd1:FuncData} (T:Txt K mg t) (F:Fun K "start_over" "LinkEnd.start_over" s_start_over t.m_start_over fd) (F_end_up:FnOk P w K mg base (CX1 P w) 2 t.m_end_up fd1 ["self"] (sp_end_up t.LinkEnd)) (B_end_up:Binds K fd1 ["self"] []) :
  FnOk P w K mg base (CX1 P w) 3 t.m_start_over fd ["self"] (sp_start_over t.LinkEnd)∧Binds K fd ["self"] []:=by
 refine ⟨F.ok1q sc_start_over (fun vs H Q E h=>?_) (fun f cdv A outer s H vs Q E hr h=>?_),F.binds fun _ _ _ _ _ _ us hl=>match us,hl with | [_],_=>rfl⟩
 ·obtain ⟨x,tA,pA,L,rfl,_⟩:=h
  rfl
 ·obtain ⟨x,tA,pA,L,rfl,h,hlen,q⟩:=h
  refine ⟨_,pss_cons (ps_if (pt_cmpR op_notN (pe_fldK K (pv 0) (by rfl)) pe_non (nomark _))
    (pss_cons (ps_expr (pe_bmK K PySem.F.plainAttrs_list PySem.F.slot_list_append PySem.F.type_list_append mt_append (pe_fldK K (pv 0) (by rfl)) (pa_cons (pe_tup (pa_cons pe_str (pa_cons (pe_fldK K (pv 0) (by rfl)) (pa_cons (pe_op op_add (pe_op op_sub (pe_fldK K (pv 0) (by rfl)) (pe_fldK K (pv 0) (by rfl))) pe_int) (pa_cons (pe_fldK K (pv 0) (by rfl)) pa_nil))))) pa_nil)))
    (pss_one (ps_expr (pe_meth0 (pv 0) T.cLinkEnd T.me_end_up (F_end_up.mono (by decide)) hr B_end_up .nil passN))))
    (pss_nil))
   (pss_cons (ps_fldaug (pv 0) pe_int ip_add)
   (pss_one (ps_fldK K (pv 0) (pe_gint T.cNO_BIRTH) (by rfl)))),?_⟩
  have hsz:(1000001:Nat)≤sizeLine:=by decide
  obtain ⟨dx,pv,hx,hp⟩:=h.at_
  obtain ⟨tk,hNB⟩:=T.cNO_BIRTH
  have last:∀ (H1:Hp) (pB:Addr) (L1:Lk),Mvd H H1 x tA pA tA pB→LkAt t.LinkEnd H1 x tA pB L1→{ L1 with b:=L1.b+1,k:=0 }=overL L→(tSeq (sFldAug K (tVar 0) (tC (.int 1)) (rI0 fun i j=>.int (i+j)) "birth") (sFld K (tVar 0) (tC (.int 0)) "known")) { nx:=fun _ H'=>Q .non H',rt:=Q } [some (.ref x)] H1:=fun H1 pB L1 m1 h1 e1=>by
   obtain ⟨dx1,pv1,hx1,hp1⟩:=h1.at_
   refine ⟨_,rfl,x,t.LinkEnd,dx1,_,_,rfl,hx1,T.cLinkEnd,T.na_birth,g_birth,_,_,rfl,rfl,dx1,_,hx1,by show 11 < 1000;decide,?_⟩
   rw [s_birth_]
   refine ⟨_,rfl,x,t.LinkEnd,dx1,_,rfl,upd_same,T.cLinkEnd,T.na_known,by show 11 < 1000;decide,?_⟩
   rw [s_known_,upd_upd]
   obtain ⟨h2,m2⟩:=h1.set (dx:=dx1) (pv:=pv1) (L':={ L1 with b:=L1.b+1,k:=0 }) hp1 rfl
   exact q _ pB (m1.trans m2) (by rw [← e1];exact h2)
  refine ⟨_,rfl,x,t.LinkEnd,dx,_,_,rfl,hx,T.cLinkEnd,T.na_pair,g_pair,rfl,_,rfl,?_⟩
  cases ep:L.p with
  | none =>
   rw [ep] at hp
   have hp:pv=.non:=hp
   subst hp
   refine iteNN rfl ?_
   exact last H pA L Mvd.refl h (by unfold overL;rw [ep])
  | some p =>
   rw [ep] at hp
   obtain ⟨pa,rfl,hpa⟩:=hp
   refine iteNY (fun z=>by cases z) ?_
   obtain ⟨eas,g,g'⟩:=h.told
   refine ⟨_,rfl,x,t.LinkEnd,dx,_,_,rfl,hx,T.cLinkEnd,T.na_told,g_told,.inl ⟨rfl,_,SqL.of g⟩,?_⟩
   refine ⟨_,rfl,x,t.LinkEnd,dx,_,_,rfl,hx,T.cLinkEnd,T.na_pair,g_pair,?_⟩
   refine ⟨_,rfl,x,t.LinkEnd,dx,_,_,rfl,hx,T.cLinkEnd,T.na_done,g_done,_,rfl,x,t.LinkEnd,dx,_,_,rfl,hx,T.cLinkEnd,T.na_quiet,g_quiet,_,_,rfl,rfl,_,_,rfl,rfl,?_⟩
   refine ⟨_,rfl,x,t.LinkEnd,dx,_,_,rfl,hx,T.cLinkEnd,T.na_done,g_done,by show 4≤sizeLine;decide,fun ea hea=>?_⟩
   refine ⟨tA,_,_,rfl,rfl,by rw [upd_ne (ne_of_none g hea)];exact g,by rw [tab_len];omega,?_⟩
   obtain ⟨h1,m1⟩:=h.tell (w:="silent") (ns:=[L.d - L.q+1,L.d]) g g' hpa hea
   obtain ⟨dx1,pv1,hx1,hp1⟩:=h1.at_
   refine ⟨_,rfl,x,dx1,_,rfl,hx1,rfl,x,tA,pA,_,rfl,h1,fun H2 pB m2 h2=>?_⟩
   exact last H2 pB _ (m1.trans m2) h2 (by unfold overL endL;rw [ep])
end
end K34
namespace K34
open PySem L2 PyProof.Rows
section
variable {P:Program} {w:World} {K:PySem.W.Frag} {mg:Str→Option Value} {base:Heap} {t:Ad}
def sp_hear_count (C:Addr):Sp:=fun vs H Q _=>∃ (x tA pA:Addr) (L:Lk) (n:Int),vs=[.ref x,.int n]∧LkAt C H x tA pA L∧Q .non H
theorem sc_hear_count:FnScope ["self","count","following"] ["self","count"] (defScope s_hear_count):=⟨rfl,rfl,rfl,by decide +kernel,rfl,by decide +kernel,by decide +kernel⟩
theorem ok_hear_count {fd:FuncData} (T:Txt K mg t) (F:Fun K "hear_count" "LinkEnd.hear_count" s_hear_count t.m_hear_count fd) :
  FnOk P w K mg base (CX1 P w) 1 t.m_hear_count fd ["self","count"] (sp_hear_count t.LinkEnd)∧Binds K fd ["self","count"] []:=by
 refine ⟨F.ok1q sc_hear_count (fun vs H Q E h=>?_) (fun f cdv A outer s H vs Q E hr h=>?_),F.binds fun _ _ _ _ _ _ us hl=>match us,hl with | [_,_],_=>rfl⟩
 ·obtain ⟨x,tA,pA,L,n,rfl,_⟩:=h
  rfl
 ·obtain ⟨x,tA,pA,L,n,rfl,h,q⟩:=h
  refine ⟨_,pss_cons (ps_set (i:=2) sc_hear_count.nd rfl (Or.inl rfl) (pe_op op_mod (pe_op op_add (pe_fldK K (pv 0) (by rfl)) pe_int) (pe_gint T.cSIGNS)))
   (pss_one (ps_if (PW.pt (pw_and (pt_truth (pe_fldK K (pv 0) (by rfl)) (fun _=>rfl)) (pw_and1 (pt_cmpR op_eq (pv 1) (pv 2) (nomark _)))))
    (pss_cons (ps_expr (pe_bmK K PySem.F.plainAttrs_list PySem.F.slot_list_pop PySem.F.type_list_pop mt_popAt (pe_fldK K (pv 0) (by rfl)) (pa_cons pe_int pa_nil)))
    (pss_one (ps_fldK K (pv 0) (pv 2) (by rfl))))
    (pss_nil))),?_⟩
  obtain ⟨dx,pv,hx,hp⟩:=h.at_
  refine ⟨_,rfl,x,t.LinkEnd,dx,_,_,rfl,hx,T.cLinkEnd,T.na_offered,g_offered,_,_,rfl,rfl,_,_,rfl,rfl,(by show (0:Int) < 97;decide),?_⟩
  refine ⟨_,rfl,x,t.LinkEnd,dx,_,_,rfl,hx,T.cLinkEnd,T.na_pieces,g_pieces,_,.inl ⟨_,SqL.of h.pcs,rfl⟩,?_⟩
  exact iteF (iteF q)
def sp_take_piece (K:PySem.W.Frag) (C:Addr):Sp:=fun vs H Q _=>∃ (x tA pA l:Addr) (L:Lk) (n:Int),vs=[.ref x,.int n,.ref l]∧LkAt C H x tA pA L∧SqL K H l []∧Q .non H
theorem sc_take_piece:FnScope ["self","number","piece"] ["self","number","piece"] (defScope s_take_piece):=⟨rfl,rfl,rfl,by decide +kernel,rfl,by decide +kernel,by decide +kernel⟩
theorem ok_take_piece {fd:FuncData} (T:Txt K mg t) (F:Fun K "take_piece" "LinkEnd.take_piece" s_take_piece t.m_take_piece fd) :
  FnOk P w K mg base (CX1 P w) 1 t.m_take_piece fd ["self","number","piece"] (sp_take_piece K t.LinkEnd)∧Binds K fd ["self","number","piece"] []:=by
 refine ⟨F.ok1q sc_take_piece (fun vs H Q E h=>?_) (fun f cdv A outer s H vs Q E hr h=>?_),F.binds fun _ _ _ _ _ _ us hl=>match us,hl with | [_,_,_],_=>rfl⟩
 ·obtain ⟨x,tA,pA,l,L,n,rfl,_⟩:=h
  rfl
 ·obtain ⟨x,tA,pA,l,L,n,rfl,h,hl,q⟩:=h
  refine ⟨_,pss_one (ps_if (PW.pt (pw_and (pt_truth (pv 2) (fun _=>rfl)) (pw_and1 (pt_cmpR op_eq (pv 1) (pe_fldK K (pv 0) (by rfl)) (nomark _)))))
    (pss_cons (ps_expr (pe_bmK K PySem.F.plainAttrs_list PySem.F.slot_list_append PySem.F.type_list_append mt_append (pe_fldK K (pv 0) (by rfl)) (pa_cons (pe_tup (pa_cons pe_str (pa_cons (pv 2) pa_nil))) pa_nil)))
    (pss_one (ps_fldK K (pv 0) (pe_op op_mod (pe_op op_add (pe_fldK K (pv 0) (by rfl)) pe_int) (pe_gint T.cSIGNS)) (by rfl))))
    (pss_nil)),?_⟩
  refine ⟨_,rfl,_,.inl ⟨_,hl,rfl⟩,?_⟩
  exact iteF (iteF q)
def sp_up (C:Addr):Sp:=fun vs H Q _=>∃ (x tA pA:Addr) (L:Lk),vs=[.ref x]∧LkAt C H x tA pA L∧∀ pv,PairV H pv L.p→Q pv H
theorem sc_up:FnScope ["self"] ["self"] (defScope s_up):=⟨rfl,rfl,rfl,by decide +kernel,rfl,by decide +kernel,by decide +kernel⟩
theorem ok_up {fd:FuncData} (T:Txt K mg t) (F:Fun K "up" "LinkEnd.up" s_up t.m_up fd) :
  FnOk P w K mg base (CX1 P w) 1 t.m_up fd ["self"] (sp_up t.LinkEnd)∧Binds K fd ["self"] []:=by
 refine ⟨F.ok1q sc_up (fun vs H Q E h=>?_) (fun f cdv A outer s H vs Q E hr h=>?_),F.binds fun _ _ _ _ _ _ us hl=>match us,hl with | [_],_=>rfl⟩
 ·obtain ⟨x,tA,pA,L,rfl,_⟩:=h
  rfl
 ·obtain ⟨x,tA,pA,L,rfl,h,q⟩:=h
  refine ⟨_,pss_one (ps_ret (pe_fldK K (pv 0) (by rfl))),?_⟩
  obtain ⟨dx,pv,hx,hp⟩:=h.at_
  exact ⟨_,rfl,x,t.LinkEnd,dx,_,_,rfl,hx,T.cLinkEnd,T.na_pair,g_pair,q pv hp⟩
def sp_events (C:Addr):Sp:=fun vs H Q _=>∃ (x tA pA:Addr) (L:Lk),vs=[.ref x]∧LkAt C H x tA pA L∧∀ H' tB,Mvd H H' x tA pA tB pA→tB≠tA→LkAt C H' x tB pA { L with ev:=[] }→IsEvs H' tA L.ev→Q (.ref tA) H'
theorem sc_events:FnScope ["self","told"] ["self"] (defScope s_events):=⟨rfl,rfl,rfl,by decide +kernel,rfl,by decide +kernel,by decide +kernel⟩
theorem ok_events {fd:FuncData} (T:Txt K mg t) (F:Fun K "events" "LinkEnd.events" s_events t.m_events fd) :
  FnOk P w K mg base (CX1 P w) 1 t.m_events fd ["self"] (sp_events t.LinkEnd)∧Binds K fd ["self"] []:=by
 refine ⟨F.ok1q sc_events (fun vs H Q E h=>?_) (fun f cdv A outer s H vs Q E hr h=>?_),F.binds fun _ _ _ _ _ _ us hl=>match us,hl with | [_],_=>rfl⟩
 ·obtain ⟨x,tA,pA,L,rfl,_⟩:=h
  rfl
 ·obtain ⟨x,tA,pA,L,rfl,h,q⟩:=h
  refine ⟨_,pss_cons (ps_set (i:=1) sc_events.nd rfl (Or.inl rfl) (pe_fldK K (pv 0) (by rfl)))
   (pss_cons (ps_fldK K (pv 0) (pe_lst pa_nil) (by rfl))
   (pss_one (ps_ret (pv 1)))),?_⟩
  obtain ⟨dx,pv,hx,hp⟩:=h.at_
  refine ⟨_,rfl,x,t.LinkEnd,dx,_,_,rfl,hx,T.cLinkEnd,T.na_told,g_told,?_⟩
  refine ⟨by show 0≤sizeLine;decide,fun tB htB=>?_⟩
  have s1:Same H (upd H tB (.lst [])):=(Same.refl _).new htB
  have h1:=h.same s1
  have nxt:x≠tB:=fun z=>h.hx (by rw [z];exact htB)
  have npt:pA≠tB:=fun z=>h.hp (by rw [z];exact htB)
  have ntt:tA≠tB:=fun z=>h.ht (by rw [z];exact htB)
  refine ⟨_,rfl,x,t.LinkEnd,dx,_,rfl,s1 _ _ hx,T.cLinkEnd,T.na_told,by show 11 < 1000;decide,?_⟩
  rw [s_told_]
  have tu:∀ a xs,(upd H tB (.lst [])) a=some (.tup xs)→(upd (upd H tB (.lst [])) x (.ins t.LinkEnd dx (fldL L.q L.s L.d L.u L.b L.k pv tB pA))) a=some (.tup xs):=fun a xs e=>by
   rw [upd_ne (fun z=>by rw [z,s1 _ _ hx] at e;cases e)];exact e
  refine ⟨_,rfl,q _ tB ⟨fun y o n1 n2 n3 e=>by rw [upd_ne n1];exact s1 _ _ e,fun b hb=>s1.free (upd_free hb h1.hx),.inr htB,.inl rfl⟩ (Ne.symm ntt) ⟨⟨dx,pv,upd_same,(hp.mono fun a xs e=>s1 _ _ e).mono tu⟩,⟨fun _=>0,by rw [upd_ne (Ne.symm nxt)];exact upd_same,fun y e he=>by cases he⟩,by rw [upd_ne (Ne.symm h.xp)];exact s1 _ _ h.pcs,Ne.symm npt⟩ ?_⟩
  obtain ⟨eas,g,g'⟩:=h1.told
  exact ⟨eas,by rw [upd_ne (Ne.symm h.xt)];exact g,fun y e he=>(g' y e he).mono tu⟩
end
end K34
namespace K34
open PySem L2 PyProof.Rows
section
variable {P:Program} {w:World} {K:PySem.W.Frag} {mg:Str→Option Value} {base:Heap} {t:Ad}
def cellF (b k:Int) (i:Nat):Int:=if i=0 then b / 97 else if i=1 then b % 97 else if i=2 then k / 97 else if i=3 then k % 97 else 0
def Brt (b:Int):Prop:=0≤b∧b < 9409
theorem cellF_ok {b k:Int} (hb:Brt b) (hk:Brt k):IsCell 18 (cellF b k):=by
 obtain ⟨b0,b1⟩:=hb
 obtain ⟨k0,k1⟩:=hk
 refine ⟨fun i _=>?_⟩
 unfold cellF
 split
 ·omega
 ·split
  ·omega
  ·split
   ·omega
   ·split <;> omega
theorem low_two {n:Int}:(My.low (2:Int).toNat n).reverse=[n / 97 % 97,n % 97]:=rfl
theorem rest_two {n:Int} (h:Brt n):My.rest (2:Int).toNat n=0:=by
 show n / 97 / 97=0
 obtain ⟨h0,h1⟩:=h
 omega
theorem told_two (a b:Int):My.told [a,b]=a * 97+b:=by
 show (0 * 97+a) * 97+b=_
 omega
theorem brt_small {n:Int} (h:Brt n):n.natAbs < 2 ^ 1000:=by
 have:n.natAbs < 9409:=by obtain ⟨h0,h1⟩:=h;omega
 exact Nat.lt_of_lt_of_le this (by decide)
theorem sign_small {n:Int} (h:0≤n∧n < 97):n.natAbs < 2 ^ 1000:=brt_small ⟨h.1,by omega⟩
def sp_read (C:Addr):Sp:=fun vs H Q _=>∃ (x tA pA l:Addr) (L:Lk) (g:Nat→Int),vs=[.ref x,.ref l]∧LkAt C H x tA pA L∧L.ev.length < 900000∧H l=some (.lst (tabI 24 g))∧IsCell 24 g∧g 6=0∧l≠tA∧l≠pA ∧
 ∀ H' pB,Mvd H H' x tA pA tA pB→LkAt C H' x tA pB (readL L (g 0 * 97+g 1) (g 2 * 97+g 3))→Q .non H'
theorem meet_len (L:Lk) (n:Int):(meetL L n).ev.length≤L.ev.length+1:=by
 unfold meetL
 cases L.p with
 | none=>exact Nat.le_succ _
 | some p =>
  simp only
  split
  ·show (L.ev ++ [_]).length≤_
   rw [List.length_append];exact Nat.le_refl _
  ·exact Nat.le_succ _
theorem sc_read:FnScope ["self","cell","birth"] ["self","cell"] (defScope s_read):=⟨rfl,rfl,rfl,by decide +kernel,rfl,by decide +kernel,by decide +kernel⟩
theorem ok_read {fd fd1 fd2 fd3 fd4:FuncData} (T:Txt K mg t) (F:Fun K "read" "LinkEnd.read" s_read t.m_read fd) (D_signs_number:Def P w K mg base 3 "signs_number" ["signs"] (sp_signs_number K t.BadSign))
  (F_meet:FnOk P w K mg base (CX1 P w) 3 t.m_meet fd1 ["self","birth"] (sp_meet t.LinkEnd)) (B_meet:Binds K fd1 ["self","birth"] []) (F_come_up:FnOk P w K mg base (CX1 P w) 1 t.m_come_up fd2 ["self"] (sp_come_up t.LinkEnd)) (B_come_up:Binds K fd2 ["self"] [])
  (F_hear_count:FnOk P w K mg base (CX1 P w) 1 t.m_hear_count fd3 ["self","count"] (sp_hear_count t.LinkEnd)) (B_hear_count:Binds K fd3 ["self","count"] []) (F_take_piece:FnOk P w K mg base (CX1 P w) 1 t.m_take_piece fd4 ["self","number","piece"] (sp_take_piece K t.LinkEnd)) (B_take_piece:Binds K fd4 ["self","number","piece"] []) :
  FnOk P w K mg base (CX1 P w) 4 t.m_read fd ["self","cell"] (sp_read t.LinkEnd)∧Binds K fd ["self","cell"] []:=by
 refine ⟨F.ok1q sc_read (fun vs H Q E h=>?_) (fun f cdv A outer s H vs Q E hr h=>?_),F.binds fun _ _ _ _ _ _ us hl=>match us,hl with | [_,_],_=>rfl⟩
 ·obtain ⟨x,tA,pA,l,L,g,rfl,_⟩:=h
  rfl
 ·obtain ⟨x,tA,pA,l,L,g,rfl,h,hlen,hl,cg,g6,n1,n2,q⟩:=h
  refine ⟨_,pss_cons (ps_set (i:=2) sc_read.nd rfl (Or.inl rfl) (pe_def (D_signs_number.mono (by decide)) hr passN (pa_cons (pe_slice (sl_listK K) (pv 1) po_none (po_some (pe_gint T.cKNOWN_AT))) pa_nil)))
   (pss_cons (ps_if (pt_cmpR op_lt (pv 2) (pe_fldK K (pv 0) (by rfl)) (nomark _))
    (pss_one (ps_retN))
    (pss_nil))
   (pss_cons (ps_expr (pe_meth (pv 0) T.cLinkEnd T.me_meet (F_meet.mono (by decide)) hr B_meet .nil passN (pa_cons (pv 2) pa_nil)))
   (pss_one (ps_if (pt_cmpR op_eq (pe_def (D_signs_number.mono (by decide)) hr passN (pa_cons (pe_slice (sl_listK K) (pv 1) (po_some (pe_gint T.cKNOWN_AT)) (po_some (pe_gint T.cNUMBER_AT))) pa_nil)) (pe_fldK K (pv 0) (by rfl)) (nomark _))
    (pss_cons (ps_expr (pe_meth0 (pv 0) T.cLinkEnd T.me_come_up (F_come_up.mono (by decide)) hr B_come_up .nil passN))
    (pss_cons (ps_expr (pe_meth (pv 0) T.cLinkEnd T.me_hear_count (F_hear_count.mono (by decide)) hr B_hear_count .nil passN (pa_cons (pe_ix (ix_listK K) (pv 1) (pe_gint T.cCOUNT_AT) (fun _ _=>rfl)) pa_nil)))
    (pss_one (ps_expr (pe_meth (pv 0) T.cLinkEnd T.me_take_piece (F_take_piece.mono (by decide)) hr B_take_piece .nil passN (pa_cons (pe_ix (ix_listK K) (pv 1) (pe_gint T.cNUMBER_AT) (fun _ _=>rfl)) (pa_cons (pe_slice (sl_listK K) (pv 1) (po_some (pe_gint T.cPIECE_AT)) (po_some (pe_op op_add (pe_gint T.cPIECE_AT) (pe_ix (ix_listK K) (pv 1) (pe_gint T.cLENGTH_AT) (fun _ _=>rfl))))) pa_nil)))))))
    (pss_nil))))),?_⟩
  have sg:∀ i,i < 24→0≤g i∧g i < 97:=cg.b
  have two:∀ {a b:Int},(0≤a∧a < 97)→(0≤b∧b < 97)→∀ n ∈ [a,b],0≤n∧n < 97:=fun {a b} ha hb n hn=>by
   rcases List.mem_cons.mp hn with rfl | hn
   ·exact ha
   ·rw [List.mem_singleton.mp hn];exact hb
  have nxl:l≠x:=fun z=>by obtain ⟨_,_,gx,_⟩:=h.at_;rw [z,gx] at hl;cases hl
  refine ⟨_,rfl,_,rfl,l,_,rfl,SqL.of hl,fun p1 hp1=>?_⟩
  have ec:cutV (tabI 24 g) none (some 2)=[g 0,g 1].map V.int:=tab_cut_hi (f:=fun j=>V.int (g j)) (n:=24) (hi:=2) (by decide)
  rw [ec]
  have s1:Same H (upd H p1 (.lst ([g 0,g 1].map V.int))):=(Same.refl _).new hp1
  have h12:=two (sg 0 (by decide)) (sg 1 (by decide))
  refine ⟨p1,[g 0,g 1],rfl,SqL.of upd_same,fun n hn=>sign_small (h12 n hn),fun _=>?_,fun n hn z=>absurd (h12 n hn) z⟩
  generalize upd H p1 (.lst ([g 0,g 1].map V.int))=H1 at *
  rw [told_two]
  have h1:=h.same s1
  have m1:Mvd H H1 x tA pA tA pA:=Mvd.of_same s1
  obtain ⟨dx,pv,hx,hp⟩:=h1.at_
  refine ⟨_,rfl,_,rfl,x,t.LinkEnd,dx,_,_,rfl,hx,T.cLinkEnd,T.na_known,g_known,_,_,rfl,rfl,_,rfl,?_⟩
  unfold readL at q
  by_cases hk:g 0 * 97+g 1 < L.k
  ·rw [if_pos hk] at q
   exact iteY hk (q H1 pA m1 h1)
  ·rw [if_neg hk] at q
   refine iteN hk ?_
   refine ⟨_,rfl,x,dx,_,rfl,hx,rfl,_,rfl,x,tA,pA,L,_,rfl,h1,by omega,fun H2 pB m2 h2=>?_⟩
   have m02:=m1.trans m2
   have hl2:H2 l=some (.lst (tabI 24 g)):=m02.k l _ nxl n1 n2 hl
   have hml:=meet_len L (g 0 * 97+g 1)
   generalize meetL L (g 0 * 97+g 1)=L2 at *
   refine ⟨_,rfl,_,rfl,_,rfl,l,_,rfl,SqL.of hl2,fun p3 hp3=>?_⟩
   have ec2:cutV (tabI 24 g) (some 2) (some 4)=[g 2,g 3].map V.int:=tab_cut (f:=fun j=>V.int (g j)) (n:=24) (lo:=2) (hi:=4) (by decide) (by decide)
   rw [ec2]
   have s3:Same H2 (upd H2 p3 (.lst ([g 2,g 3].map V.int))):=(Same.refl _).new hp3
   have h34:=two (sg 2 (by decide)) (sg 3 (by decide))
   refine ⟨p3,[g 2,g 3],rfl,SqL.of upd_same,fun n hn=>sign_small (h34 n hn),fun _=>?_,fun n hn z=>absurd (h34 n hn) z⟩
   generalize upd H2 p3 (.lst ([g 2,g 3].map V.int))=H3 at *
   rw [told_two]
   have h3:=h2.same s3
   have m03:=m02.same s3
   have hl3:=s3 _ _ hl2
   obtain ⟨dx3,pv3,hx3,hp3'⟩:=h3.at_
   refine ⟨_,rfl,x,t.LinkEnd,dx3,_,_,rfl,hx3,T.cLinkEnd,T.na_birth,g_birth,rfl,_,rfl,?_⟩
   by_cases ho:g 2 * 97+g 3=L2.b
   ·rw [if_pos ho] at q
    refine iteY (by rw [ho]) ?_
    refine ⟨_,rfl,x,dx3,_,rfl,hx3,rfl,x,tA,pB,L2,rfl,h3,by omega,fun H4 m4 h4=>?_⟩
    have nlp:l≠pB:=fun z=>by have:=h2.pcs;rw [← z,hl2] at this;cases this
    have hl4:H4 l=some (.lst (tabI 24 g)):=m4.k l _ nxl n1 nlp hl3
    obtain ⟨dx4,pv4,hx4,_⟩:=h4.at_
    have m04:=m03.trans m4
    refine ⟨_,rfl,x,dx4,_,rfl,hx4,rfl,_,rfl,l,_,_,_,rfl,rfl,SqL.of hl4,rfl,x,tA,pB,_,_,rfl,h4,?_⟩
    refine ⟨_,rfl,x,dx4,_,rfl,hx4,rfl,_,rfl,l,_,_,_,rfl,rfl,SqL.of hl4,rfl,?_⟩
    refine ⟨_,rfl,_,rfl,_,rfl,l,_,_,_,rfl,rfl,SqL.of hl4,rfl,_,_,rfl,rfl,_,rfl,l,_,rfl,SqL.of hl4,fun p5 hp5=>?_⟩
    have ec3:cutV (tabI 24 g) (some 7) (some (7+g 6))=[]:=by
     rw [g6]
     exact tab_cut (f:=fun j=>V.int (g j)) (n:=24) (lo:=7) (hi:=7) (by decide) (by decide)
    have s5:Same H4 (upd H4 p5 (.lst (cutV (tabI 24 g) (some 7) (some (7+g 6))))):=(Same.refl _).new hp5
    exact ⟨x,tA,pB,p5,_,_,rfl,h4.same s5,SqL.of (by rw [upd_same];exact congrArg (fun z=>some (HO.lst z)) ec3),q _ pB (m04.same s5) (h4.same s5)⟩
   ·rw [if_neg ho] at q
    refine iteN (fun z=>ho (V.int.inj z)) ?_
    exact q H3 pB m03 h3
def sp_cell_given (C:Addr):Sp:=fun vs H Q _=>∃ (x tA pA:Addr) (L:Lk),vs=[.ref x]∧LkAt C H x tA pA L∧Brt L.b∧Brt L.k∧∀ p H',H p=none→Same H H'→H' p=some (.lst (tabI 24 (My.sealI (cellF L.b L.k))))→Q (.ref p) H'
theorem sc_cell_given:FnScope ["self","piece","births","signs"] ["self"] (defScope s_cell_given):=⟨rfl,rfl,rfl,by decide +kernel,rfl,by decide +kernel,by decide +kernel⟩
theorem ok_cell_given {fd:FuncData} (T:Txt K mg t) (F:Fun K "cell_given" "LinkEnd.cell_given" s_cell_given t.m_cell_given fd) (D_number_signs:Def P w K mg base 1 "number_signs" ["number","many"] (sp_number_signs t.BadSign)) (D_sealed:Def P w K mg base 3 "sealed" ["signs"] (sp_sealed K)) :
  FnOk P w K mg base (CX1 P w) 4 t.m_cell_given fd ["self"] (sp_cell_given t.LinkEnd)∧Binds K fd ["self"] []:=by
 refine ⟨F.ok1q sc_cell_given (fun vs H Q E h=>?_) (fun f cdv A outer s H vs Q E hr h=>?_),F.binds fun _ _ _ _ _ _ us hl=>match us,hl with | [_],_=>rfl⟩
 ·obtain ⟨x,tA,pA,L,rfl,_⟩:=h
  rfl
 ·obtain ⟨x,tA,pA,L,rfl,h,hb,hk,q⟩:=h
  refine ⟨_,pss_cons (ps_set (i:=1) sc_cell_given.nd rfl (Or.inl rfl) (pe_ifExp (pt_truth (pe_fldK K (pv 0) (by rfl)) (fun _=>rfl)) (pe_ix (ix_listK K) (pe_fldK K (pv 0) (by rfl)) pe_int (fun _ _=>rfl)) (pe_lst pa_nil)))
   (pss_cons (ps_set (i:=2) sc_cell_given.nd rfl (Or.inl rfl) (pe_op (op_catK K) (pe_def (D_number_signs.mono (by decide)) hr passN (pa_cons (pe_fldK K (pv 0) (by rfl)) (pa_cons (pe_gint T.cBIRTH_SIGNS) pa_nil))) (pe_def (D_number_signs.mono (by decide)) hr passN (pa_cons (pe_fldK K (pv 0) (by rfl)) (pa_cons (pe_gint T.cBIRTH_SIGNS) pa_nil)))))
   (pss_cons (ps_set (i:=3) sc_cell_given.nd rfl (Or.inl rfl) (pe_op (op_catK K) (pe_op (op_catK K) (pv 2) (pe_lst (pa_cons (pe_fldK K (pv 0) (by rfl)) (pa_cons (pe_fldK K (pv 0) (by rfl)) (pa_cons (pe_callB (call_lenK K) (by rfl) T.n_len boot_len (pa_cons (pv 1) pa_nil)) pa_nil))))) (pv 1)))
   (pss_one (ps_ret (pe_def (D_sealed.mono (by decide)) hr (pass1 cx1_body) (pa_cons (pe_op (op_catK K) (pv 3) (pe_op op_rep (pe_lst (pa_cons pe_int pa_nil)) (pe_op op_sub (pe_gint T.cFREE_PLACES) (pe_callB (call_lenK K) (by rfl) T.n_len boot_len (pa_cons (pv 3) pa_nil))))) pa_nil)))))),?_⟩
  have hsz:(1000001:Nat)≤sizeLine:=by decide
  obtain ⟨dx,pv,hx,_⟩:=h.at_
  refine ⟨_,rfl,x,t.LinkEnd,dx,_,_,rfl,hx,T.cLinkEnd,T.na_pieces,g_pieces,_,.inl ⟨_,SqL.of h.pcs,rfl⟩,iteF ?_⟩
  refine ⟨by show 0≤sizeLine;decide,fun p0 hp0=>?_⟩
  have s0:Same H (upd H p0 (.lst [])):=(Same.refl _).new hp0
  have e0:(upd H p0 (.lst [])) p0=some (.lst []):=upd_same
  generalize upd H p0 (.lst [])=H0 at *
  refine ⟨_,rfl,x,t.LinkEnd,dx,_,_,rfl,s0 _ _ hx,T.cLinkEnd,T.na_birth,g_birth,L.b,2,rfl,brt_small hb,by decide,by decide,fun _ _ p1 H1 hp1 s1 e1=>?_,fun z=>absurd z (by rw [rest_two hb];have:=hb.1;omega)⟩
  rw [low_two] at e1
  have s01:=s0.trans s1
  refine ⟨_,rfl,x,t.LinkEnd,dx,_,_,rfl,s01 _ _ hx,T.cLinkEnd,T.na_known,g_known,L.k,2,rfl,brt_small hk,by decide,by decide,fun _ _ p2 H2 hp2 s2 e2=>?_,fun z=>absurd z (by rw [rest_two hk];have:=hk.1;omega)⟩
  rw [low_two] at e2
  have s02:=s01.trans s2
  refine ⟨p1,p2,_,_,rfl,rfl,SqL.of (s2 _ _ e1),SqL.of e2,by show 4≤sizeLine;decide,fun p3 hp3=>?_⟩
  have s3:=s02.new (o:=.lst ([L.b / 97 % 97,L.b % 97].map V.int ++ [L.k / 97 % 97,L.k % 97].map V.int)) hp3
  have e3:(upd H2 p3 (.lst ([L.b / 97 % 97,L.b % 97].map V.int ++ [L.k / 97 % 97,L.k % 97].map V.int))) p3=some (.lst ([L.b / 97 % 97,L.b % 97].map V.int ++ [L.k / 97 % 97,L.k % 97].map V.int)):=upd_same
  have e03:=((s1.trans s2).new (o:=.lst ([L.b / 97 % 97,L.b % 97].map V.int ++ [L.k / 97 % 97,L.k % 97].map V.int)) hp3) _ _ e0
  generalize upd H2 p3 (.lst ([L.b / 97 % 97,L.b % 97].map V.int ++ [L.k / 97 % 97,L.k % 97].map V.int))=H3 at *
  refine ⟨_,rfl,?_⟩
  refine ⟨_,rfl,x,t.LinkEnd,dx,_,_,rfl,s3 _ _ hx,T.cLinkEnd,T.na_offered,g_offered,_,rfl,x,t.LinkEnd,dx,_,_,rfl,s3 _ _ hx,T.cLinkEnd,T.na_taken,g_taken,_,rfl,p0,_,rfl,.inl (SqL.of e03),by show 3≤sizeLine;decide,fun p4 hp4=>?_⟩
  have s4:=s3.new (o:=.lst [V.int 0,V.int 0,V.int (([]:List V).length:Nat)]) hp4
  have t4:=(Same.refl H3).new (o:=.lst [V.int 0,V.int 0,V.int (([]:List V).length:Nat)]) hp4
  refine ⟨p3,p4,_,_,rfl,rfl,SqL.of (t4 _ _ e3),SqL.of upd_same,by show 7≤sizeLine;decide,fun p5 hp5=>?_⟩
  have t5:=t4.new (o:=.lst (([L.b / 97 % 97,L.b % 97].map V.int ++ [L.k / 97 % 97,L.k % 97].map V.int) ++ [V.int 0,V.int 0,V.int (([]:List V).length:Nat)])) hp5
  refine ⟨_,rfl,p5,p0,_,_,rfl,rfl,SqL.of upd_same,SqL.of (t5 _ _ e03),by show 7≤sizeLine;decide,fun p6 hp6=>?_⟩
  have t6:=t5.new (o:=.lst ((([L.b / 97 % 97,L.b % 97].map V.int ++ [L.k / 97 % 97,L.k % 97].map V.int) ++ [V.int 0,V.int 0,V.int (([]:List V).length:Nat)]) ++ [])) hp6
  have s6:=s3.trans t6
  have e6:(upd (upd (upd H3 p4 (.lst [V.int 0,V.int 0,V.int (([]:List V).length:Nat)])) p5 (.lst (([L.b / 97 % 97,L.b % 97].map V.int ++ [L.k / 97 % 97,L.k % 97].map V.int) ++ [V.int 0,V.int 0,V.int (([]:List V).length:Nat)]))) p6 (.lst ((([L.b / 97 % 97,L.b % 97].map V.int ++ [L.k / 97 % 97,L.k % 97].map V.int) ++ [V.int 0,V.int 0,V.int (([]:List V).length:Nat)]) ++ []))) p6=some (.lst ([L.b / 97 % 97,L.b % 97,L.k / 97 % 97,L.k % 97,0,0,0].map V.int)):=upd_same
  generalize (upd (upd (upd H3 p4 (.lst [V.int 0,V.int 0,V.int (([]:List V).length:Nat)])) p5 (.lst (([L.b / 97 % 97,L.b % 97].map V.int ++ [L.k / 97 % 97,L.k % 97].map V.int) ++ [V.int 0,V.int 0,V.int (([]:List V).length:Nat)]))) p6 (.lst ((([L.b / 97 % 97,L.b % 97].map V.int ++ [L.k / 97 % 97,L.k % 97].map V.int) ++ [V.int 0,V.int 0,V.int (([]:List V).length:Nat)]) ++ [])))=H6 at *
  refine ⟨_,rfl,by show 1≤sizeLine;decide,fun p7 hp7=>?_⟩
  have s7:=(Same.refl H6).new (o:=.lst [V.int 0]) hp7
  refine ⟨_,rfl,p6,_,rfl,.inl (SqL.of (s7 _ _ e6)),_,_,rfl,rfl,?_⟩
  refine ⟨p7,_,_,rfl,rfl,upd_same,by show -(2 ^ 63)≤(18:Int) - 7;decide,by show (18:Int) - 7 < 2 ^ 63;decide,by show 1 * 11≤sizeLine;decide,fun p8 hp8=>?_⟩
  have s8:=s7.new (o:=.lst ((List.replicate ((18:Int) - (7:Nat)).toNat [V.int 0]).flatten)) hp8
  refine ⟨p6,p8,_,_,rfl,rfl,SqL.of (s8 _ _ e6),SqL.of upd_same,by show 18≤sizeLine;decide,fun p9 hp9=>?_⟩
  have s9:=s8.new (o:=.lst ([L.b / 97 % 97,L.b % 97,L.k / 97 % 97,L.k % 97,0,0,0].map V.int ++ (List.replicate ((18:Int) - (7:Nat)).toNat [V.int 0]).flatten)) hp9
  have eb:L.b / 97 % 97=L.b / 97:=by obtain ⟨h0,h1⟩:=hb;omega
  have ek:L.k / 97 % 97=L.k / 97:=by obtain ⟨h0,h1⟩:=hk;omega
  refine ⟨p9,cellF L.b L.k,rfl,SqL.of ?_,cellF_ok hb hk,fun p H' hp s' e'=>?_⟩
  ·refine (upd_same).trans ?_
   show some (HO.lst ([V.int (L.b / 97 % 97),V.int (L.b % 97),V.int (L.k / 97 % 97),V.int (L.k % 97),V.int 0,V.int 0,V.int 0] ++ (List.replicate 11 [V.int 0]).flatten))=_
   rw [eb,ek]
   rfl
  ·have sA:=(s6.trans s9).trans s'
   exact q p H' ((s6.trans s9).free hp) sA e'
end
end K34
namespace K34
open PySem L2 PyProof.Rows
section
variable {P:Program} {w:World} {K:PySem.W.Frag} {mg:Str→Option Value} {base:Heap} {t:Ad}
theorem mend_uniq {f g h:Nat→Int} (a:My.Mend f g) (b:My.Mend f h):tabI 24 g=tabI 24 h:=by
 refine tab_congr fun i hi=>?_
 rw [My.seven a.b b.b a.sealed b.sealed ?_ i hi]
 have:=My.nodup_sub (My.difL 24 g h) (My.difL 24 f g ++ My.difL 24 f h) (My.difL_nodup _ _ _) fun i hi=>by
  obtain ⟨h1,h2⟩:=My.difL_mem.mp hi
  by_cases e:f i=g i
  ·exact List.mem_append_right _ (My.difL_mem.mpr ⟨h1,fun z=>h2 (by rw [← e,z])⟩)
  ·exact List.mem_append_left _ (My.difL_mem.mpr ⟨h1,e⟩)
 have a2:=a.few
 have b2:=b.few
 rw [List.length_append] at this
 omega
abbrev cellG (b:Int × Int):Nat→Int:=My.sealI (cellF b.1 b.2)
theorem cellG_ok {b:Int × Int} (h1:Brt b.1) (h2:Brt b.2):IsCell 24 (cellG b):=⟨fun i _=>My.sealI_b (cellF_ok h1 h2).b i⟩
theorem cellG_b (b:Int × Int):cellG b 0 * 97+cellG b 1=b.1:=by
 show b.1 / 97 * 97+b.1 % 97=b.1
 omega
theorem cellG_k (b:Int × Int):cellG b 2 * 97+cellG b 3=b.2:=by
 show b.2 / 97 * 97+b.2 % 97=b.2
 omega
def MendO (f:Nat→Int):Option (Int × Int)→Prop
 | none=>∀ g,¬ My.Mend f g
 | some b=>Brt b.1∧Brt b.2∧My.Mend f (cellG b)
abbrev Cm:=(Nat→Int) × Option (Int × Int)
def InC (H:Hp) (cl:Addr) (cas:Nat→Addr) (fs:List Cm):Prop:=H cl=some (.lst (tabR fs.length cas))∧∀ j c,fs[j]?=some c→H (cas j)=some (.lst (tabI 24 c.1))∧IsCell 24 c.1∧MendO c.1 c.2
def ResV (H0 H:Hp) (D:Addr) (v:V):Option (Int × Int)→Prop
 | none=>v=.non
 | some b=>∃ p,v=.ref p∧H0 p=none∧p≠D∧H p=some (.lst (tabI 24 (cellG b)))
theorem ResV.mono {H0 H H':Hp} {D:Addr} {v:V} {o:Option (Int × Int)} (h:ResV H0 H D v o) (k:∀ p u,p≠D→H p=some u→H' p=some u):ResV H0 H' D v o:=by
 cases o with
 | none=>exact h
 | some b=>obtain ⟨p,h1,h2,h3,h4⟩:=h;exact ⟨p,h1,h2,h3,k p _ h3 h4⟩
def heardL (L:Lk) (bs:List (Int × Int)):Lk:=bs.foldl (fun L b=>readL L b.1 b.2) L
def unhL (L:Lk) (bs:List (Int × Int)):Lk:={ L with u:=if bs=[] then L.u+1 else 0 }
def quietL (L:Lk):Lk:=if L.k≠0∧L.q≤L.u then overL L else L
def tickL (L:Lk) (bs:List (Int × Int)):Lk:={ quietL (unhL (heardL L bs) bs) with d:=(quietL (unhL (heardL L bs) bs)).d+1 }
theorem heard_snoc (L:Lk) (bs:List (Int × Int)) (b:Int × Int):heardL L (bs ++ [b])=readL (heardL L bs) b.1 b.2:=by unfold heardL;rw [List.foldl_append];rfl
theorem meet_b (L:Lk) (n:Int):(meetL L n).b=L.b∧(meetL L n).k=n:=by
 unfold meetL
 cases L.p with
 | none=>exact ⟨rfl,rfl⟩
 | some p=>simp only;split <;> exact ⟨rfl,rfl⟩
theorem come_b (L:Lk):(comeL L).b=L.b∧(comeL L).k=L.k∧(comeL L).ev.length≤L.ev.length+1:=by
 unfold comeL
 cases L.p with
 | none=>exact ⟨rfl,rfl,by show (L.ev ++ [_]).length≤_;rw [List.length_append];exact Nat.le_refl _⟩
 | some p=>exact ⟨rfl,rfl,Nat.le_succ _⟩
theorem read_b (L:Lk) (n o:Int):(readL L n o).b=L.b∧((readL L n o).k=L.k∨(readL L n o).k=n)∧(readL L n o).ev.length≤L.ev.length+2:=by
 have m1:=meet_b L n
 have m2:=meet_len L n
 have c1:=come_b (meetL L n)
 unfold readL
 split
 ·exact ⟨rfl,.inl rfl,by omega⟩
 ·split
  ·exact ⟨c1.1.trans m1.1,.inr (c1.2.1.trans m1.2),by omega⟩
  ·exact ⟨m1.1,.inr m1.2,by omega⟩
theorem heard_b (L:Lk) (hk:Brt L.k):∀ (bs:List (Int × Int)),(∀ b ∈ bs,Brt b.1)→(heardL L bs).b=L.b∧Brt (heardL L bs).k∧(heardL L bs).ev.length≤L.ev.length+2 * bs.length:=by
 intro bs
 induction bs generalizing L with
 | nil=>intro _;exact ⟨rfl,hk,Nat.le_refl _⟩
 | cons b r ih =>
  intro h
  have rb:=read_b L b.1 b.2
  have hk':Brt (readL L b.1 b.2).k:=by
   rcases rb.2.1 with e | e
   ·rw [e];exact hk
   ·rw [e];exact h b List.mem_cons_self
  obtain ⟨i1,i2,i3⟩:=ih (readL L b.1 b.2) hk' fun x hx=>h x (List.mem_cons_of_mem _ hx)
  show (heardL (readL L b.1 b.2) r).b=_∧Brt (heardL (readL L b.1 b.2) r).k∧(heardL (readL L b.1 b.2) r).ev.length≤_
  exact ⟨i1.trans rb.1,i2,by rw [List.length_cons];omega⟩
theorem over_b (L:Lk):(overL L).b=L.b+1∧(overL L).k=0:=by
 unfold overL
 cases L.p <;> exact ⟨rfl,rfl⟩
def readsOf (fs:List Cm):List (Int × Int):=fs.filterMap (·.2)
theorem reads_snoc {fs:List Cm} {i:Nat} {c:Cm} (h:fs[i]?=some c):readsOf (fs.take (i+1))=readsOf (fs.take i) ++ (match c.2 with | none=>[] | some b=>[b]):=by
 unfold readsOf
 rw [List.take_succ,h,List.filterMap_append]
 congr 1
 cases e:c.2 <;> simp [e]
def sp_tick (C:Addr):Sp:=fun vs H Q _=>∃ (x tA pA cl:Addr) (cas:Nat→Addr) (L:Lk) (fs:List Cm),vs=[.ref x,.ref cl]∧LkAt C H x tA pA L∧InC H cl cas fs∧fs.length≤1000∧L.ev.length≤1000∧0≤L.b∧L.b < 9000∧Brt L.k ∧
 ∀ H' pB p,Mvd H H' x tA pA tA pB→LkAt C H' x tA pB (tickL L (readsOf fs))→H p=none→p≠pB→H' p=some (.lst (tabI 24 (cellG ((tickL L (readsOf fs)).b,(tickL L (readsOf fs)).k))))→Q (.ref p) H'
theorem sc_tick:FnScope ["self","cells","tried","readable","cell"] ["self","cells"] (defScope s_tick):=⟨rfl,rfl,rfl,by decide +kernel,rfl,by decide +kernel,by decide +kernel⟩
theorem ok_tick {fd fd1 fd2 fd3:FuncData} (T:Txt K mg t) (F:Fun K "tick" "LinkEnd.tick" s_tick t.m_tick fd) (D_mended:Def P w K mg base 8 "mended" ["cell"] (sp_mended K)) (F_read:FnOk P w K mg base (CX1 P w) 4 t.m_read fd1 ["self","cell"] (sp_read t.LinkEnd)) (B_read:Binds K fd1 ["self","cell"] [])
  (F_start_over:FnOk P w K mg base (CX1 P w) 3 t.m_start_over fd2 ["self"] (sp_start_over t.LinkEnd)) (B_start_over:Binds K fd2 ["self"] []) (F_cell_given:FnOk P w K mg base (CX1 P w) 4 t.m_cell_given fd3 ["self"] (sp_cell_given t.LinkEnd)) (B_cell_given:Binds K fd3 ["self"] []) :
  FnOk P w K mg base (CX1 P w) 9 t.m_tick fd ["self","cells"] (sp_tick t.LinkEnd)∧Binds K fd ["self","cells"] []:=by
 refine ⟨F.ok1q sc_tick (fun vs H Q E h=>?_) (fun f cdv A outer s H vs Q E hr h=>?_),F.binds fun _ _ _ _ _ _ us hl=>match us,hl with | [_,_],_=>rfl⟩
 ·obtain ⟨x,tA,pA,cl,cas,L,fs,rfl,_⟩:=h
  rfl
 ·obtain ⟨x,tA,pA,cl,cas,L,fs,rfl,h,⟨hcl,hcs⟩,hfl,hel,b0,b1,hk,q⟩:=h
  refine ⟨_,pss_cons (ps_setLC (i:=2) sc_tick.nd rfl (Or.inl rfl) rfl (Nc:=["cell"]) (ix:=[none]) (cscope (defScope s_tick) ["self","cells","tried","readable","cell"] rfl rfl (by decide +kernel)) (pi_listK K (pv 1)) (fun C fp s H=>⟨(pg_name (i:=0) (show (["cell"]:List Str).Nodup by decide +kernel) rfl (Or.inl rfl)),pts_nil,(pe_def (D_mended.mono (by decide)) hr passN (pa_cons (pv 0) pa_nil))⟩))
   (pss_cons (ps_setLC (i:=3) sc_tick.nd rfl (Or.inl rfl) rfl (Nc:=["cell"]) (ix:=[none]) (cscope (defScope s_tick) ["self","cells","tried","readable","cell"] rfl rfl (by decide +kernel)) (pi_listK K (pv 2)) (fun C fp s H=>⟨(pg_name (i:=0) (show (["cell"]:List Str).Nodup by decide +kernel) rfl (Or.inl rfl)),(pts_one (pt_cmpR op_notN (pv 0) pe_non (nomark _))),(pv 0)⟩))
   (pss_cons (PS.nox (ps_for PassesOwn.never rfl (pi_listK K (pv 3)) (pg_name (i:=4) sc_tick.nd rfl (Or.inl rfl))
    (pss_one (ps_expr (pe_meth (pv 0) T.cLinkEnd T.me_read (F_read.mono (by decide)) hr B_read .nil passN (pa_cons (pv 4) pa_nil))))))
   (pss_cons (ps_fldK K (pv 0) (pe_ifExp (pt_truth (pv 3) (fun _=>rfl)) pe_int (pe_op op_add (pe_fldK K (pv 0) (by rfl)) pe_int)) (by rfl))
   (pss_cons (ps_cut (ps_if (PW.pt (pw_and (pt_cmpR op_ne (pe_fldK K (pv 0) (by rfl)) (pe_gint T.cNO_BIRTH) (nomark _)) (pw_and1 (pt_cmpR op_ge (pe_fldK K (pv 0) (by rfl)) (pe_fldK K (pv 0) (by rfl)) (nomark _)))))
    (pss_one (ps_expr (pe_meth0 (pv 0) T.cLinkEnd T.me_start_over (F_start_over.mono (by decide)) hr B_start_over .nil passN)))
    (pss_nil)))
   (pss_cons (ps_fldaug (pv 0) pe_int ip_add)
   (pss_one (ps_ret (pe_meth0 (pv 0) T.cLinkEnd T.me_cell_given (F_cell_given.mono (by decide)) hr B_cell_given .nil passN)))))))),?_⟩
  have hsz:(1000001:Nat)≤sizeLine:=by decide
  have nz:∀ {a b:Addr},H a≠none→H b=none→b≠a:=fun {a b} h1 h2 z=>h1 (z ▸ h2)
  refine ⟨_,rfl,cl,rfl,⟨_,SqL.of hcl⟩,fun D hD=>?_⟩
  refine lc_list (K:=K) (a:=cl) (xs:=tabR fs.length cas) (fun i σ H'=>(∃ v,σ=[v])∧Same H H'∧∃ vs:List V,H' D=some (.lst vs)∧vs.length=i∧∀ (j:Nat) (v:V) (c:Cm),vs[j]?=some v→fs[j]?=some c→ResV H H' D v c.2)
   ⟨⟨none,rfl⟩,(Same.refl H).new hD,[],upd_same,rfl,fun j v c hv=>by cases hv⟩ (fun i σ H' _ p=>SqL.of (p.2.1 _ _ hcl)) ?_ ?_
  ·rintro i v σ H' N hN hi ⟨⟨v0,rfl⟩,s1,vs,hv,hvl,hvs⟩
   obtain ⟨hil,rfl⟩:=tab_of hi
   have e:fs[i]?=some fs[i]:=by simp [hil]
   generalize fs[i]=c at e
   obtain ⟨c1,c2,c3⟩:=hcs i c e
   refine turn_do ?_
   have fin:∀ (v:V) (H2:Hp),Same H' H2→ResV H H2 D v c.2→(∃ ys,H2 D=some (.lst ys)∧ys.length < sizeLine∧N [some (.ref (cas i))] (upd H2 D (.lst (ys ++ [v])))):=fun v H2 s2 hr2=>by
    refine ⟨_,s2 _ _ hv,by omega,hN _ _ ⟨⟨_,rfl⟩,(s1.trans s2).put hD,vs ++ [v],upd_same,by rw [List.length_append,hvl];rfl,fun j v' c' h1 h2=>?_⟩⟩
    have up:∀ p u,p≠D→H2 p=some u→(upd H2 D (.lst (vs ++ [v]))) p=some u:=fun p u n e=>by rw [upd_ne n];exact e
    by_cases hj:j < vs.length
    ·rw [List.getElem?_append_left hj] at h1
     exact ((hvs j v' c' h1 h2).mono fun p u _ e=>s2 _ _ e).mono up
    ·have hj2:j < (vs ++ [v]).length:=(List.getElem?_eq_some_iff.mp h1).1
     rw [List.length_append] at hj2
     have hje:j=vs.length:=by simp at hj2;omega
     rw [hje,List.getElem?_append_right (Nat.le_refl _),Nat.sub_self] at h1
     cases h1
     rw [hje,hvl,e] at h2
     cases h2
     exact hr2.mono up
   refine ⟨_,rfl,cas i,c.1,rfl,SqL.of (s1 _ _ c1),c2,fun g p H2 hm hp s2 e2=>?_,fun hno H2 s2=>?_⟩
   ·refine fin _ H2 s2 ?_
    cases ec:c.2 with
    | none=>rw [ec] at c3;exact absurd hm (c3 g)
    | some b =>
     rw [ec] at c3
     exact ⟨p,rfl,s1.free hp,(fun z=>by rw [z,hv] at hp;cases hp),by rw [e2,mend_uniq hm c3.2.2]⟩
   ·refine fin _ H2 s2 ?_
    cases ec:c.2 with
    | none=>exact rfl
    | some b=>rw [ec] at c3;exact absurd c3.2.2 (hno _)
  ·rintro σ H1 ⟨⟨v0,rfl⟩,s1,vs,hv,hvl,hvs⟩
   rw [tab_len] at hvl
   have hbr:∀ b ∈ readsOf fs,Brt b.1∧Brt b.2:=fun b hb=>by
    obtain ⟨c,hc,ec⟩:=List.mem_filterMap.mp hb
    obtain ⟨j,hj⟩:=List.getElem?_of_mem hc
    have c3:=(hcs j c hj).2.2
    rw [ec] at c3
    exact ⟨c3.1,c3.2.1⟩
   have hrl:(readsOf fs).length≤fs.length:=List.length_filterMap_le _ _
   obtain ⟨hb1,hb2,hb3⟩:=heard_b L hk (readsOf fs) fun b hb=>(hbr b hb).1
   refine ⟨_,rfl,D,rfl,⟨_,SqL.of hv⟩,fun D2 hD2=>?_⟩
   refine lc_list (K:=K) (a:=D) (xs:=vs) (fun i σ H'=>(∃ v,σ=[v])∧Same H1 H'∧∃ ps:List Addr,H' D2=some (.lst (ps.map V.ref))∧ps.length=(readsOf (fs.take i)).length∧∀ (j:Nat) (p:Addr) (b:Int × Int),ps[j]?=some p→(readsOf (fs.take i))[j]?=some b→H p=none∧H1 p=some (.lst (tabI 24 (cellG b))))
    ⟨⟨none,rfl⟩,(Same.refl H1).new hD2,[],upd_same,rfl,fun j p b hp=>by cases hp⟩ (fun i σ H' _ p=>SqL.of (p.2.1 _ _ hv)) ?_ ?_
   ·rintro i v σ H' N hN hi ⟨⟨v0,rfl⟩,s2,ps,hp2,hpl,hps⟩
    have hil:i < fs.length:=by rw [← hvl];exact (List.getElem?_eq_some_iff.mp hi).1
    have e:fs[i]?=some fs[i]:=by simp [hil]
    generalize fs[i]=c at e
    have hres:=hvs i v c hi e
    have esn:=reads_snoc e
    refine turn_if ?_
    cases ec:c.2 with
    | none =>
     rw [ec] at hres esn
     have hres:v=.non:=hres
     subst hres
     refine ⟨_,rfl,rfl,_,rfl,iteNN rfl ?_⟩
     refine hN _ _ ⟨⟨_,rfl⟩,s2,ps,hp2,?_,?_⟩
     ·rw [esn,List.append_nil];exact hpl
     ·rw [esn,List.append_nil];exact hps
    | some b =>
     rw [ec] at hres esn
     obtain ⟨p,rfl,hp0,hpD,hpH⟩:=hres
     have esn:readsOf (fs.take (i+1))=readsOf (fs.take i) ++ [b]:=esn
     have hrl2:(readsOf (fs.take i)).length≤(fs.take i).length:=List.length_filterMap_le _ _
     rw [List.length_take] at hrl2
     refine ⟨_,rfl,rfl,_,rfl,iteNY (fun z=>by cases z) ?_⟩
     refine ⟨_,rfl,_,hp2,by rw [List.length_map];omega,hN _ _ ⟨⟨_,rfl⟩,s2.put hD2,ps ++ [p],?_,?_,?_⟩⟩
     ·rw [upd_same,List.map_append];rfl
     ·rw [esn,List.length_append,List.length_append,hpl];rfl
     ·intro j p' b' h1 h2
      rw [esn] at h2
      by_cases hj:j < ps.length
      ·rw [List.getElem?_append_left hj] at h1
       rw [List.getElem?_append_left (by omega)] at h2
       exact hps j p' b' h1 h2
      ·have hj2:j < (ps ++ [p]).length:=(List.getElem?_eq_some_iff.mp h1).1
       rw [List.length_append] at hj2
       have hje:j=ps.length:=by simp at hj2;omega
       rw [hje,List.getElem?_append_right (Nat.le_refl _),Nat.sub_self] at h1
       cases h1
       rw [hje,hpl,List.getElem?_append_right (Nat.le_refl _),Nat.sub_self] at h2
       cases h2
       exact ⟨hp0,hpH⟩
   ·rintro σ H2 ⟨⟨v0,rfl⟩,s2,ps,hp2,hpl,hps⟩
    rw [hvl,List.take_length] at hpl hps
    generalize hbs:readsOf fs=bs at *
    have s02:=s1.trans s2
    have h2:=h.same s02
    have nD2:H D2=none:=s1.free hD2
    have keepL:∀ {H3:Hp} {pB:Addr} {a:Addr} {u:HO},Mvd H2 H3 x tA pA tA pB→H a=none→H2 a=some u→H3 a=some u:=fun {H3 pB a u} m ha e=>m.k a u (nz h.hx ha) (nz h.ht ha) (nz h.hp ha) e
    refine ⟨_,rfl,D2,rfl,⟨_,SqL.of hp2⟩,for_list (K:=K) (a:=D2) (xs:=ps.map V.ref) (fun i σ H3=>∃ (pB:Addr) (v4:Option V),σ=[some (.ref x),some (.ref cl),some (.ref D),some (.ref D2),v4]∧Mvd H2 H3 x tA pA tA pB∧LkAt t.LinkEnd H3 x tA pB (heardL L (bs.take i)))
     ⟨pA,none,rfl,Mvd.refl,h2⟩ (fun i σ H3 _ ⟨_,_,_,m3,_⟩=>SqL.of (keepL m3 nD2 hp2)) ?_ ?_⟩
    ·rintro i v σ H3 hi ⟨pB,v4,rfl,m3,h3⟩
     rw [List.getElem?_map] at hi
     cases ep:ps[i]? with
     | none=>rw [ep] at hi;cases hi
     | some p =>
      rw [ep] at hi
      cases hi
      have hib:i < bs.length:=by rw [← hpl];exact (List.getElem?_eq_some_iff.mp ep).1
      have eb:bs[i]?=some bs[i]:=by simp [hib]
      generalize bs[i]=b at eb
      obtain ⟨hp0,hpH⟩:=hps i p b ep eb
      have hp3:=keepL m3 hp0 (s2 _ _ hpH)
      obtain ⟨bb1,bb2⟩:=hbr b (List.mem_of_getElem? eb)
      have npB:p≠pB:=by
       rcases m3.p with z | z
       ·rw [z];exact nz h.hp hp0
       ·exact ne_of_none (s2 _ _ hpH) z
      have hev:=(heard_b L hk (bs.take i) fun b hb=>(hbr b (List.mem_of_mem_take hb)).1).2.2
      rw [List.length_take] at hev
      obtain ⟨dx3,pv3,hx3,_⟩:=h3.at_
      refine ⟨_,rfl,x,dx3,_,rfl,hx3,rfl,_,rfl,x,tA,pB,p,_,cellG b,rfl,h3,by omega,hp3,cellG_ok bb1 bb2,rfl,nz h.ht hp0,npB,fun H4 pC m4 h4=>?_⟩
      rw [cellG_b,cellG_k,← heard_snoc,← take_succ eb] at h4
      exact ⟨pC,_,rfl,m3.trans m4,h4⟩
    ·rintro σ H3 ⟨pB,v4,rfl,m3,h3⟩
     rw [List.length_map,hpl,List.take_length] at h3
     have m03:=(Mvd.of_same s02).trans m3
     obtain ⟨dx3,pv3,hx3,hpv3⟩:=h3.at_
     have hD3:=keepL m3 nD2 hp2
     have tail:∀ (n:Int),(unhL (heardL L bs) bs).u=n→(tSeq (sFld K (tVar 0) (tC (.int n)) "unheard") (tSeq (tCut (tIfS (tAnd (tTest (tOp rNe (tFld K (tVar 0) "known") (tC (V.int 0)))) (tTest (tOp (rI0 fun i j=>V.bl (decide (j≤i))) (tFld K (tVar 0) "unheard") (tFld K (tVar 0) "quiet"))))
       (tDrop (tMeth t.LinkEnd "start_over" (sp_start_over t.LinkEnd) [] E0 (tVar 0) tNil)) tNext)) (tSeq (sFldAug K (tVar 0) (tC (V.int 1)) (ipI fun i j=>i+j) "done") (tRet (tMeth t.LinkEnd "cell_given" (sp_cell_given t.LinkEnd) [] E0 (tVar 0) tNil))))) { nx:=fun x H'=>Q V.non H',rt:=Q } [some (V.ref x),some (V.ref cl),some (V.ref D),some (V.ref D2),v4] H3:=fun n hn=>by
      refine ⟨_,rfl,x,t.LinkEnd,dx3,_,rfl,hx3,T.cLinkEnd,T.na_unheard,by show 11 < 1000;decide,?_⟩
      rw [s_unheard_]
      obtain ⟨h4,m4⟩:=h3.set (dx:=dx3) (pv:=pv3) (L':=unhL (heardL L bs) bs) hpv3 rfl
      have e4:fldL (heardL L bs).q (heardL L bs).s (heardL L bs).d n (heardL L bs).b (heardL L bs).k pv3 tA pB=fldL (unhL (heardL L bs) bs).q (unhL (heardL L bs) bs).s (unhL (heardL L bs) bs).d (unhL (heardL L bs) bs).u (unhL (heardL L bs) bs).b (unhL (heardL L bs) bs).k pv3 tA pB:=by rw [← hn];rfl
      rw [e4]
      have m04:=m03.trans m4
      have l4b:(unhL (heardL L bs) bs).b=L.b:=hb1
      have l4k:Brt (unhL (heardL L bs) bs).k:=hb2
      have l4e:(unhL (heardL L bs) bs).ev.length≤L.ev.length+2 * bs.length:=hb3
      have tk:tickL L bs={ quietL (unhL (heardL L bs) bs) with d:=(quietL (unhL (heardL L bs) bs)).d+1 }:=rfl
      generalize unhL (heardL L bs) bs=L4 at *
      generalize upd H3 x (.ins t.LinkEnd dx3 (fldL L4.q L4.s L4.d L4.u L4.b L4.k pv3 tA pB))=H4 at *
      obtain ⟨dx4,pv4,hx4,hpv4⟩:=h4.at_
      refine ⟨fun σ H'=>∃ pC,σ=[some (V.ref x),some (V.ref cl),some (V.ref D),some (V.ref D2),v4]∧Mvd H H' x tA pA tA pC∧LkAt t.LinkEnd H' x tA pC (quietL L4),?_,?_⟩
      ·refine ⟨_,rfl,x,t.LinkEnd,dx4,_,_,rfl,hx4,T.cLinkEnd,T.na_known,g_known,rfl,_,rfl,?_⟩
       by_cases hk0:L4.k=0
       ·refine iteNN (by rw [hk0]) (iteF ?_)
        exact ⟨pB,rfl,m04,by unfold quietL;rw [if_neg (fun z=>z.1 hk0)];exact h4⟩
       ·refine iteNY (fun z=>hk0 (V.int.inj z)) ?_
        refine ⟨_,rfl,x,t.LinkEnd,dx4,_,_,rfl,hx4,T.cLinkEnd,T.na_unheard,g_unheard,_,rfl,x,t.LinkEnd,dx4,_,_,rfl,hx4,T.cLinkEnd,T.na_quiet,g_quiet,_,_,rfl,rfl,_,rfl,?_⟩
        by_cases hq0:L4.q≤L4.u
        ·refine iteY hq0 ?_
         refine ⟨_,rfl,x,dx4,_,rfl,hx4,rfl,x,tA,pB,L4,rfl,h4,by omega,fun H5 pC m5 h5=>?_⟩
         exact ⟨pC,rfl,m04.trans m5,by unfold quietL;rw [if_pos ⟨hk0,hq0⟩];exact h5⟩
        ·refine iteN hq0 ?_
         exact ⟨pB,rfl,m04,by unfold quietL;rw [if_neg (fun z=>hq0 z.2)];exact h4⟩
      ·rintro σ H5 ⟨pC,rfl,m5,h5⟩
       have l5:Brt (quietL L4).b∧Brt (quietL L4).k:=by
        unfold quietL
        split
        ·rw [(over_b L4).1,(over_b L4).2,l4b]
         exact ⟨⟨by omega,by omega⟩,⟨by decide,by decide⟩⟩
        ·rw [l4b]
         exact ⟨⟨by omega,by omega⟩,l4k⟩
       generalize quietL L4=L5 at *
       obtain ⟨dx5,pv5,hx5,hpv5⟩:=h5.at_
       refine ⟨_,rfl,x,t.LinkEnd,dx5,_,_,rfl,hx5,T.cLinkEnd,T.na_done,g_done,_,_,rfl,rfl,dx5,_,hx5,by show 11 < 1000;decide,?_⟩
       rw [s_done_]
       obtain ⟨h6,m6⟩:=h5.set (dx:=dx5) (pv:=pv5) (L':={ L5 with d:=L5.d+1 }) hpv5 rfl
       have h6:LkAt t.LinkEnd (upd H5 x (.ins t.LinkEnd dx5 (fldL L5.q L5.s (L5.d+1) L5.u L5.b L5.k pv5 tA pC))) x tA pC { L5 with d:=L5.d+1 }:=h6
       have m6:Mvd H5 (upd H5 x (.ins t.LinkEnd dx5 (fldL L5.q L5.s (L5.d+1) L5.u L5.b L5.k pv5 tA pC))) x tA pC tA pC:=m6
       generalize upd H5 x (.ins t.LinkEnd dx5 (fldL L5.q L5.s (L5.d+1) L5.u L5.b L5.k pv5 tA pC))=H6 at *
       have m06:=m5.trans m6
       obtain ⟨dx6,pv6,hx6,_⟩:=h6.at_
       refine ⟨_,rfl,x,dx6,_,rfl,hx6,rfl,x,tA,pC,_,rfl,h6,l5.1,l5.2,fun p H7 hp s7 e7=>?_⟩
       rw [tk] at q
       exact q H7 pC p (m06.same s7) (h6.same s7) (m06.g p hp) (fun z=>h6.hp (by rw [← z];exact hp)) e7
     refine ⟨_,rfl,_,.inl ⟨_,SqL.of hD3,rfl⟩,?_⟩
     by_cases hbe:bs=[]
     ·have hpe:ps=[]:=List.length_eq_zero_iff.mp (by rw [hpl,hbe];rfl)
      rw [hpe]
      refine iteF ?_
      refine ⟨_,rfl,x,t.LinkEnd,dx3,_,_,rfl,hx3,T.cLinkEnd,T.na_unheard,g_unheard,_,_,rfl,rfl,?_⟩
      exact tail _ (if_pos hbe)
     ·have hpe:(!(ps.map V.ref).isEmpty)=true:=by
       cases ps with
       | nil=>exact absurd (List.length_eq_zero_iff.mp hpl.symm) hbe
       | cons a r=>rfl
      rw [hpe]
      refine iteT ?_
      exact tail _ (if_neg hbe)
end
end K34
namespace K34
open PySem L2 PyProof.Rows
section
variable {P:Program} {w:World} {K:PySem.W.Frag} {mg:Str→Option Value} {base:Heap} {t:Ad}
def newL (q s:Int):Lk:=⟨q,s,0,0,1,0,none,[]⟩
theorem sc_init:FnScope ["self","measure","side"] ["self","measure","side"] (defScope s_init):=⟨rfl,rfl,rfl,by decide +kernel,rfl,by decide +kernel,by decide +kernel⟩
def sp_init (K:PySem.W.Frag) (C:Addr):Sp:=fun vs H Q _=>∃ (x dx ma:Addr) (a b sd:Int),vs=[.ref x,.ref ma,.int sd]∧H x=some (.ins C dx [])∧SqT K H ma [.int a,.int b]∧Msr a b ∧
 ∀ (tA pA:Addr) (H':Hp),(∀ y o,y≠x→H y=some o→H' y=some o)→(∀ y,H' y=none→H y=none)→H tA=none→H pA=none→LkAt C H' x tA pA (newL (a+b) sd)→Q .non H'
theorem ok_init {fd fd1:FuncData} (T:Txt K mg t) (F:Fun K "__init__" "LinkEnd.__init__" s_init t.init fd) (D_quiet_of:Def P w K mg base 3 "quiet_of" ["measure"] (sp_quiet_of K t.BadMeasure)) (F_forget_pieces:FnOk P w K mg base (CX1 P w) 1 t.m_forget_pieces fd1 ["self"] (sp_forget_pieces t.LinkEnd)) (B_forget_pieces:Binds K fd1 ["self"] []) :
  FnOk P w K mg base (CX1 P w) 4 t.init fd ["self","measure","side"] (sp_init K t.LinkEnd)∧Binds K fd ["self","measure","side"] []:=by
 refine ⟨F.ok1q sc_init (fun vs H Q E h=>?_) (fun f cdv A outer s H vs Q E hr h=>?_),F.binds fun _ _ _ _ _ _ us hl=>match us,hl with | [_,_,_],_=>rfl⟩
 ·obtain ⟨x,dx,ma,a,b,sd,rfl,_⟩:=h
  rfl
 ·obtain ⟨x,dx,ma,a,b,sd,rfl,hx,hma,hm,q⟩:=h
  refine ⟨_,pss_cons (ps_fldK K (pv 0) (pe_def (D_quiet_of.mono (by decide)) hr (pass1 cx1_body) (pa_cons (pv 1) pa_nil)) (by rfl)) (pss_cons (ps_fldK K (pv 0) (pv 2) (by rfl)) (pss_cons (ps_fldK K (pv 0) pe_int (by rfl)) (pss_cons (ps_fldK K (pv 0) pe_int (by rfl)) (pss_cons (ps_fldK K (pv 0) pe_int (by rfl)) (pss_cons (ps_fldK K (pv 0) (pe_gint T.cNO_BIRTH) (by rfl)) (pss_cons (ps_fldK K (pv 0) pe_non (by rfl)) (pss_cons (ps_fldK K (pv 0) (pe_lst pa_nil) (by rfl))
   (pss_one (ps_expr (pe_meth0 (pv 0) T.cLinkEnd T.me_forget_pieces (F_forget_pieces.mono (by decide)) hr B_forget_pieces .nil passN)))))))))),?_⟩
  refine ⟨_,rfl,ma,a,b,rfl,hma,small_abs (by have:=hm.1;omega) (by have:=hm.1;omega),small_abs (by have:=hm.2;omega) (by have:=hm.2;omega),fun _=>?_,fun z=>absurd hm z⟩
  refine ⟨_,rfl,x,t.LinkEnd,dx,_,rfl,hx,T.cLinkEnd,T.na_quiet,by show 0 < 1000;decide,?_⟩
  refine ⟨_,rfl,_,rfl,x,t.LinkEnd,dx,_,rfl,upd_same,T.cLinkEnd,T.na_side,by show 1 < 1000;decide,?_⟩
  rw [upd_upd]
  refine ⟨_,rfl,x,t.LinkEnd,dx,_,rfl,upd_same,T.cLinkEnd,T.na_done,by show 2 < 1000;decide,?_⟩
  rw [upd_upd]
  refine ⟨_,rfl,x,t.LinkEnd,dx,_,rfl,upd_same,T.cLinkEnd,T.na_unheard,by show 3 < 1000;decide,?_⟩
  rw [upd_upd]
  refine ⟨_,rfl,x,t.LinkEnd,dx,_,rfl,upd_same,T.cLinkEnd,T.na_birth,by show 4 < 1000;decide,?_⟩
  rw [upd_upd]
  refine ⟨_,rfl,x,t.LinkEnd,dx,_,rfl,upd_same,T.cLinkEnd,T.na_known,by show 5 < 1000;decide,?_⟩
  rw [upd_upd]
  refine ⟨_,rfl,x,t.LinkEnd,dx,_,rfl,upd_same,T.cLinkEnd,T.na_pair,by show 6 < 1000;decide,?_⟩
  rw [upd_upd]
  refine ⟨by show 0≤sizeLine;decide,fun tA htA=>?_⟩
  have nxt:x≠tA:=fun z=>by rw [← z,upd_same] at htA;cases htA
  have htH:H tA=none:=by rw [upd_ne (Ne.symm nxt)] at htA;exact htA
  refine ⟨_,rfl,x,t.LinkEnd,dx,_,rfl,by rw [upd_ne nxt];exact upd_same,T.cLinkEnd,T.na_told,by show 7 < 1000;decide,?_⟩
  refine ⟨_,rfl,x,dx,_,rfl,upd_same,rfl,x,dx,_,rfl,upd_same,by show 8 < 900;decide,fun pA hpA=>?_⟩
  have nxp:x≠pA:=fun z=>by rw [← z,upd_same] at hpA;cases hpA
  have ntp:tA≠pA:=fun z=>by rw [← z,upd_ne (Ne.symm nxt),upd_same] at hpA;cases hpA
  have hpH:H pA=none:=by rw [upd_ne (Ne.symm nxp),upd_ne (Ne.symm ntp),upd_ne (Ne.symm nxp)] at hpA;exact hpA
  refine q tA pA _ (fun y o n e=>?_) (fun y hy=>?_) htH hpH ⟨⟨dx,.non,upd_same,rfl⟩,⟨fun _=>0,?_,fun y e he=>by cases he⟩,?_,ntp⟩
  ·rw [upd_ne n,upd_ne (ne_of_none e hpH),upd_ne n,upd_ne (ne_of_none e htH),upd_ne n];exact e
  ·by_cases z1:y=x
   ·rw [z1,upd_same] at hy;cases hy
   ·by_cases z2:y=pA
    ·rw [z2];exact hpH
    ·by_cases z3:y=tA
     ·rw [z3];exact htH
     ·rw [upd_ne z1,upd_ne z2,upd_ne z1,upd_ne z3,upd_ne z1] at hy;exact hy
  ·rw [upd_ne (Ne.symm nxt),upd_ne ntp,upd_ne (Ne.symm nxt)];exact upd_same
  ·rw [upd_ne (Ne.symm nxp)];exact upd_same
end
end K34
namespace K34
open PySem L2 PyProof.Rows
section
variable {P:Program} {w:World} {K:PySem.W.Frag} {mg:Str→Option Value} {base:Heap} {t:Ad}
abbrev Ts:=List (Int × Int)
structure GoodTs (ts:Ts):Prop where
 len:ts.length≤4
 at_:∀ q ∈ ts,(0≤q.1∧q.1 < 24)∧1≤q.2∧q.2≤96
 nd:(ts.map fun q=>q.1.toNat).Nodup
def IsTs (K:PySem.W.Frag) (H:Hp) (a:Addr) (ts:Ts):Prop:=∃ tas:Nat→Addr,SqT K H a (tabR ts.length tas)∧∀ y q,ts[y]?=some q→SqT K H (tas y) [.int q.1,.int q.2]
theorem IsTs.same {K:PySem.W.Frag} {H H':Hp} {a:Addr} {ts:Ts} (h:IsTs K H a ts) (s:Same H H'):IsTs K H' a ts:=by
 obtain ⟨tas,h1,h2⟩:=h
 exact ⟨tas,s.tup h1,fun y q e=>s.tup (h2 y q e)⟩
def setF (f:Nat→Int) (i:Nat) (v:Int):Nat→Int:=fun j=>if j=i then v else f j
def turnF (f:Nat→Int) (ts:Ts):Nat→Int:=ts.foldl (fun f q=>setF f q.1.toNat ((f q.1.toNat+q.2) % 97)) f
theorem turn_snoc (f:Nat→Int) (ts:Ts) (q:Int × Int):turnF f (ts ++ [q])=setF (turnF f ts) q.1.toNat ((turnF f ts q.1.toNat+q.2) % 97):=by unfold turnF;rw [List.foldl_append];rfl
theorem turn_off:∀ (ts:Ts) (f:Nat→Int) (i:Nat),i ∉ (ts.map fun q=>q.1.toNat)→turnF f ts i=f i
 | [],_,_,_=>rfl
 | q :: r,f,i,h=>by
  rw [List.map_cons,List.mem_cons,not_or] at h
  show turnF (setF f q.1.toNat _) r i=f i
  rw [turn_off r _ i h.2]
  exact if_neg h.1
theorem turn_on:∀ (ts:Ts) (f:Nat→Int),(ts.map fun q=>q.1.toNat).Nodup→∀ q ∈ ts,turnF f ts q.1.toNat=(f q.1.toNat+q.2) % 97
 | p :: r,f,nd,q,hq=>by
  rw [List.map_cons,List.nodup_cons] at nd
  show turnF (setF f p.1.toNat _) r q.1.toNat=_
  rcases List.mem_cons.mp hq with rfl | hq
  ·rw [turn_off r _ _ nd.1]
   exact if_pos rfl
  ·rw [turn_on r _ nd.2 q hq]
   have ne:q.1.toNat≠p.1.toNat:=fun z=>nd.1 (by rw [← z];exact List.mem_map.mpr ⟨q,hq,rfl⟩)
   unfold setF
   rw [if_neg ne]
theorem turn_cell {f:Nat→Int} {ts:Ts} (h:IsCell 24 f):IsCell 24 (turnF f ts):=by
 suffices ∀ (ts:Ts) (f:Nat→Int),(∀ i,i < 24→0≤f i∧f i < 97)→∀ i,i < 24→0≤turnF f ts i∧turnF f ts i < 97 from ⟨this ts f h.b⟩
 intro ts
 induction ts with
 | nil=>intro f h;exact h
 | cons q r ih =>
  intro f h
  refine ih _ fun i hi=>?_
  show 0≤(if i=q.1.toNat then (f q.1.toNat+q.2) % 97 else f i)∧(if i=q.1.toNat then (f q.1.toNat+q.2) % 97 else f i) < 97
  split
  ·exact ⟨Int.emod_nonneg _ (by decide),Int.emod_lt_of_pos _ (by decide)⟩
  ·exact h i hi
theorem turn_ne {f:Nat→Int} {ts:Ts} (g:GoodTs ts) (h:IsCell 24 f) {q:Int × Int} (hq:q ∈ ts):q.1.toNat < 24∧turnF f ts q.1.toNat≠f q.1.toNat:=by
 obtain ⟨⟨a0,a1⟩,b0,b1⟩:=g.at_ q hq
 have hi:q.1.toNat < 24:=by omega
 have hb:=h.b _ hi
 refine ⟨hi,?_⟩
 rw [turn_on ts f g.nd q hq]
 generalize f q.1.toNat=v at *
 intro z
 have:(v+q.2) % 97=v:=z
 omega
theorem dif_turn {f:Nat→Int} {ts:Ts} (g:GoodTs ts) (h:IsCell 24 f):(My.difL 24 (turnF f ts) f).length=ts.length:=by
 have e:ts.length=(ts.map fun q=>q.1.toNat).length:=by rw [List.length_map]
 apply Nat.le_antisymm
 ·rw [e]
  refine My.nodup_sub _ _ (My.difL_nodup _ _ _) fun i hi=>?_
  obtain ⟨h1,h2⟩:=My.difL_mem.mp hi
  exact Classical.byContradiction fun z=>h2 (turn_off ts f i z)
 ·rw [e]
  refine My.nodup_sub _ _ g.nd fun i hi=>?_
  obtain ⟨q,hq,rfl⟩:=List.mem_map.mp hi
  obtain ⟨h1,h2⟩:=turn_ne g h hq
  exact My.difL_mem.mpr ⟨h1,h2⟩
theorem dif_three {f g h:Nat→Int}:(My.difL 24 f h).length≤(My.difL 24 g f).length+(My.difL 24 g h).length:=by
 have:=My.nodup_sub (My.difL 24 f h) (My.difL 24 g f ++ My.difL 24 g h) (My.difL_nodup _ _ _) fun i hi=>by
  obtain ⟨h1,h2⟩:=My.difL_mem.mp hi
  by_cases e:g i=f i
  ·exact List.mem_append_right _ (My.difL_mem.mpr ⟨h1,fun z=>h2 (by rw [← e,z])⟩)
  ·exact List.mem_append_left _ (My.difL_mem.mpr ⟨h1,e⟩)
 rwa [List.length_append] at this
theorem turn_mend {f:Nat→Int} {ts:Ts} (g:GoodTs ts) (h:IsCell 24 f) (hs:My.Sealed f) (h2:ts.length < 3):My.Mend (turnF f ts) f:=⟨h.b,hs,by rw [dif_turn g h];omega⟩
theorem turn_none {f:Nat→Int} {ts:Ts} (g:GoodTs ts) (h:IsCell 24 f) (hs:My.Sealed f) (h2:¬ ts.length < 3):∀ k,¬ My.Mend (turnF f ts) k:=by
 intro k m
 have d1:=dif_turn g h
 have d2:=dif_three (f:=f) (g:=turnF f ts) (h:=k)
 have d3:=m.few
 have d4:=g.len
 have e:∀ i,i < 24→f i=k i:=My.seven h.b m.b hs m.sealed (by omega)
 have d5:(My.difL 24 (turnF f ts) f).length≤(My.difL 24 (turnF f ts) k).length:=by
  refine My.nodup_sub _ _ (My.difL_nodup _ _ _) fun i hi=>?_
  obtain ⟨h1,h2⟩:=My.difL_mem.mp hi
  exact My.difL_mem.mpr ⟨h1,by rw [← e i h1];exact h2⟩
 omega
def sp__law_measure:Sp:=fun vs H Q _=>∃ n:Int,vs=[.int n]∧0≤n∧∀ (a:Addr) (x y:Int),Msr x y→H a=none→Q (.ref a) (upd H a (.tup [.int x,.int y]))
theorem sc__law_measure:FnScope ["number"] ["number"] (defScope s__law_measure):=⟨rfl,rfl,rfl,by decide +kernel,rfl,by decide +kernel,by decide +kernel⟩
theorem ok__law_measure (F:Site K mg "_law_measure" s__law_measure):Def P w K mg base 1 "_law_measure" ["number"] sp__law_measure:=by
 refine F.def sc__law_measure (fun _ _ _ _ _ _ us hl=>match us,hl with | [_],_=>rfl) (fun vs H Q E h=>?_) (fun f cdv A outer s H vs Q E hr h=>?_)
 ·obtain ⟨n,rfl,_⟩:=h
  rfl
 ·obtain ⟨n,rfl,n0,q⟩:=h
  refine ⟨_,pss_cons (ps_if (pt_cmpR op_eq (pe_op op_mod (pv 0) pe_int) pe_int (nomark _))
    (pss_one (ps_ret (pe_tup (pa_cons (pe_op op_add pe_int (pe_op op_mod (pe_op op_fdiv (pv 0) pe_int) pe_int)) (pa_cons (pe_op op_mod (pe_op op_fdiv (pv 0) pe_int) pe_int) pa_nil)))))
    (pss_nil))
   (pss_one (ps_ret (pe_tup (pa_cons (pe_op op_add pe_int (pe_op op_mod (pe_op op_fdiv (pv 0) pe_int) pe_int)) (pa_cons (pe_op op_mod (pe_op op_fdiv (pv 0) pe_int) pe_int) pa_nil))))),?_⟩
  have d8:0≤n / 8:=Int.ediv_nonneg n0 (by decide)
  have d48:0≤n / 48:=Int.ediv_nonneg n0 (by decide)
  have d24:0≤n / 24:=Int.ediv_nonneg n0 (by decide)
  refine ⟨_,rfl,_,_,rfl,rfl,(by show (0:Int) < 8;decide),rfl,_,rfl,?_⟩
  by_cases h7:n % 8=7
  ·refine iteY (by show V.int (n % 8)=V.int 7;rw [h7]) ?_
   refine ⟨_,rfl,_,_,rfl,rfl,⟨by decide,by decide⟩,_,_,rfl,rfl,(by show (0:Int) < 6;decide),_,_,rfl,rfl,_,rfl,_,_,rfl,rfl,⟨by decide,by decide⟩,_,_,rfl,rfl,(by show (0:Int) < 5;decide),by show 2≤sizeLine;decide,fun a ha=>?_⟩
   exact q a _ _ ⟨by omega,by omega⟩ ha
  ·refine iteN (fun z=>h7 (V.int.inj z)) ?_
   refine ⟨_,rfl,_,_,rfl,rfl,⟨by decide,by decide⟩,_,_,rfl,rfl,(by show (0:Int) < 3;decide),_,_,rfl,rfl,_,rfl,_,_,rfl,rfl,⟨by decide,by decide⟩,_,_,rfl,rfl,(by show (0:Int) < 3;decide),by show 2≤sizeLine;decide,fun a ha=>?_⟩
   exact q a _ _ ⟨by omega,by omega⟩ ha
def turnsL (n:Int) (m:Nat):Ts:=(List.range m).map fun (k:Nat)=>(n / 7 % 21+(k:Int),1+(n / 11+31 * (k:Int)) % 96)
theorem turns_good {n:Int} {m:Nat} (n0:0≤n) (hm:m≤4):GoodTs (turnsL n m):=by
 have d7:0≤n / 7:=Int.ediv_nonneg n0 (by decide)
 refine ⟨by unfold turnsL;rw [List.length_map,List.length_range];exact hm,fun q hq=>?_,?_⟩
 ·obtain ⟨k,hk,rfl⟩:=List.mem_map.mp hq
  rw [List.mem_range] at hk
  refine ⟨⟨?_,?_⟩,?_,?_⟩
  ·show 0≤n / 7 % 21+(k:Int);omega
  ·show n / 7 % 21+(k:Int) < 24;omega
  ·show 1≤1+(n / 11+31 * (k:Int)) % 96;omega
  ·show 1+(n / 11+31 * (k:Int)) % 96≤96;omega
 ·unfold turnsL
  rw [List.map_map]
  refine List.Pairwise.map _ (fun a b hab z=>hab ?_) List.nodup_range
  have z:(n / 7 % 21+(a:Int)).toNat=(n / 7 % 21+(b:Int)).toNat:=z
  omega
theorem turns_succ (n:Int) (m:Nat):turnsL n (m+1)=turnsL n m ++ [(n / 7 % 21+(m:Int),1+(n / 11+31 * (m:Int)) % 96)]:=by unfold turnsL;rw [List.range_succ,List.map_append];rfl
theorem turns_len (n:Int) (m:Nat):(turnsL n m).length=m:=by unfold turnsL;rw [List.length_map,List.length_range]
def sp__law_turns (K:PySem.W.Frag):Sp:=fun vs H Q _=>∃ (n:Int) (m:Nat),vs=[.int n,.int (m:Int)]∧0≤n∧m≤4∧∀ (a:Addr) (H':Hp),Same H H'→IsTs K H' a (turnsL n m)→Q (.ref a) H'
theorem sc__law_turns:FnScope ["number","many"] ["number","many"] (defScope s__law_turns):=⟨rfl,rfl,rfl,by decide +kernel,rfl,by decide +kernel,by decide +kernel⟩
theorem ok__law_turns (F:Site K mg "_law_turns" s__law_turns) (T:Txt K mg t):Def P w K mg base 1 "_law_turns" ["number","many"] (sp__law_turns K):=by
 refine F.def sc__law_turns (fun _ _ _ _ _ _ us hl=>match us,hl with | [_,_],_=>rfl) (fun vs H Q E h=>?_) (fun f cdv A outer s H vs Q E hr h=>?_)
 ·obtain ⟨n,m,rfl,_⟩:=h
  rfl
 ·obtain ⟨n,m,rfl,n0,hm,q⟩:=h
  refine ⟨_,pss_one (ps_ret (pe_callTy (call_tupleK K) (by rfl) T.n_tuple boot_tuple (pa_cons (pe_lc rfl (Nc:=["k","number"]) (ix:=[none,some 0]) (cscope (defScope s__law_turns) ["number","many"] rfl rfl (by decide +kernel)) (pi_range1 (by rfl) T.n_range (pa_cons (pv 1) pa_nil)) (fun C fp s H=>⟨(pg_name (i:=0) (show (["k","number"]:List Str).Nodup by decide +kernel) rfl (Or.inl rfl)),pts_nil,(pe_tup (pa_cons (pe_op op_add (pe_op op_mod (pe_op op_fdiv (pv 1) pe_int) pe_int) (pv 0)) (pa_cons (pe_op op_add pe_int (pe_op op_mod (pe_op op_add (pe_op op_fdiv (pv 1) pe_int) (pe_op op_mul pe_int (pv 0))) pe_int)) pa_nil)))⟩)) pa_nil))),?_⟩
  have hsz:(2000:Nat)≤sizeLine:=by decide
  refine ⟨_,rfl,(m:Int),rfl,by omega,by omega,fun D hD=>?_⟩
  rw [Int.toNat_natCast]
  refine lc_range (lo:=0) (n:=m) (fun i σ H'=>(∃ v,σ=[v,some (.int n)])∧Same H H'∧∃ tas:Nat→Addr,H' D=some (.lst (tabR i tas))∧∀ y q,(turnsL n i)[y]?=some q→H' (tas y)=some (.tup [.int q.1,.int q.2]))
   ⟨⟨none,rfl⟩,(Same.refl H).new hD,fun _=>0,upd_same,fun y q hq=>by cases hq⟩ ?_ ?_
  ·rintro i σ H' N hN hi ⟨⟨v,rfl⟩,s1,tas,e1,e2⟩
   rw [show (0:Int)+(i:Nat)=(i:Int) by omega]
   refine turn_do ?_
   refine ⟨_,rfl,_,_,rfl,rfl,⟨by decide,by decide⟩,_,_,rfl,rfl,(by show (0:Int) < 21;decide),_,rfl,_,_,rfl,rfl,_,rfl,_,_,rfl,rfl,⟨by decide,by decide⟩,_,rfl,_,_,rfl,rfl,.inl ⟨by decide,by decide⟩,_,_,rfl,rfl,_,_,rfl,rfl,(by show (0:Int) < 96;decide),_,_,rfl,rfl,by show 2≤sizeLine;decide,fun p hp=>?_⟩
   have nDp:D≠p:=ne_of_none e1 hp
   refine ⟨_,by rw [upd_ne nDp];exact e1,by rw [tab_len];omega,hN _ _ ⟨⟨_,rfl⟩,(s1.new hp).put hD,fun y=>if y=i then p else tas y,by rw [upd_same,tabR_snoc],fun y q hq=>?_⟩⟩
   rw [turns_succ] at hq
   by_cases z:y=i
   ·rw [z,List.getElem?_append_right (by rw [turns_len];exact Nat.le_refl _),turns_len,Nat.sub_self] at hq
    cases hq
    simp only [z,if_true]
    rw [upd_ne (Ne.symm nDp)]
    exact upd_same
   ·have hy:y < (turnsL n i ++ [(n / 7 % 21+(i:Int),1+(n / 11+31 * (i:Int)) % 96)]).length:=(List.getElem?_eq_some_iff.mp hq).1
    rw [List.length_append,turns_len] at hy
    have hy':y < i:=by simp at hy;omega
    rw [List.getElem?_append_left (by rw [turns_len];exact hy')] at hq
    have:=e2 y q hq
    simp only [z,if_false]
    rw [upd_ne (fun w=>by rw [w,e1] at this;cases this),upd_ne (ne_of_none this hp)]
    exact this
  ·rintro σ H' ⟨⟨v,rfl⟩,s1,tas,e1,e2⟩
   refine ⟨D,_,rfl,.inl ⟨SqL.of e1,fun a ha=>?_⟩⟩
   have s2:=s1.new (o:=.tup (tabR m tas)) ha
   refine q a _ s2 ⟨tas,SqT.of (by rw [turns_len];exact upd_same),fun y q hq=>SqT.of ?_⟩
   have:=e2 y q hq
   rw [upd_ne (ne_of_none this ha)]
   exact this
abbrev Ft:=List (Int × Ts)
structure GoodF (late:Int) (fs:Ft):Prop where
 len:fs.length≤3
 at_:∀ d ∈ fs,1≤d.1∧d.1≤late∧GoodTs d.2
def IsFt (K:PySem.W.Frag) (H:Hp) (a:Addr) (fs:Ft):Prop:=∃ fas tas:Nat→Addr,SqT K H a (tabR fs.length fas)∧∀ y d,fs[y]?=some d→SqT K H (fas y) [.int d.1,.ref (tas y)]∧IsTs K H (tas y) d.2
theorem IsFt.same {K:PySem.W.Frag} {H H':Hp} {a:Addr} {fs:Ft} (h:IsFt K H a fs) (s:Same H H'):IsFt K H' a fs:=by
 obtain ⟨fas,tas,h1,h2⟩:=h
 exact ⟨fas,tas,s.tup h1,fun y d e=>⟨s.tup (h2 y d e).1,(h2 y d e).2.same s⟩⟩
theorem ts_nil {K:PySem.W.Frag} {H:Hp} {a:Addr} (h:SqT K H a []):IsTs K H a []:=⟨fun _=>0,h,fun y q e=>by cases e⟩
theorem goodTs_nil:GoodTs []:=⟨by decide,(fun q hq=>by cases hq),List.nodup_nil⟩
theorem ft_nil {K:PySem.W.Frag} {H:Hp} {a:Addr} (h:SqT K H a []):IsFt K H a []:=⟨fun _=>0,fun _=>0,h,fun y q e=>by cases e⟩
theorem ft_one {K:PySem.W.Frag} {H:Hp} {a b c:Addr} {d:Int} {ts:Ts} (h:SqT K H a [.ref b]) (hb:SqT K H b [.int d,.ref c]) (hc:IsTs K H c ts):IsFt K H a [(d,ts)] :=
 ⟨fun _=>b,fun _=>c,h,fun y e he=>by
  cases y with
  | zero=>cases he;exact ⟨hb,hc⟩
  | succ y=>cases he⟩
theorem ft_two {K:PySem.W.Frag} {H:Hp} {a b c b' c':Addr} {d d':Int} {ts ts':Ts} (h:SqT K H a [.ref b,.ref b']) (hb:SqT K H b [.int d,.ref c]) (hc:IsTs K H c ts) (hb':SqT K H b' [.int d',.ref c']) (hc':IsTs K H c' ts'):IsFt K H a [(d,ts),(d',ts')] :=
 ⟨fun y=>if y=0 then b else b',fun y=>if y=0 then c else c',h,fun y e he=>by
  match y,he with
  | 0,he=>cases he;exact ⟨hb,hc⟩
  | 1,he=>cases he;exact ⟨hb',hc'⟩
  | y+2,he=>cases he⟩
theorem ft_three {K:PySem.W.Frag} {H:Hp} {a b c b' c' b'' c'':Addr} {d d' d'':Int} {ts ts' ts'':Ts} (h:SqT K H a [.ref b,.ref b',.ref b'']) (hb:SqT K H b [.int d,.ref c]) (hc:IsTs K H c ts) (hb':SqT K H b' [.int d',.ref c']) (hc':IsTs K H c' ts') (hb'':SqT K H b'' [.int d'',.ref c'']) (hc'':IsTs K H c'' ts''):IsFt K H a [(d,ts),(d',ts'),(d'',ts'')] :=
 ⟨fun y=>if y=0 then b else if y=1 then b' else b'',fun y=>if y=0 then c else if y=1 then c' else c'',h,fun y e he=>by
  match y,he with
  | 0,he=>cases he;exact ⟨hb,hc⟩
  | 1,he=>cases he;exact ⟨hb',hc'⟩
  | 2,he=>cases he;exact ⟨hb'',hc''⟩
  | y+3,he=>cases he⟩
theorem pair_nil {K:PySem.W.Frag} {H:Hp} {b c:Addr} {d:Int} (hc:H c=none) (hb:(upd H c (.tup [])) b=none):Same H (upd (upd H c (.tup [])) b (.tup [.int d,.ref c]))∧SqT K (upd (upd H c (.tup [])) b (.tup [.int d,.ref c])) b [.int d,.ref c]∧IsTs K (upd (upd H c (.tup [])) b (.tup [.int d,.ref c])) c []:=by
 have s1:Same H (upd H c (.tup [])):=(Same.refl _).new hc
 have s2:Same (upd H c (.tup [])) (upd (upd H c (.tup [])) b (.tup [.int d,.ref c])):=(Same.refl _).new hb
 exact ⟨s1.trans s2,SqT.of upd_same,ts_nil (SqT.of (s2 _ _ upd_same))⟩
theorem pair_ts {K:PySem.W.Frag} {H:Hp} {b c:Addr} {d:Int} {ts:Ts} (hc:IsTs K H c ts) (hb:H b=none):Same H (upd H b (.tup [.int d,.ref c]))∧SqT K (upd H b (.tup [.int d,.ref c])) b [.int d,.ref c]∧IsTs K (upd H b (.tup [.int d,.ref c])) c ts:=by
 have s1:Same H (upd H b (.tup [.int d,.ref c])):=(Same.refl _).new hb
 exact ⟨s1,SqT.of upd_same,hc.same s1⟩
def sp__law_fate (K:PySem.W.Frag):Sp:=fun vs H Q _=>∃ n late:Int,vs=[.int n,.int late]∧0≤n∧1≤late∧late≤6∧∀ (a:Addr) (H':Hp) (fs:Ft),Same H H'→IsFt K H' a fs→GoodF late fs→Q (.ref a) H'
theorem sc__law_fate:FnScope ["number","late","delay","other","kind"] ["number","late"] (defScope s__law_fate):=⟨rfl,rfl,rfl,by decide +kernel,rfl,by decide +kernel,by decide +kernel⟩
theorem ok__law_fate (F:Site K mg "_law_fate" s__law_fate) (T:Txt K mg t) (D__law_turns:Def P w K mg base 1 "_law_turns" ["number","many"] (sp__law_turns K)):Def P w K mg base 2 "_law_fate" ["number","late"] (sp__law_fate K):=by
 refine F.def sc__law_fate (fun _ _ _ _ _ _ us hl=>match us,hl with | [_,_],_=>rfl) (fun vs H Q E h=>?_) (fun f cdv A outer s H vs Q E hr h=>?_)
 ·obtain ⟨n,late,rfl,_⟩:=h
  rfl
 ·obtain ⟨n,late,rfl,n0,l0,l1,q⟩:=h
  refine ⟨_,pss_cons (ps_set (i:=2) sc__law_fate.nd rfl (Or.inl rfl) (pe_op op_add pe_int (pe_op op_mod (pe_op op_fdiv (pv 0) pe_int) (pv 1))))
   (pss_cons (ps_set (i:=3) sc__law_fate.nd rfl (Or.inl rfl) (pe_op op_add pe_int (pe_op op_mod (pe_op op_fdiv (pv 0) pe_int) (pv 1))))
   (pss_cons (ps_set (i:=4) sc__law_fate.nd rfl (Or.inl rfl) (pe_op op_mod (pv 0) pe_int))
   (pss_cons (ps_if (pt_cmpR op_lt (pv 4) pe_int (nomark _))
    (pss_one (ps_ret (pe_tup (pa_cons (pe_tup (pa_cons pe_int (pa_cons (pe_tup pa_nil) pa_nil))) pa_nil))))
    (pss_nil))
   (pss_cons (ps_if (pt_cmpR op_lt (pv 4) pe_int (nomark _))
    (pss_one (ps_ret (pe_tup pa_nil)))
    (pss_nil))
   (pss_cons (ps_if (pt_cmpR op_lt (pv 4) pe_int (nomark _))
    (pss_one (ps_ret (pe_tup (pa_cons (pe_tup (pa_cons (pv 2) (pa_cons (pe_tup pa_nil) pa_nil))) pa_nil))))
    (pss_nil))
   (pss_cons (ps_if (pt_cmpR op_lt (pv 4) pe_int (nomark _))
    (pss_one (ps_ret (pe_tup (pa_cons (pe_tup (pa_cons (pv 2) (pa_cons (pe_tup pa_nil) pa_nil))) (pa_cons (pe_tup (pa_cons (pv 3) (pa_cons (pe_tup pa_nil) pa_nil))) pa_nil)))))
    (pss_nil))
   (pss_cons (ps_if (pt_cmpR op_eq (pv 4) pe_int (nomark _))
    (pss_one (ps_ret (pe_tup (pa_cons (pe_tup (pa_cons (pv 2) (pa_cons (pe_def (D__law_turns.mono (by decide)) hr passN (pa_cons (pv 0) (pa_cons pe_int pa_nil))) pa_nil))) (pa_cons (pe_tup (pa_cons (pv 3) (pa_cons (pe_tup pa_nil) pa_nil))) (pa_cons (pe_tup (pa_cons (pv 2) (pa_cons (pe_tup pa_nil) pa_nil))) pa_nil))))))
    (pss_nil))
   (pss_cons (ps_if (pt_cmpR op_lt (pv 4) pe_int (nomark _))
    (pss_one (ps_ret (pe_tup (pa_cons (pe_tup (pa_cons (pv 2) (pa_cons (pe_def (D__law_turns.mono (by decide)) hr passN (pa_cons (pv 0) (pa_cons (pe_op op_add pe_int (pe_op op_mod (pe_op op_fdiv (pv 0) pe_int) pe_int)) pa_nil))) pa_nil))) pa_nil))))
    (pss_nil))
   (pss_one (ps_ret (pe_tup (pa_cons (pe_tup (pa_cons (pv 2) (pa_cons (pe_def (D__law_turns.mono (by decide)) hr passN (pa_cons (pv 0) (pa_cons (pe_op op_add pe_int (pe_op op_mod (pe_op op_fdiv (pv 0) pe_int) pe_int)) pa_nil))) pa_nil))) pa_nil)))))))))))),?_⟩
  have d16:0≤n / 16:=Int.ediv_nonneg n0 (by decide)
  have lp:0 < late:=by omega
  refine ⟨_,rfl,_,_,rfl,rfl,⟨by decide,by decide⟩,_,rfl,_,_,rfl,rfl,lp,_,_,rfl,rfl,?_⟩
  refine ⟨_,rfl,_,_,rfl,rfl,⟨by decide,by decide⟩,_,rfl,_,_,rfl,rfl,lp,_,_,rfl,rfl,?_⟩
  have b1:1≤(1+n / 16 % late)∧(1+n / 16 % late)≤late:=by
   have:=Int.emod_nonneg (n / 16) (show late≠0 by omega)
   have:=Int.emod_lt_of_pos (n / 16) lp
   omega
  have b2:1≤(1+n / 100 % late)∧(1+n / 100 % late)≤late:=by
   have:=Int.emod_nonneg (n / 100) (show late≠0 by omega)
   have:=Int.emod_lt_of_pos (n / 100) lp
   omega
  refine ⟨_,rfl,_,_,rfl,rfl,(by show (0:Int) < 16;decide),?_⟩
  have one:∀ {d:Int} {ts:Ts},(1≤d∧d≤late)→GoodTs ts→GoodF late [(d,ts)]:=fun {d ts} hd g=>⟨by show 1≤3;decide,fun x hx=>by rw [List.mem_singleton.mp hx];exact ⟨hd.1,hd.2,g⟩⟩
  have m16:0≤n % 16∧n % 16 < 16:=⟨Int.emod_nonneg _ (by decide),Int.emod_lt_of_pos _ (by decide)⟩
  refine ⟨_,rfl,_,_,rfl,rfl,_,rfl,?_⟩
  by_cases w1:(n % 16) < 5
  ·refine iteY w1 ?_
   refine ⟨by show 0≤sizeLine;decide,fun c hc=>⟨by show 2≤sizeLine;decide,fun b hb=>⟨by show 1≤sizeLine;decide,fun a ha=>?_⟩⟩⟩
   obtain ⟨s1,g1,g2⟩:=pair_nil (K:=K) (d:=1) hc hb
   have s2:=(Same.refl _).new (o:=.tup [.ref b]) ha
   exact q a _ [(1,[])] (s1.trans s2) (ft_one (SqT.of upd_same) (s2.tup g1) (g2.same s2)) (one ⟨by decide,l0⟩ goodTs_nil)
  refine iteN w1 ?_
  refine ⟨_,rfl,_,_,rfl,rfl,_,rfl,?_⟩
  by_cases w2:(n % 16) < 8
  ·refine iteY w2 ?_
   refine ⟨by show 0≤sizeLine;decide,fun a ha=>?_⟩
   exact q a _ [] ((Same.refl _).new ha) (ft_nil (SqT.of upd_same)) ⟨by decide,fun d hd=>by cases hd⟩
  refine iteN w2 ?_
  refine ⟨_,rfl,_,_,rfl,rfl,_,rfl,?_⟩
  by_cases w3:(n % 16) < 10
  ·refine iteY w3 ?_
   refine ⟨_,rfl,by show 0≤sizeLine;decide,fun c hc=>⟨by show 2≤sizeLine;decide,fun b hb=>⟨by show 1≤sizeLine;decide,fun a ha=>?_⟩⟩⟩
   obtain ⟨s1,g1,g2⟩:=pair_nil (K:=K) (d:=(1+n / 16 % late)) hc hb
   have s2:=(Same.refl _).new (o:=.tup [.ref b]) ha
   exact q a _ [((1+n / 16 % late),[])] (s1.trans s2) (ft_one (SqT.of upd_same) (s2.tup g1) (g2.same s2)) (one b1 goodTs_nil)
  refine iteN w3 ?_
  refine ⟨_,rfl,_,_,rfl,rfl,_,rfl,?_⟩
  by_cases w4:(n % 16) < 12
  ·refine iteY w4 ?_
   refine ⟨_,rfl,by show 0≤sizeLine;decide,fun c hc=>⟨by show 2≤sizeLine;decide,fun b hb=>?_⟩⟩
   obtain ⟨s1,g1,g2⟩:=pair_nil (K:=K) (d:=(1+n / 16 % late)) hc hb
   refine ⟨_,rfl,by show 0≤sizeLine;decide,fun c2 hc2=>⟨by show 2≤sizeLine;decide,fun b2' hb2=>?_⟩⟩
   obtain ⟨s2,k1,k2⟩:=pair_nil (K:=K) (d:=(1+n / 100 % late)) hc2 hb2
   refine ⟨by show 2≤sizeLine;decide,fun a ha=>?_⟩
   have s3:=(Same.refl _).new (o:=.tup [.ref b,.ref b2']) ha
   have s23:=s2.trans s3
   refine q a _ [((1+n / 16 % late),[]),((1+n / 100 % late),[])] (s1.trans s23) (ft_two (SqT.of upd_same) (s23.tup g1) (g2.same s23) (s3.tup k1) (k2.same s3)) ⟨by show 2≤3;decide,fun d hd=>?_⟩
   rcases List.mem_cons.mp hd with rfl | hd
   ·exact ⟨b1.1,b1.2,goodTs_nil⟩
   ·rw [List.mem_singleton.mp hd];exact ⟨b2.1,b2.2,goodTs_nil⟩
  refine iteN w4 ?_
  refine ⟨_,rfl,rfl,_,rfl,?_⟩
  by_cases w5:(n % 16)=12
  ·refine iteY (by show V.int (n % 16)=V.int 12;rw [w5]) ?_
   refine ⟨_,rfl,_,rfl,n,3,rfl,n0,by decide,fun c H0 s0 hc=>⟨by show 2≤sizeLine;decide,fun b hb=>?_⟩⟩
   obtain ⟨s1,g1,g2⟩:=pair_ts (d:=(1+n / 16 % late)) hc hb
   refine ⟨_,rfl,by show 0≤sizeLine;decide,fun c2 hc2=>⟨by show 2≤sizeLine;decide,fun b2' hb2=>?_⟩⟩
   obtain ⟨s2,k1,k2⟩:=pair_nil (K:=K) (d:=(1+n / 100 % late)) hc2 hb2
   refine ⟨_,rfl,by show 0≤sizeLine;decide,fun c3 hc3=>⟨by show 2≤sizeLine;decide,fun b3 hb3=>?_⟩⟩
   obtain ⟨s3,j1,j2⟩:=pair_nil (K:=K) (d:=(1+n / 16 % late)) hc3 hb3
   refine ⟨by show 3≤sizeLine;decide,fun a ha=>?_⟩
   have s4:=(Same.refl _).new (o:=.tup [.ref b,.ref b2',.ref b3]) ha
   have s34:=s3.trans s4
   have s24:=s2.trans s34
   refine q a _ [((1+n / 16 % late),turnsL n 3),((1+n / 100 % late),[]),((1+n / 16 % late),[])] ((s0.trans s1).trans s24) (ft_three (SqT.of upd_same) (s24.tup g1) (g2.same s24) (s34.tup k1) (k2.same s34) (s4.tup j1) (j2.same s4)) ⟨by show 3≤3;decide,fun d hd=>?_⟩
   rcases List.mem_cons.mp hd with rfl | hd
   ·exact ⟨b1.1,b1.2,turns_good n0 (by decide)⟩
   ·rcases List.mem_cons.mp hd with rfl | hd
    ·exact ⟨b2.1,b2.2,goodTs_nil⟩
    ·rw [List.mem_singleton.mp hd];exact ⟨b1.1,b1.2,goodTs_nil⟩
  refine iteN (fun z=>w5 (V.int.inj z)) ?_
  have h2:0≤n / 16 % 2∧n / 16 % 2 < 2:=⟨Int.emod_nonneg _ (by decide),Int.emod_lt_of_pos _ (by decide)⟩
  refine ⟨_,rfl,_,_,rfl,rfl,_,rfl,?_⟩
  by_cases w6:(n % 16) < 15
  ·refine iteY w6 ?_
   refine ⟨_,rfl,_,rfl,_,rfl,_,_,rfl,rfl,⟨by decide,by decide⟩,_,_,rfl,rfl,(by show (0:Int) < 2;decide),_,_,rfl,rfl,n,(1+n / 16 % 2).toNat,?_,n0,by omega,fun c H0 s0 hc=>⟨by show 2≤sizeLine;decide,fun b hb=>⟨by show 1≤sizeLine;decide,fun a ha=>?_⟩⟩⟩
   ·show [V.int n,V.int (1+n / 16 % 2)]=_
    rw [Int.toNat_of_nonneg (by omega)]
   obtain ⟨s1,g1,g2⟩:=pair_ts (d:=(1+n / 16 % late)) hc hb
   have s2:=(Same.refl _).new (o:=.tup [.ref b]) ha
   exact q a _ [((1+n / 16 % late),turnsL n (1+n / 16 % 2).toNat)] ((s0.trans s1).trans s2) (ft_one (SqT.of upd_same) (s2.tup g1) (g2.same s2)) (one b1 (turns_good n0 (by omega)))
  ·refine iteN w6 ?_
   refine ⟨_,rfl,_,rfl,_,rfl,_,_,rfl,rfl,⟨by decide,by decide⟩,_,_,rfl,rfl,(by show (0:Int) < 2;decide),_,_,rfl,rfl,n,(3+n / 16 % 2).toNat,?_,n0,by omega,fun c H0 s0 hc=>⟨by show 2≤sizeLine;decide,fun b hb=>⟨by show 1≤sizeLine;decide,fun a ha=>?_⟩⟩⟩
   ·show [V.int n,V.int (3+n / 16 % 2)]=_
    rw [Int.toNat_of_nonneg (by omega)]
   obtain ⟨s1,g1,g2⟩:=pair_ts (d:=(1+n / 16 % late)) hc hb
   have s2:=(Same.refl _).new (o:=.tup [.ref b]) ha
   exact q a _ [((1+n / 16 % late),turnsL n (3+n / 16 % 2).toNat)] ((s0.trans s1).trans s2) (ft_one (SqT.of upd_same) (s2.tup g1) (g2.same s2)) (one b1 (turns_good n0 (by omega)))
end
end K34
namespace K34
open PySem L2 PyProof.Rows
section
variable {P:Program} {w:World} {K:PySem.W.Frag} {mg:Str→Option Value} {base:Heap} {t:Ad}
def sp__law_turned (K:PySem.W.Frag):Sp:=fun vs H Q _=>∃ (l a:Addr) (f:Nat→Int) (ts:Ts),vs=[.ref l,.ref a]∧SqL K H l (tabI 24 f)∧IsTs K H a ts∧GoodTs ts∧∀ (p:Addr) (H':Hp),Same H H'→H p=none→H' p=some (.lst (tabI 24 (turnF f ts)))→Q (.ref p) H'
theorem tabI_at {n:Nat} {f:Nat→Int} {i:Int} (h0:0≤i) (h1:i < n):atI (tabI n f) i=some (V.int (f i.toNat)):=tab_at (f:=fun j=>V.int (f j)) h0 h1
theorem tabI_ix {n:Nat} {f:Nat→Int} {i:Int} (h0:0≤i) (h1:i < n):ixN (tabI n f).length i=some i.toNat:=by
 unfold ixN
 rw [tab_len,if_pos h0,if_pos h1]
theorem tabI_put {n i:Nat} {f:Nat→Int} {v:Int} (h:i < n):(tabI n f).set i (V.int v)=tabI n (setF f i v):=by
 refine (tab_set (f:=fun j=>V.int (f j)) h).trans (tab_congr fun j _=>?_)
 unfold setF
 by_cases z:j=i
 ·rw [if_pos z,if_pos z]
 ·rw [if_neg z,if_neg z]
theorem sc__law_turned:FnScope ["cell","turns","made","place","add"] ["cell","turns"] (defScope s__law_turned):=⟨rfl,rfl,rfl,by decide +kernel,rfl,by decide +kernel,by decide +kernel⟩
theorem ok__law_turned (F:Site K mg "_law_turned" s__law_turned) (T:Txt K mg t):Def P w K mg base 1 "_law_turned" ["cell","turns"] (sp__law_turned K):=by
 refine F.def sc__law_turned (fun _ _ _ _ _ _ us hl=>match us,hl with | [_,_],_=>rfl) (fun vs H Q E h=>?_) (fun f cdv A outer s H vs Q E hr h=>?_)
 ·obtain ⟨l,a,f,ts,rfl,_⟩:=h
  rfl
 ·obtain ⟨l,a,f,ts,rfl,hl,⟨tas,hA,ht⟩,g,q⟩:=h
  refine ⟨_,pss_cons (ps_set (i:=2) sc__law_turned.nd rfl (Or.inl rfl) (pe_callTy (call_listK K) (by rfl) T.n_list boot_list (pa_cons (pv 0) pa_nil)))
   (pss_cons (PS.nox (ps_for PassesOwn.never rfl (pi_tupK K (pv 1)) (pg_twoK K (i:=3) (j:=4) rfl sc__law_turned.nd rfl rfl (Or.inl rfl) (Or.inl rfl))
    (pss_one (ps_asg (pe_op op_mod (pe_op op_add (pe_ix (ix_listK K) (pv 2) (pv 3) (fun _ _=>rfl)) (pv 4)) pe_int) (pg_sub (pv 2) (pv 3) set_list)))))
   (pss_one (ps_ret (pv 2)))),?_⟩
  refine ⟨_,rfl,l,_,rfl,.inl hl,fun r hr=>?_⟩
  have s1:=(Same.refl H).new (o:=.lst (tabI 24 f)) hr
  refine ⟨_,rfl,a,rfl,⟨_,s1.tup hA⟩,?_⟩
  refine for_tup (K:=K) (a:=a) (xs:=tabR ts.length tas) (fun i σ H'=>∃ v3 v4:Option V,σ=[some (.ref l),some (.ref a),some (.ref r),v3,v4]∧Same H H'∧H' r=some (.lst (tabI 24 (turnF f (ts.take i))))) ⟨none,none,rfl,s1,upd_same⟩ (fun i σ H' _ ⟨_,_,_,s2,_⟩=>s2.tup hA) ?_ ?_
  ·rintro i x σ H' hx ⟨v3,v4,rfl,s2,hr2⟩
   obtain ⟨hi,rfl⟩:=tab_of hx
   have e:ts[i]?=some ts[i]:=by simp [hi]
   generalize ts[i]=c at e
   obtain ⟨⟨p0,p1⟩,_⟩:=g.at_ c (List.mem_of_getElem? e)
   refine take_two (s2.tup (ht i c e)) ?_
   refine ⟨_,rfl,_,rfl,r,_,_,_,rfl,rfl,SqL.of hr2,tabI_at p0 (by omega),_,rfl,_,_,rfl,rfl,_,_,rfl,rfl,(by show (0:Int) < 97;decide),?_⟩
   refine ⟨_,rfl,_,rfl,r,_,_,_,rfl,rfl,hr2,tabI_ix p0 (by omega),?_⟩
   refine ⟨_,_,rfl,s2.put hr,?_⟩
   rw [upd_same,take_succ e,turn_snoc]
   exact congrArg (fun z=>some (HO.lst z)) (tabI_put (by omega))
  ·rintro σ H' ⟨v3,v4,rfl,s2,hr2⟩
   rw [tab_len,List.take_length] at hr2
   exact ⟨_,rfl,q r H' s2 hr hr2⟩
structure Rw where
 f:Nat→Int
 rd:Bool
 b:Int × Int
structure GoodRw (r:Rw):Prop where
 c:IsCell 24 r.f
 m:MendO r.f (if r.rd=true then some r.b else none)
 b1:Brt r.b.1
 b2:Brt r.b.2
abbrev BvP:=Hp→V→(Int × Int)→Prop
def RwAt (Bv:BvP) (B:Hp) (a:Addr) (r:Rw):Prop:=∃ (c:Addr) (v:V),B a=some (.tup [.ref c,.bl r.rd,v])∧B c=some (.lst (tabI 24 r.f))∧Bv B v r.b∧GoodRw r
def MonoB (Bv:BvP):Prop:=∀ B B' v b,Same B B'→Bv B v b→Bv B' v b
theorem RwAt.same {Bv:BvP} (mb:MonoB Bv) {B B':Hp} {a:Addr} {r:Rw} (h:RwAt Bv B a r) (s:Same B B'):RwAt Bv B' a r:=by
 obtain ⟨c,v,h1,h2,h3,h4⟩:=h
 exact ⟨c,v,s _ _ h1,s _ _ h2,mb _ _ _ _ s h3,h4⟩
structure Slot (Bv:BvP) (B H:Hp) (a:Addr) (rs:List Rw):Prop where
 no:B a=none
 at_:∃ ras:Nat→Addr,H a=some (.lst (tabR rs.length ras))∧∀ y r,rs[y]?=some r→RwAt Bv B (ras y) r
theorem Slot.keep {Bv:BvP} (mb:MonoB Bv) {B B' H H':Hp} {a:Addr} {rs:List Rw} (h:Slot Bv B H a rs) (s:Same B B') (n:B' a=none) (e:H' a=H a):Slot Bv B' H' a rs:=by
 obtain ⟨ras,h1,h2⟩:=h.at_
 exact ⟨n,ras,e.trans h1,fun y r hr=>(h2 y r hr).same mb s⟩
structure Cg (Bv:BvP) (B H:Hp) (d:Addr) (sl:Nat→Addr) (n:Nat) (rows:Nat→List Rw):Prop where
 dl:B d=some (.lst (tabR n sl))
 inj:∀ i j,i < n→j < n→sl i=sl j→i=j
 at_:∀ j,j < n→Slot Bv B H (sl j) (rows j)
def rowOfT (b:Int × Int) (ts:Ts):Rw:=⟨turnF (cellG b) ts,decide (ts.length < 3),b⟩
def addR (rows:Nat→List Rw) (k:Nat) (r:Rw):Nat→List Rw:=fun j=>if j=k then rows j ++ [r] else rows j
def giveR (rows:Nat→List Rw) (tick:Nat) (b:Int × Int) (fs:Ft):Nat→List Rw:=fs.foldl (fun rs d=>addR rs (tick+d.1.toNat) (rowOfT b d.2)) rows
theorem give_snoc (rows:Nat→List Rw) (tick:Nat) (b:Int × Int) (fs:Ft) (d:Int × Ts):giveR rows tick b (fs ++ [d])=addR (giveR rows tick b fs) (tick+d.1.toNat) (rowOfT b d.2):=by unfold giveR;rw [List.foldl_append];rfl
theorem row_good {b:Int × Int} {ts:Ts} (h1:Brt b.1) (h2:Brt b.2) (g:GoodTs ts) (hs:My.Sealed (cellG b)):GoodRw (rowOfT b ts):=by
 have c:=cellG_ok h1 h2
 refine ⟨turn_cell c,?_,h1,h2⟩
 show MendO (turnF (cellG b) ts) (if decide (ts.length < 3)=true then some b else none)
 by_cases z:ts.length < 3
 ·rw [decide_eq_true z,if_pos rfl]
  exact ⟨h1,h2,turn_mend g c hs z⟩
 ·rw [decide_eq_false z,if_neg (by decide)]
  exact turn_none g c hs z
structure Gv (B H B' H':Hp) (sl:Nat→Addr) (n:Nat):Prop where
 bb:Same B B'
 bh:Same B' H'
 no:∀ m,H m≠none→B m=none→B' m=none
 fr:∀ m o,(∀ j,j < n→m≠sl j)→H m=some o→H' m=some o
 g:∀ m,H' m=none→H m=none
theorem Gv.refl {B H:Hp} {sl:Nat→Addr} {n:Nat} (s:Same B H):Gv B H B H sl n:=⟨Same.refl _,s,fun _ _ h=>h,fun _ _ _ h=>h,fun _ h=>h⟩
theorem Gv.trans {B H B1 H1 B2 H2:Hp} {sl:Nat→Addr} {n:Nat} (a:Gv B H B1 H1 sl n) (b:Gv B1 H1 B2 H2 sl n):Gv B H B2 H2 sl n :=
 ⟨a.bb.trans b.bb,b.bh,fun m h1 h2=>b.no m (fun z=>h1 (a.g m z)) (a.no m h1 h2),fun m o h e=>b.fr m o h (a.fr m o h e),fun m h=>a.g m (b.g m h)⟩
end
end K34
namespace K34
open PySem L2 PyProof.Rows
section
variable {P:Program} {w:World} {K:PySem.W.Frag} {mg:Str→Option Value} {base:Heap} {t:Ad}
theorem Slot.val {Bv:BvP} {B H:Hp} {a:Addr} {rs:List Rw} (h:Slot Bv B H a rs):H a≠none:=by obtain ⟨_,g,_⟩:=h.at_;rw [g];exact fun z=>by cases z
theorem Cg.step {Bv:BvP} (mb:MonoB Bv) {B H H2:Hp} {d p r:Addr} {sl:Nat→Addr} {n k:Nat} {rows:Nat→List Rw} {v3:V} {rw':Rw} {ras:Nat→Addr} (c:Cg Bv B H d sl n rows) (sb:Same B H) (hk:k < n) (s2:Same H H2) (np:H p=none) (ep:H2 p=some (.lst (tabI 24 rw'.f))) (nr:H2 r=none)
  (g:GoodRw rw') (hv:Bv B v3 rw'.b) (e1:H (sl k)=some (.lst (tabR (rows k).length ras))) (e2:∀ y x,(rows k)[y]?=some x→RwAt Bv B (ras y) x) :
  Gv B H (upd (upd B p (.lst (tabI 24 rw'.f))) r (.tup [.ref p,.bl rw'.rd,v3])) (upd (upd H2 r (.tup [.ref p,.bl rw'.rd,v3])) (sl k) (.lst (tabR (rows k).length ras ++ [.ref r]))) sl n ∧
  Cg Bv (upd (upd B p (.lst (tabI 24 rw'.f))) r (.tup [.ref p,.bl rw'.rd,v3])) (upd (upd H2 r (.tup [.ref p,.bl rw'.rd,v3])) (sl k) (.lst (tabR (rows k).length ras ++ [.ref r]))) d sl n (addR rows k rw'):=by
 have nr1:H r=none:=s2.free nr
 have npr:p≠r:=fun z=>by rw [z,nr] at ep;cases ep
 have bp:B p=none:=sb.free np
 have br:B r=none:=sb.free nr1
 have sB1:Same B (upd B p (.lst (tabI 24 rw'.f))):=(Same.refl _).new bp
 have sB:Same B (upd (upd B p (.lst (tabI 24 rw'.f))) r (.tup [.ref p,.bl rw'.rd,v3])):=sB1.new (by rw [upd_ne (Ne.symm npr)];exact br)
 have slk:H (sl k)≠none:=(c.at_ k hk).val
 have nsr:∀ j,j < n→sl j≠r:=fun j hj z=>(c.at_ j hj).val (by rw [z];exact nr1)
 have nsp:∀ j,j < n→sl j≠p:=fun j hj z=>(c.at_ j hj).val (by rw [z];exact np)
 have bno:∀ j,j < n→(upd (upd B p (.lst (tabI 24 rw'.f))) r (.tup [.ref p,.bl rw'.rd,v3])) (sl j)=none:=fun j hj=>by rw [upd_ne (nsr j hj),upd_ne (nsp j hj)];exact (c.at_ j hj).no
 refine ⟨⟨sB,?_,?_,?_,?_⟩,⟨sB _ _ c.dl,c.inj,fun j hj=>?_⟩⟩
 ·intro m o e
  by_cases z1:m=r
  ·rw [z1] at e ⊢
   rw [upd_same] at e
   rw [upd_ne (Ne.symm (nsr k hk)),upd_same];exact e
  ·rw [upd_ne z1] at e
   by_cases z2:m=p
   ·rw [z2] at e ⊢
    rw [upd_same] at e
    rw [upd_ne (Ne.symm (nsp k hk)),upd_ne npr,ep];exact e
   ·rw [upd_ne z2] at e
    rw [upd_ne (fun z=>by rw [z,(c.at_ k hk).no] at e;cases e),upd_ne z1]
    exact s2 _ _ (sb _ _ e)
 ·intro m h1 h2
  rw [upd_ne (fun z=>h1 (by rw [z];exact nr1)),upd_ne (fun z=>h1 (by rw [z];exact np))];exact h2
 ·intro m o h e
  rw [upd_ne (h k hk),upd_ne (fun z=>by rw [z,nr1] at e;cases e)]
  exact s2 _ _ e
 ·intro m h
  by_cases z1:m=sl k
  ·rw [z1,upd_same] at h;cases h
  ·rw [upd_ne z1] at h
   by_cases z2:m=r
   ·rw [z2];exact nr1
   ·rw [upd_ne z2] at h
    exact s2.free h
 ·by_cases z:j=k
  ·subst z
   refine ⟨bno j hj,fun y=>if y=(rows j).length then r else ras y,?_,fun y x hx=>?_⟩
   ·rw [upd_same,tabR_snoc]
    show _=some (HO.lst (tabR (if j=j then rows j ++ [rw'] else rows j).length _))
    rw [if_pos rfl,List.length_append]
    rfl
   ·have hx:(if j=j then rows j ++ [rw'] else rows j)[y]?=some x:=hx
    rw [if_pos rfl] at hx
    by_cases zy:y=(rows j).length
    ·rw [zy,List.getElem?_append_right (Nat.le_refl _),Nat.sub_self] at hx
     cases hx
     simp only [zy,if_true]
     exact ⟨p,v3,upd_same,by rw [upd_ne npr];exact upd_same,mb _ _ _ _ sB hv,g⟩
    ·have hy:y < (rows j ++ [rw']).length:=(List.getElem?_eq_some_iff.mp hx).1
     rw [List.length_append] at hy
     have hy':y < (rows j).length:=by simp at hy;omega
     rw [List.getElem?_append_left hy'] at hx
     simp only [zy,if_false]
     exact (e2 y x hx).same mb sB
  ·show Slot Bv _ _ (sl j) (if j=k then _ else rows j)
   rw [if_neg z]
   have ne:sl j≠sl k:=fun w=>z (c.inj j k hj hk w)
   obtain ⟨rj,g1,g2⟩:=(c.at_ j hj).at_
   exact (c.at_ j hj).keep mb sB (bno j hj) (by rw [upd_ne ne,upd_ne (nsr j hj),s2 _ _ g1,g1])
def sp__law_give (K:PySem.W.Frag) (Bv:BvP):Sp:=fun vs H Q _=>∃ (B:Hp) (d l fA:Addr) (tick:Nat) (v3:V) (sl:Nat→Addr) (n:Nat) (rows:Nat→List Rw) (b:Int × Int) (fs:Ft) (late:Int),vs=[.ref d,.ref l,.ref fA,.int (tick:Int),v3]∧Same B H∧Cg Bv B H d sl n rows ∧
 H l=some (.lst (tabI 24 (cellG b)))∧Brt b.1∧Brt b.2∧Bv B v3 b∧IsFt K H fA fs∧GoodF late fs∧late≤6∧tick+6 < n∧(∀ j,j < n→(rows j).length≤100000)∧(∀ j,j < n→l≠sl j) ∧
 ∀ B' H',Gv B H B' H' sl n→Cg Bv B' H' d sl n (giveR rows tick b fs)→Q .non H'
theorem sqt_fr {K:PySem.W.Frag} {H H':Hp} {a:Addr} {xs:List V} {sl:Nat→Addr} {n:Nat} (fr:∀ m o,(∀ j,j < n→m≠sl j)→H m=some o→H' m=some o) (ls:∀ j,j < n→∃ ys,H (sl j)=some (.lst ys)) (h:SqT K H a xs):SqT K H' a xs:=by
 rcases h with (h | ⟨u,h⟩) | h
 ·exact .inl (.inl (fr a _ (fun j hj z=>by obtain ⟨ys,e⟩:=ls j hj;rw [z,e] at h;cases h) h))
 ·exact .inl (.inr ⟨u,fr a _ (fun j hj z=>by obtain ⟨ys,e⟩:=ls j hj;rw [z,e] at h;cases h) h⟩)
 ·exact .inr h
theorem give_len {rows:Nat→List Rw} {tick:Nat} {b:Int × Int}:∀ (fs:Ft) (j:Nat),(giveR rows tick b fs j).length≤(rows j).length+fs.length:=by
 intro fs
 induction fs generalizing rows with
 | nil=>intro j;exact Nat.le_refl _
 | cons d r ih =>
  intro j
  have:=ih (rows:=addR rows (tick+d.1.toNat) (rowOfT b d.2)) j
  have h2:(addR rows (tick+d.1.toNat) (rowOfT b d.2) j).length≤(rows j).length+1:=by
   unfold addR
   split
   ·rw [List.length_append];exact Nat.le_refl _
   ·exact Nat.le_succ _
  show (giveR (addR rows (tick+d.1.toNat) (rowOfT b d.2)) tick b r j).length≤_
  rw [List.length_cons]
  omega
theorem sc__law_give:FnScope ["coming","cell","fate","tick","births","delay","turns"] ["coming","cell","fate","tick","births"] (defScope s__law_give):=⟨rfl,rfl,rfl,by decide +kernel,rfl,by decide +kernel,by decide +kernel⟩
theorem ok__law_give {Bv:BvP} (mb:MonoB Bv) (F:Site K mg "_law_give" s__law_give) (T:Txt K mg t) (D__law_turned:Def P w K mg base 1 "_law_turned" ["cell","turns"] (sp__law_turned K)):Def P w K mg base 2 "_law_give" ["coming","cell","fate","tick","births"] (sp__law_give K Bv):=by
 refine F.def sc__law_give (fun _ _ _ _ _ _ us hl=>match us,hl with | [_,_,_,_,_],_=>rfl) (fun vs H Q E h=>?_) (fun f cdv A outer s H vs Q E hr h=>?_)
 ·obtain ⟨B,d,l,fA,tick,v3,sl,n,rows,b,fs,late,rfl,_⟩:=h
  rfl
 ·obtain ⟨B,d,l,fA,tick,v3,sl,n,rows,b,fs,late,rfl,sb,cg,hl,hb1,hb2,hv,hf,gf,l6,ht,hrl,nl,q⟩:=h
  refine ⟨_,pss_one (PS.nox (ps_for PassesOwn.never rfl (pi_tupK K (pv 2)) (pg_twoK K (i:=5) (j:=6) rfl sc__law_give.nd rfl rfl (Or.inl rfl) (Or.inl rfl))
    (pss_one (ps_expr (pe_bmK K PySem.F.plainAttrs_list PySem.F.slot_list_append PySem.F.type_list_append mt_append (pe_ix (ix_listK K) (pv 0) (pe_op op_add (pv 3) (pv 5)) (fun _ _=>rfl)) (pa_cons (pe_tup (pa_cons (pe_def (D__law_turned.mono (by decide)) hr passN (pa_cons (pv 1) (pa_cons (pv 6) pa_nil))) (pa_cons (pe_cmpR op_lt (pe_callB (call_lenK K) (by rfl) T.n_len boot_len (pa_cons (pv 6) pa_nil)) pe_int (nomark _)) (pa_cons (pv 4) pa_nil)))) pa_nil)))))),?_⟩
  have hsz:(1000001:Nat)≤sizeLine:=by decide
  obtain ⟨fas,tas,h1,h2⟩:=hf
  have hs:My.Sealed (cellG b):=My.sealI_sealed _
  have ls:∀ j,j < n→∃ ys,H (sl j)=some (.lst ys):=fun j hj=>by obtain ⟨_,g,_⟩:=(cg.at_ j hj).at_;exact ⟨_,g⟩
  refine ⟨_,rfl,fA,rfl,⟨_,h1⟩,?_⟩
  refine for_tup (K:=K) (a:=fA) (xs:=tabR fs.length fas) (fun i σ H'=>∃ (B':Hp) (v5 v6:Option V),σ=[some (.ref d),some (.ref l),some (.ref fA),some (.int (tick:Int)),some v3,v5,v6]∧Gv B H B' H' sl n∧Cg Bv B' H' d sl n (giveR rows tick b (fs.take i)))
   ⟨B,none,none,rfl,Gv.refl sb,cg⟩ (fun i σ H' _ ⟨_,_,_,_,g,_⟩=>sqt_fr g.fr ls h1) ?_ ?_
  ·rintro i x σ H1 hx ⟨B1,v5,v6,rfl,g1,c1⟩
   obtain ⟨hi,rfl⟩:=tab_of hx
   have e:fs[i]?=some fs[i]:=by simp [hi]
   generalize fs[i]=dd at e
   obtain ⟨d1,d2,d3⟩:=gf.at_ dd (List.mem_of_getElem? e)
   obtain ⟨k1,tas1,k2,k3⟩:=h2 i dd e
   have kts:IsTs K H1 (tas i) dd.2:=⟨tas1,sqt_fr g1.fr ls k2,fun y q hq=>sqt_fr g1.fr ls (k3 y q hq)⟩
   refine take_two (sqt_fr g1.fr ls k1) ?_
   have hkn:tick+dd.1.toNat < n:=by omega
   obtain ⟨ras,r1,r2⟩:=(c1.at_ _ hkn).at_
   have hl1:H1 l=some (.lst (tabI 24 (cellG b))):=g1.fr l _ nl hl
   have eix:atI (tabR n sl) ((tick:Int)+dd.1)=some (.ref (sl (tick+dd.1.toNat))):=by
    rw [show (tick:Int)+dd.1=((tick+dd.1.toNat:Nat):Int) by omega]
    exact atI_nat (tab_get hkn)
   have hlen:=give_len (rows:=rows) (tick:=tick) (b:=b) (fs.take i) (tick+dd.1.toNat)
   have hl3:=gf.len
   rw [List.length_take] at hlen
   have hrl2:=hrl _ hkn
   refine ⟨_,rfl,_,rfl,_,rfl,_,_,rfl,rfl,d,_,_,_,rfl,rfl,SqL.of (g1.bh _ _ c1.dl),eix,.inl ⟨rfl,_,SqL.of r1⟩,?_⟩
   refine ⟨_,rfl,_,rfl,l,tas i,_,dd.2,rfl,SqL.of hl1,kts,d3,fun p H2 s2 np ep=>?_⟩
   refine ⟨_,rfl,tas i,_,rfl,.inr (s2.tup (kts.choose_spec.1)),_,_,rfl,rfl,?_⟩
   rw [tab_len]
   refine ⟨_,rfl,by show 3≤sizeLine;decide,fun r hr'=>?_⟩
   refine ⟨sl (tick+dd.1.toNat),_,_,rfl,rfl,by rw [upd_ne (ne_of_none (s2 _ _ r1) hr')];exact s2 _ _ r1,by rw [tab_len];omega,?_⟩
   have hrd:decide (((dd.2.length:Nat):Int) < 3)=decide (dd.2.length < 3):=by
    by_cases z:dd.2.length < 3
    ·rw [decide_eq_true z,decide_eq_true (by omega)]
    ·rw [decide_eq_false z,decide_eq_false (by omega)]
   obtain ⟨gA,cA⟩:=c1.step mb (rw':=rowOfT b dd.2) (v3:=v3) g1.bh hkn s2 np ep hr' (row_good hb1 hb2 d3 hs) (mb _ _ _ _ g1.bb hv) r1 r2
   refine ⟨upd (upd B1 p (.lst (tabI 24 (rowOfT b dd.2).f))) r (.tup [.ref p,.bl (rowOfT b dd.2).rd,v3]),_,_,rfl,g1.trans ?_,?_⟩
   ·show Gv B1 H1 _ (upd (upd H2 r (.tup [.ref p,.bl (decide (((dd.2.length:Nat):Int) < 3)),v3])) _ _) sl n
    rw [hrd]
    exact gA
   ·show Cg Bv _ (upd (upd H2 r (.tup [.ref p,.bl (decide (((dd.2.length:Nat):Int) < 3)),v3])) _ _) d sl n _
    rw [hrd,take_succ e,give_snoc]
    exact cA
  ·rintro σ H1 ⟨B1,v5,v6,rfl,g1,c1⟩
   rw [tab_len,List.take_length] at c1
   exact q B1 H1 g1 c1
end
end K34
namespace K34
open PySem L2 PyProof.Rows
section
variable {P:Program} {w:World} {K:PySem.W.Frag} {mg:Str→Option Value} {base:Heap} {t:Ad}
def TupK (H H':Hp):Prop:=∀ a xs,H a=some (.tup xs)→H' a=some (.tup xs)
theorem TupK.put {H:Hp} {m:Addr} {ys:List V} {o:HO} (h:H m=some (.lst ys)):TupK H (upd H m o):=fun a xs e=>by rw [upd_ne (fun z=>by rw [z,h] at e;cases e)];exact e
def at2 {α:Type} (f:Nat→α) (s:Nat) (v:α):Nat→α:=fun i=>if i=s then v else f i
theorem at2_same {α:Type} {f:Nat→α} {s:Nat} {v:α}:at2 f s v s=v:=if_pos rfl
theorem at2_ne {α:Type} {f:Nat→α} {s i:Nat} {v:α} (h:i≠s):at2 f s v i=f i:=if_neg h
structure NotT (o:HO):Prop where
 t:∀ xs,o≠.tup xs
 f:∀ a u,o≠.frz a u
theorem notT_lst (xs:List V):NotT (.lst xs):=⟨(fun _ z=>by cases z),(fun _ _ z=>by cases z)⟩
structure St (Bv:BvP) (C:Addr) (B H:Hp) (n:Nat) (x tA pA d:Nat→Addr) (sl:Nat→Nat→Addr) (L:Nat→Lk) (rows:Nat→Nat→List Rw) (ρ:Addr→Nat) (m:Nat) (ex:Nat→Addr) (eo:Nat→HO):Prop where
 sb:Same B H
 lk:∀ s,s < 2→LkAt C H (x s) (tA s) (pA s) (L s)
 cg:∀ s,s < 2→Cg Bv B H (d s) (sl s) n (rows s)
 bx:∀ s,s < 2→B (x s)=none
 bt:∀ s,s < 2→B (tA s)=none
 bp:∀ s,s < 2→B (pA s)=none
 rx:∀ s,s < 2→ρ (x s)=10+s
 rt:∀ s,s < 2→ρ (tA s)=20+s
 rp:∀ s,s < 2→ρ (pA s)=30+s
 rs:∀ s,s < 2→∀ j,j < n→ρ (sl s j)=50+s
 ee:∀ i,i < m→H (ex i)=some (eo i)
 eb:∀ i,i < m→B (ex i)=none
 er:∀ i,i < m→ρ (ex i)=100+i
 en:∀ i,i < m→NotT (eo i)
section
variable {Bv:BvP} {C:Addr} {B H H':Hp} {n:Nat} {x tA pA d:Nat→Addr} {sl:Nat→Nat→Addr} {L:Nat→Lk} {rows:Nat→Nat→List Rw} {ρ:Addr→Nat} {s m:Nat} {ex:Nat→Addr} {eo:Nat→HO}
theorem rho_ne {a b:Addr} {i j:Nat} (ha:ρ a=i) (hb:ρ b=j) (h:i≠j):a≠b:=fun z=>h (by rw [← ha,← hb,z])
theorem Cg.keepH {Bv:BvP} (mb:MonoB Bv) {a:Addr} {sa:Nat→Addr} {ra:Nat→List Rw} (h:Cg Bv B H a sa n ra) (e:∀ j,j < n→∀ o,H (sa j)=some o→H' (sa j)=some o):Cg Bv B H' a sa n ra :=
 ⟨h.dl,h.inj,fun j hj=>(h.at_ j hj).keep mb (Same.refl _) (h.at_ j hj).no (by obtain ⟨_,g,_⟩:=(h.at_ j hj).at_;rw [e j hj _ g,g])⟩
theorem St.same (mb:MonoB Bv) (h:St Bv C B H n x tA pA d sl L rows ρ m ex eo) (e:Same H H'):St Bv C B H' n x tA pA d sl L rows ρ m ex eo :=
 ⟨h.sb.trans e,fun s hs=>(h.lk s hs).same e,fun s hs=>(h.cg s hs).keepH mb fun j _ o g=>e _ _ g,h.bx,h.bt,h.bp,h.rx,h.rt,h.rp,h.rs,fun i hi=>e _ _ (h.ee i hi),h.eb,h.er,h.en⟩
theorem St.he (h:St Bv C B H n x tA pA d sl L rows ρ m ex eo) {i:Nat} (hi:i < m):H (ex i)≠none:=by rw [h.ee i hi];exact fun z=>by cases z
theorem St.mtup (h:St Bv C B H n x tA pA d sl L rows ρ m ex eo) (hs:s < 2) {tB pB:Addr} (mv:Mvd H H' (x s) (tA s) (pA s) tB pB):TupK H H':=fun a xs e=>(h.lk s hs).tup mv.k a xs e
theorem St.mvd (mb:MonoB Bv) {tB pB:Addr} {L':Lk} (h:St Bv C B H n x tA pA d sl L rows ρ m ex eo) (hs:s < 2) (mv:Mvd H H' (x s) (tA s) (pA s) tB pB) (hl:LkAt C H' (x s) tB pB L') (ntp:tB≠pB) :
  ∃ ρ',St Bv C B H' n x (at2 tA s tB) (at2 pA s pB) d sl (at2 L s L') rows ρ' m ex eo∧∀ a,a≠tB→a≠pB→ρ' a=ρ a:=by
 have old:∀ {a:Addr} {i:Nat},ρ a=i→i≠10+s→i≠20+s→i≠30+s→∀ o,H a=some o→H' a=some o:=fun {a i} e n1 n2 n3 o g=>mv.k a o (rho_ne e (h.rx s hs) n1) (rho_ne e (h.rt s hs) n2) (rho_ne e (h.rp s hs) n3) g
 have nt:∀ {a:Addr} {i:Nat},ρ a=i→i≠20+s→H a≠none→a≠tB:=fun {a i} e n1 g z=>by
  rcases mv.t with y | y
  ·exact rho_ne e (h.rt s hs) n1 (z.trans y)
  ·exact g (by rw [z];exact y)
 have np:∀ {a:Addr} {i:Nat},ρ a=i→i≠30+s→H a≠none→a≠pB:=fun {a i} e n1 g z=>by
  rcases mv.p with y | y
  ·exact rho_ne e (h.rp s hs) n1 (z.trans y)
  ·exact g (by rw [z];exact y)
 have rr:∀ {a:Addr} {i:Nat},ρ a=i→i≠20+s→i≠30+s→H a≠none→(fun b=>if b=tB then 20+s else if b=pB then 30+s else ρ b) a=i:=fun {a i} e n1 n2 g=>by
  show (if a=tB then 20+s else if a=pB then 30+s else ρ a)=i
  rw [if_neg (nt e n1 g),if_neg (np e n2 g)];exact e
 have tu:=h.mtup hs mv
 have bno:∀ {a b:Addr},(a=b∨H a=none)→B b=none→B a=none:=fun {a b} z e=>z.elim (fun y=>by rw [y];exact e) fun y=>h.sb.free y
 refine ⟨fun b=>if b=tB then 20+s else if b=pB then 30+s else ρ b,⟨?_,?_,?_,h.bx,?_,?_,?_,?_,?_,?_,fun i hi=>old (h.er i hi) (by omega) (by omega) (by omega) _ (h.ee i hi),h.eb,fun i hi=>rr (h.er i hi) (by omega) (by omega) (h.he hi),h.en⟩,fun a h1 h2=>by show (if a=tB then 20+s else if a=pB then 30+s else ρ a)=ρ a;rw [if_neg h1,if_neg h2]⟩
 ·intro b o e
  exact mv.k b o (ne_of_none e (h.bx s hs)) (ne_of_none e (h.bt s hs)) (ne_of_none e (h.bp s hs)) (h.sb _ _ e)
 ·intro i hi
  by_cases z:i=s
  ·subst z;rw [at2_same,at2_same,at2_same];exact hl
  ·rw [at2_ne z,at2_ne z,at2_ne z]
   refine (h.lk i hi).far (h.lk s hs) mv ?_ ?_ ?_ ?_ ?_
   ·exact rho_ne (h.rx i hi) (h.rx s hs) (by omega)
   ·exact rho_ne (h.rt i hi) (h.rt s hs) (by omega)
   ·exact rho_ne (h.rt i hi) (h.rp s hs) (by omega)
   ·exact rho_ne (h.rp i hi) (h.rt s hs) (by omega)
   ·exact rho_ne (h.rp i hi) (h.rp s hs) (by omega)
 ·intro i hi
  exact (h.cg i hi).keepH mb fun j hj=>old (h.rs i hi j hj) (by omega) (by omega) (by omega)
 ·intro i hi
  by_cases z:i=s
  ·subst z;rw [at2_same];exact bno mv.t (h.bt i hi)
  ·rw [at2_ne z];exact h.bt i hi
 ·intro i hi
  by_cases z:i=s
  ·subst z;rw [at2_same];exact bno mv.p (h.bp i hi)
  ·rw [at2_ne z];exact h.bp i hi
 ·intro i hi
  exact rr (h.rx i hi) (by omega) (by omega) (h.lk i hi).hx
 ·intro i hi
  by_cases z:i=s
  ·subst z;rw [at2_same];exact if_pos rfl
  ·rw [at2_ne z];exact rr (h.rt i hi) (by omega) (by omega) (h.lk i hi).ht
 ·intro i hi
  by_cases z:i=s
  ·subst z
   rw [at2_same]
   show (if pB=tB then 20+i else if pB=pB then 30+i else ρ pB)=_
   rw [if_neg (Ne.symm ntp),if_pos rfl]
  ·rw [at2_ne z];exact rr (h.rp i hi) (by omega) (by omega) (h.lk i hi).hp
 ·intro i hi j hj
  exact rr (h.rs i hi j hj) (by omega) (by omega) ((h.cg i hi).at_ j hj).val
theorem St.gv (mb:MonoB Bv) {B':Hp} {ra:Nat→List Rw} (h:St Bv C B H n x tA pA d sl L rows ρ m ex eo) (hs:s < 2) (g:Gv B H B' H' (sl s) n) (c:Cg Bv B' H' (d s) (sl s) n ra):St Bv C B' H' n x tA pA d sl L (at2 rows s ra) ρ m ex eo:=by
 have old:∀ {a:Addr} {i:Nat},ρ a=i→i≠50+s→∀ o,H a=some o→H' a=some o:=fun {a i} e n1 o q=>g.fr a o (fun j hj=>rho_ne e (h.rs s hs j hj) n1) q
 have tu:TupK H H':=fun a xs e=>g.fr a _ (fun j hj z=>by obtain ⟨_,q,_⟩:=((h.cg s hs).at_ j hj).at_;rw [z,q] at e;cases e) e
 refine ⟨g.bh,?_,?_,fun i hi=>g.no _ (h.lk i hi).hx (h.bx i hi),fun i hi=>g.no _ (h.lk i hi).ht (h.bt i hi),fun i hi=>g.no _ (h.lk i hi).hp (h.bp i hi),h.rx,h.rt,h.rp,h.rs,fun i hi=>old (h.er i hi) (by omega) _ (h.ee i hi),fun i hi=>g.no _ (h.he hi) (h.eb i hi),h.er,h.en⟩
 ·intro i hi
  obtain ⟨⟨dx,pv,q,gp⟩,⟨eas,g2,g2'⟩,g3,g4⟩:=h.lk i hi
  exact ⟨⟨dx,pv,old (h.rx i hi) (by omega) _ q,gp.mono tu⟩,⟨eas,old (h.rt i hi) (by omega) _ g2,fun y e he=>(g2' y e he).mono tu⟩,old (h.rp i hi) (by omega) _ g3,g4⟩
 ·intro i hi
  by_cases z:i=s
  ·subst z;rw [at2_same];exact c
  ·rw [at2_ne z]
   have ci:=h.cg i hi
   refine ⟨g.bb _ _ ci.dl,ci.inj,fun j hj=>(ci.at_ j hj).keep mb g.bb (g.no _ (ci.at_ j hj).val (ci.at_ j hj).no) ?_⟩
   obtain ⟨_,q,_⟩:=(ci.at_ j hj).at_
   rw [old (h.rs i hi j hj) (by omega) _ q,q]
theorem St.grow (mb:MonoB Bv) {a:Addr} {o:HO} (h:St Bv C B H n x tA pA d sl L rows ρ m ex eo) (s:Same H H') (na:H a=none) (ea:H' a=some o) :
  St Bv C (upd B a o) H' n x tA pA d sl L rows ρ m ex eo∧Same B (upd B a o):=by
 have h1:=h.same mb s
 have sB:Same B (upd B a o):=(Same.refl _).new (h.sb.free na)
 have no:∀ {b:Addr},H b≠none→B b=none→(upd B a o) b=none:=fun {b} hb e=>by rw [upd_ne (fun z=>hb (by rw [z];exact na))];exact e
 refine ⟨⟨?_,h1.lk,?_,fun s hs=>no (h.lk s hs).hx (h.bx s hs),fun s hs=>no (h.lk s hs).ht (h.bt s hs),fun s hs=>no (h.lk s hs).hp (h.bp s hs),h.rx,h.rt,h.rp,h.rs,h1.ee,fun i hi=>no (h.he hi) (h.eb i hi),h.er,h.en⟩,sB⟩
 ·intro b u e
  by_cases z:b=a
  ·rw [z] at e ⊢;rw [upd_same] at e;rw [ea];exact e
  ·rw [upd_ne z] at e;exact h1.sb _ _ e
 ·intro s hs
  have c:=h1.cg s hs
  exact ⟨sB _ _ c.dl,c.inj,fun j hj=>(c.at_ j hj).keep mb sB (no ((h.cg s hs).at_ j hj).val (c.at_ j hj).no) rfl⟩
theorem St.put (mb:MonoB Bv) {i:Nat} {o:HO} (h:St Bv C B H n x tA pA d sl L rows ρ m ex eo) (hi:i < m) (no:NotT o):St Bv C B (upd H (ex i) o) n x tA pA d sl L rows ρ m ex (at2 eo i o)∧TupK H (upd H (ex i) o):=by
 have old:∀ {b:Addr} {k:Nat},ρ b=k→k≠100+i→∀ u,H b=some u→(upd H (ex i) o) b=some u:=fun {b k} q n1 u g=>by rw [upd_ne (rho_ne q (h.er i hi) n1)];exact g
 have tu:TupK H (upd H (ex i) o):=fun a xs e=>by rw [upd_ne (fun z=>by rw [z,h.ee i hi] at e;exact (h.en i hi).t xs (Option.some.inj e))];exact e
 refine ⟨⟨h.sb.put (h.eb i hi),?_,?_,h.bx,h.bt,h.bp,h.rx,h.rt,h.rp,h.rs,?_,h.eb,h.er,?_⟩,tu⟩
 ·intro k hk
  obtain ⟨⟨dx,pv,q,gp⟩,⟨eas,g2,g2'⟩,g3,g4⟩:=h.lk k hk
  exact ⟨⟨dx,pv,old (h.rx k hk) (by omega) _ q,gp.mono tu⟩,⟨eas,old (h.rt k hk) (by omega) _ g2,fun y e he=>(g2' y e he).mono tu⟩,old (h.rp k hk) (by omega) _ g3,g4⟩
 ·intro k hk
  exact (h.cg k hk).keepH mb fun j hj=>old (h.rs k hk j hj) (by omega)
 ·intro k hk
  by_cases z:k=i
  ·rw [z,at2_same];exact upd_same
  ·rw [at2_ne z];exact old (h.er k hk) (by omega) _ (h.ee k hk)
 ·intro k hk
  by_cases z:k=i
  ·rw [z,at2_same];exact no
  ·rw [at2_ne z];exact h.en k hk
theorem St.re (h:St Bv C B H n x tA pA d sl L rows ρ m ex eo) {L':Nat→Lk} {eo':Nat→HO} (hL:∀ s,s < 2→L' s=L s) (hE:∀ i,i < m→eo' i=eo i):St Bv C B H n x tA pA d sl L' rows ρ m ex eo' :=
 ⟨h.sb,fun s hs=>by rw [hL s hs];exact h.lk s hs,h.cg,h.bx,h.bt,h.bp,h.rx,h.rt,h.rp,h.rs,fun i hi=>by rw [hE i hi];exact h.ee i hi,h.eb,h.er,fun i hi=>by rw [hE i hi];exact h.en i hi⟩
def tupB (B H:Hp):Hp:=fun a=>match H a with
 | some (.tup xs)=>some (.tup xs)
 | some (.frz o u)=>some (.frz o u)
 | _=>B a
theorem tupB_no {B H:Hp} {a:Addr} {o:HO} (h:H a=some o) (n:NotT o):tupB B H a=B a:=by
 unfold tupB
 rw [h]
 cases o with
 | tup xs=>exact absurd rfl (n.t xs)
 | frz b u=>exact absurd rfl (n.f b u)
 | _=>rfl
theorem tupB_tup {B H:Hp} {a:Addr} {xs:List V} (h:H a=some (.tup xs)):tupB B H a=some (.tup xs):=by unfold tupB;rw [h]
theorem tupB_sqt {B H:Hp} {K:PySem.W.Frag} {a:Addr} {xs:List V} (h:SqT K H a xs):SqT K (tupB B H) a xs:=by
 rcases h with (h | ⟨o,h⟩) | h
 ·exact .inl (.inl (tupB_tup h))
 ·exact .inl (.inr ⟨o,by unfold tupB;rw [h]⟩)
 ·exact .inr h
theorem tupB_same {B H:Hp} (s:Same B H):Same B (tupB B H):=fun a o e=>by
 have h:=s _ _ e
 unfold tupB
 rw [h]
 cases o with
 | tup xs=>rfl
 | frz b u=>rfl
 | _=>exact e
theorem tupB_sub {B H:Hp} (s:Same B H):Same (tupB B H) H:=fun a o e=>by
 unfold tupB at e
 split at e
 ·rename_i xs h;rw [h];exact e
 ·rename_i b u h;rw [h];exact e
 ·exact s _ _ e
theorem St.growT (mb:MonoB Bv) (h:St Bv C B H n x tA pA d sl L rows ρ m ex eo):St Bv C (tupB B H) H n x tA pA d sl L rows ρ m ex eo:=by
 have no:∀ {a:Addr} {o:HO},H a=some o→NotT o→B a=none→tupB B H a=none:=fun {a o} e n z=>by rw [tupB_no e n];exact z
 refine ⟨tupB_sub h.sb,h.lk,?_,?_,?_,?_,h.rx,h.rt,h.rp,h.rs,h.ee,fun i hi=>no (h.ee i hi) (h.en i hi) (h.eb i hi),h.er,h.en⟩
 ·intro s hs
  have c:=h.cg s hs
  refine ⟨tupB_same h.sb _ _ c.dl,c.inj,fun j hj=>(c.at_ j hj).keep mb (tupB_same h.sb) ?_ rfl⟩
  obtain ⟨_,g,_⟩:=(c.at_ j hj).at_
  exact no g (notT_lst _) (c.at_ j hj).no
 ·intro s hs
  obtain ⟨_,_,g,_⟩:=(h.lk s hs).at_
  exact no g ⟨(fun _ z=>by cases z),(fun _ _ z=>by cases z)⟩ (h.bx s hs)
 ·intro s hs
  obtain ⟨_,g,_⟩:=(h.lk s hs).told
  exact no g (notT_lst _) (h.bt s hs)
 ·intro s hs
  exact no (h.lk s hs).pcs (notT_lst _) (h.bp s hs)
end
open Classical in
noncomputable def rho0 (x t p:Nat→Addr) (sl:Nat→Nat→Addr) (n m:Nat) (ex:Nat→Addr) (a:Addr):Nat :=
 if a=x 0 then 10 else if a=x 1 then 11 else if a=t 0 then 20 else if a=t 1 then 21 else if a=p 0 then 30 else if a=p 1 then 31
 else if ∃ j,j < n∧a=sl 0 j then 50 else if ∃ j,j < n∧a=sl 1 j then 51 else if h:∃ i,i < m∧a=ex i then 100+Classical.choose h else 0
structure Apart (x t p:Nat→Addr) (sl:Nat→Nat→Addr) (n m:Nat) (ex:Nat→Addr):Prop where
 nd:[x 0,x 1,t 0,t 1,p 0,p 1].Nodup
 s0:∀ j,j < n→sl 0 j ∉ [x 0,x 1,t 0,t 1,p 0,p 1]
 s1:∀ j,j < n→sl 1 j ∉ [x 0,x 1,t 0,t 1,p 0,p 1]
 ss:∀ i j,i < n→j < n→sl 1 i≠sl 0 j
 ei:∀ i j,i < m→j < m→ex i=ex j→i=j
 ea:∀ i,i < m→ex i ∉ [x 0,x 1,t 0,t 1,p 0,p 1]
 e0:∀ i,i < m→∀ j,j < n→ex i≠sl 0 j
 e1:∀ i,i < m→∀ j,j < n→ex i≠sl 1 j
def two2 {α:Type} (a b:α):Nat→α:=fun s=>if s=0 then a else b
theorem two_all {q:Nat→Prop} (h0:q 0) (h1:q 1):∀ s,s < 2→q s:=fun s hs=>by
 match s,hs with
 | 0,_=>exact h0
 | 1,_=>exact h1
 | s+2,hs=>omega
section
variable {x t p:Nat→Addr} {sl:Nat→Nat→Addr} {n m:Nat} {ex:Nat→Addr}
theorem rho_zero {a:Addr} (h1:a ∉ [x 0,x 1,t 0,t 1,p 0,p 1]) (h2:∀ j,j < n→a≠sl 0 j) (h3:∀ j,j < n→a≠sl 1 j) (h4:∀ i,i < m→a≠ex i):rho0 x t p sl n m ex a=0:=by
 simp only [List.mem_cons,List.not_mem_nil,or_false,not_or] at h1
 obtain ⟨a1,a2,a3,a4,a5,a6⟩:=h1
 unfold rho0
 rw [if_neg a1,if_neg a2,if_neg a3,if_neg a4,if_neg a5,if_neg a6,if_neg (fun ⟨j,hj,e⟩=>h2 j hj e),if_neg (fun ⟨j,hj,e⟩=>h3 j hj e),dif_neg (fun ⟨j,hj,e⟩=>h4 j hj e)]
theorem rho_all (h:Apart x t p sl n m ex):(∀ s,s < 2→rho0 x t p sl n m ex (x s)=10+s)∧(∀ s,s < 2→rho0 x t p sl n m ex (t s)=20+s)∧(∀ s,s < 2→rho0 x t p sl n m ex (p s)=30+s)∧(∀ s,s < 2→∀ j,j < n→rho0 x t p sl n m ex (sl s j)=50+s)∧(∀ i,i < m→rho0 x t p sl n m ex (ex i)=100+i):=by
 have nd:=h.nd
 simp only [List.nodup_cons,List.mem_cons,List.not_mem_nil,or_false,not_or,List.nodup_nil,and_true,not_false_eq_true] at nd
 obtain ⟨⟨a1,a2,a3,a4,a5⟩,⟨b1,b2,b3,b4⟩,⟨c1,c2,c3⟩,⟨d1,d2⟩,e1⟩:=nd
 refine ⟨two_all ?_ ?_,two_all ?_ ?_,two_all ?_ ?_,two_all ?_ ?_,?_⟩
 ·unfold rho0;rw [if_pos rfl]
 ·unfold rho0;rw [if_neg (Ne.symm a1),if_pos rfl]
 ·unfold rho0;rw [if_neg (Ne.symm a2),if_neg (Ne.symm b1),if_pos rfl]
 ·unfold rho0;rw [if_neg (Ne.symm a3),if_neg (Ne.symm b2),if_neg (Ne.symm c1),if_pos rfl]
 ·unfold rho0;rw [if_neg (Ne.symm a4),if_neg (Ne.symm b3),if_neg (Ne.symm c2),if_neg (Ne.symm d1),if_pos rfl]
 ·unfold rho0;rw [if_neg (Ne.symm a5),if_neg (Ne.symm b4),if_neg (Ne.symm c3),if_neg (Ne.symm d2),if_neg (Ne.symm e1),if_pos rfl]
 ·intro j hj
  have h1:=h.s0 j hj
  simp only [List.mem_cons,List.not_mem_nil,or_false,not_or] at h1
  obtain ⟨u1,u2,u3,u4,u5,u6⟩:=h1
  unfold rho0
  rw [if_neg u1,if_neg u2,if_neg u3,if_neg u4,if_neg u5,if_neg u6,if_pos ⟨j,hj,rfl⟩]
 ·intro j hj
  have h1:=h.s1 j hj
  simp only [List.mem_cons,List.not_mem_nil,or_false,not_or] at h1
  obtain ⟨u1,u2,u3,u4,u5,u6⟩:=h1
  unfold rho0
  rw [if_neg u1,if_neg u2,if_neg u3,if_neg u4,if_neg u5,if_neg u6,if_neg (fun ⟨i,hi,e⟩=>h.ss j i hj hi e),if_pos ⟨j,hj,rfl⟩]
 ·intro i hi
  have h1:=h.ea i hi
  simp only [List.mem_cons,List.not_mem_nil,or_false,not_or] at h1
  obtain ⟨u1,u2,u3,u4,u5,u6⟩:=h1
  have hx:∃ k,k < m∧ex i=ex k:=⟨i,hi,rfl⟩
  unfold rho0
  rw [if_neg u1,if_neg u2,if_neg u3,if_neg u4,if_neg u5,if_neg u6,if_neg (fun ⟨j,hj,e⟩=>h.e0 i hi j hj e),if_neg (fun ⟨j,hj,e⟩=>h.e1 i hi j hj e),dif_pos hx]
  have:=Classical.choose_spec hx
  rw [← h.ei i _ hi this.1 this.2]
end
theorem St.start {Bv:BvP} {C:Addr} {H:Hp} {n m:Nat} {ex:Nat→Addr} {eo:Nat→HO} {x t p d:Nat→Addr} {sl:Nat→Nat→Addr} {L:Nat→Lk} (ap:Apart x t p sl n m ex) (lk:∀ s,s < 2→LkAt C H (x s) (t s) (p s) (L s))
  (dl:∀ s,s < 2→H (d s)=some (.lst (tabR n (sl s)))) (dz:∀ s,s < 2→rho0 x t p sl n m ex (d s)=0) (inj:∀ s,s < 2→∀ i j,i < n→j < n→sl s i=sl s j→i=j) (emp:∀ s,s < 2→∀ j,j < n→H (sl s j)=some (.lst [])) (ee:∀ i,i < m→H (ex i)=some (eo i)) (en:∀ i,i < m→NotT (eo i)) :
  ∃ B,St Bv C B H n x t p d sl L (fun _ _=>[]) (rho0 x t p sl n m ex) m ex eo∧∀ a o,rho0 x t p sl n m ex a=0→H a=some o→B a=some o:=by
 obtain ⟨r1,r2,r3,r5,r6⟩:=rho_all ap
 have no:∀ {a:Addr} {k:Nat},rho0 x t p sl n m ex a=k→k≠0→(fun a=>if rho0 x t p sl n m ex a=0 then H a else none) a=none:=fun {a k} e h=>by
  show (if rho0 x t p sl n m ex a=0 then H a else none)=none
  rw [if_neg (by rw [e];exact h)]
 have yes:∀ a o,rho0 x t p sl n m ex a=0→H a=some o→(fun a=>if rho0 x t p sl n m ex a=0 then H a else none) a=some o:=fun a o e h=>by
  show (if rho0 x t p sl n m ex a=0 then H a else none)=some o
  rw [if_pos e];exact h
 refine ⟨fun a=>if rho0 x t p sl n m ex a=0 then H a else none,⟨?_,lk,?_,?_,?_,?_,r1,r2,r3,r5,ee,fun i hi=>no (r6 i hi) (by omega),r6,en⟩,yes⟩
 ·intro a o e
  by_cases z:rho0 x t p sl n m ex a=0
  ·have e:(if rho0 x t p sl n m ex a=0 then H a else none)=some o:=e
   rw [if_pos z] at e;exact e
  ·have e:(if rho0 x t p sl n m ex a=0 then H a else none)=some o:=e
   rw [if_neg z] at e;cases e
 ·intro s hs
  exact ⟨yes _ _ (dz s hs) (dl s hs),inj s hs,fun j hj=>⟨no (r5 s hs j hj) (by omega),fun _=>0,emp s hs j hj,fun y r e=>by cases e⟩⟩
 ·intro s hs;exact no (r1 s hs) (by omega)
 ·intro s hs;exact no (r2 s hs) (by omega)
 ·intro s hs;exact no (r3 s hs) (by omega)
theorem at_two {f:Nat→Addr} {s:Nat} (h:s < 2):atI [V.ref (f 0),V.ref (f 1)] (s:Int)=some (.ref (f s)):=by
 match s,h with
 | 0,_=>rfl
 | 1,_=>rfl
 | s+2,h=>omega
theorem at_twoI {f:Nat→Int} {s:Nat} (h:s < 2):atI [V.int (f 0),V.int (f 1)] (s:Int)=some (.int (f s)):=by
 match s,h with
 | 0,_=>rfl
 | 1,_=>rfl
 | s+2,h=>omega
structure Emp (H0 H:Hp) (D:Addr) (sl:Nat→Addr) (n:Nat):Prop where
 sm:Same H0 H
 nD:H0 D=none
 at_:H D=some (.lst (tabR n sl))
 em:∀ j,j < n→H (sl j)=some (.lst [])
 no:∀ j,j < n→H0 (sl j)=none
 nd:∀ j,j < n→sl j≠D
 inj:∀ i j,i < n→j < n→sl i=sl j→i=j
theorem Emp.step {H0 H:Hp} {D p:Addr} {sl:Nat→Addr} {n:Nat} (h:Emp H0 H D sl n) (hp:H p=none):Emp H0 (upd (upd H p (.lst [])) D (.lst (tabR n sl ++ [.ref p]))) D (fun j=>if j=n then p else sl j) (n+1):=by
 have nDp:D≠p:=ne_of_none h.at_ hp
 refine ⟨(h.sm.new hp).put h.nD,h.nD,by rw [upd_same,tabR_snoc],fun j hj=>?_,fun j hj=>?_,fun j hj=>?_,fun i j hi hj e=>?_⟩
 ·by_cases z:j=n
  ·simp only [z,if_true]
   rw [upd_ne (Ne.symm nDp)];exact upd_same
  ·simp only [z,if_false]
   have hj':j < n:=by omega
   rw [upd_ne (h.nd j hj'),upd_ne (ne_of_none (h.em j hj') hp)];exact h.em j hj'
 ·by_cases z:j=n
  ·simp only [z,if_true];exact h.sm.free hp
  ·simp only [z,if_false];exact h.no j (by omega)
 ·by_cases z:j=n
  ·simp only [z,if_true];exact Ne.symm nDp
  ·simp only [z,if_false];exact h.nd j (by omega)
 ·by_cases zi:i=n
  ·by_cases zj:j=n
   ·omega
   ·simp only [zi,zj,if_true,if_false] at e
    have hj':j < n:=by omega
    exact absurd e.symm (ne_of_none (h.em j hj') hp)
  ·by_cases zj:j=n
   ·simp only [zi,zj,if_true,if_false] at e
    have hi':i < n:=by omega
    exact absurd e (ne_of_none (h.em i hi') hp)
   ·simp only [zi,zj,if_false] at e
    exact h.inj i j (by omega) (by omega) e
def BvN:BvP:=fun _ v _=>v=.non
theorem monoN:MonoB BvN:=fun _ _ _ _ _ h=>h
def readsR (rs:List Rw):List (Int × Int):=rs.filterMap fun r=>if r.rd=true then some r.b else none
def lastOf (bs:List (Int × Int)) (last tick:Int):Int:=if bs=[] then last else tick
theorem read_s (L:Lk) (n o:Int):(readL L n o).s=L.s∧(readL L n o).q=L.q∧(readL L n o).u=L.u∧(readL L n o).d=L.d:=by
 have m:(meetL L n).s=L.s∧(meetL L n).q=L.q∧(meetL L n).u=L.u∧(meetL L n).d=L.d:=by
  unfold meetL
  cases L.p with
  | none=>exact ⟨rfl,rfl,rfl,rfl⟩
  | some p=>simp only;split <;> exact ⟨rfl,rfl,rfl,rfl⟩
 have c:∀ M:Lk,(comeL M).s=M.s∧(comeL M).q=M.q∧(comeL M).u=M.u∧(comeL M).d=M.d:=fun M=>by
  unfold comeL
  cases M.p <;> exact ⟨rfl,rfl,rfl,rfl⟩
 unfold readL
 split
 ·exact ⟨rfl,rfl,rfl,rfl⟩
 ·split
  ·obtain ⟨c1,c2,c3,c4⟩:=c (meetL L n)
   exact ⟨c1.trans m.1,c2.trans m.2.1,c3.trans m.2.2.1,c4.trans m.2.2.2⟩
  ·exact m
theorem heard_s:∀ (bs:List (Int × Int)) (L:Lk),(heardL L bs).s=L.s∧(heardL L bs).q=L.q∧(heardL L bs).u=L.u∧(heardL L bs).d=L.d
 | [],_=>⟨rfl,rfl,rfl,rfl⟩
 | b :: r,L=>by
  obtain ⟨h1,h2,h3,h4⟩:=heard_s r (readL L b.1 b.2)
  obtain ⟨g1,g2,g3,g4⟩:=read_s L b.1 b.2
  exact ⟨h1.trans g1,h2.trans g2,h3.trans g3,h4.trans g4⟩
def afterL (L:Lk) (bs:List (Int × Int)):Lk:={ tickL L bs with ev:=[] }
theorem read_pk {L:Lk} {n o:Int} (h:L.p≠none→L.k≠0) (hn:1≤n):(readL L n o).p≠none→(readL L n o).k≠0:=by
 unfold readL
 split
 ·exact h
 ·intro _
  split
  ·rw [(come_b _).2.1,(meet_b L n).2];omega
  ·rw [(meet_b L n).2];omega
theorem heard_pk:∀ (bs:List (Int × Int)) (L:Lk),(L.p≠none→L.k≠0)→(∀ b ∈ bs,1≤b.1)→(heardL L bs).p≠none→(heardL L bs).k≠0
 | [],_,h,_=>h
 | b :: r,L,h,hb=>heard_pk r (readL L b.1 b.2) (read_pk h (hb b List.mem_cons_self)) fun x hx=>hb x (List.mem_cons_of_mem _ hx)
theorem quiet_s (L:Lk):(quietL L).s=L.s∧(quietL L).q=L.q∧(quietL L).u=L.u∧(quietL L).d=L.d:=by
 unfold quietL
 split
 ·unfold overL
  cases L.p <;> exact ⟨rfl,rfl,rfl,rfl⟩
 ·exact ⟨rfl,rfl,rfl,rfl⟩
def cmOf (r:Rw):Cm:=(r.f,if r.rd=true then some r.b else none)
theorem reads_cm (rs:List Rw):readsOf (rs.map cmOf)=readsR rs:=by
 unfold readsOf readsR
 rw [List.filterMap_map]
 rfl
end
end K34
namespace K34
open PySem L2 PyProof.Rows
section
variable {P:Program} {w:World} {K:PySem.W.Frag} {mg:Str→Option Value} {base:Heap} {t:Ad}
def IsArr (K:PySem.W.Frag) (H:Hp) (p:Addr) (c:Nat):Prop:=∃ (d:Int) (t:Addr) (xs:List V),SqT K H p [.int d,.ref t]∧SqT K H t xs∧xs.length=c
def IsFc (K:PySem.W.Frag) (H:Hp) (a:Addr) (cs:List Nat):Prop:=∃ aps:Nat→Addr,SqT K H a (tabR cs.length aps)∧∀ k c,cs[k]?=some c→IsArr K H (aps k) c
def fitC (cs:List Nat):Bool:=cs.any fun c=>decide (c≤2)
theorem arr_same {K:PySem.W.Frag} {H H':Hp} {p:Addr} {c:Nat} (s:Same H H') (h:IsArr K H p c):IsArr K H' p c:=by
 obtain ⟨d,t,xs,h1,h2,h3⟩:=h
 exact ⟨d,t,xs,s.tup h1,s.tup h2,h3⟩
theorem fc_same {K:PySem.W.Frag} {H H':Hp} {a:Addr} {cs:List Nat} (s:Same H H') (h:IsFc K H a cs):IsFc K H' a cs:=by
 obtain ⟨aps,h1,h2⟩:=h
 exact ⟨aps,s.tup h1,fun k c hc=>arr_same s (h2 k c hc)⟩
theorem take_next {α:Type} {l:List α} {i:Nat} {k:α} (h:l[i]?=some k):l.take (i+1)=l.take i ++ [k]:=by rw [List.take_succ,h];rfl
def sp_ft (K:PySem.W.Frag):Sp:=fun vs H Q _=>∃ (a:Addr) (cs:List Nat),vs=[.ref a]∧IsFc K H a cs∧cs.length≤3∧∀ H',Same H H'→Q (.bl (fitC cs)) H'
theorem sc_is_fit:FnScope ["fate"] ["fate"] (defScope s_is_fit):=⟨rfl,rfl,rfl,by decide +kernel,rfl,by decide +kernel,by decide +kernel⟩
theorem ok_is_fit (F:Site K mg "is_fit" s_is_fit) (T:Txt K mg t):Def P w K mg base 1 "is_fit" ["fate"] (sp_ft K):=by
 refine F.def sc_is_fit (fun _ _ _ _ _ _ us hl=>match us,hl with | [_],_=>rfl) (fun vs H Q E h=>?_) (fun f cdv A outer s H vs Q E hr h=>?_)
 ·obtain ⟨a,cs,rfl,_⟩:=h
  rfl
 ·obtain ⟨a,cs,rfl,⟨aps,ha,hk⟩,hm,q⟩:=h
  refine ⟨_,pss_one (ps_ret (pe_callB (call_anyK K rfl) (by rfl) T.n_any boot_any (pa_cons (pe_lc rfl (Nc:=["delay","turns"]) (ix:=[none,none]) (cscope (defScope s_is_fit) ["fate"] rfl rfl (by decide +kernel)) (pi_tupK K (pv 0)) (fun C fp s H=>⟨(pg_twoK K (i:=0) (j:=1) rfl (show (["delay","turns"]:List Str).Nodup by decide +kernel) rfl rfl (Or.inl rfl) (Or.inl rfl)),pts_nil,(pe_cmpR op_le (pe_callB (call_lenK K) (by rfl) T.n_len boot_len (pa_cons (pv 1) pa_nil)) (pe_gint T.cMENDED_TURNS) (nomark _))⟩)) pa_nil))),?_⟩
  have hsz:(2000:Nat)≤sizeLine:=by decide
  refine ⟨_,rfl,a,rfl,⟨_,ha⟩,fun D hD=>?_⟩
  refine lc_tup (K:=K) (a:=a) (xs:=tabR cs.length aps) (fun i σ H'=>∃ v1 v2:Option V,σ=[v1,v2]∧Same H H'∧H' D=some (.lst (((cs.take i).map fun c=>decide (c≤2)).map V.bl))) ⟨none,none,rfl,(Same.refl _).new hD,upd_same⟩ (fun i σ H' _ ⟨_,_,_,s1,_⟩=>s1.tup ha) ?_ ?_
  ·rintro i x σ H' N hN hx ⟨v1,v2,rfl,s1,h1⟩
   obtain ⟨hi,rfl⟩:=tab_of hx
   have e:cs[i]?=some cs[i]:=by simp [hi]
   obtain ⟨d,t,xs,g1,g2,g3⟩:=hk i _ e
   refine take_two (s1.tup g1) ?_
   refine yes_do ?_
   refine ⟨_,rfl,t,_,rfl,.inr (s1.tup g2),_,_,rfl,rfl,?_⟩
   refine ⟨_,h1,by simp;omega,?_⟩
   refine hN _ _ ⟨_,_,rfl,s1.put hD,?_⟩
   rw [upd_same,take_next e,List.map_append,List.map_append,g3]
   have e:decide (((cs[i]:Nat):Int)≤2)=decide (cs[i]≤2):=decide_eq_decide.mpr (by omega)
   simp [e]
  ·rintro σ H' ⟨v1,v2,rfl,s1,h1⟩
   rw [tab_len,List.take_length] at h1
   refine ⟨D,_,rfl,SqL.of h1,?_⟩
   have e:(cs.map fun c=>decide (c≤2)).any id=fitC cs:=by unfold fitC;rw [List.any_map];rfl
   rw [e]
   exact q H' s1
def sp_is_told (K:PySem.W.Frag):Sp:=fun vs H Q _=>∃ (l:Addr) (xs:List V) (f e:Int),vs=[.ref l,.int f,.int e]∧SqL K H l xs∧Q (.bl (decide (0≤f) && decide (e < (xs.length:Nat)))) H
theorem sc_is_told:FnScope ["row","first","last"] ["row","first","last"] (defScope s_is_told):=⟨rfl,rfl,rfl,by decide +kernel,rfl,by decide +kernel,by decide +kernel⟩
theorem ok_is_told (F:Site K mg "is_told" s_is_told) (T:Txt K mg t):Def P w K mg base 1 "is_told" ["row","first","last"] (sp_is_told K):=by
 refine F.def sc_is_told (fun _ _ _ _ _ _ us hl=>match us,hl with | [_,_,_],_=>rfl) (fun vs H Q E h=>?_) (fun f cdv A outer s H vs Q E hr h=>?_)
 ·obtain ⟨l,xs,f,e,rfl,_⟩:=h
  rfl
 ·obtain ⟨l,xs,f,e,rfl,hl,q⟩:=h
  refine ⟨_,pss_one (ps_ret (pe_and (pe_cmpR op_ge (pv 1) pe_int (nomark _)) (pe_one (pe_cmpR op_lt (pv 2) (pe_callB (call_lenK K) (by rfl) T.n_len boot_len (pa_cons (pv 0) pa_nil)) (nomark _))))),?_⟩
  refine ⟨_,rfl,_,_,rfl,rfl,_,rfl,?_⟩
  by_cases h:0≤f
  ·refine iteY h ⟨_,rfl,_,rfl,l,_,rfl,.inl hl,_,_,rfl,rfl,?_⟩
   rw [decide_eq_true h,Bool.true_and] at q
   exact q
  ·refine iteN h ?_
   rw [decide_eq_false h,Bool.false_and] at q
   exact q
def IsFts (K:PySem.W.Frag) (H:Hp) (l:Addr) (css:List (List Nat)):Prop:=∃ fs:Nat→Addr,H l=some (.lst (tabR css.length fs))∧∀ k cs,css[k]?=some cs→IsFc K H (fs k) cs∧cs.length≤3
theorem fts_same {K:PySem.W.Frag} {H H':Hp} {l:Addr} {css:List (List Nat)} (s:Same H H') (h:IsFts K H l css):IsFts K H' l css:=by
 obtain ⟨fs,h1,h2⟩:=h
 exact ⟨fs,s _ _ h1,fun k cs hc=>⟨fc_same s (h2 k cs hc).1,(h2 k cs hc).2⟩⟩
def fitN (css:List (List Nat)) (k:Nat):Bool:=fitC ((css[k]?).getD [])
def brk (css:List (List Nat)) (la lo f e:Int):Bool:=decide (e - la - (f - 1)=lo) && (decide (0≤f - 1) && decide (e - la < (css.length:Nat))) && !((List.range (lo+1).toNat).any fun k=>fitN css ((f - 1).toNat+k))
def sp_broken_by (K:PySem.W.Frag):Sp:=fun vs H Q _=>∃ (l m:Addr) (css:List (List Nat)) (la lo f e:Int),vs=[.ref l,.ref m,.int f,.int e]∧IsFts K H l css∧css.length≤1000∧SqT K H m [.int la,.int lo]∧0≤lo∧∀ H',Same H H'→Q (.bl (brk css la lo f e)) H'
theorem sc_broken_by:FnScope ["fates","measure","first","last","begin","end"] ["fates","measure","first","last"] (defScope s_broken_by):=⟨rfl,rfl,rfl,by decide +kernel,rfl,by decide +kernel,by decide +kernel⟩
theorem ok_broken_by (F:Site K mg "broken_by" s_broken_by) (T:Txt K mg t) (D_is_fit:Def P w K mg base 1 "is_fit" ["fate"] (sp_ft K)) (D_is_told:Def P w K mg base 1 "is_told" ["row","first","last"] (sp_is_told K)):Def P w K mg base 2 "broken_by" ["fates","measure","first","last"] (sp_broken_by K):=by
 refine F.def sc_broken_by (fun _ _ _ _ _ _ us hl=>match us,hl with | [_,_,_,_],_=>rfl) (fun vs H Q E h=>?_) (fun f cdv A outer s H vs Q E hr h=>?_)
 ·obtain ⟨l,m,css,la,lo,f,e,rfl,_⟩:=h
  rfl
 ·obtain ⟨l,m,css,la,lo,f,e,rfl,hl,hcl,hm,h0,q⟩:=h
  refine ⟨_,pss_cons (ps_set (i:=4) sc_broken_by.nd rfl (Or.inl rfl) (pe_op op_sub (pv 2) pe_int))
   (pss_cons (ps_set (i:=5) sc_broken_by.nd rfl (Or.inl rfl) (pe_op op_sub (pv 3) (pe_ix (ix_tupK K) (pv 1) pe_int (fun _ _=>rfl))))
   (pss_cons (ps_if (PW.pt (pw_or (pt_cmpR op_ne (pe_op op_sub (pv 5) (pv 4)) (pe_ix (ix_tupK K) (pv 1) pe_int (fun _ _=>rfl)) (nomark _)) (pw_or1 (pt_not (pt_val (pe_def (D_is_told.mono (by decide)) hr passN (pa_cons (pv 0) (pa_cons (pv 4) (pa_cons (pv 5) pa_nil)))))))))
    (pss_one (ps_ret pe_bl))
    (pss_nil))
   (pss_one (ps_ret (pe_not (pe_callB (call_anyK K rfl) (by rfl) T.n_any boot_any (pa_cons (pe_lc rfl (Nc:=["fate"]) (ix:=[none]) (cscope (defScope s_broken_by) ["fates","measure","first","last","begin","end"] rfl rfl (by decide +kernel)) (pi_listK K (pe_slice (sl_listK K) (pv 0) (po_some (pv 4)) (po_some (pe_op op_add (pv 5) pe_int)))) (fun C fp s H=>⟨(pg_name (i:=0) (show (["fate"]:List Str).Nodup by decide +kernel) rfl (Or.inl rfl)),pts_nil,(pe_def (D_is_fit.mono (by decide)) hr passN (pa_cons (pv 0) pa_nil))⟩)) pa_nil))))))),?_⟩
  have hsz:(5000:Nat)≤sizeLine:=by decide
  obtain ⟨fs,g1,g2⟩:=id hl
  refine ⟨_,rfl,_,_,rfl,rfl,?_⟩
  refine ⟨_,rfl,_,rfl,m,_,_,_,rfl,rfl,hm,rfl,_,_,rfl,rfl,?_⟩
  refine ⟨_,rfl,_,rfl,_,_,rfl,rfl,_,rfl,m,_,_,_,rfl,rfl,hm,rfl,rfl,_,rfl,?_⟩
  by_cases h1:e - la - (f - 1)=lo
  ·refine iteNN (by show V.int (e - la - (f - 1))=V.int lo;rw [h1]) ?_
   refine ⟨_,rfl,_,rfl,_,rfl,l,_,f - 1,e - la,rfl,SqL.of g1,_,rfl,?_⟩
   rw [tab_len]
   have eb:brk css la lo f e=((decide (0≤f - 1) && decide (e - la < (css.length:Nat))) && !((List.range (lo+1).toNat).any fun k=>fitN css ((f - 1).toNat+k))):=by unfold brk;rw [decide_eq_true h1,Bool.true_and]
   by_cases h2:(decide (0≤f - 1) && decide (e - la < (css.length:Nat)))=true
   ·rw [h2] at eb ⊢
    rw [Bool.true_and] at eb
    rw [eb] at q
    refine iteF ?_
    rw [Bool.and_eq_true,decide_eq_true_eq,decide_eq_true_eq] at h2
    obtain ⟨b0,b1⟩:=h2
    refine ⟨_,rfl,_,rfl,_,rfl,_,rfl,_,_,rfl,rfl,_,rfl,l,_,rfl,SqL.of g1,fun p hp=>?_⟩
    have ec:cutV (tabR css.length fs) (some (f - 1)) (some (e - la+1))=tabR (lo+1).toNat fun k=>fs ((f - 1).toNat+k):=by
     have:=tab_cut (n:=css.length) (f:=fun k=>V.ref (fs k)) (lo:=(f - 1).toNat) (hi:=(e - la+1).toNat) (by omega) (by omega)
     rw [Int.toNat_of_nonneg (by omega),Int.toNat_of_nonneg (by omega)] at this
     refine this.trans ?_
     rw [show (e - la+1).toNat - (f - 1).toNat=(lo+1).toNat by omega]
    dsimp only at hp ⊢
    rw [ec]
    have s1:Same H (upd H p (.lst (tabR (lo+1).toNat fun k=>fs ((f - 1).toNat+k)))):=(Same.refl _).new hp
    have e1:(upd H p (.lst (tabR (lo+1).toNat fun k=>fs ((f - 1).toNat+k)))) p=some (.lst (tabR (lo+1).toNat fun k=>fs ((f - 1).toNat+k))):=upd_same
    generalize upd H p (.lst (tabR (lo+1).toNat fun k=>fs ((f - 1).toNat+k)))=H1 at *
    refine ⟨p,rfl,⟨_,SqL.of e1⟩,fun D hD=>?_⟩
    refine lc_tab (K:=K) (a:=p) (n:=(lo+1).toNat) (F:=fun k=>V.ref (fs ((f - 1).toNat+k))) (fun i σ H'=>∃ v:Option V,σ=[v]∧Same H1 H'∧H' D=some (.lst (((List.range i).map fun k=>fitN css ((f - 1).toNat+k)).map V.bl))) ⟨none,rfl,(Same.refl _).new hD,upd_same⟩ (fun i σ H' _ ⟨_,_,s',_⟩=>SqL.of (s' _ _ e1)) ?_ ?_
    ·rintro i σ H' N hN hi ⟨v,rfl,s',hDl⟩
     have hlt:(f - 1).toNat+i < css.length:=by omega
     have ei:css[(f - 1).toNat+i]?=some css[(f - 1).toNat+i]:=by simp [hlt]
     obtain ⟨k1,k2⟩:=g2 _ _ ei
     refine turn_do ?_
     refine ⟨_,rfl,_,_,rfl,fc_same (s1.trans s') k1,k2,fun H'' s''=>?_⟩
     refine ⟨_,s'' _ _ hDl,by rw [List.length_map,List.length_map,List.length_range];omega,hN _ _ ⟨_,rfl,(s'.trans s'').put hD,?_⟩⟩
     rw [upd_same,List.range_succ,List.map_append,List.map_append]
     have:fitN css ((f - 1).toNat+i)=fitC css[(f - 1).toNat+i]:=by unfold fitN;rw [ei];rfl
     rw [← this]
     first | done | rfl
    ·rintro σ H' ⟨v,rfl,s',hDl⟩
     refine ⟨D,_,rfl,SqL.of hDl,_,rfl,?_⟩
     have:=q H' (s1.trans s')
     rw [show ((List.range (lo+1).toNat).any fun k=>fitN css ((f - 1).toNat+k))=((List.range (lo+1).toNat).map fun k=>fitN css ((f - 1).toNat+k)).any id by rw [List.any_map];rfl] at this
     exact this
   ·rw [Bool.not_eq_true] at h2
    rw [h2] at eb ⊢
    rw [eb] at q
    exact iteT (q H (Same.refl _))
  ·refine iteNY (fun z=>h1 (V.int.inj z)) (iteT ?_)
   have eb:brk css la lo f e=false:=by unfold brk;rw [decide_eq_false h1];rfl
   rw [eb] at q
   exact q H (Same.refl _)
structure Br (b:Nat→Bool) (n lo p:Nat):Prop where
 le:p+lo < n
 run:∀ j,j≤lo→b (p+j)=false
 least:∀ q,q < p→∃ j,j≤lo∧b (q+j)=true
def NoBr (b:Nat→Bool) (n lo:Nat):Prop:=∀ p,p+lo < n→∃ j,j≤lo∧b (p+j)=true
theorem Br.no {b:Nat→Bool} {n lo p:Nat} (h:Br b n lo p) (g:NoBr b n lo):False:=by
 obtain ⟨j,hj,e⟩:=g p h.le
 rw [h.run j hj] at e;cases e
def sp_breach (K:PySem.W.Frag):Sp:=fun vs H Q _=>∃ (l a:Addr) (lo:Nat) (la:Int) (css:List (List Nat)),vs=[.ref l,.ref a]∧IsFts K H l css∧css.length≤1000∧SqT K H a [.int la,.int (lo:Nat)]∧1≤la∧la≤6∧lo≤4 ∧
 (∀ p H',Br (fitN css) css.length lo p→Same H H'→Q (.int (p:Nat)) H')∧(NoBr (fitN css) css.length lo→∀ H',Same H H'→Q .non H')
theorem sc_breach:FnScope ["fates","measure","lost","unfit","place","fate"] ["fates","measure"] (defScope s_breach):=⟨rfl,rfl,rfl,by decide +kernel,rfl,by decide +kernel,by decide +kernel⟩
theorem ok_breach (F:Site K mg "breach" s_breach) (T:Txt K mg t) (D_look_measure:Def P w K mg base 2 "look_measure" ["measure"] (sp_look_measure K t.BadMeasure)) (D_is_fit:Def P w K mg base 1 "is_fit" ["fate"] (sp_ft K)):Def P w K mg base 3 "breach" ["fates","measure"] (sp_breach K):=by
 refine F.def sc_breach (fun _ _ _ _ _ _ us hl=>match us,hl with | [_,_],_=>rfl) (fun vs H Q E h=>?_) (fun f cdv A outer s H vs Q E hr h=>?_)
 ·obtain ⟨l,a,lo,la,css,rfl,_⟩:=h
  rfl
 ·obtain ⟨l,a,lo,la,css,rfl,⟨fs,hl,hf⟩,hn,ha,l0,l1,lo4,q1,q2⟩:=h
  refine ⟨_,pss_cons (ps_expr (pe_def (D_look_measure.mono (by decide)) hr (pass1 cx1_body) (pa_cons (pv 1) pa_nil)))
   (pss_cons (ps_set (i:=2) sc_breach.nd rfl (Or.inl rfl) (pe_ix (ix_tupK K) (pv 1) pe_int (fun _ _=>rfl)))
   (pss_cons (ps_set (i:=3) sc_breach.nd rfl (Or.inl rfl) pe_int)
   (pss_cons (PS.nox (ps_for PassesOwn.never rfl (pi_enumerateK K (by rfl) T.n_enumerate (pa_cons (pv 0) pa_nil)) (pg_twoK K (i:=4) (j:=5) rfl sc_breach.nd rfl rfl (Or.inl rfl) (Or.inl rfl))
    (pss_cons (ps_set (i:=3) sc_breach.nd rfl (Or.inl rfl) (pe_ifExp (pt_val (pe_def (D_is_fit.mono (by decide)) hr passN (pa_cons (pv 5) pa_nil))) pe_int (pe_op op_add (pv 3) pe_int)))
    (pss_one (ps_if (pt_cmpR op_gt (pv 3) (pv 2) (nomark _))
     (pss_one (ps_ret (pe_op op_sub (pv 4) (pv 2))))
     (pss_nil))))))
   (pss_one (ps_ret pe_non))))),?_⟩
  refine ⟨_,rfl,a,la,(lo:Nat),rfl,ha,small_abs (by omega) (by omega),small_abs (by omega) (by omega),fun _=>?_,fun h=>absurd ⟨⟨l0,l1⟩,by omega,by omega⟩ h⟩
  refine ⟨_,rfl,a,_,_,_,rfl,rfl,ha,rfl,?_⟩
  refine ⟨_,rfl,l,_,rfl,hl,?_⟩
  refine for_enum (K:=K) (a:=l) (xs:=tabR css.length fs) (fun i σ H'=>∃ (u:Nat) (v4 v5:Option V),σ=[some (.ref l),some (.ref a),some (.int (lo:Nat)),some (.int (u:Nat)),v4,v5]∧Same H H'∧u≤lo∧u≤i∧(∀ j,j < u→fitN css (i - 1 - j)=false)∧(u < i→fitN css (i - 1 - u)=true)∧NoBr (fitN css) i lo)
   ⟨0,none,none,rfl,Same.refl _,Nat.zero_le _,Nat.zero_le _,fun j hj=>by omega,fun h=>by omega,fun p hp=>by omega⟩ (fun i σ H' _ ⟨_,_,_,_,s1,_⟩=>SqL.of (s1 _ _ hl)) ?_ ?_
  ·rintro i x pp σ H' hx ⟨u,v4,v5,rfl,s1,u1,u2,hu,hu2,no⟩ hpp
   obtain ⟨hi,rfl⟩:=tab_of hx
   refine take_two (SqT.of upd_same) ?_
   have s2:=s1.new (o:=.tup [.int (i:Nat),.ref (fs i)]) hpp
   have ei:css[i]?=some css[i]:=by simp [hi]
   refine ⟨_,rfl,fs i,css[i],rfl,fc_same s2 (hf i _ ei).1,(hf i _ ei).2,fun H2 s3=>⟨_,rfl,?_⟩⟩
   have efn:fitC css[i]=fitN css i:=by unfold fitN;rw [ei];rfl
   rw [efn]
   have s4:=s2.trans s3
   by_cases hfit:fitN css i=true
   ·rw [hfit]
    refine iteT ?_
    refine ⟨_,rfl,_,rfl,_,_,rfl,rfl,_,rfl,iteN (by omega) ?_⟩
    refine ⟨0,_,_,rfl,s4,Nat.zero_le _,Nat.zero_le _,fun j hj=>by omega,fun _=>by rw [show i+1 - 1 - 0=i by omega];exact hfit,fun p hp=>?_⟩
    by_cases e:p+lo=i
    ·exact ⟨lo,Nat.le_refl _,by show fitN css (p+lo)=true;rw [e];exact hfit⟩
    ·exact no p (by omega)
   ·have hfit':fitN css i=false:=by simpa using hfit
    rw [hfit']
    refine iteF ?_
    refine ⟨_,rfl,_,_,rfl,rfl,?_⟩
    refine ⟨_,rfl,_,rfl,_,_,rfl,rfl,_,rfl,?_⟩
    have run:∀ j,j < u+1→fitN css (i+1 - 1 - j)=false:=fun j hj=>by
     by_cases e:j=0
     ·subst e;rw [show i+1 - 1 - 0=i by omega];exact hfit'
     ·have:=hu (j - 1) (by omega)
      rwa [show i - 1 - (j - 1)=i+1 - 1 - j by omega] at this
    by_cases hgt:u+1 > lo
    ·refine iteY (by omega) ?_
     refine ⟨_,rfl,_,rfl,_,_,rfl,rfl,?_⟩
     have e:((i:Nat):Int) - (lo:Nat)=((i - lo:Nat):Int):=by omega
     show Q (.int (((i:Nat):Int) - (lo:Nat))) _
     rw [e]
     refine q1 (i - lo) _ ⟨by omega,fun j hj=>?_,fun q hq=>no q (by omega)⟩ s4
     have:=run (lo - j) (by omega)
     rwa [show i+1 - 1 - (lo - j)=i - lo+j by omega] at this
    ·refine iteN (by omega) ?_
     refine ⟨u+1,_,_,rfl,s4,by omega,by omega,run,fun h=>?_,fun p hp=>?_⟩
     ·have:=hu2 (by omega)
      rwa [show i - 1 - u=i+1 - 1 - (u+1) by omega] at this
     ·by_cases e:p+lo=i
      ·
       have hlt:u < i:=by omega
       exact ⟨lo - 1 - u,by omega,by have:=hu2 hlt;show fitN css (p+(lo - 1 - u))=true;rwa [show p+(lo - 1 - u)=i - 1 - u by omega]⟩
      ·exact no p (by omega)
  ·rintro σ H' ⟨u,v4,v5,rfl,s1,u1,u2,hu,hu2,no⟩
   rw [tab_len] at no
   exact q2 no H' s1
def sp_keeps (K:PySem.W.Frag):Sp:=fun vs H Q _=>∃ (l a:Addr) (lo:Nat) (la:Int) (css:List (List Nat)),vs=[.ref l,.ref a]∧IsFts K H l css∧css.length≤1000∧SqT K H a [.int la,.int (lo:Nat)]∧1≤la∧la≤6∧lo≤4 ∧
 (∀ p H',Br (fitN css) css.length lo p→Same H H'→Q (.bl false) H')∧(NoBr (fitN css) css.length lo→∀ H',Same H H'→Q (.bl true) H')
theorem sc_keeps:FnScope ["fates","measure"] ["fates","measure"] (defScope s_keeps):=⟨rfl,rfl,rfl,by decide +kernel,rfl,by decide +kernel,by decide +kernel⟩
theorem ok_keeps (F:Site K mg "keeps" s_keeps) (D_breach:Def P w K mg base 3 "breach" ["fates","measure"] (sp_breach K)):Def P w K mg base 4 "keeps" ["fates","measure"] (sp_keeps K):=by
 refine F.def sc_keeps (fun _ _ _ _ _ _ us hl=>match us,hl with | [_,_],_=>rfl) (fun vs H Q E h=>?_) (fun f cdv A outer s H vs Q E hr h=>?_)
 ·obtain ⟨l,a,lo,la,css,rfl,_⟩:=h
  rfl
 ·obtain ⟨l,a,lo,la,css,rfl,hl,hn,ha,l0,l1,lo4,q1,q2⟩:=h
  refine ⟨_,pss_one (ps_ret (pe_cmpR op_isN (pe_def (D_breach.mono (by decide)) hr (pass1 cx1_body) (pa_cons (pv 0) (pa_cons (pv 1) pa_nil))) pe_non (nomark _))),?_⟩
  exact ⟨_,rfl,_,rfl,l,a,lo,la,css,rfl,hl,hn,ha,l0,l1,lo4,fun p H' hb s=>⟨rfl,q1 p H' hb s⟩,fun hno H' s=>⟨rfl,q2 hno H' s⟩⟩
end
end K34
namespace K34
open PySem L2 PyProof.Rows
section
variable {P:Program} {w:World} {K:PySem.W.Frag} {mg:Str→Option Value} {base:Heap} {t:Ad}
def Rd (g:Nat→Int) (b:Bool):Prop:=(b=true→∃ h,My.Mend g h)∧(b=false→∀ h,¬ My.Mend g h)
abbrev Cb:=(Nat→Int) × Bool
structure IsCb (H:Hp) (a:Addr) (x:Cb):Prop where
 at_:H a=some (.lst (tabI 24 x.1))
 c:IsCell 24 x.1
 r:Rd x.1 x.2
theorem IsCb.same {H H':Hp} {a:Addr} {x:Cb} (h:IsCb H a x) (s:Same H H'):IsCb H' a x:=⟨s _ _ h.at_,h.c,h.r⟩
def IsCbs (H:Hp) (l:Addr) (xs:List Cb):Prop:=∃ cas:Nat→Addr,H l=some (.lst (tabR xs.length cas))∧∀ j x,xs[j]?=some x→IsCb H (cas j) x
theorem IsCbs.same {H H':Hp} {l:Addr} {xs:List Cb} (h:IsCbs H l xs) (s:Same H H'):IsCbs H' l xs:=by
 obtain ⟨cas,h1,h2⟩:=h
 exact ⟨cas,s _ _ h1,fun j x hx=>(h2 j x hx).same s⟩
def IsCame (H:Hp) (l:Addr) (xss:List (List Cb)):Prop:=∃ tl:Nat→Addr,H l=some (.lst (tabR xss.length tl))∧∀ k xs,xss[k]?=some xs→IsCbs H (tl k) xs∧xs.length≤1000
theorem IsCame.same {H H':Hp} {l:Addr} {xss:List (List Cb)} (h:IsCame H l xss) (s:Same H H'):IsCame H' l xss:=by
 obtain ⟨tl,h1,h2⟩:=h
 exact ⟨tl,s _ _ h1,fun k xs hx=>⟨(h2 k xs hx).1.same s,(h2 k xs hx).2⟩⟩
def anyN (xss:List (List Cb)) (k:Nat):Bool:=((xss[k]?).getD []).any (·.2)
def shB (xss:List (List Cb)) (q f e:Int):Bool:=decide (e - f+1=q) && (decide (0≤f) && decide (e < (xss.length:Nat))) && !((List.range q.toNat).any fun k=>anyN xss (f.toNat+k))
def sp_is_shown:Sp:=fun vs H Q _=>∃ (l:Addr) (xss:List (List Cb)) (u f e:Int),vs=[.ref l,.int u,.int f,.int e]∧IsCame H l xss∧xss.length≤1000∧1≤u∧∀ H',Same H H'→Q (.bl (shB xss u f e)) H'
theorem sc_is_shown:FnScope ["came","quiet","first","last"] ["came","quiet","first","last"] (defScope s_is_shown):=⟨rfl,rfl,rfl,by decide +kernel,rfl,by decide +kernel,by decide +kernel⟩
set_option maxHeartbeats 0 in
theorem ok_is_shown (F:Site K mg "is_shown" s_is_shown) (T:Txt K mg t) (D_is_readable:Def P w K mg base 9 "is_readable" ["cell"] (sp_is_readable K)) (D_is_told:Def P w K mg base 1 "is_told" ["row","first","last"] (sp_is_told K)):Def P w K mg base 10 "is_shown" ["came","quiet","first","last"] sp_is_shown:=by
 refine F.def sc_is_shown (fun _ _ _ _ _ _ us hl=>match us,hl with | [_,_,_,_],_=>rfl) (fun vs H Q E h=>?_) (fun f cdv A outer s H vs Q E hr h=>?_)
 ·obtain ⟨l,xss,u,f,e,rfl,_⟩:=h
  rfl
 ·obtain ⟨l,xss,u,f,e,rfl,hl,hxl,hu,q⟩:=h
  refine ⟨_,pss_cons (ps_if (PW.pt (pw_or (pt_cmpR op_ne (pe_op op_add (pe_op op_sub (pv 3) (pv 2)) pe_int) (pv 1) (nomark _)) (pw_or1 (pt_not (pt_val (pe_def (D_is_told.mono (by decide)) hr passN (pa_cons (pv 0) (pa_cons (pv 2) (pa_cons (pv 3) pa_nil)))))))))
    (pss_one (ps_ret pe_bl))
    (pss_nil))
   (pss_one (ps_ret (pe_not (pe_callB (call_anyK K rfl) (by rfl) T.n_any boot_any (pa_cons (pe_lc rfl (Nc:=["cells"]) (ix:=[none]) (cscope (defScope s_is_shown) ["came","quiet","first","last"] rfl rfl (by decide +kernel)) (pi_listK K (pe_slice (sl_listK K) (pv 0) (po_some (pv 2)) (po_some (pe_op op_add (pv 3) pe_int)))) (fun C fp s H=>⟨(pg_name (i:=0) (show (["cells"]:List Str).Nodup by decide +kernel) rfl (Or.inl rfl)),pts_nil,(pe_callB (call_anyK K rfl) (by rfl) T.n_any boot_any (pa_cons (pe_lc rfl (Nc:=["cell"]) (ix:=[none]) (cscope _ ["cells"] rfl rfl (by kernel_rfl)) (pi_listK K (pv 0)) (fun C fp s H=>⟨(pg_name (i:=0) (show (["cell"]:List Str).Nodup by decide +kernel) rfl (Or.inl rfl)),pts_nil,(pe_def (D_is_readable.mono (by decide)) hr passN (pa_cons (pv 0) pa_nil))⟩)) pa_nil))⟩)) pa_nil))))),?_⟩
  have hsz:(5000:Nat)≤sizeLine:=by decide
  obtain ⟨tl,g1,g2⟩:=id hl
  refine ⟨_,rfl,_,rfl,_,_,rfl,rfl,_,_,rfl,rfl,_,rfl,rfl,_,rfl,?_⟩
  by_cases h1:e - f+1=u
  ·refine iteNN (by show V.int (e - f+1)=V.int u;rw [h1]) ?_
   refine ⟨_,rfl,_,rfl,_,rfl,l,_,f,e,rfl,SqL.of g1,_,rfl,?_⟩
   rw [tab_len]
   have eb:shB xss u f e=((decide (0≤f) && decide (e < (xss.length:Nat))) && !((List.range u.toNat).any fun k=>anyN xss (f.toNat+k))):=by unfold shB;rw [decide_eq_true h1,Bool.true_and]
   by_cases h2:(decide (0≤f) && decide (e < (xss.length:Nat)))=true
   ·rw [h2] at eb ⊢
    rw [Bool.true_and] at eb
    rw [eb] at q
    refine iteF ?_
    rw [Bool.and_eq_true,decide_eq_true_eq,decide_eq_true_eq] at h2
    obtain ⟨b0,b1⟩:=h2
    refine ⟨_,rfl,_,rfl,_,rfl,_,rfl,_,_,rfl,rfl,_,rfl,l,_,rfl,SqL.of g1,fun p hp=>?_⟩
    have ec:cutV (tabR xss.length tl) (some f) (some (e+1))=tabR u.toNat fun k=>tl (f.toNat+k):=by
     have:=tab_cut (n:=xss.length) (f:=fun k=>V.ref (tl k)) (lo:=f.toNat) (hi:=(e+1).toNat) (by omega) (by omega)
     rw [Int.toNat_of_nonneg (by omega),Int.toNat_of_nonneg (by omega)] at this
     refine this.trans ?_
     rw [show (e+1).toNat - f.toNat=u.toNat by omega]
    dsimp only at hp ⊢
    rw [ec]
    have s1:Same H (upd H p (.lst (tabR u.toNat fun k=>tl (f.toNat+k)))):=(Same.refl _).new hp
    have e1:(upd H p (.lst (tabR u.toNat fun k=>tl (f.toNat+k)))) p=some (.lst (tabR u.toNat fun k=>tl (f.toNat+k))):=upd_same
    generalize upd H p (.lst (tabR u.toNat fun k=>tl (f.toNat+k)))=H1 at *
    refine ⟨p,rfl,⟨_,SqL.of e1⟩,fun D hD=>?_⟩
    refine lc_tab (K:=K) (a:=p) (n:=u.toNat) (F:=fun k=>V.ref (tl (f.toNat+k))) (fun i σ H'=>∃ v:Option V,σ=[v]∧Same H1 H'∧H' D=some (.lst (((List.range i).map fun k=>anyN xss (f.toNat+k)).map V.bl))) ⟨none,rfl,(Same.refl _).new hD,upd_same⟩ (fun i σ H' _ ⟨_,_,s',_⟩=>SqL.of (s' _ _ e1)) ?_ ?_
    ·rintro i σ H' N hN hi ⟨v,rfl,s',hDl⟩
     have hlt:f.toNat+i < xss.length:=by omega
     have ei:xss[f.toNat+i]?=some xss[f.toNat+i]:=by simp [hlt]
     obtain ⟨⟨cas,c1,c2⟩,c3⟩:=g2 _ _ ei
     have ea:anyN xss (f.toNat+i)=xss[f.toNat+i].any (·.2):=by unfold anyN;rw [ei];rfl
     generalize xss[f.toNat+i]=xs at *
     refine turn_do ?_
     have s2:=s1.trans s'
     refine ⟨_,rfl,tl (f.toNat+i),rfl,⟨_,SqL.of (s2 _ _ c1)⟩,fun D2 hD2=>?_⟩
     refine lc_tab (K:=K) (a:=tl (f.toNat+i)) (n:=xs.length) (F:=fun k=>V.ref (cas k)) (fun j σ H''=>∃ w:Option V,σ=[w]∧Same H' H''∧H'' D2=some (.lst (((xs.take j).map (·.2)).map V.bl))) ⟨none,rfl,(Same.refl _).new hD2,by rw [upd_same];rfl⟩ (fun j σ H'' _ ⟨_,_,s'',_⟩=>SqL.of ((s2.trans s'') _ _ c1)) ?_ ?_
     ·rintro j σ H'' N2 hN2 hj ⟨w,rfl,s'',hDl2⟩
      have ej:xs[j]?=some xs[j]:=by simp [hj]
      have hc:=(c2 j _ ej).same (s2.trans s'')
      refine turn_do ?_
      have fin:∀ H3,Same H'' H3→∀ b,b=xs[j].2→∃ ys,H3 D2=some (.lst ys)∧ys.length < sizeLine∧N2 [some (V.ref (cas j))] (upd H3 D2 (.lst (ys ++ [.bl b]))):=fun H3 s3 b hb=>by
       refine ⟨_,s3 _ _ hDl2,by rw [List.length_map,List.length_map,List.length_take];omega,hN2 _ _ ⟨_,rfl,(s''.trans s3).put hD2,?_⟩⟩
       rw [upd_same,List.take_succ,ej,List.map_append,List.map_append,hb]
       rfl
      refine ⟨_,rfl,cas j,xs[j].1,rfl,SqL.of hc.at_,hc.c,fun g H3 hg s3=>fin H3 s3 true ?_,fun hg H3 s3=>fin H3 s3 false ?_⟩
      ·cases e:xs[j].2 with
       | true=>rfl
       | false=>exact absurd hg (hc.r.2 e g)
      ·cases e:xs[j].2 with
       | false=>rfl
       | true=>obtain ⟨h,hh⟩:=hc.r.1 e;exact absurd hh (hg h)
     ·rintro σ H'' ⟨w,rfl,s'',hDl2⟩
      rw [List.take_length] at hDl2
      refine ⟨D2,_,rfl,SqL.of hDl2,?_⟩
      refine ⟨_,s'' _ _ hDl,by rw [List.length_map,List.length_map,List.length_range];omega,hN _ _ ⟨_,rfl,(s'.trans s'').put hD,?_⟩⟩
      rw [upd_same,List.range_succ,List.map_append,List.map_append,List.map_singleton,List.map_singleton,ea,List.any_map]
      rfl
    ·rintro σ H' ⟨v,rfl,s',hDl⟩
     refine ⟨D,_,rfl,SqL.of hDl,_,rfl,?_⟩
     have:=q H' (s1.trans s')
     rw [show ((List.range u.toNat).any fun k=>anyN xss (f.toNat+k))=((List.range u.toNat).map fun k=>anyN xss (f.toNat+k)).any id by rw [List.any_map];rfl] at this
     exact this
   ·rw [Bool.not_eq_true] at h2
    rw [h2] at eb ⊢
    rw [eb] at q
    exact iteT (q H (Same.refl _))
  ·refine iteNY (fun z=>h1 (V.int.inj z)) (iteT ?_)
   have eb:shB xss u f e=false:=by unfold shB;rw [decide_eq_false h1];rfl
   rw [eb] at q
   exact q H (Same.refl _)
end
end K34
namespace K34
open PySem L2 PyProof.Rows
section
variable {P:Program} {w:World} {K:PySem.W.Frag} {mg:Str→Option Value} {base:Heap} {t:Ad}
structure Sem (q s T:Int) (L:Lk) (la:Int):Prop where
 ev:L.ev=[]
 q:L.q=q
 s:L.s=s
 d:L.d=T
 k:Brt L.k
 b0:1≤L.b
 b1:L.b≤T+1
 u0:0≤L.u
 u:L.d - la=L.u+1
 l0:-1≤la
 ku:L.k≠0→L.u < L.q
 pk:L.p≠none→L.k≠0
 kl:L.k≠0→0≤la
theorem sem_new {q s:Int} (hq:1≤q):Sem q s 0 (newL q s) (-1):=⟨rfl,rfl,rfl,rfl,⟨(show (0:Int)≤0 by decide),(show (0:Int) < 9409 by decide)⟩,by show (1:Int)≤1;decide,by show (1:Int)≤0+1;decide,by show (0:Int)≤0;decide,by show (0:Int) - -1=0+1;decide,by decide,fun h=>absurd rfl h,fun h=>absurd rfl h,fun h=>absurd rfl h⟩
theorem after_cases (L:Lk) (bs:List (Int × Int)) :
  ((heardL L bs).k≠0∧(heardL L bs).q≤(unhL (heardL L bs) bs).u∧(afterL L bs).b=(heardL L bs).b+1∧(afterL L bs).k=0∧(afterL L bs).p=none) ∨
  (((heardL L bs).k=0∨(unhL (heardL L bs) bs).u < (heardL L bs).q)∧(afterL L bs).b=(heardL L bs).b∧(afterL L bs).k=(heardL L bs).k∧(afterL L bs).p=(heardL L bs).p):=by
 by_cases z:(unhL (heardL L bs) bs).k≠0∧(unhL (heardL L bs) bs).q≤(unhL (heardL L bs) bs).u
 ·left
  have e:quietL (unhL (heardL L bs) bs)=overL (unhL (heardL L bs) bs):=if_pos z
  refine ⟨z.1,z.2,?_,?_,?_⟩
  ·show (quietL (unhL (heardL L bs) bs)).b=_;rw [e,(over_b _).1];rfl
  ·show (quietL (unhL (heardL L bs) bs)).k=_;rw [e,(over_b _).2]
  ·show (quietL (unhL (heardL L bs) bs)).p=_
   rw [e];unfold overL
   cases (unhL (heardL L bs) bs).p <;> rfl
 ·right
  have e:quietL (unhL (heardL L bs) bs)=unhL (heardL L bs) bs:=if_neg z
  refine ⟨?_,?_,?_,?_⟩
  ·by_cases y:(heardL L bs).k=0
   ·exact .inl y
   ·right;exact Classical.byContradiction fun w=>z ⟨y,by show (heardL L bs).q≤_;omega⟩
  ·show (quietL (unhL (heardL L bs) bs)).b=_;rw [e];rfl
  ·show (quietL (unhL (heardL L bs) bs)).k=_;rw [e];rfl
  ·show (quietL (unhL (heardL L bs) bs)).p=_;rw [e];rfl
theorem after_s (L:Lk) (bs:List (Int × Int)):(afterL L bs).s=L.s∧(afterL L bs).q=L.q∧(afterL L bs).u=(if bs=[] then L.u+1 else 0)∧(afterL L bs).d=L.d+1:=by
 obtain ⟨s1,s2,s3,s4⟩:=heard_s bs L
 obtain ⟨q1,q2,q3,q4⟩:=quiet_s (unhL (heardL L bs) bs)
 refine ⟨q1.trans s1,q2.trans s2,?_,?_⟩
 ·show (quietL (unhL (heardL L bs) bs)).u=_
  rw [q3];show (if bs=[] then (heardL L bs).u+1 else 0)=_;rw [s3]
 ·show (quietL (unhL (heardL L bs) bs)).d+1=_
  rw [q4];show (heardL L bs).d+1=_;rw [s4]
theorem Sem.step {q s T la:Int} {L:Lk} {bs:List (Int × Int)} (h:Sem q s T L la) (hb:∀ b ∈ bs,Brt b.1∧1≤b.1) (hq:1≤q) (T0:0≤T):Sem q s (T+1) (afterL L bs) (lastOf bs la T):=by
 obtain ⟨h1,h2,h3⟩:=heard_b L h.k bs fun b hx=>(hb b hx).1
 obtain ⟨s1,s2,s3,s4⟩:=heard_s bs L
 obtain ⟨a1,a2,a3,a4⟩:=after_s L bs
 have pk:=heard_pk bs L h.pk fun b hx=>(hb b hx).2
 have b0:=h.b0
 have b1:=h.b1
 have u0:=h.u0
 have hd:=h.d
 have hu0:=h.u
 have hl0:=h.l0
 have hu:(unhL (heardL L bs) bs).u=(if bs=[] then L.u+1 else 0):=by show (if bs=[] then (heardL L bs).u+1 else 0)=_;rw [s3]
 have ul:(afterL L bs).d - lastOf bs la T=(afterL L bs).u+1:=by
  rw [a3,a4,hd];unfold lastOf
  split <;> omega
 have ll:-1≤lastOf bs la T:=by unfold lastOf;split <;> omega
 have uu:0≤(afterL L bs).u:=by rw [a3];split <;> omega
 rcases after_cases L bs with ⟨c1,c2,c3,c4,c5⟩ | ⟨c1,c3,c4,c5⟩
 ·exact ⟨rfl,a2.trans h.q,a1.trans h.s,by rw [a4,hd],by rw [c4];exact ⟨by decide,by decide⟩,by omega,by omega,uu,ul,ll,fun z=>absurd c4 z,fun z=>absurd c5 z,fun z=>absurd c4 z⟩
 ·refine ⟨rfl,a2.trans h.q,a1.trans h.s,by rw [a4,hd],by rw [c4];exact h2,by omega,by omega,uu,ul,ll,fun z=>?_,fun z=>?_,fun z=>?_⟩
  ·rw [c4] at z
   rcases c1 with c1 | c1
   ·exact absurd c1 z
   ·rw [a3,a2,← hu,← s2];exact c1
  ·rw [c5] at z;rw [c4];exact pk z
  ·rw [c4] at z
   unfold lastOf
   split
   ·rename_i e;rw [e] at z;exact h.kl z
   ·exact T0
inductive Tr:Option (Int × Int)→List Ev→Option (Int × Int)→Prop
 | nil (p):Tr p [] p
 | up {p p':Option (Int × Int)} {es:List Ev} {x:Int × Int} (h:Tr p es p'):Tr p (es ++ [⟨"up",x,[]⟩]) (some x)
 | anew {p p':Option (Int × Int)} {es:List Ev} {x:Int × Int} (h:Tr p es p'):Tr p (es ++ [⟨"anew",x,[]⟩]) none
 | sil {p:Option (Int × Int)} {es:List Ev} {x:Int × Int} {a b:Int} (h:Tr p es (some x)):Tr p (es ++ [⟨"silent",x,[a,b]⟩]) none
theorem meet_tr {p:Option (Int × Int)} {L:Lk} {n:Int} (h:Tr p L.ev L.p):Tr p (meetL L n).ev (meetL L n).p:=by
 unfold meetL
 cases e:L.p with
 | none=>rw [e] at h;exact h
 | some x =>
  simp only
  split
  ·exact .anew h
  ·rw [e] at h;exact h
theorem come_tr {p:Option (Int × Int)} {L:Lk} (h:Tr p L.ev L.p):Tr p (comeL L).ev (comeL L).p:=by
 unfold comeL
 cases e:L.p with
 | none=>exact .up h
 | some x=>simp only;exact h
theorem heard_tr {p:Option (Int × Int)}:∀ (bs:List (Int × Int)) (L:Lk),Tr p L.ev L.p→Tr p (heardL L bs).ev (heardL L bs).p
 | [],_,h=>h
 | x :: r,L,h=>by
  refine heard_tr r (readL L x.1 x.2) ?_
  unfold readL
  split
  ·exact h
  ·split
   ·exact come_tr (meet_tr h)
   ·exact meet_tr h
theorem quiet_tr {p:Option (Int × Int)} {L:Lk} (h:Tr p L.ev L.p):Tr p (quietL L).ev (quietL L).p:=by
 unfold quietL
 split
 ·unfold overL
  cases e:L.p with
  | none=>simp only;rw [e] at h;exact h
  | some x=>rw [e] at h;exact .sil h
 ·exact h
theorem tick_tr {L:Lk} {bs:List (Int × Int)} (h:L.ev=[]):Tr L.p (tickL L bs).ev (tickL L bs).p:=quiet_tr (L:=unhL (heardL L bs) bs) (heard_tr bs L (by rw [h];exact .nil _))
def NoSil (es:List Ev):Prop:=∀ e ∈ es,e.w≠"silent"
theorem NoSil.snoc {es:List Ev} {e:Ev} (h:NoSil es) (he:e.w≠"silent"):NoSil (es ++ [e]):=fun x hx=>by
 rcases List.mem_append.mp hx with z | z
 ·exact h x z
 ·rw [List.mem_singleton.mp z];exact he
theorem heard_nosil:∀ (bs:List (Int × Int)) (L:Lk),NoSil L.ev→NoSil (heardL L bs).ev
 | [],_,h=>h
 | x :: r,L,h=>by
  refine heard_nosil r (readL L x.1 x.2) ?_
  have hm:NoSil (meetL L x.1).ev:=by
   unfold meetL
   cases L.p with
   | none=>exact h
   | some p=>simp only;split;exact h.snoc (show ("anew":Str)≠"silent" by decide);exact h
  unfold readL
  split
  ·exact h
  ·split
   ·unfold comeL
    cases (meetL L x.1).p with
    | none=>exact hm.snoc (show ("up":Str)≠"silent" by decide)
    | some p=>exact hm
   ·exact hm
theorem silence {q s T la:Int} {L:Lk} {bs:List (Int × Int)} (h:Sem q s T L la) (hq:1≤q) {e:Ev} (he:e ∈ (tickL L bs).ev) (hw:e.w="silent"):bs=[]∧la=T - q∧e.ns=[T - q+1,T]∧0≤la:=by
 obtain ⟨s1,s2,s3,s4⟩:=heard_s bs L
 have ns:=heard_nosil bs L (by rw [h.ev];intro x hx;cases hx)
 have he:e ∈ (quietL (unhL (heardL L bs) bs)).ev:=he
 unfold quietL at he
 by_cases z:(unhL (heardL L bs) bs).k≠0∧(unhL (heardL L bs) bs).q≤(unhL (heardL L bs) bs).u
 ·rw [if_pos z] at he
  obtain ⟨z1,z2⟩:=z
  have z2:(heardL L bs).q≤(if bs=[] then (heardL L bs).u+1 else 0):=z2
  have hq2:=h.q
  have hbs:bs=[]:=Classical.byContradiction fun w=>by rw [if_neg w] at z2;omega
  rw [if_pos hbs] at z2
  subst hbs
  have z1:L.k≠0:=z1
  have hku:=h.ku z1
  have hkl:=h.kl z1
  have hu:=h.u
  have hd:=h.d
  have z2:L.q≤L.u+1:=z2
  unfold overL at he
  cases ep:(unhL (heardL L []) []).p with
  | none=>rw [ep] at he;exact absurd hw (ns e he)
  | some p =>
   rw [ep] at he
   rcases List.mem_append.mp he with y | y
   ·exact absurd hw (ns e y)
   ·rw [List.mem_singleton.mp y]
    refine ⟨rfl,by omega,?_,hkl⟩
    show [L.d - L.q+1,L.d]=_
    rw [hd,hq2]
 ·rw [if_neg z] at he;exact absurd hw (ns e he)
theorem give_mem {rows:Nat→List Rw} {tick:Nat} {b:Int × Int}:∀ (fs:Ft) (j:Nat) (r:Rw),r ∈ giveR rows tick b fs j→r ∈ rows j∨∃ d ∈ fs,j=tick+d.1.toNat∧r=rowOfT b d.2:=by
 intro fs
 induction fs generalizing rows with
 | nil=>intro j r h;exact .inl h
 | cons d rest ih =>
  intro j r h
  rcases ih (rows:=addR rows (tick+d.1.toNat) (rowOfT b d.2)) j r h with z | ⟨x,hx,z⟩
  ·have z:r ∈ (if j=tick+d.1.toNat then rows j ++ [rowOfT b d.2] else rows j):=z
   split at z
   ·rename_i e
    rcases List.mem_append.mp z with y | y
    ·exact .inl y
    ·exact .inr ⟨d,List.mem_cons_self,e,List.mem_singleton.mp y⟩
   ·exact .inl z
  ·exact .inr ⟨x,List.mem_cons_of_mem _ hx,z⟩
theorem give_old {rows:Nat→List Rw} {tick:Nat} {b:Int × Int}:∀ (fs:Ft) (j:Nat),(∀ d ∈ fs,j≠tick+d.1.toNat)→giveR rows tick b fs j=rows j:=by
 intro fs
 induction fs generalizing rows with
 | nil=>intro j h;rfl
 | cons d rest ih =>
  intro j h
  show giveR (addR rows (tick+d.1.toNat) (rowOfT b d.2)) tick b rest j=_
  rw [ih j fun x hx=>h x (List.mem_cons_of_mem _ hx)]
  exact if_neg (h d List.mem_cons_self)
theorem give_sub {rows:Nat→List Rw} {tick:Nat} {b:Int × Int}:∀ (fs:Ft) (j:Nat) (r:Rw),r ∈ rows j→r ∈ giveR rows tick b fs j:=by
 intro fs
 induction fs generalizing rows with
 | nil=>intro j r h;exact h
 | cons d rest ih =>
  intro j r h
  refine ih (rows:=addR rows (tick+d.1.toNat) (rowOfT b d.2)) j r ?_
  show r ∈ (if j=tick+d.1.toNat then rows j ++ [rowOfT b d.2] else rows j)
  split
  ·exact List.mem_append_left _ h
  ·exact h
theorem give_new {rows:Nat→List Rw} {tick:Nat} {b:Int × Int}:∀ (fs:Ft) (d:Int × Ts),d ∈ fs→rowOfT b d.2 ∈ giveR rows tick b fs (tick+d.1.toNat):=by
 intro fs
 induction fs generalizing rows with
 | nil=>intro d h;cases h
 | cons x rest ih =>
  intro d h
  rcases List.mem_cons.mp h with rfl | h
  ·refine give_sub (rows:=addR rows (tick+d.1.toNat) (rowOfT b d.2)) rest _ _ ?_
   show _ ∈ (if tick+d.1.toNat=tick+d.1.toNat then rows _ ++ [rowOfT b d.2] else rows _)
   rw [if_pos rfl]
   exact List.mem_append_right _ (List.mem_singleton.mpr rfl)
  ·exact ih (rows:=addR rows (tick+x.1.toNat) (rowOfT b x.2)) d h
theorem readsR_mem {rs:List Rw} {x:Int × Int} (h:x ∈ readsR rs):∃ row ∈ rs,row.rd=true∧row.b=x:=by
 obtain ⟨y,hy,e⟩:=List.mem_filterMap.mp h
 split at e
 ·rename_i z;cases e;exact ⟨y,hy,z,rfl⟩
 ·cases e
theorem readsR_nil {rs:List Rw}:readsR rs=[]↔∀ row ∈ rs,row.rd=false:=by
 constructor
 ·intro h row hr
  cases e:row.rd with
  | false=>rfl
  | true =>
   have:row.b ∈ readsR rs:=List.mem_filterMap.mpr ⟨row,hr,by rw [if_pos e]⟩
   rw [h] at this;cases this
 ·intro h
  cases e:readsR rs with
  | nil=>rfl
  | cons x l =>
   obtain ⟨row,h1,h2,_⟩:=readsR_mem (x:=x) (by rw [e];exact List.mem_cons_self)
   rw [h row h1] at h2;cases h2
def RowsOk (rows:Nat→Nat→List Rw):Prop:=∀ s j row,row ∈ rows s j→Brt row.b.1∧1≤row.b.1
theorem RowsOk.reads {rows:Nat→Nat→List Rw} (h:RowsOk rows) (s j:Nat):∀ b ∈ readsR (rows s j),Brt b.1∧1≤b.1:=fun b hx=>by obtain ⟨row,h1,_,rfl⟩:=readsR_mem hx;exact h s j row h1
theorem RowsOk.give {rows:Nat→Nat→List Rw} {s T:Nat} {b:Int × Int} {fs:Ft} (h:RowsOk rows) (hb:Brt b.1∧1≤b.1):RowsOk (at2 rows s (giveR (rows s) T b fs)):=fun i j row hr=>by
 by_cases z:i=s
 ·rw [z,at2_same] at hr
  rcases give_mem fs j row hr with y | ⟨d,_,_,rfl⟩
  ·exact h s j row y
  ·exact hb
 ·rw [at2_ne z] at hr;exact h i j row hr
def Fit (fs:Ft):Prop:=∃ d ∈ fs,d.2.length < 3
structure W34 (late:Int) (L:Nat→Lk) (last:Nat→Int) (rows:Nat→Nat→List Rw) (F:Nat→List Ft):Prop where
 v1:∀ s,s < 2→∀ j:Nat,last s < (j:Int)→(j:Int) < (L s).d→readsR (rows s j)=[]
 v2:∀ s,s < 2→0≤last s→readsR (rows s (last s).toNat)≠[]
 v3:∀ s,s < 2→∀ g fs,(F (1 - s))[g]?=some fs→∀ d ∈ fs,d.2.length < 3→∃ row ∈ rows s (g+d.1.toNat),row.rd=true
 v4:∀ s,s < 2→∀ fs ∈ F s,GoodF late fs
 v5:∀ s,s < 2→((F s).length:Int)=(L s).d
 v6:∀ s,s < 2→last s < (L s).d
theorem W34.step {late q:Int} {L:Nat→Lk} {last:Nat→Int} {rows:Nat→Nat→List Rw} {F:Nat→List Ft} {s T:Nat} {fs:Ft} {b:Int × Int} (h:W34 late L last rows F) (hs:s < 2) (hd:(L s).d=(T:Int)) (ho:(L (1 - s)).d≤(T:Int)+1) (gf:GoodF late fs) :
  W34 late (at2 L s (afterL (L s) (readsR (rows s T)))) (at2 last s (lastOf (readsR (rows s T)) (last s) T)) (at2 rows (1 - s) (giveR (rows (1 - s)) T b fs)) (at2 F s (F s ++ [fs])):=by
 have ne:1 - s≠s:=by omega
 have ne':s≠1 - s:=by omega
 have h1:1 - s < 2:=by omega
 obtain ⟨a1,a2,a3,a4⟩:=after_s (L s) (readsR (rows s T))
 have ad:(afterL (L s) (readsR (rows s T))).d=(T:Int)+1:=by rw [a4,hd]
 generalize afterL (L s) (readsR (rows s T))=LA at *
 have two:∀ i,i < 2→i=s∨i=1 - s:=fun i hi=>by omega
 have old:∀ j:Nat,(j:Int) < (T:Int)+1→giveR (rows (1 - s)) T b fs j=rows (1 - s) j:=fun j hj=>give_old fs j fun d hd'=>by
  have:=(gf.at_ d hd').1
  omega
 refine ⟨fun i hi=>?_,fun i hi=>?_,fun i hi=>?_,fun i hi=>?_,fun i hi=>?_,fun i hi=>?_⟩
 ·rcases two i hi with rfl | rfl
  ·rw [at2_same,at2_same,at2_ne ne',ad]
   intro j h1 h2
   unfold lastOf at h1
   by_cases e:readsR (rows i T)=[]
   ·rw [if_pos e] at h1
    by_cases z:j=T
    ·rw [z];exact e
    ·exact h.v1 i hi j h1 (by omega)
   ·rw [if_neg e] at h1;omega
  ·rw [at2_ne ne,at2_ne ne,at2_same]
   intro j h1' h2
   rw [old j (by omega)]
   exact h.v1 _ hi j h1' h2
 ·rcases two i hi with rfl | rfl
  ·rw [at2_same,at2_ne ne']
   unfold lastOf
   intro z
   by_cases e:readsR (rows i T)=[]
   ·rw [if_pos e] at z ⊢;exact h.v2 i hi z
   ·rw [if_neg e,Int.toNat_natCast];exact e
  ·rw [at2_ne ne,at2_same]
   intro z
   have:=h.v6 _ hi
   rw [old _ (by omega)]
   exact h.v2 _ hi z
 ·rcases two i hi with rfl | rfl
  ·rw [at2_ne ne,at2_ne ne'];exact h.v3 i hi
  ·have e2:1 - (1 - s)=s:=by omega
   rw [e2,at2_same,at2_same]
   intro g fs' hg d hd' hl
   by_cases z:g < (F s).length
   ·rw [List.getElem?_append_left z] at hg
    have:=h.v3 (1 - s) hi g fs'
    rw [e2] at this
    obtain ⟨row,r1,r2⟩:=this hg d hd' hl
    exact ⟨row,give_sub fs _ _ r1,r2⟩
   ·have hlt:g < (F s ++ [fs]).length:=(List.getElem?_eq_some_iff.mp hg).1
    rw [List.length_append] at hlt
    have eg:g=(F s).length:=by simp at hlt;omega
    rw [eg,List.getElem?_append_right (Nat.le_refl _),Nat.sub_self] at hg
    cases hg
    have:=h.v5 s hs
    have eT:g=T:=by omega
    rw [eT]
    exact ⟨_,give_new fs d hd',decide_eq_true hl⟩
 ·rcases two i hi with rfl | rfl
  ·rw [at2_same]
   intro x hx
   rcases List.mem_append.mp hx with z | z
   ·exact h.v4 i hi x z
   ·rw [List.mem_singleton.mp z];exact gf
  ·rw [at2_ne ne];exact h.v4 _ hi
 ·rcases two i hi with rfl | rfl
  ·rw [at2_same,at2_same,ad,List.length_append]
   have:=h.v5 i hi
   simp;omega
  ·rw [at2_ne ne,at2_ne ne];exact h.v5 _ hi
 ·rcases two i hi with rfl | rfl
  ·rw [at2_same,at2_same,ad]
   unfold lastOf
   have:=h.v6 i hi
   split <;> omega
  ·rw [at2_ne ne,at2_ne ne];exact h.v6 _ hi
theorem W34.start {late:Int} {L:Nat→Lk} (hL:∀ s,s < 2→(L s).d=0):W34 late L (fun _=>-1) (fun _ _=>[]) (fun _=>[]) :=
 ⟨fun _ _ _ _ _=>rfl,(fun _ _ h=>by omega),(fun _ _ g fs h=>by cases h),(fun _ _ fs h=>by cases h),fun s hs=>by rw [hL s hs];rfl,fun s hs=>by rw [hL s hs];decide⟩
def xssOf (rs:Nat→List Rw) (n:Nat):List (List Cb):=(List.range n).map fun j=>(rs j).map fun r=>(r.f,r.rd)
theorem xss_len (rs:Nat→List Rw) (n:Nat):(xssOf rs n).length=n:=by unfold xssOf;rw [List.length_map,List.length_range]
theorem xss_get {rs:Nat→List Rw} {n k:Nat} (h:k < n):(xssOf rs n)[k]?=some ((rs k).map fun r=>(r.f,r.rd)):=by unfold xssOf;rw [List.getElem?_map,List.getElem?_range h];rfl
theorem anyN_rows {rs:Nat→List Rw} {n k:Nat} (h:k < n):anyN (xssOf rs n) k=true↔readsR (rs k)≠[]:=by
 unfold anyN
 rw [xss_get h]
 constructor
 ·intro z e
  rw [readsR_nil] at e
  obtain ⟨x,hx,hx2⟩:=List.any_eq_true.mp z
  have hx:x ∈ (rs k).map (fun r=>(r.f,r.rd)):=hx
  obtain ⟨r,hr,rfl⟩:=List.mem_map.mp hx
  have:=e r hr
  exact absurd hx2 (by rw [show (r.f,r.rd).2=r.rd from rfl,this];decide)
 ·intro z
  refine Classical.byContradiction fun w=>z (readsR_nil.mpr fun r hr=>?_)
  cases e:r.rd with
  | false=>rfl
  | true=>exact absurd (List.any_eq_true.mpr ⟨(r.f,r.rd),List.mem_map.mpr ⟨r,hr,rfl⟩,e⟩) w
def cssOf (F:List Ft):List (List Nat):=F.map fun fs=>fs.map fun d=>d.2.length
theorem fitN_of {F:List Ft} {k:Nat} {fs:Ft} (h:F[k]?=some fs):fitN (cssOf F) k=true↔Fit fs:=by
 unfold fitN cssOf fitC Fit
 rw [List.getElem?_map,h]
 show (fs.map fun d=>d.2.length).any (fun c=>decide (c≤2))=true↔_
 rw [List.any_eq_true]
 constructor
 ·rintro ⟨x,hx,h2⟩
  obtain ⟨d,hd,rfl⟩:=List.mem_map.mp hx
  exact ⟨d,hd,by have:=of_decide_eq_true h2;omega⟩
 ·rintro ⟨d,hd,h2⟩
  exact ⟨_,List.mem_map.mpr ⟨d,hd,rfl⟩,decide_eq_true (by omega)⟩
theorem shown_no {q T:Int} {rs:Nat→List Rw} {n:Nat} {la:Int} (hn:(n:Int)=T+1) (h0:0≤la) (h1:T - q < la) (h2:la≤T) (hr:readsR (rs la.toNat)≠[]):shB (xssOf rs n) q (T - q+1) T=false:=by
 refine Bool.eq_false_iff.mpr fun z=>?_
 unfold shB at z
 rw [Bool.and_eq_true,Bool.and_eq_true,Bool.and_eq_true,decide_eq_true_eq,decide_eq_true_eq,decide_eq_true_eq] at z
 obtain ⟨⟨z1,z2,z3⟩,z4⟩:=z
 have:((List.range q.toNat).any fun k=>anyN (xssOf rs n) ((T - q+1).toNat+k))=true:=by
  refine List.any_eq_true.mpr ⟨la.toNat - (T - q+1).toNat,List.mem_range.mpr (by omega),?_⟩
  rw [show (T - q+1).toNat+(la.toNat - (T - q+1).toNat)=la.toNat by omega]
  exact (anyN_rows (by omega)).mpr hr
 rw [this] at z4
 cases z4
theorem shown_yes {q T:Int} {rs:Nat→List Rw} {n:Nat} (hn:(n:Int)=T+1) (hq:1≤q) (h0:0≤T - q) (hr:∀ j:Nat,T - q < (j:Int)→(j:Int)≤T→readsR (rs j)=[]):shB (xssOf rs n) q (T - q+1) T=true:=by
 unfold shB
 rw [xss_len,Bool.and_eq_true,Bool.and_eq_true,Bool.and_eq_true,decide_eq_true_eq,decide_eq_true_eq,decide_eq_true_eq]
 refine ⟨⟨by omega,by omega,by omega⟩,?_⟩
 rw [Bool.not_eq_true',List.any_eq_false]
 intro k hk
 rw [List.mem_range] at hk
 intro z
 exact (anyN_rows (by omega)).mp z (hr _ (by omega) (by omega))
theorem broken_yes {la lo T:Int} {F:List Ft} (hla:1≤la) (hlo:0≤lo) (h0:0≤T - (la+lo)) (hF:T≤(F.length:Int)) (hu:∀ (g:Nat) (fs:Ft),F[g]?=some fs→T - (la+lo)≤(g:Int)→(g:Int)≤T - la→¬ Fit fs):brk (cssOf F) la lo (T - (la+lo)+1) T=true∧∀ k,k < (lo+1).toNat→fitN (cssOf F) ((T - (la+lo)+1 - 1).toNat+k)=false:=by
 have cl:(cssOf F).length=F.length:=by unfold cssOf;rw [List.length_map]
 have all:∀ k,k < (lo+1).toNat→fitN (cssOf F) ((T - (la+lo)+1 - 1).toNat+k)=false:=fun k hk=>by
  have hlt:(T - (la+lo)+1 - 1).toNat+k < F.length:=by omega
  have e:F[(T - (la+lo)+1 - 1).toNat+k]?=some F[(T - (la+lo)+1 - 1).toNat+k]:=by simp [hlt]
  exact Bool.eq_false_iff.mpr fun z=>hu _ _ e (by omega) (by omega) ((fitN_of e).mp z)
 refine ⟨?_,all⟩
 unfold brk
 rw [cl,Bool.and_eq_true,Bool.and_eq_true,Bool.and_eq_true,decide_eq_true_eq,decide_eq_true_eq,decide_eq_true_eq]
 refine ⟨⟨by omega,by omega,by omega⟩,?_⟩
 rw [Bool.not_eq_true',List.any_eq_false]
 intro k hk
 rw [List.mem_range] at hk
 rw [all k hk]
 exact fun z=>by cases z
end
end K34
namespace K34
open PySem L2 PyProof.Rows
section
variable {P:Program} {w:World} {K:PySem.W.Frag} {mg:Str→Option Value} {base:Heap} {t:Ad}
def sp__law_dead (K:PySem.W.Frag):Sp:=fun vs H Q _=>∃ (l:Addr) (n0 n1 n2 n3 n4 n5 side tick:Int),vs=[.ref l,.int side,.int tick]∧SqL K H l [.int n0,.int n1,.int n2,.int n3,.int n4,.int n5]∧∀ (b:Bool) (H':Hp),Same H H'→Q (.bl b) H'
theorem sc__law_dead:FnScope ["numbers","side","tick","begin"] ["numbers","side","tick"] (defScope s__law_dead):=⟨rfl,rfl,rfl,by decide +kernel,rfl,by decide +kernel,by decide +kernel⟩
theorem ok__law_dead (F:Site K mg "_law_dead" s__law_dead) (T:Txt K mg t):Def P w K mg base 1 "_law_dead" ["numbers","side","tick"] (sp__law_dead K):=by
 refine F.def sc__law_dead (fun _ _ _ _ _ _ us hl=>match us,hl with | [_,_,_],_=>rfl) (fun vs H Q E h=>?_) (fun f cdv A outer s H vs Q E hr h=>?_)
 ·obtain ⟨l,n0,n1,n2,n3,n4,n5,side,tick,rfl,_⟩:=h
  rfl
 ·obtain ⟨l,n0,n1,n2,n3,n4,n5,side,tick,rfl,hl,q⟩:=h
  refine ⟨_,pss_cons (ps_set (i:=3) sc__law_dead.nd rfl (Or.inl rfl) (pe_op op_mod (pe_ix (ix_listK K) (pv 0) pe_int (fun _ _=>rfl)) pe_int))
   (pss_one (ps_ret (pe_and (pe_cmpR op_in_seq (pe_op op_mod (pe_ix (ix_listK K) (pv 0) pe_int (fun _ _=>rfl)) pe_int) (pe_tup (pa_cons (pe_op op_add (pv 1) pe_int) (pa_cons pe_int pa_nil))) (by rfl)) (pe_one (pe_chain op_le op_lt (pv 3) (pv 2) (pe_op op_add (pe_op op_add (pv 3) pe_int) (pe_op op_mod (pe_ix (ix_listK K) (pv 0) pe_int (fun _ _=>rfl)) pe_int))))))),?_⟩
  refine ⟨_,rfl,l,_,_,_,rfl,rfl,hl,rfl,_,_,rfl,rfl,(by show (0:Int) < 20;decide),?_⟩
  refine ⟨_,rfl,l,_,_,_,rfl,rfl,hl,rfl,_,_,rfl,rfl,(by show (0:Int) < 4;decide),_,rfl,_,_,rfl,rfl,by show 2≤sizeLine;decide,fun tp htp=>?_⟩
  have s1:=(Same.refl H).new (o:=.tup [V.int (side+1),V.int 3]) htp
  refine ⟨tp,_,rfl,.inr (SqT.of upd_same),rfl,rfl,_,rfl,?_⟩
  rw [show (if (false:Bool)=true then !inV (V.int (n1 % 4)) [V.int (side+1),V.int 3] else inV (V.int (n1 % 4)) [V.int (side+1),V.int 3])=inV (V.int (n1 % 4)) [V.int (side+1),V.int 3] from if_neg (fun z=>by cases z)]
  generalize inV (V.int (n1 % 4)) [V.int (side+1),V.int 3]=bb
  cases bb with
  | false=>exact iteF (q false _ s1)
  | true =>
   refine iteT ?_
   refine ⟨_,rfl,_,rfl,_,_,rfl,rfl,_,rfl,?_⟩
   by_cases b2:n2 % 20≤tick
   ·refine iteY b2 ?_
    refine ⟨_,rfl,_,_,rfl,rfl,_,rfl,l,_,_,_,rfl,rfl,s1.seq hl,rfl,_,_,rfl,rfl,(by show (0:Int) < 18;decide),_,_,rfl,rfl,_,_,rfl,rfl,?_⟩
    exact q _ _ s1
   ·exact iteN b2 (q false _ s1)
theorem cut_any {n:Nat} {f:Nat→V} {i:Int}:∃ k,k≤n∧cutV (tabV n f) (some i) none=tabV (n - k) (fun j=>f (k+j)):=by
 refine ⟨min (HT.sIx n 0 (some i)) n,Nat.min_le_right _ _,?_⟩
 unfold cutV
 rw [HT.sIx_none,tab_len]
 generalize HT.sIx n 0 (some i)=K
 apply List.ext_getElem?
 intro j
 by_cases hj:j < n - min K n
 ·rw [tab_get hj,List.getElem?_take_of_lt (by omega),List.getElem?_drop,tab_get (by omega)]
  congr 2
  omega
 ·rw [List.getElem?_eq_none (by rw [List.length_take,List.length_drop,tab_len];omega),List.getElem?_eq_none (by rw [tab_len];omega)]
def sp__law_kept (K:PySem.W.Frag):Sp:=fun vs H Q _=>∃ (fB fl ma:Addr) (fs:Ft) (F:List Ft) (fa:Nat→Addr) (la:Int) (lo:Nat) (n:Int),vs=[.ref fB,.ref fl,.ref ma,.int n]∧IsFt K H fB fs∧GoodF la fs∧H fl=some (.lst (tabR F.length fa))∧(∀ g fs',F[g]?=some fs'→IsFt K H (fa g) fs'∧fs'.length≤3)∧F.length≤1000∧SqT K H ma [.int la,.int (lo:Int)]∧1≤la∧lo≤4∧0≤n ∧
 ∀ (a:Addr) (H':Hp) (fs':Ft),Same H H'→IsFt K H' a fs'→GoodF la fs'→(lo≤F.length→(∀ g fs'',F[g]?=some fs''→F.length - lo≤g→¬ Fit fs'')→Fit fs')→Q (.ref a) H'
theorem sc__law_kept:FnScope ["fate","fates","measure","number","behind","one"] ["fate","fates","measure","number"] (defScope s__law_kept):=⟨rfl,rfl,rfl,by decide +kernel,rfl,by decide +kernel,by decide +kernel⟩
set_option maxHeartbeats 1000000 in
theorem ok__law_kept (F:Site K mg "_law_kept" s__law_kept) (T:Txt K mg t):Def P w K mg base 1 "_law_kept" ["fate","fates","measure","number"] (sp__law_kept K):=by
 refine F.def sc__law_kept (fun _ _ _ _ _ _ us hl=>match us,hl with | [_,_,_,_],_=>rfl) (fun vs H Q E h=>?_) (fun f cdv A outer s H vs Q E hr h=>?_)
 ·obtain ⟨fB,fl,ma,fs,F,fa,la,lo,n,rfl,_⟩:=h
  rfl
 ·obtain ⟨fB,fl,ma,fs,F,fa,la,lo,n,rfl,hfB,gfB,hfl,hfa,hFl,hma,l0,lo4,n0,q⟩:=h
  refine ⟨_,pss_cons (ps_set (i:=4) sc__law_kept.nd rfl (Or.inl rfl) (pe_slice (sl_listK K) (pv 1) (po_some (pe_op op_sub (pe_callB (call_lenK K) (by rfl) T.n_len boot_len (pa_cons (pv 1) pa_nil)) (pe_ix (ix_tupK K) (pv 2) pe_int (fun _ _=>rfl)))) po_none))
   (pss_cons (PS.nox (ps_for PassesOwn.never rfl (pi_listK K (pe_op (op_catK K) (pv 4) (pe_lst (pa_cons (pv 0) pa_nil)))) (pg_name (i:=5) sc__law_kept.nd rfl (Or.inl rfl))
    (pss_one (ps_if (pt_cmpR op_gt (pe_callB (call_lenK K) (by rfl) T.n_len boot_len (pa_cons (pe_lc rfl (Nc:=["delay","turns"]) (ix:=[none,none]) (cscope (defScope s__law_kept) ["fate","fates","measure","number","behind","one"] rfl rfl (by decide +kernel)) (pi_tupK K (pv 5)) (fun C fp s H=>⟨(pg_twoK K (i:=0) (j:=1) rfl (show (["delay","turns"]:List Str).Nodup by decide +kernel) rfl rfl (Or.inl rfl) (Or.inl rfl)),(pts_one (pt_cmpR op_lt (pe_callB (call_lenK K) (by rfl) T.n_len boot_len (pa_cons (pv 1) pa_nil)) pe_int (nomark _))),(pv 1)⟩)) pa_nil)) pe_int (nomark _))
     (pss_one (ps_ret (pv 0)))
     (pss_nil)))))
   (pss_cons (ps_if (pt_cmpR op_lt (pe_callB (call_lenK K) (by rfl) T.n_len boot_len (pa_cons (pv 4) pa_nil)) (pe_ix (ix_tupK K) (pv 2) pe_int (fun _ _=>rfl)) (nomark _))
    (pss_one (ps_ret (pv 0)))
    (pss_nil))
   (pss_one (ps_ret (pe_tup (pa_cons (pe_tup (pa_cons (pe_op op_add pe_int (pe_op op_mod (pe_op op_fdiv (pv 3) pe_int) (pe_ix (ix_tupK K) (pv 2) pe_int (fun _ _=>rfl)))) (pa_cons (pe_tup pa_nil) pa_nil))) pa_nil)))))),?_⟩
  have hsz:(5000:Nat)≤sizeLine:=by decide
  refine ⟨_,rfl,_,rfl,fl,_,rfl,.inl (SqL.of hfl),_,rfl,ma,_,_,_,rfl,rfl,hma,rfl,_,_,rfl,rfl,_,rfl,fl,_,rfl,SqL.of hfl,fun p hp=>?_⟩
  dsimp only at hp ⊢
  rw [tab_len]
  obtain ⟨k,hk,ek,ek2⟩:∃ k,k≤F.length∧cutV (tabR F.length fa) (some ((F.length:Int) - (lo:Int))) none=tabR (F.length - k) (fun j=>fa (k+j))∧(lo≤F.length→k=F.length - lo):=by
   by_cases z:lo≤F.length
   ·refine ⟨F.length - lo,by omega,?_,fun _=>rfl⟩
    have:=tab_cut_lo (n:=F.length) (f:=fun j=>V.ref (fa j)) (lo:=F.length - lo) (by omega)
    rw [show ((F.length - lo:Nat):Int)=(F.length:Int) - (lo:Int) by omega] at this
    exact this
   ·obtain ⟨k,h1,h2⟩:=cut_any (n:=F.length) (f:=fun j=>V.ref (fa j)) (i:=(F.length:Int) - (lo:Int))
    exact ⟨k,h1,h2,fun y=>absurd y z⟩
  rw [ek]
  have s1:Same H (upd H p (.lst (tabR (F.length - k) fun j=>fa (k+j)))):=(Same.refl _).new hp
  have e1:(upd H p (.lst (tabR (F.length - k) fun j=>fa (k+j)))) p=some (.lst (tabR (F.length - k) fun j=>fa (k+j))):=upd_same
  generalize upd H p (.lst (tabR (F.length - k) fun j=>fa (k+j)))=H1 at *
  generalize hm:F.length - k=m at *
  refine ⟨_,rfl,_,rfl,by show 1≤sizeLine;decide,fun l1 hl1=>?_⟩
  have s2:Same H1 (upd H1 l1 (.lst [.ref fB])):=(Same.refl _).new hl1
  refine ⟨p,l1,_,_,rfl,rfl,SqL.of (s2 _ _ e1),SqL.of upd_same,by rw [tab_len];show m+1≤sizeLine;omega,fun l2 hl2=>?_⟩
  have ecat:tabR m (fun j=>fa (k+j)) ++ [V.ref fB]=tabR (m+1) (fun j=>if j=m then fB else fa (k+j)):=tabR_snoc _ _ _
  rw [ecat]
  have s3:Same (upd H1 l1 (.lst [.ref fB])) (upd (upd H1 l1 (.lst [.ref fB])) l2 (.lst (tabR (m+1) (fun j=>if j=m then fB else fa (k+j))))):=(Same.refl _).new hl2
  have e3:(upd (upd H1 l1 (.lst [.ref fB])) l2 (.lst (tabR (m+1) (fun j=>if j=m then fB else fa (k+j))))) l2=some (.lst (tabR (m+1) (fun j=>if j=m then fB else fa (k+j)))):=upd_same
  have s03:=s1.trans (s2.trans s3)
  have e1':=(s2.trans s3) _ _ e1
  generalize upd (upd H1 l1 (.lst [.ref fB])) l2 (.lst (tabR (m+1) (fun j=>if j=m then fB else fa (k+j))))=H3 at *
  have one:∀ i,i < m+1→∃ fs',IsFt K H (if i=m then fB else fa (k+i)) fs'∧fs'.length≤3∧(i=m→fs'=fs)∧(i≠m→F[k+i]?=some fs'):=fun i hi=>by
   by_cases z:i=m
   ·simp only [z,if_true]
    exact ⟨fs,hfB,gfB.len,fun _=>rfl,fun y=>absurd rfl y⟩
   ·simp only [z,if_false]
    have hlt:k+i < F.length:=by omega
    have e:F[k+i]?=some F[k+i]:=by simp [hlt]
    exact ⟨_,(hfa _ _ e).1,(hfa _ _ e).2,fun y=>y.elim,fun _=>e⟩
  refine ⟨l2,rfl,⟨_,SqL.of e3⟩,for_list (K:=K) (a:=l2) (xs:=tabR (m+1) (fun j=>if j=m then fB else fa (k+j))) (fun i σ H'=>∃ v5:Option V,σ=[some (.ref fB),some (.ref fl),some (.ref ma),some (.int n),some (.ref p),v5]∧Same H3 H'∧∀ j,j < i→∀ fs',(j=m→fs'=fs)→(j≠m→F[k+j]?=some fs')→¬ Fit fs')
   ⟨none,rfl,Same.refl _,fun j hj=>absurd hj (Nat.not_lt_zero _)⟩ (fun i σ H' _ ⟨_,_,s',_⟩=>SqL.of (s' _ _ e3)) ?_ ?_⟩
  ·rintro i v σ H4 hi ⟨v5,rfl,s4,hun⟩
   obtain ⟨hil,rfl⟩:=tab_of hi
   obtain ⟨fs',hf1,hf2,hf3,hf4⟩:=one i hil
   obtain ⟨fas,tas,g1,g2⟩:=hf1.same (s03.trans s4)
   refine ⟨_,rfl,_,rfl,⟨_,g1⟩,fun D hD=>?_⟩
   refine lc_tup (K:=K) (xs:=tabR fs'.length fas) (fun i σ H'=>(∃ v1 v2:Option V,σ=[v1,v2])∧Same H4 H'∧∃ vs:List V,H' D=some (.lst vs)∧vs.length≤i∧(vs=[]↔∀ d ∈ fs'.take i,¬ d.2.length < 3)) ⟨⟨none,none,rfl⟩,(Same.refl _).new hD,[],upd_same,Nat.le_refl _,⟨(fun _ d hd=>by cases hd),fun _=>rfl⟩⟩ (fun i σ H' _ ⟨_,s',_⟩=>s'.tup g1) ?_ ?_
   ·rintro j x σ H' N hN hx ⟨⟨v1,v2,rfl⟩,s5,vs,h1,h2,h3⟩
    obtain ⟨hj,rfl⟩:=tab_of hx
    have e:fs'[j]?=some fs'[j]:=by simp [hj]
    generalize fs'[j]=d at e
    obtain ⟨k1,tt,k2,k3⟩:=g2 j d e
    refine take_two (s5.tup k1) ?_
    refine ⟨_,rfl,tas j,_,rfl,.inr (s5.tup k2),_,_,rfl,rfl,_,rfl,?_⟩
    rw [tab_len]
    by_cases hd:d.2.length < 3
    ·refine iteY (by omega) ?_
     refine ⟨_,rfl,_,h1,by omega,hN _ _ ⟨⟨_,_,rfl⟩,s5.put hD,_,upd_same,by rw [List.length_append];show vs.length+1≤j+1;omega,?_⟩⟩
     constructor
     ·intro z;exact absurd z (by simp)
     ·intro z
      rw [take_succ e] at z
      exact absurd hd (z d (List.mem_append_right _ (List.mem_singleton.mpr rfl)))
    ·refine iteN (by omega) ?_
     refine hN _ _ ⟨⟨_,_,rfl⟩,s5,vs,h1,by omega,?_⟩
     rw [take_succ e,h3]
     constructor
     ·intro z x hx
      rcases List.mem_append.mp hx with y | y
      ·exact z x y
      ·rw [List.mem_singleton.mp y];exact hd
     ·intro z x hx
      exact z x (List.mem_append_left _ hx)
   ·rintro σ H5 ⟨⟨v1,v2,rfl⟩,s5,vs,h1,h2,h3⟩
    rw [tab_len,List.take_length] at h3
    refine ⟨D,_,rfl,.inl (SqL.of h1),_,_,rfl,rfl,_,rfl,?_⟩
    have s05:=(s03.trans s4).trans s5
    by_cases hv:vs=[]
    ·rw [hv]
     refine iteN (by show ¬ ((([]:List V).length:Int) > 0);decide) ?_
     have nf:¬ Fit fs':=fun ⟨d,hd,hl⟩=>h3.mp hv d hd hl
     refine ⟨_,rfl,s4.trans s5,fun j hj fs2 y1 y2=>?_⟩
     by_cases z:j=i
     ·subst z
      by_cases zm:j=m
      ·rw [y1 zm,← hf3 zm];exact nf
      ·have h6:=y2 zm
       rw [hf4 zm] at h6
       cases h6
       exact nf
     ·exact hun j (by omega) fs2 y1 y2
    ·refine iteY (by have:vs.length≠0:=fun z=>hv (List.length_eq_zero_iff.mp z);omega) ?_
     refine ⟨_,rfl,q fB H5 fs s05 (hfB.same s05) gfB fun z1 z2=>?_⟩
     have fit:Fit fs':=Classical.byContradiction fun w=>hv (h3.mpr fun d hd hl=>w ⟨d,hd,hl⟩)
     by_cases zm:i=m
     ·rw [← hf3 zm];exact fit
     ·exact absurd fit (z2 _ _ (hf4 zm) (by have:=ek2 z1;omega))
  ·rintro σ H4 ⟨v5,rfl,s4,hun⟩
   rw [tab_len] at hun
   have s04:=s03.trans s4
   refine ⟨_,rfl,p,_,rfl,.inl (SqL.of (s4 _ _ e1')),_,rfl,ma,_,_,_,rfl,rfl,s04.tup hma,rfl,_,_,rfl,rfl,_,rfl,?_⟩
   rw [tab_len]
   by_cases hml:m < lo
   ·refine iteY (by omega) ?_
    exact ⟨_,rfl,q fB H4 fs s04 (hfB.same s04) gfB fun z1 z2=>by have:=ek2 z1;omega⟩
   ·refine iteN (by omega) ?_
    have lp:0 < la:=by omega
    have b1:1≤(1+n / 16 % la)∧(1+n / 16 % la)≤la:=by
     have:=Int.emod_nonneg (n / 16) (show la≠0 by omega)
     have:=Int.emod_lt_of_pos (n / 16) lp
     omega
    refine ⟨_,rfl,_,_,rfl,rfl,⟨by decide,by decide⟩,_,rfl,ma,_,_,_,rfl,rfl,s04.tup hma,rfl,_,_,rfl,rfl,lp,_,_,rfl,rfl,by show 0≤sizeLine;decide,fun c hc=>⟨by show 2≤sizeLine;decide,fun b hb=>⟨by show 1≤sizeLine;decide,fun a ha=>?_⟩⟩⟩
    obtain ⟨t1,g1,g2⟩:=pair_nil (K:=K) (d:=(1+n / 16 % la)) hc hb
    have t2:=(Same.refl _).new (o:=.tup [.ref b]) ha
    exact q a _ [((1+n / 16 % la),[])] (s04.trans (t1.trans t2)) (ft_one (SqT.of upd_same) (t2.tup g1) (g2.same t2)) ⟨by show 1≤3;decide,fun x hx=>by rw [List.mem_singleton.mp hx];exact ⟨b1.1,b1.2,goodTs_nil⟩⟩ fun _ _=>⟨_,List.mem_singleton.mpr rfl,by show 0 < 3;decide⟩
end
end K34
namespace K34
open PySem L2 PyProof.Rows
section
variable {P:Program} {w:World} {K:PySem.W.Frag} {mg:Str→Option Value} {base:Heap} {t:Ad}
theorem at_0 (x:V) (l:List V):atI (x :: l) 0=some x:=by
 have h:(x :: l)[0]?=some x:=rfl
 exact atI_nat h
theorem at_1 (x y:V) (l:List V):atI (x :: y :: l) 1=some y:=by
 have h:(x :: y :: l)[1]?=some y:=rfl
 exact atI_nat h
theorem neo_pair {K:PySem.W.Frag} {H:Hp} {pv pv':V} {p:Option (Int × Int)} {Q:VK} (h:PairV H pv p) (h':PairV H pv' p) (q:Q (.bl false) H):rNeO K pv pv' H Q:=by
 cases p with
 | none =>
  have h:pv=.non:=h
  have h':pv'=.non:=h'
  subst h h'
  exact .inl ⟨rfl,q⟩
 | some p =>
  obtain ⟨a,rfl,g⟩:=h
  obtain ⟨a',rfl,g'⟩:=h'
  refine .inr ⟨a,a',_,_,rfl,rfl,SqT.of g,SqT.of g',fun j u v hu hv=>?_,q⟩
  match j,hu,hv with
  | 0,hu,hv=>cases hu;cases hv;exact .flat _ rfl
  | 1,hu,hv=>cases hu;cases hv;exact .flat _ rfl
  | j+2,hu,hv=>cases hu
def sp__law_silent_right (K:PySem.W.Frag):Sp:=fun vs H Q _=>∃ (ev cA fA ma pa:Addr) (vp:V) (p:Int × Int) (xss:List (List Cb)) (css:List (List Nat)) (la lo f e:Int),vs=[.ref ev,vp,.int e,.ref cA,.ref fA,.ref ma]∧H ev=some (.tup [.str "silent",.ref pa,.int f,.int e])∧H pa=some (.tup [.int p.1,.int p.2])∧PairV H vp (some p)∧IsCame H cA xss∧xss.length≤1000∧1≤la+lo∧IsFts K H fA css∧css.length≤1000∧SqT K H ma [.int la,.int lo]∧0≤lo∧shB xss (la+lo) f e=true∧brk css la lo f e=true∧∀ H',Same H H'→Q (.bl true) H'
theorem sc__law_silent_right:FnScope ["event","pair","tick","came","fates","measure","first","last","quiet"] ["event","pair","tick","came","fates","measure"] (defScope s__law_silent_right):=⟨rfl,rfl,rfl,by decide +kernel,rfl,by decide +kernel,by decide +kernel⟩
theorem ok__law_silent_right (F:Site K mg "_law_silent_right" s__law_silent_right) (T:Txt K mg t) (D_is_shown:Def P w K mg base 10 "is_shown" ["came","quiet","first","last"] sp_is_shown) (D_broken_by:Def P w K mg base 2 "broken_by" ["fates","measure","first","last"] (sp_broken_by K)):Def P w K mg base 11 "_law_silent_right" ["event","pair","tick","came","fates","measure"] (sp__law_silent_right K):=by
 refine F.def sc__law_silent_right (fun _ _ _ _ _ _ us hl=>match us,hl with | [_,_,_,_,_,_],_=>rfl) (fun vs H Q E h=>?_) (fun f cdv A outer s H vs Q E hr h=>?_)
 ·obtain ⟨ev,cA,fA,ma,pa,vp,p,xss,css,la,lo,f,e,rfl,_⟩:=h
  rfl
 ·obtain ⟨ev,cA,fA,ma,pa,vp,p,xss,css,la,lo,f,e,rfl,hev,hpa,hpv,hc,hxl,hq,hf,hcl,hma,hlo,hsh,hbr,q⟩:=h
  refine ⟨_,pss_cons (ps_asg (pe_slice (sl_tupA K) (pv 0) (po_some pe_int) po_none) (pg_twoK K (i:=6) (j:=7) rfl sc__law_silent_right.nd rfl rfl (Or.inl rfl) (Or.inl rfl)))
   (pss_cons (ps_set (i:=8) sc__law_silent_right.nd rfl (Or.inl rfl) (pe_op op_add (pe_ix (ix_tupK K) (pv 5) pe_int (fun _ _=>rfl)) (pe_ix (ix_tupK K) (pv 5) pe_int (fun _ _=>rfl))))
   (pss_cons (ps_if (PW.pt (pw_or (pt_cmpR (op_neO K (hu16 hr)) (pe_ix (ix_tupK K) (pv 0) pe_int (fun _ _=>rfl)) (pv 1) (nomark _)) (pw_or (pt_cmpR op_ne (pv 7) (pv 2) (nomark _)) (pw_or1 (pt_not (pt_val (pe_def (D_is_shown.mono (by decide)) hr passN (pa_cons (pv 3) (pa_cons (pv 8) (pa_cons (pv 6) (pa_cons (pv 7) pa_nil)))))))))))
    (pss_one (ps_ret pe_bl))
    (pss_nil))
   (pss_one (ps_ret (pe_def (D_broken_by.mono (by decide)) hr passN (pa_cons (pv 4) (pa_cons (pv 5) (pa_cons (pv 6) (pa_cons (pv 7) pa_nil))))))))),?_⟩
  refine ⟨_,rfl,_,rfl,ev,_,rfl,SqT.of hev,fun r H1 s1 hr1=>?_⟩
  refine take_two (x:=.int f) (y:=.int e) hr1 ?_
  refine ⟨_,rfl,ma,_,_,_,rfl,rfl,s1.tup hma,rfl,_,rfl,ma,_,_,_,rfl,rfl,s1.tup hma,rfl,_,_,rfl,rfl,?_⟩
  refine ⟨_,rfl,ev,_,_,_,rfl,rfl,SqT.of (s1 _ _ hev),at_1 _ _ _,_,rfl,neo_pair (p:=some p) ⟨pa,rfl,s1 _ _ hpa⟩ (hpv.mono fun a xs e=>s1 _ _ e) ⟨_,rfl,iteF ?_⟩⟩
  refine ⟨_,rfl,_,rfl,rfl,_,rfl,iteNN rfl ?_⟩
  refine ⟨_,rfl,_,rfl,_,rfl,_,rfl,cA,xss,la+lo,f,e,rfl,hc.same s1,hxl,hq,fun H2 s2=>?_⟩
  rw [hsh]
  refine ⟨_,rfl,iteF ?_⟩
  have s12:=s1.trans s2
  refine ⟨_,rfl,_,rfl,_,rfl,_,rfl,fA,ma,css,la,lo,f,e,rfl,fts_same s12 hf,hcl,s12.tup hma,hlo,fun H3 s3=>?_⟩
  rw [hbr]
  exact q H3 (s12.trans s3)
def trP (p:Option (Int × Int)) (es:List Ev):Option (Int × Int):=es.foldl (fun _ (e:Ev)=>if e.w=("up":Str) then some e.p else none) p
theorem trP_snoc (p:Option (Int × Int)) (es:List Ev) (e:Ev):trP p (es ++ [e])=if e.w=("up":Str) then some e.p else none:=by unfold trP;rw [List.foldl_append];rfl
structure TrOk (p:Option (Int × Int)) (es:List Ev):Prop where
 tk:∀ e:Ev,e ∈ es→e.w≠"took"
 sl:∀ (i:Nat) (e:Ev),es[i]?=some e→e.w="silent"→trP p (es.take i)=some e.p
theorem TrOk.snoc {p:Option (Int × Int)} {es:List Ev} {e:Ev} (h:TrOk p es) (h1:e.w≠"took") (h2:e.w="silent"→trP p es=some e.p):TrOk p (es ++ [e]):=by
 refine ⟨fun x hx=>?_,fun i x hx hw=>?_⟩
 ·rcases List.mem_append.mp hx with z | z
  ·exact h.tk x z
  ·rw [List.mem_singleton.mp z];exact h1
 ·by_cases z:i < es.length
  ·rw [List.getElem?_append_left z] at hx
   rw [List.take_append_of_le_length (by omega)]
   exact h.sl i x hx hw
  ·have hlt:i < (es ++ [e]).length:=(List.getElem?_eq_some_iff.mp hx).1
   rw [List.length_append] at hlt
   have ei:i=es.length:=by simp at hlt;omega
   rw [ei,List.getElem?_append_right (Nat.le_refl _),Nat.sub_self] at hx
   cases hx
   rw [ei,List.take_left']
   ·exact h2 hw
   ·rfl
theorem Tr.ok {p p':Option (Int × Int)} {es:List Ev} (h:Tr p es p'):TrOk p es∧trP p es=p':=by
 induction h with
 | nil=>exact ⟨⟨(fun e he=>by cases he),(fun i e he=>by cases he)⟩,rfl⟩
 | up h ih=>exact ⟨ih.1.snoc (show ("up":Str)≠"took" by decide) (fun z=>absurd z (show ("up":Str)≠"silent" by decide)),by rw [trP_snoc,if_pos rfl]⟩
 | anew h ih=>exact ⟨ih.1.snoc (show ("anew":Str)≠"took" by decide) (fun z=>absurd z (show ("anew":Str)≠"silent" by decide)),by rw [trP_snoc,if_neg (show ¬ ("anew":Str)="up" by decide)]⟩
 | sil h ih=>exact ⟨ih.1.snoc (show ("silent":Str)≠"took" by decide) (fun _=>ih.2),by rw [trP_snoc,if_neg (show ¬ ("silent":Str)="up" by decide)]⟩
theorem at_twoV {f:Nat→V} {s:Nat} (h:s < 2):atI [f 0,f 1] (s:Int)=some (f s):=by
 match s,h with
 | 0,_=>rfl
 | 1,_=>rfl
 | s+2,h=>omega
theorem ix_two {xs:List V} {s:Nat} (h:s < 2) (hx:xs.length=2):ixN xs.length (s:Int)=some s:=by
 rw [hx]
 match s,h with
 | 0,_=>rfl
 | 1,_=>rfl
 | s+2,h=>omega
theorem set_two {f:Nat→V} {s:Nat} {v:V} (h:s < 2):([f 0,f 1]:List V).set s v=[at2 f s v 0,at2 f s v 1]:=by
 match s,h with
 | 0,_=>rfl
 | 1,_=>rfl
 | s+2,h=>omega
def sp__law_events_right (K:PySem.W.Frag):Sp:=fun vs H Q _=>∃ (G:Hp) (evl P S cl fl ma:Addr) (E:List Ev) (pvs:Nat→V) (cs:Nat→Int) (came fts:Nat→Addr) (xss:List (List Cb)) (css:List (List Nat)) (la lo T:Int) (sd:Nat) (p0:Option (Int × Int)),
 vs=[.ref evl,.int (sd:Int),.ref P,.ref S,.int T,.ref cl,.ref fl,.ref ma]∧sd < 2∧Same G H∧G P=none∧G S=none∧P≠S∧H P=some (.lst [pvs 0,pvs 1])∧H S=some (.lst [.int (cs 0),.int (cs 1)])∧IsEvs G evl E∧G cl=some (.lst [.ref (came 0),.ref (came 1)])∧G fl=some (.lst [.ref (fts 0),.ref (fts 1)]) ∧
 IsCame G (came sd) xss∧xss.length≤1000∧IsFts K G (fts (1 - sd)) css∧css.length≤1000∧SqT K G ma [.int la,.int lo]∧1≤la+lo∧0≤lo∧PairV G (pvs sd) p0∧TrOk p0 E∧(∀ e ∈ E,e.w="silent"→∃ f,e.ns=[f,T]∧shB xss (la+lo) f T=true∧brk css la lo f T=true) ∧
 ∀ (H':Hp) (pv':V) (c':Int),Same G H'→(∀ a,H' a=none→H a=none)→(∀ a o,a≠P→a≠S→H a=some o→H' a=some o)→H' P=some (.lst [at2 pvs sd pv' 0,at2 pvs sd pv' 1])→PairV G pv' (trP p0 E)→H' S=some (.lst [.int (at2 cs sd c' 0),.int (at2 cs sd c' 1)])→cs sd≤c'→(c'≠cs sd→∃ e ∈ E,e.w="silent")→Q (.bl true) H'
theorem sc__law_events_right:FnScope ["events","side","pairs","silent","tick","came","fates","measure","event"] ["events","side","pairs","silent","tick","came","fates","measure"] (defScope s__law_events_right):=⟨rfl,rfl,rfl,by decide +kernel,rfl,by decide +kernel,by decide +kernel⟩
set_option maxHeartbeats 1000000 in
theorem ok__law_events_right (F:Site K mg "_law_events_right" s__law_events_right) (T:Txt K mg t) (D__law_silent_right:Def P w K mg base 11 "_law_silent_right" ["event","pair","tick","came","fates","measure"] (sp__law_silent_right K)):Def P w K mg base 12 "_law_events_right" ["events","side","pairs","silent","tick","came","fates","measure"] (sp__law_events_right K):=by
 refine F.def sc__law_events_right (fun _ _ _ _ _ _ us hl=>match us,hl with | [_,_,_,_,_,_,_,_],_=>rfl) (fun vs H Q E h=>?_) (fun f cdv A outer s H vs Q E hr h=>?_)
 ·obtain ⟨G,evl,P,S,cl,fl,ma,E,pvs,cs,came,fts,xss,css,la,lo,T,sd,p0,rfl,_⟩:=h
  rfl
 ·obtain ⟨G,evl,PP,S,cl,fl,ma,E,pvs,cs,came,fts,xss,css,la,lo,tk,sd,p0,rfl,hsd,sG,GP,GS,nPS,hP,hS,hE,hcl,hfl,hc,hxl,hf,hcsl,hma,hq,hlo,hp0,tr,hsil,q⟩:=h
  refine ⟨_,pss_cons (PS.nox (ps_for PassesOwn.never rfl (pi_listK K (pv 0)) (pg_name (i:=8) sc__law_events_right.nd rfl (Or.inl rfl))
    (pss_cons (ps_cut (ps_if (pt_cmpR op_eq (pe_ix (ix_tupK K) (pv 8) pe_int (fun _ _=>rfl)) pe_str (nomark _))
     (pss_cons (ps_asg (pe_op op_add (pe_ix (ix_listK K) (pv 3) (pv 1) (fun _ _=>rfl)) pe_int) (pg_sub (pv 3) (pv 1) set_list))
     (pss_one (ps_if (pt_not (pt_val (pe_def (D__law_silent_right.mono (by decide)) hr passN (pa_cons (pv 8) (pa_cons (pe_ix (ix_listK K) (pv 2) (pv 1) (fun _ _=>rfl)) (pa_cons (pv 4) (pa_cons (pe_ix (ix_listK K) (pv 5) (pv 1) (fun _ _=>rfl)) (pa_cons (pe_ix (ix_listK K) (pv 6) (pe_op op_sub pe_int (pv 1)) (fun _ _=>rfl)) (pa_cons (pv 7) pa_nil)))))))))
      (pss_one (ps_ret pe_bl))
      (pss_nil))))
     (pss_nil)))
    (pss_one (ps_if (pt_cmpR op_ne (pe_ix (ix_tupK K) (pv 8) pe_int (fun _ _=>rfl)) pe_str (nomark _))
     (pss_one (ps_asg (pe_ix (ix_listK K) (pe_lst (pa_cons pe_non (pa_cons (pe_ix (ix_tupK K) (pv 8) pe_int (fun _ _=>rfl)) pa_nil))) (pe_callTy call_int1 (by rfl) T.n_int boot_int (pa_cons (pe_cmpR op_eq (pe_ix (ix_tupK K) (pv 8) pe_int (fun _ _=>rfl)) pe_str (nomark _)) pa_nil)) (fun _ _=>rfl)) (pg_sub (pv 2) (pv 1) set_list)))
     (pss_nil))))))
   (pss_one (ps_ret pe_bl)),?_⟩
  obtain ⟨eas,g1,g2⟩:=hE
  refine ⟨_,rfl,evl,rfl,⟨_,SqL.of (sG _ _ g1)⟩,for_list (K:=K) (a:=evl) (xs:=tabR E.length eas) (fun i σ H'=>∃ (v8:Option V) (pv':V) (c':Int),σ=[some (.ref evl),some (.int (sd:Int)),some (.ref PP),some (.ref S),some (.int tk),some (.ref cl),some (.ref fl),some (.ref ma),v8]∧Same G H'∧(∀ a,H' a=none→H a=none)∧(∀ a o,a≠PP→a≠S→H a=some o→H' a=some o)∧H' PP=some (.lst [at2 pvs sd pv' 0,at2 pvs sd pv' 1])∧PairV G pv' (trP p0 (E.take i))∧H' S=some (.lst [.int (at2 cs sd c' 0),.int (at2 cs sd c' 1)])∧cs sd≤c'∧(c'≠cs sd→∃ e ∈ E,e.w="silent"))
   ⟨none,pvs sd,cs sd,rfl,sG,fun _ h=>h,fun _ _ _ _ h=>h,?_,hp0,?_,Int.le_refl _,fun z=>absurd rfl z⟩ (fun i σ H' _ ⟨_,_,_,_,s',_⟩=>SqL.of (s' _ _ g1)) ?_ ?_⟩
  ·rw [hP,show at2 pvs sd (pvs sd)=pvs from funext fun i=>by unfold at2;split;rename_i z;rw [z];rfl]
  ·rw [hS,show at2 cs sd (cs sd)=cs from funext fun i=>by unfold at2;split;rename_i z;rw [z];rfl]
  ·rintro i v σ H1 hi ⟨v8,pv,c,rfl,s1,n1,f1,P1,pp1,S1,c1,c2⟩
   obtain ⟨hil,rfl⟩:=tab_of hi
   have e:E[i]?=some E[i]:=by simp [hil]
   have hmem:E[i] ∈ E:=List.getElem_mem hil
   generalize E[i]=ev at e hmem
   obtain ⟨pa,k1,k2⟩:=g2 i ev e
   refine ⟨fun σ H2=>∃ c':Int,σ=[some (.ref evl),some (.int (sd:Int)),some (.ref PP),some (.ref S),some (.int tk),some (.ref cl),some (.ref fl),some (.ref ma),some (.ref (eas i))]∧Same G H2∧(∀ a,H2 a=none→H a=none)∧(∀ a o,a≠PP→a≠S→H a=some o→H2 a=some o)∧H2 PP=some (.lst [at2 pvs sd pv 0,at2 pvs sd pv 1])∧H2 S=some (.lst [.int (at2 cs sd c' 0),.int (at2 cs sd c' 1)])∧cs sd≤c'∧(c'≠cs sd→∃ e ∈ E,e.w="silent"),?_,?_⟩
   ·refine ⟨_,rfl,eas i,_,_,_,rfl,rfl,SqT.of (s1 _ _ k1),at_0 _ _,rfl,_,rfl,?_⟩
    by_cases hw:ev.w="silent"
    ·refine iteY (by rw [hw]) ?_
     obtain ⟨f,hns,hsh,hbr⟩:=hsil ev hmem hw
     have hpe:=tr.sl i ev e hw
     rw [hpe] at pp1
     refine ⟨_,rfl,_,rfl,S,_,_,_,rfl,rfl,SqL.of S1,at_twoI (f:=at2 cs sd c) hsd,_,_,rfl,rfl,_,rfl,_,rfl,S,_,_,_,rfl,rfl,S1,ix_two hsd rfl,?_⟩
     rw [set_two (f:=fun j=>V.int (at2 cs sd c j)) hsd]
     have eS:[at2 (fun j=>V.int (at2 cs sd c j)) sd (V.int (at2 cs sd c sd+1)) 0,at2 (fun j=>V.int (at2 cs sd c j)) sd (V.int (at2 cs sd c sd+1)) 1]=[V.int (at2 cs sd (c+1) 0),V.int (at2 cs sd (c+1) 1)]:=by
      have h0:∀ j,at2 (fun j=>V.int (at2 cs sd c j)) sd (V.int (at2 cs sd c sd+1)) j=V.int (at2 cs sd (c+1) j):=fun j=>by
       unfold at2
       by_cases z:j=sd
       ·simp only [z,if_true]
       ·simp only [z,if_false]
      rw [h0,h0]
     rw [eS]
     have s2:Same G (upd H1 S (.lst [V.int (at2 cs sd (c+1) 0),V.int (at2 cs sd (c+1) 1)])):=s1.put GS
     have P2:(upd H1 S (.lst [V.int (at2 cs sd (c+1) 0),V.int (at2 cs sd (c+1) 1)])) PP=some (.lst [at2 pvs sd pv 0,at2 pvs sd pv 1]):=by rw [upd_ne nPS];exact P1
     have S2:(upd H1 S (.lst [V.int (at2 cs sd (c+1) 0),V.int (at2 cs sd (c+1) 1)])) S=some (.lst [V.int (at2 cs sd (c+1) 0),V.int (at2 cs sd (c+1) 1)]):=upd_same
     have n2:∀ a,(upd H1 S (.lst [V.int (at2 cs sd (c+1) 0),V.int (at2 cs sd (c+1) 1)])) a=none→H a=none:=fun a h=>n1 a (upd_free h (by rw [S1];exact fun z=>by cases z))
     have f2:∀ a o,a≠PP→a≠S→H a=some o→(upd H1 S (.lst [V.int (at2 cs sd (c+1) 0),V.int (at2 cs sd (c+1) 1)])) a=some o:=fun a o h1 h2 h3=>by rw [upd_ne h2];exact f1 a o h1 h2 h3
     generalize upd H1 S (.lst [V.int (at2 cs sd (c+1) 0),V.int (at2 cs sd (c+1) 1)])=H2 at *
     have e1s:(1:Int) - (sd:Int)=((1 - sd:Nat):Int):=by omega
     have h1s:1 - sd < 2:=by omega
     have kev:H2 (eas i)=some (.tup [.str "silent",.ref pa,.int f,.int tk]):=by rw [s2 _ _ k1,hw,hns];rfl
     refine ⟨_,rfl,_,rfl,_,rfl,PP,_,_,_,rfl,rfl,SqL.of P2,at_twoV (f:=at2 pvs sd pv) hsd,_,rfl,_,rfl,_,rfl,cl,_,_,_,rfl,rfl,SqL.of (s2 _ _ hcl),at_two hsd,_,rfl,_,rfl,_,_,rfl,rfl,fl,_,_,_,rfl,rfl,SqL.of (s2 _ _ hfl),by rw [e1s];exact at_two h1s,_,rfl,?_⟩
     refine ⟨eas i,came sd,fts (1 - sd),ma,pa,at2 pvs sd pv sd,ev.p,xss,css,la,lo,f,tk,rfl,kev,s2 _ _ k2,by rw [at2_same];exact pp1.mono fun a xs e=>s2 _ _ e,hc.same s2,hxl,hq,fts_same s2 hf,hcsl,s2.tup hma,hlo,hsh,hbr,fun H3 s3=>⟨_,rfl,iteF ?_⟩⟩
     exact ⟨c+1,rfl,s2.trans s3,fun a h=>n2 a (s3.free h),fun a o h1 h2 h3=>s3 _ _ (f2 a o h1 h2 h3),s3 _ _ P2,s3 _ _ S2,by omega,fun _=>⟨ev,hmem,hw⟩⟩
    ·refine iteN (fun z=>hw (V.str.inj z)) ?_
     exact ⟨c,rfl,s1,n1,f1,P1,S1,c1,c2⟩
   ·rintro σ H2 ⟨c',rfl,s2,n2,f2,P2,S2,d1,d2⟩
    refine ⟨_,rfl,eas i,_,_,_,rfl,rfl,SqT.of (s2 _ _ k1),at_0 _ _,rfl,_,rfl,iteNY (fun z=>tr.tk ev hmem (V.str.inj z)) ?_⟩
    refine ⟨_,rfl,eas i,_,_,_,rfl,rfl,SqT.of (s2 _ _ k1),at_1 _ _ _,by show 2≤sizeLine;decide,fun l2 hl2=>?_⟩
    have s3:Same H2 (upd H2 l2 (.lst [.non,.ref pa])):=(Same.refl _).new hl2
    obtain ⟨pv',hix,hpv'⟩:∃ pv',atI [V.non,V.ref pa] (if decide (V.str ev.w=V.str "up")=true then 1 else 0)=some pv'∧PairV G pv' (trP p0 (E.take (i+1))):=by
     rw [take_succ e,trP_snoc]
     by_cases hw:ev.w="up"
     ·rw [if_pos hw,hw]
      exact ⟨.ref pa,rfl,pa,rfl,k2⟩
     ·rw [if_neg hw,decide_eq_false (fun z=>hw (V.str.inj z))]
      exact ⟨.non,rfl,rfl⟩
    refine ⟨_,rfl,eas i,_,_,_,rfl,rfl,SqT.of ((s2.trans s3) _ _ k1),at_0 _ _,rfl,.inr ⟨_,rfl,l2,_,_,_,rfl,rfl,SqL.of upd_same,hix,?_⟩⟩
    refine ⟨_,rfl,_,rfl,PP,_,_,_,rfl,rfl,s3 _ _ P2,ix_two hsd rfl,?_⟩
    rw [set_two (f:=at2 pvs sd pv) hsd]
    have eP:∀ j,at2 (at2 pvs sd pv) sd pv' j=at2 pvs sd pv' j:=fun j=>by
     unfold at2
     by_cases z:j=sd
     ·simp only [z,if_true]
     ·simp only [z,if_false]
    rw [eP,eP]
    refine ⟨_,pv',c',rfl,(s2.trans s3).put GP,fun a h=>n2 a (s3.free (upd_free h (by rw [s3 _ _ P2];exact fun z=>by cases z))),fun a o h1 h2 h3=>by rw [upd_ne h1];exact s3 _ _ (f2 a o h1 h2 h3),upd_same,hpv',by rw [upd_ne (Ne.symm nPS)];exact s3 _ _ S2,d1,d2⟩
  ·rintro σ H1 ⟨v8,pv,c,rfl,s1,n1,f1,P1,pp1,S1,c1,c2⟩
   rw [tab_len,List.take_length] at pp1
   exact q H1 pv c s1 n1 f1 P1 pp1 S1 c1 c2
end
end K34
namespace K34
open PySem L2 PyProof.Rows
section
variable {P:Program} {w:World} {K:PySem.W.Frag} {mg:Str→Option Value} {base:Heap} {t:Ad}
section
variable {Bv:BvP} {C:Addr} {B H H':Hp} {n:Nat} {x tA pA d:Nat→Addr} {sl:Nat→Nat→Addr} {L:Nat→Lk} {rows:Nat→Nat→List Rw} {ρ:Addr→Nat} {s m:Nat} {ex:Nat→Addr} {eo eo':Nat→HO}
theorem St.chg (mb:MonoB Bv) (h:St Bv C B H n x tA pA d sl L rows ρ m ex eo) (fr:∀ a o,(∀ i,i < m→a≠ex i)→H a=some o→H' a=some o) (ee':∀ i,i < m→H' (ex i)=some (eo' i)) (en':∀ i,i < m→NotT (eo' i)):St Bv C B H' n x tA pA d sl L rows ρ m ex eo':=by
 have old:∀ {b:Addr} {k:Nat},ρ b=k→k < 100→∀ u,H b=some u→H' b=some u:=fun {b k} q n1 u g=>fr b u (fun i hi=>rho_ne q (h.er i hi) (by omega)) g
 have tu:TupK H H':=fun a xs e=>fr a _ (fun i hi z=>by rw [z,h.ee i hi] at e;exact (h.en i hi).t xs (Option.some.inj e)) e
 refine ⟨fun a o e=>fr a o (fun i hi z=>by rw [z,h.eb i hi] at e;cases e) (h.sb _ _ e),?_,?_,h.bx,h.bt,h.bp,h.rx,h.rt,h.rp,h.rs,ee',h.eb,h.er,en'⟩
 ·intro k hk
  obtain ⟨⟨dx,pv,q,gp⟩,⟨eas,g2,g2'⟩,g3,g4⟩:=h.lk k hk
  exact ⟨⟨dx,pv,old (h.rx k hk) (by omega) _ q,gp.mono tu⟩,⟨eas,old (h.rt k hk) (by omega) _ g2,fun y e he=>(g2' y e he).mono tu⟩,old (h.rp k hk) (by omega) _ g3,g4⟩
 ·intro k hk
  exact (h.cg k hk).keepH mb fun j hj=>old (h.rs k hk j hj) (by omega)
end
def six {α:Type} (a b c d e f:α):Nat→α:=fun i=>if i=0 then a else if i=1 then b else if i=2 then c else if i=3 then d else if i=4 then e else f
def eoF (pvs:Nat→V) (cs:Nat→Int) (nt:Nat→Nat) (ct:Nat→Nat→Addr) (F:Nat→List Ft) (fa:Nat→Nat→Addr):Nat→HO :=
 six (.lst [pvs 0,pvs 1]) (.lst [.int (cs 0),.int (cs 1)]) (.lst (tabR (nt 0) (ct 0))) (.lst (tabR (nt 1) (ct 1))) (.lst (tabR (F 0).length (fa 0))) (.lst (tabR (F 1).length (fa 1)))
theorem all6 {q:Nat→Prop} (h0:q 0) (h1:q 1) (h2:q 2) (h3:q 3) (h4:q 4) (h5:q 5):∀ i,i < 6→q i:=fun i hi=>by
 match i,hi with
 | 0,_=>exact h0
 | 1,_=>exact h1
 | 2,_=>exact h2
 | 3,_=>exact h3
 | 4,_=>exact h4
 | 5,_=>exact h5
 | i+6,hi=>omega
theorem eo_notT {pvs:Nat→V} {cs:Nat→Int} {nt:Nat→Nat} {ct:Nat→Nat→Addr} {F:Nat→List Ft} {fa:Nat→Nat→Addr}:∀ i,i < 6→NotT (eoF pvs cs nt ct F fa i) :=
 all6 (notT_lst _) (notT_lst _) (notT_lst _) (notT_lst _) (notT_lst _) (notT_lst _)
theorem eo_c {pvs:Nat→V} {cs:Nat→Int} {nt:Nat→Nat} {ct:Nat→Nat→Addr} {F:Nat→List Ft} {fa:Nat→Nat→Addr} {s:Nat} (h:s < 2):eoF pvs cs nt ct F fa (2+s)=.lst (tabR (nt s) (ct s)):=by
 match s,h with
 | 0,_=>rfl
 | 1,_=>rfl
 | s+2,h=>omega
theorem eo_f {pvs:Nat→V} {cs:Nat→Int} {nt:Nat→Nat} {ct:Nat→Nat→Addr} {F:Nat→List Ft} {fa:Nat→Nat→Addr} {s:Nat} (h:s < 2):eoF pvs cs nt ct F fa (4+s)=.lst (tabR (F s).length (fa s)):=by
 match s,h with
 | 0,_=>rfl
 | 1,_=>rfl
 | s+2,h=>omega
theorem eo_setc {pvs:Nat→V} {cs:Nat→Int} {nt:Nat→Nat} {ct:Nat→Nat→Addr} {F:Nat→List Ft} {fa:Nat→Nat→Addr} {s k:Nat} {c':Nat→Addr} (h:s < 2):∀ i,i < 6→eoF pvs cs (at2 nt s k) (at2 ct s c') F fa i=at2 (eoF pvs cs nt ct F fa) (2+s) (.lst (tabR k c')) i:=by
 match s,h with
 | 0,_=>exact all6 rfl rfl rfl rfl rfl rfl
 | 1,_=>exact all6 rfl rfl rfl rfl rfl rfl
 | s+2,h=>omega
theorem eo_setf {pvs:Nat→V} {cs:Nat→Int} {nt:Nat→Nat} {ct:Nat→Nat→Addr} {F:Nat→List Ft} {fa:Nat→Nat→Addr} {s:Nat} {F':List Ft} {c':Nat→Addr} (h:s < 2):∀ i,i < 6→eoF pvs cs nt ct (at2 F s F') (at2 fa s c') i=at2 (eoF pvs cs nt ct F fa) (4+s) (.lst (tabR F'.length c')) i:=by
 match s,h with
 | 0,_=>exact all6 rfl rfl rfl rfl rfl rfl
 | 1,_=>exact all6 rfl rfl rfl rfl rfl rfl
 | s+2,h=>omega
def CameAt (B:Hp) (a:Addr) (rs:List Rw):Prop:=∃ cas:Nat→Addr,B a=some (.lst (tabR rs.length cas))∧∀ y r,rs[y]?=some r→B (cas y)=some (.lst (tabI 24 r.f))∧GoodRw r
theorem CameAt.same {B B':Hp} {a:Addr} {rs:List Rw} (h:CameAt B a rs) (s:Same B B'):CameAt B' a rs:=by
 obtain ⟨cas,h1,h2⟩:=h
 exact ⟨cas,s _ _ h1,fun y r hr=>⟨s _ _ (h2 y r hr).1,(h2 y r hr).2⟩⟩
theorem came_is {B H:Hp} {l:Addr} {n:Nat} {ct:Nat→Addr} {rs:Nat→List Rw} (hl:H l=some (.lst (tabR n ct))) (hc:∀ j,j < n→CameAt B (ct j) (rs j)) (s:Same B H) (hlen:∀ j,(rs j).length≤1000):IsCame H l (xssOf rs n):=by
 refine ⟨ct,by rw [xss_len];exact hl,fun k xs hk=>?_⟩
 have hkn:k < n:=by rw [← xss_len rs n];exact (List.getElem?_eq_some_iff.mp hk).1
 rw [xss_get hkn] at hk
 cases hk
 obtain ⟨cas,h1,h2⟩:=hc k hkn
 refine ⟨⟨cas,by rw [List.length_map];exact s _ _ h1,fun j x hx=>?_⟩,by rw [List.length_map];exact hlen k⟩
 rw [List.getElem?_map] at hx
 cases e:(rs k)[j]? with
 | none=>rw [e] at hx;cases hx
 | some r =>
  rw [e] at hx
  cases hx
  obtain ⟨g1,g2⟩:=h2 j r e
  refine ⟨s _ _ g1,g2.c,fun z=>?_,fun z=>?_⟩
  ·have:=g2.m
   rw [if_pos (show r.rd=true from z)] at this
   exact ⟨_,this.2.2⟩
  ·have:=g2.m
   rw [if_neg (by rw [show r.rd=false from z];decide)] at this
   exact this
theorem fc_of {K:PySem.W.Frag} {H:Hp} {a:Addr} {fs:Ft} (h:IsFt K H a fs):IsFc K H a (fs.map fun d=>d.2.length):=by
 obtain ⟨fas,tas,h1,h2⟩:=h
 refine ⟨fas,by rw [List.length_map];exact h1,fun k c hc=>?_⟩
 rw [List.getElem?_map] at hc
 cases e:fs[k]? with
 | none=>rw [e] at hc;cases hc
 | some d =>
  rw [e] at hc
  cases hc
  obtain ⟨g1,tt,g2,_⟩:=h2 k d e
  exact ⟨d.1,tas k,_,g1,g2,tab_len _ _⟩
theorem fts_is {K:PySem.W.Frag} {B H:Hp} {l:Addr} {F:List Ft} {fa:Nat→Addr} (hl:H l=some (.lst (tabR F.length fa))) (hf:∀ g fs,F[g]?=some fs→IsFt K B (fa g) fs) (s:Same B H) (h3:∀ fs ∈ F,fs.length≤3):IsFts K H l (cssOf F):=by
 refine ⟨fa,by unfold cssOf;rw [List.length_map];exact hl,fun k cs hk=>?_⟩
 unfold cssOf at hk
 rw [List.getElem?_map] at hk
 cases e:F[k]? with
 | none=>rw [e] at hk;cases hk
 | some fs =>
  rw [e] at hk
  cases hk
  exact ⟨fc_of ((hf k fs e).same s),by rw [List.length_map];exact h3 fs (List.mem_of_getElem? e)⟩
def hide2 (H:Hp) (p s:Addr):Hp:=fun a=>if a=p∨a=s then none else H a
theorem hide2_same {H:Hp} {p s:Addr}:Same (hide2 H p s) H:=fun a o e=>by
 have e:(if a=p∨a=s then none else H a)=some o:=e
 split at e
 ·cases e
 ·exact e
theorem hide2_get {H:Hp} {p s a:Addr} (h1:a≠p) (h2:a≠s):hide2 H p s a=H a:=if_neg fun z=>z.elim h1 h2
theorem hide2_sub {B H:Hp} {p s:Addr} (h:Same B H) (hp:B p=none) (hs:B s=none):Same B (hide2 H p s):=fun a o e=>by
 rw [hide2_get (fun z=>by rw [z,hp] at e;cases e) (fun z=>by rw [z,hs] at e;cases e)]
 exact h _ _ e
theorem fitN_app {F:List Ft} {fs:Ft} {k:Nat} (h:k < F.length):fitN (cssOf (F ++ [fs])) k=fitN (cssOf F) k:=by
 unfold fitN cssOf
 rw [List.map_append,List.getElem?_append_left (by rw [List.length_map];exact h)]
theorem fitN_last {F:List Ft} {fs:Ft} (h:Fit fs):fitN (cssOf (F ++ [fs])) F.length=true:=by
 refine (fitN_of (fs:=fs) ?_).mpr h
 rw [List.getElem?_append_right (Nat.le_refl _),Nat.sub_self];rfl
def Brk (F:List Ft) (lo:Nat):Prop:=∃ p,p+lo < F.length∧∀ j,j≤lo→fitN (cssOf F) (p+j)=false
theorem Brk.app {F:List Ft} {lo:Nat} {fs:Ft} (h:Brk F lo):Brk (F ++ [fs]) lo:=by
 obtain ⟨p,h1,h2⟩:=h
 exact ⟨p,by rw [List.length_append];omega,fun j hj=>by rw [fitN_app (by omega)];exact h2 j hj⟩
def Kp (F:List Ft) (lo:Nat):Prop:=NoBr (fitN (cssOf F)) F.length lo
theorem Kp.no {F:List Ft} {lo:Nat} (h:Kp F lo) (b:Brk F lo):False:=by
 obtain ⟨p,h1,h2⟩:=b
 obtain ⟨j,hj,e⟩:=h p h1
 rw [h2 j hj] at e;cases e
theorem Kp.app {F:List Ft} {lo:Nat} {fs:Ft} (h:Kp F lo) (hf:lo≤F.length→(∀ g fs',F[g]?=some fs'→F.length - lo≤g→¬ Fit fs')→Fit fs):Kp (F ++ [fs]) lo:=by
 intro p hp
 rw [List.length_append] at hp
 have hp:p+lo < F.length+1:=hp
 by_cases z:p+lo < F.length
 ·obtain ⟨j,hj,e⟩:=h p z
  exact ⟨j,hj,by rw [fitN_app (by omega)];exact e⟩
 ·have e:p+lo=F.length:=by omega
  by_cases y:∃ j,j < lo∧fitN (cssOf F) (p+j)=true
  ·obtain ⟨j,hj,e2⟩:=y
   exact ⟨j,by omega,by rw [fitN_app (by omega)];exact e2⟩
  ·refine ⟨lo,Nat.le_refl _,?_⟩
   rw [e]
   refine fitN_last (hf (by omega) fun g fs' hg hge w=>y ⟨g - p,?_,?_⟩)
   ·have:=(List.getElem?_eq_some_iff.mp hg).1;omega
   ·rw [show p+(g - p)=g by omega];exact (fitN_of hg).mpr w
structure Fix (K:PySem.W.Frag) (B:Hp) (sc nl ma eL cmL ftL cL:Addr) (ns:List Int) (n0 n1 n2 n3 n4 n5 a b:Int) (x d came fts:Nat→Addr):Prop where
 sc:SqL K B sc (ns.map V.int)
 nl:B nl=some (.lst [.int n0,.int n1,.int n2,.int n3,.int n4,.int n5])
 ma:B ma=some (.tup [.int a,.int b])
 eL:B eL=some (.lst [.ref (x 0),.ref (x 1)])
 cmL:B cmL=some (.lst [.ref (came 0),.ref (came 1)])
 ftL:B ftL=some (.lst [.ref (fts 0),.ref (fts 1)])
 cL:B cL=some (.lst [.ref (d 0),.ref (d 1)])
theorem Fix.same {K:PySem.W.Frag} {B B':Hp} {sc nl ma eL cmL ftL cL:Addr} {ns:List Int} {n0 n1 n2 n3 n4 n5 a b:Int} {x d came fts:Nat→Addr} (h:Fix K B sc nl ma eL cmL ftL cL ns n0 n1 n2 n3 n4 n5 a b x d came fts) (s:Same B B'):Fix K B' sc nl ma eL cmL ftL cL ns n0 n1 n2 n3 n4 n5 a b x d came fts :=
 ⟨s.seq h.sc,s _ _ h.nl,s _ _ h.ma,s _ _ h.eL,s _ _ h.cmL,s _ _ h.ftL,s _ _ h.cL⟩
structure Ad34 (K:PySem.W.Frag) (B:Hp) (lo:Nat) (kept:Prop) (L:Nat→Lk) (rows:Nat→Nat→List Rw) (pvs:Nat→V) (cs:Nat→Int) (nt:Nat→Nat) (ct:Nat→Nat→Addr) (F:Nat→List Ft) (fa:Nat→Nat→Addr):Prop where
 c:∀ s,s < 2→∀ j,j < nt s→CameAt B (ct s j) (rows s j)
 f:∀ s,s < 2→∀ g fs,(F s)[g]?=some fs→IsFt K B (fa s g) fs
 p:∀ s,s < 2→PairV B (pvs s) (L s).p
 s0:∀ s,s < 2→0≤cs s
 sl:∀ s,s < 2→cs s≠0→Brk (F (1 - s)) lo
 kp:kept→∀ s,s < 2→Kp (F s) lo
theorem Ad34.same {K:PySem.W.Frag} {B B':Hp} {lo:Nat} {kept:Prop} {L:Nat→Lk} {rows:Nat→Nat→List Rw} {pvs:Nat→V} {cs:Nat→Int} {nt:Nat→Nat} {ct:Nat→Nat→Addr} {F:Nat→List Ft} {fa:Nat→Nat→Addr} (h:Ad34 K B lo kept L rows pvs cs nt ct F fa) (s:Same B B'):Ad34 K B' lo kept L rows pvs cs nt ct F fa :=
 ⟨fun i hi j hj=>(h.c i hi j hj).same s,fun i hi g fs e=>(h.f i hi g fs e).same s,fun i hi=>(h.p i hi).mono fun a xs e=>s _ _ e,h.s0,h.sl,h.kp⟩
theorem six_c {a b c d e f:Addr} {s:Nat} (h:s < 2):six a b c d e f (2+s)=two2 c d s:=by
 match s,h with
 | 0,_=>rfl
 | 1,_=>rfl
 | s+2,h=>omega
theorem six_f {a b c d e f:Addr} {s:Nat} (h:s < 2):six a b c d e f (4+s)=two2 e f s:=by
 match s,h with
 | 0,_=>rfl
 | 1,_=>rfl
 | s+2,h=>omega
theorem IsFt.lift {K:PySem.W.Frag} {B H:Hp} {a:Addr} {fs:Ft} (h:IsFt K H a fs):IsFt K (tupB B H) a fs:=by
 obtain ⟨fas,tas,h1,h2⟩:=h
 refine ⟨fas,tas,tupB_sqt h1,fun y d e=>⟨tupB_sqt (h2 y d e).1,?_⟩⟩
 obtain ⟨ts,g1,g2⟩:=(h2 y d e).2
 exact ⟨ts,tupB_sqt g1,fun y q e=>tupB_sqt (g2 y q e)⟩
end
end K34
namespace K34
open PySem L2 PyProof.Rows
section
variable {P:Program} {w:World} {K:PySem.W.Frag} {mg:Str→Option Value} {base:Heap} {t:Ad}
def sp__law_numbers:Sp:=fun vs H Q _=>∃ (c:Int) (m:Nat),vs=[.int c,.int (m:Int)]∧m≤100∧∀ (r:Addr) (H':Hp) (ns:List Int),Same H H'→H r=none→H' r=some (.lst (ns.map V.int))→ns.length=m→(∀ n ∈ ns,0≤n)→Q (.ref r) H'
theorem sc__law_numbers:FnScope ["cell","many","told","left","k","stir"] ["cell","many"] (defScope s__law_numbers):=⟨rfl,rfl,rfl,by decide +kernel,rfl,by decide +kernel,by decide +kernel⟩
theorem ok__law_numbers (F:Site K mg "_law_numbers" s__law_numbers) (T:Txt K mg t):Def P w K mg base 1 "_law_numbers" ["cell","many"] sp__law_numbers:=by
 refine F.def sc__law_numbers (fun _ _ _ _ _ _ us hl=>match us,hl with | [_,_],_=>rfl) (fun vs H Q E h=>?_) (fun f cdv A outer s H vs Q E hr h=>?_)
 ·obtain ⟨c,m,rfl,_⟩:=h
  rfl
 ·obtain ⟨c,m,rfl,hm,q⟩:=h
  refine ⟨_,pss_cons (ps_set (i:=2) sc__law_numbers.nd rfl (Or.inl rfl) (pe_lst pa_nil))
   (pss_cons (ps_set (i:=3) sc__law_numbers.nd rfl (Or.inl rfl) (pv 0))
   (pss_cons (PS.nox (ps_for PassesOwn.never rfl (pi_range1 (by rfl) T.n_range (pa_cons (pv 1) pa_nil)) (pg_name (i:=4) sc__law_numbers.nd rfl (Or.inl rfl))
    (pss_one (ps_if (pt_cmpR op_ge (pv 3) (pe_op op_pow pe_int pe_int) (nomark _))
     (pss_cons (ps_expr (pe_bmK K PySem.F.plainAttrs_list PySem.F.slot_list_append PySem.F.type_list_append mt_append (pv 2) (pa_cons (pe_op op_mod (pv 3) pe_int) pa_nil)))
     (pss_one (ps_set (i:=3) sc__law_numbers.nd rfl (Or.inl rfl) (pe_op op_fdiv (pv 3) pe_int))))
     (pss_cons (ps_set (i:=5) sc__law_numbers.nd rfl (Or.inl rfl) (pe_op op_mod (pe_op op_mul (pe_op op_add (pe_op op_add (pe_op op_mod (pv 0) pe_int) (pe_op op_mul pe_int (pv 4))) pe_int) pe_int) pe_int))
     (pss_one (ps_expr (pe_bmK K PySem.F.plainAttrs_list PySem.F.slot_list_append PySem.F.type_list_append mt_append (pv 2) (pa_cons (pe_op op_fdiv (pe_op op_mod (pe_op op_mul (pv 5) (pv 5)) pe_int) pe_int) pa_nil)))))))))
   (pss_one (ps_ret (pv 2))))),?_⟩
  have hsz:(2000:Nat)≤sizeLine:=by decide
  refine ⟨by show 0≤sizeLine;decide,fun L hL=>?_⟩
  refine ⟨_,rfl,?_⟩
  refine ⟨_,rfl,(m:Int),rfl,by omega,by omega,?_⟩
  rw [Int.toNat_natCast]
  refine for_range (lo:=0) (n:=m) (fun i σ H2=>∃ (left:Int) (ns:List Int) (v4 v5:Option V),σ=[some (.int c),some (.int (m:Int)),some (.ref L),some (.int left),v4,v5]∧Same H H2∧H2 L=some (.lst (ns.map V.int))∧ns.length=i∧∀ n ∈ ns,0≤n)
   ⟨c,[],none,none,rfl,(Same.refl _).new hL,upd_same,rfl,fun n hn=>by cases hn⟩ ?_ ?_
  ·rintro i σ H2 hi ⟨left,ns,v4,v5,rfl,s2,h2,hl,hn⟩
   have push:∀ (x:Int),0≤x→(Same H (upd H2 L (.lst (ns.map V.int ++ [V.int x])))∧(upd H2 L (.lst (ns.map V.int ++ [V.int x]))) L=some (.lst ((ns ++ [x]).map V.int))∧(ns ++ [x]).length=i+1∧∀ n ∈ ns ++ [x],0≤n):=fun x hx=>⟨s2.put hL,by rw [upd_same,List.map_append];rfl,by rw [List.length_append,hl];rfl,fun n hn'=>by
    rcases List.mem_append.mp hn' with h | h
    ·exact hn n h
    ·rw [List.mem_singleton] at h;rw [h];exact hx⟩
   refine ⟨_,rfl,_,_,rfl,rfl,⟨by decide,by decide,by decide⟩,_,_,rfl,rfl,_,rfl,?_⟩
   refine ite2 (fun h=>?_) (fun h=>?_)
   ·refine ⟨_,rfl,.inl ⟨rfl,_,SqL.of h2⟩,_,rfl,_,_,rfl,rfl,(by show (0:Int) < 1000003;decide),L,_,_,rfl,rfl,h2,by rw [List.length_map];omega,?_⟩
    refine ⟨_,rfl,_,_,rfl,rfl,⟨by decide,by decide⟩,?_⟩
    exact ⟨_,_,_,_,rfl,push _ (Int.emod_nonneg _ (by decide))⟩
   ·refine ⟨_,rfl,_,_,rfl,rfl,(by show (0:Int) < 2147483647;decide),_,rfl,_,_,rfl,rfl,.inl ⟨by decide,by decide⟩,_,_,rfl,rfl,_,_,rfl,rfl,_,_,rfl,rfl,.inr ⟨by decide,by decide⟩,_,_,rfl,rfl,(by show (0:Int) < 2147483647;decide),?_⟩
    generalize hN:(c % 2147483647+7919 * (0+(i:Nat))+1) * 69621 % 2147483647=N
    have hN1:0≤N:=by rw [← hN];exact Int.emod_nonneg _ (by decide)
    have hN2:N < 2147483647:=by rw [← hN];exact Int.emod_lt_of_pos _ (by decide)
    refine ⟨_,rfl,.inl ⟨rfl,_,SqL.of h2⟩,_,rfl,_,rfl,_,_,rfl,rfl,.inl ⟨by omega,by omega⟩,_,_,rfl,rfl,(by show (0:Int) < 998244353;decide),_,_,rfl,rfl,⟨by decide,by decide⟩,L,_,_,rfl,rfl,h2,by rw [List.length_map];omega,?_⟩
    exact ⟨_,_,_,_,rfl,push _ (Int.ediv_nonneg (Int.emod_nonneg _ (by decide)) (by decide))⟩
  ·rintro σ H2 ⟨left,ns,v4,v5,rfl,s2,h2,hl,hn⟩
   exact ⟨_,rfl,q L H2 ns s2 hL h2 hl hn⟩
def sp__law_cell (K:PySem.W.Frag):Sp:=fun vs H Q _=>∃ (l:Addr) (ns:List Int) (k:Int),vs=[.ref l,.int k]∧SqL K H l (ns.map V.int)∧0≤k∧∀ c:Int,Q (.int c) H
theorem sc__law_cell:FnScope ["script","k"] ["script","k"] (defScope s__law_cell):=⟨rfl,rfl,rfl,by decide +kernel,rfl,by decide +kernel,by decide +kernel⟩
theorem ok__law_cell (F:Site K mg "_law_cell" s__law_cell) (T:Txt K mg t):Def P w K mg base 1 "_law_cell" ["script","k"] (sp__law_cell K):=by
 refine F.def sc__law_cell (fun _ _ _ _ _ _ us hl=>match us,hl with | [_,_],_=>rfl) (fun vs H Q E h=>?_) (fun f cdv A outer s H vs Q E hr h=>?_)
 ·obtain ⟨l,ns,k,rfl,_⟩:=h
  rfl
 ·obtain ⟨l,ns,k,rfl,hl,k0,q⟩:=h
  refine ⟨_,pss_cons (ps_if (pt_cmpR op_lt (pv 1) (pe_callB (call_lenK K) (by rfl) T.n_len boot_len (pa_cons (pv 0) pa_nil)) (nomark _))
    (pss_one (ps_ret (pe_ix (ix_listK K) (pv 0) (pv 1) (fun _ _=>rfl))))
    (pss_nil))
   (pss_one (ps_ret pe_int)),?_⟩
  refine ⟨_,rfl,_,rfl,l,_,rfl,.inl hl,_,_,rfl,rfl,_,rfl,?_⟩
  by_cases z:k < ((ns.map V.int).length:Nat)
  ·refine iteY z ?_
   rw [List.length_map] at z
   obtain ⟨j,rfl⟩:∃ j:Nat,k=j:=⟨k.toNat,by omega⟩
   have hj:j < ns.length:=by omega
   exact ⟨_,rfl,_,rfl,l,_,_,V.int ns[j],rfl,rfl,hl,atI_nat (by simp [hj]),q _⟩
  ·exact iteN z (q 0)
end
end K34
namespace K34
open PySem L2 PyProof.Rows
section
variable {P:Program} {w:World} {K:PySem.W.Frag} {mg:Str→Option Value} {base:Heap} {t:Ad}
theorem sc_law:FnScope ["script","numbers","measure","quiet","ticks","ends","pairs","came","fates","silent","coming","tick","cell","drawn","side","given","fate"] ["script"] (defScope s_law):=⟨rfl,rfl,rfl,by decide +kernel,rfl,by decide +kernel,by decide +kernel⟩
set_option maxHeartbeats 0 in
theorem law_fn {f:Addr} {fd fdi fdt fde:FuncData} (T:Txt K mg t) (F:Fun K "law" "law" s_law f fd) (D__law_cell:Def P w K mg base 1 "_law_cell" ["script","k"] (sp__law_cell K)) (D__law_numbers:Def P w K mg base 1 "_law_numbers" ["cell","many"] sp__law_numbers) (D__law_measure:Def P w K mg base 1 "_law_measure" ["number"] sp__law_measure) (D__law_fate:Def P w K mg base 2 "_law_fate" ["number","late"] (sp__law_fate K)) (D__law_dead:Def P w K mg base 1 "_law_dead" ["numbers","side","tick"] (sp__law_dead K)) (D__law_kept:Def P w K mg base 1 "_law_kept" ["fate","fates","measure","number"] (sp__law_kept K))
  (D__law_give:Def P w K mg base 2 "_law_give" ["coming","cell","fate","tick","births"] (sp__law_give K BvN)) (D__law_events_right:Def P w K mg base 12 "_law_events_right" ["events","side","pairs","silent","tick","came","fates","measure"] (sp__law_events_right K)) (D_is_shown:Def P w K mg base 10 "is_shown" ["came","quiet","first","last"] sp_is_shown) (D_keeps:Def P w K mg base 4 "keeps" ["fates","measure"] (sp_keeps K))
  (F_init:FnOk P w K mg base (CX1 P w) 4 t.init fdi ["self","measure","side"] (sp_init K t.LinkEnd)) (B_init:Binds K fdi ["self","measure","side"] []) (F_tick:FnOk P w K mg base (CX1 P w) 9 t.m_tick fdt ["self","cells"] (sp_tick t.LinkEnd)) (B_tick:Binds K fdt ["self","cells"] []) (F_events:FnOk P w K mg base (CX1 P w) 1 t.m_events fde ["self"] (sp_events t.LinkEnd)) (B_events:Binds K fde ["self"] []):FnOk P w K mg base (CX1 P w) 13 f fd ["script"] (spLaw K):=by
 refine F.ok1 sc_law (fun vs H Q E h=>?_) (fun f cdv A outer s H vs Q E hr h=>?_)
 ·obtain ⟨a,ns,rfl,_⟩:=h
  rfl
 ·obtain ⟨sc,ns,rfl,hS,hlen,q⟩:=h
  refine ⟨_,pss_cons (ps_set (i:=1) sc_law.nd rfl (Or.inl rfl) (pe_def (D__law_numbers.mono (by decide)) hr passN (pa_cons (pe_def (D__law_cell.mono (by decide)) hr passN (pa_cons (pv 0) (pa_cons pe_int pa_nil))) (pa_cons pe_int pa_nil))))
   (pss_cons (ps_set (i:=2) sc_law.nd rfl (Or.inl rfl) (pe_def (D__law_measure.mono (by decide)) hr passN (pa_cons (pe_ix (ix_listK K) (pv 1) pe_int (fun _ _=>rfl)) pa_nil)))
   (pss_cons (ps_set (i:=3) sc_law.nd rfl (Or.inl rfl) (pe_op op_add (pe_ix (ix_tupK K) (pv 2) pe_int (fun _ _=>rfl)) (pe_ix (ix_tupK K) (pv 2) pe_int (fun _ _=>rfl))))
   (pss_cons (ps_set (i:=4) sc_law.nd rfl (Or.inl rfl) (pe_op op_add pe_int (pe_callB (call_min2 rfl) (by rfl) T.n_min boot_min (pa_cons pe_int (pa_cons (pe_callB (call_lenK K) (by rfl) T.n_len boot_len (pa_cons (pv 0) pa_nil)) pa_nil)))))
   (pss_cons (ps_set (i:=5) sc_law.nd rfl (Or.inl rfl) (pe_lst (pa_cons (pe_make T.kLinkEnd (F_init.mono (by decide)) hr (by rfl) T.mLinkEnd B_init .nil passN (pa_cons (pv 2) (pa_cons pe_int pa_nil))) (pa_cons (pe_make T.kLinkEnd (F_init.mono (by decide)) hr (by rfl) T.mLinkEnd B_init .nil passN (pa_cons (pv 2) (pa_cons pe_int pa_nil))) pa_nil))))
   (pss_cons (ps_set (i:=6) sc_law.nd rfl (Or.inl rfl) (pe_lst (pa_cons pe_non (pa_cons pe_non pa_nil))))
   (pss_cons (ps_set (i:=7) sc_law.nd rfl (Or.inl rfl) (pe_lst (pa_cons (pe_lst pa_nil) (pa_cons (pe_lst pa_nil) pa_nil))))
   (pss_cons (ps_set (i:=8) sc_law.nd rfl (Or.inl rfl) (pe_lst (pa_cons (pe_lst pa_nil) (pa_cons (pe_lst pa_nil) pa_nil))))
   (pss_cons (ps_set (i:=9) sc_law.nd rfl (Or.inl rfl) (pe_lst (pa_cons pe_int (pa_cons pe_int pa_nil))))
   (pss_cons (ps_set (i:=10) sc_law.nd rfl (Or.inl rfl) (pe_lst (pa_cons (pe_lc rfl (Nc:=["k"]) (ix:=[none]) (cscope (defScope s_law) ["script","numbers","measure","quiet","ticks","ends","pairs","came","fates","silent","coming","tick","cell","drawn","side","given","fate"] rfl rfl (by decide +kernel)) (pi_range1 (by rfl) T.n_range (pa_cons (pe_op op_add (pv 4) pe_int) pa_nil)) (fun C fp s H=>⟨(pg_name (i:=0) (show (["k"]:List Str).Nodup by decide +kernel) rfl (Or.inl rfl)),pts_nil,(pe_lst pa_nil)⟩)) (pa_cons (pe_lc rfl (Nc:=["k"]) (ix:=[none]) (cscope (defScope s_law) ["script","numbers","measure","quiet","ticks","ends","pairs","came","fates","silent","coming","tick","cell","drawn","side","given","fate"] rfl rfl (by decide +kernel)) (pi_range1 (by rfl) T.n_range (pa_cons (pe_op op_add (pv 4) pe_int) pa_nil)) (fun C fp s H=>⟨(pg_name (i:=0) (show (["k"]:List Str).Nodup by decide +kernel) rfl (Or.inl rfl)),pts_nil,(pe_lst pa_nil)⟩)) pa_nil))))
   (pss_cons (PS.nox (ps_for PassesOwn.never rfl (pi_range1 (by rfl) T.n_range (pa_cons (pv 4) pa_nil)) (pg_name (i:=11) sc_law.nd rfl (Or.inl rfl))
    (pss_cons (ps_set (i:=12) sc_law.nd rfl (Or.inl rfl) (pe_op op_add (pe_def (D__law_cell.mono (by decide)) hr passN (pa_cons (pv 0) (pa_cons (pe_op op_add pe_int (pe_op op_mod (pv 11) (pe_callB (call_max2 rfl) (by rfl) T.n_max boot_max (pa_cons pe_int (pa_cons (pe_callB (call_lenK K) (by rfl) T.n_len boot_len (pa_cons (pv 0) pa_nil)) pa_nil))))) pa_nil))) (pe_op op_fdiv (pv 11) (pe_callB (call_max2 rfl) (by rfl) T.n_max boot_max (pa_cons pe_int (pa_cons (pe_callB (call_lenK K) (by rfl) T.n_len boot_len (pa_cons (pv 0) pa_nil)) pa_nil))))))
    (pss_cons (ps_set (i:=13) sc_law.nd rfl (Or.inl rfl) (pe_def (D__law_numbers.mono (by decide)) hr passN (pa_cons (pv 12) (pa_cons pe_int pa_nil))))
    (pss_one (ps_for PassesOwn.never rfl (pi_range1 (by rfl) T.n_range (pa_cons pe_int pa_nil)) (pg_name (i:=14) sc_law.nd rfl (Or.inl rfl))
     (pss_cons (ps_expr (pe_bmK K PySem.F.plainAttrs_list PySem.F.slot_list_append PySem.F.type_list_append mt_append (pe_ix (ix_listK K) (pv 7) (pv 14) (fun _ _=>rfl)) (pa_cons (pe_lc rfl (Nc:=["row"]) (ix:=[none]) (cscope (defScope s_law) ["script","numbers","measure","quiet","ticks","ends","pairs","came","fates","silent","coming","tick","cell","drawn","side","given","fate"] rfl rfl (by decide +kernel)) (pi_listK K (pe_ix (ix_listK K) (pe_ix (ix_listK K) (pv 10) (pv 14) (fun _ _=>rfl)) (pv 11) (fun _ _=>rfl))) (fun C fp s H=>⟨(pg_name (i:=0) (show (["row"]:List Str).Nodup by decide +kernel) rfl (Or.inl rfl)),pts_nil,(pe_ix (ix_tupK K) (pv 0) pe_int (fun _ _=>rfl))⟩)) pa_nil)))
     (pss_cons (ps_set (i:=15) sc_law.nd rfl (Or.inl rfl) (pe_meth (pe_ix (ix_listK K) (pv 5) (pv 14) (fun _ _=>rfl)) T.cLinkEnd T.me_tick (F_tick.mono (by decide)) hr B_tick .nil passN (pa_cons (pe_ix (ix_listK K) (pe_ix (ix_listK K) (pv 7) (pv 14) (fun _ _=>rfl)) (pv 11) (fun _ _=>rfl)) pa_nil)))
     (pss_cons (ps_if (pt_not (pt_val (pe_def (D__law_events_right.mono (by decide)) hr passN (pa_cons (pe_meth0 (pe_ix (ix_listK K) (pv 5) (pv 14) (fun _ _=>rfl)) T.cLinkEnd T.me_events (F_events.mono (by decide)) hr B_events .nil passN) (pa_cons (pv 14) (pa_cons (pv 6) (pa_cons (pv 9) (pa_cons (pv 11) (pa_cons (pv 7) (pa_cons (pv 8) (pa_cons (pv 2) pa_nil)))))))))))
      (pss_one (ps_ret pe_bl))
      (pss_nil))
     (pss_cons (ps_cut (ps_if (PW.pt (pw_and (pt_cmpR op_notN (pe_ix (ix_listK K) (pv 6) (pv 14) (fun _ _=>rfl)) pe_non (nomark _)) (pw_and1 (pt_val (pe_def (D_is_shown.mono (by decide)) hr passN (pa_cons (pe_ix (ix_listK K) (pv 7) (pv 14) (fun _ _=>rfl)) (pa_cons (pv 3) (pa_cons (pe_op op_add (pe_op op_sub (pv 11) (pv 3)) pe_int) (pa_cons (pv 11) pa_nil)))))))))
      (pss_one (ps_ret pe_bl))
      (pss_nil)))
     (pss_cons (ps_set (i:=16) sc_law.nd rfl (Or.inl rfl) (pe_def (D__law_fate.mono (by decide)) hr passN (pa_cons (pe_ix (ix_listK K) (pv 13) (pv 14) (fun _ _=>rfl)) (pa_cons (pe_ix (ix_tupK K) (pv 2) pe_int (fun _ _=>rfl)) pa_nil))))
     (pss_cons (ps_cut (ps_if (pt_val (pe_def (D__law_dead.mono (by decide)) hr passN (pa_cons (pv 1) (pa_cons (pv 14) (pa_cons (pv 11) pa_nil)))))
      (pss_one (ps_set (i:=16) sc_law.nd rfl (Or.inl rfl) (pe_tup pa_nil)))
      (pss_nil)))
     (pss_cons (ps_cut (ps_if (pt_cmpR op_eq (pe_op op_mod (pe_ix (ix_listK K) (pv 1) pe_int (fun _ _=>rfl)) pe_int) pe_int (nomark _))
      (pss_one (ps_set (i:=16) sc_law.nd rfl (Or.inl rfl) (pe_def (D__law_kept.mono (by decide)) hr passN (pa_cons (pv 16) (pa_cons (pe_ix (ix_listK K) (pv 8) (pv 14) (fun _ _=>rfl)) (pa_cons (pv 2) (pa_cons (pe_ix (ix_listK K) (pv 13) (pv 14) (fun _ _=>rfl)) pa_nil)))))))
      (pss_nil)))
     (pss_cons (ps_expr (pe_bmK K PySem.F.plainAttrs_list PySem.F.slot_list_append PySem.F.type_list_append mt_append (pe_ix (ix_listK K) (pv 8) (pv 14) (fun _ _=>rfl)) (pa_cons (pv 16) pa_nil)))
     (pss_one (ps_expr (pe_def (D__law_give.mono (by decide)) hr passN (pa_cons (pe_ix (ix_listK K) (pv 10) (pe_op op_sub pe_int (pv 14)) (fun _ _=>rfl)) (pa_cons (pv 15) (pa_cons (pv 16) (pa_cons (pv 11) (pa_cons pe_non pa_nil))))))))))))))))))))))
   (pss_cons (PS.nox (ps_for PassesOwn.never rfl (pi_range1 (by rfl) T.n_range (pa_cons pe_int pa_nil)) (pg_name (i:=14) sc_law.nd rfl (Or.inl rfl))
    (pss_one (ps_if (PW.pt (pw_and (pt_cmpR op_gt (pe_ix (ix_listK K) (pv 9) (pv 14) (fun _ _=>rfl)) pe_int (nomark _)) (pw_and1 (pt_val (pe_def (D_keeps.mono (by decide)) hr passN (pa_cons (pe_ix (ix_listK K) (pv 8) (pe_op op_sub pe_int (pv 14)) (fun _ _=>rfl)) (pa_cons (pv 2) pa_nil)))))))
     (pss_one (ps_ret pe_bl))
     (pss_nil)))))
   (pss_one (ps_ret (pe_or (pe_cmpR op_ne (pe_op op_mod (pe_ix (ix_listK K) (pv 1) pe_int (fun _ _=>rfl)) pe_int) pe_int (nomark _)) (pe_one (pe_and (pe_cmpR (op_eqLK K (hu16 hr)) (pv 9) (pe_lst (pa_cons pe_int (pa_cons pe_int pa_nil))) (nomark _)) (pe_and (pe_def (D_keeps.mono (by decide)) hr passN (pa_cons (pe_ix (ix_listK K) (pv 8) pe_int (fun _ _=>rfl)) (pa_cons (pv 2) pa_nil))) (pe_one (pe_def (D_keeps.mono (by decide)) hr passN (pa_cons (pe_ix (ix_listK K) (pv 8) pe_int (fun _ _=>rfl)) (pa_cons (pv 2) pa_nil))))))))))))))))))))),?_⟩
  have hsz:(1000001:Nat)≤sizeLine:=by decide
  refine ⟨_,rfl,sc,ns,0,rfl,hS,by decide,fun c=>?_⟩
  refine ⟨c,6,rfl,by decide,fun nl H1 ns1 s1 nn1 e1 hl1 hn1=>?_⟩
  obtain ⟨n0,n1,n2,n3,n4,n5,rfl⟩:∃ n0 n1 n2 n3 n4 n5,ns1=[n0,n1,n2,n3,n4,n5]:=by
   match ns1,hl1 with
   | [n0,n1,n2,n3,n4,n5],_=>exact ⟨n0,n1,n2,n3,n4,n5,rfl⟩
  refine ⟨_,rfl,nl,_,_,_,rfl,rfl,SqL.of e1,rfl,n0,rfl,hn1 n0 List.mem_cons_self,fun ma a b hm hma=>?_⟩
  have s2:Same H1 (upd H1 ma (.tup [.int a,.int b])):=(Same.refl _).new hma
  have e3:(upd H1 ma (.tup [.int a,.int b])) ma=some (.tup [.int a,.int b]):=upd_same
  have s03:=s1.trans s2
  have en3:=s2 _ _ e1
  generalize upd H1 ma (.tup [.int a,.int b])=H3 at *
  have ha1:1≤a∧a≤6:=hm.1
  have hb1:0≤b∧b≤4:=hm.2
  have hq1:1≤a+b:=by omega
  obtain ⟨lo,hlo⟩:∃ lo:Nat,b=(lo:Int):=⟨b.toNat,by omega⟩
  refine ⟨_,rfl,ma,_,_,_,rfl,rfl,SqT.of e3,rfl,_,rfl,ma,_,_,_,rfl,rfl,SqT.of e3,rfl,_,_,rfl,rfl,?_⟩
  refine ⟨_,rfl,sc,_,rfl,.inl (s03.seq hS),_,_,rfl,_,_,rfl,rfl,?_⟩
  obtain ⟨tk,htk,htk2⟩:∃ tk:Nat,(20:Int)+(if ((ns.map V.int).length:Int) < 24 then ((ns.map V.int).length:Int) else 24)=(tk:Int)∧tk≤62:=by
   by_cases z:((ns.map V.int).length:Int) < 24
   ·rw [if_pos z]
    exact ⟨20+(ns.map V.int).length,by omega,by omega⟩
   ·rw [if_neg z]
    exact ⟨44,rfl,by decide⟩
  dsimp only
  rw [htk]
  refine ⟨_,rfl,fun x0 dx0 hx0 hdx0 nx0=>?_⟩
  refine ⟨x0,dx0,ma,a,b,0,rfl,upd_same,SqT.of (by rw [upd_ne (ne_of_none e3 hx0),upd_ne (ne_of_none e3 hdx0)];exact e3),hm,fun t0 p0 H4 fr4 g4 nt0 np0 lk0=>⟨rfl,?_⟩⟩
  have s4:Same H3 H4:=fun y o e=>fr4 y o (ne_of_none e hx0) (by rw [upd_ne (ne_of_none e hx0),upd_ne (ne_of_none e hdx0)];exact e)
  have nt0':H3 t0=none:=by
   rw [upd_ne (Ne.symm lk0.xt)] at nt0
   by_cases z:t0=dx0
   ·rw [z];exact hdx0
   ·rw [upd_ne z] at nt0;exact nt0
  have np0':H3 p0=none:=by
   rw [upd_ne (Ne.symm lk0.xp)] at np0
   by_cases z:p0=dx0
   ·rw [z];exact hdx0
   ·rw [upd_ne z] at np0;exact np0
  have e4:=s4 _ _ e3
  refine ⟨_,rfl,fun x1 dx1 hx1 hdx1 nx1=>?_⟩
  refine ⟨x1,dx1,ma,a,b,1,rfl,upd_same,SqT.of (by rw [upd_ne (ne_of_none e4 hx1),upd_ne (ne_of_none e4 hdx1)];exact e4),hm,fun t1 p1 H5 fr5 g5 nt1 np1 lk1=>⟨rfl,?_⟩⟩
  have s5:Same H4 H5:=fun y o e=>fr5 y o (ne_of_none e hx1) (by rw [upd_ne (ne_of_none e hx1),upd_ne (ne_of_none e hdx1)];exact e)
  have nt1':H4 t1=none:=by
   rw [upd_ne (Ne.symm lk1.xt)] at nt1
   by_cases z:t1=dx1
   ·rw [z];exact hdx1
   ·rw [upd_ne z] at nt1;exact nt1
  have np1':H4 p1=none:=by
   rw [upd_ne (Ne.symm lk1.xp)] at np1
   by_cases z:p1=dx1
   ·rw [z];exact hdx1
   ·rw [upd_ne z] at np1;exact np1
  have lk05:=lk0.same s5
  refine ⟨by show 2≤sizeLine;decide,fun eL heL=>?_⟩
  have s6:Same H5 (upd H5 eL (.lst [.ref x0,.ref x1])):=(Same.refl _).new heL
  have eL6:(upd H5 eL (.lst [.ref x0,.ref x1])) eL=some (.lst [.ref x0,.ref x1]):=upd_same
  generalize upd H5 eL (.lst [.ref x0,.ref x1])=H6 at *
  refine ⟨by show 2≤sizeLine;decide,fun PP hPP=>?_⟩
  have s7:Same H6 (upd H6 PP (.lst [.non,.non])):=(Same.refl _).new hPP
  have e7:(upd H6 PP (.lst [.non,.non])) PP=some (.lst [.non,.non]):=upd_same
  generalize upd H6 PP (.lst [.non,.non])=H7 at *
  refine ⟨by show 0≤sizeLine;decide,fun c0 hc0=>?_⟩
  have s8:Same H7 (upd H7 c0 (.lst [])):=(Same.refl _).new hc0
  have e8:(upd H7 c0 (.lst [])) c0=some (.lst []):=upd_same
  generalize upd H7 c0 (.lst [])=H8 at *
  refine ⟨by show 0≤sizeLine;decide,fun c1 hc1=>?_⟩
  have s9:Same H8 (upd H8 c1 (.lst [])):=(Same.refl _).new hc1
  have e9:(upd H8 c1 (.lst [])) c1=some (.lst []):=upd_same
  generalize upd H8 c1 (.lst [])=H9 at *
  refine ⟨by show 2≤sizeLine;decide,fun cmL hcmL=>?_⟩
  have sa:Same H9 (upd H9 cmL (.lst [.ref c0,.ref c1])):=(Same.refl _).new hcmL
  have ea:(upd H9 cmL (.lst [.ref c0,.ref c1])) cmL=some (.lst [.ref c0,.ref c1]):=upd_same
  generalize upd H9 cmL (.lst [.ref c0,.ref c1])=Ha at *
  refine ⟨by show 0≤sizeLine;decide,fun f0 hf0=>?_⟩
  have sb:Same Ha (upd Ha f0 (.lst [])):=(Same.refl _).new hf0
  have eb:(upd Ha f0 (.lst [])) f0=some (.lst []):=upd_same
  generalize upd Ha f0 (.lst [])=Hb at *
  refine ⟨by show 0≤sizeLine;decide,fun f1 hf1=>?_⟩
  have sc':Same Hb (upd Hb f1 (.lst [])):=(Same.refl _).new hf1
  have ec:(upd Hb f1 (.lst [])) f1=some (.lst []):=upd_same
  generalize upd Hb f1 (.lst [])=Hc at *
  refine ⟨by show 2≤sizeLine;decide,fun ftL hftL=>?_⟩
  have sd':Same Hc (upd Hc ftL (.lst [.ref f0,.ref f1])):=(Same.refl _).new hftL
  have ed:(upd Hc ftL (.lst [.ref f0,.ref f1])) ftL=some (.lst [.ref f0,.ref f1]):=upd_same
  generalize upd Hc ftL (.lst [.ref f0,.ref f1])=Hd at *
  refine ⟨by show 2≤sizeLine;decide,fun SS hSS=>?_⟩
  have se:Same Hd (upd Hd SS (.lst [.int 0,.int 0])):=(Same.refl _).new hSS
  have ee:(upd Hd SS (.lst [.int 0,.int 0])) SS=some (.lst [.int 0,.int 0]):=upd_same
  generalize upd Hd SS (.lst [.int 0,.int 0])=He at *
  refine ⟨_,rfl,_,_,rfl,rfl,(tk:Int)+7,rfl,by omega,by omega,fun D0 hD0=>?_⟩
  rw [show ((tk:Int)+7).toNat=tk+7 by omega]
  refine lc_range (lo:=0) (n:=tk+7) (fun i σ H'=>(∃ v,σ=[v])∧∃ sl,Emp He H' D0 sl i) ⟨⟨none,rfl⟩,fun _=>0,(Same.refl _).new hD0,hD0,upd_same,fun j hj=>absurd hj (Nat.not_lt_zero _),fun j hj=>absurd hj (Nat.not_lt_zero _),fun j hj=>absurd hj (Nat.not_lt_zero _),fun i j hi=>absurd hi (Nat.not_lt_zero _)⟩ ?_ ?_
  ·rintro i σ H' N hN hi ⟨⟨v,rfl⟩,sl,he⟩
   refine turn_do ?_
   refine ⟨by show 0≤sizeLine;decide,fun p hp=>⟨_,by rw [upd_ne (ne_of_none he.at_ hp)];exact he.at_,by rw [tab_len];omega,hN _ _ ⟨⟨_,rfl⟩,_,he.step hp⟩⟩⟩
  rintro σ H10 ⟨⟨v,rfl⟩,sl0,he0⟩
  refine ⟨_,rfl,_,_,rfl,rfl,(tk:Int)+7,rfl,by omega,by omega,fun D1 hD1=>?_⟩
  rw [show ((tk:Int)+7).toNat=tk+7 by omega]
  refine lc_range (lo:=0) (n:=tk+7) (fun i σ H'=>(∃ v,σ=[v])∧∃ sl,Emp H10 H' D1 sl i) ⟨⟨none,rfl⟩,fun _=>0,(Same.refl _).new hD1,hD1,upd_same,fun j hj=>absurd hj (Nat.not_lt_zero _),fun j hj=>absurd hj (Nat.not_lt_zero _),fun j hj=>absurd hj (Nat.not_lt_zero _),fun i j hi=>absurd hi (Nat.not_lt_zero _)⟩ ?_ ?_
  ·rintro i σ H' N hN hi ⟨⟨v,rfl⟩,sl,he⟩
   refine turn_do ?_
   refine ⟨by show 0≤sizeLine;decide,fun p hp=>⟨_,by rw [upd_ne (ne_of_none he.at_ hp)];exact he.at_,by rw [tab_len];omega,hN _ _ ⟨⟨_,rfl⟩,_,he.step hp⟩⟩⟩
  rintro σ H11 ⟨⟨v,rfl⟩,sl1,he1⟩
  refine ⟨by show 2≤sizeLine;decide,fun cL hcL=>?_⟩
  have s12:Same H11 (upd H11 cL (.lst [.ref D0,.ref D1])):=(Same.refl _).new hcL
  have cL12:(upd H11 cL (.lst [.ref D0,.ref D1])) cL=some (.lst [.ref D0,.ref D1]):=upd_same
  generalize upd H11 cL (.lst [.ref D0,.ref D1])=H12 at *
  have ne:∀ {G:Hp} {a b:Addr},G a≠none→G b=none→a≠b:=fun {G a b} h1 h2 z=>h1 (by rw [z];exact h2)
  have up:∀ {G G':Hp} {a:Addr},Same G G'→G a≠none→G' a≠none:=fun {G G' a} s h z=>h (s.free z)
  have sm:∀ {G:Hp} {a:Addr} {o:HO},G a=some o→G a≠none:=fun {G a o} e z=>by rw [e] at z;cases z
  have x05:=up s5 lk0.hx
  have t05:=up s5 lk0.ht
  have p05:=up s5 lk0.hp
  have al5:∀ a ∈ [x0,x1,t0,t1,p0,p1],H5 a≠none:=by
   intro a ha
   simp only [List.mem_cons,List.not_mem_nil,or_false] at ha
   rcases ha with rfl | rfl | rfl | rfl | rfl | rfl
   ·exact x05
   ·exact lk1.hx
   ·exact t05
   ·exact lk1.ht
   ·exact p05
   ·exact lk1.hp
  have s6e:Same H6 He:=s7.trans (s8.trans (s9.trans (sa.trans (sb.trans (sc'.trans (sd'.trans se))))))
  have al6:∀ a ∈ [x0,x1,t0,t1,p0,p1],H6 a≠none:=fun a ha=>up s6 (al5 a ha)
  have alg:∀ {G:Hp},Same H6 G→∀ a ∈ [x0,x1,t0,t1,p0,p1],G a≠none:=fun {G} s a ha=>up s (al6 a ha)
  have off:∀ {G:Hp} {b:Addr},(∀ a ∈ [x0,x1,t0,t1,p0,p1],G a≠none)→G b=none→b ∉ [x0,x1,t0,t1,p0,p1]:=fun {G b} h1 h2 hb=>h1 b hb h2
  have s610:Same H6 H10:=s6e.trans he0.sm
  have s611:Same H6 H11:=s610.trans he1.sm
  have sl10:∀ j,j < tk+7→H10 (sl0 j)≠none:=fun j hj=>sm (he0.em j hj)
  have s7e:Same H7 He:=s8.trans (s9.trans (sa.trans (sb.trans (sc'.trans (sd'.trans se)))))
  have s8e:Same H8 He:=s9.trans (sa.trans (sb.trans (sc'.trans (sd'.trans se))))
  have s9e:Same H9 He:=sa.trans (sb.trans (sc'.trans (sd'.trans se)))
  have sae:Same Ha He:=sb.trans (sc'.trans (sd'.trans se))
  have sbe:Same Hb He:=sc'.trans (sd'.trans se)
  have sce:Same Hc He:=sd'.trans se
  have exE:∀ i,i < 6→He (six PP SS c0 c1 f0 f1 i)=some (eoF (fun _=>.non) (fun _=>0) (fun _=>0) (fun _ _=>0) (fun _=>[]) (fun _ _=>0) i):=all6 (s7e _ _ e7) ee (s8e _ _ e8) (s9e _ _ e9) (sbe _ _ eb) (sce _ _ ec)
  have exN:∀ i,i < 6→H6 (six PP SS c0 c1 f0 f1 i)=none:=all6 hPP (((((((s7.trans s8).trans s9).trans sa).trans sb).trans sc').trans sd').free hSS) (s7.free hc0) ((s7.trans s8).free hc1) (((((s7.trans s8).trans s9).trans sa)).free hf0) ((((((s7.trans s8).trans s9).trans sa).trans sb)).free hf1)
  have nP0:=ne (G:=H7) (sm e7) hc0
  have nP1:=ne (G:=H8) (up s8 (sm e7)) hc1
  have nP2:=ne (G:=Ha) (up (s8.trans (s9.trans sa)) (sm e7)) hf0
  have nP3:=ne (G:=Hb) (up (s8.trans (s9.trans (sa.trans sb))) (sm e7)) hf1
  have nP4:=ne (G:=Hd) (up (s8.trans (s9.trans (sa.trans (sb.trans (sc'.trans sd'))))) (sm e7)) hSS
  have n01:=ne (G:=H8) (sm e8) hc1
  have n02:=ne (G:=Ha) (up (s9.trans sa) (sm e8)) hf0
  have n03:=ne (G:=Hb) (up (s9.trans (sa.trans sb)) (sm e8)) hf1
  have n04:=ne (G:=Hd) (up (s9.trans (sa.trans (sb.trans (sc'.trans sd')))) (sm e8)) hSS
  have n12:=ne (G:=Ha) (up sa (sm e9)) hf0
  have n13:=ne (G:=Hb) (up (sa.trans sb) (sm e9)) hf1
  have n14:=ne (G:=Hd) (up (sa.trans (sb.trans (sc'.trans sd'))) (sm e9)) hSS
  have n23:=ne (G:=Hb) (sm eb) hf1
  have n24:=ne (G:=Hd) (up (sc'.trans sd') (sm eb)) hSS
  have n34:=ne (G:=Hd) (up sd' (sm ec)) hSS
  have exI:∀ i j,i < 6→j < 6→six PP SS c0 c1 f0 f1 i=six PP SS c0 c1 f0 f1 j→i=j:=by
   have nd:[PP,SS,c0,c1,f0,f1].Nodup:=by
    simp only [List.nodup_cons,List.mem_cons,List.not_mem_nil,or_false,not_or,List.nodup_nil,and_true,not_false_eq_true]
    exact ⟨⟨nP4,nP0,nP1,nP2,nP3⟩,⟨Ne.symm n04,Ne.symm n14,Ne.symm n24,Ne.symm n34⟩,⟨n01,n02,n03⟩,⟨n12,n13⟩,n23⟩
   have get:∀ i,i < 6→[PP,SS,c0,c1,f0,f1][i]?=some (six PP SS c0 c1 f0 f1 i):=all6 rfl rfl rfl rfl rfl rfl
   intro i j hi hj e
   exact (List.getElem?_inj (show i < [PP,SS,c0,c1,f0,f1].length from hi) nd).mp (by rw [get i hi,get j hj,e])
  have ap:Apart (two2 x0 x1) (two2 t0 t1) (two2 p0 p1) (two2 sl0 sl1) (tk+7) 6 (six PP SS c0 c1 f0 f1):=by
   refine ⟨?_,fun j hj=>off (alg s6e) (he0.no j hj),fun j hj=>off (alg s610) (he1.no j hj),fun i j hi hj=>Ne.symm (ne (sl10 j hj) (he1.no i hi)),exI,fun i hi=>off al6 (exN i hi),fun i hi j hj=>ne (sm (exE i hi)) (he0.no j hj),fun i hi j hj=>ne (up he0.sm (sm (exE i hi))) (he1.no j hj)⟩
   show [x0,x1,t0,t1,p0,p1].Nodup
   simp only [List.nodup_cons,List.mem_cons,List.not_mem_nil,or_false,not_or,List.nodup_nil,and_true,not_false_eq_true]
   exact ⟨⟨ne lk0.hx hx1,lk0.xt,ne lk0.hx nt1',lk0.xp,ne lk0.hx np1'⟩,⟨Ne.symm (ne lk0.ht hx1),lk1.xt,Ne.symm (ne lk0.hp hx1),lk1.xp⟩,⟨ne lk0.ht nt1',lk0.ne,ne lk0.ht np1'⟩,⟨Ne.symm (ne lk0.hp nt1'),lk1.ne⟩,ne lk0.hp np1'⟩
  have zero:∀ {b:Addr},b ∉ [x0,x1,t0,t1,p0,p1]→(∀ j,j < tk+7→b≠sl0 j)→(∀ j,j < tk+7→b≠sl1 j)→(∀ i,i < 6→b≠six PP SS c0 c1 f0 f1 i)→rho0 (two2 x0 x1) (two2 t0 t1) (two2 p0 p1) (two2 sl0 sl1) (tk+7) 6 (six PP SS c0 c1 f0 f1) b=0:=fun {b} h1 h2 h3 h4=>rho_zero h1 h2 h3 h4
  have seT:Same He H12:=(he0.sm.trans he1.sm).trans s12
  have s6T:Same H6 H12:=s6e.trans seT
  have s5T:=s6.trans s6T
  have s4T:=s5.trans s5T
  have s3T:=s4.trans s4T
  have z6:∀ {b:Addr},b ∉ [x0,x1,t0,t1,p0,p1]→H6 b≠none→rho0 (two2 x0 x1) (two2 t0 t1) (two2 p0 p1) (two2 sl0 sl1) (tk+7) 6 (six PP SS c0 c1 f0 f1) b=0:=fun {b} hb h6=>zero hb (fun j hj=>ne (up s6e h6) (he0.no j hj)) (fun j hj=>ne (up s610 h6) (he1.no j hj)) (fun i hi=>ne h6 (exN i hi))
  have z3:∀ {b:Addr},H3 b≠none→rho0 (two2 x0 x1) (two2 t0 t1) (two2 p0 p1) (two2 sl0 sl1) (tk+7) 6 (six PP SS c0 c1 f0 f1) b=0:=fun {b} hb=>by
   have b4:=up s4 hb
   refine z6 (fun hm=>?_) (up s6 (up s5 b4))
   simp only [List.mem_cons,List.not_mem_nil,or_false] at hm
   rcases hm with z | z | z | z | z | z
   ·exact ne hb hx0 z
   ·exact ne b4 hx1 z
   ·exact ne hb nt0' z
   ·exact ne b4 nt1' z
   ·exact ne hb np0' z
   ·exact ne b4 np1' z
  have zE:∀ {b:Addr},H6 b=none→He b≠none→(∀ i,i < 6→b≠six PP SS c0 c1 f0 f1 i)→rho0 (two2 x0 x1) (two2 t0 t1) (two2 p0 p1) (two2 sl0 sl1) (tk+7) 6 (six PP SS c0 c1 f0 f1) b=0:=fun {b} h6 hE h4=>zero (off al6 h6) (fun j hj=>ne hE (he0.no j hj)) (fun j hj=>ne (up he0.sm hE) (he1.no j hj)) h4
  have lk012:=lk05.same s5T
  have D010:H10 D0≠none:=sm he0.at_
  have lk112:=lk1.same s5T
  have ex10:∀ i,i < 6→H10 (six PP SS c0 c1 f0 f1 i)≠none:=fun i hi=>up he0.sm (sm (exE i hi))
  have ex11:∀ i,i < 6→H11 (six PP SS c0 c1 f0 f1 i)≠none:=fun i hi=>up he1.sm (ex10 i hi)
  obtain ⟨B,st0,yes⟩:=St.start (Bv:=BvN) (C:=t.LinkEnd) (H:=H12) (n:=tk+7) (x:=two2 x0 x1) (t:=two2 t0 t1) (p:=two2 p0 p1) (d:=two2 D0 D1) (sl:=two2 sl0 sl1) (L:=two2 (newL (a+b) 0) (newL (a+b) 1)) (m:=6) (ex:=six PP SS c0 c1 f0 f1) (eo:=eoF (fun _=>.non) (fun _=>0) (fun _=>0) (fun _ _=>0) (fun _=>[]) (fun _ _=>0)) ap
   (two_all lk012 lk112) (two_all ((he1.sm.trans s12) _ _ he0.at_) (s12 _ _ he1.at_))
   (two_all (zero (off (alg s6e) hD0) (fun j hj=>Ne.symm (he0.nd j hj)) (fun j hj=>ne D010 (he1.no j hj)) (fun i hi=>Ne.symm (ne (sm (exE i hi)) hD0))) (zero (off (alg s610) hD1) (fun j hj=>Ne.symm (ne (sl10 j hj) hD1)) (fun j hj=>Ne.symm (he1.nd j hj)) (fun i hi=>Ne.symm (ne (ex10 i hi) hD1))))
   (two_all he0.inj he1.inj) (two_all (fun j hj=>(he1.sm.trans s12) _ _ (he0.em j hj)) (fun j hj=>s12 _ _ (he1.em j hj))) (fun i hi=>seT _ _ (exE i hi)) eo_notT
  have sl11:∀ j,j < tk+7→H11 (sl0 j)≠none:=fun j hj=>up he1.sm (sl10 j hj)
  have fx0:Fix K B sc nl ma eL cmL ftL cL ns n0 n1 n2 n3 n4 n5 a b (two2 x0 x1) (two2 D0 D1) (two2 c0 c1) (two2 f0 f1):=by
   refine ⟨?_,yes _ _ (z3 (sm en3)) (s3T _ _ en3),yes _ _ (z3 (sm e3)) (s3T _ _ e3),yes _ _ ?_ (s6T _ _ eL6),yes _ _ ?_ ((sae.trans seT) _ _ ea),yes _ _ ?_ ((se.trans seT) _ _ ed),yes _ _ ?_ cL12⟩
   ·have h3:=s03.seq hS
    rcases h3 with (h3 | ⟨u,h3⟩) | h3
    ·exact .inl (.inl (yes _ _ (z3 (sm h3)) (s3T _ _ h3)))
    ·exact .inl (.inr ⟨u,yes _ _ (z3 (sm h3)) (s3T _ _ h3)⟩)
    ·exact .inr h3
   ·exact z6 (off al5 heL) (sm eL6)
   ·exact zE (((s7.trans s8).trans s9).free hcmL) (up sae (sm ea)) (all6 (Ne.symm (ne (G:=H9) (up (s8.trans s9) (sm e7)) hcmL)) (ne (G:=Hd) (up (sb.trans (sc'.trans sd')) (sm ea)) hSS) (Ne.symm (ne (G:=H9) (up s9 (sm e8)) hcmL)) (Ne.symm (ne (G:=H9) (sm e9) hcmL)) (ne (G:=Ha) (sm ea) hf0) (ne (G:=Hb) (up sb (sm ea)) hf1))
   ·exact zE ((((((s7.trans s8).trans s9).trans sa).trans sb).trans sc').free hftL) (up se (sm ed)) (all6 (Ne.symm (ne (G:=Hc) (up (s8.trans (s9.trans (sa.trans (sb.trans sc')))) (sm e7)) hftL)) (ne (G:=Hd) (sm ed) hSS) (Ne.symm (ne (G:=Hc) (up (s9.trans (sa.trans (sb.trans sc'))) (sm e8)) hftL)) (Ne.symm (ne (G:=Hc) (up (sa.trans (sb.trans sc')) (sm e9)) hftL)) (Ne.symm (ne (G:=Hc) (up sc' (sm eb)) hftL)) (Ne.symm (ne (G:=Hc) (sm ec) hftL)))
   ·exact zero (off (alg s611) hcL) (fun j hj=>Ne.symm (ne (sl11 j hj) hcL)) (fun j hj=>Ne.symm (ne (G:=H11) (sm (he1.em j hj)) hcL)) (fun i hi=>Ne.symm (ne (ex11 i hi) hcL))
  have ad0:Ad34 K B lo (n4 % 4=1) (two2 (newL (a+b) 0) (newL (a+b) 1)) (fun _ _=>[]) (fun _=>.non) (fun _=>0) (fun _=>0) (fun _ _=>0) (fun _=>[]) (fun _ _=>0) :=
   ⟨(fun s hs j hj=>absurd hj (Nat.not_lt_zero _)),(fun s hs g fs h=>by cases h),two_all rfl rfl,fun s hs=>Int.le_refl _,fun s hs h=>absurd rfl h,fun _ s hs p hp=>absurd hp (Nat.not_lt_zero _)⟩
  have wv0:W34 a (two2 (newL (a+b) 0) (newL (a+b) 1)) (fun _=>-1) (fun _ _=>[]) (fun _=>[]):=W34.start (two_all rfl rfl)
  generalize rho0 (two2 x0 x1) (two2 t0 t1) (two2 p0 p1) (two2 sl0 sl1) (tk+7) 6 (six PP SS c0 c1 f0 f1)=ρ0 at *
  clear yes z3 zero z6 zE
  refine ⟨_,rfl,(tk:Int),rfl,by omega,by omega,?_⟩
  rw [Int.toNat_natCast]
  refine for_range (lo:=0) (n:=tk) (fun T σ H'=>∃ (B:Hp) (tA pA:Nat→Addr) (L:Nat→Lk) (last:Nat→Int) (rows:Nat→Nat→List Rw) (ρ:Addr→Nat) (pvs:Nat→V) (cs:Nat→Int) (ct:Nat→Nat→Addr) (F:Nat→List Ft) (fa:Nat→Nat→Addr) (v11 v12 v13 v14 v15 v16:Option V),σ=[some (.ref sc),some (.ref nl),some (.ref ma),some (.int (a+b)),some (.int (tk:Int)),some (.ref eL),some (.ref PP),some (.ref cmL),some (.ref ftL),some (.ref SS),some (.ref cL),v11,v12,v13,v14,v15,v16]∧Fix K B sc nl ma eL cmL ftL cL ns n0 n1 n2 n3 n4 n5 a b (two2 x0 x1) (two2 D0 D1) (two2 c0 c1) (two2 f0 f1)∧St BvN t.LinkEnd B H' (tk+7) (two2 x0 x1) tA pA (two2 D0 D1) (two2 sl0 sl1) L rows ρ 6 (six PP SS c0 c1 f0 f1) (eoF pvs cs (fun s=>(F s).length) ct F fa)∧(∀ s:Nat,s < 2→Sem (a+b) (s:Int) (T:Int) (L s) (last s))∧W34 a L last rows F∧Ad34 K B lo (n4 % 4=1) L rows pvs cs (fun s=>(F s).length) ct F fa∧RowsOk rows∧∀ s j,(rows s j).length≤3 * T)
   ⟨B,_,_,_,_,_,_,_,_,_,_,_,none,none,none,none,none,none,by rw [hlo];rfl,fx0,st0,two_all (q:=fun s=>Sem (a+b) (s:Int) ((0:Nat):Int) (two2 (newL (a+b) 0) (newL (a+b) 1) s) (-1)) (sem_new hq1) (sem_new hq1),wv0,ad0,(fun s j r hr=>by cases hr),fun s j=>Nat.le_refl _⟩ ?_ ?_
  ·rintro T σ H13 hT ⟨B,tA,pA,L,last,rows,ρ,pvs,cs,ct,F,fa,v11,v12,v13,v14,v15,v16,rfl,fx,st,sem,wv,ad,ro,rl⟩
   rw [show (0:Int)+(T:Nat)=(T:Int) by omega]
   have hsc:=st.sb.seq fx.sc
   have mx0:0 < (if ((ns.map V.int).length:Int) > 1 then ((ns.map V.int).length:Int) else 1):=by split <;> omega
   have mx1:(if ((ns.map V.int).length:Int) > 1 then ((ns.map V.int).length:Int) else 1) < 1073741824:=by rw [List.length_map];split <;> omega
   refine ⟨_,rfl,_,rfl,_,rfl,sc,_,rfl,.inl hsc,_,_,rfl,_,_,rfl,rfl,mx0,_,_,rfl,rfl,sc,ns,_,rfl,hsc,?_,fun c2=>?_⟩
   ·have:=Int.emod_nonneg (T:Int) (show (if ((ns.map V.int).length:Int) > 1 then ((ns.map V.int).length:Int) else 1)≠0 by omega)
    show 0≤1+(T:Int) % (if ((ns.map V.int).length:Int) > 1 then ((ns.map V.int).length:Int) else 1)
    omega
   refine ⟨_,rfl,_,rfl,sc,_,rfl,.inl hsc,_,_,rfl,_,_,rfl,rfl,⟨mx0,mx1⟩,_,_,rfl,rfl,?_⟩
   refine ⟨_,rfl,_,2,rfl,by decide,fun dl H14 ds s14 nd14 e14 hl14 hn14=>?_⟩
   obtain ⟨g0,g1,rfl⟩:∃ g0 g1,ds=[g0,g1]:=by
    match ds,hl14 with
    | [g0,g1],_=>exact ⟨g0,g1,rfl⟩
   have gn:∀ s,s < 2→0≤two2 g0 g1 s:=two_all (hn14 g0 List.mem_cons_self) (hn14 g1 (List.mem_cons_of_mem _ List.mem_cons_self))
   obtain ⟨st14,sB14⟩:=st.grow monoN s14 nd14 e14
   refine ⟨2,rfl,by decide,by decide,?_⟩
   generalize some (V.int (c2+(T:Int) / (if ((ns.map V.int).length:Int) > 1 then ((ns.map V.int).length:Int) else 1)))=v12
   refine for_range (lo:=0) (n:=2) (fun sd σ H'=>∃ (B:Hp) (tA pA:Nat→Addr) (L:Nat→Lk) (last:Nat→Int) (rows:Nat→Nat→List Rw) (ρ:Addr→Nat) (pvs:Nat→V) (cs:Nat→Int) (ct:Nat→Nat→Addr) (F:Nat→List Ft) (fa:Nat→Nat→Addr) (v14 v15 v16:Option V),σ=[some (.ref sc),some (.ref nl),some (.ref ma),some (.int (a+b)),some (.int (tk:Int)),some (.ref eL),some (.ref PP),some (.ref cmL),some (.ref ftL),some (.ref SS),some (.ref cL),some (.int (T:Int)),v12,some (.ref dl),v14,v15,v16]∧Fix K B sc nl ma eL cmL ftL cL ns n0 n1 n2 n3 n4 n5 a b (two2 x0 x1) (two2 D0 D1) (two2 c0 c1) (two2 f0 f1)∧B dl=some (.lst [.int g0,.int g1])∧St BvN t.LinkEnd B H' (tk+7) (two2 x0 x1) tA pA (two2 D0 D1) (two2 sl0 sl1) L rows ρ 6 (six PP SS c0 c1 f0 f1) (eoF pvs cs (fun s=>(F s).length) ct F fa)∧(∀ s:Nat,s < 2→Sem (a+b) (s:Int) ((if s < sd then T+1 else T:Nat):Int) (L s) (last s))∧W34 a L last rows F∧Ad34 K B lo (n4 % 4=1) L rows pvs cs (fun s=>(F s).length) ct F fa∧RowsOk rows∧(∀ s j,(rows s j).length≤3 * T+(if s=1∧0 < sd∨s=0∧1 < sd then 3 else 0)))
    ?_ ?_ ?_
   ·refine ⟨_,tA,pA,L,last,rows,ρ,pvs,cs,ct,F,fa,v14,v15,v16,rfl,fx.same sB14,upd_same,st14,fun s hs=>?_,wv,ad.same sB14,ro,fun s j=>?_⟩
    ·rw [if_neg (by omega)];exact sem s hs
    ·have:=rl s j;omega
   ·rintro sd σ H15 hsd ⟨B1,tA,pA,L,last,rows,ρ,pvs,cs,ct,F,fa,v14,v15,v16,rfl,fx,hdl,st,sem,wv,ad,ro,rl⟩
    rw [show (0:Int)+(sd:Nat)=(sd:Int) by omega]
    have hsem:=sem sd hsd
    rw [if_neg (by omega)] at hsem
    have hTn:T < tk+7:=by omega
    have h1s:1 - sd < 2:=by omega
    have hFT:(F sd).length=T:=by have:=wv.v5 sd hsd;rw [hsem.d] at this;omega
    have hFo:T≤(F (1 - sd)).length∧(F (1 - sd)).length≤T+1:=by
     have h1:=wv.v5 (1 - sd) h1s
     have h2:=(sem (1 - sd) h1s).d
     rw [h2] at h1
     split at h1 <;> omega
    have hdo:(L (1 - sd)).d≤(T:Int)+1:=by have:=wv.v5 (1 - sd) h1s;omega
    have cg:=st.cg sd hsd
    obtain ⟨ras,r1,r2⟩:=(cg.at_ T hTn).at_
    have hrl:∀ s j,(rows s j).length≤1000:=fun s j=>by have:=rl s j;split at this <;> omega
    have e2c:six PP SS c0 c1 f0 f1 (2+sd)=two2 c0 c1 sd:=six_c hsd
    have e4f:six PP SS c0 c1 f0 f1 (4+sd)=two2 f0 f1 sd:=six_f hsd
    have hcm:=st.ee (2+sd) (by omega)
    rw [e2c,eo_c hsd] at hcm
    refine ⟨_,rfl,_,rfl,cmL,_,_,_,rfl,rfl,SqL.of (st.sb _ _ fx.cmL),at_two hsd,.inl ⟨rfl,_,SqL.of hcm⟩,_,rfl,_,rfl,cL,_,_,_,rfl,rfl,SqL.of (st.sb _ _ fx.cL),at_two hsd,_,rfl,two2 D0 D1 sd,_,_,_,rfl,rfl,SqL.of (st.sb _ _ cg.dl),atI_nat (tab_get hTn),two2 sl0 sl1 sd T,rfl,⟨_,SqL.of r1⟩,fun Dh hDh=>?_⟩
    refine lc_list (K:=K) (a:=two2 sl0 sl1 sd T) (xs:=tabR (rows sd T).length ras) (fun i σ H'=>(∃ v,σ=[v])∧Same H15 H'∧∃ ccs:Nat→Addr,H' Dh=some (.lst (tabR i ccs))∧∀ (y:Nat) (r:Rw),y < i→(rows sd T)[y]?=some r→B1 (ccs y)=some (.lst (tabI 24 r.f)))
     ⟨⟨none,rfl⟩,(Same.refl _).new hDh,fun _=>0,upd_same,fun y r hy=>absurd hy (Nat.not_lt_zero _)⟩ (fun i σ H' _ p=>SqL.of (p.2.1 _ _ r1)) ?_ ?_
    ·rintro i v σ H' N hN hi ⟨⟨v0,rfl⟩,s1,ccs,w1,w2⟩
     obtain ⟨hil,rfl⟩:=tab_of hi
     have e:(rows sd T)[i]?=some (rows sd T)[i]:=by simp [hil]
     have hrl1:=hrl sd T
     generalize (rows sd T)[i]=rr at e
     obtain ⟨c,v3,k1,k2,_⟩:=r2 i rr e
     refine turn_do ?_
     refine ⟨_,rfl,ras i,_,_,_,rfl,rfl,SqT.of (s1 _ _ (st.sb _ _ k1)),rfl,_,w1,by rw [tab_len];omega,hN _ _ ⟨⟨_,rfl⟩,s1.put hDh,fun y=>if y=i then c else ccs y,by rw [upd_same,tabR_snoc],fun y r hy hr'=>?_⟩⟩
     by_cases z:y=i
     ·rw [z,e] at hr'
      cases hr'
      simp only [z,if_true]
      exact k2
     ·simp only [z,if_false]
      exact w2 y r (by omega) hr'
    rintro σ H16 ⟨⟨v0,rfl⟩,s16,ccs,c1',c2'⟩
    rw [tab_len] at c1' c2'
    obtain ⟨st16,sB16⟩:=st.grow monoN s16 hDh c1'
    refine ⟨two2 c0 c1 sd,_,_,rfl,rfl,s16 _ _ hcm,by rw [tab_len];omega,?_⟩
    obtain ⟨st17,_⟩:=st16.put monoN (i:=2+sd) (o:=.lst (tabR (F sd).length (ct sd) ++ [.ref Dh])) (by omega) (notT_lst _)
    rw [e2c] at st17
    rw [tabR_snoc] at st17 ⊢
    rw [hFT] at st17 ⊢
    have st17:St BvN t.LinkEnd _ _ (tk+7) (two2 x0 x1) tA pA (two2 D0 D1) (two2 sl0 sl1) L rows ρ 6 (six PP SS c0 c1 f0 f1) (eoF pvs cs (at2 (fun s=>(F s).length) sd (T+1)) (at2 ct sd (fun y=>if y=T then Dh else ct sd y)) F fa):=st17.re (fun s hs=>rfl) (eo_setc hsd)
    have hcm17:(upd H16 (two2 c0 c1 sd) (.lst (tabR (T+1) fun k=>if k=T then Dh else ct sd k))) (two2 c0 c1 sd)=some (.lst (tabR (T+1) fun k=>if k=T then Dh else ct sd k)):=upd_same
    have fx2:=fx.same sB16
    have hdl2:=sB16 _ _ hdl
    have BDh:(upd B1 Dh (.lst (tabR (rows sd T).length ccs))) Dh=some (.lst (tabR (rows sd T).length ccs)):=upd_same
    have ad17:Ad34 K (upd B1 Dh (.lst (tabR (rows sd T).length ccs))) lo (n4 % 4=1) L rows pvs cs (at2 (fun s=>(F s).length) sd (T+1)) (at2 ct sd (fun y=>if y=T then Dh else ct sd y)) F fa:=by
     have ad':=ad.same sB16
     refine ⟨fun s hs j hj=>?_,ad'.f,ad'.p,ad'.s0,ad'.sl,ad'.kp⟩
     by_cases z:s=sd
     ·subst z
      rw [at2_same] at hj ⊢
      by_cases y:j=T
      ·simp only [y,if_true]
       exact ⟨ccs,BDh,fun y r hr'=>⟨sB16 _ _ (c2' y r (List.getElem?_eq_some_iff.mp hr').1 hr'),by obtain ⟨_,_,_,_,_,gg⟩:=r2 y r hr';exact gg⟩⟩
      ·simp only [y,if_false]
       exact ad'.c s hs j (by omega)
     ·rw [at2_ne z] at hj ⊢
      exact ad'.c s hs j hj
    have np16:∀ {p:Addr},(upd H16 (two2 c0 c1 sd) (.lst (tabR (T+1) fun k=>if k=T then Dh else ct sd k))) p=none→H16 p=none:=fun {p} h=>upd_free h (by rw [s16 _ _ hcm];exact fun z=>by cases z)
    generalize upd H16 (two2 c0 c1 sd) (.lst (tabR (T+1) fun k=>if k=T then Dh else ct sd k))=H17 at *
    generalize upd B1 Dh (.lst (tabR (rows sd T).length ccs))=B2 at *
    have lk17:=st17.lk sd hsd
    obtain ⟨dx17,pv17,hx17,_⟩:=lk17.at_
    have hix17:atI (tabR (T+1) fun k=>if k=T then Dh else ct sd k) (T:Int)=some (.ref Dh):=by
     rw [atI_nat (tab_get (f:=fun j=>V.ref (if j=T then Dh else ct sd j)) (Nat.lt_succ_self T))]
     simp
    refine ⟨_,rfl,_,rfl,eL,_,_,_,rfl,rfl,SqL.of (st17.sb _ _ fx2.eL),at_two hsd,two2 x0 x1 sd,dx17,_,rfl,hx17,rfl,_,rfl,_,rfl,cmL,_,_,_,rfl,rfl,SqL.of (st17.sb _ _ fx2.cmL),at_two hsd,_,rfl,two2 c0 c1 sd,_,_,_,rfl,rfl,SqL.of hcm17,hix17,?_⟩
    have inc:InC H17 Dh ccs ((rows sd T).map cmOf):=by
     refine ⟨by rw [List.length_map];exact st17.sb _ _ BDh,fun j cm hj=>?_⟩
     rw [List.getElem?_map] at hj
     cases e:(rows sd T)[j]? with
     | none=>rw [e] at hj;cases hj
     | some rr =>
      rw [e] at hj
      cases hj
      obtain ⟨_,_,_,_,_,gg⟩:=r2 j rr e
      exact ⟨st17.sb _ _ (sB16 _ _ (c2' j rr (List.getElem?_eq_some_iff.mp e).1 e)),gg.c,gg.m⟩
    have hbb1:=hsem.b1
    have hbb0:=hsem.b0
    refine ⟨two2 x0 x1 sd,tA sd,pA sd,Dh,ccs,L sd,(rows sd T).map cmOf,rfl,lk17,inc,by rw [List.length_map];exact hrl sd T,by rw [hsem.ev];exact Nat.zero_le _,by omega,by omega,hsem.k,fun H18 pB p mv hl18 np npB ep=>?_⟩
    rw [reads_cm] at hl18 ep
    have hrb:=ro.reads sd T
    have sem':=hsem.step hrb hq1 (by omega)
    obtain ⟨ρ1,st18,hρ1⟩:=st17.mvd monoN hsd mv hl18 hl18.ne
    have lk18:=st18.lk sd hsd
    rw [at2_same,at2_same,at2_same] at lk18
    obtain ⟨dx18,pv18,hx18,_⟩:=lk18.at_
    refine ⟨_,rfl,_,rfl,eL,_,_,_,rfl,rfl,SqL.of (st18.sb _ _ fx2.eL),at_two hsd,two2 x0 x1 sd,dx18,_,rfl,hx18,rfl,two2 x0 x1 sd,_,_,_,rfl,lk18,fun H19 tB mv19 ntB lk19 ev19=>?_⟩
    have ntP:∀ i,i < 6→tA sd≠six PP SS c0 c1 f0 f1 i:=fun i hi=>by
     have h1:=st18.rt sd hsd
     rw [at2_same] at h1
     exact rho_ne h1 (st18.er i hi) (by omega)
    obtain ⟨ρ2,st19,hρ2⟩:=st18.mvd monoN hsd (by rw [at2_same,at2_same];exact mv19) lk19 lk19.ne
    have ep19:H19 p=some (.lst (tabI 24 (cellG ((tickL (L sd) (readsR (rows sd T))).b,(tickL (L sd) (readsR (rows sd T))).k)))):=mv19.k _ _ (fun z=>lk17.hx (by rw [← z];exact np)) (fun z=>lk17.ht (by rw [← z];exact np)) npB ep
    have nsl:∀ s,s < 2→∀ j,j < tk+7→p≠two2 sl0 sl1 s j:=fun s hs j hj z=>((st17.cg s hs).at_ j hj).val (by rw [← z];exact np)
    have npx:∀ i,i < 6→p≠six PP SS c0 c1 f0 f1 i:=fun i hi z=>st17.he hi (by rw [← z];exact np)
    have st19:=st19.re (L':=at2 L sd (afterL (L sd) (readsR (rows sd T)))) (eo':=eoF pvs cs (at2 (fun s=>(F s).length) sd (T+1)) (at2 ct sd (fun y=>if y=T then Dh else ct sd y)) F fa) (fun s hs=>by
     by_cases z:s=sd
     ·rw [z,at2_same,at2_same];rfl
     ·rw [at2_ne z,at2_ne z,at2_ne z]) (fun i hi=>rfl)
    have P19:H19 PP=some (.lst [pvs 0,pvs 1]):=st19.ee 0 (by decide)
    have S19:H19 SS=some (.lst [.int (cs 0),.int (cs 1)]):=st19.ee 1 (by decide)
    have sBG:Same B2 (hide2 H19 PP SS):=hide2_sub st19.sb (st19.eb 0 (by decide)) (st19.eb 1 (by decide))
    have tuG:TupK H19 (hide2 H19 PP SS):=fun y xs e=>by rw [hide2_get (fun z=>by rw [z,P19] at e;cases e) (fun z=>by rw [z,S19] at e;cases e)];exact e
    have trk:=(tick_tr (bs:=readsR (rows sd T)) hsem.ev).ok
    have hquiet:∀ j:Nat,readsR (rows sd T)=[]→last sd < (j:Int)→(j:Int)≤(T:Int)→readsR (rows sd j)=[]:=fun j h1 h2 h3=>by
     by_cases z:j=T
     ·rw [z];exact h1
     ·exact wv.v1 sd hsd j h2 (by rw [hsem.d];omega)
    have hbrk:∀ e ∈ (tickL (L sd) (readsR (rows sd T))).ev,e.w="silent"→(e.ns=[(T:Int) - (a+b)+1,(T:Int)]∧shB (xssOf (rows sd) (T+1)) (a+b) ((T:Int) - (a+b)+1) (T:Int)=true∧brk (cssOf (F (1 - sd))) a b ((T:Int) - (a+b)+1) (T:Int)=true)∧Brk (F (1 - sd)) lo:=fun e he hw=>by
     obtain ⟨hbs,hla,hns,h0⟩:=silence hsem hq1 he hw
     have hu:∀ (g:Nat) (fs:Ft),(F (1 - sd))[g]?=some fs→(T:Int) - (a+b)≤(g:Int)→(g:Int)≤(T:Int) - a→¬ Fit fs:=fun g fs hg h1 h2 ⟨d,hd,hl⟩=>by
      obtain ⟨row,q1,q2⟩:=wv.v3 sd hsd g fs hg d hd hl
      have gd:=(wv.v4 (1 - sd) h1s fs (List.mem_of_getElem? hg)).at_ d hd
      have:=readsR_nil.mp (hquiet (g+d.1.toNat) hbs (by omega) (by omega)) row q1
      rw [q2] at this;cases this
     obtain ⟨b1,b2⟩:=broken_yes (F:=F (1 - sd)) ha1.1 hb1.1 (by omega) (by omega) hu
     refine ⟨⟨hns,shown_yes (by omega) hq1 (by omega) fun j h1 h2=>hquiet j hbs (by omega) h2,b1⟩,⟨((T:Int) - (a+b)+1 - 1).toNat,by omega,fun j hj=>b2 j (by omega)⟩⟩
    have hcm19:=st19.ee (2+sd) (by omega)
    rw [e2c,eo_c hsd,at2_same,at2_same] at hcm19
    have hfo19:=st19.ee (4+(1 - sd)) (by omega)
    rw [six_f h1s,eo_f h1s] at hfo19
    have cneP:two2 c0 c1 sd≠PP:=by rw [← e2c];exact rho_ne (st19.er (2+sd) (by omega)) (st19.er 0 (by decide)) (by omega)
    have cneS:two2 c0 c1 sd≠SS:=by rw [← e2c];exact rho_ne (st19.er (2+sd) (by omega)) (st19.er 1 (by decide)) (by omega)
    have fneP:two2 f0 f1 (1 - sd)≠PP:=by rw [← six_f (a:=PP) (b:=SS) (c:=c0) (d:=c1) h1s];exact rho_ne (st19.er (4+(1 - sd)) (by omega)) (st19.er 0 (by decide)) (by omega)
    have fneS:two2 f0 f1 (1 - sd)≠SS:=by rw [← six_f (a:=PP) (b:=SS) (c:=c0) (d:=c1) h1s];exact rho_ne (st19.er (4+(1 - sd)) (by omega)) (st19.er 1 (by decide)) (by omega)
    have good3:∀ s,s < 2→∀ fs ∈ F s,fs.length≤3:=fun s hs fs hf=>(wv.v4 s hs fs hf).len
    have cam:∀ {G:Hp},Same B2 G→G (two2 c0 c1 sd)=some (.lst (tabR (T+1) fun k=>if k=T then Dh else ct sd k))→IsCame G (two2 c0 c1 sd) (xssOf (rows sd) (T+1)):=fun {G} s e=>came_is e (fun j hj=>by
     have:=ad17.c sd hsd j (by rw [at2_same];exact hj)
     rw [at2_same] at this
     exact this) s (hrl sd)
    have evG:IsEvs (hide2 H19 PP SS) (tA sd) (tickL (L sd) (readsR (rows sd T))).ev:=by
     obtain ⟨eas,g1,g2⟩:=ev19
     have q0:tA sd≠PP:=ntP 0 (by decide)
     have q1:tA sd≠SS:=ntP 1 (by decide)
     exact ⟨eas,by rw [hide2_get q0 q1];exact g1,fun y e he=>(g2 y e he).mono tuG⟩
    refine ⟨_,rfl,_,rfl,_,rfl,_,rfl,_,rfl,_,rfl,_,rfl,?_⟩
    refine ⟨hide2 H19 PP SS,tA sd,PP,SS,cmL,ftL,ma,(tickL (L sd) (readsR (rows sd T))).ev,pvs,cs,two2 c0 c1,two2 f0 f1,xssOf (rows sd) (T+1),cssOf (F (1 - sd)),a,b,(T:Int),sd,(L sd).p,rfl,hsd,hide2_same,if_pos (.inl rfl),if_pos (.inr rfl),rho_ne (st19.er 0 (by decide)) (st19.er 1 (by decide)) (by decide),P19,S19,evG,sBG _ _ fx2.cmL,sBG _ _ fx2.ftL,
     cam sBG (by rw [hide2_get cneP cneS];exact hcm19),by rw [xss_len];omega,fts_is (by rw [hide2_get fneP fneS];exact hfo19) (fun g fs e=>ad17.f (1 - sd) h1s g fs e) sBG (good3 (1 - sd) h1s),by unfold cssOf;rw [List.length_map];omega,SqT.of (sBG _ _ fx2.ma),hq1,hb1.1,(ad17.p sd hsd).mono (fun y xs e=>sBG _ _ e),trk.1,fun e he hw=>⟨_,(hbrk e he hw).1⟩,fun H20 pv' c' sG20 n20 f20 P20 pp20 S20 c20 d20=>⟨_,rfl,iteF ?_⟩⟩
    have st20:=st19.chg monoN (eo':=eoF (at2 pvs sd pv') (at2 cs sd c') (at2 (fun s=>(F s).length) sd (T+1)) (at2 ct sd (fun y=>if y=T then Dh else ct sd y)) F fa) (fun y o h e=>f20 y o (h 0 (by decide)) (h 1 (by decide)) e)
     (all6 P20 S20 (f20 _ _ (rho_ne (st19.er 2 (by decide)) (st19.er 0 (by decide)) (by decide)) (rho_ne (st19.er 2 (by decide)) (st19.er 1 (by decide)) (by decide)) (st19.ee 2 (by decide))) (f20 _ _ (rho_ne (st19.er 3 (by decide)) (st19.er 0 (by decide)) (by decide)) (rho_ne (st19.er 3 (by decide)) (st19.er 1 (by decide)) (by decide)) (st19.ee 3 (by decide))) (f20 _ _ (rho_ne (st19.er 4 (by decide)) (st19.er 0 (by decide)) (by decide)) (rho_ne (st19.er 4 (by decide)) (st19.er 1 (by decide)) (by decide)) (st19.ee 4 (by decide))) (f20 _ _ (rho_ne (st19.er 5 (by decide)) (st19.er 0 (by decide)) (by decide)) (rho_ne (st19.er 5 (by decide)) (st19.er 1 (by decide)) (by decide)) (st19.ee 5 (by decide)))) eo_notT
    have ep20:=f20 p _ (npx 0 (by decide)) (npx 1 (by decide)) ep19
    have sB3:=tupB_same st20.sb
    have st20:=st20.growT monoN
    have pp3:PairV (tupB B2 H20) pv' (afterL (L sd) (readsR (rows sd T))).p:=by
     have e1:(afterL (L sd) (readsR (rows sd T))).p=trP (L sd).p (tickL (L sd) (readsR (rows sd T))).ev:=trk.2.symm
     rw [e1]
     exact (pp20.mono fun y xs e=>sG20 _ _ e).mono fun y xs e=>tupB_tup e
    have ad20:Ad34 K (tupB B2 H20) lo (n4 % 4=1) (at2 L sd (afterL (L sd) (readsR (rows sd T)))) rows (at2 pvs sd pv') (at2 cs sd c') (at2 (fun s=>(F s).length) sd (T+1)) (at2 ct sd (fun y=>if y=T then Dh else ct sd y)) F fa:=by
     have ad':=ad17.same sB3
     refine ⟨ad'.c,ad'.f,fun s hs=>?_,fun s hs=>?_,fun s hs h0=>?_,ad'.kp⟩
     ·by_cases z:s=sd
      ·rw [z,at2_same,at2_same];exact pp3
      ·rw [at2_ne z,at2_ne z];exact ad'.p s hs
     ·by_cases z:s=sd
      ·rw [z,at2_same];have:=ad'.s0 sd hsd;omega
      ·rw [at2_ne z];exact ad'.s0 s hs
     ·by_cases z:s=sd
      ·rw [z] at h0 ⊢
       rw [at2_same] at h0
       by_cases y:c'=cs sd
       ·exact ad'.sl sd hsd (by rw [← y];exact h0)
       ·obtain ⟨e,he,hw⟩:=d20 y
        exact (hbrk e he hw).2
      ·rw [at2_ne z] at h0;exact ad'.sl s hs h0
    have fx3:=fx2.same sB3
    have hdl3:=sB3 _ _ hdl2
    generalize tupB B2 H20=B3 at *
    have hcm20:=st20.ee (2+sd) (by omega)
    rw [e2c,eo_c hsd,at2_same,at2_same] at hcm20
    refine ⟨fun σ H'=>σ=[some (.ref sc),some (.ref nl),some (.ref ma),some (.int (a+b)),some (.int (tk:Int)),some (.ref eL),some (.ref PP),some (.ref cmL),some (.ref ftL),some (.ref SS),some (.ref cL),some (.int (T:Int)),v12,some (.ref dl),some (.int (sd:Int)),some (.ref p),v16]∧Same H20 H',?_,?_⟩
    ·refine ⟨_,rfl,_,rfl,PP,_,_,_,rfl,rfl,SqL.of P20,at_twoV (f:=at2 pvs sd pv') hsd,rfl,_,rfl,?_⟩
     rw [at2_same]
     cases hp':(afterL (L sd) (readsR (rows sd T))).p with
     | none =>
      rw [hp'] at pp3
      have pp3:pv'=.non:=pp3
      subst pp3
      exact iteNN rfl (iteF ⟨rfl,Same.refl _⟩)
     | some pr =>
      have hk0:=sem'.pk (by rw [hp'];exact fun z=>by cases z)
      have hku:=sem'.ku hk0
      have hkl:=sem'.kl hk0
      have hsu:=sem'.u
      have hsq:=sem'.q
      have hsd':=sem'.d
      have hsu0:=sem'.u0
      have wv1:=(wv.step (q:=a+b) (fs:=[]) (b:=(0,0)) hsd hsem.d hdo ⟨by decide,fun d hd=>by cases hd⟩).v2 sd hsd
      rw [at2_same,at2_ne (show sd≠1 - sd by omega)] at wv1
      rw [hp'] at pp3
      obtain ⟨pq,rfl,_⟩:=pp3
      refine iteNY (fun z=>by cases z) ?_
      refine ⟨_,rfl,_,rfl,cmL,_,_,_,rfl,rfl,SqL.of (st20.sb _ _ fx3.cmL),at_two hsd,_,rfl,_,rfl,_,rfl,_,_,rfl,rfl,_,_,rfl,rfl,_,rfl,two2 c0 c1 sd,xssOf (rows sd) (T+1),a+b,(T:Int) - (a+b)+1,(T:Int),rfl,came_is hcm20 (fun j hj=>by
       have:=ad20.c sd hsd j (by rw [at2_same];exact hj)
       rw [at2_same] at this
       exact this) st20.sb (hrl sd),by rw [xss_len];omega,hq1,fun H21 s21=>?_⟩
      rw [shown_no (rs:=rows sd) (n:=T+1) (la:=lastOf (readsR (rows sd T)) (last sd) T) (by omega) hkl (by omega) (by omega) (wv1 hkl)]
      exact ⟨_,rfl,iteF ⟨rfl,s21⟩⟩
    rintro σ H21 ⟨rfl,s21⟩
    have st21:=st20.same monoN s21
    have ep21:=s21 _ _ ep20
    refine ⟨_,rfl,_,rfl,dl,_,_,_,rfl,rfl,SqL.of (st21.sb _ _ hdl3),at_twoI (f:=two2 g0 g1) hsd,_,rfl,ma,_,_,_,rfl,rfl,SqT.of (st21.sb _ _ fx3.ma),rfl,_,_,rfl,gn sd hsd,ha1.1,ha1.2,fun ft H22 fs0 s22 hft gft=>?_⟩
    have st22:=st21.same monoN s22
    refine ⟨fun σ H'=>∃ (fB:Addr) (fs':Ft),σ=[some (.ref sc),some (.ref nl),some (.ref ma),some (.int (a+b)),some (.int (tk:Int)),some (.ref eL),some (.ref PP),some (.ref cmL),some (.ref ftL),some (.ref SS),some (.ref cL),some (.int (T:Int)),v12,some (.ref dl),some (.int (sd:Int)),some (.ref p),some (.ref fB)]∧Same H22 H'∧IsFt K H' fB fs'∧GoodF a fs',?_,?_⟩
    ·refine ⟨_,rfl,_,rfl,_,rfl,nl,n0,n1,n2,n3,n4,n5,(sd:Int),(T:Int),rfl,SqL.of (st22.sb _ _ fx3.nl),fun bb H23 s23=>?_⟩
     refine ⟨_,rfl,?_⟩
     cases bb with
     | false=>exact iteF ⟨ft,fs0,rfl,s23,hft.same s23,gft⟩
     | true =>
      refine iteT ⟨by show 0≤sizeLine;decide,fun e he=>?_⟩
      exact ⟨e,[],rfl,s23.new he,ft_nil (SqT.of upd_same),⟨by decide,fun d hd=>by cases hd⟩⟩
    rintro σ H23 ⟨fB0,fs1,rfl,s23,hfB0,gfB0⟩
    have st23:=st22.same monoN s23
    have hf23:=st23.ee (4+sd) (by omega)
    rw [e4f,eo_f hsd] at hf23
    refine ⟨fun σ H'=>∃ (fB:Addr) (fs':Ft),σ=[some (.ref sc),some (.ref nl),some (.ref ma),some (.int (a+b)),some (.int (tk:Int)),some (.ref eL),some (.ref PP),some (.ref cmL),some (.ref ftL),some (.ref SS),some (.ref cL),some (.int (T:Int)),v12,some (.ref dl),some (.int (sd:Int)),some (.ref p),some (.ref fB)]∧Same H23 H'∧IsFt K H' fB fs'∧GoodF a fs'∧(n4 % 4=1→lo≤(F sd).length→(∀ g fs'',(F sd)[g]?=some fs''→(F sd).length - lo≤g→¬ Fit fs'')→Fit fs'),?_,?_⟩
    ·refine ⟨_,rfl,nl,_,_,_,rfl,rfl,SqL.of (st23.sb _ _ fx3.nl),rfl,_,_,rfl,rfl,(by show (0:Int) < 4;decide),rfl,_,rfl,?_⟩
     by_cases h4:n4 % 4=1
     ·refine iteY (by show V.int (n4 % 4)=V.int 1;rw [h4]) ?_
      refine ⟨_,rfl,_,rfl,_,rfl,ftL,_,_,_,rfl,rfl,SqL.of (st23.sb _ _ fx3.ftL),at_two hsd,_,rfl,_,rfl,_,rfl,dl,_,_,_,rfl,rfl,SqL.of (st23.sb _ _ hdl3),at_twoI (f:=two2 g0 g1) hsd,?_⟩
      refine ⟨fB0,two2 f0 f1 sd,ma,fs1,F sd,fa sd,a,lo,_,rfl,hfB0,gfB0,hf23,fun g fs' hg=>⟨(ad20.f sd hsd g fs' hg).same st23.sb,good3 sd hsd fs' (List.mem_of_getElem? hg)⟩,by omega,SqT.of (by rw [← hlo];exact st23.sb _ _ fx3.ma),ha1.1,by omega,gn sd hsd,fun fB H24 fs' s24 k1 k2 k3=>?_⟩
      exact ⟨fB,fs',rfl,s24,k1,k2,fun _=>k3⟩
     ·refine iteN (fun z=>h4 (V.int.inj z)) ?_
      exact ⟨fB0,fs1,rfl,Same.refl _,hfB0,gfB0,fun z=>absurd z h4⟩
    rintro σ H24 ⟨fB,fs,rfl,s24,hfB,gfB,hkept⟩
    have st24:=st23.same monoN s24
    have ep24:=((s22.trans s23).trans s24) _ _ ep21
    have hfB4:IsFt K (tupB B3 H24) fB fs:=hfB.lift
    have sB4:=tupB_same st24.sb
    have st24:=st24.growT monoN
    have fx4:=fx3.same sB4
    have hdl4:=sB4 _ _ hdl3
    have ad24:=ad20.same sB4
    generalize tupB B3 H24=B4 at *
    have hf24:=st24.ee (4+sd) (by omega)
    rw [e4f,eo_f hsd] at hf24
    refine ⟨_,rfl,_,rfl,ftL,_,_,_,rfl,rfl,SqL.of (st24.sb _ _ fx4.ftL),at_two hsd,.inl ⟨rfl,_,SqL.of hf24⟩,_,rfl,two2 f0 f1 sd,_,_,rfl,rfl,hf24,by rw [tab_len];omega,?_⟩
    obtain ⟨st25,tu25⟩:=st24.put monoN (i:=4+sd) (o:=.lst (tabR (F sd).length (fa sd) ++ [.ref fB])) (by omega) (notT_lst _)
    rw [e4f] at st25 tu25
    have ep25:(upd H24 (two2 f0 f1 sd) (.lst (tabR (F sd).length (fa sd) ++ [.ref fB]))) p=some (.lst (tabI 24 (cellG ((tickL (L sd) (readsR (rows sd T))).b,(tickL (L sd) (readsR (rows sd T))).k)))):=by rw [upd_ne (by rw [← e4f];exact npx (4+sd) (by omega))];exact ep24
    rw [tabR_snoc] at st25 ep25 ⊢
    have eL':(F sd ++ [fs]).length=(F sd).length+1:=by rw [List.length_append];rfl
    have eNT:(fun s=>(at2 F sd (F sd ++ [fs]) s).length)=at2 (fun s=>(F s).length) sd (T+1):=funext fun s=>by
     by_cases z:s=sd
     ·rw [z];simp only [at2_same];rw [eL',hFT]
     ·simp only [at2_ne z]
    have st25:=st25.re (L':=at2 L sd (afterL (L sd) (readsR (rows sd T)))) (eo':=eoF (at2 pvs sd pv') (at2 cs sd c') (at2 (fun s=>(F s).length) sd (T+1)) (at2 ct sd (fun y=>if y=T then Dh else ct sd y)) (at2 F sd (F sd ++ [fs])) (at2 fa sd (fun k=>if k=(F sd).length then fB else fa sd k))) (fun s hs=>rfl) (fun i hi=>by rw [eo_setf hsd i hi,eL'])
    generalize upd H24 (two2 f0 f1 sd) (.lst (tabR ((F sd).length+1) fun k=>if k=(F sd).length then fB else fa sd k))=H25 at *
    have e1s:(1:Int) - (sd:Int)=((1 - sd:Nat):Int):=by omega
    have hBb:Brt (afterL (L sd) (readsR (rows sd T))).b:=⟨by have:=sem'.b0;omega,by have:=sem'.b1;omega⟩
    refine ⟨_,rfl,_,rfl,_,_,rfl,rfl,cL,_,_,_,rfl,rfl,SqL.of (st25.sb _ _ fx4.cL),by rw [e1s];exact at_two h1s,_,rfl,_,rfl,_,rfl,?_⟩
    refine ⟨B4,two2 D0 D1 (1 - sd),p,fB,T,.non,two2 sl0 sl1 (1 - sd),tk+7,rows (1 - sd),((afterL (L sd) (readsR (rows sd T))).b,(afterL (L sd) (readsR (rows sd T))).k),fs,a,rfl,st25.sb,st25.cg (1 - sd) h1s,ep25,hBb,sem'.k,rfl,hfB4.same st25.sb,gfB,ha1.2,by omega,fun j hj=>?_,fun j hj=>nsl (1 - sd) h1s j hj,fun B5 H26 gv cg2=>?_⟩
    ·have:=hrl (1 - sd) j;omega
    have st26:=st25.gv monoN h1s gv cg2
    have wv':=wv.step (q:=a+b) (b:=((afterL (L sd) (readsR (rows sd T))).b,(afterL (L sd) (readsR (rows sd T))).k)) hsd hsem.d hdo gfB
    have oldR:∀ j,j < T+1→giveR (rows (1 - sd)) T ((afterL (L sd) (readsR (rows sd T))).b,(afterL (L sd) (readsR (rows sd T))).k) fs j=rows (1 - sd) j:=fun j hj=>give_old fs j fun d hd=>by
     have:=(gfB.at_ d hd).1
     omega
    refine ⟨B5,_,_,at2 L sd (afterL (L sd) (readsR (rows sd T))),_,_,_,at2 pvs sd pv',at2 cs sd c',at2 ct sd (fun y=>if y=T then Dh else ct sd y),at2 F sd (F sd ++ [fs]),at2 fa sd (fun k=>if k=(F sd).length then fB else fa sd k),_,_,_,rfl,fx4.same gv.bb,gv.bb _ _ hdl4,by rw [eNT];exact st26,fun s hs=>?_,wv',?_,ro.give ⟨hBb,sem'.b0⟩,fun s j=>?_⟩
    ·by_cases z:s=sd
     ·rw [z,at2_same,at2_same,if_pos (by omega)];exact sem'
     ·have:=sem s hs
      rw [at2_ne z,at2_ne z]
      by_cases y:s < sd
      ·rw [if_pos y] at this;rw [if_pos (by omega)];exact this
      ·rw [if_neg y] at this;rw [if_neg (by omega)];exact this
    ·rw [eNT]
     have ad':=ad24.same gv.bb
     refine ⟨fun s hs j hj=>?_,fun s hs g fs' hg=>?_,ad'.p,ad'.s0,fun s hs h0=>?_,fun hk s hs=>?_⟩
     ·have h1:=ad'.c s hs j hj
      by_cases z:s=1 - sd
      ·rw [z] at h1 hj ⊢
       rw [at2_same]
       rw [at2_ne (show 1 - sd≠sd by omega)] at hj
       have hj:j < (F (1 - sd)).length:=hj
       rw [oldR j (by omega)];exact h1
      ·rw [at2_ne z];exact h1
     ·by_cases z:s=sd
      ·rw [z,at2_same] at hg
       rw [z,at2_same]
       by_cases y:g < (F sd).length
       ·rw [List.getElem?_append_left y] at hg
        rw [if_neg (by omega)]
        exact ad'.f sd hsd g fs' hg
       ·have hlt:g < (F sd ++ [fs]).length:=(List.getElem?_eq_some_iff.mp hg).1
        have eg:g=(F sd).length:=by omega
        rw [eg,List.getElem?_append_right (Nat.le_refl _),Nat.sub_self] at hg
        cases hg
        rw [if_pos eg]
        exact hfB4.same gv.bb
      ·rw [at2_ne z] at hg ⊢;exact ad'.f s hs g fs' hg
     ·have h1:=ad'.sl s hs h0
      by_cases z:1 - s=sd
      ·rw [z] at h1 ⊢;rw [at2_same];exact h1.app
      ·rw [at2_ne z];exact h1
     ·have h1:=ad'.kp hk s hs
      by_cases z:s=sd
      ·rw [z] at h1 ⊢;rw [at2_same];exact h1.app (hkept hk)
      ·rw [at2_ne z];exact h1
    ·by_cases z:s=1 - sd
     ·rw [z,at2_same]
      have h1:=give_len (rows:=rows (1 - sd)) (tick:=T) (b:=((afterL (L sd) (readsR (rows sd T))).b,(afterL (L sd) (readsR (rows sd T))).k)) fs j
      have h2:=gfB.len
      have h3:=rl (1 - sd) j
      rw [if_neg (by omega)] at h3
      rw [if_pos (by omega)]
      omega
     ·rw [at2_ne z]
      have h3:=rl s j
      split at h3 <;> split <;> omega
   ·rintro σ H15 ⟨B,tA,pA,L,last,rows,ρ,pvs,cs,ct,F,fa,v14,v15,v16,rfl,fx,hdl,st,sem,wv,ad,ro,rl⟩
    refine ⟨B,tA,pA,L,last,rows,ρ,pvs,cs,ct,F,fa,_,_,_,_,_,_,rfl,fx,st,fun s hs=>?_,wv,ad,ro,fun s j=>?_⟩
    ·have:=sem s hs
     rw [if_pos hs] at this
     exact this
    ·have:=rl s j
     split at this <;> omega
  ·rintro σ H13 ⟨B,tA,pA,L,last,rows,ρ,pvs,cs,ct,F,fa,v11,v12,v13,v14,v15,v16,rfl,fx,st,sem,wv,ad,ro,rl⟩
   have S13:H13 SS=some (.lst [.int (cs 0),.int (cs 1)]):=st.ee 1 (by decide)
   have good3:∀ s,s < 2→∀ fs ∈ F s,fs.length≤3:=fun s hs fs hf=>(wv.v4 s hs fs hf).len
   have hFl:∀ s,s < 2→(F s).length=tk:=fun s hs=>by have h1:=wv.v5 s hs;rw [(sem s hs).d] at h1;omega
   have fts:∀ s,s < 2→∀ {G:Hp},Same H13 G→IsFts K G (two2 f0 f1 s) (cssOf (F s)):=fun s hs {G} sg=>by
    have h1:=st.ee (4+s) (by omega)
    rw [six_f hs,eo_f hs] at h1
    exact fts_is (sg _ _ h1) (fun g fs e=>ad.f s hs g fs e) (st.sb.trans sg) (good3 s hs)
   have csl:∀ s,s < 2→(cssOf (F s)).length=tk:=fun s hs=>by unfold cssOf;rw [List.length_map];exact hFl s hs
   have ma13:∀ {G:Hp},Same H13 G→SqT K G ma [.int a,.int (lo:Int)]:=fun {G} sg=>SqT.of (by rw [← hlo];exact sg _ _ (st.sb _ _ fx.ma))
   refine ⟨2,rfl,by decide,by decide,?_⟩
   refine for_range (lo:=0) (n:=2) (fun sd σ H'=>∃ v14:Option V,σ=[some (.ref sc),some (.ref nl),some (.ref ma),some (.int (a+b)),some (.int (tk:Int)),some (.ref eL),some (.ref PP),some (.ref cmL),some (.ref ftL),some (.ref SS),some (.ref cL),v11,v12,v13,v14,v15,v16]∧Same H13 H') ⟨_,rfl,Same.refl _⟩ ?_ ?_
   ·rintro sd σ H14 hsd ⟨v14',rfl,s14⟩
    rw [show (0:Int)+(sd:Nat)=(sd:Int) by omega]
    have h1s:1 - sd < 2:=by omega
    have e1s:(1:Int) - (sd:Int)=((1 - sd:Nat):Int):=by omega
    refine ⟨_,rfl,_,rfl,SS,_,_,_,rfl,rfl,SqL.of (s14 _ _ S13),at_twoI (f:=cs) hsd,_,_,rfl,rfl,_,rfl,?_⟩
    by_cases h0:cs sd > 0
    ·refine iteY h0 ?_
     refine ⟨_,rfl,_,rfl,_,_,rfl,rfl,ftL,_,_,_,rfl,rfl,SqL.of (s14 _ _ (st.sb _ _ fx.ftL)),by rw [e1s];exact at_two h1s,_,rfl,two2 f0 f1 (1 - sd),ma,lo,a,cssOf (F (1 - sd)),rfl,fts (1 - sd) h1s s14,by rw [csl _ h1s];omega,ma13 s14,ha1.1,ha1.2,by omega,fun p H15 _ s15=>⟨_,rfl,iteF ⟨_,rfl,s14.trans s15⟩⟩,fun hno H15 s15=>?_⟩
     rw [csl _ h1s,← hFl _ h1s] at hno
     exact (Kp.no (F:=F (1 - sd)) (lo:=lo) hno (ad.sl sd hsd (by omega))).elim
    ·exact iteN h0 (iteF ⟨_,rfl,s14⟩)
   ·rintro σ H14 ⟨v14',rfl,s14⟩
    refine ⟨_,rfl,nl,_,_,_,rfl,rfl,SqL.of (s14 _ _ (st.sb _ _ fx.nl)),rfl,_,_,rfl,rfl,(by show (0:Int) < 4;decide),rfl,_,rfl,?_⟩
    by_cases h4:n4 % 4=1
    ·refine iteNN (by show V.int (n4 % 4)=V.int 1;rw [h4]) ?_
     have cz:∀ s,s < 2→cs s=0:=fun s hs=>Classical.byContradiction fun z=>(ad.kp h4 (1 - s) (by omega)).no (ad.sl s hs z)
     refine ⟨_,rfl,by show 2≤sizeLine;decide,fun l2 hl2=>?_⟩
     have s15:Same H14 (upd H14 l2 (.lst [.int 0,.int 0])):=(Same.refl _).new hl2
     have e15:(upd H14 l2 (.lst [.int 0,.int 0])) l2=some (.lst [.int 0,.int 0]):=upd_same
     have S15:=s15 _ _ (s14 _ _ S13)
     rw [cz 0 (by decide),cz 1 (by decide)] at S15
     have s13:=s14.trans s15
     generalize upd H14 l2 (.lst [.int 0,.int 0])=H15 at *
     have kpN:∀ s,s < 2→NoBr (fitN (cssOf (F s))) (cssOf (F s)).length lo:=fun s hs=>by rw [csl s hs,← hFl s hs];exact ad.kp h4 s hs
     refine ⟨SS,l2,_,_,rfl,rfl,SqL.of S15,SqL.of e15,.inl ⟨rfl,ints_alike (ns:=[0,0]),⟨_,rfl,iteT ?_⟩⟩⟩
     refine ⟨_,rfl,ftL,_,_,_,rfl,rfl,SqL.of (s13 _ _ (st.sb _ _ fx.ftL)),rfl,_,rfl,two2 f0 f1 0,ma,lo,a,cssOf (F 0),rfl,fts 0 (by decide) s13,by rw [csl 0 (by decide)];omega,ma13 s13,ha1.1,ha1.2,by omega,fun p H16 hb s16=>(hb.no (kpN 0 (by decide))).elim,fun _ H16 s16=>⟨_,rfl,iteT ?_⟩⟩
     have s163:=s13.trans s16
     exact ⟨_,rfl,ftL,_,_,_,rfl,rfl,SqL.of (s163 _ _ (st.sb _ _ fx.ftL)),rfl,_,rfl,two2 f0 f1 1,ma,lo,a,cssOf (F 1),rfl,fts 1 (by decide) s163,by rw [csl 1 (by decide)];omega,ma13 s163,ha1.1,ha1.2,by omega,fun p H17 hb s17=>(hb.no (kpN 1 (by decide))).elim,fun _ H17 s17=>q _⟩
    ·exact iteNY (fun z=>h4 (V.int.inj z)) (q _)
end
end K34
namespace K34
open PySem L2 PyProof.Rows
section
variable {P:Program} {w:World} {K:PySem.W.Frag} {mg:Str→Option Value} {base:Heap} {t:Ad}
theorem law_all {f:Addr} {fd:FuncData} (T:Txt K mg t) (F:Fun K "law" "law" s_law f fd) (S_is_sign:Site K mg "is_sign" s_is_sign) (S_look_sign:Site K mg "look_sign" s_look_sign) (S_look_unit:Site K mg "look_unit" s_look_unit) (S_power:Site K mg "power" s_power) (S_inverse:Site K mg "inverse" s_inverse) (S_exponent:Site K mg "exponent" s_exponent) (S_equation:Site K mg "equation" s_equation) (S_pivot_place:Site K mg "pivot_place" s_pivot_place) (S_exchanged:Site K mg "exchanged" s_exchanged) (S_lessened:Site K mg "lessened" s_lessened) (S_cleared:Site K mg "cleared" s_cleared) (S_solved:Site K mg "solved" s_solved) (S_look_signs:Site K mg "look_signs" s_look_signs) (S_look_cell:Site K mg "look_cell" s_look_cell) (S_value_at:Site K mg "value_at" s_value_at) (S_troubles:Site K mg "troubles" s_troubles) (S_is_sealed:Site K mg "is_sealed" s_is_sealed) (S_carried:Site K mg "carried" s_carried) (S_sealed:Site K mg "sealed" s_sealed) (S_look_late:Site K mg "look_late" s_look_late) (S_look_measure:Site K mg "look_measure" s_look_measure) (S_is_fit:Site K mg "is_fit" s_is_fit) (S_quiet_of:Site K mg "quiet_of" s_quiet_of) (S_breach:Site K mg "breach" s_breach) (S_keeps:Site K mg "keeps" s_keeps) (S_lone_place:Site K mg "lone_place" s_lone_place) (S_is_root:Site K mg "is_root" s_is_root) (S_turned_places:Site K mg "turned_places" s_turned_places) (S_turns_at:Site K mg "turns_at" s_turns_at) (S_mended:Site K mg "mended" s_mended) (S_is_readable:Site K mg "is_readable" s_is_readable) (S_number_signs:Site K mg "number_signs" s_number_signs) (S_signs_number:Site K mg "signs_number" s_signs_number) (S_is_told:Site K mg "is_told" s_is_told) (S_is_shown:Site K mg "is_shown" s_is_shown) (S_broken_by:Site K mg "broken_by" s_broken_by) (S__law_cell:Site K mg "_law_cell" s__law_cell) (S__law_numbers:Site K mg "_law_numbers" s__law_numbers) (S__law_measure:Site K mg "_law_measure" s__law_measure) (S__law_turns:Site K mg "_law_turns" s__law_turns) (S__law_fate:Site K mg "_law_fate" s__law_fate) (S__law_turned:Site K mg "_law_turned" s__law_turned) (S__law_give:Site K mg "_law_give" s__law_give) (S__law_dead:Site K mg "_law_dead" s__law_dead) (S__law_kept:Site K mg "_law_kept" s__law_kept) (S__law_silent_right:Site K mg "_law_silent_right" s__law_silent_right) (S__law_events_right:Site K mg "_law_events_right" s__law_events_right):FnOk P w K mg base (CX1 P w) 13 f fd ["script"] (spLaw K):=by
 obtain ⟨fd_init,Fun_init⟩:=T.fi
 obtain ⟨fd_forget_pieces,Fun_forget_pieces⟩:=T.f_forget_pieces
 obtain ⟨fd_tick,Fun_tick⟩:=T.f_tick
 obtain ⟨fd_cell_given,Fun_cell_given⟩:=T.f_cell_given
 obtain ⟨fd_read,Fun_read⟩:=T.f_read
 obtain ⟨fd_meet,Fun_meet⟩:=T.f_meet
 obtain ⟨fd_come_up,Fun_come_up⟩:=T.f_come_up
 obtain ⟨fd_end_up,Fun_end_up⟩:=T.f_end_up
 obtain ⟨fd_start_over,Fun_start_over⟩:=T.f_start_over
 obtain ⟨fd_hear_count,Fun_hear_count⟩:=T.f_hear_count
 obtain ⟨fd_take_piece,Fun_take_piece⟩:=T.f_take_piece
 obtain ⟨fd_up,Fun_up⟩:=T.f_up
 obtain ⟨fd_events,Fun_events⟩:=T.f_events
 have D_is_sign:=ok_is_sign (P:=P) (w:=w) (base:=base) S_is_sign T
 have D_look_signs:=ok_look_signs S_look_signs T D_is_sign
 have D_look_cell:=ok_look_cell S_look_cell T D_look_signs
 have D_look_sign:=ok_look_sign S_look_sign T D_is_sign
 have D_look_unit:=ok_look_unit S_look_unit T D_look_sign
 have D_power:=ok_power S_power T D_look_sign
 have D_inverse:=ok_inverse S_inverse T D_look_unit D_power
 have D_exponent:=ok_exponent S_exponent T D_look_unit
 have D_value_at:=ok_value_at (P:=P) (w:=w) (base:=base) S_value_at T
 have D_troubles:=ok_troubles S_troubles T D_look_cell D_value_at D_power
 have D_is_sealed:=ok_is_sealed S_is_sealed T D_troubles
 have D_carried:=ok_carried (P:=P) (w:=w) (base:=base) S_carried T
 have D_sealed:=ok_sealed S_sealed T D_look_signs D_carried
 have D_look_late:=ok_look_late (P:=P) (w:=w) (base:=base) S_look_late T
 have D_look_measure:=ok_look_measure S_look_measure T D_look_late
 have D_quiet_of:=ok_quiet_of S_quiet_of T D_look_measure
 have D_equation:=ok_equation (P:=P) (w:=w) (base:=base) S_equation T
 have D_pivot_place:=ok_pivot_place (P:=P) (w:=w) (base:=base) S_pivot_place T
 have D_exchanged:=ok_exchanged (P:=P) (w:=w) (base:=base) S_exchanged T
 have D_lessened:=ok_lessened (P:=P) (w:=w) (base:=base) S_lessened T
 have D_cleared:=ok_cleared S_cleared T D_inverse D_lessened
 have D_solved:=ok_solved S_solved T D_equation D_pivot_place D_exchanged D_cleared
 have D_lone_place:=ok_lone_place S_lone_place T D_exponent D_inverse
 have D_is_root:=ok_is_root (P:=P) (w:=w) (base:=base) S_is_root T
 have D_turned_places:=ok_turned_places S_turned_places T D_solved D_lone_place D_is_root D_power
 have D_turns_at:=ok_turns_at S_turns_at T D_solved D_power
 have D_mended:=ok_mended S_mended T D_troubles D_is_sealed D_turned_places D_turns_at
 have D_is_readable:=ok_is_readable S_is_readable D_mended
 obtain ⟨F_forget_pieces,B_forget_pieces⟩:=ok_forget_pieces (P:=P) (w:=w) (base:=base) T Fun_forget_pieces
 obtain ⟨F_end_up,B_end_up⟩:=ok_end_up T Fun_end_up F_forget_pieces B_forget_pieces
 obtain ⟨F_meet,B_meet⟩:=ok_meet T Fun_meet F_end_up B_end_up
 have D_number_signs:=ok_number_signs (P:=P) (w:=w) (base:=base) S_number_signs T
 have D_signs_number:=ok_signs_number S_signs_number T D_look_sign
 obtain ⟨F_come_up,B_come_up⟩:=ok_come_up (P:=P) (w:=w) (base:=base) T Fun_come_up
 obtain ⟨F_start_over,B_start_over⟩:=ok_start_over T Fun_start_over F_end_up B_end_up
 obtain ⟨F_hear_count,B_hear_count⟩:=ok_hear_count (P:=P) (w:=w) (base:=base) T Fun_hear_count
 obtain ⟨F_take_piece,B_take_piece⟩:=ok_take_piece (P:=P) (w:=w) (base:=base) T Fun_take_piece
 obtain ⟨F_up,B_up⟩:=ok_up (P:=P) (w:=w) (base:=base) T Fun_up
 obtain ⟨F_events,B_events⟩:=ok_events (P:=P) (w:=w) (base:=base) T Fun_events
 obtain ⟨F_read,B_read⟩:=ok_read T Fun_read D_signs_number F_meet B_meet F_come_up B_come_up F_hear_count B_hear_count F_take_piece B_take_piece
 obtain ⟨F_cell_given,B_cell_given⟩:=ok_cell_given T Fun_cell_given D_number_signs D_sealed
 obtain ⟨F_tick,B_tick⟩:=ok_tick T Fun_tick D_mended F_read B_read F_start_over B_start_over F_cell_given B_cell_given
 obtain ⟨F_init,B_init⟩:=ok_init T Fun_init D_quiet_of F_forget_pieces B_forget_pieces
 have D__law_measure:=ok__law_measure (P:=P) (w:=w) (base:=base) S__law_measure
 have D__law_turns:=ok__law_turns (P:=P) (w:=w) (base:=base) S__law_turns T
 have D__law_fate:=ok__law_fate S__law_fate T D__law_turns
 have D__law_turned:=ok__law_turned (P:=P) (w:=w) (base:=base) S__law_turned T
 have D__law_give:=ok__law_give monoN S__law_give T D__law_turned
 have D_is_fit:=ok_is_fit (P:=P) (w:=w) (base:=base) S_is_fit T
 have D_is_told:=ok_is_told (P:=P) (w:=w) (base:=base) S_is_told T
 have D_broken_by:=ok_broken_by S_broken_by T D_is_fit D_is_told
 have D_breach:=ok_breach S_breach T D_look_measure D_is_fit
 have D_keeps:=ok_keeps S_keeps D_breach
 have D_is_shown:=ok_is_shown S_is_shown T D_is_readable D_is_told
 have D__law_dead:=ok__law_dead (P:=P) (w:=w) (base:=base) S__law_dead T
 have D__law_kept:=ok__law_kept (P:=P) (w:=w) (base:=base) S__law_kept T
 have D__law_silent_right:=ok__law_silent_right S__law_silent_right T D_is_shown D_broken_by
 have D__law_events_right:=ok__law_events_right S__law_events_right T D__law_silent_right
 have D__law_numbers:=ok__law_numbers (P:=P) (w:=w) (base:=base) S__law_numbers T
 have D__law_cell:=ok__law_cell (P:=P) (w:=w) (base:=base) S__law_cell T
 exact law_fn T F D__law_cell D__law_numbers D__law_measure D__law_fate D__law_dead D__law_kept D__law_give D__law_events_right D_is_shown D_keeps F_init B_init F_tick B_tick F_events B_events
end
end K34
namespace K34
open PySem L2 PyProof.Rows
theorem txt_mk {K:PySem.W.Frag} {h:Heap} {mg:Str→Option Value} {a_BadCell a_BadMeasure a_BadSign a_DIVISOR a_LinkEnd a_init a_m_forget_pieces a_m_tick a_m_cell_given a_m_read a_m_meet a_m_come_up a_m_end_up a_m_start_over a_m_hear_count a_m_take_piece a_m_put a_m_up a_m_waits a_m_events:Addr} {tk_cBIRTH_SIGNS tk_cCOUNT_AT tk_cFREE_PLACES tk_cKNOWN_AT tk_cLENGTH_AT tk_cMENDED_TURNS tk_cMOST_LATE tk_cMOST_LOST tk_cNO_BIRTH tk_cNUMBER_AT tk_cPIECE_AT tk_cPLACES tk_cROOT tk_cSIGNS tk_cSUMS:Tok} {od_DIVISOR:Option Addr} {k0_DIVISOR k1_DIVISOR k2_DIVISOR k3_DIVISOR k4_DIVISOR k5_DIVISOR:Tok} {n_DIVISOR:Nat} {os_DIVISOR:Array (Option Value)} {ioc:Value} {iod ian:Option Addr} {iosl:Array (Option Value)} {ikV idoc ipm icdv ict:Value} {oc_forget_pieces:Value} {od_forget_pieces an_forget_pieces:Option Addr} {osl_forget_pieces:Array (Option Value)} {kV_forget_pieces doc_forget_pieces pm_forget_pieces cdv_forget_pieces ct_forget_pieces:Value} {oc_tick:Value} {od_tick an_tick:Option Addr} {osl_tick:Array (Option Value)} {kV_tick doc_tick pm_tick cdv_tick ct_tick:Value} {oc_cell_given:Value} {od_cell_given an_cell_given:Option Addr} {osl_cell_given:Array (Option Value)} {kV_cell_given doc_cell_given pm_cell_given cdv_cell_given ct_cell_given:Value} {oc_read:Value} {od_read an_read:Option Addr} {osl_read:Array (Option Value)} {kV_read doc_read pm_read cdv_read ct_read:Value} {oc_meet:Value} {od_meet an_meet:Option Addr} {osl_meet:Array (Option Value)} {kV_meet doc_meet pm_meet cdv_meet ct_meet:Value} {oc_come_up:Value} {od_come_up an_come_up:Option Addr} {osl_come_up:Array (Option Value)} {kV_come_up doc_come_up pm_come_up cdv_come_up ct_come_up:Value} {oc_end_up:Value} {od_end_up an_end_up:Option Addr} {osl_end_up:Array (Option Value)} {kV_end_up doc_end_up pm_end_up cdv_end_up ct_end_up:Value} {oc_start_over:Value} {od_start_over an_start_over:Option Addr} {osl_start_over:Array (Option Value)} {kV_start_over doc_start_over pm_start_over cdv_start_over ct_start_over:Value} {oc_hear_count:Value} {od_hear_count an_hear_count:Option Addr} {osl_hear_count:Array (Option Value)} {kV_hear_count doc_hear_count pm_hear_count cdv_hear_count ct_hear_count:Value} {oc_take_piece:Value} {od_take_piece an_take_piece:Option Addr} {osl_take_piece:Array (Option Value)} {kV_take_piece doc_take_piece pm_take_piece cdv_take_piece ct_take_piece:Value} {oc_put:Value} {od_put an_put:Option Addr} {osl_put:Array (Option Value)} {kV_put doc_put pm_put cdv_put ct_put:Value} {oc_up:Value} {od_up an_up:Option Addr} {osl_up:Array (Option Value)} {kV_up doc_up pm_up cdv_up ct_up:Value} {oc_waits:Value} {od_waits an_waits:Option Addr} {osl_waits:Array (Option Value)} {kV_waits doc_waits pm_waits cdv_waits ct_waits:Value} {oc_events:Value} {od_events an_events:Option Addr} {osl_events:Array (Option Value)} {kV_events doc_events pm_events cdv_events ct_events:Value} (KX:K.In h) (G:h.Ns mainGlobals mg)
  (h_mBadCell:PySem.W.nsIn K mainGlobals "BadCell"=some (some (.ref a_BadCell)))
  (h_mBadMeasure:PySem.W.nsIn K mainGlobals "BadMeasure"=some (some (.ref a_BadMeasure)))
  (h_mBadSign:PySem.W.nsIn K mainGlobals "BadSign"=some (some (.ref a_BadSign)))
  (h_mDIVISOR:PySem.W.nsIn K mainGlobals "DIVISOR"=some (some (.ref a_DIVISOR)))
  (h_mLinkEnd:PySem.W.nsIn K mainGlobals "LinkEnd"=some (some (.ref a_LinkEnd)))
  (h_cBIRTH_SIGNS:PySem.W.nsIn K mainGlobals "BIRTH_SIGNS"=some (some (.int 2 tk_cBIRTH_SIGNS)))
  (h_cCOUNT_AT:PySem.W.nsIn K mainGlobals "COUNT_AT"=some (some (.int 5 tk_cCOUNT_AT)))
  (h_cFREE_PLACES:PySem.W.nsIn K mainGlobals "FREE_PLACES"=some (some (.int 18 tk_cFREE_PLACES)))
  (h_cKNOWN_AT:PySem.W.nsIn K mainGlobals "KNOWN_AT"=some (some (.int 2 tk_cKNOWN_AT)))
  (h_cLENGTH_AT:PySem.W.nsIn K mainGlobals "LENGTH_AT"=some (some (.int 6 tk_cLENGTH_AT)))
  (h_cMENDED_TURNS:PySem.W.nsIn K mainGlobals "MENDED_TURNS"=some (some (.int 2 tk_cMENDED_TURNS)))
  (h_cMOST_LATE:PySem.W.nsIn K mainGlobals "MOST_LATE"=some (some (.int 6 tk_cMOST_LATE)))
  (h_cMOST_LOST:PySem.W.nsIn K mainGlobals "MOST_LOST"=some (some (.int 4 tk_cMOST_LOST)))
  (h_cNO_BIRTH:PySem.W.nsIn K mainGlobals "NO_BIRTH"=some (some (.int 0 tk_cNO_BIRTH)))
  (h_cNUMBER_AT:PySem.W.nsIn K mainGlobals "NUMBER_AT"=some (some (.int 4 tk_cNUMBER_AT)))
  (h_cPIECE_AT:PySem.W.nsIn K mainGlobals "PIECE_AT"=some (some (.int 7 tk_cPIECE_AT)))
  (h_cPLACES:PySem.W.nsIn K mainGlobals "PLACES"=some (some (.int 24 tk_cPLACES)))
  (h_cROOT:PySem.W.nsIn K mainGlobals "ROOT"=some (some (.int 5 tk_cROOT)))
  (h_cSIGNS:PySem.W.nsIn K mainGlobals "SIGNS"=some (some (.int 97 tk_cSIGNS)))
  (h_cSUMS:PySem.W.nsIn K mainGlobals "SUMS"=some (some (.int 6 tk_cSUMS)))
  (h_n_any:PySem.W.nsIn K mainGlobals "any"=some none)
  (h_n_enumerate:PySem.W.nsIn K mainGlobals "enumerate"=some none)
  (h_n_int:PySem.W.nsIn K mainGlobals "int"=some none)
  (h_n_len:PySem.W.nsIn K mainGlobals "len"=some none)
  (h_n_list:PySem.W.nsIn K mainGlobals "list"=some none)
  (h_n_max:PySem.W.nsIn K mainGlobals "max"=some none)
  (h_n_min:PySem.W.nsIn K mainGlobals "min"=some none)
  (h_n_range:PySem.W.nsIn K mainGlobals "range"=some none)
  (h_n_reversed:PySem.W.nsIn K mainGlobals "reversed"=some none)
  (h_n_tuple:PySem.W.nsIn K mainGlobals "tuple"=some none)
  (h_n_zip:PySem.W.nsIn K mainGlobals "zip"=some none)
  (h_xBadCell:PySem.W.excIn K a_BadCell [.type "ValueError",.type "Exception",.type "BaseException",.type "object"] "ValueError.__new__"=true)
  (h_eBadCell_ga:PySem.W.findIn K (.ref a_BadCell) "__getattribute__"=some (some (.builtin "BaseException.__getattribute__")))
  (h_eBadCell_nga:PySem.W.findIn K (.ref a_BadCell) "__getattr__"=some none)
  (h_eBadCell_at_:PySem.W.findIn K (.ref a_BadCell) "__class__"=some (some (.builtin "object.__class__")))
  (h_eBadCell_cls:PySem.W.isClsIn K a_BadCell=true)
  (h_eBadCell_obj:PySem.W.mroIn K a_BadCell (.type "object")=some true)
  (h_eBadCell_base:PySem.W.subIn K (.ref a_BadCell) (.type "BaseException")=some true)
  (h_xBadMeasure:PySem.W.excIn K a_BadMeasure [.type "ValueError",.type "Exception",.type "BaseException",.type "object"] "ValueError.__new__"=true)
  (h_eBadMeasure_ga:PySem.W.findIn K (.ref a_BadMeasure) "__getattribute__"=some (some (.builtin "BaseException.__getattribute__")))
  (h_eBadMeasure_nga:PySem.W.findIn K (.ref a_BadMeasure) "__getattr__"=some none)
  (h_eBadMeasure_at_:PySem.W.findIn K (.ref a_BadMeasure) "__class__"=some (some (.builtin "object.__class__")))
  (h_eBadMeasure_cls:PySem.W.isClsIn K a_BadMeasure=true)
  (h_eBadMeasure_obj:PySem.W.mroIn K a_BadMeasure (.type "object")=some true)
  (h_eBadMeasure_base:PySem.W.subIn K (.ref a_BadMeasure) (.type "BaseException")=some true)
  (h_xBadSign:PySem.W.excIn K a_BadSign [.type "ValueError",.type "Exception",.type "BaseException",.type "object"] "ValueError.__new__"=true)
  (h_eBadSign_ga:PySem.W.findIn K (.ref a_BadSign) "__getattribute__"=some (some (.builtin "BaseException.__getattribute__")))
  (h_eBadSign_nga:PySem.W.findIn K (.ref a_BadSign) "__getattr__"=some none)
  (h_eBadSign_at_:PySem.W.findIn K (.ref a_BadSign) "__class__"=some (some (.builtin "object.__class__")))
  (h_eBadSign_cls:PySem.W.isClsIn K a_BadSign=true)
  (h_eBadSign_obj:PySem.W.mroIn K a_BadSign (.type "object")=some true)
  (h_eBadSign_base:PySem.W.subIn K (.ref a_BadSign) (.type "BaseException")=some true)
  (h_dDIVISOR:K.lookup a_DIVISOR=some ⟨.type "tuple",od_DIVISOR,.seq #[.int (21) k0_DIVISOR,.int (80) k1_DIVISOR,.int (53) k2_DIVISOR,.int (2) k3_DIVISOR,.int (55) k4_DIVISOR,.int (63) k5_DIVISOR] n_DIVISOR,os_DIVISOR⟩)
  (h_k_makes:PySem.W.makesIn K a_LinkEnd=true)
  (h_k_init:PySem.W.findIn K (.ref a_LinkEnd) "__init__"=some (some (.ref a_init)))
  (h_k_fn:PySem.W.isFn K (.ref a_init)=true)
  (h_k_kp:PySem.W.keepIn K (.ref a_LinkEnd)=true)
  (h_fi_l:K.lookup a_init=some ⟨ioc,iod,.func (PySem.W.fnOf "__init__" "LinkEnd.__init__" (defArgs s_init) (defBody s_init) (defScope s_init) .none ikV idoc ipm ian icdv ict),iosl⟩)
  (h_fi_c:PySem.W.codeIn K icdv "LinkEnd.__init__"=true)
  (h_fi_k:PySem.W.keepIn K (.ref a_init)=true)
  (h_c_pg:PySem.W.plainGet K a_LinkEnd Str.empty=true)
  (h_c_hd:PySem.W.hasDictIn K a_LinkEnd=true)
  (h_c_po:PySem.W.plainOver K a_LinkEnd=true)
  (h_c_sa:PySem.W.findIn K (.ref a_LinkEnd) "__setattr__"=some (some (.builtin "object.__setattr__")))
  (h_na_quiet:PySem.W.findIn K (.ref a_LinkEnd) "quiet"=some none)
  (h_na_side:PySem.W.findIn K (.ref a_LinkEnd) "side"=some none)
  (h_na_done:PySem.W.findIn K (.ref a_LinkEnd) "done"=some none)
  (h_na_unheard:PySem.W.findIn K (.ref a_LinkEnd) "unheard"=some none)
  (h_na_birth:PySem.W.findIn K (.ref a_LinkEnd) "birth"=some none)
  (h_na_known:PySem.W.findIn K (.ref a_LinkEnd) "known"=some none)
  (h_na_pair:PySem.W.findIn K (.ref a_LinkEnd) "pair"=some none)
  (h_na_told:PySem.W.findIn K (.ref a_LinkEnd) "told"=some none)
  (h_na_pieces:PySem.W.findIn K (.ref a_LinkEnd) "pieces"=some none)
  (h_na_offered:PySem.W.findIn K (.ref a_LinkEnd) "offered"=some none)
  (h_na_taken:PySem.W.findIn K (.ref a_LinkEnd) "taken"=some none)
  (h_me_forget_pieces_at_:PySem.W.findIn K (.ref a_LinkEnd) "forget_pieces"=some (some (.ref a_m_forget_pieces)))
  (h_me_forget_pieces_fn:PySem.W.isFn K (.ref a_m_forget_pieces)=true)
  (h_me_forget_pieces_kp:PySem.W.keepIn K (.ref a_m_forget_pieces)=true)
  (h_f_forget_pieces_l:K.lookup a_m_forget_pieces=some ⟨oc_forget_pieces,od_forget_pieces,.func (PySem.W.fnOf "forget_pieces" "LinkEnd.forget_pieces" (defArgs s_forget_pieces) (defBody s_forget_pieces) (defScope s_forget_pieces) .none kV_forget_pieces doc_forget_pieces pm_forget_pieces an_forget_pieces cdv_forget_pieces ct_forget_pieces),osl_forget_pieces⟩)
  (h_f_forget_pieces_c:PySem.W.codeIn K cdv_forget_pieces "LinkEnd.forget_pieces"=true)
  (h_f_forget_pieces_k:PySem.W.keepIn K (.ref a_m_forget_pieces)=true)
  (h_me_tick_at_:PySem.W.findIn K (.ref a_LinkEnd) "tick"=some (some (.ref a_m_tick)))
  (h_me_tick_fn:PySem.W.isFn K (.ref a_m_tick)=true)
  (h_me_tick_kp:PySem.W.keepIn K (.ref a_m_tick)=true)
  (h_f_tick_l:K.lookup a_m_tick=some ⟨oc_tick,od_tick,.func (PySem.W.fnOf "tick" "LinkEnd.tick" (defArgs s_tick) (defBody s_tick) (defScope s_tick) .none kV_tick doc_tick pm_tick an_tick cdv_tick ct_tick),osl_tick⟩)
  (h_f_tick_c:PySem.W.codeIn K cdv_tick "LinkEnd.tick"=true)
  (h_f_tick_k:PySem.W.keepIn K (.ref a_m_tick)=true)
  (h_me_cell_given_at_:PySem.W.findIn K (.ref a_LinkEnd) "cell_given"=some (some (.ref a_m_cell_given)))
  (h_me_cell_given_fn:PySem.W.isFn K (.ref a_m_cell_given)=true)
  (h_me_cell_given_kp:PySem.W.keepIn K (.ref a_m_cell_given)=true)
  (h_f_cell_given_l:K.lookup a_m_cell_given=some ⟨oc_cell_given,od_cell_given,.func (PySem.W.fnOf "cell_given" "LinkEnd.cell_given" (defArgs s_cell_given) (defBody s_cell_given) (defScope s_cell_given) .none kV_cell_given doc_cell_given pm_cell_given an_cell_given cdv_cell_given ct_cell_given),osl_cell_given⟩)
  (h_f_cell_given_c:PySem.W.codeIn K cdv_cell_given "LinkEnd.cell_given"=true)
  (h_f_cell_given_k:PySem.W.keepIn K (.ref a_m_cell_given)=true)
  (h_me_read_at_:PySem.W.findIn K (.ref a_LinkEnd) "read"=some (some (.ref a_m_read)))
  (h_me_read_fn:PySem.W.isFn K (.ref a_m_read)=true)
  (h_me_read_kp:PySem.W.keepIn K (.ref a_m_read)=true)
  (h_f_read_l:K.lookup a_m_read=some ⟨oc_read,od_read,.func (PySem.W.fnOf "read" "LinkEnd.read" (defArgs s_read) (defBody s_read) (defScope s_read) .none kV_read doc_read pm_read an_read cdv_read ct_read),osl_read⟩)
  (h_f_read_c:PySem.W.codeIn K cdv_read "LinkEnd.read"=true)
  (h_f_read_k:PySem.W.keepIn K (.ref a_m_read)=true)
  (h_me_meet_at_:PySem.W.findIn K (.ref a_LinkEnd) "meet"=some (some (.ref a_m_meet)))
  (h_me_meet_fn:PySem.W.isFn K (.ref a_m_meet)=true)
  (h_me_meet_kp:PySem.W.keepIn K (.ref a_m_meet)=true)
  (h_f_meet_l:K.lookup a_m_meet=some ⟨oc_meet,od_meet,.func (PySem.W.fnOf "meet" "LinkEnd.meet" (defArgs s_meet) (defBody s_meet) (defScope s_meet) .none kV_meet doc_meet pm_meet an_meet cdv_meet ct_meet),osl_meet⟩)
  (h_f_meet_c:PySem.W.codeIn K cdv_meet "LinkEnd.meet"=true)
  (h_f_meet_k:PySem.W.keepIn K (.ref a_m_meet)=true)
  (h_me_come_up_at_:PySem.W.findIn K (.ref a_LinkEnd) "come_up"=some (some (.ref a_m_come_up)))
  (h_me_come_up_fn:PySem.W.isFn K (.ref a_m_come_up)=true)
  (h_me_come_up_kp:PySem.W.keepIn K (.ref a_m_come_up)=true)
  (h_f_come_up_l:K.lookup a_m_come_up=some ⟨oc_come_up,od_come_up,.func (PySem.W.fnOf "come_up" "LinkEnd.come_up" (defArgs s_come_up) (defBody s_come_up) (defScope s_come_up) .none kV_come_up doc_come_up pm_come_up an_come_up cdv_come_up ct_come_up),osl_come_up⟩)
  (h_f_come_up_c:PySem.W.codeIn K cdv_come_up "LinkEnd.come_up"=true)
  (h_f_come_up_k:PySem.W.keepIn K (.ref a_m_come_up)=true)
  (h_me_end_up_at_:PySem.W.findIn K (.ref a_LinkEnd) "end_up"=some (some (.ref a_m_end_up)))
  (h_me_end_up_fn:PySem.W.isFn K (.ref a_m_end_up)=true)
  (h_me_end_up_kp:PySem.W.keepIn K (.ref a_m_end_up)=true)
  (h_f_end_up_l:K.lookup a_m_end_up=some ⟨oc_end_up,od_end_up,.func (PySem.W.fnOf "end_up" "LinkEnd.end_up" (defArgs s_end_up) (defBody s_end_up) (defScope s_end_up) .none kV_end_up doc_end_up pm_end_up an_end_up cdv_end_up ct_end_up),osl_end_up⟩)
  (h_f_end_up_c:PySem.W.codeIn K cdv_end_up "LinkEnd.end_up"=true)
  (h_f_end_up_k:PySem.W.keepIn K (.ref a_m_end_up)=true)
  (h_me_start_over_at_:PySem.W.findIn K (.ref a_LinkEnd) "start_over"=some (some (.ref a_m_start_over)))
  (h_me_start_over_fn:PySem.W.isFn K (.ref a_m_start_over)=true)
  (h_me_start_over_kp:PySem.W.keepIn K (.ref a_m_start_over)=true)
  (h_f_start_over_l:K.lookup a_m_start_over=some ⟨oc_start_over,od_start_over,.func (PySem.W.fnOf "start_over" "LinkEnd.start_over" (defArgs s_start_over) (defBody s_start_over) (defScope s_start_over) .none kV_start_over doc_start_over pm_start_over an_start_over cdv_start_over ct_start_over),osl_start_over⟩)
  (h_f_start_over_c:PySem.W.codeIn K cdv_start_over "LinkEnd.start_over"=true)
  (h_f_start_over_k:PySem.W.keepIn K (.ref a_m_start_over)=true)
  (h_me_hear_count_at_:PySem.W.findIn K (.ref a_LinkEnd) "hear_count"=some (some (.ref a_m_hear_count)))
  (h_me_hear_count_fn:PySem.W.isFn K (.ref a_m_hear_count)=true)
  (h_me_hear_count_kp:PySem.W.keepIn K (.ref a_m_hear_count)=true)
  (h_f_hear_count_l:K.lookup a_m_hear_count=some ⟨oc_hear_count,od_hear_count,.func (PySem.W.fnOf "hear_count" "LinkEnd.hear_count" (defArgs s_hear_count) (defBody s_hear_count) (defScope s_hear_count) .none kV_hear_count doc_hear_count pm_hear_count an_hear_count cdv_hear_count ct_hear_count),osl_hear_count⟩)
  (h_f_hear_count_c:PySem.W.codeIn K cdv_hear_count "LinkEnd.hear_count"=true)
  (h_f_hear_count_k:PySem.W.keepIn K (.ref a_m_hear_count)=true)
  (h_me_take_piece_at_:PySem.W.findIn K (.ref a_LinkEnd) "take_piece"=some (some (.ref a_m_take_piece)))
  (h_me_take_piece_fn:PySem.W.isFn K (.ref a_m_take_piece)=true)
  (h_me_take_piece_kp:PySem.W.keepIn K (.ref a_m_take_piece)=true)
  (h_f_take_piece_l:K.lookup a_m_take_piece=some ⟨oc_take_piece,od_take_piece,.func (PySem.W.fnOf "take_piece" "LinkEnd.take_piece" (defArgs s_take_piece) (defBody s_take_piece) (defScope s_take_piece) .none kV_take_piece doc_take_piece pm_take_piece an_take_piece cdv_take_piece ct_take_piece),osl_take_piece⟩)
  (h_f_take_piece_c:PySem.W.codeIn K cdv_take_piece "LinkEnd.take_piece"=true)
  (h_f_take_piece_k:PySem.W.keepIn K (.ref a_m_take_piece)=true)
  (h_me_put_at_:PySem.W.findIn K (.ref a_LinkEnd) "put"=some (some (.ref a_m_put)))
  (h_me_put_fn:PySem.W.isFn K (.ref a_m_put)=true)
  (h_me_put_kp:PySem.W.keepIn K (.ref a_m_put)=true)
  (h_f_put_l:K.lookup a_m_put=some ⟨oc_put,od_put,.func (PySem.W.fnOf "put" "LinkEnd.put" (defArgs s_put) (defBody s_put) (defScope s_put) .none kV_put doc_put pm_put an_put cdv_put ct_put),osl_put⟩)
  (h_f_put_c:PySem.W.codeIn K cdv_put "LinkEnd.put"=true)
  (h_f_put_k:PySem.W.keepIn K (.ref a_m_put)=true)
  (h_me_up_at_:PySem.W.findIn K (.ref a_LinkEnd) "up"=some (some (.ref a_m_up)))
  (h_me_up_fn:PySem.W.isFn K (.ref a_m_up)=true)
  (h_me_up_kp:PySem.W.keepIn K (.ref a_m_up)=true)
  (h_f_up_l:K.lookup a_m_up=some ⟨oc_up,od_up,.func (PySem.W.fnOf "up" "LinkEnd.up" (defArgs s_up) (defBody s_up) (defScope s_up) .none kV_up doc_up pm_up an_up cdv_up ct_up),osl_up⟩)
  (h_f_up_c:PySem.W.codeIn K cdv_up "LinkEnd.up"=true)
  (h_f_up_k:PySem.W.keepIn K (.ref a_m_up)=true)
  (h_me_waits_at_:PySem.W.findIn K (.ref a_LinkEnd) "waits"=some (some (.ref a_m_waits)))
  (h_me_waits_fn:PySem.W.isFn K (.ref a_m_waits)=true)
  (h_me_waits_kp:PySem.W.keepIn K (.ref a_m_waits)=true)
  (h_f_waits_l:K.lookup a_m_waits=some ⟨oc_waits,od_waits,.func (PySem.W.fnOf "waits" "LinkEnd.waits" (defArgs s_waits) (defBody s_waits) (defScope s_waits) .none kV_waits doc_waits pm_waits an_waits cdv_waits ct_waits),osl_waits⟩)
  (h_f_waits_c:PySem.W.codeIn K cdv_waits "LinkEnd.waits"=true)
  (h_f_waits_k:PySem.W.keepIn K (.ref a_m_waits)=true)
  (h_me_events_at_:PySem.W.findIn K (.ref a_LinkEnd) "events"=some (some (.ref a_m_events)))
  (h_me_events_fn:PySem.W.isFn K (.ref a_m_events)=true)
  (h_me_events_kp:PySem.W.keepIn K (.ref a_m_events)=true)
  (h_f_events_l:K.lookup a_m_events=some ⟨oc_events,od_events,.func (PySem.W.fnOf "events" "LinkEnd.events" (defArgs s_events) (defBody s_events) (defScope s_events) .none kV_events doc_events pm_events an_events cdv_events ct_events),osl_events⟩)
  (h_f_events_c:PySem.W.codeIn K cdv_events "LinkEnd.events"=true)
  (h_f_events_k:PySem.W.keepIn K (.ref a_m_events)=true)
  : ∃ t,Txt K mg t:=⟨⟨a_BadCell,a_BadMeasure,a_BadSign,a_DIVISOR,a_LinkEnd,a_init,a_m_forget_pieces,a_m_tick,a_m_cell_given,a_m_read,a_m_meet,a_m_come_up,a_m_end_up,a_m_start_over,a_m_hear_count,a_m_take_piece,a_m_put,a_m_up,a_m_waits,a_m_events⟩,⟨⟨_,PySem.W.mg_of KX G h_cBIRTH_SIGNS⟩,⟨_,PySem.W.mg_of KX G h_cCOUNT_AT⟩,⟨_,PySem.W.mg_of KX G h_cFREE_PLACES⟩,⟨_,PySem.W.mg_of KX G h_cKNOWN_AT⟩,⟨_,PySem.W.mg_of KX G h_cLENGTH_AT⟩,⟨_,PySem.W.mg_of KX G h_cMENDED_TURNS⟩,⟨_,PySem.W.mg_of KX G h_cMOST_LATE⟩,⟨_,PySem.W.mg_of KX G h_cMOST_LOST⟩,⟨_,PySem.W.mg_of KX G h_cNO_BIRTH⟩,⟨_,PySem.W.mg_of KX G h_cNUMBER_AT⟩,⟨_,PySem.W.mg_of KX G h_cPIECE_AT⟩,⟨_,PySem.W.mg_of KX G h_cPLACES⟩,⟨_,PySem.W.mg_of KX G h_cROOT⟩,⟨_,PySem.W.mg_of KX G h_cSIGNS⟩,⟨_,PySem.W.mg_of KX G h_cSUMS⟩,PySem.W.mg_none_of KX G h_n_any,PySem.W.mg_none_of KX G h_n_enumerate,PySem.W.mg_none_of KX G h_n_int,PySem.W.mg_none_of KX G h_n_len,PySem.W.mg_none_of KX G h_n_list,PySem.W.mg_none_of KX G h_n_max,PySem.W.mg_none_of KX G h_n_min,PySem.W.mg_none_of KX G h_n_range,PySem.W.mg_none_of KX G h_n_reversed,PySem.W.mg_none_of KX G h_n_tuple,PySem.W.mg_none_of KX G h_n_zip,PySem.W.mg_of KX G h_mBadCell,PySem.W.mg_of KX G h_mBadMeasure,PySem.W.mg_of KX G h_mBadSign,PySem.W.mg_of KX G h_mDIVISOR,PySem.W.mg_of KX G h_mLinkEnd,h_xBadCell,⟨h_eBadCell_ga,h_eBadCell_nga,h_eBadCell_at_,h_eBadCell_cls,h_eBadCell_obj,h_eBadCell_base⟩,h_xBadMeasure,⟨h_eBadMeasure_ga,h_eBadMeasure_nga,h_eBadMeasure_at_,h_eBadMeasure_cls,h_eBadMeasure_obj,h_eBadMeasure_base⟩,h_xBadSign,⟨h_eBadSign_ga,h_eBadSign_nga,h_eBadSign_at_,h_eBadSign_cls,h_eBadSign_obj,h_eBadSign_base⟩,⟨⟨_,_,_,h_dDIVISOR,rfl,rfl,(by show 6≤sizeLine;decide),(.cons ⟨_,rfl⟩ (.cons ⟨_,rfl⟩ (.cons ⟨_,rfl⟩ (.cons ⟨_,rfl⟩ (.cons ⟨_,rfl⟩ (.cons ⟨_,rfl⟩ .nil))))))⟩⟩,⟨h_k_makes,h_k_init,h_k_fn,h_k_kp⟩,⟨_,fun_mk h_fi_l h_fi_c h_fi_k⟩,⟨h_c_pg,h_c_hd,h_c_po,h_c_sa⟩,h_na_quiet,h_na_side,h_na_done,h_na_unheard,h_na_birth,h_na_known,h_na_pair,h_na_told,h_na_pieces,h_na_offered,h_na_taken,⟨h_me_forget_pieces_at_,h_me_forget_pieces_fn,h_me_forget_pieces_kp⟩,⟨_,fun_mk h_f_forget_pieces_l h_f_forget_pieces_c h_f_forget_pieces_k⟩,⟨h_me_tick_at_,h_me_tick_fn,h_me_tick_kp⟩,⟨_,fun_mk h_f_tick_l h_f_tick_c h_f_tick_k⟩,⟨h_me_cell_given_at_,h_me_cell_given_fn,h_me_cell_given_kp⟩,⟨_,fun_mk h_f_cell_given_l h_f_cell_given_c h_f_cell_given_k⟩,⟨h_me_read_at_,h_me_read_fn,h_me_read_kp⟩,⟨_,fun_mk h_f_read_l h_f_read_c h_f_read_k⟩,⟨h_me_meet_at_,h_me_meet_fn,h_me_meet_kp⟩,⟨_,fun_mk h_f_meet_l h_f_meet_c h_f_meet_k⟩,⟨h_me_come_up_at_,h_me_come_up_fn,h_me_come_up_kp⟩,⟨_,fun_mk h_f_come_up_l h_f_come_up_c h_f_come_up_k⟩,⟨h_me_end_up_at_,h_me_end_up_fn,h_me_end_up_kp⟩,⟨_,fun_mk h_f_end_up_l h_f_end_up_c h_f_end_up_k⟩,⟨h_me_start_over_at_,h_me_start_over_fn,h_me_start_over_kp⟩,⟨_,fun_mk h_f_start_over_l h_f_start_over_c h_f_start_over_k⟩,⟨h_me_hear_count_at_,h_me_hear_count_fn,h_me_hear_count_kp⟩,⟨_,fun_mk h_f_hear_count_l h_f_hear_count_c h_f_hear_count_k⟩,⟨h_me_take_piece_at_,h_me_take_piece_fn,h_me_take_piece_kp⟩,⟨_,fun_mk h_f_take_piece_l h_f_take_piece_c h_f_take_piece_k⟩,⟨h_me_put_at_,h_me_put_fn,h_me_put_kp⟩,⟨_,fun_mk h_f_put_l h_f_put_c h_f_put_k⟩,⟨h_me_up_at_,h_me_up_fn,h_me_up_kp⟩,⟨_,fun_mk h_f_up_l h_f_up_c h_f_up_k⟩,⟨h_me_waits_at_,h_me_waits_fn,h_me_waits_kp⟩,⟨_,fun_mk h_f_waits_l h_f_waits_c h_f_waits_k⟩,⟨h_me_events_at_,h_me_events_fn,h_me_events_kp⟩,⟨_,fun_mk h_f_events_l h_f_events_c h_f_events_k⟩⟩⟩
end K34
open PySem PySem.W PyProof.Rows
def PySem.W.Fast.tw4266527082819973486:Nat:=0
def PySem.W.Fast.tw3501589537497237163:Nat:=0
def PySem.W.Fast.tw5741134515342384532:Nat:=0
def PySem.W.Fast.tw12216819215228414982:Nat:=0
def PySem.W.Fast.tw6227241969044725286:Nat:=0
def PySem.W.Fast.tw8843637050767977080:Nat:=0
def PySem.W.Fast.tw22101286633679125:Nat:=0
def PySem.W.Fast.tw7208245669479606250:Nat:=0
def PySem.W.Fast.tw5479962148936560140:Nat:=0
def PySem.W.Fast.tw12979932391932036276:Nat:=0
def PySem.W.Fast.tw8259676993570694147:Nat:=0
def PySem.W.Fast.tw15378573705532679683:Nat:=0
def PySem.W.Fast.tw13196434670672860049:Nat:=0
def PySem.W.Fast.tw15030771242318874061:Nat:=0
def PySem.W.Fast.tw3134635918340121654:Nat:=0
def PySem.W.Fast.tw17389602826304911032:Nat:=0
def PySem.W.Fast.tw9653429803717016836:Nat:=0
def PySem.W.Fast.tw5801405777774403453:Nat:=0
def PySem.W.Fast.tw16890091843926012184:Nat:=0
def PySem.W.Fast.tw13576479375718234413:Nat:=0
def PySem.W.Fast.tw8631207927179402615:Nat:=0
def PySem.W.Fast.tw1140666723471752293:Nat:=0
def PySem.W.Fast.tw2218825421900610219:Nat:=0
def PySem.W.Fast.tw9216090826335744052:Nat:=0
def PySem.W.Fast.tw8721236064650433777:Nat:=0
def PySem.W.Fast.tw9040120471456424486:Nat:=0
def PySem.W.Fast.tw6455593468078756734:Nat:=0
def PySem.W.Fast.tw2497964049252523568:Nat:=0
def PySem.W.Fast.tw10307259727801182234:Nat:=0
def PySem.W.Fast.tw2432753300791533937:Nat:=0
def PySem.W.Fast.tw17908186731741934269:Nat:=0
def PySem.W.Fast.tw10246758664059026418:Nat:=0
def PySem.W.Fast.tw1983292182968676717:Nat:=0
def PySem.W.Fast.tw7439004345286589259:Nat:=0
def PySem.W.Fast.tw12848897809301835313:Nat:=0
def PySem.W.Fast.tw6094157563992163009:Nat:=0
def PySem.W.Fast.tw3803201825211900054:Nat:=0
def PySem.W.Fast.tw17959386305821310325:Nat:=0
def PySem.W.Fast.tw5535074272357880147:Nat:=0
def PySem.W.Fast.tw3039405281564915320:Nat:=0
def PySem.W.Fast.tw15371334571689601248:Nat:=0
def PySem.W.Fast.tw8875041694446559360:Nat:=0
def PySem.W.Fast.tw17845512681370857998:Nat:=0
def PySem.W.Fast.tw10040689313797585611:Nat:=0
def PySem.W.Fast.tw4932885860096945485:Nat:=0
def PySem.W.Fast.tw3828716616195982864:Nat:=0
def PySem.W.Fast.tw16907543953963677155:Nat:=0
def PySem.W.Fast.tw1354305322660391614:Nat:=0
def PySem.W.Fast.tw15167996811938420502:Nat:=0
def PySem.W.Fast.tw5533594215438084423:Nat:=0
def PySem.W.Fast.tw3889278595772411559:Nat:=0
def PySem.W.Fast.tw14595021353433033161:Nat:=0
def PySem.W.Fast.tw10495019380108624803:Nat:=0
def PySem.W.Fast.tw16767492353647750085:Nat:=0
def PySem.W.Fast.tw3033691697744265112:Nat:=0
def PySem.W.Fast.tw14905798239411623377:Nat:=0
def PySem.W.Fast.tw4234143833439460111:Nat:=0
def PySem.W.Fast.tw17095530717674905269:Nat:=0
def PySem.W.Fast.tw16709999691698453506:Nat:=0
def PySem.W.Fast.tw9808573498417760968:Nat:=0
def PySem.W.Fast.tw7977526317122856957:Nat:=0
def PySem.W.Fast.tw12040768809153017095:Nat:=0
def PySem.W.Fast.tw1305407769846666228:Nat:=0
def PySem.W.Fast.tw18145487383955353153:Nat:=0
def PySem.W.Fast.tw16786791705746739342:Nat:=0
def PySem.W.Fast.tw2975670475967577296:Nat:=0
def PySem.W.Fast.tw11433990001932754631:Nat:=0
def PySem.W.Fast.tw11869386351617476412:Nat:=0
def PySem.W.Fast.tw10545187153456202987:Nat:=0
def PySem.W.Fast.tw3610346654242895798:Nat:=0
def PySem.W.Fast.tw14801123680899614158:Nat:=0
def PySem.W.Fast.tw16368781766037262594:Nat:=0
def PySem.W.Fast.tw15224468541234624386:Nat:=0
def PySem.W.Fast.tw12058861522145282232:Nat:=0
def PySem.W.Fast.tw6502525076838138083:Nat:=0
def PySem.W.Fast.tw7154163384193458717:Nat:=0
def PySem.W.Fast.tw12409307295782421844:Nat:=0
def PySem.W.Fast.tw14070376519889743730:Nat:=0
def PySem.W.Fast.tw17083392570867400741:Nat:=0
def PySem.W.Fast.tw16885032706671963073:Nat:=0
def PySem.W.Fast.tw9415604549137589091:Nat:=0
def PySem.W.Fast.tw7957415401655437385:Nat:=0
def PySem.W.Fast.tw8879767693063438802:Nat:=0
def PySem.W.Fast.tw5118938054802705031:Nat:=0
def PySem.W.Fast.tw3241491945568051252:Nat:=0
def PySem.W.Fast.tw4923107177697468426:Nat:=0
def PySem.W.Fast.tw5829730381789834014:Nat:=0
def PySem.W.Fast.tw1250178906115220690:Nat:=0
def PySem.W.Fast.tw9404417807987855774:Nat:=0
def PySem.W.Fast.tw4965133374459897517:Nat:=0
def PySem.W.Fast.tw12993467220583212476:Nat:=0
def PySem.W.Fast.tw2774903423576083102:Nat:=0
def PySem.W.Fast.tw1941223130453875010:Nat:=0
def PySem.W.Fast.tw6034150688081708599:Nat:=0
def PySem.W.Fast.tw3346333447929509217:Nat:=0
def PySem.W.Fast.tw5687941196753240038:Nat:=0
def PySem.W.Fast.tw8183489570299252448:Nat:=0
def PySem.W.Fast.tw11840000192651893134:Nat:=0
def PySem.W.Fast.tw7544975028924963013:Nat:=0
def PySem.W.Fast.tw8033984087574176267:Nat:=0
def PySem.W.Fast.tw9559157512039174512:Nat:=0
def PySem.W.Fast.tw11098551275601142705:Nat:=0
def PySem.W.Fast.tw10756970463421173485:Nat:=0
def PySem.W.Fast.tw12810867774814441891:Nat:=0
def PySem.W.Fast.tw3981631965176887722:Nat:=0
def PySem.W.Fast.tw10512231283455566374:Nat:=0
def PySem.W.Fast.tw8530912063305345559:Nat:=0
def PySem.W.Fast.tw8393868707107929614:Nat:=0
def PySem.W.Fast.tw3137423768611732032:Nat:=0
def PySem.W.Fast.tw2708981399986817814:Nat:=0
def PySem.W.Fast.tw16234528301868055620:Nat:=0
def PySem.W.Fast.tw9094508750787486953:Nat:=0
def PySem.W.Fast.tw15019669760892113834:Nat:=0
def PySem.W.Fast.tw16459120661245316508:Nat:=0
def PySem.W.Fast.tw15247107236706935941:Nat:=0
def PySem.W.Fast.tw6730380462097642518:Nat:=0
def PySem.W.Fast.tw8989420991352868209:Nat:=0
def PySem.W.Fast.tw10299909453404609118:Nat:=0
def PySem.W.Fast.tw7350098768072438590:Nat:=0
def PySem.W.Fast.tw11910732883656614220:Nat:=0
def PySem.W.Fast.tw7260197431850010175:Nat:=0
def PySem.W.Fast.tw11076269144217856785:Nat:=0
def PySem.W.Fast.tw18121798937096823144:Nat:=0
def PySem.W.Fast.tw14423818314159239433:Nat:=0
def PySem.W.Fast.tw15650133090139523911:Nat:=0
def PySem.W.Fast.tw8899880544063903879:Nat:=0
def PySem.W.Fast.tw2863617138268771290:Nat:=0
def PySem.W.Fast.tw2247301994360991695:Nat:=0
def PySem.W.Fast.tw12676457088415592984:Nat:=0
def PySem.W.Fast.tw2034076396601613594:Nat:=0
def PySem.W.Fast.tw15433137193027505335:Nat:=0
def PySem.W.Fast.tw11911050222594248576:Nat:=0
def PySem.W.Fast.tw8619222617530141303:Nat:=0
def PySem.W.Fast.tw14257269791042502564:Nat:=0
def PySem.W.Fast.tw11428607295600024737:Nat:=0
def PySem.W.Fast.tw13405303441146558916:Nat:=0
def PySem.W.Fast.tw3942683158352393720:Nat:=0
def PySem.W.Fast.tw2757655243889135023:Nat:=0
def PySem.W.Fast.tw949156937876713527:Nat:=0
def PySem.W.Fast.tw18027396295059624052:Nat:=0
def PySem.W.Fast.tw2879340467986955186:Nat:=0
def PySem.W.Fast.tw2728821520143931574:Nat:=0
def PySem.W.Fast.tw16248085134168301938:Nat:=0
def PySem.W.Fast.tw3073123126418851053:Nat:=0
def PySem.W.Fast.tw15060379460517849211:Nat:=0
def PySem.W.Fast.tw717115998135597314:Nat:=0
def PySem.W.Fast.tw3763614358013108662:Nat:=0
def PySem.W.Fast.tw3046247508860005158:Nat:=0
def PySem.W.Fast.tw11462335470421110822:Nat:=0
def PySem.W.Fast.tw18410804496064326749:Nat:=0
def PySem.W.Fast.tw10961378003494395018:Nat:=0
def PySem.W.Fast.tw5449285468559833639:Nat:=0
def PySem.W.Fast.tw17061397537438840302:Nat:=0
def PySem.W.Fast.tw8512467864232214480:Nat:=0
def PySem.W.Fast.tw3682984269582611319:Nat:=0
def PySem.W.Fast.tw2305500230958590065:Nat:=0
def PySem.W.Fast.tw17362342919097305436:Nat:=0
def PySem.W.Fast.tw18168927856851989678:Nat:=0
def PySem.W.Fast.tw17732918180120674792:Nat:=0
def PySem.W.Fast.tw11936838215838789510:Nat:=0
def PySem.W.Fast.tw8475400933993253956:Nat:=0
def PySem.W.Fast.tw7654288103346224755:Nat:=0
def PySem.W.Fast.tw5677482140463447497:Nat:=0
def PySem.W.Fast.tw4117108171469910111:Nat:=0
def PySem.W.Fast.tw3454123654834328848:Nat:=0
def PySem.W.Fast.tw1298201938318102422:Nat:=0
def PySem.W.Fast.tw1840283220328257587:Nat:=0
def PySem.W.Fast.tw9721449964561557028:Nat:=0
def PySem.W.Fast.tw1713294019528184084:Nat:=0
def PySem.W.Fast.tw5253957525165106879:Nat:=0
def PySem.W.Fast.tw13682893203122576759:Nat:=0
def PySem.W.Fast.tw12259887802914291530:Nat:=0
def PySem.W.Fast.tw1286387987704352858:Nat:=0
def PySem.W.Fast.tw18083167512327598910:Nat:=0
def PySem.W.Fast.tw14813781929396659650:Nat:=0
def PySem.W.Fast.tw3596735478877261665:Nat:=0
def PySem.W.Fast.tw14965002144945292150:Nat:=0
def PySem.W.Fast.tw12495352286007784390:Nat:=0
def PySem.W.Fast.tw10126928495448685683:Nat:=0
def PySem.W.Fast.tw1033333671502589659:Nat:=0
def PySem.W.Fast.tw8151267641071753842:Nat:=0
def PySem.W.Fast.tw12713729766825637336:Nat:=0
def PySem.W.Fast.tw8336744143594860911:Nat:=0
def PySem.W.Fast.tw4990143889067705630:Nat:=0
def PySem.W.Fast.tw9947604878464866549:Nat:=0
def PySem.W.Fast.tw17492947748086126678:Nat:=0
def PySem.W.Fast.tw1167276546461806229:Nat:=0
def PySem.W.Fast.tw10952985146272632417:Nat:=0
def PySem.W.Fast.tw8143252909433175365:Nat:=0
def PySem.W.Fast.tw6435482902471105016:Nat:=0
def PySem.W.Fast.tw5876054632122663518:Nat:=0
def PySem.W.Fast.tw2163422965370814384:Nat:=0
def PySem.W.Fast.tw2462403805702552151:Nat:=0
def PySem.W.Fast.tw13230139498792174496:Nat:=0
def PySem.W.Fast.tw7417913443428299606:Nat:=0
def PySem.W.Fast.tw13394169282220089853:Nat:=0
def PySem.W.Fast.tw1904990883538776055:Nat:=0
def PySem.W.Fast.tw11274472437110583065:Nat:=0
def PySem.W.Fast.tw18346804084106993430:Nat:=0
def PySem.W.Fast.tw3440488550538549367:Nat:=0
def PySem.W.Fast.tw4727867344086365803:Nat:=0
def PySem.W.Fast.tw3593084191486308484:Nat:=0
def PySem.W.Fast.tw3393005303132486321:Nat:=0
def PySem.W.Fast.tw17110380241973616302:Nat:=0
def PySem.W.Fast.tw9503880008493059951:Nat:=0
def PySem.W.Fast.tw14848546613999479884:Nat:=0
def PySem.W.Fast.tw18237474015384179283:Nat:=0
def PySem.W.Fast.tw12413031264653292398:Nat:=0
def PySem.W.Fast.tw13384863182802448094:Nat:=0
def PySem.W.Fast.tw13472018830098731193:Nat:=0
def PySem.W.Fast.tw13331280573123591982:Nat:=0
def PySem.W.Fast.tw8807475582654919638:Nat:=0
def PySem.W.Fast.tw4031882858026759018:Nat:=0
def PySem.W.Fast.tw3925951979345083254:Nat:=0
def PySem.W.Fast.tw15304636875260721542:Nat:=0
def PySem.W.Fast.tw7933472510530792840:Nat:=0
def PySem.W.Fast.tw15579599215995639448:Nat:=0
def PySem.W.Fast.tw11285842549572916395:Nat:=0
def PySem.W.Fast.tw7020174373265024533:Nat:=0
def PySem.W.Fast.tw5900833054785482003:Nat:=0
def PySem.W.Fast.tw2807776142980753366:Nat:=0
def PySem.W.Fast.tw10073381233180711268:Nat:=0
def PySem.W.Fast.tw2471454378129594667:Nat:=0
def PySem.W.Fast.tw13242471211919234:Nat:=0
def PySem.W.Fast.tw15480608921712250226:Nat:=0
def PySem.W.Fast.tw4188276571956063271:Nat:=0
def PySem.W.Fast.tw12866919033637185239:Nat:=0
def PySem.W.Fast.tw13889322223099221812:Nat:=0
def PySem.W.Fast.tw1222255292782052069:Nat:=0
def PySem.W.Fast.tw7245303600037999404:Nat:=0
def PySem.W.Fast.tw6442759746165092507:Nat:=0
def PySem.W.Fast.tw13364420477456963961:Nat:=0
def PySem.W.Fast.tw18124432056097345998:Nat:=0
def PySem.W.Fast.tw7710759512372858097:Nat:=0
def PySem.W.Fast.tw8793192345589654059:Nat:=0
def PySem.W.Fast.tw4945414217375151438:Nat:=0
def PySem.W.Fast.tw3806800333169452039:Nat:=0
def PySem.W.Fast.tw2393717169757518555:Nat:=0
def PySem.W.Fast.tw3715623491383741010:Nat:=0
def PySem.W.Fast.tw4787724154533527620:Nat:=0
def PySem.W.Fast.tw13353406618068676377:Nat:=0
def PySem.W.Fast.tw11099889536493127372:Nat:=0
def PySem.W.Fast.tw16326265977632395061:Nat:=0
def PySem.W.Fast.tw11943461231911817904:Nat:=0
def PySem.W.Fast.tw10246734477948070797:Nat:=0
def PySem.W.Fast.tw17599321033828517602:Nat:=0
def PySem.W.Fast.tw10442236661723211820:Nat:=0
def PySem.W.Fast.tw17260309544082296953:Nat:=0
def PySem.W.Fast.tw8254288531838933161:Nat:=0
def PySem.W.Fast.tw7277795776454059610:Nat:=0
def PySem.W.Fast.tw4217749783534797544:Nat:=0
def PySem.W.Fast.tw11368975052248601833:Nat:=0
def PySem.W.Fast.tw18334237155804701041:Nat:=0
def PySem.W.Fast.tw12665848183316411195:Nat:=0
def PySem.W.Fast.tw7218813832985120781:Nat:=0
def PySem.W.Fast.tw4253410040310412731:Nat:=0
def PySem.W.Fast.tw1572088625720054269:Nat:=0
def PySem.W.Fast.tw13905381907458818306:Nat:=0
def PySem.W.Fast.tw5403874670724327583:Nat:=0
def PySem.W.Fast.tw3488884596520250227:Nat:=0
def PySem.W.Fast.tw2906748317433883489:Nat:=0
def PySem.W.Fast.tw16978593115523727478:Nat:=0
def PySem.W.Fast.tw11448620527875716848:Nat:=0
def PySem.W.Fast.tw16603786911034900317:Nat:=0
def PySem.W.Fast.tw8038608330237730473:Nat:=0
def PySem.W.Fast.tw16698745679919896203:Nat:=0
def PySem.W.Fast.tw13651261488558472247:Nat:=0
def PySem.W.Fast.tw10754371278290405432:Nat:=0
def PySem.W.Fast.tw3062021970837383676:Nat:=0
def PySem.W.Fast.tw8180003231123061507:Nat:=0
def PySem.W.Fast.tw2336192648424278748:Nat:=0
def PySem.W.Fast.tw17100449081877178136:Nat:=0
def PySem.W.Fast.tw14935998194302799060:Nat:=0
def PySem.W.Fast.tw10196277492066162720:Nat:=0
def PySem.W.Fast.tw3073141655368235340:Nat:=0
def PySem.W.Fast.tw2901515462567380876:Nat:=0
def PySem.W.Fast.tw10312144069552416778:Nat:=0
def PySem.W.Fast.tw9026931576864884461:Nat:=0
def PySem.W.Fast.tw6543962986447370787:Nat:=0
def PySem.W.Fast.tw2678095069188841521:Nat:=0
def PySem.W.Fast.tw156857118913737083:Nat:=0
def PySem.W.Fast.tw484346439608663197:Nat:=0
def PySem.W.Fast.tw6169079145603543051:Nat:=0
def PySem.W.Fast.tw2951513950858245378:Nat:=0
def PySem.W.Fast.tw15904045591327702876:Nat:=0
def PySem.W.Fast.tw15421162490319058121:Nat:=0
def PySem.W.Fast.tw9856303120803140898:Nat:=0
def PySem.W.Fast.tw4209321585955533044:Nat:=0
def PySem.W.Fast.tw4579690987026316244:Nat:=0
def PySem.W.Fast.tw13662919543941266326:Nat:=0
def PySem.W.Fast.tw4834222017844771825:Nat:=0
def PySem.W.Fast.tw4019456048710029148:Nat:=0
def PySem.W.Fast.tw9398575014348029908:Nat:=0
def PySem.W.Fast.tw7451182568687814159:Nat:=0
def PySem.W.Fast.tw1542587191477345672:Nat:=0
def PySem.W.Fast.tw14754330870154212543:Nat:=0
def PySem.W.Fast.tw5225555384161946094:Nat:=0
def PySem.W.Fast.tw14717964632145744587:Nat:=0
def PySem.W.Fast.tw4142749061443900537:Nat:=0
set_option maxRecDepth 100000 in
set_option maxHeartbeats 0 in
theorem PySem.Challenge.cw_stormpost_k34_whole_silence_is_a_breach_holds : PySem.Challenge.rw_stormpost_k34_whole_silence_is_a_breach.Holds := by
 w_on;o_law;k_head;(case hw=>w_witness2)
 k_fill
 refine L2.walk_ofS (l:=PySem.Challenge.rw_stormpost_k34_whole_silence_is_a_breach) (k:=13) ⟨rfl,by decide,by decide⟩ rfl rfl (fun w h Y=>PySem.W.kIn_of Y) ?F
 case F =>
  intro w mg fa h KX G hmg
  have S_is_sign:L2.Site (L2.KOf KX) mg "is_sign" K34.s_is_sign:=by
   dsimp only [L2.KOf]
   refine' L2.Site.mk' KX G ?a ?l ?c ?k
   (case a=>k_is);(case l=>k_is);(case c=>k_is);(case k=>k_is)
  have S_look_sign:L2.Site (L2.KOf KX) mg "look_sign" K34.s_look_sign:=by
   dsimp only [L2.KOf]
   refine' L2.Site.mk' KX G ?a ?l ?c ?k
   (case a=>k_is);(case l=>k_is);(case c=>k_is);(case k=>k_is)
  have S_look_unit:L2.Site (L2.KOf KX) mg "look_unit" K34.s_look_unit:=by
   dsimp only [L2.KOf]
   refine' L2.Site.mk' KX G ?a ?l ?c ?k
   (case a=>k_is);(case l=>k_is);(case c=>k_is);(case k=>k_is)
  have S_power:L2.Site (L2.KOf KX) mg "power" K34.s_power:=by
   dsimp only [L2.KOf]
   refine' L2.Site.mk' KX G ?a ?l ?c ?k
   (case a=>k_is);(case l=>k_is);(case c=>k_is);(case k=>k_is)
  have S_inverse:L2.Site (L2.KOf KX) mg "inverse" K34.s_inverse:=by
   dsimp only [L2.KOf]
   refine' L2.Site.mk' KX G ?a ?l ?c ?k
   (case a=>k_is);(case l=>k_is);(case c=>k_is);(case k=>k_is)
  have S_exponent:L2.Site (L2.KOf KX) mg "exponent" K34.s_exponent:=by
   dsimp only [L2.KOf]
   refine' L2.Site.mk' KX G ?a ?l ?c ?k
   (case a=>k_is);(case l=>k_is);(case c=>k_is);(case k=>k_is)
  have S_equation:L2.Site (L2.KOf KX) mg "equation" K34.s_equation:=by
   dsimp only [L2.KOf]
   refine' L2.Site.mk' KX G ?a ?l ?c ?k
   (case a=>k_is);(case l=>k_is);(case c=>k_is);(case k=>k_is)
  have S_pivot_place:L2.Site (L2.KOf KX) mg "pivot_place" K34.s_pivot_place:=by
   dsimp only [L2.KOf]
   refine' L2.Site.mk' KX G ?a ?l ?c ?k
   (case a=>k_is);(case l=>k_is);(case c=>k_is);(case k=>k_is)
  have S_exchanged:L2.Site (L2.KOf KX) mg "exchanged" K34.s_exchanged:=by
   dsimp only [L2.KOf]
   refine' L2.Site.mk' KX G ?a ?l ?c ?k
   (case a=>k_is);(case l=>k_is);(case c=>k_is);(case k=>k_is)
  have S_lessened:L2.Site (L2.KOf KX) mg "lessened" K34.s_lessened:=by
   dsimp only [L2.KOf]
   refine' L2.Site.mk' KX G ?a ?l ?c ?k
   (case a=>k_is);(case l=>k_is);(case c=>k_is);(case k=>k_is)
  have S_cleared:L2.Site (L2.KOf KX) mg "cleared" K34.s_cleared:=by
   dsimp only [L2.KOf]
   refine' L2.Site.mk' KX G ?a ?l ?c ?k
   (case a=>k_is);(case l=>k_is);(case c=>k_is);(case k=>k_is)
  have S_solved:L2.Site (L2.KOf KX) mg "solved" K34.s_solved:=by
   dsimp only [L2.KOf]
   refine' L2.Site.mk' KX G ?a ?l ?c ?k
   (case a=>k_is);(case l=>k_is);(case c=>k_is);(case k=>k_is)
  have S_look_signs:L2.Site (L2.KOf KX) mg "look_signs" K34.s_look_signs:=by
   dsimp only [L2.KOf]
   refine' L2.Site.mk' KX G ?a ?l ?c ?k
   (case a=>k_is);(case l=>k_is);(case c=>k_is);(case k=>k_is)
  have S_look_cell:L2.Site (L2.KOf KX) mg "look_cell" K34.s_look_cell:=by
   dsimp only [L2.KOf]
   refine' L2.Site.mk' KX G ?a ?l ?c ?k
   (case a=>k_is);(case l=>k_is);(case c=>k_is);(case k=>k_is)
  have S_value_at:L2.Site (L2.KOf KX) mg "value_at" K34.s_value_at:=by
   dsimp only [L2.KOf]
   refine' L2.Site.mk' KX G ?a ?l ?c ?k
   (case a=>k_is);(case l=>k_is);(case c=>k_is);(case k=>k_is)
  have S_troubles:L2.Site (L2.KOf KX) mg "troubles" K34.s_troubles:=by
   dsimp only [L2.KOf]
   refine' L2.Site.mk' KX G ?a ?l ?c ?k
   (case a=>k_is);(case l=>k_is);(case c=>k_is);(case k=>k_is)
  have S_is_sealed:L2.Site (L2.KOf KX) mg "is_sealed" K34.s_is_sealed:=by
   dsimp only [L2.KOf]
   refine' L2.Site.mk' KX G ?a ?l ?c ?k
   (case a=>k_is);(case l=>k_is);(case c=>k_is);(case k=>k_is)
  have S_carried:L2.Site (L2.KOf KX) mg "carried" K34.s_carried:=by
   dsimp only [L2.KOf]
   refine' L2.Site.mk' KX G ?a ?l ?c ?k
   (case a=>k_is);(case l=>k_is);(case c=>k_is);(case k=>k_is)
  have S_sealed:L2.Site (L2.KOf KX) mg "sealed" K34.s_sealed:=by
   dsimp only [L2.KOf]
   refine' L2.Site.mk' KX G ?a ?l ?c ?k
   (case a=>k_is);(case l=>k_is);(case c=>k_is);(case k=>k_is)
  have S_look_late:L2.Site (L2.KOf KX) mg "look_late" K34.s_look_late:=by
   dsimp only [L2.KOf]
   refine' L2.Site.mk' KX G ?a ?l ?c ?k
   (case a=>k_is);(case l=>k_is);(case c=>k_is);(case k=>k_is)
  have S_look_measure:L2.Site (L2.KOf KX) mg "look_measure" K34.s_look_measure:=by
   dsimp only [L2.KOf]
   refine' L2.Site.mk' KX G ?a ?l ?c ?k
   (case a=>k_is);(case l=>k_is);(case c=>k_is);(case k=>k_is)
  have S_is_fit:L2.Site (L2.KOf KX) mg "is_fit" K34.s_is_fit:=by
   dsimp only [L2.KOf]
   refine' L2.Site.mk' KX G ?a ?l ?c ?k
   (case a=>k_is);(case l=>k_is);(case c=>k_is);(case k=>k_is)
  have S_quiet_of:L2.Site (L2.KOf KX) mg "quiet_of" K34.s_quiet_of:=by
   dsimp only [L2.KOf]
   refine' L2.Site.mk' KX G ?a ?l ?c ?k
   (case a=>k_is);(case l=>k_is);(case c=>k_is);(case k=>k_is)
  have S_breach:L2.Site (L2.KOf KX) mg "breach" K34.s_breach:=by
   dsimp only [L2.KOf]
   refine' L2.Site.mk' KX G ?a ?l ?c ?k
   (case a=>k_is);(case l=>k_is);(case c=>k_is);(case k=>k_is)
  have S_keeps:L2.Site (L2.KOf KX) mg "keeps" K34.s_keeps:=by
   dsimp only [L2.KOf]
   refine' L2.Site.mk' KX G ?a ?l ?c ?k
   (case a=>k_is);(case l=>k_is);(case c=>k_is);(case k=>k_is)
  have S_lone_place:L2.Site (L2.KOf KX) mg "lone_place" K34.s_lone_place:=by
   dsimp only [L2.KOf]
   refine' L2.Site.mk' KX G ?a ?l ?c ?k
   (case a=>k_is);(case l=>k_is);(case c=>k_is);(case k=>k_is)
  have S_is_root:L2.Site (L2.KOf KX) mg "is_root" K34.s_is_root:=by
   dsimp only [L2.KOf]
   refine' L2.Site.mk' KX G ?a ?l ?c ?k
   (case a=>k_is);(case l=>k_is);(case c=>k_is);(case k=>k_is)
  have S_turned_places:L2.Site (L2.KOf KX) mg "turned_places" K34.s_turned_places:=by
   dsimp only [L2.KOf]
   refine' L2.Site.mk' KX G ?a ?l ?c ?k
   (case a=>k_is);(case l=>k_is);(case c=>k_is);(case k=>k_is)
  have S_turns_at:L2.Site (L2.KOf KX) mg "turns_at" K34.s_turns_at:=by
   dsimp only [L2.KOf]
   refine' L2.Site.mk' KX G ?a ?l ?c ?k
   (case a=>k_is);(case l=>k_is);(case c=>k_is);(case k=>k_is)
  have S_mended:L2.Site (L2.KOf KX) mg "mended" K34.s_mended:=by
   dsimp only [L2.KOf]
   refine' L2.Site.mk' KX G ?a ?l ?c ?k
   (case a=>k_is);(case l=>k_is);(case c=>k_is);(case k=>k_is)
  have S_is_readable:L2.Site (L2.KOf KX) mg "is_readable" K34.s_is_readable:=by
   dsimp only [L2.KOf]
   refine' L2.Site.mk' KX G ?a ?l ?c ?k
   (case a=>k_is);(case l=>k_is);(case c=>k_is);(case k=>k_is)
  have S_number_signs:L2.Site (L2.KOf KX) mg "number_signs" K34.s_number_signs:=by
   dsimp only [L2.KOf]
   refine' L2.Site.mk' KX G ?a ?l ?c ?k
   (case a=>k_is);(case l=>k_is);(case c=>k_is);(case k=>k_is)
  have S_signs_number:L2.Site (L2.KOf KX) mg "signs_number" K34.s_signs_number:=by
   dsimp only [L2.KOf]
   refine' L2.Site.mk' KX G ?a ?l ?c ?k
   (case a=>k_is);(case l=>k_is);(case c=>k_is);(case k=>k_is)
  have S_is_told:L2.Site (L2.KOf KX) mg "is_told" K34.s_is_told:=by
   dsimp only [L2.KOf]
   refine' L2.Site.mk' KX G ?a ?l ?c ?k
   (case a=>k_is);(case l=>k_is);(case c=>k_is);(case k=>k_is)
  have S_is_shown:L2.Site (L2.KOf KX) mg "is_shown" K34.s_is_shown:=by
   dsimp only [L2.KOf]
   refine' L2.Site.mk' KX G ?a ?l ?c ?k
   (case a=>k_is);(case l=>k_is);(case c=>k_is);(case k=>k_is)
  have S_broken_by:L2.Site (L2.KOf KX) mg "broken_by" K34.s_broken_by:=by
   dsimp only [L2.KOf]
   refine' L2.Site.mk' KX G ?a ?l ?c ?k
   (case a=>k_is);(case l=>k_is);(case c=>k_is);(case k=>k_is)
  have S__law_cell:L2.Site (L2.KOf KX) mg "_law_cell" K34.s__law_cell:=by
   dsimp only [L2.KOf]
   refine' L2.Site.mk' KX G ?a ?l ?c ?k
   (case a=>k_is);(case l=>k_is);(case c=>k_is);(case k=>k_is)
  have S__law_numbers:L2.Site (L2.KOf KX) mg "_law_numbers" K34.s__law_numbers:=by
   dsimp only [L2.KOf]
   refine' L2.Site.mk' KX G ?a ?l ?c ?k
   (case a=>k_is);(case l=>k_is);(case c=>k_is);(case k=>k_is)
  have S__law_measure:L2.Site (L2.KOf KX) mg "_law_measure" K34.s__law_measure:=by
   dsimp only [L2.KOf]
   refine' L2.Site.mk' KX G ?a ?l ?c ?k
   (case a=>k_is);(case l=>k_is);(case c=>k_is);(case k=>k_is)
  have S__law_turns:L2.Site (L2.KOf KX) mg "_law_turns" K34.s__law_turns:=by
   dsimp only [L2.KOf]
   refine' L2.Site.mk' KX G ?a ?l ?c ?k
   (case a=>k_is);(case l=>k_is);(case c=>k_is);(case k=>k_is)
  have S__law_fate:L2.Site (L2.KOf KX) mg "_law_fate" K34.s__law_fate:=by
   dsimp only [L2.KOf]
   refine' L2.Site.mk' KX G ?a ?l ?c ?k
   (case a=>k_is);(case l=>k_is);(case c=>k_is);(case k=>k_is)
  have S__law_turned:L2.Site (L2.KOf KX) mg "_law_turned" K34.s__law_turned:=by
   dsimp only [L2.KOf]
   refine' L2.Site.mk' KX G ?a ?l ?c ?k
   (case a=>k_is);(case l=>k_is);(case c=>k_is);(case k=>k_is)
  have S__law_give:L2.Site (L2.KOf KX) mg "_law_give" K34.s__law_give:=by
   dsimp only [L2.KOf]
   refine' L2.Site.mk' KX G ?a ?l ?c ?k
   (case a=>k_is);(case l=>k_is);(case c=>k_is);(case k=>k_is)
  have S__law_dead:L2.Site (L2.KOf KX) mg "_law_dead" K34.s__law_dead:=by
   dsimp only [L2.KOf]
   refine' L2.Site.mk' KX G ?a ?l ?c ?k
   (case a=>k_is);(case l=>k_is);(case c=>k_is);(case k=>k_is)
  have S__law_kept:L2.Site (L2.KOf KX) mg "_law_kept" K34.s__law_kept:=by
   dsimp only [L2.KOf]
   refine' L2.Site.mk' KX G ?a ?l ?c ?k
   (case a=>k_is);(case l=>k_is);(case c=>k_is);(case k=>k_is)
  have S__law_silent_right:L2.Site (L2.KOf KX) mg "_law_silent_right" K34.s__law_silent_right:=by
   dsimp only [L2.KOf]
   refine' L2.Site.mk' KX G ?a ?l ?c ?k
   (case a=>k_is);(case l=>k_is);(case c=>k_is);(case k=>k_is)
  have S__law_events_right:L2.Site (L2.KOf KX) mg "_law_events_right" K34.s__law_events_right:=by
   dsimp only [L2.KOf]
   refine' L2.Site.mk' KX G ?a ?l ?c ?k
   (case a=>k_is);(case l=>k_is);(case c=>k_is);(case k=>k_is)
  have S_law:L2.Site (L2.KOf KX) mg "law" K34.s_law:=by
   dsimp only [L2.KOf]
   refine' L2.Site.mk' KX G ?a ?l ?c ?k
   (case a=>k_is);(case l=>k_is);(case c=>k_is);(case k=>k_is)
  have T:∃ t,K34.Txt (L2.KOf KX) mg t:=by
   dsimp only [L2.KOf]
   refine' K34.txt_mk KX G ?h_mBadCell ?h_mBadMeasure ?h_mBadSign ?h_mDIVISOR ?h_mLinkEnd ?h_cBIRTH_SIGNS ?h_cCOUNT_AT ?h_cFREE_PLACES ?h_cKNOWN_AT ?h_cLENGTH_AT ?h_cMENDED_TURNS ?h_cMOST_LATE ?h_cMOST_LOST ?h_cNO_BIRTH ?h_cNUMBER_AT ?h_cPIECE_AT ?h_cPLACES ?h_cROOT ?h_cSIGNS ?h_cSUMS ?h_n_any ?h_n_enumerate ?h_n_int ?h_n_len ?h_n_list ?h_n_max ?h_n_min ?h_n_range ?h_n_reversed ?h_n_tuple ?h_n_zip ?h_xBadCell ?h_eBadCell_ga ?h_eBadCell_nga ?h_eBadCell_at_ ?h_eBadCell_cls ?h_eBadCell_obj ?h_eBadCell_base ?h_xBadMeasure ?h_eBadMeasure_ga ?h_eBadMeasure_nga ?h_eBadMeasure_at_ ?h_eBadMeasure_cls ?h_eBadMeasure_obj ?h_eBadMeasure_base ?h_xBadSign ?h_eBadSign_ga ?h_eBadSign_nga ?h_eBadSign_at_ ?h_eBadSign_cls ?h_eBadSign_obj ?h_eBadSign_base ?h_dDIVISOR ?h_k_makes ?h_k_init ?h_k_fn ?h_k_kp ?h_fi_l ?h_fi_c ?h_fi_k ?h_c_pg ?h_c_hd ?h_c_po ?h_c_sa ?h_na_quiet ?h_na_side ?h_na_done ?h_na_unheard ?h_na_birth ?h_na_known ?h_na_pair ?h_na_told ?h_na_pieces ?h_na_offered ?h_na_taken ?h_me_forget_pieces_at_ ?h_me_forget_pieces_fn ?h_me_forget_pieces_kp ?h_f_forget_pieces_l ?h_f_forget_pieces_c ?h_f_forget_pieces_k ?h_me_tick_at_ ?h_me_tick_fn ?h_me_tick_kp ?h_f_tick_l ?h_f_tick_c ?h_f_tick_k ?h_me_cell_given_at_ ?h_me_cell_given_fn ?h_me_cell_given_kp ?h_f_cell_given_l ?h_f_cell_given_c ?h_f_cell_given_k ?h_me_read_at_ ?h_me_read_fn ?h_me_read_kp ?h_f_read_l ?h_f_read_c ?h_f_read_k ?h_me_meet_at_ ?h_me_meet_fn ?h_me_meet_kp ?h_f_meet_l ?h_f_meet_c ?h_f_meet_k ?h_me_come_up_at_ ?h_me_come_up_fn ?h_me_come_up_kp ?h_f_come_up_l ?h_f_come_up_c ?h_f_come_up_k ?h_me_end_up_at_ ?h_me_end_up_fn ?h_me_end_up_kp ?h_f_end_up_l ?h_f_end_up_c ?h_f_end_up_k ?h_me_start_over_at_ ?h_me_start_over_fn ?h_me_start_over_kp ?h_f_start_over_l ?h_f_start_over_c ?h_f_start_over_k ?h_me_hear_count_at_ ?h_me_hear_count_fn ?h_me_hear_count_kp ?h_f_hear_count_l ?h_f_hear_count_c ?h_f_hear_count_k ?h_me_take_piece_at_ ?h_me_take_piece_fn ?h_me_take_piece_kp ?h_f_take_piece_l ?h_f_take_piece_c ?h_f_take_piece_k ?h_me_put_at_ ?h_me_put_fn ?h_me_put_kp ?h_f_put_l ?h_f_put_c ?h_f_put_k ?h_me_up_at_ ?h_me_up_fn ?h_me_up_kp ?h_f_up_l ?h_f_up_c ?h_f_up_k ?h_me_waits_at_ ?h_me_waits_fn ?h_me_waits_kp ?h_f_waits_l ?h_f_waits_c ?h_f_waits_k ?h_me_events_at_ ?h_me_events_fn ?h_me_events_kp ?h_f_events_l ?h_f_events_c ?h_f_events_k
   (case h_mBadCell=>k_is)
   (case h_mBadMeasure=>k_is)
   (case h_mBadSign=>k_is)
   (case h_mDIVISOR=>k_is)
   (case h_mLinkEnd=>k_is)
   (case h_cBIRTH_SIGNS=>k_is)
   (case h_cCOUNT_AT=>k_is)
   (case h_cFREE_PLACES=>k_is)
   (case h_cKNOWN_AT=>k_is)
   (case h_cLENGTH_AT=>k_is)
   (case h_cMENDED_TURNS=>k_is)
   (case h_cMOST_LATE=>k_is)
   (case h_cMOST_LOST=>k_is)
   (case h_cNO_BIRTH=>k_is)
   (case h_cNUMBER_AT=>k_is)
   (case h_cPIECE_AT=>k_is)
   (case h_cPLACES=>k_is)
   (case h_cROOT=>k_is)
   (case h_cSIGNS=>k_is)
   (case h_cSUMS=>k_is)
   (case h_n_any=>k_is)
   (case h_n_enumerate=>k_is)
   (case h_n_int=>k_is)
   (case h_n_len=>k_is)
   (case h_n_list=>k_is)
   (case h_n_max=>k_is)
   (case h_n_min=>k_is)
   (case h_n_range=>k_is)
   (case h_n_reversed=>k_is)
   (case h_n_tuple=>k_is)
   (case h_n_zip=>k_is)
   (case h_xBadCell=>k_exc)
   (case h_eBadCell_ga=>k_is)
   (case h_eBadCell_nga=>k_is)
   (case h_eBadCell_at_=>k_is)
   (case h_eBadCell_cls=>k_is)
   (case h_eBadCell_obj=>k_is)
   (case h_eBadCell_base=>k_is)
   (case h_xBadMeasure=>k_exc)
   (case h_eBadMeasure_ga=>k_is)
   (case h_eBadMeasure_nga=>k_is)
   (case h_eBadMeasure_at_=>k_is)
   (case h_eBadMeasure_cls=>k_is)
   (case h_eBadMeasure_obj=>k_is)
   (case h_eBadMeasure_base=>k_is)
   (case h_xBadSign=>k_exc)
   (case h_eBadSign_ga=>k_is)
   (case h_eBadSign_nga=>k_is)
   (case h_eBadSign_at_=>k_is)
   (case h_eBadSign_cls=>k_is)
   (case h_eBadSign_obj=>k_is)
   (case h_eBadSign_base=>k_is)
   (case h_dDIVISOR=>k_is)
   (case h_k_makes=>k_is)
   (case h_k_init=>k_is)
   (case h_k_fn=>k_is)
   (case h_k_kp=>k_is)
   (case h_fi_l=>k_is)
   (case h_fi_c=>k_is)
   (case h_fi_k=>k_is)
   (case h_c_pg=>k_is)
   (case h_c_hd=>k_is)
   (case h_c_po=>k_is)
   (case h_c_sa=>k_is)
   (case h_na_quiet=>k_is)
   (case h_na_side=>k_is)
   (case h_na_done=>k_is)
   (case h_na_unheard=>k_is)
   (case h_na_birth=>k_is)
   (case h_na_known=>k_is)
   (case h_na_pair=>k_is)
   (case h_na_told=>k_is)
   (case h_na_pieces=>k_is)
   (case h_na_offered=>k_is)
   (case h_na_taken=>k_is)
   (case h_me_forget_pieces_at_=>k_is)
   (case h_me_forget_pieces_fn=>k_is)
   (case h_me_forget_pieces_kp=>k_is)
   (case h_f_forget_pieces_l=>k_is)
   (case h_f_forget_pieces_c=>k_is)
   (case h_f_forget_pieces_k=>k_is)
   (case h_me_tick_at_=>k_is)
   (case h_me_tick_fn=>k_is)
   (case h_me_tick_kp=>k_is)
   (case h_f_tick_l=>k_is)
   (case h_f_tick_c=>k_is)
   (case h_f_tick_k=>k_is)
   (case h_me_cell_given_at_=>k_is)
   (case h_me_cell_given_fn=>k_is)
   (case h_me_cell_given_kp=>k_is)
   (case h_f_cell_given_l=>k_is)
   (case h_f_cell_given_c=>k_is)
   (case h_f_cell_given_k=>k_is)
   (case h_me_read_at_=>k_is)
   (case h_me_read_fn=>k_is)
   (case h_me_read_kp=>k_is)
   (case h_f_read_l=>k_is)
   (case h_f_read_c=>k_is)
   (case h_f_read_k=>k_is)
   (case h_me_meet_at_=>k_is)
   (case h_me_meet_fn=>k_is)
   (case h_me_meet_kp=>k_is)
   (case h_f_meet_l=>k_is)
   (case h_f_meet_c=>k_is)
   (case h_f_meet_k=>k_is)
   (case h_me_come_up_at_=>k_is)
   (case h_me_come_up_fn=>k_is)
   (case h_me_come_up_kp=>k_is)
   (case h_f_come_up_l=>k_is)
   (case h_f_come_up_c=>k_is)
   (case h_f_come_up_k=>k_is)
   (case h_me_end_up_at_=>k_is)
   (case h_me_end_up_fn=>k_is)
   (case h_me_end_up_kp=>k_is)
   (case h_f_end_up_l=>k_is)
   (case h_f_end_up_c=>k_is)
   (case h_f_end_up_k=>k_is)
   (case h_me_start_over_at_=>k_is)
   (case h_me_start_over_fn=>k_is)
   (case h_me_start_over_kp=>k_is)
   (case h_f_start_over_l=>k_is)
   (case h_f_start_over_c=>k_is)
   (case h_f_start_over_k=>k_is)
   (case h_me_hear_count_at_=>k_is)
   (case h_me_hear_count_fn=>k_is)
   (case h_me_hear_count_kp=>k_is)
   (case h_f_hear_count_l=>k_is)
   (case h_f_hear_count_c=>k_is)
   (case h_f_hear_count_k=>k_is)
   (case h_me_take_piece_at_=>k_is)
   (case h_me_take_piece_fn=>k_is)
   (case h_me_take_piece_kp=>k_is)
   (case h_f_take_piece_l=>k_is)
   (case h_f_take_piece_c=>k_is)
   (case h_f_take_piece_k=>k_is)
   (case h_me_put_at_=>k_is)
   (case h_me_put_fn=>k_is)
   (case h_me_put_kp=>k_is)
   (case h_f_put_l=>k_is)
   (case h_f_put_c=>k_is)
   (case h_f_put_k=>k_is)
   (case h_me_up_at_=>k_is)
   (case h_me_up_fn=>k_is)
   (case h_me_up_kp=>k_is)
   (case h_f_up_l=>k_is)
   (case h_f_up_c=>k_is)
   (case h_f_up_k=>k_is)
   (case h_me_waits_at_=>k_is)
   (case h_me_waits_fn=>k_is)
   (case h_me_waits_kp=>k_is)
   (case h_f_waits_l=>k_is)
   (case h_f_waits_c=>k_is)
   (case h_f_waits_k=>k_is)
   (case h_me_events_at_=>k_is)
   (case h_me_events_fn=>k_is)
   (case h_me_events_kp=>k_is)
   (case h_f_events_l=>k_is)
   (case h_f_events_c=>k_is)
   (case h_f_events_k=>k_is)
  obtain ⟨t,T⟩:=T
  exact L2.law_site S_law (fun _ _ _ _ _ _ us hl=>match us,hl with | [_],_=>rfl) hmg fun f fd base F=>K34.law_all T F S_is_sign S_look_sign S_look_unit S_power S_inverse S_exponent S_equation S_pivot_place S_exchanged S_lessened S_cleared S_solved S_look_signs S_look_cell S_value_at S_troubles S_is_sealed S_carried S_sealed S_look_late S_look_measure S_is_fit S_quiet_of S_breach S_keeps S_lone_place S_is_root S_turned_places S_turns_at S_mended S_is_readable S_number_signs S_signs_number S_is_told S_is_shown S_broken_by S__law_cell S__law_numbers S__law_measure S__law_turns S__law_fate S__law_turned S__law_give S__law_dead S__law_kept S__law_silent_right S__law_events_right
#print axioms PySem.Challenge.cw_stormpost_k34_whole_silence_is_a_breach_holds
